/-
  A contract of Waiting; what a nil member answers. Conditions: that the member lies in memory, its lock free; few writes wait.
-/
import Derived.Test.YtmklkdopmemfaaaMmCrash
namespace Go.Proofs.Ytmklkdopmemfaaa
open Go.RowKit Plain
set_option linter.unusedVariables false

theorem info_int : (Try.prog.info? 3).map (fun i => (i.zero, i.size, i.bytes)) = some (some (.int .i64 0), 1, 8) := by kernel_rfl
/-- numbers in a block. -/
structure Nm (w : World) (g n : Nat) (f : Nat → Int) : Prop where
  c : ∀ i, i < n → w.cell? ⟨g, i, none⟩ = some (.int .i64 (f i))
  z : ∀ i, i < n → w.frozen? ⟨g, i, none⟩ = false
theorem Nm.kp {w w' : World} {g n : Nat} {f : Nat → Int} (h : Nm w g n f) (k : Kp w w') : Nm w' g n f := ⟨fun i hi => k.held (h.c i hi), fun i hi => (Below.frozen (p := ⟨g, i, none⟩) k (World.block_lt_of_cell? w _ (h.c i hi))).trans (h.z i hi)⟩
theorem Nm.set {w : World} {g n : Nat} {f : Nat → Int} (h : Nm w g n f) (j : Nat) (x : Int) : Nm (w.setCell ⟨g, j, none⟩ (.int .i64 x)) g n (fun i => if i = j then x else f i) :=
  ⟨fun i hi => by
    by_cases e : i = j
    · subst e; show _ = some (Value.int .i64 (if i = i then x else f i)); rw [if_pos rfl]; exact World.cell?_setCell_same _ _ _ (h.c i hi)
    · show _ = some (Value.int .i64 (if i = j then x else f i)); rw [if_neg e, cell_off _ _ _ _ _ e]; exact h.c i hi, fun i hi => (World.frozen?_setCell _ _ _ _).trans (h.z i hi)⟩
theorem Nm.congr {w : World} {g n : Nat} {f f' : Nat → Int} (h : Nm w g n f) (e : ∀ i, i < n → f i = f' i) : Nm w g n f' := ⟨fun i hi => by rw [← e i hi]; exact h.c i hi, h.z⟩
theorem Nm.made (w : World) (n : Nat) : Nm (w.alloc (.cells (madeCells #[.int .i64 0] n) 3)) w.heap.size n (fun _ => 0) :=
  ⟨fun i hi => by rw [World.cell?_alloc_at _ _ _ _ rfl]; simp [madeCells, hi, Nat.mod_one], fun i hi => World.frozen?_alloc_at _ _ _ _ rfl⟩
def atF (r : List (Nat × ByteArray)) (k : Nat) : Nat → Int := fun i => if i < k then ((r.getD i (0, noS)).1 : Int) else 0
set_option maxRecDepth 100000 in
set_option maxHeartbeats 1000000 in
theorem waiting_any {w : World} {b bn bl : Nat} {rv : Value} {S : MS} (h : MemIn w b bn bl rv S 0 0) (hrl : S.row.length < 1000000) : Calls Try.prog 24 #[.pointer (some ⟨b, 0, none⟩)] w fun e w' => ∃ g, e = .returned (.slice (some ⟨g, 0, none⟩) S.row.length S.row.length) ∧ Nm w' g S.row.length (fun i => ((S.row.getD i (0, noS)).1 : Int)) ∧ Md w w' b bn bl rv S ∧ w.heap.size ≤ g := by
  obtain ⟨a, cap, rfl, hn1, hn2⟩ := h.rw.len
  obtain ⟨n, hn⟩ : ∃ n, n = S.row.length := ⟨_, rfl⟩
  rw [← hn] at h hn1 hrl ⊢
  have HN := hid hn
  clear hn
  have hmk := fun W => run_make_row' (P := Try.prog) 58 3 (.int .i64 0) 8 Try.underlying58 info_int rfl .i64 .i64 n (by omega) (by omega) W
  go_enter_defers Try.func24, Try.ntmps24
  go_wp2_with fail
  refine (rlock_any h).mono ?_
  rintro e w1 ⟨rfl, h1, k1⟩
  have cR := h1.cR
  have hb1 := h1.hb
  have H1 := hid h1
  obtain ⟨W, hW⟩ : ∃ W, W = w1.alloc (.cells (madeCells #[.int .i64 0] n) 3) := ⟨_, rfl⟩
  have NM := Nm.made w1 n
  rw [← hW] at NM
  have kW : Kp w1 W := by rw [hW]; exact (Kp.refl w1).alloc _
  obtain ⟨G, hG⟩ : ∃ G, G = w1.heap.size := ⟨_, rfl⟩
  rw [← hG] at NM
  have hG2 : w1.heap.size ≤ G := by omega
  have HW := hid hW
  have HG := hid hG
  have cR2 := kW.held cR
  clear hW hG h h1
  have HNM := hid NM
  have HKW := hid kW
  clear NM kW
  go_wp2_with fail
  rw [← HW.out, ← HG.out]
  clear hmk cR HW
  go_loopw [26] (fun i wr => ∃ k : Nat, k ≤ n ∧ i = .int .i64 k ∧ Hid (Nm wr G n (atF S.row k)) ∧ Hid (Kp w1 wr)) (fun i _ => n - (intOf i).toNat)
  case atStart => exact ⟨0, by omega, by go_num, HNM.out.congr (fun i hi => rfl), HKW⟩
  case round =>
    clear HNM HKW cR2
    obtain ⟨k, hk, rfl, HM, HK⟩ := hrel
    by_cases hlt : k < n
    · have hks : k < S.row.length := by rw [← HN.out]; exact hlt
      have hM := H1.out.kp HK.out
      obtain ⟨g, cap', hv, _, _, _, hrg⟩ := hM.rw.some (by omega)
      obtain rfl : a = some ⟨g, 0, none⟩ := by simp only [Value.slice.injEq] at hv; exact hv.1
      have hr := hrg k hks
      have hp2 := hM.rw.z (S.row.getD k (0, noS)) (by rw [List.getD_eq_getElem?_getD, List.getElem?_eq_getElem hks]; exact List.getElem_mem hks)
      obtain ⟨p, hp⟩ : ∃ p, p = S.row.getD k (0, noS) := ⟨_, rfl⟩
      rw [← hp] at hr hp2
      have HP := hid hp
      have HR := hid hr
      clear hp hr hrg hv hM
      go_wp2_with (first | refine wpList_load_w rfl _ rfl g (k * 65) rfl p hp2 HR.out ?_ | refine wpList_store_new rfl _ _ rfl p hp2 _ rfl rfl rfl ?_)
      intro w2 k2 V2 hl2
      have va := V2.at
      have NM2 := HM.out.kp k2
      have cG := NM2.c k hlt
      have zG := NM2.z k hlt
      have NM3 : Nm (w2.setCell ⟨G, k, none⟩ (.int .i64 (p.1 : Int))) G n (atF S.row (k + 1)) := (NM2.set k (p.1 : Int)).congr (fun i hi => by
        unfold atF
        by_cases e : i = k
        · subst e; rw [if_pos rfl, if_pos (by omega), HP.out]
        · by_cases e2 : i < k
          · rw [if_neg e, if_pos e2, if_pos (by omega)]
          · rw [if_neg e, if_neg e2, if_neg (by omega)])
      have KK : Kp w1 (w2.setCell ⟨G, k, none⟩ (.int .i64 (p.1 : Int))) := (HK.out.trans k2).set G k hG2 _
      have HN3 := hid NM3
      have HK3 := hid KK
      obtain ⟨K, hKK⟩ : ∃ K, K = wr.heap.size := ⟨_, rfl⟩
      rw [← hKK] at va ⊢
      obtain ⟨x, hx⟩ : ∃ x : Int, x = (p.1 : Int) := ⟨_, rfl⟩
      rw [← hx] at va HN3 HK3
      clear hKK hx NM2 NM3 KK k2 V2 hl2 HM HK HR HP
      go_wp2
      go_roundw
      case rel => exact ⟨k + 1, by omega, by go_num, HN3, HK3⟩
      case measure => simp [intOf]; omega
    · obtain rfl : k = n := by omega
      have hM := H1.out.kp HK.out
      go_wp2
      refine leaves_cons (f := 41) (args := #[.pointer (some ⟨b, 4, none⟩)]) (by simp) (by simp [go_sem]) ?_
      refine (runlock_any hM .returning).mono ?_
      rintro e u' w9 ⟨rfl, rfl, h9, k9⟩
      have hGb : G ∉ [b] := by
        have := H1.out.hb
        simp; omega
      refine ⟨_, results_tmp rfl _ _ _, G, rfl, ?_, Md.same h9 ((k1.trans (HK.out.sp _)).trans k9).b, Nat.le_trans k1.size hG2⟩
      have hNM := HM.out
      refine ⟨fun i hi => ?_, fun i hi => ?_⟩
      · rw [k9.held (hNM.c i hi) hGb]; unfold atF; rw [if_pos hi]
      · exact (k9.frozen (World.block_lt_of_cell? _ _ (hNM.c i hi)) hGb i).trans (hNM.z i hi)

end Go.Proofs.Ytmklkdopmemfaaa
