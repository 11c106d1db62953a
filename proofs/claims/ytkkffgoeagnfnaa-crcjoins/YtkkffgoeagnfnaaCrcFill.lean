/-
  Contracts of the making of the tables (fill), of sync.Once's Do over it, and of More, Sum, Join: whether the tables are made or not, each answers the plain function's number and leaves the tables made once. Conditions: that the table is as New or as one of these calls leaves it.
-/
import Derived.Test.YtkkffgoeagnfnaaCrcMem
import Derived.Test.YtkkffgoeagnfnaaCrcRef
import Derived.Deep.RegionHeld3
import Derived.RegionTactic
import Derived.RegionCalls
import Derived.Deep.QuietTactic
import Derived.BigQuiet
namespace Go.Proofs.Ytkkffgoeagnfnaa
open Go.RowKit Plain

theorem from_int (k : Nat) (h : k < 256) : IntKind.u32.wrap (k : Int) = (k : Int) := by rw [IntKind.wrap_u32']; omega
/-- the bytes behind k rounds, the moves behind k rounds. -/
def tbK (k i : Nat) : Nat := if i < k then tI i 8 else 0
def mvK (k i : Nat) : Nat := if i < k then mv8 i else 0
theorem tbK_step (k i : Nat) : upd (tbK k) k (tI k 8) i = tbK (k + 1) i := by
  unfold upd tbK
  by_cases h : i = k
  · subst h; rw [if_pos rfl, if_pos (by omega)]
  · rw [if_neg h]
    by_cases h1 : i < k
    · rw [if_pos h1, if_pos (by omega)]
    · rw [if_neg h1, if_neg (by omega)]
theorem mvK_step (k i : Nat) : upd (mvK k) k (mv8 k) i = mvK (k + 1) i := by
  unfold upd mvK
  by_cases h : i = k
  · subst h; rw [if_pos rfl, if_pos (by omega)]
  · rw [if_neg h]
    by_cases h1 : i < k
    · rw [if_pos h1, if_pos (by omega)]
    · rw [if_neg h1, if_neg (by omega)]
theorem mv8_step (k : Nat) : prN (mv8 k) (mv8 k) = mv8 (k + 1) := by
  unfold mv8
  rw [prN_pow _ _ (tI_lt _ (by omega) _), ← tI_add]
  congr 1
  rw [Nat.pow_succ]; omega
theorem mv8_lt (k : Nat) : mv8 k < 4294967296 := tI_lt _ (by omega) _
theorem mv8_zero : mv8 0 = 8388608 := by decide +kernel
set_option maxRecDepth 100000 in
set_option maxHeartbeats 2000000 in
theorem fill_any (b : Nat) (d s m : Int) (hm : 0 ≤ m ∧ m < 1000) (w : World) (hF : TabIn w b d s m no0 no0) :
    Calls Try.prog 21 #[.pointer (some ⟨b, 0, none⟩)] w fun e w' => e = .returned (.tuple #[]) ∧ TabIn w' b d s (m + 1) tb8 mv8 ∧ Trd b w w' := by
  go_enter Try.func21, Try.ntmps21
  go_wp2
  go_loopw [5] (fun i wr => ∃ k : Nat, k ≤ 256 ∧ i = .int .i64 k ∧ TabIn wr b d s m (tbK k) no0 ∧ Trd b w wr) (fun i _ => 256 - (intOf i).toNat)
  case atStart => exact ⟨0, by omega, rfl, hF.congr (fun i _ => by unfold tbK; rw [if_neg (by omega)]; rfl) (fun _ _ => rfl), Trd.refl b w⟩
  case round =>
    obtain ⟨k, hk, rfl, hK, hT⟩ := hrel
    by_cases hlt : k < 256
    · have hz := hK.fz
      have hc := hK.cb k hlt
      have HS : Hid (TabIn (wr.drew.setCell ⟨b, 4 + k, none⟩ (.int .u32 (tI k 8 : Nat))) b d s m (tbK (k + 1)) no0) := (hK.drew.setB k _ hlt).congr (fun i _ => tbK_step k i) (fun _ _ => rfl)
      have HT : Hid (Trd b w (wr.drew.setCell ⟨b, 4 + k, none⟩ (.int .u32 (tI k 8 : Nat)))) := hT.drew.setCell _ _
      have hw := from_int k hlt
      have hN := byteOn_any k (by omega) wr.drew
      clear hK hT
      go_wp2_with fail
      go_region_held3 (fun _ => True) (exact True.intro) (first | (go_at_call 19; refine hN.mono ?_; rintro e wn ⟨rfl, rfl⟩))
      all_goals (go_wp2; go_roundw)
      case rel => exact ⟨k + 1, by omega, by go_num, HS.out, HT.out⟩
      case measure => simp [intOf]; omega
    · have hK2 : TabIn wr b d s m tb8 (mvK 0) := hK.congr (fun i hi => by unfold tbK; rw [if_pos (by omega)]; rfl) (fun i _ => by unfold mvK; rw [if_neg (by omega)]; rfl)
      clear hK
      go_wp2
      go_loopw [3, 17] (fun X i wr => ∃ k X' : Nat, k ≤ 63 ∧ i = .int .i64 k ∧ X' = mv8 k ∧ X = .int .u32 X' ∧ TabIn wr b d s m tb8 (mvK k) ∧ Trd b w wr) (fun _ i _ => 63 - (intOf i).toNat)
      case atStart => exact ⟨0, 8388608, by omega, rfl, mv8_zero.symm, rfl, hK2, hT⟩
      case round =>
        clear hK2 hT hk hlt
        generalize k = k0
        obtain ⟨k, X', hk, rfl, hX, rfl, hK, hT⟩ := hrel
        by_cases hlt : k < 63
        · have hz := hK.fz
          have hc := hK.cm k hlt
          have hl : X' < 4294967296 := by rw [hX]; exact mv8_lt k
          have HP : Hid (prN X' X' = mv8 (k + 1)) := by show _ = _; rw [hX]; exact mv8_step k
          have HS : Hid (TabIn (wr.setCell ⟨b, 260 + k, none⟩ (.int .u32 (X' : Nat))) b d s m tb8 (mvK (k + 1))) := (hK.setM k _ hlt).congr (fun _ _ => rfl) (fun i _ => by rw [hX]; exact mvK_step k i)
          have HT : Hid (Trd b w (wr.setCell ⟨b, 260 + k, none⟩ (.int .u32 (X' : Nat)))) := hT.setCell _ _
          clear hK hT hX
          go_wp2_with (go_at_call 25; refine (product_any X' X' hl hl _).mono ?_; rintro e w' ⟨rfl, rfl⟩)
          go_roundw
          case rel => exact ⟨k + 1, prN X' X', by omega, by go_num, HP.out, rfl, HS.out, HT.out⟩
          case measure => simp [intOf]; omega
        · obtain rfl : k = 63 := by omega
          have hK3 : TabIn wr b d s m tb8 mv8 := hK.congr (fun _ _ => rfl) (fun i hi => by unfold mvK; rw [if_pos hi])
          have c3 := hK3.c3
          have z3 := hK3.fz 3
          have HS : Hid (TabIn (wr.setCell ⟨b, 3, none⟩ (.int .i64 (m + 1))) b d s (m + 1) tb8 mv8) := hK3.set3 (m + 1)
          have HT : Hid (Trd b w wr) := hT
          clear hK hK3 hT hX
          go_wp2_with (go_at_call 31; refine (count_add ⟨b, 3, none⟩ m 1 (by omega) (by omega) (by omega) (by omega) _ c3 z3).mono ?_; rintro e w' ⟨rfl, rfl⟩)
          go_end0
          exact ⟨rfl, HS.out, HT.out.setCell _ _⟩

set_option maxRecDepth 100000 in
set_option maxHeartbeats 2000000 in
theorem doSlow_any (b : Nat) (m : Int) (hm : 0 ≤ m ∧ m < 1000) (w : World) (hF : TabIn w b 0 0 m no0 no0) :
    Calls Try.prog 30 #[.pointer (some ⟨b, 0, none⟩), .func (.func 21) #[.pointer (some ⟨b, 0, none⟩)] #[]] w fun e w' => e = .returned (.tuple #[]) ∧ TabIn w' b 1 0 (m + 1) tb8 mv8 ∧ Trd b w w' := by
  have hF1 : TabIn (w.setCell ⟨b, 1, none⟩ (.int .i32 1)) b 0 1 m no0 no0 := hF.set1 1
  have h10 := hF1.c0
  have c1 := hF.c1
  have z1 := hF.fz 1
  have hnot : ∀ (x : Bool) (w : World), (Op.unary .not (.bool x)).run Try.prog w = .ok (.bool (!x)) w := fun _ _ => rfl
  go_enter_defers Try.func30, Try.ntmps30
  go_wp2_with (go_at_call 36; refine (lock_free ⟨b, 1, none⟩ _ c1 z1).mono ?_; rintro e w' ⟨rfl, rfl⟩)
  go_wp2_with fail
  refine (bool_load ⟨b, 0, none⟩ 0 _ h10).mono ?_; rintro e w' ⟨rfl, rfl⟩
  go_wp2_with fail
  refine (fill_any b 0 1 m hm _ hF1).mono ?_; rintro e w2 ⟨rfl, hF2, hT⟩
  go_wp2
  have hF3 : TabIn (w2.drew.setCell ⟨b, 0, none⟩ (.int .u32 1)) b 1 1 (m + 1) tb8 mv8 := hF2.drew.set0 1
  refine leaves_cons (f := 38) (args := #[.pointer (some ⟨b, 0, none⟩), .bool true]) (by simp) (by simp [go_sem]) ?_
  refine (store_deferred ⟨b, 0, none⟩ (.int .u32 0) .returning _ hF2.c0 (hF2.fz 0)).mono ?_
  rintro e u' w3 ⟨rfl, rfl, rfl⟩
  refine leaves_cons (f := 37) (args := #[.pointer (some ⟨b, 1, none⟩)]) (by simp [settle]) (by simp [go_sem]) ?_
  refine (unlock_deferred ⟨b, 1, none⟩ _ _ hF3.c1 (hF3.fz 1)).mono ?_
  rintro e u' w3 ⟨rfl, rfl, rfl⟩
  have hT2 : Trd b w ((w2.drew.setCell ⟨b, 0, none⟩ (.int .u32 1)).setCell ⟨b, 1, none⟩ (.int .i32 0)) :=
    ((((((Trd.refl b w).setCell 1 (.int .i32 1)).trans hT).drew).setCell _ _).setCell _ _)
  have hF4 := hF3.set1 0
  simp [Leaves, settle, results, Try.results30]
  exact ⟨hF4, hT2⟩

set_option maxRecDepth 100000 in
set_option maxHeartbeats 1600000 in
theorem do_first (b : Nat) (m : Int) (hm : 0 ≤ m ∧ m < 1000) (w : World) (hF : TabIn w b 0 0 m no0 no0) :
    Calls Try.prog 20 #[.pointer (some ⟨b, 0, none⟩), .func (.func 21) #[.pointer (some ⟨b, 0, none⟩)] #[]] w fun e w' => e = .returned (.tuple #[]) ∧ TabIn w' b 1 0 (m + 1) tb8 mv8 ∧ Trd b w w' := by
  have c0 := hF.c0
  have hnot : ∀ (x : Bool) (w : World), (Op.unary .not (.bool x)).run Try.prog w = .ok (.bool (!x)) w := fun _ _ => rfl
  go_enter Try.func20, Try.ntmps20
  go_wp2_with fail
  refine (bool_load ⟨b, 0, none⟩ 0 _ c0).mono ?_; rintro e w' ⟨rfl, rfl⟩
  go_wp2_with fail
  refine (doSlow_any b m hm _ hF).mono ?_; rintro e w2 ⟨rfl, hF2, hT⟩
  go_wp2
  go_end0
  exact ⟨rfl, hF2, hT⟩

/-- done already: the function is not called. -/
theorem do_done (a : Addr) (d : Int) (hd : ¬ d = 0) (fv : Value) (w : World) (h0 : w.cell? a = some (.int .u32 d)) :
    Calls Try.prog 20 #[.pointer (some a), fv] w fun e w' => e = .returned (.tuple #[]) ∧ w' = w := by
  have hnot : ∀ (x : Bool) (w : World), (Op.unary .not (.bool x)).run Try.prog w = .ok (.bool (!x)) w := fun _ _ => rfl
  have hd' : (d != 0) = true := by simp [hd]
  go_enter Try.func20, Try.ntmps20
  go_wp2_with fail
  refine (bool_load _ d _ h0).mono ?_; rintro e w' ⟨rfl, rfl⟩
  go_wp2
  go_end0
  exact ⟨rfl, rfl⟩
/-- .. and where the tables are made already, nothing but draws. -/
structure Tr2 (b : Nat) (w w' : World) : Prop where
  trd : Trd b w w'
  kp : Ready w b → Kp w w'
theorem Tr2.drew {b : Nat} {w w' : World} (h : Tr2 b w w') : Tr2 b w w'.drew := ⟨h.trd.drew, fun r => (h.kp r).drew⟩
theorem not_both {w : World} {b : Nat} (h : Fresh w b) (r : Ready w b) : False := by
  have h1 := h.c0.symm.trans r.c0
  simp at h1
theorem do_any (b : Nat) (w : World) (h : Fresh w b ∨ Ready w b) :
    Calls Try.prog 20 #[.pointer (some ⟨b, 0, none⟩), .func (.func 21) #[.pointer (some ⟨b, 0, none⟩)] #[]] w fun e w' => e = .returned (.tuple #[]) ∧ Ready w' b ∧ Tr2 b w w' := by
  rcases h with h | h
  · refine (do_first b 0 (by omega) w h).mono ?_
    rintro e w' ⟨rfl, hR, hT⟩
    exact ⟨rfl, hR, hT, fun r => (not_both h r).elim⟩
  · refine (do_done ⟨b, 0, none⟩ 1 (by omega) _ w h.c0).mono ?_
    rintro e w' ⟨rfl, rfl⟩
    exact ⟨rfl, h, Trd.refl b w', fun _ => Kp.refl w'⟩

end Go.Proofs.Ytkkffgoeagnfnaa
