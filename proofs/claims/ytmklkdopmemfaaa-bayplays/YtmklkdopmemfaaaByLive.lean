/-
  Rows of one cell each, of the call's own; a contract of a bay's Live. Conditions: that the bay lies in memory.
-/
import Derived.Test.YtmklkdopmemfaaaByNew
import Derived.Maps.AppendAt
namespace Go.Proofs.Ytmklkdopmemfaaa
open Go.RowKit Plain
set_option linter.unusedVariables false

def OR (w : World) (base : Nat) (e : TypeId) (v : Value) (xs : List Value) : Prop := w.ownsRow base e 1 v xs.length xs
theorem Sp.grown {a b : World} {row : Option Nat} (g : a.grownBy b row) : Sp row.toList a b := ⟨g.os, g.tape, g.output, g.size, fun k hk hn => g.block k hk (fun e => hn (by rw [← e]; simp))⟩
theorem OR.sp {w w' : World} {base : Nat} {e : TypeId} {v : Value} {xs : List Value} (h : OR w base e v xs) {T : List Nat} (k : Sp T w w') (hT : ∀ t, t ∈ T → t < base) : OR w' base e v xs := k.own h (fun g hg ht => by have := (World.ownsRow.lt h g hg).1; have := hT g ht; omega)
theorem OR.kp {w w' : World} {base : Nat} {e : TypeId} {v : Value} {xs : List Value} (h : OR w base e v xs) (k : Kp w w') : OR w' base e v xs := (k.sp []).own h (fun _ _ => by simp)
theorem OR.shape {w : World} {base : Nat} {e : TypeId} {v : Value} {xs : List Value} (h : OR w base e v xs) : ∃ a g cap, v = .slice a xs.length cap ∧ xs.length ≤ cap ∧ cap ≤ 9223372036854775807 ∧ (0 < xs.length → a = some ⟨g, 0, none⟩ ∧ base ≤ g ∧ g < w.heap.size) ∧ ∀ j, j < xs.length → w.cell? ⟨g, j, none⟩ = xs[j]? := by
  rcases h.2 with ⟨rfl, h0⟩ | ⟨g, cap, cur, rfl, hb, hg, hn, hm, _⟩
  · exact ⟨none, 0, 0, by rw [h0], by omega, by omega, fun h => absurd h (by omega), fun j hj => absurd hj (by omega)⟩
  · unfold maxLen at hm
    exact ⟨_, g, cap, rfl, hn, by omega, fun _ => ⟨rfl, hb, (Array.getElem?_eq_some_iff.1 hg).1⟩, fun j hj => World.ownsRow.cellAt h j (by omega)⟩
theorem wpList_append_or {w : World} {ops : Array Oper} {rest : List Oper} {o : Oper} {a : Act} {Q : Exit → Act → World → Prop} (hgd : o.guard = none) (s x : Operand) (t e : TypeId) (z : Value) (bytes : Nat) (ht : Try.prog.underlying t = some (.slice e))
    (hinfo : (Try.prog.info? e).map (fun i => (i.zero, i.size, i.bytes)) = some (some z, 1, bytes)) (hzs : z.cells.size = 1) (hby : bytes ≤ 64)
    (ho : o.op = .call { callee := .builtin .append, args := #[s, x], argTypes := #[t, t] })
    (base : Nat) (v : Value) (xs : List Value) (hs : a.eval s = v) (hown : OR w base e v xs) (p : Value) (hp : p.oneCell' = true) (k : Nat) (hx : a.eval x = .slice (some ⟨k, 0, none⟩) 1 1) (hc : w.cell? ⟨k, 0, none⟩ = some p)
    (hlen : xs.length + 1 ≤ 1099511627776) (hbase : base ≤ w.heap.size)
    (h : ∀ v' w', OR w' base e v' (xs ++ [p]) → w.grownBy w' v.ownBlock → wpList Try.prog ops Q rest (a.put o.dst v') w') : wpList Try.prog ops Q (o :: rest) a w := by
  obtain ⟨i0, hi, hz0, hz1, hz2⟩ := info_parts hinfo
  refine wpList_append_own_at w hgd s x t ho base e i0 z 1 bytes ht hi hz0 hz1 hz2 hzs (by decide) v xs.length xs hs hown ⟨k, 0, none⟩ 1 1 [p] hx rfl ?_ (by simpa using hp) (by unfold maxLen; omega) ?_ hbase (fun v' w' h1 h2 _ _ => h v' w' ?_ h2)
  · intro j u hj
    match j, hj with
    | 0, hj => simp at hj; subst hj; simpa [Addr.add] using hc
  · have h1 : (xs.length + 1) * bytes ≤ (xs.length + 1) * 64 := Nat.mul_le_mul_left _ hby
    omega
  · unfold OR
    rw [List.length_append]
    exact h1

/-! ### Dead, at the member's own blocks -/
theorem dead_same {w : World} {b bn bl : Nat} {rv : Value} {S : MS} (h : MemIn w b bn bl rv S 0 0) : Calls Try.prog 52 #[.pointer (some ⟨b, 0, none⟩)] w fun e w' => e = .returned (.bool S.dead) ∧ MemIn w' b bn bl rv S 0 0 ∧ Sp (blk b bn bl rv) w w' := by
  go_enter_defers Try.func52, Try.ntmps52
  go_wp2_with fail
  refine (rlock_any h).mono ?_
  rintro e w1 ⟨rfl, h1, k1⟩
  have cD := h1.cD
  go_wp2_with fail
  refine leaves_cons (f := 41) (args := #[.pointer (some ⟨b, 4, none⟩)]) (by simp) (by simp [go_sem]) ?_
  refine (runlock_any h1 .returning).mono ?_
  rintro e u' w2 ⟨rfl, rfl, h2, k2⟩
  exact ⟨_, results_tmp rfl _ _ _, rfl, h2, (k1.trans k2).b⟩
theorem ow_dead2 {w0 w : World} {b : Nat} {T : List Nat} {S : MS} (h : Ow w0 w b T S) : Calls Try.prog 52 #[.pointer (some ⟨b, 0, none⟩)] w fun e w' => e = .returned (.bool S.dead) ∧ Ow w0 w' b T S ∧ Sp T w w' := by
  obtain ⟨bn, bl, rv, rfl, h1, h2⟩ := h
  exact (dead_same h1).mono fun e w' ⟨he, hm, hs⟩ => ⟨he, ⟨bn, bl, rv, rfl, hm, h2⟩, hs⟩
/-- one of its members, and a call that leaves it as it is. -/
theorem BX.still {w0 w : World} {b m : Nat} {X F : List Nat} {B : BS} (h : BX w0 w b m X F B) (i : Nat) (hi : i < B.ms.length) : ∃ P, (∀ t, t ∈ P → t ∈ F) ∧ Ow w0 w (X.getD i 0) P (B.ms.getD i noM) ∧ ∀ w', Ow w0 w' (X.getD i 0) P (B.ms.getD i noM) → Sp P w w' → BX w0 w' b m X F B := by
  obtain ⟨P, p1, p2, p3⟩ := h.fam.same OL.ow noM i hi
  refine ⟨P, p1, p2, fun w' q1 q2 => ?_⟩
  have q := q2.mono p1
  exact ⟨h.p.sp q h.n1, Nat.lt_of_lt_of_le h.hm q.size, fun j hj => q.held (h.ar j hj) h.n2, p3 w' q1 q2, h.n1, h.n2, h.n3, h.n4, h.n5, h.gd⟩

/-! ### Live -/
def vn (L : List Nat) : List Value := L.map (fun (n : Nat) => Value.int .i64 ((n : Nat) : Int))
theorem vn_len (L : List Nat) : (vn L).length = L.length := by simp [vn]
theorem vn_at (L : List Nat) (j : Nat) (h : j < L.length) : (vn L)[j]? = some (.int .i64 ((L.getD j 0 : Nat) : Int)) := by
  simp [vn, h]
/-- the numbers that Live tells. -/
def Lv (W w : World) (v : Value) (L : List Nat) : Prop := ∃ a g cap, v = .slice a L.length cap ∧ L.length ≤ cap ∧ cap ≤ 9223372036854775807 ∧ (0 < L.length → a = some ⟨g, 0, none⟩ ∧ W.heap.size ≤ g ∧ g < w.heap.size) ∧ ∀ j, j < L.length → w.cell? ⟨g, j, none⟩ = some (.int .i64 ((L.getD j 0 : Nat) : Int))
theorem Lv.of {W w : World} {v : Value} {L : List Nat} {e : TypeId} (h : OR w W.heap.size e v (vn L)) : Lv W w v L := by
  obtain ⟨a, g, cap, h1, h2, h3, h4, h5⟩ := h.shape
  rw [vn_len] at h1 h2 h4 h5
  exact ⟨a, g, cap, h1, h2, h3, h4, fun j hj => (h5 j hj).trans (vn_at L j hj)⟩
theorem Lv.sp {W w w' : World} {v : Value} {L : List Nat} (h : Lv W w v L) {T : List Nat} (k : Sp T w w') (hT : ∀ t, t ∈ T → t < W.heap.size ∨ w.heap.size ≤ t) : Lv W w' v L := by
  obtain ⟨a, g, cap, h1, h2, h3, h4, h5⟩ := h
  refine ⟨a, g, cap, h1, h2, h3, fun h0 => ⟨(h4 h0).1, (h4 h0).2.1, Nat.lt_of_lt_of_le (h4 h0).2.2 k.size⟩, fun j hj => k.held (h5 j hj) (fun ht => ?_)⟩
  have := h4 (by omega)
  have := hT g ht
  omega
theorem lv_more (L : List MS) (k : Nat) (h : k < L.length) (hd : (L.getD k noM).dead = false) : vn (lvL 0 (L.take (k + 1))) = vn (lvL 0 (L.take k)) ++ [.int .i64 (k : Int)] := by
  rw [lvL_take L k h, hd, if_neg (by decide)]
  simp [vn]
theorem lv_less (L : List MS) (k : Nat) (h : k < L.length) (hd : (L.getD k noM).dead = true) : vn (lvL 0 (L.take (k + 1))) = vn (lvL 0 (L.take k)) := by
  rw [lvL_take L k h, hd, if_pos rfl]

set_option maxRecDepth 100000 in
set_option maxHeartbeats 1000000 in
theorem live_any {w0 w : World} {b m : Nat} {X F : List Nat} {B : BS} (h : BX w0 w b m X F B) : Calls Try.prog 25 #[.pointer (some ⟨b, 0, none⟩)] w fun e w' => ∃ v, e = .returned v ∧ Lv w w' v (lvL 0 B.ms) ∧ BX w0 w' b m X F B ∧ Sp (b :: m :: F) w w' := by
  have c3 := h.p.c3
  obtain ⟨s1, s2⟩ := h.size
  obtain ⟨n, hn⟩ : ∃ n, n = B.ms.length := ⟨_, rfl⟩
  rw [← hn] at c3 s1 s2
  have HN := hid hn
  have H := hid h
  have HT : Hid (∀ t, t ∈ b :: m :: F → t < w.heap.size) := h.low
  clear hn h
  go_enter Try.func25, Try.ntmps25
  go_wp2_with fail
  go_loopw [3, 13] (fun v i wr => ∃ k : Nat, k ≤ n ∧ i = .int .i64 k ∧ Hid (OR wr w.heap.size 3 v (vn (lvL 0 (B.ms.take k)))) ∧ Hid (BX w0 wr b m X F B) ∧ Hid (Sp (b :: m :: F) w wr)) (fun _ i _ => n - (intOf i).toNat)
  case atStart => exact ⟨0, by omega, by go_num, World.ownsRow_nil _ _ _ _, H, Sp.refl _ _⟩
  case round =>
    clear H c3
    obtain ⟨k, hk, rfl, HO, HX, HS⟩ := hrel
    by_cases hlt : k < n
    · have hk2 : k < B.ms.length := by rw [← HN.out]; exact hlt
      have ar := HX.out.ar k hk2
      obtain ⟨P, p1, p2, p3⟩ := HX.out.still k hk2
      have hd := ow_dead2 p2
      have HP3 := hid p3
      have HP1 := hid p1
      clear p1 p2 p3
      go_wp2_with fail
      refine hd.mono ?_
      rintro e w1 ⟨rfl, o1, k1⟩
      have x1 := HP3.out w1 o1 k1
      have k1F : Sp (b :: m :: F) wr w1 := k1.mono (fun t ht => by simp [HP1.out t ht])
      have HX1 := hid x1
      have HS1 : Hid (Sp (b :: m :: F) w w1) := HS.out.trans k1F
      have HO1 : Hid (OR w1 w.heap.size 3 u3 (vn (lvL 0 (B.ms.take k)))) := HO.out.sp k1F HT.out
      clear x1 k1F k1 o1 HX HS HO HP3 HP1 ar
      cases hdd : (B.ms.getD k noM).dead with
      | true =>
        have e1 := lv_less B.ms k hk2 hdd
        have HO2 : Hid (OR w1 w.heap.size 3 u3 (vn (lvL 0 (B.ms.take (k + 1))))) := by rw [e1]; exact HO1
        clear e1 hdd HO1
        go_wp2
        go_roundw
        case rel => exact ⟨k + 1, by omega, by go_num, HO2, HX1, HS1⟩
        case measure => simp [intOf]; omega
      | false =>
        have e1 := lv_more B.ms k hk2 hdd
        have HL : Hid ((vn (lvL 0 (B.ms.take k))).length ≤ 32) := by
          have := lvL_len (B.ms.take k) 0
          rw [List.length_take] at this
          show (vn (lvL 0 (B.ms.take k))).length ≤ 32
          rw [vn_len]; omega
        have hs1 := HS1.out.size
        have HE := hid e1
        clear e1 hdd
        go_wp2_with (at_builtin; refine wpList_append_or rfl _ _ 58 3 (.int .i64 0) 8 Try.underlying58 info_int rfl (by omega) rfl w.heap.size _ _ rfl (HO1.out.kp ((Kp.refl w1).alloc (.cells #[.int .i64 (k : Int)] 3))) (.int .i64 (k : Int)) rfl _ rfl (by rw [World.cell?_alloc_at _ _ _ _ rfl]; rfl) (by have := HL.out; omega) (by simp; omega) ?_)
        intro v' w3 ho3 hg3
        have HO3 : Hid (OR w3 w.heap.size 3 v' (vn (lvL 0 (B.ms.take (k + 1))))) := by rw [HE.out]; exact ho3
        have sp3 : Sp (u3.ownBlock.toList) w1 w3 := (((Kp.refl w1).alloc (.cells #[.int .i64 (k : Int)] 3)).sp _).trans (Sp.grown hg3)
        have far : ∀ t, t ∈ b :: m :: F → t ∉ u3.ownBlock.toList := fun t ht hm => by
          have h1 := (World.ownsRow.lt HO1.out t (by simpa using hm)).1
          have := HT.out t ht
          omega
        have HX3 : Hid (BX w0 w3 b m X F B) := HX1.out.sp sp3 far
        have HS3 : Hid (Sp (b :: m :: F) w w3) := by
          have q := HS1.out
          exact ⟨sp3.os.trans q.os, sp3.tape.trans q.tape, sp3.output.trans q.output, Nat.le_trans q.size sp3.size, fun i hi hT => (sp3.block i (Nat.lt_of_lt_of_le hi q.size) (fun hm => by
            have h1 := (World.ownsRow.lt HO1.out i (by simpa using hm)).1
            omega)).trans (q.block i hi hT)⟩
        clear ho3 hg3 sp3 far HO1 HX1 HS1 HE HL
        go_wp2
        go_roundw
        case rel => exact ⟨k + 1, by omega, by go_num, HO3, HX3, HS3⟩
        case measure => simp [intOf]; omega
    · obtain rfl : k = n := by omega
      go_wp2
      go_ret
      refine ⟨_, rfl, ?_, HX.out, HS.out⟩
      have := Lv.of HO.out
      rw [List.take_of_length_le (by rw [HN.out]; omega)] at this
      exact this
theorem bw_live {w0 w : World} {b : Nat} {T : List Nat} {B : BS} (h : Bw w0 w b T B) : Calls Try.prog 25 #[.pointer (some ⟨b, 0, none⟩)] w fun e w' => ∃ v, e = .returned v ∧ Lv w w' v (lvL 0 B.ms) ∧ Bw w0 w' b T B ∧ Sp T w w' := by
  obtain ⟨m, X, F, rfl, h1⟩ := h
  exact (live_any h1).mono fun e w' ⟨v, he, hl, hb, hs⟩ => ⟨v, he, hl, ⟨m, X, F, rfl, hb⟩, hs⟩

end Go.Proofs.Ytmklkdopmemfaaa
