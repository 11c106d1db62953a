/-
  A reader and the document's bay side by side, with lists and cells of the call's own that their calls leave as they are: contracts. Conditions: that they lie in memory.
-/
import Derived.Test.YtonooelffokfkaaGreatDoorZRwPrs
namespace Go.Proofs.YtonooelffokfkaaGreatDoor
open Go.RowKit Plain
set_option linter.unusedVariables false

/-- cells that hold, in none of F's blocks. -/
def Cs (V : World) (F : List Nat) (l : List (Nat × Nat × Value)) : Prop := ∀ x, x ∈ l → x.1 ∉ F ∧ V.cell? ⟨x.1, x.2.1, none⟩ = some x.2.2
structure Sx (W : World) (r b f g y n : Nat) (B : BS) (lS : List (Value × List ByteArray)) (lI : List (Value × List Int)) (lC : List (Nat × Nat × Value)) (F : List Nat) (V : World) : Prop where
  rp : Rp W V r b f g y n B F
  k : Kp W V
  s : ∀ x, x ∈ lS → Fs V F x.1 x.2
  i : ∀ x, x ∈ lI → Fi V F x.1 x.2
  c : Cs V F lC
def Sy (W : World) (r b f g y n : Nat) (B : BS) (lS : List (Value × List ByteArray)) (lI : List (Value × List Int)) (lC : List (Nat × Nat × Value)) (V : World) : Prop := ∃ F, Sx W r b f g y n B lS lI lC F V

section
variable {W V V' : World} {r b f g y n n' : Nat} {B : BS} {lS : List (Value × List ByteArray)} {lI : List (Value × List Int)} {lC : List (Nat × Nat × Value)} {F F' : List Nat}
theorem Sx.ps (h : Sx W r b f g y n B lS lI lC F V) (rp : Rp W V' r b f g y n' B F') (p : Ps W V V' F F') : Sx W r b f g y n' B lS lI lC F' V' :=
  ⟨rp, p.2.2, fun x hx => (h.s x hx).ps p, fun x hx => (h.i x hx).ps p, fun x hx => ⟨nw_out p.2.1 (World.block_lt_of_cell? _ _ (h.c x hx).2) (h.c x hx).1, p.1.held (h.c x hx).2 (h.c x hx).1⟩⟩
theorem Sx.kp (h : Sx W r b f g y n B lS lI lC F V) (k : Kp V V') : Sx W r b f g y n B lS lI lC F V' :=
  ⟨h.rp.kp k, h.k.trans k, fun x hx => (h.s x hx).kp k, fun x hx => (h.i x hx).kp k, fun x hx => ⟨(h.c x hx).1, k.held (h.c x hx).2⟩⟩
theorem Sx.addS (h : Sx W r b f g y n B lS lI lC F V) {v : Value} {l : List ByteArray} (a : Fs V F v l) : Sx W r b f g y n B ((v, l) :: lS) lI lC F V :=
  ⟨h.rp, h.k, fun x hx => (List.mem_cons.1 hx).elim (fun e => by subst e; exact a) (h.s x), h.i, h.c⟩
theorem Sx.addI (h : Sx W r b f g y n B lS lI lC F V) {v : Value} {l : List Int} (a : Fi V F v l) : Sx W r b f g y n B lS ((v, l) :: lI) lC F V :=
  ⟨h.rp, h.k, h.s, fun x hx => (List.mem_cons.1 hx).elim (fun e => by subst e; exact a) (h.i x), h.c⟩
theorem Sx.addC (h : Sx W r b f g y n B lS lI lC F V) {c o : Nat} {v : Value} (h1 : c ∉ F) (h2 : V.cell? ⟨c, o, none⟩ = some v) : Sx W r b f g y n B lS lI ((c, o, v) :: lC) F V :=
  ⟨h.rp, h.k, h.s, h.i, fun x hx => (List.mem_cons.1 hx).elim (fun e => by subst e; exact ⟨h1, h2⟩) (h.c x)⟩
theorem Sx.out (h : Sx W r b f g y n B lS lI lC F V) {c : Nat} (hc : V.heap.size ≤ c) : c ∉ F := fun hm => by have := h.rp.low c hm; omega
theorem Sx.new2 (h : Sx W r b f g y n B lS lI lC F V) (v0 v1 : Value) (t : TypeId) : Sx W r b f g y n B lS lI ((V.heap.size, 0, v0) :: (V.heap.size, 1, v1) :: lC) F (V.alloc (.cells #[v0, v1] t)) :=
  ((h.kp ((Kp.refl V).alloc _)).addC (h.out (Nat.le_refl _)) (by rw [World.cell?_alloc_at _ _ _ _ rfl]; rfl)).addC (h.out (Nat.le_refl _)) (by rw [World.cell?_alloc_at _ _ _ _ rfl]; rfl)
theorem Sx.new4 (h : Sx W r b f g y n B lS lI lC F V) (v0 v1 v2 v3 : Value) (t : TypeId) : Sx W r b f g y n B lS lI ((V.heap.size, 0, v0) :: (V.heap.size, 1, v1) :: (V.heap.size, 2, v2) :: (V.heap.size, 3, v3) :: lC) F (V.alloc (.cells #[v0, v1, v2, v3] t)) :=
  ((((h.kp ((Kp.refl V).alloc _)).addC (h.out (Nat.le_refl _)) (by rw [World.cell?_alloc_at _ _ _ _ rfl]; rfl)).addC (h.out (Nat.le_refl _)) (by rw [World.cell?_alloc_at _ _ _ _ rfl]; rfl)).addC (h.out (Nat.le_refl _)) (by rw [World.cell?_alloc_at _ _ _ _ rfl]; rfl)).addC (h.out (Nat.le_refl _)) (by rw [World.cell?_alloc_at _ _ _ _ rfl]; rfl)
theorem Sx.less {lC' : List (Nat × Nat × Value)} {lS' : List (Value × List ByteArray)} {lI' : List (Value × List Int)} (h : Sx W r b f g y n B lS lI lC F V) (h1 : ∀ x, x ∈ lS' → x ∈ lS) (h2 : ∀ x, x ∈ lI' → x ∈ lI) (h3 : ∀ x, x ∈ lC' → x ∈ lC) : Sx W r b f g y n B lS' lI' lC' F V :=
  ⟨h.rp, h.k, fun x hx => h.s x (h1 x hx), fun x hx => h.i x (h2 x hx), fun x hx => h.c x (h3 x hx)⟩
theorem Sx.at (h : Sx W r b f g y n B lS lI lC F V) {c o : Nat} {v : Value} (hm : (c, o, v) ∈ lC) : V.cell? ⟨c, o, none⟩ = some v := (h.c _ hm).2

variable {L : LB} {sv mv : Value}
theorem sx_load (h : Sx W r b f g y n B lS lI lC F V) (hT : Tab W) (hn : n < 1000) (hN : Nl W sv L.sts ∧ Nl W mv L.mks) (t : Int) : Calls Tryz.prog 24 #[.pointer (some ⟨r, 0, none⟩), lV L.n L.s L.ep sv mv, .int .i64 t] V fun e w' => ∃ cv gv F', e = .returned (.tuple #[.agg #[.int .i64 (ldT B L t), cv, gv, .int .i64 (ldK B L t)], .int .i64 (ldE B L t)]) ∧ Sx W r b f g y (n + 1) B ((cv, ldC B L t) :: lS) ((gv, ldL B L t) :: lI) lC F' w' := by
  refine (rp_load h.rp h.k hT hn L sv mv t hN).mono ?_
  rintro e w' ⟨cv, gv, F', rfl, a1, a2, a3, a4⟩
  exact ⟨cv, gv, F', rfl, ((h.ps a3 a4).addI a2).addS a1⟩
theorem sx_one (h : Sx W r b f g y n B lS lI lC F V) (hT : Tab W) (hn : n < 1000) (hN : Nl W sv L.sts ∧ Nl W mv L.mks) (t c : Int) : Calls Tryz.prog 26 #[.pointer (some ⟨r, 0, none⟩), lV L.n L.s L.ep sv mv, .int .i64 t, .int .i64 c] V fun e w' => ∃ F', e = .returned (.tuple #[.string (onT B L t c), .int .i64 (onE B L t c)]) ∧ Sx W r b f g y (n + 1) B lS lI lC F' w' := by
  refine (rp_one h.rp h.k hT hn L sv mv t c hN).mono ?_
  rintro e w' ⟨F', rfl, a3, a4⟩
  exact ⟨F', rfl, h.ps a3 a4⟩
theorem sx_gone (h : Sx W r b f g y n B lS lI lC F V) (hT : Tab W) (hN : Nl W sv L.sts ∧ Nl W mv L.mks) (t : Int) : Calls Tryz.prog 28 #[.pointer (some ⟨r, 0, none⟩), lV L.n L.s L.ep sv mv, .int .i64 t] V fun e w' => ∃ v F', e = .returned (.tuple #[v, .int .i64 (lsE L t)]) ∧ Sx W r b f g y n B lS ((v, ldG B L t) :: lI) lC F' w' := by
  refine (rp_gone h.rp h.k hT L sv mv t hN).mono ?_
  rintro e w' ⟨v, rfl, a2, a3, a4⟩
  exact ⟨v, _, rfl, (h.ps a3 a4).addI a2⟩
theorem sx_col (h : Sx W r b f g y n B lS lI lC F V) (hT : Tab W) (hN : Nl W sv L.sts ∧ Nl W mv L.mks) (t c : Int) : Calls Tryz.prog 30 #[.pointer (some ⟨r, 0, none⟩), lV L.n L.s L.ep sv mv, .int .i64 t, .int .i64 c] V fun e w' => ∃ F', e = .returned (.tuple #[.string (coT B L t c), .int .i64 (coE B L t c)]) ∧ Sx W r b f g y n B lS lI lC F' w' := by
  refine (rp_col h.rp h.k hT L sv mv t c hN).mono ?_
  rintro e w' ⟨F', rfl, a3, a4⟩
  exact ⟨F', rfl, h.ps a3 a4⟩
theorem sy_whole (h : Sy W r b f g y n B lS lI lC V) (hT : Tab W) (hN : Nl W sv L.sts ∧ Nl W mv L.mks) (t : Int) : Calls Tryz.prog 33 #[.pointer (some ⟨r, 0, none⟩), lV L.n L.s L.ep sv mv, .int .i64 t] V fun e w' => e = .returned (.bool (wlB B L t)) ∧ Sy W r b f g y n B lS lI lC w' := by
  obtain ⟨F, h⟩ := h
  refine (rp_whole h.rp h.k hT L sv mv t hN).mono ?_
  rintro e w' ⟨F', rfl, a3, a4⟩
  exact ⟨rfl, F', h.ps a3 a4⟩
theorem sd_load (h : Sx W r b f g y n B lS lI lC F V) (hN : Nl W sv L.sts ∧ Nl W mv L.mks) (t : Int) : Calls Tryz.prog 25 #[.pointer (some ⟨y, 0, none⟩), lV L.n L.s L.ep sv mv, .int .i64 t] V fun e w' => ∃ cv gv F', e = .returned (.tuple #[cv, gv, .int .i64 (ldK B L t), .int .i64 (ldE B L t)]) ∧ Sx W r b f g y n B ((cv, ldC B L t) :: lS) ((gv, ldL B L t) :: lI) lC F' w' := by
  refine (rd_load h.rp h.k L sv mv t hN).mono ?_
  rintro e w' ⟨cv, gv, F', rfl, a1, a2, a3, a4⟩
  exact ⟨cv, gv, F', rfl, ((h.ps a3 a4).addI a2).addS a1⟩
theorem sd_one (h : Sx W r b f g y n B lS lI lC F V) (hN : Nl W sv L.sts ∧ Nl W mv L.mks) (t c : Int) : Calls Tryz.prog 27 #[.pointer (some ⟨y, 0, none⟩), lV L.n L.s L.ep sv mv, .int .i64 t, .int .i64 c] V fun e w' => ∃ F', e = .returned (.tuple #[.string (onT B L t c), .int .i64 (onE B L t c)]) ∧ Sx W r b f g y n B lS lI lC F' w' := by
  refine (rd_one h.rp h.k L sv mv t c hN).mono ?_
  rintro e w' ⟨F', rfl, a3, a4⟩
  exact ⟨F', rfl, h.ps a3 a4⟩
theorem sd_gone (h : Sx W r b f g y n B lS lI lC F V) (hN : Nl W sv L.sts ∧ Nl W mv L.mks) (t : Int) : Calls Tryz.prog 29 #[.pointer (some ⟨y, 0, none⟩), lV L.n L.s L.ep sv mv, .int .i64 t] V fun e w' => ∃ v, e = .returned (.tuple #[v, .int .i64 (lsE L t)]) ∧ IntsIn w' v (ldG B L t) ∧ Sx W r b f g y n B lS lI lC F w' := by
  refine (rd_gone h.rp h.k L sv mv t hN).mono ?_
  rintro e w' ⟨v, rfl, a2, k⟩
  exact ⟨v, rfl, a2, h.kp k⟩
theorem sd_col (h : Sx W r b f g y n B lS lI lC F V) (hN : Nl W sv L.sts ∧ Nl W mv L.mks) (t c : Int) : Calls Tryz.prog 31 #[.pointer (some ⟨y, 0, none⟩), lV L.n L.s L.ep sv mv, .int .i64 t, .int .i64 c] V fun e w' => ∃ F', e = .returned (.tuple #[.string (coT B L t c), .int .i64 (coE B L t c)]) ∧ Sx W r b f g y n B lS lI lC F' w' := by
  refine (rd_col h.rp h.k L sv mv t c hN).mono ?_
  rintro e w' ⟨F', rfl, a3, a4⟩
  exact ⟨F', rfl, h.ps a3 a4⟩
theorem sdy_whole (h : Sy W r b f g y n B lS lI lC V) (hN : Nl W sv L.sts ∧ Nl W mv L.mks) (t : Int) : Calls Tryz.prog 34 #[.pointer (some ⟨y, 0, none⟩), lV L.n L.s L.ep sv mv, .int .i64 t] V fun e w' => e = .returned (.bool (wlB B L t)) ∧ Sy W r b f g y n B lS lI lC w' := by
  obtain ⟨F, h⟩ := h
  refine (rd_whole h.rp h.k L sv mv t hN).mono ?_
  rintro e w' ⟨F', rfl, a3, a4⟩
  exact ⟨rfl, F', h.ps a3 a4⟩
theorem sy_alike (h : Sy W r b f g y n B lS lI lC V) {va vb : Value} {A : List Int} (ha : (va, A) ∈ lI) (hb : (vb, A) ∈ lI) : Calls Tryz.prog 11 #[va, vb] V fun e w' => e = .returned (.bool true) ∧ Sy W r b f g y n B lS lI lC w' := by
  obtain ⟨F, h⟩ := h
  refine (alike_same va vb A V (h.i _ ha).1 (h.i _ hb).1).mono ?_
  rintro e w' ⟨rfl, k⟩
  exact ⟨rfl, F, h.kp k⟩
theorem sy_equal (h : Sy W r b f g y n B lS lI lC V) {va vb : Value} {A : List ByteArray} (ha : (va, A) ∈ lS) (hb : (vb, A) ∈ lS) : Calls Tryz.prog 32 #[va, vb] V fun e w' => e = .returned (.bool true) ∧ Sy W r b f g y n B lS lI lC w' := by
  obtain ⟨F, h⟩ := h
  refine (equal_any va vb A A V (h.s _ ha).1 (h.s _ hb).1).mono ?_
  rintro e w' ⟨rfl, k⟩
  exact ⟨by rw [decide_eq_true rfl], F, h.kp k⟩
theorem sx_alike (h : Sx W r b f g y n B lS lI lC F V) {va vb : Value} {A : List Int} (ha : (va, A) ∈ lI) (hb : IntsIn V vb A) : Calls Tryz.prog 11 #[va, vb] V fun e w' => e = .returned (.bool true) ∧ Sx W r b f g y n B lS lI lC F w' := by
  refine (alike_same va vb A V (h.i _ ha).1 hb).mono ?_
  rintro e w' ⟨rfl, k⟩
  exact ⟨rfl, h.kp k⟩
end

end Go.Proofs.YtonooelffokfkaaGreatDoor
