/-
  Two labels in two blocks whose four lists grow by appends (Tp): an element appended to one of them, a list stored in its label's block. Conditions: that the lists are the call's own and apart.
-/
import Derived.Test.YtobpgfnmhpgkeaaLbRow2
namespace Go.Proofs.Ytobpgfnmhpgkeaa
open Go.RowKit Plain
set_option linter.unusedVariables false

/-- two rows have no block in common. -/
def Apt (u v : Value) : Prop := ∀ k, u.ownBlock = some k → v.ownBlock ≠ some k
theorem Apt.symm {u v : Value} (h : Apt u v) : Apt v u := fun k hk hu => h k hu hk
theorem Ap.apt {w w' : World} {v v' u : Value} (a : Ap w w' v v') (h : Apt v u) (hu : ∀ k, u.ownBlock = some k → k < w.heap.size) : Apt v' u := fun k hk hu2 => by
  rcases a.own with e | e
  · exact h k (e.symm.trans hk) hu2
  · have h1 := hu k hu2
    have h2 : w.heap.size = k := Option.some.inj (e.symm.trans hk)
    omega
structure Tp (base A B : Nat) (n s ep : Int) (w : World) (c1 c2 c3 c4 : Value) (v1 v2 v3 v4 : Value) (l1 l2 l3 l4 : List Int) : Prop where
  la : Lc w A n s ep c1 c2
  lb : Lc w B n s ep c3 c4
  fa : ∀ o, w.frozen? ⟨A, o, none⟩ = false
  fb : ∀ o, w.frozen? ⟨B, o, none⟩ = false
  o1 : Oi 67 w base v1 l1
  o2 : Oi 3 w base v2 l2
  o3 : Oi 3 w base v3 l3
  o4 : Oi 3 w base v4 l4
  d12 : Apt v1 v2
  d13 : Apt v1 v3
  d14 : Apt v1 v4
  d23 : Apt v2 v3
  d24 : Apt v2 v4
  d34 : Apt v3 v4
  hA : A < base
  hB : B < base
  ne : A ≠ B
  hb : base ≤ w.heap.size
section
variable {base A B : Nat} {n s ep : Int} {w w' : World} {c1 c2 c3 c4 v1 v2 v3 v4 u : Value} {l1 l2 l3 l4 l : List Int}
theorem Tp.kept (h : Tp base A B n s ep w c1 c2 c3 c4 v1 v2 v3 v4 l1 l2 l3 l4) (k : Kp w w') : Tp base A B n s ep w' c1 c2 c3 c4 v1 v2 v3 v4 l1 l2 l3 l4 :=
  ⟨h.la.kept k, h.lb.kept k, fun o => (Below.frozen (p := ⟨A, o, none⟩) k (Nat.lt_of_lt_of_le h.hA h.hb)).trans (h.fa o), fun o => (Below.frozen (p := ⟨B, o, none⟩) k (Nat.lt_of_lt_of_le h.hB h.hb)).trans (h.fb o), h.o1.kept k, h.o2.kept k, h.o3.kept k, h.o4.kept k, h.d12, h.d13, h.d14, h.d23, h.d24, h.d34, h.hA, h.hB, h.ne, Nat.le_trans h.hb k.size⟩
theorem Oi.far {e : TypeId} {w : World} {base b : Nat} {v : Value} {l : List Int} (h : Oi e w base v l) (hb : b < base) : v.ownBlock ≠ some b := fun e => by have := (h.low b e).1; omega
theorem Tp.app1 (h : Tp base A B n s ep w c1 c2 c3 c4 v1 v2 v3 v4 l1 l2 l3 l4) (a : Ap w w' v1 u) (ho : Oi 67 w' base u l) : Tp base A B n s ep w' c1 c2 c3 c4 u v2 v3 v4 l l2 l3 l4 :=
  ⟨a.lc (h.o1.far h.hA) h.la, a.lc (h.o1.far h.hB) h.lb, fun o => (a.frozen (h.o1.far h.hA) (Nat.lt_of_lt_of_le h.hA h.hb)).trans (h.fa o), fun o => (a.frozen (h.o1.far h.hB) (Nat.lt_of_lt_of_le h.hB h.hb)).trans (h.fb o), ho, a.oi h.o2 (fun k hk hv => h.d12 k hv hk), a.oi h.o3 (fun k hk hv => h.d13 k hv hk), a.oi h.o4 (fun k hk hv => h.d14 k hv hk), a.apt h.d12 (fun k hk => (h.o2.low k hk).2), a.apt h.d13 (fun k hk => (h.o3.low k hk).2), a.apt h.d14 (fun k hk => (h.o4.low k hk).2), h.d23, h.d24, h.d34, h.hA, h.hB, h.ne, Nat.le_trans h.hb a.size⟩
theorem Tp.app2 (h : Tp base A B n s ep w c1 c2 c3 c4 v1 v2 v3 v4 l1 l2 l3 l4) (a : Ap w w' v2 u) (ho : Oi 3 w' base u l) : Tp base A B n s ep w' c1 c2 c3 c4 v1 u v3 v4 l1 l l3 l4 :=
  ⟨a.lc (h.o2.far h.hA) h.la, a.lc (h.o2.far h.hB) h.lb, fun o => (a.frozen (h.o2.far h.hA) (Nat.lt_of_lt_of_le h.hA h.hb)).trans (h.fa o), fun o => (a.frozen (h.o2.far h.hB) (Nat.lt_of_lt_of_le h.hB h.hb)).trans (h.fb o), a.oi h.o1 (fun k hk hv => h.d12.symm k hv hk), ho, a.oi h.o3 (fun k hk hv => h.d23 k hv hk), a.oi h.o4 (fun k hk hv => h.d24 k hv hk), (a.apt h.d12.symm (fun k hk => (h.o1.low k hk).2)).symm, h.d13, h.d14, a.apt h.d23 (fun k hk => (h.o3.low k hk).2), a.apt h.d24 (fun k hk => (h.o4.low k hk).2), h.d34, h.hA, h.hB, h.ne, Nat.le_trans h.hb a.size⟩
theorem Tp.app3 (h : Tp base A B n s ep w c1 c2 c3 c4 v1 v2 v3 v4 l1 l2 l3 l4) (a : Ap w w' v3 u) (ho : Oi 3 w' base u l) : Tp base A B n s ep w' c1 c2 c3 c4 v1 v2 u v4 l1 l2 l l4 :=
  ⟨a.lc (h.o3.far h.hA) h.la, a.lc (h.o3.far h.hB) h.lb, fun o => (a.frozen (h.o3.far h.hA) (Nat.lt_of_lt_of_le h.hA h.hb)).trans (h.fa o), fun o => (a.frozen (h.o3.far h.hB) (Nat.lt_of_lt_of_le h.hB h.hb)).trans (h.fb o), a.oi h.o1 (fun k hk hv => h.d13.symm k hv hk), a.oi h.o2 (fun k hk hv => h.d23.symm k hv hk), ho, a.oi h.o4 (fun k hk hv => h.d34 k hv hk), h.d12, (a.apt h.d13.symm (fun k hk => (h.o1.low k hk).2)).symm, h.d14, (a.apt h.d23.symm (fun k hk => (h.o2.low k hk).2)).symm, h.d24, a.apt h.d34 (fun k hk => (h.o4.low k hk).2), h.hA, h.hB, h.ne, Nat.le_trans h.hb a.size⟩
theorem Tp.app4 (h : Tp base A B n s ep w c1 c2 c3 c4 v1 v2 v3 v4 l1 l2 l3 l4) (a : Ap w w' v4 u) (ho : Oi 3 w' base u l) : Tp base A B n s ep w' c1 c2 c3 c4 v1 v2 v3 u l1 l2 l3 l :=
  ⟨a.lc (h.o4.far h.hA) h.la, a.lc (h.o4.far h.hB) h.lb, fun o => (a.frozen (h.o4.far h.hA) (Nat.lt_of_lt_of_le h.hA h.hb)).trans (h.fa o), fun o => (a.frozen (h.o4.far h.hB) (Nat.lt_of_lt_of_le h.hB h.hb)).trans (h.fb o), a.oi h.o1 (fun k hk hv => h.d14.symm k hv hk), a.oi h.o2 (fun k hk hv => h.d24.symm k hv hk), a.oi h.o3 (fun k hk hv => h.d34.symm k hv hk), ho, h.d12, h.d13, (a.apt h.d14.symm (fun k hk => (h.o1.low k hk).2)).symm, h.d23, (a.apt h.d24.symm (fun k hk => (h.o2.low k hk).2)).symm, (a.apt h.d34.symm (fun k hk => (h.o3.low k hk).2)).symm, h.hA, h.hB, h.ne, Nat.le_trans h.hb a.size⟩
theorem Tp.st1 (h : Tp base A B n s ep w c1 c2 c3 c4 v1 v2 v3 v4 l1 l2 l3 l4) (u : Value) : Tp base A B n s ep (w.setCell ⟨A, 3, none⟩ u) u c2 c3 c4 v1 v2 v3 v4 l1 l2 l3 l4 := by
  have t : Trd A w (w.setCell ⟨A, 3, none⟩ u) := (Trd.refl A w).setCell 3 _
  have hz := t.size
  have hb := h.hb
  exact ⟨h.la.set3 u, t.lc (fun e => h.ne e.symm) h.lb, fun o => by rw [World.frozen?_setCell]; exact h.fa o, fun o => by rw [World.frozen?_setCell]; exact h.fb o, t.oi h.o1 (h.o1.far h.hA), t.oi h.o2 (h.o2.far h.hA), t.oi h.o3 (h.o3.far h.hA), t.oi h.o4 (h.o4.far h.hA), h.d12, h.d13, h.d14, h.d23, h.d24, h.d34, h.hA, h.hB, h.ne, by omega⟩
theorem Tp.st2 (h : Tp base A B n s ep w c1 c2 c3 c4 v1 v2 v3 v4 l1 l2 l3 l4) (u : Value) : Tp base A B n s ep (w.setCell ⟨A, 4, none⟩ u) c1 u c3 c4 v1 v2 v3 v4 l1 l2 l3 l4 := by
  have t : Trd A w (w.setCell ⟨A, 4, none⟩ u) := (Trd.refl A w).setCell 4 _
  have hz := t.size
  have hb := h.hb
  exact ⟨h.la.set4 u, t.lc (fun e => h.ne e.symm) h.lb, fun o => by rw [World.frozen?_setCell]; exact h.fa o, fun o => by rw [World.frozen?_setCell]; exact h.fb o, t.oi h.o1 (h.o1.far h.hA), t.oi h.o2 (h.o2.far h.hA), t.oi h.o3 (h.o3.far h.hA), t.oi h.o4 (h.o4.far h.hA), h.d12, h.d13, h.d14, h.d23, h.d24, h.d34, h.hA, h.hB, h.ne, by omega⟩
theorem Tp.st3 (h : Tp base A B n s ep w c1 c2 c3 c4 v1 v2 v3 v4 l1 l2 l3 l4) (u : Value) : Tp base A B n s ep (w.setCell ⟨B, 3, none⟩ u) c1 c2 u c4 v1 v2 v3 v4 l1 l2 l3 l4 := by
  have t : Trd B w (w.setCell ⟨B, 3, none⟩ u) := (Trd.refl B w).setCell 3 _
  have hz := t.size
  have hb := h.hb
  exact ⟨t.lc h.ne h.la, h.lb.set3 u, fun o => by rw [World.frozen?_setCell]; exact h.fa o, fun o => by rw [World.frozen?_setCell]; exact h.fb o, t.oi h.o1 (h.o1.far h.hB), t.oi h.o2 (h.o2.far h.hB), t.oi h.o3 (h.o3.far h.hB), t.oi h.o4 (h.o4.far h.hB), h.d12, h.d13, h.d14, h.d23, h.d24, h.d34, h.hA, h.hB, h.ne, by omega⟩
theorem Tp.st4 (h : Tp base A B n s ep w c1 c2 c3 c4 v1 v2 v3 v4 l1 l2 l3 l4) (u : Value) : Tp base A B n s ep (w.setCell ⟨B, 4, none⟩ u) c1 c2 c3 u v1 v2 v3 v4 l1 l2 l3 l4 := by
  have t : Trd B w (w.setCell ⟨B, 4, none⟩ u) := (Trd.refl B w).setCell 4 _
  have hz := t.size
  have hb := h.hb
  exact ⟨t.lc h.ne h.la, h.lb.set4 u, fun o => by rw [World.frozen?_setCell]; exact h.fa o, fun o => by rw [World.frozen?_setCell]; exact h.fb o, t.oi h.o1 (h.o1.far h.hB), t.oi h.o2 (h.o2.far h.hB), t.oi h.o3 (h.o3.far h.hB), t.oi h.o4 (h.o4.far h.hB), h.d12, h.d13, h.d14, h.d23, h.d24, h.d34, h.hA, h.hB, h.ne, by omega⟩
end

end Go.Proofs.Ytobpgfnmhpgkeaa
