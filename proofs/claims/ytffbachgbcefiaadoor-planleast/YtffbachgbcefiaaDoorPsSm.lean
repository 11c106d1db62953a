/-
  The blocks of the laws' states. No condition.
-/
import Derived.Test.YtffbachgbcefiaaDoorPsRs
namespace Go.Proofs.YtffbachgbcefiaaDoor
open Go.RowKit Plain
set_option linter.unusedVariables false
set_option linter.unusedSimpArgs false

def z17 : PS := ⟨0, noF, noF, noF, noF⟩
/-- is something said of a column that there isn't? -/
def rxO (x : RX) : Bool := oddB x.y || (oddB x.h || (oddB x.k || oddB x.l))
/-- the blocks of states: the data, both results. -/
structure Ia (w X : World) (x : RX) : Prop where
  r : Rw X w.heap.size x
  q : Qx X (w.heap.size + 1) z17
  d : Rb X (w.heap.size + 2) 0 noF noF noF noF false
  kp : Kp w X
theorem Ia.kept {w X X' : World} {x : RX} (h : Ia w X x) (k : Kp X X') : Ia w X' x := ⟨h.r.kept k, h.q.kept k, h.d.kept k, h.kp.trans k⟩
/-- and the program's state. -/
structure Ja (w X : World) (x : RX) (c : Nat) (s : PS) : Prop where
  i : Ia w X x
  c1 : w.heap.size + 2 < c
  s : Qx X c s
theorem Ja.kept {w X X' : World} {x : RX} {c : Nat} {s : PS} (h : Ja w X x c s) (k : Kp X X') : Ja w X' x c s := ⟨h.i.kept k, h.c1, h.s.kept k⟩
theorem Ja.new {w X : World} {x : RX} (h : Ia w X x) : Ja w (X.alloc (.cells (psA z17) 30)) x X.heap.size z17 := ⟨h.kept ((Kp.refl _).alloc _), h.d.lt, Qx.new X z17⟩
theorem Ia.far {w X : World} {x : RX} (h : Ia w X x) {c : Nat} (hc : w.heap.size + 2 < c) (o : Nat) (cs : List Value) : Ia w (X.setCells c o cs) x := ⟨h.r.far (by omega) _ _, h.q.far (by omega) _ _, h.d.far (by omega) _ _, kp_setCells h.kp _ _ (by omega) _⟩
theorem Ja.set {w X : World} {x : RX} {c : Nat} {s : PS} (h : Ja w X x c s) (t : PS) : Ja w (X.setCells c 0 (psA t).toList) x c t := ⟨h.i.far h.c1 0 _, h.c1, h.s.set t⟩
theorem cell_apart {w : World} {b o : Nat} {v : Value} (h : w.cell? ⟨b, o, none⟩ = some v) (c off : Nat) (vs : List Value) (ha : b ≠ c ∨ o < off ∨ off + vs.length ≤ o) : (w.setCells c off vs).cell? ⟨b, o, none⟩ = some v := by
  have h1 : w.rangeAt b o [v] := rangeAt_cons.2 ⟨h, fun j u hj => by simp at hj⟩
  exact (rangeAt_cons.1 (World.rangeAt_setCells_apart h1 c off vs (by simp only [List.length_cons, List.length_nil]; omega))).1
theorem Rb.sy {w : World} {b : Nat} {D : Int} {y h k l : Nat → Bool} {o : Bool} (r : Rb w b D y h k l o) (g : Nat → Bool) : Rb (w.setCells b 1 (b32A g).toList) b D g h k l o :=
  ⟨by rw [World.size_setCells]; exact r.lt, cell_apart r.d _ _ _ (by simp [b32_sz]), World.rangeAt_setCells_same w b 1 _ (by rw [b32_len]; exact there_of (b32_len _) r.y r.z), World.rangeAt_setCells_apart r.h _ _ _ (by simp [b32_sz]), World.rangeAt_setCells_apart r.k _ _ _ (by simp [b32_sz]), World.rangeAt_setCells_apart r.l _ _ _ (by simp [b32_sz]), cell_apart r.o _ _ _ (by simp [b32_sz]), fun j => by rw [World.frozen?_setCells]; exact r.z j⟩
theorem Rb.sh {w : World} {b : Nat} {D : Int} {y h k l : Nat → Bool} {o : Bool} (r : Rb w b D y h k l o) (g : Nat → Bool) : Rb (w.setCells b 33 (b32A g).toList) b D y g k l o :=
  ⟨by rw [World.size_setCells]; exact r.lt, cell_apart r.d _ _ _ (by simp [b32_sz]), World.rangeAt_setCells_apart r.y _ _ _ (by simp [b32_sz]), World.rangeAt_setCells_same w b 33 _ (by rw [b32_len]; exact there_of (b32_len _) r.h r.z), World.rangeAt_setCells_apart r.k _ _ _ (by simp [b32_sz]), World.rangeAt_setCells_apart r.l _ _ _ (by simp [b32_sz]), cell_apart r.o _ _ _ (by simp [b32_sz]), fun j => by rw [World.frozen?_setCells]; exact r.z j⟩
theorem Rb.sk {w : World} {b : Nat} {D : Int} {y h k l : Nat → Bool} {o : Bool} (r : Rb w b D y h k l o) (g : Nat → Bool) : Rb (w.setCells b 65 (b32A g).toList) b D y h g l o :=
  ⟨by rw [World.size_setCells]; exact r.lt, cell_apart r.d _ _ _ (by simp [b32_sz]), World.rangeAt_setCells_apart r.y _ _ _ (by simp [b32_sz]), World.rangeAt_setCells_apart r.h _ _ _ (by simp [b32_sz]), World.rangeAt_setCells_same w b 65 _ (by rw [b32_len]; exact there_of (b32_len _) r.k r.z), World.rangeAt_setCells_apart r.l _ _ _ (by simp [b32_sz]), cell_apart r.o _ _ _ (by simp [b32_sz]), fun j => by rw [World.frozen?_setCells]; exact r.z j⟩
theorem Rb.sl {w : World} {b : Nat} {D : Int} {y h k l : Nat → Bool} {o : Bool} (r : Rb w b D y h k l o) (g : Nat → Bool) : Rb (w.setCells b 97 (b32A g).toList) b D y h k g o :=
  ⟨by rw [World.size_setCells]; exact r.lt, cell_apart r.d _ _ _ (by simp [b32_sz]), World.rangeAt_setCells_apart r.y _ _ _ (by simp [b32_sz]), World.rangeAt_setCells_apart r.h _ _ _ (by simp [b32_sz]), World.rangeAt_setCells_apart r.k _ _ _ (by simp [b32_sz]), World.rangeAt_setCells_same w b 97 _ (by rw [b32_len]; exact there_of (b32_len _) r.l r.z), cell_apart r.o _ _ _ (by simp [b32_sz]), fun j => by rw [World.frozen?_setCells]; exact r.z j⟩
theorem Rb.so {w : World} {b : Nat} {D : Int} {y h k l : Nat → Bool} {o : Bool} (r : Rb w b D y h k l o) (g : Bool) : Rb (w.setCell ⟨b, 129, none⟩ (.bool g)) b D y h k l g := by
  show Rb (w.setCells b 129 [.bool g]) b D y h k l g
  exact ⟨by rw [World.size_setCells]; exact r.lt, cell_apart r.d _ _ _ (by simp), World.rangeAt_setCells_apart r.y _ _ _ (by simp [b32_sz]), World.rangeAt_setCells_apart r.h _ _ _ (by simp [b32_sz]), World.rangeAt_setCells_apart r.k _ _ _ (by simp [b32_sz]), World.rangeAt_setCells_apart r.l _ _ _ (by simp [b32_sz]), World.cell?_setCell_same _ _ _ r.o, fun j => by rw [World.frozen?_setCells]; exact r.z j⟩
/-- four truths in a block. -/
structure B4 (w : World) (b : Nat) (o0 o1 o2 o3 : Bool) : Prop where
  lt : b < w.heap.size
  c0 : w.cell? ⟨b, 0, none⟩ = some (.bool o0)
  c1 : w.cell? ⟨b, 1, none⟩ = some (.bool o1)
  c2 : w.cell? ⟨b, 2, none⟩ = some (.bool o2)
  c3 : w.cell? ⟨b, 3, none⟩ = some (.bool o3)
  z : ∀ j, w.frozen? ⟨b, j, none⟩ = false
theorem B4.new (w : World) (t : TypeId) : B4 (w.alloc (.cells #[.bool false, .bool false, .bool false, .bool false] t)) w.heap.size false false false false :=
  ⟨by simp, pcell_of (pnew_obj w _ _) 0, pcell_of (pnew_obj w _ _) 1, pcell_of (pnew_obj w _ _) 2, pcell_of (pnew_obj w _ _) 3, fun j => pfrozen_of (pnew_obj w _ _) j⟩
theorem B4.kept {w w' : World} {b : Nat} {o0 o1 o2 o3 : Bool} (h : B4 w b o0 o1 o2 o3) (k : Kp w w') : B4 w' b o0 o1 o2 o3 :=
  ⟨Nat.lt_of_lt_of_le h.lt k.size, k.held h.c0, k.held h.c1, k.held h.c2, k.held h.c3, fun j => by rw [show w'.frozen? ⟨b, j, none⟩ = w.frozen? ⟨b, j, none⟩ by simp [World.frozen?, k.block b h.lt]]; exact h.z j⟩
theorem B4.far {w : World} {b c : Nat} {o0 o1 o2 o3 : Bool} (h : B4 w b o0 o1 o2 o3) (hb : b ≠ c) (off : Nat) (cs : List Value) : B4 (w.setCells c off cs) b o0 o1 o2 o3 :=
  ⟨by rw [World.size_setCells]; exact h.lt, cell_apart h.c0 _ _ _ (.inl hb), cell_apart h.c1 _ _ _ (.inl hb), cell_apart h.c2 _ _ _ (.inl hb), cell_apart h.c3 _ _ _ (.inl hb), fun j => by rw [World.frozen?_setCells]; exact h.z j⟩
theorem B4.s0 {w : World} {b : Nat} {o0 o1 o2 o3 : Bool} (h : B4 w b o0 o1 o2 o3) (g : Bool) : B4 (w.setCell ⟨b, 0, none⟩ (.bool g)) b g o1 o2 o3 := by
  show B4 (w.setCells b 0 [.bool g]) b g o1 o2 o3
  exact ⟨by rw [World.size_setCells]; exact h.lt, World.cell?_setCell_same _ _ _ h.c0, cell_apart h.c1 _ _ _ (by simp), cell_apart h.c2 _ _ _ (by simp), cell_apart h.c3 _ _ _ (by simp), fun j => by rw [World.frozen?_setCells]; exact h.z j⟩
theorem B4.s1 {w : World} {b : Nat} {o0 o1 o2 o3 : Bool} (h : B4 w b o0 o1 o2 o3) (g : Bool) : B4 (w.setCell ⟨b, 1, none⟩ (.bool g)) b o0 g o2 o3 := by
  show B4 (w.setCells b 1 [.bool g]) b o0 g o2 o3
  exact ⟨by rw [World.size_setCells]; exact h.lt, cell_apart h.c0 _ _ _ (by simp), World.cell?_setCell_same _ _ _ h.c1, cell_apart h.c2 _ _ _ (by simp), cell_apart h.c3 _ _ _ (by simp), fun j => by rw [World.frozen?_setCells]; exact h.z j⟩
theorem B4.s2 {w : World} {b : Nat} {o0 o1 o2 o3 : Bool} (h : B4 w b o0 o1 o2 o3) (g : Bool) : B4 (w.setCell ⟨b, 2, none⟩ (.bool g)) b o0 o1 g o3 := by
  show B4 (w.setCells b 2 [.bool g]) b o0 o1 g o3
  exact ⟨by rw [World.size_setCells]; exact h.lt, cell_apart h.c0 _ _ _ (by simp), cell_apart h.c1 _ _ _ (by simp), World.cell?_setCell_same _ _ _ h.c2, cell_apart h.c3 _ _ _ (by simp), fun j => by rw [World.frozen?_setCells]; exact h.z j⟩
theorem B4.s3 {w : World} {b : Nat} {o0 o1 o2 o3 : Bool} (h : B4 w b o0 o1 o2 o3) (g : Bool) : B4 (w.setCell ⟨b, 3, none⟩ (.bool g)) b o0 o1 o2 g := by
  show B4 (w.setCells b 3 [.bool g]) b o0 o1 o2 g
  exact ⟨by rw [World.size_setCells]; exact h.lt, cell_apart h.c0 _ _ _ (by simp), cell_apart h.c1 _ _ _ (by simp), cell_apart h.c2 _ _ _ (by simp), World.cell?_setCell_same _ _ _ h.c3, fun j => by rw [World.frozen?_setCells]; exact h.z j⟩
/-- all blocks of states. -/
structure Ka (w X : World) (x : RX) (c d e : Nat) (y h k l : Nat → Bool) (o : Bool) (o0 o1 o2 o3 : Bool) : Prop where
  j : Ja w X x c x.ps
  d1 : w.heap.size + 2 < d
  e1 : w.heap.size + 2 < e
  cd : c ≠ d
  ce : c ≠ e
  de : d ≠ e
  d : Rb X d x.D y h k l o
  e : B4 X e o0 o1 o2 o3
section
variable {w X X' : World} {x : RX} {c d e : Nat} {y h k l : Nat → Bool} {o o0 o1 o2 o3 : Bool}
theorem Ka.kept (r : Ka w X x c d e y h k l o o0 o1 o2 o3) (q : Kp X X') : Ka w X' x c d e y h k l o o0 o1 o2 o3 := ⟨r.j.kept q, r.d1, r.e1, r.cd, r.ce, r.de, r.d.kept q, r.e.kept q⟩
theorem Ja.far {s : PS} (r : Ja w X x c s) {b : Nat} (hb : w.heap.size + 2 < b) (hc : c ≠ b) (off : Nat) (cs : List Value) : Ja w (X.setCells b off cs) x c s := ⟨r.i.far hb _ _, r.c1, r.s.far hc _ _⟩
theorem Ka.sy (r : Ka w X x c d e y h k l o o0 o1 o2 o3) (g : Nat → Bool) : Ka w (X.setCells d 1 (b32A g).toList) x c d e g h k l o o0 o1 o2 o3 := ⟨r.j.far r.d1 r.cd _ _, r.d1, r.e1, r.cd, r.ce, r.de, r.d.sy g, r.e.far r.de.symm _ _⟩
theorem Ka.sh (r : Ka w X x c d e y h k l o o0 o1 o2 o3) (g : Nat → Bool) : Ka w (X.setCells d 33 (b32A g).toList) x c d e y g k l o o0 o1 o2 o3 := ⟨r.j.far r.d1 r.cd _ _, r.d1, r.e1, r.cd, r.ce, r.de, r.d.sh g, r.e.far r.de.symm _ _⟩
theorem Ka.sk (r : Ka w X x c d e y h k l o o0 o1 o2 o3) (g : Nat → Bool) : Ka w (X.setCells d 65 (b32A g).toList) x c d e y h g l o o0 o1 o2 o3 := ⟨r.j.far r.d1 r.cd _ _, r.d1, r.e1, r.cd, r.ce, r.de, r.d.sk g, r.e.far r.de.symm _ _⟩
theorem Ka.sl (r : Ka w X x c d e y h k l o o0 o1 o2 o3) (g : Nat → Bool) : Ka w (X.setCells d 97 (b32A g).toList) x c d e y h k g o o0 o1 o2 o3 := ⟨r.j.far r.d1 r.cd _ _, r.d1, r.e1, r.cd, r.ce, r.de, r.d.sl g, r.e.far r.de.symm _ _⟩
theorem Ka.so (r : Ka w X x c d e y h k l o o0 o1 o2 o3) (g : Bool) : Ka w (X.setCell ⟨d, 129, none⟩ (.bool g)) x c d e y h k l g o0 o1 o2 o3 := ⟨r.j.far (X := X) r.d1 r.cd 129 [.bool g], r.d1, r.e1, r.cd, r.ce, r.de, r.d.so g, B4.far (w := X) r.e r.de.symm 129 [.bool g]⟩
theorem Ka.s0 (r : Ka w X x c d e y h k l o o0 o1 o2 o3) (g : Bool) : Ka w (X.setCell ⟨e, 0, none⟩ (.bool g)) x c d e y h k l o g o1 o2 o3 := ⟨r.j.far (X := X) r.e1 r.ce 0 [.bool g], r.d1, r.e1, r.cd, r.ce, r.de, Rb.far (w := X) r.d r.de 0 [.bool g], r.e.s0 g⟩
theorem Ka.s1 (r : Ka w X x c d e y h k l o o0 o1 o2 o3) (g : Bool) : Ka w (X.setCell ⟨e, 1, none⟩ (.bool g)) x c d e y h k l o o0 g o2 o3 := ⟨r.j.far (X := X) r.e1 r.ce 1 [.bool g], r.d1, r.e1, r.cd, r.ce, r.de, Rb.far (w := X) r.d r.de 1 [.bool g], r.e.s1 g⟩
theorem Ka.s2 (r : Ka w X x c d e y h k l o o0 o1 o2 o3) (g : Bool) : Ka w (X.setCell ⟨e, 2, none⟩ (.bool g)) x c d e y h k l o o0 o1 g o3 := ⟨r.j.far (X := X) r.e1 r.ce 2 [.bool g], r.d1, r.e1, r.cd, r.ce, r.de, Rb.far (w := X) r.d r.de 2 [.bool g], r.e.s2 g⟩
theorem Ka.s3 (r : Ka w X x c d e y h k l o o0 o1 o2 o3) (g : Bool) : Ka w (X.setCell ⟨e, 3, none⟩ (.bool g)) x c d e y h k l o o0 o1 o2 g := ⟨r.j.far (X := X) r.e1 r.ce 3 [.bool g], r.d1, r.e1, r.cd, r.ce, r.de, Rb.far (w := X) r.d r.de 3 [.bool g], r.e.s3 g⟩
end

end Go.Proofs.YtffbachgbcefiaaDoor
