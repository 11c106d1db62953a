/-
  Labels and bays of a setup. Conditions: that its lists lie in memory.
-/
import Derived.Test.YtonooelffokfkaaGreatDoorZRow
import Derived.Deep.DeepCutAuto
import Derived.Deep.RegionWith
import Derived.Deep.RegionHeld3
import Derived.Test.YtonooelffokfkaaGreatDoorZBay
import Derived.Test.YtonooelffokfkaaGreatDoorZGm
import Derived.Test.YtonooelffokfkaaGreatDoorRows
import Derived.Test.YtonooelffokfkaaGreatDoorZBase
import Derived.ProofKit
import Derived.LaidMore
import Derived.OpenShut
import Derived.Stop.Joined
import Derived.Deep.Matrix
import Derived.Deep.SlicePairs
namespace Go.Proofs.YtonooelffokfkaaGreatDoor
open Go.RowKit Plain
set_option linter.unusedVariables false

/-! ### plain -/
def suN (m : Int) : Int := 4 + (max 0 m) % 5
def suS (s : Int) : Int := 1 + (max 0 s) % 6
def stF (sts : List Int) (i : Nat) : Int := if i < sts.length then (max 0 (sts.getD i 0)) % 3 else 0
def mkF (sts mks : List Int) (s : Int) (i : Nat) : Int := if i < mks.length ∧ stF sts i = 2 then (max 0 (mks.getD i 0)) % s else 0
def suL (m s : Int) (sts mks : List Int) : LB := ⟨suN m, suS s, 1, (List.range (suN m).toNat).map (stF sts), (List.range (suN m).toNat).map (mkF sts mks (suS s))⟩
theorem suN_bd (m : Int) : 4 ≤ suN m ∧ suN m ≤ 8 := by unfold suN; omega
theorem suS_bd (s : Int) : 1 ≤ suS s ∧ suS s ≤ 6 := by unfold suS; omega
theorem stF_bd (sts : List Int) (i : Nat) : 0 ≤ stF sts i ∧ stF sts i ≤ 2 := by
  unfold stF; split <;> omega
theorem mkF_bd (sts mks : List Int) (s : Int) (hs : 1 ≤ s) (i : Nat) : 0 ≤ mkF sts mks s i ∧ mkF sts mks s i < s ∧ (0 < mkF sts mks s i → stF sts i = 2) := by
  unfold mkF
  split
  · rename_i h
    have h1 := Int.emod_nonneg (max 0 (mks.getD i 0)) (show s ≠ 0 by omega)
    have h2 := Int.emod_lt_of_pos (max 0 (mks.getD i 0)) (show 0 < s by omega)
    exact ⟨h1, h2, fun _ => h.2⟩
  · exact ⟨by omega, by omega, fun h => by omega⟩
theorem su_at (f : Nat → Int) (N i : Nat) (h : i < N) : ((List.range N).map f).getD i 0 = f i := by
  simp [List.getD_eq_getElem?_getD, h]
theorem su_good (m s : Int) (sts mks : List Int) : lg (suL m s sts mks) = true := by
  have h1 := suN_bd m
  have h2 := suS_bd s
  refine (lg_iff _).2 ⟨(gg_iff _ _).2 ⟨h1.1, by show suN m ≤ 32; omega, h2.1, by show suS s ≤ 64; omega⟩, by show (1 : Int) ≤ 1; omega, by show (1 : Int) ≤ 9007199254740992; omega, ?_, ?_, (mg_iff _ _).2 fun i hi => ?_⟩
  · show (((List.range (suN m).toNat).map (stF sts)).length : Int) = suN m
    rw [List.length_map, List.length_range]; omega
  · show (((List.range (suN m).toNat).map (mkF sts mks (suS s))).length : Int) = suN m
    rw [List.length_map, List.length_range]; omega
  · have hi' : i < (suN m).toNat := by
      have : i < ((List.range (suN m).toNat).map (stF sts)).length := hi
      simpa using this
    show mh (((List.range (suN m).toNat).map (stF sts)).getD i 0) (((List.range (suN m).toNat).map (mkF sts mks (suS s))).getD i 0) (suS s) = true
    rw [su_at _ _ _ hi', su_at _ _ _ hi']
    have a := stF_bd sts i
    have b := mkF_bd sts mks (suS s) h2.1 i
    exact mh_of a.1 a.2 b.1 b.2.1 b.2.2

/-! ### rows of the call's own, and stores elsewhere -/
theorem own_sp {w w' : World} {T : List Nat} (k : Sp T w w') {base : Nat} {e : TypeId} {size : Nat} {v : Value} {n : Nat} {xs : List Value} (h : w.ownsRow base e size v n xs) (hv : ∀ b, v.ownBlock = some b → b ∉ T) : w'.ownsRow base e size v n xs := by
  rcases h.2 with ⟨h', h0⟩ | ⟨g, cap, cur, h', hb, hg, hr⟩
  · exact ⟨h.1, .inl ⟨h', h0⟩⟩
  · exact ⟨h.1, .inr ⟨g, cap, cur, h', hb, (k.block g (Array.getElem?_eq_some_iff.1 hg).1 (hv g (by rw [h']; rfl))).trans hg, hr⟩⟩
theorem Fe.sp {e : TypeId} {w w' : World} {T : List Nat} {base c n cap : Nat} {f : Nat → Int} (h : Fe e w base (.slice (some ⟨c, 0, none⟩) n cap) n f) (k : Sp T w w') (hc : c ∉ T) : Fe e w' base (.slice (some ⟨c, 0, none⟩) n cap) n f :=
  own_sp k h (fun b hb => by
    have : c = b := Option.some.inj hb
    rw [← this]; exact hc)
theorem Fe.lt {e : TypeId} {w : World} {base c n cap : Nat} {f : Nat → Int} (h : Fe e w base (.slice (some ⟨c, 0, none⟩) n cap) n f) : base ≤ c ∧ c < w.heap.size := World.ownsRow.lt h c rfl
abbrev sl (c N : Nat) : Value := .slice (some ⟨c, 0, none⟩) N N
set_option maxRecDepth 100000 in
set_option maxHeartbeats 2000000 in
theorem newF_any (N : Nat) (s : Int) (hg : gg N s = true) (w : World) : Calls Tryz.prog 40 #[gV N s] w fun e w' => ∃ b1 b2, e = .returned (.tuple #[lV N s 1 (.slice (some ⟨b1, 0, none⟩) N N) (.slice (some ⟨b2, 0, none⟩) N N), .int .i64 0]) ∧ b1 ≠ b2 ∧ Fe 112 w' w.heap.size (.slice (some ⟨b1, 0, none⟩) N N) N (fun _ => 0) ∧ Fe 3 w' w.heap.size (.slice (some ⟨b2, 0, none⟩) N N) N (fun _ => 0) ∧ Kp w w' := by
  have hG := good_any N s
  obtain ⟨g1, g2, g3, g4⟩ := (gg_iff _ _).1 hg
  rw [hg] at hG
  have hB := fun w' => blank_anyL9 N s w' (by omega)
  clear hg
  unfold gV at hG hB ⊢
  go_enter Tryz.func40, Tryz.ntmps40
  go_wp2_with fail
  refine (hG _).mono ?_; rintro e w1 ⟨rfl, k1⟩
  have l1 : Lc w1 (w.heap.size + 1) 0 0 0 (.slice none 0 0) (.slice none 0 0) := by
    have := (Lc.new (w.alloc (.cells #[.int .i64 (N : Int), .int .i64 s] 27)) 0 0 0 (.slice none 0 0) (.slice none 0 0) 30)
    simp only [asz] at this
    exact this.kept k1
  have z1 : ∀ o, w1.frozen? ⟨w.heap.size + 1, o, none⟩ = false := fun o => (Below.frozen (p := ⟨w.heap.size + 1, o, none⟩) k1 (by simp)).trans (by simp)
  have c0 : w1.cell? ⟨w.heap.size, 0, none⟩ = some (.int .i64 (N : Int)) := k1.held (((Kp.refl _).alloc _).held (by simp))
  have c1 : w1.cell? ⟨w.heap.size, 1, none⟩ = some (.int .i64 s) := k1.held (((Kp.refl _).alloc _).held (by simp))
  have K1 : Kp w w1 := (((Kp.refl w).alloc _).alloc _).trans k1
  have hs1 : w.heap.size + 1 < w1.heap.size := World.block_lt_of_cell? _ _ l1.c0
  clear hG k1
  go_wp2_with fail
  refine (hB _).mono ?_; rintro e w2 ⟨b1, b2, rfl, hne, f1, f2, k2⟩
  have l2 := l1.kept k2
  have z2 : ∀ o, w2.frozen? ⟨w.heap.size + 1, o, none⟩ = false := fun o => (Below.frozen (p := ⟨w.heap.size + 1, o, none⟩) k2 hs1).trans (z1 o)
  have K2 : Hid (Kp w w2) := K1.trans k2
  unfold lV
  clear hB l1 z1 c0 c1 K1 k2
  obtain ⟨c0, c1, c2, c3, c4⟩ := l2
  have hs2 : w.heap.size + 1 < w2.heap.size := World.block_lt_of_cell? _ _ c0
  have F1 : Hid (Fe 112 w2 w1.heap.size (.slice (some ⟨b1, 0, none⟩) N N) N (fun _ => 0)) := f1
  have F2 : Hid (Fe 3 w2 w1.heap.size (.slice (some ⟨b2, 0, none⟩) N N) N (fun _ => 0)) := f2
  clear f1 f2
  go_wp2
  have t2 := (Trd.refl (w.heap.size + 1) w2).over N s 1 (.slice (some ⟨b1, 0, none⟩) N N) (.slice (some ⟨b2, 0, none⟩) N N)
  have lo : ∀ {e : TypeId} {b : Nat}, Fe e w2 w1.heap.size (.slice (some ⟨b, 0, none⟩) N N) N (fun _ => 0) → (Value.slice (some ⟨b, 0, none⟩) N N).ownBlock ≠ some (w.heap.size + 1) := fun {e b} h h' => by
    have h1 := (World.ownsRow.lt h b rfl).1
    have h2 : b = w.heap.size + 1 := Option.some.inj h'
    omega
  have n1 := ((t2.fe F1.out (lo F1.out)).kept ((Kp.refl _).alloc (.cells #[.int .i64 (N : Int), .int .i64 s, .int .i64 1, .slice (some ⟨b1, 0, none⟩) N N, .slice (some ⟨b2, 0, none⟩) N N] 30)))
  have n2 := ((t2.fe F2.out (lo F2.out)).kept ((Kp.refl _).alloc (.cells #[.int .i64 (N : Int), .int .i64 s, .int .i64 1, .slice (some ⟨b1, 0, none⟩) N N, .slice (some ⟨b2, 0, none⟩) N N] 30)))
  refine bodyPost_ret (results_lb2 rfl _ _ (w.heap.size + 1) rfl rfl ((Lc.over (n2 := N) (s2 := s) (ep2 := 1) (sv2 := .slice (some ⟨b1, 0, none⟩) N N) (mv2 := .slice (some ⟨b2, 0, none⟩) N N) ⟨c0, c1, c2, c3, c4⟩).kept ((Kp.refl _).alloc _))) rfl ?_
  exact ⟨_, _, rfl, hne, n1.mono (by omega), n2.mono (by omega), (t2.kp w K2.out (by omega)).alloc _⟩

end Go.Proofs.YtonooelffokfkaaGreatDoor

namespace Go.Proofs.YtonooelffokfkaaGreatDoor
open Go.RowKit Plain
set_option linter.unusedVariables false

/-- a setup as a value. -/
abbrev xV (m s : Int) (sv mv dv : Value) : Value := .agg #[.int .i64 m, .int .i64 s, sv, mv, dv]
def F1k (sts : List Int) (k i : Nat) : Int := if i < k then stF sts i else 0
def F2k (sts mks : List Int) (s : Int) (k i : Nat) : Int := if i < k then mkF sts mks s i else 0

theorem kp3 (W : World) (p q r : Obj) : Kp W (((W.alloc p).alloc q).alloc r).drew := ((((Kp.refl W).alloc _).alloc _).alloc _).drew
section
variable (W : World) (h N : Nat) (hh : W.heap.size = h) (hN : N ≤ 1000) (p q : Obj) (n s ep : Int) (sv mv : Value) (t : TypeId)
include hh
theorem fe_at0 (hN : N ≤ 1000) : Fe 3 (((W.alloc (.cells (madeCells #[.int .i64 0] N) 3)).alloc p).alloc q).drew W.heap.size (.slice (some ⟨h, 0, none⟩) N N) N (fun _ => 0) := by
  subst hh; exact (Fe.made 3 W N hN).kept (((Kp.refl _).alloc _).alloc _).drew
theorem fe_at1 (hN : N ≤ 1000) : Fe 3 (((W.alloc p).alloc (.cells (madeCells #[.int .i64 0] N) 3)).alloc q).drew W.heap.size (.slice (some ⟨h + 1, 0, none⟩) N N) N (fun _ => 0) := by
  subst hh
  have := (Fe.made 3 (W.alloc p) N hN).kept ((Kp.refl _).alloc q).drew
  rw [asz] at this
  exact this.mono (by omega)
theorem fe_at2 (hN : N ≤ 1000) : Fe 3 (((W.alloc p).alloc q).alloc (.cells (madeCells #[.int .i64 0] N) 3)).drew W.heap.size (.slice (some ⟨h + 1 + 1, 0, none⟩) N N) N (fun _ => 0) := by
  subst hh
  have := (Fe.made 3 ((W.alloc p).alloc q) N hN).kept (Kp.refl _).drew
  rw [asz, asz] at this
  exact this.mono (by omega)
theorem lc_at0 : Lc (((W.alloc (.cells #[.int .i64 n, .int .i64 s, .int .i64 ep, sv, mv] t)).alloc p).alloc q).drew h n s ep sv mv := by
  subst hh; exact (Lc.new W n s ep sv mv t).kept (((Kp.refl _).alloc _).alloc _).drew
theorem lc_at1 : Lc (((W.alloc p).alloc (.cells #[.int .i64 n, .int .i64 s, .int .i64 ep, sv, mv] t)).alloc q).drew (h + 1) n s ep sv mv := by
  subst hh
  have := (Lc.new (W.alloc p) n s ep sv mv t).kept ((Kp.refl _).alloc q).drew
  rw [asz] at this
  exact this
theorem lc_at2 : Lc (((W.alloc p).alloc q).alloc (.cells #[.int .i64 n, .int .i64 s, .int .i64 ep, sv, mv] t)).drew (h + 1 + 1) n s ep sv mv := by
  subst hh
  have := (Lc.new ((W.alloc p).alloc q) n s ep sv mv t).kept (Kp.refl _).drew
  rw [asz, asz] at this
  exact this
end

def upf (f : Nat → Int) (k : Nat) (x : Int) (i : Nat) : Int := if i = k then x else f i
/-- four rows of the call's own, beside what W held. -/
structure Q4 (W : World) (d0 d1 b1 b2 b3 b4 N : Nat) (V : World) (f1 f2 f3 f4 : Nat → Int) : Prop where
  o1 : Fe 112 V d0 (.slice (some ⟨b1, 0, none⟩) N N) N f1
  o2 : Fe 3 V d0 (.slice (some ⟨b2, 0, none⟩) N N) N f2
  o3 : Fe 3 V d1 (.slice (some ⟨b3, 0, none⟩) N N) N f3
  o4 : Fe 3 V d1 (.slice (some ⟨b4, 0, none⟩) N N) N f4
  sp : Sp [b1, b2, b3, b4] W V
  n12 : b1 ≠ b2
  n13 : b1 ≠ b3
  n14 : b1 ≠ b4
  n23 : b2 ≠ b3
  n24 : b2 ≠ b4
  n34 : b3 ≠ b4
section
variable {W V : World} {d0 d1 b1 b2 b3 b4 N : Nat} {f1 f2 f3 f4 : Nat → Int}
theorem Q4.kp (h : Q4 W d0 d1 b1 b2 b3 b4 N V f1 f2 f3 f4) {V' : World} (k : Kp V V') : Q4 W d0 d1 b1 b2 b3 b4 N V' f1 f2 f3 f4 := ⟨h.o1.kept k, h.o2.kept k, h.o3.kept k, h.o4.kept k, h.sp.trans (k.sp _), h.n12, h.n13, h.n14, h.n23, h.n24, h.n34⟩
theorem one_sp (V : World) (b k : Nat) (v : Value) : Sp [b] V (V.setCell ⟨b, k, none⟩ v) := (Sp.refl [b] V).set b k (by simp) v
theorem Q4.put1 (h : Q4 W d0 d1 b1 b2 b3 b4 N V f1 f2 f3 f4) (k : Nat) (x : Int) : Q4 W d0 d1 b1 b2 b3 b4 N (V.setCell ⟨b1, k, none⟩ (.int .i64 x)) (upf f1 k x) f2 f3 f4 :=
  ⟨h.o1.set k x, h.o2.sp (one_sp _ _ _ _) (by simp [h.n12.symm]), h.o3.sp (one_sp _ _ _ _) (by simp [h.n13.symm]), h.o4.sp (one_sp _ _ _ _) (by simp [h.n14.symm]), h.sp.set b1 k (by simp) _, h.n12, h.n13, h.n14, h.n23, h.n24, h.n34⟩
theorem Q4.put2 (h : Q4 W d0 d1 b1 b2 b3 b4 N V f1 f2 f3 f4) (k : Nat) (x : Int) : Q4 W d0 d1 b1 b2 b3 b4 N (V.setCell ⟨b2, k, none⟩ (.int .i64 x)) f1 (upf f2 k x) f3 f4 :=
  ⟨h.o1.sp (one_sp _ _ _ _) (by simp [h.n12]), h.o2.set k x, h.o3.sp (one_sp _ _ _ _) (by simp [h.n23.symm]), h.o4.sp (one_sp _ _ _ _) (by simp [h.n24.symm]), h.sp.set b2 k (by simp) _, h.n12, h.n13, h.n14, h.n23, h.n24, h.n34⟩
theorem Q4.put3 (h : Q4 W d0 d1 b1 b2 b3 b4 N V f1 f2 f3 f4) (k : Nat) (x : Int) : Q4 W d0 d1 b1 b2 b3 b4 N (V.setCell ⟨b3, k, none⟩ (.int .i64 x)) f1 f2 (upf f3 k x) f4 :=
  ⟨h.o1.sp (one_sp _ _ _ _) (by simp [h.n13]), h.o2.sp (one_sp _ _ _ _) (by simp [h.n23]), h.o3.set k x, h.o4.sp (one_sp _ _ _ _) (by simp [h.n34.symm]), h.sp.set b3 k (by simp) _, h.n12, h.n13, h.n14, h.n23, h.n24, h.n34⟩
theorem Q4.put4 (h : Q4 W d0 d1 b1 b2 b3 b4 N V f1 f2 f3 f4) (k : Nat) (x : Int) : Q4 W d0 d1 b1 b2 b3 b4 N (V.setCell ⟨b4, k, none⟩ (.int .i64 x)) f1 f2 f3 (upf f4 k x) :=
  ⟨h.o1.sp (one_sp _ _ _ _) (by simp [h.n14]), h.o2.sp (one_sp _ _ _ _) (by simp [h.n24]), h.o3.sp (one_sp _ _ _ _) (by simp [h.n34]), h.o4.set k x, h.sp.set b4 k (by simp) _, h.n12, h.n13, h.n14, h.n23, h.n24, h.n34⟩
theorem Q4.congr (h : Q4 W d0 d1 b1 b2 b3 b4 N V f1 f2 f3 f4) {g1 g2 g3 g4 : Nat → Int} (e1 : ∀ j, j < N → f1 j = g1 j) (e2 : ∀ j, j < N → f2 j = g2 j) (e3 : ∀ j, j < N → f3 j = g3 j) (e4 : ∀ j, j < N → f4 j = g4 j) : Q4 W d0 d1 b1 b2 b3 b4 N V g1 g2 g3 g4 :=
  ⟨h.o1.congr e1, h.o2.congr e2, h.o3.congr e3, h.o4.congr e4, h.sp, h.n12, h.n13, h.n14, h.n23, h.n24, h.n34⟩
end
theorem F1k_step (sts : List Int) (k j : Nat) : F1k sts (k + 1) j = upf (F1k sts k) k (stF sts k) j := by
  unfold F1k upf
  by_cases e : j = k
  · subst e; rw [if_pos (by omega), if_pos rfl]
  · rw [if_neg e]
    by_cases h : j < k
    · rw [if_pos (by omega)]; exact (if_pos h).symm
    · rw [if_neg (by omega)]; exact (if_neg h).symm
theorem F2k_step (sts mks : List Int) (s : Int) (k j : Nat) : F2k sts mks s (k + 1) j = upf (F2k sts mks s k) k (mkF sts mks s k) j := by
  unfold F2k upf
  by_cases e : j = k
  · subst e; rw [if_pos (by omega), if_pos rfl]
  · rw [if_neg e]
    by_cases h : j < k
    · rw [if_pos (by omega)]; exact (if_pos h).symm
    · rw [if_neg (by omega)]; exact (if_neg h).symm
theorem F1k_at (sts : List Int) (k : Nat) : F1k sts k k = 0 := if_neg (by omega)
theorem F2k_at (sts mks : List Int) (s : Int) (k : Nat) : F2k sts mks s k k = 0 := if_neg (by omega)
theorem F1k_skip (sts : List Int) (k : Nat) (h : stF sts k = 0) (j : Nat) : F1k sts k j = F1k sts (k + 1) j := by
  rw [F1k_step]; unfold upf
  by_cases e : j = k
  · subst e; rw [if_pos rfl, h]; exact F1k_at sts j
  · rw [if_neg e]
theorem F2k_skip (sts mks : List Int) (s : Int) (k : Nat) (h : mkF sts mks s k = 0) (j : Nat) : F2k sts mks s k j = F2k sts mks s (k + 1) j := by
  rw [F2k_step]; unfold upf
  by_cases e : j = k
  · subst e; rw [if_pos rfl, h]; exact F2k_at sts mks s j
  · rw [if_neg e]

set_option maxRecDepth 100000 in
set_option maxHeartbeats 4000000 in
theorem labels_any (m s : Int) (sv mv dv : Value) (sts mks : List Int) (w : World) (h1 : Nl w sv sts) (h2 : Nl w mv mks) (hd : ∃ a k n, dv = .slice a n k) : Calls Tryz.prog 8 #[xV m s sv mv dv] w fun e w' => ∃ v1 v2 v3 v4, e = .returned (.tuple #[lV (suN m) (suS s) 1 v1 v2, lV (suN m) (suS s) 1 v3 v4]) ∧ (Nl w' v1 (suL m s sts mks).sts ∧ Nl w' v2 (suL m s sts mks).mks ∧ Nl w' v3 (suL m s sts mks).sts ∧ Nl w' v4 (suL m s sts mks).mks) ∧ Kp w w' := by
  obtain ⟨a1, g1, o1, p1, rfl, A1⟩ := h1
  obtain ⟨a2, g2, o2, p2, rfl, A2⟩ := h2
  obtain ⟨a3, p3, m3, rfl⟩ := hd
  have hmax := @imax Tryz.prog
  have hn := suN_bd m
  have hs := suS_bd s
  have e5 : (max 0 m).tmod 5 = (max 0 m) % 5 := Int.tmod_eq_emod_of_nonneg (by omega)
  have e6 : (max 0 s).tmod 6 = (max 0 s) % 6 := Int.tmod_eq_emod_of_nonneg (by omega)
  have b5 : IntKind.i64.wrap (4 + (max 0 m) % 5) = suN m := by rw [IntKind.wrap_i64]; unfold suN; omega
  have b6 : IntKind.i64.wrap (1 + (max 0 s) % 6) = suS s := by rw [IntKind.wrap_i64]; unfold suS; omega
  obtain ⟨N, hN⟩ : ∃ N : Nat, suN m = N := ⟨(suN m).toNat, by omega⟩
  have HL : Hid ((suL m s sts mks).sts = (List.range N).map (stF sts) ∧ (suL m s sts mks).mks = (List.range N).map (mkF sts mks (suS s))) := by
    refine ⟨?_, ?_⟩ <;> (show (List.range (suN m).toNat).map _ = _; rw [hN, Int.toNat_natCast])
  obtain ⟨z, ez⟩ : ∃ z, z = suS s := ⟨_, rfl⟩
  rw [hN] at b5 hn ⊢
  rw [← ez] at b6 hs HL ⊢
  clear hN ez
  have hn4 : 4 ≤ N := by omega
  have hn8 : N ≤ 8 := by omega
  have hgg : gg N z = true := (gg_iff _ _).2 ⟨by omega, by omega, by omega, by omega⟩
  have hNew := fun w' => newF_any N z hgg w'
  unfold gV at hNew
  unfold lV at hNew
  clear hn hgg
  obtain ⟨hz1, hz2⟩ := hs
  go_enter Tryz.func8, Tryz.ntmps8
  go_upto_region 1 with fail
  obtain ⟨W0, hW0⟩ : ∃ W, W = ((w.alloc (.cells #[.int .i64 m, .int .i64 s, .slice a1 sts.length p1, .slice a2 mks.length p2, .slice a3 m3 p3] 25)).alloc (.cells #[.int .i64 0, .int .i64 0, .int .i64 0, .slice none 0 0, .slice none 0 0] 30)).alloc (.cells #[.int .i64 0, .int .i64 0, .int .i64 0, .slice none 0 0, .slice none 0 0] 33) := ⟨_, rfl⟩
  have K0 : Kp w W0 := by rw [hW0]; exact (((Kp.refl w).alloc _).alloc _).alloc _
  have X0 : W0.cell? ⟨w.heap.size, 0, none⟩ = some (.int .i64 m) ∧ W0.cell? ⟨w.heap.size, 1, none⟩ = some (.int .i64 s) ∧ W0.cell? ⟨w.heap.size, 2, none⟩ = some (.slice a1 sts.length p1) ∧ W0.cell? ⟨w.heap.size, 3, none⟩ = some (.slice a2 mks.length p2) := by
    rw [hW0]; exact ⟨(((Kp.refl _).alloc _).alloc _).held (by simp), (((Kp.refl _).alloc _).alloc _).held (by simp), (((Kp.refl _).alloc _).alloc _).held (by simp), (((Kp.refl _).alloc _).alloc _).held (by simp)⟩
  have L1 : Lc W0 (w.heap.size + 1) 0 0 0 (.slice none 0 0) (.slice none 0 0) := by
    have := (Lc.new (w.alloc (.cells #[.int .i64 m, .int .i64 s, .slice a1 sts.length p1, .slice a2 mks.length p2, .slice a3 m3 p3] 25)) 0 0 0 (.slice none 0 0) (.slice none 0 0) 30).kept ((Kp.refl _).alloc (.cells #[.int .i64 0, .int .i64 0, .int .i64 0, .slice none 0 0, .slice none 0 0] 33))
    rw [← hW0] at this
    simpa using this
  have L2 : Lc W0 (w.heap.size + 2) 0 0 0 (.slice none 0 0) (.slice none 0 0) := by
    have := Lc.new ((w.alloc (.cells #[.int .i64 m, .int .i64 s, .slice a1 sts.length p1, .slice a2 mks.length p2, .slice a3 m3 p3] 25)).alloc (.cells #[.int .i64 0, .int .i64 0, .int .i64 0, .slice none 0 0, .slice none 0 0] 30)) 0 0 0 (.slice none 0 0) (.slice none 0 0) 33
    rw [← hW0] at this
    simpa using this
  have ZN : ∀ (V : World) (vs : Array Value) (t : TypeId) (o : Nat), (V.alloc (.cells vs t)).frozen? ⟨V.heap.size, o, none⟩ = false := fun V vs t o => by rw [frozen?_alloc_cells]; simp [World.frozen?]
  have Z1 : ∀ o, W0.frozen? ⟨w.heap.size + 1, o, none⟩ = false := fun o => by
    have e := ZN (w.alloc (.cells #[.int .i64 m, .int .i64 s, .slice a1 sts.length p1, .slice a2 mks.length p2, .slice a3 m3 p3] 25)) #[.int .i64 0, .int .i64 0, .int .i64 0, .slice none 0 0, .slice none 0 0] 30 o
    rw [asz] at e
    rw [hW0]
    exact (Below.frozen (p := ⟨w.heap.size + 1, o, none⟩) ((Kp.refl _).alloc _) (by rw [asz, asz]; show w.heap.size + 1 < _; omega)).trans e
  have Z2 : ∀ o, W0.frozen? ⟨w.heap.size + 2, o, none⟩ = false := fun o => by
    have e := ZN ((w.alloc (.cells #[.int .i64 m, .int .i64 s, .slice a1 sts.length p1, .slice a2 mks.length p2, .slice a3 m3 p3] 25)).alloc (.cells #[.int .i64 0, .int .i64 0, .int .i64 0, .slice none 0 0, .slice none 0 0] 30)) #[.int .i64 0, .int .i64 0, .int .i64 0, .slice none 0 0, .slice none 0 0] 33 o
    rw [asz, asz] at e
    rw [hW0]
    exact e
  have hs0 : W0.heap.size = w.heap.size + 3 := by rw [hW0]; simp
  rw [← hW0]
  clear hW0
  obtain ⟨x0, x1, x2, x3⟩ := X0
  go_cut [4, 5] (fun p q wx => p = .int .i64 (N : Int) ∧ q = .int .i64 z ∧ wx = W0.drew)
  case first =>
    go_region_held3 (fun V => V.cell? ⟨w.heap.size, 0, none⟩ = some (.int .i64 m) ∧ V.cell? ⟨w.heap.size, 1, none⟩ = some (.int .i64 s)) (first | go_keep) (fail)
    all_goals (go_wp2_with fail; go_meet; exact ⟨rfl, rfl, rfl⟩)
  case rest =>
  obtain ⟨rfl, rfl, rfl⟩ := hcut
  have kd : Kp W0 W0.drew := (Kp.refl W0).drew
  have HB0 : Hid (∀ V, Kp W0.drew V → (V.cell? ⟨w.heap.size, 0, none⟩ = some (.int .i64 m) ∧ V.cell? ⟨w.heap.size, 1, none⟩ = some (.int .i64 s) ∧ V.cell? ⟨w.heap.size, 2, none⟩ = some (.slice a1 sts.length p1) ∧ V.cell? ⟨w.heap.size, 3, none⟩ = some (.slice a2 mks.length p2)) ∧ Lc V (w.heap.size + 1) 0 0 0 (.slice none 0 0) (.slice none 0 0) ∧ Lc V (w.heap.size + 2) 0 0 0 (.slice none 0 0) (.slice none 0 0) ∧ (∀ o, V.frozen? ⟨w.heap.size + 1, o, none⟩ = false) ∧ (∀ o, V.frozen? ⟨w.heap.size + 2, o, none⟩ = false) ∧ Kp w V) := fun V k => by
    have q := kd.trans k
    exact ⟨⟨q.held x0, q.held x1, q.held x2, q.held x3⟩, L1.kept q, L2.kept q, fun o => (Below.frozen (p := ⟨w.heap.size + 1, o, none⟩) q (by show w.heap.size + 1 < _; omega)).trans (Z1 o), fun o => (Below.frozen (p := ⟨w.heap.size + 2, o, none⟩) q (by show w.heap.size + 2 < _; omega)).trans (Z2 o), K0.trans q⟩
  have hsd : W0.drew.heap.size = w.heap.size + 3 := hs0
  clear x0 x1 x2 x3 L1 L2 Z1 Z2 ZN K0 hs0 kd e5 e6 b5 b6
  obtain ⟨WD, hWD⟩ : ∃ W, W = W0.drew := ⟨_, rfl⟩
  rw [← hWD] at HB0 hsd ⊢
  clear hWD
  go_wp2_with fail
  refine (hNew _).mono ?_; rintro e w1 ⟨b1, b2, rfl, hne, f1, f2, k1⟩
  have F1 := hid f1
  have F2 := hid f2
  have HK1 := hid k1
  have hs1 : w.heap.size + 3 ≤ w1.heap.size := by have := k1.size; omega
  clear hNew f1 f2 k1
  go_upto_region 3 with fail
  obtain ⟨W1, hW1⟩ : ∃ W, W = w1.alloc (.cells #[.int .i64 (N : Int), .int .i64 z, .int .i64 1, .slice (some ⟨b1, 0, none⟩) N N, .slice (some ⟨b2, 0, none⟩) N N] 30) := ⟨_, rfl⟩
  rw [← hW1]
  have HKW1 : Hid (Kp WD W1) := by show Kp WD W1; rw [hW1]; exact HK1.out.alloc _
  have HLA : Hid (Lc W1 w1.heap.size N z 1 (.slice (some ⟨b1, 0, none⟩) N N) (.slice (some ⟨b2, 0, none⟩) N N)) := by show Lc W1 _ _ _ _ _ _; rw [hW1]; exact Lc.new w1 N z 1 _ _ _
  have HF1 : Hid (Fe 112 W1 WD.heap.size (.slice (some ⟨b1, 0, none⟩) N N) N (fun _ => 0)) := by show Fe _ W1 _ _ _ _; rw [hW1]; exact F1.out.kept ((Kp.refl _).alloc _)
  have HF2 : Hid (Fe 3 W1 WD.heap.size (.slice (some ⟨b2, 0, none⟩) N N) N (fun _ => 0)) := by show Fe _ W1 _ _ _ _; rw [hW1]; exact F2.out.kept ((Kp.refl _).alloc _)
  have hsW1 : W1.heap.size = w1.heap.size + 1 := by rw [hW1]; simp
  have hlt12 : Hid (b1 < w1.heap.size ∧ b2 < w1.heap.size) := ⟨F1.out.lt.2, F2.out.lt.2⟩
  clear hW1 F1 F2 HK1
  have hmk := fun W => run_make_row' (P := Tryz.prog) 22 3 (.int .i64 0) 8 Tryz.underlying22 eiI.i rfl .i64 .i64 N (by omega) (by omega) W
  go_cut [8] (fun p wx => ∃ b3 b4 b5, p = .pointer (some ⟨b5, 0, none⟩) ∧ (b3 ≠ b4 ∧ b3 ≠ b5 ∧ b4 ≠ b5) ∧ Lc wx b5 N z 1 (.slice (some ⟨b3, 0, none⟩) N N) (.slice (some ⟨b4, 0, none⟩) N N) ∧ Fe 3 wx W1.heap.size (.slice (some ⟨b3, 0, none⟩) N N) N (fun _ => 0) ∧ Fe 3 wx W1.heap.size (.slice (some ⟨b4, 0, none⟩) N N) N (fun _ => 0) ∧ W1.heap.size ≤ b5 ∧ Kp W1 wx)
  case first =>
    go_region
    all_goals go_wp2_with fail
    · go_meet; exact ⟨w1.heap.size + 1, w1.heap.size + 1 + 1, w1.heap.size + 1 + 1 + 1, rfl, ⟨by omega, by omega, by omega⟩, lc_at2 W1 (w1.heap.size + 1) hsW1 _ _ _ _ _ _ _ _, fe_at0 W1 (w1.heap.size + 1) N hsW1 _ _ (by omega), fe_at1 W1 (w1.heap.size + 1) N hsW1 _ _ (by omega), by omega, kp3 _ _ _ _⟩
    · go_meet; exact ⟨w1.heap.size + 1, w1.heap.size + 1 + 1 + 1, w1.heap.size + 1 + 1, rfl, ⟨by omega, by omega, by omega⟩, lc_at1 W1 (w1.heap.size + 1) hsW1 _ _ _ _ _ _ _ _, fe_at0 W1 (w1.heap.size + 1) N hsW1 _ _ (by omega), fe_at2 W1 (w1.heap.size + 1) N hsW1 _ _ (by omega), by omega, kp3 _ _ _ _⟩
    · go_meet; exact ⟨w1.heap.size + 1 + 1, w1.heap.size + 1, w1.heap.size + 1 + 1 + 1, rfl, ⟨by omega, by omega, by omega⟩, lc_at2 W1 (w1.heap.size + 1) hsW1 _ _ _ _ _ _ _ _, fe_at1 W1 (w1.heap.size + 1) N hsW1 _ _ (by omega), fe_at0 W1 (w1.heap.size + 1) N hsW1 _ _ (by omega), by omega, kp3 _ _ _ _⟩
    · go_meet; exact ⟨w1.heap.size + 1 + 1 + 1, w1.heap.size + 1, w1.heap.size + 1 + 1, rfl, ⟨by omega, by omega, by omega⟩, lc_at1 W1 (w1.heap.size + 1) hsW1 _ _ _ _ _ _ _ _, fe_at2 W1 (w1.heap.size + 1) N hsW1 _ _ (by omega), fe_at0 W1 (w1.heap.size + 1) N hsW1 _ _ (by omega), by omega, kp3 _ _ _ _⟩
    · go_meet; exact ⟨w1.heap.size + 1 + 1, w1.heap.size + 1 + 1 + 1, w1.heap.size + 1, rfl, ⟨by omega, by omega, by omega⟩, lc_at0 W1 (w1.heap.size + 1) hsW1 _ _ _ _ _ _ _ _, fe_at1 W1 (w1.heap.size + 1) N hsW1 _ _ (by omega), fe_at2 W1 (w1.heap.size + 1) N hsW1 _ _ (by omega), by omega, kp3 _ _ _ _⟩
    · go_meet; exact ⟨w1.heap.size + 1 + 1 + 1, w1.heap.size + 1 + 1, w1.heap.size + 1, rfl, ⟨by omega, by omega, by omega⟩, lc_at0 W1 (w1.heap.size + 1) hsW1 _ _ _ _ _ _ _ _, fe_at2 W1 (w1.heap.size + 1) N hsW1 _ _ (by omega), fe_at1 W1 (w1.heap.size + 1) N hsW1 _ _ (by omega), by omega, kp3 _ _ _ _⟩
  case rest =>
  obtain ⟨b3, b4, b5, rfl, ⟨n34, n35, n45⟩, lb, f3, f4, hb5, k2⟩ := hcut
  have HF3 := hid f3
  have HF4 := hid f4
  have q1 := HF1.out.lt
  have q2 := HF2.out.lt
  have q3 := f3.lt
  have q4 := f4.lt
  have HW0 : Hid (Kp WD wc) := HKW1.out.trans k2
  have HT : Hid (∀ c, c < w.heap.size + 3 ∨ c = w1.heap.size ∨ c = b5 → c ∉ [b1, b2, b3, b4]) := fun c hc hm => by
    have := hlt12.out
    simp only [List.mem_cons, List.not_mem_nil, or_false] at hm
    rcases hm with rfl | rfl | rfl | rfl <;> omega
  have HLA2 := hid (HLA.out.kept k2)
  have HLB := hid lb
  have hb := HB0.out wc HW0.out
  have HP : Hid (∀ V, Sp [b1, b2, b3, b4] wc V → (V.cell? ⟨w.heap.size, 0, none⟩ = some (.int .i64 m) ∧ V.cell? ⟨w.heap.size, 1, none⟩ = some (.int .i64 s) ∧ V.cell? ⟨w.heap.size, 2, none⟩ = some (.slice a1 sts.length p1) ∧ V.cell? ⟨w.heap.size, 3, none⟩ = some (.slice a2 mks.length p2)) ∧ Lc V w1.heap.size N z 1 (.slice (some ⟨b1, 0, none⟩) N N) (.slice (some ⟨b2, 0, none⟩) N N) ∧ Lc V b5 N z 1 (.slice (some ⟨b3, 0, none⟩) N N) (.slice (some ⟨b4, 0, none⟩) N N) ∧ (∀ j, j < sts.length → V.cell? ⟨g1, o1 + j, none⟩ = some (.int .i64 (sts.getD j 0))) ∧ (∀ j, j < mks.length → V.cell? ⟨g2, o2 + j, none⟩ = some (.int .i64 (mks.getD j 0)))) := fun V k => by
    have hx : w.heap.size ∉ [b1, b2, b3, b4] := HT.out _ (.inl (by omega))
    refine ⟨⟨k.held hb.1.1 hx, k.held hb.1.2.1 hx, k.held hb.1.2.2.1 hx, k.held hb.1.2.2.2 hx⟩, HLA2.out.sp k (HT.out _ (.inr (.inl rfl))), HLB.out.sp k (HT.out _ (.inr (.inr rfl))), fun j hj => ?_, fun j hj => ?_⟩
    · have c := A1.c j hj
      have := World.block_lt_of_cell? _ _ c
      exact k.held (hb.2.2.2.2.2.held c) (HT.out _ (.inl (by show g1 < _; have : g1 < w.heap.size := this; omega)))
    · have c := A2.c j hj
      have := World.block_lt_of_cell? _ _ c
      exact k.held (hb.2.2.2.2.2.held c) (HT.out _ (.inl (by show g2 < _; have : g2 < w.heap.size := this; omega)))
  have HQ0 : Hid (Q4 wc WD.heap.size W1.heap.size b1 b2 b3 b4 N wc (F1k sts 0) (F2k sts mks z 0) (F1k sts 0) (F2k sts mks z 0)) :=
    ⟨(HF1.out.kept k2).congr (fun j _ => (if_neg (by omega)).symm), (HF2.out.kept k2).congr (fun j _ => (if_neg (by omega)).symm), f3.congr (fun j _ => (if_neg (by omega)).symm), f4.congr (fun j _ => (if_neg (by omega)).symm), Sp.refl _ _, hne, by have := hlt12.out; omega, by have := hlt12.out; omega, by have := hlt12.out; omega, by have := hlt12.out; omega, n34⟩
  have HEX : Hid (∀ V, Sp [b1, b2, b3, b4] wc V → Lc V (w.heap.size + 1) 0 0 0 (.slice none 0 0) (.slice none 0 0) ∧ Lc V (w.heap.size + 2) 0 0 0 (.slice none 0 0) (.slice none 0 0) ∧ (∀ o, V.frozen? ⟨w.heap.size + 1, o, none⟩ = false) ∧ (∀ o, V.frozen? ⟨w.heap.size + 2, o, none⟩ = false) ∧ Kp w V) := fun V k => by
    have h1 : w.heap.size + 1 ∉ [b1, b2, b3, b4] := HT.out _ (.inl (by omega))
    have h2 : w.heap.size + 2 ∉ [b1, b2, b3, b4] := HT.out _ (.inl (by omega))
    have hsz : w.heap.size + 2 < wc.heap.size := World.block_lt_of_cell? _ _ hb.2.2.1.c0
    refine ⟨hb.2.1.sp k h1, hb.2.2.1.sp k h2, fun o => (k.frozen (by omega) h1 o).trans (hb.2.2.2.1 o), fun o => (k.frozen hsz h2 o).trans (hb.2.2.2.2.1 o), Sp.kp hb.2.2.2.2.2 k (fun t ht => ?_)⟩
    simp only [List.mem_cons, List.not_mem_nil, or_false] at ht
    rcases ht with rfl | rfl | rfl | rfl <;> omega
  have HNN : Hid ((b5 ≠ w.heap.size + 1 ∧ b5 ≠ w.heap.size + 1 + 1) ∧ w1.heap.size ≠ w.heap.size + 1 ∧ w1.heap.size ≠ w.heap.size + 1 + 1) := ⟨⟨by omega, by omega⟩, by omega, by omega⟩
  have hd0 : Hid (w.heap.size + 3 ≤ WD.heap.size ∧ w.heap.size + 3 ≤ W1.heap.size) := ⟨by omega, by omega⟩
  clear lb f3 f4 k2 HF1 HF2 HF3 HF4 HLA HLA2 HLB hb HB0 HKW1 hmk q1 q2 q3 q4 hb5 n34 n35 n45 hne hlt12 hs1 hsW1 hsd HT HW0
  have LE := hid A1.le
  have LE2 := hid A2.le
  have MX := A1.mx
  have MX2 := A2.mx
  have HA1 : Hid (0 < sts.length → a1 = some ⟨g1, o1, none⟩) := A1.ha
  have HA2 : Hid (0 < mks.length → a2 = some ⟨g2, o2, none⟩) := A2.ha
  obtain ⟨n1, en1⟩ : ∃ n, n = sts.length := ⟨_, rfl⟩
  obtain ⟨n2, en2⟩ : ∃ n, n = mks.length := ⟨_, rfl⟩
  have HS1 : Hid (∀ k, k < n1 → stF sts k = (max 0 (sts.getD k 0)) % 3) := fun k hk => if_pos (by rw [← en1]; exact hk)
  have HS0 : Hid (∀ k, ¬ k < n1 → stF sts k = 0) := fun k hk => if_neg (by rw [← en1]; exact hk)
  have HM1 : Hid (∀ k, k < n2 → stF sts k = 2 → mkF sts mks z k = (max 0 (mks.getD k 0)) % z) := fun k hk h2 => if_pos ⟨by rw [← en2]; exact hk, h2⟩
  have HM0 : Hid (∀ k, ¬ (k < n2 ∧ stF sts k = 2) → mkF sts mks z k = 0) := fun k hk => if_neg (by rw [← en2]; exact hk)
  rw [← en1, ← en2] at HP
  rw [← en1] at LE HA1
  rw [← en2] at LE2 HA2
  rw [← en1, ← en2]
  clear en1 en2 A1 A2
  go_wp2_with fail
  go_loopw [36] (fun i wr => ∃ k : Nat, k ≤ N ∧ i = .int .i64 k ∧ Hid (Q4 wc WD.heap.size W1.heap.size b1 b2 b3 b4 N wr (F1k sts k) (F2k sts mks z k) (F1k sts k) (F2k sts mks z k))) (fun i _ => N - (intOf i).toNat)
  case atStart => exact ⟨0, by omega, by go_num, HQ0⟩
  case round =>
    clear HQ0
    obtain ⟨k, hk, rfl, HQ⟩ := hrel
    by_cases hlt : k < N
    · obtain ⟨⟨x0, x1, x2, x3⟩, ⟨la0, la1, la2, la3, la4⟩, ⟨lb0, lb1, lb2, lb3, lb4⟩, hx1, hx2⟩ := HP.out wr HQ.out.sp
      have le1 := LE.out
      by_cases hA : k < n1
      · obtain rfl := HA1.out (by omega)
        have cx := hx1 k hA
        have c3 := HQ.out.o3.at k hlt
        have z3 := HQ.out.o3.z k
        have t3 : (max 0 (sts.getD k 0)).tmod 3 = (max 0 (sts.getD k 0)) % 3 := Int.tmod_eq_emod_of_nonneg (by omega)
        have es := HS1.out k hA
        obtain ⟨X, eX⟩ : ∃ X, X = sts.getD k 0 := ⟨_, rfl⟩
        obtain ⟨Y, eY⟩ : ∃ Y, Y = stF sts k := ⟨_, rfl⟩
        rw [← eX] at cx t3 es
        rw [← eY] at es
        rw [← es] at t3
        have es2 := es.symm
        have HY := hid eY
        have HQ1 : Hid (Q4 wc WD.heap.size W1.heap.size b1 b2 b3 b4 N (wr.setCell ⟨b3, k, none⟩ (.int .i64 Y)).drew (F1k sts k) (F2k sts mks z k) (upf (F1k sts k) k Y) (F2k sts mks z k)) := (HQ.out.put3 k Y).kp (Kp.refl _).drew
        obtain ⟨⟨y0, y1, y2, y3⟩, ⟨ma0, ma1, ma2, ma3, ma4⟩, ⟨mb0, mb1, mb2, mb3, mb4⟩, hy1, hy2⟩ := HP.out _ HQ1.out.sp
        have cy := hy1 k hA
        rw [← eX] at cy
        have dx2 : wr.drew.cell? ⟨w.heap.size, 2, none⟩ = _ := x2
        have dlb3 : wr.drew.cell? ⟨b5, 3, none⟩ = _ := lb3
        have dcx : wr.drew.cell? ⟨g1, o1 + k, none⟩ = _ := cx
        clear eX eY hx1 hx2 hy1 hy2 es
        go_upto_region 8 with fail
        go_region_held3 (fun V => V.cell? ⟨w.heap.size, 2, none⟩ = some (.slice (some ⟨g1, o1, none⟩) n1 p1) ∧ V.cell? ⟨b5, 3, none⟩ = some (.slice (some ⟨b3, 0, none⟩) N N) ∧ V.cell? ⟨g1, o1 + k, none⟩ = some (.int .i64 X)) (first | exact ⟨dx2, dlb3, dcx⟩ | exact ⟨x2, lb3, cx⟩ | exact ⟨y2, mb3, cy⟩ | go_keep) (fail)
        have cr := HQ1.out.o3.at k hlt
        rw [show upf (F1k sts k) k Y k = Y from if_pos rfl] at cr
        have c1 := HQ1.out.o1.at k hlt
        have z1 := HQ1.out.o1.z k
        obtain ⟨V1, hV1⟩ : ∃ V, V = (wr.setCell ⟨b3, k, none⟩ (.int .i64 Y)).drew := ⟨_, rfl⟩
        rw [← hV1] at HQ1 y0 y1 y2 y3 ma0 ma1 ma2 ma3 ma4 mb0 mb1 mb2 mb3 mb4 cy cr c1 z1 ⊢
        have HQ2 : Hid (Q4 wc WD.heap.size W1.heap.size b1 b2 b3 b4 N (V1.setCell ⟨b1, k, none⟩ (.int .i64 Y)).drew (upf (F1k sts k) k Y) (F2k sts mks z k) (upf (F1k sts k) k Y) (F2k sts mks z k)) := (HQ1.out.put1 k Y).kp (Kp.refl _).drew
        clear hV1 x0 x1 x2 x3 la0 la1 la2 la3 la4 lb0 lb1 lb2 lb3 lb4 cx c3 z3 dx2 dlb3 dcx t3 es2 HQ HQ1
        obtain ⟨_, ⟨_, _, _, na3, _⟩, ⟨_, _, _, nb3, _⟩, _, _⟩ := HP.out _ HQ2.out.sp
        have cr2 := HQ2.out.o3.at k hlt
        rw [show upf (F1k sts k) k Y k = Y from if_pos rfl] at cr2
        have dma3 : V1.drew.cell? ⟨w1.heap.size, 3, none⟩ = _ := ma3
        have dmb3 : V1.drew.cell? ⟨b5, 3, none⟩ = _ := mb3
        have dcr : V1.drew.cell? ⟨b3, k, none⟩ = _ := cr
        go_upto_region 9 with fail
        go_region_held3 (fun V => V.cell? ⟨w1.heap.size, 3, none⟩ = some (.slice (some ⟨b1, 0, none⟩) N N) ∧ V.cell? ⟨b5, 3, none⟩ = some (.slice (some ⟨b3, 0, none⟩) N N) ∧ V.cell? ⟨b3, k, none⟩ = some (.int .i64 Y)) (first | exact ⟨dma3, dmb3, dcr⟩ | exact ⟨ma3, mb3, cr⟩ | exact ⟨na3, nb3, cr2⟩ | go_keep) (fail)
        have HQV : Hid (Q4 wc WD.heap.size W1.heap.size b1 b2 b3 b4 N (V1.setCell ⟨b1, k, none⟩ (.int .i64 Y)).drew (F1k sts (k + 1)) (F2k sts mks z k) (F1k sts (k + 1)) (F2k sts mks z k)) := HQ2.out.congr (fun j _ => by rw [F1k_step, ← HY.out]) (fun _ _ => rfl) (fun j _ => by rw [F1k_step, ← HY.out]) (fun _ _ => rfl)
        obtain ⟨V2, hV2⟩ : ∃ V, V = (V1.setCell ⟨b1, k, none⟩ (.int .i64 Y)).drew := ⟨_, rfl⟩
        rw [← hV2] at HQV ⊢
        clear hV2 HQ2 y0 y1 y2 y3 ma0 ma1 ma2 ma3 ma4 mb0 mb1 mb2 mb3 mb4 cy cr c1 z1 na3 nb3 cr2 dma3 dmb3 dcr HY
        obtain ⟨⟨x0, x1, x2, x3⟩, ⟨la0, la1, la2, la3, la4⟩, ⟨lb0, lb1, lb2, lb3, lb4⟩, hx1, hx2⟩ := HP.out V2 HQV.out.sp
        have cs := HQV.out.o3.at k hlt
        rw [show F1k sts (k + 1) k = stF sts k from if_pos (by omega)] at cs
        have le2 := LE2.out
        by_cases hB : k < n2
        · obtain rfl := HA2.out (by omega)
          by_cases h2 : stF sts k = 2
          · have cx := hx2 k hB
            have em := HM1.out k hB h2
            have c4 := HQV.out.o4.at k hlt
            have z4 := HQV.out.o4.z k
            have t3 : (max 0 (mks.getD k 0)).tmod z = mkF sts mks z k := by rw [em]; exact Int.tmod_eq_emod_of_nonneg (by omega)
            have em2 := em.symm
            obtain ⟨X, eX⟩ : ∃ X, X = mks.getD k 0 := ⟨_, rfl⟩
            obtain ⟨Y, eY⟩ : ∃ Y, Y = mkF sts mks z k := ⟨_, rfl⟩
            have HQ5 : Hid (Q4 wc WD.heap.size W1.heap.size b1 b2 b3 b4 N (V2.setCell ⟨b4, k, none⟩ (.int .i64 Y)).drew (F1k sts (k + 1)) (F2k sts mks z k) (F1k sts (k + 1)) (upf (F2k sts mks z k) k Y)) := (HQV.out.put4 k Y).kp (Kp.refl _).drew
            obtain ⟨⟨y0, y1, y2, y3⟩, ⟨ma0, ma1, ma2, ma3, ma4⟩, ⟨mb0, mb1, mb2, mb3, mb4⟩, hy1, hy2⟩ := HP.out _ HQ5.out.sp
            have cy := hy2 k hB
            rw [← eX] at cx t3 em2 cy
            rw [← eY] at t3 em2
            have hz0 : (z == 0) = false := beq_eq_false_iff_ne.2 (by omega)
            have hz00 : ¬ z = 0 := by omega
            have HY := hid eY
            rw [h2] at cs
            have dx3 : V2.drew.cell? ⟨w.heap.size, 3, none⟩ = _ := x3
            have dlb4 : V2.drew.cell? ⟨b5, 4, none⟩ = _ := lb4
            have dcx : V2.drew.cell? ⟨g2, o2 + k, none⟩ = _ := cx
            clear eX eY em hx1 hx2 h2 hy1 hy2
            go_upto_region 11 with fail
            go_region_held3 (fun V => V.cell? ⟨w.heap.size, 3, none⟩ = some (.slice (some ⟨g2, o2, none⟩) n2 p2) ∧ V.cell? ⟨b5, 4, none⟩ = some (.slice (some ⟨b4, 0, none⟩) N N) ∧ V.cell? ⟨g2, o2 + k, none⟩ = some (.int .i64 X)) (first | exact ⟨dx3, dlb4, dcx⟩ | exact ⟨x3, lb4, cx⟩ | exact ⟨y3, mb4, cy⟩ | go_keep) (fail)
            have cr := HQ5.out.o4.at k hlt
            rw [show upf (F2k sts mks z k) k Y k = Y from if_pos rfl] at cr
            have c2 := HQ5.out.o2.at k hlt
            have z2 := HQ5.out.o2.z k
            obtain ⟨V3, hV3⟩ : ∃ V, V = (V2.setCell ⟨b4, k, none⟩ (.int .i64 Y)).drew := ⟨_, rfl⟩
            rw [← hV3] at HQ5 y0 y1 y2 y3 ma0 ma1 ma2 ma3 ma4 mb0 mb1 mb2 mb3 mb4 cy cr c2 z2 ⊢
            have HQ6 : Hid (Q4 wc WD.heap.size W1.heap.size b1 b2 b3 b4 N (V3.setCell ⟨b2, k, none⟩ (.int .i64 Y)).drew (F1k sts (k + 1)) (upf (F2k sts mks z k) k Y) (F1k sts (k + 1)) (upf (F2k sts mks z k) k Y)) := (HQ5.out.put2 k Y).kp (Kp.refl _).drew
            clear hV3 x0 x1 x2 x3 la0 la1 la2 la3 la4 lb0 lb1 lb2 lb3 lb4 cx c4 z4 dx3 dlb4 dcx t3 em2 HQV HQ5 cs
            obtain ⟨_, ⟨_, _, _, _, na4⟩, ⟨_, _, _, _, nb4⟩, _, _⟩ := HP.out _ HQ6.out.sp
            have cr2 := HQ6.out.o4.at k hlt
            rw [show upf (F2k sts mks z k) k Y k = Y from if_pos rfl] at cr2
            have dma4 : V3.drew.cell? ⟨w1.heap.size, 4, none⟩ = _ := ma4
            have dmb4 : V3.drew.cell? ⟨b5, 4, none⟩ = _ := mb4
            have dcr : V3.drew.cell? ⟨b4, k, none⟩ = _ := cr
            go_upto_region 12 with fail
            go_region_held3 (fun V => V.cell? ⟨w1.heap.size, 4, none⟩ = some (.slice (some ⟨b2, 0, none⟩) N N) ∧ V.cell? ⟨b5, 4, none⟩ = some (.slice (some ⟨b4, 0, none⟩) N N) ∧ V.cell? ⟨b4, k, none⟩ = some (.int .i64 Y)) (first | exact ⟨dma4, dmb4, dcr⟩ | exact ⟨ma4, mb4, cr⟩ | exact ⟨na4, nb4, cr2⟩ | go_keep) (fail)
            have HQF : Hid (Q4 wc WD.heap.size W1.heap.size b1 b2 b3 b4 N (V3.setCell ⟨b2, k, none⟩ (.int .i64 Y)).drew (F1k sts (k + 1)) (F2k sts mks z (k + 1)) (F1k sts (k + 1)) (F2k sts mks z (k + 1))) := HQ6.out.congr (fun _ _ => rfl) (fun j _ => by rw [F2k_step, ← HY.out]) (fun _ _ => rfl) (fun j _ => by rw [F2k_step, ← HY.out])
            clear HQ6 y0 y1 y2 y3 ma0 ma1 ma2 ma3 ma4 mb0 mb1 mb2 mb3 mb4 cy cr c2 z2 na4 nb4 cr2 dma4 dmb4 dcr HY
            go_wp2
            go_roundw
            case rel => exact ⟨k + 1, by omega, by go_num, HQF⟩
            case measure => simp [intOf]; omega
          · have em := HM0.out k (fun h => h2 h.2)
            have HQF : Hid (Q4 wc WD.heap.size W1.heap.size b1 b2 b3 b4 N V2 (F1k sts (k + 1)) (F2k sts mks z (k + 1)) (F1k sts (k + 1)) (F2k sts mks z (k + 1))) := HQV.out.congr (fun _ _ => rfl) (fun j _ => F2k_skip sts mks z k em j) (fun _ _ => rfl) (fun j _ => F2k_skip sts mks z k em j)
            obtain ⟨Y, eY⟩ : ∃ Y, Y = stF sts k := ⟨_, rfl⟩
            rw [← eY] at cs h2
            have h2b : (Y == 2) = false := beq_eq_false_iff_ne.2 h2
            clear em HQV hx1 hx2 eY
            go_wp2
            go_roundw
            case rel => exact ⟨k + 1, by omega, by go_num, HQF⟩
            case measure => simp [intOf]; omega
        · have em := HM0.out k (fun h => hB h.1)
          have HQF : Hid (Q4 wc WD.heap.size W1.heap.size b1 b2 b3 b4 N V2 (F1k sts (k + 1)) (F2k sts mks z (k + 1)) (F1k sts (k + 1)) (F2k sts mks z (k + 1))) := HQV.out.congr (fun _ _ => rfl) (fun j _ => F2k_skip sts mks z k em j) (fun _ _ => rfl) (fun j _ => F2k_skip sts mks z k em j)
          have hBb : ¬ (k : Int) < (n2 : Int) := by omega
          clear em HQV hx1 hx2
          go_wp2
          go_roundw
          case rel => exact ⟨k + 1, by omega, by go_num, HQF⟩
          case measure => simp [intOf]; omega
      · have em := HS0.out k hA
        have HQV : Hid (Q4 wc WD.heap.size W1.heap.size b1 b2 b3 b4 N wr (F1k sts (k + 1)) (F2k sts mks z k) (F1k sts (k + 1)) (F2k sts mks z k)) := HQ.out.congr (fun j _ => F1k_skip sts k em j) (fun _ _ => rfl) (fun j _ => F1k_skip sts k em j) (fun _ _ => rfl)
        have hAb : ¬ (k : Int) < (n1 : Int) := by omega
        obtain ⟨V2, hV2⟩ : ∃ V, V = wr := ⟨_, rfl⟩
        rw [← hV2] at HQV ⊢
        clear hV2 HQ hx1 hx2 x0 x1 x2 x3 la0 la1 la2 la3 la4 lb0 lb1 lb2 lb3 lb4
        obtain ⟨⟨x0, x1, x2, x3⟩, ⟨la0, la1, la2, la3, la4⟩, ⟨lb0, lb1, lb2, lb3, lb4⟩, hx1, hx2⟩ := HP.out V2 HQV.out.sp
        have cs := HQV.out.o3.at k hlt
        rw [show F1k sts (k + 1) k = stF sts k from if_pos (by omega)] at cs
        have le2 := LE2.out
        by_cases hB : k < n2
        · obtain rfl := HA2.out (by omega)
          by_cases h2 : stF sts k = 2
          · have cx := hx2 k hB
            have em := HM1.out k hB h2
            have c4 := HQV.out.o4.at k hlt
            have z4 := HQV.out.o4.z k
            have t3 : (max 0 (mks.getD k 0)).tmod z = mkF sts mks z k := by rw [em]; exact Int.tmod_eq_emod_of_nonneg (by omega)
            have em2 := em.symm
            obtain ⟨X, eX⟩ : ∃ X, X = mks.getD k 0 := ⟨_, rfl⟩
            obtain ⟨Y, eY⟩ : ∃ Y, Y = mkF sts mks z k := ⟨_, rfl⟩
            have HQ5 : Hid (Q4 wc WD.heap.size W1.heap.size b1 b2 b3 b4 N (V2.setCell ⟨b4, k, none⟩ (.int .i64 Y)).drew (F1k sts (k + 1)) (F2k sts mks z k) (F1k sts (k + 1)) (upf (F2k sts mks z k) k Y)) := (HQV.out.put4 k Y).kp (Kp.refl _).drew
            obtain ⟨⟨y0, y1, y2, y3⟩, ⟨ma0, ma1, ma2, ma3, ma4⟩, ⟨mb0, mb1, mb2, mb3, mb4⟩, hy1, hy2⟩ := HP.out _ HQ5.out.sp
            have cy := hy2 k hB
            rw [← eX] at cx t3 em2 cy
            rw [← eY] at t3 em2
            have hz0 : (z == 0) = false := beq_eq_false_iff_ne.2 (by omega)
            have hz00 : ¬ z = 0 := by omega
            have HY := hid eY
            rw [h2] at cs
            have dx3 : V2.drew.cell? ⟨w.heap.size, 3, none⟩ = _ := x3
            have dlb4 : V2.drew.cell? ⟨b5, 4, none⟩ = _ := lb4
            have dcx : V2.drew.cell? ⟨g2, o2 + k, none⟩ = _ := cx
            clear eX eY em hx1 hx2 h2 hy1 hy2
            go_upto_region 11 with fail
            go_region_held3 (fun V => V.cell? ⟨w.heap.size, 3, none⟩ = some (.slice (some ⟨g2, o2, none⟩) n2 p2) ∧ V.cell? ⟨b5, 4, none⟩ = some (.slice (some ⟨b4, 0, none⟩) N N) ∧ V.cell? ⟨g2, o2 + k, none⟩ = some (.int .i64 X)) (first | exact ⟨dx3, dlb4, dcx⟩ | exact ⟨x3, lb4, cx⟩ | exact ⟨y3, mb4, cy⟩ | go_keep) (fail)
            have cr := HQ5.out.o4.at k hlt
            rw [show upf (F2k sts mks z k) k Y k = Y from if_pos rfl] at cr
            have c2 := HQ5.out.o2.at k hlt
            have z2 := HQ5.out.o2.z k
            obtain ⟨V3, hV3⟩ : ∃ V, V = (V2.setCell ⟨b4, k, none⟩ (.int .i64 Y)).drew := ⟨_, rfl⟩
            rw [← hV3] at HQ5 y0 y1 y2 y3 ma0 ma1 ma2 ma3 ma4 mb0 mb1 mb2 mb3 mb4 cy cr c2 z2 ⊢
            have HQ6 : Hid (Q4 wc WD.heap.size W1.heap.size b1 b2 b3 b4 N (V3.setCell ⟨b2, k, none⟩ (.int .i64 Y)).drew (F1k sts (k + 1)) (upf (F2k sts mks z k) k Y) (F1k sts (k + 1)) (upf (F2k sts mks z k) k Y)) := (HQ5.out.put2 k Y).kp (Kp.refl _).drew
            clear hV3 x0 x1 x2 x3 la0 la1 la2 la3 la4 lb0 lb1 lb2 lb3 lb4 cx c4 z4 dx3 dlb4 dcx t3 em2 HQV HQ5 cs
            obtain ⟨_, ⟨_, _, _, _, na4⟩, ⟨_, _, _, _, nb4⟩, _, _⟩ := HP.out _ HQ6.out.sp
            have cr2 := HQ6.out.o4.at k hlt
            rw [show upf (F2k sts mks z k) k Y k = Y from if_pos rfl] at cr2
            have dma4 : V3.drew.cell? ⟨w1.heap.size, 4, none⟩ = _ := ma4
            have dmb4 : V3.drew.cell? ⟨b5, 4, none⟩ = _ := mb4
            have dcr : V3.drew.cell? ⟨b4, k, none⟩ = _ := cr
            go_upto_region 12 with fail
            go_region_held3 (fun V => V.cell? ⟨w1.heap.size, 4, none⟩ = some (.slice (some ⟨b2, 0, none⟩) N N) ∧ V.cell? ⟨b5, 4, none⟩ = some (.slice (some ⟨b4, 0, none⟩) N N) ∧ V.cell? ⟨b4, k, none⟩ = some (.int .i64 Y)) (first | exact ⟨dma4, dmb4, dcr⟩ | exact ⟨ma4, mb4, cr⟩ | exact ⟨na4, nb4, cr2⟩ | go_keep) (fail)
            have HQF : Hid (Q4 wc WD.heap.size W1.heap.size b1 b2 b3 b4 N (V3.setCell ⟨b2, k, none⟩ (.int .i64 Y)).drew (F1k sts (k + 1)) (F2k sts mks z (k + 1)) (F1k sts (k + 1)) (F2k sts mks z (k + 1))) := HQ6.out.congr (fun _ _ => rfl) (fun j _ => by rw [F2k_step, ← HY.out]) (fun _ _ => rfl) (fun j _ => by rw [F2k_step, ← HY.out])
            clear HQ6 y0 y1 y2 y3 ma0 ma1 ma2 ma3 ma4 mb0 mb1 mb2 mb3 mb4 cy cr c2 z2 na4 nb4 cr2 dma4 dmb4 dcr HY
            go_wp2
            go_roundw
            case rel => exact ⟨k + 1, by omega, by go_num, HQF⟩
            case measure => simp [intOf]; omega
          · have em := HM0.out k (fun h => h2 h.2)
            have HQF : Hid (Q4 wc WD.heap.size W1.heap.size b1 b2 b3 b4 N V2 (F1k sts (k + 1)) (F2k sts mks z (k + 1)) (F1k sts (k + 1)) (F2k sts mks z (k + 1))) := HQV.out.congr (fun _ _ => rfl) (fun j _ => F2k_skip sts mks z k em j) (fun _ _ => rfl) (fun j _ => F2k_skip sts mks z k em j)
            obtain ⟨Y, eY⟩ : ∃ Y, Y = stF sts k := ⟨_, rfl⟩
            rw [← eY] at cs h2
            have h2b : (Y == 2) = false := beq_eq_false_iff_ne.2 h2
            clear em HQV hx1 hx2 eY
            go_wp2
            go_roundw
            case rel => exact ⟨k + 1, by omega, by go_num, HQF⟩
            case measure => simp [intOf]; omega
        · have em := HM0.out k (fun h => hB h.1)
          have HQF : Hid (Q4 wc WD.heap.size W1.heap.size b1 b2 b3 b4 N V2 (F1k sts (k + 1)) (F2k sts mks z (k + 1)) (F1k sts (k + 1)) (F2k sts mks z (k + 1))) := HQV.out.congr (fun _ _ => rfl) (fun j _ => F2k_skip sts mks z k em j) (fun _ _ => rfl) (fun j _ => F2k_skip sts mks z k em j)
          have hBb : ¬ (k : Int) < (n2 : Int) := by omega
          clear em HQV hx1 hx2
          go_wp2
          go_roundw
          case rel => exact ⟨k + 1, by omega, by go_num, HQF⟩
          case measure => simp [intOf]; omega
    · obtain rfl : k = N := by omega
      obtain ⟨_, ⟨la0, la1, la2, la3, la4⟩, ⟨lb0, lb1, lb2, lb3, lb4⟩, _, _⟩ := HP.out wr HQ.out.sp
      obtain ⟨⟨u0, u1, u2, u3, u4⟩, ⟨v0, v1, v2, v3, v4⟩, zz1, zz2, kk⟩ := HEX.out wr HQ.out.sp
      have q1 : Hid (Lc wr (w.heap.size + 1) 0 0 0 (.slice none 0 0) (.slice none 0 0)) := ⟨u0, u1, u2, u3, u4⟩
      have q2 : Hid (Lc wr (w.heap.size + 2) 0 0 0 (.slice none 0 0) (.slice none 0 0)) := ⟨v0, v1, v2, v3, v4⟩
      have HKK := hid kk
      clear kk
      obtain ⟨⟨e1, e2⟩, e3, e4⟩ := HNN.out
      have e5 : w.heap.size + 1 + 1 ≠ w.heap.size + 1 := by omega
      have e6 : w.heap.size + 1 ≠ w.heap.size + 1 + 1 := by omega
      go_wp2_with fail
      go_region
      go_wp2
      have t1' := (Trd.refl (w.heap.size + 1) wr).over (k : Int) z 1 (.slice (some ⟨b1, 0, none⟩) k k) (.slice (some ⟨b2, 0, none⟩) k k)
      have t2' := ((Trd.refl (w.heap.size + 1 + 1) (over wr (w.heap.size + 1) (k : Int) z 1 (.slice (some ⟨b1, 0, none⟩) k k) (.slice (some ⟨b2, 0, none⟩) k k))).over (k : Int) z 1 (.slice (some ⟨b3, 0, none⟩) k k) (.slice (some ⟨b4, 0, none⟩) k k)).drew
      have r1 := t2'.lc (c := w.heap.size + 1) (by omega) (q1.out.over (n2 := (k : Int)) (s2 := z) (ep2 := 1) (sv2 := .slice (some ⟨b1, 0, none⟩) k k) (mv2 := .slice (some ⟨b2, 0, none⟩) k k))
      have r2 := ((t1'.lc (c := w.heap.size + 1 + 1) (by omega) q2.out).over (n2 := (k : Int)) (s2 := z) (ep2 := 1) (sv2 := .slice (some ⟨b3, 0, none⟩) k k) (mv2 := .slice (some ⟨b4, 0, none⟩) k k)).kept (Kp.refl _).drew
      have far : ∀ {e : TypeId} {d b : Nat} {f : Nat → Int}, Fe e wr d (.slice (some ⟨b, 0, none⟩) k k) k f → w.heap.size + 3 ≤ d → (Value.slice (some ⟨b, 0, none⟩) k k).ownBlock ≠ some (w.heap.size + 1) ∧ (Value.slice (some ⟨b, 0, none⟩) k k).ownBlock ≠ some (w.heap.size + 1 + 1) := fun {e d b f} h hd => by
        have h1 := h.lt.1
        exact ⟨fun h' => by have h2 : b = w.heap.size + 1 := Option.some.inj h'
                            omega, fun h' => by have h2 : b = w.heap.size + 1 + 1 := Option.some.inj h'
                                                omega⟩
      have g1' := far HQ.out.o1 hd0.out.1
      have g2' := far HQ.out.o2 hd0.out.1
      have g3' := far HQ.out.o3 hd0.out.2
      have g4' := far HQ.out.o4 hd0.out.2
      have f1 := ((t2'.fe (t1'.fe HQ.out.o1 g1'.1) g1'.2).congr (g := stF sts) (fun j hj => if_pos hj)).nums
      have f2 := ((t2'.fe (t1'.fe HQ.out.o2 g2'.1) g2'.2).congr (g := mkF sts mks z) (fun j hj => if_pos hj)).nums
      have f3 := ((t2'.fe (t1'.fe HQ.out.o3 g3'.1) g3'.2).congr (g := stF sts) (fun j hj => if_pos hj)).nums
      have f4 := ((t2'.fe (t1'.fe HQ.out.o4 g4'.1) g4'.2).congr (g := mkF sts mks z) (fun j hj => if_pos hj)).nums
      rw [← HL.out.1] at f1 f3
      rw [← HL.out.2] at f2 f4
      refine bodyPost_ret (results_both rfl _ _ (w.heap.size + 1) (w.heap.size + 1 + 1) rfl rfl r1 r2) rfl ?_
      exact ⟨_, _, _, _, rfl, ⟨f1, f2, f3, f4⟩, t2'.kp w (t1'.kp w HKK.out (by omega)) (by omega)⟩

end Go.Proofs.YtonooelffokfkaaGreatDoor

namespace Go.Proofs.YtonooelffokfkaaGreatDoor
open Go.RowKit Plain
set_option linter.unusedVariables false

/-- the data columns of a stripe, and all columns. -/
def daL (at_ : Nat → Nat) (n t : Nat) (k : Nat) : List ByteArray := (List.range k).map fun c => scS (at_ (t * n + c)) false
def clL (at_ : Nat → Nat) (n t : Nat) : List ByteArray := daL at_ n t (n - 2) ++ [parS 64 (daL at_ n t (n - 2)), wgtS 64 (daL at_ n t (n - 2))]
theorem da_len (at_ : Nat → Nat) (n t k : Nat) : (daL at_ n t k).length = k := by simp [daL]
theorem da_succ (at_ : Nat → Nat) (n t k : Nat) : daL at_ n t (k + 1) = daL at_ n t k ++ [scS (at_ (t * n + k)) false] := by simp [daL, List.range_succ]
theorem da_sz (at_ : Nat → Nat) (n t k : Nat) : Sz 64 (daL at_ n t k) := fun s hs => by
  obtain ⟨c, _, rfl⟩ := List.mem_map.1 hs
  exact scS_size _
theorem cl_fits (at_ : Nat → Nat) (n t : Nat) : Fits 64 (n - 2) (clL at_ n t) := by
  have h := row_fits (da_sz at_ n t (n - 2))
  rw [da_len] at h
  exact h
theorem cl_len (at_ : Nat → Nat) (n t : Nat) (hn : 2 ≤ n) : (clL at_ n t).length = n := by rw [(cl_fits at_ n t).len]; omega
theorem cl_size (at_ : Nat → Nat) (n t : Nat) : ∀ s ∈ clL at_ n t, s.size = 64 := (cl_fits at_ n t).sz
theorem cl_first (at_ : Nat → Nat) (n t : Nat) (hn : 4 ≤ n) : (clL at_ n t).getD 0 noS = scS (at_ (t * n)) false := by
  unfold clL
  rw [List.getD_eq_getElem?_getD, List.getElem?_append_left (by rw [da_len]; omega)]
  simp [daL, show 0 < n - 2 by omega]
/-- a bay behind the first k columns of a stripe. -/
def ruB (B : BS) (n t : Int) (C : List ByteArray) : Nat → BS
  | 0 => B
  | k + 1 => put (ruB B n t C k) (mM n t k) (rt (bm (ruB B n t C k) (mM n t k)) (100 + t) (C.getD k noS))
def baB (n : Nat) (at_ : Nat → Nat) : Nat → BS
  | 0 => nwB n 170
  | t + 1 => ruB (baB n at_ t) n t (clL at_ n t) n
/-- members that live, with nothing that waits, and what is there of the first t stripes and of k columns of the next. -/
structure Ba (n : Nat) (at_ : Nat → Nat) (B : BS) (T k : Nat) : Prop where
  pw : B.pw = none
  g : B.g = 0
  len : B.ms.length = n
  dead : ∀ i, i < n → (B.ms.getD i noM).dead = false
  row : ∀ i, i < n → (B.ms.getD i noM).row = []
  las : ∀ i, i < n → (B.ms.getD i noM).las.length = 170
  now : ∀ i, i < n → (B.ms.getD i noM).now.length = 170
  right : ∀ i, i < n → Right (B.ms.getD i noM)
  at1 : ∀ t, t < T → ∀ c : Nat, c < n → (B.ms.getD (mM n t c).toNat noM).now.getD (100 + t) noS = (clL at_ n t).getD c noS
  at2 : ∀ c : Nat, c < k → (B.ms.getD (mM n T c).toNat noM).now.getD (100 + T) noS = (clL at_ n T).getD c noS
theorem ba_start (n : Nat) (at_ : Nat → Nat) (h4 : 4 ≤ n) (h8 : n ≤ 8) : Ba n at_ (nwB n 170) 0 0 := by
  have e : (nwB n 170).ms = List.replicate n (nw (nwN 170)) := by
    show List.replicate (min (max (n : Int) 1) 32).toNat _ = _
    rw [show (min (max (n : Int) 1) 32).toNat = n by omega]
  have m : ∀ i, i < n → (nwB n 170).ms.getD i noM = nw (nwN 170) := fun i hi => by
    rw [e]; simp [List.getD_eq_getElem?_getD, hi]
  refine ⟨rfl, rfl, by rw [e]; simp, fun i hi => by rw [m i hi]; rfl, fun i hi => by rw [m i hi]; rfl, fun i hi => by rw [m i hi]; simp [nw, nwN]; omega, fun i hi => by rw [m i hi]; simp [nw, nwN]; omega, fun i hi => by rw [m i hi]; exact Right.nw _, fun t ht => absurd ht (by omega), fun c hc => absurd hc (by omega)⟩
theorem Ba.next {n : Nat} {at_ : Nat → Nat} {B : BS} {T : Nat} (h : Ba n at_ B T n) : Ba n at_ B (T + 1) 0 :=
  ⟨h.pw, h.g, h.len, h.dead, h.row, h.las, h.now, h.right, fun t ht c hc => by
    by_cases e : t = T
    · subst e; exact h.at2 c hc
    · exact h.at1 t (by omega) c hc, fun c hc => absurd hc (by omega)⟩
theorem Ba.bm {n : Nat} {at_ : Nat → Nat} {B : BS} {T k : Nat} (h : Ba n at_ B T k) (hn : 4 ≤ n) (c : Nat) : fdE B (mM n T c) = 0 ∧ (mM n T c).toNat < n := by
  have := mM_bd (n := n) T c (by omega)
  exact ⟨if_pos ⟨this.1, by rw [h.len]; exact this.2⟩, by omega⟩
theorem Ba.rtB {n : Nat} {at_ : Nat → Nat} {B : BS} {T k : Nat} (h : Ba n at_ B T k) (hn : 4 ≤ n) (hT : T < 70) (c : Nat) (hc : c < n) : rtB (Go.Proofs.YtonooelffokfkaaGreatDoor.bm B (mM n T c)) (100 + (T : Int)) ((clL at_ n T).getD c noS) = true := by
  obtain ⟨_, h2⟩ := h.bm hn c
  have hd := h.dead _ h2
  have hl := h.las _ h2
  have hs : ((clL at_ n T).getD c noS).size = 64 := cl_size at_ n T _ (mem_of_at _ _ (by rw [cl_len _ _ _ (by omega)]; exact hc))
  unfold Go.Proofs.YtonooelffokfkaaGreatDoor.rtB rcE Go.Proofs.YtonooelffokfkaaGreatDoor.bm
  rw [hd, hl, hs]
  simp; omega
theorem Ba.step {n : Nat} {at_ : Nat → Nat} {B : BS} {T k : Nat} (h : Ba n at_ B T k) (hn : 4 ≤ n) (hT : T < 70) (hk : k < n) : Ba n at_ (put B (mM n T k) (rt (Go.Proofs.YtonooelffokfkaaGreatDoor.bm B (mM n T k)) (100 + (T : Int)) ((clL at_ n T).getD k noS))) T (k + 1) := by
  have hr := h.rtB hn hT k hk
  obtain ⟨_, h2⟩ := h.bm hn k
  have e : rt (Go.Proofs.YtonooelffokfkaaGreatDoor.bm B (mM n T k)) (100 + (T : Int)) ((clL at_ n T).getD k noS) = ⟨(Go.Proofs.YtonooelffokfkaaGreatDoor.bm B (mM n T k)).now.set (100 + T) ((clL at_ n T).getD k noS), (Go.Proofs.YtonooelffokfkaaGreatDoor.bm B (mM n T k)).las.set (100 + T) ((clL at_ n T).getD k noS), [], false, (Go.Proofs.YtonooelffokfkaaGreatDoor.bm B (mM n T k)).c⟩ := by
    unfold rt
    rw [if_pos hr, show (100 + (T : Int)).toNat = 100 + T by omega]
    have a := h.row _ h2
    have b := h.dead _ h2
    unfold Go.Proofs.YtonooelffokfkaaGreatDoor.bm
    rw [a, b]
    rfl
  rw [e]
  obtain ⟨m, em⟩ : ∃ m, m = (mM n T k).toNat := ⟨_, rfl⟩
  have key : ∀ j S, (put B (mM n T k) S).ms.getD j noM = if j = m then S else B.ms.getD j noM := fun j S => by
    show (B.ms.set (mM n T k).toNat S).getD j noM = _
    rw [← em]
    by_cases ej : j = m
    · subst ej; rw [if_pos rfl]; exact getD_set_eq (by rw [h.len]; omega) _ _
    · rw [if_neg ej]; exact getD_set_ne (fun h => ej h.symm) _ _
  have eb : Go.Proofs.YtonooelffokfkaaGreatDoor.bm B (mM n T k) = B.ms.getD m noM := by unfold Go.Proofs.YtonooelffokfkaaGreatDoor.bm; rw [em]
  have h2' : m < n := by omega
  have rg := h.right m h2'
  refine ⟨h.pw, h.g, by show (B.ms.set _ _).length = n; rw [List.length_set]; exact h.len, fun i hi => ?_, fun i hi => ?_, fun i hi => ?_, fun i hi => ?_, fun i hi => ?_, fun t ht c hc => ?_, fun c hc => ?_⟩
  · rw [key]; split
    · rfl
    · exact h.dead i hi
  · rw [key]; split
    · rfl
    · exact h.row i hi
  · rw [key]; split
    · rw [eb, List.length_set]; exact h.las m h2'
    · exact h.las i hi
  · rw [key]; split
    · rw [eb, List.length_set]; exact h.now m h2'
    · exact h.now i hi
  · rw [key]; split
    · have := Right.rt (h.right m h2') (100 + (T : Int)) ((clL at_ n T).getD k noS)
      rw [← eb, e] at this
      exact this
    · exact h.right i hi
  · rw [key]; split
    · rw [List.getD_eq_getElem?_getD, List.getElem?_set_ne (by omega), ← List.getD_eq_getElem?_getD, eb]
      rename_i hm
      rw [← hm]
      exact h.at1 t ht c hc
    · exact h.at1 t ht c hc
  · rw [key]
    by_cases ec : c = k
    · subst ec
      rw [if_pos em.symm]
      show ((Go.Proofs.YtonooelffokfkaaGreatDoor.bm B (mM n T c)).now.set (100 + T) _).getD (100 + T) noS = _
      exact getD_set_eq (by rw [eb, h.now m h2']; omega) _ _
    · have hne : (mM n T c).toNat ≠ m := fun hh => by
        have b1 := mM_bd (n := n) T c (by omega)
        have b2 := mM_bd (n := n) T k (by omega)
        have := mM_inj (n := n) (t := T) (c := c) (d := k) (by omega) (by omega) (by omega) (by omega) (by omega)
        omega
      rw [if_neg hne]
      exact h.at2 c (by omega)
theorem ba_row (n : Nat) (at_ : Nat → Nat) (hn : 4 ≤ n) {B : BS} {T : Nat} (hT : T < 70) (h : Ba n at_ B T 0) : ∀ k, k ≤ n → Ba n at_ (ruB B n T (clL at_ n T) k) T k
  | 0, _ => h
  | k + 1, hk => (ba_row n at_ hn hT h k (by omega)).step hn hT (by omega)
theorem ba_all (n : Nat) (at_ : Nat → Nat) (h4 : 4 ≤ n) (h8 : n ≤ 8) : ∀ T, T ≤ 70 → Ba n at_ (baB n at_ T) T 0
  | 0, _ => ba_start n at_ h4 h8
  | T + 1, hT => (ba_row n at_ h4 (by omega) (ba_all n at_ h4 h8 T (by omega)) n (Nat.le_refl _)).next

end Go.Proofs.YtonooelffokfkaaGreatDoor

namespace Go.Proofs.YtonooelffokfkaaGreatDoor
open Go.RowKit Plain
set_option linter.unusedVariables false

theorem rt_row (S : MS) (k : Int) (s : ByteArray) : (rt S k s).row.length ≤ S.row.length := by
  unfold rt
  split
  · exact tk_len _ _ _
  · exact Nat.le_refl _
theorem bw_mem {w0 w : World} {b : Nat} {T : List Nat} {B : BS} (h : Bw w0 w b T B) (K : Kp w0 w) {i : Int} (hi : fdE B i = 0) : ∃ x, (Calls Tryz.prog 15 #[.pointer (some ⟨b, 0, none⟩), .int .i64 i] w fun e w' => e = .returned (.pointer (some ⟨x, 0, none⟩)) ∧ w' = w) ∧ (∀ k s, Calls Tryz.prog 19 #[.pointer (some ⟨x, 0, none⟩), .int .i64 k, .string s] w fun e w' => e = .returned (.bool (rtB (bm B i) k s)) ∧ Nz Bw w0 w w' b T (put B i (rt (bm B i) k s))) ∧ Calls Tryz.prog 16 #[.pointer (some ⟨x, 0, none⟩)] w fun e w' => e = .returned (.tuple #[]) ∧ Nz Bw w0 w w' b T (put B i (fa (bm B i))) := by
  obtain ⟨m, X, F, rfl, h1⟩ := h
  have hm := member_any h1 i
  unfold ptr at hm
  rw [if_pos hi] at hm
  obtain ⟨P, p1, p2, p3⟩ := h1.at hi
  have hr := h1.gd.rightAt hi
  have hl := h1.gd.rowAt hi
  refine ⟨_, hm, fun k s => ?_, ?_⟩
  · refine (ow_rot p2 K k s).mono ?_
    rintro e w' ⟨rfl, hn⟩
    exact ⟨rfl, p3 w' _ hn (hr.rt k s) (Nat.le_trans (rt_row _ _ _) hl)⟩
  · refine (ow_fail p2 K).mono ?_
    rintro e w' ⟨rfl, hn⟩
    exact ⟨rfl, p3 w' _ hn Right.fa (Nat.zero_le _)⟩
theorem rw_rot {w0 w : World} {r : Nat} {T : List Nat} {S : MS} (h : Rw w0 w r T S) (K : Kp w0 w) (k : Int) (s : ByteArray) (hr : S.row.length < 1000000) : Calls Tryz.prog 20 #[.pointer (some ⟨r, 0, none⟩), .int .i64 k, .string s] w fun e w' => e = .returned (.bool (rtB S k s)) ∧ Nz Rw w0 w w' r T (rt S k s) := by
  obtain ⟨gs, cap, wv, rfl, h1, h2⟩ := h
  exact (rrot_any h1 k s hr).mono fun e w' ⟨he, hn⟩ => ⟨he, hn.nz K h2⟩
theorem dw_mem {w0 w : World} {y : Nat} {T : List Nat} {B : BS} (h : Dw w0 w y T B) (K : Kp w0 w) {i : Int} (hi : fdE B i = 0) (hg : B.g < 1000000) : ∃ m cap z P, w.cell? ⟨y, 0, none⟩ = some (.slice (some ⟨m, 0, none⟩) B.ms.length cap) ∧ w.cell? ⟨m, i.toNat, none⟩ = some (.pointer (some ⟨z, 0, none⟩)) ∧ (B.ms.length ≤ cap ∧ cap ≤ 9223372036854775807) ∧ (y ∉ P ∧ m ∉ P ∧ ∀ t, t ∈ P → t ∈ T) ∧ (∀ k s w1, Kp w w1 → Calls Tryz.prog 20 #[.pointer (some ⟨z, 0, none⟩), .int .i64 k, .string s] w1 fun e w' => e = .returned (.bool (rtB (bm B i) k s)) ∧ Nz Dw w0 w w' y T (put B i (rt (bm B i) k s)) ∧ Sp P w w') ∧ (∀ w1, Kp w w1 → Calls Tryz.prog 17 #[.pointer (some ⟨z, 0, none⟩)] w1 fun e w' => e = .returned (.tuple #[]) ∧ Nz Dw w0 w w' y T (put B i (fa (bm B i))) ∧ Sp P w w') := by
  obtain ⟨m, cap, X, F, rfl, h1⟩ := h
  obtain ⟨P, p1, p2, p3⟩ := h1.at hi
  have hr := h1.gd.rightAt hi
  have hl := h1.gd.rowAt hi
  obtain ⟨_, _, hlt, _⟩ := bm_mem hi
  have fr : ∀ {w1 w' : World} {z : Nat} {S' : MS}, Kp w w1 → Nz Rw w0 w1 w' z P S' → Nz Rw w0 w w' z P S' := fun {w1 w' z S'} k ⟨T', a1, a2, a3⟩ => ⟨T', a1, (k.sp _).trans a2, fun t ht => (a3 t ht).imp id (fun h => Nat.le_trans k.size h)⟩
  refine ⟨m, cap, X.getD i.toNat 0, P, h1.c0, h1.ar i.toNat hlt, ⟨h1.k1, h1.k2⟩, ⟨fun ht => h1.n1 (p1 _ ht), fun ht => h1.n2 (p1 _ ht), fun t ht => by simp [p1 t ht]⟩, fun k s w1 k1 => ?_, fun w1 k1 => ?_⟩
  · refine (rw_rot (OL.rw.sp p2 (k1.sp []) (fun _ _ h => by cases h)) (K.trans k1) k s (by omega)).mono ?_
    rintro e w' ⟨rfl, hn⟩
    have hn' := fr k1 hn
    exact ⟨rfl, p3 w' _ hn' (hr.rt k s) (Nat.le_trans (rt_row _ _ _) hl), by obtain ⟨_, _, q, _⟩ := hn'; exact q⟩
  · refine (rw_fail (OL.rw.sp p2 (k1.sp []) (fun _ _ h => by cases h)) (K.trans k1)).mono ?_
    rintro e w' ⟨rfl, hn⟩
    have hn' := fr k1 hn
    exact ⟨rfl, p3 w' _ hn' Right.fa (Nat.zero_le _), by obtain ⟨_, _, q, _⟩ := hn'; exact q⟩

end Go.Proofs.YtonooelffokfkaaGreatDoor

namespace Go.Proofs.YtonooelffokfkaaGreatDoor
open Go.RowKit Plain
set_option linter.unusedVariables false

set_option maxRecDepth 100000 in
set_option maxHeartbeats 2000000 in
theorem rrowN_any (n s t : Int) (w : World) : Calls Tryz.prog 52 #[gV n s, .int .i64 t] w fun e w' => ∃ v, e = .returned (.tuple #[v, .int .i64 (row n s t).2]) ∧ InI w' v (row n s t).1 ∧ (∀ k, v.ownBlock = some k → w.heap.size ≤ k) ∧ Kp w w' := by
  obtain ⟨X, eX⟩ : ∃ X, X = row n s t := ⟨_, rfl⟩
  rw [← eX]
  have HX : Hid (X = row n s t) := eX
  clear eX
  have hG := rgood_any n s
  unfold gV at hG ⊢
  go_enter Tryz.func52, Tryz.ntmps52
  go_wp2_with fail
  refine (hG _).mono ?_; rintro e w1 ⟨rfl, k1⟩
  have c0 : w1.cell? ⟨w.heap.size, 0, none⟩ = some (.int .i64 n) := k1.held (by simp)
  have c1 : w1.cell? ⟨w.heap.size, 1, none⟩ = some (.int .i64 s) := k1.held (by simp)
  have KH : Hid (Kp w w1) := ((Kp.refl w).alloc _).trans k1
  clear k1
  clear hG
  cases e1 : gg n s with
  | false =>
    have HF : Hid (X = ([], 4)) := HX.out.trans (row_4 e1)
    clear e1 HX
    go_wp2
    go_ret2
    exact ⟨.slice none 0 0, by rw [HF.out]; rfl, by rw [HF.out]; exact InI.nil _, (fun k hk => by cases hk), KH.out⟩
  | true =>
    have E1 : Hid (gg n s = true) := e1
    obtain ⟨g1, g2, g3, g4⟩ := (gg_iff n s).1 e1
    clear e1
    by_cases h1 : 0 ≤ t
    · by_cases h2 : t < s
      · have HF : Hid (X = (rowL n t, 0)) := HX.out.trans (row_0 E1.out ⟨h1, h2⟩)
        obtain ⟨T, rfl⟩ : ∃ T : Nat, t = T := ⟨t.toNat, by omega⟩
        have hTT : T ≤ 64 := by omega
        have C0 : Hid (∀ w', Kp w1 w' → w'.cell? ⟨w.heap.size, 0, none⟩ = some (.int .i64 n) ∧ w'.cell? ⟨w.heap.size, 1, none⟩ = some (.int .i64 s)) := fun w' k => ⟨k.held c0, k.held c1⟩
        clear HX E1
        go_wp2
        clear c0 c1
        go_loopw [8, 7] (fun i q wr => ∃ (I : Nat) (p : Int), I ≤ T ∧ i = .int .i64 I ∧ q = .int .i64 p ∧ Hid (p = pM n I) ∧ 0 ≤ p ∧ p < n ∧ wr = w1) (fun i _ _ => T - (intOf i).toNat)
        case atStart => exact ⟨0, n - 1, by omega, rfl, rfl, by show n - 1 = pM n ((0 : Nat) : Int); exact (pM_zero n).symm, by omega, by omega, rfl⟩
        case round =>
          obtain ⟨I, p, hI, rfl, rfl, HP, hp0, hp1, rfl⟩ := hrel
          obtain ⟨c0, c1⟩ := C0.out _ (Kp.refl _)
          by_cases hlt : I < T
          · have hs := pM_step n I (by omega) (by omega)
            rw [← HP.out] at hs
            by_cases hz : p - 1 < 0
            · rw [if_pos hz] at hs
              have HP2 : Hid (n - 1 = pM n ((I + 1 : Nat) : Int)) := hs.symm
              clear hs HP
              go_wp2
              go_roundw
              case rel => exact ⟨I + 1, n - 1, by omega, by go_num, by go_num, HP2, by omega, by omega, by trivial⟩
              case measure => simp [intOf]; omega
            · rw [if_neg hz] at hs
              have HP2 : Hid (p - 1 = pM n ((I + 1 : Nat) : Int)) := hs.symm
              clear hs HP
              go_wp2
              go_roundw
              case rel => exact ⟨I + 1, p - 1, by omega, by go_num, by go_num, HP2, by omega, by omega, by trivial⟩
              case measure => simp [intOf]; omega
          · obtain rfl : I = T := by omega
            have hN := next_anyL9 n s p wr (by omega) g2 hp0 hp1
            unfold gV at hN
            obtain ⟨q, eq⟩ : ∃ q, q = nxt n p := ⟨_, rfl⟩
            have hqb := nxt_bd n p hp0 hp1
            rw [← eq] at hN hqb
            rw [HP.out] at eq
            have HQ : Hid (q = nxt n (pM n I)) := eq
            obtain ⟨hq0, hq1⟩ := hqb
            obtain ⟨w1, hw1⟩ : ∃ w1, w1 = wr := ⟨_, rfl⟩
            rw [← hw1] at C0 hN KH c0 c1 ⊢
            clear eq hw1
            obtain ⟨K, hK⟩ : ∃ K : Nat, n - 2 = K := ⟨(n - 2).toNat, by omega⟩
            have hK2 : K ≤ 30 := by omega
            go_wp2_with fail
            refine hN.mono ?_; rintro e w2 ⟨rfl, k2⟩
            clear hN c0 c1
            go_wp2
            go_loopw [12, 11, 10] (fun i u m wr => ∃ (C : Nat) (M : Int), C ≤ K ∧ i = .int .i64 C ∧ m = .int .i64 M ∧ Hid (M = mm n I C) ∧ 0 ≤ M ∧ M < n ∧ Hid (OwnI wr w1.heap.size u (rT n I C)) ∧ Kp w1 wr) (fun i _ _ _ => K - (intOf i).toNat)
            case atStart => exact ⟨0, q, by omega, rfl, rfl, HQ, hq0, hq1, World.ownsRow_nil _ _ _ _, k2⟩
            case round =>
              clear k2
              obtain ⟨C, M, hC, rfl, rfl, HM, hm0, hm1, HO, k2⟩ := hrel
              obtain ⟨c0, c1⟩ := C0.out _ k2
              by_cases hlt2 : C < K
              · have hN := next_anyL9 n s M wr (by omega) g2 hm0 hm1
                unfold gV at hN
                obtain ⟨Y, eY⟩ : ∃ Y, Y = nxt n M := ⟨_, rfl⟩
                have hYb := nxt_bd n M hm0 hm1
                rw [← eY] at hN hYb
                rw [HM.out, mm_next n I C (by omega)] at eY
                have HY : Hid (Y = mM n I C) := eY
                have HY2 : Hid (Y = mm n I (C + 1)) := by rw [mm_succ]; exact eY
                have HR : Hid (rT n I (C + 1) = rT n I C ++ [Y]) := by rw [eY]; exact rT_succ n I C
                have hl : (rT n I C).length ≤ 30 := by rw [rT_len]; omega
                have HL : Hid ((rT n I C).length ≤ 30) := hl
                obtain ⟨hy0, hy1⟩ := hYb
                clear eY hl HM
                go_wp2_with fail
                refine hN.mono ?_; rintro e w3 ⟨rfl, k3⟩
                have HO3 : Hid (OwnI w3 w1.heap.size _ (rT n I C)) := HO.out.kept k3
                have K3 : Kp w1 w3 := k2.trans k3
                clear hN HO k3 k2 c0 c1
                go_wp2_with (at_builtin; refine wpList_append_int rfl _ _ rfl w1.heap.size _ (rT n I C) rfl (HO3.out.alloc _) (Y) _ rfl (by rw [World.cell?_alloc_at _ _ _ _ rfl]; rfl) (by have := HL.out; omega) (by have := K3.size; simp; omega) ?_; intro u2 w4 ho2 hg2; have K4 : Kp w1 w4 := (K3.alloc _).grown hg2 (fun q hq => own_lt HO3.out q hq); have HOw4 : Hid (OwnI w4 w1.heap.size u2 (rT n I C ++ [Y])) := ho2; clear ho2 hg2)
                go_roundw
                case rel => exact ⟨C + 1, Y, by omega, by go_num, rfl, HY2, hy0, hy1, by rw [HR.out]; exact HOw4, K4⟩
                case measure => simp [intOf]; omega
              · obtain rfl : C = K := by omega
                have hl : (rT n I C).length ≤ 30 := by rw [rT_len]; omega
                have HL : Hid ((rT n I C).length ≤ 30) := hl
                have HE : Hid (rT n I C ++ [p] ++ [q] = rowL n I) := by rw [HP.out, HQ.out]; exact rT_full n I C g1 hK.symm
                clear hl HM
                go_wp2_with (first
                  | (at_builtin; refine wpList_append_int rfl _ _ rfl w1.heap.size _ (rT n I C) rfl (HO.out.alloc _) (p) _ rfl (by rw [World.cell?_alloc_at _ _ _ _ rfl]; rfl) (by have := HL.out; omega) (by have := k2.size; simp; omega) ?_; intro u2 w4 ho2 hg2; have K4 : Kp w1 w4 := (k2.alloc _).grown hg2 (fun q hq => own_lt HO.out q hq); have HOw4 : Hid (OwnI w4 w1.heap.size u2 (rT n I C ++ [p])) := ho2; clear ho2 hg2)
                  | (at_builtin; refine wpList_append_int rfl _ _ rfl w1.heap.size _ (rT n I C ++ [p]) rfl (HOw4.out.alloc _) (q) _ rfl (by rw [World.cell?_alloc_at _ _ _ _ rfl]; rfl) (by have := HL.out; rw [List.length_append]; simp; omega) (by have := K4.size; simp; omega) ?_; intro u3 w5 ho2 hg2; have K5 : Kp w1 w5 := (K4.alloc _).grown hg2 (fun q hq => own_lt HOw4.out q hq); have HOw5 : Hid (OwnI w5 w1.heap.size u3 (rT n I C ++ [p] ++ [q])) := ho2; clear ho2 hg2))
                go_ret2
                have hfin := HOw5.out.ints
                rw [HE.out] at hfin
                exact ⟨_, by rw [HF.out]; rfl, by rw [HF.out]; exact hfin, (fun k hk => Nat.le_trans KH.out.size (own_lt HOw5.out k hk)), KH.out.trans K5⟩
      · have HF : Hid (X = ([], 3)) := HX.out.trans (row_3 E1.out (by omega))
        clear HX E1
        go_wp2
        go_ret2
        exact ⟨.slice none 0 0, by rw [HF.out]; rfl, by rw [HF.out]; exact InI.nil _, (fun k hk => by cases hk), KH.out⟩
    · have HF : Hid (X = ([], 3)) := HX.out.trans (row_3 E1.out (by omega))
      clear HX E1
      go_wp2
      go_ret2
      exact ⟨.slice none 0 0, by rw [HF.out]; rfl, by rw [HF.out]; exact InI.nil _, (fun k hk => by cases hk), KH.out⟩


end Go.Proofs.YtonooelffokfkaaGreatDoor

namespace Go.Proofs.YtonooelffokfkaaGreatDoor
open Go.RowKit Plain
set_option linter.unusedVariables false

/-- bytes in memory. -/
def Bl (w : World) (v : Value) (n : Nat) (D : Nat → Nat) : Prop := ∃ a g o cap, v = .slice a n cap ∧ n ≤ cap ∧ cap ≤ 9223372036854775807 ∧ (0 < n → a = some ⟨g, o, none⟩) ∧ ∀ j, j < n → w.cell? ⟨g, o + j, none⟩ = some (.int .u8 (D j : Int)) ∧ D j < 256
theorem Bl.kept {w w' : World} {v : Value} {n : Nat} {D : Nat → Nat} (h : Bl w v n D) (k : Kp w w') : Bl w' v n D := by
  obtain ⟨a, g, o, cap, h1, h2, h3, h4, h5⟩ := h
  exact ⟨a, g, o, cap, h1, h2, h3, h4, fun j hj => ⟨k.held (h5 j hj).1, (h5 j hj).2⟩⟩
def atB (n : Nat) (D : Nat → Nat) (i : Nat) : Nat := if n = 0 then i % 256 else D (i % n) ^^^ (i % 256)
theorem atB_lt {w : World} {v : Value} {n : Nat} {D : Nat → Nat} (h : Bl w v n D) (i : Nat) : atB n D i < 256 := by
  obtain ⟨a, g, o, cap, _, _, _, _, h5⟩ := h
  unfold atB
  split
  · omega
  · exact Nat.xor_lt_two_pow (n := 8) (h5 _ (Nat.mod_lt _ (by omega))).2 (Nat.mod_lt _ (by omega))
theorem wrap_b (i : Nat) : IntKind.u8.wrap (i : Int) = ((i % 256 : Nat) : Int) := by
  rw [IntKind.wrap_u8]; omega
set_option maxRecDepth 100000 in
set_option maxHeartbeats 1000000 in
theorem at_any (m s : Int) (sv mv dv : Value) (n : Nat) (D : Nat → Nat) (i : Nat) (w : World) (h : Bl w dv n D) : Calls Tryz.prog 50 #[xV m s sv mv dv, .int .i64 (i : Int)] w fun e w' => e = .returned (.int .u8 (atB n D i : Int)) ∧ Kp w w' := by
  obtain ⟨a, g, o, cap, rfl, h2, h3, h4, h5⟩ := h
  have hc := wrap_b i
  by_cases h0 : n = 0
  · subst h0
    have HF : Hid (atB 0 D i = i % 256) := if_pos rfl
    go_enter Tryz.func50, Tryz.ntmps50
    go_wp2
    go_ret
    exact ⟨by rw [HF.out]; rfl, (Kp.refl w).alloc _⟩
  · obtain rfl := h4 (by omega)
    obtain ⟨c, hd⟩ := h5 (i % n) (Nat.mod_lt _ (by omega))
    have HF : Hid (atB n D i = D (i % n) ^^^ (i % 256)) := if_neg h0
    obtain ⟨x, ex⟩ : ∃ x, x = D (i % n) := ⟨_, rfl⟩
    rw [← ex] at c hd HF
    have hx := u8_xor_nat x (i % 256) hd (Nat.mod_lt _ (by omega))
    have tm : ((i : Int)).tmod (n : Int) = ((i % n : Nat) : Int) := by rw [Int.tmod_eq_emod_of_nonneg (by omega)]; omega
    have hlt : i % n < n := Nat.mod_lt _ (by omega)
    have n0 : ((n : Int) == 0) = false := beq_eq_false_iff_ne.2 (by omega)
    have n1 : ¬ (n : Int) = 0 := by omega
    have em : (i : Int) % (n : Int) = ((i % n : Nat) : Int) := by omega
    obtain ⟨q, eq⟩ : ∃ q, q = i % n := ⟨_, rfl⟩
    rw [← eq] at c tm hlt em
    have kd : Kp w (w.alloc (.cells #[.int .i64 m, .int .i64 s, sv, mv, .slice (some ⟨g, o, none⟩) n cap] 25)) := (Kp.refl w).alloc _
    have c1 := kd.held c
    have c2 : (w.alloc (.cells #[.int .i64 m, .int .i64 s, sv, mv, .slice (some ⟨g, o, none⟩) n cap] 25)).cell? ⟨w.heap.size, 4, none⟩ = some (.slice (some ⟨g, o, none⟩) n cap) := by simp
    clear h5 h4 eq ex
    go_enter Tryz.func50, Tryz.ntmps50
    go_wp2_with fail
    go_region_held3 (fun V => V.cell? ⟨w.heap.size, 4, none⟩ = some (.slice (some ⟨g, o, none⟩) n cap) ∧ V.cell? ⟨g, o + q, none⟩ = some (.int .u8 (x : Int))) (first | exact ⟨c2, c1⟩ | go_keep) (fail)
    go_wp2
    go_ret
    have hx2 : bits .xor .u8 (x : Int) ((i : Int) % 256) = ((x ^^^ i % 256 : Nat) : Int) := by rw [← hx]; congr 1
    exact ⟨by rw [HF.out, ← hx2]; rfl, kd.drew⟩

end Go.Proofs.YtonooelffokfkaaGreatDoor

namespace Go.Proofs.YtonooelffokfkaaGreatDoor
open Go.RowKit Plain
set_option linter.unusedVariables false

def sv_ (L : List ByteArray) : List Value := L.map Value.string
theorem sv_len (L : List ByteArray) : (sv_ L).length = L.length := by simp [sv_]
theorem OR.strs {w : World} {base : Nat} {e : TypeId} {v : Value} {L : List ByteArray} (h : OR w base e v (sv_ L)) : StrsIn w v L := by
  unfold OR at h
  rw [sv_len] at h
  exact StrsIn.owned h
theorem wpList_append_two {w : World} {ops : Array Oper} {rest : List Oper} {o : Oper} {a : Act} {Q : Exit → Act → World → Prop} (hgd : o.guard = none) (s x : Operand) (t e : TypeId) (z : Value) (bytes : Nat) (ht : Tryz.prog.underlying t = some (.slice e))
    (hinfo : (Tryz.prog.info? e).map (fun i => (i.zero, i.size, i.bytes)) = some (some z, 1, bytes)) (hzs : z.cells.size = 1) (hby : bytes ≤ 64)
    (ho : o.op = .call { callee := .builtin .append, args := #[s, x], argTypes := #[t, t] })
    (base : Nat) (v : Value) (xs : List Value) (hs : a.eval s = v) (hown : OR w base e v xs) (p q : Value) (hp : p.oneCell' = true) (hq : q.oneCell' = true) (k : Nat) (hx : a.eval x = .slice (some ⟨k, 0, none⟩) 2 2) (hc : w.cell? ⟨k, 0, none⟩ = some p) (hd : w.cell? ⟨k, 1, none⟩ = some q)
    (hlen : xs.length + 2 ≤ 1099511627776) (hbase : base ≤ w.heap.size)
    (h : ∀ v' w', OR w' base e v' (xs ++ [p, q]) → w.grownBy w' v.ownBlock → wpList Tryz.prog ops Q rest (a.put o.dst v') w') : wpList Tryz.prog ops Q (o :: rest) a w := by
  obtain ⟨i0, hi, hz0, hz1, hz2⟩ := info_parts hinfo
  refine wpList_append_own_at w hgd s x t ho base e i0 z 1 bytes ht hi hz0 hz1 hz2 hzs (by decide) v xs.length xs hs hown ⟨k, 0, none⟩ 2 2 [p, q] hx rfl ?_ (by simp [hp, hq]) (by unfold maxLen; omega) ?_ hbase (fun v' w' h1 h2 _ h4 => h v' w' ?_ h2)
  · intro j u hj
    match j, hj with
    | 0, hj => simp at hj; subst hj; simpa [Addr.add] using hc
    | 1, hj => simp at hj; subst hj; simpa [Addr.add] using hd
  · have h1 : (xs.length + 2) * bytes ≤ (xs.length + 2) * 64 := Nat.mul_le_mul_left _ hby
    omega
  · unfold OR
    rw [List.length_append]
    exact h1

section
variable {σ τ : Type} {O : World → World → Nat → List Nat → σ → Prop} {Q : World → World → Nat → List Nat → τ → Prop}
/-- a call on the first of two, on the second of two. -/
theorem Both.first (L : OL O) (M : OL Q) {w0 w w' : World} {x y : Nat} {P R : List Nat} {A' : σ} {B : τ} (h2 : Q w0 w y R B) (d : Dj P R) (n : Nz O w0 w w' x P A') : Bx O Q w0 w x y (P ++ R) A' B w' := by
  obtain ⟨P', p1, p2, p3⟩ := n
  refine ⟨P' ++ R, ⟨P', R, rfl, p1, M.sp h2 p2 d.symm, fun t ht ht2 => ?_⟩, p2.mono fun t ht => List.mem_append_left _ ht, fun t ht => ?_⟩
  · rcases p3 t ht with h5 | h5
    · exact d t h5 ht2
    · have := M.low h2 t ht2; omega
  · rcases List.mem_append.1 ht with h5 | h5
    · exact (p3 t h5).imp (fun h => List.mem_append_left _ h) id
    · exact .inl (List.mem_append_right _ h5)
theorem Both.second (L : OL O) (M : OL Q) {w0 w w' : World} {x y : Nat} {P R : List Nat} {A : σ} {B' : τ} (h1 : O w0 w x P A) (d : Dj P R) (n : Nz Q w0 w w' y R B') : Bx O Q w0 w x y (P ++ R) A B' w' := by
  obtain ⟨R', p1, p2, p3⟩ := n
  refine ⟨P ++ R', ⟨P, R', rfl, L.sp h1 p2 d, p1, fun t ht ht2 => ?_⟩, p2.mono fun t ht => List.mem_append_right _ ht, fun t ht => ?_⟩
  · rcases p3 t ht2 with h5 | h5
    · exact d t ht h5
    · have := L.low h1 t ht; omega
  · rcases List.mem_append.1 ht with h5 | h5
    · exact .inl (List.mem_append_left _ h5)
    · exact (p3 t h5).imp (fun h => List.mem_append_right _ h) id
end
/-- numbers stay, where a row of texts grows. -/
theorem InI.grown {w w' : World} {mv v : Value} {l : List Int} {base : Nat} {e : TypeId} {L : List ByteArray} (h : InI w mv l) (ho : OR w base e v (sv_ L)) (hL : 0 < L.length) {ob : Obj} (g : (w.alloc ob).grownBy w' v.ownBlock) : InI w' mv l := by
  obtain ⟨a, c, cap, rfl, h1, h2, h3, h4⟩ := h
  refine ⟨a, c, cap, rfl, h1, h2, h3, fun j hj => (Sp.grown g).held (((Kp.refl w).alloc ob).held (h4 j hj)) (fun hm => ?_)⟩
  obtain ⟨b, c', cp, rfl, _, _, s3, s4⟩ := ho.shape
  rw [sv_len] at s3 s4
  obtain ⟨rfl, _, _⟩ := s3 hL
  have hcc : c' = c := by have h9 : c = c' := by simpa [Value.ownBlock] using hm
                          exact h9.symm
  subst hcc
  have e1 := h4 0 (by omega)
  rw [s4 0 hL] at e1
  simp [sv_, hL] at e1

set_option maxRecDepth 100000 in
set_option maxHeartbeats 4000000 in
theorem bays_any (m s : Int) (sv mv dv : Value) (nd : Nat) (D : Nat → Nat) (N S : Nat) (hN4 : 4 ≤ N) (hN8 : N ≤ 8) (hS1 : 1 ≤ S) (hS6 : S ≤ 6) (v3 v4 : Value) (w : World) (hsv : ∃ a k n, sv = .slice a n k) (hmv : ∃ a k n, mv = .slice a n k) (hd : Bl w dv nd D) : Calls Tryz.prog 13 #[xV m s sv mv dv, lV N S 1 v3 v4] w fun e w' => ∃ b y T, e = .returned (.tuple #[.pointer (some ⟨b, 0, none⟩), .pointer (some ⟨y, 0, none⟩)]) ∧ Both Bw Dw w w' b y T (baB N (atB nd D) S) (baB N (atB nd D) S) ∧ Kp w w' := by
  have hB := fun w' (k : Kp w w') => bw_new N 170 w w' k
  have hR := fun w' (k : Kp w w') => dw_new N 170 w w' k
  have hA := fun (i : Nat) w' (k : Kp w w') => at_any m s sv mv dv nd D i w' (hd.kept k)
  have hAL := fun i => atB_lt hd i
  obtain ⟨at_, eat⟩ : ∃ f, f = atB nd D := ⟨_, rfl⟩
  rw [← eat] at hA hAL ⊢
  clear eat
  have hSc := fun x hx w' => sector_any x hx false w'
  obtain ⟨a1, p1, m1, rfl⟩ := hsv
  obtain ⟨a2, p2, m2, rfl⟩ := hmv
  obtain ⟨a3, p3, m3, rfl⟩ : ∃ a k n, dv = .slice a n k := by obtain ⟨a, g, o, cap, h, _⟩ := hd; exact ⟨a, cap, _, h⟩
  clear hd
  unfold lV
  go_enter Tryz.func13, Tryz.ntmps13
  go_upto_region 1 with fail
  obtain ⟨W0, hW0⟩ : ∃ W, W = (w.alloc (.cells #[.int .i64 m, .int .i64 s, .slice a1 m1 p1, .slice a2 m2 p2, .slice a3 m3 p3] 25)).alloc (.cells #[.int .i64 (N : Int), .int .i64 (S : Int), .int .i64 1, v3, v4] 33) := ⟨_, rfl⟩
  have K0 : Kp w W0 := by rw [hW0]; exact ((Kp.refl w).alloc _).alloc _
  have X0 : Lc W0 w.heap.size 0 0 0 v3 v4 → True := fun _ => trivial
  have x0 : W0.cell? ⟨w.heap.size, 0, none⟩ = some (.int .i64 m) ∧ W0.cell? ⟨w.heap.size, 1, none⟩ = some (.int .i64 s) ∧ W0.cell? ⟨w.heap.size, 2, none⟩ = some (.slice a1 m1 p1) ∧ W0.cell? ⟨w.heap.size, 3, none⟩ = some (.slice a2 m2 p2) ∧ W0.cell? ⟨w.heap.size, 4, none⟩ = some (.slice a3 m3 p3) := by
    rw [hW0]; exact ⟨((Kp.refl _).alloc _).held (by simp), ((Kp.refl _).alloc _).held (by simp), ((Kp.refl _).alloc _).held (by simp), ((Kp.refl _).alloc _).held (by simp), ((Kp.refl _).alloc _).held (by simp)⟩
  have l0 : Lc W0 (w.heap.size + 1) N S 1 v3 v4 := by
    have := Lc.new (w.alloc (.cells #[.int .i64 m, .int .i64 s, .slice a1 m1 p1, .slice a2 m2 p2, .slice a3 m3 p3] 25)) N S 1 v3 v4 33
    rw [← hW0, asz] at this
    exact this
  have hs0 : W0.heap.size = w.heap.size + 2 := by rw [hW0]; simp
  rw [← hW0]
  clear hW0 X0
  have kd : Kp W0 W0.drew := (Kp.refl W0).drew
  have HX0 : Hid (∀ V, Kp W0 V → V.cell? ⟨w.heap.size, 0, none⟩ = some (.int .i64 m) ∧ V.cell? ⟨w.heap.size, 1, none⟩ = some (.int .i64 s) ∧ V.cell? ⟨w.heap.size, 2, none⟩ = some (.slice a1 m1 p1) ∧ V.cell? ⟨w.heap.size, 3, none⟩ = some (.slice a2 m2 p2) ∧ V.cell? ⟨w.heap.size, 4, none⟩ = some (.slice a3 m3 p3)) := fun V k => ⟨k.held x0.1, k.held x0.2.1, k.held x0.2.2.1, k.held x0.2.2.2.1, k.held x0.2.2.2.2⟩
  have HL0 : Hid (∀ V, Kp W0 V → Lc V (w.heap.size + 1) N S 1 v3 v4) := fun V k => l0.kept k
  obtain ⟨c0, c1, c2, c3, c4⟩ := l0
  have d0 := kd.held c0
  go_region_held3 (fun V => V.cell? ⟨w.heap.size + 1, 0, none⟩ = some (.int .i64 (N : Int))) (first | exact q2.held (q1.held d0) | exact q1.held d0 | exact d0 | exact c0 | go_keep) (first
    | (go_at_call 48; refine (hB _ (K0.trans kd)).mono ?_; rintro e w1 ⟨b, T1, rfl, o1, q1, t1⟩)
    | (go_at_call 49; refine (hR _ ((K0.trans kd).trans q1)).mono ?_; rintro e w2 ⟨y, T2, rfl, o2, q2, t2⟩))
  have low1 := OL.bw.low o1
  have HB2 : Hid (Both Bw Dw w w2 b y (T1 ++ T2) (baB N at_ 0) (baB N at_ 0)) := ⟨T1, T2, rfl, OL.bw.sp o1 (q2.sp []) (fun _ _ h => by cases h), o2, fun t h1 h2 => by have := low1 t h1; have := t2 t h2; omega⟩
  obtain ⟨T, eT⟩ : ∃ T, T = T1 ++ T2 := ⟨_, rfl⟩
  rw [← eT] at HB2
  have hsd : W0.drew.heap.size = w.heap.size + 2 := hs0
  have HTn : Hid (∀ t, t ∈ T → w.heap.size + 2 ≤ t) := fun t ht => by
    rw [eT] at ht
    rcases List.mem_append.1 ht with h | h
    · have := t1 t h; omega
    · have := t2 t h; have := q1.size; omega
  have HKW : Hid (Kp W0 w2) := (kd.trans q1).trans q2
  have HK2 : Hid (Kp w w2) := K0.trans HKW.out
  have HnX : Hid (w.heap.size ∉ T ∧ w.heap.size + 1 ∉ T) := ⟨fun h => by have := HTn.out _ h; omega, fun h => by have := HTn.out _ h; omega⟩
  have hx2 := HX0.out w2 HKW.out
  have HX2 : Hid (∀ V, Sp T w2 V → V.cell? ⟨w.heap.size, 0, none⟩ = some (.int .i64 m) ∧ V.cell? ⟨w.heap.size, 1, none⟩ = some (.int .i64 s) ∧ V.cell? ⟨w.heap.size, 2, none⟩ = some (.slice a1 m1 p1) ∧ V.cell? ⟨w.heap.size, 3, none⟩ = some (.slice a2 m2 p2) ∧ V.cell? ⟨w.heap.size, 4, none⟩ = some (.slice a3 m3 p3)) := fun V k => ⟨k.held hx2.1 HnX.out.1, k.held hx2.2.1 HnX.out.1, k.held hx2.2.2.1 HnX.out.1, k.held hx2.2.2.2.1 HnX.out.1, k.held hx2.2.2.2.2 HnX.out.1⟩
  have HL2 : Hid (∀ V, Sp T w2 V → Lc V (w.heap.size + 1) N S 1 v3 v4) := fun V k => (HL0.out w2 HKW.out).sp k HnX.out.2
  obtain ⟨e0, e1, e2, e3, e4⟩ := HL2.out w2 (Sp.refl _ _)
  clear c0 c1 c2 c3 c4 d0 HX0 HL0 hB hR o1 o2 q1 q2 t1 t2 low1 eT kd K0 hs0 hsd hx2 x0 HKW
  go_wp2_with fail
  go_loopw [29] (fun i wr => ∃ t : Nat, t ≤ S ∧ i = .int .i64 t ∧ Hid (Bx Bw Dw w w2 b y T (baB N at_ t) (baB N at_ t) wr)) (fun i _ => S - (intOf i).toNat)
  case atStart => exact ⟨0, by omega, by go_num, Bx.refl HB2.out⟩
  case round =>
    clear HB2 e0 e1 e2 e3 e4
    rename World => wo
    obtain ⟨t, ht, rfl, HB⟩ := hrel
    by_cases hlt : t < S
    · have HKr : Hid (Kp w wo) := HB.out.below HK2.out (fun x hx => by have := HTn.out x hx; omega)
      obtain ⟨T', both, spr, nwr⟩ := HB.out
      have HBo := hid both
      have HSp := hid spr
      have HNw := hid nwr
      have HLw : Hid (∀ x, x ∈ T' → x < wo.heap.size) := both.low OL.bw OL.dw
      obtain ⟨l0, l1, l2, l3, l4⟩ := HL2.out wo spr
      have HLr : Hid (∀ V, Kp wo V → Lc V (w.heap.size + 1) N S 1 v3 v4) := fun V k => (HL2.out wo HSp.out).kept k
      have HXr : Hid (∀ V, Kp wo V → V.cell? ⟨w.heap.size, 0, none⟩ = some (.int .i64 m) ∧ V.cell? ⟨w.heap.size, 1, none⟩ = some (.int .i64 s) ∧ V.cell? ⟨w.heap.size, 2, none⟩ = some (.slice a1 m1 p1) ∧ V.cell? ⟨w.heap.size, 3, none⟩ = some (.slice a2 m2 p2) ∧ V.cell? ⟨w.heap.size, 4, none⟩ = some (.slice a3 m3 p3)) := fun V k => by
        have h := HX2.out wo HSp.out
        exact ⟨k.held h.1, k.held h.2.1, k.held h.2.2.1, k.held h.2.2.2.1, k.held h.2.2.2.2⟩
      clear both spr nwr
      go_wp2_with fail
      have htN : t * N ≤ 48 := Nat.le_trans (Nat.mul_le_mul (show t ≤ 6 by omega) hN8) (by omega)
      have hw1 : IntKind.i64.wrap ((t : Int) * (N : Int)) = ((t * N : Nat) : Int) := by
        rw [show (t : Int) * (N : Int) = ((t * N : Nat) : Int) by simp, IntKind.wrap_i64]; omega
      obtain ⟨tN, etN⟩ : ∃ x, x = t * N := ⟨_, rfl⟩
      have HtN := hid etN
      rw [← etN] at hw1 htN
      clear etN
      go_loopw [9, 36] (fun v i wr => ∃ c : Nat, c ≤ N - 2 ∧ i = .int .i64 c ∧ Hid (OR wr wo.heap.size 9 v (sv_ (daL at_ N t c))) ∧ Hid (Kp wo wr)) (fun _ i _ => N - 2 - (intOf i).toNat)
      case atStart => exact ⟨0, by omega, by go_num, World.ownsRow_nil _ _ _ _, Kp.refl wo⟩
      case round =>
        clear l0 l1 l2 l3 l4
        obtain ⟨c, hc, rfl, HO, HK⟩ := hrel
        by_cases hc2 : c < N - 2
        · obtain ⟨x0, x1, x2, x3, x4⟩ := HXr.out wr HK.out
          obtain ⟨l0, l1, l2, l3, l4⟩ := HLr.out wr HK.out
          have hw2 : IntKind.i64.wrap ((tN : Int) + (c : Int)) = ((tN + c : Nat) : Int) := by
            rw [show (tN : Int) + (c : Int) = ((tN + c : Nat) : Int) by simp, IntKind.wrap_i64]; omega
          have hAi := hA (tN + c) wr (HKr.out.trans HK.out)
          have hxl := hAL (tN + c)
          have hSi := hSc (at_ (tN + c)) hxl
          have HE : Hid (daL at_ N t (c + 1) = daL at_ N t c ++ [scS (at_ (tN + c)) false]) := by rw [HtN.out]; exact da_succ at_ N t c
          have hci : (c : Int) < (N : Int) - 2 := by omega
          go_wp2_with fail
          refine hAi.mono ?_; rintro e w5 ⟨rfl, k5⟩
          have K5 : Hid (Kp wo w5) := HK.out.trans k5
          have HO5 : Hid (OR w5 wo.heap.size 9 u9 (sv_ (daL at_ N t c))) := HO.out.kp k5
          clear hAi k5 HK HO x0 x1 x2 x3 x4 l0 l1 l2 l3 l4
          go_wp2_with fail
          refine (hSi _).mono ?_; rintro e w6 ⟨rfl, k6⟩
          have K6 : Hid (Kp wo w6) := K5.out.trans k6
          have HO6 : Hid (OR w6 wo.heap.size 9 u9 (sv_ (daL at_ N t c))) := HO5.out.kp k6
          have HL6 : Hid ((sv_ (daL at_ N t c)).length ≤ 8) := by show (sv_ _).length ≤ 8; rw [sv_len, da_len]; omega
          obtain ⟨sc, esc⟩ : ∃ x, x = scS (at_ (tN + c)) false := ⟨_, rfl⟩
          rw [← esc] at HE ⊢
          clear hSi k6 K5 HO5 esc
          go_wp2_with (at_builtin; refine wpList_append_or rfl _ _ 67 9 (.string ByteArray.empty) 16 Tryz.underlying67 info_str rfl (by omega) rfl wo.heap.size _ _ rfl (HO6.out.kp ((Kp.refl w6).alloc (.cells #[.string sc] 9))) (.string sc) rfl _ rfl (by rw [World.cell?_alloc_at _ _ _ _ rfl]; rfl) (by have := HL6.out; omega) (by have := K6.out.size; simp; omega) ?_)
          intro v' w7 ho7 hg7
          have K7 : Hid (Kp wo w7) := (K6.out.alloc _).grown hg7 (fun q hq => (World.ownsRow.lt HO6.out q hq).1)
          have HO7 : Hid (OR w7 wo.heap.size 9 v' (sv_ (daL at_ N t (c + 1)))) := by
            rw [HE.out]
            show OR w7 _ _ _ (List.map _ _)
            rw [List.map_append]; exact ho7
          clear ho7 hg7 HO6 K6 HL6
          go_wp2
          go_roundw
          case rel => exact ⟨c + 1, by omega, by go_num, HO7, K7⟩
          case measure => simp [intOf]; omega
        · obtain rfl : c = N - 2 := by omega
          rename World => wi
          have HC : Hid (clL at_ N t = daL at_ N t (N - 2) ++ [parS 64 (daL at_ N t (N - 2)), wgtS 64 (daL at_ N t (N - 2))]) := rfl
          have hdl := da_len at_ N t (N - 2)
          have hsz := da_sz at_ N t (N - 2)
          obtain ⟨DL, eDL⟩ : ∃ x, x = daL at_ N t (N - 2) := ⟨_, rfl⟩
          rw [← eDL] at HO HC hdl hsz
          obtain ⟨mk0, mk1, mk2⟩ := mk_all (n := 64) (l := DL) (by omega) (by omega) (by omega) hsz
          have hM := fun w' (q : StrsIn w' u9 DL) => rmake_any u9 DL (fun i hi => by rw [hsz _ (mem_of_at _ _ hi)]; unfold maxLen; omega) w' q
          rw [mk0, mk1, mk2] at hM
          have HPsz : Hid ((parS 64 DL).size = 64 ∧ (wgtS 64 DL).size = 64) := ⟨parS_size 64 DL hsz, wgtS_size 64 DL⟩
          obtain ⟨PP, ePP⟩ : ∃ x, x = parS 64 DL := ⟨_, rfl⟩
          obtain ⟨QQ, eQQ⟩ : ∃ x, x = wgtS 64 DL := ⟨_, rfl⟩
          rw [← ePP, ← eQQ] at hM HC
          have hgg : gg N S = true := (gg_iff _ _).2 ⟨by omega, by omega, by omega, by omega⟩
          have hRow := fun w' => rrowN_any N S t w'
          rw [row_0 hgg ⟨by omega, by omega⟩] at hRow
          have HDL : Hid (DL.length = N - 2) := hdl
          have hci : ¬ ((N - 2 : Nat) : Int) < (N : Int) - 2 := by omega
          have HOs : StrsIn wi u9 DL := HO.out.strs
          have e2 : ((N : Int) - 2) = ((N - 2 : Nat) : Int) := by omega
          clear eDL hsz hdl mk0 mk1 mk2 ePP eQQ hgg
          unfold gV at hRow
          go_wp2_with fail
          refine (hM _ HOs).mono ?_; rintro e w5 ⟨rfl, k5⟩
          have HK5 : Hid (Kp wo w5) := HK.out.trans k5
          have HO5 : Hid (OR w5 wo.heap.size 9 u9 (sv_ DL)) := HO.out.kp k5
          obtain ⟨l0, l1, l2, l3, l4⟩ := HLr.out w5 HK5.out
          clear hM HOs k5 HK HO
          go_wp2_with fail
          refine (hRow _).mono ?_; rintro e w6 ⟨mv6, rfl, i6, o6, k6⟩
          have HMo : Hid (∀ k, mv6.ownBlock = some k → wo.heap.size ≤ k) := fun k hk => Nat.le_trans HK5.out.size (o6 k hk)
          have HK6 : Hid (Kp wo w6) := HK5.out.trans k6
          have HO6 : Hid (OR w6 wo.heap.size 9 u9 (sv_ DL)) := HO5.out.kp k6
          have HI6 := hid i6
          have HL6 : Hid ((sv_ DL).length ≤ 8) := by show (sv_ DL).length ≤ 8; rw [sv_len, HDL.out]; omega
          clear hRow k6 HK5 HO5 i6 o6 l0 l1 l2 l3 l4
          go_wp2_with (at_builtin; refine wpList_append_two rfl _ _ 67 9 (.string ByteArray.empty) 16 Tryz.underlying67 info_str rfl (by omega) rfl wo.heap.size _ _ rfl (HO6.out.kp ((Kp.refl w6).alloc (.cells #[.string PP, .string QQ] 9))) (.string PP) (.string QQ) rfl rfl _ rfl (by rw [World.cell?_alloc_at _ _ _ _ rfl]; rfl) (by rw [World.cell?_alloc_at _ _ _ _ rfl]; rfl) (by have := HL6.out; omega) (by have := HK6.out.size; simp; omega) ?_)
          intro v7 w7 ho7 hg7
          have HK7 : Hid (Kp wo w7) := (HK6.out.alloc _).grown hg7 (fun q hq => (World.ownsRow.lt HO6.out q hq).1)
          have HO7 : Hid (OR w7 wo.heap.size 9 v7 (sv_ (clL at_ N t))) := by
            rw [HC.out]
            show OR w7 _ _ _ (List.map _ _)
            rw [List.map_append]; exact ho7
          have HI7 : Hid (InI w7 mv6 (rowL N t)) := HI6.out.grown HO6.out (by rw [HDL.out]; omega) hg7
          clear ho7 hg7 HO6 HL6 HI6 HK6
          obtain ⟨va, vg, vc, hv7, vl1, vl2, vl3, vl4⟩ := HO7.out.shape
          have hcl := cl_len at_ N t (by omega)
          rw [sv_len, hcl] at hv7 vl1 vl3 vl4
          obtain ⟨hva, hvb, hvc⟩ := vl3 (by omega)
          subst hva hv7
          obtain ⟨ma, mg, mc_, hmv6, ml1, ml2, ml3, ml4⟩ := HI7.out
          have hrl : (rowL N t).length = N := by rw [rowL_len]; omega
          rw [hrl] at hmv6 ml1 ml3 ml4
          obtain rfl := ml3 (by omega)
          subst hmv6
          have HV : Hid (∀ j, j < N → w7.cell? ⟨vg, j, none⟩ = some (.string ((clL at_ N t).getD j noS))) := fun j hj => by
            rw [vl4 j hj]
            simp [sv_, List.getD_eq_getElem?_getD, show j < (clL at_ N t).length by rw [hcl]; exact hj]
          have HM : Hid (∀ j, j < N → w7.cell? ⟨mg, j, none⟩ = some (.int .i64 (mM N t j))) := fun j hj => by
            rw [ml4 j hj, rowL_at _ _ _ (by omega)]
          have HB7 : Hid (Both Bw Dw w w7 b y T' (baB N at_ t) (baB N at_ t)) := HBo.out.kp OL.bw OL.dw HK7.out
          have hmg : wo.heap.size ≤ mg := HMo.out mg rfl
          have hmT : Hid (mg ∉ T') := fun h => by have := HLw.out _ h; omega
          have hvT : Hid (vg ∉ T') := fun h => by have := HLw.out _ h; omega
          have hmlt : mg < w7.heap.size := World.block_lt_of_cell? _ _ (HM.out 0 (by omega))
          clear vl3 vl4 ml3 ml4 HO7 HI7 hrl
          go_wp2_with fail
          have hBa := fun k (hk : k ≤ N) => ba_row N at_ (by omega) (by omega) (ba_all N at_ hN4 hN8 t (by omega)) k hk
          have HBa := hid hBa
          have HRu : Hid (∀ k, ruB (baB N at_ t) N t (clL at_ N t) (k + 1) = put (ruB (baB N at_ t) N t (clL at_ N t) k) (mM N t k) (rt (bm (ruB (baB N at_ t) N t (clL at_ N t) k) (mM N t k)) (100 + t) ((clL at_ N t).getD k noS))) := fun k => rfl
          have HRf : Hid (baB N at_ (t + 1) = ruB (baB N at_ t) N t (clL at_ N t) N) := rfl
          have HR0 : Hid (ruB (baB N at_ t) N t (clL at_ N t) 0 = baB N at_ t) := rfl
          have HTn' : Hid (∀ x, x ∈ T' → w.heap.size ≤ x) := HBo.out.new OL.bw OL.dw
          obtain ⟨BB, eBB⟩ : ∃ f, f = ruB (baB N at_ t) N t (clL at_ N t) := ⟨_, rfl⟩
          rw [← eBB] at HRf HR0
          have HBa2 : Hid (∀ k, k ≤ N → Ba N at_ (BB k) t k) := by rw [eBB]; exact HBa.out
          have HRu2 : Hid (∀ k, BB (k + 1) = put (BB k) (mM N t k) (rt (bm (BB k) (mM N t k)) (100 + t) ((clL at_ N t).getD k noS))) := by rw [eBB]; exact HRu.out
          clear hBa HBa HRu eBB
          obtain ⟨CL, eCL⟩ : ∃ x, x = clL at_ N t := ⟨_, rfl⟩
          rw [← eCL] at HV HRu2
          have hw8 : IntKind.i64.wrap (100 + (t : Int)) = 100 + (t : Int) := by rw [IntKind.wrap_i64]; omega
          clear eCL HC
          go_loopw [72] (fun i wr => ∃ k : Nat, k ≤ N ∧ i = .int .i64 k ∧ Hid (Bx Bw Dw w w7 b y T' (BB k) (BB k) wr)) (fun i _ => N - (intOf i).toNat)
          case atStart => exact ⟨0, by omega, by go_num, by rw [HR0.out]; exact Bx.refl HB7.out⟩
          case round =>
            obtain ⟨k, hk, rfl, HBk⟩ := hrel
            rename World => wk
            by_cases hkN : k < N
            · have HKk : Hid (Kp w wk) := HBk.out.below (HKr.out.trans HK7.out) HTn'.out
              have cv := HBk.out.held (HV.out k hkN) hvT.out
              have cm := HBk.out.held (HM.out k hkN) hmT.out
              have hBak := HBa2.out k (by omega)
              have hfd := (hBak.bm hN4 k).1
              have hmb := mM_bd (n := N) t k (by omega)
              have hgk := hBak.g
              have hlen := hBak.len
              have hru := HRu2.out k
              obtain ⟨T3, ⟨P, R, rfl, oP, oR, dj⟩, sp3, nw3⟩ := HBk.out
              obtain ⟨x, hMem, hRot, _⟩ := bw_mem oP HKk.out hfd
              have hRk := hRot (100 + t) (CL.getD k noS)
              have HoP := hid oP
              have HoR := hid oR
              have Hdj := hid dj
              have Hsp := hid sp3
              have Hnw := hid nw3
              obtain ⟨mk, emk⟩ : ∃ x, x = mM N t k := ⟨_, rfl⟩
              rw [← emk] at cm hMem hfd hmb hru
              obtain ⟨CK, eCK⟩ : ∃ x, x = CL.getD k noS := ⟨_, rfl⟩
              rw [← eCK] at cv hRk hru
              rw [← emk] at hRk
              clear hRot oP oR dj sp3 nw3 emk eCK hBak
              obtain ⟨rb, erb⟩ : ∃ x, x = rtB (bm (BB k) mk) (100 + t) CK := ⟨_, rfl⟩
              rw [← erb] at hRk
              go_wp2_with fail
              refine hMem.mono ?_; rintro e w8 ⟨rfl, rfl⟩
              go_wp2_with fail
              refine hRk.mono ?_; rintro e w9 ⟨rfl, n9⟩
              have bx9 := Both.first OL.bw OL.dw (x := b) HoR.out Hdj.out n9
              have HK9 : Hid (Kp w w9) := bx9.below HKk.out (fun x hx => (Both.new OL.bw OL.dw ⟨P, R, rfl, HoP.out, HoR.out, Hdj.out⟩) x hx)
              obtain ⟨T4, ⟨P4, R4, rfl, oP4, oR4, dj4⟩, sp4, nw4⟩ := bx9
              have hmg3 : mg ∉ P ++ R := nw_out Hnw.out hmlt hmT.out
              have cm9 := sp4.held cm hmg3
              have hskw : w7.heap.size ≤ w8.heap.size := Hsp.out.size
              have hmg4 : mg ∉ P4 ++ R4 := nw_out nw4 (by omega) hmg3
              obtain ⟨m', cap', z, P5, d0, d3, ⟨d1, d2⟩, ⟨p51, p52, p53⟩, hRot2, _⟩ := dw_mem oR4 HK9.out hfd (by omega)
              rw [hlen] at d0 d1
              obtain ⟨M, eM⟩ : ∃ M : Nat, mk = M := ⟨mk.toNat, by omega⟩
              have hRk2 := fun w1 (k1 : Kp w9 w1) => hRot2 (100 + t) CK w1 k1
              rw [← erb] at hRk2
              have HoP4 := hid oP4
              have Hdj4 := hid dj4
              have Hsp4 := hid sp4
              have Hnw4 := hid nw4
              have hmg5 : Hid (mg ∉ P5) := fun h => hmg4 (List.mem_append_right _ (p53 _ h))
              have Hy5 : Hid (y ∉ P5 ∧ m' ∉ P5) := ⟨p51, p52⟩
              clear hRot2 oR4 oP4 dj4 sp4 nw4 n9 hMem hRk cm p51 p52 p53 hmg4 hmg3 HoP HoR Hdj erb
              subst eM
              rw [Int.toNat_natCast] at d3
              have hMN : M < N := by omega
              have kd : Kp w9 w9.drew := (Kp.refl w9).drew
              have hS1 : ∀ V, Kp w9 V → V.cell? ⟨y, 0, none⟩ = some (.slice (some ⟨m', 0, none⟩) N cap') ∧ V.cell? ⟨m', M, none⟩ = some (.pointer (some ⟨z, 0, none⟩)) ∧ V.cell? ⟨mg, k, none⟩ = some (.int .i64 (M : Int)) := fun V q => ⟨q.held d0, q.held d3, q.held cm9⟩
              have hS2 : ∀ V, Sp P5 w9 V → V.cell? ⟨y, 0, none⟩ = some (.slice (some ⟨m', 0, none⟩) N cap') ∧ V.cell? ⟨m', M, none⟩ = some (.pointer (some ⟨z, 0, none⟩)) ∧ V.cell? ⟨mg, k, none⟩ = some (.int .i64 (M : Int)) := fun V q => ⟨q.held d0 Hy5.out.1, q.held d3 Hy5.out.2, q.held cm9 hmg5.out⟩
              go_wp2_with fail
              go_region_held3 (fun V => V.cell? ⟨y, 0, none⟩ = some (.slice (some ⟨m', 0, none⟩) N cap') ∧ V.cell? ⟨m', M, none⟩ = some (.pointer (some ⟨z, 0, none⟩)) ∧ V.cell? ⟨mg, k, none⟩ = some (.int .i64 (M : Int))) (first | exact hS1 _ (Kp.refl _) | exact hS1 _ kd | exact hS2 _ s10) (first
                | (go_at_call 20; refine (hRk2 _ kd).mono ?_; rintro e w10 ⟨rfl, n10, s10⟩))
              have bx10 := Both.second OL.bw OL.dw (y := y) HoP4.out Hdj4.out n10
              rw [← hru] at bx10
              have HBx : Hid (Bx Bw Dw w w7 b y T' (BB (k + 1)) (BB (k + 1)) w10) := Bx.trans Hsp.out Hnw.out (Bx.trans Hsp4.out Hnw4.out bx10)
              clear bx10 n10 s10 hS1 hS2 hRk2 d0 d3 cm9 cv kd
              go_wp2
              go_roundw
              case rel => exact ⟨k + 1, by omega, by go_num, HBx⟩
              case measure => simp [intOf]; omega
            · obtain rfl : k = N := by omega
              have HBf : Hid (Bx Bw Dw w w2 b y T (baB k at_ (t + 1)) (baB k at_ (t + 1)) wk) := by
                rw [HRf.out]
                exact Bx.trans HSp.out HNw.out (Bx.from HK7.out HBk.out)
              clear HBk
              go_wp2
              go_roundw
              case rel => exact ⟨t + 1, by omega, by go_num, HBf⟩
              case measure => simp [intOf]; omega
    · obtain rfl : t = S := by omega
      have HKr : Hid (Kp w wo) := HB.out.below HK2.out (fun x hx => by have := HTn.out x hx; omega)
      go_wp2
      go_ret2
      obtain ⟨T', both, spr, nwr⟩ := HB.out
      exact ⟨b, y, T', rfl, both, HKr.out⟩

end Go.Proofs.YtonooelffokfkaaGreatDoor

namespace Go.Proofs.YtonooelffokfkaaGreatDoor
open Go.RowKit Plain
set_option linter.unusedVariables false

structure Arr (N S : Nat) (at_ : Nat → Nat) (L : LB) (B : BS) (dd : Nat → Bool) : Prop where
  n : L.n = N
  s : L.s = S
  good : lg L = true
  whole : ∀ m t : Nat, m < N → t < S → wh L m t = true
  h4 : 4 ≤ N
  h8 : N ≤ 8
  s6 : S ≤ 6
  pw : B.pw = none
  len : B.ms.length = N
  dead : ∀ i, i < N → (B.ms.getD i noM).dead = dd i
  las : ∀ i, i < N → (B.ms.getD i noM).las.length = 170
  cols : ∀ t, t < S → ∀ c : Nat, c < N → (B.ms.getD (mM N t c).toNat noM).now.getD (100 + t) noS = (clL at_ N t).getD c noS
/-- the lost columns of a stripe. -/
def goN (N t : Nat) (dd : Nat → Bool) : List Nat := (List.range N).filter fun c => dd (mM N t c).toNat
section
variable {N S : Nat} {at_ : Nat → Nat} {L : LB} {B : BS} {dd : Nat → Bool}
theorem Arr.start (h4 : 4 ≤ N) (h8 : N ≤ 8) (s6 : S ≤ 6) (hn : L.n = N) (hs : L.s = S) (hg : lg L = true) (hw : ∀ m t : Nat, m < N → t < S → wh L m t = true) : Arr N S at_ L (baB N at_ S) (fun _ => false) := by
  have h := ba_all N at_ h4 h8 S (by omega)
  exact ⟨hn, hs, hg, hw, h4, h8, s6, h.pw, h.len, h.dead, h.las, h.at1⟩
theorem Arr.same (h : Arr N S at_ L B dd) {B' : BS} (k : Sm B B') : Arr N S at_ L B' dd :=
  ⟨h.n, h.s, h.good, h.whole, h.h4, h.h8, h.s6, k.pw.trans h.pw, k.len.trans h.len, fun i hi => (k.dead i).trans (h.dead i hi), fun i hi => by rw [k.las i]; exact h.las i hi, fun t ht c hc => by rw [k.now]; exact h.cols t ht c hc⟩
theorem Arr.fail (h : Arr N S at_ L B dd) (m : Nat) (hm : m < N) : Arr N S at_ L (put B m (fa (bm B m))) (fun i => if i = m then true else dd i) := by
  have key : ∀ j, (put B (m : Int) (fa (bm B m))).ms.getD j noM = if j = m then fa (B.ms.getD m noM) else B.ms.getD j noM := fun j => by
    show (B.ms.set ((m : Int)).toNat _).getD j noM = _
    rw [Int.toNat_natCast]
    by_cases e : j = m
    · subst e; rw [if_pos rfl]; exact getD_set_eq (by rw [h.len]; exact hm) _ _
    · rw [if_neg e]; exact getD_set_ne (fun h => e h.symm) _ _
  refine ⟨h.n, h.s, h.good, h.whole, h.h4, h.h8, h.s6, h.pw, by show (B.ms.set _ _).length = N; rw [List.length_set]; exact h.len, fun i hi => ?_, fun i hi => ?_, fun t ht c hc => ?_⟩
  · rw [key]; split
    · rfl
    · exact h.dead i hi
  · rw [key]; split
    · exact h.las m hm
    · exact h.las i hi
  · rw [key]; split
    · rename_i e
      show (B.ms.getD m noM).now.getD _ _ = _
      rw [← e]; exact h.cols t ht c hc
    · exact h.cols t ht c hc
theorem Arr.mem (h : Arr N S at_ L B dd) (t c : Nat) : 0 ≤ mM N t c ∧ mM N t c < N ∧ (mM N t c).toNat < N := by
  have := mM_bd (n := N) t c (by have := h.h4; omega)
  exact ⟨this.1, this.2, by omega⟩
theorem Arr.ls (h : Arr N S at_ L B dd) {t : Nat} (ht : t < S) : lsE L t = 0 := ls_ok h.good ⟨by omega, by rw [h.s]; omega⟩
theorem Arr.lo (h : Arr N S at_ L B dd) {t : Nat} (ht : t < S) (c : Nat) (hc : c < N) : loP L (ddL B) t c = dd (mM N t c).toNat := by
  obtain ⟨h1, h2, h3⟩ := h.mem t c
  unfold loP
  rw [h.n, dd_has (by rw [h.len]; have := h.h8; omega) h1 (by rw [h.len]; exact h2)]
  have hw := h.whole (mM N t c).toNat t h3 ht
  rw [show (((mM N t c).toNat : Nat) : Int) = mM N t c by omega] at hw
  rw [hw]
  unfold bm
  rw [h.dead _ h3]
  simp
theorem Arr.lost (h : Arr N S at_ L B dd) {t : Nat} (ht : t < S) : ldG B L t = (goN N t dd).map Int.ofNat := by
  unfold ldG loL
  rw [if_pos (h.ls ht)]
  unfold loN goN
  rw [h.n, Int.toNat_natCast]
  congr 1
  refine List.filter_congr fun c hc => h.lo ht c (List.mem_range.1 hc)
theorem Arr.gn (h : Arr N S at_ L B dd) {t : Nat} (ht : t < S) : gn N (ldG B L t) = goN N t dd := by
  unfold Go.Proofs.YtonooelffokfkaaGreatDoor.gn
  rw [h.lost ht]
  unfold goN
  refine List.filter_congr fun c hc => ?_
  by_cases hd : dd (mM N t c).toNat = true
  · rw [hd, decide_eq_true]
    exact List.mem_map.2 ⟨c, List.mem_filter.2 ⟨hc, hd⟩, rfl⟩
  · rw [Bool.not_eq_true] at hd
    rw [hd, decide_eq_false]
    intro hm
    obtain ⟨d, hd1, hd2⟩ := List.mem_map.1 hm
    have e : d = c := by
      have : ((d : Nat) : Int) = ((c : Nat) : Int) := hd2
      omega
    subst e
    rw [(List.mem_filter.1 hd1).2] at hd
    cases hd
theorem Arr.inG (h : Arr N S at_ L B dd) {t : Nat} (ht : t < S) : ∀ x, x ∈ ldG B L t → 0 ≤ x ∧ x < ((N - 2 : Nat) : Int) + 2 := fun x hx => by
  rw [h.lost ht] at hx
  obtain ⟨c, hc, rfl⟩ := List.mem_map.1 hx
  have := List.mem_range.1 (List.mem_filter.1 hc).1
  have := h.h4
  exact ⟨Int.natCast_nonneg _, by show ((c : Nat) : Int) < _; omega⟩
theorem Arr.isG (h : Arr N S at_ L B dd) {t : Nat} (ht : t < S) (c : Nat) (hc : c < N) : isG (ldG B L t) c = dd (mM N t c).toNat := by
  unfold Go.Proofs.YtonooelffokfkaaGreatDoor.isG hasB
  have := h.h8
  rw [decide_eq_true (by omega), Int.toNat_natCast, Bool.true_and, h.lost ht]
  unfold inL goN
  rw [List.any_map]
  cases hd : dd (mM N t c).toNat with
  | true => exact List.any_eq_true.2 ⟨c, List.mem_filter.2 ⟨List.mem_range.2 hc, hd⟩, by simp⟩
  | false =>
    refine List.any_eq_false.2 fun d hd1 he => ?_
    have e : d = c := by
      have h9 : ((d : Nat) : Int) = ((c : Nat) : Int) := by simpa using he
      omega
    subst e
    rw [(List.mem_filter.1 hd1).2] at hd
    cases hd
theorem Arr.rd (h : Arr N S at_ L B dd) {t : Nat} (ht : t < S) (c : Nat) (hc : c < N) (hd : dd (mM N t c).toNat = false) : rdE B (mM N t c) (100 + (t : Int)) = 0 ∧ rdT B (mM N t c) (100 + (t : Int)) = (clL at_ N t).getD c noS := by
  obtain ⟨h1, h2, h3⟩ := h.mem t c
  have hst : stE B (mM N t c) = 0 := by
    unfold stE fdE
    rw [if_pos (if_pos ⟨h1, by rw [h.len]; exact h2⟩), h.pw, if_neg (by simp)]
  have hs6 := h.s6
  have hrc : rcE (bm B (mM N t c)) (100 + (t : Int)) = 0 := by
    unfold rcE bm
    rw [h.dead _ h3, hd, h.las _ h3, if_neg (by decide), if_pos (by omega)]
  unfold rdE rdT rdS
  rw [if_pos hst, if_pos hst, hrc, if_pos rfl]
  refine ⟨rfl, ?_⟩
  rw [show (100 + (t : Int)).toNat = 100 + t by omega]
  exact h.cols t ht c hc
theorem Arr.ro (h : Arr N S at_ L B dd) {t : Nat} (ht : t < S) (G : List Int) (hG : ∀ c, c < N → Go.Proofs.YtonooelffokfkaaGreatDoor.isG G c = dd (mM N t c).toNat) : ∀ k, k ≤ N → roE B N t G k = 0
  | 0, _ => rfl
  | k + 1, hk => by
    have ih := h.ro ht G hG k (by omega)
    show (if roE B N t G k = 0 then _ else _) = _
    rw [if_pos ih, hG k (by omega)]
    split
    · rfl
    · rename_i hd
      exact (h.rd ht k (by omega) (by simpa using hd)).1
theorem Arr.load (h : Arr N S at_ L B dd) {t : Nat} (ht : t < S) (hc : (goN N t dd).length ≤ 2) : ldE B L t = 0 ∧ ldC B L t = clL at_ N t ∧ ldL B L t = (goN N t dd).map Int.ofNat ∧ ldK B L t = (kdN (N - 2) (goN N t dd) : Nat) ∧ ∀ cnt, ldN B L t cnt = upL5 cnt (kdN (N - 2) (goN N t dd)) := by
  have h4 := h.h4
  have h8 := h.h8
  have hz := h.ls ht
  have hN : L.n.toNat = N := by rw [h.n]; omega
  have hin := h.inG ht
  have hgn := h.gn ht
  have hk2 : N - 2 + 2 = N := by omega
  have hall : ∀ x, x ∈ ldG B L t → 0 ≤ x ∧ x < ((N : Nat) : Int) := fun x hx => by have := hin x hx; omega
  have hdst : dst (ldG B L t) = (goN N t dd).map (fun i : Nat => (i : Int)) := by rw [dst_gn N _ hall, hgn]
  have hib : inB (L.n - 2) (ldG B L t) = true := by
    unfold inB
    exact List.all_eq_true.2 fun x hx => decide_eq_true (by have := hin x hx; rw [h.n]; omega)
  have hsr := sr_ok (d := L.n - 2) (l := ldG B L t) (by rw [h.n]; omega) (by rw [h.n]; omega) hib (by rw [hdst, List.length_map]; omega)
  have hro : roE B L.n t (ldG B L t) L.n.toNat = 0 := by rw [hN, h.n]; exact h.ro ht _ (h.isG ht) N (Nat.le_refl _)
  have hR : ldR B L t = roK B N t (ldG B L t) N N := by unfold ldR; rw [hN, h.n]
  have hcl := cl_len at_ N t (by omega)
  have hfx := fx_row (cl_fits at_ N t) (by omega) (by omega) (by omega) (show (ldR B L t).length = (clL at_ N t).length by rw [hR, roK_len, hcl]) (ldG B L t) (fun x hx => by have := hin x hx; omega) (by rw [hk2, hgn]; exact hc) (fun i hi hni => by
    rw [hcl] at hi
    rw [hk2, hgn] at hni
    have hd : dd (mM N t i).toNat = false := by
      cases e : dd (mM N t i).toNat with
      | false => rfl
      | true => exact absurd (List.mem_filter.2 ⟨List.mem_range.2 hi, e⟩) hni
    rw [hR, roK_at _ _ _ _ _ _ _ hi]
    unfold roC
    rw [if_pos ⟨hi, by rw [h.isG ht i hi]; exact hd⟩]
    exact (h.rd ht i hi hd).2)
  have hE : ldE B L t = 0 := (ld_4 hz hsr.1 hro).trans hfx.1
  obtain ⟨y1, y2, y3, _, y5⟩ := ld_yes hE
  refine ⟨hE, y1.trans hfx.2.1, y2.trans (h.lost ht), ?_, fun cnt => ?_⟩
  · rw [y3, hsr.2, hdst, h.n, show (N : Int) - 2 = ((N - 2 : Nat) : Int) by omega]
    exact kd_is (N - 2) (goN N t dd) hc (List.Pairwise.filter _ (List.pairwise_lt_range (n := N))) (fun x hx => by have := List.mem_range.1 (List.mem_filter.1 hx).1; omega)
  · rw [y5, hfx.2.2 cnt, hk2, hgn]
theorem Arr.three (h : Arr N S at_ L B dd) {t : Nat} (ht : t < S) (hc : 2 < (goN N t dd).length) : ldE B L t = 20 := by
  have h4 := h.h4
  have h8 := h.h8
  have hin := h.inG ht
  have hall : ∀ x, x ∈ ldG B L t → 0 ≤ x ∧ x < ((N : Nat) : Int) := fun x hx => by have := hin x hx; omega
  have hdst : dst (ldG B L t) = (goN N t dd).map (fun i : Nat => (i : Int)) := by rw [dst_gn N _ hall, h.gn ht]
  have hib : inB (L.n - 2) (ldG B L t) = true := by
    unfold inB
    exact List.all_eq_true.2 fun x hx => decide_eq_true (by have := hin x hx; rw [h.n]; omega)
  have hsr := sr_many (d := L.n - 2) (l := ldG B L t) (by rw [h.n]; omega) (by rw [h.n]; omega) hib (by rw [hdst, List.length_map]; exact hc)
  rw [ld_2 (h.ls ht) (by rw [hsr.1]; decide), hsr.1]

end
end Go.Proofs.YtonooelffokfkaaGreatDoor

namespace Go.Proofs.YtonooelffokfkaaGreatDoor
open Go.RowKit Plain
set_option linter.unusedVariables false

theorem Nl.shape' {w : World} {v : Value} {l : List Int} (h : Nl w v l) : ∃ a k n, v = .slice a n k := by
  obtain ⟨a, g, o, cap, h1, _⟩ := h
  exact ⟨a, cap, _, h1⟩
theorem su_whole (m s : Int) (mks : List Int) : ∀ i t : Nat, i < (suN m).toNat → t < (suS s).toNat → wh (suL m s [] mks) i t = true := fun i t hi ht => by
  rw [wh_in (su_good m s [] mks) ⟨by omega, by show (i : Int) < suN m; omega⟩ ⟨by omega, by show (t : Int) < suS s; omega⟩]
  have e : (suL m s [] mks).sts.getD ((i : Int)).toNat 0 = 0 := by
    show ((List.range (suN m).toNat).map (stF [])).getD ((i : Int)).toNat 0 = 0
    rw [Int.toNat_natCast, su_at _ _ _ hi]
    exact if_neg (by simp)
  rw [e]
  rfl
theorem Nl.grows {w w' : World} {v : Value} {l : List Int} (h : Nl w v l) (k : Kp w w') : Nl w' v l := h.kept k
theorem wk_go : goN 5 0 (fun i => if i = 1 then true else (fun _ => false) i) = [0] := by decide +kernel
theorem ints_single {w : World} {B : Nat} {v : Value} {x : Int} (h : IntsAt w B v [x]) : ∃ g cap, v = .slice (some ⟨g, 0, none⟩) 1 cap ∧ 1 ≤ cap ∧ cap ≤ maxLen ∧ w.cell? ⟨g, 0, none⟩ = some (.int .i64 x) := by
  obtain ⟨l, hl⟩ : ∃ l, l = [x] := ⟨_, rfl⟩
  rw [← hl] at h
  cases h with
  | empty a cap h => cases hl
  | some g cap l h0 h1 h2 hB hc =>
    subst hl
    exact ⟨g, cap, rfl, h1, h2, hc 0 (by simp)⟩
theorem wk_kd : kdN (5 - 2) [0] = 1 := by decide +kernel

set_option maxRecDepth 100000 in
set_option maxHeartbeats 4000000 in
theorem wakes16 (w : World) (hT : Tab w) : Calls Tryz.prog 12 #[] w fun e w' => e = .returned (.bool true) ∧ Kp w w' := by
  have hl := fun w' => labels_any 1 0 (.slice none 0 0) (.slice none 0 0) (.slice none 0 0) [] [] w' (Nl.nil w') (Nl.nil w') ⟨_, _, _, rfl⟩
  have eN : suN 1 = ((5 : Nat) : Int) := by decide
  have eS : suS 0 = ((1 : Nat) : Int) := by decide
  rw [eN, eS] at hl
  have hb := fun v3 v4 w' => bays_any 1 0 (.slice none 0 0) (.slice none 0 0) (.slice none 0 0) 0 (fun _ => 0) 5 1 (by omega) (by omega) (by omega) (by omega) v3 v4 w' ⟨_, _, _, rfl⟩ ⟨_, _, _, rfl⟩ ⟨none, 0, 0, 0, rfl, by omega, by omega, fun h => absurd h (by omega), fun j hj => absurd hj (by omega)⟩
  have hAr : Arr 5 1 (atB 0 (fun _ => 0)) (suL 1 0 [] []) (baB 5 (atB 0 (fun _ => 0)) 1) (fun _ => false) := Arr.start (by omega) (by omega) (by omega) eN eS (su_good _ _ _ _) (by
    have := su_whole 1 0 []
    rw [eN, eS] at this
    exact this)
  have e0 : (clL (atB 0 (fun _ => 0)) 5 0).getD 0 noS = scS 0 false := by
    rw [cl_first _ _ _ (by omega)]; rfl
  have HA := hid hAr
  have HE0 := hid e0
  have HLe : Hid ((suL 1 0 [] []).n = ((5 : Nat) : Int) ∧ (suL 1 0 [] []).s = ((1 : Nat) : Int) ∧ (suL 1 0 [] []).ep = 1 ∧ lg (suL 1 0 [] []) = true) := ⟨eN, eS, rfl, su_good _ _ _ _⟩
  obtain ⟨L, eL⟩ : ∃ L, L = suL 1 0 [] [] := ⟨_, rfl⟩
  obtain ⟨at_, eat⟩ : ∃ f, f = atB 0 (fun _ => 0) := ⟨_, rfl⟩
  rw [← eL] at hl HLe
  rw [← eL, ← eat] at HA
  rw [← eat] at hb HE0
  obtain ⟨B0, eB0⟩ : ∃ B, B = baB 5 at_ 1 := ⟨_, rfl⟩
  rw [← eB0] at hb HA
  clear hAr e0 eL eat eB0 eN eS
  unfold lV at hl hb
  go_enter Tryz.func12, Tryz.ntmps12
  go_wp2_with fail
  refine (hl _).mono ?_; rintro e w1 ⟨v1, v2, v3, v4, rfl, ⟨n1, n2, n3, n4⟩, k1⟩
  obtain ⟨a1, c1, m1, rfl⟩ := n1.shape'
  obtain ⟨a2, c2, m2, rfl⟩ := n2.shape'
  obtain ⟨a3, c3, m3, rfl⟩ := n3.shape'
  obtain ⟨a4, c4, m4, rfl⟩ := n4.shape'
  have x1 : ∀ j v, [Value.int .i64 1, .int .i64 0, .slice none 0 0, .slice none 0 0, .slice none 0 0][j]? = some v → w1.cell? ⟨w.heap.size, j, none⟩ = some v := fun j v hv => k1.held (by
    rw [World.cell?_alloc_at _ _ _ _ rfl]
    simpa using hv)
  have y0 := x1 0 _ rfl
  have y1 := x1 1 _ rfl
  have y2 := x1 2 _ rfl
  have y3 := x1 3 _ rfl
  have y4 := x1 4 _ rfl
  have K1 : Hid (Kp w w1) := ((Kp.refl w).alloc _).trans k1
  have hs1 : w.heap.size < w1.heap.size := World.block_lt_of_cell? _ _ y0
  have N1 := hid n1
  have N2 := hid n2
  clear hl k1 x1 n1 n2 n3 n4
  go_wp2_with fail
  obtain ⟨W, hW⟩ : ∃ W, W = (w1.alloc (.cells #[.int .i64 5, .int .i64 1, .int .i64 1, .slice a1 m1 c1, .slice a2 m2 c2] 30)).alloc (.cells #[.int .i64 5, .int .i64 1, .int .i64 1, .slice a3 m3 c3, .slice a4 m4 c4] 33) := ⟨_, rfl⟩
  have KW : Hid (Kp w W) := by show Kp w W; rw [hW]; exact (K1.out.alloc _).alloc _
  have KW1 : Kp w1 W := by rw [hW]; exact ((Kp.refl w1).alloc _).alloc _
  have LcW : Hid (Lc W w1.heap.size 5 1 1 (.slice a1 m1 c1) (.slice a2 m2 c2)) := by
    show Lc W _ _ _ _ _ _
    rw [hW]; exact (Lc.new w1 5 1 1 _ _ _).kept ((Kp.refl _).alloc _)
  have NW : Hid (Nl W (.slice a1 m1 c1) L.sts ∧ Nl W (.slice a2 m2 c2) L.mks) := ⟨N1.out.kept KW1, N2.out.kept KW1⟩
  have HTW : Hid (Tab W) := hT.kp KW.out
  rw [← hW]
  clear hW KW1 K1 N1 N2 y0 y1 y2 y3 y4 hs1
  refine (hb _ _ _).mono ?_; rintro e w2 ⟨b, y, T0, rfl, ⟨T, R, rfl, oB, oD, dj⟩, k2⟩
  have K2 := hid k2
  have HoB := hid oB
  have hsz := bw_size oB
  have hlen := HA.out.len
  rw [hlen] at hsz
  have hgd := fun w' (k : Kp W w') => lgood_any L (.slice a1 m1 c1) (.slice a2 m2 c2) w' (NW.out.1.kept k) (NW.out.2.kept k)
  obtain ⟨eLn, eLs, eLe, eLg⟩ := HLe.out
  rw [eLn, eLs, eLe, eLg] at hgd
  obtain ⟨q0, q1, q2, q3, q4⟩ := LcW.out.kept k2
  clear hb oD dj oB k2 hlen
  unfold lV at hgd
  go_wp2_with fail
  refine hsz.mono ?_; rintro e w3 ⟨rfl, rfl⟩
  clear hsz
  go_wp2_with fail
  refine (hgd _ K2.out).mono ?_; rintro e w4 ⟨rfl, k4⟩
  have K4 : Hid (Kp W w4) := K2.out.trans k4
  have HoB4 : Hid (Bw W w4 b T B0) := OL.bw.sp HoB.out (k4.sp []) (fun _ _ h => by cases h)
  clear hgd k4 HoB q0 q1 q2 q3 q4
  have hfd : fdE B0 1 = 0 := if_pos ⟨by omega, by rw [HA.out.len]; omega⟩
  obtain ⟨x, hM, _, hF⟩ := bw_mem HoB4.out K4.out hfd
  go_wp2_with fail
  refine hM.mono ?_; rintro e w5 ⟨rfl, rfl⟩
  go_wp2_with fail
  refine hF.mono ?_; rintro e w6 ⟨rfl, n6⟩
  have hA6 := HA.out.fail 1 (by omega)
  have HA6 : Hid (Arr 5 1 at_ L (put B0 ((1 : Nat) : Int) (fa (bm B0 ((1 : Nat) : Int)))) (fun i => if i = 1 then true else (fun _ => false) i)) := hA6
  obtain ⟨B6, eB6⟩ : ∃ B, B = put B0 1 (fa (bm B0 1)) := ⟨_, rfl⟩
  rw [show (((1 : Nat) : Int)) = 1 from rfl, ← eB6] at HA6
  rw [← eB6] at n6
  have K6 : Hid (Kp W w6) := n6.below OL.bw HoB4.out K4.out
  obtain ⟨T6, o6, s6, nw6⟩ := n6
  have hN := rnew_any' o6 K6.out
  clear hM hF hA6 eB6 o6 s6 nw6 HoB4 K4 K2
  go_wp2_with fail
  refine hN.mono ?_; rintro e w7 ⟨r, f, g, rfl, x7, k7⟩
  have K7 : Hid (Kp W w7) := K6.out.trans k7
  have HX7 := hid x7
  have hLd := ldd_any x7 K7.out HTW.out (fun j hj => ⟨by omega, by omega⟩) L (.slice a1 m1 c1) (.slice a2 m2 c2) 0 (fun w' k => ⟨NW.out.1.kept (Sp.kp K7.out k HX7.out.new), NW.out.2.kept (Sp.kp K7.out k HX7.out.new)⟩)
  have hld := HA6.out.load (t := 0) (by omega) (by rw [wk_go]; simp)
  rw [wk_go, wk_kd] at hld
  rw [show ((0 : Nat) : Int) = 0 from rfl] at hld
  obtain ⟨z1, z2, z3, z4, z5⟩ := hld
  rw [z1, z2, z3, z4, z5, (ld_yes z1).2.2.2.1] at hLd
  rw [eLn, eLs, eLe] at hLd
  unfold lV at hLd
  obtain ⟨q0, q1, q2, q3, q4⟩ := LcW.out.kept K7.out
  have HCL : Hid ((clL at_ 5 0).length = 5) := cl_len at_ 5 0 (by omega)
  clear hN k7 x7 z1 z2 z3 z4 z5 K6
  go_wp2_with fail
  refine hLd.mono ?_; rintro e w8 ⟨cv, gv, B8, rfl, s8, i8, sm8, z8⟩
  have K8 : Hid (Kp W w8) := z8.below HX7.out K7.out
  obtain ⟨ca, cb, co, cp, hcv, l1, l2, l3, l4⟩ := s8.parts
  rw [HCL.out] at hcv l1 l3 l4
  obtain rfl := l3 (by omega)
  subst hcv
  have cc := l4 0 (by omega)
  rw [HE0.out] at cc
  obtain ⟨gg_, gk, hgv, j1, j2, gc⟩ := ints_single (x := 0) i8
  subst hgv
  obtain ⟨T8, x8, _, _⟩ := z8
  have hFx := fun w' (k : Kp w8 w') => fixed_any (x8.kp k) 1
  rw [show doneI (upL5 (fun _ => 0) 1) 1 = 1 from rfl] at hFx
  have hSc := fun w' => sector_any 0 (by omega) false w'
  have j2' : gk ≤ 9223372036854775807 := by unfold maxLen at j2; omega
  have l2' : cp ≤ 9223372036854775807 := by unfold maxLen at l2; omega
  obtain ⟨X, eX⟩ : ∃ X, X = scS 0 false := ⟨_, rfl⟩
  rw [← eX] at cc hSc
  rw [Nat.add_zero] at cc
  have hcb : cb < w8.heap.size := World.block_lt_of_cell? _ _ cc
  have hgb : gg_ < w8.heap.size := World.block_lt_of_cell? _ _ gc
  have rc := Rc.new w8 (.int .i64 0) (.slice (some ⟨cb, co, none⟩) 5 cp) (.slice (some ⟨gg_, 0, none⟩) 1 gk) (.int .i64 ((1 : Nat) : Int)) 70
  clear hLd l3 l4 s8 i8 sm8 q0 q1 q2 q3 q4 eX
  go_upto_region 9 with fail
  obtain ⟨W9, hW9⟩ : ∃ W, W = w8.alloc (.cells #[.int .i64 0, .slice (some ⟨cb, co, none⟩) 5 cp, .slice (some ⟨gg_, 0, none⟩) 1 gk, .int .i64 1] 70) := ⟨_, rfl⟩
  rw [← hW9]
  have k9 : Kp w8 W9 := by rw [hW9]; exact (Kp.refl w8).alloc _
  have rc9 : Rc W9 w8.heap.size (.int .i64 0) (.slice (some ⟨cb, co, none⟩) 5 cp) (.slice (some ⟨gg_, 0, none⟩) 1 gk) (.int .i64 1) := by rw [hW9]; exact rc
  obtain ⟨r0, r1, r2, r3, _⟩ := rc9
  have cc9 := k9.held cc
  have gc9 := k9.held gc
  clear hW9 rc
  have kd : Kp W9 W9.drew := (Kp.refl W9).drew
  have hS : ∀ V, Kp W9 V → V.cell? ⟨w8.heap.size, 1, none⟩ = some (.slice (some ⟨cb, co, none⟩) 5 cp) ∧ V.cell? ⟨w8.heap.size, 2, none⟩ = some (.slice (some ⟨gg_, 0, none⟩) 1 gk) ∧ V.cell? ⟨w8.heap.size, 3, none⟩ = some (.int .i64 1) ∧ V.cell? ⟨cb, co, none⟩ = some (.string X) ∧ V.cell? ⟨gg_, 0, none⟩ = some (.int .i64 0) := fun V k => ⟨k.held r1, k.held r2, k.held r3, k.held cc9, k.held gc9⟩
  clear r0 r1 r2 r3 cc gc cc9 gc9
  go_region_held3 (fun V => V.cell? ⟨w8.heap.size, 1, none⟩ = some (.slice (some ⟨cb, co, none⟩) 5 cp) ∧ V.cell? ⟨w8.heap.size, 2, none⟩ = some (.slice (some ⟨gg_, 0, none⟩) 1 gk) ∧ V.cell? ⟨w8.heap.size, 3, none⟩ = some (.int .i64 1) ∧ V.cell? ⟨cb, co, none⟩ = some (.string X) ∧ V.cell? ⟨gg_, 0, none⟩ = some (.int .i64 0)) (first | exact hS _ (kd.trans k10) | exact hS _ kd | exact hS _ (Kp.refl _)) (first
    | (go_at_call 18; refine (hSc _).mono ?_; rintro e w10 ⟨rfl, k10⟩)
    | (go_at_call 39; refine (hFx _ (k9.trans (kd.trans k10))).mono ?_; rintro e w11 ⟨rfl, rfl⟩))
  all_goals (
    go_wp2
    go_ret
    exact ⟨by first | rfl | (simp), (KW.out.trans K8.out).trans (k9.trans (kd.trans k10))⟩)

end Go.Proofs.YtonooelffokfkaaGreatDoor

namespace Go.Proofs.YtonooelffokfkaaGreatDoor
open Go.ChangeShapes Go.WideShapes Go.ChangeAt Go.RowKit Plain
set_option linter.unusedVariables false

section
variable {H : Type} {enc : TypeId × Value → H} {P : Program}
theorem open_nums {t e : TypeId} {W : World} {fuel : Nat} {v : Value} {x : DataW H × List MemPlace} (ht : P.underlying t = some (.slice e)) (he : P.underlying e = some (.int .i64)) (hc : P.cellsOf e = 1)
    (hf : DataW.trod enc P W 0 (fun _ => true) true fuel t [v] = some x) : ∃ l : List Int, Nl W v l := by
  rcases open_ints ht he hc hf with ⟨hcs, _⟩ | ⟨a, len, cap, zs, hcs, _, hl, hm, hz, _, hcell, hwf⟩
  · simp at hcs
    subst hcs
    exact ⟨[], Nl.nil W⟩
  · simp at hcs
    subst hcs
    simp only [if_true] at hz
    have hm2 : cap ≤ 9223372036854775807 := by unfold maxLen at hm; omega
    have hlen : (zs.take len).length = len := by rw [List.length_take]; omega
    have hat : ∀ i, i < len → (zs.take len).getD i 0 = zs.getD i 0 := fun i hi => by
      rw [List.getD_eq_getElem?_getD, List.getD_eq_getElem?_getD, List.getElem?_take_of_lt hi]
    by_cases h0 : 0 < len
    · obtain ⟨b, off, spot⟩ := a
      have hspot : spot = none := by simpa [Addr.add] using World.cell?_spot (hcell 0 (by omega))
      subst hspot
      refine ⟨zs.take len, some ⟨b, off, none⟩, b, off, cap, by rw [hlen], ⟨by omega, hm2, fun _ => rfl, fun j hj => ?_⟩⟩
      rw [hlen] at hj
      have hci := hcell j (by omega)
      have ei : (Addr.add ⟨b, off, none⟩ j) = ⟨b, off + j, none⟩ := by simp [Addr.add]
      rw [ei] at hci
      rw [hci, hat j hj]
    · obtain rfl : len = 0 := by omega
      exact ⟨[], some a, 0, 0, cap, rfl, ⟨by simp, hm2, fun h => absurd h (by simp), fun j hj => absurd hj (by simp)⟩⟩
theorem open_bl {t e : TypeId} {W : World} {fuel : Nat} {v : Value} {x : DataW H × List MemPlace} (ht : P.underlying t = some (.slice e)) (he : P.underlying e = some (.int .u8)) (hc : P.cellsOf e = 1)
    (hf : DataW.trod enc P W 0 (fun _ => true) true fuel t [v] = some x) : ∃ (n : Nat) (D : Nat → Nat), Bl W v n D := by
  rcases open_ints ht he hc hf with ⟨hcs, _⟩ | ⟨a, len, cap, zs, hcs, _, hl, hm, hz, _, hcell, hwf⟩
  · simp at hcs
    subst hcs
    exact ⟨0, fun _ => 0, none, 0, 0, 0, rfl, by omega, by omega, fun h => absurd h (by omega), fun j hj => absurd hj (by omega)⟩
  · simp at hcs
    subst hcs
    simp only [if_true] at hz
    have hm2 : cap ≤ 9223372036854775807 := by unfold maxLen at hm; omega
    by_cases h0 : 0 < len
    · obtain ⟨b, off, spot⟩ := a
      have hspot : spot = none := by simpa [Addr.add] using World.cell?_spot (hcell 0 (by omega))
      subst hspot
      refine ⟨len, fun j => (zs.getD j 0).toNat, some ⟨b, off, none⟩, b, off, cap, rfl, hl, hm2, fun _ => rfl, fun j hj => ?_⟩
      have hci := hcell j (by omega)
      have ei : (Addr.add ⟨b, off, none⟩ j) = ⟨b, off + j, none⟩ := by simp [Addr.add]
      rw [ei] at hci
      have hw : (Lit.int .u8 (zs.getD j 0)).wf = true := hwf _ (by rw [List.getD_eq_getElem?_getD, List.getElem?_eq_getElem (by omega)]; exact List.getElem_mem _)
      have hb := bounds_u8 hw
      refine ⟨?_, by show (zs.getD j 0).toNat < 256; omega⟩
      show W.cell? _ = some (.int .u8 (((zs.getD j 0).toNat : Nat) : Int))
      rw [hci, show (((zs.getD j 0).toNat : Nat) : Int) = zs.getD j 0 by omega]
    · obtain rfl : len = 0 := by omega
      exact ⟨0, fun _ => 0, some a, 0, 0, cap, rfl, by omega, hm2, fun h => absurd h (by omega), fun j hj => absurd hj (by omega)⟩
theorem open_setup5 {t f0 f1 f2 f3 f4 : TypeId} {W : World} {fuel : Nat} {cs : List Value} {x : DataW H × List MemPlace} (F : Array Field) (hu : P.underlying t = some (.struct F)) (hF : F.toList.map (fun f => (f.type, f.offset)) = [(f0, 0), (f1, 1), (f2, 2), (f3, 3), (f4, 4)])
    (c0 : P.cellsOf f0 = 1) (c1 : P.cellsOf f1 = 1) (c2 : P.cellsOf f2 = 1) (c3 : P.cellsOf f3 = 1) (c4 : P.cellsOf f4 = 1) (ct : P.cellsOf t = 5)
    (e0 : P.underlying f0 = some (.int .i64)) (e1 : P.underlying f1 = some (.int .i64)) (e : TypeId) (e2 : P.underlying f2 = some (.slice e)) (e3 : P.underlying f3 = some (.slice e)) (e5 : P.underlying e = some (.int .i64)) (c5 : P.cellsOf e = 1) (e' : TypeId) (e4 : P.underlying f4 = some (.slice e')) (e6 : P.underlying e' = some (.int .u8)) (c6 : P.cellsOf e' = 1)
    (h : DataW.trod enc P W 0 (fun _ => true) true fuel t cs = some x) : ∃ (m s : Int) (sv mv dv : Value) (sts mks : List Int) (nd : Nat) (D : Nat → Nat), cs = [.int .i64 m, .int .i64 s, sv, mv, dv] ∧ Nl W sv sts ∧ Nl W mv mks ∧ Bl W dv nd D := by
  obtain ⟨xs, k, hk, hxy, hcl, hxl, hff⟩ := DataW.trod_struct hu h
  have hsz : F.toList.length = 5 := by have := congrArg List.length hF; simpa using this
  obtain ⟨Fl⟩ := F
  match Fl, hsz with
  | [g0, g1, g2, g3, g4], _ =>
    simp only [List.map_cons, List.map_nil, List.cons.injEq, Prod.mk.injEq, and_true] at hF
    obtain ⟨⟨rfl, o0⟩, ⟨rfl, o1⟩, ⟨rfl, o2⟩, ⟨rfl, o3⟩, ⟨rfl, o4⟩⟩ := hF
    have q0 := hff 0 g0 rfl
    have q1 := hff 1 g1 rfl
    have q2 := hff 2 g2 rfl
    have q3 := hff 3 g3 rfl
    have q4 := hff 4 g4 rfl
    rw [ct] at hcl
    match xs, hxl, cs, hcl with
    | [y0, y1, y2, y3, y4], _, [v0, v1, v2, v3, v4], _ =>
      simp [o0, o1, o2, o3, o4, c0, c1, c2, c3, c4] at q0 q1 q2 q3 q4
      obtain ⟨a, ea, _, wa⟩ := DataW.trod_int e0 q0
      obtain ⟨b, eb, _, wb⟩ := DataW.trod_int e1 q1
      obtain ⟨l1, h1⟩ := open_nums e2 e5 c5 q2
      obtain ⟨l2, h2⟩ := open_nums e3 e5 c5 q3
      obtain ⟨nd, D, h3⟩ := open_bl e4 e6 c6 q4
      simp at ea eb
      subst ea; subst eb
      exact ⟨a, b, v2, v3, v4, l1, l2, nd, D, rfl, h1, h2, h3⟩
theorem open_ints3 {k e : TypeId} {W : World} {r : Reach} {b0 base : Nat} {sp : Nat → Bool} {held : Bool} {v : Value} {d : DataW H} {ps : List MemPlace} (hu : P.underlying k = some (.array 3 e)) (he : P.underlying e = some (.int .i64)) (hone : P.cellsOf e = 1) (hsize : P.cellsOf k = 3)
    (hval : Value.okWide P W r b0 k v) (hd : DataW.Trod enc P W base sp held k v d ps) : ∃ a b c : Int, v = .agg #[.int .i64 a, .int .i64 b, .int .i64 c] ∧ (Lit.int .i64 a).wf = true ∧ (Lit.int .i64 b).wf = true ∧ (Lit.int .i64 c).wf = true := by
  have hp : ∃ c0 c1 c2, v = .agg #[c0, c1, c2] := by
    simp only [Value.okWide, hu] at hval
    obtain ⟨cs, h1, h2, _⟩ := hval
    rw [hsize] at h2
    obtain ⟨l⟩ := cs
    match l, h2 with
    | [c0, c1, c2], _ => exact ⟨c0, c1, c2, h1⟩
  obtain ⟨c0, c1, c2, rfl⟩ := hp
  obtain ⟨fuel, hf⟩ := hd
  cases fuel with
  | zero => simp [DataW.trod] at hf
  | succ n =>
    rw [DataW.trod_step] at hf
    unfold DataW.trodStep at hf
    simp only [hu, Value.cells] at hf
    rw [if_pos (by rw [hsize]; rfl)] at hf
    simp only [Option.map_eq_some_iff] at hf
    obtain ⟨xs, hx, e1⟩ := hf
    rw [show List.range 3 = [0, 1, 2] from rfl, List.mapM_cons, List.mapM_cons, List.mapM_cons, List.mapM_nil] at hx
    simp only [bind, Option.bind_eq_some_iff, pure, Option.some.injEq, hone] at hx
    obtain ⟨y0, h0, _, ⟨y1, h1, _, ⟨y2, h2, _, rfl, rfl⟩, rfl⟩, rfl⟩ := hx
    obtain ⟨a, ea, rfl, wa⟩ := DataW.trod_int he h0
    obtain ⟨b, eb, rfl, wb⟩ := DataW.trod_int he h1
    obtain ⟨c, ec, rfl, wc⟩ := DataW.trod_int he h2
    simp at ea eb ec
    subst ea; subst eb; subst ec
    exact ⟨a, b, c, rfl, wa, wb, wc⟩
end
set_option maxRecDepth 100000 in
theorem open_setup {H : Type} {enc : TypeId × Value → H} {W : World} {r : Reach} {b0 : Nat} {v : Value} {d : DataW H} {ps : List MemPlace} (hval : Value.okWide Tryz.prog W r b0 25 v) (hd : DataW.Trod enc Tryz.prog W 0 (fun _ => true) true 25 v d ps) : ∃ (m s : Int) (sv mv dv : Value) (sts mks : List Int) (nd : Nat) (D : Nat → Nat), v = xV m s sv mv dv ∧ Nl W sv sts ∧ Nl W mv mks ∧ Bl W dv nd D := by
  have hp : ∃ A, v = .agg A := by
    simp only [Value.okWide, Tryz.underlying25] at hval
    obtain ⟨cs, h1, h2, _⟩ := hval
    exact ⟨cs, h1⟩
  obtain ⟨A, rfl⟩ := hp
  obtain ⟨fuel, hf⟩ := hd
  obtain ⟨m, s, sv, mv, dv, sts, mks, nd, D, h1, h2, h3, h4⟩ := open_setup5 (enc := enc) _ Tryz.underlying25 rfl (by kernel_rfl) (by kernel_rfl) (by kernel_rfl) (by kernel_rfl) (by kernel_rfl) (by kernel_rfl) Tryz.underlying3 Tryz.underlying3 3 Tryz.underlying22 Tryz.underlying22 Tryz.underlying3 (by kernel_rfl) 5 Tryz.underlying23 Tryz.underlying5 (by kernel_rfl) hf
  refine ⟨m, s, sv, mv, dv, sts, mks, nd, D, ?_, h2, h3, h4⟩
  simp only [Value.cells] at h1
  obtain ⟨Al⟩ := A
  simp only at h1
  rw [h1]

def lz : List (String × DataW Unit) := Rows.rowLostRow.laid
theorem door_met (os : Os) (args : Array Value) : laidMetH Tryz.prog lz ((World.doorLaid Tryz.prog 400 os).forCall (fun _ _ => 0) ⟨#[], args, []⟩).memory :=
  laidMetH_of_parts3 (fuel := 8) (laidMet_of_run' 8 (by kernel_rfl) (by kernel_rfl)) (by kernel_rfl) (by kernel_rfl)
theorem of_laid {W : World} (h : laidMetH Tryz.prog lz W) : Tab W := by
  rw [MakeChecks.laidMetH_plain _ _ _ (by kernel_rfl)] at h
  obtain ⟨ps, ⟨g0, t0, cs0, f0, p0, q0, hg0, ht0, hv0, hd0, _, _⟩, _, _⟩ := h
  have e0 : some g0 = some 0 := hg0.symm.trans (by kernel_rfl)
  obtain rfl := Option.some.inj e0
  have e1 : some t0 = some 163 := ht0.symm.trans (by kernel_rfl)
  obtain rfl := Option.some.inj e1
  obtain ⟨xs, m1, rfl, hx1, hlen, hn3, hel⟩ := DataW.trod_array Tryz.underlying163 hd0
  have c9 : Tryz.prog.cellsOf 5 = 1 := by kernel_rfl
  obtain ⟨hag, _⟩ := Prod.mk.inj hx1
  have hl : xs.map (·.1) = Lib.deBruijn64tab.map (fun (n : Nat) => (.lit (.int .u8 (n : Int)) : DataW Unit)) := (DataW.agg.inj hag).symm
  have ht : Lib.deBruijn64tab.length = 64 := by decide
  intro j hj0
  have hj : j < 64 := by rw [ht] at hj0; exact hj0
  have hj' := hel j hj
  rw [c9, Nat.mul_one, List.getElem?_eq_getElem (by omega)] at hj'
  obtain ⟨s, e2, e3, _⟩ := DataW.trod_int Tryz.underlying5 hj'
  have e4 : cs0.toList[j]? = some (.int .u8 s) := by
    have := congrArg (fun l => l[0]?) e2
    simpa using this
  have hc := World.var?_cell hg0 hv0 j
  rw [← Array.getElem?_toList, e4] at hc
  have e5 : (xs.map (·.1))[j]? = some (.lit (.int .u8 s)) := by
    rw [List.getElem?_map, List.getElem?_eq_getElem (by omega)]
    simp [e3]
  rw [hl, List.getElem?_map, List.getElem?_eq_getElem hj0] at e5
  have e6 : s = ((Lib.deBruijn64tab.getD j 0 : Nat) : Int) := by
    rw [List.getD_eq_getElem?_getD, List.getElem?_eq_getElem hj0]
    simp at e5
    simp [← e5]
  rw [← e6]
  exact hc


end Go.Proofs.YtonooelffokfkaaGreatDoor

namespace Go.Proofs.YtonooelffokfkaaGreatDoor
open Go.RowKit Plain
set_option linter.unusedVariables false


/-! ### how many columns are lost -/
theorem go_perm : ∀ N : Nat, N < 9 → 4 ≤ N → ∀ t : Nat, t < 6 → (((List.range N).map fun c : Nat => (mM N t c).toNat).isPerm (List.range N)) = true := by decide +kernel
theorem goN_len {N t : Nat} (h4 : 4 ≤ N) (h8 : N ≤ 8) (ht : t < 6) (dd : Nat → Bool) : (goN N t dd).length = ((List.range N).filter dd).length := by
  have p := List.isPerm_iff.1 (go_perm N (by omega) h4 t ht)
  have q := (p.filter dd).length_eq
  rw [List.filter_map, List.length_map] at q
  exact q
theorem upL5_same (cnt : Nat → Int) (j : Nat) : upL5 cnt j j = cnt j + 1 := if_pos rfl
theorem upL5_ne (cnt : Nat → Int) {j i : Nat} (h : i ≠ j) : upL5 cnt j i = cnt i := if_neg h

end Go.Proofs.YtonooelffokfkaaGreatDoor
