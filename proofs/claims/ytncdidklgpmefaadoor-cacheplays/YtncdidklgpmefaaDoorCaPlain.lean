/-
  A cache as plain data (CS): its turn, what it has of each stripe (Hd), how many data columns; what its calls make of it, and what stays true of it (Ci). Plain facts; no condition.
-/
import Derived.Test.YtncdidklgpmefaaDoorQuSec
import Derived.Test.YtncdidklgpmefaaDoorMkOf
namespace Go.Proofs.YtncdidklgpmefaaDoor
open Go.RowKit Plain
set_option linter.unusedVariables false

/-- what a cache has of a stripe: its columns' bytes, what is old of them, which are dirty; no bytes: none. -/
structure Hd where
  n : Int → ByteArray
  o : Int → ByteArray
  d : Int → Bool
def hd0 : Hd := ⟨fun _ => noS, fun _ => noS, fun _ => false⟩
def isS (s : ByteArray) : Bool := decide (s.size ≠ 0)
theorem isS_no : isS noS = false := by decide
theorem isS_of {s : ByteArray} (h : s.size = 64) : isS s = true := by unfold isS; rw [h]; decide
def upS (f : Int → ByteArray) (j : Int) (s : ByteArray) : Int → ByteArray := fun i => if i = j then s else f i
def upB (f : Int → Bool) (j : Int) (b : Bool) : Int → Bool := fun i => if i = j then b else f i
def upH (f : Int → Hd) (k : Int) (h : Hd) : Int → Hd := fun i => if i = k then h else f i
theorem upH_at (f : Int → Hd) (k : Int) (h : Hd) : upH f k h k = h := if_pos rfl
theorem upH_off (f : Int → Hd) {k i : Int} (h : Hd) (e : i ≠ k) : upH f k h i = f i := if_neg e
theorem upH_id (f : Int → Hd) (k : Int) : upH f k (f k) = f := by
  funext i
  unfold upH
  split
  · rename_i e; rw [e]
  · rfl
theorem upH_two (f : Int → Hd) (k : Int) (a b : Hd) : upH (upH f k a) k b = upH f k b := by
  funext i
  unfold upH
  split <;> rfl
def stF (f : Int → ByteArray) (j : Nat) : Bool := isS (f (j : Int))
def sdF (d : Int → Bool) (j : Nat) : Bool := d (j : Int)
/-- is one of its columns dirty? -/
def dyH (h : Hd) : Bool := !emB (sdF h.d)
theorem dy_no : dyH hd0 = false := by
  unfold dyH
  rw [emB_of (f := sdF hd0.d) (fun _ _ => rfl)]; rfl
theorem dy_of {h : Hd} {j : Int} (h0 : 0 ≤ j) (h1 : j < 256) (hd : h.d j = true) : dyH h = true := by
  unfold dyH
  rw [emB_not j.toNat (by omega) (by unfold sdF; rw [Int.toNat_of_nonneg h0]; exact hd)]; rfl
structure CS where
  S : TS
  H : Int → Hd
  W : Int
def newC (m z w : Int) : CS := ⟨newT m z, fun _ => hd0, w⟩
/-- what is held of a stripe, as it comes. -/
structure HOk (W : Int) (h : Hd) : Prop where
  out : ∀ j, ¬ (0 ≤ j ∧ j < W) → h.n j = noS ∧ h.o j = noS ∧ h.d j = false
  sn : ∀ j, h.n j = noS ∨ (h.n j).size = 64
  so : ∀ j, h.o j = noS ∨ (h.o j).size = 64
  dn : ∀ j, h.d j = true → (h.n j).size = 64
  on : ∀ j, (h.o j).size = 64 → (h.n j).size = 64
theorem HOk.no (W : Int) : HOk W hd0 := ⟨fun _ _ => ⟨rfl, rfl, rfl⟩, fun _ => .inl rfl, fun _ => .inl rfl, fun _ h => (by cases h), fun _ h => absurd (show noS.size = 64 from h) (by decide)⟩
def flH (h : Hd) (j : Int) (s : ByteArray) : Hd := { h with o := upS h.o j s, n := if h.d j then h.n else upS h.n j s }
def ptH (h : Hd) (j : Int) (s : ByteArray) : Hd := { h with n := upS h.n j s, d := upB h.d j true }
def dnH (h : Hd) : Hd := { h with d := fun _ => false, o := h.n }
theorem upS_cases {f : Int → ByteArray} {j : Int} {s : ByteArray} {P : Int → ByteArray → Prop} (h1 : P j s) (h2 : ∀ i, i ≠ j → P i (f i)) (i : Int) : P i (upS f j s i) := by
  unfold upS
  by_cases e : i = j
  · rw [if_pos e, e]; exact h1
  · rw [if_neg e]; exact h2 i e
theorem HOk.fill {W : Int} {h : Hd} (k : HOk W h) {j : Int} {s : ByteArray} (h0 : 0 ≤ j) (h1 : j < W) (hs : s.size = 64) : HOk W (flH h j s) := by
  have ho : ∀ i, i ≠ j → (flH h j s).o i = h.o i := fun i e => if_neg e
  have hoj : (flH h j s).o j = s := if_pos rfl
  have hn : ∀ i, i ≠ j → (flH h j s).n i = h.n i := fun i e => by
    unfold flH
    show (if h.d j then h.n else upS h.n j s) i = _
    cases h.d j
    · exact if_neg e
    · rfl
  have hnj : ((flH h j s).n j).size = 64 := by
    unfold flH
    show ((if h.d j then h.n else upS h.n j s) j).size = 64
    cases e : h.d j
    · show (upS h.n j s j).size = 64
      unfold upS
      rw [if_pos rfl]; exact hs
    · exact k.dn j e
  refine ⟨fun i hi => ?_, fun i => ?_, fun i => ?_, fun i hd => ?_, fun i hd => ?_⟩
  · have e : i ≠ j := by rintro rfl; exact hi ⟨h0, h1⟩
    rw [ho i e, hn i e]
    exact k.out i hi
  · by_cases e : i = j
    · rw [e]; exact .inr hnj
    · rw [hn i e]; exact k.sn i
  · by_cases e : i = j
    · rw [e, hoj]; exact .inr hs
    · rw [ho i e]; exact k.so i
  · by_cases e : i = j
    · rw [e]; exact hnj
    · rw [hn i e]; exact k.dn i hd
  · by_cases e : i = j
    · rw [e]; exact hnj
    · rw [ho i e] at hd; rw [hn i e]; exact k.on i hd
theorem HOk.put {W : Int} {h : Hd} (k : HOk W h) {j : Int} {s : ByteArray} (h0 : 0 ≤ j) (h1 : j < W) (hs : s.size = 64) : HOk W (ptH h j s) := by
  have hn : ∀ i, i ≠ j → (ptH h j s).n i = h.n i := fun i e => if_neg e
  have hnj : (ptH h j s).n j = s := if_pos rfl
  have hd : ∀ i, i ≠ j → (ptH h j s).d i = h.d i := fun i e => if_neg e
  refine ⟨fun i hi => ?_, fun i => ?_, fun i => k.so i, fun i he => ?_, fun i he => ?_⟩
  · have e : i ≠ j := by rintro rfl; exact hi ⟨h0, h1⟩
    rw [hn i e, hd i e]
    exact k.out i hi
  · by_cases e : i = j
    · rw [e, hnj]; exact .inr hs
    · rw [hn i e]; exact k.sn i
  · by_cases e : i = j
    · rw [e, hnj]; exact hs
    · rw [hn i e]; rw [hd i e] at he; exact k.dn i he
  · by_cases e : i = j
    · rw [e, hnj]; exact hs
    · rw [hn i e]; exact k.on i he
theorem HOk.done {W : Int} {h : Hd} (k : HOk W h) : HOk W (dnH h) :=
  ⟨fun i hi => ⟨(k.out i hi).1, (k.out i hi).1, rfl⟩, k.sn, k.sn, fun _ h => (by cases h), fun _ h => h⟩
/-- as caches come. -/
structure Ci (C : CS) : Prop where
  w1 : 2 ≤ C.W
  w2 : C.W ≤ 30
  key : ∀ k ∈ C.S.P ++ C.S.D, 0 ≤ k ∧ k < 64
  off : ∀ k, k ∉ C.S.P ++ C.S.D → C.H k = hd0
  ok : ∀ k, HOk C.W (C.H k)
  pin : ∀ k, C.S.K k = dyH (C.H k)
theorem Ci.new {m z w : Int} (h1 : 2 ≤ w) (h2 : w ≤ 30) : Ci (newC m z w) := ⟨h1, h2, fun k h => by simp [newC, newT] at h, fun _ _ => rfl, fun _ => HOk.no _, fun _ => dy_no.symm⟩
theorem Ci.outk {C : CS} (h : Ci C) {k : Int} (hk : inT C.S k = false) : C.H k = hd0 := h.off k (in_not.1 hk)
/-! ### the calls -/
def fulB (S : TS) : Bool := decide (S.M ≤ (S.P.length : Int) + (S.D.length : Int))
def usE (C : CS) (k : Int) : Int := if inT C.S k then 0 else if fulB C.S then (if (vcO C.S).isSome then 0 else 10) else 0
/-- a place is made. -/
def plC (C : CS) : CS := if fulB C.S then (match vcO C.S with | none => C | some v => { C with S := drS C.S v, H := upH C.H v hd0 }) else C
def usC (C : CS) (k : Int) : CS := if inT C.S k then { C with S := toS C.S k } else if usE C k = 0 then { plC C with S := adS (plC C).S k } else C
def rfE (C : CS) (k j : Int) (n : Nat) : Int := if k < 0 ∨ 64 ≤ k ∨ j < 0 ∨ C.W ≤ j then 3 else if n ≠ 64 then 4 else 0
def ptE (C : CS) (k j : Int) (n : Nat) : Int := if rfE C k j n = 0 then usE C k else rfE C k j n
def flC (C : CS) (k j : Int) (s : ByteArray) : CS := if ptE C k j s.size = 0 then { usC C k with H := upH (usC C k).H k (flH ((usC C k).H k) j s) } else C
def ptC (C : CS) (k j : Int) (s : ByteArray) : CS := if ptE C k j s.size = 0 then { usC C k with H := upH (usC C k).H k (ptH ((usC C k).H k) j s), S := pnS (usC C k).S k true } else C
def gtC (C : CS) (k j : Int) : CS := if isS ((C.H k).n j) then { C with S := toS C.S k } else C
def dnC (C : CS) (k : Int) : CS := if inT C.S k then { C with H := upH C.H k (dnH (C.H k)), S := pnS C.S k false } else C
def dpB (C : CS) (k : Int) : Bool := inT C.S k && !dyH (C.H k)
def dpC (C : CS) (k : Int) : CS := if dpB C k then { C with S := drS C.S k, H := upH C.H k hd0 } else C
theorem rf_ok {C : CS} {k j : Int} {n : Nat} : rfE C k j n = 0 ↔ (0 ≤ k ∧ k < 64) ∧ (0 ≤ j ∧ j < C.W) ∧ n = 64 := by
  unfold rfE
  constructor
  · intro h
    split at h
    · cases h
    · split at h
      · cases h
      · omega
  · rintro ⟨h1, h2, h3⟩
    rw [if_neg (by omega), if_neg (by omega)]
theorem pt_ok {C : CS} {k j : Int} {n : Nat} : ptE C k j n = 0 ↔ rfE C k j n = 0 ∧ usE C k = 0 := by
  unfold ptE
  constructor
  · intro h
    split at h
    · rename_i h1; exact ⟨h1, h⟩
    · rename_i h1; exact absurd h h1
  · rintro ⟨h1, h2⟩
    rw [if_pos h1]; exact h2
theorem dr_keys {S : TS} (hg : Gd S) {v : Int} (hv : v ∈ S.P ++ S.D) (k : Int) : k ∈ (drS S v).P ++ (drS S v).D ↔ k ∈ S.P ++ S.D ∧ k ≠ v := by
  have hp := tk_perm hg hv
  have hn := List.nodup_cons.1 (hp.nodup_iff.1 hg.nd)
  unfold drS
  rw [if_pos (in_iff.2 hv)]
  show k ∈ (tkS S v).P ++ (tkS S v).D ↔ _
  rw [hp.mem_iff, List.mem_cons]
  constructor
  · intro h
    exact ⟨.inr h, fun e => by subst e; exact hn.1 h⟩
  · rintro ⟨h | h, h2⟩
    · exact absurd h h2
    · exact h
theorem dr_K {S : TS} (v : Int) (hv : inT S v = true) : (drS S v).K = setK S.K v false ∧ (drS S v).M = S.M ∧ (drS S v).n = S.n := by
  unfold drS
  rw [if_pos hv]
  exact ⟨rfl, rfl, rfl⟩
theorem dr_few {S : TS} (hg : Gd S) {v : Int} (hv : v ∈ S.P ++ S.D) : (drS S v).P.length + (drS S v).D.length + 1 = S.P.length + S.D.length := by
  have := dr_len hg hv
  unfold drS
  rw [if_pos (in_iff.2 hv)]
  exact this
/-- one that isn't pinned goes, with all that it has. -/
theorem Ci.gone {C : CS} (h : Ci C) (hg : Gd C.S) {v : Int} (hv : v ∈ C.S.P ++ C.S.D) : Ci { C with S := drS C.S v, H := upH C.H v hd0 } := by
  refine ⟨h.w1, h.w2, fun k hk => h.key k ((dr_keys hg hv k).1 hk).1, fun k hk => ?_, fun k => ?_, fun k => ?_⟩
  · by_cases e : k = v
    · rw [e]; exact upH_at _ _ _
    · show upH C.H v hd0 k = hd0
      rw [upH_off _ _ e]
      exact h.off k (fun hm => hk ((dr_keys hg hv k).2 ⟨hm, e⟩))
  · show HOk C.W (upH C.H v hd0 k)
    by_cases e : k = v
    · rw [e, upH_at]; exact HOk.no _
    · rw [upH_off _ _ e]; exact h.ok k
  · show (drS C.S v).K k = dyH (upH C.H v hd0 k)
    rw [(dr_K v (in_iff.2 hv)).1]
    unfold setK
    by_cases e : k = v
    · rw [if_pos e, e, upH_at, dy_no]
    · rw [if_neg e, upH_off _ _ e]; exact h.pin k
theorem Ci.place {C : CS} (h : Ci C) (hg : Gd C.S) : Ci (plC C) ∧ Gd (plC C).S := by
  unfold plC
  split
  · split
    · exact ⟨h, hg⟩
    · rename_i v hv
      exact ⟨h.gone hg (vc_in hv).1, hg.drop v⟩
  · exact ⟨h, hg⟩
theorem Ci.touch {C : CS} (h : Ci C) (hg : Gd C.S) (k : Int) : Ci { C with S := toS C.S k } := by
  have hp := to_perm hg k
  exact ⟨h.w1, h.w2, fun j hj => h.key j (hp.mem_iff.1 hj), fun j hj => h.off j (fun hm => hj (hp.mem_iff.2 hm)), h.ok, fun j => by show (toS C.S k).K j = _; rw [(to_K C.S k).1]; exact h.pin j⟩
/-- behind a place made there is one. -/
theorem pl_add {C : CS} (hg : Gd C.S) {k : Int} (hk : inT C.S k = false) (he : usE C k = 0) : adE (plC C).S k = 0 := by
  unfold usE at he
  rw [hk, if_neg (by decide)] at he
  rw [ad_iff]
  unfold plC
  cases hf : fulB C.S with
  | false =>
    rw [if_neg (by decide)]
    exact ⟨in_not.1 hk, by unfold fulB at hf; simpa using hf⟩
  | true =>
    rw [hf, if_pos rfl] at he
    rw [if_pos rfl]
    cases hv : vcO C.S with
    | none => rw [hv] at he; exact absurd he (by decide)
    | some v =>
      have hin := (vc_in hv).1
      refine ⟨fun hm => in_not.1 hk ((dr_keys hg hin k).1 hm).1, ?_⟩
      have h1 := dr_few hg hin
      have h2 := (dr_K v (in_iff.2 hin)).2.1
      have h3 := hg.len
      show ((drS C.S v).P.length : Int) + ((drS C.S v).D.length : Int) < (drS C.S v).M
      rw [h2]
      omega
theorem pl_off {C : CS} (hg : Gd C.S) {k : Int} (hk : inT C.S k = false) : inT (plC C).S k = false ∧ (plC C).W = C.W ∧ (plC C).S.n = C.S.n := by
  unfold plC
  split
  · split
    · exact ⟨hk, rfl, rfl⟩
    · rename_i v hv
      have hin := (vc_in hv).1
      exact ⟨in_not.2 (fun hm => in_not.1 hk ((dr_keys hg hin k).1 hm).1), rfl, (dr_K v (in_iff.2 hin)).2.2⟩
  · exact ⟨hk, rfl, rfl⟩
theorem ad_keys {S : TS} {k : Int} (he : adE S k = 0) (j : Int) : j ∈ (adS S k).P ++ (adS S k).D ↔ j = k ∨ j ∈ S.P ++ S.D := by
  rw [ad_ok he, (ad_perm S k).mem_iff, List.mem_cons]
theorem Ci.added {C : CS} (h : Ci C) {k : Int} (he : adE C.S k = 0) (hk : 0 ≤ k ∧ k < 64) : Ci { C with S := adS C.S k } := by
  refine ⟨h.w1, h.w2, fun j hj => ?_, fun j hj => h.off j (fun hm => hj ((ad_keys he j).2 (.inr hm))), h.ok, fun j => ?_⟩
  · rcases (ad_keys he j).1 hj with rfl | hj
    · exact hk
    · exact h.key j hj
  · show (adS C.S k).K j = _
    rw [ad_ok he]; exact h.pin j
theorem us_in {C : CS} (hg : Gd C.S) {k : Int} (he : usE C k = 0) : inT (usC C k).S k = true := by
  unfold usC
  cases hk : inT C.S k with
  | true =>
    rw [if_pos rfl]
    exact in_iff.2 ((to_perm hg k).mem_iff.2 (in_iff.1 hk))
  | false =>
    rw [if_neg (by decide), if_pos he]
    exact in_iff.2 ((ad_keys (pl_add hg hk he) k).2 (.inl rfl))
theorem Ci.use {C : CS} (h : Ci C) (hg : Gd C.S) {k : Int} (hk : 0 ≤ k ∧ k < 64) : Ci (usC C k) ∧ Gd (usC C k).S := by
  unfold usC
  cases hi : inT C.S k with
  | true =>
    rw [if_pos rfl]
    exact ⟨h.touch hg k, hg.touch k⟩
  | false =>
    rw [if_neg (by decide)]
    by_cases he : usE C k = 0
    · rw [if_pos he]
      obtain ⟨h1, h2⟩ := h.place hg
      exact ⟨h1.added (pl_add hg hi he) hk, h2.add (by unfold iOk; omega)⟩
    · rw [if_neg he]; exact ⟨h, hg⟩
theorem us_W (C : CS) (k : Int) : (usC C k).W = C.W := by
  unfold usC plC
  split
  · rfl
  · split
    · split
      · split <;> rfl
      · rfl
    · rfl
theorem Ci.laid {C : CS} (h : Ci C) {k : Int} {x : Hd} (hk : inT C.S k = true) (hx : HOk C.W x) (hd : dyH x = dyH (C.H k)) : Ci { C with H := upH C.H k x } := by
  refine ⟨h.w1, h.w2, h.key, fun j hj => ?_, fun j => ?_, fun j => ?_⟩
  · show upH C.H k x j = hd0
    rw [upH_off _ _ (fun e => hj (by rw [e]; exact in_iff.1 hk))]
    exact h.off j hj
  · show HOk C.W (upH C.H k x j)
    by_cases e : j = k
    · rw [e, upH_at]; exact hx
    · rw [upH_off _ _ e]; exact h.ok j
  · show C.S.K j = dyH (upH C.H k x j)
    by_cases e : j = k
    · rw [e, upH_at, hd]; exact h.pin k
    · rw [upH_off _ _ e]; exact h.pin j
theorem pn_keys (S : TS) (k : Int) (on : Bool) : (pnS S k on).P = S.P ∧ (pnS S k on).D = S.D := by
  unfold pnS
  split <;> exact ⟨rfl, rfl⟩
theorem Ci.pinned {C : CS} (h : Ci C) {k : Int} {x : Hd} {on : Bool} (hk : inT C.S k = true) (hx : HOk C.W x) (hd : dyH x = on) : Ci { C with H := upH C.H k x, S := pnS C.S k on } := by
  have e1 : (pnS C.S k on).P ++ (pnS C.S k on).D = C.S.P ++ C.S.D := by rw [(pn_keys C.S k on).1, (pn_keys C.S k on).2]
  refine ⟨h.w1, h.w2, fun j hj => h.key j (by rw [← e1]; exact hj), fun j hj => ?_, fun j => ?_, fun j => ?_⟩
  · have hj2 : j ∉ C.S.P ++ C.S.D := by rw [← e1]; exact hj
    show upH C.H k x j = hd0
    rw [upH_off _ _ (fun e => hj2 (by rw [e]; exact in_iff.1 hk))]
    exact h.off j hj2
  · show HOk C.W (upH C.H k x j)
    by_cases e : j = k
    · rw [e, upH_at]; exact hx
    · rw [upH_off _ _ e]; exact h.ok j
  · show (pnS C.S k on).K j = dyH (upH C.H k x j)
    unfold pnS
    rw [if_pos hk]
    show setK C.S.K k on j = _
    unfold setK
    by_cases e : j = k
    · rw [if_pos e, e, upH_at, hd]
    · rw [if_neg e, upH_off _ _ e]; exact h.pin j
theorem fl_dy (h : Hd) (j : Int) (s : ByteArray) : dyH (flH h j s) = dyH h := rfl
theorem pt_dy (h : Hd) {j : Int} (s : ByteArray) (h0 : 0 ≤ j) (h1 : j < 256) : dyH (ptH h j s) = true := dy_of h0 h1 (if_pos rfl)
theorem dn_dy (h : Hd) : dyH (dnH h) = false := dy_no
theorem Ci.fill {C : CS} (h : Ci C) (hg : Gd C.S) (k j : Int) (s : ByteArray) : Ci (flC C k j s) := by
  unfold flC
  split
  · rename_i he
    obtain ⟨h1, h2⟩ := pt_ok.1 he
    obtain ⟨hk, hj, hs⟩ := rf_ok.1 h1
    obtain ⟨u1, u2⟩ := h.use hg hk
    exact u1.laid (us_in hg h2) ((u1.ok k).fill hj.1 (by rw [us_W]; exact hj.2) hs) (fl_dy _ _ _)
  · exact h
theorem Ci.put {C : CS} (h : Ci C) (hg : Gd C.S) (k j : Int) (s : ByteArray) : Ci (ptC C k j s) := by
  unfold ptC
  split
  · rename_i he
    obtain ⟨h1, h2⟩ := pt_ok.1 he
    obtain ⟨hk, hj, hs⟩ := rf_ok.1 h1
    obtain ⟨u1, u2⟩ := h.use hg hk
    exact u1.pinned (us_in hg h2) ((u1.ok k).put hj.1 (by rw [us_W]; exact hj.2) hs) (pt_dy _ _ hj.1 (by have := h.w2; omega))
  · exact h
theorem Ci.get {C : CS} (h : Ci C) (hg : Gd C.S) (k j : Int) : Ci (gtC C k j) := by
  unfold gtC
  split
  · exact h.touch hg k
  · exact h
theorem Ci.done {C : CS} (h : Ci C) (k : Int) : Ci (dnC C k) := by
  unfold dnC
  split
  · rename_i hk
    exact h.pinned hk (h.ok k).done (dn_dy _)
  · exact h
theorem Ci.dropped {C : CS} (h : Ci C) (hg : Gd C.S) (k : Int) : Ci (dpC C k) := by
  unfold dpC dpB
  split
  · rename_i hk
    rw [Bool.and_eq_true] at hk
    exact h.gone hg (in_iff.1 hk.1)
  · exact h
theorem has_st (f : Int → ByteArray) (W : Int) (hW : W ≤ 30) (h : ∀ j, ¬ (0 ≤ j ∧ j < W) → f j = noS) (j : Int) : hasB (stF f) j = isS (f j) := by
  unfold hasB stF
  by_cases e : 0 ≤ j ∧ j < 256
  · rw [decide_eq_true e, Bool.true_and, Int.toNat_of_nonneg e.1]
  · rw [decide_eq_false e, Bool.false_and, h j (by omega), isS_no]
theorem has_sd (d : Int → Bool) (W : Int) (hW : W ≤ 30) (h : ∀ j, ¬ (0 ≤ j ∧ j < W) → d j = false) (j : Int) : hasB (sdF d) j = d j := by
  unfold hasB sdF
  by_cases e : 0 ≤ j ∧ j < 256
  · rw [decide_eq_true e, Bool.true_and, Int.toNat_of_nonneg e.1]
  · rw [decide_eq_false e, Bool.false_and, h j (by omega)]

end Go.Proofs.YtncdidklgpmefaaDoor
