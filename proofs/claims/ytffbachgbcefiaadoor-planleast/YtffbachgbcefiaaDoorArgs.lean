/-
  Arguments that read behind a call as they read before: of what was there when the call began no block has turned. A slice of bytes, opened. No condition.
-/
import Derived.WalkKit
import Derived.ProofKit
import Derived.OpenShut
import Derived.WideKeyArgs
import Derived.ChangeSlices
namespace Go.Proofs.YtffbachgbcefiaaDoor
open Go.ChangeShapes Go.WideShapes Go.ChangeAt Go.RowKit

/-- w' is w with whatever is new behind it. -/
def Kept (w w' : World) : Prop := Grown w w' ∧ ∀ k, k < w.heap.size → w'.heap[k]? = w.heap[k]?
theorem Kept.same {w w' : World} (h : Kept w w') {p : MemPlace} (hp : p.block < w.heap.size) : w.sameAt w' p := by
  cases p with
  | cell b o => exact World.cell?_of_block (w := w) (h.2 b hp)
  | map b => exact h.2 b hp
theorem Kept.cell {w w' : World} (h : Kept w w') {b o : Nat} (hb : b < w.heap.size) : w'.cell? ⟨b, o, none⟩ = w.cell? ⟨b, o, none⟩ := World.cell?_of_block (w := w) (a := ⟨b, o, none⟩) (h.2 b hb)

section
variable {H : Type} {enc : TypeId × Value → H} {P : Program}
theorem trodAll_stays (hl : laidOutB P = true) {W W' : World} {sp : Nat → Bool} : ∀ {ts : List TypeId} {vs : List Value} {ds : List (DataW H)} {ps : List MemPlace}, (∀ t ∈ ts, P.readableRec t = true ∧ t < P.types.size) →
    DataW.TrodAll enc P W 0 (fun _ => true) true ts vs ds ps → (∀ p ∈ ps, W.sameAt W' p) → (∀ p ∈ ps, sp p.block = true) → DataW.TrodAll enc P W' 0 sp true ts vs ds ps
  | [], [], [], _, _, h, _, _ => h
  | _ :: _, _ :: _, _ :: _, _, hT, ⟨p, q, h1, h2, e⟩, hsame, hs =>
    ⟨p, q, WideElems.Trod_stays hl (hT _ (List.mem_cons.2 (Or.inl rfl))).1 (hT _ (List.mem_cons.2 (Or.inl rfl))).2 h1 (fun x hx => hsame x (by rw [e]; exact List.mem_append_left _ hx)) (fun x hx => hs x (by rw [e]; exact List.mem_append_left _ hx)),
      trodAll_stays hl (fun t ht => hT t (List.mem_cons.2 (Or.inr ht))) h2 (fun x hx => hsame x (by rw [e]; exact List.mem_append_right _ hx)) (fun x hx => hs x (by rw [e]; exact List.mem_append_right _ hx)), e⟩

/-- a slice of bytes that came in: empty, or n numbers at plain cells. -/
inductive BytesIn (w : World) : Value → Prop
  | empty (a : Option Addr) (cap : Nat) (h : cap ≤ maxLen) : BytesIn w (.slice a 0 cap)
  | some (b off n cap : Nat) (zs : List Int) (hb : b < w.heap.size) (h0 : 0 < n) (h1 : n ≤ cap) (h2 : cap ≤ maxLen) (hc : ∀ i, i < n → w.cell? ⟨b, off + i, none⟩ = Option.some (.int .u8 (zs.getD i 0))) (hz : ∀ i, 0 ≤ zs.getD i 0 ∧ zs.getD i 0 < 256) : BytesIn w (.slice (Option.some ⟨b, off, none⟩) n cap)

theorem open_bytes {t e : TypeId} {W : World} {base : Nat} {v : Value} {d : DataW H} {ps : List MemPlace} (ht : P.underlying t = some (.slice e)) (he : P.underlying e = some (.int .u8)) (hc : P.cellsOf e = 1)
    (hv : Value.okWide P W .any base t v) (h : DataW.Trod enc P W 0 (fun _ => true) true t v d ps) : BytesIn W v := by
  obtain ⟨a0, len, cap, rfl⟩ := okWide_slice ht hv
  obtain ⟨fuel, hf⟩ := h
  rcases open_ints ht he hc hf with ⟨hcs, _⟩ | ⟨a, len', cap', zs, hcs, _, hl, hm, hz, _, hcell, hwz⟩
  · simp [Value.cells] at hcs
    obtain ⟨rfl, rfl, rfl⟩ := hcs
    exact .empty none 0 (by unfold maxLen; omega)
  · simp [Value.cells] at hcs
    obtain ⟨rfl, rfl, rfl⟩ := hcs
    simp only [if_true] at hz
    by_cases h0 : len = 0
    · subst h0; exact .empty _ _ hm
    · obtain ⟨b, off, spot⟩ := a
      have hspot : spot = none := by simpa [Addr.add] using World.cell?_spot (hcell 0 (by omega))
      subst hspot
      have hb : b < W.heap.size := by
        have h0 := hcell 0 (by omega)
        have e0 : (Addr.add ⟨b, off, none⟩ 0) = ⟨b, off, none⟩ := by simp [Addr.add]
        rw [e0] at h0
        by_cases hh : b < W.heap.size
        · exact hh
        · exfalso
          have hn : W.heap[b]? = none := by simp; omega
          simp [World.cell?, hn] at h0
      refine .some b off len cap zs hb (by omega) hl hm (fun i hi => ?_) (fun i => ?_)
      · have hci := hcell i (by omega)
        have ei : (Addr.add ⟨b, off, none⟩ i) = ⟨b, off + i, none⟩ := by simp [Addr.add]
        rw [ei] at hci; exact hci
      · by_cases hi : i < zs.length
        · have e : zs.getD i 0 = zs[i] := by simp [List.getD, hi]
          have hw := hwz _ (List.getElem_mem hi)
          rw [e]
          have := bounds_u8 hw
          omega
        · have e : zs.getD i 0 = 0 := by rw [List.getD, List.getElem?_eq_none (by omega)]; rfl
          rw [e]; omega
end

end Go.Proofs.YtffbachgbcefiaaDoor
