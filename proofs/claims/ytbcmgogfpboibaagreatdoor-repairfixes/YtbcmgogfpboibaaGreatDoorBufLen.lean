/-
  Contracts of bulk's length and of the document's Fit: of a list of texts the length of each and 0, or which error. Conditions: that the list's cells hold the texts.
-/
import Derived.Test.YtbcmgogfpboibaaGreatDoorBufMem
import Derived.Deep.QuietTactic
import Derived.BigQuiet
namespace Go.Proofs.YtbcmgogfpboibaaGreatDoor
open Go.RowKit Plain Go.BigFrame

set_option maxHeartbeats 4000000 in
theorem length_some (b off cap : Nat) (l : List ByteArray) (h0 : 0 < l.length) (h1 : l.length ≤ cap) (h2 : cap ≤ maxLen) (hs : ∀ i, i < l.length → (l.getD i noS).size ≤ maxLen) (w : World) (hc : ∀ i, i < l.length → w.cell? ⟨b, off + i, none⟩ = some (.string (l.getD i noS))) :
    Calls Tryz.prog 70 #[.slice (some ⟨b, off, none⟩) l.length cap] w fun e w' => e = .returned (.tuple #[.int .i64 (lenS l : Nat), .int .i64 (fitE l)]) ∧ w' = w := by
  unfold maxLen at h2 hs
  go_enter Tryz.func70, Tryz.ntmps70
  go_wp2
  go_loop [11] (fun i => ∃ k : Nat, k ≤ l.length ∧ i = .int .i64 k ∧ ∀ j, j < k → (l.getD j noS).size ≤ 65536) (fun i => l.length - (intOf i).toNat)
  case atStart => exact ⟨0, by omega, rfl, fun j hj => by omega⟩
  case round =>
    obtain ⟨k, hk, rfl, hall⟩ := hrel
    have HA : Hid (∀ j, j < k → (l.getD j noS).size ≤ 65536) := hall
    clear hall
    by_cases hlt : k < l.length
    · have hck := hc k hlt
      have hsk := hs k hlt
      obtain ⟨s, hse⟩ : ∃ s, s = l.getD k noS := ⟨_, rfl⟩
      rw [← hse] at hck hsk
      have HS : Hid (s = l.getD k noS) := hse
      clear hse hc hs
      by_cases hb : s.size ≤ 65536
      · go_wp2
        go_round
        case rel => exact ⟨k + 1, by omega, by go_num, fun j hj => by
          by_cases e : j = k
          · subst e; rw [← HS.out]; exact hb
          · exact HA.out j (by omega)⟩
        case measure => simp [intOf]; omega
      · have HF : Hid (fitE l = 2) := fit_big k hlt (by rw [← HS.out]; omega)
        go_wp2
        go_ret2
        exact ⟨by rw [HF.out, fit_not l (by rw [HF.out]; omega)]; rfl, rfl⟩
    · obtain rfl : k = l.length := by omega
      go_wp2
      go_loop [6, 21] (fun n i => ∃ m : Nat, m ≤ l.length ∧ i = .int .i64 m ∧ n = .int .i64 (if m = 0 then 0 else ((l.getD 0 noS).size : Nat) : Nat) ∧ ∀ j, j < m → (l.getD j noS).size = (l.getD 0 noS).size) (fun _ i => l.length - (intOf i).toNat)
      case atStart => exact ⟨0, by omega, rfl, rfl, fun j hj => by omega⟩
      case round =>
        obtain ⟨m, hm, rfl, rfl, hall⟩ := hrel
        have HB : Hid (∀ j, j < m → (l.getD j noS).size = (l.getD 0 noS).size) := hall
        clear hall
        by_cases hmt : m < l.length
        · have hck := hc m hmt
          have hsk := hs m hmt
          obtain ⟨s, hse⟩ : ∃ s, s = l.getD m noS := ⟨_, rfl⟩
          obtain ⟨n0, hn0⟩ : ∃ n0, n0 = (l.getD 0 noS).size := ⟨_, rfl⟩
          rw [← hse] at hck hsk
          rw [← hn0]
          have HS : Hid (s = l.getD m noS) := hse
          have HN : Hid (n0 = (l.getD 0 noS).size) := hn0
          clear hse hc hs hn0
          by_cases hm0 : m = 0
          · subst hm0
            simp only [Nat.add_zero] at hck
            have HE : Hid (s.size = n0) := by show s.size = n0; rw [HS.out, HN.out]
            go_wp2
            go_round
            case rel =>
              refine ⟨1, by omega, by go_num, ?_, fun j hj => ?_⟩
              · rw [if_neg (by omega), HE.out, HN.out]
              · obtain rfl : j = 0 := by omega
                exact HN.out.symm
            case measure => simp [intOf]; omega
          · rw [if_neg hm0]
            by_cases he : s.size = n0
            · have hne : ((s.size : Int) != (n0 : Int)) = false := by simp [he]
              have HE : Hid (s.size = n0) := he
              clear he
              go_wp2
              go_round
              case rel => exact ⟨m + 1, by omega, by go_num, by rw [if_neg (by omega), HE.out, HN.out], fun j hj => by
                by_cases e : j = m
                · subst e; rw [← HS.out, HE.out, HN.out]
                · rw [HB.out j (by omega), HN.out]⟩
              case measure => simp [intOf]; omega
            · have hne : ((s.size : Int) != (n0 : Int)) = true := by simp; omega
              have HF : Hid (fitE l = 4) := fit_unlike HA.out m hmt (by rw [← HS.out, ← HN.out]; exact he)
              clear he
              go_wp2
              go_ret2
              exact ⟨by rw [HF.out, fit_not l (by rw [HF.out]; omega)]; rfl, rfl⟩
        · obtain rfl : m = l.length := by omega
          have HF : Hid (fitE l = 0) := fit_ok HA.out HB.out
          rw [if_neg (by omega)]
          obtain ⟨n0, hn0⟩ : ∃ n0, n0 = (l.getD 0 noS).size := ⟨_, rfl⟩
          rw [← hn0]
          have HN : Hid (n0 = (l.getD 0 noS).size) := hn0
          clear hc hs hn0
          go_wp2
          go_ret2
          exact ⟨by rw [HF.out, fit_zero l HF.out, HN.out]; rfl, rfl⟩

end Go.Proofs.YtbcmgogfpboibaaGreatDoor
