/-
  Contracts of the document's own functions on buffers: Fit, Fold, Add, Scale, Double. Conditions: the arguments' own kinds, and that a list's cells hold the texts.
-/
import Derived.Test.YtbcmgogfpboibaaGreatDoorBufCalls
import Derived.Test.YtbcmgogfpboibaaGreatDoorMul
import Derived.WalkKit
namespace Go.Proofs.YtbcmgogfpboibaaGreatDoor
open Go.RowKit Plain Go.BigFrame

theorem rmul_any (a b : Nat) (ha : a < 256) (hb : b < 256) (w : World) :
    Calls Tryz.prog 48 #[.int .u8 a, .int .u8 b] w fun e w' => e = .returned (.int .u8 (ml a b : Nat)) ∧ Kp w w' := by
  refine (mul_any a b ha hb w).mono ?_
  rintro e w' ⟨rfl, rfl⟩
  exact ⟨by rw [ml_is a b ha hb]; rfl, (Kp.refl w).alloc _⟩

set_option maxRecDepth 100000 in
set_option maxHeartbeats 4000000 in
theorem fit_some (b off cap : Nat) (l : List ByteArray) (h0 : 0 < l.length) (h1 : l.length ≤ cap) (h2 : cap ≤ maxLen) (hs : ∀ i, i < l.length → (l.getD i noS).size ≤ maxLen) (w : World) (hc : ∀ i, i < l.length → w.cell? ⟨b, off + i, none⟩ = some (.string (l.getD i noS))) :
    Calls Tryz.prog 29 #[.slice (some ⟨b, off, none⟩) l.length cap] w fun e w' => e = .returned (.int .i64 (fitE l)) ∧ Kp w w' := by
  unfold maxLen at h2 hs
  go_enter Tryz.func29, Tryz.ntmps29
  go_wp2
  go_loop [3] (fun i => ∃ k : Nat, k ≤ l.length ∧ i = .int .i64 k ∧ ∀ j, j < k → (l.getD j noS).size ≤ 65536) (fun i => l.length - (intOf i).toNat)
  case atStart => exact ⟨0, by omega, rfl, fun j hj => by omega⟩
  case round =>
    obtain ⟨k, hk, rfl, hall⟩ := hrel
    have HA : Hid (∀ j, j < k → (l.getD j noS).size ≤ 65536) := hall
    clear hall
    by_cases hlt : k < l.length
    · have hck := hc k hlt
      have hsk := hs k hlt
      obtain ⟨s, hse⟩ : ∃ s, s = l.getD k noS := ⟨_, rfl⟩
      rw [← hse] at hck hsk
      have HS : Hid (s = l.getD k noS) := hse
      clear hse hc hs
      by_cases hb : s.size ≤ 65536
      · go_wp2
        go_round
        case rel => exact ⟨k + 1, by omega, by go_num, fun j hj => by
          by_cases e : j = k
          · subst e; rw [← HS.out]; exact hb
          · exact HA.out j (by omega)⟩
        case measure => simp [intOf]; omega
      · have HF : Hid (fitE l = 2) := fit_big k hlt (by rw [← HS.out]; omega)
        go_wp2
        go_ret
        exact ⟨by rw [HF.out]; rfl, Kp.refl _⟩
    · obtain rfl : k = l.length := by omega
      go_wp2
      go_loopw [4] (fun i wr => ∃ m : Nat, m ≤ l.length ∧ i = .int .i64 m ∧ (∀ j, j < m → (l.getD j noS).size = (l.getD 0 noS).size) ∧ Kp w wr) (fun i _ => l.length - (intOf i).toNat)
      case atStart => exact ⟨0, by omega, rfl, fun j hj => by omega, Kp.refl w⟩
      case round =>
        obtain ⟨m, hm, rfl, hall, hK⟩ := hrel
        have HB : Hid (∀ j, j < m → (l.getD j noS).size = (l.getD 0 noS).size) := hall
        clear hall
        by_cases hmt : m < l.length
        · have hck := kpw_cell (hK.held (hc m hmt))
          have hc0 := kpw_cell (hK.held (hc 0 h0))
          have hsk := hs m hmt
          have hs0 := hs 0 h0
          obtain ⟨s, hse⟩ : ∃ s, s = l.getD m noS := ⟨_, rfl⟩
          obtain ⟨z, hze⟩ : ∃ z, z = l.getD 0 noS := ⟨_, rfl⟩
          rw [← hse] at hck hsk
          rw [← hze] at hc0 hs0
          simp only [Nat.add_zero] at hc0
          have HS : Hid (s = l.getD m noS) := hse
          have HZ : Hid (z = l.getD 0 noS) := hze
          clear hse hc hs hze
          go_wp2_with fail
          refine wp_region_kp (by kernel_rfl) (by kernel_rfl) ?_
          repeat (first
            | go_big_quiet_skip
            | (go_big_quiet_want; go_big_quiet_op; go_big_quiet_on))
          refine wpQuiet_nil ?_
          rintro w' ⟨p, rfl⟩
          have hK2 := hK.trans (kpw_kp wr p)
          clear hck hc0
          by_cases he : s.size = z.size
          · have hne : ((s.size : Int) != (z.size : Int)) = false := by simp [he]
            have HE : Hid (s.size = z.size) := he
            clear he
            go_wp2
            go_roundw
            case rel =>
              refine ⟨m + 1, by omega, by go_num, fun j hj => ?_, hK2⟩
              by_cases e : j = m
              · subst e; rw [← HS.out, HE.out, HZ.out]
              · exact HB.out j (by omega)
            case measure => simp [intOf]; omega
          · have hne : ((s.size : Int) != (z.size : Int)) = true := by simp; omega
            have HF : Hid (fitE l = 4) := fit_unlike HA.out m hmt (by rw [← HS.out, ← HZ.out]; exact he)
            clear he
            go_wp2
            go_ret
            exact ⟨by rw [HF.out]; rfl, hK2⟩
        · obtain rfl : m = l.length := by omega
          have HF : Hid (fitE l = 0) := fit_ok HA.out HB.out
          clear hc hs
          go_wp2
          go_ret
          exact ⟨by rw [HF.out]; rfl, hK⟩
set_option maxHeartbeats 1000000 in
theorem fit_none (a : Option Addr) (cap : Nat) (w : World) : Calls Tryz.prog 29 #[.slice a 0 cap] w fun e w' => e = .returned (.int .i64 0) ∧ Kp w w' := by
  go_enter Tryz.func29, Tryz.ntmps29
  go_wp2
  refine wp_loop_rounds 1 ?_
  rw [rounds_succ]
  go_wp2
  refine wp_loop_rounds 1 ?_
  rw [rounds_succ]
  go_wp2
  go_ret
  exact ⟨rfl, Kp.refl _⟩
theorem fit_any (v : Value) (l : List ByteArray) (hs : ∀ i, i < l.length → (l.getD i noS).size ≤ maxLen) (w : World) (h : StrsIn w v l) :
    Calls Tryz.prog 29 #[v] w fun e w' => e = .returned (.int .i64 (fitE l)) ∧ Kp w w' := by
  cases h with
  | empty a cap h => exact fit_none a cap w
  | some b off cap l h0 h1 h2 hc => exact fit_some b off cap l h0 h1 h2 hs w hc

theorem convert_own_any {P : Program} {w : World} {base n : Nat} {e : TypeId} {v : Value} {f : Nat → Nat} (src dst : TypeId) (hs : P.underlying src = some (.slice e)) (he : P.underlying e = some (.int .u8)) (hd : P.underlying dst = some .string)
    (h : w.ownsRow base e 1 v n ((List.range n).map fun i => Value.int .u8 ((f i : Nat) : Int))) : (convert src dst v).run P w = .ok (.string (bs n f)) w := by
  rcases h.2 with ⟨hv, h0⟩ | ⟨g, cap, cur, hv, hb, hg, hn, hm, hsz, ht⟩
  · subst hv; subst h0
    exact run_convert_bytes_nil (P := P) w src e hs he 0 0 dst hd
  · subst hv
    exact convert_owned src dst hs he hd h (Nat.le_refl n) cap
theorem snoc (F : Nat → Value) (k : Nat) : (List.range k).map F ++ [F k] = (List.range (k + 1)).map F := by
  rw [List.range_succ, List.map_append]; rfl
theorem own_lt {w : World} {base : Nat} {e : TypeId} {size : Nat} {v : Value} {n : Nat} {xs : List Value} (h : w.ownsRow base e size v n xs) : ∀ k, v.ownBlock = some k → base ≤ k := fun k hk => (h.lt k hk).1

set_option maxRecDepth 100000 in
set_option maxHeartbeats 4000000 in
theorem rfold_any (a : ByteArray) (ha : a.size ≤ maxLen) (c : Nat) (hc : c < 256) (s : ByteArray) (hs : s.size ≤ maxLen) (w : World) :
    Calls Tryz.prog 49 #[.string a, .int .u8 c, .string s] w fun e w' => e = .returned (.tuple #[.string (resOf [a, s] (foldS a c s)), .int .i64 (fitE [a, s])]) ∧ Kp w w' := by
  obtain ⟨i0, hi, hz0, hz1, hz2⟩ := info_parts info_u8
  have HF := fit_any _ [a, s] (small2 ha hs) _ (StrsIn.lit2 w a s 9)
  have K0 : Kp w (w.alloc (.cells #[.string a, .string s] 9)) := (Kp.refl w).alloc _
  unfold maxLen at ha hs
  go_enter Tryz.func49, Tryz.ntmps49
  go_wp2_with fail
  refine HF.mono ?_; rintro e w1 ⟨rfl, k1⟩
  have K1 := K0.trans k1
  clear HF K0 k1
  by_cases hf : fitE [a, s] = 0
  · obtain ⟨hsz, hse⟩ := fit_two hf
    have hsy : s.size ≤ a.size := by omega
    clear hse
    rw [hf]
    have HR : Hid (resOf [a, s] (foldS a c s) = foldS a c s) := by show resOf [a, s] _ = _; unfold resOf; rw [if_pos hf]
    have HF : Hid (fitE [a, s] = 0) := hf
    clear hf
    go_wp2
    go_loopw [9, 10] (fun v i wr => ∃ k : Nat, k ≤ s.size ∧ i = .int .i64 k ∧ wr.ownsRow w.heap.size 5 1 v k ((List.range k).map fun i => Value.int .u8 (((fun i : Nat => bAt a i ^^^ ml c (bAt s i)) i : Nat) : Int)) ∧ Kp w wr) (fun _ i _ => s.size - (intOf i).toNat)
    case atStart => exact ⟨0, by omega, rfl, World.ownsRow_nil _ _ _ _, K1⟩
    case round =>
      obtain ⟨k, hk, rfl, hown, hK⟩ := hrel
      clear K1
      by_cases hlt : k < s.size
      · have hka : k < a.size := by omega
        have ea := bAt_nat a k hka
        have es := bAt_nat s k hlt
        have hx := u8_xor_nat (a[k]'hka).toNat (ml c (s[k]'hlt).toNat) (UInt8.toNat_lt _) (ml_lt _ _ hc)
        have HE : Hid (((a[k]'hka).toNat ^^^ ml c (s[k]'hlt).toNat : Nat) = (fun i : Nat => bAt a i ^^^ ml c (bAt s i)) k) := by show _ = bAt a k ^^^ ml c (bAt s k); rw [ea, es]
        clear ea es
        go_wp2_with fail
        refine (rmul_any c (s[k]'hlt).toNat hc (UInt8.toNat_lt _) _).mono ?_; rintro e w2 ⟨rfl, k2⟩
        have hown2 := ownsRow_kp hown k2
        have K2 := hK.trans k2
        have hz := K2.size
        clear hown hK k2
        go_wp2_with (at_builtin; refine wpList_append_own _ rfl _ _ 59 rfl w.heap.size 5 i0 (.int .u8 0) 1 1 Tryz.underlying59 hi hz0 hz1 hz2 rfl (by decide) _ _ _ rfl (hown2.alloc _) ⟨w2.heap.size, 0, none⟩ 1 1 [.int .u8 ((((a[k]'hka).toNat ^^^ ml c (s[k]'hlt).toNat : Nat)) : Int)] rfl rfl ?c1 ?c2 ?c3 ?c4 ?c5 ?_)
        case c1 =>
          intro j u hj
          match j, hj with
          | 0, hj => simp at hj; subst hj; simp [Addr.add]
        case c2 => intro u hu; simp at hu; subst hu; rfl
        case c3 => unfold maxLen; omega
        case c4 => omega
        case c5 => simp; omega
        · intro v' w3 hown3 hgrow3 _
          have hK3 : Kp w w3 := (K2.alloc _).grown hgrow3 (own_lt hown2)
          rw [HE.out, snoc] at hown3
          clear hgrow3 hown2 K2 HE
          go_wp2
          go_roundw
          case rel => exact ⟨k + 1, by omega, by go_num, hown3, hK3⟩
          case measure => simp [intOf]; omega
      · obtain rfl : k = s.size := by omega
        have hcv := convert_own_any (P := Tryz.prog) 59 9 Tryz.underlying59 Tryz.underlying5 Tryz.underlying9 hown
        clear hown
        go_wp2
        go_ret2
        exact ⟨by rw [HF.out, HR.out]; rfl, hK⟩
  · have hb : ((fitE [a, s]) != 0) = true := by simp [hf]
    have HR : Hid (resOf [a, s] (foldS a c s) = noS) := by show resOf [a, s] _ = _; unfold resOf; rw [if_neg hf]
    go_wp2
    go_ret2
    exact ⟨by rw [HR.out]; rfl, K1⟩


theorem fit_swap {a s : ByteArray} (hf : fitE [a, s] = 0) : fitE [s, a] = 0 := by
  have h2 := fit_two hf
  refine fit_ok (fun i hi => ?_) (fun i hi => ?_)
  · have h : i = 0 ∨ i = 1 := by simp at hi; omega
    rcases h with rfl | rfl
    · show s.size ≤ 65536; omega
    · exact h2.1
  · have h : i = 0 ∨ i = 1 := by simp at hi; omega
    rcases h with rfl | rfl
    · rfl
    · exact h2.2.symm

theorem addS_take (l : List ByteArray) (k : Nat) (h0 : 0 < k) (h : k < l.length) : addS (l.take (k + 1)) = foldS (addS (l.take k)) 1 (l.getD k noS) := by
  cases l with
  | nil => simp at h
  | cons s r =>
    obtain ⟨m, rfl⟩ : ∃ m, k = m + 1 := ⟨k - 1, by omega⟩
    have hm : m < r.length := by simpa using h
    show (r.take (m + 1)).foldl (fun o t => foldS o 1 t) s = foldS ((r.take m).foldl (fun o t => foldS o 1 t) s) 1 (r.getD m noS)
    rw [List.take_add_one, List.foldl_append, List.getElem?_eq_getElem hm, List.getD_eq_getElem?_getD, List.getElem?_eq_getElem hm]
    rfl
theorem addS_size (l : List ByteArray) (hf : fitE l = 0) : ∀ k, 0 < k → k ≤ l.length → (addS (l.take k)).size = (l.getD 0 noS).size
  | 0, h, _ => by omega
  | k + 1, _, h => by
    by_cases h0 : k = 0
    · subst h0
      cases l with
      | nil => simp at h
      | cons s r => rfl
    · rw [addS_take l k (by omega) (by omega), foldS_size, (fit_is l hf).2 k (by omega)]
theorem fit_pair {a s : ByteArray} (h1 : a.size ≤ 65536) (h2 : s.size = a.size) : fitE [a, s] = 0 := by
  refine fit_ok (fun i hi => ?_) (fun i hi => ?_)
  · have h : i = 0 ∨ i = 1 := by simp at hi; omega
    rcases h with rfl | rfl
    · exact h1
    · show s.size ≤ 65536; omega
  · have h : i = 0 ∨ i = 1 := by simp at hi; omega
    rcases h with rfl | rfl
    · rfl
    · exact h2

end Go.Proofs.YtbcmgogfpboibaaGreatDoor
