/-
  TallyPlays: for every input the law answers true, and its arguments read as before. The condition: the kinds' names read as they are laid.
-/
import Derived.Test.YtlhiienmhglieaaDoorRows
import Derived.Test.YtlhiienmhglieaaDoorCards
import Derived.Test.YtlhiienmhglieaaDoorTie
import Derived.Test.YtlhiienmhglieaaDoorTlArgs
import Derived.Test.YtlhiienmhglieaaDoorTlRef
import Derived.WalkKit
import Derived.ProofKit
import Derived.OpenShut
import Derived.ShutString
import Derived.LaidMore
import Derived.SevenTiedAt
import Derived.Stop.Joined
namespace Go.Proofs.YtlhiienmhglieaaDoor.tallyPlays
open Go.ChangeShapes Go.WideShapes Go.ChangeAt Go.RowKit
open Go.ChangeMaps (open_string shut_string)
open Go.BigFrame
set_option linter.unusedVariables false

theorem own : ownKnob Tryd.prog.godebug = none := by kernel_rfl
theorem laidOut : laidOutB Tryd.prog = true := by kernel_rfl

def rem5 (d : Int) : Int := d.tmod 5
def stP (s : TS) (a : TA) : TS := if rem5 a.d = 2 ∨ rem5 a.d = -2 ∨ rem5 a.d = 3 ∨ rem5 a.d = -3 then nt s a.z else if rem5 a.d = 4 ∨ rem5 a.d = -4 then (if a.z = 77 then tz else s) else ad s a.k a.n

set_option maxRecDepth 100000 in
set_option maxHeartbeats 8000000 in
theorem walk (w : World) (hN : Names w) (a0 : Value) (l0 : List TA) (w0 : Acts w a0 l0) :
    Calls Tryd.prog 3 #[a0] w fun e w' => e = .returned (.bool true) ∧ Kp w w' := by
  obtain ⟨q, cap, rfl, hl1, hl2, hl3⟩ := w0.h
  obtain ⟨n1, hn1⟩ : ∃ n1, n1 = l0.length := ⟨_, rfl⟩
  rw [← hn1] at hl1 ⊢
  obtain ⟨m, hm⟩ : ∃ m, m = min n1 60 := ⟨_, rfl⟩
  have hm1 : m ≤ n1 := by omega
  have hm2 : m ≤ 60 := by omega
  have hmin := fun w' => imin (P := Tryd.prog) #[3, 3] 3 (n1 : Int) 60 w'
  rw [show min (n1 : Int) 60 = (m : Int) by omega] at hmin
  have HA : Hid (∀ wr, Kp w wr → ∀ i, i < m → ∃ (g off : Nat) (d kk zz nn : Int), q = some ⟨g, off, none⟩ ∧ wr.cell? ⟨g, off + i * 4, none⟩ = some (.int .i64 d) ∧ wr.cell? ⟨g, off + i * 4 + 1, none⟩ = some (.int .i64 kk) ∧ wr.cell? ⟨g, off + i * 4 + 2, none⟩ = some (.int .i64 zz) ∧ wr.cell? ⟨g, off + i * 4 + 3, none⟩ = some (.int .i64 nn) ∧ (-9223372036854775808 ≤ zz ∧ zz ≤ 9223372036854775807) ∧ nn ≤ 9223372036854775807) := fun wr kr i hi => by
    obtain ⟨g, off, e1, h4⟩ := hl3 (by omega)
    obtain ⟨c0, c1, c2, c3⟩ := a_cells (h4 i (by omega))
    exact ⟨g, off, _, _, _, _, e1, kr.held c0, kr.held c1, kr.held c2, kr.held c3, wf_le (w0.ok i (by omega)).z, (wf_le (w0.ok i (by omega)).n).2⟩
  have HNm := hid hN
  have hzr := zero_ref
  clear hl3 w0 hn1 hm hN
  go_enter Tryd.func3, Tryd.ntmps3
  go_wp2_with fail
  refine (new_any w).mono ?_; rintro e w1 ⟨rfl, h1, k1⟩
  obtain ⟨t, ht⟩ : ∃ t, t = w.heap.size := ⟨_, rfl⟩
  obtain ⟨u, hu⟩ : ∃ u, u = w1.heap.size := ⟨_, rfl⟩
  rw [← ht] at h1 ⊢
  have k2 : Kp w1 (w1.alloc (.cells zF 29)) := (Kp.refl w1).alloc _
  have h2 : TlIn (w1.alloc (.cells zF 29)) u tz := by rw [hu]; exact new_tl w1 _
  have htu : t ≠ u := by have := h1.hb; omega
  have hW := wakes_any _ (HNm.out.kp (k1.trans k2))
  have HT0 := hid (h1.kp k2)
  have HU0 := hid h2
  have HK2 := hid (k1.trans k2)
  have Hdt : Hid (w.heap.size ≤ t) := by rw [ht]; exact Nat.le_refl _
  have Hdu : Hid (w.heap.size ≤ u) := by rw [hu]; exact k1.size
  clear h1 h2 k1 k2 ht
  go_wp2_with fail
  rw [← hu]
  clear hu
  refine hW.mono ?_; rintro e w3 ⟨rfl, k3⟩
  have HT3 := hid (HT0.out.kp k3)
  have HU3 := hid (HU0.out.kp k3)
  have HK3 := hid (HK2.out.trans k3)
  clear hW k3 HT0 HU0 HK2
  go_wp2_with fail
  go_loopw [4, 18] (fun rv i wr => ∃ (k r : Nat) (S : TS), k ≤ m ∧ i = .int .i64 k ∧ rv = .pointer (some ⟨r, 0, none⟩) ∧ t ≠ r ∧ Hid (w.heap.size ≤ r) ∧ Hid (TlIn wr t S) ∧ Hid (TlIn wr r S) ∧ Hid (Ok S (k : Int)) ∧ Hid (Kp w wr)) (fun _ i _ => m - (intOf i).toNat)
  case atStart => exact ⟨0, u, tz, by omega, by go_num, rfl, htu, Hdu, HT3, HU3, ok_z, HK3⟩
  case round =>
    clear HT3 HU3 HK3 htu Hdu
    obtain ⟨k, r, S, hk, rfl, rfl, htr, Hdr, HT, HR, HO, HK⟩ := hrel
    by_cases hlt : k < m
    · obtain ⟨g, off, d, kk, zz, nn, rfl, f0, f1, f2, f3, hzz, hnn⟩ := HA.out wr HK.out k hlt
      obtain ⟨W1, hW1⟩ : ∃ W1, W1 = wr.alloc (.cells #[.int .i64 d, .int .i64 kk, .int .i64 zz, .int .i64 nn] 32) := ⟨_, rfl⟩
      have k1 : Kp wr W1 := by rw [hW1]; exact (Kp.refl wr).alloc _
      obtain ⟨B, hB⟩ : ∃ B, B = wr.heap.size := ⟨_, rfl⟩
      have c1 : W1.cell? ⟨B, 1, none⟩ = some (.int .i64 kk) := by rw [hW1, World.cell?_alloc_at _ _ _ _ hB]; rfl
      have c2 : W1.cell? ⟨B, 2, none⟩ = some (.int .i64 zz) := by rw [hW1, World.cell?_alloc_at _ _ _ _ hB]; rfl
      have c3 : W1.cell? ⟨B, 3, none⟩ = some (.int .i64 nn) := by rw [hW1, World.cell?_alloc_at _ _ _ _ hB]; rfl
      have hltB : t < B ∧ r < B := ⟨by rw [hB]; exact HT.out.hb, by rw [hB]; exact HR.out.hb⟩
      have HT1 := hid (HT.out.kp k1)
      have HR1 := hid (HR.out.kp k1)
      have HK1 := hid (HK.out.trans k1)
      have HW1 := hid hW1
      have HB := hid hB
      clear hW1 hB k1 HT HR HK
      by_cases hp2 : d.tmod 5 = 2
      · skip
        have hn1 := note_any t S (k : Int) zz W1 HT1.out HO.out (by omega) hzz.2
        go_wp2_with fail
        rw [← HW1.out, ← HB.out]
        refine hn1.mono ?_; rintro e V1 ⟨rfl, hv, sv⟩
        have e1 := sv.held c1 (show B ∉ [t] by simp; omega)
        have e2 := sv.held c2 (show B ∉ [t] by simp; omega)
        have e3 := sv.held c3 (show B ∉ [t] by simp; omega)
        have hrr := HR1.out.sp sv (show r ∉ [t] by simp; omega)
        have hn2 := rnote_any r S (k : Int) zz V1 hrr HO.out (by omega) hzz.1 hzz.2
        have HTa := hid hv
        have HKa : Hid (Kp w V1) := Sp.kp HK1.out sv (fun x hx => by rw [List.mem_singleton.1 hx]; exact Hdt.out)
        clear hn1 hv sv HT1 HR1 HK1 hrr c1 c2 c3
        go_wp2_with fail
        refine hn2.mono ?_; rintro e V ⟨rfl, hRV, sv⟩
        have hTV := HTa.out.sp sv (show t ∉ [r] by simp; omega)
        have KV : Kp w V := Sp.kp HKa.out sv (fun x hx => by rw [List.mem_singleton.1 hx]; exact Hdr.out)
        have HOV : Hid (Ok (nt S zz) ((k + 1 : Nat) : Int)) := by have := HO.out.nt zz hzz.2; rwa [show ((k : Nat) : Int) + 1 = ((k + 1 : Nat) : Int) by omega] at this
        clear hn2 sv HTa HKa e1 e2 e3
        have hs := same_any t r (nt S zz) V hTV hRV
        have HTV := hid hTV
        have HRV := hid hRV
        have HKV := hid KV
        clear hTV hRV KV
        go_wp2_with fail
        refine hs.mono ?_; rintro e V9 ⟨rfl, k9⟩
        have HT9 := hid (HTV.out.kp k9)
        have HR9 := hid (HRV.out.kp k9)
        have HK9 := hid (HKV.out.trans k9)
        clear hs k9 HTV HRV HKV
        go_wp2
        go_roundw
        case rel => exact ⟨k + 1, r, nt S zz, by omega, by go_num, rfl, htr, Hdr, HT9, HR9, HOV, HK9⟩
        case measure => simp [intOf]; omega
      · skip
        by_cases hn2 : d.tmod 5 = -2
        · skip
          have hn1 := note_any t S (k : Int) zz W1 HT1.out HO.out (by omega) hzz.2
          go_wp2_with fail
          rw [← HW1.out, ← HB.out]
          refine hn1.mono ?_; rintro e V1 ⟨rfl, hv, sv⟩
          have e1 := sv.held c1 (show B ∉ [t] by simp; omega)
          have e2 := sv.held c2 (show B ∉ [t] by simp; omega)
          have e3 := sv.held c3 (show B ∉ [t] by simp; omega)
          have hrr := HR1.out.sp sv (show r ∉ [t] by simp; omega)
          have hn2 := rnote_any r S (k : Int) zz V1 hrr HO.out (by omega) hzz.1 hzz.2
          have HTa := hid hv
          have HKa : Hid (Kp w V1) := Sp.kp HK1.out sv (fun x hx => by rw [List.mem_singleton.1 hx]; exact Hdt.out)
          clear hn1 hv sv HT1 HR1 HK1 hrr c1 c2 c3
          go_wp2_with fail
          refine hn2.mono ?_; rintro e V ⟨rfl, hRV, sv⟩
          have hTV := HTa.out.sp sv (show t ∉ [r] by simp; omega)
          have KV : Kp w V := Sp.kp HKa.out sv (fun x hx => by rw [List.mem_singleton.1 hx]; exact Hdr.out)
          have HOV : Hid (Ok (nt S zz) ((k + 1 : Nat) : Int)) := by have := HO.out.nt zz hzz.2; rwa [show ((k : Nat) : Int) + 1 = ((k + 1 : Nat) : Int) by omega] at this
          clear hn2 sv HTa HKa e1 e2 e3
          have hs := same_any t r (nt S zz) V hTV hRV
          have HTV := hid hTV
          have HRV := hid hRV
          have HKV := hid KV
          clear hTV hRV KV
          go_wp2_with fail
          refine hs.mono ?_; rintro e V9 ⟨rfl, k9⟩
          have HT9 := hid (HTV.out.kp k9)
          have HR9 := hid (HRV.out.kp k9)
          have HK9 := hid (HKV.out.trans k9)
          clear hs k9 HTV HRV HKV
          go_wp2
          go_roundw
          case rel => exact ⟨k + 1, r, nt S zz, by omega, by go_num, rfl, htr, Hdr, HT9, HR9, HOV, HK9⟩
          case measure => simp [intOf]; omega
        · skip
          by_cases hp3 : d.tmod 5 = 3
          · skip
            have hn1 := note_any t S (k : Int) zz W1 HT1.out HO.out (by omega) hzz.2
            go_wp2_with fail
            rw [← HW1.out, ← HB.out]
            refine hn1.mono ?_; rintro e V1 ⟨rfl, hv, sv⟩
            have e1 := sv.held c1 (show B ∉ [t] by simp; omega)
            have e2 := sv.held c2 (show B ∉ [t] by simp; omega)
            have e3 := sv.held c3 (show B ∉ [t] by simp; omega)
            have hrr := HR1.out.sp sv (show r ∉ [t] by simp; omega)
            have hn2 := rnote_any r S (k : Int) zz V1 hrr HO.out (by omega) hzz.1 hzz.2
            have HTa := hid hv
            have HKa : Hid (Kp w V1) := Sp.kp HK1.out sv (fun x hx => by rw [List.mem_singleton.1 hx]; exact Hdt.out)
            clear hn1 hv sv HT1 HR1 HK1 hrr c1 c2 c3
            go_wp2_with fail
            refine hn2.mono ?_; rintro e V ⟨rfl, hRV, sv⟩
            have hTV := HTa.out.sp sv (show t ∉ [r] by simp; omega)
            have KV : Kp w V := Sp.kp HKa.out sv (fun x hx => by rw [List.mem_singleton.1 hx]; exact Hdr.out)
            have HOV : Hid (Ok (nt S zz) ((k + 1 : Nat) : Int)) := by have := HO.out.nt zz hzz.2; rwa [show ((k : Nat) : Int) + 1 = ((k + 1 : Nat) : Int) by omega] at this
            clear hn2 sv HTa HKa e1 e2 e3
            have hs := same_any t r (nt S zz) V hTV hRV
            have HTV := hid hTV
            have HRV := hid hRV
            have HKV := hid KV
            clear hTV hRV KV
            go_wp2_with fail
            refine hs.mono ?_; rintro e V9 ⟨rfl, k9⟩
            have HT9 := hid (HTV.out.kp k9)
            have HR9 := hid (HRV.out.kp k9)
            have HK9 := hid (HKV.out.trans k9)
            clear hs k9 HTV HRV HKV
            go_wp2
            go_roundw
            case rel => exact ⟨k + 1, r, nt S zz, by omega, by go_num, rfl, htr, Hdr, HT9, HR9, HOV, HK9⟩
            case measure => simp [intOf]; omega
          · skip
            by_cases hn3 : d.tmod 5 = -3
            · skip
              have hn1 := note_any t S (k : Int) zz W1 HT1.out HO.out (by omega) hzz.2
              go_wp2_with fail
              rw [← HW1.out, ← HB.out]
              refine hn1.mono ?_; rintro e V1 ⟨rfl, hv, sv⟩
              have e1 := sv.held c1 (show B ∉ [t] by simp; omega)
              have e2 := sv.held c2 (show B ∉ [t] by simp; omega)
              have e3 := sv.held c3 (show B ∉ [t] by simp; omega)
              have hrr := HR1.out.sp sv (show r ∉ [t] by simp; omega)
              have hn2 := rnote_any r S (k : Int) zz V1 hrr HO.out (by omega) hzz.1 hzz.2
              have HTa := hid hv
              have HKa : Hid (Kp w V1) := Sp.kp HK1.out sv (fun x hx => by rw [List.mem_singleton.1 hx]; exact Hdt.out)
              clear hn1 hv sv HT1 HR1 HK1 hrr c1 c2 c3
              go_wp2_with fail
              refine hn2.mono ?_; rintro e V ⟨rfl, hRV, sv⟩
              have hTV := HTa.out.sp sv (show t ∉ [r] by simp; omega)
              have KV : Kp w V := Sp.kp HKa.out sv (fun x hx => by rw [List.mem_singleton.1 hx]; exact Hdr.out)
              have HOV : Hid (Ok (nt S zz) ((k + 1 : Nat) : Int)) := by have := HO.out.nt zz hzz.2; rwa [show ((k : Nat) : Int) + 1 = ((k + 1 : Nat) : Int) by omega] at this
              clear hn2 sv HTa HKa e1 e2 e3
              have hs := same_any t r (nt S zz) V hTV hRV
              have HTV := hid hTV
              have HRV := hid hRV
              have HKV := hid KV
              clear hTV hRV KV
              go_wp2_with fail
              refine hs.mono ?_; rintro e V9 ⟨rfl, k9⟩
              have HT9 := hid (HTV.out.kp k9)
              have HR9 := hid (HRV.out.kp k9)
              have HK9 := hid (HKV.out.trans k9)
              clear hs k9 HTV HRV HKV
              go_wp2
              go_roundw
              case rel => exact ⟨k + 1, r, nt S zz, by omega, by go_num, rfl, htr, Hdr, HT9, HR9, HOV, HK9⟩
              case measure => simp [intOf]; omega
            · skip
              by_cases hp4 : d.tmod 5 = 4
              · skip
                by_cases h77 : zz = 77
                · subst h77
                  have hn1 := reset_any t S W1 HT1.out
                  go_wp2_with fail
                  rw [← HW1.out, ← HB.out]
                  refine hn1.mono ?_; rintro e V1 ⟨rfl, hv, sv⟩
                  have kv1 : Kp w V1 := Sp.kp HK1.out sv (fun x hx => by rw [List.mem_singleton.1 hx]; exact Hdt.out)
                  obtain ⟨r2, hr2⟩ : ∃ r2, r2 = V1.heap.size := ⟨_, rfl⟩
                  have k2 : Kp V1 (V1.alloc (.cells zF 29)) := (Kp.refl V1).alloc _
                  have hRV : TlIn (V1.alloc (.cells zF 29)) r2 tz := by rw [hr2]; exact new_tl V1 _
                  have hTV := hv.kp k2
                  have KV := kv1.trans k2
                  have htr2 : t ≠ r2 := by have := hv.hb; omega
                  have Hdr2 : Hid (w.heap.size ≤ r2) := by rw [hr2]; exact kv1.size
                  have HOV : Hid (Ok tz ((k + 1 : Nat) : Int)) := ok_z.more (by omega)
                  have hs := same_any t r2 tz _ hTV hRV
                  have HTV := hid hTV
                  have HRV := hid hRV
                  have HKV := hid KV
                  clear hn1 hv sv kv1 k2 HT1 HR1 HK1 c1 c2 c3 hTV hRV KV
                  go_wp2_with fail
                  rw [← hr2]
                  refine hs.mono ?_; rintro e V9 ⟨rfl, k9⟩
                  have HT9 := hid (HTV.out.kp k9)
                  have HR9 := hid (HRV.out.kp k9)
                  have HK9 := hid (HKV.out.trans k9)
                  clear hs k9 HTV HRV HKV hr2
                  go_wp2
                  go_roundw
                  case rel => exact ⟨k + 1, r2, tz, by omega, by go_num, rfl, htr2, Hdr2, HT9, HR9, HOV, HK9⟩
                  case measure => simp [intOf]; omega
                · skip
                  have hs := same_any t r S W1 HT1.out HR1.out
                  have HOV : Hid (Ok S ((k + 1 : Nat) : Int)) := HO.out.more (by omega)
                  go_wp2_with fail
                  rw [← HW1.out, ← HB.out]
                  refine hs.mono ?_; rintro e V9 ⟨rfl, k9⟩
                  have HT9 := hid (HT1.out.kp k9)
                  have HR9 := hid (HR1.out.kp k9)
                  have HK9 := hid (HK1.out.trans k9)
                  clear hs k9 HT1 HR1 HK1
                  go_wp2
                  go_roundw
                  case rel => exact ⟨k + 1, r, S, by omega, by go_num, rfl, htr, Hdr, HT9, HR9, HOV, HK9⟩
                  case measure => simp [intOf]; omega
              · skip
                by_cases hn4 : d.tmod 5 = -4
                · skip
                  by_cases h77 : zz = 77
                  · subst h77
                    have hn1 := reset_any t S W1 HT1.out
                    go_wp2_with fail
                    rw [← HW1.out, ← HB.out]
                    refine hn1.mono ?_; rintro e V1 ⟨rfl, hv, sv⟩
                    have kv1 : Kp w V1 := Sp.kp HK1.out sv (fun x hx => by rw [List.mem_singleton.1 hx]; exact Hdt.out)
                    obtain ⟨r2, hr2⟩ : ∃ r2, r2 = V1.heap.size := ⟨_, rfl⟩
                    have k2 : Kp V1 (V1.alloc (.cells zF 29)) := (Kp.refl V1).alloc _
                    have hRV : TlIn (V1.alloc (.cells zF 29)) r2 tz := by rw [hr2]; exact new_tl V1 _
                    have hTV := hv.kp k2
                    have KV := kv1.trans k2
                    have htr2 : t ≠ r2 := by have := hv.hb; omega
                    have Hdr2 : Hid (w.heap.size ≤ r2) := by rw [hr2]; exact kv1.size
                    have HOV : Hid (Ok tz ((k + 1 : Nat) : Int)) := ok_z.more (by omega)
                    have hs := same_any t r2 tz _ hTV hRV
                    have HTV := hid hTV
                    have HRV := hid hRV
                    have HKV := hid KV
                    clear hn1 hv sv kv1 k2 HT1 HR1 HK1 c1 c2 c3 hTV hRV KV
                    go_wp2_with fail
                    rw [← hr2]
                    refine hs.mono ?_; rintro e V9 ⟨rfl, k9⟩
                    have HT9 := hid (HTV.out.kp k9)
                    have HR9 := hid (HRV.out.kp k9)
                    have HK9 := hid (HKV.out.trans k9)
                    clear hs k9 HTV HRV HKV hr2
                    go_wp2
                    go_roundw
                    case rel => exact ⟨k + 1, r2, tz, by omega, by go_num, rfl, htr2, Hdr2, HT9, HR9, HOV, HK9⟩
                    case measure => simp [intOf]; omega
                  · skip
                    have hs := same_any t r S W1 HT1.out HR1.out
                    have HOV : Hid (Ok S ((k + 1 : Nat) : Int)) := HO.out.more (by omega)
                    go_wp2_with fail
                    rw [← HW1.out, ← HB.out]
                    refine hs.mono ?_; rintro e V9 ⟨rfl, k9⟩
                    have HT9 := hid (HT1.out.kp k9)
                    have HR9 := hid (HR1.out.kp k9)
                    have HK9 := hid (HK1.out.trans k9)
                    clear hs k9 HT1 HR1 HK1
                    go_wp2
                    go_roundw
                    case rel => exact ⟨k + 1, r, S, by omega, by go_num, rfl, htr, Hdr, HT9, HR9, HOV, HK9⟩
                    case measure => simp [intOf]; omega
                · skip
                  have hn1 := add_any t S (k : Int) kk nn W1 HT1.out HO.out hnn
                  go_wp2_with fail
                  rw [← HW1.out, ← HB.out]
                  refine hn1.mono ?_; rintro e V1 ⟨rfl, hv, sv⟩
                  have e1 := sv.held c1 (show B ∉ [t] by simp; omega)
                  have e2 := sv.held c2 (show B ∉ [t] by simp; omega)
                  have e3 := sv.held c3 (show B ∉ [t] by simp; omega)
                  have hrr := HR1.out.sp sv (show r ∉ [t] by simp; omega)
                  have hn2 := radd_any r S (k : Int) kk nn V1 hrr HO.out hnn
                  have HTa := hid hv
                  have HKa : Hid (Kp w V1) := Sp.kp HK1.out sv (fun x hx => by rw [List.mem_singleton.1 hx]; exact Hdt.out)
                  clear hn1 hv sv HT1 HR1 HK1 hrr c1 c2 c3
                  go_wp2_with fail
                  refine hn2.mono ?_; rintro e V ⟨rfl, hRV, sv⟩
                  have hTV := HTa.out.sp sv (show t ∉ [r] by simp; omega)
                  have KV : Kp w V := Sp.kp HKa.out sv (fun x hx => by rw [List.mem_singleton.1 hx]; exact Hdr.out)
                  have HOV : Hid (Ok (ad S kk nn) ((k + 1 : Nat) : Int)) := (HO.out.ad kk nn).more (by omega)
                  clear hn2 sv HTa HKa e1 e2 e3
                  have hs := same_any t r (ad S kk nn) V hTV hRV
                  have HTV := hid hTV
                  have HRV := hid hRV
                  have HKV := hid KV
                  clear hTV hRV KV
                  go_wp2_with fail
                  refine hs.mono ?_; rintro e V9 ⟨rfl, k9⟩
                  have HT9 := hid (HTV.out.kp k9)
                  have HR9 := hid (HRV.out.kp k9)
                  have HK9 := hid (HKV.out.trans k9)
                  clear hs k9 HTV HRV HKV
                  go_wp2
                  go_roundw
                  case rel => exact ⟨k + 1, r, ad S kk nn, by omega, by go_num, rfl, htr, Hdr, HT9, HR9, HOV, HK9⟩
                  case measure => simp [intOf]; omega
    · go_wp2
      go_ret
      exact ⟨rfl, HK⟩

set_option maxRecDepth 100000 in
theorem lifted (os : Os) (started : os.Started) (H : Type) (enc : TypeId × Value → H) :
    ReturnsInHanded {} Tryd.checked os 3 .any (fun w args => (Rows.tallyPlaysSpec.pre enc Tryd.prog Tryd.f3 [] false w args ∧ laidMetH Tryd.prog lz w) ∧ sizedMet enc Tryd.prog Tryd.f3 (OpenSpec.ofChange Rows.tallyPlaysSpec) false w args)
      (Rows.tallyPlaysSpec.post enc Tryd.prog Tryd.f3 false true false false) := by
  refine returnsInHanded_of_change_and (C := Tryd.checked) (X := fun w _ => laidMetH Tryd.prog lz w) (fun _ _ _ hh h => h.of_heap hh) own started (by kernel_rfl) Tryd.func3
    (ChangeSpec.witness_shaped (enc := enc) (C := Tryd.checked) (os := os) (X := fun w _ => laidMetH Tryd.prog lz w) false (World.doorLaid Tryd.prog 400 os) #[.slice none 0 0] 8 rfl (World.shaped_of_RefB (by kernel_rfl) (by kernel_rfl)) (by kernel_rfl) (by kernel_rfl) (by kernel_rfl) (door_met os _)) ?_
  intro W base args ds gs before hval0 hW hcnd _ hL _
  have hval : ∀ (j : Nat) t v, Tryd.f3.params[j]? = some t → args[j]? = some v → Value.okWide Tryd.prog W .any base t v := hval0
  have hW' := hW
  have hlt := hW.lt
  obtain ⟨p, q, hA0, hV, rfl, hfz, hnd⟩ := hW
  have hA : DataW.TrodAll enc Tryd.prog W 0 (fun _ => true) true Tryd.f3.params.toList args.toList ds p := hA0
  have hAk := hA
  rw [Tryd.params3] at hA hval
  obtain ⟨v0, vs0, d0, ds0, p0, q0, hargs, rfl, rfl, h0, r0⟩ := trodAll_cons hA
  obtain ⟨rfl, rfl, rfl⟩ := trodAll_nil r0
  obtain rfl : args = #[v0] := by cases args; simp_all
  obtain ⟨rfl, rfl⟩ := trodVars_none hV
  obtain ⟨l0, w0⟩ := open_as4 (hval 0 22 v0 rfl rfl) h0
  clear hA0 hval0
  simp only [List.append_nil] at hW' hAk hlt
  refine (walk W (of_laid hL) v0 l0 w0).mono fun e W' ⟨he, hg⟩ => ?_
  subst he
  exact ⟨_, rfl, post_kp (pv := []) hW' (fun _ _ _ => (trodAll_cons_mk (shut_bool Tryd.underlying4 _) trodAll_mk0)) (fun sp hsp => trodAll_stays laidOut (by rw [Tryd.params3]; exact of_decide_eq_true (by kernel_rfl)) hAk (fun x hx => Below.same hg (hlt x hx)) hsp) (fun _ _ => rfl) (by simp) hg⟩

theorem over : Rows.tallyPlaysRow.holds Tryd.pinned (OpenSpec.ofChange Rows.tallyPlaysSpec) :=
  OpenClaim.holds_of_wide 3 Tryd.f3 rfl rfl rfl rfl rfl rfl rfl ⟨rfl, rfl, rfl, rfl, rfl⟩ rfl rfl rfl rfl rfl (by kernel_rfl) Tryd.func3 (by kernel_rfl)
    (of_decide_eq_true (by kernel_rfl)) (by unfold Func.isWrapper; first | (rw [if_pos (by decide +kernel)]; kernel_rfl) | (rw [if_neg (by decide +kernel)]; exact ⟨rfl, rfl⟩))
    (fun os started H enc _ => lifted os started H enc)

theorem card : Claim7.holds Tryd.pinned (.plain (OpenSpec.ofChange Rows.tallyPlaysSpec)) Rows.tallyPlaysCard :=
  Claim7.holds_tied_plain_at .later [] [.data] true Rows.tallyPlaysCard.stood.harness false
    over (fun _ h => by cases h) (by kernel_rfl) (fun _ h => by cases h) tallyPlays_row_tie rfl ⟨rfl, rfl⟩ (by kernel_rfl) rfl
    (fun f fn hf hfn => by
      have e : some f = some 3 := hf.symm.trans (by kernel_rfl)
      obtain rfl := Option.some.inj e
      obtain rfl : fn = Tryd.f3 := (Option.some.inj (Tryd.func3.symm.trans hfn)).symm
      exact ⟨by kernel_rfl, fun j t ht => by
        rw [Tryd.params3] at ht
        have hm : t ∈ [22] := by simpa using Array.mem_of_getElem? ht
        have hall : ([22].all fun u => !Tryd.prog.wantsStandIn u) = true := by kernel_rfl
        exact (show Tryd.prog.wantsStandIn t = false by simpa using List.all_eq_true.1 hall t hm)⟩)
    (by kernel_rfl)

end Go.Proofs.YtlhiienmhglieaaDoor.tallyPlays
namespace Go.Proofs.YtlhiienmhglieaaDoor
theorem tallyPlays_holds : Rows.TallyPlaysCardSaid := tallyPlays.card
end Go.Proofs.YtlhiienmhglieaaDoor
