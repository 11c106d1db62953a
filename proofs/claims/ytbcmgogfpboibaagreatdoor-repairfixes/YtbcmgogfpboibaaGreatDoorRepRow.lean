/-
  Contracts of the methods of a row under way: lackP, lackQ, byP, byQ, byBoth, makeQ, divided. Conditions: that the row's cells hold what they are said to hold, columns of one length.
-/
import Derived.Test.YtbcmgogfpboibaaGreatDoorRepMem
import Derived.Deep.RegionHeld3
import Derived.BigQuiet
namespace Go.Proofs.YtbcmgogfpboibaaGreatDoor
open Go.RowKit Plain Go.BigFrame

theorem add_all {n : Nat} {l : List ByteArray} {v : Value} {w : World} (h0 : 0 < l.length) (hn : n ≤ 65536) (hs : Sz n l) (h : StrsIn w v l) :
    Calls Tryz.prog 38 #[v] w fun e w' => e = .returned (.tuple #[.string (parS n l), .int .i64 0]) ∧ Kp w w' := by
  have hf : fitE l = 0 := fit_ok (fun i hi => by rw [hs.at i hi]; exact hn) (fun i hi => by rw [hs.at i hi, hs.at 0 h0])
  have H := add_any v l (fun i hi => by rw [hs.at i hi]; unfold maxLen; omega) w h
  rw [res_ok hf, hf] at H
  cases l with
  | nil => exact absurd h0 (by simp)
  | cons s r => rwa [← par_add n s r (hs s (by simp))] at H
theorem make_sz {n : Nat} {M : List ByteArray} {v : Value} {w : World} (h2 : 2 ≤ M.length) (h30 : M.length ≤ 30) (hn : n ≤ 65536) (h : Sz n M) (hS : StrsIn w v M) :
    Calls Tryz.prog 32 #[v] w fun e w' => e = .returned (.tuple #[.string (parS n M), .string (wgtS n M), .int .i64 0]) ∧ Kp w w' := by
  have H := make_any v M (fun i hi => by rw [h.at i hi]; unfold maxLen; omega) w hS
  obtain ⟨e0, e1, e2⟩ := mk_all h2 h30 hn h
  rw [e0, e1, e2] at H
  exact H

set_option maxRecDepth 100000 in
set_option maxHeartbeats 2000000 in
theorem lackP_any {w : World} {R f b C k cap n : Nat} {gv : Value} {L : List ByteArray} {cnt : Nat → Int} (h : RowIn w R f b C k cap gv L cnt) (hk1 : 2 ≤ k) (hk2 : k ≤ 30) (hn : n ≤ 65536) (hs : Sz n L) :
    Calls Tryz.prog 59 #[.pointer (some ⟨R, 0, none⟩)] w fun e w' => e = .returned (.string (lkP n k L)) ∧ Kp w w' := by
  have hA : ∀ p, Calls Tryz.prog 38 #[.slice (some ⟨C, 0, none⟩) (k + 1) cap] (kpw w p) fun e w' => e = .returned (.tuple #[.string (lkP n k L), .int .i64 0]) ∧ Kp (kpw w p) w' := fun p => by
    have h' := h.kp (kpw_kp w p)
    have hl := h.len
    have hc := h.cap1
    exact add_all (by rw [List.length_take]; omega) hn (hs.take (k + 1)) (h'.cols.strs (k + 1) cap (by omega) (by omega) (by omega) h.cap2)
  have k1 : ∀ p, (kpw w p).cell? ⟨R, 1, none⟩ = some (.int .i64 (k : Int)) := fun p => kpw_cell h.r1 p
  have k2 : ∀ p, (kpw w p).cell? ⟨R, 2, none⟩ = some (.slice (some ⟨C, 0, none⟩) (k + 2) cap) := fun p => kpw_cell h.r2 p
  have hcap : k + 2 ≤ cap := h.cap1
  have hcap2 := h.cap2
  unfold maxLen at hcap2
  obtain ⟨S, hS⟩ : ∃ S, S = lkP n k L := ⟨_, rfl⟩
  rw [← hS] at hA ⊢
  clear hS h hs
  go_enter Tryz.func59, Tryz.ntmps59
  go_wp2_with fail
  refine wp_region_kp (by kernel_rfl) (by kernel_rfl) ?_
  repeat (first
    | go_big_quiet_skip
    | (go_big_quiet_want; go_big_quiet_op; go_big_quiet_on)
    | (go_big_quiet_want; go_big_quiet_op; apply Exists.intro; refine ⟨fun p => ?_, ?_⟩; (focus
        first
        | (go_at_call 38; exact kp_call (hA p))); go_big_quiet_on))
  refine wpQuiet_nil ?_
  rintro w' ⟨p, rfl⟩
  go_wp2
  go_ret
  exact ⟨rfl, kpw_kp w p⟩

set_option maxRecDepth 100000 in
set_option maxHeartbeats 4000000 in
theorem lackQ_any {w : World} {R f b C k cap n : Nat} {gv : Value} {L : List ByteArray} {cnt : Nat → Int} (h : RowIn w R f b C k cap gv L cnt) (hk1 : 2 ≤ k) (hk2 : k ≤ 30) (hn : n ≤ 65536) (hs : Sz n L) :
    Calls Tryz.prog 61 #[.pointer (some ⟨R, 0, none⟩)] w fun e w' => e = .returned (.string (lkQ n k L)) ∧ Kp w w' := by
  have hl := h.len
  have hM : ∀ p, Calls Tryz.prog 32 #[.slice (some ⟨C, 0, none⟩) k cap] (kpw w p) fun e w' => e = .returned (.tuple #[.string (parS n (L.take k)), .string (wgtS n (L.take k)), .int .i64 0]) ∧ Kp (kpw w p) w' := fun p => by
    have h' := h.kp (kpw_kp w p)
    have hc := h.cap1
    exact make_sz (by rw [List.length_take]; omega) (by rw [List.length_take]; omega) hn (hs.take k) (h'.cols.strs k cap (by omega) (by omega) (by omega) h.cap2)
  have hA : ∀ w' : World, Calls Tryz.prog 38 #[.slice (some ⟨w'.heap.size, 0, none⟩) 2 2] (w'.alloc (.cells #[.string (wgtS n (L.take k)), .string (L.getD (k + 1) noS)] 9)).drew fun e w'' => e = .returned (.tuple #[.string (lkQ n k L), .int .i64 0]) ∧ Kp w' w'' := fun w' =>
    (add2 _ _ (by rw [wgtS_size]; exact hn) (by rw [wgtS_size]; exact hs.at _ (by omega)) _ _ ((StrsIn.lit2 w' _ _ 9).kept (Kp.refl _).drew)).mono fun _ _ ⟨he, k⟩ => ⟨he, (((Kp.refl w').alloc _).drew).trans k⟩
  have k1 : ∀ p, (kpw w p).cell? ⟨R, 1, none⟩ = some (.int .i64 (k : Int)) := fun p => kpw_cell h.r1 p
  have k2 : ∀ p, (kpw w p).cell? ⟨R, 2, none⟩ = some (.slice (some ⟨C, 0, none⟩) (k + 2) cap) := fun p => kpw_cell h.r2 p
  have k3 : ∀ p, (kpw w p).cell? ⟨C, k + 1, none⟩ = some (.string (L.getD (k + 1) noS)) := fun p => kpw_cell (h.cols.c (k + 1) (by omega)) p
  have hcap : k + 2 ≤ cap := h.cap1
  have hcap2 := h.cap2
  unfold maxLen at hcap2
  obtain ⟨S, hS⟩ : ∃ S, S = lkQ n k L := ⟨_, rfl⟩
  obtain ⟨Q, hQ⟩ : ∃ S, S = wgtS n (L.take k) := ⟨_, rfl⟩
  obtain ⟨P, hP⟩ : ∃ S, S = parS n (L.take k) := ⟨_, rfl⟩
  obtain ⟨q, hq⟩ : ∃ S, S = L.getD (k + 1) noS := ⟨_, rfl⟩
  rw [← hS] at hA ⊢
  rw [← hq] at hA k3
  rw [← hQ] at hA hM
  rw [← hP] at hM
  clear hS hQ hP hq h hs hl
  go_enter Tryz.func61, Tryz.ntmps61
  go_wp2_with fail
  refine wp_region_kp (by kernel_rfl) (by kernel_rfl) ?_
  repeat (first
    | go_big_quiet_skip
    | (go_big_quiet_want; go_big_quiet_op; go_big_quiet_on)
    | (go_big_quiet_want; go_big_quiet_op; apply Exists.intro; refine ⟨fun p => ?_, ?_⟩; (focus
        first
        | (go_at_call 32; exact kp_call (hM p))); go_big_quiet_on))
  refine wpQuiet_nil ?_
  rintro w1 ⟨p, rfl⟩
  have e1 := k1 p
  have e2 := k2 p
  have e3 := k3 p
  have K1 := kpw_kp w p
  obtain ⟨w1, hw1⟩ : ∃ w1, w1 = kpw w p := ⟨_, rfl⟩
  rw [← hw1] at e1 e2 e3 K1 ⊢
  clear k1 k2 k3 hM hw1
  have n1 := World.new_ne w1 _ e1
  have n3 := World.new_ne w1 _ e3
  have i1 : (0 : Int) ≤ (k : Int) + 1 := by omega
  have i2 : (k : Int) + 1 < (k : Int) + 2 := by omega
  have i3 : IntKind.i64.wrap ((k : Int) + 1) = (k : Int) + 1 := by rw [IntKind.wrap_i64]; omega
  have i4 : ((k : Int) + 1).toNat = k + 1 := by omega
  go_wp2_with fail
  go_region_held3 (fun w' => w'.cell? ⟨R, 1, none⟩ = some (.int .i64 (k : Int)) ∧ w'.cell? ⟨R, 2, none⟩ = some (.slice (some ⟨C, 0, none⟩) (k + 2) cap) ∧ w'.cell? ⟨C, k + 1, none⟩ = some (.string q)) (first | go_keep | exact ⟨k2.held e1, k2.held e2, k2.held e3⟩)
    (first | (go_at_call 38; refine (hA _).mono ?_; rintro e w2 ⟨rfl, k2⟩))
  go_wp2
  go_ret
  exact ⟨rfl, K1.trans k2⟩

set_option maxHeartbeats 2000000 in
theorem divided_any {w : World} {R f b C k cap : Nat} {gv : Value} {L : List ByteArray} {cnt : Nat → Int} (h : RowIn w R f b C k cap gv L cnt) (s : ByteArray) (hs : s.size ≤ 65536) (c : Nat) (hc : c < 256) (h0 : c ≠ 0) :
    Calls Tryz.prog 60 #[.pointer (some ⟨R, 0, none⟩), .string s, .int .u8 c] w fun e w' => e = .returned (.string (dvS c s)) ∧ RowIn w' R f b C k cap gv L cnt ∧ Sp [b] w w' := by
  have hD := fdiv_any b 1 c (by omega) hc w h.fix.fld
  rw [dvV_pos 1 c h0, erV_pos c h0] at hD
  have hS := fun w' => scale1 (dv 1 c) (dv_lt 1 c) s hs w'
  have e0 := h.r0
  have e1 := h.fix.ptr
  obtain ⟨d, hd⟩ : ∃ d, d = dv 1 c := ⟨_, rfl⟩
  unfold dvS
  rw [← hd] at hD hS ⊢
  clear hd
  have H : Hid (RowIn w R f b C k cap gv L cnt) := h
  clear h
  go_enter Tryz.func60, Tryz.ntmps60
  go_wp2_with fail
  refine hD.mono ?_; rintro e w1 ⟨rfl, hR, hT⟩
  have H1 : Hid (RowIn w1 R f b C k cap gv L cnt) := H.out.made hT.sp hR
  have HT : Hid (Sp [b] w w1) := hT.sp
  clear hD H e0 e1 hR hT
  go_wp2_with fail
  refine (hS w1).mono ?_; rintro e w2 ⟨rfl, k2⟩
  go_wp2
  go_ret
  exact ⟨rfl, H1.out.kp k2, HT.out.trans (k2.sp [b])⟩

theorem RowIn.facts {w : World} {R f b C k cap : Nat} {gv : Value} {L : List ByteArray} {cnt : Nat → Int} (h : RowIn w R f b C k cap gv L cnt) (i : Nat) (hi : i < k + 2) :
    w.cell? ⟨R, 2, none⟩ = some (.slice (some ⟨C, 0, none⟩) (k + 2) cap) ∧ w.cell? ⟨C, i, none⟩ = some (.string (L.getD i noS)) ∧ w.frozen? ⟨C, i, none⟩ = false ∧ ∀ v, (w.setCell ⟨C, i, none⟩ v).cell? ⟨R, 2, none⟩ = some (.slice (some ⟨C, 0, none⟩) (k + 2) cap) :=
  ⟨h.r2, h.cols.c i (by rw [h.len]; exact hi), h.cols.z i, fun v => (World.cell?_setCell_other _ _ _ _ (by intro e; cases e; exact h.n1 rfl)).trans h.r2⟩
set_option maxRecDepth 100000 in
set_option maxHeartbeats 4000000 in
theorem byP_any {w : World} {R f b C k cap n : Nat} {gv : Value} {L : List ByteArray} {cnt : Nat → Int} (h : RowIn w R f b C k cap gv L cnt) (hk1 : 2 ≤ k) (hk2 : k ≤ 30) (hn : n ≤ 65536) (hs : Sz n L) (i : Nat) (hi : i < k + 2) :
    Calls Tryz.prog 40 #[.pointer (some ⟨R, 0, none⟩), .int .i64 (i : Int)] w fun e w' => e = .returned (.tuple #[]) ∧ RowIn w' R f b C k cap gv (byPL n k L i) cnt ∧ Sp [C] w w' := by
  have hP : Calls Tryz.prog 59 #[.pointer (some ⟨R, 0, none⟩)] w.drew fun e w' => e = .returned (.string (lkP n k L)) ∧ (RowIn w' R f b C k cap gv L cnt ∧ Kp w w') :=
    (lackP_any (h.kp (Kp.refl w).drew) hk1 hk2 hn hs).mono fun _ _ ⟨he, k⟩ => ⟨he, h.kp ((Kp.refl w).drew.trans k), (Kp.refl w).drew.trans k⟩
  obtain ⟨e2, _, _, _⟩ := h.facts i hi
  unfold byPL
  obtain ⟨S, hS⟩ : ∃ S, S = lkP n k L := ⟨_, rfl⟩
  rw [← hS] at hP ⊢
  have i1 : (0 : Int) ≤ (i : Int) := by omega
  have i2 : (i : Int) < (k : Int) + 2 := by omega
  clear hS h hs
  go_enter Tryz.func40, Tryz.ntmps40
  go_wp2_with fail
  go_region_held3 (fun w' => w'.cell? ⟨R, 2, none⟩ = some (.slice (some ⟨C, 0, none⟩) (k + 2) cap)) (first | go_keep | exact f1 | exact f4 _)
    (first | (go_at_call 59; refine hP.mono ?_; rintro e w2 ⟨rfl, h2, k2⟩; obtain ⟨f1, f2, f3, f4⟩ := h2.facts i hi))
  go_end0
  exact ⟨rfl, h2.set i hi S, (k2.sp [C]).set C i (by simp) _⟩

set_option maxRecDepth 100000 in
set_option maxHeartbeats 4000000 in
theorem makeQ_any {w : World} {R f b C k cap n : Nat} {gv : Value} {L : List ByteArray} {cnt : Nat → Int} (h : RowIn w R f b C k cap gv L cnt) (hk1 : 2 ≤ k) (hk2 : k ≤ 30) (hn : n ≤ 65536) (hs : Sz n L) :
    Calls Tryz.prog 41 #[.pointer (some ⟨R, 0, none⟩)] w fun e w' => e = .returned (.tuple #[]) ∧ RowIn w' R f b C k cap gv (mkQL n k L) cnt ∧ Sp [C] w w' := by
  have hl := h.len
  have hcap : k + 2 ≤ cap := h.cap1
  have hcap2 := h.cap2
  have hM : Calls Tryz.prog 32 #[.slice (some ⟨C, 0, none⟩) k cap] w.drew fun e w' => e = .returned (.tuple #[.string (parS n (L.take k)), .string (wgtS n (L.take k)), .int .i64 0]) ∧ (RowIn w' R f b C k cap gv L cnt ∧ Kp w w') :=
    (make_sz (by rw [List.length_take]; omega) (by rw [List.length_take]; omega) hn (hs.take k) ((h.kp (Kp.refl w).drew).cols.strs k cap (by omega) (by omega) (by omega) h.cap2)).mono fun _ _ ⟨he, k⟩ => ⟨he, h.kp ((Kp.refl w).drew.trans k), (Kp.refl w).drew.trans k⟩
  have e1 := h.r1
  have e2 := h.r2
  unfold mkQL
  obtain ⟨Q, hQ⟩ : ∃ S, S = wgtS n (L.take k) := ⟨_, rfl⟩
  obtain ⟨P, hP⟩ : ∃ S, S = parS n (L.take k) := ⟨_, rfl⟩
  rw [← hQ] at hM ⊢
  rw [← hP] at hM
  unfold maxLen at hcap2
  have i1 : (0 : Int) ≤ (k : Int) + 1 := by omega
  have i2 : (k : Int) + 1 < (k : Int) + 2 := by omega
  have i3 : IntKind.i64.wrap ((k : Int) + 1) = (k : Int) + 1 := by rw [IntKind.wrap_i64]; omega
  have i4 : ((k : Int) + 1).toNat = k + 1 := by omega
  have i5 : (0 : Int) ≤ (k : Int) := by omega
  have i6 : (k : Int) ≤ (cap : Int) := by omega
  clear hQ hP h hs
  go_enter Tryz.func41, Tryz.ntmps41
  go_wp2_with fail
  go_region_held3 (fun w' => w'.cell? ⟨R, 1, none⟩ = some (.int .i64 (k : Int)) ∧ w'.cell? ⟨R, 2, none⟩ = some (.slice (some ⟨C, 0, none⟩) (k + 2) cap)) (first | go_keep | exact ⟨f0, f1⟩ | exact ⟨f5 _, f4 _⟩)
    (first | (go_at_call 32; refine hM.mono ?_; rintro e w2 ⟨rfl, h2, k2⟩; obtain ⟨f1, f2, f3, f4⟩ := h2.facts (k + 1) (by omega); have f0 := h2.r1; have f5 : ∀ v, (w2.setCell ⟨C, k + 1, none⟩ v).cell? ⟨R, 1, none⟩ = some (.int .i64 (k : Int)) := fun v => (World.cell?_setCell_other _ _ _ _ (by intro e; cases e; exact h2.n1 rfl)).trans h2.r1))
  go_end0
  exact ⟨rfl, h2.set (k + 1) (by omega) Q, (k2.sp [C]).set C (k + 1) (by simp) _⟩

set_option maxRecDepth 100000 in
set_option maxHeartbeats 4000000 in
theorem byQ_any {w : World} {R f b C k cap n : Nat} {gv : Value} {L : List ByteArray} {cnt : Nat → Int} (h : RowIn w R f b C k cap gv L cnt) (hk1 : 2 ≤ k) (hk2 : k ≤ 30) (hn : n ≤ 65536) (hs : Sz n L) (i : Nat) (hi : i < k) :
    Calls Tryz.prog 42 #[.pointer (some ⟨R, 0, none⟩), .int .i64 (i : Int)] w fun e w' => e = .returned (.tuple #[]) ∧ RowIn w' R f b C k cap gv (byQL n k L i) cnt ∧ Sp [C, b] w w' := by
  have hl := h.len
  have hQ : Calls Tryz.prog 61 #[.pointer (some ⟨R, 0, none⟩)] w.drew fun e w' => e = .returned (.string (lkQ n k L)) ∧ (RowIn w' R f b C k cap gv L cnt ∧ Kp w w') :=
    (lackQ_any (h.kp (Kp.refl w).drew) hk1 hk2 hn hs).mono fun _ _ ⟨he, k⟩ => ⟨he, h.kp ((Kp.refl w).drew.trans k), (Kp.refl w).drew.trans k⟩
  have hW := fun w' => power_any (i : Int) (by omega) (by omega) w'
  rw [pwI_in i (by omega)] at hW
  have hz : (lkQ n k L).size ≤ 65536 := by rw [lkQ_size hs (by omega)]; exact hn
  have hD := fun (w' : World) (h' : RowIn w' R f b C k cap gv L cnt) => divided_any h' (lkQ n k L) hz (pw i) (pw_lt i) (pw_ne0 i)
  obtain ⟨e2, _, _, _⟩ := h.facts i (by omega)
  unfold byQL
  obtain ⟨S, hS⟩ : ∃ S, S = lkQ n k L := ⟨_, rfl⟩
  rw [← hS] at hQ hD ⊢
  obtain ⟨c, hc⟩ : ∃ c, c = pw i := ⟨_, rfl⟩
  rw [← hc] at hW hD ⊢
  obtain ⟨X, hX⟩ : ∃ X, X = dvS c S := ⟨_, rfl⟩
  rw [← hX] at hD ⊢
  have i1 : (0 : Int) ≤ (i : Int) := by omega
  have i2 : (i : Int) < (k : Int) + 2 := by omega
  clear hS h hs hz hc hX hl
  go_enter Tryz.func42, Tryz.ntmps42
  go_wp2_with fail
  go_region_held3 (fun w' => w'.cell? ⟨R, 2, none⟩ = some (.slice (some ⟨C, 0, none⟩) (k + 2) cap)) (first | go_keep | exact h2.r2 | exact h3.r2 | exact f1 | exact f4 _)
    (first
      | (go_at_call 61; refine hQ.mono ?_; rintro e w2 ⟨rfl, h2, k2⟩)
      | (go_at_call 62; refine (hW _).mono ?_; rintro e w3 ⟨rfl, k3⟩; have h3 := h2.kp k3)
      | (go_at_call 60; refine (hD _ h3).mono ?_; rintro e w4 ⟨rfl, h4, k4⟩; obtain ⟨f1, f2, f3, f4⟩ := h4.facts i (by omega)))
  go_end0
  exact ⟨rfl, h4.set i (by omega) X, (((k2.trans k3).sp [C, b]).trans (k4.mono (by simp))).set C i (by simp) _⟩

end Go.Proofs.YtbcmgogfpboibaaGreatDoor
