/-
  Contracts of the field's methods Mul, Div, Exp and Log: whether its tables are made or not, each answers the plain product, quotient, power, logarithm, or its error, and leaves the tables made once. Conditions: that the field is as New or as one of these calls leaves it.
-/
import Derived.Test.YtbcmgogfpboibaaGreatDoorDo
import Derived.Deep.RegionWith
namespace Go.Proofs.YtbcmgogfpboibaaGreatDoor
open Go.RowKit Plain Go.BigFrame

def Ready (w : World) (b : Nat) : Prop := FieldIn w b 1 0 1 255
def Fresh (w : World) (b : Nat) : Prop := FieldIn w b 0 0 0 0

/-- what Div and Log answer, and their errors. -/
def dvV (x y : Nat) : Nat := if y = 0 then 0 else dv x y
def lgV (x : Nat) : Nat := if x = 0 then 0 else lg x
def erV (y : Nat) : Int := if y = 0 then 5 else 0
theorem dvV_pos (x y : Nat) (h : y ≠ 0) : dvV x y = dv x y := if_neg h
theorem lgV_pos (x : Nat) (h : x ≠ 0) : lgV x = lg x := if_neg h
theorem erV_pos (y : Nat) (h : y ≠ 0) : erV y = 0 := if_neg h
theorem dvV_lt (x y : Nat) : dvV x y < 256 := by
  unfold dvV; split
  · omega
  · exact dv_lt x y
theorem lgV_lt (x : Nat) (hx : x < 256) : lgV x < 255 := by
  unfold lgV; split
  · omega
  · exact lg_lt x hx

theorem do_any (b : Nat) (w : World) (h : Fresh w b ∨ Ready w b) :
    Calls Tryz.prog 90 #[.pointer (some ⟨b, 0, none⟩), .func (.func 91) #[.pointer (some ⟨b, 0, none⟩)] #[]] w fun e w' => e = .returned (.tuple #[]) ∧ Ready w' b ∧ Turned b w w' := by
  rcases h with h | h
  · exact do_first b 0 (by omega) w h
  · refine (do_done ⟨b, 0, none⟩ 1 (by omega) _ w h.c0).mono ?_
    rintro e w' ⟨rfl, rfl⟩
    exact ⟨rfl, h, Turned.refl b w'⟩
theorem Ready.log {w : World} {b : Nat} (h : Ready w b) (a : Nat) (ha : a < 256) (h0 : a ≠ 0) : w.cell? ⟨b, 259 + a, none⟩ = some (.int .u8 (lg a : Nat)) := by
  rw [h.cl a ha, lgT_full a ha h0]

set_option maxRecDepth 100000 in
set_option maxHeartbeats 2000000 in
theorem fdiv_any (b : Nat) (x y : Nat) (hx : x < 256) (hy : y < 256) (w : World) (h : Fresh w b ∨ Ready w b) :
    Calls Tryz.prog 72 #[.pointer (some ⟨b, 0, none⟩), .int .u8 x, .int .u8 y] w fun e w' => e = .returned (.tuple #[.int .u8 (dvV x y : Nat), .int .i64 (erV y)]) ∧ Ready w' b ∧ Turned b w w' := by
  have hmf : ∀ (fn : Fn) (first cap : Array Value) (w : World), (Instr.makeFunc fn first cap).run Tryz.prog w = .ok (.func fn first cap) w := fun _ _ _ _ => rfl
  go_enter Tryz.func72, Tryz.ntmps72
  go_wp2_with fail
  refine (do_any b w h).mono ?_; rintro e w2 ⟨rfl, hR, hT⟩
  by_cases hy0 : y = 0
  · subst hy0
    go_wp2
    go_ret2
    exact ⟨rfl, hR, hT⟩
  have ey : ((y : Int) == 0) = false := by simp; omega
  by_cases hx0 : x = 0
  · subst hx0
    have HD : Hid (dvV 0 y = 0) := dvV_pos 0 y hy0
    have HE : Hid (erV y = 0) := erV_pos y hy0
    go_wp2
    go_ret2
    exact ⟨by rw [HD.out, HE.out]; rfl, hR, hT⟩
  have ex : ((x : Int) == 0) = false := by simp; omega
  have k1 : ∀ p, (extp w2 p).cell? ⟨b, 259 + x, none⟩ = some (.int .u8 (lg x : Nat)) := fun p => Ready.log (hR.extp p) x hx hx0
  have k2 : ∀ p, (extp w2 p).cell? ⟨b, 259 + y, none⟩ = some (.int .u8 (lg y : Nat)) := fun p => Ready.log (hR.extp p) y hy hy0
  have k3 : ∀ p, FieldIn (extp w2 p) b 1 0 1 255 := fun p => hR.extp p
  have l1 := lg_lt x hx
  have l2 := lg_lt y hy
  have HM : Hid (dvV x y = exN ((lg x : Int) - lg y)) := by show dvV x y = _; rw [dvV_pos x y hy0]; unfold dv; rw [if_neg hx0]
  have HE : Hid (erV y = 0) := erV_pos y hy0
  clear hx0 hy0
  go_wp2_with fail
  refine wp_region_ext (by kernel_rfl) (by kernel_rfl) ?_
  repeat (first
    | go_big_quiet_skip
    | (go_big_quiet_want; go_big_quiet_op; go_big_quiet_on)
    | (go_big_quiet_want; go_big_quiet_op; apply Exists.intro; refine ⟨fun p => ?_, ?_⟩; (focus
        first
        | (go_at_call 92; exact ext_call_same (fpow_any b 1 0 1 _ _ (k3 p)))); go_big_quiet_on))
  refine wpQuiet_nil ?_
  rintro w' ⟨p, rfl⟩
  go_wp2
  go_ret2
  exact ⟨by rw [HM.out, HE.out]; rfl, hR.extp p, hT.ext (extp_ext _ p)⟩


end Go.Proofs.YtbcmgogfpboibaaGreatDoor
