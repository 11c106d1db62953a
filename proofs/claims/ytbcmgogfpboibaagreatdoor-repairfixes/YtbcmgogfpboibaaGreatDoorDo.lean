/-
  Contracts of sync.Once's Do over a field's making of its tables: the first time the tables are made and the count rises by one; later nothing is done. Conditions: that the field's cells hold what they are said to hold.
-/
import Derived.Test.YtbcmgogfpboibaaGreatDoorFill
namespace Go.Proofs.YtbcmgogfpboibaaGreatDoor
open Go.RowKit Plain

set_option maxRecDepth 100000 in
set_option maxHeartbeats 2000000 in
theorem slow_any (b : Nat) (m : Int) (hm : 0 ≤ m ∧ m < 1000) (w : World) (hF : FieldIn w b 0 0 m 0) :
    Calls Tryz.prog 102 #[.pointer (some ⟨b, 0, none⟩), .func (.func 91) #[.pointer (some ⟨b, 0, none⟩)] #[]] w fun e w' => e = .returned (.tuple #[]) ∧ FieldIn w' b 1 0 (m + 1) 255 ∧ Turned b w w' := by
  have hF1 : FieldIn (w.setCell ⟨b, 1, none⟩ (.int .i32 1)) b 0 1 m 0 := hF.set1 1
  have h10 := hF1.c0
  have c1 := hF.c1
  have z1 := hF.fz 1
  have hnot : ∀ (x : Bool) (w : World), (Op.unary .not (.bool x)).run Tryz.prog w = .ok (.bool (!x)) w := fun _ _ => rfl
  go_enter_defers Tryz.func102, Tryz.ntmps102
  go_wp2_with (go_at_call 106; refine (lock_free ⟨b, 1, none⟩ _ c1 z1).mono ?_; rintro e w' ⟨rfl, rfl⟩)
  go_wp2_with fail
  refine (bool_load ⟨b, 0, none⟩ 0 _ h10).mono ?_; rintro e w' ⟨rfl, rfl⟩
  go_wp2_with fail
  refine (fill_any b 0 1 m hm _ hF1).mono ?_; rintro e w2 ⟨rfl, hF2, hT⟩
  go_wp2
  have hF3 : FieldIn (w2.drew.setCell ⟨b, 0, none⟩ (.int .u32 1)) b 1 1 (m + 1) 255 := hF2.drew.set0 1
  refine leaves_cons (f := 108) (args := #[.pointer (some ⟨b, 0, none⟩), .bool true]) (by simp) (by simp [go_sem]) ?_
  refine (store_deferred ⟨b, 0, none⟩ (.int .u32 0) .returning _ hF2.c0 (hF2.fz 0)).mono ?_
  rintro e u' w3 ⟨rfl, rfl, rfl⟩
  refine leaves_cons (f := 107) (args := #[.pointer (some ⟨b, 1, none⟩)]) (by simp [settle]) (by simp [go_sem]) ?_
  refine (unlock_deferred ⟨b, 1, none⟩ _ _ hF3.c1 (hF3.fz 1)).mono ?_
  rintro e u' w3 ⟨rfl, rfl, rfl⟩
  have hT2 : Turned b w ((w2.drew.setCell ⟨b, 0, none⟩ (.int .u32 1)).setCell ⟨b, 1, none⟩ (.int .i32 0)) :=
    ((((((Turned.refl b w).setCell 1 (.int .i32 1)).trans hT).drew).setCell _ _).setCell _ _)
  have hF4 := hF3.set1 0
  simp [Leaves, settle, results, Tryz.results102]
  exact ⟨hF4, hT2⟩

set_option maxRecDepth 100000 in
set_option maxHeartbeats 1600000 in
/-- not yet done, the lock free. -/
theorem do_first (b : Nat) (m : Int) (hm : 0 ≤ m ∧ m < 1000) (w : World) (hF : FieldIn w b 0 0 m 0) :
    Calls Tryz.prog 90 #[.pointer (some ⟨b, 0, none⟩), .func (.func 91) #[.pointer (some ⟨b, 0, none⟩)] #[]] w fun e w' => e = .returned (.tuple #[]) ∧ FieldIn w' b 1 0 (m + 1) 255 ∧ Turned b w w' := by
  have c0 := hF.c0
  have hnot : ∀ (x : Bool) (w : World), (Op.unary .not (.bool x)).run Tryz.prog w = .ok (.bool (!x)) w := fun _ _ => rfl
  go_enter Tryz.func90, Tryz.ntmps90
  go_wp2_with fail
  refine (bool_load ⟨b, 0, none⟩ 0 _ c0).mono ?_; rintro e w' ⟨rfl, rfl⟩
  go_wp2_with fail
  refine (slow_any b m hm _ hF).mono ?_; rintro e w2 ⟨rfl, hF2, hT⟩
  go_wp2
  go_end0
  exact ⟨rfl, hF2, hT⟩

/-- done already: the function is not called. -/
theorem do_done (a : Addr) (d : Int) (hd : ¬ d = 0) (fv : Value) (w : World) (h0 : w.cell? a = some (.int .u32 d)) :
    Calls Tryz.prog 90 #[.pointer (some a), fv] w fun e w' => e = .returned (.tuple #[]) ∧ w' = w := by
  have hnot : ∀ (x : Bool) (w : World), (Op.unary .not (.bool x)).run Tryz.prog w = .ok (.bool (!x)) w := fun _ _ => rfl
  have hd' : (d != 0) = true := by simp [hd]
  go_enter Tryz.func90, Tryz.ntmps90
  go_wp2_with fail
  refine (bool_load _ d _ h0).mono ?_; rintro e w' ⟨rfl, rfl⟩
  go_wp2
  go_end0
  exact ⟨rfl, rfl⟩

end Go.Proofs.YtbcmgogfpboibaaGreatDoor
