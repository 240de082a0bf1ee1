/-
  Contract of the statements' own function: spoil.
-/
import Derived.Test.YthnhmclnfgkppaaDoorLayK
namespace Go.Proofs.YthnhmclnfgkppaaDoor.LayM
open Go.ChangeShapes Go.WideShapes Go.ChangeAt Go.RowKit
open PlainT BlkW LayS LayA LayH LayK
set_option linter.unusedVariables false
set_option maxHeartbeats 1000000

/-- The result is a configuration. -/
def SomeCfg (w : World) (e : Ending) (w' : World) : Prop := ∃ q, e = .returned (cfgV q) ∧ Below w.heap.size w w'
set_option maxRecDepth 100000 in
set_option maxHeartbeats 4000000 in
theorem l_spoil (q : Cfg) (n v : Int) (w : World) : Calls Tryd.prog 19 #[cfgV q, .int .i64 n, .int .i64 v] w fun e w' => SomeCfg w e w' := by
  obtain ⟨m, hm⟩ : ∃ m, pl n 12 = m := ⟨_, rfl⟩
  obtain ⟨m0, m1⟩ := pl_in n 12 (by omega) (by omega)
  rw [hm] at m0 m1
  have HP := Lib.hid hm
  clear hm
  have hmm : m = 0 ∨ m = 1 ∨ m = 2 ∨ m = 3 ∨ m = 4 ∨ m = 5 ∨ m = 6 ∨ m = 7 ∨ m = 8 ∨ m = 9 ∨ m = 10 ∨ m = 11 := by omega
  clear m0 m1
  rcases hmm with rfl | rfl | rfl | rfl | rfl | rfl | rfl | rfl | rfl | rfl | rfl | rfl
  · go_enter Tryd.func19, Tryd.ntmps19
    go_wp2_with (go_at_call 12; (with_reducible refine (k_place n 12 _ (by omega) (by omega) HP.out _).mono ?_); rintro e w1 ⟨rfl, rfl⟩)
    refine bodyPost_ret (v := cfgV { q with w := v }) (by simp [results, Tryd.results19, go_sem]) rfl ⟨_, rfl, ?_⟩
    exact below_new2 _ _ _
  · go_enter Tryd.func19, Tryd.ntmps19
    go_wp2_with (go_at_call 12; (with_reducible refine (k_place n 12 _ (by omega) (by omega) HP.out _).mono ?_); rintro e w1 ⟨rfl, rfl⟩)
    refine bodyPost_ret (v := cfgV { q with o := v }) (by simp [results, Tryd.results19, go_sem]) rfl ⟨_, rfl, ?_⟩
    exact below_new2 _ _ _
  · go_enter Tryd.func19, Tryd.ntmps19
    go_wp2_with (go_at_call 12; (with_reducible refine (k_place n 12 _ (by omega) (by omega) HP.out _).mono ?_); rintro e w1 ⟨rfl, rfl⟩)
    refine bodyPost_ret (v := cfgV { q with b := v }) (by simp [results, Tryd.results19, go_sem]) rfl ⟨_, rfl, ?_⟩
    exact below_new2 _ _ _
  · go_enter Tryd.func19, Tryd.ntmps19
    go_wp2_with (go_at_call 12; (with_reducible refine (k_place n 12 _ (by omega) (by omega) HP.out _).mono ?_); rintro e w1 ⟨rfl, rfl⟩)
    refine bodyPost_ret (v := cfgV { q with c0 := v }) (by simp [results, Tryd.results19, go_sem]) rfl ⟨_, rfl, ?_⟩
    exact below_new2 _ _ _
  · go_enter Tryd.func19, Tryd.ntmps19
    go_wp2_with (go_at_call 12; (with_reducible refine (k_place n 12 _ (by omega) (by omega) HP.out _).mono ?_); rintro e w1 ⟨rfl, rfl⟩)
    refine bodyPost_ret (v := cfgV { q with c1 := v }) (by simp [results, Tryd.results19, go_sem]) rfl ⟨_, rfl, ?_⟩
    exact below_new2 _ _ _
  · go_enter Tryd.func19, Tryd.ntmps19
    go_wp2_with (go_at_call 12; (with_reducible refine (k_place n 12 _ (by omega) (by omega) HP.out _).mono ?_); rintro e w1 ⟨rfl, rfl⟩)
    refine bodyPost_ret (v := cfgV { q with c2 := v }) (by simp [results, Tryd.results19, go_sem]) rfl ⟨_, rfl, ?_⟩
    exact below_new2 _ _ _
  · go_enter Tryd.func19, Tryd.ntmps19
    go_wp2_with (go_at_call 12; (with_reducible refine (k_place n 12 _ (by omega) (by omega) HP.out _).mono ?_); rintro e w1 ⟨rfl, rfl⟩)
    refine bodyPost_ret (v := cfgV { q with c3 := v }) (by simp [results, Tryd.results19, go_sem]) rfl ⟨_, rfl, ?_⟩
    exact below_new2 _ _ _
  · go_enter Tryd.func19, Tryd.ntmps19
    go_wp2_with (go_at_call 12; (with_reducible refine (k_place n 12 _ (by omega) (by omega) HP.out _).mono ?_); rintro e w1 ⟨rfl, rfl⟩)
    refine bodyPost_ret (v := cfgV { q with r := v }) (by simp [results, Tryd.results19, go_sem]) rfl ⟨_, rfl, ?_⟩
    exact below_new2 _ _ _
  · go_enter Tryd.func19, Tryd.ntmps19
    go_wp2_with (go_at_call 12; (with_reducible refine (k_place n 12 _ (by omega) (by omega) HP.out _).mono ?_); rintro e w1 ⟨rfl, rfl⟩)
    refine bodyPost_ret (v := cfgV { q with t := v }) (by simp [results, Tryd.results19, go_sem]) rfl ⟨_, rfl, ?_⟩
    exact below_new2 _ _ _
  · go_enter Tryd.func19, Tryd.ntmps19
    go_wp2_with (go_at_call 12; (with_reducible refine (k_place n 12 _ (by omega) (by omega) HP.out _).mono ?_); rintro e w1 ⟨rfl, rfl⟩)
    refine bodyPost_ret (v := cfgV { q with a := v }) (by simp [results, Tryd.results19, go_sem]) rfl ⟨_, rfl, ?_⟩
    exact below_new2 _ _ _
  · go_enter Tryd.func19, Tryd.ntmps19
    go_wp2_with (go_at_call 12; (with_reducible refine (k_place n 12 _ (by omega) (by omega) HP.out _).mono ?_); rintro e w1 ⟨rfl, rfl⟩)
    refine bodyPost_ret (v := cfgV { q with f := v }) (by simp [results, Tryd.results19, go_sem]) rfl ⟨_, rfl, ?_⟩
    exact below_new2 _ _ _
  · go_enter Tryd.func19, Tryd.ntmps19
    go_wp2_with (go_at_call 12; (with_reducible refine (k_place n 12 _ (by omega) (by omega) HP.out _).mono ?_); rintro e w1 ⟨rfl, rfl⟩)
    refine bodyPost_ret (v := cfgV { q with k := v }) (by simp [results, Tryd.results19, go_sem]) rfl ⟨_, rfl, ?_⟩
    exact below_new2 _ _ _
end Go.Proofs.YthnhmclnfgkppaaDoor.LayM
