/-
  Contract of the statements' own function: agrees.
-/
import Derived.Test.YtaljpggppocnjaaLayK
namespace Go.Proofs.Ytaljpggppocnjaa.LayL
open Go.ChangeShapes Go.WideShapes Go.ChangeAt Go.RowKit
open PlainT BlkW LayS LayA LayB LayC LayD LayE LayF LayG LayH LayI LayJ LayK
set_option linter.unusedVariables false
set_option maxHeartbeats 1000000

set_option maxRecDepth 100000 in
set_option maxHeartbeats 4000000 in
theorem l_agrees (q : Cfg) (b x : Int) (hx0 : 0 ≤ x) (hx1 : x ≤ 18446744073709551615) (w : World) : Calls Try.prog 7 #[cfgV q, .int .i64 b, .int .u64 x] w fun e w' => e = .returned (.bool true) ∧ Below w.heap.size w w' := by
  have hh0 := hq_new w q
  go_enter Try.func7, Try.ntmps7
  go_wp2_with fail
  go_region_held3 (HeldQ w w.heap.size q) (first | exact heldq_drew hh0 | exact heldq_keep (by assumption) (by assumption)) (first
    | (go_at_call 12; (with_reducible refine (a_check q _).mono ?_); rintro e w2 ⟨rfl, hb2⟩)
    | (go_at_call 13; (with_reducible refine (a_blocks q _).mono ?_); rintro e w3 ⟨rfl, hb3⟩)
    | (go_at_call 14; (with_reducible refine (a_class q b _).mono ?_); rintro e w4 ⟨rfl, hb4⟩)
    | (go_at_call 15; (with_reducible refine (a_first q b _).mono ?_); rintro e w5 ⟨rfl, hb5⟩)
    | (go_at_call 16; (with_reducible refine (a_find q x hx0 hx1 _).mono ?_); rintro e w6 ⟨rfl, hb6⟩)
    | (go_at_call 17; (with_reducible refine (a_orec q b _).mono ?_); rintro e w7 ⟨rfl, hb7⟩)
    | (go_at_call 18; (with_reducible refine (r_check q _).mono ?_); rintro e w8 ⟨rfl, hb8⟩)
    | (go_at_call 19; (with_reducible refine (r_blocks q _).mono ?_); rintro e w9 ⟨rfl, hb9⟩)
    | (go_at_call 20; (with_reducible refine (r_class q b _).mono ?_); rintro e w10 ⟨rfl, hb10⟩)
    | (go_at_call 21; (with_reducible refine (r_first q b _).mono ?_); rintro e w11 ⟨rfl, hb11⟩)
    | (go_at_call 22; (with_reducible refine (r_find q x hx0 hx1 _).mono ?_); rintro e w12 ⟨rfl, hb12⟩)
    | (go_at_call 23; (with_reducible refine (r_orec q b _).mono ?_); rintro e w13 ⟨rfl, hb13⟩))
  all_goals
    have hq := heldq_hq (by assumption : HeldQ w w.heap.size q _)
    go_wp2
    go_ret
    exact ⟨rfl, hq.2⟩
end Go.Proofs.Ytaljpggppocnjaa.LayL
