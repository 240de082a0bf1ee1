/-
  Contract of strongtxkit.Words: two rows that read alike.
-/
import Derived.Test.YtcbhpoajpingcaaCelI
import Derived.BigQuiet
namespace Go.Proofs.Ytcbhpoajpingcaa.CelQ
open Go.ChangeShapes Go.WideShapes Go.ChangeAt Go.RowKit
open PlainT BlkW CelS CelM CelP CelV CelN
set_option linter.unusedVariables false
set_option maxHeartbeats 1000000
set_option maxRecDepth 100000
/-- A slice that reads as xs; the empty one may be nil. -/
def Rd (w : World) (v : Value) (xs : List Int) : Prop := ∃ p cap, v = .slice p xs.length cap ∧ ∀ j x, xs[j]? = some x → ∃ g o, p = some ⟨g, o, none⟩ ∧ w.cell? ⟨g, o + j, none⟩ = some (.int .u64 x)
theorem Rd.of_src {w : World} {v : Value} {xs : List Int} (h : Src w v xs) : Rd w v xs := by
  obtain ⟨g, o, cap, rfl, hc⟩ := h
  exact ⟨_, cap, rfl, fun j x hj => ⟨g, o, rfl, hc j x hj⟩⟩
/-- What Words leaves: the world, but for draws. -/
abbrev Ws (w w' : World) : Prop := ∃ n, w' = w.drewN n
theorem k_words (w : World) (v1 v2 : Value) (xs : List Int) (h1 : Rd w v1 xs) (h2 : Rd w v2 xs) (hl : xs.length ≤ 1000) : Calls Try.prog 74 #[v1, v2] w fun e w' => e = .returned (.bool true) ∧ Ws w w' := by
  obtain ⟨p1, c1, rfl, hc1⟩ := h1
  obtain ⟨p2, c2, rfl, hc2⟩ := h2
  obtain ⟨n, hn⟩ : ∃ n, xs.length = n := ⟨_, rfl⟩
  rw [hn] at hl ⊢
  have HN := Lib.hid hn
  have H1 := Lib.hid hc1
  have H2 := Lib.hid hc2
  clear hn hc1 hc2
  go_enter Try.func74, Try.ntmps74
  go_wp2_with fail
  go_loopw [5] (fun kv wr => ∃ k : Nat, k ≤ n ∧ kv = .int .i64 k ∧ Ws w wr) (fun kv _ => n - (intOf kv).toNat)
  case atStart => exact ⟨0, by omega, rfl, 0, rfl⟩
  case round =>
    obtain ⟨k, hk, rfl, hws⟩ := hrel
    have HW := Lib.hid hws
    clear hws
    by_cases hlt : k < n
    · have hlk : (k : Int) < n := by omega
      obtain ⟨x, hx⟩ : ∃ x, xs[k]? = some x := ⟨xs[k]'(by rw [HN.out]; exact hlt), by rw [List.getElem?_eq_getElem]⟩
      obtain ⟨ga, oa, rfl, hca⟩ := H1.out k x hx
      obtain ⟨gb, ob, rfl, hcb⟩ := H2.out k x hx
      have e1 : wr.cell? ⟨ga, oa + k, none⟩ = some (.int .u64 x) := by
        obtain ⟨nd, rfl⟩ := HW.out
        exact hca
      have e2 : wr.cell? ⟨gb, ob + k, none⟩ = some (.int .u64 x) := by
        obtain ⟨nd, rfl⟩ := HW.out
        exact hcb
      clear hca hcb hx hk
      go_upto_region 6 with (fail)
      go_quiet (fail)
      go_wp2_with fail
      go_roundw
      case rel =>
        obtain ⟨nd, rfl⟩ := HW.out
        exact ⟨k + 1, by omega, by go_num, nd + nq, by rw [World.drewN_drewN]⟩
      case measure => simp [intOf]; omega
    · obtain rfl : k = n := by omega
      clear hlt hk
      go_wp2_with fail
      go_ret
      exact ⟨rfl, HW.out⟩
end Go.Proofs.Ytcbhpoajpingcaa.CelQ
