/-
  The contract of Decode of package code.
-/
import Derived.Test.YtafidppjabdecaaCodeL
import Derived.Recover
import Derived.Defers
namespace Go.Proofs.Ytafidppjabdecaa.CodeN
open Go.ChangeShapes Go.WideShapes Go.ChangeAt Go.RowKit
open PlainT BlkW LawFrame CodeS CodeW CodeA CodeE CodeF CodeG CodeL
set_option linter.unusedVariables false
set_option maxHeartbeats 1000000

/-- The world behind the deferred call of a reader that has given up. -/
def caught (w : World) (s e : Nat) : World := ((sets w s 0 [.int .i64 0, .int .i64 0, .int .i64 0, .int .i64 0, .int .i64 0, .int .i64 0, .int .i64 0, .int .i64 0, .int .i64 0, .int .i64 0, .int .i64 0, .int .i64 0, .bool false, .slice none 0 0, .slice none 0 0, .slice none 0 0]).setCell ⟨e, 0, none⟩ (.int .i64 30)).alloc (.cells #[] 58)
theorem sixteen {l : List Value} (h : l.length = 16) : ∃ a0 a1 a2 a3 a4 a5 a6 a7 a8 a9 a10 a11 a12 a13 a14 a15, l = [a0, a1, a2, a3, a4, a5, a6, a7, a8, a9, a10, a11, a12, a13, a14, a15] := by
  match l, h with
  | [a0, a1, a2, a3, a4, a5, a6, a7, a8, a9, a10, a11, a12, a13, a14, a15], _ => exact ⟨_, _, _, _, _, _, _, _, _, _, _, _, _, _, _, _, rfl⟩
theorem ta_yes (v : Value) (w : World) : (Instr.typeAssert (.iface 58 v) 20 58 true).run Try.prog w = .ok (.tuple #[v, .bool true]) w := by
  simp [Instr.typeAssert, run_underlying Try.underlying58]
set_option maxHeartbeats 4000000 in
set_option maxRecDepth 100000 in
theorem catch_panicking (s e : Nat) (cs16 : List Value) (ce : Value) (w : World) (hs : Mem w s 29 cs16.toArray) (hl : cs16.length = 16) (he : Mem w e 32 #[ce]) (hse : s ≠ e) :
    CallsD Try.prog 24 #[.pointer (some ⟨s, 0, none⟩), .pointer (some ⟨e, 0, none⟩)] (.panicking [{ v := .iface 58 (.agg #[]), recovered := false }]) w fun e' u' w' =>
      e' = .returned (.tuple #[]) ∧ u' = .panicking [{ v := .iface 58 (.agg #[]), recovered := true }] ∧ w' = caught w s e := by
  obtain ⟨a0, a1, a2, a3, a4, a5, a6, a7, a8, a9, a10, a11, a12, a13, a14, a15, rfl⟩ := sixteen hl
  have hs1 := hs.alloc (.cells #[] 58)
  have he1 := he.alloc (.cells #[] 58)
  have v6 := hs1.frozen
  have v7 := he1.frozen 0
  have e0 : (w.alloc (.cells #[] 58)).cell? ⟨e, 0, none⟩ = some ce := he1.cell 0
  have hls := hs.lt
  have hle := he.lt
  have hta := ta_yes
  have f6 := hs.frozen
  have f7 := he.frozen 0
  have f8 : w.cell? ⟨e, 0, none⟩ = some ce := he.cell 0
  have p0 : w.cell? ⟨s, 0, none⟩ = some a0 := hs.cell 0
  have p1 : w.cell? ⟨s, 1, none⟩ = some a1 := hs.cell 1
  have p2 : w.cell? ⟨s, 2, none⟩ = some a2 := hs.cell 2
  have p3 : w.cell? ⟨s, 3, none⟩ = some a3 := hs.cell 3
  have p4 : w.cell? ⟨s, 4, none⟩ = some a4 := hs.cell 4
  have p5 : w.cell? ⟨s, 5, none⟩ = some a5 := hs.cell 5
  have p6 : w.cell? ⟨s, 6, none⟩ = some a6 := hs.cell 6
  have p7 : w.cell? ⟨s, 7, none⟩ = some a7 := hs.cell 7
  have p8 : w.cell? ⟨s, 8, none⟩ = some a8 := hs.cell 8
  have p9 : w.cell? ⟨s, 9, none⟩ = some a9 := hs.cell 9
  have p10 : w.cell? ⟨s, 10, none⟩ = some a10 := hs.cell 10
  have p11 : w.cell? ⟨s, 11, none⟩ = some a11 := hs.cell 11
  have p12 : w.cell? ⟨s, 12, none⟩ = some a12 := hs.cell 12
  have p13 : w.cell? ⟨s, 13, none⟩ = some a13 := hs.cell 13
  have p14 : w.cell? ⟨s, 14, none⟩ = some a14 := hs.cell 14
  have p15 : w.cell? ⟨s, 15, none⟩ = some a15 := hs.cell 15
  have o0 : (w.alloc (.cells #[] 58)).cell? ⟨s, 0, none⟩ = some a0 := hs1.cell 0
  have o1 : (w.alloc (.cells #[] 58)).cell? ⟨s, 1, none⟩ = some a1 := hs1.cell 1
  have o2 : (w.alloc (.cells #[] 58)).cell? ⟨s, 2, none⟩ = some a2 := hs1.cell 2
  have o3 : (w.alloc (.cells #[] 58)).cell? ⟨s, 3, none⟩ = some a3 := hs1.cell 3
  have o4 : (w.alloc (.cells #[] 58)).cell? ⟨s, 4, none⟩ = some a4 := hs1.cell 4
  have o5 : (w.alloc (.cells #[] 58)).cell? ⟨s, 5, none⟩ = some a5 := hs1.cell 5
  have o6 : (w.alloc (.cells #[] 58)).cell? ⟨s, 6, none⟩ = some a6 := hs1.cell 6
  have o7 : (w.alloc (.cells #[] 58)).cell? ⟨s, 7, none⟩ = some a7 := hs1.cell 7
  have o8 : (w.alloc (.cells #[] 58)).cell? ⟨s, 8, none⟩ = some a8 := hs1.cell 8
  have o9 : (w.alloc (.cells #[] 58)).cell? ⟨s, 9, none⟩ = some a9 := hs1.cell 9
  have o10 : (w.alloc (.cells #[] 58)).cell? ⟨s, 10, none⟩ = some a10 := hs1.cell 10
  have o11 : (w.alloc (.cells #[] 58)).cell? ⟨s, 11, none⟩ = some a11 := hs1.cell 11
  have o12 : (w.alloc (.cells #[] 58)).cell? ⟨s, 12, none⟩ = some a12 := hs1.cell 12
  have o13 : (w.alloc (.cells #[] 58)).cell? ⟨s, 13, none⟩ = some a13 := hs1.cell 13
  have o14 : (w.alloc (.cells #[] 58)).cell? ⟨s, 14, none⟩ = some a14 := hs1.cell 14
  have o15 : (w.alloc (.cells #[] 58)).cell? ⟨s, 15, none⟩ = some a15 := hs1.cell 15
  clear hs he hs1 he1 hl
  refine callsD_of_wpS Try.func24 rfl fun c₀ cs hu => ?_
  apply wpS_seq
  apply wpS_region
  simp [wpOpsS, go_sem, recoverD, hu, Try.ntmps24, Exit.thenS, -and_self, -false_and]
  refine wpS_of_wp ?_
  go_wp2
  exact ⟨rfl, _, rfl, .tuple #[], by simp [results, Try.results24, go_sem], rfl, rfl, rfl⟩
theorem catch_idle (s e : Nat) (w : World) :
    CallsD Try.prog 24 #[.pointer (some ⟨s, 0, none⟩), .pointer (some ⟨e, 0, none⟩)] .returning w fun e' u' w' => e' = .returned (.tuple #[]) ∧ u' = .returning ∧ w' = w := by
  refine callsD_of_wpS Try.func24 rfl fun c₀ cs hu => ?_
  apply wpS_seq
  apply wpS_region
  simp [wpOpsS, go_sem, recoverD, hu, Try.ntmps24, Exit.thenS]
  refine wpS_of_wp ?_
  go_wp2
  cases c₀
  simp_all [bodyPostS, results, Try.results24]
end Go.Proofs.Ytafidppjabdecaa.CodeN
