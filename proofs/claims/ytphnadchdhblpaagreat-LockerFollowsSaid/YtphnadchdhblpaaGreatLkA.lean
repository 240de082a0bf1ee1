/-
  Contracts of package locker, step by step, over both machines' cells and the machines' objects.
-/
import Derived.Test.YtphnadchdhblpaaGreatSrtA
import Derived.Test.YtphnadchdhblpaaGreatWordE
import Derived.Deep.RegionLaw
import Derived.Deep.RegionHeld3
import Derived.Deep.Cut
import Derived.Deep.DeepCutAuto
import Derived.Deep.CutBlock
import Derived.BigQuiet
import Derived.Deep.QuietTactic
namespace Go.Proofs.YtphnadchdhblpaaGreat.LkA
open Go.ChangeShapes Go.WideShapes Go.ChangeAt Go.RowKit
open PlainT BlkW LayS LayA CelS CelM CelP CelV CelN CelO CelF LabD LabR LabP LabS CelLo WordC RsA ObjA LkP SrtA
set_option linter.unusedVariables false
set_option maxHeartbeats 2000000
set_option maxRecDepth 100000

theorem same_of {n : Nat} {args : Array Value} {v : Value} (h : ∀ w, Calls Tryz.prog n args w fun e w' => e = .returned v ∧ w = w') (w : World) : Calls Tryz.prog n args w fun e w' => e = .returned v ∧ w' = w := (h w).mono fun _ _ k => ⟨k.1, k.2.symm⟩
abbrev TLk : TypeId := 79
abbrev TRe : TypeId := 91
/-- The slice without its first element, and what it reads as. -/
theorem tail_run {K : IntKind} {T ts : TypeId} (hu : Tryz.prog.underlying ts = some (.slice T)) (hz : ∀ wx : World, (sizeOf (Tryz.prog.elem ts)).run Tryz.prog wx = .ok 1 wx) (g o n c : Nat) (h1 : 1 ≤ n) (h2 : n ≤ c) :
    ∃ p, (∀ wx : World, (Instr.slice ts (.slice (some ⟨g, o, none⟩) n c) (some (.int .i64 1)) none none).run Tryz.prog wx = .ok (.slice p (n - 1) (c - 1)) wx) ∧ (Value.slice p (n - 1) (c - 1)).ownBlock = some g ∧
      ∀ (w : World) (x : Int) (xs : List Int), RdR K w (.slice (some ⟨g, o, none⟩) n c) (x :: xs) → RdR K w (.slice p (n - 1) (c - 1)) xs := by
  have he : Tryz.prog.elem ts = T := by simp [Program.elem, hu]
  refine ⟨if c = 1 then some ⟨g, o, none⟩ else some ⟨g, o + 1, none⟩, fun wx => ?_, ?_, fun w x xs h => ?_⟩
  · rw [run_slice_l (P := Tryz.prog) (w := wx) ts (some ⟨g, o, none⟩) n c (by rw [he]; exact hu) .i64 1 (by omega) (by omega), hz wx]
    simp only [Result.andThen, sliced]
    split
    · rename_i e
      rw [if_pos (by simpa using e)]
      rfl
    · rename_i e
      rw [if_neg (by simpa using e)]
      simp [Addr.add]
  · split <;> rfl
  · refine h.tail _ (fun hc => ?_) fun g' hg => ?_
    · rw [if_neg hc]
      simp [Addr.add]
    · split at hg <;> exact hg

theorem lk_done {w0 w : World} {lo hi b rb : Nat} {q : Cfg} {A B : Int → List Int} {X rs : List Ob} {g c : Nat} {st t f : Int} {vl vo : Value} {p : Option Addr}  (h : Lo w0 lo hi b rb q A B (X ++ bx g TLk #[.int .i64 st, .int .i64 t, vl, .int .u64 f, vo] :: rs) w) : Calls Tryz.prog 35 #[.pointer (some ⟨g, 0, none⟩), .slice p 0 c] w fun e w' => e = .returned (.tuple #[]) ∧ Lo w0 lo hi b rb q A B (X ++ bx g TLk #[.int .i64 2, .int .i64 t, .slice p 0 c, .int .u64 f, vo] :: rs) w' := by
  have L0 := Lib.hid h
  clear h
  skip
  have c0_0_0 : w.cell? ⟨g, 0, none⟩ = some (.int .i64 st) := L0.out.cR 0 0 rfl rfl
  have c0_0_2 : w.cell? ⟨g, 2, none⟩ = some (vl) := L0.out.cR 0 2 rfl rfl
  have z0_0_0 : w.frozen? ⟨g, 0, none⟩ = false := L0.out.zR 0 0 rfl
  have z0_0_2 : w.frozen? ⟨g, 2, none⟩ = false := L0.out.zR 0 2 rfl
  go_enter Tryz.func35, Tryz.ntmps35
  go_wp2
  have L1 : Hid (Lo w0 lo hi b rb q A B (X ++ bx g TLk #[.int .i64 st, .int .i64 t, .slice p 0 c, .int .u64 f, vo] :: rs) (w.setCell ⟨g, 2, none⟩ (.slice p 0 c))) := Lib.hid (L0.out.putR 0 2 (.slice p 0 c) rfl (by rfl))
  clear L0 c0_0_0 c0_0_2 z0_0_0 z0_0_2
  have L2 : Hid (Lo w0 lo hi b rb q A B (X ++ bx g TLk #[.int .i64 0, .int .i64 t, .slice p 0 c, .int .u64 f, vo] :: rs) ((w.setCell ⟨g, 2, none⟩ (.slice p 0 c)).setCell ⟨g, 0, none⟩ (.int .i64 0))) := Lib.hid (L1.out.putR 0 0 (.int .i64 0) rfl (by rfl))
  clear L1
  have L3 : Hid (Lo w0 lo hi b rb q A B (X ++ bx g TLk #[.int .i64 2, .int .i64 t, .slice p 0 c, .int .u64 f, vo] :: rs) (((w.setCell ⟨g, 2, none⟩ (.slice p 0 c)).setCell ⟨g, 0, none⟩ (.int .i64 0)).setCell ⟨g, 0, none⟩ (.int .i64 2))) := Lib.hid (L2.out.putR 0 0 (.int .i64 2) rfl (by rfl))
  clear L2
  go_end0
  exact ⟨rfl, L3.out⟩

theorem lk_more {w0 w : World} {lo hi b rb : Nat} {q : Cfg} {A B : Int → List Int} {X rs : List Ob} {g c : Nat} {st t f : Int} {vl vo : Value} {p : Option Addr} {n : Nat} (hn : 0 < n)  (h : Lo w0 lo hi b rb q A B (X ++ bx g TLk #[.int .i64 st, .int .i64 t, vl, .int .u64 f, vo] :: rs) w) : Calls Tryz.prog 35 #[.pointer (some ⟨g, 0, none⟩), .slice p n c] w fun e w' => e = .returned (.tuple #[]) ∧ Lo w0 lo hi b rb q A B (X ++ bx g TLk #[.int .i64 0, .int .i64 t, .slice p n c, .int .u64 f, vo] :: rs) w' := by
  have L0 := Lib.hid h
  clear h
  have hnI : (0 : Int) < n := by omega
  have c0_0_0 : w.cell? ⟨g, 0, none⟩ = some (.int .i64 st) := L0.out.cR 0 0 rfl rfl
  have c0_0_2 : w.cell? ⟨g, 2, none⟩ = some (vl) := L0.out.cR 0 2 rfl rfl
  have z0_0_0 : w.frozen? ⟨g, 0, none⟩ = false := L0.out.zR 0 0 rfl
  have z0_0_2 : w.frozen? ⟨g, 2, none⟩ = false := L0.out.zR 0 2 rfl
  go_enter Tryz.func35, Tryz.ntmps35
  go_wp2
  have L1 : Hid (Lo w0 lo hi b rb q A B (X ++ bx g TLk #[.int .i64 st, .int .i64 t, .slice p n c, .int .u64 f, vo] :: rs) (w.setCell ⟨g, 2, none⟩ (.slice p n c))) := Lib.hid (L0.out.putR 0 2 (.slice p n c) rfl (by rfl))
  clear L0 c0_0_0 c0_0_2 z0_0_0 z0_0_2
  have L2 : Hid (Lo w0 lo hi b rb q A B (X ++ bx g TLk #[.int .i64 0, .int .i64 t, .slice p n c, .int .u64 f, vo] :: rs) ((w.setCell ⟨g, 2, none⟩ (.slice p n c)).setCell ⟨g, 0, none⟩ (.int .i64 0))) := Lib.hid (L1.out.putR 0 0 (.int .i64 0) rfl (by rfl))
  clear L1
  go_end0
  exact ⟨rfl, L2.out⟩

theorem lk_look {w0 w : World} {lo hi b rb : Nat} {q : Cfg} {A B : Int → List Int} {X rs : List Ob} {g n c : Nat} {st t f st' : Int} {vl vo : Value} {p : Option Addr} (hs : (n = 0 ∧ st' = 2) ∨ (0 < n ∧ st' = 0)) (h : Lo w0 lo hi b rb q A B (X ++ bx g TLk #[.int .i64 st, .int .i64 t, vl, .int .u64 f, vo] :: rs) w) : Calls Tryz.prog 35 #[.pointer (some ⟨g, 0, none⟩), .slice p n c] w fun e w' => e = .returned (.tuple #[]) ∧ Lo w0 lo hi b rb q A B (X ++ bx g TLk #[.int .i64 st', .int .i64 t, .slice p n c, .int .u64 f, vo] :: rs) w' := by
  rcases hs with ⟨rfl, rfl⟩ | ⟨hn, rfl⟩
  · exact lk_done h
  · exact lk_more hn h

theorem lk_look_free {w0 w : World} {lo hi b rb : Nat} {q : Cfg} {A B : Int → List Int} {X : List Ob} {g gl ol n c : Nat} {t f : Int} {vo : Value} {rest ys : List Int} {o : Nat} (hl : o < (A 2).length) {x : Int} (hx : (A 2).getD o 0 = x) (x0 : 0 ≤ x) (x1 : x ≤ 18446744073709551615) (n1 : 1 ≤ n) {t2 : Int} (ht : x % 64 - 1 = t2) (hh : (t2 == -1) = true) (h : Lo w0 lo hi b rb q A B (X ++ [bx g TLk #[.int .i64 0, .int .i64 t, .slice (some ⟨gl, ol, none⟩) n c, .int .u64 f, vo], rd .i64 (.slice (some ⟨gl, ol, none⟩) n c) ((o : Int) :: rest), own .u64 TU vo ys]) w) : Calls Tryz.prog 18 #[.pointer (some ⟨g, 0, none⟩), .pointer (some ⟨b, 0, none⟩)] w fun e w' => e = .returned (accV 1 2 o x x true) ∧ Lo w0 lo hi b rb q A B (X ++ [bx g TLk #[.int .i64 1, .int .i64 t, .slice (some ⟨gl, ol, none⟩) n c, .int .u64 x, vo], rd .i64 (.slice (some ⟨gl, ol, none⟩) n c) ((o : Int) :: rest), own .u64 TU vo ys]) w' := by
  have L0 := Lib.hid h
  clear h
  have hnI : (0 : Int) < (n : Int) := by omega
  have hnN : 0 < n := n1
  go_enter Tryz.func18, Tryz.ntmps18
  go_upto_region 1 with (fail)
  have L1 := Lib.hid (L0.out.newR 59 #[.int .i64 0, .int .i64 0, .int .i64 0, .int .u64 0, .int .u64 0, .bool false])
  obtain ⟨gr, hn⟩ : ∃ gr, w.heap.size = gr := ⟨_, rfl⟩
  rw [hn] at L1
  first | rw [hn] | skip
  clear hn
  obtain ⟨W1, hW⟩ : ∃ W', w.alloc (.cells #[.int .i64 0, .int .i64 0, .int .i64 0, .int .u64 0, .int .u64 0, .bool false] 59) = W' := ⟨_, rfl⟩
  rw [hW] at L1
  first | rw [hW] | skip
  clear hW
  have L1 : Hid (Lo w0 lo hi b rb q A B (X ++ [bx g TLk #[.int .i64 0, .int .i64 t, .slice (some ⟨gl, ol, none⟩) n c, .int .u64 f, vo], rd .i64 (.slice (some ⟨gl, ol, none⟩) n c) ((o : Int) :: rest), own .u64 TU vo ys, bx gr 59 #[.int .i64 0, .int .i64 0, .int .i64 0, .int .u64 0, .int .u64 0, .bool false]]) W1) := L1
  clear L0
  have c1_0_0 : W1.cell? ⟨g, 0, none⟩ = some (.int .i64 0) := L1.out.cR 0 0 rfl rfl
  have c1_0_2 : W1.cell? ⟨g, 2, none⟩ = some (.slice (some ⟨gl, ol, none⟩) n c) := L1.out.cR 0 2 rfl rfl
  have r1_1 : W1.cell? ⟨gl, ol, none⟩ = some (.int .i64 o) := L1.out.rR 1 rfl 0 rfl
  have hc := lo_load L1.out 2 (by decide) o hl x hx
  go_upto_region 4 with ((go_at_call 38; refine hc.mono ?_; rintro e w1 ⟨rfl, hL⟩))
  have L2 : Hid (Lo w0 lo hi b rb q A B (X ++ [bx g TLk #[.int .i64 0, .int .i64 t, .slice (some ⟨gl, ol, none⟩) n c, .int .u64 f, vo], rd .i64 (.slice (some ⟨gl, ol, none⟩) n c) ((o : Int) :: rest), own .u64 TU vo ys, bx gr 59 #[.int .i64 0, .int .i64 0, .int .i64 0, .int .u64 0, .int .u64 0, .bool false]]) w1) := Lib.hid hL
  clear hc hL L1 c1_0_0 c1_0_2 r1_1
  have L3 := Lib.hid (L2.out.newR 59 #[.int .i64 1, .int .i64 2, .int .i64 o, .int .u64 x, .int .u64 x, .bool true])
  obtain ⟨ga, hn⟩ : ∃ ga, w1.heap.size = ga := ⟨_, rfl⟩
  rw [hn] at L3
  first | rw [hn] | skip
  clear hn
  obtain ⟨W3, hW⟩ : ∃ W', w1.alloc (.cells #[.int .i64 1, .int .i64 2, .int .i64 o, .int .u64 x, .int .u64 x, .bool true] 59) = W' := ⟨_, rfl⟩
  rw [hW] at L3
  first | rw [hW] | skip
  clear hW
  have L3 : Hid (Lo w0 lo hi b rb q A B (X ++ [bx g TLk #[.int .i64 0, .int .i64 t, .slice (some ⟨gl, ol, none⟩) n c, .int .u64 f, vo], rd .i64 (.slice (some ⟨gl, ol, none⟩) n c) ((o : Int) :: rest), own .u64 TU vo ys, bx gr 59 #[.int .i64 0, .int .i64 0, .int .i64 0, .int .u64 0, .int .u64 0, .bool false], bx ga 59 #[.int .i64 1, .int .i64 2, .int .i64 o, .int .u64 x, .int .u64 x, .bool true]]) W3) := L3
  clear L2
  have c3_4_3 : W3.cell? ⟨ga, 3, none⟩ = some (.int .u64 x) := L3.out.cR 4 3 rfl rfl
  have c3_0_3 : W3.cell? ⟨g, 3, none⟩ = some (.int .u64 f) := L3.out.cR 0 3 rfl rfl
  have z3_0_3 : W3.frozen? ⟨g, 3, none⟩ = false := L3.out.zR 0 3 rfl
  go_upto_region 5 with (fail)
  have L4 : Hid (Lo w0 lo hi b rb q A B (X ++ [bx g TLk #[.int .i64 0, .int .i64 t, .slice (some ⟨gl, ol, none⟩) n c, .int .u64 x, vo], rd .i64 (.slice (some ⟨gl, ol, none⟩) n c) ((o : Int) :: rest), own .u64 TU vo ys, bx gr 59 #[.int .i64 0, .int .i64 0, .int .i64 0, .int .u64 0, .int .u64 0, .bool false], bx ga 59 #[.int .i64 1, .int .i64 2, .int .i64 o, .int .u64 x, .int .u64 x, .bool true]]) (W3.setCell ⟨g, 3, none⟩ (.int .u64 x))) := Lib.hid (L3.out.putR 0 3 (.int .u64 x) rfl (by rfl))
  obtain ⟨W4, hW⟩ : ∃ W', W3.setCell ⟨g, 3, none⟩ (.int .u64 x) = W' := ⟨_, rfl⟩
  rw [hW] at L4
  first | rw [hW] | skip
  clear hW
  clear L3 c3_4_3 c3_0_3 z3_0_3
  have hho := w_holder x x0 x1
  simp only [ht] at hho
  clear ht
  have c4_0_3 : W4.cell? ⟨g, 3, none⟩ = some (.int .u64 x) := L4.out.cR 0 3 rfl rfl
  have c4_0_0 : W4.cell? ⟨g, 0, none⟩ = some (.int .i64 0) := L4.out.cR 0 0 rfl rfl
  have z4_0_0 : W4.frozen? ⟨g, 0, none⟩ = false := L4.out.zR 0 0 rfl
  go_upto_region 6 with ((go_at_call 39; (with_reducible refine (hho _).mono ?_); rintro e w9 ⟨rfl, rfl⟩))
  go_upto_region 7 with (fail)
  have L5 : Hid (Lo w0 lo hi b rb q A B (X ++ [bx g TLk #[.int .i64 1, .int .i64 t, .slice (some ⟨gl, ol, none⟩) n c, .int .u64 x, vo], rd .i64 (.slice (some ⟨gl, ol, none⟩) n c) ((o : Int) :: rest), own .u64 TU vo ys, bx gr 59 #[.int .i64 0, .int .i64 0, .int .i64 0, .int .u64 0, .int .u64 0, .bool false], bx ga 59 #[.int .i64 1, .int .i64 2, .int .i64 o, .int .u64 x, .int .u64 x, .bool true]]) (W4.setCell ⟨g, 0, none⟩ (.int .i64 1))) := Lib.hid (L4.out.putR 0 0 (.int .i64 1) rfl (by rfl))
  obtain ⟨W5, hW⟩ : ∃ W', W4.setCell ⟨g, 0, none⟩ (.int .i64 1) = W' := ⟨_, rfl⟩
  rw [hW] at L5
  first | rw [hW] | skip
  clear hW
  clear L4 c4_0_3 c4_0_0 z4_0_0
  have c5_3_0 : W5.cell? ⟨gr, 0, none⟩ = some (.int .i64 0) := L5.out.cR 3 0 rfl rfl
  have z5_3_0 : W5.frozen? ⟨gr, 0, none⟩ = false := L5.out.zR 3 0 rfl
  have c5_4_0 : W5.cell? ⟨ga, 0, none⟩ = some (.int .i64 1) := L5.out.cR 4 0 rfl rfl
  have c5_3_1 : W5.cell? ⟨gr, 1, none⟩ = some (.int .i64 0) := L5.out.cR 3 1 rfl rfl
  have z5_3_1 : W5.frozen? ⟨gr, 1, none⟩ = false := L5.out.zR 3 1 rfl
  have c5_4_1 : W5.cell? ⟨ga, 1, none⟩ = some (.int .i64 2) := L5.out.cR 4 1 rfl rfl
  have c5_3_2 : W5.cell? ⟨gr, 2, none⟩ = some (.int .i64 0) := L5.out.cR 3 2 rfl rfl
  have z5_3_2 : W5.frozen? ⟨gr, 2, none⟩ = false := L5.out.zR 3 2 rfl
  have c5_4_2 : W5.cell? ⟨ga, 2, none⟩ = some (.int .i64 o) := L5.out.cR 4 2 rfl rfl
  have c5_3_3 : W5.cell? ⟨gr, 3, none⟩ = some (.int .u64 0) := L5.out.cR 3 3 rfl rfl
  have z5_3_3 : W5.frozen? ⟨gr, 3, none⟩ = false := L5.out.zR 3 3 rfl
  have c5_4_3 : W5.cell? ⟨ga, 3, none⟩ = some (.int .u64 x) := L5.out.cR 4 3 rfl rfl
  have c5_3_4 : W5.cell? ⟨gr, 4, none⟩ = some (.int .u64 0) := L5.out.cR 3 4 rfl rfl
  have z5_3_4 : W5.frozen? ⟨gr, 4, none⟩ = false := L5.out.zR 3 4 rfl
  have c5_4_4 : W5.cell? ⟨ga, 4, none⟩ = some (.int .u64 x) := L5.out.cR 4 4 rfl rfl
  have c5_3_5 : W5.cell? ⟨gr, 5, none⟩ = some (.bool false) := L5.out.cR 3 5 rfl rfl
  have z5_3_5 : W5.frozen? ⟨gr, 5, none⟩ = false := L5.out.zR 3 5 rfl
  have c5_4_5 : W5.cell? ⟨ga, 5, none⟩ = some (.bool true) := L5.out.cR 4 5 rfl rfl
  go_wp2
  have L6 : Hid (Lo w0 lo hi b rb q A B (X ++ [bx g TLk #[.int .i64 1, .int .i64 t, .slice (some ⟨gl, ol, none⟩) n c, .int .u64 x, vo], rd .i64 (.slice (some ⟨gl, ol, none⟩) n c) ((o : Int) :: rest), own .u64 TU vo ys, bx gr 59 #[.int .i64 1, .int .i64 2, .int .i64 o, .int .u64 x, .int .u64 x, .bool true], bx ga 59 #[.int .i64 1, .int .i64 2, .int .i64 o, .int .u64 x, .int .u64 x, .bool true]]) (((((((W5.setCell ⟨gr, 0, none⟩ (.int .i64 1)).setCell ⟨gr, 1, none⟩ (.int .i64 2)).setCell ⟨gr, 2, none⟩ (.int .i64 o)).setCell ⟨gr, 3, none⟩ (.int .u64 x)).setCell ⟨gr, 4, none⟩ (.int .u64 x)).setCell ⟨gr, 5, none⟩ (.bool true)))) := Lib.hid (L5.out.sixR 3 rfl (.int .i64 1) (.int .i64 2) (.int .i64 o) (.int .u64 x) (.int .u64 x) (.bool true))
  obtain ⟨V, hV⟩ : ∃ V, ((((((W5.setCell ⟨gr, 0, none⟩ (.int .i64 1)).setCell ⟨gr, 1, none⟩ (.int .i64 2)).setCell ⟨gr, 2, none⟩ (.int .i64 o)).setCell ⟨gr, 3, none⟩ (.int .u64 x)).setCell ⟨gr, 4, none⟩ (.int .u64 x)).setCell ⟨gr, 5, none⟩ (.bool true)) = V := ⟨_, rfl⟩
  rw [hV] at L6 ⊢
  clear hV
  have hF : Lo w0 lo hi b rb q A B (X ++ [bx g TLk #[.int .i64 1, .int .i64 t, .slice (some ⟨gl, ol, none⟩) n c, .int .u64 x, vo], rd .i64 (.slice (some ⟨gl, ol, none⟩) n c) ((o : Int) :: rest), own .u64 TU vo ys]) V := Lo.dropR (rs2 := [bx gr 59 #[.int .i64 1, .int .i64 2, .int .i64 o, .int .u64 x, .int .u64 x, .bool true], bx ga 59 #[.int .i64 1, .int .i64 2, .int .i64 o, .int .u64 x, .int .u64 x, .bool true]]) L6.out
  refine bodyPost_ret (v := .agg #[.int .i64 1, .int .i64 2, .int .i64 o, .int .u64 x, .int .u64 x, .bool true]) (results_cell_row rfl _ _ gr 59 #[.int .i64 1, .int .i64 2, .int .i64 o, .int .u64 x, .int .u64 x, .bool true] (0, 0) _ (by simp) (L6.out.memR 3 rfl) Tryz.underlying59 rfl (by kernel_rfl)) rfl ?_
  exact ⟨rfl, hF⟩

theorem lk_look_held {w0 w : World} {lo hi b rb : Nat} {q : Cfg} {A B : Int → List Int} {X : List Ob} {g gl ol n c : Nat} {t f : Int} {vo : Value} {rest ys : List Int} {o : Nat} (hl : o < (A 2).length) {x : Int} (hx : (A 2).getD o 0 = x) (x0 : 0 ≤ x) (x1 : x ≤ 18446744073709551615) (n1 : 1 ≤ n) {t2 : Int} (ht : x % 64 - 1 = t2) (hh : (t2 == -1) = false) (h : Lo w0 lo hi b rb q A B (X ++ [bx g TLk #[.int .i64 0, .int .i64 t, .slice (some ⟨gl, ol, none⟩) n c, .int .u64 f, vo], rd .i64 (.slice (some ⟨gl, ol, none⟩) n c) ((o : Int) :: rest), own .u64 TU vo ys]) w) : Calls Tryz.prog 18 #[.pointer (some ⟨g, 0, none⟩), .pointer (some ⟨b, 0, none⟩)] w fun e w' => e = .returned (accV 1 2 o x x true) ∧ Lo w0 lo hi b rb q A B (X ++ [bx g TLk #[.int .i64 0, .int .i64 t, .slice (some ⟨gl, ol, none⟩) n c, .int .u64 x, vo], rd .i64 (.slice (some ⟨gl, ol, none⟩) n c) ((o : Int) :: rest), own .u64 TU vo ys]) w' := by
  have L0 := Lib.hid h
  clear h
  have hnI : (0 : Int) < (n : Int) := by omega
  have hnN : 0 < n := n1
  go_enter Tryz.func18, Tryz.ntmps18
  go_upto_region 1 with (fail)
  have L1 := Lib.hid (L0.out.newR 59 #[.int .i64 0, .int .i64 0, .int .i64 0, .int .u64 0, .int .u64 0, .bool false])
  obtain ⟨gr, hn⟩ : ∃ gr, w.heap.size = gr := ⟨_, rfl⟩
  rw [hn] at L1
  first | rw [hn] | skip
  clear hn
  obtain ⟨W1, hW⟩ : ∃ W', w.alloc (.cells #[.int .i64 0, .int .i64 0, .int .i64 0, .int .u64 0, .int .u64 0, .bool false] 59) = W' := ⟨_, rfl⟩
  rw [hW] at L1
  first | rw [hW] | skip
  clear hW
  have L1 : Hid (Lo w0 lo hi b rb q A B (X ++ [bx g TLk #[.int .i64 0, .int .i64 t, .slice (some ⟨gl, ol, none⟩) n c, .int .u64 f, vo], rd .i64 (.slice (some ⟨gl, ol, none⟩) n c) ((o : Int) :: rest), own .u64 TU vo ys, bx gr 59 #[.int .i64 0, .int .i64 0, .int .i64 0, .int .u64 0, .int .u64 0, .bool false]]) W1) := L1
  clear L0
  have c1_0_0 : W1.cell? ⟨g, 0, none⟩ = some (.int .i64 0) := L1.out.cR 0 0 rfl rfl
  have c1_0_2 : W1.cell? ⟨g, 2, none⟩ = some (.slice (some ⟨gl, ol, none⟩) n c) := L1.out.cR 0 2 rfl rfl
  have r1_1 : W1.cell? ⟨gl, ol, none⟩ = some (.int .i64 o) := L1.out.rR 1 rfl 0 rfl
  have hc := lo_load L1.out 2 (by decide) o hl x hx
  go_upto_region 4 with ((go_at_call 38; refine hc.mono ?_; rintro e w1 ⟨rfl, hL⟩))
  have L2 : Hid (Lo w0 lo hi b rb q A B (X ++ [bx g TLk #[.int .i64 0, .int .i64 t, .slice (some ⟨gl, ol, none⟩) n c, .int .u64 f, vo], rd .i64 (.slice (some ⟨gl, ol, none⟩) n c) ((o : Int) :: rest), own .u64 TU vo ys, bx gr 59 #[.int .i64 0, .int .i64 0, .int .i64 0, .int .u64 0, .int .u64 0, .bool false]]) w1) := Lib.hid hL
  clear hc hL L1 c1_0_0 c1_0_2 r1_1
  have L3 := Lib.hid (L2.out.newR 59 #[.int .i64 1, .int .i64 2, .int .i64 o, .int .u64 x, .int .u64 x, .bool true])
  obtain ⟨ga, hn⟩ : ∃ ga, w1.heap.size = ga := ⟨_, rfl⟩
  rw [hn] at L3
  first | rw [hn] | skip
  clear hn
  obtain ⟨W3, hW⟩ : ∃ W', w1.alloc (.cells #[.int .i64 1, .int .i64 2, .int .i64 o, .int .u64 x, .int .u64 x, .bool true] 59) = W' := ⟨_, rfl⟩
  rw [hW] at L3
  first | rw [hW] | skip
  clear hW
  have L3 : Hid (Lo w0 lo hi b rb q A B (X ++ [bx g TLk #[.int .i64 0, .int .i64 t, .slice (some ⟨gl, ol, none⟩) n c, .int .u64 f, vo], rd .i64 (.slice (some ⟨gl, ol, none⟩) n c) ((o : Int) :: rest), own .u64 TU vo ys, bx gr 59 #[.int .i64 0, .int .i64 0, .int .i64 0, .int .u64 0, .int .u64 0, .bool false], bx ga 59 #[.int .i64 1, .int .i64 2, .int .i64 o, .int .u64 x, .int .u64 x, .bool true]]) W3) := L3
  clear L2
  have c3_4_3 : W3.cell? ⟨ga, 3, none⟩ = some (.int .u64 x) := L3.out.cR 4 3 rfl rfl
  have c3_0_3 : W3.cell? ⟨g, 3, none⟩ = some (.int .u64 f) := L3.out.cR 0 3 rfl rfl
  have z3_0_3 : W3.frozen? ⟨g, 3, none⟩ = false := L3.out.zR 0 3 rfl
  go_upto_region 5 with (fail)
  have L4 : Hid (Lo w0 lo hi b rb q A B (X ++ [bx g TLk #[.int .i64 0, .int .i64 t, .slice (some ⟨gl, ol, none⟩) n c, .int .u64 x, vo], rd .i64 (.slice (some ⟨gl, ol, none⟩) n c) ((o : Int) :: rest), own .u64 TU vo ys, bx gr 59 #[.int .i64 0, .int .i64 0, .int .i64 0, .int .u64 0, .int .u64 0, .bool false], bx ga 59 #[.int .i64 1, .int .i64 2, .int .i64 o, .int .u64 x, .int .u64 x, .bool true]]) (W3.setCell ⟨g, 3, none⟩ (.int .u64 x))) := Lib.hid (L3.out.putR 0 3 (.int .u64 x) rfl (by rfl))
  obtain ⟨W4, hW⟩ : ∃ W', W3.setCell ⟨g, 3, none⟩ (.int .u64 x) = W' := ⟨_, rfl⟩
  rw [hW] at L4
  first | rw [hW] | skip
  clear hW
  clear L3 c3_4_3 c3_0_3 z3_0_3
  have hho := w_holder x x0 x1
  simp only [ht] at hho
  clear ht
  have c4_0_3 : W4.cell? ⟨g, 3, none⟩ = some (.int .u64 x) := L4.out.cR 0 3 rfl rfl
  have c4_0_0 : W4.cell? ⟨g, 0, none⟩ = some (.int .i64 0) := L4.out.cR 0 0 rfl rfl
  have z4_0_0 : W4.frozen? ⟨g, 0, none⟩ = false := L4.out.zR 0 0 rfl
  have c4_3_0 : W4.cell? ⟨gr, 0, none⟩ = some (.int .i64 0) := L4.out.cR 3 0 rfl rfl
  have z4_3_0 : W4.frozen? ⟨gr, 0, none⟩ = false := L4.out.zR 3 0 rfl
  have c4_4_0 : W4.cell? ⟨ga, 0, none⟩ = some (.int .i64 1) := L4.out.cR 4 0 rfl rfl
  have c4_3_1 : W4.cell? ⟨gr, 1, none⟩ = some (.int .i64 0) := L4.out.cR 3 1 rfl rfl
  have z4_3_1 : W4.frozen? ⟨gr, 1, none⟩ = false := L4.out.zR 3 1 rfl
  have c4_4_1 : W4.cell? ⟨ga, 1, none⟩ = some (.int .i64 2) := L4.out.cR 4 1 rfl rfl
  have c4_3_2 : W4.cell? ⟨gr, 2, none⟩ = some (.int .i64 0) := L4.out.cR 3 2 rfl rfl
  have z4_3_2 : W4.frozen? ⟨gr, 2, none⟩ = false := L4.out.zR 3 2 rfl
  have c4_4_2 : W4.cell? ⟨ga, 2, none⟩ = some (.int .i64 o) := L4.out.cR 4 2 rfl rfl
  have c4_3_3 : W4.cell? ⟨gr, 3, none⟩ = some (.int .u64 0) := L4.out.cR 3 3 rfl rfl
  have z4_3_3 : W4.frozen? ⟨gr, 3, none⟩ = false := L4.out.zR 3 3 rfl
  have c4_4_3 : W4.cell? ⟨ga, 3, none⟩ = some (.int .u64 x) := L4.out.cR 4 3 rfl rfl
  have c4_3_4 : W4.cell? ⟨gr, 4, none⟩ = some (.int .u64 0) := L4.out.cR 3 4 rfl rfl
  have z4_3_4 : W4.frozen? ⟨gr, 4, none⟩ = false := L4.out.zR 3 4 rfl
  have c4_4_4 : W4.cell? ⟨ga, 4, none⟩ = some (.int .u64 x) := L4.out.cR 4 4 rfl rfl
  have c4_3_5 : W4.cell? ⟨gr, 5, none⟩ = some (.bool false) := L4.out.cR 3 5 rfl rfl
  have z4_3_5 : W4.frozen? ⟨gr, 5, none⟩ = false := L4.out.zR 3 5 rfl
  have c4_4_5 : W4.cell? ⟨ga, 5, none⟩ = some (.bool true) := L4.out.cR 4 5 rfl rfl
  go_wp2_with ((go_at_call 39; (with_reducible refine (hho _).mono ?_); rintro e w9 ⟨rfl, rfl⟩))
  have L5 : Hid (Lo w0 lo hi b rb q A B (X ++ [bx g TLk #[.int .i64 0, .int .i64 t, .slice (some ⟨gl, ol, none⟩) n c, .int .u64 x, vo], rd .i64 (.slice (some ⟨gl, ol, none⟩) n c) ((o : Int) :: rest), own .u64 TU vo ys, bx gr 59 #[.int .i64 1, .int .i64 2, .int .i64 o, .int .u64 x, .int .u64 x, .bool true], bx ga 59 #[.int .i64 1, .int .i64 2, .int .i64 o, .int .u64 x, .int .u64 x, .bool true]]) (((((((W4.setCell ⟨gr, 0, none⟩ (.int .i64 1)).setCell ⟨gr, 1, none⟩ (.int .i64 2)).setCell ⟨gr, 2, none⟩ (.int .i64 o)).setCell ⟨gr, 3, none⟩ (.int .u64 x)).setCell ⟨gr, 4, none⟩ (.int .u64 x)).setCell ⟨gr, 5, none⟩ (.bool true)))) := Lib.hid (L4.out.sixR 3 rfl (.int .i64 1) (.int .i64 2) (.int .i64 o) (.int .u64 x) (.int .u64 x) (.bool true))
  obtain ⟨V, hV⟩ : ∃ V, ((((((W4.setCell ⟨gr, 0, none⟩ (.int .i64 1)).setCell ⟨gr, 1, none⟩ (.int .i64 2)).setCell ⟨gr, 2, none⟩ (.int .i64 o)).setCell ⟨gr, 3, none⟩ (.int .u64 x)).setCell ⟨gr, 4, none⟩ (.int .u64 x)).setCell ⟨gr, 5, none⟩ (.bool true)) = V := ⟨_, rfl⟩
  rw [hV] at L5 ⊢
  clear hV
  have hF : Lo w0 lo hi b rb q A B (X ++ [bx g TLk #[.int .i64 0, .int .i64 t, .slice (some ⟨gl, ol, none⟩) n c, .int .u64 x, vo], rd .i64 (.slice (some ⟨gl, ol, none⟩) n c) ((o : Int) :: rest), own .u64 TU vo ys]) V := Lo.dropR (rs2 := [bx gr 59 #[.int .i64 1, .int .i64 2, .int .i64 o, .int .u64 x, .int .u64 x, .bool true], bx ga 59 #[.int .i64 1, .int .i64 2, .int .i64 o, .int .u64 x, .int .u64 x, .bool true]]) L5.out
  refine bodyPost_ret (v := .agg #[.int .i64 1, .int .i64 2, .int .i64 o, .int .u64 x, .int .u64 x, .bool true]) (results_cell_row rfl _ _ gr 59 #[.int .i64 1, .int .i64 2, .int .i64 o, .int .u64 x, .int .u64 x, .bool true] (0, 0) _ (by simp) (L5.out.memR 3 rfl) Tryz.underlying59 rfl (by kernel_rfl)) rfl ?_
  exact ⟨rfl, hF⟩

theorem lk_over {w0 w : World} {lo hi b rb : Nat} {q : Cfg} {A B : Int → List Int} {X : List Ob} {g : Nat} {t f : Int} {vl vo : Value} (h : Lo w0 lo hi b rb q A B (X ++ [bx g TLk #[.int .i64 2, .int .i64 t, vl, .int .u64 f, vo]]) w) : Calls Tryz.prog 18 #[.pointer (some ⟨g, 0, none⟩), .pointer (some ⟨b, 0, none⟩)] w fun e w' => e = .returned (accV 0 0 0 0 0 false) ∧ Lo w0 lo hi b rb q A B (X ++ [bx g TLk #[.int .i64 2, .int .i64 t, vl, .int .u64 f, vo]]) w' := by
  have L0 := Lib.hid h
  clear h
  go_enter Tryz.func18, Tryz.ntmps18
  go_upto_region 1 with (fail)
  have L1 := Lib.hid (L0.out.newR 59 #[.int .i64 0, .int .i64 0, .int .i64 0, .int .u64 0, .int .u64 0, .bool false])
  obtain ⟨gr, hn⟩ : ∃ gr, w.heap.size = gr := ⟨_, rfl⟩
  rw [hn] at L1
  first | rw [hn] | skip
  clear hn
  obtain ⟨W1, hW⟩ : ∃ W', w.alloc (.cells #[.int .i64 0, .int .i64 0, .int .i64 0, .int .u64 0, .int .u64 0, .bool false] 59) = W' := ⟨_, rfl⟩
  rw [hW] at L1
  first | rw [hW] | skip
  clear hW
  have L1 : Hid (Lo w0 lo hi b rb q A B (X ++ [bx g TLk #[.int .i64 2, .int .i64 t, vl, .int .u64 f, vo], bx gr 59 #[.int .i64 0, .int .i64 0, .int .i64 0, .int .u64 0, .int .u64 0, .bool false]]) W1) := L1
  clear L0
  have c1_0_0 : W1.cell? ⟨g, 0, none⟩ = some (.int .i64 2) := L1.out.cR 0 0 rfl rfl
  have c1_1_0 : W1.cell? ⟨gr, 0, none⟩ = some (.int .i64 0) := L1.out.cR 1 0 rfl rfl
  have z1_1_0 : W1.frozen? ⟨gr, 0, none⟩ = false := L1.out.zR 1 0 rfl
  have c1_1_1 : W1.cell? ⟨gr, 1, none⟩ = some (.int .i64 0) := L1.out.cR 1 1 rfl rfl
  have z1_1_1 : W1.frozen? ⟨gr, 1, none⟩ = false := L1.out.zR 1 1 rfl
  have c1_1_2 : W1.cell? ⟨gr, 2, none⟩ = some (.int .i64 0) := L1.out.cR 1 2 rfl rfl
  have z1_1_2 : W1.frozen? ⟨gr, 2, none⟩ = false := L1.out.zR 1 2 rfl
  have c1_1_3 : W1.cell? ⟨gr, 3, none⟩ = some (.int .u64 0) := L1.out.cR 1 3 rfl rfl
  have z1_1_3 : W1.frozen? ⟨gr, 3, none⟩ = false := L1.out.zR 1 3 rfl
  have c1_1_4 : W1.cell? ⟨gr, 4, none⟩ = some (.int .u64 0) := L1.out.cR 1 4 rfl rfl
  have z1_1_4 : W1.frozen? ⟨gr, 4, none⟩ = false := L1.out.zR 1 4 rfl
  have c1_1_5 : W1.cell? ⟨gr, 5, none⟩ = some (.bool false) := L1.out.cR 1 5 rfl rfl
  have z1_1_5 : W1.frozen? ⟨gr, 5, none⟩ = false := L1.out.zR 1 5 rfl
  go_wp2
  have L2 : Hid (Lo w0 lo hi b rb q A B (X ++ [bx g TLk #[.int .i64 2, .int .i64 t, vl, .int .u64 f, vo], bx gr 59 #[.int .i64 0, .int .i64 0, .int .i64 0, .int .u64 0, .int .u64 0, .bool false]]) (((((((W1.setCell ⟨gr, 0, none⟩ (.int .i64 0)).setCell ⟨gr, 1, none⟩ (.int .i64 0)).setCell ⟨gr, 2, none⟩ (.int .i64 0)).setCell ⟨gr, 3, none⟩ (.int .u64 0)).setCell ⟨gr, 4, none⟩ (.int .u64 0)).setCell ⟨gr, 5, none⟩ (.bool false)))) := Lib.hid (L1.out.sixR 1 rfl (.int .i64 0) (.int .i64 0) (.int .i64 0) (.int .u64 0) (.int .u64 0) (.bool false))
  obtain ⟨V, hV⟩ : ∃ V, ((((((W1.setCell ⟨gr, 0, none⟩ (.int .i64 0)).setCell ⟨gr, 1, none⟩ (.int .i64 0)).setCell ⟨gr, 2, none⟩ (.int .i64 0)).setCell ⟨gr, 3, none⟩ (.int .u64 0)).setCell ⟨gr, 4, none⟩ (.int .u64 0)).setCell ⟨gr, 5, none⟩ (.bool false)) = V := ⟨_, rfl⟩
  rw [hV] at L2 ⊢
  clear hV
  have hF : Lo w0 lo hi b rb q A B (X ++ [bx g TLk #[.int .i64 2, .int .i64 t, vl, .int .u64 f, vo]]) V := Lo.dropR (rs2 := [bx gr 59 #[.int .i64 0, .int .i64 0, .int .i64 0, .int .u64 0, .int .u64 0, .bool false]]) L2.out
  refine bodyPost_ret (v := .agg #[.int .i64 0, .int .i64 0, .int .i64 0, .int .u64 0, .int .u64 0, .bool false]) (results_cell_row rfl _ _ gr 59 #[.int .i64 0, .int .i64 0, .int .i64 0, .int .u64 0, .int .u64 0, .bool false] (0, 0) _ (by simp) (L2.out.memR 1 rfl) Tryz.underlying59 rfl (by kernel_rfl)) rfl ?_
  exact ⟨rfl, hF⟩

theorem lk_take_yes {w0 w : World} {lo hi b rb : Nat} {q : Cfg} {A B : Int → List Int} {X : List Ob} {g gl ol n c : Nat} {t f : Int} {vo : Value} {rest ys : List Int} {o : Nat} (hl : o < (A 2).length) (hx : (A 2).getD o 0 = f) (n1 : 1 ≤ n) (nc : n ≤ c) (hys : ys.length ≤ 300000) (f0 : 0 ≤ f) (f1 : f ≤ 1000000) (t0 : 0 ≤ t) (t1 : t < 16) {v : Int} (hv : f / 64 * 64 + t + 1 = v) {st' : Int} (hst : (n - 1 = 0 ∧ st' = 2) ∨ (0 < n - 1 ∧ st' = 0)) (h : Lo w0 lo hi b rb q A B (X ++ [bx g TLk #[.int .i64 1, .int .i64 t, .slice (some ⟨gl, ol, none⟩) n c, .int .u64 f, vo], rd .i64 (.slice (some ⟨gl, ol, none⟩) n c) ((o : Int) :: rest), own .u64 TU vo ys]) w) : Calls Tryz.prog 40 #[.pointer (some ⟨g, 0, none⟩), .pointer (some ⟨b, 0, none⟩)] w fun e w' => e = .returned (accV 3 2 o f v true) ∧ ∃ vl' vo', Lo w0 lo hi b rb q (upd A 2 o v) B (X ++ [bx g TLk #[.int .i64 st', .int .i64 t, vl', .int .u64 f, vo'], rd .i64 (vl') rest, own .u64 TU vo' (ys ++ [f])]) w' := by
  have L0 := Lib.hid h
  clear h
  have hnI : (0 : Int) < (n : Int) := by omega
  have hnN : 0 < n := n1
  obtain ⟨pt, hsl, hpb, htl⟩ := tail_run (K := .i64) Tryz.underlying23 (fun wx => by kernel_rfl) gl ol n c n1 nc
  have HT := Lib.hid (And.intro hpb htl)
  clear hpb htl
  go_enter Tryz.func40, Tryz.ntmps40
  go_upto_region 1 with (fail)
  have L1 := Lib.hid (L0.out.newR 59 #[.int .i64 0, .int .i64 0, .int .i64 0, .int .u64 0, .int .u64 0, .bool false])
  obtain ⟨gr, hn⟩ : ∃ gr, w.heap.size = gr := ⟨_, rfl⟩
  rw [hn] at L1
  first | rw [hn] | skip
  clear hn
  obtain ⟨W1, hW⟩ : ∃ W', w.alloc (.cells #[.int .i64 0, .int .i64 0, .int .i64 0, .int .u64 0, .int .u64 0, .bool false] 59) = W' := ⟨_, rfl⟩
  rw [hW] at L1
  first | rw [hW] | skip
  clear hW
  have L1 : Hid (Lo w0 lo hi b rb q A B (X ++ [bx g TLk #[.int .i64 1, .int .i64 t, .slice (some ⟨gl, ol, none⟩) n c, .int .u64 f, vo], rd .i64 (.slice (some ⟨gl, ol, none⟩) n c) ((o : Int) :: rest), own .u64 TU vo ys, bx gr 59 #[.int .i64 0, .int .i64 0, .int .i64 0, .int .u64 0, .int .u64 0, .bool false]]) W1) := L1
  clear L0
  have c1_0_1 : W1.cell? ⟨g, 1, none⟩ = some (.int .i64 t) := L1.out.cR 0 1 rfl rfl
  have c1_0_3 : W1.cell? ⟨g, 3, none⟩ = some (.int .u64 f) := L1.out.cR 0 3 rfl rfl
  have hve := same_of (w_version f f0 (by omega))
  have hhe := same_of (w_held (f / 64) t (by omega) (by omega) t0 t1)
  simp only [hv] at hhe
  go_quiet (first | (go_at_call 63; exact Calls.quiet_of_same (hve _)) | (go_at_call 62; exact Calls.quiet_of_same (hhe _)))
  have L2 : Hid (Lo w0 lo hi b rb q A B (X ++ [bx g TLk #[.int .i64 1, .int .i64 t, .slice (some ⟨gl, ol, none⟩) n c, .int .u64 f, vo], rd .i64 (.slice (some ⟨gl, ol, none⟩) n c) ((o : Int) :: rest), own .u64 TU vo ys, bx gr 59 #[.int .i64 0, .int .i64 0, .int .i64 0, .int .u64 0, .int .u64 0, .bool false]]) (W1.drewN nq)) := Lib.hid (L1.out.drewN nq)
  obtain ⟨W2, hW⟩ : ∃ W', W1.drewN nq = W' := ⟨_, rfl⟩
  rw [hW] at L2
  first | rw [hW] | skip
  clear hW
  clear L1 c1_0_1 c1_0_3
  clear nq hve hhe
  go_upto_region 5 with (fail)
  have c2_0_2 : W2.cell? ⟨g, 2, none⟩ = some (.slice (some ⟨gl, ol, none⟩) n c) := L2.out.cR 0 2 rfl rfl
  have c2_0_3 : W2.cell? ⟨g, 3, none⟩ = some (.int .u64 f) := L2.out.cR 0 3 rfl rfl
  have r2_1 : W2.cell? ⟨gl, ol, none⟩ = some (.int .i64 o) := L2.out.rR 1 rfl 0 rfl
  go_cut [7, 8] (fun pv m0v wc => m0v = .int .i64 0 ∧ ∃ ga : Nat, pv = .pointer (some ⟨ga, 0, none⟩) ∧ Hid (Lo w0 lo hi b rb q (upd A 2 o v) B (X ++ [bx g TLk #[.int .i64 1, .int .i64 t, .slice (some ⟨gl, ol, none⟩) n c, .int .u64 f, vo], rd .i64 (.slice (some ⟨gl, ol, none⟩) n c) ((o : Int) :: rest), own .u64 TU vo ys, bx gr 59 #[.int .i64 0, .int .i64 0, .int .i64 0, .int .u64 0, .int .u64 0, .bool false], bx ga 59 #[.int .i64 3, .int .i64 2, .int .i64 o, .int .u64 f, .int .u64 v, .bool true]]) wc))
  case first =>
    have Lz : Hid (Lo w0 lo hi b rb q A B (X ++ [bx g TLk #[.int .i64 1, .int .i64 t, .slice (some ⟨gl, ol, none⟩) n c, .int .u64 f, vo], rd .i64 (.slice (some ⟨gl, ol, none⟩) n c) ((o : Int) :: rest), own .u64 TU vo ys, bx gr 59 #[.int .i64 0, .int .i64 0, .int .i64 0, .int .u64 0, .int .u64 0, .bool false], bx W2.heap.size 59 #[.int .i64 0, .int .i64 0, .int .i64 0, .int .u64 0, .int .u64 0, .bool false]]) (W2.alloc (.cells #[.int .i64 0, .int .i64 0, .int .i64 0, .int .u64 0, .int .u64 0, .bool false] 59))) := Lib.hid (L2.out.newR 59 #[.int .i64 0, .int .i64 0, .int .i64 0, .int .u64 0, .int .u64 0, .bool false])
    have hs0 : (fun W : World => W.cell? ⟨g, 2, none⟩ = some (.slice (some ⟨gl, ol, none⟩) n c) ∧ W.cell? ⟨g, 3, none⟩ = some (.int .u64 f) ∧ W.cell? ⟨gl, ol, none⟩ = some (.int .i64 o)) W2.drew := ⟨L2.out.drew.cR 0 2 rfl rfl, L2.out.drew.cR 0 3 rfl rfl, L2.out.drew.rR 1 rfl 0 rfl⟩
    have hs1 : (fun W : World => W.cell? ⟨g, 2, none⟩ = some (.slice (some ⟨gl, ol, none⟩) n c) ∧ W.cell? ⟨g, 3, none⟩ = some (.int .u64 f) ∧ W.cell? ⟨gl, ol, none⟩ = some (.int .i64 o)) (W2.alloc (.cells #[.int .i64 0, .int .i64 0, .int .i64 0, .int .u64 0, .int .u64 0, .bool false] 59)).drew := ⟨Lz.out.drew.cR 0 2 rfl rfl, Lz.out.drew.cR 0 3 rfl rfl, Lz.out.drew.rR 1 rfl 0 rfl⟩
    have hc := lo_swap L2.out.drew 2 (by decide) o hl f hx f v v true (Lib.hid (by simp)) (Lib.hid (by simp))
    have hc2 := lo_swap Lz.out.drew 2 (by decide) o hl f hx f v v true (Lib.hid (by simp)) (Lib.hid (by simp))
    have hka : ∀ W', Lo w0 lo hi b rb q (upd A 2 o v) B (X ++ [bx g TLk #[.int .i64 1, .int .i64 t, .slice (some ⟨gl, ol, none⟩) n c, .int .u64 f, vo], rd .i64 (.slice (some ⟨gl, ol, none⟩) n c) ((o : Int) :: rest), own .u64 TU vo ys, bx gr 59 #[.int .i64 0, .int .i64 0, .int .i64 0, .int .u64 0, .int .u64 0, .bool false]]) W' → ((fun W : World => W.cell? ⟨g, 2, none⟩ = some (.slice (some ⟨gl, ol, none⟩) n c) ∧ W.cell? ⟨g, 3, none⟩ = some (.int .u64 f) ∧ W.cell? ⟨gl, ol, none⟩ = some (.int .i64 o)) W' ∧ (fun W : World => W.cell? ⟨g, 2, none⟩ = some (.slice (some ⟨gl, ol, none⟩) n c) ∧ W.cell? ⟨g, 3, none⟩ = some (.int .u64 f) ∧ W.cell? ⟨gl, ol, none⟩ = some (.int .i64 o)) (W'.alloc (.cells #[.int .i64 0, .int .i64 0, .int .i64 0, .int .u64 0, .int .u64 0, .bool false] 59)) ∧ (fun W : World => W.cell? ⟨g, 2, none⟩ = some (.slice (some ⟨gl, ol, none⟩) n c) ∧ W.cell? ⟨g, 3, none⟩ = some (.int .u64 f) ∧ W.cell? ⟨gl, ol, none⟩ = some (.int .i64 o)) (W'.alloc (.cells #[.int .i64 3, .int .i64 2, .int .i64 o, .int .u64 f, .int .u64 v, .bool true] 59))) := fun W' h => ⟨⟨h.cR 0 2 rfl rfl, h.cR 0 3 rfl rfl, h.rR 1 rfl 0 rfl⟩, ⟨(h.newR 59 #[.int .i64 0, .int .i64 0, .int .i64 0, .int .u64 0, .int .u64 0, .bool false]).cR 0 2 rfl rfl, (h.newR 59 #[.int .i64 0, .int .i64 0, .int .i64 0, .int .u64 0, .int .u64 0, .bool false]).cR 0 3 rfl rfl, (h.newR 59 #[.int .i64 0, .int .i64 0, .int .i64 0, .int .u64 0, .int .u64 0, .bool false]).rR 1 rfl 0 rfl⟩, ⟨(h.newR 59 #[.int .i64 3, .int .i64 2, .int .i64 o, .int .u64 f, .int .u64 v, .bool true]).cR 0 2 rfl rfl, (h.newR 59 #[.int .i64 3, .int .i64 2, .int .i64 o, .int .u64 f, .int .u64 v, .bool true]).cR 0 3 rfl rfl, (h.newR 59 #[.int .i64 3, .int .i64 2, .int .i64 o, .int .u64 f, .int .u64 v, .bool true]).rR 1 rfl 0 rfl⟩⟩
    have hkb : ∀ W', Lo w0 lo hi b rb q (upd A 2 o v) B (X ++ [bx g TLk #[.int .i64 1, .int .i64 t, .slice (some ⟨gl, ol, none⟩) n c, .int .u64 f, vo], rd .i64 (.slice (some ⟨gl, ol, none⟩) n c) ((o : Int) :: rest), own .u64 TU vo ys, bx gr 59 #[.int .i64 0, .int .i64 0, .int .i64 0, .int .u64 0, .int .u64 0, .bool false], bx W2.heap.size 59 #[.int .i64 0, .int .i64 0, .int .i64 0, .int .u64 0, .int .u64 0, .bool false]]) W' → ((fun W : World => W.cell? ⟨g, 2, none⟩ = some (.slice (some ⟨gl, ol, none⟩) n c) ∧ W.cell? ⟨g, 3, none⟩ = some (.int .u64 f) ∧ W.cell? ⟨gl, ol, none⟩ = some (.int .i64 o)) W' ∧ (fun W : World => W.cell? ⟨g, 2, none⟩ = some (.slice (some ⟨gl, ol, none⟩) n c) ∧ W.cell? ⟨g, 3, none⟩ = some (.int .u64 f) ∧ W.cell? ⟨gl, ol, none⟩ = some (.int .i64 o)) (((((((W'.setCell ⟨W2.heap.size, 0, none⟩ (.int .i64 3)).setCell ⟨W2.heap.size, 1, none⟩ (.int .i64 2)).setCell ⟨W2.heap.size, 2, none⟩ (.int .i64 o)).setCell ⟨W2.heap.size, 3, none⟩ (.int .u64 f)).setCell ⟨W2.heap.size, 4, none⟩ (.int .u64 v)).setCell ⟨W2.heap.size, 5, none⟩ (.bool true))) ∧ Mem W' W2.heap.size 59 #[.int .i64 0, .int .i64 0, .int .i64 0, .int .u64 0, .int .u64 0, .bool false]) := fun W' h => ⟨⟨h.cR 0 2 rfl rfl, h.cR 0 3 rfl rfl, h.rR 1 rfl 0 rfl⟩, ⟨(h.sixR 4 rfl (.int .i64 3) (.int .i64 2) (.int .i64 o) (.int .u64 f) (.int .u64 v) (.bool true)).cR 0 2 rfl rfl, (h.sixR 4 rfl (.int .i64 3) (.int .i64 2) (.int .i64 o) (.int .u64 f) (.int .u64 v) (.bool true)).cR 0 3 rfl rfl, (h.sixR 4 rfl (.int .i64 3) (.int .i64 2) (.int .i64 o) (.int .u64 f) (.int .u64 v) (.bool true)).rR 1 rfl 0 rfl⟩, h.memR 4 rfl⟩
    clear Lz
    go_region_held3 (fun W : World => W.cell? ⟨g, 2, none⟩ = some (.slice (some ⟨gl, ol, none⟩) n c) ∧ W.cell? ⟨g, 3, none⟩ = some (.int .u64 f) ∧ W.cell? ⟨gl, ol, none⟩ = some (.int .i64 o)) (first | (with_reducible exact hs0) | (with_reducible exact hs1) | (with_reducible assumption)) (first | (go_at_call 64; (with_reducible refine hc.mono ?_); rintro e w2' ⟨rfl, hL⟩; obtain ⟨hk1, hk2, hk3⟩ := hka _ hL) | (go_at_call 64; (with_reducible refine hc2.mono ?_); rintro e w2' ⟨rfl, hL⟩; obtain ⟨hk1, hk2, hk3⟩ := hkb _ hL; have d0 := hk3.cell 0; have d1 := hk3.cell 1; have d2 := hk3.cell 2; have d3 := hk3.cell 3; have d4 := hk3.cell 4; have d5 := hk3.cell 5; have df := hk3.frozen))
    all_goals go_wp2_with fail
    all_goals go_meet
    all_goals first
      | exact ⟨rfl, _, rfl, Lib.hid (hL.newR 59 #[.int .i64 3, .int .i64 2, .int .i64 o, .int .u64 f, .int .u64 v, .bool true])⟩
      | exact ⟨rfl, _, rfl, Lib.hid (hL.sixR 4 rfl (.int .i64 3) (.int .i64 2) (.int .i64 o) (.int .u64 f) (.int .u64 v) (.bool true))⟩
  case rest =>
    clear L2 c2_0_2 c2_0_3 r2_1
    obtain ⟨rfl, ga, rfl, L3⟩ := hcut
    have c3_4_3 : wc.cell? ⟨ga, 3, none⟩ = some (.int .u64 f) := L3.out.cR 4 3 rfl rfl
    have c3_0_3 : wc.cell? ⟨g, 3, none⟩ = some (.int .u64 f) := L3.out.cR 0 3 rfl rfl
    have hne : (f != f) = false := by simp
    go_upto_region 6 with (fail)
    go_quiet (fail)
    have L4 : Hid (Lo w0 lo hi b rb q (upd A 2 o v) B (X ++ [bx g TLk #[.int .i64 1, .int .i64 t, .slice (some ⟨gl, ol, none⟩) n c, .int .u64 f, vo], rd .i64 (.slice (some ⟨gl, ol, none⟩) n c) ((o : Int) :: rest), own .u64 TU vo ys, bx gr 59 #[.int .i64 0, .int .i64 0, .int .i64 0, .int .u64 0, .int .u64 0, .bool false], bx ga 59 #[.int .i64 3, .int .i64 2, .int .i64 o, .int .u64 f, .int .u64 v, .bool true]]) (wc.drewN nq)) := Lib.hid (L3.out.drewN nq)
    obtain ⟨W4, hW⟩ : ∃ W', wc.drewN nq = W' := ⟨_, rfl⟩
    rw [hW] at L4
    first | rw [hW] | skip
    clear hW
    clear L3 c3_4_3 c3_0_3
    clear nq
    go_upto_region 9 with (fail)
    go_cut [] (fun wc => ∃ (Aa : Option Addr) (ca : Nat), Hid (Lo w0 lo hi b rb q (upd A 2 o v) B (X ++ [bx g TLk #[.int .i64 1, .int .i64 t, .slice (some ⟨gl, ol, none⟩) n c, .int .u64 f, .slice Aa (ys.length + 1) ca], rd .i64 (.slice (some ⟨gl, ol, none⟩) n c) ((o : Int) :: rest), own .u64 TU (.slice Aa (ys.length + 1) ca) (ys ++ [f]), bx gr 59 #[.int .i64 0, .int .i64 0, .int .i64 0, .int .u64 0, .int .u64 0, .bool false], bx ga 59 #[.int .i64 3, .int .i64 2, .int .i64 o, .int .u64 f, .int .u64 v, .bool true]]) wc))
    case first =>
      obtain ⟨Aa, ca, w5, hrun, hL⟩ := L4.out.drew.pushU 2 rfl hys f
      have hrun' : (Builtin.append_ #[TR, TR] TR #[vo, .slice (some ⟨W4.heap.size, 0, none⟩) 1 1]).run Tryz.prog (W4.alloc (.cells #[.int .u64 f] TU)).drew = .ok (.slice Aa (ys.length + 1) ca) w5 := hrun
      have hgb : g < W4.heap.size := (L4.out.memR 0 rfl).lt
      have c4_0_3 : W4.cell? ⟨g, 3, none⟩ = some (.int .u64 f) := L4.out.cR 0 3 rfl rfl
      have c4_0_4 : W4.cell? ⟨g, 4, none⟩ = some (vo) := L4.out.cR 0 4 rfl rfl
      have m1 : w5.cell? ⟨g, 4, none⟩ = some vo := hL.cR 0 4 rfl rfl
      have m2 : w5.frozen? ⟨g, 4, none⟩ = false := hL.zR 0 4 rfl
      have HL : Hid (Lo w0 lo hi b rb q (upd A 2 o v) B (X ++ [bx g TLk #[.int .i64 1, .int .i64 t, .slice (some ⟨gl, ol, none⟩) n c, .int .u64 f, .slice Aa (ys.length + 1) ca], rd .i64 (.slice (some ⟨gl, ol, none⟩) n c) ((o : Int) :: rest), own .u64 TU (.slice Aa (ys.length + 1) ca) (ys ++ [f]), bx gr 59 #[.int .i64 0, .int .i64 0, .int .i64 0, .int .u64 0, .int .u64 0, .bool false], bx ga 59 #[.int .i64 3, .int .i64 2, .int .i64 o, .int .u64 f, .int .u64 v, .bool true]]) ((w5.setCell ⟨g, 4, none⟩ (.slice Aa (ys.length + 1) ca)))) := Lib.hid (hL.putR 0 4 (.slice Aa (ys.length + 1) ca) rfl (by rfl))
      clear hrun hL L4
      go_region_law ((refine step_append_run rfl _ _ TR rfl _ _ _ _ rfl rfl hrun' ?_))
      all_goals go_wp2_with fail
      all_goals go_meet
      all_goals exact ⟨_, _, HL⟩
    case rest =>
      clear L4
      obtain ⟨Aa, ca, L5⟩ := hcut
      have c5_0_2 : wc.cell? ⟨g, 2, none⟩ = some (.slice (some ⟨gl, ol, none⟩) n c) := L5.out.cR 0 2 rfl rfl
      have hc := lk_look (p := pt) (c := c - 1) hst L5.out
      go_upto_region 11 with ((go_at_call 35; refine hc.mono ?_; rintro e w1 ⟨rfl, hL⟩))
      have L6 : Hid (Lo w0 lo hi b rb q (upd A 2 o v) B (X ++ [bx g TLk #[.int .i64 st', .int .i64 t, .slice pt (n - 1) (c - 1), .int .u64 f, .slice Aa (ys.length + 1) ca], rd .i64 (.slice (some ⟨gl, ol, none⟩) n c) ((o : Int) :: rest), own .u64 TU (.slice Aa (ys.length + 1) ca) (ys ++ [f]), bx gr 59 #[.int .i64 0, .int .i64 0, .int .i64 0, .int .u64 0, .int .u64 0, .bool false], bx ga 59 #[.int .i64 3, .int .i64 2, .int .i64 o, .int .u64 f, .int .u64 v, .bool true]]) w1) := Lib.hid hL
      clear hc hL L5 c5_0_2
      have L7 : Hid (Lo w0 lo hi b rb q (upd A 2 o v) B (X ++ [bx g TLk #[.int .i64 st', .int .i64 t, .slice pt (n - 1) (c - 1), .int .u64 f, .slice Aa (ys.length + 1) ca], rd .i64 (.slice pt (n - 1) (c - 1)) rest, own .u64 TU (.slice Aa (ys.length + 1) ca) (ys ++ [f]), bx gr 59 #[.int .i64 0, .int .i64 0, .int .i64 0, .int .u64 0, .int .u64 0, .bool false], bx ga 59 #[.int .i64 3, .int .i64 2, .int .i64 o, .int .u64 f, .int .u64 v, .bool true]]) w1) := Lib.hid (L6.out.seeR 1 rfl (HT.out.2 _ _ _ (L6.out.isR 1 rfl)) (fun x hx => mem_blk (v := .slice (some ⟨gl, ol, none⟩) n c) (HT.out.1.symm.trans (blk_mem hx))))
      clear L6
      have c7_3_0 : w1.cell? ⟨gr, 0, none⟩ = some (.int .i64 0) := L7.out.cR 3 0 rfl rfl
      have z7_3_0 : w1.frozen? ⟨gr, 0, none⟩ = false := L7.out.zR 3 0 rfl
      have c7_4_0 : w1.cell? ⟨ga, 0, none⟩ = some (.int .i64 3) := L7.out.cR 4 0 rfl rfl
      have c7_3_1 : w1.cell? ⟨gr, 1, none⟩ = some (.int .i64 0) := L7.out.cR 3 1 rfl rfl
      have z7_3_1 : w1.frozen? ⟨gr, 1, none⟩ = false := L7.out.zR 3 1 rfl
      have c7_4_1 : w1.cell? ⟨ga, 1, none⟩ = some (.int .i64 2) := L7.out.cR 4 1 rfl rfl
      have c7_3_2 : w1.cell? ⟨gr, 2, none⟩ = some (.int .i64 0) := L7.out.cR 3 2 rfl rfl
      have z7_3_2 : w1.frozen? ⟨gr, 2, none⟩ = false := L7.out.zR 3 2 rfl
      have c7_4_2 : w1.cell? ⟨ga, 2, none⟩ = some (.int .i64 o) := L7.out.cR 4 2 rfl rfl
      have c7_3_3 : w1.cell? ⟨gr, 3, none⟩ = some (.int .u64 0) := L7.out.cR 3 3 rfl rfl
      have z7_3_3 : w1.frozen? ⟨gr, 3, none⟩ = false := L7.out.zR 3 3 rfl
      have c7_4_3 : w1.cell? ⟨ga, 3, none⟩ = some (.int .u64 f) := L7.out.cR 4 3 rfl rfl
      have c7_3_4 : w1.cell? ⟨gr, 4, none⟩ = some (.int .u64 0) := L7.out.cR 3 4 rfl rfl
      have z7_3_4 : w1.frozen? ⟨gr, 4, none⟩ = false := L7.out.zR 3 4 rfl
      have c7_4_4 : w1.cell? ⟨ga, 4, none⟩ = some (.int .u64 v) := L7.out.cR 4 4 rfl rfl
      have c7_3_5 : w1.cell? ⟨gr, 5, none⟩ = some (.bool false) := L7.out.cR 3 5 rfl rfl
      have z7_3_5 : w1.frozen? ⟨gr, 5, none⟩ = false := L7.out.zR 3 5 rfl
      have c7_4_5 : w1.cell? ⟨ga, 5, none⟩ = some (.bool true) := L7.out.cR 4 5 rfl rfl
      go_wp2
      have L8 : Hid (Lo w0 lo hi b rb q (upd A 2 o v) B (X ++ [bx g TLk #[.int .i64 st', .int .i64 t, .slice pt (n - 1) (c - 1), .int .u64 f, .slice Aa (ys.length + 1) ca], rd .i64 (.slice pt (n - 1) (c - 1)) rest, own .u64 TU (.slice Aa (ys.length + 1) ca) (ys ++ [f]), bx gr 59 #[.int .i64 3, .int .i64 2, .int .i64 o, .int .u64 f, .int .u64 v, .bool true], bx ga 59 #[.int .i64 3, .int .i64 2, .int .i64 o, .int .u64 f, .int .u64 v, .bool true]]) (((((((w1.setCell ⟨gr, 0, none⟩ (.int .i64 3)).setCell ⟨gr, 1, none⟩ (.int .i64 2)).setCell ⟨gr, 2, none⟩ (.int .i64 o)).setCell ⟨gr, 3, none⟩ (.int .u64 f)).setCell ⟨gr, 4, none⟩ (.int .u64 v)).setCell ⟨gr, 5, none⟩ (.bool true)))) := Lib.hid (L7.out.sixR 3 rfl (.int .i64 3) (.int .i64 2) (.int .i64 o) (.int .u64 f) (.int .u64 v) (.bool true))
      obtain ⟨V, hV⟩ : ∃ V, ((((((w1.setCell ⟨gr, 0, none⟩ (.int .i64 3)).setCell ⟨gr, 1, none⟩ (.int .i64 2)).setCell ⟨gr, 2, none⟩ (.int .i64 o)).setCell ⟨gr, 3, none⟩ (.int .u64 f)).setCell ⟨gr, 4, none⟩ (.int .u64 v)).setCell ⟨gr, 5, none⟩ (.bool true)) = V := ⟨_, rfl⟩
      rw [hV] at L8 ⊢
      clear hV
      have hF : Lo w0 lo hi b rb q (upd A 2 o v) B (X ++ [bx g TLk #[.int .i64 st', .int .i64 t, .slice pt (n - 1) (c - 1), .int .u64 f, .slice Aa (ys.length + 1) ca], rd .i64 (.slice pt (n - 1) (c - 1)) rest, own .u64 TU (.slice Aa (ys.length + 1) ca) (ys ++ [f])]) V := Lo.dropR (rs2 := [bx gr 59 #[.int .i64 3, .int .i64 2, .int .i64 o, .int .u64 f, .int .u64 v, .bool true], bx ga 59 #[.int .i64 3, .int .i64 2, .int .i64 o, .int .u64 f, .int .u64 v, .bool true]]) L8.out
      refine bodyPost_ret (v := .agg #[.int .i64 3, .int .i64 2, .int .i64 o, .int .u64 f, .int .u64 v, .bool true]) (results_cell_row rfl _ _ gr 59 #[.int .i64 3, .int .i64 2, .int .i64 o, .int .u64 f, .int .u64 v, .bool true] (0, 0) _ (by simp) (L8.out.memR 3 rfl) Tryz.underlying59 rfl (by kernel_rfl)) rfl ?_
      exact ⟨rfl, _, _, hF⟩

theorem lk_swap_yes {w0 w : World} {lo hi b rb : Nat} {q : Cfg} {A B : Int → List Int} {X : List Ob} {g gl ol n c : Nat} {t f : Int} {vo : Value} {rest ys : List Int} {o : Nat} (hl : o < (A 2).length) (hx : (A 2).getD o 0 = f) (n1 : 1 ≤ n) (nc : n ≤ c) (hys : ys.length ≤ 300000) (f0 : 0 ≤ f) (f1 : f ≤ 1000000) (t0 : 0 ≤ t) (t1 : t < 16) {v : Int} (hv : f / 64 * 64 + t + 1 = v) {st' : Int} (hst : (n - 1 = 0 ∧ st' = 2) ∨ (0 < n - 1 ∧ st' = 0)) (h : Lo w0 lo hi b rb q A B (X ++ [bx g TLk #[.int .i64 1, .int .i64 t, .slice (some ⟨gl, ol, none⟩) n c, .int .u64 f, vo], rd .i64 (.slice (some ⟨gl, ol, none⟩) n c) ((o : Int) :: rest), own .u64 TU vo ys]) w) : Calls Tryz.prog 18 #[.pointer (some ⟨g, 0, none⟩), .pointer (some ⟨b, 0, none⟩)] w fun e w' => e = .returned (accV 3 2 o f v true) ∧ ∃ vl' vo', Lo w0 lo hi b rb q (upd A 2 o v) B (X ++ [bx g TLk #[.int .i64 st', .int .i64 t, vl', .int .u64 f, vo'], rd .i64 (vl') rest, own .u64 TU vo' (ys ++ [f])]) w' := by
  have L0 := Lib.hid h
  clear h
  have hnI : (0 : Int) < (n : Int) := by omega
  have hnN : 0 < n := n1
  go_enter Tryz.func18, Tryz.ntmps18
  go_upto_region 1 with (fail)
  have L1 := Lib.hid (L0.out.newR 59 #[.int .i64 0, .int .i64 0, .int .i64 0, .int .u64 0, .int .u64 0, .bool false])
  obtain ⟨gr, hn⟩ : ∃ gr, w.heap.size = gr := ⟨_, rfl⟩
  rw [hn] at L1
  first | rw [hn] | skip
  clear hn
  obtain ⟨W1, hW⟩ : ∃ W', w.alloc (.cells #[.int .i64 0, .int .i64 0, .int .i64 0, .int .u64 0, .int .u64 0, .bool false] 59) = W' := ⟨_, rfl⟩
  rw [hW] at L1
  first | rw [hW] | skip
  clear hW
  have L1 : Hid (Lo w0 lo hi b rb q A B (X ++ [bx g TLk #[.int .i64 1, .int .i64 t, .slice (some ⟨gl, ol, none⟩) n c, .int .u64 f, vo], rd .i64 (.slice (some ⟨gl, ol, none⟩) n c) ((o : Int) :: rest), own .u64 TU vo ys, bx gr 59 #[.int .i64 0, .int .i64 0, .int .i64 0, .int .u64 0, .int .u64 0, .bool false]]) W1) := L1
  clear L0
  have c1_0_0 : W1.cell? ⟨g, 0, none⟩ = some (.int .i64 1) := L1.out.cR 0 0 rfl rfl
  have hq := L1.out.inX (rs := [bx g TLk #[.int .i64 1, .int .i64 t, .slice (some ⟨gl, ol, none⟩) n c, .int .u64 f, vo], rd .i64 (.slice (some ⟨gl, ol, none⟩) n c) ((o : Int) :: rest), own .u64 TU vo ys]) (rs2 := [bx gr 59 #[.int .i64 0, .int .i64 0, .int .i64 0, .int .u64 0, .int .u64 0, .bool false]])
  have hc := lk_take_yes hl hx n1 nc hys f0 f1 t0 t1 hv hst hq
  clear hq
  go_wp2_with (go_at_call 40; (with_reducible refine hc.mono ?_); rintro e w9 ⟨rfl, vl', vo', hL⟩; have hL2 := Lo.outX (rs := [bx g TLk #[.int .i64 st', .int .i64 t, vl', .int .u64 f, vo'], rd .i64 (vl') rest, own .u64 TU vo' (ys ++ [f])]) hL; have r0_0 := hL2.cR 3 0 rfl rfl; have r0_1 := hL2.cR 3 1 rfl rfl; have r0_2 := hL2.cR 3 2 rfl rfl; have r0_3 := hL2.cR 3 3 rfl rfl; have r0_4 := hL2.cR 3 4 rfl rfl; have r0_5 := hL2.cR 3 5 rfl rfl; have r0_z := Mem.frozen (hL2.memR 3 rfl))
  have L2 : Hid (Lo w0 lo hi b rb q (upd A 2 o v) B (X ++ [bx g TLk #[.int .i64 st', .int .i64 t, vl', .int .u64 f, vo'], rd .i64 (vl') rest, own .u64 TU vo' (ys ++ [f]), bx gr 59 #[.int .i64 0, .int .i64 0, .int .i64 0, .int .u64 0, .int .u64 0, .bool false]]) w9) := Lib.hid hL2
  clear hc hL hL2 r0_0 r0_1 r0_2 r0_3 r0_4 r0_5 r0_z L1
  have L3 : Hid (Lo w0 lo hi b rb q (upd A 2 o v) B (X ++ [bx g TLk #[.int .i64 st', .int .i64 t, vl', .int .u64 f, vo'], rd .i64 (vl') rest, own .u64 TU vo' (ys ++ [f]), bx gr 59 #[.int .i64 3, .int .i64 2, .int .i64 o, .int .u64 f, .int .u64 v, .bool true]]) (((((((w9.setCell ⟨gr, 0, none⟩ (.int .i64 3)).setCell ⟨gr, 1, none⟩ (.int .i64 2)).setCell ⟨gr, 2, none⟩ (.int .i64 o)).setCell ⟨gr, 3, none⟩ (.int .u64 f)).setCell ⟨gr, 4, none⟩ (.int .u64 v)).setCell ⟨gr, 5, none⟩ (.bool true)))) := Lib.hid (L2.out.sixR 3 rfl (.int .i64 3) (.int .i64 2) (.int .i64 o) (.int .u64 f) (.int .u64 v) (.bool true))
  obtain ⟨V, hV⟩ : ∃ V, ((((((w9.setCell ⟨gr, 0, none⟩ (.int .i64 3)).setCell ⟨gr, 1, none⟩ (.int .i64 2)).setCell ⟨gr, 2, none⟩ (.int .i64 o)).setCell ⟨gr, 3, none⟩ (.int .u64 f)).setCell ⟨gr, 4, none⟩ (.int .u64 v)).setCell ⟨gr, 5, none⟩ (.bool true)) = V := ⟨_, rfl⟩
  rw [hV] at L3 ⊢
  clear hV
  have hF : Lo w0 lo hi b rb q (upd A 2 o v) B (X ++ [bx g TLk #[.int .i64 st', .int .i64 t, vl', .int .u64 f, vo'], rd .i64 (vl') rest, own .u64 TU vo' (ys ++ [f])]) V := Lo.dropR (rs2 := [bx gr 59 #[.int .i64 3, .int .i64 2, .int .i64 o, .int .u64 f, .int .u64 v, .bool true]]) L3.out
  refine bodyPost_ret (v := .agg #[.int .i64 3, .int .i64 2, .int .i64 o, .int .u64 f, .int .u64 v, .bool true]) (results_cell_row rfl _ _ gr 59 #[.int .i64 3, .int .i64 2, .int .i64 o, .int .u64 f, .int .u64 v, .bool true] (0, 0) _ (by simp) (L3.out.memR 3 rfl) Tryz.underlying59 rfl (by kernel_rfl)) rfl ?_
  exact ⟨rfl, _, _, hF⟩

theorem lk_take_no {w0 w : World} {lo hi b rb : Nat} {q : Cfg} {A B : Int → List Int} {X : List Ob} {g gl ol n c : Nat} {t f : Int} {vo : Value} {rest ys : List Int} {o : Nat} (hl : o < (A 2).length) {x : Int} (hx : (A 2).getD o 0 = x) (x0 : 0 ≤ x) (x1 : x ≤ 18446744073709551615) (n1 : 1 ≤ n) (nc : n ≤ c) (hys : ys.length ≤ 300000) (f0 : 0 ≤ f) (f1 : f ≤ 1000000) (t0 : 0 ≤ t) (t1 : t < 16) {v : Int} (hv : f / 64 * 64 + t + 1 = v) (he : ¬ x = f) (h : Lo w0 lo hi b rb q A B (X ++ [bx g TLk #[.int .i64 1, .int .i64 t, .slice (some ⟨gl, ol, none⟩) n c, .int .u64 f, vo], rd .i64 (.slice (some ⟨gl, ol, none⟩) n c) ((o : Int) :: rest), own .u64 TU vo ys]) w) : Calls Tryz.prog 40 #[.pointer (some ⟨g, 0, none⟩), .pointer (some ⟨b, 0, none⟩)] w fun e w' => e = .returned (accV 3 2 o x x false) ∧ Lo w0 lo hi b rb q (upd A 2 o x) B (X ++ [bx g TLk #[.int .i64 0, .int .i64 t, .slice (some ⟨gl, ol, none⟩) n c, .int .u64 f, vo], rd .i64 (.slice (some ⟨gl, ol, none⟩) n c) ((o : Int) :: rest), own .u64 TU vo ys]) w' := by
  have L0 := Lib.hid h
  clear h
  have hnI : (0 : Int) < (n : Int) := by omega
  have hnN : 0 < n := n1
  obtain ⟨pt, hsl, hpb, htl⟩ := tail_run (K := .i64) Tryz.underlying23 (fun wx => by kernel_rfl) gl ol n c n1 nc
  have HT := Lib.hid (And.intro hpb htl)
  clear hpb htl
  go_enter Tryz.func40, Tryz.ntmps40
  go_upto_region 1 with (fail)
  have L1 := Lib.hid (L0.out.newR 59 #[.int .i64 0, .int .i64 0, .int .i64 0, .int .u64 0, .int .u64 0, .bool false])
  obtain ⟨gr, hn⟩ : ∃ gr, w.heap.size = gr := ⟨_, rfl⟩
  rw [hn] at L1
  first | rw [hn] | skip
  clear hn
  obtain ⟨W1, hW⟩ : ∃ W', w.alloc (.cells #[.int .i64 0, .int .i64 0, .int .i64 0, .int .u64 0, .int .u64 0, .bool false] 59) = W' := ⟨_, rfl⟩
  rw [hW] at L1
  first | rw [hW] | skip
  clear hW
  have L1 : Hid (Lo w0 lo hi b rb q A B (X ++ [bx g TLk #[.int .i64 1, .int .i64 t, .slice (some ⟨gl, ol, none⟩) n c, .int .u64 f, vo], rd .i64 (.slice (some ⟨gl, ol, none⟩) n c) ((o : Int) :: rest), own .u64 TU vo ys, bx gr 59 #[.int .i64 0, .int .i64 0, .int .i64 0, .int .u64 0, .int .u64 0, .bool false]]) W1) := L1
  clear L0
  have c1_0_1 : W1.cell? ⟨g, 1, none⟩ = some (.int .i64 t) := L1.out.cR 0 1 rfl rfl
  have c1_0_3 : W1.cell? ⟨g, 3, none⟩ = some (.int .u64 f) := L1.out.cR 0 3 rfl rfl
  have hve := same_of (w_version f f0 (by omega))
  have hhe := same_of (w_held (f / 64) t (by omega) (by omega) t0 t1)
  simp only [hv] at hhe
  go_quiet (first | (go_at_call 63; exact Calls.quiet_of_same (hve _)) | (go_at_call 62; exact Calls.quiet_of_same (hhe _)))
  have L2 : Hid (Lo w0 lo hi b rb q A B (X ++ [bx g TLk #[.int .i64 1, .int .i64 t, .slice (some ⟨gl, ol, none⟩) n c, .int .u64 f, vo], rd .i64 (.slice (some ⟨gl, ol, none⟩) n c) ((o : Int) :: rest), own .u64 TU vo ys, bx gr 59 #[.int .i64 0, .int .i64 0, .int .i64 0, .int .u64 0, .int .u64 0, .bool false]]) (W1.drewN nq)) := Lib.hid (L1.out.drewN nq)
  obtain ⟨W2, hW⟩ : ∃ W', W1.drewN nq = W' := ⟨_, rfl⟩
  rw [hW] at L2
  first | rw [hW] | skip
  clear hW
  clear L1 c1_0_1 c1_0_3
  clear nq hve hhe
  go_upto_region 5 with (fail)
  have c2_0_2 : W2.cell? ⟨g, 2, none⟩ = some (.slice (some ⟨gl, ol, none⟩) n c) := L2.out.cR 0 2 rfl rfl
  have c2_0_3 : W2.cell? ⟨g, 3, none⟩ = some (.int .u64 f) := L2.out.cR 0 3 rfl rfl
  have r2_1 : W2.cell? ⟨gl, ol, none⟩ = some (.int .i64 o) := L2.out.rR 1 rfl 0 rfl
  go_cut [7, 8] (fun pv m0v wc => m0v = .int .i64 0 ∧ ∃ ga : Nat, pv = .pointer (some ⟨ga, 0, none⟩) ∧ Hid (Lo w0 lo hi b rb q (upd A 2 o x) B (X ++ [bx g TLk #[.int .i64 1, .int .i64 t, .slice (some ⟨gl, ol, none⟩) n c, .int .u64 f, vo], rd .i64 (.slice (some ⟨gl, ol, none⟩) n c) ((o : Int) :: rest), own .u64 TU vo ys, bx gr 59 #[.int .i64 0, .int .i64 0, .int .i64 0, .int .u64 0, .int .u64 0, .bool false], bx ga 59 #[.int .i64 3, .int .i64 2, .int .i64 o, .int .u64 x, .int .u64 x, .bool false]]) wc))
  case first =>
    have Lz : Hid (Lo w0 lo hi b rb q A B (X ++ [bx g TLk #[.int .i64 1, .int .i64 t, .slice (some ⟨gl, ol, none⟩) n c, .int .u64 f, vo], rd .i64 (.slice (some ⟨gl, ol, none⟩) n c) ((o : Int) :: rest), own .u64 TU vo ys, bx gr 59 #[.int .i64 0, .int .i64 0, .int .i64 0, .int .u64 0, .int .u64 0, .bool false], bx W2.heap.size 59 #[.int .i64 0, .int .i64 0, .int .i64 0, .int .u64 0, .int .u64 0, .bool false]]) (W2.alloc (.cells #[.int .i64 0, .int .i64 0, .int .i64 0, .int .u64 0, .int .u64 0, .bool false] 59))) := Lib.hid (L2.out.newR 59 #[.int .i64 0, .int .i64 0, .int .i64 0, .int .u64 0, .int .u64 0, .bool false])
    have hs0 : (fun W : World => W.cell? ⟨g, 2, none⟩ = some (.slice (some ⟨gl, ol, none⟩) n c) ∧ W.cell? ⟨g, 3, none⟩ = some (.int .u64 f) ∧ W.cell? ⟨gl, ol, none⟩ = some (.int .i64 o)) W2.drew := ⟨L2.out.drew.cR 0 2 rfl rfl, L2.out.drew.cR 0 3 rfl rfl, L2.out.drew.rR 1 rfl 0 rfl⟩
    have hs1 : (fun W : World => W.cell? ⟨g, 2, none⟩ = some (.slice (some ⟨gl, ol, none⟩) n c) ∧ W.cell? ⟨g, 3, none⟩ = some (.int .u64 f) ∧ W.cell? ⟨gl, ol, none⟩ = some (.int .i64 o)) (W2.alloc (.cells #[.int .i64 0, .int .i64 0, .int .i64 0, .int .u64 0, .int .u64 0, .bool false] 59)).drew := ⟨Lz.out.drew.cR 0 2 rfl rfl, Lz.out.drew.cR 0 3 rfl rfl, Lz.out.drew.rR 1 rfl 0 rfl⟩
    have hc := lo_swap L2.out.drew 2 (by decide) o hl x hx f v x false (Lib.hid (by simp [he])) (Lib.hid (by simp [he]))
    have hc2 := lo_swap Lz.out.drew 2 (by decide) o hl x hx f v x false (Lib.hid (by simp [he])) (Lib.hid (by simp [he]))
    have hka : ∀ W', Lo w0 lo hi b rb q (upd A 2 o x) B (X ++ [bx g TLk #[.int .i64 1, .int .i64 t, .slice (some ⟨gl, ol, none⟩) n c, .int .u64 f, vo], rd .i64 (.slice (some ⟨gl, ol, none⟩) n c) ((o : Int) :: rest), own .u64 TU vo ys, bx gr 59 #[.int .i64 0, .int .i64 0, .int .i64 0, .int .u64 0, .int .u64 0, .bool false]]) W' → ((fun W : World => W.cell? ⟨g, 2, none⟩ = some (.slice (some ⟨gl, ol, none⟩) n c) ∧ W.cell? ⟨g, 3, none⟩ = some (.int .u64 f) ∧ W.cell? ⟨gl, ol, none⟩ = some (.int .i64 o)) W' ∧ (fun W : World => W.cell? ⟨g, 2, none⟩ = some (.slice (some ⟨gl, ol, none⟩) n c) ∧ W.cell? ⟨g, 3, none⟩ = some (.int .u64 f) ∧ W.cell? ⟨gl, ol, none⟩ = some (.int .i64 o)) (W'.alloc (.cells #[.int .i64 0, .int .i64 0, .int .i64 0, .int .u64 0, .int .u64 0, .bool false] 59)) ∧ (fun W : World => W.cell? ⟨g, 2, none⟩ = some (.slice (some ⟨gl, ol, none⟩) n c) ∧ W.cell? ⟨g, 3, none⟩ = some (.int .u64 f) ∧ W.cell? ⟨gl, ol, none⟩ = some (.int .i64 o)) (W'.alloc (.cells #[.int .i64 3, .int .i64 2, .int .i64 o, .int .u64 x, .int .u64 x, .bool false] 59))) := fun W' h => ⟨⟨h.cR 0 2 rfl rfl, h.cR 0 3 rfl rfl, h.rR 1 rfl 0 rfl⟩, ⟨(h.newR 59 #[.int .i64 0, .int .i64 0, .int .i64 0, .int .u64 0, .int .u64 0, .bool false]).cR 0 2 rfl rfl, (h.newR 59 #[.int .i64 0, .int .i64 0, .int .i64 0, .int .u64 0, .int .u64 0, .bool false]).cR 0 3 rfl rfl, (h.newR 59 #[.int .i64 0, .int .i64 0, .int .i64 0, .int .u64 0, .int .u64 0, .bool false]).rR 1 rfl 0 rfl⟩, ⟨(h.newR 59 #[.int .i64 3, .int .i64 2, .int .i64 o, .int .u64 x, .int .u64 x, .bool false]).cR 0 2 rfl rfl, (h.newR 59 #[.int .i64 3, .int .i64 2, .int .i64 o, .int .u64 x, .int .u64 x, .bool false]).cR 0 3 rfl rfl, (h.newR 59 #[.int .i64 3, .int .i64 2, .int .i64 o, .int .u64 x, .int .u64 x, .bool false]).rR 1 rfl 0 rfl⟩⟩
    have hkb : ∀ W', Lo w0 lo hi b rb q (upd A 2 o x) B (X ++ [bx g TLk #[.int .i64 1, .int .i64 t, .slice (some ⟨gl, ol, none⟩) n c, .int .u64 f, vo], rd .i64 (.slice (some ⟨gl, ol, none⟩) n c) ((o : Int) :: rest), own .u64 TU vo ys, bx gr 59 #[.int .i64 0, .int .i64 0, .int .i64 0, .int .u64 0, .int .u64 0, .bool false], bx W2.heap.size 59 #[.int .i64 0, .int .i64 0, .int .i64 0, .int .u64 0, .int .u64 0, .bool false]]) W' → ((fun W : World => W.cell? ⟨g, 2, none⟩ = some (.slice (some ⟨gl, ol, none⟩) n c) ∧ W.cell? ⟨g, 3, none⟩ = some (.int .u64 f) ∧ W.cell? ⟨gl, ol, none⟩ = some (.int .i64 o)) W' ∧ (fun W : World => W.cell? ⟨g, 2, none⟩ = some (.slice (some ⟨gl, ol, none⟩) n c) ∧ W.cell? ⟨g, 3, none⟩ = some (.int .u64 f) ∧ W.cell? ⟨gl, ol, none⟩ = some (.int .i64 o)) (((((((W'.setCell ⟨W2.heap.size, 0, none⟩ (.int .i64 3)).setCell ⟨W2.heap.size, 1, none⟩ (.int .i64 2)).setCell ⟨W2.heap.size, 2, none⟩ (.int .i64 o)).setCell ⟨W2.heap.size, 3, none⟩ (.int .u64 x)).setCell ⟨W2.heap.size, 4, none⟩ (.int .u64 x)).setCell ⟨W2.heap.size, 5, none⟩ (.bool false))) ∧ Mem W' W2.heap.size 59 #[.int .i64 0, .int .i64 0, .int .i64 0, .int .u64 0, .int .u64 0, .bool false]) := fun W' h => ⟨⟨h.cR 0 2 rfl rfl, h.cR 0 3 rfl rfl, h.rR 1 rfl 0 rfl⟩, ⟨(h.sixR 4 rfl (.int .i64 3) (.int .i64 2) (.int .i64 o) (.int .u64 x) (.int .u64 x) (.bool false)).cR 0 2 rfl rfl, (h.sixR 4 rfl (.int .i64 3) (.int .i64 2) (.int .i64 o) (.int .u64 x) (.int .u64 x) (.bool false)).cR 0 3 rfl rfl, (h.sixR 4 rfl (.int .i64 3) (.int .i64 2) (.int .i64 o) (.int .u64 x) (.int .u64 x) (.bool false)).rR 1 rfl 0 rfl⟩, h.memR 4 rfl⟩
    clear Lz
    go_region_held3 (fun W : World => W.cell? ⟨g, 2, none⟩ = some (.slice (some ⟨gl, ol, none⟩) n c) ∧ W.cell? ⟨g, 3, none⟩ = some (.int .u64 f) ∧ W.cell? ⟨gl, ol, none⟩ = some (.int .i64 o)) (first | (with_reducible exact hs0) | (with_reducible exact hs1) | (with_reducible assumption)) (first | (go_at_call 64; (with_reducible refine hc.mono ?_); rintro e w2' ⟨rfl, hL⟩; obtain ⟨hk1, hk2, hk3⟩ := hka _ hL) | (go_at_call 64; (with_reducible refine hc2.mono ?_); rintro e w2' ⟨rfl, hL⟩; obtain ⟨hk1, hk2, hk3⟩ := hkb _ hL; have d0 := hk3.cell 0; have d1 := hk3.cell 1; have d2 := hk3.cell 2; have d3 := hk3.cell 3; have d4 := hk3.cell 4; have d5 := hk3.cell 5; have df := hk3.frozen))
    all_goals go_wp2_with fail
    all_goals go_meet
    all_goals first
      | exact ⟨rfl, _, rfl, Lib.hid (hL.newR 59 #[.int .i64 3, .int .i64 2, .int .i64 o, .int .u64 x, .int .u64 x, .bool false])⟩
      | exact ⟨rfl, _, rfl, Lib.hid (hL.sixR 4 rfl (.int .i64 3) (.int .i64 2) (.int .i64 o) (.int .u64 x) (.int .u64 x) (.bool false))⟩
  case rest =>
    clear L2 c2_0_2 c2_0_3 r2_1
    obtain ⟨rfl, ga, rfl, L3⟩ := hcut
    have c3_4_3 : wc.cell? ⟨ga, 3, none⟩ = some (.int .u64 x) := L3.out.cR 4 3 rfl rfl
    have c3_0_3 : wc.cell? ⟨g, 3, none⟩ = some (.int .u64 f) := L3.out.cR 0 3 rfl rfl
    have hne : (x != f) = true := by simpa using he
    go_upto_region 6 with (fail)
    go_quiet (fail)
    have L4 : Hid (Lo w0 lo hi b rb q (upd A 2 o x) B (X ++ [bx g TLk #[.int .i64 1, .int .i64 t, .slice (some ⟨gl, ol, none⟩) n c, .int .u64 f, vo], rd .i64 (.slice (some ⟨gl, ol, none⟩) n c) ((o : Int) :: rest), own .u64 TU vo ys, bx gr 59 #[.int .i64 0, .int .i64 0, .int .i64 0, .int .u64 0, .int .u64 0, .bool false], bx ga 59 #[.int .i64 3, .int .i64 2, .int .i64 o, .int .u64 x, .int .u64 x, .bool false]]) (wc.drewN nq)) := Lib.hid (L3.out.drewN nq)
    obtain ⟨W4, hW⟩ : ∃ W', wc.drewN nq = W' := ⟨_, rfl⟩
    rw [hW] at L4
    first | rw [hW] | skip
    clear hW
    clear L3 c3_4_3 c3_0_3
    clear nq
    go_upto_region 7 with (fail)
    have c4_0_2 : W4.cell? ⟨g, 2, none⟩ = some (.slice (some ⟨gl, ol, none⟩) n c) := L4.out.cR 0 2 rfl rfl
    have hc := lk_look (p := some ⟨gl, ol, none⟩) (c := c) (.inr ⟨n1, rfl⟩) L4.out
    go_upto_region 8 with ((go_at_call 35; refine hc.mono ?_; rintro e w1 ⟨rfl, hL⟩))
    have L5 : Hid (Lo w0 lo hi b rb q (upd A 2 o x) B (X ++ [bx g TLk #[.int .i64 0, .int .i64 t, .slice (some ⟨gl, ol, none⟩) n c, .int .u64 f, vo], rd .i64 (.slice (some ⟨gl, ol, none⟩) n c) ((o : Int) :: rest), own .u64 TU vo ys, bx gr 59 #[.int .i64 0, .int .i64 0, .int .i64 0, .int .u64 0, .int .u64 0, .bool false], bx ga 59 #[.int .i64 3, .int .i64 2, .int .i64 o, .int .u64 x, .int .u64 x, .bool false]]) w1) := Lib.hid hL
    clear hc hL L4 c4_0_2
    have c5_3_0 : w1.cell? ⟨gr, 0, none⟩ = some (.int .i64 0) := L5.out.cR 3 0 rfl rfl
    have z5_3_0 : w1.frozen? ⟨gr, 0, none⟩ = false := L5.out.zR 3 0 rfl
    have c5_4_0 : w1.cell? ⟨ga, 0, none⟩ = some (.int .i64 3) := L5.out.cR 4 0 rfl rfl
    have c5_3_1 : w1.cell? ⟨gr, 1, none⟩ = some (.int .i64 0) := L5.out.cR 3 1 rfl rfl
    have z5_3_1 : w1.frozen? ⟨gr, 1, none⟩ = false := L5.out.zR 3 1 rfl
    have c5_4_1 : w1.cell? ⟨ga, 1, none⟩ = some (.int .i64 2) := L5.out.cR 4 1 rfl rfl
    have c5_3_2 : w1.cell? ⟨gr, 2, none⟩ = some (.int .i64 0) := L5.out.cR 3 2 rfl rfl
    have z5_3_2 : w1.frozen? ⟨gr, 2, none⟩ = false := L5.out.zR 3 2 rfl
    have c5_4_2 : w1.cell? ⟨ga, 2, none⟩ = some (.int .i64 o) := L5.out.cR 4 2 rfl rfl
    have c5_3_3 : w1.cell? ⟨gr, 3, none⟩ = some (.int .u64 0) := L5.out.cR 3 3 rfl rfl
    have z5_3_3 : w1.frozen? ⟨gr, 3, none⟩ = false := L5.out.zR 3 3 rfl
    have c5_4_3 : w1.cell? ⟨ga, 3, none⟩ = some (.int .u64 x) := L5.out.cR 4 3 rfl rfl
    have c5_3_4 : w1.cell? ⟨gr, 4, none⟩ = some (.int .u64 0) := L5.out.cR 3 4 rfl rfl
    have z5_3_4 : w1.frozen? ⟨gr, 4, none⟩ = false := L5.out.zR 3 4 rfl
    have c5_4_4 : w1.cell? ⟨ga, 4, none⟩ = some (.int .u64 x) := L5.out.cR 4 4 rfl rfl
    have c5_3_5 : w1.cell? ⟨gr, 5, none⟩ = some (.bool false) := L5.out.cR 3 5 rfl rfl
    have z5_3_5 : w1.frozen? ⟨gr, 5, none⟩ = false := L5.out.zR 3 5 rfl
    have c5_4_5 : w1.cell? ⟨ga, 5, none⟩ = some (.bool false) := L5.out.cR 4 5 rfl rfl
    go_wp2
    have L6 : Hid (Lo w0 lo hi b rb q (upd A 2 o x) B (X ++ [bx g TLk #[.int .i64 0, .int .i64 t, .slice (some ⟨gl, ol, none⟩) n c, .int .u64 f, vo], rd .i64 (.slice (some ⟨gl, ol, none⟩) n c) ((o : Int) :: rest), own .u64 TU vo ys, bx gr 59 #[.int .i64 3, .int .i64 2, .int .i64 o, .int .u64 x, .int .u64 x, .bool false], bx ga 59 #[.int .i64 3, .int .i64 2, .int .i64 o, .int .u64 x, .int .u64 x, .bool false]]) (((((((w1.setCell ⟨gr, 0, none⟩ (.int .i64 3)).setCell ⟨gr, 1, none⟩ (.int .i64 2)).setCell ⟨gr, 2, none⟩ (.int .i64 o)).setCell ⟨gr, 3, none⟩ (.int .u64 x)).setCell ⟨gr, 4, none⟩ (.int .u64 x)).setCell ⟨gr, 5, none⟩ (.bool false)))) := Lib.hid (L5.out.sixR 3 rfl (.int .i64 3) (.int .i64 2) (.int .i64 o) (.int .u64 x) (.int .u64 x) (.bool false))
    obtain ⟨V, hV⟩ : ∃ V, ((((((w1.setCell ⟨gr, 0, none⟩ (.int .i64 3)).setCell ⟨gr, 1, none⟩ (.int .i64 2)).setCell ⟨gr, 2, none⟩ (.int .i64 o)).setCell ⟨gr, 3, none⟩ (.int .u64 x)).setCell ⟨gr, 4, none⟩ (.int .u64 x)).setCell ⟨gr, 5, none⟩ (.bool false)) = V := ⟨_, rfl⟩
    rw [hV] at L6 ⊢
    clear hV
    have hF : Lo w0 lo hi b rb q (upd A 2 o x) B (X ++ [bx g TLk #[.int .i64 0, .int .i64 t, .slice (some ⟨gl, ol, none⟩) n c, .int .u64 f, vo], rd .i64 (.slice (some ⟨gl, ol, none⟩) n c) ((o : Int) :: rest), own .u64 TU vo ys]) V := Lo.dropR (rs2 := [bx gr 59 #[.int .i64 3, .int .i64 2, .int .i64 o, .int .u64 x, .int .u64 x, .bool false], bx ga 59 #[.int .i64 3, .int .i64 2, .int .i64 o, .int .u64 x, .int .u64 x, .bool false]]) L6.out
    refine bodyPost_ret (v := .agg #[.int .i64 3, .int .i64 2, .int .i64 o, .int .u64 x, .int .u64 x, .bool false]) (results_cell_row rfl _ _ gr 59 #[.int .i64 3, .int .i64 2, .int .i64 o, .int .u64 x, .int .u64 x, .bool false] (0, 0) _ (by simp) (L6.out.memR 3 rfl) Tryz.underlying59 rfl (by kernel_rfl)) rfl ?_
    exact ⟨rfl, hF⟩

theorem lk_swap_no {w0 w : World} {lo hi b rb : Nat} {q : Cfg} {A B : Int → List Int} {X : List Ob} {g gl ol n c : Nat} {t f : Int} {vo : Value} {rest ys : List Int} {o : Nat} (hl : o < (A 2).length) {x : Int} (hx : (A 2).getD o 0 = x) (x0 : 0 ≤ x) (x1 : x ≤ 18446744073709551615) (n1 : 1 ≤ n) (nc : n ≤ c) (hys : ys.length ≤ 300000) (f0 : 0 ≤ f) (f1 : f ≤ 1000000) (t0 : 0 ≤ t) (t1 : t < 16) {v : Int} (hv : f / 64 * 64 + t + 1 = v) (he : ¬ x = f) (h : Lo w0 lo hi b rb q A B (X ++ [bx g TLk #[.int .i64 1, .int .i64 t, .slice (some ⟨gl, ol, none⟩) n c, .int .u64 f, vo], rd .i64 (.slice (some ⟨gl, ol, none⟩) n c) ((o : Int) :: rest), own .u64 TU vo ys]) w) : Calls Tryz.prog 18 #[.pointer (some ⟨g, 0, none⟩), .pointer (some ⟨b, 0, none⟩)] w fun e w' => e = .returned (accV 3 2 o x x false) ∧ Lo w0 lo hi b rb q (upd A 2 o x) B (X ++ [bx g TLk #[.int .i64 0, .int .i64 t, .slice (some ⟨gl, ol, none⟩) n c, .int .u64 f, vo], rd .i64 (.slice (some ⟨gl, ol, none⟩) n c) ((o : Int) :: rest), own .u64 TU vo ys]) w' := by
  have L0 := Lib.hid h
  clear h
  have hnI : (0 : Int) < (n : Int) := by omega
  have hnN : 0 < n := n1
  go_enter Tryz.func18, Tryz.ntmps18
  go_upto_region 1 with (fail)
  have L1 := Lib.hid (L0.out.newR 59 #[.int .i64 0, .int .i64 0, .int .i64 0, .int .u64 0, .int .u64 0, .bool false])
  obtain ⟨gr, hn⟩ : ∃ gr, w.heap.size = gr := ⟨_, rfl⟩
  rw [hn] at L1
  first | rw [hn] | skip
  clear hn
  obtain ⟨W1, hW⟩ : ∃ W', w.alloc (.cells #[.int .i64 0, .int .i64 0, .int .i64 0, .int .u64 0, .int .u64 0, .bool false] 59) = W' := ⟨_, rfl⟩
  rw [hW] at L1
  first | rw [hW] | skip
  clear hW
  have L1 : Hid (Lo w0 lo hi b rb q A B (X ++ [bx g TLk #[.int .i64 1, .int .i64 t, .slice (some ⟨gl, ol, none⟩) n c, .int .u64 f, vo], rd .i64 (.slice (some ⟨gl, ol, none⟩) n c) ((o : Int) :: rest), own .u64 TU vo ys, bx gr 59 #[.int .i64 0, .int .i64 0, .int .i64 0, .int .u64 0, .int .u64 0, .bool false]]) W1) := L1
  clear L0
  have c1_0_0 : W1.cell? ⟨g, 0, none⟩ = some (.int .i64 1) := L1.out.cR 0 0 rfl rfl
  have hq := L1.out.inX (rs := [bx g TLk #[.int .i64 1, .int .i64 t, .slice (some ⟨gl, ol, none⟩) n c, .int .u64 f, vo], rd .i64 (.slice (some ⟨gl, ol, none⟩) n c) ((o : Int) :: rest), own .u64 TU vo ys]) (rs2 := [bx gr 59 #[.int .i64 0, .int .i64 0, .int .i64 0, .int .u64 0, .int .u64 0, .bool false]])
  have hc := lk_take_no hl hx x0 x1 n1 nc hys f0 f1 t0 t1 hv he hq
  clear hq
  go_wp2_with (go_at_call 40; (with_reducible refine hc.mono ?_); rintro e w9 ⟨rfl, hL⟩; have hL2 := Lo.outX (rs := [bx g TLk #[.int .i64 0, .int .i64 t, .slice (some ⟨gl, ol, none⟩) n c, .int .u64 f, vo], rd .i64 (.slice (some ⟨gl, ol, none⟩) n c) ((o : Int) :: rest), own .u64 TU vo ys]) hL; have r0_0 := hL2.cR 3 0 rfl rfl; have r0_1 := hL2.cR 3 1 rfl rfl; have r0_2 := hL2.cR 3 2 rfl rfl; have r0_3 := hL2.cR 3 3 rfl rfl; have r0_4 := hL2.cR 3 4 rfl rfl; have r0_5 := hL2.cR 3 5 rfl rfl; have r0_z := Mem.frozen (hL2.memR 3 rfl))
  have L2 : Hid (Lo w0 lo hi b rb q (upd A 2 o x) B (X ++ [bx g TLk #[.int .i64 0, .int .i64 t, .slice (some ⟨gl, ol, none⟩) n c, .int .u64 f, vo], rd .i64 (.slice (some ⟨gl, ol, none⟩) n c) ((o : Int) :: rest), own .u64 TU vo ys, bx gr 59 #[.int .i64 0, .int .i64 0, .int .i64 0, .int .u64 0, .int .u64 0, .bool false]]) w9) := Lib.hid hL2
  clear hc hL hL2 r0_0 r0_1 r0_2 r0_3 r0_4 r0_5 r0_z L1
  have L3 : Hid (Lo w0 lo hi b rb q (upd A 2 o x) B (X ++ [bx g TLk #[.int .i64 0, .int .i64 t, .slice (some ⟨gl, ol, none⟩) n c, .int .u64 f, vo], rd .i64 (.slice (some ⟨gl, ol, none⟩) n c) ((o : Int) :: rest), own .u64 TU vo ys, bx gr 59 #[.int .i64 3, .int .i64 2, .int .i64 o, .int .u64 x, .int .u64 x, .bool false]]) (((((((w9.setCell ⟨gr, 0, none⟩ (.int .i64 3)).setCell ⟨gr, 1, none⟩ (.int .i64 2)).setCell ⟨gr, 2, none⟩ (.int .i64 o)).setCell ⟨gr, 3, none⟩ (.int .u64 x)).setCell ⟨gr, 4, none⟩ (.int .u64 x)).setCell ⟨gr, 5, none⟩ (.bool false)))) := Lib.hid (L2.out.sixR 3 rfl (.int .i64 3) (.int .i64 2) (.int .i64 o) (.int .u64 x) (.int .u64 x) (.bool false))
  obtain ⟨V, hV⟩ : ∃ V, ((((((w9.setCell ⟨gr, 0, none⟩ (.int .i64 3)).setCell ⟨gr, 1, none⟩ (.int .i64 2)).setCell ⟨gr, 2, none⟩ (.int .i64 o)).setCell ⟨gr, 3, none⟩ (.int .u64 x)).setCell ⟨gr, 4, none⟩ (.int .u64 x)).setCell ⟨gr, 5, none⟩ (.bool false)) = V := ⟨_, rfl⟩
  rw [hV] at L3 ⊢
  clear hV
  have hF : Lo w0 lo hi b rb q (upd A 2 o x) B (X ++ [bx g TLk #[.int .i64 0, .int .i64 t, .slice (some ⟨gl, ol, none⟩) n c, .int .u64 f, vo], rd .i64 (.slice (some ⟨gl, ol, none⟩) n c) ((o : Int) :: rest), own .u64 TU vo ys]) V := Lo.dropR (rs2 := [bx gr 59 #[.int .i64 3, .int .i64 2, .int .i64 o, .int .u64 x, .int .u64 x, .bool false]]) L3.out
  refine bodyPost_ret (v := .agg #[.int .i64 3, .int .i64 2, .int .i64 o, .int .u64 x, .int .u64 x, .bool false]) (results_cell_row rfl _ _ gr 59 #[.int .i64 3, .int .i64 2, .int .i64 o, .int .u64 x, .int .u64 x, .bool false] (0, 0) _ (by simp) (L3.out.memR 3 rfl) Tryz.underlying59 rfl (by kernel_rfl)) rfl ?_
  exact ⟨rfl, hF⟩

theorem lk_isdone {w : World} {g : Nat} {st t f : Int} {vl vo : Value} (M : Mem w g TLk #[.int .i64 st, .int .i64 t, vl, .int .u64 f, vo]) : Calls Tryz.prog 14 #[.pointer (some ⟨g, 0, none⟩)] w fun e w' => e = .returned (.bool (st == 2)) ∧ w = w' := by
  have c0 := M.cell 0
  simp at c0
  clear M
  go_enter Tryz.func14, Tryz.ntmps14
  go_wp2
  go_ret
  exact ⟨rfl, rfl⟩
theorem lk_old {w : World} {g : Nat} {st t f : Int} {vl vo : Value} {ys : List Int} (M : Mem w g TLk #[.int .i64 st, .int .i64 t, vl, .int .u64 f, vo]) (R : RdR .u64 w vo ys) (hl : ys.length ≤ 100000) : Calls Tryz.prog 17 #[.pointer (some ⟨g, 0, none⟩)] w fun e w' => ∃ Aa c, e = .returned (.slice Aa ys.length c) ∧ w'.ownsRow w.heap.size TU 1 (.slice Aa ys.length c) ys.length (ys.map (Value.int .u64)) ∧ Below w.heap.size w w' := by
  have c0 := M.cell 4
  simp at c0
  have hc := c_word w vo ys R.slice hl
  obtain ⟨⟨p, cap, rfl, _⟩, _⟩ := R
  clear M
  go_enter Tryz.func17, Tryz.ntmps17
  go_wp2_with (go_at_call 37; (with_reducible refine hc.mono ?_); rintro e w1 ⟨Aa, c, rfl, ho, hb⟩)
  have HH := Lib.hid (And.intro ho hb)
  clear ho hb hc
  go_ret
  exact ⟨Aa, c, rfl, HH.out.1, HH.out.2⟩
theorem lk_new {w0 w : World} {lo hi b rb : Nat} {q : Cfg} {A B : Int → List Int} {X : List Ob} (h : Lo w0 lo hi b rb q A B X w) (t : Int) (v : Value) (xs : List Int) (hr : RdR .i64 w v xs) (hl : xs.length ≤ 100000) {st : Int} (hst : ((srt xs).length = 0 ∧ st = 2) ∨ (0 < (srt xs).length ∧ st = 0)) : Calls Tryz.prog 11 #[.int .i64 t, v] w fun e w' => ∃ g vl, e = .returned (.pointer (some ⟨g, 0, none⟩)) ∧ Lo w0 lo hi b rb q A B (X ++ [bx g TLk #[.int .i64 st, .int .i64 t, vl, .int .u64 0, .slice none 0 0], rd .i64 vl (srt xs), own .u64 TU (.slice none 0 0) []]) w' := by
  have L1 := Lib.hid (h.new TLk #[.int .i64 0, .int .i64 t, .slice none 0 0, .int .u64 0, .slice none 0 0])
  have hr1 := Lib.hid (rdr_below hr (below_new w (.cells #[.int .i64 0, .int .i64 t, .slice none 0 0, .int .u64 0, .slice none 0 0] TLk)))
  obtain ⟨⟨p, cap, rfl, _⟩, _⟩ := hr
  clear h
  go_enter Tryz.func11, Tryz.ntmps11
  go_upto_region 2 with (fail)
  obtain ⟨g, hn⟩ : ∃ g, w.heap.size = g := ⟨_, rfl⟩
  rw [hn] at L1
  first | rw [hn] | skip
  clear hn
  obtain ⟨W1, hW⟩ : ∃ W', w.alloc (.cells #[.int .i64 0, .int .i64 t, .slice none 0 0, .int .u64 0, .slice none 0 0] TLk) = W' := ⟨_, rfl⟩
  rw [hW] at L1 hr1
  first | rw [hW] | skip
  clear hW
  have hc := k_sorted W1 (.slice p xs.length cap) xs hr1.out.slice hl
  have hk : ∀ w2 v2, W1.heap.size ≤ W1.heap.size → w2.ownsRow W1.heap.size TI 1 v2 (srt xs).length ((srt xs).map (Value.int .i64)) → Below W1.heap.size W1 w2 → (∃ p2 c2, v2 = .slice p2 (srt xs).length c2) ∧ Lo w0 lo hi b rb q A B (X ++ [bx g TLk #[.int .i64 0, .int .i64 t, .slice none 0 0, .int .u64 0, .slice none 0 0], rd .i64 v2 (srt xs), own .u64 TU (.slice none 0 0) []]) w2 := fun w2 v2 _ ho hb => by
    obtain ⟨p2, c2, rfl, _⟩ := own_slice ho
    have h2 : Lo w0 lo hi b rb q A B (X ++ [bx g TLk #[.int .i64 0, .int .i64 t, .slice none 0 0, .int .u64 0, .slice none 0 0], rd .i64 (.slice p2 (srt xs).length c2) (srt xs)]) w2 := Lo.addR (rs := [bx g TLk #[.int .i64 0, .int .i64 t, .slice none 0 0, .int .u64 0, .slice none 0 0]]) L1.out hb (rdr_own ho) fun x hx => (World.ownsRow.lt ho x (blk_mem hx)).1
    exact ⟨⟨p2, c2, rfl⟩, Lo.addR (rs := [bx g TLk #[.int .i64 0, .int .i64 t, .slice none 0 0, .int .u64 0, .slice none 0 0], rd .i64 (.slice p2 (srt xs).length c2) (srt xs)]) h2 (Below.refl _ _) (World.ownsRow_nil _ _ _ _) fun x hx => by simp [own, Value.ownBlock] at hx⟩
  have HK := Lib.hid hk
  clear hk hr1 L1
  go_upto_region 3 with (first
    | (go_at_call 29; (with_reducible refine hc.mono ?_); rintro e w2 ⟨v2, rfl, ho, hb⟩; obtain ⟨⟨p2, c2, e2⟩, hL⟩ := HK.out _ _ (Nat.le_refl _) ho hb; subst e2; have hlk := lk_look (X := X) (p := p2) (c := c2) hst hL; clear ho hb hL)
    | (go_at_call 35; (with_reducible refine hlk.mono ?_); rintro e w3 ⟨rfl, hL3⟩))
  have HL3 := Lib.hid hL3
  clear hL3 HK hc hlk
  go_wp2
  go_ret
  exact ⟨g, _, rfl, HL3.out⟩

theorem re_done {w : World} {g : Nat} {k : Int} {p1 : Option Addr} {n c1 : Nat} {v2 : Value} (M : Mem w g TRe #[.slice p1 n c1, v2, .int .i64 k]) : Calls Tryz.prog 25 #[.pointer (some ⟨g, 0, none⟩)] w fun e w' => e = .returned (.bool (k == (n : Int))) ∧ ∃ n, w' = w.drewN n := by
  have c0 := M.cell 0
  have c2 := M.cell 2
  simp at c0 c2
  clear M
  go_enter Tryz.func25, Tryz.ntmps25
  go_upto_region 1 with (fail)
  go_quiet (fail)
  go_wp2
  go_ret
  exact ⟨rfl, nq, rfl⟩
/-- The slice cut behind all its elements. -/
theorem all_run {T ts : TypeId} (hu : Tryz.prog.underlying ts = some (.slice T)) (hz : ∀ wx : World, (sizeOf (Tryz.prog.elem ts)).run Tryz.prog wx = .ok 1 wx) (p : Option Addr) (n c : Nat) (h2 : n ≤ c) (wx : World) : (Instr.slice ts (.slice p n c) none (some (.int .i64 n)) none).run Tryz.prog wx = .ok (.slice p n c) wx := by
  have he : Tryz.prog.elem ts = T := by simp [Program.elem, hu]
  rw [run_slice_h (P := Tryz.prog) (w := wx) ts p n c (by rw [he]; exact hu) .i64 n (by omega) (by omega), hz wx]
  simp only [Result.andThen, sliced]
  cases p <;> simp [Addr.add]
theorem re_new {w0 w : World} {lo hi b rb : Nat} {q : Cfg} {A B : Int → List Int} {X : List Ob} (h : Lo w0 lo hi b rb q A B X w) (v1 v2 : Value) (xs ys : List Int) (hr1 : RdR .i64 w v1 xs) (hr2 : RdR .u64 w v2 ys) (hlen : xs.length = ys.length) (hl : xs.length ≤ 100000) : Calls Tryz.prog 21 #[v1, v2] w fun e w' => ∃ g A1 c1 A2 c2, e = .returned (.pointer (some ⟨g, 0, none⟩)) ∧ Lo w0 lo hi b rb q A B (X ++ [bx g TRe #[.slice A1 xs.length c1, .slice A2 ys.length c2, .int .i64 0], rd .i64 (.slice A1 xs.length c1) xs, rd .u64 (.slice A2 ys.length c2) ys]) w' := by
  have HR1 := Lib.hid hr1
  have HR2 := Lib.hid hr2
  have L0 := Lib.hid h
  obtain ⟨⟨p1, cap1, rfl, h11, _⟩, _⟩ := hr1
  obtain ⟨⟨p2, cap2, rfl, h21, _⟩, _⟩ := hr2
  have hs1 := all_run (ts := 23) Tryz.underlying23 (fun wx => by kernel_rfl) p1 xs.length cap1 h11
  have hs2 := all_run (ts := 54) Tryz.underlying54 (fun wx => by kernel_rfl) p2 ys.length cap2 h21
  have hmin : min (xs.length : Int) (ys.length : Int) = xs.length := by omega
  have hmin2 : (min (xs.length : Int) (xs.length : Int)) = xs.length := by omega
  rw [← hlen] at hs2
  have e2 : (Value.slice p2 ys.length cap2) = .slice p2 xs.length cap2 := by rw [hlen]
  rw [e2] at HR2 ⊢
  have HX := Lib.hid hlen
  clear h h11 h21 e2 hmin hlen
  go_enter Tryz.func21, Tryz.ntmps21
  go_upto_region 2 with (fail)
  have hc1 := c_int w.drew (.slice p1 xs.length cap1) xs (RdR.keep HR1.out fun _ _ => rfl).slice hl
  have hc2 : ∀ w1, Below w.drew.heap.size w.drew w1 → Calls _ _ _ _ _ := fun w1 hb => c_word w1 (.slice p2 xs.length cap2) ys (rdr_below (w := w.drew) (RdR.keep HR2.out fun _ _ => rfl) hb).slice (by rw [← HX.out]; exact hl)
  go_region_held3 (fun W : World => True) (first | trivial) (first
    | (go_at_call 47; (with_reducible refine hc1.mono ?_); rintro e w1 ⟨A1, c1, rfl, ho1, hb1⟩; have hc2 := hc2 _ hb1)
    | (go_at_call 37; (with_reducible refine hc2.mono ?_); rintro e w2 ⟨A2, c2, rfl, ho2, hb2⟩))
  have L2 := Lib.hid (Lo.addR (rs := []) (by rw [List.append_nil]; exact L0.out.drew) hb1 (o := rd .i64 (.slice A1 xs.length c1) xs) (rdr_own ho1) fun x hx => (World.ownsRow.lt ho1 x (blk_mem hx)).1)
  have L3 := Lib.hid (Lo.addR (rs := [rd .i64 (.slice A1 xs.length c1) xs]) L2.out hb2 (o := rd .u64 (.slice A2 ys.length c2) ys) (rdr_own ho2) fun x hx => (World.ownsRow.lt ho2 x (blk_mem hx)).1)
  clear ho1 hb1 ho2 hb2 hc1 hc2 L0 L2 HR1 HR2 hs1 hs2
  have L4 := Lib.hid (L3.out.newR TRe #[.slice A1 xs.length c1, .slice A2 ys.length c2, .int .i64 0])
  go_wp2
  go_ret
  refine ⟨_, A1, c1, A2, c2, rfl, L4.out.perm ?_⟩
  refine List.Perm.append_left _ ?_
  exact (List.perm_append_comm (l₁ := [rd .i64 (.slice A1 xs.length c1) xs, rd .u64 (.slice A2 ys.length c2) ys]) (l₂ := [bx w2.heap.size TRe #[.slice A1 xs.length c1, .slice A2 ys.length c2, .int .i64 0]]))

theorem re_over {w0 w : World} {lo hi b rb : Nat} {q : Cfg} {A B : Int → List Int} {X : List Ob} {g n c1 c2 k : Nat} {p1 p2 : Option Addr} {xs ys : List Int} (h : Lo w0 lo hi b rb q A B (X ++ [bx g TRe #[.slice p1 n c1, .slice p2 n c2, .int .i64 n], rd .i64 (.slice p1 n c1) xs, rd .u64 (.slice p2 n c2) ys]) w) : Calls Tryz.prog 23 #[.pointer (some ⟨g, 0, none⟩), .pointer (some ⟨b, 0, none⟩)] w fun e w' => e = .returned (accV 0 0 0 0 0 false) ∧ Lo w0 lo hi b rb q A B (X ++ [bx g TRe #[.slice p1 n c1, .slice p2 n c2, .int .i64 n], rd .i64 (.slice p1 n c1) xs, rd .u64 (.slice p2 n c2) ys]) w' := by
  have L0 := Lib.hid h
  clear h
  go_enter Tryz.func23, Tryz.ntmps23
  go_upto_region 1 with (fail)
  have L1 := Lib.hid (L0.out.newR 59 #[.int .i64 0, .int .i64 0, .int .i64 0, .int .u64 0, .int .u64 0, .bool false])
  obtain ⟨gr, hn⟩ : ∃ gr, w.heap.size = gr := ⟨_, rfl⟩
  rw [hn] at L1
  first | rw [hn] | skip
  clear hn
  obtain ⟨W1, hW⟩ : ∃ W', w.alloc (.cells #[.int .i64 0, .int .i64 0, .int .i64 0, .int .u64 0, .int .u64 0, .bool false] 59) = W' := ⟨_, rfl⟩
  rw [hW] at L1
  first | rw [hW] | skip
  clear hW
  have L1 : Hid (Lo w0 lo hi b rb q A B (X ++ [bx g TRe #[.slice p1 n c1, .slice p2 n c2, .int .i64 n], rd .i64 (.slice p1 n c1) xs, rd .u64 (.slice p2 n c2) ys, bx gr 59 #[.int .i64 0, .int .i64 0, .int .i64 0, .int .u64 0, .int .u64 0, .bool false]]) W1) := L1
  clear L0
  have hdn := re_done (L1.out.memR 0 rfl)
  rw [show ((n : Int) == (n : Int)) = true by simp] at hdn
  go_upto_region 2 with ((go_at_call 25; (with_reducible refine hdn.mono ?_); rintro e w9 ⟨rfl, nq, rfl⟩))
  clear hdn
  have L2 : Hid (Lo w0 lo hi b rb q A B (X ++ [bx g TRe #[.slice p1 n c1, .slice p2 n c2, .int .i64 n], rd .i64 (.slice p1 n c1) xs, rd .u64 (.slice p2 n c2) ys, bx gr 59 #[.int .i64 0, .int .i64 0, .int .i64 0, .int .u64 0, .int .u64 0, .bool false]]) (W1.drewN nq)) := Lib.hid (L1.out.drewN nq)
  obtain ⟨W2, hW⟩ : ∃ W', W1.drewN nq = W' := ⟨_, rfl⟩
  rw [hW] at L2
  first | rw [hW] | skip
  clear hW
  clear L1
  clear nq
  have c2_3_0 : W2.cell? ⟨gr, 0, none⟩ = some (.int .i64 0) := L2.out.cR 3 0 rfl rfl
  have z2_3_0 : W2.frozen? ⟨gr, 0, none⟩ = false := L2.out.zR 3 0 rfl
  have c2_3_1 : W2.cell? ⟨gr, 1, none⟩ = some (.int .i64 0) := L2.out.cR 3 1 rfl rfl
  have z2_3_1 : W2.frozen? ⟨gr, 1, none⟩ = false := L2.out.zR 3 1 rfl
  have c2_3_2 : W2.cell? ⟨gr, 2, none⟩ = some (.int .i64 0) := L2.out.cR 3 2 rfl rfl
  have z2_3_2 : W2.frozen? ⟨gr, 2, none⟩ = false := L2.out.zR 3 2 rfl
  have c2_3_3 : W2.cell? ⟨gr, 3, none⟩ = some (.int .u64 0) := L2.out.cR 3 3 rfl rfl
  have z2_3_3 : W2.frozen? ⟨gr, 3, none⟩ = false := L2.out.zR 3 3 rfl
  have c2_3_4 : W2.cell? ⟨gr, 4, none⟩ = some (.int .u64 0) := L2.out.cR 3 4 rfl rfl
  have z2_3_4 : W2.frozen? ⟨gr, 4, none⟩ = false := L2.out.zR 3 4 rfl
  have c2_3_5 : W2.cell? ⟨gr, 5, none⟩ = some (.bool false) := L2.out.cR 3 5 rfl rfl
  have z2_3_5 : W2.frozen? ⟨gr, 5, none⟩ = false := L2.out.zR 3 5 rfl
  go_wp2
  have L3 : Hid (Lo w0 lo hi b rb q A B (X ++ [bx g TRe #[.slice p1 n c1, .slice p2 n c2, .int .i64 n], rd .i64 (.slice p1 n c1) xs, rd .u64 (.slice p2 n c2) ys, bx gr 59 #[.int .i64 0, .int .i64 0, .int .i64 0, .int .u64 0, .int .u64 0, .bool false]]) (((((((W2.setCell ⟨gr, 0, none⟩ (.int .i64 0)).setCell ⟨gr, 1, none⟩ (.int .i64 0)).setCell ⟨gr, 2, none⟩ (.int .i64 0)).setCell ⟨gr, 3, none⟩ (.int .u64 0)).setCell ⟨gr, 4, none⟩ (.int .u64 0)).setCell ⟨gr, 5, none⟩ (.bool false)))) := Lib.hid (L2.out.sixR 3 rfl (.int .i64 0) (.int .i64 0) (.int .i64 0) (.int .u64 0) (.int .u64 0) (.bool false))
  obtain ⟨V, hV⟩ : ∃ V, ((((((W2.setCell ⟨gr, 0, none⟩ (.int .i64 0)).setCell ⟨gr, 1, none⟩ (.int .i64 0)).setCell ⟨gr, 2, none⟩ (.int .i64 0)).setCell ⟨gr, 3, none⟩ (.int .u64 0)).setCell ⟨gr, 4, none⟩ (.int .u64 0)).setCell ⟨gr, 5, none⟩ (.bool false)) = V := ⟨_, rfl⟩
  rw [hV] at L3 ⊢
  clear hV
  have hF : Lo w0 lo hi b rb q A B (X ++ [bx g TRe #[.slice p1 n c1, .slice p2 n c2, .int .i64 n], rd .i64 (.slice p1 n c1) xs, rd .u64 (.slice p2 n c2) ys]) V := Lo.dropR (rs2 := [bx gr 59 #[.int .i64 0, .int .i64 0, .int .i64 0, .int .u64 0, .int .u64 0, .bool false]]) L3.out
  refine bodyPost_ret (v := .agg #[.int .i64 0, .int .i64 0, .int .i64 0, .int .u64 0, .int .u64 0, .bool false]) (results_cell_row rfl _ _ gr 59 #[.int .i64 0, .int .i64 0, .int .i64 0, .int .u64 0, .int .u64 0, .bool false] (0, 0) _ (by simp) (L3.out.memR 3 rfl) Tryz.underlying59 rfl (by kernel_rfl)) rfl ?_
  exact ⟨rfl, hF⟩

theorem re_store {w0 w : World} {lo hi b rb : Nat} {q : Cfg} {A B : Int → List Int} {X : List Ob} {g n c1 c2 k ga1 o1 ga2 o2 : Nat} {xs ys : List Int} {o : Nat} (hl : o < (A 2).length) {x v : Int} (hx : (A 2).getD o 0 = x) (hk : k < n) (hk1 : k < 1000000) (hxo : xs[k]? = some (o : Int)) (hyv : ys[k]? = some v) (h : Lo w0 lo hi b rb q A B (X ++ [bx g TRe #[.slice (some ⟨ga1, o1, none⟩) n c1, .slice (some ⟨ga2, o2, none⟩) n c2, .int .i64 k], rd .i64 (.slice (some ⟨ga1, o1, none⟩) n c1) xs, rd .u64 (.slice (some ⟨ga2, o2, none⟩) n c2) ys]) w) : Calls Tryz.prog 23 #[.pointer (some ⟨g, 0, none⟩), .pointer (some ⟨b, 0, none⟩)] w fun e w' => e = .returned (accV 2 2 o x v true) ∧ Lo w0 lo hi b rb q (upd A 2 o v) B (X ++ [bx g TRe #[.slice (some ⟨ga1, o1, none⟩) n c1, .slice (some ⟨ga2, o2, none⟩) n c2, .int .i64 ((k : Int) + 1)], rd .i64 (.slice (some ⟨ga1, o1, none⟩) n c1) xs, rd .u64 (.slice (some ⟨ga2, o2, none⟩) n c2) ys]) w' := by
  have L0 := Lib.hid h
  clear h
  have hkI : (k : Int) < n := by omega
  have hk0 : (0 : Int) ≤ k := by omega
  have hw1 : IntKind.i64.wrap ((k : Int) + 1) = (k : Int) + 1 := IntWalk.i64_in _ (by omega)
  go_enter Tryz.func23, Tryz.ntmps23
  go_upto_region 1 with (fail)
  have L1 := Lib.hid (L0.out.newR 59 #[.int .i64 0, .int .i64 0, .int .i64 0, .int .u64 0, .int .u64 0, .bool false])
  obtain ⟨gr, hn⟩ : ∃ gr, w.heap.size = gr := ⟨_, rfl⟩
  rw [hn] at L1
  first | rw [hn] | skip
  clear hn
  obtain ⟨W1, hW⟩ : ∃ W', w.alloc (.cells #[.int .i64 0, .int .i64 0, .int .i64 0, .int .u64 0, .int .u64 0, .bool false] 59) = W' := ⟨_, rfl⟩
  rw [hW] at L1
  first | rw [hW] | skip
  clear hW
  have L1 : Hid (Lo w0 lo hi b rb q A B (X ++ [bx g TRe #[.slice (some ⟨ga1, o1, none⟩) n c1, .slice (some ⟨ga2, o2, none⟩) n c2, .int .i64 k], rd .i64 (.slice (some ⟨ga1, o1, none⟩) n c1) xs, rd .u64 (.slice (some ⟨ga2, o2, none⟩) n c2) ys, bx gr 59 #[.int .i64 0, .int .i64 0, .int .i64 0, .int .u64 0, .int .u64 0, .bool false]]) W1) := L1
  clear L0
  have hdn := re_done (L1.out.memR 0 rfl)
  rw [show ((k : Int) == (n : Int)) = false by simp; omega] at hdn
  go_upto_region 3 with ((go_at_call 25; (with_reducible refine hdn.mono ?_); rintro e w9 ⟨rfl, nq, rfl⟩))
  clear hdn
  have L2 : Hid (Lo w0 lo hi b rb q A B (X ++ [bx g TRe #[.slice (some ⟨ga1, o1, none⟩) n c1, .slice (some ⟨ga2, o2, none⟩) n c2, .int .i64 k], rd .i64 (.slice (some ⟨ga1, o1, none⟩) n c1) xs, rd .u64 (.slice (some ⟨ga2, o2, none⟩) n c2) ys, bx gr 59 #[.int .i64 0, .int .i64 0, .int .i64 0, .int .u64 0, .int .u64 0, .bool false]]) (W1.drewN nq)) := Lib.hid (L1.out.drewN nq)
  obtain ⟨W2, hW⟩ : ∃ W', W1.drewN nq = W' := ⟨_, rfl⟩
  rw [hW] at L2
  first | rw [hW] | skip
  clear hW
  clear L1
  clear nq
  have c2_0_0 : W2.cell? ⟨g, 0, none⟩ = some (.slice (some ⟨ga1, o1, none⟩) n c1) := L2.out.cR 0 0 rfl rfl
  have c2_0_1 : W2.cell? ⟨g, 1, none⟩ = some (.slice (some ⟨ga2, o2, none⟩) n c2) := L2.out.cR 0 1 rfl rfl
  have c2_0_2 : W2.cell? ⟨g, 2, none⟩ = some (.int .i64 k) := L2.out.cR 0 2 rfl rfl
  have ra : W2.cell? ⟨ga1, o1 + k, none⟩ = some (.int .i64 o) := L2.out.rR 1 rfl k hxo
  have rv : W2.cell? ⟨ga2, o2 + k, none⟩ = some (.int .u64 v) := L2.out.rR 2 rfl k hyv
  go_cut [5, 6] (fun pv m0v wc => m0v = .int .i64 0 ∧ ∃ ga : Nat, pv = .pointer (some ⟨ga, 0, none⟩) ∧ Hid (Lo w0 lo hi b rb q (upd A 2 o v) B (X ++ [bx g TRe #[.slice (some ⟨ga1, o1, none⟩) n c1, .slice (some ⟨ga2, o2, none⟩) n c2, .int .i64 k], rd .i64 (.slice (some ⟨ga1, o1, none⟩) n c1) xs, rd .u64 (.slice (some ⟨ga2, o2, none⟩) n c2) ys, bx gr 59 #[.int .i64 0, .int .i64 0, .int .i64 0, .int .u64 0, .int .u64 0, .bool false], bx ga 59 #[.int .i64 2, .int .i64 2, .int .i64 o, .int .u64 x, .int .u64 v, .bool true]]) wc))
  case first =>
    have Lz : Hid (Lo w0 lo hi b rb q A B (X ++ [bx g TRe #[.slice (some ⟨ga1, o1, none⟩) n c1, .slice (some ⟨ga2, o2, none⟩) n c2, .int .i64 k], rd .i64 (.slice (some ⟨ga1, o1, none⟩) n c1) xs, rd .u64 (.slice (some ⟨ga2, o2, none⟩) n c2) ys, bx gr 59 #[.int .i64 0, .int .i64 0, .int .i64 0, .int .u64 0, .int .u64 0, .bool false], bx W2.heap.size 59 #[.int .i64 0, .int .i64 0, .int .i64 0, .int .u64 0, .int .u64 0, .bool false]]) (W2.alloc (.cells #[.int .i64 0, .int .i64 0, .int .i64 0, .int .u64 0, .int .u64 0, .bool false] 59))) := Lib.hid (L2.out.newR 59 #[.int .i64 0, .int .i64 0, .int .i64 0, .int .u64 0, .int .u64 0, .bool false])
    have hs0 : (fun W : World => W.cell? ⟨g, 0, none⟩ = some (.slice (some ⟨ga1, o1, none⟩) n c1) ∧ W.cell? ⟨g, 1, none⟩ = some (.slice (some ⟨ga2, o2, none⟩) n c2) ∧ W.cell? ⟨g, 2, none⟩ = some (.int .i64 k) ∧ W.cell? ⟨ga1, o1 + k, none⟩ = some (.int .i64 o) ∧ W.cell? ⟨ga2, o2 + k, none⟩ = some (.int .u64 v)) W2.drew := ⟨L2.out.drew.cR 0 0 rfl rfl, L2.out.drew.cR 0 1 rfl rfl, L2.out.drew.cR 0 2 rfl rfl, L2.out.drew.rR 1 rfl k hxo, L2.out.drew.rR 2 rfl k hyv⟩
    have hs1 : (fun W : World => W.cell? ⟨g, 0, none⟩ = some (.slice (some ⟨ga1, o1, none⟩) n c1) ∧ W.cell? ⟨g, 1, none⟩ = some (.slice (some ⟨ga2, o2, none⟩) n c2) ∧ W.cell? ⟨g, 2, none⟩ = some (.int .i64 k) ∧ W.cell? ⟨ga1, o1 + k, none⟩ = some (.int .i64 o) ∧ W.cell? ⟨ga2, o2 + k, none⟩ = some (.int .u64 v)) (W2.alloc (.cells #[.int .i64 0, .int .i64 0, .int .i64 0, .int .u64 0, .int .u64 0, .bool false] 59)).drew := ⟨Lz.out.drew.cR 0 0 rfl rfl, Lz.out.drew.cR 0 1 rfl rfl, Lz.out.drew.cR 0 2 rfl rfl, Lz.out.drew.rR 1 rfl k hxo, Lz.out.drew.rR 2 rfl k hyv⟩
    have hc := lo_store L2.out.drew 2 (by decide) o hl x hx v
    have hc2 := lo_store Lz.out.drew 2 (by decide) o hl x hx v
    have hka : ∀ W', Lo w0 lo hi b rb q (upd A 2 o v) B (X ++ [bx g TRe #[.slice (some ⟨ga1, o1, none⟩) n c1, .slice (some ⟨ga2, o2, none⟩) n c2, .int .i64 k], rd .i64 (.slice (some ⟨ga1, o1, none⟩) n c1) xs, rd .u64 (.slice (some ⟨ga2, o2, none⟩) n c2) ys, bx gr 59 #[.int .i64 0, .int .i64 0, .int .i64 0, .int .u64 0, .int .u64 0, .bool false]]) W' → ((fun W : World => W.cell? ⟨g, 0, none⟩ = some (.slice (some ⟨ga1, o1, none⟩) n c1) ∧ W.cell? ⟨g, 1, none⟩ = some (.slice (some ⟨ga2, o2, none⟩) n c2) ∧ W.cell? ⟨g, 2, none⟩ = some (.int .i64 k) ∧ W.cell? ⟨ga1, o1 + k, none⟩ = some (.int .i64 o) ∧ W.cell? ⟨ga2, o2 + k, none⟩ = some (.int .u64 v)) W' ∧ (fun W : World => W.cell? ⟨g, 0, none⟩ = some (.slice (some ⟨ga1, o1, none⟩) n c1) ∧ W.cell? ⟨g, 1, none⟩ = some (.slice (some ⟨ga2, o2, none⟩) n c2) ∧ W.cell? ⟨g, 2, none⟩ = some (.int .i64 k) ∧ W.cell? ⟨ga1, o1 + k, none⟩ = some (.int .i64 o) ∧ W.cell? ⟨ga2, o2 + k, none⟩ = some (.int .u64 v)) (W'.alloc (.cells #[.int .i64 0, .int .i64 0, .int .i64 0, .int .u64 0, .int .u64 0, .bool false] 59)) ∧ (fun W : World => W.cell? ⟨g, 0, none⟩ = some (.slice (some ⟨ga1, o1, none⟩) n c1) ∧ W.cell? ⟨g, 1, none⟩ = some (.slice (some ⟨ga2, o2, none⟩) n c2) ∧ W.cell? ⟨g, 2, none⟩ = some (.int .i64 k) ∧ W.cell? ⟨ga1, o1 + k, none⟩ = some (.int .i64 o) ∧ W.cell? ⟨ga2, o2 + k, none⟩ = some (.int .u64 v)) (W'.alloc (.cells #[.int .i64 2, .int .i64 2, .int .i64 o, .int .u64 x, .int .u64 v, .bool true] 59))) := fun W' h => ⟨⟨h.cR 0 0 rfl rfl, h.cR 0 1 rfl rfl, h.cR 0 2 rfl rfl, h.rR 1 rfl k hxo, h.rR 2 rfl k hyv⟩, ⟨(h.newR 59 #[.int .i64 0, .int .i64 0, .int .i64 0, .int .u64 0, .int .u64 0, .bool false]).cR 0 0 rfl rfl, (h.newR 59 #[.int .i64 0, .int .i64 0, .int .i64 0, .int .u64 0, .int .u64 0, .bool false]).cR 0 1 rfl rfl, (h.newR 59 #[.int .i64 0, .int .i64 0, .int .i64 0, .int .u64 0, .int .u64 0, .bool false]).cR 0 2 rfl rfl, (h.newR 59 #[.int .i64 0, .int .i64 0, .int .i64 0, .int .u64 0, .int .u64 0, .bool false]).rR 1 rfl k hxo, (h.newR 59 #[.int .i64 0, .int .i64 0, .int .i64 0, .int .u64 0, .int .u64 0, .bool false]).rR 2 rfl k hyv⟩, ⟨(h.newR 59 #[.int .i64 2, .int .i64 2, .int .i64 o, .int .u64 x, .int .u64 v, .bool true]).cR 0 0 rfl rfl, (h.newR 59 #[.int .i64 2, .int .i64 2, .int .i64 o, .int .u64 x, .int .u64 v, .bool true]).cR 0 1 rfl rfl, (h.newR 59 #[.int .i64 2, .int .i64 2, .int .i64 o, .int .u64 x, .int .u64 v, .bool true]).cR 0 2 rfl rfl, (h.newR 59 #[.int .i64 2, .int .i64 2, .int .i64 o, .int .u64 x, .int .u64 v, .bool true]).rR 1 rfl k hxo, (h.newR 59 #[.int .i64 2, .int .i64 2, .int .i64 o, .int .u64 x, .int .u64 v, .bool true]).rR 2 rfl k hyv⟩⟩
    have hkb : ∀ W', Lo w0 lo hi b rb q (upd A 2 o v) B (X ++ [bx g TRe #[.slice (some ⟨ga1, o1, none⟩) n c1, .slice (some ⟨ga2, o2, none⟩) n c2, .int .i64 k], rd .i64 (.slice (some ⟨ga1, o1, none⟩) n c1) xs, rd .u64 (.slice (some ⟨ga2, o2, none⟩) n c2) ys, bx gr 59 #[.int .i64 0, .int .i64 0, .int .i64 0, .int .u64 0, .int .u64 0, .bool false], bx W2.heap.size 59 #[.int .i64 0, .int .i64 0, .int .i64 0, .int .u64 0, .int .u64 0, .bool false]]) W' → ((fun W : World => W.cell? ⟨g, 0, none⟩ = some (.slice (some ⟨ga1, o1, none⟩) n c1) ∧ W.cell? ⟨g, 1, none⟩ = some (.slice (some ⟨ga2, o2, none⟩) n c2) ∧ W.cell? ⟨g, 2, none⟩ = some (.int .i64 k) ∧ W.cell? ⟨ga1, o1 + k, none⟩ = some (.int .i64 o) ∧ W.cell? ⟨ga2, o2 + k, none⟩ = some (.int .u64 v)) W' ∧ (fun W : World => W.cell? ⟨g, 0, none⟩ = some (.slice (some ⟨ga1, o1, none⟩) n c1) ∧ W.cell? ⟨g, 1, none⟩ = some (.slice (some ⟨ga2, o2, none⟩) n c2) ∧ W.cell? ⟨g, 2, none⟩ = some (.int .i64 k) ∧ W.cell? ⟨ga1, o1 + k, none⟩ = some (.int .i64 o) ∧ W.cell? ⟨ga2, o2 + k, none⟩ = some (.int .u64 v)) (((((((W'.setCell ⟨W2.heap.size, 0, none⟩ (.int .i64 2)).setCell ⟨W2.heap.size, 1, none⟩ (.int .i64 2)).setCell ⟨W2.heap.size, 2, none⟩ (.int .i64 o)).setCell ⟨W2.heap.size, 3, none⟩ (.int .u64 x)).setCell ⟨W2.heap.size, 4, none⟩ (.int .u64 v)).setCell ⟨W2.heap.size, 5, none⟩ (.bool true))) ∧ Mem W' W2.heap.size 59 #[.int .i64 0, .int .i64 0, .int .i64 0, .int .u64 0, .int .u64 0, .bool false]) := fun W' h => ⟨⟨h.cR 0 0 rfl rfl, h.cR 0 1 rfl rfl, h.cR 0 2 rfl rfl, h.rR 1 rfl k hxo, h.rR 2 rfl k hyv⟩, ⟨(h.sixR 4 rfl (.int .i64 2) (.int .i64 2) (.int .i64 o) (.int .u64 x) (.int .u64 v) (.bool true)).cR 0 0 rfl rfl, (h.sixR 4 rfl (.int .i64 2) (.int .i64 2) (.int .i64 o) (.int .u64 x) (.int .u64 v) (.bool true)).cR 0 1 rfl rfl, (h.sixR 4 rfl (.int .i64 2) (.int .i64 2) (.int .i64 o) (.int .u64 x) (.int .u64 v) (.bool true)).cR 0 2 rfl rfl, (h.sixR 4 rfl (.int .i64 2) (.int .i64 2) (.int .i64 o) (.int .u64 x) (.int .u64 v) (.bool true)).rR 1 rfl k hxo, (h.sixR 4 rfl (.int .i64 2) (.int .i64 2) (.int .i64 o) (.int .u64 x) (.int .u64 v) (.bool true)).rR 2 rfl k hyv⟩, h.memR 4 rfl⟩
    clear Lz
    go_region_held3 (fun W : World => W.cell? ⟨g, 0, none⟩ = some (.slice (some ⟨ga1, o1, none⟩) n c1) ∧ W.cell? ⟨g, 1, none⟩ = some (.slice (some ⟨ga2, o2, none⟩) n c2) ∧ W.cell? ⟨g, 2, none⟩ = some (.int .i64 k) ∧ W.cell? ⟨ga1, o1 + k, none⟩ = some (.int .i64 o) ∧ W.cell? ⟨ga2, o2 + k, none⟩ = some (.int .u64 v)) (first | (with_reducible exact hs0) | (with_reducible exact hs1) | (with_reducible assumption)) (first | (go_at_call 33; (with_reducible refine hc.mono ?_); rintro e w2' ⟨rfl, hL⟩; obtain ⟨hk1, hk2, hk3⟩ := hka _ hL) | (go_at_call 33; (with_reducible refine hc2.mono ?_); rintro e w2' ⟨rfl, hL⟩; obtain ⟨hk1, hk2, hk3⟩ := hkb _ hL; have d0 := hk3.cell 0; have d1 := hk3.cell 1; have d2 := hk3.cell 2; have d3 := hk3.cell 3; have d4 := hk3.cell 4; have d5 := hk3.cell 5; have df := hk3.frozen))
    all_goals go_wp2_with fail
    all_goals go_meet
    all_goals first
      | exact ⟨rfl, _, rfl, Lib.hid (hL.newR 59 #[.int .i64 2, .int .i64 2, .int .i64 o, .int .u64 x, .int .u64 v, .bool true])⟩
      | exact ⟨rfl, _, rfl, Lib.hid (hL.sixR 4 rfl (.int .i64 2) (.int .i64 2) (.int .i64 o) (.int .u64 x) (.int .u64 v) (.bool true))⟩
  case rest =>
    clear L2 c2_0_0 c2_0_1 c2_0_2 ra rv
    obtain ⟨rfl, ga, rfl, L3⟩ := hcut
    have c3_0_2 : wc.cell? ⟨g, 2, none⟩ = some (.int .i64 k) := L3.out.cR 0 2 rfl rfl
    have z3_0_2 : wc.frozen? ⟨g, 2, none⟩ = false := L3.out.zR 0 2 rfl
    go_upto_region 4 with (fail)
    go_upto_region 5 with (fail)
    have L4 : Hid (Lo w0 lo hi b rb q (upd A 2 o v) B (X ++ [bx g TRe #[.slice (some ⟨ga1, o1, none⟩) n c1, .slice (some ⟨ga2, o2, none⟩) n c2, .int .i64 ((k : Int) + 1)], rd .i64 (.slice (some ⟨ga1, o1, none⟩) n c1) xs, rd .u64 (.slice (some ⟨ga2, o2, none⟩) n c2) ys, bx gr 59 #[.int .i64 0, .int .i64 0, .int .i64 0, .int .u64 0, .int .u64 0, .bool false], bx ga 59 #[.int .i64 2, .int .i64 2, .int .i64 o, .int .u64 x, .int .u64 v, .bool true]]) (wc.setCell ⟨g, 2, none⟩ (.int .i64 ((k : Int) + 1)))) := Lib.hid (L3.out.putR 0 2 (.int .i64 ((k : Int) + 1)) rfl (by rfl))
    obtain ⟨W4, hW⟩ : ∃ W', wc.setCell ⟨g, 2, none⟩ (.int .i64 ((k : Int) + 1)) = W' := ⟨_, rfl⟩
    rw [hW] at L4
    first | rw [hW] | skip
    clear hW
    clear L3 c3_0_2 z3_0_2
    have c4_3_0 : W4.cell? ⟨gr, 0, none⟩ = some (.int .i64 0) := L4.out.cR 3 0 rfl rfl
    have z4_3_0 : W4.frozen? ⟨gr, 0, none⟩ = false := L4.out.zR 3 0 rfl
    have c4_4_0 : W4.cell? ⟨ga, 0, none⟩ = some (.int .i64 2) := L4.out.cR 4 0 rfl rfl
    have c4_3_1 : W4.cell? ⟨gr, 1, none⟩ = some (.int .i64 0) := L4.out.cR 3 1 rfl rfl
    have z4_3_1 : W4.frozen? ⟨gr, 1, none⟩ = false := L4.out.zR 3 1 rfl
    have c4_4_1 : W4.cell? ⟨ga, 1, none⟩ = some (.int .i64 2) := L4.out.cR 4 1 rfl rfl
    have c4_3_2 : W4.cell? ⟨gr, 2, none⟩ = some (.int .i64 0) := L4.out.cR 3 2 rfl rfl
    have z4_3_2 : W4.frozen? ⟨gr, 2, none⟩ = false := L4.out.zR 3 2 rfl
    have c4_4_2 : W4.cell? ⟨ga, 2, none⟩ = some (.int .i64 o) := L4.out.cR 4 2 rfl rfl
    have c4_3_3 : W4.cell? ⟨gr, 3, none⟩ = some (.int .u64 0) := L4.out.cR 3 3 rfl rfl
    have z4_3_3 : W4.frozen? ⟨gr, 3, none⟩ = false := L4.out.zR 3 3 rfl
    have c4_4_3 : W4.cell? ⟨ga, 3, none⟩ = some (.int .u64 x) := L4.out.cR 4 3 rfl rfl
    have c4_3_4 : W4.cell? ⟨gr, 4, none⟩ = some (.int .u64 0) := L4.out.cR 3 4 rfl rfl
    have z4_3_4 : W4.frozen? ⟨gr, 4, none⟩ = false := L4.out.zR 3 4 rfl
    have c4_4_4 : W4.cell? ⟨ga, 4, none⟩ = some (.int .u64 v) := L4.out.cR 4 4 rfl rfl
    have c4_3_5 : W4.cell? ⟨gr, 5, none⟩ = some (.bool false) := L4.out.cR 3 5 rfl rfl
    have z4_3_5 : W4.frozen? ⟨gr, 5, none⟩ = false := L4.out.zR 3 5 rfl
    have c4_4_5 : W4.cell? ⟨ga, 5, none⟩ = some (.bool true) := L4.out.cR 4 5 rfl rfl
    go_wp2
    have L5 : Hid (Lo w0 lo hi b rb q (upd A 2 o v) B (X ++ [bx g TRe #[.slice (some ⟨ga1, o1, none⟩) n c1, .slice (some ⟨ga2, o2, none⟩) n c2, .int .i64 ((k : Int) + 1)], rd .i64 (.slice (some ⟨ga1, o1, none⟩) n c1) xs, rd .u64 (.slice (some ⟨ga2, o2, none⟩) n c2) ys, bx gr 59 #[.int .i64 2, .int .i64 2, .int .i64 o, .int .u64 x, .int .u64 v, .bool true], bx ga 59 #[.int .i64 2, .int .i64 2, .int .i64 o, .int .u64 x, .int .u64 v, .bool true]]) (((((((W4.setCell ⟨gr, 0, none⟩ (.int .i64 2)).setCell ⟨gr, 1, none⟩ (.int .i64 2)).setCell ⟨gr, 2, none⟩ (.int .i64 o)).setCell ⟨gr, 3, none⟩ (.int .u64 x)).setCell ⟨gr, 4, none⟩ (.int .u64 v)).setCell ⟨gr, 5, none⟩ (.bool true)))) := Lib.hid (L4.out.sixR 3 rfl (.int .i64 2) (.int .i64 2) (.int .i64 o) (.int .u64 x) (.int .u64 v) (.bool true))
    obtain ⟨V, hV⟩ : ∃ V, ((((((W4.setCell ⟨gr, 0, none⟩ (.int .i64 2)).setCell ⟨gr, 1, none⟩ (.int .i64 2)).setCell ⟨gr, 2, none⟩ (.int .i64 o)).setCell ⟨gr, 3, none⟩ (.int .u64 x)).setCell ⟨gr, 4, none⟩ (.int .u64 v)).setCell ⟨gr, 5, none⟩ (.bool true)) = V := ⟨_, rfl⟩
    rw [hV] at L5 ⊢
    clear hV
    have hF : Lo w0 lo hi b rb q (upd A 2 o v) B (X ++ [bx g TRe #[.slice (some ⟨ga1, o1, none⟩) n c1, .slice (some ⟨ga2, o2, none⟩) n c2, .int .i64 ((k : Int) + 1)], rd .i64 (.slice (some ⟨ga1, o1, none⟩) n c1) xs, rd .u64 (.slice (some ⟨ga2, o2, none⟩) n c2) ys]) V := Lo.dropR (rs2 := [bx gr 59 #[.int .i64 2, .int .i64 2, .int .i64 o, .int .u64 x, .int .u64 v, .bool true], bx ga 59 #[.int .i64 2, .int .i64 2, .int .i64 o, .int .u64 x, .int .u64 v, .bool true]]) L5.out
    refine bodyPost_ret (v := .agg #[.int .i64 2, .int .i64 2, .int .i64 o, .int .u64 x, .int .u64 v, .bool true]) (results_cell_row rfl _ _ gr 59 #[.int .i64 2, .int .i64 2, .int .i64 o, .int .u64 x, .int .u64 v, .bool true] (0, 0) _ (by simp) (L5.out.memR 3 rfl) Tryz.underlying59 rfl (by kernel_rfl)) rfl ?_
    exact ⟨rfl, hF⟩

end Go.Proofs.YtphnadchdhblpaaGreat.LkA
