/-
  Contract of package program: following and its iterator.
-/
import Derived.Test.YthnhmclnfgkppaaDoorPgV
namespace Go.Proofs.YthnhmclnfgkppaaDoor.PgW
open Go.ChangeShapes Go.WideShapes Go.ChangeAt Go.RowKit Go.Shelf
open PlainT IsaE IsaS BlkW IsaA IsaB IsaF PrgS PrgC PgS PgA PgB PgT PgU PgC PgD PgE PgF PgV
set_option linter.unusedVariables false
attribute [local go_sem] Oper.semAt_some

/-- A position that may follow k in a program of length n. -/
abbrev Pos (k n : Int) := { y : Int // k < y ∧ y ≤ n }
abbrev encP {k n : Int} (x : Pos k n) : Array Value := #[.int .i64 x.1]
def folS {ps : List I5} (h : Valid ps) {k : Nat} {x : I5} (hx : ps[k]? = some x) : List (Pos k ps.length) := (folV ps k x).attachWith _ (h.fol hx)
theorem folS_val {ps : List I5} (h : Valid ps) {k : Nat} {x : I5} (hx : ps[k]? = some x) : (folS h hx).map (·.1) = folV ps k x := by
  unfold folS
  rw [List.attachWith_map_subtype_val]
theorem arE_end {ps : List I5} {k : Nat} {x : I5} (h : Valid ps) (hx : ps[k]? = some x) (h9 : x.op = 9) : ∃ b : Int, aroundV ps k = some (b, arEnd ps k) := by
  have hp := h.place hx
  have hpl : plI x = 1 := by
    unfold plI placeV
    rw [show chk x.op x.a x.b x.c x.i = 0 from h.chk hx, if_pos rfl, h9]
    rfl
  unfold arEnd
  cases ha : aroundV ps k with
  | some t => exact ⟨t.1, rfl⟩
  | none => exact absurd (.inl ⟨hpl, by rw [ha]; rfl⟩) hp
theorem folS_one {ps : List I5} (h : Valid ps) {k : Nat} {x : I5} (hx : ps[k]? = some x) {y : Int} (hf : folV ps k x = [y]) : ∃ hy, folS h hx = [⟨y, hy⟩] := by
  have hv := folS_val h hx
  rw [hf] at hv
  rcases hl : folS h hx with _ | ⟨a, _ | ⟨b, r⟩⟩ <;> rw [hl] at hv <;> simp at hv
  subst hv
  exact ⟨a.2, rfl⟩
theorem folS_two {ps : List I5} (h : Valid ps) {k : Nat} {x : I5} (hx : ps[k]? = some x) {y z : Int} (hf : folV ps k x = [y, z]) : ∃ hy hz, folS h hx = [⟨y, hy⟩, ⟨z, hz⟩] := by
  have hv := folS_val h hx
  rw [hf] at hv
  rcases hl : folS h hx with _ | ⟨a, _ | ⟨b, _ | ⟨c, r⟩⟩⟩ <;> rw [hl] at hv <;> simp at hv
  obtain ⟨rfl, rfl⟩ := hv
  exact ⟨a.2, b.2, rfl⟩
theorem grown_of_below {W W' : World} (h : Below W.heap.size W W') : W.grownBy W' none := ⟨h.os, h.tape, h.output, h.size, fun k hk _ => h.block k hk⟩
/-- What the body of a range over following keeps: the box of the position. -/
def keepK (Bk : Nat) (A B : World) : Prop := ∀ v, A.cell? ⟨Bk, 0, none⟩ = some v → B.cell? ⟨Bk, 0, none⟩ = some v
theorem skI_zero {x : I5} (h : ¬ (x.op = 4 ∨ x.op = 5 ∨ x.op = 6)) : skV x = 0 ∧ skB x = false := by
  have hs : skB x = false := not_of fun hc => h (skB_op hc)
  exact ⟨by unfold skV skipsV; rw [show skipsB x.op x.a x.b x.c x.i = false from hs]; rfl, hs⟩
set_option maxRecDepth 100000 in
set_option maxHeartbeats 4000000 in
theorem fol_in (n : Nat) (hn : 1 ≤ n) (l Bp Bk : Nat) (A : Option Addr) (m c k : Nat) (ps : List I5) (x : I5) (w0 : World) (hE : Env w0) (hm : m ≤ c) (hmx : c ≤ maxLen) (hR0 : RowI w0 A m ps) (hv : Valid ps) (hx : ps[k]? = some x) (J Jx : List (Pos k ps.length) → World → Prop) (W : World)
    (hJ : AbidesFrom W.heap.size J)
    (hY : ∀ pre y W, J pre W → pre.length < (folS hv hx).length → YieldAt Fence.wide (n - 1) Tryd.prog l (encP y) W fun e W' =>
      (e = .returned (.bool true) ∧ J (pre ++ [y]) W' ∧ keepK Bk W W') ∨ (e = .returned (.bool false) ∧ Jx (pre ++ [y]) W'))
    (hBp : W.cell? ⟨Bp, 0, none⟩ = some (.slice A m c)) (hBk : W.cell? ⟨Bk, 0, none⟩ = some (.int .i64 k)) (hW : Below w0.heap.size w0 W) (h0 : J [] W) :
    CallsIn Fence.wide n Tryd.prog 67 #[.func (.yield l) #[] #[], .pointer (some ⟨Bp, 0, none⟩), .pointer (some ⟨Bk, 0, none⟩)] W fun e W' => (∃ v, e = .returned v) ∧
      ((∃ ys, ys = folS hv hx ∧ J ys W') ∨ (∃ pre, pre <+: folS hv hx ∧ Jx pre W')) := by
  have hk : k < ps.length := (List.getElem?_eq_some_iff.1 hx).1
  have hlen := hR0.1
  have hkm : k < m := by omega
  have h64 := hv.len
  have hkI : (k : Int) < m := by omega
  have hk64 : (k : Int) < 64 := by omega
  have hmx2 := hmx
  unfold maxLen at hmx2
  have hBplt : Bp < W.heap.size := World.block_lt_of_cell? _ _ hBp
  have hBklt : Bk < W.heap.size := World.block_lt_of_cell? _ _ hBk
  obtain ⟨g, off, x', rfl, hg, hx', c0, c1, c2, c3, c4⟩ := (hR0.below hW).at hkm
  rw [hx] at hx'
  injection hx' with hx'
  subst hx'
  obtain ⟨sv, hsv⟩ : ∃ sv, skipsV x.op x.a x.b x.c x.i = sv := ⟨_, rfl⟩
  obtain ⟨sb, hsb⟩ : ∃ sb, skipsB x.op x.a x.b x.c x.i = sb := ⟨_, rfl⟩
  obtain ⟨hs0, hs1⟩ := skV_ok x
  rw [show skV x = sv from hsv] at hs0 hs1
  have HSV := Lib.hid hsv
  have HSB := Lib.hid hsb
  have HE := Lib.hid (hE.below hW)
  have HR := Lib.hid (hR0.below hW)
  have HX := Lib.hid hx
  have HM := Lib.hid hm
  have HMX := Lib.hid hmx
  have HJ0 := Lib.hid h0
  have HL := Lib.hid hlen
  clear hsv hsb hR0 hlen hE hm hmx h0 hk
  have hE4 := c4
  refine callsIn_of_wp Tryd.func67 rfl trivial ?_ rfl
  simp only [Tryd.ntmps67, List.size_toArray, List.length_cons, List.length_nil, Nat.reduceAdd, Nat.reduceSub, Array.replicate_succ, Array.replicate_zero, List.push_toArray, List.append_toArray, List.nil_append, List.cons_append]
  have fin : ∀ (W1 : World), Below W.heap.size W W1 → W1.cell? ⟨Bp, 0, none⟩ = some (.slice (some ⟨g, off, none⟩) m c) ∧ W1.cell? ⟨Bk, 0, none⟩ = some (.int .i64 k) ∧ W1.cell? ⟨g, off + k * 5, none⟩ = some (.int .i64 x.op) ∧ J [] W1 :=
    fun W1 hb => ⟨(hb.cell (p := ⟨Bp, 0, none⟩) hBplt).trans hBp, (hb.cell (p := ⟨Bk, 0, none⟩) hBklt).trans hBk, (hb.cell (p := ⟨g, off + k * 5, none⟩) hg).trans c0, hJ [] W W1 none HJ0.out (grown_of_below hb) (fun r e => by cases e)⟩
  have HF := Lib.hid fin
  clear fin
  by_cases h9 : x.op = 9
  · obtain ⟨b9, har⟩ := arE_end hv hx h9
    obtain ⟨hf1, hfs⟩ := folS_one hv hx (y := arEnd ps k + 1) (by unfold folV; rw [if_pos h9])
    obtain ⟨t9, ht9⟩ : ∃ t, arEnd ps k = t := ⟨_, rfl⟩
    have HFS := Lib.hid hfs
    rw [ht9] at har
    have HAR := Lib.hid har
    have h9n := hv.tx _ (around_mem har).1
    have h9l := (around_mem har).2.2
    simp only at h9n h9l
    have h9m : t9 < 64 := by omega
    have h9z : 0 ≤ t9 := by omega
    have H9 := Lib.hid h9
    clear har hfs h9
    gi_wp2_with (first
      | (refine ⟨trivial, ?_⟩; gi_at_call 51; refine (callsIn_wide.2 (a_skips_v _ _ _ _ _ sv sb HSB.out HSV.out _ HE.out)).mono ?_; rintro e w1 ⟨rfl, hb1⟩; have HB1 := Lib.hid hb1; obtain ⟨p1, p2, p3, _⟩ := HF.out _ hb1; rw [H9.out] at p3; clear hb1)
      | (refine ⟨trivial, ?_⟩; gi_at_call 49; refine (callsIn_wide.2 (around_some HAR.out _ HM.out HMX.out (HR.out.below HB1.out))).mono ?_; rintro e w2 ⟨rfl, hb2⟩; have HB2 := Lib.hid (HB1.out.trans ((hb2.alloc hb2.size (.cells #[.int .i64 b9, .int .i64 t9] 65)).mono HB1.out.size)); clear hb2))
    obtain ⟨fn, tmps, assign, body, hy, hR⟩ := hY [] ⟨t9 + 1, by rw [← ht9]; exact hf1⟩ _ (HF.out _ HB2.out).2.2.2 (by rw [HFS.out]; simp)
    simp only [encP] at hy
    subst ht9
    first | rw [hy] | skip
    gi_wp2
    refine hR.mono ?_
    rintro e W3 (⟨rfl, hJ3, hk3⟩ | ⟨rfl, hJx3⟩)
    · gi_wp2
      go_end0
      exact ⟨⟨_, rfl⟩, .inl ⟨_, HFS.out.symm, hJ3⟩⟩
    · gi_wp2
      go_end0
      exact ⟨⟨_, rfl⟩, .inr ⟨_, by rw [HFS.out]; exact List.prefix_refl _, hJx3⟩⟩
  · have h9' : (x.op == 9) = false := beq_eq_false_iff_ne.2 h9
    by_cases h56 : x.op = 5 ∨ x.op = 6
    · obtain ⟨hf1, hf2, hfs⟩ := folS_two hv hx (y := (k : Int) + 1) (z := (k : Int) + 1 + sv) (by unfold folV; rw [if_neg h9, if_pos h56, show skV x = sv from HSV.out])
      have HFS := Lib.hid hfs
      clear hfs
      rcases h56 with h5 | h5
      all_goals
        have H5 := Lib.hid h5
        clear h9 h9' h5
        gi_wp2_with (refine ⟨trivial, ?_⟩; gi_at_call 51; refine (callsIn_wide.2 (a_skips_v _ _ _ _ _ sv sb HSB.out HSV.out _ HE.out)).mono ?_; rintro e w1 ⟨rfl, hb1⟩; have HB1 := Lib.hid hb1; obtain ⟨p1, p2, p3, hj1⟩ := HF.out _ hb1; rw [H5.out] at p3; have HJ1 := Lib.hid hj1; clear hb1 hj1)
        obtain ⟨fn, tmps, assign, body, hy, hR⟩ := hY [] ⟨(k : Int) + 1, hf1⟩ _ HJ1.out (by rw [HFS.out]; simp)
        simp only [encP] at hy
        first | rw [hy] | skip
        gi_wp2
        refine hR.mono ?_
        rintro e W3 (⟨rfl, hJ3, hk3⟩ | ⟨rfl, hJx3⟩)
        · have p4 : W3.cell? ⟨Bk, 0, none⟩ = some (.int .i64 k) := hk3 _ p2
          clear hR hy
          obtain ⟨fn, tmps, assign, body, hy, hR⟩ := hY [⟨(k : Int) + 1, hf1⟩] ⟨(k : Int) + 1 + sv, hf2⟩ _ hJ3 (by rw [HFS.out]; simp)
          simp only [encP] at hy
          first | rw [hy] | skip
          gi_wp2
          refine hR.mono ?_
          rintro e W4 (⟨rfl, hJ4, hk4⟩ | ⟨rfl, hJx4⟩)
          · gi_wp2
            go_end0
            exact ⟨⟨_, rfl⟩, .inl ⟨_, HFS.out.symm, hJ4⟩⟩
          · gi_wp2
            go_end0
            exact ⟨⟨_, rfl⟩, .inr ⟨_, by rw [HFS.out]; exact List.prefix_refl _, hJx4⟩⟩
        · gi_wp2
          go_end0
          exact ⟨⟨_, rfl⟩, .inr ⟨_, by rw [HFS.out]; exact ⟨_, rfl⟩, hJx3⟩⟩
    · have h5' : (x.op == 5) = false := beq_eq_false_iff_ne.2 (fun h => h56 (.inl h))
      have h6' : (x.op == 6) = false := beq_eq_false_iff_ne.2 (fun h => h56 (.inr h))
      obtain ⟨hf1, hfs⟩ := folS_one hv hx (y := (k : Int) + 1 + sv) (by unfold folV; rw [if_neg h9, if_neg h56, show skV x = sv from HSV.out])
      have HFS := Lib.hid hfs
      clear hfs h56 h9
      gi_wp2_with (refine ⟨trivial, ?_⟩; gi_at_call 51; refine (callsIn_wide.2 (a_skips_v _ _ _ _ _ sv sb HSB.out HSV.out _ HE.out)).mono ?_; rintro e w1 ⟨rfl, hb1⟩; have HB1 := Lib.hid hb1; obtain ⟨p1, p2, p3, hj1⟩ := HF.out _ hb1; have HJ1 := Lib.hid hj1; clear hb1 hj1)
      obtain ⟨fn, tmps, assign, body, hy, hR⟩ := hY [] ⟨(k : Int) + 1 + sv, hf1⟩ _ HJ1.out (by rw [HFS.out]; simp)
      simp only [encP] at hy
      first | rw [hy] | skip
      gi_wp2
      refine hR.mono ?_
      rintro e W3 (⟨rfl, hJ3, hk3⟩ | ⟨rfl, hJx3⟩)
      · gi_wp2
        go_end0
        exact ⟨⟨_, rfl⟩, .inl ⟨_, HFS.out.symm, hJ3⟩⟩
      · gi_wp2
        go_end0
        exact ⟨⟨_, rfl⟩, .inr ⟨_, by rw [HFS.out]; exact List.prefix_refl _, hJx3⟩⟩
/-- **following**: both parameters are boxed; the function value captures the boxes. -/
theorem following_in (n : Nat) (A : Option Addr) (m c : Nat) (k : Int) (w : World) :
    CallsIn Fence.wide n Tryd.prog 54 #[.slice A m c, .int .i64 k] w fun e w' => e = .returned (.func (.func 67) #[] #[.pointer (some ⟨w.heap.size, 0, none⟩), .pointer (some ⟨w.heap.size + 1, 0, none⟩)]) ∧ w' = (w.alloc (.cells #[.slice A m c] 24)).alloc (.cells #[.int .i64 k] 3) := by
  refine callsIn_of_wp Tryd.func54 rfl trivial ?_ rfl
  simp only [Tryd.ntmps54, List.size_toArray, List.length_cons, List.length_nil, Nat.reduceAdd, Nat.reduceSub, Array.replicate_succ, Array.replicate_zero, List.push_toArray, List.append_toArray, List.nil_append, List.cons_append]
  gi_wp2
  go_ret
  exact ⟨rfl, rfl⟩
end Go.Proofs.YthnhmclnfgkppaaDoor.PgW
