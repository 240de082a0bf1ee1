/-
  The walk along a path of layer 6's statement: what it counts is no more than Longest and Needs tell.
-/
import Derived.Test.YthnhmclnfgkppaaDoorPgJ
import Derived.Test.YthnhmclnfgkppaaDoorFrame
import Derived.Deep.Slices
import Derived.Laws.Tables
import Derived.Laws.Rows
namespace Go.Proofs.YthnhmclnfgkppaaDoor.PgM
open Go.ChangeShapes Go.WideShapes Go.ChangeAt Go.RowKit
open PlainT IsaE IsaS BlkW LawFrame IsaA IsaB IsaF PrgS PrgC PgS PgT PgU PgF PgV PgW PgN PgK PgJ
set_option linter.unusedVariables false
set_option maxRecDepth 100000

/-- A row of bools that came in as an argument. -/
def Bools (w : World) (A : Option Addr) (n : Nat) : Prop := ∀ i, i < n → ∃ (b off : Nat) (z : Bool), A = some ⟨b, off, none⟩ ∧ b < w.heap.size ∧ w.cell? ⟨b, off + i, none⟩ = some (.bool z)
section
variable {H : Type} {enc : TypeId × Value → H} {W : World} {base : Nat} {held : Bool}
theorem open_bl {b0 : Nat} {v : Value} {d : DataW H} {ps : List MemPlace} (hval : Value.okWide Tryd.prog W .any b0 33 v) (hd : DataW.Trod enc Tryd.prog W base (fun _ => true) held 33 v d ps) :
    ∃ (A : Option Addr) (k c : Nat), v = .slice A k c ∧ k ≤ c ∧ c ≤ maxLen ∧ Bools W A k := by
  obtain ⟨A, n, c, rfl⟩ := okWide_slice Tryd.underlying33 hval
  obtain ⟨fuel, hf⟩ := hd
  have hc : Tryd.prog.cellsOf 4 = 1 := by kernel_rfl
  rcases Go.Deep.open_slice1 Tryd.underlying33 hc hf with ⟨hcs, _⟩ | ⟨a, len, cap, m, n', V, D, Pl, hcs, hb, hl, hm, hmm, hx, hi⟩
  · simp [Value.cells] at hcs
    obtain ⟨rfl, rfl, rfl⟩ := hcs
    exact ⟨none, 0, 0, rfl, Nat.le_refl _, Nat.zero_le _, fun i h => absurd h (by omega)⟩
  · simp [Value.cells] at hcs
    obtain ⟨rfl, rfl, rfl⟩ := hcs
    simp only [if_true] at hmm
    have hmm' := hmm.symm
    subst hmm'
    refine ⟨some a, n, c, rfl, hl, hm, fun i hlt => ?_⟩
    obtain ⟨h1, h2⟩ := hi i (by omega)
    obtain ⟨z, hz, _⟩ := DataW.trod_bool Tryd.underlying4 h2
    have hz' : V i = .bool z := by simpa using hz
    rw [hz'] at h1
    have hsp : a.spot = none := by
      have := World.cell?_spot (hi 0 (by omega)).1
      simpa [Addr.add] using this
    obtain ⟨b, off, spot⟩ := a
    simp only at hsp
    subst hsp
    rw [Go.WideShapes.add_plain] at h1
    exact ⟨b, off, z, rfl, World.block_lt_of_cell? _ _ h1, h1⟩
end
/-- What the walk leaves. -/
def WEnd (ps : List I5) (k cm : Int) (e : Ending) : Prop := ∃ (n r v : Int) (at_ : Nat) (ins : Bool), WI ps k cm n r v at_ ins ∧ e = .returned (.tuple #[.int .i64 n, .int .i64 r, .int .i64 v])
theorem Bools.below {w w' : World} {A : Option Addr} {n : Nat} (h : Bools w A n) (k : Below w.heap.size w w') : Bools w' A n := fun i hi => by
  obtain ⟨b, off, z, h1, h2, h3⟩ := h i hi
  exact ⟨b, off, z, h1, Nat.lt_of_lt_of_le h2 k.size, (k.cell (p := ⟨b, off + i, none⟩) h2).trans h3⟩
set_option maxHeartbeats 40000000 in
theorem l_walk (A : Option Addr) (m c : Nat) (Aw : Option Addr) (nw cw : Nat) (ps : List I5) (k cm : Int) (w : World) (hmc : m ≤ c) (hmx : c ≤ maxLen) (hwc : nw ≤ cw) (hwx : cw ≤ maxLen) (hR0 : RowI w A m ps) (hv : Valid ps) (hB : Bools w Aw nw) (hcm : cm < ps.length) (hT : ∀ kn : Nat, k = kn → TX ps kn cm) (hk : -1 ≤ k ∧ k < m) :
    Calls Tryd.prog 13 #[.slice A m c, .slice Aw nw cw, .int .i64 k] w fun e w' => WEnd ps k cm e ∧ Below w.heap.size w w' := by
  have hlen := hR0.1
  have h64 := hv.len
  have hm64 : m ≤ 64 := by omega
  unfold maxLen at hmx hwx
  have HR := Lib.hid hR0
  have HV := Lib.hid hv
  have HBW := Lib.hid hB
  have HT := Lib.hid hT
  have HCM := Lib.hid hcm
  have HL := Lib.hid hlen
  have HS := Lib.hid (wi_start (k := k) hv hcm)
  obtain ⟨hk0, hk1⟩ := hk
  clear hR0 hv hB hT hcm hlen h64
  go_enter Tryd.func13, Tryd.ntmps13
  go_wp2_with fail
  go_loopw [9, 10, 11, 12, 13, 14] (fun nv rv vv av wv iv wr => ∃ (n r v : Int) (at_ wi : Nat) (ins : Bool), nv = .int .i64 n ∧ rv = .int .i64 r ∧ vv = .int .i64 v ∧ av = .int .i64 at_ ∧ wv = .int .i64 wi ∧ iv = .bool ins ∧ at_ ≤ m ∧ 0 ≤ n ∧ n ≤ m + 1 ∧ 0 ≤ r ∧ r ≤ n ∧ 0 ≤ v ∧ v ≤ n ∧ wi ≤ n ∧ Hid (WI ps k cm n r v at_ ins) ∧ Hid (Below w.heap.size w wr)) (fun _ _ _ av _ _ _ => m - (intOf av).toNat)
  case atStart => exact ⟨0, 0, 0, 0, 0, false, rfl, rfl, rfl, rfl, rfl, rfl, by omega, by omega, by omega, by omega, by omega, by omega, by omega, by omega, HS, Lib.hid (Below.refl _ _)⟩
  case round =>
    obtain ⟨n, r, v, at_, wi, ins, rfl, rfl, rfl, rfl, rfl, rfl, ham, hn0, hn1, hr0, hr1, hv0, hv1, hwi, hwi', hbw⟩ := hrel
    have HW := hwi'
    clear hwi'
    by_cases hgo : at_ < m ∧ n ≤ m
    · obtain ⟨hlt, hnm⟩ := hgo
      have hltI : (at_ : Int) < m := by omega
      have HRw := Lib.hid (HR.out.below hbw.out)
      have HBo := Lib.hid (HBW.out.below hbw.out)
      obtain ⟨g, off, x, rfl, hg, hx, y0, y1, y2, y3, y4⟩ := HRw.out.at hlt
      have hc := HV.out.chk hx
      have HC := Lib.hid hc
      have HX := Lib.hid hx
      have HLT := Lib.hid hlt
      have HBN := Lib.hid (hbw.out.alloc hbw.out.size (.cells #[.int .i64 x.op, .int .i64 x.a, .int .i64 x.b, .int .i64 x.c, .int .i64 x.i] 31))
      have HST : Hid (∀ (y : Nat) (r' v' : Int) (in' ins' : Bool), (y : Int) ∈ folV ps at_ x → (in' = true ↔ (ins = true ∧ x.op ≠ 8) ∨ (at_ : Int) = k) → (ins' = true ↔ in' = true ∧ x.op ≠ 9) → (r' = if in' = true then r + oneOf [10, 15] x else r) → (v' = if in' = true then v + oneOf [11, 15] x else v) → WI ps k cm (n + 1) r' v' y ins') :=
        Lib.hid fun y r' v' in' ins' h1 h2 h3 h4 h5 => wi_step HV.out HCM.out HT.out hx HW.out h1 h2 h3 h4 h5
      have hgl := hg
      clear hg hc hx hlt hk0 hk1
      by_cases hak : (at_ : Int) = k
      · have hat7 := (HT.out at_ hak.symm).op x HX.out
        have hop : x.op = 7 := hat7
        obtain ⟨kn, hkn⟩ : ∃ kn : Nat, k = kn := ⟨at_, hak.symm⟩
        have hin : ins = false := by
          cases hb : ins with
          | false => rfl
          | true => have := ((HW.out.2.1.2 kn hkn).1 hb).1; omega
        subst hin
        obtain rfl : k = at_ := hak.symm
        clear hat7 hkn hak
        have HQ := Lib.hid (HST.out (at_ + 1) (r) (v) true true (fol_next' ⟨by omega, by omega⟩) ⟨fun _ => .inr rfl, fun _ => rfl⟩ (by simp <;> omega) (by rw [if_pos rfl, one_off (by simp; omega)]; omega) (by rw [if_pos rfl, one_off (by simp; omega)]; omega))
        have HOP := Lib.hid hop
        rw [hop] at y0 HBN
        clear hop
        go_wp2_with fail
        go_roundw
        case rel => exact ⟨n + 1, r, v, at_ + 1, wi, true, by first | rfl | go_num, by first | rfl | go_num, by first | rfl | go_num, by go_num, by first | rfl | go_num, rfl, by omega, by omega, by omega, by omega, by omega, by omega, by omega, by omega, HQ, HBN⟩
        case measure => simp [intOf]; omega
      · have hak' : ((at_ : Int) == k) = false := beq_eq_false_iff_ne.2 hak
        cases ins with
        | true =>
          by_cases h8 : x.op = 8
          · have hop : x.op = 8 := h8
            have HQ := Lib.hid (HST.out (at_ + 1) (r) (v) false false (fol_next' ⟨by omega, by omega⟩) ⟨fun h => (by cases h), fun h => by rcases h with ⟨_, h⟩ | h; exact absurd h8 h; exact absurd h hak⟩ (by simp <;> omega) (by rw [if_neg (by decide)]) (by rw [if_neg (by decide)]))
            have HOP := Lib.hid hop
            rw [hop] at y0 HBN
            clear hop
            go_wp2_with fail
            go_roundw
            case rel => exact ⟨n + 1, r, v, at_ + 1, wi, false, by first | rfl | go_num, by first | rfl | go_num, by first | rfl | go_num, by go_num, by first | rfl | go_num, rfl, by omega, by omega, by omega, by omega, by omega, by omega, by omega, by omega, HQ, HBN⟩
            case measure => simp [intOf]; omega
          · skip
            by_cases h4 : x.op = 4
            · have hop : x.op = 4 := h4
              clear h4
              obtain ⟨h0, h1⟩ := skV_ok x
              rw [skV_imm HC.out (by omega)] at h0 h1
              obtain ⟨xi, hxi⟩ : ∃ xi : Nat, x.i = xi := ⟨x.i.toNat, by omega⟩
              have hfo := fol_jump (ps := ps) (i := at_) HC.out (by omega) hxi
              have hle := (HV.out.fol HX.out _ hfo).2
              rw [HL.out] at hle
              have HQ := Lib.hid (HST.out (at_ + 1 + xi) (r) (v) true true hfo ⟨fun _ => .inl ⟨rfl, by omega⟩, fun _ => rfl⟩ (by simp <;> omega) (by rw [if_pos rfl, one_off (by simp; omega)]; omega) (by rw [if_pos rfl, one_off (by simp; omega)]; omega))
              have HOP := Lib.hid hop
              rw [hop] at y0 HBN
              rw [hxi] at y4 HBN
              clear hop h0 h1 hxi hfo
              have hxm : at_ + 1 + xi ≤ m := by omega
              have hx64 : (xi : Int) ≤ 64 := by omega
              go_wp2_with fail
              go_roundw
              case rel => exact ⟨n + 1, r, v, at_ + 1 + xi, wi, true, by first | rfl | go_num, by first | rfl | go_num, by first | rfl | go_num, by go_num, by first | rfl | go_num, rfl, by omega, by omega, by omega, by omega, by omega, by omega, by omega, by omega, HQ, HBN⟩
              case measure => simp [intOf]; omega
            · skip
              by_cases h5 : x.op = 5
              · have hop : x.op = 5 := h5
                clear h4 h5
                obtain ⟨h0, h1⟩ := skV_ok x
                rw [skV_imm HC.out (by omega)] at h0 h1
                obtain ⟨xi, hxi⟩ : ∃ xi : Nat, x.i = xi := ⟨x.i.toNat, by omega⟩
                have hfo := fol_jump (ps := ps) (i := at_) HC.out (by omega) hxi
                have hle := (HV.out.fol HX.out _ hfo).2
                rw [HL.out] at hle
                have HQJ := Lib.hid (HST.out (at_ + 1 + xi) (r) (v) true true hfo ⟨fun _ => .inl ⟨rfl, by omega⟩, fun _ => rfl⟩ (by simp <;> omega) (by rw [if_pos rfl, one_off (by simp; omega)]; omega) (by rw [if_pos rfl, one_off (by simp; omega)]; omega))
                have HQN := Lib.hid (HST.out (at_ + 1) (r) (v) true true (fol_next (by omega) (fun h => absurd (show x.op = 5 ∨ x.op = 6 by omega) h)) ⟨fun _ => .inl ⟨rfl, by omega⟩, fun _ => rfl⟩ (by simp <;> omega) (by rw [if_pos rfl, one_off (by simp; omega)]; omega) (by rw [if_pos rfl, one_off (by simp; omega)]; omega))
                have HOP := Lib.hid hop
                rw [hop] at y0 HBN
                rw [hxi] at y4 HBN
                clear hop h0 h1 hxi hfo
                have hxm : at_ + 1 + xi ≤ m := by omega
                have hx64 : (xi : Int) ≤ 64 := by omega
                by_cases hww : wi < nw
                · have hwwI : (wi : Int) < nw := by omega
                  obtain ⟨bw, ow, z, rfl, hbl, hcw⟩ := HBo.out wi hww
                  cases z with
                  | true =>
                    have HQ := HQJ
                    go_wp2_with fail
                    go_roundw
                    case rel => exact ⟨n + 1, r, v, at_ + 1 + xi, wi + 1, true, by first | rfl | go_num, by first | rfl | go_num, by first | rfl | go_num, by go_num, by first | rfl | go_num, rfl, by omega, by omega, by omega, by omega, by omega, by omega, by omega, by omega, HQ, HBN⟩
                    case measure => simp [intOf]; omega
                  | false =>
                    have HQ := HQN
                    go_wp2_with fail
                    go_roundw
                    case rel => exact ⟨n + 1, r, v, at_ + 1, wi + 1, true, by first | rfl | go_num, by first | rfl | go_num, by first | rfl | go_num, by go_num, by first | rfl | go_num, rfl, by omega, by omega, by omega, by omega, by omega, by omega, by omega, by omega, HQ, HBN⟩
                    case measure => simp [intOf]; omega
                · have hwwI : ¬ (wi : Int) < nw := by omega
                  have HQ := HQN
                  go_wp2_with fail
                  go_roundw
                  case rel => exact ⟨n + 1, r, v, at_ + 1, wi + 1, true, by first | rfl | go_num, by first | rfl | go_num, by first | rfl | go_num, by go_num, by first | rfl | go_num, rfl, by omega, by omega, by omega, by omega, by omega, by omega, by omega, by omega, HQ, HBN⟩
                  case measure => simp [intOf]; omega
              · skip
                by_cases h6 : x.op = 6
                · have hop : x.op = 6 := h6
                  clear h4 h5 h6
                  obtain ⟨h0, h1⟩ := skV_ok x
                  rw [skV_imm HC.out (by omega)] at h0 h1
                  obtain ⟨xi, hxi⟩ : ∃ xi : Nat, x.i = xi := ⟨x.i.toNat, by omega⟩
                  have hfo := fol_jump (ps := ps) (i := at_) HC.out (by omega) hxi
                  have hle := (HV.out.fol HX.out _ hfo).2
                  rw [HL.out] at hle
                  have HQJ := Lib.hid (HST.out (at_ + 1 + xi) (r) (v) true true hfo ⟨fun _ => .inl ⟨rfl, by omega⟩, fun _ => rfl⟩ (by simp <;> omega) (by rw [if_pos rfl, one_off (by simp; omega)]; omega) (by rw [if_pos rfl, one_off (by simp; omega)]; omega))
                  have HQN := Lib.hid (HST.out (at_ + 1) (r) (v) true true (fol_next (by omega) (fun h => absurd (show x.op = 5 ∨ x.op = 6 by omega) h)) ⟨fun _ => .inl ⟨rfl, by omega⟩, fun _ => rfl⟩ (by simp <;> omega) (by rw [if_pos rfl, one_off (by simp; omega)]; omega) (by rw [if_pos rfl, one_off (by simp; omega)]; omega))
                  have HOP := Lib.hid hop
                  rw [hop] at y0 HBN
                  rw [hxi] at y4 HBN
                  clear hop h0 h1 hxi hfo
                  have hxm : at_ + 1 + xi ≤ m := by omega
                  have hx64 : (xi : Int) ≤ 64 := by omega
                  by_cases hww : wi < nw
                  · have hwwI : (wi : Int) < nw := by omega
                    obtain ⟨bw, ow, z, rfl, hbl, hcw⟩ := HBo.out wi hww
                    cases z with
                    | true =>
                      have HQ := HQJ
                      go_wp2_with fail
                      go_roundw
                      case rel => exact ⟨n + 1, r, v, at_ + 1 + xi, wi + 1, true, by first | rfl | go_num, by first | rfl | go_num, by first | rfl | go_num, by go_num, by first | rfl | go_num, rfl, by omega, by omega, by omega, by omega, by omega, by omega, by omega, by omega, HQ, HBN⟩
                      case measure => simp [intOf]; omega
                    | false =>
                      have HQ := HQN
                      go_wp2_with fail
                      go_roundw
                      case rel => exact ⟨n + 1, r, v, at_ + 1, wi + 1, true, by first | rfl | go_num, by first | rfl | go_num, by first | rfl | go_num, by go_num, by first | rfl | go_num, rfl, by omega, by omega, by omega, by omega, by omega, by omega, by omega, by omega, HQ, HBN⟩
                      case measure => simp [intOf]; omega
                  · have hwwI : ¬ (wi : Int) < nw := by omega
                    have HQ := HQN
                    go_wp2_with fail
                    go_roundw
                    case rel => exact ⟨n + 1, r, v, at_ + 1, wi + 1, true, by first | rfl | go_num, by first | rfl | go_num, by first | rfl | go_num, by go_num, by first | rfl | go_num, rfl, by omega, by omega, by omega, by omega, by omega, by omega, by omega, by omega, HQ, HBN⟩
                    case measure => simp [intOf]; omega
                · skip
                  by_cases h9 : x.op = 9
                  · have hop : x.op = 9 := h9
                    clear h4 h5 h6 h9
                    obtain ⟨b9, har⟩ := arE_end HV.out HX.out hop
                    obtain ⟨hmem, hlt1, hle1⟩ := around_mem har
                    have hle2 := HV.out.tx _ hmem
                    simp only at hlt1 hle1 hle2
                    obtain ⟨ce, hce⟩ : ∃ ce : Nat, arEnd ps at_ = ce := ⟨(arEnd ps at_).toNat, by omega⟩
                    rw [hce] at har hmem hle1 hle2
                    obtain ⟨je, ye, hye, hy8, hje⟩ := tx_commit8 hmem hle2
                    obtain rfl : je = ce := by have := hje; simp only at this; omega
                    have HQ := Lib.hid (HST.out (je + 1) (r) (v) true false (fol_abort hop har) ⟨fun _ => .inl ⟨rfl, by omega⟩, fun _ => rfl⟩ (by simp <;> omega) (by rw [if_pos rfl, one_off (by simp; omega)]; omega) (by rw [if_pos rfl, one_off (by simp; omega)]; omega))
                    have hat : at_ < je := by
                      rcases Nat.lt_or_ge at_ je with h | h
                      · exact h
                      · obtain rfl : at_ = je := by omega
                        rw [HX.out] at hye
                        cases hye
                        omega
                    have hjm : je < m := by rw [HL.out] at hle2; omega
                    have hbt : ∀ (q : Nat) (z : I5), ps[q]? = some z → at_ ≤ q → q < je → z.op ≠ 8 := fun q z hz h1 h2 => by
                      by_cases e : q = at_
                      · subst e; rw [HX.out] at hz; cases hz; omega
                      · exact tx_between hmem hz (by show b9 < (q : Int); omega) (by show (q : Int) < je; omega)
                    have hcl : ∀ (q : Nat) (z : I5), ps[q]? = some z → wr.cell? ⟨g, off + q * 5, none⟩ = some (.int .i64 z.op) := fun q z hz => by
                      obtain ⟨g2, o2, z2, e2, _, hz2, c2, _⟩ := HRw.out.at (k := q) (by have := (List.getElem?_eq_some_iff.1 hz).1; rw [HL.out] at this; exact this)
                      injection e2 with e2
                      injection e2 with e3 e4
                      subst e3 e4
                      rw [hz] at hz2
                      cases hz2
                      exact c2
                    have HBT := Lib.hid hbt
                    have HCL := Lib.hid hcl
                    have HYE := Lib.hid hye
                    have HY8 := Lib.hid hy8
                    have HOP := Lib.hid hop
                    rw [hop] at y0 HBN
                    clear hop har hmem hle1 hle2 hce hye hy8 hje hlt1 hbt hcl
                    go_wp2_with fail
                    go_loopw [16] (fun nv wr2 => ∃ q : Nat, nv = .int .i64 ((q : Int) + 1) ∧ at_ ≤ q ∧ q ≤ je ∧ wr2 = wr.alloc (.cells #[.int .i64 9, .int .i64 x.a, .int .i64 x.b, .int .i64 x.c, .int .i64 x.i] 31)) (fun nv _ => je + 1 - (intOf nv).toNat)
                    case atStart => exact ⟨at_, by go_num, by omega, by omega, rfl⟩
                    case round =>
                      obtain ⟨q, rfl, hq1, hq2, rfl⟩ := hrel
                      by_cases hqj : q < je
                      · have hqjI : (q : Int) < je := by omega
                        have hqmI : (q : Int) < m := by omega
                        obtain ⟨z, hz⟩ : ∃ z, ps[q]? = some z := ⟨_, List.getElem?_eq_getElem (by rw [HL.out]; omega)⟩
                        have hz8 := HBT.out q z hz hq1 hqj
                        have hz8' : (z.op != 8) = true := bne_iff_ne.2 hz8
                        have cq := HCL.out q z hz
                        clear hz hz8
                        go_wp2_with fail
                        go_roundw
                        case rel => exact ⟨q + 1, by go_num, by omega, by omega, by first | rfl | trivial⟩
                        case measure => simp [intOf]; omega
                      · obtain rfl : q = je := by omega
                        have hqmI : (q : Int) < m := by omega
                        have cq := HCL.out q ye HYE.out
                        rw [HY8.out] at cq
                        go_wp2_with fail
                        go_roundw
                        case rel => exact ⟨n + 1, r, v, q + 1, wi, false, by first | rfl | go_num, by first | rfl | go_num, by first | rfl | go_num, by go_num, by first | rfl | go_num, rfl, by omega, by omega, by omega, by omega, by omega, by omega, by omega, by omega, HQ, HBN⟩
                        case measure => simp [intOf]; omega
                  · skip
                    by_cases h10 : x.op = 10
                    · have hop : x.op = 10 := h10
                      clear h4 h5 h6 h9 h10
                      have HQ := Lib.hid (HST.out (at_ + 1) (r + 1) (v) true true (fol_next' ⟨by omega, by omega⟩) ⟨fun _ => .inl ⟨rfl, by omega⟩, fun _ => rfl⟩ (by simp <;> omega) (by rw [if_pos rfl, one_on (by simp [hop])]) (by rw [if_pos rfl, one_off (by simp; omega)]; omega))
                      have HOP := Lib.hid hop
                      rw [hop] at y0 HBN
                      clear hop
                      go_wp2_with fail
                      go_roundw
                      case rel => exact ⟨n + 1, r + 1, v, at_ + 1, wi, true, by first | rfl | go_num, by first | rfl | go_num, by first | rfl | go_num, by go_num, by first | rfl | go_num, rfl, by omega, by omega, by omega, by omega, by omega, by omega, by omega, by omega, HQ, HBN⟩
                      case measure => simp [intOf]; omega
                    · skip
                      by_cases h11 : x.op = 11
                      · have hop : x.op = 11 := h11
                        clear h4 h5 h6 h9 h10 h11
                        have HQ := Lib.hid (HST.out (at_ + 1) (r) (v + 1) true true (fol_next' ⟨by omega, by omega⟩) ⟨fun _ => .inl ⟨rfl, by omega⟩, fun _ => rfl⟩ (by simp <;> omega) (by rw [if_pos rfl, one_off (by simp; omega)]; omega) (by rw [if_pos rfl, one_on (by simp [hop])]))
                        have HOP := Lib.hid hop
                        rw [hop] at y0 HBN
                        clear hop
                        go_wp2_with fail
                        go_roundw
                        case rel => exact ⟨n + 1, r, v + 1, at_ + 1, wi, true, by first | rfl | go_num, by first | rfl | go_num, by first | rfl | go_num, by go_num, by first | rfl | go_num, rfl, by omega, by omega, by omega, by omega, by omega, by omega, by omega, by omega, HQ, HBN⟩
                        case measure => simp [intOf]; omega
                      · skip
                        by_cases h15 : x.op = 15
                        · have hop : x.op = 15 := h15
                          clear h4 h5 h6 h9 h10 h11 h15
                          have HQ := Lib.hid (HST.out (at_ + 1) (r + 1) (v + 1) true true (fol_next' ⟨by omega, by omega⟩) ⟨fun _ => .inl ⟨rfl, by omega⟩, fun _ => rfl⟩ (by simp <;> omega) (by rw [if_pos rfl, one_on (by simp [hop])]) (by rw [if_pos rfl, one_on (by simp [hop])]))
                          have HOP := Lib.hid hop
                          rw [hop] at y0 HBN
                          clear hop
                          go_wp2_with fail
                          go_roundw
                          case rel => exact ⟨n + 1, r + 1, v + 1, at_ + 1, wi, true, by first | rfl | go_num, by first | rfl | go_num, by first | rfl | go_num, by go_num, by first | rfl | go_num, rfl, by omega, by omega, by omega, by omega, by omega, by omega, by omega, by omega, HQ, HBN⟩
                          case measure => simp [intOf]; omega
                        · skip
                          have hop : True := trivial
                          skip
                          have HQ := Lib.hid (HST.out (at_ + 1) (r) (v) true true (fol_next' ⟨by omega, by omega⟩) ⟨fun _ => .inl ⟨rfl, by omega⟩, fun _ => rfl⟩ (by simp <;> omega) (by rw [if_pos rfl, one_off (by simp; omega)]; omega) (by rw [if_pos rfl, one_off (by simp; omega)]; omega))
                          have p4 : (x.op == 4) = false := beq_eq_false_iff_ne.2 (by omega)
                          have p5 : (x.op == 5) = false := beq_eq_false_iff_ne.2 (by omega)
                          have p6 : (x.op == 6) = false := beq_eq_false_iff_ne.2 (by omega)
                          have p8 : (x.op == 8) = false := beq_eq_false_iff_ne.2 (by omega)
                          have p9 : (x.op == 9) = false := beq_eq_false_iff_ne.2 (by omega)
                          have p10 : (x.op == 10) = false := beq_eq_false_iff_ne.2 (by omega)
                          have p11 : (x.op == 11) = false := beq_eq_false_iff_ne.2 (by omega)
                          have p15 : (x.op == 15) = false := beq_eq_false_iff_ne.2 (by omega)
                          have p8' : (x.op != 8) = true := bne_iff_ne.2 (by omega)
                          clear hop
                          go_wp2_with fail
                          go_roundw
                          case rel => exact ⟨n + 1, r, v, at_ + 1, wi, true, by first | rfl | go_num, by first | rfl | go_num, by first | rfl | go_num, by go_num, by first | rfl | go_num, rfl, by omega, by omega, by omega, by omega, by omega, by omega, by omega, by omega, HQ, HBN⟩
                          case measure => simp [intOf]; omega
        | false =>
          by_cases h4 : x.op = 4
          · have hop : x.op = 4 := h4
            clear h4
            obtain ⟨h0, h1⟩ := skV_ok x
            rw [skV_imm HC.out (by omega)] at h0 h1
            obtain ⟨xi, hxi⟩ : ∃ xi : Nat, x.i = xi := ⟨x.i.toNat, by omega⟩
            have hfo := fol_jump (ps := ps) (i := at_) HC.out (by omega) hxi
            have hle := (HV.out.fol HX.out _ hfo).2
            rw [HL.out] at hle
            have HQ := Lib.hid (HST.out (at_ + 1 + xi) (r) (v) false false hfo ⟨fun h => (by cases h), fun h => by rcases h with ⟨h, _⟩ | h; cases h; exact absurd h hak⟩ (by simp <;> omega) (by rw [if_neg (by decide)]) (by rw [if_neg (by decide)]))
            have HOP := Lib.hid hop
            rw [hop] at y0 HBN
            rw [hxi] at y4 HBN
            clear hop h0 h1 hxi hfo
            have hxm : at_ + 1 + xi ≤ m := by omega
            have hx64 : (xi : Int) ≤ 64 := by omega
            go_wp2_with fail
            go_roundw
            case rel => exact ⟨n + 1, r, v, at_ + 1 + xi, wi, false, by first | rfl | go_num, by first | rfl | go_num, by first | rfl | go_num, by go_num, by first | rfl | go_num, rfl, by omega, by omega, by omega, by omega, by omega, by omega, by omega, by omega, HQ, HBN⟩
            case measure => simp [intOf]; omega
          · skip
            by_cases h5 : x.op = 5
            · have hop : x.op = 5 := h5
              clear h4 h5
              obtain ⟨h0, h1⟩ := skV_ok x
              rw [skV_imm HC.out (by omega)] at h0 h1
              obtain ⟨xi, hxi⟩ : ∃ xi : Nat, x.i = xi := ⟨x.i.toNat, by omega⟩
              have hfo := fol_jump (ps := ps) (i := at_) HC.out (by omega) hxi
              have hle := (HV.out.fol HX.out _ hfo).2
              rw [HL.out] at hle
              have HQJ := Lib.hid (HST.out (at_ + 1 + xi) (r) (v) false false hfo ⟨fun h => (by cases h), fun h => by rcases h with ⟨h, _⟩ | h; cases h; exact absurd h hak⟩ (by simp <;> omega) (by rw [if_neg (by decide)]) (by rw [if_neg (by decide)]))
              have HQN := Lib.hid (HST.out (at_ + 1) (r) (v) false false (fol_next (by omega) (fun h => absurd (show x.op = 5 ∨ x.op = 6 by omega) h)) ⟨fun h => (by cases h), fun h => by rcases h with ⟨h, _⟩ | h; cases h; exact absurd h hak⟩ (by simp <;> omega) (by rw [if_neg (by decide)]) (by rw [if_neg (by decide)]))
              have HOP := Lib.hid hop
              rw [hop] at y0 HBN
              rw [hxi] at y4 HBN
              clear hop h0 h1 hxi hfo
              have hxm : at_ + 1 + xi ≤ m := by omega
              have hx64 : (xi : Int) ≤ 64 := by omega
              by_cases hww : wi < nw
              · have hwwI : (wi : Int) < nw := by omega
                obtain ⟨bw, ow, z, rfl, hbl, hcw⟩ := HBo.out wi hww
                cases z with
                | true =>
                  have HQ := HQJ
                  go_wp2_with fail
                  go_roundw
                  case rel => exact ⟨n + 1, r, v, at_ + 1 + xi, wi + 1, false, by first | rfl | go_num, by first | rfl | go_num, by first | rfl | go_num, by go_num, by first | rfl | go_num, rfl, by omega, by omega, by omega, by omega, by omega, by omega, by omega, by omega, HQ, HBN⟩
                  case measure => simp [intOf]; omega
                | false =>
                  have HQ := HQN
                  go_wp2_with fail
                  go_roundw
                  case rel => exact ⟨n + 1, r, v, at_ + 1, wi + 1, false, by first | rfl | go_num, by first | rfl | go_num, by first | rfl | go_num, by go_num, by first | rfl | go_num, rfl, by omega, by omega, by omega, by omega, by omega, by omega, by omega, by omega, HQ, HBN⟩
                  case measure => simp [intOf]; omega
              · have hwwI : ¬ (wi : Int) < nw := by omega
                have HQ := HQN
                go_wp2_with fail
                go_roundw
                case rel => exact ⟨n + 1, r, v, at_ + 1, wi + 1, false, by first | rfl | go_num, by first | rfl | go_num, by first | rfl | go_num, by go_num, by first | rfl | go_num, rfl, by omega, by omega, by omega, by omega, by omega, by omega, by omega, by omega, HQ, HBN⟩
                case measure => simp [intOf]; omega
            · skip
              by_cases h6 : x.op = 6
              · have hop : x.op = 6 := h6
                clear h4 h5 h6
                obtain ⟨h0, h1⟩ := skV_ok x
                rw [skV_imm HC.out (by omega)] at h0 h1
                obtain ⟨xi, hxi⟩ : ∃ xi : Nat, x.i = xi := ⟨x.i.toNat, by omega⟩
                have hfo := fol_jump (ps := ps) (i := at_) HC.out (by omega) hxi
                have hle := (HV.out.fol HX.out _ hfo).2
                rw [HL.out] at hle
                have HQJ := Lib.hid (HST.out (at_ + 1 + xi) (r) (v) false false hfo ⟨fun h => (by cases h), fun h => by rcases h with ⟨h, _⟩ | h; cases h; exact absurd h hak⟩ (by simp <;> omega) (by rw [if_neg (by decide)]) (by rw [if_neg (by decide)]))
                have HQN := Lib.hid (HST.out (at_ + 1) (r) (v) false false (fol_next (by omega) (fun h => absurd (show x.op = 5 ∨ x.op = 6 by omega) h)) ⟨fun h => (by cases h), fun h => by rcases h with ⟨h, _⟩ | h; cases h; exact absurd h hak⟩ (by simp <;> omega) (by rw [if_neg (by decide)]) (by rw [if_neg (by decide)]))
                have HOP := Lib.hid hop
                rw [hop] at y0 HBN
                rw [hxi] at y4 HBN
                clear hop h0 h1 hxi hfo
                have hxm : at_ + 1 + xi ≤ m := by omega
                have hx64 : (xi : Int) ≤ 64 := by omega
                by_cases hww : wi < nw
                · have hwwI : (wi : Int) < nw := by omega
                  obtain ⟨bw, ow, z, rfl, hbl, hcw⟩ := HBo.out wi hww
                  cases z with
                  | true =>
                    have HQ := HQJ
                    go_wp2_with fail
                    go_roundw
                    case rel => exact ⟨n + 1, r, v, at_ + 1 + xi, wi + 1, false, by first | rfl | go_num, by first | rfl | go_num, by first | rfl | go_num, by go_num, by first | rfl | go_num, rfl, by omega, by omega, by omega, by omega, by omega, by omega, by omega, by omega, HQ, HBN⟩
                    case measure => simp [intOf]; omega
                  | false =>
                    have HQ := HQN
                    go_wp2_with fail
                    go_roundw
                    case rel => exact ⟨n + 1, r, v, at_ + 1, wi + 1, false, by first | rfl | go_num, by first | rfl | go_num, by first | rfl | go_num, by go_num, by first | rfl | go_num, rfl, by omega, by omega, by omega, by omega, by omega, by omega, by omega, by omega, HQ, HBN⟩
                    case measure => simp [intOf]; omega
                · have hwwI : ¬ (wi : Int) < nw := by omega
                  have HQ := HQN
                  go_wp2_with fail
                  go_roundw
                  case rel => exact ⟨n + 1, r, v, at_ + 1, wi + 1, false, by first | rfl | go_num, by first | rfl | go_num, by first | rfl | go_num, by go_num, by first | rfl | go_num, rfl, by omega, by omega, by omega, by omega, by omega, by omega, by omega, by omega, HQ, HBN⟩
                  case measure => simp [intOf]; omega
              · skip
                by_cases h9 : x.op = 9
                · have hop : x.op = 9 := h9
                  clear h4 h5 h6 h9
                  obtain ⟨b9, har⟩ := arE_end HV.out HX.out hop
                  obtain ⟨hmem, hlt1, hle1⟩ := around_mem har
                  have hle2 := HV.out.tx _ hmem
                  simp only at hlt1 hle1 hle2
                  obtain ⟨ce, hce⟩ : ∃ ce : Nat, arEnd ps at_ = ce := ⟨(arEnd ps at_).toNat, by omega⟩
                  rw [hce] at har hmem hle1 hle2
                  obtain ⟨je, ye, hye, hy8, hje⟩ := tx_commit8 hmem hle2
                  obtain rfl : je = ce := by have := hje; simp only at this; omega
                  have HQ := Lib.hid (HST.out (je + 1) (r) (v) false false (fol_abort hop har) ⟨fun h => (by cases h), fun h => by rcases h with ⟨h, _⟩ | h; cases h; exact absurd h hak⟩ (by simp <;> omega) (by rw [if_neg (by decide)]) (by rw [if_neg (by decide)]))
                  have hat : at_ < je := by
                    rcases Nat.lt_or_ge at_ je with h | h
                    · exact h
                    · obtain rfl : at_ = je := by omega
                      rw [HX.out] at hye
                      cases hye
                      omega
                  have hjm : je < m := by rw [HL.out] at hle2; omega
                  have hbt : ∀ (q : Nat) (z : I5), ps[q]? = some z → at_ ≤ q → q < je → z.op ≠ 8 := fun q z hz h1 h2 => by
                    by_cases e : q = at_
                    · subst e; rw [HX.out] at hz; cases hz; omega
                    · exact tx_between hmem hz (by show b9 < (q : Int); omega) (by show (q : Int) < je; omega)
                  have hcl : ∀ (q : Nat) (z : I5), ps[q]? = some z → wr.cell? ⟨g, off + q * 5, none⟩ = some (.int .i64 z.op) := fun q z hz => by
                    obtain ⟨g2, o2, z2, e2, _, hz2, c2, _⟩ := HRw.out.at (k := q) (by have := (List.getElem?_eq_some_iff.1 hz).1; rw [HL.out] at this; exact this)
                    injection e2 with e2
                    injection e2 with e3 e4
                    subst e3 e4
                    rw [hz] at hz2
                    cases hz2
                    exact c2
                  have HBT := Lib.hid hbt
                  have HCL := Lib.hid hcl
                  have HYE := Lib.hid hye
                  have HY8 := Lib.hid hy8
                  have HOP := Lib.hid hop
                  rw [hop] at y0 HBN
                  clear hop har hmem hle1 hle2 hce hye hy8 hje hlt1 hbt hcl
                  go_wp2_with fail
                  go_loopw [16] (fun nv wr2 => ∃ q : Nat, nv = .int .i64 ((q : Int) + 1) ∧ at_ ≤ q ∧ q ≤ je ∧ wr2 = wr.alloc (.cells #[.int .i64 9, .int .i64 x.a, .int .i64 x.b, .int .i64 x.c, .int .i64 x.i] 31)) (fun nv _ => je + 1 - (intOf nv).toNat)
                  case atStart => exact ⟨at_, by go_num, by omega, by omega, rfl⟩
                  case round =>
                    obtain ⟨q, rfl, hq1, hq2, rfl⟩ := hrel
                    by_cases hqj : q < je
                    · have hqjI : (q : Int) < je := by omega
                      have hqmI : (q : Int) < m := by omega
                      obtain ⟨z, hz⟩ : ∃ z, ps[q]? = some z := ⟨_, List.getElem?_eq_getElem (by rw [HL.out]; omega)⟩
                      have hz8 := HBT.out q z hz hq1 hqj
                      have hz8' : (z.op != 8) = true := bne_iff_ne.2 hz8
                      have cq := HCL.out q z hz
                      clear hz hz8
                      go_wp2_with fail
                      go_roundw
                      case rel => exact ⟨q + 1, by go_num, by omega, by omega, by first | rfl | trivial⟩
                      case measure => simp [intOf]; omega
                    · obtain rfl : q = je := by omega
                      have hqmI : (q : Int) < m := by omega
                      have cq := HCL.out q ye HYE.out
                      rw [HY8.out] at cq
                      go_wp2_with fail
                      go_roundw
                      case rel => exact ⟨n + 1, r, v, q + 1, wi, false, by first | rfl | go_num, by first | rfl | go_num, by first | rfl | go_num, by go_num, by first | rfl | go_num, rfl, by omega, by omega, by omega, by omega, by omega, by omega, by omega, by omega, HQ, HBN⟩
                      case measure => simp [intOf]; omega
                · skip
                  have hop : True := trivial
                  skip
                  have HQ := Lib.hid (HST.out (at_ + 1) (r) (v) false false (fol_next' ⟨by omega, by omega⟩) ⟨fun h => (by cases h), fun h => by rcases h with ⟨h, _⟩ | h; cases h; exact absurd h hak⟩ (by simp <;> omega) (by rw [if_neg (by decide)]) (by rw [if_neg (by decide)]))
                  have p4 : (x.op == 4) = false := beq_eq_false_iff_ne.2 (by omega)
                  have p5 : (x.op == 5) = false := beq_eq_false_iff_ne.2 (by omega)
                  have p6 : (x.op == 6) = false := beq_eq_false_iff_ne.2 (by omega)
                  have p9 : (x.op == 9) = false := beq_eq_false_iff_ne.2 (by omega)
                  clear hop
                  go_wp2_with fail
                  go_roundw
                  case rel => exact ⟨n + 1, r, v, at_ + 1, wi, false, by first | rfl | go_num, by first | rfl | go_num, by first | rfl | go_num, by go_num, by first | rfl | go_num, rfl, by omega, by omega, by omega, by omega, by omega, by omega, by omega, by omega, HQ, HBN⟩
                  case measure => simp [intOf]; omega
    · have hex : ¬ at_ < m ∨ (at_ < m ∧ ¬ n ≤ m) := by omega
      have HBE := hbw
      clear hgo
      rcases hex with h1 | ⟨h1, h2⟩
      · have h1' : ¬ (at_ : Int) < m := by omega
        go_wp2_with fail
        refine bodyPost_ret (results_tmp3 rfl _ _ _) rfl ?_
        exact ⟨⟨n, r, v, at_, ins, HW.out, rfl⟩, HBE.out⟩
      · have h1' : (at_ : Int) < m := by omega
        go_wp2_with fail
        refine bodyPost_ret (results_tmp3 rfl _ _ _) rfl ?_
        exact ⟨⟨n, r, v, at_, ins, HW.out, rfl⟩, HBE.out⟩
end Go.Proofs.YthnhmclnfgkppaaDoor.PgM
