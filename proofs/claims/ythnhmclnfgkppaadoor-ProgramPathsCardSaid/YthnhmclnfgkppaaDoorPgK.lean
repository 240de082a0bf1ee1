/-
  Programs without jumps and aborts (plain mathematics).
-/
import Derived.Test.YthnhmclnfgkppaaDoorPgO
namespace Go.Proofs.YthnhmclnfgkppaaDoor.PgK
open Go.RowKit
open IsaE IsaS IsaA IsaB IsaF PrgS PrgC PgS PgT PgU PgF PgV PgW PgX PgN
set_option linter.unusedVariables false

def keepB (x : I5) : Bool := decide (x.op ≠ 4 ∧ x.op ≠ 5 ∧ x.op ≠ 6 ∧ x.op ≠ 9)
theorem keep_iff {x : I5} : keepB x = true ↔ x.op ≠ 4 ∧ x.op ≠ 5 ∧ x.op ≠ 6 ∧ x.op ≠ 9 := decide_eq_true_iff
theorem chkGo_filter (ps qs : List I5) : ∀ (r : List I5) (k k' : Nat) (o o' : Int), (chkGo ps r k o).2 = 0 → (0 ≤ o ↔ 0 ≤ o') → (chkGo qs (r.filter keepB) k' o').2 = 0
  | [], k, k', o, o', h, ho => by
    unfold chkGo at h
    simp only [List.filter_nil]
    unfold chkGo
    by_cases h0 : 0 ≤ o
    · rw [if_pos h0] at h; cases h
    · rw [if_neg (fun h1 => h0 (ho.2 h1))]
  | x :: r, k, k', o, o', h, ho => by
    unfold chkGo at h
    by_cases he : errAt ps k x o ≠ 0
    · rw [if_pos he] at h
      exact absurd h he
    · rw [if_neg he] at h
      have he0 : errAt ps k x o = 0 := Classical.not_not.1 he
      by_cases hk : keepB x = true
      · rw [List.filter_cons_of_pos hk]
        unfold chkGo
        obtain ⟨k4, k5, k6, k9⟩ := keep_iff.1 hk
        have hsk : skB x = false := not_of fun hc => by rcases skB_op hc with h | h | h <;> omega
        have hn : nestB x o' = nestB x o := by
          unfold nestB
          rw [show decide (0 ≤ o') = decide (0 ≤ o) from decide_eq_decide.2 ho.symm, show decide (o' < 0) = decide (o < 0) from decide_eq_decide.2 (by omega)]
        have hp : placeB (plI x) o' = placeB (plI x) o := by
          unfold placeB
          rw [show decide (0 ≤ o') = decide (0 ≤ o) from decide_eq_decide.2 ho.symm, show decide (o' < 0) = decide (o < 0) from decide_eq_decide.2 (by omega)]
        have he' : errAt qs k' x o' = 0 := by
          unfold errAt at he0 ⊢
          rw [hn, hp]
          by_cases c1 : chkI x ≠ 0
          · rw [if_pos c1] at he0; exact absurd he0 c1
          · rw [if_neg c1] at he0 ⊢
            by_cases c2 : nestB x o = true
            · rw [if_pos c2] at he0; cases he0
            · rw [if_neg c2] at he0 ⊢
              by_cases c3 : placeB (plI x) o = true
              · rw [if_pos c3] at he0; cases he0
              · rw [if_neg c3, if_neg (fun hc => by rw [hsk] at hc; cases hc.1)]
        rw [if_neg (fun hc => hc he')]
        refine chkGo_filter ps qs r (k + 1) (k' + 1) _ _ h ?_
        unfold nextO
        by_cases h7 : x.op = 7
        · rw [if_pos h7, if_pos h7]; omega
        · rw [if_neg h7, if_neg h7]
          by_cases h8 : x.op = 8
          · rw [if_pos h8, if_pos h8]
          · rw [if_neg h8, if_neg h8]; exact ho
      · rw [List.filter_cons_of_neg (by simpa using hk)]
        have hx : ¬ (x.op ≠ 4 ∧ x.op ≠ 5 ∧ x.op ≠ 6 ∧ x.op ≠ 9) := fun hc => hk (keep_iff.2 hc)
        have h7 : x.op ≠ 7 := by omega
        have h8 : x.op ≠ 8 := by omega
        have hno : nextO k x o = o := by unfold nextO; rw [if_neg h7, if_neg h8]
        rw [hno] at h
        exact chkGo_filter ps qs r (k + 1) k' _ _ h ho
theorem filter_valid {ps : List I5} (hv : Valid ps) : Valid (ps.filter keepB) := by
  refine valid_of ?_
  have h := refChk_zero hv
  unfold refChk at h ⊢
  have hl := hv.len
  have hl2 := List.length_filter_le keepB ps
  rw [if_neg (by omega)] at h
  rw [if_neg (by omega)]
  exact chkGo_filter ps _ ps 0 0 _ _ h (by omega)
/-- No jump, no abort. -/
def Str (qs : List I5) : Prop := ∀ x ∈ qs, keepB x = true
theorem filter_str (ps : List I5) : Str (ps.filter keepB) := fun x hx => (List.mem_filter.1 hx).2
theorem str_fol {qs : List I5} (hs : Str qs) {i : Nat} {x : I5} (hx : qs[i]? = some x) : folV qs i x = [(i : Int) + 1] := by
  obtain ⟨k4, k5, k6, k9⟩ := keep_iff.1 (hs x (List.mem_of_getElem? hx))
  unfold folV
  rw [if_neg k9, if_neg (by omega), (skI_zero (x := x) (by omega)).1, Int.add_zero]
theorem str_rest {qs : List I5} (hs : Str qs) {wt : I5 → Int} {lo hi : Int} {R : Nat → Int} (h : PgV.Rest qs wt lo hi R) (hh : hi < qs.length) (hw : ∀ x ∈ qs, 0 ≤ wt x) {i : Nat} {x : I5} (hx : qs[i]? = some x) (h1 : lo ≤ (i : Int)) (h2 : (i : Int) ≤ hi) : R i = R (i + 1) + wt x := by
  have hn := h.nn hh hw (i + 1)
  rw [h.eq i x h1 h2 hx, str_fol hs hx]
  show max 0 (R ((i : Int) + 1).toNat) + wt x = _
  rw [show ((i : Int) + 1).toNat = i + 1 by omega]
  omega
theorem str_long {qs : List I5} (hs : Str qs) {R : Nat → Int} (h : PgV.Rest qs wOne 0 ((qs.length : Int) - 1) R) : R 0 = qs.length := by
  have key : ∀ d : Nat, d ≤ qs.length → R (qs.length - d) = d := by
    intro d
    induction d with
    | zero => intro _; exact h.out _ (by omega)
    | succ d ih =>
      intro hd
      have hx : qs[qs.length - (d + 1)]? = some (qs[qs.length - (d + 1)]'(by omega)) := List.getElem?_eq_getElem _
      rw [str_rest hs h (by omega) (fun _ _ => by unfold wOne; omega) hx (by omega) (by omega), show qs.length - (d + 1) + 1 = qs.length - d by omega, ih (by omega)]
      unfold wOne
      omega
  have := key qs.length (Nat.le_refl _)
  rwa [Nat.sub_self] at this
/-- What has been counted before position i. -/
def Cnt (qs : List I5) (wt : I5 → Int) (k cm i : Nat) (r : Int) : Prop := ∀ R, PgV.Rest qs wt k cm R → r + R i = R k
section
variable {qs : List I5} {wt : I5 → Int} {k cm i : Nat} {r : Int} {x : I5}
theorem cnt_start (hs : Str qs) (hcm : cm < qs.length) (hw : ∀ x ∈ qs, 0 ≤ wt x) (hx : qs[k]? = some x) (hk : k ≤ cm) (h0 : wt x = 0) : Cnt qs wt k cm (k + 1) 0 := fun R h => by
  rw [str_rest hs h (by omega) hw hx (by omega) (by omega), h0]
  omega
theorem cnt_step (hs : Str qs) (hcm : cm < qs.length) (hw : ∀ x ∈ qs, 0 ≤ wt x) (h : Cnt qs wt k cm i r) (hx : qs[i]? = some x) (hk : k ≤ i) (hi : i ≤ cm) : Cnt qs wt k cm (i + 1) (r + wt x) := fun R hR => by
  have := h R hR
  rw [str_rest hs hR (by omega) hw hx (by omega) (by omega)] at this
  omega
theorem cnt_end (hs : Str qs) (hcm : cm < qs.length) (hw : ∀ x ∈ qs, 0 ≤ wt x) (h : Cnt qs wt k cm cm r) (hx : qs[cm]? = some x) (hk : k ≤ cm) (h0 : wt x = 0) {R : Nat → Int} (hR : PgV.Rest qs wt k cm R) : R k = r := by
  have h1 := h R hR
  have h2 := hR.out (cm + 1) (by omega)
  rw [str_rest hs hR (by omega) hw hx (by omega) (by omega), h2, h0] at h1
  omega
end
theorem one_off {zs : List Int} {x : I5} (h : x.op ∉ zs) : oneOf zs x = 0 := if_neg h
theorem one_on {zs : List Int} {x : I5} (h : x.op ∈ zs) : oneOf zs x = 1 := if_pos h
theorem w_begin {x : I5} (h : x.op = 7 ∨ x.op = 8) : wRd x = 0 ∧ wWr x = 0 ∧ wAl x = 0 ∧ wFr x = 0 := by
  refine ⟨one_off (by simp; omega), ?_, one_off (by simp; omega), one_off (by simp; omega)⟩
  unfold wWr
  rw [if_neg (by omega)]
  exact one_off (by simp; omega)
theorem nn_rd (qs : List I5) : ∀ x ∈ qs, 0 ≤ wRd x := fun x _ => (oneOf_in _ x).1
theorem nn_al (qs : List I5) : ∀ x ∈ qs, 0 ≤ wAl x := fun x _ => (oneOf_in _ x).1
theorem nn_fr (qs : List I5) : ∀ x ∈ qs, 0 ≤ wFr x := fun x _ => (oneOf_in _ x).1
theorem nn_wr {qs : List I5} (hv : Valid qs) : ∀ x ∈ qs, 0 ≤ wWr x := fun x hx => (wWr_in (chk_mem hv hx)).1
end Go.Proofs.YthnhmclnfgkppaaDoor.PgK
