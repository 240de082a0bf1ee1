/-
  What the bound on an argument's bulk says of a script's programs, and of its bytes.
-/
import Derived.Test.YtafidppjabdecaaCodeT
namespace Go.Proofs.Ytafidppjabdecaa.CodeTU
open Go.ChangeShapes Go.WideShapes Go.ChangeAt Go.RowKit
open PlainT BlkW LawFrame CodeS CodeW CodeA CodeP
set_option linter.unusedVariables false
set_option maxHeartbeats 1000000

theorem bulk_one {H : Type} (d : DataW H) : 1 ≤ Rows.uptoBulk d := by
  cases d with
  | lit l => cases l <;> simp [Rows.uptoBulk]
  | _ => simp [Rows.uptoBulk]
theorem bulk_part {H : Type} : ∀ {l : List (DataW H)} {d : DataW H}, d ∈ l → Rows.uptoBulk d ≤ Rows.uptoBulkAll l
  | x :: r, d, h => by
    rcases List.mem_cons.1 h with rfl | h1
    · simp only [Rows.uptoBulkAll]; omega
    · have := bulk_part h1
      simp only [Rows.uptoBulkAll]; omega
theorem bulk_len {H : Type} : ∀ l : List (DataW H), l.length ≤ Rows.uptoBulkAll l
  | [] => Nat.zero_le _
  | x :: r => by
    have h1 := bulk_one x
    have h2 := bulk_len r
    simp only [Rows.uptoBulkAll, List.length_cons]; omega
section
variable {H : Type} {enc : TypeId × Value → H} {W : World} {base : Nat} {sp : Nat → Bool} {held : Bool}
theorem prow_bulk {n : Nat} {A : Option Addr} {k c : Nat} {x : DataW H × List MemPlace} (h : DataW.trod enc Try.prog W base sp held n 53 [.slice A k c] = some x) : k ≤ Rows.uptoBulk x.1 := by
  rcases Go.Deep.open_slice Try.underlying53 h with ⟨hcs, _⟩ | ⟨a, len, cap, m, n', D, Pl, hcs, hb, hl, hm, hmm, hx, hi⟩
  · simp at hcs
    omega
  · simp at hcs
    obtain ⟨_, rfl, _⟩ := hcs
    rw [hx]
    have := bulk_len ((List.range k).map D)
    rw [List.length_map, List.length_range] at this
    simp only [Rows.uptoBulk]
    omega
theorem pprow_bulk {n : Nat} {A : Option Addr} {k c B : Nat} {ps : List (List (List Int))} {x : DataW H × List MemPlace} (h : DataW.trod enc Try.prog W base sp held n 26 [.slice A k c] = some x) (hp : PPRow W B A k ps) :
    ∀ p ∈ ps, p.length ≤ Rows.uptoBulk x.1 := by
  intro p hpm
  obtain ⟨i, hi, rfl⟩ := List.mem_iff_getElem.1 hpm
  have hik : i < k := hp.1 ▸ hi
  have hc : Try.prog.cellsOf 53 = 1 := by kernel_rfl
  rcases Go.Deep.open_slice1 Try.underlying26 hc h with ⟨hcs, _⟩ | ⟨a, len, cap, m, n', V, D, Pl, hcs, hb, hl, hm, hmm, hx, hi'⟩
  · simp at hcs
    omega
  · simp at hcs
    obtain ⟨rfl, rfl, rfl⟩ := hcs
    obtain ⟨b, off, Ai, ni, ci, q, e, hb', hq, hcell, h1, h2, h3, h4⟩ := hp.at hik
    injection e with e
    subst e
    obtain ⟨g1, g2⟩ := hi' i (by rw [hmm]; split <;> omega)
    rw [Go.WideShapes.add_plain, hcell] at g1
    injection g1 with g1
    rw [← g1] at g2
    have h5 := prow_bulk g2
    have h6 : ps[i].length = ni := by
      rw [List.getElem?_eq_getElem hi] at hq
      injection hq with hq
      rw [hq]
      exact h3.1
    have h7 : Rows.uptoBulk (D i) ≤ Rows.uptoBulkAll ((List.range k).map D) := bulk_part (List.mem_map.2 ⟨i, List.mem_range.2 hik, rfl⟩)
    rw [hx, h6]
    simp only [Rows.uptoBulk] at h5 ⊢
    omega
theorem script_bulk {B : Nat} {s : Scr} {v : Value} {d : DataW H} {ps : List MemPlace} (hd : DataW.Trod enc Try.prog W base sp held 29 v d ps) (hs : Holds W B s v) : ∀ p ∈ s.progs, p.length ≤ Rows.uptoBulk d := by
  obtain ⟨x0, x1, x2, x3, x4, x5, x6, x7, x8, x9, x10, x11, Ai, ni, ci, Ap, np, cp, Ak, nk, ck, e1, rfl, hx, _, ⟨p1, p2, p3⟩, _⟩ := hs
  obtain ⟨fuel, hf⟩ := hd
  obtain ⟨xs, m, _, hxx, hl, hxl, hg⟩ := DataW.trod_struct Try.underlying29 hf
  have h1 : Try.prog.cellsOf 24 = 13 := by kernel_rfl
  have h2 : Try.prog.cellsOf 25 = 1 := by kernel_rfl
  have h3 : Try.prog.cellsOf 26 = 1 := by kernel_rfl
  match xs, hxl with
  | [y0, y1, y2, y3], _ =>
    have g2 := hg 2 _ rfl
    simp only [List.getElem?_cons_zero, List.getElem?_cons_succ] at g2
    simp [h1, h2, h3, Value.cells] at g2
    have h5 := pprow_bulk g2 p3
    intro p hp
    refine Nat.le_trans (h5 p hp) ?_
    injection hxx with hd _
    rw [hd]
    simp only [Rows.uptoBulk, Rows.uptoBulkAll, List.map_cons, List.map_nil]
    omega
end
/-- The bytes of a script whose lists are short. -/
theorem bytes_len (s : Scr) (ok : s.Ok) (h1 : s.init.length ≤ 40) (h2 : s.progs.length ≤ 10) (h3 : s.picks.length ≤ 60) (hp : ∀ p ∈ s.progs, p.length ≤ 1048576) : (bytesOf s).length ≤ 800000000000 := by
  have hs := CodeB.flat_len s.cfg ok.cfg.2
  have hk := CodeB.flat_len s.picks ok.picks.2
  have hi : ∀ (z : List Int), (∀ x ∈ z, InU x) → (z.flatMap uB).length ≤ z.length * 10 := by
    intro z
    induction z with
    | nil => intro _; simp
    | cons a r ih =>
      intro h
      have e1 := ih (fun x hx => h x (by simp [hx]))
      have e2 := uB_ten (h a (by simp))
      simp only [List.flatMap_cons, List.length_append, List.length_cons]
      omega
  have hins : ∀ (p : List (List Int)), (∀ q ∈ p, InsOk q) → (p.flatMap insB).length ≤ p.length * 50 := by
    intro p
    induction p with
    | nil => intro _; simp
    | cons a r ih =>
      intro h
      have e1 := ih (fun x hx => h x (by simp [hx]))
      have e2 := CodeB.flat_len a (h a (by simp)).2
      have e3 := (h a (by simp)).1
      unfold insB
      unfold insB at e1
      simp only [List.flatMap_cons, List.length_append, List.length_cons]
      omega
  have hpp : ∀ (ps : List (List (List Int))), (∀ p ∈ ps, ListOk InsOk p ∧ p.length ≤ 1048576) → (ps.flatMap progB).length ≤ ps.length * 53000000 := by
    intro ps
    induction ps with
    | nil => intro _; simp
    | cons a r ih =>
      intro h
      have e1 := ih (fun x hx => h x (by simp [hx]))
      obtain ⟨ha1, ha2⟩ := h a (by simp)
      have e2 := hins a ha1.2
      have e3 : (uB (a.length : Int)).length ≤ 10 := uB_ten ⟨by omega, by omega⟩
      simp only [List.flatMap_cons, List.length_append, List.length_cons, progB, listB]
      omega
  have hi' := hi s.init ok.init.2
  have hp' := hpp s.progs (fun p h => ⟨ok.progs.2 p h, hp p h⟩)
  have l1 : (uB (s.init.length : Int)).length ≤ 10 := uB_ten ⟨by omega, by omega⟩
  have l2 : (uB (s.progs.length : Int)).length ≤ 10 := uB_ten ⟨by omega, by omega⟩
  have l3 : (uB (s.picks.length : Int)).length ≤ 10 := uB_ten ⟨by omega, by omega⟩
  have lc := ok.cfg.1
  unfold bytesOf headB listB
  simp only [List.length_append, List.length_cons, List.length_nil]
  omega
end Go.Proofs.Ytafidppjabdecaa.CodeTU
