/-
  Plain facts for the reference's Assemble (layer 4).
-/
import Derived.Test.YtcplhochgngedaaGreatDoorRfB
namespace Go.Proofs.YtcplhochgngedaaGreatDoor.RfC
open Go.ChangeShapes Go.WideShapes Go.ChangeAt Go.RowKit
open PlainT IsaE IsaS BlkW IsaA IsaB IsaF IsaP IsaQ IsaX IsaL AsmS AsmA AsmB IsaR MapW AsmC AsmR AsmE AsmF RfA RefA RefB RefF RefP RefQ RfB
set_option linter.unusedVariables false
set_option maxHeartbeats 1000000
theorem last_byte (s : ByteArray) (h : 0 < s.size) : (bts s).getLast? = some (s[s.size - 1]'(by omega)) := by
  rw [List.getLast?_eq_getElem?, bytes_len, List.getElem?_eq_getElem (by rw [bytes_len]; omega)]
  rfl
theorem drop_last (s : ByteArray) : (bts s).dropLast = bts (s.extract 0 (s.size - 1)) := by
  rw [extract_take, bts_mk, List.dropLast_eq_take, bytes_len]
theorem labelOf_one (s : ByteArray) (h : 0 < s.size) : labelOf [bts s] = if (s[s.size - 1]'(by omega)).toNat = 58 ∧ isName (bts (s.extract 0 (s.size - 1))) = true then some (bts (s.extract 0 (s.size - 1))) else none := by
  unfold labelOf
  simp only
  rw [last_byte s h, drop_last]
  by_cases hc : (s[s.size - 1]'(by omega)).toNat = 58
  · have e : s[s.size - 1]'(by omega) = 58 := UInt8.toNat_inj.1 hc
    rw [e]
    by_cases hn : isName (bts (s.extract 0 (s.size - 1))) = true
    · rw [if_pos ⟨rfl, hn⟩, if_pos ⟨rfl, hn⟩]
    · rw [if_neg (fun h => hn h.2), if_neg (fun h => hn h.2)]
  · rw [if_neg (fun h => hc (by injection h.1 with e; rw [e]; rfl)), if_neg (fun h => hc h.1)]
theorem labelOf_more {ws : List (List UInt8)} (h : ws.length ≠ 1) : labelOf ws = none := by
  unfold labelOf
  match ws, h with
  | [], _ => rfl
  | [_], h => exact absurd rfl h
  | _ :: _ :: _, _ => rfl
theorem find_look (L : List (List UInt8 × Nat)) (x : List UInt8) : match lookN L x with | some p => ∃ j : Nat, findI (L.map fun y => mk y.1) (mk x) = (j : Int) ∧ j < L.length ∧ (L.map fun y => ((y.2 : Nat) : Int))[j]? = some (p : Int) | none => findI (L.map fun y => mk y.1) (mk x) = -1 := by
  unfold findI lookN
  rw [List.findIdx?_map, bts_mk]
  have e : ((fun y => bts y == x) ∘ fun y : List UInt8 × Nat => mk y.1) = fun y => y.1 == x := by
    funext y
    show (bts (mk y.1) == x) = _
    rw [bts_mk]
  rw [e]
  induction L with
  | nil => simp
  | cons y L ih =>
    rw [List.find?_cons, List.findIdx?_cons]
    cases hy : (y.1 == x) with
    | true => exact ⟨0, by simp, by simp, by simp⟩
    | false =>
      simp only
      cases hf : L.find? (fun y => y.1 == x) with
      | none =>
        rw [hf] at ih
        simp only [Option.map_none] at ih ⊢
        cases hi : L.findIdx? (fun y => y.1 == x) with
        | none => simp
        | some j => rw [hi] at ih; simp at ih
      | some z =>
        rw [hf] at ih
        simp only [Option.map_some] at ih ⊢
        obtain ⟨j, h1, h2, h3⟩ := ih
        cases hi : L.findIdx? (fun y => y.1 == x) with
        | none => rw [hi] at h1; simp at h1
        | some j' =>
          rw [hi] at h1
          simp only at h1
          have : j' = j := by omega
          subst this
          exact ⟨j' + 1, by simp, by simp; omega, by simpa using h3⟩
/-- The names as a row of strings. -/
theorem names_row {B : Nat} {w : World} {L : List (List UInt8 × Nat)} {A : Option Addr} {c : Nat} (h : w.ownsRow B 9 1 (.slice A L.length c) L.length (L.map fun y => .string (mk y.1))) : StrRow w A L.length (L.map fun y => mk y.1) := by
  have h2 : w.ownsRow B 9 1 (.slice A L.length c) (L.map fun y => mk y.1).length ((L.map fun y => mk y.1).map Value.string) := by
    rw [List.length_map, List.map_map]
    exact h
  obtain ⟨A', c', e, _, _, h3⟩ := row_of_str h2
  injection e with e1 e2 e3
  subst e1
  rw [List.length_map] at h3
  exact h3
theorem step_words {st : St} {n : Nat} {s : ByteArray} (h : words (codeOf s) ≠ []) : stepL st n (bts s) =
    match (match labelOf ((words (codeOf s)).map bts) with
      | some x => Kind.label x
      | none => match jumpOf ((words (codeOf s)).map bts) with
        | some (k, q, x) => .ins k q x
        | none => match parseQ (codeOf s) with
          | some (k, q) => .ins k q []
          | none => .bad (parseE (codeOf s))) with
    | .empty => .ok st
    | .label x => if (lookN st.labels x).isSome then .err n 20 else .ok { st with labels := st.labels ++ [(x, st.items.length)] }
    | .ins k q t => if st.items.length = 64 then .err n 3 else .ok { st with items := st.items ++ [⟨k, q, t, n⟩] }
    | .bad e => .err n e :=
  step_kind (by rw [Ne, trim_nil_iff, ← words_nil_iff]; exact h)
theorem step_nowords {st : St} {n : Nat} {s : ByteArray} (h : words (codeOf s) = []) : stepL st n (bts s) = .ok st := step_empty (by rw [trim_nil_iff, ← words_nil_iff]; exact h)
set_option maxRecDepth 100000 in
theorem ra_long (s : ByteArray) (hs : 65536 < s.size) (hs2 : s.size ≤ 9223372036854775807) (w : World) : Calls Tryz.prog 10 #[.string s] w fun e w' => AsmIs (bts s) w e w' := by
  have HA := Lib.hid (show asmV (bts s) = .err 0 3 by unfold asmV; rw [if_pos (by rw [bytes_len]; exact hs)])
  go_enter Tryz.func10, Tryz.ntmps10
  go_wp2
  go_ret3
  exact AsmIs.err HA.out (Below.refl _ _) (by decide)
theorem linesB_bts (s : ByteArray) : (linesB s).map bts = trimLast (pieces (bts s)) := by
  unfold linesB
  rw [List.map_map]
  have : (bts ∘ mk) = id := by funext y; exact bts_mk y
  rw [this, List.map_id]
theorem linesB_size (s : ByteArray) : (linesB s).length ≤ s.size + 1 ∧ ∀ x ∈ linesB s, x.size ≤ s.size := by
  have hP := split_lines s
  have hb := pieces_bound s
  have hl : (trimLast (pieces (bts s))).length ≤ (pieces (bts s)).length := by unfold trimLast; split <;> simp
  have hm : ∀ y ∈ trimLast (pieces (bts s)), y ∈ pieces (bts s) := by
    intro y hy
    unfold trimLast at hy
    split at hy
    · exact (List.dropLast_sublist _).subset hy
    · exact hy
  constructor
  · have e := congrArg List.length hP.1
    rw [List.length_map, hP.2] at e
    have := Lib.countB_le ⟨#[10]⟩ (by decide) _ s (Nat.le_refl _)
    unfold linesB
    rw [List.length_map]
    omega
  · intro x hx
    unfold linesB at hx
    obtain ⟨y, hy, rfl⟩ := List.mem_map.1 hx
    have := hm y hy
    rw [← hP.1] at this
    obtain ⟨z, hz, rfl⟩ := List.mem_map.1 this
    rw [mk_bts]
    exact hb z hz
theorem setTargets_drop {L : List (List UInt8 × Nat)} {items : List AItem} {k : Nat} {x : AItem} (h : items[k]? = some x) : setTargets L k (items.drop k) =
    if x.t = [] then (match setTargets L (k + 1) (items.drop (k + 1)) with | .ok p => .ok ((x.k, x.q) :: p) | .err l e => .err l e)
    else match lookN L x.t with
      | none => .err x.line 20
      | some p => if p ≤ k then .err x.line 20 else
        (match setTargets L (k + 1) (items.drop (k + 1)) with | .ok ps => .ok ((x.k, { x.q with i := (p : Int) - k - 1 }) :: ps) | .err l e => .err l e) := by
  obtain ⟨hk, e⟩ := List.getElem?_eq_some_iff.1 h
  rw [List.drop_eq_getElem_cons hk, e]
  rfl
/-- Behind a list that is done. -/
def after (pre : List (Int × Fields)) : Res (List (Int × Fields)) → Res (List (Int × Fields))
  | .ok p => .ok (pre ++ p)
  | .err l e => .err l e
theorem after_cons (pre : List (Int × Fields)) (y : Int × Fields) (r : Res (List (Int × Fields))) : after pre (match r with | .ok p => .ok (y :: p) | .err l e => .err l e) = after (pre ++ [y]) r := by
  cases r with
  | ok p => simp [after]
  | err l e => rfl
end Go.Proofs.YtcplhochgngedaaGreatDoor.RfC
