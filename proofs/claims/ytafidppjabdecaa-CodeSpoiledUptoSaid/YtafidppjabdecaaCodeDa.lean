/-
  Both Decodes of any bytes: what they give, in one.
-/
import Derived.Test.YtafidppjabdecaaCodeRG
import Derived.Test.YtafidppjabdecaaCodeV
import Derived.Test.YtafidppjabdecaaCodeQ
namespace Go.Proofs.Ytafidppjabdecaa.CodeDa
open Go.ChangeShapes Go.WideShapes Go.ChangeAt Go.RowKit
open LawFrame
set_option linter.unusedVariables false
set_option maxHeartbeats 1000000
open PlainT BlkW CodeS CodeW CodeA CodeP CodeO CodeI CodeH CodeD CodeT CodeU CodeV CodeQ CodeRD CodeRG

theorem kept_trans {a b c : World} (h : Below a.heap.size a b) (k : Below b.heap.size b c) : Below a.heap.size a c := h.trans (k.mono h.size)
theorem rM_some : ∀ {l r : List Int}, rM l = some r → l = 83 :: 84 :: 88 :: 49 :: r
  | a :: b :: c :: d :: l, r, h => by
    by_cases h1 : a = 83 ∧ b = 84 ∧ c = 88 ∧ d = 49
    · rw [rM, if_pos h1] at h
      injection h with h
      obtain ⟨rfl, rfl, rfl, rfl⟩ := h1
      rw [h]
    · rw [rM, if_neg h1] at h
      cases h
  | [], _, h => by cases h
  | [_], _, h => by cases h
  | [_, _], _, h => by cases h
  | [_, _, _], _, h => by cases h
theorem r_decode (A : Option Addr) (n c : Nat) (l : List Int) (w : World) (hc : n ≤ c) (hm : c ≤ maxLen) (hz : Ints .u8 w A n l) : Calls Try.prog 15 #[.slice A n c] w fun e w' => DecIs l w e w' := by
  rcases Nat.lt_or_ge 262144 l.length with h1 | h1
  · exact r_decode_long A n c l w hc hm hz h1
  · rcases Nat.lt_or_ge l.length 4 with h2 | h2
    · exact r_decode_few A n c l w hc hm hz h2
    · cases h3 : rM l with
      | none => exact r_decode_magic A n c l w hc hm hz h2 h1 h3
      | some r => exact r_decode_go A n c r w hc hm l (rM_some h3) hz h1
def scrZ : Scr := ⟨[0, 0, 0, 0, 0, 0, 0, 0, 0, 0, 0, 0], false, [], [], []⟩
def scrD (l : List Int) : Scr := if 262144 < l.length then scrZ else (decP l).getD scrZ
def errD (l : List Int) : Int := if 262144 < l.length then 3 else if (decP l).isSome then 0 else 30
theorem zero_holds (w : World) (B : Nat) : Holds w B scrZ zeroV :=
  ⟨0, 0, 0, 0, 0, 0, 0, 0, 0, 0, 0, 0, none, 0, 0, none, 0, 0, none, 0, 0, rfl, rfl, (by intro x hx; simp [scrZ] at hx; subst hx; unfold InI; omega), ⟨Nat.le_refl _, Nat.zero_le _, rfl, (by intro z hz; cases hz), fun h => absurd h (by omega)⟩, ⟨Nat.le_refl _, Nat.zero_le _, rfl, fun h => absurd h (by omega)⟩, ⟨Nat.le_refl _, Nat.zero_le _, rfl, (by intro z hz; cases hz), fun h => absurd h (by omega)⟩⟩
theorem dec_any {l : List Int} {w w' : World} {e : Ending} (h : DecIs l w e w') (hb : ∀ b ∈ l, InB b) : Below w.heap.size w w' ∧ ∃ v, e = .returned (.tuple #[v, .int .i64 (errD l)]) ∧ Holds w' w'.heap.size (scrD l) v := by
  obtain ⟨h1, h2⟩ := id h
  refine ⟨h1, ?_⟩
  rcases Nat.lt_or_ge 262144 l.length with hn | hn
  · rcases h2 with ⟨h3, rfl⟩ | ⟨h3, _⟩
    · exact ⟨zeroV, by unfold errD; rw [if_pos hn], by unfold scrD; rw [if_pos hn]; exact zero_holds _ _⟩
    · omega
  · have hn' : ¬ 262144 < l.length := by omega
    rcases h2 with ⟨h3, _⟩ | ⟨h3, ⟨h4, rfl⟩ | ⟨s, v, h4, h5⟩⟩
    · omega
    · exact ⟨zeroV, by unfold errD; rw [if_neg hn', h4]; rfl, by unfold scrD; rw [if_neg hn', h4]; exact zero_holds _ _⟩
    · obtain ⟨_, v', e', h6⟩ := dec_yes h h3 hb h4
      exact ⟨v', by unfold errD; rw [if_neg hn', h4]; exact e', by unfold scrD; rw [if_neg hn', h4]; exact h6⟩
end Go.Proofs.Ytafidppjabdecaa.CodeDa
