/-
  Encode and Decode over a value that holds a script; the sanity check.
-/
import Derived.Test.YtafidppjabdecaaCodeT
namespace Go.Proofs.Ytafidppjabdecaa.CodeU
open Go.ChangeShapes Go.WideShapes Go.ChangeAt Go.RowKit
open PlainT BlkW LawFrame CodeS CodeW CodeA CodeP CodeO CodeI CodeH CodeD CodeT
open CodeJ (PV)
open CodeM (IsV)
set_option linter.unusedVariables false
set_option maxHeartbeats 1000000

theorem own_ints {w : World} {B : Nat} {e : TypeId} {k : IntKind} {A : Option Addr} {n c : Nat} {xs : List Int} (h : w.ownsRow B e 1 (.slice A n c) n (xs.map (Value.int k))) (hw : ∀ x ∈ xs, (Lit.int k x).wf = true) : n ≤ c ∧ c ≤ maxLen ∧ Ints k w A n xs := by
  obtain ⟨A', c', e0, h1, h2⟩ := own_slice h
  injection e0 with e1 e2 e3
  subst e1 e3
  have hl : xs.length = n := by have := h.1; simpa using this
  refine ⟨h1, h2, hl, hw, fun hn => ?_⟩
  obtain ⟨g, cap, cur, e0, _, _, hg, hc⟩ := own_cells h hn
  injection e0 with e1 e2 e3
  subst e1
  refine ⟨g, 0, rfl, hg, fun i hi => ?_⟩
  rw [Nat.zero_add, hc i (by omega), List.getElem?_map, List.getElem?_eq_getElem (by omega), List.getD_eq_getElem?_getD, List.getElem?_eq_getElem (by omega)]
  rfl
theorem cI_get : ∀ (p : List (List Int)), (∀ q ∈ p, q.length = 5) → ∀ i j, i < p.length → j < 5 → (cI p)[i * 5 + j]? = some (.int .i64 ((p.getD i []).getD j 0)) := by
  intro p
  induction p with
  | nil => intro _ i j hi; simp at hi
  | cons a r ih =>
    intro h i j hi hj
    have ha := h a (by simp)
    have hl : (iC a).length = 5 := by unfold iC; rw [List.length_map, ha]
    unfold cI
    rw [List.flatMap_cons]
    cases i with
    | zero =>
      rw [List.getElem?_append_left (by omega)]
      unfold iC
      simp only [Nat.zero_mul, Nat.zero_add, List.getElem?_map]
      rw [List.getElem?_eq_getElem (by omega)]
      show some (Value.int IntKind.i64 a[j]) = some (Value.int IntKind.i64 (a.getD j 0))
      rw [List.getD_eq_getElem?_getD, List.getElem?_eq_getElem (by omega)]
      rfl
    | succ i =>
      rw [List.getElem?_append_right (by omega), hl, show (i + 1) * 5 + j - 5 = i * 5 + j by omega]
      have := ih (fun q hq => h q (by simp [hq])) i j (by simpa using hi) hj
      unfold cI at this
      rw [this]
      rfl
theorem own_prow {w : World} {B : Nat} {A : Option Addr} {n c : Nat} {p : List (List Int)} (h : w.ownsRow B 75 5 (.slice A n c) n (cI p)) (hp : p.length = n) (hok : ∀ q ∈ p, InsOk q) : n ≤ c ∧ c ≤ maxLen ∧ PRow w A n p ∧ (0 < n → ∀ a, A = some a → a.block < w.heap.size) := by
  obtain ⟨A', c', e0, h1, h2⟩ := own_slice h
  injection e0 with e1 e2 e3
  subst e1 e3
  have key : 0 < n → ∃ b : Nat, A = some ⟨b, 0, none⟩ ∧ b < w.heap.size ∧ ∀ i j, i < n → j < 5 → w.cell? ⟨b, 0 + i * 5 + j, none⟩ = some (.int .i64 ((p.getD i []).getD j 0)) := by
    intro hn
    obtain ⟨g, cap, cur, e0, _, _, hg, hc⟩ := own_cells h hn
    injection e0 with e1 e2 e3
    subst e1
    refine ⟨g, rfl, hg, fun i j hi hj => ?_⟩
    rw [Nat.zero_add, hc _ (by omega)]
    exact cI_get p (fun q hq => (hok q hq).1) i j (by omega) hj
  refine ⟨h1, h2, ⟨hp, hok, fun hn => ?_⟩, fun hn a ha => ?_⟩
  · obtain ⟨b, hA, hb, hc⟩ := key hn
    exact ⟨b, 0, hA, hb, hc⟩
  · obtain ⟨b, hA, hb, hc⟩ := key hn
    rw [hA] at ha
    cases ha
    exact hb
theorem holds_of {w : World} {B : Nat} {s : Scr} {v : Value} (h : IsV w B s v) (ok : s.Ok) : Holds w w.heap.size s v := by
  obtain ⟨x0, x1, x2, x3, x4, x5, x6, x7, x8, x9, x10, x11, Ai, ci, Ap, cp, Ak, ck, vs, e1, rfl, h1, h2, h3, h4⟩ := h
  refine ⟨x0, x1, x2, x3, x4, x5, x6, x7, x8, x9, x10, x11, Ai, _, ci, Ap, _, cp, Ak, _, ck, e1, rfl, ok.cfg.2, own_ints h1 (fun x hx => wf_of_u64 (ok.init.2 x hx)), ?_, own_ints h4 (fun x hx => wf_of_i64 (ok.picks.2 x hx))⟩
  obtain ⟨A', c', e0, h5, h6⟩ := own_slice h3
  injection e0 with e2 e3 e4
  subst e2 e4
  refine ⟨h5, h6, rfl, fun hn => ?_⟩
  obtain ⟨g, cap, cur, e0, _, _, hg, hc⟩ := own_cells h3 hn
  injection e0 with e2 e3 e4
  subst e2
  refine ⟨g, 0, rfl, hg, hg, fun i hi => ?_⟩
  have hpi : s.progs[i]? = some (s.progs[i]'hi) := List.getElem?_eq_getElem hi
  obtain ⟨A, c, h7, h8⟩ := h2.2 i _ hpi
  obtain ⟨h9, h10, h11, h12⟩ := own_prow h8 rfl (ok.progs.2 _ (List.getElem_mem hi)).2
  refine ⟨A, _, c, by rw [Nat.zero_add, hc i (by omega), h7], h9, h10, ?_, h12⟩
  rw [List.getD_eq_getElem?_getD, hpi]
  exact h11
theorem Holds.ok {w : World} {B : Nat} {s : Scr} {v : Value} (h : Holds w B s v) : s.Ok := by
  obtain ⟨x0, x1, x2, x3, x4, x5, x6, x7, x8, x9, x10, x11, Ai, ni, ci, Ap, np, cp, Ak, nk, ck, e1, _, hx, ⟨i1, i2, i3⟩, ⟨p1, p2, p3⟩, ⟨k1, k2, k3⟩⟩ := h
  unfold maxLen at i2 p2 k2
  refine ⟨⟨by rw [e1]; rfl, hx⟩, ⟨by rw [i3.1]; omega, fun x hx => wf_u64 (i3.2.1 x hx)⟩, ⟨by rw [p3.1]; omega, fun p hp => ?_⟩, ⟨by rw [k3.1]; omega, fun x hx => wf_i64 (k3.2.1 x hx)⟩⟩
  obtain ⟨i, hi, rfl⟩ := List.getElem_of_mem hp
  obtain ⟨b, off, Ai', n', c', p', _, _, hp', _, h1, h2, h3, _⟩ := PPRow.at p3 (i := i) (by rw [← p3.1]; exact hi)
  rw [List.getElem?_eq_getElem hi] at hp'
  injection hp' with hp'
  unfold maxLen at h2
  rw [hp']
  exact ⟨by rw [h3.1]; omega, h3.2.1⟩
/-- Encode, of a value that holds a script. -/
theorem enc_holds {s : Scr} {v : Value} {w : World} (h : Holds w w.heap.size s v) (l : List Int) (hl : bytesOf s = l) : Calls Try.prog 10 #[v] w fun e w' => EncIs l w e w' := by
  obtain ⟨x0, x1, x2, x3, x4, x5, x6, x7, x8, x9, x10, x11, Ai, ni, ci, Ap, np, cp, Ak, nk, ck, e1, rfl, hx, ⟨i1, i2, i3⟩, ⟨p1, p2, p3⟩, ⟨k1, k2, k3⟩⟩ := h
  rw [e1] at hx
  obtain ⟨cfg, strong, init, progs, picks⟩ := s
  simp only at e1
  subst e1
  exact a_encode x0 x1 x2 x3 x4 x5 x6 x7 x8 x9 x10 x11 strong hx Ai Ap Ak ni ci np cp nk ck init picks progs w i3 p3 k3 (Nat.le_trans i1 i2) (Nat.le_trans p1 p2) (Nat.le_trans k1 k2) l hl
theorem Holds.old {w w' : World} {B : Nat} {s : Scr} {v : Value} (h : Holds w B s v) (k : Old w w') : Holds w' B s v := by
  obtain ⟨x0, x1, x2, x3, x4, x5, x6, x7, x8, x9, x10, x11, Ai, ni, ci, Ap, np, cp, Ak, nk, ck, e1, e2, hx, ⟨i1, i2, i3⟩, ⟨p1, p2, p3⟩, ⟨k1, k2, k3⟩⟩ := h
  have key : ∀ {kk : IntKind} {A : Option Addr} {n : Nat} {z : List Int}, Ints kk w A n z → Ints kk w' A n z := fun {kk A n z} hz => ⟨hz.1, hz.2.1, fun hn => by
    obtain ⟨b, off, rfl, hb, hc⟩ := hz.2.2 hn
    exact ⟨b, off, rfl, Nat.lt_of_lt_of_le hb k.1, fun i hi => by rw [World.cell?_of_block (w := w) (k.2 b hb)]; exact hc i hi⟩⟩
  exact ⟨x0, x1, x2, x3, x4, x5, x6, x7, x8, x9, x10, x11, Ai, ni, ci, Ap, np, cp, Ak, nk, ck, e1, e2, hx, ⟨i1, i2, key i3⟩, ⟨p1, p2, PPRow.old p3 k⟩, ⟨k1, k2, key k3⟩⟩
theorem PPRow.mono {w : World} {B B' : Nat} {A : Option Addr} {n : Nat} {ps : List (List (List Int))} (h : PPRow w B A n ps) (hB : B ≤ B') : PPRow w B' A n ps := by
  refine ⟨h.1, fun hn => ?_⟩
  obtain ⟨b, off, rfl, hb0, hb, hc⟩ := h.2 hn
  exact ⟨b, off, rfl, by omega, hb, fun i hi => by obtain ⟨Ai, ni, ci, h1, h2, h3, h4, h5⟩ := hc i hi; exact ⟨Ai, ni, ci, h1, h2, h3, h4, fun h0 a ha => by have := h5 h0 a ha; omega⟩⟩
theorem Holds.mono {w : World} {B B' : Nat} {s : Scr} {v : Value} (h : Holds w B s v) (hB : B ≤ B') : Holds w B' s v := by
  obtain ⟨x0, x1, x2, x3, x4, x5, x6, x7, x8, x9, x10, x11, Ai, ni, ci, Ap, np, cp, Ak, nk, ck, e1, e2, hx, hi, ⟨p1, p2, p3⟩, hk⟩ := h
  exact ⟨x0, x1, x2, x3, x4, x5, x6, x7, x8, x9, x10, x11, Ai, ni, ci, Ap, np, cp, Ak, nk, ck, e1, e2, hx, hi, ⟨p1, p2, PPRow.mono p3 hB⟩, hk⟩
theorem Holds.upto {w w' : World} {s : Scr} {v : Value} (h : Holds w w.heap.size s v) (k : Old w w') : Holds w' w'.heap.size s v := Holds.mono (Holds.old h k) k.1

/-! ### Bytes. -/
theorem bytes_byte (s : Scr) (ok : s.Ok) : ∀ b ∈ bytesOf s, InB b := by
  have hs : ∀ (z : List Int), (∀ x ∈ z, InI x) → ∀ b ∈ z.flatMap sB, InB b := fun z hz b hb => by
    obtain ⟨x, hx, hb⟩ := List.mem_flatMap.1 hb
    exact uB_bytes (sF_in (hz x hx)) b hb
  have hlen : ∀ {α : Type} (l : List α), l.length ≤ 18446744073709551615 → ∀ b ∈ uB (l.length : Int), InB b := fun l hl => uB_bytes ⟨by omega, by omega⟩
  intro b hb
  unfold bytesOf headB listB at hb
  simp only [List.mem_append, List.mem_cons, List.not_mem_nil, or_false] at hb
  rcases hb with ((((((rfl | rfl | rfl | rfl) | hb) | rfl) | (hb | hb)) | (hb | hb)) | (hb | hb))
  · unfold InB; omega
  · unfold InB; omega
  · unfold InB; omega
  · unfold InB; omega
  · exact hs _ ok.cfg.2 b hb
  · cases s.strong <;> (unfold boolB InB; simp)
  · exact hlen _ ok.init.1 b hb
  · obtain ⟨x, hx, hb⟩ := List.mem_flatMap.1 hb
    exact uB_bytes (ok.init.2 x hx) b hb
  · exact hlen _ ok.progs.1 b hb
  · obtain ⟨p, hp, hb⟩ := List.mem_flatMap.1 hb
    unfold progB listB at hb
    rcases List.mem_append.1 hb with hb | hb
    · exact hlen _ (ok.progs.2 p hp).1 b hb
    · obtain ⟨i, hi, hb⟩ := List.mem_flatMap.1 hb
      exact hs i ((ok.progs.2 p hp).2 i hi).2 b hb
  · exact hlen _ ok.picks.1 b hb
  · exact hs _ ok.picks.2 b hb

/-! ### The sanity check. -/
def scr0 : Scr := ⟨[0, 0, 0, 0, 0, 0, 0, 0, 0, 0, 0, 0], false, [300], [], [-1]⟩
theorem uB_num : uB 0 = [0] ∧ uB 1 = [1] ∧ uB 300 = [172, 2] := by
  refine ⟨uB_small (by decide), uB_small (by decide), ?_⟩
  rw [uB_big (by decide), uB_small (by decide)]
  decide
theorem bytes0 : bytesOf scr0 = [83, 84, 88, 49, 0, 0, 0, 0, 0, 0, 0, 0, 0, 0, 0, 0, 0, 1, 172, 2, 0, 1, 1] := by
  obtain ⟨h0, h1, h2⟩ := uB_num
  have s0 : sB 0 = [0] := by unfold sB; exact h0
  have s1 : sB (-1) = [1] := by unfold sB; exact h1
  simp [bytesOf, headB, listB, scr0, boolB, s0, s1, h0, h1, h2]
theorem scr0_ok : scr0.Ok := by
  refine ⟨⟨rfl, ?_⟩, ⟨by decide, ?_⟩, ⟨by decide, ?_⟩, ⟨by decide, ?_⟩⟩
  · intro x hx
    simp [scr0] at hx
    subst hx
    unfold InI
    omega
  · intro x hx
    simp [scr0] at hx
    subst hx
    unfold InU
    omega
  · intro x hx
    simp [scr0] at hx
  · intro x hx
    simp [scr0] at hx
    subst hx
    unfold InI
    omega
end Go.Proofs.Ytafidppjabdecaa.CodeU
