/-
  Contracts of the program's log: Put, Get, Len, the lists.
-/
import Derived.Test.YtelpimhgodkmlaaRlA
namespace Go.Proofs.Ytelpimhgodkmlaa.RlB
open Go.ChangeShapes Go.WideShapes Go.ChangeAt Go.RowKit
open PlainT BlkW CelS CelM CelV CelN LabD FreV FreI RsA RlU RlP RlA
set_option linter.unusedVariables false
set_option maxHeartbeats 1000000
set_option maxRecDepth 100000
/-- What Put answers, and what it leaves. -/
def putR (cap : Nat) (ad : List Int) (x : Int) : Bool := decide (0 ≤ x) && (decide (x ∈ ad) || decide (ad.length < cap))
def putA (cap : Nat) (ad : List Int) (x : Int) : List Int := if 0 ≤ x ∧ ¬ x ∈ ad ∧ ad.length < cap then ad ++ [x] else ad
def putV (cap : Nat) (ad vs : List Int) (x v : Int) : List Int := if x ∈ ad then vs.set (ad.idxOf x) v else if 0 ≤ x ∧ ad.length < cap then vs ++ [v] else vs
def putX (cap : Nat) (ad ix : List Int) (x : Int) : List Int := if 0 ≤ x ∧ ¬ x ∈ ad ∧ ad.length < cap then ix.set (slot ix x) ad.length else ix
def getB (ad : List Int) (x : Int) : Bool := decide (x ∈ ad)
def getV (ad vs : List Int) (x : Int) : Int := if x ∈ ad then (vs[ad.idxOf x]?).getD 0 else 0
theorem idx_of {ad : List Int} (h : ad.Nodup) {i : Nat} {x : Int} (hi : ad[i]? = some x) : ad.idxOf x = i := by
  obtain ⟨hl, rfl⟩ := List.getElem?_eq_some_iff.1 hi
  exact List.Nodup.idxOf_getElem h i hl
/-- What Put leaves, told outright. -/
def PutTo (B : Nat) (t : TypeId) (cap : Nat) (L : LV) (r : Bool) (ad vs ix : List Int) (w : World) (e : Ending) (w' : World) : Prop :=
  e = .returned (.bool r) ∧ ∃ L', LogIs w' B t cap L' ad vs ix ∧ L'.g = L.g ∧ Fr (Blks L) w w' ∧ ∀ y, Blks L' y → Blks L y ∨ w.heap.size ≤ y
section
variable {w w' : World} {B : Nat} {t : TypeId} {cap : Nat} {L : LV} {ad vs ix : List Int}
theorem LogR.set_v (h : LogR w B t cap L ad vs ix) {g n c : Nat} (hv : L.vv = .slice (some ⟨g, 0, none⟩) n c) (i : Nat) (v : Int) : LogR (w.setCell ⟨g, i, none⟩ (.int .u64 v)) B t cap L ad (vs.set i v) ix ∧ Fr (Blks L) w (w.setCell ⟨g, i, none⟩ (.int .u64 v)) := by
  have ho : L.vv.ownBlock = some g := by rw [hv]; rfl
  have h1 := h.rv
  rw [hv] at h1
  exact ⟨⟨h.box.far (fun e => h.ov (by rw [ho, e])) _, own_far h.ra (fun e => dis_iw h.ra h.rv g e ho) _, by rw [hv]; exact own_setw h1 i v, own_far h.ri (fun e => dis_iw h.ri h.rv g e ho) _, h.gB, h.tt, h.ap⟩,
    (Fr.refl _ w).set_ ⟨g, i, none⟩ (.inl (.inr (.inr (.inl ho)))) _⟩
theorem LogR.set_i (h : LogR w B t cap L ad vs ix) {g n c : Nat} (hv : L.vi = .slice (some ⟨g, 0, none⟩) n c) (i : Nat) (v : Int) : LogR (w.setCell ⟨g, i, none⟩ (.int .i64 v)) B t cap L ad vs (ix.set i v) ∧ Fr (Blks L) w (w.setCell ⟨g, i, none⟩ (.int .i64 v)) := by
  have ho : L.vi.ownBlock = some g := by rw [hv]; rfl
  have h1 := h.ri
  rw [hv] at h1
  exact ⟨⟨h.box.far (fun e => h.oi (by rw [ho, e])) _, own_far h.ra (fun e => h.ap g e ho) _, own_far h.rv (fun e => dis_iw h.ri h.rv g ho e) _, by rw [hv]; exact own_seti h1 i v, h.gB, h.tt, h.ap⟩,
    (Fr.refl _ w).set_ ⟨g, i, none⟩ (.inl (.inr (.inr (.inr ho)))) _⟩
theorem LogR.push_a (h : LogR w B t cap L ad vs ix) (hB : B ≤ w.heap.size) (hl : ad.length ≤ 1000) (x : Int) :
    ∃ A c w', (Builtin.append_ #[34, 34] 34 #[L.va, .slice (some ⟨w.heap.size, 0, none⟩) 1 1]).run Try.prog (w.alloc (.cells #[.int .i64 x] TI)) = .ok (.slice A (ad.length + 1) c) w' ∧
      w'.cell? ⟨L.g, 1, none⟩ = some L.va ∧ w'.frozen? ⟨L.g, 1, none⟩ = false ∧
      LogR (w'.setCell ⟨L.g, 1, none⟩ (.slice A (ad.length + 1) c)) B t cap { L with va := .slice A (ad.length + 1) c } (ad ++ [x]) vs ix ∧ Fr (Blks L) w (w'.setCell ⟨L.g, 1, none⟩ (.slice A (ad.length + 1) c)) ∧
      ((Value.slice A (ad.length + 1) c).ownBlock = L.va.ownBlock ∨ ∃ y, (Value.slice A (ad.length + 1) c).ownBlock = some y ∧ w.heap.size ≤ y) := by
  obtain ⟨A, c, w', hrun, hown, hBw, hfr, hob⟩ := push_i hB h.ra (by omega) x
  have hF : Fr (fun y => L.va.ownBlock = some y) w w' := ⟨hBw.os, hBw.tape, hBw.output, hBw.size, fun y hy hn => hfr y hy hn⟩
  have hM : Mem w' L.g t #[.int .i64 cap, L.va, L.vv, L.vi] := mem_fr h.box hF fun e => h.oa e
  have hM2 := hM.set_ 1 (.slice A (ad.length + 1) c)
  have hv := own_frw h.rv hF fun y hy e => dis_iw h.ra h.rv y e hy
  have hi := own_fri h.ri hF fun y hy e => h.ap y e hy
  refine ⟨A, c, w', hrun, hM.cell 1, hM.frozen 1, ⟨by simpa using hM2, own_far hown (own_ne_mem hown hM (ti_ne h.tt)) _, own_far hv (fun e => own_ne_mem hv hM (tu_ne h.tt) e) _, own_far hi (own_ne_mem hi hM (ti_ne h.tt)) _, h.gB, h.tt, h.ap.left hob fun y hy => (h.ri.lt y hy).2⟩, ?_, hob⟩
  exact (hF.wide fun y hy => .inr (.inl hy)).set_ ⟨L.g, 1, none⟩ (.inl (.inl rfl)) _
theorem LogR.push_v (h : LogR w B t cap L ad vs ix) (hB : B ≤ w.heap.size) (hl : vs.length ≤ 1000) (x : Int) :
    ∃ A c w', (Builtin.append_ #[35, 35] 35 #[L.vv, .slice (some ⟨w.heap.size, 0, none⟩) 1 1]).run Try.prog (w.alloc (.cells #[.int .u64 x] TU)) = .ok (.slice A (vs.length + 1) c) w' ∧
      w'.cell? ⟨L.g, 2, none⟩ = some L.vv ∧ w'.frozen? ⟨L.g, 2, none⟩ = false ∧
      LogR (w'.setCell ⟨L.g, 2, none⟩ (.slice A (vs.length + 1) c)) B t cap { L with vv := .slice A (vs.length + 1) c } ad (vs ++ [x]) ix ∧ Fr (Blks L) w (w'.setCell ⟨L.g, 2, none⟩ (.slice A (vs.length + 1) c)) ∧
      ((Value.slice A (vs.length + 1) c).ownBlock = L.vv.ownBlock ∨ ∃ y, (Value.slice A (vs.length + 1) c).ownBlock = some y ∧ w.heap.size ≤ y) := by
  obtain ⟨A, c, w', hrun, hown, hBw, hfr, hob⟩ := push_w hB h.rv (by omega) x
  have hF : Fr (fun y => L.vv.ownBlock = some y) w w' := ⟨hBw.os, hBw.tape, hBw.output, hBw.size, fun y hy hn => hfr y hy hn⟩
  have hM : Mem w' L.g t #[.int .i64 cap, L.va, L.vv, L.vi] := mem_fr h.box hF fun e => h.ov e
  have hM2 := hM.set_ 2 (.slice A (vs.length + 1) c)
  have ha := own_fri h.ra hF fun y hy e => dis_iw h.ra h.rv y hy e
  have hi := own_fri h.ri hF fun y hy e => dis_iw h.ri h.rv y hy e
  refine ⟨A, c, w', hrun, hM.cell 2, hM.frozen 2, ⟨by simpa using hM2, own_far ha (own_ne_mem ha hM (ti_ne h.tt)) _, own_far hown (own_ne_mem hown hM (tu_ne h.tt)) _, own_far hi (own_ne_mem hi hM (ti_ne h.tt)) _, h.gB, h.tt, h.ap⟩, ?_, hob⟩
  exact (hF.wide fun y hy => .inr (.inr (.inl hy))).set_ ⟨L.g, 2, none⟩ (.inl (.inl rfl)) _
theorem LogR.push_x (h : LogR w B t cap L ad vs ix) (hB : B ≤ w.heap.size) (hl : ix.length ≤ 1000) (x : Int) :
    ∃ A c w', (Builtin.append_ #[34, 34] 34 #[L.vi, .slice (some ⟨w.heap.size, 0, none⟩) 1 1]).run Try.prog (w.alloc (.cells #[.int .i64 x] TI)) = .ok (.slice A (ix.length + 1) c) w' ∧
      w'.cell? ⟨L.g, 3, none⟩ = some L.vi ∧ w'.frozen? ⟨L.g, 3, none⟩ = false ∧
      LogR (w'.setCell ⟨L.g, 3, none⟩ (.slice A (ix.length + 1) c)) B t cap { L with vi := .slice A (ix.length + 1) c } ad vs (ix ++ [x]) ∧ Fr (Blks L) w (w'.setCell ⟨L.g, 3, none⟩ (.slice A (ix.length + 1) c)) ∧
      ((Value.slice A (ix.length + 1) c).ownBlock = L.vi.ownBlock ∨ ∃ y, (Value.slice A (ix.length + 1) c).ownBlock = some y ∧ w.heap.size ≤ y) := by
  obtain ⟨A, c, w', hrun, hown, hBw, hfr, hob⟩ := push_i hB h.ri (by omega) x
  have hF : Fr (fun y => L.vi.ownBlock = some y) w w' := ⟨hBw.os, hBw.tape, hBw.output, hBw.size, fun y hy hn => hfr y hy hn⟩
  have hM : Mem w' L.g t #[.int .i64 cap, L.va, L.vv, L.vi] := mem_fr h.box hF fun e => h.oi e
  have hM2 := hM.set_ 3 (.slice A (ix.length + 1) c)
  have ha := own_fri h.ra hF fun y hy e => h.ap y hy e
  have hv := own_frw h.rv hF fun y hy e => dis_iw h.ri h.rv y e hy
  refine ⟨A, c, w', hrun, hM.cell 3, hM.frozen 3, ⟨by simpa using hM2, own_far ha (own_ne_mem ha hM (ti_ne h.tt)) _, own_far hv (own_ne_mem hv hM (tu_ne h.tt)) _, own_far hown (own_ne_mem hown hM (ti_ne h.tt)) _, h.gB, h.tt, (h.ap.symm.left hob fun y hy => (h.ra.lt y hy).2).symm⟩, ?_, hob⟩
  exact (hF.wide fun y hy => .inr (.inr (.inr hy))).set_ ⟨L.g, 3, none⟩ (.inl (.inl rfl)) _
theorem putR_yes {x : Int} (h0 : 0 ≤ x) (h : x ∈ ad ∨ ad.length < cap) : putR cap ad x = true := by
  unfold putR
  rw [decide_eq_true h0]
  rcases h with h | h <;> simp [h]
theorem putR_no {x : Int} (hno : x < 0 ∨ (¬ x ∈ ad ∧ ¬ ad.length < cap)) : putR cap ad x = false := by
  unfold putR
  rcases hno with h | ⟨h, h2⟩
  · rw [decide_eq_false (by omega)]
    rfl
  · simp only [h, h2, decide_false, Bool.or_self, Bool.and_false]
/-- An addition in three steps: the index's cell, the address, the word. -/
theorem add_plan (h : LogIs w B t cap L ad vs ix) (hB : B ≤ w.heap.size) {x : Int} (v : Int) (h0 : 0 ≤ x) (hin : ¬ x ∈ ad) (hfull : ad.length < cap) {gi n c : Nat} (hvi : L.vi = .slice (some ⟨gi, 0, none⟩) n c) :
    ∃ A c w3 A2 c2 w5, (Builtin.append_ #[34, 34] 34 #[L.va, .slice (some ⟨(w.setCell ⟨gi, slot ix x, none⟩ (.int .i64 ad.length)).heap.size, 0, none⟩) 1 1]).run Try.prog ((w.setCell ⟨gi, slot ix x, none⟩ (.int .i64 ad.length)).alloc (.cells #[.int .i64 x] TI)) = .ok (.slice A (ad.length + 1) c) w3 ∧
      w3.cell? ⟨L.g, 1, none⟩ = some L.va ∧ w3.frozen? ⟨L.g, 1, none⟩ = false ∧
      (w3.setCell ⟨L.g, 1, none⟩ (.slice A (ad.length + 1) c)).cell? ⟨L.g, 2, none⟩ = some L.vv ∧
      (Builtin.append_ #[35, 35] 35 #[L.vv, .slice (some ⟨(w3.setCell ⟨L.g, 1, none⟩ (.slice A (ad.length + 1) c)).heap.size, 0, none⟩) 1 1]).run Try.prog ((w3.setCell ⟨L.g, 1, none⟩ (.slice A (ad.length + 1) c)).alloc (.cells #[.int .u64 v] TU)) = .ok (.slice A2 (ad.length + 1) c2) w5 ∧
      w5.cell? ⟨L.g, 2, none⟩ = some L.vv ∧ w5.frozen? ⟨L.g, 2, none⟩ = false ∧
      PutTo B t cap L (putR cap ad x) (putA cap ad x) (putV cap ad vs x v) (putX cap ad ix x) w (.returned (.bool true)) (w5.setCell ⟨L.g, 2, none⟩ (.slice A2 (ad.length + 1) c2)) := by
  obtain ⟨h1, F1⟩ := LogR.set_i h.toLogR hvi (slot ix x) ad.length
  have hsz : (w.setCell ⟨gi, slot ix x, none⟩ (.int .i64 ad.length)).heap.size = w.heap.size := by simp [World.setCell]
  have hl := h.ok.few
  have hc := h.c32
  obtain ⟨A, c3, w3, r1, m1, z1, h2, F2, ob1⟩ := LogR.push_a h1 (by rw [hsz]; exact hB) (by omega) x
  rw [hsz] at ob1
  have F12 := F1.trans F2
  obtain ⟨A2, c4, w5, r2, m2, z2, h3, F3, ob2⟩ := LogR.push_v h2 (Nat.le_trans hB F12.size) (by rw [h.ok.lv]; omega) v
  rw [h.ok.lv] at r2 h3 F3 ob2
  have hFF : ∀ y, y < w.heap.size → Blks { L with va := .slice A (ad.length + 1) c3 } y → Blks L y := by
    intro y hy hb
    rcases hb with hb | hb | hb | hb
    · exact .inl hb
    · rcases ob1 with e | ⟨q, e, hq⟩
      · exact .inr (.inl (e ▸ hb))
      · have : q = y := by
          have := e.symm.trans hb
          injection this
        omega
    · exact .inr (.inr (.inl hb))
    · exact .inr (.inr (.inr hb))
  refine ⟨A, c3, w3, A2, c4, w5, r1, m1, z1, h2.box.cell 2, r2, m2, z2, by rw [putR_yes h0 (.inr hfull)], { L with va := .slice A (ad.length + 1) c3, vv := .slice A2 (ad.length + 1) c4 }, ⟨?_, ?_, h.c32⟩, ?_, F12.then F3 hFF, ?_⟩
  · unfold putA putV putX
    rw [if_pos ⟨h0, hin, hfull⟩, if_neg hin, if_pos ⟨h0, hfull⟩, if_pos ⟨h0, hin, hfull⟩]
    exact h3
  · unfold putA putV putX
    rw [if_pos ⟨h0, hin, hfull⟩, if_neg hin, if_pos ⟨h0, hfull⟩, if_pos ⟨h0, hin, hfull⟩]
    exact h.ok.add h0 hin hfull
  · rfl
  · intro y hb
    rcases hb with hb | hb | hb | hb
    · exact .inl (.inl hb)
    · rcases ob1 with e | ⟨q, e, hq⟩
      · exact .inl (.inr (.inl (e ▸ hb)))
      · right
        have : q = y := by
          have := e.symm.trans hb
          injection this
        omega
    · rcases ob2 with e | ⟨q, e, hq⟩
      · exact .inl (.inr (.inr (.inl (e ▸ hb))))
      · right
        have : q = y := by
          have := e.symm.trans hb
          injection this
        have := F12.size
        omega
    · exact .inl (.inr (.inr (.inr hb)))
theorem PutTo.drew {r : Bool} {ad' vs' ix' : List Int} {e : Ending} {n : Nat} (h : PutTo B t cap L r ad' vs' ix' (w.drewN n) e w') : PutTo B t cap L r ad' vs' ix' w e w' := by
  obtain ⟨he, L', h1, h2, h3, h4⟩ := h
  exact ⟨he, L', h1, h2, ((Fr.refl (Blks L) w).drewN n).trans h3, h4⟩
/-- A new word for an address that the log has. -/
theorem turn_plan (h : LogIs w B t cap L ad vs ix) {x : Int} (v : Int) {i : Nat} (hi : ad[i]? = some x) {gv n c : Nat} (hvv : L.vv = .slice (some ⟨gv, 0, none⟩) n c) :
    PutTo B t cap L (putR cap ad x) (putA cap ad x) (putV cap ad vs x v) (putX cap ad ix x) w (.returned (.bool true)) (w.setCell ⟨gv, i, none⟩ (.int .u64 v)) := by
  have hin := List.mem_of_getElem? hi
  obtain ⟨h1, F1⟩ := LogR.set_v h.toLogR hvv i v
  have e1 : putA cap ad x = ad := if_neg fun c => c.2.1 hin
  have e2 : putX cap ad ix x = ix := if_neg fun c => c.2.1 hin
  have e3 : putV cap ad vs x v = vs.set i v := by
    unfold putV
    rw [if_pos hin, idx_of h.ok.nd hi]
  rw [e1, e2, e3, putR_yes (h.ok.nn x hin) (.inl hin)]
  exact ⟨rfl, L, ⟨h1, h.ok.turn i v, h.c32⟩, rfl, F1, fun y hy => .inl hy⟩
theorem stay_plan (h : LogIs w B t cap L ad vs ix) {x : Int} (v : Int) (hno : x < 0 ∨ (¬ x ∈ ad ∧ ¬ ad.length < cap)) :
    PutTo B t cap L (putR cap ad x) (putA cap ad x) (putV cap ad vs x v) (putX cap ad ix x) w (.returned (.bool false)) w := by
  have hin : ¬ x ∈ ad := by
    rcases hno with hno | hno
    · intro c
      have := h.ok.nn x c
      omega
    · exact hno.1
  have e1 : putA cap ad x = ad := if_neg fun c => by rcases hno with hno | hno; exact absurd c.1 (by omega); exact hno.2 c.2.2
  have e2 : putX cap ad ix x = ix := if_neg fun c => by rcases hno with hno | hno; exact absurd c.1 (by omega); exact hno.2 c.2.2
  have e3 : putV cap ad vs x v = vs := by
    unfold putV
    rw [if_neg hin, if_neg]
    intro c
    rcases hno with hno | hno
    · omega
    · exact hno.2 c.2
  rw [e1, e2, e3, putR_no hno]
  exact ⟨rfl, L, h, rfl, Fr.refl _ _, fun y hy => .inl hy⟩
end
theorem a_put (w : World) (B : Nat) (cap : Nat) (L : LV) (ad vs ix : List Int) (x v : Int) (h : LogIs w B TL cap L ad vs ix) (hB : B ≤ w.heap.size) : Calls Try.prog 12 #[.pointer (some ⟨L.g, 0, none⟩), .int .i64 x, .int .u64 v] w fun e w' => PutTo B TL cap L (putR cap ad x) (putA cap ad x) (putV cap ad vs x v) (putX cap ad ix x) w e w' := by
  by_cases h0 : x < 0
  · have hf := Lib.hid (stay_plan h v (.inl h0))
    clear h
    go_enter Try.func12, Try.ntmps12
    go_wp2_with fail
    go_ret
    exact hf.out
  · have hx : 0 ≤ x := by omega
    have hpl := a_place w B cap L ad vs ix x h hx
    have HL := Lib.hid h
    clear h
    go_enter Try.func12, Try.ntmps12
    go_upto_region 4 with (go_at_call 26; refine hpl.mono ?_; rintro e w2 ⟨p, rfl, hhit, hws⟩)
    have h2 : LogIs w2 B TL cap L ad vs ix := by
      obtain ⟨nd, rfl⟩ := hws
      exact HL.out.drewN nd
    have hB2 : B ≤ w2.heap.size := by
      obtain ⟨nd, rfl⟩ := hws
      exact hB
    have HW := Lib.hid hws
    have drew : ∀ (r : Bool) (ad' vs' ix' : List Int) (e : Ending) (w' : World), PutTo B TL cap L r ad' vs' ix' w2 e w' → PutTo B TL cap L r ad' vs' ix' w e w' := fun _ _ _ _ _ _ h => by
      obtain ⟨nd, rfl⟩ := HW.out
      exact h.drew
    have HD := Lib.hid drew
    have hroom := h2.ok.room
    have hsz := h2.ok.sz
    have hfew := h2.ok.few
    have hc32 := h2.c32
    have hlv := h2.ok.lv
    obtain ⟨g, va, vv, vi⟩ := L
    obtain ⟨gi, ci, hvi, _, hci⟩ := own_ptri h2.ri (by omega)
    have b1 : w2.cell? ⟨g, 1, none⟩ = some va := h2.box.cell 1
    have b2 : w2.cell? ⟨g, 2, none⟩ = some vv := h2.box.cell 2
    have b3 : w2.cell? ⟨g, 3, none⟩ = some vi := h2.box.cell 3
    have b0 : w2.cell? ⟨g, 0, none⟩ = some (.int .i64 cap) := h2.box.cell 0
    dsimp only at hvi
    rw [hvi] at b3
    obtain ⟨hpl2, hhit⟩ := hhit
    have hpI : (p : Int) < ix.length := by omega
    have H2 := Lib.hid h2
    have HVI := Lib.hid hvi
    clear hws drew h2 hvi HL HW
    rcases hhit with ⟨i, hai, hip⟩ | ⟨hnin, hps, hip⟩
    · have hi2 := (List.getElem?_eq_some_iff.1 hai).1
      have c1 := (hci p i hip).1
      obtain ⟨gv, cv, hvv, _, hcv⟩ := own_ptrw H2.out.rv (by omega)
      dsimp only at hvv
      rw [hvv, hlv] at b2
      have c2 := hcv i vs[i] (by rw [List.getElem?_eq_getElem])
      have c3 := c2.2
      have c4 := c2.1
      have hf := Lib.hid (HD.out _ _ _ _ _ _ (turn_plan H2.out v hai hvv))
      have hi3 : (i : Int) < ad.length := by omega
      have t1 : ((i : Int) != -1) = true := by simp
      clear hci hcv c2 hvv hai hip HD
      go_wp2_with fail
      go_ret
      exact hf.out
    · have c1 := (hci p (-1) hip)
      have c2 := c1.1
      have c3 := c1.2
      obtain ⟨pa, ca, hva⟩ := rdi_slice (rdi_own H2.out.ra)
      dsimp only at hva
      rw [hva] at b1
      obtain ⟨pv, cv, hvv⟩ := rdw_slice (rdw_own H2.out.rv)
      dsimp only at hvv
      rw [hlv] at hvv
      rw [hvv] at b2
      have hgi : vi.ownBlock = some gi := by rw [HVI.out]; rfl
      have hne : g ≠ gi := fun e => H2.out.oi (by rw [← e] at hgi; exact hgi)
      have hne2 : gi ≠ g := fun e => hne e.symm
      by_cases hfull : ad.length < cap
      · have hfI : decide ((cap : Int) ≤ ad.length) = false := decide_eq_false (by omega)
        have HI := Lib.hid hnin
        have HPS := Lib.hid hps
        have HVA := Lib.hid hva
        have HVV := Lib.hid hvv
        clear hci c1 hip hgi hnin hps hva hvv
        go_upto_region 8 with fail
        go_quiet (fail)
        go_upto_region 10 with fail
        go_region
        obtain ⟨A, c, w3, A2, c3', w5, r1, m1, z1, m12, r2, m2, z2, hf0⟩ := add_plan (H2.out.drewN (nq + 1)) hB2 v hx HI.out hfull HVI.out
        have hf := Lib.hid (HD.out _ _ _ _ _ _ (PutTo.drew hf0))
        rw [← HPS.out] at r1
        dsimp only at m1 z1 m12 r2 m2 z2 r1
        rw [HVA.out] at m1 r1
        rw [HVV.out] at m12 r2 m2
        rw [show (w3.setCell ⟨g, 1, none⟩ (.slice A (ad.length + 1) c)).heap.size = w3.heap.size by simp [World.setCell]] at r2
        have b1' : ((w2.drewN (nq + 1)).setCell ⟨gi, p, none⟩ (.int .i64 ad.length)).cell? ⟨g, 1, none⟩ = some (.slice pa ad.length ca) := by
          exact (World.cell?_of_block (Below.heap_setCell _ ⟨gi, p, none⟩ _ g hne)).trans b1
        obtain ⟨W3, hW⟩ : ∃ W3, (w2.drewN (nq + 1)).setCell ⟨gi, p, none⟩ (.int .i64 ad.length) = W3 := ⟨_, rfl⟩
        rw [hW] at r1 b1'
        rw [hW]
        clear hf0 HD H2 HI HPS HVI HVA HVV b1 b2 b3 c2 c3 hW
        go_wp2_with (at_builtin; first | refine wpList_append_run rfl _ _ _ rfl r1 (by rfl) (by rfl) ?_ | refine wpList_append_run rfl _ _ _ rfl r2 (by rfl) (by rfl) ?_)
        go_ret
        exact hf.out
      · have hfI : decide ((cap : Int) ≤ ad.length) = true := decide_eq_true (by omega)
        have hf := Lib.hid fun n => (HD.out _ _ _ _ _ _ (PutTo.drew (n := n) (stay_plan (H2.out.drewN n) v (.inr ⟨hnin, hfull⟩))))
        clear hci c1 hip hgi hnin hps hva hvv HD
        go_upto_region 8 with fail
        go_quiet (fail)
        go_wp2_with fail
        go_ret
        exact hf.out nq
theorem a_place_at {w : World} {B : Nat} {cap : Nat} {L : LV} {ad vs ix : List Int} {x : Int} (h : LogIs w B TL cap L ad vs ix) (hx : 0 ≤ x) {p : Nat} (hp : Hits ad ix x p) : Calls Try.prog 26 #[.pointer (some ⟨L.g, 0, none⟩), .int .i64 x] w fun e w' => e = .returned (.int .i64 p) ∧ Ws w w' :=
  (a_place w B cap L ad vs ix x h hx).mono fun e w' ⟨q, he, hq, hw⟩ => ⟨by rw [he, h.ok.hit_one hq hp], hw⟩
theorem a_get (w : World) (B : Nat) (cap : Nat) (L : LV) (ad vs ix : List Int) (x : Int) (h : LogIs w B TL cap L ad vs ix) : Calls Try.prog 20 #[.pointer (some ⟨L.g, 0, none⟩), .int .i64 x] w fun e w' => e = .returned (.tuple #[.int .u64 (getV ad vs x), .bool (getB ad x)]) ∧ Ws w w' := by
  by_cases h0 : x < 0
  · have hin : ¬ x ∈ ad := fun c => by
      have := h.ok.nn x c
      omega
    have e1 : getV ad vs x = 0 := if_neg hin
    have e2 : getB ad x = false := decide_eq_false hin
    rw [e1, e2]
    clear h hin e1 e2
    go_enter Try.func20, Try.ntmps20
    go_wp2_with fail
    go_ret2
    exact ⟨rfl, 0, rfl⟩
  · have hx : 0 ≤ x := by omega
    obtain ⟨p, hp⟩ := h.ok.hit_some x
    have hpl : ∀ n, Calls Try.prog 26 #[.pointer (some ⟨L.g, 0, none⟩), .int .i64 x] (w.drewN n) fun e w' => e = .returned (.int .i64 p) ∧ ∃ m, w' = (w.drewN n).drewN m := fun n => a_place_at (h.drewN n) hx hp
    have hroom := h.ok.room
    have hlv := h.ok.lv
    obtain ⟨g, va, vv, vi⟩ := L
    obtain ⟨gi, ci, hvi, _, hci⟩ := own_ptri h.ri (by omega)
    have b2 : w.cell? ⟨g, 2, none⟩ = some vv := h.box.cell 2
    have b3 : w.cell? ⟨g, 3, none⟩ = some vi := h.box.cell 3
    dsimp only at hvi
    rw [hvi] at b3
    have hpI : (p : Int) < ix.length := by have := hp.1; omega
    rcases hp with ⟨hp1, ⟨i, hai, hip⟩ | ⟨hnin, hps, hip⟩⟩
    · have hi2 := (List.getElem?_eq_some_iff.1 hai).1
      have c1 := (hci p i hip).1
      obtain ⟨gv, cv, hvv, _, hcv⟩ := own_ptrw h.rv (by omega)
      dsimp only at hvv
      rw [hvv, hlv] at b2
      have hvl : vs[i]? = some (vs[i]'(by omega)) := List.getElem?_eq_getElem _
      have c2 := (hcv i _ hvl).1
      have hin := List.mem_of_getElem? hai
      have e1 : getV ad vs x = vs[i]'(by omega) := by
        unfold getV
        rw [if_pos hin, idx_of h.ok.nd hai, hvl]
        rfl
      have e2 : getB ad x = true := decide_eq_true hin
      obtain ⟨u, hu⟩ : ∃ u, vs[i]'(by omega) = u := ⟨_, rfl⟩
      rw [hu] at c2 e1
      rw [e1, e2]
      have hi3 : (i : Int) < ad.length := by omega
      have t1 : ((i : Int) == -1) = false := by simp
      clear hci hcv hvv hai hip hu hvl hin e1 e2 h hvi hroom hlv
      go_enter Try.func20, Try.ntmps20
      go_upto_region 3 with fail
      go_quiet (first | (go_at_call 26; exact Calls.quiet_of (hpl _)))
      go_wp2_with fail
      go_ret2
      exact ⟨rfl, nq, rfl⟩
    · have c1 := (hci p (-1) hip).1
      have e1 : getV ad vs x = 0 := if_neg hnin
      have e2 : getB ad x = false := decide_eq_false hnin
      rw [e1, e2]
      clear hci hip e1 e2 h hvi hroom hlv hnin hps
      go_enter Try.func20, Try.ntmps20
      go_upto_region 3 with fail
      go_quiet (first | (go_at_call 26; exact Calls.quiet_of (hpl _)))
      go_wp2_with fail
      go_ret2
      exact ⟨rfl, nq, rfl⟩
theorem a_get_nil (w : World) (x : Int) : Calls Try.prog 20 #[.pointer none, .int .i64 x] w fun e w' => e = .returned (.tuple #[.int .u64 0, .bool false]) ∧ w' = w := by
  go_enter Try.func20, Try.ntmps20
  go_wp2_with fail
  go_ret2
  exact ⟨rfl, rfl⟩
theorem a_put_nil (w : World) (x v : Int) : Calls Try.prog 12 #[.pointer none, .int .i64 x, .int .u64 v] w fun e w' => e = .returned (.bool false) ∧ w' = w := by
  go_enter Try.func12, Try.ntmps12
  go_wp2_with fail
  go_ret
  exact ⟨rfl, rfl⟩
theorem a_len (w : World) (B : Nat) (cap : Nat) (L : LV) (ad vs ix : List Int) (h : LogR w B TL cap L ad vs ix) : Calls Try.prog 14 #[.pointer (some ⟨L.g, 0, none⟩)] w fun e w' => e = .returned (.int .i64 ad.length) ∧ w' = w := by
  obtain ⟨g, va, vv, vi⟩ := L
  obtain ⟨A, c, hva⟩ := rdi_slice (rdi_own h.ra)
  dsimp only at hva
  have b1 : w.cell? ⟨g, 1, none⟩ = some va := h.box.cell 1
  rw [hva] at b1
  clear h hva
  go_enter Try.func14, Try.ntmps14
  go_wp2_with fail
  go_ret
  exact ⟨rfl, rfl⟩
theorem a_len_nil (w : World) : Calls Try.prog 14 #[.pointer none] w fun e w' => e = .returned (.int .i64 0) ∧ w' = w := by
  go_enter Try.func14, Try.ntmps14
  go_wp2_with fail
  go_ret
  exact ⟨rfl, rfl⟩
/-- What copied leaves: a row of its own. -/
def CopyI (w : World) (xs : List Int) (e : Ending) (w' : World) : Prop := ∃ y, e = .returned (.slice (some ⟨y, 0, none⟩) xs.length xs.length) ∧ w.heap.size ≤ y ∧ Mem w' y TI (IA xs) ∧ Below w.heap.size w w'
def CopyW (w : World) (xs : List Int) (e : Ending) (w' : World) : Prop := ∃ y, e = .returned (.slice (some ⟨y, 0, none⟩) xs.length xs.length) ∧ w.heap.size ≤ y ∧ Mem w' y TU (WA xs) ∧ Below w.heap.size w w'
theorem k_copied_i (w : World) (v : Value) (xs : List Int) (h : RdI w v xs) (hl : xs.length ≤ 1000) : Calls Try.prog 28 #[v] w fun e w' => CopyI w xs e w' := by
  have hmk := fun w => make_i w xs.length (by omega)
  obtain ⟨w2, hcp, hrow, hF⟩ := copy_i (w := w.alloc (.cells (IA (List.replicate xs.length 0)) TI)) (g := w.heap.size) (Mem.new w TI _) rfl (rdi_below h (below_new w (.cells (IA (List.replicate xs.length 0)) TI))) 3
  have hB : Below w.heap.size w w2 := (below_new w (.cells (IA (List.replicate xs.length 0)) TI)).trans (hF.below (fun x hx => by omega) (by rw [size_new]; omega))
  have hf : Hid (Mem w2 w.heap.size TI (IA xs) ∧ Below w.heap.size w w2) := Lib.hid ⟨hrow, hB⟩
  obtain ⟨p, c, rfl, _⟩ := h
  clear hrow hF hB
  go_enter Try.func28, Try.ntmps28
  go_wp2_with fail
  go_ret
  exact ⟨_, rfl, Nat.le_refl _, hf.out⟩
theorem k_copied_w (w : World) (v : Value) (xs : List Int) (h : RdW w v xs) (hl : xs.length ≤ 1000) : Calls Try.prog 29 #[v] w fun e w' => CopyW w xs e w' := by
  have hmk := fun w => make_w w xs.length (by omega)
  obtain ⟨w2, hcp, hrow, hF⟩ := copy_w (w := w.alloc (.cells (WA (List.replicate xs.length 0)) TU)) (g := w.heap.size) (Mem.new w TU _) rfl (rdw_below h (below_new w (.cells (WA (List.replicate xs.length 0)) TU))) 3
  have hB : Below w.heap.size w w2 := (below_new w (.cells (WA (List.replicate xs.length 0)) TU)).trans (hF.below (fun x hx => by omega) (by rw [size_new]; omega))
  have hf : Hid (Mem w2 w.heap.size TU (WA xs) ∧ Below w.heap.size w w2) := Lib.hid ⟨hrow, hB⟩
  obtain ⟨p, c, rfl, _⟩ := h
  clear hrow hF hB
  go_enter Try.func29, Try.ntmps29
  go_wp2_with fail
  go_ret
  exact ⟨_, rfl, Nat.le_refl _, hf.out⟩
theorem a_addrs (w : World) (B : Nat) (cap : Nat) (L : LV) (ad vs ix : List Int) (h : LogIs w B TL cap L ad vs ix) : Calls Try.prog 16 #[.pointer (some ⟨L.g, 0, none⟩)] w fun e w' => CopyI w ad e w' := by
  have hc := k_copied_i w L.va ad (rdi_own h.ra) (by have := h.ok.few; have := h.c32; omega)
  obtain ⟨g, va, vv, vi⟩ := L
  have b1 : w.cell? ⟨g, 1, none⟩ = some va := h.box.cell 1
  clear h
  go_enter Try.func16, Try.ntmps16
  go_wp2_with (go_at_call 28; refine hc.mono ?_; rintro e w2 ⟨y, rfl, h1, h2, h3⟩)
  go_ret
  exact ⟨y, rfl, h1, h2, h3⟩
theorem a_values (w : World) (B : Nat) (cap : Nat) (L : LV) (ad vs ix : List Int) (h : LogIs w B TL cap L ad vs ix) : Calls Try.prog 18 #[.pointer (some ⟨L.g, 0, none⟩)] w fun e w' => CopyW w vs e w' := by
  have hc := k_copied_w w L.vv vs (rdw_own h.rv) (by have := h.ok.few; have := h.c32; have := h.ok.lv; omega)
  obtain ⟨g, va, vv, vi⟩ := L
  have b1 : w.cell? ⟨g, 2, none⟩ = some vv := h.box.cell 2
  clear h
  go_enter Try.func18, Try.ntmps18
  go_wp2_with (go_at_call 29; refine hc.mono ?_; rintro e w2 ⟨y, rfl, h1, h2, h3⟩)
  go_ret
  exact ⟨y, rfl, h1, h2, h3⟩
theorem a_index (w : World) (B : Nat) (cap : Nat) (L : LV) (ad vs ix : List Int) (h : LogIs w B TL cap L ad vs ix) : Calls Try.prog 19 #[.pointer (some ⟨L.g, 0, none⟩)] w fun e w' => CopyI w ix e w' := by
  have hc := k_copied_i w L.vi ix (rdi_own h.ri) (by have := h.ok.sz; omega)
  obtain ⟨g, va, vv, vi⟩ := L
  have b1 : w.cell? ⟨g, 3, none⟩ = some vi := h.box.cell 3
  clear h
  go_enter Try.func19, Try.ntmps19
  go_wp2_with (go_at_call 28; refine hc.mono ?_; rintro e w2 ⟨y, rfl, h1, h2, h3⟩)
  go_ret
  exact ⟨y, rfl, h1, h2, h3⟩
theorem a_index_nil (w : World) : Calls Try.prog 19 #[.pointer none] w fun e w' => e = .returned (.slice none 0 0) ∧ w' = w := by
  go_enter Try.func19, Try.ntmps19
  go_wp2_with fail
  go_ret
  exact ⟨rfl, rfl⟩
end Go.Proofs.Ytelpimhgodkmlaa.RlB
