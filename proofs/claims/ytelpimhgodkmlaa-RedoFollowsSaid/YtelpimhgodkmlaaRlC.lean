/-
  Contracts of the reference's log: find, Put, Get.
-/
import Derived.Test.YtelpimhgodkmlaaRlB
namespace Go.Proofs.Ytelpimhgodkmlaa.RlC
open Go.ChangeShapes Go.WideShapes Go.ChangeAt Go.RowKit
open PlainT BlkW CelS CelM CelV CelN LabD FreV FreI RsA RlU RlP RlA RlB
set_option linter.unusedVariables false
set_option maxHeartbeats 1000000
set_option maxRecDepth 100000
/-- What find gives. -/
def Fnd (ad : List Int) (x k : Int) : Prop := (∃ i : Nat, k = i ∧ ad[i]? = some x) ∨ (k = -1 ∧ ¬ x ∈ ad)
theorem r_find (w : World) (B : Nat) (cap : Nat) (L : LV) (ad vs ix : List Int) (x : Int) (h : LogIs w B TK cap L ad vs ix) : Calls Try.prog 27 #[.pointer (some ⟨L.g, 0, none⟩), .int .i64 x] w fun e w' => ∃ k : Int, e = .returned (.int .i64 k) ∧ Fnd ad x k ∧ w' = w := by
  have hl : ad.length ≤ 32 := by have := h.ok.few; have := h.c32; omega
  obtain ⟨g, va, vv, vi⟩ := L
  obtain ⟨p, c, rfl, hc⟩ := rdi_own h.ra
  have b1 : w.cell? ⟨g, 1, none⟩ = some (.slice p ad.length c) := h.box.cell 1
  obtain ⟨n, hn⟩ : ∃ n, ad.length = n := ⟨_, rfl⟩
  rw [hn] at hl b1
  have HN := Lib.hid hn
  have HC := Lib.hid hc
  clear hn hc h
  go_enter Try.func27, Try.ntmps27
  go_wp2_with fail
  go_loopw [5] (fun kv wr => ∃ k : Nat, k ≤ n ∧ kv = .int .i64 k ∧ (x ∈ ad ↔ x ∈ ad.drop k) ∧ wr = w) (fun kv _ => n - (intOf kv).toNat)
  case atStart => exact ⟨0, by omega, rfl, by simp, rfl⟩
  case round =>
    obtain ⟨k, hk, rfl, hin, rfl⟩ := hrel
    have HI := Lib.hid hin
    clear hin
    by_cases hlt : k < n
    · have hlk : (k : Int) < n := by omega
      obtain ⟨y, hy⟩ : ∃ y, ad[k]? = some y := ⟨ad[k]'(by rw [HN.out]; exact hlt), by rw [List.getElem?_eq_getElem]⟩
      obtain ⟨gg, o, rfl, hcc⟩ := HC.out k y hy
      have HY := Lib.hid hy
      clear hy
      by_cases hxy : y = x
      · have hb : (y == x) = true := by simp [hxy]
        have hf : Hid (Fnd ad x k) := Lib.hid (.inl ⟨k, rfl, by rw [← hxy]; exact HY.out⟩)
        clear hxy
        go_wp2_with fail
        go_ret
        exact ⟨k, rfl, hf.out, rfl⟩
      · have hb : (y == x) = false := by simp [hxy]
        have hf := Lib.hid (HI.out.trans (in_drop HY.out (Ne.symm hxy)))
        clear hxy HI
        go_wp2_with fail
        go_roundw
        case rel => exact ⟨k + 1, by omega, by go_num, hf.out, trivial⟩
        case measure => simp [intOf]; omega
    · obtain rfl : k = n := by omega
      have hf : Hid (Fnd ad x (-1)) := Lib.hid (.inr ⟨rfl, by rw [HI.out, List.drop_eq_nil_of_le (by rw [HN.out]; exact Nat.le_refl _)]; simp⟩)
      clear HI hlt hk
      go_wp2_with fail
      go_ret
      exact ⟨-1, rfl, hf.out, rfl⟩
theorem r_get (w : World) (B : Nat) (cap : Nat) (L : LV) (ad vs ix : List Int) (x : Int) (h : LogIs w B TK cap L ad vs ix) : Calls Try.prog 21 #[.pointer (some ⟨L.g, 0, none⟩), .int .i64 x] w fun e w' => e = .returned (.tuple #[.int .u64 (getV ad vs x), .bool (getB ad x)]) ∧ w' = w := by
  have hfi := r_find w B cap L ad vs ix x h
  have hlv := h.ok.lv
  obtain ⟨g, va, vv, vi⟩ := L
  have b2 : w.cell? ⟨g, 2, none⟩ = some vv := h.box.cell 2
  have HH := Lib.hid h
  clear h
  go_enter Try.func21, Try.ntmps21
  go_upto_region 2 with (go_at_call 27; refine hfi.mono ?_; rintro e w2 ⟨k, rfl, hk, rfl⟩)
  rcases hk with ⟨i, rfl, hai⟩ | ⟨rfl, hnin⟩
  · have hi2 := (List.getElem?_eq_some_iff.1 hai).1
    obtain ⟨gv, cv, hvv, _, hcv⟩ := own_ptrw HH.out.rv (by omega)
    dsimp only at hvv
    rw [hvv, hlv] at b2
    have hvl : vs[i]? = some (vs[i]'(by omega)) := List.getElem?_eq_getElem _
    have c2 := (hcv i _ hvl).1
    have hin := List.mem_of_getElem? hai
    have e1 : getV ad vs x = vs[i]'(by omega) := by
      unfold getV
      rw [if_pos hin, idx_of HH.out.ok.nd hai, hvl]
      rfl
    have e2 : getB ad x = true := decide_eq_true hin
    obtain ⟨u, hu⟩ : ∃ u, vs[i]'(by omega) = u := ⟨_, rfl⟩
    rw [hu] at c2 e1
    have E1 := Lib.hid e1
    have E2 := Lib.hid e2
    have hi3 : (i : Int) < ad.length := by omega
    clear hcv hvv hai hu hvl hin e1 e2 hlv hfi HH
    go_wp2_with fail
    go_ret2
    exact ⟨by rw [E1.out, E2.out]; rfl, rfl⟩
  · have e1 : getV ad vs x = 0 := if_neg hnin
    have e2 : getB ad x = false := decide_eq_false hnin
    have E1 := Lib.hid e1
    have E2 := Lib.hid e2
    clear e1 e2 hlv hfi HH hnin
    go_wp2_with fail
    go_ret2
    exact ⟨by rw [E1.out, E2.out]; rfl, rfl⟩
theorem r_put (w : World) (B : Nat) (cap : Nat) (L : LV) (ad vs ix : List Int) (x v : Int) (h : LogIs w B TK cap L ad vs ix) (hB : B ≤ w.heap.size) : Calls Try.prog 13 #[.pointer (some ⟨L.g, 0, none⟩), .int .i64 x, .int .u64 v] w fun e w' => PutTo B TK cap L (putR cap ad x) (putA cap ad x) (putV cap ad vs x v) (putX cap ad ix x) w e w' := by
  by_cases h0 : x < 0
  · have hf := Lib.hid (stay_plan h v (.inl h0))
    clear h
    go_enter Try.func13, Try.ntmps13
    go_wp2_with fail
    go_ret
    exact hf.out
  · have hx : 0 ≤ x := by omega
    have hfi := r_find w B cap L ad vs ix x h
    have hroom := h.ok.room
    have hsz := h.ok.sz
    have hfew := h.ok.few
    have hc32 := h.c32
    have hlv := h.ok.lv
    have H2 := Lib.hid h
    obtain ⟨g, va, vv, vi⟩ := L
    obtain ⟨gi, ci, hvi, _, hci⟩ := own_ptri h.ri (by omega)
    have b0 : w.cell? ⟨g, 0, none⟩ = some (.int .i64 cap) := h.box.cell 0
    have b1 : w.cell? ⟨g, 1, none⟩ = some va := h.box.cell 1
    have b2 : w.cell? ⟨g, 2, none⟩ = some vv := h.box.cell 2
    have b3 : w.cell? ⟨g, 3, none⟩ = some vi := h.box.cell 3
    dsimp only at hvi
    rw [hvi] at b3
    obtain ⟨pa, ca, hva⟩ := rdi_slice (rdi_own h.ra)
    dsimp only at hva
    rw [hva] at b1
    have HVI := Lib.hid hvi
    have HVA := Lib.hid hva
    have HCI := Lib.hid hci
    clear h hvi hva hci
    go_enter Try.func13, Try.ntmps13
    go_upto_region 4 with (go_at_call 27; refine hfi.mono ?_; rintro e w2 ⟨k, rfl, hk, rfl⟩)
    rcases hk with ⟨i, rfl, hai⟩ | ⟨rfl, hnin⟩
    · have hi2 := (List.getElem?_eq_some_iff.1 hai).1
      obtain ⟨gv, cv, hvv, _, hcv⟩ := own_ptrw H2.out.rv (by omega)
      dsimp only at hvv
      rw [hvv, hlv] at b2
      have c2 := hcv i vs[i] (by rw [List.getElem?_eq_getElem])
      have c3 := c2.2
      have c4 := c2.1
      have hf := Lib.hid (turn_plan H2.out v hai hvv)
      have hi3 : (i : Int) < ad.length := by omega
      clear hcv c2 hvv hai hfi HCI
      go_wp2_with fail
      go_ret
      exact hf.out
    · by_cases hfull : ad.length < cap
      · have hfI : ((ad.length : Int) == cap) = false := by simp; omega
        have HI := Lib.hid hnin
        obtain ⟨s, hs⟩ : ∃ s, ix.length = s := ⟨_, rfl⟩
        obtain ⟨d, hd, hds, hse, hno⟩ := H2.out.ok.slot x
        have hhome := home_lt (by omega : 0 < ix.length) x
        rw [hs] at hd hds hno hhome hroom hsz b3
        obtain ⟨r, hr⟩ : ∃ r, x % (s : Int) = r := ⟨_, rfl⟩
        have hr0 := Int.emod_nonneg x (by omega : (s : Int) ≠ 0)
        have hr1 := Int.emod_lt_of_pos x (by omega : (0 : Int) < s)
        have hh := home_eq (by omega : 0 < s) x
        rw [hr] at hh hr0 hr1
        obtain ⟨o, ho⟩ : ∃ o, home s x = o := ⟨_, rfl⟩
        rw [ho] at hh hds hno hhome
        have e1 : x.tmod s = r := tm hx hr
        have e2 : (r * 5).tmod s = o := tm (by omega) (by rw [Int.mul_comm]; exact hh)
        have hs0 : ((s : Int) == 0) = false := by simp; omega
        have HNO := Lib.hid hno
        have HDS := Lib.hid hds
        have HSE := Lib.hid hse
        have HS := Lib.hid hs
        clear hr hh hno hds hse hs ho hnin hfi
        go_upto_region 7 with fail
        go_quiet (fail)
        go_wp2_with fail
        have B0 : Hid ((w2.drewN nq).cell? ⟨g, 3, none⟩ = some (.slice (some ⟨gi, 0, none⟩) s ci)) := Lib.hid b3
        go_loopw [9] (fun pv wr => ∃ k : Nat, k ≤ d ∧ pv = .int .i64 ((o + k) % s : Nat) ∧ wr = w2.drewN nq) (fun pv _ => ((o + d) % s + s - (intOf pv).toNat) % s)
        case atStart => exact ⟨0, by omega, by rw [Nat.add_zero, Nat.mod_eq_of_lt hhome], rfl⟩
        case round =>
          obtain ⟨k, hk, rfl, hwr⟩ := hrel
          obtain ⟨p, hp⟩ : ∃ p, (o + k) % s = p := ⟨_, rfl⟩
          have hps : p < s := by rw [← hp]; exact Nat.mod_lt _ (by omega)
          have hpI : (p : Int) < s := by omega
          have H3 : LogIs wr B TK cap ⟨g, va, vv, vi⟩ ad vs ix := by rw [hwr]; exact H2.out.drewN nq
          have hB3 : B ≤ wr.heap.size := by rw [hwr]; exact hB
          have HD : Hid (∀ (r : Bool) (ad' vs' ix' : List Int) (e : Ending) (w' : World), PutTo B TK cap ⟨g, va, vv, vi⟩ r ad' vs' ix' wr e w' → PutTo B TK cap ⟨g, va, vv, vi⟩ r ad' vs' ix' w2 e w') := Lib.hid fun _ _ _ _ _ _ h => by
            rw [hwr] at h
            exact h.drew
          have b1' : wr.cell? ⟨g, 1, none⟩ = some (.slice pa ad.length ca) := by rw [← HVA.out]; exact H3.box.cell 1
          have b2' : wr.cell? ⟨g, 2, none⟩ = some vv := H3.box.cell 2
          have b3' : wr.cell? ⟨g, 3, none⟩ = some (.slice (some ⟨gi, 0, none⟩) s ci) := by
            have := H3.box.cell 3
            dsimp only at this
            rw [HVI.out, HS.out] at this
            exact this
          have hcell : ∀ j y, ix[j]? = some y → wr.cell? ⟨gi, j, none⟩ = some (.int .i64 y) ∧ wr.frozen? ⟨gi, j, none⟩ = false := by
            rw [hwr]
            exact HCI.out
          have HW := Lib.hid hwr
          have HCC := Lib.hid hcell
          have H4 := Lib.hid H3
          rw [hp]
          have HP := Lib.hid hp
          clear hwr b0 b1 b2 b3 B0 hcell H3 hp
          by_cases hlt : k < d
          · have hnn := HNO.out k hlt
            rw [HP.out] at hnn
            obtain ⟨y, hy⟩ : ∃ y, ix[p]? = some y := ⟨ix[p]'(by rw [HS.out]; exact hps), by rw [List.getElem?_eq_getElem]⟩
            have hy0 : 0 ≤ y := by
              rcases H4.out.ok.ent p y hy with h | h
              · exact absurd (by rw [hy, h]) hnn
              · exact h.1
            have c1 := (HCC.out p y hy).1
            obtain ⟨p2, hp2⟩ : ∃ p2, (p + 1) % s = p2 := ⟨_, rfl⟩
            have t3 : ((p : Int) + 1).tmod s = p2 := tm (by omega) (by rw [← hp2]; simp)
            have HP2 := Lib.hid hp2
            clear hy hnn hp2 b1' b2'
            go_wp2_with fail
            go_roundw
            case rel => exact ⟨k + 1, by omega, by rw [← HP2.out, ← HP.out, Nat.mod_add_mod, Nat.add_assoc], HW.out⟩
            case measure =>
              show ((o + d) % s + s - ((p2 : Int)).toNat) % s < ((o + d) % s + s - ((p : Int)).toNat) % s
              rw [Int.toNat_natCast, Int.toNat_natCast, ← HP2.out, ← HP.out]
              have q1 : (o + d) % s = (((o + k) % s) + (d - k)) % s := by rw [Nat.mod_add_mod]; congr 1; omega
              have q2 : (o + d) % s = ((((o + k) % s + 1) % s) + (d - k - 1)) % s := by rw [Nat.mod_add_mod, Nat.add_assoc, Nat.mod_add_mod]; congr 1; omega
              have g1 := dist (s := s) (a := (o + k) % s) (e := d - k) (Nat.mod_lt _ (by omega)) (by omega)
              have g2 := dist (s := s) (a := ((o + k) % s + 1) % s) (e := d - k - 1) (Nat.mod_lt _ (by omega)) (by omega)
              rw [← q1] at g1
              rw [← q2] at g2
              rw [g1, g2]
              omega
          · obtain rfl : k = d := by omega
            have hsl : slot ix x = p := by rw [← HDS.out, HP.out]
            have hcc := HCC.out p (-1) (by rw [← hsl]; exact HSE.out)
            have c1 := hcc.1
            have c2 := hcc.2
            obtain ⟨pv, cv, hvv⟩ := rdw_slice (rdw_own H4.out.rv)
            dsimp only at hvv
            rw [hlv] at hvv
            rw [hvv] at b2'
            have HVV := Lib.hid hvv
            have hgi : vi.ownBlock = some gi := by rw [HVI.out]; rfl
            have hne : g ≠ gi := fun e => H4.out.oi (by rw [← e] at hgi; exact hgi)
            have hne2 : gi ≠ g := fun e => hne e.symm
            have HSL := Lib.hid hsl
            clear hcc hsl hvv hgi HW HP HDS HNO HSE hlt hk
            go_upto_region 13 with fail
            go_region
            obtain ⟨A, c, w3, A2, c3', w5, r1, m1, z1, m12, r2, m2, z2, hf0⟩ := add_plan (H4.out.drewN 1) hB3 v hx HI.out hfull HVI.out
            have hf := Lib.hid (HD.out _ _ _ _ _ _ (PutTo.drew hf0))
            rw [HSL.out] at r1
            dsimp only at m1 z1 m12 r2 m2 z2 r1
            rw [HVA.out] at m1 r1
            rw [HVV.out] at m12 r2 m2
            rw [show (w3.setCell ⟨g, 1, none⟩ (.slice A (ad.length + 1) c)).heap.size = w3.heap.size by simp [World.setCell]] at r2
            have b1'' : ((wr.drewN 1).setCell ⟨gi, p, none⟩ (.int .i64 ad.length)).cell? ⟨g, 1, none⟩ = some (.slice pa ad.length ca) := by
              exact (World.cell?_of_block (Below.heap_setCell _ ⟨gi, p, none⟩ _ g hne)).trans b1'
            obtain ⟨W3, hW⟩ : ∃ W3, (wr.drewN 1).setCell ⟨gi, p, none⟩ (.int .i64 ad.length) = W3 := ⟨_, rfl⟩
            rw [hW] at r1 b1''
            rw [show (wr.setCell ⟨gi, p, none⟩ (.int .i64 ad.length)).drew = (wr.drewN 1).setCell ⟨gi, p, none⟩ (.int .i64 ad.length) from rfl, hW]
            clear hf0 HD H2 H4 HI HSL HVI HVA HVV HCC HCI b1' b2' b3' c1 c2 hW
            go_wp2_with (at_builtin; first | refine wpList_append_run rfl _ _ _ rfl r1 (by rfl) (by rfl) ?_ | refine wpList_append_run rfl _ _ _ rfl r2 (by rfl) (by rfl) ?_)
            go_ret
            exact hf.out
      · have hfI : ((ad.length : Int) == cap) = true := by simp; omega
        have hf := Lib.hid fun n => (PutTo.drew (n := n) (stay_plan (H2.out.drewN n) v (.inr ⟨hnin, hfull⟩)))
        clear hnin hfi
        go_upto_region 7 with fail
        go_quiet (fail)
        go_wp2_with fail
        go_ret
        exact hf.out nq
end Go.Proofs.Ytelpimhgodkmlaa.RlC
