/-
  Contract of the reference's Assemble (layer 4).
-/
import Derived.Test.YtcplhochgngedaaGreatDoorRfC
import Derived.Deep.DeepCutAuto
namespace Go.Proofs.YtcplhochgngedaaGreatDoor.RfD
open Go.ChangeShapes Go.WideShapes Go.ChangeAt Go.RowKit
open PlainT IsaE IsaS BlkW IsaA IsaB IsaF IsaP IsaQ IsaX IsaL AsmS AsmA AsmB IsaR MapW AsmC AsmR AsmE AsmF RfA RefA RefB RefF RefP RefQ RfB RfC
set_option linter.unusedVariables false
set_option maxHeartbeats 1000000
/-- The reference's lists besides the program. -/
structure Rows4 (B : Nat) (w : World) (items : List AItem) (L : List (List UInt8 × Nat)) (vn vt vd vl : Value) : Prop where
  names : w.ownsRow B 9 1 vn L.length (L.map fun y => .string (mk y.1))
  tgts : w.ownsRow B 9 1 vt items.length (items.map fun x => .string (mk x.t))
  places : w.ownsRow B 3 1 vd L.length (L.map fun y => .int .i64 (y.2 : Int))
  lines : w.ownsRow B 3 1 vl items.length (items.map fun x => .int .i64 (x.line : Int))
theorem Rows4.far {B B' : Nat} {w : World} {items : List AItem} {L : List (List UInt8 × Nat)} {vn vt vd vl vp : Value} {n : Nat} {xs : List Value} {p : Addr} (h : Rows4 B w items L vn vt vd vl) (hp : w.ownsRow B' 40 5 vp n xs) (hb : vp.ownBlock = some p.block) (u : Value) : Rows4 B (w.setCell p u) items L vn vt vd vl := by
  have key : ∀ {e : TypeId} {size k : Nat} {v : Value} {ys : List Value}, w.ownsRow B e size v k ys → e ≠ 40 → (w.setCell p u).ownsRow B e size v k ys := fun ho he => own_far ho (by
    rcases own_ne_own ho hp he with h0 | h0
    · rw [h0]; simp
    · rw [hb] at h0; exact h0) u
  exact ⟨key h.names (by decide), key h.tgts (by decide), key h.places (by decide), key h.lines (by decide)⟩

set_option maxHeartbeats 16000000 in
set_option maxRecDepth 100000 in
theorem ra_short (s : ByteArray) (hs : s.size ≤ 65536) (w : World) : Calls Tryz.prog 10 #[.string s] w fun e w' => AsmIs (bts s) w e w' := by
  have HA := Lib.hid (show asmV (bts s) = match readAll ((linesB s).map bts) 1 ⟨[], []⟩ with | .err n e => .err n e | .ok st => setTargets st.labels 0 st.items by unfold asmV; rw [if_neg (by rw [bytes_len]; omega), linesB_bts, readAll_trim]; rfl)
  obtain ⟨hPl, hPb⟩ := linesB_size s
  have hPn : (linesB s).length ≤ 65537 := by omega
  have hsp := fun w => r_Lines s (by omega) w
  generalize linesB s = P at HA hPb hPn hsp
  have HPB := Lib.hid hPb
  have HSP := Lib.hid hsp
  clear hPl hPb hsp
  go_enter Tryz.func10, Tryz.ntmps10
  go_wp2_with fail
  refine (HSP.out _).mono ?_
  rintro e w1 ⟨A, c, rfl, hc1, hc2, hrow, hb1⟩
  go_wp2
  go_loopw [5, 6, 7, 8, 9, 11] (fun vp vn vt vd vl i wr => ∃ (k : Nat) (st : St), k ≤ P.length ∧ i = .int .i64 k ∧ RefAt w1.heap.size wr st.items st.labels vp vn vt vd vl ∧ StOk st ∧ Hid (st.labels.length ≤ k) ∧ Hid (readAll (P.map bts) 1 ⟨[], []⟩ = readAll ((P.map bts).drop k) (k + 1) st) ∧ Below w1.heap.size w1 wr) (fun _ _ _ _ _ i _ => P.length - (intOf i).toNat)
  case atStart => exact ⟨0, ⟨[], []⟩, by omega, rfl, ⟨World.ownsRow_nil _ _ _ _, World.ownsRow_nil _ _ _ _, World.ownsRow_nil _ _ _ _, World.ownsRow_nil _ _ _ _, World.ownsRow_nil _ _ _ _, .inl rfl, .inl rfl⟩, ⟨by simp, by simp, by simp⟩, Nat.le_refl _, rfl, Below.refl _ _⟩
  case round =>
    obtain ⟨k, st, hk, rfl, ha, hst, hll, hr, hb⟩ := hrel
    have hbs := hb.size
    by_cases hlt : k < P.length
    · obtain ⟨x, hx⟩ : ∃ x, P[k]? = some x := ⟨P[k], List.getElem?_eq_getElem hlt⟩
      have hxb := HPB.out x (List.mem_of_getElem? hx)
      obtain ⟨b, off, rfl, hbl, hcc⟩ := hrow.2 (by omega)
      have hxc : wr.cell? ⟨b, off + k, none⟩ = some (.string x) := (hb.cell (p := ⟨b, off + k, none⟩) hbl).trans (hcc k x hx)
      have HX := Lib.hid (show (P.map bts)[k]? = some (bts x) by rw [List.getElem?_map, hx]; rfl)
      have hst1 := hst.1
      have hll' := hll.out
      have hcx := code_size x
      obtain ⟨C, hC⟩ : ∃ C, codeOf x = C := ⟨_, rfl⟩
      have HC := Lib.hid hC
      rw [hC] at hcx
      clear hx hcc hC
      go_wp2_with fail
      refine (r_bare x (by omega) _).mono ?_
      rintro e w2 ⟨rfl, rfl⟩
      rw [HC.out]
      go_wp2_with fail
      refine (r_Words C (by omega) _).mono ?_
      rintro e w2 ⟨A2, n2, c2, rfl, hrow2, hn2, hb2⟩
      have ha2 := ha.below hb2
      have hb3 := hb.trans (hb2.mono hbs)
      have hl2 := hrow2.1
      clear ha hb hb2 hxc
      by_cases hw0 : words C = []
      · have hr2 := Lib.hid (show readAll (P.map bts) 1 ⟨[], []⟩ = readAll ((P.map bts).drop (k + 1)) (k + 1 + 1) st by
          rw [hr.out, readAll_drop HX.out, step_nowords (by rw [HC.out]; exact hw0)])
        have hn0 : n2 = 0 := by rw [← hl2, hw0]; rfl
        subst hn0
        have hll3 := Lib.hid (show st.labels.length ≤ k + 1 by omega)
        clear hw0 hrow2 hl2 hr
        go_wp2
        go_roundw
        case rel => exact ⟨k + 1, st, by omega, by go_num, ha2, hst, hll3, hr2, hb3⟩
        case measure => simp [intOf]; omega
      · obtain ⟨x0, xr, hws⟩ : ∃ x0 xr, words C = x0 :: xr := by
          cases hh : words C with
          | nil => exact absurd hh hw0
          | cons a r => exact ⟨a, r, rfl⟩
        have HST := Lib.hid (step_words (st := st) (n := k + 1) (s := x) (by rw [HC.out]; exact hw0))
        have hx0 := words_size C x0 (by rw [hws]; simp)
        have hxall := Lib.hid (show ∀ y ∈ words C, y.size ≤ 100000 from fun y hy => by have := (words_size C y hy).2; omega)
        obtain ⟨b2, off2, rfl, hbl2, hcc2⟩ := hrow2.2 (by rw [← hl2, hws]; simp)
        have h0c : w2.cell? ⟨b2, off2, none⟩ = some (.string x0) := hcc2 0 x0 (by rw [hws]; rfl)
        have hn1 : 1 ≤ n2 := by rw [← hl2, hws]; simp
        have hn0 : ((n2 : Int) == 0) = false := by rw [beq_eq_false_iff_ne]; omega
        obtain ⟨hx0a, hx0b⟩ := hx0
        obtain ⟨c0, hc0⟩ : ∃ c0, x0[x0.size - 1]'(by omega) = c0 := ⟨_, rfl⟩
        have HWS := Lib.hid hws
        have HL2 := Lib.hid hl2
        have HROW := Lib.hid hrow2
        clear hw0 hcc2 hws hrow2 hl2
        cases hlab : labelOf ((words C).map bts) with
        | some n =>
          have hlen1 : ((words C).map bts).length = 1 := by
            rcases Nat.decEq ((words C).map bts).length 1 with h | h
            · rw [labelOf_more h] at hlab; cases hlab
            · exact h
          have hxr : xr = [] := by
            rw [HWS.out] at hlen1
            simp at hlen1
            exact List.eq_nil_of_length_eq_zero (by simpa using hlen1)
          subst hxr
          have hn21 : n2 = 1 := by rw [← HL2.out, HWS.out]; rfl
          subst hn21
          have hl1 := hlab
          rw [HWS.out, List.map_cons, List.map_nil, labelOf_one x0 hx0a, hc0] at hl1
          by_cases hcd : c0.toNat = 58 ∧ isName (bts (x0.extract 0 (x0.size - 1))) = true
          · rw [if_pos hcd] at hl1
            injection hl1 with hl1
            have HN := Lib.hid hcd.2
            have hq58 : ((c0.toNat : Int) == 58) = true := by rw [beq_iff_eq]; have := hcd.1; omega
            have HLB := Lib.hid hlab
            have hxe : x0.extract 0 (x0.size - 1) = mk n := by rw [← hl1, mk_bts]
            have HXE := Lib.hid hxe
            have hes : (x0.extract 0 (x0.size - 1)).size ≤ 100000 := by rw [ByteArray.size_extract]; omega
            obtain ⟨An, cn, rfl, hcn1, hcn2⟩ := own_slice ha2.names
            have hnr := names_row ha2.names
            have hfl := find_look st.labels n
            clear hcd hlab hl1 hlen1 hxe
            cases hlk : lookN st.labels n with
            | some p =>
              rw [hlk] at hfl
              obtain ⟨j, hj, hj2, -⟩ := hfl
              have HF := Lib.hid (show findI (st.labels.map fun y => mk y.1) (x0.extract 0 (x0.size - 1)) = (j : Int) by rw [HXE.out]; exact hj)
              have hA := Lib.hid (show asmV (bts s) = .err (k + 1) 20 by
                rw [HA.out, hr.out, readAll_drop HX.out, HST.out, HC.out, HLB.out]
                simp only
                rw [hlk]
                rfl)
              clear hlk hj hr
              go_wp2_with (first | (go_at_call 25; refine (r_Name _ _ HN.out hes _).mono ?_; rintro e w1 ⟨rfl, rfl⟩) | (go_at_call 26; refine (r_find _ _ _ _ _ (by omega) _ hnr).mono ?_; rintro e w1 ⟨rfl, rfl⟩; rw [HF.out]))
              go_ret3
              have := AsmIs.err hA.out (hb1.trans (hb3.mono hb1.size)) (by decide)
              rw [show (((k + 1 : Nat) : Int)) = (k : Int) + 1 by omega] at this
              exact this
            | none =>
              rw [hlk] at hfl
              have HF := Lib.hid (show findI (st.labels.map fun y => mk y.1) (x0.extract 0 (x0.size - 1)) = -1 by rw [HXE.out]; exact hfl)
              have hsl : stepL st (k + 1) (bts x) = .ok { st with labels := st.labels ++ [(n, st.items.length)] } := by
                rw [HST.out, HC.out, HLB.out]
                simp only
                rw [hlk]
                rfl
              obtain ⟨hst2, hll2⟩ := stepL_ok hst hsl
              have hr2 := Lib.hid (show readAll (P.map bts) 1 ⟨[], []⟩ = readAll ((P.map bts).drop (k + 1)) (k + 1 + 1) { st with labels := st.labels ++ [(n, st.items.length)] } by rw [hr.out, readAll_drop HX.out, hsl])
              obtain ⟨v1, w3, v2, w4, hrun1, hrun2, ha4, hb4⟩ := push_label ha2 hb3.size (by omega) n st.items.length
              rw [← HXE.out] at hrun1
              obtain ⟨Ap, cp, rfl, hcp1, hcp2⟩ := own_slice ha2.prog
              have hb5 := hb3.trans hb4
              have hll3 := Lib.hid (show ({ st with labels := st.labels ++ [(n, st.items.length)] } : St).labels.length ≤ k + 1 by omega)
              clear hlk hr hsl hll2 hb4
              go_wp2_with (first | (go_at_call 25; refine (r_Name _ _ HN.out hes _).mono ?_; rintro e w1 ⟨rfl, rfl⟩) | (go_at_call 26; refine (r_find _ _ _ _ _ (by omega) _ hnr).mono ?_; rintro e w1 ⟨rfl, rfl⟩; rw [HF.out]) | (at_builtin; refine wpList_append_run _ rfl (.tmp 77) (.tmp 83) 43 rfl _ _ _ _ rfl rfl hrun1 ?_) | (at_builtin; refine wpList_append_run _ rfl (.tmp 85) (.tmp 88) 29 rfl _ _ _ _ rfl rfl hrun2 ?_))
              go_roundw
              case rel => exact ⟨k + 1, _, by omega, by go_num, ha4, hst2, hll3, hr2, hb5⟩
              case measure => simp [intOf]; omega
          · rw [if_neg hcd] at hl1; cases hl1
        | none =>
          have HLB := Lib.hid hlab
          have h3 : (((n2 : Int) == 1) = false) ∨ (((n2 : Int) == 1) = true ∧ ((c0.toNat : Int) == 58) = false) ∨ (((n2 : Int) == 1) = true ∧ ((c0.toNat : Int) == 58) = true ∧ isName (bts (x0.extract 0 (x0.size - 1))) = false) := by
            by_cases h1 : n2 = 1
            · right
              have e1 : ((n2 : Int) == 1) = true := by rw [beq_iff_eq]; omega
              have hxr : xr = [] := by
                have := HL2.out
                rw [HWS.out, h1] at this
                exact List.eq_nil_of_length_eq_zero (by simpa using this)
              rw [HWS.out, hxr, List.map_cons, List.map_nil, labelOf_one x0 hx0a, hc0] at hlab
              by_cases h58 : c0.toNat = 58
              · right
                refine ⟨e1, by rw [beq_iff_eq]; omega, ?_⟩
                cases hn : isName (bts (x0.extract 0 (x0.size - 1))) with
                | false => rfl
                | true => rw [if_pos ⟨h58, hn⟩] at hlab; cases hlab
              · left
                exact ⟨e1, by rw [beq_eq_false_iff_ne]; omega⟩
            · left
              rw [beq_eq_false_iff_ne]; omega
          have hes : (x0.extract 0 (x0.size - 1)).size ≤ 100000 := by rw [ByteArray.size_extract]; omega
          have HST2 := Lib.hid (show stepL st (k + 1) (bts x) = match (match jumpOf ((words C).map bts) with | some (k, q, x) => Kind.ins k q x | none => match parseQ C with | some (k, q) => .ins k q [] | none => .bad (parseE C)) with
            | .empty => .ok st
            | .label x => if (lookN st.labels x).isSome then .err (k + 1) 20 else .ok { st with labels := st.labels ++ [(x, st.items.length)] }
            | .ins kk q t => if st.items.length = 64 then .err (k + 1) 3 else .ok { st with items := st.items ++ [⟨kk, q, t, k + 1⟩] }
            | .bad e => .err (k + 1) e by rw [HST.out, HC.out, HLB.out]; rfl)
          clear hlab
          rcases h3 with h3a | ⟨h3a, h3b⟩ | ⟨h3a, h3b, h3c⟩
          all_goals
            try (have HN := Lib.hid h3c; clear h3c)
            go_wp2_with (go_at_call 25; refine (r_Name _ _ HN.out hes _).mono ?_; rintro e w1 ⟨rfl, rfl⟩)
            refine (r_jump (some ⟨b2, off2, none⟩) n2 c2 (words C) hxall.out (by omega) _ HROW.out).mono ?_
            rintro e w3 ⟨hbj, jk, ja, jb, jc, ji, nm, rfl, hjv⟩
            have ha3 := ha2.below hbj
            have hb4 := hb3.trans (hbj.mono hb3.size)
            clear h3a
            try clear h3b
            cases hj : jumpOf ((words C).map bts) with
            | some rr =>
              obtain ⟨kk, q, t⟩ := rr
              obtain ⟨rfl, rfl, rfl, rfl, rfl, rfl⟩ := hjv _ _ _ hj
              rw [show (some (kk, q, t)).isSome = true from rfl]
              by_cases h64 : st.items.length = 64
              · have hA := Lib.hid (show asmV (bts s) = .err (k + 1) 3 by
                  rw [HA.out, hr.out, readAll_drop HX.out, HST2.out, hj]
                  simp only
                  rw [if_pos h64])
                obtain ⟨Ap, cp, hvp, hcp1, hcp2⟩ := own_slice ha3.prog
                subst hvp
                have q64 : ((st.items.length : Int) == 64) = true := by rw [beq_iff_eq, h64]; rfl
                clear h64 hj hr hjv
                go_wp2
                go_ret3
                rw [show ((k : Int) + 1) = (((k + 1 : Nat) : Int)) by omega]
                exact AsmIs.err hA.out (hb1.trans ((hb4.mono hb1.size).alloc (by have := hb4.size; have := hb1.size; omega) _)) (by decide)
              · have hsl : stepL st (k + 1) (bts x) = .ok { st with items := st.items ++ [⟨kk, q, t, k + 1⟩] } := by
                  rw [HST2.out, hj]
                  simp only
                  rw [if_neg h64]
                obtain ⟨hst2, hll2⟩ := stepL_ok hst hsl
                have hr2 := Lib.hid (show readAll (P.map bts) 1 ⟨[], []⟩ = readAll ((P.map bts).drop (k + 1)) (k + 1 + 1) { st with items := st.items ++ [⟨kk, q, t, k + 1⟩] } by rw [hr.out, readAll_drop HX.out, hsl])
                have hws : (w3.alloc (.cells #[.int .i64 kk, .int .i64 q.a, .int .i64 q.b, .int .i64 q.c, .int .i64 q.i] 40)).heap.size = w3.heap.size + 1 := size_new _ _
                obtain ⟨v1, w5, v2, w6, v3, w7, hrun1, hrun2, hrun3, ⟨Av, cv, rfl⟩, ha7, hb7⟩ := push_item (ha3.alloc (.cells #[.int .i64 kk, .int .i64 q.a, .int .i64 q.b, .int .i64 q.c, .int .i64 q.i] 40)) (by rw [hws]; have := hb4.size; omega) (by omega) ⟨kk, q, t, k + 1⟩
                rw [hws] at hrun1
                simp only at hrun1 hrun2 hrun3
                rw [show (((k + 1 : Nat) : Int)) = (k : Int) + 1 by omega] at hrun3
                obtain ⟨Ap, cp, hvp, hcp1, hcp2⟩ := own_slice ha3.prog
                subst hvp
                have q64 : ((st.items.length : Int) == 64) = false := by rw [beq_eq_false_iff_ne]; omega
                have hb8 := (hb4.alloc hb4.size (.cells #[.int .i64 kk, .int .i64 q.a, .int .i64 q.b, .int .i64 q.c, .int .i64 q.i] 40)).trans hb7
                have hll3 := Lib.hid (show ({ st with items := st.items ++ [⟨kk, q, t, k + 1⟩] } : St).labels.length ≤ k + 1 by show st.labels.length ≤ k + 1; omega)
                clear h64 hj hr hjv hsl hll2 hws hb7
                go_wp2_with (first | (at_builtin; refine wpList_append_run _ rfl (.tmp 114) (.tmp 116) 23 rfl _ _ _ _ rfl rfl hrun1 ?_) | (at_builtin; refine wpList_append_run _ rfl (.tmp 118) (.tmp 120) 43 rfl _ _ _ _ rfl rfl hrun2 ?_) | (at_builtin; refine wpList_append_run _ rfl (.tmp 122) (.tmp 125) 29 rfl _ _ _ _ rfl rfl hrun3 ?_))
                go_roundw
                case rel => exact ⟨k + 1, _, by omega, by go_num, ha7, hst2, hll3, hr2, hb8⟩
                case measure => simp [intOf]; omega
            | none =>
              rw [show (none : Option (Nat × Fields × List UInt8)).isSome = false from rfl]
              have hm3 := Mem.new w3 40 #[.int .i64 jk, .int .i64 ja, .int .i64 jb, .int .i64 jc, .int .i64 ji]
              have hb5 := hb4.alloc hb4.size (.cells #[.int .i64 jk, .int .i64 ja, .int .i64 jb, .int .i64 jc, .int .i64 ji] 40)
              have hbn := below_new w3 (.cells #[.int .i64 jk, .int .i64 ja, .int .i64 jb, .int .i64 jc, .int .i64 ji] 40)
              have hb43 := hb4.size
              clear hjv
              go_wp2_with fail
              refine (r_parse C _).mono ?_
              rintro e w4 ⟨hbp, rfl⟩
              have hm4 := hm3.below hbp hm3.lt
              have hb6 := hb5.trans (hbp.mono hb5.size)
              have hbn2 := hbn.trans (hbp.mono hbn.size)
              have hlt4 := hm4.lt
              clear hm3 hb5 hbn hbp
              cases hp : parseQ C with
              | none =>
                have hpe := parse_none hp
                have hq : (parseE C != 0) = true := by rw [bne_iff_ne]; exact hpe
                have HPE := Lib.hid hpe
                have hA := Lib.hid (show asmV (bts s) = .err (k + 1) (parseE C) by rw [HA.out, hr.out, readAll_drop HX.out, HST2.out, hj, hp])
                rw [show insR none = ins 0 0 0 0 0 from rfl]
                clear hp hj hr hpe hm4
                go_wp2
                go_ret3
                rw [show ((k : Int) + 1) = (((k + 1 : Nat) : Int)) by omega]
                exact AsmIs.err hA.out (hb1.trans ((hb6.mono hb1.size).alloc (by have := hb6.size; have := hb1.size; omega) _)) HPE.out
              | some rr =>
                obtain ⟨kk, q⟩ := rr
                rw [(parse_some hp).1, show insR (some (kk, q)) = ins kk q.a q.b q.c q.i from rfl]
                obtain ⟨z0, z1, z2, z3, z4⟩ := boxed_cells (op := jk) (a := ja) (b := jb) (c := jc) (i := ji) hm4
                have hfz := hm4.frozen
                have hst5 := mem_store5 hm4 rfl (.int .i64 kk) (.int .i64 q.a) (.int .i64 q.b) (.int .i64 q.c) (.int .i64 q.i)
                have hbst := below_store5 hbn2 (Nat.le_refl _) (.int .i64 kk) (.int .i64 q.a) (.int .i64 q.b) (.int .i64 q.c) (.int .i64 q.i)
                have hbst2 := below_store5 hb6 (show w1.heap.size ≤ w3.heap.size from hb43) (.int .i64 kk) (.int .i64 q.a) (.int .i64 q.b) (.int .i64 q.c) (.int .i64 q.i)
                obtain ⟨y0, y1, y2, y3, y4⟩ := boxed_cells (op := kk) (a := q.a) (b := q.b) (c := q.c) (i := q.i) hst5
                have ha5 := (ha3.below hbst).alloc (.cells #[.int .i64 kk, .int .i64 q.a, .int .i64 q.b, .int .i64 q.c, .int .i64 q.i] 40)
                have hb7 := hbst2.alloc hbst2.size (.cells #[.int .i64 kk, .int .i64 q.a, .int .i64 q.b, .int .i64 q.c, .int .i64 q.i] 40)
                by_cases h64 : st.items.length = 64
                · have hA := Lib.hid (show asmV (bts s) = .err (k + 1) 3 by
                    rw [HA.out, hr.out, readAll_drop HX.out, HST2.out, hj, hp]
                    simp only
                    rw [if_pos h64])
                  obtain ⟨Ap, cp, hvp, hcp1, hcp2⟩ := own_slice ha3.prog
                  subst hvp
                  have q64 : ((st.items.length : Int) == 64) = true := by rw [beq_iff_eq, h64]; rfl
                  clear h64 hj hr hp hm4 hst5
                  go_wp2
                  go_ret3
                  have := AsmIs.err hA.out (hb1.trans (hb7.mono hb1.size)) (by decide)
                  rw [show (((k + 1 : Nat) : Int)) = (k : Int) + 1 by omega] at this
                  exact this
                · have hsl : stepL st (k + 1) (bts x) = .ok { st with items := st.items ++ [⟨kk, q, [], k + 1⟩] } := by
                    rw [HST2.out, hj, hp]
                    simp only
                    rw [if_neg h64]
                  obtain ⟨hst2, hll2⟩ := stepL_ok hst hsl
                  have hr2 := Lib.hid (show readAll (P.map bts) 1 ⟨[], []⟩ = readAll ((P.map bts).drop (k + 1)) (k + 1 + 1) { st with items := st.items ++ [⟨kk, q, [], k + 1⟩] } by rw [hr.out, readAll_drop HX.out, hsl])
                  obtain ⟨v1, w5, v2, w6, v3, w7, hrun1, hrun2, hrun3, ⟨Av, cv, rfl⟩, ha7, hb8⟩ := push_item ha5 hb7.size (by omega) ⟨kk, q, [], k + 1⟩
                  simp only [show mk [] = ⟨#[]⟩ from rfl] at hrun1 hrun2 hrun3
                  rw [show (((k + 1 : Nat) : Int)) = (k : Int) + 1 by omega] at hrun3
                  rw [size_new, show ((((((w4.setCell ⟨w3.heap.size, 0, none⟩ (.int .i64 kk)).setCell ⟨w3.heap.size, 1, none⟩ (.int .i64 q.a)).setCell ⟨w3.heap.size, 2, none⟩ (.int .i64 q.b)).setCell ⟨w3.heap.size, 3, none⟩ (.int .i64 q.c)).setCell ⟨w3.heap.size, 4, none⟩ (.int .i64 q.i))).heap.size = w4.heap.size by simp [World.setCell]] at hrun1
                  obtain ⟨Ap, cp, hvp, hcp1, hcp2⟩ := own_slice ha3.prog
                  subst hvp
                  have q64 : ((st.items.length : Int) == 64) = false := by rw [beq_eq_false_iff_ne]; omega
                  have hb9 := hb7.trans hb8
                  have hll3 := Lib.hid (show ({ st with items := st.items ++ [⟨kk, q, [], k + 1⟩] } : St).labels.length ≤ k + 1 by show st.labels.length ≤ k + 1; omega)
                  clear h64 hj hr hp hsl hll2 hb8 hm4 hst5
                  go_upto_region 28 with (at_builtin; refine wpList_append_run _ rfl (.tmp 114) (.tmp 116) 23 rfl _ _ _ _ rfl rfl hrun1 ?_)
                  clear hrun1
                  go_upto_region 29 with (at_builtin; refine wpList_append_run _ rfl (.tmp 118) (.tmp 120) 43 rfl _ _ _ _ rfl rfl hrun2 ?_)
                  clear hrun2
                  go_wp2_with (at_builtin; refine wpList_append_run _ rfl (.tmp 122) (.tmp 125) 29 rfl _ _ _ _ rfl rfl hrun3 ?_)
                  go_roundw
                  case rel => exact ⟨k + 1, _, by omega, by go_num, ha7, hst2, hll3, hr2, hb9⟩
                  case measure => simp [intOf]; omega
    · have hr2 := Lib.hid (show readAll (P.map bts) 1 ⟨[], []⟩ = .ok st by rw [hr.out, List.drop_eq_nil_of_le (by rw [List.length_map]; omega)]; rfl)
      have hA := Lib.hid (show asmV (bts s) = after [] (setTargets st.labels 0 (st.items.drop 0)) by
        rw [HA.out, hr2.out, List.drop_zero]
        simp only
        cases setTargets st.labels 0 st.items with
        | ok p => simp [after]
        | err l e => rfl)
      have hN := hst.1
      have hLl : st.labels.length ≤ 65537 := by have := hll.out; omega
      have hpos := Lib.hid (show ∀ n p, lookN st.labels n = some p → p ≤ 64 from fun n p hp => by
        obtain ⟨y, hy, e⟩ := lookN_mem hp
        rw [← e]
        exact hst.2.2 y hy)
      have hbw := hb1.trans (hb.mono hb1.size)
      obtain ⟨Ap, cp, hvp, hcp1, hcp2⟩ := own_slice ha.prog
      obtain ⟨An, cn, hvn, hcn1, hcn2⟩ := own_slice ha.names
      obtain ⟨At, ct, hvt, hct1, hct2⟩ := own_slice ha.tgts
      obtain ⟨Ad, cd, hvd, hcd1, hcd2⟩ := own_slice ha.places
      obtain ⟨Al, cl, hvl, hcl1, hcl2⟩ := own_slice ha.lines
      subst hvp hvn hvt hvd hvl
      have h4 : Rows4 w1.heap.size wr st.items st.labels (.slice An st.labels.length cn) (.slice At st.items.length ct) (.slice Ad st.labels.length cd) (.slice Al st.items.length cl) := ⟨ha.names, ha.tgts, ha.places, ha.lines⟩
      have hprog := ha.prog
      clear hr hrow ha hr2 hst hll HPB HSP HA hPn
      go_wp2
      go_loopw [20] (fun i wr => ∃ (j : Nat) (done : List (Int × Fields)), j ≤ st.items.length ∧ i = .int .i64 j ∧ Hid (done.length = j) ∧ wr.ownsRow w1.heap.size 40 5 (.slice Ap st.items.length cp) st.items.length (rowCells (done ++ (st.items.drop j).map insOfItem)) ∧
        Rows4 w1.heap.size wr st.items st.labels (.slice An st.labels.length cn) (.slice At st.items.length ct) (.slice Ad st.labels.length cd) (.slice Al st.items.length cl) ∧ Hid (asmV (bts s) = after done (setTargets st.labels j (st.items.drop j))) ∧ Below w1.heap.size w1 wr) (fun i _ => st.items.length - (intOf i).toNat)
      case atStart => exact ⟨0, [], by omega, rfl, rfl, by rw [List.drop_zero, List.nil_append]; exact hprog, h4, hA, hb⟩
      case round =>
        obtain ⟨j, done, hj, rfl, hdl, hpr, h5, hs5, hb5⟩ := hrel
        clear h4 hprog hA
        by_cases hjl : j < st.items.length
        · obtain ⟨x, hx⟩ : ∃ x, st.items[j]? = some x := ⟨st.items[j], List.getElem?_eq_getElem hjl⟩
          have hdrop := Lib.hid (show st.items.drop j = x :: st.items.drop (j + 1) by
            obtain ⟨h1, h2⟩ := List.getElem?_eq_some_iff.1 hx
            rw [List.drop_eq_getElem_cons h1, h2])
          have hss := Lib.hid (hs5.out.trans (congrArg (after done) (setTargets_drop hx)))
          obtain ⟨gt, capt, curt, et, _, _, hgtl, htc⟩ := own_cells h5.tgts (by omega)
          injection et with et1 et2 et3
          subst et1 et3
          have htcell : wr.cell? ⟨gt, j, none⟩ = some (.string (mk x.t)) := (htc j (by omega)).trans (by rw [List.getElem?_map, hx]; rfl)
          obtain ⟨gl, capl, curl, el, _, _, hgll, hlc⟩ := own_cells h5.lines (by omega)
          injection el with el1 el2 el3
          subst el1 el3
          have hlcell : wr.cell? ⟨gl, j, none⟩ = some (.int .i64 (x.line : Int)) := (hlc j (by omega)).trans (by rw [List.getElem?_map, hx]; rfl)
          have hdl' := hdl.out
          clear hx htc hlc hs5
          by_cases ht : x.t = []
          · rw [ht, show mk [] = ⟨#[]⟩ from rfl] at htcell
            have hs6 := Lib.hid (show asmV (bts s) = after (done ++ [(x.k, x.q)]) (setTargets st.labels (j + 1) (st.items.drop (j + 1))) by rw [hss.out, if_pos ht, after_cons])
            rw [hdrop.out, List.map_cons, ← List.singleton_append, ← List.append_assoc] at hpr
            have hdl2 := Lib.hid (show (done ++ [(x.k, x.q)]).length = j + 1 by rw [List.length_append, List.length_singleton]; omega)
            clear ht hss
            go_wp2
            go_roundw
            case rel => exact ⟨j + 1, done ++ [(x.k, x.q)], by omega, by go_num, hdl2, hpr, h5, hs6, hb5⟩
            case measure => simp [intOf]; omega
          · have ht1 := str_nonempty ht
            have ht2 := str_nonempty2 ht
            have hnr := names_row h5.names
            have hfl := find_look st.labels x.t
            have HT := Lib.hid ht
            clear ht
            cases hlk : lookN st.labels x.t with
            | none =>
              rw [hlk] at hfl
              have HF := Lib.hid hfl
              have hA := Lib.hid (show asmV (bts s) = .err x.line 20 by rw [hss.out, if_neg HT.out, hlk]; rfl)
              clear hfl hlk hss
              go_wp2_with (go_at_call 26; refine (r_find _ _ _ _ _ (by omega) _ hnr).mono ?_; rintro e w1 ⟨rfl, rfl⟩; rw [HF.out])
              go_region
              all_goals
                go_wp2
                go_ret3
                exact AsmIs.err hA.out (hb1.trans ((below_drewN hb5 1).mono hb1.size)) (by decide)
            | some p =>
              rw [hlk] at hfl
              obtain ⟨y, hy, hyl, hyp⟩ := hfl
              have HF := Lib.hid hy
              have hp64 := hpos.out _ _ hlk
              obtain ⟨gd, capd, curd, ed, _, _, hgdl, hdc⟩ := own_cells h5.places (by omega)
              injection ed with ed1 ed2 ed3
              subst ed1 ed3
              have hdcell : wr.cell? ⟨gd, y, none⟩ = some (.int .i64 (p : Int)) := (hdc y (by omega)).trans (by
                have := congrArg (fun o => o.map fun z => Value.int .i64 z) hyp
                simp only [List.getElem?_map, Option.map_map, Option.map_some] at this
                rw [List.getElem?_map]
                exact this)
              clear hdc hyp hy
              by_cases hpj : p ≤ j
              · have hA := Lib.hid (show asmV (bts s) = .err x.line 20 by rw [hss.out, if_neg HT.out, hlk]; simp only; rw [if_pos hpj]; rfl)
                clear hlk hss
                go_wp2_with (go_at_call 26; refine (r_find _ _ _ _ _ (by omega) _ hnr).mono ?_; rintro e w1 ⟨rfl, rfl⟩; rw [HF.out])
                go_region
                all_goals
                  go_wp2
                  go_ret3
                  exact AsmIs.err hA.out (hb1.trans ((below_drewN hb5 1).mono hb1.size)) (by decide)
              · have hs6 := Lib.hid (show asmV (bts s) = after (done ++ [(x.k, { x.q with i := (p : Int) - j - 1 })]) (setTargets st.labels (j + 1) (st.items.drop (j + 1))) by rw [hss.out, if_neg HT.out, hlk]; simp only; rw [if_neg hpj, after_cons])
                have hlen : (done ++ (st.items.drop j).map insOfItem).length = st.items.length := by rw [List.length_append, List.length_map, List.length_drop]; omega
                obtain ⟨gp, capp, curp, ep, hgp, hmp, hgpl, hcp⟩ := own_cells hpr (by omega)
                injection ep with ep1 ep2 ep3
                subst ep1 ep3
                have hold := hcp (j * 5 + 4) (by omega)
                rw [rowCells_get _ j 4 (by omega) (by omega)] at hold
                obtain ⟨iv, hold2⟩ : ∃ iv, wr.cell? ⟨gp, j * 5 + 4, none⟩ = some (.int .i64 iv) := ⟨_, hold⟩
                have hfz : wr.frozen? ⟨gp, j * 5 + 4, none⟩ = false := hpr.frozenAt (j * 5 + 4)
                have hst5 := (hpr.stored (j * 5 + 4) (.int .i64 ((p : Int) - j - 1))).1
                rw [rowCells_set _ j _ (by omega)] at hst5
                have hme : setImm (done ++ (st.items.drop j).map insOfItem) j ((p : Int) - j - 1) = (done ++ [(x.k, { x.q with i := (p : Int) - j - 1 })]) ++ (st.items.drop (j + 1)).map insOfItem := by
                  unfold setImm
                  rw [hdrop.out, List.map_cons]
                  have := modify_at (fun z : Int × Fields => (z.1, { z.2 with i := (p : Int) - j - 1 })) (insOfItem x) ((st.items.drop (j + 1)).map insOfItem) done
                  rw [hdl'] at this
                  rw [this]
                  simp [insOfItem]
                rw [hme] at hst5
                have h6 := h5.far (p := ⟨gp, j * 5 + 4, none⟩) hpr rfl (.int .i64 ((p : Int) - j - 1))
                have hb6 := hb5.setCell (p := ⟨gp, j * 5 + 4, none⟩) hgp (.int .i64 ((p : Int) - j - 1))
                have hdl2 := Lib.hid (show (done ++ [(x.k, { x.q with i := (p : Int) - j - 1 })]).length = j + 1 by rw [List.length_append, List.length_singleton]; omega)
                clear hlk hss hold hcp hpr hme hlen
                go_wp2_with (go_at_call 26; refine (r_find _ _ _ _ _ (by omega) _ hnr).mono ?_; rintro e w1 ⟨rfl, rfl⟩; rw [HF.out])
                go_roundw
                case rel => exact ⟨j + 1, _, by omega, by go_num, hdl2, hst5, h6, hs6, hb6⟩
                case measure => simp [intOf]; omega
        · have hjn : j = st.items.length := by omega
          have hA := Lib.hid (show asmV (bts s) = .ok done by
            rw [hs5.out, hjn, List.drop_length]
            simp [setTargets, after])
          have hdl' := hdl.out
          rw [hjn, List.drop_length, List.map_nil, List.append_nil] at hpr
          have hrow := row_of_own hpr (by omega)
          clear hs5
          go_wp2
          go_ret3
          refine ⟨hb1.trans (hb5.mono hb1.size), ?_⟩
          rw [hA.out]
          rw [show st.items.length = done.length by omega] at hrow hcp1 ⊢
          exact ⟨Ap, cp, rfl, hcp1, hrow⟩
/-- The reference's Assemble, by the same words. -/
theorem ra_assemble (s : ByteArray) (hs : s.size ≤ 9223372036854775807) (w : World) : Calls Tryz.prog 10 #[.string s] w fun e w' => AsmIs (bts s) w e w' := by
  by_cases h1 : s.size ≤ 65536
  · exact ra_short s h1 w
  · exact ra_long s (by omega) hs w
end Go.Proofs.YtcplhochgngedaaGreatDoor.RfD
