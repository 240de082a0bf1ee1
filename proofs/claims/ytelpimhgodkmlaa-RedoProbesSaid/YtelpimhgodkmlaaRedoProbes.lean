/-
  Proved: the rule of open addressing: the index has the told size, each entry has one place, and no place between the home of an entry and its place is empty. No condition.
-/
import Derived.Test.YtelpimhgodkmlaaRows
import Derived.WalkKit
import Derived.ProofKit
import Derived.OpenShut
import Derived.Test.YtelpimhgodkmlaaFrame
import Derived.Test.YtelpimhgodkmlaaRlF
import Derived.Deep.RegionHeld3
import Derived.Deep.RegionLaw
namespace Go.Proofs.Ytelpimhgodkmlaa.redoProbes
open Go.ChangeShapes Go.WideShapes Go.ChangeAt Go.RowKit
open LawFrame
open Go.ChangeMaps (open_string)
set_option linter.unusedVariables false

theorem own : ownKnob Try.prog.godebug = none := by kernel_rfl
theorem laidOut : laidOutB Try.prog = true := by kernel_rfl
theorem cells3 : Try.prog.cellsOf 3 = 1 := by kernel_rfl

open PlainT BlkW CelS CelM CelV CelN LabD FreV FreI RsA RlU RlP RlA RlB RlC RlD RlE RlF
set_option maxHeartbeats 2000000
set_option maxRecDepth 100000
theorem putX_len (cap : Nat) (ad ix : List Int) (x : Int) : (putX cap ad ix x).length = ix.length := by
  unfold putX
  split
  · exact List.length_set
  · rfl
theorem putA_lt {m : Int} {cap : Nat} {ad : List Int} {x : Int} (h : ∀ y ∈ ad, y < m) (hx : x < m) : ∀ y ∈ putA cap ad x, y < m := by
  unfold putA
  split
  · intro y hy
    rcases List.mem_append.1 hy with hy | hy
    · exact h y hy
    · rw [List.mem_singleton] at hy
      omega
  · exact h
theorem home_mul {s : Nat} (hs : 0 < s) (x : Int) : (x * 5) % (s : Int) = home s x := by
  rw [← home_eq hs x]
  have h := Int.mul_ediv_add_emod x s
  have e : x * 5 = 5 * (x % (s : Int)) + (s : Int) * (5 * (x / (s : Int))) := by
    have h2 : (s : Int) * (5 * (x / (s : Int))) = 5 * ((s : Int) * (x / (s : Int))) := by rw [Int.mul_left_comm]
    omega
  rw [e, Int.add_mul_emod_self_left]
theorem ia_cell {w : World} {g k : Nat} {l : List Int} {x : Int} (h : Mem w g TI (IA l)) (hx : l[k]? = some x) : w.cell? ⟨g, k, none⟩ = some (.int .i64 x) := by
  rw [h.cell]
  unfold IA
  rw [List.getElem?_toArray, List.getElem?_map, hx]
  rfl
/-- The entries in the first p places. -/
def cnt (ix : List Int) (p : Nat) : Nat := (ix.take p).countP (fun i : Int => decide (0 ≤ i))
theorem cnt_next {ix : List Int} {p : Nat} {i : Int} (h : ix[p]? = some i) : cnt ix (p + 1) = cnt ix p + (if 0 ≤ i then 1 else 0) := by
  obtain ⟨hl, e⟩ := List.getElem?_eq_some_iff.1 h
  unfold cnt
  rw [List.take_add_one, h, List.countP_append]
  simp [List.countP_cons]
theorem cnt_end (ix : List Int) : cnt ix ix.length = ix.countP (fun i : Int => decide (0 ≤ i)) := by
  unfold cnt
  rw [List.take_length]

theorem readable : ∀ t ∈ Try.f5.params.toList, Try.prog.readableRec t = true ∧ t < Try.prog.types.size := by
  have h : (Try.f5.params.toList.all fun t => Try.prog.readableRec t && decide (t < Try.prog.types.size)) = true := by kernel_rfl
  intro t ht
  have := List.all_eq_true.1 h t ht
  simpa using this

/-! The walk. -/
theorem walk (w : World) (a0 : Int) (w0 : (Lit.int .i64 a0).wf = true) (A1 : Option Addr) (n1 c1 : Nat) (z1 : List Int) (l1 : n1 ≤ c1) (m1 : c1 ≤ maxLen) (s1 : Ints .i64 w A1 n1 z1) :
    Calls Try.prog 5 #[.int .i64 a0, .slice A1 n1 c1] w fun e w' => e = .returned (.bool true) ∧ Kept w w' := by
  have HZ := Lib.hid s1
  clear s1
  go_enter Try.func5, Try.ntmps5
  by_cases hbig : (60 : Int) < n1
  · go_wp2_with fail
    refine (RlE.l_awake _).mono ?_
    rintro e w3 ⟨rfl, hb1⟩
    have HB1 := Lib.hid hb1
    clear hb1
    go_wp2
    go_ret
    exact ⟨rfl, .of_below HB1.out⟩
  · have hn : (n1 : Int) ≤ 60 := by omega
    clear hbig
    obtain ⟨u, hu⟩ : ∃ u, pl a0 32 = u := ⟨_, rfl⟩
    have hin := pl_in a0 32 (by decide) (by decide)
    rw [hu] at hin
    have hpl := k_place a0 32 u (by decide) (by decide) hu
    obtain ⟨n, hnu⟩ : ∃ n : Nat, 1 + u = n := ⟨(1 + u).toNat, by omega⟩
    have hnw := a_new w n n (by omega)
    have hn0 : 0 < n := by omega
    have hn32 : n ≤ 32 := by omega
    have hn32I : (n : Int) ≤ 32 := by omega
    clear hu
    go_upto_region 7 with (first
      | (go_at_call 11; (with_reducible refine (hpl _).mono ?_); rintro e w1 ⟨rfl, rfl⟩)
      | (go_at_call 9; refine hnw.mono ?_; rintro e w2 ⟨⟨g, va, vv, vi⟩, rfl, hS0, hB0⟩))
    have HS0 := Lib.hid hS0
    have HB0 := Lib.hid hB0
    clear hS0 hB0 hpl hnw hnu
    go_wp2_with fail
    go_loopw [7] (fun kv wr => ∃ (k : Nat) (L : LV) (ad vs ix : List Int), k ≤ n1 ∧ kv = .int .i64 k ∧ LogIs wr w.heap.size TL n L ad vs ix ∧ L.g = g ∧ ix.length = siz n ∧ (∀ y ∈ ad, y < 200) ∧ Below w.heap.size w wr) (fun kv _ => n1 - (intOf kv).toNat)
    case atStart => exact ⟨0, _, _, _, _, by omega, rfl, HS0.out, rfl, by rw [List.length_replicate], fun y hy => by simp at hy, HB0.out⟩
    case round =>
      clear HS0 HB0
      obtain ⟨k, L, ad, vs, ix, hk, rfl, hs, hg, hl, hm, hb⟩ := hrel
      have HS := Lib.hid hs
      have HB := Lib.hid hb
      have hz := hb.size
      have HG := Lib.hid hg
      have HL := Lib.hid hl
      have HM := Lib.hid hm
      have hkI : (k : Int) ≤ 60 := by omega
      clear hs hb hg hl hm
      by_cases hlt : k < n1
      · have hltI : (k : Int) < n1 := by omega
        obtain ⟨tb, toff, tx, rfl, htb, htc⟩ := iat HZ.out HB.out hlt
        obtain ⟨t, ht⟩ : ∃ t, pl tx 200 = t := ⟨_, rfl⟩
        have hin := pl_in tx 200 (by decide) (by decide)
        rw [ht] at hin
        have hpl := k_place tx 200 t (by decide) (by decide) ht
        have hc := a_put _ _ _ _ _ _ _ t k HS.out hz
        rw [HG.out] at hc
        have hcv : IntKind.u64.wrap (k : Int) = k := Int.emod_eq_of_lt (by omega) (by show (k : Int) < 18446744073709551616; omega)
        have HM1 : Hid (∀ y ∈ putA n ad t, y < 200) := Lib.hid (putA_lt HM.out (by omega))
        clear ht
        go_wp2_with (first
          | (go_at_call 11; (with_reducible refine (hpl _).mono ?_); rintro e w1 ⟨rfl, rfl⟩)
          | (go_at_call 12; (with_reducible refine hc.mono ?_); rintro e w2 ⟨rfl, L1, hS1, hg1, hF1, _⟩))
        have HS1 := Lib.hid hS1
        have HB1 := Lib.hid (HB.out.trans (HS.out.step hz hF1))
        have HG1 := Lib.hid (hg1.trans HG.out)
        clear hS1 hF1 hc HS HB HG hg1
        go_roundw
        case rel => exact ⟨k + 1, L1, _, _, _, by omega, by go_num, HS1.out, HG1.out, by rw [putX_len, HL.out], HM1.out, HB1.out⟩
        case measure => simp [intOf]; omega
      · obtain rfl : k = n1 := by omega
        have hsz := siz_gt n hn32
        clear hlt hk
        go_wp2_with fail
        go_loop [8] (fun sv => ∃ s : Nat, sv = .int .i64 s ∧ Pow s ∧ s ≤ siz n ∧ s ≤ 64) (fun sv => 64 - (intOf sv).toNat)
        case atStart => exact ⟨1, rfl, .inl rfl, by omega, by omega⟩
        case round =>
          obtain ⟨s, rfl, hp, hs, h64⟩ := hrel
          have hsI : (s : Int) ≤ 64 := by omega
          have HP := Lib.hid hp
          have HSZ := Lib.hid hs
          clear hp hs
          by_cases hlt : s < 2 * n
          · have hl : (s : Int) < 2 * n := by omega
            obtain ⟨u1, u2⟩ := siz_up hn32 HP.out HSZ.out hlt
            have U1 := Lib.hid u1
            have U2 := Lib.hid u2
            have h1 : 1 ≤ s := by rcases HP.out with h | h | h | h | h | h | h <;> omega
            clear u1 u2
            go_wp2_with fail
            go_round
            case rel => exact ⟨2 * s, by go_num, U1.out, U2.out, by have := U2.out; omega⟩
            case measure => have := U2.out; simp [intOf]; omega
          · have hl : ¬ (s : Int) < 2 * n := by omega
            have he := siz_end hn32 HP.out HSZ.out hlt
            have hls : ix.length = s := by rw [HL.out, he]
            have HLS := Lib.hid hls
            have hsp : 0 < s := by omega
            have hai := a_index _ _ _ _ _ _ _ HS.out
            rw [HG.out] at hai
            clear hlt HP HSZ he hls hsz
            go_upto_region 15 with (first
              | (go_at_call 19; (with_reducible refine hai.mono ?_); rintro e w4 ⟨y1, rfl, hy1, hM1, hBl1⟩; have haa := a_addrs _ _ _ _ _ _ _ (HS.out.below hBl1); rw [HG.out] at haa)
              | (go_at_call 16; (with_reducible refine haa.mono ?_); rintro e w5 ⟨y2, rfl, hy2, hM2, hBl2⟩))
            have HS5 := Lib.hid ((HS.out.below hBl1).below hBl2)
            have HB5 := Lib.hid (below_trans2 (below_trans2 (show Below wr.heap.size wr wr from Below.refl _ _) hBl1) hBl2)
            have HC1 : Hid (∀ (j : Nat) (i : Int), ix[j]? = some i → w5.cell? ⟨y1, j, none⟩ = some (.int .i64 i)) := Lib.hid fun j i h => ia_cell (hM1.below hBl2 hM1.lt) h
            have HC2 : Hid (∀ (j : Nat) (i : Int), ad[j]? = some i → w5.cell? ⟨y2, j, none⟩ = some (.int .i64 i)) := Lib.hid fun j i h => ia_cell hM2 h
            have hle := a_len _ _ _ _ _ _ _ HS5.out.toLogR
            have HOK := Lib.hid HS5.out.ok
            have hfew : (ad.length : Int) ≤ 32 := by have := HOK.out.few; omega
            have HBW := Lib.hid (HB.out.trans (HB5.out.mono hz))
            obtain ⟨q, hq⟩ : ∃ q, ad.length = q := ⟨_, rfl⟩
            rw [HG.out, hq] at hle
            rw [hq] at hfew
            rw [HLS.out, hq]
            have HQ := Lib.hid hq
            clear hM1 hM2 hBl1 hBl2 hai haa hq HB HB5 HS
            go_upto_region 17 with (go_at_call 14; (with_reducible refine hle.mono ?_); rintro e w6 ⟨rfl, rfl⟩)
            go_wp2_with fail
            go_loop [11, 12] (fun cv pv => ∃ p : Nat, p ≤ s ∧ pv = .int .i64 p ∧ cv = .int .i64 (cnt ix p)) (fun _ pv => s - (intOf pv).toNat)
            case atStart => exact ⟨0, by omega, rfl, by simp [cnt]⟩
            case round =>
              obtain ⟨p, hp, rfl, rfl⟩ := hrel
              have hcb : cnt ix p ≤ 64 := by
                unfold cnt
                have h1 := List.countP_le_length (p := fun i : Int => decide (0 ≤ i)) (l := ix.take p)
                rw [List.length_take] at h1
                omega
              have hcbI : (cnt ix p : Int) ≤ 64 := by omega
              by_cases hlt : p < s
              · have hltI : (p : Int) < s := by omega
                obtain ⟨i, hi⟩ : ∃ i, ix[p]? = some i := ⟨ix[p]'(by rw [HLS.out]; exact hlt), by rw [List.getElem?_eq_getElem]⟩
                have c1 := HC1.out p i hi
                have hcn := cnt_next hi
                rcases HOK.out.ent p i hi with rfl | ⟨hi0, hi1⟩
                · have hcn2 : Hid (cnt ix (p + 1) = cnt ix p) := Lib.hid (by rw [hcn]; rfl)
                  clear hi hcn
                  go_wp2_with fail
                  go_round
                  case rel => exact ⟨p + 1, by omega, by go_num, by rw [hcn2.out]⟩
                  case measure => simp [intOf]; omega
                · obtain ⟨m, rfl⟩ : ∃ m : Nat, i = m := ⟨i.toNat, by omega⟩
                  have hcn2 : Hid (cnt ix (p + 1) = cnt ix p + 1) := Lib.hid (by rw [hcn, if_pos hi0])
                  have hmq : (m : Int) < q := by rw [← HQ.out]; exact hi1
                  obtain ⟨x, hx⟩ : ∃ x, ad[m]? = some x := ⟨ad[m]'(by omega), by rw [List.getElem?_eq_getElem]⟩
                  have c2 := HC2.out m x hx
                  have hx0 := HOK.out.nn x (List.mem_of_getElem? hx)
                  have hx2 := HM.out x (List.mem_of_getElem? hx)
                  obtain ⟨d, hd, hdp, hdj⟩ := HOK.out.path p m x hi hx
                  have hh := home_mul hsp x
                  rw [HLS.out] at hd hdp hdj
                  have hhome := home_lt hsp x
                  obtain ⟨o, ho⟩ : ∃ o, home s x = o := ⟨_, rfl⟩
                  rw [ho] at hdp hdj hh hhome
                  have e1 : (x * 5).tmod s = o := tm (by omega) hh
                  have hs0 : ((s : Int) == 0) = false := by simp; omega
                  have HDP := Lib.hid hdp
                  have HDJ := Lib.hid hdj
                  clear hi hcn hx hdp hdj hh ho hi1
                  go_wp2_with fail
                  go_loop [13] (fun hv => ∃ e : Nat, e ≤ d ∧ hv = .int .i64 ((o + e) % s : Nat)) (fun hv => ((o + d) % s + s - (intOf hv).toNat) % s)
                  case atStart => exact ⟨0, by omega, by rw [Nat.add_zero, Nat.mod_eq_of_lt hhome]⟩
                  case round =>
                    obtain ⟨e, he, rfl⟩ := hrel
                    obtain ⟨h, hh⟩ : ∃ h, (o + e) % s = h := ⟨_, rfl⟩
                    have hhs : h < s := by rw [← hh]; exact Nat.mod_lt _ hsp
                    have hhI : (h : Int) < s := by omega
                    rw [hh]
                    by_cases hend : h = p
                    · have t1 : ((h : Int) != p) = false := by simp; omega
                      clear hend hh
                      go_wp2_with fail
                      go_round
                      case rel => exact ⟨p + 1, by omega, by go_num, by rw [hcn2.out]; go_num⟩
                      case measure => simp [intOf]; omega
                    · have t1 : ((h : Int) != p) = true := by simp; omega
                      have hed : e < d := by
                        rcases Nat.lt_or_ge e d with h1 | h1
                        · exact h1
                        · have : e = d := by omega
                          rw [this, HDP.out] at hh
                          exact absurd hh.symm hend
                      obtain ⟨y, hy⟩ : ∃ y, ix[h]? = some y := ⟨ix[h]'(by rw [HLS.out]; exact hhs), by rw [List.getElem?_eq_getElem]⟩
                      have hnn := HDJ.out e hed
                      rw [hh] at hnn
                      have hy0 : 0 ≤ y := by
                        rcases HOK.out.ent h y hy with h1 | h1
                        · exact absurd (by rw [hy, h1]) hnn
                        · exact h1.1
                      have c3 := HC1.out h y hy
                      obtain ⟨p2, hp2⟩ : ∃ p2, (h + 1) % s = p2 := ⟨_, rfl⟩
                      have t3 : ((h : Int) + 1).tmod s = p2 := tm (by omega) (by rw [← hp2]; simp)
                      have HP2 := Lib.hid hp2
                      have HH := Lib.hid hh
                      clear hy hnn hp2 hh hend
                      go_wp2_with fail
                      go_round
                      case rel => exact ⟨e + 1, by omega, by rw [← HP2.out, ← HH.out, Nat.mod_add_mod, Nat.add_assoc]⟩
                      case measure =>
                        show ((o + d) % s + s - ((p2 : Int)).toNat) % s < ((o + d) % s + s - ((h : Int)).toNat) % s
                        rw [Int.toNat_natCast, Int.toNat_natCast, ← HP2.out, ← HH.out]
                        have q1 : (o + d) % s = (((o + e) % s) + (d - e)) % s := by rw [Nat.mod_add_mod]; congr 1; omega
                        have q2 : (o + d) % s = ((((o + e) % s + 1) % s) + (d - e - 1)) % s := by rw [Nat.mod_add_mod, Nat.add_assoc, Nat.mod_add_mod]; congr 1; omega
                        have g1 := dist (s := s) (a := (o + e) % s) (e := d - e) (Nat.mod_lt _ (by omega)) (by omega)
                        have g2 := dist (s := s) (a := ((o + e) % s + 1) % s) (e := d - e - 1) (Nat.mod_lt _ (by omega)) (by omega)
                        rw [← q1] at g1
                        rw [← q2] at g2
                        rw [g1, g2]
                        omega
              · obtain rfl : p = s := by omega
                have hend : cnt ix p = q := by rw [← HLS.out, cnt_end, HOK.out.cnt, HQ.out]
                rw [hend]
                clear hlt hp hend hcb hcbI
                go_wp2_with (go_at_call 8; refine (RlE.l_awake _).mono ?_; rintro e x9 ⟨rfl, hb9⟩)
                go_ret
                exact ⟨rfl, .of_below (HBW.out.trans (hb9.mono HBW.out.size))⟩

/-! The row's step. -/
set_option maxRecDepth 100000 in
theorem lifted (os : Os) (started : os.Started) (H : Type) (enc : TypeId × Value → H) :
    ReturnsInHanded {} Try.checked os 5 .any (Rows.redoProbesSpec.pre6 enc Try.prog Try.f5 Rows.redoProbesRow.domain false) (Rows.redoProbesSpec.post enc Try.prog Try.f5 false true false false) := by
  refine returnsInHanded_of_change (C := Try.checked) own started (by kernel_rfl) Try.func5
    (ChangeSpec.witness6 (enc := enc) (C := Try.checked) false ⟨#[], #[.int .i64 0, .slice none 0 0], []⟩ 8 (by kernel_rfl) (by kernel_rfl) (by kernel_rfl) (by kernel_rfl)) ?_
  intro W base args ds gs before hval0 hW hcnd _
  have hval : ∀ (j : Nat) t v, Try.f5.params[j]? = some t → args[j]? = some v → Value.okWide Try.prog W .any base t v := hval0
  have hW' := hW
  obtain ⟨p, q, hA0, hV, rfl, hfz, hnd⟩ := hW
  have hA : DataW.TrodAll enc Try.prog W 0 (fun _ => true) true Try.f5.params.toList args.toList ds p := hA0
  rw [Try.params5] at hA hval
  obtain ⟨v0, vs0, d0, ds0, p0, q0, hargs, rfl, rfl, h0, r0⟩ := trodAll_cons hA
  obtain ⟨v1, vs1, d1, ds1, p1, q1, rfl, rfl, rfl, h1, r1⟩ := trodAll_cons r0
  obtain ⟨rfl, rfl, rfl⟩ := trodAll_nil r1
  obtain rfl : args = #[v0, v1] := by cases args; simp_all
  obtain ⟨rfl, rfl⟩ := trodVars_none hV
  have hk : ∀ W', Kept W W' → Rows.redoProbesSpec.post enc Try.prog Try.f5 false true false false W #[v0, v1] (.bool true) W' := fun W' hb =>
    post_law laidOut readable rfl Try.underlying4 rfl hW' rfl hb
  clear hA0 hval0 hA hW'
  obtain ⟨a0, rfl, rfl, rfl, w0⟩ := open_int Try.underlying3 (hval 0 3 v0 rfl rfl) h0
  obtain ⟨A1, n1, c1, z1, rfl, l1, m1, s1⟩ := open_slice Try.underlying34 Try.underlying3 cells3 (hval 1 34 v1 rfl rfl) h1
  refine (walk W a0 w0 A1 n1 c1 z1 l1 m1 s1).mono fun e W' ⟨he, hg⟩ => ?_
  subst he
  exact ⟨_, rfl, hk W' hg⟩

theorem over : Rows.redoProbesRow.holds Try.pinned (OpenSpec.ofChange Rows.redoProbesSpec) :=
  OpenClaim.holds_of_wide 5 Try.f5 rfl rfl rfl rfl rfl rfl rfl ⟨rfl, rfl, rfl, rfl, rfl⟩ rfl rfl rfl rfl rfl (by kernel_rfl) Try.func5 (by kernel_rfl)
    (of_decide_eq_true (by kernel_rfl)) (by unfold Func.isWrapper; first | (rw [if_pos (by decide +kernel)]; kernel_rfl) | (rw [if_neg (by decide +kernel)]; exact ⟨rfl, rfl⟩))
    (fun os started H enc _ => lifted os started H enc)

/-- The statement. -/
theorem proved : Rows.RedoProbesSaid :=
  over
#print axioms proved
end Go.Proofs.Ytelpimhgodkmlaa.redoProbes
