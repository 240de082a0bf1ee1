/-
  Contract of the reference's Format of layer 3.
-/
import Derived.Test.YtcplhochgngedaaGreatDoorRefB
namespace Go.Proofs.YtcplhochgngedaaGreatDoor.RefF
open Go.ChangeShapes Go.WideShapes Go.ChangeAt Go.RowKit
open PlainT IsaE IsaS BlkW IsaA IsaB IsaF RefA RefB
set_option linter.unusedVariables false
set_option maxHeartbeats 1000000
set_option maxRecDepth 100000

theorem r_names (w : World) : Calls Tryz.prog 88 #[] w fun e w' => e = .returned (.slice (some ⟨w.heap.size, 0, none⟩) 22 22) ∧ w' = w.alloc (.cells (IsaE.strs fnNames).toArray 9) := by
  go_enter Tryz.func88, Tryz.ntmps88
  go_wp2
  go_ret
  exact ⟨rfl, rfl⟩
theorem r_fname (n : Nat) (hn : n < 22) (w : World) : Calls Tryz.prog 70 #[.int .i64 n] w fun e w' => e = .returned (.string (fnm n)) ∧ Below w.heap.size w w' := by
  obtain ⟨cs, hcs⟩ : ∃ cs, (IsaE.strs fnNames).toArray = cs := ⟨_, rfl⟩
  have hcell := new_str fnNames w n hn
  rw [hcs] at hcell
  have HS := Lib.hid hcs
  clear hcs
  go_enter Tryz.func70, Tryz.ntmps70
  go_wp2_with (go_at_call 88; refine (r_names _).mono ?_; rw [HS.out]; rintro e w1 ⟨rfl, rfl⟩)
  go_ret
  exact ⟨rfl, below_new _ _⟩

/-! ### Texts. -/
theorem ba_append (a b : List UInt8) : (⟨a.toArray⟩ : ByteArray) ++ ⟨b.toArray⟩ = ⟨(a ++ b).toArray⟩ := by
  apply ByteArray.ext
  simp
theorem ba_eq (a : ByteArray) : a = ⟨a.data.toList.toArray⟩ := by cases a; simp
theorem join_flat (x : ByteArray) (r : List ByteArray) : joinB (x :: r) = ⟨(x.data.toList ++ r.flatMap fun y => 32 :: y.data.toList).toArray⟩ := by
  unfold joinB
  rw [List.map_cons, Lib.join_cons]
  congr 3
  unfold Lib.joinTail
  induction r with
  | nil => rfl
  | cons y t ih => simp only [List.map_cons, List.flatten_cons, List.flatMap_cons, ih]; rfl
theorem size_list (a : ByteArray) : a.size = a.data.toList.length := by rw [Array.length_toList]; rfl
theorem opm_size (k : Nat) (hk : k < 18) : (opm k).size ≤ 7 := by
  have all : ∀ k : Fin 18, (opm k.val).size ≤ 7 := by decide
  exact all ⟨k, hk⟩
theorem fnm_size (n : Nat) (hn : n < 22) : (fnm n).size ≤ 7 := by
  have all : ∀ k : Fin 22, (fnm k.val).size ≤ 7 := by decide
  exact all ⟨n, hn⟩
theorem mk_size (l : List UInt8) : (⟨l.toArray⟩ : ByteArray).size = l.length := by rw [size_list]
theorem text_reg (l : UInt8) (h : l ≠ 110) (x : Int) : (operB l x).data.toList = 114 :: Lib.itoa x := by
  unfold operB operL
  rw [if_neg h]
theorem text_num (x : Int) : (operB 110 x).data.toList = Lib.itoa x := by
  unfold operB operL
  rw [if_pos rfl]
theorem r_format_no (op a b c i v : Int) (hii : InInt i) (hv : chk op a b c i = v) (h0 : v = 10 ∨ v = 11) (w : World) : Calls Tryz.prog 42 #[ins op a b c i] w fun e w' => e = .returned (.tuple #[.string ⟨#[]⟩, .int .i64 v]) ∧ Below w.heap.size w w' := by
  show Calls _ _ #[.agg _] _ _
  have HV := Lib.hid hv
  clear hv
  rcases h0 with rfl | rfl
  all_goals
    go_enter Tryz.func42, Tryz.ntmps42
    go_wp2_with (go_at_call 40; refine (r_check_v hii HV.out _).mono ?_; rintro e w1 ⟨rfl, hb1⟩)
    go_ret2
    exact ⟨rfl, (below_new _ _).trans (hb1.mono (by simp))⟩
theorem r_format_0 (a b c i : Int) (ha : InInt a) (hb : InInt b) (hc : InInt c) (hi : InInt i) (hv : chk 0 a b c i = 0) (w : World) (h : Env w) :
    Calls Tryz.prog 42 #[ins 0 a b c i] w fun e w' => e = .returned (.tuple #[.string (joinB (wordsV 0 a b c i)), .int .i64 0]) ∧ Below w.heap.size w w' := by
  show Calls _ _ #[.agg _] _ _
  have HV := Lib.hid hv
  have HI := hi
  have H114 := Lib.hid (fun w => r_hasF 0 114 114 rfl false rfl w)
  have H115 := Lib.hid (fun w => r_hasF 0 115 115 rfl false rfl w)
  have H116 := Lib.hid (fun w => r_hasF 0 116 116 rfl false rfl w)
  have H105 := Lib.hid (fun w => r_hasF 0 105 105 rfl false rfl w)
  have H106 := Lib.hid (fun w => r_hasF 0 106 106 rfl false rfl w)
  have H97 := Lib.hid (fun w => r_hasF 0 97 97 rfl false rfl w)
  have H99 := Lib.hid (fun w => r_hasF 0 99 99 rfl false rfl w)
  have hnm : (opm 0).size ≤ 7 := opm_size 0 (by omega)
  have HT := Lib.hid (show joinB (wordsV 0 a b c i) = ⟨((opm 0).data.toList).toArray⟩ by
    have e : wordsV 0 a b c i = (opm 0) :: [] := rfl
    rw [e, join_flat]
    simp only [List.flatMap_nil, List.append_nil])
  clear hv ha hb hc hi
  go_enter Tryz.func42, Tryz.ntmps42
  go_wp2_with fail
  refine (r_check_v HI HV.out _).mono ?_
  rintro e w1 ⟨rfl, hb1⟩
  have hm1 : Mem w1 w.heap.size 40 (boxed 0 a b c i) := (Mem.new w 40 (boxed 0 a b c i)).below hb1 (by simp)
  have hbw1 := (below_new w (.cells (boxed 0 a b c i) 40)).trans (hb1.mono (by simp))
  obtain ⟨z0, z1, z2, z3, z4⟩ := boxed_cells hm1
  have hs1 := hm1.lt
  clear hb1
  go_wp2_with fail
  refine (r_form 0 (by omega) _).mono ?_
  rintro e w2 ⟨rfl, hb2⟩
  have hm2 := hm1.below hb2 hs1
  have hbw2 := hbw1.trans (hb2.mono (by omega))
  clear z0 z1 z2 z3 z4
  obtain ⟨z0, z1, z2, z3, z4⟩ := boxed_cells hm2
  have hs2 := hm2.lt
  clear hb2 hm1 hbw1
  go_wp2_with fail
  refine (r_name 0 (by omega) _).mono ?_
  rintro e w3 ⟨rfl, hb3⟩
  have hm3 := hm2.below hb3 hs2
  have hbw3 := hbw2.trans (hb3.mono (by omega))
  clear z0 z1 z2 z3 z4
  obtain ⟨z0, z1, z2, z3, z4⟩ := boxed_cells hm3
  have hs3 := hm3.lt
  clear hb3 hm2 hbw2
  go_wp2_with (first | (go_at_call 45; (with_reducible refine (H114.out _).mono ?_); rintro e w9 ⟨rfl, rfl⟩) | (go_at_call 45; (with_reducible refine (H115.out _).mono ?_); rintro e w9 ⟨rfl, rfl⟩) | (go_at_call 45; (with_reducible refine (H116.out _).mono ?_); rintro e w9 ⟨rfl, rfl⟩) | (go_at_call 45; (with_reducible refine (H105.out _).mono ?_); rintro e w9 ⟨rfl, rfl⟩) | (go_at_call 45; (with_reducible refine (H106.out _).mono ?_); rintro e w9 ⟨rfl, rfl⟩) | (go_at_call 45; (with_reducible refine (H97.out _).mono ?_); rintro e w9 ⟨rfl, rfl⟩) | (go_at_call 45; (with_reducible refine (H99.out _).mono ?_); rintro e w9 ⟨rfl, rfl⟩))
  go_ret2
  refine ⟨?_, hbw3⟩
  rw [HT.out]
  exact congrArg (fun s => Ending.returned (.tuple #[.string s, .int .i64 0])) (ba_eq _)
theorem r_format_1 (a b c i : Int) (ha : InInt a) (hb : InInt b) (hc : InInt c) (hi : InInt i) (hv : chk 1 a b c i = 0) (w : World) (h : Env w) :
    Calls Tryz.prog 42 #[ins 1 a b c i] w fun e w' => e = .returned (.tuple #[.string (joinB (wordsV 1 a b c i)), .int .i64 0]) ∧ Below w.heap.size w w' := by
  show Calls _ _ #[.agg _] _ _
  have HV := Lib.hid hv
  have HI := hi
  have H114 := Lib.hid (fun w => r_hasF 1 114 114 rfl true rfl w)
  have H115 := Lib.hid (fun w => r_hasF 1 115 115 rfl false rfl w)
  have H116 := Lib.hid (fun w => r_hasF 1 116 116 rfl false rfl w)
  have H105 := Lib.hid (fun w => r_hasF 1 105 105 rfl true rfl w)
  have Ba := Lib.hid ha
  have Bi := Lib.hid hi
  have hnm : (opm 1).size ≤ 7 := opm_size 1 (by omega)
  have hla := Lib.itoa_length_le a ha.1 ha.2
  have hli := Lib.itoa_length_le i hi.1 hi.2
  have HT := Lib.hid (show joinB (wordsV 1 a b c i) = ⟨((opm 1).data.toList ++ (32 :: 114 :: Lib.itoa a) ++ (32 :: Lib.itoa i)).toArray⟩ by
    have e : wordsV 1 a b c i = (opm 1) :: [operB 97 a, operB 110 i] := rfl
    rw [e, join_flat]
    simp only [List.flatMap_cons, List.flatMap_nil, List.append_nil, text_reg 97 (by decide), text_num, List.append_assoc])
  clear hv ha hb hc hi
  go_enter Tryz.func42, Tryz.ntmps42
  go_wp2_with fail
  refine (r_check_v HI HV.out _).mono ?_
  rintro e w1 ⟨rfl, hb1⟩
  have hm1 : Mem w1 w.heap.size 40 (boxed 1 a b c i) := (Mem.new w 40 (boxed 1 a b c i)).below hb1 (by simp)
  have hbw1 := (below_new w (.cells (boxed 1 a b c i) 40)).trans (hb1.mono (by simp))
  obtain ⟨z0, z1, z2, z3, z4⟩ := boxed_cells hm1
  have hs1 := hm1.lt
  clear hb1
  go_wp2_with fail
  refine (r_form 1 (by omega) _).mono ?_
  rintro e w2 ⟨rfl, hb2⟩
  have hm2 := hm1.below hb2 hs1
  have hbw2 := hbw1.trans (hb2.mono (by omega))
  clear z0 z1 z2 z3 z4
  obtain ⟨z0, z1, z2, z3, z4⟩ := boxed_cells hm2
  have hs2 := hm2.lt
  clear hb2 hm1 hbw1
  go_wp2_with fail
  refine (r_name 1 (by omega) _).mono ?_
  rintro e w3 ⟨rfl, hb3⟩
  have hm3 := hm2.below hb3 hs2
  have hbw3 := hbw2.trans (hb3.mono (by omega))
  clear z0 z1 z2 z3 z4
  obtain ⟨z0, z1, z2, z3, z4⟩ := boxed_cells hm3
  have hs3 := hm3.lt
  clear hb3 hm2 hbw2
  go_wp2_with (first | (go_at_call 45; (with_reducible refine (H114.out _).mono ?_); rintro e w9 ⟨rfl, rfl⟩) | (go_at_call 45; (with_reducible refine (H115.out _).mono ?_); rintro e w9 ⟨rfl, rfl⟩) | (go_at_call 45; (with_reducible refine (H116.out _).mono ?_); rintro e w9 ⟨rfl, rfl⟩) | (go_at_call 45; (with_reducible refine (H105.out _).mono ?_); rintro e w9 ⟨rfl, rfl⟩))
  refine (a_itoa a Ba.out.1 Ba.out.2 _ (h.below hbw3)).mono ?_
  rintro e w4 ⟨rfl, hb4⟩
  have hm4 := hm3.below hb4 hs3
  have hbw4 := hbw3.trans (hb4.mono (by omega))
  clear z0 z1 z2 z3 z4
  obtain ⟨z0, z1, z2, z3, z4⟩ := boxed_cells hm4
  have hs4 := hm4.lt
  clear hb4 hm3 hbw3
  go_wp2_with (first | (go_at_call 45; (with_reducible refine (H114.out _).mono ?_); rintro e w9 ⟨rfl, rfl⟩) | (go_at_call 45; (with_reducible refine (H115.out _).mono ?_); rintro e w9 ⟨rfl, rfl⟩) | (go_at_call 45; (with_reducible refine (H116.out _).mono ?_); rintro e w9 ⟨rfl, rfl⟩) | (go_at_call 45; (with_reducible refine (H105.out _).mono ?_); rintro e w9 ⟨rfl, rfl⟩))
  refine (a_itoa i Bi.out.1 Bi.out.2 _ (h.below hbw4)).mono ?_
  rintro e w5 ⟨rfl, hb5⟩
  have hm5 := hm4.below hb5 hs4
  have hbw5 := hbw4.trans (hb5.mono (by omega))
  clear z0 z1 z2 z3 z4
  obtain ⟨z0, z1, z2, z3, z4⟩ := boxed_cells hm5
  have hs5 := hm5.lt
  clear hb5 hm4 hbw4
  go_wp2_with (first | (go_at_call 45; (with_reducible refine (H114.out _).mono ?_); rintro e w9 ⟨rfl, rfl⟩) | (go_at_call 45; (with_reducible refine (H115.out _).mono ?_); rintro e w9 ⟨rfl, rfl⟩) | (go_at_call 45; (with_reducible refine (H116.out _).mono ?_); rintro e w9 ⟨rfl, rfl⟩) | (go_at_call 45; (with_reducible refine (H105.out _).mono ?_); rintro e w9 ⟨rfl, rfl⟩))
  go_ret2
  refine ⟨?_, hbw5⟩
  rw [HT.out]
  exact congrArg (fun s => Ending.returned (.tuple #[.string s, .int .i64 0])) (by
    apply ByteArray.ext
    apply Array.toList_inj.1
    simp [List.append_assoc])
theorem r_format_2 (a b c i : Int) (ha : InInt a) (hb : InInt b) (hc : InInt c) (hi : InInt i) (hv : chk 2 a b c i = 0) (w : World) (h : Env w) :
    Calls Tryz.prog 42 #[ins 2 a b c i] w fun e w' => e = .returned (.tuple #[.string (joinB (wordsV 2 a b c i)), .int .i64 0]) ∧ Below w.heap.size w w' := by
  show Calls _ _ #[.agg _] _ _
  have HV := Lib.hid hv
  have HI := hi
  have H114 := Lib.hid (fun w => r_hasF 2 114 114 rfl true rfl w)
  have H115 := Lib.hid (fun w => r_hasF 2 115 115 rfl true rfl w)
  have H116 := Lib.hid (fun w => r_hasF 2 116 116 rfl false rfl w)
  have H105 := Lib.hid (fun w => r_hasF 2 105 105 rfl false rfl w)
  have H106 := Lib.hid (fun w => r_hasF 2 106 106 rfl false rfl w)
  have H97 := Lib.hid (fun w => r_hasF 2 97 97 rfl false rfl w)
  have H99 := Lib.hid (fun w => r_hasF 2 99 99 rfl false rfl w)
  have Ba := Lib.hid ha
  have Bb := Lib.hid hb
  have hnm : (opm 2).size ≤ 7 := opm_size 2 (by omega)
  have hla := Lib.itoa_length_le a ha.1 ha.2
  have hlb := Lib.itoa_length_le b hb.1 hb.2
  have HT := Lib.hid (show joinB (wordsV 2 a b c i) = ⟨((opm 2).data.toList ++ (32 :: 114 :: Lib.itoa a) ++ (32 :: 114 :: Lib.itoa b)).toArray⟩ by
    have e : wordsV 2 a b c i = (opm 2) :: [operB 97 a, operB 98 b] := rfl
    rw [e, join_flat]
    simp only [List.flatMap_cons, List.flatMap_nil, List.append_nil, text_reg 97 (by decide), text_reg 98 (by decide), List.append_assoc])
  clear hv ha hb hc hi
  go_enter Tryz.func42, Tryz.ntmps42
  go_wp2_with fail
  refine (r_check_v HI HV.out _).mono ?_
  rintro e w1 ⟨rfl, hb1⟩
  have hm1 : Mem w1 w.heap.size 40 (boxed 2 a b c i) := (Mem.new w 40 (boxed 2 a b c i)).below hb1 (by simp)
  have hbw1 := (below_new w (.cells (boxed 2 a b c i) 40)).trans (hb1.mono (by simp))
  obtain ⟨z0, z1, z2, z3, z4⟩ := boxed_cells hm1
  have hs1 := hm1.lt
  clear hb1
  go_wp2_with fail
  refine (r_form 2 (by omega) _).mono ?_
  rintro e w2 ⟨rfl, hb2⟩
  have hm2 := hm1.below hb2 hs1
  have hbw2 := hbw1.trans (hb2.mono (by omega))
  clear z0 z1 z2 z3 z4
  obtain ⟨z0, z1, z2, z3, z4⟩ := boxed_cells hm2
  have hs2 := hm2.lt
  clear hb2 hm1 hbw1
  go_wp2_with fail
  refine (r_name 2 (by omega) _).mono ?_
  rintro e w3 ⟨rfl, hb3⟩
  have hm3 := hm2.below hb3 hs2
  have hbw3 := hbw2.trans (hb3.mono (by omega))
  clear z0 z1 z2 z3 z4
  obtain ⟨z0, z1, z2, z3, z4⟩ := boxed_cells hm3
  have hs3 := hm3.lt
  clear hb3 hm2 hbw2
  go_wp2_with (first | (go_at_call 45; (with_reducible refine (H114.out _).mono ?_); rintro e w9 ⟨rfl, rfl⟩) | (go_at_call 45; (with_reducible refine (H115.out _).mono ?_); rintro e w9 ⟨rfl, rfl⟩) | (go_at_call 45; (with_reducible refine (H116.out _).mono ?_); rintro e w9 ⟨rfl, rfl⟩) | (go_at_call 45; (with_reducible refine (H105.out _).mono ?_); rintro e w9 ⟨rfl, rfl⟩) | (go_at_call 45; (with_reducible refine (H106.out _).mono ?_); rintro e w9 ⟨rfl, rfl⟩) | (go_at_call 45; (with_reducible refine (H97.out _).mono ?_); rintro e w9 ⟨rfl, rfl⟩) | (go_at_call 45; (with_reducible refine (H99.out _).mono ?_); rintro e w9 ⟨rfl, rfl⟩))
  refine (a_itoa a Ba.out.1 Ba.out.2 _ (h.below hbw3)).mono ?_
  rintro e w4 ⟨rfl, hb4⟩
  have hm4 := hm3.below hb4 hs3
  have hbw4 := hbw3.trans (hb4.mono (by omega))
  clear z0 z1 z2 z3 z4
  obtain ⟨z0, z1, z2, z3, z4⟩ := boxed_cells hm4
  have hs4 := hm4.lt
  clear hb4 hm3 hbw3
  go_wp2_with (first | (go_at_call 45; (with_reducible refine (H114.out _).mono ?_); rintro e w9 ⟨rfl, rfl⟩) | (go_at_call 45; (with_reducible refine (H115.out _).mono ?_); rintro e w9 ⟨rfl, rfl⟩) | (go_at_call 45; (with_reducible refine (H116.out _).mono ?_); rintro e w9 ⟨rfl, rfl⟩) | (go_at_call 45; (with_reducible refine (H105.out _).mono ?_); rintro e w9 ⟨rfl, rfl⟩) | (go_at_call 45; (with_reducible refine (H106.out _).mono ?_); rintro e w9 ⟨rfl, rfl⟩) | (go_at_call 45; (with_reducible refine (H97.out _).mono ?_); rintro e w9 ⟨rfl, rfl⟩) | (go_at_call 45; (with_reducible refine (H99.out _).mono ?_); rintro e w9 ⟨rfl, rfl⟩))
  refine (a_itoa b Bb.out.1 Bb.out.2 _ (h.below hbw4)).mono ?_
  rintro e w5 ⟨rfl, hb5⟩
  have hm5 := hm4.below hb5 hs4
  have hbw5 := hbw4.trans (hb5.mono (by omega))
  clear z0 z1 z2 z3 z4
  obtain ⟨z0, z1, z2, z3, z4⟩ := boxed_cells hm5
  have hs5 := hm5.lt
  clear hb5 hm4 hbw4
  go_wp2_with (first | (go_at_call 45; (with_reducible refine (H114.out _).mono ?_); rintro e w9 ⟨rfl, rfl⟩) | (go_at_call 45; (with_reducible refine (H115.out _).mono ?_); rintro e w9 ⟨rfl, rfl⟩) | (go_at_call 45; (with_reducible refine (H116.out _).mono ?_); rintro e w9 ⟨rfl, rfl⟩) | (go_at_call 45; (with_reducible refine (H105.out _).mono ?_); rintro e w9 ⟨rfl, rfl⟩) | (go_at_call 45; (with_reducible refine (H106.out _).mono ?_); rintro e w9 ⟨rfl, rfl⟩) | (go_at_call 45; (with_reducible refine (H97.out _).mono ?_); rintro e w9 ⟨rfl, rfl⟩) | (go_at_call 45; (with_reducible refine (H99.out _).mono ?_); rintro e w9 ⟨rfl, rfl⟩))
  go_ret2
  refine ⟨?_, hbw5⟩
  rw [HT.out]
  exact congrArg (fun s => Ending.returned (.tuple #[.string s, .int .i64 0])) (by
    apply ByteArray.ext
    apply Array.toList_inj.1
    simp [List.append_assoc])
theorem r_format_3 (a b c i : Int) (ha : InInt a) (hb : InInt b) (hc : InInt c) (hi : InInt i) (n : Nat) (hn : n < 22) (hin : i = n) (hv : chk 3 a b c i = 0) (w : World) (h : Env w) :
    Calls Tryz.prog 42 #[ins 3 a b c i] w fun e w' => e = .returned (.tuple #[.string (joinB (wordsV 3 a b c i)), .int .i64 0]) ∧ Below w.heap.size w w' := by
  show Calls _ _ #[.agg _] _ _
  subst hin
  have HV := Lib.hid hv
  have HI := hi
  have H114 := Lib.hid (fun w => r_hasF 3 114 114 rfl true rfl w)
  have H115 := Lib.hid (fun w => r_hasF 3 115 115 rfl true rfl w)
  have H116 := Lib.hid (fun w => r_hasF 3 116 116 rfl true rfl w)
  have H105 := Lib.hid (fun w => r_hasF 3 105 105 rfl false rfl w)
  have H106 := Lib.hid (fun w => r_hasF 3 106 106 rfl false rfl w)
  have H97 := Lib.hid (fun w => r_hasF 3 97 97 rfl false rfl w)
  have H99 := Lib.hid (fun w => r_hasF 3 99 99 rfl false rfl w)
  have Ba := Lib.hid ha
  have Bb := Lib.hid hb
  have Bc := Lib.hid hc
  have hnm : (fnm n).size ≤ 7 := fnm_size n hn
  have hla := Lib.itoa_length_le a ha.1 ha.2
  have hlb := Lib.itoa_length_le b hb.1 hb.2
  have hlc := Lib.itoa_length_le c hc.1 hc.2
  have HT := Lib.hid (show joinB (wordsV 3 a b c (n : Int)) = ⟨((fnm n).data.toList ++ (32 :: 114 :: Lib.itoa a) ++ (32 :: 114 :: Lib.itoa b) ++ (32 :: 114 :: Lib.itoa c)).toArray⟩ by
    have e : wordsV 3 a b c (n : Int) = (fnm n) :: [operB 97 a, operB 98 b, operB 99 c] := rfl
    rw [e, join_flat]
    simp only [List.flatMap_cons, List.flatMap_nil, List.append_nil, text_reg 97 (by decide), text_reg 98 (by decide), text_reg 99 (by decide), List.append_assoc])
  clear hv ha hb hc hi
  go_enter Tryz.func42, Tryz.ntmps42
  go_wp2_with fail
  refine (r_check_v HI HV.out _).mono ?_
  rintro e w1 ⟨rfl, hb1⟩
  have hm1 : Mem w1 w.heap.size 40 (boxed 3 a b c (n : Int)) := (Mem.new w 40 (boxed 3 a b c (n : Int))).below hb1 (by simp)
  have hbw1 := (below_new w (.cells (boxed 3 a b c (n : Int)) 40)).trans (hb1.mono (by simp))
  obtain ⟨z0, z1, z2, z3, z4⟩ := boxed_cells hm1
  have hs1 := hm1.lt
  clear hb1
  go_wp2_with fail
  refine (r_form 3 (by omega) _).mono ?_
  rintro e w2 ⟨rfl, hb2⟩
  have hm2 := hm1.below hb2 hs1
  have hbw2 := hbw1.trans (hb2.mono (by omega))
  clear z0 z1 z2 z3 z4
  obtain ⟨z0, z1, z2, z3, z4⟩ := boxed_cells hm2
  have hs2 := hm2.lt
  clear hb2 hm1 hbw1
  go_wp2_with fail
  refine (r_name 3 (by omega) _).mono ?_
  rintro e w3 ⟨rfl, hb3⟩
  have hm3 := hm2.below hb3 hs2
  have hbw3 := hbw2.trans (hb3.mono (by omega))
  clear z0 z1 z2 z3 z4
  obtain ⟨z0, z1, z2, z3, z4⟩ := boxed_cells hm3
  have hs3 := hm3.lt
  clear hb3 hm2 hbw2
  go_wp2_with fail
  refine (r_fname n hn _).mono ?_
  rintro e w4 ⟨rfl, hb4⟩
  have hm4 := hm3.below hb4 hs3
  have hbw4 := hbw3.trans (hb4.mono (by omega))
  clear z0 z1 z2 z3 z4
  obtain ⟨z0, z1, z2, z3, z4⟩ := boxed_cells hm4
  have hs4 := hm4.lt
  clear hb4 hm3 hbw3
  go_wp2_with (first | (go_at_call 45; (with_reducible refine (H114.out _).mono ?_); rintro e w9 ⟨rfl, rfl⟩) | (go_at_call 45; (with_reducible refine (H115.out _).mono ?_); rintro e w9 ⟨rfl, rfl⟩) | (go_at_call 45; (with_reducible refine (H116.out _).mono ?_); rintro e w9 ⟨rfl, rfl⟩) | (go_at_call 45; (with_reducible refine (H105.out _).mono ?_); rintro e w9 ⟨rfl, rfl⟩) | (go_at_call 45; (with_reducible refine (H106.out _).mono ?_); rintro e w9 ⟨rfl, rfl⟩) | (go_at_call 45; (with_reducible refine (H97.out _).mono ?_); rintro e w9 ⟨rfl, rfl⟩) | (go_at_call 45; (with_reducible refine (H99.out _).mono ?_); rintro e w9 ⟨rfl, rfl⟩))
  refine (a_itoa a Ba.out.1 Ba.out.2 _ (h.below hbw4)).mono ?_
  rintro e w5 ⟨rfl, hb5⟩
  have hm5 := hm4.below hb5 hs4
  have hbw5 := hbw4.trans (hb5.mono (by omega))
  clear z0 z1 z2 z3 z4
  obtain ⟨z0, z1, z2, z3, z4⟩ := boxed_cells hm5
  have hs5 := hm5.lt
  clear hb5 hm4 hbw4
  go_wp2_with (first | (go_at_call 45; (with_reducible refine (H114.out _).mono ?_); rintro e w9 ⟨rfl, rfl⟩) | (go_at_call 45; (with_reducible refine (H115.out _).mono ?_); rintro e w9 ⟨rfl, rfl⟩) | (go_at_call 45; (with_reducible refine (H116.out _).mono ?_); rintro e w9 ⟨rfl, rfl⟩) | (go_at_call 45; (with_reducible refine (H105.out _).mono ?_); rintro e w9 ⟨rfl, rfl⟩) | (go_at_call 45; (with_reducible refine (H106.out _).mono ?_); rintro e w9 ⟨rfl, rfl⟩) | (go_at_call 45; (with_reducible refine (H97.out _).mono ?_); rintro e w9 ⟨rfl, rfl⟩) | (go_at_call 45; (with_reducible refine (H99.out _).mono ?_); rintro e w9 ⟨rfl, rfl⟩))
  refine (a_itoa b Bb.out.1 Bb.out.2 _ (h.below hbw5)).mono ?_
  rintro e w6 ⟨rfl, hb6⟩
  have hm6 := hm5.below hb6 hs5
  have hbw6 := hbw5.trans (hb6.mono (by omega))
  clear z0 z1 z2 z3 z4
  obtain ⟨z0, z1, z2, z3, z4⟩ := boxed_cells hm6
  have hs6 := hm6.lt
  clear hb6 hm5 hbw5
  go_wp2_with (first | (go_at_call 45; (with_reducible refine (H114.out _).mono ?_); rintro e w9 ⟨rfl, rfl⟩) | (go_at_call 45; (with_reducible refine (H115.out _).mono ?_); rintro e w9 ⟨rfl, rfl⟩) | (go_at_call 45; (with_reducible refine (H116.out _).mono ?_); rintro e w9 ⟨rfl, rfl⟩) | (go_at_call 45; (with_reducible refine (H105.out _).mono ?_); rintro e w9 ⟨rfl, rfl⟩) | (go_at_call 45; (with_reducible refine (H106.out _).mono ?_); rintro e w9 ⟨rfl, rfl⟩) | (go_at_call 45; (with_reducible refine (H97.out _).mono ?_); rintro e w9 ⟨rfl, rfl⟩) | (go_at_call 45; (with_reducible refine (H99.out _).mono ?_); rintro e w9 ⟨rfl, rfl⟩))
  refine (a_itoa c Bc.out.1 Bc.out.2 _ (h.below hbw6)).mono ?_
  rintro e w7 ⟨rfl, hb7⟩
  have hm7 := hm6.below hb7 hs6
  have hbw7 := hbw6.trans (hb7.mono (by omega))
  clear z0 z1 z2 z3 z4
  obtain ⟨z0, z1, z2, z3, z4⟩ := boxed_cells hm7
  have hs7 := hm7.lt
  clear hb7 hm6 hbw6
  go_wp2_with (first | (go_at_call 45; (with_reducible refine (H114.out _).mono ?_); rintro e w9 ⟨rfl, rfl⟩) | (go_at_call 45; (with_reducible refine (H115.out _).mono ?_); rintro e w9 ⟨rfl, rfl⟩) | (go_at_call 45; (with_reducible refine (H116.out _).mono ?_); rintro e w9 ⟨rfl, rfl⟩) | (go_at_call 45; (with_reducible refine (H105.out _).mono ?_); rintro e w9 ⟨rfl, rfl⟩) | (go_at_call 45; (with_reducible refine (H106.out _).mono ?_); rintro e w9 ⟨rfl, rfl⟩) | (go_at_call 45; (with_reducible refine (H97.out _).mono ?_); rintro e w9 ⟨rfl, rfl⟩) | (go_at_call 45; (with_reducible refine (H99.out _).mono ?_); rintro e w9 ⟨rfl, rfl⟩))
  go_ret2
  refine ⟨?_, hbw7⟩
  rw [HT.out]
  exact congrArg (fun s => Ending.returned (.tuple #[.string s, .int .i64 0])) (by
    apply ByteArray.ext
    apply Array.toList_inj.1
    simp [List.append_assoc])
theorem r_format_4 (a b c i : Int) (ha : InInt a) (hb : InInt b) (hc : InInt c) (hi : InInt i) (hv : chk 4 a b c i = 0) (w : World) (h : Env w) :
    Calls Tryz.prog 42 #[ins 4 a b c i] w fun e w' => e = .returned (.tuple #[.string (joinB (wordsV 4 a b c i)), .int .i64 0]) ∧ Below w.heap.size w w' := by
  show Calls _ _ #[.agg _] _ _
  have HV := Lib.hid hv
  have HI := hi
  have H114 := Lib.hid (fun w => r_hasF 4 114 114 rfl false rfl w)
  have H115 := Lib.hid (fun w => r_hasF 4 115 115 rfl false rfl w)
  have H116 := Lib.hid (fun w => r_hasF 4 116 116 rfl false rfl w)
  have H105 := Lib.hid (fun w => r_hasF 4 105 105 rfl false rfl w)
  have H106 := Lib.hid (fun w => r_hasF 4 106 106 rfl true rfl w)
  have Bi := Lib.hid hi
  have hnm : (opm 4).size ≤ 7 := opm_size 4 (by omega)
  have hli := Lib.itoa_length_le i hi.1 hi.2
  have HT := Lib.hid (show joinB (wordsV 4 a b c i) = ⟨((opm 4).data.toList ++ (32 :: Lib.itoa i)).toArray⟩ by
    have e : wordsV 4 a b c i = (opm 4) :: [operB 110 i] := rfl
    rw [e, join_flat]
    simp only [List.flatMap_cons, List.flatMap_nil, List.append_nil, text_num])
  clear hv ha hb hc hi
  go_enter Tryz.func42, Tryz.ntmps42
  go_wp2_with fail
  refine (r_check_v HI HV.out _).mono ?_
  rintro e w1 ⟨rfl, hb1⟩
  have hm1 : Mem w1 w.heap.size 40 (boxed 4 a b c i) := (Mem.new w 40 (boxed 4 a b c i)).below hb1 (by simp)
  have hbw1 := (below_new w (.cells (boxed 4 a b c i) 40)).trans (hb1.mono (by simp))
  obtain ⟨z0, z1, z2, z3, z4⟩ := boxed_cells hm1
  have hs1 := hm1.lt
  clear hb1
  go_wp2_with fail
  refine (r_form 4 (by omega) _).mono ?_
  rintro e w2 ⟨rfl, hb2⟩
  have hm2 := hm1.below hb2 hs1
  have hbw2 := hbw1.trans (hb2.mono (by omega))
  clear z0 z1 z2 z3 z4
  obtain ⟨z0, z1, z2, z3, z4⟩ := boxed_cells hm2
  have hs2 := hm2.lt
  clear hb2 hm1 hbw1
  go_wp2_with fail
  refine (r_name 4 (by omega) _).mono ?_
  rintro e w3 ⟨rfl, hb3⟩
  have hm3 := hm2.below hb3 hs2
  have hbw3 := hbw2.trans (hb3.mono (by omega))
  clear z0 z1 z2 z3 z4
  obtain ⟨z0, z1, z2, z3, z4⟩ := boxed_cells hm3
  have hs3 := hm3.lt
  clear hb3 hm2 hbw2
  go_wp2_with (first | (go_at_call 45; (with_reducible refine (H114.out _).mono ?_); rintro e w9 ⟨rfl, rfl⟩) | (go_at_call 45; (with_reducible refine (H115.out _).mono ?_); rintro e w9 ⟨rfl, rfl⟩) | (go_at_call 45; (with_reducible refine (H116.out _).mono ?_); rintro e w9 ⟨rfl, rfl⟩) | (go_at_call 45; (with_reducible refine (H105.out _).mono ?_); rintro e w9 ⟨rfl, rfl⟩) | (go_at_call 45; (with_reducible refine (H106.out _).mono ?_); rintro e w9 ⟨rfl, rfl⟩))
  refine (a_itoa i Bi.out.1 Bi.out.2 _ (h.below hbw3)).mono ?_
  rintro e w4 ⟨rfl, hb4⟩
  have hm4 := hm3.below hb4 hs3
  have hbw4 := hbw3.trans (hb4.mono (by omega))
  clear z0 z1 z2 z3 z4
  obtain ⟨z0, z1, z2, z3, z4⟩ := boxed_cells hm4
  have hs4 := hm4.lt
  clear hb4 hm3 hbw3
  go_wp2_with (first | (go_at_call 45; (with_reducible refine (H114.out _).mono ?_); rintro e w9 ⟨rfl, rfl⟩) | (go_at_call 45; (with_reducible refine (H115.out _).mono ?_); rintro e w9 ⟨rfl, rfl⟩) | (go_at_call 45; (with_reducible refine (H116.out _).mono ?_); rintro e w9 ⟨rfl, rfl⟩) | (go_at_call 45; (with_reducible refine (H105.out _).mono ?_); rintro e w9 ⟨rfl, rfl⟩) | (go_at_call 45; (with_reducible refine (H106.out _).mono ?_); rintro e w9 ⟨rfl, rfl⟩))
  go_ret2
  refine ⟨?_, hbw4⟩
  rw [HT.out]
  exact congrArg (fun s => Ending.returned (.tuple #[.string s, .int .i64 0])) (by
    apply ByteArray.ext
    apply Array.toList_inj.1
    simp)
theorem r_format_5 (a b c i : Int) (ha : InInt a) (hb : InInt b) (hc : InInt c) (hi : InInt i) (hv : chk 5 a b c i = 0) (w : World) (h : Env w) :
    Calls Tryz.prog 42 #[ins 5 a b c i] w fun e w' => e = .returned (.tuple #[.string (joinB (wordsV 5 a b c i)), .int .i64 0]) ∧ Below w.heap.size w w' := by
  show Calls _ _ #[.agg _] _ _
  have HV := Lib.hid hv
  have HI := hi
  have H114 := Lib.hid (fun w => r_hasF 5 114 114 rfl true rfl w)
  have H115 := Lib.hid (fun w => r_hasF 5 115 115 rfl false rfl w)
  have H116 := Lib.hid (fun w => r_hasF 5 116 116 rfl false rfl w)
  have H105 := Lib.hid (fun w => r_hasF 5 105 105 rfl false rfl w)
  have H106 := Lib.hid (fun w => r_hasF 5 106 106 rfl true rfl w)
  have Ba := Lib.hid ha
  have Bi := Lib.hid hi
  have hnm : (opm 5).size ≤ 7 := opm_size 5 (by omega)
  have hla := Lib.itoa_length_le a ha.1 ha.2
  have hli := Lib.itoa_length_le i hi.1 hi.2
  have HT := Lib.hid (show joinB (wordsV 5 a b c i) = ⟨((opm 5).data.toList ++ (32 :: 114 :: Lib.itoa a) ++ (32 :: Lib.itoa i)).toArray⟩ by
    have e : wordsV 5 a b c i = (opm 5) :: [operB 97 a, operB 110 i] := rfl
    rw [e, join_flat]
    simp only [List.flatMap_cons, List.flatMap_nil, List.append_nil, text_reg 97 (by decide), text_num, List.append_assoc])
  clear hv ha hb hc hi
  go_enter Tryz.func42, Tryz.ntmps42
  go_wp2_with fail
  refine (r_check_v HI HV.out _).mono ?_
  rintro e w1 ⟨rfl, hb1⟩
  have hm1 : Mem w1 w.heap.size 40 (boxed 5 a b c i) := (Mem.new w 40 (boxed 5 a b c i)).below hb1 (by simp)
  have hbw1 := (below_new w (.cells (boxed 5 a b c i) 40)).trans (hb1.mono (by simp))
  obtain ⟨z0, z1, z2, z3, z4⟩ := boxed_cells hm1
  have hs1 := hm1.lt
  clear hb1
  go_wp2_with fail
  refine (r_form 5 (by omega) _).mono ?_
  rintro e w2 ⟨rfl, hb2⟩
  have hm2 := hm1.below hb2 hs1
  have hbw2 := hbw1.trans (hb2.mono (by omega))
  clear z0 z1 z2 z3 z4
  obtain ⟨z0, z1, z2, z3, z4⟩ := boxed_cells hm2
  have hs2 := hm2.lt
  clear hb2 hm1 hbw1
  go_wp2_with fail
  refine (r_name 5 (by omega) _).mono ?_
  rintro e w3 ⟨rfl, hb3⟩
  have hm3 := hm2.below hb3 hs2
  have hbw3 := hbw2.trans (hb3.mono (by omega))
  clear z0 z1 z2 z3 z4
  obtain ⟨z0, z1, z2, z3, z4⟩ := boxed_cells hm3
  have hs3 := hm3.lt
  clear hb3 hm2 hbw2
  go_wp2_with (first | (go_at_call 45; (with_reducible refine (H114.out _).mono ?_); rintro e w9 ⟨rfl, rfl⟩) | (go_at_call 45; (with_reducible refine (H115.out _).mono ?_); rintro e w9 ⟨rfl, rfl⟩) | (go_at_call 45; (with_reducible refine (H116.out _).mono ?_); rintro e w9 ⟨rfl, rfl⟩) | (go_at_call 45; (with_reducible refine (H105.out _).mono ?_); rintro e w9 ⟨rfl, rfl⟩) | (go_at_call 45; (with_reducible refine (H106.out _).mono ?_); rintro e w9 ⟨rfl, rfl⟩))
  refine (a_itoa a Ba.out.1 Ba.out.2 _ (h.below hbw3)).mono ?_
  rintro e w4 ⟨rfl, hb4⟩
  have hm4 := hm3.below hb4 hs3
  have hbw4 := hbw3.trans (hb4.mono (by omega))
  clear z0 z1 z2 z3 z4
  obtain ⟨z0, z1, z2, z3, z4⟩ := boxed_cells hm4
  have hs4 := hm4.lt
  clear hb4 hm3 hbw3
  go_wp2_with (first | (go_at_call 45; (with_reducible refine (H114.out _).mono ?_); rintro e w9 ⟨rfl, rfl⟩) | (go_at_call 45; (with_reducible refine (H115.out _).mono ?_); rintro e w9 ⟨rfl, rfl⟩) | (go_at_call 45; (with_reducible refine (H116.out _).mono ?_); rintro e w9 ⟨rfl, rfl⟩) | (go_at_call 45; (with_reducible refine (H105.out _).mono ?_); rintro e w9 ⟨rfl, rfl⟩) | (go_at_call 45; (with_reducible refine (H106.out _).mono ?_); rintro e w9 ⟨rfl, rfl⟩))
  refine (a_itoa i Bi.out.1 Bi.out.2 _ (h.below hbw4)).mono ?_
  rintro e w5 ⟨rfl, hb5⟩
  have hm5 := hm4.below hb5 hs4
  have hbw5 := hbw4.trans (hb5.mono (by omega))
  clear z0 z1 z2 z3 z4
  obtain ⟨z0, z1, z2, z3, z4⟩ := boxed_cells hm5
  have hs5 := hm5.lt
  clear hb5 hm4 hbw4
  go_wp2_with (first | (go_at_call 45; (with_reducible refine (H114.out _).mono ?_); rintro e w9 ⟨rfl, rfl⟩) | (go_at_call 45; (with_reducible refine (H115.out _).mono ?_); rintro e w9 ⟨rfl, rfl⟩) | (go_at_call 45; (with_reducible refine (H116.out _).mono ?_); rintro e w9 ⟨rfl, rfl⟩) | (go_at_call 45; (with_reducible refine (H105.out _).mono ?_); rintro e w9 ⟨rfl, rfl⟩) | (go_at_call 45; (with_reducible refine (H106.out _).mono ?_); rintro e w9 ⟨rfl, rfl⟩))
  go_ret2
  refine ⟨?_, hbw5⟩
  rw [HT.out]
  exact congrArg (fun s => Ending.returned (.tuple #[.string s, .int .i64 0])) (by
    apply ByteArray.ext
    apply Array.toList_inj.1
    simp [List.append_assoc])
theorem r_format_6 (a b c i : Int) (ha : InInt a) (hb : InInt b) (hc : InInt c) (hi : InInt i) (hv : chk 6 a b c i = 0) (w : World) (h : Env w) :
    Calls Tryz.prog 42 #[ins 6 a b c i] w fun e w' => e = .returned (.tuple #[.string (joinB (wordsV 6 a b c i)), .int .i64 0]) ∧ Below w.heap.size w w' := by
  show Calls _ _ #[.agg _] _ _
  have HV := Lib.hid hv
  have HI := hi
  have H114 := Lib.hid (fun w => r_hasF 6 114 114 rfl true rfl w)
  have H115 := Lib.hid (fun w => r_hasF 6 115 115 rfl false rfl w)
  have H116 := Lib.hid (fun w => r_hasF 6 116 116 rfl false rfl w)
  have H105 := Lib.hid (fun w => r_hasF 6 105 105 rfl false rfl w)
  have H106 := Lib.hid (fun w => r_hasF 6 106 106 rfl true rfl w)
  have Ba := Lib.hid ha
  have Bi := Lib.hid hi
  have hnm : (opm 6).size ≤ 7 := opm_size 6 (by omega)
  have hla := Lib.itoa_length_le a ha.1 ha.2
  have hli := Lib.itoa_length_le i hi.1 hi.2
  have HT := Lib.hid (show joinB (wordsV 6 a b c i) = ⟨((opm 6).data.toList ++ (32 :: 114 :: Lib.itoa a) ++ (32 :: Lib.itoa i)).toArray⟩ by
    have e : wordsV 6 a b c i = (opm 6) :: [operB 97 a, operB 110 i] := rfl
    rw [e, join_flat]
    simp only [List.flatMap_cons, List.flatMap_nil, List.append_nil, text_reg 97 (by decide), text_num, List.append_assoc])
  clear hv ha hb hc hi
  go_enter Tryz.func42, Tryz.ntmps42
  go_wp2_with fail
  refine (r_check_v HI HV.out _).mono ?_
  rintro e w1 ⟨rfl, hb1⟩
  have hm1 : Mem w1 w.heap.size 40 (boxed 6 a b c i) := (Mem.new w 40 (boxed 6 a b c i)).below hb1 (by simp)
  have hbw1 := (below_new w (.cells (boxed 6 a b c i) 40)).trans (hb1.mono (by simp))
  obtain ⟨z0, z1, z2, z3, z4⟩ := boxed_cells hm1
  have hs1 := hm1.lt
  clear hb1
  go_wp2_with fail
  refine (r_form 6 (by omega) _).mono ?_
  rintro e w2 ⟨rfl, hb2⟩
  have hm2 := hm1.below hb2 hs1
  have hbw2 := hbw1.trans (hb2.mono (by omega))
  clear z0 z1 z2 z3 z4
  obtain ⟨z0, z1, z2, z3, z4⟩ := boxed_cells hm2
  have hs2 := hm2.lt
  clear hb2 hm1 hbw1
  go_wp2_with fail
  refine (r_name 6 (by omega) _).mono ?_
  rintro e w3 ⟨rfl, hb3⟩
  have hm3 := hm2.below hb3 hs2
  have hbw3 := hbw2.trans (hb3.mono (by omega))
  clear z0 z1 z2 z3 z4
  obtain ⟨z0, z1, z2, z3, z4⟩ := boxed_cells hm3
  have hs3 := hm3.lt
  clear hb3 hm2 hbw2
  go_wp2_with (first | (go_at_call 45; (with_reducible refine (H114.out _).mono ?_); rintro e w9 ⟨rfl, rfl⟩) | (go_at_call 45; (with_reducible refine (H115.out _).mono ?_); rintro e w9 ⟨rfl, rfl⟩) | (go_at_call 45; (with_reducible refine (H116.out _).mono ?_); rintro e w9 ⟨rfl, rfl⟩) | (go_at_call 45; (with_reducible refine (H105.out _).mono ?_); rintro e w9 ⟨rfl, rfl⟩) | (go_at_call 45; (with_reducible refine (H106.out _).mono ?_); rintro e w9 ⟨rfl, rfl⟩))
  refine (a_itoa a Ba.out.1 Ba.out.2 _ (h.below hbw3)).mono ?_
  rintro e w4 ⟨rfl, hb4⟩
  have hm4 := hm3.below hb4 hs3
  have hbw4 := hbw3.trans (hb4.mono (by omega))
  clear z0 z1 z2 z3 z4
  obtain ⟨z0, z1, z2, z3, z4⟩ := boxed_cells hm4
  have hs4 := hm4.lt
  clear hb4 hm3 hbw3
  go_wp2_with (first | (go_at_call 45; (with_reducible refine (H114.out _).mono ?_); rintro e w9 ⟨rfl, rfl⟩) | (go_at_call 45; (with_reducible refine (H115.out _).mono ?_); rintro e w9 ⟨rfl, rfl⟩) | (go_at_call 45; (with_reducible refine (H116.out _).mono ?_); rintro e w9 ⟨rfl, rfl⟩) | (go_at_call 45; (with_reducible refine (H105.out _).mono ?_); rintro e w9 ⟨rfl, rfl⟩) | (go_at_call 45; (with_reducible refine (H106.out _).mono ?_); rintro e w9 ⟨rfl, rfl⟩))
  refine (a_itoa i Bi.out.1 Bi.out.2 _ (h.below hbw4)).mono ?_
  rintro e w5 ⟨rfl, hb5⟩
  have hm5 := hm4.below hb5 hs4
  have hbw5 := hbw4.trans (hb5.mono (by omega))
  clear z0 z1 z2 z3 z4
  obtain ⟨z0, z1, z2, z3, z4⟩ := boxed_cells hm5
  have hs5 := hm5.lt
  clear hb5 hm4 hbw4
  go_wp2_with (first | (go_at_call 45; (with_reducible refine (H114.out _).mono ?_); rintro e w9 ⟨rfl, rfl⟩) | (go_at_call 45; (with_reducible refine (H115.out _).mono ?_); rintro e w9 ⟨rfl, rfl⟩) | (go_at_call 45; (with_reducible refine (H116.out _).mono ?_); rintro e w9 ⟨rfl, rfl⟩) | (go_at_call 45; (with_reducible refine (H105.out _).mono ?_); rintro e w9 ⟨rfl, rfl⟩) | (go_at_call 45; (with_reducible refine (H106.out _).mono ?_); rintro e w9 ⟨rfl, rfl⟩))
  go_ret2
  refine ⟨?_, hbw5⟩
  rw [HT.out]
  exact congrArg (fun s => Ending.returned (.tuple #[.string s, .int .i64 0])) (by
    apply ByteArray.ext
    apply Array.toList_inj.1
    simp [List.append_assoc])
theorem r_format_7 (a b c i : Int) (ha : InInt a) (hb : InInt b) (hc : InInt c) (hi : InInt i) (hv : chk 7 a b c i = 0) (w : World) (h : Env w) :
    Calls Tryz.prog 42 #[ins 7 a b c i] w fun e w' => e = .returned (.tuple #[.string (joinB (wordsV 7 a b c i)), .int .i64 0]) ∧ Below w.heap.size w w' := by
  show Calls _ _ #[.agg _] _ _
  have HV := Lib.hid hv
  have HI := hi
  have H114 := Lib.hid (fun w => r_hasF 7 114 114 rfl false rfl w)
  have H115 := Lib.hid (fun w => r_hasF 7 115 115 rfl false rfl w)
  have H116 := Lib.hid (fun w => r_hasF 7 116 116 rfl false rfl w)
  have H105 := Lib.hid (fun w => r_hasF 7 105 105 rfl false rfl w)
  have H106 := Lib.hid (fun w => r_hasF 7 106 106 rfl false rfl w)
  have H97 := Lib.hid (fun w => r_hasF 7 97 97 rfl true rfl w)
  have Bi := Lib.hid hi
  have hnm : (opm 7).size ≤ 7 := opm_size 7 (by omega)
  have hli := Lib.itoa_length_le i hi.1 hi.2
  have HT := Lib.hid (show joinB (wordsV 7 a b c i) = ⟨((opm 7).data.toList ++ (32 :: Lib.itoa i)).toArray⟩ by
    have e : wordsV 7 a b c i = (opm 7) :: [operB 110 i] := rfl
    rw [e, join_flat]
    simp only [List.flatMap_cons, List.flatMap_nil, List.append_nil, text_num])
  clear hv ha hb hc hi
  go_enter Tryz.func42, Tryz.ntmps42
  go_wp2_with fail
  refine (r_check_v HI HV.out _).mono ?_
  rintro e w1 ⟨rfl, hb1⟩
  have hm1 : Mem w1 w.heap.size 40 (boxed 7 a b c i) := (Mem.new w 40 (boxed 7 a b c i)).below hb1 (by simp)
  have hbw1 := (below_new w (.cells (boxed 7 a b c i) 40)).trans (hb1.mono (by simp))
  obtain ⟨z0, z1, z2, z3, z4⟩ := boxed_cells hm1
  have hs1 := hm1.lt
  clear hb1
  go_wp2_with fail
  refine (r_form 7 (by omega) _).mono ?_
  rintro e w2 ⟨rfl, hb2⟩
  have hm2 := hm1.below hb2 hs1
  have hbw2 := hbw1.trans (hb2.mono (by omega))
  clear z0 z1 z2 z3 z4
  obtain ⟨z0, z1, z2, z3, z4⟩ := boxed_cells hm2
  have hs2 := hm2.lt
  clear hb2 hm1 hbw1
  go_wp2_with fail
  refine (r_name 7 (by omega) _).mono ?_
  rintro e w3 ⟨rfl, hb3⟩
  have hm3 := hm2.below hb3 hs2
  have hbw3 := hbw2.trans (hb3.mono (by omega))
  clear z0 z1 z2 z3 z4
  obtain ⟨z0, z1, z2, z3, z4⟩ := boxed_cells hm3
  have hs3 := hm3.lt
  clear hb3 hm2 hbw2
  go_wp2_with (first | (go_at_call 45; (with_reducible refine (H114.out _).mono ?_); rintro e w9 ⟨rfl, rfl⟩) | (go_at_call 45; (with_reducible refine (H115.out _).mono ?_); rintro e w9 ⟨rfl, rfl⟩) | (go_at_call 45; (with_reducible refine (H116.out _).mono ?_); rintro e w9 ⟨rfl, rfl⟩) | (go_at_call 45; (with_reducible refine (H105.out _).mono ?_); rintro e w9 ⟨rfl, rfl⟩) | (go_at_call 45; (with_reducible refine (H106.out _).mono ?_); rintro e w9 ⟨rfl, rfl⟩) | (go_at_call 45; (with_reducible refine (H97.out _).mono ?_); rintro e w9 ⟨rfl, rfl⟩))
  refine (a_itoa i Bi.out.1 Bi.out.2 _ (h.below hbw3)).mono ?_
  rintro e w4 ⟨rfl, hb4⟩
  have hm4 := hm3.below hb4 hs3
  have hbw4 := hbw3.trans (hb4.mono (by omega))
  clear z0 z1 z2 z3 z4
  obtain ⟨z0, z1, z2, z3, z4⟩ := boxed_cells hm4
  have hs4 := hm4.lt
  clear hb4 hm3 hbw3
  go_wp2_with (first | (go_at_call 45; (with_reducible refine (H114.out _).mono ?_); rintro e w9 ⟨rfl, rfl⟩) | (go_at_call 45; (with_reducible refine (H115.out _).mono ?_); rintro e w9 ⟨rfl, rfl⟩) | (go_at_call 45; (with_reducible refine (H116.out _).mono ?_); rintro e w9 ⟨rfl, rfl⟩) | (go_at_call 45; (with_reducible refine (H105.out _).mono ?_); rintro e w9 ⟨rfl, rfl⟩) | (go_at_call 45; (with_reducible refine (H106.out _).mono ?_); rintro e w9 ⟨rfl, rfl⟩) | (go_at_call 45; (with_reducible refine (H97.out _).mono ?_); rintro e w9 ⟨rfl, rfl⟩))
  go_ret2
  refine ⟨?_, hbw4⟩
  rw [HT.out]
  exact congrArg (fun s => Ending.returned (.tuple #[.string s, .int .i64 0])) (by
    apply ByteArray.ext
    apply Array.toList_inj.1
    simp)
theorem r_format_8 (a b c i : Int) (ha : InInt a) (hb : InInt b) (hc : InInt c) (hi : InInt i) (hv : chk 8 a b c i = 0) (w : World) (h : Env w) :
    Calls Tryz.prog 42 #[ins 8 a b c i] w fun e w' => e = .returned (.tuple #[.string (joinB (wordsV 8 a b c i)), .int .i64 0]) ∧ Below w.heap.size w w' := by
  show Calls _ _ #[.agg _] _ _
  have HV := Lib.hid hv
  have HI := hi
  have H114 := Lib.hid (fun w => r_hasF 8 114 114 rfl false rfl w)
  have H115 := Lib.hid (fun w => r_hasF 8 115 115 rfl false rfl w)
  have H116 := Lib.hid (fun w => r_hasF 8 116 116 rfl false rfl w)
  have H105 := Lib.hid (fun w => r_hasF 8 105 105 rfl false rfl w)
  have H106 := Lib.hid (fun w => r_hasF 8 106 106 rfl false rfl w)
  have H97 := Lib.hid (fun w => r_hasF 8 97 97 rfl false rfl w)
  have H99 := Lib.hid (fun w => r_hasF 8 99 99 rfl false rfl w)
  have hnm : (opm 8).size ≤ 7 := opm_size 8 (by omega)
  have HT := Lib.hid (show joinB (wordsV 8 a b c i) = ⟨((opm 8).data.toList).toArray⟩ by
    have e : wordsV 8 a b c i = (opm 8) :: [] := rfl
    rw [e, join_flat]
    simp only [List.flatMap_nil, List.append_nil])
  clear hv ha hb hc hi
  go_enter Tryz.func42, Tryz.ntmps42
  go_wp2_with fail
  refine (r_check_v HI HV.out _).mono ?_
  rintro e w1 ⟨rfl, hb1⟩
  have hm1 : Mem w1 w.heap.size 40 (boxed 8 a b c i) := (Mem.new w 40 (boxed 8 a b c i)).below hb1 (by simp)
  have hbw1 := (below_new w (.cells (boxed 8 a b c i) 40)).trans (hb1.mono (by simp))
  obtain ⟨z0, z1, z2, z3, z4⟩ := boxed_cells hm1
  have hs1 := hm1.lt
  clear hb1
  go_wp2_with fail
  refine (r_form 8 (by omega) _).mono ?_
  rintro e w2 ⟨rfl, hb2⟩
  have hm2 := hm1.below hb2 hs1
  have hbw2 := hbw1.trans (hb2.mono (by omega))
  clear z0 z1 z2 z3 z4
  obtain ⟨z0, z1, z2, z3, z4⟩ := boxed_cells hm2
  have hs2 := hm2.lt
  clear hb2 hm1 hbw1
  go_wp2_with fail
  refine (r_name 8 (by omega) _).mono ?_
  rintro e w3 ⟨rfl, hb3⟩
  have hm3 := hm2.below hb3 hs2
  have hbw3 := hbw2.trans (hb3.mono (by omega))
  clear z0 z1 z2 z3 z4
  obtain ⟨z0, z1, z2, z3, z4⟩ := boxed_cells hm3
  have hs3 := hm3.lt
  clear hb3 hm2 hbw2
  go_wp2_with (first | (go_at_call 45; (with_reducible refine (H114.out _).mono ?_); rintro e w9 ⟨rfl, rfl⟩) | (go_at_call 45; (with_reducible refine (H115.out _).mono ?_); rintro e w9 ⟨rfl, rfl⟩) | (go_at_call 45; (with_reducible refine (H116.out _).mono ?_); rintro e w9 ⟨rfl, rfl⟩) | (go_at_call 45; (with_reducible refine (H105.out _).mono ?_); rintro e w9 ⟨rfl, rfl⟩) | (go_at_call 45; (with_reducible refine (H106.out _).mono ?_); rintro e w9 ⟨rfl, rfl⟩) | (go_at_call 45; (with_reducible refine (H97.out _).mono ?_); rintro e w9 ⟨rfl, rfl⟩) | (go_at_call 45; (with_reducible refine (H99.out _).mono ?_); rintro e w9 ⟨rfl, rfl⟩))
  go_ret2
  refine ⟨?_, hbw3⟩
  rw [HT.out]
  exact congrArg (fun s => Ending.returned (.tuple #[.string s, .int .i64 0])) (ba_eq _)
theorem r_format_9 (a b c i : Int) (ha : InInt a) (hb : InInt b) (hc : InInt c) (hi : InInt i) (hv : chk 9 a b c i = 0) (w : World) (h : Env w) :
    Calls Tryz.prog 42 #[ins 9 a b c i] w fun e w' => e = .returned (.tuple #[.string (joinB (wordsV 9 a b c i)), .int .i64 0]) ∧ Below w.heap.size w w' := by
  show Calls _ _ #[.agg _] _ _
  have HV := Lib.hid hv
  have HI := hi
  have H114 := Lib.hid (fun w => r_hasF 9 114 114 rfl false rfl w)
  have H115 := Lib.hid (fun w => r_hasF 9 115 115 rfl false rfl w)
  have H116 := Lib.hid (fun w => r_hasF 9 116 116 rfl false rfl w)
  have H105 := Lib.hid (fun w => r_hasF 9 105 105 rfl false rfl w)
  have H106 := Lib.hid (fun w => r_hasF 9 106 106 rfl false rfl w)
  have H97 := Lib.hid (fun w => r_hasF 9 97 97 rfl false rfl w)
  have H99 := Lib.hid (fun w => r_hasF 9 99 99 rfl false rfl w)
  have hnm : (opm 9).size ≤ 7 := opm_size 9 (by omega)
  have HT := Lib.hid (show joinB (wordsV 9 a b c i) = ⟨((opm 9).data.toList).toArray⟩ by
    have e : wordsV 9 a b c i = (opm 9) :: [] := rfl
    rw [e, join_flat]
    simp only [List.flatMap_nil, List.append_nil])
  clear hv ha hb hc hi
  go_enter Tryz.func42, Tryz.ntmps42
  go_wp2_with fail
  refine (r_check_v HI HV.out _).mono ?_
  rintro e w1 ⟨rfl, hb1⟩
  have hm1 : Mem w1 w.heap.size 40 (boxed 9 a b c i) := (Mem.new w 40 (boxed 9 a b c i)).below hb1 (by simp)
  have hbw1 := (below_new w (.cells (boxed 9 a b c i) 40)).trans (hb1.mono (by simp))
  obtain ⟨z0, z1, z2, z3, z4⟩ := boxed_cells hm1
  have hs1 := hm1.lt
  clear hb1
  go_wp2_with fail
  refine (r_form 9 (by omega) _).mono ?_
  rintro e w2 ⟨rfl, hb2⟩
  have hm2 := hm1.below hb2 hs1
  have hbw2 := hbw1.trans (hb2.mono (by omega))
  clear z0 z1 z2 z3 z4
  obtain ⟨z0, z1, z2, z3, z4⟩ := boxed_cells hm2
  have hs2 := hm2.lt
  clear hb2 hm1 hbw1
  go_wp2_with fail
  refine (r_name 9 (by omega) _).mono ?_
  rintro e w3 ⟨rfl, hb3⟩
  have hm3 := hm2.below hb3 hs2
  have hbw3 := hbw2.trans (hb3.mono (by omega))
  clear z0 z1 z2 z3 z4
  obtain ⟨z0, z1, z2, z3, z4⟩ := boxed_cells hm3
  have hs3 := hm3.lt
  clear hb3 hm2 hbw2
  go_wp2_with (first | (go_at_call 45; (with_reducible refine (H114.out _).mono ?_); rintro e w9 ⟨rfl, rfl⟩) | (go_at_call 45; (with_reducible refine (H115.out _).mono ?_); rintro e w9 ⟨rfl, rfl⟩) | (go_at_call 45; (with_reducible refine (H116.out _).mono ?_); rintro e w9 ⟨rfl, rfl⟩) | (go_at_call 45; (with_reducible refine (H105.out _).mono ?_); rintro e w9 ⟨rfl, rfl⟩) | (go_at_call 45; (with_reducible refine (H106.out _).mono ?_); rintro e w9 ⟨rfl, rfl⟩) | (go_at_call 45; (with_reducible refine (H97.out _).mono ?_); rintro e w9 ⟨rfl, rfl⟩) | (go_at_call 45; (with_reducible refine (H99.out _).mono ?_); rintro e w9 ⟨rfl, rfl⟩))
  go_ret2
  refine ⟨?_, hbw3⟩
  rw [HT.out]
  exact congrArg (fun s => Ending.returned (.tuple #[.string s, .int .i64 0])) (ba_eq _)
theorem r_format_10 (a b c i : Int) (ha : InInt a) (hb : InInt b) (hc : InInt c) (hi : InInt i) (hv : chk 10 a b c i = 0) (w : World) (h : Env w) :
    Calls Tryz.prog 42 #[ins 10 a b c i] w fun e w' => e = .returned (.tuple #[.string (joinB (wordsV 10 a b c i)), .int .i64 0]) ∧ Below w.heap.size w w' := by
  show Calls _ _ #[.agg _] _ _
  have HV := Lib.hid hv
  have HI := hi
  have H114 := Lib.hid (fun w => r_hasF 10 114 114 rfl true rfl w)
  have H115 := Lib.hid (fun w => r_hasF 10 115 115 rfl true rfl w)
  have H116 := Lib.hid (fun w => r_hasF 10 116 116 rfl false rfl w)
  have H105 := Lib.hid (fun w => r_hasF 10 105 105 rfl true rfl w)
  have Ba := Lib.hid ha
  have Bb := Lib.hid hb
  have Bi := Lib.hid hi
  have hnm : (opm 10).size ≤ 7 := opm_size 10 (by omega)
  have hla := Lib.itoa_length_le a ha.1 ha.2
  have hlb := Lib.itoa_length_le b hb.1 hb.2
  have hli := Lib.itoa_length_le i hi.1 hi.2
  have HT := Lib.hid (show joinB (wordsV 10 a b c i) = ⟨((opm 10).data.toList ++ (32 :: 114 :: Lib.itoa a) ++ (32 :: 114 :: Lib.itoa b) ++ (32 :: Lib.itoa i)).toArray⟩ by
    have e : wordsV 10 a b c i = (opm 10) :: [operB 97 a, operB 98 b, operB 110 i] := rfl
    rw [e, join_flat]
    simp only [List.flatMap_cons, List.flatMap_nil, List.append_nil, text_reg 97 (by decide), text_reg 98 (by decide), text_num, List.append_assoc])
  clear hv ha hb hc hi
  go_enter Tryz.func42, Tryz.ntmps42
  go_wp2_with fail
  refine (r_check_v HI HV.out _).mono ?_
  rintro e w1 ⟨rfl, hb1⟩
  have hm1 : Mem w1 w.heap.size 40 (boxed 10 a b c i) := (Mem.new w 40 (boxed 10 a b c i)).below hb1 (by simp)
  have hbw1 := (below_new w (.cells (boxed 10 a b c i) 40)).trans (hb1.mono (by simp))
  obtain ⟨z0, z1, z2, z3, z4⟩ := boxed_cells hm1
  have hs1 := hm1.lt
  clear hb1
  go_wp2_with fail
  refine (r_form 10 (by omega) _).mono ?_
  rintro e w2 ⟨rfl, hb2⟩
  have hm2 := hm1.below hb2 hs1
  have hbw2 := hbw1.trans (hb2.mono (by omega))
  clear z0 z1 z2 z3 z4
  obtain ⟨z0, z1, z2, z3, z4⟩ := boxed_cells hm2
  have hs2 := hm2.lt
  clear hb2 hm1 hbw1
  go_wp2_with fail
  refine (r_name 10 (by omega) _).mono ?_
  rintro e w3 ⟨rfl, hb3⟩
  have hm3 := hm2.below hb3 hs2
  have hbw3 := hbw2.trans (hb3.mono (by omega))
  clear z0 z1 z2 z3 z4
  obtain ⟨z0, z1, z2, z3, z4⟩ := boxed_cells hm3
  have hs3 := hm3.lt
  clear hb3 hm2 hbw2
  go_wp2_with (first | (go_at_call 45; (with_reducible refine (H114.out _).mono ?_); rintro e w9 ⟨rfl, rfl⟩) | (go_at_call 45; (with_reducible refine (H115.out _).mono ?_); rintro e w9 ⟨rfl, rfl⟩) | (go_at_call 45; (with_reducible refine (H116.out _).mono ?_); rintro e w9 ⟨rfl, rfl⟩) | (go_at_call 45; (with_reducible refine (H105.out _).mono ?_); rintro e w9 ⟨rfl, rfl⟩))
  refine (a_itoa a Ba.out.1 Ba.out.2 _ (h.below hbw3)).mono ?_
  rintro e w4 ⟨rfl, hb4⟩
  have hm4 := hm3.below hb4 hs3
  have hbw4 := hbw3.trans (hb4.mono (by omega))
  clear z0 z1 z2 z3 z4
  obtain ⟨z0, z1, z2, z3, z4⟩ := boxed_cells hm4
  have hs4 := hm4.lt
  clear hb4 hm3 hbw3
  go_wp2_with (first | (go_at_call 45; (with_reducible refine (H114.out _).mono ?_); rintro e w9 ⟨rfl, rfl⟩) | (go_at_call 45; (with_reducible refine (H115.out _).mono ?_); rintro e w9 ⟨rfl, rfl⟩) | (go_at_call 45; (with_reducible refine (H116.out _).mono ?_); rintro e w9 ⟨rfl, rfl⟩) | (go_at_call 45; (with_reducible refine (H105.out _).mono ?_); rintro e w9 ⟨rfl, rfl⟩))
  refine (a_itoa b Bb.out.1 Bb.out.2 _ (h.below hbw4)).mono ?_
  rintro e w5 ⟨rfl, hb5⟩
  have hm5 := hm4.below hb5 hs4
  have hbw5 := hbw4.trans (hb5.mono (by omega))
  clear z0 z1 z2 z3 z4
  obtain ⟨z0, z1, z2, z3, z4⟩ := boxed_cells hm5
  have hs5 := hm5.lt
  clear hb5 hm4 hbw4
  go_wp2_with (first | (go_at_call 45; (with_reducible refine (H114.out _).mono ?_); rintro e w9 ⟨rfl, rfl⟩) | (go_at_call 45; (with_reducible refine (H115.out _).mono ?_); rintro e w9 ⟨rfl, rfl⟩) | (go_at_call 45; (with_reducible refine (H116.out _).mono ?_); rintro e w9 ⟨rfl, rfl⟩) | (go_at_call 45; (with_reducible refine (H105.out _).mono ?_); rintro e w9 ⟨rfl, rfl⟩))
  refine (a_itoa i Bi.out.1 Bi.out.2 _ (h.below hbw5)).mono ?_
  rintro e w6 ⟨rfl, hb6⟩
  have hm6 := hm5.below hb6 hs5
  have hbw6 := hbw5.trans (hb6.mono (by omega))
  clear z0 z1 z2 z3 z4
  obtain ⟨z0, z1, z2, z3, z4⟩ := boxed_cells hm6
  have hs6 := hm6.lt
  clear hb6 hm5 hbw5
  go_wp2_with (first | (go_at_call 45; (with_reducible refine (H114.out _).mono ?_); rintro e w9 ⟨rfl, rfl⟩) | (go_at_call 45; (with_reducible refine (H115.out _).mono ?_); rintro e w9 ⟨rfl, rfl⟩) | (go_at_call 45; (with_reducible refine (H116.out _).mono ?_); rintro e w9 ⟨rfl, rfl⟩) | (go_at_call 45; (with_reducible refine (H105.out _).mono ?_); rintro e w9 ⟨rfl, rfl⟩))
  go_ret2
  refine ⟨?_, hbw6⟩
  rw [HT.out]
  exact congrArg (fun s => Ending.returned (.tuple #[.string s, .int .i64 0])) (by
    apply ByteArray.ext
    apply Array.toList_inj.1
    simp [List.append_assoc])
theorem r_format_11 (a b c i : Int) (ha : InInt a) (hb : InInt b) (hc : InInt c) (hi : InInt i) (hv : chk 11 a b c i = 0) (w : World) (h : Env w) :
    Calls Tryz.prog 42 #[ins 11 a b c i] w fun e w' => e = .returned (.tuple #[.string (joinB (wordsV 11 a b c i)), .int .i64 0]) ∧ Below w.heap.size w w' := by
  show Calls _ _ #[.agg _] _ _
  have HV := Lib.hid hv
  have HI := hi
  have H114 := Lib.hid (fun w => r_hasF 11 114 114 rfl true rfl w)
  have H115 := Lib.hid (fun w => r_hasF 11 115 115 rfl true rfl w)
  have H116 := Lib.hid (fun w => r_hasF 11 116 116 rfl false rfl w)
  have H105 := Lib.hid (fun w => r_hasF 11 105 105 rfl true rfl w)
  have Ba := Lib.hid ha
  have Bb := Lib.hid hb
  have Bi := Lib.hid hi
  have hnm : (opm 11).size ≤ 7 := opm_size 11 (by omega)
  have hla := Lib.itoa_length_le a ha.1 ha.2
  have hlb := Lib.itoa_length_le b hb.1 hb.2
  have hli := Lib.itoa_length_le i hi.1 hi.2
  have HT := Lib.hid (show joinB (wordsV 11 a b c i) = ⟨((opm 11).data.toList ++ (32 :: 114 :: Lib.itoa a) ++ (32 :: 114 :: Lib.itoa b) ++ (32 :: Lib.itoa i)).toArray⟩ by
    have e : wordsV 11 a b c i = (opm 11) :: [operB 97 a, operB 98 b, operB 110 i] := rfl
    rw [e, join_flat]
    simp only [List.flatMap_cons, List.flatMap_nil, List.append_nil, text_reg 97 (by decide), text_reg 98 (by decide), text_num, List.append_assoc])
  clear hv ha hb hc hi
  go_enter Tryz.func42, Tryz.ntmps42
  go_wp2_with fail
  refine (r_check_v HI HV.out _).mono ?_
  rintro e w1 ⟨rfl, hb1⟩
  have hm1 : Mem w1 w.heap.size 40 (boxed 11 a b c i) := (Mem.new w 40 (boxed 11 a b c i)).below hb1 (by simp)
  have hbw1 := (below_new w (.cells (boxed 11 a b c i) 40)).trans (hb1.mono (by simp))
  obtain ⟨z0, z1, z2, z3, z4⟩ := boxed_cells hm1
  have hs1 := hm1.lt
  clear hb1
  go_wp2_with fail
  refine (r_form 11 (by omega) _).mono ?_
  rintro e w2 ⟨rfl, hb2⟩
  have hm2 := hm1.below hb2 hs1
  have hbw2 := hbw1.trans (hb2.mono (by omega))
  clear z0 z1 z2 z3 z4
  obtain ⟨z0, z1, z2, z3, z4⟩ := boxed_cells hm2
  have hs2 := hm2.lt
  clear hb2 hm1 hbw1
  go_wp2_with fail
  refine (r_name 11 (by omega) _).mono ?_
  rintro e w3 ⟨rfl, hb3⟩
  have hm3 := hm2.below hb3 hs2
  have hbw3 := hbw2.trans (hb3.mono (by omega))
  clear z0 z1 z2 z3 z4
  obtain ⟨z0, z1, z2, z3, z4⟩ := boxed_cells hm3
  have hs3 := hm3.lt
  clear hb3 hm2 hbw2
  go_wp2_with (first | (go_at_call 45; (with_reducible refine (H114.out _).mono ?_); rintro e w9 ⟨rfl, rfl⟩) | (go_at_call 45; (with_reducible refine (H115.out _).mono ?_); rintro e w9 ⟨rfl, rfl⟩) | (go_at_call 45; (with_reducible refine (H116.out _).mono ?_); rintro e w9 ⟨rfl, rfl⟩) | (go_at_call 45; (with_reducible refine (H105.out _).mono ?_); rintro e w9 ⟨rfl, rfl⟩))
  refine (a_itoa a Ba.out.1 Ba.out.2 _ (h.below hbw3)).mono ?_
  rintro e w4 ⟨rfl, hb4⟩
  have hm4 := hm3.below hb4 hs3
  have hbw4 := hbw3.trans (hb4.mono (by omega))
  clear z0 z1 z2 z3 z4
  obtain ⟨z0, z1, z2, z3, z4⟩ := boxed_cells hm4
  have hs4 := hm4.lt
  clear hb4 hm3 hbw3
  go_wp2_with (first | (go_at_call 45; (with_reducible refine (H114.out _).mono ?_); rintro e w9 ⟨rfl, rfl⟩) | (go_at_call 45; (with_reducible refine (H115.out _).mono ?_); rintro e w9 ⟨rfl, rfl⟩) | (go_at_call 45; (with_reducible refine (H116.out _).mono ?_); rintro e w9 ⟨rfl, rfl⟩) | (go_at_call 45; (with_reducible refine (H105.out _).mono ?_); rintro e w9 ⟨rfl, rfl⟩))
  refine (a_itoa b Bb.out.1 Bb.out.2 _ (h.below hbw4)).mono ?_
  rintro e w5 ⟨rfl, hb5⟩
  have hm5 := hm4.below hb5 hs4
  have hbw5 := hbw4.trans (hb5.mono (by omega))
  clear z0 z1 z2 z3 z4
  obtain ⟨z0, z1, z2, z3, z4⟩ := boxed_cells hm5
  have hs5 := hm5.lt
  clear hb5 hm4 hbw4
  go_wp2_with (first | (go_at_call 45; (with_reducible refine (H114.out _).mono ?_); rintro e w9 ⟨rfl, rfl⟩) | (go_at_call 45; (with_reducible refine (H115.out _).mono ?_); rintro e w9 ⟨rfl, rfl⟩) | (go_at_call 45; (with_reducible refine (H116.out _).mono ?_); rintro e w9 ⟨rfl, rfl⟩) | (go_at_call 45; (with_reducible refine (H105.out _).mono ?_); rintro e w9 ⟨rfl, rfl⟩))
  refine (a_itoa i Bi.out.1 Bi.out.2 _ (h.below hbw5)).mono ?_
  rintro e w6 ⟨rfl, hb6⟩
  have hm6 := hm5.below hb6 hs5
  have hbw6 := hbw5.trans (hb6.mono (by omega))
  clear z0 z1 z2 z3 z4
  obtain ⟨z0, z1, z2, z3, z4⟩ := boxed_cells hm6
  have hs6 := hm6.lt
  clear hb6 hm5 hbw5
  go_wp2_with (first | (go_at_call 45; (with_reducible refine (H114.out _).mono ?_); rintro e w9 ⟨rfl, rfl⟩) | (go_at_call 45; (with_reducible refine (H115.out _).mono ?_); rintro e w9 ⟨rfl, rfl⟩) | (go_at_call 45; (with_reducible refine (H116.out _).mono ?_); rintro e w9 ⟨rfl, rfl⟩) | (go_at_call 45; (with_reducible refine (H105.out _).mono ?_); rintro e w9 ⟨rfl, rfl⟩))
  go_ret2
  refine ⟨?_, hbw6⟩
  rw [HT.out]
  exact congrArg (fun s => Ending.returned (.tuple #[.string s, .int .i64 0])) (by
    apply ByteArray.ext
    apply Array.toList_inj.1
    simp [List.append_assoc])
theorem r_format_12 (a b c i : Int) (ha : InInt a) (hb : InInt b) (hc : InInt c) (hi : InInt i) (hv : chk 12 a b c i = 0) (w : World) (h : Env w) :
    Calls Tryz.prog 42 #[ins 12 a b c i] w fun e w' => e = .returned (.tuple #[.string (joinB (wordsV 12 a b c i)), .int .i64 0]) ∧ Below w.heap.size w w' := by
  show Calls _ _ #[.agg _] _ _
  have HV := Lib.hid hv
  have HI := hi
  have H114 := Lib.hid (fun w => r_hasF 12 114 114 rfl true rfl w)
  have H115 := Lib.hid (fun w => r_hasF 12 115 115 rfl true rfl w)
  have H116 := Lib.hid (fun w => r_hasF 12 116 116 rfl false rfl w)
  have H105 := Lib.hid (fun w => r_hasF 12 105 105 rfl true rfl w)
  have Ba := Lib.hid ha
  have Bb := Lib.hid hb
  have Bi := Lib.hid hi
  have hnm : (opm 12).size ≤ 7 := opm_size 12 (by omega)
  have hla := Lib.itoa_length_le a ha.1 ha.2
  have hlb := Lib.itoa_length_le b hb.1 hb.2
  have hli := Lib.itoa_length_le i hi.1 hi.2
  have HT := Lib.hid (show joinB (wordsV 12 a b c i) = ⟨((opm 12).data.toList ++ (32 :: 114 :: Lib.itoa a) ++ (32 :: 114 :: Lib.itoa b) ++ (32 :: Lib.itoa i)).toArray⟩ by
    have e : wordsV 12 a b c i = (opm 12) :: [operB 97 a, operB 98 b, operB 110 i] := rfl
    rw [e, join_flat]
    simp only [List.flatMap_cons, List.flatMap_nil, List.append_nil, text_reg 97 (by decide), text_reg 98 (by decide), text_num, List.append_assoc])
  clear hv ha hb hc hi
  go_enter Tryz.func42, Tryz.ntmps42
  go_wp2_with fail
  refine (r_check_v HI HV.out _).mono ?_
  rintro e w1 ⟨rfl, hb1⟩
  have hm1 : Mem w1 w.heap.size 40 (boxed 12 a b c i) := (Mem.new w 40 (boxed 12 a b c i)).below hb1 (by simp)
  have hbw1 := (below_new w (.cells (boxed 12 a b c i) 40)).trans (hb1.mono (by simp))
  obtain ⟨z0, z1, z2, z3, z4⟩ := boxed_cells hm1
  have hs1 := hm1.lt
  clear hb1
  go_wp2_with fail
  refine (r_form 12 (by omega) _).mono ?_
  rintro e w2 ⟨rfl, hb2⟩
  have hm2 := hm1.below hb2 hs1
  have hbw2 := hbw1.trans (hb2.mono (by omega))
  clear z0 z1 z2 z3 z4
  obtain ⟨z0, z1, z2, z3, z4⟩ := boxed_cells hm2
  have hs2 := hm2.lt
  clear hb2 hm1 hbw1
  go_wp2_with fail
  refine (r_name 12 (by omega) _).mono ?_
  rintro e w3 ⟨rfl, hb3⟩
  have hm3 := hm2.below hb3 hs2
  have hbw3 := hbw2.trans (hb3.mono (by omega))
  clear z0 z1 z2 z3 z4
  obtain ⟨z0, z1, z2, z3, z4⟩ := boxed_cells hm3
  have hs3 := hm3.lt
  clear hb3 hm2 hbw2
  go_wp2_with (first | (go_at_call 45; (with_reducible refine (H114.out _).mono ?_); rintro e w9 ⟨rfl, rfl⟩) | (go_at_call 45; (with_reducible refine (H115.out _).mono ?_); rintro e w9 ⟨rfl, rfl⟩) | (go_at_call 45; (with_reducible refine (H116.out _).mono ?_); rintro e w9 ⟨rfl, rfl⟩) | (go_at_call 45; (with_reducible refine (H105.out _).mono ?_); rintro e w9 ⟨rfl, rfl⟩))
  refine (a_itoa a Ba.out.1 Ba.out.2 _ (h.below hbw3)).mono ?_
  rintro e w4 ⟨rfl, hb4⟩
  have hm4 := hm3.below hb4 hs3
  have hbw4 := hbw3.trans (hb4.mono (by omega))
  clear z0 z1 z2 z3 z4
  obtain ⟨z0, z1, z2, z3, z4⟩ := boxed_cells hm4
  have hs4 := hm4.lt
  clear hb4 hm3 hbw3
  go_wp2_with (first | (go_at_call 45; (with_reducible refine (H114.out _).mono ?_); rintro e w9 ⟨rfl, rfl⟩) | (go_at_call 45; (with_reducible refine (H115.out _).mono ?_); rintro e w9 ⟨rfl, rfl⟩) | (go_at_call 45; (with_reducible refine (H116.out _).mono ?_); rintro e w9 ⟨rfl, rfl⟩) | (go_at_call 45; (with_reducible refine (H105.out _).mono ?_); rintro e w9 ⟨rfl, rfl⟩))
  refine (a_itoa b Bb.out.1 Bb.out.2 _ (h.below hbw4)).mono ?_
  rintro e w5 ⟨rfl, hb5⟩
  have hm5 := hm4.below hb5 hs4
  have hbw5 := hbw4.trans (hb5.mono (by omega))
  clear z0 z1 z2 z3 z4
  obtain ⟨z0, z1, z2, z3, z4⟩ := boxed_cells hm5
  have hs5 := hm5.lt
  clear hb5 hm4 hbw4
  go_wp2_with (first | (go_at_call 45; (with_reducible refine (H114.out _).mono ?_); rintro e w9 ⟨rfl, rfl⟩) | (go_at_call 45; (with_reducible refine (H115.out _).mono ?_); rintro e w9 ⟨rfl, rfl⟩) | (go_at_call 45; (with_reducible refine (H116.out _).mono ?_); rintro e w9 ⟨rfl, rfl⟩) | (go_at_call 45; (with_reducible refine (H105.out _).mono ?_); rintro e w9 ⟨rfl, rfl⟩))
  refine (a_itoa i Bi.out.1 Bi.out.2 _ (h.below hbw5)).mono ?_
  rintro e w6 ⟨rfl, hb6⟩
  have hm6 := hm5.below hb6 hs5
  have hbw6 := hbw5.trans (hb6.mono (by omega))
  clear z0 z1 z2 z3 z4
  obtain ⟨z0, z1, z2, z3, z4⟩ := boxed_cells hm6
  have hs6 := hm6.lt
  clear hb6 hm5 hbw5
  go_wp2_with (first | (go_at_call 45; (with_reducible refine (H114.out _).mono ?_); rintro e w9 ⟨rfl, rfl⟩) | (go_at_call 45; (with_reducible refine (H115.out _).mono ?_); rintro e w9 ⟨rfl, rfl⟩) | (go_at_call 45; (with_reducible refine (H116.out _).mono ?_); rintro e w9 ⟨rfl, rfl⟩) | (go_at_call 45; (with_reducible refine (H105.out _).mono ?_); rintro e w9 ⟨rfl, rfl⟩))
  go_ret2
  refine ⟨?_, hbw6⟩
  rw [HT.out]
  exact congrArg (fun s => Ending.returned (.tuple #[.string s, .int .i64 0])) (by
    apply ByteArray.ext
    apply Array.toList_inj.1
    simp [List.append_assoc])
theorem r_format_13 (a b c i : Int) (ha : InInt a) (hb : InInt b) (hc : InInt c) (hi : InInt i) (hv : chk 13 a b c i = 0) (w : World) (h : Env w) :
    Calls Tryz.prog 42 #[ins 13 a b c i] w fun e w' => e = .returned (.tuple #[.string (joinB (wordsV 13 a b c i)), .int .i64 0]) ∧ Below w.heap.size w w' := by
  show Calls _ _ #[.agg _] _ _
  have HV := Lib.hid hv
  have HI := hi
  have H114 := Lib.hid (fun w => r_hasF 13 114 114 rfl true rfl w)
  have H115 := Lib.hid (fun w => r_hasF 13 115 115 rfl true rfl w)
  have H116 := Lib.hid (fun w => r_hasF 13 116 116 rfl false rfl w)
  have H105 := Lib.hid (fun w => r_hasF 13 105 105 rfl true rfl w)
  have Ba := Lib.hid ha
  have Bb := Lib.hid hb
  have Bi := Lib.hid hi
  have hnm : (opm 13).size ≤ 7 := opm_size 13 (by omega)
  have hla := Lib.itoa_length_le a ha.1 ha.2
  have hlb := Lib.itoa_length_le b hb.1 hb.2
  have hli := Lib.itoa_length_le i hi.1 hi.2
  have HT := Lib.hid (show joinB (wordsV 13 a b c i) = ⟨((opm 13).data.toList ++ (32 :: 114 :: Lib.itoa a) ++ (32 :: 114 :: Lib.itoa b) ++ (32 :: Lib.itoa i)).toArray⟩ by
    have e : wordsV 13 a b c i = (opm 13) :: [operB 97 a, operB 98 b, operB 110 i] := rfl
    rw [e, join_flat]
    simp only [List.flatMap_cons, List.flatMap_nil, List.append_nil, text_reg 97 (by decide), text_reg 98 (by decide), text_num, List.append_assoc])
  clear hv ha hb hc hi
  go_enter Tryz.func42, Tryz.ntmps42
  go_wp2_with fail
  refine (r_check_v HI HV.out _).mono ?_
  rintro e w1 ⟨rfl, hb1⟩
  have hm1 : Mem w1 w.heap.size 40 (boxed 13 a b c i) := (Mem.new w 40 (boxed 13 a b c i)).below hb1 (by simp)
  have hbw1 := (below_new w (.cells (boxed 13 a b c i) 40)).trans (hb1.mono (by simp))
  obtain ⟨z0, z1, z2, z3, z4⟩ := boxed_cells hm1
  have hs1 := hm1.lt
  clear hb1
  go_wp2_with fail
  refine (r_form 13 (by omega) _).mono ?_
  rintro e w2 ⟨rfl, hb2⟩
  have hm2 := hm1.below hb2 hs1
  have hbw2 := hbw1.trans (hb2.mono (by omega))
  clear z0 z1 z2 z3 z4
  obtain ⟨z0, z1, z2, z3, z4⟩ := boxed_cells hm2
  have hs2 := hm2.lt
  clear hb2 hm1 hbw1
  go_wp2_with fail
  refine (r_name 13 (by omega) _).mono ?_
  rintro e w3 ⟨rfl, hb3⟩
  have hm3 := hm2.below hb3 hs2
  have hbw3 := hbw2.trans (hb3.mono (by omega))
  clear z0 z1 z2 z3 z4
  obtain ⟨z0, z1, z2, z3, z4⟩ := boxed_cells hm3
  have hs3 := hm3.lt
  clear hb3 hm2 hbw2
  go_wp2_with (first | (go_at_call 45; (with_reducible refine (H114.out _).mono ?_); rintro e w9 ⟨rfl, rfl⟩) | (go_at_call 45; (with_reducible refine (H115.out _).mono ?_); rintro e w9 ⟨rfl, rfl⟩) | (go_at_call 45; (with_reducible refine (H116.out _).mono ?_); rintro e w9 ⟨rfl, rfl⟩) | (go_at_call 45; (with_reducible refine (H105.out _).mono ?_); rintro e w9 ⟨rfl, rfl⟩))
  refine (a_itoa a Ba.out.1 Ba.out.2 _ (h.below hbw3)).mono ?_
  rintro e w4 ⟨rfl, hb4⟩
  have hm4 := hm3.below hb4 hs3
  have hbw4 := hbw3.trans (hb4.mono (by omega))
  clear z0 z1 z2 z3 z4
  obtain ⟨z0, z1, z2, z3, z4⟩ := boxed_cells hm4
  have hs4 := hm4.lt
  clear hb4 hm3 hbw3
  go_wp2_with (first | (go_at_call 45; (with_reducible refine (H114.out _).mono ?_); rintro e w9 ⟨rfl, rfl⟩) | (go_at_call 45; (with_reducible refine (H115.out _).mono ?_); rintro e w9 ⟨rfl, rfl⟩) | (go_at_call 45; (with_reducible refine (H116.out _).mono ?_); rintro e w9 ⟨rfl, rfl⟩) | (go_at_call 45; (with_reducible refine (H105.out _).mono ?_); rintro e w9 ⟨rfl, rfl⟩))
  refine (a_itoa b Bb.out.1 Bb.out.2 _ (h.below hbw4)).mono ?_
  rintro e w5 ⟨rfl, hb5⟩
  have hm5 := hm4.below hb5 hs4
  have hbw5 := hbw4.trans (hb5.mono (by omega))
  clear z0 z1 z2 z3 z4
  obtain ⟨z0, z1, z2, z3, z4⟩ := boxed_cells hm5
  have hs5 := hm5.lt
  clear hb5 hm4 hbw4
  go_wp2_with (first | (go_at_call 45; (with_reducible refine (H114.out _).mono ?_); rintro e w9 ⟨rfl, rfl⟩) | (go_at_call 45; (with_reducible refine (H115.out _).mono ?_); rintro e w9 ⟨rfl, rfl⟩) | (go_at_call 45; (with_reducible refine (H116.out _).mono ?_); rintro e w9 ⟨rfl, rfl⟩) | (go_at_call 45; (with_reducible refine (H105.out _).mono ?_); rintro e w9 ⟨rfl, rfl⟩))
  refine (a_itoa i Bi.out.1 Bi.out.2 _ (h.below hbw5)).mono ?_
  rintro e w6 ⟨rfl, hb6⟩
  have hm6 := hm5.below hb6 hs5
  have hbw6 := hbw5.trans (hb6.mono (by omega))
  clear z0 z1 z2 z3 z4
  obtain ⟨z0, z1, z2, z3, z4⟩ := boxed_cells hm6
  have hs6 := hm6.lt
  clear hb6 hm5 hbw5
  go_wp2_with (first | (go_at_call 45; (with_reducible refine (H114.out _).mono ?_); rintro e w9 ⟨rfl, rfl⟩) | (go_at_call 45; (with_reducible refine (H115.out _).mono ?_); rintro e w9 ⟨rfl, rfl⟩) | (go_at_call 45; (with_reducible refine (H116.out _).mono ?_); rintro e w9 ⟨rfl, rfl⟩) | (go_at_call 45; (with_reducible refine (H105.out _).mono ?_); rintro e w9 ⟨rfl, rfl⟩))
  go_ret2
  refine ⟨?_, hbw6⟩
  rw [HT.out]
  exact congrArg (fun s => Ending.returned (.tuple #[.string s, .int .i64 0])) (by
    apply ByteArray.ext
    apply Array.toList_inj.1
    simp [List.append_assoc])
theorem r_format_14 (a b c i : Int) (ha : InInt a) (hb : InInt b) (hc : InInt c) (hi : InInt i) (hv : chk 14 a b c i = 0) (w : World) (h : Env w) :
    Calls Tryz.prog 42 #[ins 14 a b c i] w fun e w' => e = .returned (.tuple #[.string (joinB (wordsV 14 a b c i)), .int .i64 0]) ∧ Below w.heap.size w w' := by
  show Calls _ _ #[.agg _] _ _
  have HV := Lib.hid hv
  have HI := hi
  have H114 := Lib.hid (fun w => r_hasF 14 114 114 rfl true rfl w)
  have H115 := Lib.hid (fun w => r_hasF 14 115 115 rfl false rfl w)
  have H116 := Lib.hid (fun w => r_hasF 14 116 116 rfl false rfl w)
  have H105 := Lib.hid (fun w => r_hasF 14 105 105 rfl false rfl w)
  have H106 := Lib.hid (fun w => r_hasF 14 106 106 rfl false rfl w)
  have H97 := Lib.hid (fun w => r_hasF 14 97 97 rfl false rfl w)
  have H99 := Lib.hid (fun w => r_hasF 14 99 99 rfl true rfl w)
  have Ba := Lib.hid ha
  have Bi := Lib.hid hi
  have hnm : (opm 14).size ≤ 7 := opm_size 14 (by omega)
  have hla := Lib.itoa_length_le a ha.1 ha.2
  have hli := Lib.itoa_length_le i hi.1 hi.2
  have HT := Lib.hid (show joinB (wordsV 14 a b c i) = ⟨((opm 14).data.toList ++ (32 :: 114 :: Lib.itoa a) ++ (32 :: Lib.itoa i)).toArray⟩ by
    have e : wordsV 14 a b c i = (opm 14) :: [operB 97 a, operB 110 i] := rfl
    rw [e, join_flat]
    simp only [List.flatMap_cons, List.flatMap_nil, List.append_nil, text_reg 97 (by decide), text_num, List.append_assoc])
  clear hv ha hb hc hi
  go_enter Tryz.func42, Tryz.ntmps42
  go_wp2_with fail
  refine (r_check_v HI HV.out _).mono ?_
  rintro e w1 ⟨rfl, hb1⟩
  have hm1 : Mem w1 w.heap.size 40 (boxed 14 a b c i) := (Mem.new w 40 (boxed 14 a b c i)).below hb1 (by simp)
  have hbw1 := (below_new w (.cells (boxed 14 a b c i) 40)).trans (hb1.mono (by simp))
  obtain ⟨z0, z1, z2, z3, z4⟩ := boxed_cells hm1
  have hs1 := hm1.lt
  clear hb1
  go_wp2_with fail
  refine (r_form 14 (by omega) _).mono ?_
  rintro e w2 ⟨rfl, hb2⟩
  have hm2 := hm1.below hb2 hs1
  have hbw2 := hbw1.trans (hb2.mono (by omega))
  clear z0 z1 z2 z3 z4
  obtain ⟨z0, z1, z2, z3, z4⟩ := boxed_cells hm2
  have hs2 := hm2.lt
  clear hb2 hm1 hbw1
  go_wp2_with fail
  refine (r_name 14 (by omega) _).mono ?_
  rintro e w3 ⟨rfl, hb3⟩
  have hm3 := hm2.below hb3 hs2
  have hbw3 := hbw2.trans (hb3.mono (by omega))
  clear z0 z1 z2 z3 z4
  obtain ⟨z0, z1, z2, z3, z4⟩ := boxed_cells hm3
  have hs3 := hm3.lt
  clear hb3 hm2 hbw2
  go_wp2_with (first | (go_at_call 45; (with_reducible refine (H114.out _).mono ?_); rintro e w9 ⟨rfl, rfl⟩) | (go_at_call 45; (with_reducible refine (H115.out _).mono ?_); rintro e w9 ⟨rfl, rfl⟩) | (go_at_call 45; (with_reducible refine (H116.out _).mono ?_); rintro e w9 ⟨rfl, rfl⟩) | (go_at_call 45; (with_reducible refine (H105.out _).mono ?_); rintro e w9 ⟨rfl, rfl⟩) | (go_at_call 45; (with_reducible refine (H106.out _).mono ?_); rintro e w9 ⟨rfl, rfl⟩) | (go_at_call 45; (with_reducible refine (H97.out _).mono ?_); rintro e w9 ⟨rfl, rfl⟩) | (go_at_call 45; (with_reducible refine (H99.out _).mono ?_); rintro e w9 ⟨rfl, rfl⟩))
  refine (a_itoa a Ba.out.1 Ba.out.2 _ (h.below hbw3)).mono ?_
  rintro e w4 ⟨rfl, hb4⟩
  have hm4 := hm3.below hb4 hs3
  have hbw4 := hbw3.trans (hb4.mono (by omega))
  clear z0 z1 z2 z3 z4
  obtain ⟨z0, z1, z2, z3, z4⟩ := boxed_cells hm4
  have hs4 := hm4.lt
  clear hb4 hm3 hbw3
  go_wp2_with (first | (go_at_call 45; (with_reducible refine (H114.out _).mono ?_); rintro e w9 ⟨rfl, rfl⟩) | (go_at_call 45; (with_reducible refine (H115.out _).mono ?_); rintro e w9 ⟨rfl, rfl⟩) | (go_at_call 45; (with_reducible refine (H116.out _).mono ?_); rintro e w9 ⟨rfl, rfl⟩) | (go_at_call 45; (with_reducible refine (H105.out _).mono ?_); rintro e w9 ⟨rfl, rfl⟩) | (go_at_call 45; (with_reducible refine (H106.out _).mono ?_); rintro e w9 ⟨rfl, rfl⟩) | (go_at_call 45; (with_reducible refine (H97.out _).mono ?_); rintro e w9 ⟨rfl, rfl⟩) | (go_at_call 45; (with_reducible refine (H99.out _).mono ?_); rintro e w9 ⟨rfl, rfl⟩))
  refine (a_itoa i Bi.out.1 Bi.out.2 _ (h.below hbw4)).mono ?_
  rintro e w5 ⟨rfl, hb5⟩
  have hm5 := hm4.below hb5 hs4
  have hbw5 := hbw4.trans (hb5.mono (by omega))
  clear z0 z1 z2 z3 z4
  obtain ⟨z0, z1, z2, z3, z4⟩ := boxed_cells hm5
  have hs5 := hm5.lt
  clear hb5 hm4 hbw4
  go_wp2_with (first | (go_at_call 45; (with_reducible refine (H114.out _).mono ?_); rintro e w9 ⟨rfl, rfl⟩) | (go_at_call 45; (with_reducible refine (H115.out _).mono ?_); rintro e w9 ⟨rfl, rfl⟩) | (go_at_call 45; (with_reducible refine (H116.out _).mono ?_); rintro e w9 ⟨rfl, rfl⟩) | (go_at_call 45; (with_reducible refine (H105.out _).mono ?_); rintro e w9 ⟨rfl, rfl⟩) | (go_at_call 45; (with_reducible refine (H106.out _).mono ?_); rintro e w9 ⟨rfl, rfl⟩) | (go_at_call 45; (with_reducible refine (H97.out _).mono ?_); rintro e w9 ⟨rfl, rfl⟩) | (go_at_call 45; (with_reducible refine (H99.out _).mono ?_); rintro e w9 ⟨rfl, rfl⟩))
  go_ret2
  refine ⟨?_, hbw5⟩
  rw [HT.out]
  exact congrArg (fun s => Ending.returned (.tuple #[.string s, .int .i64 0])) (by
    apply ByteArray.ext
    apply Array.toList_inj.1
    simp [List.append_assoc])
theorem r_format_15 (a b c i : Int) (ha : InInt a) (hb : InInt b) (hc : InInt c) (hi : InInt i) (hv : chk 15 a b c i = 0) (w : World) (h : Env w) :
    Calls Tryz.prog 42 #[ins 15 a b c i] w fun e w' => e = .returned (.tuple #[.string (joinB (wordsV 15 a b c i)), .int .i64 0]) ∧ Below w.heap.size w w' := by
  show Calls _ _ #[.agg _] _ _
  have HV := Lib.hid hv
  have HI := hi
  have H114 := Lib.hid (fun w => r_hasF 15 114 114 rfl true rfl w)
  have H115 := Lib.hid (fun w => r_hasF 15 115 115 rfl false rfl w)
  have H116 := Lib.hid (fun w => r_hasF 15 116 116 rfl false rfl w)
  have H105 := Lib.hid (fun w => r_hasF 15 105 105 rfl false rfl w)
  have H106 := Lib.hid (fun w => r_hasF 15 106 106 rfl false rfl w)
  have H97 := Lib.hid (fun w => r_hasF 15 97 97 rfl false rfl w)
  have H99 := Lib.hid (fun w => r_hasF 15 99 99 rfl false rfl w)
  have Ba := Lib.hid ha
  have hnm : (opm 15).size ≤ 7 := opm_size 15 (by omega)
  have hla := Lib.itoa_length_le a ha.1 ha.2
  have HT := Lib.hid (show joinB (wordsV 15 a b c i) = ⟨((opm 15).data.toList ++ (32 :: 114 :: Lib.itoa a)).toArray⟩ by
    have e : wordsV 15 a b c i = (opm 15) :: [operB 97 a] := rfl
    rw [e, join_flat]
    simp only [List.flatMap_cons, List.flatMap_nil, List.append_nil, text_reg 97 (by decide)])
  clear hv ha hb hc hi
  go_enter Tryz.func42, Tryz.ntmps42
  go_wp2_with fail
  refine (r_check_v HI HV.out _).mono ?_
  rintro e w1 ⟨rfl, hb1⟩
  have hm1 : Mem w1 w.heap.size 40 (boxed 15 a b c i) := (Mem.new w 40 (boxed 15 a b c i)).below hb1 (by simp)
  have hbw1 := (below_new w (.cells (boxed 15 a b c i) 40)).trans (hb1.mono (by simp))
  obtain ⟨z0, z1, z2, z3, z4⟩ := boxed_cells hm1
  have hs1 := hm1.lt
  clear hb1
  go_wp2_with fail
  refine (r_form 15 (by omega) _).mono ?_
  rintro e w2 ⟨rfl, hb2⟩
  have hm2 := hm1.below hb2 hs1
  have hbw2 := hbw1.trans (hb2.mono (by omega))
  clear z0 z1 z2 z3 z4
  obtain ⟨z0, z1, z2, z3, z4⟩ := boxed_cells hm2
  have hs2 := hm2.lt
  clear hb2 hm1 hbw1
  go_wp2_with fail
  refine (r_name 15 (by omega) _).mono ?_
  rintro e w3 ⟨rfl, hb3⟩
  have hm3 := hm2.below hb3 hs2
  have hbw3 := hbw2.trans (hb3.mono (by omega))
  clear z0 z1 z2 z3 z4
  obtain ⟨z0, z1, z2, z3, z4⟩ := boxed_cells hm3
  have hs3 := hm3.lt
  clear hb3 hm2 hbw2
  go_wp2_with (first | (go_at_call 45; (with_reducible refine (H114.out _).mono ?_); rintro e w9 ⟨rfl, rfl⟩) | (go_at_call 45; (with_reducible refine (H115.out _).mono ?_); rintro e w9 ⟨rfl, rfl⟩) | (go_at_call 45; (with_reducible refine (H116.out _).mono ?_); rintro e w9 ⟨rfl, rfl⟩) | (go_at_call 45; (with_reducible refine (H105.out _).mono ?_); rintro e w9 ⟨rfl, rfl⟩) | (go_at_call 45; (with_reducible refine (H106.out _).mono ?_); rintro e w9 ⟨rfl, rfl⟩) | (go_at_call 45; (with_reducible refine (H97.out _).mono ?_); rintro e w9 ⟨rfl, rfl⟩) | (go_at_call 45; (with_reducible refine (H99.out _).mono ?_); rintro e w9 ⟨rfl, rfl⟩))
  refine (a_itoa a Ba.out.1 Ba.out.2 _ (h.below hbw3)).mono ?_
  rintro e w4 ⟨rfl, hb4⟩
  have hm4 := hm3.below hb4 hs3
  have hbw4 := hbw3.trans (hb4.mono (by omega))
  clear z0 z1 z2 z3 z4
  obtain ⟨z0, z1, z2, z3, z4⟩ := boxed_cells hm4
  have hs4 := hm4.lt
  clear hb4 hm3 hbw3
  go_wp2_with (first | (go_at_call 45; (with_reducible refine (H114.out _).mono ?_); rintro e w9 ⟨rfl, rfl⟩) | (go_at_call 45; (with_reducible refine (H115.out _).mono ?_); rintro e w9 ⟨rfl, rfl⟩) | (go_at_call 45; (with_reducible refine (H116.out _).mono ?_); rintro e w9 ⟨rfl, rfl⟩) | (go_at_call 45; (with_reducible refine (H105.out _).mono ?_); rintro e w9 ⟨rfl, rfl⟩) | (go_at_call 45; (with_reducible refine (H106.out _).mono ?_); rintro e w9 ⟨rfl, rfl⟩) | (go_at_call 45; (with_reducible refine (H97.out _).mono ?_); rintro e w9 ⟨rfl, rfl⟩) | (go_at_call 45; (with_reducible refine (H99.out _).mono ?_); rintro e w9 ⟨rfl, rfl⟩))
  go_ret2
  refine ⟨?_, hbw4⟩
  rw [HT.out]
  exact congrArg (fun s => Ending.returned (.tuple #[.string s, .int .i64 0])) (by
    apply ByteArray.ext
    apply Array.toList_inj.1
    simp)
theorem r_format_16 (a b c i : Int) (ha : InInt a) (hb : InInt b) (hc : InInt c) (hi : InInt i) (hv : chk 16 a b c i = 0) (w : World) (h : Env w) :
    Calls Tryz.prog 42 #[ins 16 a b c i] w fun e w' => e = .returned (.tuple #[.string (joinB (wordsV 16 a b c i)), .int .i64 0]) ∧ Below w.heap.size w w' := by
  show Calls _ _ #[.agg _] _ _
  have HV := Lib.hid hv
  have HI := hi
  have H114 := Lib.hid (fun w => r_hasF 16 114 114 rfl false rfl w)
  have H115 := Lib.hid (fun w => r_hasF 16 115 115 rfl false rfl w)
  have H116 := Lib.hid (fun w => r_hasF 16 116 116 rfl false rfl w)
  have H105 := Lib.hid (fun w => r_hasF 16 105 105 rfl false rfl w)
  have H106 := Lib.hid (fun w => r_hasF 16 106 106 rfl false rfl w)
  have H97 := Lib.hid (fun w => r_hasF 16 97 97 rfl false rfl w)
  have H99 := Lib.hid (fun w => r_hasF 16 99 99 rfl false rfl w)
  have hnm : (opm 16).size ≤ 7 := opm_size 16 (by omega)
  have HT := Lib.hid (show joinB (wordsV 16 a b c i) = ⟨((opm 16).data.toList).toArray⟩ by
    have e : wordsV 16 a b c i = (opm 16) :: [] := rfl
    rw [e, join_flat]
    simp only [List.flatMap_nil, List.append_nil])
  clear hv ha hb hc hi
  go_enter Tryz.func42, Tryz.ntmps42
  go_wp2_with fail
  refine (r_check_v HI HV.out _).mono ?_
  rintro e w1 ⟨rfl, hb1⟩
  have hm1 : Mem w1 w.heap.size 40 (boxed 16 a b c i) := (Mem.new w 40 (boxed 16 a b c i)).below hb1 (by simp)
  have hbw1 := (below_new w (.cells (boxed 16 a b c i) 40)).trans (hb1.mono (by simp))
  obtain ⟨z0, z1, z2, z3, z4⟩ := boxed_cells hm1
  have hs1 := hm1.lt
  clear hb1
  go_wp2_with fail
  refine (r_form 16 (by omega) _).mono ?_
  rintro e w2 ⟨rfl, hb2⟩
  have hm2 := hm1.below hb2 hs1
  have hbw2 := hbw1.trans (hb2.mono (by omega))
  clear z0 z1 z2 z3 z4
  obtain ⟨z0, z1, z2, z3, z4⟩ := boxed_cells hm2
  have hs2 := hm2.lt
  clear hb2 hm1 hbw1
  go_wp2_with fail
  refine (r_name 16 (by omega) _).mono ?_
  rintro e w3 ⟨rfl, hb3⟩
  have hm3 := hm2.below hb3 hs2
  have hbw3 := hbw2.trans (hb3.mono (by omega))
  clear z0 z1 z2 z3 z4
  obtain ⟨z0, z1, z2, z3, z4⟩ := boxed_cells hm3
  have hs3 := hm3.lt
  clear hb3 hm2 hbw2
  go_wp2_with (first | (go_at_call 45; (with_reducible refine (H114.out _).mono ?_); rintro e w9 ⟨rfl, rfl⟩) | (go_at_call 45; (with_reducible refine (H115.out _).mono ?_); rintro e w9 ⟨rfl, rfl⟩) | (go_at_call 45; (with_reducible refine (H116.out _).mono ?_); rintro e w9 ⟨rfl, rfl⟩) | (go_at_call 45; (with_reducible refine (H105.out _).mono ?_); rintro e w9 ⟨rfl, rfl⟩) | (go_at_call 45; (with_reducible refine (H106.out _).mono ?_); rintro e w9 ⟨rfl, rfl⟩) | (go_at_call 45; (with_reducible refine (H97.out _).mono ?_); rintro e w9 ⟨rfl, rfl⟩) | (go_at_call 45; (with_reducible refine (H99.out _).mono ?_); rintro e w9 ⟨rfl, rfl⟩))
  go_ret2
  refine ⟨?_, hbw3⟩
  rw [HT.out]
  exact congrArg (fun s => Ending.returned (.tuple #[.string s, .int .i64 0])) (ba_eq _)
theorem r_format_17 (a b c i : Int) (ha : InInt a) (hb : InInt b) (hc : InInt c) (hi : InInt i) (hv : chk 17 a b c i = 0) (w : World) (h : Env w) :
    Calls Tryz.prog 42 #[ins 17 a b c i] w fun e w' => e = .returned (.tuple #[.string (joinB (wordsV 17 a b c i)), .int .i64 0]) ∧ Below w.heap.size w w' := by
  show Calls _ _ #[.agg _] _ _
  have HV := Lib.hid hv
  have HI := hi
  have H114 := Lib.hid (fun w => r_hasF 17 114 114 rfl true rfl w)
  have H115 := Lib.hid (fun w => r_hasF 17 115 115 rfl false rfl w)
  have H116 := Lib.hid (fun w => r_hasF 17 116 116 rfl false rfl w)
  have H105 := Lib.hid (fun w => r_hasF 17 105 105 rfl false rfl w)
  have H106 := Lib.hid (fun w => r_hasF 17 106 106 rfl false rfl w)
  have H97 := Lib.hid (fun w => r_hasF 17 97 97 rfl false rfl w)
  have H99 := Lib.hid (fun w => r_hasF 17 99 99 rfl false rfl w)
  have Ba := Lib.hid ha
  have hnm : (opm 17).size ≤ 7 := opm_size 17 (by omega)
  have hla := Lib.itoa_length_le a ha.1 ha.2
  have HT := Lib.hid (show joinB (wordsV 17 a b c i) = ⟨((opm 17).data.toList ++ (32 :: 114 :: Lib.itoa a)).toArray⟩ by
    have e : wordsV 17 a b c i = (opm 17) :: [operB 97 a] := rfl
    rw [e, join_flat]
    simp only [List.flatMap_cons, List.flatMap_nil, List.append_nil, text_reg 97 (by decide)])
  clear hv ha hb hc hi
  go_enter Tryz.func42, Tryz.ntmps42
  go_wp2_with fail
  refine (r_check_v HI HV.out _).mono ?_
  rintro e w1 ⟨rfl, hb1⟩
  have hm1 : Mem w1 w.heap.size 40 (boxed 17 a b c i) := (Mem.new w 40 (boxed 17 a b c i)).below hb1 (by simp)
  have hbw1 := (below_new w (.cells (boxed 17 a b c i) 40)).trans (hb1.mono (by simp))
  obtain ⟨z0, z1, z2, z3, z4⟩ := boxed_cells hm1
  have hs1 := hm1.lt
  clear hb1
  go_wp2_with fail
  refine (r_form 17 (by omega) _).mono ?_
  rintro e w2 ⟨rfl, hb2⟩
  have hm2 := hm1.below hb2 hs1
  have hbw2 := hbw1.trans (hb2.mono (by omega))
  clear z0 z1 z2 z3 z4
  obtain ⟨z0, z1, z2, z3, z4⟩ := boxed_cells hm2
  have hs2 := hm2.lt
  clear hb2 hm1 hbw1
  go_wp2_with fail
  refine (r_name 17 (by omega) _).mono ?_
  rintro e w3 ⟨rfl, hb3⟩
  have hm3 := hm2.below hb3 hs2
  have hbw3 := hbw2.trans (hb3.mono (by omega))
  clear z0 z1 z2 z3 z4
  obtain ⟨z0, z1, z2, z3, z4⟩ := boxed_cells hm3
  have hs3 := hm3.lt
  clear hb3 hm2 hbw2
  go_wp2_with (first | (go_at_call 45; (with_reducible refine (H114.out _).mono ?_); rintro e w9 ⟨rfl, rfl⟩) | (go_at_call 45; (with_reducible refine (H115.out _).mono ?_); rintro e w9 ⟨rfl, rfl⟩) | (go_at_call 45; (with_reducible refine (H116.out _).mono ?_); rintro e w9 ⟨rfl, rfl⟩) | (go_at_call 45; (with_reducible refine (H105.out _).mono ?_); rintro e w9 ⟨rfl, rfl⟩) | (go_at_call 45; (with_reducible refine (H106.out _).mono ?_); rintro e w9 ⟨rfl, rfl⟩) | (go_at_call 45; (with_reducible refine (H97.out _).mono ?_); rintro e w9 ⟨rfl, rfl⟩) | (go_at_call 45; (with_reducible refine (H99.out _).mono ?_); rintro e w9 ⟨rfl, rfl⟩))
  refine (a_itoa a Ba.out.1 Ba.out.2 _ (h.below hbw3)).mono ?_
  rintro e w4 ⟨rfl, hb4⟩
  have hm4 := hm3.below hb4 hs3
  have hbw4 := hbw3.trans (hb4.mono (by omega))
  clear z0 z1 z2 z3 z4
  obtain ⟨z0, z1, z2, z3, z4⟩ := boxed_cells hm4
  have hs4 := hm4.lt
  clear hb4 hm3 hbw3
  go_wp2_with (first | (go_at_call 45; (with_reducible refine (H114.out _).mono ?_); rintro e w9 ⟨rfl, rfl⟩) | (go_at_call 45; (with_reducible refine (H115.out _).mono ?_); rintro e w9 ⟨rfl, rfl⟩) | (go_at_call 45; (with_reducible refine (H116.out _).mono ?_); rintro e w9 ⟨rfl, rfl⟩) | (go_at_call 45; (with_reducible refine (H105.out _).mono ?_); rintro e w9 ⟨rfl, rfl⟩) | (go_at_call 45; (with_reducible refine (H106.out _).mono ?_); rintro e w9 ⟨rfl, rfl⟩) | (go_at_call 45; (with_reducible refine (H97.out _).mono ?_); rintro e w9 ⟨rfl, rfl⟩) | (go_at_call 45; (with_reducible refine (H99.out _).mono ?_); rintro e w9 ⟨rfl, rfl⟩))
  go_ret2
  refine ⟨?_, hbw4⟩
  rw [HT.out]
  exact congrArg (fun s => Ending.returned (.tuple #[.string s, .int .i64 0])) (by
    apply ByteArray.ext
    apply Array.toList_inj.1
    simp)
/-- The reference's Format gives what the program's gives. -/
theorem r_format (op a b c i : Int) (ha : InInt a) (hb : InInt b) (hc : InInt c) (hi : InInt i) (w : World) (h : Env w) :
    Calls Tryz.prog 42 #[ins op a b c i] w fun e w' => e = .returned (.tuple #[.string (formatV op a b c i), .int .i64 (chk op a b c i)]) ∧ Below w.heap.size w w' := by
  rcases chk_cases op a b c i with ⟨h0, h1, h2⟩ | h0 | h0
  · obtain ⟨k, rfl⟩ := Int.eq_ofNat_of_zero_le h1
    have hk : k < 18 := by omega
    have e : formatV k a b c i = joinB (wordsV k a b c i) := by unfold formatV; rw [if_pos h0, Int.toNat_natCast]
    rw [e, h0]
    rcases op_cases hk with rfl | rfl | rfl | rfl | rfl | rfl | rfl | rfl | rfl | rfl | rfl | rfl | rfl | rfl | rfl | rfl | rfl | rfl
    · exact r_format_0 a b c i ha hb hc hi h0 w h
    · exact r_format_1 a b c i ha hb hc hi h0 w h
    · exact r_format_2 a b c i ha hb hc hi h0 w h
    · have hf : fit 3 a b c i = true := by
        rw [chk_in 3 (by omega)] at h0
        unfold chkV at h0
        split at h0
        · assumption
        · cases h0
      unfold fit at hf
      rw [Bool.and_eq_true, Bool.and_eq_true, decide_eq_true_eq, decide_eq_true_eq] at hf
      have h3 := hf.1
      have l3 : loI 3 = 0 := rfl
      have u3 : hiI 3 = 21 := rfl
      exact r_format_3 a b c i ha hb hc hi i.toNat (by omega) (by omega) h0 w h
    · exact r_format_4 a b c i ha hb hc hi h0 w h
    · exact r_format_5 a b c i ha hb hc hi h0 w h
    · exact r_format_6 a b c i ha hb hc hi h0 w h
    · exact r_format_7 a b c i ha hb hc hi h0 w h
    · exact r_format_8 a b c i ha hb hc hi h0 w h
    · exact r_format_9 a b c i ha hb hc hi h0 w h
    · exact r_format_10 a b c i ha hb hc hi h0 w h
    · exact r_format_11 a b c i ha hb hc hi h0 w h
    · exact r_format_12 a b c i ha hb hc hi h0 w h
    · exact r_format_13 a b c i ha hb hc hi h0 w h
    · exact r_format_14 a b c i ha hb hc hi h0 w h
    · exact r_format_15 a b c i ha hb hc hi h0 w h
    · exact r_format_16 a b c i ha hb hc hi h0 w h
    · exact r_format_17 a b c i ha hb hc hi h0 w h
  all_goals
    have e : formatV op a b c i = ⟨#[]⟩ := by unfold formatV; rw [if_neg (by omega)]
    rw [e, h0]
    exact r_format_no op a b c i _ hi h0 (by omega) w
end Go.Proofs.YtcplhochgngedaaGreatDoor.RefF
