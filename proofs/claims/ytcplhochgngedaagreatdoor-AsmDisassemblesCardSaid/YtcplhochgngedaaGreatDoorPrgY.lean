/-
  Contract of strongtxmake's Program: it makes a valid program.
-/
import Derived.Test.YtcplhochgngedaaGreatDoorPrgL
import Derived.Test.YtcplhochgngedaaGreatDoorPrgC
import Derived.Test.YtcplhochgngedaaGreatDoorOwnS
import Derived.Deep.DeepCutAuto
import Derived.Deep.CutBlock
namespace Go.Proofs.YtcplhochgngedaaGreatDoor.PrgY
open Go.ChangeShapes Go.WideShapes Go.ChangeAt Go.RowKit
open PlainT IsaE IsaS BlkW LawFrame IsaA IsaB IsaF RefA PrgS PrgC PrgI PrgG PrgL Own OwnS
set_option linter.unusedVariables false
set_option maxHeartbeats 1000000

/-- The positions of jumps whose numbers are open. -/
def JsOk (js : List Int) (ps : List I5) : Prop := ∀ j ∈ js, ∃ (k : Nat) (x : I5), j = k ∧ ps[k]? = some x ∧ (x.i = 0 ∨ x.i = 1)
/-- What Program makes. -/
def Good (w0 w : World) (m : Nat) (A : Option Addr) (c : Nat) (ps : List I5) : Prop := ps.length ≤ m ∧ refChk ps = (0, 0) ∧ (∀ x ∈ ps, OkI x) ∧ w.ownsRow w0.heap.size 40 5 (.slice A ps.length c) ps.length (cellsI ps)
theorem cellsI_snoc (ps : List I5) (x : I5) : cellsI (ps ++ [x]) = cellsI ps ++ [.int .i64 x.op, .int .i64 x.a, .int .i64 x.b, .int .i64 x.c, .int .i64 x.i] := by
  unfold cellsI
  simp
theorem made_a {op : Nat} {x : I5} (h18 : op < 18) (hm : Made op x) {a' : Int} (h0 : 0 ≤ a') (h1 : a' < 8) (hj : hasF op 114 = true) : Made op ⟨x.op, a', x.b, x.c, x.i⟩ := by
  obtain ⟨e, ho, hc, hi⟩ := hm
  refine ⟨e, ⟨ho.1, ⟨by show -9223372036854775808 ≤ a'; omega, by show a' ≤ 9223372036854775807; omega⟩, ho.2.2⟩, ?_, hi⟩
  unfold chkI at hc ⊢
  rw [e] at hc ⊢
  rw [chk_split op h18] at hc
  split at hc
  · rename_i h2
    simp only [Bool.and_eq_true, decide_eq_true_eq] at h2
    exact chk_of op h18 (reg_ok h0 h1 (fun h => by rw [hj] at h; cases h)) h2.2.2.1 h2.2.2.2 h2.1.1 h2.1.2
  · cases hc
theorem jsOk_app {js : List Int} {ps : List I5} (h : JsOk js ps) (x : I5) : JsOk js (ps ++ [x]) := fun j hj => by
  obtain ⟨k, y, e1, e2, e3⟩ := h j hj
  exact ⟨k, y, e1, by rw [List.getElem?_append_left (List.getElem?_eq_some_iff.1 e2).1]; exact e2, e3⟩
theorem jsOk_push {js : List Int} {ps : List I5} {x : I5} (h : JsOk js ps) (h0 : x.i = 0) : JsOk (js ++ [(ps.length : Int)]) (ps ++ [x]) := fun j hj => by
  rcases List.mem_append.1 hj with hj | hj
  · exact jsOk_app h x j hj
  · rw [List.mem_singleton.1 hj]
    exact ⟨ps.length, x, rfl, by simp, .inl h0⟩
theorem set_get {rs : List I5} {k : Nat} {x : I5} (h : rs[k]? = some x) (y : I5) (n : Nat) (z : I5) (hn : (rs.set k y)[n]? = some z) : (n = k ∧ z = y) ∨ (n ≠ k ∧ rs[n]? = some z) := by
  rw [List.getElem?_set] at hn
  split at hn
  · rename_i he
    rw [if_pos (List.getElem?_eq_some_iff.1 h).1] at hn
    injection hn with hn
    exact .inl ⟨he.symm, hn.symm⟩
  · rename_i he
    exact .inr ⟨fun h => he h.symm, hn⟩
theorem jsOk_set {js : List Int} {rs : List I5} {k : Nat} {x : I5} (h : JsOk js rs) (hx : rs[k]? = some x) (v : Int) (hv : v = 0 ∨ v = 1) : JsOk js (rs.set k { x with i := v }) := by
  intro j hj
  obtain ⟨n, z, e1, e2, e3⟩ := h j hj
  by_cases hn : n = k
  · subst hn
    exact ⟨n, { x with i := v }, e1, by rw [List.getElem?_set_self (List.getElem?_eq_some_iff.1 hx).1], hv⟩
  · exact ⟨n, z, e1, by rw [List.getElem?_set_ne (fun h => hn h.symm)]; exact e2, e3⟩
theorem ok_set {rs : List I5} {k : Nat} {x : I5} (h : ∀ y ∈ rs, OkI y) (hx : rs[k]? = some x) (v : Int) (hv : v = 0 ∨ v = 1) : ∀ y ∈ rs.set k { x with i := v }, OkI y := by
  intro y hy
  rcases List.mem_or_eq_of_mem_set hy with h1 | rfl
  · exact h y h1
  · have hx1 := h x (List.mem_of_getElem? hx)
    exact ⟨hx1.1, hx1.2.1, hx1.2.2.1, hx1.2.2.2.1, by unfold InInt; simp only; omega⟩
theorem set_back {rs : List I5} {k : Nat} {x : I5} (hx : rs[k]? = some x) (h0 : x.i = 0) : (rs.set k { x with i := 1 }).set k { ({ x with i := 1 } : I5) with i := 0 } = rs := by
  rw [List.set_set]
  apply List.ext_getElem?
  intro n
  by_cases hn : n = k
  · subst hn
    rw [List.getElem?_set_self (List.getElem?_eq_some_iff.1 hx).1, hx]
    cases x
    simp only at h0
    subst h0
    rfl
  · rw [List.getElem?_set_ne (fun h => hn h.symm)]
theorem set_same {rs : List I5} {k : Nat} {x : I5} (hx : rs[k]? = some x) (h1 : x.i = 1) : rs.set k { x with i := 1 } = rs := by
  apply List.ext_getElem?
  intro n
  by_cases hn : n = k
  · subst hn
    rw [List.getElem?_set_self (List.getElem?_eq_some_iff.1 hx).1, hx]
    cases x
    simp only at h1
    subst h1
    rfl
  · rw [List.getElem?_set_ne (fun h => hn h.symm)]
set_option maxHeartbeats 200000000 in
set_option maxRecDepth 100000 in
/-- What is left of the walk in three places, and that the contract rests on it. -/
noncomputable def Pc :
    { P : Prop × Prop × Prop // PLift P.1 → PLift P.2.1 → PLift P.2.2 → ∀ (A : Option Addr) (n c : Nat) (z : List Int) (m : Nat) (heap plain : Bool) (w : World) (hc : n ≤ c) (hcm : c ≤ maxLen) (hm : m ≤ 60) (hm2 : 2 ≤ m) (h : Ints .i64 w A n z), Calls Tryz.prog 17 #[.slice A n c, .int .i64 m, .bool heap, .bool plain] w fun e w' => ∃ A' c' ps, e = .returned (.slice A' ps.length c') ∧ Good w w' m A' c' ps ∧ Below w.heap.size w w'  } := ⟨(_, _, _), fun h1p h2p h3p => by
  intro A n c z m heap plain w hc hcm hm hm2 h
  have HZ := Lib.hid h
  clear h
  unfold maxLen at hcm
  go_enter Tryz.func17, Tryz.ntmps17
  go_upto_block 0 with fail
  go_cut [9, 10, 11] (fun pv ov jv wc => ∃ (ps : List I5) (js : List Int) (o : Bool) (Aq : Option Addr) (cq : Nat) (Aj : Option Addr) (cj : Nat), pv = .slice Aq ps.length cq ∧ ov = .bool o ∧ jv = .slice Aj js.length cj ∧ ps.length + 1 ≤ m ∧ js.length ≤ ps.length ∧ Hid (Gen ps o) ∧ Hid (JsOk js ps) ∧ wc.ownsRow w.heap.size 40 5 (.slice Aq ps.length cq) ps.length (cellsI ps) ∧ wc.ownsRow w.heap.size 3 1 (.slice Aj js.length cj) js.length (js.map (Value.int .i64)) ∧ Below w.heap.size w wc)
  case first =>
    go_wp2
    go_loopw [9, 10, 11, 12] (fun pv ov jv iv wr => ∃ (i : Nat) (ps : List I5) (js : List Int) (o : Bool) (Aq : Option Addr) (cq : Nat) (Aj : Option Addr) (cj : Nat), pv = .slice Aq ps.length cq ∧ ov = .bool o ∧ jv = .slice Aj js.length cj ∧ iv = .int .i64 i ∧ i ≤ n ∧ ps.length + 1 ≤ m ∧ js.length ≤ ps.length ∧ Hid (Gen ps o) ∧ Hid (JsOk js ps) ∧ wr.ownsRow w.heap.size 40 5 (.slice Aq ps.length cq) ps.length (cellsI ps) ∧ wr.ownsRow w.heap.size 3 1 (.slice Aj js.length cj) js.length (js.map (Value.int .i64)) ∧ Below w.heap.size w wr) (fun _ _ _ iv _ => n - (intOf iv).toNat)
    case atStart => exact ⟨0, [], [], false, none, 0, none, 0, rfl, rfl, rfl, rfl, by omega, by simp; omega, by simp, Lib.hid Gen.nil, Lib.hid (fun j hj => by cases hj), World.ownsRow_nil _ _ _ _, World.ownsRow_nil _ _ _ _, Below.refl _ _⟩
    case round =>
      obtain ⟨i, ps, js, o, Aq, cq, Aj, cj, rfl, rfl, rfl, rfl, hi, hpl, hjl, hgen, hjok, hop, hoj, hbw⟩ := hrel
      have HOP := Lib.hid hop
      have HOJ := Lib.hid hoj
      have HB := Lib.hid hbw
      clear hop hoj hbw
      by_cases hin : i < n
      · by_cases hpm : ps.length + 1 < m
        · have hzi := (HZ.out.2.2 (by omega))
          obtain ⟨b, off, rfl, hbb, hcell⟩ := hzi
          have hci : wr.cell? ⟨b, off + i, none⟩ = some (.int .i64 (z.getD i 0)) := by
            rw [World.cell?_of_block (w := w) (HB.out.block b hbb)]
            exact hcell i hin
          obtain ⟨y, hy⟩ : ∃ y, z.getD i 0 = y := ⟨_, rfl⟩
          rw [hy] at hci
          obtain ⟨v, hv⟩ : ∃ v, IntKind.u64.wrap y = v := ⟨_, rfl⟩
          have hv0 : 0 ≤ v := by rw [← hv]; exact (wrap_within .u64 _).1
          have hv1 : v ≤ 18446744073709551615 := by rw [← hv]; exact (wrap_within .u64 _).2
          clear hcell hy
          go_upto_region 10 with fail
          obtain ⟨κ, hκ⟩ : ∃ κ, v % 16 = κ := ⟨_, rfl⟩
          obtain ⟨N, hN⟩ : ∃ N, v / 16 = N := ⟨_, rfl⟩
          have k0 : 0 ≤ κ := by omega
          have k1 : κ < 16 := by omega
          have n0 : 0 ≤ N := by omega
          have n1 : N ≤ 1152921504606846975 := by omega
          rw [hκ, hN]
          have HVV := Lib.hid hv
          clear hκ hN hv hci hv0 hv1
          go_upto_block 2 with fail
          go_cut [13, 15] (fun nv opv wc => ∃ (N' : Int) (op : Nat), nv = .int .u64 N' ∧ 0 ≤ N' ∧ N' ≤ 18446744073709551615 ∧ opv = .int .i64 op ∧ op < 18 ∧ Fits op o ∧ Below wr.heap.size wr wc)
          case first =>
            rename_i Q'z1 Kz1 az1 Jz1 K'z1 az2 az3 Q'z2 hz1 Kz2 az4 Kz3 az5 Jz2 K'z2 az6 az7
            revert n c z m heap plain w hc hcm hm hm2 Q'z1 Kz1 az1 Jz1 K'z1 az2 wr u13 u14 u15 u16 u20 u21 u22 u23 u24 u25 u26 u27 u28 u29 u30 u31 u32 u33 u34 u35 u36 u37 u38 u39 u40 u41 u42 u43 u44 u45 u46 u47 u48 u49 u50 u51 u52 u53 u54 u55 u56 u57 u58 u59 u60 u61 u62 u63 u64 u65 u66 u67 u68 u69 u70 u71 u72 u73 u74 u75 u76 u77 u78 u79 u80 u81 u82 u83 u84 u85 u86 u87 u88 u89 u90 u91 u92 u93 u94 u95 u96 u97 u98 u99 u100 u101 u102 u103 u104 u105 u106 u107 u108 u109 u110 u111 u112 u113 u114 u115 u116 u117 u118 u119 u120 u121 u122 u123 u124 u125 u126 u127 u128 u129 u130 u131 u132 u133 u134 u135 u136 u137 u138 u139 u140 u141 u142 u143 u144 u145 u146 u147 u148 u149 u150 u151 u152 u153 u154 u155 u156 u157 i ps js o Aq cq Aj cj hi hpl hjl hgen hjok HOP HOJ HB hin hpm b off HZ az3 hbb y v Q'z2 hz1 Kz2 az4 κ N k0 k1 n0 n1 HVV Kz3 az5 Jz2 K'z2 az6 az7
            exact h1p.down
          case rest =>
            rename_i Q'z1 Kz1 az1 Jz1 K'z1 az2 u13z1 u15z1 u20z1 u21z1 u22z1 u23z1 u24z1 u25z1 u26z1 u27z1 u28z1 u29z1 u30z1 u31z1 u32z1 u33z1 u34z1 u35z1 u36z1 u37z1 u38z1 u39z1 u40z1 u41z1 u42z1 u43z1 u44z1 u45z1 u46z1 u47z1 u48z1 u49z1 u50z1 u51z1 u52z1 u53z1 u54z1 u55z1 u56z1 u57z1 u58z1 u59z1 u60z1 u61z1 u62z1 u63z1 u64z1 u65z1 u66z1 u67z1 u68z1 u69z1 u70z1 u71z1 u72z1 u73z1 u74z1 u75z1 u76z1 u77z1 u78z1 u79z1 u80z1 u81z1 u82z1 u83z1 u84z1 u85z1 u86z1 u87z1 u88z1 u89z1 u90z1 u91z1 u92z1 u93z1 u94z1 u95z1 u96z1 u97z1 u98z1 u99z1 u100z1 u101z1 u102z1 u103z1 u104z1 u105z1 u106z1 u107z1 u108z1 u109z1 u110z1 u111z1 u112z1 u113z1 u114z1 u115z1 u116z1 u117z1 u118z1 u119z1 u120z1 u121z1 u122z1 u123z1 u124z1 u125z1 u126z1 u127z1 u128z1 u129z1 u130z1 u131z1 u132z1 u133z1 u134z1 u135z1 u136z1 u137z1 u138z1 u139z1 u140z1 u141z1 u142z1 u143z1 u144z1 u145z1 u146z1 u147z1 u148z1 u149z1 u150z1 u151z1 u152z1 u155z1 u157z1 az3 Q'z2 hz1 Kz2 az4 Kz3 az5
            revert n c z m heap plain w hc hcm hm hm2 Q'z1 Kz1 az1 Jz1 K'z1 az2 wr u13z1 u14 u15z1 u16 u20z1 u21z1 u22z1 u23z1 u24z1 u25z1 u26z1 u27z1 u28z1 u29z1 u30z1 u31z1 u32z1 u33z1 u34z1 u35z1 u36z1 u37z1 u38z1 u39z1 u40z1 u41z1 u42z1 u43z1 u44z1 u45z1 u46z1 u47z1 u48z1 u49z1 u50z1 u51z1 u52z1 u53z1 u54z1 u55z1 u56z1 u57z1 u58z1 u59z1 u60z1 u61z1 u62z1 u63z1 u64z1 u65z1 u66z1 u67z1 u68z1 u69z1 u70z1 u71z1 u72z1 u73z1 u74z1 u75z1 u76z1 u77z1 u78z1 u79z1 u80z1 u81z1 u82z1 u83z1 u84z1 u85z1 u86z1 u87z1 u88z1 u89z1 u90z1 u91z1 u92z1 u93z1 u94z1 u95z1 u96z1 u97z1 u98z1 u99z1 u100z1 u101z1 u102z1 u103z1 u104z1 u105z1 u106z1 u107z1 u108z1 u109z1 u110z1 u111z1 u112z1 u113z1 u114z1 u115z1 u116z1 u117z1 u118z1 u119z1 u120z1 u121z1 u122z1 u123z1 u124z1 u125z1 u126z1 u127z1 u128z1 u129z1 u130z1 u131z1 u132z1 u133z1 u134z1 u135z1 u136z1 u137z1 u138z1 u139z1 u140z1 u141z1 u142z1 u143z1 u144z1 u145z1 u146z1 u147z1 u148z1 u149z1 u150z1 u151z1 u152z1 u153 u154 u155z1 u156 u157z1 i ps js o Aq cq Aj cj hi hpl hjl hgen hjok HOP HOJ HB hin hpm b off HZ az3 hbb y v Q'z2 hz1 Kz2 az4 κ N k0 k1 n0 n1 HVV Kz3 az5 wc u13 u15 u20 u21 u22 u23 u24 u25 u26 u27 u28 u29 u30 u31 u32 u33 u34 u35 u36 u37 u38 u39 u40 u41 u42 u43 u44 u45 u46 u47 u48 u49 u50 u51 u52 u53 u54 u55 u56 u57 u58 u59 u60 u61 u62 u63 u64 u65 u66 u67 u68 u69 u70 u71 u72 u73 u74 u75 u76 u77 u78 u79 u80 u81 u82 u83 u84 u85 u86 u87 u88 u89 u90 u91 u92 u93 u94 u95 u96 u97 u98 u99 u100 u101 u102 u103 u104 u105 u106 u107 u108 u109 u110 u111 u112 u113 u114 u115 u116 u117 u118 u119 u120 u121 u122 u123 u124 u125 u126 u127 u128 u129 u130 u131 u132 u133 u134 u135 u136 u137 u138 u139 u140 u141 u142 u143 u144 u145 u146 u147 u148 u149 u150 u151 u152 u155 u157 hcut
            exact h2p.down
        · go_wp2
          all_goals go_meet
          all_goals exact ⟨ps, js, o, Aq, cq, Aj, cj, rfl, rfl, rfl, hpl, hjl, hgen, hjok, HOP.out, HOJ.out, HB.out⟩
      · go_wp2
        all_goals go_meet
        all_goals exact ⟨ps, js, o, Aq, cq, Aj, cj, rfl, rfl, rfl, hpl, hjl, hgen, hjok, HOP.out, HOJ.out, HB.out⟩
  case rest =>
    rename_i Q'z1 Kz1 az1
    revert A n c z m heap plain w hc hcm hm hm2 HZ Q'z1 Kz1 az1 wc u9 u10 u11 u12 u13 u14 u15 u16 u20 u21 u22 u23 u24 u25 u26 u27 u28 u29 u30 u31 u32 u33 u34 u35 u36 u37 u38 u39 u40 u41 u42 u43 u44 u45 u46 u47 u48 u49 u50 u51 u52 u53 u54 u55 u56 u57 u58 u59 u60 u61 u62 u63 u64 u65 u66 u67 u68 u69 u70 u71 u72 u73 u74 u75 u76 u77 u78 u79 u80 u81 u82 u83 u84 u85 u86 u87 u88 u89 u90 u91 u92 u93 u94 u95 u96 u97 u98 u99 u100 u101 u102 u103 u104 u105 u106 u107 u108 u109 u110 u111 u112 u113 u114 u115 u116 u117 u118 u119 u120 u121 u122 u123 u124 u125 u126 u127 u128 u129 u130 u131 u132 u133 u134 u135 u136 u137 u138 u139 u140 u141 u142 u143 u144 u145 u146 u147 u148 u149 u150 u151 u152 u153 u154 u155 u156 u157 hcut
    exact h3p.down⟩
set_option maxHeartbeats 200000000 in
set_option maxRecDepth 100000 in
theorem piece_1 : Pc.1.1 := by
  intro n c z m heap plain w hc hcm hm hm2 Q'z1 Kz1 az1 Jz1 K'z1 az2 wr u13 u14 u15 u16 u20 u21 u22 u23 u24 u25 u26 u27 u28 u29 u30 u31 u32 u33 u34 u35 u36 u37 u38 u39 u40 u41 u42 u43 u44 u45 u46 u47 u48 u49 u50 u51 u52 u53 u54 u55 u56 u57 u58 u59 u60 u61 u62 u63 u64 u65 u66 u67 u68 u69 u70 u71 u72 u73 u74 u75 u76 u77 u78 u79 u80 u81 u82 u83 u84 u85 u86 u87 u88 u89 u90 u91 u92 u93 u94 u95 u96 u97 u98 u99 u100 u101 u102 u103 u104 u105 u106 u107 u108 u109 u110 u111 u112 u113 u114 u115 u116 u117 u118 u119 u120 u121 u122 u123 u124 u125 u126 u127 u128 u129 u130 u131 u132 u133 u134 u135 u136 u137 u138 u139 u140 u141 u142 u143 u144 u145 u146 u147 u148 u149 u150 u151 u152 u153 u154 u155 u156 u157 i ps js o Aq cq Aj cj hi hpl hjl hgen hjok HOP HOJ HB hin hpm b off HZ az3 hbb y v Q'z2 hz1 Kz2 az4 κ N k0 k1 n0 n1 HVV Kz3 az5 Jz2 K'z2 az6 az7
  by_cases hk0 : κ < 2
  · skip
    rcases (show N % 3 = 0 ∨ N % 3 = 1 ∨ N % 3 = 2 by omega) with h3 | h3 | h3
    all_goals
      go_wp2
      all_goals go_meet
      all_goals (cases o <;> (first | exact ⟨_, 1, rfl, by omega, by omega, rfl, by decide, by unfold Fits; decide, by first | exact Below.refl _ _ | exact below_new _ _⟩ | exact ⟨_, 2, rfl, by omega, by omega, rfl, by decide, by unfold Fits; decide, by first | exact Below.refl _ _ | exact below_new _ _⟩ | exact ⟨_, 3, rfl, by omega, by omega, rfl, by decide, by unfold Fits; decide, by first | exact Below.refl _ _ | exact below_new _ _⟩ | exact ⟨_, 4, rfl, by omega, by omega, rfl, by decide, by unfold Fits; decide, by first | exact Below.refl _ _ | exact below_new _ _⟩ | exact ⟨_, 5, rfl, by omega, by omega, rfl, by decide, by unfold Fits; decide, by first | exact Below.refl _ _ | exact below_new _ _⟩ | exact ⟨_, 6, rfl, by omega, by omega, rfl, by decide, by unfold Fits; decide, by first | exact Below.refl _ _ | exact below_new _ _⟩ | exact ⟨_, 7, rfl, by omega, by omega, rfl, by decide, by unfold Fits; decide, by first | exact Below.refl _ _ | exact below_new _ _⟩ | exact ⟨_, 8, rfl, by omega, by omega, rfl, by decide, by unfold Fits; decide, by first | exact Below.refl _ _ | exact below_new _ _⟩ | exact ⟨_, 9, rfl, by omega, by omega, rfl, by decide, by unfold Fits; decide, by first | exact Below.refl _ _ | exact below_new _ _⟩ | exact ⟨_, 10, rfl, by omega, by omega, rfl, by decide, by unfold Fits; decide, by first | exact Below.refl _ _ | exact below_new _ _⟩ | exact ⟨_, 11, rfl, by omega, by omega, rfl, by decide, by unfold Fits; decide, by first | exact Below.refl _ _ | exact below_new _ _⟩ | exact ⟨_, 12, rfl, by omega, by omega, rfl, by decide, by unfold Fits; decide, by first | exact Below.refl _ _ | exact below_new _ _⟩ | exact ⟨_, 13, rfl, by omega, by omega, rfl, by decide, by unfold Fits; decide, by first | exact Below.refl _ _ | exact below_new _ _⟩ | exact ⟨_, 14, rfl, by omega, by omega, rfl, by decide, by unfold Fits; decide, by first | exact Below.refl _ _ | exact below_new _ _⟩ | exact ⟨_, 15, rfl, by omega, by omega, rfl, by decide, by unfold Fits; decide, by first | exact Below.refl _ _ | exact below_new _ _⟩ | exact ⟨_, 16, rfl, by omega, by omega, rfl, by decide, by unfold Fits; decide, by first | exact Below.refl _ _ | exact below_new _ _⟩ | exact ⟨_, 17, rfl, by omega, by omega, rfl, by decide, by unfold Fits; decide, by first | exact Below.refl _ _ | exact below_new _ _⟩))
  · rcases (show (κ = 2 ∧ 0 < ps.length) ∨ (κ = 2 ∧ ps.length = 0) ∨ 3 ≤ κ by omega) with ⟨hk, hl0⟩ | ⟨hk, hl0⟩ | hk
    · subst hk
      rcases (show N % 3 = 0 ∨ N % 3 = 1 ∨ N % 3 = 2 by omega) with h3 | h3 | h3
      all_goals
        go_wp2
        all_goals go_meet
        all_goals (cases o <;> (first | exact ⟨_, 1, rfl, by omega, by omega, rfl, by decide, by unfold Fits; decide, by first | exact Below.refl _ _ | exact below_new _ _⟩ | exact ⟨_, 2, rfl, by omega, by omega, rfl, by decide, by unfold Fits; decide, by first | exact Below.refl _ _ | exact below_new _ _⟩ | exact ⟨_, 3, rfl, by omega, by omega, rfl, by decide, by unfold Fits; decide, by first | exact Below.refl _ _ | exact below_new _ _⟩ | exact ⟨_, 4, rfl, by omega, by omega, rfl, by decide, by unfold Fits; decide, by first | exact Below.refl _ _ | exact below_new _ _⟩ | exact ⟨_, 5, rfl, by omega, by omega, rfl, by decide, by unfold Fits; decide, by first | exact Below.refl _ _ | exact below_new _ _⟩ | exact ⟨_, 6, rfl, by omega, by omega, rfl, by decide, by unfold Fits; decide, by first | exact Below.refl _ _ | exact below_new _ _⟩ | exact ⟨_, 7, rfl, by omega, by omega, rfl, by decide, by unfold Fits; decide, by first | exact Below.refl _ _ | exact below_new _ _⟩ | exact ⟨_, 8, rfl, by omega, by omega, rfl, by decide, by unfold Fits; decide, by first | exact Below.refl _ _ | exact below_new _ _⟩ | exact ⟨_, 9, rfl, by omega, by omega, rfl, by decide, by unfold Fits; decide, by first | exact Below.refl _ _ | exact below_new _ _⟩ | exact ⟨_, 10, rfl, by omega, by omega, rfl, by decide, by unfold Fits; decide, by first | exact Below.refl _ _ | exact below_new _ _⟩ | exact ⟨_, 11, rfl, by omega, by omega, rfl, by decide, by unfold Fits; decide, by first | exact Below.refl _ _ | exact below_new _ _⟩ | exact ⟨_, 12, rfl, by omega, by omega, rfl, by decide, by unfold Fits; decide, by first | exact Below.refl _ _ | exact below_new _ _⟩ | exact ⟨_, 13, rfl, by omega, by omega, rfl, by decide, by unfold Fits; decide, by first | exact Below.refl _ _ | exact below_new _ _⟩ | exact ⟨_, 14, rfl, by omega, by omega, rfl, by decide, by unfold Fits; decide, by first | exact Below.refl _ _ | exact below_new _ _⟩ | exact ⟨_, 15, rfl, by omega, by omega, rfl, by decide, by unfold Fits; decide, by first | exact Below.refl _ _ | exact below_new _ _⟩ | exact ⟨_, 16, rfl, by omega, by omega, rfl, by decide, by unfold Fits; decide, by first | exact Below.refl _ _ | exact below_new _ _⟩ | exact ⟨_, 17, rfl, by omega, by omega, rfl, by decide, by unfold Fits; decide, by first | exact Below.refl _ _ | exact below_new _ _⟩))
    · subst hk
      have hl1 : ¬ (0 : Int) < (ps.length : Int) := by omega
      have HL0 := Lib.hid hl0
      clear hl0
      go_upto_if 53 with fail
      cases o with
      | false =>
        cases plain with
        | true =>
          rcases (show N % 5 = 0 ∨ N % 5 = 1 ∨ N % 5 = 2 ∨ N % 5 = 3 ∨ N % 5 = 4 by omega) with h3 | h3 | h3 | h3 | h3
          all_goals
            go_wp2
            all_goals go_meet
            all_goals (first | exact ⟨_, 1, rfl, by omega, by omega, rfl, by decide, by unfold Fits; decide, by first | exact Below.refl _ _ | exact below_new _ _⟩ | exact ⟨_, 2, rfl, by omega, by omega, rfl, by decide, by unfold Fits; decide, by first | exact Below.refl _ _ | exact below_new _ _⟩ | exact ⟨_, 3, rfl, by omega, by omega, rfl, by decide, by unfold Fits; decide, by first | exact Below.refl _ _ | exact below_new _ _⟩ | exact ⟨_, 4, rfl, by omega, by omega, rfl, by decide, by unfold Fits; decide, by first | exact Below.refl _ _ | exact below_new _ _⟩ | exact ⟨_, 5, rfl, by omega, by omega, rfl, by decide, by unfold Fits; decide, by first | exact Below.refl _ _ | exact below_new _ _⟩ | exact ⟨_, 6, rfl, by omega, by omega, rfl, by decide, by unfold Fits; decide, by first | exact Below.refl _ _ | exact below_new _ _⟩ | exact ⟨_, 7, rfl, by omega, by omega, rfl, by decide, by unfold Fits; decide, by first | exact Below.refl _ _ | exact below_new _ _⟩ | exact ⟨_, 8, rfl, by omega, by omega, rfl, by decide, by unfold Fits; decide, by first | exact Below.refl _ _ | exact below_new _ _⟩ | exact ⟨_, 9, rfl, by omega, by omega, rfl, by decide, by unfold Fits; decide, by first | exact Below.refl _ _ | exact below_new _ _⟩ | exact ⟨_, 10, rfl, by omega, by omega, rfl, by decide, by unfold Fits; decide, by first | exact Below.refl _ _ | exact below_new _ _⟩ | exact ⟨_, 11, rfl, by omega, by omega, rfl, by decide, by unfold Fits; decide, by first | exact Below.refl _ _ | exact below_new _ _⟩ | exact ⟨_, 12, rfl, by omega, by omega, rfl, by decide, by unfold Fits; decide, by first | exact Below.refl _ _ | exact below_new _ _⟩ | exact ⟨_, 13, rfl, by omega, by omega, rfl, by decide, by unfold Fits; decide, by first | exact Below.refl _ _ | exact below_new _ _⟩ | exact ⟨_, 14, rfl, by omega, by omega, rfl, by decide, by unfold Fits; decide, by first | exact Below.refl _ _ | exact below_new _ _⟩ | exact ⟨_, 15, rfl, by omega, by omega, rfl, by decide, by unfold Fits; decide, by first | exact Below.refl _ _ | exact below_new _ _⟩ | exact ⟨_, 16, rfl, by omega, by omega, rfl, by decide, by unfold Fits; decide, by first | exact Below.refl _ _ | exact below_new _ _⟩ | exact ⟨_, 17, rfl, by omega, by omega, rfl, by decide, by unfold Fits; decide, by first | exact Below.refl _ _ | exact below_new _ _⟩)
        | false =>
          go_wp2
          all_goals go_meet
          all_goals (first | exact ⟨_, 1, rfl, by omega, by omega, rfl, by decide, by unfold Fits; decide, by first | exact Below.refl _ _ | exact below_new _ _⟩ | exact ⟨_, 2, rfl, by omega, by omega, rfl, by decide, by unfold Fits; decide, by first | exact Below.refl _ _ | exact below_new _ _⟩ | exact ⟨_, 3, rfl, by omega, by omega, rfl, by decide, by unfold Fits; decide, by first | exact Below.refl _ _ | exact below_new _ _⟩ | exact ⟨_, 4, rfl, by omega, by omega, rfl, by decide, by unfold Fits; decide, by first | exact Below.refl _ _ | exact below_new _ _⟩ | exact ⟨_, 5, rfl, by omega, by omega, rfl, by decide, by unfold Fits; decide, by first | exact Below.refl _ _ | exact below_new _ _⟩ | exact ⟨_, 6, rfl, by omega, by omega, rfl, by decide, by unfold Fits; decide, by first | exact Below.refl _ _ | exact below_new _ _⟩ | exact ⟨_, 7, rfl, by omega, by omega, rfl, by decide, by unfold Fits; decide, by first | exact Below.refl _ _ | exact below_new _ _⟩ | exact ⟨_, 8, rfl, by omega, by omega, rfl, by decide, by unfold Fits; decide, by first | exact Below.refl _ _ | exact below_new _ _⟩ | exact ⟨_, 9, rfl, by omega, by omega, rfl, by decide, by unfold Fits; decide, by first | exact Below.refl _ _ | exact below_new _ _⟩ | exact ⟨_, 10, rfl, by omega, by omega, rfl, by decide, by unfold Fits; decide, by first | exact Below.refl _ _ | exact below_new _ _⟩ | exact ⟨_, 11, rfl, by omega, by omega, rfl, by decide, by unfold Fits; decide, by first | exact Below.refl _ _ | exact below_new _ _⟩ | exact ⟨_, 12, rfl, by omega, by omega, rfl, by decide, by unfold Fits; decide, by first | exact Below.refl _ _ | exact below_new _ _⟩ | exact ⟨_, 13, rfl, by omega, by omega, rfl, by decide, by unfold Fits; decide, by first | exact Below.refl _ _ | exact below_new _ _⟩ | exact ⟨_, 14, rfl, by omega, by omega, rfl, by decide, by unfold Fits; decide, by first | exact Below.refl _ _ | exact below_new _ _⟩ | exact ⟨_, 15, rfl, by omega, by omega, rfl, by decide, by unfold Fits; decide, by first | exact Below.refl _ _ | exact below_new _ _⟩ | exact ⟨_, 16, rfl, by omega, by omega, rfl, by decide, by unfold Fits; decide, by first | exact Below.refl _ _ | exact below_new _ _⟩ | exact ⟨_, 17, rfl, by omega, by omega, rfl, by decide, by unfold Fits; decide, by first | exact Below.refl _ _ | exact below_new _ _⟩)
      | true =>
        go_wp2
        all_goals go_meet
        all_goals (first | exact ⟨_, 1, rfl, by omega, by omega, rfl, by decide, by unfold Fits; decide, by first | exact Below.refl _ _ | exact below_new _ _⟩ | exact ⟨_, 2, rfl, by omega, by omega, rfl, by decide, by unfold Fits; decide, by first | exact Below.refl _ _ | exact below_new _ _⟩ | exact ⟨_, 3, rfl, by omega, by omega, rfl, by decide, by unfold Fits; decide, by first | exact Below.refl _ _ | exact below_new _ _⟩ | exact ⟨_, 4, rfl, by omega, by omega, rfl, by decide, by unfold Fits; decide, by first | exact Below.refl _ _ | exact below_new _ _⟩ | exact ⟨_, 5, rfl, by omega, by omega, rfl, by decide, by unfold Fits; decide, by first | exact Below.refl _ _ | exact below_new _ _⟩ | exact ⟨_, 6, rfl, by omega, by omega, rfl, by decide, by unfold Fits; decide, by first | exact Below.refl _ _ | exact below_new _ _⟩ | exact ⟨_, 7, rfl, by omega, by omega, rfl, by decide, by unfold Fits; decide, by first | exact Below.refl _ _ | exact below_new _ _⟩ | exact ⟨_, 8, rfl, by omega, by omega, rfl, by decide, by unfold Fits; decide, by first | exact Below.refl _ _ | exact below_new _ _⟩ | exact ⟨_, 9, rfl, by omega, by omega, rfl, by decide, by unfold Fits; decide, by first | exact Below.refl _ _ | exact below_new _ _⟩ | exact ⟨_, 10, rfl, by omega, by omega, rfl, by decide, by unfold Fits; decide, by first | exact Below.refl _ _ | exact below_new _ _⟩ | exact ⟨_, 11, rfl, by omega, by omega, rfl, by decide, by unfold Fits; decide, by first | exact Below.refl _ _ | exact below_new _ _⟩ | exact ⟨_, 12, rfl, by omega, by omega, rfl, by decide, by unfold Fits; decide, by first | exact Below.refl _ _ | exact below_new _ _⟩ | exact ⟨_, 13, rfl, by omega, by omega, rfl, by decide, by unfold Fits; decide, by first | exact Below.refl _ _ | exact below_new _ _⟩ | exact ⟨_, 14, rfl, by omega, by omega, rfl, by decide, by unfold Fits; decide, by first | exact Below.refl _ _ | exact below_new _ _⟩ | exact ⟨_, 15, rfl, by omega, by omega, rfl, by decide, by unfold Fits; decide, by first | exact Below.refl _ _ | exact below_new _ _⟩ | exact ⟨_, 16, rfl, by omega, by omega, rfl, by decide, by unfold Fits; decide, by first | exact Below.refl _ _ | exact below_new _ _⟩ | exact ⟨_, 17, rfl, by omega, by omega, rfl, by decide, by unfold Fits; decide, by first | exact Below.refl _ _ | exact below_new _ _⟩)
    · go_upto_if 53 with fail
      cases o with
      | false =>
        by_cases hk7 : κ < 7
        · cases plain with
          | true =>
            rcases (show N % 5 = 0 ∨ N % 5 = 1 ∨ N % 5 = 2 ∨ N % 5 = 3 ∨ N % 5 = 4 by omega) with h3 | h3 | h3 | h3 | h3
            all_goals
              go_wp2
              all_goals go_meet
              all_goals (first | exact ⟨_, 1, rfl, by omega, by omega, rfl, by decide, by unfold Fits; decide, by first | exact Below.refl _ _ | exact below_new _ _⟩ | exact ⟨_, 2, rfl, by omega, by omega, rfl, by decide, by unfold Fits; decide, by first | exact Below.refl _ _ | exact below_new _ _⟩ | exact ⟨_, 3, rfl, by omega, by omega, rfl, by decide, by unfold Fits; decide, by first | exact Below.refl _ _ | exact below_new _ _⟩ | exact ⟨_, 4, rfl, by omega, by omega, rfl, by decide, by unfold Fits; decide, by first | exact Below.refl _ _ | exact below_new _ _⟩ | exact ⟨_, 5, rfl, by omega, by omega, rfl, by decide, by unfold Fits; decide, by first | exact Below.refl _ _ | exact below_new _ _⟩ | exact ⟨_, 6, rfl, by omega, by omega, rfl, by decide, by unfold Fits; decide, by first | exact Below.refl _ _ | exact below_new _ _⟩ | exact ⟨_, 7, rfl, by omega, by omega, rfl, by decide, by unfold Fits; decide, by first | exact Below.refl _ _ | exact below_new _ _⟩ | exact ⟨_, 8, rfl, by omega, by omega, rfl, by decide, by unfold Fits; decide, by first | exact Below.refl _ _ | exact below_new _ _⟩ | exact ⟨_, 9, rfl, by omega, by omega, rfl, by decide, by unfold Fits; decide, by first | exact Below.refl _ _ | exact below_new _ _⟩ | exact ⟨_, 10, rfl, by omega, by omega, rfl, by decide, by unfold Fits; decide, by first | exact Below.refl _ _ | exact below_new _ _⟩ | exact ⟨_, 11, rfl, by omega, by omega, rfl, by decide, by unfold Fits; decide, by first | exact Below.refl _ _ | exact below_new _ _⟩ | exact ⟨_, 12, rfl, by omega, by omega, rfl, by decide, by unfold Fits; decide, by first | exact Below.refl _ _ | exact below_new _ _⟩ | exact ⟨_, 13, rfl, by omega, by omega, rfl, by decide, by unfold Fits; decide, by first | exact Below.refl _ _ | exact below_new _ _⟩ | exact ⟨_, 14, rfl, by omega, by omega, rfl, by decide, by unfold Fits; decide, by first | exact Below.refl _ _ | exact below_new _ _⟩ | exact ⟨_, 15, rfl, by omega, by omega, rfl, by decide, by unfold Fits; decide, by first | exact Below.refl _ _ | exact below_new _ _⟩ | exact ⟨_, 16, rfl, by omega, by omega, rfl, by decide, by unfold Fits; decide, by first | exact Below.refl _ _ | exact below_new _ _⟩ | exact ⟨_, 17, rfl, by omega, by omega, rfl, by decide, by unfold Fits; decide, by first | exact Below.refl _ _ | exact below_new _ _⟩)
          | false =>
            go_wp2
            all_goals go_meet
            all_goals (first | exact ⟨_, 1, rfl, by omega, by omega, rfl, by decide, by unfold Fits; decide, by first | exact Below.refl _ _ | exact below_new _ _⟩ | exact ⟨_, 2, rfl, by omega, by omega, rfl, by decide, by unfold Fits; decide, by first | exact Below.refl _ _ | exact below_new _ _⟩ | exact ⟨_, 3, rfl, by omega, by omega, rfl, by decide, by unfold Fits; decide, by first | exact Below.refl _ _ | exact below_new _ _⟩ | exact ⟨_, 4, rfl, by omega, by omega, rfl, by decide, by unfold Fits; decide, by first | exact Below.refl _ _ | exact below_new _ _⟩ | exact ⟨_, 5, rfl, by omega, by omega, rfl, by decide, by unfold Fits; decide, by first | exact Below.refl _ _ | exact below_new _ _⟩ | exact ⟨_, 6, rfl, by omega, by omega, rfl, by decide, by unfold Fits; decide, by first | exact Below.refl _ _ | exact below_new _ _⟩ | exact ⟨_, 7, rfl, by omega, by omega, rfl, by decide, by unfold Fits; decide, by first | exact Below.refl _ _ | exact below_new _ _⟩ | exact ⟨_, 8, rfl, by omega, by omega, rfl, by decide, by unfold Fits; decide, by first | exact Below.refl _ _ | exact below_new _ _⟩ | exact ⟨_, 9, rfl, by omega, by omega, rfl, by decide, by unfold Fits; decide, by first | exact Below.refl _ _ | exact below_new _ _⟩ | exact ⟨_, 10, rfl, by omega, by omega, rfl, by decide, by unfold Fits; decide, by first | exact Below.refl _ _ | exact below_new _ _⟩ | exact ⟨_, 11, rfl, by omega, by omega, rfl, by decide, by unfold Fits; decide, by first | exact Below.refl _ _ | exact below_new _ _⟩ | exact ⟨_, 12, rfl, by omega, by omega, rfl, by decide, by unfold Fits; decide, by first | exact Below.refl _ _ | exact below_new _ _⟩ | exact ⟨_, 13, rfl, by omega, by omega, rfl, by decide, by unfold Fits; decide, by first | exact Below.refl _ _ | exact below_new _ _⟩ | exact ⟨_, 14, rfl, by omega, by omega, rfl, by decide, by unfold Fits; decide, by first | exact Below.refl _ _ | exact below_new _ _⟩ | exact ⟨_, 15, rfl, by omega, by omega, rfl, by decide, by unfold Fits; decide, by first | exact Below.refl _ _ | exact below_new _ _⟩ | exact ⟨_, 16, rfl, by omega, by omega, rfl, by decide, by unfold Fits; decide, by first | exact Below.refl _ _ | exact below_new _ _⟩ | exact ⟨_, 17, rfl, by omega, by omega, rfl, by decide, by unfold Fits; decide, by first | exact Below.refl _ _ | exact below_new _ _⟩)
        · go_upto_if 68 with fail
          by_cases hk8 : κ = 7
          · subst hk8
            go_wp2
            all_goals go_meet
            all_goals (first | exact ⟨_, 1, rfl, by omega, by omega, rfl, by decide, by unfold Fits; decide, by first | exact Below.refl _ _ | exact below_new _ _⟩ | exact ⟨_, 2, rfl, by omega, by omega, rfl, by decide, by unfold Fits; decide, by first | exact Below.refl _ _ | exact below_new _ _⟩ | exact ⟨_, 3, rfl, by omega, by omega, rfl, by decide, by unfold Fits; decide, by first | exact Below.refl _ _ | exact below_new _ _⟩ | exact ⟨_, 4, rfl, by omega, by omega, rfl, by decide, by unfold Fits; decide, by first | exact Below.refl _ _ | exact below_new _ _⟩ | exact ⟨_, 5, rfl, by omega, by omega, rfl, by decide, by unfold Fits; decide, by first | exact Below.refl _ _ | exact below_new _ _⟩ | exact ⟨_, 6, rfl, by omega, by omega, rfl, by decide, by unfold Fits; decide, by first | exact Below.refl _ _ | exact below_new _ _⟩ | exact ⟨_, 7, rfl, by omega, by omega, rfl, by decide, by unfold Fits; decide, by first | exact Below.refl _ _ | exact below_new _ _⟩ | exact ⟨_, 8, rfl, by omega, by omega, rfl, by decide, by unfold Fits; decide, by first | exact Below.refl _ _ | exact below_new _ _⟩ | exact ⟨_, 9, rfl, by omega, by omega, rfl, by decide, by unfold Fits; decide, by first | exact Below.refl _ _ | exact below_new _ _⟩ | exact ⟨_, 10, rfl, by omega, by omega, rfl, by decide, by unfold Fits; decide, by first | exact Below.refl _ _ | exact below_new _ _⟩ | exact ⟨_, 11, rfl, by omega, by omega, rfl, by decide, by unfold Fits; decide, by first | exact Below.refl _ _ | exact below_new _ _⟩ | exact ⟨_, 12, rfl, by omega, by omega, rfl, by decide, by unfold Fits; decide, by first | exact Below.refl _ _ | exact below_new _ _⟩ | exact ⟨_, 13, rfl, by omega, by omega, rfl, by decide, by unfold Fits; decide, by first | exact Below.refl _ _ | exact below_new _ _⟩ | exact ⟨_, 14, rfl, by omega, by omega, rfl, by decide, by unfold Fits; decide, by first | exact Below.refl _ _ | exact below_new _ _⟩ | exact ⟨_, 15, rfl, by omega, by omega, rfl, by decide, by unfold Fits; decide, by first | exact Below.refl _ _ | exact below_new _ _⟩ | exact ⟨_, 16, rfl, by omega, by omega, rfl, by decide, by unfold Fits; decide, by first | exact Below.refl _ _ | exact below_new _ _⟩ | exact ⟨_, 17, rfl, by omega, by omega, rfl, by decide, by unfold Fits; decide, by first | exact Below.refl _ _ | exact below_new _ _⟩)
          · have hk8' : (κ == 7) = false := beq_eq_false_iff_ne.2 hk8
            go_wp2
            all_goals go_meet
            all_goals (first | exact ⟨_, 1, rfl, by omega, by omega, rfl, by decide, by unfold Fits; decide, by first | exact Below.refl _ _ | exact below_new _ _⟩ | exact ⟨_, 2, rfl, by omega, by omega, rfl, by decide, by unfold Fits; decide, by first | exact Below.refl _ _ | exact below_new _ _⟩ | exact ⟨_, 3, rfl, by omega, by omega, rfl, by decide, by unfold Fits; decide, by first | exact Below.refl _ _ | exact below_new _ _⟩ | exact ⟨_, 4, rfl, by omega, by omega, rfl, by decide, by unfold Fits; decide, by first | exact Below.refl _ _ | exact below_new _ _⟩ | exact ⟨_, 5, rfl, by omega, by omega, rfl, by decide, by unfold Fits; decide, by first | exact Below.refl _ _ | exact below_new _ _⟩ | exact ⟨_, 6, rfl, by omega, by omega, rfl, by decide, by unfold Fits; decide, by first | exact Below.refl _ _ | exact below_new _ _⟩ | exact ⟨_, 7, rfl, by omega, by omega, rfl, by decide, by unfold Fits; decide, by first | exact Below.refl _ _ | exact below_new _ _⟩ | exact ⟨_, 8, rfl, by omega, by omega, rfl, by decide, by unfold Fits; decide, by first | exact Below.refl _ _ | exact below_new _ _⟩ | exact ⟨_, 9, rfl, by omega, by omega, rfl, by decide, by unfold Fits; decide, by first | exact Below.refl _ _ | exact below_new _ _⟩ | exact ⟨_, 10, rfl, by omega, by omega, rfl, by decide, by unfold Fits; decide, by first | exact Below.refl _ _ | exact below_new _ _⟩ | exact ⟨_, 11, rfl, by omega, by omega, rfl, by decide, by unfold Fits; decide, by first | exact Below.refl _ _ | exact below_new _ _⟩ | exact ⟨_, 12, rfl, by omega, by omega, rfl, by decide, by unfold Fits; decide, by first | exact Below.refl _ _ | exact below_new _ _⟩ | exact ⟨_, 13, rfl, by omega, by omega, rfl, by decide, by unfold Fits; decide, by first | exact Below.refl _ _ | exact below_new _ _⟩ | exact ⟨_, 14, rfl, by omega, by omega, rfl, by decide, by unfold Fits; decide, by first | exact Below.refl _ _ | exact below_new _ _⟩ | exact ⟨_, 15, rfl, by omega, by omega, rfl, by decide, by unfold Fits; decide, by first | exact Below.refl _ _ | exact below_new _ _⟩ | exact ⟨_, 16, rfl, by omega, by omega, rfl, by decide, by unfold Fits; decide, by first | exact Below.refl _ _ | exact below_new _ _⟩ | exact ⟨_, 17, rfl, by omega, by omega, rfl, by decide, by unfold Fits; decide, by first | exact Below.refl _ _ | exact below_new _ _⟩)
      | true =>
        go_upto_if 92 with fail
        by_cases hk8 : κ < 8
        · skip
          go_wp2
          all_goals go_meet
          all_goals (first | exact ⟨_, 1, rfl, by omega, by omega, rfl, by decide, by unfold Fits; decide, by first | exact Below.refl _ _ | exact below_new _ _⟩ | exact ⟨_, 2, rfl, by omega, by omega, rfl, by decide, by unfold Fits; decide, by first | exact Below.refl _ _ | exact below_new _ _⟩ | exact ⟨_, 3, rfl, by omega, by omega, rfl, by decide, by unfold Fits; decide, by first | exact Below.refl _ _ | exact below_new _ _⟩ | exact ⟨_, 4, rfl, by omega, by omega, rfl, by decide, by unfold Fits; decide, by first | exact Below.refl _ _ | exact below_new _ _⟩ | exact ⟨_, 5, rfl, by omega, by omega, rfl, by decide, by unfold Fits; decide, by first | exact Below.refl _ _ | exact below_new _ _⟩ | exact ⟨_, 6, rfl, by omega, by omega, rfl, by decide, by unfold Fits; decide, by first | exact Below.refl _ _ | exact below_new _ _⟩ | exact ⟨_, 7, rfl, by omega, by omega, rfl, by decide, by unfold Fits; decide, by first | exact Below.refl _ _ | exact below_new _ _⟩ | exact ⟨_, 8, rfl, by omega, by omega, rfl, by decide, by unfold Fits; decide, by first | exact Below.refl _ _ | exact below_new _ _⟩ | exact ⟨_, 9, rfl, by omega, by omega, rfl, by decide, by unfold Fits; decide, by first | exact Below.refl _ _ | exact below_new _ _⟩ | exact ⟨_, 10, rfl, by omega, by omega, rfl, by decide, by unfold Fits; decide, by first | exact Below.refl _ _ | exact below_new _ _⟩ | exact ⟨_, 11, rfl, by omega, by omega, rfl, by decide, by unfold Fits; decide, by first | exact Below.refl _ _ | exact below_new _ _⟩ | exact ⟨_, 12, rfl, by omega, by omega, rfl, by decide, by unfold Fits; decide, by first | exact Below.refl _ _ | exact below_new _ _⟩ | exact ⟨_, 13, rfl, by omega, by omega, rfl, by decide, by unfold Fits; decide, by first | exact Below.refl _ _ | exact below_new _ _⟩ | exact ⟨_, 14, rfl, by omega, by omega, rfl, by decide, by unfold Fits; decide, by first | exact Below.refl _ _ | exact below_new _ _⟩ | exact ⟨_, 15, rfl, by omega, by omega, rfl, by decide, by unfold Fits; decide, by first | exact Below.refl _ _ | exact below_new _ _⟩ | exact ⟨_, 16, rfl, by omega, by omega, rfl, by decide, by unfold Fits; decide, by first | exact Below.refl _ _ | exact below_new _ _⟩ | exact ⟨_, 17, rfl, by omega, by omega, rfl, by decide, by unfold Fits; decide, by first | exact Below.refl _ _ | exact below_new _ _⟩)
        · go_upto_if 95 with fail
          by_cases hk12 : κ < 12
          · skip
            go_wp2
            all_goals go_meet
            all_goals (first | exact ⟨_, 1, rfl, by omega, by omega, rfl, by decide, by unfold Fits; decide, by first | exact Below.refl _ _ | exact below_new _ _⟩ | exact ⟨_, 2, rfl, by omega, by omega, rfl, by decide, by unfold Fits; decide, by first | exact Below.refl _ _ | exact below_new _ _⟩ | exact ⟨_, 3, rfl, by omega, by omega, rfl, by decide, by unfold Fits; decide, by first | exact Below.refl _ _ | exact below_new _ _⟩ | exact ⟨_, 4, rfl, by omega, by omega, rfl, by decide, by unfold Fits; decide, by first | exact Below.refl _ _ | exact below_new _ _⟩ | exact ⟨_, 5, rfl, by omega, by omega, rfl, by decide, by unfold Fits; decide, by first | exact Below.refl _ _ | exact below_new _ _⟩ | exact ⟨_, 6, rfl, by omega, by omega, rfl, by decide, by unfold Fits; decide, by first | exact Below.refl _ _ | exact below_new _ _⟩ | exact ⟨_, 7, rfl, by omega, by omega, rfl, by decide, by unfold Fits; decide, by first | exact Below.refl _ _ | exact below_new _ _⟩ | exact ⟨_, 8, rfl, by omega, by omega, rfl, by decide, by unfold Fits; decide, by first | exact Below.refl _ _ | exact below_new _ _⟩ | exact ⟨_, 9, rfl, by omega, by omega, rfl, by decide, by unfold Fits; decide, by first | exact Below.refl _ _ | exact below_new _ _⟩ | exact ⟨_, 10, rfl, by omega, by omega, rfl, by decide, by unfold Fits; decide, by first | exact Below.refl _ _ | exact below_new _ _⟩ | exact ⟨_, 11, rfl, by omega, by omega, rfl, by decide, by unfold Fits; decide, by first | exact Below.refl _ _ | exact below_new _ _⟩ | exact ⟨_, 12, rfl, by omega, by omega, rfl, by decide, by unfold Fits; decide, by first | exact Below.refl _ _ | exact below_new _ _⟩ | exact ⟨_, 13, rfl, by omega, by omega, rfl, by decide, by unfold Fits; decide, by first | exact Below.refl _ _ | exact below_new _ _⟩ | exact ⟨_, 14, rfl, by omega, by omega, rfl, by decide, by unfold Fits; decide, by first | exact Below.refl _ _ | exact below_new _ _⟩ | exact ⟨_, 15, rfl, by omega, by omega, rfl, by decide, by unfold Fits; decide, by first | exact Below.refl _ _ | exact below_new _ _⟩ | exact ⟨_, 16, rfl, by omega, by omega, rfl, by decide, by unfold Fits; decide, by first | exact Below.refl _ _ | exact below_new _ _⟩ | exact ⟨_, 17, rfl, by omega, by omega, rfl, by decide, by unfold Fits; decide, by first | exact Below.refl _ _ | exact below_new _ _⟩)
          · go_upto_if 98 with fail
            rcases (show κ = 12 ∨ κ = 13 ∨ κ = 14 ∨ κ = 15 by omega) with h4 | h4 | h4 | h4
            · subst h4
              cases heap with
              | true =>
                go_wp2
                all_goals go_meet
                all_goals (first | exact ⟨_, 1, rfl, by omega, by omega, rfl, by decide, by unfold Fits; decide, by first | exact Below.refl _ _ | exact below_new _ _⟩ | exact ⟨_, 2, rfl, by omega, by omega, rfl, by decide, by unfold Fits; decide, by first | exact Below.refl _ _ | exact below_new _ _⟩ | exact ⟨_, 3, rfl, by omega, by omega, rfl, by decide, by unfold Fits; decide, by first | exact Below.refl _ _ | exact below_new _ _⟩ | exact ⟨_, 4, rfl, by omega, by omega, rfl, by decide, by unfold Fits; decide, by first | exact Below.refl _ _ | exact below_new _ _⟩ | exact ⟨_, 5, rfl, by omega, by omega, rfl, by decide, by unfold Fits; decide, by first | exact Below.refl _ _ | exact below_new _ _⟩ | exact ⟨_, 6, rfl, by omega, by omega, rfl, by decide, by unfold Fits; decide, by first | exact Below.refl _ _ | exact below_new _ _⟩ | exact ⟨_, 7, rfl, by omega, by omega, rfl, by decide, by unfold Fits; decide, by first | exact Below.refl _ _ | exact below_new _ _⟩ | exact ⟨_, 8, rfl, by omega, by omega, rfl, by decide, by unfold Fits; decide, by first | exact Below.refl _ _ | exact below_new _ _⟩ | exact ⟨_, 9, rfl, by omega, by omega, rfl, by decide, by unfold Fits; decide, by first | exact Below.refl _ _ | exact below_new _ _⟩ | exact ⟨_, 10, rfl, by omega, by omega, rfl, by decide, by unfold Fits; decide, by first | exact Below.refl _ _ | exact below_new _ _⟩ | exact ⟨_, 11, rfl, by omega, by omega, rfl, by decide, by unfold Fits; decide, by first | exact Below.refl _ _ | exact below_new _ _⟩ | exact ⟨_, 12, rfl, by omega, by omega, rfl, by decide, by unfold Fits; decide, by first | exact Below.refl _ _ | exact below_new _ _⟩ | exact ⟨_, 13, rfl, by omega, by omega, rfl, by decide, by unfold Fits; decide, by first | exact Below.refl _ _ | exact below_new _ _⟩ | exact ⟨_, 14, rfl, by omega, by omega, rfl, by decide, by unfold Fits; decide, by first | exact Below.refl _ _ | exact below_new _ _⟩ | exact ⟨_, 15, rfl, by omega, by omega, rfl, by decide, by unfold Fits; decide, by first | exact Below.refl _ _ | exact below_new _ _⟩ | exact ⟨_, 16, rfl, by omega, by omega, rfl, by decide, by unfold Fits; decide, by first | exact Below.refl _ _ | exact below_new _ _⟩ | exact ⟨_, 17, rfl, by omega, by omega, rfl, by decide, by unfold Fits; decide, by first | exact Below.refl _ _ | exact below_new _ _⟩)
              | false =>
                go_wp2
                all_goals go_meet
                all_goals (first | exact ⟨_, 1, rfl, by omega, by omega, rfl, by decide, by unfold Fits; decide, by first | exact Below.refl _ _ | exact below_new _ _⟩ | exact ⟨_, 2, rfl, by omega, by omega, rfl, by decide, by unfold Fits; decide, by first | exact Below.refl _ _ | exact below_new _ _⟩ | exact ⟨_, 3, rfl, by omega, by omega, rfl, by decide, by unfold Fits; decide, by first | exact Below.refl _ _ | exact below_new _ _⟩ | exact ⟨_, 4, rfl, by omega, by omega, rfl, by decide, by unfold Fits; decide, by first | exact Below.refl _ _ | exact below_new _ _⟩ | exact ⟨_, 5, rfl, by omega, by omega, rfl, by decide, by unfold Fits; decide, by first | exact Below.refl _ _ | exact below_new _ _⟩ | exact ⟨_, 6, rfl, by omega, by omega, rfl, by decide, by unfold Fits; decide, by first | exact Below.refl _ _ | exact below_new _ _⟩ | exact ⟨_, 7, rfl, by omega, by omega, rfl, by decide, by unfold Fits; decide, by first | exact Below.refl _ _ | exact below_new _ _⟩ | exact ⟨_, 8, rfl, by omega, by omega, rfl, by decide, by unfold Fits; decide, by first | exact Below.refl _ _ | exact below_new _ _⟩ | exact ⟨_, 9, rfl, by omega, by omega, rfl, by decide, by unfold Fits; decide, by first | exact Below.refl _ _ | exact below_new _ _⟩ | exact ⟨_, 10, rfl, by omega, by omega, rfl, by decide, by unfold Fits; decide, by first | exact Below.refl _ _ | exact below_new _ _⟩ | exact ⟨_, 11, rfl, by omega, by omega, rfl, by decide, by unfold Fits; decide, by first | exact Below.refl _ _ | exact below_new _ _⟩ | exact ⟨_, 12, rfl, by omega, by omega, rfl, by decide, by unfold Fits; decide, by first | exact Below.refl _ _ | exact below_new _ _⟩ | exact ⟨_, 13, rfl, by omega, by omega, rfl, by decide, by unfold Fits; decide, by first | exact Below.refl _ _ | exact below_new _ _⟩ | exact ⟨_, 14, rfl, by omega, by omega, rfl, by decide, by unfold Fits; decide, by first | exact Below.refl _ _ | exact below_new _ _⟩ | exact ⟨_, 15, rfl, by omega, by omega, rfl, by decide, by unfold Fits; decide, by first | exact Below.refl _ _ | exact below_new _ _⟩ | exact ⟨_, 16, rfl, by omega, by omega, rfl, by decide, by unfold Fits; decide, by first | exact Below.refl _ _ | exact below_new _ _⟩ | exact ⟨_, 17, rfl, by omega, by omega, rfl, by decide, by unfold Fits; decide, by first | exact Below.refl _ _ | exact below_new _ _⟩)
            · subst h4
              cases heap with
              | true =>
                go_wp2
                all_goals go_meet
                all_goals (first | exact ⟨_, 1, rfl, by omega, by omega, rfl, by decide, by unfold Fits; decide, by first | exact Below.refl _ _ | exact below_new _ _⟩ | exact ⟨_, 2, rfl, by omega, by omega, rfl, by decide, by unfold Fits; decide, by first | exact Below.refl _ _ | exact below_new _ _⟩ | exact ⟨_, 3, rfl, by omega, by omega, rfl, by decide, by unfold Fits; decide, by first | exact Below.refl _ _ | exact below_new _ _⟩ | exact ⟨_, 4, rfl, by omega, by omega, rfl, by decide, by unfold Fits; decide, by first | exact Below.refl _ _ | exact below_new _ _⟩ | exact ⟨_, 5, rfl, by omega, by omega, rfl, by decide, by unfold Fits; decide, by first | exact Below.refl _ _ | exact below_new _ _⟩ | exact ⟨_, 6, rfl, by omega, by omega, rfl, by decide, by unfold Fits; decide, by first | exact Below.refl _ _ | exact below_new _ _⟩ | exact ⟨_, 7, rfl, by omega, by omega, rfl, by decide, by unfold Fits; decide, by first | exact Below.refl _ _ | exact below_new _ _⟩ | exact ⟨_, 8, rfl, by omega, by omega, rfl, by decide, by unfold Fits; decide, by first | exact Below.refl _ _ | exact below_new _ _⟩ | exact ⟨_, 9, rfl, by omega, by omega, rfl, by decide, by unfold Fits; decide, by first | exact Below.refl _ _ | exact below_new _ _⟩ | exact ⟨_, 10, rfl, by omega, by omega, rfl, by decide, by unfold Fits; decide, by first | exact Below.refl _ _ | exact below_new _ _⟩ | exact ⟨_, 11, rfl, by omega, by omega, rfl, by decide, by unfold Fits; decide, by first | exact Below.refl _ _ | exact below_new _ _⟩ | exact ⟨_, 12, rfl, by omega, by omega, rfl, by decide, by unfold Fits; decide, by first | exact Below.refl _ _ | exact below_new _ _⟩ | exact ⟨_, 13, rfl, by omega, by omega, rfl, by decide, by unfold Fits; decide, by first | exact Below.refl _ _ | exact below_new _ _⟩ | exact ⟨_, 14, rfl, by omega, by omega, rfl, by decide, by unfold Fits; decide, by first | exact Below.refl _ _ | exact below_new _ _⟩ | exact ⟨_, 15, rfl, by omega, by omega, rfl, by decide, by unfold Fits; decide, by first | exact Below.refl _ _ | exact below_new _ _⟩ | exact ⟨_, 16, rfl, by omega, by omega, rfl, by decide, by unfold Fits; decide, by first | exact Below.refl _ _ | exact below_new _ _⟩ | exact ⟨_, 17, rfl, by omega, by omega, rfl, by decide, by unfold Fits; decide, by first | exact Below.refl _ _ | exact below_new _ _⟩)
              | false =>
                go_wp2
                all_goals go_meet
                all_goals (first | exact ⟨_, 1, rfl, by omega, by omega, rfl, by decide, by unfold Fits; decide, by first | exact Below.refl _ _ | exact below_new _ _⟩ | exact ⟨_, 2, rfl, by omega, by omega, rfl, by decide, by unfold Fits; decide, by first | exact Below.refl _ _ | exact below_new _ _⟩ | exact ⟨_, 3, rfl, by omega, by omega, rfl, by decide, by unfold Fits; decide, by first | exact Below.refl _ _ | exact below_new _ _⟩ | exact ⟨_, 4, rfl, by omega, by omega, rfl, by decide, by unfold Fits; decide, by first | exact Below.refl _ _ | exact below_new _ _⟩ | exact ⟨_, 5, rfl, by omega, by omega, rfl, by decide, by unfold Fits; decide, by first | exact Below.refl _ _ | exact below_new _ _⟩ | exact ⟨_, 6, rfl, by omega, by omega, rfl, by decide, by unfold Fits; decide, by first | exact Below.refl _ _ | exact below_new _ _⟩ | exact ⟨_, 7, rfl, by omega, by omega, rfl, by decide, by unfold Fits; decide, by first | exact Below.refl _ _ | exact below_new _ _⟩ | exact ⟨_, 8, rfl, by omega, by omega, rfl, by decide, by unfold Fits; decide, by first | exact Below.refl _ _ | exact below_new _ _⟩ | exact ⟨_, 9, rfl, by omega, by omega, rfl, by decide, by unfold Fits; decide, by first | exact Below.refl _ _ | exact below_new _ _⟩ | exact ⟨_, 10, rfl, by omega, by omega, rfl, by decide, by unfold Fits; decide, by first | exact Below.refl _ _ | exact below_new _ _⟩ | exact ⟨_, 11, rfl, by omega, by omega, rfl, by decide, by unfold Fits; decide, by first | exact Below.refl _ _ | exact below_new _ _⟩ | exact ⟨_, 12, rfl, by omega, by omega, rfl, by decide, by unfold Fits; decide, by first | exact Below.refl _ _ | exact below_new _ _⟩ | exact ⟨_, 13, rfl, by omega, by omega, rfl, by decide, by unfold Fits; decide, by first | exact Below.refl _ _ | exact below_new _ _⟩ | exact ⟨_, 14, rfl, by omega, by omega, rfl, by decide, by unfold Fits; decide, by first | exact Below.refl _ _ | exact below_new _ _⟩ | exact ⟨_, 15, rfl, by omega, by omega, rfl, by decide, by unfold Fits; decide, by first | exact Below.refl _ _ | exact below_new _ _⟩ | exact ⟨_, 16, rfl, by omega, by omega, rfl, by decide, by unfold Fits; decide, by first | exact Below.refl _ _ | exact below_new _ _⟩ | exact ⟨_, 17, rfl, by omega, by omega, rfl, by decide, by unfold Fits; decide, by first | exact Below.refl _ _ | exact below_new _ _⟩)
            · subst h4
              by_cases h5 : N % 4 = 0
              · skip
                go_wp2
                all_goals go_meet
                all_goals (first | exact ⟨_, 1, rfl, by omega, by omega, rfl, by decide, by unfold Fits; decide, by first | exact Below.refl _ _ | exact below_new _ _⟩ | exact ⟨_, 2, rfl, by omega, by omega, rfl, by decide, by unfold Fits; decide, by first | exact Below.refl _ _ | exact below_new _ _⟩ | exact ⟨_, 3, rfl, by omega, by omega, rfl, by decide, by unfold Fits; decide, by first | exact Below.refl _ _ | exact below_new _ _⟩ | exact ⟨_, 4, rfl, by omega, by omega, rfl, by decide, by unfold Fits; decide, by first | exact Below.refl _ _ | exact below_new _ _⟩ | exact ⟨_, 5, rfl, by omega, by omega, rfl, by decide, by unfold Fits; decide, by first | exact Below.refl _ _ | exact below_new _ _⟩ | exact ⟨_, 6, rfl, by omega, by omega, rfl, by decide, by unfold Fits; decide, by first | exact Below.refl _ _ | exact below_new _ _⟩ | exact ⟨_, 7, rfl, by omega, by omega, rfl, by decide, by unfold Fits; decide, by first | exact Below.refl _ _ | exact below_new _ _⟩ | exact ⟨_, 8, rfl, by omega, by omega, rfl, by decide, by unfold Fits; decide, by first | exact Below.refl _ _ | exact below_new _ _⟩ | exact ⟨_, 9, rfl, by omega, by omega, rfl, by decide, by unfold Fits; decide, by first | exact Below.refl _ _ | exact below_new _ _⟩ | exact ⟨_, 10, rfl, by omega, by omega, rfl, by decide, by unfold Fits; decide, by first | exact Below.refl _ _ | exact below_new _ _⟩ | exact ⟨_, 11, rfl, by omega, by omega, rfl, by decide, by unfold Fits; decide, by first | exact Below.refl _ _ | exact below_new _ _⟩ | exact ⟨_, 12, rfl, by omega, by omega, rfl, by decide, by unfold Fits; decide, by first | exact Below.refl _ _ | exact below_new _ _⟩ | exact ⟨_, 13, rfl, by omega, by omega, rfl, by decide, by unfold Fits; decide, by first | exact Below.refl _ _ | exact below_new _ _⟩ | exact ⟨_, 14, rfl, by omega, by omega, rfl, by decide, by unfold Fits; decide, by first | exact Below.refl _ _ | exact below_new _ _⟩ | exact ⟨_, 15, rfl, by omega, by omega, rfl, by decide, by unfold Fits; decide, by first | exact Below.refl _ _ | exact below_new _ _⟩ | exact ⟨_, 16, rfl, by omega, by omega, rfl, by decide, by unfold Fits; decide, by first | exact Below.refl _ _ | exact below_new _ _⟩ | exact ⟨_, 17, rfl, by omega, by omega, rfl, by decide, by unfold Fits; decide, by first | exact Below.refl _ _ | exact below_new _ _⟩)
              · have h5' : (N % 4 == 0) = false := beq_eq_false_iff_ne.2 h5
                go_wp2
                all_goals go_meet
                all_goals (first | exact ⟨_, 1, rfl, by omega, by omega, rfl, by decide, by unfold Fits; decide, by first | exact Below.refl _ _ | exact below_new _ _⟩ | exact ⟨_, 2, rfl, by omega, by omega, rfl, by decide, by unfold Fits; decide, by first | exact Below.refl _ _ | exact below_new _ _⟩ | exact ⟨_, 3, rfl, by omega, by omega, rfl, by decide, by unfold Fits; decide, by first | exact Below.refl _ _ | exact below_new _ _⟩ | exact ⟨_, 4, rfl, by omega, by omega, rfl, by decide, by unfold Fits; decide, by first | exact Below.refl _ _ | exact below_new _ _⟩ | exact ⟨_, 5, rfl, by omega, by omega, rfl, by decide, by unfold Fits; decide, by first | exact Below.refl _ _ | exact below_new _ _⟩ | exact ⟨_, 6, rfl, by omega, by omega, rfl, by decide, by unfold Fits; decide, by first | exact Below.refl _ _ | exact below_new _ _⟩ | exact ⟨_, 7, rfl, by omega, by omega, rfl, by decide, by unfold Fits; decide, by first | exact Below.refl _ _ | exact below_new _ _⟩ | exact ⟨_, 8, rfl, by omega, by omega, rfl, by decide, by unfold Fits; decide, by first | exact Below.refl _ _ | exact below_new _ _⟩ | exact ⟨_, 9, rfl, by omega, by omega, rfl, by decide, by unfold Fits; decide, by first | exact Below.refl _ _ | exact below_new _ _⟩ | exact ⟨_, 10, rfl, by omega, by omega, rfl, by decide, by unfold Fits; decide, by first | exact Below.refl _ _ | exact below_new _ _⟩ | exact ⟨_, 11, rfl, by omega, by omega, rfl, by decide, by unfold Fits; decide, by first | exact Below.refl _ _ | exact below_new _ _⟩ | exact ⟨_, 12, rfl, by omega, by omega, rfl, by decide, by unfold Fits; decide, by first | exact Below.refl _ _ | exact below_new _ _⟩ | exact ⟨_, 13, rfl, by omega, by omega, rfl, by decide, by unfold Fits; decide, by first | exact Below.refl _ _ | exact below_new _ _⟩ | exact ⟨_, 14, rfl, by omega, by omega, rfl, by decide, by unfold Fits; decide, by first | exact Below.refl _ _ | exact below_new _ _⟩ | exact ⟨_, 15, rfl, by omega, by omega, rfl, by decide, by unfold Fits; decide, by first | exact Below.refl _ _ | exact below_new _ _⟩ | exact ⟨_, 16, rfl, by omega, by omega, rfl, by decide, by unfold Fits; decide, by first | exact Below.refl _ _ | exact below_new _ _⟩ | exact ⟨_, 17, rfl, by omega, by omega, rfl, by decide, by unfold Fits; decide, by first | exact Below.refl _ _ | exact below_new _ _⟩)
            · subst h4
              go_wp2
              all_goals go_meet
              all_goals (first | exact ⟨_, 1, rfl, by omega, by omega, rfl, by decide, by unfold Fits; decide, by first | exact Below.refl _ _ | exact below_new _ _⟩ | exact ⟨_, 2, rfl, by omega, by omega, rfl, by decide, by unfold Fits; decide, by first | exact Below.refl _ _ | exact below_new _ _⟩ | exact ⟨_, 3, rfl, by omega, by omega, rfl, by decide, by unfold Fits; decide, by first | exact Below.refl _ _ | exact below_new _ _⟩ | exact ⟨_, 4, rfl, by omega, by omega, rfl, by decide, by unfold Fits; decide, by first | exact Below.refl _ _ | exact below_new _ _⟩ | exact ⟨_, 5, rfl, by omega, by omega, rfl, by decide, by unfold Fits; decide, by first | exact Below.refl _ _ | exact below_new _ _⟩ | exact ⟨_, 6, rfl, by omega, by omega, rfl, by decide, by unfold Fits; decide, by first | exact Below.refl _ _ | exact below_new _ _⟩ | exact ⟨_, 7, rfl, by omega, by omega, rfl, by decide, by unfold Fits; decide, by first | exact Below.refl _ _ | exact below_new _ _⟩ | exact ⟨_, 8, rfl, by omega, by omega, rfl, by decide, by unfold Fits; decide, by first | exact Below.refl _ _ | exact below_new _ _⟩ | exact ⟨_, 9, rfl, by omega, by omega, rfl, by decide, by unfold Fits; decide, by first | exact Below.refl _ _ | exact below_new _ _⟩ | exact ⟨_, 10, rfl, by omega, by omega, rfl, by decide, by unfold Fits; decide, by first | exact Below.refl _ _ | exact below_new _ _⟩ | exact ⟨_, 11, rfl, by omega, by omega, rfl, by decide, by unfold Fits; decide, by first | exact Below.refl _ _ | exact below_new _ _⟩ | exact ⟨_, 12, rfl, by omega, by omega, rfl, by decide, by unfold Fits; decide, by first | exact Below.refl _ _ | exact below_new _ _⟩ | exact ⟨_, 13, rfl, by omega, by omega, rfl, by decide, by unfold Fits; decide, by first | exact Below.refl _ _ | exact below_new _ _⟩ | exact ⟨_, 14, rfl, by omega, by omega, rfl, by decide, by unfold Fits; decide, by first | exact Below.refl _ _ | exact below_new _ _⟩ | exact ⟨_, 15, rfl, by omega, by omega, rfl, by decide, by unfold Fits; decide, by first | exact Below.refl _ _ | exact below_new _ _⟩ | exact ⟨_, 16, rfl, by omega, by omega, rfl, by decide, by unfold Fits; decide, by first | exact Below.refl _ _ | exact below_new _ _⟩ | exact ⟨_, 17, rfl, by omega, by omega, rfl, by decide, by unfold Fits; decide, by first | exact Below.refl _ _ | exact below_new _ _⟩)
set_option maxHeartbeats 200000000 in
set_option maxRecDepth 100000 in
theorem piece_2 : Pc.1.2.1 := by
  intro n c z m heap plain w hc hcm hm hm2 Q'z1 Kz1 az1 Jz1 K'z1 az2 wr u13z1 u14 u15z1 u16 u20z1 u21z1 u22z1 u23z1 u24z1 u25z1 u26z1 u27z1 u28z1 u29z1 u30z1 u31z1 u32z1 u33z1 u34z1 u35z1 u36z1 u37z1 u38z1 u39z1 u40z1 u41z1 u42z1 u43z1 u44z1 u45z1 u46z1 u47z1 u48z1 u49z1 u50z1 u51z1 u52z1 u53z1 u54z1 u55z1 u56z1 u57z1 u58z1 u59z1 u60z1 u61z1 u62z1 u63z1 u64z1 u65z1 u66z1 u67z1 u68z1 u69z1 u70z1 u71z1 u72z1 u73z1 u74z1 u75z1 u76z1 u77z1 u78z1 u79z1 u80z1 u81z1 u82z1 u83z1 u84z1 u85z1 u86z1 u87z1 u88z1 u89z1 u90z1 u91z1 u92z1 u93z1 u94z1 u95z1 u96z1 u97z1 u98z1 u99z1 u100z1 u101z1 u102z1 u103z1 u104z1 u105z1 u106z1 u107z1 u108z1 u109z1 u110z1 u111z1 u112z1 u113z1 u114z1 u115z1 u116z1 u117z1 u118z1 u119z1 u120z1 u121z1 u122z1 u123z1 u124z1 u125z1 u126z1 u127z1 u128z1 u129z1 u130z1 u131z1 u132z1 u133z1 u134z1 u135z1 u136z1 u137z1 u138z1 u139z1 u140z1 u141z1 u142z1 u143z1 u144z1 u145z1 u146z1 u147z1 u148z1 u149z1 u150z1 u151z1 u152z1 u153 u154 u155z1 u156 u157z1 i ps js o Aq cq Aj cj hi hpl hjl hgen hjok HOP HOJ HB hin hpm b off HZ az3 hbb y v Q'z2 hz1 Kz2 az4 κ N k0 k1 n0 n1 HVV Kz3 az5 wc u13 u15 u20 u21 u22 u23 u24 u25 u26 u27 u28 u29 u30 u31 u32 u33 u34 u35 u36 u37 u38 u39 u40 u41 u42 u43 u44 u45 u46 u47 u48 u49 u50 u51 u52 u53 u54 u55 u56 u57 u58 u59 u60 u61 u62 u63 u64 u65 u66 u67 u68 u69 u70 u71 u72 u73 u74 u75 u76 u77 u78 u79 u80 u81 u82 u83 u84 u85 u86 u87 u88 u89 u90 u91 u92 u93 u94 u95 u96 u97 u98 u99 u100 u101 u102 u103 u104 u105 u106 u107 u108 u109 u110 u111 u112 u113 u114 u115 u116 u117 u118 u119 u120 u121 u122 u123 u124 u125 u126 u127 u128 u129 u130 u131 u132 u133 u134 u135 u136 u137 u138 u139 u140 u141 u142 u143 u144 u145 u146 u147 u148 u149 u150 u151 u152 u155 u157 hcut
  obtain ⟨N', op, rfl, n2, n3, rfl, ho18, hfit, hbc⟩ := hcut
  have HB1 := Lib.hid (HB.out.trans (hbc.mono HB.out.size))
  have HOP1 := Lib.hid (own_old HOP.out (Old.of_below hbc))
  have HOJ1 := Lib.hid (own_old HOJ.out (Old.of_below hbc))
  have HFIT := Lib.hid hfit
  clear hbc hfit HB HOP HOJ
  go_wp2_with fail
  refine (r_instr op ho18 N' n2 n3 _).mono ?_
  rintro e w2 ⟨⟨x, rfl, hx⟩, hb2⟩
  unfold insI
  have hb02 := HB1.out.trans (hb2.mono HB1.out.size)
  obtain ⟨w3, hw3⟩ : ∃ w3, w3 = w2.alloc (.cells #[.int .i64 x.op, .int .i64 x.a, .int .i64 x.b, .int .i64 x.c, .int .i64 x.i] 40) := ⟨_, rfl⟩
  have HM3 := Lib.hid (show Mem w3 w2.heap.size 40 #[.int .i64 x.op, .int .i64 x.a, .int .i64 x.b, .int .i64 x.c, .int .i64 x.i] from hw3 ▸ Mem.new w2 _ _)
  have HB3 := Lib.hid (show Below w.heap.size w w3 from hw3 ▸ hb02.alloc hb02.size _)
  have HOP3 := Lib.hid (show w3.ownsRow w.heap.size 40 5 (.slice Aq ps.length cq) ps.length (cellsI ps) from hw3 ▸ (own_old HOP1.out (Old.of_below hb2)).alloc _)
  have HOJ3 := Lib.hid (show w3.ownsRow w.heap.size 3 1 (.slice Aj js.length cj) js.length (js.map (Value.int .i64)) from hw3 ▸ (own_old HOJ1.out (Old.of_below hb2)).alloc _)
  have HNE := Lib.hid (show (Value.slice Aq ps.length cq).ownBlock ≠ some w2.heap.size from fun e => absurd ((own_old HOP1.out (Old.of_below hb2)).lt _ e).2 (Nat.lt_irrefl _))
  have HX := Lib.hid hx
  have HW3 := Lib.hid hw3
  obtain ⟨g, hg⟩ : ∃ g, g = w2.heap.size := ⟨_, rfl⟩
  have HGG := Lib.hid hg
  rw [← hg] at HM3 HNE
  have HGB := Lib.hid (show w.heap.size ≤ g from hg ▸ hb02.size)
  have hps : ps.length ≤ 300000 := by omega
  clear hb2 hb02 hw3 hx hg HB1 HOP1 HOJ1
  go_upto_region 36 with fail
  rw [← HW3.out, ← HGG.out]
  clear HW3 HGG
  have d0 := HM3.out.cell 0
  have d1 := HM3.out.cell 1
  have d2 := HM3.out.cell 2
  have d3 := HM3.out.cell 3
  have d4 := HM3.out.cell 4
  simp at d0 d1 d2 d3 d4
  have hl1 : (ps ++ [x]).length = ps.length + 1 := by simp
  have HL1 := Lib.hid hl1
  clear hl1
  by_cases hjm : op = 4 ∨ op = 5 ∨ op = 6
  · rcases hjm with h7 | h7 | h7
    · subst h7
      have HGEN := Lib.hid (show Gen (ps ++ [x]) o from hgen.out.snoc ho18 HX.out HFIT.out)
      have HJO := Lib.hid (jsOk_push hjok.out (HX.out.2.2.2 (.inl rfl)))
      obtain ⟨A8, c8, w5, hrun5, hown5, hb5, hk5, hz5⟩ := push_j HB3.out.size HOJ3.out (by omega) (ps.length : Int)
      have HRUN5 := Lib.hid hrun5
      have hl2 : (js ++ [(ps.length : Int)]).length = js.length + 1 := by simp
      have HL2 := Lib.hid hl2
      have HM5 := Lib.hid (show Mem w5 g 40 #[.int .i64 x.op, .int .i64 x.a, .int .i64 x.b, .int .i64 x.c, .int .i64 x.i] from (hz5 g HM3.out.lt (own_ne_mem HOJ3.out HM3.out (by decide))).trans HM3.out)
      have HOP5 := Lib.hid (hk5 _ _ _ _ _ (by decide) HOP3.out)
      have HB5 := Lib.hid (HB3.out.trans hb5)
      have HOJ5 := Lib.hid (show w5.ownsRow w.heap.size 3 1 (.slice A8 (js ++ [(ps.length : Int)]).length c8) (js ++ [(ps.length : Int)]).length ((js ++ [(ps.length : Int)]).map (Value.int .i64)) by rw [HL2.out, List.map_append]; exact hown5)
      obtain ⟨A9, c9, w6, hrun6, hown6, hb6, hk6, _⟩ := push_i HB5.out.size HOP5.out hps x.op x.a x.b x.c x.i
      have HRUN6 := Lib.hid hrun6
      have HOP6 := Lib.hid (show w6.ownsRow w.heap.size 40 5 (.slice A9 (ps ++ [x]).length c9) (ps ++ [x]).length (cellsI (ps ++ [x])) by rw [HL1.out, cellsI_snoc]; exact hown6)
      have HOJ6 := Lib.hid (hk6 _ _ _ _ _ (by decide) HOJ5.out)
      have HB6 := Lib.hid (HB5.out.trans hb6)
      have e0 := HM5.out.cell 0
      have e1 := HM5.out.cell 1
      have e2 := HM5.out.cell 2
      have e3 := HM5.out.cell 3
      have e4 := HM5.out.cell 4
      simp at e0 e1 e2 e3 e4
      have hlt5 := HM5.out.lt
      clear hrun5 hown5 hb5 hk5 hz5 hl2 hrun6 hown6 hb6 hk6
      go_wp2_with (first
        | (at_builtin; refine wpList_append_run rfl _ _ _ rfl HRUN5.out (by rfl) (by rfl) ?_)
        | (at_builtin; refine wpList_append_run rfl _ _ _ rfl HRUN6.out (by rfl) (by rfl) ?_))
      go_roundw
      case rel => exact ⟨i + 1, ps ++ [x], js ++ [(ps.length : Int)], o, A9, c9, A8, c8, by rw [HL1.out], rfl, by rw [HL2.out], by go_num, by omega, by rw [HL1.out]; omega, by rw [HL1.out, HL2.out]; omega, HGEN, HJO, HOP6.out, HOJ6.out, HB6.out⟩
      case measure => simp [intOf]; omega
    · subst h7
      have hla := HL1.out
      have HL1 := Lib.hid (show (ps ++ [(⟨x.op, N' % 4, x.b, x.c, x.i⟩ : I5)]).length = ps.length + 1 by simp)
      have hfz := HM3.out.frozen 1
      have HM4 := Lib.hid (show Mem (w3.setCell ⟨g, 1, none⟩ (.int .i64 (N' % 4))) g 40 #[.int .i64 x.op, .int .i64 (N' % 4), .int .i64 x.b, .int .i64 x.c, .int .i64 x.i] from HM3.out.set_ 1 _)
      have HOP4 := Lib.hid (own_far HOP3.out (a := ⟨g, 1, none⟩) HNE.out (.int .i64 (N' % 4)))
      have HOJ4 := Lib.hid (own_far HOJ3.out (a := ⟨g, 1, none⟩) (own_ne_mem HOJ3.out HM3.out (by decide)) (.int .i64 (N' % 4)))
      have HB4 := Lib.hid (HB3.out.setCell (p := ⟨g, 1, none⟩) HGB.out (.int .i64 (N' % 4)))
      obtain ⟨w4, hw4⟩ : ∃ w4, w4 = w3.setCell ⟨g, 1, none⟩ (.int .i64 (N' % 4)) := ⟨_, rfl⟩
      rw [← hw4] at HM4 HOP4 HOJ4 HB4
      have HW4 := Lib.hid hw4
      have hmx := made_a (by decide) HX.out (a' := N' % 4) (by omega) (by omega) (by decide)
      have HGEN := Lib.hid (show Gen (ps ++ [(⟨x.op, N' % 4, x.b, x.c, x.i⟩ : I5)]) o from hgen.out.snoc ho18 hmx HFIT.out)
      have HJO := Lib.hid (jsOk_push (x := ⟨x.op, N' % 4, x.b, x.c, x.i⟩) hjok.out (HX.out.2.2.2 (.inr (.inl rfl))))
      clear hla hw4 hmx
      obtain ⟨A8, c8, w5, hrun5, hown5, hb5, hk5, hz5⟩ := push_j HB4.out.size HOJ4.out (by omega) (ps.length : Int)
      have HRUN5 := Lib.hid hrun5
      have hl2 : (js ++ [(ps.length : Int)]).length = js.length + 1 := by simp
      have HL2 := Lib.hid hl2
      have HM5 := Lib.hid (show Mem w5 g 40 #[.int .i64 x.op, .int .i64 (N' % 4), .int .i64 x.b, .int .i64 x.c, .int .i64 x.i] from (hz5 g HM4.out.lt (own_ne_mem HOJ4.out HM4.out (by decide))).trans HM4.out)
      have HOP5 := Lib.hid (hk5 _ _ _ _ _ (by decide) HOP4.out)
      have HB5 := Lib.hid (HB4.out.trans hb5)
      have HOJ5 := Lib.hid (show w5.ownsRow w.heap.size 3 1 (.slice A8 (js ++ [(ps.length : Int)]).length c8) (js ++ [(ps.length : Int)]).length ((js ++ [(ps.length : Int)]).map (Value.int .i64)) by rw [HL2.out, List.map_append]; exact hown5)
      obtain ⟨A9, c9, w6, hrun6, hown6, hb6, hk6, _⟩ := push_i HB5.out.size HOP5.out hps x.op (N' % 4) x.b x.c x.i
      have HRUN6 := Lib.hid hrun6
      have HOP6 := Lib.hid (show w6.ownsRow w.heap.size 40 5 (.slice A9 (ps ++ [(⟨x.op, N' % 4, x.b, x.c, x.i⟩ : I5)]).length c9) (ps ++ [(⟨x.op, N' % 4, x.b, x.c, x.i⟩ : I5)]).length (cellsI (ps ++ [(⟨x.op, N' % 4, x.b, x.c, x.i⟩ : I5)])) by rw [HL1.out, cellsI_snoc]; exact hown6)
      have HOJ6 := Lib.hid (hk6 _ _ _ _ _ (by decide) HOJ5.out)
      have HB6 := Lib.hid (HB5.out.trans hb6)
      have e0 := HM5.out.cell 0
      have e1 := HM5.out.cell 1
      have e2 := HM5.out.cell 2
      have e3 := HM5.out.cell 3
      have e4 := HM5.out.cell 4
      simp at e0 e1 e2 e3 e4
      have hlt5 := HM5.out.lt
      clear hrun5 hown5 hb5 hk5 hz5 hl2 hrun6 hown6 hb6 hk6
      go_upto_region 38 with fail
      rw [← HW4.out]
      clear HW4
      go_wp2_with (first
        | (at_builtin; refine wpList_append_run rfl _ _ _ rfl HRUN5.out (by rfl) (by rfl) ?_)
        | (at_builtin; refine wpList_append_run rfl _ _ _ rfl HRUN6.out (by rfl) (by rfl) ?_))
      go_roundw
      case rel => exact ⟨i + 1, ps ++ [(⟨x.op, N' % 4, x.b, x.c, x.i⟩ : I5)], js ++ [(ps.length : Int)], o, A9, c9, A8, c8, by rw [HL1.out], rfl, by rw [HL2.out], by go_num, by omega, by rw [HL1.out]; omega, by rw [HL1.out, HL2.out]; omega, HGEN, HJO, HOP6.out, HOJ6.out, HB6.out⟩
      case measure => simp [intOf]; omega
    · subst h7
      have hla := HL1.out
      have HL1 := Lib.hid (show (ps ++ [(⟨x.op, N' % 4, x.b, x.c, x.i⟩ : I5)]).length = ps.length + 1 by simp)
      have hfz := HM3.out.frozen 1
      have HM4 := Lib.hid (show Mem (w3.setCell ⟨g, 1, none⟩ (.int .i64 (N' % 4))) g 40 #[.int .i64 x.op, .int .i64 (N' % 4), .int .i64 x.b, .int .i64 x.c, .int .i64 x.i] from HM3.out.set_ 1 _)
      have HOP4 := Lib.hid (own_far HOP3.out (a := ⟨g, 1, none⟩) HNE.out (.int .i64 (N' % 4)))
      have HOJ4 := Lib.hid (own_far HOJ3.out (a := ⟨g, 1, none⟩) (own_ne_mem HOJ3.out HM3.out (by decide)) (.int .i64 (N' % 4)))
      have HB4 := Lib.hid (HB3.out.setCell (p := ⟨g, 1, none⟩) HGB.out (.int .i64 (N' % 4)))
      obtain ⟨w4, hw4⟩ : ∃ w4, w4 = w3.setCell ⟨g, 1, none⟩ (.int .i64 (N' % 4)) := ⟨_, rfl⟩
      rw [← hw4] at HM4 HOP4 HOJ4 HB4
      have HW4 := Lib.hid hw4
      have hmx := made_a (by decide) HX.out (a' := N' % 4) (by omega) (by omega) (by decide)
      have HGEN := Lib.hid (show Gen (ps ++ [(⟨x.op, N' % 4, x.b, x.c, x.i⟩ : I5)]) o from hgen.out.snoc ho18 hmx HFIT.out)
      have HJO := Lib.hid (jsOk_push (x := ⟨x.op, N' % 4, x.b, x.c, x.i⟩) hjok.out (HX.out.2.2.2 (.inr (.inr rfl))))
      clear hla hw4 hmx
      obtain ⟨A8, c8, w5, hrun5, hown5, hb5, hk5, hz5⟩ := push_j HB4.out.size HOJ4.out (by omega) (ps.length : Int)
      have HRUN5 := Lib.hid hrun5
      have hl2 : (js ++ [(ps.length : Int)]).length = js.length + 1 := by simp
      have HL2 := Lib.hid hl2
      have HM5 := Lib.hid (show Mem w5 g 40 #[.int .i64 x.op, .int .i64 (N' % 4), .int .i64 x.b, .int .i64 x.c, .int .i64 x.i] from (hz5 g HM4.out.lt (own_ne_mem HOJ4.out HM4.out (by decide))).trans HM4.out)
      have HOP5 := Lib.hid (hk5 _ _ _ _ _ (by decide) HOP4.out)
      have HB5 := Lib.hid (HB4.out.trans hb5)
      have HOJ5 := Lib.hid (show w5.ownsRow w.heap.size 3 1 (.slice A8 (js ++ [(ps.length : Int)]).length c8) (js ++ [(ps.length : Int)]).length ((js ++ [(ps.length : Int)]).map (Value.int .i64)) by rw [HL2.out, List.map_append]; exact hown5)
      obtain ⟨A9, c9, w6, hrun6, hown6, hb6, hk6, _⟩ := push_i HB5.out.size HOP5.out hps x.op (N' % 4) x.b x.c x.i
      have HRUN6 := Lib.hid hrun6
      have HOP6 := Lib.hid (show w6.ownsRow w.heap.size 40 5 (.slice A9 (ps ++ [(⟨x.op, N' % 4, x.b, x.c, x.i⟩ : I5)]).length c9) (ps ++ [(⟨x.op, N' % 4, x.b, x.c, x.i⟩ : I5)]).length (cellsI (ps ++ [(⟨x.op, N' % 4, x.b, x.c, x.i⟩ : I5)])) by rw [HL1.out, cellsI_snoc]; exact hown6)
      have HOJ6 := Lib.hid (hk6 _ _ _ _ _ (by decide) HOJ5.out)
      have HB6 := Lib.hid (HB5.out.trans hb6)
      have e0 := HM5.out.cell 0
      have e1 := HM5.out.cell 1
      have e2 := HM5.out.cell 2
      have e3 := HM5.out.cell 3
      have e4 := HM5.out.cell 4
      simp at e0 e1 e2 e3 e4
      have hlt5 := HM5.out.lt
      clear hrun5 hown5 hb5 hk5 hz5 hl2 hrun6 hown6 hb6 hk6
      go_upto_region 38 with fail
      rw [← HW4.out]
      clear HW4
      go_wp2_with (first
        | (at_builtin; refine wpList_append_run rfl _ _ _ rfl HRUN5.out (by rfl) (by rfl) ?_)
        | (at_builtin; refine wpList_append_run rfl _ _ _ rfl HRUN6.out (by rfl) (by rfl) ?_))
      go_roundw
      case rel => exact ⟨i + 1, ps ++ [(⟨x.op, N' % 4, x.b, x.c, x.i⟩ : I5)], js ++ [(ps.length : Int)], o, A9, c9, A8, c8, by rw [HL1.out], rfl, by rw [HL2.out], by go_num, by omega, by rw [HL1.out]; omega, by rw [HL1.out, HL2.out]; omega, HGEN, HJO, HOP6.out, HOJ6.out, HB6.out⟩
      case measure => simp [intOf]; omega
  · have q4 : (((op : Nat) : Int) == 4) = false := beq_eq_false_iff_ne.2 (by omega)
    have q5 : (((op : Nat) : Int) == 5) = false := beq_eq_false_iff_ne.2 (by omega)
    have q6 : (((op : Nat) : Int) == 6) = false := beq_eq_false_iff_ne.2 (by omega)
    obtain ⟨A9, c9, w4, hrun, hown4, hb4, hk4, _⟩ := push_i HB3.out.size HOP3.out hps x.op x.a x.b x.c x.i
    have HRUN := Lib.hid hrun
    have HOP4 := Lib.hid (show w4.ownsRow w.heap.size 40 5 (.slice A9 (ps ++ [x]).length c9) (ps ++ [x]).length (cellsI (ps ++ [x])) by rw [HL1.out, cellsI_snoc]; exact hown4)
    have HOJ4 := Lib.hid (hk4 _ _ _ _ _ (by decide) HOJ3.out)
    have HB4 := Lib.hid (HB3.out.trans hb4)
    have HGEN := Lib.hid (hgen.out.snoc ho18 HX.out HFIT.out)
    have HJO := Lib.hid (jsOk_app hjok.out x)
    clear hrun hown4 hb4 hk4 hjm
    rcases (show op = 7 ∨ op = 8 ∨ (op ≠ 7 ∧ op ≠ 8) by omega) with h7 | h7 | ⟨h7, h8⟩
    · subst h7
      go_wp2_with (at_builtin; refine wpList_append_run rfl _ _ _ rfl HRUN.out (by rfl) (by rfl) ?_)
      go_roundw
      case rel => exact ⟨i + 1, ps ++ [x], js, true, A9, c9, Aj, cj, by rw [HL1.out], rfl, rfl, by go_num, by omega, by rw [HL1.out]; omega, by rw [HL1.out]; omega, HGEN, HJO, HOP4.out, HOJ4.out, HB4.out⟩
      case measure => simp [intOf]; omega
    · subst h7
      go_wp2_with (at_builtin; refine wpList_append_run rfl _ _ _ rfl HRUN.out (by rfl) (by rfl) ?_)
      go_roundw
      case rel => exact ⟨i + 1, ps ++ [x], js, false, A9, c9, Aj, cj, by rw [HL1.out], rfl, rfl, by go_num, by omega, by rw [HL1.out]; omega, by rw [HL1.out]; omega, HGEN, HJO, HOP4.out, HOJ4.out, HB4.out⟩
      case measure => simp [intOf]; omega
    · have q7 : (((op : Nat) : Int) == 7) = false := beq_eq_false_iff_ne.2 (by omega)
      have q8 : (((op : Nat) : Int) == 8) = false := beq_eq_false_iff_ne.2 (by omega)
      have hno : nxt op o = o := by unfold nxt; rw [if_neg (by omega), if_neg (by omega)]
      rw [hno] at HGEN
      clear hno
      go_wp2_with (at_builtin; refine wpList_append_run rfl _ _ _ rfl HRUN.out (by rfl) (by rfl) ?_)
      go_roundw
      case rel => exact ⟨i + 1, ps ++ [x], js, o, A9, c9, Aj, cj, by rw [HL1.out], rfl, rfl, by go_num, by omega, by rw [HL1.out]; omega, by rw [HL1.out]; omega, HGEN, HJO, HOP4.out, HOJ4.out, HB4.out⟩
      case measure => simp [intOf]; omega
set_option maxHeartbeats 200000000 in
set_option maxRecDepth 100000 in
theorem piece_3 : Pc.1.2.2 := by
  intro A n c z m heap plain w hc hcm hm hm2 HZ Q'z1 Kz1 az1 wc u9 u10 u11 u12 u13 u14 u15 u16 u20 u21 u22 u23 u24 u25 u26 u27 u28 u29 u30 u31 u32 u33 u34 u35 u36 u37 u38 u39 u40 u41 u42 u43 u44 u45 u46 u47 u48 u49 u50 u51 u52 u53 u54 u55 u56 u57 u58 u59 u60 u61 u62 u63 u64 u65 u66 u67 u68 u69 u70 u71 u72 u73 u74 u75 u76 u77 u78 u79 u80 u81 u82 u83 u84 u85 u86 u87 u88 u89 u90 u91 u92 u93 u94 u95 u96 u97 u98 u99 u100 u101 u102 u103 u104 u105 u106 u107 u108 u109 u110 u111 u112 u113 u114 u115 u116 u117 u118 u119 u120 u121 u122 u123 u124 u125 u126 u127 u128 u129 u130 u131 u132 u133 u134 u135 u136 u137 u138 u139 u140 u141 u142 u143 u144 u145 u146 u147 u148 u149 u150 u151 u152 u153 u154 u155 u156 u157 hcut
  obtain ⟨ps, js, o, Aq, cq, Aj, cj, rfl, rfl, rfl, hpl, hjl, hgen, hjok, hop, hoj, hbw⟩ := hcut
  have HOP := Lib.hid hop
  have HOJ := Lib.hid hoj
  have HB := Lib.hid hbw
  clear hop hoj hbw
  go_upto_if 158 with fail
  go_cut [9] (fun pv wc => ∃ (qs : List I5) (Ar : Option Addr) (cr : Nat), pv = .slice Ar qs.length cr ∧ qs.length ≤ m ∧ Hid (refChk qs = (0, 0)) ∧ Hid (∀ x ∈ qs, OkI x) ∧ Hid (JsOk js qs) ∧ wc.ownsRow w.heap.size 40 5 (.slice Ar qs.length cr) qs.length (cellsI qs) ∧ wc.ownsRow w.heap.size 3 1 (.slice Aj js.length cj) js.length (js.map (Value.int .i64)) ∧ Below w.heap.size w wc)
  case first =>
    cases o with
    | false =>
      have hv := gen_valid hgen.out (by omega)
      have hO : ∀ x ∈ ps, OkI x := fun x hx => (hgen.out.ok x hx).1
      go_wp2
      all_goals go_meet
      all_goals exact ⟨ps, Aq, cq, rfl, by omega, Lib.hid hv, Lib.hid hO, hjok, HOP.out, HOJ.out, HB.out⟩
    | true =>
      have hmade : Made ((8 : Nat) : Int) ⟨8, 0, 0, 0, 0⟩ := ⟨rfl, ⟨⟨by simp, by simp⟩, ⟨by simp, by simp⟩, ⟨by simp, by simp⟩, ⟨by simp, by simp⟩, ⟨by simp, by simp⟩⟩, by unfold chkI; decide, fun _ => rfl⟩
      have hg2 := hgen.out.snoc (op := 8) (by decide) hmade (by unfold Fits; decide)
      have hv := gen_valid hg2 (by simp; omega)
      have hO : ∀ x ∈ ps ++ [⟨8, 0, 0, 0, 0⟩], OkI x := fun x hx => (hg2.ok x hx).1
      have hJ : JsOk js (ps ++ [⟨8, 0, 0, 0, 0⟩]) := fun j hj => by
        obtain ⟨k, x, e1, e2, e3⟩ := hjok.out j hj
        exact ⟨k, x, e1, by rw [List.getElem?_append_left (List.getElem?_eq_some_iff.1 e2).1]; exact e2, e3⟩
      obtain ⟨A9, c9, w4, hrun, hown4, hb4, hk4, _⟩ := push_i HB.out.size HOP.out (by omega) 8 0 0 0 0
      have HRUN := Lib.hid hrun
      have hl1 : (ps ++ [(⟨8, 0, 0, 0, 0⟩ : I5)]).length = ps.length + 1 := by simp
      have HL1 := Lib.hid hl1
      have HOP4 := Lib.hid (show w4.ownsRow w.heap.size 40 5 (.slice A9 (ps ++ [(⟨8, 0, 0, 0, 0⟩ : I5)]).length c9) (ps ++ [(⟨8, 0, 0, 0, 0⟩ : I5)]).length (cellsI (ps ++ [(⟨8, 0, 0, 0, 0⟩ : I5)])) by rw [HL1.out]; unfold cellsI at hown4 ⊢; rw [List.flatMap_append]; exact hown4)
      have HOJ4 := Lib.hid (hk4 _ _ _ _ _ (by decide) HOJ.out)
      have HB4 := Lib.hid (HB.out.trans hb4)
      have HV := Lib.hid hv
      have HO := Lib.hid hO
      have HJ := Lib.hid hJ
      clear hrun hown4 hb4 hk4 hl1 hv hO hJ hg2 hmade
      go_wp2_with (at_builtin; refine wpList_append_run rfl _ _ _ rfl HRUN.out (by rfl) (by rfl) ?_)
      all_goals go_meet
      all_goals exact ⟨ps ++ [(⟨8, 0, 0, 0, 0⟩ : I5)], A9, c9, by rw [HL1.out], by rw [HL1.out]; omega, HV, HO, HJ, HOP4.out, HOJ4.out, HB4.out⟩
  case rest =>
    obtain ⟨qs, Ar, cr, rfl, hql, hchk, hok, hjq, hop, hoj, hbw⟩ := hcut
    have hcr : qs.length ≤ cr ∧ cr ≤ maxLen := by
      obtain ⟨A0, c0, hv, h1, h2⟩ := own_slice hop
      injection hv with e1 e2 e3
      subst e3
      exact ⟨h1, h2⟩
    have HCR := Lib.hid hcr
    go_wp2
    go_loopw [17] (fun iv wr => ∃ (i : Nat) (rs : List I5), i ≤ js.length ∧ iv = .int .i64 i ∧ rs.length = qs.length ∧ Hid (refChk rs = (0, 0)) ∧ Hid (∀ x ∈ rs, OkI x) ∧ Hid (JsOk js rs) ∧ wr.ownsRow w.heap.size 40 5 (.slice Ar qs.length cr) qs.length (cellsI rs) ∧ wr.ownsRow w.heap.size 3 1 (.slice Aj js.length cj) js.length (js.map (Value.int .i64)) ∧ Below w.heap.size w wr) (fun iv _ => js.length - (intOf iv).toNat)
    case atStart => exact ⟨0, qs, by omega, rfl, rfl, hchk, hok, hjq, hop, hoj, hbw⟩
    case round =>
      obtain ⟨i, rs, hi, rfl, hrl, hck, hokr, hjr, hopr, hojr, hbr⟩ := hrel
      clear hop hoj hbw hchk hok hjq hcr
      have HRL := Lib.hid hrl
      have HOPr := Lib.hid hopr
      have HOJr := Lib.hid hojr
      have HBr := Lib.hid hbr
      clear hrl hopr hojr hbr
      by_cases hij : i < js.length
      · obtain ⟨j, hj⟩ : ∃ j, js[i]? = some j := ⟨_, List.getElem?_eq_getElem hij⟩
        obtain ⟨k, x, rfl, hx, hx01⟩ := hjr.out j (List.mem_of_getElem? hj)
        have hk : k < rs.length := (List.getElem?_eq_some_iff.1 hx).1
        have hkq : k < qs.length := by have := HRL.out; omega
        obtain ⟨gj, capj, curj, hvj, _, hgj, hltj, hcj⟩ := own_cells HOJr.out (by omega)
        have HGJ := Lib.hid hgj
        obtain ⟨g, cap, cur, hv, hBg, hg, hlt, hcc⟩ := own_cells HOPr.out (by omega)
        have HG := Lib.hid hg
        have HBG := Lib.hid hBg
        injection hvj with e1 e2 e3
        subst e1 e3
        injection hv with e1 e2 e3
        subst e1 e3
        have cj : wr.cell? ⟨gj, i, none⟩ = some (.int .i64 k) := by rw [hcj i (by omega), List.getElem?_map, hj]; rfl
        have ck : wr.cell? ⟨g, k * 5 + 4, none⟩ = some (.int .i64 x.i) := by rw [hcc _ (by omega)]; exact (cellsI_get rs k x hx).2.2.2.2
        have cf : wr.frozen? ⟨g, k * 5 + 4, none⟩ = false := Mem.frozen (show Mem wr g 40 cur from hg) _
        have HX := Lib.hid hx
        clear hcj hcc hgj hg e2 hx hBg
        have HJI := Lib.hid hj
        clear hj
        have k0 : (0 : Int) ≤ (k : Int) := by omega
        have k1 : (k : Int) < (qs.length : Int) := by omega
        go_wp2_with fail
        have hlen1 : (rs.set k { x with i := 1 }).length = qs.length := by rw [List.length_set]; exact HRL.out
        have HL1 := Lib.hid hlen1
        have HOP1 := Lib.hid (show (wr.setCell ⟨g, k * 5 + 4, none⟩ (.int .i64 1)).ownsRow w.heap.size 40 5 (.slice (some ⟨g, 0, none⟩) qs.length cr) qs.length (cellsI (rs.set k { x with i := 1 })) by
          rw [← cellsI_set rs k x 1 HX.out]; exact own_set HOPr.out _ (by omega))
        have HOJ1 := Lib.hid (own_far HOJr.out (a := ⟨g, k * 5 + 4, none⟩) (own_ne HOJr.out HG.out (by decide)) (.int .i64 1))
        have HB1 := Lib.hid (HBr.out.setCell (p := ⟨g, k * 5 + 4, none⟩) HBG.out (.int .i64 1))
        have HR1 := Lib.hid (show RowI (wr.setCell ⟨g, k * 5 + 4, none⟩ (.int .i64 1)) (some ⟨g, 0, none⟩) qs.length (rs.set k { x with i := 1 }) by
          have h := HOP1.out
          rw [← HL1.out] at h ⊢
          exact rowI_of_own h)
        have HO1 := Lib.hid (ok_set hokr.out HX.out 1 (.inr rfl))
        have HJ1 := Lib.hid (jsOk_set hjr.out HX.out 1 (.inr rfl))
        obtain ⟨⟨u, v⟩, huv⟩ : ∃ y, refChk (rs.set k { x with i := 1 }) = y := ⟨_, rfl⟩
        have HUV := Lib.hid huv
        clear huv hlen1
        refine (r_chk _ qs.length cr (rs.set k { x with i := 1 }) _ HCR.out.1 (by omega) HO1.out HR1.out u v HUV.out).mono ?_
        rintro e w2 ⟨rfl, hb2⟩
        have HOP2 := Lib.hid (own_old HOP1.out (Old.of_below hb2))
        have HOJ2 := Lib.hid (own_old HOJ1.out (Old.of_below hb2))
        have HB2 := Lib.hid (HB1.out.trans (hb2.mono HB1.out.size))
        clear hb2 cj ck cf
        by_cases hv0 : v = 0
        · have HC1 := Lib.hid (refChk_zero (ps := rs.set k { x with i := 1 }) (by rw [HUV.out]; exact hv0))
          have hv1 : (v != 0) = false := by simp [hv0]
          clear hv0
          go_wp2_with fail
          go_roundw
          case rel => exact ⟨i + 1, rs.set k { x with i := 1 }, by omega, by go_num, HL1.out, HC1, HO1, HJ1, HOP2.out, HOJ2.out, HB2.out⟩
          case measure => simp [intOf]; omega
        · have hxi : x.i = 0 := by
            rcases hx01 with h | h
            · exact h
            · exfalso
              apply hv0
              have h1 := HUV.out
              rw [set_same HX.out h, hck.out] at h1
              injection h1 with _ h1
              exact h1.symm
          have hv1 : (v != 0) = true := by simpa using hv0
          have HSB := Lib.hid (set_back HX.out hxi)
          obtain ⟨gj', capj', curj', hvj', _, hgj', hltj', hcj'⟩ := own_cells HOJ2.out (by omega)
          obtain ⟨g', cap', cur', hv', hBg', hg', hlt', hcc'⟩ := own_cells HOP2.out (by omega)
          injection hvj' with e1 e2 e3
          injection e1 with e1
          injection e1 with e1
          subst e1 e3
          injection hv' with e1 e2 e3
          injection e1 with e1
          injection e1 with e1
          subst e1 e3
          have hx1 : (rs.set k { x with i := 1 })[k]? = some { x with i := 1 } := by rw [List.getElem?_set_self hk]
          have cj : w2.cell? ⟨gj, i, none⟩ = some (.int .i64 k) := by rw [hcj' i (by omega), List.getElem?_map, HJI.out]; rfl
          have ck : w2.cell? ⟨g, k * 5 + 4, none⟩ = some (.int .i64 1) := by rw [hcc' _ (by omega)]; exact (cellsI_get _ k _ hx1).2.2.2.2
          have cf : w2.frozen? ⟨g, k * 5 + 4, none⟩ = false := Mem.frozen (show Mem w2 g 40 cur' from hg') _
          have HOP3 := Lib.hid (show (w2.setCell ⟨g, k * 5 + 4, none⟩ (.int .i64 0)).ownsRow w.heap.size 40 5 (.slice (some ⟨g, 0, none⟩) qs.length cr) qs.length (cellsI rs) by
            have h := own_set HOP2.out (.int .i64 0) (j := k * 5 + 4) (by omega)
            rw [cellsI_set _ k _ 0 hx1, HSB.out] at h
            exact h)
          have HOJ3 := Lib.hid (own_far HOJ2.out (a := ⟨g, k * 5 + 4, none⟩) (own_ne HOJ2.out hg' (by decide)) (.int .i64 0))
          have HB3 := Lib.hid (HB2.out.setCell (p := ⟨g, k * 5 + 4, none⟩) hBg' (.int .i64 0))
          clear hcj' hcc' hgj' hg' e2 hx1 hv0 hxi hx01
          go_wp2_with fail
          go_roundw
          case rel => exact ⟨i + 1, rs, by omega, by go_num, HRL.out, hck, hokr, hjr, HOP3.out, HOJ3.out, HB3.out⟩
          case measure => simp [intOf]; omega
      · go_wp2
        go_ret
        exact ⟨Ar, cr, rs, by rw [HRL.out]; rfl, ⟨by rw [HRL.out]; exact hql, hck.out, hokr.out, by rw [HRL.out]; exact HOPr.out⟩, HBr.out⟩
theorem k_program (A : Option Addr) (n c : Nat) (z : List Int) (m : Nat) (heap plain : Bool) (w : World) (hc : n ≤ c) (hcm : c ≤ maxLen) (hm : m ≤ 60) (hm2 : 2 ≤ m) (h : Ints .i64 w A n z) :
    Calls Tryz.prog 17 #[.slice A n c, .int .i64 m, .bool heap, .bool plain] w fun e w' => ∃ A' c' ps, e = .returned (.slice A' ps.length c') ∧ Good w w' m A' c' ps ∧ Below w.heap.size w w'  := Pc.2 ⟨piece_1⟩ ⟨piece_2⟩ ⟨piece_3⟩ A n c z m heap plain w hc hcm hm hm2 h
end Go.Proofs.YtcplhochgngedaaGreatDoor.PrgY
