/-
  Contract of package program: heaviest.
-/
import Derived.Test.YthnhmclnfgkppaaDoorPgX
import Derived.Test.YthnhmclnfgkppaaDoorPgR
namespace Go.Proofs.YthnhmclnfgkppaaDoor.PgH
open Go.ChangeShapes Go.WideShapes Go.ChangeAt Go.RowKit Go.Shelf
open PlainT IsaE IsaS BlkW IsaA IsaB IsaF PrgS PrgC PgS PgA PgB PgT PgU PgC PgD PgE PgF PgV PgW PgX PgR
set_option linter.unusedVariables false
attribute [local go_sem] Oper.semAt_some

/-- What holds at the head of each round: position k stands next, R holds the rests behind it. -/
def HI (w : World) (A : Option Addr) (m : Nat) (ps : List I5) (wt : I5 → Int) (hi : Int) (g : Nat) (k : Int) (Bk : Nat) (Ds : List Nat) (R : Nat → Int) (wr : World) : Prop :=
  Below w.heap.size w wr ∧ Mem wr g 3 (rowR R (m + 1)) ∧ Mem wr (g + 1) 22 #[.slice (some ⟨g, 0, none⟩) (m + 1) (m + 1)] ∧ Mem wr Bk 3 #[.int .i64 k] ∧ MarksAt Ds wr ∧ (∀ D ∈ Ds, w.heap.size ≤ D) ∧ Ds.Nodup ∧ PgV.Rest ps wt (k + 1) hi R ∧ BdR R
theorem hi_start (A : Option Addr) (m : Nat) (ps : List I5) (wt : I5 → Int) (hi : Int) (w : World) :
    HI w A m ps wt hi w.heap.size hi (w.heap.size + 2) [] (fun _ => 0) (((w.alloc (.cells (rowR (fun _ => 0) (m + 1)) 3)).alloc (.cells #[.slice (some ⟨w.heap.size, 0, none⟩) (m + 1) (m + 1)] 22)).alloc (.cells #[.int .i64 hi] 3)) := by
  refine ⟨below_new3 _ _ _ _, ((Mem.new _ _ _).alloc _).alloc _, (mem_new1 _ _ _ _).alloc _, mem_new2 _ _ _ _ _, fun D hD => (by cases hD), fun D hD => (by cases hD), List.nodup_nil, rest_init _ _ _, bd_zero⟩
theorem keepK_t {Bk : Nat} {X Y Z : World} (h : keepK Bk X Y) (k : keepK Bk Y Z) : keepK Bk X Z := fun v hv => k v (h v hv)
theorem keepK_b {Bk : Nat} (W : World) (l : Nat) (o o' : Obj) (h : W.heap[l]? = some o) (ho : o.isCells = false) : keepK Bk W (W.putObj l o') := fun v hv => by
  have hne : Bk ≠ l := fun e => by
    subst e
    unfold World.cell? at hv
    simp only [h] at hv
    cases o <;> first | (simp at hv; done) | (cases ho; done) | (cases hv; done)
  unfold World.cell? at hv ⊢
  simp only at hv ⊢
  rw [World.putObj_heap_other hne]
  exact hv
theorem marks_own' {β : Type} {Ds : List Nat} {B : Nat} (hB : ∀ D ∈ Ds, D < B) : OwnFrom B (fun (_ : β) W => MarksAt Ds W) := fun s X Y row hs hg hr => marks_own hB () X Y row hs hg hr
theorem fol_stops (n : Nat) (hn : 1 ≤ n) (Bp Bk : Nat) (A : Option Addr) (m c k : Nat) (ps : List I5) (x : I5) (w0 w : World) (hE : Env w0) (hm : m ≤ c) (hmx : c ≤ maxLen) (hR0 : RowI w0 A m ps) (hv : Valid ps) (hx : ps[k]? = some x) (hB : Below w0.heap.size w0 w) (hBp : w.cell? ⟨Bp, 0, none⟩ = some (.slice A m c)) (hBk : w.cell? ⟨Bk, 0, none⟩ = some (.int .i64 k)) :
    SeqStopsK Fence.wide n Tryd.prog 67 #[.pointer (some ⟨Bp, 0, none⟩), .pointer (some ⟨Bk, 0, none⟩)] encP (keepK Bk) (fun ys => ys = folS hv hx) (fun pre => pre <+: folS hv hx) (folS hv hx).length w := fun l J Jx W hW hJ _ hY h0 =>
  fol_in n hn l Bp Bk A m c k ps x w0 hE hm hmx hR0 hv hx J Jx W hJ hY ((hW.cell (p := ⟨Bp, 0, none⟩) (World.block_lt_of_cell? _ _ hBp)).trans hBp) ((hW.cell (p := ⟨Bk, 0, none⟩) (World.block_lt_of_cell? _ _ hBk)).trans hBk) (hB.trans (hW.mono hB.size)) h0
theorem arr_list (t : Array Value) : ∃ l : List Value, t = l.toArray := ⟨t.toList, by simp⟩
theorem list_succ {l : List Value} {k : Nat} (h : l.length = k + 1) : ∃ v r, l = v :: r ∧ r.length = k := by
  cases l with
  | nil => cases h
  | cons v r => exact ⟨v, r, rfl, by simpa using h⟩
theorem marks_lt {Ds : List Nat} {W : World} (h : MarksAt Ds W) : ∀ D ∈ Ds, D < W.heap.size := fun D hD => (Array.getElem?_eq_some_iff.1 (h D hD)).1
theorem marks_cons {D : Nat} {Ds : List Nat} {W : World} (h : W.heap[D]? = some (.deferred (some []))) (k : MarksAt Ds W) : MarksAt (D :: Ds) W := fun E hE => by
  rcases List.mem_cons.1 hE with rfl | hE
  · exact h
  · exact k E hE
/-- How far the loop has to go. -/
def kOf (lo : Nat) (a : Act) (w : World) : Nat := match a.tmps.getD 10 undef with
  | .pointer (some p) => (match w.cell? p with
    | some v => (intOf v + 1 - lo).toNat
    | none => 0)
  | _ => 0
theorem kOf_eq {lo : Nat} {a : Act} {w : World} {p : Addr} {k : Int} (h : a.tmps.getD 10 undef = .pointer (some p)) (hc : w.cell? p = some (.int .i64 k)) : kOf lo a w = (k + 1 - lo).toNat := by
  unfold kOf
  rw [h]
  simp only [hc]
  rfl

set_option maxRecDepth 100000 in
set_option maxHeartbeats 8000000 in
theorem heavy0_in (n : Nat) (hn : 6 ≤ n) (A : Option Addr) (m c : Nat) (ps : List I5) (lo : Nat) (hi : Int) (wt : I5 → Int) (fid : FuncId) (w : World) (hE : Env w) (hm : m ≤ c) (hmx : c ≤ maxLen) (hR0 : RowI w A m ps) (hv : Valid ps) (hlo : lo ≤ m) (hlh : (lo : Int) ≤ hi + 1) (hhi : hi < m)
    (hwt : ∀ x ∈ ps, 0 ≤ wt x ∧ wt x ≤ 100) (heg : ∀ args W, (callFunc fid args).run Tryd.prog W = .ok (.enter fid args) W)
    (hW : ∀ (x : I5) W, x ∈ ps → Below w.heap.size w W → CallsIn Fence.wide (n - 1) Tryd.prog fid #[.agg #[.int .i64 x.op, .int .i64 x.a, .int .i64 x.b, .int .i64 x.c, .int .i64 x.i]] W fun e W' => e = .returned (.int .i64 (wt x)) ∧ Below W.heap.size W W') :
    CallsIn Fence.wide n Tryd.prog 27 #[.slice A m c, .int .i64 lo, .int .i64 hi, .func (.func fid) #[] #[]] w fun e W' => (∃ R, PgV.Rest ps wt lo hi R ∧ BdR R ∧ e = .returned (.int .i64 (R lo))) ∧ Below w.heap.size w W' := by
  have h1 : 1 ≤ n := by omega
  have hlen := hR0.1
  have h64 := hv.len
  have hm64 : m ≤ 64 := by omega
  have HWT := Lib.hid hwt
  have HR0 := Lib.hid hR0
  have HE := Lib.hid hE
  have HV := Lib.hid hv
  have HW := Lib.hid hW
  have HM := Lib.hid hm
  have HMX := Lib.hid hmx
  clear hE hR0 hv hW hm hmx hwt
  have hmk := make_i w (m + 1) (by omega)
  rw [show ((m + 1 : Nat) : Int) = (m : Int) + 1 by omega, rowR_zero] at hmk
  refine callsIn_of_wp_marks Tryd.func27 rfl trivial ?_ rfl
  simp only [Tryd.ntmps27, List.size_toArray, List.length_cons, List.length_nil, Nat.reduceAdd, Nat.reduceSub, Array.replicate_succ, Array.replicate_zero, List.push_toArray, List.append_toArray, List.nil_append, List.cons_append]
  gi_wp2
  have HB0 : Hid (HI w A m ps wt hi w.heap.size hi (w.heap.size + 2) [] (fun _ => 0) (((w.alloc (.cells (rowR (fun _ => 0) (m + 1)) 3)).alloc (.cells #[.slice (some ⟨w.heap.size, 0, none⟩) (m + 1) (m + 1)] 22)).alloc (.cells #[.int .i64 hi] 3))) := Lib.hid (hi_start A m ps wt hi w)
  obtain ⟨g, hg⟩ : ∃ g, w.heap.size = g := ⟨_, rfl⟩
  rw [hg] at HB0
  simp only [hg]
  refine wpIn_loop (fun a' wr => ∃ (u10 u11 u17 u18 u19 u20 u21 u22 u23 u24 u25 u26 u27 u28 u29 u30 u31 u32 u33 u34 u35 u36 u37 u38 u39 u40 u41 u42 u43 u44 u45 u46 u47 u48 u49 u50 : Value) (ds : List Deferred), (∃ (k : Int) (Bk : Nat) (Ds : List Nat) (R : Nat → Int), u10 = .pointer (some ⟨Bk, 0, none⟩) ∧ ds = Ds.map markOf ∧ (lo : Int) ≤ k + 1 ∧ k ≤ hi ∧ g + 1 < Bk ∧ HI w A m ps wt hi g k Bk Ds R wr) ∧ a' = { tmps := #[.slice A m c, .int .i64 lo, .int .i64 hi, .func (.func fid) #[] #[], undef, undef, undef, undef, .int .i64 0, .pointer (some ⟨g + 1, 0, none⟩), u10, u11, .slice A m c, .int .i64 m, .int .i64 ((m : Int) + 1), .slice (some ⟨g, 0, none⟩) (m + 1) (m + 1), .int .i64 hi, u17, u18, u19, u20, u21, u22, u23, u24, u25, u26, u27, u28, u29, u30, u31, u32, u33, u34, u35, u36, u37, u38, u39, u40, u41, u42, u43, u44, u45, u46, u47, u48, u49, u50, undef, undef, undef, undef], defers := ds }) (fun a' wr => kOf lo a' wr) ?_ ?_
  · (repeat apply Exists.intro)
    refine ⟨⟨hi, _, [], fun _ => 0, rfl, rfl, by omega, by omega, by omega, HB0.out⟩, rfl⟩
  · intro a wr hinv
    obtain ⟨u10, u11, u17, u18, u19, u20, u21, u22, u23, u24, u25, u26, u27, u28, u29, u30, u31, u32, u33, u34, u35, u36, u37, u38, u39, u40, u41, u42, u43, u44, u45, u46, u47, u48, u49, u50, ds, ⟨k, Bk, Ds, R, rfl, rfl, hk0, hk1, hBk, hI⟩, rfl⟩ := hinv
    have HIH := Lib.hid hI
    obtain ⟨hb, mg, mb, mk, hms, hdl, hnd, hrs, hbd⟩ := hI
    have HBW := Lib.hid hb
    have ckk : wr.cell? ⟨Bk, 0, none⟩ = some (.int .i64 k) := mk.cell 0
    have crr : wr.cell? ⟨g + 1, 0, none⟩ = some (.slice (some ⟨g, 0, none⟩) (m + 1) (m + 1)) := mb.cell 0
    have HCK := Lib.hid ckk
    by_cases hge : (lo : Int) ≤ k
    · obtain ⟨kn, rfl⟩ : ∃ kn : Nat, k = kn := ⟨k.toNat, by omega⟩
      have hkl : kn < ps.length := by omega
      have hx : ps[kn]? = some (ps[kn]'hkl) := List.getElem?_eq_getElem _
      obtain ⟨x, hxx⟩ : ∃ x, ps[kn]'hkl = x := ⟨_, rfl⟩
      rw [hxx] at hx
      have hmem : x ∈ ps := by rw [← hxx]; exact List.getElem_mem _
      have HX := Lib.hid hx
      have HXM := Lib.hid hmem
      clear hx hxx hmem
      gi_wp2_with (refine ⟨trivial, ?_⟩; gi_at_call 54; refine (following_in _ _ _ _ _ _).mono ?_; rintro e w' ⟨rfl, rfl⟩)
      have hb0 := below_new2 wr (.cells #[.slice A m c] 24) (.cells #[.int .i64 (kn : Int)] 3)
      have q0 := (Mem.new wr 24 #[.slice A m c]).alloc (.cells #[.int .i64 (kn : Int)] 3)
      have q1 := mem_new1 wr (.cells #[.slice A m c] 24) 3 #[.int .i64 (kn : Int)]
      have hsz : ((wr.alloc (.cells #[.slice A m c] 24)).alloc (.cells #[.int .i64 (kn : Int)] 3)).heap.size = wr.heap.size + 2 := by simp only [size_new]
      obtain ⟨W0, hW0⟩ : ∃ W0, ((wr.alloc (.cells #[.slice A m c] 24)).alloc (.cells #[.int .i64 (kn : Int)] 3)) = W0 := ⟨_, rfl⟩
      rw [hW0] at hb0 q0 q1 hsz ⊢
      clear hW0
      obtain ⟨gb, hgb⟩ : ∃ gb, wr.heap.size = gb := ⟨_, rfl⟩
      rw [hgb] at q0 q1 hsz ⊢
      have hbw : Below w.heap.size w W0 := HBW.out.trans (hb0.mono HBW.out.size)
      have mg0 := mg.below hb0 mg.lt
      have mb0 := mb.below hb0 mb.lt
      have mk0 := mk.below hb0 mk.lt
      have hdB : ∀ D ∈ Ds, D < W0.heap.size := fun D hD => by have := (Array.getElem?_eq_some_iff.1 (hms D hD)).1; omega
      have hms0 : MarksAt Ds W0 := marks_old hms hb0 (fun D hD => (Array.getElem?_eq_some_iff.1 (hms D hD)).1)
      have hR00 : R kn = 0 := hrs.low kn (by omega)
      have hggb : g < gb := by have := mg.lt; omega
      clear mg mb mk ckk crr
      refine wpIn_rangeFunc_ownG rfl h1 (gf := 67) (lb := #[.pointer (some ⟨gb, 0, none⟩), .pointer (some ⟨gb + 1, 0, none⟩)]) rfl trivial (enters_of Tryd.func67 (by kernel_rfl) rfl)
        (fol_stops (n - 1) (by omega) gb (gb + 1) A m c kn ps x w W0 HE.out HM.out HMX.out HR0.out HV.out HX.out hbw (q0.cell 0) (q1.cell 0)) keepK_t (fun W l o o' _ h ho _ => keepK_b W l o o' h ho) (Below.refl _ _) (fun _ => rfl)
        (fun pre W => Mem W g 3 (rowR (updR R kn (mx R (pre.map (·.1)) 0)) (m + 1)) ∧ Mem W (g + 1) 22 #[.slice (some ⟨g, 0, none⟩) (m + 1) (m + 1)] ∧ Mem W Bk 3 #[.int .i64 (kn : Int)] ∧ MarksAt Ds W ∧ Below w.heap.size w W)
        (fun _ _ _ => False)
        (OwnFrom.and (Own.from (mem_own g 3 (fun (pre : List (Pos kn ps.length)) => rowR (updR R kn (mx R (pre.map (·.1)) 0)) (m + 1))) _) (OwnFrom.and (Own.from (mem_own (g + 1) 22 (fun _ => #[.slice (some ⟨g, 0, none⟩) (m + 1) (m + 1)])) _) (OwnFrom.and (Own.from (mem_own Bk 3 (fun _ => #[.int .i64 (kn : Int)])) _) (OwnFrom.and (marks_own' hdB) (ownFrom_below (Nat.le_refl _) hbw.size)))))
        (fun c s X Y row hs hg hr => hs)
        ⟨by rw [show mx R (List.map (fun y : Pos kn ps.length => y.1) []) 0 = R kn by rw [hR00]; rfl, updR_self]; exact mg0, mb0, mk0, hms0, hbw⟩
        (fun y => { tmps := #[.slice A m c, .int .i64 lo, .int .i64 hi, .func (.func fid) #[] #[], undef, undef, undef, undef, .int .i64 0, .pointer (some ⟨g + 1, 0, none⟩), .pointer (some ⟨Bk, 0, none⟩), .int .i64 y.1, .slice A m c, .int .i64 m, .int .i64 ((m : Int) + 1), .slice (some ⟨g, 0, none⟩) (m + 1) (m + 1), .int .i64 hi, .int .i64 (kn : Int), .int .i64 lo, .bool true, u20, u21, .slice A m c, .int .i64 (kn : Int), .func (.func 67) #[] #[.pointer (some ⟨gb, 0, none⟩), .pointer (some ⟨gb + 1, 0, none⟩)], .int .i64 y.1, u26, u27, u28, u29, u30, u31, u32, u33, u34, u35, u36, u37, u38, u39, u40, u41, u42, u43, u44, u45, u46, u47, u48, u49, u50, undef, undef, undef, undef], defers := [] }) ?assign ?body ?done ?stop
      case assign =>
        intro l x W K hK
        gi_wp2
        exact hK
      case body =>
        rintro l pre ⟨z, hz1, hz2⟩ W ⟨mg, mb, mk, hmk, hbW⟩ hlt
        obtain ⟨y, rfl⟩ : ∃ y : Nat, z = y := ⟨z.toNat, by omega⟩
        obtain ⟨s, hs⟩ : ∃ s, mx R (pre.map (·.1)) 0 = s := ⟨_, rfl⟩
        rw [hs] at mg
        have c0 : W.cell? ⟨g + 1, 0, none⟩ = some (.slice (some ⟨g, 0, none⟩) (m + 1) (m + 1)) := mb.cell 0
        have c1 : W.cell? ⟨Bk, 0, none⟩ = some (.int .i64 (kn : Int)) := mk.cell 0
        have c2 : W.cell? ⟨g, kn, none⟩ = some (.int .i64 s) := (mg.cell kn).trans ((rowR_get _ (by omega)).trans (by rw [updR_at]))
        have c3 : W.cell? ⟨g, y, none⟩ = some (.int .i64 (R y)) := (mg.cell y).trans ((rowR_get _ (by omega)).trans (by rw [updR_ne _ _ (by omega)]))
        have f2 : W.frozen? ⟨g, kn, none⟩ = false := mg.frozen kn
        have MG := Lib.hid mg
        clear mg
        gi_wp2
        refine region_held' (by kernel_rfl) (fun i => ([.slice (some ⟨g, 0, none⟩) (m + 1) (m + 1), .int .i64 (kn : Int), .slice (some ⟨g, 0, none⟩) (m + 1) (m + 1), .int .i64 (kn : Int), .pointer (some ⟨g, kn, none⟩), .int .i64 s, .slice (some ⟨g, 0, none⟩) (m + 1) (m + 1), .int .i64 (y : Int), .pointer (some ⟨g, y, none⟩), .int .i64 (R y), .int .i64 (if s < R y then R y else s), .pointer (some ⟨g, kn, none⟩)] : List Value).getD i undef)
          (fun b wq => wq = if b then W.drew.setCell ⟨g, kn, none⟩ (.int .i64 (if s < R y then R y else s)) else W.drew) 12 55 (by kernel_rfl) rfl rfl ?_ ?_ ?_
        · intro i hi a wq hs9 hold hv K hK
          obtain rfl : wq = W.drew := hs9
          have hi' : i = 0 ∨ i = 1 ∨ i = 2 ∨ i = 3 ∨ i = 4 ∨ i = 5 ∨ i = 6 ∨ i = 7 ∨ i = 8 ∨ i = 9 ∨ i = 10 ∨ i = 11 := by omega
          rcases hi' with rfl | rfl | rfl | rfl | rfl | rfl | rfl | rfl | rfl | rfl | rfl | rfl
          · have e9 : a.tmps[9]?.getD undef = .pointer (some ⟨g + 1, 0, none⟩) := (eval_tmp a 9).trans (hold 9 (by kernel_rfl))
            refine opIn_of rfl rfl ⟨fun f hf => (by cases hf), ?_⟩
            rw [Oper.semAt_eq _ _ _ (fun c h => by cases h)]
            go_simp
            first | exact hK _ rfl | (rw [if_pos (by omega)]; exact hK _ rfl)
          · have e10 : a.tmps[10]?.getD undef = .pointer (some ⟨Bk, 0, none⟩) := (eval_tmp a 10).trans (hold 10 (by kernel_rfl))
            refine opIn_of rfl rfl ⟨fun f hf => (by cases hf), ?_⟩
            rw [Oper.semAt_eq _ _ _ (fun c h => by cases h)]
            go_simp
            first | exact hK _ rfl | (rw [if_pos (by omega)]; exact hK _ rfl)
          · have e9 : a.tmps[9]?.getD undef = .pointer (some ⟨g + 1, 0, none⟩) := (eval_tmp a 9).trans (hold 9 (by kernel_rfl))
            refine opIn_of rfl rfl ⟨fun f hf => (by cases hf), ?_⟩
            rw [Oper.semAt_eq _ _ _ (fun c h => by cases h)]
            go_simp
            first | exact hK _ rfl | (rw [if_pos (by omega)]; exact hK _ rfl)
          · have e10 : a.tmps[10]?.getD undef = .pointer (some ⟨Bk, 0, none⟩) := (eval_tmp a 10).trans (hold 10 (by kernel_rfl))
            refine opIn_of rfl rfl ⟨fun f hf => (by cases hf), ?_⟩
            rw [Oper.semAt_eq _ _ _ (fun c h => by cases h)]
            go_simp
            first | exact hK _ rfl | (rw [if_pos (by omega)]; exact hK _ rfl)
          · have q2 : a.tmps[28]?.getD undef = .slice (some ⟨g, 0, none⟩) (m + 1) (m + 1) := (eval_tmp a 28).trans (hv 2 28 (by kernel_rfl))
            have q3 : a.tmps[29]?.getD undef = .int .i64 (kn : Int) := (eval_tmp a 29).trans (hv 3 29 (by kernel_rfl))
            refine opIn_of rfl rfl ⟨fun f hf => (by cases hf), ?_⟩
            rw [Oper.semAt_eq _ _ _ (fun c h => by cases h)]
            go_simp
            first | exact hK _ rfl | (rw [if_pos (by omega)]; exact hK _ rfl)
          · have q4 : a.tmps[30]?.getD undef = .pointer (some ⟨g, kn, none⟩) := (eval_tmp a 30).trans (hv 4 30 (by kernel_rfl))
            refine opIn_of rfl rfl ⟨fun f hf => (by cases hf), ?_⟩
            rw [Oper.semAt_eq _ _ _ (fun c h => by cases h)]
            go_simp
            first | exact hK _ rfl | (rw [if_pos (by omega)]; exact hK _ rfl)
          · have e9 : a.tmps[9]?.getD undef = .pointer (some ⟨g + 1, 0, none⟩) := (eval_tmp a 9).trans (hold 9 (by kernel_rfl))
            refine opIn_of rfl rfl ⟨fun f hf => (by cases hf), ?_⟩
            rw [Oper.semAt_eq _ _ _ (fun c h => by cases h)]
            go_simp
            first | exact hK _ rfl | (rw [if_pos (by omega)]; exact hK _ rfl)
          · have e11 : a.tmps[11]?.getD undef = .int .i64 (y : Int) := (eval_tmp a 11).trans (hold 11 (by kernel_rfl))
            refine opIn_of rfl rfl ⟨fun f hf => (by cases hf), ?_⟩
            rw [Oper.semAt_eq _ _ _ (fun c h => by cases h)]
            go_simp
            first | exact hK _ rfl | (rw [if_pos (by omega)]; exact hK _ rfl)
          · have q6 : a.tmps[32]?.getD undef = .slice (some ⟨g, 0, none⟩) (m + 1) (m + 1) := (eval_tmp a 32).trans (hv 6 32 (by kernel_rfl))
            have q7 : a.tmps[33]?.getD undef = .int .i64 (y : Int) := (eval_tmp a 33).trans (hv 7 33 (by kernel_rfl))
            refine opIn_of rfl rfl ⟨fun f hf => (by cases hf), ?_⟩
            rw [Oper.semAt_eq _ _ _ (fun c h => by cases h)]
            go_simp
            first | exact hK _ rfl | (rw [if_pos (by omega)]; exact hK _ rfl)
          · have q8 : a.tmps[34]?.getD undef = .pointer (some ⟨g, y, none⟩) := (eval_tmp a 34).trans (hv 8 34 (by kernel_rfl))
            refine opIn_of rfl rfl ⟨fun f hf => (by cases hf), ?_⟩
            rw [Oper.semAt_eq _ _ _ (fun c h => by cases h)]
            go_simp
            first | exact hK _ rfl | (rw [if_pos (by omega)]; exact hK _ rfl)
          · have q5 : a.tmps[31]?.getD undef = .int .i64 s := (eval_tmp a 31).trans (hv 5 31 (by kernel_rfl))
            have q9 : a.tmps[35]?.getD undef = .int .i64 (R y) := (eval_tmp a 35).trans (hv 9 35 (by kernel_rfl))
            refine opIn_of rfl rfl ⟨fun f hf => (by cases hf), ?_⟩
            rw [Oper.semAt_eq _ _ _ (fun c h => by cases h)]
            go_simp
            first | exact hK _ rfl | (rw [if_pos (by omega)]; exact hK _ rfl)
          · have q0 : a.tmps[26]?.getD undef = .slice (some ⟨g, 0, none⟩) (m + 1) (m + 1) := (eval_tmp a 26).trans (hv 0 26 (by kernel_rfl))
            have q1 : a.tmps[27]?.getD undef = .int .i64 (kn : Int) := (eval_tmp a 27).trans (hv 1 27 (by kernel_rfl))
            refine opIn_of rfl rfl ⟨fun f hf => (by cases hf), ?_⟩
            rw [Oper.semAt_eq _ _ _ (fun c h => by cases h)]
            go_simp
            first | exact hK _ rfl | (rw [if_pos (by omega)]; exact hK _ rfl)
        · intro a wq hs9 hold hv K hK
          obtain rfl : wq = W.drew := hs9
          have q11 : a.tmps[37]?.getD undef = .pointer (some ⟨g, kn, none⟩) := (eval_tmp a 37).trans (hv 11 37 (by kernel_rfl))
          have q10 : a.tmps[36]?.getD undef = .int .i64 (if s < R y then R y else s) := (eval_tmp a 36).trans (hv 10 36 (by kernel_rfl))
          refine opIn_of rfl rfl ⟨fun f hf => (by cases hf), ?_⟩
          rw [Oper.semAt_eq _ _ _ (fun c h => by cases h)]
          go_simp
          exact hK _ rfl
        · intro a wq hsz9 hdf9 hold hs9
          obtain rfl : wq = W.drew.setCell ⟨g, kn, none⟩ (.int .i64 (if s < R y then R y else s)) := hs9
          have hmx : (if s < R y then R y else s) = max s (R y) := by split <;> omega
          rw [hmx]
          refine ⟨((KeepsOthers.drew W).trans (KeepsOthers.setCell _ _ _)).from _, ?_, ?_, Mem.far mb (a := ⟨g, kn, none⟩) (by show g + 1 ≠ g; omega) _, Mem.far mk (a := ⟨g, kn, none⟩) (by show Bk ≠ g; omega) _, marks_set hmk MG.out kn _, (Below.drew hbW).setCell (by show w.heap.size ≤ g; omega) _⟩
          · exact fun v hv => (World.cell?_of_block (w := W) (Below.heap_setCell W ⟨g, kn, none⟩ _ (gb + 1) (by show gb + 1 ≠ g; omega))).trans hv
          · have h9 := (MG.out.drewN 1).set_ kn (.int .i64 (max s (R y)))
            rw [rowR_set, updR_upd] at h9
            rw [List.map_append, List.map_cons, List.map_nil, mx_snoc, hs]
            exact h9
      case done =>
        rintro D ys W hD rfl ⟨mg, mb, mk, hmk, hbW⟩ hKD
        rw [folS_val] at mg
        obtain ⟨s, hs⟩ : ∃ s, mx R (folV ps kn x) 0 = s := ⟨_, rfl⟩
        rw [hs] at mg
        obtain ⟨gA, off, x', rfl, hgA, hx', y0, y1, y2, y3, y4⟩ := (HR0.out.below hbW).at (show kn < m by omega)
        obtain rfl : x = x' := by have := HX.out; rw [hx'] at this; exact (Option.some.inj this).symm
        obtain ⟨hw0, hw1⟩ := HWT.out x HXM.out
        obtain ⟨hs0, hs1⟩ := bd_mx hbd (k := kn) (l := folV ps kn x) (fun y hy => (HV.out.fol HX.out y hy).1)
        rw [hs] at hs0 hs1
        have hwr : IntKind.i64.wrap (s + wt x) = s + wt x := IntWalk.i64_in _ (by omega)
        gi_wp2
        refine region_held' (by kernel_rfl) (fun i => ([.slice (some ⟨g, 0, none⟩) (m + 1) (m + 1), .int .i64 (kn : Int), .pointer (some ⟨g, kn, none⟩), .int .i64 s, .func (.func fid) #[] #[], .slice (some ⟨gA, off, none⟩) m c, .int .i64 (kn : Int), .pointer (some ⟨gA, off + kn * 5, none⟩), .agg #[.int .i64 x.op, .int .i64 x.a, .int .i64 x.b, .int .i64 x.c, .int .i64 x.i], .int .i64 (wt x), .int .i64 (s + wt x), .pointer (some ⟨g, kn, none⟩)] : List Value).getD i undef)
          (fun b wq => if b then ∃ w1, Below W.heap.size W w1 ∧ wq = w1.setCell ⟨g, kn, none⟩ (.int .i64 (s + wt x)) else Below W.heap.size W wq) 12 55 (by kernel_rfl) rfl (below_drewN (Below.refl _ _) 1) ?_ ?_ ?_
        · intro i hi a wq hs9 hold hv K hK
          have hbq : Below W.heap.size W wq := hs9
          have c0 : wq.cell? ⟨g + 1, 0, none⟩ = some (.slice (some ⟨g, 0, none⟩) (m + 1) (m + 1)) := (mb.below hbq mb.lt).cell 0
          have c1 : wq.cell? ⟨Bk, 0, none⟩ = some (.int .i64 (kn : Int)) := (mk.below hbq mk.lt).cell 0
          have c2 : wq.cell? ⟨g, kn, none⟩ = some (.int .i64 s) := ((mg.below hbq mg.lt).cell kn).trans ((rowR_get _ (by omega)).trans (by rw [updR_at]))
          have f2 : wq.frozen? ⟨g, kn, none⟩ = false := (mg.below hbq mg.lt).frozen kn
          have x0 : wq.cell? ⟨gA, off + kn * 5, none⟩ = some (.int .i64 x.op) := (hbq.cell (p := ⟨gA, off + kn * 5, none⟩) hgA).trans y0
          have x1 : wq.cell? ⟨gA, off + kn * 5 + 1, none⟩ = some (.int .i64 x.a) := (hbq.cell (p := ⟨gA, off + kn * 5 + 1, none⟩) hgA).trans y1
          have x2 : wq.cell? ⟨gA, off + kn * 5 + 2, none⟩ = some (.int .i64 x.b) := (hbq.cell (p := ⟨gA, off + kn * 5 + 2, none⟩) hgA).trans y2
          have x3 : wq.cell? ⟨gA, off + kn * 5 + 3, none⟩ = some (.int .i64 x.c) := (hbq.cell (p := ⟨gA, off + kn * 5 + 3, none⟩) hgA).trans y3
          have x4 : wq.cell? ⟨gA, off + kn * 5 + 4, none⟩ = some (.int .i64 x.i) := (hbq.cell (p := ⟨gA, off + kn * 5 + 4, none⟩) hgA).trans y4
          have hi' : i = 0 ∨ i = 1 ∨ i = 2 ∨ i = 3 ∨ i = 4 ∨ i = 5 ∨ i = 6 ∨ i = 7 ∨ i = 8 ∨ i = 9 ∨ i = 10 ∨ i = 11 := by omega
          rcases hi' with rfl | rfl | rfl | rfl | rfl | rfl | rfl | rfl | rfl | rfl | rfl | rfl
          · have e9 : a.tmps[9]?.getD undef = .pointer (some ⟨g + 1, 0, none⟩) := (eval_tmp a 9).trans (hold 9 (by kernel_rfl))
            refine opIn_of rfl rfl ⟨fun f hf => (by cases hf), ?_⟩
            rw [Oper.semAt_eq _ _ _ (fun c h => by cases h)]
            go_simp
            first | exact hK _ hbq | (rw [if_pos (by omega)]; exact hK _ hbq)
          · have e10 : a.tmps[10]?.getD undef = .pointer (some ⟨Bk, 0, none⟩) := (eval_tmp a 10).trans (hold 10 (by kernel_rfl))
            refine opIn_of rfl rfl ⟨fun f hf => (by cases hf), ?_⟩
            rw [Oper.semAt_eq _ _ _ (fun c h => by cases h)]
            go_simp
            first | exact hK _ hbq | (rw [if_pos (by omega)]; exact hK _ hbq)
          · have q0 : a.tmps[38]?.getD undef = .slice (some ⟨g, 0, none⟩) (m + 1) (m + 1) := (eval_tmp a 38).trans (hv 0 38 (by kernel_rfl))
            have q1 : a.tmps[39]?.getD undef = .int .i64 (kn : Int) := (eval_tmp a 39).trans (hv 1 39 (by kernel_rfl))
            refine opIn_of rfl rfl ⟨fun f hf => (by cases hf), ?_⟩
            rw [Oper.semAt_eq _ _ _ (fun c h => by cases h)]
            go_simp
            first | exact hK _ hbq | (rw [if_pos (by omega)]; exact hK _ hbq)
          · have q2 : a.tmps[40]?.getD undef = .pointer (some ⟨g, kn, none⟩) := (eval_tmp a 40).trans (hv 2 40 (by kernel_rfl))
            refine opIn_of rfl rfl ⟨fun f hf => (by cases hf), ?_⟩
            rw [Oper.semAt_eq _ _ _ (fun c h => by cases h)]
            go_simp
            first | exact hK _ hbq | (rw [if_pos (by omega)]; exact hK _ hbq)
          · have e3 : a.tmps[3]?.getD undef = .func (.func fid) #[] #[] := (eval_tmp a 3).trans (hold 3 (by kernel_rfl))
            refine opIn_of rfl rfl ⟨fun f hf => (by cases hf), ?_⟩
            rw [Oper.semAt_eq _ _ _ (fun c h => by cases h)]
            go_simp
            first | exact hK _ hbq | (rw [if_pos (by omega)]; exact hK _ hbq)
          · have e0 : a.tmps[0]?.getD undef = .slice (some ⟨gA, off, none⟩) m c := (eval_tmp a 0).trans (hold 0 (by kernel_rfl))
            refine opIn_of rfl rfl ⟨fun f hf => (by cases hf), ?_⟩
            rw [Oper.semAt_eq _ _ _ (fun c h => by cases h)]
            go_simp
            first | exact hK _ hbq | (rw [if_pos (by omega)]; exact hK _ hbq)
          · have e10 : a.tmps[10]?.getD undef = .pointer (some ⟨Bk, 0, none⟩) := (eval_tmp a 10).trans (hold 10 (by kernel_rfl))
            refine opIn_of rfl rfl ⟨fun f hf => (by cases hf), ?_⟩
            rw [Oper.semAt_eq _ _ _ (fun c h => by cases h)]
            go_simp
            first | exact hK _ hbq | (rw [if_pos (by omega)]; exact hK _ hbq)
          · have q5 : a.tmps[43]?.getD undef = .slice (some ⟨gA, off, none⟩) m c := (eval_tmp a 43).trans (hv 5 43 (by kernel_rfl))
            have q6 : a.tmps[44]?.getD undef = .int .i64 (kn : Int) := (eval_tmp a 44).trans (hv 6 44 (by kernel_rfl))
            refine opIn_of rfl rfl ⟨fun f hf => (by cases hf), ?_⟩
            rw [Oper.semAt_eq _ _ _ (fun c h => by cases h)]
            go_simp
            first | exact hK _ hbq | (rw [if_pos (by omega)]; exact hK _ hbq)
          · have q7 : a.tmps[45]?.getD undef = .pointer (some ⟨gA, off + kn * 5, none⟩) := (eval_tmp a 45).trans (hv 7 45 (by kernel_rfl))
            refine opIn_of rfl rfl ⟨fun f hf => (by cases hf), ?_⟩
            rw [Oper.semAt_eq _ _ _ (fun c h => by cases h)]
            go_simp
            first | exact hK _ hbq | (rw [if_pos (by omega)]; exact hK _ hbq)
          · have q4 : a.tmps[42]?.getD undef = .func (.func fid) #[] #[] := (eval_tmp a 42).trans (hv 4 42 (by kernel_rfl))
            have q8 : a.tmps[46]?.getD undef = .agg #[.int .i64 x.op, .int .i64 x.a, .int .i64 x.b, .int .i64 x.c, .int .i64 x.i] := (eval_tmp a 46).trans (hv 8 46 (by kernel_rfl))
            refine opIn_of rfl rfl ⟨fun f hf => trivial, ?_⟩
            rw [Oper.semAt_eq _ _ _ (fun c h => by cases h)]
            go_simp
            refine (HW.out x wq HXM.out (hbW.trans (hbq.mono hbW.size))).mono ?_
            rintro e w1 ⟨rfl, hb1⟩
            exact hK _ (hbq.trans (hb1.mono hbq.size))
          · have q3 : a.tmps[41]?.getD undef = .int .i64 s := (eval_tmp a 41).trans (hv 3 41 (by kernel_rfl))
            have q9 : a.tmps[47]?.getD undef = .int .i64 (wt x) := (eval_tmp a 47).trans (hv 9 47 (by kernel_rfl))
            refine opIn_of rfl rfl ⟨fun f hf => (by cases hf), ?_⟩
            rw [Oper.semAt_eq _ _ _ (fun c h => by cases h)]
            go_simp
            first | exact hK _ hbq | (rw [if_pos (by omega)]; exact hK _ hbq)
          · have q0 : a.tmps[38]?.getD undef = .slice (some ⟨g, 0, none⟩) (m + 1) (m + 1) := (eval_tmp a 38).trans (hv 0 38 (by kernel_rfl))
            have q1 : a.tmps[39]?.getD undef = .int .i64 (kn : Int) := (eval_tmp a 39).trans (hv 1 39 (by kernel_rfl))
            refine opIn_of rfl rfl ⟨fun f hf => (by cases hf), ?_⟩
            rw [Oper.semAt_eq _ _ _ (fun c h => by cases h)]
            go_simp
            first | exact hK _ hbq | (rw [if_pos (by omega)]; exact hK _ hbq)
        · intro a wq hs9 hold hv K hK
          have hbq : Below W.heap.size W wq := hs9
          have c0 : wq.cell? ⟨g + 1, 0, none⟩ = some (.slice (some ⟨g, 0, none⟩) (m + 1) (m + 1)) := (mb.below hbq mb.lt).cell 0
          have c1 : wq.cell? ⟨Bk, 0, none⟩ = some (.int .i64 (kn : Int)) := (mk.below hbq mk.lt).cell 0
          have c2 : wq.cell? ⟨g, kn, none⟩ = some (.int .i64 s) := ((mg.below hbq mg.lt).cell kn).trans ((rowR_get _ (by omega)).trans (by rw [updR_at]))
          have f2 : wq.frozen? ⟨g, kn, none⟩ = false := (mg.below hbq mg.lt).frozen kn
          have x0 : wq.cell? ⟨gA, off + kn * 5, none⟩ = some (.int .i64 x.op) := (hbq.cell (p := ⟨gA, off + kn * 5, none⟩) hgA).trans y0
          have x1 : wq.cell? ⟨gA, off + kn * 5 + 1, none⟩ = some (.int .i64 x.a) := (hbq.cell (p := ⟨gA, off + kn * 5 + 1, none⟩) hgA).trans y1
          have x2 : wq.cell? ⟨gA, off + kn * 5 + 2, none⟩ = some (.int .i64 x.b) := (hbq.cell (p := ⟨gA, off + kn * 5 + 2, none⟩) hgA).trans y2
          have x3 : wq.cell? ⟨gA, off + kn * 5 + 3, none⟩ = some (.int .i64 x.c) := (hbq.cell (p := ⟨gA, off + kn * 5 + 3, none⟩) hgA).trans y3
          have x4 : wq.cell? ⟨gA, off + kn * 5 + 4, none⟩ = some (.int .i64 x.i) := (hbq.cell (p := ⟨gA, off + kn * 5 + 4, none⟩) hgA).trans y4
          have q11 : a.tmps[49]?.getD undef = .pointer (some ⟨g, kn, none⟩) := (eval_tmp a 49).trans (hv 11 49 (by kernel_rfl))
          have q10 : a.tmps[48]?.getD undef = .int .i64 (s + wt x) := (eval_tmp a 48).trans (hv 10 48 (by kernel_rfl))
          refine opIn_of rfl rfl ⟨fun f hf => (by cases hf), ?_⟩
          rw [Oper.semAt_eq _ _ _ (fun c h => by cases h)]
          go_simp
          exact hK _ ⟨wq, hbq, rfl⟩
        · intro a wq hsz9 hdf9 hold hs9
          obtain ⟨w1, hb1, rfl⟩ : ∃ w1, Below W.heap.size W w1 ∧ wq = w1.setCell ⟨g, kn, none⟩ (.int .i64 (s + wt x)) := hs9
          obtain ⟨tm, df⟩ := a
          simp only at hdf9
          subst hdf9
          obtain ⟨l0, rfl⟩ := arr_list tm
          have h0 : l0.length = 55 := by simpa using hsz9
          obtain ⟨v0, l1, rfl, h1⟩ := list_succ h0
          obtain ⟨v1, l2, rfl, h2⟩ := list_succ h1
          obtain ⟨v2, l3, rfl, h3⟩ := list_succ h2
          obtain ⟨v3, l4, rfl, h4⟩ := list_succ h3
          obtain ⟨v4, l5, rfl, h5⟩ := list_succ h4
          obtain ⟨v5, l6, rfl, h6⟩ := list_succ h5
          obtain ⟨v6, l7, rfl, h7⟩ := list_succ h6
          obtain ⟨v7, l8, rfl, h8⟩ := list_succ h7
          obtain ⟨v8, l9, rfl, h9⟩ := list_succ h8
          obtain ⟨v9, l10, rfl, h10⟩ := list_succ h9
          obtain ⟨v10, l11, rfl, h11⟩ := list_succ h10
          obtain ⟨v11, l12, rfl, h12⟩ := list_succ h11
          obtain ⟨v12, l13, rfl, h13⟩ := list_succ h12
          obtain ⟨v13, l14, rfl, h14⟩ := list_succ h13
          obtain ⟨v14, l15, rfl, h15⟩ := list_succ h14
          obtain ⟨v15, l16, rfl, h16⟩ := list_succ h15
          obtain ⟨v16, l17, rfl, h17⟩ := list_succ h16
          obtain ⟨v17, l18, rfl, h18⟩ := list_succ h17
          obtain ⟨v18, l19, rfl, h19⟩ := list_succ h18
          obtain ⟨v19, l20, rfl, h20⟩ := list_succ h19
          obtain ⟨v20, l21, rfl, h21⟩ := list_succ h20
          obtain ⟨v21, l22, rfl, h22⟩ := list_succ h21
          obtain ⟨v22, l23, rfl, h23⟩ := list_succ h22
          obtain ⟨v23, l24, rfl, h24⟩ := list_succ h23
          obtain ⟨v24, l25, rfl, h25⟩ := list_succ h24
          obtain ⟨v25, l26, rfl, h26⟩ := list_succ h25
          obtain ⟨v26, l27, rfl, h27⟩ := list_succ h26
          obtain ⟨v27, l28, rfl, h28⟩ := list_succ h27
          obtain ⟨v28, l29, rfl, h29⟩ := list_succ h28
          obtain ⟨v29, l30, rfl, h30⟩ := list_succ h29
          obtain ⟨v30, l31, rfl, h31⟩ := list_succ h30
          obtain ⟨v31, l32, rfl, h32⟩ := list_succ h31
          obtain ⟨v32, l33, rfl, h33⟩ := list_succ h32
          obtain ⟨v33, l34, rfl, h34⟩ := list_succ h33
          obtain ⟨v34, l35, rfl, h35⟩ := list_succ h34
          obtain ⟨v35, l36, rfl, h36⟩ := list_succ h35
          obtain ⟨v36, l37, rfl, h37⟩ := list_succ h36
          obtain ⟨v37, l38, rfl, h38⟩ := list_succ h37
          obtain ⟨v38, l39, rfl, h39⟩ := list_succ h38
          obtain ⟨v39, l40, rfl, h40⟩ := list_succ h39
          obtain ⟨v40, l41, rfl, h41⟩ := list_succ h40
          obtain ⟨v41, l42, rfl, h42⟩ := list_succ h41
          obtain ⟨v42, l43, rfl, h43⟩ := list_succ h42
          obtain ⟨v43, l44, rfl, h44⟩ := list_succ h43
          obtain ⟨v44, l45, rfl, h45⟩ := list_succ h44
          obtain ⟨v45, l46, rfl, h46⟩ := list_succ h45
          obtain ⟨v46, l47, rfl, h47⟩ := list_succ h46
          obtain ⟨v47, l48, rfl, h48⟩ := list_succ h47
          obtain ⟨v48, l49, rfl, h49⟩ := list_succ h48
          obtain ⟨v49, l50, rfl, h50⟩ := list_succ h49
          obtain ⟨v50, l51, rfl, h51⟩ := list_succ h50
          obtain ⟨v51, l52, rfl, h52⟩ := list_succ h51
          obtain ⟨v52, l53, rfl, h53⟩ := list_succ h52
          obtain ⟨v53, l54, rfl, h54⟩ := list_succ h53
          obtain ⟨v54, l55, rfl, h55⟩ := list_succ h54
          obtain rfl := List.eq_nil_of_length_eq_zero h55
          obtain rfl : v0 = .slice (some ⟨gA, off, none⟩) m c := hold 0 (by kernel_rfl)
          obtain rfl : v1 = .int .i64 lo := hold 1 (by kernel_rfl)
          obtain rfl : v2 = .int .i64 hi := hold 2 (by kernel_rfl)
          obtain rfl : v3 = .func (.func fid) #[] #[] := hold 3 (by kernel_rfl)
          obtain rfl : v4 = undef := hold 4 (by kernel_rfl)
          obtain rfl : v5 = undef := hold 5 (by kernel_rfl)
          obtain rfl : v6 = undef := hold 6 (by kernel_rfl)
          obtain rfl : v7 = undef := hold 7 (by kernel_rfl)
          obtain rfl : v8 = .int .i64 0 := hold 8 (by kernel_rfl)
          obtain rfl : v9 = .pointer (some ⟨g + 1, 0, none⟩) := hold 9 (by kernel_rfl)
          obtain rfl : v10 = .pointer (some ⟨Bk, 0, none⟩) := hold 10 (by kernel_rfl)
          obtain rfl : v11 = u11 := hold 11 (by kernel_rfl)
          obtain rfl : v12 = .slice (some ⟨gA, off, none⟩) m c := hold 12 (by kernel_rfl)
          obtain rfl : v13 = .int .i64 m := hold 13 (by kernel_rfl)
          obtain rfl : v14 = .int .i64 ((m : Int) + 1) := hold 14 (by kernel_rfl)
          obtain rfl : v15 = .slice (some ⟨g, 0, none⟩) (m + 1) (m + 1) := hold 15 (by kernel_rfl)
          obtain rfl : v16 = .int .i64 hi := hold 16 (by kernel_rfl)
          obtain rfl : v17 = .int .i64 (kn : Int) := hold 17 (by kernel_rfl)
          obtain rfl : v18 = .int .i64 lo := hold 18 (by kernel_rfl)
          obtain rfl : v19 = .bool true := hold 19 (by kernel_rfl)
          obtain rfl : v20 = u20 := hold 20 (by kernel_rfl)
          obtain rfl : v21 = u21 := hold 21 (by kernel_rfl)
          obtain rfl : v22 = .slice (some ⟨gA, off, none⟩) m c := hold 22 (by kernel_rfl)
          obtain rfl : v23 = .int .i64 (kn : Int) := hold 23 (by kernel_rfl)
          obtain rfl : v24 = .func (.func 67) #[] #[.pointer (some ⟨gb, 0, none⟩), .pointer (some ⟨gb + 1, 0, none⟩)] := hold 24 (by kernel_rfl)
          obtain rfl : v25 = u25 := hold 25 (by kernel_rfl)
          obtain rfl : v26 = u26 := hold 26 (by kernel_rfl)
          obtain rfl : v27 = u27 := hold 27 (by kernel_rfl)
          obtain rfl : v28 = u28 := hold 28 (by kernel_rfl)
          obtain rfl : v29 = u29 := hold 29 (by kernel_rfl)
          obtain rfl : v30 = u30 := hold 30 (by kernel_rfl)
          obtain rfl : v31 = u31 := hold 31 (by kernel_rfl)
          obtain rfl : v32 = u32 := hold 32 (by kernel_rfl)
          obtain rfl : v33 = u33 := hold 33 (by kernel_rfl)
          obtain rfl : v34 = u34 := hold 34 (by kernel_rfl)
          obtain rfl : v35 = u35 := hold 35 (by kernel_rfl)
          obtain rfl : v36 = u36 := hold 36 (by kernel_rfl)
          obtain rfl : v37 = u37 := hold 37 (by kernel_rfl)
          obtain rfl : v50 = u50 := hold 50 (by kernel_rfl)
          obtain rfl : v51 = undef := hold 51 (by kernel_rfl)
          obtain rfl : v52 = undef := hold 52 (by kernel_rfl)
          obtain rfl : v53 = undef := hold 53 (by kernel_rfl)
          obtain rfl : v54 = undef := hold 54 (by kernel_rfl)
          have mb1 := (mb.below hb1 mb.lt).far (a := ⟨g, kn, none⟩) (by show g + 1 ≠ g; omega) (.int .i64 (s + wt x))
          have mk1 := (mk.below hb1 mk.lt).far (a := ⟨g, kn, none⟩) (by show Bk ≠ g; omega) (.int .i64 (s + wt x))
          have mg1 := (mg.below hb1 mg.lt).set_ kn (.int .i64 (s + wt x))
          rw [rowR_set, updR_upd] at mg1
          have ck : (w1.setCell ⟨g, kn, none⟩ (.int .i64 (s + wt x))).cell? ⟨Bk, 0, none⟩ = some (.int .i64 (kn : Int)) := mk1.cell 0
          have hbW2 : Below w.heap.size w (w1.setCell ⟨g, kn, none⟩ (.int .i64 (s + wt x))) := (hbW.trans (hb1.mono hbW.size)).setCell (by show w.heap.size ≤ g; omega) _
          have hms2 : MarksAt (D :: Ds) (w1.setCell ⟨g, kn, none⟩ (.int .i64 (s + wt x))) := marks_set (marks_old (marks_cons hKD hmk) hb1 (marks_lt (marks_cons hKD hmk))) (mg.below hb1 mg.lt) kn _
          obtain ⟨W2, hW2⟩ : ∃ W2, w1.setCell ⟨g, kn, none⟩ (.int .i64 (s + wt x)) = W2 := ⟨_, rfl⟩
          rw [hW2] at mb1 mk1 mg1 ck hbW2 hms2 ⊢
          gi_wp2
          refine ⟨⟨(kn : Int) - 1, D :: Ds, rfl, by omega, by omega, mb1.lt, updR R kn (s + wt x), hbW2.alloc hbW2.size _, mg1.alloc _, mb1.alloc _, Mem.new _ _ _, marks_old hms2 (below_new W2 _) (marks_lt hms2), ?_, ?_, ?_, ?_⟩, ?_⟩
          · intro E hE
            rcases List.mem_cons.1 hE with rfl | hE
            · have := hbw.size; omega
            · exact hdl E hE
          · exact List.nodup_cons.2 ⟨fun h => by have := hdB D h; omega, hnd⟩
          · have := rest_step HV.out hrs hk1 HX.out
            rw [hs] at this
            rw [show (kn : Int) - 1 + 1 = kn by omega]
            exact this
          · exact bd_upd hbd (by omega) (by omega) (by omega)
          · rw [kOf_eq (p := ⟨W2.heap.size, 0, none⟩) rfl ((Mem.new W2 3 #[.int .i64 ((kn : Int) - 1)]).cell 0), kOf_eq (p := ⟨Bk, 0, none⟩) rfl HCK.out]
            omega
      case stop =>
        rintro D c pre W _ _ h _
        exact h.elim
    · obtain rfl : k = (lo : Int) - 1 := by omega
      have hrl : PgV.Rest ps wt lo hi R := by
        rw [show (lo : Int) - 1 + 1 = lo by omega] at hrs
        exact hrs
      have c2 : wr.cell? ⟨g, lo, none⟩ = some (.int .i64 (R lo)) := (mg.cell lo).trans (rowR_get _ (by omega))
      have HIE := Lib.hid hms
      clear hrs hms
      gi_wp2
      refine leaves_marks (lo := w.heap.size) (w := w) (fun W hbW => ?_) Ds wr hnd hdl HIE.out HBW.out HBW.out.size
      refine ⟨.int .i64 (R lo), ?_, ⟨R, hrl, hbd, rfl⟩, by rw [← hg]; exact hbW⟩
      simp [results, Tryd.f27, go_sem]

set_option maxRecDepth 100000 in
set_option maxHeartbeats 8000000 in
theorem heavy1_in (n : Nat) (hn : 6 ≤ n) (A : Option Addr) (m c : Nat) (ps : List I5) (lo : Nat) (hi : Int) (wt : I5 → Int) (fid : FuncId) (b : Nat) (w : World) (hE : Env w) (hm : m ≤ c) (hmx : c ≤ maxLen) (hR0 : RowI w A m ps) (hv : Valid ps) (hlo : lo ≤ m) (hlh : (lo : Int) ≤ hi + 1) (hhi : hi < m)
    (hwt : ∀ x ∈ ps, 0 ≤ wt x ∧ wt x ≤ 100) (heg : ∀ args W, (callFunc fid args).run Tryd.prog W = .ok (.enter fid args) W)
    (hW : ∀ (x : I5) W, x ∈ ps → Below w.heap.size w W → CallsIn Fence.wide (n - 1) Tryd.prog fid #[.agg #[.int .i64 x.op, .int .i64 x.a, .int .i64 x.b, .int .i64 x.c, .int .i64 x.i], .pointer (some ⟨b, 0, none⟩)] W fun e W' => e = .returned (.int .i64 (wt x)) ∧ Below W.heap.size W W') :
    CallsIn Fence.wide n Tryd.prog 27 #[.slice A m c, .int .i64 lo, .int .i64 hi, .func (.func fid) #[] #[.pointer (some ⟨b, 0, none⟩)]] w fun e W' => (∃ R, PgV.Rest ps wt lo hi R ∧ BdR R ∧ e = .returned (.int .i64 (R lo))) ∧ Below w.heap.size w W' := by
  have h1 : 1 ≤ n := by omega
  have hlen := hR0.1
  have h64 := hv.len
  have hm64 : m ≤ 64 := by omega
  have HWT := Lib.hid hwt
  have HR0 := Lib.hid hR0
  have HE := Lib.hid hE
  have HV := Lib.hid hv
  have HW := Lib.hid hW
  have HM := Lib.hid hm
  have HMX := Lib.hid hmx
  clear hE hR0 hv hW hm hmx hwt
  have hmk := make_i w (m + 1) (by omega)
  rw [show ((m + 1 : Nat) : Int) = (m : Int) + 1 by omega, rowR_zero] at hmk
  refine callsIn_of_wp_marks Tryd.func27 rfl trivial ?_ rfl
  simp only [Tryd.ntmps27, List.size_toArray, List.length_cons, List.length_nil, Nat.reduceAdd, Nat.reduceSub, Array.replicate_succ, Array.replicate_zero, List.push_toArray, List.append_toArray, List.nil_append, List.cons_append]
  gi_wp2
  have HB0 : Hid (HI w A m ps wt hi w.heap.size hi (w.heap.size + 2) [] (fun _ => 0) (((w.alloc (.cells (rowR (fun _ => 0) (m + 1)) 3)).alloc (.cells #[.slice (some ⟨w.heap.size, 0, none⟩) (m + 1) (m + 1)] 22)).alloc (.cells #[.int .i64 hi] 3))) := Lib.hid (hi_start A m ps wt hi w)
  obtain ⟨g, hg⟩ : ∃ g, w.heap.size = g := ⟨_, rfl⟩
  rw [hg] at HB0
  simp only [hg]
  refine wpIn_loop (fun a' wr => ∃ (u10 u11 u17 u18 u19 u20 u21 u22 u23 u24 u25 u26 u27 u28 u29 u30 u31 u32 u33 u34 u35 u36 u37 u38 u39 u40 u41 u42 u43 u44 u45 u46 u47 u48 u49 u50 : Value) (ds : List Deferred), (∃ (k : Int) (Bk : Nat) (Ds : List Nat) (R : Nat → Int), u10 = .pointer (some ⟨Bk, 0, none⟩) ∧ ds = Ds.map markOf ∧ (lo : Int) ≤ k + 1 ∧ k ≤ hi ∧ g + 1 < Bk ∧ HI w A m ps wt hi g k Bk Ds R wr) ∧ a' = { tmps := #[.slice A m c, .int .i64 lo, .int .i64 hi, .func (.func fid) #[] #[.pointer (some ⟨b, 0, none⟩)], undef, undef, undef, undef, .int .i64 0, .pointer (some ⟨g + 1, 0, none⟩), u10, u11, .slice A m c, .int .i64 m, .int .i64 ((m : Int) + 1), .slice (some ⟨g, 0, none⟩) (m + 1) (m + 1), .int .i64 hi, u17, u18, u19, u20, u21, u22, u23, u24, u25, u26, u27, u28, u29, u30, u31, u32, u33, u34, u35, u36, u37, u38, u39, u40, u41, u42, u43, u44, u45, u46, u47, u48, u49, u50, undef, undef, undef, undef], defers := ds }) (fun a' wr => kOf lo a' wr) ?_ ?_
  · (repeat apply Exists.intro)
    refine ⟨⟨hi, _, [], fun _ => 0, rfl, rfl, by omega, by omega, by omega, HB0.out⟩, rfl⟩
  · intro a wr hinv
    obtain ⟨u10, u11, u17, u18, u19, u20, u21, u22, u23, u24, u25, u26, u27, u28, u29, u30, u31, u32, u33, u34, u35, u36, u37, u38, u39, u40, u41, u42, u43, u44, u45, u46, u47, u48, u49, u50, ds, ⟨k, Bk, Ds, R, rfl, rfl, hk0, hk1, hBk, hI⟩, rfl⟩ := hinv
    have HIH := Lib.hid hI
    obtain ⟨hb, mg, mb, mk, hms, hdl, hnd, hrs, hbd⟩ := hI
    have HBW := Lib.hid hb
    have ckk : wr.cell? ⟨Bk, 0, none⟩ = some (.int .i64 k) := mk.cell 0
    have crr : wr.cell? ⟨g + 1, 0, none⟩ = some (.slice (some ⟨g, 0, none⟩) (m + 1) (m + 1)) := mb.cell 0
    have HCK := Lib.hid ckk
    by_cases hge : (lo : Int) ≤ k
    · obtain ⟨kn, rfl⟩ : ∃ kn : Nat, k = kn := ⟨k.toNat, by omega⟩
      have hkl : kn < ps.length := by omega
      have hx : ps[kn]? = some (ps[kn]'hkl) := List.getElem?_eq_getElem _
      obtain ⟨x, hxx⟩ : ∃ x, ps[kn]'hkl = x := ⟨_, rfl⟩
      rw [hxx] at hx
      have hmem : x ∈ ps := by rw [← hxx]; exact List.getElem_mem _
      have HX := Lib.hid hx
      have HXM := Lib.hid hmem
      clear hx hxx hmem
      gi_wp2_with (refine ⟨trivial, ?_⟩; gi_at_call 54; refine (following_in _ _ _ _ _ _).mono ?_; rintro e w' ⟨rfl, rfl⟩)
      have hb0 := below_new2 wr (.cells #[.slice A m c] 24) (.cells #[.int .i64 (kn : Int)] 3)
      have q0 := (Mem.new wr 24 #[.slice A m c]).alloc (.cells #[.int .i64 (kn : Int)] 3)
      have q1 := mem_new1 wr (.cells #[.slice A m c] 24) 3 #[.int .i64 (kn : Int)]
      have hsz : ((wr.alloc (.cells #[.slice A m c] 24)).alloc (.cells #[.int .i64 (kn : Int)] 3)).heap.size = wr.heap.size + 2 := by simp only [size_new]
      obtain ⟨W0, hW0⟩ : ∃ W0, ((wr.alloc (.cells #[.slice A m c] 24)).alloc (.cells #[.int .i64 (kn : Int)] 3)) = W0 := ⟨_, rfl⟩
      rw [hW0] at hb0 q0 q1 hsz ⊢
      clear hW0
      obtain ⟨gb, hgb⟩ : ∃ gb, wr.heap.size = gb := ⟨_, rfl⟩
      rw [hgb] at q0 q1 hsz ⊢
      have hbw : Below w.heap.size w W0 := HBW.out.trans (hb0.mono HBW.out.size)
      have mg0 := mg.below hb0 mg.lt
      have mb0 := mb.below hb0 mb.lt
      have mk0 := mk.below hb0 mk.lt
      have hdB : ∀ D ∈ Ds, D < W0.heap.size := fun D hD => by have := (Array.getElem?_eq_some_iff.1 (hms D hD)).1; omega
      have hms0 : MarksAt Ds W0 := marks_old hms hb0 (fun D hD => (Array.getElem?_eq_some_iff.1 (hms D hD)).1)
      have hR00 : R kn = 0 := hrs.low kn (by omega)
      have hggb : g < gb := by have := mg.lt; omega
      clear mg mb mk ckk crr
      refine wpIn_rangeFunc_ownG rfl h1 (gf := 67) (lb := #[.pointer (some ⟨gb, 0, none⟩), .pointer (some ⟨gb + 1, 0, none⟩)]) rfl trivial (enters_of Tryd.func67 (by kernel_rfl) rfl)
        (fol_stops (n - 1) (by omega) gb (gb + 1) A m c kn ps x w W0 HE.out HM.out HMX.out HR0.out HV.out HX.out hbw (q0.cell 0) (q1.cell 0)) keepK_t (fun W l o o' _ h ho _ => keepK_b W l o o' h ho) (Below.refl _ _) (fun _ => rfl)
        (fun pre W => Mem W g 3 (rowR (updR R kn (mx R (pre.map (·.1)) 0)) (m + 1)) ∧ Mem W (g + 1) 22 #[.slice (some ⟨g, 0, none⟩) (m + 1) (m + 1)] ∧ Mem W Bk 3 #[.int .i64 (kn : Int)] ∧ MarksAt Ds W ∧ Below w.heap.size w W)
        (fun _ _ _ => False)
        (OwnFrom.and (Own.from (mem_own g 3 (fun (pre : List (Pos kn ps.length)) => rowR (updR R kn (mx R (pre.map (·.1)) 0)) (m + 1))) _) (OwnFrom.and (Own.from (mem_own (g + 1) 22 (fun _ => #[.slice (some ⟨g, 0, none⟩) (m + 1) (m + 1)])) _) (OwnFrom.and (Own.from (mem_own Bk 3 (fun _ => #[.int .i64 (kn : Int)])) _) (OwnFrom.and (marks_own' hdB) (ownFrom_below (Nat.le_refl _) hbw.size)))))
        (fun c s X Y row hs hg hr => hs)
        ⟨by rw [show mx R (List.map (fun y : Pos kn ps.length => y.1) []) 0 = R kn by rw [hR00]; rfl, updR_self]; exact mg0, mb0, mk0, hms0, hbw⟩
        (fun y => { tmps := #[.slice A m c, .int .i64 lo, .int .i64 hi, .func (.func fid) #[] #[.pointer (some ⟨b, 0, none⟩)], undef, undef, undef, undef, .int .i64 0, .pointer (some ⟨g + 1, 0, none⟩), .pointer (some ⟨Bk, 0, none⟩), .int .i64 y.1, .slice A m c, .int .i64 m, .int .i64 ((m : Int) + 1), .slice (some ⟨g, 0, none⟩) (m + 1) (m + 1), .int .i64 hi, .int .i64 (kn : Int), .int .i64 lo, .bool true, u20, u21, .slice A m c, .int .i64 (kn : Int), .func (.func 67) #[] #[.pointer (some ⟨gb, 0, none⟩), .pointer (some ⟨gb + 1, 0, none⟩)], .int .i64 y.1, u26, u27, u28, u29, u30, u31, u32, u33, u34, u35, u36, u37, u38, u39, u40, u41, u42, u43, u44, u45, u46, u47, u48, u49, u50, undef, undef, undef, undef], defers := [] }) ?assign ?body ?done ?stop
      case assign =>
        intro l x W K hK
        gi_wp2
        exact hK
      case body =>
        rintro l pre ⟨z, hz1, hz2⟩ W ⟨mg, mb, mk, hmk, hbW⟩ hlt
        obtain ⟨y, rfl⟩ : ∃ y : Nat, z = y := ⟨z.toNat, by omega⟩
        obtain ⟨s, hs⟩ : ∃ s, mx R (pre.map (·.1)) 0 = s := ⟨_, rfl⟩
        rw [hs] at mg
        have c0 : W.cell? ⟨g + 1, 0, none⟩ = some (.slice (some ⟨g, 0, none⟩) (m + 1) (m + 1)) := mb.cell 0
        have c1 : W.cell? ⟨Bk, 0, none⟩ = some (.int .i64 (kn : Int)) := mk.cell 0
        have c2 : W.cell? ⟨g, kn, none⟩ = some (.int .i64 s) := (mg.cell kn).trans ((rowR_get _ (by omega)).trans (by rw [updR_at]))
        have c3 : W.cell? ⟨g, y, none⟩ = some (.int .i64 (R y)) := (mg.cell y).trans ((rowR_get _ (by omega)).trans (by rw [updR_ne _ _ (by omega)]))
        have f2 : W.frozen? ⟨g, kn, none⟩ = false := mg.frozen kn
        have MG := Lib.hid mg
        clear mg
        gi_wp2
        refine region_held' (by kernel_rfl) (fun i => ([.slice (some ⟨g, 0, none⟩) (m + 1) (m + 1), .int .i64 (kn : Int), .slice (some ⟨g, 0, none⟩) (m + 1) (m + 1), .int .i64 (kn : Int), .pointer (some ⟨g, kn, none⟩), .int .i64 s, .slice (some ⟨g, 0, none⟩) (m + 1) (m + 1), .int .i64 (y : Int), .pointer (some ⟨g, y, none⟩), .int .i64 (R y), .int .i64 (if s < R y then R y else s), .pointer (some ⟨g, kn, none⟩)] : List Value).getD i undef)
          (fun b wq => wq = if b then W.drew.setCell ⟨g, kn, none⟩ (.int .i64 (if s < R y then R y else s)) else W.drew) 12 55 (by kernel_rfl) rfl rfl ?_ ?_ ?_
        · intro i hi a wq hs9 hold hv K hK
          obtain rfl : wq = W.drew := hs9
          have hi' : i = 0 ∨ i = 1 ∨ i = 2 ∨ i = 3 ∨ i = 4 ∨ i = 5 ∨ i = 6 ∨ i = 7 ∨ i = 8 ∨ i = 9 ∨ i = 10 ∨ i = 11 := by omega
          rcases hi' with rfl | rfl | rfl | rfl | rfl | rfl | rfl | rfl | rfl | rfl | rfl | rfl
          · have e9 : a.tmps[9]?.getD undef = .pointer (some ⟨g + 1, 0, none⟩) := (eval_tmp a 9).trans (hold 9 (by kernel_rfl))
            refine opIn_of rfl rfl ⟨fun f hf => (by cases hf), ?_⟩
            rw [Oper.semAt_eq _ _ _ (fun c h => by cases h)]
            go_simp
            first | exact hK _ rfl | (rw [if_pos (by omega)]; exact hK _ rfl)
          · have e10 : a.tmps[10]?.getD undef = .pointer (some ⟨Bk, 0, none⟩) := (eval_tmp a 10).trans (hold 10 (by kernel_rfl))
            refine opIn_of rfl rfl ⟨fun f hf => (by cases hf), ?_⟩
            rw [Oper.semAt_eq _ _ _ (fun c h => by cases h)]
            go_simp
            first | exact hK _ rfl | (rw [if_pos (by omega)]; exact hK _ rfl)
          · have e9 : a.tmps[9]?.getD undef = .pointer (some ⟨g + 1, 0, none⟩) := (eval_tmp a 9).trans (hold 9 (by kernel_rfl))
            refine opIn_of rfl rfl ⟨fun f hf => (by cases hf), ?_⟩
            rw [Oper.semAt_eq _ _ _ (fun c h => by cases h)]
            go_simp
            first | exact hK _ rfl | (rw [if_pos (by omega)]; exact hK _ rfl)
          · have e10 : a.tmps[10]?.getD undef = .pointer (some ⟨Bk, 0, none⟩) := (eval_tmp a 10).trans (hold 10 (by kernel_rfl))
            refine opIn_of rfl rfl ⟨fun f hf => (by cases hf), ?_⟩
            rw [Oper.semAt_eq _ _ _ (fun c h => by cases h)]
            go_simp
            first | exact hK _ rfl | (rw [if_pos (by omega)]; exact hK _ rfl)
          · have q2 : a.tmps[28]?.getD undef = .slice (some ⟨g, 0, none⟩) (m + 1) (m + 1) := (eval_tmp a 28).trans (hv 2 28 (by kernel_rfl))
            have q3 : a.tmps[29]?.getD undef = .int .i64 (kn : Int) := (eval_tmp a 29).trans (hv 3 29 (by kernel_rfl))
            refine opIn_of rfl rfl ⟨fun f hf => (by cases hf), ?_⟩
            rw [Oper.semAt_eq _ _ _ (fun c h => by cases h)]
            go_simp
            first | exact hK _ rfl | (rw [if_pos (by omega)]; exact hK _ rfl)
          · have q4 : a.tmps[30]?.getD undef = .pointer (some ⟨g, kn, none⟩) := (eval_tmp a 30).trans (hv 4 30 (by kernel_rfl))
            refine opIn_of rfl rfl ⟨fun f hf => (by cases hf), ?_⟩
            rw [Oper.semAt_eq _ _ _ (fun c h => by cases h)]
            go_simp
            first | exact hK _ rfl | (rw [if_pos (by omega)]; exact hK _ rfl)
          · have e9 : a.tmps[9]?.getD undef = .pointer (some ⟨g + 1, 0, none⟩) := (eval_tmp a 9).trans (hold 9 (by kernel_rfl))
            refine opIn_of rfl rfl ⟨fun f hf => (by cases hf), ?_⟩
            rw [Oper.semAt_eq _ _ _ (fun c h => by cases h)]
            go_simp
            first | exact hK _ rfl | (rw [if_pos (by omega)]; exact hK _ rfl)
          · have e11 : a.tmps[11]?.getD undef = .int .i64 (y : Int) := (eval_tmp a 11).trans (hold 11 (by kernel_rfl))
            refine opIn_of rfl rfl ⟨fun f hf => (by cases hf), ?_⟩
            rw [Oper.semAt_eq _ _ _ (fun c h => by cases h)]
            go_simp
            first | exact hK _ rfl | (rw [if_pos (by omega)]; exact hK _ rfl)
          · have q6 : a.tmps[32]?.getD undef = .slice (some ⟨g, 0, none⟩) (m + 1) (m + 1) := (eval_tmp a 32).trans (hv 6 32 (by kernel_rfl))
            have q7 : a.tmps[33]?.getD undef = .int .i64 (y : Int) := (eval_tmp a 33).trans (hv 7 33 (by kernel_rfl))
            refine opIn_of rfl rfl ⟨fun f hf => (by cases hf), ?_⟩
            rw [Oper.semAt_eq _ _ _ (fun c h => by cases h)]
            go_simp
            first | exact hK _ rfl | (rw [if_pos (by omega)]; exact hK _ rfl)
          · have q8 : a.tmps[34]?.getD undef = .pointer (some ⟨g, y, none⟩) := (eval_tmp a 34).trans (hv 8 34 (by kernel_rfl))
            refine opIn_of rfl rfl ⟨fun f hf => (by cases hf), ?_⟩
            rw [Oper.semAt_eq _ _ _ (fun c h => by cases h)]
            go_simp
            first | exact hK _ rfl | (rw [if_pos (by omega)]; exact hK _ rfl)
          · have q5 : a.tmps[31]?.getD undef = .int .i64 s := (eval_tmp a 31).trans (hv 5 31 (by kernel_rfl))
            have q9 : a.tmps[35]?.getD undef = .int .i64 (R y) := (eval_tmp a 35).trans (hv 9 35 (by kernel_rfl))
            refine opIn_of rfl rfl ⟨fun f hf => (by cases hf), ?_⟩
            rw [Oper.semAt_eq _ _ _ (fun c h => by cases h)]
            go_simp
            first | exact hK _ rfl | (rw [if_pos (by omega)]; exact hK _ rfl)
          · have q0 : a.tmps[26]?.getD undef = .slice (some ⟨g, 0, none⟩) (m + 1) (m + 1) := (eval_tmp a 26).trans (hv 0 26 (by kernel_rfl))
            have q1 : a.tmps[27]?.getD undef = .int .i64 (kn : Int) := (eval_tmp a 27).trans (hv 1 27 (by kernel_rfl))
            refine opIn_of rfl rfl ⟨fun f hf => (by cases hf), ?_⟩
            rw [Oper.semAt_eq _ _ _ (fun c h => by cases h)]
            go_simp
            first | exact hK _ rfl | (rw [if_pos (by omega)]; exact hK _ rfl)
        · intro a wq hs9 hold hv K hK
          obtain rfl : wq = W.drew := hs9
          have q11 : a.tmps[37]?.getD undef = .pointer (some ⟨g, kn, none⟩) := (eval_tmp a 37).trans (hv 11 37 (by kernel_rfl))
          have q10 : a.tmps[36]?.getD undef = .int .i64 (if s < R y then R y else s) := (eval_tmp a 36).trans (hv 10 36 (by kernel_rfl))
          refine opIn_of rfl rfl ⟨fun f hf => (by cases hf), ?_⟩
          rw [Oper.semAt_eq _ _ _ (fun c h => by cases h)]
          go_simp
          exact hK _ rfl
        · intro a wq hsz9 hdf9 hold hs9
          obtain rfl : wq = W.drew.setCell ⟨g, kn, none⟩ (.int .i64 (if s < R y then R y else s)) := hs9
          have hmx : (if s < R y then R y else s) = max s (R y) := by split <;> omega
          rw [hmx]
          refine ⟨((KeepsOthers.drew W).trans (KeepsOthers.setCell _ _ _)).from _, ?_, ?_, Mem.far mb (a := ⟨g, kn, none⟩) (by show g + 1 ≠ g; omega) _, Mem.far mk (a := ⟨g, kn, none⟩) (by show Bk ≠ g; omega) _, marks_set hmk MG.out kn _, (Below.drew hbW).setCell (by show w.heap.size ≤ g; omega) _⟩
          · exact fun v hv => (World.cell?_of_block (w := W) (Below.heap_setCell W ⟨g, kn, none⟩ _ (gb + 1) (by show gb + 1 ≠ g; omega))).trans hv
          · have h9 := (MG.out.drewN 1).set_ kn (.int .i64 (max s (R y)))
            rw [rowR_set, updR_upd] at h9
            rw [List.map_append, List.map_cons, List.map_nil, mx_snoc, hs]
            exact h9
      case done =>
        rintro D ys W hD rfl ⟨mg, mb, mk, hmk, hbW⟩ hKD
        rw [folS_val] at mg
        obtain ⟨s, hs⟩ : ∃ s, mx R (folV ps kn x) 0 = s := ⟨_, rfl⟩
        rw [hs] at mg
        obtain ⟨gA, off, x', rfl, hgA, hx', y0, y1, y2, y3, y4⟩ := (HR0.out.below hbW).at (show kn < m by omega)
        obtain rfl : x = x' := by have := HX.out; rw [hx'] at this; exact (Option.some.inj this).symm
        obtain ⟨hw0, hw1⟩ := HWT.out x HXM.out
        obtain ⟨hs0, hs1⟩ := bd_mx hbd (k := kn) (l := folV ps kn x) (fun y hy => (HV.out.fol HX.out y hy).1)
        rw [hs] at hs0 hs1
        have hwr : IntKind.i64.wrap (s + wt x) = s + wt x := IntWalk.i64_in _ (by omega)
        gi_wp2
        refine region_held' (by kernel_rfl) (fun i => ([.slice (some ⟨g, 0, none⟩) (m + 1) (m + 1), .int .i64 (kn : Int), .pointer (some ⟨g, kn, none⟩), .int .i64 s, .func (.func fid) #[] #[.pointer (some ⟨b, 0, none⟩)], .slice (some ⟨gA, off, none⟩) m c, .int .i64 (kn : Int), .pointer (some ⟨gA, off + kn * 5, none⟩), .agg #[.int .i64 x.op, .int .i64 x.a, .int .i64 x.b, .int .i64 x.c, .int .i64 x.i], .int .i64 (wt x), .int .i64 (s + wt x), .pointer (some ⟨g, kn, none⟩)] : List Value).getD i undef)
          (fun b wq => if b then ∃ w1, Below W.heap.size W w1 ∧ wq = w1.setCell ⟨g, kn, none⟩ (.int .i64 (s + wt x)) else Below W.heap.size W wq) 12 55 (by kernel_rfl) rfl (below_drewN (Below.refl _ _) 1) ?_ ?_ ?_
        · intro i hi a wq hs9 hold hv K hK
          have hbq : Below W.heap.size W wq := hs9
          have c0 : wq.cell? ⟨g + 1, 0, none⟩ = some (.slice (some ⟨g, 0, none⟩) (m + 1) (m + 1)) := (mb.below hbq mb.lt).cell 0
          have c1 : wq.cell? ⟨Bk, 0, none⟩ = some (.int .i64 (kn : Int)) := (mk.below hbq mk.lt).cell 0
          have c2 : wq.cell? ⟨g, kn, none⟩ = some (.int .i64 s) := ((mg.below hbq mg.lt).cell kn).trans ((rowR_get _ (by omega)).trans (by rw [updR_at]))
          have f2 : wq.frozen? ⟨g, kn, none⟩ = false := (mg.below hbq mg.lt).frozen kn
          have x0 : wq.cell? ⟨gA, off + kn * 5, none⟩ = some (.int .i64 x.op) := (hbq.cell (p := ⟨gA, off + kn * 5, none⟩) hgA).trans y0
          have x1 : wq.cell? ⟨gA, off + kn * 5 + 1, none⟩ = some (.int .i64 x.a) := (hbq.cell (p := ⟨gA, off + kn * 5 + 1, none⟩) hgA).trans y1
          have x2 : wq.cell? ⟨gA, off + kn * 5 + 2, none⟩ = some (.int .i64 x.b) := (hbq.cell (p := ⟨gA, off + kn * 5 + 2, none⟩) hgA).trans y2
          have x3 : wq.cell? ⟨gA, off + kn * 5 + 3, none⟩ = some (.int .i64 x.c) := (hbq.cell (p := ⟨gA, off + kn * 5 + 3, none⟩) hgA).trans y3
          have x4 : wq.cell? ⟨gA, off + kn * 5 + 4, none⟩ = some (.int .i64 x.i) := (hbq.cell (p := ⟨gA, off + kn * 5 + 4, none⟩) hgA).trans y4
          have hi' : i = 0 ∨ i = 1 ∨ i = 2 ∨ i = 3 ∨ i = 4 ∨ i = 5 ∨ i = 6 ∨ i = 7 ∨ i = 8 ∨ i = 9 ∨ i = 10 ∨ i = 11 := by omega
          rcases hi' with rfl | rfl | rfl | rfl | rfl | rfl | rfl | rfl | rfl | rfl | rfl | rfl
          · have e9 : a.tmps[9]?.getD undef = .pointer (some ⟨g + 1, 0, none⟩) := (eval_tmp a 9).trans (hold 9 (by kernel_rfl))
            refine opIn_of rfl rfl ⟨fun f hf => (by cases hf), ?_⟩
            rw [Oper.semAt_eq _ _ _ (fun c h => by cases h)]
            go_simp
            first | exact hK _ hbq | (rw [if_pos (by omega)]; exact hK _ hbq)
          · have e10 : a.tmps[10]?.getD undef = .pointer (some ⟨Bk, 0, none⟩) := (eval_tmp a 10).trans (hold 10 (by kernel_rfl))
            refine opIn_of rfl rfl ⟨fun f hf => (by cases hf), ?_⟩
            rw [Oper.semAt_eq _ _ _ (fun c h => by cases h)]
            go_simp
            first | exact hK _ hbq | (rw [if_pos (by omega)]; exact hK _ hbq)
          · have q0 : a.tmps[38]?.getD undef = .slice (some ⟨g, 0, none⟩) (m + 1) (m + 1) := (eval_tmp a 38).trans (hv 0 38 (by kernel_rfl))
            have q1 : a.tmps[39]?.getD undef = .int .i64 (kn : Int) := (eval_tmp a 39).trans (hv 1 39 (by kernel_rfl))
            refine opIn_of rfl rfl ⟨fun f hf => (by cases hf), ?_⟩
            rw [Oper.semAt_eq _ _ _ (fun c h => by cases h)]
            go_simp
            first | exact hK _ hbq | (rw [if_pos (by omega)]; exact hK _ hbq)
          · have q2 : a.tmps[40]?.getD undef = .pointer (some ⟨g, kn, none⟩) := (eval_tmp a 40).trans (hv 2 40 (by kernel_rfl))
            refine opIn_of rfl rfl ⟨fun f hf => (by cases hf), ?_⟩
            rw [Oper.semAt_eq _ _ _ (fun c h => by cases h)]
            go_simp
            first | exact hK _ hbq | (rw [if_pos (by omega)]; exact hK _ hbq)
          · have e3 : a.tmps[3]?.getD undef = .func (.func fid) #[] #[.pointer (some ⟨b, 0, none⟩)] := (eval_tmp a 3).trans (hold 3 (by kernel_rfl))
            refine opIn_of rfl rfl ⟨fun f hf => (by cases hf), ?_⟩
            rw [Oper.semAt_eq _ _ _ (fun c h => by cases h)]
            go_simp
            first | exact hK _ hbq | (rw [if_pos (by omega)]; exact hK _ hbq)
          · have e0 : a.tmps[0]?.getD undef = .slice (some ⟨gA, off, none⟩) m c := (eval_tmp a 0).trans (hold 0 (by kernel_rfl))
            refine opIn_of rfl rfl ⟨fun f hf => (by cases hf), ?_⟩
            rw [Oper.semAt_eq _ _ _ (fun c h => by cases h)]
            go_simp
            first | exact hK _ hbq | (rw [if_pos (by omega)]; exact hK _ hbq)
          · have e10 : a.tmps[10]?.getD undef = .pointer (some ⟨Bk, 0, none⟩) := (eval_tmp a 10).trans (hold 10 (by kernel_rfl))
            refine opIn_of rfl rfl ⟨fun f hf => (by cases hf), ?_⟩
            rw [Oper.semAt_eq _ _ _ (fun c h => by cases h)]
            go_simp
            first | exact hK _ hbq | (rw [if_pos (by omega)]; exact hK _ hbq)
          · have q5 : a.tmps[43]?.getD undef = .slice (some ⟨gA, off, none⟩) m c := (eval_tmp a 43).trans (hv 5 43 (by kernel_rfl))
            have q6 : a.tmps[44]?.getD undef = .int .i64 (kn : Int) := (eval_tmp a 44).trans (hv 6 44 (by kernel_rfl))
            refine opIn_of rfl rfl ⟨fun f hf => (by cases hf), ?_⟩
            rw [Oper.semAt_eq _ _ _ (fun c h => by cases h)]
            go_simp
            first | exact hK _ hbq | (rw [if_pos (by omega)]; exact hK _ hbq)
          · have q7 : a.tmps[45]?.getD undef = .pointer (some ⟨gA, off + kn * 5, none⟩) := (eval_tmp a 45).trans (hv 7 45 (by kernel_rfl))
            refine opIn_of rfl rfl ⟨fun f hf => (by cases hf), ?_⟩
            rw [Oper.semAt_eq _ _ _ (fun c h => by cases h)]
            go_simp
            first | exact hK _ hbq | (rw [if_pos (by omega)]; exact hK _ hbq)
          · have q4 : a.tmps[42]?.getD undef = .func (.func fid) #[] #[.pointer (some ⟨b, 0, none⟩)] := (eval_tmp a 42).trans (hv 4 42 (by kernel_rfl))
            have q8 : a.tmps[46]?.getD undef = .agg #[.int .i64 x.op, .int .i64 x.a, .int .i64 x.b, .int .i64 x.c, .int .i64 x.i] := (eval_tmp a 46).trans (hv 8 46 (by kernel_rfl))
            refine opIn_of rfl rfl ⟨fun f hf => trivial, ?_⟩
            rw [Oper.semAt_eq _ _ _ (fun c h => by cases h)]
            go_simp
            refine (HW.out x wq HXM.out (hbW.trans (hbq.mono hbW.size))).mono ?_
            rintro e w1 ⟨rfl, hb1⟩
            exact hK _ (hbq.trans (hb1.mono hbq.size))
          · have q3 : a.tmps[41]?.getD undef = .int .i64 s := (eval_tmp a 41).trans (hv 3 41 (by kernel_rfl))
            have q9 : a.tmps[47]?.getD undef = .int .i64 (wt x) := (eval_tmp a 47).trans (hv 9 47 (by kernel_rfl))
            refine opIn_of rfl rfl ⟨fun f hf => (by cases hf), ?_⟩
            rw [Oper.semAt_eq _ _ _ (fun c h => by cases h)]
            go_simp
            first | exact hK _ hbq | (rw [if_pos (by omega)]; exact hK _ hbq)
          · have q0 : a.tmps[38]?.getD undef = .slice (some ⟨g, 0, none⟩) (m + 1) (m + 1) := (eval_tmp a 38).trans (hv 0 38 (by kernel_rfl))
            have q1 : a.tmps[39]?.getD undef = .int .i64 (kn : Int) := (eval_tmp a 39).trans (hv 1 39 (by kernel_rfl))
            refine opIn_of rfl rfl ⟨fun f hf => (by cases hf), ?_⟩
            rw [Oper.semAt_eq _ _ _ (fun c h => by cases h)]
            go_simp
            first | exact hK _ hbq | (rw [if_pos (by omega)]; exact hK _ hbq)
        · intro a wq hs9 hold hv K hK
          have hbq : Below W.heap.size W wq := hs9
          have c0 : wq.cell? ⟨g + 1, 0, none⟩ = some (.slice (some ⟨g, 0, none⟩) (m + 1) (m + 1)) := (mb.below hbq mb.lt).cell 0
          have c1 : wq.cell? ⟨Bk, 0, none⟩ = some (.int .i64 (kn : Int)) := (mk.below hbq mk.lt).cell 0
          have c2 : wq.cell? ⟨g, kn, none⟩ = some (.int .i64 s) := ((mg.below hbq mg.lt).cell kn).trans ((rowR_get _ (by omega)).trans (by rw [updR_at]))
          have f2 : wq.frozen? ⟨g, kn, none⟩ = false := (mg.below hbq mg.lt).frozen kn
          have x0 : wq.cell? ⟨gA, off + kn * 5, none⟩ = some (.int .i64 x.op) := (hbq.cell (p := ⟨gA, off + kn * 5, none⟩) hgA).trans y0
          have x1 : wq.cell? ⟨gA, off + kn * 5 + 1, none⟩ = some (.int .i64 x.a) := (hbq.cell (p := ⟨gA, off + kn * 5 + 1, none⟩) hgA).trans y1
          have x2 : wq.cell? ⟨gA, off + kn * 5 + 2, none⟩ = some (.int .i64 x.b) := (hbq.cell (p := ⟨gA, off + kn * 5 + 2, none⟩) hgA).trans y2
          have x3 : wq.cell? ⟨gA, off + kn * 5 + 3, none⟩ = some (.int .i64 x.c) := (hbq.cell (p := ⟨gA, off + kn * 5 + 3, none⟩) hgA).trans y3
          have x4 : wq.cell? ⟨gA, off + kn * 5 + 4, none⟩ = some (.int .i64 x.i) := (hbq.cell (p := ⟨gA, off + kn * 5 + 4, none⟩) hgA).trans y4
          have q11 : a.tmps[49]?.getD undef = .pointer (some ⟨g, kn, none⟩) := (eval_tmp a 49).trans (hv 11 49 (by kernel_rfl))
          have q10 : a.tmps[48]?.getD undef = .int .i64 (s + wt x) := (eval_tmp a 48).trans (hv 10 48 (by kernel_rfl))
          refine opIn_of rfl rfl ⟨fun f hf => (by cases hf), ?_⟩
          rw [Oper.semAt_eq _ _ _ (fun c h => by cases h)]
          go_simp
          exact hK _ ⟨wq, hbq, rfl⟩
        · intro a wq hsz9 hdf9 hold hs9
          obtain ⟨w1, hb1, rfl⟩ : ∃ w1, Below W.heap.size W w1 ∧ wq = w1.setCell ⟨g, kn, none⟩ (.int .i64 (s + wt x)) := hs9
          obtain ⟨tm, df⟩ := a
          simp only at hdf9
          subst hdf9
          obtain ⟨l0, rfl⟩ := arr_list tm
          have h0 : l0.length = 55 := by simpa using hsz9
          obtain ⟨v0, l1, rfl, h1⟩ := list_succ h0
          obtain ⟨v1, l2, rfl, h2⟩ := list_succ h1
          obtain ⟨v2, l3, rfl, h3⟩ := list_succ h2
          obtain ⟨v3, l4, rfl, h4⟩ := list_succ h3
          obtain ⟨v4, l5, rfl, h5⟩ := list_succ h4
          obtain ⟨v5, l6, rfl, h6⟩ := list_succ h5
          obtain ⟨v6, l7, rfl, h7⟩ := list_succ h6
          obtain ⟨v7, l8, rfl, h8⟩ := list_succ h7
          obtain ⟨v8, l9, rfl, h9⟩ := list_succ h8
          obtain ⟨v9, l10, rfl, h10⟩ := list_succ h9
          obtain ⟨v10, l11, rfl, h11⟩ := list_succ h10
          obtain ⟨v11, l12, rfl, h12⟩ := list_succ h11
          obtain ⟨v12, l13, rfl, h13⟩ := list_succ h12
          obtain ⟨v13, l14, rfl, h14⟩ := list_succ h13
          obtain ⟨v14, l15, rfl, h15⟩ := list_succ h14
          obtain ⟨v15, l16, rfl, h16⟩ := list_succ h15
          obtain ⟨v16, l17, rfl, h17⟩ := list_succ h16
          obtain ⟨v17, l18, rfl, h18⟩ := list_succ h17
          obtain ⟨v18, l19, rfl, h19⟩ := list_succ h18
          obtain ⟨v19, l20, rfl, h20⟩ := list_succ h19
          obtain ⟨v20, l21, rfl, h21⟩ := list_succ h20
          obtain ⟨v21, l22, rfl, h22⟩ := list_succ h21
          obtain ⟨v22, l23, rfl, h23⟩ := list_succ h22
          obtain ⟨v23, l24, rfl, h24⟩ := list_succ h23
          obtain ⟨v24, l25, rfl, h25⟩ := list_succ h24
          obtain ⟨v25, l26, rfl, h26⟩ := list_succ h25
          obtain ⟨v26, l27, rfl, h27⟩ := list_succ h26
          obtain ⟨v27, l28, rfl, h28⟩ := list_succ h27
          obtain ⟨v28, l29, rfl, h29⟩ := list_succ h28
          obtain ⟨v29, l30, rfl, h30⟩ := list_succ h29
          obtain ⟨v30, l31, rfl, h31⟩ := list_succ h30
          obtain ⟨v31, l32, rfl, h32⟩ := list_succ h31
          obtain ⟨v32, l33, rfl, h33⟩ := list_succ h32
          obtain ⟨v33, l34, rfl, h34⟩ := list_succ h33
          obtain ⟨v34, l35, rfl, h35⟩ := list_succ h34
          obtain ⟨v35, l36, rfl, h36⟩ := list_succ h35
          obtain ⟨v36, l37, rfl, h37⟩ := list_succ h36
          obtain ⟨v37, l38, rfl, h38⟩ := list_succ h37
          obtain ⟨v38, l39, rfl, h39⟩ := list_succ h38
          obtain ⟨v39, l40, rfl, h40⟩ := list_succ h39
          obtain ⟨v40, l41, rfl, h41⟩ := list_succ h40
          obtain ⟨v41, l42, rfl, h42⟩ := list_succ h41
          obtain ⟨v42, l43, rfl, h43⟩ := list_succ h42
          obtain ⟨v43, l44, rfl, h44⟩ := list_succ h43
          obtain ⟨v44, l45, rfl, h45⟩ := list_succ h44
          obtain ⟨v45, l46, rfl, h46⟩ := list_succ h45
          obtain ⟨v46, l47, rfl, h47⟩ := list_succ h46
          obtain ⟨v47, l48, rfl, h48⟩ := list_succ h47
          obtain ⟨v48, l49, rfl, h49⟩ := list_succ h48
          obtain ⟨v49, l50, rfl, h50⟩ := list_succ h49
          obtain ⟨v50, l51, rfl, h51⟩ := list_succ h50
          obtain ⟨v51, l52, rfl, h52⟩ := list_succ h51
          obtain ⟨v52, l53, rfl, h53⟩ := list_succ h52
          obtain ⟨v53, l54, rfl, h54⟩ := list_succ h53
          obtain ⟨v54, l55, rfl, h55⟩ := list_succ h54
          obtain rfl := List.eq_nil_of_length_eq_zero h55
          obtain rfl : v0 = .slice (some ⟨gA, off, none⟩) m c := hold 0 (by kernel_rfl)
          obtain rfl : v1 = .int .i64 lo := hold 1 (by kernel_rfl)
          obtain rfl : v2 = .int .i64 hi := hold 2 (by kernel_rfl)
          obtain rfl : v3 = .func (.func fid) #[] #[.pointer (some ⟨b, 0, none⟩)] := hold 3 (by kernel_rfl)
          obtain rfl : v4 = undef := hold 4 (by kernel_rfl)
          obtain rfl : v5 = undef := hold 5 (by kernel_rfl)
          obtain rfl : v6 = undef := hold 6 (by kernel_rfl)
          obtain rfl : v7 = undef := hold 7 (by kernel_rfl)
          obtain rfl : v8 = .int .i64 0 := hold 8 (by kernel_rfl)
          obtain rfl : v9 = .pointer (some ⟨g + 1, 0, none⟩) := hold 9 (by kernel_rfl)
          obtain rfl : v10 = .pointer (some ⟨Bk, 0, none⟩) := hold 10 (by kernel_rfl)
          obtain rfl : v11 = u11 := hold 11 (by kernel_rfl)
          obtain rfl : v12 = .slice (some ⟨gA, off, none⟩) m c := hold 12 (by kernel_rfl)
          obtain rfl : v13 = .int .i64 m := hold 13 (by kernel_rfl)
          obtain rfl : v14 = .int .i64 ((m : Int) + 1) := hold 14 (by kernel_rfl)
          obtain rfl : v15 = .slice (some ⟨g, 0, none⟩) (m + 1) (m + 1) := hold 15 (by kernel_rfl)
          obtain rfl : v16 = .int .i64 hi := hold 16 (by kernel_rfl)
          obtain rfl : v17 = .int .i64 (kn : Int) := hold 17 (by kernel_rfl)
          obtain rfl : v18 = .int .i64 lo := hold 18 (by kernel_rfl)
          obtain rfl : v19 = .bool true := hold 19 (by kernel_rfl)
          obtain rfl : v20 = u20 := hold 20 (by kernel_rfl)
          obtain rfl : v21 = u21 := hold 21 (by kernel_rfl)
          obtain rfl : v22 = .slice (some ⟨gA, off, none⟩) m c := hold 22 (by kernel_rfl)
          obtain rfl : v23 = .int .i64 (kn : Int) := hold 23 (by kernel_rfl)
          obtain rfl : v24 = .func (.func 67) #[] #[.pointer (some ⟨gb, 0, none⟩), .pointer (some ⟨gb + 1, 0, none⟩)] := hold 24 (by kernel_rfl)
          obtain rfl : v25 = u25 := hold 25 (by kernel_rfl)
          obtain rfl : v26 = u26 := hold 26 (by kernel_rfl)
          obtain rfl : v27 = u27 := hold 27 (by kernel_rfl)
          obtain rfl : v28 = u28 := hold 28 (by kernel_rfl)
          obtain rfl : v29 = u29 := hold 29 (by kernel_rfl)
          obtain rfl : v30 = u30 := hold 30 (by kernel_rfl)
          obtain rfl : v31 = u31 := hold 31 (by kernel_rfl)
          obtain rfl : v32 = u32 := hold 32 (by kernel_rfl)
          obtain rfl : v33 = u33 := hold 33 (by kernel_rfl)
          obtain rfl : v34 = u34 := hold 34 (by kernel_rfl)
          obtain rfl : v35 = u35 := hold 35 (by kernel_rfl)
          obtain rfl : v36 = u36 := hold 36 (by kernel_rfl)
          obtain rfl : v37 = u37 := hold 37 (by kernel_rfl)
          obtain rfl : v50 = u50 := hold 50 (by kernel_rfl)
          obtain rfl : v51 = undef := hold 51 (by kernel_rfl)
          obtain rfl : v52 = undef := hold 52 (by kernel_rfl)
          obtain rfl : v53 = undef := hold 53 (by kernel_rfl)
          obtain rfl : v54 = undef := hold 54 (by kernel_rfl)
          have mb1 := (mb.below hb1 mb.lt).far (a := ⟨g, kn, none⟩) (by show g + 1 ≠ g; omega) (.int .i64 (s + wt x))
          have mk1 := (mk.below hb1 mk.lt).far (a := ⟨g, kn, none⟩) (by show Bk ≠ g; omega) (.int .i64 (s + wt x))
          have mg1 := (mg.below hb1 mg.lt).set_ kn (.int .i64 (s + wt x))
          rw [rowR_set, updR_upd] at mg1
          have ck : (w1.setCell ⟨g, kn, none⟩ (.int .i64 (s + wt x))).cell? ⟨Bk, 0, none⟩ = some (.int .i64 (kn : Int)) := mk1.cell 0
          have hbW2 : Below w.heap.size w (w1.setCell ⟨g, kn, none⟩ (.int .i64 (s + wt x))) := (hbW.trans (hb1.mono hbW.size)).setCell (by show w.heap.size ≤ g; omega) _
          have hms2 : MarksAt (D :: Ds) (w1.setCell ⟨g, kn, none⟩ (.int .i64 (s + wt x))) := marks_set (marks_old (marks_cons hKD hmk) hb1 (marks_lt (marks_cons hKD hmk))) (mg.below hb1 mg.lt) kn _
          obtain ⟨W2, hW2⟩ : ∃ W2, w1.setCell ⟨g, kn, none⟩ (.int .i64 (s + wt x)) = W2 := ⟨_, rfl⟩
          rw [hW2] at mb1 mk1 mg1 ck hbW2 hms2 ⊢
          gi_wp2
          refine ⟨⟨(kn : Int) - 1, D :: Ds, rfl, by omega, by omega, mb1.lt, updR R kn (s + wt x), hbW2.alloc hbW2.size _, mg1.alloc _, mb1.alloc _, Mem.new _ _ _, marks_old hms2 (below_new W2 _) (marks_lt hms2), ?_, ?_, ?_, ?_⟩, ?_⟩
          · intro E hE
            rcases List.mem_cons.1 hE with rfl | hE
            · have := hbw.size; omega
            · exact hdl E hE
          · exact List.nodup_cons.2 ⟨fun h => by have := hdB D h; omega, hnd⟩
          · have := rest_step HV.out hrs hk1 HX.out
            rw [hs] at this
            rw [show (kn : Int) - 1 + 1 = kn by omega]
            exact this
          · exact bd_upd hbd (by omega) (by omega) (by omega)
          · rw [kOf_eq (p := ⟨W2.heap.size, 0, none⟩) rfl ((Mem.new W2 3 #[.int .i64 ((kn : Int) - 1)]).cell 0), kOf_eq (p := ⟨Bk, 0, none⟩) rfl HCK.out]
            omega
      case stop =>
        rintro D c pre W _ _ h _
        exact h.elim
    · obtain rfl : k = (lo : Int) - 1 := by omega
      have hrl : PgV.Rest ps wt lo hi R := by
        rw [show (lo : Int) - 1 + 1 = lo by omega] at hrs
        exact hrs
      have c2 : wr.cell? ⟨g, lo, none⟩ = some (.int .i64 (R lo)) := (mg.cell lo).trans (rowR_get _ (by omega))
      have HIE := Lib.hid hms
      clear hrs hms
      gi_wp2
      refine leaves_marks (lo := w.heap.size) (w := w) (fun W hbW => ?_) Ds wr hnd hdl HIE.out HBW.out HBW.out.size
      refine ⟨.int .i64 (R lo), ?_, ⟨R, hrl, hbd, rfl⟩, by rw [← hg]; exact hbW⟩
      simp [results, Tryd.f27, go_sem]
end Go.Proofs.YthnhmclnfgkppaaDoor.PgH
