/-
  Contracts of package strongtxlab: Set of a cell that both machines have with one value; Same of machines with one content.
-/
import Derived.Test.YtpjbmbipkmpkhaaLabP
import Derived.Deep.RegionHeld3
namespace Go.Proofs.Ytpjbmbipkmpkhaa.LabS
open Go.ChangeShapes Go.WideShapes Go.ChangeAt Go.RowKit
open PlainT BlkW LayS LayA CelS CelM CelP CelV CelN CelO CelI CelY CelF CelQ CelT LabD LabR LabP
set_option linter.unusedVariables false
set_option maxHeartbeats 4000000
set_option maxRecDepth 100000

/-- What Set's region holds. -/
def HSet (ga gp : Nat) (cs ds : Array Value) (w : World) : Prop := Mem w ga 62 cs ∧ Mem w gp TP ds
abbrev SSet (b rb ga gp : Nat) (k : Int) (i : Nat) (x v : Int) (w : World) : Prop :=
  w.cell? ⟨ga, 0, none⟩ = some (.int .i64 2) ∧ w.cell? ⟨ga, 1, none⟩ = some (.int .i64 k) ∧ w.cell? ⟨ga, 2, none⟩ = some (.int .i64 i) ∧ w.cell? ⟨ga, 3, none⟩ = some (.int .u64 x) ∧ w.cell? ⟨ga, 4, none⟩ = some (.int .u64 v) ∧ w.cell? ⟨ga, 5, none⟩ = some (.bool true) ∧
  w.cell? ⟨gp, 0, none⟩ = some (.pointer (some ⟨b, 0, none⟩)) ∧ w.cell? ⟨gp, 1, none⟩ = some (.pointer (some ⟨rb, 0, none⟩)) ∧ HSet ga gp #[.int .i64 2, .int .i64 k, .int .i64 i, .int .u64 x, .int .u64 v, .bool true] #[.pointer (some ⟨b, 0, none⟩), .pointer (some ⟨rb, 0, none⟩)] w
theorem sset_of {b rb ga gp : Nat} {k : Int} {i : Nat} {x v : Int} {w : World} (h : HSet ga gp #[.int .i64 2, .int .i64 k, .int .i64 i, .int .u64 x, .int .u64 v, .bool true] #[.pointer (some ⟨b, 0, none⟩), .pointer (some ⟨rb, 0, none⟩)] w) : SSet b rb ga gp k i x v w :=
  ⟨h.1.cell 0, h.1.cell 1, h.1.cell 2, h.1.cell 3, h.1.cell 4, h.1.cell 5, h.2.cell 0, h.2.cell 1, h⟩
theorem sset_h {b rb ga gp : Nat} {k : Int} {i : Nat} {x v : Int} {w : World} (h : SSet b rb ga gp k i x v w) : HSet ga gp #[.int .i64 2, .int .i64 k, .int .i64 i, .int .u64 x, .int .u64 v, .bool true] #[.pointer (some ⟨b, 0, none⟩), .pointer (some ⟨rb, 0, none⟩)] w := h.2.2.2.2.2.2.2.2
theorem sset_stay {lo hi b rb ga gp : Nat} {k : Int} {i : Nat} {x v : Int} {w w' : World} (ha : hi ≤ ga) (hp : hi ≤ gp) (h : SSet b rb ga gp k i x v w) (hs : Stay lo hi w w') : SSet b rb ga gp k i x v w' :=
  sset_of ⟨(hs.block ga (sset_h h).1.lt (.inr ha)).trans (sset_h h).1, (hs.block gp (sset_h h).2.lt (.inr hp)).trans (sset_h h).2⟩
theorem p_set {lo hi b rb : Nat} {w : World} {q : Cfg} {A B : Int → List Int} (h : Duo lo hi w b rb q A B) (k : Int) (hk : 1 ≤ k ∧ k ≤ 8) (i : Nat) (hA : i < (A k).length) (hB : i < (B k).length) (x : Int) (hxA : (A k).getD i 0 = x) (hxB : (B k).getD i 0 = x) (v : Int) :
    Calls Try.prog 19 #[pairV b rb, .int .i64 k, .int .i64 i, .int .u64 v] w fun e w' => e = .returned (.bool true) ∧ Duo lo hi w' b rb q (upd A k i v) (upd B k i v) ∧ Stay lo hi w w' := by
  have htop := h.top
  have HP0 := Lib.hid (Mem.new w TP #[.pointer (some ⟨b, 0, none⟩), .pointer (some ⟨rb, 0, none⟩)])
  have H0 := Lib.hid (h.alloc (.cells #[.pointer (some ⟨b, 0, none⟩), .pointer (some ⟨rb, 0, none⟩)] TP))
  have S0 := Lib.hid (Stay.of_below (lo := lo) (hi := hi) (below_new w (.cells #[.pointer (some ⟨b, 0, none⟩), .pointer (some ⟨rb, 0, none⟩)] TP)))
  clear h
  go_enter Try.func19, Try.ntmps19
  go_upto_region 1 with (fail)
  obtain ⟨gp, hgp⟩ : ∃ gp, w.heap.size = gp := ⟨_, rfl⟩
  rw [hgp] at HP0 htop ⊢
  obtain ⟨W, hW⟩ : ∃ W, w.alloc (.cells #[.pointer (some ⟨b, 0, none⟩), .pointer (some ⟨rb, 0, none⟩)] TP) = W := ⟨_, rfl⟩
  rw [hW] at HP0 H0 S0
  first | rw [hW] | skip
  clear hW hgp
  have p0 := HP0.out.cell 0
  have p1 := HP0.out.cell 1
  simp at p0 p1
  have hst := d_store H0.out k hk i hA x hxA v
  go_upto_region 2 with (go_at_call 72; refine hst.mono ?_; rintro e w1 ⟨rfl, hD1, hS1⟩)
  have HA1 := Lib.hid (Mem.new w1 62 #[.int .i64 2, .int .i64 k, .int .i64 i, .int .u64 x, .int .u64 v, .bool true])
  have HP1 := Lib.hid (Mem.alloc ((hS1.block gp HP0.out.lt (.inr htop)).trans HP0.out) (.cells #[.int .i64 2, .int .i64 k, .int .i64 i, .int .u64 x, .int .u64 v, .bool true] 62))
  have HD1 := Lib.hid (hD1.alloc (.cells #[.int .i64 2, .int .i64 k, .int .i64 i, .int .u64 x, .int .u64 v, .bool true] 62))
  have HS1 := Lib.hid ((S0.out.trans hS1).alloc (.cells #[.int .i64 2, .int .i64 k, .int .i64 i, .int .u64 x, .int .u64 v, .bool true] 62))
  have hga : hi ≤ w1.heap.size := hD1.top
  obtain ⟨ga, hgae⟩ : ∃ ga, w1.heap.size = ga := ⟨_, rfl⟩
  rw [hgae] at HA1 hga ⊢
  obtain ⟨W1, hW1⟩ : ∃ W1, w1.alloc (.cells #[.int .i64 2, .int .i64 k, .int .i64 i, .int .u64 x, .int .u64 v, .bool true] 62) = W1 := ⟨_, rfl⟩
  rw [hW1] at HA1 HP1 HD1 HS1
  first | rw [hW1] | skip
  clear hW1 hgae hD1 hS1 hst p0 p1 S0 H0 HP0
  have hs0 : SSet b rb ga gp k i x v W1.drew := sset_of ⟨HA1.out.drewN 1, HP1.out.drewN 1⟩
  have HDD : Hid (Duo lo hi W1.drew b rb q (upd A k i v) B) := Lib.hid (HD1.out.drewN 1)
  have HSD : Hid (Stay lo hi w W1.drew) := Lib.hid (HS1.out.drewN 1)
  have hR : ∀ W', Duo lo hi W' b rb q (upd A k i v) B → Calls Try.prog 73 #[.pointer (some ⟨rb, 0, none⟩), .int .i64 k, .int .i64 i, .int .u64 v] W' fun e w' => e = .returned (accV 2 k i x v true) ∧ Duo lo hi w' b rb q (upd A k i v) (upd B k i v) ∧ Stay lo hi W' w' := fun W' hw => s_store hw k hk i hB x hxB v
  clear HA1 HP1 HD1 HS1 hA hB hxA hxB hk
  go_region_held3 (SSet b rb ga gp k i x v) (first | exact hs0 | exact sset_stay hga htop (by assumption) (by assumption)) (first
    | (go_at_call 73; (with_reducible refine (hR _ (by exact HDD.out)).mono ?_); rintro e w5 ⟨rfl, hD5, hS5⟩))
  have HF := Lib.hid hD5
  have HG := Lib.hid (HSD.out.trans hS5)
  clear hD5 hS5 hR HDD HSD hs0
  go_wp2
  go_ret
  exact ⟨rfl, HF.out, HG.out⟩

/-- What Same's region holds. -/
def HSam (w0 : World) (lo m1 m2 hi b rb gp : Nat) (q : Cfg) (A : Int → List Int) (V : Nat → Value) (X : Nat → List Int) (c t s : Int) (w : World) : Prop :=
  Is lo m1 w b A ∧ Ref m2 hi w rb q A V X c t s ∧ Mem w gp TP #[.pointer (some ⟨b, 0, none⟩), .pointer (some ⟨rb, 0, none⟩)] ∧ Stay lo hi w0 w
abbrev SSam (w0 : World) (lo m1 m2 hi b rb gp : Nat) (q : Cfg) (A : Int → List Int) (V : Nat → Value) (X : Nat → List Int) (c t s : Int) (w : World) : Prop :=
  w.cell? ⟨gp, 0, none⟩ = some (.pointer (some ⟨b, 0, none⟩)) ∧ w.cell? ⟨gp, 1, none⟩ = some (.pointer (some ⟨rb, 0, none⟩)) ∧
  w.cell? ⟨rb, 13, none⟩ = some (V 0) ∧ w.cell? ⟨rb, 14, none⟩ = some (V 1) ∧ w.cell? ⟨rb, 15, none⟩ = some (.int .u64 c) ∧ w.cell? ⟨rb, 16, none⟩ = some (.int .u64 t) ∧ w.cell? ⟨rb, 17, none⟩ = some (.int .u64 s) ∧ w.cell? ⟨rb, 18, none⟩ = some (V 2) ∧ w.cell? ⟨rb, 19, none⟩ = some (V 3) ∧ w.cell? ⟨rb, 20, none⟩ = some (V 4) ∧ HSam w0 lo m1 m2 hi b rb gp q A V X c t s w
section
variable {w0 w w' : World} {lo m1 m2 hi b rb gp : Nat} {q : Cfg} {A : Int → List Int} {V : Nat → Value} {X : Nat → List Int} {c t s : Int}
theorem ssam_of (h : HSam w0 lo m1 m2 hi b rb gp q A V X c t s w) : SSam w0 lo m1 m2 hi b rb gp q A V X c t s w :=
  ⟨h.2.2.1.cell 0, h.2.2.1.cell 1, h.2.1.r.bx.cell 13, h.2.1.r.bx.cell 14, h.2.1.r.bx.cell 15, h.2.1.r.bx.cell 16, h.2.1.r.bx.cell 17, h.2.1.r.bx.cell 18, h.2.1.r.bx.cell 19, h.2.1.r.bx.cell 20, h⟩
theorem ssam_h (h : SSam w0 lo m1 m2 hi b rb gp q A V X c t s w) : HSam w0 lo m1 m2 hi b rb gp q A V X c t s w := h.2.2.2.2.2.2.2.2.2.2
theorem ssam_is (h : SSam w0 lo m1 m2 hi b rb gp q A V X c t s w) : Is lo m1 w b A := (ssam_h h).1
theorem ssam_keep (h : SSam w0 lo m1 m2 hi b rb gp q A V X c t s w) (hb : Below w.heap.size w w') : SSam w0 lo m1 m2 hi b rb gp q A V X c t s w' :=
  have k := ssam_h h
  ssam_of ⟨k.1.below hb, k.2.1.of_blocks (Nat.le_trans k.2.1.top hb.size) (fun x h1 h2 => hb.block x (Nat.lt_of_lt_of_le h2 k.2.1.top)), k.2.2.1.below hb k.2.2.1.lt, k.2.2.2.trans (Stay.of_below hb)⟩
theorem ssam_drew (h : HSam w0 lo m1 m2 hi b rb gp q A V X c t s w) : SSam w0 lo m1 m2 hi b rb gp q A V X c t s w.drew := ssam_keep (ssam_of h) (below_drewN (Below.refl _ w) 1)
theorem ssam_stay (hm : m1 ≤ m2) (hgp : hi ≤ gp) (h : SSam w0 lo m1 m2 hi b rb gp q A V X c t s w) (hi' : Is lo m1 w' b A) (hs : Stay lo m1 w w') : SSam w0 lo m1 m2 hi b rb gp q A V X c t s w' :=
  have k := ssam_h h
  have l1 : m2 ≤ hi := by have := k.2.1.bIn; have := k.2.1.r.low; omega
  ssam_of ⟨hi', k.2.1.of_blocks (Nat.le_trans k.2.1.top hs.size) (fun x h1 h2 => hs.block x (Nat.lt_of_lt_of_le h2 k.2.1.top) (.inr (by omega))), (hs.block gp k.2.2.1.lt (.inr (by omega))).trans k.2.2.1, k.2.2.2.trans (hs.wide (Nat.le_refl _) (by omega))⟩
theorem k_both {base : Nat} {vd vo vl vh vn : Value} (hl : ∀ k : Int, (A k).length ≤ 1000) (ho : OwnU w base vd (A 1) ∧ OwnU w base vo (A 2) ∧ OwnU w base vl (A 6) ∧ OwnU w base vh (A 7) ∧ OwnU w base vn (A 8)) (h : SSam w0 lo m1 m2 hi b rb gp q A V X c t s w) :
    Calls Try.prog 16 #[imgV vd vo c t s vl vh vn, imgV (V 0) (V 1) c t s (V 2) (V 3) (V 4)] w fun e w' => e = .returned (.bool true) ∧ Below w.heap.size w w' := by
  have r := (ssam_h h).2.1
  exact k_image w c t s vd vo vl vh vn (V 0) (V 1) (V 2) (V 3) (V 4) (A 1) (A 2) (A 6) (A 7) (A 8) (rd_own ho.1) (r.a1 ▸ rd_own (r.r.own 0 (by decide))) (rd_own ho.2.1) (r.a2 ▸ rd_own (r.r.own 1 (by decide))) (rd_own ho.2.2.1) (r.a6 ▸ rd_own (r.r.own 2 (by decide))) (rd_own ho.2.2.2.1) (r.a7 ▸ rd_own (r.r.own 3 (by decide))) (rd_own ho.2.2.2.2) (r.a8 ▸ rd_own (r.r.own 4 (by decide))) (hl 1) (hl 2) (hl 6) (hl 7) (hl 8)
end
theorem p_same {lo hi b rb : Nat} {w : World} {q : Cfg} {A : Int → List Int} (h : Duo lo hi w b rb q A A) : Calls Try.prog 29 #[pairV b rb] w fun e w' => e = .returned (.bool true) ∧ Duo lo hi w' b rb q A A ∧ Stay lo hi w w' := by
  have hl : ∀ k : Int, (A k).length ≤ 1000 := fun k => h.len k
  have htop := h.top
  obtain ⟨m1, m2, hI, ⟨V, X, c, t, s, hr⟩, hm, hout⟩ := h
  have h3 := hr.a3
  have h4 := hr.a4
  have h5 := hr.a5
  have HH : Hid (HSam w lo m1 m2 hi b rb w.heap.size q A V X c t s (w.alloc (.cells #[.pointer (some ⟨b, 0, none⟩), .pointer (some ⟨rb, 0, none⟩)] TP))) :=
    Lib.hid ⟨hI.below (below_new _ _), hr.of_blocks (Nat.le_trans htop (below_new w _).size) (fun x h1 h2 => (below_new w _).block x (by omega)), Mem.new _ _ _, Stay.of_below (below_new _ _)⟩
  clear hI hr
  go_enter Try.func29, Try.ntmps29
  go_upto_region 1 with (fail)
  obtain ⟨gp, hgp⟩ : ∃ gp, w.heap.size = gp := ⟨_, rfl⟩
  rw [hgp] at HH htop ⊢
  obtain ⟨W, hW⟩ : ∃ W, w.alloc (.cells #[.pointer (some ⟨b, 0, none⟩), .pointer (some ⟨rb, 0, none⟩)] TP) = W := ⟨_, rfl⟩
  rw [hW] at HH
  first | rw [hW] | skip
  clear hW hgp
  have hg := HH.out
  go_region_held3 (SSam w lo m1 m2 hi b rb gp q A V X c t s) (first | exact ssam_drew hg | exact ssam_stay hm htop (by assumption) (by assumption) (by assumption) | exact ssam_keep (by assumption) (by assumption)) (first
    | (go_at_call 17; (with_reducible refine (m_image lo m1 _ b A (ssam_is (by assumption)) c t s h3 h4 h5).mono ?_); rintro e w6 ⟨vd, vo, vl, vh, vn, rfl, hown6, hI6, hS6⟩)
    | (go_at_call 16; (with_reducible refine (k_both hl (by assumption) (by assumption)).mono ?_); rintro e w7 ⟨rfl, hb7⟩))
  rename_i hH
  have HF := Lib.hid (ssam_h hH)
  clear hH hg
  go_wp2
  go_ret
  exact ⟨rfl, ⟨m1, m2, HF.out.1, ⟨V, X, c, t, s, HF.out.2.1⟩, hm, hout⟩, HF.out.2.2.2⟩
end Go.Proofs.Ytpjbmbipkmpkhaa.LabS
