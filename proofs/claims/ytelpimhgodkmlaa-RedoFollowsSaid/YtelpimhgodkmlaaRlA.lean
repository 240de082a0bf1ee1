/-
  A redo log in memory: its box and three rows of its own; contracts of the program's search (place) and of what only reads.
-/
import Derived.Test.YtelpimhgodkmlaaRlP
import Derived.Test.YtelpimhgodkmlaaRlU
import Derived.Deep.RegionHeld3
import Derived.Deep.RegionLaw
namespace Go.Proofs.Ytelpimhgodkmlaa.RlA
open Go.ChangeShapes Go.WideShapes Go.ChangeAt Go.RowKit
open PlainT BlkW CelS CelM CelV CelN LabD FreV FreI RsA RlU RlP
set_option linter.unusedVariables false
set_option maxHeartbeats 1000000
set_option maxRecDepth 100000
abbrev TL : TypeId := 52
abbrev TK : TypeId := 37
/-- Where a log lies: its box's block and its three rows. -/
structure LV where
  g : Nat
  va : Value
  vv : Value
  vi : Value
/-- Two rows of the call's own lie in different blocks. -/
def Dis (v u : Value) : Prop := ∀ y, v.ownBlock = some y → u.ownBlock ≠ some y
/-- A log's box and rows. -/
structure LogR (w : World) (B : Nat) (t : TypeId) (cap : Nat) (L : LV) (ad vs ix : List Int) : Prop where
  box : Mem w L.g t #[.int .i64 cap, L.va, L.vv, L.vi]
  ra : OwnI w B L.va ad
  rv : OwnW w B L.vv vs
  ri : OwnI w B L.vi ix
  gB : B ≤ L.g
  tt : t = TL ∨ t = TK
  ap : Dis L.va L.vi
/-- A log: box, rows, contents. -/
structure LogIs (w : World) (B : Nat) (t : TypeId) (cap : Nat) (L : LV) (ad vs ix : List Int) : Prop extends LogR w B t cap L ad vs ix where
  ok : Ok cap ad vs ix
  c32 : cap ≤ 32
/-- A log's blocks. -/
def Blks (L : LV) (x : Nat) : Prop := x = L.g ∨ L.va.ownBlock = some x ∨ L.vv.ownBlock = some x ∨ L.vi.ownBlock = some x
theorem ti_ne {t : TypeId} (h : t = TL ∨ t = TK) : TI ≠ t := by rcases h with rfl | rfl <;> decide
theorem tu_ne {t : TypeId} (h : t = TL ∨ t = TK) : TU ≠ t := by rcases h with rfl | rfl <;> decide
section
variable {w w' : World} {B : Nat} {v u : Value} {xs ys : List Int} {P : Nat → Prop}
theorem own_fri (h : OwnI w B v xs) (k : Fr P w w') (hp : ∀ x, v.ownBlock = some x → ¬ P x) : OwnI w' B v xs := own_of_block h fun g hg => k.block g (h.lt g hg).2 (hp g hg)
theorem own_frw (h : OwnW w B v xs) (k : Fr P w w') (hp : ∀ x, v.ownBlock = some x → ¬ P x) : OwnW w' B v xs := own_of_block h fun g hg => k.block g (h.lt g hg).2 (hp g hg)
/-- A row of integers and one of words lie in different blocks. -/
theorem dis_iw (h : OwnI w B v xs) (k : OwnW w B u ys) : Dis v u := by
  intro y hy hu
  rcases k.2 with ⟨rfl, _⟩ | ⟨g', cap, cur, rfl, _, hh, _⟩
  · simp [Value.ownBlock] at hu
  · have e : g' = y := by simpa [Value.ownBlock] using hu
    subst e
    exact own_ne h (fr := (0, 0)) hh (by decide) hy
theorem Dis.symm {v u : Value} (h : Dis v u) : Dis u v := fun y h1 h2 => h y h2 h1
theorem Dis.left {v v' u : Value} {S : Nat} (h : Dis v u) (k : v'.ownBlock = v.ownBlock ∨ ∃ y, v'.ownBlock = some y ∧ S ≤ y) (hu : ∀ y, u.ownBlock = some y → y < S) : Dis v' u := by
  intro y h1 h2
  rcases k with k | ⟨x, k1, k2⟩
  · exact h y (k ▸ h1) h2
  · rw [k1] at h1
    injection h1 with h1
    have := hu y h2
    omega
end
section
variable {w w' : World} {B : Nat} {t : TypeId} {cap : Nat} {L : LV} {ad vs ix : List Int} {P : Nat → Prop}
theorem LogR.fr (h : LogR w B t cap L ad vs ix) (k : Fr P w w') (hp : ∀ x, Blks L x → ¬ P x) : LogR w' B t cap L ad vs ix :=
  ⟨mem_fr h.box k (hp _ (.inl rfl)), own_fri h.ra k fun x hx => hp x (.inr (.inl hx)), own_frw h.rv k fun x hx => hp x (.inr (.inr (.inl hx))), own_fri h.ri k fun x hx => hp x (.inr (.inr (.inr hx))), h.gB, h.tt, h.ap⟩
theorem LogR.below (h : LogR w B t cap L ad vs ix) (k : Below w.heap.size w w') : LogR w' B t cap L ad vs ix := h.fr (P := fun _ => False) (Fr.of_below k) fun _ _ => id
theorem LogR.drewN (h : LogR w B t cap L ad vs ix) (n : Nat) : LogR (w.drewN n) B t cap L ad vs ix := h.below (below_drewN (Below.refl _ w) n)
theorem LogIs.fr (h : LogIs w B t cap L ad vs ix) (k : Fr P w w') (hp : ∀ x, Blks L x → ¬ P x) : LogIs w' B t cap L ad vs ix := ⟨h.toLogR.fr k hp, h.ok, h.c32⟩
theorem LogIs.below (h : LogIs w B t cap L ad vs ix) (k : Below w.heap.size w w') : LogIs w' B t cap L ad vs ix := h.fr (P := fun _ => False) (Fr.of_below k) fun _ _ => id
theorem LogIs.drewN (h : LogIs w B t cap L ad vs ix) (n : Nat) : LogIs (w.drewN n) B t cap L ad vs ix := h.below (below_drewN (Below.refl _ w) n)
theorem LogIs.alloc (h : LogIs w B t cap L ad vs ix) (o : Obj) : LogIs (w.alloc o) B t cap L ad vs ix := h.below (below_new w o)
theorem LogIs.lt (h : LogIs w B t cap L ad vs ix) {x : Nat} (hx : Blks L x) : B ≤ x ∧ x < w.heap.size := by
  rcases hx with rfl | hx | hx | hx
  · exact ⟨h.gB, h.box.lt⟩
  · exact h.ra.lt x hx
  · exact h.rv.lt x hx
  · exact h.ri.lt x hx
theorem LogR.oa (h : LogR w B t cap L ad vs ix) : L.va.ownBlock ≠ some L.g := own_ne_mem h.ra h.box (ti_ne h.tt)
theorem LogR.ov (h : LogR w B t cap L ad vs ix) : L.vv.ownBlock ≠ some L.g := own_ne_mem h.rv h.box (tu_ne h.tt)
theorem LogR.oi (h : LogR w B t cap L ad vs ix) : L.vi.ownBlock ≠ some L.g := own_ne_mem h.ri h.box (ti_ne h.tt)
/-- What a step of a log leaves beside it. -/
theorem LogIs.step (h : LogIs w B t cap L ad vs ix) (hB : B ≤ w.heap.size) (k : Fr (Blks L) w w') : Below B w w' := k.below (fun x hx => (h.lt hx).1) hB
end
theorem tm {a m r : Int} (ha : 0 ≤ a) (h : a % m = r) : a.tmod m = r := by rw [Int.tmod_eq_emod_of_nonneg ha, h]
theorem home_eq {s : Nat} (hs : 0 < s) (x : Int) : 5 * (x % (s : Int)) % (s : Int) = (home s x : Int) := by
  unfold home
  rw [Int.toNat_of_nonneg (Int.emod_nonneg _ (by omega))]
theorem a_place (w : World) (B : Nat) (cap : Nat) (L : LV) (ad vs ix : List Int) (x : Int) (h : LogIs w B TL cap L ad vs ix) (hx : 0 ≤ x) : Calls Try.prog 26 #[.pointer (some ⟨L.g, 0, none⟩), .int .i64 x] w fun e w' => ∃ p : Nat, e = .returned (.int .i64 p) ∧ Hits ad ix x p ∧ Ws w w' := by
  obtain ⟨g, va, vv, vi⟩ := L
  have hroom := h.ok.room
  have hsz := h.ok.sz
  obtain ⟨gi, ci, rfl, _, hci⟩ := own_ptri h.ri (by omega)
  have hra := rdi_own h.ra
  obtain ⟨pa, ca, rfl, hca⟩ := hra
  obtain ⟨s, hs⟩ : ∃ s, ix.length = s := ⟨_, rfl⟩
  obtain ⟨d, hd, hstop, hno⟩ := h.ok.search x
  have hok := Lib.hid h.ok
  have b1 : w.cell? ⟨g, 1, none⟩ = some (.slice pa ad.length ca) := h.box.cell 1
  have b3 : w.cell? ⟨g, 3, none⟩ = some (.slice (some ⟨gi, 0, none⟩) ix.length ci) := h.box.cell 3
  have hhome := home_lt (by omega : 0 < ix.length) x
  rw [hs] at b3 hroom hsz hd hstop hno hhome
  obtain ⟨r, hr⟩ : ∃ r, x % (s : Int) = r := ⟨_, rfl⟩
  have hr0 := Int.emod_nonneg x (by omega : (s : Int) ≠ 0)
  have hr1 := Int.emod_lt_of_pos x (by omega : (0 : Int) < s)
  have hh := home_eq (by omega : 0 < s) x
  rw [hr] at hh hr0 hr1
  obtain ⟨o, ho⟩ : ∃ o, home s x = o := ⟨_, rfl⟩
  rw [ho] at hh hstop hno hhome
  have e1 : x.tmod s = r := tm hx hr
  have e2 : (5 * r).tmod s = o := tm (by omega) hh
  have hs0 : ((s : Int) == 0) = false := by simp; omega
  have HST := Lib.hid hstop
  have HNO := Lib.hid hno
  have HS := Lib.hid hs
  have HCI := Lib.hid hci
  have HCA := Lib.hid hca
  have HO := Lib.hid ho
  have HB1 := Lib.hid b1
  have HB3 := Lib.hid b3
  clear hr hh hstop hno hs hci hca ho h
  have hfew := hok.out.few
  have hfi : (ad.length : Int) < s := by omega
  go_enter Try.func26, Try.ntmps26
  go_wp2_with fail
  go_loopw [6] (fun pv wr => ∃ k : Nat, k ≤ d ∧ pv = .int .i64 ((o + k) % s : Nat) ∧ Ws w wr) (fun pv _ => ((o + d) % s + s - (intOf pv).toNat) % s)
  case atStart => exact ⟨0, by omega, by rw [Nat.add_zero, Nat.mod_eq_of_lt hhome], 0, rfl⟩
  case round =>
    obtain ⟨k, hk, rfl, hws⟩ := hrel
    have HW := Lib.hid hws
    clear hws b1 b3
    obtain ⟨p, hp⟩ : ∃ p, (o + k) % s = p := ⟨_, rfl⟩
    have hps : p < s := by rw [← hp]; exact Nat.mod_lt _ (by omega)
    have b1 : wr.cell? ⟨g, 1, none⟩ = some (.slice pa ad.length ca) := by
      obtain ⟨nd, rfl⟩ := HW.out
      exact HB1.out
    have b3 : wr.cell? ⟨g, 3, none⟩ = some (.slice (some ⟨gi, 0, none⟩) s ci) := by
      obtain ⟨nd, rfl⟩ := HW.out
      exact HB3.out
    have hpI : (p : Int) < s := by omega
    by_cases hlt : k < d
    · obtain ⟨i, y, hi, hy, hne⟩ := nostop hok.out (x := x) (p := p) (by rw [HS.out]; exact hps) (by rw [← hp]; exact HNO.out k hlt)
      have c1 : wr.cell? ⟨gi, p, none⟩ = some (.int .i64 i) := by
        obtain ⟨nd, rfl⟩ := HW.out
        exact (HCI.out p i hi).1
      obtain ⟨ga, oa, rfl, hcy⟩ := HCA.out i y hy
      have c2 : wr.cell? ⟨ga, oa + i, none⟩ = some (.int .i64 y) := by
        obtain ⟨nd, rfl⟩ := HW.out
        exact hcy
      have hi2 := (List.getElem?_eq_some_iff.1 hy).1
      have hi3 : (i : Int) < ad.length := by omega
      have t1 : ((i : Int) != -1) = true := by simp
      have t2 : (y != x) = true := by simp [hne]
      obtain ⟨p2, hp2⟩ : ∃ p2, (p + 1) % s = p2 := ⟨_, rfl⟩
      have t3 : ((p : Int) + 1).tmod s = p2 := tm (by omega) (by rw [← hp2]; simp)
      have HP2 := Lib.hid hp2
      have HP := Lib.hid hp
      rw [hp]
      clear hi hy hne hcy hp hp2
      go_upto_region 3 with (fail)
      go_quiet (fail)
      go_wp2_with fail
      go_roundw
      case rel =>
        obtain ⟨nd, rfl⟩ := HW.out
        exact ⟨k + 1, by omega, by rw [← HP2.out, ← HP.out, Nat.mod_add_mod, Nat.add_assoc], nd + nq, by rw [World.drewN_drewN]⟩
      case measure =>
        show ((o + d) % s + s - ((p2 : Int)).toNat) % s < ((o + d) % s + s - ((p : Int)).toNat) % s
        rw [Int.toNat_natCast, Int.toNat_natCast, ← HP2.out, ← HP.out]
        have q1 : (o + d) % s = (((o + k) % s) + (d - k)) % s := by rw [Nat.mod_add_mod]; congr 1; omega
        have q2 : (o + d) % s = ((((o + k) % s + 1) % s) + (d - k - 1)) % s := by rw [Nat.mod_add_mod, Nat.add_assoc, Nat.mod_add_mod]; congr 1; omega
        have g1 := dist (s := s) (a := (o + k) % s) (e := d - k) (Nat.mod_lt _ (by omega)) (by omega)
        have g2 := dist (s := s) (a := ((o + k) % s + 1) % s) (e := d - k - 1) (Nat.mod_lt _ (by omega)) (by omega)
        rw [← q1] at g1
        rw [← q2] at g2
        rw [g1, g2]
        omega
    · obtain rfl : k = d := by omega
      have hhit : Hid (Hits ad ix x p) := Lib.hid (by
        have hq := hok.out.hits x (d := k) (by rw [HS.out]; exact hd) (by rw [HS.out, HO.out]; exact HST.out) (by rw [HS.out, HO.out]; exact HNO.out)
        rw [HS.out, HO.out, hp] at hq
        exact hq)
      have hstop := HST.out
      rw [hp] at hstop ⊢
      have HP := Lib.hid hp
      clear hp hlt hk
      rcases hstop with hi | ⟨i, hi, hy⟩
      · have c1 : wr.cell? ⟨gi, p, none⟩ = some (.int .i64 (-1)) := by
          obtain ⟨nd, rfl⟩ := HW.out
          exact (HCI.out p _ hi).1
        clear hi
        go_upto_region 3 with (fail)
        go_quiet (fail)
        go_wp2_with fail
        go_ret
        exact ⟨p, rfl, hhit.out, by
          obtain ⟨nd, rfl⟩ := HW.out
          exact ⟨nd + nq, by rw [World.drewN_drewN]⟩⟩
      · have c1 : wr.cell? ⟨gi, p, none⟩ = some (.int .i64 i) := by
          obtain ⟨nd, rfl⟩ := HW.out
          exact (HCI.out p i hi).1
        obtain ⟨ga, oa, rfl, hcy⟩ := HCA.out i x hy
        have c2 : wr.cell? ⟨ga, oa + i, none⟩ = some (.int .i64 x) := by
          obtain ⟨nd, rfl⟩ := HW.out
          exact hcy
        have hi2 := (List.getElem?_eq_some_iff.1 hy).1
        have hi3 : (i : Int) < ad.length := by omega
        have t1 : ((i : Int) != -1) = true := by simp
        have t2 : (x != x) = false := by simp
        clear hi hy hcy
        go_upto_region 3 with (fail)
        go_quiet (fail)
        go_wp2_with fail
        go_ret
        exact ⟨p, rfl, hhit.out, by
          obtain ⟨nd, rfl⟩ := HW.out
          exact ⟨nd + nq, by rw [World.drewN_drewN]⟩⟩
end Go.Proofs.Ytelpimhgodkmlaa.RlA
