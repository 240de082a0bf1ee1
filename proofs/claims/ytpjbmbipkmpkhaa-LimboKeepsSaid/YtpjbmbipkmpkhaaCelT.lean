/-
  Contract of strongtxkit.Words: two rows that read alike. Contract of strongtxkit.Image: two images that read alike.
-/
import Derived.Test.YtpjbmbipkmpkhaaCelI
import Derived.BigQuiet
import Derived.Deep.RegionHeld3
namespace Go.Proofs.Ytpjbmbipkmpkhaa.CelQ
open Go.ChangeShapes Go.WideShapes Go.ChangeAt Go.RowKit
open PlainT BlkW CelS CelM CelP CelV CelN
set_option linter.unusedVariables false
set_option maxHeartbeats 1000000
set_option maxRecDepth 100000
/-- A slice that reads as xs; the empty one may be nil. -/
def Rd (w : World) (v : Value) (xs : List Int) : Prop := ∃ p cap, v = .slice p xs.length cap ∧ ∀ j x, xs[j]? = some x → ∃ g o, p = some ⟨g, o, none⟩ ∧ w.cell? ⟨g, o + j, none⟩ = some (.int .u64 x)
theorem Rd.of_src {w : World} {v : Value} {xs : List Int} (h : Src w v xs) : Rd w v xs := by
  obtain ⟨g, o, cap, rfl, hc⟩ := h
  exact ⟨_, cap, rfl, fun j x hj => ⟨g, o, rfl, hc j x hj⟩⟩
/-- What Words leaves: the world, but for draws. -/
abbrev Ws (w w' : World) : Prop := ∃ n, w' = w.drewN n
theorem k_words (w : World) (v1 v2 : Value) (xs : List Int) (h1 : Rd w v1 xs) (h2 : Rd w v2 xs) (hl : xs.length ≤ 1000) : Calls Try.prog 76 #[v1, v2] w fun e w' => e = .returned (.bool true) ∧ Ws w w' := by
  obtain ⟨p1, c1, rfl, hc1⟩ := h1
  obtain ⟨p2, c2, rfl, hc2⟩ := h2
  obtain ⟨n, hn⟩ : ∃ n, xs.length = n := ⟨_, rfl⟩
  rw [hn] at hl ⊢
  have HN := Lib.hid hn
  have H1 := Lib.hid hc1
  have H2 := Lib.hid hc2
  clear hn hc1 hc2
  go_enter Try.func76, Try.ntmps76
  go_wp2_with fail
  go_loopw [5] (fun kv wr => ∃ k : Nat, k ≤ n ∧ kv = .int .i64 k ∧ Ws w wr) (fun kv _ => n - (intOf kv).toNat)
  case atStart => exact ⟨0, by omega, rfl, 0, rfl⟩
  case round =>
    obtain ⟨k, hk, rfl, hws⟩ := hrel
    have HW := Lib.hid hws
    clear hws
    by_cases hlt : k < n
    · have hlk : (k : Int) < n := by omega
      obtain ⟨x, hx⟩ : ∃ x, xs[k]? = some x := ⟨xs[k]'(by rw [HN.out]; exact hlt), by rw [List.getElem?_eq_getElem]⟩
      obtain ⟨ga, oa, rfl, hca⟩ := H1.out k x hx
      obtain ⟨gb, ob, rfl, hcb⟩ := H2.out k x hx
      have e1 : wr.cell? ⟨ga, oa + k, none⟩ = some (.int .u64 x) := by
        obtain ⟨nd, rfl⟩ := HW.out
        exact hca
      have e2 : wr.cell? ⟨gb, ob + k, none⟩ = some (.int .u64 x) := by
        obtain ⟨nd, rfl⟩ := HW.out
        exact hcb
      clear hca hcb hx hk
      go_upto_region 6 with (fail)
      go_quiet (fail)
      go_wp2_with fail
      go_roundw
      case rel =>
        obtain ⟨nd, rfl⟩ := HW.out
        exact ⟨k + 1, by omega, by go_num, nd + nq, by rw [World.drewN_drewN]⟩
      case measure => simp [intOf]; omega
    · obtain rfl : k = n := by omega
      clear hlt hk
      go_wp2_with fail
      go_ret
      exact ⟨rfl, HW.out⟩
end Go.Proofs.Ytpjbmbipkmpkhaa.CelQ
namespace Go.Proofs.Ytpjbmbipkmpkhaa.CelT
open Go.ChangeShapes Go.WideShapes Go.ChangeAt Go.RowKit
open PlainT BlkW CelS CelM CelP CelV CelN CelI CelQ
set_option linter.unusedVariables false
set_option maxHeartbeats 4000000
set_option maxRecDepth 100000
theorem rd_below {w w' : World} {v : Value} {xs : List Int} (h : Rd w v xs) (hb : Below w.heap.size w w') : Rd w' v xs := by
  obtain ⟨p, cap, rfl, hc⟩ := h
  refine ⟨p, cap, rfl, fun j x hj => ?_⟩
  obtain ⟨g, o, rfl, hx⟩ := hc j x hj
  refine ⟨g, o, rfl, ?_⟩
  have hlt : g < w.heap.size := by
    rcases Nat.lt_or_ge g w.heap.size with h | h
    · exact h
    · simp [World.cell?, Array.getElem?_eq_none h] at hx
  rw [← hx]
  exact World.cell?_of_block (hb.block g hlt)
theorem k_words_at (w0 w : World) (v1 v2 : Value) (xs : List Int) (h1 : Rd w0 v1 xs) (h2 : Rd w0 v2 xs) (hl : xs.length ≤ 1000) (hb : Below w0.heap.size w0 w) : Calls Try.prog 76 #[v1, v2] w fun e w' => e = .returned (.bool true) ∧ Below w.heap.size w w' :=
  (k_words w v1 v2 xs (rd_below h1 hb) (rd_below h2 hb) hl).mono fun e w' ⟨he, n, hw⟩ => ⟨he, by rw [hw]; exact below_drewN (Below.refl _ _) n⟩
abbrev rowI (d o : Value) (c t s : Int) (l h n : Value) : Array Value := #[d, o, .int .u64 c, .int .u64 t, .int .u64 s, l, h, n]
/-- What the region holds. -/
def HI (w0 : World) (b : Nat) (cs ds : Array Value) (w : World) : Prop := Mem w b 39 cs ∧ Mem w (b + 1) 39 ds ∧ Below w0.heap.size w0 w
abbrev SI (w0 : World) (b : Nat) (c t s : Int) (d1 o1 l1 h1 n1 d2 o2 l2 h2 n2 : Value) (w : World) : Prop :=
  w.cell? ⟨b, 0, none⟩ = some d1 ∧ w.cell? ⟨b, 1, none⟩ = some o1 ∧ w.cell? ⟨b, 2, none⟩ = some (.int .u64 c) ∧ w.cell? ⟨b, 3, none⟩ = some (.int .u64 t) ∧ w.cell? ⟨b, 4, none⟩ = some (.int .u64 s) ∧ w.cell? ⟨b, 5, none⟩ = some l1 ∧ w.cell? ⟨b, 6, none⟩ = some h1 ∧ w.cell? ⟨b, 7, none⟩ = some n1 ∧
  w.cell? ⟨b + 1, 0, none⟩ = some d2 ∧ w.cell? ⟨b + 1, 1, none⟩ = some o2 ∧ w.cell? ⟨b + 1, 2, none⟩ = some (.int .u64 c) ∧ w.cell? ⟨b + 1, 3, none⟩ = some (.int .u64 t) ∧ w.cell? ⟨b + 1, 4, none⟩ = some (.int .u64 s) ∧ w.cell? ⟨b + 1, 5, none⟩ = some l2 ∧ w.cell? ⟨b + 1, 6, none⟩ = some h2 ∧ w.cell? ⟨b + 1, 7, none⟩ = some n2 ∧
  HI w0 b (rowI d1 o1 c t s l1 h1 n1) (rowI d2 o2 c t s l2 h2 n2) w
section
variable {w0 : World} {b : Nat} {c t s : Int} {d1 o1 l1 h1 n1 d2 o2 l2 h2 n2 : Value} {w w' : World}
theorem si_of (h : HI w0 b (rowI d1 o1 c t s l1 h1 n1) (rowI d2 o2 c t s l2 h2 n2) w) : SI w0 b c t s d1 o1 l1 h1 n1 d2 o2 l2 h2 n2 w :=
  ⟨h.1.cell 0, h.1.cell 1, h.1.cell 2, h.1.cell 3, h.1.cell 4, h.1.cell 5, h.1.cell 6, h.1.cell 7, h.2.1.cell 0, h.2.1.cell 1, h.2.1.cell 2, h.2.1.cell 3, h.2.1.cell 4, h.2.1.cell 5, h.2.1.cell 6, h.2.1.cell 7, h⟩
theorem si_hi (h : SI w0 b c t s d1 o1 l1 h1 n1 d2 o2 l2 h2 n2 w) : HI w0 b (rowI d1 o1 c t s l1 h1 n1) (rowI d2 o2 c t s l2 h2 n2) w := h.2.2.2.2.2.2.2.2.2.2.2.2.2.2.2.2
theorem si_drew (h : HI w0 b (rowI d1 o1 c t s l1 h1 n1) (rowI d2 o2 c t s l2 h2 n2) w) : SI w0 b c t s d1 o1 l1 h1 n1 d2 o2 l2 h2 n2 w.drew := si_of ⟨h.1.drewN 1, h.2.1.drewN 1, below_drewN h.2.2 1⟩
theorem si_keep (h : SI w0 b c t s d1 o1 l1 h1 n1 d2 o2 l2 h2 n2 w) (hb : Below w.heap.size w w') : SI w0 b c t s d1 o1 l1 h1 n1 d2 o2 l2 h2 n2 w' :=
  si_of ⟨(si_hi h).1.below hb (si_hi h).1.lt, (si_hi h).2.1.below hb (si_hi h).2.1.lt, (si_hi h).2.2.trans (hb.mono (si_hi h).2.2.size)⟩
theorem si_bel (h : SI w0 b c t s d1 o1 l1 h1 n1 d2 o2 l2 h2 n2 w) : Below w0.heap.size w0 w := (si_hi h).2.2
end
theorem k_image (w : World) (c t s : Int) (d1 o1 l1 h1 n1 d2 o2 l2 h2 n2 : Value) (xd xo xl xh xn : List Int) (a1 : Rd w d1 xd) (a2 : Rd w d2 xd) (b1 : Rd w o1 xo) (b2 : Rd w o2 xo) (e1 : Rd w l1 xl) (e2 : Rd w l2 xl) (f1 : Rd w h1 xh) (f2 : Rd w h2 xh) (g1 : Rd w n1 xn) (g2 : Rd w n2 xn)
    (kd : xd.length ≤ 1000) (ko : xo.length ≤ 1000) (kl : xl.length ≤ 1000) (kh : xh.length ≤ 1000) (kn : xn.length ≤ 1000) :
    Calls Try.prog 16 #[imgV d1 o1 c t s l1 h1 n1, imgV d2 o2 c t s l2 h2 n2] w fun e w' => e = .returned (.bool true) ∧ Below w.heap.size w w' := by
  have q1 := fun W hb => k_words_at w W d1 d2 xd a1 a2 kd hb
  have q2 := fun W hb => k_words_at w W o1 o2 xo b1 b2 ko hb
  have q3 := fun W hb => k_words_at w W l1 l2 xl e1 e2 kl hb
  have q4 := fun W hb => k_words_at w W h1 h2 xh f1 f2 kh hb
  have q5 := fun W hb => k_words_at w W n1 n2 xn g1 g2 kn hb
  clear a1 a2 b1 b2 e1 e2 f1 f2 g1 g2 kd ko kl kh kn
  have HM0 := Lib.hid ((Mem.new w 39 (rowI d1 o1 c t s l1 h1 n1)).alloc (.cells (rowI d2 o2 c t s l2 h2 n2) 39))
  have HM1 := Lib.hid (mem_new1 w (.cells (rowI d1 o1 c t s l1 h1 n1) 39) 39 (rowI d2 o2 c t s l2 h2 n2))
  have HB := Lib.hid (below_new2 w (.cells (rowI d1 o1 c t s l1 h1 n1) 39) (.cells (rowI d2 o2 c t s l2 h2 n2) 39))
  go_enter Try.func16, Try.ntmps16
  go_upto_region 1 with (fail)
  have hh : HI w w.heap.size (rowI d1 o1 c t s l1 h1 n1) (rowI d2 o2 c t s l2 h2 n2) ((w.alloc (.cells (rowI d1 o1 c t s l1 h1 n1) 39)).alloc (.cells (rowI d2 o2 c t s l2 h2 n2) 39)) := ⟨HM0.out, HM1.out, HB.out⟩
  obtain ⟨W, hW⟩ : ∃ W, (w.alloc (.cells (rowI d1 o1 c t s l1 h1 n1) 39)).alloc (.cells (rowI d2 o2 c t s l2 h2 n2) 39) = W := ⟨_, rfl⟩
  rw [hW] at hh
  first | rw [hW] | skip
  have hS := Lib.hid (si_of hh)
  clear hW hh HM0 HM1 HB
  obtain ⟨c0, c1, c2, c3, c4, c5, c6, c7, e0, e1, e2, e3, e4, e5, e6, e7, _⟩ := hS.out
  go_wp2_with (first
    | (go_at_call 76; (with_reducible refine (q1 _ (si_bel hS.out)).mono ?_); rintro e w1 ⟨rfl, hb1⟩; have hS := Lib.hid (si_keep hS.out hb1); clear hb1; obtain ⟨c0, c1, c2, c3, c4, c5, c6, c7, e0, e1, e2, e3, e4, e5, e6, e7, _⟩ := hS.out)
    | (go_at_call 76; (with_reducible refine (q2 _ (si_bel hS.out)).mono ?_); rintro e w1 ⟨rfl, hb1⟩; have hS := Lib.hid (si_keep hS.out hb1); clear hb1; obtain ⟨c0, c1, c2, c3, c4, c5, c6, c7, e0, e1, e2, e3, e4, e5, e6, e7, _⟩ := hS.out)
    | (go_at_call 76; (with_reducible refine (q3 _ (si_bel hS.out)).mono ?_); rintro e w1 ⟨rfl, hb1⟩; have hS := Lib.hid (si_keep hS.out hb1); clear hb1; obtain ⟨c0, c1, c2, c3, c4, c5, c6, c7, e0, e1, e2, e3, e4, e5, e6, e7, _⟩ := hS.out)
    | (go_at_call 76; (with_reducible refine (q4 _ (si_bel hS.out)).mono ?_); rintro e w1 ⟨rfl, hb1⟩; have hS := Lib.hid (si_keep hS.out hb1); clear hb1; obtain ⟨c0, c1, c2, c3, c4, c5, c6, c7, e0, e1, e2, e3, e4, e5, e6, e7, _⟩ := hS.out)
    | (go_at_call 76; (with_reducible refine (q5 _ (si_bel hS.out)).mono ?_); rintro e w1 ⟨rfl, hb1⟩; have hS := Lib.hid (si_keep hS.out hb1); clear hb1; obtain ⟨c0, c1, c2, c3, c4, c5, c6, c7, e0, e1, e2, e3, e4, e5, e6, e7, _⟩ := hS.out))
  have HB2 := Lib.hid (si_bel hS.out)
  go_ret
  exact ⟨rfl, HB2.out⟩
end Go.Proofs.Ytpjbmbipkmpkhaa.CelT
