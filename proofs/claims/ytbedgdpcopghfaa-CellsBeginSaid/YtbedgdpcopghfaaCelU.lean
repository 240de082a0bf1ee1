/-
  New and the reference's Check of any arguments.
-/
import Derived.Test.YtbedgdpcopghfaaCelE
import Derived.Test.YtbedgdpcopghfaaCelN
import Derived.Test.YtbedgdpcopghfaaCelT
import Derived.Test.YtbedgdpcopghfaaLayC
namespace Go.Proofs.Ytbedgdpcopghfaa.CelU
open Go.ChangeShapes Go.WideShapes Go.ChangeAt Go.RowKit
open PlainT BlkW LayS LayA LayB LayD LayF LayH CelS CelM CelR CelL CelN CelE CelQ
set_option linter.unusedVariables false
set_option maxHeartbeats 1000000
set_option maxRecDepth 100000
/-- What New answers. -/
def errN (q : Cfg) (nt : Int) (n : Nat) : Int := if chkV q ≠ 0 then chkV q else if nt < 1 ∨ 16 < nt then 54 else if (n : Int) ≠ q.w then 55 else 0
theorem r_check8 (q : Cfg) (w : World) (nt : Int) (p : Option Addr) (n cap : Nat) : Calls Try.prog 27 #[cfgV q, .int .i64 nt, .slice p n cap] w fun e w' => e = .returned (.int .i64 (errN q nt n)) ∧ Below w.heap.size w w' := by
  have hck := LayC.r_check q
  have HM := Lib.hid (Mem.new w TC (cells q))
  have HB := Lib.hid (below_new w (.cells (cells q) TC))
  obtain ⟨d0, d1, d2, d3, d4, d5, d6, d7, d8, d9, d10, d11, d12⟩ := box_cells HM.out
  by_cases hc : chkV q = 0
  · rw [hc] at hck
    by_cases h1 : nt < 1
    · have he : errN q nt n = 54 := by unfold errN; rw [if_neg (by simp [hc]), if_pos (.inl h1)]
      rw [he]
      clear he hc
      go_enter Try.func27, Try.ntmps27
      go_wp2_with (go_at_call 38; (with_reducible refine (hck _).mono ?_); rintro e w2 ⟨rfl, hb2⟩; have HB2 := Lib.hid (HB.out.trans (hb2.mono (by rw [size_new]; omega))); clear hb2)
      go_ret
      exact ⟨rfl, HB2.out⟩
    · by_cases h2 : 16 < nt
      · have he : errN q nt n = 54 := by unfold errN; rw [if_neg (by simp [hc]), if_pos (.inr h2)]
        rw [he]
        clear he hc
        go_enter Try.func27, Try.ntmps27
        go_wp2_with (go_at_call 38; (with_reducible refine (hck _).mono ?_); rintro e w2 ⟨rfl, hb2⟩; have HB2 := Lib.hid (HB.out.trans (hb2.mono (by rw [size_new]; omega))); clear hb2)
        go_ret
        exact ⟨rfl, HB2.out⟩
      · have t1 : 1 ≤ nt := by omega
        have t2 : nt ≤ 16 := by omega
        by_cases hn : (n : Int) = q.w
        · have he : errN q nt n = 0 := by unfold errN; rw [if_neg (by simp [hc]), if_neg (by omega), if_neg (by simp [hn])]
          have hne : ((n : Int) != q.w) = false := by simpa using hn
          rw [he]
          clear he hc hn
          go_enter Try.func27, Try.ntmps27
          go_wp2_with (go_at_call 38; (with_reducible refine (hck _).mono ?_); rintro e w2 ⟨rfl, hb2⟩; have HB2 := Lib.hid (HB.out.trans (hb2.mono (by rw [size_new]; omega))); have HM2 := Lib.hid (HM.out.below hb2 HM.out.lt); clear hb2; obtain ⟨d0, d1, d2, d3, d4, d5, d6, d7, d8, d9, d10, d11, d12⟩ := box_cells HM2.out)
          go_ret
          exact ⟨rfl, HB2.out⟩
        · have he : errN q nt n = 55 := by unfold errN; rw [if_neg (by simp [hc]), if_neg (by omega), if_pos hn]
          have hne : ((n : Int) != q.w) = true := by simpa using hn
          rw [he]
          clear he hc hn
          go_enter Try.func27, Try.ntmps27
          go_wp2_with (go_at_call 38; (with_reducible refine (hck _).mono ?_); rintro e w2 ⟨rfl, hb2⟩; have HB2 := Lib.hid (HB.out.trans (hb2.mono (by rw [size_new]; omega))); have HM2 := Lib.hid (HM.out.below hb2 HM.out.lt); clear hb2; obtain ⟨d0, d1, d2, d3, d4, d5, d6, d7, d8, d9, d10, d11, d12⟩ := box_cells HM2.out)
          go_ret
          exact ⟨rfl, HB2.out⟩
  · have he : errN q nt n = chkV q := by unfold errN; rw [if_pos hc]
    rw [he]
    obtain ⟨c, hcc⟩ : ∃ c, chkV q = c := ⟨_, rfl⟩
    rw [hcc] at hck hc ⊢
    have hc1 : (c == 0) = false := by simpa using hc
    have hc2 : (c != 0) = true := by simpa using hc
    clear he hc hcc
    go_enter Try.func27, Try.ntmps27
    go_wp2_with (go_at_call 38; (with_reducible refine (hck _).mono ?_); rintro e w2 ⟨rfl, hb2⟩; have HB2 := Lib.hid (HB.out.trans (hb2.mono (by rw [size_new]; omega))); clear hb2)
    go_ret
    exact ⟨rfl, HB2.out⟩
theorem a_new_any (q : Cfg) (w : World) (nt : Int) (p : Option Addr) (cap : Nat) (xs : List Int) (hx : Rd w (.slice p xs.length cap) xs) :
    Calls Try.prog 26 #[cfgV q, .int .i64 nt, .slice p xs.length cap] w fun e w' => ((errN q nt xs.length = 0 ∧ ∃ b, e = .returned (.tuple #[.pointer (some ⟨b, 0, none⟩), .int .i64 0])) ∨ (errN q nt xs.length ≠ 0 ∧ e = .returned (.tuple #[.pointer none, .int .i64 (errN q nt xs.length)]))) ∧ Below w.heap.size w w' := by
  by_cases hc : chkV q = 0
  · have hv := chk_iff.1 hc
    by_cases h1 : nt < 1 ∨ 16 < nt
    · have he : errN q nt xs.length = 54 := by unfold errN; rw [if_neg (by simp [hc]), if_pos h1]
      rw [he]
      exact (a_new_threads q hv w nt h1 _).mono fun e w' ⟨h, hb⟩ => ⟨.inr ⟨by decide, h⟩, hb⟩
    · by_cases hn : (xs.length : Int) = q.w
      · have he : errN q nt xs.length = 0 := by unfold errN; rw [if_neg (by simp [hc]), if_neg h1, if_neg (by simp [hn])]
        obtain ⟨m, rfl⟩ : ∃ m : Nat, nt = m := ⟨nt.toNat, by omega⟩
        obtain ⟨n, hbn⟩ : ∃ n : Nat, blkV q = n := ⟨(blkV q).toNat, by have := blk_in q; omega⟩
        obtain ⟨no, hno⟩ : ∃ no : Nat, q.o = no := ⟨q.o.toNat, by have := hv; unfold Valid at this; omega⟩
        have w1 : 1 ≤ q.w := by have := hv; unfold Valid at this; omega
        obtain ⟨p', cap', hp, hrd⟩ := hx
        obtain ⟨rfl, _, rfl⟩ : p = p' ∧ True ∧ cap = cap' := by injection hp with h1 h2 h3; exact ⟨h1, trivial, h3⟩
        obtain ⟨g, o, rfl, hg⟩ := hrd 0 (xs[0]'(by omega)) (List.getElem?_eq_getElem (by omega))
        have hlt : g < w.heap.size := by
          rcases Nat.lt_or_ge g w.heap.size with h | h
          · exact h
          · simp [World.cell?, Array.getElem?_eq_none h] at hg
        refine (a_new q hv n no m hbn hno (by omega) (by omega) w _ xs ⟨g, o, cap, rfl, fun j x hj => ?_⟩ hn (fun g' hg' => ?_)).mono fun e w' ⟨b, h, _, hb⟩ => ⟨.inl ⟨he, b, h⟩, hb⟩
        · obtain ⟨g', o', h', hx'⟩ := hrd j x hj
          injection h' with h'
          injection h' with h1 h2
          rw [h1, h2]
          exact hx'
        · simp [Value.ownBlock] at hg'
          omega
      · have he : errN q nt xs.length = 55 := by unfold errN; rw [if_neg (by simp [hc]), if_neg h1, if_pos hn]
        rw [he]
        exact (a_new_init q hv w nt (by omega) (by omega) p xs.length cap hn).mono fun e w' ⟨h, hb⟩ => ⟨.inr ⟨by decide, h⟩, hb⟩
  · have he : errN q nt xs.length = chkV q := by unfold errN; rw [if_pos hc]
    rw [he]
    exact (a_new_bad q hc w nt _).mono fun e w' ⟨h, hb⟩ => ⟨.inr ⟨hc, h⟩, hb⟩
end Go.Proofs.Ytbedgdpcopghfaa.CelU
