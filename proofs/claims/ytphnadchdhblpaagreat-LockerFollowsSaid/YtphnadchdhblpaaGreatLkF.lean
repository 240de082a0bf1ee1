/-
  Three threads that lock and release, with both machines side by side: the phases of a thread, the four objects of each, and how a step turns them.
-/
import Derived.Test.YtphnadchdhblpaaGreatLkY
namespace Go.Proofs.YtphnadchdhblpaaGreat.LkF
open Go.ChangeShapes Go.WideShapes Go.ChangeAt Go.RowKit
open LawFrame PlainT BlkW LayS LayA LayH LayK LayP CelS CelM CelP CelV CelN CelO CelF LabD LabR LabP LabS LabX LabN CelLo WordC RsA ObjA LkP LkQ SrtA SrtB LkA LkB LkZ LkL LkY
set_option linter.unusedVariables false
set_option maxHeartbeats 1000000
abbrev TA : TypeId := 43
abbrev TB : TypeId := 45
abbrev TCc : TypeId := 47
abbrev TD : TypeId := 49
abbrev ptrV (g : Nat) : Value := .pointer (some ⟨g, 0, none⟩)
abbrev nilV : Value := .pointer none
abbrev A3 (f : Nat → Value) : Array Value := #[f 0, f 1, f 2]
theorem three {t : Nat} (ht : t < 3) : t = 0 ∨ t = 1 ∨ t = 2 := by omega
theorem a3_at {f : Nat → Value} {t : Nat} (ht : t < 3) : (A3 f)[t]? = some (f t) := by
  rcases three ht with rfl | rfl | rfl <;> rfl
theorem a3_set {f : Nat → Value} {t : Nat} (ht : t < 3) (v : Value) : (A3 f).setIfInBounds t v = A3 (upf f t v) := by
  rcases three ht with rfl | rfl | rfl <;> simp [A3, upf]
/-- The objects of three threads: their locks, the reference's locks, their releases, the reference's stores. -/
def Tn (o : Nat → Ob) (n : Nat) : List Ob := (List.range n).map o
theorem tn_at {o : Nat → Ob} {t n : Nat} (ht : t < n) : (Tn o n)[t]? = some (o t) := by
  unfold Tn
  rw [List.getElem?_map, List.getElem?_range ht]
  rfl
theorem tn_set {o : Nat → Ob} {t n : Nat} (ht : t < n) (x : Ob) : (Tn o n).set t x = Tn (upf o t x) n := by
  apply List.ext_getElem?
  intro j
  by_cases hj : j < n
  · rw [tn_at hj]
    by_cases e : t = j
    · subst e
      rw [List.getElem?_set_self (by simpa [Tn] using ht), upf_at]
    · rw [List.getElem?_set_ne e, tn_at hj, upf_ne (Ne.symm e)]
  · rw [List.getElem?_eq_none (by simpa [Tn] using hj), List.getElem?_eq_none (by simpa [Tn] using hj)]
inductive Ph where
  | idle
  | lock (ga gb : Nat) (s : LS)
  | rel (ga gb gc gd : Nat) (s : LS) (k : Nat)
def pA : Ph → Value
  | .idle => nilV
  | .lock ga _ _ => ptrV ga
  | .rel ga _ _ _ _ _ => ptrV ga
def pB : Ph → Value
  | .idle => nilV
  | .lock _ gb _ => ptrV gb
  | .rel _ gb _ _ _ _ => ptrV gb
def pC : Ph → Value
  | .rel _ _ gc _ _ _ => ptrV gc
  | _ => nilV
def pD : Ph → Value
  | .rel _ _ _ gd _ _ => ptrV gd
  | _ => nilV
/-- What thread t's objects are. -/
def PhI (t : Nat) (o0 o1 o2 o3 : Ob) : Ph → Prop
  | .idle => o0 = nob ∧ o1 = nob ∧ o2 = nob ∧ o3 = nob
  | .lock ga gb s => LW s ∧ (∃ vl vo, o0 = lkM ga t vl vo s) ∧ (∃ vs vq, o1 = qlM true gb t vs vq s) ∧ o2 = nob ∧ o3 = nob
  | .rel ga gb gc gd s k => LW s ∧ s.ys.length = s.S.length ∧ k ≤ s.S.length ∧ (∃ vl vo, o0 = lkM ga t vl vo s) ∧ ∃ vs vq, o1 = qlM false gb t vs vq s ∧ (∃ v1 v2, o2 = reM gc v1 v2 s.S s.ys k) ∧ o3 = stM gd vs vq k
structure FI (ph : Nat → Ph) (o : Nat → Ob) (A : Int → List Int) : Prop where
  ob : ∀ t, t < 3 → PhI t (o t) (o (3 + t)) (o (6 + t)) (o (9 + t)) (ph t)
  v : VW (A 2)
theorem fi_up {ph : Nat → Ph} {o o' : Nat → Ob} {A A' : Int → List Int} (h : FI ph o A) {t : Nat} (ht : t < 3) {p : Ph} (hv : VW (A' 2)) (hp : PhI t (o' t) (o' (3 + t)) (o' (6 + t)) (o' (9 + t)) p) (hne : ∀ u j, u < 3 → u ≠ t → (j = 0 ∨ j = 3 ∨ j = 6 ∨ j = 9) → o' (j + u) = o (j + u)) : FI (upf ph t p) o' A' := by
  refine ⟨fun u hu => ?_, hv⟩
  by_cases e : u = t
  · subst e
    rw [upf_at]
    exact hp
  · rw [upf_ne e]
    have h0 := hne u 0 hu e (.inl rfl)
    rw [Nat.zero_add] at h0
    rw [h0, hne u 3 hu e (.inr (.inl rfl)), hne u 6 hu e (.inr (.inr (.inl rfl))), hne u 9 hu e (.inr (.inr (.inr rfl)))]
    exact h.ob u hu
theorem a3_up (f : Ph → Value) {ph : Nat → Ph} {t : Nat} {p : Ph} : (upf (fun u => f (ph u)) t (f p)) = fun u => f (upf ph t p u) := by
  funext u
  by_cases e : u = t
  · subst e
    rw [upf_at, upf_at]
  · rw [upf_ne e, upf_ne e]
theorem a3_same (f : Ph → Value) {ph : Nat → Ph} {t : Nat} {p : Ph} (h : f p = f (ph t)) : (fun u => f (ph u)) = fun u => f (upf ph t p u) := by
  rw [← a3_up, h]
  funext u
  by_cases e : u = t
  · subst e
    rw [upf_at]
  · rw [upf_ne e]
section
variable {w0 w : World} {lo hi b rb : Nat} {q : Cfg} {A B : Int → List Int} {X : List Ob} {o : Nat → Ob}
theorem lo_at {n t : Nat} (ht : t < n) : (X ++ Tn o n)[X.length + t]? = some (o t) := by
  rw [List.getElem?_append_right (by omega), Nat.add_sub_cancel_left]
  exact tn_at ht
theorem lo_setn {n t : Nat} (ht : t < n) (x : Ob) : (X ++ Tn o n).set (X.length + t) x = X ++ Tn (upf o t x) n := by
  rw [List.set_append_right _ _ (by omega), Nat.add_sub_cancel_left, tn_set ht]
theorem ex_put {n t : Nat} (ht : t < n) (hn : o t = nob) {x : Ob} (h : Lo w0 lo hi b rb q A B ((X ++ Tn o n) ++ [x]) w) : Lo w0 lo hi b rb q A B (X ++ Tn (upf o t x) n) w := by
  have he : (X ++ Tn o n) = (X ++ Tn o n).set (X.length + t) nob := by
    rw [lo_setn ht, ← hn, upf_id]
  rw [he] at h
  have := h.give (by simp [Tn]; omega)
  rw [lo_setn ht] at this
  exact this
theorem ex_nob {n t : Nat} (ht : t < n) (h : Lo w0 lo hi b rb q A B (X ++ Tn o n) w) : Lo w0 lo hi b rb q A B (X ++ Tn (upf o t nob) n) w := by
  have := h.see _ (lo_at ht) (o' := nob) trivial fun g hg => absurd hg List.not_mem_nil
  rwa [lo_setn ht] at this
theorem lo_nobs (n : Nat) (h : Lo w0 lo hi b rb q A B X w) : Lo w0 lo hi b rb q A B (X ++ Tn (fun _ => nob) n) w := by
  induction n with
  | zero => simpa [Tn] using h
  | succ n ih =>
    have h1 := ih.add (o := nob) (Below.refl _ _) trivial fun g hg => absurd hg List.not_mem_nil
    rw [List.append_assoc] at h1
    have e : Tn (fun _ => nob) n ++ [nob] = Tn (fun _ => nob) (n + 1) := by
      unfold Tn
      rw [List.range_succ, List.map_append]
      rfl
    rwa [e] at h1
theorem iat {w0 w : World} {A : Option Addr} {n : Nat} {z : List Int} (h : Ints .i64 w0 A n z) (ho : Below w0.heap.size w0 w) {k : Nat} (hk : k < n) : ∃ b off x, A = some ⟨b, off, none⟩ ∧ b < w0.heap.size ∧ w.cell? ⟨b, off + k, none⟩ = some (.int .i64 x) := by
  obtain ⟨h1, h2, h3⟩ := h
  obtain ⟨b, off, rfl, hb, hc⟩ := h3 (by omega)
  exact ⟨b, off, _, rfl, hb, (World.cell?_of_block (ho.block b hb)).trans (hc k hk)⟩
theorem k_at {w0 w : World} {A : Option Addr} {n : Nat} {z : List Int} (c : Nat) (h : Ints .i64 w0 A n z) (ho : Below w0.heap.size w0 w) (k : Nat) : Calls Tryz.prog 9 #[.slice A n c, .int .i64 k] w fun e w' => ∃ v, e = .returned (.int .i64 v) ∧ w = w' := by
  by_cases hk : k < n
  · obtain ⟨b, off, x, rfl, hb, hc⟩ := iat h ho hk
    have hkI : (k : Int) < n := by omega
    clear h ho hb
    go_enter Tryz.func9, Tryz.ntmps9
    go_wp2
    go_ret
    exact ⟨x, rfl, rfl⟩
  · have hkI : (n : Int) ≤ k := by omega
    clear h ho hk
    go_enter Tryz.func9, Tryz.ntmps9
    go_wp2
    go_ret
    exact ⟨0, rfl, rfl⟩
theorem pl3 (x : Int) : ∃ t : Nat, t < 3 ∧ pl x 3 = t := by
  have := pl_in x 3 (by decide) (by decide)
  exact ⟨(pl x 3).toNat, by omega, by omega⟩

theorem vw_start {V : List Int} (h : V = [0, 0, 0, 0, 0, 0]) : VW V := by
  subst h
  refine ⟨rfl, fun i => ?_⟩
  rcases Nat.lt_or_ge i 6 with h | h
  · have : i = 0 ∨ i = 1 ∨ i = 2 ∨ i = 3 ∨ i = 4 ∨ i = 5 := by omega
    rcases this with rfl | rfl | rfl | rfl | rfl | rfl <;> decide
  · rw [List.getD_eq_getElem?_getD, List.getElem?_eq_none (by simpa using h)]
    decide
def isI : Ph → Bool
  | .idle => true
  | _ => false
def isL : Ph → Bool
  | .lock _ _ _ => true
  | _ => false
abbrev XB (gp ga gb gc gd b rb : Nat) (ph : Nat → Ph) : List Ob := [bx gp TP #[.pointer (some ⟨b, 0, none⟩), .pointer (some ⟨rb, 0, none⟩)], bx ga TA (A3 fun u => pA (ph u)), bx gb TB (A3 fun u => pB (ph u)), bx gc TCc (A3 fun u => pC (ph u)), bx gd TD (A3 fun u => pD (ph u))]
variable {gp ga gb gc gd : Nat} {ph : Nat → Ph} {R : List Ob} {t : Nat} {p : Ph}
theorem xb_same (h1 : pA p = pA (ph t)) (h2 : pB p = pB (ph t)) (h3 : pC p = pC (ph t)) (h4 : pD p = pD (ph t)) : XB gp ga gb gc gd b rb (upf ph t p) = XB gp ga gb gc gd b rb ph := by
  unfold XB
  rw [← a3_same pA h1, ← a3_same pB h2, ← a3_same pC h3, ← a3_same pD h4]
theorem st_ab (h : Lo w0 lo hi b rb q A B (XB gp ga gb gc gd b rb ph ++ R) w) (ht : t < 3) (p : Ph) (h3 : pC p = pC (ph t)) (h4 : pD p = pD (ph t)) :
    (w.cell? ⟨ga, t, none⟩ = some (pA (ph t)) ∧ w.frozen? ⟨ga, t, none⟩ = false) ∧ ((w.setCell ⟨ga, t, none⟩ (pA p)).cell? ⟨gb, t, none⟩ = some (pB (ph t)) ∧ (w.setCell ⟨ga, t, none⟩ (pA p)).frozen? ⟨gb, t, none⟩ = false) ∧
    Lo w0 lo hi b rb q A B (XB gp ga gb gc gd b rb (upf ph t p) ++ R) ((w.setCell ⟨ga, t, none⟩ (pA p)).setCell ⟨gb, t, none⟩ (pB p)) := by
  have k1 := h.put 1 t (pA p) rfl
  have k2 := k1.put 2 t (pB p) rfl
  refine ⟨⟨h.c 1 t rfl (a3_at ht), h.z 1 t rfl⟩, ⟨k1.c 2 t rfl (a3_at ht), k1.z 2 t rfl⟩, ?_⟩
  rw [a3_set ht, a3_set ht, a3_up pA, a3_up pB] at k2
  have e : XB gp ga gb gc gd b rb (upf ph t p) = [bx gp TP #[.pointer (some ⟨b, 0, none⟩), .pointer (some ⟨rb, 0, none⟩)], bx ga TA (A3 fun u => pA (upf ph t p u)), bx gb TB (A3 fun u => pB (upf ph t p u)), bx gc TCc (A3 fun u => pC (ph u)), bx gd TD (A3 fun u => pD (ph u))] := by
    unfold XB
    rw [← a3_same pC h3, ← a3_same pD h4]
  rw [e]
  exact k2
theorem st_cd (h : Lo w0 lo hi b rb q A B (XB gp ga gb gc gd b rb ph ++ R) w) (ht : t < 3) (p : Ph) (h1 : pA p = pA (ph t)) (h2 : pB p = pB (ph t)) :
    (w.cell? ⟨gc, t, none⟩ = some (pC (ph t)) ∧ w.frozen? ⟨gc, t, none⟩ = false) ∧ ((w.setCell ⟨gc, t, none⟩ (pC p)).cell? ⟨gd, t, none⟩ = some (pD (ph t)) ∧ (w.setCell ⟨gc, t, none⟩ (pC p)).frozen? ⟨gd, t, none⟩ = false) ∧
    Lo w0 lo hi b rb q A B (XB gp ga gb gc gd b rb (upf ph t p) ++ R) ((w.setCell ⟨gc, t, none⟩ (pC p)).setCell ⟨gd, t, none⟩ (pD p)) := by
  have k1 := h.put 3 t (pC p) rfl
  have k2 := k1.put 4 t (pD p) rfl
  refine ⟨⟨h.c 3 t rfl (a3_at ht), h.z 3 t rfl⟩, ⟨k1.c 4 t rfl (a3_at ht), k1.z 4 t rfl⟩, ?_⟩
  rw [a3_set ht, a3_set ht, a3_up pC, a3_up pD] at k2
  have e : XB gp ga gb gc gd b rb (upf ph t p) = [bx gp TP #[.pointer (some ⟨b, 0, none⟩), .pointer (some ⟨rb, 0, none⟩)], bx ga TA (A3 fun u => pA (ph u)), bx gb TB (A3 fun u => pB (ph u)), bx gc TCc (A3 fun u => pC (upf ph t p u)), bx gd TD (A3 fun u => pD (upf ph t p u))] := by
    unfold XB
    rw [← a3_same pA h1, ← a3_same pB h2]
  rw [e]
  exact k2
theorem st_nil {o : Nat → Ob} (h : Lo w0 lo hi b rb q A B (XB gp ga gb gc gd b rb ph ++ Tn o 12) w) (ht : t < 3) :
    ∃ W1 W2 W3, w.setCell ⟨ga, t, none⟩ nilV = W1 ∧ W1.setCell ⟨gb, t, none⟩ nilV = W2 ∧ W2.setCell ⟨gc, t, none⟩ nilV = W3 ∧
    (w.cell? ⟨ga, t, none⟩ = some (pA (ph t)) ∧ w.frozen? ⟨ga, t, none⟩ = false) ∧ (W1.cell? ⟨gb, t, none⟩ = some (pB (ph t)) ∧ W1.frozen? ⟨gb, t, none⟩ = false) ∧
    (W2.cell? ⟨gc, t, none⟩ = some (pC (ph t)) ∧ W2.frozen? ⟨gc, t, none⟩ = false) ∧ (W3.cell? ⟨gd, t, none⟩ = some (pD (ph t)) ∧ W3.frozen? ⟨gd, t, none⟩ = false) ∧
    Lo w0 lo hi b rb q A B (XB gp ga gb gc gd b rb (upf ph t .idle) ++ Tn (upf (upf (upf (upf o t nob) (3 + t) nob) (6 + t) nob) (9 + t) nob) 12) (W3.setCell ⟨gd, t, none⟩ nilV) := by
  have k1 := h.put 1 t (pA .idle) rfl
  have k2 := k1.put 2 t (pB .idle) rfl
  have k3 := k2.put 3 t (pC .idle) rfl
  have k4 := k3.put 4 t (pD .idle) rfl
  refine ⟨_, _, _, rfl, rfl, rfl, ⟨h.c 1 t rfl (a3_at ht), h.z 1 t rfl⟩, ⟨k1.c 2 t rfl (a3_at ht), k1.z 2 t rfl⟩, ⟨k2.c 3 t rfl (a3_at ht), k2.z 3 t rfl⟩, ⟨k3.c 4 t rfl (a3_at ht), k3.z 4 t rfl⟩, ?_⟩
  rw [a3_set ht, a3_set ht, a3_set ht, a3_set ht, a3_up pA (p := .idle), a3_up pB (p := .idle), a3_up pC (p := .idle), a3_up pD (p := .idle)] at k4
  have k5 : Lo w0 lo hi b rb q A B (XB gp ga gb gc gd b rb (upf ph t .idle) ++ Tn o 12) _ := k4
  exact ex_nob (by omega) (ex_nob (by omega) (ex_nob (by omega) (ex_nob (by omega) k5)))
theorem fi_idle {o : Nat → Ob} (h : FI ph o A) (ht : t < 3) : FI (upf ph t .idle) (upf (upf (upf (upf o t nob) (3 + t) nob) (6 + t) nob) (9 + t) nob) A := by
  refine fi_up h ht h.v ⟨?_, ?_, ?_, ?_⟩ fun u j hu hne hj => ?_
  · rw [upf_ne (by omega), upf_ne (by omega), upf_ne (by omega), upf_at]
  · rw [upf_ne (by omega), upf_ne (by omega), upf_at]
  · rw [upf_ne (by omega), upf_at]
  · rw [upf_at]
  · rw [upf_ne (by omega), upf_ne (by omega), upf_ne (by omega), upf_ne (by omega)]
section
variable {n g : Nat} {ti : Int} {vl vo vs vq v1 v2 : Value} {s : LS} {k1 k2 k3 k4 k5 : Int} {d D : Bool} {j i k : Nat} {xs ys : List Int} {kk : Bool}
theorem t_step (h : Lo w0 lo hi b rb q A B (X ++ Tn o n) w) (ht : j < n) (ho : o j = lkM g ti vl vo s) (hs : LOk s) (hV : VOk (A 2)) (t0 : 0 ≤ ti) (t1 : ti < 16) (hac : Hid (lsAc ti s (A 2) = (k1, k2, k3, k4, k5, d))) :
    Calls Tryz.prog 18 #[.pointer (some ⟨g, 0, none⟩), .pointer (some ⟨b, 0, none⟩)] w fun e w' => e = .returned (accV k1 k2 k3 k4 k5 d) ∧ ∃ vl' vo', Lo w0 lo hi b rb q (upd A 2 (lsO s) (lsP ti s (A 2))) B (X ++ Tn (upf o j (lkM g ti vl' vo' (nxS s (A 2)))) n) w' := by
  refine (x_step (i := X.length + j) h (by rw [lo_at ht, ho]) hs hV t0 t1 hac).mono ?_
  rintro e w' ⟨he, vl', vo', hL⟩
  rw [lo_setn ht] at hL
  exact ⟨he, vl', vo', hL⟩
theorem tq_step (h : Lo w0 lo hi b rb q A B (X ++ Tn o n) w) (ht : j < n) (ho : o j = qlM true g ti vs vq s) (hs : LOk s) (hnd : ¬ s.ys.length = s.S.length) (hV : VOk (B 2)) (t0 : 0 ≤ ti) (t1 : ti < 16) (hac : Hid (lsAc ti s (B 2) = (k1, k2, k3, k4, k5, d))) :
    Calls Tryz.prog 19 #[.pointer (some ⟨g, 0, none⟩), .pointer (some ⟨rb, 0, none⟩)] w fun e w' => e = .returned (accV k1 k2 k3 k4 k5 d) ∧ ∃ vq', Lo w0 lo hi b rb q A (upd B 2 (lsO s) (lsP ti s (B 2))) (X ++ Tn (upf o j (qlM true g ti vs vq' (nxS s (B 2)))) n) w' := by
  refine (qx_step (i := X.length + j) h (by rw [lo_at ht, ho]) hs hnd hV t0 t1 hac).mono ?_
  rintro e w' ⟨he, vq', hL⟩
  rw [lo_setn ht] at hL
  exact ⟨he, vq', hL⟩
theorem t_done (h : Lo w0 lo hi b rb q A B (X ++ Tn o n) w) (ht : j < n) (ho : o j = lkM g ti vl vo s) (hd : Hid (decide (s.ys.length = s.S.length) = D)) : Calls Tryz.prog 14 #[.pointer (some ⟨g, 0, none⟩)] w fun e w' => e = .returned (.bool D) ∧ w = w' := x_done (i := X.length + j) h (by rw [lo_at ht, ho]) hd
theorem tq_done (h : Lo w0 lo hi b rb q A B (X ++ Tn o n) w) (ht : j < n) (ho : o j = qlM kk g ti vs vq s) (hd : Hid (decide (s.ys.length = s.S.length) = D)) : Calls Tryz.prog 15 #[.pointer (some ⟨g, 0, none⟩)] w fun e w' => e = .returned (.bool D) ∧ ∃ n, w' = w.drewN n := qx_done (i := X.length + j) h (by rw [lo_at ht, ho]) hd
theorem t_old (h : Lo w0 lo hi b rb q A B (X ++ Tn o n) w) (ht : j < n) (ho : o j = lkM g ti vl vo s) (hs : LOk s) : Calls Tryz.prog 17 #[.pointer (some ⟨g, 0, none⟩)] w fun e w' => ∃ v, e = .returned v ∧ RdR .u64 w' v s.ys ∧ Below w.heap.size w w' := by
  refine (x_old (i := X.length + j) h (by rw [lo_at ht, ho]) hs).mono ?_
  rintro e w' ⟨Aa, c, he, ho, hb⟩
  exact ⟨_, he, rdr_own ho, hb⟩
theorem tq_rows (h : Lo w0 lo hi b rb q A B (X ++ Tn o n) w) (ht : j < n) (ho : o j = qlM kk g ti vs vq s) : Mem w g TQl #[.int .i64 ti, vs, vq, .bool s.rdy, .int .u64 s.f] ∧ RdR .i64 w vs s.S ∧ RdR .u64 w vq s.ys := ql_rows (i := X.length + j) h (by rw [lo_at ht, ho])
theorem rd_rdr {w : World} {v : Value} {xs : List Int} (h : RdR .u64 w v xs) : CelQ.Rd w v xs := by
  obtain ⟨⟨p, c, e, _, _, hc⟩, _⟩ := h
  exact ⟨p, c, e, hc⟩
theorem t_words (h1 : RdR .u64 w v1 xs) (h2 : RdR .u64 w v2 xs) (hl : xs.length ≤ 1000) : Calls Tryz.prog 16 #[v1, v2] w fun e w' => e = .returned (.bool true) ∧ ∃ n, w' = w.drewN n := CelQ.k_words w v1 v2 xs (rd_rdr h1) (rd_rdr h2) hl
theorem ty_done (h : Lo w0 lo hi b rb q A B (X ++ Tn o n) w) (ht : j < n) (ho : o j = reM g v1 v2 xs ys k) (hd : Hid (((k : Int) == (xs.length : Int)) = D)) : Calls Tryz.prog 25 #[.pointer (some ⟨g, 0, none⟩)] w fun e w' => e = .returned (.bool D) ∧ ∃ n, w' = w.drewN n := by
  have h1 := h.is (X.length + j) _ ((lo_at ht).trans (by rw [ho]))
  obtain ⟨M, ⟨⟨⟨p, c, rfl, _⟩, _⟩, _⟩, _⟩ := h1
  have := re_done M
  rw [hd.out] at this
  exact this
theorem tz_done (h : Lo w0 lo hi b rb q A B (X ++ Tn o n) w) (hi_ : i < n) (hq : o i = qlM kk g ti vs vq s) {gs : Nat} (ht : j < n) (ho : o j = stM gs vs vq k) (hd : Hid (((k : Int) == (s.S.length : Int)) = D)) : Calls Tryz.prog 26 #[.pointer (some ⟨gs, 0, none⟩)] w fun e w' => e = .returned (.bool D) ∧ ∃ n, w' = w.drewN n := by
  obtain ⟨_, ⟨⟨p, c, rfl, _⟩, _⟩, _⟩ := tq_rows h hi_ hq
  have := sx_done (j := X.length + j) h ((lo_at ht).trans (by rw [ho]))
  rw [hd.out] at this
  exact this
theorem rel_step {g2 g3 g4 : Nat} (ht : t < 3) (hq : o (3 + t) = qlM false g2 ti vs vq s) (hr : o (6 + t) = reM g3 v1 v2 s.S s.ys k) (hst : o (9 + t) = stM g4 vs vq k) (hW : LW s) (hl : s.ys.length = s.S.length) (hk : k ≤ s.S.length) (hV : VW (A 2)) :
    ∃ k1 k2 k3 k4 k5 d k' A5, k' ≤ s.S.length ∧ VW (A5 2) ∧
      (∀ w, Lo w0 lo hi b rb q A A (X ++ Tn o 12) w → Calls Tryz.prog 23 #[.pointer (some ⟨g3, 0, none⟩), .pointer (some ⟨b, 0, none⟩)] w fun e w' => e = .returned (accV k1 k2 k3 k4 k5 d) ∧ Lo w0 lo hi b rb q A5 A (X ++ Tn (upf o (6 + t) (reM g3 v1 v2 s.S s.ys k')) 12) w') ∧
      (∀ w, Lo w0 lo hi b rb q A5 A (X ++ Tn (upf o (6 + t) (reM g3 v1 v2 s.S s.ys k')) 12) w → Calls Tryz.prog 24 #[.pointer (some ⟨g4, 0, none⟩), .pointer (some ⟨rb, 0, none⟩)] w fun e w' => e = .returned (accV k1 k2 k3 k4 k5 d) ∧ Lo w0 lo hi b rb q A5 A5 (X ++ Tn (upf (upf o (6 + t) (reM g3 v1 v2 s.S s.ys k')) (9 + t) (stM g4 vs vq k')) 12) w') := by
  have h6 : 6 + t < 12 := by omega
  have h9 : 9 + t < 12 := by omega
  have h3 : 3 + t < 12 := by omega
  have hfew := hW.ok.few
  rcases Nat.lt_or_ge k s.S.length with hk2 | hk2
  · have hin := hW.ok.inS _ (List.getElem_mem hk2)
    obtain ⟨c, hc⟩ : ∃ c : Nat, s.S[k] = (c : Int) := ⟨s.S[k].toNat, by omega⟩
    have hc6 : c < 6 := by omega
    have ho : s.S[k]? = some (c : Int) := by rw [List.getElem?_eq_getElem hk2, hc]
    have hk3 : k < s.ys.length := by omega
    have hv : s.ys[k]? = some s.ys[k] := List.getElem?_eq_getElem hk3
    have hwb := hW.ys _ (List.getElem_mem hk3)
    refine ⟨2, 2, c, (A 2).getD c 0, s.ys[k], true, k + 1, upd A 2 c s.ys[k], hk2, by rw [upd2]; exact vw_set hV hwb, fun w h => ?_, fun w h => ?_⟩
    · refine (y_step (i := X.length + (6 + t)) h ((lo_at h6).trans (by rw [hr])) (vw_vok hV) hl.symm hfew ho hc6 hv rfl).mono ?_
      rintro e w' ⟨he, hL⟩
      rw [lo_setn h6] at hL
      exact ⟨he, hL⟩
    · have hq2 : upf o (6 + t) (reM g3 v1 v2 s.S s.ys (k + 1)) (3 + t) = qlM false g2 ti vs vq s := by rw [upf_ne (by omega), hq]
      have hs2 : upf o (6 + t) (reM g3 v1 v2 s.S s.ys (k + 1)) (9 + t) = stM g4 vs vq k := by rw [upf_ne (by omega), hst]
      obtain ⟨_, ⟨⟨p1, c1, rfl, _⟩, _⟩, ⟨⟨p2, c2, rfl, _⟩, _⟩⟩ := tq_rows h h3 hq2
      rw [hl] at hq2 hs2 ⊢
      refine (sx_step (i := X.length + (3 + t)) (j := X.length + (9 + t)) h (by omega) ((lo_at h3).trans (by rw [hq2])) ((lo_at h9).trans (by rw [hs2])) rfl hl hfew (vw_vok hV) ho hc6 hv rfl).mono ?_
      rintro e w' ⟨he, hL⟩
      rw [lo_setn h9] at hL
      exact ⟨he, hL⟩
  · obtain rfl : k = s.S.length := by omega
    refine ⟨0, 0, 0, 0, 0, false, s.S.length, A, Nat.le_refl _, hV, fun w h => ?_, fun w h => ?_⟩
    · refine (y_over (i := X.length + (6 + t)) h ((lo_at h6).trans (by rw [hr])) hl.symm).mono ?_
      rintro e w' ⟨he, hL⟩
      rw [lo_setn h6] at hL
      exact ⟨he, hL⟩
    · have hq2 : upf o (6 + t) (reM g3 v1 v2 s.S s.ys s.S.length) (3 + t) = qlM false g2 ti vs vq s := by rw [upf_ne (by omega), hq]
      have hs2 : upf o (6 + t) (reM g3 v1 v2 s.S s.ys s.S.length) (9 + t) = stM g4 vs vq s.S.length := by rw [upf_ne (by omega), hst]
      obtain ⟨_, ⟨⟨p1, c1, rfl, _⟩, _⟩, ⟨⟨p2, c2, rfl, _⟩, _⟩⟩ := tq_rows h h3 hq2
      rw [hl] at hq2 hs2 ⊢
      refine (sx_over (j := X.length + (9 + t)) h ((lo_at h9).trans (by rw [hs2]))).mono ?_
      rintro e w' ⟨he, hL⟩
      rw [lo_setn h9] at hL
      exact ⟨he, hL⟩
end
/-- A thread that is not idle: its lock and the reference's. -/
theorem fi_act {o : Nat → Ob} (h : FI ph o A) (ht : t < 3) (hi_ : isI (ph t) = false) : ∃ g1 g2 s vl vo k vs vq, pA (ph t) = ptrV g1 ∧ pB (ph t) = ptrV g2 ∧ LW s ∧ o t = lkM g1 t vl vo s ∧ o (3 + t) = qlM k g2 t vs vq s ∧ (isL (ph t) = true → ph t = .lock g1 g2 s ∧ k = true ∧ o (6 + t) = nob ∧ o (9 + t) = nob) ∧ (isL (ph t) = false → s.ys.length = s.S.length ∧ ∃ g3 g4 n, ph t = .rel g1 g2 g3 g4 s n) := by
  have h1 := h.ob t ht
  cases e : ph t with
  | idle => rw [e] at hi_; cases hi_
  | lock g1 g2 s =>
    rw [e] at h1
    obtain ⟨hW, ⟨vl, vo, e0⟩, ⟨vs, vq, e1⟩, e2, e3⟩ := h1
    exact ⟨g1, g2, s, vl, vo, true, vs, vq, rfl, rfl, hW, e0, e1, fun _ => ⟨rfl, rfl, e2, e3⟩, fun h => by cases h⟩
  | rel g1 g2 g3 g4 s n =>
    rw [e] at h1
    obtain ⟨hW, hl, hn, ⟨vl, vo, e0⟩, vs, vq, e1, e2, e3⟩ := h1
    exact ⟨g1, g2, s, vl, vo, false, vs, vq, rfl, rfl, hW, e0, e1, (fun h => by cases h), fun _ => ⟨hl, g3, g4, n, rfl⟩⟩
theorem fi_lock {o : Nat → Ob} {A5 : Int → List Int} (h : FI ph o A) (ht : t < 3) {g1 g2 : Nat} {s s' : LS} {vl vo vs vq : Value} (hp : ph t = .lock g1 g2 s) (hV : VW (A5 2)) (hW : LW s') : FI (upf ph t (.lock g1 g2 s')) (upf (upf o t (lkM g1 t vl vo s')) (3 + t) (qlM true g2 t vs vq s')) A5 := by
  have h1 := h.ob t ht
  rw [hp] at h1
  obtain ⟨_, _, _, e2, e3⟩ := h1
  refine fi_up h ht hV ⟨hW, ⟨vl, vo, ?_⟩, ⟨vs, vq, ?_⟩, ?_, ?_⟩ fun u j hu hne hj => ?_
  · rw [upf_ne (by omega), upf_at]
  · rw [upf_at]
  · rw [upf_ne (by omega), upf_ne (by omega), e2]
  · rw [upf_ne (by omega), upf_ne (by omega), e3]
  · rw [upf_ne (by omega), upf_ne (by omega)]
theorem fi_new {o : Nat → Ob} (h : FI ph o A) (ht : t < 3) {g1 g2 : Nat} {s : LS} {vl vo vs vq : Value} (hp : ph t = .idle) (hW : LW s) : FI (upf ph t (.lock g1 g2 s)) (upf (upf o t (lkM g1 t vl vo s)) (3 + t) (qlM true g2 t vs vq s)) A := by
  have h1 := h.ob t ht
  rw [hp] at h1
  obtain ⟨_, _, e2, e3⟩ := h1
  refine fi_up h ht h.v ⟨hW, ⟨vl, vo, ?_⟩, ⟨vs, vq, ?_⟩, ?_, ?_⟩ fun u j hu hne hj => ?_
  · rw [upf_ne (by omega), upf_at]
  · rw [upf_at]
  · rw [upf_ne (by omega), upf_ne (by omega), e2]
  · rw [upf_ne (by omega), upf_ne (by omega), e3]
  · rw [upf_ne (by omega), upf_ne (by omega)]
theorem fi_rel {o : Nat → Ob} (h : FI ph o A) (ht : t < 3) {g1 g2 g3 g4 : Nat} {s : LS} {vs vq v1 v2 : Value} (hp : ph t = .lock g1 g2 s) (hl : s.ys.length = s.S.length) (hq : o (3 + t) = qlM true g2 t vs vq s) : FI (upf ph t (.rel g1 g2 g3 g4 s 0)) (upf (upf (upf o (6 + t) (reM g3 v1 v2 s.S s.ys 0)) (3 + t) (qlM false g2 t vs vq s)) (9 + t) (stM g4 vs vq 0)) A := by
  have h1 := h.ob t ht
  rw [hp] at h1
  obtain ⟨hW, ⟨vl, vo, e0⟩, _, e2, e3⟩ := h1
  refine fi_up h ht h.v ⟨hW, hl, Nat.zero_le _, ⟨vl, vo, ?_⟩, vs, vq, ?_, ⟨v1, v2, ?_⟩, ?_⟩ fun u j hu hne hj => ?_
  · rw [upf_ne (by omega), upf_ne (by omega), upf_ne (by omega), e0]
  · rw [upf_ne (by omega), upf_at]
  · rw [upf_ne (by omega), upf_ne (by omega), upf_at]
  · rw [upf_at]
  · rw [upf_ne (by omega), upf_ne (by omega), upf_ne (by omega)]
theorem fi_next {o : Nat → Ob} {A5 : Int → List Int} (h : FI ph o A) (ht : t < 3) {g1 g2 g3 g4 k k' : Nat} {s : LS} {vs vq v1 v2 : Value} (hp : ph t = .rel g1 g2 g3 g4 s k) (hq : o (3 + t) = qlM false g2 t vs vq s) (hk : k' ≤ s.S.length) (hV : VW (A5 2)) : FI (upf ph t (.rel g1 g2 g3 g4 s k')) (upf (upf o (6 + t) (reM g3 v1 v2 s.S s.ys k')) (9 + t) (stM g4 vs vq k')) A5 := by
  have h1 := h.ob t ht
  rw [hp] at h1
  obtain ⟨hW, hl, _, ⟨vl, vo, e0⟩, _⟩ := h1
  refine fi_up h ht hV ⟨hW, hl, hk, ⟨vl, vo, ?_⟩, vs, vq, ?_, ⟨v1, v2, ?_⟩, ?_⟩ fun u j hu hne hj => ?_
  · rw [upf_ne (by omega), upf_ne (by omega), e0]
  · rw [upf_ne (by omega), upf_ne (by omega), hq]
  · rw [upf_ne (by omega), upf_at]
  · rw [upf_at]
  · rw [upf_ne (by omega), upf_ne (by omega)]
theorem ls_srt {xs : List Int} (h8 : xs.length ≤ 8) (h5 : ∀ x ∈ xs, 0 ≤ x ∧ x ≤ 5) : LW ⟨srt xs, [], false, 0⟩ := ⟨⟨Nat.zero_le _, Nat.le_trans (srt_len xs) (by omega), fun x hx => h5 x (mem_srt.1 hx), (fun e => by cases e)⟩, ⟨Int.le_refl 0, by show (0 : Int) ≤ 64003; decide⟩, fun y hy => absurd hy List.not_mem_nil⟩
theorem isI_eq {p : Ph} (h : isI p = true) : p = .idle := by
  cases p with
  | idle => rfl
  | lock _ _ _ => cases h
  | rel _ _ _ _ _ _ => cases h
theorem fi_pb (p : Ph) : ∃ z pv, isI p = z ∧ pB p = pv ∧ ((z = true ∧ pv = nilV) ∨ (z = false ∧ ∃ g, pv = ptrV g)) := by
  cases p with
  | idle => exact ⟨_, _, rfl, rfl, .inl ⟨rfl, rfl⟩⟩
  | lock _ g _ => exact ⟨_, _, rfl, rfl, .inr ⟨rfl, g, rfl⟩⟩
  | rel _ g _ _ _ _ => exact ⟨_, _, rfl, rfl, .inr ⟨rfl, g, rfl⟩⟩
theorem fi_pd {p : Ph} (h : isI p = false) : ∃ z pv, isL p = z ∧ pD p = pv ∧ ((z = true ∧ pv = nilV) ∨ (z = false ∧ ∃ g, pv = ptrV g)) := by
  cases p with
  | idle => cases h
  | lock _ _ _ => exact ⟨_, _, rfl, rfl, .inl ⟨rfl, rfl⟩⟩
  | rel _ _ _ g _ _ => exact ⟨_, _, rfl, rfl, .inr ⟨rfl, g, rfl⟩⟩
theorem fi_nobs {o : Nat → Ob} (h : FI ph o A) (ht : t < 3) (hp : ph t = .idle) : o t = nob ∧ o (3 + t) = nob := by
  have h1 := h.ob t ht
  rw [hp] at h1
  exact ⟨h1.1, h1.2.1⟩
theorem fi_rl {o : Nat → Ob} (h : FI ph o A) (ht : t < 3) (h1 : isL (ph t) = false) (h2 : isI (ph t) = false) : ∃ g1 g2 g3 g4 s n vs vq v1 v2, ph t = .rel g1 g2 g3 g4 s n ∧ o (3 + t) = qlM false g2 t vs vq s ∧ o (6 + t) = reM g3 v1 v2 s.S s.ys n ∧ o (9 + t) = stM g4 vs vq n ∧ LW s ∧ s.ys.length = s.S.length ∧ n ≤ s.S.length := by
  have h3 := h.ob t ht
  cases e : ph t with
  | idle => rw [e] at h2; cases h2
  | lock _ _ _ => rw [e] at h1; cases h1
  | rel g1 g2 g3 g4 s n =>
    rw [e] at h3
    obtain ⟨hW, hl, hn, _, vs, vq, e1, ⟨v1, v2, e2⟩, e3⟩ := h3
    exact ⟨g1, g2, g3, g4, s, n, vs, vq, v1, v2, rfl, e1, e2, e3, hW, hl, hn⟩
theorem new_st {o : Nat → Ob} {g2 g3 : Nat} {s : LS} {vs vq v1 v2 : Value} {ti : Int} (h : Lo w0 lo hi b rb q A B ((X ++ Tn o 12) ++ [reM g3 v1 v2 s.S s.ys 0]) w) (ht : t < 3) (hq : o (3 + t) = qlM true g2 ti vs vq s) (h6 : o (6 + t) = nob) (h9 : o (9 + t) = nob) (hl : s.ys.length = s.S.length) :
    Calls Tryz.prog 22 #[.int .i64 2, vs, vq] w fun e w' => ∃ g4, e = .returned (.pointer (some ⟨g4, 0, none⟩)) ∧ Lo w0 lo hi b rb q A B (X ++ Tn (upf (upf (upf o (6 + t) (reM g3 v1 v2 s.S s.ys 0)) (3 + t) (qlM false g2 ti vs vq s)) (9 + t) (stM g4 vs vq 0)) 12) w' := by
  have k1 := ex_put (t := 6 + t) (by omega) h6 h
  have k2 := ql_see (i := X.length + (3 + t)) (k := true) (g := g2) (t := ti) (vs := vs) (vq := vq) (s := s) k1 ((lo_at (by omega)).trans (by rw [upf_ne (by omega), hq]))
  rw [lo_setn (by omega)] at k2
  obtain ⟨_, ⟨⟨p1, c1, rfl, l1, _⟩, _⟩, ⟨⟨p2, c2, rfl, l2, _⟩, _⟩⟩ := tq_rows (j := 3 + t) (kk := false) (g := g2) (ti := ti) (vs := vs) (vq := vq) (s := s) k2 (by omega) (by rw [upf_at])
  rw [hl] at k2 l2 ⊢
  refine (rs_new k2 p1 p2 s.S.length c1 c2 l1 l2).mono ?_
  rintro e w' ⟨g4, he, hL⟩
  exact ⟨g4, he, ex_put (t := 9 + t) (by omega) (by rw [upf_ne (by omega), upf_ne (by omega), h9]) hL⟩
theorem keep_c {o : Nat → Ob} {g2 : Nat} {s : LS} {vs vq : Value} {ti : Int} {k : Bool} (h : Lo w0 lo hi b rb q A B (XB gp ga gb gc gd b rb ph ++ Tn o 12) w) (ht : t < 3) (v : Value) (e : o (3 + t) = qlM k g2 ti vs vq s) :
    (w.setCell ⟨gc, t, none⟩ v).cell? ⟨gb, t, none⟩ = some (pB (ph t)) ∧ (w.setCell ⟨gc, t, none⟩ v).cell? ⟨g2, 1, none⟩ = some vs ∧ (w.setCell ⟨gc, t, none⟩ v).cell? ⟨g2, 2, none⟩ = some vq := by
  have k1 := h.put 3 t v rfl
  have k2 := ql_rows (i := (XB gp ga gb gc gd b rb ph).length + (3 + t)) (k := k) (g := g2) (t := ti) (vs := vs) (vq := vq) (s := s) k1 (by
    rw [List.getElem?_set_ne (by show 3 ≠ 5 + (3 + t); omega), lo_at (by omega), e])
  exact ⟨k1.c 2 t rfl (a3_at ht), k2.1.cell 1, k2.1.cell 2⟩
end
end Go.Proofs.YtphnadchdhblpaaGreat.LkF
