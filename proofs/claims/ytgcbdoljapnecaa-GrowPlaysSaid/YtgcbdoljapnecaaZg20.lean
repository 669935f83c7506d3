/- The rows of layer 23's document when a map has grown tell the map's turns then: mathematics. What a way to grow makes of a map, and its error: the program's, for any way and darts. The document's rows in memory of a call's own: after, without, made over them, and a row more. What maps that are answer: Degree, Rooted, Same; the document's Vertices and Borders. A map turned another way: the map seen from its faces, and the mirror. The document's examples of layer 10, and what nil answers. Relabel. -/
import Derived.Test.YtgcbdoljapnecaaZg19
import Derived.Test.YtgcbdoljapnecaaZg17
import Derived.Test.YtgcbdoljapnecaaZg2
import Derived.Test.YtgcbdoljapnecaaZg1
import Derived.BigQuiet
import Derived.Test.YtgcbdoljapnecaaZDMap2
import Derived.Test.YtgcbdoljapnecaaZg3
namespace Go.Proofs.Ytgcbdoljapnecaa
open Go.RowKit
set_option linter.unusedVariables false
set_option linter.unusedSimpArgs false
noncomputable def rowsM (l : List Nat) : List (List Nat) := (leads l l.length).map (orb l)
noncomputable def leafR (l : List Nat) (d : Nat) : List (List Nat) := (rowsM l).map (aftL d l.length) ++ [[l.length + 1]]
noncomputable def chordR (l : List Nat) (d e : Nat) : List (List Nat) := ((rowsM l).map (aftL d l.length)).map (aftL (if d = e then l.length else e) (l.length + 1))
noncomputable def splitR (l : List Nat) (d : Nat) : List (List Nat) := ((rowsM l).map (aftL (mateN d) (l.length + 1))).map (witL (mateN d)) ++ [[l.length, mateN d]]
noncomputable def flipR (l b : List Nat) (d : Nat) : List (List Nat) := ((((rowsM l).map (witL d)).map (witL (mateN d))).map (aftL (flp l b d) d)).map (aftL (flp l b (mateN d)) (mateN d))
def starR (L : List (List Nat)) (P : List Nat) (n : Nat) : Nat → List (List Nat)
  | 0 => L
  | j + 1 => (starR L P n j).map (aftL (P.getD j 0) (n + 2 * j))
def hubN (n : Nat) : Nat → List Nat
  | 0 => []
  | j + 1 => (n + 2 * j + 1) :: hubN n j
theorem hub_len (n : Nat) : ∀ j, (hubN n j).length = j
  | 0 => rfl
  | j + 1 => by show (_ :: hubN n j).length = _; rw [List.length_cons, hub_len n j]
theorem mem_hub (n x : Nat) : ∀ j, x ∈ hubN n j ↔ ∃ i, i < j ∧ x = n + 2 * i + 1
  | 0 => by simp [hubN]
  | j + 1 => by
    show x ∈ _ :: hubN n j ↔ _
    rw [List.mem_cons, mem_hub n x j]
    constructor
    · rintro (rfl | ⟨i, hi, e⟩)
      · exact ⟨j, by omega, rfl⟩
      · exact ⟨i, by omega, e⟩
    · rintro ⟨i, hi, e⟩
      by_cases c : i = j
      · exact .inl (by rw [e, c])
      · exact .inr ⟨i, by omega, e⟩
theorem hub_nodup (n : Nat) : ∀ j, (hubN n j).Nodup
  | 0 => List.nodup_nil
  | j + 1 => List.nodup_cons.2 ⟨fun c => by obtain ⟨i, hi, e⟩ := (mem_hub n _ j).1 c; omega, hub_nodup n j⟩
theorem hub_last (n : Nat) : ∀ j, (hubN n (j + 1)).getD j 0 = n + 1
  | 0 => rfl
  | j + 1 => by
    show ((n + 2 * (j + 1) + 1) :: hubN n (j + 1)).getD (j + 1) 0 = _
    rw [gD_cons, if_neg (by omega), show j + 1 - 1 = j by omega, hub_last n j]
variable {l b : List Nat}
theorem TellR.congr {f g : Nat → Nat} {v : List Nat} (h : TellR f v) (e : ∀ x, x ∈ v → g x = f x) : TellR g v := fun k hk => by rw [e _ (gD_mem hk)]; exact h k hk
theorem leaf_pre (h : Inv l b) {d : Nat} (hd : d < l.length) : Tells ((rowsM l).map (aftL d l.length)) (sgL (leafL l d)) (fun x => x < l.length + 1) := by
  have t0 := (lists_tell h).congr (g := sgL (edgL l)) (T := fun x => x < l.length) (fun x hx => edg_old l hx) (fun x => Iff.rfl)
  exact tells_put (edg_inv h) t0 (by rw [edg_len]; omega) (by rw [edg_len]; omega) (edg_new l (Nat.le_refl _) (by omega)) hd (by omega) (fun x => by omega)
theorem leaf_tell (h : Inv l b) {d : Nat} (hd : d < l.length) : Tells (leafR l d) (sgL (leafL l d)) (fun x => x < l.length + 2) := by
  have t2 := (leaf_pre h hd).snoc (v := [l.length + 1]) (by simp) (fun x hx => by rw [List.mem_singleton] at hx; omega) (fun k hk => by
    obtain rfl : k = 0 := by simp at hk; omega
    show sgL (leafL l d) (l.length + 1) = _
    rw [leaf_odd h hd]; rfl)
  exact t2.congr (fun _ _ => rfl) (fun x => by rw [List.mem_singleton]; omega)
theorem chord_tell (h : Inv l b) {d e : Nat} (hd : d < l.length) (he : e < l.length) : Tells (chordR l d e) (sgL (chordL l d e)) (fun x => x < l.length + 2) := by
  obtain ⟨v1, v2⟩ := leaf_inv h hd
  exact tells_put v1 (leaf_pre h hd) (by omega) (by split <;> omega) (leaf_odd h hd) (by show (if d = e then l.length else e) < _; split <;> omega) (by omega) (fun x => by omega)
theorem split_tell (h : Inv l b) (hev : l.length % 2 = 0) {d : Nat} (hd : d < l.length) : Tells (splitR l d) (sgL (splitL l b d)) (fun x => x < l.length + 2) := by
  have hm := mateN_in hev hd
  obtain ⟨v1, l1⟩ := spl1_inv h hev hd
  obtain ⟨v2, l2⟩ := spl2_inv h hev hd
  have t0 := (lists_tell h).congr (g := sgL (edgL l)) (T := fun x => x < l.length) (fun x hx => edg_old l hx) (fun x => Iff.rfl)
  have al1 := edg_new l (show l.length ≤ l.length + 1 by omega) (show l.length + 1 < l.length + 2 by omega)
  have t1 : Tells ((rowsM l).map (aftL (mateN d) (l.length + 1))) (sgL (spl1 l d)) (fun x => x < l.length ∨ x = l.length + 1) :=
    tells_put (edg_inv h) t0 (by rw [edg_len]; omega) (by rw [edg_len]; omega) al1 hm (by omega) (fun x => Iff.rfl)
  have t2 : Tells (((rowsM l).map (aftL (mateN d) (l.length + 1))).map (witL (mateN d))) (sgL (spl2 l b d)) (fun x => (x < l.length ∨ x = l.length + 1) ∧ x ≠ mateN d) :=
    tells_tak v1 t1 (by omega) (fun x hx => by omega) (fun x => Iff.rfl)
  have one : sgL (spl2 l b d) (mateN d) = mateN d := tak_one v1 (by omega)
  have g : ∀ x, sgL (splitL l b d) x = aftF l.length (mateN d) (sgL (spl2 l b d)) x := fun x => sg_put v2 (by omega) (by omega) one x
  have n1 : sgL (spl1 l d) l.length = l.length := by
    show sgL (putL (edgL l) (l.length + 1) (mateN d)) l.length = _
    rw [put_other (edg_inv h) (by rw [edg_len]; omega) (by rw [edg_len]; omega) al1 (by omega) (by omega)]
    exact edg_new l (Nat.le_refl _) (by omega)
  have n2 : sgL (spl2 l b d) l.length = l.length := by
    have := sg_tak v1 (d := mateN d) (by omega) (x := l.length) (by omega) (by omega)
    unfold witF at this
    rw [n1, if_neg (by omega)] at this
    exact this
  have t3 := (t2.congr (g := sgL (splitL l b d)) (T := fun x => (x < l.length ∨ x = l.length + 1) ∧ x ≠ mateN d) (fun x hx => by rw [g]; unfold aftF; rw [if_neg (by omega), if_neg hx.2]) (fun x => Iff.rfl)).snoc (v := [l.length, mateN d])
    (List.nodup_cons.2 ⟨fun c => by rw [List.mem_singleton] at c; omega, by simp⟩)
    (fun x hx c => by
      rcases List.mem_cons.1 hx with q | q
      · omega
      · rw [List.mem_singleton] at q; exact c.2 q)
    (fun k hk => by
      have : k = 0 ∨ k = 1 := by simp at hk; omega
      rcases this with rfl | rfl
      · show sgL (splitL l b d) l.length = mateN d
        rw [g]; unfold aftF; rw [if_pos rfl]
      · show sgL (splitL l b d) (mateN d) = l.length
        rw [g]; unfold aftF; rw [if_neg (by omega), if_pos rfl, n2])
  refine t3.congr (fun _ _ => rfl) (fun x => ?_)
  rw [List.mem_cons, List.mem_singleton]
  by_cases c : x = mateN d
  · omega
  · omega
/-- Where the two darts of a flip go. -/
theorem flips_to (h : Inv l b) (he : l.length % 2 = 0) {d : Nat} (hd : d < l.length) (hf : Flips l d) : flp l b d ≠ d ∧ flp l b d ≠ mateN d ∧ flp l b (mateN d) ≠ mateN d ∧ sgL l d ≠ d ∧ sgL l (mateN d) ≠ mateN d := by
  obtain ⟨p, q, r, s, x, R⟩ := flips_six h he hd hf
  obtain ⟨_, hel, hp, hq, hr, hs⟩ := x.ln
  have hme : mateN d = mt d := mt_mateN d
  have hmd : mt (mt d) = d := mt_mt d
  have lp := mt_ltG he hp
  have lr := mt_ltG he hr
  have back : ∀ i j, i < l.length → sgL l i = j → sgL b j = i := fun i j hi k => by rw [← k]; exact h.lb i hi
  have bq := back _ _ lp R.pq
  have bs := back _ _ lr R.rs
  have ph : ∀ i, i < l.length → (phiL l).getD i 0 = sgL l (mt i) := fun i hi => phi_at l hi
  have o1 : oppN l d = q := by
    unfold oppN
    rw [ph d hd, R.ep, ph p hp, R.pq]
  have o2 : oppN l (mt d) = s := by
    unfold oppN
    rw [ph _ hel, hmd, R.dr, ph r hr, R.rs]
  have f1 : flp l b d = mt p := by unfold flp; rw [o1]; exact bq
  have f2 : flp l b (mt d) = mt r := by unfold flp; rw [o2]; exact bs
  rw [hme, f1, f2]
  refine ⟨fun k => x.ep (by rw [← k, mt_mt]), fun k => x.dp (by have := congrArg mt k; rw [mt_mt, mt_mt] at this; exact this.symm), fun k => x.dr (by have := congrArg mt k; rw [mt_mt, mt_mt] at this; exact this.symm), ?_, ?_⟩
  · rw [R.dr]; exact fun k => x.dr k.symm
  · rw [R.ep]; exact fun k => x.ep k.symm
theorem flip_tell (h : Inv l b) (he : l.length % 2 = 0) {d : Nat} (hd : d < l.length) (hf : Flips l d) : Tells (flipR l b d) (sgL (flipL l b d)) (fun x => x < l.length) := by
  obtain ⟨a1, a2, a3, -, -⟩ := flips_to h he hd hf
  have hm := mateN_in he hd
  have hne := mateN_ne d
  obtain ⟨v1, l1⟩ := fl1_inv h hd
  obtain ⟨v2, l2⟩ := fl2_inv h he hd
  obtain ⟨v3, l3⟩ := fl3_inv h he hd
  have f1 := (flp_lt h he hd).1
  have f2 := (flp_lt h he hm).1
  have t1 : Tells ((rowsM l).map (witL d)) (sgL (fl1 l b d)) (fun x => x < l.length ∧ x ≠ d) := tells_tak h (lists_tell h) hd (fun x hx => hx) (fun x => Iff.rfl)
  have t2 : Tells (((rowsM l).map (witL d)).map (witL (mateN d))) (sgL (fl2 l b d)) (fun x => (x < l.length ∧ x ≠ d) ∧ x ≠ mateN d) := tells_tak v1 t1 (by omega) (fun x hx => by have := hx.1; omega) (fun x => Iff.rfl)
  have t3 : Tells ((((rowsM l).map (witL d)).map (witL (mateN d))).map (aftL (flp l b d) d)) (sgL (fl3 l b d)) (fun x => x < l.length ∧ x ≠ mateN d) :=
    tells_put v2 t2 (by omega) (by omega) (fl2_d h he hd) ⟨⟨f1, a1⟩, a2⟩ (fun c => c.1.2 rfl) (fun x => by
      constructor
      · rintro (⟨⟨q1, q2⟩, q3⟩ | rfl)
        · exact ⟨q1, q3⟩
        · exact ⟨hd, hne.symm⟩
      · rintro ⟨q1, q2⟩
        by_cases c : x = d
        · exact .inr c
        · exact .inl ⟨⟨q1, c⟩, q2⟩)
  exact tells_put v3 t3 (by omega) (by omega) (fl3_m h he hd hf.1) ⟨f2, a3⟩ (fun c => c.2 rfl) (fun x => by
      constructor
      · rintro (⟨q1, q2⟩ | rfl)
        · exact q1
        · exact hm
      · intro q1
        by_cases c : x = mateN d
        · exact .inr c
        · exact .inl ⟨q1, c⟩)
theorem star_tellj (h : Inv l b) {P : List Nat} (hP : ∀ x, x ∈ P → x < l.length) : ∀ j, j ≤ P.length →
    Tells (starR (rowsM l) P l.length j) (sgL (starS l b P j).1) (fun x => x < l.length ∨ ∃ i, i < j ∧ x = l.length + 2 * i) ∧ TellR (sgL (starS l b P j).1) (hubN l.length j)
  | 0, _ => ⟨(lists_tell h).congr (fun _ _ => rfl) (fun x => ⟨.inl, fun c => by rcases c with c | ⟨i, hi, _⟩; exact c; omega⟩), fun k hk => by simp [hubN] at hk⟩
  | j + 1, hj => by
    obtain ⟨t, u⟩ := star_tellj h hP j (by omega)
    obtain ⟨h1, h2⟩ := star_inv h hP j (by omega)
    have ha : P.getD j 0 < l.length := hP _ (gD_mem (by omega))
    obtain ⟨q1, q2, q3⟩ := star_one h1 (a := P.getD j 0) (by omega)
    have e : starS l b P (j + 1) = if j = 0 then (putL (edgL (starS l b P j).1) (starS l b P j).1.length (P.getD j 0), putB (edgL (starS l b P j).1) (edgL (starS l b P j).2) (starS l b P j).1.length (P.getD j 0)) else (putL (putL (edgL (starS l b P j).1) (starS l b P j).1.length (P.getD j 0)) ((starS l b P j).1.length + 1) (l.length + 1), putB (putL (edgL (starS l b P j).1) (starS l b P j).1.length (P.getD j 0)) (putB (edgL (starS l b P j).1) (edgL (starS l b P j).2) (starS l b P j).1.length (P.getD j 0)) ((starS l b P j).1.length + 1) (l.length + 1)) := rfl
    rw [e]
    clear e
    generalize (starS l b P j).1 = p at *
    generalize (starS l b P j).2 = pb at *
    obtain ⟨N, hN⟩ : ∃ N, N = l.length + 2 * j := ⟨_, rfl⟩
    rw [← hN] at h2
    rw [h2] at q1 q2 q3 ⊢
    obtain ⟨a, hga⟩ : ∃ a, a = P.getD j 0 := ⟨_, rfl⟩
    rw [← hga] at ha q1 q2 q3 ⊢
    have dom : ∀ x, (x < l.length ∨ ∃ i, i < j ∧ x = l.length + 2 * i) → x < N := fun x hx => by
      rcases hx with hx | ⟨i, hi, hx⟩ <;> omega
    have t0 := t.congr (g := sgL (edgL p)) (fun x hx => edg_old p (by rw [h2]; exact dom x hx)) (fun x => Iff.rfl)
    have alN := edg_new p (i := N) (by omega) (by omega)
    have dj : ∀ x, ((x < l.length ∨ ∃ i, i < j ∧ x = l.length + 2 * i) ∨ x = N) ↔ (x < l.length ∨ ∃ i, i < j + 1 ∧ x = l.length + 2 * i) := fun x => by
      constructor
      · rintro ((q | ⟨i, hi, q⟩) | q)
        · exact .inl q
        · exact .inr ⟨i, by omega, q⟩
        · exact .inr ⟨j, by omega, by omega⟩
      · rintro (q | ⟨i, hi, q⟩)
        · exact .inl (.inl q)
        · by_cases c : i = j
          · exact .inr (by rw [q, c, hN])
          · exact .inl (.inr ⟨i, by omega, q⟩)
    have t1 : Tells (starR (rowsM l) P l.length (j + 1)) (sgL (putL (edgL p) N a)) (fun x => x < l.length ∨ ∃ i, i < j + 1 ∧ x = l.length + 2 * i) := by
      have := tells_put (edg_inv h1) t0 (d := N) (a := a) (by rw [edg_len]; omega) (by rw [edg_len]; omega) alN (.inl ha) (fun c => by have := dom _ c; omega) dj
      have e2 : starR (rowsM l) P l.length (j + 1) = (starR (rowsM l) P l.length j).map (aftL a N) := by rw [hga, hN]; rfl
      rw [e2]; exact this
    have hm : ∀ x, x ∈ hubN l.length j → x < N ∧ l.length < x := fun x hx => by
      obtain ⟨i, hi, q⟩ := (mem_hub _ _ _).1 hx
      omega
    have u1 : TellR (sgL (putL (edgL p) N a)) (hubN l.length j) := u.congr fun x hx => by
      obtain ⟨m1, m2⟩ := hm x hx
      rw [put_other (edg_inv h1) (by rw [edg_len]; omega) (by rw [edg_len]; omega) alN (by omega) (by omega)]
      exact edg_old p (by omega)
    generalize putL (edgL p) N a = q at *
    generalize putB (edgL p) (edgL pb) N a = qb at *
    by_cases c : j = 0
    · rw [if_pos c]
      refine ⟨t1, fun k hk => ?_⟩
      rw [hub_len] at hk
      subst c
      obtain rfl : k = 0 := by omega
      show sgL q (l.length + 2 * 0 + 1) = l.length + 2 * 0 + 1
      rw [show l.length + 2 * 0 + 1 = N + 1 by omega]
      exact q3
    · rw [if_neg c]
      have g : ∀ x, sgL (putL q (N + 1) (l.length + 1)) x = aftF (l.length + 1) (N + 1) (sgL q) x := fun x => sg_put q1 (by omega) (by omega) q3 x
      refine ⟨t1.congr (fun x hx => ?_) (fun x => Iff.rfl), ?_⟩
      · rw [g]; unfold aftF
        have : x ≠ l.length + 1 ∧ x ≠ N + 1 := by rcases hx with hx | ⟨i, hi, hx⟩ <;> omega
        rw [if_neg this.1, if_neg this.2]
      · show TellR (sgL (putL q (N + 1) (l.length + 1))) ((l.length + 2 * j + 1) :: hubN l.length j)
        rw [show l.length + 2 * j + 1 = N + 1 by omega]
        refine (cons_tell (f := sgL q) (a := l.length + 1) (d := N + 1) (hub_nodup _ _) (fun c => by have := hm _ c; omega) u1 (by rw [hub_len]; omega) ?_).congr fun x _ => g x
        rw [hub_len]
        obtain ⟨m, rfl⟩ : ∃ m, j = m + 1 := ⟨j - 1, by omega⟩
        exact hub_last _ _
noncomputable def starRows (l b : List Nat) (d : Nat) : List (List Nat) := starR (rowsM l) (aheadN l b d) l.length (aheadN l b d).length ++ [hubN l.length (aheadN l b d).length]
theorem star_tell (h : Inv l b) (he : l.length % 2 = 0) {d : Nat} (hd : d < l.length) : Tells (starRows l b d) (sgL (starL l b d)) (fun x => x < l.length + 2 * (aheadN l b d).length) := by
  obtain ⟨t, u⟩ := star_tellj h (ahead_lt h he hd).2.1 _ (Nat.le_refl _)
  refine (t.snoc (hub_nodup _ _) (fun x hx c => ?_) u).congr (fun _ _ => rfl) (fun x => ?_)
  · obtain ⟨i, hi, q⟩ := (mem_hub _ _ _).1 hx
    rcases c with c | ⟨k, hk, c⟩ <;> omega
  · rw [mem_hub]
    constructor
    · rintro ((q | ⟨i, hi, q⟩) | ⟨i, hi, q⟩) <;> omega
    · intro q
      by_cases c1 : x < l.length
      · exact .inl (.inl c1)
      · by_cases c2 : (x - l.length) % 2 = 0
        · exact .inl (.inr ⟨(x - l.length) / 2, by omega, by omega⟩)
        · exact .inr ⟨(x - l.length) / 2, by omega, by omega⟩
/-- How long rows are, and how many numbers they have. -/
theorem Tells.rowLe {os : List (List Nat)} {f : Nat → Nat} {S : Nat → Prop} (h : Tells os f S) {B : Nat} (hS : ∀ x, S x → x < B) : ∀ r, r < os.length → (os.getD r []).length ≤ B := fun r hr => by
  have h1 := nodup_leP h.nd (n := B) fun x hx => hS x ((h.mem x).1 hx)
  have h2 : os.getD r [] ∈ os := by rw [List.getD_eq_getElem?_getD, List.getElem?_eq_getElem hr]; exact List.getElem_mem _
  have h3 := (List.sublist_flatten_of_mem h2).length_le
  omega
theorem Tells.count {os : List (List Nat)} {f : Nat → Nat} {n : Nat} (h : Tells os f fun x => x < n) : os.flatten.length = n := by
  have := ((List.perm_ext_iff_of_nodup h.nd List.nodup_range).2 fun x => by rw [h.mem, List.mem_range] : List.Perm os.flatten (List.range n)).length_eq
  rwa [List.length_range] at this
theorem rowsM_len (l : List Nat) : (rowsM l).length ≤ l.length := by
  unfold rowsM leads
  rw [List.length_map]
  exact Nat.le_trans (List.length_filter_le _ _) (by simp)
end Go.Proofs.Ytgcbdoljapnecaa
namespace Go.Proofs.Ytgcbdoljapnecaa
set_option maxRecDepth 100000
open Go.RowKit
set_option linter.unusedVariables false
/-- The error of way k at d and e. -/
noncomputable def growE (k : Nat) (l : List Nat) (d e : Int) : Int :=
  open Classical in
  if (d < 0 ∨ (l.length : Int) ≤ d) ∨ (k = 1 ∧ (e < 0 ∨ (l.length : Int) ≤ e)) then 1
  else if k = 1 ∧ nameOf (phiL l) (l.getD d.toNat 0) ≠ nameOf (phiL l) (l.getD e.toNat 0) then 8
  else if k = 4 ∧ ¬ Flips l d.toNat then 8 else 0
noncomputable def growO (k : Nat) (l b : List Nat) (d e : Nat) : List Nat × List Nat :=
  if k = 0 then (leafL l d, leafB l b d) else if k = 1 then (chordL l d e, chordB l b d e) else if k = 2 then (splitL l b d, splitB l b d) else if k = 3 then (starL l b d, starB l b d) else (flipL l b d, flipB l b d)
theorem growE_out {k : Nat} {l : List Nat} {d e : Int} (h : (d < 0 ∨ (l.length : Int) ≤ d) ∨ (k = 1 ∧ (e < 0 ∨ (l.length : Int) ≤ e))) : growE k l d e = 1 := by unfold growE; rw [if_pos h]
theorem growE_in {k : Nat} {l : List Nat} {d e : Int} (h : ¬ ((d < 0 ∨ (l.length : Int) ≤ d) ∨ (k = 1 ∧ (e < 0 ∨ (l.length : Int) ≤ e)))) :
    (¬ (k = 1 ∧ nameOf (phiL l) (l.getD d.toNat 0) ≠ nameOf (phiL l) (l.getD e.toNat 0)) → ¬ (k = 4 ∧ ¬ Flips l d.toNat) → growE k l d e = 0) ∧
    (k = 1 → nameOf (phiL l) (l.getD d.toNat 0) ≠ nameOf (phiL l) (l.getD e.toNat 0) → growE k l d e = 8) ∧ (k = 4 → ¬ Flips l d.toNat → growE k l d e = 8) := by
  unfold growE
  rw [if_neg h]
  refine ⟨fun h1 h2 => by rw [if_neg h1, if_neg h2], fun h1 h2 => by rw [if_pos ⟨h1, h2⟩], fun h1 h2 => ?_⟩
  rw [if_neg (fun c => by omega), if_pos ⟨h1, h2⟩]
/-- What the program answers: the error, and the map if there is none. -/
def GrowR (k : Nat) (l b : List Nat) (root lone d e : Int) (w : World) (p : Option Addr) (x : Int) (w' : World) : Prop :=
  x = growE k l d e ∧ Below w.heap.size w w' ∧ ((x = 0 ∧ ∃ g', p = some ⟨g', 0, none⟩ ∧ MapAt w' g' (growO k l b d.toNat e.toNat).1 (growO k l b d.toNat e.toNat).2 root lone) ∨ (x ≠ 0 ∧ p = none))
def GrowA (k : Nat) (l b : List Nat) (root lone d e : Int) (w : World) (en : Ending) (w' : World) : Prop := ∃ p x, en = .returned (.tuple #[.pointer p, .int .i64 x]) ∧ GrowR k l b root lone d e w p x w'
section
variable {g : Nat} {l b : List Nat} {root lone d e : Int} {w : World}
theorem leaf_a (h : MapAt w g l b root lone) (hi : Inv l b) (hr : RootOk root l.length) (hn : l.length ≤ 30000) :
    Calls Try.prog 22 #[.pointer (some ⟨g, 0, none⟩), .int .i64 d] w (GrowA 0 l b root lone d e w) := by
  by_cases ho : d < 0 ∨ (l.length : Int) ≤ d
  · exact (leaf_out g l b root lone d w h ho).mono fun en w' ⟨q1, q2⟩ => ⟨none, 1, q1, (growE_out (.inl ho)).symm, q2, .inr ⟨by omega, rfl⟩⟩
  · obtain ⟨dn, rfl⟩ : ∃ dn : Nat, d = (dn : Int) := ⟨d.toNat, by omega⟩
    refine (leaf_in g l b root lone dn w h hi hr (by omega) (by omega)).mono fun en w' ⟨g', q1, q2, q3⟩ => ⟨_, 0, q1, ((growE_in (k := 0) (e := e) (by omega)).1 (by omega) (by omega)).symm, q3, .inl ⟨rfl, g', rfl, ?_⟩⟩
    rw [Int.toNat_natCast]; exact q2
theorem split_a (h : MapAt w g l b root lone) (hi : Inv l b) (hr : RootOk root l.length) (hn : l.length ≤ 30000) :
    Calls Try.prog 29 #[.pointer (some ⟨g, 0, none⟩), .int .i64 d] w (GrowA 2 l b root lone d e w) := by
  by_cases ho : d < 0 ∨ (l.length : Int) ≤ d
  · exact (split_out g l b root lone d w h ho).mono fun en w' ⟨q1, q2⟩ => ⟨none, 1, q1, (growE_out (.inl ho)).symm, q2, .inr ⟨by omega, rfl⟩⟩
  · obtain ⟨dn, rfl⟩ : ∃ dn : Nat, d = (dn : Int) := ⟨d.toNat, by omega⟩
    refine (split_in g l b root lone dn w h hi hr (by omega) (by omega)).mono fun en w' ⟨g', q1, q2, q3⟩ => ⟨_, 0, q1, ((growE_in (k := 2) (e := e) (by omega)).1 (by omega) (by omega)).symm, q3, .inl ⟨rfl, g', rfl, ?_⟩⟩
    rw [Int.toNat_natCast]; exact q2
theorem star_a (h : MapAt w g l b root lone) (hi : Inv l b) (hr : RootOk root l.length) (hn : l.length ≤ 30000) :
    Calls Try.prog 30 #[.pointer (some ⟨g, 0, none⟩), .int .i64 d] w (GrowA 3 l b root lone d e w) := by
  by_cases ho : d < 0 ∨ (l.length : Int) ≤ d
  · exact (star_out g l b root lone d w h ho).mono fun en w' ⟨q1, q2⟩ => ⟨none, 1, q1, (growE_out (.inl ho)).symm, q2, .inr ⟨by omega, rfl⟩⟩
  · obtain ⟨dn, rfl⟩ : ∃ dn : Nat, d = (dn : Int) := ⟨d.toNat, by omega⟩
    refine (star_in g l b root lone dn w h hi hr (by omega) (by omega)).mono fun en w' ⟨g', q1, q2, q3⟩ => ⟨_, 0, q1, ((growE_in (k := 3) (e := e) (by omega)).1 (by omega) (by omega)).symm, q3, .inl ⟨rfl, g', rfl, ?_⟩⟩
    rw [Int.toNat_natCast]; exact q2
theorem flip_a (h : MapAt w g l b root lone) (hi : Inv l b) (hr : RootOk root l.length) (hn : l.length ≤ 30000) :
    Calls Try.prog 31 #[.pointer (some ⟨g, 0, none⟩), .int .i64 d] w (GrowA 4 l b root lone d e w) := by
  by_cases ho : d < 0 ∨ (l.length : Int) ≤ d
  · exact (flip_out g l b root lone d w h ho).mono fun en w' ⟨q1, q2⟩ => ⟨none, 1, q1, (growE_out (.inl ho)).symm, q2, .inr ⟨by omega, rfl⟩⟩
  · obtain ⟨dn, rfl⟩ : ∃ dn : Nat, d = (dn : Int) := ⟨d.toNat, by omega⟩
    have hE := growE_in (k := 4) (l := l) (d := (dn : Int)) (e := e) (by omega)
    rw [Int.toNat_natCast] at hE
    by_cases hf : Flips l dn
    · refine (flip_in g l b root lone dn w h hi hr (by omega) (by omega) hf).mono fun en w' ⟨g', q1, q2, q3⟩ => ⟨_, 0, q1, (hE.1 (by omega) (fun c => c.2 hf)).symm, q3, .inl ⟨rfl, g', rfl, ?_⟩⟩
      rw [Int.toNat_natCast]; exact q2
    · exact (flip_no g l b root lone dn w h (by omega) hf).mono fun en w' ⟨q1, q2⟩ => ⟨none, 8, q1, (hE.2.2 rfl hf).symm, q2, .inr ⟨by omega, rfl⟩⟩
theorem chord_a (h : MapAt w g l b root lone) (hi : Inv l b) (hr : RootOk root l.length) (hn : l.length ≤ 30000) :
    Calls Try.prog 28 #[.pointer (some ⟨g, 0, none⟩), .int .i64 d, .int .i64 e] w (GrowA 1 l b root lone d e w) := by
  by_cases ho : (d < 0 ∨ (l.length : Int) ≤ d) ∨ e < 0 ∨ (l.length : Int) ≤ e
  · exact (chord_out g l b root lone d e w h ho).mono fun en w' ⟨q1, q2⟩ => ⟨none, 1, q1, (growE_out (by omega)).symm, q2, .inr ⟨by omega, rfl⟩⟩
  · obtain ⟨dn, rfl⟩ : ∃ dn : Nat, d = (dn : Int) := ⟨d.toNat, by omega⟩
    obtain ⟨en', rfl⟩ : ∃ en' : Nat, e = (en' : Int) := ⟨e.toNat, by omega⟩
    have hE := growE_in (k := 1) (l := l) (d := (dn : Int)) (e := (en' : Int)) (by omega)
    rw [Int.toNat_natCast, Int.toNat_natCast] at hE
    by_cases hf : nameOf (phiL l) (l.getD dn 0) = nameOf (phiL l) (l.getD en' 0)
    · refine (chord_in g l b root lone dn en' w h hi hr (by omega) (by omega) (by omega) hf).mono fun en w' ⟨g', q1, q2, q3⟩ => ⟨_, 0, q1, (hE.1 (fun c => c.2 hf) (by omega)).symm, q3, .inl ⟨rfl, g', rfl, ?_⟩⟩
      rw [Int.toNat_natCast, Int.toNat_natCast]; exact q2
    · exact (chord_two g l b root lone dn en' w h hi hr (by omega) (by omega) (by omega) hf).mono fun en w' ⟨q1, q2⟩ => ⟨none, 8, q1, (hE.2.1 rfl hf).symm, q2, .inr ⟨by omega, rfl⟩⟩
theorem do_a (k : Nat) (hk : k < 5) (h : MapAt w g l b root lone) (hi : Inv l b) (hr : RootOk root l.length) (hn : l.length ≤ 30000) :
    Calls Try.prog 7 #[.pointer (some ⟨g, 0, none⟩), .int .i64 (k : Int), .int .i64 d, .int .i64 e] w (GrowA k l b root lone d e w) := by
  have hk5 : k = 0 ∨ k = 1 ∨ k = 2 ∨ k = 3 ∨ k = 4 := by omega
  rcases hk5 with rfl | rfl | rfl | rfl | rfl
  · exact do_leaf _ _ _ _ (GrowR 0 l b root lone d e w) (leaf_a h hi hr hn)
  · exact do_chord _ _ _ _ (GrowR 1 l b root lone d e w) (chord_a h hi hr hn)
  · exact do_split _ _ _ _ (GrowR 2 l b root lone d e w) (split_a h hi hr hn)
  · exact do_star _ _ _ _ (GrowR 3 l b root lone d e w) (star_a h hi hr hn)
  · exact do_flip _ _ _ _ (GrowR 4 l b root lone d e w) (flip_a h hi hr hn)
/-- The five ways keep turns, and how long they are. -/
theorem growO_inv (hi : Inv l b) (hev : l.length % 2 = 0) {k : Nat} {d e : Int} (hk : k < 5) (h0 : growE k l d e = 0) : Inv (growO k l b d.toNat e.toNat).1 (growO k l b d.toNat e.toNat).2 ∧ (growO k l b d.toNat e.toNat).1.length ≤ 3 * l.length ∧ (growO k l b d.toNat e.toNat).1.length % 2 = 0 ∧ l.length ≤ (growO k l b d.toNat e.toNat).1.length ∧ 0 < l.length := by
  have hin : ¬ ((d < 0 ∨ (l.length : Int) ≤ d) ∨ (k = 1 ∧ (e < 0 ∨ (l.length : Int) ≤ e))) := fun c => by rw [growE_out c] at h0; omega
  have hE := growE_in hin
  have hd : d.toNat < l.length := by omega
  have hk5 : k = 0 ∨ k = 1 ∨ k = 2 ∨ k = 3 ∨ k = 4 := by omega
  rcases hk5 with rfl | rfl | rfl | rfl | rfl
  · obtain ⟨i1, i2⟩ := leaf_inv hi hd
    exact ⟨i1, by show (leafL l d.toNat).length ≤ _; omega, by show (leafL l d.toNat).length % 2 = 0; omega, by show _ ≤ (leafL l d.toNat).length; omega, by omega⟩
  · have he : e.toNat < l.length := by omega
    obtain ⟨i1, i2⟩ := chord_inv hi hd he
    exact ⟨i1, by show (chordL l d.toNat e.toNat).length ≤ _; omega, by show (chordL l d.toNat e.toNat).length % 2 = 0; omega, by show _ ≤ (chordL l d.toNat e.toNat).length; omega, by omega⟩
  · obtain ⟨i1, i2⟩ := split_inv hi hev hd
    exact ⟨i1, by show (splitL l b d.toNat).length ≤ _; omega, by show (splitL l b d.toNat).length % 2 = 0; omega, by show _ ≤ (splitL l b d.toNat).length; omega, by omega⟩
  · obtain ⟨a1, a2, a3, a4⟩ := ahead_lt hi hev hd
    obtain ⟨i1, i2⟩ := star_inv hi a2 _ (Nat.le_refl _)
    have hl : (aheadN l b d.toNat).length = (orb (phiL l) d.toNat).length := by simp [aheadN]
    have i3 : (starL l b d.toNat).length = l.length + 2 * (aheadN l b d.toNat).length := i2
    exact ⟨i1, by show (starL l b d.toNat).length ≤ _; omega, by show (starL l b d.toNat).length % 2 = 0; omega, by show _ ≤ (starL l b d.toNat).length; omega, by omega⟩
  · have hf : Flips l d.toNat := Classical.byContradiction fun c => by have := hE.2.2 rfl c; omega
    obtain ⟨i1, i2⟩ := flip_inv hi hev hd hf.1
    exact ⟨i1, by show (flipL l b d.toNat).length ≤ _; omega, by show (flipL l b d.toNat).length % 2 = 0; omega, by show _ ≤ (flipL l b d.toNat).length; omega, by omega⟩
end
end Go.Proofs.Ytgcbdoljapnecaa
namespace Go.Proofs.Ytgcbdoljapnecaa
set_option maxRecDepth 100000
open Go.RowKit
set_option linter.unusedVariables false
set_option linter.unusedSimpArgs false
structure RW (w : World) (base g c : Nat) (os : List (List Nat)) (p : Nat) : Prop where
  ex : ∃ ps, GRow w base (some ⟨g, 0, none⟩) c ps ∧ ps.map (·.2) = os
  len : os.length = p
  pos : 0 < p
section
variable {w w' : World} {base g c p : Nat} {os : List (List Nat)}
theorem RW.below (h : RW w base g c os p) (m : Below w.heap.size w w') : RW w' base g c os p := by
  obtain ⟨ps, h1, h2⟩ := h.ex
  exact ⟨⟨ps, h1.below m, h2⟩, h.len, h.pos⟩
theorem RW.baseLe {base' : Nat} (h : RW w base g c os p) (hb : base' ≤ base) : RW w base' g c os p := by
  obtain ⟨ps, h1, h2⟩ := h.ex
  exact ⟨⟨ps, h1.baseLe hb, h2⟩, h.len, h.pos⟩
theorem RW.rd (h : RW w base g c os p) : RdRows w g os := by
  obtain ⟨ps, h1, h2⟩ := h.ex
  rw [← h2]; exact h1.rdRows
theorem RW.lt (h : RW w base g c os p) : base ≤ g ∧ g < w.heap.size := by
  obtain ⟨ps, h1, _⟩ := h.ex
  exact own_block h1.own
theorem RW.ofOut {e : Ending} (h : OutP w os p e w') (hp : 0 < p) : ∃ g c, e = .returned (.slice (some ⟨g, 0, none⟩) p c) ∧ RW w' w.heap.size g c os p ∧ Below w.heap.size w w' := by
  obtain ⟨A, c, ps, rfl, h1, h2, h3, h4⟩ := h
  have hl : ps.length = p := by rw [← h3, ← h2, List.length_map]
  obtain ⟨g, rfl, _, _⟩ := own_some h1.own (by omega)
  exact ⟨g, c, rfl, ⟨⟨ps, h1, h2⟩, h3, hp⟩, h4⟩
def RWP (w : World) (os : List (List Nat)) (p : Nat) (e : Ending) (w' : World) : Prop := ∃ g c, e = .returned (.slice (some ⟨g, 0, none⟩) p c) ∧ RW w' w.heap.size g c os p ∧ Below w.heap.size w w'
theorem after_q (h : RW w base g c os p) (at_ d : Nat) (hp : p ≤ 40000) (hl : ∀ r, r < os.length → (os.getD r []).length ≤ 20000) :
    Calls Try.prog 37 #[.slice (some ⟨g, 0, none⟩) p c, .int .i64 (at_ : Int), .int .i64 (d : Int)] w (RWP w (os.map (aftL at_ d)) p) :=
  (rafter_p g p c at_ d os w h.rd h.len hp (fun r hr => hl r (by rw [h.len]; exact hr))).mono fun _ _ q => RW.ofOut q h.pos
theorem without_q (h : RW w base g c os p) (d : Nat) (hp : p ≤ 40000) (hl : ∀ r, r < os.length → (os.getD r []).length ≤ 20000) :
    Calls Try.prog 38 #[.slice (some ⟨g, 0, none⟩) p c, .int .i64 (d : Int)] w (RWP w (os.map (witL d)) p) :=
  (rwithout_p g p c d os w h.rd h.len hp (fun r hr => hl r (by rw [h.len]; exact hr))).mono fun _ _ q => RW.ofOut q h.pos
theorem made_q {o : List Nat} {n : Nat} (h : RW w base g c os p) (t : Tells os (sgL o) fun x => x < n) (ho : o.length = n) (hn : n ≤ 20000) (hp : p ≤ 40000) (root lone : Int) :
    Calls Try.prog 40 #[.slice (some ⟨g, 0, none⟩) p c, .int .i64 root, .int .i64 lone] w (NewRO w o root lone) := by
  have := rmade23_p g p c n os root lone w h.rd h.len hn hp t.nd t.mem t.count
  rwa [t.zL ho] at this
/-- A row more: one made behind it. -/
theorem RW.snoc {Av : Option Addr} {cv : Nat} {v : List Nat} (h : RW w base g c os p) (hb : base ≤ w.heap.size) (hp : p ≤ 40000) (hv : w.ownsRow base 3 1 (.slice Av v.length cv) v.length (I64 (ofN v))) (B : Nat) (hB : ∀ k, (Value.slice Av v.length cv).ownBlock = some k → B ≤ k) {w0 : World} (h0 : RW w0 base g c os p) (hB0 : w0.heap.size ≤ B) (hw : Below w0.heap.size w0 w) :
    ∃ g1 c1 w2, (Builtin.append_ #[59, 59] 59 #[.slice (some ⟨g, 0, none⟩) p c, .slice (some ⟨w.heap.size, 0, none⟩) 1 1]).run Try.prog (w.alloc (.cells #[.slice Av v.length cv] 25)) = .ok (.slice (some ⟨g1, 0, none⟩) (p + 1) c1) w2 ∧
      RW w2 base g1 c1 (os ++ [v]) (p + 1) ∧ Below base w w2 := by
  obtain ⟨ps, q1, q2⟩ := h0.ex
  have hl : ps.length = p := by rw [← h0.len, ← q2, List.length_map]
  obtain ⟨A1, c1, w2, r1, r2, r3, _⟩ := (q1.below hw).snocW hb (by omega) hv (fun j hj k hk e => by
    have := ((q1.inn j hj).2.lt k hk).2
    have := hB k e
    omega)
  rw [hl] at r1
  have hl2 : (ps ++ [((.slice Av v.length cv, v) : GEl)]).length = p + 1 := by rw [List.length_append, hl]; rfl
  obtain ⟨g1, rfl, _, _⟩ := own_some r2.own (by omega)
  exact ⟨g1, c1, w2, r1, ⟨⟨_, r2, by rw [List.map_append, q2]; rfl⟩, by rw [List.length_append, h0.len]; rfl, by omega⟩, r3⟩
/-- A row more, just built. -/
theorem RW.push (h : RW w base g c os p) (hb : base ≤ w.heap.size) (hp : p ≤ 40000) (v : List Nat) (hv : v.length ≤ 100) :
    ∃ g1 c1 w2, (Builtin.append_ #[59, 59] 59 #[.slice (some ⟨g, 0, none⟩) p c, .slice (some ⟨w.heap.size + 1, 0, none⟩) 1 1]).run Try.prog ((w.alloc (.cells (I64 (ofN v)).toArray 3)).alloc (.cells #[.slice (some ⟨w.heap.size, 0, none⟩) v.length v.length] 25)) = .ok (.slice (some ⟨g1, 0, none⟩) (p + 1) c1) w2 ∧
      RW w2 base g1 c1 (os ++ [v]) (p + 1) ∧ Below base w w2 := by
  have hal : Below w.heap.size w (w.alloc (.cells (I64 (ofN v)).toArray 3)) := (Below.refl _ _).alloc (Nat.le_refl _) _
  have hO : (w.alloc (.cells (I64 (ofN v)).toArray 3)).ownsRow w.heap.size 3 1 (.slice (some ⟨w.heap.size, 0, none⟩) v.length v.length) v.length (I64 (ofN v)) := by
    have := World.ownsRow_lit (base := w.heap.size) (e := 3) (size := 1) w (I64 (ofN v)).toArray v.length (Nat.le_refl _) (by simp [maxLen]; omega) (by simp [I64, ofN_len])
    simpa using this
  have hs : (w.alloc (.cells (I64 (ofN v)).toArray 3)).heap.size = w.heap.size + 1 := by simp
  obtain ⟨g1, c1, w2, r1, r2, r3⟩ := RW.snoc (w := w.alloc (.cells (I64 (ofN v)).toArray 3)) (h.below hal) (by omega) hp (hO.base_le' hb) w.heap.size (fun k hk => by simp [Value.ownBlock] at hk; omega) h (Nat.le_refl _) hal
  rw [hs] at r1
  exact ⟨g1, c1, w2, r1, r2, (hal.mono hb).trans r3⟩
/-- A number ahead of a row: the row behind a fresh one. -/
theorem hub_push {Ah : Option Addr} {ch : Nat} {v : List Nat} (ho : w.ownsRow base 3 1 (.slice Ah v.length ch) v.length (I64 (ofN v))) (hv : v.length ≤ 100000) (x : Nat) :
    ∃ A1 c1 w2, (Builtin.append_ #[25, 25] 25 #[.slice (some ⟨w.heap.size, 0, none⟩) 1 1, .slice Ah v.length ch]).run Try.prog (w.alloc (.cells #[.int .i64 (x : Int)] 3)) = .ok (.slice A1 (v.length + 1) c1) w2 ∧
      w2.ownsRow w.heap.size 3 1 (.slice A1 (v.length + 1) c1) (v.length + 1) (I64 (ofN (x :: v))) ∧ Below w.heap.size w w2 := by
  obtain ⟨i0, hi0, hz0, hz1, hz2⟩ := info_parts info_int
  have hal : Below w.heap.size w (w.alloc (.cells #[.int .i64 (x : Int)] 3)) := (Below.refl _ _).alloc (Nat.le_refl _) _
  have hO : (w.alloc (.cells #[.int .i64 (x : Int)] 3)).ownsRow w.heap.size 3 1 (.slice (some ⟨w.heap.size, 0, none⟩) 1 1) 1 (I64 [(x : Int)]) := by
    have := World.ownsRow_lit (base := w.heap.size) (e := 3) (size := 1) w #[.int .i64 (x : Int)] 1 (Nat.le_refl _) (by simp [maxLen]) (by simp)
    simpa [I64] using this
  have rd := Rd.ofOwn (own_below ho hal)
  obtain ⟨v', w2, hrun, hnew, hgr, hob⟩ := run_append_rd (P := Try.prog) (w.alloc (.cells #[.int .i64 (x : Int)] 3)) w.heap.size 25 25 3 i0 (.int .i64 0) 8 Try.underlying25 hi0 hz0 hz1 hz2 rfl _ _ _ hO _ Ah v.length ch _ rd (by
    intro u hu
    unfold I64 at hu
    obtain ⟨y, _, rfl⟩ := List.mem_map.1 hu
    rfl) (by simp only [maxLen]; omega) (by omega) (by simp)
  obtain ⟨A1, c1, rfl, _, _⟩ := own_form hnew
  rw [Nat.add_comm 1 v.length] at hrun hnew
  exact ⟨A1, c1, w2, hrun, by rw [show I64 (ofN (x :: v)) = I64 [(x : Int)] ++ I64 (ofN v) by simp [I64, ofN]]; exact hnew, hal.trans (Below.appended hO hgr (by simp))⟩
end
end Go.Proofs.Ytgcbdoljapnecaa
namespace Go.Proofs.Ytgcbdoljapnecaa
open Go.RowKit
set_option linter.unusedVariables false

/-! ### The document's Vertices and Borders -/
end Go.Proofs.Ytgcbdoljapnecaa
namespace Go.Proofs.Ytgcbdoljapnecaa
set_option maxRecDepth 20000
open Go.RowKit
set_option linter.unusedVariables false
end Go.Proofs.Ytgcbdoljapnecaa
namespace Go.Proofs.Ytgcbdoljapnecaa
set_option maxRecDepth 20000
open Go.RowKit
set_option linter.unusedVariables false
end Go.Proofs.Ytgcbdoljapnecaa
namespace Go.Proofs.Ytgcbdoljapnecaa
set_option maxRecDepth 100000
open Go.RowKit
set_option linter.unusedVariables false
end Go.Proofs.Ytgcbdoljapnecaa
