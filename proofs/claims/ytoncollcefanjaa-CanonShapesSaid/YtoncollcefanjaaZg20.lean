/- Shape: how many darts a map can be taken to. The examples of the document's canon. -/
import Derived.Test.YtoncollcefanjaaZg19
import Derived.Test.YtoncollcefanjaaZCtTurns
import Derived.Test.YtoncollcefanjaaZEPartsW
import Derived.Test.YtoncollcefanjaaZDMap2
namespace Go.Proofs.Ytoncollcefanjaa
set_option maxRecDepth 100000
open Go.RowKit
set_option linter.unusedVariables false
set_option linter.unusedSimpArgs false
theorem one_of_pN {l b : List Nat} (hi : Inv l b) (he : l.length % 2 = 0) (h1 : pN l = 1) {i j : Nat} (hii : i < l.length) (hj : j < l.length) : part l i j := by
  have eq := part_eqv hi he
  have lt : ∀ d, d < l.length → prt (part l) d = 0 := fun d hd => by
    have h2 := (rep_is eq hd).1
    have := prt_lt eq hd (d := l.length) (by omega)
    unfold pN at h1
    omega
  exact (prt_iff eq hii hj).1 (by rw [lt i hii, lt j hj])
/-- Shape's count: the darts told, the turns known, and the answer so far. -/
structure ShM (l : List Nat) (r : Nat) (ds : List Nat) (ts : List (List Nat)) (told : List Nat) (T like i : Nat) : Prop where
  it : ∀ t ∈ ts, IsT l t
  tl : told.length = l.length
  to_ : ∀ x, x < l.length → told.getD x 0 ≤ T
  in_ : ∀ x, x < l.length → 0 < told.getD x 0 → Rch ts r x ∨ ¬ TurnsTo l r x
  pr : ∀ j, j < i → 0 < told.getD (ds.getD j 0) 0
  lk : ∃ Q : List Nat, like = Q.length ∧ Q.Nodup ∧ (∀ x ∈ Q, x < l.length) ∧ ∀ x, x ∈ Q ↔ Rch ts r x
  b1 : T ≤ i + 1
  b2 : ts.length ≤ i
section
variable {l b : List Nat} {r : Nat} {ds : List Nat} {ts : List (List Nat)} {told told' : List Nat} {T like i : Nat} {Q : List Nat}
theorem ShM.start (hr : r < l.length) (h1 : Q.Nodup) (h2 : ∀ x ∈ Q, x < l.length) (h3 : ∀ x, x ∈ Q ↔ Rch [] r x) (hl : told'.length = l.length) (hv : ∀ x, x < l.length → told'.getD x 0 = if x ∈ Q then 0 + 1 else (List.replicate l.length 0).getD x 0) : ShM l r ds [] told' (0 + 1) Q.length 0 := by
  have v : ∀ x, x < l.length → told'.getD x 0 = if x ∈ Q then 1 else 0 := fun x hx => by rw [hv x hx, rep0_get]
  refine ⟨fun t ht => by simp at ht, hl, fun x hx => ?_, fun x hx h => ?_, fun j hj => absurd hj (by omega), ⟨Q, rfl, h1, h2, h3⟩, by omega, by simp⟩
  · rw [v x hx]; split <;> omega
  · rw [v x hx] at h
    by_cases c : x ∈ Q
    · exact .inl ((h3 x).1 c)
    · rw [if_neg c] at h; omega
theorem ShM.old (h : ShM l r ds ts told T like i) (ht : 0 < told.getD (ds.getD i 0) 0) : ShM l r ds ts told T like (i + 1) :=
  ⟨h.it, h.tl, h.to_, h.in_, fun j hj => by
    by_cases c : j = i
    · rw [c]; exact ht
    · exact h.pr j (by omega), h.lk, by have := h.b1; omega, by have := h.b2; omega⟩
theorem ShM.good (h : ShM l r ds ts told T like i) (hd : ds.getD i 0 < l.length) (hds : ∀ j, j < i → ds.getD j 0 < l.length) {t : List Nat} (ht : IsT l t) (htr : sgL t r = ds.getD i 0) (h1 : Q.Nodup) (h2 : ∀ x ∈ Q, x < l.length) (h3 : ∀ x, x ∈ Q ↔ Rch (ts ++ [t]) r x) (hl : told'.length = l.length)
    (hv : ∀ x, x < l.length → told'.getD x 0 = if x ∈ Q then T + 1 else told.getD x 0) : ShM l r ds (ts ++ [t]) told' (T + 1) Q.length (i + 1) := by
  refine ⟨fun t' ht' => ?_, hl, fun x hx => ?_, fun x hx hp => ?_, fun j hj => ?_, ⟨Q, rfl, h1, h2, h3⟩, by have := h.b1; omega, by rw [List.length_append]; have := h.b2; have e : [t].length = 1 := rfl; omega⟩
  · rcases List.mem_append.1 ht' with q | q
    · exact h.it t' q
    · rw [List.mem_singleton] at q; rw [q]; exact ht
  · rw [hv x hx]; split
    · exact Nat.le_refl _
    · have := h.to_ x hx; omega
  · rw [hv x hx] at hp
    by_cases c : x ∈ Q
    · exact .inl ((h3 x).1 c)
    · rw [if_neg c] at hp
      rcases h.in_ x hx hp with q | q
      · exact .inl (q.mono fun t ht => List.mem_append_left _ ht)
      · exact .inr q
  · by_cases c : j = i
    · have : ds.getD i 0 ∈ Q := (h3 _).2 (by rw [← htr]; exact .step .refl (by simp))
      rw [c, hv _ hd, if_pos this]; omega
    · rw [hv _ (hds j (by omega))]
      split
      · omega
      · exact h.pr j (by omega)
theorem ShM.bad (hi : Inv l b) (he : l.length % 2 = 0) (hr : r < l.length) (h : ShM l r ds ts told T like i) (hd : ds.getD i 0 < l.length) (hds : ∀ j, j < i → ds.getD j 0 < l.length) (hn : ¬ TurnsTo l r (ds.getD i 0)) (h1 : Q.Nodup) (h2 : ∀ x ∈ Q, x < l.length) (h3 : ∀ x, x ∈ Q ↔ Rch ts (ds.getD i 0) x) (hl : told'.length = l.length)
    (hv : ∀ x, x < l.length → told'.getD x 0 = if x ∈ Q then T + 1 else told.getD x 0) : ShM l r ds ts told' (T + 1) like (i + 1) := by
  refine ⟨h.it, hl, fun x hx => ?_, fun x hx hp => ?_, fun j hj => ?_, h.lk, by have := h.b1; omega, by have := h.b2; omega⟩
  · rw [hv x hx]; split
    · exact Nat.le_refl _
    · have := h.to_ x hx; omega
  · rw [hv x hx] at hp
    by_cases c : x ∈ Q
    · refine .inr fun t => hn ?_
      have := (rch_turns hi he h.it hd ((h3 x).1 c)).2
      exact (turns_eqv hi he).trans _ _ _ hr hx hd t ((turns_eqv hi he).symm _ _ hd hx this)
    · rw [if_neg c] at hp; exact h.in_ x hx hp
  · by_cases c : j = i
    · have : ds.getD i 0 ∈ Q := (h3 _).2 .refl
      rw [c, hv _ hd, if_pos this]; omega
    · rw [hv _ (hds j (by omega))]
      split
      · omega
      · exact h.pr j (by omega)
theorem ShM.done (hi : Inv l b) (he : l.length % 2 = 0) (hr : r < l.length) (h : ShM l r ds ts told T like ds.length) (hall : ∀ d, d < l.length → TurnsTo l r d → d ∈ ds) : like = num (TurnsTo l r) l.length := by
  obtain ⟨Q, rfl, h1, h2, h3⟩ := h.lk
  rw [← num_mem h1 h2]
  refine num_congr fun x hx => ⟨fun c => (rch_turns hi he h.it hr ((h3 x).1 c)).2, fun t => ?_⟩
  obtain ⟨j, hj, e⟩ := mem_getD (hall x hx t)
  have := h.pr j hj
  rw [e] at this
  rcases h.in_ x hx this with q | q
  · exact (h3 x).2 q
  · exact absurd t q
end
theorem turner_new (W : World) (B g gI gT n cI cT : Nat) (img : List Int) (told : List Nat) (hB : B ≤ W.heap.size) (hI : W.ownsRow B 3 1 (.slice (some ⟨gI, 0, none⟩) n cI) n (I64 img)) (hT : W.ownsRow B 3 1 (.slice (some ⟨gT, 0, none⟩) n cT) n (I64 (ofN told))) (hne : gI ≠ gT) (hil : img.length = n) (htl : told.length = n) :
    RowsR (W.alloc (.cells #[.pointer (some ⟨g, 0, none⟩), .slice none 0 0, .slice (some ⟨gI, 0, none⟩) n cI, .slice (some ⟨gT, 0, none⟩) n cT, .int .i64 0] 83)) (fun k => B ≤ k) W.heap.size 83 (tvS g none ([] : List (List Nat)).length 0 gI gT n cI cT 0) (txS [] img told) := by
  have hal : Below W.heap.size W (W.alloc (.cells #[.pointer (some ⟨g, 0, none⟩), .slice none 0 0, .slice (some ⟨gI, 0, none⟩) n cI, .slice (some ⟨gT, 0, none⟩) n cT, .int .i64 0] 83)) := (Below.refl _ _).alloc (Nat.le_refl _) _
  have bI := own_block hI
  have bT := own_block hT
  have cs : ∀ i k, ((tvS g none ([] : List (List Nat)).length 0 gI gT n cI cT 0).getD i (.bool false)).ownBlock = some k → (i = 2 ∧ k = gI) ∨ (i = 3 ∧ k = gT) := fun i k hk => by
    match i with
    | 0 => simp [Value.ownBlock] at hk
    | 1 => simp [Value.ownBlock] at hk
    | 2 => simp [Value.ownBlock] at hk; exact .inl ⟨rfl, hk.symm⟩
    | 3 => simp [Value.ownBlock] at hk; exact .inr ⟨rfl, hk.symm⟩
    | 4 => simp [Value.ownBlock] at hk
    | i + 5 => simp [Value.ownBlock] at hk
  refine ⟨Blk.new W _ _, ?_, fun i j hij _ _ k hk hk2 => ?_, fun i _ hk => ?_, hB, fun i k _ hk => ?_⟩
  · intro i t xx e
    match i with
    | 0 => simp at e
    | 1 => simp at e; obtain ⟨rfl, rfl⟩ := e; exact World.ownsRow_nil _ _ _ _
    | 2 => simp at e; obtain ⟨rfl, rfl⟩ := e; rw [I64_len, hil]; exact own_below (hI.base_le' (Nat.zero_le _)) hal
    | 3 => simp at e; obtain ⟨rfl, rfl⟩ := e; rw [lenR, htl]; exact own_below (hT.base_le' (Nat.zero_le _)) hal
    | 4 => simp at e
    | i + 5 => simp at e
  · have a := cs i k hk
    have c := cs j k hk2
    omega
  · have a := cs i _ hk
    omega
  · have a := cs i k hk
    show B ≤ k
    omega
open Classical in
/-- How many darts a map can be taken to. -/
noncomputable def shpN (l : List Nat) (r lone : Nat) : Nat := if l.length = 0 ∨ pN l + lone ≠ 1 then 0 else num (TurnsTo l r) l.length
theorem cshape_nil (w : World) : Calls Try.prog 28 #[.pointer none] w fun e w' => e = .returned (.int .i64 0) ∧ Below w.heap.size w w' := by
  have DN := Lib.hid (darts_nil w)
  go_enter Try.func28, Try.ntmps28
  go_wp2_with fail
  refine DN.out.mono ?_
  rintro e w1 ⟨rfl, b1⟩
  go_wp2_with fail
  go_ret
  exact ⟨rfl, b1⟩
set_option maxHeartbeats 8000000 in
theorem cshape_p (g : Nat) (l b : List Nat) (r lone : Nat) (w : World) (h : MapAt w g l b (r : Int) (lone : Int)) (hi : Inv l b) (hr : 0 < l.length → r < l.length) :
    Calls Try.prog 28 #[.pointer (some ⟨g, 0, none⟩)] w fun e w' => e = .returned (.int .i64 ((shpN l r lone : Nat) : Int)) ∧ Below w.heap.size w w' := by
  have HM : Hid (∀ w', Below w.heap.size w w' → MapAt w' g l b (r : Int) (lone : Int)) := fun w' m => h.below m
  have DP : Hid (∀ W, Below w.heap.size w W → Calls Try.prog 45 #[.pointer (some ⟨g, 0, none⟩)] W fun e w' => e = .returned (.int .i64 (l.length : Int)) ∧ Below W.heap.size W w') := fun W m => darts_p g l b _ _ W (h.below m)
  have hle := h.2.1
  have HEV : Hid (l.length % 2 = 0) := h.1.1
  have Z0 := Below.refl w.heap.size w
  by_cases h0 : l.length = 0
  · have hs : shpN l r lone = 0 := by unfold shpN; rw [if_pos (.inl h0)]
    rw [hs]
    rw [h0] at DP
    clear h hs h0
    go_enter Try.func28, Try.ntmps28
    go_wp2_with fail
    refine (DP.out _ Z0).mono ?_
    rintro e w1 ⟨rfl, b1⟩
    go_wp2_with fail
    go_ret
    exact ⟨rfl, b1⟩
  · have CN : Hid (∀ W, Below w.heap.size w W → Calls Try.prog 26 #[.pointer (some ⟨g, 0, none⟩)] W fun e w' => e = .returned (.bool (decide (pN l + lone = 1))) ∧ Below W.heap.size W w') := fun W m => connected_p g l b (r : Int) lone W (h.below m)
    obtain ⟨n, hn⟩ : ∃ n, n = l.length := ⟨_, rfl⟩
    rw [← hn] at DP h0 hle hr HEV
    have d0 : ((n : Int) == 0) = false := by rw [beq_eq_false_iff_ne]; omega
    by_cases hc : pN l + lone = 1
    · have hs : shpN l r lone = num (TurnsTo l r) l.length := by unfold shpN; rw [if_neg (by rw [← hn]; omega)]
      rw [hs]
      rw [decide_eq_true hc] at CN
      have hrn : r < n := hr (by omega)
      have HN := Lib.hid hn
      have HI := Lib.hid hi
      have HP : Hid (∀ j, j < l.length → part l r j) := fun j hj => by
        have hp1 : 1 ≤ pN l := by
          have e := part_eqv hi (by rw [← hn]; exact HEV.out)
          have h2 := (rep_is e (show r < l.length by rw [← hn]; exact hrn)).1
          have := prt_lt e (show r < l.length by rw [← hn]; exact hrn) (d := l.length) (by omega)
          unfold pN; omega
        exact one_of_pN hi (by rw [← hn]; exact HEV.out) (by omega) (by rw [← hn]; exact hrn) hj
      have RT : Hid (∀ W, Below w.heap.size w W → Calls Try.prog 18 #[.pointer (some ⟨g, 0, none⟩)] W fun e w' => e = .returned (.int .i64 (r : Int)) ∧ W = w') := fun W m => root_p g l b _ _ W (HM.out W m)
      have AL : Hid (∀ W, Below w.heap.size w W → Calls Try.prog 48 #[.pointer (some ⟨g, 0, none⟩), .int .i64 (r : Int)] W (AlikePost W l r)) := fun W m => calike_p g l b _ _ r W (HM.out W m) HI.out (by rw [← HN.out]; exact hrn)
      have SG : Hid (∀ (W : World), Below w.heap.size w W → ∀ d : Nat, d < n → Calls Try.prog 56 #[.pointer (some ⟨g, 0, none⟩), .int .i64 (d : Int)] W fun e w' => e = .returned (.int .i64 ((stp l 0 d : Nat) : Int)) ∧ Below W.heap.size W w') := fun W m d hd => sigma_in g l b _ _ d W (HM.out W m) (by rw [← HN.out]; exact hd)
      have MT : Hid (∀ (W : World), Below w.heap.size w W → ∀ d : Nat, d < n → Calls Try.prog 55 #[.pointer (some ⟨g, 0, none⟩), .int .i64 (d : Int)] W fun e w' => e = .returned (.int .i64 ((stp l 1 d : Nat) : Int)) ∧ Below W.heap.size W w') := fun W m d hd => by
        have := mate_in g l b _ _ d W (HM.out W m) (by rw [← HN.out]; exact hd)
        rwa [mt_mateN] at this
      obtain ⟨i0, hi0, hz0, hz1, hz2⟩ := info_parts info_int
      have hmk := run_make_one (P := Try.prog) 24 3 i0 (.int .i64 0) 8 Try.underlying24 hi0 hz0 hz1 hz2 rfl .i64 .i64 n (by omega) (by omega)
      obtain ⟨ans, hans⟩ : ∃ a, a = num (TurnsTo l r) l.length := ⟨_, rfl⟩
      rw [← hans]
      have HANS := Lib.hid hans
      have REP : Hid (∀ (W : World) (a : Nat), Rd W (a + 1) (some ⟨a, 0, none⟩) 1 (I64 [-1]) → a + 1 ≤ W.heap.size → Calls Try.prog 46 #[.slice (some ⟨a, 0, none⟩) 1 1, .int .i64 (n : Int)] W fun e w' => e = .returned (.slice (some ⟨W.heap.size, 0, none⟩) n n) ∧ w'.ownsRow W.heap.size 3 1 (.slice (some ⟨W.heap.size, 0, none⟩) n n) n (I64 (List.replicate n (-1))) ∧ Below W.heap.size W w') := fun W a hr ha => repeat_p a n 1 (-1) (a + 1) W hle hr ha
      clear h hi hn hs hc hans
      go_enter Try.func28, Try.ntmps28
      go_wp2_with fail
      refine (DP.out _ Z0).mono ?_
      rintro e w1 ⟨rfl, z⟩
      have Z1 := Z0.trans (z.mono Z0.size)
      clear z
      go_wp2_with fail
      refine (CN.out _ Z1).mono ?_
      rintro e w2 ⟨rfl, z⟩
      have Z2 := Z1.trans (z.mono Z1.size)
      have Z3 : Hid (Below w.heap.size w (w2.alloc (.cells #[.int .i64 (-1)] 3))) := Z2.alloc Z2.size _
      clear z
      go_wp2_with fail
      refine (DP.out _ Z3.out).mono ?_
      rintro e w3 ⟨rfl, z⟩
      have Z4 := Lib.hid (Z3.out.trans (z.mono Z3.out.size))
      have rd : Rd w3 (w2.heap.size + 1) (some ⟨w2.heap.size, 0, none⟩) 1 (I64 [-1]) := (Rd.new w2 3 #[.int .i64 (-1)] 1 (I64 [-1]) rfl rfl).below (by simpa using z)
      have RE := Lib.hid (REP.out w3 w2.heap.size rd (by have := z.size; simpa using this))
      clear z rd
      go_wp2_with fail
      refine RE.out.mono ?_
      rintro e w4 ⟨rfl, o4, z⟩
      have Z5 := Lib.hid (Z4.out.trans (z.mono Z4.out.size))
      have O4 := Lib.hid (o4.base_le' Z4.out.size)
      have hw34 := (own_block o4).2
      clear z o4 RE
      go_wp2_with fail
      refine (DP.out _ Z5.out).mono ?_
      rintro e w5 ⟨rfl, z⟩
      have Z6 := Lib.hid (Z5.out.trans (z.mono Z5.out.size))
      have O5 := Lib.hid (own_below O4.out z)
      have hw45 := z.size
      clear z O4
      have om := own_made w5 3 n (.int .i64 0) (by simp only [maxLen]; omega)
      have em : List.replicate n (Value.int .i64 0) = I64 (ofN (List.replicate n 0)) := by simp [I64, ofN]
      have hal5 : Below w5.heap.size w5 (w5.alloc (.cells (List.replicate n (Value.int .i64 0)).toArray 3)) := (Below.refl _ _).alloc (Nat.le_refl _) _
      have OM : (w5.alloc (.cells (List.replicate n (Value.int .i64 0)).toArray 3)).ownsRow w.heap.size 3 1 (.slice (some ⟨w5.heap.size, 0, none⟩) n n) n (I64 (ofN (List.replicate n 0))) := by
        rw [← em]; exact om.base_le' Z6.out.size
      have O6 := own_below O5.out hal5
      have TN := turner_new (w5.alloc (.cells (List.replicate n (Value.int .i64 0)).toArray 3)) w.heap.size g w3.heap.size w5.heap.size n n n _ _ (by have := Z6.out.size; simp; omega) O6 OM (by omega) (by simp) (by simp)
      have hs6 : (w5.alloc (.cells (List.replicate n (Value.int .i64 0)).toArray 3)).heap.size = w5.heap.size + 1 := by simp
      have eA : (List.replicate n (Value.int .i64 0)).toArray = Array.replicate n (Value.int .i64 0) := by simp
      rw [hs6, eA] at TN
      have HTN := Lib.hid TN
      have Z7 : Hid (Below w.heap.size w ((w5.alloc (.cells (List.replicate n (Value.int .i64 0)).toArray 3)).alloc (.cells #[.pointer (some ⟨g, 0, none⟩), .slice none 0 0, .slice (some ⟨w3.heap.size, 0, none⟩) n n, .slice (some ⟨w5.heap.size, 0, none⟩) n n, .int .i64 0] 83))) := (Z6.out.alloc Z6.out.size _).alloc (by have := Z6.out.size; simp; omega) _
      rw [eA] at Z7
      clear eA
      clear TN om em hal5 OM O6 hs6 O5 hw34 hw45 Z6 Z5 Z4 Z3 Z2 Z1 Z0
      go_wp2_with fail
      clear hmk
      generalize ((w5.alloc (.cells (Array.replicate n (Value.int .i64 0)) 3)).alloc (.cells #[.pointer (some ⟨g, 0, none⟩), .slice none 0 0, .slice (some ⟨w3.heap.size, 0, none⟩) n n, .slice (some ⟨w5.heap.size, 0, none⟩) n n, .int .i64 0] 83)) = v6 at *
      generalize w5.heap.size + 1 = gt at *
      generalize w5.heap.size = gT at *
      generalize w3.heap.size = gI at *
      refine (RT.out _ Z7.out).mono ?_
      rintro e w' ⟨rfl, rfl⟩
      have RC := Lib.hid (creach_p (fun k => w.heap.size ≤ k) gt g none 0 gI gT n n n 0 r [] (List.replicate n (-1)) (List.replicate n 0) [] v6 HTN.out ⟨rfl, fun i hi => absurd hi (by simp)⟩ hrn (by simp) (fun x hx => by rw [rep0_get]; exact Nat.zero_le _) (fun t ht => by simp at ht) (by omega) (by omega) (by simp))
      go_wp2_with fail
      refine RC.out.mono ?_
      rintro e w7 ⟨Q, told1, rfl, q1, q2, q3, q4, q5, R7, M7⟩
      have SM0 : Hid (ShM l r [] [] told1 (0 + 1) Q.length 0) := ShM.start (by rw [← HN.out]; exact hrn) q1 (by rw [← HN.out]; exact q2) q3 (by rw [← HN.out]; exact q4) (by rw [← HN.out]; exact q5)
      have Z8 := Lib.hid (Z7.out.trans (M7.belowB Z7.out.size fun i hi q => by omega))
      have HR7 := Lib.hid R7
      clear q1 q2 q3 q4 q5 R7 M7 RC HTN Z7
      go_wp2_with fail
      refine (RT.out _ Z8.out).mono ?_
      rintro e w' ⟨rfl, rfl⟩
      go_wp2_with fail
      refine (AL.out _ Z8.out).mono ?_
      rintro e w8 ⟨A, m, c, ds, rfl, rd8, hml, hds, hall, hlo, z⟩
      have Z9 := Lib.hid (Z8.out.trans (z.mono Z8.out.size))
      have HRD := Lib.hid rd8
      have hdl : ds.length = m := by have := rd8.len; rwa [lenR] at this
      have HDS := Lib.hid (And.intro hds (And.intro hall hdl))
      have HUP : Hid (∀ k, w8.heap.size ≤ k → w.heap.size ≤ k ∧ ¬ inBlk A k) := fun k hk => ⟨by have := Z9.out.size; omega, fun ⟨a, ha, hb⟩ => by
        rcases Nat.eq_zero_or_pos m with h | h
        · have hr9 := hall r (by rw [← HN.out]; exact hrn) ⟨_, _, range_trn HI.out (by rw [← HN.out]; exact HEV.out) (by rw [← HN.out]; exact hrn)⟩
          rw [List.eq_nil_of_length_eq_zero (hdl.trans h)] at hr9
          simp at hr9
        · obtain ⟨b', o', e1, h1, _⟩ := rd8.at_ h
          rw [ha] at e1
          obtain rfl := Option.some.inj e1
          have : b' = k := hb
          omega⟩
      have R9 : Hid (RowsR w8 (fun k => w.heap.size ≤ k ∧ ¬ inBlk A k) gt 83 (tvS g none ([] : List (List Nat)).length 0 gI gT n n n (0 + 1)) (txS [] (List.replicate n (-1)) told1)) :=
        (((HR7.out.mono (Fr' := fun k => w.heap.size ≤ k ∧ k < w7.heap.size) fun k h1 h2 => ⟨h2, h1⟩).below z).mono fun k h1 h2 => ⟨h2.1, fun c => by have := hlo k c; omega⟩)
      have K9 : Hid (Kno w8 (fun k => w.heap.size ≤ k ∧ ¬ inBlk A k) n [] []) := ⟨rfl, fun i hi => absurd hi (by simp)⟩
      have hmn : m ≤ n := by rw [HN.out]; exact hml
      have SM1 : Hid (ShM l r ds [] told1 (0 + 1) Q.length 0) := ⟨SM0.out.it, SM0.out.tl, SM0.out.to_, SM0.out.in_, fun j hj => absurd hj (by omega), SM0.out.lk, SM0.out.b1, SM0.out.b2⟩
      clear rd8 hml hds hall hlo z HR7 SM0 Z8 hdl AL
      go_wp2_with fail
      go_loopw [4, 32] (fun v x wr => ∃ (i : Nat) (Fr : Nat → Prop) (AK : Option Addr) (cK T like : Nat) (ks : List Value) (ts : List (List Nat)) (told : List Nat), i ≤ m ∧ v = .int .i64 (like : Int) ∧ x = .int .i64 (i : Int) ∧ Hid (ShM l r ds ts told T like i) ∧ Hid (RowsR wr Fr gt 83 (tvS g AK ts.length cK gI gT n n n T) (txS ks (List.replicate n (-1)) told)) ∧ Hid (Kno wr Fr n ks ts) ∧
        Hid ((∀ k, wr.heap.size ≤ k → Fr k) ∧ (∀ k, Fr k → w.heap.size ≤ k ∧ ¬ inBlk A k)) ∧ Hid (Rd wr wr.heap.size A m (I64 (ofN ds))) ∧ Hid (Below w.heap.size w wr)) (fun _ x _ => m - (intOf x).toNat)
      case atStart => exact ⟨0, _, none, 0, _, _, [], [], told1, Nat.zero_le _, rfl, rfl, SM1, R9, K9, ⟨HUP.out, fun k h => h⟩, HRD, Z9⟩
      case round =>
        clear SM1 R9 K9 HUP HRD Z9
        obtain ⟨i, Fr, AK, cK, T, like, ks, ts, told, him, rfl, rfl, SM, R, K, FR, RD, ZB⟩ := hrel
        by_cases hlt : i < m
        · have hdk : decide (i < m) = true := decide_eq_true hlt
          obtain ⟨ba, oa, rfl, hba, hca⟩ := RD.out.i64 (by omega)
          have cd := hca i hlt
          rw [ofN_get] at cd
          obtain ⟨d, hd⟩ : ∃ d, d = ds.getD i 0 := ⟨_, rfl⟩
          rw [← hd] at cd
          have hdm : ∀ j, j < m → ds.getD j 0 < l.length := fun j hj => HDS.out.1 _ (getD_orb_mem (by rw [HDS.out.2.2]; exact hj))
          have hdn : d < n := by rw [hd, HN.out]; exact hdm i hlt
          have HDM := Lib.hid hdm
          have HD := Lib.hid hd
          have g3 := R.out.bx.cell 3
          simp at g3
          obtain ⟨c3, _⟩ := R.out.cellN 3 rfl rfl (by rw [SM.out.tl, HN.out]) d hdn
          obtain ⟨td, htd⟩ : ∃ x, x = told.getD d 0 := ⟨_, rfl⟩
          rw [← htd] at c3
          have HTD := Lib.hid htd
          have hdi : (d : Int) < (n : Int) := by omega
          have hT5 : T ≤ 500000 := by have := SM.out.b1; omega
          have hq5 : ts.length ≤ 500000 := by have := SM.out.b2; omega
          have STEP : Hid (∀ (W w' : World) (Fr' : Nat → Prop), Mod Fr W w' → Below w.heap.size w W → (∀ k, Fr k → w.heap.size ≤ k ∧ ¬ inBlk (some ⟨ba, oa, none⟩) k) → Rd W W.heap.size (some ⟨ba, oa, none⟩) m (I64 (ofN ds)) → Rd w' w'.heap.size (some ⟨ba, oa, none⟩) m (I64 (ofN ds)) ∧ Below w.heap.size w w') := fun W w' Fr' M hb hf hr =>
            ⟨((hr.mod M (Nat.le_refl _) fun _ k hk c => (hf k c).2 hk).up M.size), hb.trans (M.belowB hb.size fun i hi q => by have := (hf i q).1; omega)⟩
          clear hd hdm htd hca hba
          by_cases htp : 0 < td
          · have dt : decide (0 < td) = true := decide_eq_true htp
            have SM2 : Hid (ShM l r ds ts told T like (i + 1)) := SM.out.old (by rw [← HD.out, ← HTD.out]; exact htp)
            clear SM
            go_wp2_with fail
            go_roundw
            case rel => exact ⟨i + 1, Fr, AK, cK, T, like, ks, ts, told, by omega, rfl, by go_num, SM2, R, K, FR, RD, ZB⟩
            case measure => simp [intOf]; omega
          · have dt : decide (0 < td) = false := decide_eq_false htp
            have TU := Lib.hid (cturns_p Fr w.heap.size w l b gt g AK cK gI gT n n n T r d ks told ts wr R.out K.out FR.out.1 (fun k hk => (FR.out.2 k hk).1) ZB.out.size ZB.out HI.out (by rw [← HN.out]; exact HEV.out) HN.out hrn hdn HP.out SG MT (by omega) hq5)
            clear htp
            go_wp2_with fail
            refine (RT.out _ ZB.out).mono ?_
            rintro e w' ⟨rfl, rfl⟩
            go_wp2_with fail
            refine TU.out.mono ?_
            rintro e w5 ⟨ok, Fr', AK', cK', ks', ts', rfl, hiff, r5, k5, u5, s5, m5, y5, n5⟩
            obtain ⟨rd5, z5⟩ := STEP.out wr w5 Fr' m5 ZB.out FR.out.2 RD.out
            have R5 := Lib.hid r5
            have K5 := Lib.hid k5
            have RD5 := Lib.hid rd5
            have Z5 := Lib.hid z5
            have FR5 : Hid ((∀ k, w5.heap.size ≤ k → Fr' k) ∧ ∀ k, Fr' k → w.heap.size ≤ k ∧ ¬ inBlk (some ⟨ba, oa, none⟩) k) := ⟨u5, fun k hk => FR.out.2 k (s5 k hk)⟩
            have STEP2 : Hid (∀ (w' : World), Mod Fr' w5 w' → Rd w' w'.heap.size (some ⟨ba, oa, none⟩) m (I64 (ofN ds)) ∧ Below w.heap.size w w') := fun w' M =>
              ⟨((rd5.mod M (Nat.le_refl _) fun _ k hk c => (FR.out.2 k (s5 k c)).2 hk).up M.size), z5.trans (M.belowB z5.size fun i hi q => by have := (FR.out.2 i (s5 i q)).1; omega)⟩
            have HTO : Hid (told.length = n ∧ ∀ x, x < n → told.getD x 0 ≤ T) := ⟨by rw [SM.out.tl, HN.out], fun x hx => SM.out.to_ x (by rw [← HN.out]; exact hx)⟩
            clear r5 k5 rd5 z5 m5 u5 s5 TU RD R K FR STEP ZB
            cases ok with
            | true =>
              obtain ⟨t, rfl, ht1, ht2⟩ := y5 rfl
              have HT1 := Lib.hid ht1
              have HT2 := Lib.hid ht2
              have RC := Lib.hid (creach_p Fr' gt g AK' cK' gI gT n n n T r ks' (List.replicate n (-1)) told (ts ++ [t]) w5 R5.out K5.out hrn HTO.out.1 HTO.out.2 (fun t' ht' x hx => by
                rw [HN.out] at hx ⊢
                rcases List.mem_append.1 ht' with q | q
                · exact (SM.out.it t' q).lt hx
                · rw [List.mem_singleton] at q; rw [q]; exact ht1.lt hx) (by omega) hT5 (by rw [List.length_append]; have := SM.out.b2; have e : [t].length = 1 := rfl; omega))
              clear y5 n5 hiff ht1 ht2
              go_wp2_with fail
              refine (RT.out _ Z5.out).mono ?_
              rintro e w' ⟨rfl, rfl⟩
              go_wp2_with fail
              refine RC.out.mono ?_
              rintro e w6 ⟨Q, told2, rfl, q1, q2, q3, q4, q5, r6, m6⟩
              have SM2 : Hid (ShM l r ds (ts ++ [t]) told2 (T + 1) Q.length (i + 1)) := SM.out.good (HDM.out i hlt) (fun j hj => HDM.out j (by omega)) HT1.out (by rw [HT2.out, HD.out]) q1 (by rw [← HN.out]; exact q2) q3 (by rw [← HN.out]; exact q4) (by rw [← HN.out]; exact q5)
              have R6 := Lib.hid r6
              have K6 := Lib.hid (K5.out.mod m6 fun k _ q => q)
              obtain ⟨rd6, z6⟩ := STEP2.out w6 m6
              have RD6 := Lib.hid rd6
              have Z6 := Lib.hid z6
              have FR6 : Hid ((∀ k, w6.heap.size ≤ k → Fr' k) ∧ ∀ k, Fr' k → w.heap.size ≤ k ∧ ¬ inBlk (some ⟨ba, oa, none⟩) k) := ⟨fun k hk => FR5.out.1 k (by have := m6.size; omega), FR5.out.2⟩
              clear q1 q2 q3 q4 q5 r6 m6 rd6 z6 RC SM R5 K5 STEP2 FR5 Z5 RD5
              go_wp2_with fail
              go_roundw
              case rel => exact ⟨i + 1, Fr', AK', cK', T + 1, Q.length, ks', ts ++ [t], told2, by omega, rfl, by go_num, SM2, R6, K6, FR6, RD6, Z6⟩
              case measure => simp [intOf]; omega
            | false =>
              obtain rfl := n5 rfl
              have HNT : Hid (¬ TurnsTo l r d) := fun c => by have := hiff.2 c; cases this
              have RC := Lib.hid (creach_p Fr' gt g AK' cK' gI gT n n n T d ks' (List.replicate n (-1)) told ts' w5 R5.out K5.out hdn HTO.out.1 HTO.out.2 (fun t' ht' x hx => by
                rw [HN.out] at hx ⊢
                exact (SM.out.it t' ht').lt hx) (by omega) hT5 hq5)
              clear y5 n5 hiff
              go_wp2_with fail
              refine RC.out.mono ?_
              rintro e w6 ⟨Q, told2, rfl, q1, q2, q3, q4, q5, r6, m6⟩
              have SM2 : Hid (ShM l r ds ts' told2 (T + 1) like (i + 1)) := SM.out.bad HI.out (by rw [← HN.out]; exact HEV.out) (by rw [← HN.out]; exact hrn) (HDM.out i hlt) (fun j hj => HDM.out j (by omega)) (by rw [← HD.out]; exact HNT.out) q1 (by rw [← HN.out]; exact q2) (by rw [← HD.out]; exact q3) (by rw [← HN.out]; exact q4) (by rw [← HN.out]; exact q5)
              have R6 := Lib.hid r6
              have K6 := Lib.hid (K5.out.mod m6 fun k _ q => q)
              obtain ⟨rd6, z6⟩ := STEP2.out w6 m6
              have RD6 := Lib.hid rd6
              have Z6 := Lib.hid z6
              have FR6 : Hid ((∀ k, w6.heap.size ≤ k → Fr' k) ∧ ∀ k, Fr' k → w.heap.size ≤ k ∧ ¬ inBlk (some ⟨ba, oa, none⟩) k) := ⟨fun k hk => FR5.out.1 k (by have := m6.size; omega), FR5.out.2⟩
              clear q1 q2 q3 q4 q5 r6 m6 rd6 z6 RC SM R5 K5 STEP2 FR5 Z5 RD5
              go_wp2_with fail
              go_roundw
              case rel => exact ⟨i + 1, Fr', AK', cK', T + 1, like, ks', ts', told2, by omega, rfl, by go_num, SM2, R6, K6, FR6, RD6, Z6⟩
              case measure => simp [intOf]; omega
        · obtain rfl : m = i := by omega
          have hdk : decide (m < m) = false := by simp
          have HF : Hid (like = ans) := by
            have s := SM.out
            rw [← HDS.out.2.2] at s
            show _ = _
            rw [HANS.out]
            exact s.done HI.out (by rw [← HN.out]; exact HEV.out) (by rw [← HN.out]; exact hrn) HDS.out.2.1
          have HZ := Lib.hid ZB.out
          clear SM R K FR RD ZB HANS
          go_wp2_with fail
          go_ret
          exact ⟨congrArg (fun x : Nat => Ending.returned (.int .i64 (x : Int))) HF.out, HZ.out⟩
    · have hs : shpN l r lone = 0 := by unfold shpN; rw [if_pos (.inr hc)]
      rw [hs]
      rw [decide_eq_false hc] at CN
      clear h hs hc hn
      go_enter Try.func28, Try.ntmps28
      go_wp2_with fail
      refine (DP.out _ Z0).mono ?_
      rintro e w1 ⟨rfl, b1⟩
      go_wp2_with fail
      refine (CN.out _ b1).mono ?_
      rintro e w2 ⟨rfl, b2⟩
      go_wp2_with fail
      go_ret
      exact ⟨rfl, b1.trans (b2.mono b1.size)⟩
end Go.Proofs.Ytoncollcefanjaa
namespace Go.Proofs.Ytoncollcefanjaa
set_option maxRecDepth 100000
open Go.RowKit
set_option linter.unusedVariables false
set_option linter.unusedSimpArgs false
def tryL : List Nat := [5, 2, 1, 4, 3, 0]
theorem tryL_inv : Inv tryL tryL := ⟨rfl, by decide, by decide, by decide, by decide⟩
theorem num_allT {P : Nat → Prop} {n : Nat} (h : ∀ d, d < n → P d) : num P n = n := by
  rw [num_congr (S := fun _ => True) fun d hd => ⟨fun _ => trivial, fun _ => h d hd⟩, cnum_all]
theorem shp_one {l b : List Nat} (hi : Inv l b) (he : l.length % 2 = 0) (h0 : 0 < l.length) {k : Nat} (ho : oneB l k = true) (ht : ∀ d, d < l.length → TurnsTo l 0 d) : shpN l 0 0 = l.length := by
  have h1 := (one_part hi he h0 (oneB_ok hi he ho)).1
  unfold shpN
  rw [if_neg (by omega)]
  exact num_allT ht
theorem turn_at {l p q : List Nat} {d : Nat} (hi : Inv p q) (hl : p.length = l.length) (he : l.length % 2 = 0) (hm : ∀ x, x < l.length → p.getD (mt x) 0 = mt (p.getD x 0)) (hc : cjL p q l = l) (hd : p.getD 0 0 = d) : TurnsTo l 0 d := ⟨p, q, ⟨hi, hl, he, hm⟩, hc, hd⟩
theorem shp_id : shpN idL 0 0 = 2 := shp_one (l := idL) (b := idL) idL_inv rfl (by decide) (k := 3) rfl fun d hd => by
  match d, hd with
  | 0, _ => exact turn_at (l := idL) (p := [0, 1]) (q := [0, 1]) ⟨rfl, by decide, by decide, by decide, by decide⟩ rfl rfl (by decide) rfl rfl
  | 1, _ => exact turn_at (l := idL) (p := [1, 0]) (q := [1, 0]) ⟨rfl, by decide, by decide, by decide, by decide⟩ rfl rfl (by decide) rfl rfl
theorem shp_sw : shpN swL 0 0 = 2 := shp_one (l := swL) (b := swL) swL_inv rfl (by decide) (k := 3) rfl fun d hd => by
  match d, hd with
  | 0, _ => exact turn_at (l := swL) (p := [0, 1]) (q := [0, 1]) ⟨rfl, by decide, by decide, by decide, by decide⟩ rfl rfl (by decide) rfl rfl
  | 1, _ => exact turn_at (l := swL) (p := [1, 0]) (q := [1, 0]) ⟨rfl, by decide, by decide, by decide, by decide⟩ rfl rfl (by decide) rfl rfl
theorem shp_try : shpN tryL 0 0 = 6 := shp_one (l := tryL) (b := tryL) tryL_inv rfl (by decide) (k := 6) rfl fun d hd => by
  match d, hd with
  | 0, _ => exact turn_at (l := tryL) (p := [0, 1, 2, 3, 4, 5]) (q := [0, 1, 2, 3, 4, 5]) ⟨rfl, by decide, by decide, by decide, by decide⟩ rfl rfl (by decide) rfl rfl
  | 1, _ => exact turn_at (l := tryL) (p := [1, 0, 5, 4, 3, 2]) (q := [1, 0, 5, 4, 3, 2]) ⟨rfl, by decide, by decide, by decide, by decide⟩ rfl rfl (by decide) rfl rfl
  | 2, _ => exact turn_at (l := tryL) (p := [2, 3, 4, 5, 0, 1]) (q := [4, 5, 0, 1, 2, 3]) ⟨rfl, by decide, by decide, by decide, by decide⟩ rfl rfl (by decide) rfl rfl
  | 3, _ => exact turn_at (l := tryL) (p := [3, 2, 1, 0, 5, 4]) (q := [3, 2, 1, 0, 5, 4]) ⟨rfl, by decide, by decide, by decide, by decide⟩ rfl rfl (by decide) rfl rfl
  | 4, _ => exact turn_at (l := tryL) (p := [4, 5, 0, 1, 2, 3]) (q := [2, 3, 4, 5, 0, 1]) ⟨rfl, by decide, by decide, by decide, by decide⟩ rfl rfl (by decide) rfl rfl
  | 5, _ => exact turn_at (l := tryL) (p := [5, 4, 3, 2, 1, 0]) (q := [5, 4, 3, 2, 1, 0]) ⟨rfl, by decide, by decide, by decide, by decide⟩ rfl rfl (by decide) rfl rfl
set_option maxHeartbeats 4000000 in
theorem awake11_p (w : World) :
    Calls Try.prog 9 #[] w fun e w' => e = .returned (.bool true) ∧ Below w.heap.size w w' := by
  have N1 : Hid (∀ (W : World), Below w.heap.size w W → Calls Try.prog 29 #[.slice (some ⟨W.heap.size, 0, none⟩) 2 2, .int .i64 0, .int .i64 0] (W.alloc (.cells #[.int .i64 0, .int .i64 1] 3)) (NewMap (W.alloc (.cells #[.int .i64 0, .int .i64 1] 3)) idL idL 0 0)) := fun W m =>
    new_ok _ 2 2 idL idL 0 0 _ ((Rd.new W 3 #[.int .i64 0, .int .i64 1] 2 (I64 (ofN idL)) rfl rfl).up (by simp)) idL_inv rfl (by omega) (.inr ⟨by omega, by omega, by omega⟩) (by omega) (by omega)
  have N2 : Hid (∀ (W : World), Below w.heap.size w W → Calls Try.prog 29 #[.slice (some ⟨W.heap.size, 0, none⟩) 2 2, .int .i64 0, .int .i64 0] (W.alloc (.cells #[.int .i64 1, .int .i64 0] 3)) (NewMap (W.alloc (.cells #[.int .i64 1, .int .i64 0] 3)) swL swL 0 0)) := fun W m =>
    new_ok _ 2 2 swL swL 0 0 _ ((Rd.new W 3 #[.int .i64 1, .int .i64 0] 2 (I64 (ofN swL)) rfl rfl).up (by simp)) swL_inv rfl (by omega) (.inr ⟨by omega, by omega, by omega⟩) (by omega) (by omega)
  have N3 : Hid (∀ (W : World), Below w.heap.size w W → Calls Try.prog 29 #[.slice (some ⟨W.heap.size, 0, none⟩) 6 6, .int .i64 0, .int .i64 0] (W.alloc (.cells #[.int .i64 5, .int .i64 2, .int .i64 1, .int .i64 4, .int .i64 3, .int .i64 0] 3)) (NewMap (W.alloc (.cells #[.int .i64 5, .int .i64 2, .int .i64 1, .int .i64 4, .int .i64 3, .int .i64 0] 3)) tryL tryL 0 0)) := fun W m =>
    new_ok _ 6 6 tryL tryL 0 0 _ ((Rd.new W 3 #[.int .i64 5, .int .i64 2, .int .i64 1, .int .i64 4, .int .i64 3, .int .i64 0] 6 (I64 (ofN tryL)) rfl rfl).up (by simp)) tryL_inv rfl (by omega) (.inr ⟨by omega, by omega, by omega⟩) (by omega) (by omega)
  have S1 : Hid (∀ (W : World) (g : Nat), MapAt W g idL idL 0 0 → Calls Try.prog 28 #[.pointer (some ⟨g, 0, none⟩)] W fun e w' => e = .returned (.int .i64 2) ∧ Below W.heap.size W w') := fun W g h => by
    have := cshape_p g idL idL 0 0 W h idL_inv (fun _ => by decide)
    rw [shp_id] at this
    exact this
  have S2 : Hid (∀ (W : World) (g : Nat), MapAt W g swL swL 0 0 → Calls Try.prog 28 #[.pointer (some ⟨g, 0, none⟩)] W fun e w' => e = .returned (.int .i64 2) ∧ Below W.heap.size W w') := fun W g h => by
    have := cshape_p g swL swL 0 0 W h swL_inv (fun _ => by decide)
    rw [shp_sw] at this
    exact this
  have S3 : Hid (∀ (W : World) (g : Nat), MapAt W g tryL tryL 0 0 → Calls Try.prog 28 #[.pointer (some ⟨g, 0, none⟩)] W fun e w' => e = .returned (.int .i64 6) ∧ Below W.heap.size W w') := fun W g h => by
    have := cshape_p g tryL tryL 0 0 W h tryL_inv (fun _ => by decide)
    rw [shp_try] at this
    exact this
  have Z0 := Below.refl w.heap.size w
  have A0 : Hid (Below w.heap.size w (w.alloc (.cells #[.int .i64 0, .int .i64 1] 3))) := Z0.alloc Z0.size _
  have C1 := Lib.hid (N1.out w Z0)
  clear N1
  go_enter Try.func9, Try.ntmps9
  go_wp2_with fail
  refine C1.out.mono ?_
  rintro e w1 ⟨g1, rfl, m1, b1, _⟩
  have Z1 := Lib.hid (A0.out.trans (b1.mono A0.out.size))
  have M1 := Lib.hid m1
  have A1 : Hid (Below w1.heap.size w1 (w1.alloc (.cells #[.int .i64 1, .int .i64 0] 3))) := (Below.refl _ _).alloc (Nat.le_refl _) _
  have C2 := Lib.hid (N2.out w1 Z1.out)
  clear m1 b1 C1 N2 A0 Z0
  go_wp2_with fail
  refine C2.out.mono ?_
  rintro e w2 ⟨g2, rfl, m2, b2, _⟩
  have B2 := A1.out.trans (b2.mono A1.out.size)
  have Z2 := Lib.hid (Z1.out.trans (B2.mono Z1.out.size))
  have M12 := Lib.hid (M1.out.below B2)
  have M2 := Lib.hid m2
  have A2 : Hid (Below w2.heap.size w2 (w2.alloc (.cells #[.int .i64 5, .int .i64 2, .int .i64 1, .int .i64 4, .int .i64 3, .int .i64 0] 3))) := (Below.refl _ _).alloc (Nat.le_refl _) _
  have C3 := Lib.hid (N3.out w2 Z2.out)
  clear m2 b2 B2 C2 N3 A1 Z1 M1
  go_wp2_with fail
  refine C3.out.mono ?_
  rintro e w3 ⟨g3, rfl, m3, b3, _⟩
  have B3 := A2.out.trans (b3.mono A2.out.size)
  have Z3 := Lib.hid (Z2.out.trans (B3.mono Z2.out.size))
  have M13 := Lib.hid (M12.out.below B3)
  have M23 := Lib.hid (M2.out.below B3)
  have M3 := Lib.hid m3
  clear m3 b3 B3 C3 A2 Z2 M12 M2
  go_wp2_with fail
  refine (S1.out w3 g1 M13.out).mono ?_
  rintro e w4 ⟨rfl, z⟩
  have Z4 := Lib.hid (Z3.out.trans (z.mono Z3.out.size))
  have M24 := Lib.hid (M23.out.below z)
  have M34 := Lib.hid (M3.out.below z)
  clear z
  go_wp2_with fail
  refine (S2.out w4 g2 M24.out).mono ?_
  rintro e w5 ⟨rfl, z⟩
  have Z5 := Lib.hid (Z4.out.trans (z.mono Z4.out.size))
  have M35 := Lib.hid (M34.out.below z)
  clear z
  go_wp2_with fail
  refine (S3.out w5 g3 M35.out).mono ?_
  rintro e w6 ⟨rfl, z⟩
  have Z6 := Lib.hid (Z5.out.trans (z.mono Z5.out.size))
  clear z
  go_wp2_with fail
  go_ret
  exact ⟨rfl, Z6.out⟩
end Go.Proofs.Ytoncollcefanjaa
