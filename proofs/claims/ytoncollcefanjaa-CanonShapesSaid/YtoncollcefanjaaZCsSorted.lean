/- The darts sorted by what they look like alone. -/
import Derived.Test.YtoncollcefanjaaZCsMap
import Derived.Test.YtoncollcefanjaaZg15
import Derived.BigRegion
namespace Go.Proofs.Ytoncollcefanjaa
set_option maxRecDepth 100000
open Go.RowKit Go.Maps
set_option linter.unusedVariables false
set_option linter.unusedSimpArgs false
noncomputable def kdL (l : List Nat) (d : Nat) : Nat := (sizes l).getD (nameOf l d) 0
theorem kdL_deg {l b : List Nat} (hi : Inv l b) {lone : Int} (h0 : 0 ≤ lone) {d : Nat} (hd : d < l.length) : degOf l lone ((nameOf l d : Nat) : Int) = ((kdL l d : Nat) : Int) := by
  have := name_lt hi hd
  rw [← sizes_len] at this
  unfold degOf kdL
  rw [if_neg (by omega), if_neg (by omega), Int.toNat_natCast]
theorem kdL_le {l b : List Nat} (hi : Inv l b) {d : Nat} (hd : d < l.length) : kdL l d ≤ l.length := by
  have := name_lt hi hd
  rw [← sizes_len] at this
  unfold kdL sizes at *
  rw [sizesTo_len] at this
  rw [sizesTo_get _ _ _ _ this]
  exact cntN_le _ _ _
theorem sorts_own (w1 : World) (n x : Nat) (o : Obj) (hn : n ≤ maxLen) (h1 : w1.heap.size ≤ x) (h2 : x < w1.heap.size + 3) :
    (((((w1.alloc (.cells (List.replicate n (Value.int .i64 0)).toArray 3)).alloc (.cells (List.replicate n (Value.int .i64 0)).toArray 3)).alloc (.cells (List.replicate n (Value.int .i64 0)).toArray 3)).alloc o).drew).ownsRow 0 3 1 (ivS x n n) n (List.replicate n (Value.int .i64 0)) := by
  have al : ∀ (W : World) (o : Obj), Below W.heap.size W (W.alloc o) := fun W o => (Below.refl _ _).alloc (Nat.le_refl _) _
  have st : ∀ (W : World) (b : Nat), W.ownsRow b 3 1 (ivS x n n) n (List.replicate n (Value.int .i64 0)) → W.ownsRow 0 3 1 (ivS x n n) n (List.replicate n (Value.int .i64 0)) := fun W b h => h.base_le' (Nat.zero_le _)
  rcases (by omega : x = w1.heap.size ∨ x = w1.heap.size + 1 ∨ x = w1.heap.size + 1 + 1) with rfl | rfl | rfl
  · exact own_below (own_below (own_below (own_below (st _ _ (own_made w1 3 n (.int .i64 0) hn)) (al _ _)) (al _ _)) (al _ _)) (below_draws (Below.refl _ _) 1)
  · have := own_made (w1.alloc (.cells (List.replicate n (Value.int .i64 0)).toArray 3)) 3 n (.int .i64 0) hn
    simp only [World.size_alloc] at this
    exact own_below (own_below (own_below (st _ _ this) (al _ _)) (al _ _)) (below_draws (Below.refl _ _) 1)
  · have := own_made ((w1.alloc (.cells (List.replicate n (Value.int .i64 0)).toArray 3)).alloc (.cells (List.replicate n (Value.int .i64 0)).toArray 3)) 3 n (.int .i64 0) hn
    simp only [World.size_alloc] at this
    exact own_below (own_below (st _ _ this) (al _ _)) (below_draws (Below.refl _ _) 1)
theorem sorts_new (w1 : World) (B n x y z : Nat) (hn : n ≤ maxLen) (hB : B ≤ w1.heap.size) (x1 : w1.heap.size ≤ x) (x2 : x < w1.heap.size + 3) (y1 : w1.heap.size ≤ y) (y2 : y < w1.heap.size + 3) (z1 : w1.heap.size ≤ z) (z2 : z < w1.heap.size + 3) (xy : x ≠ y) (xz : x ≠ z) (yz : y ≠ z) :
    RowsR ((((w1.alloc (.cells (List.replicate n (Value.int .i64 0)).toArray 3)).alloc (.cells (List.replicate n (Value.int .i64 0)).toArray 3)).alloc (.cells (List.replicate n (Value.int .i64 0)).toArray 3)).alloc (.cells #[ivS x n n, ivS y n n, ivS z n n, .slice none 0 0, .slice none 0 0, .slice none 0 0] 98)).drew (fun k => B ≤ k) (w1.heap.size + 1 + 1 + 1) 98
      [ivS x n n, ivS y n n, ivS z n n, .slice none 0 0, .slice none 0 0, .slice none 0 0] [irS (List.replicate n 0), irS (List.replicate n 0), irS (List.replicate n 0), irS [], irS [], irS []] := by
  have hI : I64 (ofN (List.replicate n 0)) = List.replicate n (.int .i64 0) := by simp [I64, ofN]
  have ob : ∀ b : Nat, (ivS b n n).ownBlock = some b := fun b => by simp [Value.ownBlock]
  have o0 : (Value.slice none 0 0).ownBlock = none := by simp [Value.ownBlock]
  refine ⟨?_, ?_, ?_, ?_, by show B ≤ _; omega, ?_⟩
  · have := (Blk.new (((w1.alloc (.cells (List.replicate n (Value.int .i64 0)).toArray 3)).alloc (.cells (List.replicate n (Value.int .i64 0)).toArray 3)).alloc (.cells (List.replicate n (Value.int .i64 0)).toArray 3)) 98 #[ivS x n n, ivS y n n, ivS z n n, .slice none 0 0, .slice none 0 0, .slice none 0 0]).drewN 1
    simp only [World.size_alloc] at this
    exact this
  · intro i t xx e
    match i with
    | 0 => simp at e; obtain ⟨rfl, rfl⟩ := e; rw [hI, List.length_replicate]; exact sorts_own w1 n x _ hn x1 x2
    | 1 => simp at e; obtain ⟨rfl, rfl⟩ := e; rw [hI, List.length_replicate]; exact sorts_own w1 n y _ hn y1 y2
    | 2 => simp at e; obtain ⟨rfl, rfl⟩ := e; rw [hI, List.length_replicate]; exact sorts_own w1 n z _ hn z1 z2
    | 3 => simp at e; obtain ⟨rfl, rfl⟩ := e; exact World.ownsRow_nil _ _ _ _
    | 4 => simp at e; obtain ⟨rfl, rfl⟩ := e; exact World.ownsRow_nil _ _ _ _
    | 5 => simp at e; obtain ⟨rfl, rfl⟩ := e; exact World.ownsRow_nil _ _ _ _
    | i + 6 => simp at e
  · intro i j hij _ _ k hk
    have cs : ∀ i k, (([ivS x n n, ivS y n n, ivS z n n, .slice none 0 0, .slice none 0 0, .slice none 0 0] : List Value).getD i (.bool false)).ownBlock = some k → (i = 0 ∧ k = x) ∨ (i = 1 ∧ k = y) ∨ (i = 2 ∧ k = z) := fun i k hk => by
      match i with
      | 0 => simp [Value.ownBlock] at hk; omega
      | 1 => simp [Value.ownBlock] at hk; omega
      | 2 => simp [Value.ownBlock] at hk; omega
      | 3 => simp [Value.ownBlock] at hk
      | 4 => simp [Value.ownBlock] at hk
      | 5 => simp [Value.ownBlock] at hk
      | i + 6 => simp [Value.ownBlock] at hk
    intro hk2
    have a := cs i k hk
    have c := cs j k hk2
    omega
  · intro i _
    match i with
    | 0 => rw [show ([ivS x n n, ivS y n n, ivS z n n, .slice none 0 0, .slice none 0 0, .slice none 0 0] : List Value).getD 0 (.bool false) = ivS x n n from rfl, ob]; simp; omega
    | 1 => rw [show ([ivS x n n, ivS y n n, ivS z n n, .slice none 0 0, .slice none 0 0, .slice none 0 0] : List Value).getD 1 (.bool false) = ivS y n n from rfl, ob]; simp; omega
    | 2 => rw [show ([ivS x n n, ivS y n n, ivS z n n, .slice none 0 0, .slice none 0 0, .slice none 0 0] : List Value).getD 2 (.bool false) = ivS z n n from rfl, ob]; simp; omega
    | 3 => simp [Value.ownBlock]
    | 4 => simp [Value.ownBlock]
    | 5 => simp [Value.ownBlock]
    | i + 6 => simp [Value.ownBlock]
  · intro i k _ hk
    show B ≤ k
    match i with
    | 0 => simp [Value.ownBlock] at hk; omega
    | 1 => simp [Value.ownBlock] at hk; omega
    | 2 => simp [Value.ownBlock] at hk; omega
    | 3 => simp [Value.ownBlock] at hk
    | 4 => simp [Value.ownBlock] at hk
    | 5 => simp [Value.ownBlock] at hk
    | i + 6 => simp [Value.ownBlock] at hk
theorem pown_mod {H : Type} {P : Program} {k : TypeId} {R : Value → Option (DataW H × List MemPlace)} {w w' : World} {b n : Nat} {D : DataW H} {S : Nat → Prop} (h : w.ownsMap P k R b n D) (m : Mod S w w') (hb : ¬ S b) : w'.ownsMap P k R b n D := by
  have hlt := h.lt
  obtain ⟨es, clock, hb', F, hs, hD⟩ := h
  exact ⟨es, clock, (m.block b hlt hb).trans hb', F, hs, hD⟩
/-- A dart's sort is set, and one more counted of it. -/
theorem srt_tail {W : World} {Fr : Nat → Prop} {g n gD gP gO cD cP cO k s z : Nat} {D P O F Z C : List Nat} (h : SrtM W Fr g n gD gP gO cD cP cO D P O F Z C) (hO : O.length = n) (hk : k < n) (hs : s < F.length) (hz : z = Z.getD s 0) :
    ∃ gZ cZ, W.cell? ⟨g, 2, none⟩ = some (ivS gO n cO) ∧ W.cell? ⟨gO, k, none⟩ = some (.int .i64 ((O.getD k 0 : Nat) : Int)) ∧ W.frozen? ⟨gO, k, none⟩ = false ∧
      (W.setCell ⟨gO, k, none⟩ (.int .i64 (s : Int))).cell? ⟨g, 4, none⟩ = some (ivS gZ F.length cZ) ∧ (W.setCell ⟨gO, k, none⟩ (.int .i64 (s : Int))).cell? ⟨gZ, s, none⟩ = some (.int .i64 (z : Int)) ∧ (W.setCell ⟨gO, k, none⟩ (.int .i64 (s : Int))).frozen? ⟨gZ, s, none⟩ = false ∧
      SrtM ((W.setCell ⟨gO, k, none⟩ (.int .i64 (s : Int))).setCell ⟨gZ, s, none⟩ (.int .i64 ((z : Int) + 1))) Fr g n gD gP gO cD cP cO D P (O.set k s) F (Z.set s (z + 1)) C ∧ Mod Fr W ((W.setCell ⟨gO, k, none⟩ (.int .i64 (s : Int))).setCell ⟨gZ, s, none⟩ (.int .i64 ((z : Int) + 1))) := by
  obtain ⟨AF, cF, AZ, cZ, AC, cC, h, hZl, hCl⟩ := h
  obtain ⟨gZ, rfl⟩ := h.somN 4 rfl rfl hZl (by omega)
  have r2 := h.bx.cell 2
  simp at r2
  obtain ⟨c2, f2⟩ := h.cellN 2 rfl rfl hO k hk
  obtain ⟨s1, m1⟩ := h.putN 2 rfl rfl hO k s rfl
  have r4 := s1.bx.cell 4
  simp at r4
  obtain ⟨c4, f4⟩ := s1.cellN 4 rfl rfl hZl s hs
  rw [← hz] at c4
  obtain ⟨s2, m2⟩ := s1.putN 4 rfl rfl hZl s (z + 1) rfl
  have e : (((z + 1 : Nat) : Int)) = (z : Int) + 1 := by omega
  rw [e] at s2 m2
  exact ⟨gZ, cZ, r2, c2, f2, r4, c4, f4, SrtM.of s2 ⟨rfl, by simpa using hZl, hCl⟩, m1.trans m2 fun _ _ q => q⟩
theorem rep0_get (K s : Nat) : (List.replicate K 0).getD s 0 = 0 := by
  rw [List.getD_eq_getElem?_getD, List.getElem?_replicate]
  split <;> rfl
def SortedPost (w : World) (l : List Nat) (e : Ending) (w' : World) : Prop :=
  ∃ g2 gD gP gO cD cP cO D P O F Z C, e = .returned (.pointer (some ⟨g2, 0, none⟩)) ∧ SrtM w' (fun k => w.heap.size ≤ k) g2 l.length gD gP gO cD cP cO D P O F Z C ∧ Srt l.length D P O F Z ∧ Cho l.length P O F Z C (fun _ => False) ∧
    (∀ x y, x < l.length → y < l.length → kdL l x = kdL l y → kdL (phiL l) x = kdL (phiL l) y → O.getD x 0 = O.getD y 0) ∧ Below w.heap.size w w'
set_option maxHeartbeats 8000000 in
theorem csorted_p (g : Nat) (l b : List Nat) (root lone : Int) (w : World) (h : MapAt w g l b root lone) (hi : Inv l b) (h0 : 0 < l.length) :
    Calls Try.prog 63 #[.pointer (some ⟨g, 0, none⟩)] w (SortedPost w l) := by
  have HM : Hid (∀ w', Below w.heap.size w w' → MapAt w' g l b root lone) := fun w' m => h.below m
  have DP := Lib.hid (darts_p g l b root lone w h)
  have hle := h.2.1
  have HHI := Lib.hid hi
  have HEV : Hid (l.length % 2 = 0) := h.1.1
  have HL0 : Hid (0 ≤ lone) := h.1.2.1
  obtain ⟨n, hn⟩ : ∃ n, n = l.length := ⟨_, rfl⟩
  rw [← hn] at DP hle h0 HEV
  have HN := Lib.hid hn
  obtain ⟨i0, hi0, hz0, hz1, hz2⟩ := info_parts info_int
  have hmk := run_make_one (P := Try.prog) 24 3 i0 (.int .i64 0) 8 Try.underlying24 hi0 hz0 hz1 hz2 rfl .i64 .i64 n (by omega) (by omega)
  clear h hn hi
  go_enter Try.func63, Try.ntmps63
  go_wp2_with fail
  refine DP.out.mono ?_
  rintro e w1 ⟨rfl, b1⟩
  have B1 := Lib.hid b1
  clear b1 DP
  go_wp2_with fail
  go_cut [4] from 18 to 26 (fun v wx => ∃ g2 gD gP gO : Nat, v = .pointer (some ⟨g2, 0, none⟩) ∧ Hid (RowsR wx (fun k => w.heap.size ≤ k) g2 98 [ivS gD n n, ivS gP n n, ivS gO n n, .slice none 0 0, .slice none 0 0, .slice none 0 0] [irS (List.replicate n 0), irS (List.replicate n 0), irS (List.replicate n 0), irS [], irS [], irS []]) ∧ Hid (Below w.heap.size w wx))
  case first =>
    go_region
    all_goals (
      go_wp2_with fail
      go_meet
      exact ⟨_, _, _, _, rfl, sorts_new w1 w.heap.size n _ _ _ (by simp only [maxLen]; omega) B1.out.size (by omega) (by omega) (by omega) (by omega) (by omega) (by omega) (by omega) (by omega) (by omega), (((((B1.out.alloc B1.out.size _).alloc (by simp; have := B1.out.size; omega) _).alloc (by simp; have := B1.out.size; omega) _).alloc (by simp; have := B1.out.size; omega) _).drew)⟩)
  case rest =>
    obtain ⟨g2, gD, gP, gO, rfl, R0, B2⟩ := hcut
    clear B1
    have hs2 := B2.out.size
    have FP : Hid (∀ W, Below w.heap.size w W → Calls Try.prog 76 #[.pointer (some ⟨g, 0, none⟩)] W fun e w' => e = .returned (.int .i64 ((sizes (phiL l)).length : Int)) ∧ Below W.heap.size W w') := fun W m => borders_p g l b root lone W (HM.out W m)
    have hnb : (sizes (phiL l)).length ≤ n := by have := sizes_le (phiL l); rw [phiL_len, ← HN.out] at this; exact this
    obtain ⟨nB, hnB⟩ : ∃ x, x = (sizes (phiL l)).length := ⟨_, rfl⟩
    rw [← hnB] at FP hnb
    have HNB := Lib.hid hnB
    have hmkB := run_make_one (P := Try.prog) 24 3 i0 (.int .i64 0) 8 Try.underlying24 hi0 hz0 hz1 hz2 rfl .i64 .i64 nB (by omega) (by omega)
    clear hmk hnB
    have FB := Lib.hid (FP.out wc B2.out)
    have HIP : Hid (Inv (phiL l) (phiB l b)) := phi_inv HHI.out (by rw [← HN.out]; exact HEV.out)
    have FC : Hid (∀ W, Below w.heap.size w W → ∀ k, k < n → Calls Try.prog 61 #[.pointer (some ⟨g, 0, none⟩), .int .i64 (k : Int)] W fun e w' => e = .returned (.int .i64 ((nameOf (phiL l) k : Nat) : Int)) ∧ Below W.heap.size W w') := fun W m k hk => face_in g l b root lone k W (HM.out W m) (by rw [← HN.out]; exact hk)
    have HFL : Hid (∀ k, k < n → nameOf (phiL l) k < nB) := fun k hk => by have := name_lt HIP.out (show k < (phiL l).length by rw [phiL_len, ← HN.out]; exact hk); rw [← sizes_len, ← HNB.out] at this; exact this
    clear FP
    go_wp2_with fail
    refine FB.out.mono ?_
    rintro e w3 ⟨rfl, b3⟩
    have R3 := Lib.hid (R0.out.below b3)
    have B3 := Lib.hid (B2.out.trans (b3.mono B2.out.size))
    clear b3 FB R0 B2 hs2
    have OB : Hid ((w3.alloc (.cells (List.replicate nB (Value.int .i64 0)).toArray 3)).ownsRow w3.heap.size 3 1 (ivS w3.heap.size nB nB) nB (I64 (ofN (sizesTo (phiL l) nB 0)))) := by
      rw [show sizesTo (phiL l) nB 0 = List.replicate nB 0 from degs_zero (phiL l) nB]
      have := own_made w3 3 nB (.int .i64 0) (by simp only [maxLen]; omega)
      have e : I64 (ofN (List.replicate nB 0)) = List.replicate nB (.int .i64 0) := by simp [I64, ofN]
      rw [e]; exact this
    have BB := Lib.hid ((Below.refl w3.heap.size w3).alloc (Nat.le_refl _) (.cells (List.replicate nB (Value.int .i64 0)).toArray 3))
    go_wp2_with fail
    clear hmkB
    go_loopw [30] (fun x wr => ∃ k : Nat, k ≤ n ∧ x = .int .i64 (k : Int) ∧ Hid (wr.ownsRow w3.heap.size 3 1 (ivS w3.heap.size nB nB) nB (I64 (ofN (sizesTo (phiL l) nB k)))) ∧ Hid (Below w3.heap.size w3 wr)) (fun x _ => n - (intOf x).toNat)
    case atStart => exact ⟨0, Nat.zero_le _, rfl, OB, BB⟩
    case round =>
      clear OB BB
      obtain ⟨k, hk, rfl, O1, E1⟩ := hrel
      by_cases hlt : k < n
      · have hdk : decide (k < n) = true := decide_eq_true hlt
        have F1 := Lib.hid (FC.out wr (B3.out.trans (E1.out.mono B3.out.size)) k hlt)
        have hfl := HFL.out k hlt
        obtain ⟨f, hf⟩ : ∃ f, f = nameOf (phiL l) k := ⟨_, rfl⟩
        rw [← hf] at F1 hfl
        have HF := Lib.hid hf
        clear hf
        go_wp2_with (first
          | (go_at_call 61; (refine F1.out.mono ?_); rintro e w4 ⟨rfl, b4⟩; have O2 := Lib.hid (own_below O1.out b4); have E2 := Lib.hid (E1.out.trans (b4.mono E1.out.size)); have co := own_cellI O2.out f hfl; have fo := O2.out.frozenAt f; rw [ofN_get, sizesTo_get _ _ _ _ hfl] at co; have hcl := Nat.le_trans (cntN_le (phiL l) k f) (Nat.le_trans hk hle); clear b4 O1 E1 F1; obtain ⟨c, hc⟩ : ∃ c, c = cntN (phiL l) k f := ⟨_, rfl⟩; rw [← hc] at co hcl; have HC := Lib.hid hc; clear hc))
        have O3 : Hid ((w4.setCell ⟨w3.heap.size, f, none⟩ (.int .i64 ((c : Int) + 1))).ownsRow w3.heap.size 3 1 (ivS w3.heap.size nB nB) nB (I64 (ofN (sizesTo (phiL l) nB (k + 1))))) := by
          have := own_setI O2.out f ((c : Int) + 1)
          rw [ofN_set, HC.out, sizes_set (phiL l) nB k f hfl HF.out.symm, ← HC.out] at this
          exact this
        have E3 := Lib.hid (E2.out.setCell (p := ⟨w3.heap.size, f, none⟩) (Nat.le_refl _) (.int .i64 ((c : Int) + 1)))
        clear O2 E2
        go_roundw
        case rel => exact ⟨k + 1, by omega, by go_num, O3, E3⟩
        case measure => simp [intOf]; omega
      · obtain rfl : n = k := by omega
        have hdk : decide (n < n) = false := by simp
        have HSZ : Hid (sizesTo (phiL l) nB n = sizes (phiL l)) := by
          show _ = _
          rw [HNB.out, HN.out]
          unfold sizes
          rw [sizesTo_len, phiL_len]
        rw [HSZ.out] at O1
        have hs3 := B3.out.size
        have hs4 := E1.out.size
        have SM0 : Hid (SrtM wr (fun q => w.heap.size ≤ q ∧ q < w3.heap.size) g2 n gD gP gO n n n (List.replicate n 0) (List.replicate n 0) (List.replicate n 0) [] [] []) := by
          have := (R3.out.mono (Fr' := fun q => w.heap.size ≤ q ∧ q < w3.heap.size) fun q h1 h2 => ⟨h2, h1⟩).below E1.out
          exact SrtM.of this ⟨rfl, rfl, rfl⟩
        have B4 := Lib.hid (B3.out.trans (E1.out.mono hs3))
        clear R3 B3 E1 HSZ
        have hmm := @run_makeMap Try.prog
        generalize w3.heap.size = gB at *
        have hbM := (Below.refl wr.heap.size wr).alloc (Nat.le_refl _) (.map #[] 0)
        have OB1 : Hid ((wr.alloc (.map #[] 0)).ownsRow gB 3 1 (ivS gB nB nB) nB (I64 (ofN (sizes (phiL l))))) := by
          have := own_below O1.out hbM
          exact this
        have OQ1 : Hid (OwnQ (wr.alloc (.map #[] 0)) wr.heap.size 0 (.map [])) := World.ownsMap_made _ _ _ _
        have SM1 : Hid (SrtM (wr.alloc (.map #[] 0)) (fun q => w.heap.size ≤ q ∧ q ≠ gB ∧ q ≠ wr.heap.size) g2 n gD gP gO n n n (List.replicate n 0) (List.replicate n 0) (List.replicate n 0) (List.replicate ([] : List Nat).length 0) [] (List.replicate ([] : List Nat).length 0)) :=
          (SM0.out.mono fun q _ h2 => ⟨h2.1, by omega, by omega⟩).below hbM
        have B5 := Lib.hid (B4.out.trans (hbM.mono B4.out.size))
        have HS5 : Hid (gB < (wr.alloc (.map #[] 0)).heap.size ∧ wr.heap.size < (wr.alloc (.map #[] 0)).heap.size) := by
          show _ ∧ _
          simp; omega
        have SO1 : Hid (So2 n 0 (kdL l) (kdL (phiL l)) (List.replicate n 0) []) := ⟨by simp, fun x hx => absurd hx (by omega), fun x y hx => absurd hx (by omega), fun s hs => absurd hs (by simp)⟩
        have LM1 : Hid (LMk (.map []) (kdL l) (kdL (phiL l)) (List.replicate n 0) 0) := LMk.zero _ _ _
        have VP : Hid (∀ W, Below w.heap.size w W → ∀ k, k < n → Calls Try.prog 60 #[.pointer (some ⟨g, 0, none⟩), .int .i64 (k : Int)] W fun e w' => e = .returned (.int .i64 ((nameOf l k : Nat) : Int)) ∧ Below W.heap.size W w') := fun W m k hk => vertex_in g l b root lone k W (HM.out W m) (by rw [← HN.out]; exact hk)
        have DG : Hid (∀ W, Below w.heap.size w W → ∀ k, k < n → Calls Try.prog 77 #[.pointer (some ⟨g, 0, none⟩), .int .i64 ((nameOf l k : Nat) : Int)] W fun e w' => e = .returned (.int .i64 ((kdL l k : Nat) : Int)) ∧ Below W.heap.size W w') := fun W m k hk => by
          have := degree_p g l b root lone ((nameOf l k : Nat) : Int) W (HM.out W m)
          rwa [kdL_deg HHI.out HL0.out (by rw [← HN.out]; exact hk)] at this
        have HKD : Hid (∀ k, k < n → kdL l k ≤ 1000000 ∧ kdL (phiL l) k ≤ 1000000) := fun k hk => by
          have h1 := kdL_le HHI.out (show k < l.length by rw [← HN.out]; exact hk)
          have h2 := kdL_le HIP.out (show k < (phiL l).length by rw [phiL_len, ← HN.out]; exact hk)
          rw [phiL_len] at h2
          rw [← HN.out] at h1 h2
          omega
        have HBM : Hid (gB < wr.heap.size) := (own_block O1.out).2
        have HWM : Hid (w.heap.size ≤ wr.heap.size) := B4.out.size
        clear hbM O1 SM0 B4 hs3 hs4
        go_wp2_with fail
        clear hmm
        generalize wr.alloc (.map #[] 0) = v0 at *
        generalize wr.heap.size = gM at *
        go_loopw [44] (fun x wr => ∃ (k : Nat) (O Z : List Nat) (M : DataW Unit), k ≤ n ∧ x = .int .i64 (k : Int) ∧ Hid (So2 n k (kdL l) (kdL (phiL l)) O Z) ∧ Hid (LMk M (kdL l) (kdL (phiL l)) O k) ∧ Hid (SrtM wr (fun q => w.heap.size ≤ q ∧ q ≠ gB ∧ q ≠ gM) g2 n gD gP gO n n n (List.replicate n 0) (List.replicate n 0) O (List.replicate Z.length 0) Z (List.replicate Z.length 0)) ∧
          Hid (wr.ownsRow gB 3 1 (ivS gB nB nB) nB (I64 (ofN (sizes (phiL l))))) ∧ Hid (OwnQ wr gM k M) ∧ Hid (Below w.heap.size w wr) ∧ Hid (gB < wr.heap.size ∧ gM < wr.heap.size)) (fun x _ => n - (intOf x).toNat)
        case atStart => exact ⟨0, _, _, _, Nat.zero_le _, rfl, SO1, LM1, SM1, OB1, OQ1, B5, HS5⟩
        case round =>
          clear OB1 OQ1 SM1 B5 HS5 SO1 LM1
          obtain ⟨k, O, Z, M, hk, rfl, SO, LM, SM, OB, OQ, B6, HS6⟩ := hrel
          by_cases hlt : k < n
          · have hdk : decide (k < n) = true := decide_eq_true hlt
            have Z0 := Below.refl wr.heap.size wr
            have BW : Hid (∀ W, Below wr.heap.size wr W → Below w.heap.size w W) := fun W m => B6.out.trans (m.mono B6.out.size)
            have V1 : Hid (∀ W, Below wr.heap.size wr W → _) := fun W m => VP.out W (BW.out W m) k hlt
            have D1 : Hid (∀ W, Below wr.heap.size wr W → _) := fun W m => DG.out W (BW.out W m) k hlt
            have F1 : Hid (∀ W, Below wr.heap.size wr W → _) := fun W m => FC.out W (BW.out W m) k hlt
            have hfl := HFL.out k hlt
            have hkd := HKD.out k hlt
            have cB := own_cellI OB.out (nameOf (phiL l) k) hfl
            have CB : Hid (∀ W, Below wr.heap.size wr W → W.cell? ⟨gB, nameOf (phiL l) k, none⟩ = some (.int .i64 ((kdL (phiL l) k : Nat) : Int))) := fun W m => by
              rw [m.cell (p := ⟨gB, nameOf (phiL l) k, none⟩) HS6.out.1, cB, ofN_get]; rfl
            clear cB
            obtain ⟨a, ha⟩ : ∃ a, a = kdL l k := ⟨_, rfl⟩
            obtain ⟨c, hc⟩ : ∃ c, c = kdL (phiL l) k := ⟨_, rfl⟩
            obtain ⟨f, hf⟩ : ∃ f, f = nameOf (phiL l) k := ⟨_, rfl⟩
            obtain ⟨v, hv⟩ : ∃ v, v = nameOf l k := ⟨_, rfl⟩
            rw [← hv] at V1 D1
            rw [← ha] at D1 hkd
            rw [← hf] at F1 hfl CB
            rw [← hc] at CB hkd
            have HAC := Lib.hid (And.intro ha hc)
            clear ha hc hf hv
            have hac := HAC.out
            have hzk : Z.length ≤ k := by
              rcases Nat.lt_or_ge k Z.length with q | q
              · have fw := SO.out.few
                have inj : ∀ i j, i < Z.length → j < Z.length → rt (fun x y => False) i = rt (fun x y => False) j → True := fun _ _ _ _ _ => trivial
                have : ∀ s, s < Z.length → 0 < ofS O s k := fun s hs => by have := SO.out.cz s hs; omega
                have hsum : ∀ s, s ≤ Z.length → s ≤ ahS O s k := fun s => by
                  induction s with
                  | zero => intro _; omega
                  | succ s ih => intro hs; rw [ahS_next]; have := ih (by omega); have := this; have h3 := SO.out.cz s (by omega); omega
                have := hsum Z.length (Nat.le_refl _)
                have := ahS_le O Z.length k
                omega
              · exact q
            by_cases hold : ∃ x, x < k ∧ kdL l x = a ∧ kdL (phiL l) x = c
            · obtain ⟨x, hx, hx1, hx2⟩ := hold
              obtain ⟨s, hs⟩ : ∃ s, s = O.getD x 0 := ⟨_, rfl⟩
              have hsz : s < Z.length := by rw [hs]; exact SO.out.lt x hx
              obtain ⟨zs, hzs⟩ : ∃ zs, zs = Z.getD s 0 := ⟨_, rfl⟩
              have HZS := Lib.hid hzs
              have SO2 : Hid (So2 n (k + 1) (kdL l) (kdL (phiL l)) (O.set k s) (Z.set s (zs + 1))) := by rw [hzs, hs]; exact SO.out.old hlt hx (hx1.trans hac.1) (hx2.trans hac.2)
              have LM2 : Hid (LMk M (kdL l) (kdL (phiL l)) (O.set k s) (k + 1)) := by rw [hs]; exact LM.out.old hx (hx1.trans hac.1) (hx2.trans hac.2) (by rw [SO.out.ol]; exact hlt)
              have LK : Hid (∀ W, OwnQ W gM k M → (Instr.lookup 114 (.map (some gM)) (.agg #[.int .i64 (a : Int), .int .i64 (c : Int)]) true).run Try.prog W = .ok (.tuple #[.int .i64 (s : Int), .bool true]) W) := fun W O1 => by
                have q := LM.out.yes x hx
                rw [hx1, hx2, ← hs] at q
                exact look_q O1 hkd.1 hkd.2 q.1 q.2
              have HOL : Hid (O.length = n) := SO.out.ol
              have hzle : zs ≤ 131072 := by have := (SO.out.cz s hsz).1; have := num_le (fun x => O.getD x 0 = s) k; unfold ofS at *; omega
              clear hx hx1 hx2 hs hac SO LM HAC hzs
              go_wp2_with (first
                | (go_at_call 60; (refine (V1.out _ Z0).mono ?_); rintro e w5 ⟨rfl, z⟩; have Z5 := Z0.trans (z.mono Z0.size); clear z)
                | (go_at_call 77; (refine (D1.out _ Z5).mono ?_); rintro e w6 ⟨rfl, z⟩; have Z6 := Z5.trans (z.mono Z5.size); clear z)
                | (go_at_call 61; (refine (F1.out _ Z6).mono ?_); rintro e w7 ⟨rfl, z⟩; have Z7 := Z6.trans (z.mono Z6.size); have cb := CB.out _ Z7; clear z;
                   have Z8 : Hid (Below wr.heap.size wr (w7.alloc (.cells #[.int .i64 (a : Int), .int .i64 (c : Int)] 116))) := Z7.alloc Z7.size _;
                   have lk := LK.out _ (pown_below OQ.out Z8.out);
                   have SM8 := Lib.hid (SM.out.below Z8.out);
                   obtain ⟨gZ, cZ, u1, u2, u3, u4, u5, u6', u7, u8⟩ := srt_tail SM8.out HOL.out hlt (by rw [List.length_replicate]; exact hsz) HZS.out;
                   have U7 := Lib.hid u7; have U8 := Lib.hid u8; clear u7 u8; rw [List.length_replicate] at u4))
              have HZ8 := Z8.out.size
              have OB8 := Lib.hid (own_mod (own_below OB.out Z8.out) U8.out fun q hq e => e.2.1 (by simp [Value.ownBlock] at hq; exact hq.symm))
              have OQ8 := Lib.hid (World.ownsMap.mono (pown_mod (pown_below OQ.out Z8.out) U8.out fun e => e.2.2 rfl) (Nat.le_succ k))
              have B8 := Lib.hid ((BW.out _ Z8.out).trans (U8.out.belowB (by have := B6.out.size; omega) fun i hi e => by have := e.1; omega))
              have HS8 : Hid (gB < _ ∧ gM < _) := ⟨Nat.lt_of_lt_of_le HS6.out.1 (Nat.le_trans HZ8 U8.out.size), Nat.lt_of_lt_of_le HS6.out.2 (Nat.le_trans HZ8 U8.out.size)⟩
              go_roundw
              case rel => exact ⟨k + 1, O.set k s, Z.set s (zs + 1), M, by omega, by go_num, SO2, LM2, by rw [List.length_set]; exact U7, OB8, OQ8, B8, HS8⟩
              case measure => simp [intOf]; omega
            · have hne : ∀ x, x < k → ¬ (kdL l x = kdL l k ∧ kdL (phiL l) x = kdL (phiL l) k) := fun x hx q => hold ⟨x, hx, by rw [q.1, hac.1], by rw [q.2, hac.2]⟩
              obtain ⟨s, hs⟩ : ∃ s, s = Z.length := ⟨_, rfl⟩
              have SO2 : Hid (So2 n (k + 1) (kdL l) (kdL (phiL l)) (O.set k s) ((Z ++ [0]).set s (0 + 1))) := by rw [hs]; exact SO.out.new hlt hne
              have LM2 : Hid (LMk (M.put (kQ a c) (.lit (.int .i64 (s : Int)))) (kdL l) (kdL (phiL l)) (O.set k s) (k + 1)) := by
                rw [hac.1, hac.2]
                exact LM.out.new (fun x hx => (HKD.out x (by omega)).1) (fun x hx => (HKD.out x (by omega)).2) (by rw [SO.out.ol]; exact hlt) hne s
              have LK : Hid (∀ W, OwnQ W gM k M → (Instr.lookup 114 (.map (some gM)) (.agg #[.int .i64 (a : Int), .int .i64 (c : Int)]) true).run Try.prog W = .ok (.tuple #[.int .i64 0, .bool false]) W) := fun W O1 => by
                have q := LM.out.no a c hkd.1 hkd.2 fun x hx q => hold ⟨x, hx, q⟩
                exact look_q (v := 0) O1 hkd.1 hkd.2 q.1 q.2
              have HOL : Hid (O.length = n) := SO.out.ol
              have HSK : Hid (s = Z.length) := hs
              have hsk : s ≤ 131072 := by omega
              have hsl : (s : Int) < ((s + 1 : Nat) : Int) := by omega
              clear hac SO LM HAC hold hne hs
              go_wp2_with (first
                | (go_at_call 60; (refine (V1.out _ Z0).mono ?_); rintro e w5 ⟨rfl, z⟩; have Z5 := Z0.trans (z.mono Z0.size); clear z)
                | (go_at_call 77; (refine (D1.out _ Z5).mono ?_); rintro e w6 ⟨rfl, z⟩; have Z6 := Z5.trans (z.mono Z5.size); clear z)
                | (go_at_call 61; (refine (F1.out _ Z6).mono ?_); rintro e w7 ⟨rfl, z⟩; have Z7 := Z6.trans (z.mono Z6.size); have cb := CB.out _ Z7; clear z;
                   have Z8 : Hid (Below wr.heap.size wr (w7.alloc (.cells #[.int .i64 (a : Int), .int .i64 (c : Int)] 116))) := Z7.alloc Z7.size _;
                   have lk := LK.out _ (pown_below OQ.out Z8.out);
                   have hgx : w7.heap.size < (w7.alloc (.cells #[.int .i64 (a : Int), .int .i64 (c : Int)] 116)).heap.size := by simp;
                   have HGX := Lib.hid hgx;
                   have hwz : w.heap.size ≤ w7.heap.size := (BW.out _ Z7).size;
                   have bx8 := Blk.new w7 116 #[.int .i64 (a : Int), .int .i64 (c : Int)];
                   have OQ8 := Lib.hid (pown_below OQ.out Z8.out);
                   have OB8 := Lib.hid (own_below OB.out Z8.out);
                   have HSX : Hid (gB < w7.heap.size ∧ gM < w7.heap.size) := ⟨Nat.lt_of_lt_of_le HS6.out.1 Z7.size, Nat.lt_of_lt_of_le HS6.out.2 Z7.size⟩;
                   have SM8 := Lib.hid (((SM.out.below Z7).mono (Fr' := fun q => (w.heap.size ≤ q ∧ q ≠ gB ∧ q ≠ gM) ∧ q ≠ w7.heap.size) fun q h1 h2 => ⟨h2, by omega⟩).below (show Below w7.heap.size w7 _ from (Below.refl _ _).alloc (Nat.le_refl _) (.cells #[.int .i64 (a : Int), .int .i64 (c : Int)] 116)));
                   have BX8 := Lib.hid bx8;
                   have ADD : Hid (Calls Try.prog 78 #[.pointer (some ⟨g2, 0, none⟩), .int .i64 0, .int .i64 0] (w7.alloc (.cells #[.int .i64 (a : Int), .int .i64 (c : Int)] 116)) _) := (csadd_p _ g2 n gD gP gO n n n _ _ O _ Z _ 0 0 _ SM8.out (fun q hq => ⟨⟨by omega, by have := HSX.out; omega, by have := HSX.out; omega⟩, by omega⟩) (by rw [List.length_replicate, ← HSK.out]; omega));
                   clear bx8 hgx hwz)
                | (go_at_call 78; (refine ADD.out.mono ?_); rintro e w9 ⟨rfl, sm9, m9⟩;
                   have eK : (List.replicate Z.length 0 : List Nat).length = s := (by rw [List.length_replicate]; exact HSK.out.symm);
                   rw [eK];
                   have eR : (List.replicate Z.length 0 ++ [0] : List Nat) = List.replicate (s + 1) 0 := (by rw [HSK.out, List.replicate_succ']);
                   rw [eR] at sm9;
                   have bx9 := BX8.out.mod m9 (fun q => q.2 rfl);
                   have q0 := bx9.cell 0; have q1 := bx9.cell 1; simp at q0 q1;
                   have OQ9 := pown_mod OQ8.out m9 (fun q => q.1.2.2 rfl);
                   obtain ⟨w10, hup, OQ10, hg10⟩ := put_q OQ9 (by omega) a c hkd.1 hkd.2 s (by omega);
                   have M10 := Lib.hid (Mod.ofGrown hg10);
                   have SM10 := sm9.mod M10.out (fun q hq e => e.1.2.2 (Option.some.inj hq));
                   obtain ⟨gZ, cZ, u1, u2, u3, u4, u5, u6', u7, u8⟩ := srt_tail (z := 0) SM10 HOL.out hlt (by rw [List.length_replicate]; exact Nat.lt_succ_self s) (by rw [HSK.out, getD_snoc, if_pos rfl]);
                   have U7 := Lib.hid u7; have U8 := Lib.hid u8; have M9 := Lib.hid m9; have OQX := Lib.hid OQ10; clear u7 u8 m9 sm9 SM10 OQ9 OQ10 bx9 hg10 eK eR; rw [List.length_replicate] at u4))
              have HZ8 := Z8.out.size
              have HM9 := M9.out.size
              have HM10 := M10.out.size
              have HBM' := HBM.out
              have OB11 := Lib.hid (own_mod (own_mod (own_mod OB8.out M9.out fun q hq e => e.1.2.1 (by simp [Value.ownBlock] at hq; exact hq.symm)) M10.out fun q hq e => by have := Option.some.inj e; simp [Value.ownBlock] at hq; omega) U8.out fun q hq e => e.1.2.1 (by simp [Value.ownBlock] at hq; exact hq.symm))
              have OQ11 := Lib.hid (pown_mod OQX.out U8.out fun e => e.1.2.2 rfl)
              have B8 := BW.out _ Z8.out
              have B11 := Lib.hid (((B8.trans (M9.out.belowB B8.size fun i hi e => by have := e.1.1; omega)).trans (M10.out.belowB (by have := B8.size; omega) fun i hi e => by have := Option.some.inj e; have := HWM.out; omega)).trans (U8.out.belowB (by have := B8.size; omega) fun i hi e => by have := e.1.1; omega))
              have HS11 : Hid (gB < _ ∧ gM < _) := ⟨Nat.lt_of_lt_of_le HS6.out.1 (Nat.le_trans HZ8 (Nat.le_trans HM9 (Nat.le_trans HM10 U8.out.size))), Nat.lt_of_lt_of_le HS6.out.2 (Nat.le_trans HZ8 (Nat.le_trans HM9 (Nat.le_trans HM10 U8.out.size)))⟩
              have e11 : ((Z ++ [0]).set s (0 + 1)).length = s + 1 := by rw [List.length_set, List.length_append, HSK.out]; rfl
              have U9 := Lib.hid (U7.out.mono (Fr' := fun q => w.heap.size ≤ q ∧ q ≠ gB ∧ q ≠ gM) fun q _ h => h.1)
              go_roundw
              case rel => exact ⟨k + 1, O.set k s, (Z ++ [0]).set s (0 + 1), _, by omega, by go_num, SO2, LM2, by rw [e11]; exact U9, OB11, OQ11, B11, HS11⟩
              case measure => simp [intOf]; omega
          · obtain rfl : n = k := by omega
            have hdk : decide (n < n) = false := by simp
            obtain ⟨K, hK⟩ : ∃ K, K = Z.length := ⟨_, rfl⟩
            have hK1 : 1 ≤ K := by have := SO.out.lt 0 h0; omega
            have hsumK : K ≤ n := by
              have hsum : ∀ s, s ≤ Z.length → s ≤ ahS O s n := fun s => by
                induction s with
                | zero => intro _; omega
                | succ s ih => intro hs; rw [ahS_next]; have := ih (by omega); have h3 := SO.out.cz s (by omega); omega
              have := hsum Z.length (Nat.le_refl _)
              have := ahS_le O Z.length n
              omega
            obtain ⟨AF, cF, AZ, cZ, AC, cC, R, q1, q2⟩ := SM.out
            have hFl : (List.replicate Z.length 0 : List Nat).length = K := by rw [List.length_replicate, hK]
            rw [hFl] at R
            rw [← hK] at R
            obtain ⟨gF, rfl⟩ := R.somN 3 rfl rfl (by simp) (by omega)
            obtain ⟨gZ, rfl⟩ := R.somN 4 rfl rfl hK.symm (by omega)
            have R3 := Lib.hid (R.mono (Fr' := fun q => w.heap.size ≤ q) fun q _ h => h.1)
            have HK := Lib.hid hK
            have HO := Lib.hid SO.out
            have HZN : Hid (∀ s, s < K → Z.getD s 0 ≤ 131072 ∧ ahS O s n ≤ 131072) := fun s hs => by
              have := (SO.out.cz s (by omega)).1
              have := num_le (fun x => O.getD x 0 = s) n
              have := ahS_le O s n
              unfold ofS at *
              omega
            clear hK SO LM SM OB OQ HS6 VP DG FC HFL HKD HBM HWM HM
            have S3 : Hid ((List.replicate K 0).length = K ∧ ∀ s, s < 0 + 1 → (List.replicate K 0).getD s 0 = ahS O s n) := ⟨by simp, fun s hs => by
              obtain rfl : s = 0 := by omega
              rw [ahS_zero, rep0_get]⟩
            clear R q1 q2 hFl
            go_wp2_with fail
            go_loopw [12] (fun x wr => ∃ (i : Nat) (F : List Nat), i < K ∧ x = .int .i64 ((i : Int) + 1) ∧ Hid (F.length = K ∧ ∀ s, s < i + 1 → F.getD s 0 = ahS O s n) ∧ Hid (RowsR wr (fun q => w.heap.size ≤ q) g2 98 [ivS gD n n, ivS gP n n, ivS gO n n, ivS gF K cF, ivS gZ K cZ, .slice AC K cC] [irS (List.replicate n 0), irS (List.replicate n 0), irS O, irS F, irS Z, irS (List.replicate K 0)]) ∧ Hid (Below w.heap.size w wr)) (fun x _ => K - (intOf x).toNat)
            case atStart => exact ⟨0, _, by omega, rfl, S3, R3, B6⟩
            case round =>
              clear S3 R3 B6
              obtain ⟨i, F, hi, rfl, SF, R, B7⟩ := hrel
              have r3 := R.out.bx.cell 3
              have r4 := R.out.bx.cell 4
              simp at r3 r4
              by_cases hlt : i + 1 < K
              · have hdk : decide ((i : Int) + 1 < (K : Int)) = true := decide_eq_true (by omega)
                obtain ⟨c3, _⟩ := R.out.cellN 3 rfl rfl SF.out.1 i (by omega)
                obtain ⟨c4, _⟩ := R.out.cellN 4 rfl rfl HK.out.symm i (by omega)
                obtain ⟨c5, f5⟩ := R.out.cellN 3 rfl rfl SF.out.1 (i + 1) hlt
                rw [SF.out.2 i (by omega)] at c3
                obtain ⟨z1, z2⟩ := HZN.out i (by omega)
                obtain ⟨ai, hai⟩ : ∃ a, a = ahS O i n := ⟨_, rfl⟩
                obtain ⟨zi, hzi⟩ : ∃ a, a = Z.getD i 0 := ⟨_, rfl⟩
                rw [← hai] at c3 z2
                rw [← hzi] at c4 z1
                have HNX : Hid (ahS O (i + 1) n = ai + zi) := by show _ = _; rw [ahS_next, hai, hzi, (HO.out.cz i (by rw [← HK.out]; omega)).1]
                obtain ⟨s2, m2⟩ := R.out.putN 3 rfl rfl SF.out.1 (i + 1) (ai + zi) rfl
                have e2 : (((ai + zi : Nat) : Int)) = (ai : Int) + (zi : Int) := by omega
                have B8 := Lib.hid ((B7.out.trans (m2.belowB B7.out.size fun j hj e => by omega)).drew)
                have T2 := Lib.hid (s2.drewN 1)
                rw [e2] at T2 B8
                have SF2 : Hid ((F.set (i + 1) (ai + zi)).length = K ∧ ∀ s, s < i + 1 + 1 → (F.set (i + 1) (ai + zi)).getD s 0 = ahS O s n) := ⟨by rw [List.length_set]; exact SF.out.1, fun s hs => by
                  rw [getDN_set _ _ _ _ (by rw [SF.out.1]; exact hlt)]
                  by_cases e : s = i + 1
                  · rw [if_pos e, e, HNX.out]
                  · rw [if_neg e]; exact SF.out.2 s (by omega)⟩
                have wi : IntKind.i64.wrap ((i : Int) + 1) = (i : Int) + 1 := by simp [IntKind.wrap, IntKind.signed, IntKind.bits]; omega
                have hi1 : (i : Int) + 1 < (K : Int) := by omega
                have hi2 : ((i : Int) + 1).toNat = i + 1 := by omega
                have hi3 : (i : Int) < (K : Int) := by omega
                clear SF R B7 s2 m2 hai hzi HNX e2
                go_wp2_with fail
                go_region
                all_goals (go_wp2_with fail)
                all_goals go_roundw
                case rel => exact ⟨i + 1, F.set (i + 1) (ai + zi), hlt, by simp, SF2, T2, B8⟩
                case measure => simp [intOf]; omega
              · have hiK : i + 1 = K := by omega
                have hdk : decide ((i : Int) + 1 < (K : Int)) = false := decide_eq_false (by omega)
                have HF : Hid (F.length = K ∧ ∀ s, s < K → F.getD s 0 = ahS O s n) := ⟨SF.out.1, fun s hs => SF.out.2 s (by omega)⟩
                have hfl2 : (ofN F).length = K := by rw [ofN_len]; exact SF.out.1
                have CL := Lib.hid (cloneI_any (some ⟨gF, 0, none⟩) K cF _ (ofN F) wr (R.out.rd 3 rfl rfl (by rw [lenR]; exact SF.out.1)) (by omega))
                clear SF hiK
                go_wp2_with fail
                refine CL.out.mono ?_
                rintro e w5 ⟨A5, c5, rfl, h51, h52, o5, b5⟩
                rw [hfl2] at h51 o5 ⊢
                obtain ⟨gX, rfl, hgx1, hgx2⟩ := own_some o5 (by omega)
                have R5 := Lib.hid ((R.out.mono (Fr' := fun q => w.heap.size ≤ q ∧ q ≠ gX) fun q h1 h2 => ⟨h2, by omega⟩).below b5)
                have B8 := Lib.hid (B7.out.trans (b5.mono B7.out.size))
                have HGX2 : Hid (w.heap.size ≤ gX) := by have := B7.out.size; show _ ≤ _; omega
                have O5 := Lib.hid (o5.base_le' (Nat.zero_le wr.heap.size))
                have S4 : Hid ((List.replicate n 0 : List Nat).length = n ∧ (List.replicate n 0 : List Nat).length = n ∧ F.length = K ∧ (∀ x, x < 0 → (List.replicate n 0).getD x 0 = plS O n x) ∧ (∀ x, x < 0 → (List.replicate n 0).getD (plS O n x) 0 = x) ∧ (∀ s, s < K → F.getD s 0 = ahS O s n + ofS O s 0)) := ⟨by simp, by simp, HF.out.1, fun x hx => absurd hx (by omega), fun x hx => absurd hx (by omega), fun s hs => by rw [HF.out.2 s hs]; rfl⟩
                have r2 := R5.out.bx.cell 2
                simp at r2
                clear CL R B7 o5 b5 h51 h52 hgx1 hgx2 hfl2 r3 r4
                go_wp2_with fail
                go_loopw [131] (fun x wr => ∃ (k : Nat) (D P nx : List Nat), k ≤ n ∧ x = .int .i64 (k : Int) ∧ Hid (D.length = n ∧ P.length = n ∧ nx.length = K ∧ (∀ x, x < k → P.getD x 0 = plS O n x) ∧ (∀ x, x < k → D.getD (plS O n x) 0 = x) ∧ (∀ s, s < K → nx.getD s 0 = ahS O s n + ofS O s k)) ∧
                  Hid (RowsR wr (fun q => w.heap.size ≤ q ∧ q ≠ gX) g2 98 [ivS gD n n, ivS gP n n, ivS gO n n, ivS gF K cF, ivS gZ K cZ, .slice AC K cC] [irS D, irS P, irS O, irS F, irS Z, irS (List.replicate K 0)]) ∧ Hid (wr.ownsRow 0 3 1 (ivS gX K c5) K (I64 (ofN nx))) ∧ Hid (Below w.heap.size w wr)) (fun x _ => n - (intOf x).toNat)
                case atStart => exact ⟨0, _, _, F, Nat.zero_le _, rfl, S4, R5, O5, B8⟩
                case round =>
                  clear S4 R5 O5 B8
                  obtain ⟨k, D, P, nx, hk, rfl, S4, R, ON, B7⟩ := hrel
                  by_cases hlt : k < n
                  · have hdk2 : decide (k < n) = true := decide_eq_true hlt
                    obtain ⟨c2, _⟩ := R.out.cellN 2 rfl rfl HO.out.ol k hlt
                    obtain ⟨s, hs⟩ : ∃ s, s = O.getD k 0 := ⟨_, rfl⟩
                    rw [← hs] at c2
                    have hsK : s < K := by rw [hs, HK.out]; exact HO.out.lt k hlt
                    obtain ⟨p, hp⟩ : ∃ p, p = plS O n k := ⟨_, rfl⟩
                    have hpn : p < n := by rw [hp]; exact plS_lt O hlt
                    have hnp : nx.getD s 0 = p := by rw [S4.out.2.2.2.2.2 s hsK, hp, hs]; rfl
                    have cn := own_cellI ON.out s hsK
                    rw [ofN_get, hnp] at cn
                    have PUT := Lib.hid (csput_p _ g2 n gD gP n n _ _ _ _ D P _ _ _ _ k p wr R.out S4.out.1 S4.out.2.1 hpn hlt (by omega))
                    have S5 : Hid ((D.set p k).length = n ∧ (P.set k p).length = n ∧ (nx.set s (p + 1)).length = K ∧ (∀ x, x < k + 1 → (P.set k p).getD x 0 = plS O n x) ∧ (∀ x, x < k + 1 → (D.set p k).getD (plS O n x) 0 = x) ∧ (∀ s', s' < K → (nx.set s (p + 1)).getD s' 0 = ahS O s' n + ofS O s' (k + 1))) := by
                      refine ⟨by simpa using S4.out.1, by simpa using S4.out.2.1, by simpa using S4.out.2.2.1, fun x hx => ?_, ?_, fun s' hs' => ?_⟩
                      · rw [getDN_set _ _ _ _ (by rw [S4.out.2.1]; exact hlt)]
                        by_cases e : x = k
                        · rw [if_pos e, e, hp]
                        · rw [if_neg e]; exact S4.out.2.2.2.1 x (by omega)
                      · rw [hp]; exact plS_put S4.out.1 hlt S4.out.2.2.2.2.1
                      · rw [getDN_set _ _ _ _ (by rw [S4.out.2.2.1]; exact hsK)]
                        by_cases e : s' = s
                        · rw [if_pos e, e, (ofS_next O s k).1 hs.symm]
                          have := S4.out.2.2.2.2.2 s hsK
                          omega
                        · rw [if_neg e, (ofS_next O s' k).2 (by rw [← hs]; exact fun c => e c.symm)]
                          exact S4.out.2.2.2.2.2 s' hs'
                    have hsi : (s : Int) < (K : Int) := by omega
                    have wp : IntKind.i64.wrap ((p : Int) + 1) = (p : Int) + 1 := by simp [IntKind.wrap, IntKind.signed, IntKind.bits]; omega
                    clear hs hp hnp S4 R
                    go_wp2_with fail
                    refine PUT.out.mono ?_
                    rintro e w6 ⟨rfl, r6, m6⟩
                    have R6 := Lib.hid r6
                    have ON6 := Lib.hid (own_mod ON.out m6 fun q hq e => e.2 (by simp [Value.ownBlock] at hq; exact hq.symm))
                    have B9 := Lib.hid (B7.out.trans (m6.belowB B7.out.size fun j hj e => by have := e.1; omega))
                    have cn6 := own_cellI ON6.out s hsK
                    have fn6 := ON6.out.frozenAt s
                    have cn7 : w6.cell? ⟨gX, s, none⟩ = some (.int .i64 (p : Int)) := by rw [m6.cell (by have := (own_block ON.out).2; exact this) (fun e => e.2 rfl)]; exact cn
                    have MX : Mod (fun q => q = gX) w6 (w6.setCell ⟨gX, s, none⟩ (.int .i64 ((p : Int) + 1))) := Mod.setCell (p := ⟨gX, s, none⟩) (Mod.refl (fun q => q = gX) w6) (fun _ => rfl) _
                    have R7 := Lib.hid (r6.mod MX fun q hq e => e.2 hq)
                    have ON7 : Hid ((w6.setCell ⟨gX, s, none⟩ (.int .i64 ((p : Int) + 1))).ownsRow 0 3 1 (ivS gX K c5) K (I64 (ofN (nx.set s (p + 1))))) := by
                      have := own_setI ON6.out s ((p : Int) + 1)
                      rw [ofN_set] at this
                      exact this
                    have B10 := Lib.hid (B9.out.setCell (p := ⟨gX, s, none⟩) (show w.heap.size ≤ gX from HGX2.out) (.int .i64 ((p : Int) + 1)))
                    clear r6 m6 R6 ON6 B9 cn6 cn MX PUT ON B7
                    go_wp2_with fail
                    go_roundw
                    case rel => exact ⟨k + 1, D.set p k, P.set k p, nx.set s (p + 1), by omega, by go_num, S5, R7, ON7, B10⟩
                    case measure => simp [intOf]; omega
                  · obtain rfl : n = k := by omega
                    have hdk2 : decide (n < n) = false := by simp
                    have FIN : Hid (SortedPost w l (.returned (.pointer (some ⟨g2, 0, none⟩))) wr) := by
                      have SR : Srt n D P O F Z := Srt.start (K := K) S4.out.1 S4.out.2.1 HO.out.ol HF.out.1 HK.out.symm (fun d hd => by rw [HK.out]; exact HO.out.lt d hd) (fun s hs => by have := HO.out.cz s (by rw [← HK.out]; exact hs); exact this) HF.out.2 S4.out.2.2.2.1 S4.out.2.2.2.2.1
                      have CH : Cho n P O F Z (List.replicate K 0) (fun _ => False) := ⟨by rw [List.length_replicate, HF.out.1], fun s hs => by rw [rep0_get]; exact Nat.zero_le _, fun d hd => by
                        rw [rep0_get]
                        have := (SR.at_ hd (SR.olt d hd)).1 rfl
                        exact ⟨fun c => by omega, fun c => c.elim⟩⟩
                      unfold SortedPost
                      rw [← HN.out]
                      exact ⟨g2, gD, gP, gO, n, n, n, D, P, O, F, Z, _, rfl, SrtM.of (k := K) (R.out.mono fun q _ h => h.1) ⟨HF.out.1.symm, HK.out.symm, by simp⟩, SR, CH, fun x y hx hy e1 e2 => (HO.out.eq x y hx hy).1 ⟨e1, e2⟩, B7.out⟩
                    clear S4 R ON B7 HF HO HK
                    go_wp2_with fail
                    go_ret
                    exact FIN.out
end Go.Proofs.Ytoncollcefanjaa
