/- The document's Parts. The document's Parts: the walk. -/
import Derived.Test.YtpplhooojfchpaaEOf
namespace Go.Proofs.Ytpplhooojfchpaa
set_option maxRecDepth 20000
open Go.RowKit
set_option linter.unusedVariables false
theorem info_qart : (Try.prog.info? 39).map (fun i => (i.zero, i.size, i.bytes)) = some (some (.agg #[.int .i64 0, .int .i64 0, .int .i64 0, .int .i64 0, .int .i64 0]), 5, 40) := by kernel_rfl
theorem info_qart5 : (Try.prog.info? 39).map (·.size) = some 5 := by kernel_rfl
/-- A row of the document's parts of the call's own. -/
def NewQt (w : World) (p : Nat) (z : List Int) (e : Ending) (w' : World) : Prop :=
  ∃ A c, e = .returned (.slice A p c) ∧ p ≤ c ∧ c ≤ maxLen ∧ w'.ownsRow w.heap.size 39 5 (.slice A p c) p (I64 z) ∧ Below w.heap.size w w'
theorem NewQt.mk {w w' : World} {p : Nat} {z : List Int} {e : Ending} {v : Value} (he : e = .returned v) (h : w'.ownsRow w.heap.size 39 5 v p (I64 z)) (hb : Below w.heap.size w w') : NewQt w p z e w' := by
  obtain ⟨A, c, rfl, h1, h2⟩ := own_form h
  exact ⟨A, c, he, h1, h2, h, hb⟩
section
variable {l b : List Nat}
theorem pq_mate (h : Inv l b) (he : l.length % 2 = 0) {e : Nat} (hE : 2 * e + 1 < l.length) : pq l (2 * e + 1) = pq l (2 * e) := by
  have hpf := sgL_pf h
  unfold pq
  rw [prt_iff (part_eqv h he) hE (by omega)]
  exact (part_eqv h he).symm _ _ (by omega) hE (gk_edge hpf e _ (by omega))
theorem num_two (h : Inv l b) (he : l.length % 2 = 0) (j : Nat) : num (fun d => pq l d = j) l.length = 2 * pE l j l.length := by
  have key : ∀ k, k ≤ l.length / 2 → num (fun d => pq l d = j) (2 * k) = 2 * pE l j (2 * k) := fun k => by
    induction k with
    | zero => intro _; simp [num, pE]
    | succ k ih =>
      intro hk
      have ih' := ih (by omega)
      have hm := pq_mate h he (show 2 * k + 1 < l.length by omega)
      rw [show 2 * (k + 1) = 2 * k + 1 + 1 by omega]
      have n1 : pE l j (2 * k + 1 + 1) = pE l j (2 * k + 1) := pE_else (.inl (by omega))
      rw [n1]
      by_cases e : pq l (2 * k) = j
      · have a1 := (num_next (fun d => pq l d = j) (2 * k)).1 e
        have a2 := (num_next (fun d => pq l d = j) (2 * k + 1)).1 (by rw [hm]; exact e)
        have a3 := pE_yes (l := l) (k := 2 * k) (by omega)
        rw [e] at a3
        omega
      · have a1 := (num_next (fun d => pq l d = j) (2 * k)).2 e
        have a2 := (num_next (fun d => pq l d = j) (2 * k + 1)).2 (by rw [hm]; exact e)
        have a3 : pE l j (2 * k + 1) = pE l j (2 * k) := pE_else (.inr e)
        omega
  have := key (l.length / 2) (Nat.le_refl _)
  rwa [show 2 * (l.length / 2) = l.length by omega] at this
theorem enames_get (l : List Nat) {d : Nat} (hd : d < l.length) : (enames l).getD d 0 = pq l d := by unfold enames prts; rw [map_rangeN _ _ _ hd]; rfl
theorem num_enames (l : List Nat) (S : Nat → Prop) (j : Nat) : num (fun d => (enames l).getD d 0 = j ∧ S d) l.length = num (fun d => pq l d = j ∧ S d) l.length :=
  num_congr fun d hd => by rw [enames_get l hd]
theorem partsC_new (h : Inv l b) (he : l.length % 2 = 0) (hp : Inv (phiL l) (phiB l b)) {k p G : Nat} (hk : k < l.length) (H : Least (part l) k) (hp1 : p = pn (part l) k) (hG : pG l p = (G : Int)) :
    partsC l p ++ [(k : Int), (pV l p l.length : Int), (pE l p l.length : Int), (pB l p l.length : Int), (G : Int)] = partsC l (p + 1) := by
  have hlt : p < pN l := by rw [hp1]; exact pn_lt _ H hk
  unfold partsC
  rw [range_five]
  have e : ∀ f, f < 5 → pcL l (5 * p + f) = pc l l.length l.length l.length (pN l) (5 * p + f) := fun f hf => by unfold pcL; rw [if_pos (by omega)]
  have e0 := e 0 (by omega)
  rw [Nat.add_zero] at e0
  rw [e0, e 1 (by omega), e 2 (by omega), e 3 (by omega), e 4 (by omega), pc_0, pc_1, pc_2, pc_3, pc_4, if_pos hlt, hG, hp1, rt_of H]
end
end Go.Proofs.Ytpplhooojfchpaa
namespace Go.Proofs.Ytpplhooojfchpaa
set_option maxRecDepth 20000
open Go.RowKit
set_option linter.unusedVariables false
set_option maxHeartbeats 8000000 in
theorem reparts_p (A : Option Addr) (c : Nat) (l b : List Nat) (root : Int) (lone : Nat) (w : World) (h : Rd w w.heap.size A l.length (I64 (ofN l))) (hinv : Inv l b) (he : l.length % 2 = 0) (hn : l.length ≤ 100000) (hln : lone ≤ 65536) :
    Calls Try.prog 12 #[.agg #[.slice A l.length c, .int .i64 root, .int .i64 (lone : Int)]] w (NewQt w (pN l + lone) (partsC l (pN l + lone))) := by
  obtain ⟨i0, hi0, hz0, hz1, hz2⟩ := info_parts info_qart
  have HINF := Lib.hid info_qart5
  have hp := phi_inv hinv he
  have hpl := phiL_len l
  have hb0 := (Below.refl w.heap.size w).alloc (Nat.le_refl _) (.cells #[.slice A l.length c, .int .i64 root, .int .i64 (lone : Int)] 27)
  have hs0 : (w.alloc (.cells #[.slice A l.length c, .int .i64 root, .int .i64 (lone : Int)] 27)).heap.size = w.heap.size + 1 := by simp
  have h1 := (h.below hb0).lt
  have RN := Lib.hid (renames_p A c l b root lone _ h1 hinv he hn)
  have HBX := Lib.hid (Blk.new w 27 #[.slice A l.length c, .int .i64 root, .int .i64 (lone : Int)])
  have H := Lib.hid h1
  have HE := Lib.hid he
  have HI := Lib.hid hinv
  have HP := Lib.hid hp
  have HPL := Lib.hid hpl
  have HB0 := Lib.hid hb0
  have x0 := HBX.out.cell 0
  have x1 := HBX.out.cell 1
  have x2 := HBX.out.cell 2
  simp at x0 x1 x2
  clear h hinv he hp hpl hb0 h1
  go_enter Try.func12, Try.ntmps12
  go_wp2_with fail
  refine RN.out.mono ?_
  generalize hw1 : w.alloc (.cells #[.slice A l.length c, .int .i64 root, .int .i64 (lone : Int)] 27) = w1 at *
  rintro e w2 ⟨An, cn, rfl, hcn, hmn, hownn, hb2⟩
  rw [ofN_len, enames_len] at hownn hcn ⊢
  have hs2 := hb2.size
  have HX2 := Lib.hid (HBX.out.below hb2)
  have H2 := Lib.hid (H.out.below hb2)
  have HN2 := Lib.hid (Rd.ofOwn hownn)
  have HB2 := Lib.hid (HB0.out.trans (hb2.mono (by omega)))
  have y0 := HX2.out.cell 0
  have y1 := HX2.out.cell 1
  have y2 := HX2.out.cell 2
  simp at y0 y1 y2
  have PH := Lib.hid (rphi_p A c l root lone w2 H2.out.lt HE.out hn)
  have hcnn : l.length ≤ cn := hcn
  clear hw1 x0 x1 x2 hownn hb2 RN HBX H HB0 hcn hmn
  go_wp2_with fail
  refine PH.out.mono ?_
  rintro e w3 ⟨Ap, cp, rfl, hcp, hmp, hownp, hb3⟩
  rw [ofN_len, HPL.out] at hownp hcp ⊢
  have hs3 := hb3.size
  have HX3 := Lib.hid (HX2.out.below hb3)
  have H3 := Lib.hid ((H2.out.below (hb3.mono (by omega))).lt)
  have HN3 := Lib.hid ((HN2.out.below hb3).lt)
  have HP3 := Lib.hid (Rd.ofOwn hownp)
  have HB3 := Lib.hid (HB2.out.trans (hb3.mono (by omega)))
  clear y0 y1 y2 hownp hb3 PH HX2 H2 HN2 HB2 hmp hs2 hs0
  go_wp2_with fail
  go_loopw [3, 18] (fun s3 i wr => ∃ (k p c3 : Nat) (A3 : Option Addr), k ≤ l.length ∧ p ≤ k ∧ s3 = .slice A3 p c3 ∧ i = .int .i64 (k : Int) ∧ Hid (p = pn (part l) k) ∧
    Hid (wr.ownsRow w3.heap.size 39 5 (.slice A3 p c3) p (I64 (partsC l p))) ∧ Hid (Below w3.heap.size w3 wr)) (fun _ i _ => l.length - (intOf i).toNat)
  case atStart =>
    refine ⟨0, 0, 0, none, by omega, by omega, rfl, rfl, ?_, World.ownsRow_nil _ _ _ _, Below.refl _ _⟩
    have := pn_le (part l) 0
    show _ = _; omega
  case round =>
    obtain ⟨k, p, c3, A3, hk, hpk, rfl, rfl, HPN, HO, HB⟩ := hrel
    have hsr := HB.out.size
    have HXr := Lib.hid (HX3.out.below HB.out)
    by_cases hlt : k < l.length
    · have hrn := HN3.out.below HB.out
      obtain ⟨gn, on, rfl, hgn, kn⟩ := hrn.i64 (by omega)
      have cn1 := kn k hlt
      rw [ofN_get, enames_get l hlt] at cn1
      have hdk : decide (k < l.length) = true := by rw [decide_eq_true_iff]; exact hlt
      by_cases HL : Least (part l) k
      · have hq := pq_new HI.out HE.out hlt HL
        rw [← HPN.out] at hq
        rw [hq] at cn1
        obtain ⟨G, hG, hE⟩ := pG_is HI.out HE.out HP.out (j := p) (by rw [HPN.out]; exact pn_lt _ HL hlt)
        have HPC := Lib.hid (partsC_new HI.out HE.out HP.out hlt HL HPN.out hG)
        have HP1 : Hid (p + 1 = pn (part l) (k + 1)) := by show _ = _; rw [(pn_next _ _).1 HL, HPN.out]
        have HN2 := Lib.hid (num_two HI.out HE.out p)
        have hVl := pV_le l p l.length
        have hEl := pE_le l p l.length
        have hBl := pB_le l p l.length
        have OV : Hid (∀ W, Below wr.heap.size wr W → Calls Try.prog 40 #[.slice A l.length c, .slice (some ⟨gn, on, none⟩) l.length cn, .int .i64 (p : Int)] W fun e w' => e = .returned (.int .i64 (pV l p l.length : Int)) ∧ Below W.heap.size W w') := fun W m => by
          have := rof_p A (some ⟨gn, on, none⟩) c cn _ _ l b (enames l) p W ((H3.out.below HB.out).below (m.mono hsr)) ((HN3.out.below HB.out).below (m.mono hsr)) HI.out (enames_len l) (by omega)
          rw [num_enames] at this
          exact this
        have OB : Hid (∀ W, Below wr.heap.size wr W → Calls Try.prog 40 #[.slice Ap l.length cp, .slice (some ⟨gn, on, none⟩) l.length cn, .int .i64 (p : Int)] W fun e w' => e = .returned (.int .i64 (pB l p l.length : Int)) ∧ Below W.heap.size W w') := fun W m => by
          have := rof_p Ap (some ⟨gn, on, none⟩) cp cn w3.heap.size w3.heap.size (phiL l) (phiB l b) (enames l) p W (by rw [HPL.out]; exact (HP3.out.below HB.out).below (m.mono hsr)) (by rw [HPL.out]; exact (HN3.out.below HB.out).below (m.mono hsr)) HP.out (by rw [HPL.out]; exact enames_len l) (by rw [HPL.out]; omega)
          rw [HPL.out, num_enames] at this
          exact this
        have z0 := HXr.out.cell 0
        simp at z0
        obtain ⟨V, hVe⟩ : ∃ V, V = pV l p l.length := ⟨_, rfl⟩
        obtain ⟨E, hEe⟩ : ∃ E, E = pE l p l.length := ⟨_, rfl⟩
        obtain ⟨B, hBe⟩ : ∃ B, B = pB l p l.length := ⟨_, rfl⟩
        rw [← hVe] at OV hE hVl HPC
        rw [← hEe] at hE hEl HPC HN2
        rw [← hBe] at OB hE hBl HPC
        have hsum : 2 - (V : Int) + (E : Int) - (B : Int) = 2 * (G : Int) := by omega
        have hGl : G ≤ 131072 := by omega
        clear hq HL hG hVe hEe hBe hE kn hrn
        go_wp2_with fail
        refine (OV.out _ (Below.refl _ _)).mono ?_
        rintro e w5 ⟨rfl, hb5⟩
        have HB5 := Lib.hid hb5
        clear hb5
        go_wp2_with fail
        refine (OB.out _ HB5.out).mono ?_
        rintro e w6 ⟨rfl, hb6⟩
        have HB6 := Lib.hid (HB5.out.trans (hb6.mono HB5.out.size))
        have HBb := Lib.hid (HB.out.trans (HB6.out.mono hsr))
        have hs6 := HB6.out.size
        have HO6 := Lib.hid ((own_below HO.out HB6.out).alloc (.cells #[.int .i64 (k : Int), .int .i64 (V : Int), .int .i64 0, .int .i64 (B : Int), .int .i64 0] 39))
        have HBv := Lib.hid (HBb.out.alloc (show w3.heap.size ≤ w6.heap.size by omega) (.cells #[.int .i64 (k : Int), .int .i64 (V : Int), .int .i64 0, .int .i64 (B : Int), .int .i64 0] 39))
        have HXv := Lib.hid (Blk.new w6 39 #[.int .i64 (k : Int), .int .i64 (V : Int), .int .i64 0, .int .i64 (B : Int), .int .i64 0])
        have hvs : (w6.alloc (.cells #[.int .i64 (k : Int), .int .i64 (V : Int), .int .i64 0, .int .i64 (B : Int), .int .i64 0] 39)).heap.size = w6.heap.size + 1 := by simp
        have HNv := Lib.hid (HN3.out.below HBv.out)
        have HON : Hid (∀ i, (Value.slice A3 p c3).ownBlock = some i → i ≠ w6.heap.size) := fun i hi e => by have := ((own_below HO.out HB6.out).lt i hi).2; omega
        clear hb6 HB5 HB6 HBb OV OB HO HB HXr z0 cn1
        go_wp2_with fail
        generalize w6.alloc (.cells #[.int .i64 (k : Int), .int .i64 (V : Int), .int .i64 0, .int .i64 (B : Int), .int .i64 0] 39) = v at *
        generalize hgb : w6.heap.size = gb at *
        clear hgb
        have hm0 : Hid (num (fun d => pq l d = p) 0 = 0) := rfl
        go_loopw [40] (fun i wr => ∃ (j m : Nat), j ≤ l.length ∧ m ≤ j ∧ i = .int .i64 (j : Int) ∧ Hid (m = num (fun d => pq l d = p) j) ∧ Hid (Blk wr gb 39 #[.int .i64 (k : Int), .int .i64 (V : Int), .int .i64 (m : Int), .int .i64 (B : Int), .int .i64 0]) ∧ Hid (Mod (fun i => i = gb) v wr)) (fun i _ => l.length - (intOf i).toNat)
        case atStart => exact ⟨0, 0, by omega, by omega, rfl, rfl, HXv, Mod.refl _ _⟩
        case round =>
          clear HXv
          obtain ⟨j, m, hj, hmj, rfl, HM, HX, HMD⟩ := hrel
          have cb2 : wr.cell? ⟨gb, 2, none⟩ = some (.int .i64 (m : Int)) := HX.out.cell 2
          have fb2 := HX.out.frozen 2
          by_cases hjl : j < l.length
          · have hrn := (HNv.out.mod HMD.out (show w3.heap.size ≤ v.heap.size by omega) (fun h0 i hi e => by
              obtain ⟨a, ha, hb⟩ := hi
              cases ha
              simp at hb; omega))
            obtain ⟨gn', on', he', hgn', kn⟩ := hrn.i64 (by omega)
            cases he'
            have cn1 := kn j hjl
            rw [ofN_get, enames_get l hjl] at cn1
            have NX := Lib.hid (num_next (fun d => pq l d = p) j)
            have HX1 : Hid (∀ u : Int, Blk (wr.setCell ⟨gb, 2, none⟩ (.int .i64 u)) gb 39 #[.int .i64 (k : Int), .int .i64 (V : Int), .int .i64 u, .int .i64 (B : Int), .int .i64 0]) := fun u => by
              have := HX.out.set_ 2 (.int .i64 u)
              simpa using this
            have HM1 : Hid (∀ u : Int, Mod (fun i => i = gb) v (wr.setCell ⟨gb, 2, none⟩ (.int .i64 u))) := fun u => HMD.out.setCell (p := ⟨gb, 2, none⟩) (fun _ => rfl) _
            have hdj : decide (j < l.length) = true := by rw [decide_eq_true_iff]; exact hjl
            obtain ⟨q, hq⟩ : ∃ q, q = pq l j := ⟨_, rfl⟩
            rw [← hq] at cn1
            have HQ := Lib.hid hq
            clear hq kn hrn
            by_cases hqp : q = p
            · have NX2 := Lib.hid (NX.out.1 (by rw [← HQ.out]; exact hqp))
              have hb : ((q : Int) == (p : Int)) = true := by rw [beq_iff_eq]; omega
              clear hqp
              go_wp2_with fail
              go_roundw
              case rel => exact ⟨j + 1, m + 1, by omega, by omega, by go_num, by show _ = _; rw [NX2.out, HM.out], HX1.out _, HM1.out _⟩
              case measure => simp [intOf]; omega
            · have NX2 := Lib.hid (NX.out.2 (by rw [← HQ.out]; exact hqp))
              have hb : ((q : Int) == (p : Int)) = false := by rw [beq_eq_false_iff_ne]; omega
              clear hqp
              go_wp2_with fail
              go_roundw
              case rel => exact ⟨j + 1, m, by omega, by omega, by go_num, by show _ = _; rw [NX2.out, HM.out], HX.out, HMD.out⟩
              case measure => simp [intOf]; omega
          · obtain rfl : j = l.length := by omega
            have hm2 : (m : Int) / 2 = (E : Int) := by have := HM.out; have := HN2.out; omega
            have cb0 : wr.cell? ⟨gb, 0, none⟩ = some (.int .i64 (k : Int)) := HX.out.cell 0
            have cb1 : wr.cell? ⟨gb, 1, none⟩ = some (.int .i64 (V : Int)) := HX.out.cell 1
            have cb3 : wr.cell? ⟨gb, 3, none⟩ = some (.int .i64 (B : Int)) := HX.out.cell 3
            have cb4 : wr.cell? ⟨gb, 4, none⟩ = some (.int .i64 0) := HX.out.cell 4
            have fb4 := HX.out.frozen 4
            obtain ⟨wz, hwz⟩ : ∃ wz, wz = (wr.setCell ⟨gb, 2, none⟩ (.int .i64 (E : Int))).setCell ⟨gb, 4, none⟩ (.int .i64 (G : Int)) := ⟨_, rfl⟩
            have HMz : Hid (Mod (fun i => i = gb) v wz) := by rw [hwz]; exact (HMD.out.setCell (p := ⟨gb, 2, none⟩) (fun _ => rfl) _).setCell (p := ⟨gb, 4, none⟩) (fun _ => rfl) _
            have HOz : Hid (wz.ownsRow w3.heap.size 39 5 (.slice A3 p c3) p (I64 (partsC l p))) := own_mod HO6.out HMz.out (fun i hi e => HON.out i hi e)
            have HBz : Hid (Below w3.heap.size w3 wz) := HBv.out.trans (HMz.out.belowB (by omega) (fun i hi e => by omega))
            have hown3 := HOz.out.alloc (.cells #[.int .i64 (k : Int), .int .i64 (V : Int), .int .i64 (E : Int), .int .i64 (B : Int), .int .i64 (G : Int)] 39)
            have hnw := World.news_of_block (heap_alloc_new wz (.cells #[.int .i64 (k : Int), .int .i64 (V : Int), .int .i64 (E : Int), .int .i64 (B : Int), .int .i64 (G : Int)] 39))
            have h1s : ∀ u ∈ ([.int .i64 (k : Int), .int .i64 (V : Int), .int .i64 (E : Int), .int .i64 (B : Int), .int .i64 (G : Int)] : List Value), u.oneCell' = true := by simp [Value.oneCell']
            have t1 : p + 1 ≤ maxLen := by simp only [maxLen]; omega
            have t2 : (p + 1) * 40 ≤ 140737488355328 := by omega
            have hsz := HBz.out.size
            have t3 : w3.heap.size ≤ (wz.alloc (.cells #[.int .i64 (k : Int), .int .i64 (V : Int), .int .i64 (E : Int), .int .i64 (B : Int), .int .i64 (G : Int)] 39)).heap.size := by simp; omega
            have BLA := Lib.hid (HBz.out.alloc hsz (.cells #[.int .i64 (k : Int), .int .i64 (V : Int), .int .i64 (E : Int), .int .i64 (B : Int), .int .i64 (G : Int)] 39))
            have RN : Hid (I64 (partsC l p) ++ [.int .i64 (k : Int), .int .i64 (V : Int), .int .i64 (E : Int), .int .i64 (B : Int), .int .i64 (G : Int)] = I64 (partsC l (p + 1))) := by
              show _ = _
              rw [← HPC.out, I64_append]; rfl
            have hwzs : wz.heap.size = wr.heap.size := by rw [hwz]; simp [World.setCell]
            rw [hwzs] at hnw
            clear hwzs
            rw [hwz] at hown3 hnw t3 BLA
            clear hwz hsz hj hjl HX HMD HMz HOz HBz
            go_wp2_with (first
              | (at_builtin; go_must (refine wpList_append_lies _ rfl _ _ 32 rfl w3.heap.size 39 i0 (.agg #[.int .i64 0, .int .i64 0, .int .i64 0, .int .i64 0, .int .i64 0]) 5 40 Try.underlying32 hi0 hz0 hz1 hz2 rfl (by decide) (.slice A3 p c3) p _ rfl hown3 ⟨wr.heap.size, 0, none⟩ 1 1 [.int .i64 (k : Int), .int .i64 (V : Int), .int .i64 (E : Int), .int .i64 (B : Int), .int .i64 (G : Int)] rfl rfl hnw h1s (by decide) t1 t2 t3 _ rfl ?_)))
            intro g6 c6 w7 hown6 hg6 _ hg6'
            rw [RN.out] at hown6
            have HO6' := Lib.hid hown6
            have BL6 := Lib.hid (BLA.out.trans ((Mod.ofGrown hg6).belowB t3 (fun i hi e => by have := (hown3.lt i e.symm).1; omega)))
            clear hown6 hg6 hown3 hnw h1s t1 t2 t3 BLA RN hg6'
            go_wp2_with fail
            go_roundw
            case rel => exact ⟨k + 1, p + 1, c6, _, by omega, by omega, rfl, by go_num, HP1.out, HO6'.out, BL6.out⟩
            case measure => simp [intOf]; omega
      · have hq := pq_old HI.out HE.out hlt HL
        rw [← HPN.out] at hq
        have HP1 : Hid (p = pn (part l) (k + 1)) := by show _ = _; rw [(pn_next _ _).2 HL, HPN.out]
        obtain ⟨q, hqe⟩ : ∃ q, q = pq l k := ⟨_, rfl⟩
        rw [← hqe] at cn1 hq
        have hb : ((q : Int) != (p : Int)) = true := by rw [bne_iff_ne]; omega
        clear hqe HL kn hrn
        go_wp2_with fail
        go_roundw
        case rel => exact ⟨k + 1, p, c3, A3, by omega, by omega, rfl, by go_num, HP1.out, HO.out, HB.out⟩
        case measure => simp [intOf]; omega
    · obtain rfl : k = l.length := by omega
      have HPE : Hid (p = pN l) := HPN.out
      have z2 := HXr.out.cell 2
      simp at z2
      have hpl : p ≤ 131072 := by omega
      clear HPN hk hlt
      go_wp2_with fail
      go_loopw [3, 11] (fun s3 i wr => ∃ (k c3 : Nat) (A3 : Option Addr), k ≤ lone ∧ s3 = .slice A3 (p + k) c3 ∧ i = .int .i64 (k : Int) ∧ Hid (wr.ownsRow w3.heap.size 39 5 (.slice A3 (p + k) c3) (p + k) (I64 (partsC l (p + k)))) ∧ Hid (Below w3.heap.size w3 wr)) (fun _ i _ => lone - (intOf i).toNat)
      case atStart => exact ⟨0, c3, A3, by omega, rfl, rfl, HO, HB⟩
      case round =>
        clear HO HB z2 HXr hsr
        obtain ⟨k, c3, A3, hk, rfl, rfl, HO, HB⟩ := hrel
        have z2 := (HX3.out.below HB.out).cell 2
        simp at z2
        by_cases hkl : k < lone
        · have hown3 := HO.out.alloc (.cells #[.int .i64 (-1), .int .i64 1, .int .i64 0, .int .i64 1, .int .i64 0] 39)
          have hnw := World.news_of_block (heap_alloc_new wr (.cells #[.int .i64 (-1), .int .i64 1, .int .i64 0, .int .i64 1, .int .i64 0] 39))
          have h1s : ∀ u ∈ ([.int .i64 (-1), .int .i64 1, .int .i64 0, .int .i64 1, .int .i64 0] : List Value), u.oneCell' = true := by simp [Value.oneCell']
          have t1 : p + k + 1 ≤ maxLen := by simp only [maxLen]; omega
          have t2 : (p + k + 1) * 40 ≤ 140737488355328 := by omega
          have hsw := HB.out.size
          have t3 : w3.heap.size ≤ (wr.alloc (.cells #[.int .i64 (-1), .int .i64 1, .int .i64 0, .int .i64 1, .int .i64 0] 39)).heap.size := by simp; omega
          have BLA := Lib.hid (HB.out.alloc hsw (.cells #[.int .i64 (-1), .int .i64 1, .int .i64 0, .int .i64 1, .int .i64 0] 39))
          have RN : Hid (I64 (partsC l (p + k)) ++ [.int .i64 (-1), .int .i64 1, .int .i64 0, .int .i64 1, .int .i64 0] = I64 (partsC l (p + k + 1))) := by
            show _ = _
            rw [← partsC_lone l (p + k) (by have := HPE.out; omega), I64_append]; rfl
          have hdk : decide (k < lone) = true := by rw [decide_eq_true_iff]; exact hkl
          go_wp2_with (first
            | (at_builtin; go_must (refine wpList_append_lies _ rfl _ _ 32 rfl w3.heap.size 39 i0 (.agg #[.int .i64 0, .int .i64 0, .int .i64 0, .int .i64 0, .int .i64 0]) 5 40 Try.underlying32 hi0 hz0 hz1 hz2 rfl (by decide) (.slice A3 (p + k) c3) (p + k) _ rfl hown3 ⟨wr.heap.size, 0, none⟩ 1 1 [.int .i64 (-1), .int .i64 1, .int .i64 0, .int .i64 1, .int .i64 0] rfl rfl hnw h1s (by decide) t1 t2 t3 _ rfl ?_)))
          intro g6 c6 w6 hown6 hg6 _ hg6'
          rw [RN.out] at hown6
          have HO6 := Lib.hid hown6
          have BL6 := Lib.hid (BLA.out.trans ((Mod.ofGrown hg6).belowB t3 (fun i hi e => by have := (hown3.lt i e.symm).1; omega)))
          clear hown6 hg6 hown3 hnw h1s t1 t2 t3 BLA RN hg6'
          go_wp2_with fail
          go_roundw
          case rel => exact ⟨k + 1, c6, _, by omega, by rw [Nat.add_assoc], by go_num, by rw [← Nat.add_assoc]; exact HO6, BL6⟩
          case measure => simp [intOf]; omega
        · obtain rfl : k = lone := by omega
          go_wp2_with fail
          go_ret
          have ho := HO.out.base_le' (show w.heap.size ≤ w3.heap.size from HB3.out.size)
          rw [HPE.out] at ho ⊢
          exact .mk rfl ho (HB3.out.trans (HB.out.mono HB3.out.size))
end Go.Proofs.Ytpplhooojfchpaa
