/- The document's Turn. -/
import Derived.Test.YtoncollcefanjaaZCnTqM
import Derived.Test.YtoncollcefanjaaZCnQueue
import Derived.Test.YtoncollcefanjaaZg22
import Derived.Test.YtoncollcefanjaaZDPhi
import Derived.Maps.RangeWalk
import Derived.Deep.RegionHeld3
namespace Go.Proofs.Ytoncollcefanjaa
set_option maxRecDepth 100000
open Go.RowKit Go.Maps
set_option linter.unusedVariables false
set_option linter.unusedSimpArgs false
/-- How many entries a map has. -/
def msz (w : World) (g : Nat) : Nat := match w.heap[g]? with | some (.map es _) => es.size | _ => 0
theorem msz_is {w : World} {g n nx : Nat} {D : DataW Unit} {K : List Int} (h : OwnM w g n D) (hm : MFz D K nx) : msz w g = nx := by
  obtain ⟨es, clock, hb, F, hs, hD⟩ := h
  have := hm.size_
  rw [hD] at this
  unfold msz
  rw [hb]
  change List.length _ = nx at this
  rw [length_sorted, List.length_map, Array.length_toList] at this
  exact this
/-- The map's keys are darts. -/
def KD (D : DataW Unit) (n : Nat) : Prop := ∀ kl, Maps.has D kl = true → ∃ x, x < n ∧ kl = kI x
theorem KD.zero (n : Nat) : KD (.map []) n := fun kl h => by simp [Maps.has] at h
theorem KD.put {D : DataW Unit} {n e : Nat} (h : KD D n) (he : e < n) (d : DataW Unit) : KD (D.put (kI e) d) n := fun kl hk => by
  by_cases c : kl = kI e
  · exact ⟨e, he, c⟩
  · rw [has_put_other c] at hk; exact h kl hk
/-- The state of the map and the queue. -/
def TqSt (n gm : Nat) (Q : List Nat) (img : List Int) (W : World) : Prop := ∃ D, OwnM W gm Q.length D ∧ MFz D img Q.length ∧ KD D n
theorem TqSt.mod {n gm : Nat} {Q : List Nat} {img : List Int} {W W' : World} {S : Nat → Prop} (h : TqSt n gm Q img W) (m : Mod S W W') (hs : ¬ S gm) : TqSt n gm Q img W' := by
  obtain ⟨D, h1, h2, h3⟩ := h
  refine ⟨D, ?_, h2, h3⟩
  have hlt := h1.lt
  obtain ⟨es, clock, hb, F, hs', hD⟩ := h1
  exact ⟨es, clock, (m.block gm hlt hs).trans hb, F, hs', hD⟩
theorem ofN_drop1 (Q : List Nat) (i : Nat) : (I64 (ofN (Q.drop i))).drop 1 = I64 (ofN (Q.drop (i + 1))) := by
  simp [I64, ofN, List.map_drop]
theorem rq_app (Q : List Nat) (i x : Nat) (hi : i ≤ Q.length) : I64 (ofN (Q.drop i)) ++ [.int .i64 (x : Int)] = I64 (ofN ((Q ++ [x]).drop i)) := by
  rw [List.drop_append_of_le_length hi]; simp [I64, ofN]
theorem drop_head {Q : List Nat} {i : Nat} (hi : i < Q.length) : (I64 (ofN (Q.drop i)))[0]? = some (.int .i64 ((Q.getD i 0 : Nat) : Int)) := by
  simp [I64, ofN, List.getD_eq_getElem?_getD, hi]
set_option maxHeartbeats 16000000 in
theorem rturn_r (A A' : Option Addr) (c c' : Nat) (l b l' b' : List Nat) (r r' : Nat) (lone : Int) (ans : Bool) (w : World) (h : Rd w w.heap.size A l.length (I64 (ofN l))) (h' : Rd w w.heap.size A' l'.length (I64 (ofN l'))) (hi : Inv l b) (hi' : Inv l' b')
    (hlen : l'.length = l.length) (he : l.length % 2 = 0) (hn : l.length ≤ 1000) (hr : r < l.length) (hr' : r' < l'.length) (hp : ∀ j, j < l.length → part l r j) (hans : ans = true ↔ ∃ p q, Trn l l' r r' p q) :
    Calls Try.prog 27 #[.agg #[.slice A l.length c, .int .i64 (r : Int), .int .i64 lone], .agg #[.slice A' l'.length c', .int .i64 (r' : Int), .int .i64 lone]] w fun e w' => e = .returned (.bool ans) ∧ Below w.heap.size w w' := by
  obtain ⟨i0, hi0, hz0, hz1, hz2⟩ := info_parts info_int
  obtain ⟨n, hnn⟩ : ∃ n, n = l.length := ⟨_, rfl⟩
  have hmm := @run_makeMap Try.prog
  rw [hlen, ← hnn]
  rw [hlen, ← hnn] at h'
  rw [← hnn] at h
  obtain ⟨u0, hu0⟩ : ∃ u0, u0 = (w.alloc (.cells #[.slice A n c, .int .i64 (r : Int), .int .i64 lone] 26)).alloc (.cells #[.slice A' n c', .int .i64 (r' : Int), .int .i64 lone] 26) := ⟨_, rfl⟩
  have hs0 : u0.heap.size = w.heap.size + 2 := by rw [hu0]; simp
  have XA0 : Blk u0 w.heap.size 26 #[.slice A n c, .int .i64 (r : Int), .int .i64 lone] := by rw [hu0]; exact (Blk.new w _ _).alloc _
  have XB0 : Blk u0 (w.heap.size + 1) 26 #[.slice A' n c', .int .i64 (r' : Int), .int .i64 lone] := by
    rw [hu0]
    have := Blk.new (w.alloc (.cells #[.slice A n c, .int .i64 (r : Int), .int .i64 lone] 26)) 26 #[.slice A' n c', .int .i64 (r' : Int), .int .i64 lone]
    simpa using this
  have B0 : Below w.heap.size w u0 := by rw [hu0]; exact ((Below.refl w.heap.size w).alloc (Nat.le_refl _) _).alloc (by simp) _
  have OW : OwnM (u0.alloc (.map #[] 0)) (w.heap.size + 2) 0 (.map []) := by rw [← hs0]; exact World.ownsMap_made _ _ _ _
  obtain ⟨w2, hrun2, ow2, gr2⟩ := put_m OW (by omega) r (by omega) (r' : Int) (by omega)
  have B2u : Below (w.heap.size + 2) u0 w2 := ((Below.refl _ u0).alloc (by omega) (.map #[] 0)).grown gr2 (by simp; omega) (fun j hj => by cases hj; omega)
  have hw2 : w.heap.size + 2 < w2.heap.size := ow2.lt
  have XA : Hid (Blk w2 w.heap.size 26 #[.slice A n c, .int .i64 (r : Int), .int .i64 lone]) := (B2u.block _ (by omega)).trans XA0
  have XB : Hid (Blk w2 (w.heap.size + 1) 26 #[.slice A' n c', .int .i64 (r' : Int), .int .i64 lone]) := (B2u.block _ (by omega)).trans XB0
  have B2 : Hid (Below w.heap.size w w2) := B0.trans (B2u.mono (by omega))
  have hrn : r < n := by omega
  have MF2 := (MFz.zero n).put (e := r) (by simp; omega) (by simp [List.getD_eq_getElem?_getD, hrn]) (r' : Int) (by omega)
  have ST2 : Hid (TqSt n (w.heap.size + 2) [r] ((List.replicate n (-1)).set r (r' : Int)) w2) := ⟨_, ow2, MF2, (KD.zero n).put (by omega) _⟩
  have TQ0 : Hid (Tq l l' r r' [r] ((List.replicate n (-1)).set r (r' : Int)) 0 0) := by show Tq _ _ _ _ _ _ _ _; rw [hnn]; exact Tq.start hr (by omega)
  have HI := Lib.hid hi
  have HI' := Lib.hid hi'
  have HLE : Hid (l'.length = l.length) := hlen
  have HN : Hid (l.length = n) := hnn.symm
  have HEV : Hid (l.length % 2 = 0) := he
  have HR : Hid (r < l.length) := hr
  have HP := Lib.hid hp
  have HA : Hid (∀ W, Below (w.heap.size + 2) w2 W → Rd W w.heap.size A n (I64 (ofN l)) ∧ Rd W w.heap.size A' n (I64 (ofN l'))) := fun W mm => by
    have m2 := B2.out.trans (mm.mono (by omega))
    exact ⟨h.below m2, h'.below m2⟩
  have HANS := Lib.hid hans
  have hn8 : n ≤ 1000 := by omega
  have hn0 : 0 < n := by omega
  have hmk := run_make_one (P := Try.prog) 24 3 i0 (.int .i64 0) 8 Try.underlying24 hi0 hz0 hz1 hz2 rfl .i64 .i64 n (by omega) (by omega)
  have HMK := Lib.hid hmk
  have SK : Hid (∀ W, Below (w.heap.size + 2) w2 W → W.cell? ⟨w.heap.size, 0, none⟩ = some (.slice A n c) ∧ W.cell? ⟨w.heap.size, 1, none⟩ = some (.int .i64 (r : Int)) ∧ W.cell? ⟨w.heap.size + 1, 0, none⟩ = some (.slice A' n c') ∧ W.cell? ⟨w.heap.size + 1, 1, none⟩ = some (.int .i64 (r' : Int))) := fun W mm => by
    have b1 : Blk W w.heap.size 26 #[.slice A n c, .int .i64 (r : Int), .int .i64 lone] := (mm.block _ (by omega)).trans XA.out
    have b2 : Blk W (w.heap.size + 1) 26 #[.slice A' n c', .int .i64 (r' : Int), .int .i64 lone] := (mm.block _ (by omega)).trans XB.out
    have a0 := b1.cell 0
    have a1 := b1.cell 1
    have a2 := b2.cell 0
    have a3 := b2.cell 1
    exact ⟨by simpa using a0, by simpa using a1, by simpa using a2, by simpa using a3⟩
  obtain ⟨z0, z1, z2, z3⟩ := SK.out w2 (Below.refl _ _)
  have hnb : ((n : Int) == 0) = false := by rw [beq_eq_false_iff_ne]; omega
  clear h h' hi hi' hlen he hn hr hr' hp hans hnn B0 OW gr2 B2u MF2 ow2 hmk XA0 XB0 hs0 hrn
  rw [hu0] at hrun2
  clear hu0
  go_enter Try.func27, Try.ntmps27
  go_wp2_with fail
  have hs3 : (w2.alloc (.cells #[.int .i64 (r : Int)] 3)).heap.size = w2.heap.size + 1 := by simp
  have Q0 : Hid (QAt (w2.alloc (.cells #[.int .i64 (r : Int)] 3)) (w.heap.size + 3) w2.heap.size 0 1 1 (I64 (ofN (([r] : List Nat).drop 0)))) := by
    have nb := Blk.new w2 3 #[.int .i64 (r : Int)]
    refine ⟨rfl, by omega, nb.lt, Nat.le_refl _, by simp only [maxLen]; omega, fun j hj => ?_, fun j => nb.frozen j, fun j u hu => ?_⟩
    · obtain rfl : j = 0 := by omega
      have := nb.cell 0
      rw [Nat.zero_add, this]; rfl
    · match j with
      | 0 =>
        simp [I64, ofN] at hu
        subst hu
        have := nb.cell 0
        rw [Nat.zero_add, this]; rfl
      | j + 1 => simp [I64, ofN] at hu
  have ST3 : Hid (TqSt n (w.heap.size + 2) [r] ((List.replicate n (-1)).set r (r' : Int)) (w2.alloc (.cells #[.int .i64 (r : Int)] 3))) := ST2.out.mod ((Mod.refl (fun _ => False) w2).alloc _) id
  have BL3 : Hid (Below (w.heap.size + 2) w2 (w2.alloc (.cells #[.int .i64 (r : Int)] 3))) := (Below.refl _ w2).alloc (by omega) _
  clear ST2 hs3 hrun2 z0 z1 z2 z3 hmm
  go_loopw [6] (fun s wr => ∃ (m g o c i : Nat) (Q : List Nat) (img : List Int), s = .slice (some ⟨g, o, none⟩) m c ∧ m ≤ n ∧ Hid (i + m = Q.length) ∧ Hid (Tq l l' r r' Q img i 0) ∧ Hid (QAt wr (w.heap.size + 3) g o m c (I64 (ofN (Q.drop i)))) ∧ Hid (TqSt n (w.heap.size + 2) Q img wr) ∧ Hid (Below (w.heap.size + 2) w2 wr)) (fun s wr => 2 * (n - msz wr (w.heap.size + 2)) + lenOf s)
  case atStart => exact ⟨1, w2.heap.size, 0, 1, 0, [r], _, rfl, by omega, rfl, TQ0, Q0, ST3, BL3⟩
  case round =>
    clear TQ0 Q0 ST3 BL3
    obtain ⟨m, g, o, c1, i, Q, img, rfl, hm, HM, HT, HQ, HS, HB⟩ := hrel
    have hqb := HQ.out.bg
    have hql := HQ.out.lt
    by_cases hm0 : 0 < m
    · have hdm : decide (0 < m) = true := by rw [decide_eq_true_iff]; exact hm0
      have hmi : (0 : Int) < (m : Int) := by omega
      have hiQ : i < Q.length := by have := HM.out; omega
      have cd := HQ.out.at_ 0 _ (drop_head hiQ)
      rw [Nat.add_zero] at cd
      have hdn := HT.out.in_ hiQ
      obtain ⟨f, hfn, hfi⟩ := HT.out.at_ hiQ
      obtain ⟨d, hd⟩ : ∃ d, d = Q.getD i 0 := ⟨_, rfl⟩
      have HD := Lib.hid hd
      rw [← hd] at cd hdn hfi
      rw [HN.out] at hdn hfn
      have hsl := run_pop
      have hsl1 : ∀ W : World, (Instr.slice 24 (.slice (some ⟨g, o, none⟩) m c1) (some (.int .i64 1)) none none).run Try.prog W = .ok (.slice (some ⟨g, if c1 = 1 then o else o + 1, none⟩) (m - 1) (c1 - 1)) W := fun W => run_pop W g o m c1 hm0
      have HQ1 := Lib.hid (HQ.out.pop' hm0)
      rw [ofN_drop1] at HQ1
      obtain ⟨o1, ho1⟩ : ∃ o1, o1 = if c1 = 1 then o else o + 1 := ⟨_, rfl⟩
      obtain ⟨m1, hm1⟩ : ∃ m1, m1 = m - 1 := ⟨_, rfl⟩
      obtain ⟨c2, hc2⟩ : ∃ c2, c2 = c1 - 1 := ⟨_, rfl⟩
      rw [← ho1, ← hm1, ← hc2] at HQ1 hsl1
      have HM1 : Hid (i + 1 + m1 = Q.length) := by show _ = _; have := HM.out; omega
      have HFI := Lib.hid hfi
      have hm1n : m1 ≤ n := by omega
      have HMS := Lib.hid (msz_is HS.out.choose_spec.1 HS.out.choose_spec.2.1)
      have HMM : Hid (m = m1 + 1) := by show _ = _; omega
      clear hsl ho1 hm1 hc2 hd hfi HQ
      go_wp2_with fail
      have HTS : Hid (Q.getD i 0 = d ∧ img.getD d 0 = ((f : Nat) : Int) ∧ i < Q.length ∧ Q.length ≤ Q.length) := ⟨HD.out.symm, HFI.out, hiQ, Nat.le_refl _⟩
      obtain ⟨wo, rfl⟩ : ∃ wo : World, wo = wr := ⟨_, rfl⟩
      clear hsl1 cd hqb hql hiQ
      go_loopw [6, 8] (fun s k wr => ∃ (j m2 g2 o2 c3 : Nat) (Q2 : List Nat) (img2 : List Int), j ≤ 2 ∧ k = .int .i64 (j : Int) ∧ s = .slice (some ⟨g2, o2, none⟩) m2 c3 ∧ m2 ≤ n ∧ Hid (i + 1 + m2 = Q2.length) ∧ Hid (Tq l l' r r' Q2 img2 i j) ∧ Hid (Q2.getD i 0 = d ∧ img2.getD d 0 = ((f : Nat) : Int) ∧ i < Q2.length ∧ Q.length ≤ Q2.length) ∧ Hid (QAt wr (w.heap.size + 3) g2 o2 m2 c3 (I64 (ofN (Q2.drop (i + 1))))) ∧ Hid (TqSt n (w.heap.size + 2) Q2 img2 wr) ∧ Hid (Below (w.heap.size + 2) w2 wr)) (fun _ k _ => 2 - (intOf k).toNat)
      case atStart => exact ⟨0, m1, g, o1, c2, Q, img, by omega, rfl, rfl, hm1n, HM1, HT, HTS, HQ1, HS, HB⟩
      case round =>
        clear HM1 HT HTS HQ1 HS HB HFI HD
        obtain ⟨j, m2, g2, o2, c3, Q2, img2, hj, rfl, rfl, hm2, HM2, HT, HTS, HQ, HS, HB⟩ := hrel
        by_cases hj2 : j < 2
        · have hdj : decide (j < 2) = true := by rw [decide_eq_true_iff]; exact hj2
          have hjI : (j : Int) < 2 := by omega
          obtain ⟨D, ow, mfz, kd⟩ := HS.out
          have hil : img2.length = n := by rw [HT.out.il]; exact HN.out
          have lk := look_fv ow mfz.mf d (by omega) (by omega)
          rw [HTS.out.2.1] at lk
          have lk1 : ∀ W, Below wr.heap.size wr W → (Instr.lookup 65 (.map (some (w.heap.size + 2))) (.int .i64 (d : Int)) false).run Try.prog W = .ok (.int .i64 (f : Int)) W := fun W mm => by
            have lk := look_fv (own_map_below ow mm) mfz.mf d (by omega) (by omega)
            rwa [HTS.out.2.1, if_neg (by omega)] at lk
          obtain ⟨ra, rb⟩ := HA.out _ HB.out
          obtain ⟨ba, oa, rfl, hba, ka⟩ := ra.i64 (by omega)
          obtain ⟨bb, ob, rfl, hbb, kb⟩ := rb.i64 (by omega)
          have ca := ka d hdn
          have cb := kb f hfn
          rw [ofN_get] at ca cb
          obtain ⟨x0, x1, x2, x3⟩ := SK.out _ HB.out
          obtain ⟨ld, hld⟩ : ∃ ld, ld = l.getD d 0 := ⟨_, rfl⟩
          obtain ⟨lf, hlf⟩ : ∃ lf, lf = l'.getD f 0 := ⟨_, rfl⟩
          rw [← hld] at ca
          rw [← hlf] at cb
          have HL0 : Hid (stp l 0 d = ld ∧ stp l' 0 f = lf) := ⟨hld.symm, hlf.symm⟩
          have hdI : (d : Int) < (n : Int) := by omega
          have hfI : (f : Int) < (n : Int) := by omega
          have lk2 := lk1 _ (Below.refl wr.heap.size wr)
          have lk3 := lk1 _ (Below.refl wr.heap.size wr).drew
          have HLK := Lib.hid lk1
          clear ra rb ka kb hld hlf lk lk1 ow mfz kd hil
          go_upto_region 13 with fail
          go_cut [9, 10] from 57 to 68 (fun s t wx => s = .int .i64 (ld : Int) ∧ t = .int .i64 (lf : Int) ∧ Hid (Below wr.heap.size wr wx))
          case first =>
            go_region
            all_goals (go_wp2_with fail)
            all_goals (go_meet)
            all_goals exact ⟨rfl, rfl, (Below.refl _ _).drew⟩
          case rest =>
            obtain ⟨rfl, rfl, HW⟩ := hcut
            obtain ⟨wa, rfl⟩ : ∃ wa : World, wa = wc := ⟨_, rfl⟩
            have MT := Lib.hid (fun (x : Nat) (hx : x ≤ 1000) (W : World) => rmate_p x W (by omega))
            have lk4 := HLK.out _ HW.out
            have lk5 := HLK.out _ HW.out.drew
            have HL1 : Hid (stp l 1 d = mateN d ∧ stp l' 1 f = mateN f) := ⟨(mt_mateN d).symm, (mt_mateN f).symm⟩
            clear lk2 lk3 ca cb x0 x1 x2 x3
            go_upto_if 70 with fail
            go_cut [9, 10] from 70 to 76 (fun s t wx => s = .int .i64 ((stp l j d : Nat) : Int) ∧ t = .int .i64 ((stp l' j f : Nat) : Int) ∧ Hid (Below wr.heap.size wr wx))
            case first =>
              by_cases hj1 : j = 1
              · have hjb : ((j : Int) == 1) = true := by rw [hj1]; rfl
                have M1 := Lib.hid (fun W => MT.out d (by omega) W)
                have M2 := Lib.hid (fun W => MT.out f (by omega) W)
                have e1 : Hid (stp l j d = mateN d ∧ stp l' j f = mateN f) := by show _ ∧ _; rw [hj1]; exact HL1.out
                clear MT hj1 HL1 HL0
                generalize stp l j d = X at *
                generalize stp l' j f = Y at *
                generalize mateN d = md at *
                generalize mateN f = mf at *
                have SKL : Hid (∀ W, Below wa.heap.size wa W → Below wa.heap.size wa W ∧ (Instr.lookup 65 (.map (some (w.heap.size + 2))) (.int .i64 (d : Int)) false).run Try.prog W = .ok (.int .i64 (f : Int)) W) := fun W mm => ⟨mm, HLK.out _ (HW.out.trans (mm.mono HW.out.size))⟩
                have hba0 := Below.refl wa.heap.size wa
                have hba1 := hba0.drew
                clear lk4 lk5
                obtain ⟨_, lk4⟩ := SKL.out _ hba0
                obtain ⟨_, lk5⟩ := SKL.out _ hba1
                go_upto_region 15 with fail
                go_region_held3 (fun W => Below wa.heap.size wa W ∧ (Instr.lookup 65 (.map (some (w.heap.size + 2))) (.int .i64 (d : Int)) false).run Try.prog W = .ok (.int .i64 (f : Int)) W)
                  (exact SKL.out _ (by assumption))
                  (first
                  | (go_at_call 39; (with_reducible refine (M1.out _).mono ?_); rintro e wf ⟨rfl, rfl⟩)
                  | (go_at_call 39; (with_reducible refine (M2.out _).mono ?_); rintro e wf ⟨rfl, rfl⟩))
                all_goals (go_wp2_with fail)
                all_goals go_meet
                all_goals exact ⟨by rw [e1.out.1], by rw [e1.out.2], HW.out.trans (hba1.mono HW.out.size)⟩
              · have hjb : ((j : Int) == 1) = false := by rw [beq_eq_false_iff_ne]; omega
                have hj0 : j = 0 := by omega
                have e1 : Hid (stp l j d = ld ∧ stp l' j f = lf) := by show _ ∧ _; rw [hj0]; exact HL0.out
                clear hj1 hj0 MT
                go_wp2_with fail
                go_meet
                exact ⟨by rw [e1.out.1], by rw [e1.out.2], HW⟩
            case rest =>
              obtain ⟨rfl, rfl, HW2⟩ := hcut
              obtain ⟨wb, rfl⟩ : ∃ wb : World, wb = wc := ⟨_, rfl⟩
              clear lk4 lk5 HL1 HL0 HLK MT HW
              have HS2 := HS.out.mod (Mod.none_ HW2.out (fun _ => False)) id
              have hq2 := HQ.out.mod (Mod.none_ HW2.out (fun _ => False)) id
              have hb2 : Below (w.heap.size + 2) w2 wb := HB.out.trans (HW2.out.mono (by have := HB.out.size; omega))
              have hxn : stp l j d < n := by have := stp_lt HI.out HEV.out j (x := d) (by rw [HN.out]; exact hdn); rwa [HN.out] at this
              have hyn : stp l' j f < n := by have := stp_lt HI'.out (by rw [HLE.out]; exact HEV.out) j (x := f) (by rw [HLE.out, HN.out]; exact hfn); rwa [HLE.out, HN.out] at this
              obtain ⟨D, ow, mfz, kd⟩ := HS2
              have hil : img2.length = n := by rw [HT.out.il]; exact HN.out
              have lk := look_f ow mfz.mf (stp l j d) (by omega) (by omega)
              have hlenQ := HT.out.len
              rw [HN.out] at hlenQ
              have hfi : img2.getD (Q2.getD i 0) 0 = ((f : Nat) : Int) := by rw [HTS.out.1]; exact HTS.out.2.1
              obtain ⟨x, hx⟩ : ∃ x, x = stp l j d := ⟨_, rfl⟩
              obtain ⟨y, hy⟩ : ∃ y, y = stp l' j f := ⟨_, rfl⟩
              have HX : Hid (stp l j (Q2.getD i 0) = x) := by show _ = _; rw [HTS.out.1, hx]
              have HY : Hid (stp l' j f = y) := hy.symm
              rw [← hx] at hxn lk ⊢
              rw [← hy] at hyn ⊢
              have hFI := Lib.hid hfi
              clear hx hy hfi
              by_cases hv : img2.getD x 0 = -1
              · have hT1 := HT.out.new HI.out HI'.out HLE.out HEV.out HTS.out.2.2.1 (by rw [HN.out]; exact hfn) hFI.out (by rw [HX.out]; exact hv)
                rw [HX.out, HY.out] at hT1
                have HT1 := Lib.hid hT1
                have hl1 := hT1.len
                rw [HN.out, List.length_append] at hl1
                have hl2 : Q2.length + 1 ≤ n := hl1
                rw [hv] at lk
                obtain ⟨w5, hrun5, ow5, gr5⟩ := put_m ow (by omega) x (by omega) (y : Int) (by omega)
                have mf5 := mfz.put (by omega) hv (y : Int) (by omega)
                have st5 : TqSt n (w.heap.size + 2) (Q2 ++ [x]) (img2.set x (y : Int)) w5 := ⟨_, by rw [List.length_append]; exact ow5, by rw [List.length_append]; exact mf5, kd.put hxn _⟩
                have hg2 := hq2.bg
                have q5 := hq2.mod (Mod.ofGrown gr5) (fun e => by have := Option.some.inj e; omega)
                obtain ⟨g3, o3, c4, w6, hrun6, q6, m6, _⟩ := q5.push (x : Int) (by omega)
                rw [rq_app Q2 (i + 1) x (by have := HTS.out.2.2.1; omega)] at q6
                have HQ6 := Lib.hid q6
                have HS6 := Lib.hid (st5.mod m6 (by omega))
                have b5 : Below (w.heap.size + 2) w2 w5 := hb2.grown gr5 (by have := ow.lt; omega) (fun k hk => by cases hk; omega)
                have HB6 := Lib.hid (b5.trans (m6.belowB (by have := b5.size; omega) (fun k hk e => by omega)))
                have HTS6 : Hid ((Q2 ++ [x]).getD i 0 = d ∧ (img2.set x (y : Int)).getD d 0 = ((f : Nat) : Int) ∧ i < (Q2 ++ [x]).length ∧ Q.length ≤ (Q2 ++ [x]).length) := by
                  refine ⟨by rw [getD_left _ _ _ HTS.out.2.2.1]; exact HTS.out.1, ?_, by rw [List.length_append]; have := HTS.out.2.2.1; omega, by rw [List.length_append]; have := HTS.out.2.2.2; omega⟩
                  rw [getDI_set _ _ _ _ (by omega), if_neg (fun e => by have := HTS.out.2.1; rw [e] at this; omega)]
                  exact HTS.out.2.1
                have HM6 : Hid (i + 1 + (m2 + 1) = (Q2 ++ [x]).length) := by show _ = _; rw [List.length_append]; have := HM2.out; simp; omega
                have hm6 : m2 + 1 ≤ n := by have := HM2.out; omega
                have lk' : (Instr.lookup 65 (.map (some (w.heap.size + 2))) (.int .i64 (x : Int)) true).run Try.prog wb = .ok (.tuple #[.int .i64 0, .bool false]) wb := by simpa using lk
                clear hT1 hl1 hl2 lk hv ow mfz kd ow5 gr5 mf5 st5 hg2 q5 q6 m6 b5 hq2 hb2 hil hlenQ HS HQ HB HW2 HT HTS HM2 hFI HX HY
                go_wp2_with (first | (at_builtin; go_must (refine wpList_append_runR rfl _ _ _ rfl _ _ _ _ rfl rfl hrun6 ?_)))
                go_roundw
                case rel => exact ⟨j + 1, m2 + 1, g3, o3, c4, Q2 ++ [x], img2.set x (y : Int), by omega, by go_num, rfl, hm6, HM6, HT1, HTS6, HQ6, HS6, HB6⟩
                case measure => simp [intOf]; omega
              · obtain ⟨z, hzn, hz⟩ := HT.out.to_ x (by rw [HN.out]; exact hxn) hv
                rw [hz] at lk
                have lk' : (Instr.lookup 65 (.map (some (w.heap.size + 2))) (.int .i64 (x : Int)) true).run Try.prog wb = .ok (.tuple #[.int .i64 (z : Int), .bool true]) wb := by
                  rw [if_neg (by omega), decide_eq_true (show (z : Int) ≠ -1 by omega)] at lk
                  exact lk
                have HS6 : Hid (TqSt n (w.heap.size + 2) Q2 img2 wb) := ⟨D, ow, mfz, kd⟩
                have HQ6 := Lib.hid hq2
                have HB6 := Lib.hid hb2
                by_cases hzy : z = y
                · have HT1 := Lib.hid (HT.out.old hFI.out (by rw [HX.out, HY.out, hz, hzy]))
                  have hb : ((z : Int) != (y : Int)) = false := by rw [hzy]; simp
                  clear lk hv hz hzy ow mfz kd hil hlenQ HS HQ HB HW2 HT hq2 hb2 hFI HX HY
                  go_wp2_with fail
                  go_roundw
                  case rel => exact ⟨j + 1, m2, g2, o2, c3, Q2, img2, by omega, by go_num, rfl, hm2, HM2, HT1, HTS, HQ6, HS6, HB6⟩
                  case measure => simp [intOf]; omega
                · have hf : ans = false := by
                    cases ans with
                    | false => rfl
                    | true => exact absurd (HANS.out.1 rfl) (HT.out.no HI.out HEV.out HTS.out.2.2.1 hFI.out (by rw [HX.out]; exact hz) (by rw [HY.out]; exact hzy))
                  have hb : ((z : Int) != (y : Int)) = true := by rw [bne_iff_ne]; omega
                  have BW := Lib.hid (B2.out.trans (hb2.mono (by omega)))
                  clear lk hv hz hzy ow mfz kd hil hlenQ HS HQ HB HW2 HT hq2 hb2 hFI HX HY HS6 HQ6 HB6 HANS
                  subst hf
                  go_wp2_with fail
                  go_ret
                  exact ⟨rfl, BW.out⟩
        · obtain rfl : j = 2 := by omega
          have HT1 := Lib.hid HT.out.next
          obtain ⟨D, ow, mfz, kd⟩ := HS.out
          have HMS2 := Lib.hid (msz_is ow mfz)
          have hlenQ := HT.out.len
          rw [HN.out] at hlenQ
          have HLQ := Lib.hid hlenQ
          have HTS2 := Lib.hid HTS.out.2.2
          have HM3 := HM2
          clear ow mfz kd HT HTS hlenQ
          go_wp2_with fail
          go_roundw
          case rel => exact ⟨m2, g2, o2, c3, i + 1, Q2, img2, rfl, hm2, HM2, HT1, HQ, HS, HB⟩
          case measure =>
            rw [HMS2.out, HMS.out]
            simp only [lenOf]
            have := HM3.out
            have := HM.out
            have := HTS2.out
            have := HLQ.out
            omega
    · obtain rfl : m = 0 := by omega
      have hdm : decide ((0 : Nat) < 0) = false := by simp
      obtain rfl : i = Q.length := by have := HM.out; omega
      have hfull : Q.length = n := by rw [← HN.out]; exact HT.out.full HI.out HEV.out HR.out HP.out
      have hdone := HT.out.done HI.out HLE.out HEV.out HR.out HP.out
      rw [HN.out] at hdone
      have HDN : Hid (ans = true ↔ ∀ y, y < n → num (fun x => img.getD x 0 = ((y : Nat) : Int)) n = 1) := HANS.out.trans hdone
      have HIM : Hid (∀ x, x < n → ∃ y : Nat, y < n ∧ img.getD x 0 = (y : Int)) := fun x hx => by
        have h1 := HT.out.all HI.out HEV.out HR.out HP.out x (by rw [HN.out]; exact hx)
        have h2 := HT.out.to_ x (by rw [HN.out]; exact hx) ((HT.out.mem x (by rw [HN.out]; exact hx)).1 h1)
        rwa [HN.out] at h2
      have hil : img.length = n := by rw [HT.out.il]; exact HN.out
      obtain ⟨D, ow, mfz, kd⟩ := HS.out
      rw [hfull] at ow mfz
      have HMF : Hid (MFz D img n ∧ KD D n ∧ img.length = n) := ⟨mfz, kd, hil⟩
      have HAS : Hid (∀ x, x < n → Maps.has D (kI x) = true) := fun x hx => by
        rw [mfz.mf.has_ x (by omega), decide_eq_true_iff]
        obtain ⟨y, _, e⟩ := HIM.out x hx
        rw [e]; omega
      have hmk := HMK.out
      obtain ⟨x0, x1, x2, x3⟩ := SK.out _ HB.out
      have hgl := ow.lt
      obtain ⟨v, hv⟩ : ∃ v, v = wr.alloc (.cells (Array.replicate n (.int .i64 0)) 3) := ⟨_, rfl⟩
      have OWV : Hid (OwnM v (w.heap.size + 2) n D) := by show OwnM _ _ _ _; rw [hv]; exact World.ownsMap.alloc ow _
      have HRW : Hid (v.ownsRow (w.heap.size + 3) 3 1 (.slice (some ⟨wr.heap.size, 0, none⟩) n n) n (I64 (List.replicate n 0))) := by
        show World.ownsRow _ _ _ _ _ _ _
        have := own_made wr 3 n (.int .i64 0) (by simp only [maxLen]; omega)
        rw [List.toArray_replicate] at this
        rw [I64_replicate, hv]
        exact this.base_le' (by omega)
      have HBV : Hid (Below (w.heap.size + 2) w2 v) := by show Below _ _ _; rw [hv]; exact HB.out.alloc (by have := HB.out.size; omega) _
      have hsv : v.heap.size = wr.heap.size + 1 := by rw [hv]; simp
      obtain ⟨gb, hgb⟩ : ∃ gb, gb = wr.heap.size := ⟨_, rfl⟩
      have hgb2 : w.heap.size + 3 ≤ gb := by omega
      rw [← hgb] at HRW hsv
      have HSV := Lib.hid hsv
      clear hfull hdone hil ow mfz kd HT HM HQ HS HB HANS hqb hql hgl HP HI HI' HLE HEV HR HA
      go_upto_region 23 with fail
      rw [← hv]
      simp only [← hgb]
      clear hv x0 x1 x2 x3 hmk hgb hsv
      go_wp2_with (first
        | (at_range; refine wpList_range_own _ rfl _ 65 rfl 3 3 mlaw Try.underlying65 _ (w.heap.size + 2) n D rfl OWV.out ?_; intro w0 hrg0 hg0 hs0)
        | go_in)
      go_frame
      have hq0 := HRW.out.lt gb rfl
      have HQ0 : Hid (gb < v.heap.size) := hq0.2
      have HL0 : Hid (∀ kl, Maps.has D kl = true → ∃ x, x < n ∧ kl = kI x) := HMF.out.2.1
      have HC0 : Hid ((List.replicate n (0 : Int)).length = n ∧ ∀ y, y < n → (List.replicate n (0 : Int)).getD y 0 = ((num (fun x => img.getD x 0 = ((y : Nat) : Int) ∧ Maps.has D (kI x) = false) n : Nat) : Int)) := by
        refine ⟨by simp, fun y hy => ?_⟩
        have e : num (fun x => img.getD x 0 = ((y : Nat) : Int) ∧ Maps.has D (kI x) = false) n = 0 := num_noneW fun x hx c => by
          rw [HAS.out x hx] at c; exact absurd c.2 (by simp)
        rw [e]
        simp [List.getD_eq_getElem?_getD, hy]
      have HR0 := Lib.hid hrg0
      have HRW0 : Hid (w0.ownsRow (w.heap.size + 3) 3 1 (.slice (some ⟨gb, 0, none⟩) n n) n (I64 (List.replicate n 0))) := own_mod HRW.out (Mod.ofGrown hg0) (fun k hk e => by cases e)
      have HB0 : Hid (Below (w.heap.size + 2) w2 w0) := HBV.out.grown hg0 (by have := HSV.out; omega) (fun k hk => by cases hk)
      have hw0 := hs0
      clear hrg0 hg0 hs0 hq0 HRW HBV OWV
      go_loopw [15] (fun _ wr => ∃ (left : Lit → Bool) (cnt : Nat) (bk : List Int), Hid (wr.ranges Try.prog 3 (plainElem Try.prog 3) (w.heap.size + 2) v.heap.size n D left cnt) ∧ Hid (∀ kl, left kl = true → ∃ x, x < n ∧ kl = kI x) ∧ Hid (bk.length = n ∧ ∀ y, y < n → bk.getD y 0 = ((num (fun x => img.getD x 0 = ((y : Nat) : Int) ∧ left (kI x) = false) n : Nat) : Int)) ∧ Hid (wr.ownsRow (w.heap.size + 3) 3 1 (.slice (some ⟨gb, 0, none⟩) n n) n (I64 bk)) ∧ Hid (Below (w.heap.size + 2) w2 wr)) (fun _ wr => wr.rangeLeft (w.heap.size + 2) v.heap.size)
      case atStart => exact ⟨_, _, _, HR0, HL0, HC0, HRW0, HB0⟩
      case round =>
        clear HR0 HL0 HC0 HRW0 HB0 HAS
        obtain ⟨left, cnt, bk, HRG, HL, HC, HO, HB⟩ := hrel
        have hrg := HRG.out
        go_wp2_with (first
          | (at_next; refine wpList_next_ranges_ii _ rfl _ rfl 3 3 .i64 .i64 mlaw Try.underlying3 Try.underlying3 (w.heap.size + 2) v.heap.size n _ _ _ rfl hrg ?_ ?_)
          | go_in)
        · intro hc0 hl0
          have HEND : Hid (bk.length = n ∧ ∀ y, y < n → bk.getD y 0 = ((num (fun x => img.getD x 0 = ((y : Nat) : Int)) n : Nat) : Int)) := by
            refine ⟨HC.out.1, fun y hy => ?_⟩
            rw [HC.out.2 y hy]
            congr 1
            exact num_congr fun x hx => ⟨fun c => c.1, fun c => ⟨c, hl0 _⟩⟩
          have LN := len_z hrg.owns HMF.out.1
          obtain ⟨x0, x1, x2, x3⟩ := SK.out _ HB.out
          have BW := Lib.hid (B2.out.trans (HB.out.mono (by omega)))
          clear hc0 hl0 hrg HRG HL HC HB
          go_wp2_with fail
          go_loopw [116] (fun i wr' => ∃ t : Nat, t ≤ n ∧ i = .int .i64 (t : Int) ∧ Hid (∀ y, y < t → bk.getD y 0 = 1) ∧ wr' = wr) (fun i _ => n - (intOf i).toNat)
          case atStart => exact ⟨0, by omega, rfl, fun y hy => absurd hy (by omega), rfl⟩
          case round =>
            obtain ⟨t, ht, rfl, H1, rfl⟩ := hrel
            by_cases htn : t < n
            · have hdt : decide (t < n) = true := by rw [decide_eq_true_iff]; exact htn
              have hti : (t : Int) < (n : Int) := by omega
              have hc := own_cellI HO.out t htn
              obtain ⟨u, hu⟩ : ∃ u, u = bk.getD t 0 := ⟨_, rfl⟩
              rw [← hu] at hc
              have HU := Lib.hid hu
              clear hu
              by_cases hu1 : u = 1
              · have hb : (u != 1) = false := by rw [hu1]; rfl
                have H2 : Hid (∀ y, y < t + 1 → bk.getD y 0 = 1) := fun y hy => by
                  by_cases e : y = t
                  · rw [e, ← HU.out]; exact hu1
                  · exact H1.out y (by omega)
                clear hu1
                go_wp2_with fail
                go_roundw
                case rel => exact ⟨t + 1, by omega, by go_num, H2, trivial⟩
                case measure => simp [intOf]; omega
              · have hb : (u != 1) = true := by rw [bne_iff_ne]; exact hu1
                have hf : ans = false := by
                  cases ans with
                  | false => rfl
                  | true =>
                    have h1 := HDN.out.1 rfl t htn
                    have h2 := HEND.out.2 t htn
                    rw [h1, ← HU.out] at h2
                    exact absurd h2 hu1
                clear hu1 HDN
                subst hf
                go_wp2_with fail
                go_ret
                exact ⟨rfl, BW.out⟩
            · obtain rfl : t = n := by omega
              have hdt : decide (t < t) = false := by simp
              have hf : ans = true := HDN.out.2 fun y hy => by
                have h1 := H1.out y hy
                have h2 := HEND.out.2 y hy
                rw [h1] at h2
                omega
              clear HDN
              subst hf
              go_wp2_with fail
              go_ret
              exact ⟨by simp, BW.out⟩
        · intro x cc w1 cnt1 hwx hwc hlx hat hrg1 hlt hg1 hs1 hen
          obtain ⟨x0, hx0, e0⟩ := HL.out _ hlx
          obtain rfl : x = (x0 : Int) := by unfold kI at e0; simpa using e0
          obtain ⟨y0, hy0, hiy⟩ := HIM.out x0 hx0
          obtain rfl : cc = (y0 : Int) := by
            have h1 := hat (.lit (.int .i64 0))
            have h2 := HMF.out.1.mf.at_ x0 (by have := HMF.out.2.2; omega)
            rw [hiy, if_neg (by omega)] at h2
            have h3 : D.atKey (.int .i64 (x0 : Int)) (.lit (.int .i64 0)) = .lit (.int .i64 (y0 : Int)) := h2
            rw [h3] at h1
            simpa using h1.symm
          have ho1 : w1.ownsRow (w.heap.size + 3) 3 1 (.slice (some ⟨gb, 0, none⟩) n n) n (I64 bk) := own_mod HO.out (Mod.ofGrown hg1) (fun k hk e => by
            have := Option.some.inj e
            simp [Value.ownBlock] at hk
            have := HQ0.out
            omega)
          have hcy := own_cellI ho1 y0 hy0
          have hfy := ho1.frozenAt y0
          obtain ⟨q, hq⟩ : ∃ q, q = num (fun x => img.getD x 0 = ((y0 : Nat) : Int) ∧ left (kI x) = false) n := ⟨_, rfl⟩
          have hqb : bk.getD y0 0 = (q : Int) := by rw [HC.out.2 y0 hy0, hq]
          have hqn : q ≤ n := by rw [hq]; exact num_le _ _
          rw [hqb] at hcy
          have wq : IntKind.i64.wrap ((q : Int) + 1) = (q : Int) + 1 := by simp [IntKind.wrap, IntKind.signed, IntKind.bits]; omega
          have hyi : (y0 : Int) < (n : Int) := by omega
          have HO2 := Lib.hid (own_setI ho1 y0 ((q : Int) + 1))
          have MM : Mod (fun k => k = gb) w1 (w1.setCell ⟨gb, y0, none⟩ (.int .i64 ((q : Int) + 1))) := Mod.setCell (p := ⟨gb, y0, none⟩) (Mod.refl (fun k => k = gb) w1) (fun _ => rfl) _
          have hgr : w1.grownBy (w1.setCell ⟨gb, y0, none⟩ (.int .i64 ((q : Int) + 1))) (some gb) := ⟨MM.os, MM.tape, MM.output, MM.size, fun k hk hne => MM.block k hk (fun e => hne (by rw [e]))⟩
          have HRG2 := Lib.hid (hrg1.kept hgr (fun e => by have := Option.some.inj e; omega) (fun e => by have := Option.some.inj e; have := HQ0.out; omega))
          have hv0 : w.heap.size + 2 ≤ v.heap.size := by have := HQ0.out; omega
          have HB2 : Hid (Below (w.heap.size + 2) w2 (w1.setCell ⟨gb, y0, none⟩ (.int .i64 ((q : Int) + 1)))) := (HB.out.grown hg1 (by have := HB.out.size; omega) (fun k hk => by cases hk; exact hv0)).setCell (p := ⟨gb, y0, none⟩) (by show w.heap.size + 2 ≤ gb; omega) _
          have hsame : ∀ z : Nat, (kI z).sameKey (.int .i64 (x0 : Int)) = decide (z = x0) := fun z => by
            by_cases e : z = x0
            · rw [e, decide_eq_true rfl]; simp [kI, Lit.sameKey]
            · rw [decide_eq_false e]; exact sameKey_ne (kI_ne e)
          have HL2 : Hid (∀ kl, (left kl && !kl.sameKey (.int .i64 (x0 : Int))) = true → ∃ x, x < n ∧ kl = kI x) := fun kl hk => HL.out kl (by rw [Bool.and_eq_true] at hk; exact hk.1)
          have hlx0 : left (kI x0) = true := hlx
          have HC2 : Hid ((bk.set y0 ((q : Int) + 1)).length = n ∧ ∀ y, y < n → (bk.set y0 ((q : Int) + 1)).getD y 0 = ((num (fun x => img.getD x 0 = ((y : Nat) : Int) ∧ (left (kI x) && !(kI x).sameKey (.int .i64 (x0 : Int))) = false) n : Nat) : Int)) := by
            refine ⟨by rw [List.length_set]; exact HC.out.1, fun y hy => ?_⟩
            rw [getDI_set _ _ _ _ (by have := HC.out.1; omega)]
            by_cases e : y = y0
            · rw [if_pos e, e, hq]
              have := num_less' (n := n) (a := x0) (Q := fun x => img.getD x 0 = ((y0 : Nat) : Int) ∧ (left (kI x) && !(kI x).sameKey (.int .i64 (x0 : Int))) = false) (R := fun x => img.getD x 0 = ((y0 : Nat) : Int) ∧ left (kI x) = false) hx0 ⟨hiy, by rw [hsame]; simp⟩ (fun z hz => by
                rw [hsame]
                constructor
                · rintro ⟨h1, h2⟩
                  exact ⟨⟨h1, by rw [h2]; rfl⟩, fun e => by rw [e, hlx0] at h2; cases h2⟩
                · rintro ⟨⟨h1, h2⟩, h3⟩
                  rw [decide_eq_false h3] at h2
                  simp at h2
                  exact ⟨h1, h2⟩)
              omega
            · rw [if_neg e, HC.out.2 y hy]
              congr 1
              refine num_congr fun z hz => ?_
              rw [hsame]
              by_cases e2 : z = x0
              · rw [e2, hiy]
                constructor
                · rintro ⟨h1, _⟩; omega
                · rintro ⟨h1, _⟩; omega
              · rw [decide_eq_false e2]; simp
          have hrl := HRG2.out.left_eq
          have hrl0 := hrg.left_eq
          have HLT : Hid ((w1.setCell ⟨gb, y0, none⟩ (.int .i64 ((q : Int) + 1))).rangeLeft (w.heap.size + 2) v.heap.size < wr.rangeLeft (w.heap.size + 2) v.heap.size) := by
            show _ < _
            rw [hrl, hrl0]; exact hlt
          clear hrl hrl0 hsame hlx0 hlx hat hrg1 hlt hg1 hs1 hgr MM hq hqb hv0 ho1 HC HL HO HRG hrg HB hwx hwc e0 hiy
          go_wp2_with fail
          go_roundw
          case rel => exact ⟨_, cnt1, _, HRG2, HL2, HC2, HO2, HB2⟩
          case measure => exact HLT.out
end Go.Proofs.Ytoncollcefanjaa
