/- The code of some bits, of an order: written. -/
import Derived.Test.YtcefohjddbjcjaaZg4
import Derived.Test.YtcefohjddbjcjaaZCOut
import Derived.Test.YtcefohjddbjcjaaZCWide
import Derived.Test.YtcefohjddbjcjaaZBRefB
namespace Go.Proofs.Ytcefohjddbjcjaa
set_option maxRecDepth 20000
open Go.RowKit
set_option linter.unusedVariables false

theorem outs_app (a b : List Nat) : outs (a ++ b) = b.foldl tellE (outs a) := by simp [outs]
/-- What a writer holds behind some bits. -/
def EncS (w : World) (S : Nat → Prop) (sb o m c : Nat) (s : Es) : Prop :=
  SpanAt w sb s.lo s.hi ∧ OutS w S o (outs s.ways).1 (outs s.ways).2 ∧ ModS w m c s.zs s.os s.c
theorem told_out (S : Nat → Prop) (o sb H : Nat) (ways : List Nat) (hS : ∀ i, H ≤ i → S i) (hn : ways.length + 200 ≤ 1000000) :
    Told 53 o sb (fun ws w => OutS w S o (outs (ways ++ ws)).1 (outs (ways ++ ws)).2 ∧ H ≤ w.heap.size) S 33 := by
  intro ws k w hk hl h
  have hle := outs_len (ways ++ ws)
  rw [List.length_append] at hle
  refine (ofollow_p o S _ _ k w h.1 (fun i hi => hS i (Nat.le_trans h.2 hi)) hk (by omega)).mono ?_
  rintro e w' ⟨rfl, h1, m⟩
  refine ⟨rfl, ⟨?_, Nat.le_trans h.2 m.size⟩, m⟩
  rw [← List.append_assoc, outs_snoc]
  exact h1
set_option maxHeartbeats 4000000 in
theorem encode_p (k : Nat) (pv : Option Addr) (l : List Nat) (w : World) (hb : BinB l) (hk : k ≤ 8) (hl : l.length ≤ 29000)
    (hLen : ∀ W, Below w.heap.size w W → Calls Try.prog 21 #[.pointer pv] W fun e w' => e = .returned (.int .i64 (l.length : Int)) ∧ W = w')
    (hAt : ∀ i, i < l.length → ∀ W, Below w.heap.size w W → Calls Try.prog 48 #[.pointer pv, .int .i64 (i : Int)] W fun e w' => e = .returned (.int .i64 ((l.getD i 0 : Nat) : Int)) ∧ W = w') :
    Calls Try.prog 42 #[.pointer pv, .int .i64 (k : Int)] w fun e w' => ∃ g A, e = .returned (.pointer (some ⟨g, 0, none⟩)) ∧ VecAt w' g (val (codeOf k l)) (codeOf k l).length A ∧ Below w.heap.size w w' ∧ w.heap.size ≤ g := by
  have HL := Lib.hid hLen
  have HA := Lib.hid hAt
  have HB := Lib.hid hb
  have NS := Lib.hid newSpan_p
  have BN := Lib.hid bnew_p
  have NM := Lib.hid (fun W => newModel_p k W hk)
  have hmf : ∀ (fn : Fn) (first cap : Array Value) (w : World), (Instr.makeFunc fn first cap).run Try.prog w = .ok (.func fn first cap) w := fun _ _ _ _ => rfl
  clear hLen hAt hb
  go_enter Try.func42, Try.ntmps42
  go_wp2_with fail
  refine (NS.out _).mono ?_
  rintro e w1 ⟨rfl, hs1, b1⟩
  have HS1 := Lib.hid hs1
  have B1 := Lib.hid b1
  clear hs1 b1
  go_wp2_with fail
  refine (BN.out _).mono ?_
  rintro e w2 ⟨rfl, hv2, b2⟩
  have HS2 := Lib.hid (Blk.below HS1.out b2)
  have HV2 := Lib.hid hv2
  have B2 := Lib.hid (B1.out.trans (b2.mono B1.out.size))
  have n1 := HS1.out.lt
  have n2 := VecB.hlt hv2
  have n3 := b2.size
  clear hv2 b2 HS1 NS BN
  obtain ⟨g, hg⟩ : ∃ g, g = w1.heap.size := ⟨_, rfl⟩
  rw [← hg] at HV2 n2 ⊢
  have hgs : w.heap.size < g := by omega
  clear hg n1 n3
  go_wp2_with fail
  have OB := Blk.new w2 80 #[.pointer (some ⟨g, 0, none⟩), .int .i64 0]
  have b3 := (Below.refl w2.heap.size w2).alloc (Nat.le_refl _) (.cells #[.pointer (some ⟨g, 0, none⟩), .int .i64 0] 80)
  have HO3 := Lib.hid OB
  have HS3 := Lib.hid (Blk.below HS2.out b3)
  have HV3 := Lib.hid (VecB.below HV2.out b3)
  have B3 := Lib.hid (B2.out.trans (b3.mono B2.out.size))
  have F3 : Hid (¬ foot g none w2.heap.size) := fun h => by rcases h with h | ⟨b, h, _⟩; (· omega); (· cases h)
  clear OB b3 HS2 HV2 B2
  generalize (w2.alloc (.cells #[.pointer (some ⟨g, 0, none⟩), .int .i64 0] 80)) = w3 at *
  generalize w2.heap.size = o at *
  refine (NM.out _).mono ?_
  rintro e w4 ⟨m, c, rfl, hm, b4, m1, c1, m2, c2⟩
  have HO4 := Lib.hid (HO3.out.below b4)
  have HS4 := Lib.hid (Blk.below HS3.out b4)
  have HV4 := Lib.hid (VecB.below HV3.out b4)
  have HM4 := Lib.hid hm
  have B4 := Lib.hid (B3.out.trans (b4.mono B3.out.size))
  have o3 := HO3.out.lt
  have s3 := HS3.out.lt
  have g3 := VecB.hlt HV3.out
  have h34 := b4.size
  clear hm b4 HO3 HS3 HV3 B3 NM
  obtain ⟨S, hS⟩ : ∃ S : Nat → Prop, S = fun i => w.heap.size ≤ i ∧ i ≠ w.heap.size ∧ i ≠ m ∧ i ≠ c := ⟨_, rfl⟩
  have SH : Hid (∀ i, w4.heap.size ≤ i → S i) := fun i hi => by rw [hS]; exact ⟨by omega, by omega, by omega, by omega⟩
  have SN : Hid (¬ S w.heap.size ∧ ¬ S m ∧ ¬ S c ∧ m ≠ w.heap.size ∧ c ≠ w.heap.size) := by
    refine ⟨?_, ?_, ?_, by omega, by omega⟩ <;> (rw [hS]; omega)
  have SL : Hid (∀ i, S i → w.heap.size ≤ i) := fun i hi => by rw [hS] at hi; exact hi.1
  have HE4 : Hid (EncS w4 S w.heap.size o m c (est k (l.take 0))) := by
    show EncS _ _ _ _ _ _ _
    rw [List.take_zero, est_nil]
    refine ⟨HS4.out, ⟨g, none, HO4.out, HV4.out, F3.out, ?_, ?_⟩, HM4.out⟩
    · rw [hS]; exact ⟨by omega, by omega, by omega, by omega⟩
    · rintro i (rfl | ⟨b, e, _⟩)
      · rw [hS]; exact ⟨by omega, by omega, by omega, by omega⟩
      · cases e
  have SZ : Hid (w4.heap.size ≤ w4.heap.size) := Nat.le_refl _
  have BM : Hid (w.heap.size ≤ m ∧ w.heap.size ≤ c) := ⟨by omega, by omega⟩
  clear hS HO4 HS4 HV4 HM4 F3 o3 s3 g3 m1 c1 m2 c2 h34 hgs n2
  obtain ⟨H, hH⟩ : ∃ H, H = w4.heap.size := ⟨_, rfl⟩
  rw [← hH] at SH
  have HHE : Hid (H ≤ w4.heap.size) := by show _ ≤ _; omega
  clear SZ hH
  go_wp2_with fail
  refine (HL.out _ B4.out).mono ?_
  rintro e w5 ⟨rfl, rfl⟩
  go_wp2_with fail
  go_loopw [17] (fun i wr => ∃ j : Nat, j ≤ l.length ∧ i = .int .i64 (j : Int) ∧ Hid (EncS wr S w.heap.size o m c (est k (l.take j))) ∧ Hid (Below w.heap.size w wr) ∧ Hid (H ≤ wr.heap.size)) (fun i _ => l.length - (intOf i).toNat)
  case atStart => exact ⟨0, by omega, rfl, HE4, B4, HHE⟩
  case round =>
    clear HE4 B4 HHE HL
    obtain ⟨j, hj, rfl, HE, HBw, HH⟩ := hrel
    by_cases hlt : j < l.length
    · have CA := Lib.hid (HA.out j hlt wr HBw.out)
      have hbb : l.getD j 0 < 2 := by
        rw [List.getD_eq_getElem?_getD, List.getElem?_eq_getElem hlt]; exact HB.out _ (List.getElem_mem hlt)
      have NX : Hid (est k (l.take (j + 1)) = estep k (est k (l.take j)) (l.getD j 0)) := by
        show _ = _
        rw [← est_snoc, take_one l j hlt]
      have EI := Lib.hid (est_ok k (l.take j))
      have WL : Hid ((est k (l.take j)).ways.length + 200 ≤ 1000000) := by
        have := est_ways k (l.take j)
        rw [List.length_take] at this
        show _ ≤ _; omega
      generalize l.getD j 0 = b at *
      generalize est k (l.take j) = st at *
      go_wp2_with fail
      refine CA.out.mono ?_
      rintro e w5 ⟨rfl, rfl⟩
      go_wp2_with fail
      obtain ⟨hsp, hou, hmo⟩ := HE.out
      have hcl : st.c < st.zs.length := by have := EI.out.cl; have := EI.out.lz; omega
      have hzl : st.zs.length ≤ 256 := by rw [EI.out.lz]; exact Nat.pow_le_pow_right (by decide) hk
      have CC : Hid (Calls Try.prog 51 #[.pointer (some ⟨m, 0, none⟩)] wr fun e w' => e = .returned (.agg #[.int .u64 ((st.z : Nat) : Int), .int .u64 ((st.o : Nat) : Int)]) ∧ Below wr.heap.size wr w') := mcounts_p m c st.zs st.os st.c wr hmo hcl hzl
      clear HE CA
      refine CC.out.mono ?_
      rintro e w5 ⟨rfl, b5⟩
      have hsp5 := Blk.below hsp b5
      have z1 : 1 ≤ st.z := EI.out.zp _ EI.out.cl
      have o1 : 1 ≤ st.o := EI.out.op _ EI.out.cl
      have s1 : st.z + st.o < 65536 := EI.out.sum _ EI.out.cl
      have CM : Hid (Calls Try.prog 50 #[.pointer (some ⟨w.heap.size, 0, none⟩), .agg #[.int .u64 ((st.z : Nat) : Int), .int .u64 ((st.o : Nat) : Int)]] w5 fun e w' => e = .returned (.int .u64 ((st.mid : Nat) : Int)) ∧ Below w5.heap.size w5 w') := (mid_p w.heap.size st.lo st.hi st.z st.o w5 hsp5 EI.out.none_ EI.out.lt z1 o1 s1)
      have hmid : st.mid < 4294967296 := by have := EI.out.mid_in; have := EI.out.lt; omega
      have HSP5 := Lib.hid hsp5
      have HOU5 := Lib.hid (OutS.mod hou (Mod.none_ b5 (fun _ => False)) (fun _ _ _ => id))
      have HMO5 := Lib.hid (ModS.below hmo b5)
      have HB5 := Lib.hid (HBw.out.trans (b5.mono HBw.out.size))
      have HH5 : Hid (H ≤ w5.heap.size) := Nat.le_trans HH.out b5.size
      clear hsp hou hmo hsp5 b5 CC HBw HH
      go_wp2_with fail
      refine CM.out.mono ?_
      rintro e w6 ⟨rfl, b6⟩
      have CN := Lib.hid (narrow_p w.heap.size st.lo st.hi b st.mid w6 (Blk.below HSP5.out b6) hmid)
      have HOU6 := Lib.hid (OutS.mod HOU5.out (Mod.none_ b6 (fun _ => False)) (fun _ _ _ => id))
      have HMO6 := Lib.hid (ModS.below HMO5.out b6)
      have HB6 := Lib.hid (HB5.out.trans (b6.mono HB5.out.size))
      have HH6 : Hid (H ≤ w6.heap.size) := Nat.le_trans HH5.out b6.size
      clear b6 HSP5 HOU5 HMO5 HB5 HH5 CM
      go_wp2_with fail
      refine CN.out.mono ?_
      rintro e w7 ⟨rfl, hsp7, m7⟩
      have HSP7 : Hid (SpanAt w7 w.heap.size (nLo st b) (nHi st b)) := hsp7
      have HOU7 := Lib.hid (OutS.mod HOU6.out m7 (fun i _ hi e => SN.out.1 (e ▸ hi)))
      have HMO7 := Lib.hid (ModS.mod HMO6.out m7 SN.out.2.2.2.1 SN.out.2.2.2.2)
      have HB7 : Hid (Below w.heap.size w w7) := HB6.out.trans ((m7.belowB HB6.out.size (fun i hi e => by omega)))
      have HH7 : Hid (H ≤ w7.heap.size) := Nat.le_trans HH6.out m7.size
      clear hsp7 m7 HOU6 HMO6 HB6 HH6 CN
      obtain ⟨q1, q2, _, _⟩ := EI.out.narrow b
      have CW := Lib.hid (widen_p 53 o w.heap.size (nLo st b) (nHi st b)
        (fun ws w => OutS w S o (outs (st.ways ++ ws)).1 (outs (st.ways ++ ws)).2 ∧ H ≤ w.heap.size) S w7 HSP7.out SN.out.1 (fun _ _ => rfl)
        (fun ws w1 w2 hh _ mm => ⟨OutS.mod hh.1 mm (fun i _ hi e => SN.out.1 (e ▸ hi)), Nat.le_trans hh.2 mm.size⟩)
        (told_out S o w.heap.size H st.ways SH.out WL.out) ⟨by rw [List.append_nil]; exact HOU7.out, HH7.out⟩ (Left.start q1 q2))
      clear q1 q2 HSP7 HOU7
      go_wp2_with fail
      refine CW.out.mono ?_
      rintro e w8 ⟨rfl, hsp8, ⟨hou8, hh8⟩, m8⟩
      have HMO8 := ModS.mod HMO7.out m8 (fun h => h.elim SN.out.2.2.2.1 SN.out.2.1) (fun h => h.elim SN.out.2.2.2.2 SN.out.2.2.1)
      have CL := Lib.hid (learn_p m c st.zs st.os st.c b w8 HMO8 hcl hzl hbb (upZ st b) (upO st b) rfl rfl (EI.out.up b).2.2)
      have HB8 : Hid (Below w.heap.size w w8) := HB7.out.trans (m8.belowB HB7.out.size (fun i hi h => h.elim (fun e => by omega) (fun h => absurd (SL.out i h) (by omega))))
      have HSP8 := Lib.hid hsp8
      have HOU8 := Lib.hid hou8
      have HH8 : Hid (H ≤ w8.heap.size) := hh8
      clear hsp8 hou8 hh8 m8 HMO8 HMO7 HB7 HH7 CW
      go_wp2_with fail
      refine CL.out.mono ?_
      rintro e w9 ⟨rfl, hmo9, m9⟩
      have hb9 := HB8.out.trans (m9.belowB HB8.out.size (fun i hi h => by have := BM.out; omega))
      have hsp9 := SpanAt.mod HSP8.out m9 (fun h => h.elim (fun e => SN.out.2.2.2.1 e.symm) (fun e => SN.out.2.2.2.2 e.symm))
      have hou9 := OutS.mod HOU8.out m9 (fun i _ hi h => h.elim (fun e => SN.out.2.1 (e ▸ hi)) (fun e => SN.out.2.2.1 (e ▸ hi)))
      rw [EI.out.lz] at hmo9
      have HE9 : Hid (EncS w9 S w.heap.size o m c (est k (l.take (j + 1)))) := by
        show EncS _ _ _ _ _ _ _
        rw [NX.out]
        exact ⟨hsp9, hou9, hmo9⟩
      have HB9 := Lib.hid hb9
      have HH9 : Hid (H ≤ w9.heap.size) := Nat.le_trans HH8.out m9.size
      clear hmo9 hb9 hsp9 hou9 m9 HSP8 HOU8 HB8 HH8 CL
      go_wp2_with fail
      go_roundw
      case rel => exact ⟨j + 1, by omega, by go_num, HE9, HB9, HH9⟩
      case measure => simp [intOf]; omega
    · obtain rfl : j = l.length := by omega
      rw [List.take_length] at HE
      obtain ⟨hsp, hou, hmo⟩ := HE.out
      have c0 : wr.cell? ⟨w.heap.size, 0, none⟩ = some (.int .u64 (((est k l).lo : Nat) : Int)) := Blk.cell hsp 0
      have hol := outs_len (est k l).ways
      have hwl := est_ways k l
      have CE := Lib.hid (oend_p o S _ _ (est k l).lo wr hou (fun i hi => SH.out i (Nat.le_trans HH.out hi)) (by omega))
      clear HE hsp hou hmo hol hwl HH
      generalize hlo : (est k l).lo = lo at *
      have HLO := Lib.hid hlo
      clear hlo
      go_wp2_with fail
      refine CE.out.mono ?_
      rintro e w2 ⟨rfl, ⟨g2, A2, ho2, hv2, _, so2, sf2⟩, m2⟩
      have c2 : w2.cell? ⟨o, 0, none⟩ = some (.pointer (some ⟨g2, 0, none⟩)) := Blk.cell ho2 0
      have hB2 := HBw.out.trans (m2.belowB HBw.out.size (fun i hi h => absurd (SL.out i h) (by omega)))
      have hg2 := SL.out g2 (sf2 g2 (.inl rfl))
      have HV2 : Hid (VecAt w2 g2 (val (codeOf k l)) (codeOf k l).length A2) := by
        show VecAt _ _ _ _ _
        unfold codeOf
        rw [HLO.out]; exact hv2
      have HB2 := Lib.hid hB2
      clear ho2 hv2 so2 sf2 m2 hB2 CE
      go_wp2_with fail
      go_ret
      exact ⟨g2, A2, rfl, HV2.out, HB2.out, hg2⟩
end Go.Proofs.Ytcefohjddbjcjaa
