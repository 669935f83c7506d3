/- A code is followed: the bits that it says. -/
import Derived.Test.YtcefohjddbjcjaaZCEnc
import Derived.Test.YtcefohjddbjcjaaZCIn
namespace Go.Proofs.Ytcefohjddbjcjaa
set_option maxRecDepth 20000
open Go.RowKit
set_option linter.unusedVariables false

/-- A vector within S. -/
def VecS (w : World) (S : Nat → Prop) (g : Nat) (l : List Nat) : Prop := ∃ A, VecAt w g (val l) l.length A ∧ ∀ i, foot g A i → S i
theorem VecS.mod {w w' : World} {S T : Nat → Prop} {g : Nat} {l : List Nat} (h : VecS w S g l) (m : Mod T w w') (hs : ∀ i, S i → ¬ T i) : VecS w' S g l := by
  obtain ⟨A, hv, sf⟩ := h
  exact ⟨A, hv.mod m (fun i hi => hs i (sf i hi)), sf⟩
theorem VecS.below {w w' : World} {S : Nat → Prop} {g : Nat} {l : List Nat} (h : VecS w S g l) (m : Below w.heap.size w w') : VecS w' S g l := by
  obtain ⟨A, hv, sf⟩ := h
  exact ⟨A, VecB.below hv m, sf⟩
theorem addS_p (g : Nat) (S : Nat → Prop) (l : List Nat) (b : Nat) (w : World) (hv : VecS w S g l) (hS : ∀ i, w.heap.size ≤ i → S i) (hb : b < 2) (hn : l.length + 65 ≤ 1000000) :
    Calls Try.prog 27 #[.pointer (some ⟨g, 0, none⟩), .slice (some ⟨w.heap.size, 0, none⟩) 1 1] (w.alloc (.cells #[.int .i64 (b : Int)] 3)) fun e w' =>
      e = .returned (.tuple #[]) ∧ VecS w' S g (l ++ [b]) ∧ Mod S w w' := by
  obtain ⟨A, h1, sf⟩ := hv
  refine (add1_p g l A b w h1 hb hn).mono ?_
  rintro e w' ⟨rfl, A', h2, m, ha⟩
  refine ⟨rfl, ⟨A', h2, ?_⟩, m.mono fun i _ hi => sf i hi⟩
  rintro i (rfl | ⟨b', rfl, rfl⟩)
  · exact sf _ (.inl rfl)
  · rcases ha with e | ⟨b2, e, h⟩
    · exact sf _ (.inr ⟨_, e.symm, rfl⟩)
    · cases e; exact hS _ h
theorem told_in (q sb g : Nat) (C ways : List Nat) (w0 : World) (hv : CodeV w0 g C) (hq : w0.heap.size ≤ q) (hn : ways.length + 200 ≤ 1000000) :
    Told 57 q sb (fun ws w => InS w q g (32 + (ways ++ ws).length) (valD C (ways ++ ws)) ∧ Below w0.heap.size w0 w) (fun i => i = q) 33 := by
  intro ws k w hk hl h
  refine (ifollow_p q g _ _ k C w0 w hv h.1 h.2 (by rw [List.length_append]; omega) hk).mono ?_
  rintro e w' ⟨rfl, h1, m⟩
  refine ⟨rfl, ⟨?_, h.2.trans (m.belowB h.2.size (fun i hi e => by omega))⟩, m⟩
  have h2 := valD_snoc C (ways ++ ws) k
  rw [← List.append_assoc, List.length_append, ← Nat.add_assoc]
  have e : (((2 * (((valD C (ways ++ ws) : Nat) : Int) - (k : Int) * 1073741824) + ((C.getD (32 + (ways ++ ws).length) 0 : Nat) : Int)) % 18446744073709551616).toNat) = valD C (ways ++ ws ++ [k]) := by
    rw [← h2]; rfl
  rw [e] at h1
  exact h1
theorem doublings_p (q g p v : Nat) (w : World) (h : InS w q g p v) (hp : 32 ≤ p) (hp2 : p ≤ 2000000) :
    Calls Try.prog 58 #[.pointer (some ⟨q, 0, none⟩)] w fun e w' => e = .returned (.int .i64 ((p - 32 : Nat) : Int)) ∧ w = w' := by
  have c1 : w.cell? ⟨q, 1, none⟩ = some (.int .i64 (p : Int)) := Blk.cell h 1
  have e1 : (p : Int) - 32 = ((p - 32 : Nat) : Int) := by omega
  have e2 : IntKind.i64.wrap ((p : Int) - 32) = ((p - 32 : Nat) : Int) := by rw [e1]; simp [IntKind.wrap, IntKind.signed, IntKind.bits]; omega
  obtain ⟨y, hy⟩ : ∃ y, y = p - 32 := ⟨_, rfl⟩
  rw [← hy] at e1 e2 ⊢
  clear h hy
  go_enter Try.func58, Try.ntmps58
  go_wp2_with fail
  go_ret
  exact ⟨by first | rfl | (show _ = _; simp [e1]), rfl⟩
/-- What the reader holds. -/
def DecS (w0 w : World) (S : Nat → Prop) (sb q m c g gw k : Nat) (C u : List Nat) : Prop :=
  SpanAt w sb (est k u).lo (est k u).hi ∧ (InS w q g (32 + (est k u).ways.length) (valD C (est k u).ways) ∧ Below w0.heap.size w0 w) ∧ ModS w m c (est k u).zs (est k u).os (est k u).c ∧ VecS w S gw u
/-- What following a code comes to. -/
def DecPost (w : World) (C : List Nat) (n k : Nat) (e : Ending) (w' : World) : Prop :=
  ((∃ u gw A, u.length = n ∧ Dec C k u ∧ BinB u ∧ (0 < n → (est k u).ways.length + 2 ≤ C.length) ∧ e = .returned (.tuple #[.pointer (some ⟨gw, 0, none⟩), .bool true]) ∧ VecAt w' gw (val u) u.length A ∧ w.heap.size ≤ gw) ∨
    (∃ u, u.length ≤ n ∧ Dec C k u ∧ BinB u ∧ C.length < (est k u).ways.length + 2 ∧ e = .returned (.tuple #[.pointer none, .bool false]))) ∧ Below w.heap.size w w'
set_option maxHeartbeats 4000000 in
theorem decode_p (k g n : Nat) (C : List Nat) (w : World) (hC : BinB C) (hv : CodeV w g C) (hk : k ≤ 8) (hn : n ≤ 29000) :
    Calls Try.prog 45 #[.pointer (some ⟨g, 0, none⟩), .int .i64 (n : Int), .int .i64 (k : Int)] w (DecPost w C n k) := by
  have HV := Lib.hid hv
  have HC := Lib.hid hC
  have NS := Lib.hid newSpan_p
  have BN := Lib.hid bnew_p
  have NM := Lib.hid (fun W => newModel_p k W hk)
  have hmf : ∀ (fn : Fn) (first cap : Array Value) (w : World), (Instr.makeFunc fn first cap).run Try.prog w = .ok (.func fn first cap) w := fun _ _ _ _ => rfl
  clear hv hC
  go_enter Try.func45, Try.ntmps45
  go_wp2_with fail
  refine (NS.out _).mono ?_
  rintro e w1 ⟨rfl, hs1, b1⟩
  have HS1 := Lib.hid hs1
  have B1 := Lib.hid b1
  have NI := Lib.hid (newInput_p g C HC.out w w1 HV.out b1)
  clear hs1 b1
  go_wp2_with fail
  refine NI.out.mono ?_
  rintro e w2 ⟨rfl, hi2, b2, l2⟩
  have HS2 := Lib.hid (Blk.below HS1.out b2)
  have HI2 := Lib.hid hi2
  have B2 := Lib.hid (B1.out.trans (b2.mono B1.out.size))
  have q1 := HS1.out.lt
  clear hi2 b2 HS1 NS NI
  obtain ⟨q, hq⟩ : ∃ q, q = w1.heap.size := ⟨_, rfl⟩
  rw [← hq] at HI2 q1 l2 ⊢
  clear hq B1
  go_wp2_with fail
  refine (NM.out _).mono ?_
  rintro e w3 ⟨m, c, rfl, hm, b3, m1, c1, m2, c2⟩
  have HS3 := Lib.hid (Blk.below HS2.out b3)
  have HI3 : Hid (InS w3 q g 32 (valD C [])) := Blk.below HI2.out b3
  have HM3 := Lib.hid hm
  have B3 := Lib.hid (B2.out.trans (b3.mono B2.out.size))
  have h23 := b3.size
  clear hm b3 HS2 HI2 B2 NM
  go_wp2_with fail
  refine (BN.out _).mono ?_
  rintro e w4 ⟨rfl, hv4, b4⟩
  have HS4 := Lib.hid (Blk.below HS3.out b4)
  have HI4 : Hid (InS w4 q g 32 (valD C [])) := Blk.below HI3.out b4
  have HM4 := Lib.hid (ModS.below HM3.out b4)
  have B4 := Lib.hid (B3.out.trans (b4.mono B3.out.size))
  have h34 := VecB.hlt hv4
  have HV4 := Lib.hid hv4
  clear hv4 b4 HS3 HI3 HM3 B3 BN
  obtain ⟨gw, hgw⟩ : ∃ gw, gw = w3.heap.size := ⟨_, rfl⟩
  rw [← hgw] at HV4 h34 m2 c2 h23 ⊢
  obtain ⟨S, hS⟩ : ∃ S : Nat → Prop, S = fun i => w.heap.size ≤ i ∧ i ≠ w.heap.size ∧ i ≠ q ∧ i ≠ m ∧ i ≠ c := ⟨_, rfl⟩
  have SH : Hid (∀ i, w4.heap.size ≤ i → S i) := fun i hi => by rw [hS]; exact ⟨by omega, by omega, by omega, by omega, by omega⟩
  have SN : Hid ((¬ S w.heap.size ∧ ¬ S q ∧ ¬ S m ∧ ¬ S c) ∧ m ≠ w.heap.size ∧ c ≠ w.heap.size ∧ q ≠ w.heap.size ∧ m ≠ q ∧ c ≠ q) := by
    refine ⟨⟨?_, ?_, ?_, ?_⟩, by omega, by omega, by omega, by omega, by omega⟩ <;> (rw [hS]; omega)
  have SL : Hid (∀ i, S i → w.heap.size ≤ i) := fun i hi => by rw [hS] at hi; exact hi.1
  have HE4 : Hid (DecS w w4 S w.heap.size q m c g gw k C []) := by
    show DecS _ _ _ _ _ _ _ _ _ _ _ _
    refine ⟨HS4.out, ⟨HI4.out, B4.out⟩, HM4.out, none, HV4.out, ?_⟩
    rintro i (rfl | ⟨b, e, _⟩)
    · rw [hS]; exact ⟨by omega, by omega, by omega, by omega, by omega⟩
    · cases e
  have BM : Hid (w.heap.size ≤ m ∧ w.heap.size ≤ c ∧ w.heap.size ≤ q ∧ w.heap.size ≤ gw) := ⟨by omega, by omega, by omega, by omega⟩
  obtain ⟨H, hH⟩ : ∃ H, H = w4.heap.size := ⟨_, rfl⟩
  rw [← hH] at SH
  have HHE : Hid (H ≤ w4.heap.size) := by show _ ≤ _; omega
  clear hS HS4 HI4 HM4 B4 HV4 m1 c1 m2 c2 h23 h34 q1 l2 hgw hH
  go_wp2_with fail
  go_loopw [21] (fun i wr => ∃ (j : Nat) (u : List Nat), j ≤ n ∧ i = .int .i64 (j : Int) ∧ Hid (u.length = j) ∧ Hid (DecS w wr S w.heap.size q m c g gw k C u) ∧ Hid (Dec C k u) ∧ Hid (BinB u) ∧ Hid (0 < j → (est k u).ways.length + 2 ≤ C.length) ∧ Hid (H ≤ wr.heap.size)) (fun i _ => n - (intOf i).toNat)
  case atStart => exact ⟨0, [], by omega, rfl, rfl, HE4, Dec.nil C k, fun _ h => by (cases h), fun h => absurd h (by omega), HHE⟩
  case round =>
    clear HE4 HHE
    obtain ⟨j, u, hj, rfl, HLU, HE, HD, HU, HWS, HH⟩ := hrel
    by_cases hlt : j < n
    · have EI := Lib.hid (est_ok k u)
      obtain ⟨st, hst⟩ : ∃ st, st = est k u := ⟨_, rfl⟩
      have HST := Lib.hid hst
      have WL : Hid (st.ways.length + 200 ≤ 1000000) := by
        have := est_ways k u
        rw [HLU.out, ← hst] at this
        show _ ≤ _; omega
      obtain ⟨V, hV⟩ : ∃ V, V = valD C st.ways := ⟨_, rfl⟩
      have HVV := Lib.hid hV
      obtain ⟨hsp, hin, hmo, hvc⟩ := HE.out
      rw [← hst] at EI hsp hin hmo
      clear hst hV
      have hcl : st.c < st.zs.length := by have := EI.out.cl; have := EI.out.lz; omega
      have hzl : st.zs.length ≤ 256 := by rw [EI.out.lz]; exact Nat.pow_le_pow_right (by decide) hk
      have CC : Hid (Calls Try.prog 51 #[.pointer (some ⟨m, 0, none⟩)] wr fun e w' => e = .returned (.agg #[.int .u64 ((st.z : Nat) : Int), .int .u64 ((st.o : Nat) : Int)]) ∧ Below wr.heap.size wr w') := mcounts_p m c st.zs st.os st.c wr hmo hcl hzl
      clear HE
      have HSP := Lib.hid hsp
      have HIN := Lib.hid hin
      have HMO := Lib.hid hmo
      have HVC := Lib.hid hvc
      clear hsp hin hmo hvc
      go_wp2_with fail
      refine CC.out.mono ?_
      rintro e w5 ⟨rfl, b5⟩
      have hsp5 := Blk.below HSP.out b5
      have z1 : 1 ≤ st.z := EI.out.zp _ EI.out.cl
      have o1 : 1 ≤ st.o := EI.out.op _ EI.out.cl
      have s1 : st.z + st.o < 65536 := EI.out.sum _ EI.out.cl
      have CM : Hid (Calls Try.prog 50 #[.pointer (some ⟨w.heap.size, 0, none⟩), .agg #[.int .u64 ((st.z : Nat) : Int), .int .u64 ((st.o : Nat) : Int)]] w5 fun e w' => e = .returned (.int .u64 ((st.mid : Nat) : Int)) ∧ Below w5.heap.size w5 w') := (mid_p w.heap.size st.lo st.hi st.z st.o w5 hsp5 EI.out.none_ EI.out.lt z1 o1 s1)
      have hmid : st.mid < 4294967296 := by have := EI.out.mid_in; have := EI.out.lt; omega
      have HSP5 := Lib.hid hsp5
      have HIN5 : Hid (InS w5 q g (32 + st.ways.length) V ∧ Below w.heap.size w w5) := ⟨by rw [HVV.out]; exact Blk.below HIN.out.1 b5, HIN.out.2.trans (b5.mono HIN.out.2.size)⟩
      have HMO5 := Lib.hid (ModS.below HMO.out b5)
      have HVC5 := Lib.hid (VecS.below HVC.out b5)
      have HH5 : Hid (H ≤ w5.heap.size) := Nat.le_trans HH.out b5.size
      clear hsp5 b5 CC HSP HIN HMO HVC HH
      go_wp2_with fail
      refine CM.out.mono ?_
      rintro e w6 ⟨rfl, b6⟩
      have HSP6 := Lib.hid (Blk.below HSP5.out b6)
      have HIN6 : Hid (InS w6 q g (32 + st.ways.length) V ∧ Below w.heap.size w w6) := ⟨Blk.below HIN5.out.1 b6, HIN5.out.2.trans (b6.mono HIN5.out.2.size)⟩
      have HMO6 := Lib.hid (ModS.below HMO5.out b6)
      have HVC6 := Lib.hid (VecS.below HVC5.out b6)
      have HH6 : Hid (H ≤ w6.heap.size) := Nat.le_trans HH5.out b6.size
      have x6 : w6.cell? ⟨q, 2, none⟩ = some (.int .u64 (V : Int)) := Blk.cell HIN6.out.1 2
      obtain ⟨md, hmd⟩ : ∃ md, md = st.mid := ⟨_, rfl⟩
      rw [← hmd] at hmid ⊢
      have HMD := Lib.hid hmd
      clear b6 HSP5 HIN5 HMO5 HVC5 HH5 CM hmd z1 o1 s1
      obtain ⟨b, hbe⟩ : ∃ b, b = if md < V then 1 else 0 := ⟨_, rfl⟩
      have HBE := Lib.hid hbe
      go_simp
      iterate 16 go_step
      go_cut [12, 13] from 22 to 32 (fun x y wx => x = .int .u64 (md : Int) ∧ y = .int .i64 (b : Int) ∧ w6 = wx)
      case first =>
        by_cases h : md < V
        · rw [if_pos h] at hbe
          subst hbe
          have h2 : (md : Int) < (V : Int) := by omega
          clear h
          go_wp2_with fail
          go_meet
          exact ⟨rfl, rfl, rfl⟩
        · rw [if_neg h] at hbe
          subst hbe
          have h2 : ¬ (md : Int) < (V : Int) := by omega
          clear h
          go_wp2_with fail
          go_meet
          exact ⟨rfl, rfl, rfl⟩
      case rest =>
        obtain ⟨rfl, rfl, rfl⟩ := hcut
        have hb2 : b < 2 := by rw [hbe]; split <;> omega
        have hd2 : Hid (Dec C k (u ++ [b])) := HD.out.snoc (by rw [HBE.out, HMD.out, HST.out, HVV.out, HST.out])
        have hu2 : Hid (BinB (u ++ [b])) := HU.out.append (fun x hx => by rw [List.mem_singleton.1 hx]; exact hb2)
        have NX : Hid (est k (u ++ [b]) = estep k st b) := by show _ = _; rw [est_snoc, HST.out]
        have hl2 : u.length + 65 ≤ 1000000 := by have := HLU.out; omega
        have CV := Lib.hid (addS_p gw S u b w6 HVC6.out (fun i hi => SH.out i (Nat.le_trans HH6.out hi)) hb2 hl2)
        clear hbe HBE HD HU x6 HVC6 hl2
        go_wp2_with fail
        refine CV.out.mono ?_
        rintro e w7 ⟨rfl, hv7, m7⟩
        have hsp7 := SpanAt.mod HSP6.out m7 SN.out.1.1
        have CN := Lib.hid (narrow_p w.heap.size st.lo st.hi b md w7 hsp7 hmid)
        have HIN7 : Hid (InS w7 q g (32 + st.ways.length) V ∧ Below w.heap.size w w7) := ⟨Blk.mod HIN6.out.1 m7 SN.out.1.2.1, HIN6.out.2.trans (m7.belowB HIN6.out.2.size (fun i hi h => absurd (SL.out i h) (by omega)))⟩
        have HMO7 := Lib.hid (ModS.mod HMO6.out m7 SN.out.1.2.2.1 SN.out.1.2.2.2)
        have HV7 := Lib.hid hv7
        have HH7 : Hid (H ≤ w7.heap.size) := Nat.le_trans HH6.out m7.size
        clear hv7 m7 hsp7 CV HSP6 HIN6 HMO6 HH6
        go_wp2_with fail
        refine CN.out.mono ?_
        rintro e w8 ⟨rfl, hsp8, m8⟩
        have HSP8 : Hid (SpanAt w8 w.heap.size (nLo st b) (nHi st b)) := by
          have := hsp8
          rw [HMD.out] at this; exact this
        have HIN8 : Hid (InS w8 q g (32 + st.ways.length) V ∧ Below w.heap.size w w8) := ⟨Blk.mod HIN7.out.1 m8 SN.out.2.2.2.1, HIN7.out.2.trans (m8.belowB HIN7.out.2.size (fun i hi h => by omega))⟩
        have HMO8 := Lib.hid (ModS.mod HMO7.out m8 SN.out.2.1 SN.out.2.2.1)
        have HV8 := Lib.hid (VecS.mod HV7.out m8 (fun i hi e => SN.out.1.1 (e ▸ hi)))
        have HH8 : Hid (H ≤ w8.heap.size) := Nat.le_trans HH7.out m8.size
        clear hsp8 m8 CN HIN7 HMO7 HV7 HH7
        obtain ⟨q1, q2, _, _⟩ := EI.out.narrow b
        have CW := Lib.hid (widen_p 57 q w.heap.size (nLo st b) (nHi st b)
          (fun ws w' => InS w' q g (32 + (st.ways ++ ws).length) (valD C (st.ways ++ ws)) ∧ Below w.heap.size w w') (fun i => i = q) w8 HSP8.out (fun e => SN.out.2.2.2.1 e.symm) (fun _ _ => rfl)
          (fun ws w1 w2 hh _ mm => ⟨Blk.mod hh.1 mm SN.out.2.2.2.1, hh.2.trans (mm.belowB hh.2.size (fun i hi e => by omega))⟩)
          (told_in q w.heap.size g C st.ways w HV.out BM.out.2.2.1 WL.out) ⟨by rw [List.append_nil, ← HVV.out]; exact HIN8.out.1, HIN8.out.2⟩ (Left.start q1 q2))
        clear q1 q2 HSP8 HIN8
        go_wp2_with fail
        refine CW.out.mono ?_
        rintro e w9 ⟨rfl, hsp9, hin9, m9⟩
        have HMO9 := ModS.mod HMO8.out m9 (fun h => h.elim SN.out.2.1 SN.out.2.2.2.2.1) (fun h => h.elim SN.out.2.2.1 SN.out.2.2.2.2.2)
        have CL := Lib.hid (learn_p m c st.zs st.os st.c b w9 HMO9 hcl hzl hb2 (upZ st b) (upO st b) rfl rfl (EI.out.up b).2.2)
        have HV9 := Lib.hid (VecS.mod HV8.out m9 (fun i hi h => h.elim (fun e => SN.out.1.1 (e ▸ hi)) (fun e => SN.out.1.2.1 (e ▸ hi))))
        have HSP9 := Lib.hid hsp9
        have HIN9 := Lib.hid hin9
        have HH9 : Hid (H ≤ w9.heap.size) := Nat.le_trans HH8.out m9.size
        clear hsp9 hin9 m9 HMO9 HMO8 HV8 HH8 CW
        go_wp2_with fail
        refine CL.out.mono ?_
        rintro e w10 ⟨rfl, hmo, m10⟩
        have hsp := SpanAt.mod HSP9.out m10 (fun h => h.elim (fun e => SN.out.2.1 e.symm) (fun e => SN.out.2.2.1 e.symm))
        have hin : InS w10 q g (32 + (st.ways ++ (wid 33 (nLo st b) (nHi st b)).1).length) (valD C (st.ways ++ (wid 33 (nLo st b) (nHi st b)).1)) ∧ Below w.heap.size w w10 := ⟨Blk.mod HIN9.out.1 m10 (fun h => h.elim (fun e => SN.out.2.2.2.2.1 e.symm) (fun e => SN.out.2.2.2.2.2 e.symm)), HIN9.out.2.trans (m10.belowB HIN9.out.2.size (fun i hi h => by have := BM.out; omega))⟩
        have hvc := VecS.mod HV9.out m10 (fun i hi h => h.elim (fun e => SN.out.1.2.2.1 (e ▸ hi)) (fun e => SN.out.1.2.2.2 (e ▸ hi)))
        rw [EI.out.lz] at hmo
        have HE : Hid (DecS w w10 S w.heap.size q m c g gw k C (u ++ [b])) := by
          show DecS _ _ _ _ _ _ _ _ _ _ _ _
          unfold DecS
          rw [NX.out]
          exact ⟨hsp, hin, hmo, hvc⟩
        have HH : Hid (H ≤ w10.heap.size) := Nat.le_trans HH9.out m10.size
        clear hsp hin hvc hmo m10 HSP9 HIN9 HV9 HH9 CL NX EI HST HVV HMD hcl hzl WL hmid
        have hl9 : (u ++ [b]).length = j + 1 := by have := HLU.out; simp; omega
        have hw9 := est_ways k (u ++ [b])
        rw [hl9] at hw9
        have CD := Lib.hid (doublings_p q g _ _ w10 HE.out.2.1.1 (by omega) (by omega))
        have CE := Lib.hid (HV.out.2 w10 HE.out.2.1.2)
        have HL9 := Lib.hid hl9
        generalize hW : (est k (u ++ [b])).ways.length = W at *
        have HWW := Lib.hid hW
        rw [show 32 + W - 32 = W by omega] at CD
        have hW9 : W ≤ 1000000 := by omega
        have hC9 : C.length = C.length := rfl
        obtain ⟨cl, hcl⟩ : ∃ cl, cl = C.length := ⟨_, rfl⟩
        rw [← hcl] at CE
        have HCL := Lib.hid hcl
        clear hl9 hw9 hW hC9 hcl
        go_wp2_with fail
        refine CD.out.mono ?_
        rintro e w11 ⟨rfl, rfl⟩
        by_cases hlen : cl < W + 2
        · have hlen2 : (cl : Int) < (W : Int) + 2 := by omega
          have HLN := Lib.hid hlen
          clear hlen
          go_wp2_with fail
          refine CE.out.mono ?_
          rintro e w12 ⟨rfl, rfl⟩
          go_wp2_with fail
          go_ret2
          exact ⟨.inr ⟨u ++ [b], by have := HL9.out; omega, hd2.out, hu2.out, by rw [HWW.out, ← HCL.out]; exact HLN.out, rfl⟩, HE.out.2.1.2⟩
        · have hlen2 : ¬ (cl : Int) < (W : Int) + 2 := by omega
          have HLN := Lib.hid hlen
          clear hlen
          go_wp2_with fail
          refine CE.out.mono ?_
          rintro e w12 ⟨rfl, rfl⟩
          go_wp2_with fail
          go_roundw
          case rel => exact ⟨j + 1, u ++ [b], by omega, by go_num, HL9, HE, hd2, hu2, fun _ => by have := HLN.out; have := HWW.out; have := HCL.out; omega, HH⟩
          case measure => simp [intOf]; omega
    · obtain rfl : j = n := by omega
      obtain ⟨hsp, hin, hmo, A, hva, sf⟩ := HE.out
      have HVA := Lib.hid hva
      have HIB := Lib.hid hin.2
      have SG := Lib.hid (sf gw (.inl rfl))
      clear hsp hin hmo hva sf HE
      go_wp2_with fail
      go_ret2
      exact ⟨.inl ⟨u, gw, A, HLU.out, HD.out, HU.out, HWS.out, rfl, HVA.out, SL.out gw SG.out⟩, HIB.out⟩
end Go.Proofs.Ytcefohjddbjcjaa
