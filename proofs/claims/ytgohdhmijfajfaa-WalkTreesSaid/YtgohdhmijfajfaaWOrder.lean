/- Order: the vertices in the order in which they are met; Contains of ints. -/
import Derived.Test.YtgohdhmijfajfaaWTreeM
import Derived.Test.YtgohdhmijfajfaaWTree
import Derived.Test.YtgohdhmijfajfaaWSides
namespace Go.Proofs.Ytgohdhmijfajfaa
set_option maxRecDepth 20000
open Go.RowKit
set_option linter.unusedVariables false
set_option maxHeartbeats 4000000 in
theorem index_p (A : Option Addr) (n c B : Nat) (K : List Int) (v : Int) (w : World) (h : Rd w B A n (I64 K)) (hn : n ≤ 300000) :
    Calls Try.prog 46 #[.slice A n c, .int .i64 v] w fun e w' => ∃ z : Int, e = .returned (.int .i64 z) ∧ (0 ≤ z ↔ v ∈ K) ∧ w = w' := by
  have HR := Lib.hid h
  have hKl : Hid (K.length = n) := by show _ = _; rw [← h.len, I64_len]
  clear h
  go_enter Try.func46, Try.ntmps46
  go_wp2_with fail
  go_loopw [8] (fun i wr => ∃ k : Nat, k ≤ n ∧ i = .int .i64 (k : Int) ∧ Hid (∀ j, j < k → K.getD j 0 ≠ v) ∧ w = wr) (fun i _ => n - (intOf i).toNat)
  case atStart => exact ⟨0, by omega, rfl, fun j hj => absurd hj (by omega), by first | rfl | trivial⟩
  case round =>
    obtain ⟨k, hk, rfl, hno, rfl⟩ := hrel
    by_cases hlt : k < n
    · obtain ⟨b, o, rfl, _, kk⟩ := HR.out.i64 (by omega)
      have t1 := kk k hlt
      obtain ⟨x, hx⟩ : ∃ x, x = K.getD k 0 := ⟨_, rfl⟩
      rw [← hx] at t1
      have HX := Lib.hid hx
      clear kk hx
      by_cases hv : v = x
      · subst hv
        have hm : Hid (v ∈ K) := by
          show _ ∈ _
          rw [HX.out, List.getD_eq_getElem?_getD, List.getElem?_eq_getElem (by rw [hKl.out]; exact hlt)]
          exact List.getElem_mem _
        go_wp2_with fail
        go_ret
        exact ⟨k, rfl, ⟨fun _ => hm.out, fun _ => by omega⟩, rfl⟩
      · have hb : (v == x) = false := by rw [beq_eq_false_iff_ne]; exact hv
        go_wp2_with fail
        go_roundw
        case rel =>
          refine ⟨k + 1, by omega, by go_num, fun j hj => ?_, by first | rfl | trivial⟩
          by_cases e : j = k
          · subst e; rw [← HX.out]; exact fun q => hv q.symm
          · exact hno.out j (by omega)
        case measure => simp [intOf]; omega
    · obtain rfl : k = n := by omega
      have hm : Hid (¬ v ∈ K) := by
        show ¬ _
        intro q
        obtain ⟨j, hj, e⟩ := List.getElem_of_mem q
        refine hno.out j (by have := hKl.out; omega) ?_
        rw [List.getD_eq_getElem?_getD, List.getElem?_eq_getElem hj]; exact e
      go_wp2_with fail
      go_ret
      exact ⟨-1, rfl, ⟨fun q => absurd q (by omega), fun q => absurd q hm.out⟩, rfl⟩
set_option maxHeartbeats 4000000 in
theorem contains_p (A : Option Addr) (n c B : Nat) (K : List Int) (v : Int) (w : World) (h : Rd w B A n (I64 K)) (hn : n ≤ 300000) :
    Calls Try.prog 22 #[.slice A n c, .int .i64 v] w fun e w' => e = .returned (.bool (decide (v ∈ K))) ∧ w = w' := by
  have IP := Lib.hid (index_p A n c B K v w h hn)
  clear h
  go_enter Try.func22, Try.ntmps22
  go_wp2_with fail
  refine IP.out.mono ?_
  rintro e w1 ⟨z, rfl, hz, rfl⟩
  have hd : decide (0 ≤ z) = decide (v ∈ K) := decide_eq_decide.2 hz
  have HD := Lib.hid hd
  clear hz hd IP
  go_wp2_with fail
  go_ret
  exact ⟨by first | (rw [← HD.out]; done) | (rw [← HD.out]; rfl) | (rw [← HD.out]; simp), rfl⟩
set_option maxHeartbeats 4000000 in
theorem meet_p (g bm bo B : Nat) (l b : List Nat) (root lone : Int) (d : Nat) (z : List Int) (p c : Nat) (Av : Option Addr) (w : World) (h : MapAt w g l b root lone) (hd : d < l.length)
    (hm : Blk w bm 24 #[.pointer (some ⟨g, 0, none⟩)]) (ho : Blk w bo 25 #[.slice Av p c]) (hz : w.ownsRow B 3 1 (.slice Av p c) p (I64 z)) (hne : bm ≠ bo) (hB : B ≤ bo) (hp : p ≤ 300000) :
    Calls Try.prog 42 #[.int .i64 (d : Int), .pointer (some ⟨bm, 0, none⟩), .pointer (some ⟨bo, 0, none⟩)] w fun e w' => e = .returned (.tuple #[]) ∧ (∃ A' c', Blk w' bo 25 #[.slice A' (p + 1) c'] ∧ w'.ownsRow B 3 1 (.slice A' (p + 1) c') (p + 1) (I64 (z ++ [((nameOf l d : Nat) : Int)])) ∧ (∀ q, (Value.slice A' (p + 1) c').ownBlock = some q → (Value.slice Av p c).ownBlock = some q ∨ w.heap.size ≤ q)) ∧ Blk w' bm 24 #[.pointer (some ⟨g, 0, none⟩)] ∧ Mod (fun i => i = bo ∨ (Value.slice Av p c).ownBlock = some i) w w' ∧ Below B w w' := by
  obtain ⟨i0, hi0, hz0, hz1, hz2⟩ := info_parts info_int
  have VP := Lib.hid (vertex_in g l b root lone d w h hd)
  have x0 := hm.cell 0
  simp at x0
  have hbo := ho.lt
  have HM := Lib.hid hm
  have HO := Lib.hid ho
  have HZ := Lib.hid hz
  generalize nameOf l d = v at *
  clear h hd hm ho hz
  go_enter Try.func42, Try.ntmps42
  go_wp2_with fail
  refine VP.out.mono ?_
  rintro e w1 ⟨rfl, b1⟩
  have hv1 : ((v : Int) != -1) = true := by rw [bne_iff_ne]; omega
  have hv2 : ¬ (v : Int) = -1 := by omega
  have HM1 := Lib.hid (HM.out.below b1)
  have HO1 := Lib.hid (HO.out.below b1)
  have HB1 := Lib.hid b1
  have x1 := HO1.out.cell 0
  have f1 := HO1.out.frozen 0
  simp at x1
  have hown3 := (own_below HZ.out b1).alloc (.cells #[.int .i64 (v : Int)] 3)
  have r3 := Rd.new w1 3 #[.int .i64 (v : Int)] 1 (I64 [(v : Int)]) (by simp [I64]) (by simp)
  have t2 : p + 1 ≤ maxLen := by simp only [maxLen]; omega
  have t3 : (p + 1) * 8 ≤ 140737488355328 := by omega
  have t4 : B ≤ (w1.alloc (.cells #[.int .i64 (v : Int)] 3)).heap.size := by have := b1.size; simp; omega
  clear x0 b1 VP HM HO HZ
  go_wp2_with (first
    | (at_builtin; go_must (refine wpList_append_rd _ rfl _ _ 25 rfl B 3 i0 (.int .i64 0) 8 Try.underlying25 hi0 hz0 hz1 hz2 rfl (.slice Av p c) p (I64 z) rfl hown3 (w1.heap.size + 1) (some ⟨w1.heap.size, 0, none⟩) 1 1 (I64 [(v : Int)]) rfl r3 (I64_one _) t2 t3 t4 ?_)))
  intro A6 c6 w6 hc6 hm6 hown6 hg6 hob
  have SEP : Hid (∀ q, (Value.slice A6 (p + 1) c6).ownBlock = some q → (Value.slice Av p c).ownBlock = some q ∨ w.heap.size ≤ q) := fun q hq => by
    rcases hob with e | e
    · exact .inl (by rw [← e]; exact hq)
    · rw [e] at hq
      have hq' := Option.some.inj hq
      have := HB1.out.size
      have hsz : (w1.alloc (.cells #[.int .i64 (v : Int)] 3)).heap.size = w1.heap.size + 1 := by simp
      exact .inr (by omega)
  rw [← I64_append] at hown6
  have HBA : Hid (Below w.heap.size w (w1.alloc (.cells #[.int .i64 (v : Int)] 3))) := HB1.out.alloc HB1.out.size _
  have MG := Lib.hid (Mod.ofGrown hg6)
  have HMA := Lib.hid ((HM1.out.alloc (.cells #[.int .i64 (v : Int)] 3)).mod MG.out (fun q => own_ne hown3 (HM1.out.alloc _) (by decide) q.symm))
  have HOA := Lib.hid ((HO1.out.alloc (.cells #[.int .i64 (v : Int)] 3)).mod MG.out (fun q => own_ne hown3 (HO1.out.alloc _) (by decide) q.symm))
  have HBB := Lib.hid ((HBA.out.mono (show B ≤ w.heap.size by omega)).trans (Below.appended hown3 hg6 t4))
  have HW6 := Lib.hid hown6
  have HMD : Hid (Mod (fun i => i = bo ∨ (Value.slice Av p c).ownBlock = some i) w w6) := (Mod.none_ HBA.out _).trans MG.out fun i _ q => .inr q.symm
  have x6 := HOA.out.cell 0
  have f6 := HOA.out.frozen 0
  simp at x6
  clear hown6 hg6 hown3 r3 t2 t3 t4 HBA MG HM1 HO1 HB1 x1 f1 hob
  go_wp2_with fail
  refine bodyPost_end (results_none rfl _ _ _) rfl ?_
  refine ⟨rfl, ⟨A6, c6, ?_, ?_, SEP.out⟩, ?_, ?_, ?_⟩
  · have := HOA.out.set_ 0 (.slice A6 (p + 1) c6)
    simpa using this
  · exact own_mod HW6.out ((Mod.refl (fun k => k = bo) w6).setCell (fun _ => rfl) _) (fun k q e => own_ne HW6.out HOA.out (by decide) (by rw [q, e]))
  · exact HMA.out.mod ((Mod.refl (fun k => k = bo) w6).setCell (fun _ => rfl) _) hne
  · exact HMD.out.setCell (fun _ => .inl rfl) _
  · exact HBB.out.setCell hB _
theorem inBlk_own {A : Option Addr} {n c q : Nat} (h : inBlk A q) : (Value.slice A n c).ownBlock = some q := by
  obtain ⟨a, rfl, rfl⟩ := h; rfl
set_option maxHeartbeats 4000000 in
theorem order_p (g n c B r0 : Nat) (A : Option Addr) (l b : List Nat) (root lone : Int) (L : List Int) (ns : List Nat) (w : World) (h : MapAt w g l b root lone) (hs : RdS w B A n L) (hB : B ≤ w.heap.size) (hn : n ≤ 300000) (hn0 : 0 < n)
    (hL0 : L.getD 0 0 = (r0 : Int)) (hr : r0 < l.length) (hT : treeL L n = ofN ns) (hns : ∀ d ∈ ns, d < l.length) :
    Calls Try.prog 18 #[.pointer (some ⟨g, 0, none⟩), .slice A n c] w (NewI64 w (ofN (nameOf l r0 :: ns.map fun d => nameOf l (mateN d)))) := by
  have hmf : ∀ (fn : Fn) (first cap : Array Value) (w : World), (Instr.makeFunc fn first cap).run Try.prog w = .ok (.func fn first cap) w := fun _ _ _ _ => rfl
  have hml : ns.length ≤ n := by have := treeL_len L n; rw [hT, ofN_len] at this; exact this
  have HM := Lib.hid h
  have HS := Lib.hid (hs.up hB)
  have HT := Lib.hid hT
  have HNS := Lib.hid hns
  obtain ⟨b0, rfl, hb0, kk⟩ := hs.2 hn0
  have x0 := kk 0 (by omega)
  rw [hL0] at x0
  clear kk h hs hT hns hL0
  go_enter Try.func18, Try.ntmps18
  go_upto_region 3 with fail
  have HB3 : Hid (Below w.heap.size w ((w.alloc (.cells #[.pointer (some ⟨g, 0, none⟩)] 24)).alloc (.cells #[.slice none 0 0] 25))) := ((Below.refl w.heap.size w).alloc (Nat.le_refl _) _).alloc (by simp) _
  have HBM : Hid (Blk ((w.alloc (.cells #[.pointer (some ⟨g, 0, none⟩)] 24)).alloc (.cells #[.slice none 0 0] 25)) w.heap.size 24 #[.pointer (some ⟨g, 0, none⟩)]) := (Blk.new w _ _).alloc _
  have HBO : Hid (Blk ((w.alloc (.cells #[.pointer (some ⟨g, 0, none⟩)] 24)).alloc (.cells #[.slice none 0 0] 25)) (w.heap.size + 1) 25 #[.slice none 0 0]) := by
    have := Blk.new (w.alloc (.cells #[.pointer (some ⟨g, 0, none⟩)] 24)) 25 #[.slice none 0 0]
    rw [show (w.alloc (.cells #[.pointer (some ⟨g, 0, none⟩)] 24)).heap.size = w.heap.size + 1 by simp] at this
    exact this
  generalize hw3 : (w.alloc (.cells #[.pointer (some ⟨g, 0, none⟩)] 24)).alloc (.cells #[.slice none 0 0] 25) = w3 at *
  clear hw3
  have hs3 := HBO.out.lt
  have x3 := (HB3.out.cell (p := ⟨b0, 0, none⟩) (show b0 < w.heap.size by omega)).trans x0
  have M1 := Lib.hid (meet_p g w.heap.size (w.heap.size + 1) w.heap.size l b root lone r0 [] 0 0 none w3 (HM.out.below HB3.out) hr HBM.out HBO.out (World.ownsRow_nil _ _ _ _) (by omega) (by omega) (by omega))
  have hnI : (0 : Int) < (n : Int) := by omega
  clear x0 HBM HBO
  go_wp2_with fail
  refine M1.out.mono ?_
  rintro e w4 ⟨rfl, ⟨A1, c1, ho, hz, hsep⟩, hm, hmod, hbl⟩
  have HO1 := Lib.hid ho
  have HZ1 := Lib.hid hz
  have HM1 := Lib.hid hm
  have HB1 := Lib.hid (HB3.out.trans hbl)
  have TP := Lib.hid (tree_p (some ⟨b0, 0, none⟩) n c _ L w4 (HS.out.below HB1.out) HB1.out.size hn)
  rw [HT.out] at TP
  clear ho hz hm hmod hbl hsep x3 M1
  go_wp2_with fail
  refine TP.out.mono ?_
  rintro e w5 ⟨AT, cT, rfl, hcT, hmT, ownT, z⟩
  rw [ofN_len] at hcT ownT
  rw [ofN_len]
  have RT := Lib.hid (Rd.ofOwn ownT)
  have SEP : Hid (∀ q, (Value.slice A1 (0 + 1) c1).ownBlock = some q → ¬ inBlk AT q) := fun q hq hi => by
    have h1 := (HZ1.out.lt q hq).2
    have h2 := (ownT.lt q (inBlk_own hi)).1
    omega
  have BO : Hid (¬ inBlk AT (w.heap.size + 1)) := fun hi => by
    have h1 := HO1.out.lt
    have h2 := (ownT.lt _ (inBlk_own hi)).1
    omega
  have HO5 := Lib.hid (HO1.out.below z)
  have HZ5 := Lib.hid (own_below HZ1.out z)
  have HM5 := Lib.hid (HM1.out.below z)
  have HB5 := Lib.hid (HB1.out.trans (z.mono HB1.out.size))
  obtain ⟨m, hmm⟩ : ∃ m, m = ns.length := ⟨_, rfl⟩
  rw [← hmm] at hml RT
  rw [← hmm]
  have HMM := Lib.hid hmm
  clear hmm z ownT TP HO1 HZ1 HM1 HB1 hcT hmT
  go_wp2_with fail
  go_loopw [22] (fun i wr => ∃ (k cw : Nat) (Av : Option Addr), k ≤ m ∧ i = .int .i64 (k : Int) ∧ Hid (Blk wr (w.heap.size + 1) 25 #[.slice Av (k + 1) cw]) ∧ Hid (wr.ownsRow w.heap.size 3 1 (.slice Av (k + 1) cw) (k + 1) (I64 (ofN (nameOf l r0 :: (ns.take k).map fun d => nameOf l (mateN d))))) ∧ Hid (∀ q, (Value.slice Av (k + 1) cw).ownBlock = some q → ¬ inBlk AT q) ∧ Hid (Blk wr w.heap.size 24 #[.pointer (some ⟨g, 0, none⟩)]) ∧ Hid (Rd wr w5.heap.size AT m (I64 (ofN ns))) ∧ Hid (Below w.heap.size w wr) ∧ Hid (w5.heap.size ≤ wr.heap.size)) (fun i _ => m - (intOf i).toNat)
  case atStart => exact ⟨0, c1, A1, by omega, rfl, HO5.out, HZ5.out, SEP.out, HM5.out, RT.out, HB5.out, Nat.le_refl _⟩
  case round =>
    obtain ⟨k, cw, Av, hk, rfl, HO, HZ, HP, HMB, HR, HB, HSZ⟩ := hrel
    by_cases hlt : k < m
    · obtain ⟨tb, o, rfl, htb, kk⟩ := HR.out.i64 (by omega)
      have t0 := kk k hlt
      obtain ⟨d, hd⟩ : ∃ d, d = ns.getD k 0 := ⟨_, rfl⟩
      have hkn : k < ns.length := by have := HMM.out; omega
      have hdm : d ∈ ns := by rw [hd, List.getD_eq_getElem?_getD, List.getElem?_eq_getElem hkn]; exact List.getElem_mem _
      have hdl := HNS.out d hdm
      rw [ofN_get, ← hd] at t0
      have htk : ns.take (k + 1) = ns.take k ++ [d] := by
        rw [hd, List.getD_eq_getElem?_getD, List.getElem?_eq_getElem hkn]
        exact List.take_succ_eq_append_getElem hkn
      have HTK := Lib.hid htk
      have hdm2 : mateN d < l.length := by
        have := mateN_lt HM.out.1.1 hdl
        exact this
      have MT := Lib.hid (mate_in g l b root lone d wr (HM.out.below HB.out) hdl)
      have x1 := HMB.out.cell 0
      simp at x1
      clear kk hd hdm htk
      obtain ⟨y, hy⟩ : ∃ y, y = mateN d := ⟨_, rfl⟩
      rw [← hy] at hdm2 MT
      have HY := Lib.hid hy
      clear hy
      go_wp2_with fail
      refine MT.out.mono ?_
      rintro e w6 ⟨rfl, b6⟩
      have HB6 := Lib.hid (HB.out.trans (b6.mono HB.out.size))
      have ME := Lib.hid (meet_p g w.heap.size (w.heap.size + 1) w.heap.size l b root lone y _ (k + 1) cw Av w6 (HM.out.below HB6.out) hdm2 (HMB.out.below b6) (HO.out.below b6) (own_below HZ.out b6) (by omega) (by omega) (by omega))
      have hs6 := b6.size
      have HR6 := Lib.hid (HR.out.below (b6.mono HSZ.out))
      have hsz5 : Hid (w5.heap.size ≤ w6.heap.size) := Nat.le_trans HSZ.out hs6
      clear b6 HB HO HMB HR x1 t0 MT HSZ
      go_wp2_with fail
      refine ME.out.mono ?_
      rintro e w7 ⟨rfl, ⟨A7, c7, ho, hz, hsep⟩, hm, hmod, hbl⟩
      have HO7 := Lib.hid ho
      have HZ7 : Hid (w7.ownsRow w.heap.size 3 1 (.slice A7 (k + 1 + 1) c7) (k + 1 + 1) (I64 (ofN (nameOf l r0 :: (ns.take (k + 1)).map fun d => nameOf l (mateN d))))) := by
        show World.ownsRow _ _ _ _ _ _ _
        rw [HTK.out, List.map_append, ← List.cons_append, ofN_append]
        rw [HY.out] at hz
        exact hz
      have HM7 := Lib.hid hm
      have HB7 := Lib.hid (HB6.out.trans hbl)
      have HP7 : Hid (∀ q, (Value.slice A7 (k + 1 + 1) c7).ownBlock = some q → ¬ inBlk (some ⟨tb, o, none⟩) q) := fun q hq hi => by
        rcases hsep q hq with e | e
        · exact HP.out q e hi
        · obtain ⟨a, ha, hq'⟩ := hi
          cases ha
          have := hsz5.out
          simp at hq'
          omega
      have HR7 := Lib.hid (HR6.out.mod hmod hsz5.out (fun _ q hi hs => by
        rcases hs with e | e
        · subst e; exact BO.out hi
        · exact HP.out q e hi))
      have HS7 : Hid (w5.heap.size ≤ w7.heap.size) := Nat.le_trans hsz5.out hmod.size
      clear ho hz hm hmod hbl hsep ME HZ HB6 HR6 HP
      go_wp2_with fail
      go_roundw
      case rel => exact ⟨k + 1, c7, A7, by omega, by go_num, HO7.out, HZ7.out, HP7.out, HM7.out, HR7.out, HB7.out, HS7.out⟩
      case measure => simp [intOf]; omega
    · obtain rfl : k = m := by omega
      have x1 := HO.out.cell 0
      simp at x1
      have hz := HZ.out
      rw [HMM.out, List.take_length] at hz
      have HZZ := Lib.hid hz
      have hll : Hid ((ofN (nameOf l r0 :: ns.map fun d => nameOf l (mateN d))).length = k + 1) := by
        show _ = _
        rw [ofN_len, List.length_cons, List.length_map, HMM.out]
      clear hz
      go_wp2_with fail
      go_ret
      refine .mk rfl ?_ HB.out
      rw [hll.out, HMM.out]
      exact HZZ.out
end Go.Proofs.Ytgohdhmijfajfaa
