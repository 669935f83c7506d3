/- from, look: what is known of a map while it is walked. from: the walker that stands at the root. -/
import Derived.Test.YtgcbdoljapnecaaGreatZg12
namespace Go.Proofs.YtgcbdoljapnecaaGreat
set_option maxRecDepth 20000
open Go.RowKit
set_option linter.unusedVariables false
set_option maxHeartbeats 8000000 in
theorem wlook_p (B g : Nat) (l b : List Nat) (root lone : Int) (w : World) (gk ck gm cm m V d : Nat) (K : List Int) (M : List Bool) (W : World) (HM : Hid (∀ W', Below B w W' → MapAt W' g l b root lone)) (hbe : Below B w W) (hB : B ≤ w.heap.size)
    (hd : d < l.length) (hm : m = l.length / 2) (hV : ∀ x, x < l.length → nameOf l x < V) (H : WMem B gk ck gm cm m V K M W) :
    Calls Tryz.prog 146 #[wval g gk ck gm cm m V, .int .i64 (d : Int)] W fun e w' => e = .returned (.int .i64 ((wKd (nameOf l) K M d : Nat) : Int)) ∧ WMem B gk ck gm cm m V (wK1 K d (wKd (nameOf l) K M d)) (wM1 (nameOf l) M d (wKd (nameOf l) K M d)) w' ∧ Mod (fun i => i = gk ∨ i = gm) W w' := by
  have hev : l.length % 2 = 0 := (HM.out _ hbe).1.1
  have hle := (HM.out _ hbe).2.1
  obtain ⟨md, hmd⟩ : ∃ md, md = mt d := ⟨_, rfl⟩
  have hml : md < l.length := by rw [hmd]; exact mt_lt (m := l.length / 2) (by omega) hd
  obtain ⟨v, hv⟩ : ∃ v, v = nameOf l md := ⟨_, rfl⟩
  have hvV : v < V := by rw [hv]; exact hV _ hml
  obtain ⟨ed, hed⟩ : ∃ ed, ed = d / 2 := ⟨_, rfl⟩
  have hem : ed < m := by omega
  have e1 : (d : Int) / 2 = (ed : Int) := by omega
  have e2 : (d : Int).tdiv 2 = (ed : Int) := by rw [Int.tdiv_eq_ediv_of_nonneg (by omega)]; exact e1
  have hwe : IntKind.i64.wrap (ed : Int) = (ed : Int) := by simp [IntKind.wrap, IntKind.signed, IntKind.bits]; omega
  obtain ⟨kv, hkv⟩ : ∃ kv, kv = K.getD ed 0 := ⟨_, rfl⟩
  obtain ⟨mv, hmv⟩ : ∃ mv, mv = M.getD v false := ⟨_, rfl⟩
  have hKD : wKd (nameOf l) K M d = if kv = 0 then 1 else if kv = 2 then 3 else if mv = true then 2 else 0 := by unfold wKd; rw [← hed, ← hkv, ← hmd, ← hv, ← hmv]
  obtain ⟨kd, hkd⟩ : ∃ kd, kd = wKd (nameOf l) K M d := ⟨_, rfl⟩
  rw [← hkd] at hKD ⊢
  have HK1 : Hid (wK1 K d kd = if kd % 2 = 0 then K.set ed kd else K) := by show _ = _; unfold wK1; rw [hed]
  have HM1 : Hid (wM1 (nameOf l) M d kd = if kd = 0 then M.set v true else M) := by show _ = _; unfold wM1; rw [hv, hmd]
  have hbs : B ≤ W.heap.size := Nat.le_trans hB hbe.size
  have hgm := own_block H.om
  have hgk := own_block H.ok
  have hne := H.ne
  have hck := own_cellI H.ok ed hem
  have hfk := H.ok.frozenAt ed
  have hcm := own_cellB H.om v hvV
  have hfm := H.om.frozenAt v
  rw [← hkv] at hck
  rw [← hmv] at hcm
  -- behind the box
  have Z1 := Lib.hid ((Below.refl W.heap.size W).alloc (Nat.le_refl _) (.cells #[.pointer (some ⟨g, 0, none⟩), .slice (some ⟨gk, 0, none⟩) m ck, .slice (some ⟨gm, 0, none⟩) V cm] 162))
  have BW := Lib.hid (Blk.new W 162 #[.pointer (some ⟨g, 0, none⟩), .slice (some ⟨gk, 0, none⟩) m ck, .slice (some ⟨gm, 0, none⟩) V cm])
  have MP : Hid (∀ W', Below W.heap.size W W' → Calls Tryz.prog 58 #[.pointer (some ⟨g, 0, none⟩), .int .i64 (d : Int)] W' fun e w' => e = .returned (.int .i64 (md : Int)) ∧ Below W'.heap.size W' w') := fun W' z => by
    have := mate_in g l b root lone d W' (HM.out _ (hbe.trans (z.mono hbs))) hd
    rw [mt_mateN] at this
    rw [hmd]
    exact this
  have VP : Hid (∀ W', Below W.heap.size W W' → Calls Tryz.prog 56 #[.pointer (some ⟨g, 0, none⟩), .int .i64 (md : Int)] W' fun e w' => e = .returned (.int .i64 (v : Int)) ∧ Below W'.heap.size W' w') := fun W' z => by
    rw [hv]; exact vertex_in g l b root lone md W' (HM.out _ (hbe.trans (z.mono hbs))) hml
  have HH := Lib.hid H
  have HKD := Lib.hid hKD
  have HBE := Lib.hid hbe
  have HC := Lib.hid (And.intro hck (And.intro hfk (And.intro hcm hfm)))
  clear H hkv hmv hkd hKD hbe hv hmd hed HM hV hev hm hck hfk hcm hfm
  generalize wK1 K d kd = K' at *
  generalize wM1 (nameOf l) M d kd = M' at *
  go_enter Tryz.func146, Tryz.ntmps146
  go_upto_region 1 with fail
  have hws : (W.alloc (.cells #[.pointer (some ⟨g, 0, none⟩), .slice (some ⟨gk, 0, none⟩) m ck, .slice (some ⟨gm, 0, none⟩) V cm] 162)).heap.size = W.heap.size + 1 := by simp
  generalize W.alloc (.cells #[.pointer (some ⟨g, 0, none⟩), .slice (some ⟨gk, 0, none⟩) m ck, .slice (some ⟨gm, 0, none⟩) V cm] 162) = w2 at *
  have SK : Hid (∀ W', Below w2.heap.size w2 W' → Below W.heap.size W W' ∧ W'.cell? ⟨W.heap.size, 0, none⟩ = some (.pointer (some ⟨g, 0, none⟩))) := fun W' z =>
    ⟨Z1.out.trans (z.mono Z1.out.size), by have := (BW.out.below z).cell 0; simpa using this⟩
  have MP2 : Hid (∀ W', Below w2.heap.size w2 W' → Calls Tryz.prog 58 #[.pointer (some ⟨g, 0, none⟩), .int .i64 (d : Int)] W' fun e w' => e = .returned (.int .i64 (md : Int)) ∧ Below w2.heap.size w2 w') := fun W' z =>
    (MP.out W' (SK.out W' z).1).mono fun e w' ⟨h1, h2⟩ => ⟨h1, z.trans (h2.mono z.size)⟩
  have VP2 : Hid (∀ W', Below w2.heap.size w2 W' → Calls Tryz.prog 56 #[.pointer (some ⟨g, 0, none⟩), .int .i64 (md : Int)] W' fun e w' => e = .returned (.int .i64 (v : Int)) ∧ Below w2.heap.size w2 w') := fun W' z =>
    (VP.out W' (SK.out W' z).1).mono fun e w' ⟨h1, h2⟩ => ⟨h1, z.trans (h2.mono z.size)⟩
  clear MP VP
  go_cut [5, 6] (fun s5 s6 wx => s5 = .int .i64 (ed : Int) ∧ s6 = .int .i64 (v : Int) ∧ Below w2.heap.size w2 wx)
  case first =>
    have hba0 := Below.refl w2.heap.size w2
    have hba1 := hba0.drew
    have x0 := (SK.out _ hba0).2
    have xx0 := (SK.out _ hba1).2
    go_region_held3 (fun W' => Below w2.heap.size w2 W' ∧ W'.cell? ⟨W.heap.size, 0, none⟩ = some (.pointer (some ⟨g, 0, none⟩)))
      (exact ⟨by assumption, (SK.out _ (by assumption)).2⟩)
      (first
      | (go_at_call 58; (with_reducible refine (MP2.out _ (by assumption)).mono ?_); rintro e wa ⟨rfl, hba⟩)
      | (go_at_call 56; (with_reducible refine (VP2.out _ (by assumption)).mono ?_); rintro e wa ⟨rfl, hba⟩))
    all_goals (go_wp2_with fail; go_meet; exact ⟨rfl, rfl, by assumption⟩)
  case rest =>
    obtain ⟨rfl, rfl, z5⟩ := hcut
    obtain ⟨wd, rfl⟩ : ∃ wd, wd = wc := ⟨_, rfl⟩
    have z6 := (SK.out _ z5).1
    have HD := Lib.hid (HH.out.below z6)
    have BX := Lib.hid (BW.out.below z5)
    have bx1 : wd.cell? ⟨W.heap.size, 1, none⟩ = some (.slice (some ⟨gk, 0, none⟩) m ck) := by have := BX.out.cell 1; simpa using this
    have bx2 : wd.cell? ⟨W.heap.size, 2, none⟩ = some (.slice (some ⟨gm, 0, none⟩) V cm) := by have := BX.out.cell 2; simpa using this
    have hck : wd.cell? ⟨gk, ed, none⟩ = some (.int .i64 kv) := (z6.cell (p := ⟨gk, ed, none⟩) hgk.2).trans HC.out.1
    have hcm : wd.cell? ⟨gm, v, none⟩ = some (.bool mv) := (z6.cell (p := ⟨gm, v, none⟩) hgm.2).trans HC.out.2.2.1
    have hfk := HD.out.ok.frozenAt ed
    have hfm := HD.out.om.frozenAt v
    have n1 : gk ≠ W.heap.size := by omega
    have n2 : gm ≠ W.heap.size := by omega
    have n3 : W.heap.size ≠ gk := by omega
    have n4 : W.heap.size ≠ gm := by omega
    have n5 : gm ≠ gk := fun e => hne e.symm
    have MM : Hid (Mod (fun i => i = gk ∨ i = gm) W wd) := Mod.none_ z6 _
    clear SK MP2 VP2 HC BW z5 HH Z1
    by_cases k0 : kv = 0
    · have hk : kd = 1 := by rw [HKD.out, if_pos k0]
      have hK := HK1.out
      have hM := HM1.out
      rw [hk, if_neg (by omega)] at hK hM
      subst hk k0 hK hM
      clear HKD HK1 HM1
      go_wp2_with fail
      go_ret
      exact ⟨rfl, HD.out, MM.out⟩
    · by_cases k2 : kv = 2
      · have hk : kd = 3 := by rw [HKD.out, if_neg k0, if_pos k2]
        have hK := HK1.out
        have hM := HM1.out
        rw [hk, if_neg (by omega)] at hK hM
        subst hk k2 hK hM
        clear HKD HK1 HM1
        go_wp2_with fail
        go_ret
        exact ⟨rfl, HD.out, MM.out⟩
      · have c0 : (kv == 0) = false := by rw [beq_eq_false_iff_ne]; exact k0
        have c2 : (kv == 2) = false := by rw [beq_eq_false_iff_ne]; exact k2
        have HD2 := Lib.hid (HD.out.setK ed 2)
        have MM2 : Hid (Mod (fun i => i = gk ∨ i = gm) W (wd.setCell ⟨gk, ed, none⟩ (.int .i64 2))) := MM.out.setCell (fun _ => .inl rfl) _
        by_cases q : mv = true
        · have hk : kd = 2 := by rw [HKD.out, if_neg k0, if_neg k2, if_pos q]
          have hK := HK1.out
          have hM := HM1.out
          rw [hk] at hK hM
          rw [if_pos (by omega)] at hK
          rw [if_neg (by omega)] at hM
          subst hk q hK hM
          clear HKD HK1 HM1
          go_wp2_with fail
          go_ret
          exact ⟨rfl, HD2.out, MM2.out⟩
        · have hk : kd = 0 := by rw [HKD.out, if_neg k0, if_neg k2, if_neg q]
          have q' : mv = false := by simpa using q
          have hK := HK1.out
          have hM := HM1.out
          rw [hk] at hK hM
          rw [if_pos (by omega)] at hK
          rw [if_pos rfl] at hM
          have HD3 := Lib.hid ((HD2.out.setK ed 0).setM v true)
          rw [List.set_set] at HD3
          have MM3 : Hid (Mod (fun i => i = gk ∨ i = gm) W (((wd.setCell ⟨gk, ed, none⟩ (.int .i64 2)).setCell ⟨gk, ed, none⟩ (.int .i64 0)).setCell ⟨gm, v, none⟩ (.bool true))) := (MM2.out.setCell (fun _ => .inl rfl) _).setCell (fun _ => .inr rfl) _
          subst hk q' hK hM
          clear HKD HK1 HM1
          go_wp2_with fail
          go_ret
          exact ⟨rfl, HD3.out, MM3.out⟩
end Go.Proofs.YtgcbdoljapnecaaGreat
namespace Go.Proofs.YtgcbdoljapnecaaGreat
set_option maxRecDepth 20000
open Go.RowKit
set_option linter.unusedVariables false
def FromPost (w : World) (g m V r : Nat) (nm : Nat → Nat) (e : Ending) (w' : World) : Prop :=
  ∃ gk ck gm cm, e = .returned (wval g gk ck gm cm m V) ∧ WMem w.heap.size gk ck gm cm m V (List.replicate m (-1)) ((List.replicate V false).set (nm r) true) w' ∧ Below w.heap.size w w'
set_option maxHeartbeats 8000000 in
theorem wfrom_p (g : Nat) (l b : List Nat) (root lone : Int) (r m V : Nat) (w : World) (h : MapAt w g l b root lone) (hr : r < l.length) (hm : m = l.length / 2) (hV : (V : Int) = ((sizes l).length : Int) + lone) (hvV : nameOf l r < V) :
    Calls Tryz.prog 145 #[.pointer (some ⟨g, 0, none⟩), .int .i64 (r : Int)] w (FromPost w g m V r (nameOf l)) := by
  have hle := h.2.1
  have hlo := h.1.2.2
  have hsl := sizes_le l
  have hm1 : m ≤ 131072 := by omega
  have hV1 : V ≤ 262144 := by omega
  obtain ⟨j0, ji0, jz0, jz1, jz2⟩ := info_parts info_bool
  have hmk := run_make_one (P := Tryz.prog) 137 4 j0 (.bool false) 1 Tryz.underlying137 ji0 jz0 jz1 jz2 rfl .i64 .i64 V (by omega) (by omega)
  have EP : Hid (∀ W, Below w.heap.size w W → Calls Tryz.prog 31 #[.pointer (some ⟨g, 0, none⟩)] W fun e w' => e = .returned (.int .i64 (m : Int)) ∧ Below W.heap.size W w') := fun W z => by rw [hm]; exact edges_p g l b root lone W (h.below z)
  have VS : Hid (∀ W, Below w.heap.size w W → Calls Tryz.prog 29 #[.pointer (some ⟨g, 0, none⟩)] W fun e w' => e = .returned (.int .i64 (V : Int)) ∧ Below W.heap.size W w') := fun W z => by rw [hV]; exact vertices_p g l b root lone W (h.below z)
  obtain ⟨v, hv⟩ : ∃ v, v = nameOf l r := ⟨_, rfl⟩
  have VP : Hid (∀ W, Below w.heap.size w W → Calls Tryz.prog 56 #[.pointer (some ⟨g, 0, none⟩), .int .i64 (r : Int)] W fun e w' => e = .returned (.int .i64 (v : Int)) ∧ Below W.heap.size W w') := fun W z => by rw [hv]; exact vertex_in g l b root lone r W (h.below z) hr
  have HV := Lib.hid hv
  rw [← hv] at hvV
  have HINF := Lib.hid info_walker
  have hvI : (v : Int) < (V : Int) := by omega
  have hvI0 : (0 : Int) ≤ (v : Int) := by omega
  have R1 := Rd.new (w.alloc (.cells #[.pointer none, .slice none 0 0, .slice none 0 0] 162)) 3 #[.int .i64 (-1)] 1 (I64 [-1]) (by simp [I64]) (by simp)
  have hs1 : (w.alloc (.cells #[.pointer none, .slice none 0 0, .slice none 0 0] 162)).heap.size = w.heap.size + 1 := by simp
  rw [hs1] at R1
  have HR1 := Lib.hid R1
  have BR := Lib.hid ((Blk.new w 162 #[.pointer none, .slice none 0 0, .slice none 0 0]).alloc (.cells #[.int .i64 (-1)] 3))
  have Z0 := (Below.refl w.heap.size w).alloc (Nat.le_refl _) (.cells #[.pointer none, .slice none 0 0, .slice none 0 0] 162)
  have Z1 := Lib.hid (Z0.alloc Z0.size (.cells #[.int .i64 (-1)] 3))
  have hs2 : ((w.alloc (.cells #[.pointer none, .slice none 0 0, .slice none 0 0] 162)).alloc (.cells #[.int .i64 (-1)] 3)).heap.size = w.heap.size + 2 := by simp
  have HS2 := Lib.hid hs2
  clear h hm hV hv Z0 R1 hs1 hs2 hle hlo hsl
  go_enter Tryz.func145, Tryz.ntmps145
  go_wp2_with fail
  generalize (w.alloc (.cells #[.pointer none, .slice none 0 0, .slice none 0 0] 162)).alloc (.cells #[.int .i64 (-1)] 3) = w2 at *
  refine (EP.out _ Z1.out).mono ?_
  rintro e w3 ⟨rfl, z⟩
  have Z3 := Lib.hid (Z1.out.trans (z.mono Z1.out.size))
  have hz := z.size
  have RP := Lib.hid (repeat_p (w.heap.size + 1) m 1 (-1) (w.heap.size + 2) w3 hm1 (HR1.out.below (z.mono (by rw [HS2.out]; omega))) (by rw [← HS2.out]; exact hz))
  have BR3 := Lib.hid (BR.out.below z)
  have hz3 : w.heap.size + 2 ≤ w3.heap.size := by rw [← HS2.out]; exact hz
  clear z hz EP HR1 BR Z1
  go_wp2_with fail
  refine RP.out.mono ?_
  rintro e w4 ⟨rfl, hown, z⟩
  have HO4 := Lib.hid (hown.base_le' (show w.heap.size ≤ w3.heap.size by omega))
  have Z4 := Lib.hid (Z3.out.trans (z.mono Z3.out.size))
  have BR4 := Lib.hid (BR3.out.below z)
  have hz4 := z.size
  generalize w3.heap.size = gk at *
  have hgk4 := (own_block HO4.out).2
  clear z hown RP BR3 Z3
  go_wp2_with fail
  refine (VS.out _ Z4.out).mono ?_
  rintro e w5 ⟨rfl, z⟩
  have HO5 := Lib.hid (own_below HO4.out z)
  have Z5 := Lib.hid (Z4.out.trans (z.mono Z4.out.size))
  have BR5 := Lib.hid (BR4.out.below z)
  have hz5 := z.size
  have hm5 := own_made w5 4 V (.bool false) (by simp only [maxLen]; omega)
  rw [List.toArray_replicate, show List.replicate V (Value.bool false) = Bl (List.replicate V false) by simp [Bl]] at hm5
  have HM5 := Lib.hid (hm5.base_le' (show w.heap.size ≤ w5.heap.size by omega))
  clear z HO4 Z4 BR4 VS hm5
  go_wp2_with fail
  have hs6 : (w5.alloc (.cells (Array.replicate V (.bool false)) 4)).heap.size = w5.heap.size + 1 := by simp
  have BX := Blk.new (w5.alloc (.cells (Array.replicate V (.bool false)) 4)) 162 #[.pointer (some ⟨g, 0, none⟩), .slice (some ⟨gk, 0, none⟩) m m, .slice (some ⟨w5.heap.size, 0, none⟩) V V]
  rw [hs6] at BX
  have ZA := (Below.refl w5.heap.size w5).alloc (Nat.le_refl _) (.cells (Array.replicate V (.bool false)) 4)
  have ZB := ZA.alloc ZA.size (.cells #[.pointer (some ⟨g, 0, none⟩), .slice (some ⟨gk, 0, none⟩) m m, .slice (some ⟨w5.heap.size, 0, none⟩) V V] 162)
  have HO6 := Lib.hid (own_below HO5.out ZB)
  have HM6 := Lib.hid (HM5.out.alloc (.cells #[.pointer (some ⟨g, 0, none⟩), .slice (some ⟨gk, 0, none⟩) m m, .slice (some ⟨w5.heap.size, 0, none⟩) V V] 162))
  have Z6 := Lib.hid (Z5.out.trans (ZB.mono Z5.out.size))
  have BR6 := Lib.hid (BR5.out.below ZB)
  have HBX := Lib.hid BX
  have hg6 : w5.heap.size < ((w5.alloc (.cells (Array.replicate V (.bool false)) 4)).alloc (.cells #[.pointer (some ⟨g, 0, none⟩), .slice (some ⟨gk, 0, none⟩) m m, .slice (some ⟨w5.heap.size, 0, none⟩) V V] 162)).heap.size := by simp; omega
  generalize (w5.alloc (.cells (Array.replicate V (.bool false)) 4)).alloc (.cells #[.pointer (some ⟨g, 0, none⟩), .slice (some ⟨gk, 0, none⟩) m m, .slice (some ⟨w5.heap.size, 0, none⟩) V V] 162) = w6 at *
  clear hs6 BX ZA ZB HO5 HM5 Z5 BR5
  have hg5 : w.heap.size + 2 ≤ w5.heap.size := by omega
  generalize w5.heap.size = gm at *
  have SK : Hid (∀ W', Below w6.heap.size w6 W' → Below w.heap.size w W' ∧ W'.cell? ⟨gm + 1, 2, none⟩ = some (.slice (some ⟨gm, 0, none⟩) V V)) := fun W' z =>
    ⟨Z6.out.trans (z.mono Z6.out.size), by have := (HBX.out.below z).cell 2; simpa using this⟩
  have VP2 : Hid (∀ W', Below w6.heap.size w6 W' → Calls Tryz.prog 56 #[.pointer (some ⟨g, 0, none⟩), .int .i64 (r : Int)] W' fun e w' => e = .returned (.int .i64 (v : Int)) ∧ Below w6.heap.size w6 w') := fun W' z =>
    (VP.out W' (SK.out W' z).1).mono fun e w' ⟨h1, h2⟩ => ⟨h1, z.trans (h2.mono z.size)⟩
  go_cut [] (fun wx => ∃ wy, Below w6.heap.size w6 wy ∧ wx = wy.setCell ⟨gm, v, none⟩ (.bool true))
  case first =>
    have hba0 := Below.refl w6.heap.size w6
    have hba1 := hba0.drew
    have x0 := (SK.out _ hba0).2
    have x1 := (SK.out _ hba1).2
    have FZ : Hid (∀ W', Below w6.heap.size w6 W' → W'.frozen? ⟨gm, v, none⟩ = false ∧ ∃ q, W'.cell? ⟨gm, v, none⟩ = some (.bool q)) := fun W' z => ⟨(own_below HM6.out z).frozenAt v, _, own_cellB (own_below HM6.out z) v hvV⟩
    obtain ⟨f0, q0, c0⟩ := FZ.out _ hba0
    obtain ⟨f1, q1, c1⟩ := FZ.out _ hba1
    go_region_with ((go_at_call 56; (with_reducible refine (VP2.out _ (by assumption)).mono ?_); rintro e wa ⟨rfl, hba⟩; have xa := (SK.out _ hba).2; obtain ⟨fa, qa, ca⟩ := FZ.out _ hba))
    all_goals (go_wp2_with fail; go_meet; exact ⟨_, by assumption, rfl⟩)
  case rest =>
    obtain ⟨wy, hby, rfl⟩ := hcut
    have hzy := (SK.out _ hby).1
    have MS : Mod (fun i => i = gm) wy (wy.setCell ⟨gm, v, none⟩ (.bool true)) := Mod.setCell (p := ⟨gm, v, none⟩) (Mod.refl (fun i => i = gm) wy) (fun _ => rfl) _
    have B1 := Lib.hid ((HBX.out.below hby).mod MS (by omega))
    have B2 := Lib.hid ((BR6.out.below hby).mod MS (by omega))
    have OK := Lib.hid (own_mod (own_below HO6.out hby) MS (fun k hk e => by replace e : k = _ := e; simp [Value.ownBlock] at hk; omega))
    have OM := Lib.hid (own_setB (own_below HM6.out hby) v true)
    have ZZ : Hid (Below w.heap.size w (wy.setCell ⟨gm, v, none⟩ (.bool true))) := hzy.setCell (by show w.heap.size ≤ gm; omega) _
    have HGK : Hid (gk < w6.heap.size ∧ w.heap.size + 2 ≤ gm) := ⟨by have := own_block HO6.out; omega, hg5⟩
    generalize wy.setCell ⟨gm, v, none⟩ (.bool true) = wz at *
    clear MS hby hzy SK VP2 HBX HM6 HO6 BR6 Z6 VP
    have c0 := B1.out.cell 0
    have c1 := B1.out.cell 1
    have c2 := B1.out.cell 2
    have r0 := B2.out.cell 0
    have r1 := B2.out.cell 1
    have r2 := B2.out.cell 2
    have f0 := B2.out.frozen 0
    have f1 := B2.out.frozen 1
    have f2 := B2.out.frozen 2
    simp at c0 c1 c2 r0 r1 r2
    go_wp2_with fail
    have MM : Mod (fun i => i = w.heap.size) wz (((wz.setCell ⟨w.heap.size, 0, none⟩ (.pointer (some ⟨g, 0, none⟩))).setCell ⟨w.heap.size, 1, none⟩ (.slice (some ⟨gk, 0, none⟩) m m)).setCell ⟨w.heap.size, 2, none⟩ (.slice (some ⟨gm, 0, none⟩) V V)) :=
      Mod.setCell (p := ⟨w.heap.size, 2, none⟩) (Mod.setCell (p := ⟨w.heap.size, 1, none⟩) (Mod.setCell (p := ⟨w.heap.size, 0, none⟩) (Mod.refl (fun i => i = w.heap.size) wz) (fun _ => rfl) _) (fun _ => rfl) _) (fun _ => rfl) _
    have hblk : Blk (((wz.setCell ⟨w.heap.size, 0, none⟩ (.pointer (some ⟨g, 0, none⟩))).setCell ⟨w.heap.size, 1, none⟩ (.slice (some ⟨gk, 0, none⟩) m m)).setCell ⟨w.heap.size, 2, none⟩ (.slice (some ⟨gm, 0, none⟩) V V)) w.heap.size 162 #[.pointer (some ⟨g, 0, none⟩), .slice (some ⟨gk, 0, none⟩) m m, .slice (some ⟨gm, 0, none⟩) V V] := by
      have := ((B2.out.set_ 0 (.pointer (some ⟨g, 0, none⟩))).set_ 1 (.slice (some ⟨gk, 0, none⟩) m m)).set_ 2 (.slice (some ⟨gm, 0, none⟩) V V)
      simpa using this
    refine bodyPost_ret (results_cell_row rfl _ _ w.heap.size 162 _ (0, 0) _ rfl hblk Tryz.underlying162 rfl HINF.out) rfl ?_
    refine ⟨gk, m, gm, V, rfl, ⟨own_mod OK.out MM (fun k hk e => by replace e : k = _ := e; simp [Value.ownBlock] at hk; omega), ?_⟩, ((ZZ.out.setCell (Nat.le_refl _) _).setCell (Nat.le_refl _) _).setCell (Nat.le_refl _) _⟩
    have := own_mod OM.out MM (fun k hk e => by replace e : k = _ := e; simp [Value.ownBlock] at hk; omega)
    rw [← HV.out]; exact this
end Go.Proofs.YtgcbdoljapnecaaGreat
