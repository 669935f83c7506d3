/- from, look: what is known of a map while it is walked. -/
import Derived.Test.YtgohdhmijfajfaaWWalk
namespace Go.Proofs.Ytgohdhmijfajfaa
set_option maxRecDepth 20000
open Go.RowKit
set_option linter.unusedVariables false
set_option maxHeartbeats 8000000 in
theorem wlook_p (B g : Nat) (l b : List Nat) (root lone : Int) (w : World) (gk ck gm cm m V d : Nat) (K : List Int) (M : List Bool) (W : World) (HM : Hid (∀ W', Below B w W' → MapAt W' g l b root lone)) (hbe : Below B w W) (hB : B ≤ w.heap.size)
    (hd : d < l.length) (hm : m = l.length / 2) (hV : ∀ x, x < l.length → nameOf l x < V) (H : WMem B gk ck gm cm m V K M W) :
    Calls Try.prog 32 #[wval g gk ck gm cm m V, .int .i64 (d : Int)] W fun e w' => e = .returned (.int .i64 ((wKd (nameOf l) K M d : Nat) : Int)) ∧ WMem B gk ck gm cm m V (wK1 K d (wKd (nameOf l) K M d)) (wM1 (nameOf l) M d (wKd (nameOf l) K M d)) w' ∧ Mod (fun i => i = gk ∨ i = gm) W w' := by
  have hev : l.length % 2 = 0 := (HM.out _ hbe).1.1
  have hle := (HM.out _ hbe).2.1
  obtain ⟨md, hmd⟩ : ∃ md, md = mt d := ⟨_, rfl⟩
  have hml : md < l.length := by rw [hmd]; exact mt_lt (m := l.length / 2) (by omega) hd
  obtain ⟨v, hv⟩ : ∃ v, v = nameOf l md := ⟨_, rfl⟩
  have hvV : v < V := by rw [hv]; exact hV _ hml
  obtain ⟨ed, hed⟩ : ∃ ed, ed = d / 2 := ⟨_, rfl⟩
  have hem : ed < m := by omega
  have e1 : (d : Int) / 2 = (ed : Int) := by omega
  have e2 : (d : Int).tdiv 2 = (ed : Int) := by rw [Int.tdiv_eq_ediv_of_nonneg (by omega)]; exact e1
  have hwe : IntKind.i64.wrap (ed : Int) = (ed : Int) := by simp [IntKind.wrap, IntKind.signed, IntKind.bits]; omega
  obtain ⟨kv, hkv⟩ : ∃ kv, kv = K.getD ed 0 := ⟨_, rfl⟩
  obtain ⟨mv, hmv⟩ : ∃ mv, mv = M.getD v false := ⟨_, rfl⟩
  have hKD : wKd (nameOf l) K M d = if kv = 0 then 1 else if kv = 2 then 3 else if mv = true then 2 else 0 := by unfold wKd; rw [← hed, ← hkv, ← hmd, ← hv, ← hmv]
  obtain ⟨kd, hkd⟩ : ∃ kd, kd = wKd (nameOf l) K M d := ⟨_, rfl⟩
  rw [← hkd] at hKD ⊢
  have HK1 : Hid (wK1 K d kd = if kd % 2 = 0 then K.set ed kd else K) := by show _ = _; unfold wK1; rw [hed]
  have HM1 : Hid (wM1 (nameOf l) M d kd = if kd = 0 then M.set v true else M) := by show _ = _; unfold wM1; rw [hv, hmd]
  have hbs : B ≤ W.heap.size := Nat.le_trans hB hbe.size
  have hgm := own_block H.om
  have hgk := own_block H.ok
  have hne := H.ne
  have hck := own_cellI H.ok ed hem
  have hfk := H.ok.frozenAt ed
  have hcm := own_cellB H.om v hvV
  have hfm := H.om.frozenAt v
  rw [← hkv] at hck
  rw [← hmv] at hcm
  -- behind the box
  have Z1 := Lib.hid ((Below.refl W.heap.size W).alloc (Nat.le_refl _) (.cells #[.pointer (some ⟨g, 0, none⟩), .slice (some ⟨gk, 0, none⟩) m ck, .slice (some ⟨gm, 0, none⟩) V cm] 67))
  have BW := Lib.hid (Blk.new W 67 #[.pointer (some ⟨g, 0, none⟩), .slice (some ⟨gk, 0, none⟩) m ck, .slice (some ⟨gm, 0, none⟩) V cm])
  have MP : Hid (∀ W', Below W.heap.size W W' → Calls Try.prog 23 #[.pointer (some ⟨g, 0, none⟩), .int .i64 (d : Int)] W' fun e w' => e = .returned (.int .i64 (md : Int)) ∧ Below W'.heap.size W' w') := fun W' z => by
    have := mate_in g l b root lone d W' (HM.out _ (hbe.trans (z.mono hbs))) hd
    rw [mt_mateN] at this
    rw [hmd]
    exact this
  have VP : Hid (∀ W', Below W.heap.size W W' → Calls Try.prog 21 #[.pointer (some ⟨g, 0, none⟩), .int .i64 (md : Int)] W' fun e w' => e = .returned (.int .i64 (v : Int)) ∧ Below W'.heap.size W' w') := fun W' z => by
    rw [hv]; exact vertex_in g l b root lone md W' (HM.out _ (hbe.trans (z.mono hbs))) hml
  have HH := Lib.hid H
  have HKD := Lib.hid hKD
  have HBE := Lib.hid hbe
  have HC := Lib.hid (And.intro hck (And.intro hfk (And.intro hcm hfm)))
  clear H hkv hmv hkd hKD hbe hv hmd hed HM hV hev hm hck hfk hcm hfm
  generalize wK1 K d kd = K' at *
  generalize wM1 (nameOf l) M d kd = M' at *
  go_enter Try.func32, Try.ntmps32
  go_upto_region 1 with fail
  have hws : (W.alloc (.cells #[.pointer (some ⟨g, 0, none⟩), .slice (some ⟨gk, 0, none⟩) m ck, .slice (some ⟨gm, 0, none⟩) V cm] 67)).heap.size = W.heap.size + 1 := by simp
  generalize W.alloc (.cells #[.pointer (some ⟨g, 0, none⟩), .slice (some ⟨gk, 0, none⟩) m ck, .slice (some ⟨gm, 0, none⟩) V cm] 67) = w2 at *
  have SK : Hid (∀ W', Below w2.heap.size w2 W' → Below W.heap.size W W' ∧ W'.cell? ⟨W.heap.size, 0, none⟩ = some (.pointer (some ⟨g, 0, none⟩))) := fun W' z =>
    ⟨Z1.out.trans (z.mono Z1.out.size), by have := (BW.out.below z).cell 0; simpa using this⟩
  have MP2 : Hid (∀ W', Below w2.heap.size w2 W' → Calls Try.prog 23 #[.pointer (some ⟨g, 0, none⟩), .int .i64 (d : Int)] W' fun e w' => e = .returned (.int .i64 (md : Int)) ∧ Below w2.heap.size w2 w') := fun W' z =>
    (MP.out W' (SK.out W' z).1).mono fun e w' ⟨h1, h2⟩ => ⟨h1, z.trans (h2.mono z.size)⟩
  have VP2 : Hid (∀ W', Below w2.heap.size w2 W' → Calls Try.prog 21 #[.pointer (some ⟨g, 0, none⟩), .int .i64 (md : Int)] W' fun e w' => e = .returned (.int .i64 (v : Int)) ∧ Below w2.heap.size w2 w') := fun W' z =>
    (VP.out W' (SK.out W' z).1).mono fun e w' ⟨h1, h2⟩ => ⟨h1, z.trans (h2.mono z.size)⟩
  clear MP VP
  go_cut [5, 6] (fun s5 s6 wx => s5 = .int .i64 (ed : Int) ∧ s6 = .int .i64 (v : Int) ∧ Below w2.heap.size w2 wx)
  case first =>
    have hba0 := Below.refl w2.heap.size w2
    have hba1 := hba0.drew
    have x0 := (SK.out _ hba0).2
    have xx0 := (SK.out _ hba1).2
    go_region_held3 (fun W' => Below w2.heap.size w2 W' ∧ W'.cell? ⟨W.heap.size, 0, none⟩ = some (.pointer (some ⟨g, 0, none⟩)))
      (exact ⟨by assumption, (SK.out _ (by assumption)).2⟩)
      (first
      | (go_at_call 23; (with_reducible refine (MP2.out _ (by assumption)).mono ?_); rintro e wa ⟨rfl, hba⟩)
      | (go_at_call 21; (with_reducible refine (VP2.out _ (by assumption)).mono ?_); rintro e wa ⟨rfl, hba⟩))
    all_goals (go_wp2_with fail; go_meet; exact ⟨rfl, rfl, by assumption⟩)
  case rest =>
    obtain ⟨rfl, rfl, z5⟩ := hcut
    obtain ⟨wd, rfl⟩ : ∃ wd, wd = wc := ⟨_, rfl⟩
    have z6 := (SK.out _ z5).1
    have HD := Lib.hid (HH.out.below z6)
    have BX := Lib.hid (BW.out.below z5)
    have bx1 : wd.cell? ⟨W.heap.size, 1, none⟩ = some (.slice (some ⟨gk, 0, none⟩) m ck) := by have := BX.out.cell 1; simpa using this
    have bx2 : wd.cell? ⟨W.heap.size, 2, none⟩ = some (.slice (some ⟨gm, 0, none⟩) V cm) := by have := BX.out.cell 2; simpa using this
    have hck : wd.cell? ⟨gk, ed, none⟩ = some (.int .i64 kv) := (z6.cell (p := ⟨gk, ed, none⟩) hgk.2).trans HC.out.1
    have hcm : wd.cell? ⟨gm, v, none⟩ = some (.bool mv) := (z6.cell (p := ⟨gm, v, none⟩) hgm.2).trans HC.out.2.2.1
    have hfk := HD.out.ok.frozenAt ed
    have hfm := HD.out.om.frozenAt v
    have n1 : gk ≠ W.heap.size := by omega
    have n2 : gm ≠ W.heap.size := by omega
    have n3 : W.heap.size ≠ gk := by omega
    have n4 : W.heap.size ≠ gm := by omega
    have n5 : gm ≠ gk := fun e => hne e.symm
    have MM : Hid (Mod (fun i => i = gk ∨ i = gm) W wd) := Mod.none_ z6 _
    clear SK MP2 VP2 HC BW z5 HH Z1
    by_cases k0 : kv = 0
    · have hk : kd = 1 := by rw [HKD.out, if_pos k0]
      have hK := HK1.out
      have hM := HM1.out
      rw [hk, if_neg (by omega)] at hK hM
      subst hk k0 hK hM
      clear HKD HK1 HM1
      go_wp2_with fail
      go_ret
      exact ⟨rfl, HD.out, MM.out⟩
    · by_cases k2 : kv = 2
      · have hk : kd = 3 := by rw [HKD.out, if_neg k0, if_pos k2]
        have hK := HK1.out
        have hM := HM1.out
        rw [hk, if_neg (by omega)] at hK hM
        subst hk k2 hK hM
        clear HKD HK1 HM1
        go_wp2_with fail
        go_ret
        exact ⟨rfl, HD.out, MM.out⟩
      · have c0 : (kv == 0) = false := by rw [beq_eq_false_iff_ne]; exact k0
        have c2 : (kv == 2) = false := by rw [beq_eq_false_iff_ne]; exact k2
        have HD2 := Lib.hid (HD.out.setK ed 2)
        have MM2 : Hid (Mod (fun i => i = gk ∨ i = gm) W (wd.setCell ⟨gk, ed, none⟩ (.int .i64 2))) := MM.out.setCell (fun _ => .inl rfl) _
        by_cases q : mv = true
        · have hk : kd = 2 := by rw [HKD.out, if_neg k0, if_neg k2, if_pos q]
          have hK := HK1.out
          have hM := HM1.out
          rw [hk] at hK hM
          rw [if_pos (by omega)] at hK
          rw [if_neg (by omega)] at hM
          subst hk q hK hM
          clear HKD HK1 HM1
          go_wp2_with fail
          go_ret
          exact ⟨rfl, HD2.out, MM2.out⟩
        · have hk : kd = 0 := by rw [HKD.out, if_neg k0, if_neg k2, if_neg q]
          have q' : mv = false := by simpa using q
          have hK := HK1.out
          have hM := HM1.out
          rw [hk] at hK hM
          rw [if_pos (by omega)] at hK
          rw [if_pos rfl] at hM
          have HD3 := Lib.hid ((HD2.out.setK ed 0).setM v true)
          rw [List.set_set] at HD3
          have MM3 : Hid (Mod (fun i => i = gk ∨ i = gm) W (((wd.setCell ⟨gk, ed, none⟩ (.int .i64 2)).setCell ⟨gk, ed, none⟩ (.int .i64 0)).setCell ⟨gm, v, none⟩ (.bool true))) := (MM2.out.setCell (fun _ => .inl rfl) _).setCell (fun _ => .inr rfl) _
          subst hk q' hK hM
          clear HKD HK1 HM1
          go_wp2_with fail
          go_ret
          exact ⟨rfl, HD3.out, MM3.out⟩
end Go.Proofs.Ytgohdhmijfajfaa
