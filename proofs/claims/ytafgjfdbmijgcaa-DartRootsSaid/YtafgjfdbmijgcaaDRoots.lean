/- DartRoots: another root; when maps are the same. -/
import Derived.Test.YtafgjfdbmijgcaaDSame
import Derived.Test.YtafgjfdbmijgcaaRegion
import Derived.BigQuiet
import Derived.Deep.RegionWith
import Derived.Deep.RegionHeld3
import Derived.Deep.DeepCutAuto
namespace Go.Proofs.Ytafgjfdbmijgcaa
open Go.RowKit
set_option linter.unusedVariables false

set_option maxRecDepth 100000 in
set_option maxHeartbeats 8000000 in
theorem dartRoots_walk (A0 A5 : Option Addr) (n m c r lo n' m' c' r' lo' : Nat) (d : Int) (by_ by' : List Int) (w : World) (h0 : Rd w w.heap.size A0 m (Z8 by_)) (hb0 : ∀ x ∈ by_, 0 ≤ x ∧ x < 256) (hmc : m ≤ c) (hcm : c ≤ maxLen) (hn : n < 256) (hr : r < 256) (hlo : lo < 256)
    (h5 : Rd w w.heap.size A5 m' (Z8 by')) (hb5 : ∀ x ∈ by', 0 ≤ x ∧ x < 256) (hmc' : m' ≤ c') (hcm' : c' ≤ maxLen) (hn' : n' < 256) (hr' : r' < 256) (hlo' : lo' < 256) :
    Calls Try.prog 6 #[.int .u8 (n : Int), .slice A0 m c, .int .u8 (r : Int), .int .u8 (lo : Int), .int .i64 d, .int .u8 (n' : Int), .slice A5 m' c', .int .u8 (r' : Int), .int .u8 (lo' : Int)] w fun e w' => e = .returned (.bool true) ∧ Below w.heap.size w w' := by
  unfold maxLen at hcm hcm'
  have AW := Lib.hid (dawake_p w)
  have H0 := Lib.hid h0
  have HB0 := Lib.hid hb0
  have H5 := Lib.hid h5
  have HB5 := Lib.hid hb5
  clear h0 hb0 h5 hb5
  go_enter Try.func6, Try.ntmps6
  go_wp2_with fail
  refine AW.out.mono ?_
  rintro e w1 ⟨rfl, b1⟩
  have MD := Lib.hid (made_p n r lo m c _ A0 by_ w1 (H0.out.below b1) HB0.out b1.size hn hr hlo (by omega))
  have B1 := Lib.hid b1
  clear b1 AW
  go_wp2_with fail
  refine MD.out.mono ?_
  rintro e w2 ⟨g, v, l, b, root, rfl, hmap, hrm, hl, hroot, b2⟩
  generalize hq0 : lo % 5 = q0 at hmap hrm
  have hq5 : q0 < 5 := by omega
  obtain ⟨hinv, A, cA, hla, rfl, hlc, hcA, hrA⟩ := hrm
  have hbx := (Below.refl w2.heap.size w2).alloc (Nat.le_refl _) (.cells #[.slice A l.length cA, .int .i64 root, .int .i64 (q0 : Int)] 36)
  have HX := Lib.hid (Blk.new w2 36 #[.slice A l.length cA, .int .i64 root, .int .i64 (q0 : Int)])
  have HM := Lib.hid (hmap.below hbx)
  have HR := Lib.hid (hrA.more hbx)
  have HI := Lib.hid hinv
  have hl20 : l.length ≤ 18 := by have := Nat.mod_lt n (show 0 < 10 by decide); omega
  have HRT : Hid (RootOk root l.length) := by show RootOk _ _; rw [hl]; exact hroot
  have B2 : Hid (Below w.heap.size w w2) := B1.out.trans (b2.mono B1.out.size)
  have B3 : Hid (Below w.heap.size w (w2.alloc (.cells #[.slice A l.length cA, .int .i64 root, .int .i64 (q0 : Int)] 36))) := B2.out.trans (hbx.mono B2.out.size)
  have HLC := Lib.hid (And.intro hlc hcA)
  have MD2 : Hid (∀ w', Below w.heap.size w w' → Calls Try.prog 19 #[.int .u8 (n' : Int), .slice A5 m' c', .int .u8 (r' : Int), .int .u8 (lo' : Int)] w' (MadePost w' (n' % 10) (lo' % 5))) := fun w' hb =>
    made_p n' r' lo' m' c' _ A5 by' w' (H5.out.below hb) HB5.out hb.size hn' hr' hlo' (by omega)
  clear hmap hbx hrA hinv b2 hq0 B1 MD hl hroot hlc hcA hla
  go_upto_region 4 with fail
  generalize hw3 : w2.alloc (.cells #[.slice A l.length cA, .int .i64 root, .int .i64 (q0 : Int)] 36) = w3 at *
  have hX3 : w2.heap.size < w3.heap.size := by rw [← hw3]; simp
  have x0 : w3.cell? ⟨w2.heap.size, 0, none⟩ = some (.slice A l.length cA) := HX.out.cell 0
  have x1 : w3.cell? ⟨w2.heap.size, 1, none⟩ = some (.int .i64 root) := HX.out.cell 1
  have x2 : w3.cell? ⟨w2.heap.size, 2, none⟩ = some (.int .i64 (q0 : Int)) := HX.out.cell 2
  clear hw3 HX
  generalize w2.heap.size = gx at *
  go_wp2_with fail
  refine (MD2.out _ B3.out).mono ?_
  rintro e w4 ⟨g', v', l', b', root', rfl, hmap, hrm, hl, hroot, b4⟩
  generalize hq0 : lo' % 5 = p0 at hmap hrm
  have hp5 : p0 < 5 := by omega
  obtain ⟨hinv, A', cA', hla, rfl, hlc, hcA, hrA⟩ := hrm
  have hbx := (Below.refl w4.heap.size w4).alloc (Nat.le_refl _) (.cells #[.slice A' l'.length cA', .int .i64 root', .int .i64 (p0 : Int)] 36)
  have HX := Lib.hid (Blk.new w4 36 #[.slice A' l'.length cA', .int .i64 root', .int .i64 (p0 : Int)])
  have hbx2 : Below w3.heap.size w3 (w4.alloc (.cells #[.slice A' l'.length cA', .int .i64 root', .int .i64 (p0 : Int)] 36)) := b4.trans (hbx.mono b4.size)
  have HM' := Lib.hid (hmap.below hbx)
  have HR' := Lib.hid (hrA.more hbx)
  have HM4 := Lib.hid (HM.out.below hbx2)
  have HR4 := Lib.hid (HR.out.more hbx2)
  have hl20' : l'.length ≤ 18 := by have := Nat.mod_lt n' (show 0 < 10 by decide); omega
  have B4 : Hid (Below w.heap.size w (w4.alloc (.cells #[.slice A' l'.length cA', .int .i64 root', .int .i64 (p0 : Int)] 36))) := B3.out.trans (hbx2.mono B3.out.size)
  have y0 := (hbx2.cell (p := ⟨gx, 0, none⟩) hX3).trans x0
  have y1 := (hbx2.cell (p := ⟨gx, 1, none⟩) hX3).trans x1
  have y2 := (hbx2.cell (p := ⟨gx, 2, none⟩) hX3).trans x2
  have hX4 : gx < (w4.alloc (.cells #[.slice A' l'.length cA', .int .i64 root', .int .i64 (p0 : Int)] 36)).heap.size := by have := hbx2.size; omega
  have HLC' := Lib.hid (And.intro hlc hcA)
  clear hmap hbx hrA hinv b4 hq0 MD2 hl hroot hlc hcA hla HM HR x0 x1 x2 hbx2 hX3 B2 B3
  go_upto_region 5 with fail
  generalize hw5 : w4.alloc (.cells #[.slice A' l'.length cA', .int .i64 root', .int .i64 (p0 : Int)] 36) = w5 at *
  have hX5 : w4.heap.size < w5.heap.size := by rw [← hw5]; simp
  have z0 : w5.cell? ⟨w4.heap.size, 0, none⟩ = some (.slice A' l'.length cA') := HX.out.cell 0
  have z1 : w5.cell? ⟨w4.heap.size, 1, none⟩ = some (.int .i64 root') := HX.out.cell 1
  have z2 : w5.cell? ⟨w4.heap.size, 2, none⟩ = some (.int .i64 (p0 : Int)) := HX.out.cell 2
  clear hw5 HX
  generalize w4.heap.size = gy at *
  obtain ⟨sm, hsm⟩ : ∃ sm, sm = decide (root = root' ∧ (q0 : Int) = (p0 : Int) ∧ l = l') := ⟨_, rfl⟩
  have EQ : Hid (Calls Try.prog 14 #[.slice A l.length cA, .slice A' l'.length cA'] w5 fun e w' => e = .returned (.bool (decide (l = l'))) ∧ Below w5.heap.size w5 w') := by
    have h1 := HLC.out.2
    have h2 := HLC'.out.2
    have h3 := HLC.out.1
    have h4 := HLC'.out.1
    unfold maxLen at h1 h2
    have := equalI_any A A' l.length cA l'.length cA' _ _ (ofN l) (ofN l') w5 HR4.out HR'.out (by omega) (by omega)
    refine this.mono fun e w' ⟨he, j, hw⟩ => ⟨?_, by rw [hw]; exact below_draws (Below.refl _ _) j⟩
    rw [he]
    congr 2
    rw [decide_eq_decide]
    exact ⟨fun e' => ofN_inj e', fun e' => by rw [e']⟩
  have SD : Hid (sm = (decide (l = l') && (root == root') && ((q0 : Int) == (p0 : Int)))) := by
    show _ = _
    rw [hsm, Bool.eq_iff_iff]
    simp only [decide_eq_true_iff, Bool.and_eq_true, beq_iff_eq]
    constructor
    · rintro ⟨a, b, c⟩; exact ⟨⟨c, a⟩, b⟩
    · rintro ⟨⟨a, b⟩, c⟩; exact ⟨b, c, a⟩
  have HSM := Lib.hid hsm
  clear hsm
  go_cut [23] from 46 to 64 (fun s wx => s = .bool sm ∧ Below w5.heap.size w5 wx)
  case first =>
    generalize hdl : decide (l = l') = dl at *
    clear hdl
    go_wp2_with fail
    refine EQ.out.mono ?_
    rintro e w6 ⟨rfl, b6⟩
    have xx1 := (b6.cell (p := ⟨gx, 1, none⟩) hX4).trans y1
    have xx2 := (b6.cell (p := ⟨gx, 2, none⟩) hX4).trans y2
    have yy1 := (b6.cell (p := ⟨gy, 1, none⟩) hX5).trans z1
    have yy2 := (b6.cell (p := ⟨gy, 2, none⟩) hX5).trans z2
    cases dl
    · go_wp2_with fail
      go_meet
      exact ⟨by rw [SD.out]; rfl, b6⟩
    · by_cases h1 : root = root'
      · have g1 : (root == root') = true := by rw [beq_iff_eq]; exact h1
        clear h1
        by_cases h2 : q0 = p0
        · have g2 : ((q0 : Int) == (p0 : Int)) = true := by rw [beq_iff_eq]; omega
          have g3 : (q0 == p0) = true := by rw [beq_iff_eq]; exact h2
          have SE : Hid (sm = true) := by show _ = _; rw [SD.out, g1, g2]; first | done | rfl
          clear h2
          go_wp2_with fail
          go_meet
          exact ⟨by rw [SE.out], b6⟩
        · have g2 : ((q0 : Int) == (p0 : Int)) = false := by rw [beq_eq_false_iff_ne]; omega
          have g3 : (q0 == p0) = false := by rw [beq_eq_false_iff_ne]; exact h2
          have SE : Hid (sm = false) := by show _ = _; rw [SD.out, g1, g2]; first | done | rfl
          clear h2
          go_wp2_with fail
          go_meet
          exact ⟨by rw [SE.out], b6⟩
      · have g1 : (root == root') = false := by rw [beq_eq_false_iff_ne]; exact h1
        have SE : Hid (sm = false) := by show _ = _; rw [SD.out, g1]; first | done | rfl
        clear h1
        go_wp2_with fail
        go_meet
        exact ⟨by rw [SE.out], b6⟩
  case rest =>
    obtain ⟨rfl, b6⟩ := hcut
    have u0 := (b6.cell (p := ⟨gx, 0, none⟩) hX4).trans y0
    have u1 := (b6.cell (p := ⟨gx, 1, none⟩) hX4).trans y1
    have u2 := (b6.cell (p := ⟨gx, 2, none⟩) hX4).trans y2
    have hX6 : gx < wc.heap.size := by have := b6.size; omega
    have B6 : Hid (Below w.heap.size w wc) := B4.out.trans (b6.mono B4.out.size)
    have M1 := Lib.hid (HM4.out.below b6)
    have M2 := Lib.hid (HM'.out.below b6)
    have R1 := Lib.hid (HR4.out.more b6)
    have L0 : Hid (∀ w', Below wc.heap.size wc w' → w'.cell? ⟨gx, 0, none⟩ = some (.slice A l.length cA) ∧ w'.cell? ⟨gx, 1, none⟩ = some (.int .i64 root) ∧ w'.cell? ⟨gx, 2, none⟩ = some (.int .i64 (q0 : Int))) := fun w' hb =>
      ⟨(hb.cell (p := ⟨gx, 0, none⟩) hX6).trans u0, (hb.cell (p := ⟨gx, 1, none⟩) hX6).trans u1, (hb.cell (p := ⟨gx, 2, none⟩) hX6).trans u2⟩
    have lift : ∀ {f : Nat} {xs : Array Value} {v : Value}, (∀ w', Below wc.heap.size wc w' → Calls Try.prog f xs w' fun e w'' => e = .returned v ∧ Below w'.heap.size w' w'') → Hid (∀ w', Below wc.heap.size wc w' →
        Calls Try.prog f xs w' fun e w'' => e = .returned v ∧ Below wc.heap.size wc w'') := fun h w' hb =>
      (h w' hb).mono fun e w'' ⟨he, h2⟩ => ⟨he, hb.trans (h2.mono hb.size)⟩
    have S1 : Hid (∀ w', Below wc.heap.size wc w' → Calls Try.prog 38 #[.pointer (some ⟨g, 0, none⟩), .pointer (some ⟨g', 0, none⟩)] w' fun e w'' => e = .returned (.bool sm) ∧ Below wc.heap.size wc w'') := lift fun w' hb => by
      rw [HSM.out]; exact dsame_p g g' l b l' b' root q0 root' p0 w' (M1.out.below hb) (M2.out.below hb)
    have S2 : Hid (∀ w', Below wc.heap.size wc w' → Calls Try.prog 38 #[.pointer (some ⟨g', 0, none⟩), .pointer (some ⟨g, 0, none⟩)] w' fun e w'' => e = .returned (.bool sm) ∧ Below wc.heap.size wc w'') := lift fun w' hb => by
      have := dsame_p g' g l' b' l b root' p0 root q0 w' (M2.out.below hb) (M1.out.below hb)
      have e : decide (root' = root ∧ (p0 : Int) = (q0 : Int) ∧ l' = l) = sm := by
        rw [HSM.out, decide_eq_decide]
        constructor <;> (rintro ⟨a, b, c⟩; exact ⟨a.symm, b.symm, c.symm⟩)
      rwa [e] at this
    have S3 := lift fun w' hb => dsame_nil1 g l b root q0 w'
    have S4 := lift fun w' hb => dsame_nil w'
    clear u0 u1 u2 y0 y1 y2 z0 z1 z2 hX4 hX5 EQ SD HSM HM4 HM' HR4 HR' B4 b6 HLC' lift
    go_wp2_with fail
    refine (S1.out _ (Below.refl _ _)).mono ?_
    rintro e v1 ⟨rfl, c1⟩
    clear S1
    go_wp2_with fail
    refine (S2.out _ c1).mono ?_
    rintro e v2 ⟨rfl, c2⟩
    clear S2
    go_wp2_with fail
    refine (S3.out _ c2).mono ?_
    rintro e v3 ⟨rfl, c3⟩
    clear S3
    go_wp2_with fail
    refine (S4.out _ c3).mono ?_
    rintro e v4 ⟨rfl, c4⟩
    clear S4 c1 c2 c3
    by_cases hd : d < 0 ∨ (l.length : Int) ≤ d
    · have RO := Lib.hid (rooted_out g l b root q0 d v4 (M1.out.below c4) hd)
      go_wp2_with fail
      refine RO.out.mono ?_
      rintro e v5 ⟨rfl, c5⟩
      have c45 := c4.trans (c5.mono c4.size)
      obtain ⟨t0, t1, t2⟩ := L0.out _ c45
      have B5 : Hid (Below w.heap.size w v5) := B6.out.trans (c45.mono B6.out.size)
      by_cases hd0 : d < 0
      · clear hd c5 c45
        go_wp2_with fail
        go_ret
        exact ⟨rfl, B5.out⟩
      · have hd1 : (l.length : Int) ≤ d := by omega
        clear hd c5 c45
        go_wp2_with fail
        go_ret
        exact ⟨rfl, B5.out⟩
    · obtain ⟨dn, rfl⟩ : ∃ n : Nat, d = (n : Int) := ⟨d.toNat, by omega⟩
      have hdl : dn < l.length := by omega
      have RI := Lib.hid (rooted_in g l b root q0 dn v4 (M1.out.below c4) hdl)
      have hdl2 : ¬ (l.length : Int) ≤ (dn : Int) := by omega
      clear hd
      go_wp2_with fail
      refine RI.out.mono ?_
      rintro e v5 ⟨gq, rfl, hmq, c5⟩
      have c45 := c4.trans (c5.mono c4.size)
      obtain ⟨t0, t1, t2⟩ := L0.out _ c45
      obtain ⟨rn, hrn, hrl⟩ : ∃ rn : Nat, root = (rn : Int) ∧ rn < l.length := by
        rcases HRT.out with ⟨h1, _⟩ | ⟨_, h1, h2⟩
        · omega
        · exact ⟨root.toNat, by omega, by omega⟩
      subst hrn
      have RB := Lib.hid (rooted_in gq l b dn q0 rn v5 hmq hrl)
      have HMQ := Lib.hid hmq
      have C45 := Lib.hid c45
      clear RI hmq c5 c45 c4
      go_wp2_with fail
      refine RB.out.mono ?_
      rintro e v6 ⟨gb, rfl, hmb, c6⟩
      have c56 := C45.out.trans (c6.mono C45.out.size)
      obtain ⟨s0, s1, s2⟩ := L0.out _ c56
      have HMQ6 := Lib.hid (HMQ.out.below c6)
      have HMB6 := Lib.hid hmb
      have M16 := Lib.hid (M1.out.below c56)
      have R16 := Lib.hid (R1.out.more c56)
      have B9 : Hid (Below w.heap.size w v6) := B6.out.trans (c56.mono B6.out.size)
      have L6 : Hid (∀ w', Below v6.heap.size v6 w' → w'.cell? ⟨gx, 0, none⟩ = some (.slice A l.length cA) ∧ w'.cell? ⟨gx, 1, none⟩ = some (.int .i64 (rn : Int)) ∧ w'.cell? ⟨gx, 2, none⟩ = some (.int .i64 (q0 : Int))) := fun w' hb =>
        L0.out w' (c56.trans (hb.mono c56.size))
      clear hmb c56 c6 HMQ RB M1 R1 B6 L0 C45 t0 t1 t2
      have d0 : Below v6.heap.size v6 v6.drew := (Below.refl _ _).drew
      have lift : ∀ {f : Nat} {xs : Array Value} {v : Value}, (∀ w', Below v6.heap.size v6 w' → Calls Try.prog f xs w' fun e w'' => e = .returned v ∧ Below w'.heap.size w' w'') → Hid (∀ w', Below v6.heap.size v6 w' →
          Calls Try.prog f xs w' fun e w'' => e = .returned v ∧ Below v6.heap.size v6 w'') := fun h w' hb =>
        (h w' hb).mono fun e w'' ⟨he, h2⟩ => ⟨he, hb.trans (h2.mono hb.size)⟩
      have same_ : ∀ {f : Nat} {xs : Array Value} {v : Value}, (∀ w', Below v6.heap.size v6 w' → Calls Try.prog f xs w' fun e w'' => e = .returned v ∧ w' = w'') → Hid (∀ w', Below v6.heap.size v6 w' →
          Calls Try.prog f xs w' fun e w'' => e = .returned v ∧ Below v6.heap.size v6 w'') := fun h w' hb =>
        (h w' hb).mono fun e w'' ⟨he, h2⟩ => ⟨he, h2 ▸ hb⟩
      have K1 := same_ fun w' hb => root_p gq l b dn q0 w' (HMQ6.out.below hb)
      have K2 := same_ fun w' hb => lone_p gq l b dn q0 w' (HMQ6.out.below hb)
      have K3 := same_ fun w' hb => root_p g l b rn q0 w' (M16.out.below hb)
      have K4 := lift fun w' hb => dsame_p gb g l b l b rn q0 rn q0 w' (HMB6.out.below hb) (M16.out.below hb)
      have K5 := lift fun w' hb => dsame_p gq g l b l b dn q0 rn q0 w' (HMQ6.out.below hb) (M16.out.below hb)
      rw [decide_eq_true (show (rn : Int) = (rn : Int) ∧ (q0 : Int) = (q0 : Int) ∧ l = l from ⟨rfl, rfl, rfl⟩)] at K4
      have K6 : Hid (∀ w', Below v6.heap.size v6 w' → Calls Try.prog 13 #[.pointer (some ⟨gq, 0, none⟩)] w' fun e w'' => ∃ A9 c9, e = .returned (.slice A9 l.length c9) ∧ l.length ≤ c9 ∧ c9 ≤ maxLen ∧ Rd w'' w''.heap.size A9 l.length (I64 (ofN l)) ∧ Below v6.heap.size v6 w'') := fun w' hb =>
        (mlist_p gq l b dn q0 w' (HMQ6.out.below hb)).mono fun e w'' ⟨A9, c9, he, h1, h2, h3, h4⟩ => by
          rw [ofN_len] at he h1 h3
          exact ⟨A9, c9, he, h1, h2, Rd.ofOwn h3, hb.trans (h4.mono hb.size)⟩
      have K7 : Hid (∀ A9 c9 w', Rd w' w'.heap.size A9 l.length (I64 (ofN l)) → l.length ≤ c9 → c9 ≤ maxLen → Below v6.heap.size v6 w' →
          Calls Try.prog 14 #[.slice A9 l.length c9, .slice A l.length cA] w' fun e w'' => e = .returned (.bool true) ∧ Below v6.heap.size v6 w'') := fun A9 c9 w' h1 h2 h3 hb => by
        have h4 := HLC.out.2
        have h5 := HLC.out.1
        unfold maxLen at h3 h4
        exact (equalI_any A9 A l.length c9 l.length cA _ _ (ofN l) (ofN l) w' h1 (R16.out.more hb) (by omega) (by omega)).mono fun e w'' ⟨he, j, hw⟩ => ⟨by rw [he, decide_eq_true rfl], by rw [hw]; exact below_draws hb j⟩
      clear lift same_ HLC HMQ6 HMB6 M16 R16 HRT HI
      obtain ⟨bd, hbd⟩ : ∃ bd, bd = decide ((dn : Int) = (rn : Int) ∧ (q0 : Int) = (q0 : Int) ∧ l = l) := ⟨_, rfl⟩
      rw [← hbd] at K5
      have HBD1 : ((dn : Int) == (rn : Int)) = bd := by
        rw [hbd, Bool.eq_iff_iff, beq_iff_eq, decide_eq_true_iff]
        exact ⟨fun h => ⟨h, rfl, rfl⟩, fun h => h.1⟩
      have HBD2 : (dn == rn) = bd := by
        rw [← HBD1, Bool.eq_iff_iff, beq_iff_eq, beq_iff_eq]
        omega
      have HBD3 : decide (dn = rn) = bd := by
        rw [← HBD2, Bool.eq_iff_iff, beq_iff_eq, decide_eq_true_iff]
      clear hbd
      go_wp2_with fail
      have SK : Hid (∀ w', Below v6.heap.size v6 w' → Below v6.heap.size v6 w' ∧ w'.cell? ⟨gx, 0, none⟩ = some (.slice A l.length cA) ∧ w'.cell? ⟨gx, 1, none⟩ = some (.int .i64 (rn : Int)) ∧ w'.cell? ⟨gx, 2, none⟩ = some (.int .i64 (q0 : Int))) := fun w' hb => ⟨hb, L6.out w' hb⟩
      clear s0 s1 s2 L6
      go_region_held3 (fun w' => Below v6.heap.size v6 w' ∧ w'.cell? ⟨gx, 0, none⟩ = some (.slice A l.length cA) ∧ w'.cell? ⟨gx, 1, none⟩ = some (.int .i64 (rn : Int)) ∧ w'.cell? ⟨gx, 2, none⟩ = some (.int .i64 (q0 : Int)))
        (exact SK.out _ (by assumption))
        (first
        | (go_at_call 15; (with_reducible refine (K1.out _ (by assumption)).mono ?_); rintro e wa ⟨rfl, hba⟩)
        | (go_at_call 15; (with_reducible refine (K3.out _ (by assumption)).mono ?_); rintro e wa ⟨rfl, hba⟩)
        | (go_at_call 16; (with_reducible refine (K2.out _ (by assumption)).mono ?_); rintro e wa ⟨rfl, hba⟩)
        | (go_at_call 38; (with_reducible refine (K4.out _ (by assumption)).mono ?_); rintro e wa ⟨rfl, hba⟩)
        | (go_at_call 38; (with_reducible refine (K5.out _ (by assumption)).mono ?_); rintro e wa ⟨rfl, hba⟩)
        | (go_at_call 13; (with_reducible refine (K6.out _ (by assumption)).mono ?_); rintro e w9 ⟨A9, c9, rfl, hc9, hm9, r9, hba⟩)
        | (go_at_call 14; (with_reducible refine (K7.out _ _ _ r9 hc9 hm9 (by assumption)).mono ?_); rintro e wa ⟨rfl, hba⟩; clear r9))
      all_goals (
        go_wp2_with fail
        go_ret
        exact ⟨rfl, B9.out.trans (Below.mono hba B9.out.size)⟩)
end Go.Proofs.Ytafgjfdbmijgcaa
