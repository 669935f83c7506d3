/- The document's Vertices and Triangulation. -/
import Derived.Test.YtpplhooojfchpaaEDblR
import Derived.Deep.RegionHeld3
import Derived.Deep.RegionWith
import Derived.Deep.DeepCutAuto
namespace Go.Proofs.Ytpplhooojfchpaa
set_option maxRecDepth 20000
open Go.RowKit
set_option linter.unusedVariables false
theorem tri_per {l b : List Nat} (hp : Inv (phiL l) (phiB l b)) {d : Nat} (hd : d < l.length) : (orb (phiL l) d).length = 3 ↔ Tri l d := by
  have hd' : d < (phiL l).length := by rw [phiL_len]; exact hd
  have e : (orb (phiL l) d).length = per (phiL l) d := by unfold orb; rw [way_len]
  have hper := per_is hp hd'
  rw [e]
  unfold Tri
  constructor
  · intro h
    rw [h] at hper
    exact ⟨hper.2.2 1 (by omega) (by omega), hper.2.1⟩
  · rintro ⟨h1, h3⟩
    refine per_unique hper ⟨by omega, h3, fun j hj1 hj3 => ?_⟩
    obtain rfl | rfl : j = 1 ∨ j = 2 := by omega
    · exact h1
    · intro h2
      have h2' : (phiL l).getD ((phiL l).getD d 0) 0 = d := h2
      rw [h2'] at h3
      exact h1 h3
set_option maxHeartbeats 4000000 in
theorem reverts_p (A : Option Addr) (c : Nat) (l b : List Nat) (root : Int) (lone : Nat) (w : World) (h : Rd w w.heap.size A l.length (I64 (ofN l))) (hinv : Inv l b) (hn : l.length ≤ 100000) (hln : lone ≤ 65536) :
    Calls Try.prog 50 #[.agg #[.slice A l.length c, .int .i64 root, .int .i64 (lone : Int)]] w fun e w' => e = .returned (.int .i64 (((sizes l).length : Int) + (lone : Int))) ∧ Below w.heap.size w w' := by
  have hb0 := (Below.refl w.heap.size w).alloc (Nat.le_refl _) (.cells #[.slice A l.length c, .int .i64 root, .int .i64 (lone : Int)] 27)
  have HBX := Lib.hid (Blk.new w 27 #[.slice A l.length c, .int .i64 root, .int .i64 (lone : Int)])
  have h1 := (h.below hb0).lt
  have hsl : (sizes l).length ≤ 100000 := Nat.le_trans (sizes_le l) hn
  have HB0 := Lib.hid hb0
  have hgb : w.heap.size < (w.alloc (.cells #[.slice A l.length c, .int .i64 root, .int .i64 (lone : Int)] 27)).heap.size := by simp
  obtain ⟨nv, hnv⟩ : ∃ nv, nv = (sizes l).length := ⟨_, rfl⟩
  have RC : Hid (∀ W, Below (w.alloc (.cells #[.slice A l.length c, .int .i64 root, .int .i64 (lone : Int)] 27)).heap.size (w.alloc (.cells #[.slice A l.length c, .int .i64 root, .int .i64 (lone : Int)] 27)) W → Calls Try.prog 65 #[.slice A l.length c] W fun e w' => e = .returned (.int .i64 (nv : Int)) ∧ Below (w.alloc (.cells #[.slice A l.length c, .int .i64 root, .int .i64 (lone : Int)] 27)).heap.size (w.alloc (.cells #[.slice A l.length c, .int .i64 root, .int .i64 (lone : Int)] 27)) w') := fun W m => by
    have := rcount_p A c _ l b W (h1.below m) hinv (by omega)
    rw [← sizes_len, ← hnv] at this
    exact this.mono fun e w' ⟨he, hb⟩ => ⟨he, m.trans (hb.mono m.size)⟩
  rw [← hnv] at hsl ⊢
  have SK : Hid (∀ w', Below (w.alloc (.cells #[.slice A l.length c, .int .i64 root, .int .i64 (lone : Int)] 27)).heap.size (w.alloc (.cells #[.slice A l.length c, .int .i64 root, .int .i64 (lone : Int)] 27)) w' → Below (w.alloc (.cells #[.slice A l.length c, .int .i64 root, .int .i64 (lone : Int)] 27)).heap.size (w.alloc (.cells #[.slice A l.length c, .int .i64 root, .int .i64 (lone : Int)] 27)) w' ∧ w'.cell? ⟨w.heap.size, 0, none⟩ = some (.slice A l.length c) ∧ w'.cell? ⟨w.heap.size, 2, none⟩ = some (.int .i64 (lone : Int))) := fun w' hb =>
    ⟨hb, (hb.cell (p := ⟨w.heap.size, 0, none⟩) hgb).trans (HBX.out.cell 0), (hb.cell (p := ⟨w.heap.size, 2, none⟩) hgb).trans (HBX.out.cell 2)⟩
  have wv : IntKind.i64.wrap ((nv : Int) + (lone : Int)) = (nv : Int) + (lone : Int) := by simp [IntKind.wrap, IntKind.signed, IntKind.bits]; omega
  clear h hb0 h1 hinv HBX hnv
  go_enter Try.func50, Try.ntmps50
  go_upto_region 1 with fail
  generalize hw1 : w.alloc (.cells #[.slice A l.length c, .int .i64 root, .int .i64 (lone : Int)] 27) = w1 at *
  clear hw1
  have hba0 := Below.refl w1.heap.size w1
  have hba1 := hba0.drew
  go_region_held3 (fun w' => Below w1.heap.size w1 w' ∧ w'.cell? ⟨w.heap.size, 0, none⟩ = some (.slice A l.length c) ∧ w'.cell? ⟨w.heap.size, 2, none⟩ = some (.int .i64 (lone : Int)))
    (exact SK.out _ (by assumption))
    (first
    | (go_at_call 65; (with_reducible refine (RC.out _ (by assumption)).mono ?_); rintro e wa ⟨rfl, hba⟩))
  all_goals (
    go_wp2_with fail
    go_ret
    exact ⟨rfl, HB0.out.trans (hba.mono HB0.out.size)⟩)
set_option maxHeartbeats 8000000 in
theorem retriang_p (A : Option Addr) (c : Nat) (l b : List Nat) (root : Int) (lone : Nat) (w : World) (h : Rd w w.heap.size A l.length (I64 (ofN l))) (hinv : Inv l b) (he : l.length % 2 = 0) (hn : l.length ≤ 100000) (hln : lone ≤ 65536) :
    Calls Try.prog 30 #[.agg #[.slice A l.length c, .int .i64 root, .int .i64 (lone : Int)]] w (BoolPost (TriangN l lone) w) := by
  have hb0 := (Below.refl w.heap.size w).alloc (Nat.le_refl _) (.cells #[.slice A l.length c, .int .i64 root, .int .i64 (lone : Int)] 27)
  have HBX := Lib.hid (Blk.new w 27 #[.slice A l.length c, .int .i64 root, .int .i64 (lone : Int)])
  have h1 := (h.below hb0).lt
  have H1 := Lib.hid h1
  have HI := Lib.hid hinv
  have HE := Lib.hid he
  have HP := Lib.hid (phi_inv hinv he)
  have HPL := Lib.hid (phiL_len l)
  have HB0 := Lib.hid hb0
  have hgb : w.heap.size < (w.alloc (.cells #[.slice A l.length c, .int .i64 root, .int .i64 (lone : Int)] 27)).heap.size := by simp
  have SK : Hid (∀ w', Below (w.alloc (.cells #[.slice A l.length c, .int .i64 root, .int .i64 (lone : Int)] 27)).heap.size (w.alloc (.cells #[.slice A l.length c, .int .i64 root, .int .i64 (lone : Int)] 27)) w' → Below (w.alloc (.cells #[.slice A l.length c, .int .i64 root, .int .i64 (lone : Int)] 27)).heap.size (w.alloc (.cells #[.slice A l.length c, .int .i64 root, .int .i64 (lone : Int)] 27)) w' ∧ w'.cell? ⟨w.heap.size, 0, none⟩ = some (.slice A l.length c) ∧ w'.cell? ⟨w.heap.size, 1, none⟩ = some (.int .i64 root) ∧ w'.cell? ⟨w.heap.size, 2, none⟩ = some (.int .i64 (lone : Int))) := fun w' hb =>
    ⟨hb, (hb.cell (p := ⟨w.heap.size, 0, none⟩) hgb).trans (HBX.out.cell 0), (hb.cell (p := ⟨w.heap.size, 1, none⟩) hgb).trans (HBX.out.cell 1), (hb.cell (p := ⟨w.heap.size, 2, none⟩) hgb).trans (HBX.out.cell 2)⟩
  clear h hb0 h1 hinv he HBX
  go_enter Try.func30, Try.ntmps30
  go_upto_region 1 with fail
  generalize hw1 : (w.alloc (.cells #[.slice A l.length c, .int .i64 root, .int .i64 (lone : Int)] 27)) = w1 at *
  clear hw1
  have lift : ∀ {P : Ending → Prop} {K : FuncId} {args : Array Value}, (∀ W, Below w1.heap.size w1 W → Calls Try.prog K args W fun e w' => P e ∧ Below W.heap.size W w') → ∀ W, Below w1.heap.size w1 W → Calls Try.prog K args W fun e w' => P e ∧ Below w1.heap.size w1 w' := fun H W m => (H W m).mono fun e w' ⟨h1, h2⟩ => ⟨h1, m.trans (h2.mono m.size)⟩
  have K1 := Lib.hid (lift (fun W m => reverts_p A c l b root lone W (H1.out.more m) HI.out hn hln))
  have K2 : Hid (∀ W, Below w1.heap.size w1 W → Calls Try.prog 12 #[.agg #[.slice A l.length c, .int .i64 root, .int .i64 (lone : Int)]] W fun e w' => ∃ A9 c9, e = .returned (.slice A9 (pN l + lone) c9) ∧ Below w1.heap.size w1 w') := fun W m => (reparts_p A c l b root lone W (H1.out.more m) HI.out HE.out hn hln).mono fun e w' ⟨A9, c9, h1, _, _, _, h2⟩ => ⟨A9, c9, h1, m.trans (h2.mono m.size)⟩
  have K3 := Lib.hid (lift (fun W m => regenus_p A c l b root lone W (H1.out.more m) HI.out HE.out hn hln))
  have K4 := Lib.hid (lift (fun W m => reloops_p A c l b root (lone : Int) W (H1.out.more m) HI.out HE.out hn))
  have K5 := Lib.hid (lift (fun W m => redoubles_p A c l b root (lone : Int) W (H1.out.more m) HI.out HE.out hn))
  have hbad := edges_are l (l.length / 2)
  have hLl : loopsN l (l.length / 2) ≤ 100000 := by omega
  have hDl : dblN l (l.length / 2) ≤ 100000 := by omega
  have hsl := Nat.le_trans (sizes_le l) hn
  have hpn := pN_le l
  have HT : Hid (TriangN l lone ↔ (pN l + lone = 1 ∧ 3 ≤ (sizes l).length + lone ∧ (∀ d, d < l.length → Tri l d) ∧ genusN l = 0 ∧ loopsN l (l.length / 2) = 0 ∧ dblN l (l.length / 2) = 0)) := Iff.rfl
  clear lift hbad
  have hVc : ((sizes l).length : Int) + (lone : Int) = (((sizes l).length + lone : Nat) : Int) := by omega
  rw [hVc] at K1
  obtain ⟨V, hV⟩ : ∃ V, V = (sizes l).length + lone := ⟨_, rfl⟩
  rw [← hV] at K1 HT
  have hVl : V ≤ 200000 := by omega
  clear hV hVc hsl
  obtain ⟨N, hN⟩ : ∃ N, N = pN l + lone := ⟨_, rfl⟩
  rw [← hN] at K2 HT
  have hNl : N ≤ 200000 := by omega
  clear hN hpn
  generalize genusN l = G at *
  generalize loopsN l (l.length / 2) = L at *
  generalize dblN l (l.length / 2) = D at *
  have wLD : IntKind.i64.wrap ((L : Int) + (D : Int)) = (L : Int) + (D : Int) := by simp [IntKind.wrap, IntKind.signed, IntKind.bits]; omega
  go_cut [26] (fun s wx => ∃ t : Bool, s = .bool t ∧ Hid (t = false ↔ (N = 1 ∧ 3 ≤ V ∧ G = 0 ∧ L = 0 ∧ D = 0)) ∧ Below w1.heap.size w1 wx)
  case first =>
    have hba0 := Below.refl w1.heap.size w1
    have hba1 := hba0.drew
    obtain ⟨_, x0, x1, x2⟩ := SK.out _ hba0
    obtain ⟨_, xx0, xx1, xx2⟩ := SK.out _ hba1
    by_cases c1 : V < 3
    · have d1 : decide ((V : Int) < 3) = true := by rw [decide_eq_true_iff]; omega
      have d1' : decide (V < 3) = true := by rw [decide_eq_true_iff]; omega
      go_region_with (first
        | (go_at_call 50; (with_reducible refine (K1.out _ (by assumption)).mono ?_); rintro e wa ⟨rfl, hba⟩; obtain ⟨_, y0, y1, y2⟩ := SK.out _ hba)
        | (go_at_call 12; (with_reducible refine (K2.out _ (by assumption)).mono ?_); rintro e wa ⟨A9, c9, rfl, hba⟩; obtain ⟨_, y0, y1, y2⟩ := SK.out _ hba)
        | (go_at_call 20; (with_reducible refine (K3.out _ (by assumption)).mono ?_); rintro e wa ⟨rfl, hba⟩; obtain ⟨_, y0, y1, y2⟩ := SK.out _ hba)
        | (go_at_call 21; (with_reducible refine (K4.out _ (by assumption)).mono ?_); rintro e wa ⟨rfl, hba⟩; obtain ⟨_, y0, y1, y2⟩ := SK.out _ hba)
        | (go_at_call 22; (with_reducible refine (K5.out _ (by assumption)).mono ?_); rintro e wa ⟨rfl, hba⟩; obtain ⟨_, y0, y1, y2⟩ := SK.out _ hba))
      all_goals (go_wp2_with fail; go_meet; exact ⟨true, rfl, ⟨fun h => (by cases h), fun h => absurd h (by omega)⟩, hba⟩)
    · have d1 : decide ((V : Int) < 3) = false := by rw [decide_eq_false_iff_not]; omega
      have d1' : decide (V < 3) = false := by rw [decide_eq_false_iff_not]; omega
      by_cases c2 : N = 1
      · have d2 : ((N : Int) != 1) = false := by rw [bne_eq_false_iff_eq]; omega
        by_cases c3 : G = 0
        · have d3 : ((G : Int) != 0) = false := by rw [bne_eq_false_iff_eq]; omega
          by_cases c4 : L + D = 0
          · have d4 : ((L : Int) + (D : Int) != 0) = false := by rw [bne_eq_false_iff_eq]; omega
            have hgood : Hid (N = 1 ∧ 3 ≤ V ∧ G = 0 ∧ L = 0 ∧ D = 0) := ⟨c2, by omega, c3, by omega, by omega⟩
            clear c2 c3 c4
            go_region_with (first
              | (go_at_call 50; (with_reducible refine (K1.out _ (by assumption)).mono ?_); rintro e wa ⟨rfl, hba⟩; obtain ⟨_, y0, y1, y2⟩ := SK.out _ hba)
              | (go_at_call 12; (with_reducible refine (K2.out _ (by assumption)).mono ?_); rintro e wa ⟨A9, c9, rfl, hba⟩; obtain ⟨_, y0, y1, y2⟩ := SK.out _ hba)
              | (go_at_call 20; (with_reducible refine (K3.out _ (by assumption)).mono ?_); rintro e wa ⟨rfl, hba⟩; obtain ⟨_, y0, y1, y2⟩ := SK.out _ hba)
              | (go_at_call 21; (with_reducible refine (K4.out _ (by assumption)).mono ?_); rintro e wa ⟨rfl, hba⟩; obtain ⟨_, y0, y1, y2⟩ := SK.out _ hba)
              | (go_at_call 22; (with_reducible refine (K5.out _ (by assumption)).mono ?_); rintro e wa ⟨rfl, hba⟩; obtain ⟨_, y0, y1, y2⟩ := SK.out _ hba))
            all_goals (go_wp2_with fail; go_meet; exact ⟨false, rfl, ⟨fun _ => hgood.out, fun _ => rfl⟩, hba⟩)
          · have d4 : ((L : Int) + (D : Int) != 0) = true := by rw [bne_iff_ne]; omega
            have hbad : Hid (¬ (N = 1 ∧ 3 ≤ V ∧ G = 0 ∧ L = 0 ∧ D = 0)) := fun h => by omega
            clear c2 c3 c4
            go_region_with (first
              | (go_at_call 50; (with_reducible refine (K1.out _ (by assumption)).mono ?_); rintro e wa ⟨rfl, hba⟩; obtain ⟨_, y0, y1, y2⟩ := SK.out _ hba)
              | (go_at_call 12; (with_reducible refine (K2.out _ (by assumption)).mono ?_); rintro e wa ⟨A9, c9, rfl, hba⟩; obtain ⟨_, y0, y1, y2⟩ := SK.out _ hba)
              | (go_at_call 20; (with_reducible refine (K3.out _ (by assumption)).mono ?_); rintro e wa ⟨rfl, hba⟩; obtain ⟨_, y0, y1, y2⟩ := SK.out _ hba)
              | (go_at_call 21; (with_reducible refine (K4.out _ (by assumption)).mono ?_); rintro e wa ⟨rfl, hba⟩; obtain ⟨_, y0, y1, y2⟩ := SK.out _ hba)
              | (go_at_call 22; (with_reducible refine (K5.out _ (by assumption)).mono ?_); rintro e wa ⟨rfl, hba⟩; obtain ⟨_, y0, y1, y2⟩ := SK.out _ hba))
            all_goals (go_wp2_with fail; go_meet; exact ⟨true, rfl, ⟨fun h => (by cases h), fun h => absurd h hbad.out⟩, hba⟩)
        · have d3 : ((G : Int) != 0) = true := by rw [bne_iff_ne]; omega
          have hbad : Hid (¬ (N = 1 ∧ 3 ≤ V ∧ G = 0 ∧ L = 0 ∧ D = 0)) := fun h => by omega
          clear c2 c3
          go_region_with (first
            | (go_at_call 50; (with_reducible refine (K1.out _ (by assumption)).mono ?_); rintro e wa ⟨rfl, hba⟩; obtain ⟨_, y0, y1, y2⟩ := SK.out _ hba)
            | (go_at_call 12; (with_reducible refine (K2.out _ (by assumption)).mono ?_); rintro e wa ⟨A9, c9, rfl, hba⟩; obtain ⟨_, y0, y1, y2⟩ := SK.out _ hba)
            | (go_at_call 20; (with_reducible refine (K3.out _ (by assumption)).mono ?_); rintro e wa ⟨rfl, hba⟩; obtain ⟨_, y0, y1, y2⟩ := SK.out _ hba)
            | (go_at_call 21; (with_reducible refine (K4.out _ (by assumption)).mono ?_); rintro e wa ⟨rfl, hba⟩; obtain ⟨_, y0, y1, y2⟩ := SK.out _ hba)
            | (go_at_call 22; (with_reducible refine (K5.out _ (by assumption)).mono ?_); rintro e wa ⟨rfl, hba⟩; obtain ⟨_, y0, y1, y2⟩ := SK.out _ hba))
          all_goals (go_wp2_with fail; go_meet; exact ⟨true, rfl, ⟨fun h => (by cases h), fun h => absurd h hbad.out⟩, hba⟩)
      · have d2 : ((N : Int) != 1) = true := by rw [bne_iff_ne]; omega
        have hbad : Hid (¬ (N = 1 ∧ 3 ≤ V ∧ G = 0 ∧ L = 0 ∧ D = 0)) := fun h => by omega
        clear c2
        go_region_with (first
          | (go_at_call 50; (with_reducible refine (K1.out _ (by assumption)).mono ?_); rintro e wa ⟨rfl, hba⟩; obtain ⟨_, y0, y1, y2⟩ := SK.out _ hba)
          | (go_at_call 12; (with_reducible refine (K2.out _ (by assumption)).mono ?_); rintro e wa ⟨A9, c9, rfl, hba⟩; obtain ⟨_, y0, y1, y2⟩ := SK.out _ hba)
          | (go_at_call 20; (with_reducible refine (K3.out _ (by assumption)).mono ?_); rintro e wa ⟨rfl, hba⟩; obtain ⟨_, y0, y1, y2⟩ := SK.out _ hba)
          | (go_at_call 21; (with_reducible refine (K4.out _ (by assumption)).mono ?_); rintro e wa ⟨rfl, hba⟩; obtain ⟨_, y0, y1, y2⟩ := SK.out _ hba)
          | (go_at_call 22; (with_reducible refine (K5.out _ (by assumption)).mono ?_); rintro e wa ⟨rfl, hba⟩; obtain ⟨_, y0, y1, y2⟩ := SK.out _ hba))
        all_goals (go_wp2_with fail; go_meet; exact ⟨true, rfl, ⟨fun h => (by cases h), fun h => absurd h hbad.out⟩, hba⟩)
  case rest =>
    obtain ⟨t, rfl, HC, b5⟩ := hcut
    obtain ⟨wd, rfl⟩ : ∃ wd, wd = wc := ⟨_, rfl⟩
    have B5 := Lib.hid (HB0.out.trans (b5.mono HB0.out.size))
    have hs5 := b5.size
    cases t with
    | true =>
      go_wp2_with fail
      go_ret
      refine .no rfl (fun c => ?_) B5.out
      obtain ⟨a1, a2, a3, a4, a5, a6⟩ := HT.out.1 c
      have := HC.out.2 ⟨a1, a2, a4, a5, a6⟩
      cases this
    | false =>
      have PH := Lib.hid (rphi_p A c l root (lone : Int) wd (H1.out.more b5) HE.out hn)
      obtain ⟨_, y0, y1, y2⟩ := SK.out _ b5
      have HG : Hid (N = 1 ∧ 3 ≤ V ∧ G = 0 ∧ L = 0 ∧ D = 0) := HC.out.1 (by first | rfl | trivial)
      clear HC K1 K2 K3 K4 K5 SK H1
      go_wp2_with fail
      refine PH.out.mono ?_
      rintro e w3 ⟨Ap, cp, rfl, hcp, hmp, hownp, hb3⟩
      rw [ofN_len, HPL.out] at hownp hcp ⊢
      have HP3 := Lib.hid (Rd.ofOwn hownp)
      have B3 := Lib.hid (B5.out.trans (hb3.mono B5.out.size))
      clear hownp hb3 PH y0 y1 y2
      go_wp2_with fail
      go_loopw [31] (fun i wr => ∃ (k : Nat), k ≤ l.length ∧ i = .int .i64 (k : Int) ∧ Hid (∀ d, d < k → Tri l d) ∧ Hid (Below w3.heap.size w3 wr)) (fun i _ => l.length - (intOf i).toNat)
      case atStart => exact ⟨0, by omega, rfl, fun d h => absurd h (by omega), Below.refl _ _⟩
      case round =>
        obtain ⟨k, hk, rfl, HTR, HB⟩ := hrel
        by_cases hlt : k < l.length
        · have OB := rorbit_p Ap cp w3.heap.size (phiL l) (phiB l b) k wr (by rw [HPL.out]; exact HP3.out.below HB.out) HP.out (by rw [HPL.out]; omega) (by rw [HPL.out]; exact hlt)
          rw [HPL.out] at OB
          have OBH := Lib.hid OB
          have TP := Lib.hid (tri_per HP.out hlt)
          have hPl : (orb (phiL l) k).length ≤ l.length := by
            have := per_le HP.out (i := k) (by rw [HPL.out]; exact hlt)
            unfold orb; rw [way_len]; rw [HPL.out] at this; exact this
          have hdk : decide (k < l.length) = true := by rw [decide_eq_true_iff]; exact hlt
          have hsr := HB.out.size
          clear OB
          by_cases h3 : (orb (phiL l) k).length = 3
          · have TK := Lib.hid (TP.out.1 h3)
            have H3 := Lib.hid h3
            clear h3 hPl
            go_wp2_with fail
            refine OBH.out.mono ?_
            rintro e w4 ⟨A4, c4, rfl, _, _, _, hb4⟩
            rw [ofN_len, H3.out]
            have B4 := Lib.hid (HB.out.trans (hb4.mono hsr))
            clear hb4
            go_wp2_with fail
            go_roundw
            case rel =>
              refine ⟨k + 1, by omega, by go_num, fun d hd => ?_, B4.out⟩
              by_cases e : d = k
              · rw [e]; exact TK.out
              · exact HTR.out d (by omega)
            case measure => simp [intOf]; omega
          · have TK : Hid (¬ Tri l k) := fun x => h3 (TP.out.2 x)
            obtain ⟨P, hP⟩ : ∃ P, P = (orb (phiL l) k).length := ⟨_, rfl⟩
            rw [← hP] at h3 hPl
            have HPE := Lib.hid hP
            have hPi : ((P : Int) != 3) = true := by rw [bne_iff_ne]; omega
            clear hP h3
            go_wp2_with fail
            refine OBH.out.mono ?_
            rintro e w4 ⟨A4, c4, rfl, _, _, _, hb4⟩
            rw [ofN_len, ← HPE.out]
            have B4 := Lib.hid (B3.out.trans ((HB.out.trans (hb4.mono hsr)).mono B3.out.size))
            clear hb4
            go_wp2_with fail
            go_ret
            exact .no rfl (fun x => TK.out ((HT.out.1 x).2.2.1 k hlt)) B4.out
        · obtain rfl : k = l.length := by omega
          have hdk : decide (l.length < l.length) = false := by simp
          have B4 := Lib.hid (B3.out.trans (HB.out.mono B3.out.size))
          go_wp2_with fail
          go_ret
          obtain ⟨a1, a2, a4, a5, a6⟩ := HG.out
          exact .yes rfl (HT.out.2 ⟨a1, a2, HTR.out, a4, a5, a6⟩) B4.out
end Go.Proofs.Ytpplhooojfchpaa
