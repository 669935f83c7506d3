/- treeOf, walked. -/
import Derived.Test.YtdpejjokdncfnaaDoorQTree
namespace Go.Proofs.YtdpejjokdncfnaaDoor
open Go.RowKit
set_option linter.unusedVariables false
set_option maxRecDepth 20000
theorem leaf0_p (w : World) (A : Option Addr) (m c L : Nat) (hm : m + 1 = 2 * L) (hL : L ≤ 100000) :
    Calls Tryd.prog 55 #[.slice A m c, .int .i64 0] w fun e w' => e = .returned (.int .i64 (L : Int)) ∧ w = w' := by
  have := leaf_p w A m c 0 (by omega) (by omega)
  rw [show m / 2 + 1 + 0 = L by omega] at this
  exact this
def TreePost (w : World) (E : Nat → Int) (n B : Nat) (e : Ending) (w' : World) : Prop :=
  ∃ t H M T, e = .returned (.slice (some ⟨t, 0, none⟩) M M) ∧ M + 1 = 2 * 2 ^ H ∧ Lvs B H ∧ w.heap.size ≤ t ∧ Blk w' t 82 (ndArr T M) ∧ TreeOK E n H (fun x => T (x - 1)) ∧ Below w.heap.size w w'
/-- The leaves, as far as i. -/
def leavesTo (E : Nat → Int) (n K i : Nat) (U : Nat → Int × Int) : Prop := ∀ j, j < i → U (K + j) = nd E n j (j + 1)
/-- The nodes above x. -/
def nodesFrom (E : Nat → Int) (n H x : Nat) (U : Nat → Int × Int) : Prop := ∀ y h a, x < y → h ≤ H → y * 2 ^ h = 2 ^ H + a → a < 2 ^ H → U (y - 1) = nd E n a (a + 2 ^ h)
theorem nodesFrom.leaves {E : Nat → Int} {n K H : Nat} {U : Nat → Int × Int} (hK : K + 1 = 2 ^ H) (h : leavesTo E n K (K + 1) U) : nodesFrom E n H K U := fun y k a hy hk he ha => by
  cases k with
  | zero =>
    rw [Nat.pow_zero, Nat.mul_one] at he
    have := h a (by omega)
    rw [show y - 1 = K + a by omega, this]
  | succ k =>
    have := node_kids hk he ha
    have hp : 0 < 2 ^ k := Nat.two_pow_pos k
    have := node_end hk he ha
    exfalso
    have h1 : 2 ^ H ≤ y := by omega
    have h2 := Nat.mul_le_mul h1 (show 2 ≤ 2 ^ (k + 1) by rw [pow_up]; omega)
    omega
theorem nodesFrom.next {E : Nat → Int} {n H x : Nat} {U : Nat → Int × Int} (h : nodesFrom E n H x U) (hx1 : 1 ≤ x) (hx : x < 2 ^ H) : nodesFrom E n H (x - 1) (upd U (x - 1) (joinN (U (2 * x - 1)) (U (2 * x + 1 - 1)))) := fun y k a hy hk he ha => by
  by_cases e : y = x
  · subst e
    cases k with
    | zero => rw [Nat.pow_zero, Nat.mul_one] at he; omega
    | succ k =>
      obtain ⟨k1, k2, k3⟩ := node_kids hk he ha
      have h1 := h (2 * y) k a (by omega) (by omega) k1 ha
      have h2 := h (2 * y + 1) k (a + 2 ^ k) (by omega) (by omega) k2 k3
      unfold upd
      rw [if_pos rfl, h1, h2, nd_join E n _ _ _ (Nat.le_add_right _ _) (Nat.le_add_right _ _), pow_up, show a + 2 ^ k + 2 ^ k = a + 2 * 2 ^ k by omega]
  · unfold upd
    rw [if_neg (by omega)]
    exact h y k a (by omega) hk he ha
theorem nodesFrom.fits {E : Nat → Int} (hE : Exc E) {n H x : Nat} (hn : n ≤ 1000000) {U : Nat → Int × Int} (h : nodesFrom E n H x U) {y : Nat} (hy : x < y) (hy2 : y < 2 * 2 ^ H) : Fits (U (y - 1)) := by
  obtain ⟨k, a, h1, h2, h3⟩ := node_ex H y (by omega) hy2
  rw [h y k a hy h1 h2 h3]
  exact nd_fits hE hn _ _
set_option maxHeartbeats 4000000 in
theorem treeOf_p (E : Nat → Int) (hE : Exc E) (bb B cc n : Nat) (w : World) (hN : Nul w) (hn : n ≤ 1000000) (hB : B = (n + 511) / 512) (hb : Blk w bb 82 (ndArr (fun k => nd E n k (k + 1)) B)) :
    Calls Tryd.prog 65 #[.slice (some ⟨bb, 0, none⟩) B cc] w (TreePost w E n B) := by
  have HB := Lib.hid hB
  have hB9 : B ≤ 4096 := by omega
  have HN := Lib.hid hN
  have HE := Lib.hid hE
  have HBB := Lib.hid hb
  have hbl := hb.lt
  clear hB hN hE hb
  go_enter Tryd.func65, Tryd.ntmps65
  go_wp2_with fail
  refine (nodesFor_p _ B (by omega)).mono ?_
  rintro e w1 ⟨H, L, M, rfl, hM, hL1, hL9, hLH, hlv, rfl⟩
  obtain ⟨K, rfl⟩ : ∃ K, L = K + 1 := ⟨L - 1, by omega⟩
  have HLH := Lib.hid hLH
  have HLV := Lib.hid hlv
  have hBK : B ≤ K + 1 := by have := hlv.1; omega
  have HM := Lib.hid hM
  have hKM : K < M := by omega
  have hM9 : M ≤ 100000 := by omega
  have hMKI : (M : Int) - (K : Int) = (K : Int) + 1 := by omega
  have hMK : M - K = K + 1 := by omega
  have eK : ((K + 1 : Nat) : Int) - 1 = (K : Int) := by omega
  clear hLH hlv hM hL1
  have MK := run_make_nodes 71 (by kernel_rfl) M (by omega) w
  have hbn := Blk.new w 82 (ndArr (fun _ => (0, 0)) M)
  have HT := Lib.hid hbn
  have HB1 := Lib.hid (HBB.out.alloc (.cells (ndArr (fun _ => (0, 0)) M) 82))
  have L0 := Lib.hid (leaf0_p (w.alloc (.cells (ndArr (fun _ => (0, 0)) M) 82)) (some ⟨w.heap.size, 0, none⟩) M M (K + 1) (by have := HM.out; omega) (by omega))
  clear hbn
  go_wp2_with (first
    | (go_at_call 55; refine L0.out.mono ?_; rintro e w' ⟨rfl, rfl⟩)
    | (with_reducible refine wpList_copy_nodes rfl (.tmp 16) (.tmp 17) 71 70 rfl (by kernel_rfl) w.heap.size K (K + 1) (K + 1) bb B cc M rfl rfl (fun _ => (0, 0)) (fun k => nd E n k (k + 1)) HT.out HB1.out (by omega) (by omega) ?_))
  intro w3 h3 m3
  have hb3 : Hid (Below w.heap.size w w3) := ((Below.refl _ _).alloc (Nat.le_refl _) _).trans (m3.out.belowB (by simp) fun i hi e => by omega)
  have hs3 : w.heap.size < w3.heap.size := by have := m3.out.size; simp at this; omega
  have L3 : Hid (leavesTo E n K B (laid (fun _ => (0, 0)) (fun k => nd E n k (k + 1)) K B)) := fun j hj => by
    unfold laid
    rw [if_neg (by omega), if_pos (by omega), show K + j - K = j by omega]
  generalize hU0 : laid (fun _ => (0, 0)) (fun k => nd E n k (k + 1)) K B = U0 at *
  generalize hS : w.heap.size = S at *
  clear hU0 HT HB1 MK L0 m3 HBB
  go_wp2_with fail
  go_loopw [5] (fun x wr => ∃ (i : Nat) (U : Nat → Int × Int), B ≤ i ∧ i ≤ K + 1 ∧ x = .int .i64 (i : Int) ∧ Hid (Blk wr S 82 (ndArr U M)) ∧ Hid (leavesTo E n K i U) ∧ Hid (Below S w wr)) (fun x _ => K + 1 - (intOf x).toNat)
  case atStart => exact ⟨B, U0, by omega, by omega, rfl, h3.out, L3.out, hb3.out⟩
  case round =>
    clear h3 hb3 L3
    obtain ⟨i, U, hBi, hi, rfl, hblk, hlv, hbel⟩ := hrel
    by_cases hlt : i < K + 1
    · have c1 := (hbel.out.cell (p := ⟨0, 0, none⟩) (by show 0 < S; have := HN.out.lt; omega)).trans HN.out.s
      have c2 := (hbel.out.cell (p := ⟨0, 1, none⟩) (by show 0 < S; have := HN.out.lt; omega)).trans HN.out.l
      have f1 := hblk.out.frozen (K * 2 + i * 2)
      have f2 := hblk.out.frozen (K * 2 + i * 2 + 1)
      have d1 : wr.cell? ⟨S, K * 2 + i * 2, none⟩ = some (.int .i32 (U (K + i)).1) := by rw [hblk.out.cell, ← Nat.add_mul]; exact (ndArr_get U M (K + i) (by have := HM.out; omega)).1
      have d2 : wr.cell? ⟨S, K * 2 + i * 2 + 1, none⟩ = some (.int .i32 (U (K + i)).2) := by rw [hblk.out.cell, ← Nat.add_mul]; exact (ndArr_get U M (K + i) (by have := HM.out; omega)).2
      have hz : 0 ≠ S := by have := HN.out.lt; omega
      go_wp2_with fail
      have hki : K + i < M := by have := HM.out; omega
      have NB : Hid (Blk ((wr.setCell ⟨S, K * 2 + i * 2, none⟩ (.int .i32 0)).setCell ⟨S, K * 2 + i * 2 + 1, none⟩ (.int .i32 2147483647)) S 82 (ndArr (upd U (K + i) nul) M)) := by
        have h1 := (hblk.out.set_ (K * 2 + i * 2) (.int .i32 0)).set_ (K * 2 + i * 2 + 1) (.int .i32 2147483647)
        have h2 := ndArr_set U M (K + i) nul hki
        rw [Nat.add_mul] at h2
        exact h2 ▸ h1
      have NL : Hid (leavesTo E n K (i + 1) (upd U (K + i) nul)) := fun j hj => by
        unfold upd
        by_cases e : j = i
        · subst e
          rw [if_pos rfl, nd_nul (.inl (by have := HB.out; omega))]
        · rw [if_neg (by omega)]; exact hlv.out j (by omega)
      have ND : Hid (Below S w ((wr.setCell ⟨S, K * 2 + i * 2, none⟩ (.int .i32 0)).setCell ⟨S, K * 2 + i * 2 + 1, none⟩ (.int .i32 2147483647))) := (hbel.out.setCell (Nat.le_refl _) _).setCell (Nat.le_refl _) _
      clear c1 c2 f1 f2 d1 d2
      go_roundw
      case rel => exact ⟨i + 1, _, by omega, by omega, by go_num, NB.out, NL.out, ND.out⟩
      case measure => simp [intOf]; omega
    · obtain rfl : i = K + 1 := by omega
      have NF := Lib.hid (nodesFrom.leaves HLH.out hlv.out)
      have L1 := Lib.hid (leaf0_p wr (some ⟨S, 0, none⟩) M M (K + 1) (by have := HM.out; omega) (by omega))
      go_wp2_with (go_at_call 55; refine L1.out.mono ?_; rintro e w' ⟨rfl, rfl⟩)
      clear L1 hlv
      have HBL := Lib.hid hblk.out
      have HBE := Lib.hid hbel.out
      clear hblk hbel
      go_loopw [6] (fun x wq => ∃ (k : Nat) (U : Nat → Int × Int), k ≤ K ∧ x = .int .i64 (k : Int) ∧ Hid (Blk wq S 82 (ndArr U M)) ∧ Hid (nodesFrom E n H k U) ∧ Hid (Below S w wq)) (fun x _ => (intOf x).toNat)
      case atStart => exact ⟨K, U, by omega, rfl, HBL.out, NF.out, HBE.out⟩
      case round =>
        clear HBL NF HBE
        obtain ⟨k, U2, hk, rfl, hblk, hnf, hbel⟩ := hrel
        by_cases hk0 : 0 < k
        · obtain ⟨p, rfl⟩ : ∃ p, k = p + 1 := ⟨k - 1, by omega⟩
          have hHM := HM.out
          have hpl := HLH.out
          have e1 : ((2 * (p + 1) : Nat) : Int) = 2 * ((p : Int) + 1) := by omega
          have e2 : ((2 * (p + 1) + 1 : Nat) : Int) = 2 * ((p : Int) + 1) + 1 := by omega
          have hSq : S < wr.heap.size := hblk.out.lt
          have A1 := Lib.hid (at_p wr S M M (2 * (p + 1)) U2 (RdT.ofBlk hblk.out) (by omega) (by omega) (by omega) hSq)
          rw [e1] at A1
          have F1 := Lib.hid (hnf.out.fits HE.out hn (y := 2 * (p + 1)) (by omega) (by omega))
          have F2 := Lib.hid (hnf.out.fits HE.out hn (y := 2 * (p + 1) + 1) (by omega) (by omega))
          have NX := Lib.hid (hnf.out.next (by omega) (by omega))
          rw [show p + 1 - 1 = p by omega] at NX
          obtain ⟨u1, hu1⟩ : ∃ u, u = U2 (2 * (p + 1) - 1) := ⟨_, rfl⟩
          obtain ⟨u2, hu2⟩ : ∃ u, u = U2 (2 * (p + 1) + 1 - 1) := ⟨_, rfl⟩
          rw [← hu1] at A1 F1 NX
          rw [← hu2] at F2 NX
          have HU2 := Lib.hid hu2
          have hpM : p < M := by omega
          have ep : ((p + 1 : Nat) : Int) - 1 = (p : Int) := by omega
          clear hu1 hu2 e1 hHM hpl
          go_wp2_with fail
          refine A1.out.mono ?_
          rintro e w5 ⟨rfl, b5⟩
          have hB5 := Lib.hid (hblk.out.below b5)
          have A2 := Lib.hid (at_p w5 S M M (2 * (p + 1) + 1) U2 (RdT.ofBlk hB5.out) (by omega) (by have := HM.out; have := HLH.out; omega) (by omega) hB5.out.lt)
          rw [e2, ← HU2.out] at A2
          have HE5 : Hid (Below S w w5) := hbel.out.trans (b5.mono (by omega))
          clear b5 e2 A1
          go_wp2_with fail
          refine A2.out.mono ?_
          rintro e w6 ⟨rfl, b6⟩
          have hB6 := Lib.hid (hB5.out.below b6)
          have HE6 : Hid (Below S w w6) := HE5.out.trans (b6.mono (by have := hB5.out.lt; omega))
          have JN := Lib.hid (join_p w6 u1 u2 (HN.out.below (by have := HN.out.lt; omega) HE6.out) F1.out F2.out)
          clear b6 A2 hB5
          go_wp2_with fail
          refine JN.out.mono ?_
          rintro e w7 ⟨rfl, b7⟩
          have hB7 := Lib.hid (hB6.out.below b7)
          have HE7 : Hid (Below S w w7) := HE6.out.trans (b7.mono (by have := hB6.out.lt; omega))
          clear b7 JN hB6
          have f1 := hB7.out.frozen (p * 2)
          have f2 := hB7.out.frozen (p * 2 + 1)
          have d1 : w7.cell? ⟨S, p * 2, none⟩ = some (.int .i32 (U2 p).1) := by rw [hB7.out.cell]; exact (ndArr_get U2 M p hpM).1
          have d2 : w7.cell? ⟨S, p * 2 + 1, none⟩ = some (.int .i32 (U2 p).2) := by rw [hB7.out.cell]; exact (ndArr_get U2 M p hpM).2
          generalize hj : joinN u1 u2 = u3 at *
          obtain ⟨s3, l3⟩ := u3
          unfold ndv
          have HJ := Lib.hid hj
          clear hj
          go_wp2_with fail
          have NB : Hid (Blk ((w7.setCell ⟨S, p * 2, none⟩ (.int .i32 s3)).setCell ⟨S, p * 2 + 1, none⟩ (.int .i32 l3)) S 82 (ndArr (upd U2 p (s3, l3)) M)) := by
            have h1 := (hB7.out.set_ (p * 2) (.int .i32 s3)).set_ (p * 2 + 1) (.int .i32 l3)
            have h2 := ndArr_set U2 M p (s3, l3) hpM
            exact h2 ▸ h1
          have ND : Hid (Below S w ((w7.setCell ⟨S, p * 2, none⟩ (.int .i32 s3)).setCell ⟨S, p * 2 + 1, none⟩ (.int .i32 l3))) := (HE7.out.setCell (Nat.le_refl _) _).setCell (Nat.le_refl _) _
          clear f1 f2 d1 d2
          go_roundw
          case rel => exact ⟨p, _, by omega, rfl, NB.out, NX.out, ND.out⟩
          case measure => simp [intOf]
        · obtain rfl : k = 0 := by omega
          go_wp2_with fail
          go_ret
          exact ⟨S, H, M, U2, rfl, by have := HM.out; have := HLH.out; omega, HLV.out, by omega, hblk.out, fun x h a h1 h2 h3 => hnf.out x h a (by have := (node_end h1 h2 h3).2.1; omega) h1 h2 h3, by rw [hS]; exact hbel.out⟩
end Go.Proofs.YtdpejjokdncfnaaDoor
