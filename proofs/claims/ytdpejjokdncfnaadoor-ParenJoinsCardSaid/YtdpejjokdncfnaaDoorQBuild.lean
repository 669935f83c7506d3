/- build: the directory of parentheses is made. -/
import Derived.Test.YtdpejjokdncfnaaDoorQMeas
import Derived.Test.YtdpejjokdncfnaaDoorKSlow
namespace Go.Proofs.YtdpejjokdncfnaaDoor
open Go.RowKit
set_option linter.unusedVariables false
set_option maxRecDepth 20000
set_option maxHeartbeats 4000000 in
theorem pbuild1_p (p g V n pb q : Nat) (x1 x2 x3 : Value) (w : World) (hN : Nul w) (hx : PIx w p g V n q)
    (hb : Blk w p 76 #[.pointer (some ⟨g, 0, none⟩), x1, x2, x3, .slice none 0 0, .int .i64 0]) (hp : Blk w pb 29 #[.pointer (some ⟨p, 0, none⟩)]) :
    Calls Tryd.prog 63 #[.pointer (some ⟨pb, 0, none⟩)] w fun e w' => e = .returned (.tuple #[]) ∧ ∃ H,
      Blk w' p 76 #[.pointer (some ⟨g, 0, none⟩), x1, x2, x3, H, .int .i64 1] ∧ TDir w' p V n true H ∧ Mod (fun i => i = p) w w' := by
  have hn := hx.n9
  obtain ⟨B, hB⟩ : ∃ B, B = (n + 511) / 512 := ⟨_, rfl⟩
  have hB9 : B ≤ 2000 := by omega
  have hgp : pb ≠ p := fun e => by
    subst e
    unfold Blk at hb hp
    rw [hb] at hp
    simp at hp
  have hpl := hb.lt
  have hbl := hp.lt
  have p0 : w.cell? ⟨pb, 0, none⟩ = some (.pointer (some ⟨p, 0, none⟩)) := hp.cell 0
  have PL := Lib.hid (plen_p p g V n q w hx)
  have BF := Lib.hid (blocksFor_p w n (by omega))
  rw [← hB] at BF
  have MS := Lib.hid fun w' (b' : Below w.heap.size w w') b hb => measure_p p g V n q b w' (hx.below b') hb
  have MK := run_make_nodes 70 (by kernel_rfl) B (by omega) w
  have hbn := Blk.new w 82 (ndArr (fun _ => (0, 0)) B)
  have HT := Lib.hid hbn
  have HB := Lib.hid hb
  have HPB := Lib.hid hp
  have HBB := Lib.hid hB
  have HN := Lib.hid hN
  have HE := Lib.hid (exc_Exc V)
  clear hN hx hb hp hbn hB
  go_enter Tryd.func63, Tryd.ntmps63
  go_wp2_with (first
    | (go_at_call 15; refine PL.out.mono ?_; rintro e w' ⟨rfl, rfl⟩)
    | (go_at_call 35; refine BF.out.mono ?_; rintro e w' ⟨rfl, rfl⟩))
  obtain ⟨S, hS⟩ : ∃ S, w.heap.size = S := ⟨_, rfl⟩
  rw [hS] at HT MS ⊢
  go_loopw [9] (fun v wr => ∃ (k : Nat) (U : Nat → Int × Int), k ≤ B ∧ v = .int .i64 (k : Int) ∧ Hid (Blk wr S 82 (ndArr U B)) ∧ Hid (∀ j, j < k → U j = nd (exc V) n j (j + 1)) ∧ Hid (Below S w wr)) (fun v _ => B - (intOf v).toNat)
  case atStart => exact ⟨0, _, by omega, rfl, HT.out, fun j hj => by omega, (Below.refl _ _).alloc (by omega) _⟩
  case round =>
    clear HT MK
    obtain ⟨k, U, hk, rfl, hblk, hU, hbel⟩ := hrel
    have pw : wr.cell? ⟨pb, 0, none⟩ = some (.pointer (some ⟨p, 0, none⟩)) := (hbel.out.cell (p := ⟨pb, 0, none⟩) (by show pb < S; omega)).trans p0
    by_cases hlt : k < B
    · have M1 := Lib.hid (MS.out wr hbel.out k (by have := HBB.out; omega))
      clear p0
      go_wp2_with fail
      refine M1.out.mono ?_
      rintro e w2 ⟨rfl, b2⟩
      have hb2 := Lib.hid (hblk.out.below b2)
      have hbe2 : Hid (Below S w w2) := hbel.out.trans (b2.mono (by have := hblk.out.lt; omega))
      have f1 := hb2.out.frozen (k * 2)
      have f2 := hb2.out.frozen (k * 2 + 1)
      have d1 : w2.cell? ⟨S, k * 2, none⟩ = some (.int .i32 (U k).1) := by rw [hb2.out.cell]; exact (ndArr_get U B k hlt).1
      have d2 : w2.cell? ⟨S, k * 2 + 1, none⟩ = some (.int .i32 (U k).2) := by rw [hb2.out.cell]; exact (ndArr_get U B k hlt).2
      obtain ⟨u, hu⟩ : ∃ u, nd (exc V) n k (k + 1) = u := ⟨_, rfl⟩
      rw [hu]
      have HU := Lib.hid hu
      clear b2 M1 hu
      obtain ⟨s, l⟩ := u
      unfold ndv
      go_wp2_with fail
      have NB : Hid (Blk ((w2.setCell ⟨S, k * 2, none⟩ (.int .i32 s)).setCell ⟨S, k * 2 + 1, none⟩ (.int .i32 l)) S 82 (ndArr (upd U k (s, l)) B)) := by
        have h1 := (hb2.out.set_ (k * 2) (.int .i32 s)).set_ (k * 2 + 1) (.int .i32 l)
        have h2 := ndArr_set U B k (s, l) hlt
        exact h2 ▸ h1
      have NU : Hid (∀ j, j < k + 1 → upd U k (s, l) j = nd (exc V) n j (j + 1)) := fun j hj => by
        unfold upd
        by_cases e : j = k
        · rw [if_pos e, e, HU.out]
        · rw [if_neg e]; exact hU.out j (by omega)
      have ND : Hid (Below S w ((w2.setCell ⟨S, k * 2, none⟩ (.int .i32 s)).setCell ⟨S, k * 2 + 1, none⟩ (.int .i32 l))) := (hbe2.out.setCell (Nat.le_refl _) _).setCell (Nat.le_refl _) _
      clear f1 f2 d1 d2
      go_roundw
      case rel => exact ⟨k + 1, _, by omega, by go_num, NB.out, NU.out, ND.out⟩
      case measure => simp [intOf]; omega
    · obtain rfl : k = B := by omega
      have TO := Lib.hid fun w' (b' : Below wr.heap.size wr w') => treeOf_p (exc V) HE.out S k k n w' (HN.out.below (by have := HN.out.lt; show 0 < S; omega) (hbel.out.trans (b'.mono (by have := hblk.out.lt; omega)))) hn HBB.out
        (by have := hblk.out.below b'; rw [ndArr_congr hU.out] at this; exact this)
      have HBW : Hid (Blk wr p 76 #[.pointer (some ⟨g, 0, none⟩), x1, x2, x3, .slice none 0 0, .int .i64 0]) := HB.out.mod (Mod.ofBelow hbel.out) (by omega)
      have hpw : pb < wr.heap.size := by have := hblk.out.lt; omega
      have hppw : p < wr.heap.size := by have := hblk.out.lt; omega
      have hSw : S < wr.heap.size := hblk.out.lt
      clear p0
      go_wp2_with fail
      go_region_with (first
        | (go_at_call 65
           refine (TO.out _ (Below.refl _ _).drew).mono ?_
           rintro e w3 ⟨t, K, M, T, rfl, hM, hlv, htl, hbt, hok, bt⟩
           have p3 : w3.cell? ⟨pb, 0, none⟩ = some (.pointer (some ⟨p, 0, none⟩)) := (bt.cell (p := ⟨pb, 0, none⟩) hpw).trans pw
           have hb3 : Blk w3 p 76 #[.pointer (some ⟨g, 0, none⟩), x1, x2, x3, .slice none 0 0, .int .i64 0] := (HBW.out.drewN 1).below bt
           have q4 : w3.cell? ⟨p, 4, none⟩ = some (.slice none 0 0) := hb3.cell 4
           have f4 := hb3.frozen 4
           have HB3 := Lib.hid hb3
           have HTR : Hid (M + 1 = 2 * 2 ^ K ∧ Lvs k K ∧ wr.heap.size ≤ t ∧ Blk w3 t 82 (ndArr T M) ∧ TreeOK (exc V) n K (fun x => T (x - 1)) ∧ Below wr.heap.size wr w3) := ⟨hM, hlv, htl, hbt, hok, (Below.refl _ _).drew.trans bt⟩
           clear hM hlv htl hbt hok bt hb3))
      all_goals (
        have HB4 : Hid (Blk (w3.setCell ⟨p, 4, none⟩ (.slice (some ⟨t, 0, none⟩) M M)) p 76 #[.pointer (some ⟨g, 0, none⟩), x1, x2, x3, .slice (some ⟨t, 0, none⟩) M M, .int .i64 0]) := by
          have := HB3.out.set_ 4 (.slice (some ⟨t, 0, none⟩) M M)
          show Blk _ _ _ _
          simpa using this
        have d5 : (w3.setCell ⟨p, 4, none⟩ (.slice (some ⟨t, 0, none⟩) M M)).cell? ⟨p, 5, none⟩ = some (.int .i64 0) := HB4.out.cell 5
        have g5 := HB4.out.frozen 5
        have AD := Lib.hid (add64 ⟨p, 5, none⟩ 0 _ d5 g5 (by omega) (by omega))
        go_wp2_with fail
        refine AD.out.mono ?_
        rintro e w9 ⟨rfl, rfl⟩
        go_wp2_with fail
        have m4 : Mod (fun i => i = p) w3 ((w3.setCell ⟨p, 4, none⟩ (.slice (some ⟨t, 0, none⟩) M M)).setCell ⟨p, 5, none⟩ (.int .i64 (0 + 1))) := Mod.setCell (p := ⟨p, 5, none⟩) (Mod.setCell (p := ⟨p, 4, none⟩) (Mod.refl (fun i => i = p) w3) (fun _ => rfl) _) (fun _ => rfl) _
        obtain ⟨hM, hlv, htl, hbt, hok, bt⟩ := HTR.out
        have m3 : Mod (fun i => i = p) w w3 := (Mod.ofBelow (hbel.out.trans (bt.mono (by omega)))).mono fun i hi h => by omega
        refine bodyPost_end (results_none rfl _ _ _) rfl ⟨rfl, .slice (some ⟨t, 0, none⟩) M M, ?_, ⟨t, M, K, T, by omega, rfl, hbt.mod m4 (by omega), hok, hM, by rw [← HBB.out]; exact hlv⟩, m3.trans m4 fun _ _ h => h⟩
        have := HB4.out.set_ 5 (.int .i64 (0 + 1))
        simpa using this)
end Go.Proofs.YtdpejjokdncfnaaDoor
