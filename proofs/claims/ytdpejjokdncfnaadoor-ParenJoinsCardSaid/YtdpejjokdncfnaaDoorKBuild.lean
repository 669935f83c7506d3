/- build: the directory is made. -/
import Derived.Test.YtdpejjokdncfnaaDoorKOnce
import Derived.Deep.RegionWith
import Derived.Deep.RegionLaw
import Derived.Deep.AppendLies
import Derived.Deep.DeepCutAuto
namespace Go.Proofs.YtdpejjokdncfnaaDoor
open Go.RowKit
set_option linter.unusedVariables false

theorem xblocks_c (g m c : Nat) (A : Option Addr) (w : World) (c1 : w.cell? ⟨g, 0, none⟩ = some (.slice A m c)) (hm9 : m ≤ 1000000) :
    Calls Tryd.prog 69 #[.pointer (some ⟨g, 0, none⟩)] w fun e w' => e = .returned (.int .i64 (((m + 7) / 8 : Nat) : Int)) ∧ w = w' := by
  have e1 : ((m : Int) + 8 - 1) / 8 = (((m + 7) / 8 : Nat) : Int) := by omega
  generalize (m + 7) / 8 = r at *
  have E1 := Lib.hid e1
  clear e1
  go_enter Tryd.func69, Tryd.ntmps69
  go_wp2
  go_ret
  exact ⟨congrArg (fun z => Ending.returned (.int .i64 z)) E1.out, rfl⟩
theorem info_u32 : (Tryd.prog.info? 61).map (fun i => (i.zero, i.size, i.bytes)) = some (some (.int .u32 0), 1, 4) := by kernel_rfl
/-- make of no element, with room. -/
theorem run_make_room (k : Nat) (hk : k ≤ 1000000) (w : World) :
    (Instr.makeSlice 86 (.int .i64 0) (.int .i64 (k : Int))).run Tryd.prog w = .ok (.slice (some ⟨w.heap.size, 0, none⟩) 0 k) (w.alloc (.cells (List.replicate k (.int .u32 0)).toArray 61)) := by
  obtain ⟨i0, hi0, hz0, hz1, hz2⟩ := info_parts info_u32
  have hr := run_make (P := Tryd.prog) w 86 61 i0 (.int .u32 0) Tryd.underlying86 hi0 hz0 .i64 .i64 0 (k : Int) (by omega) (by omega) (by rw [hz2]; omega) (by omega)
  simp only [Int.toNat_natCast, hz1, Nat.mul_one, show (Value.int .u32 0).cells = #[.int .u32 0] from rfl] at hr
  have hz : madeCells #[Value.int .u32 0] k = (List.replicate k (Value.int .u32 0)).toArray := Array.toList_inj.1 (by rw [toList_madeCells_one])
  rw [hz] at hr
  exact hr
theorem pop_block {V n : Nat} (h : V < 2 ^ n) : pop V (512 * blk n) = pop V n := pop_all h (by unfold blk; omega)
set_option maxRecDepth 20000 in
set_option maxHeartbeats 4000000 in
theorem build1_p (g V n pb c : Nat) (A : Option Addr) (x3 x4 x5 qv : Value) (w : World) (hV : V < 2 ^ n) (hn : n ≤ 1000000)
    (hb : Blk w g 88 #[.slice A ((n + 63) / 64) c, .int .i64 (n : Int), .int .i64 ((pop V n : Nat) : Int), x3, x4, x5, .slice none 0 0, .int .i64 0, qv])
    (ho : w.ownsRow (g + 1) 55 1 (.slice A ((n + 63) / 64) c) ((n + 63) / 64) (U64 (words V ((n + 63) / 64)))) (hp : Blk w pb 56 #[.pointer (some ⟨g, 0, none⟩)]) :
    Calls Tryd.prog 68 #[.pointer (some ⟨pb, 0, none⟩)] w fun e w' => e = .returned (.tuple #[]) ∧ ∃ S d,
      Blk w' g 88 #[.slice A ((n + 63) / 64) c, .int .i64 (n : Int), .int .i64 ((pop V n : Nat) : Int), x3, x4, x5, .slice S (blk n + 1) d, .int .i64 1, qv] ∧
      w'.ownsRow (g + 1) 61 1 (.slice S (blk n + 1) d) (blk n + 1) (U32 (aheadL V (blk n + 1))) ∧ Mod (fun i => i = g) w w' := by
  obtain ⟨i0, hi0, hz0, hz1, hz2⟩ := info_parts info_u32
  obtain ⟨m, hm⟩ : ∃ m, m = (n + 63) / 64 := ⟨_, rfl⟩
  have hbm : blk n = (m + 7) / 8 := by unfold blk; omega
  have HBM := Lib.hid hbm
  have hm9 : m ≤ 20000 := by omega
  have hb9 : blk n ≤ 3000 := by omega
  rw [← hm] at hb ho ⊢
  have hgp : pb ≠ g := fun e => by
    subst e
    unfold Blk at hb hp
    rw [hb] at hp
    simp at hp
  have c0 : w.cell? ⟨g, 0, none⟩ = some (.slice A m c) := hb.cell 0
  have c6 : w.cell? ⟨g, 6, none⟩ = some (.slice none 0 0) := hb.cell 6
  have f6 := hb.frozen 6
  have hgl := hb.lt
  have hpl := hp.lt
  have p0 : w.cell? ⟨pb, 0, none⟩ = some (.pointer (some ⟨g, 0, none⟩)) := hp.cell 0
  have XB := Lib.hid (fun w' h => xblocks_c g m c A w' h (by omega))
  rw [← hbm] at XB
  have hmk := run_make_room (blk n + 1) (by omega)
  have hcast : ((blk n + 1 : Nat) : Int) = ((blk n : Nat) : Int) + 1 := by omega
  rw [hcast] at hmk
  have HB := Lib.hid hb
  have HO := Lib.hid ho
  have HP := Lib.hid hp
  have HV := Lib.hid hV
  have HM := Lib.hid hm
  have PB := Lib.hid (pop_block hV)
  clear hb ho hp hV hm hbm hcast
  generalize blk n = nb at *
  go_enter Tryd.func68, Tryd.ntmps68
  have FIN : Hid (Blk ((w.setCell ⟨g, 6, none⟩ (.slice (some ⟨w.heap.size, 0, none⟩) 0 (nb + 1))).alloc (.cells (Array.replicate (nb + 1) (.int .u32 0)) 61)).drew g 88 #[.slice A m c, .int .i64 (n : Int), .int .i64 ((pop V n : Nat) : Int), x3, x4, x5, .slice (some ⟨w.heap.size, 0, none⟩) 0 (nb + 1), .int .i64 0, qv] ∧
      ((w.setCell ⟨g, 6, none⟩ (.slice (some ⟨w.heap.size, 0, none⟩) 0 (nb + 1))).alloc (.cells (Array.replicate (nb + 1) (.int .u32 0)) 61)).drew.ownsRow w.heap.size 61 1 (.slice (some ⟨w.heap.size, 0, none⟩) 0 (nb + 1)) 0 (U32 (aheadL V 0)) ∧
      Mod (fun i => i = g) w ((w.setCell ⟨g, 6, none⟩ (.slice (some ⟨w.heap.size, 0, none⟩) 0 (nb + 1))).alloc (.cells (Array.replicate (nb + 1) (.int .u32 0)) 61)).drew) := by
    refine ⟨?_, ?_, Mod.drew (Mod.alloc (Mod.setCell (p := ⟨g, 6, none⟩) (Mod.refl (fun i => i = g) w) (fun _ => rfl) _) _)⟩
    · have := HB.out.set_ 6 (.slice (some ⟨w.heap.size, 0, none⟩) 0 (nb + 1))
      exact ((Blk.alloc (by simpa using this) _).drewN 1)
    · have hs : (w.setCell ⟨g, 6, none⟩ (.slice (some ⟨w.heap.size, 0, none⟩) 0 (nb + 1))).heap.size = w.heap.size := by simp [World.setCell]
      have := World.ownsRow_made (base := w.heap.size) (e := 61) (size := 1) (w.setCell ⟨g, 6, none⟩ (.slice (some ⟨w.heap.size, 0, none⟩) 0 (nb + 1))) (Array.replicate (nb + 1) (.int .u32 0)) (nb + 1) (by rw [hs]; exact Nat.le_refl _) (by simp only [maxLen]; omega) (by simp)
      rw [hs] at this
      exact own_below this (Below.refl _ _).drew
  have HGW : Hid (g + 1 ≤ w.heap.size) := hgl
  have wnb : IntKind.i64.wrap ((nb : Int) + 1) = (nb : Int) + 1 := by rw [IntKind.wrap_i64]; omega
  go_upto_region 0 with fail
  go_cut [0] from 4 to 10 (fun s wx => s = .pointer (some ⟨pb, 0, none⟩) ∧ ∃ S, Hid (Blk wx g 88 #[.slice A m c, .int .i64 (n : Int), .int .i64 ((pop V n : Nat) : Int), x3, x4, x5, .slice S 0 (nb + 1), .int .i64 0, qv]) ∧ Hid (wx.ownsRow w.heap.size 61 1 (.slice S 0 (nb + 1)) 0 (U32 (aheadL V 0))) ∧ Hid (Mod (fun i => i = g) w wx))
  case first =>
    go_region_with (first
      | (go_at_call 69; refine (XB.out w.drew c0).mono ?_; rintro e w9 ⟨rfl, rfl⟩))
    all_goals (
      go_wp2_with fail
      go_meet
      exact ⟨rfl, _, FIN.out.1, FIN.out.2.1, FIN.out.2.2⟩)
  case rest =>
    obtain ⟨rfl, S0, hb1, ho1, hm1⟩ := hcut
    clear wnb FIN
    have hp1 := HP.out.mod hm1.out hgp
    have p1 : wc.cell? ⟨pb, 0, none⟩ = some (.pointer (some ⟨g, 0, none⟩)) := hp1.cell 0
    have b0 : wc.cell? ⟨g, 0, none⟩ = some (.slice A m c) := hb1.out.cell 0
    have HP1 := Lib.hid hp1
    have HW : Hid (∀ w', Mod (fun i => i = g) w w' → w'.ownsRow (g + 1) 55 1 (.slice A m c) m (U64 (words V m))) := fun w' hmm => own_mod HO.out hmm fun k hk hx => by
      have := (HO.out.lt k hk).1
      omega
    clear hp1 c0 c6 f6 p0 hgl hpl HO hmk XB
    have hq0 : (0 + 7) / 8 = 0 := rfl
    go_wp2_with fail
    go_loopw [1, 16] (fun s i wr => ∃ (k q r d : Nat) (S : Option Addr), k ≤ m ∧ i = .int .i64 (k : Int) ∧ s = .int .i64 (r : Int) ∧ r ≤ 64 * k ∧ Hid (r = pop V (64 * k)) ∧ Hid (q = (k + 7) / 8) ∧ Hid (Blk wr g 88 #[.slice A m c, .int .i64 (n : Int), .int .i64 ((pop V n : Nat) : Int), x3, x4, x5, .slice S q d, .int .i64 0, qv]) ∧
      Hid (wr.ownsRow w.heap.size 61 1 (.slice S q d) q (U32 (aheadL V q))) ∧ Hid (Mod (fun i => i = g) w wr)) (fun _ i _ => m - (intOf i).toNat)
    case atStart => exact ⟨0, 0, 0, nb + 1, S0, by omega, rfl, rfl, by omega, rfl, rfl, hb1.out, ho1.out, hm1.out⟩
    case round =>
      clear hb1 ho1 hm1 p1 b0 HP1 hq0
      obtain ⟨k, q, r, d, S, hk, rfl, rfl, hr, hrp, hqk, hbk, hok, hmk⟩ := hrel
      have hpk := HP.out.mod hmk.out hgp
      have p0 : wr.cell? ⟨pb, 0, none⟩ = some (.pointer (some ⟨g, 0, none⟩)) := hpk.cell 0
      have c6 : wr.cell? ⟨g, 6, none⟩ = some (.slice S q d) := hbk.out.cell 6
      have f6 := hbk.out.frozen 6
      have hgl := hbk.out.lt
      have hpl := hpk.lt
      have hq9 : q ≤ 3000 := by have := hqk.out; omega
      by_cases hlt : k < m
      · have hwk := HW.out wr hmk.out
        obtain ⟨bw, ow, rfl, hbw, k1⟩ := (Rd.ofOwn hwk).u64 (by omega)
        have t1 := k1 k hlt
        rw [words_get _ _ _ hlt] at t1
        obtain ⟨x, hx⟩ : ∃ x, x = wd V k := ⟨_, rfl⟩
        have hx64 : x < 2 ^ 64 := by rw [hx]; exact wd_lt V k
        have hpn := pop_words V k
        rw [← hx, ← hrp.out] at hpn
        rw [← hx] at t1
        have OC := Lib.hid (fun w' => onesCount_p x w' hx64)
        have hpx := pop_le x 64
        generalize pop x 64 = px at *
        have HPN := Lib.hid hpn
        have HPK := Lib.hid hpk
        clear hwk k1 hx hpn hpk hx64
        by_cases h8 : k % 8 = 0
        · have h8' : (k : Int) % 8 = 0 := by omega
          have hq1 : Hid (q + 1 = (k + 1 + 7) / 8) := by show _ = _; have := hqk.out; omega
          have NX : Hid (U32 (aheadL V q) ++ [Value.int .u32 (r : Int)] = U32 (aheadL V (q + 1))) := by
            show _ = _
            have := hqk.out
            rw [aheadL_next, U32_append, show 512 * q = 64 * k by omega, ← hrp.out]; rfl
          have w32 : IntKind.u32.wrap (r : Int) = (r : Int) := by simp [IntKind.wrap, IntKind.signed, IntKind.bits]; omega
          have e1 : q + 1 ≤ maxLen := by simp only [maxLen]; omega
          have e2 : (q + 1) * 4 ≤ 140737488355328 := by omega
          have hws : w.heap.size ≤ wr.heap.size := hmk.out.size
          have hgo : Hid ((Value.slice S q d).ownBlock ≠ some g) := own_ne hok.out hbk.out (by decide)
          have hpo : Hid ((Value.slice S q d).ownBlock ≠ some pb) := own_ne hok.out HPK.out (by decide)
          go_wp2_with fail
          go_region_law
            (first
              | (refine step_append_lies _ (by rfl) _ _ _ (by rfl) w.heap.size 61 i0 _ 1 4 Tryd.underlying86 hi0 hz0 hz1 hz2 rfl (by omega) (.slice S q d) q (U32 (aheadL V q)) (by rfl) ((hok.out.alloc _).drew)
                  ⟨wr.heap.size, 0, none⟩ 1 1 [.int .u32 (r : Int)] (by rfl) (by rfl) (World.news_of_block (cs := #[.int .u32 (r : Int)]) (t := 61) (fr := (0, 0)) (heap_alloc_new wr _)) (by simp [Value.oneCell'])
                  (by omega) e1 e2 (by simp; omega) (wr.heap.size + 1) (by simp) ?_; intro gg cap w3 hown1 hgrow hat hlt3
                 have hgm := Mod.ofGrown hgrow
                 have b3 := ((hbk.out.alloc (.cells #[.int .u32 (r : Int)] 61)).drewN 1).mod hgm (fun e => hgo.out e.symm)
                 have q3 := ((HPK.out.alloc (.cells #[.int .u32 (r : Int)] 61)).drewN 1).mod hgm (fun e => hpo.out e.symm)
                 have e6 : w3.cell? ⟨g, 6, none⟩ = some (.slice S q d) := b3.cell 6
                 have g6 := b3.frozen 6
                 have e0 : w3.cell? ⟨pb, 0, none⟩ = some (.pointer (some ⟨g, 0, none⟩)) := q3.cell 0
                 have HGM := Lib.hid hgm
                 have HOW := Lib.hid hown1
                 have B3 := Lib.hid b3
                 clear hgm hgrow hown1 hat b3 q3))
          all_goals (
            have HB4 : Hid (Blk (w3.setCell ⟨g, 6, none⟩ (.slice (some ⟨gg, 0, none⟩) (q + 1) cap)) g 88 #[.slice (some ⟨bw, ow, none⟩) m c, .int .i64 (n : Int), .int .i64 ((pop V n : Nat) : Int), x3, x4, x5, .slice (some ⟨gg, 0, none⟩) (q + 1) cap, .int .i64 0, qv]) := by
              have := B3.out.set_ 6 (.slice (some ⟨gg, 0, none⟩) (q + 1) cap)
              show Blk _ _ _ _
              simpa using this
            have HO4 : Hid ((w3.setCell ⟨g, 6, none⟩ (.slice (some ⟨gg, 0, none⟩) (q + 1) cap)).ownsRow w.heap.size 61 1 (.slice (some ⟨gg, 0, none⟩) (q + 1) cap) (q + 1) (U32 (aheadL V (q + 1)))) := by
              rw [← NX.out]
              exact own_mod HOW.out (Mod.setCell (p := ⟨g, 6, none⟩) (Mod.refl (fun i => i = g) w3) (fun _ => rfl) _) (fun i hi hx => by have := (HOW.out.lt i hi).1; have := HGW.out; omega)
            have HM4 : Hid (Mod (fun i => i = g) w (w3.setCell ⟨g, 6, none⟩ (.slice (some ⟨gg, 0, none⟩) (q + 1) cap))) :=
              Mod.setCell (p := ⟨g, 6, none⟩) (((hmk.out.alloc _).drew).trans HGM.out (fun i hi hx => by have := (hok.out.lt i hx.symm).1; omega)) (fun _ => rfl) _
            clear B3 HGM HOW
            go_wp2_with fail
            refine (OC.out _).mono ?_
            rintro e w9 ⟨rfl, rfl⟩
            go_wp2_with fail
            go_roundw
            case rel => exact ⟨k + 1, q + 1, r + px, cap, some ⟨gg, 0, none⟩, by omega, by go_num, by go_num, by omega, HPN.out.symm, hq1.out, HB4.out, HO4.out, HM4.out⟩
            case measure => simp [intOf]; omega)
        · have h8' : ((k : Int) % 8 == 0) = false := by rw [beq_eq_false_iff_ne]; omega
          have hq1 : Hid (q = (k + 1 + 7) / 8) := by show _ = _; have := hqk.out; omega
          go_wp2_with fail
          refine (OC.out _).mono ?_
          rintro e w9 ⟨rfl, rfl⟩
          go_wp2_with fail
          go_roundw
          case rel => exact ⟨k + 1, q, r + px, d, S, by omega, by go_num, by go_num, by omega, HPN.out.symm, hq1.out, hbk.out, hok.out, hmk.out⟩
          case measure => simp [intOf]; omega
      · obtain rfl : m = k := by omega
        have HPK := Lib.hid hpk
        have NX : Hid (U32 (aheadL V q) ++ [Value.int .u32 (r : Int)] = U32 (aheadL V (q + 1))) := by
          show _ = _
          have h1 := hqk.out
          have h2 := HBM.out
          rw [aheadL_next, U32_append, show q = nb by omega, PB.out, hrp.out, pop_all HV.out (by have := HM.out; omega)]; rfl
        have hqn : Hid (q = nb) := by show _ = _; rw [hqk.out, HBM.out]
        have w32 : IntKind.u32.wrap (r : Int) = (r : Int) := by simp [IntKind.wrap, IntKind.signed, IntKind.bits]; omega
        have e1 : q + 1 ≤ maxLen := by simp only [maxLen]; omega
        have e2 : (q + 1) * 4 ≤ 140737488355328 := by omega
        have hws : w.heap.size ≤ wr.heap.size := hmk.out.size
        have hgo : Hid ((Value.slice S q d).ownBlock ≠ some g) := own_ne hok.out hbk.out (by decide)
        have hpo : Hid ((Value.slice S q d).ownBlock ≠ some pb) := own_ne hok.out HPK.out (by decide)
        clear hpk
        go_wp2_with fail
        go_region_law
          (first
            | (refine step_append_lies _ (by rfl) _ _ _ (by rfl) w.heap.size 61 i0 _ 1 4 Tryd.underlying86 hi0 hz0 hz1 hz2 rfl (by omega) (.slice S q d) q (U32 (aheadL V q)) (by rfl) ((hok.out.alloc _).drew)
                ⟨wr.heap.size, 0, none⟩ 1 1 [.int .u32 (r : Int)] (by rfl) (by rfl) (World.news_of_block (cs := #[.int .u32 (r : Int)]) (t := 61) (fr := (0, 0)) (heap_alloc_new wr _)) (by simp [Value.oneCell'])
                (by omega) e1 e2 (by simp; omega) (wr.heap.size + 1) (by simp) ?_; intro gg cap w3 hown1 hgrow hat hlt3
               have hgm := Mod.ofGrown hgrow
               have b3 := ((hbk.out.alloc (.cells #[.int .u32 (r : Int)] 61)).drewN 1).mod hgm (fun e => hgo.out e.symm)
               have q3 := ((HPK.out.alloc (.cells #[.int .u32 (r : Int)] 61)).drewN 1).mod hgm (fun e => hpo.out e.symm)
               have e6 : w3.cell? ⟨g, 6, none⟩ = some (.slice S q d) := b3.cell 6
               have g6 := b3.frozen 6
               have e0 : w3.cell? ⟨pb, 0, none⟩ = some (.pointer (some ⟨g, 0, none⟩)) := q3.cell 0
               have HGM := Lib.hid hgm
               have HOW := Lib.hid hown1
               have B3 := Lib.hid b3
               clear hgm hgrow hown1 hat b3 q3))
        all_goals (
            have HB4 : Hid (Blk (w3.setCell ⟨g, 6, none⟩ (.slice (some ⟨gg, 0, none⟩) (q + 1) cap)) g 88 #[.slice A m c, .int .i64 (n : Int), .int .i64 ((pop V n : Nat) : Int), x3, x4, x5, .slice (some ⟨gg, 0, none⟩) (q + 1) cap, .int .i64 0, qv]) := by
              have := B3.out.set_ 6 (.slice (some ⟨gg, 0, none⟩) (q + 1) cap)
              show Blk _ _ _ _
              simpa using this
            have HO4 : Hid ((w3.setCell ⟨g, 6, none⟩ (.slice (some ⟨gg, 0, none⟩) (q + 1) cap)).ownsRow w.heap.size 61 1 (.slice (some ⟨gg, 0, none⟩) (q + 1) cap) (q + 1) (U32 (aheadL V (q + 1)))) := by
              rw [← NX.out]
              exact own_mod HOW.out (Mod.setCell (p := ⟨g, 6, none⟩) (Mod.refl (fun i => i = g) w3) (fun _ => rfl) _) (fun i hi hx => by have := (HOW.out.lt i hi).1; have := HGW.out; omega)
            have HM4 : Hid (Mod (fun i => i = g) w (w3.setCell ⟨g, 6, none⟩ (.slice (some ⟨gg, 0, none⟩) (q + 1) cap))) :=
              Mod.setCell (p := ⟨g, 6, none⟩) (((hmk.out.alloc _).drew).trans HGM.out (fun i hi hx => by have := (hok.out.lt i hx.symm).1; omega)) (fun _ => rfl) _
            clear B3 HGM HOW
            have d7 : (w3.setCell ⟨g, 6, none⟩ (.slice (some ⟨gg, 0, none⟩) (q + 1) cap)).cell? ⟨g, 7, none⟩ = some (.int .i64 0) := HB4.out.cell 7
            have g7 := HB4.out.frozen 7
            have AD := Lib.hid (add64 ⟨g, 7, none⟩ 0 _ d7 g7 (by omega) (by omega))
            go_wp2_with fail
            refine AD.out.mono ?_
            rintro e w9 ⟨rfl, rfl⟩
            go_wp2_with fail
            refine bodyPost_end (results_none rfl _ _ _) rfl ⟨rfl, some ⟨gg, 0, none⟩, cap, ?_, ?_, ?_⟩
            · rw [← hqn.out]
              have := HB4.out.set_ 7 (.int .i64 1)
              simpa using this
            · rw [← hqn.out]
              exact own_mod (HO4.out.base_le' HGW.out) (Mod.setCell (p := ⟨g, 7, none⟩) (Mod.refl (fun i => i = g) _) (fun _ => rfl) _) (fun i hi hx => by have := (HO4.out.lt i hi).1; have := HGW.out; omega)
            · exact Mod.setCell (p := ⟨g, 7, none⟩) HM4.out (fun _ => rfl) _)
end Go.Proofs.YtdpejjokdncfnaaDoor
