/- A span is doubled as often as it can be; each way is told. -/
import Derived.Test.YtcefohjddbjcjaaZg4
import Derived.Deep.LoopGhost
import Derived.Deep.CutRange
import Derived.Deep.RegionWith
import Derived.StillTailTactics
namespace Go.Proofs.Ytcefohjddbjcjaa
set_option maxRecDepth 20000
open Go.RowKit
set_option linter.unusedVariables false

theorem SpanAt.lt {w : World} {g lo hi : Nat} (h : SpanAt w g lo hi) : g < w.heap.size := Blk.lt h
theorem SpanAt.mod {w w' : World} {S : Nat → Prop} {g lo hi : Nat} (h : SpanAt w g lo hi) (m : Mod S w w') (hg : ¬ S g) : SpanAt w' g lo hi := Blk.mod h m hg
/-- One round of widening, by its way. -/
def Told (F o s : Nat) (I : List Nat → World → Prop) (T : Nat → Prop) (f : Nat) : Prop :=
  ∀ (ws : List Nat) (k : Nat) (w : World), k ≤ 2 → ws.length < f → I ws w → Calls Try.prog F #[.pointer (some ⟨o, 0, none⟩), .int .i64 (k : Int)] w fun e w' => e = .returned (.tuple #[]) ∧ I (ws ++ [k]) w' ∧ Mod T w w'
set_option maxHeartbeats 1000000 in
theorem widen_p (F o s lo hi : Nat) (I : List Nat → World → Prop) (T : Nat → Prop) (w : World) (h : SpanAt w s lo hi) (hs : ¬ T s) (hC : ∀ (args : Array Value) (w : World), Sem.run Try.prog (callFunc F args) w = .ok (.enter F args) w)
    (hI : ∀ ws w w', I ws w → s < w.heap.size → Mod (fun i => i = s) w w' → I ws w') (hF : Told F o s I T 33) (h0 : I [] w) (hl : Left 33 lo hi) :
    Calls Try.prog 52 #[.pointer (some ⟨s, 0, none⟩), .func (.func F) #[.pointer (some ⟨o, 0, none⟩)] #[]] w fun e w' =>
      e = .returned (.tuple #[]) ∧ SpanAt w' s (wid 33 lo hi).2.1 (wid 33 lo hi).2.2 ∧ I (wid 33 lo hi).1 w' ∧ Mod (fun i => i = s ∨ T i) w w' := by
  have HI := Lib.hid hI
  have HF := Lib.hid hF
  have H := Lib.hid h
  have H0 := Lib.hid h0
  have HS := Lib.hid hs
  have HL := Lib.hid hl
  clear hI hF h h0 hs hl
  go_enter Try.func52, Try.ntmps52
  go_wp2_with fail
  go_step3
  go_wp2_with fail
  go_step3
  go_wp2_with fail
  go_loopg [4] 33 (fun f x wr => ∃ (a b : Nat) (ws : List Nat), Hid (Left f a b) ∧ Hid (SpanAt wr s a b) ∧ Hid (wid 33 lo hi = (ws ++ (wid f a b).1, (wid f a b).2)) ∧ ws.length + f = 33 ∧ Hid (I ws wr) ∧ Hid (Mod (fun i => i = s ∨ T i) w wr))
  case atStart => exact ⟨lo, hi, [], HL, H, rfl, rfl, H0, Mod.refl _ _⟩
  case round =>
    obtain ⟨a, b, ws, LE, SP, WE, hlen, II, MM⟩ := hrel
    have c0 : wr.cell? ⟨s, 0, none⟩ = some (.int .u64 (a : Int)) := Blk.cell SP.out 0
    have c1 : wr.cell? ⟨s, 1, none⟩ = some (.int .u64 (b : Int)) := Blk.cell SP.out 1
    have f0 := Blk.frozen SP.out 0
    have f1 := Blk.frozen SP.out 1
    have hba : b < 4294967296 := LE.out.2.1
    have hab : a ≤ b := LE.out.1
    have SW : Hid (∀ k, wayOf a b = some k → ∃ f', gk = f' + 1 ∧ k ≤ 2 ∧ dblW a k = dbl a k ∧ dblW b k = dbl b k ∧ dbl b k < 4294967296 ∧ Left f' (dbl a k) (dbl b k + 1) ∧ wid 33 lo hi = ((ws ++ [k]) ++ (wid f' (dbl a k) (dbl b k + 1)).1, (wid f' (dbl a k) (dbl b k + 1)).2)) := fun k hk => by
      obtain ⟨f', rfl⟩ : ∃ f', gk = f' + 1 := ⟨gk - 1, by have := LE.out.pos; omega⟩
      obtain ⟨q1, q2, q3⟩ := wayOf_le hk hab
      have q3 := q3 hba
      refine ⟨f', rfl, q1, dblW_eq q2 (by omega), dblW_eq (by omega) hba, by unfold dbl; omega, LE.out.step hk, ?_⟩
      rw [WE.out, wid_some hk]; simp
    have AR : Hid (∀ (k f' : Nat) (ws' : List Nat), gk = f' + 1 → Left f' (dbl a k) (dbl b k + 1) → wid 33 lo hi = (ws' ++ (wid f' (dbl a k) (dbl b k + 1)).1, (wid f' (dbl a k) (dbl b k + 1)).2) → True) := fun _ _ _ _ _ _ => trivial
    cases hw : wayOf a b with
    | none =>
      have hn := wayOf_none hw
      have h1 : ¬ (b : Int) < 2147483648 := by omega
      have h2 : ¬ 2147483648 ≤ (a : Int) := by omega
      have WE2 : Hid (wid 33 lo hi = (ws, a, b)) := by show _ = _; rw [WE.out, wid_none hw]; simp
      have h3 := hn.2.2
      clear hn SW LE AR hba hab hw
      rcases h3 with h3 | h3
      · have h3 : ¬ 1073741824 ≤ (a : Int) := by omega
        go_wp2_with fail
        refine bodyPost_end (results_none rfl _ _ _) rfl ⟨rfl, ?_⟩
        rw [WE2.out]
        exact ⟨SP.out, II.out, MM.out⟩
      · by_cases h4 : 1073741824 ≤ a
        · have h4 : 1073741824 ≤ (a : Int) := by omega
          have h3 : ¬ (b : Int) < 3221225472 := by omega
          go_wp2_with fail
          refine bodyPost_end (results_none rfl _ _ _) rfl ⟨rfl, ?_⟩
          rw [WE2.out]
          exact ⟨SP.out, II.out, MM.out⟩
        · have h4 : ¬ 1073741824 ≤ (a : Int) := by omega
          clear h3
          go_wp2_with fail
          refine bodyPost_end (results_none rfl _ _ _) rfl ⟨rfl, ?_⟩
          rw [WE2.out]
          exact ⟨SP.out, II.out, MM.out⟩
    | some k =>
      obtain ⟨f', rfl, k2, e1, e2, e3, LF, WF⟩ := SW.out k hw
      have HW := Lib.hid hw
      have HK : Hid (k ≤ 2) := k2
      have W3 : Hid ((k = 0 ∧ (b : Int) < 2147483648) ∨ (k = 2 ∧ ¬ (b : Int) < 2147483648 ∧ 2147483648 ≤ (a : Int)) ∨ (k = 1 ∧ ¬ (b : Int) < 2147483648 ∧ ¬ 2147483648 ≤ (a : Int) ∧ 1073741824 ≤ (a : Int) ∧ (b : Int) < 3221225472)) := by
        show _ ∨ _
        unfold wayOf at hw
        split at hw
        · have := Option.some.inj hw; exact .inl ⟨by omega, by omega⟩
        · split at hw
          · have := Option.some.inj hw; exact .inr (.inl ⟨by omega, by omega, by omega⟩)
          · split at hw
            · have := Option.some.inj hw; exact .inr (.inr ⟨by omega, by omega, by omega, by omega, by omega⟩)
            · cases hw
      have D1 : Hid (∀ W, Calls Try.prog 61 #[.int .u64 (a : Int), .int .i64 (k : Int)] W fun e w' => e = .returned (.int .u64 ((dblW a k : Nat) : Int)) ∧ W = w') := fun W => doubled_p a k W HK.out
      have D2 : Hid (∀ W, Calls Try.prog 61 #[.int .u64 (b : Int), .int .i64 (k : Int)] W fun e w' => e = .returned (.int .u64 ((dblW b k : Nat) : Int)) ∧ W = w') := fun W => doubled_p b k W HK.out
      rw [e1] at D1
      rw [e2] at D2
      obtain ⟨a', ha'⟩ : ∃ a', a' = dbl a k := ⟨_, rfl⟩
      obtain ⟨b1, hb1⟩ : ∃ b1, b1 = dbl b k + 1 := ⟨_, rfl⟩
      have ew : IntKind.u64.wrap (((dbl b k : Nat) : Int) + 1) = (b1 : Int) := wrap_u64e (by omega) (by omega)
      rw [← ha', ← hb1] at LF WF
      rw [← ha'] at D1
      obtain ⟨b', hb'⟩ : ∃ b', b' = dbl b k := ⟨_, rfl⟩
      rw [← hb'] at D2 ew
      have LF := Lib.hid LF
      have WF := Lib.hid WF
      have SP2 : Hid (SpanAt ((wr.setCell ⟨s, 0, none⟩ (.int .u64 (a' : Int))).setCell ⟨s, 1, none⟩ (.int .u64 (b1 : Int))) s a' b1) := by
        have := (SP.out.set_ 0 (.int .u64 (a' : Int))).set_ 1 (.int .u64 (b1 : Int)); show Blk _ _ _ _; simpa using this
      have M2 : Hid (Mod (fun i => i = s) wr ((wr.setCell ⟨s, 0, none⟩ (.int .u64 (a' : Int))).setCell ⟨s, 1, none⟩ (.int .u64 (b1 : Int)))) := ((Mod.refl (fun i => i = s) wr).setCell (fun _ => rfl) _).setCell (fun _ => rfl) _
      have HLEN : Hid (ws.length + (f' + 1) = 33) := hlen
      clear SW LE AR hba hab hw e1 e2 ha' hb1 hb' k2 e3 hlen
      iterate 10 go_step
      go_cut [4] from 5 to 29 (fun x wx => x = .int .i64 (k : Int) ∧ wr = wx)
      case first =>
        rcases W3.out with ⟨rfl, h1⟩ | ⟨rfl, h1, h2⟩ | ⟨rfl, h1, h2, h3, h4⟩
        · go_wp2_with fail
          go_meet
          exact ⟨rfl, rfl⟩
        · go_wp2_with fail
          go_meet
          exact ⟨rfl, rfl⟩
        · go_wp2_with fail
          go_meet
          exact ⟨rfl, rfl⟩
      case rest =>
        obtain ⟨rfl, rfl⟩ := hcut
        go_upto_region 7 with fail
        go_cut [4] from 30 to 49 (fun x wx => x = .int .i64 (k : Int) ∧ wx = ((wr.setCell ⟨s, 0, none⟩ (.int .u64 (a' : Int))).setCell ⟨s, 1, none⟩ (.int .u64 (b1 : Int))).drew)
        case first =>
          go_region_with (first
            | (go_at_call 61; (with_reducible refine (D1.out _).mono ?_); rintro e wa ⟨rfl, rfl⟩)
            | (go_at_call 61; (with_reducible refine (D2.out _).mono ?_); rintro e wa ⟨rfl, rfl⟩))
          all_goals (go_wp2_with fail; go_meet; exact ⟨rfl, rfl⟩)
        case rest =>
          obtain ⟨rfl, rfl⟩ := hcut
          have SP3 : Hid (SpanAt ((wr.setCell ⟨s, 0, none⟩ (.int .u64 (a' : Int))).setCell ⟨s, 1, none⟩ (.int .u64 (b1 : Int))).drew s a' b1) := Blk.drewN SP2.out 1
          have M3 : Hid (Mod (fun i => i = s) wr ((wr.setCell ⟨s, 0, none⟩ (.int .u64 (a' : Int))).setCell ⟨s, 1, none⟩ (.int .u64 (b1 : Int))).drew) := M2.out.drew
          have CF := Lib.hid (HF.out ws k _ HK.out (by have := HLEN.out; omega) (HI.out ws wr _ II.out (Blk.lt SP.out) M3.out))
          clear SP2 M2 c0 c1 f0 f1 W3 D1 D2
          generalize ((wr.setCell ⟨s, 0, none⟩ (.int .u64 (a' : Int))).setCell ⟨s, 1, none⟩ (.int .u64 (b1 : Int))).drew = w2 at *
          go_wp2_with fail
          refine CF.out.mono ?_
          rintro e w3 ⟨rfl, i3, m3⟩
          have II3 := Lib.hid i3
          have SP4 : Hid (SpanAt w3 s a' b1) := SP3.out.mod m3 HS.out
          have M4 : Hid (Mod (fun i => i = s ∨ T i) w w3) := (MM.out.trans M3.out (fun i _ h => .inl h)).trans m3 (fun i _ h => .inr h)
          have HL2 : (ws ++ [k]).length + f' = 33 := by have := HLEN.out; simp; omega
          clear i3 m3
          go_wp2_with fail
          go_roundg f'
          case measure => omega
          case rel => exact ⟨a', b1, ws ++ [k], LF, SP4, WF, HL2, II3, M4⟩
end Go.Proofs.Ytcefohjddbjcjaa
