/- Parentheses that are asked, and what stands beside them. -/
import Derived.Test.YtdpejjokdncfnaaDoorQAny
import Derived.Test.YtdpejjokdncfnaaDoorQRow
import Derived.Test.YtdpejjokdncfnaaDoorQLaid
namespace Go.Proofs.YtdpejjokdncfnaaDoor
open Go.RowKit
set_option linter.unusedVariables false
set_option maxRecDepth 20000
theorem MateOK.lt {E : Nat → Int} (hE : Exc E) {n i : Nat} {y : Int} (h : MateOK E i y) (hB : Bal E n) (hi : i < n) : ∃ q : Nat, y = (q : Int) ∧ q < n := by
  obtain ⟨q, rfl, hp | hp⟩ := h
  · refine ⟨q, rfl, ?_⟩
    obtain ⟨j, hj⟩ := fwd_ex hB hi (hB.1 i (by omega))
    have := (hj.pair hE (hp.opens hE)).uniq hp
    have := hj.le
    have := hj.lt
    omega
  · exact ⟨q, rfl, by have := hp.lt; omega⟩
/-- What stands in memory, of parentheses that are asked. -/
structure Pst (w wr : World) (p g V n q : Nat) (d : Bool) : Prop where
  at_ : PAt wr p g V n d q
  nul : Nul w
  gl : w.heap.size ≤ g
  bel : Below w.heap.size w wr
theorem Pst.hp {w wr : World} {p g V n q : Nat} {d : Bool} (h : Pst w wr p g V n q d) : p ≠ 0 := by
  have h1 := h.nul.lt
  have h2 := h.gl
  have h3 := h.at_.1
  show p ≠ 0
  omega
theorem Pst.hg {w wr : World} {p g V n q : Nat} {d : Bool} (h : Pst w wr p g V n q d) : g ≠ 0 := by
  have h1 := h.nul.lt
  have h2 := h.gl
  show g ≠ 0
  omega
theorem Pst.nulr {w wr : World} {p g V n q : Nat} {d : Bool} (h : Pst w wr p g V n q d) : Nul wr := h.nul.below h.nul.lt h.bel
theorem Pst.on {w wr w' : World} {p g V n q q' : Nat} {d d' : Bool} (h : Pst w wr p g V n q d) (h' : PAt w' p g V n d' q') (m : Mod (Two2 g p) wr w') : Pst w w' p g V n q' d' :=
  ⟨h', h.nul, h.gl, h.bel.trans (m.belowB h.bel.size fun i hi hx => by have := h.gl; have := h.at_.1; rcases hx with hx | hx <;> omega)⟩
theorem Pst.below {w wr w' : World} {p g V n q : Nat} {d : Bool} (h : Pst w wr p g V n q d) (m : Below wr.heap.size wr w') : Pst w w' p g V n q d :=
  ⟨h.at_.below m, h.nul, h.gl, h.bel.trans (m.mono h.bel.size)⟩
theorem own_two {w w' : World} {base p g m c : Nat} {A : Option Addr} {xs : List Value} (h : w.ownsRow base 3 1 (.slice A m c) m xs) (hm : Mod (Two2 g p) w w') (hg : g < base) (hp : p < base) : w'.ownsRow base 3 1 (.slice A m c) m xs :=
  own_mod h hm fun k hk hx => by have := (h.lt k hk).1; rcases hx with hx | hx <;> omega
theorem rd_two {w w' : World} {B p g m : Nat} {A : Option Addr} {xs : List Value} (h : Rd w B A m xs) (hm : Mod (Two2 g p) w w') (hg : B ≤ g) (hgp : g < p) (hp : p < w.heap.size) : Rd w' B A m xs :=
  h.mod hm (by omega) fun h0 k hk hx => by
    obtain ⟨b, o, e, hb, _⟩ := h.at_ h0
    obtain ⟨a, ea, ei⟩ := hk
    rw [e] at ea
    obtain rfl := Option.some.inj ea
    have h9 : b = k := ei
    rcases hx with hx | hx <;> omega
theorem pbuilt_p (p g V n q : Nat) (d : Bool) (w : World) (h : PAt w p g V n d q) : Calls Tryd.prog 24 #[.pointer (some ⟨p, 0, none⟩)] w fun e w' => e = .returned (.int .i64 (b01 d)) ∧ w = w' := by
  obtain ⟨_, _, H, hb, _⟩ := h
  have c1 : w.cell? ⟨p, 5, none⟩ = some (.int .i64 (b01 d)) := hb.cell 5
  have L := Lib.hid (load64 ⟨p, 5, none⟩ _ w c1)
  have hb1 : 0 ≤ b01 d ∧ b01 d ≤ 1 := by cases d <;> decide
  clear hb
  generalize b01 d = r at *
  go_enter Tryd.func24, Tryd.ntmps24
  go_wp2_with fail
  refine L.out.mono ?_
  rintro e w' ⟨rfl, rfl⟩
  go_wp2
  go_ret
  exact ⟨rfl, rfl⟩
theorem pbuilt_nil (w : World) : Calls Tryd.prog 24 #[.pointer none] w fun e w' => e = .returned (.int .i64 0) ∧ w = w' := by
  go_enter Tryd.func24, Tryd.ntmps24
  go_wp2
  go_ret
  exact ⟨rfl, rfl⟩
theorem psize_nil (w : World) : Calls Tryd.prog 25 #[.pointer none] w fun e w' => e = .returned (.int .i64 0) ∧ w = w' := by
  go_enter Tryd.func25, Tryd.ntmps25
  go_wp2
  go_ret
  exact ⟨rfl, rfl⟩
theorem psize_p (p g V n q : Nat) (w : World) (h : PIx w p g V n q) : Calls Tryd.prog 25 #[.pointer (some ⟨p, 0, none⟩)] w fun e w' => ∃ M H : Nat, e = .returned (.int .i64 (64 * (M : Int))) ∧ M + 1 = 2 * 2 ^ H ∧ M ≤ 20000 ∧ Lvs ((n + 511) / 512) H ∧ w = w' := by
  have hn := h.n9
  have PL := Lib.hid (plen_p p g V n q w h)
  have BF := Lib.hid (blocksFor_p w n (by omega))
  have NF := Lib.hid (nodesFor_p w ((n + 511) / 512) (by omega))
  clear h
  generalize (n + 511) / 512 = B at *
  go_enter Tryd.func25, Tryd.ntmps25
  go_wp2_with (first
    | (go_at_call 15; refine PL.out.mono ?_; rintro e w' ⟨rfl, rfl⟩)
    | (go_at_call 35; refine BF.out.mono ?_; rintro e w' ⟨rfl, rfl⟩))
  refine NF.out.mono ?_
  rintro e w' ⟨H, L, M, rfl, hM, hL1, hL9, hLH, hlv, rfl⟩
  have HLV := Lib.hid hlv
  have HLH := Lib.hid hLH
  have hM9 : M ≤ 20000 := by omega
  have HM := Lib.hid hM
  clear hlv hLH hM
  go_wp2
  go_ret
  exact ⟨M, H, rfl, by rw [HM.out, HLH.out], hM9, HLV.out, rfl⟩
end Go.Proofs.YtdpejjokdncfnaaDoor
