/- What maps answer. The document's examples of maps. What New refuses, and what the document says of it. Rows of integers that come in to a statement. DartMakes: of any list, root and count there is a map, or it is refused. What maps that are answer of a dart. -/
import Derived.Test.YtgcbdoljapnecaaZDFld
import Derived.Test.YtgcbdoljapnecaaZPRef2
import Derived.Test.YtgcbdoljapnecaaZg1
namespace Go.Proofs.Ytgcbdoljapnecaa
set_option maxRecDepth 20000
open Go.RowKit
set_option linter.unusedVariables false

theorem info_names : (Try.prog.info? 67).map (·.size) = some 3 := by kernel_rfl
/-- What vertices and faces answer. -/
def VPost (w : World) (l b : List Nat) (e : Ending) (w' : World) : Prop :=
  ∃ p A c S d, e = .returned (.agg #[.pointer (some ⟨p, 0, none⟩), .slice A l.length c, .slice S (sizes l).length d]) ∧ PermAt w' p l b ∧ Rd w' w'.heap.size A l.length (I64 (ofN (names l))) ∧ Rd w' w'.heap.size S (sizes l).length (I64 (ofN (sizes l))) ∧ Below w.heap.size w w'
set_option maxHeartbeats 1000000 in
theorem verts_p (g : Nat) (l b : List Nat) (root lone : Int) (w : World) (h : MapAt w g l b root lone) :
    Calls Try.prog 41 #[.pointer (some ⟨g, 0, none⟩)] w (VPost w l b) := by
  obtain ⟨h1, h2, p, A, c, S, d, q, A', c', S', d', hb, hp, hq, r1, r2, r3, r4⟩ := h
  have n0 := hb.cell 0
  have n1 := hb.cell 1
  have n2 := hb.cell 2
  have hgl := hb.lt
  simp at n0 n1 n2
  have HP := Lib.hid hp
  have HQ := Lib.hid hq
  have R1 := Lib.hid r1
  have R2 := Lib.hid r2
  have R3 := Lib.hid r3
  have R4 := Lib.hid r4
  have HINF := Lib.hid info_names
  clear hb hp hq r1 r2 r3 r4
  go_enter Try.func41, Try.ntmps41
  go_wp2_with fail
  have hb2 := (Below.refl w.heap.size w).alloc (Nat.le_refl _) (.cells #[.pointer (some ⟨p, 0, none⟩), .slice A l.length c, .slice S (sizes l).length d] 67)
  refine bodyPost_ret (results_cell_row rfl _ _ w.heap.size 67 _ (0, 0) _ rfl (Blk.new w _ _) Try.underlying67 rfl HINF.out) rfl ?_
  exact ⟨p, A, c, S, d, rfl, HP.out.below hb2, R1.out.more hb2, R2.out.more hb2, hb2⟩
set_option maxHeartbeats 1000000 in
theorem faces_p (g : Nat) (l b : List Nat) (root lone : Int) (w : World) (h : MapAt w g l b root lone) :
    Calls Try.prog 46 #[.pointer (some ⟨g, 0, none⟩)] w (VPost w (phiL l) (phiB l b)) := by
  obtain ⟨h1, h2, p, A, c, S, d, q, A', c', S', d', hb, hp, hq, r1, r2, r3, r4⟩ := h
  have n0 := hb.cell 3
  have n1 := hb.cell 4
  have n2 := hb.cell 5
  have hgl := hb.lt
  simp at n0 n1 n2
  have HP := Lib.hid hp
  have HQ := Lib.hid hq
  have R1 := Lib.hid r1
  have R2 := Lib.hid r2
  have R3 := Lib.hid r3
  have R4 := Lib.hid r4
  have HINF := Lib.hid info_names
  clear hb hp hq r1 r2 r3 r4
  go_enter Try.func46, Try.ntmps46
  go_wp2_with fail
  have hb2 := (Below.refl w.heap.size w).alloc (Nat.le_refl _) (.cells #[.pointer (some ⟨q, 0, none⟩), .slice A' l.length c', .slice S' (sizes (phiL l)).length d'] 67)
  refine bodyPost_ret (results_cell_row rfl _ _ w.heap.size 67 _ (0, 0) _ rfl (Blk.new w _ _) Try.underlying67 rfl HINF.out) rfl ?_
  exact ⟨q, A', c', S', d', by rw [phiL_len], HQ.out.below hb2, by rw [phiL_len]; exact R3.out.more hb2, R4.out.more hb2, hb2⟩
theorem root_p (g : Nat) (l b : List Nat) (root lone : Int) (w : World) (h : MapAt w g l b root lone) :
    Calls Try.prog 11 #[.pointer (some ⟨g, 0, none⟩)] w fun e w' => e = .returned (.int .i64 root) ∧ w = w' := by
  obtain ⟨h1, h2, p, A, c, S, d, q, A', c', S', d', hb, _⟩ := h
  have n0 := hb.cell 6
  simp at n0
  clear hb
  go_enter Try.func11, Try.ntmps11
  go_wp2_with fail
  go_ret
  exact ⟨rfl, rfl⟩
theorem lone_p (g : Nat) (l b : List Nat) (root lone : Int) (w : World) (h : MapAt w g l b root lone) :
    Calls Try.prog 12 #[.pointer (some ⟨g, 0, none⟩)] w fun e w' => e = .returned (.int .i64 lone) ∧ w = w' := by
  obtain ⟨h1, h2, p, A, c, S, d, q, A', c', S', d', hb, _⟩ := h
  have n0 := hb.cell 7
  simp at n0
  clear hb
  go_enter Try.func12, Try.ntmps12
  go_wp2_with fail
  go_ret
  exact ⟨rfl, rfl⟩
theorem darts_p (g : Nat) (l b : List Nat) (root lone : Int) (w : World) (h : MapAt w g l b root lone) :
    Calls Try.prog 15 #[.pointer (some ⟨g, 0, none⟩)] w fun e w' => e = .returned (.int .i64 (l.length : Int)) ∧ Below w.heap.size w w' := by
  have VS := Lib.hid (verts_p g l b root lone w h)
  have F0 := fld0
  have F2 := fld2
  have H := Lib.hid h
  clear h
  go_enter Try.func15, Try.ntmps15
  go_wp2_with fail
  refine VS.out.mono ?_
  rintro e w1 ⟨p, A, c, S, d, rfl, hp, r1, r2, b1⟩
  have LN := Lib.hid (len_p p _ _ w1 hp)
  clear hp r1 r2
  go_wp2_with fail
  refine LN.out.mono ?_
  rintro e w2 ⟨rfl, rfl⟩
  go_wp2_with fail
  go_ret
  exact ⟨rfl, b1⟩
theorem edges_p (g : Nat) (l b : List Nat) (root lone : Int) (w : World) (h : MapAt w g l b root lone) :
    Calls Try.prog 19 #[.pointer (some ⟨g, 0, none⟩)] w fun e w' => e = .returned (.int .i64 ((l.length / 2 : Nat) : Int)) ∧ Below w.heap.size w w' := by
  have DS := Lib.hid (darts_p g l b root lone w h)
  have hn := h.2.1
  obtain ⟨x, hx⟩ : ∃ x, x = l.length / 2 := ⟨_, rfl⟩
  have hx2 : (l.length : Int) / 2 = (x : Int) := by omega
  have hx3 : x ≤ 1000000 := by omega
  rw [← hx]
  clear h hx
  go_enter Try.func19, Try.ntmps19
  go_wp2_with fail
  refine DS.out.mono ?_
  rintro e w1 ⟨rfl, b1⟩
  go_wp2_with fail
  go_ret
  exact ⟨rfl, b1⟩
theorem sizes_le (l : List Nat) : (sizes l).length ≤ l.length := by unfold sizes; rw [sizesTo_len]; exact met_le l l.length
theorem vertices_p (g : Nat) (l b : List Nat) (root lone : Int) (w : World) (h : MapAt w g l b root lone) :
    Calls Try.prog 17 #[.pointer (some ⟨g, 0, none⟩)] w fun e w' => e = .returned (.int .i64 (((sizes l).length : Int) + lone)) ∧ Below w.heap.size w w' := by
  have VS := Lib.hid (verts_p g l b root lone w h)
  have F0 := fld0
  have F2 := fld2
  have H := Lib.hid h
  have hz := sizes_le l
  have hn := h.2.1
  have hl1 := h.1.2.1
  have hl2 := h.1.2.2
  clear h
  go_enter Try.func17, Try.ntmps17
  go_wp2_with fail
  refine VS.out.mono ?_
  rintro e w1 ⟨p, A, c, S, d, rfl, hp, r1, r2, b1⟩
  have LO := Lib.hid (lone_p g l b root lone w1 (H.out.below b1))
  clear hp r1 r2
  go_wp2_with fail
  refine LO.out.mono ?_
  rintro e w2 ⟨rfl, rfl⟩
  go_wp2_with fail
  go_ret
  exact ⟨rfl, b1⟩
end Go.Proofs.Ytgcbdoljapnecaa
namespace Go.Proofs.Ytgcbdoljapnecaa
set_option maxRecDepth 20000
open Go.RowKit
set_option linter.unusedVariables false

end Go.Proofs.Ytgcbdoljapnecaa
namespace Go.Proofs.Ytgcbdoljapnecaa
set_option maxRecDepth 20000
open Go.RowKit
set_option linter.unusedVariables false

end Go.Proofs.Ytgcbdoljapnecaa
namespace Go.Proofs.Ytgcbdoljapnecaa
set_option maxRecDepth 20000
open Go.RowKit

def Z8 (l : List Int) : List Value := l.map fun (x : Int) => Value.int .u8 x
theorem row_k (k : IntKind) {w : World} {a : Option Addr} {len cap : Nat} {zs : List Int}
    (h : (a = none ∧ len = 0 ∧ cap = 0 ∧ zs = []) ∨
      ∃ x, a = some x ∧ len ≤ cap ∧ cap ≤ maxLen ∧ zs.length = cap ∧ (∀ i, i < zs.length → w.cell? (x.add i) = some (.int k (zs.getD i 0))) ∧ ∀ n ∈ zs, (Lit.int k n).wf = true) :
    len ≤ cap ∧ cap ≤ maxLen ∧ Rd w w.heap.size a len ((zs.take len).map (Value.int k)) ∧ ∀ x ∈ zs.take len, (Lit.int k x).wf = true := by
  rcases h with ⟨rfl, rfl, rfl, rfl⟩ | ⟨x, rfl, hl, hm, hz, hc, hw⟩
  · exact ⟨Nat.le_refl _, Nat.zero_le _, Rd.nil _ _ _, by simp⟩
  · refine ⟨hl, hm, ⟨by simp; omega, fun h0 => ?_⟩, fun x hx => hw x (List.mem_of_mem_take hx)⟩
    obtain ⟨b, o, sp⟩ := x
    obtain rfl : sp = none := by simpa [Addr.add] using World.cell?_spot (hc 0 (by omega))
    refine ⟨b, o, rfl, World.block_lt_of_cell? _ _ (hc 0 (by omega)), fun j hj => ?_⟩
    have hj' : j < len := by simp at hj; omega
    have := hc j (by omega)
    have e : (⟨b, o, none⟩ : Addr).add j = ⟨b, o + j, none⟩ := by unfold Addr.add; split <;> simp_all
    rw [e] at this
    rw [this]
    have hjz : j < zs.length := by omega
    simp [List.getD_eq_getElem?_getD, List.getElem?_eq_getElem hjz]
theorem row_z8 {w : World} {a : Option Addr} {len cap : Nat} {zs : List Int}
    (h : (a = none ∧ len = 0 ∧ cap = 0 ∧ zs = []) ∨
      ∃ x, a = some x ∧ len ≤ cap ∧ cap ≤ maxLen ∧ zs.length = cap ∧ (∀ i, i < zs.length → w.cell? (x.add i) = some (.int .u8 (zs.getD i 0))) ∧ ∀ n ∈ zs, (Lit.int .u8 n).wf = true) :
    len ≤ cap ∧ cap ≤ maxLen ∧ ∃ x : List Int, Rd w w.heap.size a len (Z8 x) ∧ ∀ b ∈ x, 0 ≤ b ∧ b < 256 :=
  let ⟨a, b, c, d⟩ := row_k .u8 h
  ⟨a, b, zs.take len, c, fun b hb => by
    have := d b hb
    simp [Lit.wf, IntKind.min, IntKind.max, IntKind.bits, IntKind.signed] at this
    omega⟩
theorem wf_u8 {x : Int} (h : (Lit.int .u8 x).wf = true) : ∃ n : Nat, x = (n : Int) ∧ n < 256 := by
  simp [Lit.wf, IntKind.min, IntKind.max, IntKind.bits, IntKind.signed] at h
  exact ⟨x.toNat, by omega, by omega⟩
end Go.Proofs.Ytgcbdoljapnecaa
namespace Go.Proofs.Ytgcbdoljapnecaa
set_option maxRecDepth 20000
open Go.RowKit
set_option linter.unusedVariables false

theorem mlist_p (g : Nat) (l b : List Nat) (root lone : Int) (w : World) (h : MapAt w g l b root lone) :
    Calls Try.prog 10 #[.pointer (some ⟨g, 0, none⟩)] w (NewI64 w (ofN l)) := by
  have VS := Lib.hid (verts_p g l b root lone w h)
  have F0 := fld0
  clear h
  go_enter Try.func10, Try.ntmps10
  go_wp2_with fail
  refine VS.out.mono ?_
  rintro e w1 ⟨p, A, c, S, d, rfl, hp, r1, r2, b1⟩
  have LS := Lib.hid (list_p p l b w1 hp)
  clear hp r1 r2
  go_wp2_with fail
  refine LS.out.mono ?_
  rintro e w2 ⟨A2, c2, rfl, hc2, hm2, hown, b2⟩
  go_wp2_with fail
  go_ret
  exact ⟨A2, c2, rfl, hc2, hm2, hown.base_le' b1.size, b1.trans (b2.mono b1.size)⟩
end Go.Proofs.Ytgcbdoljapnecaa
namespace Go.Proofs.Ytgcbdoljapnecaa
set_option maxRecDepth 20000
open Go.RowKit
set_option linter.unusedVariables false

theorem sigma_in (g : Nat) (l b : List Nat) (root lone : Int) (i : Nat) (w : World) (h : MapAt w g l b root lone) (hi : i < l.length) :
    Calls Try.prog 82 #[.pointer (some ⟨g, 0, none⟩), .int .i64 (i : Int)] w fun e w' => e = .returned (.int .i64 ((l.getD i 0 : Nat) : Int)) ∧ Below w.heap.size w w' := by
  have VS := Lib.hid (verts_p g l b root lone w h)
  have F0 := fld0
  have HP1 := Lib.hid h.1
  have hlen := phiL_len l
  have HI := Lib.hid hi
  have HLN := Lib.hid hlen
  clear h hlen hi
  go_enter Try.func82, Try.ntmps82
  go_wp2_with fail
  refine VS.out.mono ?_
  rintro e w1 ⟨p, A, c, S, d, rfl, hp, r1, r2, b1⟩
  have CC := Lib.hid (at_in p _ _ i w1 hp HI.out)
  clear hp r1 r2
  go_wp2_with fail
  refine CC.out.mono ?_
  rintro e w2 ⟨rfl, rfl⟩
  go_wp2_with fail
  go_ret
  exact ⟨rfl, b1⟩
theorem phi_in (g : Nat) (l b : List Nat) (root lone : Int) (i : Nat) (w : World) (h : MapAt w g l b root lone) (hi : i < l.length) :
    Calls Try.prog 84 #[.pointer (some ⟨g, 0, none⟩), .int .i64 (i : Int)] w fun e w' => e = .returned (.int .i64 (((phiL l).getD i 0 : Nat) : Int)) ∧ Below w.heap.size w w' := by
  have VS := Lib.hid (faces_p g l b root lone w h)
  have F0 := fld0
  have HP1 := Lib.hid h.1
  have hlen := phiL_len l
  have HI := Lib.hid hi
  have HLN := Lib.hid hlen
  clear h hlen hi
  go_enter Try.func84, Try.ntmps84
  go_wp2_with fail
  refine VS.out.mono ?_
  rintro e w1 ⟨p, A, c, S, d, rfl, hp, r1, r2, b1⟩
  have CC := Lib.hid (at_in p _ _ i w1 hp (by rw [HLN.out]; exact HI.out))
  clear hp r1 r2
  go_wp2_with fail
  refine CC.out.mono ?_
  rintro e w2 ⟨rfl, rfl⟩
  go_wp2_with fail
  go_ret
  exact ⟨rfl, b1⟩
theorem mback_in (g : Nat) (l b : List Nat) (root lone : Int) (i : Nat) (w : World) (h : MapAt w g l b root lone) (hi : i < l.length) :
    Calls Try.prog 71 #[.pointer (some ⟨g, 0, none⟩), .int .i64 (i : Int)] w fun e w' => e = .returned (.int .i64 ((b.getD i 0 : Nat) : Int)) ∧ Below w.heap.size w w' := by
  have VS := Lib.hid (verts_p g l b root lone w h)
  have F0 := fld0
  have HP1 := Lib.hid h.1
  have hlen := phiL_len l
  have HI := Lib.hid hi
  have HLN := Lib.hid hlen
  clear h hlen hi
  go_enter Try.func71, Try.ntmps71
  go_wp2_with fail
  refine VS.out.mono ?_
  rintro e w1 ⟨p, A, c, S, d, rfl, hp, r1, r2, b1⟩
  have CC := Lib.hid (back_in p _ _ i w1 hp HI.out)
  clear hp r1 r2
  go_wp2_with fail
  refine CC.out.mono ?_
  rintro e w2 ⟨rfl, rfl⟩
  go_wp2_with fail
  go_ret
  exact ⟨rfl, b1⟩
theorem border_in (g : Nat) (l b : List Nat) (root lone : Int) (i : Nat) (w : World) (h : MapAt w g l b root lone) (hi : i < l.length) :
    Calls Try.prog 16 #[.pointer (some ⟨g, 0, none⟩), .int .i64 (i : Int)] w (NewI64 w (ofN (orb (phiL l) i))) := by
  have VS := Lib.hid (faces_p g l b root lone w h)
  have F0 := fld0
  have HP1 := Lib.hid h.1
  have hlen := phiL_len l
  have HI := Lib.hid hi
  have HLN := Lib.hid hlen
  clear h hlen hi
  go_enter Try.func16, Try.ntmps16
  go_wp2_with fail
  refine VS.out.mono ?_
  rintro e w1 ⟨p, A, c, S, d, rfl, hp, r1, r2, b1⟩
  have CC := Lib.hid (orbit_p p _ _ i w1 hp (by rw [HLN.out]; exact HI.out))
  clear hp r1 r2
  go_wp2_with fail
  refine CC.out.mono ?_
  rintro e w2 ⟨A2, c2, rfl, hc2, hm2, hown, b2⟩
  go_wp2_with fail
  go_ret
  exact ⟨A2, c2, rfl, hc2, hm2, hown.base_le' b1.size, b1.trans (b2.mono b1.size)⟩
end Go.Proofs.Ytgcbdoljapnecaa
