/- How darts are sorted first; parting by a step: mathematics. -/
import Derived.Test.YtijbdnhlpbcabaaGreatDoorZg23
import Derived.Test.YtijbdnhlpbcabaaGreatDoorZg21
import Derived.Test.YtijbdnhlpbcabaaGreatDoorZg1
import Derived.Test.YtijbdnhlpbcabaaGreatDoorZPMake
import Derived.BigQuiet
import Derived.Test.YtijbdnhlpbcabaaGreatDoorZg19
import Derived.BigRegion
open Go.RowKit
set_option linter.unusedVariables false
set_option linter.unusedSimpArgs false
namespace Go.Proofs.YtijbdnhlpbcabaaGreatDoor
set_option maxRecDepth 20000
set_option maxRecDepth 100000
theorem wpList_append_runR {P:Program} {w:World} {ops:Array Oper} {rest:List Oper} {o:Oper} {a:Act} {Q:Exit→Act→World→Prop} (hw:Region.wanted o (yielded ops a.tmps)=true) (s x:Operand) (t:TypeId)
  (ho:o.op=.call { callee:=.builtin .append,args:=#[s,x],argTypes:=#[t,t] }) (v u v':Value) (w':World) (hs:a.eval s=v) (hx:a.eval x=u)
  (hr:(Builtin.append_ #[t,t] o.type #[v,u]).run P w=.ok v' w') (h:wpList P ops Q rest (a.put o.dst v') w'):wpList P ops Q (o :: rest) a w :=
 wpList_wanted hw fun K hK=>by
  unfold Oper.wp execOp
  simp only [ho,resolve,invoke,builtin,Sem.run_bind,Sem.run_pure,Result.andThen_ok,List.map_toArray,List.map_cons,List.map_nil,hs,hx,hr]
  exact hK _ _ h
abbrev RowX:=Option (TypeId × List Value)
theorem getD_setR {α:Type} (l:List α) (i j:Nat) (x d:α) (hi:i < l.length):(l.set i x).getD j d=if j=i then x else l.getD j d:=by
 rw [List.getD_eq_getElem?_getD,List.getD_eq_getElem?_getD,List.getElem?_set]
 by_cases h:i=j
 ·subst h;simp [hi]
 ·simp [h,Ne.symm h]
section
variable {w w':World} {Fr Fr':Nat→Prop} {g:Nat} {T:TypeId} {vs:List Value} {xs:List RowX}
theorem ofN_snocR (L:List Nat) (x:Nat):I64 (ofN (L++[x]))=I64 (ofN L)++[.int .i64 (x:Int)]:=by simp [I64,ofN]
end
end Go.Proofs.YtijbdnhlpbcabaaGreatDoor
namespace Go.Proofs.YtijbdnhlpbcabaaGreatDoor
set_option maxRecDepth 100000


section
variable {n:Nat} {D P O F Z C:List Nat} {X Y:Nat→Prop}
end
section
variable {w W W':World} {Fr:Nat→Prop} {g n gD gP gO cD cP cO cT:Nat} {O F Z:List Nat} {X Y:Nat→Prop} {AT:Option Addr} {T D P C:List Nat}
end
end Go.Proofs.YtijbdnhlpbcabaaGreatDoor
namespace Go.Proofs.YtijbdnhlpbcabaaGreatDoor
set_option maxRecDepth 20000
open Go.RowKit Go.Maps
section
variable {n k:Nat} {kd kb:Nat→Nat} {O Z:List Nat}
end
end Go.Proofs.YtijbdnhlpbcabaaGreatDoor
namespace Go.Proofs.YtijbdnhlpbcabaaGreatDoor
set_option maxRecDepth 100000
open Go.RowKit Go.Maps
section
variable {l b:List Nat}
end
end Go.Proofs.YtijbdnhlpbcabaaGreatDoor
namespace Go.Proofs.YtijbdnhlpbcabaaGreatDoor
set_option maxRecDepth 20000
section
variable {n T d:Nat} {ts:List (List Nat)} {told0 Q told:List Nat} {i j:Nat}
end
section
variable {l b:List Nat} {r e:Nat} {Q:List Nat} {img:List Int} {i j:Nat} {ok:Bool}
end
end Go.Proofs.YtijbdnhlpbcabaaGreatDoor
namespace Go.Proofs.YtijbdnhlpbcabaaGreatDoor
set_option maxRecDepth 100000
end Go.Proofs.YtijbdnhlpbcabaaGreatDoor
