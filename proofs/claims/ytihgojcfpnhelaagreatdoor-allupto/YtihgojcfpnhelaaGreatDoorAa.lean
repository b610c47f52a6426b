import Derived.Test.YtihgojcfpnhelaaGreatDoorRows
import Derived.Deep.AppendLies
import Derived.Deep.CutBlock
import Derived.Deep.DeepCutAuto
import Derived.Deep.DeepWitnessRowRef
import Derived.Deep.RegionHeld3
import Derived.LaidMore
import Derived.Laws.AppendOwnNone
import Derived.Lib.AppendZeros
import Derived.Lib.SmallJoins
import Derived.LoopIn
import Derived.LoopNIn
import Derived.OwnWalkIn
import Derived.RangeFuncBound
import Derived.RangeFuncNested
import Derived.SevenTiedAt
import Derived.Shelf.RegionOpen
import Derived.Shelf.SlSortCmp.Insertion
import Derived.Shelf.Small.Strs
import Derived.Shelf.Strconv.Atoi
import Derived.Shelf.Strconv.ErrVarParseInt
import Derived.Shelf.Strconv.Itoa4
import Derived.Shelf.Strings.BuilderK
import Derived.Stop.LaidErr
import Derived.WalkLawsBesides
import Derived.WalkSpells
set_option maxRecDepth 100000
set_option linter.all false
open Go.RowKit
def Go.RowKit.Hid.o {p:Prop} (h:Go.RowKit.Hid p):p:=h.out
def Eq.t:type_of% @Eq.trans:=@Eq.trans
def Iff.t:type_of% @Iff.trans:=@Iff.trans
def Go.RowKit.Below.t:type_of% @Go.RowKit.Below.trans:=@Go.RowKit.Below.trans
def Go.World.grownBy.t:type_of% @Go.World.grownBy.trans:=@Go.World.grownBy.trans
def List.Perm.t:type_of% @List.Perm.trans:=@List.Perm.trans
def Go.Sort.SWO.t:type_of% @Go.Sort.SWO.trans:=@Go.Sort.SWO.trans
def Go.Lib.OthersKept.t:type_of% @Go.Lib.OthersKept.trans:=@Go.Lib.OthersKept.trans
def Go.Calls.m:type_of% @Go.Calls.mono:=@Go.Calls.mono
def Go.CallsIn.m:type_of% @Go.CallsIn.mono:=@Go.CallsIn.mono
def Go.RowKit.Below.m:type_of% @Go.RowKit.Below.mono:=@Go.RowKit.Below.mono
def Go.RoundIn.m:type_of% @Go.RoundIn.mono:=@Go.RoundIn.mono
namespace Go.Proofs
def bo:type_of% @beq_eq_false_iff_ne:=@beq_eq_false_iff_ne
def aG:type_of% @Nat.le_refl:=@Nat.le_refl
def cz:type_of% @Array.getElem?_eq_some_iff:=@Array.getElem?_eq_some_iff
def aK:type_of% @bodyPost_ret:=@bodyPost_ret
def bG:type_of% @Nat.lt_of_lt_of_le:=@Nat.lt_of_lt_of_le
def cU:type_of% @List.getElem?_eq_getElem:=@List.getElem?_eq_getElem
def aM:type_of% @Below.refl:=@Below.refl
def aA:type_of% @if_neg:=@if_neg
def bf:type_of% @Nat.le_trans:=@Nat.le_trans
def bt:type_of% @List.getElem_mem:=@List.getElem_mem
def b6:type_of% @List.length_append:=@List.length_append
def a6:type_of% @Int.ofNat_le:=@Int.ofNat_le
def bL:type_of% @heap_alloc_new:=@heap_alloc_new
def aB:type_of% @if_pos:=@if_pos
def cj:type_of% @Below.heap_alloc:=@Below.heap_alloc
def bQ:type_of% @List.mem_cons:=@List.mem_cons
def cY:type_of% @Below.heap_setCell:=@Below.heap_setCell
def bq:type_of% @cell_of_row:=@cell_of_row
def bE:type_of% @Nat.zero_le:=@Nat.zero_le
def fI:type_of% @List.getElem?_eq_some_iff:=@List.getElem?_eq_some_iff
def cG:type_of% @List.mem_append:=@List.mem_append
def bU:type_of% @List.mem_map:=@List.mem_map
def dp:type_of% @Option.some.inj:=@Option.some.inj
def gI:type_of% @World.block_lt_of_cell?:=@World.block_lt_of_cell?
def cC:type_of% @Nat.lt_or_ge:=@Nat.lt_or_ge
def e9:type_of% @List.getElem_of_mem:=@List.getElem_of_mem
def cN:type_of% @Nat.ne_of_gt:=@Nat.ne_of_gt
def eW:type_of% @World.ownsRow_nil:=@World.ownsRow_nil
def cS:type_of% @Nat.zero_add:=@Nat.zero_add
def jL:type_of% @List.drop_eq_getElem_cons:=@List.drop_eq_getElem_cons
def cZ:type_of% @Nat.ne_of_lt:=@Nat.ne_of_lt
def lC:type_of% @List.getD_eq_getElem?_getD:=@List.getD_eq_getElem?_getD
def fJ:type_of% @World.ownsRow.lt:=@World.ownsRow.lt
def il:type_of% @List.mem_cons_self:=@List.mem_cons_self
def fy:type_of% @List.length_map:=@List.length_map
def iJ:type_of% @List.mem_map_of_mem:=@List.mem_map_of_mem
def iB:type_of% @List.mem_singleton:=@List.mem_singleton
def fK:type_of% @List.map_append:=@List.map_append
def im:type_of% @Int.toNat_natCast:=@Int.toNat_natCast
def gS:type_of% @List.length_cons:=@List.length_cons
def gT:type_of% @List.cons_append:=@List.cons_append
def oD:type_of% @List.eq_nil_of_length_eq_zero:=@List.eq_nil_of_length_eq_zero
def ki:type_of% @List.mem_cons_of_mem:=@List.mem_cons_of_mem
def iq:type_of% @List.append_nil:=@List.append_nil
def fL:type_of% @List.map_cons:=@List.map_cons
def lD:type_of% @List.mem_of_mem_drop:=@List.mem_of_mem_drop
def jz:type_of% @List.pairwise_map:=@List.pairwise_map
def lS:type_of% @List.mem_of_mem_take:=@List.mem_of_mem_take
def jA:type_of% @List.not_mem_nil:=@List.not_mem_nil
def km:type_of% @wpList_append_own:=@wpList_append_own
def kn:type_of% @List.getElem?_map:=@List.getElem?_map
def fM:type_of% @List.map_map:=@List.map_map
def nY:type_of% @List.drop_of_length_le:=@List.drop_of_length_le
def kI:type_of% @List.append_assoc:=@List.append_assoc
def qx:type_of% @List.getElem?_append_right:=@List.getElem?_append_right
def jB:type_of% @List.nodup_cons:=@List.nodup_cons
def nu:type_of% @World.cell?_of_block:=@World.cell?_of_block
def oF:type_of% @Option.map_eq_some_iff:=@Option.map_eq_some_iff
def vJ:type_of% @List.take_succ_eq_append_getElem:=@List.take_succ_eq_append_getElem
def iC:type_of% @Nat.lt_irrefl:=@Nat.lt_irrefl
def kJ:type_of% @List.getElem_map:=@List.getElem_map
def mF:type_of% @Int.natCast_nonneg:=@Int.natCast_nonneg
def ko:type_of% @List.nil_append:=@List.nil_append
def fe:type_of% @info_parts:=@info_parts
def sy:type_of% @List.getElem?_append_left:=@List.getElem?_append_left
def kK:type_of% @AllReadyIn.cons:=@AllReadyIn.cons
def oG:type_of% @List.mem_of_getElem?:=@List.mem_of_getElem?
def iD:type_of% @Int.ofNat_lt:=@Int.ofNat_lt
def pF:type_of% @List.contains_iff_mem:=@List.contains_iff_mem
def qy:type_of% @List.take_of_length_le:=@List.take_of_length_le
def sW:type_of% @List.pairwise_iff_getElem:=@List.pairwise_iff_getElem
def mG:type_of% @List.length_drop:=@List.length_drop
def lT:type_of% @Nat.le_antisymm:=@Nat.le_antisymm
def jC:type_of% @Nat.zero_mul:=@Nat.zero_mul
def jD:type_of% @Nat.le_of_eq:=@Nat.le_of_eq
def vK:type_of% @List.mem_of_find?_eq_some:=@List.mem_of_find?_eq_some
def sA:type_of% @List.length_singleton:=@List.length_singleton
def eL:type_of% @congrArg:=@congrArg
def mH:type_of% @AllReadyIn.nil:=@AllReadyIn.nil
def pG:type_of% @decide_eq_true_eq:=@decide_eq_true_eq
def qz:type_of% @List.getElem?_drop:=@List.getElem?_drop
def nZ:type_of% @List.length_nil:=@List.length_nil
def sB:type_of% @List.map_congr_left:=@List.map_congr_left
def lF:type_of% @Nat.le_of_lt:=@Nat.le_of_lt
def mI:type_of% @Prod.mk.injEq:=@Prod.mk.injEq
def mJ:type_of% @wpAnyIn_ready:=@wpAnyIn_ready
def vL:type_of% @List.singleton_append:=@List.singleton_append
def pH:type_of% @Nat.not_lt_zero:=@Nat.not_lt_zero
def qA:type_of% @Bool.and_eq_true:=@Bool.and_eq_true
def lG:type_of% @below_drewN:=@below_drewN
def sD:type_of% @List.flatMap_cons:=@List.flatMap_cons
def sX:type_of% @List.getElem?_take:=@List.getElem?_take
def sY:type_of% @Bool.false_eq_true:=@Bool.false_eq_true
def EB:type_of% @List.eraseIdx_eq_take_drop_succ:=@List.eraseIdx_eq_take_drop_succ
def zE:type_of% @List.length_eq_zero_iff:=@List.length_eq_zero_iff
def sF:type_of% @List.length_take:=@List.length_take
def Br:type_of% @List.findIdx?_eq_none_iff:=@List.findIdx?_eq_none_iff
def iK:type_of% @or_false:=@or_false
def sZ:type_of% @List.perm_middle:=@List.perm_middle
def rj:type_of% @List.reverse_append:=@List.reverse_append
def k7:type_of% @Nat.add_zero:=@Nat.add_zero
def rp:type_of% @List.find?_eq_none:=@List.find?_eq_none
def rq:type_of% @wpList_append_lies:=@wpList_append_lies
def oH:type_of% @Option.map_some:=@Option.map_some
def ry:type_of% @Function.comp_def:=@Function.comp_def
def rz:type_of% @Classical.not_not:=@Classical.not_not
def rA:type_of% @of_decide_eq_true:=@of_decide_eq_true
def rB:type_of% @Option.some.injEq:=@Option.some.injEq
def wa:type_of% @List.take_append_drop:=@List.take_append_drop
def yi:type_of% @Array.getElem?_push_size:=@Array.getElem?_push_size
def oI:type_of% @List.find?_map:=@List.find?_map
def yj:type_of% @List.getElem_append_left:=@List.getElem_append_left
def mP:type_of% @Nat.add_comm:=@Nat.add_comm
def td:type_of% @List.pairwise_cons:=@List.pairwise_cons
def th:type_of% @Nat.lt_of_le_of_lt:=@Nat.lt_of_le_of_lt
def wb:type_of% @Array.replicate_succ:=@Array.replicate_succ
def wh:type_of% @Array.replicate_zero:=@Array.replicate_zero
def rC:type_of% @List.ext_getElem:=@List.ext_getElem
def rD:type_of% @List.any_eq_true:=@List.any_eq_true
def FZ:type_of% @List.findIdx?_eq_some_iff_getElem:=@List.findIdx?_eq_some_iff_getElem
def oJ:type_of% @Nat.add_assoc:=@Nat.add_assoc
def nK:type_of% @Nat.sub_self:=@Nat.sub_self
def wm:type_of% @List.append_toArray:=@List.append_toArray
def mQ:type_of% @Nat.one_mul:=@Nat.one_mul
def rE:type_of% @Bool.or_eq_true:=@Bool.or_eq_true
def Bt:type_of% @List.getElem_append_right:=@List.getElem_append_right
def yl:type_of% @List.set_append_right:=@List.set_append_right
def ym:type_of% @ownsRow_setCell_below:=@ownsRow_setCell_below
def tj:type_of% @List.getElem_set:=@List.getElem_set
def tq:type_of% @List.take_length:=@List.take_length
def nL:type_of% @Nat.mul_one:=@Nat.mul_one
def F6:type_of% @List.take_append_of_le_length:=@List.take_append_of_le_length
def wo:type_of% @DataW.trod_string:=@DataW.trod_string
def wq:type_of% @List.size_toArray:=@List.size_toArray
def wu:type_of% @List.push_toArray:=@List.push_toArray
def tu:type_of% @List.length_set:=@List.length_set
def yn:type_of% @List.take_succ_cons:=@List.take_succ_cons
def yo:type_of% @List.flatMap_append:=@List.flatMap_append
def yq:type_of% @List.getElem_append:=@List.getElem_append
def Bv:type_of% @wpList_append_own_none:=@wpList_append_own_none
def wx:type_of% @Tryz.underlying9:=@Tryz.underlying9
def wy:type_of% @List.mem_reverse:=@List.mem_reverse
def wA:type_of% @List.find?_some:=@List.find?_some
def wB:type_of% @List.range_succ:=@List.range_succ
def wC:type_of% @List.foldl_cons:=@List.foldl_cons
def wD:type_of% @DataW.agg.injEq:=@DataW.agg.injEq
def jq:type_of% @if_true:=@if_true
def k8:type_of% @if_false:=@if_false
def Bw:type_of% @List.pairwise_append:=@List.pairwise_append
def yr:type_of% @List.Sublist.refl:=@List.Sublist.refl
def Bx:type_of% @List.reverse_reverse:=@List.reverse_reverse
def Bz:type_of% @List.dropLast_concat:=@List.dropLast_concat
def yt:type_of% @Nat.lt_of_succ_lt:=@Nat.lt_of_succ_lt
def BA:type_of% @World.ownsRow.cellAt:=@World.ownsRow.cellAt
def yu:type_of% @Tryz.underlying22:=@Tryz.underlying22
def BB:type_of% @List.length_pos_iff:=@List.length_pos_iff
def BC:type_of% @List.replicate_succ:=@List.replicate_succ
def yv:type_of% @Array.toList_inj:=@Array.toList_inj
def yw:type_of% @step_append_lies:=@step_append_lies
def yx:type_of% @List.mem_filter:=@List.mem_filter
def oK:type_of% @enters_of:=@enters_of
def wE:type_of% @callsIn_wide:=@callsIn_wide
def wF:type_of% @Nat.lt_trans:=@Nat.lt_trans
def nM:type_of% @Ne.symm:=@Ne.symm
section
variable {p:Prop}
def VY (h:p:=by
 clear HX H4;obtain ⟨n,hn,xA,rfl,HI⟩:=hrel;obtain ⟨⟨⟨⟨r0,r1⟩,⟨gK,gL⟩,eP⟩,⟨x0,x1⟩,⟨i6,i7⟩,ja⟩,⟨y0,y1⟩,⟨DZ,D1⟩,D2⟩:=HI.o.rows;obtain ⟨⟨k0,k1,k2,k3⟩,⟨f0,f1,f2,f3⟩,hsz⟩:=aX HI.o.s.at_.row;have hPb:=HBD.o n hn;have HPL:=I (VZ.o n hn);have h12:w4.heap.size+1≠w4.heap.size:=Nat.succ_ne_self _;have aq3:w4.heap.size≠w4.heap.size+1:=λh=>Nat.succ_ne_self _ h.symm;have hw2:w4.heap.size+1≠w.heap.size:=cN (Nat.lt_succ_of_lt hw4);have aq4:w.heap.size≠w4.heap.size+1:=cZ (Nat.lt_succ_of_lt hw4);have hq2:q≠w4.heap.size+1:=cZ (Nat.lt_succ_of_lt Mh);have aq5:w4.heap.size+1≠q:=cN (Nat.lt_succ_of_lt Mh);rcases (by omega:n=0\/n=1\/n=2) with rfl|rfl|rfl
 ·have Mi:=I (HS.o 0 ai);have F7:=I (show 2 - 1<gk/\2<=1+(2 - 1) from ⟨ae,ae⟩);clear hn xA;rcases Mi.o with ⟨hN,hv2,Mj,hcc⟩|⟨F8,V0,V1,V2⟩
  ·have D3:=I hcc;rw [hN] at k3;have yy:(v.1 == 2)=true:=sG;have akd:(v.2 == 1)=true:=Mj;clear hcc hv2 Mi Mj;have H6:Hid (oL q al cl af cf ts fs w w4.heap.size (w4.heap.size+1) wr (P 0) false v (O 0)):=I (hN▸HI.o);go_wp2_with (go_at_call 155;refine mo (D3.o _ (H6.o.inc (P 0+1)).s.at_) ?_;rintro e w7 ⟨rfl,BD,BF⟩);have H7:=I ((H6.o.inc (P 0+1)).call BF BD);clear BF BD H6 HI r0 r1 gK gL eP x0 x1 i6 i7 ja y0 y1 DZ D1 D2;clear k0 k1 k2 k3 f0 f1 f2 f3 hsz;obtain ⟨⟨⟨⟨r0,r1⟩,⟨gK,gL⟩,eP⟩,⟨x0,x1⟩,⟨i6,i7⟩,ja⟩,⟨y0,y1⟩,⟨DZ,D1⟩,D2⟩:=H7.o.rows;apply I;go_wp2_with fail;go_roundg (2 - 1)
   case measure=>exact F7.o.1
   case rel=>exact ⟨1,ai,F7.o.2,rfl,I (H7.o.put _)⟩
  ·have HX1:=I V0;have HX2:=I V1;have HX3:=I V2;clear V0 V1 V2 Mi;cases hN:N 0
   ·by_cases hv2:v.1=2
    ·have Mj:(v.2 == 1)=false:=(F8.resolve_left V3).resolve_left (λh=>h hv2);have yy:(v.1 == 2)=true:=sG;rw [hN] at k3;clear F8 hv2;exact Mk
    ·have yy:(v.1 == 2)=false:=sG;rw [hN] at k3;clear F8 hv2;exact Mk
   ·rw [hN] at k3;clear F8;exact Mk
 ·have Mi:=I (HS.o 1 ai);have F7:=I (show 2 - 2<gk/\2<=2+(2 - 2) from ⟨ae,ae⟩);clear hn xA;rcases Mi.o with ⟨hN,hv2,Mj,hcc⟩|⟨F8,V0,V1,V2⟩
  ·have D3:=I hcc;rw [hN] at k3;have yy:(v.1 == 2)=true:=sG;have akd:(v.2 == 1)=false:=Mj;clear hcc hv2 Mi Mj;have H6:Hid (oL q al cl af cf ts fs w w4.heap.size (w4.heap.size+1) wr (P 1) false v (O 1)):=I (hN▸HI.o);go_wp2_with (go_at_call 155;refine mo (D3.o _ (H6.o.inc (P 1+1)).s.at_) ?_;rintro e w7 ⟨rfl,BD,BF⟩);have H7:=I ((H6.o.inc (P 1+1)).call BF BD);clear BF BD H6 HI r0 r1 gK gL eP x0 x1 i6 i7 ja y0 y1 DZ D1 D2;clear k0 k1 k2 k3 f0 f1 f2 f3 hsz;obtain ⟨⟨⟨⟨r0,r1⟩,⟨gK,gL⟩,eP⟩,⟨x0,x1⟩,⟨i6,i7⟩,ja⟩,⟨y0,y1⟩,⟨DZ,D1⟩,D2⟩:=H7.o.rows;apply I;go_wp2_with fail;go_roundg (2 - 2)
   case measure=>exact F7.o.1
   case rel=>exact ⟨2,ai,F7.o.2,rfl,I (H7.o.put _)⟩
  ·have HX1:=I V0;have HX2:=I V1;have HX3:=I V2;clear V0 V1 V2 Mi;cases hN:N 1
   ·by_cases hv2:v.1=2
    ·have Mj:(v.2 == 1)=true:=(F8.resolve_left V3).resolve_left (λh=>h hv2);have yy:(v.1 == 2)=true:=sG;rw [hN] at k3;clear F8 hv2;exact Ml
    ·have yy:(v.1 == 2)=false:=sG;rw [hN] at k3;clear F8 hv2;exact Ml
   ·rw [hN] at k3;clear F8;exact Ml
 ·clear hn xA;go_wp2_with fail;refine aK (v:=gH (O 2)) zF rfl ?_;exact ⟨rfl,(HI.o.inc (P 2+1)).s.o _ _⟩):p:=h
def Mm (h:p:=by
 simp [Value.cells] at hc;obtain ⟨rfl,rfl,rfl⟩:=hc;have aq6:m=cap:=ahm;have key:∀ j,j<len->∃ x:Int × Int × By,W.cell? (a.add (j*3))=some (.int .i64 x.1)/\W.cell? ((a.add (j*3)).add 1)=some (.int .i64 x.2.1)/\W.cell? ((a.add (j*3)).add 2)=some (.string ⟨x.2.2.toArray⟩) /\ -9223372036854775808<=x.2.1/\x.2.1<=9223372036854775807:=by
  intro j hj;obtain ⟨cs',h1,h2⟩:=od j ae;rw [BG] at h1;obtain ⟨_,anJ,hat⟩:=World.cells?_some h1;obtain ⟨y0,y1,y2,n',_,_,t0,t1,t2⟩:=Deep.trod_struct3 Tryz.underlying75 h2;obtain ⟨k,e0,_,_⟩:=DataW.trod_int Tryz.underlying3 t0;obtain ⟨k1,e1,_,hw⟩:=DataW.trod_int Tryz.underlying3 t1;obtain ⟨s,e2,_,_⟩:=wo wx t2;have c0:=hat 0 ae;have c1:=hat 1 ae;have c2:=hat 2 ae;rw [F9] at e0 e1;rw [Ga] at e2;have g0:cs'[0]?=some (.int .i64 k):=by
   have:=eL (·[0]?) e0;simpa [sX,qz] using this
  have g1:cs'[1]?=some (.int .i64 k1):=by
   have:=eL (·[0]?) e1;simpa [sX,qz] using this
  have g2:cs'[2]?=some (.string s):=by
   have:=eL (·[0]?) e2;simpa [sX,qz] using this
  refine ⟨(k,k1,s.data.toList),?_,?_,?_,(wf_i64 hw).1,(wf_i64 hw).2⟩
  ·rw [g0] at c0;simpa [Addr.add] using c0
  ·rw [g1] at c1;rw [c1]
  ·rw [g2] at c2;rw [c2]
 obtain ⟨f,hf'⟩:=Deep.choose_lt key;have hdl:len<=Rows.uptoBulk d:=by
  have h1:d=.slice ((List.range len).map D) ((List.range (m - len)).map λj=>D (len+j)):=eL Prod.fst hd;rw [h1];have h2:=Gb ((List.range len).map D);rw [fy,List.length_range] at h2;simp only [Rows.uptoBulk];omega
 refine ⟨some a,len,cap,λj=>(f j).1,λj=>(f j).2.1,λj=>(f j).2.2,rfl,hdl,λj hj=>⟨a,rfl,?_,(hf' j hj).1,(hf' j hj).2.1,(hf' j hj).2.2.1,(hf' j hj).2.2.2.1,(hf' j hj).2.2.2.2⟩⟩;have:=gI W _ (hf' j hj).1;rwa [Ji] at this):p:=h
def BH (h:p:=by intro e an ln cn k nm n ar lr cr w Q hQ hT;have HQ:=I hQ;have SI:=I (λx:Int=>hT ((w.alloc (.cells #[zI x,.slice an ln cn,zI k,zG nm,zI n,.slice ar lr cr] 97)).alloc (.cells #[zI 0,zI 0,zG [],zN,zI 0,zI 0] 39)) (aY _ _ _) aq (bc w _ _ _));clear hT hQ;go_in;go_wp2_with ((first|go_at_call 66|go_at_call 67|go_at_call 49|go_at_call 68|go_at_call 69);refine mo (SI.o _) ?_;rintro r w1 ⟨er,rfl,Jj,hq⟩);obtain ⟨⟨k0,k1,k2,k3,k4,k5⟩,⟨f0,f1,f2,f3,f4,f5⟩,hsz⟩:=bJ Jj;have HQ1:=I hq;clear Jj hq SI;apply I;go_wp2;refine aK (v:=.agg #[zI er,zI 0,zG [],zN,zI 0,zI 0]) Q0 rfl ?_;exact ⟨er,rfl,HQ.o _ _ _ _ (HQ.o _ _ _ _ (HQ.o _ _ _ _ (HQ.o _ _ _ _ (HQ.o _ _ _ _ (HQ.o _ _ _ _ HQ1.o)))))⟩):p:=h
def V4 (h:p:=by
 have BI:=I (λq u hq=>hv2.cells (g:=g2) rfl q u hq);have hs2:=hb2.size;clear agn Q1;go_wp2_with (at_builtin;refine km _ rfl (.tmp 58) (.tmp 59) 24 rfl w2.heap.size 9 i0 (zG []) 1 16 underlying24 hi hz0 hz1 hz2 rfl ai (zN) 0 [] rfl (eW _ _ _ _) ⟨g2,0,none⟩ (G m) Q2 (strs m) rfl (qB m) BI.o (qC m) jM ae (aG _) ?_;intro v3 w3 wG Q3 _;apply Hid.o);rw [cS,ko] at wG;have hb3:zB w2 w3:=(aM _ _).grown Q3 (aG _) (λq hq=>pI);have hs3:=hb3.size;clear Q3;apply I;by_cases BJ:cx=1
 ·have Mn:(G K)=0:=ae;obtain rfl:=zE.1 Mn;subst BJ;go_wp2_with (at_builtin;refine km _ rfl (.tmp 61) (.tmp 63) 24 rfl w2.heap.size 9 i0 (zG []) 1 16 underlying24 hi hz0 hz1 hz2 rfl ai v3 (G m) (strs m) rfl wG ax 0 0 (strs []) ?e1 (qB []) (λq u hq=>V5) (qC []) jM ae hs3 ?_;rotate_right;intro v4 w4 oM lU _;apply Hid.o)
  case e1=>simp [go_sem]
  have Gc:=I (show Own w4 w2.heap.size v4 (m++[]) by
   show w4.ownsRow _ 9 1 v4 _ _;rw [b6];simpa [strs] using oM)
  have xB:=I (show zB w1 w4 from ((hbr.t (hb2.m D5)).t (hb3.m ae)).grown lU ae (λq hq=>Q4));clear oM lU;apply I;go_wp2;go_roundg gk
  case measure=>omega
  case rel=>exact V6
 ·have V7:2<=cx:=ae;have HC3:=I (show ∀ q u,(strs K)[q]?=some u->(w3:zW).cell? ((ax.add 1).add q)=some u from λq u hq=>by
   unfold strs at hq;rw [kn] at hq;obtain ⟨y,hy,rfl⟩:=oF.1 hq;obtain ⟨Mh,rfl⟩:=fI.1 hy;have h:=V8.o (q+1) V9;rw [show (ax.add 1).add q=ax.add (q+1) from Q5];rw [hb3.cell ago,hb2.cell (gI wr _ h),h];rfl)
  go_wp2_with (at_builtin;refine km _ rfl (.tmp 61) (.tmp 63) 24 rfl w2.heap.size 9 i0 (zG []) 1 16 underlying24 hi hz0 hz1 hz2 rfl ai v3 (G m) (strs m) rfl wG (ax.add 1) (G K) (cx - 1) (strs K) ?e1 (qB K) HC3.o (qC K) jM ae hs3 ?_;rotate_right;intro v4 w4 oM lU _;apply Hid.o)
  case e1=>simp [go_sem]
  have Gc:=I (show Own w4 w2.heap.size v4 (m++K) by
   show w4.ownsRow _ 9 1 v4 _ _;rw [b6];simpa [strs] using oM)
  have xB:=I (show zB w1 w4 from ((hbr.t (hb2.m D5)).t (hb3.m ae)).grown lU ae (λq hq=>Q4));clear oM lU;apply I;go_wp2;go_roundg gk
  case measure=>omega
  case rel=>exact Wa):p:=h
def Wb (h:p:=by
 obtain rfl:=zE.1 hm0;have hs2:=hb2.size;have wG:w2.ownsRow w2.heap.size 9 1 (zN) ([]:List By).length (strs []):=eW _ _ _ _;have hb3:zB w2 w2:=aM _ _;have hs3:=hb3.size;generalize SJ:([]:List By)=m at *;have HMM:=I SJ;clear SJ hm0;go_wp2_with (at_builtin;refine Bv rfl (.tmp 58) (.tmp 59) 24 rfl w2.heap.size 9 i0 1 underlying24 hi (zN) 0 [] rfl (eW _ _ _ _) rfl ?_;apply Hid.o);apply I;by_cases BJ:cx=1
 ·have Mn:(G K)=0:=ae;obtain rfl:=zE.1 Mn;subst BJ;go_wp2_with (at_builtin;refine km _ rfl (.tmp 61) (.tmp 63) 24 rfl w2.heap.size 9 i0 (zG []) 1 16 underlying24 hi hz0 hz1 hz2 rfl ai (zN) (G m) (strs m) rfl wG ax 0 0 (strs []) ?e1 (qB []) (λq u hq=>V5) (qC []) jM ae hs3 ?_;rotate_right;intro v4 w4 oM lU _;apply Hid.o)
  case e1=>simp [go_sem]
  have Gc:=I (show Own w4 w2.heap.size v4 (m++[]) by
   show w4.ownsRow _ 9 1 v4 _ _;rw [b6];simpa [strs] using oM)
  have xB:=I (show zB w1 w4 from ((hbr.t (hb2.m D5)).t (hb3.m ae)).grown lU ae (λq hq=>Q4));clear oM lU;apply I;go_wp2;go_roundg gk
  case measure=>omega
  case rel=>exact V6
 ·have V7:2<=cx:=ae;have HC3:=I (show ∀ q u,(strs K)[q]?=some u->(w2:zW).cell? ((ax.add 1).add q)=some u from λq u hq=>by
   unfold strs at hq;rw [kn] at hq;obtain ⟨y,hy,rfl⟩:=oF.1 hq;obtain ⟨Mh,rfl⟩:=fI.1 hy;have h:=V8.o (q+1) V9;rw [show (ax.add 1).add q=ax.add (q+1) from Q5];rw [hb3.cell ago,hb2.cell (gI wr _ h),h];rfl)
  go_wp2_with (at_builtin;refine km _ rfl (.tmp 61) (.tmp 63) 24 rfl w2.heap.size 9 i0 (zG []) 1 16 underlying24 hi hz0 hz1 hz2 rfl ai (zN) (G m) (strs m) rfl wG (ax.add 1) (G K) (cx - 1) (strs K) ?e1 (qB K) HC3.o (qC K) jM ae hs3 ?_;rotate_right;intro v4 w4 oM lU _;apply Hid.o)
  case e1=>simp [go_sem]
  have Gc:=I (show Own w4 w2.heap.size v4 (m++K) by
   show w4.ownsRow _ 9 1 v4 _ _;rw [b6];simpa [strs] using oM)
  have xB:=I (show zB w1 w4 from ((hbr.t (hb2.m D5)).t (hb3.m ae)).grown lU ae (λq hq=>Q4));clear oM lU;apply I;go_wp2;go_roundg gk
  case measure=>omega
  case rel=>exact Wa):p:=h
def Wc (h:p:=by
 obtain ⟨j,hj,rfl,BK⟩:=hrel;clear k0 k1 k2 k3;obtain ⟨⟨k0,k1,k2,k3⟩,_,aq7⟩:=aX BK.o.Mo;obtain ⟨⟨s0,s1,s2⟩,aq8⟩:=akh BK.o.spl;by_cases hlt:j<G p.kids
 ·obtain ⟨g,rfl,hgb,c0,c1,c2,c3⟩:=HC.o j hlt;have d0:=(BK.o.ok.bS.cell (p:=⟨g,j*4,none⟩) hgb).t c0;have d1:=(BK.o.ok.bS.cell (p:=⟨g,j*4+1,none⟩) hgb).t c1;have d2:=(BK.o.ok.bS.cell (p:=⟨g,j*4+2,none⟩) hgb).t c2;have d3:=(BK.o.ok.bS.cell (p:=⟨g,j*4+3,none⟩) hgb).t c3;have hj1:j+1<=(G p.kids):=hlt;have HIJ:=I (SK.o j hlt);have HSU:=I (BL p j hlt);have hle:=BM p (j+1);rw [BL p j hlt] at hle;simp only [b6] at hle;have hbl:=BK.o.bu.2;clear c0 c1 c2 c3;generalize p.kids[j]=q at *;by_cases h0:j=0
  ·subst h0;have We:=I (show (acc++jN p 0).length+(txt q).length<=1000000 from Wf);have SL:=I (BK.o.next (bZ (.cells #[zI q.k,zG q.nm,zI q.n,.slice (A 0) (L 0) (C 0)] 87)));rw [jC] at d0 d1 d2 d3;clear hle;go_wp2_with (go_at_call 95;refine mo (HIJ.o _ _ SL.o.ok.bS SL.o.bu We.o) ?_;rintro e w5 ⟨rfl,Gd,Ge⟩);have Jk:=I (show WS p (some ⟨g,0,none⟩) c b acc w (jN p (0+1)) w5 from akk);clear Gd Ge;apply I;go_wp2;go_roundw
   case rel=>exact ⟨0+1,ae,ez,Jk⟩
   case measure=>simp [intOf];omega
  ·have hjb:(0:Int)<(j:Int):=ae;rw [aA h0] at hle;have We:=I (show (acc++jN p j).length+(lL p.k).length<=1000000 from Wf);have HL6:=I (show (acc++(jN p j++lL p.k)).length+(txt q).length<=1000000 from agp);have SL:=I (BK.o.next (bZ (.cells #[zI q.k,zG q.nm,zI q.n,.slice (A j) (L j) (C j)] 87)));clear hle;go_wp2_with (go_at_call 131;refine mo (HW.o (acc++jN p j) (lL p.k) _ SL.o.bu We.o) ?_;rintro e w5 ⟨rfl,Gd,Ge⟩);have Jk:=I (SL.o.call (s:=lL p.k) Gd Ge);obtain ⟨⟨x0,x1,x2,x3⟩,_,aq9⟩:=aX (Ge.blk (q:=wr.heap.size) (bL wr _) ae ai);clear Gd Ge;apply I;go_wp2_with (go_at_call 95;refine mo (HIJ.o _ _ Jk.o.ok.bS Jk.o.bu HL6.o) ?_;rintro e w6 ⟨rfl,hB6,hO6⟩);have HS7:=I (show WS p (some ⟨g,0,none⟩) c b acc w (jN p (j+1)) w6 from akn);clear hB6 hO6;apply I;go_wp2;go_roundw
   case rel=>exact ⟨j+1,ae,ez,HS7⟩
   case measure=>simp [intOf];omega
 ·obtain rfl:j=(G p.kids):=ae;have We:=I (show (acc++jN p (G p.kids)).length+(jO p.k).length<=1000000 from ako);go_wp2_with (go_at_call 131;refine mo (HW.o (acc++jN p (G p.kids)) (jO p.k) _ BK.o.bu We.o) ?_;rintro e w5 ⟨rfl,Gd,Ge⟩);have Jk:=I (BK.o.call (s:=jO p.k) Gd Ge);clear Gd Ge;apply I;go_wp2
  go_end0
  exact ⟨rfl,aho,Jk.o.ok⟩):p:=h
def BN (h:p:=by
 go_wp2_with (first|(go_at_call 77;refine (xz t kq ⟨wr.heap.size,0,none⟩ 9 _ ai (λj h=>fh wr kq 9 j h)).m ?_;rintro e w' ⟨rfl,rfl⟩)|(go_at_call 78;refine (EC q _ HQ.o).m ?_;rintro e w2 ⟨rfl,hb2⟩));go_roundw
 case rel=>exact Wh
 case measure=>simp [intOf];omega):p:=h
def Wi (h:p:=by
 have HV:=I hv;clear ht hv gM;cases m
 ·have SN:=I (HV.o.t (aA aq));clear HV;apply I;go_wp2_with fail;refine aK (v:=gH v) SP rfl ?_;rw [SN.o];exact ⟨rfl,H2.o.o _ _⟩
 ·apply I;go_wp2_with (go_at_call 210;refine mo (dC v H2.o.at_) ?_;rintro e w3 ⟨rfl,hb3⟩);have H3:=I (H2.o.next hb3);clear hb3 r0 r1 gK gL eP x0 x1 i6 i7 ja;obtain ⟨⟨⟨r0,r1⟩,⟨gK,gL⟩,eP⟩,⟨x0,x1⟩,⟨i6,i7⟩,ja⟩:=H3.o.rows;cases hst:dY v lf
  ·by_cases hv2:v.1=2
   ·have SN:=I (HV.o.t (aA (by simp [hv2])));have yy:(v.1 == 2)=true:=sG;clear HV hv2;exact Wj
   ·have SN:=I (HV.o.t (aB (by simp [hst,hv2])));have yy:(v.1 == 2)=false:=sG;clear HV hv2
    try rw [hst]
    apply I;go_wp2_with (go_at_call 211;refine mo (mR _ _) ?_;rintro e w4 ⟨rfl,hb4⟩);have H4:=I (H3.o.next hb4);clear hb4 r0 r1 gK gL eP x0 x1 i6 i7 ja;obtain ⟨⟨⟨r0,r1⟩,⟨gK,gL⟩,eP⟩,⟨x0,x1⟩,⟨i6,i7⟩,ja⟩:=H4.o.rows;apply I;go_wp2_with fail;refine aK (v:=gH (cL 2)) SP rfl ?_;rw [SN.o];exact ⟨rfl,H4.o.o _ _⟩
  ·have SN:=I (HV.o.t (aA (by simp [hst])));clear HV;exact Wj):p:=h
def Wk (h:p:=by
 by_cases hcm:t=[44]<;>by_cases nN:t=[110,111,116]
 ·subst hcm;simp at nN
 ·have zH:(t == [44])=true:=Mp;have HP:=I (show cM none t=t++[32] from ahp);exact Wl
 ·have zH:(t == [44])=false:=bo.2 hcm;have Jl:(t == [110,111,116])=true:=Mr;have HP:=I (show cM none t=t++[32] from ahq);exact Wl
 ·have zH:(t == [44])=false:=bo.2 hcm;have Jl:(t == [110,111,116])=false:=bo.2 nN;have HP:=I (show cM none t=dy t from ahr);have akp:=tv t;clear hcm nN;go_wp2_with (first|(go_at_call 77;refine (xz t kq ⟨wr.heap.size,0,none⟩ 9 _ ai (λj h=>fh wr kq 9 j h)).m ?_;rintro e w' ⟨rfl,rfl⟩)|(go_at_call 79;refine (Jm t _ ae).m ?_;rintro e w' ⟨rfl,rfl⟩));go_roundw
  case rel=>exact ⟨0+1,ae,ez,Wm,(hb.alloc hsz _)⟩
  case measure=>simp [intOf];omega):p:=h
def Wn (h:p:=by
 subst et;have D3:=I hc;have D6:=I hgo;have HM:=I (show (G ts) - j2<gk/\(G ts)<=j2+(G ts - j2) from ⟨ae,ae⟩);clear ht gM hc hgo;have yy:(v.1 == 2)=true:=sG;clear hv2;apply I;go_wp2_with (go_at_call 210;refine mo (dC v H2.o.at_) ?_;rintro e w3 ⟨rfl,hb3⟩);have H3:=I (H2.o.next hb3);clear hb3 r0 r1 gK gL eP x0 x1 i6 i7 ja;obtain ⟨⟨⟨r0,r1⟩,⟨gK,gL⟩,eP⟩,⟨x0,x1⟩,⟨i6,i7⟩,ja⟩:=H3.o.rows
 try rw [hst]
 apply I;go_wp2_with (go_at_call 210;refine mo (dC v H3.o.at_) ?_;rintro e w4 ⟨rfl,hb4⟩);have H4:=I (H3.o.next hb4);clear hb4 r0 r1 gK gL eP x0 x1 i6 i7 ja;obtain ⟨⟨⟨r0,r1⟩,⟨gK,gL⟩,eP⟩,⟨x0,x1⟩,⟨i6,i7⟩,ja⟩:=H4.o.rows
 try rw [hst]
 clear k0 k1 k2 k3 f0 f1 f2 f3 hsz;obtain ⟨⟨k0,k1,k2,k3⟩,⟨f0,f1,f2,f3⟩,hsz⟩:=aX H4.o.at_.row;apply I;go_wp2_with (go_at_call 208;refine mo (D3.o _ (H4.o.inc (j+1)).at_) ?_;rintro e w5 ⟨rfl,Jn,Jo⟩);have H5:=I ((H4.o.inc (j+1)).call Jo Jn);clear Jo Jn k0 k1 k2 k3 f0 f1 f2 f3 hsz r0 r1 gK gL eP x0 x1 i6 i7 ja;obtain ⟨⟨⟨r0,r1⟩,⟨gK,gL⟩,eP⟩,⟨x0,x1⟩,⟨i6,i7⟩,ja⟩:=H5.o.rows;apply I;go_wp2_with fail;go_roundg (G ts - j2)
 case measure=>exact HM.o.1
 case rel=>exact ⟨j2,u,n2,true,HM.o.2,Jp,rfl,I ⟨D6.o,H5.o.put u⟩⟩):p:=h
def Wo (h:p:=by
 obtain ⟨m,hm,rfl,rfl⟩:=hrel;by_cases hmj:m<j+1
 ·have xD:a+m<(G l):=ae;have hdm:cT l[a+m]=true:=by
   cases m with
   | zero=>exact HD.o
   | succ m=>
    have:=HN.o m ae ae;simpa [oJ,mP 1 m] using this
  have Gg:=gq hdm;have ara:=Mt l a m ae ae (λi hi him=>by
   cases i with
   | zero=>exact HD.o
   | succ i=>
    have:=HN.o i ae ae;simpa [oJ,mP 1 i] using this)
  have HV:=I (show cR ((l.drop a).take (m+1))=10*cR ((l.drop a).take m)+(l[a+m].toNat - 48) from ahs);have hr1:(48:Int)<=(l[a+m].toNat:Int):=ae;have hr2:(l[a+m].toNat:Int)<=57:=ae;clear hdm Gg;generalize hx:cR ((l.drop a).take m)=V at *;have HX:=I hx;clear hx;go_wp2
  go_round
  case rel=>exact ⟨m+1,ae,ez,by rw [HV.o];go_num⟩
  case measure=>simp [intOf];omega
 ·obtain rfl:m=j+1:=ae;generalize hx:cR ((l.drop a).take (j+1))=V at *;have HX:=I hx;clear hx;by_cases akr:9223372036854775807<(V:Int)<;>have HB:=I akr
  ·go_wp2;go_ret;exact ⟨aht,rfl⟩
  ·go_wp2;go_ret;exact ⟨ahu,rfl⟩):p:=h
def Wp (h:p:=by
 go_wp2_with (go_at_call 38;refine mo HST.o ?_;rintro r w2 ⟨rfl,m2,D7,yA⟩;have Wq:=I (And.intro D7 yA);clear D7 yA);have Jq:=I (Wq.o.2.looks Gh.o.2.2);clear HST d0 d1 d2;apply I;go_wp2_with (go_at_call 39;refine mo Jq.o ?_;rintro r w3 ⟨rfl,hb3⟩;have Jr:=I hb3;clear hb3);apply I;go_wp2_with fail;go_roundg (len - (k+1))
 case measure=>exact eQ.o.2.1
 case rel=>exact Ws):p:=h
def Wt (h:p:=by
 apply I;go_wp2_with (go_at_call 210;refine mo (dC v' H2.o.at_) ?_;rintro e w3 ⟨rfl,hb3⟩);have H3:=I (H2.o.next hb3);clear hb3 r0 r1 gK gL eP x0 x1 i6 i7 ja;obtain ⟨⟨⟨r0,r1⟩,⟨gK,gL⟩,eP⟩,⟨x0,x1⟩,⟨i6,i7⟩,ja⟩:=H3.o.rows
 try rw [hst]
 apply I;go_wp2_with (go_at_call 210;refine mo (dC v' H3.o.at_) ?_;rintro e w4 ⟨rfl,hb4⟩);have H4:=I (H3.o.next hb4);clear hb4 r0 r1 gK gL eP x0 x1 i6 i7 ja;obtain ⟨⟨⟨r0,r1⟩,⟨gK,gL⟩,eP⟩,⟨x0,x1⟩,⟨i6,i7⟩,ja⟩:=H4.o.rows
 try rw [hst]
 apply I;go_wp2_with (go_at_call 212;refine mo (SQ H4.o.at_ HJ.o) ?_;rintro e w5 ⟨rfl,Jn,Jo⟩);have H5:=I (H4.o.call Jo Jn);clear Jo Jn r0 r1 gK gL eP x0 x1 i6 i7 ja;obtain ⟨⟨⟨r0,r1⟩,⟨gK,gL⟩,eP⟩,⟨x0,x1⟩,⟨i6,i7⟩,ja⟩:=H5.o.rows;apply I;go_wp2_with fail;refine aK (v:=gH v') SP rfl ?_;exact ⟨rfl,H5.o.o _ _⟩):p:=h
def Wu (h:p:=by
 apply I;go_wp2_with (go_at_call 210;refine mo (dC v' H2.o.at_) ?_;rintro e w3 ⟨rfl,hb3⟩);have H3:=I (H2.o.next hb3);clear hb3 r0 r1 gK gL eP x0 x1 i6 i7 ja;obtain ⟨⟨⟨r0,r1⟩,⟨gK,gL⟩,eP⟩,⟨x0,x1⟩,⟨i6,i7⟩,ja⟩:=H3.o.rows
 try rw [hst]
 apply I;go_wp2_with (go_at_call 210;refine mo (dC v' H3.o.at_) ?_;rintro e w4 ⟨rfl,hb4⟩);have H4:=I (H3.o.next hb4);clear hb4 r0 r1 gK gL eP x0 x1 i6 i7 ja;obtain ⟨⟨⟨r0,r1⟩,⟨gK,gL⟩,eP⟩,⟨x0,x1⟩,⟨i6,i7⟩,ja⟩:=H4.o.rows
 try rw [hst]
 apply I;go_wp2_with (go_at_call 212;refine mo (SR H4.o.at_ HJ.o) ?_;rintro e w5 ⟨rfl,Jn,Jo⟩);have H5:=I (H4.o.call Jo Jn);clear Jo Jn r0 r1 gK gL eP x0 x1 i6 i7 ja;obtain ⟨⟨⟨r0,r1⟩,⟨gK,gL⟩,eP⟩,⟨x0,x1⟩,⟨i6,i7⟩,ja⟩:=H5.o.rows;apply I;go_wp2_with fail;refine aK (v:=gH v') SP rfl ?_;exact ⟨rfl,H5.o.o _ _⟩):p:=h
def Wv (h:p:=by
 generalize bK fs x=fi at *;apply I;go_wp2_with fail
 go_region_held3 (λw'=>w'.cell? ⟨y,0,none⟩=some (.slice fa (G fs) fc)) (first|go_keep|exact n0) (first|(go_at_call 54;refine HTO.o.m ?_;rintro e w2 ⟨rfl,hb2⟩;have n0:=(hb2.cell (p:=⟨y,0,none⟩) hyl).t hc;have B1:=I hb2;clear hb2)|(go_at_call 182;refine (BQ fs x _ (HF.o.next ((aM _ _).drew.t B1.o))).m ?_;rintro e w3 ⟨vo,rfl,ho3,hb3⟩;have n0:=(hb3.cell (p:=⟨y,0,none⟩) (bG hyl B1.o.size)).t n0;have B2:=I hb3;have B3:=I ho3;clear hb3 ho3))
 all_goals go_wp2_with fail
 all_goals refine aK (v:=.tuple #[vo,zI 0,zG x]) zK rfl ?_
 all_goals exact ⟨vo,rfl,dU.nj B3.o HIL.o,λq hq=>⟨bf B1.o.size (fJ B3.o q hq).1,(fJ B3.o q hq).2⟩,((aM _ _).drew.t B1.o).t (B2.o.m B1.o.size)⟩):p:=h
def Ww (h:p:=by
 subst et;clear ht gM;have yy:(v.1 == 2)=false:=sG;clear hv2;apply I;go_wp2_with (go_at_call 210;refine mo (dC v H2.o.at_) ?_;rintro e w3 ⟨rfl,hb3⟩);have H3:=I (H2.o.next hb3);clear hb3 r0 r1 gK gL eP x0 x1 i6 i7 ja;obtain ⟨⟨⟨r0,r1⟩,⟨gK,gL⟩,eP⟩,⟨x0,x1⟩,⟨i6,i7⟩,ja⟩:=H3.o.rows
 try rw [hst]
 apply I;go_wp2_with (go_at_call 211;refine mo (mR _ _) ?_;rintro e w4 ⟨rfl,hb4⟩);have H4:=I (H3.o.next hb4);clear hb4 r0 r1 gK gL eP x0 x1 i6 i7 ja;obtain ⟨⟨⟨r0,r1⟩,⟨gK,gL⟩,eP⟩,⟨x0,x1⟩,⟨i6,i7⟩,ja⟩:=H4.o.rows;apply I;go_wp2_with fail;refine aK (v:=gH (cL 2)) SP rfl ?_;exact ⟨rfl,H4.o.o _ _⟩):p:=h
def Mu (h:p:=by go_wp2_with (go_at_call 258;refine mo (HFa.o 2 _) ?_;rintro e w5 ⟨rfl,rG⟩);clear k0 k1 f0 f1;obtain ⟨⟨⟨k0,k1⟩,⟨f0,f1⟩,hs5⟩,zL⟩:=iL.o (3,2) _ rG;have HE:=I zL;clear zL rG;apply I;go_wp2;refine aK (v:=.agg #[zI 3,zI 2]) Js rfl ?_;rw [HU.o];exact HE.o):p:=h
def Wx (h:p:=by
 go_region_with (first|(go_at_call 243;refine Jt.o.m ?_;rintro e w1 ⟨rfl,hb1⟩;have B1:=I hb1;clear hb1)|(go_at_call 243;refine HCB.o.m ?_;rintro e w1 ⟨rfl,hb1,hF⟩;obtain ⟨⟨y0,y1⟩,⟨z0,z1⟩,hsF⟩:=cq hF;have B1:=I hb1;have B2:=I hF;clear hb1 hF))
 all_goals (go_wp2_with fail;go_meet;first|exact ⟨_,rfl,B1.o.size,B1.o.alloc B1.o.size _,bL _ _⟩|exact ⟨_,rfl,aG _,(B1.o.setCell (p:=⟨W4.heap.size,0,none⟩) (aG _) _).setCell (p:=⟨W4.heap.size,1,none⟩) (aG _) _,yC B2.o _ _⟩)):p:=h
def Wy (h:p:=by
 apply I;go_wp2_with (go_at_call 38;refine mo Wz.o ?_;rintro r w2 ⟨rfl,m2,D7,yA⟩;have Wq:=I (And.intro D7 yA);clear D7 yA);have Jq:=I (Wq.o.2.looks Gh.o.2.2);clear Wz d0 d1 d2;apply I;go_wp2_with (go_at_call 39;refine mo Jq.o ?_;rintro r w3 ⟨rfl,hb3⟩;have Jr:=I hb3;clear hb3);apply I;go_wp2_with fail;go_roundg (len - (k+1))
 case measure=>exact eQ.o.2.1
 case rel=>exact Ws):p:=h
def WA (h:p:=by
 have HTR:=I (SS.o.1 rfl);have HJ0:=I (cU HJL.o);generalize bj[j]'HJL.o=bjj at HJ0 r0;cases bjj with
 | true=>
  go_wp2_with fail;go_roundg (G fs - (j+1))
  case measure=>exact eQ.o.2.1
  case rel=>exact ⟨j+1,bj,mj,eQ.o.2.2,eQ.o.1,aq,rfl,D8,I (HD.o.same λ_=>HJ0.o)⟩
 | false=>
  go_wp2_with fail;go_roundg (G fs - (j+1))
  case measure=>exact eQ.o.2.1
  case rel=>exact ⟨j+1,_,true,eQ.o.2.2,eQ.o.1,aq,rfl,I (D8.o.mark HTR.o (HV.o)),I (HD.o.set HJ0.o)⟩):p:=h
def WB (h:p:=by
 have akp:=tv t;clear hcm nN;go_wp2_with (first|(go_at_call 77;refine (xz t kq ⟨wr.heap.size,0,none⟩ 9 _ ai (λj h=>fh wr kq 9 j h)).m ?_;rintro e w' ⟨rfl,rfl⟩)|(go_at_call 78;refine (EC q _ HQ.o).m ?_;rintro e w2 ⟨rfl,hb2⟩)|(go_at_call 79;refine (Jm t _ ae).m ?_;rintro e w' ⟨rfl,rfl⟩));go_roundw
 case rel=>exact Wh
 case measure=>simp [intOf];omega):p:=h
def WC (h:p:=by
 clear hst;cases ho
 all_goals
  go_wp2_with fail
  go_quiet (fail)
  go_wp2_with fail
  go_quiet (fail)
  go_wp2_with fail;go_roundg (G ts - (j+1))
  case measure=>exact eQ.o.2.1
  case rel=>exact ⟨j+1,_,eQ.o.2.2,HD.o,eQ.o.1,eL (Value.int .i64) (‹Hid (((oN _ _:Nat):Int)=_)›).o.symm,I ⟨(HI.o.1.next (lG (aM _ _) _)).Q7 (j+1),(HI.o.2.1.next (lG (aM _ _) _) hsz).t (Kp.here _ 1 _),HX.o⟩⟩):p:=h
def WD (h:p:=by
 clear hk q0;go_wp2_with fail
 go_region_with (first|(go_at_call 243;refine (SU.o _ ((aM _ _).drew)).m ?_;rintro e w2 ⟨rfl,hb2⟩;obtain ⟨⟨m0,m1⟩,⟨n0,n1⟩,hsm⟩:=akt.o _ ((aM _ _).drew.t hb2);have B3:=I ((aM wc.heap.size wc).drew.t hb2);clear hb2))
 all_goals go_wp2
 all_goals refine aK (v:=.agg #[zI (aP 2 (v 1)).1,zI (aP 2 (v 1)).2]) ahz rfl ?_
 all_goals exact iL.o _ B3.o):p:=h
def wI (h:p:=by go_in;go_wp2_with fail;go_ret;exact ⟨w.heap.size,1,rfl,HR.o,bI _ _⟩):p:=h
def WE (h:p:=by
 go_in;go_wp2_with (go_at_call 248;refine (HC.o _).m ?_;rintro e w1 ⟨rfl,rfl⟩);go_loopg [27] 0 (λ_ s wr=>s=zI 0/\wr=(w.alloc (.cells #[zI 2,zG Gi,zI n,zN] 87)).alloc (.cells #[zI 0,zG [],zI 0,zN] 87))
 case atStart=>exact ⟨rfl,rfl⟩
 case round=>
  obtain ⟨rfl,rfl⟩:=hrel;go_wp2;refine aK (v:=.agg #[zI 2,zG Gi,zI n,zN]) WG rfl ?_;exact ⟨rfl,aY w _ _⟩):p:=h
def tz (h:p:=by exact ⟨rfl,(aM _ _).alloc (aG _) _⟩):p:=h
def WH (h:p:=by simp only [eb,bQ,jA,iK,mI] at h;rcases h with ⟨rfl,rfl⟩|⟨rfl,rfl⟩|⟨rfl,rfl⟩|⟨rfl,rfl⟩|⟨rfl,rfl⟩|⟨rfl,rfl⟩|⟨rfl,rfl⟩|⟨rfl,rfl⟩|⟨rfl,rfl⟩|⟨rfl,rfl⟩|⟨rfl,rfl⟩|⟨rfl,rfl⟩|⟨rfl,rfl⟩|⟨rfl,rfl⟩|⟨rfl,rfl⟩|⟨rfl,rfl⟩<;>first|decide|omega):p:=h
def WI (h:p:=by simp only [eb,bQ,jA,iK,mI] at h;rcases h with ⟨rfl,rfl⟩|⟨rfl,rfl⟩|⟨rfl,rfl⟩|⟨rfl,rfl⟩|⟨rfl,rfl⟩|⟨rfl,rfl⟩|⟨rfl,rfl⟩|⟨rfl,rfl⟩|⟨rfl,rfl⟩|⟨rfl,rfl⟩|⟨rfl,rfl⟩|⟨rfl,rfl⟩|⟨rfl,rfl⟩|⟨rfl,rfl⟩|⟨rfl,rfl⟩|⟨rfl,rfl⟩<;>first|rfl|omega):p:=h
def Gj (h:p:=by go_wp2;refine aK (v:=.agg #[zI fk,zI fn]) aku rfl ?_;exact WJ):p:=h
def BR (h:p:=by
 rcases h.tok with h|h
 ·rw [h];decide
 ·revert h;generalize aw ts j=t;revert t;decide):p:=h
def WK (h:p:=by
 go_in;go_wp2_with (first|(go_at_call 53;refine (HR.o _).m ?_;rintro e w1 ⟨v,rfl,hown,hb1⟩;rw [HTS.o] at hown)|(go_at_call 54;refine (Q8 ts _ _ _ hown ae HGL.o).m ?_;rintro e w2 ⟨rfl,hb2⟩))
 go_ret3
 exact ⟨rfl,((bZ _).t (hb1.m aq)).t (hb2.m vM)⟩):p:=h
def WL (h:p:=by have tA:=eH AG;obtain rfl:k=len:=lT hk AG;have HE2:=I (HEN.o n m wr HP.o.2.2 HP.o.1 (WM HP.o.2.1 hk SV.o).2.1);go_wp2_with (go_at_call 40;refine HE2.o.m ?_;rintro r w3 ⟨rfl,n3,wJ⟩;have HP3:=I wJ;clear wJ);go_ret;exact ⟨rfl,HP3.o.low⟩):p:=h
def WN (h:p:=by
 generalize eF (G s) ts (1+j)=pos at *;go_wp2_with fail
 go_region
 all_goals go_wp2
 all_goals refine aK (v:=.tuple #[.agg #[zI vb,zN,zI 0,zG [],zI 0,zN],zI 3,zI pos]) agq rfl ?_
 all_goals exact ⟨_,HR.o,rfl,(kU HI.o.bS _ ae _ _ _ _ _ _).drew⟩):p:=h
def Mv (h:p:=by exact ⟨j+1,eQ.o.2.2,eQ.o.1,aq,eL (Value.int .i64) HX.o,rfl⟩):p:=h
def WO (h:p:=by
 go_wp2_with fail;go_roundg (G fin - (i+1))
 case measure=>exact WQ.o.2.1
 case rel=>exact ⟨i+1,WQ.o.2.2,WQ.o.1,ez,HN⟩):p:=h
def Mw (h:p:=by
 refine ⟨j+1,ae,ez,λi h hi=>?_⟩;rcases cC i j with h1|h1
 ·exact HN.o i h h1
 ·obtain rfl:i=j:=ae;exact HE.o):p:=h
def My (h:p:=by simp [Value.cells] at hc;obtain ⟨rfl,rfl,rfl⟩:=hc;exact ⟨none,0,0,λ_=>0,λ_=>0,λ_=>[],rfl,bE _,λj hj=>ae⟩):p:=h
def Gk (h:p:=by exact ⟨rfl,(wK.o.ep w.heap.size _ _ _ _ hs).next (bZ _),oO.next (bZ _) BU⟩):p:=h
def Mz (h:p:=by refine ⟨hgr.os,hgr.tape,hgr.output,ae,λq hq hn=>?_⟩;rw [hgr.block q aN (λh=>hn h.symm),cj _ _ _ hq]):p:=h
def MA (h:p:=by rw [hop] at c4;clear h hr hf hs;go_in;go_wp2_with fail;go_ret;exact ⟨vb,va,rfl,HH.o,Ks.refl _ _,λq hq=>Or.inl hq⟩):p:=h
def WR (h:p:=by
 simp only [rj,List.reverse_cons,List.reverse_nil,ko,vL];refine ⟨BV us σ k1 h.gs.sub,?_,?_,?_⟩
 ·rw [lV,h.fs]
 ·rw [lV];exact h.gs
 ·rw [lV];exact h3):p:=h
def WT (h:p:=by
 rcases HO2.o with e'|⟨g',e',hg'⟩
 ·rw [e'] at hq;exact hzz▸MB.o q hq
 ·rw [e'] at hq;rw [<- dp hq];exact bf (bf (jD hzz.symm) vA.o.size) (bf (bI w1 _).size hg')):p:=h
def yD (h:p:=by rw [h0] at ee;exact absurd ee (pH j)):p:=h
def WU (h:p:=by
 rcases h.2 with ⟨rfl,h0⟩|⟨g,cap,cur,rfl,h1,h2,h3⟩
 ·exact MC
 ·exact ⟨h.1,Or.inr ⟨g,cap,cur,rfl,h1,(hk.block g (cz.1 h2).1 (hP g rfl)).t h2,h3⟩⟩):p:=h
def MD (h:p:=by rcases (show o=0\/o=1\/o=2\/o=3\/o=4\/o=5\/o=6\/o=7 from ae) with h|h|h|h|h|h|h|h<;>subst h<;>decide +kernel):p:=h
def WV (h:p:=by
 have SI:=I (HT.o.t ahA);have agr:((s[k].toNat:Int) == 32)=true:=by simp [hsp]
 clear hsp;go_wp2;go_roundw
 case rel=>exact ⟨k+1,f,ts,ae,ae,ez,hown,hb,ae,SI⟩
 case measure=>simp [intOf];omega):p:=h
def wL (h:p:=by exact ⟨j+1,eQ.o.2.2,eQ.o.1,aq,HN⟩):p:=h
def tB (h:p:=by exact absurd (h1.symm.t g1) ai):p:=h
def WW (h:p:=by have e:bB [x]=[x]:=WX;refine ⟨[x],aq,λy hy=>ahB,λrest hr=>⟨Or.inr ⟨hx.ti h32,λ_=>WY⟩,trivial⟩,?_,ht,aG _⟩;rw [e];exact .atom (ts:=z0 [x]) 0 k (by simp [z0]) hc hk):p:=h
def WZ (h:p:=by
 apply I;go_wp2_with fail;go_roundg (len - (k+1))
 case measure=>exact eQ.o.2.1
 case rel=>exact ⟨k+1,m,n,eQ.o.2.2,eQ.o.1,aq,I ⟨HP.o.1,Nat.le_succ_of_le HP.o.2.1,HP.o.2.2.next xB.o⟩⟩):p:=h
def W5 (h:p:=by
 go_wp2
 go_ret3
 have:=oP.o;simp at this;subst this;exact ⟨_,rfl,iL.o,hb1.t (hbr.m hs1)⟩):p:=h
def W6 (h:p:=by
 refine ⟨⟨?_,h.blk,h.lt,h.cap,h.many,h.W7,λj hj=>?_⟩,hk⟩
 ·rw [aj h.own];rfl
 ·exact W8):p:=h
def ME (h:p:=by
 intro n hn;rcases (by omega:n=0\/n=1\/n=2) with rfl|rfl|rfl
 ·exact g2
 ·exact g3
 ·exact g5):p:=h
def MG (h:p:=by
 rcases (D9 n q).1 hq with ⟨rfl,rfl⟩|⟨_,hq⟩
 ·exact ⟨hp,hl,hx⟩
 ·exact hr.np hq):p:=h
def W9 (h:p:=by intro x hx;simp only [aQ,bQ,jA,iK] at hx;rcases hx with rfl|rfl|rfl|rfl|rfl|rfl|rfl|rfl|rfl|rfl|rfl|rfl<;>exact ⟨_,_,rfl,ai,ai⟩):p:=h
def Xa (h:p:=by exact ⟨(bq w g 0 _ _ _ hb).t rfl,(bq w g 1 _ _ _ hb).t rfl,(bq w g 2 _ _ _ hb).t rfl,(bq w g 3 _ _ _ hb).t rfl⟩):p:=h
def Xb (h:p:=by obtain ⟨g,cap,hv,_,_⟩:=ho.form ae;simp at hv;obtain ⟨rfl,rfl⟩:=hv;refine ⟨g,0,rfl,Or.inr ⟨0,rfl⟩,?_⟩;rw [cS,ho.cellAt j ae];simp [cA,hj]):p:=h
def Xc (h:p:=by clear h;go_in;go_wp2_with (go_at_call 124;refine HU.o.m ?_;rintro e w1 ⟨SX,va',rfl,Xd⟩;have HX:=I Xd;clear Xd);go_ret;exact ⟨SX,va',rfl,HX.o⟩):p:=h
def MH (h:p:=by exact ⟨0,bE _,jD (cS _).symm,rfl,I (aM _ _)⟩):p:=h
def MI (h:p:=by go_in;go_wp2_with fail;go_ret;exact ⟨rfl,(aM _ _).alloc (aG _) _⟩):p:=h
def Mk (h:p:=by
 go_wp2_with (go_at_call 186;refine mo (BW (HI.o.inc (P 0+1)).s.at_ HPL.o) ?_;rintro e w7 ⟨rfl,BD,BF⟩);have H7:=I ((HI.o.inc (P 0+1)).call BF BD);clear BF BD HI r0 r1 gK gL eP x0 x1 i6 i7 ja y0 y1 DZ D1 D2;clear k0 k1 k2 k3 f0 f1 f2 f3 hsz;obtain ⟨⟨⟨⟨r0,r1⟩,⟨gK,gL⟩,eP⟩,⟨x0,x1⟩,⟨i6,i7⟩,ja⟩,⟨y0,y1⟩,⟨DZ,D1⟩,D2⟩:=H7.o.rows;apply I;go_wp2_with fail;go_roundg (2 - 1)
 case measure=>exact F7.o.1
 case rel=>exact ⟨1,ai,F7.o.2,rfl,I ags⟩):p:=h
def Ml (h:p:=by
 go_wp2_with (go_at_call 186;refine mo (BW (HI.o.inc (P 1+1)).s.at_ HPL.o) ?_;rintro e w7 ⟨rfl,BD,BF⟩);have H7:=I ((HI.o.inc (P 1+1)).call BF BD);clear BF BD HI r0 r1 gK gL eP x0 x1 i6 i7 ja y0 y1 DZ D1 D2;clear k0 k1 k2 k3 f0 f1 f2 f3 hsz;obtain ⟨⟨⟨⟨r0,r1⟩,⟨gK,gL⟩,eP⟩,⟨x0,x1⟩,⟨i6,i7⟩,ja⟩,⟨y0,y1⟩,⟨DZ,D1⟩,D2⟩:=H7.o.rows;apply I;go_wp2_with fail;go_roundg (2 - 2)
 case measure=>exact F7.o.1
 case rel=>exact ⟨2,ai,F7.o.2,rfl,I ags⟩):p:=h
def Wl (h:p:=by
 clear hcm nN;go_wp2_with (go_at_call 77;refine (xz t kq ⟨wr.heap.size,0,none⟩ 9 _ ai (λj h=>fh wr kq 9 j h)).m ?_;rintro e w' ⟨rfl,rfl⟩);go_roundw
 case rel=>exact ⟨0+1,ae,ez,Wm,(hb.alloc hsz _)⟩
 case measure=>simp [intOf];omega):p:=h
def Xe (h:p:=by
 subst Jv;go_wp2_with (go_at_call 37;refine mo HC.o ?_;rintro e w3 ⟨rfl,rfl⟩);apply I;go_wp2_with fail;go_roundg (G ds - (j+1))
 case measure=>exact eQ.o.2.1
 case rel=>exact Mv):p:=h
def MJ (h:p:=by have h1:=MK x;have h2:=Gb r;simp only [Rows.uptoBulkAll,gS];omega):p:=h
def ML (h:p:=by rw [List.drop_left,show l+1 - G L=(l - G L)+1 from ae,yn]):p:=h
def MM (h:p:=by have hop:=h.op;rw [hg] at hop;rw [aB (show d.op=true from hop)];exact ⟨rfl,h⟩):p:=h
def MN (h:p:=by
 rw [hsp];simp at hg ⊢;rcases hg with h|h
 ·exact Or.inl h
 ·exact Or.inr (Or.inr h)):p:=h
def MO (h:p:=by rw [nu (a:=⟨g,0,none⟩) (hW.block g xE)];simpa [strs] using hc):p:=h
def Xf (h:p:=by
 rcases hn with rfl|rfl|rfl|rfl|rfl
 ·exact key 80 (some 114)
 ·exact key 84 (some 112)
 ·exact key 83 none
 ·exact key 77 (some 115)
 ·exact key 65 (some 109)):p:=h
def MP (h:p:=by have:=eL (·[0]?) hs;simpa [sX,qz] using this):p:=h
def MQ (h:p:=by have:=eL (·[0]?) hz;simpa [sX,qz] using this):p:=h
def MR (h:p:=by rintro r w' ⟨rfl,hb⟩;exact ⟨none,0,0,rfl,rfl,eW _ _ _ _,hb⟩):p:=h
def Xg (h:p:=by rw [hop] at c4;clear h hr hf hs SY oQ AH has xD Ea;rw [HE.o];go_in;go_wp2_with fail;go_ret;exact ⟨_,_,rfl,HH.o,Ks.refl _ _,λq hq=>Or.inl hq⟩):p:=h
def Xh (h:p:=by intro S o hs;refine (Bl.one (bP ht aq) (λho hS=>?_) MS MS).t (ih S o hs);rw [ht] at hS;rcases hs ho _ hS with h|h|⟨h,_⟩<;>cases h):p:=h
def MT (h:p:=by
 cases d with
 | lit l=>cases l<;>simp [Rows.uptoBulk]
 | _=>simp [Rows.uptoBulk]):p:=h
def MU (h:p:=by
 split at h
 ·cases h
 ·rename_i u' e';rw [ihb u' e'];exact dp h):p:=h
def Xi (h:p:=by
 rcases (show i=0\/i=1\/i=2\/i=3 from zM) with rfl|rfl|rfl|rfl
 ·exact ⟨r0,p0⟩
 ·exact ⟨r1,p1⟩
 ·exact ⟨r2,p2⟩
 ·exact ⟨r3,p3⟩):p:=h
def Xj (h:p:=by go_in;go_wp2_with (go_at_call 238;refine HCF.o.m ?_;rintro e w1 ⟨rfl,hb1⟩);go_ret;exact ⟨HE.o,(aY w _ _).t (hb1.m aN)⟩):p:=h
def BZ (h:p:=by rw [h3] at hq;simp [Value.ownBlock] at hq):p:=h
def MV (h:p:=by go_in;go_wp2_with fail;go_ret;exact ⟨w.heap.size,2,rfl,HR.o,bI _ _⟩):p:=h
def Xk (h:p:=by
 clear hx Xl;generalize aJ[j]=y at *;go_wp2_with fail;go_roundg (G aJ - (j+1))
 case measure=>exact eQ.o.2.1
 case rel=>exact Mv):p:=h
def Xm (h:p:=by intro h;rcases dI kL with ⟨_,h'⟩|⟨_,h'⟩|⟨_,h'|h'⟩|⟨_,h'|h'⟩|⟨_,h'|h'|h'⟩<;>first|omega|(rw [h'] at h;cases h)):p:=h
def Gm (h:p:=by have Gn:=hq.1;have hq2:=hq.2;simp at Gn ⊢;omega):p:=h
def Xn (h:p:=by rw [h3] at hq;simp [Value.ownBlock] at hq;subst hq;obtain ⟨_,o,h5,h6⟩:=hr g e'.symm;rw [h4] at h5;cases h5;simp [Obj.isCells] at h6):p:=h
def Gp (h:p:=by have:=eL List.length hx.1;simp at this;omega):p:=h
def Xo (h:p:=by
 rintro q (h3|h3)
 ·exact Or.inl h3
 ·exact Or.inr (Or.inr (Or.inl h3))):p:=h
def V6 (h:p:=by exact ⟨m++[],j,ll.own Gc.o,rfl,hj,ahE,λy hy=>(cG.1 hy).elim (λh=>Or.inl (HGM.o y h)) (λh=>ir),agt,xB.o⟩):p:=h
def Xp (h:p:=by rw [List.drop_append,nY ae,ko,show l+1 - G L=(l - G L)+1 from ae,List.drop_succ_cons]):p:=h
def Xq (h:p:=by go_wp2;refine aK (v:=.agg #[zI vk,zI vn]) ahH rfl ?_;rw [HV.o];exact ⟨rfl,(dJ HB.o _ ae _ _).alloc aN _⟩):p:=h
def Wa (h:p:=by exact ⟨m++K,j,ll.own Gc.o,rfl,hj,wK.o,λy hy=>(cG.1 hy).elim (λh=>Or.inl (HGM.o y h)) (HAK.o y),agu,xB.o⟩):p:=h
def MW (h:p:=by simp only [Lit.wf,qA,pG] at hw;exact hw):p:=h
def Xr (h:p:=by
 refine ⟨k+1,ae,ez,λj h hj=>?_⟩;rcases cC j k with h1|h1
 ·exact HN.o j h h1
 ·obtain rfl:j=k:=ae;exact HD.o):p:=h
def Xs (h:p:=by have:=hf.bk (G l) aq;rw [lC,qx (aG _)] at this;simpa using this):p:=h
def Xt (h:p:=by rw [cY _ _ _ _ hq,cY _ _ _ _ hq,cY _ _ _ _ hq,cY _ _ _ _ hq]):p:=h
def Xu (h:p:=by show Lib.decDigits (lq 0 c)=[c];rw [Lib.decDigits_one Gq,show lq 0 c=c.toNat - 48 from Gq,zO (hD c aq)]):p:=h
def Xv (h:p:=by have Gn:=hq.1;simp at Gn;rw [tC _ _ _ (by rw [agv];exact hq.2),lx _ _ _ _ _ _ ae,cY _ _ _ _ Xw]):p:=h
def Xx (h:p:=by
 rcases gU.s1 q h6 with (h7|h7)|h7
 ·exact Or.inl (Or.inl (h4 q (Or.inl h7)))
 ·exact Or.inl (Or.inr h7)
 ·exact Or.inr h7):p:=h
def Xy (h:p:=by have:=bL (w.alloc o) (.cells cs t);rw [show (w.alloc o).heap.size=w.heap.size+1 from aq] at this;exact this):p:=h
def Xz (h:p:=by obtain ⟨hi,rfl⟩:=fI.1 h;refine ⟨?_,aN⟩;rw [List.getElem_cons_drop,wa]):p:=h
def Wj (h:p:=by
 try rw [hst]
 apply I;go_wp2_with fail;refine aK (v:=gH v) SP rfl ?_;rw [SN.o];exact ⟨rfl,H3.o.o _ _⟩):p:=h
def XA (h:p:=by rw [B7 ai,ih,gQ (i:=i) (j:=i+1) (k:=j) ae MX];exact ⟨Or.inr,λh=>h.resolve_left (lW ht ai hx)⟩):p:=h
def XB (h:p:=by
 rw [hc];cases j with
 | zero=>simp
 | succ j=>
  have:=ih j jP;rw [show (j+1)*4=j*4+1+1+1+1 from ae];simpa using this):p:=h
def XC (h:p:=by exact ⟨0,bE _,jD (cS _).symm,rfl,I ⟨eW _ _ _ _,aM _ _⟩⟩):p:=h
def MZ (h:p:=by
 rcases hp with hp|hp
 ·have:=hF t hp;omega
 ·exact hTt.2.2 hp):p:=h
def M0 (h:p:=by rintro W j u ⟨h3,h4⟩;exact ⟨B8,h4.set aq ae j u⟩):p:=h
def XD (h:p:=by
 rcases mS hx with ⟨_,h⟩|⟨h,_⟩|⟨_,h⟩|h
 ·omega
 ·exact h
 ·omega
 ·exfalso;revert h;simp [eb]):p:=h
def Gr (h:p:=by rcases hn with rfl|rfl|rfl|rfl|rfl<;>decide):p:=h
def XE (h:p:=by rw [EB,EB,fK,List.map_take,List.map_drop]):p:=h
def XF (h:p:=by rw [show m+1+q=m+q+1 from ae,gT,ow len ts k o i (m+q) (S++K) ho,<- kI,h K q]):p:=h
def XG (h:p:=by exact ⟨0,m1,0,bE _,jD (cS _).symm,rfl,I ⟨SZ.o.1,aG _,SZ.o.2⟩⟩):p:=h
def XH (h:p:=by rw [cj _ _ _ XI];exact S0 ((lx _ _ _ _ _ _ ae).t (B9.blk h.sO ae)) _ _ _ _):p:=h
def XJ (h:p:=by
 gi_wp2
 refine aK (results_none rfl _ _ _) rfl ?_;exact ⟨⟨_,rfl⟩,.inr ⟨_,trivial,agw⟩⟩):p:=h
def Ca (h:p:=by exact Or.inr (Or.inr (Or.inl h1))):p:=h
def XK (h:p:=by
 subst hwd;exact (yE (w:=W) h.lp).m λe w' hr=>by
  obtain ⟨vt,h1,h2,_⟩:=hr;exact ⟨vt,h1,h2⟩):p:=h
def XL (h:p:=by
 rcases dI h with h|h|⟨_,h|h⟩|h|h
 ·omega
 ·omega
 ·rw [h];decide
 ·rw [h];decide
 ·omega
 ·omega):p:=h
def Gs (h:p:=by exact (cz.1 h1).1):p:=h
def FW (h:p:=by go_in;go_wp2;go_ret;exact ⟨M3,rfl⟩):p:=h
def XM (h:p:=by rw [eY ts i hi];have e:(bW (G s) s 0).1=ts:=agx;exact XN (G s) s 0 ts[i].1 ts[i].2 ahJ):p:=h
def XO (h:p:=by
 cases hg:a.dV with
 | none=>exact h
 | some g=>exact ⟨h.dV g hg,h.past,h.jr,(λL e=>iM),h.sum,h.M6⟩):p:=h
def XP (h:p:=by go_in;go_wp2_with (go_at_call 45;refine HN.o.m ?_;rintro e w1 ⟨rfl,rfl⟩);go_ret;exact ⟨rfl,rfl⟩):p:=h
def Ws (h:p:=by exact ⟨k+1,m2,n+1,eQ.o.2.2,eQ.o.1,aq,I ⟨Wq.o.1,Nat.succ_le_succ HP.o.2.1,Wq.o.2.next Jr.o⟩⟩):p:=h
def XQ (h:p:=by obtain ⟨n1,n2,n3⟩:=qD hl.1 (hn 0 M4);have hx1:x=nT ts 1:=M5;exact ⟨ts,hl,hw,n1,Gt⟩):p:=h
def Gu (h:p:=by intro W j u h4;exact h4.set aq ae j u):p:=h
def XR (h:p:=by rw [h3] at h1;simp [Value.ownBlock] at h1;subst h1;rw [h4] at hq;cases hq;simp [Obj.isCells] at ho):p:=h
def XS (h:p:=by refine ⟨bE _,λbn cn _=>?_⟩;exact told_none bn cn hc hf hT XT XT h1 ae ahK):p:=h
def XU (h:p:=by subst e';rw [show (kx σ (.nm q y)).mem q=⟨y,(σ.mem q).p,(σ.mem q).v⟩ from fN _ _ _]):p:=h
def XV (h:p:=by exact ⟨⟨_,rfl⟩,h7.wide λq hq=>h4 q (Or.inr hq),F',h8,λq hq=>(h9 q hq).imp_left (h4 q)⟩):p:=h
def Gv (h:p:=by refine Or.inr ⟨rfl,?_⟩;rw [fO,e]):p:=h
def W8 (h:p:=by rw [hk.bS.cell h.blk,hk.bS.cell h.blk,hk.bS.cell h.blk,hk.bS.cell h.blk];exact h.left j hj):p:=h
def XW (h:p:=by exact ⟨j,v,no,false,jD (Nat.add_sub_cancel' hj).symm,hj,rfl,I ⟨HC.o,HST.o⟩⟩):p:=h
def M7 (h:p:=by exact ⟨g,cG.2 (Or.inl hg),rfl,rfl⟩):p:=h
def XX (h:p:=by
 by_cases h:q=w.heap.size
 ·subst h;exact ⟨aG _,aq⟩
 ·exact absurd (aA h) hq):p:=h
def XY (h:p:=by cases e';obtain ⟨g',o',e',-,-,d1⟩:=fA (HL.o.next hW) ha;cases e';exact ⟨d1,Jw⟩):p:=h
def XZ (h:p:=by rw [show m+1+q=m+q+1 from ae,gT,mU len ts x i (m+q) (S++K) hx ht,h K q]):p:=h
def X1 (h:p:=by have:=sW.1 Eb i at_ ae Jx hlt;simpa [bg.fs,<- xF] using this):p:=h
def X2 (h:p:=by
 rcases hS' q hq with h1|h1
 ·exact bG (h.still q h1) hk.size
 ·exact h1.2):p:=h
def X3 (h:p:=by clear S9 HKN D3 HFI AJ HEE Rb X4 HOW X5 HAT HCT vA Ta HTL;apply I;exact WO):p:=h
def M8 (h:p:=by simp [txt,iP,jO,lL,tD,tE,EF,gu,jn,ht]):p:=h
def X6 (h:p:=by rw [lX,cj _ _ _ aN,cj _ _ _ aq];exact bL w _):p:=h
def X7 (h:p:=by exact ⟨0,G s,[],ae,ae,rfl,eW _ _ _ _,aM _ _,aq,rfl⟩):p:=h
def X8 (h:p:=by exact ⟨i,0,hi,bE _,Nat.le_add_left _ _,rfl,I ⟨HS.o,Kp.refl _ _,rfl⟩⟩):p:=h
def M9 (h:p:=by
 rintro (h1|h1|h1)
 ·exact f1 h1
 ·omega
 ·omega):p:=h
def X9 (h:p:=by have:=Tb.cellAt (G l) aq;rw [this,kn,List.getElem?_range aq];rfl):p:=h
def Ya (h:p:=by simp only [bo];intro h;apply hsp;apply UInt8.toNat_inj.1;simp;omega):p:=h
def Yb (h:p:=by rw [vJ hj];unfold gv;rw [List.filter_append];simp [h]):p:=h
def Yc (h:p:=by obtain ⟨_,o,h1,h2⟩:=hr q e'.symm;rw [hq] at h1;cases h1;simp [Obj.isCells] at h2):p:=h
def Ye (h:p:=by exact ⟨j,v,no,jD (Nat.add_sub_cancel' hj).symm,hj,I ⟨HC.o,HST.o⟩⟩):p:=h
def Na (h:p:=by obtain ⟨_,a,c,e,_⟩:=ho;exact ⟨a,_,c,e⟩):p:=h
def Yf (h:p:=by simp only [bo];intro h;apply hc;apply UInt8.toNat_inj.1;simp;omega):p:=h
def Yg (h:p:=by rw [cj _ _ _ aN,cj _ _ _ aq];exact bL w _):p:=h
def Yh (h:p:=by have:=eL (·[0]?) hu;simpa [sX,qz] using this):p:=h
def Gw (h:p:=by exact Or.inl (Or.inr (Or.inl h1))):p:=h
def FY (h:p:=by go_wp2;go_ret;exact ⟨aq,rfl⟩):p:=h
def Yi (h:p:=by refine sZ.t (List.Perm.t ?_ sZ.symm);rw [e3]):p:=h
def Yj (h:p:=by have:=qE M i hi';rw [cU hi] at this;simpa using this):p:=h
def Yk (h:p:=by have:=ih s (λk h1 h2=>hs k ae h2) hl;rw [show i+s+1=i+1+s from ae];exact this):p:=h
def Yl (h:p:=by
 rcases h2 with h2|h2
 ·exact (HT.o.ob q hq).2.1 h2
 ·exact (HT.o.ob q hq).2.2 h2):p:=h
def Nb (h:p:=by exact ox (jf 78 _ ⟨ai,ai⟩)):p:=h
def Nc (h:p:=by exact ⟨j+1,eQ.o.2.2,eQ.o.1,aq,rfl,HN⟩):p:=h
def Nh (h:p:=by obtain ⟨_,a,c,e,_⟩:=hf;exact ⟨a,c,e⟩):p:=h
def Ym (h:p:=by obtain ⟨m1,m2⟩:=yx.1 hm;exact (hg _ m1).ti (by simpa using m2)):p:=h
def Yn (h:p:=by rcases HX.o.pb.xs.2 with ⟨h1,_⟩|⟨g,cap,cur,h1,_⟩<;>exact ⟨_,_,_,h1⟩):p:=h
def Yo (h:p:=by have:=Jy.own;rw [b6,sA] at this;exact this):p:=h
def Ni (h:p:=by go_wp2_with fail;go_ret;exact ⟨rfl,rfl⟩):p:=h
def Nj (h:p:=by exact ⟨N,cs,(hr.tF hS 4 _).tF hS 5 _⟩):p:=h
def Yp (h:p:=by have:=hf.own;rw [b6,sA] at this;exact this):p:=h
def Nk (h:p:=by exact Or.inl (Or.inr (Or.inr (Or.inl h1)))):p:=h
def Yq (h:p:=by exact ⟨0,bE _,jD (cS _).symm,rfl,rfl,rfl⟩):p:=h
def Nl (h:p:=by refine Or.inl ⟨rfl,?_⟩;rw [fO,e];rfl):p:=h
def Yr (h:p:=by
 intro j u hj
 match j,hj with
 | 0,hj=>simp at hj;subst hj;simp [Addr.add]):p:=h
def VX (h:p:=by
 by_cases h2:n<=122
 all_goals
  go_in;go_wp2;go_ret;exact ⟨M3,rfl⟩):p:=h
def Ys (h:p:=by rw [h3] at hq;simp [Value.ownBlock] at hq;subst hq;exact ⟨_,_,_,h4⟩):p:=h
def Wh (h:p:=by exact ⟨k+1+1,ae,ez,Wm,((hb.alloc hsz _).t (hb2.m aN))⟩):p:=h
def Yt (h:p:=by
 rcases hat with h1|h1
 ·exact Or.inl h1
 ·exact Or.inr ⟨g',rfl,ae⟩):p:=h
def VW (h:p:=by
 by_cases h2:n<=57
 all_goals
  go_in;go_wp2;go_ret;exact ⟨M3,rfl⟩):p:=h
def Yu (h:p:=by rw [e,Yv] at hy;exact List.all_eq_true.1 List.all_takeWhile y hy):p:=h
def Yw (h:p:=by rintro er a' l c w' j u ⟨h1,h2⟩;exact ⟨h1,h2.set aq ae j u⟩):p:=h
def Yx (h:p:=by
 obtain ⟨rfl,hJs⟩:=hrel
 gi_wp2
 go_end0
 exact ⟨⟨_,rfl⟩,hJs⟩):p:=h
def Yy (h:p:=by rw [<- fL (f:=λg:Fd=>g.nm)];exact sZ.map _):p:=h
def Nn (h:p:=by rw [<- hw2];exact bc w1 _ _ _):p:=h
def Np (h:p:=by rw [h1] at hq;cases hq;exact Or.inr h2):p:=h
def Nq (h:p:=by rw [<- hw2];exact fX w1 _ _ _):p:=h
def Yz (h:p:=by rw [Jz.block _ ae,hb1.block _ ae];exact bL w bM):p:=h
def YA (h:p:=by rw [List.find?_cons_of_neg (by simpa using hne)];exact ih hn.2 hg):p:=h
def YB (h:p:=by simp only [e1,e2];rcases hn with rfl|rfl|rfl|rfl|rfl|rfl<;>decide):p:=h
def YC (h:p:=by have hop:=h.op;rw [hg] at hop;rw [aA Cb];exact ⟨rfl,h⟩):p:=h
def YD (h:p:=by
 cases z with
 | nil=>exact absurd rfl hz
 | cons t z=>simp [aC]):p:=h
def YE (h:p:=by
 rcases hS' q h1 with h2|h2
 ·exact hq'.1 h2
 ·have:=hq'.lt;omega):p:=h
def YF (h:p:=by exact ⟨0,bE _,ae,rfl,aM _ _,λi hi h=>ae⟩):p:=h
def YG (h:p:=by have hKb:(K k == 3)=false:=bo.2 hK;exact Wp):p:=h
def YH (h:p:=by rw [fM];exact sB λg hg=>JA g rI):p:=h
def YI (h:p:=by
 split at hq
 ·exact Or.inr ⟨ae,kM⟩
 ·exact absurd rfl hq):p:=h
def YJ (h:p:=by exact ⟨0,bE _,ae,rfl,aM _ _,λi hi=>ae⟩):p:=h
def YK (h:p:=by exact ⟨j2,vb,false,HM.o.2,Jp,I ⟨D6.o,H6.o.put vb⟩⟩):p:=h
def MC (h:p:=by exact ⟨h.1,Or.inl ⟨rfl,h0⟩⟩):p:=h
def YL (h:p:=by rw [lX,cj _ _ _ aq];exact bc w _ _ _):p:=h
def YM (h:p:=by
 rintro q (h1|h1)
 ·exact Or.inl h1
 ·exact Or.inr (Or.inl h1)):p:=h
def YN (h:p:=by refine ⟨rfl,f1,rfl,?_⟩;simp only [JB,wM,hg];exact f2):p:=h
def YO (h:p:=by exact Or.inl (Or.inr (Or.inr (Or.inr (Or.inr (Or.inl h1)))))):p:=h
def YP (h:p:=by exact Or.inl (Or.inr (Or.inr (Or.inr (Or.inr (Or.inr h1)))))):p:=h
def YQ (h:p:=by rw [cU h] at e;exact dp e):p:=h
def YR (h:p:=by
 split
 ·simp
 ·split
  ·rename_i e;exact absurd e hb
  ·simp):p:=h
def Mg (h:p:=by exact ⟨0,ae,rfl,λ_ _ h=>ae⟩):p:=h
def YS (h:p:=by refine (h2.base Rc λq hq=>Or.inl hq).less ?_;exact Xo):p:=h
def YT (h:p:=by
 rw [tj];split
 ·rename_i e;subst e;simp
 ·rfl):p:=h
def YU (h:p:=by
 gi_wp2
 go_end0
 exact ⟨⟨_,rfl⟩,.inl ⟨_,rfl,hJs⟩⟩):p:=h
def YV (h:p:=by exact dS (aZ (aZ agy (bZ _)) hb8) ae):p:=h
def YW (h:p:=by unfold bg.put;congr 1;funext q;by_cases h:q=b<;>simp [h]):p:=h
def YX (h:p:=by injection h1 with _ e2 _;rw [fy] at e2;omega):p:=h
def YY (h:p:=by rw [cj _ _ _ aq];exact bc w _ _ _):p:=h
def YZ (h:p:=by rw [kI,oJ,h (T++K) (n+q),g K q]):p:=h
def Y0 (h:p:=by rw [oJ,h K (n+q),kI,g (L++K) q]):p:=h
def Y1 (h:p:=by
 rcases hat with h2|h2
 ·exact htf (by rw [h2,h1])
 ·omega):p:=h
def Y2 (h:p:=by rw [Gx];have:(G ie)=(G sP):=Y3;rw [this];simp):p:=h
def Y4 (h:p:=by refine h.imp id ?_;generalize aw ts j=t;revert t;decide):p:=h
def Y5 (h:p:=by obtain rfl:i=j:=ae;rw [HF.o] at hf';cases hf';exact hx):p:=h
def Y6 (h:p:=by have hxb:((fj:By) == [63,33])=true:=ai;exact W5):p:=h
def Y7 (h:p:=by have:=yF f r _ _ _ _ _ h;simp at this ⊢;omega):p:=h
def Y8 (h:p:=by obtain rfl:=oy _ _ _ hc hc';exact ⟨rfl,rfl⟩):p:=h
def Y9 (h:p:=by exact lD (lS h2)):p:=h
def Za (h:p:=by have:=(gU.own.lt q hq).1;have:=(hT q hh).2.1;omega):p:=h
def Zb (h:p:=by exact lD (lS hx)):p:=h
def Zc (h:p:=by
 go_wp2_with fail
 go_meet
 exact ⟨j,hj,rfl,rfl,HN⟩):p:=h
def Nr (h:p:=by exact ⟨N,cs,hr.tF hS 4 _⟩):p:=h
def Ns (h:p:=by exact Or.inl ⟨3,_,ai,rfl⟩):p:=h
def Zd (h:p:=by exact cG.2 (Or.inr il)):p:=h
def Ze (h:p:=by exact Or.inl (Or.inr (Or.inr (Or.inr (Or.inl h1))))):p:=h
def WJ (h:p:=by rw [HU.o];exact ⟨rfl,dJ wO.o _ ae _ _⟩):p:=h
def Zf (h:p:=by simp [Value.ownBlock] at hq;subst hq;exact agz h1):p:=h
def Zg (h:p:=by
 rcases hS' e hq with h1|h1
 ·exact h.eS h1
 ·omega):p:=h
def Zh (h:p:=by go_in;go_wp2_with fail;go_ret2;exact ⟨rfl,rfl⟩):p:=h
def Zi (h:p:=by exact (show ∀ x,x∈eb->x.2<20 from ai) _ hm):p:=h
def Zj (h:p:=by exact ⟨rfl,Ks.refl _ _,F,h0,λq hq=>Or.inl hq⟩):p:=h
def Zk (h:p:=by
 split at h
 ·exact xG h
 ·cases h;decide):p:=h
def Zl (h:p:=by go_wp2;go_ret;exact ⟨by rw [<- HS.o];rfl,rfl⟩):p:=h
end
section
variable {p:Prop}
def ae (h:p:=by omega):p:=h
def ai (h:p:=by decide):p:=h
def aq (h:p:=by simp):p:=h
def aD (h:p:=by kernel_rfl):p:=h
def aN (h:p:=by simp;omega):p:=h
def jM (h:p:=by unfold maxLen;omega):p:=h
def gN (h:p:=by simp [go_sem]):p:=h
def vC (h:p:=by show w.heap.size<=w.heap.size+1;omega):p:=h
def SP (h:p:=by simp [results,results185,go_sem,r0,r1]):p:=h
def Q0 (h:p:=by simp [results,results47,go_sem,k0,k1,k2,k3,k4,k5,hsz]):p:=h
def ags (h:p:=by rw [HX1.o,HX2.o,HX3.o];exact H7.o):p:=h
def Zm (h:p:=by as_aux_lemma=>unfold Func.isWrapper;first|(rw [aB (by decide +kernel)];kernel_rfl)|(rw [aA (by decide +kernel)];exact ⟨rfl,rfl⟩)):p:=h
def ez (h:p:=by go_num):p:=h
def nw (h:p:=by simp at hu;subst hu;rfl):p:=h
def pK (h:p:=by simp [Value.ownBlock] at hq):p:=h
def vM (h:p:=by have:=hb1.size;simp at this;omega):p:=h
def jP (h:p:=by simpa using h):p:=h
def zF (h:p:=by simp [results,results263,go_sem,r0,r1]):p:=h
def Q4 (h:p:=by have:=(fJ wG q hq).1;omega):p:=h
def sG (h:p:=by simpa using hv2):p:=h
def Cc (h:p:=by simp only [World.alloc,yi]):p:=h
def zP (h:p:=by simp [results,results259,go_sem,k0,k1]):p:=h
def zK (h:p:=by simp [results,results150,go_sem]):p:=h
def iE (h:p:=by simp [hx]):p:=h
def Wm (h:p:=by rw [HS.o,HP.o];try simp):p:=h
def Ce (h:p:=by rw [h] at kL;exact absurd kL (by decide)):p:=h
def dr (h:p:=by rfl):p:=h
def Js (h:p:=by simp [results,results247,go_sem,k0,k1]):p:=h
def Cf (h:p:=by simp [results,results232,go_sem,r0,r1]):p:=h
def vN (h:p:=by have:=hb1.size;simp;omega):p:=h
def zQ (h:p:=by simp [results,results36,go_sem]):p:=h
def vO (h:p:=by simp [Pt.kids] at hj;omega):p:=h
def kM (h:p:=by assumption):p:=h
def ir (h:p:=by cases h):p:=h
def agA (h:p:=by have:=bL (w2.alloc (.cells #[zI k',zI tp,zG tx,zI tn] 134)) (.cells #[zI 0,zG [],zI 0,zN] 87);simpa using this):p:=h
def oT (h:p:=by simpa using hj):p:=h
def EG (h:p:=by simp [results,results220,go_sem,k0,k1]):p:=h
def xH (h:p:=by as_aux_lemma=>kernel_rfl):p:=h
def Re (h:p:=by simp [results,results20,go_sem,k0,k1,k2,k3,k4,k5,hsz,hne]):p:=h
def zM (h:p:=by simp at hi;omega):p:=h
def BU (h:p:=by have:=oO.size;omega):p:=h
def JC (h:p:=by simp [results,results93,go_sem,k0,k1,k2,k3]):p:=h
def Zn (h:p:=by as_aux_lemma=>rw [OpenClaim.pre_eq_preRow];exact lifted os started H enc F):p:=h
def Rf (h:p:=by have:=HN.o i (by simp at hi;omega) Zo;simpa using this):p:=h
def Rg (h:p:=by simp [results,results64,go_sem,q0,q1,q2,q3,q4,q5,JD]):p:=h
def iM (h:p:=by cases e):p:=h
def Wf (h:p:=by have:=HLEN.o;rw [b6];omega):p:=h
def Rh (h:p:=by simp [results,results128,go_sem,k0,k1,k2,k3,oU]):p:=h
def JE (h:p:=by simp [results,results220,go_sem,m0,m1]):p:=h
def zR (h:p:=by rw [kP];omega):p:=h
def Ri (h:p:=by simp [aR,txt,iP,jO,lL,tD,tE,EF,gu,jn]):p:=h
def Rj (h:p:=by simp [results,results129,go_sem,k0,k1,k2,k3,hsz]):p:=h
def agB (h:p:=by have:=fT (G s) s 0;rw [show bW (G s) s 0=(ts,none) from ht] at this;exact this):p:=h
def agC (h:p:=by first|exact aM _ _|exact (aM _ _).alloc (aG _) _|exact aY _ _ _):p:=h
def Q5 (h:p:=by rw [Addr.add_add,mP]):p:=h
def agp (h:p:=by have:=HLEN.o;rw [b6,b6];omega):p:=h
def tG (h:p:=by simpa using hi):p:=h
def ago (h:p:=by have:=gI wr _ h;omega):p:=h
def tH (h:p:=by simpa using hg):p:=h
def akk (h:p:=by have:=SL.o.call (s:=txt q) Gd Ge;rw [HSU.o,aB trivial,iq];exact this):p:=h
def tI (h:p:=by simpa using h2):p:=h
def pL (h:p:=by rw [e];simp):p:=h
def agt (h:p:=by rw [b6];simp;omega):p:=h
def Rk (h:p:=by rw [HR.o,HT.o,ext_eq,mP 1 k];rfl):p:=h
def agq (h:p:=by simp [results,results64,go_sem,k0,k1,k2,k3,k4,k5,Cg]):p:=h
def Zp (h:p:=by simp [results,results97,go_sem,k0,k1,k2,k3,k4,k5,hsz]):p:=h
def Zq (h:p:=by simp [results,results46,go_sem,q0,q1,q2,q3,q4,q5,JD]):p:=h
def Y3 (h:p:=by rw [Gx,hn] at oQ;simp at oQ;exact oQ):p:=h
def Rl (h:p:=by decide +kernel):p:=h
def aku (h:p:=by simp [results,results245,go_sem,k0,k1]):p:=h
def Zr (h:p:=by simp [results,results70,go_sem,F0,F1,F2,F3,F4,F5]):p:=h
def vP (h:p:=by simpa using h1):p:=h
def agD (h:p:=by rw [cU hj,cU hb];simpa using h):p:=h
def Zs (h:p:=by have:=h.X0;rw [show X=k from e.symm] at this;omega):p:=h
def Zt (h:p:=by simp [results,results159,go_sem,k0,k1,k2,k3,hsz]):p:=h
def agu (h:p:=by rw [b6];omega):p:=h
def JF (h:p:=by rw [fy];exact hi):p:=h
def agE (h:p:=by unfold dK;rw [aA (λe=>h2 e.2),aB (λe=>h2 (e.1.t e.2.symm))]):p:=h
def Zu (h:p:=by show W4.heap.size<=(W4.alloc _).heap.size;simp):p:=h
def JG (h:p:=by rw [mG];omega):p:=h
def ako (h:p:=by have:=HLEN.o;have:=BM p (G p.kids);rw [b6];omega):p:=h
def Zv (h:p:=by show W4.heap.size<(W4.alloc _).heap.size;simp):p:=h
def Rm (h:p:=by simp [results,results135,go_sem]):p:=h
def Rn (h:p:=by simp [results,results101,go_sem]):p:=h
def Ci (h:p:=by have:=hF _ hp;omega):p:=h
def Ro (h:p:=by have:=h.low;have:=h.rd.blk;omega):p:=h
def JH (h:p:=by rw [D8.o.so.1];exact AK):p:=h
def agF (h:p:=by unfold strs;rw [kn,cU hj];rfl):p:=h
def agx (h:p:=by rw [show bW (G s) s 0=(ts,none) from ht]):p:=h
def akn (h:p:=by have:=Jk.o.call (s:=txt q) hB6 hO6;rw [HSU.o,aA h0];exact this):p:=h
def pI (h:p:=by cases hq):p:=h
def EH (h:p:=by unfold qF;rw [e1,e2]):p:=h
def Zw (h:p:=by simp at hu;rcases hu with rfl|rfl|rfl<;>rfl):p:=h
def Zx (h:p:=by show w.heap.size+1≠w.heap.size+1+1;omega):p:=h
def Rq (h:p:=by have:=hb1.size;simpa using this):p:=h
def Zy (h:p:=by have:=xI s;rw [ht] at this;exact this):p:=h
def Zz (h:p:=by show w.heap.size<=w.heap.size+1+1;omega):p:=h
def ZA (h:p:=by simp [results,results264,go_sem,r0,r1]):p:=h
def ZB (h:p:=by simp [results,results255,go_sem,r0,r1]):p:=h
def Nv (h:p:=by simp [results,results261,go_sem,r0,r1]):p:=h
def ZC (h:p:=by have:=hn (i+1) (by omega);rwa [show s+1+i=s+(i+1) by omega]):p:=h
def tJ (h:p:=by simpa using hx):p:=h
def rI (h:p:=by simp [hg]):p:=h
def Gy (h:p:=by simp [Value.ownBlock] at h1):p:=h
def Gz (h:p:=by rw [eA];exact Nw):p:=h
def GA (h:p:=by rw [eA];exact Nx):p:=h
def Gq (h:p:=by unfold lq;omega):p:=h
def GC (h:p:=by show w.heap.size<gW+1;omega):p:=h
def wP (h:p:=by subst h;decide):p:=h
def ahu (h:p:=by rw [HJ.o,aA ZE.o,aA (by have:=HB.o;omega)];go_num):p:=h
def rJ (h:p:=by rw [h1];rfl):p:=h
def ahr (h:p:=by unfold cM;rw [aA (by simp [tK])];simp [hcm,nN]):p:=h
def Gt (h:p:=by rw [hx1];exact n2.symm):p:=h
def Cj (h:p:=by rw [h.pl.len];exact hi):p:=h
def Ck (h:p:=by rw [hs] at h;cases h.1):p:=h
def ZF (h:p:=by rcases hn with rfl|rfl|rfl|rfl|rfl<;>revert x<;>decide):p:=h
def tL (h:p:=by simp [bg.fs]):p:=h
def GD (h:p:=by rw [IntKind.wrap_i64];omega):p:=h
def GG (h:p:=by show w.heap.size<=g;omega):p:=h
def Ny (h:p:=by simpa using Array.mem_of_getElem? ht):p:=h
def Nz (h:p:=by simp [results,results90,go_sem,hc]):p:=h
def NA (h:p:=by simp [results,results60,go_sem,hc]):p:=h
def oV (h:p:=by simp at h):p:=h
def ZG (h:p:=by simp only [fp,World.alloc,yi]):p:=h
def ZH (h:p:=by have:=hcx;simp only [gS] at this ⊢;omega):p:=h
def oW (h:p:=by simp [hk]):p:=h
def Cl (h:p:=by simp only [opn];omega):p:=h
def B8 (h:p:=by simpa using h3):p:=h
def GH (h:p:=by rw [Ji,Ji];exact hab):p:=h
def yG (h:p:=by simp [aC,hz]):p:=h
def ahp (h:p:=by unfold cM;rw [aA (by simp [tK])];simp [hcm]):p:=h
def ahq (h:p:=by unfold cM;rw [aA (by simp [tK])];simp [nN]):p:=h
def NB (h:p:=by unfold aP;rw [aA (by omega)]):p:=h
def yH (h:p:=by simp [aC,hx]):p:=h
def ZI (h:p:=by rw [<- hj];exact (List.takeWhile_prefix _).length_le):p:=h
def NC (h:p:=by have:=hW.size;simp at this;omega):p:=h
def ND (h:p:=by simp [results,results133,go_sem]):p:=h
def NG (h:p:=by simp [results,results116,go_sem]):p:=h
def WG (h:p:=by simp [results,results222,go_sem]):p:=h
def NH (h:p:=by simp [results,results215,go_sem]):p:=h
def M3 (h:p:=by simp<;>omega):p:=h
def tM (h:p:=by simp [dK]):p:=h
def ZJ (h:p:=by simp [Value.ownBlock] at hq;subst hq;exact Rs h1):p:=h
def NI (h:p:=by simp [results,results98,go_sem]):p:=h
def ZK (h:p:=by simp [results,results43,go_sem,k0,k1,k2,k3,Cm]):p:=h
def ZL (h:p:=by simp [results,results93,go_sem,k0,k1,k2,k3,oU]):p:=h
def ZM (h:p:=by simp [Value.ownBlock] at hq;subst hq;exact htf h1):p:=h
def ZN (h:p:=by simp [results,results61,go_sem,k0,k1,k2,k3,hsz]):p:=h
def GJ (h:p:=by rw [jg];exact ht):p:=h
def NJ (h:p:=by rw [show q=b from hq];exact hb):p:=h
def yI (h:p:=by simpa using hD):p:=h
def aho (h:p:=by have:=Jk.o.bu;rw [<- ad1] at this;exact this):p:=h
def Cb (h:p:=by rw [hop];simp):p:=h
def yJ (h:p:=by rw [h];decide):p:=h
def ZO (h:p:=by simp at hu;rcases hu with rfl|rfl|rfl|rfl<;>rfl):p:=h
def yK (h:p:=by simp [iQ,hf]):p:=h
def Cn (h:p:=by rw [h1];exact g1):p:=h
def Co (h:p:=by rw [h2];exact h1):p:=h
def ZP (h:p:=by simp [results,results200,go_sem,k0,k1,k2,k3]):p:=h
def ZQ (h:p:=by simp [results,results159,go_sem,k0,k1,k2,k3]):p:=h
def ZR (h:p:=by simp [results,results159,go_sem,y0,y1,y2,y3]):p:=h
def ZT (h:p:=by simp [results,results129,go_sem,k0,k1,k2,k3]):p:=h
def NK (h:p:=by rw [<- hw2];exact aY _ _ _):p:=h
def ZU (h:p:=by rw [HJ.o,aA (by have:=H6.o;omega)];go_num):p:=h
def ZV (h:p:=by simp [txt,iP,jO,lL,tD,tE,EF,gu,jn]):p:=h
def ZW (h:p:=by simp [results,results62,go_sem,k0,k1,k2,k3]):p:=h
def rh (h:p:=by simp [he]):p:=h
def ZX (h:p:=by simp [cA] at hu;obtain ⟨a,b,_,rfl⟩:=hu;rfl):p:=h
def ahH (h:p:=by simp [results,results243,go_sem,k0,k1,hsz]):p:=h
def ZY (h:p:=by have:=(HS.o.bX f (fE hf).1).lt;omega):p:=h
def GK (h:p:=by simpa using h.ks.size):p:=h
def GL (h:p:=by have:=hW.size;omega):p:=h
def GM (h:p:=by rw [H2.o];exact ee):p:=h
def ZZ (h:p:=by rw [hp];exact ki _ hL):p:=h
def GN (h:p:=by have:=hFR _ hp;omega):p:=h
def Z0 (h:p:=by have:=h2.gs.len;simpa [bg.fs] using this):p:=h
def anY (h:p:=by simp [tK]):p:=h
def Z1 (h:p:=by have:=HLR.o;rw [sF];omega):p:=h
def Cp (h:p:=by simp only;omega):p:=h
def Z2 (h:p:=by simpa using hDk _ (bt hj')):p:=h
def Z3 (h:p:=by simp [List.eraseIdx_append_of_length_le]):p:=h
def ahz (h:p:=by simp [results,results245,go_sem,m0,m1]):p:=h
def Z4 (h:p:=by simp [results,results246,go_sem,m0,m1]):p:=h
def Z5 (h:p:=by simp [results,results246,go_sem,k0,k1]):p:=h
def Z6 (h:p:=by simp [fj];intro h;exact absurd h hc):p:=h
def Z7 (h:p:=by simp [results,results208,go_sem,r0,r1]):p:=h
def Z8 (h:p:=by subst e;exact .bad v u i j no h hs g hs2):p:=h
def Z9 (h:p:=by rw [vL];exact NL.o):p:=h
def aaa (h:p:=by rw [vL];exact SI.o):p:=h
def NN (h:p:=by have:=(hQ.bk hA).1;omega):p:=h
def NP (h:p:=by simp [Value.ownBlock] at h):p:=h
def aab (h:p:=by unfold maxLen at hn;unfold wrap64;omega):p:=h
def GQ (h:p:=by cases hq;exact e'):p:=h
def GR (h:p:=by simp [bg.fs,aT]):p:=h
def Cq (h:p:=by simpa using GU):p:=h
def NQ (h:p:=by rw [Bool.eq_iff_iff];simp):p:=h
def aht (h:p:=by rw [HJ.o,aA ZE.o,aB HB.o];rfl):p:=h
def NR (h:p:=by cases p<;>simp [Pt.kids]):p:=h
def yL (h:p:=by simp [cA]):p:=h
def MX (h:p:=by have:=d.lt;omega):p:=h
def GV (h:p:=by rw [h.cw];decide):p:=h
def aac (h:p:=by rw [ha];exact (h.ad i hi hj).2.fail):p:=h
def ahB (h:p:=by rw [iB.1 hy];exact hx):p:=h
def GY (h:p:=by rw [js];omega):p:=h
def aad (h:p:=by rw [<- JI,wa]):p:=h
def MS (h:p:=by rw [ht];simp):p:=h
def XI (h:p:=by rw [js,js];omega):p:=h
def aae (h:p:=by simp [Addr.add];intro h;exact h.symm):p:=h
def aaf (h:p:=by have:=(sI q h1).2;simp at hq;omega):p:=h
def aag (h:p:=by rw [hc,yn];exact hD):p:=h
def aah (h:p:=by simp [results,results91,go_sem,hc]):p:=h
def aai (h:p:=by rw [jL hk,hg]):p:=h
def aaj (h:p:=by have:=(A0.o.own.lt _ e.symm).1;omega):p:=h
def aak (h:p:=by rw [cU hk,ek]):p:=h
def M4 (h:p:=by show 0<1;decide):p:=h
def aal (h:p:=by rw [tu] at hj;exact hj):p:=h
def ahs (h:p:=by rw [JJ l a m xD,Cr]):p:=h
def V5 (h:p:=by simp [strs] at hq):p:=h
def ahE (h:p:=by simpa using wK.o):p:=h
def V9 (h:p:=by simpa using Mh):p:=h
def NS (h:p:=by simp [Lib.compareBytes]):p:=h
def GZ (h:p:=by revert x;decide):p:=h
def aam (h:p:=by simp [results,results168,go_sem]):p:=h
def aan (h:p:=by have:=MB.o y e;simpa using this):p:=h
def aao (h:p:=by rw [hp];exact il):p:=h
def ahJ (h:p:=by rw [e];exact bt hi):p:=h
def NU (h:p:=by simp [Bk.cells];omega):p:=h
def aap (h:p:=by simp [results,results136,go_sem]):p:=h
def aaq (h:p:=by simp [results,results100,go_sem]):p:=h
def aar (h:p:=by simp [results,results241,go_sem]):p:=h
def aas (h:p:=by simp [results,results198,go_sem]):p:=h
def aat (h:p:=by simp [results,results102,go_sem]):p:=h
def aau (h:p:=by simp [results,results216,go_sem]):p:=h
def aav (h:p:=by simp [results,results254,go_sem]):p:=h
def aaw (h:p:=by simp [results,results186,go_sem]):p:=h
def aax (h:p:=by simp [results,results212,go_sem]):p:=h
def aay (h:p:=by rw [List.take_append_getElem hlt]):p:=h
def aaz (h:p:=by rw [Addr.add_lit];exact g6 j x hx):p:=h
def aaA (h:p:=by show (txt f.p).length<=1000;omega):p:=h
def aaB (h:p:=by unfold cJ;rw [fM];rfl):p:=h
def XT (h:p:=by rw [h0];decide):p:=h
def G0 (h:p:=by simp at hj;omega):p:=h
def aaC (h:p:=by simp [Value.ownBlock];exact tA):p:=h
def aaD (h:p:=by simp [results,results71,go_sem]):p:=h
def aaE (h:p:=by simp [results,results67,go_sem]):p:=h
def aaF (h:p:=by have:=HL0.o;unfold maxLen;omega):p:=h
def ahK (h:p:=by rw [hx];exact ad2 hA.fs hfd):p:=h
def aaG (h:p:=by rw [ha];exact (h.ad i hi hj).1):p:=h
def aaH (h:p:=by rw [ha];exact (h.ad i hi hj).2):p:=h
def aaI (h:p:=by simp [lS hg]):p:=h
def NV (h:p:=by have:=gM.o.cnt;omega):p:=h
def aaJ (h:p:=by rintro h0;rw [h0] at h;cases h):p:=h
def aaK (h:p:=by have:=List.mem_range.1 hj;omega):p:=h
def ahA (h:p:=by rw [JK f s k hlt hsp]):p:=h
def yM (h:p:=by simp [h3]):p:=h
def aaL (h:p:=by rw [HH.o,ahR];simp [aO,hm]):p:=h
def G1 (h:p:=by rw [iL.o];rfl):p:=h
def G2 (h:p:=by simpa using h.1):p:=h
def NW (h:p:=by rw [hx1,n2];exact n3):p:=h
def NY (h:p:=by simp at hlen;omega):p:=h
def G3 (h:p:=by simpa using he):p:=h
def aaM (h:p:=by rw [kn,hi];rfl):p:=h
def aaN (h:p:=by have:=hq.1;simp at this;omega):p:=h
def aaO (h:p:=by unfold fU;rw [hh,hD,hm];rfl):p:=h
def aaP (h:p:=by unfold eh;rw [hh,hD,hm];rfl):p:=h
def aaQ (h:p:=by simp;have:=HI.o.2.size;omega):p:=h
def aaR (h:p:=by rw [e',List.concat_eq_append]):p:=h
def G4 (h:p:=by rw [HLW.o];rfl):p:=h
def aaS (h:p:=by simpa using wA h):p:=h
def NZ (h:p:=by cases hk;kernel_rfl):p:=h
def yN (h:p:=by simp [h1]):p:=h
def aaT (h:p:=by rw [eA];exact N4):p:=h
def N5 (h:p:=by rw [h1];simp [fY]):p:=h
def aaU (h:p:=by rw [lX];exact og w _ _ _):p:=h
def N9 (h:p:=by rw [<- e1];exact h2):p:=h
def Oa (h:p:=by simpa [dY] using h):p:=h
def G5 (h:p:=by simpa using hv):p:=h
def V3 (h:p:=by rw [hN];simp):p:=h
def aaV (h:p:=by rw [js,js];exact oU):p:=h
def Ob (h:p:=by simp [bg.fs,xF]):p:=h
def aaW (h:p:=by rw [show q=gf from hq];rfl):p:=h
def aaX (h:p:=by rw [eA];exact hi):p:=h
def aaY (h:p:=by rw [eA];exact hj):p:=h
def aaZ (h:p:=by rintro q (rfl|rfl)<;>omega):p:=h
def aa0 (h:p:=by rw [js,js];exact hbs):p:=h
def Oc (h:p:=by simp [JL];omega):p:=h
def M5 (h:p:=by injection hns):p:=h
def G6 (h:p:=by rw [lX];simp):p:=h
def aa1 (h:p:=by rw [<- HST.o];exact NL.o):p:=h
def Od (h:p:=by rw [e];exact hc):p:=h
def Oe (h:p:=by rw [e];exact h0):p:=h
def Og (h:p:=by simpa using od):p:=h
def Oh (h:p:=by simp [tK,hbh]):p:=h
def G7 (h:p:=by simp [eR]):p:=h
def Oi (h:p:=by simp [gz,kL]):p:=h
def Oj (h:p:=by rw [<- hw2];simp):p:=h
def Ol (h:p:=by simpa using hq):p:=h
def Xw (h:p:=by show q≠b;omega):p:=h
def Om (h:p:=by simpa using hf):p:=h
def G8 (h:p:=by simp [cJ]):p:=h
def Oo (h:p:=by simpa using hn):p:=h
def Oq (h:p:=by simpa using hz):p:=h
def ahm (h:p:=by simpa using SJ):p:=h
def Ot (h:p:=by simpa using her):p:=h
def Ou (h:p:=by rw [h.2 b hu]):p:=h
def Ov (h:p:=by simp [Addr.add]):p:=h
def Ow (h:p:=by rw [hl,Tc,Td]):p:=h
def Ox (h:p:=by rw [kL];simp):p:=h
def Oy (h:p:=by simpa using hm):p:=h
def Oz (h:p:=by simpa using ha):p:=h
def Cs (h:p:=by rw [e]):p:=h
def WX (h:p:=by simp [bB,h32]):p:=h
def WY (h:p:=by simpa using hr):p:=h
def G9 (h:p:=by simp at hj):p:=h
def OA (h:p:=by rw [hsp];simp):p:=h
def Ha (h:p:=by simp at hy):p:=h
def Mp (h:p:=by simp [hcm]):p:=h
def Mr (h:p:=by simp [nN]):p:=h
def Hb (h:p:=by simp [ky]):p:=h
def Hc (h:p:=by simp [dw]):p:=h
def He (h:p:=by simp [bB]):p:=h
def OB (h:p:=by rw [h2];simp):p:=h
end
abbrev zB (w w':Go.World):Prop:=Go.RowKit.Below w.heap.size w w'
abbrev zN:Go.Value:=.slice none 0 0
abbrev zS (q n c:Nat):Go.Value:=.slice (some ⟨q,0,none⟩) n c
def zq {α} {a:Option α} {b c:α} (h:a=some b) (k:b=c:=by kernel_rfl):a=some c:=h.t (eL some k)
abbrev zI (k:Int):Go.Value:=.int .i64 k
abbrev zG (x:List UInt8):Go.Value:=.string ⟨x.toArray⟩
abbrev zJ (q:Nat):Go.Value:=.pointer (some ⟨q,0,none⟩)
end Go.Proofs
