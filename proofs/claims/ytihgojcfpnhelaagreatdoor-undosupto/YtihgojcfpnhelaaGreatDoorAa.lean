import Derived.Test.YtihgojcfpnhelaaGreatDoorRows
import Derived.Deep.AppendLies
import Derived.Deep.CutBlock
import Derived.Deep.DeepCutAuto
import Derived.Deep.DeepWitnessRowRef
import Derived.Deep.RegionHeld3
import Derived.LaidMore
import Derived.Laws.AppendOwnNone
import Derived.Lib.AppendZeros
import Derived.Lib.SmallJoins
import Derived.LoopIn
import Derived.LoopNIn
import Derived.OwnWalkIn
import Derived.RangeFuncBound
import Derived.RangeFuncNested
import Derived.SevenTiedAt
import Derived.Shelf.RegionOpen
import Derived.Shelf.SlSortCmp.Insertion
import Derived.Shelf.Small.Strs
import Derived.Shelf.Strconv.Atoi
import Derived.Shelf.Strconv.ErrVarParseInt
import Derived.Shelf.Strconv.Itoa4
import Derived.Shelf.Strings.BuilderK
import Derived.Stop.LaidErr
import Derived.WalkLawsBesides
import Derived.WalkSpells
set_option maxRecDepth 100000
set_option linter.all false
open Go.RowKit
def Go.RowKit.Hid.o {p:Prop} (h:Go.RowKit.Hid p):p:=h.out
def Eq.t:type_of% @Eq.trans:=@Eq.trans
def Iff.t:type_of% @Iff.trans:=@Iff.trans
def Go.RowKit.Below.t:type_of% @Go.RowKit.Below.trans:=@Go.RowKit.Below.trans
def Go.World.grownBy.t:type_of% @Go.World.grownBy.trans:=@Go.World.grownBy.trans
def List.Perm.t:type_of% @List.Perm.trans:=@List.Perm.trans
def Go.Sort.SWO.t:type_of% @Go.Sort.SWO.trans:=@Go.Sort.SWO.trans
def Go.Lib.OthersKept.t:type_of% @Go.Lib.OthersKept.trans:=@Go.Lib.OthersKept.trans
def Go.Calls.m:type_of% @Go.Calls.mono:=@Go.Calls.mono
def Go.CallsIn.m:type_of% @Go.CallsIn.mono:=@Go.CallsIn.mono
def Go.RowKit.Below.m:type_of% @Go.RowKit.Below.mono:=@Go.RowKit.Below.mono
def Go.RoundIn.m:type_of% @Go.RoundIn.mono:=@Go.RoundIn.mono
namespace Go.Proofs
def bo:type_of% @beq_eq_false_iff_ne:=@beq_eq_false_iff_ne
def aG:type_of% @Nat.le_refl:=@Nat.le_refl
def cz:type_of% @Array.getElem?_eq_some_iff:=@Array.getElem?_eq_some_iff
def aK:type_of% @bodyPost_ret:=@bodyPost_ret
def bG:type_of% @Nat.lt_of_lt_of_le:=@Nat.lt_of_lt_of_le
def cU:type_of% @List.getElem?_eq_getElem:=@List.getElem?_eq_getElem
def aM:type_of% @Below.refl:=@Below.refl
def aA:type_of% @if_neg:=@if_neg
def bf:type_of% @Nat.le_trans:=@Nat.le_trans
def bt:type_of% @List.getElem_mem:=@List.getElem_mem
def b6:type_of% @List.length_append:=@List.length_append
def a6:type_of% @Int.ofNat_le:=@Int.ofNat_le
def bL:type_of% @heap_alloc_new:=@heap_alloc_new
def aB:type_of% @if_pos:=@if_pos
def cj:type_of% @Below.heap_alloc:=@Below.heap_alloc
def bQ:type_of% @List.mem_cons:=@List.mem_cons
def cY:type_of% @Below.heap_setCell:=@Below.heap_setCell
def bq:type_of% @cell_of_row:=@cell_of_row
def bE:type_of% @Nat.zero_le:=@Nat.zero_le
def fI:type_of% @List.getElem?_eq_some_iff:=@List.getElem?_eq_some_iff
def cG:type_of% @List.mem_append:=@List.mem_append
def bU:type_of% @List.mem_map:=@List.mem_map
def dp:type_of% @Option.some.inj:=@Option.some.inj
def gI:type_of% @World.block_lt_of_cell?:=@World.block_lt_of_cell?
def cC:type_of% @Nat.lt_or_ge:=@Nat.lt_or_ge
def e9:type_of% @List.getElem_of_mem:=@List.getElem_of_mem
def cN:type_of% @Nat.ne_of_gt:=@Nat.ne_of_gt
def eW:type_of% @World.ownsRow_nil:=@World.ownsRow_nil
def cS:type_of% @Nat.zero_add:=@Nat.zero_add
def jL:type_of% @List.drop_eq_getElem_cons:=@List.drop_eq_getElem_cons
def cZ:type_of% @Nat.ne_of_lt:=@Nat.ne_of_lt
def lC:type_of% @List.getD_eq_getElem?_getD:=@List.getD_eq_getElem?_getD
def fJ:type_of% @World.ownsRow.lt:=@World.ownsRow.lt
def il:type_of% @List.mem_cons_self:=@List.mem_cons_self
def fy:type_of% @List.length_map:=@List.length_map
def iJ:type_of% @List.mem_map_of_mem:=@List.mem_map_of_mem
def iB:type_of% @List.mem_singleton:=@List.mem_singleton
def fK:type_of% @List.map_append:=@List.map_append
def im:type_of% @Int.toNat_natCast:=@Int.toNat_natCast
def gS:type_of% @List.length_cons:=@List.length_cons
def gT:type_of% @List.cons_append:=@List.cons_append
def oD:type_of% @List.eq_nil_of_length_eq_zero:=@List.eq_nil_of_length_eq_zero
def ki:type_of% @List.mem_cons_of_mem:=@List.mem_cons_of_mem
def iq:type_of% @List.append_nil:=@List.append_nil
def fL:type_of% @List.map_cons:=@List.map_cons
def lD:type_of% @List.mem_of_mem_drop:=@List.mem_of_mem_drop
def jz:type_of% @List.pairwise_map:=@List.pairwise_map
def lS:type_of% @List.mem_of_mem_take:=@List.mem_of_mem_take
def jA:type_of% @List.not_mem_nil:=@List.not_mem_nil
def km:type_of% @wpList_append_own:=@wpList_append_own
def kn:type_of% @List.getElem?_map:=@List.getElem?_map
def fM:type_of% @List.map_map:=@List.map_map
def nY:type_of% @List.drop_of_length_le:=@List.drop_of_length_le
def kI:type_of% @List.append_assoc:=@List.append_assoc
def qx:type_of% @List.getElem?_append_right:=@List.getElem?_append_right
def jB:type_of% @List.nodup_cons:=@List.nodup_cons
def nu:type_of% @World.cell?_of_block:=@World.cell?_of_block
def oF:type_of% @Option.map_eq_some_iff:=@Option.map_eq_some_iff
def vJ:type_of% @List.take_succ_eq_append_getElem:=@List.take_succ_eq_append_getElem
def iC:type_of% @Nat.lt_irrefl:=@Nat.lt_irrefl
def kJ:type_of% @List.getElem_map:=@List.getElem_map
def mF:type_of% @Int.natCast_nonneg:=@Int.natCast_nonneg
def ko:type_of% @List.nil_append:=@List.nil_append
def fe:type_of% @info_parts:=@info_parts
def sy:type_of% @List.getElem?_append_left:=@List.getElem?_append_left
def kK:type_of% @AllReadyIn.cons:=@AllReadyIn.cons
def oG:type_of% @List.mem_of_getElem?:=@List.mem_of_getElem?
def iD:type_of% @Int.ofNat_lt:=@Int.ofNat_lt
def pF:type_of% @List.contains_iff_mem:=@List.contains_iff_mem
def qy:type_of% @List.take_of_length_le:=@List.take_of_length_le
def sW:type_of% @List.pairwise_iff_getElem:=@List.pairwise_iff_getElem
def mG:type_of% @List.length_drop:=@List.length_drop
def lT:type_of% @Nat.le_antisymm:=@Nat.le_antisymm
def jC:type_of% @Nat.zero_mul:=@Nat.zero_mul
def jD:type_of% @Nat.le_of_eq:=@Nat.le_of_eq
def vK:type_of% @List.mem_of_find?_eq_some:=@List.mem_of_find?_eq_some
def sA:type_of% @List.length_singleton:=@List.length_singleton
def eL:type_of% @congrArg:=@congrArg
def mH:type_of% @AllReadyIn.nil:=@AllReadyIn.nil
def pG:type_of% @decide_eq_true_eq:=@decide_eq_true_eq
def qz:type_of% @List.getElem?_drop:=@List.getElem?_drop
def nZ:type_of% @List.length_nil:=@List.length_nil
def sB:type_of% @List.map_congr_left:=@List.map_congr_left
def lF:type_of% @Nat.le_of_lt:=@Nat.le_of_lt
def mI:type_of% @Prod.mk.injEq:=@Prod.mk.injEq
def mJ:type_of% @wpAnyIn_ready:=@wpAnyIn_ready
def vL:type_of% @List.singleton_append:=@List.singleton_append
def pH:type_of% @Nat.not_lt_zero:=@Nat.not_lt_zero
def qA:type_of% @Bool.and_eq_true:=@Bool.and_eq_true
def lG:type_of% @below_drewN:=@below_drewN
def sD:type_of% @List.flatMap_cons:=@List.flatMap_cons
def sX:type_of% @List.getElem?_take:=@List.getElem?_take
def sY:type_of% @Bool.false_eq_true:=@Bool.false_eq_true
def EB:type_of% @List.eraseIdx_eq_take_drop_succ:=@List.eraseIdx_eq_take_drop_succ
def zE:type_of% @List.length_eq_zero_iff:=@List.length_eq_zero_iff
def sF:type_of% @List.length_take:=@List.length_take
def Br:type_of% @List.findIdx?_eq_none_iff:=@List.findIdx?_eq_none_iff
def iK:type_of% @or_false:=@or_false
def sZ:type_of% @List.perm_middle:=@List.perm_middle
def rj:type_of% @List.reverse_append:=@List.reverse_append
def k7:type_of% @Nat.add_zero:=@Nat.add_zero
def rp:type_of% @List.find?_eq_none:=@List.find?_eq_none
def rq:type_of% @wpList_append_lies:=@wpList_append_lies
def oH:type_of% @Option.map_some:=@Option.map_some
def ry:type_of% @Function.comp_def:=@Function.comp_def
def rz:type_of% @Classical.not_not:=@Classical.not_not
def rA:type_of% @of_decide_eq_true:=@of_decide_eq_true
def rB:type_of% @Option.some.injEq:=@Option.some.injEq
def wa:type_of% @List.take_append_drop:=@List.take_append_drop
def yi:type_of% @Array.getElem?_push_size:=@Array.getElem?_push_size
def oI:type_of% @List.find?_map:=@List.find?_map
def yj:type_of% @List.getElem_append_left:=@List.getElem_append_left
def mP:type_of% @Nat.add_comm:=@Nat.add_comm
def td:type_of% @List.pairwise_cons:=@List.pairwise_cons
def th:type_of% @Nat.lt_of_le_of_lt:=@Nat.lt_of_le_of_lt
def wb:type_of% @Array.replicate_succ:=@Array.replicate_succ
def wh:type_of% @Array.replicate_zero:=@Array.replicate_zero
def rC:type_of% @List.ext_getElem:=@List.ext_getElem
def rD:type_of% @List.any_eq_true:=@List.any_eq_true
def FZ:type_of% @List.findIdx?_eq_some_iff_getElem:=@List.findIdx?_eq_some_iff_getElem
def oJ:type_of% @Nat.add_assoc:=@Nat.add_assoc
def nK:type_of% @Nat.sub_self:=@Nat.sub_self
def wm:type_of% @List.append_toArray:=@List.append_toArray
def mQ:type_of% @Nat.one_mul:=@Nat.one_mul
def rE:type_of% @Bool.or_eq_true:=@Bool.or_eq_true
def Bt:type_of% @List.getElem_append_right:=@List.getElem_append_right
def yl:type_of% @List.set_append_right:=@List.set_append_right
def ym:type_of% @ownsRow_setCell_below:=@ownsRow_setCell_below
def tj:type_of% @List.getElem_set:=@List.getElem_set
def tq:type_of% @List.take_length:=@List.take_length
def nL:type_of% @Nat.mul_one:=@Nat.mul_one
def F6:type_of% @List.take_append_of_le_length:=@List.take_append_of_le_length
def wo:type_of% @DataW.trod_string:=@DataW.trod_string
def wq:type_of% @List.size_toArray:=@List.size_toArray
def wu:type_of% @List.push_toArray:=@List.push_toArray
def tu:type_of% @List.length_set:=@List.length_set
def yn:type_of% @List.take_succ_cons:=@List.take_succ_cons
def yo:type_of% @List.flatMap_append:=@List.flatMap_append
def yq:type_of% @List.getElem_append:=@List.getElem_append
def Bv:type_of% @wpList_append_own_none:=@wpList_append_own_none
def wx:type_of% @Tryz.underlying9:=@Tryz.underlying9
def wy:type_of% @List.mem_reverse:=@List.mem_reverse
def wA:type_of% @List.find?_some:=@List.find?_some
def wB:type_of% @List.range_succ:=@List.range_succ
def wC:type_of% @List.foldl_cons:=@List.foldl_cons
def wD:type_of% @DataW.agg.injEq:=@DataW.agg.injEq
def jq:type_of% @if_true:=@if_true
def k8:type_of% @if_false:=@if_false
def Bw:type_of% @List.pairwise_append:=@List.pairwise_append
def yr:type_of% @List.Sublist.refl:=@List.Sublist.refl
def Bx:type_of% @List.reverse_reverse:=@List.reverse_reverse
def Bz:type_of% @List.dropLast_concat:=@List.dropLast_concat
def yt:type_of% @Nat.lt_of_succ_lt:=@Nat.lt_of_succ_lt
def BA:type_of% @World.ownsRow.cellAt:=@World.ownsRow.cellAt
def yu:type_of% @Tryz.underlying22:=@Tryz.underlying22
def BB:type_of% @List.length_pos_iff:=@List.length_pos_iff
def BC:type_of% @List.replicate_succ:=@List.replicate_succ
def yv:type_of% @Array.toList_inj:=@Array.toList_inj
def yw:type_of% @step_append_lies:=@step_append_lies
def yx:type_of% @List.mem_filter:=@List.mem_filter
def oK:type_of% @enters_of:=@enters_of
def wE:type_of% @callsIn_wide:=@callsIn_wide
def wF:type_of% @Nat.lt_trans:=@Nat.lt_trans
def nM:type_of% @Ne.symm:=@Ne.symm
abbrev zB (w w':Go.World):Prop:=Go.RowKit.Below w.heap.size w w'
abbrev zN:Go.Value:=.slice none 0 0
abbrev zS (q n c:Nat):Go.Value:=.slice (some ⟨q,0,none⟩) n c
def zq {α} {a:Option α} {b c:α} (h:a=some b) (k:b=c):a=some c:=h.t (eL some k)
abbrev J (k:Int):Go.Value:=.int .i64 k
abbrev Q (x:List UInt8):Go.Value:=.string ⟨x.toArray⟩
abbrev zJ (q:Nat):Go.Value:=.pointer (some ⟨q,0,none⟩)
abbrev X (q o:Nat):Go.Addr:=⟨q,o,none⟩
abbrev yh (q:Nat):Go.Addr:=⟨q,0,none⟩
end Go.Proofs
