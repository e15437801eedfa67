import PyProof.Rows.All
import Wide.All
import OpenK.AllK
import Wide.FinOn
import PyProof.EqAt
import PyProof.EqKinds
import PyProof.TupleCall
import KE.BitLaws
import PyVbpcaf
import KE.KDictObj
import KE.KDictSum
import KE.KIsAll
import KE.KMinKey
import KE.KRevIter
import KE.KSortKey
import KE.KSortRegAny
import KE.KSortTup
import KE.KSortTupG
import KE.OsGo
import KE.OsHead
import Open.SpecLaws
import PySem.Challenge.RW_copperboarddesk_s01_answers
set_option Elab.async false
set_option linter.all false
set_option maxRecDepth 100000
set_option maxHeartbeats 2000000
namespace Zq
open PySem PySem.Spec
open PyProof.Rows hiding K
open PyProof.Rows (ksk_end ksk_rest ksk_tail)
open PyProof.Rows.G (KeepsTups keeps_sort6 not_tuple_list sortHeap6)
open PySem.AutoSeq1 (wpAny_loadPart')
open PySem.W (Codec Frag KatTups KdlSrc OpenSpec ReadsAllW ReadsW WData WRecords WalkOS Well WellAll callWith_K callWith_K0 cellsFrom_some codeIn emptyDict findIn fnOf handedIn hasDictIn instObj isFn kas_item kas_sort kat_kind kat_lt kdl_call kdl_dict keepIn length_le_weightAllW lookIn makesIn methodCall_KW methodObj plainGet plainGet_of plainOver takerIn)
open Vbpcaa (Frac MOST Pt apart below dist2 dot edges fromLowest holds inRange leastOf len2 meet normal pointSeg segSeg shifted sq sub touch turnOf)
open Vbpcaf (Board Call Graph Piece allNets chain clean counted cuts does firstFree joined level loose made members must nearPairs needed neighbours netOf netsOf nodes opens parts partsOfNet pieceAt points reach shorts skeleton sorted step stepsTo touching truth walk)
def qn(x:Array Lean.Term):Lean.MacroM (Array Lean.Term):=do
 let r:=Lean.mkIdent `rfl
 let mut a:Array Lean.Term:=#[]
 for e in x do
  match e.raw.isNatLit? with
  |some 0=>a:=a.push r
  |some n=>for _ in [0:n] do a:=a.push (<-`(_));a:=a.push r
  |_=>a:=a.push e
 return a
def qp:Nat->Lean.Term->Lean.MacroM (Array (Lean.TSyntax `rcasesPat))
|n+1,t=>do match t with
 |`($a||$b)=>return (<-qp n a)++(<-qp n b)
 |`([$x,*])=>
  let a<-(<-qn x).mapM λy=>do `(Lean.Parser.Tactic.rcasesPatLo|$[$(<-qp n y)]|*)
  return #[<-`(rcasesPat|⟨$a,*⟩)]
 |`(_)=>return #[<-`(rcasesPat|_)]
 |`($x:ident)=>return #[<-`(rcasesPat|$x:ident)]
 |_=>match t.raw.isNatLit? with
  |some 0=>return #[<-`(rcasesPat|$(Lean.mkIdent `rfl):ident)]
  |some _=>qp n (<-`([$t]))
  |_=>Lean.Macro.throwUnsupported
|_,_=>Lean.Macro.throwUnsupported
local macro_rules
|`(#[$x,*])=>do
 if x.getElems.isEmpty then Lean.Macro.throwUnsupported
 `(⟨$(<-qn x),*⟩)
|`(tactic|let $p:term:=$v)=>do `(tactic|obtain $[$(<-qp 9 p)]|*:=$v)
|`(tactic|let $p:term : $t := $v)=>do `(tactic|obtain $[$(<-qp 9 p)]|* : $t := $v)
|`(tactic|let $c:letConfig $d:letDecl)=>`(tactic|have $c:letConfig $d:letDecl)
|`(tactic|show $e)=>`(tactic|refine $e)
|`(tactic|lk)=>`(tactic|omega)
|`(tactic|walk)=>`(tactic|constructor)
|`(tactic|ext $x*)=>`(tactic|rintro $x*)
|`(⇑$s)=>`(($s).heap.objs.size)
|`(↥$s)=>`(($s).graph)
def ac:=@List.length_map
def ae:=@List.mem_map
def ak:=@List.getElem?_eq_getElem
def au:=@Classical.byContradiction
def aw:=@List.mem_filter
def az:=@if_neg
def aB:=@List.mem_cons
def aC:=@List.mem_cons_of_mem
def aD:=@List.mem_append_right
def aE:=@Nat.le_refl
def aF:=@of_decide_eq_true
def aG:=@List.mem_append
def aH:=@if_pos
def aJ:=@List.getElem?_eq_some_iff
def aL:=@Nat.le_trans
def aN:=@List.mem_cons_self
def aO:=@Array.length_toList
def aP:=@List.mem_singleton
def aQ:=@List.size_toArray
def aR:=@Bool.false_ne_true
def aT:=@decide_eq_true_iff
def aU:=@decide_eq_true
def aV:=@Int.mul_nonpos_of_nonpos_of_nonneg
def aW:=@List.length_append
def aX:=@List.mem_of_getElem?
def aY:=@List.length_cons
def aZ:=@List.getElem?_map
def a_:=@List.filter_sublist
def be:=@Bool.and_eq_true
def bg:=@List.contains_iff_mem
def bh:=@List.getD_eq_getElem?_getD
def bi:=@Nat.lt_of_le_of_lt
def bj:=@Option.some.inj
def bm:=@List.map_cons
def bu:=@List.length_filter_le
def bw:=@List.map_append
def bD:=@Int.mul_nonneg
def bE:=@decide_eq_false
def bG:=@Int.mul_le_mul_of_nonneg_left
def bJ:=@Ne.symm
def bK:=@List.take_length
def bN:=@Nat.ne_of_lt
def bQ:=@Bool.eq_iff_iff
def bR:=@Int.mul_le_mul_of_nonneg_right
def bW:=@Int.mul_nonpos_of_nonneg_of_nonpos
def bX:=@List.map_map
def bY:=@Int.mul_eq_zero
def b8:=@decide_eq_decide
def cb:=@of_decide_eq_false
def ci:=@List.any_eq_true
def cj:=@Int.mul_pos
def ck:=@Bool.false_eq_true
def cq:=@Nat.lt_of_lt_of_le
def cu:=@List.length_range
def cw:=@Int.mul_nonneg_of_nonpos_of_nonpos
def cA:=@List.not_mem_nil
def cB:=@List.mem_range
def cE:=@List.length_take
def cH:=@Nat.zero_le
def cJ:=@List.mem_append_left
def cM:=@List.take_succ
def cN:=@PyProof.Rows.callWith_type1
def cQ:=@PySem.mem_of_lookup
def c7:=@List.all_eq_true
def c9:=@List.nodup_cons
def c_:=@Int.mul_neg_of_pos_of_neg
def di:=@List.nodup_append
def dF:=@congrArg
def dI:=@decide_eq_true_eq
def dO:=@Nat.lt_irrefl
def dX:=@Int.mul_zero
def dY:=@List.map_congr_left
def eE:=@Bool.eq_false_iff
def eU:=@List.filter_append
def fb:=@Int.mul_neg_of_neg_of_pos
def fc:=@List.mem_take_iff_getElem
def fj:=@Nat.mod_eq_of_lt
def fk:=@List.length_drop
def fB:=@List.mem_map_of_mem
def fH:=@List.length_singleton
def fI:=@if_false
def fZ:=@Bool.or_eq_true
def f6:=@List.foldl_cons
def f8:=@List.pairwise_cons
def f9:=@List.map_id
def f_:=@List.length_eq_zero_iff
def gH:=@List.length_reverse
def ib:=@List.flatMap_def
def iA:=@List.mem_iff_getElem
def iB:=@List.mem_of_mem_take
def iL:=@List.getElem?_cons_succ
def iM:=@List.all_cons
def iP:=@List.map_nil
def iS:=@Int.toNat_natCast
def iT:=@Nat.lt_succ_of_lt
def iX:=@beq_eq_false_iff_ne
def i9:=@Option.map_eq_some_iff
def js:=@List.filter_cons
def jH:=@List.any_cons
def jI:=@List.getElem?_eq_none
def jK:=@List.getElem?_append_left
def jL:=@List.pairwise_iff_getElem
def kC:=@Int.lt_trichotomy
def kD:=@List.any_eq_false
def kE:=@List.filter_map
def k8:=@or_false
def k9:=@decide_eq_false_iff_not
def k_:=@Int.mul_one
def lg:=@PySem.F.plainAttrs_list
def lh:=@Int.le_refl
def lj:=@Int.toNat_of_nonneg
def lP:=@List.getElem_mem
def lQ:=@List.getElem_inj
def lR:=@List.lookup_cons
def lW:=@PySem.F.plain_min_loop
def nO:=@Int.zero_add
def nP:=@Bool.and_eq_false_iff
def nQ:=@List.append_nil
def nR:=@Array.getElem?_toList
def nT:=@Array.getD_eq_getD_getElem?
def ou:=@List.flatten_cons
def oM:=@List.getElem?_append_right
def oN:=@List.nodup_iff_pairwise_ne
def oQ:=@Nat.mul_le_mul_right
def oR:=@List.getElem?_zipIdx
def oS:=@Bool.and_eq_true_iff
def pV:=@Int.mul_le_mul
def pW:=@List.exists_mem_of_ne_nil
def pX:=@List.mem_of_find?_eq_some
def pY:=@Int.le_of_mul_le_mul_left
def pZ:=@List.drop_eq_getElem_cons
def qu:=@Nat.le_add_right
def qE:=@List.getElem_of_mem
def qF:=@Prod.mk.inj
def qW:=@Int.le_total
def qX:=@Nat.lt_or_ge
def qY:=@Option.isSome_iff_exists
def qZ:=@Nat.ne_of_gt
def tM:=@Bool.true_and
def tN:=@List.getElem?_drop
def tO:=@List.find?_cons
def tP:=@List.sum_cons
def tQ:=@Array.Perm.refl
def tR:=@List.cons.injEq
def tS:=@List.Nodup.sublist
def tT:=@List.filter_cons_of_neg
def tU:=@Bool.decide_and
def vH:=@List.take_of_length_le
def wT:=@List.filter_congr
def wU:=@List.pairwise_map
def zE:=@Int.lt_or_le
def zF:=@List.Pairwise.sublist
def Az:=@List.mem_flatMap
def AA:=@Nat.lt_succ_self
def Bq:=@Bool.or_eq_false_iff
def C1:=@beq_iff_eq
def Et:=@Nat.le_succ
def Eu:=@List.filter_eq_self
def GS:=@Int.zero_mul
def GU:=@List.find?_eq_none
def GV:=@List.getElem_range
def IB:=@Int.mul_pos_of_neg_of_neg
def IC:=@List.nodup_nil
def K9:=@Nat.add_mod_right
def K_:=@List.append_assoc
def MX:=@Nat.mul_div_cancel_left
def MY:=@List.eraseIdx_cons_succ
def MZ:=@PySem.F.plainAttrs_dict
def M0:=@List.filter_cons_of_pos
def M3:=@List.map_drop
def No:=@List.Sublist.map
def Np:=@List.getElem_map
def QP:=@Int.natCast_mul
def QQ:=@if_true
def QR:=@PySem.F.slot_dict_pop
def QS:=@Nat.min_eq_left
def R9:=@Array.toArray_toList
def R_:=@List.pairwise_append
def Sl:=@Bool.false_and
def Sm:=@List.drop_drop
def SR:=@List.filterMap_cons
def SS:=@PySem.evalArgs_none
def SU:=@List.length_pos_iff
def SV:=@Array.getElem?_push
def om{p:Prop}(h:p:=by lk):p:=h
def dk{p:Prop}(h:p:=by decide+kernel):p:=h
def de{p:Prop}(h:p:=by decide):p:=h
def ai:=@PySem.wpAny_bind
def aj:=@PySem.wpAny_pure
def br:=@PySem.Heap.get?_push_of_some
def bx:=@PySem.Heap.get?_push_size
def ce:=@PySem.Heap.lt_size
def cm:=@PySem.PassesOwn.never
def dn:=@PySem.Heap.SameBut.update
def dr:=@PySem.wpAny_truthy_bool
def dA:=@PySem.wpAny_typeNameOfWhole_keyiter
def dR:=@PySem.wpAny_holding
def dS:=@PySem.F.slot_dict_keyiterator_next
def dU:=@PySem.wpAny_Call_Name_kw
def dW:=@PySem.Heap.get?_update_self
def ed:=@PySem.Heap.size_push
def eh:=@PySem.wpAny_call_entry
def eo:=@PySem.wpAny_callSpecial?_slot
def ew:=@PySem.wpAny_mono
def eA:=@PySem.Calls.spliced_cons
def eB:=@PySem.wpAny_newObj_type
def eH:=@PySem.Paired.length
def eJ:=@PySem.Heap.get?_update_other
def eL:=@PySem.Calls.callWith_builtin
def eM:=@PySem.F.plain_extend_loop
def eN:=@PySem.wpAny_updateSeq
def eP:=@PySem.Calls.spliced_nil
def eW:=@PySem.wpAny_ite_split
def fe:=@PySem.wpAny_dictEntries
def ft:=@PySem.plainId_quiet
def fw:=@PySem.F.args_dict_keyiterator_next_1
def fx:=@PySem.wpAny_field
def fy:=@PySem.F.entry_dict_keyiterator_next
def fA:=@PySem.wpAny_passesOwn
def fQ:=@PySem.wpAny_Call_method
def fU:=@PySem.wpAny_seqItems
def fV:=@PySem.Calls.evalArgs_plain
def fY:=@PySem.codeAny_builtin
def gk:=@PySem.wpAny_letGo
def gm:=@PySem.wpAny_tryCatch
def gr:=@PyProof.Rows.listUpdate_at
def gt:=@PyProof.Rows.get?_update_seq
def gw:=@PySem.wpAny_isOneOf_keyiter
def gL:=@PySem.builtinLookup_eq_fast
def gM:=@PySem.wpAny_newList
def gQ:=@PySem.wpAny_attempt
def gV:=@PySem.sizeLine_eq
def gX:=@List.ne_nil_of_mem
def gY:=@List.length_zipIdx
def hA:=@Int.lt_of_lt_of_le
def hG:=@PySem.wpAny_specialOf
def hH:=@PySem.wpAny_loadPart'
def hI:=@PySem.wpAny_dictEpoch
def hJ:=@Nat.le_of_mul_le_mul_left
def hX:=@Array.getElem?_eq_getElem
def hZ:=@Nat.lt_of_succ_lt
def h8:=@Nat.le_of_succ_le
def h9:=@List.reverse_cons
def ip:=@List.Pairwise.imp
def iq:=@Nat.mul_assoc
def iw:=@Bool.or_false
def iy:=@PySem.Obj.data_mapFields
def iD:=@Nat.succ_ne_self
def iG:=@List.drop_length
def iH:=@Bool.not_eq_true
def iI:=@PySem.F.entry_min_loop
def iJ:=@Nat.le_of_lt
def iK:=@Nat.le_of_eq
def iY:=@Nat.add_comm
def i0:=@List.pairwise_lt_range
def i5:=@List.length_pos_of_mem
def i7:=@List.getElem?_set_self
def i8:=@Int.mul_comm
def je:=@PySem.wpAny_pyIter_enum
def jj:=@PySem.Paired.snoc
def jn:=@Option.map_some
def jp:=@Nat.not_lt_zero
def jq:=@List.of_mem_zip
def jr:=@Int.neg_mul_neg
def jx:=@PySem.F.slot_dict_get
def jF:=@PySem.wpAny_isInstance
def j1:=@Nat.mul_one
def j2:=@List.range_eq_range'
def j8:=@List.getElem?_set_ne
def j9:=@List.forIn_nil
def kb:=@Bool.and_false
def kw:=@PyProof.Rows.size_push'
def kx:=@PySem.wpAny_pyNext_list_item
def ky:=@PySem.call_meetsIn
def kR:=@PySem.call_meets
def kS:=@List.take_succ_cons
def kT:=@List.drop_succ_cons
def kU:=@PySem.wpAny_execs_nil
def kX:=@PySem.typeLookup_type
def kZ:=@PySem.size_of_entries
def k4:=@PySem.pushCells_keeps
def k6:=@forall_congr'
def k7:=@PySem.F.slot_zip_next
def lc:=@Bool.false_or
def lf:=@Bool.and_true
def lm:=@Nat.mod_lt
def lq:=@List.forIn_toArray
def lz:=@PySem.wpAny_setField
def lL:=@PySem.wpAny_pyIter_revIter
def l0:=@PySem.wpAny_fieldsOf
def me:=@bne_self_eq_false
def mh:=@Option.isSome_map
def mm:=@Nat.mul_comm
def mu:=@List.foldl_append
def mw:=@List.ext_getElem?
def mx:=@List.Sublist.refl
def mE:=@Int.le_trans
def mK:=@PySem.Around.under_plainId
def mR:=@PyProof.Rows.slot_tuple_getitem
def mT:=@PyProof.Rows.callWith_builtin1
def na:=@List.ext_getElem
def nb:=@List.cons_append
def nn:=@List.Nodup.length_le_of_subset
def np:=@PySem.F.entry_extend_loop
def ny:=@PySem.F.slot_dict_setdefault
def n4:=@List.length_nil
def on:=@List.forIn_cons
def ov:=@List.find?_some
def ox:=@List.count_cons
def oy:=@Array.size_push
def oD:=@List.idxOf_lt_length_of_mem
def o3:=@PySem.wpAny_pyIter_list
def pc:=@PySem.wpAny_pyIter_dict
def pp:=@PyProof.Rows.sortedAll_old
def pq:=@Nat.mul_le_mul
def pu:=@Nat.le_of_mul_le_mul_right
def p4:=@List.perm_ext_iff_of_nodup
def qm:=@List.exists_cons_of_ne_nil
def qo:=@Int.mul_lt_mul_of_pos_left
def qs:=@Int.fdiv_eq_ediv_of_nonneg
def qt:=@PyProof.Rows.seqEpoch_at
def rc:=@PyProof.Rows.sortedAll_at
def ri:=@PySem.F.type_list_extend
def rz:=@PySem.F.slot_list_extend
def sg:=@PySem.F.args_tuple_add_2
def sh:=@PySem.F.args_list_init_2
def ss:=@Nat.gcd_pos_of_pos_right
def sA:=@List.map_take
def sH:=@List.length_erase_of_mem
def s_:=@List.Pairwise.imp_of_mem
def tr:=@PySem.Heap.size_update
def tu:=@PySem.F.typeCall_list_1
def tv:=@PySem.F.slot_list_index
def tA:=@PySem.F.slot_list_count
def tG:=@PySem.F.entry_tuple_add
def tK:=@PySem.F.entry_list_init
def ub:=@PySem.F.args_dict_pop_2
def uZ:=@PySem.F.args_dict_get_3
def u4:=@PySem.F.slot_tuple_add
def vf:=@PySem.F.entry_dict_pop
def vm:=@PySem.F.entry_dict_get
def vr:=@PyProof.noPylong_small
def vu:=@List.range_succ_eq_map
def vx:=@List.drop_of_length_le
def vy:=@List.drop_eq_nil_of_le
def wf:=@List.any_map
def wh:=@Int.sub_self
def wq:=@PySem.F.slot_dict_keyiterator_iter
def wt:=@Array.getElem?_eq_none
def wN:=@PySem.F.type_dict_pop
def wO:=@List.take_append_drop
def wP:=@List.getElem?_zipWith
def wQ:=@PySem.wpAny_newTuple
def wR:=@PySem.wpAny_letOwnedTupleGo_enum
def xb:=@PySem.wpAny_call
def xc:=@PySem.isSubtype_stop
def xp:=@and_true
def xq:=@Sum.inl.inj
def y3:=@Nat.log2_lt
def zo:=@List.mem_erase_of_ne
def zp:=@List.length_dropLast
def zq:=@PySem.Calls.Name_function_global
def zr:=@PySem.F.called_list
def zt:=@Nat.mul_le_mul_left
def zu:=@List.getElem?_range
def zv:=@List.flatten_append
def zw:=@PySem.Calls.call_function_entry
def zx:=@PySem.nums_intItems
def zA:=@PySem.W.callWith_K
def z6:=@bne_iff_ne
def Au:=@Nat.mod_eq_sub_mod
def Av:=@List.zip_cons_cons
def Aw:=@List.filter_filter
def Ax:=@Int.lt_or_gt_of_ne
def Ay:=@not_false_eq_true
def Bi:=@Option.some.injEq
def Bn:=@Nat.le_succ_of_le
def CT:=@Nat.gcd_dvd_right
def CU:=@Bool.not_eq_true'
def CV:=@PySem.wpAny_typeOf
def D1:=@PySem.wpAny_pyNext_range_end
def D2:=@PySem.wpAny_pyIter_rangeiter
def En:=@PySem.wpAny_nextOf_list_item
def Gp:=@PySem.richCompare_meets_room
def G5:=@false_iff
def G9:=@beq_self_eq_true
def Ha:=@Nat.min_le_right
def Hb:=@Nat.min_eq_right
def Hu:=@Nat.gcd_dvd_left
def HB:=@List.nodup_range
def HH:=@List.isEmpty_iff
def Is:=@Int.ediv_le_self
def Ix:=@PySem.wpAny_pyNext_list_end
def I_:=@PySem.wpAny_notOrdered_dict
def KE:=@PySem.wpAny_isTrue_Compare1
def Lk:=@PyProof.Rows.entry_list_sort
def OK:=@PySem.Obj.isFreed_of_fields
def Pv:=@Nat.mod_add_mod
def PK:=@List.mem_range'
def Rv:=@List.map_const'
def RN:=@List.length_zip
def Sg:=@Int.zero_lt_one
def Sn:=@Int.natCast_add
def Sy:=@Int.ediv_nonneg
def Sz:=@PySem.F.slot_enumerate_next
theorem SX{p:Prop}(h:p:=by simp):p:=h
theorem SY{p:Prop}(h:p:=by rfl):p:=h
section
open Vbpcaa
def gZ{x y:Int}(h:0<x*y):(0<x/\0<y)\/(x<0/\y<0):=by
 let b||b||b:=kC x 0
 .let a||a||a:=kC y 0
  .show .inr #[b,a]
  .subst a;simp at h
  .let:=fb b a;lk
 .subst b;simp at h
 .let a||a||a:=kC y 0
  .let:=c_ b a;lk
  .subst a;simp at h
  .show .inl #[b,a]
def sq_nonneg(x:Int):0<=x*x:=by
 let h||h:=qW 0 x
 .show bD h h
 .show cw h h
def sq_pos{x:Int}(h:x≠0):0<x*x:=by
 let h||h:=Ax h
 .show IB h h
 .show cj h h
def xy{a b c:Int}(h:(a -c)*(b -c)<=0):(a<=c/\c<=b)\/(b<=c/\c<=a):=by
 let e||e||e:=kC (a -c) 0
 .let d||d:=zE (b -c) 0
  .let:=IB e d;lk
  .lk
 .lk
 .let d||d:=zE 0 (b -c)
  .let:=cj e d;lk
  .lk
def apart1{a b c d:Int}(e:0<(a -c)*(b -c))(f:0<(a -d)*(b -d))(g:0<(c -a)*(d -a))(h:0<(c -b)*(d -b))
  (i:min a b<=max c d) (j:min c d<=max a b):False:=by
 let:=gZ e;let:=gZ f;let:=gZ g;let:=gZ h;lk
def xz{x1 y1 x2 y2:Int}(c:x1*y2=y1*x2)(e:x1*x2+y1*y2<=0):x1*x2<=0/\y1*y2<=0:=by
 let k:(x1*x2)*(y1*y2)=(x1*y2)*(x1*y2):=by
  let:(x1*x2)*(y1*y2)=(x1*y2)*(y1*x2):=by grind
  rw[this,<-c]
 let d:=sq_nonneg<|x1*y2;rw[<-k]at d;walk
 .show au λh=>?_;let a:0<x1*x2:=om;let b:y1*y2<0:=om;let:=c_ a b;lk
 .show au λh=>?_;let a:0<y1*y2:=om;let b:x1*x2<0:=om;let:=fb b a;lk
def lB{x1 y1 x2 y2:Int}(a:x1*y2=y1*x2)(b:0<x1*x2+y1*y2):0<=x1*x2/\0<=y1*y2:=by
 let:=xz (x1:=x1) (y1:=y1) (x2:= -x2) (y2:= -y2) (by grind)<|by grind
 grind
def bZ(u v:Int):Bool:=(decide (0<u)&&decide (0<v))||(decide (u<0)&&decide (v<0))
def fK(a b c d:Pt):Prop:=min a.x b.x<=max c.x d.x/\min c.x d.x<=max a.x b.x/\min a.y b.y<=max c.y d.y/\min c.y d.y<=max a.y b.y
instance{a b c d:Pt}:Decidable (fK a b c d):=by unfold fK;infer_instance
def d_(a b c d:Pt):Bool:=!bZ (turnOf a b c) (turnOf a b d)&&(!bZ (turnOf c d a) (turnOf c d b)&&decide (fK a b c d))
def ff:bZ u v=true↔(0<u/\0<v)\/(u<0/\v<0):=by
 unfold bZ;simp
def fm:opposite u v=true↔(u<0/\0<v)\/(0<u/\v<0):=by
 unfold opposite;simp
def ii:onSeg p a b=true↔turnOf a b p=0/\(a.x -p.x)*(b.x -p.x)+(a.y -p.y)*(b.y -p.y)<=0:=by
 unfold onSeg dot sub;simp
def u5{u v:Int}:bZ u v=true↔0<u*v:=by
 rw[ff];walk
 .ext(⟨a,b⟩|⟨a,b⟩)
  .show cj a b
  .show IB a b
 .show gZ
def GW{p a b:Pt}(h:onSeg p a b=true):(a.x -p.x)*(b.x -p.x)<=0/\(a.y -p.y)*(b.y -p.y)<=0:=by
 let[c,d]:=ii.mp h;show xz ?_ d;unfold turnOf at c;grind
def AB{a b c d wx wy:Int}(h:a*d=b*c):(wx*d -wy*c)*(a*a+b*b)=(a*c+b*d)*(wx*b -wy*a):=by
 grind
def xA{a b c d wx wy:Int}(h:a*d=b*c):((wx*b -wy*a)*(wx*d -wy*c))*(a*a+b*b)=(a*c+b*d)*((wx*b -wy*a)*(wx*b -wy*a)):=by
 let:=AB (wx:=wx) (wy:=wy) h;grind
def xB{x y:Int}(h:x≠0\/y≠0):0<x*x+y*y:=by
 let a:=sq_nonneg x;let b:=sq_nonneg y;let h||h:=h
 .let:=sq_pos h;lk
 .let:=sq_pos h;lk
def Ex{c a b d:Pt}(h:onSeg c a b=true):bZ (turnOf c d a) (turnOf c d b)=false:=by
 let[l,z]:=ii.mp h;show eE.mpr λe=>?_;let e:=u5.mp e;unfold turnOf at l e;let m:(a.x -c.x)*(b.y -c.y)=(a.y -c.y)*(b.x -c.x):=by grind
 let k:=xA (wx:=d.x -c.x) (wy:=d.y -c.y) m;generalize o:a.x -c.x=f at*;generalize p:a.y -c.y=g at*;generalize q:b.x -c.x=v at*;generalize r:b.y -c.y=w at*;generalize s:d.x -c.x=x at*;generalize t:d.y -c.y=y at*;let n:f≠0\/g≠0:=by
  show au λA=>?_;let i:f=0:=om;let j:g=0:=om;subst i j;simp at e
 let B:=cj e<|xB n;let u:=sq_nonneg<|x*g -y*f;let C:=bD (show 0<= -(f*v+g*w) by lk) u
 grind
def Ey{c a b d:Pt}(h:onSeg c a b=true):fK a b c d:=by
 let[e,f]:=GW h;let:=xy e;let:=xy f;unfold fK;lk
def u6(h:fK a b c d):fK c d a b:=by
 unfold fK at*;lk
def u7(h:fK a b c d):fK a b d c:=by
 unfold fK at*;lk
def jg(a b c:Pt):turnOf b a c= -turnOf a b c:=by unfold turnOf;grind
def nU(u v:Int):bZ u v=bZ v u:=by
 rw[bQ,ff,ff];lk
def oV(u v:Int):bZ (-u) (-v)=bZ u v:=by
 rw[bQ,ff,ff];lk
def kO(a b c d:Pt):d_ a b c d=d_ c d a b:=by
 unfold d_;let:decide (fK a b c d)=decide (fK c d a b):=by
  rw[b8];show#[u6,u6]
 rw[this];cases bZ (turnOf a b c) (turnOf a b d)<;>cases bZ (turnOf c d a) (turnOf c d b)<;>rfl
def nV(a b c d:Pt):d_ a b c d=d_ a b d c:=by
 unfold d_;let:decide (fK a b c d)=decide (fK a b d c):=by
  rw[b8];show#[u7,u7]
 rw[this,jg c d a,jg c d b,oV,nU<|turnOf a b c]
def nW(h:onSeg c a b=true):d_ a b c d=true:=by
 unfold d_;let e:=(ii.mp h).1;rw[Ex h,aU<|Ey h,e];unfold bZ;simp
def wV{t1 t2 t3:Int}(e:t1 -t2=f -t3)(k:d*t1 -c*t2=a*f -b*t3)(j:t1<0/\0<t2\/0<t1/\t2<0)(p:t3<0/\0<f\/0<t3/\f<0):min a b<=max c d:=by
 show au λq=>?_;let r:c<a:=om;let s:d<a:=om;let t:c<b:=om;let u:d<b:=om;let[j,l]||[j,l]:=j
 .let h:0<t3:=om;let i:f<0:=om;let g||g:=qW c d
  .let m:=bD (show 0<=d -c by lk) (show 0<=t2 by lk)
   let n:=cj (show 0<a -d by lk) (show 0< -f by lk)
   let o:=cj (show 0<b -d by lk) h
   let:d*(t1 -t2)=d*(f -t3):=by rw[e]
   grind
  .let m:=bD (show 0<=c -d by lk) (show 0<= -t1 by lk)
   let n:=cj (show 0<a -c by lk) (show 0< -f by lk)
   let o:=cj (show 0<b -c by lk) h
   let:c*(t1 -t2)=c*(f -t3):=by rw[e]
   grind
 .let h:t3<0:=om;let i:0<f:=om;let g||g:=qW c d
  .let m:=bD (show 0<=d -c by lk) (show 0<= -t2 by lk)
   let n:=cj (show 0<a -d by lk) i
   let o:=cj (show 0<b -d by lk) (show 0< -t3 by lk)
   let:d*(t1 -t2)=d*(f -t3):=by rw[e]
   grind
  .let m:=bD (show 0<=c -d by lk) (show 0<=t1 by lk)
   let n:=cj (show 0<a -c by lk) i
   let o:=cj (show 0<b -c by lk) (show 0< -t3 by lk)
   let:c*(t1 -t2)=c*(f -t3):=by rw[e]
   grind
def lC(a b c d:Pt):turnOf a b c -turnOf a b d=turnOf c d b -turnOf c d a:=by unfold turnOf;grind
def FS(a b c d:Pt):d.x*turnOf a b c -c.x*turnOf a b d=a.x*turnOf c d b -b.x*turnOf c d a:=by unfold turnOf;grind
def FT(a b c d:Pt):d.y*turnOf a b c -c.y*turnOf a b d=a.y*turnOf c d b -b.y*turnOf c d a:=by unfold turnOf;grind
def C2(e:opposite (turnOf a b c) (turnOf a b d)=true)(f:opposite (turnOf c d a) (turnOf c d b)=true):fK a b c d:=by
 let e:=fm.mp e;let f:=fm.mp f;let g:=lC a b c d;let h:=lC c d a b;show#[wV g (FS a b c d) e f,wV h (FS c d a b) f e,wV g (FT a b c d) e f,wV h (FT c d a b) f e]
def ow(h:meet a b c d=true):d_ a b c d=true:=by
 unfold meet at h;simp only[fZ,be]at h;let[e,f]||h||h||h||h:=h
 .unfold d_;rw[aU<|C2 e f];let e:=fm.mp e;let f:=fm.mp f;let g:bZ (turnOf a b c) (turnOf a b d)=false:=eE.mpr λh=>by
   let:=ff.mp h;lk
  let i:bZ (turnOf c d a) (turnOf c d b)=false:=eE.mpr λh=>by
   let:=ff.mp h;lk
  rw[g,i];rfl
 .show nW h
 .rw[nV];show nW h
 .rw[kO];show nW h
 .rw[kO,nV];show nW h
def nX{a b c d:Pt}(g:turnOf a b c=0)(r:turnOf a b d≠0)(e:bZ (turnOf c d a) (turnOf c d b)=false):onSeg c a b=true:=by
 show ii.mpr #[g,?_];let e:¬0<turnOf c d a*turnOf c d b:=λh=>by rw[u5.mpr h]at e;cases e
 let t:=lC a b c d;show au λj=>?_;let l:(a.x -c.x)*(b.y -c.y)=(a.y -c.y)*(b.x -c.x):=by unfold turnOf at g;grind
 let k:=xA (wx:=d.x -c.x) (wy:=d.y -c.y) l;let f:=AB (wx:=d.x -c.x) (wy:=d.y -c.y) l;let n:turnOf c d a=(d.x -c.x)*(a.y -c.y) -(d.y -c.y)*(a.x -c.x):=rfl;let o:turnOf c d b=(d.x -c.x)*(b.y -c.y) -(d.y -c.y)*(b.x -c.x):=rfl;rw[<-n,<-o]at k f;let u:0<(a.x -c.x)*(a.x -c.x)+(a.y -c.y)*(a.y -c.y):=by
  show xB ?_;show au λv=>?_;let p:a.x -c.x=0:=om;let q:a.y -c.y=0:=om;rw[p,q]at j;simp at j
 by_cases i:turnOf c d a=0
 .rw[i]at f;simp only[dX]at f;let s:turnOf c d b=0:=by
   let h||h:=bY.mp f
   .show h
   .lk
  lk
 .let m:=cj (show 0<(a.x -c.x)*(b.x -c.x)+(a.y -c.y)*(b.y -c.y) by lk)<|sq_pos i
  rw[<-k]at m;let h||h:=gZ m
  .show e h.1
  .lk
def Ez{a b c d:Pt}(u:turnOf a b c=0)(v:turnOf a b d=0)(w:turnOf c d a=0)(x:turnOf c d b=0)(J:fK a b c d):
  onSeg c a b=true\/onSeg d a b=true\/onSeg a c d=true\/onSeg b c d=true:=by
 show au λA=>?_;simp only[not_or]at A;let[B,C,D,E]:=A;rw[ii]at B C D E;let i:0<(a.x -c.x)*(b.x -c.x)+(a.y -c.y)*(b.y -c.y):=by
  let h||h:=zE 0 ((a.x -c.x)*(b.x -c.x)+(a.y -c.y)*(b.y -c.y))
  .show h
  .show absurd #[u,h] B
 let p:0<(a.x -d.x)*(b.x -d.x)+(a.y -d.y)*(b.y -d.y):=by
  let h||h:=zE 0 ((a.x -d.x)*(b.x -d.x)+(a.y -d.y)*(b.y -d.y))
  .show h
  .show absurd #[v,h] C
 let j:0<(c.x -a.x)*(d.x -a.x)+(c.y -a.y)*(d.y -a.y):=by
  let h||h:=zE 0 ((c.x -a.x)*(d.x -a.x)+(c.y -a.y)*(d.y -a.y))
  .show h
  .show absurd #[w,h] D
 let q:0<(c.x -b.x)*(d.x -b.x)+(c.y -b.y)*(d.y -b.y):=by
  let h||h:=zE 0 ((c.x -b.x)*(d.x -b.x)+(c.y -b.y)*(d.y -b.y))
  .show h
  .show absurd #[x,h] E
 unfold turnOf at u v w x;let[F,G,H,I]:=J;let K:=lB (by grind) i
 let L:=lB (by grind) p
 let M:=lB (by grind) j
 let N:=lB (by grind) q
 by_cases o:a.x=c.x/\b.x=c.x/\d.x=c.x
 .let[S,T,U]:=o;simp only[S,T,U,wh,dX,nO]at i p j q;show apart1 i p j q H I
 .
  let r:∀{l s m t:Int},l*t=s*m->0<l*m+s*t->0<=l*m->(¬(l=0/\m=0))->0<l*m:=by
   intro l s m t e g n h;let n||n:=Int.lt_or_eq_of_le n
   .show n
   .exfalso;let z||z:=bY.mp n.symm
    .subst z;simp only[GS,nO]at e g;let z||z:=bY.mp e.symm
     .subst z;simp at g
     .show h #[0,z]
    .subst z;simp only[dX,nO]at e g;let z||z:=bY.mp e
     .show h #[z,0]
     .subst z;simp at g
  let O:¬(a.x -c.x=0/\b.x -c.x=0):=λh=>by
   let k:c.x -a.x=0:=om;let:d.x -a.x≠0:=λy=>o #[om,om,om];let f:(c.x -a.x)*(d.y -a.y)=(c.y -a.y)*(d.x -a.x):=by grind
   rw[k]at f j;simp only[GS,nO]at f j;let z||z:=bY.mp f.symm
   .rw[z]at j;simp at j
   .show this z
  let P:¬(a.x -d.x=0/\b.x -d.x=0):=λh=>by
   let k:d.x -a.x=0:=om;let:c.x -a.x≠0:=λy=>o #[om,om,om];let f:(c.x -a.x)*(d.y -a.y)=(c.y -a.y)*(d.x -a.x):=by grind
   rw[k]at f j;simp only[dX,nO]at f j;let z||z:=bY.mp f
   .show this z
   .rw[z]at j;simp at j
  let Q:¬(c.x -a.x=0/\d.x -a.x=0):=λh=>by
   let k:a.x -c.x=0:=om;let:b.x -c.x≠0:=λy=>o #[om,om,om];let f:(a.x -c.x)*(b.y -c.y)=(a.y -c.y)*(b.x -c.x):=by grind
   rw[k]at f i;simp only[GS,nO]at f i;let z||z:=bY.mp f.symm
   .rw[z]at i;simp at i
   .show this z
  let R:¬(c.x -b.x=0/\d.x -b.x=0):=λh=>by
   let k:b.x -c.x=0:=om;let:a.x -c.x≠0:=λy=>o #[om,om,om];let f:(a.x -c.x)*(b.y -c.y)=(a.y -c.y)*(b.x -c.x):=by grind
   rw[k]at f i;simp only[dX,nO]at f i;let z||z:=bY.mp f
   .show this z
   .rw[z]at i;simp at i
  show apart1 (r (by grind) i K.1 O) (r (by grind) p L.1 P) (r (by grind) j M.1 Q) (r (by grind) q N.1 R) F G
def vI(h:d_ a b c d=true):meet a b c d=true:=by
 unfold d_ at h;simp only[be,CU,dI]at h;let[i,j,n]:=h;unfold meet;simp only[fZ,be];let t:=lC a b c d;let f:∀u v:Int,bZ u v=false->(u<0/\0<v\/0<u/\v<0)\/u=0\/v=0:=by
  intro u v h;let:¬((0<u/\0<v)\/(u<0/\v<0)):=λg=>by rw[ff.mpr g]at h;cases h
  lk
 let w:=f _ _ i;let x:=f _ _ j;let r:bZ (turnOf a b d) (turnOf a b c)=false:=by rw[nU];show i
 let s:bZ (turnOf c d b) (turnOf c d a)=false:=by rw[nU];show j
 let p:bZ (turnOf d c a) (turnOf d c b)=false:=by rw[jg c d a,jg c d b,oV];show j
 let q:bZ (turnOf b a c) (turnOf b a d)=false:=by rw[jg a b c,jg a b d,oV];show i
 by_cases o:(opposite (turnOf a b c) (turnOf a b d)=true/\opposite (turnOf c d a) (turnOf c d b)=true)
 .show .inl o
 .right;rw[fm,fm]at o;by_cases cU:turnOf a b c=0
  .by_cases k:turnOf a b d=0
   .let e:turnOf c d a=turnOf c d b:=om;let l:turnOf c d a=0:=om;show Ez cU k l om n
   .show .inl<|nX cU k j
  .by_cases k:turnOf a b d=0
   .show .inr<|.inl<|nX k cU p
   .by_cases l:turnOf c d a=0
    .by_cases m:turnOf c d b=0
     .lk
     .show .inr<|.inr<|.inl<|nX l m i
    .by_cases m:turnOf c d b=0
     .show .inr<|.inr<|.inr<|nX m l q
     .exfalso;lk
def gb(a b c d:Pt):d_ a b c d=meet a b c d:=by
 rw[bQ];show#[vI,ow]
def dj(p a b:Pt)(e:Int):Bool:=
 let d:=b.x -a.x
 let c:=b.y -a.y
 let x:=p.x -a.x
 let y:=p.y -a.y
 let g:=x*d+y*c
 if g<=0 then decide (x*x+y*y<=e)else
 let length:=d*d+c*c
 if length<=g then decide ((p.x -b.x)*(p.x -b.x)+(p.y -b.y)*(p.y -b.y)<=e)else
 let f:=d*y -c*x
 decide (f*f<=e*length)
def jh(a b c d:Pt)(i:Int):Bool:=
 let f:=b.x -a.x
 let e:=b.y -a.y
 let first:=f*(c.y -a.y) -e*(c.x -a.x)
 let h:=f*(d.y -a.y) -e*(d.x -a.x)
 if bZ first h=false then false else
 let g:=min (first.natAbs:Int) (h.natAbs:Int)
 decide (i*(f*f+e*e)<g*g)
def rT(a b c d:Pt)(e:Int):Bool:=
 if jh a b c d e||jh c d a b e then false else
 if d_ a b c d then true else
 if dj a c d e||dj b c d e then true else
 dj c a b e||dj d a b e
def eX(a b c d:Pt)(e:Int):Bool:=meet a b c d||(dj a c d e||(dj b c d e||(dj c a b e||dj d a b e)))
def Br(z:Int):(z.natAbs:Int)*(z.natAbs:Int)=z*z:=by
 let h||h:=Int.natAbs_eq z
 .rw[<-h]
 .generalize z.natAbs=n at h;subst h;grind
def qG{a b c:Int}(h:a*c<b*c)(d:0<=c):a<b:=by
 show au λe=>?_;let:=bR (show b<=a by lk) d
 lk
def cs(a c b d:Int):(a*d -c*b)*(a*d -c*b)<=(a*a+c*c)*(b*b+d*d):=by
 let h:=sq_nonneg<|a*b+c*d;let e:(a*a+c*c)*(b*b+d*d)=(a*d -c*b)*(a*d -c*b)+(a*b+c*d)*(a*b+c*d):=by grind
 lk
def rV(x y:Int):0<=x*x+y*y:=by
 let:=sq_nonneg x;let:=sq_nonneg y;lk
def lX{ax ay cx cy L:Int}(h:L*(ax*ax+ay*ay)<(ax*cy -ay*cx)*(ax*cy -ay*cx)):L<cx*cx+cy*cy:=by
 let k:=cs ax ay cx cy;let a:L*(ax*ax+ay*ay)<(cx*cx+cy*cy)*(ax*ax+ay*ay):=by
  let:(cx*cx+cy*cy)*(ax*ax+ay*ay)=(ax*ax+ay*ay)*(cx*cx+cy*cy):=i8 _ _;lk
 show qG a<|rV ax ay
def a8(a b c:Pt):turnOf a b c=(b.x -a.x)*(c.y -b.y) -(b.y -a.y)*(c.x -b.x):=by unfold turnOf;grind
def xD{a b c:Pt}{L:Int}(h:L*((b.x -a.x)*(b.x -a.x)+(b.y -a.y)*(b.y -a.y))<turnOf a b c*turnOf a b c):dj c a b L=false:=by
 unfold dj;simp only;split
 .let:=lX h;show bE om
 .split
  .rw[a8]at h;let:=lX h;show bE om
  .let e:turnOf a b c=(b.x -a.x)*(c.y -a.y) -(b.y -a.y)*(c.x -a.x):=rfl;rw[<-e];show bE om
def weigh(d:0<=t)(i:t<=l)(e:0<=n)(f:(n<=u/\n<=v)\/(u<= -n/\v<= -n)):(l*n)*(l*n)<=((l -t)*u+t*v)*((l -t)*u+t*v):=by
 let a:0<=l*n:=bD om e;let[b,c]||[b,c]:=f
 .let g:=bG b (show 0<=l -t by lk)
  let h:=bG c d;let:l*n<=(l -t)*u+t*v:=by grind
  show pV this this a om
 .let g:=bG b (show 0<=l -t by lk)
  let h:=bG c d;let:l*n<= -((l -t)*u+t*v):=by grind
  let k:=pV this this a om;grind
def foot(c d a b:Int):((c*a+d*b)*a -(a*a+b*b)*c)*((c*a+d*b)*a -(a*a+b*b)*c)+((c*a+d*b)*b -(a*a+b*b)*d)*((c*a+d*b)*b -(a*a+b*b)*d)
  =(a*a+b*b)*((a*d -b*c)*(a*d -b*c)):=by
 let e:(c*a+d*b)*a -(a*a+b*b)*c=b*(a*d -b*c):=by grind
 let f:(c*a+d*b)*b -(a*a+b*b)*d= -(a*(a*d -b*c)):=by grind
 rw[e,f];generalize a*d -b*c=z;grind
def u9{a b c d:Pt}{L n:Int}(E:0<=L)(p:0<=n)(h:L*((b.x -a.x)*(b.x -a.x)+(b.y -a.y)*(b.y -a.y))<n*n)
  (x:(n<=turnOf a b c/\n<=turnOf a b d)\/(turnOf a b c<= -n/\turnOf a b d<= -n)):dj a c d L=false:=by
 let j:∀z:Int,(n<=z\/z<= -n)->n*n<=z*z:=by
  intro z i;let i||i:=i
  .show pV i i p om
  .let:=pV (show n<= -z by lk) (show n<= -z by lk) p om
   grind
 unfold dj;simp only;split
 .let k:=j (turnOf a b c) om;let:=lX (L:=L) (ax:=b.x -a.x) (ay:=b.y -a.y) (cx:=c.x -a.x) (cy:=c.y -a.y)<|hA h k;show bE ?_;let e:(a.x -c.x)*(a.x -c.x)+(a.y -c.y)*(a.y -c.y)=(c.x -a.x)*(c.x -a.x)+(c.y -a.y)*(c.y -a.y):=by grind
  lk
 .split
  .let k:=j (turnOf a b d) om;let:=lX (L:=L) (ax:=b.x -a.x) (ay:=b.y -a.y) (cx:=d.x -a.x) (cy:=d.y -a.y)<|hA h k;show bE ?_;let e:(a.x -d.x)*(a.x -d.x)+(a.y -d.y)*(a.y -d.y)=(d.x -a.x)*(d.x -a.x)+(d.y -a.y)*(d.y -a.y):=by grind
   lk
  .rename_i u q;show bE ?_;generalize y:(a.x -c.x)*(d.x -c.x)+(a.y -c.y)*(d.y -c.y)=t at u q;generalize v:(d.x -c.x)*(d.x -c.x)+(d.y -c.y)*(d.y -c.y)=l at q|-;let w:=weigh (t:=t) (l:=l) om om p x;let o:=rV (b.x -a.x)<|b.y -a.y;let k:=cs (b.x -a.x) (b.y -a.y) (l*(c.x -a.x)+t*(d.x -c.x))<|l*(c.y -a.y)+t*(d.y -c.y);let r:(b.x -a.x)*(l*(c.y -a.y)+t*(d.y -c.y)) -(b.y -a.y)*(l*(c.x -a.x)+t*(d.x -c.x))=(l -t)*turnOf a b c+t*turnOf a b d:=by unfold turnOf;grind
   let s:(l*(c.x -a.x)+t*(d.x -c.x))*(l*(c.x -a.x)+t*(d.x -c.x))+(l*(c.y -a.y)+t*(d.y -c.y))*(l*(c.y -a.y)+t*(d.y -c.y))=l*(((d.x -c.x)*(a.y -c.y) -(d.y -c.y)*(a.x -c.x))*((d.x -c.x)*(a.y -c.y) -(d.y -c.y)*(a.x -c.x))):=by
    let f:=foot (a.x -c.x) (a.y -c.y) (d.x -c.x)<|d.y -c.y;rw[y,v]at f;let C:l*(c.x -a.x)+t*(d.x -c.x)=t*(d.x -c.x) -l*(a.x -c.x):=by grind
    let D:l*(c.y -a.y)+t*(d.y -c.y)=t*(d.y -c.y) -l*(a.y -c.y):=by grind
    rw[C,D];show f
   rw[r,s]at k;generalize ((d.x -c.x)*(a.y -c.y) -(d.y -c.y)*(a.x -c.x))*((d.x -c.x)*(a.y -c.y) -(d.y -c.y)*(a.x -c.x))=T at k|-;generalize (b.x -a.x)*(b.x -a.x)+(b.y -a.y)*(b.y -a.y)=m at*;let g:0<l:=om;let A:(l*(n*n))*l<=(m*T)*l:=by grind
   let F:l*(n*n)<=m*T:=Int.le_of_mul_le_mul_right A g;let G:l*(L*m)<l*(n*n):=qo h g;let B:(L*l)*m<T*m:=by grind
   let:=qG B o;lk
def a9(a b c:Pt):turnOf b a c= -turnOf a b c:=jg a b c
def Ll(a b:Pt):(a.x -b.x)*(a.x -b.x)+(a.y -b.y)*(a.y -b.y)=(b.x -a.x)*(b.x -a.x)+(b.y -a.y)*(b.y -a.y):=by grind
def mH(a b c d:Pt)(L:Int):eX a b c d L=eX c d a b L:=by
 unfold eX;let:meet a b c d=meet c d a b:=by rw[<-gb,<-gb,kO]
 rw[this];cases meet c d a b<;>cases dj a c d L<;>cases dj b c d L<;>cases dj c a b L<;>cases dj d a b L<;>rfl
def EA(k:0<=L)(h:jh a b c d L=true):eX a b c d L=false:=by
 unfold jh at h;simp only at h;split at h
 .cases h
 .rename_i i;let i:bZ (turnOf a b c) (turnOf a b d)=true:=by
   cases e:bZ (turnOf a b c) (turnOf a b d)
   .show absurd e i
   .rfl
  let h:L*((b.x -a.x)*(b.x -a.x)+(b.y -a.y)*(b.y -a.y))<min ((turnOf a b c).natAbs:Int) ((turnOf a b d).natAbs:Int)*min ((turnOf a b c).natAbs:Int) ((turnOf a b d).natAbs:Int):=aF h;let l:meet a b c d=false:=by
   rw[<-gb];unfold d_;rw[i];rfl
  let os:=ff.mp i;generalize s:min ((turnOf a b c).natAbs:Int) ((turnOf a b d).natAbs:Int)=n at h;let j:0<=n:=om;let r:(n<=turnOf a b c/\n<=turnOf a b d)\/(turnOf a b c<= -n/\turnOf a b d<= -n):=om;let g:∀z:Int,(n<=z\/z<= -n)->n*n<=z*z:=by
   intro z f;let f||f:=f
   .show pV f f j om
   .let:=pV (show n<= -z by lk) (show n<= -z by lk) j om
    grind
  let m:=u9 k j h r;let o:dj b c d L=false:=by
   show u9 (a:=b) (b:=a) k j (by rw[Ll];show h) ?_
   let t:=a9 a b c;let u:=a9 a b d;lk
  let p:dj c a b L=false:=xD<|hA h<|g _ om;let q:dj d a b L=false:=xD<|hA h<|g _ om;unfold eX;rw[l,m,o,p,q];rfl
def xE(a b c d:Pt)(e:0<=L):rT a b c d L=eX a b c d L:=by
 unfold rT;split
 .rename_i h;let h||h:=Bool.or_eq_true_iff.mp h
  .rw[EA e h]
  .rw[mH,EA e h]
 .unfold eX;rw[gb];cases meet a b c d<;>cases dj a c d L<;>cases dj b c d L<;>rfl
def jt{f:Frac}{n:Nat}:f.le (.whole n)=decide (f.num<=n*f.den):=by
 unfold Frac.le Frac.whole;simp
def least_le{f g:Frac}{n:Nat}(a:0<f.den)(b:0<g.den):(Frac.least f g).le (.whole n)=(f.le (.whole n)||g.le (.whole n)):=by
 unfold Frac.least;split
 .rename_i h;rw[Frac.le,dI]at h;rw[bQ,fZ,jt,jt,dI,dI];walk
  .show .inl
  .ext(k|k)
   .show k
   .let c:=oQ f.den k;let:f.num*g.den<=(n*f.den)*g.den:=by grind
    show pu this b
 .rename_i h;rw[Frac.le,dI]at h;rw[bQ,fZ,jt,jt,dI,dI];walk
  .show .inr
  .ext(k|k)
   .let c:=oQ g.den k;let:g.num*f.den<=(n*g.den)*f.den:=by grind
    show pu this a
   .show k
def GX(a:0<f.den)(b:0<g.den):0<(Frac.least f g).den:=by
 unfold Frac.least;split<;>assumption
def bt(n:Nat):∀(l:List Frac) (f:Frac),0<f.den->(∀g∈l,0<g.den)->(l.foldl Frac.least f).le (.whole n)=(f.le (.whole n)||l.any λg=>g.le<|.whole n)/\0<(l.foldl Frac.least f).den
 |[],f,a,_=>by simp[a]
 |g::r,f,a,c=>by
  let b:=c g<|by simp
  let k:=bt n r (Frac.least f g) (GX a b) λx d=>c x<|by simp[d]
  rw[f6];show#[?_,k.2];rw[k.1,least_le a b,jH,Bool.or_assoc]
def q_(a:l≠[])(h:∀g∈l,0<g.den):(leastOf l).le (.whole n)=(l.any λg=>g.le<|.whole n)/\0<(leastOf l).den:=by
 cases l with
 |nil=>show absurd rfl a
 |cons f r=>
  let:=bt n r f (h f<|by simp) λx b=>h x<|by simp[b]
  show#[by rw[jH];show this.1,this.2]
def EB{f:Frac}{n:Nat}(h:0<f.den):f.reduced.le (.whole n)=f.le (.whole n):=by
 rw[jt,jt,b8];unfold Frac.reduced;simp only;let c:0<Nat.gcd f.num f.den:=ss _ h;let[a,d]:=Hu f.num f.den;let[b,e]:=CT f.num f.den;generalize Nat.gcd f.num f.den=g at*;rw[d,e,MX _ c,MX _ c];walk
 .intro k;let:=zt g k;grind
 .intro k;show hJ ?_ c;grind
def xF(a b:Pt):(len2 a b:Int)=(a.x -b.x)*(a.x -b.x)+(a.y -b.y)*(a.y -b.y):=by
 unfold len2 sq;rw[Sn,QP,QP,Br,Br]
def rY(p a b:Pt):0<(pointSeg p a b).den:=by
 unfold pointSeg;simp only;split
 .show Nat.one_pos
 .split
  .show Nat.one_pos
  .change 0<len2 a b;lk
def bv(p a b:Pt)(n:Nat):dj p a b (n:Int)=(pointSeg p a b).le (.whole n):=by
 rw[jt];unfold dj pointSeg;let c:dot (sub p a) (sub b a)=(p.x -a.x)*(b.x -a.x)+(p.y -a.y)*(b.y -a.y):=rfl;simp only[c];split
 .rw[b8];change _↔len2 p a<=n*1;let:=xF p a;lk
 .let g:=xF a b;let h:(len2 a b:Int)=(b.x -a.x)*(b.x -a.x)+(b.y -a.y)*(b.y -a.y):=by rw[g];grind
  rw[<-h];split
  .rw[b8];change _↔len2 p b<=n*1;let:=xF p b;lk
  .rw[b8];change _↔sq (turnOf a b p)<=n*len2 a b;let d:((sq (turnOf a b p):Nat):Int)=turnOf a b p*turnOf a b p:=by
    unfold sq;rw[QP,Br]
   let e:((n*len2 a b:Nat):Int)=(n:Int)*(len2 a b:Int):=QP _ _;let f:turnOf a b p=(b.x -a.x)*(p.y -a.y) -(b.y -a.y)*(p.x -a.x):=rfl;rw[<-f,<-d,<-e];lk
def EC(a b c d:Pt):0<(segSeg a b c d).den:=by
 unfold segSeg;split
 .show Nat.one_pos
 .show(q_ (n:=0) SX ?_).2
  intro g e;simp only[aB,cA,k8]at e;let 0||0||0||0:=e<;>show rY _ _ _
def C3(a b c d:Pt)(n:Nat):eX a b c d (n:Int)=(segSeg a b c d).le (.whole n):=by
 unfold eX segSeg;split
 .rename_i h;rw[h,jt];simp[Frac.whole]
 .rename_i h;let h:meet a b c d=false:=by cases e:meet a b c d<;>simp_all
  rw[h,(q_ SX (by
   intro g f;simp only[aB,cA,k8]at f;let 0||0||0||0:=f<;>show rY _ _ _)).1]
  simp only[jH,List.any_nil,bv,iw,lc]
def par{a:Type}(P:a->Bool):List a->Bool
 |[]=>false
 |e::r=>Bool.xor (P e)<|par P r
def xG(P:a->Bool):∀l:List a,par P l=decide ((l.filter P).length%2=1)
 |[]=>rfl
 |e::r=>by
  rw[par,xG P r,js];cases P e
  .simp
  .simp only[Bool.true_bne,QQ,aY,Bool.xor];let h||h:=Nat.mod_two_eq_zero_or_one (r.filter P).length
   .let:((r.filter P).length+1)%2=1:=om;simp[h,this]
   .let:((r.filter P).length+1)%2=0:=om;simp[h,this]
def mW:∀{l:List b},(∀e∈l,P e=Q e)->par P l=par Q l
 |[],_=>rfl
 |e::r,h=>by rw[par,par,h e<|by simp,mW λx a=>h x<|by simp[a]]
def FU(P Q:a->Bool):∀l:List a,par (λe=>Bool.xor (P e)<|Q e) l=Bool.xor (par P l) (par Q l)
 |[]=>rfl
 |e::r=>by
  rw[par,par,par,FU P Q r];cases P e<;>cases Q e<;>cases par P r<;>cases par Q r<;>rfl
def GY(h:∀e∈l,P e=false):par P l=false:=by
 rw[mW (Q:=λ_=>false) h]
 induction l with
 |nil=>rfl
 |cons x r b=>rw[par,b λe a=>h e<|by simp[a]];rfl
def C4(f:Pt->Bool)(z:Pt):∀(r:List Pt) (x:Pt),par (λe=>Bool.xor (f e.1)<|f e.2) ((x::r).zip<|r++[z])=Bool.xor (f x) (f z)
 |[],x=>by simp[par]
 |y::r,x=>by
  rw[nb,Av,par,C4 f z r y];cases f x<;>cases f y<;>cases f z<;>rfl
def GZ(h:3<=l.length):∃p r,l=p::r/\edges l=(p::r).zip (r++[p]):=by
 match l,h with
 |p::q::s::r,_=>show#[p,q::s::r,0,0]
def AC(f:Pt->Bool)(h:3<=l.length):par (λe=>Bool.xor (f e.1)<|f e.2) (edges l)=false:=by
 let[p,r,_,e]:=GZ h;rw[e,C4];simp
def wW(l:List Pt)(p:Pt):odd l p=(decide (3<=l.length)&&par (rightOf p) (edges l)):=by
 unfold odd;rw[xG]
def fR:rightOf p e=true↔((e.1.y<=p.y/\p.y<e.2.y)/\0<turnOf e.1 e.2 p)\/((e.2.y<=p.y/\p.y<e.1.y)/\turnOf e.1 e.2 p<0):=by
 unfold rightOf;simp
def rZ(p a b:Pt):rightOf p (b,a)=rightOf p (a,b):=by
 rw[bQ,fR,fR];let:=jg a b p;simp only;lk
def meet_comm(a b c d:Pt):meet a b c d=meet c d a b:=by rw[<-gb,<-gb,kO]
def AD(a b c d:Pt):meet a b c d=meet a b d c:=by rw[<-gb,<-gb,nV]
def ED(a b c d:Pt):meet a b c d=meet b a c d:=by rw[meet_comm,AD,meet_comm]
def bB(p q v:Pt):Bool:=decide (p.y<v.y)&&(decide (v.y<=q.y)&&decide (turnOf p q v<0))
def IF:bB p q v=true↔p.y<v.y/\v.y<=q.y/\turnOf p q v<0:=by unfold bB;simp
def Rc(a b p q:Pt):turnOf a b p*(q.y -p.y)=(a.y -p.y)*turnOf p q b -(b.y -p.y)*turnOf p q a:=by unfold turnOf;grind
def Re(a b p q:Pt):turnOf a b q*(q.y -p.y)=(a.y -q.y)*turnOf p q b -(b.y -q.y)*turnOf p q a:=by unfold turnOf;grind
def IG(h:meet a b c d=false):
  ¬((turnOf a b c<0/\0<turnOf a b d\/0<turnOf a b c/\turnOf a b d<0)/\(turnOf c d a<0/\0<turnOf c d b\/0<turnOf c d a/\turnOf c d b<0))/\
  onSeg c a b=false/\onSeg d a b=false/\onSeg a c d=false/\onSeg b c d=false:=by
 unfold meet at h;simp only[Bq,nP]at h;let[e,f,g,i,j]:=h;show#[λk=>?_,f,g,i,j];let e||e:=e
 .rw[fm.mpr k.1]at e;cases e
 .rw[fm.mpr k.2]at e;cases e
def wX{a b p:Pt}(g:turnOf a b p=0)(h:(a.y<=p.y/\p.y<b.y)\/(b.y<=p.y/\p.y<a.y)\/(a.y<p.y/\p.y<=b.y)\/(b.y<p.y/\p.y<=a.y)):onSeg p a b=true:=by
 show ii.mpr #[g,?_];unfold turnOf at g;let e:(b.x -p.x)*(a.y -p.y)=(a.x -p.x)*(b.y -p.y):=by grind
 show au λi=>?_;let k:=lB (x1:=a.x -p.x) (y1:=a.y -p.y) (x2:=b.x -p.x) (y2:=b.y -p.y) (by grind) om
 let j:(a.y -p.y)*(b.y -p.y)<=0:=by
  let h||h||h||h:=h
  .show aV om om
  .show bW om om
  .show aV om om
  .show bW om om
 let f:(a.y -p.y)*(b.y -p.y)=0:=om;let d:0<(a.x -p.x)*(b.x -p.x):=om;let z||z:=bY.mp f
 .rw[z]at e;simp only[dX]at e;let c||c:=bY.mp e.symm
  .rw[c]at d;simp at d
  .lk
 .rw[z]at e;simp only[dX]at e;let c||c:=bY.mp e
  .rw[c]at d;simp at d
  .lk
def FV(hpq:p.y<=q.y)(hab:a.y<=b.y)(h:meet a b p q=false):Bool.xor (rightOf p (a,b)) (rightOf q (a,b))=Bool.xor (bB p q a) (bB p q b):=by
 let[hx,o1,G,N,o4]:=IG h;let s:=Rc a b p q;let w:=Re a b p q;let df:=lC a b p q;let strip:∀v:Pt,onSeg v p q=false->p.y<v.y->v.y<=q.y->turnOf p q v≠0:=λv o Y Z z=>by
  rw[wX z<|.inr<|.inr<|.inl #[Y,Z]]at o;cases o
 let sa:=strip a N;let sb:=strip b o4;let tp:((a.y<=p.y/\p.y<b.y))->turnOf a b p≠0:=λh z=>by rw[wX z<|.inl h]at o1;cases o1
 let tq:((a.y<=q.y/\q.y<b.y))->turnOf a b q≠0:=λh z=>by rw[wX z<|.inl h]at G;cases G
 let y:a.y=p.y->p.y=q.y->a.y<b.y->turnOf p q a=0->¬(turnOf a b p<0/\0<turnOf a b q\/0<turnOf a b p/\turnOf a b q<0):=by
  intro x F e3 e4 k;let U:turnOf a b p= -((b.y -a.y)*(p.x -a.x)):=by unfold turnOf;rw[x];grind
  let W:turnOf a b q= -((b.y -a.y)*(q.x -a.x)):=by unfold turnOf;rw[x,F];grind
  let:onSeg a p q=true:=by
   show ii.mpr #[e4,?_];let u:p.y -a.y=0:=om;rw[u,GS,Int.add_zero];let[C,D]||[C,D]:=k
   .let J:0<p.x -a.x:=by
     show au λf=>?_;let:=bW (show 0<=b.y -a.y by lk) (show p.x -a.x<=0 by lk)
     lk
    let K:q.x -a.x<0:=by
     show au λf=>?_;let:=bD (show 0<=b.y -a.y by lk) (show 0<=q.x -a.x by lk)
     lk
    show bW om om
   .let J:p.x -a.x<0:=by
     show au λf=>?_;let:=bD (show 0<=b.y -a.y by lk) (show 0<=p.x -a.x by lk)
     lk
    let K:0<q.x -a.x:=by
     show au λf=>?_;let:=bW (show 0<=b.y -a.y by lk) (show q.x -a.x<=0 by lk)
     lk
    show aV om om
  rw[this]at N;cases N
 let m:a.y=q.y->b.y=q.y->p.y<q.y->(turnOf p q a<0/\0<turnOf p q b\/0<turnOf p q a/\turnOf p q b<0)->False:=by
  intro x F e3 k;let U:turnOf p q a=(q.y -p.y)*(q.x -a.x):=by unfold turnOf;rw[x];grind
  let W:turnOf p q b=(q.y -p.y)*(q.x -b.x):=by unfold turnOf;rw[F];grind
  let f3:turnOf a b q=0:=by unfold turnOf;rw[x,F];grind
  let:onSeg q a b=true:=by
   show ii.mpr #[f3,?_];let u:a.y -q.y=0:=om;rw[u,GS,Int.add_zero];let r:∀z:Int,((q.y -p.y)*z<0->z<0)/\(0<(q.y -p.y)*z->0<z):=λz=>by
    walk
    .intro h;show au λf=>?_;let:=bD (show 0<=q.y -p.y by lk) (show 0<=z by lk)
     lk
    .intro h;show au λf=>?_;let:=bW (show 0<=q.y -p.y by lk) (show z<=0 by lk)
     lk
   rw[U,W]at k;let[C,D]||[C,D]:=k
   .let J:=(r _).1 C;let K:=(r _).2 D;show bW om om
   .let J:=(r _).2 C;let K:=(r _).1 D;show aV om om
  rw[this]at G;cases G
 let key:((rightOf p (a,b)=true↔rightOf q (a,b)=true)↔(bB p q a=true↔bB p q b=true)):=by
  simp only[fR,IF];generalize turnOf a b p=P at*;generalize turnOf a b q=R at*;generalize turnOf p q a=A at*;generalize turnOf p q b=B at*;by_cases T:a.y<=p.y
  .by_cases b0:b.y<=p.y
   .lk
   .by_cases I:b.y<=q.y
    .
     let j:0<q.y -p.y:=om;let d:=sb om I;let i:=tp #[T,om];let d||d:=Ax d
     .
      let:0<P:=by
       show au λf=>?_;let i:P<0:=om;let n:=fb i j;let t:=cw (show a.y -p.y<=0 by lk) (show B<=0 by lk)
       let c:0<A:=by
        show au λf=>?_;let:=bW (show 0<=b.y -p.y by lk) (show A<=0 by lk)
        lk
       let E:=IB (show a.y -q.y<0 by lk) d
       let M:=aV (show b.y -q.y<=0 by lk) (show 0<=A by lk)
       let l:0<R:=by
        show au λf=>?_;let:=aV (show R<=0 by lk) (show 0<=q.y -p.y by lk)
        lk
       lk
      lk
     .let:P<0:=by
       show au λf=>?_;let i:0<P:=om;let n:=cj i j;let t:=aV (show a.y -p.y<=0 by lk) (show 0<=B by lk)
       let c:A<0:=by
        show au λf=>?_;let:=bD (show 0<=b.y -p.y by lk) (show 0<=A by lk)
        lk
       let E:=fb (show a.y -q.y<0 by lk) d
       let M:=cw (show b.y -q.y<=0 by lk) (show A<=0 by lk)
       let l:R<0:=by
        show au λf=>?_;let:=bD (show 0<=R by lk) (show 0<=q.y -p.y by lk)
        lk
       lk
      lk
    .
     let i:=tp #[T,om];let l:=tq #[om,om];let:¬(0<P/\R<0)/\¬(P<0/\0<R):=by
      by_cases j:q.y -p.y=0
      .rw[j]at s w;simp only[dX]at s w;let X:(P<0/\0<R\/0<P/\R<0)->a.y=p.y->A=0->False:=λk e z=>y e om om z k;walk
       .ext⟨i,l⟩;let d||d:=zE 0 B
        .let n:=aV (show a.y -p.y<=0 by lk) (show 0<=B by lk)
         let c:A=0:=by
          let g||g||g:=kC A 0
          .lk
          .show g
          .let:=cj (show 0<b.y -p.y by lk) g
           lk
         show X om ?_ c;rw[c]at s;simp only[dX,Int.sub_zero]at s;let z||z:=bY.mp s.symm<;>lk
        .let n:=cw (show a.y -p.y<=0 by lk) d
         let t:=c_ (show 0<b.y -p.y by lk) (show A<0 by lk)
         lk
       .ext⟨i,l⟩;let d||d:=zE B 0
        .let n:=cw (show a.y -p.y<=0 by lk) (show B<=0 by lk)
         let c:A=0:=by
          let g||g||g:=kC A 0
          .let:=c_ (show 0<b.y -p.y by lk) g
           lk
          .show g
          .lk
         show X om ?_ c;rw[c]at s;simp only[dX,Int.sub_zero]at s;let z||z:=bY.mp s.symm<;>lk
        .let n:=aV (show a.y -p.y<=0 by lk) d
         let t:=cj (show 0<b.y -p.y by lk) (show 0<A by lk)
         lk
      .let j:0<q.y -p.y:=om;walk
       .ext⟨i,l⟩;let L:=cj i j;let n:=fb l j;let c:A<0:=by
         show au λf=>?_;let:=bD (show 0<=b.y -p.y by lk) (show 0<=A by lk)
         let:=aV (show a.y -p.y<=0 by lk) (show 0<=B by lk)
         lk
        let d:0<B:=by
         show au λf=>?_;let:=c_ (show 0<b.y -q.y by lk) c
         let:=cw (show a.y -q.y<=0 by lk) (show B<=0 by lk)
         lk
        lk
       .ext⟨i,l⟩;let L:=fb i j;let n:=cj l j;let c:0<A:=by
         show au λf=>?_;let:=bW (show 0<=b.y -p.y by lk) (show A<=0 by lk)
         let:=cw (show a.y -p.y<=0 by lk) (show B<=0 by lk)
         lk
        let d:B<0:=by
         show au λf=>?_;let:=cj (show 0<b.y -q.y by lk) c
         let:=aV (show a.y -q.y<=0 by lk) (show 0<=B by lk)
         lk
        lk
     lk
  .by_cases H:a.y<=q.y
   .by_cases I:b.y<=q.y
    .
     let j:0<q.y -p.y:=om;let c:=sa om H;let d:=sb om I;let:¬(A<0/\0<B)/\¬(0<A/\B<0):=by
      walk
      .ext⟨c,d⟩;let n:=cj (show 0<a.y -p.y by lk) d
       let t:=c_ (show 0<b.y -p.y by lk) c
       let i:0<P:=by
        show au λf=>?_;let:=aV (show P<=0 by lk) (show 0<=q.y -p.y by lk)
        lk
       let E:=aV (show a.y -q.y<=0 by lk) (show 0<=B by lk)
       let M:=cw (show b.y -q.y<=0 by lk) (show A<=0 by lk)
       let g||g||g:=kC R 0
       .lk
       .rw[g]at w;simp only[GS]at w;let Q:(a.y -q.y)*B=0:=om;let S:(b.y -q.y)*A=0:=om;let u:a.y=q.y:=by let z||z:=bY.mp Q<;>lk
        let O:b.y=q.y:=by let z||z:=bY.mp S<;>lk
        show m u O om<|.inl #[c,d]
       .let:=cj g j;lk
      .ext⟨c,d⟩;let n:=c_ (show 0<a.y -p.y by lk) d
       let t:=cj (show 0<b.y -p.y by lk) c
       let i:P<0:=by
        show au λf=>?_;let:=bD (show 0<=P by lk) (show 0<=q.y -p.y by lk)
        lk
       let E:=cw (show a.y -q.y<=0 by lk) (show B<=0 by lk)
       let M:=aV (show b.y -q.y<=0 by lk) (show 0<=A by lk)
       let g||g||g:=kC R 0
       .let:=fb g j;lk
       .rw[g]at w;simp only[GS]at w;let Q:(a.y -q.y)*B=0:=om;let S:(b.y -q.y)*A=0:=om;let u:a.y=q.y:=by let z||z:=bY.mp Q<;>lk
        let O:b.y=q.y:=by let z||z:=bY.mp S<;>lk
        show m u O om<|.inr #[c,d]
       .lk
     lk
    .
     let j:0<q.y -p.y:=om;let c:=sa om H;let l:=tq #[H,om];let:¬(A<0/\R<0)/\¬(0<A/\0<R):=by
      walk
      .ext⟨c,l⟩;let L:=fb l j;let n:=c_ (show 0<b.y -q.y by lk) c
       let d:0<B:=by
        show au λf=>?_;let:=cw (show a.y -q.y<=0 by lk) (show B<=0 by lk)
        lk
       let t:=cj (show 0<a.y -p.y by lk) d
       let E:=c_ (show 0<b.y -p.y by lk) c
       let i:0<P:=by
        show au λf=>?_;let:=aV (show P<=0 by lk) (show 0<=q.y -p.y by lk)
        lk
       lk
      .ext⟨c,l⟩;let L:=cj l j;let n:=cj (show 0<b.y -q.y by lk) c
       let d:B<0:=by
        show au λf=>?_;let:=aV (show a.y -q.y<=0 by lk) (show 0<=B by lk)
        lk
       let t:=c_ (show 0<a.y -p.y by lk) d
       let E:=cj (show 0<b.y -p.y by lk) c
       let i:P<0:=by
        show au λf=>?_;let:=bD (show 0<=P by lk) (show 0<=q.y -p.y by lk)
        lk
       lk
     lk
   .lk
 cases Y:rightOf p (a,b)<;>cases Z:rightOf q (a,b)<;>cases h3:bB p q a<;>cases h4:bB p q b<;>simp_all
def IH(d:p.y<=q.y)(h:meet a b p q=false):Bool.xor (rightOf p (a,b)) (rightOf q (a,b))=Bool.xor (bB p q a) (bB p q b):=by
 let c||c:=qW a.y b.y
 .show FV d c h
 .rw[<-rZ p a b,<-rZ q a b,FV d c<|by rw[<-ED];show h]
  cases bB p q a<;>cases bB p q b<;>rfl
def IJ(a:p.y<=q.y)(h:∀e∈edges k,meet e.1 e.2 p q=false):odd k p=odd k q:=by
 rw[wW,wW];by_cases b:3<=k.length
 .let c:par (λe=>Bool.xor (rightOf p e)<|rightOf q e) (edges k)=par (λe=>Bool.xor (bB p q e.1)<|bB p q e.2) (edges k):=mW λe d=>IH a<|h e d;rw[AC _ b,FU]at c;let:par (rightOf p) (edges k)=par (rightOf q) (edges k):=by
   cases f:par (rightOf p) (edges k)<;>cases g:par (rightOf q) (edges k)<;>simp_all
  rw[this]
 .simp[b]
def IK(h:∀e∈edges k,meet e.1 e.2 p q=false):odd k p=odd k q:=by
 let a||a:=qW p.y q.y
 .show IJ a h
 .show(IJ a λe b=>by rw[AD];show h e b).symm
structure oT where
 l:Int
 b:Int
 r:Int
 t:Int
 deriving DecidableEq
def zG:List Int->Int
 |[]=>0
 |x::r=>r.foldl (λm y=>if y<m then y else m) x
def zH:List Int->Int
 |[]=>0
 |x::r=>r.foldl (λm y=>if m<y then y else m) x
def bM(l:List Pt):oT:=#[zG (l.map (·.x)),zG<|l.map (·.y),zH<|l.map (·.x),zH<|l.map (·.y)]
def bU(e:Pt×Pt):oT:=bM [e.1,e.2]
def bO(b:oT)(D:Int):oT:=#[b.l -D,b.b -D,b.r+D,b.t+D]
def cC(b o:oT):Bool:=decide (b.l<=o.r)&&(decide (o.l<=b.r)&&(decide (b.b<=o.t)&&decide (o.b<=b.t)))
def gq(D:Int)(b s:oT):Bool:=decide (s.l<=b.r+D)&&(decide (b.l -D<=s.r)&&(decide (s.b<=b.t+D)&&decide (b.b -D<=s.t)))
def b_(a:List (Pt×Pt))(b:oT)(D:Int):List (Pt×Pt):=a.filter λe=>gq D b<|bU e
def jX(k l:List Pt)(D:Int):Bool:=
 (b_ (edges k) (bM l) D).any λe=>(b_ (b_ (edges l) (bM k) D) (bU e) D).any λf=>rT e.1 e.2 f.1 f.2<|D*D
def gu(p:Pt)(e:Pt×Pt):Bool:=(decide (e.1.y>p.y)!=decide (e.2.y>p.y))&&(decide (turnOf e.1 e.2 p>0)==decide (e.2.y>p.y))
def encl(k:List Pt)(p:Pt):Bool:=if k.length<3 then false else(edges k).foldl (λins e=>if gu p e then !ins else ins) false
def mX(k l:List Pt)(D:Int):Bool:=
 if cC (bO (bM k) D) (bM l)=false then false else
 if encl k (l.headD #[(0),(0)])||encl l (k.headD #[(0),(0)])then true else
 jX k l D
def re:∀(l:List Int) (x:Int),l.foldl (λm y=>if y<m then y else m) x<=x/\∀y∈l,l.foldl (λm y=>if y<m then y else m) x<=y
 |[],x=>by simp
 |z::r,x=>by
  rw[f6];let a:=re r (if z<x then z else x);let q:(if z<x then z else x)<=x/\(if z<x then z else x)<=z:=by split<;>lk
  show#[mE a.1 q.1,λy b=>?_]
  .let e||m:=aB.mp b
   .subst e;show mE a.1 q.2
   .show a.2 y m
def rf:∀(l:List Int) (x:Int),x<=l.foldl (λm y=>if m<y then y else m) x/\∀y∈l,y<=l.foldl (λm y=>if m<y then y else m) x
 |[],x=>by simp
 |z::r,x=>by
  rw[f6];let a:=rf r (if x<z then z else x);let q:x<=(if x<z then z else x)/\z<=(if x<z then z else x):=by split<;>lk
  show#[mE q.1 a.1,λy b=>?_]
  .let e||m:=aB.mp b
   .subst e;show mE q.2 a.1
   .show a.2 y m
def Bs(h:y∈l):zG l<=y:=by
 cases l with
 |nil=>simp at h
 |cons x r=>
  let e||m:=aB.mp h
  .rw[e];show(re r x).1
  .show(re r x).2 y m
def Bu(h:y∈l):y<=zH l:=by
 cases l with
 |nil=>simp at h
 |cons x r=>
  let e||m:=aB.mp h
  .rw[e];show(rf r x).1
  .show(rf r x).2 y m
def dP(h:p∈l):(bM l).l<=p.x/\p.x<=(bM l).r/\(bM l).b<=p.y/\p.y<=(bM l).t:=
 #[Bs (fB h),Bu<|fB h,Bs<|fB h,Bu<|fB h]
def p5(e:Pt×Pt):bU e=#[min e.1.x e.2.x,min e.1.y e.2.y,max e.1.x e.2.x,max e.1.y e.2.y]:=by
 unfold bU bM zG zH;simp only[bm,iP,f6,List.foldl_nil,oT.mk.injEq];show#[?_,?_,?_,?_]<;>split<;>lk
def dz(h:e∈edges l):e.1∈l/\e.2∈l:=by
 match l,h with
 |[],h=>simp[edges]at h
 |[p],h=>simp[edges]at h;subst h;simp
 |[p,q],h=>simp[edges]at h;subst h;simp
 |p::q::s::r,h=>
  have h:e∈(p::q::s::r).zip (q::s::r++[p]):=h;have:=jq (a:=e.1) (b:=e.2) h;show#[this.1,?_];let m:=this.2;let m||m:=aG.mp m
  .show aC _ m
  .simp at m;rw[m];simp
def C5(b:0<=D)(h:x*x<=D*D): -D<=x/\x<=D:=by
 walk
 .show au λa=>?_;let:=cj (show 0< -x -D by lk) (show 0< -x+D by lk)
  grind
 .show au λa=>?_;let:=cj (show 0<x -D by lk) (show 0<x+D by lk)
  grind
def IL{ux uy dx dy D t l T:Int}(j:0<=D)(p:ux*dx+uy*dy=t)(n:dx*dx+dy*dy=l)(m:dx*uy -dy*ux=T)(c:0<=t)(d:t<=l)(o:0<l)(h:T*T<=D*D*l):min 0 dx -D<=ux/\ux<=max 0 dx+D:=by
 let e:ux*l=t*dx -dy*T:=by subst p n m;grind
 let k:(dy*T)*(dy*T)<=(D*l)*(D*l):=by
  let f:dy*dy<=l:=by let:=sq_nonneg dx;lk
  let q:=bR f<|sq_nonneg T;let r:=bG h (show 0<=l by lk)
  grind
 let kk:=C5 (bD j om) k;walk
 .show au λb=>?_;let b:ux+1<=min 0 dx -D:=om;let g:t*dx>=l*min 0 dx:=by
   let a||a:=qW 0 dx
   .rw[Int.min_eq_left a,dX];show bD c a
   .rw[Int.min_eq_right a];let:=Int.mul_le_mul_of_nonpos_right d a;lk
  let i:=bR b (show 0<=l by lk)
  grind
 .show au λb=>?_;let b:max 0 dx+D+1<=ux:=om;let g:t*dx<=l*max 0 dx:=by
   let a||a:=qW 0 dx
   .rw[Int.max_eq_right a];show bR d a
   .rw[Int.max_eq_left a,dX];show bW c a
  let i:=bR b (show 0<=l by lk)
  grind
def nY{p a b:Pt}{D:Int}(c:0<=D)(h:dj p a b (D*D)=true):
  (min a.x b.x -D<=p.x/\p.x<=max a.x b.x+D)/\(min a.y b.y -D<=p.y/\p.y<=max a.y b.y+D):=by
 unfold dj at h;simp only at h;split at h
 .let h:=aF h;let:=sq_nonneg<|p.x -a.x;let:=sq_nonneg<|p.y -a.y;let d:=C5 (x:=p.x -a.x) c om;let e:=C5 (x:=p.y -a.y) c om;lk
 .split at h
  .let h:=aF h;let:=sq_nonneg<|p.x -b.x;let:=sq_nonneg<|p.y -b.y;let d:=C5 (x:=p.x -b.x) c om;let e:=C5 (x:=p.y -b.y) c om;lk
  .rename_i f g;let h:=aF h;let d:=IL (ux:=p.x -a.x) (uy:=p.y -a.y) (dx:=b.x -a.x) (dy:=b.y -a.y) c rfl rfl rfl om om om h;let e:=IL (ux:=p.y -a.y) (uy:=p.x -a.x) (dx:=b.y -a.y) (dy:=b.x -a.x) (T:= -((b.x -a.x)*(p.y -a.y) -(b.y -a.y)*(p.x -a.x))) c rfl rfl (by grind) om om om<|by grind
   lk
def r9(e:0<=D)(h:eX a b c d (D*D)=true):
  (min a.x b.x<=max c.x d.x+D/\min c.x d.x<=max a.x b.x+D)/\(min a.y b.y<=max c.y d.y+D/\min c.y d.y<=max a.y b.y+D):=by
 unfold eX at h;simp only[fZ]at h;let h||h||h||h||h:=h
 .let k:fK a b c d:=by
   let:=ow h;unfold d_ at this;simp only[be,dI]at this;show this.2.2
  unfold fK at k;lk
 .let:=nY e h;lk
 .let:=nY e h;lk
 .let:=nY e h;lk
 .let:=nY e h;lk
def kP:gq D b s=true↔s.l<=b.r+D/\b.l -D<=s.r/\s.b<=b.t+D/\b.b -D<=s.t:=by
 unfold gq;simp
def gy:cC b o=true↔b.l<=o.r/\o.l<=b.r/\b.b<=o.t/\o.b<=b.t:=by
 unfold cC;simp
def eO(k l:List Pt)(L:Int):Bool:=(edges k).any λe=>(edges l).any λf=>eX e.1 e.2 f.1 f.2 L
def tW(k l:List Pt)(d:0<=D):jX k l D=eO k l (D*D):=by
 let a:0<=D*D:=sq_nonneg D;rw[bQ];unfold jX eO b_;simp only[ci,aw];walk
 .ext⟨e,⟨b,_⟩,f,⟨⟨c,_⟩,_⟩,h⟩;show#[e,b,f,c,by rw[<-xE _ _ _ _ a];show h]
 .ext⟨e,b,f,c,h⟩;let n:=r9 d h;let g:=dP (dz b).1;let i:=dP (dz b).2;let j:=dP (dz c).1;let m:=dP (dz c).2;show#[e,#[b,?_],f,#[#[c,?_],?_],by rw[xE _ _ _ _ a];show h]
  .rw[kP,p5];simp only;lk
  .rw[kP,p5];simp only;lk
  .rw[kP,p5,p5];simp only;lk
def zI(c:0<=D)(h:eO k l (D*D)=true):cC (bO (bM k) D) (bM l)=true:=by
 unfold eO at h;simp only[ci]at h;let[e,a,f,b,h]:=h;let m:=r9 c h;let d:=dP (dz a).1;let g:=dP (dz a).2;let i:=dP (dz b).1;let j:=dP (dz b).2;rw[gy];unfold bO;simp only;lk
def C6(P:a->Bool):∀(l:List a) (b:Bool),l.foldl (λins e=>if P e then !ins else ins) b=Bool.xor b (par P l)
 |[],b=>by simp[par]
 |e::r,b=>by
  rw[f6,C6 P r,par];cases P e<;>cases b<;>cases par P r<;>rfl
def EE(h:onSeg p e.1 e.2=false):gu p e=rightOf p e:=by
 rw[bQ,fR];unfold gu;let z:(e.2.y<=p.y/\p.y<e.1.y)->turnOf e.1 e.2 p≠0:=λk z=>by
  rw[wX z<|.inr<|.inl k]at h;cases h
 simp only[be,z6,ne_eq,C1,b8];lk
def FW(h:onEdge k p=false):encl k p=odd k p:=by
 unfold encl;rw[wW];split
 .let:¬3<=k.length:=om;simp[this]
 .let:3<=k.length:=om;rw[C6,mW (Q:=rightOf p) λe a=>EE ?_]
  .simp[this]
  .unfold onEdge at h;rw[kD]at h;show eE.mpr<|h e a
def G1(h:max e.1.x e.2.x<p.x):rightOf p e=false:=by
 show eE.mpr λk=>?_;rw[fR]at k;unfold turnOf at k;let[[d,f],i]||[[d,f],i]:=k
 .let g||g:=qW e.2.x e.1.x
  .let a:=aV (show e.2.x -e.1.x<=0 by lk) (show 0<=p.y -e.1.y by lk)
   let b:=bD (show 0<=e.2.y -e.1.y by lk) (show 0<=p.x -e.1.x by lk)
   lk
  .let a:=bG (show p.y -e.1.y<=e.2.y -e.1.y by lk) (show 0<=e.2.x -e.1.x by lk)
   let b:=bG (show e.2.x -e.1.x<=p.x -e.1.x by lk) (show 0<=e.2.y -e.1.y by lk)
   grind
 .let g||g:=qW e.1.x e.2.x
  .let c:(e.2.x -e.1.x)*(p.y -e.1.y) -(e.2.y -e.1.y)*(p.x -e.1.x)=(e.1.y -e.2.y)*(p.x -e.2.x) -(e.2.x -e.1.x)*(e.2.y -p.y):=by grind
   let a:=bD (show 0<=e.1.y -e.2.y by lk) (show 0<=p.x -e.2.x by lk)
   let b:=bW (show 0<=e.2.x -e.1.x by lk) (show e.2.y -p.y<=0 by lk)
   lk
  .let c:(e.2.x -e.1.x)*(p.y -e.1.y) -(e.2.y -e.1.y)*(p.x -e.1.x)=(e.1.y -e.2.y)*(p.x -e.2.x) -(e.1.x -e.2.x)*(p.y -e.2.y):=by grind
   let a:=bG (show p.y -e.2.y<=e.1.y -e.2.y by lk) (show 0<=e.1.x -e.2.x by lk)
   let b:=bG (show e.1.x -e.2.x<=p.x -e.2.x by lk) (show 0<=e.1.y -e.2.y by lk)
   grind
def IM(h:p.x<min e.1.x e.2.x):rightOf p e=Bool.xor (decide<|e.1.y<=p.y) (decide<|e.2.y<=p.y):=by
 let c:rightOf p e=true↔¬(e.1.y<=p.y↔e.2.y<=p.y):=by
  rw[fR];let d:e.1.y<=p.y->p.y<e.2.y->0<turnOf e.1 e.2 p:=by
   intro b a;let g:turnOf e.1 e.2 p=(e.2.y -p.y)*(e.1.x -p.x)+(p.y -e.1.y)*(e.2.x -p.x):=by unfold turnOf;grind
   let i:=cj (show 0<e.2.y -p.y by lk) (show 0<e.1.x -p.x by lk)
   let j:=bD (show 0<=p.y -e.1.y by lk) (show 0<=e.2.x -p.x by lk)
   lk
  let f:e.2.y<=p.y->p.y<e.1.y->turnOf e.1 e.2 p<0:=by
   intro b a;let g:turnOf e.1 e.2 p= -((p.y -e.2.y)*(e.1.x -p.x)+(e.1.y -p.y)*(e.2.x -p.x)):=by unfold turnOf;grind
   let i:=cj (show 0<e.1.y -p.y by lk) (show 0<e.2.x -p.x by lk)
   let j:=bD (show 0<=p.y -e.2.y by lk) (show 0<=e.1.x -p.x by lk)
   lk
  walk
  .ext(k|k)<;>lk
  .intro k;by_cases b:e.1.y<=p.y
   .let a:p.y<e.2.y:=om;show .inl #[#[b,a],d b a]
   .let a:e.2.y<=p.y:=om;show .inr #[#[a,om],f a om]
 by_cases b:e.1.y<=p.y<;>by_cases a:e.2.y<=p.y
 .let:rightOf p e=false:=eE.mpr λh=>by rw[c]at h;simp[b,a]at h
  rw[this];simp[b,a]
 .rw[c.mpr<|by simp[b,a]];simp[b,a]
 .rw[c.mpr<|by simp[b,a]];simp[b,a]
 .let:rightOf p e=false:=eE.mpr λh=>by rw[c]at h;simp[b,a]at h
  rw[this];simp[b,a]
def FX(h:odd k p=true):(bM k).l<=p.x/\p.x<=(bM k).r/\(bM k).b<=p.y/\p.y<=(bM k).t:=by
 rw[wW,be,dI]at h;let[f,h]:=h;let b:∀e∈edges k,((bM k).l<=e.1.x/\e.1.x<=(bM k).r/\(bM k).b<=e.1.y/\e.1.y<=(bM k).t)/\((bM k).l<=e.2.x/\e.2.x<=(bM k).r/\(bM k).b<=e.2.y/\e.2.y<=(bM k).t):=
  λe a=>#[dP (dz a).1,dP (dz a).2]
 let d:∀{P:Prop},(¬P->∀e∈edges k,rightOf p e=false)->P:=λ{P} g=>by
  show au λc=>?_;rw[GY<|g c]at h;cases h
 show#[?_,d ?_,d ?_,d ?_]
 .show au λc=>?_;rw[mW (Q:=λe=>Bool.xor (decide<|e.1.y<=p.y)<|decide<|e.2.y<=p.y) λe a=>IM<|by let:=b e a;lk,
   AC (λv=>decide<|v.y<=p.y) f]at h
  cases h
 .intro c e a;show G1<|by let:=b e a;lk
 .intro c e a;show eE.mpr λg=>?_;rw[fR]at g;let:=b e a;lk
 .intro c e a;show eE.mpr λg=>?_;rw[fR]at g;let:=b e a;lk
def oX(h:p∈l):∃e∈edges l,p=e.1\/p=e.2:=by
 match l,h with
 |[q],h=>simp at h;subst h;show#[(p,p),by simp[edges],.inl rfl]
 |[q,s],h=>
  simp at h;show#[(q,s),by simp[edges],h]
 |a::b::c::r,h=>
  have g:(a::b::c::r).length=(b::c::r++[a]).length:=by simp
  let e:((a::b::c::r).zip<|b::c::r++[a]).map Prod.fst=a::b::c::r:=by
   rw[List.map_fst_zip];simp
  rw[<-e]at h;let[x,f,d]:=ae.mp h;show#[x,f,.inl d.symm]
def AE(P:Pt->Bool)(z:Pt):∀(r:List Pt) (x:Pt),(∀e∈(x::r).zip (r++[z]),P e.1=P e.2)->∀y∈r,P y=P x
 |[],_,_,y,b=>by simp at b
 |a::r,x,h,y,b=>by
  let c:P x=P a:=h (x,a)<|by simp
  let e||m:=aB.mp b
  .rw[e,c]
  .rw[AE P z r a (λe d=>h e<|by rw[nb,Av];show aC _ d) y m,c]
def IN{P:Pt->Bool}{l:List Pt}(h:∀e∈edges l,P e.1=P e.2):∀p∈l,P p=P (l.headD #[(0),(0)]):=by
 match l,h with
 |[],_=>intro p d;simp at d
 |[q],_=>intro p d;simp at d;subst d;rfl
 |[q,s],h=>
  intro p d;simp at d;let:=h (q,s)<|by simp[edges]
  let 0||0:=d
  .rfl
  .show this.symm
 |a::b::c::r,h=>
  intro p d;let e||m:=aB.mp d
  .rw[e];rfl
  .show AE P a (b::c::r) a h p m
def tX(h:meet a b c d=true):eX a b c d L=true:=by unfold eX;rw[h];rfl
def r_(k l:List Pt)(L:Int):eO k l L=eO l k L:=by
 rw[bQ];unfold eO;simp only[ci];walk
 .ext⟨e,a,f,b,h⟩;show#[f,b,e,a,by rw[mH];show h]
 .ext⟨e,a,f,b,h⟩;show#[f,b,e,a,by rw[mH];show h]
def EF(h:eO k l L=false)(a:p∈l):onEdge k p=false:=by
 show eE.mpr λg=>?_;unfold onEdge at g;simp only[ci]at g;let[e,b,g]:=g;let[f,c,a]:=oX a;let:eO k l L=true:=by
  unfold eO;simp only[ci];show#[e,b,f,c,tX ?_];unfold meet;let 0||0:=a
  .rw[g];simp
  .rw[g];simp
 rw[this]at h;cases h
def Lm{k l:List Pt}{L:Int}(h:eO k l L=false):∀p∈l,odd k p=odd k (l.headD #[(0),(0)]):=by
 show IN λf b=>IK λe a=>?_;show eE.mpr λg=>?_;let:eO k l L=true:=by
  unfold eO;simp only[ci];show#[e,a,f,b,tX g]
 rw[this]at h;cases h
def head_mem{l:List Pt}(h:l≠[]):l.headD #[(0),(0)]∈l:=by
 cases l with
 |nil=>show absurd rfl h
 |cons a r=>simp
def C7(b:l≠[])(h:eO k l L=false):l.any (holds k)=odd k (l.headD #[(0),(0)]):=by
 rw[bQ,ci];walk
 .ext⟨p,a,g⟩;unfold holds at g;rw[EF h a,lc,Lm h p a]at g;show g
 .intro g;show#[_,head_mem b,?_];unfold holds;rw[g,Bool.or_true]
def bI(h:l≠[]):edges l≠[]:=by
 match l,h with
 |[p],_=>simp[edges]
 |[p,q],_=>simp[edges]
 |p::q::s::r,_=>simp[edges]
def si{k l:List Pt}(i:k≠[])(j:l≠[])(n:Nat):(dist2 k l).le (.whole n)=((l.any (holds k)||k.any (holds l))||eO k l n):=by
 unfold dist2;split
 .rename_i h;rw[h,jt];simp[Frac.whole]
 .rename_i h;let h:(l.any (holds k)||k.any (holds l))=false:=by simpa using h
  rw[h,lc];let m:((edges k).flatMap λe=>(edges l).map λf=>segSeg e.1 e.2 f.1 f.2)≠[]:=by
   let[e,c]:=pW _<|bI i;let[f,d]:=pW _<|bI j;show gX (a:=segSeg e.1 e.2 f.1 f.2) ?_;show Az.mpr #[e,c,fB d]
  let b:∀g∈((edges k).flatMap λe=>(edges l).map λf=>segSeg e.1 e.2 f.1 f.2),0<g.den:=by
   intro g a;let[e,_,a]:=Az.mp a;let[f,1]:=ae.mp a;show EC _ _ _ _
  let:=q_ (n:=n) m b;rw[EB this.2,this.1];unfold eO;rw[List.any_flatMap];congr 1;funext e;rw[wf];congr 1;funext f;show(C3 _ _ _ _ n).symm
def u_(b:k≠[])(c:l≠[])(D:Nat):mX k l (D:Int)=(dist2 k l).le (.whole<|D*D):=by
 rw[si b c];let e:(0:Int)<=D:=om;let f:((D*D:Nat):Int)=(D:Int)*(D:Int):=QP _ _;rw[f];unfold mX;rw[tW k l e];cases d:eO k l ((D:Int)*(D:Int))with
 |true=>
  rw[zI e d];simp
 |false=>
  let a:eO l k ((D:Int)*(D:Int))=false:=by rw[r_];show d
  rw[C7 c d,C7 b a,iw,FW<|EF d<|head_mem c,FW<|EF a<|head_mem b];cases i:(odd k (l.headD #[(0),(0)])||odd l (k.headD #[(0),(0)]))with
  |false=>simp
  |true=>
   let h:cC (bO (bM k) D) (bM l)=true:=by
    rw[gy];unfold bO;simp only;let g||g:=Bool.or_eq_true_iff.mp i
    .let j:=FX g;let m:=dP<|head_mem c;lk
    .let j:=FX g;let m:=dP<|head_mem b;lk
   rw[h];simp
def o0:Pt:=#[(0),(0)]
def ji(a b c:Pt):Bool:=if turnOf a b c≠0 then false else decide ((b.x -a.x)*(c.x -b.x)+(b.y -a.y)*(c.y -b.y)<=0)
def fC(l:List Pt):Bool:=(List.range l.length).any λk=>ji (l.getD ((k+l.length -2)%l.length) o0) (l.getD ((k+l.length -1)%l.length) o0)<|l.getD k o0
def fN(l:List Pt):Bool:=
 (List.range (edges l).length).any λi=>(List.range' (i+2)<|(edges l).length -(i+2)).any λj=>
  !(decide (i=0)&&decide (j=(edges l).length -1))&&d_ ((edges l).getD i (o0,o0)).1 ((edges l).getD i (o0,o0)).2 ((edges l).getD j (o0,o0)).1 ((edges l).getD j (o0,o0)).2
def oY(l:List Pt):Bool:=if l.length=1 then true else if l.length=2 then decide (l.getD 0 o0≠l.getD 1 o0)else !fC l&&!fN l
def sj(a b c:Pt):ji a b c=!goesOn a b c:=by
 unfold ji goesOn;let e:dot (sub a b) (sub c b)=(a.x -b.x)*(c.x -b.x)+(a.y -b.y)*(c.y -b.y):=rfl;rw[e];let o:(b.x -a.x)*(c.x -b.x)+(b.y -a.y)*(c.y -b.y)= -((a.x -b.x)*(c.x -b.x)+(a.y -b.y)*(c.y -b.y)):=by grind
 by_cases d:a=b
 .subst d;let:turnOf a a c=0:=by unfold turnOf;grind
  simp[this]
 .by_cases f:b=c
  .subst f;let:turnOf a b b=0:=by unfold turnOf;grind
   simp[this]
  .by_cases h:turnOf a b c=0
   .simp only[d,f,h,ne_eq,not_true_eq_false,fI,Ay,decide_true,tM,Bool.not_not,b8];let p:(a.x -b.x)*(c.x -b.x)+(a.y -b.y)*(c.y -b.y)≠0:=by
     intro z;unfold turnOf at h;let i:(a.x -b.x)*(c.y -b.y) -(a.y -b.y)*(c.x -b.x)=0:=by grind
     let l:((a.x -b.x)*(a.x -b.x)+(a.y -b.y)*(a.y -b.y))*((c.x -b.x)*(c.x -b.x)+(c.y -b.y)*(c.y -b.y))=0:=by
      have:((a.x -b.x)*(a.x -b.x)+(a.y -b.y)*(a.y -b.y))*((c.x -b.x)*(c.x -b.x)+(c.y -b.y)*(c.y -b.y))=
       ((a.x -b.x)*(c.x -b.x)+(a.y -b.y)*(c.y -b.y))*((a.x -b.x)*(c.x -b.x)+(a.y -b.y)*(c.y -b.y))+((a.x -b.x)*(c.y -b.y) -(a.y -b.y)*(c.x -b.x))*((a.x -b.x)*(c.y -b.y) -(a.y -b.y)*(c.x -b.x)):=by grind
      rw[this,z,i];rfl
     let g||g:=bY.mp l
     .let j:=sq_nonneg<|a.x -b.x;let k:=sq_nonneg<|a.y -b.y;let m:a.x -b.x=0:=by let t||t:=bY.mp (show(a.x -b.x)*(a.x -b.x)=0 by lk)<;>show t
      let n:a.y -b.y=0:=by let t||t:=bY.mp (show(a.y -b.y)*(a.y -b.y)=0 by lk)<;>show t
      apply d;cases a;cases b;simp only[Pt.mk.injEq]at*;lk
     .let j:=sq_nonneg<|c.x -b.x;let k:=sq_nonneg<|c.y -b.y;let m:c.x -b.x=0:=by let t||t:=bY.mp (show(c.x -b.x)*(c.x -b.x)=0 by lk)<;>show t
      let n:c.y -b.y=0:=by let t||t:=bY.mp (show(c.y -b.y)*(c.y -b.y)=0 by lk)<;>show t
      apply f;cases c;cases b;simp only[Pt.mk.injEq]at*;lk
    lk
   .simp[h,d,f]
def C8(P:b->Bool)(d:b)(l:List b):l.all P=true↔∀i,i<l.length->P (l.getD i d)=true:=by
 rw[c7];walk
 .intro h i a;let:l.getD i d=l[i]:=by rw[List.getD,ak a];rfl
  rw[this];show h _<|lP a
 .intro h x c;let[i,a,0]:=qE c;let:=h i a;rw[List.getD,ak a]at this;show this
def IP(k:3<=l.length):cornersGoOn l=true↔∀i,i<l.length->goesOn (l.getD i o0) (l.getD ((i+1)%l.length) o0) (l.getD ((i+2)%l.length) o0)=true:=by
 match l,k with
 |a::b::c::r,_=>
  have e:cornersGoOn (a::b::c::r)=((a::b::c::r).zip<|(b::c::r++[a]).zip<|c::r++[a,b]).all λt=>goesOn t.1 t.2.1 t.2.2:=rfl;rw[e,C8 _ (o0,o0,o0)];let m:((a::b::c::r).zip<|(b::c::r++[a]).zip<|c::r++[a,b]).length=(a::b::c::r).length:=by simp
  rw[m];show k6 λi=>k6 λf=>?_;let j:((a::b::c::r).zip<|(b::c::r++[a]).zip<|c::r++[a,b]).getD i (o0,o0,o0)=((a::b::c::r).getD i o0,(a::b::c::r).getD ((i+1)%(a::b::c::r).length) o0,(a::b::c::r).getD ((i+2)%(a::b::c::r).length) o0):=by
   let d:(a::b::c::r).length=r.length+3:=by simp
   let n:(b::c::r++[a])[i]?=(a::b::c::r)[(i+1)%(r.length+3)]?:=by
    let g||g:=qX (i+1) (r.length+3)
    .rw[fj g,jK<|by simp;lk]
     rfl
    .let:i=r.length+2:=om;subst this;rw[Nat.mod_self,oM<|by simp]
     simp
   let o:(c::r++[a,b])[i]?=(a::b::c::r)[(i+2)%(r.length+3)]?:=by
    let g||g:=qX (i+2) (r.length+3)
    .rw[fj g,jK<|by simp;lk]
     rfl
    .let h||h:=(show i=r.length+1\/i=r.length+2 by lk)
     .subst h;rw[Nat.mod_self,oM<|by simp]
      simp
     .subst h;rw[show(r.length+2+2)%(r.length+3)=1 by rw[show r.length+2+2=1+(r.length+3) by lk,K9];show fj om,oM<|by simp]
      simp
   rw[d]at f|-;simp only[List.getD];rw[List.zip,wP,List.zip,wP,n,o];let q:(i+1)%(r.length+3)<(a::b::c::r).length:=by rw[d];show lm _ om
   let s:(i+2)%(r.length+3)<(a::b::c::r).length:=by rw[d];show lm _ om
   let p:i<(a::b::c::r).length:=by rw[d];show f
   rw[ak p,ak q,ak s];rfl
  rw[j]
def zJ(f:3<=l.length):fC l=!cornersGoOn l:=by
 let a:fC l=false↔cornersGoOn l=true:=by
  rw[IP f];unfold fC;rw[kD];walk
  .intro h i e;let:=h ((i+2)%l.length)<|cB.mpr<|lm _ om;rw[sj]at this;let b:((i+2)%l.length+l.length -2)%l.length=i:=by
    let g||g:=qX (i+2) l.length
    .rw[fj g,show i+2+l.length -2=i+l.length by lk,K9,fj e]
    .let:(i+2)%l.length=i+2 -l.length:=by rw[Au g,fj om]
     rw[this,show i+2 -l.length+l.length -2=i by lk,fj e]
   let c:((i+2)%l.length+l.length -1)%l.length=(i+1)%l.length:=by
    let g||g:=qX (i+2) l.length
    .rw[fj g,show i+2+l.length -1=i+1+l.length by lk,K9]
    .let:(i+2)%l.length=i+2 -l.length:=by rw[Au g,fj om]
     rw[this,show i+2 -l.length+l.length -1=i+1 by lk]
   rw[b,c]at this;simpa using this
  .intro h k d;let d:=cB.mp d;let:=h ((k+l.length -2)%l.length)<|lm _ om;let b:((k+l.length -2)%l.length+1)%l.length=(k+l.length -1)%l.length:=by
    rw[Pv,show k+l.length -2+1=k+l.length -1 by lk]
   let c:((k+l.length -2)%l.length+2)%l.length=k:=by
    rw[Pv,show k+l.length -2+2=k+l.length by lk,K9,fj d]
   rw[b,c]at this;rw[sj,this];simp
 cases h:fC l with
 |false=>rw[a.mp h];rfl
 |true=>
  cases g:cornersGoOn l with
  |false=>rfl
  |true=>rw[a.mpr g]at h;cases h
def O_(e f:Pt×Pt):Bool:=meet e.1 e.2 f.1 f.2
def xH:nobodyMeets e l=true↔∀j,j<l.length->O_ e (l.getD j (o0,o0))=false:=by
 unfold nobodyMeets;rw[C8 _ (o0,o0)];show k6 λj=>k6 λa=>?_;unfold O_;simp
def AF:∀E:List (Pt×Pt),farEdges false E=true↔∀i j,i+2<=j->j<E.length->O_ (E.getD i (o0,o0)) (E.getD j (o0,o0))=false
 |[]=>by simp[farEdges]
 |e::r=>by
  rw[farEdges,be,AF r,xH];simp only[ck,fI,fk];walk
  .ext⟨d,f⟩ i j c a;cases i with
   |zero=>
    let:=d (j -2)<|by simp at a;lk
    let b:(r.drop 1).getD (j -2) (o0,o0)=(e::r).getD j (o0,o0):=by
     simp only[List.getD,tN];rw[show j=(1+(j -2))+1 by lk,iL]
     simp
    rw[b]at this;show this
   |succ i=>
    cases j with
    |zero=>lk
    |succ j=>
     let:=f i j om<|by simp at a;lk
     simpa using this
  .intro h;show#[λj a=>?_,λi j c a=>?_]
   .let:=h 0 (j+2) om<|by simp;lk
    let b:(r.drop 1).getD j (o0,o0)=(e::r).getD (j+2) (o0,o0):=by
     simp only[List.getD,tN];rw[iL,iY 1 j]
    rw[b];show this
   .let:=h (i+1) (j+1) om<|by simp;lk
    simpa using this
def IQ(E:List (Pt×Pt)):farEdges true E=true↔∀i j,i+2<=j->j<E.length->¬(i=0/\j=E.length -1)->O_ (E.getD i (o0,o0)) (E.getD j (o0,o0))=false:=by
 match E with
 |[]=>simp[farEdges]
 |e::r=>
  rw[farEdges,be,AF r,xH];simp only[QQ,zp,fk];let b:∀j,j<r.length -1 -1->((r.drop 1).dropLast).getD j (o0,o0)=(e::r).getD (j+2) (o0,o0):=by
   intro j a;simp only[List.getD];rw[List.getElem?_dropLast,aH<|by simp;lk,tN,iL,iY 1 j]
  walk
  .ext⟨d,f⟩ i j c a l;cases i with
   |zero=>
    let k:j<r.length+1:=a;let m:j≠r.length:=λg=>l #[0,g];let:=d (j -2) om;rw[b _ om,show j -2+2=j by lk]at this
    show this
   |succ i=>
    cases j with
    |zero=>lk
    |succ j=>
     let:=f i j om<|by simp at a;lk
     simpa using this
  .intro h;show#[λj a=>?_,λi j c a=>?_]
   .let:=h 0 (j+2) om (by simp;lk)<|by simp;lk
    rw[b _ a];show this
   .let:=h (i+1) (j+1) om (by simp;lk) om
    simpa using this
def Bv(l:List Pt):fN l=!farEdges true (edges l):=by
 let a:fN l=false↔farEdges true (edges l)=true:=by
  rw[IQ];unfold fN;rw[kD];walk
  .intro h i j m c n;let f:=h i<|cB.mpr om;rw[iH,kD]at f;let b:=f j<|by rw[PK];show#[j -(i+2),om,om]
   rw[gb]at b;let:(!(decide (i=0)&&decide (j=(edges l).length -1)))=true:=by
    simp only[CU,nP,k9];by_cases e:i=0
    .right;intro g;show n #[e,g]
    .left;show e
   rw[this,tM]at b;simpa[O_]using b
  .intro h i k;let k:=cB.mp k;rw[iH,kD];intro j c;rw[PK]at c;let[d,o,0]:=c;rw[gb];by_cases g:(i=0/\i+2+1*d=(edges l).length -1)
   .rw[aU g.1,aU g.2];simp
   .let:=h i (i+2+1*d) om om g;unfold O_ at this;rw[this];simp
 cases h:fN l with
 |false=>rw[a.mp h];rfl
 |true=>
  cases g:farEdges true (edges l)with
  |false=>rfl
  |true=>rw[a.mpr g]at h;cases h
def AG(h:l≠[]):oY l=skeleton l:=by
 match l,h with
 |[p],_=>rfl
 |[p,q],_=>rfl
 |a::b::c::r,_=>
  have e:skeleton (a::b::c::r)=simple (a::b::c::r):=rfl;have d:3<=(a::b::c::r).length:=by simp
  rw[e];unfold oY simple;rw[az om,az om,zJ d,Bv,aU d];simp
def AH(l:List Pt):Int:=(edges l).foldl (λs e=>s+(e.1.x*e.2.y -e.1.y*e.2.x)) 0
def tY:List Pt->Pt
 |[]=>o0
 |p::r=>r.foldl (λm q=>if below q m=true then q else m) p
def turned(l:List Pt):List Pt:=if AH l<0 then l.reverse else l
def inForm(l:List Pt):List Pt:=
 match l with
 |[]=>[]
 |[p]=>[p]
 |[p,q]=>if below q p=true then[q,p]else[p,q]
 |l=>(turned l).drop ((turned l).idxOf<|tY<|turned l)++(turned l).take ((turned l).idxOf<|tY<|turned l)
def ve:∀(r:List Pt) (p:Pt),lowest r p=r.foldl (λm q=>if below q m=true then q else m) p
 |[],p=>rfl
 |q::r,p=>by rw[lowest,ve r,f6]
def xI(b:Pt):∀l:List Pt,l.dropWhile (λq=>decide<|q≠b)=l.drop (l.idxOf b)/\l.takeWhile (λq=>decide<|q≠b)=l.take (l.idxOf b)
 |[]=>by simp
 |x::r=>by
  let a:=xI b r;by_cases h:x=b
  .subst h;simp
  .rw[List.idxOf_cons];let:(x==b)=false:=by simpa using h
   rw[this];simp only[List.dropWhile_cons,List.takeWhile_cons,h,ne_eq,Ay,decide_true,QQ,cond_false,kT,kS];show#[a.1,by rw[<-a.2]]
def zK(l:List Pt):fromLowest l=l.drop (l.idxOf<|tY l)++l.take (l.idxOf<|tY l):=by
 match l with
 |[]=>rfl
 |p::r=>
  unfold fromLowest;simp only;rw[ve,(xI _ _).1,(xI _ _).2];rfl
def G2(l:List Pt):inForm l=normal l:=by
 match l with
 |[]=>rfl
 |[p]=>simp[inForm,normal,signed2,fromLowest,lowest]
 |[p,q]=>rfl
 |a::b::c::r=>
  have e:normal (a::b::c::r)=fromLowest (if signed2 (a::b::c::r)<0 then(a::b::c::r).reverse else(a::b::c::r)):=rfl;have d:signed2 (a::b::c::r)=AH (a::b::c::r):=by
   unfold signed2 AH;rw[az<|by simp]
  rw[e,d,zK];rfl
end
section
open Vbpcaf
abbrev So(l:List Nat):Prop:=l.Pairwise (·<·)
def So.ext:∀{l m:List Nat},So l->So m->(∀x,x∈l↔x∈m)->l=m
 |[],[],_,_,_=>rfl
 |[],b::m,_,_,h=>by let:=(h b).mpr SX;simp at this
 |a::l,[],_,_,h=>by let:=(h a).mp SX;simp at this
 |a::l,b::m,j,n,h=>by
  let[c,f]:=f8.mp j;let[d,i]:=f8.mp n;let e:a=b:=by
   let g||g||g:=Nat.lt_trichotomy a b
   .let:=(h a).mp<|by simp
    let k||k:=aB.mp this
    .show k
    .let:=d a k;lk
   .show g
   .let:=(h b).mpr<|by simp
    let k||k:=aB.mp this
    .show k.symm
    .let:=c b k;lk
  subst e;let:l=m:=So.ext f i λx=>by
   walk
   .intro k;let q||q:=aB.mp ((h x).mp<|aC _ k)
    .let:=c x k;lk
    .show q
   .intro k;let q||q:=aB.mp ((h x).mpr<|aC _ k)
    .let:=d x k;lk
    .show q
  rw[this]
def So.filter(h:So l)(p:Nat->Bool):So (l.filter p):=zF a_ h
def So.nodup(h:So l):l.Nodup:=ip (λh=>bN h) h
structure gF(g:Graph):Prop where
 so:So (nodes g)
 La:∀i,So (neighbours g i)
 mem:∀{i j},j∈neighbours g i->j∈nodes g
 sym:∀{i j},j∈neighbours g i->i∈neighbours g j
 Pl:∀{i},i∉neighbours g i
section
variable{g:Graph}
def entry(ok:So (nodes g))(h:x∈g):neighbours g x.1=x.2:=by
 unfold neighbours
 induction g with
 |nil=>simp at h
 |cons y r a=>
  let[b,c]:=f8.mp (show((y::r).map λx=>x.1).Pairwise (·<·)from ok);rw[tO];let e||m:=aB.mp h
  .subst e;simp
  .let:(y.1==x.1)=false:=by
    let d:y.1<x.1:=b x.1<|fB m;simpa using(show y.1≠x.1 by lk)
   rw[this];show a c m
def ln:x∈nodes g↔∃y∈g,y.1=x:=by
 unfold nodes;simp
def p6(ok:So (nodes g))(h:j∈neighbours g i):i∈nodes g:=by
 unfold neighbours at h;cases e:g.find? λx=>x.1==i with
 |none=>rw[e]at h;simp at h
 |some y=>
  have a:=pX e;have b:=ov e;show ln.mpr #[y,a,by simpa using b]
def C9(ok:So (nodes g)):x∈widened g s↔x∈nodes g/\(x∈s\/∃n∈neighbours g x,n∈s):=by
 unfold widened;rw[ae];walk
 .ext⟨y,c,rfl⟩;let[b,a]:=aw.mp c;show#[ln.mpr #[y,b,0],?_];rw[fZ,bg,ci]at a;let a||[n,d,a]:=a
  .show .inl a
  .show .inr #[n,by rw[entry ok b];show d,bg.mp a]
 .ext⟨b,a⟩;let[y,c,0]:=ln.mp b;show#[y,aw.mpr #[c,?_],0];rw[fZ,bg,ci];let a||[n,d,a]:=a
  .show .inl a
  .show .inr #[n,by rw[<-entry ok c];show d,bg.mpr a]
def C_(s:List Nat):(widened g s).Sublist (nodes g):=by
 unfold widened nodes;show No _ a_
def tZ(k i:Nat):(reach g k i).Sublist (nodes g):=by
 cases k with
 |zero=>show a_
 |succ k=>show C_ _
def fS(ok:So (nodes g))(k i:Nat):So (reach g k i):=zF (tZ k i) ok
def i_:x∈reach g 0 i↔x∈nodes g/\x=i:=by
 unfold reach;rw[aw];simp
def gN(ok:So (nodes g)):x∈reach g (k+1) i↔x∈nodes g/\(x∈reach g k i\/∃n∈neighbours g x,n∈reach g k i):=C9 ok
def ij(h:x∈reach g k i):x∈nodes g:=(tZ k i).subset h
def lr(ok:So (nodes g))(h:x∈reach g k i):x∈reach g (k+1) i:=(gN ok).mpr #[ij h,.inl h]
def IR(ok:So (nodes g))(a:k<=l)(h:x∈reach g k i):x∈reach g l i:=by
 induction a with
 |refl=>show h
 |step _ b=>show lr ok b
def AI(ok:So (nodes g)):(reach g k i).length<=g.length:=by
 let:=(tZ (g:=g) k i).length_le;unfold nodes at this;simpa using this
def rh(ok:So (nodes g))(h:reach g (k+1) i=reach g k i):∀l,k<=l->reach g l i=reach g k i:=by
 intro l a
 induction a with
 |refl=>rfl
 |step _ b=>
  rename_i m _;change widened g (reach g m i)=_;rw[b];show h
def AJ(ok:So (nodes g))(i:Nat):∀(f k:Nat),g.length<=f+(reach g k i).length->∃m,k<=m/\spread g f (reach g k i)=reach g m i/\reach g (m+1) i=reach g m i
 |0,k,h=>by
  show#[k,aE _,0,?_];let n:=AI ok (k:=k+1) (i:=i);let c:(reach g k i).Sublist (reach g (k+1) i):=by
   let b:=fS ok k i;let a:=fS ok (k+1) i;let e:reach g k i=(reach g (k+1) i).filter (λx=>(reach g k i).contains x):=by
    show So.ext b (a.filter _) λx=>?_;rw[aw,bg];show#[λh=>#[lr ok h,h],λh=>h.2]
   rw[e];show a_
  show(c.eq_of_length_le om).symm
 |f+1,k,h=>by
  rw[spread];by_cases e:(widened g<|reach g k i).length=(reach g k i).length
  .rw[aH e];show#[k,aE _,0,?_];let b:=fS ok k i;let a:=fS ok (k+1) i;let d:reach g k i=(reach g (k+1) i).filter (λx=>(reach g k i).contains x):=by
    show So.ext b (a.filter _) λx=>?_;rw[aw,bg];show#[λh=>#[lr ok h,h],λh=>h.2]
   let c:(reach g k i).Sublist (reach g (k+1) i):=by
    rw[d];show a_
   show(c.eq_of_length_le<|by change(widened g<|reach g k i).length<=_;lk).symm
  .rw[az e];let b:=fS ok k i;let a:=fS ok (k+1) i;let d:reach g k i=(reach g (k+1) i).filter (λx=>(reach g k i).contains x):=by
    show So.ext b (a.filter _) λx=>?_;rw[aw,bg];show#[λh=>#[lr ok h,h],λh=>h.2]
   let c:(reach g k i).length<=(reach g (k+1) i).length:=by
    let:(reach g k i).Sublist (reach g (k+1) i):=by
     rw[d];show a_
    show this.length_le
   let o:(reach g (k+1) i).length≠(reach g k i).length:=e;let[m,p,j,l]:=AJ ok i f (k+1) om;show#[m,om,j,l]
def xJ(ok:So (nodes g))(i:Nat):∃m,members g i=reach g m i/\reach g (m+1) i=reach g m i:=by
 let[m,_,a,b]:=AJ ok i g.length 0 om;show#[m,a,b]
def lY(ok:So (nodes g)):x∈members g i↔∃k,x∈reach g k i:=by
 let[m,b,c]:=xJ ok i;rw[b];walk
 .show λh=>#[m,h]
 .ext⟨k,h⟩;let a:=IR ok (Nat.le_max_left k m) h;rw[rh ok c _<|Nat.le_max_right k m]at a;show a
def gf(ok:So (nodes g))(i:Nat):So (members g i):=by
 let[m,a,_]:=xJ ok i;rw[a];show fS ok _ _
def cK(ok:So (nodes g))(h:x∈members g i):x∈nodes g:=by
 let[k,h]:=(lY ok).mp h;show ij h
inductive Jn(g:Graph):Nat->Nat->Prop
 |refl {i}:i∈nodes g->Jn g i i
 |step {i j k}:Jn g i j->k∈neighbours g j->Jn g i k
def Jn.node1(h:Jn g i j):i∈nodes g:=by
 induction h with
 |refl h=>show h
 |step _ _ a=>show a
def Db(ok:gF g):∀{k:Nat},x∈reach g k i->Jn g i x:=by
 intro k
 induction k generalizing x with
 |zero=>
  intro h;let[b,0]:=i_.mp h;show .refl b
 |succ k c=>
  intro h;let[b,a||[n,a,d]]:=(gN ok.so).mp h
  .show c a
  .show .step (c d)<|ok.sym a
def IS(ok:gF g)(h:Jn g i x):∃k,x∈reach g k i:=by
 induction h with
 |refl h=>show#[(0),i_.mpr #[h,0]]
 |step _ b a=>
  let[k,a]:=a;show#[k+1,(gN ok.so).mpr #[ok.mem b,.inr #[_,ok.sym b,a]]]
def bc(ok:gF g):x∈members g i↔Jn g i x:=by
 rw[lY ok.so];show#[λ#[_,h]=>Db ok h,IS ok]
def Jn.trans(a:Jn g i j)(b:Jn g j k):Jn g i k:=by
 induction b with
 |refl _=>show a
 |step _ c d=>show .step d c
def Jn.symm(ok:gF g)(h:Jn g i j):Jn g j i:=by
 induction h with
 |refl h=>show .refl h
 |step c a b=>show Jn.trans (.step (.refl<|ok.mem a)<|ok.sym a) b
structure Lv(g:Graph)(i c:Nat)(steps:List (Nat×Nat))(mY:List Nat):Prop where
 nd:(steps.map (·.1)).Nodup
 le:∀p∈steps,p.2<=c
 is:∀k,k<=c->∀x,(∃v,v<=k/\(x,v)∈steps)↔x∈reach g k i
 mY:∀x,x∈mY↔(x,c)∈steps
structure ju(g:Graph)(i:Nat)(steps:List (Nat×Nat)):Prop where
 nd:(steps.map (·.1)).Nodup
 is:∀k x,(∃v,v<=k/\(x,v)∈steps)↔x∈reach g k i
def Bw{a:List (Nat×Nat)}(l:(a.map (·.1)).Nodup){x u v:Nat}(e:(x,u)∈a)(i:(x,v)∈a):u=v:=by
 induction a with
 |nil=>simp at e
 |cons p r j=>
  let[b,k]:=c9.mp (show(p.1::r.map (·.1)).Nodup from l);let d||f:=aB.mp e<;>let c||h:=aB.mp i
  .rw[<-d]at c;show(qF c).2.symm
  .show absurd (fB (f:=(·.1)) h) (by rw[<-d]at b;show b)
  .show absurd (fB (f:=(·.1)) f) (by rw[<-c]at b;show b)
  .show j k f h
def Lv.start(ok:So (nodes g))(a:i∈nodes g):Lv g i 0 [(i,0)] [i]:=by
 show#[by simp,by simp,λk b x=>?_,λx=>by simp]
 let:k=0:=om;subst this;rw[i_];walk
 .ext⟨v,c,h⟩;simp at h;show#[by rw[h.1];show a,h.1]
 .ext⟨_,rfl⟩;show#[(0),aE _,by simp]
def Lv.key(L:Lv g i c a d):x∈a.map (·.1)↔x∈reach g c i:=by
 rw[<-L.is c (aE _)];walk
 .intro h;let[p,b,0]:=ae.mp h;show#[p.2,L.le p b,b]
 .ext⟨v,_,h⟩;show ae.mpr #[_,h,0]
def Lv.next(ok:gF g)(L:Lv g i c d I)(z:l.Nodup)(h:∀y,y∈l↔y∉d.map (·.1)/\∃n∈I,y∈neighbours g n):
  Lv g i (c+1) (d++l.map λy=>(y,c+1)) l:=by
 let A:∀{x},(x,c+1)∈d->False:=λ{x} h=>by let:=L.le _ h;simp at this;lk
 show#[?_,?_,?_,?_]
 .rw[bw,bX];show di.mpr #[L.nd,?_,?_]
  .let:((λx:Nat×Nat=>x.1)∘λy=>(y,c+1))=id:=rfl;rw[this,f9];show z
  .intro a F b G e;subst e;let[y,s,e]:=ae.mp G;simp at e;subst e;show((h y).mp s).1 F
 .intro p j;let m||m:=aG.mp j
  .let:=L.le p m;lk
  .let[y,1]:=ae.mp m;show aE _
 .intro k J x;let B||B:=qX k (c+1)
  .rw[<-L.is k om];walk
   .ext⟨v,u,m⟩;let m||m:=aG.mp m
    .show#[v,u,m]
    .let[y,_,e]:=ae.mp m;let:=(qF e).2;lk
   .ext⟨v,u,m⟩;show#[v,u,cJ _ m]
  .let:k=c+1:=om;subst this;rw[gN ok.so];walk
   .ext⟨v,u,m⟩;let m||m:=aG.mp m
    .let f:x∈reach g c i:=L.key.mp<|ae.mpr #[_,m,0];show#[ij f,.inl f]
    .let[y,s,e]:=ae.mp m;let:=(qF e).1;subst this;let[_,n,z,t]:=(h y).mp s;show#[ok.mem t,.inr #[n,ok.sym t,L.key.mp<|ae.mpr #[_,(L.mY n).mp z,0]]]
   .ext⟨C,o⟩;by_cases f:x∈d.map (·.1)
    .let[p,j,0]:=ae.mp f;show#[p.2,by let:=L.le p j;lk,cJ _ j]
    .let r:x∉reach g c i:=λq=>f<|L.key.mpr q;let o||[n,o,D]:=o
     .show absurd o r
     .show#[c+1,aE _,aD _<|ae.mpr #[x,(h x).mpr #[f,n,?_,ok.sym o],0]];let[p,j,e]:=ae.mp<|L.key.mpr D;let[w,v]:=p;simp at e;subst e;let q||q:=qX v c
      .exfalso;apply r;let H:c=(c -1)+1:=om;let E:w∈reach g (c -1) i:=(L.is (c -1) om w).mp #[v,om,j];rw[H];show(gN ok.so).mpr #[C,.inr #[w,o,E]]
      .let:v=c:=by let:=L.le _ j;simp at this;lk
       subst this;show(L.mY w).mpr j
 .intro x;walk
  .intro f;show aD _<|ae.mpr #[x,f,0]
  .intro f;let m||m:=aG.mp f
   .show(A m).elim
   .let[y,s,e]:=ae.mp m;let:=(qF e).1;subst this;show s
def Lv.done(ok:gF g)(L:Lv g i c a []):ju g i a:=by
 show#[L.nd,λk x=>?_];let d||d:=qX k (c+1)
 .show L.is k om x
 .
  let st:reach g (c+1) i=reach g c i:=by
   show So.ext (fS ok.so _ _) (fS ok.so _ _) λy=>#[λq=>?_,lr ok.so];let[f,b||[n,b,h]]:=(gN ok.so).mp q
   .show b
   .let[v,o,m]:=(L.is c (aE _) n).mpr h;let p:v≠c:=λe=>by subst e;let:=(L.mY n).mpr m;simp at this
    let l:c=(c -1)+1:=om;let j:n∈reach g (c -1) i:=(L.is (c -1) om n).mp #[v,om,m];rw[l];show(gN ok.so).mpr #[f,.inr #[n,b,j]]
  rw[rh ok.so st k om,<-L.is c (aE _)];walk
  .ext⟨v,_,m⟩;show#[v,L.le _ m,m]
  .ext⟨v,o,m⟩;show#[v,om,m]
def ju.key(ok:So (nodes g))(S:ju g i a):x∈a.map (·.1)↔x∈members g i:=by
 rw[lY ok];walk
 .intro h;let[p,b,0]:=ae.mp h;show#[p.2,(S.is p.2 p.1).mp #[p.2,aE _,b]]
 .ext⟨k,h⟩;let[v,_,m]:=(S.is k x).mpr h;show ae.mpr #[_,m,0]
def ju.least(ok:So (nodes g)){j:Nat}{a:List (Nat×Nat)}(S:ju g j a){i d:Nat}(h:(i,d)∈a){k:Nat}:i∈reach g k j↔d<=k:=by
 rw[<-S.is];walk
 .ext⟨v,c,m⟩;rw[Bw S.nd h m];show c
 .intro b;show#[d,b,h]
def IT(h:So l)(a:∀x∈l,x<n):l.length<=n:=by
 let:l.Sublist (List.range n):=by
  let e:l=(List.range n).filter (λx=>l.contains x):=by
   show So.ext h (zF a_ i0) λx=>?_;rw[aw,bg,cB];show#[λm=>#[a x m,m],λm=>m.2]
  rw[e];show a_
 simpa using this.length_le
def ju.below(ok:gF g)(S:ju g j b)(h:(i,d)∈b):d<g.length:=by
 let m:∀k,k<=d->k+1<=(reach g k j).length:=by
  intro k
  induction k with
  |zero=>
   intro _;let n:j∈reach g 0 j:=by
    let c:i∈reach g d j:=(S.least ok.so h).mpr<|aE _;show i_.mpr #[(Db ok c).node1,0]
   show i5 n
  |succ k o=>
   intro r;let p:=o om;let f:reach g (k+1) j≠reach g k j:=λe=>by
    let c:i∈reach g d j:=(S.least ok.so h).mpr<|aE _;rw[rh ok.so e d om]at c;let:=(S.least ok.so h).mp c;lk
   let a:(reach g k j).Sublist (reach g (k+1) j):=by
    let l:reach g k j=(reach g (k+1) j).filter (λx=>(reach g k j).contains x):=by
     show So.ext (fS ok.so _ _) ((fS ok.so _ _).filter _) λx=>?_;rw[aw,bg];show#[λh=>#[lr ok.so h,h],λh=>h.2]
    rw[l];show a_
   let s:=a.length_le;let:(reach g k j).length≠(reach g (k+1) j).length:=λe=>f (a.eq_of_length e).symm;lk
 let c:=m d<|aE _;let q:=AI ok.so (k:=d) (i:=j);lk
def EG(a:p d=true)(b:∀k,k<d->p k=false):∀n,d<n->(List.range n).find? p=some d:=by
 intro n f;let e:List.range n=List.range d++d::(List.range' (d+1)<|n -(d+1)):=by
  rw[j2,j2];let:n=d+(1+(n -(d+1))):=om
  conv=>lhs;rw[this]
  rw[<-List.range'_append_1];simp[iY 1,List.range'_succ]
 rw[e,List.find?_append];let:(List.range d).find? p=none:=by
  rw[GU];intro x c;rw[b x<|cB.mp c];simp
 rw[this];simp[a]
def ju.Ln(ok:gF g)(S:ju g j a)(h:(i,d)∈a):stepsTo g i j=some d:=by
 unfold stepsTo;show EG ?_ ?_ _<|by let:=S.below ok h;lk
 .rw[bg];show(S.least ok.so h).mpr<|aE _
 .intro k b;show eE.mpr λq=>?_;rw[bg,S.least ok.so h]at q;lk
def ju.Lo(ok:gF g)(S:ju g j a)(h:i∉a.map (·.1)):stepsTo g i j=none:=by
 unfold stepsTo;rw[GU];intro k _;rw[bg,<-S.is];ext⟨v,_,m⟩;show h<|ae.mpr #[_,m,0]
def ju.Nq(ok:gF g)(S:ju g j a)(h:(i,d+1)∈a):
  ∃n,(n,d)∈a/\(neighbours g i).find? (λn=>(reach g d j).contains n)=some n/\∀m,m∈neighbours g i->((m∈reach g d j)↔(m,d)∈a):=by
 let b:∀m,m∈neighbours g i->((m∈reach g d j)↔(m,d)∈a):=by
  intro m c;walk
  .intro q;let[v,x,f]:=(S.is d m).mpr q;let z||z:=qX v d
   .exfalso;let o:d=(d -1)+1:=om;let u:m∈reach g (d -1) j:=(S.is (d -1) m).mp #[v,om,f];let w:i∈reach g d j:=by
     rw[o];show(gN ok.so).mpr #[p6 ok.so c,.inr #[m,c,u]]
    let:=(S.least ok.so h).mp w;lk
   .let:v=d:=om;subst this;show f
  .intro q;show(S.is d m).mp #[d,aE _,q]
 let p:i∈reach g (d+1) j:=(S.least ok.so h).mpr<|aE _;let r:i∉reach g d j:=λq=>by let:=(S.least ok.so h).mp q;lk
 let[_,q||[n,k,l]]:=(gN ok.so).mp p
 .show absurd q r
 .cases e:(neighbours g i).find? (λn=>(reach g d j).contains n)with
  |none=>
   rw[GU]at e;show absurd (bg.mpr l) (e n k)
  |some m=>
   let s:=pX e;let t:=ov e;show#[m,(b m s).mp<|bg.mp t,0,b]
def isRoot(g:Graph)(i:Nat):Bool:=(members g i).all λj=>decide<|i<=j
def sk(ok:gF g):∀(k:Nat) (l:List Nat),l.length<=k->So l->(∀x∈l,∀y∈members g x,y∈l)->(∀x∈l,x∈nodes g)->partsFrom g k l=(l.filter<|isRoot g).map (members g)
 |0,l,o,_,_,_=>by
  let:l=[]:=f_.mp om;subst this;rfl
 |k+1,[],_,_,_,_=>rfl
 |k+1,i::l,o,u,j,p=>by
  let[r,w]:=f8.mp u;let b:isRoot g i=true:=by
   unfold isRoot;rw[c7];intro y d;let e||m:=aB.mp (j i SX y d)
   .rw[e];simp
   .let:=r y m;simp;lk
  let A:i∈members g i:=(bc ok).mpr<|.refl<|p i<|by simp
  let v:=sk ok k (l.filter λn=>!(members g i).contains n) (by
    let:=bu (λn=>!(members g i).contains n) l;simp at o;lk) (w.filter _) (by
    intro x c y d;let[h,a]:=aw.mp c;let a:x∉members g i:=by simpa using a
    let e||m:=aB.mp (j x (aC _ h) y d)
    .subst e;show absurd ((bc ok).mpr<|((bc ok).mp d).symm ok) a
    .show aw.mpr #[m,?_];let:y∉members g i:=λq=>a<|(bc ok).mpr<|((bc ok).mp q).trans<|((bc ok).mp d).symm ok;simpa using this) (by
    intro x c;show p x<|aC _ (aw.mp c).1)
  rw[partsFrom,v,js,aH b,bm];congr 2;rw[Aw];show wT λx c=>?_;cases f:isRoot g x with
  |false=>simp
  |true=>
   let:x∉members g i:=λq=>by
    let s:i∈members g x:=(bc ok).mpr<|((bc ok).mp q).symm ok;unfold isRoot at f;rw[c7]at f;let t:=f i s;let z:=r x c;simp at t;lk
   simpa using this
def lD(ok:gF g):parts g=((nodes g).filter<|isRoot g).map (members g):=by
 unfold parts;show sk ok _ _ (by unfold nodes;simp) ok.so (λx a y b=>cK ok.so b) λx a=>a
def t7(ok:gF g)(f:i∈nodes g)(c:isRoot g i=true):(members g i).headD 0=i:=by
 let b:i∈members g i:=(bc ok).mpr<|.refl f;cases e:members g i with
 |nil=>rw[e]at b;simp at b
 |cons a r=>
  unfold isRoot at c;rw[c7,e]at c;let d:=c a<|by simp
  let s:=gf ok.so i;rw[e]at s b;let[h,_]:=f8.mp s;simp at d;let q||q:=aB.mp b
  .rw[q];rfl
  .let:=h i q;lk
def vg(ok:gF g):(parts g).map (λp=>p.headD 0)=(nodes g).filter (isRoot g):=by
 rw[lD ok,bX]
 conv=>rhs;rw[<-f9 ((nodes g).filter<|isRoot g)]
 show dY λx c=>?_;let[a,b]:=aw.mp c;show t7 ok a b
end
end
section
open Vbpcaf
def EH(c:a.pts≠[])(d:b.pts≠[]):touch a b=touch b a:=by
 unfold touch;rw[si c d,si d c,iY a.r b.r,r_ a.pts b.pts,Bool.or_comm<|b.pts.any _]
def jY(c:a.shape.pts≠[])(d:b.shape.pts≠[]):touching a b=touching b a:=by
 unfold touching level;rw[EH c d];congr 1;rw[b8];show And.comm
structure wY(s:Board):Prop where
 len:s.at_.length=128
 pts:∀n a,s.get n=some a->a.shape.pts≠[]
section
variable{s:Board}
def gz(h:wY s)(e:s.get n=some a):n<128:=by
 show au λb=>?_;unfold Board.get at e;rw[List.getD,jI<|by rw[h.len];lk]at e
 simp at e
def lZ{n:Nat}{a:Piece}:(n,a)∈s.all↔n<128/\s.get n=some a:=by
 simp_all [Board.all,MOSTPIECES]
def wZ:s.all.map (·.1)=(List.range 128).filter λn=>(s.get n).isSome:=by
 unfold Board.all MOSTPIECES;generalize List.range 128=l
 induction l with
 |nil=>rfl
 |cons x r a=>
  rw[SR,js];cases e:s.get x with
  |none=>simpa using a
  |some b=>simp[a]
def IU:So (s.all.map (·.1)):=by
 rw[wZ];show So.filter i0 _
def eG:nodes ↥s=s.all.map (·.1):=by
 simp_all [nodes,Board.graph,graphOf]
def eV{n:Nat}:n∈nodes ↥s↔n<128/\(s.get n).isSome=true:=by
 rw[eG,wZ,aw,cB]
def gU:So (nodes ↥s):=by rw[eG];show IU
def xK{n:Nat}{a:Piece}(b:n<128)(h:s.get n=some a):neighbours ↥s n=(s.all.filter λy=>y.1 !=n&&touching a y.2).map (·.1):=by
 let m:(n,(s.all.filter λy=>y.1 !=n&&touching a y.2).map (·.1))∈↥s:=by
  show ae.mpr #[(n,a),lZ.mpr #[b,h],0]
 show entry gU m
def iQ{n m:Nat}:m∈neighbours ↥s n↔∃a b,n<128/\m<128/\s.get n=some a/\s.get m=some b/\m≠n/\touching a b=true:=by
 walk
 .intro h;let i:=eV.mp<|p6 gU h;let[a,j]:=qY.mp i.2;rw[xK i.1 j]at h;let[[l,b],d,0]:=ae.mp h;let[e,c]:=aw.mp d;let[f,g]:=lZ.mp e;rw[be,z6]at c;show#[a,b,i.1,f,j,g,c.1,c.2]
 .ext⟨a,b,d,e,c,f,g,k⟩;rw[xK d c];show ae.mpr #[(m,b),aw.mpr #[lZ.mpr #[e,f],?_],0];rw[be,z6];show#[g,k]
def cD(h:wY s):gF ↥s where
 so:=gU
 La:=λi=>by
  by_cases n:i∈nodes ↥s
  .let[d,c]:=eV.mp n;let[a,o]:=qY.mp c;rw[xK d o];show zF (No _ a_) IU
  .let:neighbours ↥s i=[]:=by
    cases e:neighbours ↥s i with
    |nil=>rfl
    |cons x r=>show absurd (p6 gU (j:=x)<|by rw[e];simp) n
   rw[this];show List.Pairwise.nil
 mem:=λ{i j} g=>by
  let[a,b,d,c,k,f,l,m]:=iQ.mp g;show eV.mpr #[c,by rw[f];rfl]
 sym:=λ{i j} g=>by
  let[a,b,d,c,k,f,l,m]:=iQ.mp g;show iQ.mpr #[b,a,c,d,f,k,λe=>l e.symm,by rw[<-jY (h.pts _ _ k) (h.pts _ _ f)];show m]
 Pl:=λ{i} g=>by
  let[a,b,d,c,k,f,l,m]:=iQ.mp g;show l rfl
def get_set{n m:Nat}{o:Option Piece}(h:s.at_.length=128)(a:n<128):(s.set n o).get m=if m=n then o else s.get m:=by
 grind [Board.set,Board.get]
def Lp{n:Nat}{o:Option Piece}:(s.set n o).at_.length=s.at_.length:=by
 unfold Board.set;simp
def p7(k n:Nat):(Vbpcaf.fresh k).get n=none:=by
 grind [Vbpcaf.fresh,Board.get,MOSTPIECES]
def IV(k:Nat):wY (Vbpcaf.fresh k):=#[by simp[Vbpcaf.fresh,MOSTPIECES],λn a h=>by rw[p7]at h;cases h]
def Bx(h:wY s){n:Nat}{o:Option Piece}(b:n<128)(c:∀a,o=some a->a.shape.pts≠[]):wY (s.set n o):=
 #[by rw[Lp];show h.len,λm a e=>by
  rw[get_set h.len b]at e;split at e
  .show c a e
  .show h.pts m a e]
end
end
abbrev Key:=Sum Int Str
def oZ:Key->Value->Bool
 |.inl k,v=>Value.isInt k v
 |.inr x,v=>Value.isStrOf x v
def Rf(w:World):Key->Int
 |.inl k=>hashInt k
 |.inr x=>hashStr w x
def fq:∀{k:Key} {v:Value},oZ k v=true->(∃i t,k=Sum.inl i/\v=Value.int i t)\/(∃x t,k=Sum.inr x/\v=Value.str x t)
 |.inl i,v,h=>by
  let[t,e]:=Value.isInt_shape (k:=i) (v:=v) h;show .inl #[i,t,0,e]
 |.inr x,v,h=>by
  let[t,e]:=Value.isStrOf_shape (x:=x) (v:=v) h;show .inr #[x,t,0,e]
def G3(i:Int)(t:Tok):oZ (.inl i) (.int i t)=true:=by simp[oZ,Value.isInt]
def G4(x:Str)(t:Tok):oZ (.inr x) (.str x t)=true:=by simp[oZ,Value.isStrOf]
def Nr(a b:Int):decide ((Sum.inl a:Key)=Sum.inl b)=(a==b):=by
 by_cases e:a=b
 .subst e;simp
 .let h:¬(Sum.inl a:Key)=Sum.inl b:=λq=>e<|xq q;rw[bE h];show(iX.mpr e).symm
def Nt(a b:Str):decide ((Sum.inr a:Key)=Sum.inr b)=decide (a=b):=by
 by_cases e:a=b
 .subst e;simp
 .let h:¬(Sum.inr a:Key)=Sum.inr b:=λq=>e<|Sum.inr.inj q;rw[bE h,bE e]
def Nu(a:Int)(b:Str):decide ((Sum.inl a:Key)=Sum.inr b)=false:=bE λq=>nomatch q
def Nv(a:Str)(b:Int):decide ((Sum.inr a:Key)=Sum.inl b)=false:=bE λq=>nomatch q
def cX(d:Program)(w:World):PySem.KeyKind d w Key where
 is:=oZ
 hash:=Rf w
 inj:=λv a b l g=>by
  let[i,t,0,0]||[x,t,0,0]:=fq l
  .let[j,u,0,e]||[y,u,0,e]:=fq g
   .injection e with c _;rw[c]
   .show nomatch e
  .let[j,u,0,e]||[y,u,0,e]:=fq g
   .show nomatch e
   .injection e with c _;rw[c]
 byValue:=λk v h=>by
  let[i,t,0,0]||[x,t,0,0]:=fq h<;>rfl
 pyHash:=λf h=>by
  let[i,t,0,0]||[x,t,0,0]:=fq f
  .show wpAny_pyHash_int h
  .show wpAny_pyHash_str h
 eqBool:=λm f h=>by
  let[i,t,0,0]||[x,t,0,0]:=fq m
  .let[j,u,0,0]||[y,u,0,0]:=fq f
   .rw[Nr]at h;show wpAny_eqBool_int h
   .rw[Nu]at h;show SeqAt.EqAt.int_str i t y u _ _ _ _ h
  .let[j,u,0,0]||[y,u,0,0]:=fq f
   .rw[Nv]at h;show SeqAt.EqAt.str_int x t j u _ _ _ _ h
   .rw[Nt]at h;show wpAny_eqBool_str h
 «strs»:=λk x t v h=>by
  let[i,u,0,e]||[y,u,0,e]:=fq h
  .show nomatch e
  .injection e with c _;subst c;cases v<;>rfl
def EJ(a:Program)(w:World)(k:Key)(v:Value):(cX a w).is k v=oZ k v:=rfl
def Dc(a:Program)(w:World)(i:Int)(t:Tok):(cX a w).is (.inl i) (.int i t)=true:=G3 i t
def Dd(a:Program)(w:World)(x:Str)(t:Tok):(cX a w).is (.inr x) (.str x t)=true:=G4 x t
inductive V where
 |ic|bl (b:Bool)|int (i:Int)|str (x:Str)|Ev (b:Array UInt8)|QT (b:UInt64)|ref (a:Addr)|ty (n:String)
 deriving DecidableEq
def RelV:V->Value->Prop
 |.ic,u=>u=Value.none
 |.bl b,u=>u=Value.bool b
 |.int i,u=>∃t,u=Value.int i t
 |.str x,u=>∃t,u=Value.str x t
 |.Ev b,u=>∃t,u=Value.bytes b t
 |.QT b,u=>∃t,u=Value.float b t
 |.ref a,u=>u=Value.ref a
 |.ty n,u=>u=Value.type n
abbrev Vals:List V->List Value->Prop:=Paired RelV
def Vals.length(r:Vals b a):b.length=a.length:=eH r
def Vals.get:∀{b:List V} {a:List Value} {i:Nat} {x:V},Vals b a->b[i]?=some x->∃u,a[i]?=some u/\RelV x u
 |_,_,_,_,.nil,e=>by simp at e
 |_,_,0,_,.cons r _,e=>by simp at e;subst e;show#[1,r]
 |_,_,i+1,x,.cons _ t,e=>by
  let[u,c,d]:=Vals.get (i:=i) (x:=x) t<|by simpa using e
  show#[u,by simpa using c,d]
def Vals.append:∀{c d:List V} {a b:List Value},Vals c a->Vals d b->Vals (c++d) (a++b)
 |_,_,_,_,.nil,s=>s
 |_,_,_,_,.cons r t,s=>.cons r<|Vals.append t s
def Vals.take:∀{b:List V} {a:List Value} (n:Nat),Vals b a->Vals (b.take n) (a.take n)
 |_,_,0,_=>.nil
 |_,_,_+1,.nil=>.nil
 |_,_,n+1,.cons r t=>.cons r<|Vals.take n t
def Vals.drop:∀{b:List V} {a:List Value} (n:Nat),Vals b a->Vals (b.drop n) (a.drop n)
 |_,_,0,r=>r
 |_,_,_+1,.nil=>.nil
 |_,_,n+1,.cons _ t=>Vals.drop n t
def mZ:Option V->Option Value->Prop
 |some v,some u=>RelV v u
 |none,none=>True
 |_,_=>False
def KV{a:Type}:List (a×V)->List (a×Value)->Prop:=Paired λ(p:a×V) (q:a×Value)=>p.1=q.1/\RelV p.2 q.2
def kV:Key->V
 |.inl i=>.int i
 |.inr x=>.str x
inductive HO where
 |lst (xs:List V)
 |tup (xs:List V)
 |dK (kvs:List (Key×V))|dT (kvs:List (List Key×V))
 |set (S:Int->Bool) (n:Nat)
 |ins (C dx:Addr) (fs:List (Str×V))
 |own (x:Addr)
 |xd (fs:List (Str×V))
 |met (f x:Addr)
 |Rh (lo hi:Int)
 |g9 (o:Obj) (u:HO)
 |Nw (ps:Array Value)
 |ext (φ:Heap->Prop)
abbrev Hp:=Addr->Option HO
def upd(H:Hp)(a:Addr)(o:HO):Hp:=λb=>if b=a then some o else H b
def ag:upd H a o a=some o:=by unfold upd;rw[aH rfl]
def aA(h:b≠a):upd H a o b=H b:=by unfold upd;rw[az h]
def p8:upd (upd H a o) a u=upd H a u:=by
 funext b;unfold upd;split<;>rfl
def su{H:Hp}{a b:Addr}{o u:HO}(h:H a=some o)(c:H b=some u)(d:o≠u):a≠b:=by
 intro e;subst e;rw[h]at c;show d<|bj c
def cI{H:Hp}{a b:Addr}{o:HO}(h:H a=some o)(c:H b=none):a≠b:=by
 intro e;subst e;rw[h]at c;cases c
section
variable(P:Program)(w:World)
def fD(H:Hp)(h:Heap)(a:Addr):HO->Prop
 |.lst d=>d.length<=sizeLine/\∃(b:List Value) (n:Nat),Vals d b/\h.get? a=some {cls:=.type "list",data:=.seq b.toArray n}
 |.tup d=>d.length<=sizeLine/\∃b:List Value,Vals d b/\IsTup h a b.toArray
 |.dK c=>c.length<=sizeLine/\(a==sysModules)=false/\∃r,KV c r/\h.DictOf (cX P w) a r
 |.dT c=>c.length<=sizeLine/\(a==sysModules)=false/\∃d:List (List Key×Addr×Value),
   Paired (λ(p:List Key×V) (q:List Key×Addr×Value)=>p.1=q.1/\H q.2.1=some (.tup<|p.1.map kV)/\RelV p.2 q.2.2) c d/\
   ∃o k s,h.get? a=some o/\o.ExactDict/\o.data=.dict k s/\k.toList=d.map (entryOfKey<|tupleKind<|cX P w)/\(d.map (·.1)).Nodup
 |.set S n=>h.SetOf (intKind P w) a S n
 |.ins C i g=>H i=some (.own a)/\g.length<=1000/\i≠a/\h.get? a=some (instObj C i)/\
   ∃e,h.Ns1 i e/\(∀f,mZ (g.lookup f)<|e f)/\PySem.Within e (g.map (·.1))
 |.own _=>∃o,h.get? a=some o
 |.xd g=>∃e,h.Ns1 a e/\∀f,mZ (g.lookup f)<|e f
 |.Rh lo y=>∃t u v,h.get? a=some {cls:=.type "range",data:=.fields [.int lo t,.int y u,.int 1 v].toArray}
 |.g9 o u=>h.get? a=some o/\fD H h a u
 |.Nw z=>h.get? a=some {cls:=.none,data:=.fields z}
 |.met f x=>h.get? a=some (methodObj (.ref f)<|.ref x)
 |.ext j=>j h/\(∃o,h.get? a=some o)/\∀l m:Heap,j l->(∀o,l.get? a=some o->m.get? a=some o)->j m
def o5(H:Hp)(h:Heap):Prop:=∀a o,H a=some o->fD P w H h a o
end
section
variable{P:Program}{w:World}{H:Hp}{h h':Heap}{a:Addr}{o:HO}
def fD.lt(x:fD P w H h a o):a<h.objs.size:=by
 cases o with
 |lst d=>let[_,_,_,_,e]:=x;show ce e
 |tup d=>obtain⟨_,_,_,p⟩:=x;show p.lt
 |dK b=>obtain⟨_,_,_,_,o,_,_,e,_⟩:=x;show ce e
 |dT b=>obtain⟨_,_,_,_,o,_,_,e,_⟩:=x;show ce e
 |set S n=>obtain⟨o,_,_,_,e,_⟩:=x;show ce e
 |ins C g c=>obtain⟨_,_,_,e,_⟩:=x;show ce e
 |own y=>obtain⟨_,e⟩:=x;show ce e
 |xd c=>obtain⟨_,⟨_,_,_,e,_⟩,_⟩:=x;show ce e
 |Rh lo i=>obtain⟨_,_,_,e⟩:=x;show ce e
 |g9 j u=>obtain⟨e,_⟩:=x;show ce e
 |Nw k=>show ce (show h.get? a=some _ from x)
 |met f y=>show ce (show h.get? a=some _ from x)
 |ext l=>obtain⟨_,⟨_,e⟩,_⟩:=x;show ce e
def Paired.Ny:∀{c:List e} {d:List g},Paired F c d->(∀a b,F a b->G a b)->Paired G c d
 |_,_,.nil,_=>.nil
 |_,_,.cons r t,f=>.cons (f _ _ r)<|Paired.Ny t f
def fD.vJ(x:fD P w H h a o)(k:∀b u,(b=a\/H b=some (.own a))->h.get? b=some u->h'.get? b=some u)(I:∀b,H b=some (.own a)->D b=some (.own a))(J:∀b m,H b=some (.tup m)->D b=some (.tup m)):fD P w D h' a o:=by
 induction o with
 |lst m=>let[z,l,n,r,e]:=x;show#[z,l,n,r,k _ _ (.inl rfl) e]
 |tup m=>obtain⟨z,l,r,g,e,c⟩:=x;show#[z,l,r,g,k _ _ (.inl rfl) e,c]
 |dK s=>obtain⟨z,y,M,r,g,j,i,e,c⟩:=x;show#[z,y,M,r,g,j,i,k _ _ (.inl rfl) e,c]
 |dT s=>
  obtain⟨z,y,m,r,g,j,i,e,c⟩:=x;show#[z,y,m,Paired.Ny r λp q z=>#[z.1,J _ _ z.2.1,z.2.2],g,j,i,k _ _ (.inl rfl) e,c]
 |set S n=>obtain⟨g,j,i,t,e,c⟩:=x;show#[g,j,i,t,k _ _ (.inl rfl) e,c]
 |ins C N G=>
  obtain⟨d,z,L,e,A,⟨B,j,i,F,c⟩,r⟩:=x;show#[I _ d,z,L,k _ _ (.inl rfl) e,A,#[B,j,i,k _ _ (.inr d) F,c],r]
 |own y=>obtain⟨g,e⟩:=x;show#[g,k _ _ (.inl rfl) e]
 |xd G=>obtain⟨A,⟨B,j,i,e,c⟩,r⟩:=x;show#[A,#[B,j,i,k _ _ (.inl rfl) e,c],r]
 |Rh lo O=>obtain⟨t,u,v,e⟩:=x;show#[t,u,v,k _ _ (.inl rfl) e]
 |g9 g u K=>obtain⟨e,q⟩:=x;show#[k _ _ (.inl rfl) e,K q]
 |Nw E=>
  have e:h.get? a=some {cls:=.none,data:=.fields E}:=x;show h'.get? a=some {cls:=.none,data:=.fields E};show k a _ (.inl rfl) e
 |met f y=>
  have e:h.get? a=some (methodObj (.ref f)<|.ref y):=x;show h'.get? a=some (methodObj (.ref f)<|.ref y);show k a _ (.inl rfl) e
 |ext Q=>obtain⟨p,⟨o,e⟩,st⟩:=x;show#[st _ _ p λo q=>k _ _ (.inl rfl) q,#[o,k _ _ (.inl rfl) e],st]
def o5.lt(x:o5 P w H h)(e:H a=some o):a<h.objs.size:=(x a o e).lt
def o5.fresh(x:o5 P w H h)(e:h.objs.size<=a):H a=none:=by
 cases q:H a with
 |none=>rfl
 |some u=>show absurd (cq (x.lt q) e) (dO _)
def o5.kept(x:o5 P w H h)(k:∀b u,h.get? b=some u->h'.get? b=some u):o5 P w H h':=λa o e=>
 (x a o e).vJ (λb u _ q=>k b u q) (λ_ q=>q) λ_ _ q=>q
def o5.laid(x:o5 P w H h)(k:∀b u,h.get? b=some u->h'.get? b=some u)(i:h.objs.size<=a)(d:fD P w (upd H a o) h' a o):o5 P w (upd H a o) h':=λb u e=>by
 let g:=x.fresh i;by_cases f:b=a
 .subst f;rw[ag]at e;cases e;show d
 .rw[aA f]at e;show(x b u e).vJ (λc v _ q=>k c v q) (λc q=>by rw[aA<|cI q g];show q) λc j q=>by rw[aA<|cI q g];show q
end
def Rd(H:Hp)(a:Addr)(u:HO):Prop:=H a=some u\/∃o,H a=some (.g9 o u)
def Rd.of(h:H a=some u):Rd H a u:=.inl h
def Rd.ok(r:Rd H a u)(x:o5 P w H h):fD P w H h a u:=by
 let r||[o,r]:=r
 .show x a u r
 .let[_,q]:=x a _ r;show q
def M4:Option HO->Prop
 |some (.lst _)=>True
 |some (.dK _)=>True
 |some (.dT _)=>True
 |some (.set _ _)=>True
 |some (.ins _ _ _)=>True
 |some (.ext _)=>True
 |_=>False
def o5.write(ok:o5 P w H h)(j:M4 (H x))(o:e=x\/H e=some (.own x))(k:∀b u,b≠e->h.get? b=some u->h'.get? b=some u)(m:∃u,h'.get? e=some u)(n:fD P w (upd H x p) h' x p):o5 P w (upd H x p) h':=λb u q=>by
 let d:∀c y,H c=some (.own y)->c≠x:=λc y r z=>by subst z;rw[r]at j;show j
 let f:∀c l,H c=some (.tup l)->c≠x:=λc l r z=>by subst z;rw[r]at j;show j
 by_cases g:b=x
 .subst g;rw[ag]at q;cases q;show n
 .rw[aA g]at q;by_cases a:b=e
  .let s:H b=some (.own x):=by
    let z||z:=o
    .show absurd (a.trans z) g
    .rw[a];show z
   rw[q]at s;cases s
   let[v,t]:=m;show#[v,by rw[a];show t]
  .show(ok b u q).vJ (λc v i r=>k c v ?_ r) (λc r=>by rw[aA<|d c b r];show r) λc l r=>by rw[aA<|f c l r];show r
   let 0||i:=i
   .show a
   .ext rfl;let z||z:=o
    .show d c b i z
    .rw[i]at z;cases z;show g rfl
structure Un(fs ex:List Addr)(H H':Hp)(h h':Heap):Prop where
 keep:∀b o,h.get? b=some o->H b=none->b∉fs->b∉ex->h'.get? b=some o
 slot:∀b o,h.get? b=some o->H b=none->b∈fs->b∉ex->∃sl,h'.get? b=some {o with slots:=sl}
 free:∀b o,h.get? b=some o->H b=none->b∉ex->H' b=none
 there:∀b o,h.get? b=some o->b∉ex->∃o',h'.get? b=some o'
 zL:∀b xs,H b=some (.tup xs)->H' b=some (.tup xs)
 vK:∀b o u,H b=some (.g9 o u)->H' b=some (.g9 o u)
 zM:∀b ps,H b=some (.Nw ps)->∃more,H' b=some (.Nw<|ps++more)
section
variable{fs ex:List Addr}{H:Hp}{h h':Heap}{a:Addr}{o:HO}
def Un.any(u:Un fs ex H i h f)(q:h.get? b=some c)(n:H b=none)(e:b∉ex):∃g,f.get? b=some {c with slots:=g}:=by
 by_cases d:b∈fs
 .show u.slot b c q n d e
 .show#[c.slots,u.keep b c q n d e]
def Un.kept(k:∀b u,h.get? b=some u->h'.get? b=some u):Un fs ex H H h h':=
 #[λb c q _ _ _=>k b c q,λb c q _ _ _=>#[c.slots,k b c q],λ_ _ _ n _=>n,λb c q _=>#[c,k b c q],λ_ _ q=>q,λ_ _ _ q=>q,λ_ d q=>#[#[],by rw[q];simp]]
def Un.refl:Un fs ex H H h h:=Un.kept λ_ _ q=>q
def Un.laid(k:∀b u,h.get? b=some u->h'.get? b=some u)(d:h.objs.size<=a)(c:H a=none):Un fs ex H (upd H a o) h h' where
 keep:=λb u q _ _ _=>k b u q
 slot:=λb u q _ _ _=>#[u.slots,k b u q]
 free:=λb u q n _=>by rw[aA<|bN<|cq (ce q) d];show n
 there:=λb u q _=>#[u,k b u q]
 zL:=λb e q=>by rw[aA<|cI q c];show q
 vK:=λb u e q=>by rw[aA<|cI q c];show q
 zM:=λb f q=>#[#[],by rw[aA<|cI q c,q];simp]
def Un.write(d:M4 (H x))(l:e=x\/H e=some (.own x))(k:∀b u,b≠e->h.get? b=some u->h'.get? b=some u)(f:∃u,h'.get? e=some u):Un fs ex H (upd H x o) h h':=by
 let j:∀b,H b=none->b≠x:=λb n z=>by subst z;rw[n]at d;show d
 let i:∀b,H b=none->b≠e:=λb n z=>by
  subst z;let r||r:=l
  .show j b n r
  .rw[n]at r;cases r
 let g:∀b u,H b=some u->¬M4 (some u)->b≠x:=λb u q m z=>by subst z;rw[q]at d;show m d
 show#[λb u q n _ _=>k b u (i b n) q,λb u q n _ _=>#[u.slots,k b u (i b n) q],λb u q n _=>by rw[aA<|j b n];show n,λb u q _=>?_,
  λb p q=>by rw[aA (g b _ q λz=>z)];show q,λb u p q=>by rw[aA (g b _ q λz=>z)];show q,λb s q=>#[#[],by rw[aA (g b _ q λz=>z),q];simp]]
 by_cases c:b=e
 .subst c;show f
 .show#[u,k b u c q]
end
def QU(h:Heap)(H:Hp):List Addr:=(List.range h.objs.size).filter λa=>(H a).isSome
def By(h:Heap)(H:Hp):Heap:=PySem.W.hideAll h<|QU h H
def G6(h:Heap)(H:Hp):(By h H).objs.size=h.objs.size:=PySem.W.hideAll_size _ _
def IW(e:h.get? b=some o)(n:H b=none):(By h H).get? b=some o:=
 PySem.W.hideAll_get _ e λa=>by
  let q:(H b).isSome=true:=(aw.mp a).2;rw[n]at q;simp at q
def Lq(e:(By h H).get? b=some o):h.get? b=some o/\H b=none:=by
 let a:h.get? b=some o:=PySem.W.of_hideAll (QU h H) e;show#[a,?_];cases q:H b with
 |none=>rfl
 |some x=>
  let c:b∈QU h H:=aw.mpr #[cB.mpr (ce a),by simp[q]]
  let z:(By h H).get? b=none:=PySem.W.hideAll_none (QU h H) c;rw[z]at e;cases e
structure Mod(K:Frag)(mg:Str->Option Value)(base:Heap):Prop where
 Pa:K.In base
 glob:base.Ns mainGlobals mg
 blt:∃mb,base.Ns builtinsNs mb/\∀x:Str,x≠"__name__"->mb x=bootBuiltins x
 nolimit:base.NoLimit
structure Cx where
 prog:Program
 w:World
 K:Frag
 mg:Str->Option Value
 base:Heap
 A:Around
 N:List Str
 AK:Shared
 Nz:Hp
 env:Env
 outer:List Env
 stack:List Env
 ex:List Addr
 fn:Str->Bool
 calm:Bool
 pn:List (Addr×Obj)
 xe:Value->Shared->Prop
def IX(l:List Env):List Addr:=l.filterMap (·.frame)
abbrev Cx.fs(X:Cx):List Addr:=IX X.outer
def NA(sc:Scope)(x:Str):Prop:=sc.names.lookup x=some .local\/sc.names.lookup x=some .cell\/sc.names.lookup x=some .free
def Loc(sc:Scope)(x:Str):Prop:=sc.names.lookup x=some .local\/sc.names.lookup x=some .cell
def Look(a:Env)(h:Heap)(m:Str->Option Value)(x:Str)(u:Value):Prop:=
 (a.kindOf x=some .local/\m x=some u)\/((a.kindOf x=some .cell\/a.kindOf x=some .free)/\∃c,a.cells.lookup x=some c/\h.IsCell c (some u))
structure Cx.Ok(X:Cx):Prop where
 mod:Mod X.K X.mg X.base
 kind:X.env.scope.kind=.function
 glob:X.env.globals=mainGlobals
 blt:X.env.builtins=builtinsNs
 above:X.AK.heap.objs.size<=X.env.locals
 inj:∀x y c,X.env.cells.lookup x=some c->X.env.cells.lookup y=some c->x=y
 has:∀x,(X.env.kindOf x=some .cell\/X.env.kindOf x=some .free)->∃c,X.env.cells.lookup x=some c
 Pn:∀x c,X.fn x=true->X.env.cells.lookup x=some c->X.AK.heap.objs.size<=c
 hd:X.calm=true->X.A.handled=none
 frames:X.A.frames=some X.stack
 QV:X.stack=X.outer\/(X.stack=X.env::X.outer/\X.env.frame=some X.env.locals)
 QW:∀b∈X.ex,b≠X.env.locals/\∀x c,X.env.cells.lookup x=some c->c≠b
 bs:∀b o,X.base.get? b=some o->X.AK.heap.get? b=some o/\X.Nz b=none
 Lb:X.base.objs.size<=X.AK.heap.objs.size
 IY:∀b o,X.base.get? b=some o->b∉X.ex
 IZ:∀b∈X.ex,b∉X.fs
 t8:X.AK.heap.FunFrames X.base X.outer
 M5:∀b∈X.fs,X.Nz b=none
structure Inv(X:Cx)(pins:List (Addr×Obj))(σ:List (Option V))(H:Hp)(s:Shared):Prop where
 ok:X.Ok
 os:s.os=X.AK.os
 bare:AllBare s.gens
 base:Un X.fs X.ex X.Nz H X.AK.heap s.heap
 loc:∃m,s.heap.Ns X.env.locals m/\∀(i:Nat) (x:Str) (v:V),X.N[i]?=some x->σ[i]?=some (some v)->NA X.env.scope x->∃u,RelV v u/\Look X.env s.heap m x u
 cell:∀x c,X.env.cells.lookup x=some c->∃v,s.heap.IsCell c v
 free:H X.env.locals=none
 l8:∀x c,X.env.cells.lookup x=some c->H c=none
 pin:∀p∈X.pn++pins,s.heap.get? p.1=some p.2/\H p.1=none/\p.1≠X.env.locals/\p.1∉X.fs/\∀v,p.2.data≠.cell v
 hok:o5 X.prog X.w H s.heap
 len:σ.length=X.N.length
section
variable{X:Cx}{pins:List (Addr×Obj)}{σ:List (Option V)}{H H':Hp}{s:Shared}{h':Heap}
def Cx.Ok.Ri(ok:X.Ok){b:Addr}{o:Obj}(e:X.base.get? b=some o):b∉X.fs:=λa=>by
 let:=(ok.t8.mem a).1;rw[e]at this;cases this
def Inv.bs(I:Inv X pins σ H s):∀b o,X.base.get? b=some o->s.heap.get? b=some o/\H b=none:=λb o e=>
 #[I.base.keep b o (I.ok.bs b o e).1 (I.ok.bs b o e).2 (I.ok.Ri e) (I.ok.IY b o e),I.base.free b o (I.ok.bs b o e).1 (I.ok.bs b o e).2<|I.ok.IY b o e]
def Inv.bk(I:Inv X pins σ H s):∀b o,X.base.get? b=some o->s.heap.get? b=some o:=λb o e=>(I.bs b o e).1
def Inv.mod(I:Inv X pins σ H s):Mod X.K X.mg X.base:=I.ok.mod
def Inv.Bz(I:Inv X pins σ H s):X.K.In s.heap:=I.ok.mod.Pa.keeps I.bk
def Inv.lt(I:Inv X pins σ H s):X.env.locals<⇑s:=let #[_,a,_]:=I.loc;a.lt
def Inv.sz(I:Inv X pins σ H s):X.AK.heap.objs.size<=⇑s:=aL I.ok.above<|iJ I.lt
def Inv.Rj(I:Inv X pins σ H s)(h:⇑s<=a):a∉X.fs:=λb=>by
 let[_,o,c,_]:=I.ok.t8.mem b;show absurd (cq (ce c)<|aL I.sz h) (dO _)
def Inv.NB(I:Inv X pins σ H s):∀x c,X.env.cells.lookup x=some c->c≠X.env.locals:=λx c e z=>by
 let[v,o,f,d]:=I.cell x c e;let[m,[i,h,g,b,a,_],_]:=I.loc;rw[z,b]at f;cases f;rw[a]at d;cases d
def Inv.t8(I:Inv X pins σ H s):s.heap.FunFrames X.base X.outer:=by
 let all:∀(l:List Env),(∀b∈IX l,b∈X.fs)->X.AK.heap.FunFrames X.base l->s.heap.FunFrames X.base l:=by
  intro l
  induction l with
  |nil=>intro _ _;trivial
  |cons g r p=>
   intro f j;let[i,[L,o,d,k,m,h],n]:=j;let a:L∈X.fs:=f L<|by unfold IX;rw[SR,d];show aN
   let[q,e]:=I.base.slot L o m (I.ok.M5 L a) a λz=>I.ok.IZ L z a;show#[i,#[L,_,d,k,e,h],p (λb c=>f b<|by unfold IX;rw[SR,d];show aC _ c) n]
 show all X.outer (λ_ c=>c) I.ok.t8
def Inv.stack(I:Inv X pins σ H s):s.heap.FunFrames X.base X.stack:=by
 let e||[e,a]:=I.ok.QV
 .rw[e];show I.t8
 .rw[e];let[m,b,_]:=I.loc;show .cons (by rw[I.ok.kind];decide) a b ?_ I.t8
  show Heap.get?_none_of_le<|aL I.ok.Lb I.ok.above
def Inv.EK(I:Inv X pins σ H s):∀b∈IX X.stack,b∈X.env.locals::X.fs:=λb a=>by
 let e||[e,c]:=I.ok.QV
 .rw[e]at a;show aC _ a
 .rw[e]at a;unfold IX at a;rw[SR,c]at a;show a
def Inv.FY(I:Inv X pins σ H s):∀b∈IX X.stack,H b=none:=λb a=>by
 let e||a:=aB.mp (I.EK b a)
 .rw[e];show I.free
 .let[_,o,c,_]:=I.ok.t8.mem a;show I.base.free b o c (I.ok.M5 b a) λz=>I.ok.IZ b z a
def Inv.step{g':Array GenState}{t':Nat}{d':Drawn}{ch:List Addr}(I:Inv X pins σ H s)
  (h:∀b∈ch,(b∈X.ex\/X.AK.heap.objs.size<=b)/\b≠X.env.locals/\(∀x c,X.env.cells.lookup x=some c->c≠b)/\∀p∈X.pn++pins,p.1≠b)
  (j:∀b o,b≠X.env.locals->b∉X.fs->b∉ch->s.heap.get? b=some o->H b=none->h'.get? b=some o)
  (A:∀b o,b≠X.env.locals->b∈X.fs->b∉ch->s.heap.get? b=some o->H b=none->∃O,h'.get? b=some {o with slots:=O}) (f:∀b o,b∉ch->s.heap.get? b=some o->H b=none->H' b=none)
  (D:∀b o,b∉ch->s.heap.get? b=some o->∃K,h'.get? b=some K)
  (zL:∀b B,H b=some (.tup B)->H' b=some (.tup B)) (vK:∀b o u,H b=some (.g9 o u)->H' b=some (.g9 o u)) (zM:∀b L,H b=some (.Nw L)->∃G,H' b=some (.Nw<|L++G))
  (ns:∀m,s.heap.Ns X.env.locals m->h'.Ns X.env.locals m) (N:o5 X.prog X.w H' h') (U:AllBare g'):
  Inv X pins σ H' {s with heap:=h',gens:=g',drawn:=d',toks:=t'}:=by
 let J:∀b o,X.AK.heap.get? b=some o->b≠X.env.locals:=λb o e=>bN<|cq (ce e) I.ok.above;let y:∀b o,X.AK.heap.get? b=some o->b∉X.ex->b∉ch:=λb o e a C=>by
  let z||z:=(h b C).1
  .show a z
  .show absurd (cq (ce e) z) (dO _)
 let g:∀x c,X.env.cells.lookup x=some c->∀v,s.heap.IsCell c v->h'.IsCell c v:=λx c e v #[o,E,M]=>by
  let t:c∉ch:=λz=>(h c z).2.2.1 x c e rfl;by_cases Q:c∈X.fs
  .let[O,q]:=A c o (I.NB x c e) Q t E<|I.l8 x c e;show#[_,q,M]
  .show#[o,j c o (I.NB x c e) Q t E<|I.l8 x c e,M]
 show#[I.ok,I.os,U,#[λb o e n C a=>?_,λb o e n C a=>?_,λb o e n a=>?_,λb o e a=>?_,λb B e=>zL b B<|I.base.zL b B e,λb o B e=>vK b o B<|I.base.vK b o B e,λb L e=>?_],?_,λx c e=>?_,?_,λx c e=>?_,λp R=>?_,N,I.len]
 .show j b o (J b o e) C (y b o e a) (I.base.keep b o e n C a)<|I.base.free b o e n a
 .let[O,w]:=I.base.slot b o e n C a;let[P,F]:=A b _ (J b o e) C (y b o e a) w<|I.base.free b o e n a;show#[P,F]
 .let[K,w]:=I.base.there b o e a;show f b K (y b o e a) w<|I.base.free b o e n a
 .let[K,w]:=I.base.there b o e a;show D b K (y b o e a) w
 .let[Z,w]:=I.base.zM b L e;let[m2,F]:=zM b _ w;show#[Z++m2,by rw[F,Array.append_assoc]]
 .let[m,Y,W]:=I.loc;show#[m,ns m Y,λi x v w F T=>?_];let[u,r,l]:=W i x v w F T;show#[u,r,?_];let l||[k,c,e,z]:=l
  .show .inl l
  .show .inr #[k,c,e,g x c e _ z]
 .let[v,z]:=I.cell x c e;show#[v,g x c e v z]
 .let[m,[o,_,_,E,_],_]:=I.loc;show f _ o (λz=>(h _ z).2.1 rfl) E I.free
 .let[v,o,E,M]:=I.cell x c e;show f c o (λz=>(h c z).2.2.1 x c e rfl) E<|I.l8 x c e
 .let[e,n,S,nf,d]:=I.pin p R;let t:p.1∉ch:=λz=>(h p.1 z).2.2.2 p R rfl;show#[j p.1 p.2 S nf t e n,f p.1 p.2 t e n,S,nf,d]
def Inv.un{t':Nat}(I:Inv X pins σ H s)(u:Un X.fs [] H H' s.heap h')(g:o5 X.prog X.w H' h'):Inv X pins σ H' {s with heap:=h',toks:=t'}:=by
 let[m,[o,p,l,h,r],_]:=id I.loc;let[v,i]:=u.any h I.free<|by simp
 show I.step (g':=s.gens) (d':=s.drawn) (ch:=[]) (λ_ z=>nomatch z) (λb o _ f _ e n=>u.keep b o e n f<|by simp) (λb o _ f _ e n=>u.slot b o e n f<|by simp) (λb o _ e n=>u.free b o e n<|by simp) (λb o _ e=>u.there b o e<|by simp) u.zL u.vK u.zM (λq j=>by
  let[t,d,c,a,k]:=j;rw[h]at a;cases a
  show#[_,d,c,i,k]) g I.bare
def Inv.call{g':Array GenState}{t':Nat}{d':Drawn}{ch:List Addr}(I:Inv X pins σ H s)(u:Un (IX X.stack) ch H H' s.heap h')(j:o5 X.prog X.w H' h')(q:AllBare g')
  (d:∀b∈ch,(b∈X.ex\/X.AK.heap.objs.size<=b)/\b≠X.env.locals/\(∀x c,X.env.cells.lookup x=some c->c≠b)/\∀p∈X.pn++pins,p.1≠b):
  Inv X pins σ H' {s with heap:=h',gens:=g',drawn:=d',toks:=t'}:=by
 let[m,[o,y,w,k,r],_]:=id I.loc;let[C,i]:=u.any k I.free λz=>(d _ z).2.1 rfl;show I.step (ch:=ch) d (λb o i l a e n=>u.keep b o e n (λz=>(aB.mp<|I.EK b z).elim i l) a) (λb o _ _ a e n=>u.any e n a) (λb o a e n=>u.free b o e n a) (λb o a e=>u.there b o e a) u.zL u.vK u.zM (λA t=>by
  let[B,h,g,f,v]:=t;rw[k]at f;cases f
  show#[_,h,g,i,v]) j q
def Inv.turned{t':Nat}{a:Addr}(I:Inv X pins σ H s)(k:∀b o,b≠a->s.heap.get? b=some o->h'.get? b=some o)(A:H a=none)(g:a≠X.env.locals)
  (j:a∈X.ex\/X.AK.heap.objs.size<=a) (l:∀x c,X.env.cells.lookup x=some c->c≠a) (t:∀p∈X.pn++pins,p.1≠a):Inv X pins σ H {s with heap:=h',toks:=t'}:=by
 let f:∀b u,H b=some u->b≠a:=λb u e z=>by rw[z,A]at e;cases e
 show I.step (g':=s.gens) (d':=s.drawn) (ch:=[a]) (λb w=>?_) (λb o _ _ d e _=>k b o (λz=>d<|by simp[z]) e) (λb o _ _ d e _=>#[o.slots,k b o (λz=>d<|by simp[z]) e]) (λ_ _ _ _ n=>n)
  (λb o d e=>#[o,k b o (λz=>d<|by simp[z]) e]) (λ_ _ e=>e) (λ_ _ _ e=>e) (λb C e=>#[#[],by rw[e];simp]) (λm y=>?_) (λb u e=>?_) I.bare
 .let e:b=a:=by simpa using w
  subst e;show#[j,g,l,t]
 .let[o,i,h,B,r]:=y;show#[o,i,h,k _ o (bJ g) B,r]
 .show(I.hok b u e).vJ (λc v d q=>k c v ?_ q) (λ_ q=>q) λ_ _ q=>q;let z||z:=d
  .rw[z];show f b u e
  .show f c _ z
def Inv.tok(I:Inv X pins σ H s)(t:Nat):Inv X pins σ H {s with toks:=t}:=I.un (h':=s.heap) (t':=t) Un.refl I.hok
def Inv.kept(I:Inv X pins σ H s)(k:∀b u,s.heap.get? b=some u->h'.get? b=some u):Inv X pins σ H {s with heap:=h',toks:=t'}:=I.un (Un.kept k)<|I.hok.kept k
def Inv.laid(I:Inv X pins σ H s)(k:∀b u,s.heap.get? b=some u->h'.get? b=some u)(c:⇑s<=a)(d:fD X.prog X.w (upd H a o) h' a o):
  Inv X pins σ (upd H a o) {s with heap:=h',toks:=t'}:=I.un (Un.laid k c<|I.hok.fresh c)<|I.hok.laid k c d
def Inv.write(I:Inv X pins σ H s)(f:M4 (H x))(d:e=x\/H e=some (.own x))(k:∀b u,b≠e->s.heap.get? b=some u->h'.get? b=some u)(a:∃u,h'.get? e=some u)(c:fD X.prog X.w (upd H x o) h' x o):Inv X pins σ (upd H x o) {s with heap:=h',toks:=t'}:=I.un (Un.write f d k a)<|I.hok.write f d k a c
def Inv.weak(I:Inv X pins σ H s)(f:a.length=σ.length)(w:∀(i:Nat) v,a[i]?=some (some v)->σ[i]?=some (some v)):Inv X pins a H s:=
 #[I.ok,I.os,I.bare,I.base,let #[m,g,b]:=I.loc;#[m,g,λi x v c d e=>b i x v c (w i v d) e],I.cell,I.free,I.l8,I.pin,I.hok,f.trans I.len]
def Inv.FZ(I:Inv X pins σ H s)(h:∀p∈a,s.heap.get? p.1=some p.2/\H p.1=none/\p.1≠X.env.locals/\p.1∉X.fs/\∀v,p.2.data≠.cell v):Inv X a σ H s:=
 #[I.ok,I.os,I.bare,I.base,I.loc,I.cell,I.free,I.l8,λp b=>(aG.mp b).elim (λz=>I.pin p<|cJ _ z)<|h p,I.hok,I.len]
def xL{N:List Str}(e:N.Nodup){i j:Nat}{x:Str}(a:N[i]?=some x)(b:N[j]?=some x):i=j:=by
 let[f,c]:=aJ.mp a;let[g,d]:=aJ.mp b;show(lQ e).mp<|c.trans d.symm
def AL{M:Model}{A:Around}{E:Value->Shared->Prop}{i:Nat}{x:Str}{v:V}{u:Value}{Q:Unit->Shared->Prop}(I:Inv X pins σ H s)(hN:X.N.Nodup)(P:X.N[i]?=some x)(w:Loc X.env.scope x)(r:RelV v u)
  (h:∀s',Inv X pins (σ.set i<|some v) H s'->(∃a,Heap.SameBut a s.heap s'.heap/\(a=X.env.locals\/X.env.cells.lookup x=some a))->Q () s') (hf:X.fn x=true\/X.env.scope.names.lookup x=some .local:=by first|show .inl rfl|show .inr rfl|assumption):wpAny M A (storeName X.env x u) Q E s:=by
 let[m,hn,hl]:=id I.loc;let O:(X.env.scope.kind==.class||(X.env.scope.kind==.module&&X.env.locals !=X.env.globals))=false:=by rw[I.ok.kind];rfl
 let D:i<σ.length:=by rw[I.len];show(aJ.mp P).1
 let Y:=I.NB;let l:∀{a:Addr} {h':Heap},(∃o,s.heap.get? a=some o/\H a=none)->Heap.SameBut a s.heap h'->o5 X.prog X.w H h':=λ{a h'} ha f b ob e=>by
  let[_,_,B]:=ha;show(I.hok b ob e).vJ (λc W t q=>(f.2 c ?_).trans q) (λ_ q=>q) λ_ _ q=>q;ext rfl;let 0||t:=t
  .rw[B]at e;cases e
  .rw[B]at t;cases t
 let F||F:=w
 .show wpAny_storeName_local F hn (λh' hn' f=>?_) O;let[oL,_,_,hoL,_]:=id hn;show h _ #[I.ok,I.os,I.bare,#[λb o e n G w=>?_,λb o e n G w=>?_,I.base.free,λb o e w=>?_,I.base.zL,I.base.vK,I.base.zM],#[_,hn',λj y v' g C Z=>?_],λy c e=>?_,I.free,I.l8,λp hp=>?_,l #[oL,hoL,I.free] f,by simpa using I.len] #[_,f,.inl rfl]
  .show(f.2 b<|bN<|cq (ce e) I.ok.above).trans<|I.base.keep b o e n G w
  .let[sl,g]:=I.base.slot b o e n G w;show#[sl,(f.2 b<|bN<|cq (ce e) I.ok.above).trans g]
  .let[o',g]:=I.base.there b o e w;show#[o',(f.2 b<|bN<|cq (ce e) I.ok.above).trans g]
  .by_cases K:j=i
   .subst K;rw[P]at g;cases g
    rw[i7 D]at C;cases C
    show#[u,r,.inl #[F,by simp]]
   .rw[j8<|bJ K]at C;let[u',r',q]:=hl j y v' g C Z;show#[u',r',?_];let[k,e]||[k,c,e,z]:=q
    .show .inl #[k,?_];let:y≠x:=λe=>K<|xL hN g<|e▸P;simp[this,e]
    .show .inr #[k,c,e,z.sameBut f<|Y y c e]
  .let[W,z]:=I.cell y c e;show#[W,z.sameBut f<|Y y c e]
  .let[e,n,U,nf,d]:=I.pin p hp;show#[(f.2 p.1 U).trans e,n,U,nf,d]
 .let J:X.fn x=true:=by
   let z||z:=hf
   .show z
   .rw[z]at F;cases F
  let[c,t]:=I.ok.has x<|.inl F;let[W,z]:=I.cell x c t;show wpAny_storeName_cell I.ok.kind F t z λh' L f=>?_;let[oc,R,S]:=id z;show h {s with heap:=h'} #[I.ok,I.os,I.bare,#[λb o e n G w=>?_,λb o e n G w=>?_,I.base.free,λb o e w=>?_,I.base.zL,I.base.vK,I.base.zM],#[m,hn.sameBut f<|bJ<|Y x c t,λj y v' g C Z=>?_],λy T e=>?_,I.free,I.l8,λp hp=>?_,l #[oc,R,I.l8 x c t] f,by simpa using I.len] #[c,f,.inr t]
  .show(f.2 b<|bN<|cq (ce e)<|I.ok.Pn x c J t).trans<|I.base.keep b o e n G w
  .let[sl,g]:=I.base.slot b o e n G w;show#[sl,(f.2 b<|bN<|cq (ce e)<|I.ok.Pn x c J t).trans g]
  .let[o',g]:=I.base.there b o e w;show#[o',(f.2 b<|bN<|cq (ce e)<|I.ok.Pn x c J t).trans g]
  .by_cases K:j=i
   .subst K;rw[P]at g;cases g
    rw[i7 D]at C;cases C
    show#[u,r,.inr #[.inl F,c,t,L]]
   .rw[j8<|bJ K]at C;let[u',r',q]:=hl j y v' g C Z;show#[u',r',?_];let q||[k,T,e,z']:=q
    .show .inl q
    .show .inr #[k,T,e,z'.sameBut f ?_];ext rfl;show K<|xL hN g<|I.ok.inj _ _ _ e t▸P
  .by_cases N:T=c
   .subst N;show#[_,L]
   .let[w2,z2]:=I.cell y T e;show#[w2,z2.sameBut f N]
  .let[e,n,U,nf,d]:=I.pin p hp;show#[(f.2 p.1 ?_).trans e,n,U,nf,d];intro q;rw[q,R]at e;let q':oc=p.2:=bj e;show d W<|by rw[<-q'];show S
def De(I:Inv X pins σ H s)(c:X.N.Nodup)(e:X.N[i]?=some x)(f:Loc X.env.scope x)(r:RelV v u)(h:∀a,Inv X pins (σ.set i<|some v) H a->Q () a)(d:X.fn x=true\/X.env.scope.names.lookup x=some .local:=by first|show .inl rfl|show .inr rfl|assumption):wpAny M A (storeName X.env x u) Q E s:=
 AL I c e f r (λa b _=>h a b) d
def Inv.Po(I:Inv X pins σ H s)(j:a.os=s.os)(u:Un (IX X.stack) ch H H' s.heap a.heap)(f:o5 X.prog X.w H' a.heap)(i:AllBare a.gens)(d:∀b∈ch,(b∈X.ex\/X.AK.heap.objs.size<=b)/\b≠X.env.locals/\(∀x c,X.env.cells.lookup x=some c->c≠b)/\∀p∈X.pn++pins,p.1≠b):Inv X pins σ H' a:=by
 let[h',h,g,l,k]:=a;let e:k=s.os:=j;subst e;show I.call (g':=h) (t':=l) (d':=g) u f i d
end
abbrev XK:=Value->Option Addr->Hp->Prop
abbrev St:=List<|Option V
abbrev VK:=V->Hp->Prop
abbrev TE:=St->Hp->VK->Prop
abbrev TT:=St->Hp->(Bool->Hp->Prop)->Prop
abbrev TA:=St->Hp->(List V->Hp->Prop)->Prop
structure Ends where
 nx:St->Hp->Prop
 rt:VK
 bk:St->Hp->Prop:=λ_ _=>False
 ct:St->Hp->Prop:=λ_ _=>False
abbrev TS:=Ends->St->Hp->Prop
def EP(X:Cx)(a:List (Addr×Obj))(d:St)(Q:VK)(u:Value)(c:Shared):Prop:=∃v b,Inv X a d b c/\RelV v u/\Q v b
def TP(X:Cx)(a:List (Addr×Obj))(e:St)(Q:Bool->Hp->Prop)(b:Bool)(d:Shared):Prop:=∃c,Inv X a e c d/\Q b c
def AP(X:Cx)(a:List (Addr×Obj))(f:St)(Q:List V->Hp->Prop)(e:List Value)(d:Shared):Prop:=∃c b,Inv X a f b d/\Vals c e/\Q c b
def SP(X:Cx)(b:List (Addr×Obj))(D:Ends)(f:Flow)(d:Shared):Prop:=
 match f with
 |.next=>∃a c,Inv X b a c d/\D.nx a c
 |.brk=>∃a c,Inv X b a c d/\D.bk a c
 |.cont=>∃a c,Inv X b a c d/\D.ct a c
 |.ret u=>∃v a c,Inv X b a c d/\RelV v u/\D.rt v c
def PE(X:Cx)(e:Expr)(t:TE):Prop:=
 ∀(a:List (Addr×Obj)) (s:Shared) (b:St) (H:Hp) (Q:VK),Inv X a b H s->t b H Q->wpAny (model X.prog X.w) X.A (eval e X.env) (EP X a b Q) X.xe s
def PT(X:Cx)(e:Expr)(t:TT):Prop:=
 ∀(a:List (Addr×Obj)) (s:Shared) (b:St) (H:Hp) (Q:Bool->Hp->Prop),Inv X a b H s->t b H Q->wpAny (model X.prog X.w) X.A (isTrue e X.env<|eval e X.env) (TP X a b Q) X.xe s
def PW(X:Cx)(e:Expr)(t:TT):Prop:=
 ∀(whole:Sem Value) (a:List (Addr×Obj)) (s:Shared) (b:St) (H:Hp) (Q:Bool->Hp->Prop),Inv X a b H s->t b H Q->wpAny (model X.prog X.w) X.A (isTrue e X.env whole) (TP X a b Q) X.xe s
def PW.pt(h:PW X e t):PT X e t:=h _
def PA(X:Cx)(d:List Expr)(t:TA):Prop:=
 ∀(b:Pos) (a:List (Addr×Obj)) (s:Shared) (c:St) (H:Hp) (Q:List V->Hp->Prop),Inv X a c H s->t c H Q->wpAny (model X.prog X.w) X.A (spliced<|backTo b<|starEach d X.env) (AP X a c Q) X.xe s
def PS(X:Cx)(st:Stmt)(t:TS):Prop:=
 ∀(a:List (Addr×Obj)) (s:Shared) (b:St) (H:Hp) (D:Ends),Inv X a b H s->t D b H->wpAny (model X.prog X.w) X.A (exec st X.env) (SP X a D) X.xe s
def Dg(X:Cx)(st:List Stmt)(t:TS):Prop:=
 ∀(a:List (Addr×Obj)) (s:Shared) (b:St) (H:Hp) (D:Ends),Inv X a b H s->t D b H->wpAny (model X.prog X.w) X.A (execs st X.env) (SP X a D) X.xe s
def dJ(h:wpAny M A t Q E s)(c:∀a s,Q a s->b a s):wpAny M A t b E s:=ew h c λ_ _ x=>x
section
variable{X:Cx}
def EL(i:Nat):TE:=λa H Q=>∃v,a[i]?=some (some v)/\Q v H
def tC(v:V):TE:=λ_ H Q=>Q v H
def EM(k:X.N[i]?=some x)(q:NA X.env.scope x)(g:(x==("__debug__":Str))=false:=by decide)(f:(x==("__classdict__":Str))=false:=by decide):PE X (.Name x t) (EL i):=by
 intro d s w H Q I h;let[v,e,h]:=h;let[m,p,n]:=I.loc;let[u,r,l]:=n i x v k e q;let fin:EP X d w Q u s:=#[v,H,I,r,h];let[b,o]||[b,c,j,a]:=l
 .show wpAny_Name (wpAny_loadName_local I.ok.kind b p o fin) g
 .let b||b:=b
  .show wpAny_Name (wpAny_loadName_cell I.ok.kind b j a fin) g
  .show wpAny_Name (wpAny_loadName_free I.ok.kind b j a fin f) g
def aI{i j a}:PE X (.Constant (.int i) j a) (tC<|.int i):=λ_ _ _ H _ I h=>wpAny_Constant_int #[.int i,H,I.tok _,#[1],h]
def iN{b j a}:PE X (.Constant (.bool b) j a) (tC<|.bl b):=λ_ _ _ H _ I h=>Constant_bool #[.bl b,H,I,0,h]
def Gl(X:Cx)(x:Str):Prop:=X.env.kindOf x=some .globalImplicit
def nZ(I:Inv X a f H s)(c:Gl X x)(d:X.mg x=some u)(h:Q u s)(b:(x==("__debug__":Str))=false:=by decide):wpAny (model X.prog X.w) X.A (eval (.Name x e) X.env) Q E s:=
 zq I.ok.kind c (Calls.loadGlobal_global (by rw[I.ok.glob];show I.mod.glob.keeps I.bk) d h) b
def ja(I:Inv X a l H s)(e:Gl X x)(f:X.mg x=none)(i:bootBuiltins x=some u)(h:Q u s)(g:x≠"__name__":=by decide)(d:(x==("__debug__":Str))=false:=by decide):wpAny (model X.prog X.w) X.A (eval (.Name x j) X.env) Q E s:=by
 let[k,b,c]:=I.mod.blt;show zq I.ok.kind e (Calls.loadGlobal_builtin (by rw[I.ok.glob];show I.mod.glob.keeps I.bk) f (by rw[I.ok.blt];show b.keeps I.bk) ((c x g).trans i) h) d
def Lr(b:Gl X x)(c:X.mg x=some u)(r:RelV v u)(a:(x==("__debug__":Str))=false:=by decide):PE X (.Name x d) (tC v):=
 λ_ _ _ H _ I h=>nZ I b c #[v,H,I,r,h] a
variable{a b:Expr}{ta tb:TE}{pos:Pos}
def PC(X:Cx)(g:CmpOp)(a b:Expr)(t:TE):Prop:=
 ∀(c:List (Addr×Obj)) (s:Shared) (f:St) (H:Hp) (Q:VK),Inv X c f H s->t f H Q->
  wpAny (model X.prog X.w) X.A (eval a X.env) (λv d=>wpAny (model X.prog X.w) X.A (eval b X.env) (λu e=>wpAny (model X.prog X.w) X.A (compareOp g v u) (EP X c f Q) X.xe e) X.xe d) X.xe s
def tB(t:TE):TT:=λe H Q=>t e H λx d=>∃c,x=.bl c/\Q c d
def NC(h:PC X d a b t)(e:behindInMarks d b=false:=by first|show i _ de de|rfl):PE X (.Compare a [d] [b] pos) t:=λc s g H Q I f=>wpAny_Compare1 (h c s g H Q I f) e
def n6(h:PC X g a b t)(f:behindInMarks g b=false:=by first|show p _ de de|rfl):PT X (.Compare a [g] [b] pos) (tB t):=by
 intro e s o H Q I l;show KE (dJ (h e s o H _ I l) λv r f=>dJ f λu w k=>dJ k λc y #[x,i,j,n,m]=>?_) f;let[d,0,q]:=m;cases n
 show dr #[i,j,q]
def cV(h:PE X e t)(i:∀whole,isTrue e X.env whole=(do let v <-whole;standAt e.pos;holding [v] (truthy v)):=by intro _;rfl):PT X e (tB t):=by
 intro c s m H Q I j;show isTrue_plain (dJ (h c s m H _ I j) λv n #[x,f,g,l,k]=>?_)<|i _;let[d,0,q]:=k;cases l
 show dr #[f,g,q]
def Rk(t u:TT):TT:=λe H Q=>t e H λc d=>if c=true then u e d Q else Q false d
def Sr(t u:TT):TT:=λe H Q=>t e H λc d=>if c=true then Q true d else u e d Q
def G7(t:TT):TT:=λe H Q=>t e H λc d=>Q (!c) d
def p9(f:PT X a g):PW X (.BoolOp .And [a] pos) g:=by
 intro k d s i H Q I h;show isTrue_and (dJ (f d s i H Q I h) λc j e=>?_);cases c with
 |true=>show isTrue_and_nil e
 |false=>show e
def t9(f:PT X a g):PW X (.BoolOp .Or [a] pos) g:=by
 intro k d s i H Q I h;show isTrue_or (dJ (f d s i H Q I h) λc j e=>?_);cases c with
 |false=>show isTrue_or_nil e
 |true=>show e
def o6(l:PT X a o)(m:PW X (.BoolOp .And (b::e) pos) f):PW X (.BoolOp .And (a::b::e) pos) (Rk o f):=by
 intro p d s k H Q I h;show isTrue_and (dJ (l d s k H _ I h) λc n #[g,i,j]=>?_);cases c with
 |true=>show m p d n k g Q i j
 |false=>show#[g,i,j]
def AM(l:PT X a o)(m:PW X (.BoolOp .Or (b::e) pos) f):PW X (.BoolOp .Or (a::b::e) pos) (Sr o f):=by
 intro p d s k H Q I h;show isTrue_or (dJ (l d s k H _ I h) λc n #[g,i,j]=>?_);cases c with
 |true=>show#[g,i,j]
 |false=>show m p d n k g Q i j
def dG(f:PT X a g):PT X (.UnaryOp .Not a pos) (G7 g):=by
 intro d s i H Q I h;show isTrue_not<|f d s i H (λc e=>Q (!c) e) I h
def Pp(ta tb:TE):TE:=λe H Q=>ta e H λx d=>∃c,x=.bl c/\if c=true then tb e d Q else Q (.bl false) d
def Rl(ta tb:TE):TE:=λe H Q=>ta e H λx d=>∃c,x=.bl c/\if c=true then Q (.bl true) d else tb e d Q
def Pq(ta:TE):TE:=λe H Q=>ta e H λx d=>∃c,x=.bl c/\Q (.bl<|!c) d
def mI{e}{t:TE}(h:PE X a t):PE X (.BoolOp e [a] pos) t:=λc s f H Q I d=>BoolOp_one<|h c s f H Q I d
def mJ(k:PE X a ta)(l:PE X (.BoolOp .And (b::e) pos) tb):PE X (.BoolOp .And (a::b::e) pos) (Pp ta tb):=by
 intro d s j H Q I h;show BoolOp_and (dJ (k d s j H _ I h) λv n #[x,g,i,m,f]=>?_);let[c,0,f]:=f;cases m
 show dr ?_;cases c with
 |true=>show l d n j g Q i f
 |false=>show#[.bl false,g,i,0,f]
def M6(k:PE X a ta)(l:PE X (.BoolOp .Or (b::e) pos) tb):PE X (.BoolOp .Or (a::b::e) pos) (Rl ta tb):=by
 intro d s j H Q I h;show BoolOp_or (dJ (k d s j H _ I h) λv n #[x,g,i,m,f]=>?_);let[c,0,f]:=f;cases m
 show dr ?_;cases c with
 |false=>show l d n j g Q i f
 |true=>show#[.bl true,g,i,0,f]
def BA(i:PE X a ta):PE X (.UnaryOp .Not a pos) (Pq ta):=by
 intro d s k H Q I h;show UnaryOp_ (dJ (i d s k H _ I h) λv l #[x,f,g,j,e]=>?_);let[c,0,e]:=e;cases j
 show not_of<|dr #[.bl (!c),f,g,0,e]
def Ss(t:TT)(ta tb:TE):TE:=λd H Q=>t d H λc e=>if c=true then ta d e Q else tb d e Q
def Dh(n:PT X c o)(l:PE X a ta)(m:PE X b tb):PE X (.IfExp c a b pos) (Ss o ta tb):=by
 intro e s f H Q I h;show wpAny_IfExp (dJ (n e s f H _ I h) λd k #[g,i,j]=>?_);cases d with
 |true=>show l e k f g Q i j
 |false=>show m e k f g Q i j
end
def cc(K:Frag)(H:Hp)(a:Addr)(c:List V):Prop:=
 Rd H a (.lst c)\/
  ∃(o:Obj) (b:Array Value) (n:Nat),K.lookup a=some o/\o.cls=.type "list"/\o.dict=none/\o.data=.seq b n/\b.size<=sizeLine/\Vals c b.toList
def gT(K:Frag)(H:Hp)(a:Addr)(c:List V):Prop:=
 Rd H a (.tup c)\/
  ∃(o:Obj) (b:Array Value) (n:Nat),K.lookup a=some o/\o.cls=.type "tuple"/\o.data=.seq b n/\b.size<=sizeLine/\Vals c b.toList
def Rm:Value->Option V
 |.none=>some .ic
 |.bool b=>some<|.bl b
 |.int i _=>some<|.int i
 |.str x _=>some<|.str x
 |.bytes b _=>some<|.Ev b
 |.float b _=>some<|.QT b
 |.ref a=>some<|.ref a
 |.type n=>some<|.ty n
 |_=>none
def RelV.abs(r:RelV x u):Rm u=some x:=by
 cases x with
 |ic=>cases r;rfl
 |bl _=>cases r;rfl
 |int _=>let[t,0]:=r;rfl
 |str _=>obtain⟨t,rfl⟩:=r;rfl
 |Ev _=>obtain⟨t,rfl⟩:=r;rfl
 |QT _=>obtain⟨t,rfl⟩:=r;rfl
 |ref _=>cases r;rfl
 |ty _=>cases r;rfl
def RelV.inj(r:RelV x u)(q:RelV y u):x=y:=bj<|r.abs.symm.trans q.abs
def Vals.inj:∀{b c:List V} {a:List Value},Vals b a->Vals c a->b=c
 |_,_,_,.nil,.nil=>rfl
 |_,_,_,.cons r t,.cons d e=>by rw[r.inj d,Vals.inj t e]
def cc.of(h:H a=some (.lst b)):cc K H a b:=.inl<|.inl h
def gT.of(h:H a=some (.tup b)):gT K H a b:=.inl<|.inl h
def Inv.list(I:Inv X c l H s)(h:cc X.K H a d):∃b:List Value,Vals d b/\PlainL s.heap a b.toArray/\d.length<=sizeLine:=by
 let h||[o,b,n,i,f,g,j,k,r]:=h
 .let[z,b,n,r,e]:=h.ok I.hok;show#[b,r,#[_,n,e,0,0,0],z]
 .show#[b.toList,r,#[o,n,I.Bz a o i,f,g,by simpa using j],?_]
  let e:=r.length;simp only[aO]at e;lk
def Inv.tuple(I:Inv X c k H s)(h:gT X.K H a d):∃b:List Value,Vals d b/\IsTup s.heap a b.toArray/\d.length<=sizeLine:=by
 let h||[o,b,n,g,f,i,j,r]:=h
 .let[z,b,r,p]:=h.ok I.hok;show#[b,r,p,z]
 .show#[b.toList,r,#[o,I.Bz a o g,f,n,by simpa using i],?_]
  let e:=r.length;simp only[aO]at e;lk
def Inv.xM(I:Inv X i u H s)(h:cc X.K H a m)(k:cc X.K H a p):m=p:=by
 let[c,r,[o,n,e,_,_,d],_]:=I.list h;let[b,l,[t,q,g,_,_,f],_]:=I.list k;rw[e]at g;cases g
 rw[d]at f;injection f with j _;let:c=b:=by simpa using dF Array.toList j
 subst this;show r.inj l
def Inv.m6(I:Inv X i u H s)(h:gT X.K H a m)(k:gT X.K H a p):m=p:=by
 let[c,r,[o,e,_,n,d],_]:=I.tuple h;let[b,l,[t,g,_,q,f],_]:=I.tuple k;rw[e]at g;cases g
 rw[d]at f;injection f with j _;let:c=b:=by simpa using dF Array.toList j
 subst this;show r.inj l
abbrev Cx.zN(X:Cx)(E:Value->Shared->Prop):Cx:={X with xe:=E}
abbrev Cx.M7(X:Cx):Cx:=X.zN λ_ _=>False
def Cx.Ok.zN{X:Cx}(ok:X.Ok)(E:Value->Shared->Prop):(X.zN E).Ok:=
 #[ok.mod,ok.kind,ok.glob,ok.blt,ok.above,ok.inj,ok.has,ok.Pn,ok.hd,ok.frames,ok.QV,ok.QW,ok.bs,ok.Lb,ok.IY,ok.IZ,ok.t8,ok.M5]
def Cx.Ok.o9{X:Cx}{E:Value->Shared->Prop}(ok:(X.zN E).Ok):X.Ok:=
 #[ok.mod,ok.kind,ok.glob,ok.blt,ok.above,ok.inj,ok.has,ok.Pn,ok.hd,ok.frames,ok.QV,ok.QW,ok.bs,ok.Lb,ok.IY,ok.IZ,ok.t8,ok.M5]
section
variable{X:Cx}{pins:List (Addr×Obj)}{σ:St}{H:Hp}{s:Shared}{E:Value->Shared->Prop}
def Inv.zN(I:Inv X pins σ H s)(E:Value->Shared->Prop):Inv (X.zN E) pins σ H s:=#[I.ok.zN E,I.os,I.bare,I.base,I.loc,I.cell,I.free,I.l8,I.pin,I.hok,I.len]
def Inv.o9(I:Inv (X.zN E) pins σ H s):Inv X pins σ H s:=#[I.ok.o9,I.os,I.bare,I.base,I.loc,I.cell,I.free,I.l8,I.pin,I.hok,I.len]
def SP.o9(h:SP (X.zN E) pins D f c):SP X pins D f c:=by
 cases f with
 |next=>let[a,b,I,q]:=h;show#[a,b,I.o9,q]
 |brk=>obtain⟨a,b,I,q⟩:=h;show#[a,b,I.o9,q]
 |cont=>obtain⟨a,b,I,q⟩:=h;show#[a,b,I.o9,q]
 |ret u=>obtain⟨v,a,b,I,r,q⟩:=h;show#[v,a,b,I.o9,r,q]
def Dg.M7{st:List Stmt}(h:Dg X.M7 st t):Dg X st t:=λpins s σ H D I a=>
 ew (h pins s σ H D (I.zN _) a) (λ_ _ q=>q.o9) λ_ _ z=>False.elim z
end
section
variable{st:Stmt}{t u:TS}{te:TE}
def sv:TS:=λD a H=>D.nx a H
def xN(t u:TS):TS:=λD a H=>t {D with nx:=u D} a H
def bA:Dg X [] sv:=λ_ _ a H _ I h=>kU #[a,H,I,h]
def af(g:PS X st t)(i:Dg X b u):Dg X (st::b) (xN t u):=by
 intro a s k H D I h;show wpAny_execs_cons (dJ (g a s k H {D with nx:=u D} I h) λf j q=>?_);cases f with
 |next=>
  let[c,d,e,q]:=q;show i a j c d D e q
 |ret v=>show q
 |brk=>show q
 |cont=>show q
def ao(b:PS X st t):Dg X [st] t:=by
 intro a s c H D I h;show wpAny_execs_cons (dJ (b a s c H D I h) λf d q=>?_);cases f with
 |next=>show kU q
 |ret v=>show q
 |brk=>show q
 |cont=>show q
def ND:TS:=λD a H=>D.bk a H
def Pr:TS:=λD a H=>D.ct a H
def Ja:PS X (.Break a) ND:=λ_ _ b H _ I h=>wpAny_Break #[b,H,I,h]
def Di:PS X (.Continue a) Pr:=λ_ _ b H _ I h=>wpAny_Continue #[b,H,I,h]
def Inv.quiet(I:Inv X a b H s):interactive X.env=false:=by simp[interactive,I.ok.kind]
def M8(te:TE):TS:=λD a H=>te a H λ_ b=>D.nx a b
def dL(g:PE X e te)(i:swapsWith e none b.line X.env=pure false:=by rfl):PS X (.Expr e b) (M8 te):=by
 intro a s c H D I h;show wpAny_Expr_any (dJ (g a s c H _ I h) λv l #[x,d,f,k,j]=>#[c,d,f,j]) I.quiet i
def Ps(te:TE):TS:=λD a H=>te a H D.rt
def aM(f:PE X e te):PS X (.Return (some e) g) (Ps te):=by
 intro a s b H D I h;show wpAny_Return_some (dJ (f a s b H _ I h) λv k #[x,c,d,j,i]=>#[x,b,c,d,j,i])
def EN(c:TT)(t u:TS):TS:=λD a H=>c a H λb d=>if b=true then t D a d else u D a d
def cF(n:PT X c p)(l:Dg X a t)(m:Dg X b u):PS X (.If c a b o) (EN p t u):=by
 intro e s f H D I h;show wpAny_If (dJ (n e s f H _ I h) λd k #[g,i,j]=>?_);cases d with
 |true=>show l e k f g D i j
 |false=>show m e k f g D i j
end
abbrev TG:=V->St->Hp->(St->Hp->Prop)->Prop
abbrev M9:=List V->St->Hp->(St->Hp->Prop)->Prop
def PG(X:Cx)(a:Expr)(t:TG):Prop:=
 ∀(b:List (Addr×Obj)) (s:Shared) (e:St) (H:Hp) (v:V) (u:Value) (Q:St->Hp->Prop),Inv X b e H s->RelV v u->t v e H Q->
  wpAny (model X.prog X.w) X.A (assign a X.env u) (λ_ f=>∃c d,Inv X b c d f/\Q c d) X.xe s
def Pu(X:Cx)(h:List Expr)(t:M9):Prop:=
 ∀(a:List (Addr×Obj)) (s:Shared) (f:St) (H:Hp) (e:List V) (d:List Value) (Q:St->Hp->Prop),Inv X a f H s->Vals e d->t e f H Q->
  wpAny (model X.prog X.w) X.A (assignInOrder ((assignEach h X.env).map (·.2)) d) (λ_ g=>∃b c,Inv X a b c g/\Q b c) X.xe s
def dQ(i:Nat):TG:=λv a H Q=>Q (a.set i<|some v) H
def bF(i:Nat)(c:X.N.Nodup)(e:X.N[i]?=some x:=by rfl)(f:Loc X.env.scope x:=by first|show .inl rfl|show .inr rfl)(d:X.fn x=true\/X.env.scope.names.lookup x=some .local:=by first|show .inl rfl|show .inr rfl|assumption):PG X (.Name x g) (dQ i):=by
 intro a s k H v u Q I r h;show wpAny_assign_Name<|De I c e f r (λj b=>#[_,H,b,h]) d
def Rn:M9:=λa b H Q=>a=[]/\Q b H
def Pw(t:TG)(u:M9):M9:=λc d H Q=>∃v r,c=v::r/\t v d H λa b=>u r a b Q
def jZ:Pu X [] Rn:=by
 intro a s b H d c Q I r h;let[e,h]:=h;subst e;cases r
 show assignInOrder_nil #[b,H,I,h]
def dC(i:PG X e t)(j:Pu X b u)(k:(assignEach (e::b) X.env).map (·.2)=assign e X.env::(assignEach b X.env).map (·.2):=by rfl):Pu X (e::b) (Pw t u):=by
 intro a s o H w p Q I r h;let[v,q,g,h]:=h;subst g;cases r with
 |cons r m=>
  rw[k];show assignInOrder_cons (dJ (i a s o H _ _ _ I r h) λ_ n #[c,d,f,l]=>?_);show j a n c d _ _ Q f m l
def Px(K:Frag)(n:Nat)(t:M9):TG:=λv c H Q=>∃a b,v=.ref a/\gT K H a b/\b.length=n/\t b c H Q
def NE(q:X.calm=true)(h:Pu X d t)(x:(assignEach d X.env).length=n:=by rfl)(f:(assignEach d X.env).findIdx? (·.1)=none:=by rfl):PG X (.Tuple d k C) (Px X.K n t):=by
 intro c s j H v u Q I r g;let[a,D,m,y,w,g]:=g;subst m;cases r
 let[B,i,z,E]:=I.tuple y;show assign_Tuple_tuple (I.ok.hd q) z (by simp[x,<-w,i.length]) f λp A=>?_
 let l:Inv X c j H {s with heap:=p}:=I.kept (t':=s.toks) λb o e=>A b o (bN<|ce e) e;show h c _ j H D _ Q l (by simpa using i) g
def Lu(c:TE)(g:TG):TS:=λD a H=>c a H λx b=>g x a b D.nx
def aS(i:Nat)(j:X.N.Nodup)(k:PE X e r)(m:X.N[i]?=some x:=by rfl)(o:Loc X.env.scope x:=by first|show .inl rfl|show .inr rfl)(n:swapsWith e (some<|.Name x b) c.line X.env=pure false:=by rfl)(l:X.fn x=true\/X.env.scope.names.lookup x=some .local:=by first|show .inl rfl|show .inr rfl|assumption):
  PS X (.Assign [.Name x b] e c) (Lu r<|dQ i):=by
 intro a s t H D I h;show wpAny_Assign_Name (dJ (k a s t H _ I h) λv u #[y,d,f,q,p]=>?_) n;show De f j m o q (λw g=>#[_,d,g,p]) l
def NF(c:TT)(h:TS):TS:=λD a H=>∃W:Nat->St->Hp->Prop,(∃m,W m a H)/\∀m a H,W m a H->
 c a H λb f=>if b=true then∃N:St->Hp->Prop,(∀d e,N d e->∃g,g<m/\W g d e)/\h {D with nx:=N,ct:=N,bk:=D.nx} a f else D.nx a f
def m7(y:PassesOwn (model X.prog X.w) X.A X.env X.xe)(B:PT X c L)(A:Dg X body K):PS X (.While c body [] E) (NF L K):=by
 intro a s P H D I h;let[W,[C,M],turn]:=h;show wpAny_While<|codeAny_whileLoop (λn F=>∃i r,Inv X a i r F/\W n i r) ?_ C #[P,H,I,M];ext n G ⟨e,t,z,O⟩;show fA y (dJ (B a G e t _ z<|turn n e t O) λb J #[u,w,j]=>?_);cases b with
 |true=>
  let[N,x,j]:=j;rw[aH rfl];show fA y (dJ (A a J e u _ w j) λf Q k=>?_);cases f with
  |next=>
   let[d,g,l,p]:=k;let[o,m,q]:=x d g p;show#[o,m,d,g,l,q]
  |cont=>
   obtain⟨d,g,l,p⟩:=k;let[o,m,q]:=x d g p;show#[o,m,d,g,l,q]
  |brk=>show k
  |ret v=>show k
 |false=>
  rw[az aR];show kU #[e,u,w,j]
structure It where
 go:Nat->Hp->Prop
 BB:Nat->Hp->V->Hp->Prop
 stop:Nat->Hp->Prop
def lS(X:Cx)(a:List (Addr×Obj))(H:Hp)(b:Addr):Prop:=
 H b=none/\b≠X.env.locals/\b∉X.fs/\(b∈X.ex\/X.AK.heap.objs.size<=b)/\(∀x c,X.env.cells.lookup x=some c->c≠b)/\∀p∈X.pn++a,p.1≠b
def Inv.BC(I:Inv X d i H s)(a:⇑s<=b)(g:f b=none):lS X d f b:=by
 show#[g,qZ<|cq I.lt a,I.Rj a,.inr<|aL I.sz a,λx c e z=>?_,λp h z=>?_]
 .let[v,q]:=I.cell x c e;show absurd (cq q.lt<|by rw[z];show a) (dO _)
 .show absurd (cq (ce (I.pin p h).1)<|by rw[z];show a) (dO _)
structure Turn(P:Program)(w:World)(K:Frag)(tg:Expr)(J:It)(fp:List Addr)(it:Addr)(tn:Nat->Heap->Prop):Prop where
 mem:it∈fp
 obj:∀i h,tn i h->∀b∈fp,∃o,h.get? b=some o/\∀v,o.data≠.cell v
 keep:∀i h h',tn i h->(∀b∈fp,∀o,h.get? b=some o->h'.get? b=some o)->tn i h'
 item:∀(X:Cx),X.prog=P->X.w=w->X.K=K->X.calm=true->∀(i:Nat) (pins:List (Addr×Obj)) (s:Shared) (σ:St) (H:Hp) (E:Value->Shared->Prop),Inv X pins σ H s->(∀b∈fp,lS X pins H b)->tn i s.heap->J.go i H->
  wpAny (model P w) X.A (pyNext<|.ref it) (λr s1=>∃u,r=some u/\
   wpAny (model P w) X.A (letOwnedTupleGo tg (.ref it) u) (λ_ s2=>∃x H',Inv X pins σ H' s2/\RelV x u/\J.BB i H x H'/\tn (i+1) s2.heap/\∀b∈fp,H' b=none) E s1) E s
 done:∀(X:Cx),X.prog=P->X.w=w->X.K=K->X.calm=true->∀(i:Nat) (pins:List (Addr×Obj)) (s:Shared) (σ:St) (H:Hp) (E:Value->Shared->Prop),Inv X pins σ H s->(∀b∈fp,lS X pins H b)->tn i s.heap->J.stop i H->
  wpAny (model P w) X.A (pyNext<|.ref it) (λr s1=>r=none/\Inv X pins σ H s1) E s
 self:∀(A:Around) (i:Nat) (s:Shared) (Q:Value->Shared->Prop) (E:Value->Shared->Prop),tn i s.heap->Q (.ref it) s->wpAny (model P w) A (pyIter<|.ref it) Q E s
abbrev TI:=St->Hp->(It->Hp->Prop)->Prop
def QX(X:Cx)(a:List (Addr×Obj))(j:St)(i:Expr)(R:It->Hp->Prop)(d:Value)(g:Shared):Prop:=
 ∃(f:Addr) (e:List Addr) (h:Nat->Heap->Prop) (J:It) (c:Hp),d=.ref f/\Inv X a j c g/\Turn X.prog X.w X.K i J e f h/\h 0 g.heap/\(∀b∈e,lS X a c b)/\R J c
def PI(X:Cx)(d iter:Expr)(e:TI):Prop:=
 ∀(a:List (Addr×Obj)) (s:Shared) (b:St) (H:Hp) (R:It->Hp->Prop),Inv X a b H s->e b H R->
  wpAny (model X.prog X.w) X.A (eval iter X.env) (λv c=>wpAny (model X.prog X.w) X.A (pyIter v) (QX X a b d R) X.xe c) X.xe s
def xO(e:s.heap.get? f=some o)(b:o.cls=.type n)(c:o.data=.fields i)(d:["enumerate","zip","dict_itemiterator","dict_reverseitemiterator","odict_iterator","itertools.zip_longest","itertools.pairwise"].contains n=false)(a:Q () s):wpAny M A (letOwnedTupleGo g (.ref f) u) Q E s:=by
 unfold letOwnedTupleGo;cases g<;>first
  |show aj a
  |(cases u<;>first
    |show aj a
    |(show ai<|wpAny_load e ?_
      rw[b,c];change wpAny M A (if (["enumerate","zip","dict_itemiterator","dict_reverseitemiterator","odict_iterator","itertools.zip_longest","itertools.pairwise"].contains n&&i[0]?==some (rawInt _))=true then _ else _) Q E s;rw[az<|by intro h;rw[d,Sl]at h;cases h]
      show aj a))
def Ro(K:Frag)(a:Addr):It:=
 #[λi H=>∃b x,cc K H a b/\b[i]?=some x,λi H x c=>c=H/\∀b,cc K H a b->b[i]?=some x,λi H=>∃b,cc K H a b/\b.length<=i]
def Rq(K:Frag)(a:Addr):It:=
 #[λi H=>∃b x,gT K H a b/\b[i]?=some x,λi H x c=>c=H/\∀b,gT K H a b->b[i]?=some x,λi H=>∃b,gT K H a b/\b.length<=i]
def Py(lo:Int)(n:Nat):It:=#[λi _=>i<n,λi H x a=>a=H/\x=.int (lo+i),λi _=>n<=i]
def G8(a j:Addr):Turn P w K tg (Ro K a) [j] j (λi h=>h.IsListIter j a i) where
 mem:=by simp
 obj:=λi h st b g=>by
  let e:b=j:=by simpa using g
  subst e;let[o,e,c,d]:=st;show#[o,e,λv z=>by rw[d]at z;cases z]
 keep:=λi h m st k=>st.at λo e=>k j SX o e
 item:=by
  intro X D G C N i f s O H E I n st F;subst D G C;let[Z,x,q,J]:=F;let[L,M,p,W]:=I.list q;let[u,T,Y]:=M.get J;let[r,t,S,y,A,B]:=n j<|by simp
  show kx st p.isList (x:=u) (by simpa using T) λm l sb=>?_
  let Q:Inv X f O H {s with heap:=m}:=I.turned (t':=s.toks) (λb o g e=>(sb.2 b g).trans e) r t y A B;let[o,e,c,d]:=id l;show#[u,0,xO (s:={s with heap:=m}) e c d de #[x,H,Q,Y,#[0,λys U=>by rw[I.xM U q];show J],l,λb g=>(n b g).1]]
 done:=by
  intro X D G C N i f s O H E I n st F;subst D G C;let[Z,q,J]:=F;let[L,M,p,W]:=I.list q;let[r,t,S,y,A,B]:=n j<|by simp
  let hl:=M.length;show Ix (I.ok.hd N) st p.isList (by simp;lk) λm R=>#[0,I.turned (t':=s.toks) (λb o g e=>R b o g e) r t y A B]
 self:=λ_ _ _ _ _ st h=>wpAny_pyIter_listiter st h
def EO(a j:Addr):Turn P w K tg (Rq K a) [j] j (λi h=>h.IsTupleIter j a i) where
 mem:=by simp
 obj:=λi h st b g=>by
  let e:b=j:=by simpa using g
  subst e;let[o,e,c,d]:=st;show#[o,e,λv z=>by rw[d]at z;cases z]
 keep:=λi h n st k=>st.at λo e=>k j SX o e
 item:=by
  intro X F J D N i f s O H E I q st G;subst F J D;let[Z,x,r,L]:=G;let[l,M,p,W]:=I.tuple r;let[u,T,Y]:=M.get L;let[t,y,S,A,B,C]:=q j<|by simp
  show wpAny_pyNext_tuple_item st (show s.heap.IsTuple a l.toArray from p) (x:=u) (by simpa using T) λn m sb=>?_
  let Q:Inv X f O H {s with heap:=n}:=I.turned (t':=s.toks) (λb o g e=>(sb.2 b g).trans e) t y A B C;let[o,e,c,d]:=id m;show#[u,0,xO (s:={s with heap:=n}) e c d de #[x,H,Q,Y,#[0,λys U=>by rw[I.m6 U r];show L],m,λb g=>(q b g).1]]
 done:=by
  intro X F J D N i f s O H E I q st G;subst F J D;let[Z,r,L]:=G;let[l,M,p,W]:=I.tuple r;let[t,y,S,A,B,C]:=q j<|by simp
  let hl:=M.length;show wpAny_pyNext_tuple_end (I.ok.hd N) st (show s.heap.IsTuple a l.toArray from p) (by simp;lk) λn R=>#[0,I.turned (t':=s.toks) (λb o g e=>R b o g e) t y A B C]
 self:=λ_ _ _ _ _ st h=>wpAny_pyIter_tupleiter st h
def EQ(a:Addr)(lo:Int)(n:Nat):Turn P w K N (Py lo n) [a] a (λi h=>IsRangeIter h a (lo+(i:Nat)*1) ((n:Int) -(i:Nat)) 1) where
 mem:=by simp
 obj:=λi h st b d=>by
  let e:b=a:=by simpa using d
  subst e;show#[_,st,λv z=>by
   let M:Data.fields _=Data.cell v:=z;cases M]
 keep:=λi h g st k=>k a SX _ st
 item:=by
  intro X x B u y i c s D H E I j st A;subst x B u;let[l,m,J,p,q,r]:=j a<|by simp
  let W:=Walks.range (prog:=X.prog) (w:=X.w) (I.ok.hd y) a lo 1 n;show W.item i s _ _ A st λv g C L f kk=>?_;let[t,0]:=L;let F:Inv X c D H {s with heap:=g,toks:=C}:=I.turned (λb o d e=>kk b o (by simpa using d) e) l m p q r
  show#[1,xO (s:={s with heap:=g,toks:=C}) (n:="range_iterator") f rfl rfl de #[.int (lo+i),H,F,#[t,?_],#[0,0],f,λb d=>(j b d).1]];rw[k_]
 done:=by
  intro X x B u y i c s D H E I j st A;subst x B u;let[l,m,J,p,q,r]:=j a<|by simp
  show D1 (I.ok.hd y) st (by let:n<=i:=A;lk) λg G=>#[0,I.turned (t':=s.toks) (λb o d e=>G b o d e) l m p q r]
 self:=λ_ _ _ _ _ st h=>D2 st h
def Jb(K:Frag)(c:TE):TI:=λe H R=>c e H λx b=>∃a,x=.ref a/\(∃d,cc K b a d)/\R (Ro K a) b
def NG(K:Frag)(c:TE):TI:=λe H R=>c e H λx b=>∃a,x=.ref a/\(∃d,gT K b a d)/\R (Rq K a) b
def Lx(j:PE X l t):PI X z l (Jb X.K t):=by
 intro c s u H R I h;show dJ (j c s u H _ I h) λv f #[x,g,d,r,n]=>?_;let[a,e,[A,k],q]:=n;subst e;cases r
 let[m,y,p,w]:=d.list k;show o3 p.isList ?_;show#[⇑f,[⇑f],_,_,g,0,d.kept (t':=f.toks) λb o e=>br _ e,G8 a _,#[_,bx _ rfl,0,0],λb i=>?_,q];let e:b=⇑f:=by simpa using i
 subst e;show d.BC (aE _)<|d.hok.fresh<|aE _
def NH(k:PE X l t):PI X z l (NG X.K t):=by
 intro c s u H R I h;show dJ (k c s u H _ I h) λv d #[x,i,f,r,n]=>?_;let[a,e,[A,m],q]:=n;subst e;cases r
 let[g,y,p,w]:=f.tuple m;show wpAny_pyIter_tuple (show d.heap.IsTuple a g.toArray from p) ?_;show#[⇑d,[⇑d],_,_,i,0,f.kept (t':=d.toks) λb o e=>br _ e,EO a _,#[_,bx _ rfl,0,0],λb j=>?_,q];let e:b=⇑d:=by simpa using j
 subst e;show f.BC (aE _)<|f.hok.fresh<|aE _
def Dj{lo:Int}(I:Inv X c g H s)(j: -(2^62)<=lo)(k:lo<2^62)(l: -(2^62)<=a)(m:a<2^62)(q:R (Py lo (a -lo).toNat) H):wpAny (model X.prog X.w) X.A (pyIter<|.ref ⇑s) (QX X c g p R) E {s with heap:=s.heap.push {cls:=.type "range",data:=.fields [.int lo t,.int a u,.int 1 v].toArray},toks:=f}:=by
 show wpAny_pyIter_range (IsRange.new ..) (small_one j k l m) ?_;let d:Inv X c g H {s with heap:=s.heap.push {cls:=.type "range",data:=.fields [.int lo t,.int a u,.int 1 v].toArray},toks:=f}:=I.kept λb o e=>br _ e;show#[(s.heap.push {cls:=.type "range",data:=.fields [.int lo t,.int a u,.int 1 v].toArray}).objs.size,[(s.heap.push {cls:=.type "range",data:=.fields [.int lo t,.int a u,.int 1 v].toArray}).objs.size],_,_,H,0,
  d.kept (t':=f) λb o e=>br _ e,EQ _ lo (a -lo).toNat,?_,λb n=>?_,q]
 .let h:lo+((0:Nat):Int)*1=lo:=by simp
  let i:(((a -lo).toNat:Nat):Int) -((0:Nat):Int)=Builtin.Range.rangeSize lo a 1:=by rw[rangeSize_one];split<;>lk
  change IsRangeIter _ _ (lo+((0:Nat):Int)*1) ((((a -lo).toNat:Nat):Int) -((0:Nat):Int)) 1;rw[h,i];show bx _ rfl
 .let e:b=(s.heap.push {cls:=.type "range",data:=.fields [.int lo t,.int a u,.int 1 v].toArray}).objs.size:=by simpa using n
  subst e;show d.BC (aE _)<|d.hok.fresh<|aE _
def Pz(b:TA):TI:=λd H R=>b d H λc a=>∃j:Int,c=[.int j]/\ -(2^62)<=j/\j<2^62/\R (Py 0 j.toNat) a
def PB(b:TA):TI:=λd H R=>b d H λc a=>∃i j:Int,c=[.int i,.int j]/\(-(2^62)<=i/\i<2^62/\ -(2^62)<=j/\j<2^62)/\R (Py i (j -i).toNat) a
def AN(i:Gl X "range")(k:X.mg "range"=none)(g:PA X [a] u)(l:starEach [a] X.env=[(false,eval a X.env)]:=by rfl):PI X y (.Call (.Name "range" p) [a] [] c) (Pz u):=by
 intro b s v H R I h;show Call_<|ja I i k boot_range<|cN (dJ (g c b s v H _ I h) λz x #[A,w,f,n,d]=>?_) l rfl;let[j,e,d,m,q]:=d;subst e;cases n with
 |cons r o=>
  cases o
  let[t,0]:=r;show call_range_1<|Dj f om om d m<|by simpa using q
def AO(n:Gl X "range")(o:X.mg "range"=none)(m:PA X [a,b] A)(u:starEach [a,b] X.env=[(false,eval a X.env),(false,eval b X.env)]:=by rfl)(c:starEach [b] X.env=[(false,eval b X.env)]:=by rfl):
  PI X F (.Call (.Name "range" p) [a,b] [] f) (PB A):=by
 intro d s B H R I h;show Call_<|ja I n o boot_range<|cN (dJ (m f d s B H _ I h) λG D #[J,C,l,z,g]=>?_) (by rw[u,c])<|by rw[c];rfl
 let[i,j,e,[g,v,w,x],q]:=g;subst e;cases z with
 |cons r k=>
  cases k with
  |cons y k=>
   cases k
   let[t,0]:=r;let[E,0]:=y;show call_range_2<|Dj l g v w x q
def Rr(k:TI)(g:TG)(j:TS):TS:=λD a H=>k a H λJ f=>∃W:Nat->Nat->St->Hp->Prop,(∃m,W 0 m a f)/\∀i m a H,W i m a H->
 (J.stop i H/\D.nx a H)\/(J.go i H/\∃N:St->Hp->Prop,(∀c b,N c b->∃e,e<m/\W (i+1) e c b)/\∀x b,J.BB i H x b->g x a b λd h=>j {D with nx:=N,ct:=N,bk:=D.nx} d h)
def xP(a:List Addr)(h:Heap):List (Addr×Obj):=a.filterMap λb=>(h.get? b).map λo=>(b,o)
def dB(c:b∈a)(e:h.get? b=some o):(b,o)∈xP a h:=List.mem_filterMap.mpr #[b,c,by rw[e];rfl]
def G_(f:p∈xP c h):p.1∈c/\h.get? p.1=some p.2:=by
 let[b,d,e]:=List.mem_filterMap.mp f;cases q:h.get? b with
 |none=>rw[q]at e;cases e
 |some o=>
  rw[q]at e;let a:(b,o)=p:=bj e;subst a;show#[d,q]
def Inv.pinned(I:Inv X a n H s)(k:∀b∈f,lS X a H b)(l:∀b∈f,∃o,s.heap.get? b=some o/\∀v,o.data≠.cell v):Inv X (a++xP f s.heap) n H s:=
 I.FZ λp m=>(aG.mp m).elim (λz=>I.pin p<|aD _ z) λz=>by
  let[g,e]:=G_ z;let[h,i,j,_]:=k p.1 g;let[o,c,d]:=l p.1 g;rw[e]at c;cases c
  show#[e,h,i,j,d]
def Inv.lE{pl:List (Addr×Obj)}(I:Inv X (pins++pl) b H s):Inv X pins b H s:=I.FZ λp a=>I.pin p<|aD _<|cJ _ a
def dZ(C:PassesOwn (model X.prog X.w) X.A X.env X.xe)(Z:X.calm=true)(hi:PI X tg iter wi)(hg:PG X tg g)(l:Dg X body tb)(hs:∀x,foldedSetIterable iter X.env x=pure x:=by intro _;rfl):PS X (.For tg iter body [] pos) (Rr wi g tb):=by
 intro a s σ H D I h;show wpAny_For (dJ (hi a s σ H _ I h) λv s1 h1=>dJ h1 λitv s2 h2=>?_) hs;let[it,A,tn,J,H2,e,I2,T,Q,Y,W,[m0,w0],turn]:=h2;subst e;let p:∀{w:Hp},(∀b∈A,w b=none)->∀b∈A,lS X a w b:=λhn b l=>#[hn b l,(Y b l).2];show codeAny_forLoop_any (λn s'=>∃i q w,Inv X a q w s'/\tn i s'.heap/\(∀b∈A,w b=none)/\W i n q w) ?_ m0 #[(0),σ,H2,I2,Q,λb l=>(Y b l).1,w0];ext n s3 ⟨i,t,K,U,F,B,w3⟩;let[G,qn]||[go,N,hN,step]:=turn i n t K w3
 .show fA C (dJ (T.done X rfl rfl rfl Z i a s3 t K X.xe U (p B) F G) λr s4 #[O,I4]=>?_);subst O;show kU #[t,K,I4,qn]
 .show fA C (dJ (T.item X rfl rfl rfl Z i a s3 t K X.xe U (p B) F go) λr s4 #[u,O,h4]=>?_);subst O;show fA C (dJ h4 λ_ s5 #[x,S,I5,r5,y5,z,M]=>?_);let L:=I5.pinned (p M)<|T.obj _ _ z;show fA C (dJ (hg _ s5 t S x u _ L r5<|step x S y5) λ_ s6 #[R,H6,I6,q6]=>?_);show fA C (dJ (l _ s6 R H6 _ I6 q6) λf P y=>?_);let again:∀{c:St} {j:Hp},Inv X (a++xP A s5.heap) c j P->N c j->∃m,m<n/\∃i q w,Inv X a q w P/\tn i P.heap/\(∀b∈A,w b=none)/\W i m q w:=λ{c j} k E=>by
   let[m',hm,w7]:=hN c j E;show#[m',hm,i+1,c,j,k.lE,T.keep _ _ _ z λb l o e=>(k.pin (b,o)<|aD _<|aD _<|dB l e).1,λb l=>?_,w7];let[o,e,d]:=T.obj _ _ z b l;show(k.pin (b,o)<|aD _<|aD _<|dB l e).2.1
  cases f with
  |next=>let[c,j,k,E]:=y;show again k E
  |cont=>obtain⟨c,j,k,E⟩:=y;show again k E
  |brk=>obtain⟨c,j,k,y⟩:=y;show#[c,j,k.lE,y]
  |ret v=>obtain⟨x7,c,j,k,r7,y⟩:=y;show#[x7,c,j,k.lE,r7,y]
abbrev R2:=V->V->Hp->VK->Prop
def p_(X:Cx)(f:Value->Value->Sem Value)(r:R2):Prop:=
 ∀(a:List (Addr×Obj)) (s:Shared) (b:St) (H:Hp) (x y:V) (v u:Value) (Q:VK),Inv X a b H s->RelV x v->RelV y u->r x y H Q->
  wpAny (model X.prog X.w) X.A (f v u) (EP X a b Q) X.xe s
def Rs(X:Cx)(f:Value->Sem Value)(r:V->Hp->VK->Prop):Prop:=
 ∀(a:List (Addr×Obj)) (s:Shared) (b:St) (H:Hp) (x:V) (v:Value) (Q:VK),Inv X a b H s->RelV x v->r x H Q->
  wpAny (model X.prog X.w) X.A (f v) (EP X a b Q) X.xe s
def gJ(X:Cx)(f:Value)(r:List V->Hp->VK->Prop):Prop:=
 ∀(a:List (Addr×Obj)) (s:Shared) (d:St) (H:Hp) (c:List V) (b:List Value) (Q:VK),Inv X a d H s->Vals c b->r c H Q->
  wpAny (model X.prog X.w) X.A (call f b) (EP X a d Q) X.xe s
def ER(r:R2)(d e:TE):TE:=λa H Q=>d a H λx b=>e a b λy c=>r x y c Q
def Su(r:V->Hp->VK->Prop)(b:TE):TE:=λc H Q=>b c H λx a=>r x a Q
def rI(C:Int->Int->Prop)(g:Int->Int->V):R2:=λx y H Q=>∃i j,x=.int i/\y=.int j/\C i j/\Q (g i j) H
def ES(g:Int->Int->V):R2:=λx y H Q=>∃i j,x=.int i/\y=.int j/\Q (g i j) H
def rU(g:Int->V):V->Hp->VK->Prop:=λx H Q=>∃i,x=.int i/\Q (g i) H
section
variable{X:Cx}{a b:Expr}{ta tb:TE}{pos:Pos}
def NI(n:PE X a ta)(o:PE X b tb){c:List (Addr×Obj)}{s:Shared}{e:St}{H:Hp}{R:V->V->Hp->Prop}(I:Inv X c e H s)
  (h:ta e H λx k=>tb e k λy d=>R x y d) {Q:Value->Shared->Prop} {f:Value->Value->Sem Value}
  (p:∀v u j x y d,Inv X c e d j->RelV x v->RelV y u->R x y d->wpAny (model X.prog X.w) X.A (f v u) Q X.xe j):
  wpAny (model X.prog X.w) X.A (eval a X.env) (λv g=>wpAny (model X.prog X.w) X.A (eval b X.env) (λu i=>wpAny (model X.prog X.w) X.A (f v u) Q X.xe i) X.xe g) X.xe s:=by
 show dJ (n c s e H _ I h) λv z #[x,k,l,t,q]=>?_;show dJ (o c z e k _ l q) λu j #[y,d,m,w,r]=>?_;show p v u j x y d m t w r
def qH{d:Operator}{r:R2}(j:p_ X (binaryOp d) r)(g:PE X a ta)(i:PE X b tb):PE X (.BinOp a d b pos) (ER r ta tb):=by
 intro c s n H Q I h;show wpAny_BinOp (NI g i I h λv u m x y e f k l q=>j c m n e x y v u Q f k l q)
def Jc(i:Rs X (unaryOp j) r)(g:PE X a ta):PE X (.UnaryOp j a pos) (Su r ta):=by
 intro c s d H Q I h;show UnaryOp_ (dJ (g c s d H _ I h) λv m #[x,e,f,l,k]=>i c m d e x v Q f l k)
def PD{f:Value->Value->Sem Value}{C:Int->Int->Prop}{g:Int->Int->Int}
  (rule:∀(i j:Int) (t u:Tok) (s:Shared) (Q:Value->Shared->Prop) (E:Value->Shared->Prop),C i j->Q (.int (g i j) s.toks) {s with toks:=s.toks+1}->wpAny (model X.prog X.w) X.A (f (.int i t)<|.int j u) Q E s):
  p_ X f (rI C λi j=>.int<|g i j):=by
 intro c s m H x y v u Q I e k h;let[i,j,0,0,d,q]:=h;let[t,0]:=e;let[l,0]:=k;show rule i j t l s _ _ d #[.int (g i j),H,I.tok _,#[1],q]
def PF{f:Value->Value->Sem Value}{g:Int->Int->Int}
  (rule:∀(i j:Int) (t u:Tok) (s:Shared) (Q:Value->Shared->Prop) (E:Value->Shared->Prop),Q (.int (g i j) s.toks) {s with toks:=s.toks+1}->wpAny (model X.prog X.w) X.A (f (.int i t)<|.int j u) Q E s):
  p_ X f (ES λi j=>.int<|g i j):=by
 intro c s l H x y v u Q I d e h;let[i,j,0,0,q]:=h;let[t,0]:=d;let[k,0]:=e;show rule i j t k s _ _ #[.int (g i j),H,I.tok _,#[1],q]
def Ly{f:Value->Value->Sem Value}{g:Int->Int->Bool}
  (rule:∀(i j:Int) (t u:Tok) (s:Shared) (Q:Value->Shared->Prop) (E:Value->Shared->Prop),Q (.bool<|g i j) s->wpAny (model X.prog X.w) X.A (f (.int i t)<|.int j u) Q E s):
  p_ X f (ES λi j=>.bl<|g i j):=by
 intro c s l H x y v u Q I d e h;let[i,j,0,0,q]:=h;let[t,0]:=d;let[k,0]:=e;show rule i j t k s _ _ #[.bl (g i j),H,I,0,q]
def PH(i j:Int):Prop:=0<j/\j<1073741824
def Rt(i j:Int):Prop:=0<=j/\j<=1000000/\i.natAbs<2^64
def Lz(i j:Int):Prop:=(-(2^64)<i/\i<2^64)\/(-(2^64)<j/\j<2^64)
def Lz.ok(h:Lz i j):IntMulOk i j:=by
 let[c,d]||[c,d]:=h
 .show .of_left<|intBits_le_64 c d
 .show .of_right<|intBits_le_64 c d
def NJ:p_ X (binaryOp .Add) (ES λi j=>.int<|i+j):=PF λ_ _ _ _ _ _ _ q=>add_int q
def NK:p_ X (binaryOp .Sub) (ES λi j=>.int<|i -j):=PF λ_ _ _ _ _ _ _ q=>sub_int q
def NL:p_ X (binaryOp .Mult) (rI Lz λi j=>.int<|i*j):=PD λ_ _ _ _ _ _ _ c q=>mul_int q c.ok
def F0:p_ X (binaryOp .FloorDiv) (rI PH λi j=>.int<|i/j):=PD λi j _ _ _ _ _ c q=>by
 let d:(0:Int)<j:=c.1;let e:j<1073741824:=c.2;show floordiv_int om (by rw[qs i om];show q)<|.inl<|vr om
def NM:p_ X (binaryOp .Mod) (rI (λ_ j=>0<j) λi j=>.int<|i%j):=PD λi j _ _ _ _ _ c q=>by
 let d:(0:Int)<j:=c;show mod_int' om<|by rw[Int.fmod_eq_emod_of_nonneg i om];show q
def NN:p_ X (binaryOp .LShift) (rI Rt λi j=>.int<|i*2^j.toNat):=PD λ_ _ _ _ _ _ _ c q=>lshift_int_small c.1 c.2.1 c.2.2 q
def Sv{f:Value->Sem Value}{g:Int->Int}
  (rule:∀(i:Int) (t:Tok) (s:Shared) (Q:Value->Shared->Prop) (E:Value->Shared->Prop),Q (.int (g i) s.toks) {s with toks:=s.toks+1}->wpAny (model X.prog X.w) X.A (f<|.int i t) Q E s):
  Rs X f (rU λi=>.int<|g i):=by
 intro c s e H x v Q I d h;let[i,0,q]:=h;let[t,0]:=d;show rule i t s _ _ #[.int (g i),H,I.tok _,#[1],q]
def ET:Rs X (unaryOp .USub) (rU λi=>.int<|-i):=Sv λ_ _ _ _ _ q=>neg_int q
end
def PJ:V->V->Bool
 |.ic,.ic=>true|.ic,.int _=>true|.int _,.ic=>true|.ic,.bl _=>true|.bl _,.ic=>true|.ic,.str _=>true|.str _,.ic=>true
 |.int _,.int _=>true|.bl _,.bl _=>true|.str _,.str _=>true|.Ev _,.Ev _=>true
 |.int _,.str _=>true|.str _,.int _=>true|.bl _,.str _=>true|.str _,.bl _=>true
 |_,_=>false
def Sw:R2:=λx y H Q=>PJ x y=true/\Q (.bl<|decide<|x=y) H
def Sx:R2:=λx y H Q=>PJ x y=true/\Q (.bl<|!decide (x=y)) H
def F1:decide (V.int i=V.int j)=(i==j):=by
 rw[bQ];simp
def Jd:decide (V.bl i=V.bl j)=(i==j):=by
 rw[bQ];simp
def F2:decide (V.str i=V.str j)=(i==j):=by
 rw[bQ];simp
def F3:decide (V.Ev i=V.Ev j)=(i.toList==j.toList):=by
 rw[bQ];cases i
 cases j
 simp
section
variable{X:Cx}{a b:Expr}{ta tb tc:TE}{pos:Pos}
def dH(I:Inv X c f H s)(q:Q (.bl k) H)(e:k=d):EP X c f Q (.bool d) s:=by
 subst e;show#[.bl k,H,I,0,q]
def oz:p_ X (compareOp .Eq) Sw:=by
 intro g s k H x y v u Q I f c h;let[e,q]:=h;cases x with
 |ic=>
  cases f
  cases y with
  |ic=>cases c;show PySem.EqNone.eq_none_none<|dH I q<|by simp
  |bl j=>cases c;show PySem.EqNone.eq_none_bool<|dH I q<|by simp
  |int j=>let[d,0]:=c;show PySem.EqNone.eq_none_int<|dH I q<|by simp
  |str j=>obtain⟨d,rfl⟩:=c;show PySem.EqNone.eq_none_str<|dH I q<|by simp
  |_=>show absurd (show false=true from e) aR
 |bl i=>
  cases f
  cases y with
  |ic=>cases c;show PySem.EqNone.eq_bool_none<|dH I q<|by simp
  |bl j=>cases c;show eq_bool<|dH I q Jd
  |str j=>let[d,0]:=c;show PySem.EqMixed.eq_bool_str<|dH I q<|by simp
  |_=>show absurd (show false=true from e) aR
 |int i=>
  obtain⟨t,rfl⟩:=f;cases y with
  |ic=>cases c;show PySem.EqNone.eq_int_none<|dH I q<|by simp
  |int j=>let[d,0]:=c;show eq_int<|dH I q F1
  |str j=>obtain⟨d,rfl⟩:=c;show PySem.EqMixed.eq_int_str<|dH I q<|by simp
  |_=>show absurd (show false=true from e) aR
 |str i=>
  obtain⟨t,rfl⟩:=f;cases y with
  |ic=>cases c;show PySem.EqNone.eq_str_none<|dH I q<|by simp
  |bl j=>cases c;show PySem.EqMixed.eq_str_bool<|dH I q<|by simp
  |int j=>let[d,0]:=c;show PySem.EqMixed.eq_str_int<|dH I q<|by simp
  |str j=>obtain⟨d,rfl⟩:=c;show eq_str<|dH I q F2
  |_=>show absurd (show false=true from e) aR
 |Ev i=>
  obtain⟨t,rfl⟩:=f;cases y with
  |Ev j=>let[d,0]:=c;show PySem.W.eq_bytes<|dH I q F3
  |_=>show absurd (show false=true from e) aR
 |_=>cases y<;>show absurd (show false=true from e) aR
def oA:p_ X (compareOp .NotEq) Sx:=by
 intro g s k H x y v u Q I f c h;let[e,q]:=h;cases x with
 |ic=>
  cases f
  cases y with
  |ic=>cases c;show PySem.EqNone.ne_none_none<|dH I q<|by simp
  |bl j=>cases c;show PySem.EqNone.ne_none_bool<|dH I q<|by simp
  |int j=>let[d,0]:=c;show PySem.EqNone.ne_none_int<|dH I q<|by simp
  |str j=>obtain⟨d,rfl⟩:=c;show PySem.EqNone.ne_none_str<|dH I q<|by simp
  |_=>show absurd (show false=true from e) aR
 |bl i=>
  cases f
  cases y with
  |ic=>cases c;show PySem.EqNone.ne_bool_none<|dH I q<|by simp
  |bl j=>cases c;show ne_bool<|dH I q<|dF not Jd
  |str j=>let[d,0]:=c;show PySem.EqMixed.ne_bool_str<|dH I q<|by simp
  |_=>show absurd (show false=true from e) aR
 |int i=>
  obtain⟨t,rfl⟩:=f;cases y with
  |ic=>cases c;show PySem.EqNone.ne_int_none<|dH I q<|by simp
  |int j=>let[d,0]:=c;show ne_int<|dH I q<|dF not F1
  |str j=>obtain⟨d,rfl⟩:=c;show PySem.EqMixed.ne_int_str<|dH I q<|by simp
  |_=>show absurd (show false=true from e) aR
 |str i=>
  obtain⟨t,rfl⟩:=f;cases y with
  |ic=>cases c;show PySem.EqNone.ne_str_none<|dH I q<|by simp
  |bl j=>cases c;show PySem.EqMixed.ne_str_bool<|dH I q<|by simp
  |int j=>let[d,0]:=c;show PySem.EqMixed.ne_str_int<|dH I q<|by simp
  |str j=>obtain⟨d,rfl⟩:=c;show ne_str<|dH I q<|dF not F2
  |_=>show absurd (show false=true from e) aR
 |Ev i=>
  obtain⟨t,rfl⟩:=f;cases y with
  |Ev j=>let[d,0]:=c;show PySem.W.ne_bytes<|dH I q<|dF not F3
  |_=>show absurd (show false=true from e) aR
 |_=>cases y<;>show absurd (show false=true from e) aR
def xQ:p_ X (compareOp .Lt) (ES λi j=>.bl<|decide<|i<j):=Ly λ_ _ _ _ _ _ _ q=>lt_int q
def fE:p_ X (compareOp .LtE) (ES λi j=>.bl<|decide<|i<=j):=Ly λ_ _ _ _ _ _ _ q=>le_int q
def oB:p_ X (compareOp .Gt) (ES λi j=>.bl<|decide<|j<i):=Ly λ_ _ _ _ _ _ _ q=>gt_int q
def M_:p_ X (compareOp .GtE) (ES λi j=>.bl<|decide<|j<=i):=Ly λ_ _ _ _ _ _ _ q=>ge_int q
def Je(b:Expr)(h:c≠.In:=by decide)(f:c≠.NotIn:=by decide):behindInMarks c b=false:=by
 let d:(c==CmpOp.In)=false:=by cases c<;>first|rfl|show absurd rfl h
 let e:(c==CmpOp.NotIn)=false:=by cases c<;>first|rfl|show absurd rfl f
 cases b<;>simp[behindInMarks,d,e]
def LA{d:CmpOp}{r:R2}(k:p_ X (compareOp d) r)(g:PE X a ta)(i:PE X b tb)(j:behindInMarks d b=false):PE X (.Compare a [d] [b] pos) (ER r ta tb):=by
 intro c s o H Q I h;show wpAny_Compare1 (NI g i I h λv u n x y e f l m q=>k c n o e x y v u Q f l m q) j
def AQ(t:TE):TT:=λd H Q=>t d H λx c=>∃k,x=.bl k/\Q k c
def BD(w:p_ X (compareOp g) r)(p:PE X a ta)(q:PE X b tb)(t:behindInMarks g b=false):PT X (.Compare a [g] [b] pos) (AQ<|ER r ta tb):=by
 intro d s f H Q I h;show KE (dJ (p d s f H _ I h) λv G #[x,i,m,D,A]=>dJ (q d G f i _ m A) λu J #[y,j,n,E,B]=>
  dJ (w d J f j x y v u _ n D E B) λc K #[z,l,o,F,k,e,C]=>?_) t
 subst e;cases F
 show dr #[l,o,C]
def EU(r h:R2)(ta tb tc:TE):TE:=λc H Q=>ta c H λx e=>tb c e λy f=>r x y f λz d=>∃k,z=.bl k/\
 (if k=true then tc c d λi g=>h y i g Q else Q (.bl false) d)
def Jf(J:p_ X (compareOp n) r)(j:p_ X (compareOp g) N)(D:PE X a ta)(E:PE X b tb)(F:PE X c tc)(G:lastMarks [n,g] [b,c]=false:=by with_unfolding_all rfl):PE X (.Compare a [n,g] [b,c] pos) (EU r N ta tb tc):=by
 intro f s i H Q I h;show Compare_chain (dJ (D f s i H _ I h) λv S #[x,q,A,O,K]=>chain_link (dJ (E f S i q _ A K) λu T #[y,t,B,p,L]=>
  dJ (J f T i t x y v u _ B O p L) λd U #[z,l,m,P,k,e,o]=>?_)) G
 subst e;cases P
 show dr ?_;cases k with
 |false=>show ite_ff #[.bl false,l,m,0,o]
 |true=>show ite_tt<|chain_last (dJ (F f U i l _ m o) λY W #[Z,w,C,R,M]=>j f W i w y Z u Y Q C p R M)
def m8(N:p_ X (compareOp n) r)(j:p_ X (compareOp g) U)(J:PE X a ta)(K:PE X b tb)(L:PE X c tc)(M:lastMarks [n,g] [b,c]=false:=by with_unfolding_all rfl):PT X (.Compare a [n,g] [b,c] pos) (AQ<|EU r U ta tb tc):=by
 intro f s i H Q I h;show isTrue_chain (dJ (J f s i H _ I h) λv s1 #[x,q,B,W,P]=>test_link (dJ (K f s1 i q _ B P) λu s2 #[y,t,C,p,R]=>
  dJ (N f s2 i t x y v u _ C W p R) λd s3 #[z,l,m,Y,k,e,o]=>?_)) M
 subst e;cases Y
 show dr ?_;cases k with
 |false=>
  let[k',F,O]:=o;cases F
  show ite_ff #[l,m,O]
 |true=>
  show ite_tt<|test_last (dJ (L f s3 i l _ m o) λw' s4 #[z',w,D,Z,S]=>dJ (j f s4 i w y z' u w' _ D p Z S) λd' s5 #[z2,A,E,r5,k2,G,T]=>?_);subst G;cases r5
  show dr #[A,E,T]
def EV:(sizeLine:Nat)<2^63:=by rw[gV];decide
def vals1(r:Vals [x] e):∃u,e=[u]/\RelV x u:=by
 cases r with
 |cons c d=>cases d;show#[1,c]
def vals2(r:Vals [x,y] h):∃u c,h=[u,c]/\RelV x u/\RelV y c:=by
 cases r with
 |cons d e=>
  cases e with
  |cons f g=>cases g;show#[_,1,d,f]
def xR:gJ X (.builtin "abs") (λd H Q=>∃i,d=[.int i]/\Q (.int (if i<0 then -i else i)) H):=by
 intro c s g H d f Q I r h;let[i,0,q]:=h;let[u,0,t,0]:=vals1 r;show call_abs_int λu e=>#[.int (if i<0 then -i else i),H,I.tok _,#[1],q]
def AR(f:X.calm=true):gJ X (.builtin "min") (λe H Q=>∃i j,e=[.int i,.int j]/\Q (.int (if j<i then j else i)) H):=by
 intro d s p H e n Q I r h;let[i,j,0,q]:=h;let[u,o,0,[t,0],[l,0]]:=vals2 r;show min_two_ints (I.ok.hd f) λg m k=>#[_,H,I.kept k,?_,q];by_cases c:j<i
 .rw[aH c,aH c];show#[1]
 .rw[az c,az c];show#[1]
end
structure EW(h:Heap)(x dx C:Addr)(mA:Str->Option Value):Prop where
 obj:h.get? x=some (instObj C dx)
 ns:h.Ns1 dx mA
 ne:dx≠x
def Hc{h:Heap}{d:Addr}{g:Str->Option Value}(n:h.Ns1 d g):∃i,h.get? d=some i/\∀b,lookIn b i=some (g b):=by
 let[o,f,s,p,k,l,_,m]:=n;show#[o,p,λb=>?_];let e:=m b;unfold nsFind findBy at e;rw[<-Array.find?_toList]at e;unfold lookIn;rw[k];dsimp only;split
 .rename_i y q;rw[q]at e;show dF some e
 .rename_i q;rw[q]at e;let a:f.toList.any (·.refKey)=false:=by
   rw[kD];intro y r;let[z,t,c]:=l y<|Array.mem_toList_iff.mp r;simp[DictEntry.refKey,c]
  let j:¬f.toList.any (·.refKey)=true:=by rw[a];show aR
  rw[az j];show dF some e
def EW.look(I:EW h x c C f):∃b,PySem.W.InstAt h x (instObj C c) C (some b)/\∀a,lookIn a b=some (f a):=
 let #[b,e,d]:=Hc I.ns
 #[b,#[I.obj,0,0,e],d]
def get_map(X:K.In s.heap)(I:EW s.heap x l C k)(f:plainGet K C a=true)(g:hasDictIn K C=true)(e:findIn K (.ref C) a=some none)(j:k a=some v)(b:handedIn v=true)(h:Q v {s with toks:=s.toks+1}):
  wpAny (model d w) A (getAttr (.ref x) a c) Q E s:=by
 let[m,J,i]:=I.look;show PySem.W.get_value X J (plainGet_of f).1 (PySem.W.findObj_own g e rfl<|by rw[i,j]) b h
def Jg{pl:Sem Bool}(X:K.In s.heap)(I:EW s.heap x l C j)(b:plainGet K C a=true)(d:findIn K (.ref C) a=some (some<|.ref f))(g:isFn K (.ref f)=true)(i:j a=none)(h:Q (.ref f,[.ref x]) s):
  wpAny (model c w) A (getMethod (.ref x) a pl) Q E s:=by
 let[k,J,e]:=I.look;show PySem.W.method_fn X J (plainGet_of b).1 (plainGet_of b).2 d (C1.mp g) (by change(lookIn a k).map (·.isSome)=some false;rw[e,i];rfl) h
def LB(X:K.In s.heap)(I:EW s.heap x e C l)(t:findIn K (.ref C) "__setattr__"=some (some<|.builtin "object.__setattr__"))(r:plainOver K C=true)(z:takerIn K C a=some none)(q:hasDictIn K C=true)(B:PySem.Within l F)(u:F.length<=sizeLine)(h:∀f,EW f x e C (λy=>if y=a then some v else l y)->Heap.SameBut e s.heap f->Q () {s with heap:=f,toks:=s.toks+2}):
  wpAny (model m w) A (setAttr (.ref x) a v) Q E s:=by
 let[M,J,H]:=I.look;show PySem.W.set_plain X J t (PySem.W.osa_open (s:={s with toks:=s.toks+1}) (r:=none) X J r z λb=>?_);let[G,p,i]:=PySem.W.any_some q;let D:s.heap.get? x=some #[.ref C,some e,.plain,#[]]:=I.obj;show ai<|aj<|ai<|ai<|wpAny_loadPart D<|ai<|PySem.W.Looks.here (s:={s with toks:=s.toks+1}) (PySem.W.looks_clsIn X p) ?_;rw[i];show aj (a:=some e)<|ai<|aj<|ai ?_;show wpAny_nsSet1 (s:={s with toks:=s.toks+1}) I.ns λf c d=>?_;let[L,o,n,k,j,g]:=c.count<|PySem.Within.cons a v B;show ai<|wpAny_lookBehind k (by rw[j];show pastItsLine_dict<|aL g<|by rw[aY];lk) ?_
 show aj<|h _ #[(d.2 _<|bJ I.ne).trans I.obj,c,I.ne] d
def Jh(X:K.In s.heap)(k:makesIn K C=true)(j:findIn K (.ref C) "__init__"=some (some<|.ref f))(i:PySem.W.typeIn K (.ref f)=some (.type "function"))(h:codeAny (model a w) (A.under<|.builtin "type.__call__" #[.ref C::e,c]) (.call (.ref f) #[.ref (⇑s+1)::e,c]) (PySem.W.InitBack (⇑s+1) R)
   {s with heap:=(s.heap.push emptyDict).push<|instObj C ⇑s}):
  codeAny (model a w) A (.call (.ref C) #[e,c]) R s:=by
 let[l,g,d,t,os]:=s;show PySem.W.make_core (PySem.W.makes_of X k) (PySem.W.looks_findIn X j) (λb=>PySem.W.bind_fn X b i) (.inl rfl) h
def dM(f:Str)(v:V):List (Str×V)->List (Str×V)
 |[]=>[(f,v)]
 |(g,x)::r=>if g=f then(g,v)::r else(g,x)::dM f v r
def bP(f g:Str)(v:V):∀c:List (Str×V),(dM f v c).lookup g=if g=f then some v else c.lookup g
 |[]=>by
  change List.lookup g [(f,v)]=_;by_cases h:g=f
  .let a:(g==f)=true:=C1.mpr h;simp only[List.lookup,a,aH h]
  .let a:(g==f)=false:=iX.mpr h;simp only[List.lookup,a,az h]
 |(k,x)::r=>by
  let d:=bP f g v r;rw[show dM f v ((k,x)::r)=(if k=f then(k,v)::r else(k,x)::dM f v r)from rfl];by_cases b:k=f
  .rw[aH b];by_cases h:g=k
   .let a:(g==k)=true:=C1.mpr h;simp only[List.lookup,a,aH<|h.trans b]
   .let a:(g==k)=false:=iX.mpr h;simp only[List.lookup,a,az λe:g=f=>h<|e.trans b.symm]
  .rw[az b];by_cases h:g=k
   .let a:(g==k)=true:=C1.mpr h;simp only[List.lookup,a,az λe:g=f=>b<|h.symm.trans e]
   .let a:(g==k)=false:=iX.mpr h;simp only[List.lookup,a];show d
def t_(f:Str)(v:V):∀a:List (Str×V),f∈(dM f v a).map (·.1)/\∀g,g∈a.map (·.1)->g∈(dM f v a).map (·.1)
 |[]=>#[by simp[dM],λg h=>by simp at h]
 |(k,x)::r=>by
  let[c,d]:=t_ f v r;rw[show dM f v ((k,x)::r)=(if k=f then(k,v)::r else(k,x)::dM f v r)from rfl];by_cases b:k=f
  .rw[aH b];subst b;show#[by simp,λg h=>by simpa using h]
  .rw[az b];show#[?_,λg h=>?_]
   .rw[bm];show aC _ c
   .rw[bm]at h|-;let e||e:=aB.mp h
    .show aB.mpr<|.inl e
    .show aC _<|d g e
def o_(f:Str)(v:V):∀a:List (Str×V),(dM f v a).length<=a.length+1
 |[]=>by simp[dM]
 |(k,x)::r=>by
  let c:=o_ f v r;rw[show dM f v ((k,x)::r)=(if k=f then(k,v)::r else(k,x)::dM f v r)from rfl];by_cases b:k=f
  .rw[aH b,aY,aY];lk
  .rw[az b,aY,aY];lk
def mZ.some_of(r:mZ (some v) o):∃u,o=some u/\RelV v u:=by
 cases o with
 |none=>show(show False from r).elim
 |some u=>show#[u,0,r]
def mZ.none_of(r:mZ none o):o=none:=by
 cases o with
 |none=>rfl
 |some u=>show(show False from r).elim
def Hd(r:RelV v u):handedIn u=true:=by
 cases v with
 |ic=>cases (show u=Value.none from r);rfl
 |bl b=>cases (show u=Value.bool b from r);rfl
 |int i=>let[t,e]:=(show∃t,u=Value.int i t from r);cases e;rfl
 |str x=>let[t,e]:=(show∃t,u=Value.str x t from r);cases e;rfl
 |Ev b=>let[t,e]:=(show∃t,u=Value.bytes b t from r);cases e;rfl
 |QT b=>let[t,e]:=(show∃t,u=Value.float b t from r);cases e;rfl
 |ref a=>cases (show u=Value.ref a from r);rfl
 |ty n=>cases (show u=Value.type n from r);rfl
def BE(i:o5 P w H h)(e:H a=some (.ins C g c)):∃b,EW h a g C b/\(∀f,mZ (c.lookup f)<|b f)/\PySem.Within b (c.map (·.1))/\c.length<=1000/\H g=some (.own a):=by
 let[d,z,j,k,b,n,r,q]:=(show fD P w H h a (.ins C g c)from i a _ e);show#[b,#[k,n,j],r,q,z,d]
structure F4(K:Frag)(C:Addr):Prop where
 pg:plainGet K C Str.empty=true
 hd:hasDictIn K C=true
 po:plainOver K C=true
 sa:findIn K (.ref C) "__setattr__"=some (some<|.builtin "object.__setattr__")
def F4.get(c:F4 K C)(f:Str):plainGet K C f=true:=c.pg
def n8(K:Frag)(C:Addr)(f:Str):Prop:=findIn K (.ref C) f=some none
def n8.PL(n:n8 K C f):takerIn K C f=some none:=by
 unfold takerIn;rw[show findIn K (.ref C) f=some none from n];rfl
structure Meth(K:Frag)(C:Addr)(m:Str)(f:Addr):Prop where
 at_:findIn K (.ref C) m=some (some<|.ref f)
 fn:isFn K (.ref f)=true
 kp:keepIn K (.ref f)=true
def EX(I:Inv X d o H s)(e:H a=some (.ins C p j))(c:F4 X.K C)(n:n8 X.K C f)(l:j.lookup f=some v)(h:∀u i,Inv X d o H i->RelV v u->Q u i):wpAny (model X.prog X.w) A (getAttr (.ref a) f b) Q E s:=by
 let[m,O,r,_,_,_]:=BE I.hok e;let[u,k,g]:=mZ.some_of (v:=v) (o:=m f)<|by rw[<-l];show r f
 show get_map I.Bz O (c.get f) c.hd n k (Hd g)<|h u _ (I.tok _) g
def xS{pl:Sem Bool}(I:Inv X b n H s)(e:H a=some (.ins C j d))(c:F4 X.K C)(k:Meth X.K C m g)(l:d.lookup m=none)(h:Q (.ref g,[.ref a]) s):wpAny (model X.prog X.w) A (getMethod (.ref a) m pl) Q E s:=by
 let[i,O,r,_,_,_]:=BE I.hok e;let f:i m=none:=mZ.none_of<|by rw[<-l];show r m
 show Jg I.Bz O (c.get m) k.at_ k.fn f h
def EY(I:Inv X i J H s)(e:H a=some (.ins C k d))(c:F4 X.K C)(n:n8 X.K C f)(K:d.length<1000)(G:RelV y u)(h:∀p,Inv X i J (upd H a<|.ins C k<|dM f y d) p->Q () p):wpAny (model X.prog X.w) A (setAttr (.ref a) f u) Q E s:=by
 let[m,O,r,t,_,l]:=BE I.hok e;let F:(d.map (·.1)).length<=sizeLine:=by rw[ac,gV];lk
 show LB I.Bz O c.sa c.po n.PL c.hd t F λw j sb=>h _ ?_;let B:∃o,w.get? k=some o:=let #[o,_,_,v,_]:=j.ns;#[o,v];show I.write (x:=a) (e:=k) (by rw[e];show True.intro) (.inr l) (λb q x z=>(sb.2 b x).trans z) B ?_
 show#[by rw[aA O.ne];show l,?_,O.ne,j.obj,_,j.ns,λg=>?_,λg D=>?_]
 .let:=o_ f y d;lk
 .change mZ ((dM f y d).lookup g) (if g=f then some u else m g);rw[bP];by_cases q:g=f
  .rw[aH q,aH q];show G
  .rw[az q,az q];show r g
 .by_cases q:g=f
  .rw[q];show(t_ f y d).1
  .show(t_ f y d).2 g (t g λz=>D ?_);change(if g=f then some u else m g)=none;rw[az q];show z
def Inv.made(I:Inv X a k H s):Inv X a k (upd (upd H ⇑s<|.own<|⇑s+1) (⇑s+1)<|.ins C ⇑s [])
  {s with heap:=(s.heap.push emptyDict).push<|instObj C ⇑s}:=by
 let c:(s.heap.push emptyDict).get? ⇑s=some emptyDict:=bx s.heap rfl;let g:((s.heap.push emptyDict).push<|instObj C ⇑s).get? (⇑s+1)=some (instObj C ⇑s):=by
  let:=bx (s.heap.push emptyDict) (o:=instObj C ⇑s) rfl
  rwa [ed]at this
 let h:(s.heap.push emptyDict).Ns ⇑s (λ_=>none):=#[emptyDict,#[],_,c,0,(λe i=>absurd i SX),λ_=>rfl]
 let f:=I.laid (a:=⇑s) (o:=.own<|⇑s+1) (h':=s.heap.push emptyDict) (t':=s.toks) (λb u q=>br _ q) (aE _) #[_,c];show f.laid (a:=⇑s+1) (o:=.ins C ⇑s []) (t':=s.toks) (λb u q=>br _ q) (iK<|ed _ _) ?_;let d:⇑s≠⇑s+1:=bN<|AA _;show#[by rw[aA d,ag],cH _,d,g,λ_=>none,(Heap.Ns1.of_empty h).at λo q=>br _ q,λ_=>True.intro,λy j=>absurd rfl j]
def LC(d:attributeBase e f a (eval e a)=eval e a)(h:wpAny (model b w) A (eval e a) (λo c=>wpAny (model b w) A (getAttr o f true) Q E c) E s):wpAny (model b w) A (eval (.Attribute e f g) a) Q E s:=
 Attribute_any_ h (by rw[arm_eval_Attribute,d])
def Ru(K:Frag)(e:TE)(f:Str):TE:=λg H Q=>e g H λx b=>∃a C d c v,x=.ref a/\b a=some (.ins C d c)/\F4 K C/\n8 K C f/\c.lookup f=some v/\Q v b
def PM(K:Frag)(h i:TE)(f:Str):TS:=λD c H=>i c H λy g=>h c g λx d=>∃a C e b,x=.ref a/\d a=some (.ins C e b)/\F4 K C/\n8 K C f/\b.length<1000/\
 D.nx c (upd d a<|.ins C e<|dM f y b)
def NO(o:PE X e w)(m:attributeBase e f X.env (eval e X.env)=eval e X.env):PE X (.Attribute e f p) (Ru X.K w f):=by
 intro b s y H Q I h;show LC m (dJ (o b s y H _ I h) λu B #[x,d,g,t,a,C,z,A,v,k,j,c,n,l,q]=>?_);subst k;let 0:u=Value.ref a:=t;show EX g j c n l λE D i r=>#[v,d,i,r,q]
def kF(v:PE X o J)(z:PE X b K)(w:swapsWith b (some<|.Attribute o f e) g.line X.env=pure false):PS X (.Assign [.Attribute o f e] b g) (PM X.K J K f):=by
 intro d s i H D I h;show plainObj_wpAny_Assign_Attribute (dJ (z d s i H _ I h) λu G #[y,j,k,F,q]=>dJ (v d G i j _ k q) λA O #[x,L,m,E,a,C,M,N,t,r,c,n,l,B]=>?_) w;subst t;let 0:A=Value.ref a:=E;show EY m r c n l F λP p=>#[i,_,p,B]
structure eg(k:Nat)(A:Around):Prop where
 hd:A.handled=none
 dp:A.depth+3*k+5<recursionLimit
 un:A.units+16*k+200<cLine
def eg.mono(r:eg k A)(h:j<=k):eg j A:=#[r.hd,by let:=r.dp;lk,by let:=r.un;lk]
def eg.deeper(r:eg (k+1) A)(a:Env):eg k (A.deeper a):=
 #[r.hd,by let:=r.dp;change A.depth+1+3*k+5<_;lk,by let:=r.un;change A.units+3+16*k+200<_;lk]
def EZ{A:Around}{C:Addr}{b:List Value}{a:List (Str×Value)}:(A.under<|.builtin "type.__call__" #[.ref C::b,a]).depth=A.depth+1:=by
 first|rfl|simp[Around.under,Code.weight,Code.isCreation,Code.isGuard,Code.isCaller,Code.frames,Code.isFrame,guardIds]
def E1{A:Around}{C:Addr}{b:List Value}{a:List (Str×Value)}:(A.under<|.builtin "type.__call__" #[.ref C::b,a]).units=A.units+1:=by
 first|rfl|simp[Around.under,Code.cUnits,Code.frames,Code.isFrame]
def eg.make(r:eg (k+1) A)(C:Addr)(b:List Value)(a:List (Str×Value)):eg k (A.under<|.builtin "type.__call__" #[.ref C::b,a]):=
 #[r.hd,by let:=r.dp;rw[EZ];lk,by let:=r.un;rw[E1];lk]
def eg.depth(r:eg k A):A.depth<recursionLimit:=by let:=r.dp;lk
def eg.units(r:eg k A):A.units+64<cLine:=by let:=r.un;lk
def zO:TA:=λ_ H Q=>Q [] H
def xT(d:TE)(e:TA):TA:=λa H Q=>d a H λx b=>e a b λf c=>Q (x::f) c
section
variable{X:Cx}{es:List Expr}{t:TA}{pos:Pos}
def ah:PA X [] zO:=λ_ _ _ _ H Q I h=>eP #[[],H,I,.nil,h]
def aa(i:PE X e q)(j:PA X es t)(k:starEach (e::es) X.env=(false,eval e X.env)::starEach es X.env:=by rfl):PA X (e::es) (xT q t):=by
 intro pos a s b H Q I h;rw[k];change wpAny _ _ (spliced<|(false,eval e X.env)::backTo pos (starEach es X.env)) _ _ s;show eA (dJ (i a s b H _ I h) λu p #[x,c,f,n,l]=>?_);show dJ (j pos a p b c _ f l) λw v #[r,d,g,o,m]=>#[x::r,d,g,.cons n o,m]
def Rw(t:TA):TE:=λc H Q=>t c H λb a=>b.length<=sizeLine/\∀p,a p=none->Q (.ref p) (upd a p<|.tup b)
def Rx(t:TA):TE:=λc H Q=>t c H λb a=>b.length<=sizeLine/\∀p,a p=none->Q (.ref p) (upd a p<|.lst b)
def eI{k}(h:PA X es t):PE X (.Tuple es k pos) (Rw t):=by
 intro a s m H Q I i;show wpAny_Tuple_spliced (dJ (h pos a s m H _ I i) λj c #[l,d,f,r,z,q]=>#[by rw[<-r.length];show z,?_])
 let g:d ⇑c=none:=f.hok.fresh<|aE _;show#[.ref ⇑c,upd d ⇑c<|.tup l,f.laid (t':=c.toks) (λb u e=>br _ e) (aE _) ?_,0,q _ g];show#[z,j,r,#[_,bx _ rfl,0,1]]
def cR(h:PA X es t):PE X (.List es pos) (Rx t):=by
 intro a s l H Q I i;show wpAny_List_spliced (dJ (h pos a s l H _ I i) λj c #[k,d,f,r,z,q]=>#[by rw[<-r.length];show z,?_])
 let g:d ⇑c=none:=f.hok.fresh<|aE _;show#[.ref ⇑c,upd d ⇑c<|.lst k,f.laid (t':=c.toks) (λb u e=>br _ e) (aE _) ?_,0,q _ g];show#[z,j,(0),r,bx _ rfl]
end
abbrev Sp:=List V->Hp->VK->XK->Prop
abbrev He:=List Env->Hp->Shared->XK->Value->Shared->Prop
structure zP(P:Program)(w:World)(K:Frag)(mg:Str->Option Value)(base:Heap)(A:Around)(outer:List Env)(s:Shared)(H:Hp):Prop where
 frames:A.frames=some outer
 mod:Mod K mg base
 bs:∀b o,base.get? b=some o->s.heap.get? b=some o/\H b=none
 Lb:base.objs.size<=s.heap.objs.size
 t8:s.heap.FunFrames base outer
 M5:∀b∈IX outer,H b=none
 hok:o5 P w H s.heap
 bare:AllBare s.gens
def CE(a:List Env)(P:Program)(w:World)(H:Hp)(s:Shared)(Q:VK)(u:Value)(b:Shared):Prop:=
 ∃v c,b.os=s.os/\AllBare b.gens/\Un (IX a) [] H c s.heap b.heap/\o5 P w c b.heap/\RelV v u/\Q v c
def CR(c:He)(a:List Env)(P:Program)(w:World)(H:Hp)(s:Shared)(Q:VK)(E:XK)(r:Result)(b:Shared):Prop:=
 match r with
 |.ok (.ret u)=>CE a P w H s Q u b
 |.ok _=>False
 |.error e=>c a H s E e b
structure ka(P:Program)(w:World)(K:Frag)(mg:Str->Option Value)(base:Heap)(CX:He)(k:Nat)(f:Addr)(fd:FuncData)(ps:List Str)(sp:Sp):Prop where
 len:∀vs H Q E,sp vs H Q E->vs.length=ps.length
 run:∀(A:Around) (outer:List Env) (s:Shared) (H:Hp) (args:Args) (us:List Value) (vs:List V) (Q:VK) (E:XK),eg k A->zP P w K mg base A outer s H->BindsTo s fd args (ps.zip us)->Vals vs us->sp vs H Q E->
  codeAny (model P w) A (.call (.ref f) args) (CR CX outer P w H s Q E) s
def ka.mono(F:ka P w K i c d j f e l m)(h:j<=k):
  ka P w K i c d k f e l m:=#[F.len,λA a s H b n o Q E g=>F.run A a s H b n o Q E<|g.mono h]
def zP.make(e:zP P w K d b A a s H)(C:Addr)(f:List Value)(c:List (Str×Value)):
  zP P w K d b (A.under<|.builtin "type.__call__" #[.ref C::f,c]) a s H:=#[by first|show e.frames|(simpa[Around.under,Code.envs,Code.isFrame,pushEnvs]using e.frames),e.mod,e.bs,e.Lb,e.t8,e.M5,e.hok,e.bare]
def zP.in1(e:zP P w K c b A a s H):
  zP P w K c b A.in1 a s H:=#[e.frames,e.mod,e.bs,e.Lb,e.t8,e.M5,e.hok,e.bare]
def Inv.LD(I:Inv X a b H s):zP X.prog X.w X.K X.mg X.base X.A X.stack s H:=
 #[I.ok.frames,I.ok.mod,I.bs,aL I.ok.Lb I.sz,I.stack,I.FY,I.hok,I.bare]
def Inv.after(I:Inv X c m H s)(h:CE X.stack X.prog X.w H s Q u i):EP X c m Q u i:=by
 let[v,j,os,a,l,e,r,q]:=h;let[k,g,d,t,f]:=i;let 0:f=s.os:=os;show#[v,j,I.call (h':=k) (g':=g) (d':=d) (t':=t) (ch:=[]) l e a λb z=>absurd z SX,r,q]
def Ji(c:Sp)(a:List V)(E:XK)(t:TA):TE:=λe H Q=>t e H λd b=>c (d++a) b Q E
def F5(C:Addr)(m:Str)(h:Sp)(b:List V)(E:XK)(i:TE)(t:TA):TE:=λe H Q=>i e H λx c=>∃a g d,x=.ref a/\c a=some (.ins C g d)/\d.lookup m=none/\
 t e c λj f=>h (x::(j++b)) f Q E
def F6(C:Addr)(e:Sp)(c:List V)(E:XK)(t:TA):TE:=λg H Q=>t g H λf b=>∀x a,b x=none->b a=none->a≠x->
 e (.ref x::(f++c)) (upd (upd b a<|.own x) x<|.ins C a []) (λv d=>v=.ic/\Q (.ref x) d) E
def Binds(K:Frag)(d:FuncData)(c:List Str)(b:List Value):Prop:=
 ∀(s:Shared) (a:List Value),K.In s.heap->(a++b).length=c.length->BindsTo s d #[a,[]] (c.zip<|a++b)
def Binds.all(h:∀a:List Value,a.length=c.length->bindArgs d #[a,[]]=pure (c.zip a)):Binds K d c []:=λs a _ b=>by
 rw[nQ]at b|-;show .of_eq<|h a b
def Passes(c:He)(X:Cx)(E:XK):Prop:=∀(a:List (Addr×Obj)) (d:St) (H:Hp) (s:Shared) (e:Value) (b:Shared),Inv X a d H s->c X.stack H s E e b->X.xe e b
section
variable{f C:Addr}
def BF(F:ka X.prog X.w X.K X.mg X.base l k f m g x)(t:eg k X.A)(o:Binds X.K m g d)(p:Vals b d)(v:Passes l X E)(I:Inv X a j H s)(r:Vals vs us)(h:x (vs++b) H Q E):wpAny (model X.prog X.w) X.A (call (.ref f) us) (EP X a j Q) X.xe s:=by
 let i:Vals (vs++b) (us++d):=r.append p;let q:(us++d).length=g.length:=by rw[<-i.length];show F.len _ _ _ _ h
 show xb (codeAny_mono (F.run X.A X.stack s H #[us,[]] (us++d) (vs++b) Q E t I.LD (o s us I.Bz q) i h) λr w c=>?_);cases r with
 |error e=>show v a j H s e w I c
 |ok n=>
  cases n with
  |ret u=>show I.after c
  |next=>show False.elim c
  |brk=>show False.elim c
  |cont=>show False.elim c
def LF(F:ka X.prog X.w X.K X.mg X.base l k f n G J)(B:eg k X.A)(y:Gl X x)(A:X.mg x=some (.ref f))(z:keepIn X.K (.ref f)=true)(u:Binds X.K n G m)(v:Vals d m)(D:Passes l X E)(o:PA X (e::c) t)(g:(x==("__debug__":Str))=false:=by decide)(w:starEach (e::c) X.env=(false,eval e X.env)::starEach c X.env:=by rfl)(i:(backTo b<|starEach c X.env).any (·.1)=false:=by rfl):
  PE X (.Call (.Name x p) (e::c) [] b) (Ji J d E t):=by
 intro a s K H Q I h;show dU<|nZ I y A ?_ g;show zA (h₀:=X.base) I.ok.mod.Pa z (dJ (o b a s K H _ I h) λN M #[O,L,j,r,q]=>#[j.Bz,?_]) w i;show BF F B u v D j r q
def LG{pl:Sem Bool}(P:PE X o ta)(c:F4 X.K C)(y:Meth X.K C m f)(F:ka X.prog X.w X.K X.mg X.base B k f L U sp)(R:eg k X.A)(N:Binds X.K L U G)(O:Vals j G)(T:Passes B X E)(M:PA X (e::i) t)(p:starEach (e::i) X.env=(false,eval e X.env)::starEach i X.env:=by rfl)(n:(backTo b<|starEach i X.env).any (·.1)=false:=by rfl)(S:eval (.Call (.Attribute o m d) (e::i) [] b) X.env=(do
   let z <-eval o X.env
   standAt d.atName
   let (f,first) <-holding [z] (getMethod z m pl)
   callWith b f first (backTo b<|starEach (e::i) X.env) (backToKw b<|keywordEach [] X.env)):=by rfl):
  PE X (.Call (.Attribute o m d) (e::i) [] b) (F5 C m sp j E ta t):=by
 intro g s A H Q I h;show methodCall_KW (pl:=pl) (dJ (P g s A H _ I h) λu Z #[x,D,v,Y,a,dx,fs,K,J,l,q]=>?_) S;subst K;let 0:u=Value.ref a:=Y;show xS v J c y l ?_;show zA (first:=[.ref a]) (h₀:=X.base) I.ok.mod.Pa y.kp (dJ (M b g Z A D _ v q) λus s2 #[vs,H2,w,r,W]=>#[w.Bz,?_]) p n
 show BF (us:=.ref a::us) (vs:=.ref a::vs) F R N O T w (.cons rfl r) W
def Jj{pl:Sem Bool}(A:PE X o M)(c:F4 X.K C)(j:Meth X.K C m f)(F:ka X.prog X.w X.K X.mg X.base p k f w J L)(B:eg k X.A)(y:Binds X.K w J r)(z:Vals i r)(G:Passes p X E)(D:eval (.Call (.Attribute o m d) [] [] b) X.env=(do
   let n <-eval o X.env
   standAt d.atName
   let (f,first) <-holding [n] (getMethod n m pl)
   callWith b f first (backTo b<|starEach [] X.env) (backToKw b<|keywordEach [] X.env)):=by rfl):
  PE X (.Call (.Attribute o m d) [] [] b) (F5 C m L i E M zO):=by
 intro e s N H Q I h;show methodCall_KW (pl:=pl) (dJ (A e s N H _ I h) λu S #[x,O,g,K,a,P,R,v,t,l,q]=>?_) D;subst v;let 0:u=Value.ref a:=K;show xS g t c j l ?_;show callWith_K0 (first:=[.ref a]) g.Bz j.kp<|BF (us:=[.ref a]) (vs:=[.ref a]) F B y z G g (.cons rfl .nil) q
structure Mk(K:Frag)(C f:Addr):Prop where
 makes:makesIn K C=true
 init:findIn K (.ref C) "__init__"=some (some<|.ref f)
 fn:isFn K (.ref f)=true
 kp:keepIn K (.ref C)=true
def Dk(M:Mk X.K C f)(F:ka X.prog X.w X.K X.mg X.base p k f y l O)(G:eg (k+1) X.A)(A:Binds X.K y l g)(B:Vals c g)(J:Passes p X E)(I:Inv X b o H s)(r:Vals n us)(h:∀x i,H x=none->H i=none->i≠x->O (.ref x::(n++c)) (upd (upd H i<|.own x) x<|.ins C i []) (λv t=>v=.ic/\Q (.ref x) t) E):
  wpAny (model X.prog X.w) X.A (call (.ref C) us) (EP X b o Q) X.xe s:=by
 let j:=h (⇑s+1) ⇑s (I.hok.fresh<|Et _) (I.hok.fresh<|aE _)<|bN<|AA _;let d:=Inv.made (C:=C) I;let m:Vals (V.ref (⇑s+1)::(n++c)) (Value.ref (⇑s+1)::(us++g)):=.cons rfl<|r.append B;let D:(Value.ref (⇑s+1)::us++g).length=l.length:=by
  let e:=m.length;rw[F.len _ _ _ _ j]at e;show e.symm
 show xb (Jh (f:=f) I.Bz M.makes M.init (C1.mp M.fn) (codeAny_mono (F.run _ X.stack _ _ #[Value.ref (⇑s+1)::us,[]] (Value.ref (⇑s+1)::(us++g)) _ _ E (G.make C us [])
  (d.LD.make C us []) (A _ (Value.ref (⇑s+1)::us) d.Bz D) m j) λr N a=>?_))
 cases r with
 |error e=>show J b o _ _ e N d a
 |ok z=>
  cases z with
  |ret u=>
   let[v,q,w,L,ev,K]:=d.after a;subst ev;show#[L,#[V.ref (⇑s+1),q,w,0,K]]
  |next=>show False.elim a
  |brk=>show False.elim a
  |cont=>show False.elim a
def LH(M:Mk X.K C f)(F:ka X.prog X.w X.K X.mg X.base l k f n D G)(A:eg (k+1) X.A)(y:Gl X x)(z:X.mg x=some (.ref C))(u:Binds X.K n D m)(v:Vals d m)(B:Passes l X E)(o:PA X (e::c) t)(g:(x==("__debug__":Str))=false:=by decide)(w:starEach (e::c) X.env=(false,eval e X.env)::starEach c X.env:=by rfl)(i:(backTo b<|starEach c X.env).any (·.1)=false:=by rfl):
  PE X (.Call (.Name x p) (e::c) [] b) (F6 C G d E t):=by
 intro a s J H Q I h;show dU<|nZ I y z ?_ g;show zA (h₀:=X.base) I.ok.mod.Pa M.kp (dJ (o b a s J H _ I h) λN L #[O,K,j,r,q]=>#[j.Bz,?_]) w i;show Dk M F A u v B j r q
def Jk(M:Mk X.K C f)(F:ka X.prog X.w X.K X.mg X.base d k f g r t)(n:eg (k+1) X.A)(l:Gl X x)(m:X.mg x=some (.ref C))(i:Binds X.K g r e)(j:Vals a e)(o:Passes d X E)(b:(x==("__debug__":Str))=false:=by decide):PE X (.Call (.Name x p) [] [] q) (F6 C t a E zO):=by
 intro c s u H Q I h;show dU<|nZ I l m ?_ b;show callWith_K0 I.Bz M.kp<|Dk (us:=[]) M F n i j o I .nil h
end
structure l9(N P:List Str)(sc:Scope):Prop where
 kind:sc.kind=.function
 co:sc.isCoroutine=false
 gen:sc.isGenerator=false
 nd:N.Nodup
 pre:N.take P.length=P
 par:∀x∈P,sc.names.lookup x=some .local\/sc.names.lookup x=some .cell
 NP:∀y∈sc.names,y.2≠.free
def AS{kindOf:Str->Option NameKind}:∀{a:List (Str×Value)} {m:Str->Option Value},(∀v,(x,v)∉a)->bindL kindOf a m x=m x
 |[],_,_=>rfl
 |(n,v)::r,m,h=>by
  unfold bindL;rw[AS λw b=>h w<|aC _ b];split
  .let:x≠n:=by ext rfl;show h v aN
   simp[this]
  .rfl
def AT{kindOf:Str->Option NameKind}:∀{a:List (Str×Value)} {m:Str->Option Value},(∀v,(x,v)∉a)->bindC kindOf a m x=m x
 |[],_,_=>rfl
 |(n,v)::r,m,h=>by
  unfold bindC;rw[AT λw b=>h w<|aC _ b];split
  .rfl
  .let:x≠n:=by ext rfl;show h v aN
   simp[this]
def AU{kindOf:Str->Option NameKind}:∀{P:List Str} {a:List Value} {i:Nat} {m:Str->Option Value},P.Nodup->P[i]?=some x->a[i]?=some v->kindOf x=some .local->
  bindL kindOf (P.zip a) m x=some v
 |[],_,_,_,_,h,_,_=>by simp at h
 |_::_,[],_,_,_,_,h,_=>by simp at h
 |p::P,w::a,0,m,e,b,c,d=>by
  simp at b c;subst b;subst c;change bindL kindOf ((p,w)::P.zip a) m p=_;unfold bindL;rw[AS λv f=>(c9.mp e).1 (jq f).1,aH d];simp
 |p::P,w::a,i+1,m,e,b,c,d=>by
  change bindL kindOf ((p,w)::P.zip a) m x=_;unfold bindL;show AU (i:=i) (c9.mp e).2 (by simpa using b) (by simpa using c) d
def AV{kindOf:Str->Option NameKind}:∀{P:List Str} {a:List Value} {i:Nat} {m:Str->Option Value},P.Nodup->P[i]?=some x->a[i]?=some v->kindOf x≠some .local->
  bindC kindOf (P.zip a) m x=some v
 |[],_,_,_,_,h,_,_=>by simp at h
 |_::_,[],_,_,_,_,h,_=>by simp at h
 |p::P,w::a,0,m,e,b,c,d=>by
  simp at b c;subst b;subst c;change bindC kindOf ((p,w)::P.zip a) m p=_;unfold bindC;rw[AT λv f=>(c9.mp e).1 (jq f).1,az d];simp
 |p::P,w::a,i+1,m,e,b,c,d=>by
  change bindC kindOf ((p,w)::P.zip a) m x=_;unfold bindC;show AV (i:=i) (c9.mp e).2 (by simpa using b) (by simpa using c) d
def start(N:List Str)(a:List V):St:=a.map some++List.replicate (N.length -a.length) none
def zQ(g:He)(P:Program)(w:World)(K:Frag)(mg:Str->Option Value)(base:Heap)(N:List Str)(b:Str)(a:Scope)(f:Addr)(d:Value)(A:Around)(outer:List Env)(s:Shared)(H:Hp)(E:XK):Cx where
 prog:=P
 w:=w
 K:=K
 mg:=mg
 base:=base
 A:=A.deeper (envOfC b a ⇑s f d)
 N:=N
 AK:=s
 Nz:=H
 env:=envOfC b a ⇑s f d
 outer:=outer
 stack:=envOfC b a ⇑s f d::outer
 ex:=[]
 calm:=true
 fn:=λ_=>true
 pn:=[]
 xe:=λe i=>wpAny (model P w) (A.deeper<|envOfC b a ⇑s f d) (leaving (envOfC b a ⇑s f d) e) (λ_ c=>g outer H s E e c) (λh c=>g outer H s E h c) i
def Dl{sc:Scope}(h:sc.names.lookup x=some .cell):∃c,(cellsFrom n sc.names []).lookup x=some c:=by
 let q:=cellsFrom_some sc.names n []<|.inl h;show qY.mp q
def Hf{Q:Shared}(S:l9 N B d)(W:A.handled=none)(m:zP P w K O n A j s H)(hl:C.length=B.length)(r:Vals C R)(x:InCallC s ⇑s (bindL (envOfC l d ⇑s f J).kindOf (B.zip R) λ_=>none) (cellsFrom (⇑s+1) d.names []) (bindC (envOfC l d ⇑s f J).kindOf (B.zip R) λ_=>none) Q):
  Inv (zQ T P w K O n N l d f J A j s H E) [] (start N C) H Q:=by
 let X:B.length<=N.length:=by let:=dF List.length S.pre;rw[cE]at this;lk
 let[G,tk,0,L]:=x.done;let t:∀b:Addr,b∉(zQ T P w K O n N l d f J A j s H E).ex:=λb z=>absurd (show b∈([]:List Addr)from z) SX
 show#[#[m.mod,S.kind,0,0,aE _,λy z c G g=>?_,λy o=>?_,λy c _ h=>?_,λ_=>W,Around.frames_deeper m.frames,.inr #[0,0],λb z=>absurd z (t b),m.bs,m.Lb,λb _ _=>t b,λb z=>absurd z (t b),m.t8,m.M5],0,m.bare,Un.kept L,#[_,x.toInCall.ns,λi y v G g Z=>?_],λy c h=>#[_,x.cell y c h],m.hok.fresh<|aE _,λy c h=>?_,λp D=>absurd (show p∈([]:List (Addr×Obj))from D) SX,m.hok.kept L,?_]
 .show name_of_addr x.apart (cQ G)<|cQ g
 .let o:d.names.lookup y=some .cell\/d.names.lookup y=some .free:=o;let o||o:=o
  .show Dl o
  .show absurd rfl (S.NP _<|cQ o)
 .show iJ<|x.above y c<|cQ h
 .let I:i<C.length:=by
   unfold start at g;by_cases I:i<C.length
   .show I
   .rw[oM<|by simpa using I]at g
    rw[List.getElem?_replicate]at g;split at g<;>cases g
  let U:C[i]?=some v:=by
   unfold start at g;rw[jK<|by simpa using I,aZ]at g
   cases e:C[i]?with
   |none=>rw[e]at g;cases g
   |some a=>rw[e]at g;cases g;rfl
  let[u,M,Y]:=r.get U;let D:B[i]?=some y:=by
   rw[<-S.pre,List.getElem?_take_of_lt om];show G
  let F:B.Nodup:=by rw[<-S.pre];show S.nd.sublist<|List.take_sublist _ _
  show#[u,Y,?_];let k||k:=S.par y (aX D)
  .show .inl #[k,AU F D M k]
  .let[c,e]:=Dl (n:=⇑s+1) k;show .inr #[.inl k,c,e,?_];let q:=x.cell y c e;rw[AV F D M<|by change d.names.lookup y≠_;rw[k];decide]at q
   show q
 .show m.hok.fresh<|iJ<|x.above y c<|cQ h
 .unfold start;change _=N.length;rw[aW,ac,List.length_replicate];lk
def PN{kV ct:Value}(lk:K.lookup f=some #[oc,od,.func<|fnOf G d i body a dV kV M pm an g ct,osl])(O:codeIn K g d=true)(S:l9 N W a)(F:∀j H Q E,sp j H Q E->j.length=W.length)(p:∀(A:Around) (c:List Env) (s:Shared) (H:Hp) (j:List V) (Q:VK) (E:XK),eg k (A.deeper<|envOfC d a ⇑s f g)->sp j H Q E->
   ∃t,Dg (zQ L P w K U h N d a f g A c s H E) body t/\t {nx:=λ_ m=>Q .ic m,rt:=Q} (start N j) H):
  ka P w K U h L (k+1) f (fnOf G d i body a dV kV M pm an g ct) W sp:=by
 show#[F,λA c s H args us j Q E R C hb r D=>?_];let hl:=F _ _ _ _ D;let Z:K.In s.heap:=C.mod.Pa.keeps λb o e=>(C.bs b o e).1;let T:s.heap.NoLimit:=C.mod.nolimit.keeps λb o e=>(C.bs b o e).1;let z:∀y∈W.zip us,a.names.lookup y.1=some .local\/(a.names.lookup y.1=some .cell/\((cellsFrom (⇑s+1) a.names []).lookup y.1).isSome=true):=λ#[n,v] hy=>by
  let q||q:=S.par n (jq hy).1
  .show .inl q
  .show .inr #[q,cellsFrom_some _ _ _<|.inl q]
 show codeAny_call_function R.depth (Z _ _ lk) rfl S.co S.gen rfl (PySem.W.codeRec_of Z O)<|hb _ _ _ _ ?_;show wpAny_newFunctionEnv_cells S.kind z λenv he s1 x=>?_;subst he;show#[T.keeps x.toInCall.keep,codeAny_func ?_];let[t,ht,hq]:=p A c s H j Q E (R.deeper _) D;let I:Inv (zQ L P w K U h N d a f g A c s H E) [] (start N j) H s1:=Hf S R.hd C hl r x;show ew (ht [] s1 (start N j) H _ I hq) (λfl Y B=>?_) λe Y B=>B;let fin:∀{l:St} {m:Hp} {v:V} {u:Value},Inv (zQ L P w K U h N d a f g A c s H E) [] l m Y->RelV v u->Q v m->CE c P w H s Q u Y:=
  λ{l m v u} J X q=>#[v,m,J.os,J.bare,J.base,J.hok,X,q]
 cases fl with
 |ret u=>
  let[v,l,m,J,X,q]:=B;show fin J X q
 |next=>
  let[l,m,J,q]:=B;show fin (v:=V.ic) (u:=Value.none) J rfl q
 |brk=>
  obtain⟨_,_,_,q⟩:=B;show False.elim q
 |cont=>
  obtain⟨_,_,_,q⟩:=B;show False.elim q
section
variable{t:TA}{id:String}{r:List V->Hp->VK->Prop}
def Ry(r:List V->Hp->VK->Prop)(t:TA):TE:=λc H Q=>t c H λb a=>r b a Q
def bC(l:gJ X (.builtin id) r)(n:Gl X x)(o:X.mg x=none)(u:bootBuiltins x=some (.builtin id))(k:PA X (e::c) t)(q:x≠"__name__":=by decide)(d:(x==("__debug__":Str))=false:=by decide)(m:starEach (e::c) X.env=(false,eval e X.env)::starEach c X.env:=by rfl)(f:(backTo b<|starEach c X.env).any (·.1)=false:=by rfl):PE X (.Call (.Name x p) (e::c) [] b) (Ry r t):=by
 intro a s g H Q I h;show dU<|ja I n o u ?_ q d;show mT (dJ (k b a s g H _ I h) λz y #[A,i,j,w,v]=>l a y g i A z Q j w v) m f
def qb(l:gJ X (.type T) r)(n:Gl X x)(o:X.mg x=none)(u:bootBuiltins x=some (.type T))(k:PA X (e::c) t)(q:x≠"__name__":=by decide)(d:(x==("__debug__":Str))=false:=by decide)(m:starEach (e::c) X.env=(false,eval e X.env)::starEach c X.env:=by rfl)(f:(backTo b<|starEach c X.env).any (·.1)=false:=by rfl):PE X (.Call (.Name x p) (e::c) [] b) (Ry r t):=by
 intro a s g H Q I h;show dU<|ja I n o u ?_ q d;show cN (dJ (k b a s g H _ I h) λz y #[A,i,j,w,v]=>l a y g i A z Q j w v) m f
end
section
open PySem.SeqAt
open PySem.MeetsSeq PySem.MeetsSeq2 PySem.MeetsSeq3
end
section
variable{prog:Program}{w:World}{A:Around}{E:Value->Shared->Prop}{s:Shared}
def LJ(D:IsTup s.heap t d.toArray)(C:IsTup s.heap b c.toArray)(u:d≠[])(z:c=[]->Q (.ref t) s)(B:c≠[]->Q (.ref ⇑s) {s with heap:=s.heap.push {cls:=.type "tuple",data:=.seq (d++c).toArray}})(l:d.length+c.length<=sizeLine):wpAny (model prog w) A (binaryOp .Add (.ref t)<|.ref b) Q E s:=by
 let[[y,p,o,x],j,q,n,r]:=id D;let[[m,f,data2,i],a,g,v,h]:=id C;simp only at q r g h;subst q r g h;let e:d.toArray++c.toArray=(d++c).toArray:=by simp
 by_cases k:c=[]
 .show concat_meets #[_,j,0] #[_,a,0] noFill_tuple_add seq_tuple_add u4 tG (sg _ _)
   (tuple_addW1 t b d.toArray c.toArray n v p f x i (by simpa using u)<|by simp[k]) #[j,a,z k]
 .show concat_meets #[_,j,0] #[_,a,0] noFill_tuple_add seq_tuple_add u4 tG (sg _ _)
   (tuple_addW2 t b d.toArray c.toArray n v p f x i (by simpa using u) (by simpa using k)<|by rw[aQ,aQ];show l) #[j,a,?_]
  rw[e];show B k
def jJ(n d:Nat):Option Int->Nat
 |none=>d
 |some v=>if v<0 then(v+(n:Int)).toNat else min v.toNat n
def Dm(n d:Nat):jJ n d none=d:=rfl
def w8(n d k:Nat):jJ n d (some (k:Int))=min k n:=by
 change(if (k:Int)<0 then((k:Int)+(n:Int)).toNat else min (k:Int).toNat n)=min k n;rw[az om,iS]
def NQ(n d:Nat)(b:d<=n)(o:Option Int):jJ n d o<=n:=by
 cases o with
 |none=>show b
 |some v=>
  change(if v<0 then(v+(n:Int)).toNat else min v.toNat n)<=n;by_cases a:v<0
  .rw[aH a];lk
  .rw[az a];show Ha _ _
def F7(v:Int)(n d:Nat):(if v<0 then max (v+(n:Int)) 0 else min v (n:Int))=((jJ n d (some v):Nat):Int):=by
 change(if v<0 then max (v+(n:Int)) 0 else min v (n:Int))=(((if v<0 then(v+(n:Int)).toNat else min v.toNat n):Nat):Int);by_cases a:v<0
 .simp only[aH a];lk
 .simp only[az a];lk
def E2(lo a:Option Int)(n:Nat):Builtin.Slice.sliceAdjust lo a 1 (n:Int)=(((jJ n 0 lo:Nat):Int),((jJ n n a:Nat):Int)):=by
 let b:¬((1:Int)<0):=om;unfold Builtin.Slice.sliceAdjust;simp only[b,fI];show Prod.ext ?_ ?_
 .cases lo with
  |none=>rfl
  |some v=>show F7 v n 0
 .cases a with
  |none=>rfl
  |some v=>show F7 v n n
def E3(i j:Nat):Builtin.Slice.slicePlaces (i:Int) (j:Int) 1=j -i:=by
 unfold Builtin.Slice.slicePlaces;let a:(1:Int)>0:=om;simp only[a,QQ,Int.ediv_one];split<;>lk
def xU(p:IsPart v o)(h:Q o s):wpAny (model prog w) A (Builtin.Slice.slicePartIndex v) Q E s:=by
 cases p with
 |none=>show slicePart_none h
 |int i t=>show slicePart_int h
def ua{f:Addr}{d e:Value}{lo b:Option Int}{n:Nat}{Q:Int×Int×Nat->Shared->Prop}(i:s.heap.IsSliceOf f d e .none)(pl:IsPart d lo)(j:IsPart e b)
  (h:Q (((jJ n 0 lo:Nat):Int),1,jJ n n b -jJ n 0 lo) s):wpAny (model prog w) A (Builtin.Slice.sliceApplied (.ref f)<|pure (n:Int)) Q E s:=by
 let[os,c,g,a]:=id i;unfold Builtin.Slice.sliceApplied Builtin.Slice.sliceFields;show ai<|ai<|fx c a (x:=d) rfl<|ai<|fx c a (x:=e) rfl<|ai<|fx c a (x:=.none) rfl<|aj ?_;show ai<|slicePart_none ?_;change wpAny _ _ (if ((1:Int)==0)=true then _ else _) _ _ s;rw[az de];show ai<|xU pl<|ai<|xU j<|ai<|aj ?_;change wpAny _ _ (match Builtin.Slice.sliceAdjust lo b 1 (n:Int)with|(lo,b)=>pure (lo,(1:Int),Builtin.Slice.slicePlaces lo b 1)) _ _ s
 rw[E2 lo b n];change wpAny _ _ (pure (((jJ n 0 lo:Nat):Int),(1:Int),Builtin.Slice.slicePlaces ((jJ n 0 lo:Nat):Int) ((jJ n n b:Nat):Int) 1)) _ _ s;rw[E3];show aj h
def Jl(a:Array Value)(i k:Nat):((List.range k).filterMap λ(m:Nat)=>a[((i:Int)+(m:Int)*1).toNat]?).toArray=((a.toList.drop i).take k).toArray:=by
 let e:(λ(m:Nat)=>a[((i:Int)+(m:Int)*1).toNat]?)=λm=>a[i+m]?:=by
  funext m;let:((i:Int)+(m:Int)*1).toNat=i+m:=om;rw[this]
 rw[e];let:=pick_run a i k;rw[List.filterMap_map]at this;let b:((λx=>a[x]?)∘λx=>i+x)=λm=>a[i+m]?:=rfl;rw[b]at this;rw[this]
def sw{lo:Option Int}(d:IsTup s.heap t a)(j:s.heap.IsSliceOf k p r .none)(pl:IsPart p lo)(o:IsPart r c)(n:¬(jJ a.size 0 lo=0/\jJ a.size a.size c=a.size))(h:Q (.ref ⇑s) {s with heap:=s.heap.push {cls:=.type "tuple",data:=.seq ((a.toList.drop<|jJ a.size 0 lo).take<|jJ a.size a.size c -jJ a.size 0 lo).toArray}})(m:a.size<=sizeLine):wpAny (model prog w) A (getItem (.ref t)<|.ref k) Q E s:=by
 let b:sizeOk (.seq ((a.toList.drop<|jJ a.size 0 lo).take<|jJ a.size a.size c -jJ a.size 0 lo).toArray):=by
  change((a.toList.drop<|jJ a.size 0 lo).take<|jJ a.size a.size c -jJ a.size 0 lo).toArray.size<=sizeLine;rw[aQ,cE,fk,aO];lk
 let u:jJ a.size a.size c<=a.size:=NQ _ _ (aE _) c;let[os,i,f,l]:=id j;let e:s.TypeIs (.ref k) "slice":=#[os,i,f];unfold getItem
 try with_reducible show dR ?_
 first|show ai (aj ?_)|skip
 show ai<|wpAny_sequenceKey d.typeIs de ?_;show ai (eo (name:=Str.ofString "__getitem__") d.typeIs mR
  (eh mR d.typeIs entry_tuple_getitem ?_<|args_tuple_getitem _ _))
 change wpAny _ _ (Builtin.Tuple.tupleItemsOf (.ref t)>>=_) _ _ s;show ai<|tupleItemsOf_ d ?_;show ai<|CV e ?_;rw[aH de];show ai<|ua j pl o ?_;let g:¬((((jJ a.size 0 lo:Nat):Int)==0&&(1:Int)==1&&(jJ a.size a.size c -jJ a.size 0 lo)==a.size)=true):=by
  intro q;rw[be,be]at q;let v:((jJ a.size 0 lo:Nat):Int)=0:=eq_of_beq q.1.1;let x:jJ a.size a.size c -jJ a.size 0 lo=a.size:=eq_of_beq q.2;show n #[om,om]
 change wpAny _ _ (if (((jJ a.size 0 lo:Nat):Int)==0&&(1:Int)==1&&(jJ a.size a.size c -jJ a.size 0 lo)==a.size)=true then _ else _) _ _ s;rw[az g,Jl]
 first
  |show ai (m:=Builtin.Tuple.tupleExact _)<|eB (aj #[1,aj h]) b
  |show ai (m:=Builtin.Tuple.tupleExact _)<|eB (ai<|aj<|aj #[1,aj h]) b
  |show ai<|ai (m:=Builtin.Tuple.tupleExact _)<|eB (aj<|aj #[1,aj h]) b
  |show ai<|ai (m:=Builtin.Tuple.tupleExact _)<|eB (aj #[1,aj h]) b
end
abbrev TO:=St->Hp->(Option Int->Hp->Prop)->Prop
def PO(X:Cx)(e:Option Expr)(t:TO):Prop:=
 ∀(a:List (Addr×Obj)) (s:Shared) (b:St) (H:Hp) (Q:Option Int->Hp->Prop),Inv X a b H s->t b H Q->
  wpAny (model X.prog X.w) X.A (evalPart e X.env) (λu d=>∃o c,Inv X a b c d/\IsPart u o/\Q o c) X.xe s
def LK:TO:=λ_ H Q=>Q none H
def PP(t:TE):TO:=λb H Q=>t b H λx a=>∃i,x=.int i/\Q (some i) a
section
variable{X:Cx}{te:TE}{lo hi:Option Expr}{tl th:TO}
def iC:PO X none LK:=by
 intro a s b H Q I h;rw[evalPart_none];show aj #[none,H,I,.none,h]
def fT(h:PE X e te):PO X (some e) (PP te):=by
 intro a s j H Q I d;rw[evalPart_some];show dJ (h a s j H _ I d) λu k #[x,b,c,g,f]=>?_;let[i,0,q]:=f;let[t,0]:=g;show#[some i,b,c,.int i t,q]
def Rz(X:Cx)(r:V->Option Int->Option Int->Hp->VK->Prop):Prop:=
 ∀(a:List (Addr×Obj)) (s:Shared) (e:St) (H:Hp) (x:V) (v c d:Value) (lo hi:Option Int) (b:Addr) (Q:VK),Inv X a e H s->RelV x v->s.heap.IsSliceOf b c d .none->IsPart c lo->IsPart d hi->r x lo hi H Q->
  ∃T id,typeLookup (.type T) "__getitem__"=pure (some<|.builtin id)/\s.TypeIs v T/\wpAny (model X.prog X.w) X.A (getItem v<|.ref b) (EP X a e Q) X.xe s
def RA(r:V->Option Int->Option Int->Hp->VK->Prop)(te:TE)(tl th:TO):TE:=λa H Q=>te a H λx b=>tl a b λl c=>th a c λu d=>r x l u d Q
def Do(A:Rz X r)(w:PE X e te)(z:PO X lo tl)(C:PO X hi th):PE X (.Subscript e (.Slice lo hi none D) E) (RA r te tl th):=by
 intro a s d H Q I h;show Subscript_ (dJ (w a s d H _ I h) λv M #[x,j,m,L,G]=>?_);show wpAny_Slice (dJ (z a M d j _ m G) λf N #[l,k,n,pl,J]=>dJ (C a N d k _ n J) λg c #[u,i,o,F,K]=>?_);rw[evalPart_none];show aj ?_;let p:Inv X a d i {c with heap:=c.heap.push {cls:=.type "slice",data:=.fields [f,g,.none].toArray}}:=o.kept (t':=c.toks) λb O q=>br _ q;let[T,id,t,B,y]:=A a {c with heap:=c.heap.push {cls:=.type "slice",data:=.fields [f,g,.none].toArray}} d i x v f g l u ⇑c Q p L (Heap.IsSliceOf.new ..) pl F K;change wpAny (model X.prog X.w) X.A (subscriptTail e (.Slice lo hi none D) v<|.ref ⇑c) (EP X a d Q) X.xe {c with heap:=c.heap.push {cls:=.type "slice",data:=.fields [f,g,.none].toArray}};show tail_any (ops:=[.ref ⇑c,v]) B t y<|by with_unfolding_all rfl
def jb(a:List V)(lo hi:Option Int):List V:=(a.drop<|jJ a.length 0 lo).take<|jJ a.length a.length hi -jJ a.length 0 lo
def vh(a:List V)(lo hi:Option Int):(jb a lo hi).length<=a.length:=by
 unfold jb;rw[cE,fk];lk
def PQ(K:Frag):V->Option Int->Option Int->Hp->VK->Prop:=λx lo hi H Q=>∃a b,x=.ref a/\gT K H a b/\
 ¬(jJ b.length 0 lo=0/\jJ b.length b.length hi=b.length)/\∀p,H p=none->Q (.ref p) (upd H p<|.tup<|jb b lo hi)
def NR:Rz X (PQ X.K):=by
 intro i s w H x v t u lo hi p Q I n j pl m h;let[a,d,0,l,k,q]:=h;cases n
 let[e,r,f,g]:=I.tuple l;let c:e.toArray.size=d.length:=by rw[aQ];show r.length.symm
 show#["tuple",_,PyProof.Rows.slot_tuple_getitem.lookup,f.typeIs,?_];show sw f j pl m (by rw[c];show k) ?_<|by rw[c];show g
 rw[c];show#[.ref ⇑s,_,I.laid (t':=s.toks) (o:=.tup<|jb d lo hi) (λb o q=>br _ q) (aE _) ?_,0,q _<|I.hok.fresh<|aE _];show#[aL (vh d lo hi) g,_,(r.drop<|jJ d.length 0 lo).take<|jJ d.length d.length hi -jJ d.length 0 lo,IsTup.new _ _]
def Na(K:Frag):R2:=λx y H Q=>∃a b d c,x=.ref a/\y=.ref b/\gT K H a d/\gT K H b c/\d≠[]/\d.length+c.length<=sizeLine/\
 (c=[]->Q (.ref a) H)/\(c≠[]->∀p,H p=none->Q (.ref p) (upd H p<|.tup<|d++c))
def Vals.BG(r:Vals b a):a=[]↔b=[]:=by
 cases r with
 |nil=>simp
 |cons _ _=>simp
def LL:p_ X (binaryOp .Add) (Na X.K):=by
 intro g s D H x y v u Q I r t h;let[a,b,A,B,0,0,i,j,k,e,o,p]:=h;cases r
 cases t
 let[l,d,m,_]:=I.tuple i;let[f,c,n,_]:=I.tuple j;show LJ m n (λz=>k<|d.BG.mp z) (λz=>#[.ref a,H,I,0,o<|c.BG.mp z]) (λz=>?_)<|by rw[<-d.length,<-c.length];show e
 show#[.ref ⇑s,_,I.laid (t':=s.toks) (o:=.tup<|A++B) (λb C q=>br _ q) (aE _) ?_,0,p (λw=>z<|c.BG.mpr w) _<|I.hok.fresh<|aE _];show#[by rw[aW];show e,_,d.append c,IsTup.new _ _]
end
def LM(n:Nat)(i:Int):Option Nat:=if 0<=i then(if i<n then some i.toNat else none)else if -(n:Int)<=i then some (i+n).toNat else none
def AW{b:Type}(a:List b)(i:Int):Option b:=(LM a.length i).bind λj=>a[j]?
def LN(h:LM n i=some j):seqIndex? i n=some j/\j<n/\ -(n:Int)<=i/\i<n:=by
 unfold LM at h;by_cases b:0<=i
 .rw[aH b]at h;by_cases a:i<n
  .rw[aH a]at h;let e:i.toNat=j:=bj h;show#[by rw[seqIndex_of b a,e],om,om,a]
  .rw[az a]at h;cases h
 .rw[az b]at h;by_cases a: -(n:Int)<=i
  .rw[aH a]at h;let e:(i+n).toNat=j:=bj h;show#[by rw[seqIndex_neg om a,e],om,a,om]
  .rw[az a]at h;cases h
def F8(h:AW a i=some v):∃j,seqIndex? i a.length=some j/\a[j]?=some v/\j<a.length/\ -(a.length:Int)<=i/\i<a.length:=by
 unfold AW at h;cases e:LM a.length i with
 |none=>rw[e]at h;cases h
 |some j=>
  rw[e]at h;let[b,c,d,f]:=LN e;show#[j,b,h,c,d,f]
def bH{b:Type}{a:List b}{j:Nat}{v:b}(h:a[j]?=some v):AW a (j:Int)=some v:=by
 let c:j<a.length:=(aJ.mp h).1;let e:LM a.length (j:Int)=some j:=by
  unfold LM;rw[aH om,aH om];simp
 unfold AW;rw[e];show h
def xV(a:List c)(v:c):AW (a++[v]) (-1)=some v:=by
 let b:(a++[v]).length=a.length+1:=by simp
 let e:LM (a++[v]).length (-1)=some a.length:=by
  unfold LM;rw[b,az de,aH om];congr 1;lk
 unfold AW;rw[e];change(a++[v])[a.length]?=some v;simp
def BH(b:Expr):Prop:=∀o i,subscripted b false o i=operate [o,i] (getItem o i)
def RB(X:Cx)(r:R2):Prop:=
 ∀(c a:Expr) (b:List (Addr×Obj)) (s:Shared) (d:St) (H:Hp) (x y:V) (v u:Value) (Q:VK),Inv X b d H s->RelV x v->RelV y u->r x y H Q->
  subscripted a false v u=operate [v,u] (getItem v u)->wpAny (model X.prog X.w) X.A (subscriptTail c a v u) (EP X b d Q) X.xe s
def QY(X:Cx)(id:String)(r:V->List V->Hp->VK->Prop):Prop:=
 ∀(a:List (Addr×Obj)) (s:Shared) (d:St) (H:Hp) (x:V) (c:List V) (v:Value) (b:List Value) (Q:VK),Inv X a d H s->RelV x v->Vals c b->r x c H Q->
  wpAny (model X.prog X.w) X.A (call (.builtin id)<|v::b) (EP X a d Q) X.xe s
section
variable{X:Cx}{a b:Expr}{ta tb:TE}{pos:Pos}
def Jm{r:R2}(i:RB X r)(f:PE X a ta)(g:PE X b tb)(j:BH b):PE X (.Subscript a b pos) (ER r ta tb):=by
 intro c s n H Q I h;show Subscript_ (NI f g I h λv u m x y d e k l q=>i a b c m n d x y v u Q e k l q<|j _ _)
def LO(K:Frag):R2:=λx y H Q=>∃p c i v,x=.ref p/\y=.int i/\cc K H p c/\AW c i=some v/\Q v H
def PR(K:Frag):R2:=λx y H Q=>∃p c i v,x=.ref p/\y=.int i/\gT K H p c/\AW c i=some v/\Q v H
def LP:RB X (LO X.K):=by
 intro l k c s A H x y v u Q I J K h o;let[p,P,i,z,0,0,G,E,q]:=h;cases J
 let[t,0]:=K;let[f,r,pl,O]:=I.list G;let[j,d,B,M,C,D]:=F8 E;let[w,m,g]:=r.get B;let F:=r.length;let N:=EV;let fin:EP X c A Q w s:=#[z,H,I,g,q];by_cases n:0<=i
 .let e:i.toNat=j:=by
   rw[seqIndex_of n D]at d;show bj d
  show item_listR pl.isList n om (by rw[e];simpa using m) fin o
 .let e:(i+(f.toArray.size:Int)).toNat=j:=by
   rw[seqIndex_neg om C]at d;rw[aQ,<-F];show bj d
  show subscriptTail_builtinR (x:=w) pl.isList.typeIs slot_list_getitem.lookup
   (wpAny_getItem_list_neg (Q:=λr L=>r=w/\EP X c A Q r L) pl.isList om (by rw[aQ]<;>lk) om (by rw[e];simpa using m) #[0,fin]) o
def Jo:RB X (PR X.K):=by
 intro f e c s g H x y v u Q I D E h B;let[p,N,i,z,0,0,A,n,q]:=h;cases D
 let[t,0]:=E;let[C,r,pl,M]:=I.tuple A;let[j,l,m,G,J,K]:=F8 n;let[w,k,d]:=r.get m;let o:=r.length;let L:=EV;let fin:EP X c g Q w s:=#[z,H,I,d,q];show subscriptTail_builtinR (x:=w) pl.typeIs slot_tuple_getitem.lookup
  (getItem_tuple (j:=j) (Q:=λr F=>r=w/\EP X c g Q r F) pl om om (by rw[aQ,<-o];show l) (by simpa using k) #[0,fin]) B
def BI(lo c:Option Int)(n:Nat):(sliceBounds lo c none n).1=((jJ n 0 lo:Nat):Int)/\(sliceBounds lo c none n).2.1=((jJ n n c:Nat):Int)/\(sliceBounds lo c none n).2.2=1:=by
 show#[?_,?_,0]
 .cases lo with
  |none=>simp[sliceBounds,jJ]
  |some i=>
   simp only[sliceBounds,jJ,Option.getD_none,show(1:Int)>0 by decide,QQ]
   by_cases h:i<0
   .simp only[h,QQ]<;>lk
   .simp only[h,fI]<;>lk
 .cases c with
  |none=>simp[sliceBounds,jJ]
  |some i=>
   simp only[sliceBounds,jJ,Option.getD_none,show(1:Int)>0 by decide,QQ]
   by_cases h:i<0
   .simp only[h,QQ]<;>lk
   .simp only[h,fI]<;>lk
def zR(c:List Value)(lo d:Option Int):slicePick c.toArray lo d none=((c.drop<|jJ c.length 0 lo).take<|jJ c.length c.length d -jJ c.length 0 lo).toArray:=by
 let[e,f,g]:=BI lo d c.toArray.size;unfold slicePick;rw[e,f,g];simp only[sliceRange_one,pick_run,aQ]<;>rfl
def PU(K:Frag):V->Option Int->Option Int->Hp->VK->Prop:=λx lo d H Q=>∃a c,x=.ref a/\cc K H a c/\∀p,H p=none->Q (.ref p) (upd H p<|.lst<|jb c lo d)
def LQ:Rz X (PU X.K):=by
 intro g s w H x v t u lo e p Q I n i pl m h;let[a,c,0,j,q]:=h;cases n
 let[l,r,f,k]:=I.list j;let d:=r.length;show#["list",_,slot_list_getitem.lookup,f.isList.typeIs,?_];show wpAny_getItem_list_slice f.isList i pl m .none SX ?_<|by rw[aQ]<;>lk
 rw[zR,<-d];show#[.ref ⇑s,_,I.laid (t':=s.toks) (o:=.lst<|jb c lo e) (λb o q=>br _ q) (aE _) ?_,0,q _<|I.hok.fresh<|aE _];show#[aL (vh c lo e) k,_,(0),(r.drop<|jJ c.length 0 lo).take<|jJ c.length c.length e -jJ c.length 0 lo,bx _ rfl]
def ph:V->Bool
 |.ic=>true
 |.bl _=>true
 |.int _=>true
 |.str _=>true
 |_=>false
def Lc:V->V->Bool
 |.ic,.ic=>true
 |.bl a,.bl b=>a==b
 |.bl a,.int b=>(if a then 1 else 0)==b
 |.int a,.bl b=>a==(if b then 1 else 0)
 |.int a,.int b=>a==b
 |.str a,.str b=>a==b
 |_,_=>false
def NS(f:RelV y u)(c:RelV x v)(g:ph y=true)(e:ph x=true):SeqAt.EqAt A s u v (Lc y x):=by
 cases y with
 |ic=>
  cases f
  cases x with
  |ic=>cases c;show SeqAt.EqAt.same _
  |bl b=>cases c;show SeqAt.EqAt.none_bool b
  |int b=>let[t,0]:=c;show SeqAt.EqAt.none_int b t
  |str b=>obtain⟨t,rfl⟩:=c;show SeqAt.EqAt.none_str b t
  |_=>show absurd (show false=true from e) aR
 |bl a=>
  cases f
  cases x with
  |ic=>cases c;show SeqAt.EqAt.bool_none a
  |bl b=>cases c;show SeqAt.EqAt.bool_bool a b
  |int b=>let[t,0]:=c;show SeqAt.EqAt.bool_int a b t
  |str b=>obtain⟨t,rfl⟩:=c;show SeqAt.EqAt.bool_str a b t
  |_=>show absurd (show false=true from e) aR
 |int a=>
  obtain⟨d,rfl⟩:=f;cases x with
  |ic=>cases c;show SeqAt.EqAt.int_none a d
  |bl b=>cases c;show SeqAt.EqAt.int_bool a d b
  |int b=>let[t,0]:=c;show SeqAt.EqAt.int_int a d b t
  |str b=>obtain⟨t,rfl⟩:=c;show SeqAt.EqAt.int_str a d b t
  |_=>show absurd (show false=true from e) aR
 |str a=>
  obtain⟨d,rfl⟩:=f;cases x with
  |ic=>cases c;show SeqAt.EqAt.str_none a d
  |bl b=>cases c;show SeqAt.EqAt.str_bool a d b
  |int b=>let[t,0]:=c;show SeqAt.EqAt.str_int a d b t
  |str b=>obtain⟨t,rfl⟩:=c;show SeqAt.EqAt.str_str a d b t
  |_=>show absurd (show false=true from e) aR
 |_=>show absurd (show false=true from g) aR
def Jp(x:V)(u:Value):Bool:=match u with
 |.none=>Lc .ic x
 |.bool b=>Lc (.bl b) x
 |.int i _=>Lc (.int i) x
 |.str z _=>Lc (.str z) x
 |_=>false
def E4(r:RelV y u)(f:ph y=true):Jp x u=Lc y x:=by
 cases y with
 |ic=>cases r;rfl
 |bl b=>cases r;rfl
 |int i=>let[t,0]:=r;rfl
 |str z=>obtain⟨t,rfl⟩:=r;rfl
 |_=>show absurd (show false=true from f) aR
def BJ:∀{c:List V} {d:List Value},Vals c d->c.all ph=true->d.any (Jp x)=c.any λy=>Lc y x
 |_,_,.nil,_=>rfl
 |y::c,u::d,.cons r t,f=>by
  rw[iM,be]at f;rw[jH,jH,E4 r f.1,BJ t f.2]
def sy(h:RelV x v)(g:ph x=true):∀{e:List V} {d:List Value},Vals e d->e.all ph=true->∀u∈d,SeqAt.EqAt A s u v<|Jp x u
 |_,_,.nil,_=>λu c=>by cases c
 |y::e,u::d,.cons r t,f=>λi c=>by
  rw[iM,be]at f;let 0||c:=aB.mp c
  .rw[E4 r f.1];show NS r h f.1 g
  .show sy h g t f.2 i c
def NT(x:V)(c:List V):Bool:=c.any λy=>Lc y x
def Sa(K:Frag)(neg:Bool):R2:=λx y H Q=>∃p c,y=.ref p/\(cc K H p c\/gT K H p c)/\ph x=true/\c.all ph=true/\Q (.bl (if neg then !NT x c else NT x c)) H
def Hg:p_ X (compareOp .In) (Sa X.K false):=by
 intro i s n H x y v u Q I j l h;let[p,m,0,d,g,e,q]:=h;cases l
 let d||d:=d
 .let[c,r,pl,k]:=I.list d;show SeqAt.in_listAt (Jp x) pl.isList (λw f=>sy j g r e w<|by simpa using f) #[.bl _,H,I,0,?_]
  rw[show c.toArray.any (Jp x)=c.any (Jp x) by simp,BJ r e]
  show q
 .let[c,r,pl,k]:=I.tuple d;show SeqAt.in_tupleAt (Jp x) pl (λw f=>sy j g r e w<|by simpa using f) #[.bl _,H,I,0,?_]
  rw[show c.toArray.any (Jp x)=c.any (Jp x) by simp,BJ r e]
  show q
def BK:gJ X (.builtin "len") (λj H Q=>∃p d,j=[.ref p]/\(cc X.K H p d\/gT X.K H p d)/\Q (.int d.length) H):=by
 intro i s o H j n Q I r h;let[p,d,0,e,q]:=h;let[u,0,l]:=vals1 r;cases l
 let m:=EV;let e||e:=e
 .let[f,g,pl,k]:=I.list e;let c:=g.length;show Calls.call_len_list pl.isList (by simp only[aQ]<;>lk) #[.int d.length,H,I.tok _,#[s.toks+1,by rw[aQ,c]],q]
 .let[f,g,pl,k]:=I.tuple e;let c:=g.length;show len_tuple pl (by simp only[aQ]<;>lk) #[.int d.length,H,I.tok _,#[s.toks+1,by rw[aQ,c]],q]
def BL:gJ X (.type "list") (λA H Q=>∃p i,A=[.ref p]/\(cc X.K H p i\/gT X.K H p i)/\∀l,H l=none->Q (.ref l) (upd H l<|.lst i)):=by
 intro v s C H A D Q I r h;let[p,i,0,k,q]:=h;let[u,0,B]:=vals1 r;cases B
 have fin:∀(c:List Value),Vals i c->i.length<=sizeLine->∀(d:Heap) (f:Nat),(∀b z,s.heap.get? b=some z->d.get? b=some z)->
   d.get? ⇑s=some {cls:=.type "list",dict:=none,data:=.seq c.toArray f,slots:=#[]}->EP X v C Q (.ref ⇑s) {s with heap:=d}:=λc g m d f t e=>
  #[.ref ⇑s,_,I.laid (t':=s.toks) t (aE _) (show fD X.prog X.w _ d _ (.lst i)from#[m,c,f,g,e]),0,q _<|I.hok.fresh<|aE _]
 let k||k:=k
 .let[c,g,pl,m]:=I.list k;let j:=g.length;let[o,y,w,n,x]:=pl.isList;show call_list_seq p (.inl rfl) y w x (λd f t e=>fin c g m d f t e)<|by simp only[aQ]<;>lk
 .let[c,g,pl,m]:=I.tuple k;let j:=g.length;let[o,y,w,n,x]:=pl;show call_list_seq p (.inr rfl) y w x (λd f t e=>fin c g m d f t e)<|by simp only[aQ]<;>lk
def RC(K:Frag)(T:String)(x:V)(H:Hp):Prop:=match x with
 |.str _=>T="str"
 |.int _=>T="int"
 |.ref p=>(T="list"/\∃d,cc K H p d)\/(T="tuple"/\∃o,K.lookup p=some o/\o.cls=.type "tuple"/\o.dict=none)\/
   (T="dict"/\((∃c,H p=some (.dK c))\/∃c,H p=some (.dT c)))\/(T="set"/\∃S n,H p=some (.set S n))
 |_=>False
def Jq(I:Inv X l y H s)(r:RelV x v)(ty:RC X.K T x H):
  s.TypeIs v T/\∀a,v=.ref a->∃k,s.heap.get? a=some k/\k.dict=none:=by
 cases x with
 |str z=>
  let[t,0]:=r;cases (show T="str" from ty)
  show#[typeIs_str s z t,λ_ e=>nomatch e]
 |int i=>
  let[t,0]:=r;cases (show T="int" from ty)
  show#[typeIs_int s i t,λ_ e=>nomatch e]
 |ref p=>
  cases r
  let[0,w,q]||[0,o,d,m,h]||[0,d]||[0,S,n,d]:=ty
  .let[u,_,pl,_]:=I.list q;show#[pl.isList.typeIs,λa e=>?_];cases e
   let[o,n,e,c,h,_]:=pl;show#[o,e,h]
  .show#[#[o,I.Bz p o d,m],λa e=>?_];cases e
   show#[o,I.Bz _ o d,h]
  .let z:∃o,s.heap.get? p=some o/\o.ExactDict:=by
    let[j,d]||[j,d]:=d
    .let[_,_,_,_,o,_,_,e,f,_]:=I.hok p _ d;show#[o,e,f]
    .let[_,_,_,_,o,_,_,e,f,_]:=I.hok p _ d;show#[o,e,f]
   let[o,e,f]:=z;show#[#[o,e,f.1],λa g=>?_];cases g
   show#[o,e,f.2.1]
  .let[o,_,_,_,e,f,_]:=I.hok p _ d;show#[#[o,e,f.1],λa g=>?_];cases g
   show#[o,e,f.2.1]
 |_=>show False.elim ty
def PV(K:Frag)(T:String)(r:V->List V->Hp->VK->Prop)(d:TE):TE:=λe H Q=>d e H λx c=>RC K T x c/\r x [] c Q
def Pb(K:Frag)(T:String)(r:V->List V->Hp->VK->Prop)(f:TE)(t:TA):TE:=λd H Q=>f d H λx c=>RC K T x c/\t d c λg e=>r x g e Q
variable{id:String}
def NU(y:PlainAttrs T)(i:Slot T c id)(j:typeOf (.builtin id)=pure (.type "method_descriptor"))(u:QY X id r)(w:PE X o B)(e:attributeBase o c X.env (eval o X.env)=eval o X.env:=by rfl)(f:(g.endLine==p.line)=true:=by rfl):PE X (.Call (.Attribute o c g) [] [] p) (PV X.K T r B):=by
 intro d s m H Q I h;show wpAny_Call_method0_late e f (dJ (w d s m H _ I h) λv A #[x,n,k,l,ty,z]=>?_);let[q,t]:=Jq k l ty;show#[T,id,y,i,j,q,t,eL rfl<|SS<|u d A m n x [] v [] Q k l .nil z]
def Dq(K:PlainAttrs T)(n:Slot T f id)(p:typeOf (.builtin id)=pure (.type "method_descriptor"))(F:QY X id r)(G:PE X o R)(E:PA X (e::g) t)(i:attributeBase o f X.env (eval o X.env)=eval o X.env:=by rfl)(m:((backTo k<|starEach (e::g) X.env).all (λx=>!x.1)&&(backToKw k<|keywordEach [] X.env).all (λx=>x.1.isSome)
   &&decide ((e::g).length+([]:List Keyword).length+(if ([]:List Keyword).isEmpty then 0 else 1)<30))=true:=by rfl)(j:(l.endLine==k.line)=true:=by rfl)(J:starEach (e::g) X.env=(false,eval e X.env)::starEach g X.env:=by rfl)(d:(backTo k<|starEach g X.env).any (·.1)=false:=by rfl):
  PE X (.Call (.Attribute o f l) (e::g) [] k) (Pb X.K T r R t):=by
 intro c s q H Q I h;show wpAny_Call_method_late i m j rfl (dJ (G c s q H _ I h) λv O #[x,z,u,y,ty,L]=>?_);let[C,D]:=Jq u y ty;show#[T,id,K,n,p,C,D,?_];let w:=E k c O q z _ u L;rw[J]at w|-;show eL (by change(false||(backTo k<|starEach g X.env).any (·.1))=false;rw[d]<;>rfl)<|fV ?_
 show dJ w λS P #[U,A,B,N,M]=>F c P q A x U v S Q B y N M
end
def QZ(X:Cx)(id:String)(r:V->List V->Hp->VK->Prop):Prop:=
 ∀(a:List (Addr×Obj)) (s:Shared) (d:St) (H:Hp) (x:V) (c:List V) (v:Value) (b:List Value) (Q:VK),Inv X a d H s->RelV x v->Vals c b->r x c H Q->
  wpAny (model X.prog X.w) X.A (call (.builtin id)<|v::b) (EP X a d Q) X.xe s
def Vals.one:∀{x:V} {a:List Value},Vals [x] a->∃u,a=[u]/\RelV x u
 |_,_,.cons r .nil=>#[1,r]
def Vals.zero:∀{a:List Value},Vals [] a->a=[]
 |_,.nil=>rfl
def Vals.dropLast(h:Vals c b):Vals c.dropLast b.dropLast:=by
 induction h with
 |nil=>show .nil
 |cons r t a=>
  cases t with
  |nil=>show .nil
  |cons q d=>show .cons r a
def E5(l:List g):l.eraseIdx (l.length -1)=l.dropLast:=by
 induction l with
 |nil=>rfl
 |cons a r c=>
  cases r with
  |nil=>rfl
  |cons b r=>
   let e:(a::b::r).length -1=((b::r).length -1)+1:=by
    let d:(a::b::r).length=r.length+2:=rfl;let f:(b::r).length=r.length+1:=rfl;lk
   rw[e,MY,c]
   all_goals rfl
section
variable{X:Cx}{pins:List (Addr×Obj)}{σ:St}{H:Hp}{s:Shared}{l:Addr}{xs ys:List V}
def Inv.LR{a its':List Value}{n:Nat}{f:Array Value->Array Value}{j:Nat}(I:Inv X pins σ H s)(b:H l=some (.lst xs))
  (e:s.heap.get? l=some {cls:=.type "list",data:=.seq a.toArray n}) (d:f a.toArray=its'.toArray) (h:Vals ys its') (i:ys.length<=sizeLine):
  Inv X pins σ (upd H l<|.lst ys) {s with heap:=s.heap.update l<|Obj.mapSeq f,toks:=j}:=by
 let q:=PySem.IsL.update e f;rw[d]at q;show I.write (x:=l) (e:=l) (by rw[b];show trivial) (.inl rfl) (λk u c g=>(eJ s.heap (Obj.mapSeq f)<|bJ c).trans g) #[_,q] ?_
 show#[i,its',_,h,q]
def Inv.RD(I:Inv X pins σ H s)(b:Vals ys a)(c:ys.length<=sizeLine):
  Inv X pins σ (upd H ⇑s<|.lst ys) {s with heap:=s.heap.push {cls:=.type "list",data:=.seq a.toArray},toks:=t'}:=
 I.laid (λ_ _ q=>br _ q) (aE _) #[c,a,(0),b,bx _ rfl]
def Inv.fresh(I:Inv X pins σ H s):H ⇑s=none:=I.hok.fresh<|aE _
def Inv.E6(I:Inv X pins σ H s)(b:H l=some (.lst xs)):xs.length<=sizeLine/\∃(a:List Value) (n:Nat),Vals xs a/\xs.length=a.length/\s.heap.get? l=some {cls:=.type "list",data:=.seq a.toArray n}:=by
 let[z,a,n,r,e]:=I.hok l _ b;show#[z,a,n,r,r.length,e]
def Dr(h:n<=sizeLine):Builtin.List.listTooLong n=false:=by
 unfold Builtin.List.listTooLong;show bE om
end
section
variable{X:Cx}
def F9:V->List V->Hp->VK->Prop:=λx b H Q=>∃l a y,x=.ref l/\b=[y]/\H l=some (.lst a)/\a.length<sizeLine/\Q .ic (upd H l<|.lst<|a++[y])
def Hh:QZ X "list.append" F9:=by
 intro c s p H x m v k Q I g f h;let[l,o,y,0,0,b,j,q]:=h;cases g
 let[u,0,d]:=f.one;let[z,a,n,r,i,e]:=I.E6 b;show kR F.slot_list_append #[_,e,0] F.entry_list_append (F.args_list_append_2 _ _) (PySem.list_append l a.toArray n u<|by rw[aQ];lk) #[e,?_]
 show#[.ic,_,I.LR (its':=a++[u]) b e SX (r.append<|.cons d .nil) ?_,0,q]
 rw[aW,fH];lk
def F_:V->List V->Hp->VK->Prop:=λx c H Q=>∃l b a zs,x=.ref l/\c=[.ref b]/\H l=some (.lst a)/\H b=some (.lst zs)/\a.length+zs.length<=sizeLine/\Q .ic (upd H l<|.lst<|a++zs)
def AX:QZ X "list.extend" F_:=by
 intro i s J H x D v C Q I y w h;let[l,b,E,zs,0,0,g,k,B,q]:=h;cases y
 let[u,0,t]:=w.one;cases t
 let[z,c,n,r,A,e]:=I.E6 g;let[G,a,o,p,m,j]:=I.E6 k;let f:c.toArray.size+a.toArray.size<=sizeLine:=by rw[aQ,aQ];lk
 let d:¬(!c.toArray.isEmpty&&Builtin.List.listTooLong (c.toArray.size+a.toArray.size))=true:=by
  rw[Dr f,kb];show aR
 show kR F.slot_list_extend #[_,e,0] F.entry_list_extend (F.args_list_extend_2 _ _)
  (AutoSeq1.list_extend_list_list_0 l c.toArray n b a.toArray o d (by rw[aQ];lk) om) #[e,j,?_]
 show#[.ic,_,I.LR (its':=c++a) g e SX (r.append p) ?_,0,q]
 rw[aW];lk
def PX:V->List V->Hp->VK->Prop:=λx b H Q=>∃l a y,x=.ref l/\b=[]/\H l=some (.lst a)/\a[a.length -1]?=some y/\Q y (upd H l<|.lst a.dropLast)
def NV:QZ X "list.pop" PX:=by
 intro f s A H x t v p Q I o m h;let[l,w,y,0,0,d,j,q]:=h;cases o
 let b:=m.zero;subst b;let[z,a,n,r,g,e]:=I.E6 d;let[u,i,k]:=r.get j;let c:a.toArray[a.toArray.size -1]?=some u:=by
  change a.toArray[a.length -1]?=some u;rw[<-nR,<-g];show i
 show kR F.slot_list_pop #[_,e,0] F.entry_list_pop (F.args_list_pop_1 _) (MeetsSeq.list_pop_last l a.toArray n u c<|by rw[aQ];lk) #[e,?_]
 show#[y,_,I.LR (its':=a.dropLast) d e ?_ r.dropLast ?_,k,q]
 .change a.toArray.eraseIdxIfInBounds (a.toArray.size -1)=a.dropLast.toArray;rw[aQ,List.eraseIdxIfInBounds_toArray,E5]
 .rw[zp];lk
def NW:R2:=λx y H Q=>∃l b a zs,x=.ref l/\y=.ref b/\H l=some (.lst a)/\H b=some (.lst zs)/\a.length+zs.length<=sizeLine/\∀p,H p=none->Q (.ref p) (upd H p<|.lst<|a++zs)
def NX:p_ X (binaryOp .Add) NW:=by
 intro d s D H x y v u Q I o p h;let[l,b,B,zs,0,0,j,i,w,q]:=h;cases o
 cases p
 let[z,c,n,r,t,e]:=I.E6 j;let[C,a,A,m,k,f]:=I.E6 i;show PySem.P.add_list e f ?_<|by rw[aQ,aQ];lk
 let g:c.toArray++a.toArray=(c++a).toArray:=by simp
 rw[g];show#[.ref _,_,I.RD (t':=s.toks) (r.append m)<|by rw[aW];lk,0,q _ I.fresh]
end
set_option maxRecDepth 100000 in
def Vals.ints:∀{b:List Int} {a:List Value},Vals (b.map V.int) a->IntsAre a b
 |[],a,h=>by
  rw[iP]at h;cases h
  show IntsAre.nil
 |n::b,a,h=>by
  rw[bm]at h;cases h with
  |cons r t=>
   let[k,0]:=r;show IntsAre.cons n k<|Vals.ints t
def kQ:∀{b:List Value} {a:List Int},IntsAre b a->Vals (a.map V.int) b
 |_,_,.nil=>by rw[iP];show Paired.nil
 |_,_,.cons n t h=>by rw[bm];show Paired.cons (show RelV (V.int n) (Value.int n t)from#[t,0])<|kQ h
def Vals.RE:∀{c:List Bool} {a:List Value},Vals (c.map V.bl) a->a=c.map Value.bool
 |[],a,h=>by
  rw[iP]at h;cases h
  rfl
 |b::c,a,h=>by
  rw[bm]at h;cases h with
  |cons r t=>
   cases r
   rw[Vals.RE t,bm]
def Vals.uc(r:Vals [V.ref a] b):b=[Value.ref a]:=by
 cases r with
 |cons r t=>
  cases t
  cases r
  rfl
def LS(n:A.handled=none)(i:s.heap.IsList l c.toArray)(g:IntsAre c k)(h:∀a f d,(∀b o,s.heap.get? b=some o->a.get? b=some o)->Q (.int k.sum d) {s with heap:=a,toks:=f}):wpAny (model m w) A (call (.builtin "sum") [.ref l]) Q E s:=by
 let[q,e]:=g.allInts.items;let j:numsOf (intItems q).toList=k:=by rw[<-e];show g.numsOf
 rw[zx]at j;rw[e]at i;show PySem.sum_intListG n i λa f d p=>?_;let:=h a f d p;rw[preSum_eq,vH<|by simp,j];show this
def LU(y:A.handled=none)(p:s.heap.IsList l k.toArray)(n:IntsAre k d)(g:0<d.length)(h:∀c m M D,(∀b o,s.heap.get? b=some o->c.get? b=some o)->M∈d->(∀a,a∈d->a<=M)->Q (.int M D) {s with heap:=c,toks:=m}):wpAny (model r w) A (call (.builtin "max") [.ref l]) Q E s:=by
 let[f,e]:=n.allInts.items;let q:numsOf (intItems f).toList=d:=by rw[<-e];show n.numsOf
 rw[zx]at q;subst q;rw[e]at p;let i:0<f.size:=by simpa using g
 show PySem.max_intList y p i λv c m C B=>?_;let[t,0]:=intItems_at C;let[F,u]:=argBest_gt (numAt f)<|f.size -1;show h c m _ t B ?_ λa x=>?_
 .rw[numAt_eq];show PySem.getD_mem<|by rw[ac,aO];lk
 .let[j,z,0]:=mem_getD x;rw[ac,aO]at z;rw[<-numAt_eq];show u j om
def LV(y:A.handled=none)(p:s.heap.IsList l k.toArray)(n:IntsAre k d)(g:0<d.length)(h:∀c m M D,(∀b o,s.heap.get? b=some o->c.get? b=some o)->M∈d->(∀a,a∈d->M<=a)->Q (.int M D) {s with heap:=c,toks:=m}):wpAny (model r w) A (call (.builtin "min") [.ref l]) Q E s:=by
 let[f,e]:=n.allInts.items;let q:numsOf (intItems f).toList=d:=by rw[<-e];show n.numsOf
 rw[zx]at q;subst q;rw[e]at p;let i:0<f.size:=by simpa using g
 show PySem.min_intList y p i λv c m C B=>?_;let[t,0]:=intItems_at C;let[F,u]:=argBest_lt (numAt f)<|f.size -1;show h c m _ t B ?_ λa x=>?_
 .rw[numAt_eq];show PySem.getD_mem<|by rw[ac,aO];lk
 .let[j,z,0]:=mem_getD x;rw[ac,aO]at z;rw[<-numAt_eq];show u j om
def PY(K:Frag):List V->Hp->VK->Prop:=λc H Q=>∃(a:Addr) (b:List Int),c=[V.ref a]/\cc K H a (b.map V.int)/\Q (.int b.sum) H
def PZ(K:Frag):List V->Hp->VK->Prop:=λc H Q=>∃(a:Addr) (b:List Int),c=[V.ref a]/\cc K H a (b.map V.int)/\0<b.length/\∀m,m∈b->(∀y,y∈b->y<=m)->Q (.int m) H
def P0(K:Frag):List V->Hp->VK->Prop:=λc H Q=>∃(a:Addr) (b:List Int),c=[V.ref a]/\cc K H a (b.map V.int)/\0<b.length/\∀m,m∈b->(∀y,y∈b->m<=y)->Q (.int m) H
def NY(c:X.calm=true):gJ X (.builtin "sum") (PY X.K):=by
 intro b s p H o n Q I r h;let[a,k,0,f,q]:=h;let[g,i,e,_]:=I.list f;rw[Vals.uc r];show LS (I.ok.hd c) e.isList i.ints λj m l d=>#[.int _,H,I.kept d,#[1],q]
def NZ(f:X.calm=true):gJ X (.builtin "max") (PZ X.K):=by
 intro c s w H v u Q I r h;let[a,o,0,j,b,q]:=h;let[k,l,i,_]:=I.list j;rw[Vals.uc r];show LU (I.ok.hd f) i.isList l.ints b λn t m p g d e=>#[.int _,H,I.kept g,#[1],q m d e]
def N0(f:X.calm=true):gJ X (.builtin "min") (P0 X.K):=by
 intro c s w H v u Q I r h;let[a,o,0,j,b,q]:=h;let[k,l,i,_]:=I.list j;rw[Vals.uc r];show LV (I.ok.hd f) i.isList l.ints b λn t m p g d e=>#[.int _,H,I.kept g,#[1],q m d e]
def Ds(c:s.heap.IsList l b)(h:∀a:Shared,a={s with heap:=s.heap.push {cls:=.type "list_iterator",data:=.fields [.ref l,.int 0 0].toArray}}->
   (a.heap.IsListIter ⇑s l 0/\a.heap.IsList l b)->l≠⇑s->Q (.ref ⇑s) a):wpAny (model f w) A (pyIter<|.ref l) Q E s:=by
 let d:l<⇑s:=by let[_,e,_]:=c;show ce e
 show o3 c<|h _ rfl #[#[_,bx _ rfl,0,0],c.push _] (bN d)
def vi{f:Program}{w:World}{A:Around}{g:List Bool}{a:List Value}(e:a=g.map Value.bool):
  TruthOf f w A (λi v=>a.toArray[i]?=some v) (λi=>g.getD i false):=λi v s Q E l k=>by
 let d:a[i]?=some v:=by simpa using l
 rw[e,aZ]at d;let[b,h,0]:=i9.mp d;let j:g.getD i false=b:=by rw[bh,h]<;>rfl
 let c:Q (g.getD i false) s:=k;rw[j]at c;show dr c
def any_range:∀a:List Bool,(List.range a.length).any (λi=>a.getD i false)=a.any id
 |[]=>rfl
 |b::a=>by
  rw[aY,vu,jH,wf,jH,<-any_range a]
  all_goals rfl
def all_range:∀a:List Bool,(List.range a.length).all (λi=>a.getD i false)=a.all id
 |[]=>rfl
 |b::a=>by
  rw[aY,vu,iM,List.all_map,iM,<-all_range a]
  all_goals rfl
section
variable{X:Cx}
def P1(K:Frag):List V->Hp->VK->Prop:=λc H Q=>∃(a:Addr) (b:List Bool),c=[V.ref a]/\cc K H a (b.map V.bl)/\Q (.bl<|b.any id) H
def P2(K:Frag):List V->Hp->VK->Prop:=λc H Q=>∃(a:Addr) (b:List Bool),c=[V.ref a]/\cc K H a (b.map V.bl)/\Q (.bl<|b.all id) H
def N1(m:X.calm=true):gJ X (.builtin "any") (P1 X.K):=by
 intro i s A H z y Q I r h;let[a,v,0,t,q]:=h;let[e,u,p,_]:=I.list t;rw[Vals.uc r];let g:=u.RE;show call_any_walk (Ds p.isList λj l st d=>?_);subst l;show#[_,_,_,_,_,_,1,Walks.list (A:=X.A.in1) (I.ok.hd m) _ a d e.toArray,st,vi g,λw x n=>?_];show#[.bl _,H,I.kept λb o f=>n b o (λc=>?_)<|br _ f,?_,q]
 .let k||c:=aB.mp c
  .show absurd (k▸ce f) (dO _)
  .cases c
 .change Value.bool _=Value.bool _;rw[<-any_range,g,aQ,ac]
def N2(m:X.calm=true):gJ X (.builtin "all") (P2 X.K):=by
 intro i s A H z y Q I r h;let[a,v,0,t,q]:=h;let[e,u,p,_]:=I.list t;rw[Vals.uc r];let g:=u.RE;show call_all_walk (Ds p.isList λj l st d=>?_);subst l;show#[_,_,_,_,_,_,1,Walks.list (A:=X.A.in1) (I.ok.hd m) _ a d e.toArray,st,vi g,λw x n=>?_];show#[.bl _,H,I.kept λb o f=>n b o (λc=>?_)<|br _ f,?_,q]
 .let k||c:=aB.mp c
  .show absurd (k▸ce f) (dO _)
  .cases c
 .change Value.bool _=Value.bool _;rw[<-all_range,g,aQ,ac]
end
mutual
inductive Dp(K:Frag)(H:Hp):V->PyData->Prop
 |ic:Dp K H .ic .none
 |bl (b:Bool):Dp K H (.bl b) (.bool b)
 |int (i:Int):Dp K H (.int i) (.int i)
 |str (x:Str):Dp K H (.str x) (.str x)
 |lst {a:Addr} {xs:List V} {ds:List PyData}:cc K H a xs->AY K H xs ds->Dp K H (.ref a) (.list ds)
 |tup {a:Addr} {xs:List V} {ds:List PyData}:gT K H a xs->AY K H xs ds->Dp K H (.ref a) (.tuple ds)
inductive AY(K:Frag)(H:Hp):List V->List PyData->Prop
 |nil:AY K H [] []
 |cons {v:V} {vs:List V} {d:PyData} {ds:List PyData}:Dp K H v d->AY K H vs ds->AY K H (v::vs) (d::ds)
end
section
variable{X:Cx}{pins:List (Addr×Obj)}{σ:St}{H:Hp}{s:Shared}
mutual
def Dp.reads(I:Inv X pins σ H s):∀(d:PyData) (v:V) (u:Value),Dp X.K H v d->RelV v u->∃as,Reads s.heap u d as
 |.none,_,_,h,r=>by
  cases h
  cases r
  show#[_,Reads.none]
 |.bool b,_,_,h,r=>by
  cases h
  cases r
  show#[_,Reads.bool b]
 |.int i,_,_,h,r=>by
  cases h
  let[t,0]:=r;show#[_,Reads.int i t]
 |.str x,_,_,h,r=>by
  cases h
  let[t,0]:=r;show#[_,Reads.str x t]
 |.list ds,_,_,h,r=>by
  cases h with
  |lst hs ha=>
   cases r
   let[its,rv,[o,n,ho,hc,_,hd],_]:=I.list hs;let[as,hr]:=Dp.readsAll I ds _ its ha rv;show#[_,Reads.list ho hc hd hr]
 |.tuple ds,_,_,h,r=>by
  cases h with
  |tup hs ha=>
   cases r
   let[its,rv,[o,ho,hc,n,hd],_]:=I.tuple hs;let[as,hr]:=Dp.readsAll I ds _ its ha rv;show#[_,Reads.tuple ho hc hd hr]
 |.dict _,_,_,h,_=>by cases h
def Dp.readsAll(I:Inv X pins σ H s):∀(ds:List PyData) (vs:List V) (us:List Value),AY X.K H vs ds->Vals vs us->∃as,ReadsAll s.heap us ds as
 |[],_,_,h,r=>by
  cases h
  cases r
  show#[_,ReadsAll.nil]
 |d::ds,_,_,h,r=>by
  cases h with
  |cons h1 h2=>
   cases r with
   |cons r1 r2=>
    let[as,q1]:=Dp.reads I d _ _ h1 r1;let[bs,q2]:=Dp.readsAll I ds _ _ h2 r2;show#[_,ReadsAll.cons q1 q2]
end
end
def P3(K:Frag):R2:=λx y H Q=>∃d e,Dp K H x d/\Dp K H y e/\SeqAt.shaped d=true/\SeqAt.shaped e=true/\Q (.bl<|!PyData.eqv d e) H
def N3(f:X.A.units+64<cLine):p_ X (compareOp .NotEq) (P3 X.K):=by
 intro a s p H x y v u Q I j k h;let[d,e,b,c,l,m,q]:=h;let[n,g]:=Dp.reads I d x v b j;let[o,i]:=Dp.reads I e y u c k;show SeqAt.compareNe_shaped g i l m f #[.bl _,H,I,0,q]
abbrev Jr(h:Heap)(c:Addr)(v:Option Value):Prop:=h.IsCell c v
def RF(a sc:Scope):Scope:=
 {a with names:=a.names.map λ(n,k)=>if (k==.free&&sc.kind==.function&&sc.names.lookup n==some .cell)then(n,.cell)else(n,k)}
def ez(a:List (Str×Addr)):List (Str×NameKind)->List (Str×Addr)->List (Str×Addr)
 |[],b=>b
 |(n,k)::r,b=>if k==.free then ez a r ((n,(a.lookup n).getD 0)::b)else ez a r b
def sB(g:Env)(f:Str×NameKind->List (Str×Addr)->Sem (ForInStep<|List<|Str×Addr))(l:∀n k c,f (n,k) c=if k==.free then(do let a <-cellOf g n;pure (.yield<|(n,a)::c))else pure (.yield c)):
  ∀(b:List (Str×NameKind)) (d:List (Str×Addr)),(∀y∈b,y.2=.free->∃c,g.cells.lookup y.1=some c)->forIn b d f=pure (ez g.cells b d)
 |[],d,_=>by rw[j9];rfl
 |(n,k)::r,d,h=>by
  rw[on,l];let m:=λd=>sB g f l r d λy p=>h y<|aC _ p;unfold ez;by_cases i:(k==NameKind.free)=true
  .rw[aH i,aH i];let[c,j]:=h (n,k) aN<|by simpa using i
   let e:cellOf g n=pure c:=by unfold cellOf;rw[j]
   rw[e];let o:(g.cells.lookup n).getD 0=c:=by rw[j];rfl
   rw[o];show m _
  .rw[az i,az i];show m _
def E7(h:∀y∈a.names,y.2=.free->∃c,b.cells.lookup y.1=some c):closureFor a b=pure (ez b.cells a.names []):=by
 simp only[closureFor];rw[sB b _ (λn k c=>rfl) a.names [] h];rfl
def mem_lookup:∀{l:List (Str×d)} {n:Str} {c:d},(n,c)∈l->∃a,l.lookup n=some a
 |(k,v)::r,n,c,h=>by
  rw[lR];cases b:n==k with
  |true=>show#[1]
  |false=>
   let e||h:=aB.mp h
   .cases e;simp at b
   .show mem_lookup h
def l_:∀{a:List (Str×NameKind)} {b:List (Str×Addr)} {n:Str} {c:Addr},(n,c)∈ez d a b->(n,c)∈b\/((n,.free)∈a/\c=(d.lookup n).getD 0)
 |[],_,_,_,h=>.inl h
 |(m,k)::r,b,n,c,h=>by
  unfold ez at h;split at h
  .rename_i i;let i:k=.free:=by simpa using i
   let h||[f,g]:=l_ h
   .let e||h:=aB.mp h
    .cases e;show .inr #[i▸aN,0]
    .show .inl h
   .show .inr #[aC _ f,g]
  .let h||[f,g]:=l_ h
   .show .inl h
   .show .inr #[aC _ f,g]
def pi:∀{b:List (Str×NameKind)} {a:List (Str×Addr)} {p:Str×Addr},p∈a->p∈ez c b a
 |[],_,_,h=>h
 |(m,k)::r,a,p,h=>by
  unfold ez;split
  .show pi<|aC _ h
  .show pi h
def pj:∀{a:List (Str×NameKind)} {acc:List (Str×Addr)} {n:Str},(n,.free)∈a->(n,(cells.lookup n).getD 0)∈ez cells a acc
 |(m,k)::r,acc,n,h=>by
  unfold ez;let e||h:=aB.mp h
  .cases e
   show pi aN
  .split
   .show pj h
   .show pj h
def m9:∀{a:List (Str×NameKind)} {h:Heap} {d:List (Str×Addr)} {x:Str} {c:Addr},(x,c)∈cellsFrom h.objs.size a d->
  (x,c)∈d\/((x,.cell)∈a/\h.objs.size<=c/\Jr (pushCells h a) c none)
 |[],_,_,_,_,h=>.inl h
 |(n,k)::r,h,d,x,c,b=>by
  unfold cellsFrom at b;unfold pushCells;split at b
  .rename_i f;rw[aH f];let f:k=.cell:=by simpa using f
   rw[<-ed h {cls:=.type "cell",data:=.cell none}]at b;let b||[i,g,j]:=m9 b
   .let e||b:=aB.mp b
    .cases e
     show .inr #[f▸aN,aE _,_,k4 r _ _ _<|bx _ rfl,0]
    .show .inl b
   .rw[ed]at g;show .inr #[aC _ i,h8 g,j]
  .rename_i f;rw[az f];let b||[i,g,j]:=m9 b
   .show .inl b
   .show .inr #[aC _ i,g,j]
def qc:∀{names:List (Str×NameKind)} {n:Nat} {a:List (Str×Addr)} {p:Str×Addr},p∈a->p∈cellsFrom n names a
 |[],_,_,_,h=>h
 |(m,k)::r,n,a,p,h=>by
  unfold cellsFrom;split
  .show qc<|aC _ h
  .show qc h
def ud:∀{a:List (Str×NameKind)} {n:Nat} {acc:List (Str×Addr)} {x:Str},(x,.cell)∈a->∃c,(x,c)∈cellsFrom n a acc
 |(m,k)::r,n,acc,x,h=>by
  unfold cellsFrom;let e||h:=aB.mp h
  .cases e
   show#[n,qc aN]
  .split
   .show ud h
   .show ud h
def ue:∀{f:List (Str×NameKind)} {h:Heap} {d:List (Str×Addr)} {x y:Str} {c:Addr},(∀p∈d,p.2<h.objs.size)->(∀x y c,(x,c)∈d->(y,c)∈d->x=y)->
  (x,c)∈cellsFrom h.objs.size f d->(y,c)∈cellsFrom h.objs.size f d->x=y
 |[],_,_,_,_,_,_,j,i,g=>j _ _ _ i g
 |(n,k)::r,h,d,x,y,c,l,j,i,g=>by
  unfold cellsFrom at i g;split at i
  .rename_i m;rw[aH m]at g;rw[<-ed h {cls:=.type "cell",data:=.cell none}]at i g;show ue (h:=h.push _) (λp o=>?_) (λx y c a b=>?_) i g
   .rw[ed];let 0||o:=aB.mp o
    .show AA _
    .show iT<|l p o
   .let e||a:=aB.mp a<;>let q||b:=aB.mp b
    .cases e;cases q;rfl
    .cases e;show absurd (l _ b) (dO _)
    .cases q;show absurd (l _ a) (dO _)
    .show j _ _ _ a b
  .rename_i m;rw[az m]at g;show ue l j i g
def Dt{code:Value}(h:Q (newEnv a ⇑s e (cellsFrom (⇑s+1) a.names b) i g code (some f) d)
   {s with heap:=pushCells (s.heap.push {cls:=.type "dict",data:=.dict #[]}) a.names}):
  wpAny M A (newFunctionEnv a e b [] i g code (some f) d) Q E s:=by
 simp only[newFunctionEnv,Option.isSome_some,QQ];show ai<|wpAny_alloc ?_;show ai<|wpAny_layCells _ (λn k c=>rfl) a.names b _ _ ?_;rw[show({s with heap:=s.heap.push {cls:=.type "dict",data:=.dict #[]}}:Shared).heap.objs.size=⇑s+1 from ed ..];rw[j9];show ai<|aj<|aj h
def pz{sc:Scope}:∀{c:List (Str×NameKind)} {x:Str} {k:NameKind},
  (c.map λ(n,k)=>if (k==NameKind.free&&sc.kind==.function&&sc.names.lookup n==some .cell)then(n,NameKind.cell)else(n,k)).lookup x=some k->
  ∃f,c.lookup x=some f/\(k=f\/(f=.free/\k=.cell))
 |[],_,_,h=>by simp at h
 |(n,a)::r,x,k,h=>by
  let g:=@pz sc r x k;let b:List.lookup x ((if (a==NameKind.free&&sc.kind==.function&&sc.names.lookup n==some .cell)=true then(n,NameKind.cell)else(n,a))::(r.map _))=some k:=h;cases e:x==n with
  |true=>
   simp only[lR,e];by_cases d:(a==NameKind.free&&sc.kind==.function&&sc.names.lookup n==some .cell)=true
   .rw[aH d]at b;simp only[lR,e]at b;cases b
    simp only[be,C1]at d;show#[a,0,.inr #[d.1.1,0]]
   .rw[az d]at b;simp only[lR,e]at b;cases b
    show#[1,.inl rfl]
  |false=>
   simp only[lR,e];by_cases d:(a==NameKind.free&&sc.kind==.function&&sc.names.lookup n==some .cell)=true
   .rw[aH d]at b;simp only[lR,e]at b;show g b
   .rw[az d]at b;simp only[lR,e]at b;show g b
structure Du(N:List Str)(sc scope:Scope)(own:List (Str×Nat)):Prop where
 kind:scope.kind=.function
 uniq:∀y∈scope.names,scope.names.lookup y.1=some y.2
 ix:∀p∈own,N[p.2]?=some p.1
 free:∀y∈scope.names,y.2=.free->sc.names.lookup y.1=some .cell\/sc.names.lookup y.1=some .free
 own:∀y∈scope.names,y.2=.local\/y.2=.cell->y.1∈own.map (·.1)\/y.1∉N
def wipe(a:St):List Nat->St
 |[]=>a
 |v::b=>(wipe a b).set v none
def pA(b:St):∀a:List Nat,(wipe b a).length=b.length
 |[]=>rfl
 |v::a=>by unfold wipe;rw[List.length_set,pA b a]
def uf:∀{a:List Nat},(wipe d a)[i]?=some (some x)->d[i]?=some (some x)/\i∉a
 |[],h=>#[h,by simp]
 |v::a,h=>by
  unfold wipe at h;by_cases b:v=i
  .subst b;by_cases c:v<(wipe d a).length
   .rw[i7 c]at h;cases h
   .rw[jI<|by simpa using c]at h;cases h
  .rw[j8 b]at h;let[f,g]:=uf h;show#[f,by simp only[aB,not_or];show#[λe=>b e.symm,g]]
abbrev Cx.BM(X:Cx)(s:Shared)(H:Hp)(a:Scope)(b:Env)(c:List Addr):Cx:={X with AK:=s,Nz:=H,env:=b,outer:=X.stack,ex:=c,fn:=λx=>a.names.lookup x==some .cell,pn:=[],xe:=λ_ _=>False}
section
variable{X:Cx}{pins:List (Addr×Obj)}{σ:St}{H:Hp}{s:Shared}
def Dv{d:Scope}{own:List (Str×Nat)}{Y:List Addr}(I:Inv X pins σ H s)(ok:Du X.N X.env.scope d own)(hN:X.N.Nodup)(n:∀b∈Y,lS X pins H b/\b<⇑s):
  Inv (X.BM s H d (compEnvC d (cellsFrom (⇑s+1) d.names<|ez X.env.cells d.names []) ⇑s X.env) Y) [] (wipe σ<|own.map (·.2)) H {s with heap:=pushCells (s.heap.push {cls:=.type "dict",data:=.dict #[]}) d.names}:=by
 let J:∀y∈d.names,y.2=.free->∃c,X.env.cells.lookup y.1=some c:=λy B e=>by
  let k||k:=ok.free y B e
  .show I.ok.has _<|.inl k
  .show I.ok.has _<|.inr k
 generalize g:compEnvC d (cellsFrom (⇑s+1) d.names<|ez X.env.cells d.names []) ⇑s X.env=f;let W:∀b o,s.heap.get? b=some o->(pushCells (s.heap.push {cls:=.type "dict",data:=.dict #[]}) d.names).get? b=some o:=λb o e=>k4 _ _ _ _<|br _ e;let T:f.locals=⇑s:=by rw[<-g];rfl
 let j:f.cells=cellsFrom (⇑s+1) d.names (ez X.env.cells d.names []):=by rw[<-g];rfl
 let M:f.scope=RF d X.env.scope:=by rw[<-g];rfl
 rw[<-ed s.heap {cls:=.type "dict",data:=.dict #[]}]at j;let P:∀{y c},(y,c)∈ez X.env.cells d.names []->X.env.cells.lookup y=some c/\c<⇑s:=λ{y c} t=>by
  let t||[h,0]:=l_ t
  .cases t
  .let[c,hc]:=J _ h rfl;rw[hc];let[w,z]:=I.cell _ _ hc;show#[0,z.lt]
 let N:∀{y c},f.cells.lookup y=some c->(X.env.cells.lookup y=some c/\c<⇑s)\/(⇑s+1<=c/\Jr (pushCells (s.heap.push {cls:=.type "dict",data:=.dict #[]}) d.names) c none):=λ{y c} e=>by
  rw[j]at e;let t||[_,x,h3]:=m9 (cQ e)
  .show .inl<|P t
  .rw[ed]at x;show .inr #[x,h3]
 let G:∀{y},d.names.lookup y=some .free->∃c,f.cells.lookup y=some c/\X.env.cells.lookup y=some c:=λ{y} U=>by
  let B:(y,NameKind.free)∈d.names:=cQ U;let[S,l]:=mem_lookup<|qc (names:=d.names) (n:=(s.heap.push {cls:=.type "dict",data:=.dict #[]}).objs.size)<|pj (cells:=X.env.cells) (acc:=[]) B;rw[<-j]at l;show#[S,l,?_];rw[j]at l;let t||[h,_,_]:=m9 (cQ l)
  .show(P t).1
  .let:=ok.uniq _ h;rw[U]at this;cases this
 let okB:(X.BM s H d f Y).Ok:=by
  show#[I.ok.mod,by change f.scope.kind=_;rw[M];show ok.kind,by change f.globals=_;rw[<-g];show I.ok.glob,by change f.builtins=_;rw[<-g];show I.ok.blt,by change ⇑s<=f.locals;rw[T];show aE _,
   λy z c C D=>?_,λy B=>?_,λy c z e=>?_,I.ok.hd,I.ok.frames,.inl rfl,λb E=>#[?_,λy c e z=>?_],I.bs,aL I.ok.Lb I.sz,λb o e E=>?_,λb E z=>?_,I.stack,I.FY]
  .let C:f.cells.lookup y=some c:=C;let D:f.cells.lookup z=some c:=D;rw[j]at C D;show ue (λp O=>?_) (λy z c a b=>I.ok.inj y z c (P a).1 (P b).1) (cQ C)<|cQ D;rw[ed];show iT (P (y:=p.1) (c:=p.2) O).2
  .change∃c,f.cells.lookup y=some c;let u:∀k,f.kindOf y=some k->(k=.cell\/k=.free)->∃c,f.cells.lookup y=some c:=λk K L=>by
    unfold Env.kindOf at K;rw[M]at K;let[F,e,r]:=pz K;let:F=.cell\/F=.free:=by
     let 0||[0,_]:=r
     .show L
     .show .inr rfl
    let 0||0:=this
    .let[c,t]:=ud (n:=(s.heap.push {cls:=.type "dict",data:=.dict #[]}).objs.size) (acc:=ez X.env.cells d.names [])<|cQ e;let[S,l]:=mem_lookup t;show#[S,by rw[j];show l]
    .let[c,h,_]:=G e;show#[c,h]
   let B||B:=B
   .show u _ B<|.inl rfl
   .show u _ B<|.inr rfl
  .let z:(d.names.lookup y==some NameKind.cell)=true:=z;let z:d.names.lookup y=some .cell:=by simpa using z
   let e:f.cells.lookup y=some c:=e;rw[j]at e;let t||[_,x,_]:=m9 (cQ e)
   .let t||[h,_]:=l_ t
    .cases t
    .let q:=ok.uniq _ h;rw[z]at q;cases q
   .rw[ed]at x;show h8 x
  .change b≠f.locals;rw[T];show bN (n b E).2
  .let e:f.cells.lookup y=some c:=e;let[h,_]||[h,_]:=N e
   .show(n b E).1.2.2.2.2.1 y c h z
   .let x:⇑s+1<=b:=by rw[<-z];show h
    show absurd (cq (n b E).2<|h8 x) (dO _)
  .let z||z:=(n b E).1.2.2.2.1
   .show I.ok.IY b o e z
   .show absurd (cq (ce e)<|aL I.ok.Lb z) (dO _)
  .let z||z:=aB.mp (I.EK b z)
   .show(n b E).1.2.1 z
   .show(n b E).1.2.2.1 z
 show#[okB,0,I.bare,Un.kept W,#[λ_=>none,?_,λi y av C D v=>?_],λy c e=>?_,?_,λy c e=>?_,λp O=>?_,I.hok.kept W,by rw[pA];show I.len]
 .change Heap.Ns _ f.locals _;rw[T];show Heap.Ns.keeps (Heap.Ns.new ..) λb o e=>k4 _ _ _ _ e
 .let[D,Z]:=uf D;let A:d.names.lookup y=some .free/\(f.kindOf y=some .cell\/f.kindOf y=some .free):=by
   let u:∀k,f.scope.names.lookup y=some k->k=.local\/k=.cell\/k=.free->d.names.lookup y=some .free/\(f.kindOf y=some .cell\/f.kindOf y=some .free):=λk K L=>by
    let Q:=K;rw[M]at K;let[F,e,r]:=pz K;let no:¬(F=.local\/F=.cell):=λhh=>by
     let l||l:=ok.own _ (cQ e) hh
     .let[p,O,hpy]:=ae.mp l;let v:=ok.ix p O;let:p.1=y:=hpy;rw[this]at v;show Z<|ae.mpr #[p,O,xL hN v C]
     .show l<|aX C
    let 0||[0,0]:=r
    .let 0||0||0:=L
     .show absurd (.inl rfl) no
     .show absurd (.inr rfl) no
     .show#[e,.inr Q]
    .show#[e,.inl Q]
   let v:NA f.scope y:=v;let v||v||v:=v
   .show u _ v<|.inl rfl
   .show u _ v<|.inr<|.inl rfl
   .show u _ v<|.inr<|.inr rfl
  let[m,hn,U]:=I.loc;let R:NA X.env.scope y:=(ok.free _ (cQ A.1) rfl).elim (λk=>.inr<|.inl k) λk=>.inr<|.inr k;let[w,r,q]:=U i y av C D R;show#[w,r,.inr #[A.2,?_]];let[c,h,x]:=G A.1;let[k,_]||[_,S,l,z]:=q
  .let k:X.env.scope.names.lookup y=some .local:=k;let F||F:=ok.free _ (cQ A.1) rfl<;>rw[show X.env.scope.names.lookup y=_ from F]at k<;>cases k
  .rw[x]at l;cases l
   show#[c,h,z.keeps W]
 .let e:f.cells.lookup y=some c:=e;let[h,_]||[_,z]:=N e
  .let[w,z]:=I.cell y c h;show#[w,z.keeps W]
  .show#[_,z]
 .change H f.locals=none;rw[T];show I.hok.fresh<|aE _
 .let e:f.cells.lookup y=some c:=e;let[h,_]||[h,_]:=N e
  .show I.l8 y c h
  .show I.hok.fresh<|h8 h
 .show absurd (show p∈([]:List (Addr×Obj))++[]from O) SX
def N4(I:Inv X pins σ H s)(d:H D=some (.lst i))(l:i.length<sizeLine)(r:RelV y v)(h:∀g,Inv X pins σ (upd H D<|.lst<|i++[y]) g->Q .none g):wpAny (model X.prog X.w) X.A (call (.builtin "list.append") [.ref D,v]) Q E s:=by
 let[m,c,n,f,e]:=I.hok D _ d;let o:=f.length;show append_at (hsz:=by rw[aQ];lk) e λj sb a=>?_
 show h {s with heap:=j}<|I.write (t':=s.toks) (by rw[d];trivial) (.inl rfl) (λb u k q=>(sb.2 b k).trans q) #[_,a] #[by rw[aW];show l,c++[v],n+1,f.append<|.cons r .nil,?_]
 rw[a];simp
def P4(X:Cx)(a:List Expr)(t:TT):Prop:=
 ∀(pins:List (Addr×Obj)) (s:Shared) (σ:St) (H:Hp) (Q:Bool->Hp->Prop),Inv X pins σ H s->t σ H Q->
  wpAny (model X.prog X.w) X.A (forIn a true λc r=>if r=true then do let ok <-isTrue c X.env (eval c X.env);pure (ForInStep.yield ok)else pure (ForInStep.yield r)) (TP X pins σ Q) X.xe s
def Js:TT:=λ_ H Q=>Q true H
def g_:P4 X [] Js:=λ_ _ _ H _ I h=>wpAny_tests_nil #[H,I,h]
def jv(h:PT X c t):P4 X [c] t:=λpins s σ H Q I a=>wpAny_tests_one<|h pins s σ H Q I a
end
def Hi(h:wpAny M A t Q (λ_ _=>False) s)(c:∀a s,Q a s->b a s):wpAny M A t b E s:=ew h c λ_ _ z=>False.elim z
def BN(I:Nat->Shared->Prop)(turn:∀n s,I n s->wpAny (model a w) A (pyNext G) (λr i=>match r with
   |none=>R (.ok .next) i
   |some v=>wpAny (model a w) A (letOwnedTupleGo d G v) (λ_ j=>wpAny (model a w) A (assign d b v) (λ_ p=>
     wpAny (model a w) A (forIn F true λc r=>if r=true then do let ok <-isTrue c b (eval c b);pure (ForInStep.yield ok)else pure (ForInStep.yield r)) (λok k=>
      if ok=true then wpAny (model a w) A (eval B b) (λx q=>
       wpAny (model a w) A (call (.builtin "list.append") [z,x]) (λ_ t=>∃m,m<n/\I m t) (notedBy (model a w) A b λe g=>R (.error e) g) q) (notedBy (model a w) A b λe g=>R (.error e) g) k
      else∃m,m<n/\I m k) (notedBy (model a w) A b λe g=>R (.error e) g) p) (notedBy (model a w) A b λe g=>R (.error e) g) j) (notedBy (model a w) A b λe g=>R (.error e) g) i) (notedBy (model a w) A b λe g=>R (.error e) g) s)(n:Nat)(h:I n s):
  codeAny (model a w) A (.compLoop (.ListComp B [#[d,iter,F,(0)]] y H) 0 G z b) R s:=by
 show codeAny_loop rfl I (λn s J=>?_) n h;change wpAny _ A ((compTurn (.ListComp B [#[d,iter,F,(0)]] y H) 0 G z b).onRaise λx=>do noteFrame x b;theTreesLotGoes x) _ _ s
 show wpAny_noted ?_;rw[compTurn_list];show ai<|wpAny_standAt<|ai (ew (turn n s J) (λr i l=>?_) λ_ _ f=>f);cases r with
 |none=>show aj l
 |some v=>
  show ai (ew l (λ_ j u=>?_) λ_ _ f=>f);show ai (ew u (λ_ p C=>ai (ew C (λok k o=>?_) λ_ _ f=>f)) λ_ _ f=>f);cases ok with
  |false=>show aj #[0,o]
  |true=>
   show ai<|ai (ew o (λx q D=>ai (ew D (λ_ t E=>aj<|aj #[0,E]) λ_ _ f=>f)) λ_ _ f=>f)
def Pd(r:TI)(g:TG)(q:TT)(p:TE)(f:List Nat):TE:=λh H Q=>r h H λJ j=>∀D,j D=none->∃W:Nat->Nat->Hp->Prop,(∃m,W 0 m<|upd j D<|.lst [])/\∀i m H,W i m H->
 (J.stop i H/\Q (.ref D) H)\/(J.go i H/\∃e:Hp->Prop,(∀d,e d->∃n,n<m/\W (i+1) n d)/\∀x d,J.BB i H x d->g x (wipe h f) d λc o=>wipe c f=wipe h f/\q c o λb k=>
  if b=true then p c k λy l=>∃a,l D=some (.lst a)/\a.length<sizeLine/\e (upd l D<|.lst<|a++[y])else e k)
def Ga(hc:X.calm=true)(hN:X.N.Nodup)(I:Inv X w O H s)(hi:PI X tg iter wi)(ok:Du X.N X.env.scope a own)(hg:∀(s:Shared) (H:Hp) (C:Addr) (cl:List (Str×Addr)) (f:List Addr),PG (X.BM s H a (compEnvC a cl C X.env) f) tg g)(ht:∀(s:Shared) (H:Hp) (C:Addr) (cl:List (Str×Addr)) (f:List Addr),P4 (X.BM s H a (compEnvC a cl C X.env) f) Y tt)(he:∀(s:Shared) (H:Hp) (C:Addr) (cl:List (Str×Addr)) (f:List Addr),PE (X.BM s H a (compEnvC a cl C X.env) f) R te)(hs:∀x,foldedSetIterable iter X.env x=pure x)(h:Pd wi g tt te (own.map (·.2)) O H Q)(hRR:∀D C A m t,Inv X w O t A->Q (.ref D) t->A.heap.Ns C m->lS X w t C->compPost (model X.prog X.w) X.A X.xe G Qf (.ref D) C (.ok .next) A):
  wpAny (model X.prog X.w) X.A (comprehension (.ListComp R [#[tg,iter,Y,(0)]] a pos) a X.env pos' (newList []) false (eval iter X.env) G) Qf X.xe s:=by
 let U:∀y∈a.names,y.2=.free->∃c,X.env.cells.lookup y.1=some c:=λy hy e=>by
  let k||k:=ok.free y hy e
  .show I.ok.has _<|.inl k
  .show I.ok.has _<|.inr k
 show wpAny_comprehension_free (use:=G) rfl hs (E7 U) ok.kind (λy hy e=>by rw[ok.uniq y hy,e])
  (dJ (hi w s O H _ I h) λxv s1 hx=>dJ hx λitv s2 h2=>?_)
 let[it,f,tn,J,L,e,I2,T,st2,f2,q]:=h2;subst e;show eB (Dt ?_)<|by change 0<=sizeLine;decide
 generalize hD:⇑s2=D;let hDn:L D=none:=I2.hok.fresh<|iK hD;let[W,[m0,w0],turn]:=q D hDn;generalize hs3:({s2 with heap:=s2.heap.push {cls:=.type "list",data:=.seq ([]:List Value).toArray}}:Shared)=d;let I3:Inv X w O (upd L D<|.lst []) d:=by
  rw[<-hs3];show I2.laid (t':=s2.toks) (λb o e=>br _ e) (iK hD) #[cH _,[],(0),.nil,?_];rw[<-hD];show bx _ rfl
 let h3:d.heap=s2.heap.push {cls:=.type "list",data:=.seq ([]:List Value).toArray}:=by rw[<-hs3]
 let sz:∀b∈f,b<⇑s2:=λb l=>by
  let[o,e,_]:=T.obj _ _ st2 b l;show ce e
 let S:∀b∈f,lS X w (upd L D<|.lst []) b/\b<⇑d:=λb l=>by
  let hlt:=sz b l;show#[#[?_,(f2 b l).2],by rw[h3,ed];show iT hlt]
  rw[aA<|by rw[<-hD];show bN hlt]
  show(f2 b l).1
 let st3:tn 0 d.heap:=T.keep _ _ _ st2 λb _ o e=>by rw[h3];show br _ e
 let I4:=Dv I3 ok hN S;let pg:=hg d (upd L D<|.lst []) ⇑d (cellsFrom (⇑d+1) a.names<|ez X.env.cells a.names []) f;let pt:=ht d (upd L D<|.lst []) ⇑d (cellsFrom (⇑d+1) a.names<|ez X.env.cells a.names []) f;let pe:=he d (upd L D<|.lst []) ⇑d (cellsFrom (⇑d+1) a.names<|ez X.env.cells a.names []) f;change codeAny _ _ (.compStart (.ListComp R [#[tg,iter,Y,(0)]] a pos) 0 (.ref it) (.ref D)<|compEnvC a (cellsFrom (⇑d+1) a.names<|ez X.env.cells a.names []) ⇑d X.env) (compPost (model X.prog X.w) X.A X.xe G Qf (.ref D) ⇑d) {d with heap:=pushCells (d.heap.push {cls:=.type "dict",data:=.dict #[]}) a.names};let nfp:∀b∈f,(upd L D<|.lst []) b=none:=λb l=>(S b l).1.1;generalize hce:compEnvC a (cellsFrom (⇑d+1) a.names<|ez X.env.cells a.names []) ⇑d X.env=B at I4 pg pt pe|-;let cL:B.locals=⇑d:=by subst hce;rfl
 generalize hH3:upd L D (.lst [])=F at I3 I4 pg pt pe w0 nfp S;generalize hs4:({d with heap:=pushCells (d.heap.push {cls:=.type "dict",data:=.dict #[]}) a.names}:Shared)=s4 at I4|-;let st4:tn 0 s4.heap:=T.keep _ _ _ st3 λb _ o e=>by rw[<-hs4];show k4 _ _ _ _<|br _ e
 let E:∀{σ':St} {t:Hp} {A:Shared},Inv (X.BM d F a B f) [] σ' t A->(∀b∈f,t b=none)->∀b∈f,lS (X.BM d F a B f) [] t b:=λ{σ' t A} I' hn b l=>
  #[hn b l,(I'.ok.QW b l).1,I'.ok.IZ b l,.inl l,λx c e=>(I'.ok.QW b l).2 x c e,λp hp=>absurd (show p∈([]:List (Addr×Obj))++[]from hp) SX]
 let M:codeAny (model X.prog X.w) X.A (.compLoop (.ListComp R [#[tg,iter,Y,(0)]] a pos) 0 (.ref it) (.ref D) B) (compPost (model X.prog X.w) X.A X.xe G Qf (.ref D) ⇑d) s4:=by
  show BN (λn A=>∃i t,Inv (X.BM d F a B f) [] (wipe O<|own.map (·.2)) t A/\tn i A.heap/\(∀b∈f,t b=none)/\W i n t) ?_ m0 #[(0),F,I4,st4,nfp,w0];ext n s5 ⟨i,P,I5,st5,n5,w5⟩;let[stop,qq]||[go,Nx,hNx,step]:=turn i n P w5
  .let td:=T.done (X.BM d F a B f) rfl rfl rfl hc i [] s5 _ P (λ_ _=>False) I5 (E I5 n5) st5 stop;show Hi td λr s6 #[hr,I6]=>?_;subst hr;let I7:Inv X w O P s6:=I3.Po (ch:=f) I6.os I6.base I6.hok I6.bare λb l=>#[(S b l).1.2.2.2.1,(S b l).1.2.1,(S b l).1.2.2.2.2.1,(S b l).1.2.2.2.2.2];let nC:P ⇑d=none:=by
    let z:P B.locals=none:=I6.free;rw[cL]at z;show z
   let[m,hn,_]:=I6.loc;let hn:s6.heap.Ns B.locals m:=hn;rw[cL]at hn;show hRR D ⇑d s6 m P I7 qq hn<|I3.BC (aE _) nC
  .let ti:=T.item (X.BM d F a B f) rfl rfl rfl hc i [] s5 _ P (λ_ _=>False) I5 (E I5 n5) st5 go;show Hi ti λr s6 #[u,hr,h6]=>?_;subst hr;show Hi h6 λ_ s7 #[x,H7,I7,r7,y7,Z,n7]=>?_;let I7':=I7.pinned (E I7 n7)<|T.obj _ _ Z;show Hi (pg _ s7 _ H7 x u _ I7' r7<|step x H7 y7) λ_ s8 #[K,H8,I8,hw8,q8]=>?_;show Hi (pt _ s8 K H8 _ I8 q8) λb s9 #[H9,I9,q9]=>?_;let fin:∀{A:Shared} {t:Hp},Inv (X.BM d F a B f) ([]++xP f s7.heap) K t A->Nx t->∃m,m<n/\∃i t,Inv (X.BM d F a B f) [] (wipe O<|own.map (·.2)) t A/\tn i A.heap/\(∀b∈f,t b=none)/\W i m t:=λ{A t} I' nx=>by
    let[m',hm,w']:=hNx t nx;let N:∀b∈f,∀o,s7.heap.get? b=some o->A.heap.get? b=some o/\t b=none:=λb l o e=>
     let z:=I'.pin (b,o) (aD _<|aD _<|dB l e)
     #[z.1,z.2.1]
    let hl:(wipe O<|own.map (·.2)).length=K.length:=by rw[<-hw8,pA]
    show#[m',hm,i+1,t,(I'.lE (pins:=[])).weak hl λj v e=>?_,T.keep _ _ _ Z λb l o e=>(N b l o e).1,λb l=>?_,w']
    .rw[<-hw8]at e;show(uf e).1
    .let[o,e,_]:=T.obj _ _ Z b l;show(N b l o e).2
   cases b with
   |false=>
    simp only[ck,fI]at q9|-;show fin I9 q9
   |true=>
    simp only[QQ]at q9|-;show Hi (pe _ s9 K H9 _ I9 q9) λz s10 #[yv,H10,I10,r10,acc,hD10,hz10,nx]=>?_;show N4 (X:=X.BM d F a B f) I10 hD10 hz10 r10 λs11 I11=>fin I11 nx
 show codeAny_compStart_list M<|T.self X.A 0 _ _ _ st4 M
def ke(B:X.calm=true)(z:X.N.Nodup)(G:PI X l iter R)(ok:Du X.N X.env.scope a own)(F:∀(s:Shared) (H:Hp) (C:Addr) (c:List (Str×Addr)) (d:List Addr),PG (X.BM s H a (compEnvC a c C X.env) d) l g)(L:∀(s:Shared) (H:Hp) (C:Addr) (c:List (Str×Addr)) (d:List Addr),P4 (X.BM s H a (compEnvC a c C X.env) d) j P)(E:∀(s:Shared) (H:Hp) (C:Addr) (c:List (Str×Addr)) (d:List Addr),PE (X.BM s H a (compEnvC a c C X.env) d) i O)(K:∀x,foldedSetIterable iter X.env x=pure x:=by intro _;rfl):
  PE X (.ListComp i [#[l,iter,j,(0)]] a M) (Pd R g P O<|own.map (·.2)):=by
 intro k s T H Q I h;rw[eval_ListComp];show Ga B z I G ok F L E K h λD C N m n p q J f=>#[m,J,λy sb=>?_];let[r,t,S,u,v,w]:=f;show#[.ref D,n,p.turned (t':=N.toks) (λb o A e=>(sb.2 b A).trans e) r t u v w,0,q]
def kh(hc:X.calm=true)(J:X.N.Nodup)(hy:X.N[i]?=some y)(p:X.env.scope.names.lookup y=some .local)(w:swapsWith (.ListComp j [#[u,iter,d,(0)]] c k) (some<|.Name y A) t.line X.env=pure true)(hi:PI X u iter N)(ok:Du X.N X.env.scope c own)(hg:∀(s:Shared) (H:Hp) (C:Addr) (l:List (Str×Addr)) (n:List Addr),PG (X.BM s H c (compEnvC c l C X.env) n) u g)(ht:∀(s:Shared) (H:Hp) (C:Addr) (l:List (Str×Addr)) (n:List Addr),P4 (X.BM s H c (compEnvC c l C X.env) n) d M)(he:∀(s:Shared) (H:Hp) (C:Addr) (l:List (Str×Addr)) (n:List Addr),PE (X.BM s H c (compEnvC c l C X.env) n) j K)(hs:∀x,foldedSetIterable iter X.env x=pure x:=by intro _;rfl):
  PS X (.Assign [.Name y A] (.ListComp j [#[u,iter,d,(0)]] c k) t) (Lu (Pd N g M K<|own.map (·.2))<|dQ i):=by
 intro r s O H D I h;rw[exec_Assign_Name_used _ _ _ _ w];show ai<|wpAny_standAt<|ai ?_;change wpAny _ X.A (do let _ <-comprehension (.ListComp j [#[u,iter,d,(0)]] c k) c X.env (firstIterPos [#[u,iter,d,(0)]] k) (newList []) false (eval iter X.env) (some<|assign (.Name y A) X.env)) _ _ s
 let h:Pd N g M K (own.map (·.2)) O H (λx Q=>dQ i x O Q D.nx):=h;show ai (dJ (Ga (Qf:=λ_ B=>SP X r D .next B) hc J I hi ok hg ht he hs h λL C B m P R q hn f=>?_) λ_ B hq=>aj<|aj hq)
 change wpAny _ _ (assign (.Name y A) X.env<|.ref L) _ _ _;show wpAny_assign_Name<|AL (v:=V.ref L) R J hy (.inl p) rfl (λs2 S #[a,sb,Y]=>?_)<|.inr p;let[T,F,f2,U,G,W]:=f;let v:C≠a:=by
  let z||z:=Y
  .rw[z];show F
  .show λe=>G y a z e.symm
 show#[m,hn.sameBut sb v,λh3 E=>?_];show#[_,P,S.turned (t':=s2.toks) (λb o Z e=>(E.2 b Z).trans e) T F U G W,q]
def ma(g:a.scope.kind=.function)(i:a.scope.names.lookup y=some .local)(h:(m.line==c.line)=true)(e:(b.names.any λ(n,k)=>n==y&&(k==.local||k==.cell))=false):swapsWith (.ListComp d o b c) (some<|.Name y m) l a=pure true:=by
 let j:a.kindOf y=some .local:=i;let f:a.blockKind=.function:=by unfold Env.blockKind;rw[g];rfl
 unfold swapsWith;simp only[f,j,e,Expr.pos,h];rfl
def P5(N:List Str)(sc a:Scope)(own:List (Str×Nat)):Bool:=
 (match a.kind with|.function=>true|_=>false)&&(a.names.all λy=>decide<|a.names.lookup y.1=some y.2)&&(own.all λp=>decide<|N[p.2]?=some p.1)&&
  (a.names.all λy=>match y.2 with
   |.free=>(match sc.names.lookup y.1 with|some .cell=>true|some .free=>true|_=>false)
   |.local=>decide (y.1∈own.map (·.1))||decide (y.1∉N)
   |.cell=>decide (y.1∈own.map (·.1))||decide (y.1∉N)
   |_=>true)
def cZ{sc:Scope}(h:P5 N sc a own=true):Du N sc a own:=by
 unfold P5 at h;simp only[be,c7,dI]at h;let[[[c,f],g],d]:=h;show#[?_,f,g,λy b e=>?_,λy b e=>?_]
 .split at c
  .assumption
  .cases c
 .let q:=d y b;simp only[e]at q;split at q<;>first|show .inl (by assumption)|show .inr (by assumption)|cases q
 .let q:=d y b;let e||e:=e<;>(simp only[e,fZ,dI]at q;show q)
section
variable{κ:Type}[DecidableEq κ]
def cY(a:List (κ×V))(k:κ):Option V:=(a.find? λb=>decide<|b.1=k).map (·.2)
def putK(a:List (κ×V))(k:κ)(v:V):List (κ×V):=
 if (a.any λb=>decide<|b.1=k)=true then a.map (λb=>if b.1=k then(b.1,v)else b)else a++[(k,v)]
def eY(a:List (κ×V))(k:κ):List (κ×V):=a.filter λb=>decide<|b.1≠k
def gB{p:κ×V}{r:List (κ×V)}{k:κ}(e:p.1=k):cY (p::r) k=some p.2:=by simp[cY,tO,e]
def gC{p:κ×V}{r:List (κ×V)}{k:κ}(e:¬p.1=k):cY (p::r) k=cY r k:=by simp[cY,tO,e]
def lF(k:κ):∀a:List (κ×V),(a.any λb=>decide<|b.1=k)=(cY a k).isSome
 |[]=>rfl
 |p::r=>by
  rw[jH];by_cases e:p.1=k
  .simp only[gB e,aU e,Bool.true_or,Option.isSome_some]
  .rw[gC e,bE e,lc];show lF k r
def Dx(k j:κ)(y:V):∀a:List (κ×V),cY (a.map λb=>if b.1=k then(b.1,y)else b) j=(cY a j).map λx=>if j=k then y else x
 |[]=>rfl
 |p::r=>by
  let c:=Dx k j y r;rw[bm];by_cases h:p.1=k
  .rw[aH h];by_cases e:p.1=j
   .rw[gB (p:=(p.1,y)) e,gB e,jn,aH<|e.symm.trans h]
   .rw[gC (p:=(p.1,y)) e,gC e,c]
  .rw[az h];by_cases e:p.1=j
   .rw[gB (p:=p) e,gB e,jn,az λz=>h<|e.trans z]
   .rw[gC (p:=p) e,gC e,c]
def AZ(k j:κ)(y:V):∀a:List (κ×V),cY a k=none->cY (a++[(k,y)]) j=if j=k then some y else cY a j
 |[],_=>by
  by_cases e:k=j
  .rw[aH e.symm];show gB (p:=(k,y)) e
  .rw[az λz=>e z.symm];show gC (p:=(k,y)) e
 |p::r,b=>by
  rw[nb];let c:¬p.1=k:=λz=>by rw[gB z]at b;cases b
  rw[gC c]at b;let d:=AZ k j y r b;by_cases e:p.1=j
  .rw[gB e,gB e,az λz=>c<|e.trans z]
  .rw[gC e,gC e,d]
def xW(b:List (κ×V))(k j:κ)(y:V):cY (putK b k y) j=if j=k then some y else cY b j:=by
 unfold putK;by_cases a:(b.any λd=>decide<|d.1=k)=true
 .rw[aH a,Dx];rw[lF]at a;by_cases e:j=k
  .let[x,c]:=qY.mp a;rw[aH e,e,c,jn,aH rfl]
  .rw[az e];cases cY b j with
   |none=>rfl
   |some x=>rw[jn,az e]
 .rw[az a];show AZ k j y b ?_;rw[lF]at a;cases q:cY b k with
  |none=>rfl
  |some x=>rw[q]at a;show(a rfl).elim
def mf(a:List (κ×V))(k:κ)(v:V):(putK a k v).length<=a.length+1:=by
 unfold putK;split
 .rw[ac];lk
 .rw[aW,aY,n4];lk
def il{a:List (κ×V)}{k:κ}(v:V)(h:cY a k=none):putK a k v=a++[(k,v)]:=by
 unfold putK;rw[lF,h];show az de
def mZ.m_(r:mZ o u):o.isSome=u.isSome:=by
 cases o with
 |none=>cases u with
  |none=>rfl
  |some _=>show(show False from r).elim
 |some _=>cases u with
  |none=>show(show False from r).elim
  |some _=>rfl
def mZ.getD(r:mZ o u)(b:RelV d a):RelV (o.getD d) (u.getD a):=by
 cases o with
 |none=>cases u with
  |none=>show b
  |some _=>show(show False from r).elim
 |some _=>cases u with
  |none=>show(show False from r).elim
  |some _=>show r
def KV.val(r:KV c j)(k:κ):mZ (cY c k) (valueAt j k):=by
 unfold KV at r
 induction r with
 |nil=>show True.intro
 |@cons p q l d h t i=>
  let[f,g]:=h;by_cases e:p.1=k
  .let a:q.1=k:=f.symm.trans e;let b:valueAt (q::d) k=some q.2:=by simp[valueAt,tO,a]
   rw[gB e,b];show g
  .let a:¬q.1=k:=λz=>e<|f.trans z;let b:valueAt (q::d) k=valueAt d k:=by simp[valueAt,tO,a]
   rw[gC e,b];show i
def KV.any(r:KV b d)(k:κ):(b.any λa=>decide<|a.1=k)=d.any λa=>decide<|a.1=k:=by
 unfold KV at r
 induction r with
 |nil=>rfl
 |cons h t c=>rw[jH,jH,c,h.1]
def KV.N5(r:KV c i)(k:κ)(g:RelV y u):
  KV (c.map λa=>if a.1=k then(a.1,y)else a) (i.map λa=>if a.1=k then(a.1,u)else a):=by
 unfold KV at r|-
 induction r with
 |nil=>show .nil
 |@cons p q j l h t f=>
  rw[bm,bm];show .cons ?_ f;let[b,d]:=h;by_cases e:p.1=k
  .rw[aH e,aH<|b.symm.trans e];show#[b,g]
  .rw[az e,az λz=>e<|b.trans z];show#[b,d]
def KV.put(r:KV a c)(k:κ)(b:RelV y u):KV (putK a k y) (stored c k u):=by
 unfold putK stored;rw[r.any k];by_cases e:(c.any λd=>decide<|d.1=k)=true
 .rw[aH e,aH e];show r.N5 k b
 .rw[az e,az e];show jj r #[0,b]
def KV.drop(r:KV d j)(k:κ):KV (eY d k) (without j k):=by
 unfold KV at r|-;unfold eY without
 induction r with
 |nil=>show .nil
 |@cons p q l m h t f=>
  let[c,i]:=h;rw[js,js];by_cases e:p.1=k
  .let a:¬decide (p.1≠k)=true:=by simp[e]
   let b:¬decide (q.1≠k)=true:=by simp[c.symm.trans e]
   rw[az a,az b];show f
  .let g:¬q.1=k:=λz=>e<|c.trans z;let a:decide (p.1≠k)=true:=by simp[e]
   let b:decide (q.1≠k)=true:=by simp[g]
   rw[aH a,aH b];show .cons #[c,i] f
def KV.keys{a:List (κ×V)}{b:List (κ×Value)}(r:KV a b):a.map (·.1)=b.map (·.1):=by
 unfold KV at r
 induction r with
 |nil=>rfl
 |cons h t c=>rw[bm,bm,c,h.1]
def KV.length(r:KV a b):a.length=b.length:=eH r
def Dy(a:List (κ×V))(k:κ):(eY a k).length<=a.length:=bu _ _
end
def qI(r:RelV (kV k) u):(cX P w).is k u=true:=by
 cases k with
 |inl i=>let[t,e]:=(show∃t,u=Value.int i t from r);subst e;show Dc P w i t
 |inr x=>obtain⟨t,e⟩:=(show∃t,u=Value.str x t from r);subst e;show Dd P w x t
def A0:∀{ks:List Key} {a:List Value},Vals (ks.map kV) a->ItemsAre (cX P w) ks a
 |[],_,r=>by rw[iP]at r;cases r;show .nil
 |k::ks,_,r=>by
  rw[bm]at r;cases r with
  |cons h t=>show .cons (qI h)<|A0 t
abbrev KT(H:Hp):List (List Key×V)->List (List Key×Addr×Value)->Prop:=Paired λp q=>p.1=q.1/\H q.2.1=some (.tup<|p.1.map kV)/\RelV p.2 q.2.2
def KT.val(r:KT H c j)(k:List Key):mZ (cY c k) ((atKey j k).map (·.2)):=by
 induction r with
 |nil=>show True.intro
 |@cons p q l d h t i=>
  let[f,_,g]:=h;by_cases e:p.1=k
  .let a:q.1=k:=f.symm.trans e;let b:atKey (q::d) k=some q.2:=by simp[atKey,tO,a]
   rw[gB e,b];show g
  .let a:¬q.1=k:=λz=>e<|f.trans z;let b:atKey (q::d) k=atKey d k:=by simp[atKey,tO,a]
   rw[gC e,b];show i
def KT.N5(r:KT H c j)(k:List Key)(i:RelV y u):
  KT H (c.map λb=>if b.1=k then(b.1,y)else b) (j.map<|putAt k u):=by
 induction r with
 |nil=>show .nil
 |@cons p q l m h t g=>
  rw[bm,bm];show .cons ?_ g;let[a,d,f]:=h;unfold putAt;by_cases e:p.1=k
  .rw[aH e,aH<|a.symm.trans e];show#[a,d,i]
  .rw[az e,az λz=>e<|a.trans z];show#[a,d,f]
def KT.put(r:KT H a c)(k:List Key)(f:H b=some (.tup<|k.map kV))(d:RelV y u):
  KT H (putK a k y) (storedH c k b u):=by
 let e:(a.any λg=>decide<|g.1=k)=(atKey c k).isSome:=by
  rw[lF,(r.val k).m_,mh]
 unfold putK storedH;rw[e];by_cases q:(atKey c k).isSome=true
 .rw[aH q,aH q];show r.N5 k d
 .rw[az q,az q];show jj r #[0,f,d]
def KT.keeps(r:KT H a f)(e:∀b c,H b=some (.tup c)->d b=some (.tup c)):KT d a f:=
 Paired.Ny r λ_ _ z=>#[z.1,e _ _ z.2.1,z.2.2]
def Nb(ok:o5 P w H h)(e:Rd H a u):fD P w H h a u:=e.ok ok
def oC(ok:o5 P w H h)(e:Rd H a (.dK b)):b.length<=sizeLine/\(a==sysModules)=false/\∃c,KV b c/\h.DictOf (cX P w) a c:=
 show fD P w H h a (.dK b)from Nb ok e
def Gb(ok:o5 P w H h)(e:H a=some (.dK b)):b.length<=sizeLine/\(a==sysModules)=false/\∃c,KV b c/\h.DictOf (cX P w) a c:=oC ok<|.inl e
def rj{ks:List Key}(ok:o5 P w H h)(e:H a=some (.tup<|ks.map kV)):(tupleKind<|cX P w).is h ks a:=by
 let[_,b,r,o,c,d,n,f]:=(show fD P w H h a (.tup<|ks.map kV)from ok a _ e);show#[o,b.toArray,n,c,d,f,by simpa using A0 r]
def xX(ok:o5 P w H h)(e:Rd H a (.dT c)):c.length<=sizeLine/\(a==sysModules)=false/\
  ∃d,KT H c d/\h.DictOfH (tupleKind<|cX P w) a d:=by
 let[z,y,d,r,o,i,g,j,k,n,s,u]:=(show fD P w H h a (.dT c)from Nb ok e);show#[z,y,d,r,o,i,g,j,k,n,s,λx b=>?_,u];let all:∀{l:List (List Key×V)} {m:List (List Key×Addr×Value)},KT H l m->∀x∈m,(tupleKind<|cX P w).is h x.1 x.2.1:=by
  intro l m q
  induction q with
  |nil=>intro x b;show nomatch b
  |@cons p q A B f t v=>
   intro x b;let e||b:=aB.mp b
   .subst e;show rj ok<|by rw[<-f.1];show f.2.1
   .show v x b
 show all r x b
def Jt(ok:o5 P w H h)(e:H a=some (.dT b)):b.length<=sizeLine/\(a==sysModules)=false/\
  ∃c,KT H b c/\h.DictOfH (tupleKind<|cX P w) a c:=xX ok<|.inl e
def cP(H:Hp)(a:Addr)(y:V)(r:Option V):Prop:=
 (∃c k,Rd H a (.dK c)/\y=kV k/\r=cY c k)\/∃c k b,Rd H a (.dT c)/\y=.ref b/\H b=some (.tup<|k.map kV)/\r=cY c k
def lT(H:Hp)(a:Addr)(y v:V)(d:Hp):Prop:=
 (∃c k,H a=some (.dK c)/\y=kV k/\c.length<sizeLine/\d=upd H a (.dK<|putK c k v))\/
 ∃c k b,H a=some (.dT c)/\y=.ref b/\H b=some (.tup<|k.map kV)/\c.length<sizeLine/\d=upd H a (.dT<|putK c k v)
def cP.k{k:Key}(e:H a=some (.dK b)):cP H a (kV k) (cY b k):=.inl #[b,k,.inl e,0,0]
def cP.t{k:List Key}(e:H a=some (.dT c))(d:H b=some (.tup<|k.map kV)):cP H a (.ref b) (cY c k):=.inr #[c,k,b,.inl e,0,d,0]
def lT.k{k:Key}(e:H a=some (.dK b))(c:b.length<sizeLine):lT H a (kV k) v (upd H a<|.dK<|putK b k v):=.inl #[b,k,e,0,c,0]
def lT.t{k:List Key}(e:H a=some (.dT c))(d:H b=some (.tup<|k.map kV))(f:c.length<sizeLine):
  lT H a (.ref b) v (upd H a<|.dT<|putK c k v):=.inr #[c,k,b,e,0,d,f,0]
def Inv.big(I:Inv X a b H s):sysModules<⇑s:=by
 let h:mainGlobals<⇑s:=(I.mod.glob.keeps I.bk).lt;show Nat.lt_trans de h
def Hj(C:A.units+1<cLine)(I:Inv X i G H s)(g:cP H a y (some v))(r:RelV y u)(h:∀f t,Inv X i G H t->RelV v f->Q f t):
  wpAny (model X.prog X.w) A (getItem (.ref a) u) Q E s:=by
 let[q,k,e,m,l]||[q,k,b,e,m,w,l]:=g
 .subst m;let[z,x,D,c,j]:=oC I.hok e;let[f,o,d]:=mZ.some_of (v:=v) (o:=valueAt D k)<|by rw[l];show c.val k
  show wpAny_getItem_of (qI r) j.mapOf o<|h f _ (I.tok _) d
 .subst m;cases (show u=Value.ref b from r)
  let[z,x,F,c,j]:=xX I.hok e;let[f,o,d]:=mZ.some_of (v:=v) (o:=(atKey F k).map (·.2))<|by rw[l];show c.val k
  let[p,B,n]:=i9.mp o;show wpAny_getItem_heap (tupleKind_room_in1 C) (rj I.hok w) j B ?_;rw[n];show h f _ (I.tok _) d
def RG(t:A.units+1<cLine)(I:Inv X d v H s)(g:cP H a y o)(n:RelV y u)(h:∀p,Inv X d v H p->Q (.bool o.isSome) p):
  wpAny (model X.prog X.w) A (compareOp .In u<|.ref a) Q E s:=by
 let[m,k,e,i,l]||[m,k,b,e,i,r,l]:=g
 .subst i;let[z,j,w,c,f]:=oC I.hok e;show wpAny_in_of (qI n) j f.mapOf ?_;rw[<-(c.val k).m_,<-l];show h _<|I.tok _
 .subst i;cases (show u=Value.ref b from n)
  let[z,j,x,c,f]:=xX I.hok e;show wpAny_in_heap (tupleKind_room_in1 t) (rj I.hok r) j f ?_;let q:=(c.val k).m_;rw[mh]at q;rw[<-q,<-l];show h _<|I.tok _
def LW(t:A.units+1<cLine)(I:Inv X d v H s)(g:cP H a y o)(n:RelV y u)(h:∀p,Inv X d v H p->Q (.bool<|!o.isSome) p):
  wpAny (model X.prog X.w) A (compareOp .NotIn u<|.ref a) Q E s:=by
 let[m,k,e,i,l]||[m,k,b,e,i,r,l]:=g
 .subst i;let[z,j,w,c,f]:=oC I.hok e;show wpAny_notIn_of (qI n) j f.mapOf ?_;rw[<-(c.val k).m_,<-l];show h _<|I.tok _
 .subst i;cases (show u=Value.ref b from n)
  let[z,j,x,c,f]:=xX I.hok e;show wpAny_notIn_heap (tupleKind_room_in1 t) (rj I.hok r) j f ?_;let q:=(c.val k).m_;rw[mh]at q;rw[<-q,<-l];show h _<|I.tok _
def qd(I:Inv X c k H s)(j:M4 (H a))(i:Heap.SameBut a s.heap d)(h:∃q,d.get? a=some q)(e:fD X.prog X.w (upd H a f) d a f):
  Inv X c k (upd H a f) {s with heap:=d,toks:=l}:=
 I.write (x:=a) (e:=a) j (.inl rfl) (λb q g z=>(i.2 b g).trans z) h e
def xY(z:b.length<=sizeLine)(g:(a==sysModules)=false)(c:KV b d)(e:f.DictOf (cX P w) a d):
  fD P w h f a (.dK b):=#[z,g,d,c,e]
def Hk(U:A.units+1<cLine)(I:Inv X j Z H s)(g:lT H a y v L)(J:RelV y u)(G:RelV v r)(h:∀K,Inv X j Z L K->Q () K):
  wpAny (model X.prog X.w) A (setItem (.ref a) u r) Q E s:=by
 let[d,k,e,p,l,o]||[d,k,b,e,p,C,l,o]:=g
 .subst p o;let[z,t,W,f,n]:=Gb I.hok e;let B:W.length<=sizeLine:=by rw[<-f.length];show z
  let w:(putK d k v).length<=sizeLine:=by let:=mf d k v;lk
  show wpAny_setItem_pairs (hsz:=B) (qI J) n λF i x=>h _ ?_;let T:∃q,F.get? a=some q:=let #[q,_,_,m,_]:=i;#[q,m];show qd I (by rw[e];show True.intro) x T<|xY w t (f.put k G) i
 .subst p o;cases (show u=Value.ref b from J)
  let[z,t,Y,f,n]:=Jt I.hok e;let B:Y.length<=sizeLine:=by rw[<-eH f];show z
  let w:(putK d k v).length<=sizeLine:=by let:=mf d k v;lk
  show wpAny_setItem_heap (hsz:=B) (tupleKind_room_in1 U) (rj I.hok C) n λF i x=>h _ ?_;let[q,N,M,m,O,P,R,_,S]:=i;show qd I (by rw[e];show True.intro) x #[q,m] #[w,t,_,(f.put k C G).keeps λc ys D=>?_,q,N,M,m,O,P,R,S]
  rw[aA<|su D e λz=>nomatch z];show D
def P6(I:Inv X g L H s)(e:H a=some (.dK c))(n:RelV (kV k) u)(l:cY c k=some v)(p:b=[]\/∃x,b=[x])(h:∀j r,Inv X g L (upd H a<|.dK<|eY c k) r->RelV v j->Q j r):wpAny (model X.prog X.w) A (call (.builtin "dict.pop")<|.ref a::u::b) Q E s:=by
 let[z,C,w,d,o]:=Gb I.hok e;let[j,K,m]:=mZ.some_of (v:=v) (o:=valueAt w k)<|by rw[<-l];show d.val k
 let F:(keyPart u).isSome=true:=by
  cases k with
  |inl i=>let[t,q]:=(show∃t,u=Value.int i t from n);subst q;rfl
  |inr x=>obtain⟨t,q⟩:=(show∃t,u=Value.str x t from n);subst q;rfl
 let B:argsOk "dict.pop" #[.ref a::u::b,[]]:=by
  let q||[x,q]:=p
  .subst q;show ub _ _
  .subst q;show PySem.F.args_dict_pop_3 _ _ _
 show ky QR o.typeIs vf B (meets_dict_pop_there (cX X.prog X.w) a (qI n) b p F)
  #[w,j,o,by rw[<-d.length];show z,K,λy f J=>h j _ ?_ m]
 let D:∃q,y.get? a=some q:=let #[q,_,_,G,_]:=f;#[q,G];show qd I (by rw[e];show True.intro) J D<|xY (aL (Dy c k) z) C (d.drop k) f
def P7(I:Inv X b j H s)(e:Rd H a (.dK d))(h:∀t f,Inv X b j H f->Q (.int d.length t) f):wpAny (model X.prog X.w) A (call (.builtin "len") [.ref a]) Q E s:=by
 let[z,i,k,c,g]:=oC I.hok e;show call_len_dict i g (by rw[<-c.length];rw[gV]at z;lk) ?_
 rw[<-c.length];show h _ _<|I.tok _
def N6(i:Expr):Prop:=∀b a,subscripted i false b a=operate [b,a] (getItem b a)
def Gc{id:String}(n:typeLookup (.type T) "__getitem__"=pure (some<|.builtin id))(p:N6 b)(h:wpAny (model a w) A (eval e j) (λo f=>wpAny (model a w) A (eval b j) (λi c=>c.TypeIs o T/\wpAny (model a w) A (getItem o i) Q E c) E f) E s):
  wpAny (model a w) A (eval (.Subscript e b q) j) Q E s:=by
 show Subscript_ (ew h (λo f k=>ew k (λi c d=>?_) λ_ _ x=>x) λ_ _ x=>x);let[m,d]:=d;unfold subscriptTail;show ai ?_;rw[getitemInPython_of_ne m.not_modules];show ai<|hG m n ?_;let fin:wpAny (model a w) A (subscripted b false o i) (λr g=>wpAny (model a w) A (letTemporaryGo e o r>>=λ_=>pure r) Q E g) E c:=by
  rw[p o i];show wpAny_operating (ew d (λr g l=>ai<|wpAny_letTemporaryGo<|aj l) λ_ _ x=>x)
 first
  |show aj<|ai fin
  |show ai<|aj<|ai fin
  |show ai fin
def Dz(I:Inv X f j H s)(g:cP H a y o):s.TypeIs (.ref a) "dict":=by
 let[d,k,e,_,_]||[d,k,b,e,_,_,_]:=g
 .let[_,_,h,_,c]:=oC I.hok e;show c.typeIs
 .let[_,_,i,_,c]:=xX I.hok e;show c.typeIs
def Ju(e ty:TE):TE:=λc H Q=>e c H λx d=>ty c d λy b=>∃a v,x=.ref a/\cP b a y (some v)/\Q v b
def RH(ty e:TE):TE:=λc H Q=>ty c H λy d=>e c d λx b=>∃a o,x=.ref a/\cP b a y o/\Q (.bl o.isSome) b
def LX(ty e:TE):TE:=λc H Q=>ty c H λy d=>e c d λx b=>∃a o,x=.ref a/\cP b a y o/\Q (.bl<|!o.isSome) b
def P8(g ty h:TE):TS:=λD b H=>h b H λv d=>g b d λx e=>ty b e λy f=>∃a c,x=.ref a/\lT f a y v c/\D.nx b c
def b7(r:X.A.units+1<cLine)(p:PE X o D)(n:PE X i ty)(q:N6 i):PE X (.Subscript o i t) (Ju D ty):=by
 intro b s e H Q I h;show Gc PySem.F.slot_dict_getitem.lookup q (dJ (p b s e H _ I h) λu C #[x,f,k,A,w]=>dJ (n b C e f _ k w) λE F #[y,j,d,B,a,v,m,g,z]=>?_);subst m;let 0:u=Value.ref a:=A;show#[Dz d g,Hj r d g B λJ G l c=>#[v,j,l,c,z]]
def E8(p:X.A.units+1<cLine)(m:PE X i ty)(n:PE X o A):PC X .In i o (RH ty A):=by
 intro b s c H Q I h;show dJ (m b s c H _ I h) λB z #[y,d,f,w,r]=>dJ (n b z c d _ f r) λu C #[x,e,j,v,a,q,l,g,t]=>?_;subst l;let 0:u=Value.ref a:=v;show RG p j g w λD k=>#[.bl q.isSome,e,k,0,t]
def jP(p:X.A.units+1<cLine)(m:PE X i ty)(n:PE X o A):PC X .NotIn i o (LX ty A):=by
 intro b s c H Q I h;show dJ (m b s c H _ I h) λB z #[y,d,f,w,r]=>dJ (n b z c d _ f r) λu C #[x,e,j,v,a,q,l,g,t]=>?_;subst l;let 0:u=Value.ref a:=v;show LW p j g w λD k=>#[.bl (!q.isSome),e,k,0,t]
def gO(B:X.A.units+1<cLine)(z:PE X o O)(w:PE X i ty)(C:PE X c P)(A:swapsWith c (some<|.Subscript o i d) f.line X.env=pure false):
  PS X (.Assign [.Subscript o i d] c f) (P8 O ty P):=by
 intro b s e H D I h;show wpAny_Assign_Subscript (dJ (C b s e H _ I h) λr M #[v,j,m,J,E]=>dJ (z b M e j _ m E) λu N #[x,k,n,K,F]=>dJ (w b N e k _ n F) λR S #[y,Q,p,L,a,l,t,g,G]=>?_) A;subst t;let 0:u=Value.ref a:=K;show Hk B p g L J λT q=>#[e,l,q,G]
def DA(h:Heap)(a:sysModules<h.objs.size):fD P w H (h.push {cls:=.type "dict",data:=.dict #[]}) h.objs.size (.dK []):=
 #[cH _,iX.mpr<|bJ<|bN a,[],.nil,Heap.DictOf.new h]
def Jv(h:Heap)(a:sysModules<h.objs.size):fD P w H (h.push {cls:=.type "dict",data:=.dict #[]}) h.objs.size (.dT []):=
 #[cH _,iX.mpr<|bJ<|bN a,[],.nil,_,#[],(0),bx _ rfl,#[0,0,0],0,0,IC]
def N7:TE:=λ_ H Q=>∀p,H p=none->Q (.ref p) (upd H p<|.dK [])
def N8:TE:=λ_ H Q=>∀p,H p=none->Q (.ref p) (upd H p<|.dT [])
def gW:PE X (.Dict [] [] b) N7:=λa s c H Q I h=>
 wpAny_Dict_empty #[.ref ⇑s,_,I.laid (a:=⇑s) (o:=.dK []) (t':=s.toks) (λ_ _ q=>br _ q) (aE _)<|DA s.heap I.big,0,h _<|I.hok.fresh<|aE _]
def Jw:PE X (.Dict [] [] b) N8:=λa s c H Q I h=>
 wpAny_Dict_empty #[.ref ⇑s,_,I.laid (a:=⇑s) (o:=.dT []) (t':=s.toks) (λ_ _ q=>br _ q) (aE _)<|Jv s.heap I.big,0,h _<|I.hok.fresh<|aE _]
def E9:List (TE×TE)->St->Hp->(List (V×V)->Hp->Prop)->Prop
 |[],_,H,Q=>Q [] H
 |(f,g)::r,a,H,Q=>f a H λx b=>g a b λy c=>E9 r a c λe d=>Q ((x,y)::e) d
abbrev VV:List (V×V)->List (Value×Value)->Prop:=Paired λp q=>RelV p.1 q.1/\RelV p.2 q.2
def Q2(X:Cx)(d:Pos)(c:List (Option Expr))(a:List Expr)(e:List (TE×TE)):Prop:=
 ∀(b:List (Addr×Obj)) (s:Shared) (f:St) (H:Hp) (Q:List (V×V)->Hp->Prop),Inv X b f H s->E9 e f H Q->
  wpAny (model X.prog X.w) X.A (evalPairs<|pairTrees c a X.env d) (λj i=>∃h g,Inv X b f g i/\VV h j/\Q h g) X.xe s
def LY:Q2 X b [] [] []:=λa s c H Q I h=>pairTrees_nil_walk #[[],H,I,.nil,h]
def Jx{ks:List (Option Expr)}(n:PE X k D)(p:PE X v E)(o:Q2 X b ks F d):
  Q2 X b (some k::ks) (v::F) ((D,E)::d):=λa s e H Q I h=>
 pairTrees_cons_walk (dJ (n a s e H _ I h) λu B #[x,f,j,z,r]=>dJ (p a B e f _ j r) λJ C #[y,g,l,A,t]=>
  dJ (o a C e g _ l t) λK G #[q,i,m,c,w]=>#[(x,y)::q,i,m,.cons #[z,A] c,w])
def ug(c a:List (Key×V)):List (Key×V):=a.foldl (λb d=>putK b d.1 d.2) c
def KV.merge:∀{b:List (Key×V)} {d:List (Key×Value)} {a:List (Key×V)} {c:List (Key×Value)},KV b d->KV a c->KV (ug a b) (merged c d):=by
 intro b d a c r;unfold KV at r
 induction r generalizing a c with
 |nil=>intro q;show q
 |@cons p q i j h t f=>
  intro g;let e:KV (putK a p.1 p.2) (stored c q.1 q.2):=by
   let:=g.put p.1 h.2;rw[<-h.1];show this
  show f e
def qJ:∀(b a:List (Key×V)),(ug a b).length<=a.length+b.length
 |[],a=>by change a.length<=a.length+0;lk
 |p::r,a=>by
  let c:=qJ r<|putK a p.1 p.2;let d:=mf a p.1 p.2;change(ug (putK a p.1 p.2) r).length<=_;rw[aY];lk
def xZ:∀{d:List (Key×V)} {g:List (Value×Value)},VV (d.map λf=>(kV f.1,f.2)) g->∃e,Carries (cX P w) g e/\KV d e
 |[],_,r=>by rw[iP]at r;cases r;show#[[],True.intro,.nil]
 |p::d,_,r=>by
  rw[bm]at r;cases r with
  |@cons a b j l h t=>
   let[e,c,q]:=xZ (P:=P) (w:=w) t;let[k,i]:=b;show#[(p.1,i)::e,#[qI h.1,0,c],.cons #[0,h.2] q]
def P9(b:List (TE×TE)):TE:=λf H Q=>∀p,H p=none->E9 b f (upd H p<|.dK []) λe c=>c p=some (.dK [])/\∃a:List (Key×V),e=a.map (λd=>(kV d.1,d.2))/\a.length<=15/\Q (.ref p) (upd c p<|.dK<|ug [] a)
def LZ(h:Q2 X k a b m)(f:a.all (·.isSome)=true)(y:a.length=b.length)(u:a≠[])(j:a.length<=15):PE X (.Dict a b k) (P9 m):=by
 intro i s L H Q I q;let A:=I.hok.fresh<|aE ⇑s;let o:=I.laid (a:=⇑s) (o:=.dK []) (h':=s.heap.push {cls:=.type "dict",data:=.dict #[]}) (t':=s.toks) (λ_ _ q=>br _ q) (aE _)<|DA s.heap I.big;show wpAny_Dict_walk (knd:=cX X.prog X.w) f y u j (dJ (h i _ L _ _ o<|q _ A) λP O #[N,M,n,l,e,g,r,lk,E]=>?_);subst r;let[J,c,G]:=xZ (P:=X.prog) (w:=X.w) l;let[z,w,K,F,p]:=Gb n.hok e;cases F
 show#[J,c,p,λt d C=>#[.ref ⇑s,_,?_,0,E]];let D:(ug [] g).length<=sizeLine:=by
  let v:=qJ g [];rw[n4]at v;rw[gV];lk
 let x:∃q,t.get? ⇑s=some q:=let #[q,_,_,B,_]:=d;#[q,B];show qd n (by rw[e];show True.intro) C x<|xY D w (G.merge .nil) d
structure M1(X:Cx)(o:Expr)(m:Str)(apos:Pos)(e:Expr)(dt:Pos):Prop where
 base:attributeBase o m X.env (eval o X.env)=eval o X.env
 n9:((backTo dt<|starEach [e] X.env).all (λx=>!x.1)&&(backToKw dt<|keywordEach [] X.env).all (λx=>x.1.isSome)
  &&decide (([e]:List Expr).length+([]:List Keyword).length+(if ([]:List Keyword).isEmpty then 0 else 1)<30))=true
 line:(apos.endLine==dt.line)=true
 trees:backTo dt (starEach [e] X.env)=[(false,eval e X.env)]
structure M2(X:Cx)(o:Expr)(m:Str)(apos:Pos)(e f:Expr)(dt:Pos):Prop where
 base:attributeBase o m X.env (eval o X.env)=eval o X.env
 n9:((backTo dt<|starEach [e,f] X.env).all (λx=>!x.1)&&(backToKw dt<|keywordEach [] X.env).all (λx=>x.1.isSome)
  &&decide (([e,f]:List Expr).length+([]:List Keyword).length+(if ([]:List Keyword).isEmpty then 0 else 1)<30))=true
 line:(apos.endLine==dt.line)=true
 trees:backTo dt (starEach [e,f] X.env)=[(false,eval e X.env),(false,eval f X.env)]
def P_(H:Hp)(a:Addr):Prop:=(∃b,Rd H a<|.dK b)\/∃b,Rd H a<|.dT b
def BO(I:Inv X k n H s)(d:P_ H a):
  s.TypeIs (.ref a) "dict"/\(∀b,Value.ref a=.ref b->∃c,s.heap.get? b=some c/\c.dict=none)/\(a==sysModules)=false:=by
 let[j,e]||[j,e]:=d
 .let[_,i,l,_,f]:=oC I.hok e;show#[f.typeIs,λb q=>?_,i];cases q
  let[c,_,_,g,h,_]:=f;show#[c,g,h.2.1]
 .let[_,i,m,_,f]:=xX I.hok e;show#[f.typeIs,λb q=>?_,i];cases q
  let[c,_,_,g,h,_]:=f;show#[c,g,h.2.1]
def N9(x:A.units+1<cLine)(I:Inv X i C H s)(g:cP H a y o)(q:RelV y u)(p:RelV d r)(h:∀v t,Inv X i C H t->RelV (o.getD d) v->Q v t):
  wpAny (model X.prog X.w) A (call (.builtin "dict.get") [.ref a,u,r]) Q E s:=by
 let[n,k,e,j,l]||[n,k,b,e,j,w,l]:=g
 .subst j;let[z,m,D,c,f]:=oC I.hok e;show ky jx f.typeIs vm (uZ _ _ _) (meets_dict_get_default (cX X.prog X.w) a (qI q) m r) #[_,f.mapOf,h _ _ (I.tok _) ?_];rw[l];show(c.val k).getD p
 .subst j;cases (show u=Value.ref b from q)
  let[z,m,B,c,f]:=xX I.hok e;show ky jx f.typeIs vm (uZ _ _ _) (meetsH_dict_get_default (tupleKind<|cX X.prog X.w) a b m r) #[tupleKind_room_in1 x,k,B,rj I.hok w,f,h _ _ (I.tok _) ?_];rw[l];show(c.val k).getD p
def N_(f ty g:TE):TE:=λb H Q=>f b H λx c=>∃a,x=.ref a/\P_ c a/\ty b c λy e=>g b e λz d=>∃o,cP d a y o/\Q (o.getD z) d
def Oa(f ty:TE):TE:=λe H Q=>f e H λx c=>∃a,x=.ref a/\P_ c a/\ty e c λy d=>∃b k v,d a=some (.dK b)/\y=kV k/\cY b k=some v/\Q v (upd d a<|.dK<|eY b k)
def Jy(D:X.A.units+1<cLine)(C:PE X o O)(A:PE X e ty)(B:PE X f P)(m:M2 X o "get" c e f v):PE X (.Call (.Attribute o "get" c) [e,f] [] v) (N_ O ty P):=by
 intro b s j H Q I h;show fQ m.base m.n9 m.line MZ jx PySem.F.type_dict_get (dJ (C b s j H _ I h) λu M #[x,l,k,J,a,w,d,E]=>?_);subst w;let 0:u=Value.ref a:=J;let[t1,t2,_]:=BO k d;show#[t1,t2,?_];rw[m.trees];show eL rfl (fV (eA (dJ (A b M j l _ k E) λR N #[y,n,q,K,F]=>
  eA (dJ (B b N j n _ q F) λfv T #[z,p,r,L,S,g,G]=>eP ?_))))
 show N9 D r g K L λW U t i=>#[_,p,t,i,G]
def x0(A:PE X o J)(z:PE X e ty)(m:M1 X o "pop" c e q):PE X (.Call (.Attribute o "pop" c) [e] [] q) (Oa J ty):=by
 intro b s i H Q I h;show fQ m.base m.n9 m.line MZ QR wN (dJ (A b s i H _ I h) λu G #[x,j,g,E,a,t,d,C]=>?_);subst t;let 0:u=Value.ref a:=E;let[t1,t2,_]:=BO g d;show#[t1,t2,?_];rw[m.trees];show eL rfl<|fV<|eA (dJ (z b G i j _ g C) λL M #[y,K,n,F,B,k,v,r,w,l,D]=>eP ?_);subst w;show P6 n r F l (.inl rfl) λO N p f=>#[v,_,p,f,D]
def Jz(I:Inv X d n H s)(e:Rd H a (.dK c))(h:∀p j,H p=none->Inv X d n (upd H p<|.dK c) j->Q (.ref p) j):wpAny (model X.prog X.w) A (call (.type "dict") [.ref a]) Q E s:=by
 let[z,l,r,f,k]:=oC I.hok e;show kt_call_dict l k (by rw[<-f.length];show z) λo g m=>?_
 show h _ _ (I.hok.fresh<|aE _)<|I.laid (a:=⇑s) (o:=.dK c) (t':=s.toks) (λb q i=>?_) (aE _)<|xY z (iX.mpr<|bJ<|bN I.big) f g;show(m.2 b<|bN<|ce i).trans<|br _ i
def pB:bootBuiltins "reversed"=some (.type "reversed"):=dk
section
variable{X:Cx}{pins:List (Addr×Obj)}{σ:St}{H:Hp}{s:Shared}{h':Heap}
def Inv.uh{t':Nat}{ch:List Addr}{T:Addr}{j:HO}(I:Inv X pins σ H s)(k:∀b o,b∉ch->s.heap.get? b=some o->h'.get? b=some o)(f:∀b∈ch,lS X pins H b)(l:⇑s<=T)
  (i:fD X.prog X.w (upd H T j) h' T j):Inv X pins σ (upd H T j) {s with heap:=h',toks:=t'}:=by
 let g:H T=none:=I.hok.fresh l;let h:∀b u,H b=some u->b∉ch:=λb u e z=>by
  let q:=(f b z).1;rw[q]at e;cases e
 show I.step (g':=s.gens) (d':=s.drawn) (ch:=ch) (λb a=>#[(f b a).2.2.2.1,(f b a).2.1,(f b a).2.2.2.2.1,(f b a).2.2.2.2.2]) (λb o _ _ d e _=>k b o d e) (λb o _ _ d e _=>#[o.slots,k b o d e])
  (λb o _ e n=>?_) (λb o d e=>#[o,k b o d e]) (λb y e=>?_) (λb o u e=>?_) (λb A e=>#[#[],?_]) (λm w=>?_) (λb u e=>?_) I.bare
 .rw[aA<|bN<|cq (ce e) l];show n
 .rw[aA<|cI e g];show e
 .rw[aA<|cI e g];show e
 .rw[aA<|cI e g,e];simp
 .let[o,t,p,x,r]:=w;show#[o,t,p,k _ o (λz=>(f _ z).2.1 rfl) x,r]
 .by_cases a:b=T
  .subst a;rw[ag]at e;cases e
   show i
  .rw[aA a]at e;show(I.hok b u e).vJ (λc v d q=>k c v ?_ q) (λc q=>by rw[aA<|cI q g];show q) λc y q=>by rw[aA<|cI q g];show q
   let z||z:=d
   .rw[z];show h b u e
   .show h c _ z
def Inv.lock(I:Inv X pins σ H s)(h:H d=some u)(c:M4 (some u)):∃a,Inv X pins σ (upd H d<|.g9 a u) s:=by
 let x:=I.hok d u h;let i:∃a,s.heap.get? d=some a:=by
  cases u with
  |lst j=>let[_,_,_,_,e]:=x;show#[_,e]
  |dK f=>obtain⟨_,_,_,_,o,_,_,e,_⟩:=x;show#[o,e]
  |dT f=>obtain⟨_,_,_,_,o,_,_,e,_⟩:=x;show#[o,e]
  |set S n=>obtain⟨o,_,_,_,e,_⟩:=x;show#[o,e]
  |ins C k l=>obtain⟨_,_,_,e,_⟩:=x;show#[_,e]
  |ext m=>obtain⟨_,⟨_,e⟩,_⟩:=x;show#[_,e]
  |_=>show False.elim c
 let[a,e]:=i;let g:fD X.prog X.w (upd H d<|.g9 a u) s.heap d (.g9 a u):=by
  show#[e,x.vJ (λb v _ q=>q) (λb q=>?_) λb j q=>?_]
  .rw[aA λz=>by rw[z,h]at q;cases q;show c];show q
  .rw[aA λz=>by rw[z,h]at q;cases q;show c];show q
 show#[a,I.write (x:=d) (e:=d) (t':=s.toks) (h':=s.heap) (by rw[h];show c) (.inl rfl) (λb v _ q=>q) #[a,e] g]
def Inv.Gd(I:Inv X pins σ H s)(h:H d=some u)(c:M4 (some u)):∀a b,X.Nz d≠some (.g9 a b):=λa b e=>by
 let q:=I.base.vK d a b e;rw[h]at q;cases q
 show c
def Inv.unlock(I:Inv X pins σ H s)(h:H d=some (.g9 A u))(t:∀i j,X.Nz d≠some (.g9 i j)):Inv X pins σ (upd H d u) s:=by
 let a:∀b o,H b=some o->(∀i j,o≠.g9 i j)->b≠d:=λb o e g z=>by
  rw[z,h]at e;cases e
  show g _ _ rfl
 let neN:∀b,H b=none->b≠d:=λb e z=>by rw[z,h]at e;cases e
 show#[I.ok,I.os,I.bare,#[I.base.keep,I.base.slot,λb o e n l=>?_,I.base.there,λb k e=>?_,λb o x e=>?_,λb y e=>?_],I.loc,I.cell,?_,λx c e=>?_,λp w=>?_,λb o e=>?_,I.len]
 .rw[aA<|neN b<|I.base.free b o e n l];show I.base.free b o e n l
 .let q:=I.base.zL b k e;rw[aA<|a b _ q λ_ _ z=>nomatch z];show q
 .let q:=I.base.vK b o x e;rw[aA λz=>by rw[z]at e;show t _ _ e];show q
 .let[m,q]:=I.base.zM b y e;show#[m,by rw[aA<|a b _ q λ_ _ z=>nomatch z];show q]
 .rw[aA<|neN _ I.free];show I.free
 .rw[aA<|neN c<|I.l8 x c e];show I.l8 x c e
 .let[e,n,r]:=I.pin p w;show#[e,by rw[aA<|neN _ n];show n,r]
 .by_cases f:b=d
  .rw[f,ag]at e;cases e
   rw[f];let[_,x]:=I.hok d _ h;show x.vJ (λc v _ q=>q) (λc q=>by rw[aA<|a c _ q λ_ _ z=>nomatch z];show q) λc k q=>by rw[aA<|a c _ q λ_ _ z=>nomatch z];show q
  .rw[aA f]at e;show(I.hok b o e).vJ (λc v _ q=>q) (λc q=>by rw[aA<|a c _ q λ_ _ z=>nomatch z];show q) λc k q=>by rw[aA<|a c _ q λ_ _ z=>nomatch z];show q
end
def Qa(t:TS):TS:=λD e H=>∃d u,H d=some u/\M4 (some u)/\∀c,t #[λb a=>a d=some (.g9 c u)/\D.nx b (upd a d u),λv a=>a d=some (.g9 c u)/\D.rt v (upd a d u),λb a=>a d=some (.g9 c u)/\D.bk b (upd a d u),λb a=>a d=some (.g9 c u)/\D.ct b (upd a d u)] e (upd H d<|.g9 c u)
def BP{st:Stmt}(h:PS X st t):PS X st (Qa t):=by
 intro i s n H D I k;let[d,u,c,g,k]:=k;let[m,l]:=I.lock c g;show dJ (h i s n _ _ l<|k m) λf o q=>?_;cases f with
 |next=>let[a,j,b,e,q]:=q;show#[a,_,b.unlock e<|I.Gd c g,q]
 |brk=>obtain⟨a,j,b,e,q⟩:=q;show#[a,_,b.unlock e<|I.Gd c g,q]
 |cont=>obtain⟨a,j,b,e,q⟩:=q;show#[a,_,b.unlock e<|I.Gd c g,q]
 |ret v=>obtain⟨x,a,j,b,r,e,q⟩:=q;show#[x,a,_,b.unlock e<|I.Gd c g,r,q]
def uk(I:Inv X a g H s)(o:Obj)(T:Turn X.prog X.w X.K f J [⇑s] ⇑s c)(st:c 0 (s.heap.push o))(q:R J H):QX X a g f R (.ref ⇑s) {s with heap:=s.heap.push o,toks:=tk}:=by
 show#[⇑s,[⇑s],c,J,H,0,I.kept λb h e=>br _ e,T,st,λb d=>?_,q];let e:b=⇑s:=by simpa using d
 subst e;show I.BC (aE _)<|I.hok.fresh<|aE _
def RI(lo c:Int)(n:Nat):It:=#[λi _=>i<n,λi H x a=>a=H/\x=.int (lo+(i:Nat)*c),λi _=>n<=i]
def DB(a:Addr)(lo c:Int)(n:Nat):Turn P w K O (RI lo c n) [a] a (λi h=>IsRangeIter h a (lo+(i:Nat)*c) ((n:Int) -(i:Nat)) c) where
 mem:=by simp
 obj:=λi h st b f=>by
  let e:b=a:=by simpa using f
  subst e;show#[_,st,λv z=>nomatch z]
 keep:=λi h j st k=>k a SX _ st
 item:=by
  intro X y D x B i d s G H E I l st C;subst y D x;let[m,p,M,q,r,u]:=l a<|by simp
  let W:=Walks.range (prog:=X.prog) (w:=X.w) (I.ok.hd B) a lo c n;show W.item i s _ _ C st λv j F N g kk=>?_;let[t,0]:=N;let J:Inv X d G H {s with heap:=j,toks:=F}:=I.turned (λb o f e=>kk b o (by simpa using f) e) m p q r u
  show#[1,xO (s:={s with heap:=j,toks:=F}) (n:="range_iterator") g rfl rfl de #[.int (lo+(i:Nat)*c),H,J,#[t,0],#[0,0],g,λb f=>(l b f).1]]
 done:=by
  intro X y D x B i d s G H E I l st C;subst y D x;let[m,p,M,q,r,u]:=l a<|by simp
  show D1 (I.ok.hd B) st (by let:n<=i:=C;lk) λj L=>#[0,I.turned (t':=s.toks) (λb o f e=>L b o f e) m p q r u]
 self:=λA i s Q E st h=>D2 st h
def Sb(i j c:Int)(n:Nat):Prop:=c≠0/\c.natAbs<1073741824/\Builtin.Range.small i j c=true/\Builtin.Range.rangeSize i j c=n
def Qb(b:TA):TI:=λe H R=>b e H λd a=>∃(i j c:Int) (n:Nat),d=[.int i,.int j,.int c]/\Sb i j c n/\R (RI i c n) a
def Hl(J:Gl X "range")(K:X.mg "range"=none)(G:PA X [a,b,c] Q)(L:starEach [a,b,c] X.env=(false,eval a X.env)::starEach [b,c] X.env:=by rfl)(m:(backTo f<|starEach [b,c] X.env).any (·.1)=false:=by rfl):
  PI X S (.Call (.Name "range" p) [a,b,c] [] f) (Qb Q):=by
 intro d s w H R I h;show Call_<|ja I J K boot_range<|cN (dJ (G f d s w H _ I h) λT l #[U,x,y,O,M]=>?_) L m;let[i,j,k,n,e,[A,B,C,D],q]:=M;subst e;cases O with
 |cons r g=>
  cases g with
  |cons N g=>
   cases g with
   |cons u g=>
    cases g
    let[t,0]:=r;let[P,0]:=N;let[v,0]:=u;show call_range_3 A ?_<|.inl<|vr B;show wpAny_pyIter_range (IsRange.new ..) C ?_;let z:Inv X d w x {l with heap:=l.heap.push {cls:=.type "range",data:=.fields [.int i t,.int j P,.int k v].toArray}}:=y.kept (t':=l.toks) λb o e=>br _ e;show uk (tk:=l.toks) z _ (DB _ i k n) ?_ q;let E:i+((0:Nat):Int)*k=i:=by simp
    let F:(n:Int) -((0:Nat):Int)=Builtin.Range.rangeSize i j k:=by rw[D];simp
    change IsRangeIter _ _ (i+((0:Nat):Int)*k) ((n:Int) -((0:Nat):Int)) k;rw[E,F];show bx _ rfl
def RJ(K:Frag)(a:Addr)(n:Nat):It:=
 #[λi H=>i<n/\∃(b:List V) (x:V),cc K H a b/\b[n -1 -i]?=some x,λi H x c=>c=H/\∀b,cc K H a b->b[n -1 -i]?=some x,λi _=>n<=i]
def rW(a l:Addr)(n:Nat):Turn P w K tg (RJ K a n) [l] l (λi h=>i<=n/\h.IsRevIter l a ((n:Int) -1 -(i:Nat))) where
 mem:=by simp
 obj:=λi h st b j=>by
  let e:b=l:=by simpa using j
  subst e;let[_,o,e,c,d]:=st;show#[o,e,λv z=>by rw[d]at z;cases z]
 keep:=λi h r st k=>#[st.1,st.2.at λo e=>k l SX o e]
 item:=by
  intro X L N J O i g s T H E I t st M;subst L N J;let[q,xs,x,R,S]:=M;let[its,rv,p,hz]:=I.list R;let[u,hu,ru]:=rv.get S;let[B,C,Z,D,F,G]:=t l<|by simp
  let[_,f]:=st;let y:(n:Int) -1 -((i:Nat):Int)=((n -1 -i:Nat):Int):=om;rw[y]at f;show wpAny_pyNext_rev_item f p.isList (x:=u) (by simpa using hu) λr m sb=>?_
  let W:((n -1 -i:Nat):Int) -1=(n:Int) -1 -((i+1:Nat):Int):=om;rw[W]at m;let U:Inv X g T H {s with heap:=r}:=I.turned (t':=s.toks) (λb o j e=>(sb.2 b j).trans e) B C D F G;let[o,e,c,d]:=id m;show#[u,0,xO (s:={s with heap:=r}) e c d de #[x,H,U,ru,#[0,λys hy=>by rw[I.xM hy R];show S],#[q,m],λb j=>(t b j).1]]
 done:=by
  intro X L N J O i g s T H E I t st M;subst L N J;let[B,C,Z,D,F,G]:=t l<|by simp
  let[q,f]:=st;let hge:n<=i:=M;let y:(n:Int) -1 -((i:Nat):Int)= -1:=om;rw[y]at f;show wpAny_pyNext_rev_end (I.ok.hd O) f λr Y=>#[0,I.turned (t':=s.toks) (λb o j e=>Y b o j e) B C D F G]
 self:=λA i s Q E st h=>lL st.2 h
def RK(K:Frag)(d:TA):TI:=λf H R=>d f H λe b=>∃(a:Addr) (c:List V),e=[.ref a]/\cc K b a c/\R (RJ K a c.length) b
def DC(k:Gl X "reversed")(l:X.mg "reversed"=none)(j:PA X [e] y)(n:starEach [e] X.env=[(false,eval e X.env)]:=by rfl):PI X D (.Call (.Name "reversed" p) [e] [] d) (RK X.K y):=by
 intro c s z H R I h;show Call_<|ja I k l pB<|cN (dJ (j d c s z H _ I h) λE x #[F,A,f,u,t]=>?_) n rfl;let[a,g,e,m,q]:=t;subst e;cases u with
 |cons r v=>
  cases v
  cases r
  let[b,w,o,C]:=f.list m;let B:=w.length;let i:((b.toArray.size:Nat):Int) -1=(g.length:Int) -1 -((0:Nat):Int):=by simp only[aQ];lk
  show call_reversed_list o.isList<|lL (l:=a) (i:=((b.toArray.size:Nat):Int) -1) #[_,bx _ rfl,0,0] ?_;show uk (tk:=x.toks) f _ (rW a _ g.length) #[cH _,?_] q;rw[<-i];show#[_,bx _ rfl,0,0]
def qe(j:(d==sysModules)=false)(c:s.heap.get? d=some o)(i:o.ExactDict)(a:o.data=.dict g f)(h:Q (.ref ⇑s) {s with heap:=s.heap.push {cls:=.type "dict_keyiterator",data:=.fields [.ref d,.int 0 0,.int g.size 0,.int f 0].toArray}}):
  wpAny (model e w) A (pyIter<|.ref d) Q E s:=by
 let b:s.TypeIs (.ref d) "dict":=#[o,c,i.1];show wpAny_pyIter_slot b F.slot_dict_iter<|eh F.slot_dict_iter b F.entry_dict_iter ?_<|F.args_dict_iter_1 _;unfold Builtin.«dict.__iter__»;show ai ?_;unfold Builtin.Dict.dictSlotNone;show ai<|I_ b ?_;change wpAny _ _ (pure<|Value.ref d) _ _ s;show aj ?_;change wpAny _ _ (Builtin.Dict.showsAll d>>=_) _ _ s;unfold Builtin.Dict.showsAll;rw[az<|by rw[j];show aR]
 show ai<|aj ?_;show ai<|fe c a ?_;show ai<|hI c a ?_;show ai<|eB<|aj #[1,"dict_keyiterator",_,#[_,bx _ rfl,0],F.slot_dict_keyiterator_next.lookup,?_];simpa[rawInt]using h
def qK(a:s.heap.IsKeyIter c d i n k)(g:s.heap.get? d=some z)(e:z.data=.dict l k)(r:l.size=n)(y:l[i]?=some u)(v:∀m,m.IsKeyIter c d (i+1) n k->Heap.SameBut c s.heap m->Q (some u.key) {s with heap:=m}):wpAny (model t w) A (pyNext<|.ref c) Q E s:=by
 let[o,q,x,j]:=id a;unfold pyNext;show ai (gQ (eo (name:=Str.ofString "__next__") a.typeIs dS
  (eh dS a.typeIs fy ?_<|fw _)))
 show ai<|aj ?_;show ai ?_;show ai ?_
 first|show ai (dA a.typeIs<|aj ?_)|show ai<|wpAny_typeNameOf_keyiter a.typeIs<|aj ?_
 show ai<|l0 q j ?_;let h:Builtin.Dict_items.ownsTuple "dict_keyiterator"=false:=de;simp only[h,ck,fI];change wpAny _ _ (if (Value.ref d==Value.none)=true then _ else _) _ _ s;rw[az (show¬((Value.ref d==Value.none)=true)from aR)];show ai<|aj ?_;show ai<|fe g e ?_;rw[az<|by rw[r];simp]
 show ai<|aj ?_;show ai<|hI g e ?_;rw[az<|by simp]
 show aj ?_;let[f,p]:=Array.getElem?_eq_some_iff.mp y;simp only[show¬((i:Int)<0)from by lk,fI,iS,hX f]
 show ai ?_
 first|show ai (dA a.typeIs<|aj ?_)|show ai<|wpAny_typeNameOf_keyiter a.typeIs<|aj ?_
 show ai<|gw a.typeIs ?_;change wpAny _ _ (setField (.ref c) 1 (rawInt<|(i:Int)+1)>>=_) _ _ s;show ai<|lz q j SX ?_
 let b:(s.heap.update c<|Obj.mapFields (·.setIfInBounds 1 (rawInt<|(i:Int)+1))).IsKeyIter c d (i+1) n k:=
  #[_,dW _ q<|OK<|iy j _,(Obj.cls_mapFields ..).trans x,by rw[iy j];simp[rawInt]]
 show ai<|dR ?_;show ai<|gw (s:={s with heap:=s.heap.update c<|Obj.mapFields (·.setIfInBounds 1 (rawInt<|(i:Int)+1))}) b.typeIs ?_;change wpAny _ _ (pure l[i].key) _ _ _;rw[p];show aj<|aj #[1,aj<|v _ b<|dn ..]
def n_(u:A.handled=none)(a:s.heap.IsKeyIter j d i n r)(e:s.heap.get? d=some v)(b:v.data=.dict k r)(g:k.size=n)(h:n<=i)(t:∀l,Heap.ExtBut j s.heap l->Q none {s with heap:=l}):wpAny (model q w) A (pyNext<|.ref j) Q E s:=by
 let[o,p,x,m]:=id a;unfold pyNext;show ai (gQ (eo (name:=Str.ofString "__next__") a.typeIs dS
  (eh dS a.typeIs fy ?_<|fw _)))
 show ai<|aj ?_;show ai ?_;show ai ?_
 first|show ai (dA a.typeIs<|aj ?_)|show ai<|wpAny_typeNameOf_keyiter a.typeIs<|aj ?_
 show ai<|l0 p m ?_;let f:Builtin.Dict_items.ownsTuple "dict_keyiterator"=false:=de;simp only[f,ck,fI];change wpAny _ _ (if (Value.ref d==Value.none)=true then _ else _) _ _ s;rw[az (show¬((Value.ref d==Value.none)=true)from aR)];show ai<|aj ?_;show ai<|fe e b ?_;rw[az<|by rw[g];simp]
 show ai<|aj ?_;show ai<|hI e b ?_;rw[az<|by simp]
 show aj ?_;let c:k.size<=i:=by rw[g];show h
 simp only[show¬((i:Int)<0)from by lk,fI,iS,wt c]
 show ai ?_
 first|show ai (dA a.typeIs<|aj ?_)|show ai<|wpAny_typeNameOf_keyiter a.typeIs<|aj ?_
 change wpAny _ _ (setField (.ref j) 0 .none>>=_) _ _ s;show ai<|lz p m SX ?_
 change wpAny _ _ (newExc (.type "StopIteration") []>>=_) _ _ _;show ai ?_;simp only[newExc,newTuple];show ai<|eB ?_<|by size_fits
 show ai (m:=firstArgMember _ _)<|wpAny_of_eq (a:=Value.none) (by first|rfl|(simp only[firstArgMember];rfl)) ?_
 show eB ?_<|by size_fits
 simp only[raiseNew];show ai<|wpAny_handled ?_;rw[show A.in1.handled=none from u];show ai<|aj<|wpAny_throw ?_;show ai<|jF (T:="StopIteration") (b:=true) #[_,bx _ rfl,0] xc ?_;show aj<|t _<|((dn ..).extBut.push _).push _
def E_{d:Type}{c:List (d×V)}{l:List (d×Value)}(h:KV c l):∀{i:Nat} {k:d} {v:V},c[i]?=some (k,v)->∃u,l[i]?=some (k,u)/\RelV v u:=by
 unfold KV at h
 induction h with
 |nil=>intro i k v e;simp at e
 |@cons a b f g r t m=>
  intro i k v e;cases i with
  |zero=>
   simp only[List.getElem?_cons_zero,Bi]at e;subst e;show#[b.2,?_,r.2];simp only[List.getElem?_cons_zero];show dF some<|Prod.ext r.1.symm rfl
  |succ j=>
   simp only[iL]at e|-;show m e
def Fa{f g:Type}{G:f->g->Prop}{c:List f}{d:List g}(h:Paired G c d):∀{i:Nat} {a:f},c[i]?=some a->∃b,d[i]?=some b/\G a b:=by
 induction h with
 |nil=>intro i a e;simp at e
 |@cons a b c d r t k=>
  intro i l e;cases i with
  |zero=>
   simp only[List.getElem?_cons_zero,Bi]at e;subst e;show#[b,0,r]
  |succ j=>
   simp only[iL]at e|-;show k e
def sC(h:oZ k u=true):RelV (kV k) u:=by
 let[i,t,0,0]||[x,t,0,0]:=fq h
 .show#[t,0]
 .show#[t,0]
section
variable{X:Cx}{pins:List (Addr×Obj)}{σ:St}{H:Hp}{s:Shared}{d:Addr}{o:Obj}
def Inv.zS(I:Inv X pins σ H s)(h:H d=some (.g9 o<|.dK a)):
  (d==sysModules)=false/\s.heap.get? d=some o/\o.ExactDict/\∃(b:Array DictEntry) (f:Nat) (e:List (Key×Value)),o.data=.dict b f/\b.size=a.length/\KV a e/\s.heap.DictAt (cX X.prog X.w) d e f:=by
 let[g,z,l,e,k,p,b,f,i,j,c,r]:=I.hok d _ h;rw[g]at i;cases i
 show#[l,g,j,b,f,e,c,?_,k,o,b,g,j,c,r];let m:=r.2.1.length;let n:a.length=e.length:=eH k;rw[aO]at m;lk
def Inv.Ob{a:List (List Key×V)}(I:Inv X pins σ H s)(h:H d=some (.g9 o<|.dT a)):
  (d==sysModules)=false/\s.heap.get? d=some o/\o.ExactDict/\∃(c:Array DictEntry) (f:Nat),o.data=.dict c f/\c.size=a.length/\
   ∀(i:Nat) (k:List Key) (v:V),a[i]?=some (k,v)->∃(j:DictEntry) (q:Addr),c[i]?=some j/\j.key=.ref q/\H q=some (.tup<|k.map kV):=by
 let[l,z,w,r,p,C,c,f,n,x,g,m,_]:=I.hok d _ h;rw[l]at n;cases n
 show#[w,l,x,c,f,g,?_,λi k v e=>?_]
 .let A:c.size=r.length:=kZ m;let B:a.length=r.length:=eH p;lk
 .let[b,u,y,t,_]:=Fa p e;let q:=entry_at m i;rw[u]at q;show#[_,b.2.1,q,0,t]
end
def Q3(d:Addr)(o:Obj)(a:List (Key×V)):It:=
 #[λi H=>H d=some (.g9 o<|.dK a)/\i<a.length,λi H x b=>b=H/\∃k v,a[i]?=some (k,v)/\x=kV k,λi H=>H d=some (.g9 o<|.dK a)/\a.length<=i]
def Qc(d:Addr)(o:Obj)(a:List (List Key×V)):It:=
 #[λi H=>H d=some (.g9 o<|.dT a)/\i<a.length,λi H x b=>b=H/\∃(k:List Key) (v:V) (q:Addr),a[i]?=some (k,v)/\x=.ref q/\H q=some (.tup<|k.map kV),λi H=>H d=some (.g9 o<|.dT a)/\a.length<=i]
def RL(d:Addr)(o:Obj)(a:List (Key×V)):It:=
 #[λi H=>H d=some (.g9 o<|.dK a)/\i<a.length,λi H x b=>∃T k v,a[i]?=some (k,v)/\x=.ref T/\H T=none/\b=upd H T (.tup [kV k,v]),λi H=>H d=some (.g9 o<|.dK a)/\a.length<=i]
def j0{o:Obj}{d b:Array DictEntry}{c a:Nat}(h:o.data=.dict d c)(e:o.data=.dict b a):b=d/\a=c:=by
 rw[h]at e;cases e
 show#[0,0]
section
variable{P:Program}{w:World}{K:Frag}{tg:Expr}{d:Addr}{o:Obj}{es:Array DictEntry}{ep:Nat}
def A1{a:List (Key×V)}(g:Addr)(t:o.data=.dict es ep):Turn P w K tg (Q3 d o a) [g] g (λi h=>h.IsKeyIter g d i a.length ep) where
 mem:=by simp
 obj:=λi h st b l=>by
  let e:b=g:=by simpa using l
  subst e;let[D,e,c,F]:=st;show#[D,e,λv z=>by rw[F]at z;cases z]
 keep:=λi h m st k=>st.at λD e=>k g SX D e
 item:=by
  intro X T Z S hc i j s σ H E I C st W;subst T Z S;let[U,Y]:=W;let[L,M,f2,N,O,R]:=C g<|by simp
  let[hs,n,hx,J,G,vs,f,x,kv,hm]:=I.zS U;let[0,0]:=j0 t f;let[[k,v],r]:∃p,a[i]?=some p:=#[a[i],ak Y];let[u,hu,ru]:=E_ kv r;let hl:a.length=vs.length:=eH kv;rw[hl]at st;show wpAny_pyNext_dict_item st hm hu λy m q B sb=>?_;let I1:Inv X j σ H {s with heap:=m}:=I.turned (t':=s.toks) (λb ob l e=>(sb.2 b l).trans e) L M N O R;let[D,e,c,F]:=id B;show#[y,0,xO (s:={s with heap:=m}) e c F de #[kV k,H,I1,sC (show oZ k y=true from q),#[0,k,v,r,0],?_,λb l=>(C b l).1]];change m.IsKeyIter g d (i+1) a.length _;rw[hl];show B
 done:=by
  intro X T Z S hc i j s σ H E I C st W;subst T Z S;let[U,Y]:=W;let[L,M,f2,N,O,R]:=C g<|by simp
  let[hs,n,hx,J,G,vs,f,x,kv,hm]:=I.zS U;let[0,0]:=j0 t f;show n_ (I.ok.hd hc) st n f x Y λm eb=>#[0,I.turned (t':=s.toks) (λb ob l e=>eb b ob l e) L M N O R]
 self:=λA i s Q E st h=>wpAny_pyIter_keyiter st h
def Fb{f:List (List Key×V)}(g:Addr)(u:o.data=.dict es ep):Turn P w K tg (Qc d o f) [g] g (λi h=>h.IsKeyIter g d i f.length ep) where
 mem:=by simp
 obj:=λi h st b l=>by
  let e:b=g:=by simpa using l
  subst e;let[C,e,c,D]:=st;show#[C,e,λv z=>by rw[D]at z;cases z]
 keep:=λi h y st k=>st.at λC e=>k g SX C e
 item:=by
  intro X T hw S hc i j s σ H E I B st Y;subst T hw S;let[U,Z]:=Y;let[L,M,f2,N,O,R]:=B g<|by simp
  let[hs,m,hx,J,G,a,n,ent]:=I.Ob U;let[0,0]:=j0 u a;let[[k,v],t]:∃p,f[i]?=some p:=#[f[i],ak Z];let[en,q,W,r,hq]:=ent i k v t;show qK st m a n W λy x sb=>?_;let I1:Inv X j σ H {s with heap:=y}:=I.turned (t':=s.toks) (λb ob l e=>(sb.2 b l).trans e) L M N O R;let[C,e,c,D]:=id x;show#[en.key,0,xO (s:={s with heap:=y}) e c D de #[.ref q,H,I1,r,#[0,k,v,q,t,0,hq],x,λb l=>(B b l).1]]
 done:=by
  intro X T hw S hc i j s σ H E I B st Y;subst T hw S;let[U,Z]:=Y;let[L,M,f2,N,O,R]:=B g<|by simp
  let[hs,m,hx,J,G,a,n,ent]:=I.Ob U;let[0,0]:=j0 u a;show n_ (I.ok.hd hc) st m a n Z λy eb=>#[0,I.turned (t':=s.toks) (λb ob l e=>eb b ob l e) L M N O R]
 self:=λA i s Q E st h=>by
  show wpAny_pyIter_slot st.typeIs wq<|eh wq st.typeIs F.entry_dict_keyiterator_iter ?_<|F.args_dict_keyiterator_iter_1 _;change wpAny _ _ (ret<|.ref g) _ _ s;show aj #[1,"dict_keyiterator",_,st.typeIs,F.slot_dict_keyiterator_next.lookup,h]
def Fc{a:List (Key×V)}{r:List Expr}{kk:Nat}{C:Pos}(c:Addr)(B:o.data=.dict es ep):
  Turn P w K (.Tuple r kk C) (RL d o a) [c] c (λi h=>∃ok q,IsItemIter h c d i a.length ep ok q) where
 mem:=by simp
 obj:=λi h st b g=>by
  let e:b=c:=by simpa using g
  subst e;let[ok,q,e]:=st;show#[_,e,λv z=>nomatch z]
 keep:=λi h M st k=>let #[ok,q,e]:=st;#[ok,q,k c SX _ e]
 item:=by
  intro X O hw N hc i j s σ H E I D st U;subst O hw N;let[S,hi]:=U;let[hs,W,hx,L,J,vs,m,Z,G,Y]:=I.zS S;let[0,0]:=j0 B m;let[[k,v],x]:∃p,a[i]?=some p:=#[a[i],ak hi];let[u,hu,ru]:=E_ G x;let F:a.length=vs.length:=eH G;let[ok,q,n]:=st;rw[F]at n;let y:c<⇑s:=ce n;show wpAny_pyNext_items_item n Y hu λf M t ho hT hz hk=>?_;show#[1,wpAny_letOwnedTupleGo_items (s:={s with heap:=M}) ho λl T sb=>?_];let R:l.get? ⇑s=some {cls:=.type "tuple",data:=.seq [f,u].toArray}:=(sb.2 _<|qZ y).trans hT;let new:fD X.prog X.w (upd H ⇑s<|.tup [kV k,v]) l ⇑s (.tup [kV k,v]):=
   #[by change 2<=sizeLine;decide,[f,u],.cons (sC (show oZ k f=true from t))<|.cons ru .nil,#[_,R,0,1]]
  let I1:Inv X j σ (upd H ⇑s<|.tup [kV k,v]) {s with heap:=l}:=
   I.uh (t':=s.toks) (ch:=[c]) (λb ob g e=>(sb.2 b<|by simpa using g).trans<|hk b ob (by simpa using g) e) D (aE _) new
  show#[.ref ⇑s,_,I1,0,#[_,k,v,x,0,I.hok.fresh<|aE _,0],#[f,u,?_],λb g=>?_]
  .rw[F];show T
  .let e:b=c:=by simpa using g
   rw[e,aA<|bN y];show(D c<|by simp).1
 done:=by
  intro X O hw N hc i j s σ H E I D st U;subst O hw N;let[S,hi]:=U;let[f0,f1,f2,f3,f4,f5]:=D c<|by simp
  let[hs,W,hx,L,J,vs,m,Z,G,Y]:=I.zS S;let[0,0]:=j0 B m;let F:a.length=vs.length:=eH G;let[ok,q,n]:=st;rw[F]at n;show wpAny_pyNext_items_end (I.ok.hd hc) n Y (jI om) λM eb=>#[0,I.turned (t':=s.toks) (λb ob g e=>eb b ob g e) f0 f1 f3 f4 f5]
 self:=λA i s Q E st h=>let #[_,_,e]:=st;PySem.W.kcp_self e h
end
def Qd(c:TE):TI:=λe H R=>c e H λx b=>∃d o,x=.ref d/\((∃a,b d=some (.g9 o<|.dK a)/\R (Q3 d o a) b)\/∃a,b d=some (.g9 o<|.dT a)/\R (Qc d o a) b)
def Oc(c:TE):TI:=λe H R=>c e H λx b=>∃d o a,x=.ref d/\b d=some (.g9 o<|.dK a)/\R (RL d o a) b
def Ge(t:PE X e w):PI X C e (Qd w):=by
 intro f s y H R I h;show dJ (t f s y H _ I h) λu m #[x,z,g,v,d,o,r,q]=>?_;subst r;let 0:u=Value.ref d:=v;let[l,i,q]||[l,i,q]:=q
 .let[j,b,k,p,n,D,a,c,B,A]:=g.zS i;show qe j b k a<|uk (tk:=m.toks) g _ (A1 _ a) #[_,bx _ rfl,0,?_] q;rw[c]<;>rfl
 .let[j,b,k,p,n,a,c,ent]:=g.Ob i;show qe j b k a<|uk (tk:=m.toks) g _ (Fb _ a) #[_,bx _ rfl,0,?_] q;rw[c]<;>rfl
def JA(B:PE X e L)(f:attributeBase e "items" X.env (eval e X.env)=eval e X.env:=by rfl)(g:(i.endLine==t.line)=true:=by rfl):
  PI X (.Tuple j kk l) (.Call (.Attribute e "items" i) [] [] t) (Oc L):=by
 intro a s p H R I h;show fQ (T:="dict") (id:="dict.items") f rfl g F.plainAttrs_dict F.slot_dict_items F.type_dict_items (dJ (B a s p H _ I h) λu c #[x,w,r,K,d,o,n,z,A,q]=>?_);subst z;let 0:u=Value.ref d:=K;let[E,C,O,N,M,v,m,G,J,k]:=r.zS A;let D:n.length=v.length:=eH J;show#[k.dictOf.typeIs,k.dictOf.mapOf.noDict,?_];let y:Inv X a p w {c with heap:=c.heap.push {cls:=.type "dict_items",data:=.fields [.ref d].toArray}}:=r.kept (t':=c.toks) λb P q=>br _ q;let fin:wpAny (model X.prog X.w) X.A (pyIter<|.ref ⇑c) (QX X a p (.Tuple j kk l) R) X.xe {c with heap:=c.heap.push {cls:=.type "dict_items",data:=.fields [.ref d].toArray}}:=by
  show wpAny_pyIter_items (d:=d) (knd:=cX X.prog X.w) #[_,bx _ rfl,0,0] (k.push _) (uk (tk:=c.toks) y _ (Fc _ m) #[.none,.none,?_] q);rw[D];show bx _ rfl
 change wpAny _ _ (callWith t (.builtin "dict.items") [.ref d] [] []) _ X.xe c;show method_meetsIn F.slot_dict_items F.entry_dict_items rfl<|SS #[0,k.dictOf.typeIs,F.args_dict_items_1 _,_,meets_dict_items (cX X.prog X.w) d E,#[v,k.dictOf],fin]
def RM(K:Frag)(a:Addr):It:=
 #[λi H=>∃(b:List V) (x:V),cc K H a b/\b[i]?=some x,λi H v c=>∃T x,v=.ref T/\H T=none/\c=upd H T (.tup [.int (i:Nat),x])/\∀b,cc K H a b->b[i]?=some x,λi H=>∃b:List V,cc K H a b/\b.length<=i]
def Hm{P:Program}{w:World}{K:Frag}{r:List Expr}{kk:Nat}{B:Pos}(a e f:Addr):
  Turn P w K (.Tuple r kk B) (RM K a) [e,f] e (λi h=>(∃d,IsEnum h e f ((i:Nat):Int) d)/\h.IsListIter f a i/\e≠f) where
 mem:=by simp
 obj:=λi h st b g=>by
  let[[d,j],[o,U,O,hd],_]:=st;let F:b=e\/b=f:=by simpa using g
  let z||z:=F
  .rw[z];show#[_,j,λv q=>nomatch q]
  .rw[z];show#[o,U,λv q=>by rw[hd]at q;cases q]
 keep:=λi h G st k=>let #[#[d,j],hi,c]:=st;#[#[d,k e SX _ j],hi.at λo q=>k f SX o q,c]
 item:=by
  intro X L W J O i m s σ H E I C st S;subst L W J;let[[d,j],l,c]:=st;let[xs,x,D,Y]:=S;let[Z,rv,p,hz]:=I.list D;let[u,hu,ru]:=rv.get Y;let t:e<⇑s:=ce j;let T:f<⇑s:=by let[_,q,_]:=l;show ce q
  show wpAny_pyNext_enum_item j l p.isList (x:=u) (by simpa using hu) c λG U y hT hsz hk=>?_
  show#[1,wR (s:={s with heap:=G,toks:=s.toks+1}) U λn R sb=>?_];let M:n.get? ⇑s=some {cls:=.type "tuple",data:=.seq [.int i s.toks,u].toArray}:=(sb.2 _<|qZ t).trans hT;let new:fD X.prog X.w (upd H ⇑s<|.tup [.int (i:Nat),x]) n ⇑s (.tup [.int (i:Nat),x]):=
   #[by change 2<=sizeLine;decide,[.int i s.toks,u],.cons #[1] (.cons ru .nil),#[_,M,0,1]]
  let I1:Inv X m σ (upd H ⇑s<|.tup [.int (i:Nat),x]) {s with heap:=n,toks:=s.toks+1}:=
   I.uh (ch:=[e,f]) (λb ob g q=>(sb.2 b λz=>g<|by simp[z]).trans<|hk b ob (λz=>g<|by simp[z]) (λz=>g<|by simp[z]) q) C (aE _) new
  show#[.ref ⇑s,_,I1,0,#[_,x,0,I.hok.fresh<|aE _,0,λys hy=>by rw[I.xM hy D];show Y],#[#[u,?_],y.at λo q=>(sb.2 f<|bJ c).trans q,c],λb g=>?_]
  .let e1:((i+1:Nat):Int)=(i:Int)+1:=om;rw[e1];show R
  .let N:b<⇑s:=by
    let F:b=e\/b=f:=by simpa using g
    let z||z:=F
    .rw[z];show t
    .rw[z];show T
   rw[aA<|bN N];show(C b g).1
 done:=by
  intro X L W J O i m s σ H E I C st S;subst L W J;let[[d,j],l,c]:=st;let[xs,D,Y]:=S;let[Z,rv,p,hz]:=I.list D;let[f0,f1,f2,f3,f4,f5]:=C f<|by simp
  let hl:=rv.length;show wpAny_pyNext_enum_end (I.ok.hd O) j l p.isList (by simp;lk) λG eb=>#[0,I.turned (t':=s.toks) (λb o g q=>eb b o g q) f0 f1 f3 f4 f5]
 self:=λA i s Q E st h=>let #[#[_,j],_]:=st;je j h
def Qe(K:Frag)(c:TA):TI:=λf H R=>c f H λd b=>∃a e,d=[.ref a]/\cc K b a e/\R (RM K a) b
def L0(A:Gl X "enumerate")(C:X.mg "enumerate"=none)(x:PA X [e] N)(E:starEach [e] X.env=[(false,eval e X.env)]:=by rfl):
  PI X (.Tuple l kk n) (.Call (.Name "enumerate" p) [e] [] j) (Qe X.K N):=by
 intro d s o H R I h;show Call_<|ja I A C boot_enumerate<|cN (dJ (x j d s o H _ I h) λQ c #[S,k,g,L,K]=>?_) E rfl;let[a,T,v,D,q]:=K;subst v;cases L with
 |cons r M=>
  cases M
  cases r
  let[G,P,J,O]:=g.list D;show call_enumerate_list J.isList λw m i F B=>je m ?_;let t:Inv X d o k {c with heap:=w}:=g.kept (t':=c.toks) B;show#[⇑c+1,[⇑c+1,⇑c],_,_,k,0,t,Hm a (⇑c+1) ⇑c,#[#[.none,m],i,iD _],λb y=>?_,q];let u:b=⇑c+1\/b=⇑c:=by simpa using y
  let f:⇑c<=b:=by
   let z||z:=u
   .rw[z];show qu _ _
   .rw[z];show aE _
  show g.BC f<|g.hok.fresh f
def Hn:bootBuiltins "zip"=some (.type "zip"):=dk
section
open PySem.Builtin PySem.Builtin.Str PySem.StrLaws
end
section
open PySem.W PySem.Calls
end
def inClass(s:Stmt)(j:Nat):Stmt:=match s with
 |.ClassDef _ _ _ body _ _ _ _ _ _ _=>body.getD j<|.Pass #[(0),(0),(0),(0)]
 |_=>.Pass #[(0),(0),(0),(0)]
def j3(s:Stmt):Arguments:=match s with
 |.FunctionDef _ a _ _ _ _ _ _ _ _=>a
 |_=>{posonlyargs:=[],args:=[],vararg:=none,kwonlyargs:=[],kw_defaults:=[],kwarg:=none,defaults:=[]}
def gP(s:Stmt):List Stmt:=match s with
 |.FunctionDef _ _ b _ _ _ _ _ _ _=>b
 |_=>[]
def cS(s:Stmt):Scope:=match s with
 |.FunctionDef _ _ _ _ _ _ sc _ _ _=>sc
 |_=>{kind:=.function,names:=[],isGenerator:=false,isCoroutine:=false}
abbrev CY:He:=λ_ _ _ _ _ _=>False
abbrev E0:XK:=λ_ _ _=>False
def A2:Passes CY X E0:=λ_ _ _ _ _ _ _ h=>h.elim
structure L3(K:Frag)(x qual:Str)(st:Stmt)(f:Addr)(fd:FuncData):Prop where
 ex:∃(oc:Value) (od:Option Addr) (kV doc pm:Value) (an:Option Addr) (cdv ct:Value) (osl:Array (Option Value)),
  fd=fnOf x qual (j3 st) (gP st) (cS st) .none kV doc pm an cdv ct/\K.lookup f=some #[oc,od,.func fd,osl]/\codeIn K cdv qual=true
 kp:keepIn K (.ref f)=true
def L3.ok{st:Stmt}(F:L3 K x c st f r)(S:l9 N m (cS st))(l:∀e H Q E,n e H Q E->e.length=m.length)(d:∀(b:Value) (A:Around) (a:List Env) (s:Shared) (H:Hp) (e:List V) (Q:VK) (E:XK),eg k (A.deeper<|envOfC c (cS st) ⇑s f b)->n e H Q E->
   ∃t,Dg (zQ CY P w K v g N c (cS st) f b A a s H E).M7 (gP st) t/\t {nx:=λ_ o=>Q .ic o,rt:=Q} (start N e) H):ka P w K v g CY (k+1) f r m n:=by
 let[B,C,kV,p,D,z,b,ct,y,0,lk,i]:=F.ex;show PN lk i S l λA a s H e Q E u j=>?_;let[t,h,q]:=d b A a s H e Q E u j;show#[t,h.M7,q]
def L3.binds{st:Stmt}(F:L3 K x c st f j)(h:∀(kV b e:Value) (d:Option Addr) (a ct:Value) (g:List Value),g.length=i.length->bindArgs (fnOf x c (j3 st) (gP st) (cS st) .none kV b e d a ct) #[g,[]]=pure (i.zip g)):Binds K j i []:=by
 let[m,n,kV,b,e,d,a,ct,l,0,lk,k]:=F.ex;show .all<|h kV b e d a ct
def JB{st:Stmt}{kV ct:Value}(l:K.lookup f=some #[i,j,.func<|fnOf x a (j3 st) (gP st) (cS st) .none kV d h g b ct,e])(c:codeIn K b a=true)(k:keepIn K (.ref f)=true):L3 K x a st f (fnOf x a (j3 st) (gP st) (cS st) .none kV d h g b ct):=#[#[i,j,kV,d,h,g,b,ct,e,0,l,c],k]
def JC(a:eg k A):A.units+1<cLine:=bi (Nat.add_le_add_left (by decide:1<=64) _) a.units
def pv(i:Nat)(b:X.N[i]?=some x:=by rfl)(d:NA X.env.scope x:=by first|show Or.inl rfl|show Or.inr (Or.inl rfl)|show Or.inr<|Or.inr rfl)(c:(x==("__debug__":Str))=false:=by decide)(a:(x==("__classdict__":Str))=false:=by decide):PE X (.Name x e) (EL i):=EM b d c a
def nc:gJ X (.builtin "len") (λd H Q=>∃a b,d=[V.ref a]/\H a=some (.dK b)/\Q (.int b.length) H):=by
 intro c s k H d j Q I r h;let[a,b,0,f,q]:=h;let[u,0,g]:=vals1 r;cases g
 show P7 I (.inl f) λt i e=>#[.int b.length,H,e,#[t,0],q]
def vL(h:B):if false=true then A else B:=by
 rw[az aR];show h
def Fd(h:A):if true=true then A else B:=by
 rw[aH rfl];show h
def am(H a:Hp):Prop:=∀b o,H b=some o->a b=some o
def am.refl(H:Hp):am H H:=λ_ _ h=>h
def am.trans(a:am H d)(b:am d e):am H e:=λc o h=>b c o<|a c o h
def am.free(e:am H a)(h:a l=Option.none):H l=Option.none:=by
 cases q:H l with
 |none=>rfl
 |some o=>
  rw[e l o q]at h;cases h
def am.seq(e:am H b)(h:cc K H a c):cc K b a c:=by
 obtain (h|⟨o,h⟩)|h:=h
 .show .inl<|.inl<|e _ _ h
 .show .inl<|.inr #[o,e _ _ h]
 .show .inr h
section
variable{κ:Type}[DecidableEq κ]
def JD{a:List (κ×V)}{k:κ}(h:cY a k=none):¬k∈a.map (·.1):=by
 intro m;let[p,b,e]:=ae.mp m;let q:(a.any λc=>decide<|c.1=k)=true:=ci.mpr #[p,b,aU e];rw[lF,h]at q;show absurd q SX
def BQ:∀{l:List κ} {k:κ},l.Nodup->¬k∈l->(l++[k]).Nodup
 |[],k,_,_=>by simp
 |a::r,k,h,b=>by
  let[c,d]:=c9.mp h;change(a::(r++[k])).Nodup;show c9.mpr #[λm=>?_,BQ d λm=>b<|aB.mpr<|Or.inr m];let q||q:=aG.mp m
  .show c q
  .show b<|aB.mpr<|Or.inl (aP.mp q).symm
def w9{a:List (κ×V)}{k:κ}(v:V)(b:(a.map (·.1)).Nodup)(h:cY a k=none):((putK a k v).map (·.1)).Nodup:=by
 rw[il v h,bw];show BQ b<|JD h
def Ho{p:κ×V}{r:List (κ×V)}{k:κ}(e:p.1=k):eY (p::r) k=eY r k:=by
 unfold eY;rw[js,az<|by simp[e]]
def A3{p:κ×V}{r:List (κ×V)}{k:κ}(e:¬p.1=k):eY (p::r) k=p::eY r k:=by
 unfold eY;rw[js,aH<|by simp[e]]
def x5:∀{a:List (κ×V)} {k:κ},¬k∈a.map (·.1)->eY a k=a
 |[],_,_=>rfl
 |p::r,k,h=>by
  let b:¬k∈r.map (·.1):=λm=>by
   let[q,c,e]:=ae.mp m;show h<|ae.mpr #[q,aB.mpr<|Or.inr c,e]
  rw[A3 λe=>h<|ae.mpr #[p,aB.mpr<|Or.inl rfl,e],x5 b]
def Hq{a:List (κ×V)}{k:κ}{p:κ×V}(h:p∈eY a k):p∈a:=(aw.mp h).1
def ng:∀{a:List (κ×V)} {k:κ},(a.map (·.1)).Nodup->((eY a k).map (·.1)).Nodup
 |[],_,_=>IC
 |p::r,k,h=>by
  let h:(p.1::r.map (·.1)).Nodup:=h;let[d,b]:=c9.mp h;by_cases e:p.1=k
  .rw[Ho e];show ng b
  .rw[A3 e];change(p.1::(eY r k).map (·.1)).Nodup;show c9.mpr #[λm=>d ?_,ng b];let[q,f,c]:=ae.mp m;show ae.mpr #[q,Hq f,c]
end
def top(i:Nat):Stmt:=PySem.Challenge.pw_copperboarddesk_s01_answers.main.body.getD i<|.Pass #[(0),(0),(0),(0)]
def am.rd(e:am H b)(h:Rd H a u):Rd b a u:=by
 let h||[o,h]:=h
 .show .inl<|e _ _ h
 .show .inr #[o,e _ _ h]
def Tu(K:Frag)(H c:Hp):Prop:=∀a b,gT K H a b->gT K c a b
def am.ts(e:am H b):Tu K H b:=λa c h=>by
 let h||h:=h
 .show .inl<|am.rd e h
 .show .inr h
def am.new(h:H p=none):am H (upd H p o):=λb u e=>by
 rw[aA<|cI e h];show e
def am.upd(e:am H a)(h:H p=none):am H (upd a p o):=λb u q=>by
 rw[aA<|cI q h];show e b u q
def Tu.wr(h:H p=some u)(f:∀b,u≠.tup b)(g:∀c b,u≠.g9 c (.tup b)):Tu K H (upd H p o):=λa b t=>by
 obtain (t|⟨c,t⟩)|t:=t
 .let d:a≠p:=λe=>by subst e;rw[h]at t;show f b<|bj t
  show .inl<|.inl<|by rw[aA d];show t
 .let d:a≠p:=λe=>by subst e;rw[h]at t;show g c b<|bj t
  show .inl<|.inr #[c,by rw[aA d];show t]
 .show .inr t
def Tu.lst(h:H p=some (.lst a)):Tu K H (upd H p o):=.wr h (by intro _ e;cases e)<|by intro _ _ e;cases e
def Lw(h:H p=some u)(f:∀b,u≠.lst b)(g:∀c b,u≠.g9 c (.lst b))(t:cc K H a b):cc K (upd H p o) a b:=by
 obtain (t|⟨c,t⟩)|t:=t
 .let d:a≠p:=λe=>by subst e;rw[h]at t;show f b<|bj t
  show .inl<|.inl<|by rw[aA d];show t
 .let d:a≠p:=λe=>by subst e;rw[h]at t;show g c b<|bj t
  show .inl<|.inr #[c,by rw[aA d];show t]
 .show .inr t
def Tu.ins(h:H p=some (.ins C a b)):Tu K H (upd H p o):=.wr h (by intro _ e;cases e)<|by intro _ _ e;cases e
def Lw.ins(h:H p=some (.ins C c d))(t:cc K H a b):cc K (upd H p o) a b:=Lw h (by intro _ e;cases e) (by intro _ _ e;cases e) t
def Tu.dk(h:H p=some (.dK a)):Tu K H (upd H p o):=.wr h (by intro _ e;cases e)<|by intro _ _ e;cases e
def IsT(K:Frag)(H:Hp)(v:V)(b:List Int):Prop:=∃a,v=.ref a/\gT K H a (b.map V.int)
def IsT.ts(t:Tu K H b)(h:IsT K H v c):IsT K b v c:=let #[a,e,q]:=h;#[a,e,t _ _ q]
def IsT.same(t:am H a)(h:IsT K H v b):IsT K a v b:=h.ts<|am.ts t
abbrev Rep(a:Type):Type:=Hp->V->a->Prop
def Mon(K:Frag){b:Type}(R:Rep b):Prop:=∀H a v x,Tu K H a->R H v x->R a v x
def ul:Rep Int:=λ_ v i=>v=.int i
def Pe:Rep Bool:=λ_ v i=>v=.bl i
def ul.mon:Mon K ul:=λ_ _ _ _ _ h=>h
def Pe.mon:Mon K Pe:=λ_ _ _ _ _ h=>h
def x6:∀{b:List V} {a:List Int},Paired (ul H) b a->b=a.map V.int
 |_,_,.nil=>rfl
 |_,_,.cons h t=>by rw[show _=_ from h,x6 t];rfl
def JE:∀(a:List Int),Paired (ul H) (a.map V.int) a
 |[]=>.nil
 |_::r=>.cons rfl<|JE r
def JF:∀{b:List V} {a:List Bool},Paired (Pe H) b a->b=a.map V.bl
 |_,_,.nil=>rfl
 |_,_,.cons h t=>by rw[show _=_ from h,JF t];rfl
def IsL(K:Frag){c:Type}(R:Rep c)(H:Hp)(v:V)(d:List c):Prop:=∃a b,v=.ref a/\cc K H a b/\Paired (R H) b d
def cO(m:Mon K R)(t:Tu K H c)(h:Paired (R H) d e):Paired (R c) d e:=h.mono λa b q=>m H c a b t q
def IsL.same(m:Mon K R)(t:am H b)(h:IsL K R H v d):IsL K R b v d:=
 let #[a,c,e,q,p]:=h;#[a,c,e,t.seq q,cO m (am.ts t) p]
def im:∀{a:List V} {b:List f} {i:Nat} {x:f},Paired F a b->b[i]?=some x->∃v,a[i]?=some v/\F v x
 |_,_,_,_,.nil,e=>by simp at e
 |_,_,0,_,.cons r _,e=>by simp at e;subst e;show#[1,r]
 |_,_,i+1,x,.cons _ t,e=>by
  let[u,c,d]:=im (i:=i) (x:=x) t<|by simpa using e
  show#[u,by simpa using c,d]
structure Src{α:Type}(J:It)(C:Hp->Prop)(xs:List α)(R:Rep α):Prop where
 go:∀i H,C H->i<xs.length->J.go i H
 stop:∀H,C H->J.stop xs.length H
 BB:∀i H v H' x,C H->J.BB i H v H'->xs[i]?=some x->am H H'/\R H' v x
def src_list:Src (Ro K a) (λH=>cc K H a vs/\Paired (R H) vs xs) xs R where
 go:=λi H c h=>by
  let b:i<vs.length:=by rw[c.2.length];show h
  show#[vs,vs[i],c.1,by simp[b]]
 stop:=λH c=>#[vs,c.1,by rw[c.2.length];show aE _]
 BB:=λi H v f x c y e=>by
  let[0,y]:=y;let[u,d,r]:=im c.2 e;let:=y vs c.1;rw[d]at this;cases this
  show#[am.refl _,r]
def L4:Src (Rq K a) (λH=>gT K H a b/\Paired (R H) b g) g R where
 go:=λi H c h=>by
  let d:i<b.length:=by rw[c.2.length];show h
  show#[b,b[i],c.1,by simp[d]]
 stop:=λH c=>#[b,c.1,by rw[c.2.length];show aE _]
 BB:=λi H v j x c y e=>by
  let[0,y]:=y;let[u,f,r]:=im c.2 e;let:=y b c.1;rw[f]at this;cases this
  show#[am.refl _,r]
def src_range{lo:Int}:Src (Py lo n) (λ_=>True) ((List.range n).map λ(k:Nat)=>lo+(k:Int)) ul where
 go:=λi H _ h=>by rw[ac,cu]at h;show h
 stop:=λH _=>by rw[ac,cu];show aE n
 BB:=λi H v a x _ y e=>by
  let[0,0]:=y;rw[aZ]at e;cases q:(List.range n)[i]?with
  |none=>rw[q]at e;cases e
  |some k=>
   rw[q]at e;let[h,q]:=aJ.mp q;rw[GV]at q;subst q;cases e
   show#[am.refl _,0]
def pC:Src (Q3 d o kvs) (λH=>H d=some (.g9 o<|.dK kvs)) (kvs.map (·.1)) (λ_ v k=>v=kV k) where
 go:=λi H c h=>#[c,by simpa using h]
 stop:=λH c=>#[c,by simp]
 BB:=λi H v b x c y e=>by
  let[0,k,w,a,0]:=y;rw[aZ,a]at e;cases e
  show#[am.refl _,0]
def dh{o:Type}{J:It}{C:Hp->Prop}{c:List o}{R:Rep o}(S:Src J C c R){g:TG}{n:TS}{D:Ends}{a:St}{H:Hp}(f:Nat->St->Hp->Prop)(t:f 0 a H)(u:∀i a H,i<=c.length->f i a H->C H)
  (A:∀i x v a H b,c[i]?=some x->f i a H->am H b->R b v x->g v a b λj k=>n {D with nx:=f<|i+1,ct:=f<|i+1,bk:=D.nx} j k) (w:∀a H,f c.length a H->D.nx a H):
  ∃W:Nat->Nat->St->Hp->Prop,(∃m,W 0 m a H)/\∀i m a H,W i m a H->
   (J.stop i H/\D.nx a H)\/(J.go i H/\∃N:St->Hp->Prop,(∀h b,N h b->∃l,l<m/\W (i+1) l h b)/\∀x b,J.BB i H x b->g x a b λj k=>n {D with nx:=N,ct:=N,bk:=D.nx} j k):=by
 show#[λi m a H=>m=c.length -i/\i<=c.length/\f i a H,#[c.length,by simp,cH _,t],?_]
 ext i m a H ⟨rfl,z,p⟩;let q:=u i a H z p;by_cases d:i<c.length
 .show .inr #[S.go i H q d,f<|i+1,λh b B=>#[c.length -(i+1),om,0,d,B],λx b y=>?_];let[s,r]:=S.BB i H x b c[i] q y<|by simp[d]
  show A i _ x a H b (by simp[d]) p s r
 .let e:i=c.length:=om;subst e;show .inl #[S.stop H q,w a H p]
def Qg(g:TG)(q:TT)(p:TE)(f:List Nat)(n:St)(Q:VK):It->Hp->Prop:=λJ h=>∀D,h D=none->∃W:Nat->Nat->Hp->Prop,(∃m,W 0 m<|upd h D<|.lst [])/\∀i m H,W i m H->
 (J.stop i H/\Q (.ref D) H)\/(J.go i H/\∃e:Hp->Prop,(∀d,e d->∃l,l<m/\W (i+1) l d)/\∀x d,J.BB i H x d->g x (wipe n f) d λc o=>wipe c f=wipe n f/\q c o λb j=>
  if b=true then p c j λy k=>∃a,k D=some (.lst a)/\a.length<sizeLine/\e (upd k D<|.lst<|a++[y])else e j)
def vM(h:d a H (Qg g c b e a Q)):Pd d g c b e a H Q:=h
def SA(h:D.nx a H):sv D a H:=h
def rA(h:a b H D.rt):Ps a D b H:=h
def Qh(h:t c H (λb a=>r b a Q)):Ry r t c H Q:=h
def vj(h:d a H (λx b=>e a b λf c=>Q (x::f) c)):xT d e a H Q:=h
def Qi(h:t e H (λd b=>c (d++a) b Q E)):Ji c a E t e H Q:=h
def kG{A β:Type}{K:Frag}{J:It}{C:Hp->Prop}{c:List A}{R:Rep A}{T:Rep β}(S:Src J C c R)(u:Mon K T)(p:A->Bool)(f:A->β){g:TG}{tt:TT}{Z:TE}{w:List Nat}{N:St}{l:Hp}{Q:VK}
  (hz:c.length<100000) (hC:∀H,am l H->C H)
  (hs:∀x v H (U:VK) (P:Hp->Prop),x∈c->am l H->R H v x->(∀h y,am H h->p x=true->T h y (f x)->U y h)->(∀h,am H h->p x=false->P h)->
   g v (wipe N w) H λk H2=>wipe k w=wipe N w/\tt k H2 λb B=>if b=true then Z k B U else P B)
  (hd:∀H D a,am l H->l D=none->H D=some (.lst a)->Paired (T H) a ((c.filter p).map f)->Q (.ref D) H):
  Qg g tt Z w N Q J l:=by
 intro D F
 let' O:Nat->Hp->Prop:=λi H=>am l H/\∃a,H D=some (.lst a)/\Paired (T H) a (((c.take i).filter p).map f)
 show#[λi m H=>m=c.length -i/\i<=c.length/\O i H,#[c.length,by simp,cH _,am.new F,[],ag,by simp;show .nil],?_]
 ext i m H ⟨rfl,hi,t,a,d,o⟩;let q:=hC H t;by_cases j:i<c.length
 .let X:c[i]?=some c[i]:=by simp[j]
  let tk:c.take (i+1)=c.take i++[c[i]]:=by rw[cM,X];rfl
  show .inr #[S.go i H q j,O<|i+1,λh p'=>#[c.length -(i+1),om,0,j,p'],λv h y=>?_];let[s,r]:=S.BB i H v h c[i] q y X;show hs c[i] v h _ _ (lP j) (t.trans s) r (λn z M G t4=>?_) λB L G=>?_
  .let W:n D=some (.lst a):=M _ _<|s _ _ d;let tsn:upd n D (.lst<|a++[z]) D=some (.lst<|a++[z]):=ag;let Y:Tu K n (upd n D<|.lst<|a++[z]):=Tu.lst W;let I:Paired (T n) a (((c.take i).filter p).map f):=cO u (am.ts<|s.trans M) o;show#[a,W,?_,am.upd ((t.trans s).trans M) F,a++[z],ag,?_]
   .let l1:=o.length;rw[ac]at l1;let l2:((c.take i).filter p).length<=(c.take i).length:=bu _ _;rw[cE]at l2;let l3:(100000:Nat)<sizeLine:=de;lk
   .rw[tk,eU,bw];let E:[c[i]].filter p=[c[i]]:=by simp[G]
    rw[E];show jj (cO u Y I)<|u _ _ _ _ Y t4
  .show#[(t.trans s).trans L,a,L _ _<|s _ _ d,?_];rw[tk,eU,bw];let E:[c[i]].filter p=[]:=by simp[G]
   rw[E];simp;show cO u (am.ts<|s.trans L) o
 .let e:i=c.length:=om;subst e;rw[bK]at o;show .inl #[S.stop H q,hd H D a t F d o]
def lG{k p:Type}{K:Frag}{J:It}{C:Hp->Prop}{j:List k}{R:Rep k}{T:Rep p}(S:Src J C j R)(F:Mon K T)(f:k->p){g:TG}{o:TE}{i:List Nat}{l:St}{c:Hp}{Q:VK}
  (B:j.length<100000) (u:∀H,am c H->C H)
  (z:∀x v H (h:VK),x∈j->am c H->R H v x->(∀b y,am H b->T b y (f x)->h y b)->g v (wipe l i) H λd q=>wipe d i=wipe l i/\o d q h)
  (w:∀H D a,am c H->c D=none->H D=some (.lst a)->Paired (T H) a (j.map f)->Q (.ref D) H):Qg g Js o i l Q J c:=by
 show kG (K:=K) S F (λ_=>true) f B u (λx v H h I A s r E _=>z x v H h A s r λb y G t=>E b y G rfl t) λH D a s n e m=>w H D a s n e ?_;rw[Eu.mpr λ_ _=>rfl]at m;show m
structure Fn(K:Frag)(mg:Str->Option Value)(x:Str)(st:Stmt):Prop where
 ex:∃f fd,L3 K x x st f fd/\mg x=some (.ref f)
structure Df(P:Program)(w:World)(K:Frag)(mg:Str->Option Value)(base:Heap)(k:Nat)(x:Str)(ps:List Str)(sp:Sp):Prop where
 ex:∃f fd,ka P w K mg base CY k f fd ps sp/\mg x=some (.ref f)/\keepIn K (.ref f)=true/\Binds K fd ps []
def Fn.df{st:Stmt}(F:Fn K l x st)(S:l9 N g (cS st))(q:∀(kV h u:Value) (o:Option Addr) (a ct:Value) (j:List Value),j.length=g.length->bindArgs (fnOf x x (j3 st) (gP st) (cS st) .none kV h u o a ct) #[j,[]]=pure (g.zip j))(i:∀e H Q E,m e H Q E->e.length=g.length)(b:∀(f:Addr) (a:Value) (A:Around) (c:List Env) (s:Shared) (H:Hp) (e:List V) (Q:VK) (E:XK),eg k (A.deeper<|envOfC x (cS st) ⇑s f a)->m e H Q E->
   ∃t,Dg (zQ CY P w K l d N x (cS st) f a A c s H E).M7 (gP st) t/\t {nx:=λ_ n=>Q .ic n,rt:=Q} (start N e) H):Df P w K l d (k+1) x g m:=by
 let[f,p,F,r]:=F.ex;show#[f,p,F.ok S i<|b f,r,F.kp,F.binds q]
def du(D:Df X.prog X.w X.K X.mg X.base j x u r)(o:eg k X.A)(h:PA X (e::a) t)(m:j<=k:=by decide)(l:Gl X x:=by rfl)(c:(x==("__debug__":Str))=false:=by decide)(i:starEach (e::a) X.env=(false,eval e X.env)::starEach a X.env:=by rfl)(d:(backTo g<|starEach a X.env).any (·.1)=false:=by rfl):
  PE X (.Call (.Name x p) (e::a) [] g) (Ji r [] E0 t):=by
 let[f,s,F,n,q,b]:=D.ex;show LF F (o.mono m) l n q b .nil A2 h c i d
structure Mt(K:Frag)(C:Addr)(m qual:Str)(st:Stmt):Prop where
 ex:∃f fd,L3 K m qual st f fd/\Meth K C m f
structure Md(P:Program)(w:World)(K:Frag)(mg:Str->Option Value)(base:Heap)(k:Nat)(C:Addr)(m:Str)(ps:List Str)(sp:Sp):Prop where
 ex:∃f fd,ka P w K mg base CY k f fd ps sp/\Meth K C m f/\Binds K fd ps []
structure CF(K:Frag)(C:Addr)(ns:List Str):Prop where
 cls:F4 K C
 no:∀f,f∈ns->n8 K C f
def Mt.md{st:Stmt}(F:Mt K C m a st)(S:l9 N h (cS st))(r:∀(kV i x:Value) (p:Option Addr) (b ct:Value) (l:List Value),l.length=h.length->bindArgs (fnOf m a (j3 st) (gP st) (cS st) .none kV i x p b ct) #[l,[]]=pure (h.zip l))(j:∀g H Q E,n g H Q E->g.length=h.length)(c:∀(f:Addr) (b:Value) (A:Around) (d:List Env) (s:Shared) (H:Hp) (g:List V) (Q:VK) (E:XK),eg k (A.deeper<|envOfC a (cS st) ⇑s f b)->n g H Q E->
   ∃t,Dg (zQ CY P w K v e N a (cS st) f b A d s H E).M7 (gP st) t/\t {nx:=λ_ o=>Q .ic o,rt:=Q} (start N g) H):Md P w K v e (k+1) C m h n:=by
 let[f,q,F,u]:=F.ex;show#[f,q,F.ok S j<|c f,u,F.binds r]
section
variable{pl:Sem Bool}
def met(M:Md X.prog X.w X.K X.mg X.base j C m y v)(c:F4 X.K C)(s:eg k X.A)(p:PE X o w)(n:PA X (e::g) t)(q:j<=k:=by decide)(i:starEach (e::g) X.env=(false,eval e X.env)::starEach g X.env:=by rfl)(h:(backTo a<|starEach g X.env).any (·.1)=false:=by rfl)(u:eval (.Call (.Attribute o m d) (e::g) [] a) X.env=(do
   let l <-eval o X.env
   standAt d.atName
   let (f,first) <-holding [l] (getMethod l m pl)
   callWith a f first (backTo a<|starEach (e::g) X.env) (backToKw a<|keywordEach [] X.env)):=by rfl):
  PE X (.Call (.Attribute o m d) (e::g) [] a) (F5 C m v [] E0 w t):=by
 let[f,x,F,r,b]:=M.ex;show LG p c r F (s.mono q) b .nil A2 n i h u
def zT(M:Md X.prog X.w X.K X.mg X.base j C m s p)(c:F4 X.K C)(l:eg k X.A)(g:PE X o q)(h:j<=k:=by decide)(n:eval (.Call (.Attribute o m d) [] [] a) X.env=(do
   let e <-eval o X.env
   standAt d.atName
   let (f,first) <-holding [e] (getMethod e m pl)
   callWith a f first (backTo a<|starEach [] X.env) (backToKw a<|keywordEach [] X.env)):=by rfl):
  PE X (.Call (.Attribute o m d) [] [] a) (F5 C m p [] E0 q zO):=by
 let[f,r,F,i,b]:=M.ex;show Jj g c i F (l.mono h) b .nil A2 n
end
section
variable{X:Cx}
def sb(c:PE X a f)(d:PE X b g):PE X (.BinOp a .Sub b e) (ER (ES λi j=>.int<|i -j) f g):=qH NK c d
def ad(c:PE X a f)(d:PE X b g):PE X (.BinOp a .Add b e) (ER (ES λi j=>.int<|i+j) f g):=qH NJ c d
def ml(c:PE X a f)(d:PE X b g):PE X (.BinOp a .Mult b e) (ER (rI Lz λi j=>.int<|i*j) f g):=qH NL c d
def SB(K:Frag)(i:Nat)(k:Int):TE:=λc H Q=>∃a b v,c[i]?=some (some<|.ref a)/\gT K H a b/\AW b k=some v/\Q v H
def ti(K:Frag)(i:Nat)(l:X.K=K:=by rfl)(m:X.N[i]?=some x:=by rfl)(p:NA X.env.scope x:=by first|show Or.inl rfl|show Or.inr (Or.inl rfl)|show Or.inr<|Or.inr rfl)(n:(x==("__debug__":Str))=false:=by decide)(c:(x==("__classdict__":Str))=false:=by decide):PE X (.Subscript (.Name x r) (.Constant (.int k) j f) g) (SB K i k):=by
 subst l;intro b s u H Q I h;let[a,t,v,e,o,d,q]:=h;show(Jm Jo (EM m p n c) aI λ_ _=>rfl) b s u H Q I #[_,e,a,t,k,v,0,0,o,d,q]
section
variable(K:Frag){a b e o:Expr}{ta tb te tl:TE}{pos pos':Pos}{tg:Expr}
def iR(d:PE X a ta)(f:PE X b tb)(g:BH b:=by show λ_ _=>rfl)(c:X.K=K:=by rfl):PE X (.Subscript a b pos) (ER (LO K) ta tb):=by subst c;show Jm LP d f g
def Q4(d:PE X a ta)(f:PE X b tb)(g:BH b:=by show λ_ _=>rfl)(c:X.K=K:=by rfl):PE X (.Subscript a b pos) (ER (PR K) ta tb):=by subst c;show Jm Jo d f g
def Ld{lo c:Option Expr}{tl d:TO}{j:Pos}(g:PE X e te)(h:PO X lo tl)(i:PO X c d)(f:X.K=K:=by rfl):PE X (.Subscript e (.Slice lo c none j) pos) (RA (PU K) te tl d):=by subst f;show Do LQ g h i
def Qj{lo c:Option Expr}{tl d:TO}{j:Pos}(g:PE X e te)(h:PO X lo tl)(i:PO X c d)(f:X.K=K:=by rfl):PE X (.Subscript e (.Slice lo c none j) pos) (RA (PQ K) te tl d):=by subst f;show Do NR g h i
def oE(d:PE X e tl)(c:X.K=K:=by rfl):PI X tg e (Jb K tl):=by subst c;show Lx d
def Sc(d:PE X e tl)(c:X.K=K:=by rfl):PI X tg e (NG K tl):=by subst c;show NH d
def Le(n:Nat)(h:Pu X c t)(f:X.K=K:=by rfl)(g:X.calm=true:=by rfl)(i:(assignEach c X.env).length=n:=by rfl)(d:(assignEach c X.env).findIdx? (·.1)=none:=by rfl):PG X (.Tuple c k pos) (Px K n t):=by subst f;show NE g h i d
def RO(d:PE X a ta)(f:PE X b tb)(c:X.K=K:=by rfl):PE X (.BinOp a .Add b pos) (ER (Na K) ta tb):=by subst c;show qH LL d f
def cat(c:PE X a ta)(d:PE X b tb):PE X (.BinOp a .Add b pos) (ER NW ta tb):=qH NX c d
def iU(C:Addr)(H:Hp)(v:V)(c:List (Str×V)):Prop:=∃a d,v=.ref a/\H a=some (.ins C d c)/\F4 K C/\∀f u,c.lookup f=some u->n8 K C f
def tF(ta:TE)(f:Str):TE:=λg H Q=>ta g H λx c=>∃C d v,iU K C c x d/\d.lookup f=some v/\Q v c
end
def fld(K:Frag)(b:∀g H Q k,(∀v i,Q v i->k v i)->j g H Q->j g H k)(t:PE X e j)(r:attributeBase e f X.env (eval e X.env)=eval e X.env:=by rfl)(p:X.K=K:=by rfl):PE X (.Attribute e f w) (tF K j f):=by
 subst p;intro d s g H Q I h;show NO t r d s g H Q I<|b _ _ _ _ (λx i q=>?_) h;let[C,o,v,[a,m,0,u,c,n],l,q]:=q;show#[a,C,m,o,v,0,u,c,n f v l,l,q]
def BR(i:Nat):∀b H (Q a:VK),(∀v c,Q v c->a v c)->EL i b H Q->EL i b H a:=λb H Q a m h=>let #[v,e,q]:=h;#[v,e,m _ _ q]
def fv(K:Frag)(i:Nat)(e:X.N[i]?=some x:=by rfl)(j:NA X.env.scope x:=by first|show Or.inl rfl|show Or.inr (Or.inl rfl)|show Or.inr<|Or.inr rfl)(h:(x==("__debug__":Str))=false:=by decide)(b:(x==("__classdict__":Str))=false:=by decide)(g:attributeBase (.Name x a) f X.env (eval (.Name x a) X.env)=eval (.Name x a) X.env:=by rfl)(d:X.K=K:=by rfl):PE X (.Attribute (.Name x a) f c) (tF K (EL i) f):=fld K (BR i) (EM e j h b) g d
def gc(h:∃t,X.mg x=some (.int i t))(b:Gl X x:=by rfl)(a:(x==("__debug__":Str))=false:=by decide):PE X (.Name x c) (tC<|.int i):=let #[t,h]:=h;Lr b h #[t,0] a
def RP(K:Frag):List V->Hp->VK->Prop:=λb H Q=>∃p a,b=[.ref p]/\(cc K H p a\/gT K H p a)/\Q (.int a.length) H
def mL(K:Frag)(a:X.K=K:=by rfl):gJ X (.builtin "len") (RP K):=by subst a;show BK
def Od(K:Frag)(a:X.K=K:=by rfl)(b:X.calm=true:=by rfl):gJ X (.builtin "min") (P0 K):=by subst a;show N0 b
def Qk(K:Frag)(a:X.K=K:=by rfl)(b:X.calm=true:=by rfl):gJ X (.builtin "max") (PZ K):=by subst a;show NZ b
def RQ(K:Frag)(a:X.K=K:=by rfl)(b:X.calm=true:=by rfl):gJ X (.builtin "sum") (PY K):=by subst a;show NY b
def RR(K:Frag)(a:X.K=K:=by rfl)(b:X.calm=true:=by rfl):gJ X (.builtin "any") (P1 K):=by subst a;show N1 b
def call(K:Frag)(a:X.K=K:=by rfl)(b:X.calm=true:=by rfl):gJ X (.builtin "all") (P2 K):=by subst a;show N2 b
def Sd(K:Frag)(a:X.K=K:=by rfl):p_ X (compareOp .In) (Sa K false):=by subst a;show Hg
def SC(K:Frag)(b:eg k X.A)(a:X.K=K:=by rfl):p_ X (compareOp .NotEq) (P3 K):=by subst a;show N3 b.units
def cv(g:p_ X (compareOp c) r)(e:PE X a j)(f:PE X b k)(h:c≠.In:=by decide)(d:c≠.NotIn:=by decide):PE X (.Compare a [c] [b] i) (ER r j k):=LA g e f<|Je _ h d
def ct(g:p_ X (compareOp c) r)(e:PE X a j)(f:PE X b k)(h:c≠.In:=by decide)(d:c≠.NotIn:=by decide):PT X (.Compare a [c] [b] i) (AQ<|ER r j k):=BD g e f<|Je _ h d
def Se(h:PI X d e g)(f:PI X d e c):PI X d e (λb H R=>g b H R\/c b H R):=λa s b H R I q=>q.elim (h a s b H R I)<|f a s b H R I
end
def zU(h:c a H (λx b=>g x a b<|u D)):xN (Lu c g) u D a H:=h
def Q5(h:t {D with nx:=u D} a H):xN t u D a H:=h
def Q6(h:c a H (λ_ b=>u D a b)):xN (M8 c) u D a H:=h
def c6:1<=sizeLine:=de
def da:2<=sizeLine:=de
def db:3<=sizeLine:=de
def dc:4<=sizeLine:=de
def dm:6<=sizeLine:=de
def cg(a:c=true->A)(b:c=false->B):if c=true then A else B:=by
 cases c
 .show vL<|b rfl
 .show Fd<|a rfl
def kt{Q:VK}{c d:Bool}{H:Hp}(h:c=true)(k:Q (.bl<|c&&d) H):Q (.bl d) H:=by rw[h]at k;show k
def kf{Q:VK}{c d:Bool}{H:Hp}(h:c=false)(k:Q (.bl<|c&&d) H):Q (.bl false) H:=by rw[h]at k;show k
def ot{Q:VK}{c d:Bool}{H:Hp}(h:c=true)(k:Q (.bl<|c||d) H):Q (.bl true) H:=by rw[h]at k;show k
def of{Q:VK}{c d:Bool}{H:Hp}(h:c=false)(k:Q (.bl<|c||d) H):Q (.bl d) H:=by rw[h]at k;show k
structure w_(mg:Str->Option Value):Prop where
 vN:∃t,mg "LAYERS_AT_FIRST"=some (.int 2 t)
 JG:∃t,mg "NO_NET"=some (.int 0 t)
 sD:∃t,mg "WRONG_LAYER_COUNT"=some (.int (-1) t)
 dv:∃t,mg "NO_SUCH_PIECE"=some (.int (-2) t)
 A4:∃t,mg "WRONG_NET"=some (.int (-3) t)
 sE:∃t,mg "WRONG_LAYERS"=some (.int (-4) t)
 BS:∃t,mg "WRONG_RADIUS"=some (.int (-5) t)
 sF:∃t,mg "WRONG_POINT_COUNT"=some (.int (-6) t)
 jc:∃t,mg "POINT_OUT_OF_RANGE"=some (.int (-7) t)
 DD:∃t,mg "NO_SKELETON"=some (.int (-8) t)
 DE:∃t,mg "WRONG_STEPS"=some (.int (-9) t)
 x8:∃t,mg "WRONG_DISTANCE"=some (.int (-9) t)
 Fe:∃t,mg "BOARD_FULL"=some (.int (-10) t)
 DF:∃t,mg "MOST_LAYERS"=some (.int 16 t)
 DG:∃t,mg "MOST_PIECES"=some (.int 128 t)
 DH:∃t,mg "MOST_POINTS"=some (.int 32 t)
 Ff:∃t,mg "MOST_STEPS"=some (.int 128 t)
 BU:∃t,mg "GREATEST_NET"=some (.int 1000000000 t)
 vO:∃t,mg "GREATEST_RADIUS"=some (.int 1000000000 t)
 qv:∃t,mg "GREATEST_COORDINATE"=some (.int 1000000000 t)
 sG:∃t,mg "GREATEST_DISTANCE"=some (.int 1000000000 t)
structure oF(mg:Str->Option Value):Prop where
 len:mg "len"=none
 min:mg "min"=none
 max:mg "max"=none
 abs:mg "abs"=none
 any:mg "any"=none
 all:mg "all"=none
 sum:mg "sum"=none
 sorted:mg "sorted"=none
 list:mg "list"=none
 dict:mg "dict"=none
 zip:mg "zip"=none
 enumerate:mg "enumerate"=none
 reversed:mg "reversed"=none
 range:mg "range"=none
section
variable{st:Stmt}
def Fn.dx(N:List Str)(F:Fn K o x st)(g:∀(f:Addr) (a:Value) (A:Around) (b:List Env) (s:Shared) (H:Hp) (e:List V) (Q:VK) (E:XK),eg k (A.deeper<|envOfC x (cS st) ⇑s f a)->N.Nodup->(A.deeper<|envOfC x (cS st) ⇑s f a).units+1<cLine->p e H Q E->
   ∃t,Dg (zQ CY P w K o i N x (cS st) f a A b s H E).M7 (gP st) t/\t {nx:=λ_ q=>Q .ic q,rt:=Q} (start N e) H)(S:l9 N j (cS st):=by show#[0,0,0,dk,0,dk,dk])(u:∀(kV l v:Value) (r:Option Addr) (a ct:Value) (c:List Value),c.length=j.length->bindArgs (fnOf x x (j3 st) (gP st) (cS st) .none kV l v r a ct) #[c,[]]=pure (j.zip c):=by first|(show λ_ _ _ _ _ _ c d=>match c,d with|[_],_=>rfl)|(show λ_ _ _ _ _ _ c d=>match c,d with|[_,_],_=>rfl)|(show λ_ _ _ _ _ _ c d=>match c,d with|[_,_,_],_=>rfl)|(show λ_ _ _ _ _ _ c d=>match c,d with|[_,_,_,_],_=>rfl)|(show λ_ _ _ _ _ _ c d=>match c,d with|[_,_,_,_,_],_=>rfl)|(show λ_ _ _ _ _ _ c d=>match c,d with|[_,_,_,_,_,_],_=>rfl))(m:∀e H Q E,p e H Q E->e.length=j.length:=by show λe H Q E h=>by first|(let[1,_]:=h;rfl)|(let[_,1,_]:=h;rfl)|(let[_,_,1,_]:=h;rfl)|(let[_,_,_,1,_]:=h;rfl)|(let[_,_,_,_,1,_]:=h;rfl)|(let[_,_,_,_,_,1,_]:=h;rfl)|(let[_,_,_,_,_,_,1,_]:=h;rfl)|(let[_,_,_,_,_,_,_,1,_]:=h;rfl)|(let[_,_,_,_,_,_,_,_,1,_]:=h;rfl)|(let[_,_,_,_,_,_,_,_,_,1,_]:=h;rfl)|(let[_,_,_,_,_,_,_,_,_,_,1,_]:=h;rfl)|(let[_,_,_,_,_,_,_,_,_,_,_,1,_]:=h;rfl)):Df P w K o i (k+1) x j p:=
 F.df S u m λf a A b s H e Q E n h=>g f a A b s H e Q E n S.nd (JC n) h
def Mt.dx(N:List Str)(F:Mt K C m c st)(g:∀(f:Addr) (a:Value) (A:Around) (b:List Env) (s:Shared) (H:Hp) (e:List V) (Q:VK) (E:XK),eg k (A.deeper<|envOfC c (cS st) ⇑s f a)->N.Nodup->(A.deeper<|envOfC c (cS st) ⇑s f a).units+1<cLine->q e H Q E->
   ∃t,Dg (zQ CY P w K x j N c (cS st) f a A b s H E).M7 (gP st) t/\t {nx:=λ_ r=>Q .ic r,rt:=Q} (start N e) H)(S:l9 N l (cS st):=by show#[0,0,0,dk,0,dk,dk])(v:∀(kV n y:Value) (u:Option Addr) (a ct:Value) (d:List Value),d.length=l.length->bindArgs (fnOf m c (j3 st) (gP st) (cS st) .none kV n y u a ct) #[d,[]]=pure (l.zip d):=by first|(show λ_ _ _ _ _ _ d i=>match d,i with|[_],_=>rfl)|(show λ_ _ _ _ _ _ d i=>match d,i with|[_,_],_=>rfl)|(show λ_ _ _ _ _ _ d i=>match d,i with|[_,_,_],_=>rfl)|(show λ_ _ _ _ _ _ d i=>match d,i with|[_,_,_,_,_,_],_=>rfl))(o:∀e H Q E,q e H Q E->e.length=l.length:=by show λe H Q E h=>by first|(let[_,1,_]:=h;rfl)|(let[_,_,1,_]:=h;rfl)|(let[_,_,_,1,_]:=h;rfl)|(let[_,_,_,_,1,_]:=h;rfl)|(let[_,_,_,_,_,1,_]:=h;rfl)|(let[_,_,_,_,_,_,_,1,_]:=h;rfl)|(let[_,_,_,_,_,_,_,_,_,_,_,1,_]:=h;rfl)):Md P w K x j (k+1) C m l q:=
 F.md S v o λf a A b s H e Q E p h=>g f a A b s H e Q E p S.nd (JC p) h
end
def pNames:List Str:=["net","first","last","radius","points","box","sides"]
def cT:List Str:=["layers","pieces","links","gaps"]
structure Facts(K:Frag)(mg:Str->Option Value)(CP CB:Addr):Prop where
 O5:Fn K mg "turn" (top 1)
 Ai:Fn K mg "less_square" (top 8)
 qC:Fn K mg "strictly_one_side" (top 6)
 Ei:Fn K mg "grown_box" (top 3)
 Cw:Fn K mg "boxes_meet" (top 4)
 Cy:Fn K mg "box_around" (top 2)
 y8:Fn K mg "boxes_square" (top 5)
 wz:Fn K mg "segments_meet" (top 7)
 y9:Fn K mg "point_square" (top 9)
 Cz:Fn K mg "far_beside" (top 10)
 y_:Fn K mg "segments_far" (top 11)
 Aj:Fn K mg "end_squares" (top 12)
 wA:Fn K mg "segments_near" (top 13)
 wB:Fn K mg "lesser_square" (top 14)
 CA:Fn K mg "above_root" (top 15)
 CC:Fn K mg "turns_back" (top 18)
 mV:Fn K mg "some_corner_turns_back" (top 19)
 FM:Fn K mg "sides_of" (top 17)
 nM:Fn K mg "some_sides_apart_meet" (top 20)
 Ak:Fn K mg "is_skeleton" (top 21)
 wC:Fn K mg "low_then_left" (top 22)
 Al:Fn K mg "double_area" (top 23)
 Am:Fn K mg "share_layer" (top 32)
 CD:Fn K mg "boxes_near" (top 30)
 FN:Fn K mg "encloses" (top 27)
 uR:Fn K mg "sides_near_box" (top 28)
 tI:Fn K mg "some_sides_near" (top 29)
 uS:Fn K mg "skeletons_near" (top 31)
 za:Fn K mg "pieces_touch" (top 33)
 Ik:Mt K CP "place" "Piece.place" (inClass (top 26) 1)
 CG:Mt K CP "__init__" "Piece.__init__" (inClass (top 26) 0)
 K3:Mt K CB "has" "Board.has" (inClass (top 57) 2)
 CH:Mt K CB "numbers" "Board.numbers" (inClass (top 57) 5)
 An:Mt K CB "touching" "Board.touching" (inClass (top 57) 6)
 CI:Mt K CB "is_full" "Board.is_full" (inClass (top 57) 3)
 wD:Mt K CB "least_free" "Board.least_free" (inClass (top 57) 4)
 CJ:Fn K mg "steps_from" (top 59)
 Il:Fn K mg "members" (top 60)
 zb:Fn K mg "least_joined" (top 61)
 MR:Fn K mg "parts" (top 62)
 uT:Fn K mg "reached_within" (top 64)
 uU:Fn K mg "shortest_chain" (top 63)
 uV:Fn K mg "levels_of_part" (top 65)
 Ej:Fn K mg "walk_from" (top 69)
 Ek:Fn K mg "places_on" (top 70)
 rR:Fn K mg "earliest_touched" (top 71)
 Im:Fn K mg "hanging" (top 72)
 CK:Fn K mg "cut_pieces" (top 73)
 uW:Fn K mg "needed_between" (top 74)
 zc:Fn K mg "nets_by_part" (top 77)
 wE:Fn K mg "counts_by_net" (top 78)
 wF:Fn K mg "shorted_parts" (top 79)
 CL:Fn K mg "nets_apart" (top 80)
 CM:Fn K mg "net_counts" (top 82)
 zd:Fn K mg "loose_pieces" (top 81)
 wG:Fn K mg "nearest_first" (top 34)
 CN:Fn K mg "gap_square" (top 35)
 Io:Fn K mg "in_form" (top 24)
 K4:Mt K CB "gap" "Board.gap" (inClass (top 57) 12)
 Iq:Mt K CB "link" "Board.link" (inClass (top 57) 7)
 El:Mt K CB "unlink" "Board.unlink" (inClass (top 57) 8)
 FO:Mt K CB "begin" "Board.begin" (inClass (top 57) 1)
 Ao:Mt K CB "__init__" "Board.__init__" (inClass (top 57) 0)
 K5:Mt K CB "put" "Board.put" (inClass (top 57) 9)
 Ir:Mt K CB "take" "Board.take" (inClass (top 57) 10)
 FP:Mt K CB "place" "Board.place" (inClass (top 57) 11)
 wH:Fn K mg "shapes_nearer" (top 66)
 CO:Fn K mg "near_pairs" (top 67)
 Iu:Fn K mg "as_list" (top 84)
 Em:Fn K mg "flattened" (top 85)
 Iv:Fn K mg "as_rows" (top 86)
 FQ:Fn K mg "as_lists" (top 87)
 K6:Fn K mg "is_net" (top 88)
 FR:Fn K mg "in_range" (top 89)
 Ap:Fn K mg "points_from" (top 90)
 qD:Fn K mg "refusal_of_points" (top 92)
 uX:Fn K mg "refusal_of_add" (top 93)
 ze:Fn K mg "answer_parts" (top 102)
 zf:Fn K mg "answer_loose" (top 107)
 Aq:Fn K mg "answer_cuts" (top 108)
 CQ:Fn K mg "answer_all" (top 115)
 tJ:Fn K mg "answer_touching" (top 99)
 uY:Fn K mg "answer_members" (top 101)
 wI:Fn K mg "answer_levels" (top 111)
 zg:Fn K mg "answer_reach" (top 104)
 zh:Fn K mg "answer_chain" (top 103)
 wJ:Fn K mg "answer_needed" (top 109)
 wK:Fn K mg "answer_shorts" (top 105)
 zi:Fn K mg "answer_opens" (top 106)
 zj:Fn K mg "answer_clean" (top 114)
 wL:Fn K mg "answer_joined" (top 100)
 Ar:Fn K mg "answer_nets" (top 113)
 As:Fn K mg "answer_near" (top 112)
 zk:Fn K mg "answer_begin" (top 91)
 wM:Fn K mg "answer_remove" (top 95)
 zl:Fn K mg "answer_label" (top 96)
 zm:Fn K mg "answer_piece" (top 98)
 At:Fn K mg "answer_move" (top 97)
 zn:Fn K mg "answer_point" (top 110)
 CS:Fn K mg "answer_add" (top 94)
 TP:CF K CP pNames
 c8:CF K CB cT
 Bt:oF mg
 Ct:w_ mg
 SK:makesIn K CP=true
 SL:keepIn K (.ref CP)=true
 SM:mg "Piece"=some (.ref CP)
 SN:makesIn K CB=true
 SO:keepIn K (.ref CB)=true
 SQ:mg "Board"=some (.ref CB)
section
variable{X:Cx}
def A5(b:List Int)(H:Hp)(Q:VK):Prop:=∀(a:List Int) (p:Addr),a.Perm b->a.Pairwise (·<=·)->H p=none->Q (.ref p) (upd H p<|.lst<|a.map V.int)
def JH(K:Frag):List V->Hp->VK->Prop:=λc H Q=>∃(a:Addr) (b:List Int),c=[V.ref a]/\cc K H a (b.map V.int)/\A5 b H Q
def Gf(K:Frag)(p:X.K=K:=by rfl):gJ X (.builtin "sorted") (JH K):=by
 subst p;intro k s z H y x Q I r h;let[a,w,0,v,q]:=h;let[e,l,u,i]:=I.list v;rw[Vals.uc r];let t:=l.ints;let b:e.length<=sizeLine:=by rw[<-l.length];show i
 show PyProof.Rows.sorted_intsAny u.isList t b λf c n j o=>?_;let[m,g]:=rc s.heap e f;let d:(c.map V.int).length<=sizeLine:=by rw[ac,j.length_eq];rw[ac]at i;show i
 show#[.ref _,upd H (⇑s+1)<|.lst<|c.map V.int,I.laid (t':=s.toks) (λ_ _=>pp) (Et _) #[d,f.toList,m,kQ n,g],0,q c _ j o<|I.hok.fresh<|Et _]
def vk(a:List (Key×V))(b:List Int):Prop:=a.map (·.1)=b.map Sum.inl
def x9{P:Program}{w:World}{g:List (Key×Value)}{f:List Int}(p:g.map (·.1)=f.map Sum.inl){b:Array Value}(h:ItemsOf (λi v=>∃k x,g[i]?=some (k,x)/\(cX P w).is k v=true) b g.length):IntsAre b.toList f:=by
 let u:b.toList.length=f.length:=by
  rw[aO,h.1];let:=dF List.length p;simpa using this
 show Vals.ints ?_;let n:∀(l:List Value) (a:List Int),l.length=a.length->(∀(j:Nat) (v:Value),l[j]?=some v->∃m,a[j]?=some m/\RelV (.int m) v)->Vals (a.map V.int) l:=by
  intro l
  induction l with
  |nil=>intro a d _;cases a with
   |nil=>show .nil
   |cons _ _=>cases d
  |cons v l y=>
   intro a d r;cases a with
   |nil=>cases d
   |cons m a=>
    let[z,e,q]:=r 0 v rfl;cases e
    show .cons q (y a (by simpa using d) λj v e=>r (j+1) v e)
 show n _ _ u λj v e=>?_;let[k,x,s,q]:=h.2 j v<|by rw[<-nR];show e
 let c:(g.map (·.1))[j]?=some k:=by rw[aZ,s];rfl
 rw[p,aZ]at c;cases o:f[j]?with
 |none=>rw[o]at c;cases c
 |some m=>
  rw[o]at c;let t:=bj c;subst t;show#[m,0,sC<|(EJ P w _ _).symm.trans q]
def JI:List V->Hp->VK->Prop:=λc H Q=>∃(d:Addr) (a:List (Key×V)) (b:List Int),c=[V.ref d]/\Rd H d (.dK a)/\vk a b/\A5 b H Q
def jw(L:X.calm=true:=by rfl):gJ X (.builtin "sorted") JI:=by
 intro l s U H m W Q I r h;let[d,S,T,0,M,N,q]:=h;rw[Vals.uc r];let[R,P,m,C,o,F,E,O]:=oC I.hok M;let K:s.heap.DictAt (cX X.prog X.w) d m E:=#[o,F,O];let t:m.map (·.1)=T.map Sum.inl:=by rw[<-N,C.keys]
 let B:m.length<=sizeLine:=by rw[<-C.length];show R
 show zw kind_sorted plain_sorted entry_sorted (args_sorted1 _) ?_;show ai<|aj ?_;show ai (PySem.W.kdu_collect (kdl_dict P) (I.ok.hd L) K B λi D c p a=>?_);let z:=x9 t a;let v:c.toList.length<=sizeLine:=by rw[aO,a.1];show B
 show ai<|gM ?_ v;let f:(i.push {cls:=.type "list",data:=.seq c.toList.toArray}).get? i.objs.size=some (seqObj "list" c.toList.toArray 0):=bx _ rfl;let x:Inv X l U H {s with heap:=i,toks:=D}:=I.kept p;show ai<|dR<|eh slot_list_sort #[_,f,0] Lk (list_sort_treeAny f z v λw g G y J=>#[1,?_]) (args_list_sort _);show aj #[1,?_];let[e,n]:=sortedHeap_at f;let j:(g.map V.int).length<=sizeLine:=by rw[ac,y.length_eq,<-z.length];show v
 show#[.ref i.objs.size,upd H i.objs.size<|.lst<|g.map V.int,x.laid (t':=D) (λb u A=>?_) (aE _) #[j,w.toList,e,kQ G,n],0,q g _ y J<|x.hok.fresh<|aE _];let k:=ce A;rw[sortedHeap_old (bN k)<|by rw[kw];show iT k]
 show br _ A
def Oe:List V->Hp->VK->Prop:=λc H Q=>∃(d:Addr) (a:List (Key×V)) (b:List Int),c=[V.ref d]/\Rd H d (.dK a)/\vk a b/\∀p,H p=none->Q (.ref p) (upd H p<|.lst<|b.map V.int)
def Of(v:X.calm=true:=by rfl):gJ X (.type "list") Oe:=by
 intro n s G H b F Q I r h;let[d,C,j,0,w,x,q]:=h;rw[Vals.uc r];let[B,A,b,m,o,t,p,z]:=oC I.hok w;let u:s.heap.DictAt (cX X.prog X.w) d b p:=#[o,t,z];let g:b.map (·.1)=j.map Sum.inl:=by rw[<-x,m.keys]
 let l:b.length<=sizeLine:=by rw[<-m.length];show B
 show kdl_call (kdl_dict A) (I.ok.hd v) u l λE D e c f i a=>?_;let k:=x9 g a;let y:(j.map V.int).length<=sizeLine:=by rw[ac,<-k.length,aO,a.1];show l
 show#[.ref ⇑s,upd H ⇑s<|.lst<|j.map V.int,I.laid (t':=D) f (aE _) #[y,e.toList,c,kQ k,i],0,q _<|I.hok.fresh<|aE _]
def Og(K:Frag):List V->Hp->VK->Prop:=λb H Q=>∃p a,b=[.ref p]/\(cc K H p a\/gT K H p a)/\∀l,H l=none->Q (.ref l) (upd H l<|.lst a)
def Ql(K:Frag)(a:X.K=K:=by rfl):gJ X (.type "list") (Og K):=by subst a;show BL
def Oh(c:TE):TI:=λe H R=>c e H λx b=>∃d a,x=.ref d/\b d=some (.dK a)/\∀o,R (Q3 d o a)<|upd b d<|.g9 o<|.dK a
def x_(p:PE X e w):PI X E e (Oh w):=by
 intro c s y H R I h;show dJ (p c s y H _ I h) λu D #[x,l,m,v,d,b,n,o,q]=>?_;subst n;let 0:u=Value.ref d:=v;let[j,k]:=m.lock o trivial;let f:(upd l d<|.g9 j<|.dK b) d=some (.g9 j<|.dK b):=ag;let[r,g,t,A,z,F,a,i,C,B]:=k.zS f;show qe r g t a<|uk k _ (A1 _ a) #[_,bx _ rfl,0,?_] (q j);rw[i]<;>rfl
def SD(c:TE):TE:=λe H Q=>c e H λx b=>∃d a,x=.ref d/\b d=some (.dK a)/\∀o,Q x<|upd b d<|.g9 o<|.dK a
def lk(g:PE X e l):PE X e (SD l):=by
 intro a s m H Q I h;show dJ (g a s m H _ I h) λu p #[x,n,b,k,d,i,o,f,q]=>?_;let[j,c]:=b.lock f trivial;show#[x,_,c,k,q j]
def JJ(i:PE X o k)(h:PE X e j)(f:starEach [e] X.env=[(false,eval e X.env)]:=by rfl)(a:attributeBase o "append" X.env (eval o X.env)=eval o X.env:=by rfl)(d:((backTo g<|starEach [e] X.env).all (λx=>!x.1)&&(backToKw g<|keywordEach [] X.env).all (λx=>x.1.isSome)
   &&decide (([e]:List Expr).length+([]:List Keyword).length+(if ([]:List Keyword).isEmpty then 0 else 1)<30))=true:=by rfl)(b:(c.endLine==g.line)=true:=by rfl):PE X (.Call (.Attribute o "append" c) [e] [] g) (Pb X.K "list" F9 k<|xT j zO):=
 Dq lg PySem.F.slot_list_append PySem.F.type_list_append Hh i (aa h ah f) a d b f rfl
end
section
variable{o e:Expr}
def Gg(i:PE X o k)(h:PE X e j)(f:starEach [e] X.env=[(false,eval e X.env)]:=by rfl)(a:attributeBase o "extend" X.env (eval o X.env)=eval o X.env:=by rfl)(d:((backTo g<|starEach [e] X.env).all (λx=>!x.1)&&(backToKw g<|keywordEach [] X.env).all (λx=>x.1.isSome)
   &&decide (([e]:List Expr).length+([]:List Keyword).length+(if ([]:List Keyword).isEmpty then 0 else 1)<30))=true:=by rfl)(b:(c.endLine==g.line)=true:=by rfl):PE X (.Call (.Attribute o "extend" c) [e] [] g) (Pb X.K "list" F_ k<|xT j zO):=
 Dq lg rz ri AX i (aa h ah f) a d b f rfl
def RS(f:PE X o g)(a:attributeBase o "pop" X.env (eval o X.env)=eval o X.env:=by rfl)(b:(c.endLine==d.line)=true:=by rfl):
  PE X (.Call (.Attribute o "pop" c) [] [] d) (PV X.K "list" PX g):=NU lg PySem.F.slot_list_pop PySem.F.type_list_pop NV f a b
def Oi:List V->Hp->VK->Prop:=λb H Q=>∃(d:Addr) (a:List (Key×V)),b=[V.ref d]/\Rd H d (.dK a)/\∀p,H p=none->Q (.ref p) (upd H p<|.dK a)
def Oj:gJ X (.type "dict") Oi:=by
 intro a s l H k j Q I r h;let[d,g,0,c,q]:=h;rw[Vals.uc r];show Jz I c λp i f b=>#[.ref p,_,b,0,q p f]
def Ol(d:Addr)(o:Obj)(a:List (Key×V)):It:=
 #[λi H=>H d=some (.g9 o<|.dK a)/\i<a.length,λi H x b=>∃T k v,a[i]?=some (k,v)/\x=.ref T/\H T=none/\b=upd H T (.tup [.int (i:Nat),kV k]),λi H=>H d=some (.g9 o<|.dK a)/\a.length<=i]
def Om(c:TA):TI:=λg H R=>c g H λf b=>∃d o a,f=[.ref d]/\b d=some (.g9 o<|.dK a)/\R (Ol d o a) b
def src_enumD{d:Addr}{o:Obj}{kvs:List (Key×V)}:Src (Ol d o kvs) (λH=>H d=some (.g9 o<|.dK kvs)) ((kvs.map (·.1)).zipIdx) (λH v e=>∃a,v=.ref a/\H a=some (.tup [.int (e.2:Nat),kV e.1])) where
 go:=λi H c h=>#[c,by simpa using h]
 stop:=λH c=>#[c,by simp]
 BB:=λi H v g x c y e=>by
  let[T,k,w,b,0,f,0]:=y;rw[oR,aZ,b]at e;simp at e;subst e;show#[am.new f,T,0,by rw[ag]]
def JK(K:Frag):V->List V->Hp->VK->Prop:=λx c H Q=>∃(a:Addr) (b:List Int) (n:Int),x=V.ref a/\c=[.int n]/\cc K H a (b.map V.int)/\Q (.int (b.count n:Nat)) H
def L5:Src (RJ K a vs.length) (λH=>cc K H a vs/\Paired (R H) vs xs) xs.reverse R where
 go:=λi H c h=>by
  let f:=c.2.length;rw[gH]at h;let d:vs.length -1 -i<vs.length:=om;show#[om,vs,vs[vs.length -1 -i],c.1,ak d]
 stop:=λH c=>by
  rw[gH,<-c.2.length];show aE vs.length
 BB:=λi H v j x c y e=>by
  let[0,y]:=y;let f:=c.2.length;let[l,k]:=aJ.mp e;let b:xs[vs.length -1 -i]?=some x:=by grind
  let[u,g,r]:=im c.2 b;let:=y vs c.1;rw[g]at this;cases this
  show#[am.refl _,r]
end
section
variable{td ty tx:TE}
def RT(td ty tx:TE):TE:=λe H Q=>td e H λx f=>∃a,x=.ref a/\P_ f a/\ty e f λy g=>tx e g λz c=>∃b k v d,c a=some (.dK b)/\y=kV k/\b.length<sizeLine/\
 ((cY b k=some v/\d=c)\/(cY b k=none/\v=z/\d=upd c a (.dK<|putK b k z)))/\Q v d
def oG(ho:PE X o td)(Z:PE X e ty)(hf:PE X f tx)(m:M2 X o "setdefault" n e f R):PE X (.Call (.Attribute o "setdefault" n) [e,f] [] R) (RT td ty tx):=by
 intro c s C H Q I h;show fQ m.base m.n9 m.line MZ ny PySem.F.type_dict_setdefault (dJ (ho c s C H _ I h) λu s1 #[x,N,D,rx,a,U,d,q1]=>?_);subst U;let 0:u=Value.ref a:=rx;let[t1,t2,_]:=BO D d;show#[t1,t2,?_];rw[m.trees];show eL rfl (fV (eA (dJ (Z c s1 C N _ D q1) λiv s2 #[y,O,P,ry,q2]=>
  eA (dJ (hf c s2 C O _ P q2) λfv s3 #[z,r,t,L,b,k,vv,H4,F,W,hl,K,J]=>eP ?_))))
 subst W;let q3:∀v,cY b k=some v->Q v r:=λv l=>by
  let[j,e]||[j,_]:=K
  .grind
  .rw[l]at j;cases j
 let q4:cY b k=none->Q z (upd r a<|.dK<|putK b k z):=λl=>by
  let[j,e]||[_,S,T]:=K
  .rw[l]at j;cases j
  .rw[S,T]at J;show J
 let[z',G,M,i,E]:=Gb t.hok F;let hz:M.length<=sizeLine:=by rw[<-i.length];show z'
 show ky ny E.typeIs PySem.F.entry_dict_setdefault (PySem.F.args_dict_setdefault_3 _ _ _) (kt_meets_setdefault (cX X.prog X.w) a (qI ry) G fv) #[M,E,hz,λv hv=>?_,λhn Y p hs=>?_]
 .let g:=i.val k;rw[hv]at g;cases l:cY b k with
  |none=>rw[l]at g;show g.elim
  |some B=>
   rw[l]at g;show#[B,r,t.tok _,g,q3 B l]
 .let l:cY b k=none:=by
   let g:=i.val k;rw[hn]at g;cases l:cY b k with
   |none=>rfl
   |some B=>rw[l]at g;show g.elim
  let A:(putK b k z).length<=sizeLine:=by let:=mf b k z;lk
  let w:∃q,Y.get? a=some q:=let #[q,_,_,hq,_]:=p;#[q,hq];show#[z,_,qd t (by rw[F];show True.intro) hs w<|xY A G (i.put k L) p,L,q4 l]
end
def SE(i:∀x y H (Q b:VK),(∀v a,Q v a->b v a)->r x y H Q->r x y H b)(f:∀c H (Q b:VK),(∀v a,Q v a->b v a)->d c H Q->d c H b)(g:∀c H (Q b:VK),(∀v a,Q v a->b v a)->e c H Q->e c H b):∀c H (Q b:VK),(∀v a,Q v a->b v a)->ER r d e c H Q->ER r d e c H b:=
 λc H Q b m h=>f _ _ _ _ (λx a q=>g _ _ _ _ (λy j q=>i _ _ _ _ _ m q) q) h
def mF(g:∀c H (Q b:VK),(∀v a,Q v a->b v a)->d c H Q->d c H b):∀c H (Q b:VK),(∀v a,Q v a->b v a)->tF K d f c H Q->tF K d f c H b:=
 λc H Q b m h=>g _ _ _ _ (λx a #[C,e,v,o,l,q]=>#[C,e,v,o,l,m _ _ q]) h
def Q7(j:∀d H (Q c:VK),(∀v b,Q v b->c v b)->f d H Q->f d H c)(k:∀d H (Q c:VK),(∀v b,Q v b->c v b)->i d H Q->i d H c):∀d H (Q c:VK),(∀v b,Q v b->c v b)->Ju f i d H Q->Ju f i d H c:=
 λd H Q c m h=>j _ _ _ _ (λx b q=>k _ _ _ _ (λy l #[a,v,e,g,q]=>#[a,v,e,g,m _ _ q]) q) h
def mC:∀b H (Q a:VK),(∀v c,Q v c->a v c)->tC v b H Q->tC v b H a:=λb H Q a m h=>m _ _ h
def RU:∀x y H (Q b:VK),(∀v c,Q v c->b v c)->LO K x y H Q->LO K x y H b:=λx y H Q b m #[a,g,k,v,e,d,h,f,q]=>#[a,g,k,v,e,d,h,f,m _ _ q]
def qf:∀{a:List g} {b:List f} {i:Nat} {x:f},Paired F a b->b[i]?=some x->∃v,a[i]?=some v/\F v x
 |_,_,_,_,.nil,e=>by simp at e
 |_,_,0,_,.cons r _,e=>by simp at e;subst e;show#[1,r]
 |_,_,i+1,x,.cons _ t,e=>by
  let[u,c,d]:=qf t<|by simpa using e
  show#[u,by simpa using c,d]
section
variable{td:TE}
def JL(K:KdlSrc g w T r d n P u)(y:A.handled=none)(c:u s.heap)(a:Nat->Int)(f:∀(i:Nat) (v:Value),P i v->∃t:Tok,v=Value.int (a i) t)(h:∀(p:Heap) (C:Nat) (m:Tok),(∀b o,s.heap.get? b=some o->p.get? b=some o)->Q (.int (preSum a n) m) {s with heap:=p,toks:=C}):
  wpAny (model g w) A (PySem.call (.builtin "sum") [.ref r]) Q E s:=by
 show call_sum_walkAnyS ?_;let[B,St,k,W,st]:=K.iter A.in1 s y c;show k _ _ #[⇑s,_,_,_,n,P,_,a,0,W.toS,st,λb j=>?_,f,λl m q=>?_]
 .change b<(s.heap.push B).objs.size;rw[kw];let e||j:=aB.mp j
  .rw[e];show AA _
  .rw[aP.mp j];show iT (K.there _ c).2
 .let z:∀b o,s.heap.get? b=some o->l.heap.get? b=some o:=λb o e=>
   q.heap b o (λx=>absurd (ce e) (by rw[aP.mp x];show dO _)) (br _ e)
  rw[Moved.eq_with q];show h l.heap l.toks m z
def Qm(td:TE):TE:=λe H Q=>td e H λx b=>∃(d:Addr) (a:List (Key×V)) (c:List Int),x=.ref d/\b d=some (.dK a)/\a.map (·.2)=c.map V.int/\Q (.int c.sum) b
def L6(b:List Int):preSum (λi=>b.getD i 0) b.length=b.sum:=by
 induction b with
 |nil=>rfl
 |cons a l c=>
  change preSum (λi=>(a::l).getD i 0) (l.length+1)=_;rw[PySem.W.kdu_shift,tP];change a+preSum (λi=>l.getD i 0) l.length=_;rw[c]
def L7(S:PE X e td)(T:Gl X "sum")(Y:X.mg "sum"=none)(P:X.calm=true:=by rfl)(c:attributeBase e "values" X.env (eval e X.env)=eval e X.env:=by rfl)(f:(a.endLine==z.line)=true:=by rfl)(hs:starEach [.Call (.Attribute e "values" a) [] [] z] X.env=[(false,eval (.Call (.Attribute e "values" a) [] [] z) X.env)]:=by rfl):
  PE X (.Call (.Name "sum" p) [.Call (.Attribute e "values" a) [] [] z] [] pos) (Qm td):=by
 intro m s σ H Q I h;show dU<|ja I T Y boot_sum ?_ de de;show mT ?_ hs rfl;show eA<|fQ c rfl f F.plainAttrs_dict F.slot_dict_values F.type_dict_values (dJ (S m s σ H _ I h) λu s1 #[x,L,y,rx,d,C,l,O,R,J,q]=>?_);subst O;let 0:u=Value.ref d:=rx;let[hz,B,n,K,o,N,E,A]:=oC y.hok<|Rd.of R;let G:s1.heap.DictAt (cX X.prog X.w) d n E:=#[o,N,A];let r:=G.dictOf;show#[r.typeIs,r.mapOf.noDict,?_];show method_meetsIn F.slot_dict_values F.entry_dict_values rfl<|SS #[0,r.typeIs,F.args_dict_values_1 _,_,meets_dict_values (cX X.prog X.w) d B,#[n,r],?_];show eP ?_;let W:n.length=l.length:=by
  let:=dF List.length J;rw[ac,ac]at this;rw[<-this,K.length]
 let j:∀(i:Nat) (v:Value),(∃k,n[i]?=some (k,v))->∃t:Tok,v=Value.int (l.getD i 0) t:=by
  ext i v ⟨k,e⟩;let[hi,ei]:=aJ.mp e;let g:i<l.length:=om;let[q,Z,r1,w]:=qf K e;let D:(C.map (·.2))[i]?=some q.2:=by rw[aZ,Z];rfl
  rw[J,aZ,ak g]at D;let M:=bj D;rw[<-M]at w;let[t,w]:=w;show#[t,?_];rw[show v=_ from w,bh,ak g];rfl
 show JL (PySem.W.kdl_values (kvs:=n) (ep:=E) (d:=d)) (y.ok.hd P) #[#[_,bx _ rfl,0,0],G.push _] (λi=>l.getD i 0) j λh' tk t' U=>?_;rw[W,L6];show#[.int l.sum,L,y.kept (t':=tk) λb ob q=>U _ _<|br _ q,#[1],q]
end
def JM:QY X "list.count" (JK X.K):=by
 intro w s R H x P v N Q I G p h;let[a,f,l,0,0,t,q]:=h;cases G
 cases p with
 |cons J F=>
  rename_i M O;cases F
  let[c,o,[[y,z,r,K],n,j,A,g,B],d]:=I.list t;subst A B;let b:(f.map V.int).all ph=true:=by
   rw[c7];intro v u;rw[ae]at u;let[i,1]:=u;rfl
  show kR tA #[_,j,0] PySem.F.entry_list_count (PySem.F.args_list_count_2 _ _)
   (SeqAt.list_countAt a c.toArray n z K M<|Jp<|.int l) #[j,λL k=>sy J rfl o b L<|by simpa using k,?_]
  let e:c.toArray.toList.countP (Jp<|.int l)=f.count l:=by
   clear j t q d g
   induction f generalizing c with
   |nil=>cases o;rfl
   |cons m f C=>
    cases o with
    |cons D E=>
     rw[List.countP_cons,ox,C _ E<|by rw[bm,iM,be]at b;show b.2,E4 D rfl]
     rfl
  rw[e];show#[.int _,H,I.tok _,#[1],q]
def On(i:PE X o k)(h:PE X e j)(f:starEach [e] X.env=[(false,eval e X.env)]:=by rfl)(a:attributeBase o "count" X.env (eval o X.env)=eval o X.env:=by rfl)(d:((backTo g<|starEach [e] X.env).all (λx=>!x.1)&&(backToKw g<|keywordEach [] X.env).all (λx=>x.1.isSome)
   &&decide (([e]:List Expr).length+([]:List Keyword).length+(if ([]:List Keyword).isEmpty then 0 else 1)<30))=true:=by rfl)(b:(c.endLine==g.line)=true:=by rfl):PE X (.Call (.Attribute o "count" c) [e] [] g) (Pb X.K "list" (JK X.K) k<|xT j zO):=
 Dq lg tA PySem.F.type_list_count JM i (aa h ah f) a d b f rfl
open PySem.AutoSeq1 in
def L8(l:Addr)(a:Array Value)(n:Nat)(b:Addr)(c:Array Value)(h:Nat)(f:Option Addr)(j:Array (Option Value))(o:¬(!a.isEmpty&&Builtin.List.listTooLong (a.size+c.size))=true)(p:a.size<=sizeLine)(i:a.size+c.size<=sizeLine+1):
  Meets (Builtin.«list.extend» #[[.ref l,.ref b],[]]) (λ_ R s=>s.heap.get? l=some {cls:=.type "list",dict:=none,data:=.seq a n,slots:=#[]}/\s.heap.get? b=some {cls:=.type "tuple",dict:=f,data:=.seq c h,slots:=j}/\R (.ok<|.ret Value.none) {s with heap:=s.heap.update l (Obj.mapSeq λx=>x++c),toks:=s.toks}):=
 .of_wp λe w A R s k=>by
  let[d,g,k]:=k;let m:(a++c).size<=sizeLine+1:=by rw[Array.size_append];show i
  wp_walk using(eN d rfl (_hz':=m)),hH d,hH g
  show#[1,k]
def DI(K:Frag):V->List V->Hp->VK->Prop:=λx c H Q=>∃l b a zs,x=.ref l/\c=[.ref b]/\H l=some (.lst a)/\(H b=some (.lst zs)\/gT K H b zs)/\a.length+zs.length<=sizeLine/\Q .ic (upd H l<|.lst<|a++zs)
def Fg:QZ X "list.extend" (DI X.K):=by
 intro f s L H x N v J Q I A y h;let[l,b,K,zs,0,0,j,i||i,D,q]:=h
 .show AX f s L H _ _ v J Q I A y #[l,b,K,zs,0,0,j,i,D,q]
 cases A
 let[u,0,G]:=y.one;cases G
 let[z,c,n,r,M,e]:=I.E6 j;let[a,w,[[t,g,data2,p],B,k,E,m],O]:=I.tuple i;subst k m;let C:=w.length;let o:c.toArray.size+a.toArray.size<=sizeLine:=by grind
 let d:¬(!c.toArray.isEmpty&&Builtin.List.listTooLong (c.toArray.size+a.toArray.size))=true:=by
  rw[Dr o,kb];show aR
 show kR F.slot_list_extend #[_,e,0] F.entry_list_extend (F.args_list_extend_2 _ _)
  (L8 l c.toArray n b a.toArray E g p d (by rw[aQ];lk) om) #[e,B,?_]
 show#[.ic,_,I.LR (its':=c++a) j e SX (r.append w) ?_,0,q]
 rw[aW];lk
def Rg(p:Pt):Prop:= -1000000000<=p.x/\p.x<=1000000000/\ -1000000000<=p.y/\p.y<=1000000000
def eF(K:Frag):Rep Pt:=λH v p=>IsT K H v [p.x,p.y]/\Rg p
def eF.mon:Mon K (eF K):=λ_ _ _ _ t h=>#[h.1.ts t,h.2]
def eF.same(h:eF K H v p)(t:am H a):eF K a v p:=eF.mon _ _ _ _ (am.ts t) h
def jd(K:Frag):Rep oT:=λH v b=>IsT K H v [b.l,b.b,b.r,b.t]
def jd.mon:Mon K (jd K):=λ_ _ _ _ t h=>h.ts t
def ki(K:Frag):Rep (Int×Int):=λH v q=>IsT K H v [q.1,q.2]
def ki.mon:Mon K (ki K):=λ_ _ _ _ t h=>h.ts t
def L9{b:Type}(R:Rep b)(H:Hp)(Q:VK)(x:b):Prop:=∀a v,am H a->R a v x->Q v a
section
variable{K:Frag}
def boot_min:bootBuiltins "min"=some (.builtin "min"):=dk
def boot_max:bootBuiltins "max"=some (.builtin "max"):=dk
def boot_abs:bootBuiltins "abs"=some (.builtin "abs"):=dk
def boot_any:bootBuiltins "any"=some (.builtin "any"):=dk
def boot_all:bootBuiltins "all"=some (.builtin "all"):=dk
def boot_sum:bootBuiltins "sum"=some (.builtin "sum"):=dk
def boot_sorted:bootBuiltins "sorted"=some (.builtin "sorted"):=dk
def boot_len:bootBuiltins "len"=some (.builtin "len"):=dk
def boot_list:bootBuiltins "list"=some (.type "list"):=dk
def boot_dict:bootBuiltins "dict"=some (.type "dict"):=dk
def xf(K:Frag):Sp:=λd H Q _=>∃(a b c:V) (p q r:Pt),d=[a,b,c]/\eF K H a p/\eF K H b q/\eF K H c r/\Q (.int<|turnOf p q r) H
def Oo(T:Facts K m v u):Df P w K m g 1 "turn" ["a","b","c"] (xf K):=by
 show T.O5.dx ["a","b","c"] λf l A e s H B Q E x z y h=>?_;let[_,_,_,p,q,r,0,[[a,0,d],n],[[b,0,i],o],[[c,0,j],t],k]:=h;unfold Rg at n o t;show#[_,(ao<|aM<|sb (ml (sb (ti K 1)<|ti K 0)<|sb (ti K 2)<|ti K 0)<|ml (sb (ti K 1)<|ti K 0)<|sb (ti K 2)<|ti K 0),?_];show#[_,_,1,i,0,_,_,1,d,0,_,1,0,_,_,1,j,0,_,_,1,d,0,_,1,0,_,1,0,.inl #[om,om],
  _,_,1,i,0,_,_,1,d,0,_,1,0,_,_,1,j,0,_,_,1,d,0,_,1,0,_,1,0,.inl #[om,om],_,1,0,k]
def io(K:Frag):Sp:=λc H Q _=>∃(a b:V) (q r:Int×Int),c=[a,b]/\ki K H a q/\ki K H b r/\(0<q.2/\q.2<2^64)/\(0<r.2/\r.2<2^64)/\Q (.bl<|decide<|q.1*r.2<r.1*q.2) H
def zV(T:Facts K j m l):Df P w K j d 1 "less_square" ["square","other"] (io K):=by
 show T.Ai.dx ["square","other"] λf i A c s H v Q E p u t h=>?_;let[_,_,q,r,0,[a,0,e],[b,0,g],n,o,k]:=h;show#[_,(ao<|aM<|cv xQ (ml (ti K 0)<|ti K 1)<|ml (ti K 1)<|ti K 0),?_];show#[_,_,1,e,0,_,_,1,g,0,_,1,0,.inr #[om,om],_,_,1,g,0,_,_,1,e,0,_,1,0,.inr #[om,om],_,1,0,k]
def ir(K:Frag):Sp:=λa H Q _=>∃(u v:Int),a=[.int u,.int v]/\Q (.bl<|bZ u v) H
def qw(T:Facts K j m l):Df P w K j g 1 "strictly_one_side" ["first","second"] (ir K):=by
 show T.qC.dx ["first","second"] λf i A d s H q Q E n p o h=>?_
 let[u,v,0,k]:=h;show#[_,(ao<|aM<|M6 (mJ (cv oB (pv 0) aI)<|mI<|cv oB (pv 1) aI)<|mI<|mJ (cv xQ (pv 0) aI)<|mI<|cv xQ (pv 1) aI),?_];show#[1,_,1,0,1,?_];let e:bZ u v=((decide (0<u)&&decide (0<v))||(decide (u<0)&&decide (v<0))):=rfl;rw[e]at k;show cg (λb=>?_) λb=>?_
 .rw[b]at k;show#[1,_,1,0,1,?_];show cg (λc=>?_) λc=>?_
  .rw[c]at k;show k
  .rw[c]at k;show#[1,_,1,0,1,?_];show cg (λa=>#[1,_,1,0,kt a k]) λa=>kf a k
 .rw[b]at k;show#[1,vL #[1,_,1,0,1,?_]];show cg (λa=>#[1,_,1,0,kt a k]) λa=>kf a k
def sI(K:Frag):Sp:=λc H Q _=>∃(a:V) (b:oT) (D:Int),c=[a,.int D]/\jd K H a b/\L9 (jd K) H Q (bO b D)
def DJ(T:Facts K j m l):Df P w K j e 1 "grown_box" ["box","by"] (sI K):=by
 show T.Ei.dx ["box","by"] λf g A d s H r Q E n q o h=>?_
 let[_,b,D,0,[a,0,c],k]:=h;show#[_,(ao<|aM<|eI<|aa (sb (ti K 0)<|pv 1)<|aa (sb (ti K 0)<|pv 1)<|aa (ad (ti K 0)<|pv 1)<|aa (ad (ti K 0)<|pv 1) ah),?_];show#[_,_,1,c,0,1,_,1,0,_,_,1,c,0,1,_,1,0,_,_,1,c,0,1,_,1,0,_,_,1,c,0,1,_,1,0,dc,λp i=>k _ _ (am.new i) #[p,0,gT.of ag]]
def mM(K:Frag):Sp:=λd H Q _=>∃(a c:V) (b o:oT),d=[a,c]/\jd K H a b/\jd K H c o/\Q (.bl<|cC b o) H
def BV(T:Facts K p r q):Df P w K p m 1 "boxes_meet" ["box","other"] (mM K):=by
 show T.Cw.dx ["box","other"] λf n A l s H x Q E t v u h=>?_;let[_,_,b,o,0,[a,0,g],[c,0,i],k]:=h;show#[_,(ao<|aM<|mJ (cv fE (ti K 0)<|ti K 1)<|mJ (cv fE (ti K 1)<|ti K 0)<|mJ (cv fE (ti K 0)<|ti K 1)<|mI<|cv fE (ti K 1)<|ti K 0),?_];show#[_,_,1,g,0,_,_,1,i,0,_,1,0,1,cg (λd=>#[_,_,1,i,0,_,_,1,g,0,_,1,0,1,cg (λe=>#[_,_,1,g,0,_,_,1,i,0,_,1,0,1,
  cg (λj=>#[_,_,1,i,0,_,_,1,g,0,_,1,0,kt j<|kt e<|kt d k]) (λj=>kf j<|kt e<|kt d k)]) λe=>kf e<|kt d k]) λd=>kf d k]
def mN(K:Frag):Sp:=λe H Q _=>∃(d:V) (b:List Pt),e=[d]/\(∃a c,d=.ref a/\(cc K H a c\/gT K H a c)/\Paired (eF K H) c b)/\b≠[]/\b.length<=100/\L9 (jd K) H Q (bM b)
def vo:∀(l:List Int) (x:Int),l.foldl (λm y=>if y<m then y else m) x∈x::l
 |[],x=>by simp
 |z::r,x=>by
  rw[f6];let a:=vo r (if z<x then z else x);let e||e:=aB.mp a
  .rw[e];split<;>simp
  .grind
def vt:∀(l:List Int) (x:Int),l.foldl (λm y=>if m<y then y else m) x∈x::l
 |[],x=>by simp
 |z::r,x=>by
  rw[f6];let a:=vt r (if x<z then z else x);let e||e:=aB.mp a
  .rw[e];split<;>simp
  .grind
def JN(h:l≠[]):zG l∈l:=by
 cases l with
 |nil=>show absurd rfl h
 |cons x r=>show vo r x
def JO(h:l≠[]):zH l∈l:=by
 cases l with
 |nil=>show absurd rfl h
 |cons x r=>show vt r x
def Gh(c:m∈l)(d:∀y,y∈l->m<=y):m=zG l:=by
 let a:=Bs c;let b:=d _<|JN<|gX c;lk
def Gi(c:m∈l)(d:∀y,y∈l->y<=m):m=zH l:=by
 let a:=Bu c;let b:=d _<|JO<|gX c;lk
def vw(i:Nat)(j:cc K H a A\/gT K H a A)(u:Paired (eF K H) A m)(w:m.length<=100)(t:g[0]?=some (some<|.ref a))(E:∀(b:Addr) (p:Pt) (H:Hp) (Q:VK),gT K H b [.int p.x,.int p.y]->Q (.int<|f p) H->z ((wipe g [i]).set i<|some<|.ref b) H Q)(F:∀v,wipe ((wipe g [i]).set i<|some v) [i]=wipe g [i])(C:∀c D,am H c->c D=some (.lst<|(m.map f).map V.int)->Q (.ref D) c):
  Pd (λg H R=>Jb K (EL 0) g H R\/NG K (EL 0) g H R) (dQ i) Js z [i] g H Q:=by
 let fin:∀c D h,am H c->H D=none->c D=some (.lst h)->Paired (ul c) h ((m.filter λ_=>true).map f)->Q (.ref D) c:=λc D h s _ e I=>by
  let q:=x6 I;rw[Eu.mpr λ_ _=>rfl]at q;rw[q]at e;show C c D s e
 have step:∀(x:Pt) (v:V) (d:Hp) (l:VK) (n:Hp->Prop),x∈m->am H d->eF K d v x->(∀c y,am d c->(λ_=>true) x=true->ul c y (f x)->l y c)->(∀c,am d c->(λ_:Pt=>true) x=false->n c)->
   dQ i v (wipe g [i]) d λk d=>wipe k [i]=wipe g [i]/\Js k d λb o=>if b=true then z k o l else n o:=λx v d l n J s r G L=>by
  let[[b,0,B],_]:=r;show#[F _,?_];show E b x d l B<|G _ _ (am.refl _) rfl rfl
 let j||j:=j
 .show vM<|.inl #[_,t,a,0,#[_,j],?_];show kG (K:=K) src_list ul.mon (λ_=>true) f (bi w de) (λc s=>#[s.seq j,cO eF.mon (am.ts s) u]) step fin
 .show vM<|.inr #[_,t,a,0,#[_,j],?_];show kG (K:=K) L4 ul.mon (λ_=>true) f (bi w de) (λc s=>#[am.ts s _ _ j,cO eF.mon (am.ts s) u]) step fin
def BW(T:Facts K S W U):Df P w K S o 1 "box_around" ["points"] (mN K):=by
 show T.Cy.dx ["points","point","across","upwards"] λf M A j s H vs Q E Z e hu h=>?_;let[_,z,0,[a,us,0,u,t],O,v,k]:=h;show#[_,(af (kh (i:=2) rfl e rfl rfl (ma rfl rfl rfl rfl) (Se (oE K<|pv 0)<|Sc K<|pv 0) (cZ (own:=[("point",1)])<|by kernel_rfl) (λ_ _ _ _ _=>(bF 1 e)) (λ_ _ _ _ _=>g_) λ_ _ _ _ _=>(ti K 1))
  (af (kh (i:=3) rfl e rfl rfl (ma rfl rfl rfl rfl) (Se (oE K<|pv 0)<|Sc K<|pv 0) (cZ (own:=[("point",1)])<|by kernel_rfl) (λ_ _ _ _ _=>(bF 1 e)) (λ_ _ _ _ _=>g_) λ_ _ _ _ _=>(ti K 1))
  (ao<|aM<|eI<|aa (bC (Od K) SY T.Bt.min boot_min<|aa (pv 2) ah)<|aa (bC (Od K) SY T.Bt.min boot_min<|aa (pv 3) ah)<|aa (bC (Qk K) SY T.Bt.max boot_max<|aa (pv 2) ah)<|aa (bC (Qk K) SY T.Bt.max boot_max<|aa (pv 3) ah) ah))),?_]
 show zU ?_;show vw 1 u t v rfl (λb p H Q i q=>#[_,_,1,i,0,q]) (λ_=>rfl) λX m d N=>?_;let g:=u.imp d.seq<|am.ts d _ _;show zU ?_;show vw 1 g (cO eF.mon (am.ts d) t) v rfl (λb p H Q i q=>#[_,_,1,i,0,q]) (λ_=>rfl) λY n l r=>?_;let c:=l _ _ N;let x:0<(z.map λp=>p.x).length:=by grind
 let y:0<(z.map λp=>p.y).length:=by grind
 show#[1,m,1,cc.of c,x,λm1 B G=>#[1,n,1,cc.of r,y,λm2 C I=>#[1,m,1,cc.of c,x,λm3 D J=>#[1,n,1,cc.of r,y,λm4 F L=>#[dc,λp R=>?_]]]]];show k _ _ (am.upd (d.trans l)<|(d.trans l).free R) #[p,0,?_];rw[Gh B G,Gh C I,Gi D J,Gi F L];show gT.of ag
end
def A6(e:X.calm=true):gJ X (.builtin "max") (λd H Q=>∃i j l,d=[.int i,.int j,.int l]/\Q (.int<|max i<|max j l) H):=by
 intro c s v H d o Q I r h;let[i,j,l,0,q]:=h;cases r with
 |cons f r=>
  let[u,p,0,[m,0],[t2,0]]:=vals2 r;let[t,0]:=f;show max_three_ints (I.ok.hd e) λg n k=>#[_,H,I.kept k,?_,q];by_cases b:j>i
  .rw[aH b];by_cases a:l>j
   .rw[aH a,show max i (max j l)=l by lk];show#[1]
   .rw[az a,show max i (max j l)=j by lk];show#[1]
  .rw[az b];by_cases a:l>i
   .rw[aH a,show max i (max j l)=l by lk];show#[1]
   .rw[az a,show max i (max j l)=i by lk];show#[1]
def Qn(i j:Int):Prop:=0<j/\j<2^64
def JP:p_ X (binaryOp .FloorDiv) (rI Qn λi j=>.int<|i/j):=PD λi j _ _ _ _ _ a q=>by
 let c:(0:Int)<j:=a.1;let d:j<2^64:=a.2;show floordiv_int om (by rw[qs i om];show q)<|.inl<|PyProof.noPylong_of_log2 ?_
 let b:j.natAbs<2^64:=om;let e:j.natAbs.log2<64:=(y3 om).mpr b;lk
def zW(m:PE X o p)(a:attributeBase o "bit_length" X.env (eval o X.env)=eval o X.env:=by rfl)(b:(c.endLine==g.line)=true:=by rfl):
  PE X (.Call (.Attribute o "bit_length" c) [] [] g) (λk H Q=>p k H λx f=>∃i,x=.int i/\Q (.int (Builtin.Int.intBits i:Nat)) f):=by
 intro d s k H Q I h;show PySem.Call_method0 a b (dJ (m d s k H _ I h) λv q #[x,f,l,n,j]=>?_);let[i,0,j]:=j;let[t,0]:=_root_.id n;show#["int",_,F.plainAttrs_int,slot_int_bit_length,type_int_bit_length,typeIs_int _ _ _,(λ_ e=>nomatch e),eL rfl<|SS<|call_int_bit_length #[.int _,f,l.tok _,#[1],j]]
def um(b o:oT):Int×Int:=((max (b.l -o.r)<|max (o.l -b.r) 0)*(max (b.l -o.r)<|max (o.l -b.r) 0)+(max (b.b -o.t)<|max (o.b -b.t) 0)*(max (b.b -o.t)<|max (o.b -b.t) 0),1)
def mO(q r:Int×Int):Bool:=decide<|q.1*r.2<r.1*q.2
def hU(p a b:Pt):Int×Int:=
 if (p.x -a.x)*(b.x -a.x)+(p.y -a.y)*(b.y -a.y)<=0 then((p.x -a.x)*(p.x -a.x)+(p.y -a.y)*(p.y -a.y),1)else
 if (b.x -a.x)*(b.x -a.x)+(b.y -a.y)*(b.y -a.y)<=(p.x -a.x)*(b.x -a.x)+(p.y -a.y)*(b.y -a.y)then((p.x -b.x)*(p.x -b.x)+(p.y -b.y)*(p.y -b.y),1)else
 (((b.x -a.x)*(p.y -a.y) -(b.y -a.y)*(p.x -a.x))*((b.x -a.x)*(p.y -a.y) -(b.y -a.y)*(p.x -a.x)),(b.x -a.x)*(b.x -a.x)+(b.y -a.y)*(b.y -a.y))
def ab(i:Int):Int:=if i<0 then -i else i
def mn(i j:Int):Int:=if j<i then j else i
def BX(a b c d:Pt)(q:Int×Int):Bool:=
 bZ (turnOf a b c) (turnOf a b d)&&decide (q.1*((b.x -a.x)*(b.x -a.x)+(b.y -a.y)*(b.y -a.y))<mn (ab<|turnOf a b c) (ab<|turnOf a b d)*mn (ab<|turnOf a b c) (ab<|turnOf a b d)*q.2)
def BY(a b c d:Pt)(q:Int×Int):Bool:=BX a b c d q||BX c d a b q
def fu(a b c d:Pt):List (Int×Int):=[hU a c d,hU b c d,hU c a b,hU d a b]
def pD(a b c d:Pt):Bool:=if bZ (turnOf a b c) (turnOf a b d)then false else if bZ (turnOf c d a) (turnOf c d b)then false else cC (bM [a,b]) (bM [c,d])
def sJ(a b c d:Pt)(q:Int×Int):Bool:=if BY a b c d q then false else if pD a b c d then true else(fu a b c d).any λf=>!mO q f
def lH(a b c d:Pt)(q:Int×Int):Int×Int:=if BY a b c d q then q else(fu a b c d).foldl (λm f=>if mO f m then f else m) q
def Sq(q:Int×Int):Prop:=0<=q.1/\0<q.2/\q.2<2^64
def Qo(g: -m<=a)(h:a<=m)(i: -n<=b)(j:b<=n): -(m*n)<=a*b/\a*b<=m*n:=by
 let c:0<=(m -a)*(n+b):=bD om om;let d:0<=(m+a)*(n -b):=bD om om;let e:0<=(m -a)*(n -b):=bD om om;let f:0<=(m+a)*(n+b):=bD om om;walk<;>grind
def Fh(h:Rg p)(b:Rg a):(-2000000000<=p.x -a.x/\p.x -a.x<=2000000000)/\(-2000000000<=p.y -a.y/\p.y -a.y<=2000000000):=by unfold Rg at h b;lk
def big(h: -2000000000<=a/\a<=2000000000)(c: -2000000000<=b/\b<=2000000000): -4000000000000000000<=a*b/\a*b<=4000000000000000000:=by
 let q:=Qo h.1 h.2 c.1 c.2;lk
def sK(f:Rg p)(d:Rg a)(e:Rg b):Sq (hU p a b):=by
 let r:=Fh f d;let c:=Fh e d;let s:=Fh f e;let o:=big c.1 c.1;let q:=big c.2 c.2;let t:=sq_nonneg<|p.x -a.x;let u:=sq_nonneg<|p.y -a.y;let v:=sq_nonneg<|p.x -b.x;let w:=sq_nonneg<|p.y -b.y;let x:=sq_nonneg<|b.x -a.x;let y:=sq_nonneg<|b.y -a.y;let j:=sq_nonneg<|(b.x -a.x)*(p.y -a.y) -(b.y -a.y)*(p.x -a.x);unfold hU Sq;split
 .dsimp only;lk
 .rename_i g;split
  .dsimp only;lk
  .dsimp only;show#[j,?_,om];by_cases i:0<(b.x -a.x)*(b.x -a.x)+(b.y -a.y)*(b.y -a.y)
   .show i
   .exfalso;let k:(b.x -a.x)*(b.x -a.x)=0:=om;let l:(b.y -a.y)*(b.y -a.y)=0:=om;let m:b.x -a.x=0:=by let h||h:=bY.mp k<;>show h
    let n:b.y -a.y=0:=by let h||h:=bY.mp l<;>show h
    rw[m,n,dX,dX]at g;lk
def xC(f:Rg a)(g:Rg b)(h:Rg c): -8000000000000000000<=turnOf a b c/\turnOf a b c<=8000000000000000000:=by
 let d:=Fh g f;let e:=Fh h f;let i:=big d.1 e.2;let j:=big d.2 e.1;unfold turnOf;lk
def Op(h: -8000000000000000000<=u/\u<=8000000000000000000)(a: -8000000000000000000<=v/\v<=8000000000000000000):0<=mn (ab u) (ab v)/\mn (ab u) (ab v)<=8000000000000000000:=by
 unfold mn ab
 repeat' split
 all_goals lk
section
variable{K:Frag}
def kH(K:Frag):Sp:=λd H Q _=>∃(a c:V) (b o:oT),d=[a,c]/\jd K H a b/\jd K H c o/\(-(2^60)<=b.l/\b.l<=2^60/\ -(2^60)<=b.b/\b.b<=2^60/\ -(2^60)<=b.r/\b.r<=2^60/\ -(2^60)<=b.t/\b.t<=2^60)/\
 (-(2^60)<=o.l/\o.l<=2^60/\ -(2^60)<=o.b/\o.b<=2^60/\ -(2^60)<=o.r/\o.r<=2^60/\ -(2^60)<=o.t/\o.t<=2^60)/\L9 (ki K) H Q (um b o)
def ya(T:Facts K n r q):Df P w K n i 1 "boxes_square" ["box","other"] (kH K):=by
 show T.y8.dx ["box","other","across","upwards"] λf l A g s H y Q E v j x h=>?_;let[_,_,b,o,0,[a,0,d],[c,0,e],t,u,k]:=h;show#[_,(af (aS 2 j<|bC (A6 rfl) SY T.Bt.max boot_max<|aa (sb (ti K 0)<|ti K 1)<|aa (sb (ti K 1)<|ti K 0)<|aa aI ah)
  (af (aS 3 j<|bC (A6 rfl) SY T.Bt.max boot_max<|aa (sb (ti K 0)<|ti K 1)<|aa (sb (ti K 1)<|ti K 0)<|aa aI ah)
  (ao<|aM<|eI<|aa (ad (ml (pv 2)<|pv 2)<|ml (pv 3)<|pv 3)<|aa aI ah))),?_]
 show#[_,_,1,d,0,_,_,1,e,0,_,1,0,_,_,1,e,0,_,_,1,d,0,_,1,0,_,_,1,?_];show#[_,_,1,d,0,_,_,1,e,0,_,1,0,_,_,1,e,0,_,_,1,d,0,_,1,0,_,_,1,?_];show#[2,_,1,0,.inl #[om,om],2,_,1,0,.inl #[om,om],_,1,0,da,λp m=>k _ _ (am.new m) #[p,0,gT.of ag]]
def jQ(K:Frag):Sp:=λj H Q _=>∃(f g h i:V) (a b c d:Pt),j=[f,g,h,i]/\eF K H f a/\eF K H g b/\eF K H h c/\eF K H i d/\∀e,am H e->Q (.bl<|pD a b c d) e
def vP(T:Facts K y I G):Df P w K y v 2 "segments_meet" ["a","b","c","d"] (jQ K):=by
 show T.wz.dx ["a","b","c","d"] λf x A u s H Y Q E e N M h=>?_;let[S,U,W,X,a,b,c,d,0,m,n,o,q,k]:=h;show#[_,(af (cF (cV<|du (qw T) e<|aa (du (Oo T) e<|aa (pv 0)<|aa (pv 1)<|aa (pv 2) ah)<|aa (du (Oo T) e<|aa (pv 0)<|aa (pv 1)<|aa (pv 3) ah) ah) (ao<|aM iN) bA)
  (af (cF (cV<|du (qw T) e<|aa (du (Oo T) e<|aa (pv 2)<|aa (pv 3)<|aa (pv 0) ah)<|aa (du (Oo T) e<|aa (pv 2)<|aa (pv 3)<|aa (pv 1) ah) ah) (ao<|aM iN) bA)
  (ao<|aM<|du (BV T) e<|aa (du (BW T) e<|aa (eI<|aa (pv 0)<|aa (pv 1) ah) ah)<|aa (du (BW T) e<|aa (eI<|aa (pv 2)<|aa (pv 3) ah) ah) ah))),?_]
 show#[3,_,_,_,_,_,1,m,n,o,3,_,_,_,_,_,1,m,n,q,_,2,?_];show cg (λl=>?_) λl=>?_
 .let:=k _<|am.refl H;unfold pD at this;rw[l]at this;show this
 show#[3,_,_,_,_,_,1,o,q,m,3,_,_,_,_,_,1,o,q,n,_,2,?_];show cg (λr=>?_) λr=>?_
 .let:=k _<|am.refl H;unfold pD at this;rw[l,r]at this;show this
 show#[2,da,λp t=>#[_,[a,b],0,#[p,1,.inr<|gT.of ag,.cons (m.same<|am.new t)<|.cons (n.same<|am.new t) .nil],by simp,by simp,λJ O D B=>?_]]
 let i:=(am.new t).trans D;show#[2,da,λz g=>#[_,[c,d],0,#[z,1,.inr<|gT.of ag,.cons (o.same<|i.trans<|am.new g)<|.cons (q.same<|i.trans<|am.new g) .nil],by simp,by simp,λL R F C=>?_]]
 let j:=(am.new g).trans F;show#[_,_,_,1,jd.mon _ _ _ _ (am.ts j) B,C,?_];let:=k _<|i.trans j;unfold pD at this;rw[l,r]at this;show this
def kI(K:Frag):Sp:=λf H Q _=>∃(c d e:V) (p a b:Pt),f=[c,d,e]/\eF K H c p/\eF K H d a/\eF K H e b/\L9 (ki K) H Q (hU p a b)
def yb(T:Facts K B D C):Df P w K B r 1 "point_square" ["p","a","b"] (kI K):=by
 show T.y9.dx ["p","a","b","across","upwards","x","y","along","length","beside"] λf z A o s H M Q E J c L h=>?_;let[_,_,_,p,a,b,0,[[R,0,j],y],[[N,0,g],v],[[O,0,i],x],k]:=h;let t:=Fh y v;let u:=Fh x v;let I:=Fh y x;show#[_,(af (aS 3 c<|sb (ti K 2)<|ti K 1)
  (af (aS 4 c<|sb (ti K 2)<|ti K 1)
  (af (aS 5 c<|sb (ti K 0)<|ti K 1)
  (af (aS 6 c<|sb (ti K 0)<|ti K 1)
  (af (aS 7 c<|ad (ml (pv 5)<|pv 3)<|ml (pv 6)<|pv 4)
  (af (cF (ct fE (pv 7) aI) (ao<|aM<|eI<|aa (ad (ml (pv 5)<|pv 5)<|ml (pv 6)<|pv 6)<|aa aI ah) bA)
  (af (aS 8 c<|ad (ml (pv 3)<|pv 3)<|ml (pv 4)<|pv 4)
  (af (cF (ct M_ (pv 7)<|pv 8) (af (aS 5 c<|sb (ti K 0)<|ti K 2)
  (af (aS 6 c<|sb (ti K 0)<|ti K 2)
  (ao<|aM<|eI<|aa (ad (ml (pv 5)<|pv 5)<|ml (pv 6)<|pv 6)<|aa aI ah))) bA)
  (af (aS 9 c<|sb (ml (pv 3)<|pv 6)<|ml (pv 4)<|pv 5)
  (ao<|aM<|eI<|aa (ml (pv 9)<|pv 9)<|aa (pv 8) ah)))))))))),?_]
 show#[_,_,1,i,0,_,_,1,g,0,_,1,0,_,_,1,i,0,_,_,1,g,0,_,1,0,_,_,1,j,0,_,_,1,g,0,_,1,0,_,_,1,j,0,_,_,1,g,0,_,1,0,2,_,1,0,.inl #[om,om],2,_,1,0,.inl #[om,om],_,1,0,1,_,1,0,1,?_]
 show cg (λl=>?_) λl=>?_
 .show#[2,_,1,0,.inl #[om,om],2,_,1,0,.inl #[om,om],_,1,0,da,λq e=>k _ _ (am.new e) #[q,0,?_]];unfold hU;rw[aH<|aF l];show gT.of ag
 let d:=cb l;show#[2,_,1,0,.inl #[om,om],2,_,1,0,.inl #[om,om],_,1,0,2,_,1,0,1,?_];show cg (λm=>?_) λm=>?_
 .show#[_,_,1,j,0,_,_,1,i,0,_,1,0,_,_,1,j,0,_,_,1,i,0,_,1,0,2,_,1,0,.inl #[om,om],2,_,1,0,.inl #[om,om],_,1,0,da,λq e=>k _ _ (am.new e) #[q,0,?_]];unfold hU;rw[az d,aH<|aF m];show gT.of ag
 let n:=cb m;let F:=big u.1 t.2;let G:=big u.2 t.1;show#[2,_,1,0,.inl #[om,om],2,_,1,0,.inl #[om,om],_,1,0,2,_,1,0,.inl #[om,om],1,da,λq e=>k _ _ (am.new e) #[q,0,?_]];unfold hU;rw[az d,az n];show gT.of ag
def qL(K:Frag):Sp:=λj H Q _=>∃(e f g h i:V) (a b c d:Pt) (q:Int×Int),j=[e,f,g,h,i]/\eF K H e a/\eF K H f b/\eF K H g c/\eF K H h d/\ki K H i q/\Sq q/\Q (.bl<|BX a b c d q) H
def BZ(T:Facts K C F D):Df P w K C p 2 "far_beside" ["a","b","c","d","square"] (qL K):=by
 show T.Cz.dx ["a","b","c","d","square","across","upwards","first","second","nearest"] λf z A n s H S Q E B i M h=>?_
 let[_,_,_,_,_,a,b,c,d,q,0,[[U,0,g],j],[[W,0,r],o],[[X,0,t],x],[[xd,0,u],y],[Y,0,v],[N,O,R],k]:=h;let l:=Fh o j;let J:=Fh x j;let L:=Fh y j;let t1:=xC j o x;let t2:=xC j o y;let t3:=Op t1 t2;let G:=big l.1 l.1;let I:=big l.2 l.2;show#[_,(af (aS 5 i<|sb (ti K 1)<|ti K 0)
  (af (aS 6 i<|sb (ti K 1)<|ti K 0)
  (af (aS 7 i<|sb (ml (pv 5)<|sb (ti K 2)<|ti K 0)<|ml (pv 6)<|sb (ti K 2)<|ti K 0)
  (af (aS 8 i<|sb (ml (pv 5)<|sb (ti K 3)<|ti K 0)<|ml (pv 6)<|sb (ti K 3)<|ti K 0)
  (af (cF (dG<|cV<|du (qw T) B<|aa (pv 7)<|aa (pv 8) ah) (ao<|aM iN) bA)
  (af (aS 9 i<|bC (AR rfl) SY T.Bt.min boot_min<|aa (bC xR SY T.Bt.abs boot_abs<|aa (pv 7) ah)<|aa (bC xR SY T.Bt.abs boot_abs<|aa (pv 8) ah) ah)
  (ao<|aM<|cv oB (ml (ml (pv 9)<|pv 9)<|ti K 4)<|ml (ti K 4)<|ad (ml (pv 5)<|pv 5)<|ml (pv 6)<|pv 6))))))),?_]
 show#[_,_,1,r,0,_,_,1,g,0,_,1,0,_,_,1,r,0,_,_,1,g,0,_,1,0,1,_,_,1,t,0,_,_,1,g,0,_,1,0,_,1,0,.inl #[om,om],1,_,_,1,t,0,_,_,1,g,0,_,1,0,_,1,0,.inl #[om,om],_,1,0,1,_,_,1,u,0,_,_,1,g,0,_,1,0,_,1,0,.inl #[om,om],1,_,_,1,u,0,_,_,1,g,0,_,1,0,_,1,0,.inl #[om,om],_,1,0,2,_,2,?_]
 change if (!bZ (turnOf a b c) (turnOf a b d))=true then _ else _;show cg (λm=>?_) λm=>?_
 .let e:bZ (turnOf a b c) (turnOf a b d)=false:=by simpa using m
  unfold BX at k;show kf e k
 let e:bZ (turnOf a b c) (turnOf a b d)=true:=by simpa using m
 show#[4,_,1,?_];show#[2,_,1,0,?_,_,_,1,v,0,_,1,0,.inr #[om,om],_,_,1,v,0,2,_,1,0,.inl #[om,om],2,_,1,0,.inl #[om,om],_,1,0,_,1,0,?_,_,1,0,?_]
 .show .inl ?_;change -(2^64)<mn (ab<|turnOf a b c) (ab<|turnOf a b d)/\mn (ab<|turnOf a b c) (ab<|turnOf a b d)<2^64;lk
 .show .inr ?_;change -(2^64)<(b.x -a.x)*(b.x -a.x)+(b.y -a.y)*(b.y -a.y)/\(b.x -a.x)*(b.x -a.x)+(b.y -a.y)*(b.y -a.y)<2^64;lk
 .unfold BX at k;show kt e k
def kJ(K:Frag):Sp:=λj H Q _=>∃(e f g h i:V) (a b c d:Pt) (q:Int×Int),j=[e,f,g,h,i]/\eF K H e a/\eF K H f b/\eF K H g c/\eF K H h d/\ki K H i q/\Sq q/\Q (.bl<|BY a b c d q) H
def yc(T:Facts K t v u):Df P w K t i 3 "segments_far" ["a","b","c","d","square"] (kJ K):=by
 show T.y_.dx ["a","b","c","d","square"] λf r A g s H G Q E p y x h=>?_;let[z,B,C,D,F,a,b,c,d,q,0,j,l,m,n,o,sq,k]:=h;show#[_,(ao<|aM<|M6 (du (BZ T) p<|aa (pv 0)<|aa (pv 1)<|aa (pv 2)<|aa (pv 3)<|aa (pv 4) ah)<|mI<|du (BZ T) p<|aa (pv 2)<|aa (pv 3)<|aa (pv 0)<|aa (pv 1)<|aa (pv 4) ah),?_];show#[5,_,_,_,_,_,_,_,_,_,1,j,l,m,n,o,sq,1,cg (λe=>ot e k) λe=>#[5,_,_,_,_,_,_,_,_,_,1,m,n,j,l,o,sq,of e k]]
def lI(K:Frag):Sp:=λi H Q _=>∃(e f g h:V) (a b c d:Pt),i=[e,f,g,h]/\eF K H e a/\eF K H f b/\eF K H g c/\eF K H h d/\L9 (IsL K<|ki K) H Q (fu a b c d)
def zX(T:Facts K z O N):Df P w K z v 2 "end_squares" ["a","b","c","d"] (lI K):=by
 show T.Aj.dx ["a","b","c","d"] λf x A t s H vs Q E g X W h=>?_;let[Y,Z,vc,vd,a,b,c,d,0,n,o,q,r,k]:=h;show#[_,(ao<|aM<|cR<|aa (du (yb T) g<|aa (pv 0)<|aa (pv 2)<|aa (pv 3) ah)<|aa (du (yb T) g<|aa (pv 1)<|aa (pv 2)<|aa (pv 3) ah)<|aa (du (yb T) g<|aa (pv 2)<|aa (pv 0)<|aa (pv 1) ah)<|aa (du (yb T) g<|aa (pv 3)<|aa (pv 0)<|aa (pv 1) ah) ah),?_];show#[3,_,_,_,_,_,1,n,q,r,λR I i B=>?_];show#[3,_,_,_,_,_,1,o.same i,q.same i,r.same i,λS J t2 C=>?_];let l:=i.trans t2;show#[3,_,_,_,_,_,1,q.same l,n.same l,o.same l,λU L t3 D=>?_];let m:=l.trans t3;show#[3,_,_,_,_,_,1,r.same m,n.same m,o.same m,λu M j F=>#[dc,λp y=>?_]];let G:=m.trans j;let e:am u (upd u p<|.lst [I,J,L,M]):=am.new y;show k _ _ (G.trans e) #[p,1,cc.of ag,.cons ?_<|.cons ?_<|.cons ?_<|.cons ?_ .nil]
 .show ki.mon _ _ _ _ (am.ts<|((t2.trans t3).trans j).trans e) B
 .show ki.mon _ _ _ _ (am.ts<|(t3.trans j).trans e) C
 .show ki.mon _ _ _ _ (am.ts<|j.trans e) D
 .show ki.mon _ _ _ _ (am.ts e) F
def yd(e:Rg a)(f:Rg b)(g:Rg c)(i:Rg d):∀q∈fu a b c d,Sq q:=by
 intro q h;unfold fu at h;simp at h;let 0||0||0||0:=h
 .show sK e g i
 .show sK f g i
 .show sK g e f
 .show sK i e f
def nh(K:Frag):Sp:=λk H Q _=>∃(f g h i j:V) (a b c d:Pt) (q:Int×Int),k=[f,g,h,i,j]/\eF K H f a/\eF K H g b/\eF K H h c/\eF K H i d/\ki K H j q/\Sq q/\∀e,am H e->Q (.bl<|sJ a b c d q) e
def vQ(T:Facts K N Y X):Df P w K N y 4 "segments_near" ["a","b","c","d","square"] (nh K):=by
 show T.wA.dx ["a","b","c","d","square","found"] λf J A t s H vs Q E p C hu h=>?_;let[va,vb,vc,vd,vq,a,b,c,d,q,0,j,m,n,o,B,sq,k]:=h;show#[_,(af (cF (cV<|du (yc T) p<|aa (pv 0)<|aa (pv 1)<|aa (pv 2)<|aa (pv 3)<|aa (pv 4) ah) (ao<|aM iN) bA)
  (af (cF (cV<|du (vP T) p<|aa (pv 0)<|aa (pv 1)<|aa (pv 2)<|aa (pv 3) ah) (ao<|aM iN) bA)
  (ao<|aM<|bC (RR K) SY T.Bt.any boot_any<|aa (ke rfl C (oE K<|du (zX T) p<|aa (pv 0)<|aa (pv 1)<|aa (pv 2)<|aa (pv 3) ah) (cZ (own:=[("found",5)])<|by kernel_rfl) (λ_ _ _ _ _=>(bF 5 C)) (λ_ _ _ _ _=>g_) λ_ _ _ _ _=>(BA<|du (zV T) p<|aa (pv 4)<|aa (pv 5) ah)) ah))),?_]
 show#[5,_,_,_,_,_,_,_,_,_,1,j,m,n,o,B,sq,1,cg (λi=>?_) λi=>?_]
 .let:=k _<|am.refl H;unfold sJ at this;rw[i]at this;show this
 show#[4,_,_,_,_,_,_,_,1,j,m,n,o,λH1 g=>#[1,cg (λr=>?_) λr=>?_]]
 .let:=k _ g;unfold sJ at this;rw[i,r]at this;show this
 show SA ?_;dsimp only;show rA<|Qh<|vj<|vM ?_;show#[4,_,_,_,_,_,_,_,1,j.same g,m.same g,n.same g,o.same g,λH2 v2 t2 S=>?_];let[l,W,0,z,pl]:=S;let F:=g.trans t2;show#[l,0,#[_,z],?_];show lG (K:=K) (src_list (R:=ki K) (vs:=W) (xs:=fu a b c d)) Pe.mon (λf=>!mO q f) (by change 4<100000;decide) (λZ s=>#[s.seq z,cO ki.mon (am.ts s) pl]) ?_ ?_
 .intro x v G Q1 L u U M;let O:=yd j.2 m.2 n.2 o.2 x L;show#[0,2,_,_,_,1,ki.mon _ _ _ _ (am.ts<|F.trans u) B,U,sq.2,O.2,1,M _ _ (am.refl _) rfl]
 .intro G D I u _ e R;rw[JF R]at e;show#[D,1,cc.of e,?_];let:=k _<|F.trans u;unfold sJ at this;rw[i,r]at this;rw[wf];show this
def ni(K:Frag):Sp:=λj H Q _=>∃(e f g h i:V) (a b c d:Pt) (q:Int×Int),j=[e,f,g,h,i]/\eF K H e a/\eF K H f b/\eF K H g c/\eF K H h d/\ki K H i q/\Sq q/\L9 (ki K) H Q (lH a b c d q)
def vR(T:Facts K mg CP CB):Df P w K mg N 4 "lesser_square" ["a","b","c","d","square"] (ni K):=by
 show T.wB.dx ["a","b","c","d","square","least","found"] λf cdv A I s H vs Q E F G hu h=>?_;let[va,vb,vc,vd,Y,a,b,c,d,q,0,u,y,z,B,D,sq,k]:=h;show#[_,(af (cF (cV<|du (yc T) F<|aa (pv 0)<|aa (pv 1)<|aa (pv 2)<|aa (pv 3)<|aa (pv 4) ah) (ao<|aM<|pv 4) bA)
  (af (aS 5 G<|pv 4)
  (af (dZ cm rfl (oE K<|du (zX T) F<|aa (pv 0)<|aa (pv 1)<|aa (pv 2)<|aa (pv 3) ah) (bF 6 G)
  (ao<|cF (cV<|du (zV T) F<|aa (pv 6)<|aa (pv 5) ah) (ao<|aS 5 G<|pv 6) bA))
  (ao<|aM<|pv 5)))),?_]
 show#[5,_,_,_,_,_,_,_,_,_,1,u,y,z,B,D,sq,1,cg (λr=>?_) λr=>?_]
 .show#[1,k _ _ (am.refl H) ?_];unfold lH;rw[r];show D
 show#[5,_,_,_,_,_,_,_,1,u,y,z,B,λZ v1 W r1=>?_];let[l,us,0,O,pl]:=r1;show#[l,0,#[_,O],?_];show dh (src_list (K:=K) (R:=ki K) (a:=l) (vs:=us) (xs:=fu a b c d)) (λi o p=>am Z p/\∃j M,o=[some va,some vb,some vc,some vd,some Y,some j,M]/\∃m,m=((fu a b c d).take i).foldl (λm f=>if mO f m then f else m) q/\ki K p j m/\Sq m)
  #[am.refl _,Y,none,0,q,0,ki.mon _ _ _ _ (am.ts W) D,sq] (λi o p _ x=>#[x.1.seq O,cO ki.mon (am.ts x.1) pl]) ?_ ?_
 .ext i x v o H2 H3 R ⟨n,j,M,rfl,m,e,C,L⟩ J U;let S:=yd u.2 y.2 z.2 B.2 x<|aX R;let g:=ki.mon _ _ _ _ (am.ts J) C;let X:(fu a b c d).take (i+1)=(fu a b c d).take i++[x]:=by rw[cM,R];rfl
  show#[2,_,_,_,1,U,g,S.2,L.2,1,cg (λt=>?_) λt=>?_]
  .show#[1,n.trans J,v,some v,0,x,?_,U,S];rw[X,mu,<-e];show(aH t).symm
  .show#[n.trans J,j,some v,0,m,?_,g,L];rw[X,mu,<-e];show(az<|by unfold mO;rw[t];show aR).symm
 .ext o H2 ⟨n,j,M,rfl,m,e,C,L⟩;rw[bK]at e;show#[1,k _ _ (W.trans n) ?_];unfold lH;rw[r,<-e];show C
def qM(K:Frag):Sp:=λb H Q _=>∃(a:V) (q:Int×Int),b=[a]/\ki K H a q/\Sq q/\q.1<2^200/\∀r:Int,0<r->r<2^120->q.1<r*r*q.2->Q (.int r) H
def L_(g:0<=n)(j:0<d)(t:n<2^200):0<(2:Int)^((((Builtin.Int.intBits (n/d+1):Nat):Int)+1)/2).toNat/\(2:Int)^((((Builtin.Int.intBits (n/d+1):Nat):Int)+1)/2).toNat<2^120/\
  n<(2:Int)^((((Builtin.Int.intBits (n/d+1):Nat):Int)+1)/2).toNat*(2:Int)^((((Builtin.Int.intBits (n/d+1):Nat):Int)+1)/2).toNat*d:=by
 let s:0<=n/d:=Sy g om;let l:n/d<=n:=Is _ g;let[m,f]:∃m:Nat,n/d+1=(m:Int):=#[(n/d+1).toNat,om];let c:m≠0:=om;let a:Builtin.Int.intBits (n/d+1)=m.log2+1:=by
  unfold Builtin.Int.intBits;rw[f,az<|by simp;lk]
  rfl
 rw[a];let b:m<2^(m.log2+1):=Nat.lt_log2_self;let e:m.log2<201:=(y3 c).mpr (by
  let:(m:Int)<2^201:=by rw[<-f];lk
  exact_mod_cast this)
 let[h,i]:∃h:Nat,((((m.log2+1:Nat):Int)+1)/2).toNat=h:=#[1];rw[i];let u:m.log2+1<=2*h:=om;let k:h<=101:=om;let o:m<2^h*2^h:=by
  rw[<-Nat.pow_add];show cq b<|Nat.pow_le_pow_right de om
 let v:(m:Int)<2^h*2^h:=by exact_mod_cast o
 let p:(0:Int)<2^h:=by exact_mod_cast Nat.pow_pos de
 show#[p,?_,?_]
 .let:2^h<2^120:=Nat.pow_lt_pow_right de om;exact_mod_cast this
 .let q:n<(n/d+1)*d:=by
   let:=Int.lt_ediv_add_one_mul_self n j;show this
  let r:(n/d+1)*d<=2^h*2^h*d:=bR om om;lk
def B0(T:Facts K l u t):Df P w K l c 1 "above_root" ["square"] (qM K):=by
 show T.CA.dx ["square","half"] λf g A a s H z Q E x m y h=>?_;let[_,q,0,[B,0,d],[b,e,n],i,k]:=h;let[o,p,r]:=L_ b e i;show#[_,(af (aS 1 m<|qH F0 (ad (zW<|ad (qH JP (ti K 0)<|ti K 0) aI) aI) aI)
  (ao<|aM<|qH NN aI<|pv 1)),?_]
 show#[_,_,1,d,0,_,_,1,d,0,_,1,0,#[e,n],_,1,0,1,_,1,0,_,1,0,#[de,de],1,_,1,0,?_,?_]
 .show#[om,?_,de];let v:0<=q.1/q.2:=Sy b om;let j:q.1/q.2<=q.1:=Is _ b;let:Builtin.Int.intBits (q.1/q.2+1)<1000:=by
   unfold Builtin.Int.intBits;split
   .decide
   .let:(q.1/q.2+1).natAbs.log2<201:=(y3 om).mpr om;lk
  lk
 .let:=k _ o p r;change Q (.int<|1*2^_) H;rw[Int.one_mul];show this
end
def DQ(a:s.heap.IsKeyIter c d i n k)(g:s.heap.get? d=some y)(e:y.data=.dict l k)(r:l.size=n)(x:l[i]?=some en)(u:∀m,m.IsKeyIter c d (i+1) n k->Heap.SameBut c s.heap m->Q en.key {s with heap:=m}):wpAny (model t w) A (Builtin.SmallTypes.nextOf<|.ref c) Q E s:=by
 let[o,q,v,j]:=id a;unfold Builtin.SmallTypes.nextOf;show ai (eo (name:=Str.ofString "__next__") a.typeIs dS
  (eh dS a.typeIs fy ?_<|fw _))
 show ai<|aj ?_;show ai ?_;show ai ?_
 first|show ai (dA a.typeIs<|aj ?_)|show ai<|wpAny_typeNameOf_keyiter a.typeIs<|aj ?_
 show ai<|l0 q j ?_;let h:Builtin.Dict_items.ownsTuple "dict_keyiterator"=false:=de;simp only[h,ck,fI];change wpAny _ _ (if (Value.ref d==Value.none)=true then _ else _) _ _ s;rw[az (show¬((Value.ref d==Value.none)=true)from aR)];show ai<|aj ?_;show ai<|fe g e ?_;rw[az<|by rw[r];simp]
 show ai<|aj ?_;show ai<|hI g e ?_;rw[az<|by simp]
 show aj ?_;let[f,p]:=Array.getElem?_eq_some_iff.mp x;simp only[show¬((i:Int)<0)from by lk,fI,iS,hX f]
 show ai ?_
 first|show ai (dA a.typeIs<|aj ?_)|show ai<|wpAny_typeNameOf_keyiter a.typeIs<|aj ?_
 show ai<|gw a.typeIs ?_;change wpAny _ _ (setField (.ref c) 1 (rawInt<|(i:Int)+1)>>=_) _ _ s;show ai<|lz q j SX ?_
 let b:(s.heap.update c<|Obj.mapFields (·.setIfInBounds 1 (rawInt<|(i:Int)+1))).IsKeyIter c d (i+1) n k:=
  #[_,dW _ q<|OK<|iy j _,(Obj.cls_mapFields ..).trans v,by rw[iy j];simp[rawInt]]
 show ai<|dR ?_;show ai<|gw (s:={s with heap:=s.heap.update c<|Obj.mapFields (·.setIfInBounds 1 (rawInt<|(i:Int)+1))}) b.typeIs ?_;change wpAny _ _ (pure l[i].key) _ _ _;rw[p];show aj<|aj #[1,aj<|u _ b<|dn ..]
def yk(u:A.handled=none)(a:s.heap.IsKeyIter k d i n r)(e:s.heap.get? d=some v)(b:v.data=.dict l r)(g:l.size=n)(j:n<=i)(t:∀h x,Heap.ExtBut k s.heap h->(∃o,h.get? x=some o/\o.cls=.type "StopIteration")->E (.ref x) {s with heap:=h}):wpAny (model q w) A (Builtin.SmallTypes.nextOf<|.ref k) Q E s:=by
 let[o,p,y,m]:=id a;unfold Builtin.SmallTypes.nextOf;show ai (eo (name:=Str.ofString "__next__") a.typeIs dS
  (eh dS a.typeIs fy ?_<|fw _))
 show ai<|aj ?_;show ai ?_;show ai ?_
 first|show ai (dA a.typeIs<|aj ?_)|show ai<|wpAny_typeNameOf_keyiter a.typeIs<|aj ?_
 show ai<|l0 p m ?_;let f:Builtin.Dict_items.ownsTuple "dict_keyiterator"=false:=de;simp only[f,ck,fI];change wpAny _ _ (if (Value.ref d==Value.none)=true then _ else _) _ _ s;rw[az (show¬((Value.ref d==Value.none)=true)from aR)];show ai<|aj ?_;show ai<|fe e b ?_;rw[az<|by rw[g];simp]
 show ai<|aj ?_;show ai<|hI e b ?_;rw[az<|by simp]
 show aj ?_;let c:l.size<=i:=by rw[g];show j
 simp only[show¬((i:Int)<0)from by lk,fI,iS,wt c]
 show ai ?_
 first|show ai (dA a.typeIs<|aj ?_)|show ai<|wpAny_typeNameOf_keyiter a.typeIs<|aj ?_
 change wpAny _ _ (setField (.ref k) 0 .none>>=_) _ _ s;show ai<|lz p m SX ?_
 change wpAny _ _ (newExc (.type "StopIteration") []>>=_) _ _ _;show ai ?_;simp only[newExc,newTuple];show ai<|eB ?_<|by size_fits
 show ai (m:=firstArgMember _ _)<|wpAny_of_eq (a:=Value.none) (by first|rfl|(simp only[firstArgMember];rfl)) ?_
 show eB ?_<|by size_fits
 simp only[raiseNew];show ai<|wpAny_handled ?_;rw[show A.in1.handled=none from u];show ai<|aj<|wpAny_throw ?_;show t _ _ (((dn ..).extBut.push _).push _) #[_,bx _ rfl,0]
def Mg(y:A.handled=none)(f d:Addr)(j:d≠f)(p:Obj)(a:Array DictEntry)(l:Nat)(b:p.data=.dict a l):
  Draws r w A f [f,d] a.size (λi v=>∃k,a[i]?=some k/\v=k.key) (λi h=>h.IsKeyIter f d i a.size l/\h.get? d=some p) where
 live:=λ_ _ st=>let #[o,z,_]:=st.1;#[o,z]
 frame:=λ_ _ _ st n=>#[st.1.at λo e=>n f SX o e,n d SX _ st.2]
 item:=λi s Q E m st u=>by
  show DQ (en:=a[i]) st.1 st.2 b rfl (by simp[m]) λg c sb=>?_
  show u _ g s.toks #[a[i],by simp[m],0] #[c,(sb.2 d j).trans st.2] sb
 done:=λs Q E st t=>yk y st.1 st.2 b rfl (aE _) λg x B q=>t g x B q
def Fp(e c:Addr)(j:o.data=.dict es ep)(R:B.length=es.size):
  Turn P w K (.Tuple elts kk tpos) (Ol d o B) [e,c] e (λi h=>(∃f,IsEnum h e c ((i:Nat):Int) f)/\h.IsKeyIter c d i es.size ep/\e≠c/\e≠d/\d≠c) where
 mem:=by simp
 obj:=λi h st b l=>by
  let[[f,g],[oi,T,hc,M],_]:=st;let e':b=e\/b=c:=by simpa using l
  let z||z:=e'
  .rw[z];show#[_,g,λv q=>nomatch q]
  .rw[z];show#[oi,T,λv q=>by rw[M]at q;cases q]
 keep:=λi h h' st k=>let #[#[f,g],D,a,Y,Z]:=st;#[#[f,k e SX _ g],D.at λo q=>k c SX o q,a,Y,Z]
 item:=by
  intro X L hw hK hc i r s σ H E I hf st hg;subst L hw hK;let[[f,g],n,a,Y,Z]:=st;let[M,D]:=hg;let[hs,m,hx,es',G,vs,y,hsz,kv,hm]:=I.zS M;let[0,0]:=j0 j y;let[[k,v],S]:∃p,B[i]?=some p:=#[B[i],ak D];let[u,hu,ru]:=E_ kv S;let[o',J,U,hex,N,hkeys,hp,hnd]:=hm;rw[m]at U;cases U
  let[0,_]:=j0 j N;let O:e<⇑s:=ce g;let hil:c<⇑s:=by let[_,q,_]:=n;show ce q
  let hi2:i<J.size:=by rw[<-R];show D
  show wpAny_pyNext_enum_itemD (Mg (show X.A.in1.handled=none from I.ok.hd hc) c d Z o J G j) g #[n,m] hi2 a (by simp[a,Y]) λx h' tk L T W hT hsz' hk=>?_
  let[C,hen,0]:=L;let rk:RelV (kV k) C.key:=sC (show oZ k C.key=true from(hp.get? (e:=C) (by simpa using hen) hu).1)
  show#[1,wR (s:={s with heap:=h',toks:=tk+1}) T λt he' sb=>?_];let hT2:t.get? ⇑s=some {cls:=.type "tuple",data:=.seq [.int i tk,C.key].toArray}:=(sb.2 _<|qZ O).trans hT;let new:fD X.prog X.w (upd H ⇑s<|.tup [.int (i:Nat),kV k]) t ⇑s (.tup [.int (i:Nat),kV k]):=
   #[by change 2<=sizeLine;decide,[.int i tk,C.key],.cons #[1] (.cons rk .nil),#[_,hT2,0,1]]
  let I1:Inv X r σ (upd H ⇑s<|.tup [.int (i:Nat),kV k]) {s with heap:=t,toks:=tk+1}:=
   I.uh (ch:=[e,c]) (λb ob l q=>(sb.2 b λz=>l<|by simp[z]).trans<|hk b ob (λz=>l<|by simp[z]) (λz=>l<|by simp[z]) q) hf (aE _) new
  show#[.ref ⇑s,_,I1,0,#[_,k,v,S,0,I.hok.fresh<|aE _,0],#[#[C.key,?_],W.1.at λo q=>(sb.2 c<|bJ a).trans q,a,Y,Z],λb l=>?_]
  .let e1:((i+1:Nat):Int)=(i:Int)+1:=om;rw[e1];show he'
  .let hb':b<⇑s:=by
    let e':b=e\/b=c:=by simpa using l
    let z||z:=e'
    .rw[z];show O
    .rw[z];show hil
   rw[aA<|bN hb'];show(hf b l).1
 done:=by
  intro X L hw hK hc i r s σ H E I hf st hg;subst L hw hK;let[[f,g],n,a,Y,Z]:=st;let[M,D]:=hg;let[hs,m,hx,es',G,vs,y,hsz,kv,hm]:=I.zS M;let[0,0]:=j0 j y;let[f0,f1,f2,f3,f4,f5]:=hf c<|by simp
  let hT:s.TypeIs (.ref e) "enumerate":=#[_,g,0];unfold pyNext;show ai<|gQ<|eo (name:=Str.ofString "__next__") hT Sz<|eh Sz hT F.entry_enumerate_next ?_<|F.args_enumerate_next_1 _;change wpAny _ _ (field (.ref e) 2>>=_) _ _ _;show ai<|fx g rfl (x:=.ref c) rfl ?_;show ai (yk (show X.A.in1.handled=none from I.ok.hd hc) n m j rfl (by rw[<-R];show D) λh' x hx hq=>?_)
  let[oo,T,hcl]:=hq;show ai<|jF (T:="StopIteration") (b:=true) #[oo,T,hcl] xc ?_;show aj #[0,I.turned (t':=s.toks) (λb ob l e=>hx b ob l e) f0 f1 f3 f4 f5]
 self:=λA i s Q E st h=>let #[#[_,g],_]:=st;je g h
section
variable{prog:Program}{w:World}{K:Type}[DecidableEq K]{knd:KeyKind prog w K}
def Hz(d:Addr)(f:(d==sysModules)=false)(e:List (K×Value))(b:Nat):
  MeetsIn prog w (Builtin.«enumerate.__new__» #[[.type "enumerate",.ref d],[]]) (λ_ R s=>s.heap.DictAt knd d e b/\
   R (.ok<|.ret<|.ref (s.heap.push {cls:=.type "dict_keyiterator",data:=.fields [.ref d,.int 0 0,.int e.length 0,.int b 0].toArray}).objs.size)
    {s with heap:=(s.heap.push {cls:=.type "dict_keyiterator",data:=.fields [.ref d,.int 0 0,.int e.length 0,.int b 0].toArray}).push {cls:=.type "enumerate",data:=.fields [.none,.bool false,.ref ⇑s,rawInt 0,.none,.none].toArray}}):=
 .of_wp λA R s k=>by
  let[j,g,h,l,os]:=s;let[i,k]:=k;let m:=sub_enumerate;let a:Heap.DictAt knd (Shared.heap #[j,g,h,l,os]) d e b:=i
  wp_walk
  show wpAny_stack_any λst=>aj ?_;split
  .rename_i c _ _ _ _ _;cases (c==Value.type "enumerate")
   .wp_walk using pc f a
    show#[1,k]
   .wp_walk using pc f a
    show#[1,k]
  .wp_walk using pc f a
   show#[1,k]
end
def J4(Y:Gl X "enumerate")(hm:X.mg "enumerate"=none)(S:PA X [e] ta)(hs:starEach [e] X.env=[(false,eval e X.env)]:=by rfl):
  PI X (.Tuple E kk K) (.Call (.Name "enumerate" p) [e] [] C) (Om ta):=by
 intro g s L H R I h;show Call_<|ja I Y hm boot_enumerate<|cN (dJ (S C g s L H _ I h) λus a #[c,D,v,r1,q1]=>?_) hs rfl;let[d,o,A,P,U,q]:=q1;subst P;cases r1 with
 |cons r rr=>
  cases rr
  cases r
  let[y,m,hx,G,i,c,l,hsz,kv,t]:=v.zS U;let Z:A.length=c.length:=eH kv;let n:c.length=G.size:=by
   let[o',O,u,W,j,x,hp,hnd]:=id t;rw[m]at u;cases u
   let[0,_]:=j0 l j;rw[<-hp.length];simp
  show callType_newIn F.called_enumerate de (F.typeCall_enumerate_1 _) (F.newCall_enumerate_1 _) (λB=>F.args_object_init_2 B _) F.entry_enumerate_new (Hz (knd:=cX X.prog X.w) d y c i) #[t,?_];let J:(a.heap.push {cls:=.type "dict_keyiterator",data:=.fields [.ref d,.int 0 0,.int c.length 0,.int i 0].toArray}).objs.size=⇑a+1:=ed ..;change _/\_;rw[J];let w:IsEnum ((a.heap.push {cls:=.type "dict_keyiterator",data:=.fields [.ref d,.int 0 0,.int c.length 0,.int i 0].toArray}).push
    {cls:=.type "enumerate",data:=.fields [.none,.bool false,.ref ⇑a,rawInt 0,.none,.none].toArray}) (⇑a+1) ⇑a 0 .none:=by
   let:=bx (a.heap.push {cls:=.type "dict_keyiterator",data:=.fields [.ref d,.int 0 0,.int c.length 0,.int i 0].toArray})
    (o:={cls:=.type "enumerate",data:=.fields [.none,.bool false,.ref ⇑a,rawInt 0,.none,.none].toArray}) rfl
   rw[J]at this;show this
  show#[#[_,w,0],je w ?_];let k:d<⇑a:=ce m;let Q:((a.heap.push {cls:=.type "dict_keyiterator",data:=.fields [.ref d,.int 0 0,.int c.length 0,.int i 0].toArray}).push
    {cls:=.type "enumerate",data:=.fields [.none,.bool false,.ref ⇑a,rawInt 0,.none,.none].toArray}).IsKeyIter ⇑a d 0 G.size i:=by
   show#[_,br _<|bx _ rfl,0,?_];rw[n];rfl
  let M:Inv X g L D {a with heap:=(a.heap.push {cls:=.type "dict_keyiterator",data:=.fields [.ref d,.int 0 0,.int c.length 0,.int i 0].toArray}).push {cls:=.type "enumerate",data:=.fields [.none,.bool false,.ref ⇑a,rawInt 0,.none,.none].toArray}}:=v.kept (t':=a.toks) λb ob q=>br _<|br _ q;show#[⇑a+1,[⇑a+1,⇑a],_,_,D,0,M,Fp (⇑a+1) ⇑a l<|Z.trans n,#[#[.none,w],Q,iD _,qZ<|iT k,bN k],λb T=>?_,q];let N:b=⇑a+1\/b=⇑a:=by simpa using T
  let f:⇑a<=b:=by
   let z||z:=N
   .rw[z];show qu _ _
   .rw[z];show aE _
  show v.BC f<|v.hok.fresh f
abbrev Li(h:Heap)(z TI TO a:Addr)(b:Bool):Prop:=h.get? z=some {cls:=.type "zip",dict:=none,data:=.fields [rawInt a,.bool b,.bool false,.ref TI,.ref TO].toArray,slots:=#[]}
section
variable{prog:Program}{w:World}{A:Around}{E:Value->Shared->Prop}{s:Shared}
def J5(h:Q (s.heap.get? a) s):wpAny (model prog w) A (loadIfAlive a) Q E s:=by
 intro b p _;change Sem.wp _ _ (Sem.loadIfAlive a Sem.pure) _ _ _ _;rw[Sem.wp_loadIfAlive];show h
def J6{TI TO:Addr}{o0:Obj}(c:Li s.heap z TI TO a b)(g:s.heap.get? a=some o0)(k:∀d,Li d z TI TO a true->Heap.SameBut z s.heap d->Q false {s with heap:=d}):wpAny (model prog w) A (Builtin.SmallTypes.ownedTupleIsFree<|.ref z) Q E s:=by
 unfold Builtin.SmallTypes.ownedTupleIsFree;show ai<|fx c rfl (x:=rawInt a) rfl ?_;change wpAny _ _ (loadIfAlive (a:Int).toNat>>=_) _ _ s;rw[iS];show ai<|J5 ?_;rw[g];change wpAny _ _ (field (.ref z) 1>>=_) _ _ s;show ai<|fx c rfl (x:=.bool b) rfl ?_;cases b with
 |true=>show aj<|k s.heap c<|Heap.SameBut.refl _ _
 |false=>
  change wpAny _ _ (setField (.ref z) 1 (.bool true)>>=_) _ _ s;show ai (wpAny_setField_rec c SX λh f e=>?_)
  show aj<|k h f e
def Ow{z TI TO k i j l m:Addr}{b:Bool}{o0:Obj}{G H:Nat}{K L:Array Value}{x y:Value}{Q:Value->Shared->Prop}(D:ZipApart z TI TO i j l m)
  (B:Li s.heap z TI TO k b) (S:s.heap.get? k=some o0) (q:IsPair s.heap TI (.ref i) (.ref j))
  (P:s.heap.IsListIter i l G) (R:s.heap.IsListIter j m H) (r:s.heap.IsList l K) (t:s.heap.IsList m L) (U:K[G]?=some x) (W:L[H]?=some y)
  (T:∀h,Li h z TI TO k true->h.IsListIter i l (G+1)->h.IsListIter j m (H+1)->IsPair h ⇑s x y->h.objs.size=⇑s+1->
   (∀c o,c≠z->c≠i->c≠j->s.heap.get? c=some o->h.get? c=some o)->Q (.ref ⇑s) {s with heap:=h}):
  wpAny (model prog w) A (Builtin.«zip.__next__» #[[.ref z],[]]) (λfin X=>∃v,fin=.done (.ret v)/\Q v X) E s:=by
 change wpAny _ _ (field (.ref z) 2>>=_) _ _ _;show ai<|fx B rfl (x:=.bool false) rfl ?_;change wpAny _ _ (field (.ref z) 3>>=_) _ _ _;show ai<|fx B rfl (x:=.ref TI) rfl ?_;show ai<|fU q rfl ?_;change wpAny _ _ (Builtin.SmallTypes.ownedTupleIsFree (.ref z)>>=_) _ _ _;show ai (J6 B S λY C a=>?_);simp only[ck,fI];simp only[lq,on,j9];show ai ?_;show ai<|ai<|dR ?_;change wpAny _ _ (Builtin.SmallTypes.nextOf (.ref i)>>=_) _ _ _;show ai (En (P.extBut a.extBut D.i1z) (r.extBut a.extBut D.l1z) U λZ n d=>aj ?_);show aj ?_;show ai<|ai<|dR ?_;change wpAny _ _ (Builtin.SmallTypes.nextOf (.ref j)>>=_) _ _ _;show ai (En ((R.extBut a.extBut D.i2z).extBut d.extBut D.i12.symm) ((t.extBut a.extBut D.l2z).extBut d.extBut D.l2i1) W λg p f=>aj ?_);show aj ?_;show aj ?_;show ai<|wQ ?_<|by change 2<=sizeLine;decide
 let u:g.objs.size=⇑s:=by rw[f.1,d.1,a.1]
 let F:Li g z TI TO k true:=f.extBut _ _ D.i2z.symm<|d.extBut _ _ D.i1z.symm C;let up:∀c o,c≠z->c≠i->c≠j->s.heap.get? c=some o->(g.push {cls:=.type "tuple",data:=.seq [x,y].toArray}).get? c=some o:=λc o M N O e=>
  br _ (f.extBut _ _ O<|d.extBut _ _ N<|a.extBut _ _ M e)
 let J:IsPair (g.push {cls:=.type "tuple",data:=.seq [x,y].toArray}) g.objs.size x y:=bx _ rfl;let I:(g.push {cls:=.type "tuple",data:=.seq [x,y].toArray}).objs.size=g.objs.size+1:=ed ..;show aj #[1,?_];change Q (.ref g.objs.size) _;rw[u]at J I|-;show T _ (br _ F) ((n.extBut f.extBut D.i12).at λo e=>br _ e) (p.at λo e=>br _ e) J I up
def z_end{TI TO:Addr}{o0:Obj}(y:A.handled=none)(D:ZipApart z TI TO d k l l2)(j:Li s.heap z TI TO m b)(u:s.heap.get? m=some o0)(g:IsPair s.heap TI (.ref d) (.ref k))(r:s.heap.IsListIter d l F)(h:s.heap.IsList l G)(B:G[F]?=none)(v:∀f e,(∀c o,c≠z->c≠d->c≠k->s.heap.get? c=some o->f.get? c=some o)->(∃o,f.get? e=some o/\o.cls=.type "StopIteration")->E (.ref e) {s with heap:=f}):
  wpAny (model prog w) A (Builtin.«zip.__next__» #[[.ref z],[]]) Q E s:=by
 change wpAny _ _ (field (.ref z) 2>>=_) _ _ _;show ai<|fx j rfl (x:=.bool false) rfl ?_;change wpAny _ _ (field (.ref z) 3>>=_) _ _ _;show ai<|fx j rfl (x:=.ref TI) rfl ?_;show ai<|fU g rfl ?_;change wpAny _ _ (Builtin.SmallTypes.ownedTupleIsFree (.ref z)>>=_) _ _ _;show ai (J6 j u λH C a=>?_);simp only[ck,fI];simp only[lq,on,j9];show ai ?_;show ai<|ai<|dR ?_;change wpAny _ _ (Builtin.SmallTypes.nextOf (.ref d)>>=_) _ _ _;show ai (wpAny_nextOf_list_end y (r.extBut a.extBut D.i1z) (h.extBut a.extBut D.l1z) B λt e i x=>?_);show v t e (λc o n p _ q=>i _ _ p<|a.extBut _ _ n q) x
def Qt:typeLookup (.type "zip") "__len__"=pure none:=by rw[kX,gL];kernel_rfl
def Qu:typeLookup (.type "zip") "__length_hint__"=pure none:=by rw[kX,gL];kernel_rfl
def Ox(b:s.TypeIs (.ref z) "zip")(h:Q true s):wpAny (model prog w) A (Builtin.List.listLengthHint<|.ref z) Q E s:=by
 unfold Builtin.List.listLengthHint;show ai (hG b Qt ?_)
 wp_delta
 show eW (λa=>absurd a de) λ_=>?_;show eW (λa=>absurd a de) λ_=>?_;show ai<|hG b Qu ?_;show aj h
def J7{TI TO:Addr}{o0:Obj}(D:ZipApart z TI TO d e i j)(m:Li s.heap z TI TO k b)(H:s.heap.get? k=some o0)(f:IsPair s.heap TI (.ref d) (.ref e))(C:s.heap.IsListIter d i n)(G:s.heap.IsListIter e j p)(g:s.heap.IsList i L)(h:s.heap.IsList j M)(J:L[n]?=some x)(K:M[p]?=some y)(I:∀a,Li a z TI TO k true->a.IsListIter d i (n+1)->a.IsListIter e j (p+1)->IsPair a ⇑s x y->a.objs.size=⇑s+1->
   (∀c o,c≠z->c≠d->c≠e->s.heap.get? c=some o->a.get? c=some o)->Q (some<|.ref ⇑s) {s with heap:=a}):
  wpAny (model prog w) A (pyNext<|.ref z) Q E s:=by
 let l:s.TypeIs (.ref z) "zip":=#[_,m,0];unfold pyNext;show ai (gQ (eo (name:=Str.ofString "__next__") l k7
  (eh k7 l F.entry_zip_next (Ow D m H f C G g h J K λa q r t u v B=>aj<|I a q r t u v B)<|F.args_zip_next_1 _)))
def Mh{TI TO:Addr}{o0:Obj}(t:A.handled=none)(D:ZipApart z TI TO g j k B)(i:Li s.heap z TI TO l b)(n:s.heap.get? l=some o0)(d:IsPair s.heap TI (.ref g) (.ref j))(m:s.heap.IsListIter g k y)(f:s.heap.IsList k C)(x:C[y]?=none)(p:∀a,(∀c o,c≠z->c≠g->c≠j->s.heap.get? c=some o->a.get? c=some o)->Q none {s with heap:=a}):wpAny (model prog w) A (pyNext<|.ref z) Q E s:=by
 let h:s.TypeIs (.ref z) "zip":=#[_,i,0];unfold pyNext;show ai (gQ (eo (name:=Str.ofString "__next__") h k7
  (eh k7 h F.entry_zip_next (z_end (l2:=B) t D i n d m f x λa e u r=>?_)<|F.args_zip_next_1 _)))
 let[o,v,q]:=r;show ai<|jF (T:="StopIteration") (b:=true) #[o,v,q] xc ?_;show aj<|p _ u
end
def qA{a b n:Nat}(h:a<n)(k:n<=b):a≠b:=bN<|cq h k
structure ZA(h0:Heap)(S z TI TO i1 i2 l1 l2:Addr):Prop where
 ap:ZipApart z TI TO i1 i2 l1 l2
 bS:h0.objs.size<=S
 bz:h0.objs.size<=z
 SW:h0.objs.size<=TI
 RW:h0.objs.size<=i1
 RX:h0.objs.size<=i2
 nz:S≠z
 Qv:S≠TI
 n1:S≠i1
 n2:S≠i2
structure ZS(h0:Heap)(S z TI TO i1 i2 l1 l2:Addr)(xs ys:Array Value)(i:Nat)(h:Heap)(acc:Array Value):Prop where
 kept:∀b o,h0.get? b=some o->h.get? b=some o
 lst:∃c,h.get? S=some {cls:=.type "list",dict:=none,data:=.seq acc c,slots:=#[]}
 sz:acc.size=i
 zz:∃T0 b o0,Li h z TI TO T0 b/\h.get? T0=some o0
 ti:IsPair h TI (.ref i1) (.ref i2)
 e1:h.IsListIter i1 l1 i
 e2:h.IsListIter i2 l2 i
 its:∀(j:Nat) (v:Value),acc[j]?=some v->∃T x y,v=.ref T/\xs[j]?=some x/\ys[j]?=some y/\IsPair h T x y/\h0.objs.size<=T/\T≠S
 nd:∀(j k:Nat) (v:Value),acc[j]?=some v->acc[k]?=some v->j=k
def qi(p:IsPair h T x y)(q:h.get? a=some o)(b:o.cls≠.type "tuple"):T≠a:=λe=>by
 subst e;rw[p]at q;cases q
 show b rfl
section
variable{prog:Program}{w:World}{A:Around}{R:Result->Shared->Prop}
def Oy{TI TO:Addr}(hh:A.handled=none)(Z:ZA C S z TI TO i1 i2 l1 l2)(q1:C.IsList l1 h)(q2:C.IsList l2 B)(hn:h.size=B.size)(hs:h.size<=1000)(W:Value):
  ∀(k i:Nat) (s:Shared) (g:Array Value),h.size -i=k->i<=h.size->ZS C S z TI TO i1 i2 l1 l2 h B i s.heap g->
   (∀m tk a,((∀b o,C.get? b=some o->m.get? b=some o)/\(∃c,m.get? S=some {cls:=.type "list",dict:=none,data:=.seq a c,slots:=#[]})/\a.size=h.size/\
    (∀(j:Nat) (v:Value),a[j]?=some v->∃T x y,v=.ref T/\h[j]?=some x/\B[j]?=some y/\IsPair m T x y/\C.objs.size<=T/\T≠S)/\∀(j k:Nat) (v:Value),a[j]?=some v->a[k]?=some v->j=k)->R (.ok<|.ret W) {s with heap:=m,toks:=tk})->
   codeAny (model prog w) A (.builtin "list.extend.loop" #[[.ref S,.ref z,W],[]]) R s:=by
 intro k
 induction k with
 |zero=>
  intro i s g hk hi st hR;let hin:i=h.size:=om;subst hin;let[t,b,o0,U,q]:=st.zz;show fY np ?_;rw[mK eM _];change wpAny _ A.in1 (pyNext (.ref z)>>=_) _ _ s;let L1:s.heap.IsList l1 h:=let #[o,n,r]:=q1;#[o,st.kept _ _ n,r];show ai (Mh (show A.in1.handled=none from hh) Z.ap U q st.ti st.e1 L1 SX λm d=>?_)
  let old:∀b o,C.get? b=some o->m.get? b=some o:=λb o e=>by
   let:=ce e;show d b o (qA this Z.bz) (qA this Z.RW) (qA this Z.RX)<|st.kept _ _ e
  let[c,hc]:=st.lst;show aj<|hR m s.toks g<|#[old,#[c,d S _ Z.nz Z.n1 Z.n2 hc],st.sz,λj v e=>?_,st.nd];let[T,x,y,p,u,X,l,Y,N]:=st.its j v e;let[oi1,J,G,_]:=st.e1;let[oi2,K,H,_]:=st.e2;show#[T,x,y,p,u,X,d T _ (qi l U<|by simp) (qi l J<|by rw[G];simp) (qi l K<|by rw[H];simp) l,Y,N]
 |succ k ih=>
  intro i s g hk hi st hR;let I:i<h.size:=om;let[t,b,o0,U,q]:=st.zz;show fY np ?_;rw[mK eM _];change wpAny _ A.in1 (pyNext (.ref z)>>=_) _ _ s;let L1:s.heap.IsList l1 h:=let #[o,n,r]:=q1;#[o,st.kept _ _ n,r];have L2:s.heap.IsList l2 B:=let #[o,n,r]:=q2;#[o,st.kept _ _ n,r];show ai (J7 (x:=h[i]) (y:=B[i]'om) Z.ap U q st.ti st.e1 st.e2 L1 L2 (by simp[I]) (by simp[show i<B.size by lk]) λm L O P hp hsz d=>?_)
  let[c,hc]:=st.lst;let E:=d S _ Z.nz Z.n1 Z.n2 hc;change wpAny _ A.in1 (updateSeq S (·.push (.ref ⇑s))>>=_) _ _ _;show ai ?_;let D:S<⇑s:=ce hc;let h0s:C.objs.size<=⇑s:=aL Z.bS<|iJ D;let f:∀b o,b≠S->m.get? b=some o->(m.update S<|Obj.mapSeq (·.push (.ref ⇑s))).get? b=some o:=λb o hb e=>(eJ _ _<|bJ hb).trans e;show eN E rfl (aj #[ft eM _,ih (i+1) _ (g.push<|.ref ⇑s) om I ?_ λh2 tk a z2=>hR h2 tk a z2]) (by rw[st.sz];show aL (show i<=1000 by lk) de)<|by change(g.push<|.ref ⇑s).size<=sizeLine+1;rw[oy,st.sz];show aL (show i+1<=1001 by lk) de
  let Q:∀(j:Nat) (v:Value),g[j]?=some v->∃T,v=.ref T/\T<⇑s:=λj v e=>by
   let[T,x,y,p,u,X,l,Y,N]:=st.its j v e;show#[T,p,ce l]
  let[oi1,J,G,hd1]:=id st.e1;let[oi2,K,H,hd2]:=id st.e2;show#[λb o e=>?_,#[_,dW _ E rfl],by rw[oy,st.sz],#[t,true,?_],f _ _ (bJ Z.Qv)<|d TI _ Z.ap.TIz Z.ap.TIi1 Z.ap.TIi2 st.ti,O.at λo e=>f _ _ (bJ Z.n1) e,P.at λo e=>f _ _ (bJ Z.n2) e,λj v e=>?_,λj k v e M=>?_]
  .let:=ce e;show f _ _ (qA this Z.bS)<|d b o (qA this Z.bz) (qA this Z.RW) (qA this Z.RX)<|st.kept _ _ e
  .let al:∃o,m.get? t=some o:=by
    by_cases c1:t=z
    .rw[c1];show#[_,L]
    .by_cases c2:t=i1
     .rw[c2];let[o,n,_]:=O;show#[o,n]
     .by_cases c3:t=i2
      .rw[c3];let[o,n,_]:=P;show#[o,n]
      .show#[_,d t _ c1 c2 c3 q]
   let[o,n]:=al;by_cases e:t=S
   .show#[Obj.mapSeq (·.push (.ref ⇑s)) {cls:=.type "list",dict:=none,data:=.seq g c,slots:=#[]},f _ _ (bJ Z.nz) L,by rw[e];show dW _ E rfl]
   .show#[o,f _ _ (bJ Z.nz) L,f _ _ e n]
  .rw[SV]at e;split at e
   .cases e
    rename_i ej;rw[st.sz]at ej;subst ej;show#[_,h[j],B[j]'om,0,by simp[I],by simp[show j<B.size by lk],f _ _ (qZ D) hp,h0s,qZ D]
   .let[T,x,y,p,u,X,l,Y,N]:=st.its j v e;show#[T,x,y,p,u,X,f _ _ N<|d T _ (qi l U<|by simp) (qi l J<|by rw[G];simp) (qi l K<|by rw[H];simp) l,Y,N]
  .rw[SV]at e M;split at e
   .rename_i ej;split at M
    .rename_i ek;lk
    .cases e
     let[T,p,u]:=Q k _ M;cases p
     show absurd u (dO _)
   .split at M
    .cases M
     let[T,p,u]:=Q j _ e;cases p
     show absurd u (dO _)
    .show st.nd j k v e M
def Qw{u:Heap}{S z TI TO i1 i2 N O:Addr}{m q:Array Value}{s:Shared}{c0:Nat}(hh:A.handled=none)(Z:ZA u S z TI TO i1 i2 N O)(q1:u.IsList N m)(q2:u.IsList O q)(hn:m.size=q.size)(hs:m.size<=1000)(hp:0<m.size)(p:Value)
  (i:∀b o,u.get? b=some o->s.heap.get? b=some o) (hz:IsZip s.heap z TI TO .none) (ti:IsPair s.heap TI (.ref i1) (.ref i2)) (to:IsPair s.heap TO .none .none) (e1:s.heap.IsListIter i1 N 0) (e2:s.heap.IsListIter i2 O 0) (L:S≠TO) (Q:u.objs.size<=TO)
  (Y:s.heap.get? S=some {cls:=.type "list",data:=.seq #[] c0})
  (hR:∀t tk d,((∀b o,u.get? b=some o->t.get? b=some o)/\(∃c,t.get? S=some {cls:=.type "list",dict:=none,data:=.seq d c,slots:=#[]})/\d.size=m.size/\
    (∀(j:Nat) (v:Value),d[j]?=some v->∃T x y,v=.ref T/\m[j]?=some x/\q[j]?=some y/\IsPair t T x y/\u.objs.size<=T/\T≠S)/\∀(j k:Nat) (v:Value),d[j]?=some v->d[k]?=some v->j=k)->R (.ok<|.ret p) {s with heap:=t,toks:=tk}):
  wpAny (model prog w) A.in1 (Builtin.List.listExtendWith (.ref S) (.ref z) p)
   (λfin P=>match fin with|.done f=>R (.ok f) P|.again c'=>c'.quiet=true/\codeAny (model prog w) A c' R P) (λe P=>R (.error e) P) s:=by
 let J:s.TypeIs (.ref z) "zip":=#[_,hz,0];have K:∀(h:Heap) (c1:Nat),(∀b o,b≠S->s.heap.get? b=some o->h.get? b=some o)->h.get? S=some {cls:=.type "list",data:=.seq #[] c1}->
   codeAny (model prog w) A (.builtin "list.extend.loop" #[[.ref S,.ref z,p],[]]) R {s with heap:=h}:=by
  intro h c1 n hc;let L1:h.IsList N m:=let #[o,H,r]:=q1;#[o,n _ _ (qA (ce H) Z.bS)<|i _ _ H,r];have L2:h.IsList O q:=let #[o,H,r]:=q2;#[o,n _ _ (qA (ce H) Z.bS)<|i _ _ H,r];show fY np ?_;rw[mK eM _];change wpAny _ A.in1 (pyNext (.ref z)>>=_) _ _ _;show ai (wpAny_pyNext_zip_item (x:=m[0]) (y:=q[0]'om) Z.ap (n _ _ (bJ Z.nz) hz) (n _ _ (bJ Z.Qv) ti) (n _ _ (bJ L) to) (e1.at λo e=>n _ _ (bJ Z.n1) e) (e2.at λo e=>n _ _ (bJ Z.n2) e) L1 L2 (by simp[hp]) (by simp[show 0<q.size by lk]) λt hz' hto' W X I hsz C=>?_)
  let G:=C S _ Z.nz L Z.n1 Z.n2 hc;let E:S<h.objs.size:=ce hc;change wpAny _ A.in1 (updateSeq S (·.push (.ref h.objs.size))>>=_) _ _ _;show ai ?_;let g:∀b o,b≠S->t.get? b=some o->(t.update S<|Obj.mapSeq (·.push (.ref h.objs.size))).get? b=some o:=λb o M e=>(eJ _ _<|bJ M).trans e;show eN G rfl (aj #[ft eM _,Oy hh Z q1 q2 hn hs p (m.size -1) 1 _ ((#[]:Array Value).push<|.ref h.objs.size) rfl hp ?_ λh2 tk d z2=>hR h2 tk d z2]) de<|by change 1<=sizeLine+1;decide
  let B:h.objs.size≠S:=qZ E;show#[λb o e=>?_,#[_,dW _ G rfl],0,#[h.objs.size,false,_,g _ _ (bJ Z.nz) hz',g _ _ B I],g _ _ (bJ Z.Qv)<|C TI _ Z.ap.TIz Z.ap.TITO Z.ap.TIi1 Z.ap.TIi2<|n _ _ (bJ Z.Qv) ti,W.at λo e=>g _ _ (bJ Z.n1) e,X.at λo e=>g _ _ (bJ Z.n2) e,λj v e=>?_,λj k v e U=>?_]
  .let l:=ce e;show g _ _ (qA l Z.bS)<|C b o (qA l Z.bz) (qA l Q) (qA l Z.RW) (qA l Z.RX)<|n _ _ (qA l Z.bS)<|i _ _ e
  .rw[SV]at e;split at e
   .cases e
    rename_i ej;simp at ej;subst ej;show#[_,m[0],q[0]'om,0,by simp[hp],by simp[show 0<q.size by lk],g _ _ B I,aL Z.bS<|iJ E,B]
   .simp at e
  .rw[SV]at e U;split at e
   .split at U
    .rename_i a b;simp at a b;lk
    .simp at U
   .simp at e
 unfold Builtin.List.listExtendWith;show ai<|CV (T:="zip") J ?_;let h1:Builtin.List.listSameRef (.ref S) (.ref z)=false:=by simp[Builtin.List.listSameRef,Z.nz]
 simp only[h1,show(Value.type "zip"==Value.type "list")=false by decide,show(Value.type "zip"==Value.type "tuple")=false by decide,iw,ck,fI]
 show ai<|wpAny_pyIter_zip hz ?_;show ai<|dR<|Ox J ?_;show eW (λ_=>?_) λ_=>aj #[ft eM _,K _ c0 (λb o _ e=>e) Y];show ai<|wpAny_rule ?_;show ai ?_;change wpAny _ _ (updateSeq S (·.push .none)>>=λ_=>updateSeq S (·.pop)) _ _ _;show ai<|eN Y rfl ?_;let D:=dW (Obj.mapSeq (·.push Value.none)) Y rfl;show eN (hz:=by seq_fits) D rfl ?_
 let hS3:=dW (Obj.mapSeq (·.pop)) D rfl;show aj #[ft eM _,K _ _ (λb o M e=>?_) hS3];show(eJ _ _<|bJ M).trans<|(eJ _ _<|bJ M).trans e
def Oz{h0:Heap}{S z TI TO q r t u:Addr}{xs ys:Array Value}{s:Shared}(H:A.handled=none)(Z:ZA h0 S z TI TO q r t u)(M:h0.IsList t xs)(N:h0.IsList u ys)(I:xs.size=ys.size)(K:xs.size<=1000)(J:0<xs.size)
  (g:∀b o,h0.get? b=some o->s.heap.get? b=some o) (L:IsZip s.heap z TI TO .none) (ti:IsPair s.heap TI (.ref q) (.ref r)) (P:IsPair s.heap TO .none .none) (D:s.heap.IsListIter q t 0) (E:s.heap.IsListIter r u 0) (h:S≠TO) (m:h0.objs.size<=TO)
  (n:s.heap.get? S=some {cls:=.type "list",data:=.seq #[]})
  (F:∀i O a,((∀b o,h0.get? b=some o->i.get? b=some o)/\(∃c,i.get? S=some {cls:=.type "list",dict:=none,data:=.seq a c,slots:=#[]})/\a.size=xs.size/\
    (∀(j:Nat) (v:Value),a[j]?=some v->∃T x y,v=.ref T/\xs[j]?=some x/\ys[j]?=some y/\IsPair i T x y/\h0.objs.size<=T/\T≠S)/\∀(j k:Nat) (v:Value),a[j]?=some v->a[k]?=some v->j=k)->R (.ok<|.ret .none) {s with heap:=i,toks:=O}):
  wpAny (model prog w) A.in1 (Builtin.«list.__init__» #[[.ref S,.ref z],[]])
   (λfin l=>match fin with|.done f=>R (.ok f) l|.again C=>C.quiet=true/\codeAny (model prog w) A C R l) (λe l=>R (.error e) l) s:=by
 change wpAny _ _ (do let B <-Builtin.List.listItems (.ref S);Builtin.List.listUpdate (.ref S) (λ_=>#[]);letGo B.toList.reverse;Builtin.List.listExtendWith (.ref S) (.ref z) .none) _ _ s
 show ai ?_;unfold Builtin.List.listItems;show ai<|fU n rfl<|aj ?_;change wpAny _ _ (updateSeq S (λ_=>#[])>>=λ_=>letGo (#[]:Array Value).toList.reverse>>=λ_=>Builtin.List.listExtendWith (.ref S) (.ref z) .none) _ _ s;show ai<|eN n rfl ?_;let p:=dW (Obj.mapSeq λ_=>(#[]:Array Value)) n rfl;let d:∀b o,b≠S->s.heap.get? b=some o->(s.heap.update S<|Obj.mapSeq λ_=>(#[]:Array Value)).get? b=some o:=λb o G e=>(eJ _ _<|bJ G).trans e;show ai<|gk ?_;show Qw H Z M N I K J .none (λb o e=>d b o (qA (ce e) Z.bS)<|g _ _ e) (d _ _ (bJ Z.nz) L) (d _ _ (bJ Z.Qv) ti) (d _ _ (bJ h) P) (D.at λo e=>d _ _ (bJ Z.n1) e) (E.at λo e=>d _ _ (bJ Z.n2) e) h m p F
end
def grown(I:Inv X f m H s)(k:∀b u,s.heap.get? b=some u->j.get? b=some u)(d:am H H')(h:∀b,b<⇑s->H b=none->H' b=none)(g:∀a o,H' a=some o->H a=none->fD X.prog X.w H' j a o):
  Inv X f m H' {s with heap:=j,toks:=r}:=by
 show I.un #[λb o q _ _ _=>k b o q,λb o q _ _ _=>#[o.slots,k b o q],λb o q n _=>h b (ce q) n,λb o q _=>#[o,k b o q],λb l q=>d _ _ q,λb o u q=>d _ _ q,λb p q=>#[#[],by rw[d _ _ q];simp]] λa o e=>?_
 cases q:H a with
 |none=>show g a o e q
 |some u=>
  let i:=d _ _ q;rw[e]at i;cases i
  show(I.hok a _ q).vJ (λc v _ z=>k c v z) (λc z=>d _ _ z) λc l z=>d _ _ z
def Gs:∀(l:List Value),(∀v∈l,∃T,v=Value.ref T)->∃a:List Addr,l=a.map Value.ref
 |[],_=>#[[],0]
 |v::l,h=>by
  let[T,0]:=h _<|aN ..;let[a,e]:=Gs l λu b=>h u<|aC _ b;show#[T::a,by rw[e];rfl]
def A8:∀(a:List Addr),Vals (a.map V.ref)<|a.map Value.ref
 |[]=>.nil
 |T::a=>.cons rfl<|A8 a
def SF(K:Frag)(h:TA):TE:=λk H Q=>h k H λj e=>∃(a b:Addr) (c g:List V),j=[.ref a,.ref b]/\cc K e a c/\cc K e b g/\c.length=g.length/\0<c.length/\c.length<=1000/\
 ∀(d:Hp) (l:Addr) (f:List Addr),am e d->e l=none->d l=some (.lst<|f.map V.ref)->f.length=c.length->(∀(i:Nat) (T:Addr) (x y:V),f[i]?=some T->c[i]?=some x->g[i]?=some y->d T=some (.tup [x,y]))->Q (.ref l) d
def Mi(ha:PA X [e,f] ta)(hg:Gl X "list")(hm:X.mg "list"=none)(hg2:Gl X "zip")(hm2:X.mg "zip"=none)(D:X.calm=true:=by rfl)(hs:starEach [.Call (.Name "zip" p2) [e,f] [] m] X.env=[(false,eval (.Call (.Name "zip" p2) [e,f] [] m) X.env)]:=by rfl)(he:starEach [e,f] X.env=(false,eval e X.env)::starEach [f] X.env:=by rfl)(hpl:(backTo m<|starEach [f] X.env).any (·.1)=false:=by rfl):
  PE X (.Call (.Name "list" p) [.Call (.Name "zip" p2) [e,f] [] m] [] pos) (SF X.K ta):=by
 intro E s σ H Q I h;show dU<|ja I hg hm boot_list ?_ de de;show cN ?_ hs rfl;rw[hs];change wpAny _ _ (spliced<|(false,eval (.Call (.Name "zip" p2) [e,f] [] m) X.env)::[]) _ _ s;show eA<|dU<|ja I hg2 hm2 Hn ?_ de de;show cN (dJ (ha m E s σ H _ I h) λus d #[vs,H1,O,r1,M]=>?_) he hpl;let[a,b,N,U,R,ha',hb',hn,hp,hle,q]:=M;subst R;cases r1 with
 |cons ra rr=>
  cases rr with
  |cons rb rn=>
   cases rn
   cases ra
   cases rb
   let[its,rv,K,hz1]:=O.list ha';let[jts,rw',L,hz2]:=O.list hb';let el1:=rv.length;let el2:=rw'.length;show call_zip_2 K.isList L.isList λl a1 a2 a3 a4 a5 a6 a7=>eP ?_;show callType_codes (Q₁:=λobj F=>obj=.ref l.objs.size/\F={d with heap:=l.push {cls:=.type "list",data:=.seq #[]}}) zr (tu _) tK (code_list_new _ #[0,0]) λobj F z₁=>?_;let[0,0]:=z₁;let hS:(l.push {cls:=.type "list",data:=.seq #[]}).get? l.objs.size=some {cls:=.type "list",data:=.seq #[]}:=bx _ rfl;let S:∀{b o},l.get? b=some o->(l.push {cls:=.type "list",data:=.seq #[]}).get? b=some o:=λe=>br _ e;let al:@LT.lt Nat instLTNat a ⇑d:=by let[o,n,ho,_]:=K;show ce ho
   let bl:@LT.lt Nat instLTNat b ⇑d:=by let[o,n,ho,_]:=L;show ce ho
   let ap:ZipApart (⇑d+4) (⇑d+2) (⇑d+3) ⇑d (⇑d+1) a b:=by
    show#[?_,?_,?_,?_,?_,?_,?_,?_,?_,?_,?_,?_,?_,?_,?_,?_,?_,?_]<;>(intro z;let z':(_:Nat)=_:=z;revert z';first|lk|(intro z';show absurd z' om))
   let Z:ZA d.heap l.objs.size (⇑d+4) (⇑d+2) (⇑d+3) ⇑d (⇑d+1) a b:=by
    rw[a6];show#[ap,?_,?_,?_,?_,?_,?_,?_,?_,?_]
    all_goals first|(change(_:Nat)<=_;lk)|(intro z;let z':(_:Nat)=_:=z;lk)
   let nTO:l.objs.size≠⇑d+3:=by rw[a6];intro z;let z':(_:Nat)=_:=z;lk
   show#[#[_,hS,0],sh _ _,Oz (A:=X.A.in1) (h0:=d.heap) (xs:=its.toArray) (ys:=jts.toArray) (show X.A.in1.handled=none from O.ok.hd D) Z K.isList L.isList (by simp;lk) (by simp;lk) (by simp;lk) (λb o e=>S<|a7 _ _ e) (S a1) (S a2) (S a3) (a4.at λo e=>S e) (a5.at λo e=>S e) nTO (qu _ _) hS λh2 tk G k2=>?_]
   let[kk,[c,hl],hsz,r,hnd]:=k2;show#[0,?_];let[g,J]:=Gs G.toList λv hv=>by
    let[j,A,e]:=iA.mp hv;let[T,x,y,M,_]:=r j v<|by rw[<-nR,ak A,e]
    show#[T,M]
   let W:g.length=N.length:=by
    let:=dF List.length J;rw[ac,aO,hsz]at this;simp at this;lk
   let C:∀(j:Nat) (T:Addr),g[j]?=some T->G[j]?=some (.ref T):=λj T e=>by
    rw[<-nR,J,aZ,e];rfl
   let ndT:g.Nodup:=by
    rw[oN,jL];intro j k A hk hjk e;let e2:=C j _<|ak A;let e3:=C k _<|ak hk;rw[<-e]at e3;let:=hnd j k _ e2 e3;lk
   let' B:Hp:=λc=>if c=l.objs.size then some (.lst<|g.map V.ref)else match g.idxOf? c with
    |some j=>(match N[j]?,U[j]?with|some x,some y=>some (.tup [x,y])|_,_=>none)
    |none=>H1 c
   let big:∀(j:Nat) (T:Addr),g[j]?=some T->⇑d<=T/\T≠l.objs.size:=λj T e=>by
    let[T',x,y,M,q2,q3,q4,q5,q6]:=r j _<|C j T e;cases M
    show#[q5,q6]
   let idx:∀(j:Nat) (T:Addr),g[j]?=some T->g.idxOf? T=some j:=λj T e=>by
    rw[List.idxOf?_eq_some_iff];let[A,P]:=aJ.mp e;show#[A,by rw[P],λk hk=>?_]
    intro z;let:=(lQ (h₀:=by lk) (h₁:=A) ndT).mp<|z.trans P.symm
    lk
   let t:∀c,c∉g->g.idxOf? c=none:=λc D=>by rw[List.idxOf?_eq_none_iff];show D
   let w:∀c,c<⇑d->B c=H1 c:=λc D=>by
    let Y:c≠l.objs.size:=λz=>by rw[z,a6]at D;show absurd D (by change¬(_:Nat)<_;lk)
    let n2:c∉g:=λz=>by
     let[j,A,e]:=iA.mp z;let:=(big j c<|by rw[ak A,e]).1
     show absurd D (Nat.not_lt.mpr this)
    change(if c=l.objs.size then _ else _)=_;rw[az Y,t c n2]
   let sm:am H1 B:=λc o e=>by
    rw[w c<|O.hok.lt e];show e
   let tup:∀(i:Nat) (T:Addr) (x y:V),g[i]?=some T->N[i]?=some x->U[i]?=some y->B T=some (.tup [x,y]):=λi T x y e R ey=>by
    change(if T=l.objs.size then _ else _)=_;rw[az (big i T e).2,idx i T e];simp only[R,ey]
   let I3:Inv X E σ B {d with heap:=h2,toks:=tk}:=by
    show grown (H':=B) O kk sm (λc D n=>by rw[w c D];show n) λc o e n=>?_
    by_cases Y:c=l.objs.size
    .let e':B c=some (.lst<|g.map V.ref):=by change(if c=l.objs.size then _ else _)=_;rw[aH Y]
     rw[e']at e;cases e
     rw[Y];show#[by rw[ac,W];show aL hle de,G.toList,_,by rw[J];show A8 g,by rw[R9];show hl]
    .have e':B c=match g.idxOf? c with
      |some j=>(match N[j]?,U[j]?with|some x,some y=>some (.tup [x,y])|_,_=>none)
      |none=>H1 c:=by change(if c=l.objs.size then _ else _)=_;rw[az Y]
     rw[e']at e;cases P:g.idxOf? c with
     |none=>rw[P]at e;rw[n]at e;cases e
     |some j=>
      rw[P]at e;let[A,ej',_]:=List.idxOf?_eq_some_iff.mp P;let eT:g[j]?=some c:=by rw[ak A];simpa using ej'
      let hjx:j<N.length:=om;let hjy:j<U.length:=om;let[T',x,y,M,q2,q3,q4,q5,q6]:=r j _<|C j c eT;cases M
      let R:N[j]?=some N[j]:=ak hjx;let ey:U[j]?=some U[j]:=ak hjy;simp only[R,ey]at e;cases e
      let[u,hu,ru]:=rv.get R;let[v,hv,rv']:=rw'.get ey;let eu:u=x:=by simp at q2;rw[hu]at q2;show bj q2
      let ev:v=y:=by simp at q3;rw[hv]at q3;show bj q3
      subst eu ev;show#[by change 2<=sizeLine;decide,[u,v],.cons ru<|.cons rv' .nil,#[_,q4,0,1]]
   show#[.ref l.objs.size,B,I3,0,q B l.objs.size g sm (O.hok.fresh<|by rw[a6];show qu _ _) (by change(if _ then _ else _)=_;rw[aH rfl]) W tup]
def ye(K:Frag):Rep (Pt×Pt):=λH v e=>∃a b c,v=.ref a/\gT K H a [b,c]/\eF K H b e.1/\eF K H c e.2
def ye.mon:Mon K (ye K):=λ_ _ _ _ t #[a,d,f,e,h,b,c]=>#[a,d,f,e,t _ _ h,eF.mon _ _ _ _ t b,eF.mon _ _ _ _ t c]
abbrev Hr(K:Frag)(H:Hp)(v:V)(a:List Pt):Prop:=IsL K (eF K) H v a
def Gj{b:Type}{a:List b}{k d:Nat}{v:b}(g:k<a.length)(f:d<=a.length)(h:a[(k+a.length -d)%a.length]?=some v):AW a (0+(k:Int) -(d:Int))=some v:=by
 by_cases c:d<=k
 .let e:(k+a.length -d)%a.length=k -d:=by
   rw[show k+a.length -d=(k -d)+a.length by lk,K9,fj om]
  rw[e]at h;rw[show(0+(k:Int) -(d:Int))=((k -d:Nat):Int) by lk]
  show bH h
 .let e:(k+a.length -d)%a.length=k+a.length -d:=fj om;rw[e]at h;unfold AW LM;rw[az om,aH om,show((0+(k:Int) -(d:Int))+(a.length:Int)).toNat=k+a.length -d by lk]
  show h
def oe{b:Type}{F:V->b->Prop}{c:List V}{a:List b}{d:b}{i:Nat}(h:Paired F c a)(g:i<a.length):∃v,c[i]?=some v/\F v (a.getD i d):=by
 let[v,e,f]:=im h (show a[i]?=some (a.getD i d) by simp[List.getD,g])
 show#[v,e,f]
def km(K:Frag):Sp:=λc H Q _=>∃(b:V) (a:List Pt),c=[b]/\Hr K H b a/\a≠[]/\a.length<=100/\L9 (IsL K<|ye K) H Q (edges a)
def lw(a:List V)(k:Nat):jb a (some (k:Int)) none=a.drop k:=by
 unfold jb;rw[Dm,w8];by_cases h:k<=a.length
 .rw[QS h];show vH<|by rw[fk];show aE _
 .rw[Hb om,iG,vy om];simp
def B8(a:List V)(k:Nat):jb a none (some (k:Int))=a.take k:=by
 unfold jb;rw[Dm,w8,List.drop_zero,Nat.sub_zero];by_cases h:k<=a.length
 .rw[QS h]
 .simp
def uu:∀{a:List d} {b:List f},a.length=b.length->(∀(i:Nat) (v:d) (x:f),a[i]?=some v->b[i]?=some x->F v x)->Paired F a b
 |[],[],_,_=>.nil
 |[],_::_,h,_=>by simp at h
 |_::_,[],h,_=>by simp at h
 |v::a,x::b,h,k=>.cons (k 0 v x rfl rfl) (uu (by simpa using h) λi v x e c=>k (i+1) v x (by simpa using e)<|by simpa using c)
def B9:∀{a:List c} {b:List d} (k:Nat),Paired F a b->Paired F (a.drop k) (b.drop k)
 |_,_,0,h=>h
 |_,_,k+1,.nil=>by simp;show .nil
 |_,_,k+1,.cons _ t=>by rw[kT,kT];show B9 k t
def B_:∀{a:List c} {b:List d} (k:Nat),Paired F a b->Paired F (a.take k) (b.take k)
 |_,_,0,_=>by simp;show .nil
 |_,_,k+1,.nil=>by simp;show .nil
 |_,_,k+1,.cons r t=>by rw[kS,kS];show .cons r<|B_ k t
def xj:∀{a b:List e} {c d:List f},Paired F a c->Paired F b d->Paired F (a++b) (c++d)
 |_,_,_,_,.nil,h=>h
 |_,_,_,_,.cons r t,h=>.cons r<|xj t h
def OA(h:Paired F c d)(e:c.length=2):∃a b p q,c=[a,b]/\d=[p,q]/\F a p/\F b q:=by
 match c,d,h,e with
 |[a,b],[p,q],.cons f<|.cons g .nil,_=>show#[a,b,p,q,0,0,f,g]
def HA(b:a≠[])(c:a.length≠2):edges a=a.zip (a.drop 1++a.take 1):=by
 match a,b,c with
 |[p],_,_=>rfl
 |[p,q],_,h=>simp at h
 |p::q::r::l,_,_=>rfl
def Fq(y:Facts K mg CP CB):Df P w K mg Y 1 "sides_of" ["points"] (km K):=by
 show y.FM.dx ["points"] λf cdv A O s H d Q E hr nd hu h=>?_;let[va,S,0,[pl,d,0,g,u],J,hle,k]:=h;let hlen:=u.length;show#[_,(af (cF (ct oz (bC (mL K) SY y.Bt.len boot_len<|aa (pv 0) ah) aI) (ao<|aM<|cR<|aa (eI<|aa (iR K (pv 0) aI)<|aa (iR K (pv 0) aI) ah) ah) bA)
  (ao<|aM<|Mi (aa (pv 0)<|aa (cat (Ld K (pv 0) (fT aI) iC)<|Ld K (pv 0) iC<|fT aI) ah) SY y.Bt.list SY y.Bt.zip)),?_]
 show#[1,pl,d,0,.inl g,0,1,cg (λt1=>?_) λt1=>?_]
 .let r:d.length=2:=by
   let:=aF t1;injection this with this;lk
  let[j,m,p,q,0,0,U,W]:=OA u r
  .show#[1,pl,_,(0),j,0,0,g,0,1,pl,_,(1),m,0,0,g,0,da,λt ht=>#[c6,λl hl=>?_]];let X:am H (upd H t<|.tup [j,m]):=am.new ht;let s2:am (upd H t<|.tup [j,m]) (upd (upd H t<|.tup [j,m]) l<|.lst [.ref t]):=am.new hl;let o:=X.trans s2;show k _ _ o #[l,1,cc.of ag,.cons #[t,j,m,0,gT.of<|s2 _ _ ag,eF.mon _ _ _ _ (am.ts o) U,eF.mon _ _ _ _ (am.ts o) W] .nil]
 .let r:d.length≠2:=λz=>by
   rw[z]at t1;simp at t1
  let N:0<d.length:=by grind
  show#[3,pl,1,g,λa Z=>#[2,pl,1,(am.new Z).seq g,λb F=>?_]];rw[show jb d (some 1) none=d.drop 1 from lw d 1]at F|-;rw[show jb d none (some 1)=d.take 1 from B8 d 1];let D:(upd (upd H a<|.lst<|d.drop 1) b<|.lst<|d.take 1) a=some (.lst<|d.drop 1):=(am.new F) _ _ ag;show#[a,b,_,1,0,D,ag,?_,λc hc=>?_]
  .rw[fk,cE];show aL (show _<=100 by lk) de
  let s0:am H (upd (upd (upd H a<|.lst<|d.drop 1) b<|.lst<|d.take 1) c<|.lst<|d.drop 1++d.take 1):=((am.new Z).trans<|am.new F).trans<|am.new hc;show#[pl,c,d,1,s0.seq g,cc.of ag,?_,N,om,λH' l Ts X hl e hT G=>?_]
  .grind
  let R:=xj (B9 1 u)<|B_ 1 u;let n:=s0.trans X;show k _ _ n #[l,1,cc.of e,?_];let I:(S.drop 1++S.take 1).length=S.length:=by grind
  rw[HA J om];show uu (by rw[ac,hT,RN,I];lk) λi v x ev C=>?_
  rw[aZ]at ev;cases B:Ts[i]?with
  |none=>rw[B]at ev;cases ev
  |some T=>
   rw[B]at ev;let 0:V.ref T=v:=bj ev;rw[List.getElem?_zip_eq_some]at C;let[j,L,U]:=qf u C.1;let[m,M,W]:=qf R C.2;show#[T,j,m,0,gT.of<|G i T j m B L M,eF.mon _ _ _ _ (am.ts n) U,eF.mon _ _ _ _ (am.ts n) W]
section
variable{K:Frag}
def qN(K:Frag):Sp:=λd H Q _=>∃(a b c:V) (p q r:Pt),d=[a,b,c]/\eF K H a p/\eF K H b q/\eF K H c r/\Q (.bl<|ji p q r) H
def B1(T:Facts K y D C):Df P w K y l 2 "turns_back" ["a","b","c"] (qN K):=by
 show T.CC.dx ["a","b","c"] λf v A j s H O Q E x J I h=>?_;let[L,M,N,p,q,r,0,o,t,d,k]:=h;let[[a,0,m],z]:=id o;let[[b,0,g],u]:=id t;let[[c,0,n],B]:=id d;let F:=Fh u z;let G:=Fh B u;show#[_,(af (cF (ct oA (du (Oo T) x<|aa (pv 0)<|aa (pv 1)<|aa (pv 2) ah) aI) (ao<|aM iN) bA)
  (ao<|aM<|cv fE (ad (ml (sb (ti K 1)<|ti K 0)<|sb (ti K 2)<|ti K 1)<|ml (sb (ti K 1)<|ti K 0)<|sb (ti K 2)<|ti K 1) aI)),?_]
 show#[3,_,_,_,_,_,1,o,t,d,0,1,cg (λi=>?_) λi=>?_]
 .let e:turnOf p q r≠0:=by simpa using i
  unfold ji at k;rw[aH e]at k;show k
 .let e:turnOf p q r=0:=by simpa using i
  unfold ji at k;rw[az<|by simpa using e]at k
  show#[_,_,1,g,0,_,_,1,m,0,_,1,0,_,_,1,n,0,_,_,1,g,0,_,1,0,_,1,0,.inl #[om,om],
   _,_,1,g,0,_,_,1,m,0,_,1,0,_,_,1,n,0,_,_,1,g,0,_,1,0,_,1,0,.inl #[om,om],_,1,0,_,1,0,k]
def iO(K:Frag):Sp:=λd H Q _=>∃(c:V) (a:List Pt),d=[c]/\Hr K H c a/\3<=a.length/\a.length<=100/\∀b,am H b->Q (.bl<|fC a) b
def B2{lo:Int}(h:((List.range n).map λ(k:Nat)=>lo+(k:Int))[i]?=some x):i<n/\x=lo+(i:Int):=by
 let a:=(aJ.mp h).1;rw[ac,cu]at a;rw[aZ,zu a]at h;show#[a,(bj h).symm]
def mP(T:Facts K S CP CB):Df P w K S z 3 "some_corner_turns_back" ["corners"] (iO K):=by
 show T.mV.dx ["corners","k"] λf I A r s H vs Q E O U hu h=>?_;let[_,b,0,[a,n,0,F,D],h3,hn,k]:=h;let N:=D.length;show#[_,(af (dZ cm rfl (AN rfl T.Bt.range<|aa (bC (mL K) SY T.Bt.len boot_len<|aa (pv 0) ah) ah) (bF 1 U)
  (ao<|cF (cV<|du (B1 T) O<|aa (iR K (pv 0)<|sb (pv 1) aI)<|aa (iR K (pv 0)<|sb (pv 1) aI)<|aa (iR K (pv 0)<|pv 1) ah) (ao<|aM iN) bA))
  (ao<|aM iN)),?_]
 show#[1,a,1,.inl F,1,om,om,?_];show dh (src_range (lo:=0)) (λi u y=>am H y/\(∃v,u=[some (.ref a),v])/\∀k,k<i->ji (b.getD ((k+b.length -2)%b.length) o0) (b.getD ((k+b.length -1)%b.length) o0) (b.getD k o0)=false)
  #[am.refl _,#[none,0],λk M=>absurd M (jp _)] (λ_ _ _ _ _=>trivial) ?_ ?_
 .ext i x v u y p R ⟨t,⟨v0,rfl⟩,c⟩ s2 Z;let[o,0]:=B2 R;replace o:i<n.length:=om;let 0:=Z;let d:=t.trans s2;let l:cc K p a n:=d.seq F;let g:Paired (eF K p) n b:=cO eF.mon (am.ts d) D;let G:∀m,m%b.length<b.length:=λm=>lm _ om;let[v2,C,Y]:=oe (d:=o0) g<|G<|i+b.length -2;let[v1,B,X]:=oe (d:=o0) g<|G<|i+b.length -1;let[v0',J,W]:=oe (d:=o0) g (show i<b.length by lk)
  rw[<-N]at C B;show#[2,_,1,0,a,n,_,1,0,l,Gj (d:=2) o om C,2,_,1,0,a,n,_,1,0,l,Gj (d:=1) o om B,2,a,n,_,1,0,l,(by rw[nO];show bH J),
   _,_,_,_,_,1,Y,X,W,1,cg (λq=>?_) λq=>?_]
  .let e:fC b=true:=by
    unfold fC;show ci.mpr #[i,cB.mpr om,q]
   rw[e]at k;show k _ d
  .show#[d,#[1],λj hj=>?_];by_cases L:j=i
   .subst L;show q
   .show c j om
 .ext u p ⟨t,⟨v0,rfl⟩,c⟩;rw[ac,cu]at c;let e:fC b=false:=by
   unfold fC;show kD.mpr λi o=>?_;rw[c i<|by let:=cB.mp o;lk]
   show aR
  rw[e]at k;show k _ t
def jR:(edges ps).length<=ps.length:=by
 match ps with
 |[]=>simp[edges]
 |[p]=>simp[edges]
 |[p,q]=>simp[edges]
 |p::q::r::l=>simp[edges,RN]
def iV(K:Frag):Sp:=λd H Q _=>∃(c:V) (a:List Pt),d=[c]/\Hr K H c a/\3<=a.length/\a.length<=100/\∀b,am H b->Q (.bl<|fN a) b
def JQ(a b c d:Pt):pD a b c d=d_ a b c d:=by
 unfold pD d_;let e:bM [a,b]=bU (a,b):=rfl;let f:bM [c,d]=bU (c,d):=rfl;rw[e,f,p5,p5];cases bZ (turnOf a b c) (turnOf a b d)
 .cases bZ (turnOf c d a) (turnOf c d b)
  .change cC _ _=(true&&(true&&decide (fK a b c d)));rw[tM,tM,bQ,gy,aT];show Iff.rfl
  .simp
 .simp
def j4(a:List Pt)(i j:Nat):Bool:=!(decide (i=0)&&decide (j=(edges a).length -1))&&pD ((edges a).getD i (o0,o0)).1 ((edges a).getD i (o0,o0)).2 ((edges a).getD j (o0,o0)).1 ((edges a).getD j (o0,o0)).2
def sL(a:List Pt):fN a=true↔∃i j,i+2<=j/\j<(edges a).length/\j4 a i j=true:=by
 unfold fN j4;simp only[ci,cB,List.mem_range'_1,JQ];walk
 .ext⟨i,e,j,c,h⟩;show#[i,j,c.1,om,h]
 .ext⟨i,j,b,d,h⟩;show#[i,om,j,#[b,om],h]
def nj(T:Facts K mg CP CB):Df P w K mg base 3 "some_sides_apart_meet" ["corners"] (iV K):=by
 show T.nM.dx ["corners","sides","last","i","j"] λf cdv A outer s H vs Q E hr nd hu h=>?_;let[va,b,0,hps,h3,hn,k]:=h;let hel:=jR (ps:=b);show#[_,(af (aS 1 nd<|du (Fq T) hr<|aa (pv 0) ah)
  (af (aS 2 nd<|sb (bC (mL K) SY T.Bt.len boot_len<|aa (pv 1) ah) aI)
  (af (dZ cm rfl (AN rfl T.Bt.range<|aa (bC (mL K) SY T.Bt.len boot_len<|aa (pv 1) ah) ah) (bF 3 nd)
  (ao (dZ cm rfl (AO rfl T.Bt.range<|aa (ad (pv 3) aI)<|aa (bC (mL K) SY T.Bt.len boot_len<|aa (pv 1) ah) ah) (bF 4 nd)
  (af (cF (o6 (ct oz (pv 3) aI)<|p9<|ct oz (pv 4)<|pv 2).pt (ao Di) bA)
  (ao<|cF (cV<|du (vP T) hr<|aa (Q4 K (iR K (pv 1)<|pv 3) aI)<|aa (Q4 K (iR K (pv 1)<|pv 3) aI)<|aa (Q4 K (iR K (pv 1)<|pv 4) aI)<|aa (Q4 K (iR K (pv 1)<|pv 4) aI) ah) (ao<|aM iN) bA)))))
  (ao<|aM iN)))),?_]
 show#[1,_,1,hps,(by intro z;subst z;simp at h3),hn,λH1 v1 s1 r1=>?_]
 let[a,c,0,Z,hP]:=r1;let hl:=hP.length;show#[1,a,1,.inl Z,_,1,0,?_];show#[1,a,1,.inl Z,1,om,om,?_];show dh (src_range (lo:=0)) (λi D W=>am H1 W/\(∃v w,D=[some va,some<|.ref a,some<|.int<|(c.length:Int) -1,v,w])/\∀B j,B<i->B+2<=j->j<(edges b).length->j4 b B j=false)
  #[am.refl _,#[none,none,0],λB j hk=>absurd hk (jp _)] (λ_ _ _ _ _=>trivial) ?_ ?_
 .ext i x v D W H2 hx ⟨sa,⟨v0,w0,rfl⟩,g⟩ s2 r2;let[hi,0]:=B2 hx;replace hi:i<c.length:=om;let 0:=r2;let U:=sa.trans s2;let hS2:cc K H2 a c:=U.seq Z;show#[1,_,1,0,1,a,1,.inl hS2,_,1,#[om,om,om,om],?_];show dh (src_range (lo:=0+(i:Int)+2)) (λj D W=>am H1 W/\(∃w,D=[some va,some<|.ref a,some<|.int<|(c.length:Int) -1,some<|.int<|0+(i:Int),w])/\∀l,i+2<=l->l<i+2+j->l<(edges b).length->j4 b i l=false)
   #[U,#[1],λl a1 a2=>absurd a2 om] (λ_ _ _ _ _=>trivial) ?_ ?_
  .ext j y v D H3 X hy ⟨sb,⟨w,rfl⟩,p⟩ s4 r4;let[hj,0]:=B2 hy;let 0:=r4;let m:=sb.trans s4;let d:cc K X a c:=m.seq Z;let M:Paired (ye K X) c (edges b):=cO ye.mon (am.ts m) hP;let hj':i+2+j<c.length:=om;let[ui,ei,F,x1,x2,0,ti,N,O]:=oe (d:=(o0,o0)) M (show i<(edges b).length by lk)
   let[uj,ej,G,y1,y2,0,tj,R,S]:=oe (d:=(o0,o0)) M (show i+2+j<(edges b).length by lk)
   let n:AW c (0+(i:Int))=some (.ref F):=by rw[nO];show bH ei
   let o:AW c (0+(i:Int)+2+(j:Int))=some (.ref G):=by rw[show(0+(i:Int)+2+(j:Int))=((i+2+j:Nat):Int) by lk];show bH ej
   let nx:j4 b i (i+2+j)=false->am H1 X/\(∃w,[some va,some<|V.ref a,some<|V.int<|(c.length:Int) -1,some<|V.int<|0+(i:Int),some<|V.int<|0+(i:Int)+2+(j:Int)]=[some va,some<|V.ref a,some<|V.int<|(c.length:Int) -1,some<|V.int<|0+(i:Int),w])/\∀l,i+2<=l->l<i+2+(j+1)->l<(edges b).length->j4 b i l=false:=λhf=>by
    show#[m,#[1],λl Y I t=>?_];by_cases e:l=i+2+j
    .rw[e];show hf
    .show p l Y om t
   let go:¬(i=0/\i+2+j=(edges b).length -1)->∀r,am X r->pD ((edges b).getD i (o0,o0)).1 ((edges b).getD i (o0,o0)).2 ((edges b).getD (i+2+j) (o0,o0)).1 ((edges b).getD (i+2+j) (o0,o0)).2=true->Q (.bl true) r:=λhne r C hm=>by
    let e:fN b=true:=(sL b).mpr #[i,i+2+j,om,om,by
     unfold j4;rw[hm,lf];cases J:decide (i=0)
     .rfl
     .cases L:decide (i+2+j=(edges b).length -1)
      .rfl
      .show absurd #[aF J,aF L] hne]
    rw[e]at k;show k _<|s1.trans<|m.trans C
   show#[1,0,1,cg (λJ=>?_) λJ=>?_]
   .let e1:i=0:=by let:=aF J;injection this with this;lk
    show#[2,0,1,cg (λL=>?_) λL=>?_]
    .let e2:(0+(i:Int)+2+(j:Int))=(c.length:Int) -1:=by let:=aF L;injection this
     show nx ?_;unfold j4;rw[aU e1,aU (show i+2+j=(edges b).length -1 by lk)]
     rfl
    let ne:¬(i=0/\i+2+j=(edges b).length -1):=λz=>by
     let:=cb L;show this<|by congr 1;lk
    show#[2,a,c,_,1,0,d,n,F,_,_,1,0,ti,0,2,a,c,_,1,0,d,n,F,_,_,1,0,ti,0,2,a,c,_,1,0,d,o,G,_,_,1,0,tj,0,2,a,c,_,1,0,d,o,G,_,_,1,0,tj,0,
     _,_,_,_,_,_,_,1,N,O,R,S,λr C=>#[1,cg (λu=>go ne r C u) λu=>?_]]
    let[_,q2,q3]:=nx<|by unfold j4;rw[u,kb]
    show#[m.trans C,q2,q3]
   .let ne:¬(i=0/\i+2+j=(edges b).length -1):=λz=>by
     let:=cb J;show this<|by congr 1;lk
    show vL ?_;show#[2,a,c,_,1,0,d,n,F,_,_,1,0,ti,0,2,a,c,_,1,0,d,n,F,_,_,1,0,ti,0,2,a,c,_,1,0,d,o,G,_,_,1,0,tj,0,2,a,c,_,1,0,d,o,G,_,_,1,0,tj,0,
     _,_,_,_,_,_,_,1,N,O,R,S,λr C=>#[1,cg (λu=>go ne r C u) λu=>?_]]
    let[_,q2,q3]:=nx<|by unfold j4;rw[u,kb]
    show#[m.trans C,q2,q3]
  .ext D H3 ⟨sb,⟨w,rfl⟩,p⟩;rw[ac,cu]at p;show#[sb,#[_,1],λB j Y I t=>?_];by_cases e:B=i
   .subst e;show p j I om t
   .show g B j om I t
 .ext D H2 ⟨sa,⟨v0,w0,rfl⟩,g⟩;rw[ac,cu]at g;let e:fN b=false:=by
   cases q:fN b with
   |false=>rfl
   |true=>
    let[i,j,Y,I,t]:=(sL b).mp q;rw[g i j om Y I]at t;cases t
  rw[e]at k;show k _<|s1.trans sa
def pE(K:Frag):Sp:=λd H Q _=>∃(c:V) (a:List Pt),d=[c]/\Hr K H c a/\a≠[]/\a.length<=100/\∀b,am H b->Q (.bl<|oY a) b
def Q8(p:Pt):PyData:=.tuple [.int p.x,.int p.y]
def JR(h:eF K H v p):Dp K H v (Q8 p):=by
 let[[a,0,h],_]:=h;show .tup h<|.cons (.int _)<|.cons (.int _) .nil
def Ma(p q:Pt):PyData.eqv (Q8 p) (Q8 q)=decide (p=q):=by
 unfold Q8;simp only[PyData.eqv,PyData.eqvAll,lf];rw[bQ];let[a,b]:=p;let[c,d]:=q;simp
def zY(T:Facts K C J I):Df P w K C r 4 "is_skeleton" ["points"] (pE K):=by
 show T.Ak.dx ["points"] λf x A p s H X Q E n S O h=>?_;let[_,c,0,b,m,t,k]:=h;let[a,v,0,d,l]:=id b;let N:=l.length;show#[_,(af (cF (ct oz (bC (mL K) SY T.Bt.len boot_len<|aa (pv 0) ah) aI) (ao<|aM iN) bA)
  (af (cF (ct oz (bC (mL K) SY T.Bt.len boot_len<|aa (pv 0) ah) aI) (ao<|aM<|cv (SC K n) (iR K (pv 0) aI)<|iR K (pv 0) aI) bA)
  (ao<|aM<|mJ (BA<|du (mP T) n<|aa (pv 0) ah)<|mI<|BA<|du (nj T) n<|aa (pv 0) ah))),?_]
 show#[1,a,1,.inl d,0,1,cg (λg=>?_) λg=>?_]
 .let e:c.length=1:=by let:=aF g;injection this with this;lk
  let:=k _<|am.refl H;unfold oY at this;rw[aH e]at this;show this
 let o:¬c.length=1:=λz=>cb g<|by congr 1;lk
 show#[1,a,1,.inl d,0,1,cg (λi=>?_) λi=>?_]
 .let e:c.length=2:=by let:=aF i;injection this with this;lk
  let[U,y,D]:=oe (d:=o0) l (show 0<c.length by lk)
  let[W,B,F]:=oe (d:=o0) l (show 1<c.length by lk)
  show#[1,a,v,_,1,0,d,bH y,1,a,v,_,1,0,d,bH B,_,_,JR D,JR F,0,0,?_];let:=k _<|am.refl H;unfold oY at this;rw[az o,aH e]at this;rw[Ma,<-decide_not];show this
 let u:¬c.length=2:=λz=>cb i<|by congr 1;lk
 let R:c.length≠0:=λz=>m<|f_.mp z;show#[1,_,1,b,om,t,λL q=>#[2,cg (λj=>?_) λj=>?_]]
 .show#[1,_,1,b.same eF.mon q,om,t,λM G=>#[1,?_]];let:=k _<|q.trans G;unfold oY at this;rw[az o,az u]at this;show kt j this
 .let:=k _ q;unfold oY at this;rw[az o,az u]at this;show kf j this
def d8(K:Frag):Sp:=λb H Q _=>∃(a:V) (p:Pt),b=[a]/\eF K H a p/\L9 (λH v (q:Pt)=>IsT K H v [q.y,q.x]) H Q p
def vS(T:Facts K i l j):Df P w K i c 1 "low_then_left" ["point"] (d8 K):=by
 show T.wC.dx ["point"] λf e A b s H t Q E m o n h=>?_;let[_,p,0,[[a,0,d],r],k]:=h;show#[_,(ao<|aM<|eI<|aa (ti K 0)<|aa (ti K 0) ah),?_];show#[_,_,1,d,0,_,_,1,d,0,da,λq g=>k _ _ (am.new g) #[q,0,gT.of ag]]
def pF(K:Frag):Sp:=λd H Q _=>∃(c:V) (a:List Pt),d=[c]/\Hr K H c a/\a≠[]/\a.length<=100/\∀b,am H b->Q (.int<|AH a) b
def DK(f:Pt×Pt->Int):∀(l:List (Pt×Pt)) (z:Int),l.foldl (λs e=>s+f e) z=z+(l.map f).sum
 |[],z=>by simp
 |e::l,z=>by rw[f6,DK f l,bm,tP];lk
def zZ(T:Facts K F O N):Df P w K F j 2 "double_area" ["corners"] (pF K):=by
 show T.Al.dx ["corners","a","b"] λf r A i s H vs Q E B g Z h=>?_;let[va,I,0,d,c,z,k]:=h;show#[_,(ao<|aM<|bC (RQ K) SY T.Bt.sum boot_sum<|aa (ke rfl g (oE K<|du (Fq T) B<|aa (pv 0) ah) (cZ (own:=[("a",1),("b",2)])<|by kernel_rfl) (λ_ _ _ _ _=>(Le K 2<|dC (bF 1 g)<|dC (bF 2 g) jZ)) (λ_ _ _ _ _=>g_) λ_ _ _ _ _=>(sb (ml (ti K 1)<|ti K 2)<|ml (ti K 1)<|ti K 2)) ah),?_]
 show rA<|Qh<|vj<|vM ?_;show#[1,_,1,d,c,z,λS v1 L J=>?_];let[a,M,0,l,x]:=J;show#[a,0,#[_,l],?_];show lG (K:=K) (src_list (R:=ye K) (vs:=M) (xs:=edges I)) ul.mon (λe=>e.1.x*e.2.y -e.1.y*e.2.x) (bi jR om) (λR s=>#[s.seq l,cO ye.mon (am.ts s) x]) ?_ ?_
 .ext e v p U Y o ⟨b,u1,u2,rfl,y,⟨⟨W,rfl,m⟩,t⟩,⟨⟨X,rfl,n⟩,u⟩⟩ C;unfold Rg at t u;show#[b,1,y,0,_,1,_,1,0,0,_,_,1,m,0,_,_,1,n,0,_,1,0,.inl #[om,om],_,_,1,m,0,_,_,1,n,0,_,1,0,.inl #[om,om],_,1,0,C _ _ (am.refl _) rfl]
 .intro p D q o _ e G;rw[x6 G]at e;show#[D,1,cc.of e,?_];let:=k _<|L.trans o;unfold AH at this;rw[DK,nO]at this;show this
end
def eK(K:Frag):Rep (Pt×Pt):=λH v e=>∃a b c,v=.ref a/\gT K H a [b,c,.int (bU e).l,.int (bU e).b,.int (bU e).r,.int (bU e).t]/\eF K H b e.1/\eF K H c e.2
def eK.mon:Mon K (eK K):=λ_ _ _ _ t #[a,d,f,e,h,b,c]=>#[a,d,f,e,t _ _ h,eF.mon _ _ _ _ t b,eF.mon _ _ _ _ t c]
abbrev JS(K:Frag)(H:Hp)(v:V)(a:List (Pt×Pt)):Prop:=IsL K (eK K) H v a
structure Pc where
 net:Int
 first:Int
 last:Int
 d9:Int
 pts:List Pt
structure Placed(K:Frag)(H:Hp)(fs:List (Str×V))(ps:List Pt):Prop where
 pts:∃v,fs.lookup ("points":Str)=some v/\Hr K H v ps
 box:∃v,fs.lookup ("box":Str)=some v/\jd K H v (bM ps)
 oW:∃v,fs.lookup ("sides":Str)=some v/\JS K H v (edges ps)
 ne:ps≠[]
 n9:ps.length<=32
 rg:∀p,p∈ps->Rg p
def Placed.same(h:Placed K H d e)(s:am H c):Placed K c d e:=
 #[let #[v,a,b]:=h.pts;#[v,a,b.same eF.mon s],let #[v,a,b]:=h.box;#[v,a,jd.mon _ _ _ _ (am.ts s) b],let #[v,a,b]:=h.oW;#[v,a,b.same eK.mon s],h.ne,h.n9,h.rg]
structure Mb(K:Frag)(H:Hp)(fs:List (Str×V))(p:Pc):Prop where
 net:fs.lookup ("net":Str)=some (.int p.net)
 first:fs.lookup ("first":Str)=some (.int p.first)
 last:fs.lookup ("last":Str)=some (.int p.last)
 d9:fs.lookup ("radius":Str)=some (.int p.d9)
 placed:Placed K H fs p.pts
 r0:0<=p.d9
 r1:p.d9<=1000000000
def oO(K:Frag)(b:Addr)(H:Hp)(v:V)(p:Pc):Prop:=∃a,iU K b H v a/\Mb K H a p
def iU.same(h:iU K C H v f)(s:am H b):iU K C b v f:=let #[a,d,e,q,c,n]:=h;#[a,d,e,s _ _ q,c,n]
def oO.same(h:oO K a H v p)(s:am H b):oO K a b v p:=
 let #[c,o,f]:=h;#[c,iU.same o s,f.net,f.first,f.last,f.d9,f.placed.same s,f.r0,f.r1]
section
variable{P:Program}{w:World}{K:Frag}{mg:Str->Option Value}{base:Heap}{CP CB:Addr}
def lJ(K:Frag)(CP:Addr):Sp:=λc H Q _=>∃(a b:V) (p q:Pc),c=[a,b]/\oO K CP H a p/\oO K CP H b q/\Q (.bl<|decide (p.first<=q.last)&&decide (q.first<=p.last)) H
def z7(T:Facts K mg CP CB):Df P w K mg base 1 "share_layer" ["piece","other"] (lJ K CP):=by
 show T.Am.dx ["piece","other"] λf i A b s H u Q E m o n h=>?_;let[r,t,p,q,0,[j,e,c],[l,g,d],k]:=h;show#[_,(ao<|aM<|mJ (cv fE (fv K 0)<|fv K 1)<|mI<|cv fE (fv K 1)<|fv K 0),?_];show#[1,_,_,_,e,c.first,1,_,_,_,g,d.last,_,1,0,1,cg (λa=>#[1,_,_,_,g,d.first,1,_,_,_,e,c.last,_,1,0,kt a k]) λa=>kf a k]
def mQ(K:Frag)(CP:Addr):Sp:=λd H Q _=>∃(b c:V) (p q:Pc) (D:Int),d=[b,c,.int D]/\oO K CP H b p/\oO K CP H c q/\∀a,am H a->Q (.bl<|cC (bO (bM p.pts) D)<|bM q.pts) a
def B3(T:Facts K mg CP CB):Df P w K mg base 2 "boxes_near" ["piece","other","distance"] (mQ K CP):=by
 show T.CD.dx ["piece","other","distance"] λf d A a s H I Q E c B z h=>?_;let[F,G,p,q,D,0,[x,l,e],[y,m,g],k]:=h;let[u,i,n]:=e.placed.box;let[v,j,o]:=g.placed.box;show#[_,(ao<|aM<|du (BV T) c<|aa (du (DJ T) c<|aa (fv K 0)<|aa (pv 2) ah)<|aa (fv K 1) ah),?_];show#[1,_,_,_,l,i,1,_,_,1,n,λt C b r=>#[1,_,_,_,iU.same m b,j,_,_,_,1,r,jd.mon _ _ _ _ (am.ts b) o,k _ b]]
def vz(K:Frag)(CP:Addr):Sp:=λd H Q _=>∃(b c:V) (p:Pc) (x:Pt),d=[b,c]/\oO K CP H b p/\eF K H c x/\∀a,am H a->Q (.bl<|encl p.pts x) a
def Fi(T:Facts K mg CP CB):Df P w K mg base 2 "encloses" ["piece","point"] (vz K CP):=by
 show T.FN.dx ["piece","point","inside","a","b","upwards"] λf cdv A F s H vs Q E O l hu h=>?_;let[va,vb,p,x,0,[fs,U,t],R,k]:=h;let[vp,S,Y]:=t.placed.pts;let[a,us,0,hS,hP]:=id Y;let hl:=hP.length;let[[xa,0,D],gx]:=id R;show#[_,(af (cF (ct xQ (bC (mL K) SY T.Bt.len boot_len<|aa (fv K 0) ah) aI) (ao<|aM iN) bA)
  (af (aS 2 l iN)
  (af (dZ cm rfl (oE K<|du (Fq T) O<|aa (fv K 0) ah) (Le K 2<|dC (bF 3 l)<|dC (bF 4 l) jZ)
  (af (aS 5 l<|cv oB (ti K 4)<|ti K 1)
  (ao<|cF (o6 (ct oA (cv oB (ti K 3)<|ti K 1)<|pv 5)<|p9<|ct oz (cv oB (du (Oo T) O<|aa (pv 3)<|aa (pv 4)<|aa (pv 1) ah) aI)<|pv 5).pt (ao<|aS 2 l<|BA<|pv 2) bA)))
  (ao<|aM<|pv 2)))),?_]
 show#[1,_,_,_,U,S,a,1,.inl hS,_,1,0,1,cg (λu=>?_) λu=>?_]
 .let e:p.pts.length<3:=by let:=aF u;lk
  let:=k _<|am.refl H;unfold encl at this;rw[aH e]at this;show this
 let n3:¬p.pts.length<3:=by let:=cb u;lk
 show#[1,_,_,_,U,S,_,1,Y,t.placed.ne,aL t.placed.n9 de,λH1 v1 Z r1=>?_];let[b,ws,0,N,hE]:=r1;show#[b,0,#[_,N],?_];show dh (src_list (K:=K) (R:=ye K) (a:=b) (vs:=ws) (xs:=edges p.pts)) (λi o M=>am H1 M/\∃I J L,o=[some va,some<|.ref xa,some<|.bl<|((edges p.pts).take i).foldl (λins e=>if gu x e then !ins else ins) false,I,J,L])
  #[am.refl _,none,none,none,0] (λi o M _ z=>#[z.1.seq N,cO ye.mon (am.ts z.1) hE]) ?_ ?_
 .ext i e v o H2 H3 he ⟨j,I,J,L,rfl⟩ n ⟨c,u1,u2,rfl,hc,W,X⟩;let m:=Z.trans<|j.trans n;let C:=R.same m;let d:gT K H3 xa [.int x.x,.int x.y]:=am.ts m _ _ D;let[[q,0,q1],g1]:=id W;let[[r,0,q2],g2]:=id X;let tk:(edges p.pts).take (i+1)=(edges p.pts).take i++[e]:=by rw[cM,he];rfl
  let g:((edges p.pts).take<|i+1).foldl (λins e=>if gu x e then !ins else ins) false=if gu x e then !(((edges p.pts).take i).foldl (λins e=>if gu x e then !ins else ins) false)else((edges p.pts).take i).foldl (λins e=>if gu x e then !ins else ins) false:=by
   rw[tk,mu];rfl
  let G:gu x e=((!decide (V.bl (decide<|x.y<e.1.y)=V.bl (decide<|x.y<e.2.y)))&&decide (V.bl (decide<|0<turnOf e.1 e.2 x)=V.bl (decide<|x.y<e.2.y))):=by
   unfold gu;change(decide (x.y<e.1.y)!=decide (x.y<e.2.y)&&decide (0<turnOf e.1 e.2 x)==decide (x.y<e.2.y))=_;cases decide (x.y<e.1.y)<;>cases decide (x.y<e.2.y)<;>cases decide (0<turnOf e.1 e.2 x)<;>rfl
  show#[c,1,hc,0,_,1,_,1,0,?_];show#[_,_,1,q2,0,_,_,1,d,0,_,1,0,?_];show#[_,_,1,q1,0,_,_,1,d,0,_,1,0,1,0,1,cg (λy=>?_) λy=>?_]
  .show#[3,_,_,_,_,_,1,W,X,C,_,1,0,1,0,1,cg (λB=>?_) λB=>?_]
   .let pv:gu x e=true:=by rw[G];show oS.mpr #[y,B]
    show#[2,j.trans n,some<|.ref q,some<|.ref r,some<|.bl<|decide<|x.y<e.2.y,?_];rw[g,pv];rfl
   .let pv:gu x e=false:=by rw[G];show nP.mpr<|.inr B
    show#[j.trans n,some<|.ref q,some<|.ref r,some<|.bl<|decide<|x.y<e.2.y,?_];rw[g,pv];rfl
  .let pv:gu x e=false:=by rw[G];show nP.mpr<|.inl y
   show vL #[j.trans n,some<|.ref q,some<|.ref r,some<|.bl<|decide<|x.y<e.2.y,?_];rw[g,pv];rfl
 .ext o H2 ⟨j,I,J,L,rfl⟩;rw[bK];show#[1,?_];let:=k _<|Z.trans j;unfold encl at this;rw[az n3]at this;show this
def jy(K:Frag):Sp:=λe H Q _=>∃(c d:V) (a:List (Pt×Pt)) (b:oT) (D:Int),e=[c,d,.int D]/\JS K H c a/\jd K H d b/\a.length<=100/\L9 (IsL K<|eK K) H Q (b_ a b D)
def uo(T:Facts K mg CP CB):Df P w K mg base 1 "sides_near_box" ["sides","box","distance"] (jy K):=by
 show T.uR.dx ["sides","box","distance","left","low","right","high","side"] λf C A t s H vs Q E Z i hu h=>?_;let[_,_,F,b,D,0,[a,R,0,x,G],[c,0,o],Y,k]:=h;show#[_,(af (aS 3 i<|sb (ti K 1)<|pv 2)
  (af (aS 4 i<|sb (ti K 1)<|pv 2)
  (af (aS 5 i<|ad (ti K 1)<|pv 2)
  (af (aS 6 i<|ad (ti K 1)<|pv 2)
  (ao<|aM<|ke rfl i (oE K<|pv 0) (cZ (own:=[("side",7)])<|by kernel_rfl) (λ_ _ _ _ _=>(bF 7 i)) (λ_ _ _ _ _=>(jv (o6 (ct fE (ti K 7)<|pv 5)<|o6 (ct fE (pv 3)<|ti K 7)<|o6 (ct fE (ti K 7)<|pv 6)<|p9<|ct fE (pv 4)<|ti K 7).pt)) λ_ _ _ _ _=>(pv 7)))))),?_]
 show#[_,_,1,o,0,1,_,1,0,_,_,1,o,0,1,_,1,0,_,_,1,o,0,1,_,1,0,_,_,1,o,0,1,_,1,0,?_];dsimp only[dQ];show rA<|vM ?_;show#[1,a,0,#[_,x],?_];show kG (K:=K) (src_list (R:=eK K) (vs:=R) (xs:=F)) eK.mon (λe=>gq D b<|bU e) id om (λS s=>#[s.seq x,cO eK.mon (am.ts s) G]) ?_ ?_
 .ext e v u W U X z ⟨d,N,O,rfl,l,J,L⟩ I p;let M:eK K u (.ref d) e:=#[d,N,O,0,l,J,L];let m:gq D b (bU e)=(decide ((bU e).l<=b.r+D)&&(decide (b.l -D<=(bU e).r)&&(decide ((bU e).b<=b.t+D)&&decide (b.b -D<=(bU e).t)))):=rfl;show#[0,?_];show#[_,_,1,l,0,1,_,1,0,1,cg (λg=>?_) λg=>vL<|p _ (am.refl _)<|by rw[m,g];rfl]
  show#[1,_,_,1,l,0,_,1,0,1,cg (λj=>?_) λj=>vL<|p _ (am.refl _)<|by rw[m,g,j];rfl]
  show#[_,_,1,l,0,1,_,1,0,1,cg (λn=>?_) λn=>vL<|p _ (am.refl _)<|by rw[m,g,j,n];rfl]
  show#[1,_,_,1,l,0,_,1,0,1,cg (λr=>?_) λr=>p _ (am.refl _)<|by rw[m,g,j,n,r];rfl]
  show#[1,I _ _ (am.refl _) (by rw[m,g,j,n,r];rfl) M]
 .intro u B q z _ e y;rw[f9]at y;show k _ _ z #[B,q,0,cc.of e,y]
def uq(k l:List Pt)(D:Int):Bool:=
 (b_ (edges k) (bM l) D).any λe=>(b_ (b_ (edges l) (bM k) D) (bU e) D).any λf=>sJ e.1 e.2 f.1 f.2 (D*D,1)
def lK(K:Frag)(CP:Addr):Sp:=λd H Q _=>∃(b c:V) (p q:Pc) (D:Int),d=[b,c,.int D]/\oO K CP H b p/\oO K CP H c q/\0<=D/\D<2^40/\∀a,am H a->Q (.bl<|uq p.pts q.pts D) a
def DL{b:Type}{l:List b}{f:b->Bool}(h:∀i x,i<l.length->l[i]?=some x->f x=false):l.any f=false:=by
 show kD.mpr λx c=>?_;let[i,a,e]:=qE c;rw[h i x a<|by rw[ak a,e]]
 show aR
def sM(T:Facts K mg CP CB):Df P w K mg base 5 "some_sides_near" ["piece","other","distance"] (lK K CP):=by
 show T.tI.dx ["piece","other","distance","limit","others","side","opposite"] λf cdv A outer s H vs Q E N O hu h=>?_;let[va,vb,p,q,D,0,[fs,o1,Y],[gs,o2,Z],d0,d1,k]:=h;let[x1,y1,z1]:=Y.placed.box;let[x2,y2,z2]:=Z.placed.box;let[m1,n1,g1]:=Y.placed.oW;let[m2,n2,g2]:=Z.placed.oW;let el1:=aL (jR (ps:=p.pts)) Y.placed.n9;let el2:=aL (jR (ps:=q.pts)) Z.placed.n9;let sf:∀(X:List (Pt×Pt)) (b:oT),(b_ X b D).length<=X.length:=λX b=>bu _ _;show#[_,(af (aS 3 O<|eI<|aa (ml (pv 2)<|pv 2)<|aa aI ah)
  (af (aS 4 O<|du (uo T) N<|aa (fv K 1)<|aa (fv K 0)<|aa (pv 2) ah)
  (af (dZ cm rfl (oE K<|du (uo T) N<|aa (fv K 0)<|aa (fv K 1)<|aa (pv 2) ah) (bF 5 O)
  (ao (dZ cm rfl (oE K<|du (uo T) N<|aa (pv 4)<|aa (Qj K (pv 5) (fT aI) iC)<|aa (pv 2) ah) (bF 6 O)
  (ao<|cF (cV<|du (vQ T) N<|aa (ti K 5)<|aa (ti K 5)<|aa (ti K 6)<|aa (ti K 6)<|aa (pv 3) ah) (ao<|aM iN) bA))))
  (ao<|aM iN)))),?_]
 show#[2,_,1,0,.inl #[om,om],da,λu hlm=>?_];let I:am H (upd H u<|.tup [.int (D*D),.int 1]):=am.new hlm;let rq0:ki K (upd H u<|.tup [.int (D*D),.int 1]) (.ref u) (D*D,1):=#[u,0,gT.of ag];let hsq:Sq (D*D,1):=#[sq_nonneg D,(by change(0:Int)<1;decide),(by change(1:Int)<2^64;decide)]
 show#[1,_,_,_,iU.same o2 I,n2,1,_,_,_,iU.same o1 I,y1,1,_,_,_,_,1,g2.same eK.mon I,jd.mon _ _ _ _ (am.ts I) z1,om,λH1 v1 s1 r1=>?_];let t1:=I.trans s1;show#[1,_,_,_,iU.same o1 t1,n1,1,_,_,_,iU.same o2 t1,y2,1,_,_,_,_,1,g1.same eK.mon t1,jd.mon _ _ _ _ (am.ts t1) z2,om,λH2 v2 s2 r2=>?_];let t2:=t1.trans s2;let rq2:=ki.mon _ _ _ _ (am.ts<|s1.trans s2) rq0;let r1':=r1.same eK.mon s2;let[a,us,0,hS,hP]:=r2;show#[a,0,#[_,hS],?_];show dh (src_list (K:=K) (R:=eK K) (a:=a) (vs:=us)) (λi m x=>am H2 x/\(∃v5 J,m=[some va,some vb,some<|.int D,some<|.ref u,some v1,v5,J])/\∀r e,r<i->(b_ (edges p.pts) (bM q.pts) D)[r]?=some e->((b_ (b_ (edges q.pts) (bM p.pts) D) (bU e) D).any λf=>sJ e.1 e.2 f.1 f.2 (D*D,1))=false)
  #[am.refl _,#[none,none,0],λr e hk=>absurd hk (jp _)] (λi m x _ z=>#[z.1.seq hS,cO eK.mon (am.ts z.1) hP]) ?_ ?_
 .ext i e v m H3 U L ⟨s3,⟨v5,J,rfl⟩,l⟩ s4 ⟨d,u1,u2,rfl,hd,p1,p2⟩;let s34:=s3.trans s4;show#[3,d,1,hd,(by intro z;show absurd z.1 (show¬jJ 6 0 (some 2)=0 by decide)),λc hc=>?_]
  let R:am U (upd U c<|.tup<|jb [u1,u2,.int (bU e).l,.int (bU e).b,.int (bU e).r,.int (bU e).t] (some 2) none):=am.new hc;let G:=s34.trans R;let rb:jd K (upd U c<|.tup<|jb [u1,u2,.int (bU e).l,.int (bU e).b,.int (bU e).r,.int (bU e).t] (some 2) none) (.ref c) (bU e):=#[c,0,gT.of ag];show#[1,_,_,_,_,1,r1'.same eK.mon G,rb,aL (sf _ _) om,λH6 v7 S r6=>?_];let t:=G.trans S;let hd6:=am.ts (K:=K) (R.trans S) _ _ hd;let p16:=p1.same<|R.trans S;let p26:=p2.same<|R.trans S;let[a2,us2,0,y,hP2]:=r6;show#[a2,0,#[_,y],?_];show dh (src_list (K:=K) (R:=eK K) (a:=a2) (vs:=us2)) (λj m x=>am H6 x/\(∃J,m=[some va,some vb,some<|.int D,some<|.ref u,some v1,some<|.ref d,J])/\∀F f,F<j->(b_ (b_ (edges q.pts) (bM p.pts) D) (bU e) D)[F]?=some f->sJ e.1 e.2 f.1 f.2 (D*D,1)=false)
   #[am.refl _,#[1],λr e hk=>absurd hk (jp _)] (λi m x _ z=>#[z.1.seq y,cO eK.mon (am.ts z.1) hP2]) ?_ ?_
  .ext j f v m H7 H8 M ⟨s7,⟨v8,rfl⟩,o⟩ s8 ⟨d2,w1,w2,rfl,B,q1,q2⟩;let g:=s7.trans s8;let C:=am.ts (K:=K) g _ _ hd6;show#[_,_,1,C,0,_,_,1,C,0,_,_,1,B,0,_,_,1,B,0,1,_,_,_,_,_,_,_,_,_,1,p16.same g,p26.same g,q1,q2,ki.mon _ _ _ _ (am.ts<|t.trans g) rq2,hsq,λH9 s9=>#[1,cg (λh1=>?_) λh1=>?_]]
   .let W:uq p.pts q.pts D=true:=by
     unfold uq;show ci.mpr #[e,aX L,ci.mpr #[f,aX M,h1]]
    rw[W]at k;show k _<|(t2.trans t).trans<|g.trans s9
   .show#[g.trans s9,#[1],λF f' b1 n=>?_];by_cases ej:F=j
    .subst ej;rw[M]at n;cases n;show h1
    .show o F f' om n
  .ext m H7 ⟨s7,⟨v8,rfl⟩,o⟩;show#[t.trans s7,#[_,1],λr e' b1 n=>?_];by_cases ei:r=i
   .subst ei;rw[L]at n;cases n
    show DL λj f hj M=>o j f hj M
   .show l r e' om n
 .ext m H3 ⟨s3,⟨v5,J,rfl⟩,l⟩;let W:uq p.pts q.pts D=false:=DL λi e hi L=>l i e hi L;rw[W]at k;show k _<|t2.trans s3
def pG(k l:List Pt)(D:Int):Bool:=
 if cC (bO (bM k) D) (bM l)=false then false else
 if encl k (l.headD o0)||encl l (k.headD o0)then true else uq k l D
def mi(K:Frag)(CP:Addr):Sp:=λd H Q _=>∃(b c:V) (p q:Pc) (D:Int),d=[b,c,.int D]/\oO K CP H b p/\oO K CP H c q/\0<=D/\D<2^40/\∀a,am H a->Q (.bl<|pG p.pts q.pts D) a
def DM(h:Hr K H v b)(f:b≠[]):∃a c u,v=.ref a/\cc K H a c/\AW c 0=some u/\eF K H u (b.headD o0):=by
 let[a,c,0,e,d]:=h;cases b with
 |nil=>show absurd rfl f
 |cons p r=>
  cases d with
  |cons g i=>show#[a,_,1,e,bH (j:=0) rfl,g]
def ur(T:Facts K mg CP CB):Df P w K mg base 6 "skeletons_near" ["piece","other","distance"] (mi K CP):=by
 show T.uS.dx ["piece","other","distance"] λf C A n s H vs Q E i nd hu h=>?_;let[va,vb,p,q,D,0,d,g,F,G,k]:=h;let[fs,U,u]:=id d;let[gs,W,v]:=id g;let[m1,R,L]:=u.placed.pts;let[m2,S,M]:=v.placed.pts;let[x,r,u1,0,z,I,N]:=DM L u.placed.ne;let[y,t,u2,0,B,J,O]:=DM M v.placed.ne;show#[_,(af (cF (dG<|cV<|du (B3 T) i<|aa (pv 0)<|aa (pv 1)<|aa (pv 2) ah) (ao<|aM iN) bA)
  (af (cF (AM (cV<|du (Fi T) i<|aa (pv 0)<|aa (iR K (fv K 1) aI) ah)<|t9<|cV<|du (Fi T) i<|aa (pv 1)<|aa (iR K (fv K 0) aI) ah).pt (ao<|aM iN) bA)
  (ao<|aM<|du (sM T) i<|aa (pv 0)<|aa (pv 1)<|aa (pv 2) ah))),?_]
 show#[3,_,_,_,_,1,d,g,λY a=>#[1,cg (λj=>?_) λj=>?_]]
 .let e:cC (bO (bM p.pts) D) (bM q.pts)=false:=by simpa using j
  let:=k _ a;unfold pG at this;rw[aH e]at this;show this
 let m:¬cC (bO (bM p.pts) D) (bM q.pts)=false:=by simpa using j
 show#[2,_,_,_,iU.same W a,S,y,t,_,1,0,a.seq B,J,_,_,_,1,d.same a,O.same a,λZ t2=>#[1,cg (λc=>?_) λc=>?_]]
 .show Fd ?_;let:=k _<|a.trans t2;unfold pG at this;rw[az m,c]at this;show this
 let b:=a.trans t2;show#[2,_,_,_,iU.same U b,R,x,r,_,1,0,b.seq z,I,_,_,_,1,g.same b,N.same b,λH3 t3=>#[1,cg (λl=>?_) λl=>?_]]
 .let:=k _<|b.trans t3;unfold pG at this;rw[az m,c,l]at this;show this
 let o:=b.trans t3;show#[3,_,_,_,_,1,d.same o,g.same o,F,G,λH4 X=>?_];let:=k _<|o.trans X;unfold pG at this;rw[az m,c,l]at this;show this
def pH(p q:Pc):Bool:=(decide (p.first<=q.last)&&decide (q.first<=p.last))&&pG p.pts q.pts (p.d9+q.d9)
def kK(K:Frag)(CP:Addr):Sp:=λd H Q _=>∃(b c:V) (p q:Pc),d=[b,c]/\oO K CP H b p/\oO K CP H c q/\∀a,am H a->Q (.bl<|pH p q) a
def yf(T:Facts K mg CP CB):Df P w K mg base 7 "pieces_touch" ["piece","other"] (kK K CP):=by
 show T.za.dx ["piece","other"] λf j A g s H z Q E i v u h=>?_;let[x,y,p,q,0,d,e,k]:=h;let[r,l,a]:=id d;let[t,m,b]:=id e;let:=a.r0;let:=a.r1;let:=b.r0;let:=b.r1;show#[_,(ao<|aM<|mJ (du (z7 T) i<|aa (pv 0)<|aa (pv 1) ah)<|mI<|du (ur T) i<|aa (pv 0)<|aa (pv 1)<|aa (ad (fv K 0)<|fv K 1) ah),?_];show#[2,_,_,_,1,d,e,1,cg (λc=>?_) λc=>kf c<|k _<|am.refl _];show#[3,_,_,_,l,a.d9,1,_,_,_,m,b.d9,_,1,0,_,_,_,_,1,d,e,om,om,λo n=>kt c<|k _ n]
end
def RV(h:j c H λy g=>i c g λx d=>∃a C e b,x=.ref a/\d a=some (.ins C e b)/\F4 K C/\n8 K C f/\b.length<1000/\D.nx c (upd d a<|.ins C e<|dM f y b)):PM K i j f D c H:=h
def gn(a:Addr)(H c:Hp):Prop:=∀b o,b≠a->H b=some o->c b=some o
def gn.refl(a:Addr)(H:Hp):gn a H H:=λ_ _ _ h=>h
def gn.trans(x:gn a H c)(y:gn a c d):gn a H d:=λb o n h=>y b o n<|x b o n h
def gn.of(s:am H c):gn a H c:=λb o _ h=>s b o h
def gn.upd(a:Addr)(H:Hp)(o:HO):gn a H (upd H a o):=λb u n h=>by rw[aA n];show h
section
variable{K:Frag}{CP:Addr}
def rB(K:Frag)(CP:Addr):Sp:=λi H Q _=>∃(a g:Addr) (c:List (Str×V)) (h:V) (e:List Pt),i=[.ref a,h]/\H a=some (.ins CP g c)/\c.length<=100/\Hr K H h e/\e≠[]/\e.length<=32/\
 ∀d b,d a=some (.ins CP g b)->Placed K d b e->(∀f:Str,f≠"points"->f≠"box"->f≠"sides"->b.lookup f=c.lookup f)->b.length<=c.length+3/\((∃u,c.lookup ("points":Str)=some u)->(∃u,c.lookup ("box":Str)=some u)->(∃u,c.lookup ("sides":Str)=some u)->b.length=c.length)->gn a H d->Q .ic d
def Oq(h:Hr K H v b):∀p,p∈b->Rg p:=by
 let[a,g,_,_,c]:=h;intro p f;let[i,d,e]:=qE f;let[v,_,q]:=im c (show b[i]?=some p by rw[ak d,e])
 show q.2
def fW(f:Str)(v:V):∀(a:List (Str×V)),(∃u,a.lookup f=some u)->(dM f v a).length=a.length
 |[],#[u,h]=>by cases h
 |(g,x)::r,h=>by
  unfold dM;split
  .rfl
  .rename_i c;rw[aY,aY,fW f v r ?_];let[u,b]:=h;rw[lR]at b;show#[u,?_];let e:(f==g)=false:=by grind
   rw[e]at b;show b
def iW(f:Str)(v:V)(a:List (Str×V)):(dM f v a).length<=a.length+1:=o_ f v a
def Ht(T:Facts K mg CP CB):Md P w K mg base 2 CP "place" ["self","points"] (rB K CP):=by
 show T.Ik.dx ["self","points","a","b"] λf cdv A outer s H vs Q E X nd hu h=>?_;let[a,l,g,vp,ps,0,R,hfl,C,o,hn,k]:=h;let Y:=Oq C;let[b,G,0,hS,hP]:=id C;show#[_,(af (kF (pv 0) (pv 1) rfl)
  (af (kF (pv 0) (du (BW T) X<|aa (pv 1) ah) rfl)
  (ao<|kF (pv 0) (ke rfl nd (oE K<|du (Fq T) X<|aa (pv 1) ah) (cZ (own:=[("a",2),("b",3)])<|by kernel_rfl) (λ_ _ _ _ _=>(Le K 2<|dC (bF 2 nd)<|dC (bF 3 nd) jZ)) (λ_ _ _ _ _=>g_) λ_ _ _ _ _=>(RO K (eI<|aa (pv 2)<|aa (pv 3) ah)<|du (BW T) X<|aa (eI<|aa (pv 2)<|aa (pv 3) ah) ah)) rfl))),?_]
 show#[2,a,CP,l,g,0,R,T.TP.cls,T.TP.no _ dk,om,?_];let l1:=iW "points" (.ref b) g;let t1:Tu K H (upd H a<|.ins CP l<|dM "points" (.ref b) g):=Tu.ins R;let y:cc K (upd H a<|.ins CP l<|dM "points" (.ref b) g) b G:=Lw.ins R hS;let u:=cO eF.mon t1 hP;show#[1,_,ps,0,#[b,G,0,.inl y,u],o,om,λI r L r2=>?_];let N:=L _ _ ag;let l2:=iW "box" r<|dM "points" (.ref b) g;show#[1,a,CP,l,1,N,T.TP.cls,T.TP.no _ dk,om,?_];let t3:Tu K I (upd I a<|.ins CP l<|dM "box" r<|dM "points" (.ref b) g):=Tu.ins N;let B:cc K (upd I a<|.ins CP l<|dM "box" r<|dM "points" (.ref b) g) b G:=Lw.ins N<|L.seq y;let x:=cO eF.mon t3<|cO eF.mon (am.ts L) u;let r3:=jd.mon _ _ _ _ t3 r2;dsimp only;show RV<|vM ?_;show#[1,_,1,#[b,G,0,B,x],o,om,λH4 v4 s4 r4=>?_];let[lb,ws,0,hB,hE]:=r4;show#[lb,0,#[_,hB],?_];show lG (K:=K) (src_list (R:=ye K) (vs:=ws)) eK.mon (λe=>e) (bi jR om) (λH' s=>#[s.seq hB,cO ye.mon (am.ts s) hE]) ?_ ?_
 .ext e v j Q1 he s5 ⟨c,m,n,rfl,hc,p1,p2⟩ k1;show#[c,1,hc,0,_,1,_,1,0,0,?_];show#[2,da,λq hq=>#[2,da,λq2 U=>?_]];let F:am j (upd j q<|.tup [m,n]):=am.new hq;let p:am (upd j q<|.tup [m,n]) (upd (upd j q<|.tup [m,n]) q2<|.tup [m,n]):=am.new U;show#[_,[e.1,e.2],0,#[q2,1,.inr<|gT.of ag,.cons (p1.same<|F.trans p)<|.cons (p2.same<|F.trans p) .nil],by simp,by simp,λM v6 s6 r6=>?_]
  let[b6,0,S]:=r6;let W:gT K M q [m,n]:=gT.of<|s6 _ _<|p _ _ ag;show#[q,b6,[m,n],1,0,W,S,by simp,dm,λz=>absurd z SX,λ_ t ht=>?_]
  let Z:am M (upd M t<|.tup<|[m,n]++[(bM [e.1,e.2]).l,(bM [e.1,e.2]).b,(bM [e.1,e.2]).r,(bM [e.1,e.2]).t].map V.int):=am.new ht;let d:=((F.trans p).trans s6).trans Z;show k1 _ _ d #[t,m,n,0,gT.of ag,p1.same d,p2.same d]
 .intro j D O s5 _ e pr;rw[List.map_id']at pr;let J:=s5 _ _<|s4 _ _ ag;let l3:=iW "sides" (.ref D)<|dM "box" r<|dM "points" (.ref b) g;show#[1,a,CP,l,1,J,T.TP.cls,T.TP.no _ dk,om,?_];let t6:Tu K j (upd j a<|.ins CP l<|dM "sides" (.ref D)<|dM "box" r<|dM "points" (.ref b) g):=Tu.ins J;let i:=s4.trans s5;show k _ _ ag #[#[.ref b,?_,b,G,0,Lw.ins J<|i.seq B,cO eF.mon t6<|cO eF.mon (am.ts i) x],#[r,?_,jd.mon _ _ _ _ t6<|jd.mon _ _ _ _ (am.ts i) r3],#[.ref D,?_,D,O,0,Lw.ins J<|cc.of e,cO eK.mon t6 pr],o,hn,Y] (λf F p Z=>?_) #[om,λg1 g2 g3=>?_] ?_
  .rw[bP,az dk,bP,az dk,bP,aH rfl]
  .rw[bP,az dk,bP,aH rfl]
  .rw[bP,aH rfl]
  .rw[bP,az Z,bP,az p,bP,az F]
  .rw[fW _ _ _ ?_,fW _ _ _ ?_,fW _ _ _ g1]
   .rw[bP,az dk];show g2
   .rw[bP,az dk,bP,az dk];show g3
  .show(gn.upd a H _).trans<|(gn.of L).trans<|(gn.upd a I _).trans<|(gn.of i).trans<|gn.upd a j _
def mS(K:Frag)(CP:Addr):Sp:=λk H Q _=>∃(a i:Addr) (c first b e:Int) (j:V) (h:List Pt),k=[.ref a,.int c,.int first,.int b,.int e,j]/\H a=some (.ins CP i [])/\Hr K H j h/\h≠[]/\h.length<=32/\0<=e/\e<=1000000000/\
 ∀d,(∃i g,d a=some (.ins CP i g)/\Mb K d g #[c,first,b,e,h]/\(∀f u,g.lookup f=some u->f∈pNames)/\g.length<=50)->gn a H d->Q .ic d
def B4(T:Facts K W CP CB):Md P w K W r 3 CP "__init__" ["self","net","first","last","radius","points"] (mS K CP):=by
 show T.CG.dx ["self","net","first","last","radius","points"] λf G A q s H vs Q E S nd hu h=>?_
 let[a,d,i,first,c,t,vp,X,0,m,p,o,R,Y,Z,k]:=h
 let[U,us,0,O,N]:=id p;show#[_,(af (kF (pv 0) (pv 1) rfl)
  (af (kF (pv 0) (pv 2) rfl)
  (af (kF (pv 0) (pv 3) rfl)
  (af (kF (pv 0) (pv 4) rfl)
  (ao<|dL<|met (Ht T) T.TP.cls S (pv 0)<|aa (pv 5) ah))))),?_]
 show#[2,a,CP,d,[],0,m,T.TP.cls,T.TP.no _ dk,de,?_];show#[2,a,CP,d,1,ag,T.TP.cls,T.TP.no _ dk,by change 1<1000;decide,?_]
 show#[2,a,CP,d,1,ag,T.TP.cls,T.TP.no _ dk,by change 2<1000;decide,?_]
 show#[2,a,CP,d,1,ag,T.TP.cls,T.TP.no _ dk,by change 3<1000;decide,?_]
 rw[p8,p8,p8];generalize g:dM "radius" (V.int t) (dM "last" (V.int c)<|dM "first" (V.int first)<|dM "net" (V.int i) [])=j
 let b:∀f:Str,j.lookup f=if f="radius" then some (.int t)else if f="last" then some (.int c)else if f="first" then some (.int first)else if f="net" then some (.int i)else none:=λf=>by
  rw[<-g,bP,bP,bP,bP];rfl
 let fl:j.length<=4:=by rw[<-g];change 4<=4;decide
 show#[1,a,d,j,0,ag,?_,1,a,d,j,_,X,0,ag,om,#[U,us,0,Lw.ins m O,cO eF.mon (Tu.ins m) N],o,R,λF l I J e L M=>?_]
 .rw[b,az dk,az dk,az dk,az dk]
 show k F #[d,l,I,#[?_,?_,?_,?_,J,Y,Z],λf u n=>?_,by let:=L.1;lk] ((gn.upd a H _).trans M)
 .rw[e _ dk dk dk,b,az dk,az dk,az dk,aH rfl]
 .rw[e _ dk dk dk,b,az dk,az dk,aH rfl]
 .rw[e _ dk dk dk,b,az dk,aH rfl]
 .rw[e _ dk dk dk,b,aH rfl]
 .unfold pNames;by_cases v:f="points"
  .rw[v];simp
  by_cases x:f="box"
  .rw[x];simp
  by_cases y:f="sides"
  .rw[y];simp
  rw[e f v x y,b]at n;by_cases z:f="radius"
  .rw[z];simp
  by_cases B:f="last"
  .rw[B];simp
  by_cases C:f="first"
  .rw[C];simp
  by_cases D:f="net"
  .rw[D];simp
  rw[az z,az B,az C,az D]at n;cases n
end
def gG(a:Piece):Pc:=#[(a.net:Int),(a.lo:Int),(a.hi:Int),(a.shape.r:Int),a.shape.pts]
def h_(q r:Int×Int):Prop:=q.1*r.2<=r.1*q.2
structure sN(k l:List Pt)(q:Int×Int):Prop where
 sq:Sq q
 least:∀e∈edges k,∀f∈edges l,∀x∈fu e.1 e.2 f.1 f.2,h_ q x
 some:∃e∈edges k,∃f∈edges l,∃x∈fu e.1 e.2 f.1 f.2,h_ x q
abbrev ik(n:Nat):Key:=Sum.inl (n:Int)
def lU(K:Frag)(c:Addr)(H:Hp)(e:Addr)(a:Piece):Prop:=∃d b,H e=some (.ins c d b)/\Mb K H b (gG a)/\(∀f u,b.lookup f=some u->f∈pNames)/\b.length<=50
def JT(H:Hp)(s:Board)(n:Nat)(b:Addr):Prop:=∃a:List (Key×V),H b=some (.dK a)/\(a.map (·.1)).Nodup/\∀k,k∈a.map (·.1)↔∃m,k=ik m/\m∈neighbours ↥s n
structure Qp(s:Board)(a:Piece):Prop where
 lo:1<=a.lo
 hi:a.lo<=a.hi
 top:a.hi<=s.layers
 net:a.net<=1000000000
structure jM(K:Frag)(CP:Addr)(H:Hp)(s:Board)(pd:Addr)(kvs:List (Key×V)):Prop where
 at_:H pd=some (.dK kvs)
 nd:(kvs.map (·.1)).Nodup
 isin:∀k v,(k,v)∈kvs->∃n a pa,k=ik n/\s.get n=some a/\v=.ref pa/\lU K CP H pa a
 all:∀n a,s.get n=some a->∃v,(ik n,v)∈kvs
 inj:∀k k' v,(k,v)∈kvs->(k',v)∈kvs->k=k'
structure fJ(H:Hp)(s:Board)(ld pd:Addr)(bL:List (Key×V)):Prop where
 at_:H ld=some (.dK bL)
 nd:(bL.map (·.1)).Nodup
 isin:∀k v,(k,v)∈bL->∃n ia,k=ik n/\(∃a,s.get n=some a)/\v=.ref ia/\JT H s n ia/\ia≠pd/\ia≠ld
 all:∀n a,s.get n=some a->∃v,(ik n,v)∈bL
 inj:∀k k' v,(k,v)∈bL->(k',v)∈bL->k=k'
structure nq(K:Frag)(H:Hp)(s:Board)(gd:Addr)(cW:List (List Key×V)):Prop where
 at_:H gd=some (.dT cW)
 nd:(cW.map (·.1)).Nodup
 isin:∀k v,(k,v)∈cW->∃i j a b q,k=[ik i,ik j]/\s.get i=some a/\s.get j=some b/\ki K H v q/\sN a.shape.pts b.shape.pts q
 n9:cW.length<=20000
structure Nc(fs:List (Str×V))(layers:Int)(pd ld gd:Addr):Prop where
 layers:fs.lookup ("layers":Str)=some (.int layers)
 pieces:fs.lookup ("pieces":Str)=some (.ref pd)
 links:fs.lookup ("links":Str)=some (.ref ld)
 vT:fs.lookup ("gaps":Str)=some (.ref gd)
 names:∀f u,fs.lookup f=some u->f∈cT
 n9:fs.length<=50
structure Lf(K:Frag)(CP:Addr)(H:Hp)(s:Board)(pd ld gd:Addr)(kvs bL:List (Key×V))(cW:List (List Key×V)):Prop where
 ok:wY s
 lay:s.layers<=16
 Fj:∀n a,s.get n=some a->Qp s a
 ie:jM K CP H s pd kvs
 vU:fJ H s ld pd bL
 sO:nq K H s gd cW
 pl:pd≠ld
def dD(K:Frag)(f e:Addr)(H:Hp)(v:V)(s:Board):Prop:=∃b d ld c a g h,iU K e H v b/\Nc b (s.layers:Int) d ld c/\Lf K f H s d ld c a g h
section
variable{P:Program}{w:World}{K:Frag}{mg:Str->Option Value}{base:Heap}{CP CB:Addr}
def Mb.same(f:Mb K H b p)(s:am H a):Mb K a b p:=#[f.net,f.first,f.last,f.d9,f.placed.same s,f.r0,f.r1]
def lU.same(h:lU K CP H g a)(s:am H b):lU K CP b g a:=let #[c,d,e,f,n,l]:=h;#[c,d,s _ _ e,f.same s,n,l]
def lU.is(h:lU K CP H c a)(TP:CF K CP pNames):oO K CP H (.ref c) (gG a):=let #[d,g,e,f,n,l]:=h;#[g,#[c,d,0,e,TP.cls,λb u i=>TP.no b<|n b u i],f]
def JT.same(h:JT H s n f)(e:am H d):JT d s n f:=let #[g,a,b,c]:=h;#[g,e _ _ a,b,c]
def Lf.same{ld:Addr}(h:Lf K CP H s z ld u m r t)(e:am H p):Lf K CP p s z ld u m r t where
 ok:=h.ok
 lay:=h.lay
 Fj:=h.Fj
 ie:=#[e _ _ h.ie.at_,h.ie.nd,λk v c=>let #[n,a,y,d,f,g,l]:=h.ie.isin k v c;#[n,a,y,d,f,g,l.same e],h.ie.all,h.ie.inj]
 vU:=#[e _ _ h.vU.at_,h.vU.nd,λk v c=>let #[n,x,d,f,g,l,o]:=h.vU.isin k v c;#[n,x,d,f,g,l.same e,o],h.vU.all,h.vU.inj]
 sO:=#[e _ _ h.sO.at_,h.sO.nd,λk v c=>let #[i,j,a,b,q,d,f,g,l,o]:=h.sO.isin k v c;#[i,j,a,b,q,d,f,g,ki.mon _ _ _ _ (am.ts e) l,o],h.sO.n9]
 pl:=h.pl
def dD.same(h:dD K CP CB H v s)(e:am H c):dD K CP CB c v s:=let #[i,k,ld,j,a,d,g,o,b,f]:=h;#[i,k,ld,j,a,d,g,iU.same o e,b,f.same e]
def eZ[DecidableEq κ]:∀{a:List (κ×V)} {k:κ} {v:V},(a.map (·.1)).Nodup->(k,v)∈a->cY a k=some v
 |[],_,_,_,h=>absurd h SX
 |p::r,k,v,b,h=>by
  rw[bm,c9]at b;let e||e:=aB.mp h
  .subst e;show gB rfl
  .let c:¬p.1=k:=λz=>b.1<|by rw[z];show ae.mpr #[(k,v),e,0]
   rw[gC c];show eZ b.2 e
def pI[DecidableEq b]:∀{a:List (b×V)} {k:b} {v:V},cY a k=some v->(k,v)∈a
 |[],_,_,h=>by cases h
 |p::r,k,v,h=>by
  by_cases e:p.1=k
  .rw[gB e]at h;cases h;subst e;show aN ..
  .rw[gC e]at h;show aC _<|pI h
def lu{κ:Type}[DecidableEq κ]{a:List (κ×V)}{k:κ}(h:∀v,(k,v)∉a):cY a k=none:=by
 cases e:cY a k with
 |none=>rfl
 |some v=>show absurd (pI e) (h v)
def hasB(s:Board)(i:Int):Bool:=decide (0<=i)&&(s.get i.toNat).isSome
def dw(h:ik n=ik m):n=m:=by let:=xq h;lk
def jM.has(h:jM K CP H s l c)(i:Int):(cY c<|Sum.inl i).isSome=hasB s i:=by
 unfold hasB;by_cases f:0<=i
 .let[n,0]:∃n:Nat,i=(n:Int):=#[i.toNat,om];rw[aU f,tM,iS];cases e:s.get n with
  |none=>
   rw[lu (κ:=Key) λv b=>?_]
   .rfl
   .let[m,a,j,d,k,_]:=h.isin _ _ b;rw[dw d,k]at e;cases e
  |some a=>
   let[v,g]:=h.all n a e;rw[eZ h.nd g];rfl
 .rw[bE f,Sl,lu λv b=>?_]
  .rfl
  .let[m,a,j,d,_]:=h.isin _ _ b;let:=xq d;lk
def jM.get(h:jM K CP H s k c)(e:s.get n=some a):∃b,cY c (ik n)=some (.ref b)/\lU K CP H b a:=by
 let[v,d]:=h.all n a e;let[m,j,b,g,f,0,i]:=h.isin _ _ d;rw[<-dw g,e]at f;cases f
 show#[b,eZ h.nd d,i]
def fJ.get{ld f:Addr}(h:fJ H s ld f c)(e:s.get n=some a):∃b,cY c (ik n)=some (.ref b)/\JT H s n b:=by
 let[v,d]:=h.all n a e;let[m,b,i,k,0,j,_]:=h.isin _ _ d;let g:=dw i;subst g;show#[b,eZ h.nd d,j]
def JU:∀{l m:List Int},l.Pairwise (·<·)->m.Pairwise (·<·)->(∀x,x∈l↔x∈m)->l=m
 |[],[],_,_,_=>rfl
 |[],b::m,_,_,h=>absurd ((h b).mpr<|aN ..) SX
 |a::l,[],_,_,h=>absurd ((h a).mp<|aN ..) SX
 |a::l,b::m,d,f,h=>by
  rw[f8]at d f;let e:a=b:=by
   let e||e:=aB.mp ((h a).mp<|aN ..)
   .show e
   .let c||c:=aB.mp ((h b).mpr<|aN ..)
    .show c.symm
    .grind
  subst e;rw[JU d.2 f.2 λx=>#[λg=>?_,λg=>?_]]
  .grind
  .grind
abbrev zs(l:List Nat):List Int:=l.map λ(n:Nat)=>(n:Int)
def Qq(h:So l):(zs l).Pairwise (·<·):=List.Pairwise.map _ (λa b h=>om) h
def B5:x∈zs l↔∃n,n∈l/\x=(n:Int):=by
 grind
def strict{l:List Int}(o:l.Pairwise (·<=·))(n:l.Nodup):l.Pairwise (·<·):=List.Pairwise.imp₂ (λa b c d=>om) o n
def jz(p:a.Perm b)(o:a.Pairwise (·<=·))(c:b.Nodup)(d:So l)(h:∀x,x∈b↔∃n,n∈l/\x=(n:Int)):a=zs l:=
 JU (strict o<|p.nodup_iff.mpr c) (Qq d) λx=>by rw[p.mem_iff,h,B5]
def kn{kvs:List (Key×V)}{l:List Nat}(g:(kvs.map (·.1)).Nodup)(h:∀k,k∈kvs.map (·.1)↔∃m,k=ik m/\m∈l):∃j:List Int,vk kvs j/\j.Nodup/\∀x,x∈j↔∃n,n∈l/\x=(n:Int):=by
 show#[kvs.map λd=>match d.1 with|.inl i=>i|.inr _=>0,?_,?_,?_]
 .unfold vk;rw[bX];show dY λd c=>?_;let[m,e,_]:=(h d.1).mp<|ae.mpr #[d,c,0];change d.1=Sum.inl (match d.1 with|.inl i=>i|.inr _=>0)
  rw[e]
 .rw[oN]at g|-;rw[wU]at g|-;show s_ (λ{a b} p q f z=>f ?_) g;let[m,e,_]:=(h a.1).mp<|ae.mpr #[a,p,0];let[t,o,_]:=(h b.1).mp<|ae.mpr #[b,q,0];rw[e,o]at z|-;show dF Sum.inl z
 .intro x;rw[ae];walk
  .ext⟨d,c,rfl⟩;let[m,e,r]:=(h d.1).mp<|ae.mpr #[d,c,0];rw[e];show#[m,r,0]
  .ext⟨n,s,rfl⟩;let[d,c,e]:=ae.mp<|(h<|ik n).mpr #[n,0,s];show#[d,c,by rw[e]]
def jM.keys(h:jM K CP H s o c)(ok:wY s):∀k,k∈c.map (·.1)↔∃m,k=ik m/\m∈nodes ↥s:=by
 intro k;rw[ae];walk
 .ext⟨⟨j,v⟩,b,rfl⟩;let[n,a,l,i,f,_]:=h.isin _ _ b;show#[n,i,eV.mpr #[gz ok f,by rw[f];rfl]]
 .ext⟨m,rfl,b⟩;let[_,e]:=eV.mp b;cases d:s.get m with
  |none=>rw[d]at e;cases e
  |some a=>
   let[v,g]:=h.all m a d;show#[_,g,0]
def nr(H:Hp)(Q:VK)(c:List Int):Prop:=∀b a,am H b->H a=none->b a=some (.lst<|c.map V.int)->Q (.ref a) b
def fO(K:Frag)(CP CB:Addr):Sp:=λb H Q _=>∃(a:V) (s:Board) (i:Int),b=[a,.int i]/\dD K CP CB H a s/\Q (.bl<|hasB s i) H
def JV(T:Facts K mg CP CB):Md P w K mg base 1 CB "has" ["self","number"] (fO K CP CB):=by
 show T.K3.dx ["self","number"] λf c A a s H u Q E q r d h=>?_;let[t,s,i,0,[n,j,ld,p,e,l,m,o,b,g],k]:=h;show#[_,(ao<|aM<|NC<|E8 d (pv 1)<|fv K 0),?_];show#[2,_,_,_,o,b.pieces,j,1,cP.k (k:=Sum.inl i) g.ie.at_,?_];rw[g.ie.has];show k
def eC(K:Frag)(CP CB:Addr):Sp:=λb H Q _=>∃(a:V) (s:Board),b=[a]/\dD K CP CB H a s/\nr H Q (zs<|nodes ↥s)
def B6(T:Facts K mg CP CB):Md P w K mg base 1 CB "numbers" ["self"] (eC K CP CB):=by
 show T.CH.dx ["self"] λf d A a s H F Q E z C B h=>?_;let[D,s,0,[x,t,ld,y,n,u,v,o,b,g],k]:=h;let[q,e,i,j]:=kn g.ie.nd<|g.ie.keys g.ok;show#[_,(ao<|aM<|bC jw SY T.Bt.sorted boot_sorted<|aa (fv K 0) ah),?_]
 show#[1,_,_,_,o,b.pieces,t,_,q,0,Rd.of g.ie.at_,e,λr p m l c=>?_];rw[jz m l i gU j];show k _ _ (am.new c) c ag
def fF(K:Frag)(CP CB:Addr):Sp:=λb H Q _=>∃(a:V) (s:Board) (n:Nat),b=[a,.int (n:Int)]/\dD K CP CB H a s/\n∈nodes ↥s/\nr H Q (zs<|neighbours ↥s n)
def jk{s:Board}{n:Nat}(h:n∈nodes ↥s):∃a,s.get n=some a:=by
 let[_,e]:=eV.mp h;cases b:s.get n with
 |none=>rw[b]at e;cases e
 |some a=>show#[a,0]
def z8(T:Facts K mg CP CB):Md P w K mg base 1 CB "touching" ["self","number"] (fF K CP CB):=by
 show T.An.dx ["self","number"] λf l A j s H U Q E N O y h=>?_;let[S,s,n,0,[L,R,ld,M,B,I,J,o,b,g],u,k]:=h;let[a,t]:=jk u;let[z,F,G,e,i,c]:=g.vU.get t;let[C,m,q,r]:=kn i c;show#[_,(ao<|aM<|bC jw SY T.Bt.sorted boot_sorted<|aa (b7 y (fv K 0) (pv 1) λ_ _=>rfl) ah),?_]
 show#[1,_,_,_,o,b.links,1,ld,1,(by rw[<-F];show cP.k (k:=ik n) g.vU.at_),z,_,C,0,Rd.of e,m,λD p x v d=>?_]
 rw[jz x v q ((cD g.ok).La n) r];show k _ _ (am.new d) d ag
end
section
variable{K:Frag}{CP CB:Addr}
def jM.len(h:jM K CP H s i c)(ok:wY s):c.length=(nodes ↥s).length:=by
 let g:((nodes ↥s).map ik).Nodup:=by
  rw[oN,wU];show ip (λ{a b} d z=>bN d<|dw z) gU
 let p:(c.map (·.1)).Perm ((nodes ↥s).map ik):=(p4 h.nd g).mpr λk=>by
  rw[h.keys ok k,ae];show#[λ#[m,e,f]=>#[m,f,e.symm],λ#[m,f,e]=>#[m,e.symm,f]]
 let:=p.length_eq;rw[ac,ac]at this;show this
def qO(K:Frag)(CP CB:Addr):Sp:=λb H Q _=>∃(a:V) (s:Board),b=[a]/\dD K CP CB H a s/\Q (.bl<|decide<|128<=(nodes ↥s).length) H
def B7(T:Facts K j CP CB):Md P w K j d 1 CB "is_full" ["self"] (qO K CP CB):=by
 show T.CI.dx ["self"] λf i A c s H x Q E r u t h=>?_;let[v,s,0,[p,l,ld,q,a,m,n,o,b,g],k]:=h;show#[_,(ao<|aM<|cv M_ (bC nc SY T.Bt.len boot_len<|aa (fv K 0) ah)<|gc T.Ct.DG),?_]
 show#[1,_,_,_,o,b.pieces,l,1,g.ie.at_,_,1,0,?_];rw[<-g.ie.len g.ok]at k;let e:decide ((128:Int)<=(a.length:Int))=decide (128<=a.length):=by rw[b8];lk
 change Q (.bl<|decide<|(128:Int)<=(a.length:Int)) H;rw[e];show k
def nu(K:Frag)(CP CB:Addr):Sp:=λc H Q _=>∃(b:V) (s:Board) (n:Nat),c=[b]/\dD K CP CB H b s/\s.get n=none/\(∀k,k<n->∃a,s.get k=some a)/\Q (.int (n:Int)) H
def vV(T:Facts K I CP CB):Md P w K I t 1 CB "least_free" ["self"] (nu K CP CB):=by
 show T.wD.dx ["self","number"] λf y A r s H W Q E U u F h=>?_;let[v,s,n,0,[O,J,ld,R,G,M,N,o,b,g],D,d,k]:=h;show#[_,(af (aS 1 u aI)
  (af (m7 cm (n6<|E8 F (pv 1)<|fv K 0)<|ao<|aS 1 u<|ad (pv 1) aI)
  (ao<|aM<|pv 1))),?_]
 show#[λm x i=>∃j:Nat,j<=n/\m=n -j/\i=H/\x=[some v,some<|.int (j:Int)],#[n,(0),cH _,0,0,0],?_];ext m x L ⟨j,S,rfl,B,rfl⟩;rw[B];show#[2,_,_,_,o,b.pieces,J,1,cP.k (k:=ik j) g.ie.at_,1,?_];rw[g.ie.has];show cg (λc=>?_) λc=>?_
 .let p:j<n:=by
   show au λz=>?_;let l:j=n:=om;subst l;unfold hasB at c;rw[iS,D]at c;simp at c
  show#[λe i=>i=H/\e=[some v,some<|.int ((j+1:Nat):Int)],λe i q=>#[n -(j+1),om,j+1,p,0,q.1,q.2],?_];show#[1,_,1,0,0,0]
 .let l:j=n:=by
   show au λz=>?_;let[a,C]:=d j om;unfold hasB at c;rw[iS,C]at c;simp at c
  subst l;show#[1,k]
end
def LT:HO->Bool
 |.lst _=>true
 |.tup _=>true
 |.g9 _ (.lst _)=>true
 |.g9 _ (.tup _)=>true
 |_=>false
def Kp(H b:Hp):Prop:=∀a o,H a=some o->LT o=true->b a=some o
def Kj(H c:Hp):Prop:=∀a o,H a=some o->(∀b,o≠.dK b)->(∀b,o≠.dT b)->c a=some o
def Kg(H c:Hp):Prop:=∀a o,H a=some o->(∀b,o≠.dT b)->c a=some o
def Kp.trans(x:Kp H b)(y:Kp b c):Kp H c:=λa o h l=>y a o (x a o h l) l
def Kj.trans(x:Kj H b)(y:Kj b c):Kj H c:=λa o h l m=>y a o (x a o h l m) l m
def Kg.trans(x:Kg H b)(y:Kg b c):Kg H c:=λa o h l=>y a o (x a o h l) l
def Kp.of(s:am H b):Kp H b:=λa o h _=>s a o h
def Kj.of(s:am H b):Kj H b:=λa o h _ _=>s a o h
def Kg.of(s:am H b):Kg H b:=λa o h _=>s a o h
def Kj.kp(s:Kj H b):Kp H b:=λa o h l=>s a o h (λ_ e=>by subst e;cases l) λ_ e=>by subst e;cases l
def Kg.kj(s:Kg H b):Kj H b:=λa o h _ m=>s a o h m
def Kg.kp(s:Kg H a):Kp H a:=s.kj.kp
def Kp.wr(h:H p=some u)(l:LT u=false):Kp H (upd H p o):=λa q e m=>by
 rw[aA λz=>by subst z;rw[h]at e;cases e;rw[l]at m;cases m];show e
def Kj.Lg(h:H p=some (.dK b)):Kj H (upd H p o):=λa q e m _=>by
 rw[aA λz=>by subst z;rw[h]at e;cases e;show m _ rfl];show e
def Kg.Q9(h:H p=some (.dT b)):Kg H (upd H p o):=λa q e m=>by
 rw[aA λz=>by subst z;rw[h]at e;cases e;show m _ rfl];show e
def gn.kp(s:gn a H c)(h:H a=some (.ins C d f)):Kp H c:=λb o e l=>s b o (λz=>by subst z;rw[h]at e;cases e;cases l) e
def Kp.ts(k:Kp H b):Tu K H b:=λa d t=>by
 obtain (t|⟨c,t⟩)|t:=t
 .show .inl<|.inl<|k _ _ t rfl
 .show .inl<|.inr #[c,k _ _ t rfl]
 .show .inr t
def Kp.sl(k:Kp H b)(t:cc K H a d):cc K b a d:=by
 obtain (t|⟨c,t⟩)|t:=t
 .show .inl<|.inl<|k _ _ t rfl
 .show .inl<|.inr #[c,k _ _ t rfl]
 .show .inr t
def IsL.kp(m:Mon K R)(t:Kp H b)(h:IsL K R H v d):IsL K R b v d:=
 let #[a,c,e,q,p]:=h;#[a,c,e,t.sl q,cO m t.ts p]
def Placed.kp(h:Placed K H d e)(s:Kp H c):Placed K c d e:=
 #[let #[v,a,b]:=h.pts;#[v,a,IsL.kp eF.mon s b],let #[v,a,b]:=h.box;#[v,a,jd.mon _ _ _ _ s.ts b],let #[v,a,b]:=h.oW;#[v,a,IsL.kp eK.mon s b],h.ne,h.n9,h.rg]
def Mb.kp(f:Mb K H b p)(s:Kp H a):Mb K a b p:=#[f.net,f.first,f.last,f.d9,f.placed.kp s,f.r0,f.r1]
def lU.kp(h:lU K d H b a)(s:Kp H c)(e:∀o,H b=some o->c b=some o):lU K d c b a:=
 let #[g,j,i,f,n,l]:=h;#[g,j,e _ i,f.kp s,n,l]
def lU.kj(h:lU K b H i a)(s:Kj H c):lU K b c i a:=
 let #[d,g,e,f,n,l]:=h;#[d,g,s _ _ e (λ_ z=>by cases z) (λ_ z=>by cases z),f.kp s.kp,n,l]
def iU.kj(h:iU K C H v f)(s:Kj H b):iU K C b v f:=let #[a,d,e,q,c,n]:=h;#[a,d,e,s _ _ q (λ_ z=>by cases z) (λ_ z=>by cases z),c,n]
def jM.kj(h:jM K f H s c b)(e:Kj H d)(g:d c=H c):jM K f d s c b:=
 #[g.trans h.at_,h.nd,λk v i=>let #[n,a,j,l,m,o,p]:=h.isin k v i;#[n,a,j,l,m,o,p.kj e],h.all,h.inj]
def nq.kp(h:nq K H s c f)(e:Kp H d)(g:d c=H c):nq K d s c f:=
 #[g.trans h.at_,h.nd,λk v l=>let #[i,j,a,b,q,m,n,o,p,r]:=h.isin k v l;#[i,j,a,b,q,m,n,o,ki.mon _ _ _ _ e.ts p,r],h.n9]
def fJ.kg{ld a:Addr}(h:fJ H s ld a d)(e:Kg H b):fJ b s ld a d:=
 #[e _ _ h.at_ (λ_ z=>by cases z),h.nd,λk v f=>let #[n,g,i,j,l,#[c,o,p],m]:=h.isin k v f;#[n,g,i,j,l,#[c,e _ _ o (λ_ z=>by cases z),p],m],h.all,h.inj]
def Lf.vT{ld:Addr}(B:Lf K f H s i ld d b h j)(e:Kg H c)(g:nq K c s d a):Lf K f c s i ld d b h a:=
 #[B.ok,B.lay,B.Fj,B.ie.kj e.kj (by rw[e _ _ B.ie.at_ λ_ z=>by cases z];show B.ie.at_.symm),B.vU.kg e,g,B.pl]
def Hv{s:Board}(ok:wY s){l:List (List Key)}(g:l.Nodup)(h:∀k,k∈l->∃i j a b,k=[ik i,ik j]/\s.get i=some a/\s.get j=some b):l.length<=16384:=by
 let e:((List.range 16384).map λn=>[ik (n/128),ik<|n%128]).length=16384:=by rw[ac,cu]
 rw[<-e];show nn g λk f=>?_;let[i,j,a,b,0,c,d]:=h k f;let:=gz ok c;let:=gz ok d;show ae.mpr #[i*128+j,cB.mpr om,?_];rw[show(i*128+j)/128=i by lk,show(i*128+j)%128=j by lk]
def Lh(B:oT)(p:Pt):Prop:=B.l<=p.x/\p.x<=B.r/\B.b<=p.y/\p.y<=B.t
def Hw(a:0<=g)(h:g<=u\/u<= -g):g*g<=u*u:=by
 let h||h:=h
 .show pV h h a om
 .let:g*g<=(-u)*(-u):=pV om om a om
  rwa [jr]at this
def Mc{bl a b or p f:Int}(c:bl<=p)(d:p<=a)(e:b<=f)(g:f<=or):max (bl -or) (max (b -a) 0)<=p -f\/p -f<= -(max (bl -or)<|max (b -a) 0):=om
def Qr{bl f d or p a b t l:Int}(o:bl<=p)(q:p<=f)(r:d<=a)(s:a<=or)(u:d<=b)(v:b<=or)(x:0<t)(w:t<l):
  l*max (bl -or) (max (d -f) 0)<=l*(p -a) -t*(b -a)\/l*(p -a) -t*(b -a)<= -(l*max (bl -or) (max (d -f) 0)):=by
 let e:l*(p -a) -t*(b -a)=(l -t)*(p -a)+t*(p -b):=by grind
 let m:0<=max (bl -or) (max (d -f) 0):=om;by_cases n:max (bl -or) (max (d -f) 0)=0
 .rw[n,dX];lk
 by_cases c:max (bl -or) (max (d -f) 0)<=p -a/\max (bl -or) (max (d -f) 0)<=p -b
 .left;generalize max (bl -or) (max (d -f) 0)=g at*;let i:(l -t)*g<=(l -t)*(p -a):=bG c.1 om;let j:t*g<=t*(p -b):=bG c.2 om;let k:(l -t)*g+t*g=l*g:=by grind
  lk
 .right;let h:p -a<= -(max (bl -or)<|max (d -f) 0)/\p -b<= -(max (bl -or)<|max (d -f) 0):=om;generalize max (bl -or) (max (d -f) 0)=g at*;let i:(l -t)*(p -a)<=(l -t)*(-g):=bG h.1 om;let j:t*(p -b)<=t*(-g):=bG h.2 om;let k:(l -t)*(-g)+t*(-g)= -(l*g):=by grind
  lk
def JW{ux uy dx dy:Int}:((dx*dx+dy*dy)*ux -(ux*dx+uy*dy)*dx)*((dx*dx+dy*dy)*ux -(ux*dx+uy*dy)*dx)+((dx*dx+dy*dy)*uy -(ux*dx+uy*dy)*dy)*((dx*dx+dy*dy)*uy -(ux*dx+uy*dy)*dy)=(dx*dx+dy*dy)*((dx*uy -dy*ux)*(dx*uy -dy*ux)):=by grind
def sP{p a b:Pt}{B O:oT}(D:Lh B p)(A:Lh O a)(C:Lh O b):h_ (um B O) (hU p a b):=by
 let[e,f,i,j]:=D;let[k,m,n,o]:=A;let[q,r,s,u]:=C;unfold h_ um hU;let c:0<=max (B.l -O.r) (max (O.l -B.r) 0):=om;let d:0<=max (B.b -O.t) (max (O.b -B.t) 0):=om;split
 .let x:=Hw c<|Mc e f k m;let y:=Hw d<|Mc i j n o;simp only[k_];lk
 .rename_i H;split
  .let x:=Hw c<|Mc e f q r;let y:=Hw d<|Mc i j s u;simp only[k_];lk
  .rename_i I;let w:0<(p.x -a.x)*(b.x -a.x)+(p.y -a.y)*(b.y -a.y):=om;let v:(p.x -a.x)*(b.x -a.x)+(p.y -a.y)*(b.y -a.y)<(b.x -a.x)*(b.x -a.x)+(b.y -a.y)*(b.y -a.y):=om;let x:=Qr e f k m q r w v;let y:=Qr i j n o s u w v;let id:=JW (ux:=p.x -a.x) (uy:=p.y -a.y) (dx:=b.x -a.x) (dy:=b.y -a.y);simp only[k_];generalize (p.x -a.x)*(b.x -a.x)+(p.y -a.y)*(b.y -a.y)=t at*;generalize (b.x -a.x)*(b.x -a.x)+(b.y -a.y)*(b.y -a.y)=l at*;generalize max (B.l -O.r) (max (O.l -B.r) 0)=g at*;generalize max (B.b -O.t) (max (O.b -B.t) 0)=h at*;generalize l*(p.x -a.x) -t*(b.x -a.x)=U at*;generalize l*(p.y -a.y) -t*(b.y -a.y)=V at*;generalize ((b.x -a.x)*(p.y -a.y) -(b.y -a.y)*(p.x -a.x))=T at*;let E:0<=l*g:=bD om c;let F:0<=l*h:=bD om d;let J:=Hw E x;let K:=Hw F y;let G:(l*g)*(l*g)+(l*h)*(l*h)=l*((g*g+h*h)*l):=by grind
   let z:l*((g*g+h*h)*l)<=l*(T*T):=om;show pY z om
def qg(h:p∈l):Lh (bM l) p:=dP h
def xg(g:Lh B a)(h:Lh B b)(i:Lh O c)(j:Lh O d):∀x∈fu a b c d,h_ (um B O) x:=by
 let f:um O B=um B O:=by
  unfold um;let l:max (O.l -B.r) (max (B.l -O.r) 0)=max (B.l -O.r) (max (O.l -B.r) 0):=om;let m:max (O.b -B.t) (max (B.b -O.t) 0)=max (B.b -O.t) (max (O.b -B.t) 0):=om;rw[l,m]
 intro x k;unfold fu at k;simp only[aB,cA,k8]at k;let e||e||e||e:=k
 .subst e;show sP g i j
 .subst e;show sP h i j
 .subst e;rw[<-f];show sP i g h
 .subst e;rw[<-f];show sP j g h
def Gk(p a b:Pt):0<=(hU p a b).1/\0<(hU p a b).2:=by
 let c:∀z:Int,0<=z*z:=λz=>by
  by_cases h:0<=z
  .show bD h h
  .let:=bD (a:= -z) (b:= -z) om om
   rwa [jr]at this
 unfold hU;split
 .let:=c<|p.x -a.x;let:=c<|p.y -a.y;show#[by change 0<=_+_;lk,Sg]
 .rename_i d;split
  .let:=c<|p.x -b.x;let:=c<|p.y -b.y;show#[by change 0<=_+_;lk,Sg]
  .rename_i e;show#[c _,by change 0<_+_;lk]
def pJ:∀x∈fu a b c d,0<=x.1/\0<x.2:=by
 intro x f;unfold fu at f;simp only[aB,cA,k8]at f;let e||e||e||e:=f<;>(subst e;show Gk _ _ _)
def gh(i:0<q.2)(e:0<r.2)(j:0<t.2)(c:h_ q r)(d:h_ r t):h_ q t:=by
 unfold h_ at*;let a:q.1*r.2*t.2<=r.1*q.2*t.2:=bR c om;let b:r.1*t.2*q.2<=t.1*r.2*q.2:=bR d om;let f:r.2*(q.1*t.2)=q.1*r.2*t.2:=by grind
 let g:r.2*(t.1*q.2)=t.1*r.2*q.2:=by grind
 let h:r.1*q.2*t.2=r.1*t.2*q.2:=by grind
 let:r.2*(q.1*t.2)<=r.2*(t.1*q.2):=om;show pY this e
def rC(z:Int):((sq z:Nat):Int)=z*z:=by
 unfold sq;push_cast;show Br z
def pK(p a b:Pt):((pointSeg p a b).num:Int)=(hU p a b).1/\((pointSeg p a b).den:Int)=(hU p a b).2:=by
 unfold pointSeg hU;let c:((len2 a b:Nat):Int)=(b.x -a.x)*(b.x -a.x)+(b.y -a.y)*(b.y -a.y):=by
  unfold len2;push_cast;rw[rC,rC];grind
 let d:dot (sub p a) (sub b a)=(p.x -a.x)*(b.x -a.x)+(p.y -a.y)*(b.y -a.y):=rfl;simp only[d,c];split
 .show#[?_,0];change((len2 p a:Nat):Int)=_;unfold len2;push_cast;rw[rC,rC]
 .split
  .show#[?_,0];change((len2 p b:Nat):Int)=_;unfold len2;push_cast;rw[rC,rC]
  .show#[?_,c];change((sq (turnOf a b p):Nat):Int)=_;rw[rC];rfl
def JX:(Frac.whole n).le f=decide ((n:Int)*f.den<=f.num):=by
 unfold Frac.le Frac.whole;rw[b8];walk
 .intro h;let:n*f.den<=f.num*1:=h;rw[j1]at this;exact_mod_cast this
 .intro h;change n*f.den<=f.num*1;rw[j1];exact_mod_cast h
def z9(h:0<f.den):(Frac.whole n).le f.reduced=(Frac.whole n).le f:=by
 unfold Frac.le Frac.whole Frac.reduced;rw[b8];change n*(f.den/Nat.gcd f.num f.den)<=f.num/Nat.gcd f.num f.den*1↔n*f.den<=f.num*1;let a:0<Nat.gcd f.num f.den:=ss _ h;let[x,b]:=Hu f.num f.den;let[y,c]:=CT f.num f.den;generalize Nat.gcd f.num f.den=g at*;rw[b,c,MX _ a,MX _ a,j1,j1];walk
 .intro k;let:=zt g k;rw[<-iq,mm g n,iq]at this;show this
 .intro k;rw[<-iq,mm n g,iq]at k;show hJ k a
def DN(c:0<f.den)(d:0<g.den):(Frac.whole n).le (f.least g)=((Frac.whole n).le f&&(Frac.whole n).le g):=by
 let e:∀{f g:Frac},0<f.den->0<g.den->f.num*g.den<=g.num*f.den->n*f.den<=f.num->n*g.den<=g.num:=λ{f g} c d h k=>by
  let a:n*f.den*g.den<=f.num*g.den:=oQ _ k;let b:f.den*(n*g.den)<=f.den*g.num:=by
   let i:f.den*(n*g.den)=n*f.den*g.den:=by rw[<-iq,mm f.den n]
   let j:f.den*g.num=g.num*f.den:=mm _ _;lk
  show hJ b c
 rw[bQ,be];unfold Frac.least Frac.le Frac.whole;simp only[aT,j1];split
 .rename_i h;show#[λk=>#[k,e c d h k],λk=>k.1]
 .rename_i h;show#[λk=>#[e d c om k,k],λk=>k.2]
def yg:∀(r:List Frac) (f:Frac),0<f.den->(∀g∈r,0<g.den)->0<(r.foldl Frac.least f).den/\(Frac.whole n).le (r.foldl Frac.least f)=((Frac.whole n).le f&&r.all λg=>(Frac.whole n).le g)
 |[],f,c,_=>#[c,by simp]
 |g::r,f,c,h=>by
  let d:=h g<|aN ..;let e:0<(f.least g).den:=by unfold Frac.least;split;show c;show d
  let[a,b]:=yg r (f.least g) e λx i=>h x<|aC _ i;show#[a,?_];rw[f6,b,DN c d,iM,Bool.and_assoc]
def qP(d:l≠[])(h:∀g∈l,0<g.den):0<(leastOf l).den/\(Frac.whole n).le (leastOf l)=l.all λg=>(Frac.whole n).le g:=by
 match l,d with
 |f::r,_=>
  obtain⟨a,b⟩:=yg (n:=n) r f (h f<|aN ..) λg c=>h g<|aC _ c;show#[a,b]
def Fk(j:meet a b c d=false):0<(segSeg a b c d).den/\((Frac.whole n).le (segSeg a b c d)=true↔∀x∈fu a b c d,(n:Int)*x.2<=x.1):=by
 unfold segSeg;rw[j,az aR];let k:∀p a b,0<(pointSeg p a b).den:=λp a b=>by
  let:=(pK p a b).2;let:=(Gk p a b).2;lk
 let[x,y]:=qP (n:=n) (l:=[pointSeg a c d,pointSeg b c d,pointSeg c a b,pointSeg d a b]) SX (by
  intro g i;simp only[aB,cA,k8]at i;let e||e||e||e:=i<;>(subst e;show k _ _ _))
 show#[x,?_];rw[y];let f:∀p a b,(Frac.whole n).le (pointSeg p a b)=true↔(n:Int)*(hU p a b).2<=(hU p a b).1:=λp a b=>by
  rw[JX,aT,(pK p a b).1,(pK p a b).2]
 simp only[iM,List.all_nil,lf,be,f,fu,aB,cA,k8];walk
 .ext⟨l,m,o,q⟩ x (e|e|e|e)<;>(subst e;assumption)
 .intro h;show#[h _ (.inl rfl),h _<|.inr<|.inl rfl,h _<|.inr<|.inr<|.inl rfl,h _<|.inr<|.inr<|.inr rfl]
def Os(o:k≠[])(p:l≠[])(r:(dist2 k l).le (.whole M)=false)(g:sN k l q)(n:Nat):(Frac.whole n).le (dist2 k l)=decide ((n:Int)*q.2<=q.1):=by
 rw[si o p,Bq]at r;let[w,A]:=r;let j:∀e∈edges k,∀f∈edges l,meet e.1 e.2 f.1 f.2=false:=λe b f c=>by
  cases m:meet e.1 e.2 f.1 f.2 with
  |false=>rfl
  |true=>
   let:eO k l M=true:=by
    unfold eO;show ci.mpr #[e,b,ci.mpr #[f,c,tX m]]
   rw[A]at this;cases this
 unfold dist2;rw[w,az aR];let B:((edges k).flatMap λe=>(edges l).map λf=>segSeg e.1 e.2 f.1 f.2)≠[]:=by
  let[e,b]:=pW _<|bI o;let[f,c]:=pW _<|bI p;show gX (a:=segSeg e.1 e.2 f.1 f.2)<|Az.mpr #[e,b,fB c]
 let[x,y]:=qP (n:=n) B λz d=>by
  let[e,b,d]:=Az.mp d;let[f,c,0]:=ae.mp d;show(Fk (n:=0)<|j e b f c).1
 rw[z9 x,y,bQ,c7,aT];let C:=g.sq.2.1;walk
 .intro h;let[e,b,f,c,t,i,le]:=g.some;let v:=((Fk (n:=n)<|j e b f c).2).mp (h _<|Az.mpr #[e,b,fB c]) t i;let t2:=(pJ t i).2;unfold h_ at le;let a:(n:Int)*t.2*q.2<=t.1*q.2:=bR v om;let s:t.2*((n:Int)*q.2)=(n:Int)*t.2*q.2:=by grind
  let u:t.2*q.1=q.1*t.2:=i8 _ _;let:t.2*((n:Int)*q.2)<=t.2*q.1:=om;show pY this t2
 .intro h z d;let[e,b,d]:=Az.mp d;let[f,c,0]:=ae.mp d;show((Fk (n:=n)<|j e b f c).2).mpr λt i=>?_;let le:=g.least e b f c t i;let t2:=(pJ t i).2;unfold h_ at le;let a:(n:Int)*q.2*t.2<=q.1*t.2:=bR h om;let s:q.2*((n:Int)*t.2)=(n:Int)*q.2*t.2:=by grind
  let u:q.2*t.1=t.1*q.2:=i8 _ _;let:q.2*((n:Int)*t.2)<=q.2*t.1:=om;show pY this C
def A7(k:0<=D)(h:cC (bO B D) O=false):D*D<(um B O).1:=by
 let i:∀z:Int,0<=z*z:=λz=>by
  by_cases h:0<=z
  .show bD h h
  .let:=bD (a:= -z) (b:= -z) om om
   rwa [jr]at this
 let m:¬(B.l -D<=O.r/\O.l<=B.r+D/\B.b -D<=O.t/\O.b<=B.t+D):=λz=>by
  let:cC (bO B D) O=true:=gy.mpr z;rw[h]at this;cases this
 let f:∀{g z:Int},D<g->D*D<g*g:=λ{g z} l=>by
  let a:D*g<=g*g:=bR om om;let b:D*D<=D*g:=bG om k;let c:D*D<g*g\/D*D=g*g:=om;let c||c:=c
  .show c
  .exfalso;let d:D*g=g*g:=om;let e:(g -D)*g=0:=by grind
   let e||e:=bY.mp e<;>lk
 change D*D<_*_+_*_;by_cases c:D<max (B.l -O.r) (max (O.l -B.r) 0)
 .let:=f (z:=0) c;let:=i<|max (B.b -O.t)<|max (O.b -B.t) 0;lk
 .let j:D<max (B.b -O.t) (max (O.b -B.t) 0):=om;let:=f (z:=0) j;let:=i<|max (B.l -O.r)<|max (O.l -B.r) 0;lk
def Me(o:k≠[])(p:l≠[])(w:(dist2 k l).le (.whole M)=false)(g:sN k l q)(D:Nat):(cC (bO (bM k) (D:Int)) (bM l)&&mO q ((D:Int)*D,1))=!(Frac.whole<|D*D).le (dist2 k l):=by
 rw[Os o p w g];let i:((D*D:Nat):Int)=(D:Int)*D:=by push_cast;rfl
 rw[i];cases b:cC (bO (bM k) (D:Int)) (bM l)with
 |true=>
  rw[tM];unfold mO;rw[<-decide_not,b8];simp only[k_];lk
 |false=>
  rw[Sl];let j:=A7 om b;let[e,m,f,n,t,d,le]:=g.some;let[r,s]:=dz m;let[u,v]:=dz n;let h:=xg (qg r) (qg s) (qg u) (qg v) t d;let t2:=(pJ t d).2;let c:=gh (by change(0:Int)<1;decide) t2 g.sq.2.1 h le
  unfold h_ at c;let x:(um (bM k)<|bM l).1*q.2<=q.1*1:=c;let a:(D:Int)*D*q.2<=(um (bM k)<|bM l).1*q.2:=bR om<|by let:=g.sq.2.1;lk
  rw[aU om];rfl
def sc(s:Int)(p:Pt):Pt:=#[s*p.x,s*p.y]
def Fl{s a b:Int}(h:0<s):s*a<=s*b↔a<=b:=#[λk=>pY k h,λk=>bG k om]
def Mf{p a b:Pt}{N s:Int}(d:0<s):dj (sc s p) (sc s a) (sc s b) (N*s)=decide ((hU p a b).1*s<=N*(hU p a b).2):=by
 let c:=cj d d;let h:=cj c d;unfold dj hU sc;simp only;let l:(s*p.x -s*a.x)*(s*b.x -s*a.x)+(s*p.y -s*a.y)*(s*b.y -s*a.y)=s*s*((p.x -a.x)*(b.x -a.x)+(p.y -a.y)*(b.y -a.y)):=by grind
 let m:(s*b.x -s*a.x)*(s*b.x -s*a.x)+(s*b.y -s*a.y)*(s*b.y -s*a.y)=s*s*((b.x -a.x)*(b.x -a.x)+(b.y -a.y)*(b.y -a.y)):=by grind
 let i:s*s*((p.x -a.x)*(b.x -a.x)+(p.y -a.y)*(b.y -a.y))<=0↔(p.x -a.x)*(b.x -a.x)+(p.y -a.y)*(b.y -a.y)<=0:=by
  let:=Fl (a:=(p.x -a.x)*(b.x -a.x)+(p.y -a.y)*(b.y -a.y)) (b:=0) c;rw[dX]at this;show this
 rw[l,m];by_cases f:(p.x -a.x)*(b.x -a.x)+(p.y -a.y)*(b.y -a.y)<=0
 .rw[aH<|i.mpr f,aH f,b8];let e:(s*p.x -s*a.x)*(s*p.x -s*a.x)+(s*p.y -s*a.y)*(s*p.y -s*a.y)=s*(((p.x -a.x)*(p.x -a.x)+(p.y -a.y)*(p.y -a.y))*s):=by grind
  rw[e,k_,i8 N s];show Fl d
 .rw[az λz=>f<|i.mp z,az f];let j:=Fl (a:=(b.x -a.x)*(b.x -a.x)+(b.y -a.y)*(b.y -a.y)) (b:=(p.x -a.x)*(b.x -a.x)+(p.y -a.y)*(b.y -a.y)) c;by_cases g:(b.x -a.x)*(b.x -a.x)+(b.y -a.y)*(b.y -a.y)<=(p.x -a.x)*(b.x -a.x)+(p.y -a.y)*(b.y -a.y)
  .rw[aH<|j.mpr g,aH g,b8];let e:(s*p.x -s*b.x)*(s*p.x -s*b.x)+(s*p.y -s*b.y)*(s*p.y -s*b.y)=s*(((p.x -b.x)*(p.x -b.x)+(p.y -b.y)*(p.y -b.y))*s):=by grind
   rw[e,k_,i8 N s];show Fl d
  .rw[az λz=>g<|j.mp z,az g,b8];let e:((s*b.x -s*a.x)*(s*p.y -s*a.y) -(s*b.y -s*a.y)*(s*p.x -s*a.x))*((s*b.x -s*a.x)*(s*p.y -s*a.y) -(s*b.y -s*a.y)*(s*p.x -s*a.x))=s*s*s*(((b.x -a.x)*(p.y -a.y) -(b.y -a.y)*(p.x -a.x))*((b.x -a.x)*(p.y -a.y) -(b.y -a.y)*(p.x -a.x))*s):=by grind
   let k:N*s*(s*s*((b.x -a.x)*(b.x -a.x)+(b.y -a.y)*(b.y -a.y)))=s*s*s*(N*((b.x -a.x)*(b.x -a.x)+(b.y -a.y)*(b.y -a.y))):=by grind
   rw[e,k];show Fl h
def Ot(z:Int):ab z=(z.natAbs:Int):=by unfold ab;split<;>lk
def Ou{a b c d:Pt}{q:Int×Int}(g:0<q.2)(h:BX a b c d q=true):jh (sc q.2 a) (sc q.2 b) (sc q.2 c) (sc q.2 d) (q.1*q.2)=true:=by
 unfold BX at h;rw[be,aT]at h;let[p,f]:=h;let[N,s]:=q;let e:0<s*s:=cj g g;let t1:(s*b.x -s*a.x)*(s*c.y -s*a.y) -(s*b.y -s*a.y)*(s*c.x -s*a.x)=s*s*turnOf a b c:=by unfold turnOf;grind
 let t2:(s*b.x -s*a.x)*(s*d.y -s*a.y) -(s*b.y -s*a.y)*(s*d.x -s*a.x)=s*s*turnOf a b d:=by unfold turnOf;grind
 unfold jh sc;simp only;rw[t1,t2];let u:∀z:Int,(0<s*s*z↔0<z)/\(s*s*z<0↔z<0):=λz=>by
  let r:=Fl (a:=z) (b:=0) e;let t:=Fl (s:=s*s) (a:=0) (b:=z) e;show#[om,om]
 let o:bZ (s*s*turnOf a b c) (s*s*turnOf a b d)=true:=by grind [bZ]
 rw[o,az de,aT];let l:(s*b.x -s*a.x)*(s*b.x -s*a.x)+(s*b.y -s*a.y)*(s*b.y -s*a.y)=s*s*((b.x -a.x)*(b.x -a.x)+(b.y -a.y)*(b.y -a.y)):=by grind
 rw[l];let i:∀z:Int,((s*s*z).natAbs:Int)=s*s*ab z:=λz=>by
  rw[Int.natAbs_mul,Ot];push_cast;let:((s*s).natAbs:Int)=s*s:=Int.natAbs_of_nonneg om;rw[this]
 rw[i,i];let m:min (s*s*ab (turnOf a b c)) (s*s*ab (turnOf a b d))=s*s*mn (ab<|turnOf a b c) (ab<|turnOf a b d):=by grind [mn]
 rw[m];generalize mn (ab<|turnOf a b c) (ab<|turnOf a b d)=n at f|-;generalize (b.x -a.x)*(b.x -a.x)+(b.y -a.y)*(b.y -a.y)=L at f|-;let j:N*s*(s*s*L)=s*s*s*(N*L):=by grind
 let k:s*s*n*(s*s*n)=s*s*s*(n*n*s):=by grind
 rw[j,k];show qo f<|cj e g
def Gm(r:0<=q.1)(k:0<q.2)(h:BX a b c d q=true):∀x∈fu a b c d,h_ q x:=by
 let f:=EA (bD r om)<|Ou k h;unfold eX at f;simp only[Bq]at f;let[_,l,m,n,o]:=f;let i:∀{p a b:Pt},dj (sc q.2 p) (sc q.2 a) (sc q.2 b) (q.1*q.2)=false->h_ q (hU p a b):=λ{p a b} g=>by
  rw[Mf k,k9]at g;unfold h_;lk
 intro x j;unfold fu at j;simp only[aB,cA,k8]at j;let e||e||e||e:=j
 .subst e;show i l
 .subst e;show i m
 .subst e;show i n
 .subst e;show i o
def JY:∀x,x∈fu a b c d↔x∈fu c d a b:=by
 grind [fu]
def lv(q:Int×Int):h_ q q:=lh _
def rD(h:mO q r=false):h_ r q:=by
 unfold mO at h;rw[k9]at h;unfold h_;lk
def Hx(h:mO q r=true):h_ q r:=by
 unfold mO at h;rw[aT]at h;unfold h_;lk
def Gn:∀(l:List (Int×Int)) (q:Int×Int),0<q.2->(∀x∈l,0<x.2)->∀r,r=l.foldl (λm f=>if mO f m then f else m) q->h_ r q/\(∀x∈l,h_ r x)/\(r=q\/r∈l)/\0<r.2
 |[],q,i,_,r,j=>by subst j;show#[lv _,λx g=>by simp at g,.inl rfl,i]
 |f::l,q,i,o,r,j=>by
  let n:=o f<|aN ..;rw[f6]at j;let k:0<(if mO f q then f else q).2:=by split;show n;show i
  let[a,b,c,d]:=Gn l _ k (λx g=>o x<|aC _ g) r j;let s:h_ (if mO f q then f else q) q:=by
   split
   .rename_i h;show Hx h
   .show lv _
  let p:h_ (if mO f q then f else q) f:=by
   split
   .show lv _
   .rename_i h;show rD<|by simpa using h
  show#[gh d k i a s,λx g=>?_,?_,d]
  .let e||e:=aB.mp g
   .subst e;show gh d k n a p
   .show b x e
  .grind
def Hy(g:0<=q.1)(f:0<q.2):h_ (lH a b c d q) q/\(∀x∈fu a b c d,h_ (lH a b c d q) x)/\(lH a b c d q=q\/lH a b c d q∈fu a b c d):=by
 unfold lH;split
 .rename_i h;show#[lv _,λx e=>?_,.inl rfl];let h||h:=Bool.or_eq_true_iff.mp h
  .show Gm g f h x e
  .show Gm g f h x<|(JY x).mp e
 .let[x,y,z,_]:=Gn (fu a b c d) q f (λx e=>(pJ x e).2) _ rfl;show#[x,y,z]
structure GI(k l:List Pt)(m:Int×Int)(done:Pt×Pt->Pt×Pt->Prop):Prop where
 sq:Sq m
 low:m.1<2^200
 some:∃e∈edges k,∃f∈edges l,∃x∈fu e.1 e.2 f.1 f.2,h_ x m
 Pf:∀e∈edges k,∀f∈edges l,done e f->∀x∈fu e.1 e.2 f.1 f.2,h_ m x
def GI.weak(h:GI k l m d)(w:∀e f,a e f->d e f):GI k l m a:=#[h.sq,h.low,h.some,λe b f c z=>h.Pf e b f c<|w e f z]
section
open PySem.W PyProof.Rows.G
def ev{b:Type}(lt:Nat->Nat->Bool):KasT b->b
 |.ret a=>a
 |.ask i j k=>ev lt<|k<|lt i j
def qh(lt:Nat->Nat->Bool):∀(t:KasT a) (f:a->KasT b),ev lt (t.bind f)=ev lt (f<|ev lt t)
 |.ret _,_=>rfl
 |.ask i j k,f=>qh lt (k<|lt i j) f
section
variable(key:Nat->Int)
abbrev j5:Nat->Nat->Bool:=λi j=>decide<|key i<key j
abbrev cG(p:Array Nat)(i:Nat):Int:=key<|p.getD i 0
abbrev cp(p:Array Nat)(r:Nat):Prop:=∀i j,i<=j->j<r->cG key p i<=cG key p j
abbrev Dn(p:Array Nat)(r:Nat):Prop:=∀i j,i<=j->j<r->cG key p j<=cG key p i
def K_congr(h:p[i]?=q[j]?):cG key p i=cG key q j:=by
 change key (p.getD i 0)=key (q.getD j 0);rw[nT,nT,h]
def JZ(b:j<=p.size)(k:Nat):cG key (kas_rev p i j) k=if i<=k/\k<j then cG key p (i+j -1 -k)else cG key p k:=by
 let e:=getElem?_mirror_all (xs:=p) (i:=i) b k;by_cases a:i<=k/\k<j
 .rw[aH a]at e|-;show K_congr key e
 .rw[az a]at e|-;show K_congr key e
def Nd(g:a<p.size)(f:d<=a)(k:Nat):cG key (bubble p a d) k=if k=a -d then cG key p a else if a -d<k/\k<=a then cG key p (k -1)else cG key p k:=by
 let e:=getElem?_bubble g d f k;by_cases b:k=a -d
 .rw[aH b]at e|-;show K_congr key e
 .rw[az b]at e|-;by_cases c:a -d<k/\k<=a
  .rw[aH c]at e|-;show K_congr key e
  .rw[az c]at e|-;show K_congr key e
def Fm(p:Array Nat):∀(f n:Nat),1<=n->cp key p n->n<=ev (j5 key) (kas_asc p f n)/\ev (j5 key) (kas_asc p f n)<=n+f/\cp key p (ev (j5 key)<|kas_asc p f n)/\(ev (j5 key) (kas_asc p f n)<n+f->cG key p (ev (j5 key)<|kas_asc p f n)<cG key p (ev (j5 key) (kas_asc p f n) -1))
 |0,n,q,h=>#[aE _,aE _,h,λz=>absurd z (dO _)]
 |f+1,n,q,h=>by
  let e:ev (j5 key) (kas_asc p (f+1) n)=if cG key p n<cG key p (n -1)then n else ev (j5 key) (kas_asc p f<|n+1):=by
   change ev (j5 key) (if j5 key (p.getD n 0) (p.getD (n -1) 0)=true then _ else _)=_;by_cases g:cG key p n<cG key p (n -1)
   .rw[aH g,aH<|by show aU g];rfl
   .rw[az g,az λz=>g<|aF z]
  rw[e];by_cases g:cG key p n<cG key p (n -1)
  .rw[aH g];show#[aE _,om,h,λ_=>g]
  .rw[az g];let o:cp key p (n+1):=λi j k s=>by
    by_cases l:j<n
    .show h i j k l
    .let m:j=n:=om;subst m;by_cases r:i=j
     .subst r;show lh _
     .let:=h i (j -1) om om;lk
   let[a,b,c,d]:=Fm p f (n+1) om o;show#[om,om,c,λz=>d om]
def lM(p:Array Nat)(i j:Nat):(kas_rev p i j).size=p.size:=mirror_size _ _ _ _
def jA(p:Array Nat)(i j:Nat):(kas_rev p i j).Perm p:=mirror_perm _ _ _ _
def yh(b:j<=p.size)(h:∀k,i<=k->k<j->cG key p k=cG key p (j -1))(k:Nat):cG key (kas_rev p i j) k=cG key p k:=by
 rw[JZ key b];split
 .rename_i a;rw[h (i+j -1 -k) om om,h k a.1 a.2]
 .rfl
def xh:∀(f:Nat) (p:Array Nat) (n q:Nat),1<=n->n+f<=p.size->Dn key p n->q<n->(∀k,n -1 -q<=k->k<n->cG key p k=cG key p (n -1))->
  ∀r,r=ev (j5 key) (kas_desc f p n q)->r.1.Perm p/\r.1.size=p.size/\n<=r.2.1/\r.2.1<=n+f/\Dn key r.1 r.2.1/\r.2.2<r.2.1/\∀k,r.2.1 -1 -r.2.2<=k->k<r.2.1->cG key r.1 k=cG key r.1 (r.2.1 -1)
 |0,p,n,q,H,J,m,C,w,r,l=>by
  subst l;show#[tQ _,0,aE _,aE _,m,C,w]
 |f+1,p,n,q,H,J,m,C,w,r,l=>by
  by_cases F:cG key p n<cG key p (n -1)
  .let h:∀D:Array Nat,(∀k,cG key D k=cG key p k)->Dn key D (n+1):=λD t i j o I=>by
    rw[t,t];by_cases s:j<n
    .show m i j o s
    .let A:j=n:=om;subst A;by_cases B:i=j
     .subst B;show lh _
     .let:=m i (j -1) om om;lk
   let e:ev (j5 key) (kas_desc (f+1) p n q)=ev (j5 key) (if q>0 then kas_desc f (kas_rev p (n -(q+1)) n) (n+1) 0 else kas_desc f p (n+1) 0):=by
    change ev (j5 key) (if j5 key (p.getD n 0) (p.getD (n -1) 0)=true then _ else _)=_;rw[aH<|by show aU F]
   rw[e]at l;by_cases E:q>0
   .rw[aH E]at l;let t:=yh key (p:=p) (i:=n -(q+1)) (j:=n) om λk a b=>w k om b;let[a,b,c,d,x,y,z]:=xh f (kas_rev p (n -(q+1)) n) (n+1) 0 om (by rw[lM];lk) (h _ t) om (λk u v=>by rw[show k=n by lk];rfl) r l
    show#[a.trans (jA _ _ _),by rw[b,lM],om,om,x,y,z]
   .rw[az E]at l;let[a,b,c,d,x,y,z]:=xh f p (n+1) 0 om om (h _ λ_=>rfl) om (λk u v=>by rw[show k=n by lk];rfl) r l
    show#[a,b,om,om,x,y,z]
  .let e:ev (j5 key) (kas_desc (f+1) p n q)=if cG key p (n -1)<cG key p n then(p,n,q)else ev (j5 key) (kas_desc f p (n+1)<|q+1):=by
    change ev (j5 key) (if j5 key (p.getD n 0) (p.getD (n -1) 0)=true then _ else _)=_;rw[az λz=>F<|aF z];change ev (j5 key) (if j5 key (p.getD (n -1) 0) (p.getD n 0)=true then _ else _)=_;by_cases g:cG key p (n -1)<cG key p n
    .rw[aH g,aH<|by show aU g];rfl
    .rw[az g,az λz=>g<|aF z]
   rw[e]at l;by_cases g:cG key p (n -1)<cG key p n
   .rw[aH g]at l;subst l;show#[tQ _,0,aE _,by change n<=n+(f+1);lk,m,C,w]
   .rw[az g]at l;let G:cG key p n=cG key p (n -1):=om;let h:Dn key p (n+1):=λi j o I=>by
     by_cases s:j<n
     .show m i j o s
     .let A:j=n:=om;subst A;by_cases B:i=j
      .subst B;show lh _
      .let:=m i (j -1) om om;lk
    let[a,b,c,d,x,y,z]:=xh f p (n+1) (q+1) om om h om (λk u v=>by
     by_cases t:k<n
     .rw[w k om t,show n+1 -1=n by lk,G]
     .let:k=n:=om;subst this;rfl) r l
    show#[a,b,om,om,x,y,z]
def Ov(a:n<=p.size)(h:Dn key p n):cp key (kas_rev p 0 n) n:=λi j b c=>by
 rw[JZ key a,JZ key a,aH #[cH _,om],aH #[cH _,c]];show h _ _ om om
def DO(f:1<=n)(g:n<=nrem)(i:nrem<=p.size)(h:Dn key p n):∀r,r=ev (j5 key) (kas_tail3 n nrem p)->r.2.Perm p/\r.2.size=p.size/\1<=r.1/\r.1<=nrem/\cp key r.2 r.1:=by
 intro r e;unfold kas_tail3 at e;rw[qh]at e;subst e;let[a,b,c,d]:=Fm key (kas_rev p 0 n) (nrem -n) n f<|Ov key om h;show#[jA _ _ _,lM _ _ _,by change 1<=ev (j5 key) (kas_asc _ _ _);lk,by change ev (j5 key) (kas_asc _ _ _)<=nrem;lk,c]
def vA(B:1<=n)(C:n<nrem)(D:nrem<=p.size)(h:Dn key p (n+1)):∀r,r=ev (j5 key) (kas_descPart n nrem p)->r.2.Perm p/\r.2.size=p.size/\1<=r.1/\r.1<=nrem/\cp key r.2 r.1:=by
 intro r e;unfold kas_descPart at e;rw[qh]at e;let[a,b,c,d,x,y,z]:=xh key (nrem -(n+1)) p (n+1) 0 om om h om (λk u v=>by rw[show k=n by lk];rfl) _ rfl
 generalize ev (j5 key) (kas_desc (nrem -(n+1)) p (n+1) 0)=t at e a b c d x y z;by_cases s:t.2.2>0
 .rw[aH s]at e;let w:=yh key (p:=t.1) (i:=t.2.1 -(t.2.2+1)) (j:=t.2.1) om λk u v=>z k om v;let[f,g,l,m,o]:=DO key (n:=t.2.1) (nrem:=nrem) (p:=kas_rev t.1 (t.2.1 -(t.2.2+1)) t.2.1) om om (by rw[lM];lk) (λi j q A=>by rw[w,w];show x i j q A) r e
  show#[(f.trans<|jA _ _ _).trans a,by rw[g,lM,b],l,m,o]
 .rw[az s]at e;let[f,g,l,m,o]:=DO key (n:=t.2.1) (nrem:=nrem) (p:=t.1) om om om x r e;show#[f.trans a,by rw[g,b],l,m,o]
def J0(H:1<=nrem)(G:nrem<=p.size):∀r,r=ev (j5 key) (kas_count nrem p)->r.2.Perm p/\r.2.size=p.size/\1<=r.1/\r.1<=nrem/\cp key r.2 r.1:=by
 intro r f;unfold kas_count at f;rw[qh]at f;let[a,b,c,d]:=Fm key p (nrem -1) 1 om λi j l v=>by rw[show i=j by lk];show lh _
 generalize ev (j5 key) (kas_asc p (nrem -1) 1)=n at f a b c d;by_cases o:n=nrem
 .rw[aH<|by simp[o]]at f
  subst f;show#[tQ _,0,by change 1<=n;lk,by change n<=nrem;lk,c]
 .rw[az<|by simp[o]]at f
  let m:n<nrem:=om;let B:=d om;by_cases u:n>1
  .rw[aH u]at f;let g:r=if cG key p 0<cG key p (n -1)then(n,p)else ev (j5 key) (kas_descPart n nrem<|kas_rev p 0 n):=by
    rw[f];change ev (j5 key) (if j5 key (p.getD 0 0) (p.getD (n -1) 0)=true then _ else _)=_;by_cases h:cG key p 0<cG key p (n -1)
    .rw[aH h,aH<|by show aU h];rfl
    .rw[az h,az λz=>h<|aF z]
   by_cases h:cG key p 0<cG key p (n -1)
   .rw[aH h]at g;subst g;show#[tQ _,0,by change 1<=n;lk,by change n<=nrem;lk,c]
   .rw[az h]at g;let e:∀k,0<=k->k<n->cG key p k=cG key p (n -1):=λk _ q=>by
     let I:=c 0 k om q;let J:=c k (n -1) om om;lk
    let q:=yh key (p:=p) (i:=0) (j:=n) om e;let[w,x,y,A,C]:=vA key (n:=n) (nrem:=nrem) (p:=kas_rev p 0 n) om m (by rw[lM];lk) (λi j l v=>by
     rw[q,q];by_cases t:j<n
     .rw[e i om om,e j om t];show lh _
     .let E:j=n:=om;subst E;by_cases s:i=j
      .subst s;show lh _
      .rw[e i om om];lk) r g
    show#[w.trans (jA _ _ _),by rw[x,lM],y,A,C]
  .rw[az u]at f;let F:n=1:=om;show vA key (n:=n) (nrem:=nrem) (p:=p) om m G (λi j l v=>by
    by_cases s:i=j
    .subst s;show lh _
    .let D:i=0:=om;let o:j=1:=om;subst D o F;show Int.le_of_lt B) r f
def yi(p:Array Nat)(k:Nat)(o:cp key p k):∀(f l r:Nat),l<=r->r<=k->r -l<=f->(∀i,i<l->cG key p i<=cG key p k)->(∀i,r<=i->i<k->cG key p k<cG key p i)->
  ∀m,m=ev (j5 key) (kas_place p k f l r)->m<=k/\(∀i,i<m->cG key p i<=cG key p k)/\∀i,m<=i->i<k->cG key p k<cG key p i
 |0,l,r,t,h,u,j,n,m,d=>by
  let q:m=l:=d;let s:l=r:=om;subst q s;show#[h,j,n]
 |f+1,l,r,t,h,u,j,n,m,d=>by
  let e:ev (j5 key) (kas_place p k (f+1) l r)=if l>=r then l else if cG key p k<cG key p ((l+r)/2)then ev (j5 key) (kas_place p k f l<|(l+r)/2)else ev (j5 key) (kas_place p k f ((l+r)/2+1) r):=by
   change ev (j5 key) (if l>=r then _ else _)=_;by_cases c:l>=r
   .rw[aH c,aH c];rfl
   .rw[az c,az c];change ev (j5 key) (if j5 key (p.getD k 0) (p.getD ((l+r)/2) 0)=true then _ else _)=_;by_cases g:cG key p k<cG key p ((l+r)/2)
    .rw[aH g,aH<|by show aU g]
    .rw[az g,az λz=>g<|aF z]
  rw[e]at d;by_cases c:l>=r
  .rw[aH c]at d;subst d;let:m=r:=om;subst this;show#[h,j,n]
  .rw[az c]at d;by_cases g:cG key p k<cG key p ((l+r)/2)
   .rw[aH g]at d;show yi p k o f l ((l+r)/2) om om om j (λi a b=>by let:=o ((l+r)/2) i a b;lk) m d
   .rw[az g]at d;show yi p k o f ((l+r)/2+1) r om h om (λi a=>by let:=o i ((l+r)/2) om om;lk) n m d
def J1:∀(f:Nat) (p:Array Nat) (k:Nat),k+f<=p.size->cp key p k->∀r,r=ev (j5 key) (kas_bin f p k)->r.Perm p/\r.size=p.size/\cp key r (k+f)
 |0,p,k,t,g,r,h=>by
  subst h;show#[tQ _,0,g]
 |f+1,p,k,t,g,r,h=>by
  let e:ev (j5 key) (kas_bin (f+1) p k)=ev (j5 key) (kas_bin f (bubble p k<|k -ev (j5 key) (kas_place p k k 0 k))<|k+1):=qh _ _ _;rw[e]at h;let[a,b,c]:=yi key p k g k 0 k om (aE _) om (λi o=>om) (λi m n=>om) _ rfl;generalize ev (j5 key) (kas_place p k k 0 k)=l at h a b c;let s:cp key (bubble p k<|k -l) (k+1):=λi j q u=>by
   rw[Nd key om om,Nd key om om,show k -(k -l)=l by lk]
   by_cases o:i=l
   .rw[aH o];by_cases d:j=l
    .rw[aH d];show lh _
    .rw[az d,aH #[om,om]];show Int.le_of_lt<|c (j -1) om om
   .rw[az o];by_cases d:j=l
    .rw[aH d,az om];show b i om
    .rw[az d];by_cases m:l<i/\i<=k
     .rw[aH m,aH #[om,om]];show g _ _ om om
     .rw[az m];by_cases n:l<j/\j<=k
      .rw[aH n];show g _ _ om om
      .rw[az n];show g _ _ q om
  let[x,y,z]:=J1 f (bubble p k<|k -l) (k+1) (by rw[bubble_size];lk) s r h
  show#[x.trans (bubble_perm _ _ _),by rw[y,bubble_size],by rw[show k+(f+1)=k+1+f by lk];show z]
def Go(n:Nat)(h:1<=n):(ev (j5 key)<|kas_sort n).Perm (List.toArray<|List.range n)/\(ev (j5 key)<|kas_sort n).size=n/\cp key (ev (j5 key)<|kas_sort n) n:=by
 let g:(List.toArray<|List.range n).size=n:=by simp
 let[a,b,c,d,e]:=J0 key (nrem:=n) (p:=List.toArray<|List.range n) h (by rw[g];show aE _) _ rfl
 unfold kas_sort;rw[qh];generalize ev (j5 key) (kas_count n<|List.toArray<|List.range n)=t at a b c d e;rw[g]at b;by_cases f:t.1<n
 .rw[aH f];let i:max t.1 1=t.1:=om;rw[i];let[x,y,z]:=J1 key (n -t.1) t.2 t.1 om e _ rfl;show#[x.trans a,by rw[y,b],by rw[show t.1+(n -t.1)=n by lk]at z;show z]
 .rw[az f];let:t.1=n:=om;rw[this]at e;show#[a,b,e]
end
def Ok{c:Type}(n:Nat)(P:c->Prop):KasT c->Prop
 |.ret a=>P a
 |.ask i j k=>i<n/\j<n/\∀b,Ok n P<|k b
def Ok.bind:∀{t:KasT d} {f:d->KasT e},Ok n P t->(∀a,P a->Ok n c (f a))->Ok n c (t.bind f)
 |.ret a,f,h,k=>k a h
 |.ask i j q,f,h,k=>#[h.1,h.2.1,λb=>Ok.bind (h.2.2 b) k]
def Ok.wp{f:Type}{lt:Nat->Nat->Bool}{n:Nat}{P:f->Prop}{S:Shared->Prop}{c:Nat->Nat->(Bool->Shared->Prop)->Shared->Prop}(h:∀i j (C:Bool->Shared->Prop) s,i<n->j<n->S s->(∀b,S b->C (lt i j) b)->c i j C s):
  ∀(t:KasT f) (Q:f->Shared->Prop) (s:Shared),Ok n P t->S s->(∀b,S b->Q (ev lt t) b)->t.kasWp c Q s
 |.ret a,Q,s,_,d,k=>k s d
 |.ask i j k,Q,s,o,d,g=>h i j _ s o.1 o.2.1 d λb e=>Ok.wp h (k<|lt i j) Q b (o.2.2 _) e g
def qz(n:Nat)(p:Array Nat):Prop:=∀x∈p,x<n
def qz.get(h:qz n p)(a:0<n)(i:Nat):p.getD i 0<n:=by
 rw[nT];cases e:p[i]?with
 |none=>show a
 |some x=>show h x<|Array.mem_of_getElem? e
def qz.perm(h:qz n p)(k:q.Perm p):qz n q:=λx a=>h x<|(Array.Perm.mem_iff k).mp a
def Fo(h:qz n p)(a:0<n):∀f m,Ok n (λ_=>True)<|kas_asc p f m
 |0,_=>trivial
 |f+1,m=>#[h.get a _,h.get a _,λb=>by
  cases b
  .show Fo h a f<|m+1
  .show trivial]
def xi(a:0<n):∀f (p:Array Nat) m q,qz n p->Ok n (λr=>qz n r.1) (kas_desc f p m q)
 |0,p,m,q,h=>h
 |f+1,p,m,q,h=>#[h.get a _,h.get a _,λb=>by
  cases b
  .show#[h.get a _,h.get a _,λc=>?_];cases c
   .show xi a f p (m+1) (q+1) h
   .show h
  .change Ok n _ (if q>0 then _ else _);split
   .show xi a f _ (m+1) 0<|h.perm<|jA _ _ _
   .show xi a f p (m+1) 0 h]
def DP(a:0<n)(h:qz n p):Ok n (λr=>qz n r.2) (kas_tail3 m r p):=
 (Fo (h.perm<|jA _ _ _) a _ _).bind λ_ _=>h.perm<|jA _ _ _
def vB(a:0<n)(h:qz n p):Ok n (λr=>qz n r.2) (kas_descPart m r p):=
 (xi a _ p _ _ h).bind λt b=>by
  split
  .show DP a<|b.perm<|jA _ _ _
  .show DP a b
def J2(a:0<n)(h:qz n p):Ok n (λr=>qz n r.2) (kas_count r p):=
 (Fo h a _ _).bind λm _=>by
  split
  .show h
  .split
   .show#[h.get a _,h.get a _,λb=>?_];cases b
    .show vB a<|h.perm<|jA _ _ _
    .show h
   .show vB a h
def yj(a:0<n)(h:qz n p):∀f l r,Ok n (λ_=>True)<|kas_place p k f l r
 |0,_,_=>trivial
 |f+1,l,r=>by
  change Ok n _ (if l>=r then _ else _);split
  .show trivial
  .show#[h.get a _,h.get a _,λb=>?_];cases b
   .show yj a h f _ _
   .show yj a h f _ _
def J3(a:0<n):∀f (p:Array Nat) k,qz n p->Ok n (λ_=>True) (kas_bin f p k)
 |0,_,_,_=>trivial
 |f+1,p,k,h=>(yj a h _ _ _).bind λl _=>J3 a f _ _<|h.perm<|bubble_perm _ _ _
def Gq(a:0<n):Ok n (λ_=>True) (kas_sort n):=
 (J2 a λx c=>by simpa using c).bind λr b=>by
  split
  .show J3 a _ _ _ b
  .show trivial
section
variable{prog:Program}{w:World}{A:Around}{E:Value->Shared->Prop}{s:Shared}
def Qs{kd:SortKind}{a:Addr}{b:List Value}{n:Nat}{P:PySem.Fin->Shared->Prop}(c:Nat->Int)(u:s.heap.get? a=some (seqObj "list" b.toArray n))(y:b.length<64)(U:0<b.length)
  (D:2<=b.length->∀{Q:SortKind->Shared->Prop},Q kd {s with heap:=sortHeap6 s.heap a b}->wpAny (model prog w) A (keyKind' b.toArray) Q E {s with heap:=sortHeap6 s.heap a b})
  (F:∀i j (C:Bool->Shared->Prop),i<b.length->j<b.length->C (decide<|c i<c j) {s with heap:=sortHeap6 s.heap a b}->wpAny (model prog w) A (keyLt' kd (b.getD i Value.none)<|b.getD j Value.none) C (λ_ _=>False) {s with heap:=sortHeap6 s.heap a b})
  (h:∀p:Array Nat,p.Perm (List.toArray<|List.range b.length)->p.size=b.length->cp c p b.length->P (.done<|.ret .none) {s with heap:=sortedHeap s.heap a b<|List.toArray (p.toList.map λi=>b.getD i Value.none)}):
  wpAny (model prog w) A (Builtin.«list.sort» #[[.ref a],[]]) P E s:=by
 let z:b.length<=sizeLine:=by rw[gV];lk
 rw[list_sort_plain];let W:a<⇑s:=ce u;show ai<|listItems_at u rfl ?_;show ai<|gr u rfl ?_ (by rw[aQ];show z)<|cH _
 let[x,q]:∃x,(s.heap.update a (Obj.mapSeq λ_=>#[])).get? a=some (seqObj "list" #[] x):=#[_,gt u λ_=>#[]];show ai<|qt q rfl ?_;show ai<|wQ ?_<|by change b.length<=_;show z
 show ai<|gM ?_<|cH _;show dR ?_;let f:(sortHeap6 s.heap a b).get? a=some (seqObj "list" #[] x):=br _<|br _ q;change wpAny (model prog w) A _ P E {s with heap:=sortHeap6 s.heap a b};dsimp only;by_cases m:b.toArray.size<2
 .rw[aH m,aH m];let d:b.length=1:=by simp at m;lk
  show ai<|aj ?_;rw[StateT.run_pure];show ai<|aj ?_;dsimp only;show ai<|qt f rfl ?_;let L:(arrOf<|SortSt.mk' general' (b.toArray.zip b.toArray) #[] 7 none).map (·.2)=List.toArray (((List.toArray [0]):Array Nat).toList.map λi=>b.getD i Value.none):=by
   let[v,0]:∃v,b=[v]:=List.length_eq_one_iff.mp d;change((List.toArray [v]).zip<|List.toArray [v]).map (·.2)=_;apply Array.toList_inj.mp;simp
  rw[L];show ai<|gr f rfl ?_ (cH _)<|by rw[aQ,ac];change 1<=sizeLine+1;decide
  simp only[me,ck,fI];show aj (h [0].toArray ?_ ?_ λi j O G=>?_)
  .rw[d];show tQ _
  .rw[d];rfl
  .rw[show i=j by lk];show lh _
 .rw[az m,az m];let o:2<=b.length:=by simp at m;lk
  show ai<|D o ?_;let t:(kas_sort b.length).kasWp (kas_ask prog w A kd b) (λp g=>p=ev (j5 c) (kas_sort b.length)/\g={s with heap:=sortHeap6 s.heap a b}) {s with heap:=sortHeap6 s.heap a b}:=
   Ok.wp (S:=λg=>g={s with heap:=sortHeap6 s.heap a b}) (lt:=j5 c) (λi j C g N G e k=>by
    subst e;show F i j C N G<|k _ rfl) _ _ _ (Gq om) rfl λg e=>#[0,e]
  show ai (ew (kat_run (Q:=λl g=>g={s with heap:=sortHeap6 s.heap a b}/\arrOf l=(ev (j5 c)<|kas_sort b.length).map (kas_item<|b.toArray.zip b.toArray)/\failedOf l=none) rfl o y (λp l g T I J K=>?_) t) ?_ λ_ _ e=>e)
  .let[0,e]:=K;show#[e,I,J]
  ext⟨⟨⟩,l⟩ g ⟨rfl,B,M⟩;dsimp only;let[R,H,S]:=Go c b.length om;let r:=kat_snds (ks:=b) (vs:=b) rfl B;rw[r];show ai<|qt f rfl ?_;show ai<|gr f rfl ?_ (cH _)<|by rw[aQ,ac,aO,H];show Bn z
  rw[M];simp only[me,ck,fI];show aj<|h _ R H S
end
end
def Qx:typeLookup (.type "list_reverseiterator") "__len__"=pure none:=by rw[kX,gL];kernel_rfl
def Qy:typeLookup (.type "list_reverseiterator") "__length_hint__"=pure (some<|.builtin "list_reverseiterator.__length_hint__"):=by rw[kX,gL];kernel_rfl
def J8(h:Vals c b):Vals c.reverse b.reverse:=by
 induction h with
 |nil=>show .nil
 |cons r t a=>rw[h9,h9];show a.append<|.cons r .nil
def OB(c:s.TypeIs (.ref z) "list_reverseiterator")(h:Q false s):wpAny (model d w) A (Builtin.List.listLengthHint<|.ref z) Q E s:=by
 show ai (hG c Qx ?_)
 wp_delta
 show eW (λa=>absurd a de) λ_=>?_;show eW (λa=>absurd a de) λ_=>?_;show ai<|hG c Qy ?_;generalize b:("list_reverseiterator.__length_hint__":String)=e
 wp_delta
 subst b;show ai<|jF (b:=true) c (by rw[isSubtype_type];kernel_rfl) ?_
 show eW (λa=>absurd a de) λ_=>?_;show eW (λ_=>?_) λa=>absurd dk a;show eW (λa=>absurd a de) λ_=>?_;show aj h
def Qz(L:A.handled=none)(B:S≠z)(P:S≠l)(O:l≠z)(x:s.heap.IsRevIter z l ((d.size:Int) -1))(M:s.heap.IsList l d)(N:d.size<=sizeLine)(h:Value)(I:s.heap.get? S=some {cls:=.type "list",data:=.seq #[] C})(H:∀q Q a c,(∀b o,b≠S->b≠z->s.heap.get? b=some o->q.get? b=some o)->q.get? S=some {cls:=.type "list",dict:=none,data:=.seq a c,slots:=#[]}->ItemsOf (λi v=>d[d.size -1 -i]?=some v) a d.size->R (.ok<|.ret h) {s with heap:=q,toks:=Q}):
  wpAny (model n w) A.in1 (Builtin.List.listExtendWith (.ref S) (.ref z) h)
   (λfin j=>match fin with|.done f=>R (.ok f) j|.again p=>p.quiet=true/\codeAny (model n w) A p R j) (λe j=>R (.error e) j) s:=by
 let m:=x.typeIs;show ai<|CV m ?_;let G:Builtin.List.listSameRef (.ref S) (.ref z)=false:=by simp[Builtin.List.listSameRef,B]
 simp only[G,show(Value.type "list_reverseiterator"==Value.type "list")=false by decide,show(Value.type "list_reverseiterator"==Value.type "tuple")=false by decide,iw,ck,fI]
 show ai<|lL x ?_;show ai<|dR<|OB m ?_;show eW (λu=>absurd u dk) λ_=>aj #[ft eM _,?_];let t:S∉[z,l]:=by simp[B,P]
 let E:((d.size:Int) -1)=(d.size:Int) -1 -((0:Nat):Int):=om;show codeAny_extend_loopS (Walks.listRev (show A.in1.handled=none from L) z l O d).toS N S t h d.size 0 _ #[] C rfl (cH _) #[cH _,by rw[<-E];show x,M] I (ItemsOf.nil _) λj a p y r k=>?_
 rw[Moved.eq_with y];show H j.heap j.toks a p (λb o J K e=>y.heap b o (λg=>?_) e) r k;let D||g:=aB.mp g
 .show J D
 .grind
def OC(C:A.handled=none)(y:S≠z)(x:S≠l)(I:l≠z)(H:s.heap.IsRevIter z l ((j.size:Int) -1))(E:s.heap.IsList l j)(G:j.size<=sizeLine)(n:s.heap.get? S=some {cls:=.type "list",data:=.seq #[]})(B:∀g t a c,(∀b o,b≠S->b≠z->s.heap.get? b=some o->g.get? b=some o)->g.get? S=some {cls:=.type "list",dict:=none,data:=.seq a c,slots:=#[]}->ItemsOf (λi v=>j[j.size -1 -i]?=some v) a j.size->R (.ok<|.ret .none) {s with heap:=g,toks:=t}):
  wpAny (model h w) A.in1 (Builtin.«list.__init__» #[[.ref S,.ref z],[]])
   (λfin m=>match fin with|.done f=>R (.ok f) m|.again u=>u.quiet=true/\codeAny (model h w) A u R m) (λe m=>R (.error e) m) s:=by
 show ai ?_;show ai<|fU n rfl<|aj ?_;show ai<|eN n rfl ?_;let p:=dW (Obj.mapSeq λ_=>(#[]:Array Value)) n rfl;let d:∀b o,b≠S->s.heap.get? b=some o->(s.heap.update S<|Obj.mapSeq λ_=>(#[]:Array Value)).get? b=some o:=λb o k e=>(eJ _ _<|bJ k).trans e;show ai<|gk ?_;show Qz C y x I (H.at λo e=>d _ _ (bJ y) e) (let #[o,F,r]:=E;#[o,d _ _ (bJ x) F,r]) G .none p λg t a c D=>B g t a c λb o k q e=>D b o k q<|d b o k e
def SG(K:Frag)(d:TA):TE:=λf H Q=>d f H λe b=>∃(a:Addr) (c:List V),e=[.ref a]/\cc K b a c/\∀l,b l=none->Q (.ref l) (upd b l<|.lst c.reverse)
def Mj(ha:PA X [e] ta)(hg:Gl X "list")(hm:X.mg "list"=none)(F:Gl X "reversed")(G:X.mg "reversed"=none)(hc:X.calm=true:=by rfl)(hs:starEach [.Call (.Name "reversed" P) [e] [] j] X.env=[(false,eval (.Call (.Name "reversed" P) [e] [] j) X.env)]:=by rfl)(he:starEach [e] X.env=[(false,eval e X.env)]:=by rfl):
  PE X (.Call (.Name "list" p) [.Call (.Name "reversed" P) [e] [] j] [] pos) (SG X.K ta):=by
 intro A s σ H Q I h;show dU<|ja I hg hm boot_list ?_ de de;show cN ?_ hs rfl;show eA<|dU<|ja I F G pB ?_ de de;show cN (dJ (ha j A s σ H _ I h) λus f #[vs,S,C,r1,q1]=>?_) he rfl;let[a,M,W,E,q]:=q1;subst W;cases r1 with
 |cons ra rr=>
  cases rr
  cases ra
  let[d,R,u,y]:=C.list E;let D:=R.length;let T:@LT.lt Nat instLTNat a ⇑f:=by let[o,n,J,_]:=u;show ce J
  show call_reversed_list u.isList<|eP ?_;show callType_codes (Q₁:=λz m=>z=.ref (f.heap.push<|revObj a<|(d.toArray.size:Int) -1).objs.size/\m={f with heap:=(f.heap.push<|revObj a<|(d.toArray.size:Int) -1).push {cls:=.type "list",data:=.seq #[]}}) zr (tu _) tK (code_list_new _ #[0,0]) λz m B=>?_;let[0,0]:=B;let k:(f.heap.push<|revObj a<|(d.toArray.size:Int) -1).objs.size=⇑f+1:=ed ..;let N:((f.heap.push<|revObj a<|(d.toArray.size:Int) -1).push {cls:=.type "list",data:=.seq #[]}).get? (f.heap.push<|revObj a<|(d.toArray.size:Int) -1).objs.size=some {cls:=.type "list",data:=.seq #[]}:=bx _ rfl;let L:∀{b o},(f.heap.push<|revObj a<|(d.toArray.size:Int) -1).get? b=some o->((f.heap.push<|revObj a<|(d.toArray.size:Int) -1).push {cls:=.type "list",data:=.seq #[]}).get? b=some o:=λe=>br _ e;let Z:(f.heap.push<|revObj a<|(d.toArray.size:Int) -1).IsRevIter ⇑f a ((d.toArray.size:Int) -1):=#[_,bx _ rfl,0,0];let nz:(f.heap.push<|revObj a<|(d.toArray.size:Int) -1).objs.size≠⇑f:=by rw[k];show iD _
  let nl:(f.heap.push<|revObj a<|(d.toArray.size:Int) -1).objs.size≠a:=om;show#[#[_,N,0],sh _ _,OC (show X.A.in1.handled=none from C.ok.hd hc) nz nl (bN T) (Z.at λo e=>L e) (let #[o,J,r]:=u.isList;#[o,L<|br _ J,r]) (by rw[aQ,<-D];show y) N λY tk g c kk hl t=>?_]
  show#[0,?_];let K:∀b o,f.heap.get? b=some o->Y.get? b=some o:=λb o e=>by
   let l:=ce e;show kk b o (by rw[k];show bN<|iT l) (bN l)<|L<|br _ e
  let v:g.toList=d.reverse:=by
   show mw λi=>?_;by_cases O:i<d.length
   .let w:i<g.size:=by rw[t.1,aQ];show O
    let U:=t.2 i g[i]<|by simp[w]
    rw[List.getElem?_reverse O,nR,hX w,<-U];simp
   .rw[jI<|by rw[aO,t.1,aQ];lk,jI<|by rw[gH];lk]
  let hv:Vals M.reverse g.toList:=by rw[v];show J8 R
  let x:M.reverse.length<=sizeLine:=by rw[gH];show y
  show#[.ref _,upd S _<|.lst M.reverse,C.laid (t':=tk) K (by rw[k];show Et _) #[x,g.toList,c,hv,by rw[R9];show hl],0,q _<|C.hok.fresh<|by rw[k];show Et _]
section
open PySem.W PySem.SeqAt
def OD(A:Around)(s:Shared)(y x:Value)(b:Bool):Prop:=∀(a:Program) (w:World) (E:Value->Shared->Prop) (Q:Value->Shared->Prop),Q (.bool b) s->wpAny (model a w) A (richCompare .Lt y x) Q E s
def rE(e l:Nat->Bool):List Nat->Bool
 |[]=>false
 |j::r=>if e j=true then rE e l r else l j
def dg:List Int->List Int->Bool
 |a::X,b::Y=>decide (a<b)||(decide (a=b)&&dg X Y)
 |_,_=>false
def jo:∀X,dg X X=false
 |[]=>rfl
 |a::X=>by simp[dg,jo X]
def lN:∀{X Y Z:List Int},dg X Y=true->dg Y Z=true->dg X Z=true
 |a::X,b::Y,c::Z,d,e=>by
  simp only[dg,fZ,be,aT]at d e|-;let d||[d,f]:=d
  .lk
  .let e||[e,g]:=e
   .show .inl om
   .show .inr #[om,lN f g]
 |[],_,_,d,_=>by simp[dg]at d
 |_::_,[],_,d,_=>by simp[dg]at d
 |_::_,_::_,[],_,e=>by simp[dg]at e
def rF:∀{X Y:List Int},X.length=Y.length->dg X Y=false->dg Y X=false->X=Y
 |[],[],_,_,_=>rfl
 |a::X,b::Y,h,c,f=>by
  let d:¬(a<b\/(a=b/\dg X Y=true)):=λz=>by
   let:dg (a::X) (b::Y)=true:=by simp only[dg,fZ,be,aT];show z
   rw[c]at this;cases this
  let g:¬(b<a\/(b=a/\dg Y X=true)):=λz=>by
   let:dg (b::Y) (a::X)=true:=by simp only[dg,fZ,be,aT];show z
   rw[f]at this;cases this
  let e:a=b:=om;subst e;let i:dg X Y=false:=by grind
  let j:dg Y X=false:=by grind
  rw[rF (by simpa using h) i j]
def yl:∀{X Y:List Int} (c d:List Int),X.length=Y.length->dg (X++c) (Y++d)=if X=Y then dg c d else dg X Y
 |[],[],_,_,_=>by simp
 |a::X,b::Y,c,d,h=>by
  change(decide (a<b)||(decide (a=b)&&dg (X++c) (Y++d)))=_;rw[yl c d<|by simpa using h]
  by_cases e:a=b
  .subst e;by_cases f:X=Y
   .subst f;simp
   .let g:¬(a::X=a::Y):=λz=>f<|by injection z
    rw[az f,az g];rfl
  .let i:¬(a::X=b::Y):=λz=>e<|by injection z
   rw[az i];change _=(decide (a<b)||(decide (a=b)&&dg X Y));rw[bE e,Sl,Sl]
def DR:∀{a b:List (List Int)},a.map List.length=b.map List.length->a.flatten=b.flatten->a=b
 |[],[],_,_=>rfl
 |X::a,Y::b,h,e=>by
  simp only[bm,tR]at h;let[c,d]:=List.append_inj e h.1;rw[c,DR h.2 d]
 |[],_::_,h,_=>by simp at h
 |_::_,[],h,_=>by simp at h
def A9:∀(a b:List (List Int)) (k:Nat),a.map List.length=b.map List.length->
  rE (λj=>decide<|a.getD (j -k) []=b.getD (j -k) []) (λj=>dg (a.getD (j -k) [])<|b.getD (j -k) []) (List.range' k a.length)=dg a.flatten b.flatten
 |[],[],k,_=>rfl
 |X::a,Y::b,k,h=>by
  simp only[bm,tR]at h;let r:=A9 a b (k+1) h.2;rw[ou,ou,yl _ _ h.1,<-r];change rE _ _ (k::List.range' (k+1) a.length)=_;let c:∀(l:List Nat),(∀j∈l,k<j)->rE (λj=>decide<|(X::a).getD (j -k) []=(Y::b).getD (j -k) []) (λj=>dg ((X::a).getD (j -k) [])<|(Y::b).getD (j -k) []) l=rE (λj=>decide<|a.getD (j -(k+1)) []=b.getD (j -(k+1)) []) (λj=>dg (a.getD (j -(k+1)) [])<|b.getD (j -(k+1)) []) l:=by
   intro l n
   induction l with
   |nil=>rfl
   |cons j l f=>
    let m:=n j<|aN ..;let g:j -k=(j -(k+1))+1:=om;let d:=f λi q=>n i<|aC _ q;let o:(X::a).getD (j -k) []=a.getD (j -(k+1)) []:=by rw[g];rfl
    let p:(Y::b).getD (j -k) []=b.getD (j -(k+1)) []:=by rw[g];rfl
    simp only[rE];rw[d,o,p]
  change(if decide ((X::a).getD (k -k) []=(Y::b).getD (k -k) [])=true then _ else _)=_;rw[Nat.sub_self,c _ λj m=>by let:=List.mem_range'.mp m;lk]
  by_cases e:X=Y
  .simp
  .simp
 |[],_::_,_,h=>by simp at h
 |_::_,[],_,h=>by simp at h
structure Cm(A:Around)(s:Shared)(x y:Value)(X Y:List Int):Prop where
 eq:EqAt A s x y (decide<|X=Y)
 lt:X≠Y->OD A s x y (dg X Y)
def Cm.int(a b:Int)(t u:Tok):Cm A s (.int a t) (.int b u) [a] [b] where
 eq:=by
  let h:=EqAt.int_int (A:=A) (s:=s) a t b u;let e:decide ([a]=[b])=(a==b):=by rw[bQ];simp
  rw[e];show h
 lt:=λd c w E Q h=>by
  show wpAny_lt_int ?_;let e:dg [a] [b]=decide (a<b):=by simp[dg]
  rw[e]at h;show h
end
section
open PySem.W PySem.SeqAt
open AutoSeq1 (wpAny_loadPart') in
def DS(l b:Addr)(a c:Array Value)(n m:Nat)(L G:Option Addr)(W K:Array (Option Value))(e r:Nat->Bool)(T:a.size=c.size):
  Meets (Builtin.«tuple.__lt__» #[[.ref l,.ref b],[]])
   (λA R s=>s.heap.get? l=some {cls:=.type "tuple",dict:=L,data:=.seq a n,slots:=W}/\s.heap.get? b=some {cls:=.type "tuple",dict:=G,data:=.seq c m,slots:=K}/\
    (∀j (t:j<a.size) (D:j<c.size),EqAt A.in1 s a[j] c[j]<|e j)/\(∀j (t:j<a.size) (D:j<c.size),e j=false->OD A.in1 s a[j] c[j] (r j))/\
    R (.ok<|.ret<|.bool<|rE e r<|List.range a.size) s):=
 .of_wp λk w A R s h=>by
  let[E,g,d,F,os]:=s;let[Q,N,P,S,h]:=h;let Z:=AutoSeq1.sub_tuple_tuple;let M:(a.toList.zip c.toList).length=a.size:=by simp;lk
  wp_walk using hH Q,hH N,wpAny_forIn_list _ (λo b J=>b.1=none/\J=#[E,g,d,F,os]/\∃i,o=(a.toList.zip c.toList).drop i/\
   R (.ok<|.ret<|.bool<|rE e r<|(List.range a.size).drop i) #[E,g,d,F,os]) _
  case turn=>
   ext⟨y,x⟩ o b J ⟨u,rfl,i,C,f⟩;let v:i<(a.toList.zip c.toList).length:=by
    let H||H:=qX i (a.toList.zip c.toList).length
    .show H
    .rw[vx H]at C;cases C
   let t:i<a.size:=M▸v;let D:i<c.size:=om;rw[pZ v]at C;injection C with B q;let z:y=a[i]:=by let:=dF Prod.fst B;simpa using this
   let U:x=c[i]:=by let:=dF Prod.snd B;simpa using this
   subst z U;let O:(List.range a.size).drop i=i::(List.range a.size).drop (i+1):=by simp[pZ,t]
   rw[O]at f;show ai<|P i t D k w _ _ ?_;cases z:e i with
   |true=>
    let p:R (.ok<|.ret<|.bool<|rE e r<|(List.range a.size).drop<|i+1) #[E,g,d,F,os]:=by
     let:rE e r (i::(List.range a.size).drop (i+1))=rE e r ((List.range a.size).drop<|i+1):=aH z;rw[this]at f;show f
    wp_walk
    show#[0,0,i+1,q,p]
   |false=>
    have p:R (.ok<|.ret<|.bool<|r i) #[E,g,d,F,os]:=by
     let:rE e r (i::(List.range a.size).drop (i+1))=r i:=az<|by rw[z];show aR
     rw[this]at f;show f
    show ai<|wpAny_rule ?_;show ai (S i t D z k w _ _ ?_)
    wp_walk
    show#[1,p]
  case fin=>
   ext⟨X,Y⟩ J ⟨u,rfl,i,C,f⟩;subst u;let I:a.size<=i:=by simp_all
   rw[vx<|by simpa using I]at f
   wp_walk
   show#[1,by simpa[Builtin.Tuple.tupleCompareSizes,T,rE]using f]
  case h=>
   show#[0,0,(0),0,by simpa using h]
end
section
open PySem.W PySem.SeqAt
def ym{a b:List (List Int)}(h:a.map List.length=b.map List.length):a.length=b.length:=by
 let:=dF List.length h;simpa using this
def J9{a b:List (List Int)}(h:a.map List.length=b.map List.length):((List.range a.length).all λj=>decide<|a.getD j []=b.getD j [])=decide (a.flatten=b.flatten):=by
 rw[bQ,c7,aT];walk
 .intro k;let e:a=b:=by
   show na (ym h) λi c d=>?_;let:=aF<|k i<|cB.mpr c;rw[bh,bh,ak c,ak d]at this;show this
  rw[e]
 .intro e j _;rw[DR h e];show aU rfl
def Cm.tuple{A:Around}{s:Shared}{l b:Addr}{f g:Array Value}{c d:List (List Int)}(D:s.heap.IsTuple l f)(C:s.heap.IsTuple b g)(H:A.units<cLine)(I:c.length=f.size)(S:d.length=g.size)(a:c.map List.length=d.map List.length)(same:l=b->c.flatten=d.flatten)
  (h:∀j (i:j<f.size) (m:j<g.size),Cm A.in1 s f[j] g[j] (c.getD j [])<|d.getD j []):Cm A s (.ref l) (.ref b) c.flatten d.flatten where
 eq:=by
  by_cases e:l=b
  .rw[aU<|same e,e];show EqAt.same _
  .let q:=RcAt.tuples D C H λj i m=>(h j i m).eq;let v:f.size=g.size:=by let:=ym a;lk
   let r:((List.range<|min f.size g.size).all (λj=>decide<|c.getD j []=d.getD j [])&&f.size==g.size)=decide (c.flatten=d.flatten):=by
    rw[<-v,Nat.min_self,<-I,J9 a];simp
   rw[r]at q;show EqAt.of_refs e q
 lt:=λO J w E Q k=>by
  let[[K,L,B,R],G,M,n,N]:=id D;let[[z,p,data2,y],o,t,P,u]:=id C;subst M N t u;let v:f.size=g.size:=by let:=ym a;lk
  let r:rE (λj=>decide<|c.getD j []=d.getD j []) (λj=>dg (c.getD j [])<|d.getD j []) (List.range f.size)=dg c.flatten d.flatten:=by
   let:=A9 c d 0 a;simp only[Nat.sub_zero]at this;rw[<-I,j2,this]
  show Gp #[_,G,0] #[_,o,0] F.slot_tuple_lt F.entry_tuple_lt (F.args_tuple_lt_2 _ _) (DS l b f g n P L p R y (λj=>decide<|c.getD j []=d.getD j []) (λj=>dg (c.getD j [])<|d.getD j []) v)
   #[G,o,λj i m=>(h j i m).eq,λj i m e=>(h j i m).lt<|cb e,?_] H
  rw[r];show#[(λx=>nomatch x),k]
structure Kc(A:Around)(s:Shared)(f:Bool)(p q:Value)(X Y:List Int):Prop where
 eq:EqAt A s p q (decide<|X=Y)
 lt:X≠Y->∀(prog:Program) (w:World) (E:Value->Shared->Prop) (Q:Bool->Shared->Prop),Q (dg X Y) s->wpAny (model prog w) A (oneLt' f p q) Q E s
def Cm.kc(c:Cm A s p q X Y):Kc A s false p q X Y:=#[c.eq,λh a w E Q k=>kat_one p q<|c.lt h a w E _ k]
def Kc.int(f:Bool)(a b:Int)(t u:Tok):Kc A s f (.int a t) (.int b u) [a] [b]:=#[(Cm.int a b t u).eq,λh c w E Q k=>oneLt_any_int (by
 let e:dg [a] [b]=decide (a<b):=by simp[dg]
 rw[e]at k;show k)]
def Ca:∀(m n:List Value) (a d:List (List Int)) (i:Nat),a.map List.length=d.map List.length->m.length=a.length->n.length=d.length->
  (∀(j:Nat) (p q:Value),m[j]?=some p->n[j]?=some q->Kc A s (b&&(i+j)==0) p q (a.getD j []) (d.getD j []))->Q (dg a.flatten d.flatten) s->KatLex f w A b false Q (m.zip n) i s
 |[],[],[],[],i,_,_,_,_,k=>k
 |p::m,q::n,X::a,Y::d,i,g,h,l,o,k=>by
  simp only[bm,tR]at g;let c:=o 0 p q rfl rfl;let r:EqAt A s p q (decide<|X=Y):=c.eq;rw[ou,ou,yl _ _ g.1]at k;show r f w _ _ ?_;by_cases e:X=Y
  .rw[aU e,aH rfl];rw[aH e]at k;show Ca m n a d (i+1) g.2 (by simpa using h) (by simpa using l) (λj v x t u=>by
    let:=o (j+1) v x (by simpa using t)<|by simpa using u
    rw[show i+(j+1)=i+1+j by lk]at this
    show this) k
  .rw[bE e,az de];rw[az e]at k;show c.lt e f w _ Q k
 |[],_::_,[],Y::d,i,g,_,_,_,_=>by simp at g
 |_::_,[],X::a,[],i,g,_,_,_,_=>by simp at g
 |[],_,X::a,_,i,_,h,_,_,_=>by simp at h
 |_::_,_,[],_,i,_,h,_,_,_=>by simp at h
 |_,[],_,Y::d,i,_,_,l,_,_=>by simp at l
 |_,_::_,_,[],i,_,_,l,_,_=>by simp at l
def J_[DecidableEq f]:∀{l m:List f},l.Nodup->(∀x,x∈l->x∈m)->l.length<=m.length
 |[],m,_,_=>cH _
 |a::l,m,b,h=>by
  rw[c9]at b;let c:=h a<|aN ..;let e:=J_ (m:=m.erase a) b.2 λx d=>(zo λz=>b.1<|by rw[<-z];show d).mpr<|h x<|aC _ d
  rw[sH c]at e;let:=i5 c;rw[aY];lk
def rank(n:Nat)(F:Nat->List Int)(i:Nat):Int:=(((List.range n).filter λj=>dg (F j)<|F i).length:Nat)
def xk(f:∀i,i<n->(F i).length=m)(d:i<n)(p:j<n):decide (rank n F i<rank n F j)=dg (F i) (F j):=by
 cases q:dg (F i) (F j)with
 |true=>
  show aU ?_;unfold rank;let sub:∀k,k∈(List.range n).filter (λk=>dg (F k)<|F i)->k∈(List.range n).filter (λk=>dg (F k)<|F j)/\k≠i:=λk a=>by
   rw[aw]at a|-;show#[#[a.1,lN a.2 q],λz=>?_];let:=a.2;rw[z,jo]at this;cases this
  let c:((List.range n).filter λk=>dg (F k)<|F i).Nodup:=tS a_ HB;let h:i∈(List.range n).filter (λk=>dg (F k)<|F j):=aw.mpr #[cB.mpr d,q];let:(i::(List.range n).filter (λk=>dg (F k)<|F i)).length<=((List.range n).filter λk=>dg (F k)<|F j).length:=by
   show J_ (c9.mpr #[λz=>(sub i z).2 rfl,c]) λx l=>?_;let e||e:=aB.mp l
   .rw[e];show h
   .show(sub x e).1
  rw[aY]at this;lk
 |false=>
  show bE ?_;unfold rank;let:((List.range n).filter λk=>dg (F k)<|F j).length<=((List.range n).filter λk=>dg (F k)<|F i).length:=by
   show J_ (tS a_ HB) λk a=>?_;rw[aw]at a|-;show#[a.1,?_];cases o:dg (F k) (F i)with
   |true=>rfl
   |false=>
    let b:=cB.mp a.1;cases g:dg (F i) (F k)with
    |true=>rw[lN g a.2]at q;cases q
    |false=>
     let e:=rF (by rw[f k b,f i d]) o g
     let:=a.2;rw[e,q]at this;cases this
  lk
end
def iu:Rep Nat:=λ_ v n=>v=.int (n:Int)
def iu.mon:Mon K iu:=λ_ _ _ _ _ h=>h
def fL:∀(l:List Nat),Paired (iu H) ((zs l).map V.int) l
 |[]=>.nil
 |_::r=>.cons rfl<|fL r
def pL:∀{a:List V} {l:List Nat},Paired (iu H) a l->a=(zs l).map V.int
 |_,_,.nil=>rfl
 |_,_,.cons h t=>by rw[show _=_ from h,pL t];rfl
abbrev stK(l:List (Nat×Nat)):List (Key×V):=l.map λp=>(ik p.1,V.int (p.2:Int))
def fG(l:List (Nat×Nat)):(stK l).map (·.1)=(l.map (·.1)).map ik:=by
 unfold stK;rw[bX,bX];rfl
def Gu:(ik n,v)∈stK l↔∃d,(n,d)∈l/\v=.int (d:Int):=by
 unfold stK;rw[ae];walk
 .ext⟨⟨a,d⟩,h,e⟩;let[b,c]:=qF e;rw[<-dw b];show#[d,h,c.symm]
 .ext⟨d,h,rfl⟩;show#[(n,d),h,0]
def ly{d g:Type}{f:d->g}{l:List d}(e:∀a b,f a=f b->a=b)(h:l.Nodup):(l.map f).Nodup:=by
 rw[oN,wU];show ip (λ{a b} c z=>c<|e a b z) h
def Cc{l:List (Nat×Nat)}(h:(l.map (·.1)).Nodup):((stK l).map (·.1)).Nodup:=by
 rw[fG];show ly (λa b e=>dw e) h
def iZ{l:List (Nat×Nat)}(a:(l.map (·.1)).Nodup){n d:Nat}(h:(n,d)∈l):cY (stK l) (ik n)=some (.int (d:Int)):=eZ (κ:=Key) (Cc a)<|Gu.mpr #[d,h,0]
def Fs(h:n∉l.map (·.1)):cY (stK l) (ik n)=none:=lu (κ:=Key) λv b=>by
 let[d,a,_]:=Gu.mp b;show h<|ae.mpr #[_,a,0]
def nv{l:List (Nat×Nat)}(c:(l.map (·.1)).Nodup){n:Nat}:(cY (stK l)<|ik n).isSome=decide (n∈l.map (·.1)):=by
 by_cases h:n∈l.map (·.1)
 .let[[a,d],b,0]:=ae.mp h;rw[iZ c b,aU h];rfl
 .rw[Fs h,bE h];rfl
def sQ{l:List (Nat×Nat)}{n d:Nat}(h:n∉l.map (·.1)):putK (stK l) (ik n) (.int (d:Int))=stK (l++[(n,d)]):=by
 rw[il _<|Fs h];unfold stK;rw[bw];rfl
section
variable{K:Frag}{CP CB:Addr}
def dD.obj(h:dD K CP CB H v s):∃a d c,v=.ref a/\H a=some (.ins CB d c)/\∀m:Str,m∉cT->c.lookup m=none:=by
 let[c,n,ld,l,i,j,k,[a,d,0,f,_],b,_]:=h;show#[a,d,c,0,f,λm g=>?_];cases e:c.lookup m with
 |none=>rfl
 |some u=>show absurd (b.names m u e) g
def dD.ok(h:dD K CP CB H v s):wY s:=let #[_,_,_,_,_,_,_,_,_,g]:=h;g.ok
def fM[DecidableEq f]:∀{l m:List f},l.Nodup->(∀x,x∈l->x∈m)->l.length<=m.length
 |[],m,_,_=>cH _
 |a::l,m,b,h=>by
  rw[c9]at b;let c:=h a<|aN ..;let e:=fM (l:=l) (m:=m.erase a) b.2 λx d=>(zo λz=>b.1<|by rw[<-z];show d).mpr<|h x<|aC _ d
  rw[sH c]at e;let:=i5 c;rw[aY];lk
def cz{s:Board}:(nodes ↥s).length<=128:=IT gU λx a=>(eV.mp a).1
structure Wk(H H':Hp)(sd rl nl:Addr)(st:List (Nat×Nat))(mY new:List Nat):Prop where
 sm:am H H'
 d:H' sd=some (.dK<|stK st)
 r:H' rl=some (.lst<|(zs mY).map V.int)
 l:H' nl=some (.lst<|(zs new).map V.int)
def Wk.same{H b c:Hp}{i g f:Addr}{st:List (Nat×Nat)}{d a:List Nat}(h:Wk H b i g f st d a)(e:am b c):Wk H c i g f st d a:=#[h.sm.trans e,e _ _ h.d,e _ _ h.r,e _ _ h.l]
def Wk.put{H f:Hp}{c e b:Addr}{st:List (Nat×Nat)}{g a:List Nat}{y d:Nat}(h:Wk H f c e b st g a)(i:H c=none)(j:H b=none)(k:e≠b):
  Wk H (upd (upd f c<|.dK<|stK<|st++[(y,d)]) b<|.lst<|(zs a).map V.int++[.int (y:Int)]) c e b (st++[(y,d)]) g (a++[y]):=by
 let l:c≠b:=su h.d h.l<|by intro z;cases z
 let m:e≠c:=su h.r h.d<|by intro z;cases z
 show#[am.upd (am.upd h.sm i) j,?_,?_,?_]
 .rw[aA l];show ag
 .rw[aA k,aA m];show h.r
 .rw[ag];simp[zs]
def gl(K:Frag)(CP CB:Addr):Sp:=λe H Q _=>∃(d:V) (s:Board) (n:Nat),e=[d,.int (n:Int)]/\dD K CP CB H d s/\n∈nodes ↥s/\
 ∀c a b,am H c->H a=none->c a=some (.dK<|stK b)->ju ↥s n b->Q (.ref a) c
def Cd(T:Facts K mg CP CB):Df P w K mg base 2 "steps_from" ["board","start"] (gl K CP CB):=by
 show T.CJ.dx ["board","start","steps","rim","count","reached","number","other"] λf cdv A outer s H vs Q E hr Z hu h=>?_;let[vb,s,n,0,S,hn,k]:=h;let ok:=cD S.ok;let lvl:∀{c:Nat} {st:List (Nat×Nat)} {l:List Nat},Lv ↥s n c st l->st.length<=(nodes ↥s).length:=λ{c st l} L=>by
  let h1:=fM L.nd λx hx=>ij<|L.key.mp hx;rw[ac]at h1;show h1
 show#[_,(af (aS 2 Z<|LZ (Jx (pv 1) aI LY) rfl rfl de de)
  (af (aS 3 Z<|cR<|aa (pv 1) ah)
  (af (aS 4 Z aI)
  (af (m7 cm (ct oB (bC (mL K) SY T.Bt.len boot_len<|aa (pv 3) ah) aI) (af (aS 4 Z<|ad (pv 4) aI)
  (af (aS 5 Z<|cR ah)
  (af (dZ cm rfl (oE K<|pv 3) (bF 6 Z)
  (ao (dZ cm rfl (oE K<|met (z8 T) T.c8.cls hr (pv 0)<|aa (pv 6) ah) (bF 7 Z)
  (ao (cF (n6<|jP hu (pv 7)<|pv 2) (af (gO hu (pv 2) (pv 7) (pv 4) rfl)
  (ao<|dL<|JJ (pv 5)<|pv 7)) bA)))))
  (ao<|aS 3 Z<|pv 5)))))
  (ao<|aM<|pv 2))))),?_]
 show λF hsd=>#[1,ag,[(ik n,.int 0)],0,(by change 1<=15;decide),?_]
 rw[p8];let s0:am H (upd H F<|.dK<|ug [] [(ik n,.int 0)]):=am.new hsd;show#[1,c6,λo N=>?_];let nrs:o≠F:=λz=>by rw[z,ag]at N;cases N
 let Y:H o=none:=by rw[aA nrs]at N;show N
 let' W:Nat->St->Hp->Prop:=λm I C=>∃(c:Nat) (st:List (Nat×Nat)) (l:List Nat) (o:Addr) (v5 v6 G:Option V),I=[some vb,some<|.int (n:Int),some<|.ref F,some<|.ref o,some<|.int (c:Int),v5,v6,G]/\am H C/\H o=none/\C F=some (.dK<|stK st)/\C o=some (.lst<|(zs l).map V.int)/\Lv ↥s n c st l/\
  m=2*((nodes ↥s).length -st.length)+(if l=[]then 0 else 1)
 show#[W,#[_,(0),[(n,0)],[n],o,none,none,none,0,am.upd s0 Y,Y,?_,ag,Lv.start ok.so hn,0],?_]
 .rw[aA<|bJ nrs];show ag
 ext m I H1 ⟨c,st,l,o,v5,v6,G,rfl,s1,hr0,hd1,hr1,L,rfl⟩;show#[1,o,1,.inl<|cc.of hr1,_,1,0,1,cg (λt1=>?_) λt1=>?_]
 .let hne:l≠[]:=by
   intro z;subst z;simp at t1
  show#[λσ' C=>∃m',m'<2*((nodes ↥s).length -st.length)+(if l=[]then 0 else 1)/\W m' σ' C,λσ' C q=>q,?_];show#[1,_,1,0,?_];show#[cH _,λD hnl=>?_];let J:H D=none:=s1.free hnl;let nrn:o≠D:=cI hr1 hnl;let w0:Wk H (upd H1 D<|.lst []) F o D (st++([]:List Nat).map λy=>(y,c+1)) l []:=by
   show#[am.upd s1 J,?_,?_,ag]
   .rw[aA<|cI hd1 hnl,iP,nQ];show hd1
   .rw[aA nrn];show hr1
  let snd:∀{d:List Nat},d.Nodup->(∀y,y∈d->y∉st.map (·.1))->((st++d.map λy=>(y,c+1)).map (·.1)).Nodup:=λ{d} h1 h2=>by
   rw[bw,bX,di];show#[L.nd,?_,λa ha b S z=>?_]
   .rw[show((λp:Nat×Nat=>p.1)∘λy=>(y,c+1))=id from rfl,f9];show h1
   .rw[show((λp:Nat×Nat=>p.1)∘λy=>(y,c+1))=id from rfl,f9]at S;show h2 b S<|z▸ha
  let B:∀{d:List Nat} {y:Nat},y∈(st++d.map λy=>(y,c+1)).map (·.1)↔y∈st.map (·.1)\/y∈d:=λ{d y}=>by
   rw[bw,bX,aG,show((λp:Nat×Nat=>p.1)∘λy=>(y,c+1))=id from rfl,f9]
  show#[1,o,0,#[_,cc.of w0.r],?_];show dh (src_list (K:=K) (R:=iu) (a:=o) (vs:=(zs l).map V.int) (xs:=l)) (λi I C=>∃(d:List Nat) (v6 G:Option V),I=[some vb,some<|.int (n:Int),some<|.ref F,some<|.ref o,some<|.int<|(c:Int)+1,some<|.ref D,v6,G]/\Wk H C F o D (st++d.map λy=>(y,c+1)) l d/\d.Nodup/\∀y,y∈d↔y∉st.map (·.1)/\∃x∈l.take i,y∈neighbours ↥s x)
   #[[],v6,G,0,w0,.nil,λy=>by simp] (λi I C _ z=>let #[_,_,_,_,w,_]:=z;#[cc.of w.r,fL l]) ?_ ?_
  .ext i x v I H2 H3 hx ⟨d,v6,G,rfl,w2,nd2,O⟩ s3 r3;let 0:=r3;let w3:=w2.same s3;let hxn:x∈nodes ↥s:=ij<|L.key.mp<|ae.mpr #[_,(L.mY x).mp<|aX hx,0];let hb3:=S.same w3.sm;let[ba,bdx,bfs,0,bo,bn]:=hb3.obj;show#[1,ba,bdx,bfs,0,bo,bn _ dk,1,_,s,x,0,hb3,hxn,λH4 tl s4 htl e4=>?_];let w4:=w3.same s4;let ntn:tl≠D:=λz=>by rw[z,w3.l]at htl;cases htl
   show#[tl,0,#[_,cc.of e4],?_];show dh (src_list (K:=K) (R:=iu) (a:=tl) (vs:=(zs<|neighbours ↥s x).map V.int) (xs:=neighbours ↥s x)) (λj I C=>∃(d:List Nat) (G:Option V),I=[some (.ref ba),some<|.int (n:Int),some<|.ref F,some<|.ref o,some<|.int<|(c:Int)+1,some<|.ref D,some<|.int (x:Int),G]/\Wk H C F o D (st++d.map λy=>(y,c+1)) l d/\C tl=some (.lst<|(zs<|neighbours ↥s x).map V.int)/\d.Nodup/\∀y,y∈d↔y∉st.map (·.1)/\((∃x'∈l.take i,y∈neighbours ↥s x')\/y∈(neighbours ↥s x).take j))
    #[d,G,0,w4,e4,nd2,λy=>by rw[O y];simp] (λj I C _ z=>let #[_,_,_,_,e,_]:=z;#[cc.of e,fL _]) ?_ ?_
   .ext j y v I H5 H6 hy ⟨d,G,rfl,w5,e5,M,u⟩ s6 r6;let 0:=r6;let R:=w5.same s6;let e6:=s6 _ _ e5;let tk:(neighbours ↥s x).take (j+1)=(neighbours ↥s x).take j++[y]:=by rw[cM,hy];rfl
    let hsn:=snd M λz hz=>((u z).mp hz).1;show#[2,F,1,cP.k (k:=ik y) R.d,1,?_];rw[nv hsn];show cg (λt2=>?_) λt2=>?_
    .let hno:y∉(st++d.map λy=>(y,c+1)).map (·.1):=by simpa using t2
     let X:=λz=>hno<|B.mpr z;let U:(stK (st++d.map λy=>(y,c+1))).length<sizeLine:=by
      let l1:=fM hsn (m:=nodes ↥s) λz hz=>by
       let q||q:=B.mp hz
       .show ij<|L.key.mp q
       .let[x',_,q]||q:=((u z).mp q).2
        .show ok.mem q
        .show ok.mem<|iB q
      let l2:=cz (s:=s);rw[ac]at l1;unfold stK;rw[ac];show bi (aL l1 l2) de
     let nll:((zs d).map V.int).length<sizeLine:=by
      rw[stK,ac,aW,ac]at U;rw[ac,zs,ac];lk
     let nsn:F≠D:=su R.d R.l<|by intro z;cases z
     show#[3,F,1,lT.k (k:=ik y) R.d U,?_];rw[show(V.int<|(c:Int)+1)=V.int ((c+1:Nat):Int)from rfl,sQ hno];show#[1,.inl #[0,_,cc.of<|by rw[aA<|bJ nsn];show R.l],1,D,_,1,0,(by rw[aA<|bJ nsn];show R.l),nll,?_]
     let w7:=R.put (y:=y) (d:=c+1) hsd J nrn;let eap:st++d.map (λy=>(y,c+1))++[(y,c+1)]=st++(d++[y]).map λy=>(y,c+1):=by simp
     rw[eap]at w7|-;show#[d++[y],1,w7,?_,?_,λz=>?_]
     .rw[aA ntn,aA<|su e6 R.d<|by intro z;cases z];show e6
     .rw[di];show#[M,by simp,λa ha b S z=>by simp at S;subst S;subst z;show X<|.inr ha]
     .rw[aG,u,tk,aG];walk
      .ext(⟨t,g⟩|q)
       .show#[t,g.imp id .inl]
       .simp at q;subst q;show#[λq=>X<|.inl q,.inr<|.inr<|by simp]
      .ext⟨t,g|g|g⟩
       .show .inl #[t,.inl g]
       .show .inl #[t,.inr g]
       .show .inr g
    .let hin:y∈(st++d.map λy=>(y,c+1)).map (·.1):=by simpa using t2
     show#[d,1,R,e6,M,λz=>?_];rw[u,tk,aG];walk
     .ext⟨t,g⟩;show#[t,g.imp id .inl]
     .ext⟨t,g|g|g⟩
      .show#[t,.inl g]
      .show#[t,.inr g]
      .simp at g;subst g;let q||q:=B.mp hin
       .show absurd q t
       .show(u z).mp q
   .ext I H5 ⟨d,G,rfl,w5,e5,M,u⟩;show#[d,_,1,w5,M,λy=>?_];let tk:l.take (i+1)=l.take i++[x]:=by rw[cM,hx];rfl
    rw[u,bK,tk];simp only[aG,aP];walk
    .ext⟨t,⟨x',g,q3⟩|g⟩
     .show#[t,x',.inl g,q3]
     .show#[t,x,.inr rfl,g]
    .ext⟨t,x',g|g,q3⟩
     .show#[t,.inl #[x',g,q3]]
     .show#[t,.inr<|g▸q3]
  .ext I H2 ⟨d,v6,G,rfl,w2,nd2,O⟩;rw[bK]at O;let L2:=L.next ok nd2 O
   let ll:=lvl L2;show#[1,_,?_,c+1,_,d,D,_,_,1,w2.sm,J,w2.d,w2.l,L2,0];rw[az hne];rw[aW,ac]at ll|-;cases d with
   |nil=>simp
   |cons a r=>rw[az<|by simp];rw[aY]at ll|-;lk
 .let hre:l=[]:=by
   cases l with
   |nil=>rfl
   |cons a r=>simp at t1
  subst hre;show#[1,k _ _ _ s1 hsd hd1<|L.done ok]
end
def pM:∀(a:List Int),(a.map λn=>[n]).flatten=a
 |[]=>rfl
 |n::r=>by rw[bm,ou,pM r];rfl
def nw(k:KeepsTups h c)(t:h.IsTuple a e):c.IsTuple a e:=let #[o,d,b,r]:=t;#[o,k a o d b,b,r]
def Ka{X:Cx}{e:List (Addr×Obj)}{M:St}{H:Hp}{x s:Shared}(I:Inv X e M H x)(k:KeepsTups x.heap s.heap){A:Around}(F:A.units<cLine){a b:Addr}{i l:List V}(o:gT X.K H a i)(r:gT X.K H b l){Xs Ys:List (List Int)}
  (P:Xs.length=i.length) (Q:Ys.length=l.length) (E:Xs.map List.length=Ys.map List.length) (same:i=l->Xs.flatten=Ys.flatten)
  (h:∀(j:Nat) (v w:V) (u g:Value),i[j]?=some v->l[j]?=some w->RelV v u->RelV w g->Cm A.in1 s u g (Xs.getD j []) (Ys.getD j [])):Cm A s (.ref a) (.ref b) Xs.flatten Ys.flatten:=by
 let[m,t,p,_]:=I.tuple o;let[n,f,q,_]:=I.tuple r;let N:=t.length;let O:=f.length;show Cm.tuple (nw k p) (nw k q) F (by simp;lk) (by simp;lk) E (λz=>?_) λj C D=>?_
 .subst z;show same<|I.m6 o r
 .let c:j<i.length:=by simp at C;lk
  let d:j<l.length:=by simp at D;lk
  let[u,G,K]:=t.get<|ak c;let[g,J,L]:=f.get<|ak d;let y:m.toArray[j]=u:=by grind
  let B:n.toArray[j]=g:=by grind
  rw[y,B];show h j _ _ u g (ak c) (ak d) K L
def yn(r:RelV (.int a) u)(c:RelV (.int b) e):Cm A s u e [a] [b]:=by
 let[t,0]:=r;let[d,0]:=c;show Cm.int a b t d
def sR{X:Cx}{o:List (Addr×Obj)}{M:St}{H:Hp}{z s:Shared}(I:Inv X o M H z)(k:KeepsTups z.heap s.heap){A:Around}(G:A.units<cLine){v w:V}{f d:List Int}(h:IsT X.K H v f)(B:IsT X.K H w d)(y:f.length=d.length){u x:Value}(r:RelV v u)(J:RelV w x):Cm A s u x f d:=by
 let[a,0,E]:=h;let[b,0,F]:=B;cases r
 cases J
 let q:=Ka I k G E F (Xs:=f.map λn=>[n]) (Ys:=d.map λn=>[n]) SX SX (by rw[bX,bX];change List.map (λ_=>1) f=List.map (λ_=>1) d;rw[Rv,Rv,y]) (λe=>by
  rw[pM,pM];let:f=d:=by
   show na y λi C D=>?_;let c:=dF (λl=>l[i]?) e;simp[C,D]at c;show c
  show this) λj v w u x g c K L=>?_
 .rw[pM,pM]at q;show q
 .rw[aZ]at g c;cases p:f[j]?with
  |none=>rw[p]at g;cases g
  |some n=>
   cases t:d[j]?with
   |none=>rw[t]at c;cases c
   |some m=>
    rw[p]at g;rw[t]at c;cases g
    cases c
    rw[bh,bh,aZ,aZ,p,t];show yn K L
def Nf(p:Pt):List Int:=[p.x,p.y]
def A_(e:Pt×Pt):List (List Int):=[Nf e.1,Nf e.2,[(bU e).l],[(bU e).b],[(bU e).r],[(bU e).t]]
def Kb(x:(Int×Int)×(Pt×Pt)):List (List Int):=[[x.1.1,x.1.2],(A_ x.2).flatten]
def Ml{X:Cx}{m:List (Addr×Obj)}{W:St}{H:Hp}{D s:Shared}(I:Inv X m W H D)(k:KeepsTups D.heap s.heap){A:Around}(p:A.units+1<cLine){v w:V}{e f:Pt×Pt}(h:eK X.K H v e)(N:eK X.K H w f){u E:Value}(r:RelV v u)(Q:RelV w E):Cm A s u E (A_ e).flatten (A_ f).flatten:=by
 let[a,Y,Z,0,O,q,t]:=h;let[b,w1,w2,0,P,B,C]:=N;cases r
 cases Q
 let l:=p;show Ka I k (hZ p) O P rfl rfl rfl (λz=>?_) λj v w x y c d g i=>?_
 .simp only[tR,V.int.injEq,xp]at z;let[F,G,R,S,T,U]:=z;let L:Nf e.1=Nf f.1:=by
   let[[J,n,t1],_]:=q;let[[K,o,t2],_]:=B;rw[n,o]at F;cases F
   let:=I.m6 t1 t2;simp only[bm,iP,tR,V.int.injEq,xp]at this;unfold Nf;rw[this.1,this.2]
  let M:Nf e.2=Nf f.2:=by
   let[[J,n,t1],_]:=t;let[[K,o,t2],_]:=C;rw[n,o]at G;cases G
   let:=I.m6 t1 t2;simp only[bm,iP,tR,V.int.injEq,xp]at this;unfold Nf;rw[this.1,this.2]
  unfold A_;rw[L,M,R,S,T,U]
 .match j with
  |0=>cases c;cases d;show sR I k l q.1 B.1 rfl g i
  |1=>cases c;cases d;show sR I k l t.1 C.1 rfl g i
  |2=>cases c;cases d;show yn g i
  |3=>cases c;cases d;show yn g i
  |4=>cases c;cases d;show yn g i
  |5=>cases c;cases d;show yn g i
  |j+6=>simp at c
def Ft(K:Frag):Rep ((Int×Int)×(Pt×Pt)):=λH v x=>∃t a b,v=.ref t/\gT K H t [a,b]/\ki K H a x.1/\eK K H b x.2
def Ft.mon:Mon K (Ft K):=λ_ _ _ _ t #[a,d,f,e,h,b,c]=>#[a,d,f,e,t _ _ h,ki.mon _ _ _ _ t b,eK.mon _ _ _ _ t c]
def QA(I:Inv X G σ H s0)(k:KeepsTups s0.heap s.heap)(F:A.units+2<cLine)(h:Ft X.K H v x)(Z:Ft X.K H v' y)(r:RelV v u)(r':RelV v' u')(q:Q (dg (Kb x).flatten (Kb y).flatten) s):wpAny (model J w) A (keyLt' (tuples' false) u u') Q E s:=by
 let[a,N,O,0,ha,p1,p2]:=h;let[b,P,R,0,hb,q1,q2]:=Z;cases r
 cases r'
 let[z,M,p,_]:=I.tuple ha;let[B,g,p',_]:=I.tuple hb;let[o1,o,_,n1,l]:=nw k p;let[o2,t,_,n2,m]:=nw k p';let C:=M.length;let D:=g.length;show kat_lt o l t m ?_;let Y:decide (z.toArray.size<B.toArray.size)=false:=by grind
 rw[Y];show Ca _ _ (Kb x) (Kb y) 0 rfl (by simp at C|-;show C.symm) (by simp at D|-;show D.symm) (λj c d g1 g2=>?_) q
 let n:j<2:=by grind
 let e:∃i,[N,O][j]?=some i:=#[[N,O][j],ak n];let f:∃i,[P,R][j]?=some i:=#[[P,R][j],ak n];let[i,e]:=e;let[w0,f]:=f;let[S,hc',K]:=M.get e;let[T,hd',L]:=g.get f;let U:S=c:=by grind
 let W:T=d:=by grind
 subst U W
 match j,n with
 |0,_=>cases e;cases f;show(sR I k (hZ<|hZ F) p1 q1 rfl K L).kc
 |1,_=>cases e;cases f;show(Ml I k (hZ F) p2 q2 K L).kc
def Mm(x y:(Int×Int)×(Pt×Pt)):Prop:=dg (Kb y).flatten (Kb x).flatten=false
def HC(K:Frag):List V->Hp->VK->Prop:=λf H Q=>∃(a:Addr) (d:List V) (c:List ((Int×Int)×(Pt×Pt))),f=[V.ref a]/\cc K H a d/\Paired (Ft K H) d c/\0<d.length/\d.length<64/\
 ∀(e:List V) (b:List ((Int×Int)×(Pt×Pt))) (p:Addr),Paired (Ft K H) e b->b.Perm c->b.Pairwise Mm->H p=none->Q (.ref p) (upd H p<|.lst e)
def Mn:(Int×Int)×(Pt×Pt):=((0,0),(#[(0),(0)],#[(0),(0)]))
def Ng(a:List ((Int×Int)×(Pt×Pt)))(i:Nat):List Int:=(Kb<|a.getD i Mn).flatten
def Mo(x:(Int×Int)×(Pt×Pt)):(Kb x).flatten.length=10:=rfl
def Gv(a:List ((Int×Int)×(Pt×Pt)))(i:Nat):(Ng a i).length=10:=Mo _
def Ke(h:a[i]?=some x):Ng a i=(Kb x).flatten:=by unfold Ng;rw[bh,h];rfl
def yo{e c:Type}[Inhabited c]{F:e->c->Prop}{a:List e}{b:List c}{d:e}{f:c}(h:Paired F a b):∀(l:List Nat),(∀i∈l,i<a.length)->Paired F (l.map λi=>a.getD i d) (l.map λi=>b.getD i f)
 |[],_=>.nil
 |i::l,g=>by
  let m:=g i<|aN ..;let k:i<b.length:=by rw[<-h.length];show m
  show .cons ?_ (yo h l λj n=>g j<|aC _ n);let[v,o,r]:=qf h<|ak k;change F (a.getD i d) (b.getD i f);rw[bh,bh,o,ak k];show r
def yp{b:Type}{a:List b}{d:b}{l:List Nat}(h:l.Perm (List.range a.length)):(l.map λi=>a.getD i d).Perm a:=by
 let e:(List.range a.length).map (λi=>a.getD i d)=a:=by
  show na SX λi f c=>?_
  rw[Np,GV,bh,ak c];rfl
 let:=h.map λi=>a.getD i d;rw[e]at this;show this
def rG(h:Vals a e):∀(l:List Nat),(∀i∈l,i<a.length)->Vals (l.map λi=>a.getD i d) (l.map λi=>e.getD i d')
 |[],_=>.nil
 |i::l,c=>by
  let b:=c i<|aN ..;show .cons ?_ (rG h l λj f=>c j<|aC _ f);let[u,g,r]:=h.get<|ak b;change RelV (a.getD i d) (e.getD i d');rw[bh,bh,g,ak b];show r
open PySem.W in
def DT{X:Cx}{g:List (Addr×Obj)}{P:St}{H:Hp}{w s:Shared}(I:Inv X g P H w)(k:KeepsTups w.heap s.heap):∀{x:List V} {m:List Value} {d:List ((Int×Int)×(Pt×Pt))},Vals x m->Paired (Ft X.K H) x d->∃c:List Value,KatTups s.heap m c/\c.length=m.length/\∀v∈c,Looks (model X.prog X.w) s.heap (typeOf v)<|.type "tuple"
 |[],_,[],.nil,.nil=>#[[],trivial,0,λv j=>by cases j]
 |_::_,_,_::_,.cons r t,.cons q p=>by
  let[c,y,z,A]:=DT I k t p;let[a,S,T,0,B,K,Q]:=q;cases r
  let[d,N,L,_]:=I.tuple B;let[o,F,D,n,E]:=nw k L;cases N with
  |cons M R=>
   rename_i f u;let[b,0,C]:=K;cases M
   show#[.ref b::c,KatTups.cons F D E SX y,by simp[z],λv j=>?_]
   let e||e:=aB.mp j
   .subst e;let[G,O,l,_]:=I.tuple C;let[J,i,h,_]:=nw k l;show PySem.W.kitAt_ty _ _ #[J,i,h]
   .show A v e
section
variable{X:Cx}
def HD{k:Nat}(hr:eg k X.A):gJ X (.builtin "sorted") (HC X.K):=by
 intro S s σ H vs us Q I r h;let[a,z,c,0,hs,B,h0,h64,q]:=h;rw[Vals.uc r];let[b,D,pl,P]:=I.list hs;let F:=D.length;let L:=B.length;let hun:=hr.units;let G:0<b.length:=om;let n:b.length<64:=om;show zw kind_sorted plain_sorted entry_sorted (args_sorted1 _) ?_;show ai<|aj ?_;show ai<|collect_list pl.isList ?_<|by rw[<-F];show P
 show ai<|gM ?_<|by rw[<-F];show P
 let y:((s.heap.push<|seqObj "list" #[] 0).update ⇑s<|Obj.mapSeq (·++b.toArray)).objs.size=⇑s+1:=by rw[tr,kw]
 let l:(((s.heap.push<|seqObj "list" #[] 0).update ⇑s<|Obj.mapSeq (·++b.toArray)).push<|seqObj "list" b.toArray 0).get? (⇑s+1)=some (seqObj "list" b.toArray 0):=by
  rw[<-y];show bx _ rfl
 let w:(s.heap.push<|seqObj "list" #[] 0).get? ⇑s=some (seqObj "list" #[] 0):=bx _ rfl;let k0:KeepsTups s.heap (((s.heap.push<|seqObj "list" #[] 0).update ⇑s<|Obj.mapSeq (·++b.toArray)).push<|seqObj "list" b.toArray 0):=
  ((KeepsTups.push _ _).trans<|KeepsTups.update _ w not_tuple_list).trans (KeepsTups.push _ _)
 let R:=k0.trans<|keeps_sort6 (vs:=b) l;rw[y];let m:∀i,i<b.length->∃v u x,z[i]?=some v/\b[i]?=some u/\c[i]?=some x/\RelV v u/\Ft X.K H v x:=λi d=>by
  let g:i<z.length:=om;let o:i<c.length:=om;let[u,hu,ru]:=D.get<|ak g;let[v,A,rx]:=qf B<|ak o;rw[ak g]at A;cases A
  show#[_,u,_,ak g,hu,ak o,ru,rx]
 show ai (dR<|eh slot_list_sort #[_,l,0] Lk (Qs (kd:=tuples' false) (rank b.length<|Ng c) l n G ?kk ?lt λp p1 e p3=>#[1,?fin]) (args_list_sort _))
 case kk=>
  intro h2 Q hq;let[fs,f1,f2,f3]:=DT (s:={s with heap:=sortHeap6 (((s.heap.push<|seqObj "list" #[] 0).update ⇑s<|Obj.mapSeq (·++b.toArray)).push<|seqObj "list" b.toArray 0) (⇑s+1) b}) I R D B;show kat_kind f1 om f3 rfl hq
 case lt=>
  intro i j C d f O;let[v,u,x,e1,e2,e3,r1,n1]:=m i d;let[v',U,x',Z,e2',E,M,K]:=m j f;let g1:b.getD i Value.none=u:=by grind
  let g2:b.getD j Value.none=U:=by grind
  rw[g1,g2];show QA (s:={s with heap:=sortHeap6 (((s.heap.push<|seqObj "list" #[] 0).update ⇑s<|Obj.mapSeq (·++b.toArray)).push<|seqObj "list" b.toArray 0) (⇑s+1) b}) I R (by change X.A.units+1+1+2<cLine;lk) n1 K r1 M ?_
  let N:=xk (λi d=>Gv c i) d f;rw[N,Ke e3,Ke E]at O;show O
 case fin=>
  let T:p.toList.Perm (List.range b.length):=by
   let:=Array.perm_iff_toList_perm.mp p1;simpa using this
  let lt':∀i∈p.toList,i<z.length:=λi d=>by
   let:=cB.mp<|T.mem_iff.mp d;lk
  show aj #[1,?_];let A:=rG D (d:=.ic) (d':=Value.none) p.toList lt';let[ep,J]:=rc s.heap b<|List.toArray (p.toList.map λi=>b.getD i Value.none);let t:(p.toList.map λi=>z.getD i .ic).length<=sizeLine:=by grind
  show#[.ref _,upd H (⇑s+1)<|.lst (p.toList.map λi=>z.getD i .ic),I.laid (t':=s.toks) (λ_ _=>pp) (Et _) #[t,_,ep,A,J],0,q _ (p.toList.map λi=>c.getD i Mn) _ ?_ ?_ ?_<|I.hok.fresh<|Et _]
  .show@yo _ _ #[Mn] _ _ _ .ic Mn B p.toList lt'
  .show yp ?_;rw[<-L,F];show T
  .rw[jL];intro i j d f hij;rw[ac,aO,e]at d f;rw[Np,Np];let gi:p.getD i 0=p.toList[i]'(by rw[aO,e];show d):=by simp_all
   let gj:p.getD j 0=p.toList[j]'(by rw[aO,e];show f):=by simp_all
   let U:rank b.length (Ng c) (p.toList[i]'(by rw[aO,e];show d))<=rank b.length (Ng c) (p.toList[j]'(by rw[aO,e];show f)):=by grind
   let W:p.toList[i]'(by rw[aO,e];show d)<b.length:=by let:=lt' _ (lP<|by rw[aO,e];show d);lk
   let Y:p.toList[j]'(by rw[aO,e];show f)<b.length:=by let:=lt' _ (lP<|by rw[aO,e];show f);lk
   let N:=xk (λi d=>Gv c i) Y W;change dg (Ng c _) (Ng c _)=false;rw[<-N];show bE om
end
def Nh(b:oT):Prop:= -1000000000<=b.l/\b.l<=1000000000/\ -1000000000<=b.b/\b.b<=1000000000/\ -1000000000<=b.r/\b.r<=1000000000/\ -1000000000<=b.t/\b.t<=1000000000
def Gw(c:Int):∀(l:List Int) (x:Int),c<=x->(∀y∈l,c<=y)->c<=l.foldl (λm y=>if y<m then y else m) x
 |[],x,a,_=>a
 |y::l,x,a,h=>Gw c l _ (by dsimp only;split;show h y<|aN ..;show a) λz b=>h z<|aC _ b
def rX(c:Int):∀(l:List Int) (x:Int),x<=c->(∀y∈l,y<=c)->l.foldl (λm y=>if m<y then y else m) x<=c
 |[],x,a,_=>a
 |y::l,x,a,h=>rX c l _ (by dsimp only;split;show h y<|aN ..;show a) λz b=>h z<|aC _ b
def Gx(b:l≠[])(h:∀y∈l,c<=y):c<=zG l:=by
 match l,b with
 |x::r,_=>show Gw c r x (h x<|aN ..) λy a=>h y<|aC _ a
def Gy(b:l≠[])(h:∀y∈l,y<=c):zH l<=c:=by
 match l,b with
 |x::r,_=>show rX c r x (h x<|aN ..) λy a=>h y<|aC _ a
def yq(d:a≠[])(h:∀p∈a,Rg p):Nh (bM a):=by
 let[p,g]:=pW _ d;let i:=dP g;let e:a.map (·.x)≠[]:=by simpa using d
 let f:a.map (·.y)≠[]:=by simpa using d
 let j: -1000000000<=(bM a).l:=Gx e λy c=>by let[q,b,0]:=ae.mp c;show(h q b).1
 let k: -1000000000<=(bM a).b:=Gx f λy c=>by let[q,b,0]:=ae.mp c;show(h q b).2.2.1
 let l:(bM a).r<=1000000000:=Gy e λy c=>by let[q,b,0]:=ae.mp c;show(h q b).2.1
 let m:(bM a).t<=1000000000:=Gy f λy c=>by let[q,b,0]:=ae.mp c;show(h q b).2.2.2
 unfold Nh;lk
def Ce(b:Rg e.1)(c:Rg e.2):Nh (bU e):=yq SX λp a=>by
 simp only[aB,cA,k8]at a;let 0||0:=a<;>assumption
section
variable{K:Frag}
def nB(K:Frag):Sp:=λj H Q _=>∃(h i:V) (f:List (Pt×Pt)) (b:oT),j=[h,i]/\JS K H h f/\jd K H i b/\Nh b/\f≠[]/\f.length<64/\
 ∀d a g c,am H d->H a=none->d a=some (.lst g)->Paired (Ft K d) g c->c.Perm (f.map λe=>(um (bU e) b,e))->c.Pairwise Mm->Q (.ref a) d
def vW(T:Facts K mg CP CB):Df P w K mg B 2 "nearest_first" ["sides","box"] (nB K):=by
 show T.wG.dx ["sides","box","side"] λf U A o s H vs Q E I J hu h=>?_;let[va,vb,W,b,0,[a,us,0,C,X],Y,rb,m,hlt,k]:=h;show#[_,(ao<|aM<|bC (HD I) SY T.Bt.sorted boot_sorted<|aa (ke rfl J (oE K<|pv 0) (cZ (own:=[("side",2)])<|by kernel_rfl) (λ_ _ _ _ _=>(bF 2 J)) (λ_ _ _ _ _=>g_) λ_ _ _ _ _=>(eI<|aa (du (ya T) I<|aa (Qj K (pv 2) (fT aI) iC)<|aa (pv 1) ah)<|aa (pv 2) ah)) ah),?_]
 show rA<|Qh<|vj<|vM ?_;show#[1,a,0,#[_,C],?_];show lG (K:=K) (src_list (xs:=W)) Ft.mon (λe=>(um (bU e) b,e)) om (λH' s=>#[s.seq C,cO eK.mon (am.ts s) X]) ?_ ?_
 .ext e v g Q1 he j ⟨d,u,x,rfl,F,L,M⟩ k1;show#[0,?_];show#[2,d,1,F,(by intro z;show absurd z.1 (show¬jJ 6 0 (some 2)=0 by decide)),λc Z=>?_]
  let i:am g (upd g c<|.tup<|jb [u,x,.int (bU e).l,.int (bU e).b,.int (bU e).r,.int (bU e).t] (some 2) none):=am.new Z;let q:jd K (upd g c<|.tup<|jb [u,x,.int (bU e).l,.int (bU e).b,.int (bU e).r,.int (bU e).t] (some 2) none) (.ref c) (bU e):=#[c,0,gT.of ag];let sr:=Ce L.2 M.2;let r3:eK K g (.ref d) e:=#[d,u,x,0,F,L,M];unfold Nh at sr rb;show#[1,_,_,_,1,q,jd.mon _ _ _ _ (am.ts<|j.trans i) Y,om,om,λy R O r5=>?_];show#[1,da,λt ht=>?_];let r:am y (upd y t<|.tup [R,.ref d]):=am.new ht;show k1 _ _ ((i.trans O).trans r) #[t,R,.ref d,0,gT.of ag,ki.mon _ _ _ _ (am.ts r) r5,eK.mon _ _ _ _ (am.ts<|(i.trans O).trans r) r3]
 .intro g D l j hD e N;let hl:=N.length;rw[ac]at hl;let h0:=SU.mpr m;show#[D,l,1,cc.of e,N,om,om,λS n p q1 q2 q3 G=>?_];let i:am g (upd g p<|.lst S):=am.new G;show k _ _ S n (j.trans i) (j.free G) ag (cO Ft.mon (am.ts i) q1) q2 q3
def Kf(h:Mm x y):x.1.1<=y.1.1:=by
 unfold Mm at h;let e:dg (Kb y).flatten (Kb x).flatten=(decide (y.1.1<x.1.1)||(decide (y.1.1=x.1.1)&&dg ([y.1.2]++(A_ y.2).flatten++[]) ([x.1.2]++(A_ x.2).flatten++[]))):=rfl;rw[e,Bq,k9]at h;lk
def pN(f:Rg p)(g:Rg a)(h:Rg b):(hU p a b).1<2^200:=by
 let c:=Fh f g;let d:=Fh f h;let i:=big c.1 c.1;let j:=big c.2 c.2;let k:=big d.1 d.1;let l:=big d.2 d.2;let t:=xC g h f;let e:turnOf a b p=(b.x -a.x)*(p.y -a.y) -(b.y -a.y)*(p.x -a.x):=rfl;unfold hU;split
 .lk
 .split
  .lk
  .change((b.x -a.x)*(p.y -a.y) -(b.y -a.y)*(p.x -a.x))*((b.x -a.x)*(p.y -a.y) -(b.y -a.y)*(p.x -a.x))<2^200;rw[<-e];let:=Qo (a:=turnOf a b p) (b:=turnOf a b p) t.1 t.2 t.1 t.2;lk
def Mp(f:Rg a)(g:Rg b)(h:Rg c)(i:Rg d):∀x∈fu a b c d,x.1<2^200:=by
 intro x j;unfold fu at j;simp only[aB,cA,k8]at j;let e||e||e||e:=j
 .subst e;show pN f h i
 .subst e;show pN g h i
 .subst e;show pN h f g
 .subst e;show pN i f g
def GI.start(t:k≠[])(u:l≠[])(m:∀p∈k,Rg p)(i:∀p∈l,Rg p)(j:p∈k)(b:q∈l):GI k l (hU p q q) (λ_ _=>False):=by
 show#[sK (m p j) (i q b) (i q b),pN (m p j) (i q b)<|i q b,?_,λ_ _ _ _ z=>z.elim];let[e,o,a]:=oX j;let[f,r,n]:=oX b;let g:∀z:Int,0<=z*z:=λz=>by
  by_cases h:0<=z
  .show bD h h
  .let:=bD (a:= -z) (b:= -z) om om
   rwa [jr]at this
 let same:hU p q q=((p.x -q.x)*(p.x -q.x)+(p.y -q.y)*(p.y -q.y),1):=by
  unfold hU;rw[wh,wh,dX,dX,aH om]
 let le:∀c d:Pt,(q=c\/q=d)->h_ (hU p c d) (hU p q q):=λc d h=>by
  rw[same];unfold h_ hU;let s:(p.x -d.x)*(p.x -d.x)+(p.y -d.y)*(p.y -d.y)=(p.x -c.x)*(p.x -c.x)+(p.y -c.y)*(p.y -c.y) -2*((p.x -c.x)*(d.x -c.x)+(p.y -c.y)*(d.y -c.y))+((d.x -c.x)*(d.x -c.x)+(d.y -c.y)*(d.y -c.y)):=by grind
  let x:=g<|(p.x -c.x)*(d.x -c.x)+(p.y -c.y)*(d.y -c.y);let y:=g<|((p.x -c.x)*(d.x -c.x)+(p.y -c.y)*(d.y -c.y)) -((d.x -c.x)*(d.x -c.x)+(d.y -c.y)*(d.y -c.y));let v:=g<|d.x -c.x;let w:=g<|d.y -c.y;let h||h:=h
  .subst h;split
   .simp only[k_];lk
   .split
    .simp only[k_];lk
    .grind
  .subst h;split
   .simp only[k_];lk
   .split
    .simp only[k_];lk
    .grind
 show#[e,o,f,r,hU p f.1 f.2,?_,le f.1 f.2 n];unfold fu;simp only[aB,cA,k8];let a||a:=a
 .rw[<-a];show .inl rfl
 .rw[<-a];show .inr<|.inl rfl
end
def j6(e:Pt×Pt):Lh (bU e) e.1/\Lh (bU e) e.2:=#[dP SX,dP<|by simp]
def HE:gq D b s=cC (bO b D) s:=by
 rw[bQ,kP,gy];change _↔b.l -D<=s.r/\s.l<=b.r+D/\b.b -D<=s.t/\s.b<=b.t+D;lk
def GI.take(g:GI k l m d)(t:e∈edges k)(u:f∈edges l)(n:∀p∈k,Rg p)(o:∀p∈l,Rg p):h_ (lH e.1 e.2 f.1 f.2 m) m/\GI k l (lH e.1 e.2 f.1 f.2 m) (λi j=>d i j\/(i=e/\j=f)):=by
 let[v,w]:=dz t;let[y,A]:=dz u;let[a,b,c]:=Hy (a:=e.1) (b:=e.2) (c:=f.1) (d:=f.2) g.sq.1 g.sq.2.1;let h:Sq (lH e.1 e.2 f.1 f.2 m):=by
  let c||c:=c
  .rw[c];show g.sq
  .show yd (n _ v) (n _ w) (o _ y) (o _ A) _ c
 show#[a,h,?_,?_,λi q j r z x s=>?_]
 .let c||c:=c
  .rw[c];show g.low
  .show Mp (n _ v) (n _ w) (o _ y) (o _ A) _ c
 .let c||c:=c
  .rw[c];show g.some
  .show#[e,t,f,u,_,c,lv _]
 .let z||[0,0]:=z
  .show gh h.2.1 g.sq.2.1 (pJ x s).2 a<|g.Pf i q j r z x s
  .show b x s
def GI.skip(g:GI k l m d)(h:h_ m (um (bU e)<|bU f)):GI k l m (λa b=>d a b\/(a=e/\b=f)):=by
 show#[g.sq,g.low,g.some,λa c b i z x j=>?_];let z||[0,0]:=z
 .show g.Pf a c b i z x j
 .show gh g.sq.2.1 (by change(0:Int)<1;decide) (pJ x j).2 h<|xg (j6 a).1 (j6 a).2 (j6 b).1 (j6 b).2 x j
def OE(k:0<D)(g:Sq b)(h:b.1<D*D*b.2)(j:0<m.2)(c:h_ m b)(d:gq D (bU e) (bU f)=false):h_ m (um (bU e)<|bU f):=by
 rw[HE]at d;let i:=A7 om d;show gh j g.2.1 (by change(0:Int)<1;decide) c ?_
 change b.1*1<=(um (bU e)<|bU f).1*b.2;let a:D*D*b.2<=(um (bU e)<|bU f).1*b.2:=bR om<|by let:=g.2.1;lk
 lk
def GI.fin(g:GI k l m d)(h:∀e∈edges k,∀f∈edges l,d e f\/h_ m (um (bU e)<|bM l)):sN k l m:=by
 show#[g.sq,λe c f a x b=>?_,g.some];let z||z:=h e c f a
 .show g.Pf e c f a z x b
 .let[i,j]:=dz a;show gh g.sq.2.1 (by change(0:Int)<1;decide) (pJ x b).2 z<|xg (j6 e).1 (j6 e).2 (qg i) (qg j) x b
section
variable{K:Frag}{CP:Addr}
def qQ(K:Frag)(CP:Addr):Sp:=λd H Q _=>∃(b c:V) (p q:Pc),d=[b,c]/\oO K CP H b p/\oO K CP H c q/\∀a v m,am H a->ki K a v m->sN p.pts q.pts m->Q v a
def Cf(T:Facts K mg CP CB):Df P w K mg base 5 "gap_square" ["piece","other"] (qQ K CP):=by
 show T.CN.dx ["piece","other","least","square","side","opposites","opposite"] λf cdv A outer s H vs Q E W nd hu h=>?_;let[va,vb,p,q,0,[fs,o1,R],[gs,o2,S],k]:=h;let[x1,y1,z1]:=R.placed.box;let[x2,y2,F]:=S.placed.box;let[m1,n1,g1]:=R.placed.oW;let[m2,n2,g2]:=S.placed.oW;let[w1,t1,pa,pus,0,hpS,hpP]:=R.placed.pts;let[w2,t2,qa,qus,0,hqS,hqP]:=S.placed.pts;let el1:=aL (jR (ps:=p.pts)) R.placed.n9;let el2:=aL (jR (ps:=q.pts)) S.placed.n9;let rk:=R.placed.rg;let rl:=S.placed.rg;let[p0,pr,hp0]:=qm R.placed.ne;let[q0,qr,hq0]:=qm S.placed.ne;let[u0,hu0,ru0]:=im hpP (i:=0) (x:=p0)<|by rw[hp0];rfl
 let[v0,hv0,rv0]:=im hqP (i:=0) (x:=q0)<|by rw[hq0];rfl
 let at0:∀{us:List V} {u:V},us[0]?=some u->AW us 0=some u:=λh=>bH (j:=0) h;show#[_,(af (aS 2 nd<|du (yb T) W<|aa (iR K (fv K 0) aI)<|aa (iR K (fv K 1) aI)<|aa (iR K (fv K 1) aI) ah)
  (af (kh (i:=5) rfl nd rfl rfl (ma rfl rfl rfl rfl) (oE K<|du (vW T) W<|aa (fv K 1)<|aa (fv K 0) ah) (cZ (own:=[("square",3),("side",4)])<|by kernel_rfl) (λ_ _ _ _ _=>(Le K 2<|dC (bF 3 nd)<|dC (bF 4 nd) jZ)) (λ_ _ _ _ _=>g_) λ_ _ _ _ _=>(pv 4))
  (af (dZ cm rfl (oE K<|du (vW T) W<|aa (fv K 0)<|aa (fv K 1) ah) (Le K 2<|dC (bF 3 nd)<|dC (bF 4 nd) jZ)
  (af (cF (dG<|cV<|du (zV T) W<|aa (pv 3)<|aa (pv 2) ah) (ao Ja) bA)
  (ao (dZ cm rfl (oE K<|du (uo T) W<|aa (pv 5)<|aa (Qj K (pv 4) (fT aI) iC)<|aa (du (B0 T) W<|aa (pv 2) ah) ah) (bF 6 nd)
  (ao<|cF (cV<|du (zV T) W<|aa (du (ya T) W<|aa (Qj K (pv 4) (fT aI) iC)<|aa (Qj K (pv 6) (fT aI) iC) ah)<|aa (pv 2) ah) (ao<|aS 2 nd<|du (vR T) W<|aa (ti K 4)<|aa (ti K 4)<|aa (ti K 6)<|aa (ti K 6)<|aa (pv 2) ah) bA)))))
  (ao<|aM<|pv 2)))),?_]
 show#[1,_,_,_,o1,t1,pa,_,(0),u0,0,0,hpS,at0 hu0,1,_,_,_,o2,t2,qa,_,(0),v0,0,0,hqS,at0 hv0,1,_,_,_,o2,t2,qa,_,(0),v0,0,0,hqS,at0 hv0,?_];show#[_,_,_,p0,q0,q0,0,ru0,rv0,rv0,λH1 B s1 rm=>?_];dsimp only[dQ];show zU<|vM ?_;let bq:=yq S.placed.ne rl;let bp:=yq R.placed.ne rk;let ne1:=bI R.placed.ne;let ne2:=bI S.placed.ne;show#[1,_,_,_,iU.same o2 s1,n2,1,_,_,_,iU.same o1 s1,y1,_,_,edges q.pts,bM p.pts,0,g2.same eK.mon s1,jd.mon _ _ _ _ (am.ts s1) z1,bp,ne2,om,λH2 ol ous I s2 hol e2 pr2 pm2 _=>#[ol,0,#[_,cc.of e2],?_]];let ojl:I.length<100000:=by rw[pm2.length_eq,ac];lk
 show lG (K:=K) (src_list (R:=Ft K) (vs:=ous) (xs:=I)) eK.mon (λx=>x.2) ojl (λH' s=>#[cc.of (s _ _ e2),cO Ft.mon (am.ts s) pr2]) ?_ ?_
 .ext x v H3 Q1 hx s3 ⟨t,vq,vs,rfl,ht,rq,rs⟩ kk;show#[t,1,ht,0,_,1,_,1,0,0,1,kk _ _ (am.refl _) rs]
 intro H3 op acc s3 hop e3 pr3;let fsm:∀f,f∈I.map (·.2)↔f∈edges q.pts:=λf=>by
  let:=(pm2.map (·.2)).mem_iff (a:=f);rw[bX]at this;rw[this];simp
 let fsl:(I.map (·.2)).length<=100:=by rw[ac,pm2.length_eq,ac];lk
 generalize I.map (·.2)=fo at pr3 fsm fsl;let y:=(s1.trans s2).trans s3;show#[1,_,_,_,iU.same o1 y,n1,1,_,_,_,iU.same o2 y,y2,_,_,edges p.pts,bM q.pts,0,g1.same eK.mon y,jd.mon _ _ _ _ (am.ts y) F,bq,ne1,om,λH4 jl jus r s4 hjl e4 pr4 pm4 srt=>#[jl,0,#[_,cc.of e4],?_]];let s14:=y.trans s4;let jm:∀x,x∈r↔∃e∈edges p.pts,x=(um (bU e)<|bM q.pts,e):=λx=>by
  rw[pm4.mem_iff,ae];show#[λ#[e,a,b]=>#[e,a,b.symm],λ#[e,a,b]=>#[e,a,b.symm]]
 let rm4:=ki.mon _ _ _ _ (am.ts<|(s2.trans s3).trans s4) rm;let op4:=s4 _ _ e3;let pr34:=cO eK.mon (am.ts s4) pr3;let G0:GI p.pts q.pts (hU p0 q0 q0) (λe f=>e∈(r.take 0).map (·.2)):=(GI.start R.placed.ne S.placed.ne rk rl (by rw[hp0];simp)<|by rw[hq0];simp).weak λe f z=>by simp at z
 show dh (src_list (K:=K) (R:=Ft K) (a:=jl) (vs:=jus)) (λi σ H'=>∃B m v3 v4 v6,σ=[some va,some vb,some B,v3,v4,some<|.ref op,v6]/\am H4 H'/\ki K H' B m/\GI p.pts q.pts m (λe f=>e∈(r.take i).map (·.2)))
  #[B,_,_,_,1,am.refl _,rm4,G0] (λi σ H' _ #[_,_,_,_,_,_,s,_]=>#[cc.of (s _ _ e4),cO Ft.mon (am.ts s) pr4]) ?_ ?_
 .ext i x v σ H5 H6 hx ⟨B,m,v3,v4,v6,rfl,s5,rm5,G⟩ s6 ⟨t,vq,vs,rfl,ht,rq,rs⟩;let[e,he,0]:=(jm x).mp<|aX hx;let tk:r.take (i+1)=r.take i++[(um (bU e)<|bM q.pts,e)]:=by rw[cM,hx];rfl
  let s56:=s5.trans s6;let Z:=ki.mon _ _ _ _ (am.ts s6) rm5;show#[t,1,ht,0,_,1,_,1,0,?_];show#[2,_,_,um (bU e)<|bM q.pts,m,0,rq,Z,#[by change(0:Int)<1;decide,by change(1:Int)<2^64;decide],#[G.sq.2.1,G.sq.2.2],1,cg (λt1=>?_) λt1=>?_]
  .let nlt:mO (um (bU e)<|bM q.pts) m=false:=by
    cases z:mO (um (bU e)<|bM q.pts) m with
    |false=>rfl
    |true=>unfold mO at z;rw[z]at t1;simp at t1
   show#[1,k _ _ m (s14.trans s56) Z (G.fin λl C f hf=>?_)];let U:(um (bU l)<|bM q.pts,l)∈r:=(jm _).mpr #[l,C,0];let[j,hj,ej]:=iA.mp U;by_cases hji:j<i
   .left;show ae.mpr #[_,fc.mpr #[j,om,ej],0]
   .right;let h1:=rD nlt;let[hi,ei]:=aJ.mp hx;let h2:(um (bU e)<|bM q.pts).1<=(um (bU l)<|bM q.pts).1:=by
     by_cases hjj:i=j
     .subst hjj;rw[ei]at ej;let:=dF (λz=>z.1.1) ej;simp only at this;lk
     .let:=jL.mp srt i j hi hj om;rw[ei,ej]at this;show Kf this
    show gh G.sq.2.1 (by change(0:Int)<1;decide) (by change(0:Int)<1;decide) h1 ?_
    change _*1<=_*1;lk
  .let[d,u1,u2,0,hd,p1,p2]:=rs;show#[3,d,1,hd,(by intro z;show absurd z.1 (show¬jJ 6 0 (some 2)=0 by decide)),λc hc=>?_]
   let s7:am H6 (upd H6 c<|.tup<|jb [u1,u2,.int (bU e).l,.int (bU e).b,.int (bU e).r,.int (bU e).t] (some 2) none):=am.new hc;let rb7:jd K (upd H6 c<|.tup<|jb [u1,u2,.int (bU e).l,.int (bU e).b,.int (bU e).r,.int (bU e).t] (some 2) none) (.ref c) (bU e):=#[c,0,gT.of ag];let s57:=s56.trans s7;show#[1,_,m,0,ki.mon _ _ _ _ (am.ts s7) Z,G.sq,G.low,λD hD0 hD1 hDm=>?_];show#[_,_,fo,bU e,D,0,#[op,acc,0,cc.of<|s57 _ _ op4,cO eK.mon (am.ts s57) pr34],rb7,fsl,λH8 v8 s8 r8=>?_];let[nl,nus,0,hS8,hP8]:=r8;let s58:=s57.trans s8;let hd8:=am.ts (K:=K) (s7.trans s8) _ _ hd;let p18:=p1.same<|s7.trans s8;let p28:=p2.same<|s7.trans s8;show#[nl,0,#[_,hS8],?_];show dh (src_list (K:=K) (R:=eK K) (a:=nl) (vs:=nus)) (λj σ H'=>∃B M v6,σ=[some va,some vb,some B,some vq,some<|.ref d,some<|.ref op,v6]/\am H8 H'/\ki K H' B M/\h_ M m/\GI p.pts q.pts M (λl f=>l∈(r.take i).map (·.2)\/(l=e/\f∈(b_ fo (bU e) D).take j)))
    #[B,m,1,am.refl _,ki.mon _ _ _ _ (am.ts<|s7.trans s8) Z,lv _,G.weak λl f z=>by simpa using z] (λj σ H' _ #[_,_,_,_,s,_]=>#[s.seq hS8,cO eK.mon (am.ts s) hP8]) ?_ ?_
   .ext j f v σ H9 N hf ⟨B,M,v6,rfl,s9,rm9,Y,o⟩ s10 ⟨d2,w1,w2,rfl,hd2,q1,q2⟩;let hfo:f∈fo:=(aw.mp<|aX hf).1;let hfe:=(fsm f).mp hfo;let tk':(b_ fo (bU e) D).take (j+1)=(b_ fo (bU e) D).take j++[f]:=by rw[cM,hf];rfl
    let n:=s9.trans s10;let hd10:=am.ts (K:=K) n _ _ hd8;show#[2,d,1,hd10,(by intro z;show absurd z.1 (show¬jJ 6 0 (some 2)=0 by decide)),λc2 hc2=>?_]
    let s11:am N (upd N c2<|.tup<|jb [u1,u2,.int (bU e).l,.int (bU e).b,.int (bU e).r,.int (bU e).t] (some 2) none):=am.new hc2;let rb11:jd K (upd N c2<|.tup<|jb [u1,u2,.int (bU e).l,.int (bU e).b,.int (bU e).r,.int (bU e).t] (some 2) none) (.ref c2) (bU e):=#[c2,0,gT.of ag];generalize (upd N c2<|.tup<|jb [u1,u2,.int (bU e).l,.int (bU e).b,.int (bU e).r,.int (bU e).t] (some 2) none)=O at s11 rb11;show#[2,d2,1,am.ts (K:=K) s11 _ _ hd2,(by intro z;show absurd z.1 (show¬jJ 6 0 (some 2)=0 by decide)),λc3 hc3=>?_]
    let s12:am O (upd O c3<|.tup<|jb [w1,w2,.int (bU f).l,.int (bU f).b,.int (bU f).r,.int (bU f).t] (some 2) none):=am.new hc3;let rb12:jd K (upd O c3<|.tup<|jb [w1,w2,.int (bU f).l,.int (bU f).b,.int (bU f).r,.int (bU f).t] (some 2) none) (.ref c3) (bU f):=#[c3,0,gT.of ag];generalize (upd O c3<|.tup<|jb [w1,w2,.int (bU f).l,.int (bU f).b,.int (bU f).r,.int (bU f).t] (some 2) none)=H12 at s12 rb12;let se:Nh (bU e):=Ce p1.2 p2.2;let sf:Nh (bU f):=Ce q1.2 q2.2;unfold Nh at se sf;show#[_,_,_,1,jd.mon _ _ _ _ (am.ts s12) rb11,rb12,om,om,λH13 vq13 y r13=>?_];let g:=s11.trans<|s12.trans y;let J:=ki.mon _ _ _ _ (am.ts<|s10.trans g) rm9;let h13:=am.ts (K:=K) g _ _ hd2;let h13e:=am.ts (K:=K) (n.trans g) _ _ hd8;show#[1,_,_,um (bU e)<|bU f,M,0,r13,J,#[by change(0:Int)<1;decide,by change(1:Int)<2^64;decide],#[o.sq.2.1,o.sq.2.2],1,cg (λt2=>?_) λt2=>?_]
    .show#[_,_,1,h13e,0,_,_,1,h13e,0,_,_,1,h13,0,_,_,1,h13,0,1,?_];show#[_,_,_,_,_,e.1,e.2,f.1,f.2,M,0,p18.same<|n.trans g,p28.same<|n.trans g,q1.same g,q2.same g,J,o.sq,λH14 v14 s14' r14=>?_];let[a1,a2]:=o.take he hfe rk rl;let sq':=a2.sq;show#[v14,_,1,n.trans<|g.trans s14',r14,gh sq'.2.1 o.sq.2.1 G.sq.2.1 a1 Y,a2.weak λl L z=>?_];rw[tk']at z;let z||[z1,F]:=z
     .show .inl<|.inl z
     .let F||F:=aG.mp F
      .show .inl<|.inr #[z1,F]
      .show .inr #[z1,by simpa using F]
    .let nlt:mO (um (bU e)<|bU f) M=false:=t2;show#[B,M,1,n.trans g,J,Y,(o.skip<|rD nlt).weak λl L z=>?_];rw[tk']at z;let z||[z1,F]:=z
     .show .inl<|.inl z
     .let F||F:=aG.mp F
      .show .inl<|.inr #[z1,F]
      .show .inr #[z1,by simpa using F]
   .ext σ H9 ⟨B,M,v6,rfl,s9,rm9,Y,o⟩;rw[bK]at o;show#[B,M,_,_,1,s58.trans s9,rm9,o.sq,o.low,o.some,λl C L hf' z xx X=>?_];rw[tk,bw,aG]at z;let z||z:=z
    .show o.Pf l C L hf' (.inl z) xx X
    .let ee:l=e:=by simpa using z
     subst ee;by_cases U:L∈b_ fo (bU l) D
     .show o.Pf l C L hf' (.inr #[0,U]) xx X
     .let hn:gq D (bU l) (bU L)=false:=by
       cases zz:gq D (bU l) (bU L)with
       |false=>rfl
       |true=>show absurd (aw.mpr #[(fsm L).mpr hf',zz]) U
      let fg:=OE hD0 G.sq hDm o.sq.2.1 Y hn;show gh o.sq.2.1 (by change(0:Int)<1;decide) (pJ xx X).2 fg<|xg (j6 l).1 (j6 l).2 (j6 L).1 (j6 L).2 xx X
 .ext σ H5 ⟨B,m,v3,v4,v6,rfl,s5,rm5,G⟩;rw[bK]at G;show#[1,k _ _ m (s14.trans s5) rm5 (G.fin λl C f hf=>.inl ?_)];show ae.mpr #[_,(jm _).mpr #[l,C,0],0]
end
def DU{K:Type}[DecidableEq K](a:List (K×Addr×Value))(k:K):List (K×Addr×Value):=a.filter λx=>decide<|x.1≠k
def Gz[DecidableEq K]:∀{b:List (K×Addr×Value)} {j:Nat} {k:K} {p:Addr×Value},(b.map (·.1)).Nodup->b[j]?=some (k,p)->DU b k=b.eraseIdx j
 |[],_,_,_,_,h=>by simp at h
 |x::r,0,k,p,a,h=>by
  rw[bm,c9]at a;let e:x=(k,p):=by simpa using h
  subst e;unfold DU;rw[tT<|by simp,List.eraseIdx_cons_zero]
  show Eu.mpr λy f=>?_;let:y.1≠k:=λz=>a.1<|ae.mpr #[y,f,z];simpa using this
 |x::r,j+1,k,p,a,h=>by
  rw[bm,c9]at a;let d:r[j]?=some (k,p):=by simpa using h
  let c:x.1≠k:=λz=>a.1<|by rw[z];show ae.mpr #[(k,p),aX d,0]
  unfold DU;rw[M0<|by simpa using c,MY]
  let:=Gz a.2 d;unfold DU at this;rw[this]
def sS(f:b->c):∀(a:List b) (j:Nat),(a.eraseIdx j).map f=(a.map f).eraseIdx j
 |[],_=>rfl
 |_::_,0=>rfl
 |x::r,j+1=>by rw[MY,bm,bm,MY,sS f r j]
def KT.cut(r:KT H a d)(k:List Key):KT H (eY a k) (DU d k):=by
 unfold eY DU
 induction r with
 |nil=>show .nil
 |@cons p q f g b t c=>
  by_cases e:p.1=k
  .grind
  .rw[M0<|by simp[e],M0<|by simp[<-b.1,e]]
   show .cons b c
section
variable{prog:Program}{w:World}{K:Type}[DecidableEq K]{knd:HeapKind prog w K}{A:Around}{E:Value->Shared->Prop}{s:Shared}{d a:Addr}{k:K}{xs:List (K×Addr×Value)}
def HF(r:knd.room A)(c:knd.is s.heap k a)(z:s.heap.DictOfH knd d xs)(l:atKey xs k=some p)(B:xs.length<=sizeLine)(v:∀e m,e.val=p.2->m.DictOfH knd d (DU xs k)->Heap.SameBut d s.heap m->Q (some e) {s with heap:=m,toks:=s.toks+knd.draws k}):
  wpAny (model prog w) A (Builtin.Dict.takeOut d<|.ref a) Q E s:=by
 let[o,u,t,g,y,b,h,f,i]:=z;unfold Builtin.Dict.takeOut
 try with_reducible show dR ?_
 show ai<|knd.pyHash r c<|ai<|wpAny_dictFind_heap r c g b h f i ?_ ?_
 .intro q;rw[atKey_none_of_get q]at l;cases l
 .intro j F n;rw[atKey_of_get i n]at l;cases l
  let D:u.size<=sizeLine:=by let:=kZ h;lk
  show ai<|fe g b ?_;rw[entry_at h j,n];show ai (wpAny_updateDictKeys g b (aj (v _ _ rfl #[_,_,t+1,
   dW _ g (Obj.isFreed_of_dict<|Obj.data_mapDictKeys b _),y.mapDictKeys _,Obj.data_mapDictKeys b _,?_,?_,?_] (dn ..))))
  .rw[Gz i n,sS,<-h];simp
  .intro x C;show knd.keeps (f x (aw.mp C).1) g b<|dn ..
  .show List.Sublist.nodup (No _ a_) i
def Fu:MeetsIn prog w (Builtin.«dict.pop» #[[.ref d,.ref a],[]]) (λA R s=>knd.room A.in1/\∃k xs p,knd.is s.heap k a/\s.heap.DictOfH knd d xs/\atKey xs k=some p/\xs.length<=sizeLine/\
   ∀b,b.DictOfH knd d (DU xs k)->Heap.SameBut d s.heap b->R (.ok<|.ret p.2) {s with heap:=b,toks:=s.toks+knd.draws k}):=
 .of_wp λA R s #[y,k,xs,p,c,i,r,n,h]=>by
  let[o,f,z,x,D,g,u,v,F]:=id i;let l:f.isEmpty=false:=by
   cases q:f.isEmpty with
   |false=>rfl
   |true=>
    let B:f.size=0:=by simpa using q
    let C:=kZ u;let t:xs=[]:=f_.mp om;subst t;cases r
  show ai ?_;show ai<|I_ i.typeIs ?_;show aj ?_;show ai<|fe x g<|ai<|aj ?_;rw[l];show ai (HF y c i r n λe b ev j m=>?_);show ai<|gk<|aj #[e.val,0,by rw[ev];show h b j m]
end
def OF(M:A.units+1<cLine)(I:Inv X g P H s)(e:H a=some (.dT d))(x:H b=some (.tup<|k.map kV))(l:cY d k=some v)(h:∀i u,Inv X g P (upd H a<|.dT<|eY d k) u->RelV v i->Q i u):wpAny (model X.prog X.w) A (PySem.call (.builtin "dict.pop") [.ref a,.ref b]) Q E s:=by
 let[z,J,w,f,o]:=Jt I.hok e;let[i,N,n]:=mZ.some_of<|by rw[<-l];show f.val k
 let[p,K,m]:=i9.mp N;let O:w.length<=sizeLine:=by rw[<-eH f];show z
 show ky QR o.typeIs vf (ub _ _) (Fu) #[tupleKind_room_in1 M,k,w,p,rj I.hok x,o,K,O,λR j L=>?_];rw[m];show h i _ ?_ n;let[q,B,y,t,C,D,F,_,G]:=j;show qd I (by rw[e];show True.intro) L #[q,t] #[aL (Dy d k) z,J,_,(KT.cut f k).keeps λc S r=>?_,q,B,y,t,C,D,F,G]
 rw[aA<|su r e λz=>nomatch z];show r
def OG(g ty:TE):TE:=λf H Q=>g f H λx e=>∃a,x=.ref a/\P_ e a/\ty f e λy d=>∃c k v b,d a=some (.dT c)/\y=.ref b/\d b=some (.tup<|k.map kV)/\cY c k=some v/\Q v (upd d a<|.dT<|eY c k)
def Kh(D:X.A.units+1<cLine)(C:PE X o N)(B:PE X e ty)(m:M1 X o "pop" f e r):PE X (.Call (.Attribute o "pop" f) [e] [] r) (OG N ty):=by
 intro c s j H Q I h;show fQ m.base m.n9 m.line MZ QR wN (dJ (C c s j H _ I h) λu M #[x,n,i,K,a,z,d,G]=>?_);subst z;let 0:u=Value.ref a:=K;let[t1,t2,_]:=BO i d;show#[t1,t2,?_];rw[m.trees];show eL rfl<|fV<|eA (dJ (B c M j n _ i G) λE P #[y,O,p,L,F,k,v,b,t,A,w,l,J]=>eP ?_);subst A;let 0:E=Value.ref b:=L;show OF D p t w l λS R q g=>#[v,_,q,g,J]
def Fv(C:A.handled=none)(c:Addr)(p:d≠c)(g:o.data=.dict f z):
  Walks y w A c [c,d] [c] f.size (λi v=>∃t,f[i]?=some t/\v=t.key) (λi h=>h.IsKeyIter c d i f.size z/\h.get? d=some o) where
 sub:=λb a=>by simp at a;subst a;simp
 frame:=λi h j st k=>by
  let[[F,q,r],B]:=st;show#[#[F,k c SX _ q,r],k d SX _ B]
 item:=λi s Q E D st m=>by
  let l:f[i]?=some f[i]:=by simp[D]
  show qK st.1 st.2 g rfl l λj n u=>m _ j s.toks #[_,l,0] #[n,(u.2 d p).trans st.2] λb x a e=>(u.2 b<|by simpa using a).trans e
 done:=λs Q E st m=>n_ C st.1 st.2 g rfl (aE _) λj l=>m j s.toks λb x a e=>l b x (by simpa using a) e
 self:=λi s Q E st h=>wpAny_pyIter_keyiter st.1 h
def Ki(lo:(d==sysModules)=false)(c:o.ExactDict)(b:o.data=.dict g m):KdlSrc j w "dict" d d g.size (λi v=>∃f,g[i]?=some f/\v=f.key) (λh=>h.get? d=some o) where
 type:=λ_ a=>#[o,a,c.1]
 there:=λ_ a=>#[ce a,ce a]
 keep:=λ_ _ a l=>l d (.inl rfl) o a
 notList:=de
 notTuple:=de
 hint:=λ_ _ _ _ a e=>PySem.W.kdl_hint_dict #[o,a,c.1] e
 iter:=λA s k a=>#[_,_,(λ_ _ e=>qe lo a c b e),Fv k _ (bN<|ce a) b,#[#[_,bx _ rfl,0,0],br _ a]]
def GA(H:Hp)(c:List V)(a:List (List Key×V)):Prop:=Paired (λv b=>∃q,v=V.ref q/\H q=some (.tup<|b.1.map kV)) c a
def yr:∀{a:List (List Key×V)} {b:List (List Key×Addr×Value)},KT H a b->GA H (b.map λx=>V.ref x.2.1) a
 |_,_,.nil=>.nil
 |_,_,.cons h t=>.cons #[1,h.2.1] (yr t)
def Ba:∀(a:List Addr) (l:List Value),l.length=a.length->(∀(j:Nat) (v:Value),l[j]?=some v->∃q,a[j]?=some q/\v=.ref q)->Vals (a.map V.ref) l
 |[],[],_,_=>.nil
 |[],_::_,h,_=>by cases h
 |_::_,[],h,_=>by cases h
 |x::a,v::l,h,g=>by
  let[q,e,b]:=g 0 v rfl;let c:x=q:=by simpa using e
  show .cons (by rw[b,c];rfl) (Ba a l (by simpa using h) λj f d=>?_)
  let:=g (j+1) f<|by simpa using d
  simpa using this
def OH:List V->Hp->VK->Prop:=λc H Q=>∃(d:Addr) (a:List (List Key×V)),c=[V.ref d]/\H d=some (.dT a)/\∀p b,H p=none->GA H b a->Q (.ref p) (upd H p<|.lst b)
def OI(z:X.calm=true:=by rfl):gJ X (.type "list") OH:=by
 intro t s T H S R Q I r h;let[d,J,0,A,q]:=h;rw[Vals.uc r];let[P,F,g,e,o,N,M,E,G,i,p,_]:=Jt I.hok A;let m:=kZ p;let D:=eH e;show kdl_call (Ki F G i) (I.ok.hd z) E om λO K b c k l a=>?_;let f:Vals ((g.map λx=>x.2.1).map V.ref) b.toList:=Ba _ _ (by rw[aO,a.1,ac];show m) λj v B=>by
  let[L,n,u]:=a.2 j v<|by rw[<-nR];show B
  rw[entry_at p j]at n;let[x,y,w]:=i9.mp n;show#[x.2.1,by rw[aZ,y];rfl,by rw[u,<-w];rfl]
 replace f:Vals (g.map λx=>V.ref x.2.1) b.toList:=by rw[bX]at f;show f
 let C:(g.map λx=>V.ref x.2.1).length<=sizeLine:=by rw[ac];lk
 show#[.ref ⇑s,upd H ⇑s<|.lst (g.map λx=>V.ref x.2.1),I.laid (t':=K) k (aE _) #[C,b.toList,c,f,l],0,q _ _ (I.hok.fresh<|aE _)<|yr e]
section
variable{K:Frag}{CP CB:Addr}
def Bb(K:Frag)(CP CB:Addr):Sp:=λe H Q _=>∃(d:V) (s:Board) (i j:Nat) (a b:Piece),e=[d,.int (i:Int),.int (j:Int)]/\dD K CP CB H d s/\s.get i=some a/\s.get j=some b/\
 ∀c v m,Kg H c->dD K CP CB c d s->ki K c v m->sN a.shape.pts b.shape.pts m->Q v c
def Mq(ok:wY s)(G:nq K H s g f)(y:s.get i=some a)(z:s.get j=some b)(A:ki K H v m)(B:sN a.shape.pts b.shape.pts m)(t:cY f [ik i,ik j]=none):
  nq K (upd H g<|.dT<|putK f [ik i,ik j] v) s g (putK f [ik i,ik j] v):=by
 let w:Kg H (upd H g<|.dT<|putK f [ik i,ik j] v):=Kg.Q9 G.at_;let d:∀k u,(k,u)∈putK f [ik i,ik j] v->∃h l a b q,k=[ik h,ik l]/\s.get h=some a/\s.get l=some b/\ki K (upd H g<|.dT<|putK f [ik i,ik j] v) u q/\sN a.shape.pts b.shape.pts q:=by
  intro k u n;let c:=n;rw[il _ t]at c;let c||c:=aG.mp c
  .let[h,l,a,b,q,o,p,r,E,F]:=G.isin k u c;show#[h,l,a,b,q,o,p,r,ki.mon _ _ _ _ w.kp.ts E,F]
  .let e:=aP.mp c;cases e
   show#[i,j,a,b,m,0,y,z,ki.mon _ _ _ _ w.kp.ts A,B]
 let x:=w9 v G.nd t;show#[ag,x,d,?_];let:=Hv ok x λk C=>by
  let[[D,u],n,0]:=ae.mp C;let[i,j,a,b,q,o,p,r,_]:=d D u n;show#[i,j,a,b,o,p,r]
 rw[ac]at this;lk
def Kk(T:Facts K mg CP CB):Md P w K mg U 6 CB "gap" ["self","i","j"] (Bb K CP CB):=by
 show T.K4.dx ["self","i","j"] λf cdv A O s H vs Q E hr nd z h=>?_;let[vb,s,i,j,a,b,0,[W,G,ld,r,B,S,u,o,p,g],J,L,k]:=h;show#[_,(af (cF (n6<|jP z (eI<|aa (pv 1)<|aa (pv 2) ah)<|fv K 0) (ao<|gO z (fv K 0) (eI<|aa (pv 1)<|aa (pv 2) ah) (du (Cf T) hr<|aa (b7 z (fv K 0) (pv 1) λ_ _=>rfl)<|aa (b7 z (fv K 0) (pv 2) λ_ _=>rfl) ah) rfl) bA)
  (ao<|aM<|b7 z (fv K 0) (eI<|aa (pv 1)<|aa (pv 2) ah) λ_ _=>rfl)),?_]
 let fin:∀(n:Hp) (F:List _),iU K CB n vb W->Kg H n->Lf K CP n s G ld r B S F->(∃v,cY F [ik i,ik j]=some v)->∀q,n q=none->∃a v,V.ref r=.ref a/\cP (upd n q<|.tup [.int (i:Int),.int (j:Int)]) a (.ref q) (some v)/\Q v (upd n q<|.tup [.int (i:Int),.int (j:Int)]):=by
  intro n F o1 t d ⟨v,X⟩ q M;let c:am n (upd n q<|.tup [.int (i:Int),.int (j:Int)]):=am.new M;let[i',j',a',b2,m,Y,I,Z,q4,q5]:=d.sO.isin _ _<|pI X;let e1:=dw<|by let:=dF (λl=>l.head?) Y;simpa using this
  let e2:=dw<|by let:=dF (λl=>l.getLast?) Y;simpa using this
  subst e1 e2;rw[J]at I;rw[L]at Z;cases I;cases Z
  show#[r,v,0,?_,k _ v m (t.trans<|Kg.of c) #[W,G,ld,r,B,S,F,iU.same o1 c,p,d.same c] (ki.mon _ _ _ _ (am.ts c) q4) q5];rw[<-X];show cP.t (c _ _ d.sO.at_) ag
 show#[2,da,λq M=>?_];let c:am H (upd H q<|.tup [.int (i:Int),.int (j:Int)]):=am.new M;let d:=g.same c;show#[1,_,_,_,iU.same o c,p.vT,r,1,cP.t (k:=[ik i,ik j]) d.sO.at_ ag,1,?_];show cg (λy=>?_) λy=>?_
 .let hn:cY u [ik i,ik j]=none:=by
   cases e:cY u [ik i,ik j]with
   |none=>rfl
   |some v=>rw[e]at y;cases y
  let[pa,v1,p1]:=d.ie.get J;let[pb,v2,p2]:=d.ie.get L;show#[1,_,_,_,iU.same o c,p.pieces,1,G,1,(by rw[<-v1];show cP.k (k:=ik i) d.ie.at_),?_]
  show#[1,_,_,_,iU.same o c,p.pieces,1,G,1,(by rw[<-v2];show cP.k (k:=ik j) d.ie.at_),?_]
  show#[_,_,gG a,gG b,0,p1.is T.TP,p2.is T.TP,λR v m C r2 g2=>?_];let g3:=d.same C;show#[1,_,_,_,iU.same (iU.same o c) C,p.vT,?_];show#[2,da,λI N=>?_];let D:am R (upd R I<|.tup [.int (i:Int),.int (j:Int)]):=am.new N;let x:=g3.same D;show#[r,1,lT.t (k:=[ik i,ik j]) x.sO.at_ ag ?_,?_]
  .show bi g.sO.n9 de
  let t:Kg _ (upd _ r<|.dT<|putK u [ik i,ik j] v):=Kg.Q9 x.sO.at_;let g5:=Mq x.ok x.sO J L (ki.mon _ _ _ _ (am.ts D) r2) g2 hn;show#[1,_,_,_,iU.kj (iU.same (iU.same (iU.same o c) C) D) t.kj,p.vT,?_];show#[2,da,fin _ _ (iU.kj (iU.same (iU.same (iU.same o c) C) D) t.kj) ((Kg.of<|c.trans<|C.trans D).trans t) (x.vT t g5) #[v,?_]];rw[xW,aH rfl]
 .let hs:∃v,cY u [ik i,ik j]=some v:=by
   cases e:cY u [ik i,ik j]with
   |none=>rw[e]at y;cases y
   |some v=>show#[v,0]
  show#[1,_,_,_,iU.same o c,p.vT,?_];show#[2,da,fin _ _ (iU.same o c) (Kg.of c) d hs]
end
def Ni(z:Int):ab z=(z.natAbs:Int):=by unfold ab;split<;>lk
def QB(x y:Int):mn x y=min x y:=by unfold mn;split<;>lk
def OJ(a b c d:Pt)(L:Int):BX a b c d (L,1)=jh a b c d L:=by
 change(bZ (turnOf a b c) (turnOf a b d)&&decide (L*((b.x -a.x)*(b.x -a.x)+(b.y -a.y)*(b.y -a.y))<mn (ab<|turnOf a b c) (ab<|turnOf a b d)*mn (ab<|turnOf a b c) (ab<|turnOf a b d)*1))=if bZ (turnOf a b c) (turnOf a b d)=false then false else decide (L*((b.x -a.x)*(b.x -a.x)+(b.y -a.y)*(b.y -a.y))<min ((turnOf a b c).natAbs:Int) ((turnOf a b d).natAbs:Int)*min ((turnOf a b c).natAbs:Int) ((turnOf a b d).natAbs:Int));rw[k_,QB,Ni,Ni];cases bZ (turnOf a b c) (turnOf a b d)<;>simp
def tV(p a b:Pt)(L:Int):(!mO (L,1) (hU p a b))=dj p a b L:=by
 grind [mO,hU,dj]
def Mr(a b c d:Pt):cC (bM [a,b]) (bM [c,d])=decide (fK a b c d):=by
 rw[bQ,gy,aT];unfold fK bM;simp only[bm,iP,zG,zH,List.foldl];grind
def QC(a b c d:Pt):pD a b c d=d_ a b c d:=by
 unfold pD d_;rw[Mr];cases bZ (turnOf a b c) (turnOf a b d)<;>cases bZ (turnOf c d a) (turnOf c d b)<;>simp
def Kl(a b c d:Pt)(L:Int):sJ a b c d (L,1)=rT a b c d L:=by
 unfold sJ rT BY fu;simp only[jH,List.any_nil,tV,OJ,QC,iw];cases dj a c d L<;>cases dj b c d L<;>simp
def HG(k l:List Pt)(D:Int):pG k l D=mX k l D:=by
 unfold pG mX uq jX;simp only[Kl];rfl
def qj(c:a.shape.pts≠[])(d:b.shape.pts≠[]):pH (gG a) (gG b)=touching a b:=by
 unfold pH touching level touch;rw[HG];change(decide ((a.lo:Int)<=(b.hi:Int))&&decide ((b.lo:Int)<=(a.hi:Int))&&mX a.shape.pts b.shape.pts ((a.shape.r:Int)+(b.shape.r:Int)))=_;rw[<-Sn,u_ c d];congr 1;rw[<-tU,b8];lk
def Kd(H c:Hp):Prop:=∀a o,H a=some o->(∀b,o≠.dK b)->c a=some o
def Kd.trans(x:Kd H b)(y:Kd b c):Kd H c:=λa o h l=>y a o (x a o h l) l
def Kd.of(s:am H b):Kd H b:=λa o h _=>s a o h
def Kd.kj(s:Kd H b):Kj H b:=λa o h m _=>s a o h m
def Kd.Lg(h:H p=some (.dK b)):Kd H (upd H p o):=λa q e m=>by
 rw[aA λz=>by subst z;rw[h]at e;cases e;show m _ rfl];show e
def Kd.upd(k:Kd H b)(h:H p=none):Kd H (upd b p o):=λa q e m=>by
 rw[aA λz=>by subst z;rw[h]at e;cases e];show k a q e m
def yt(a:List (Key×V)):List Nat:=a.map λb=>match b.1 with|.inl i=>i.toNat|.inr _=>0
def uv(h:∀k v,(k,v)∈a->∃n,k=ik n):a.map (·.1)=(yt a).map ik:=by
 unfold yt;rw[bX];show dY λb c=>?_;let[n,e]:=h b.1 b.2 c;change b.1=ik (match b.1 with|.inl i=>i.toNat|.inr _=>0)
 rw[e];rfl
def DV(h:∀k v,(k,v)∈a->∃n,k=ik n):m∈yt a↔∃v,(ik m,v)∈a:=by
 let e:=uv h;walk
 .intro g;let:ik m∈a.map (·.1):=by grind
  let[[k,v],b,0]:=ae.mp this;show#[v,b]
 .ext⟨v,f⟩;let:ik m∈a.map (·.1):=ae.mpr #[_,f,0];rw[e]at this;let[i,c,d]:=ae.mp this;rw[<-dw d];show c
def sT{b:Type}[DecidableEq b]{a:List (b×V)}{k:b}(h:k∉a.map (·.1)):cY a k=none:=lu λv c=>h<|ae.mpr #[_,c,0]
def DW{b:Type}[DecidableEq b]{a:List (b×V)}{k:b}(v:V)(h:cY a k=none):(putK a k v).map (·.1)=a.map (·.1)++[k]:=by
 rw[il v h,bw];rfl
def sU{a:List (Key×V)}(d:(a.map (·.1)).Nodup)(h:∀k,k∈a.map (·.1)->∃q,q<128/\k=ik q):a.length<=128:=by
 let e:((List.range 128).map ik).length=128:=by rw[ac,cu]
 let:=nn d λk c=>by
  let[q,b,0]:=h k c;show ae.mpr #[q,cB.mpr b,0]
 rw[ac,e]at this;show this
def GB(h:n<=128):n<sizeLine:=bi h de
def fJ.ks{ld c:Addr}(h:fJ H s ld c a):∀k v,(k,v)∈a->∃n,k=ik n:=λk v b=>let #[n,_,e,_]:=h.isin k v b;#[n,e]
def fJ.mem{ld f:Addr}(h:fJ H s ld f c):m∈yt c↔∃b,s.get m=some b:=by
 rw[DV h.ks];walk
 .ext⟨v,d⟩;let[n,g,e,a,_]:=h.isin _ _ d;rw[dw e];show a
 .ext⟨b,a⟩;show h.all m b a
def Ew(s:Board)(a:Piece)(m:Nat):Bool:=match s.get m with|some b=>pH (gG a) (gG b)|none=>false
def Km{s h:Board}(ok:wY s){n:Nat}{a:Piece}(d:s.get n=some a)(k:h.get n=none)(j:∀m,m≠n->h.get m=s.get m){q:Nat}:q∈neighbours ↥s n↔(∃b,h.get q=some b)/\Ew s a q=true:=by
 rw[iQ];walk
 .ext⟨x,y,p,r,i,f,l,o⟩;rw[d]at i;cases i
  show#[#[y,by rw[j q l];show f],?_]
  unfold Ew;rw[f];change pH (gG a) (gG y)=true;rw[qj (ok.pts _ _ d)<|ok.pts _ _ f];show o
 .ext⟨⟨b,c⟩,g⟩;let e:q≠n:=λz=>by subst z;rw[k]at c;cases c
  rw[j q e]at c;unfold Ew at g;rw[c]at g;show#[a,b,gz ok d,gz ok c,d,c,e,?_];rw[<-qj (ok.pts _ _ d) (ok.pts _ _ c)];show g
def Fw{s g:Board}(ok:wY s){n m:Nat}{a b:Piece}(d:s.get n=some a)(o:g.get n=none)(u:∀m,m≠n->g.get m=s.get m)(j:g.get m=some b){q:Nat}:q∈neighbours ↥s m↔q∈neighbours ↥g m\/(q=n/\Ew s a m=true):=by
 let f:m≠n:=λz=>by subst z;rw[o]at j;cases j
 let c:=j;rw[u m f]at c;rw[iQ,iQ];unfold Ew;rw[c];change _↔_\/(q=n/\pH (gG a) (gG b)=true);rw[qj (ok.pts _ _ d)<|ok.pts _ _ c];walk
 .ext⟨x,y,p,r,k,i,t,l⟩;cases k
  by_cases e:q=n
  .subst e;rw[d]at i;cases i
   show .inr #[0,by rw[jY (ok.pts _ _ d)<|ok.pts _ _ c];show l]
  .grind
 .ext(⟨x,y,p,r,k,i,t,l⟩|⟨rfl,h⟩)
  .grind
  .show#[b,a,gz ok c,gz ok d,0,d,bJ f,by rw[jY (ok.pts _ _ c)<|ok.pts _ _ d];show h]
structure LI(H H':Hp)(n:Nat)(s0:Board)(pd ld p:Addr)(bL:List (Key×V))(L:List Nat):Prop where
 kd:Kd H H'
 OL:H' pd=H pd
 at_:H' ld=some (.dK<|bL++[(ik n,.ref p)])
 new:∃nk:List (Key×V),H' p=some (.dK nk)/\(nk.map (·.1)).Nodup/\∀k,k∈nk.map (·.1)↔∃q,k=ik q/\q∈L
 old:∀m ia,(ik m,V.ref ia)∈bL->∃iv:List (Key×V),H' ia=some (.dK iv)/\(iv.map (·.1)).Nodup/\∀k,k∈iv.map (·.1)↔(∃q,k=ik q/\q∈neighbours s0.graph m)\/(k=ik n/\m∈L)
def LI.step{H h:Hp}{n:Nat}{v:Board}{t ld p:Addr}{w:List (Key×V)}{L:List Nat}(I:LI H h n v t ld p w L)(i:fJ H v ld t w)(d:H p=none)(F:∃o,H t=some o)(h0:v.get n=none){m:Nat}{f:Addr}(D:(ik m,V.ref f)∈w)(P:m∉L)
  {g l:List (Key×V)} (e1:h p=some (.dK g)) (X:(g.map (·.1)).Nodup) (Q:∀k,k∈g.map (·.1)↔∃q,k=ik q/\q∈L) (Z:h f=some (.dK l)) (Y:(l.map (·.1)).Nodup) (R:∀k,k∈l.map (·.1)↔(∃q,k=ik q/\q∈neighbours ↥v m)\/(k=ik n/\m∈L)):
  LI H (upd (upd h p<|.dK<|putK g (ik m)<|.bl true) f<|.dK<|putK l (ik n)<|.bl true) n v t ld p w (L++[m]):=by
 let[m',ia',q1,[b,q2],q3,[ikv,S,r2],q5,q6]:=i.isin _ _ D;cases q3
 let c:p≠f:=λz=>by subst z;rw[d]at S;cases S
 let G:ld≠p:=λz=>by subst z;rw[i.at_]at d;cases d
 let s:t≠p:=λz=>by subst z;let[o,ho]:=F;rw[ho]at d;cases d
 let T:cY g (ik m)=none:=sT λz=>by
  let[q,e,j]:=(Q _).mp z;show P<|by rw[dw e];show j
 let U:cY l (ik n)=none:=sT λz=>by
  let[q,e,j]||[_,j]:=(R _).mp z
  .rw[<-dw e]at j;let[x,y,_,_,_,O,_]:=iQ.mp j;rw[h0]at O;cases O
  .show P j
 let K:Kd H (upd h p<|.dK<|putK g (ik m)<|.bl true):=I.kd.upd d;let C:(upd h p<|.dK<|putK g (ik m)<|.bl true) f=some (.dK l):=by rw[aA<|bJ c];show Z
 show#[K.trans (Kd.Lg C),?_,?_,?_,?_]
 .rw[aA<|bJ q5,aA s];show I.OL
 .rw[aA<|bJ q6,aA G];show I.at_
 .show#[_,by rw[aA c];show ag,w9 _ X T,λk=>?_]
  rw[DW _ T,aG,Q,aP];walk
  .grind
  .grind
 .intro B a A;by_cases e:B=m
  .subst e;let:V.ref a=V.ref f:=by
    let W:=eZ i.nd A;let N:=eZ i.nd D;rw[W]at N;show bj N
   cases this
   show#[_,ag,w9 _ Y U,λk=>?_];rw[DW _ U,aG,R,aP];walk
   .grind
   .grind
  .let E:a≠f:=λz=>by subst z;show e<|dw<|i.inj _ _ _ A D
   let[m3,ia3,_,_,M,[_,u,_],_]:=i.isin _ _ A;cases M
   let r:a≠p:=λz=>by subst z;rw[d]at u;cases u
   let[J,f1,f2,f3]:=I.old B a A;show#[J,by rw[aA E,aA r];show f1,f2,λk=>?_]
   rw[f3];let:B∈L++[m]↔B∈L:=by grind
   rw[this]
def LI.done{H N:Hp}{n:Nat}{s B:Board}{w ld p:Addr}{j:List (Key×V)}{a:Piece}(I:LI H N n B w ld p j ((yt j).filter<|Ew s a))(d:fJ H B ld w j)(r:H p=none)(L:∃o,H w=some o)(ok:wY s)(l:s.get n=some a)(h:B.get n=none)(i:∀m,m≠n->B.get m=s.get m):
  fJ N s ld w (j++[(ik n,.ref p)]):=by
 let M:p≠ld:=λz=>by subst z;rw[d.at_]at r;cases r
 let t:p≠w:=λz=>by subst z;let[o,S]:=L;rw[S]at r;cases r
 let K:∀v,(ik n,v)∉j:=λv u=>by
  let[m,A,e,[b,c],_]:=d.isin _ _ u;rw[<-dw e,h]at c;cases c
 let R:∀k,(k,V.ref p)∉j:=λk u=>by
  let[m,A,_,_,e,[_,P,_],_]:=d.isin _ _ u;cases e
  rw[r]at P;cases P
 show#[I.at_,?_,λk v g=>?_,λm b c=>?_,λk Y v x y=>?_]
 .rw[bw];show BQ d.nd λz=>?_;let[[k,v],g,e]:=ae.mp z;let Q:k=ik n:=e;subst Q;show K v g
 .let g||g:=aG.mp g
  .let[m,A,0,[b,c],0,_,W,X]:=d.isin _ _ g;let J:m≠n:=λz=>by subst z;rw[h]at c;cases c
   let[T,C,D,E]:=I.old m A g;show#[m,A,0,#[b,by rw[<-i m J];show c],0,#[T,C,D,λk=>?_],W,X]
   rw[E,aw,d.mem];walk
   .ext(⟨q,e,f⟩|⟨e,_,O⟩)
    .show#[q,e,(Fw ok l h i c).mpr<|.inl f]
    .show#[n,e,(Fw ok l h i c).mpr<|.inr #[0,O]]
   .ext⟨q,e,f⟩;let f||[0,O]:=(Fw ok l h i c).mp f
    .show .inl #[q,e,f]
    .grind
  .let e:=aP.mp g;cases e
   let[U,C,D,E]:=I.new;show#[n,p,0,#[a,l],0,#[U,C,D,λk=>?_],t,M];rw[E];walk
   .ext⟨q,e,f⟩;let[F,G]:=aw.mp f;show#[q,e,(Km ok l h i).mpr #[d.mem.mp F,G]]
   .ext⟨q,e,f⟩;let[F,G]:=(Km ok l h i).mp f;show#[q,e,aw.mpr #[d.mem.mpr F,G]]
 .by_cases e:m=n
  .grind
  .let[v,u]:=d.all m b<|by rw[i m e];show c
   show#[v,cJ _ u]
 .let x||x:=aG.mp x
  .let y||y:=aG.mp y
   .show d.inj _ _ _ x y
   .grind
  .grind
section
open Vbpcaf
section
variable{g:Graph}
def jB(ok:gF g)(h:n∈nodes g):n∈members g n:=(lY ok.so).mpr #[(0),i_.mpr #[h,0]]
def ko(ok:gF g)(h:m∈members g n):n∈members g m:=(bc ok).mpr<|((bc ok).mp h).symm ok
def jS(ok:gF g)(d:b∈members g a)(e:c∈members g b):c∈members g a:=(bc ok).mpr<|((bc ok).mp d).trans<|(bc ok).mp e
def yu(ok:gF g)(h:m∈members g n):members g m=members g n:=
 So.ext (gf ok.so m) (gf ok.so n) λx=>#[λa=>jS ok h a,λa=>jS ok (ko ok h) a]
def rootOf(g:Graph)(n:Nat):Nat:=(members g n).headD 0
def e_(ok:gF g)(h:n∈nodes g):rootOf g n∈members g n:=by
 let b:=jB ok h;unfold rootOf;cases e:members g n with
 |nil=>rw[e]at b;simp at b
 |cons a r=>simp
def sV(ok:gF g)(h:m∈members g n):rootOf g n<=m:=by
 let b:=gf ok.so n;unfold rootOf;cases e:members g n with
 |nil=>rw[e]at h;simp at h
 |cons a r=>
  rw[e]at h b;let q||q:=aB.mp h
  .subst q;simp
  .let:=(f8.mp b).1 m q;simp;lk
def iE(ok:gF g)(h:m∈members g n):rootOf g m=rootOf g n:=by
 unfold rootOf;rw[yu ok h]
def iF(ok:gF g)(h:n∈nodes g):rootOf g n∈nodes g:=cK ok.so<|e_ ok h
def i6(ok:gF g)(h:n∈nodes g):isRoot g n=decide (rootOf g n=n):=by
 rw[bQ];unfold isRoot;rw[c7,aT];walk
 .intro q;let b:=aF<|q _<|e_ ok h;let c:=sV ok<|jB ok h;lk
 .intro q x a;let:=sV ok a;rw[q]at this;show aU this
def DX(ok:gF g)(d:n∈nodes g)(c:m∈nodes g):joined g n m=decide (rootOf g n=rootOf g m):=by
 rw[bQ];unfold joined;rw[bg,aT];walk
 .intro h;show(iE ok h).symm
 .intro h;let a:=e_ ok d;let b:=e_ ok c;rw[h]at a;show jS ok a<|ko ok b
end
end
section
variable{K:Frag}{CP CB:Addr}
def Fx(ok:gF g)(S:ju g n a):∀k,k∈(stK a).map (·.1)↔∃m,k=ik m/\m∈members g n:=by
 intro k;rw[fG,ae];walk
 .ext⟨m,b,rfl⟩;show#[m,0,(S.key ok.so).mp b]
 .ext⟨m,rfl,b⟩;show#[m,(S.key ok.so).mpr b,0]
def yw(K:Frag)(CP CB:Addr):Sp:=λb H Q _=>∃(a:V) (s:Board) (n:Nat),b=[a,.int (n:Int)]/\dD K CP CB H a s/\n∈nodes ↥s/\nr H Q (zs<|members ↥s n)
def HI(T:Facts K x CP CB):Df P w K x g 3 "members" ["board","number"] (yw K CP CB):=by
 show T.Il.dx ["board","number"] λf j A b s H I Q E v F D h=>?_;let[G,s,n,0,i,r,k]:=h;let ok:=cD i.ok;show#[_,(ao<|aM<|bC jw SY T.Bt.sorted boot_sorted<|aa (du (Cd T) v<|aa (pv 0)<|aa (pv 1) ah) ah),?_]
 show#[2,_,s,n,0,i,r,λB d e c C l S=>?_];let[y,m,o,q]:=kn (Cc S.nd)<|Fx ok S;show#[d,_,y,0,Rd.of l,m,λz p u t a=>?_];rw[jz u t o (gf ok.so n) q];show k _ _ (am.upd c<|c.free a) (c.free a) ag
structure RY(g:Graph)(l:List (Nat×Nat)):Prop where
 nd:(l.map (·.1)).Nodup
 is:∀n d,(n,d)∈l↔n∈nodes g/\d=rootOf g n
def RY.get(h:RY g l)(a:n∈nodes g):cY (stK l) (ik n)=some (.int (rootOf g n:Int)):=iZ h.nd<|(h.is n _).mpr #[a,0]
def fP(K:Frag)(CP CB:Addr):Sp:=λd H Q _=>∃(c:V) (s:Board),d=[c]/\dD K CP CB H c s/\∀b a l,am H b->H a=none->b a=some (.dK<|stK l)->RY ↥s l->Q (.ref a) b
structure SH(g:Graph)(i:Nat)(l:List (Nat×Nat)):Prop where
 nd:(l.map (·.1)).Nodup
 val:∀n d,(n,d)∈l->n∈nodes g/\d=rootOf g n
 key:∀x,x∈l.map (·.1)↔∃y∈(nodes g).take i,x∈members g y
def yx(T:Facts K mg CP CB):Df P w K mg base 3 "least_joined" ["board"] (fP K CP CB):=by
 show T.zb.dx ["board","least","number","other"] λf cdv A outer s H vs Q E hr nd hu h=>?_;let[vb,s,0,X,k]:=h;let ok:=cD X.ok;show#[_,(af (aS 1 nd gW)
  (af (dZ cm rfl (oE K<|zT (B6 T) T.c8.cls hr<|pv 0) (bF 2 nd)
  (ao (cF (n6<|jP hu (pv 2)<|pv 1) (ao (dZ cm rfl (x_<|du (Cd T) hr<|aa (pv 0)<|aa (pv 2) ah) (bF 3 nd)
  (ao<|gO hu (pv 1) (pv 3) (pv 2) rfl))) bA)))
  (ao<|aM<|pv 1))),?_]
 show λld L=>?_;let s0:am H (upd H ld<|.dK []):=am.new L;let Y:=X.same s0;let[ba,bdx,bfs,0,bo,bn]:=Y.obj;show#[1,ba,bdx,bfs,0,bo,bn _ dk,_,s,0,Y,λH1 R s1 hnl e1=>?_];let nln:R≠ld:=λz=>by rw[z,ag]at hnl;cases hnl
 show#[R,0,#[_,cc.of e1],?_];show dh (src_list (K:=K) (R:=iu) (a:=R) (vs:=(zs<|nodes ↥s).map V.int) (xs:=nodes ↥s)) (λi F t=>∃(l:List (Nat×Nat)) (v2 I:Option V),F=[some (.ref ba),some<|.ref ld,v2,I]/\am H t/\t ld=some (.dK<|stK l)/\t R=some (.lst<|(zs<|nodes ↥s).map V.int)/\SH ↥s i l)
  #[[],none,none,0,s0.trans s1,s1 _ _ ag,e1,by simp,by simp,by simp] (λi F t _ z=>let #[_,_,_,_,_,_,e,_]:=z;#[cc.of e,fL _]) ?_ ?_
 .ext i x v F H2 H3 hx ⟨l,v2,I,rfl,s2,M,e2,g⟩ G r3;let 0:=r3;let D:=s2.trans G;let B:x∈nodes ↥s:=aX hx;let tk:(nodes ↥s).take (i+1)=(nodes ↥s).take i++[x]:=by rw[cM,hx];rfl
  show#[2,ld,1,cP.k (k:=ik x)<|G _ _ M,1,?_];rw[nv g.nd];show cg (λt1=>?_) λt1=>?_
  .let hno:x∉l.map (·.1):=by simpa using t1
   let U:∀y,y∈members ↥s x->y∉l.map (·.1):=λy u J=>by
    let[z,hz,hyz]:=(g.key y).mp J;show hno<|(g.key x).mpr #[z,hz,jS ok hyz<|ko ok u]
   let rt:rootOf ↥s x=x:=by
    let h1:=sV ok<|jB ok B;show au λhne=>?_;let hlt:rootOf ↥s x<x:=om;let hr:=iF ok B;let[j,hj,ej]:=qE hr;let[hi,ei]:=aJ.mp hx;let hji:j<i:=by
     show au λhge=>?_;let hso:=jL.mp ok.so;by_cases e:j=i
     .subst e;rw[ej]at ei;lk
     .let:=hso i j hi hj om;rw[ej,ei]at this;lk
    let hmt:rootOf ↥s x∈(nodes ↥s).take i:=by
     rw[<-ej];show fc.mpr #[j,om,0]
    show hno<|(g.key x).mpr #[_,hmt,ko ok<|e_ ok B]
   let hb3:=X.same D;show#[2,_,s,x,0,hb3,B,λH4 d c s4 m e4 S=>?_];show#[d,1,e4,λo=>?_];let ndl:d≠ld:=λz=>by rw[z,G _ _ M]at m;cases m
   let ndn:d≠R:=λz=>by rw[z,G _ _ e2]at m;cases m
   let hd0:H d=none:=D.free m;let O:∀y,y∈c.map (·.1)↔y∈members ↥s x:=λy=>S.key ok.so;show dh (pC (d:=d) (o:=o) (kvs:=stK c)) (λj F t=>∃(I:Option V),F=[some (.ref ba),some<|.ref ld,some<|.int (x:Int),I]/\am H t/\t ld=some (.dK<|stK (l++((c.map (·.1)).take j).map λy=>(y,x)))/\t R=some (.lst<|(zs<|nodes ↥s).map V.int)/\t d=some (.g9 o<|.dK<|stK c))
    #[I,0,am.upd (D.trans s4) hd0,?_,?_,ag] (λj F t _ z=>let #[_,_,_,_,_,e]:=z;e) ?_ ?_
   .rw[aA<|bJ ndl,List.take_zero,iP,nQ];show s4 _ _<|G _ _ M
   .rw[aA<|bJ ndn];show s4 _ _<|G _ _ e2
   .ext j kk v F H5 H6 Z ⟨I,rfl,s5,d5,n5,f5⟩ s6 r6;let 0:=r6;rw[fG,aZ]at Z;cases u:(c.map (·.1))[j]?with
    |none=>rw[u]at Z;cases Z
    |some y=>
     rw[u]at Z;let 0:ik y=kk:=bj Z;let tk2:(c.map (·.1)).take (j+1)=(c.map (·.1)).take j++[y]:=by rw[cM,u];rfl
     let hym:y∈c.map (·.1):=aX u;let hny:y∉(l++((c.map (·.1)).take j).map λy=>(y,x)).map (·.1):=by
      rw[bw,bX,aG,show((λp:Nat×Nat=>p.1)∘λy=>(y,x))=id from rfl,f9];ext(q|q)
      .show U y ((O y).mp hym) q
      .let[j',hj',ej']:=fc.mp q;let[hj0,ej0]:=aJ.mp u;let:=(lQ S.nd).mp<|ej'.trans ej0.symm;lk
     let hlen:(stK (l++((c.map (·.1)).take j).map λy=>(y,x))).length<sizeLine:=by
      let l1:=fM g.nd (m:=nodes ↥s) λz hz=>by
       let[[a,b],N,0]:=ae.mp hz;show(g.val a b N).1
      let l2:=fM S.nd (m:=nodes ↥s) λz hz=>cK ok.so<|(O z).mp hz;let l3:=cz (s:=s);rw[ac]at l1 l2;rw[stK,ac,aW,ac,cE,ac];show bi (show _<=256 by lk) de
     show#[3,ld,1,lT.k (k:=ik y) (s6 _ _ d5) hlen,?_];rw[sQ hny];show#[1,am.upd (s5.trans s6) L,?_,?_,?_]
     .rw[ag,tk2,bw,<-K_];rfl
     .rw[aA nln];show s6 _ _ n5
     .rw[aA ndl];show s6 _ _ f5
   .ext F H5 ⟨I,rfl,s5,d5,n5,f5⟩;let W:((stK c).map (·.1)).length=(c.map (·.1)).length:=by rw[fG,ac]
    rw[W,bK]at d5;let mk2:∀y,y∈(l++(c.map (·.1)).map λy=>(y,x)).map (·.1)↔y∈l.map (·.1)\/y∈members ↥s x:=λy=>by
     rw[bw,bX,aG,show((λp:Nat×Nat=>p.1)∘λy=>(y,x))=id from rfl,f9,O]
    show#[_,_,1,s5,d5,n5,?_,λn d N=>?_,λy=>?_]
    .rw[bw,bX,show((λp:Nat×Nat=>p.1)∘λy=>(y,x))=id from rfl,f9,di];show#[g.nd,S.nd,λa ha b X z=>U b ((O b).mp X)<|z▸ha]
    .let q||q:=aG.mp N
     .show g.val n d q
     .let[y,u,e]:=ae.mp q;let[0,0]:=qF e;show#[cK ok.so ((O _).mp u),by rw[iE ok<|(O _).mp u,rt]]
    .rw[mk2,g.key,tk];simp only[aG,aP];walk
     .ext(⟨z,r,C⟩|q)
      .show#[z,.inl r,C]
      .show#[x,.inr rfl,q]
     .ext⟨z,r|r,C⟩
      .show .inl #[z,r,C]
      .show .inr<|r▸C
  .let J:x∈l.map (·.1):=by simpa using t1
   show#[l,_,1,D,G _ _ M,G _ _ e2,g.nd,g.val,λy=>?_];rw[g.key,tk];simp only[aG,aP];walk
   .ext⟨z,r,C⟩;show#[z,.inl r,C]
   .ext⟨z,r|r,C⟩
    .show#[z,r,C]
    .subst r;let[z',q3,q4]:=(g.key z).mp J;show#[z',q3,jS ok q4 C]
 .ext F H2 ⟨l,v2,I,rfl,s2,M,e2,g⟩;show#[1,k _ _ l s2 L M #[g.nd,λn d=>#[g.val n d,λ#[h1,h2]=>?_]]];let[[a,b],N,e]:=ae.mp<|(g.key n).mpr #[n,by rw[bK];show h1,jB ok h1]
  let 0:a=n:=e;rw[h2,<-(g.val a b N).2];show N
def yy(K:Frag)(CP CB:Addr):Sp:=λb H Q _=>∃(a:V) (s:Board),b=[a]/\dD K CP CB H a s/\nr H Q (zs<|(nodes ↥s).filter<|isRoot ↥s)
def Ms(T:Facts K W CP CB):Df P w K W p 4 "parts" ["board"] (yy K CP CB):=by
 show T.MR.dx ["board","least","number"] λf G A i s H vs Q E r g R h=>?_;let[vb,s,0,d,k]:=h;let ok:=cD d.ok;show#[_,(af (aS 1 g<|du (yx T) r<|aa (pv 0) ah)
  (ao<|aM<|ke rfl g (oE K<|zT (B6 T) T.c8.cls r<|pv 0) (cZ (own:=[("number",2)])<|by kernel_rfl) (λ_ _ _ _ _=>(bF 2 g)) (λ_ _ _ _ _=>(jv<|ct oz (b7 R (pv 1) (pv 2) λ_ _=>rfl)<|pv 2)) λ_ _ _ _ _=>(pv 2))),?_]
 show#[1,_,s,0,d,λH1 ld l j N I L=>?_];dsimp only[dQ];show rA<|vM ?_;let a:=d.same j;let[B,b,c,0,F,C]:=a.obj;show#[1,B,b,c,0,F,C _ dk,_,s,0,a,λH2 X m O q=>#[X,0,#[_,cc.of q],?_]];show kG (K:=K) (src_list (R:=iu) (vs:=(zs<|nodes ↥s).map V.int) (xs:=nodes ↥s)) iu.mon (isRoot ↥s) id (bi cz de) (λZ e=>#[cc.of (e _ _ q),fL _]) ?_ ?_
 .ext x v o Q1 Q0 t n Y U S;let 0:=Y;let J:cP o ld (kV<|ik x) (some<|.int (rootOf ↥s x:Int)):=by rw[<-L.get t];show cP.k (k:=ik x)<|n _ _<|m _ _ I
  let y:=i6 ok t;show#[0,2,ld,1,J,1,0,1,cg (λt1=>?_) λt1=>?_]
  .let e:rootOf ↥s x=x:=by let:=aF t1;injection this with this;lk
   show#[1,U _ _ (am.refl _) (by rw[y];show aU e) rfl]
  .show S _ (am.refl _) ?_;rw[y];show bE λe=>cb t1 ?_;rw[e]
 .intro o D z n M e u;rw[f9]at u;rw[pL u]at e;show k _ _ ((j.trans m).trans n) ((j.trans m).free M) e
def cP.fz{k:Key}(e:H a=some (.g9 o<|.dK b)):cP H a (kV k) (cY b k):=.inl #[b,k,.inr #[o,e],0,0]
def OM:Key->Int
 |.inl i=>i
 |.inr _=>0
def mj(K:Frag)(CP CB:Addr):Sp:=λb H Q _=>∃(a:V) (s:Board) (n m:Nat),b=[a,.int (n:Int),.int (m:Int)]/\dD K CP CB H a s/\n∈nodes ↥s/\nr H Q (zs<|reach ↥s m n)
def uw(T:Facts K mg CP CB):Df P w K mg U 3 "reached_within" ["board","start","most"] (mj K CP CB):=by
 show T.uT.dx ["board","start","most","steps","number"] λf cdv A M s H vs Q E hr J hu h=>?_;let[vb,s,n,m,0,C,hn,k]:=h;let ok:=cD C.ok;show#[_,(af (aS 3 J<|du (Cd T) hr<|aa (pv 0)<|aa (pv 1) ah)
  (ao<|aM<|bC (Gf K) SY T.Bt.sorted boot_sorted<|aa (ke rfl J (x_<|pv 3) (cZ (own:=[("number",4)])<|by kernel_rfl) (λ_ _ _ _ _=>(bF 4 J)) (λ_ _ _ _ _=>(jv<|ct fE (b7 hu (pv 3) (pv 4) λ_ _=>rfl)<|pv 2)) λ_ _ _ _ _=>(pv 4)) ah)),?_]
 show#[2,_,s,n,0,C,hn,λO d c s1 hd e1 S=>?_];dsimp only[dQ];show rA<|Qh<|vj<|vM ?_;show#[1,d,1,e1,λo=>?_];let s2:am H (upd O d<|.g9 o<|.dK<|stK c):=am.upd s1 hd;let u:((stK c).map (·.1)).length<100000:=by
  let l2:=fM S.nd (m:=nodes ↥s) λz hz=>cK ok.so<|(S.key ok.so).mp hz;let l3:=cz (s:=s);rw[fG,ac];lk
 let' p:Key->Bool:=λkk=>match cY (stK c) kk with
  |some (.int d)=>decide<|d<=(m:Int)
  |_=>false
 show kG (K:=K) (pC (d:=d) (o:=o) (kvs:=stK c)) ul.mon p OM u (λH' e=>e _ _ ag) ?_ ?_
 .ext x v R Q1 Q0 Y N r3 k1 k0;let 0:=r3;rw[fG,ae]at Y;let[y,B,0]:=Y;let[[g,l],F,0]:=ae.mp B;let f3:=N _ _ (show upd O d (.g9 o<|.dK<|stK c) d=_ from ag);let W:=iZ S.nd F;let e3:cP R d (kV<|ik g) (some<|.int (l:Int)):=by rw[<-W];show cP.fz (k:=ik g) f3
  let t:p (ik g)=decide ((l:Int)<=(m:Int)):=by change(match cY (stK c) (ik g)with|some (.int d)=>decide (d<=(m:Int))|_=>false)=_;rw[W]
  show#[0,2,d,1,e3,1,_,1,0,1,cg (λt1=>?_) λt1=>?_]
  .show#[1,k1 _ _ (am.refl _) (t.trans t1) rfl]
  .show k0 _ (am.refl _)<|t.trans t1
 .intro R D Z N hD e pr;rw[x6 pr]at e;show#[D,1,cc.of e,λns' q t ho X=>?_];let j:=s2.trans N;let I:∀x:Int,x∈(((stK c).map (·.1)).filter p).map OM↔∃y,y∈reach ↥s m n/\x=(y:Int):=λx=>by
   rw[ae];walk
   .ext⟨kk,hk,rfl⟩;let[r,i]:=aw.mp hk;rw[fG,ae]at r;let[y,B,0]:=r;let[[g,l],F,0]:=ae.mp B;let t:p (ik g)=decide ((l:Int)<=(m:Int)):=by change(match cY (stK c) (ik g)with|some (.int d)=>decide (d<=(m:Int))|_=>false)=_;rw[iZ S.nd F]
    rw[t]at i;show#[g,(S.is m g).mp #[l,by let:=aF i;lk,F],0]
   .ext⟨y,B,rfl⟩;let[l,r,i]:=(S.is m y).mpr B;show#[ik y,aw.mpr #[?_,?_],0]
    .rw[fG];show ae.mpr #[y,ae.mpr #[_,i,0],0]
    .change(match cY (stK c) (ik y)with|some (.int d)=>decide (d<=(m:Int))|_=>false)=true
     rw[iZ S.nd i];show aU om
  let L:((((stK c).map (·.1)).filter p).map OM).Nodup:=by
   rw[oN,wU];show s_ (λ{a b} ha C G z=>G ?_)<|zF a_<|Cc S.nd;let[r,_]:=aw.mp ha;let[i,_]:=aw.mp C;rw[fG,ae]at r i;let[y1,1]:=r;let[y2,1]:=i;show dF Sum.inl z
  rw[jz t ho L (fS ok.so m n) I];show k _ _ (am.upd j<|j.free X) (j.free X) ag
end
abbrev uz(l:List Nat):List (Key×V):=l.map λn=>(ik n,V.bl true)
def nE(l:List Nat):(uz l).map (·.1)=l.map ik:=by
 rw[bX];rfl
def xl:putK (uz l) (ik n) (.bl true)=uz (if n∈l then l else l++[n]):=by
 by_cases h:n∈l
 .rw[aH h];unfold putK;rw[aH ?_]
  .simp
  .rw[ci];show#[(ik n,.bl true),ae.mpr #[n,h,0],aU rfl]
 .rw[az h,il]
  .simp
  .show lu λv a=>?_;let[x,b,e]:=ae.mp a;show h<|dw (qF e).1▸b
section
variable{P:Program}{w:World}{K:Frag}{mg:Str->Option Value}{base:Heap}{CP CB:Addr}
def mq(K:Frag)(CP CB:Addr):Sp:=λb H Q _=>∃(a:V) (s:Board) (i j:Nat),b=[a,.int (i:Int),.int (j:Int)]/\dD K CP CB H a s/\i∈nodes ↥s/\j∈nodes ↥s/\nr H Q (zs<|chain ↥s i j)
def DY{b:Type}{p:b->Bool}{l:List b}{a:b}(h:l.find? p=some a):(l.filter p)[0]?=some a:=by
 rw[<-List.head?_eq_getElem?,List.head?_filter];show h
def uA(T:Facts K mg CP CB):Df P w K mg base 3 "shortest_chain" ["board","start","end"] (mq K CP CB):=by
 show T.uU.dx ["board","start","end","steps","chain","left","other","nearer"] λf cdv A outer s H vs Q E hr M hu h=>?_;let[vb,s,i,j,0,hb,hi,hj,k]:=h;let ok:=cD hb.ok;show#[_,(af (aS 3 M<|du (Cd T) hr<|aa (pv 0)<|aa (pv 2) ah)
  (af (cF (n6<|jP hu (pv 1)<|pv 3) (ao<|aM<|cR ah) bA)
  (af (aS 4 M<|cR<|aa (pv 1) ah)
  (af (m7 cm (ct oA (iR K (pv 4)<|Jc ET aI)<|pv 2) (af (aS 5 M<|sb (b7 hu (pv 3) (iR K (pv 4)<|Jc ET aI) λ_ _=>rfl) aI)
  (af (kh (i:=7) rfl M rfl rfl (ma rfl rfl rfl rfl) (oE K<|met (z8 T) T.c8.cls hr (pv 0)<|aa (iR K (pv 4)<|Jc ET aI) ah) (cZ (own:=[("other",6)])<|by kernel_rfl) (λ_ _ _ _ _=>(bF 6 M)) (λ_ _ _ _ _=>(jv<|ct oz (b7 hu (pv 3) (pv 6) λ_ _=>rfl)<|pv 5)) λ_ _ _ _ _=>(pv 6))
  (ao<|dL<|JJ (pv 4)<|iR K (pv 7) aI))))
  (ao<|aM<|pv 4))))),?_]
 show#[2,_,s,j,0,hb,hj,λH1 d b N hd e1 S=>?_];show#[2,d,1,cP.k (k:=ik i) e1,1,?_];rw[nv S.nd];show cg (λt1=>?_) λt1=>?_
 .let hno:i∉b.map (·.1):=by simpa using t1
  show#[cH _,λp I=>?_];let e:chain ↥s i j=[]:=by unfold chain;rw[S.Lo ok hno]
  rw[e]at k;show k _ _ (am.upd N<|N.free I) (N.free I) ag
 let hin:i∈b.map (·.1):=by simpa using t1
 let[[J,dd],hm,0]:=ae.mp hin;let ec:chain ↥s J j=walk ↥s j dd J:=by unfold chain;rw[S.Ln ok hm]
 rw[ec]at k;show#[1,c6,λt F=>?_];let g:H t=none:=N.free F;let L:d≠t:=cI e1 F;let l:∀{x},x∈b.map (·.1)↔x∈members ↥s j:=λ{x}=>S.key ok.so
 let' W:Nat->St->Hp->Prop:=λm σ u=>∃(o:List Nat) (a:Nat) (v5 v6 v7:Option V),σ=[some vb,some<|.int (J:Int),some<|.int (j:Int),some<|.ref d,some<|.ref t,v5,v6,v7]/\am H u/\u d=some (.dK<|stK b)/\u t=some (.lst<|(zs o).map V.int++[.int (a:Int)])/\(a,m)∈b/\o++walk ↥s j m a=walk ↥s j dd J/\o.length+m<=128
 let dlt:=S.below ok hm;let glen:s.graph.length<=128:=by let:=cz (s:=s);unfold Vbpcaf.nodes at this;rw[ac]at this;show this
 show#[W,#[dd,[],J,none,none,none,0,am.upd N g,?_,ag,hm,0,by simp;lk],?_]
 .rw[aA L];show e1
 ext m σ H2 ⟨o,a,v5,v6,v7,rfl,s2,d2,C,c,hw,hlen⟩;show#[2,t,_,_,1,0,cc.of C,xV _ _,1,0,1,cg (λt2=>?_) λt2=>?_]
 .let hne:a≠j:=by
   intro z;subst z;simp at t2
  cases m with
  |zero=>show absurd (i_.mp<|(S.is 0 a).mp #[(0),aE _,c]).2 hne
  |succ r=>
   let[nx,hnx,y,G]:=S.Nq ok c;show#[λU u=>∃m',m'<r+1/\W m' U u,λU u q=>q,?_];let e3:cP H2 d (kV<|ik a) (some<|.int ((r+1:Nat):Int)):=by rw[<-iZ S.nd c];show cP.k (k:=ik a) d2
   show#[3,t,_,_,1,0,cc.of C,xV _ _,d,1,e3,_,1,0,?_];dsimp only[dQ];show zU<|vM ?_;let D:=hb.same s2;let[ba,bdx,bfs,0,bo,bn]:=D.obj;let hcn:=cK ok.so<|l.mp<|ae.mpr #[_,c,0];show#[1,ba,bdx,bfs,0,bo,bn _ dk,2,t,_,_,1,0,cc.of C,xV _ _,_,s,a,0,D,hcn,λH3 tl Z htl e4=>#[tl,0,#[_,cc.of e4],?_]];show kG (K:=K) (src_list (R:=iu)) iu.mon (λn=>(reach ↥s r j).contains n) id ?_ (λu e=>#[cc.of (e _ _ e4),fL _]) ?_ ?_
   .let l1:=fM (So.nodup<|ok.La a) λx Y=>ok.mem Y;let l2:=cz (s:=s);lk
   .ext x v H4 Q1 Q0 Y O r4 k1 k0;let 0:=r4;let hxm:=l.mpr<|(bc ok).mpr<|((bc ok).mp<|l.mp<|ae.mpr #[_,c,0]).step Y;let[[R,dx],B,0]:=ae.mp hxm;let X:cP H4 d (kV<|ik R) (some<|.int (dx:Int)):=by rw[<-iZ S.nd B];show cP.k (k:=ik R)<|O _ _<|Z _ _ d2
    let I:(reach ↥s r j).contains R=decide (dx=r):=by
     rw[bQ,bg,aT,G R Y];show#[λq=>Bw S.nd B q,λq=>q▸B]
    show#[0,2,d,1,X,1,0,1,cg (λt3=>?_) λt3=>?_]
    .let e:dx=r:=by let:=aF t3;injection this with this;lk
     show#[1,k1 _ _ (am.refl _) (by change(reach ↥s r j).contains R=true;rw[I];show aU e) rfl]
    .show k0 _ (am.refl _) ?_;rw[I];show bE λe=>cb t3 ?_;subst e;congr 1;lk
   .intro H4 nl acc O hnl X pr;rw[f9]at pr;rw[pL pr]at X;let c4:=O _ _<|Z _ _ C;let hd0:=DY y;let a0:AW ((zs ((neighbours ↥s a).filter λn=>(reach ↥s r j).contains n)).map V.int) 0=some (.int (nx:Int)):=bH (j:=0)<|by rw[aZ,zs,aZ,hd0];rfl
    show#[1,.inl #[0,_,cc.of c4],1,nl,_,_,1,0,cc.of X,a0,t,_,1,0,c4,?_,?_]
    .rw[aW,ac,zs,ac,fH];show bi (show _<=200 by lk) de
    .show#[r,AA _,o++[a],nx,_,_,1,am.upd ((s2.trans Z).trans O) g,?_,?_,hnx,?_,?_]
     .rw[aA L];show O _ _<|Z _ _ d2
     .rw[ag];simp[zs]
     .grind [walk]
     .grind
 .let hej:a=j:=by
   show au λz=>?_;simp at t2;lk
  subst hej;let h0:m=0:=by
   let[v,hv,q]:=(S.is 0 a).mpr<|i_.mpr #[hj,0];let:=Bw S.nd c q;lk
  subst h0;show#[1,?_];rw[<-hw]at k;show k _ _ s2 g ?_;rw[C];simp[zs,walk]
end
def HJ(s:Board)(n:Nat):List Nat:=(List.range<|s.layers+1).filter λk=>s.all.any λa=>(members ↥s n).contains a.1&&decide (a.2.lo<=k/\k<=a.2.hi)
section
variable{K:Frag}{CP CB:Addr}
def mr(K:Frag)(CP CB:Addr):Sp:=λb H Q _=>∃(a:V) (s:Board) (n:Nat),b=[a,.int (n:Int)]/\dD K CP CB H a s/\n∈nodes ↥s/\nr H Q (zs<|HJ s n)
def Kn(n:Nat):So (List.range n):=i0
def uB(T:Facts K mg CP CB):Df P w K mg base 3 "levels_of_part" ["board","number"] (mr K CP CB):=by
 show T.uV.dx ["board","number","levels","other","piece","layer"] λf cdv A outer s H vs Q E hr nd hu h=>?_;let[vb,s,n,0,N,hn,k]:=h;let ok:=cD N.ok;show#[_,(af (aS 2 nd gW)
  (af (dZ cm rfl (x_<|du (Cd T) hr<|aa (pv 0)<|aa (pv 1) ah) (bF 3 nd)
  (af (aS 4 nd<|b7 hu (fv K 0) (pv 3) λ_ _=>rfl)
  (ao (dZ cm rfl (AO rfl T.Bt.range<|aa (fv K 4)<|aa (ad (fv K 4) aI) ah) (bF 5 nd)
  (ao<|gO hu (pv 2) (pv 5) iN rfl)))))
  (ao<|aM<|bC jw SY T.Bt.sorted boot_sorted<|aa (pv 2) ah))),?_]
 show λld W=>?_;let s0:am H (upd H ld<|.dK []):=am.new W;show#[2,_,s,n,0,N.same s0,hn,λH1 d c s1 hd e1 S=>?_];let ndl:d≠ld:=λz=>by rw[z,ag]at hd;cases hd
 let hd0:=s0.free hd;show#[d,1,e1,λo=>?_];let B:∀{x},x∈c.map (·.1)↔x∈members ↥s n:=λ{x}=>S.key ok.so;let lay:s.layers<=16:=let #[_,_,_,_,_,_,_,_,_,g]:=N;g.lay;have Fj:=let #[_,_,_,_,_,_,_,_,_,g]:=N;g.Fj;show dh (pC (o:=o)) (λj J G=>∃(L:List Nat) (v3 v4 I:Option V),J=[some vb,some<|.int (n:Int),some<|.ref ld,v3,v4,I]/\am H G/\G ld=some (.dK<|uz L)/\G d=some (.g9 o<|.dK<|stK c)/\L.Nodup/\∀x,x∈L↔∃y∈(c.map (·.1)).take j,∃a,s.get y=some a/\a.lo<=x/\x<=a.hi)
  #[[],none,none,none,0,am.upd (s0.trans s1) hd0,?_,ag,.nil,by simp] (λj J G _ z=>let #[_,_,_,_,_,_,_,e,_]:=z;e) ?_ ?_
 .rw[aA<|bJ ndl];show s1 _ _ ag
 .ext j kk v J H2 H3 U ⟨L,v3,v4,I,rfl,s2,l2,d2,M,t⟩ s3 r3;let 0:=r3;rw[fG,aZ]at U;cases O:(c.map (·.1))[j]?with
  |none=>rw[O]at U;cases U
  |some y=>
   rw[O]at U;let 0:ik y=kk:=bj U;let tk:(c.map (·.1)).take (j+1)=(c.map (·.1)).take j++[y]:=by rw[cM,O];rfl
   let hyn:=cK ok.so<|B.mp<|aX O;let[a,F]:=jk hyn;let s23:=s2.trans s3;let[bfs,pd,bld,gd,kvs,bL,cW,bo,bb,g]:=N.same s23;let[pa,vp,pat]:=g.ie.get F;let[pfs,po,pf]:=pat.is T.TP;show#[1,_,_,_,bo,bb.pieces,1,pd,1,(by rw[<-vp];show cP.k g.ie.at_),?_]
   let pk:=Fj y a F;let h1:=pk.lo;let h2:=pk.hi;let h3:=pk.top;show#[1,_,_,_,po,pf.first,1,_,_,_,po,pf.last,_,1,0,_,1,#[?_,?_,?_,?_],?_]
   .change -(2^62)<=(a.lo:Int);lk
   .change(a.lo:Int)<2^62;lk
   .change -(2^62)<=(a.hi:Int)+1;lk
   .change(a.hi:Int)+1<2^62;lk
   show dh (src_range (lo:=(a.lo:Int)) (n:=((a.hi:Int)+1 -(a.lo:Int)).toNat)) (λi J G=>∃(L:List Nat) (I:Option V),J=[some vb,some<|.int (n:Int),some<|.ref ld,some<|.int (y:Int),some<|.ref pa,I]/\am H G/\G ld=some (.dK<|uz L)/\G d=some (.g9 o<|.dK<|stK c)/\L.Nodup/\∀x,x∈L↔(∃y∈(c.map (·.1)).take j,∃a,s.get y=some a/\a.lo<=x/\x<=a.hi)\/(a.lo<=x/\x<a.lo+i))
    #[L,I,0,s23,s3 _ _ l2,s3 _ _ d2,M,λx=>by rw[t];show#[.inl,λq=>q.elim id λq=>absurd q om]] (λ_ _ _ _ _=>trivial) ?_ ?_
   .ext i x v J H4 H5 hx ⟨L,I,rfl,s4,l4,d4,D,u⟩ s5 r5;let[hi,0]:=B2 hx;let 0:=r5;let ex:(a.lo:Int)+(i:Int)=((a.lo+i:Nat):Int):=om;let C:=fM D (m:=List.range 17) (λz hz=>by
     rw[cB];let[y',_,a',l,r,q3]||q:=(u z).mp hz
     .let:=(Fj y' a' l).top;lk
     .lk)
    let Z:L.length<=17:=by rw[cu]at C;show C
    rw[ex];show#[2,ld,1,lT.k (k:=ik<|a.lo+i) (s5 _ _ l4) ?_,?_]
    .rw[uz,ac];show bi Z de
    rw[xl];show#[_,1,am.upd (s4.trans s5) W,ag,?_,?_,λz=>?_]
    .rw[aA ndl];show s5 _ _ d4
    .split
     .show D
     .rename_i hno;rw[di];show#[D,by simp,λp hp q hq e=>by simp at hq;subst hq;subst e;show hno hp]
    .let key:z∈(if a.lo+i∈L then L else L++[a.lo+i])↔z∈L\/z=a.lo+i:=by
      split
      .rename_i hin;show#[.inl,λq=>q.elim id λq=>q▸hin]
      .rw[aG,aP]
     rw[key,u];walk
     .ext((q|q)|q)
      .show .inl q
      .show .inr om
      .show .inr om
     .ext(q|q)
      .show .inl<|.inl q
      .by_cases e:z=a.lo+i
       .show .inr e
       .show .inl<|.inr om
   .ext J H4 ⟨L,I,rfl,s4,l4,d4,D,u⟩;rw[ac,cu]at u;show#[L,_,_,1,s4,l4,d4,D,λx=>?_];rw[u,tk];simp only[aG,aP];walk
    .ext(⟨y',l,r⟩|q)
     .show#[y',.inl l,r]
     .show#[y,.inr rfl,a,F,om,om]
    .ext⟨y',l|l,a',r,q3,q4⟩
     .show .inl #[y',l,a',r,q3,q4]
     .subst l;rw[F]at r;cases r
      show .inr om
 .ext J H2 ⟨L,v3,v4,I,rfl,s2,l2,d2,M,t⟩;let R:((stK c).map (·.1)).length=(c.map (·.1)).length:=by rw[fG,ac]
  rw[R,bK]at t;let[ns,h1,h2,h3]:=kn (kvs:=uz L) (l:=L) (by rw[nE];show ly (λa b e=>dw e) M) λkk=>by
   rw[nE,ae];show#[λ#[m,l,r]=>#[m,r.symm,l],λ#[m,l,r]=>#[m,r,l.symm]]
  show#[1,ld,_,ns,0,Rd.of l2,h1,λns' p hp ho Y=>?_];let so:So (HJ s n):=So.filter (Kn _) _;rw[jz hp ho h2 so λx=>by
   rw[h3];walk
   .ext⟨m,X,rfl⟩;show#[m,?_,0];let[y,O,a,F,l,r]:=(t m).mp X;let pk:=Fj y a F;let:=pk.top;unfold HJ;rw[aw,cB];show#[om,ci.mpr #[(y,a),lZ.mpr #[gz N.ok F,F],?_]];rw[be,bg,aT];show#[B.mp O,l,r]
   .ext⟨m,X,rfl⟩;show#[m,?_,0];unfold HJ at X;rw[aw]at X;let[[y,a],F,q]:=ci.mp X.2;rw[be,bg,aT]at q;show(t m).mpr #[y,B.mpr q.1,a,(lZ.mp F).2,q.2.1,q.2.2]]
  show k _ _ (am.upd s2<|s2.free Y) (s2.free Y) ag
end
section
open Vbpcaf
abbrev bT:=List<|Nat×Nat
abbrev ks(a:bT):List Nat:=a.map (·.1)
inductive ig(cf:bT):Nat->Nat->Prop
 |refl {a}:a∈ks cf->ig cf a a
 |step {a b p}:(b,p)∈cf->ig cf a p->ig cf a b
def ig.mono(h:∀e,e∈d->e∈c)(x:ig d a b):ig c a b:=by
 induction x with
 |refl m=>
  let[e,f,0]:=ae.mp m;show .refl<|ae.mpr #[e,h e f,0]
 |step m _ g=>show .step (h _ m) g
def ig.trans(x:ig d a b)(y:ig d b c):ig d a c:=by
 induction y with
 |refl _=>show x
 |step m _ e=>show .step m e
def ig.left(x:ig c a b):a∈ks c:=by
 induction x with
 |refl m=>show m
 |step _ _ d=>show d
def ig.right(x:ig c a b):b∈ks c:=by
 cases x with
 |refl m=>show m
 |step m _=>show ae.mpr #[_,m,0]
structure Tree(g:Graph)(r:Nat)(cf:bT):Prop where
 nd:(ks cf).Nodup
 par:∀(i x p:Nat),cf[i]?=some (x,p)->(i=0/\x=r/\p=r)\/(0<i/\(∃j,j<i/\(ks cf)[j]?=some p)/\x∈neighbours g p)
section
variable{cf:bT}
abbrev pl(cf:bT)(x:Nat):Nat:=(ks cf).idxOf x
def Ko(a:(ks cf).Nodup)(h:(ks cf)[i]?=some x):pl cf x=i:=by
 grind
def Nj(h:x∈ks cf):(ks cf)[pl cf x]?=some x:=by
 grind
def uC(e:(ks cf).Nodup)(c:x∈ks cf)(d:y∈ks cf)(h:pl cf x=pl cf y):x=y:=by
 let a:=Nj c;let b:=Nj d;rw[h,b]at a;show(bj a).symm
def ent(h:(ks cf).Nodup)(m:(x,p)∈cf):cf[pl cf x]?=some (x,p):=by
 let[i,b,e]:=qE m;let a:(ks cf)[i]?=some x:=by grind
 rw[Ko h a,ak b,e]
def qk(a:(ks cf).Nodup)(b:(x,p)∈cf)(c:(x,q)∈cf):p=q:=by
 let:=(ent a b).symm.trans<|ent a c;show(qF<|bj this).2
def Tree.up(T:Tree g r cf)(m:(x,p)∈cf):(x=r/\p=r)\/(pl cf p<pl cf x/\p∈ks cf/\x∈neighbours g p):=by
 let[_,b,a]||[_,[j,c,e],a]:=T.par _ _ _ (ent T.nd m)
 .show .inl #[b,a]
 .show .inr #[?_,aX e,a];rw[Ko T.nd e];show c
def Tree.jf(T:Tree g r cf)(h:ig cf a b):pl cf a<=pl cf b:=by
 induction h with
 |refl _=>show aE _
 |step m _ c=>
  let[0,0]||[d,_]:=T.up m
  .show c
  .lk
def Tree.ON(T:Tree g r cf)(h:ig cf a b)(c:a≠b):pl cf a<pl cf b:=by
 let d:=T.jf h;show Nat.lt_of_le_of_ne d λe=>c<|uC T.nd h.left h.right e
def Tree.Sf(T:Tree g r cf)(d:ig cf a c)(e:ig cf b c):ig cf a b\/ig cf b a:=by
 induction d generalizing b with
 |refl _=>show .inr e
 |@step c p m d h=>
  cases e with
  |refl j=>show .inl<|.step m d
  |step i f=>
   rw[qk T.nd i m]at f;show h f
def Tree.nF(T:Tree g r cf):∀{x:Nat},x∈ks cf->ig cf r x:=by
 let c:∀(n x:Nat),pl cf x=n->x∈ks cf->ig cf r x:=by
  intro n
  induction n using Nat.strongRecOn with
  |_ n h=>
   intro x e a;let[[i,p],m,0]:=ae.mp a;let[b,d]||[b,d,_]:=T.up m
   .change ig cf r i;let f:=b;rw[f]at a|-;show .refl a
   .show .step m<|h _ (by rw[<-e];show b) p rfl d
 show λ{x} a=>c _ x rfl a
def Tree.below(T:Tree g r cf)(h:ig cf a b)(d:a≠b):∃c,(c,a)∈cf/\ig cf c b/\c≠r:=by
 induction h with
 |refl _=>show absurd rfl d
 |@step b p m o j=>
  by_cases e:a=p
  .subst e;show#[b,m,.refl<|ae.mpr #[_,m,0],λz=>?_];let[i,f]||[i,f,_]:=T.up m
   .show d<|f.trans i.symm
   .subst z;let:=T.jf<|T.nF f;lk
  .let[c,k,l,n]:=j e;show#[c,k,.step m l,n]
end
structure Wf(g:Graph)(r:Nat)(cf S:bT):Prop where
 tree:Tree g r cf
 st:∀x p,(x,p)∈S->(p∈ks cf/\x∈neighbours g p)\/(cf=[]/\x=r/\p=r)
 emp:cf=[]->S=[(r,r)]
 chain:S.Pairwise λe e'=>ig cf e.2 e'.2
 pend:∀v y,v∈ks cf->y∈neighbours g v->y∉ks cf->(y,v)∈S
 OO:∀x y,x∈ks cf->y∈ks cf->y∈neighbours g x->ig cf x y\/ig cf y x
 mem:∀x,x∈ks cf->x∈members g r
structure qR(g:Graph)(r:Nat)(cf:bT):Prop where
 tree:Tree g r cf
 key:∀x,x∈ks cf↔x∈members g r
 OO:∀x y,x∈ks cf->y∈neighbours g x->ig cf x y\/ig cf y x
section
variable{g:Graph}{r:Nat}{cf S:bT}
def Wf.start(g:Graph)(r:Nat):Wf g r [] [(r,r)]:=
 #[#[by simp,λi x p h=>by simp at h],λx p h=>.inr<|by simpa using h,λ_=>rfl,by simp,λv y h=>by simp at h,λx y h=>by simp at h,λx h=>by simp at h]
def Wf.skip(h:Wf g r cf (S++[(x,p)]))(c:x∈ks cf):Wf g r cf S where
 tree:=h.tree
 st:=λy q m=>h.st y q (cJ _ m)
 emp:=λe=>by subst e;simp at c
 chain:=(R_.mp h.chain).1
 pend:=λv y b d a=>by
  let q||q:=aG.mp (h.pend v y b d a)
  .show q
  .grind
 OO:=h.OO
 mem:=h.mem
def Wf.visit(ok:gF g)(O:r∈nodes g){x p:Nat}(h:Wf g r cf (S++[(x,p)]))(K:x∉ks cf){new:List Nat}(J:∀y,y∈new↔y∈neighbours g x/\y∉ks (cf++[(x,p)])):
  Wf g r (cf++[(x,p)]) (S++new.map λy=>(y,x)):=by
 let d:∀{a b},ig cf a b->ig (cf++[(x,p)]) a b:=λ{a b} q=>q.mono λe L=>cJ _ L;let c:∀{y},y∈ks (cf++[(x,p)])↔y∈ks cf\/y=x:=λ{y}=>by simp[ks]
 let w:=h.st x p<|aD _<|by simp
 let ent:(x,p)∈cf++[(x,p)]:=aD _<|by simp
 let s:∀{q},ig cf q p->ig (cf++[(x,p)]) q x:=λ{q} N=>.step ent<|d N;let I:=λ{y q} m=>s<|(R_.mp h.chain).2.2 (y,q) m (x,p)<|by simp
 show#[#[?_,λi y q u=>?_],λy q m=>?_,λe=>by simp at e,?_,λv y o z M=>?_,λa b A t k=>?_,λy z=>?_]
 .change(List.map (·.1)<|cf++[(x,p)]).Nodup;rw[bw,di];show#[h.tree.nd,by simp,λa A b t e=>by simp at t;subst t;subst e;show K A]
 .by_cases F:i<cf.length
  .rw[jK F]at u;let f||[f,[j,B,e],n]:=h.tree.par i y q u
   .show .inl f
   .show .inr #[f,#[j,B,?_],n];change(List.map (·.1)<|cf++[(x,p)])[j]?=some q;rw[bw,jK<|by rw[ac];lk]
    show e
  .let E:i=cf.length:=by
    let:=(aJ.mp u).1;rw[aW,fH]at this;lk
   subst E;rw[oM<|aE _,Nat.sub_self]at u;let[0,0]:=qF<|bj u;let[f,n]||[f,n,Q]:=w
   .let[j,B,e]:=qE f;rw[ac]at B;show .inr #[om,#[j,B,?_],n];change(List.map (·.1)<|cf++[_])[j]?=some _;rw[bw,jK<|by rw[ac];lk,ak<|by rw[ac];lk,e]
   .grind
 .let m||m:=aG.mp m
  .let[f,n]||[f,_]:=h.st y q (cJ _ m)
   .grind
   .let:=h.emp f;cases S with
    |nil=>simp at m
    |cons a l=>simp at this
  .grind
 .rw[R_];show#[ip (λq=>d q) (R_.mp h.chain).1,?_,λa A b t=>?_]
  .rw[wU];show List.pairwise_of_forall λ_ _=>.refl<|c.mpr<|.inr rfl
  .grind
 .let o||0:=c.mp o
  .let G:=λq=>M<|c.mpr<|.inl q;let q||q:=aG.mp (h.pend v y o z G)
   .show cJ _ q
   .grind
  .grind
 .
  let P:∀{v},v∈ks cf->x∈neighbours g v->ig (cf++[(x,p)]) v x:=λ{v} o H=>by
   let q||q:=aG.mp (h.pend v x o H K)
   .show I q
   .simp at q;subst q;show s<|.refl o
  let C||C:=c.mp A<;>let D||D:=c.mp t
  .show(h.OO a b C D k).imp d d
  .grind
  .rw[C]at k|-;show .inr<|P D<|ok.sym k
  .rw[C,D]at k;show absurd k ok.Pl
 .let z||0:=c.mp z
  .show h.mem y z
  .let[f,n]||[_,n,_]:=w
   .show(bc ok).mpr<|((bc ok).mp<|h.mem p f).step n
   .rw[n];show jB ok O
def Wf.done(ok:gF g)(h:Wf g r cf []):qR g r cf:=by
 let c:cf≠[]:=λe=>by let:=h.emp e;cases this
 let d:=λv y l b=>au λk=>by let:=h.pend v y l b k;simp at this
 let i:r∈ks cf:=by
  cases cf with
  |nil=>show absurd rfl c
  |cons e t=>
   let[_,f,_]||[f,_]:=h.tree.par 0 e.1 e.2 rfl
   .rw[<-f];simp[ks]
   .lk
 show#[h.tree,λx=>#[h.mem x,λa=>?_],λx y a b=>h.OO x y a (d x y a b) b];let:=(bc ok).mp a
 induction this with
 |refl _=>show i
 |step q j m=>show d _ _ (m<|(bc ok).mpr q) j
end
end
section
open Vbpcaf
def yz:nodes (Vbpcaf.without g k)=(nodes g).filter λn=>n !=k:=by
 unfold nodes Vbpcaf.without;rw[bX,kE];rfl
def yA(ok:gF g):So (nodes<|Vbpcaf.without g k):=by rw[yz];show ok.so.filter _
def lO:x∈nodes (Vbpcaf.without g k)↔x∈nodes g/\x≠k:=by rw[yz,aw];simp
def sW(ok:gF g):y∈neighbours (Vbpcaf.without g k) x↔y∈neighbours g x/\x≠k/\y≠k:=by
 walk
 .intro h;let j:=p6 (yA ok) h;let[e,b,0]:=ln.mp j;rw[entry (yA ok) b]at h;let[l,f,0]:=ae.mp b;let[a,c]:=aw.mp f;let[d,i]:=aw.mp h;rw[entry ok.so a];show#[d,by simpa using c,by simpa using i]
 .ext⟨a,c,d⟩;let[e,b,0]:=ln.mp<|p6 ok.so a;rw[entry ok.so b]at a;let m:(e.1,e.2.filter λn=>n !=k)∈Vbpcaf.without g k:=ae.mpr #[e,aw.mpr #[b,by simpa using c],0]
  let:=entry (yA ok) m;rw[this];show aw.mpr #[a,by simpa using d]
def yB(ok:gF g):gF (Vbpcaf.without g k) where
 so:=yA ok
 La:=λi=>by
  by_cases h:i∈nodes (Vbpcaf.without g k)
  .let[e,j,0]:=ln.mp h;rw[entry (yA ok) j];let[m,f,0]:=ae.mp j;let[b,c]:=aw.mp f;let:=ok.La m.1;rw[entry ok.so b]at this;show this.filter _
  .let:neighbours (Vbpcaf.without g k) i=[]:=by
    cases e:neighbours (Vbpcaf.without g k) i with
    |nil=>rfl
    |cons a l=>show absurd (p6 (yA ok) (show a∈neighbours (Vbpcaf.without g k) i by rw[e];simp)) h
   rw[this];show .nil
 mem:=λh=>by
  let[b,c,d]:=(sW ok).mp h;show lO.mpr #[ok.mem b,d]
 sym:=λh=>by
  let[b,c,d]:=(sW ok).mp h;show(sW ok).mpr #[ok.sym b,d,c]
 Pl:=λh=>ok.Pl ((sW ok).mp h).1
def Nk(ok:gF g)(h:Jn (Vbpcaf.without g k) x y):Jn g x y:=by
 induction h with
 |refl h=>show .refl (lO.mp h).1
 |step _ a b=>show .step b ((sW ok).mp a).1
structure HK(g:Graph)(cf:bT)(E:Nat->Nat):Prop where
 OP:∀v,v∈ks cf->∃d,ig cf v d/\(E v=pl cf d\/∃y∈neighbours g d,E v=pl cf y)
 low:∀v d,ig cf v d->E v<=pl cf d/\∀y∈neighbours g d,E v<=pl cf y
section
variable{g:Graph}{k:Nat}
def qR.node(ok:gF g)(D:qR g r a)(h:x∈ks a):x∈nodes g:=cK ok.so<|(D.key x).mp h
def qR.closed(ok:gF g)(D:qR g r a)(h:x∈ks a)(b:y∈neighbours g x):y∈ks a:=
 (D.key y).mpr ((bc ok).mpr<|((bc ok).mp<|(D.key x).mp h).step b)
def qR.root(ok:gF g)(D:qR g r a)(b:r∈nodes g):r∈ks a:=(D.key r).mpr<|jB ok b
def qR.Kq(ok:gF g)(D:qR g r b)(d:r∈nodes g):pl b r=0:=by
 let h:=D.root ok d;cases e:b with
 |nil=>rw[e]at h;simp at h
 |cons a t=>
  let:=D.tree.par 0 a.1 a.2<|by rw[e];rfl
  let[_,c,_]||[c,_]:=this
  .rw[<-c];simp[pl,ks]
  .lk
def Tree.child(T:Tree g r b)(m:(c,a)∈b)(e:c≠r):pl b a<pl b c/\a∈ks b/\c∈neighbours g a:=by
 let[d,_]||h:=T.up m
 .show absurd d e
 .show h
def Tree.above(T:Tree g r b)(m:(c,a)∈b)(h:ig b y c)(d:y≠c):ig b y a:=by
 cases h with
 |refl _=>show absurd rfl d
 |step f e=>rw[qk T.nd m f];show e
def Kr(ok:gF g)(D:qR g r e)(h:ig e a b)(d:∀c,ig e a c->ig e c b->c≠k):Jn (Vbpcaf.without g k) a b:=by
 induction h with
 |refl m=>show .refl<|lO.mpr #[D.node ok m,d _ (.refl m)<|.refl m]
 |@step b p m i n=>
  let[l,f]||[l,f,o]:=D.tree.up m
  .subst l;subst f;show n d
  .let q:b∈ks e:=ae.mpr #[_,m,0];let j:=n λc s t=>d c s<|.step m t;show .step j<|(sW ok).mpr #[o,d p i<|.step m<|.refl f,d b (.step m i)<|.refl q]
def t1(ok:gF g)(D:qR g r a)(b:j∈ks a)(h:¬ig a k j):Jn (Vbpcaf.without g k) r j:=
 Kr ok D (D.tree.nF b) λc _ q e=>h<|e▸q
def QD(ok:gF g)(D:qR g r a)(m:(c,k)∈a)(d:c≠r)(h:ig a c j):Jn (Vbpcaf.without g k) c j:=
 Kr ok D h λx q _ e=>by
  let b:=D.tree.jf q;let f:=(D.tree.child m d).1;rw[e]at b;lk
def t2(ok:gF g)(D:qR g r b)(L:HK g b E)(m:(c,k)∈b)(w:c≠r)(v:E c=pl b k)(p:¬ig b c x)(h:Jn (Vbpcaf.without g k) x j):¬ig b c j:=by
 induction h with
 |refl _=>show p
 |@step y z _ s i=>
  let[n,o,u]:=(sW ok).mp s;intro a;let d:=ok.sym n;let q||q:=D.OO z y a.right d
  .show i<|a.trans q
  .let l||l:=D.tree.Sf q a
   .let f:y≠c:=λe=>i<|by rw[e];show .refl a.left
    let t:=D.tree.above m l f;let A:=D.tree.ON t o;let B:=(L.low c z a).2 y d;lk
   .show i l
def t3(ok:gF g)(D:qR g r a)(L:HK g a E)(m:(c,k)∈a)(o:c≠r)(w:E c≠pl a k):Jn (Vbpcaf.without g k) r c:=by
 let p:=D.tree.child m o;let b:c∈ks a:=ae.mpr #[_,m,0];let v:=(L.low c c<|.refl b).2 k<|ok.sym p.2.2;let[d,e,q]:=L.OP c b;let f:=D.tree.jf e;let q||[y,j,q]:=q
 .lk
 .let n:=D.closed ok e.right j;let s:ig a y d:=by
   let z||z:=D.OO d y e.right j
   .let:=D.tree.jf z;lk
   .show z
  let i:¬ig a k y:=λz=>by let:=D.tree.jf z;lk
  let t:=t1 ok D n i;let h:d≠k:=λz=>by rw[z]at f;lk
  let l:y≠k:=λz=>by rw[z]at q;lk
  let u:Jn (Vbpcaf.without g k) r d:=.step t<|(sW ok).mpr #[ok.sym j,l,h];show u.trans<|(QD ok D m o e).symm<|yB ok
def GC(ok:gF g)(D:qR g r a)(L:HK g a E)(m:(c,k)∈a)(b:c≠r):E c<=pl a k:=
 (L.low c c<|.refl<|ae.mpr #[_,m,0]).2 k (ok.sym (D.tree.child m b).2.2)
def Fy(ok:gF g)(D:qR g r a)(L:HK g a E)(s:r∈nodes g)(o:j∈ks a):
  (∃c,ig a c j/\(c,k)∈a/\c≠r/\k≠r/\E c=pl a k)↔k∈nodes g/\k≠r/\k≠j/\joined (Vbpcaf.without g k) r j=false:=by
 let t:joined (Vbpcaf.without g k) r j=false↔¬Jn (Vbpcaf.without g k) r j:=by
  unfold joined;rw[<-iH,bg,bc<|yB ok]
 rw[t];let u:=D.Kq ok s;walk
 .ext⟨c,f,b,d,e,n⟩;let m:=D.tree.child b d;show#[D.node ok m.2.1,e,λz=>?_,λz=>?_]
  .subst z;let:=D.tree.jf f;lk
  .show t2 ok D L b d n (λq=>?_) z f;let:=D.tree.jf q;lk
 .ext⟨f,b,d,e⟩;let p:=au λz=>e<|t1 ok D o z;let[c,h,l,i]:=D.tree.below p d;show#[c,l,h,i,b,au λz=>e ?_];show(t3 ok D L h i z).trans<|QD ok D h i l
def uD(g:Graph)(k:Nat):Prop:=∃x y,x∈members g k/\y∈members g k/\x≠k/\y≠k/\¬Jn (Vbpcaf.without g k) x y
def GD(ok:gF g)(D:qR g r b)(L:HK g b E)(K:r∈nodes g)(W:k∈ks b):
  ((k≠r/\∃c,(c,k)∈b/\c≠r/\E c=pl b k)\/(k=r/\∃c d,c≠d/\(c,k)∈b/\c≠r/\E c=pl b k/\(d,k)∈b/\d≠r/\E d=pl b k))↔uD g k:=by
 let P:=D.Kq ok K;let B:=(D.key k).mp W;let same:∀x,x∈members g k↔x∈ks b:=λx=>by rw[yu ok B,D.key]
 walk
 .ext(⟨l,c,i,j,t⟩|⟨l,c,d,i,j,t,Y,u,A,U⟩)
  .let T:=D.tree.child i j;let f:c∈ks b:=ae.mpr #[_,i,0];show#[r,c,(same r).mpr<|D.root ok K,(same c).mpr f,bJ l,λz=>by rw[z]at T;lk,λz=>?_]
   show t2 ok D L i j t (λq=>?_) z<|.refl f;let:=D.tree.jf q;lk
  .let f:c∈ks b:=ae.mpr #[_,j,0];let h:d∈ks b:=ae.mpr #[_,u,0];show#[c,d,(same c).mpr f,(same d).mpr h,by rw[l];show t,by rw[l];show A,λz=>?_]
   show t2 ok D L u A U (λq=>?_) z<|.refl h;let O:=D.tree.jf<|D.tree.above j q<|bJ i;let:=(D.tree.child u A).1;lk
 .ext⟨x,y,F,G,M,N,J⟩;rw[same]at F G;by_cases e:k=r
  .let S:=D.tree.below (show ig b k x by rw[e];show D.tree.nF F)<|bJ M
   let s:=D.tree.below (show ig b k y by rw[e];show D.tree.nF G)<|bJ N
   let[c,m,Q,n]:=S;let[d,o,R,p]:=s
   show .inr #[e,c,d,λz=>J ?_,m,n,?_,o,p,?_]
   .subst z;show((QD ok D m n Q).symm<|yB ok).trans<|QD ok D o p R
   .let:=GC ok D L m n;rw[e,P]at this|-;lk
   .let:=GC ok D L o p;rw[e,P]at this|-;lk
  .show .inl #[e,au λz=>J ?_];let all:∀v,v∈ks b->v≠k->Jn (Vbpcaf.without g k) r v:=λv X C=>by
    by_cases a:ig b k v
    .let[c,H,O,I]:=D.tree.below a<|bJ C;show(t3 ok D L H I λw=>z #[c,H,I,w]).trans<|QD ok D H I O
    .show t1 ok D X a
   show((all x F M).symm<|yB ok).trans<|all y G N
end
section
variable{g:Graph}{k:Nat}
def Bc{l:List Nat}(p q:Nat->Bool):(l.filter p).length=(l.filter λx=>p x&&q x).length+(l.filter λx=>p x&&!q x).length:=by
 induction l with
 |nil=>rfl
 |cons a l b=>
  simp only[js];cases p a<;>cases q a<;>simp[b]<;>lk
def Ks{l:List Nat}(h:1<l.length)(c:l.Nodup):∃x y,x∈l/\y∈l/\x≠y:=by
 cases l with
 |nil=>simp at h
 |cons a l=>
  cases l with
  |nil=>simp at h
  |cons b l=>show#[a,b,by simp,by simp,λe=>by simp[e]at c]
def of_two{l:List Nat}{x y:Nat}(c:x∈l)(d:y∈l)(h:x≠y):1<l.length:=by
 cases l with
 |nil=>simp at c
 |cons a l=>
  cases l with
  |nil=>simp at c d;show absurd (c.trans d.symm) h
  |cons b l=>simp
def bV(ok:gF g):(parts g).length=((nodes g).filter<|isRoot g).length:=by rw[lD ok,ac]
def OQ(ok:gF g)(a:k∈nodes g)(f:x∈nodes g)(h:x∉members g k):members (Vbpcaf.without g k) x=members g x:=by
 show So.ext (gf (yA ok) x) (gf ok.so x) λy=>?_;rw[bc<|yB ok,bc ok];show#[Nk ok,λq=>?_];let b:∀z,Jn g x z->z≠k:=λz c e=>h<|ko ok<|(bc ok).mpr<|e▸c
 induction q with
 |refl m=>show .refl<|lO.mpr #[m,b _<|.refl m]
 |step q a d=>show .step d<|(sW ok).mpr #[a,b _ q,b _<|.step q a]
def DZ(ok:gF g)(s:k∈nodes g):((parts g).length<(parts<|Vbpcaf.without g k).length)↔uD g k:=by
 rw[bV ok,bV<|yB ok,yz,Aw]
 let' a:Nat->Bool:=λx=>(members g k).contains x
 let i:∀x,a x=true↔x∈members g k:=λx=>bg;rw[Bc (isRoot g) a,Bc (λx=>isRoot (Vbpcaf.without g k) x&&x !=k) a];let same:((nodes g).filter λx=>(isRoot (Vbpcaf.without g k) x&&x !=k)&&!a x)=(nodes g).filter λx=>isRoot g x&&!a x:=by
  show wT λx l=>?_;cases e:a x with
  |true=>simp
  |false=>
   let d:x∉members g k:=λq=>by rw[(i x).mpr q]at e;cases e
   let w:x≠k:=λz=>d<|by rw[z];show jB ok s
   unfold isRoot;rw[OQ ok s l d];simp[w]
 rw[same];let A:((nodes g).filter λx=>isRoot g x&&a x).length=1:=by
  let B:=e_ ok s;let e:((nodes g).filter λx=>isRoot g x&&a x)=[rootOf g k]:=by
   show So.ext (ok.so.filter _) SX λx=>?_
   rw[aw,aP,be,i];walk
   .ext⟨c,f,m⟩;rw[i6 ok c,aT]at f;rw[<-f,iE ok m]
   .ext rfl;let d:=iF ok s;show#[d,?_,B];rw[i6 ok d,aT,iE ok B]
  rw[e];rfl
 rw[A];let step:(1+((nodes g).filter λx=>isRoot g x&&!a x).length<((nodes g).filter λx=>(isRoot (Vbpcaf.without g k) x&&x !=k)&&a x).length+((nodes g).filter λx=>isRoot g x&&!a x).length)↔1<((nodes g).filter λx=>(isRoot (Vbpcaf.without g k) x&&x !=k)&&a x).length:=om;rw[step];let b:=yB (k:=k) ok;let j:∀x,x∈((nodes g).filter λx=>(isRoot (Vbpcaf.without g k) x&&x !=k)&&a x)↔x∈nodes (Vbpcaf.without g k)/\rootOf (Vbpcaf.without g k) x=x/\x∈members g k:=λx=>by
  rw[aw,be,be,i,lO];walk
  .ext⟨c,⟨f,m⟩,u⟩;let n:x≠k:=by simpa using m
   let d:=lO.mpr #[c,n];rw[i6 b d,aT]at f;show#[#[c,n],f,u]
  .ext⟨⟨c,f⟩,m,u⟩;let d:=lO.mpr #[c,f];show#[c,#[by rw[i6 b d,aT];show m,by simpa using f],u]
 walk
 .intro h;let[x,y,l,t,v]:=Ks h<|So.nodup<|ok.so.filter _;let[F,G,H]:=(j x).mp l;let[I,J,K]:=(j y).mp t;show#[x,y,H,K,(lO.mp F).2,(lO.mp I).2,λq=>v ?_];rw[<-G,<-J,iE b<|(bc b).mpr q]
 .ext⟨x,y,l,t,D,E,d⟩;let o:=lO.mpr #[cK ok.so l,D];let p:=lO.mpr #[cK ok.so t,E];let inr:∀z,z∈members g k->z∈nodes (Vbpcaf.without g k)->rootOf (Vbpcaf.without g k) z∈((nodes g).filter λx=>(isRoot (Vbpcaf.without g k) x&&x !=k)&&a x):=λz C r=>by
   let c:=e_ b r;show(j _).mpr #[iF b r,iE b c,?_];show jS ok C<|(bc ok).mpr<|Nk ok<|(bc b).mp c
  show of_two (inr x l o) (inr y t p) λe=>d ?_;let c:=e_ b o;let f:=e_ b p;rw[e]at c;show(bc b).mp<|jS b c<|ko b f
end
end
def sX(K:Frag):Rep (Nat×Nat):=λH v e=>IsT K H v [(e.1:Int),(e.2:Int)]
def sX.mon:Mon K (sX K):=λ_ _ _ _ t h=>h.ts t
def Mu(h:Paired F l i)(j:i≠[]):∃d v f x,l=d++[v]/\i=f++[x]/\Paired F d f/\F v x:=by
 induction h with
 |nil=>show absurd rfl j
 |@cons a b m g r t k=>
  cases g with
  |nil=>cases t;show#[[],a,[],b,0,0,.nil,r]
  |cons c g=>
   let[d,v,f,x,0,e,p,q]:=k<|by simp
   show#[a::d,v,b::f,x,0,by rw[e];rfl,.cons r p,q]
def Kt:∀{a b:List V} {c d:List e},Paired F a c->Paired F b d->Paired F (a++b) (c++d)
 |_,_,_,_,.nil,h=>h
 |_,_,_,_,.cons r t,h=>.cons r<|Kt t h
section
variable{K:Frag}{CP CB:Addr}
def og(K:Frag)(CP CB:Addr):Sp:=λe H Q _=>∃(d:V) (s:Board) (n:Nat),e=[d,.int (n:Int)]/\dD K CP CB H d s/\n∈nodes ↥s/\
 ∀b a c,am H b->H a=none->b a=some (.dK<|stK c)->qR ↥s n c->Q (.ref a) b
def D0(T:Facts K mg CP CB):Df P w K mg base 2 "walk_from" ["board","root"] (og K CP CB):=by
 show T.Ej.dx ["board","root","came_from","waiting","step","number","other"] λf cdv A outer s H vs Q E hr M hu h=>?_;let[vb,s,n,0,O,hn,k]:=h;let ok:=cD O.ok;show#[_,(af (aS 2 M gW)
  (af (aS 3 M<|cR<|aa (eI<|aa (pv 1)<|aa (pv 1) ah) ah)
  (af (m7 cm (ct oB (bC (mL K) SY T.Bt.len boot_len<|aa (pv 3) ah) aI) (af (aS 4 M<|RS<|pv 3)
  (af (aS 5 M<|ti K 4)
  (ao (cF (n6<|jP hu (pv 5)<|pv 2) (af (gO hu (pv 2) (pv 5) (ti K 4) rfl)
  (ao<|dL<|Gg (pv 3)<|ke rfl M (oE K<|met (z8 T) T.c8.cls hr (pv 0)<|aa (pv 5) ah) (cZ (own:=[("other",6)])<|by kernel_rfl) (λ_ _ _ _ _=>(bF 6 M)) (λ_ _ _ _ _=>(jv<|n6<|jP hu (pv 6)<|pv 2)) λ_ _ _ _ _=>(eI<|aa (pv 6)<|aa (pv 5) ah))) bA)))))
  (ao<|aM<|pv 2)))),?_]
 show λg F=>?_;let s0:am H (upd H g<|.dK []):=am.new F;show#[2,da,λt0 U=>#[c6,λi I=>?_]];let s1:=s0.trans<|am.new (o:=.tup [.int (n:Int),.int (n:Int)]) U;let j:=s1.free I;let u:(upd (upd H g<|.dK []) t0<|.tup [.int (n:Int),.int (n:Int)]) g=some (.dK []):=by
  rw[aA<|cI (show upd H g (.dK []) g=some (.dK [])from ag) U];show ag
 let' W:Nat->St->Hp->Prop:=λm σ r=>∃(c S:List (Nat×Nat)) (vs:List V) (v4 v5 v6:Option V),σ=[some vb,some<|.int (n:Int),some<|.ref g,some<|.ref i,v4,v5,v6]/\am H r/\r g=some (.dK<|stK c)/\r i=some (.lst vs)/\Paired (sX K r) vs S/\Wf ↥s n c S/\vs.length<=1+c.length*128/\m=((nodes ↥s).length -c.length)*200+S.length
 show#[W,#[_,[],[(n,n)],_,none,none,none,0,am.upd s1 j,?_,ag,?_,Wf.start _ _,by simp,0],?_]
 .rw[aA<|cI u I];show u
 .show .cons #[t0,0,gT.of ?_] .nil;let:(upd (upd H g<|.dK []) t0<|.tup [.int (n:Int),.int (n:Int)]) t0=some (.tup [.int (n:Int),.int (n:Int)]):=ag;rw[aA<|cI this I];show this
 ext m σ t ⟨c,S,vs,v4,v5,v6,rfl,s1',d1,w1,p1,o,vl,rfl⟩;let Y:c.length<=(nodes ↥s).length:=by
  let:=fM o.tree.nd λx hx=>cK ok.so<|o.mem x hx;rw[ac]at this;show this
 let C:=cz (s:=s);show#[1,i,1,.inl<|cc.of w1,_,1,0,1,cg (λt1=>?_) λt1=>?_]
 .let hne:S≠[]:=by
   intro z;subst z;cases p1
   simp at t1
  let[d,v,S',[x,p],0,0,p1',hv]:=Mu p1 hne;let[ta,0,ID]:=hv;show#[λσ' r=>∃m',m'<((nodes ↥s).length -c.length)*200+(S'++[(x,p)]).length/\W m' σ' r,λσ' r q=>q,?_];show#[1,.inl #[0,_,cc.of w1],i,_,.ref ta,0,0,w1,by simp,?_]
  rw[List.dropLast_concat];let tw:Tu K t (upd t i<|.lst d):=Tu.lst w1;let B:=tw _ _ ID;let L:=su d1 w1<|by intro z;cases z
  let d2:(upd t i<|.lst d) g=some (.dK<|stK c):=by rw[aA L];show d1
  let s2:am H (upd t i<|.lst d):=am.upd s1' j;let p2:=cO sX.mon tw p1';show#[_,_,1,B,0,?_];show#[2,g,1,cP.k (k:=ik x) d2,1,?_];rw[nv o.tree.nd];show cg (λt2=>?_) λt2=>?_
  .let G:x∉ks c:=by simpa using t2
   show#[_,_,1,B,0,2,g,1,lT.k (k:=ik x) d2 ?_,?_]
   .rw[stK,ac];show bi (aL Y C) de
   rw[sQ G];let d3:(upd (upd t i<|.lst d) g<|.dK<|stK<|c++[(x,p)]) g=some (.dK<|stK<|c++[(x,p)]):=ag;let s3:am H (upd (upd t i<|.lst d) g<|.dK<|stK<|c++[(x,p)]):=am.upd s2 F;let w3:(upd (upd t i<|.lst d) g<|.dK<|stK<|c++[(x,p)]) i=some (.lst d):=by rw[aA<|bJ L];show ag
   let p3:=cO sX.mon (Tu.dk (o:=.dK<|stK<|c++[(x,p)]) d2) p2;let X:x∈nodes ↥s:=by
    let[q1,q2]||[_,q2,_]:=o.st x p (aD _<|by simp)
    .show ok.mem q2
    .rw[q2];show hn
   let Z:(ks<|c++[(x,p)]).Nodup:=by
    change(List.map (·.1)<|c++[(x,p)]).Nodup;rw[bw,di];show#[o.tree.nd,by simp,λa ha b O e=>by simp at O;subst O;subst e;show G ha]
   generalize (upd (upd t i<|.lst d) g<|.dK<|stK<|c++[(x,p)])=H3 at d3 s3 w3 p3;show#[1,.inl #[0,_,cc.of w3],?_];show vj<|vM ?_;let R:=O.same s3;let[ba,bdx,bfs,0,bo,bn]:=R.obj;show#[1,ba,bdx,bfs,0,bo,bn _ dk,1,_,s,x,0,R,X,λH4 tl s4 htl e4=>#[tl,0,#[_,cc.of e4],?_]];let nbl:=aL (fM (So.nodup<|ok.La x) (m:=nodes ↥s) λy J=>ok.mem J) C;show kG (K:=K) (src_list (R:=iu) (xs:=neighbours ↥s x)) sX.mon (λy=>!decide (y∈ks (c++[(x,p)]))) (λy=>(y,x)) om (λr e=>#[cc.of (e _ _ e4),fL _]) ?_ ?_
   .ext y v H5 Q1 Q0 J s5 r5 k1 k0;let 0:=r5;show#[0,2,g,1,cP.k (k:=ik y)<|s5 _ _<|s4 _ _ d3,1,?_];rw[nv Z];show cg (λt3=>?_) λt3=>k0 _ (am.refl _) t3;show#[2,da,λq hq=>k1 _ _ (am.new hq) t3 #[q,0,gT.of ag]]
   .intro H5 D N s5 hD e5 pr5;let l:=s4.trans s5;let w5:=l _ _ w3;let acl:=pr5.length;rw[ac]at acl;let fl:=bu (λy=>!decide (y∈ks (c++[(x,p)])))<|neighbours ↥s x;let vl':d.length<=c.length*128:=by rw[aW,fH]at vl;lk
    show#[i,D,_,1,0,w5,e5,?_,?_]
    .show aL (show _<=100000 by lk) de
    let t5:Tu K H5 (upd H5 i<|.lst<|d++N):=Tu.lst w5;let wf2:=o.visit ok hn G (new:=(neighbours ↥s x).filter λy=>!decide (y∈ks (c++[(x,p)]))) λy=>by rw[aw];simp
    show#[_,?_,c++[(x,p)],_,d++N,_,_,1,am.upd (s3.trans l) j,?_,ag,Kt (cO sX.mon t5<|cO sX.mon (am.ts l) p3)<|cO sX.mon t5 pr5,wf2,?_,0]
    .let:c.length<(nodes ↥s).length:=by
      let:=fM Z (m:=nodes ↥s) λy J=>by
       simp[ks]at J;let[q,J]||0:=J
       .show cK ok.so<|o.mem y<|ae.mpr #[_,J,0]
       .show X
      rw[ac,aW,fH]at this;lk
     rw[aW,aW,ac,aW,fH];let e1:(nodes ↥s).length -c.length=((nodes ↥s).length -(c.length+1))+1:=om;lk
    .rw[aA L];show l _ _ d3
    .rw[aW,aW,fH];lk
  .let hin:x∈ks c:=by simpa using t2
   show#[_,?_,c,S',d,_,_,1,s2,d2,ag,p2,o.skip hin,?_,0]
   .rw[aW,fH];lk
   .rw[aW]at vl;lk
 .let hre:S=[]:=by
   cases p1 with
   |nil=>rfl
   |cons _ _=>simp at t1
  subst hre;show#[1,k _ _ c s1' F d1<|o.done ok]
end
section
open Vbpcaf
def up(E:Nat->Nat)(v m:Nat):Nat->Nat:=λx=>if x=v then m else E x
def fh:up E v m v=m:=by simp[up]
def jN(h:x≠v):up E v m x=E x:=by simp[up,h]
structure EI(g:Graph)(r:Nat)(cf:bT)(i:Nat)(E:Nat->Nat):Prop where
 OP:∀v,v∈ks cf->∃d,ig cf v d/\(E v=pl cf d\/∃y∈neighbours g d,E v=pl cf y)
 self:∀v,v∈ks cf->E v<=pl cf v
 done:∀v d,(ks cf).length<=pl cf v+i->ig cf v d->E v<=pl cf d/\∀y∈neighbours g d,E v<=pl cf y
 kids:∀c v,(c,v)∈cf->c≠r->(ks cf).length<=pl cf c+i->E v<=E c
def Nl(h:x∈ks a):pl a x<(ks a).length:=oD h
def EI.start:EI g r b 0 (pl b) where
 OP:=λv h=>#[v,.refl h,.inl rfl]
 self:=λv _=>aE _
 done:=λv d h a=>by let:=Nl a.left;lk
 kids:=λc v m _ h=>by let:=Nl (show c∈ks b from ae.mpr #[_,m,0]);lk
def EI.step(D:qR g r a)(h:EI g r a i E)(R:pl a v+(i+1)=(ks a).length)(s:(v,p)∈a)(O:m=E v\/∃y∈neighbours g v,m=pl a y)(I:m<=E v)(P:∀y∈neighbours g v,m<=pl a y):
  EI g r a (i+1) (up (up E v m) p<|min (up E v m p)<|up E v m v):=by
 let j:v∈ks a:=ae.mpr #[_,s,0];let le:∀x,up (up E v m) p (min (up E v m p)<|up E v m v) x<=E x:=λx=>by
  by_cases e:x=p
  .rw[e,fh];show aL (Nat.min_le_left _ _) ?_;by_cases b:p=v
   .rw[b,fh];show I
   .rw[jN b];show aE _
  .rw[jN e];by_cases b:x=v
   .rw[b,fh];show I
   .rw[jN b];show aE _
 let n:up (up E v m) p (min (up E v m p)<|up E v m v) v=m:=by
  by_cases e:v=p
  .rw[<-e,fh,fh,Nat.min_self]
  .rw[jN e,fh]
 let o:∀x,x≠v->pl a v<pl a x->up (up E v m) p (min (up E v m p)<|up E v m v) x=E x:=λx w J=>by
  let G:x≠p:=λz=>by
   subst z;let[t,b]||[t,_]:=D.tree.up s
   .show w<|b.trans t.symm
   .lk
  rw[jN G,jN w]
 let f:∃d,ig a v d/\(m=pl a d\/∃y∈neighbours g d,m=pl a y):=by
  let e||[y,H,e]:=O
  .rw[e];show h.OP v j
  .show#[v,.refl j,.inr #[y,H,e]]
 let M:∀d,ig a v d->ig a p d:=λd k=>by
  let[t,b]||[_,b,_]:=D.tree.up s
  .rw[b,<-t];show k
  .show(ig.step s<|.refl b).trans k
 show#[λx l=>?_,λx l=>aL (le x)<|h.self x l,λx d l k=>?_,λc u A C l=>?_]
 .by_cases e:x=p
  .subst e;rw[fh];let q||q:=Nat.le_total (up E v m x) (up E v m v)
   .rw[QS q];by_cases b:x=v
    .subst b;rw[fh];show f
    .rw[jN b];show h.OP x l
   .rw[Hb q,fh];let[d,w,J]:=f;show#[d,M d w,J]
  .rw[jN e];by_cases b:x=v
   .subst b;rw[fh];show f
   .rw[jN b];show h.OP x l
 .by_cases e:x=v
  .subst e;rw[n];by_cases b:x=d
   .subst b;show#[aL I (h.self x j),P]
   .let[c,K,Q,L]:=D.tree.below k b;let ch:=D.tree.child K L;let S:=h.kids c x K L om;let N:=h.done c d om Q;show#[om,λy H=>by let:=N.2 y H;lk]
  .let F:pl a x≠pl a v:=λz=>e<|uC D.tree.nd k.left j z;rw[o x e om];show h.done x d om k
 .by_cases e:c=v
  .subst e;rw[qk D.tree.nd A s,n,fh,fh];show Ha _ _
  .let B:c∈ks a:=ae.mpr #[_,A,0];let F:pl a c≠pl a v:=λz=>e<|uC D.tree.nd B j z;rw[o c e om];show aL (le u)<|h.kids c u A C om
def EI.low(h:EI g r a (ks a).length E):HK g a E:=#[h.OP,λv d b=>h.done v d om b]
end
def unlock(c:H d=some u)(s:am (upd H d<|.g9 f u) a):am H (upd a d u):=λb o h=>by
 by_cases e:b=d
 .subst e;rw[ag];rw[c]at h;show h
 .rw[aA e];show s b o<|by rw[aA e];show h
def pO(h:(upd H d o) a=none):H a=none:=by
 by_cases e:a=d
 .subst e;rw[ag]at h;cases h
 .rw[aA e]at h;show h
def uE(h:(upd H d o) a=none):a≠d:=λe=>by subst e;rw[ag]at h;cases h
abbrev lV(l:List Nat)(E:Nat->Nat):List (Nat×Nat):=l.map λx=>(x,E x)
def pP(l:List Nat)(E:Nat->Nat):(lV l E).map (·.1)=l:=by
 unfold lV;rw[bX];show f9 _
def sY(a:l.Nodup)(h:x∈l):cY (stK<|lV l E) (ik x)=some (.int (E x:Int)):=
 iZ (by rw[pP];show a) (ae.mpr #[x,h,0])
def Cg{l:List Nat}{E:Nat->Nat}{v m:Nat}(h:v∈l):putK (stK<|lV l E) (ik v) (.int (m:Int))=stK (lV l<|up E v m):=by
 unfold putK;rw[aH ?_]
 .unfold stK lV;rw[bX,bX,bX];show dY λx a=>?_;change(if ik x=ik v then(ik x,V.int (m:Int))else(ik x,V.int (E x:Int)))=(ik x,V.int (up E v m x:Nat));unfold up;by_cases e:x=v
  .subst e;rw[aH rfl,aH rfl]
  .rw[az λz=>e<|dw z,az e]
 .rw[ci];show#[(ik v,.int (E v:Int)),ae.mpr #[(v,E v),ae.mpr #[v,h,0],0],aU rfl]
def HL:∀(l:List Nat),l.Nodup->l.zipIdx=lV l (λx=>l.idxOf x):=by
 intro l c;show mw λi=>?_;rw[oR,aZ];cases e:l[i]?with
 |none=>rfl
 |some x=>
  let[b,a]:=aJ.mp e;subst a;simp[c.idxOf_getElem i b]
section
variable{P:Program}{w:World}{K:Frag}{mg:Str->Option Value}{base:Heap}{CP CB:Addr}
def sZ(K:Frag):Sp:=λe H Q _=>∃(d:Addr) (b:List (Nat×Nat)),e=[.ref d]/\H d=some (.dK<|stK b)/\(ks b).Nodup/\b.length<=1000/\∀c a,am H c->H a=none->c a=some (.dK<|stK<|lV (ks b)<|pl b)->Q (.ref a) c
def D3(T:Facts K mg CP CB):Df P w K mg base 1 "places_on" ["came_from"] (sZ K):=by
 show T.Ek.dx ["came_from","places","place","number"] λf Y A L s H vs Q E hr J hu h=>?_;let[d,a,0,F,l,S,k]:=h;show#[_,(af (aS 1 J gW)
  (af (BP (dZ cm rfl (J4 rfl T.Bt.enumerate<|aa (pv 0) ah) (Le K 2<|dC (bF 2 J)<|dC (bF 3 J) jZ)
  (ao<|gO hu (pv 1) (pv 3) (pv 2) rfl)))
  (ao<|aM<|pv 1))),?_]
 show λn c=>?_;let g:n≠d:=λz=>by subst z;rw[F]at c;cases c
 let G:(upd H n<|.dK []) d=some (.dK<|stK a):=by rw[aA<|bJ g];show F
 show#[d,_,G,trivial,λt=>?_];show#[1,d,t,1,ag,?_];let U:(stK a).map (·.1)=(ks a).map ik:=fG a;show dh (src_enumD (d:=d) (o:=t) (kvs:=stK a)) (λi B p=>∃(O R:Option V),B=[some (.ref d),some<|.ref n,O,R]/\am (upd H d<|.g9 t<|.dK<|stK a) p/\p d=some (.g9 t<|.dK<|stK a)/\p n=some (.dK<|stK<|(ks a).zipIdx.take i))
  #[none,none,0,?_,ag,?_] (λi B p _ z=>let #[_,_,_,_,e,_]:=z;e) ?_ ?_
 .intro b o h;by_cases e:b=d
  .subst e;rw[ag]at h|-;show h
  .rw[aA e]at h|-;rw[aA λz=>by subst z;rw[c]at h;cases h]
   show h
 .rw[aA g,ag];simp
 .ext i x v B W H3 m ⟨O,R,rfl,M,C,u⟩ N ⟨ta,rfl,X⟩;rw[oR,U,aZ]at m;cases r:(ks a)[i]?with
  |none=>rw[r]at m;cases m
  |some y=>
   rw[r]at m;let ex:x=(ik y,i):=by let:=bj m;rw[<-this];simp
   subst ex;let zy:(ks a).zipIdx[i]?=some (y,i):=by rw[oR,r];simp
   let tk:(ks a).zipIdx.take (i+1)=(ks a).zipIdx.take i++[(y,i)]:=by rw[cM,zy];rfl
   let I:y∉((ks a).zipIdx.take i).map (·.1):=by
    rw[sA,List.zipIdx_map_fst];intro q;let[j,hj,Z]:=fc.mp q;let[hi0,D]:=aJ.mp r;let:=(lQ l).mp<|Z.trans D.symm;lk
   show#[ta,1,gT.of X,0,_,1,_,1,0,?_];show#[3,n,1,lT.k (k:=ik y) (N _ _ u) ?_,?_]
   .rw[stK,ac,cE,gY,ac];show bi (show _<=1000 by lk) de
   rw[sQ I,<-tk];show#[_,1,?_,?_,ag]
   .show am.upd (M.trans N) ?_;rw[aA g];show c
   .rw[aA<|bJ g];show N _ _ C
 .ext B W ⟨O,R,rfl,M,C,u⟩;let el:((stK a).map (·.1)).zipIdx.length=(ks a).zipIdx.length:=by rw[U,gY,ac,gY]
  rw[el,bK,HL _ l]at u;show#[C,1,k _ _ (unlock F M) c ?_];rw[aA g];show u
def kN(K:Frag)(CP CB:Addr):Sp:=λg H Q _=>∃(f:V) (s:Board) (r:Nat) (d e:Addr) (b:List (Nat×Nat)),g=[f,.ref d,.ref e]/\dD K CP CB H f s/\r∈nodes ↥s/\qR ↥s r b/\H d=some (.dK<|stK b)/\H e=some (.dK<|stK<|lV (ks b)<|pl b)/\
 ∀c a E,am H c->H a=none->c a=some (.dK<|stK<|lV (ks b) E)->HK ↥s b E->Q (.ref a) c
def xm{s:Board}{r:Nat}{a:List (Nat×Nat)}(ok:gF ↥s)(D:qR ↥s r a):a.length<=128:=by
 let:=fM D.tree.nd (m:=nodes ↥s) λx b=>D.node ok b;rw[ac]at this;show aL this cz
def Ku(a:List (Nat×Nat)):vk (stK a) (zs<|ks a):=by
 unfold vk;rw[fG];unfold zs;rw[bX (l:=ks a)];rfl
def rH(T:Facts K mg CP CB):Df P w K mg base 2 "earliest_touched" ["board","came_from","places"] (kN K CP CB):=by
 show T.rR.dx ["board","came_from","places","earliest","number","other","touched","above"] λf cdv A outer s H vs Q E hr nd u h=>?_;let[vb,s,r,d,pd,b,0,hb,hr0,D,hd,W,k]:=h;let ok:=cD hb.ok;let n9:=xm ok D;show#[_,(af (aS 3 nd<|qb Oj SY T.Bt.dict boot_dict<|aa (pv 2) ah)
  (af (dZ cm rfl (DC rfl T.Bt.reversed<|aa (qb Of SY T.Bt.list boot_list<|aa (pv 1) ah) ah) (bF 4 nd)
  (af (kh (i:=6) rfl nd rfl rfl (ma rfl rfl rfl rfl) (oE K<|met (z8 T) T.c8.cls hr (pv 0)<|aa (pv 4) ah) (cZ (own:=[("other",5)])<|by kernel_rfl) (λ_ _ _ _ _=>(bF 5 nd)) (λ_ _ _ _ _=>g_) λ_ _ _ _ _=>(b7 u (pv 2) (pv 5) λ_ _=>rfl))
  (af (gO u (pv 3) (pv 4) (bC (Od K) SY T.Bt.min boot_min<|aa (cat (pv 6)<|cR<|aa (b7 u (pv 3) (pv 4) λ_ _=>rfl) ah) ah) rfl)
  (af (aS 7 nd<|b7 u (pv 1) (pv 4) λ_ _=>rfl)
  (ao<|gO u (pv 3) (pv 7) (bC (AR rfl) SY T.Bt.min boot_min<|aa (b7 u (pv 3) (pv 7) λ_ _=>rfl)<|aa (b7 u (pv 3) (pv 4) λ_ _=>rfl) ah) rfl)))))
  (ao<|aM<|pv 3))),?_]
 show#[1,pd,1,Rd.of W,λc l=>?_];let s0:am H (upd H c<|.dK<|stK<|lV (ks b)<|pl b):=am.new l;show#[1,d,_,1,Rd.of<|s0 _ _ hd,Ku b,λkl R=>#[kl,1,cc.of ag,?_]];let nke:kl≠c:=uE R;let S:H kl=none:=pO R;let len0:((zs<|ks b).map V.int).length=(ks b).length:=by rw[ac,zs,ac]
 show dh (L5 (K:=K) (R:=iu) (a:=kl) (vs:=(zs<|ks b).map V.int) (xs:=ks b)) (λi σ j=>∃(E:Nat->Nat) (v4 v5 v6 v7:Option V),σ=[some vb,some<|.ref d,some<|.ref pd,some<|.ref c,v4,v5,v6,v7]/\am H j/\j c=some (.dK<|stK<|lV (ks b) E)/\j kl=some (.lst<|(zs<|ks b).map V.int)/\EI ↥s r b i E)
  #[pl b,none,none,none,none,0,am.upd s0 S,?_,ag,EI.start] (λi σ j _ z=>let #[_,_,_,_,_,_,_,_,e,_]:=z;#[cc.of e,fL _]) ?_ ?_
 .rw[aA<|bJ nke];show ag
 .ext i x v σ H2 H3 hx ⟨E,v4,v5,v6,v7,rfl,s2,e2,l2,I2⟩ s3 r3;let 0:=r3;let F:=s2.trans s3;let O:=hb.same F;let[ba,bdx,bfs,0,bo,bn]:=O.obj;let[hi,t]:=aJ.mp hx;rw[gH]at hi;rw[List.getElem_reverse]at t;let g:x∈ks b:=by rw[<-t];show lP _
  let hpx:pl b x+(i+1)=(ks b).length:=by
   let:(ks b)[(ks b).length -1 -i]?=some x:=by rw[ak om,t]
   rw[Ko D.tree.nd this];lk
  let hxn:=D.node ok g;let[[a,p],B,0]:=ae.mp g;let Y:p∈ks b:=by
   let[_,q]||[_,q,_]:=D.tree.up B
   .rw[q];show D.root ok hr0
   .show q
  dsimp only[dQ];show zU<|vM ?_;show#[1,ba,bdx,bfs,0,bo,bn _ dk,1,_,s,a,0,O,hxn,λH4 tl s4 htl e4=>#[tl,0,#[_,cc.of e4],?_]];let nbl:(neighbours ↥s a).length<100000:=by
   let l1:=fM (So.nodup<|ok.La a) (m:=nodes ↥s) λy C=>ok.mem C;let l2:=cz (s:=s);lk
  show lG (K:=K) (src_list (R:=iu) (vs:=(zs<|neighbours ↥s a).map V.int) (xs:=neighbours ↥s a)) ul.mon (λy=>(pl b y:Int)) nbl (λj e=>#[cc.of (e _ _ e4),fL _]) ?_ ?_
  .ext y v I Q1 C s5 r5 k1;let 0:=r5;let X:=s5 _ _<|s4 _ _<|F _ _ W;let g5:cP I pd (kV<|ik y) (some<|.int (pl b y:Int)):=by rw[<-sY D.tree.nd (D.closed ok g C)];show cP.k (k:=ik y) X
   show#[0,2,pd,1,g5,k1 _ _ (am.refl _) rfl]
  .intro I tc acc s5 htc e5 pr5;rw[x6 pr5]at e5;let G:=s4.trans s5;let s35:=F.trans G;let L:=G _ _<|s3 _ _ e2;let gx:∀{j:Hp} {E:Nat->Nat} {z:Nat},z∈ks b->j c=some (.dK<|stK<|lV (ks b) E)->cP j c (kV<|ik z) (some<|.int (E z:Int)):=λ{j E z} Z e=>by rw[<-sY D.tree.nd Z];show cP.k (k:=ik z) e
   let M:(stK<|lV (ks b) E).length<sizeLine:=by
    rw[stK,ac,ac,ac];show bi n9 de
   show#[3,c,1,gx g L,c6,λol U=>?_];let e5':(upd I ol<|.lst [.int (E a:Int)]) tc=some (.lst<|((neighbours ↥s a).map λy=>(pl b y:Int)).map V.int):=by rw[aA<|cI e5 U];show e5
   show#[tc,ol,_,1,0,e5',ag,?_,λcl hcl=>?_]
   .rw[ac,ac];show aL (show _<=100001 by let:[V.int (E a:Int)].length=1:=rfl;lk) de
   let cat:((neighbours ↥s a).map λy=>(pl b y:Int)).map V.int++[V.int (E a:Int)]=(((neighbours ↥s a).map λy=>(pl b y:Int))++[(E a:Int)]).map V.int:=by simp
   let J:am I (upd (upd I ol<|.lst [.int (E a:Int)]) cl<|.lst<|((neighbours ↥s a).map λy=>(pl b y:Int)).map V.int++[V.int (E a:Int)]):=(am.new U).trans<|am.new hcl;show#[cl,1,(by rw[cat];show cc.of ag),by simp,λm hm n=>?_]
   rw[cat]at J;rw[cat];generalize (upd (upd I ol<|.lst [.int (E a:Int)]) cl<|.lst<|(((neighbours ↥s a).map λy=>(pl b y:Int))++[(E a:Int)]).map V.int)=H6 at J;let[mn,0,m1,m2,m3]:∃mn:Nat,m=(mn:Int)/\(mn=E a\/∃y∈neighbours ↥s a,mn=pl b y)/\mn<=E a/\∀y∈neighbours ↥s a,mn<=pl b y:=by
    let q2:=n (E a:Int)<|by simp
    let q3:∀y∈neighbours ↥s a,m<=(pl b y:Int):=λy C=>n _<|cJ _<|ae.mpr #[y,C,0];let q||q:=aG.mp hm
    .let[y,C,0]:=ae.mp q;show#[pl b y,0,.inr #[y,C,0],om,λz Z=>by let:=q3 z Z;lk]
    .simp at q;subst q;show#[E a,0,.inl rfl,aE _,λz Z=>by let:=q3 z Z;lk]
   let ed6:=J _ _ L;show#[2,c,1,lT.k (k:=ik a) ed6 M,?_];rw[Cg g];let d7:(upd H6 c<|.dK<|stK<|lV (ks b)<|up E a mn) d=some (.dK<|stK b):=by
    rw[aA<|cI hd l];show J _ _<|s35 _ _ hd
   let g7:cP (upd H6 c<|.dK<|stK<|lV (ks b)<|up E a mn) d (kV<|ik a) (some<|.int (p:Int)):=by rw[<-iZ D.tree.nd B];show cP.k (k:=ik a) d7
   show#[2,d,1,g7,?_];let o:(upd H6 c<|.dK<|stK<|lV (ks b)<|up E a mn) c=some (.dK<|stK<|lV (ks b)<|up E a mn):=ag;show#[2,c,1,gx Y o,2,c,1,gx g o,_,1,?_];let N:(if (up E a mn a:Int)<(up E a mn p:Int)then(up E a mn a:Int)else(up E a mn p:Int))=((min (up E a mn p) (up E a mn a):Nat):Int):=by
    split<;>lk
   rw[N];show#[2,c,1,lT.k (k:=ik p) o ?_,?_]
   .rw[stK,ac,ac,ac];show bi n9 de
   rw[Cg Y,p8];show#[_,_,_,_,1,am.upd (s35.trans J) l,ag,?_,I2.step D hpx B m1 m2 m3];rw[aA nke];show J _ _<|G _ _<|s3 _ _ l2
 .ext σ H2 ⟨E,v4,v5,v6,v7,rfl,s2,e2,l2,I2⟩;rw[gH]at I2;show#[1,k _ _ E s2 l e2 I2.low]
def mv(a:List (Nat×Nat))(x:Nat):Nat:=((a.find? λe=>decide<|e.1=x).map (·.2)).getD 0
def kq(i:(ks c).Nodup)(h:(x,p)∈c):mv c x=p:=by
 unfold mv;cases e:c.find? λe=>decide (e.1=x)with
 |none=>
  rw[GU]at e;show absurd (aU rfl) (e _ h)
 |some q=>
  have d:=pX e;have f:q.1=x:=by let:=ov e;simpa using this
  let[a,b]:=q;let g:a=x:=f;subst g;show qk i d h
def eQ(a:List (Nat×Nat))(E:Nat->Nat)(x:Nat):Bool:=decide (0<pl a x)&&decide (E x=pl a (mv a x))
def rJ(K:Frag)(CP CB:Addr):Sp:=λf H Q _=>∃(e:V) (s:Board) (r:Nat) (d:Addr) (b:List (Nat×Nat)),f=[e,.ref d]/\dD K CP CB H e s/\r∈nodes ↥s/\qR ↥s r b/\H d=some (.dK<|stK b)/\
 ∀c a E,am H c->H a=none->c a=some (.lst<|(zs<|(ks b).filter<|eQ b E).map V.int)->HK ↥s b E->Q (.ref a) c
def kL:Key->Nat
 |.inl i=>i.toNat
 |.inr _=>0
def HM(T:Facts K mg CP CB):Df P w K mg base 3 "hanging" ["board","came_from"] (rJ K CP CB):=by
 show T.Im.dx ["board","came_from","places","earliest","number"] λf cdv A Z s H vs Q E hr M J h=>?_;let[vb,s,r,d,b,0,hb,F,D,u,k]:=h;let ok:=cD hb.ok;let n9:=xm ok D;show#[_,(af (aS 2 M<|du (D3 T) hr<|aa (pv 1) ah)
  (af (aS 3 M<|du (rH T) hr<|aa (pv 0)<|aa (pv 1)<|aa (pv 2) ah)
  (ao<|BP<|aM<|ke rfl M (Ge<|pv 1) (cZ (own:=[("number",4)])<|by kernel_rfl) (λ_ _ _ _ _=>(bF 4 M)) (λ_ _ _ _ _=>(jv (o6 (ct oB (b7 J (pv 2) (pv 4) λ_ _=>rfl) aI)<|p9<|ct oz (b7 J (pv 3) (pv 4) λ_ _=>rfl)<|b7 J (pv 2) (b7 J (pv 1) (pv 4) λ_ _=>rfl) λ_ _=>rfl).pt)) λ_ _ _ _ _=>(pv 4)))),?_]
 show#[1,d,b,0,u,D.tree.nd,om,λH1 o N C e1=>?_];show#[3,_,s,r,d,o,b,0,hb.same N,F,D,N _ _ u,e1,λO I E s2 B e2 L=>?_];let j:=N.trans s2;let y:=j _ _ u;dsimp only[dQ];show#[d,_,y,trivial,λm=>?_];show rA<|vM ?_;show#[1,d,m,0,.inl #[_,ag,?_]];let Y:o≠d:=λz=>by rw[z,u]at C;cases C
 let X:I≠d:=λz=>by rw[z,N _ _ u]at B;cases B
 let p2:(upd O d<|.g9 m<|.dK<|stK b) o=some (.dK<|stK<|lV (ks b)<|pl b):=by rw[aA Y];show s2 _ _ e1
 let q2:(upd O d<|.g9 m<|.dK<|stK b) I=some (.dK<|stK<|lV (ks b) E):=by rw[aA X];show e2
 let R:(upd O d<|.g9 m<|.dK<|stK b) d=some (.g9 m<|.dK<|stK b):=ag;let z0:(stK b).map (·.1)=(ks b).map ik:=fG b;show kG (K:=K) (pC (d:=d) (o:=m) (kvs:=stK b)) iu.mon (λkk=>eQ b E<|kL kk) kL (by rw[z0,ac,ac];lk) (λH' e=>e _ _ R) ?_ ?_
 .ext kk v G Q1 Q0 l t r3 k1 k0;let 0:=r3;rw[z0,ae]at l;let[x,l,0]:=l;let[[c,p],i,0]:=ae.mp l;let U:p∈ks b:=by
   let[_,q]||[_,q,_]:=D.tree.up i
   .rw[q];show D.root ok F
   .show q
  let gp:∀z,z∈ks b->cP G o (kV<|ik z) (some<|.int (pl b z:Int)):=λz hz=>by rw[<-sY D.tree.nd hz];show cP.k (k:=ik z)<|t _ _ p2
  let ge:cP G I (kV<|ik c) (some<|.int (E c:Int)):=by rw[<-sY D.tree.nd l];show cP.k (k:=ik c)<|t _ _ q2
  let gd:cP G d (kV<|ik c) (some<|.int (p:Int)):=by rw[<-iZ D.tree.nd i];show cP.fz (k:=ik c)<|t _ _ R
  let S:eQ b E (kL<|ik c)=(decide (0<pl b c)&&decide (E c=pl b p)):=by
   change eQ b E c=_;unfold eQ;rw[kq D.tree.nd i]
  show#[0,2,o,1,gp c l,_,1,0,1,cg (λt1=>?_) λt1=>?_]
  .let g:decide (0<pl b c)=true:=by rw[aT];let:=aF t1;lk
   show#[2,I,1,ge,3,d,1,gd,o,1,gp p U,0,1,cg (λt2=>?_) λt2=>?_]
   .let e:E c=pl b p:=by let:=aF t2;injection this with this;lk
    show#[1,k1 _ _ (am.refl _) (by change eQ b E (kL<|ik c)=true;rw[S,g];show aU e)<|by change V.int (c:Int)=V.int ((kL (ik c):Nat):Int);rfl]
   .show k0 _ (am.refl _) ?_;change eQ b E (kL<|ik c)=false;rw[S,g,tM];show bE λe=>cb t2 ?_;rw[e]
  .show vL<|k0 _ (am.refl _) ?_;change eQ b E (kL<|ik c)=false;let g:decide (0<pl b c)=false:=by rw[k9];let:=cb t1;lk
   rw[S,g];rfl
 .intro G a acc t ha e pr;rw[pL pr,z0,kE]at e;let e0:(List.map ik<|List.filter ((λkk=>eQ b E<|kL kk)∘ik)<|ks b).map kL=(ks b).filter (eQ b E):=by
   rw[bX,show(kL∘ik)=id from funext λn=>(by change((n:Int)).toNat=n;lk),f9]
   show wT λx _=>?_;rfl
  rw[e0]at e;let W:a≠d:=uE ha;show#[t _ _ R,k _ _ E (j.trans<|unlock y t) (j.free<|pO ha) ?_ L];rw[aA W];show e
end
def QE(h:c a H (λx b=>g x a b D.nx)):Lu c g D a H:=h
def Mv:Key->Nat|.inl i=>i.toNat|.inr _=>0
section
variable{K:Frag}{CP CB:Addr}
def rK(K:Frag)(CP CB:Addr):Sp:=λl H Q _=>∃(i:V) (n:Nat) (h:List (Str×V)) (f:Int) (c ld k:Addr) (e j:List (Key×V)) (s g:Board) (a:Piece),l=[i,.int (n:Int)]/\iU K CB H i h/\Nc h f c ld k/\wY s/\
 jM K CP H s c e/\fJ H g ld c j/\c≠ld/\s.get n=some a/\g.get n=none/\(∀m,m≠n->g.get m=s.get m)/\∀d b,Kd H d->d c=H c->fJ d s ld c b->Q .ic d
def HN(T:Facts K mg CP CB):Md P w K mg base 8 CB "link" ["self","number"] (rK K CP CB):=by
 show T.Iq.dx ["self","number","piece","other","touched"] λf cdv A outer s H vs Q E hr nd R h=>?_;let[vb,n,fs,lay,U,ld,gd,I,g,s,s0,a,0,o,b,ok,l,d,O,ha,Z,hs,k]:=h;let[pa,v1,p1]:=l.get ha;let hfew:g.length<=128:=sU d.nd λq hq=>by
  let[[k1,v],t,0]:=ae.mp hq;let[m,F,e,[c,r],_]:=d.isin _ _ t;show#[m,?_,e];let B:m≠n:=λz=>by subst z;rw[Z]at r;cases r
  rw[hs m B]at r;show gz ok r
 let hL128:∀m,m∈yt g->m<128:=λm t=>by
  let[c,r]:=d.mem.mp t;let B:m≠n:=λz=>by subst z;rw[Z]at r;cases r
  rw[hs m B]at r;show gz ok r
 show#[_,(af (aS 2 nd<|b7 R (fv K 0) (pv 1) λ_ _=>rfl)
  (af (BP<|kh (i:=4) rfl nd rfl rfl (ma rfl rfl rfl rfl) (Ge<|fv K 0) (cZ (own:=[("other",3)])<|by kernel_rfl) (λ_ _ _ _ _=>(bF 3 nd)) (λ_ _ _ _ _=>(jv<|cV<|du (yf T) hr<|aa (pv 2)<|aa (b7 R (fv K 0) (pv 3) λ_ _=>rfl) ah)) λ_ _ _ _ _=>(pv 3))
  (af (gO R (fv K 0) (pv 1) gW rfl)
  (ao (dZ cm rfl (oE K<|pv 4) (bF 3 nd)
  (af (gO R (b7 R (fv K 0) (pv 1) λ_ _=>rfl) (pv 3) iN rfl)
  (ao<|gO R (b7 R (fv K 0) (pv 3) λ_ _=>rfl) (pv 1) iN rfl))))))),?_]
 show zU #[1,_,_,_,o,b.pieces,1,U,1,(by rw[<-v1];show cP.k (k:=ik n) l.at_),?_]
 show Q5 #[ld,_,d.at_,trivial,λod=>QE<|vM ?_];let nl:∀x u,H x=some u->(∀I,u≠.dK I)->(upd H ld<|.g9 od<|.dK g) x=some u:=λx u e m=>by
  rw[aA λz=>by subst z;rw[d.at_]at e;cases e;show m _ rfl];show e
 let pdl:(upd H ld<|.g9 od<|.dK g) U=some (.dK I):=by rw[aA O];show l.at_
 let o1:iU K CB (upd H ld<|.g9 od<|.dK g) vb fs:=iU.kj o<|Kj.Lg d.at_;let pcl:jM K CP (upd H ld<|.g9 od<|.dK g) s U I:=l.kj (Kj.Lg d.at_)<|aA O;show#[1,_,_,_,o1,b.links,ld,od,0,.inl #[_,ag,?_]];show kG (K:=K) (pC (d:=ld) (o:=od)) iu.mon (λk=>Ew s a<|Mv k) Mv (by rw[ac];lk) (λH' e=>e _ _ ag) ?_ ?_
 .ext x v H2 Q1 Q0 hx W rfl kt kf;let[[k1,v],t,0]:=ae.mp hx;let[m,F,0,[c,r],_]:=d.isin _ _ t;let B:m≠n:=λz=>by subst z;rw[Z]at r;cases r
  rw[hs m B]at r;let[pb,v2,p2]:=pcl.get r;let et:Ew s a m=pH (gG a) (gG c):=by unfold Ew;rw[r]
  show#[0,2,_,_,_,iU.same o1 W,b.pieces,1,U,1,(by rw[<-v2];show cP.k<|W _ _ pdl),?_]
  show#[_,_,gG a,gG c,0,((p1.kj<|Kj.Lg d.at_).same W).is T.TP,(p2.same W).is T.TP,λH3 s3=>#[1,?_]];show cg (λe=>#[1,kt _ _ s3 (by change Ew s a m=true;rw[et];show e) rfl]) λe=>kf _ s3<|by change Ew s a m=false;rw[et];show e
 .intro H2 D acc W hD e pr;let ef:((g.map (·.1)).filter λk=>Ew s a<|Mv k).map Mv=(yt g).filter (Ew s a):=by
   rw[uv d.ks,kE,bX];show f9 _
  rw[ef]at pr;let ea:=pL pr;subst ea;let Y:=unlock d.at_ W;let hDl:=uE hD;let eD:(upd H2 ld<|.dK g) D=some (.lst<|(zs<|(yt g).filter<|Ew s a).map V.int):=by rw[aA hDl];show e
  show#[W _ _ ag,?_];generalize upd H2 ld (.dK g)=H3 at Y eD|-;let l3:=Y _ _ d.at_;show λp C=>?_;let hp:H p=none:=by
   cases q:H p with
   |none=>rfl
   |some u=>rw[Y _ _ q]at C;cases C
  let X:am H3 (upd H3 p<|.dK []):=am.new C;let M:ld≠p:=λz=>by subst z;rw[l3]at C;cases C
  let vn:cY g (ik n)=none:=sT λz=>by
   let[[k1,v],t,e1]:=ae.mp z;let[m,F,J,[c,r],_]:=d.isin _ _ t;let e3:ik n=ik m:=by rw[<-J];show e1.symm
   rw[<-dw e3,Z]at r;cases r
  show#[1,_,_,_,iU.same o<|Y.trans X,b.links,1,ld,1,lT.k (k:=ik n) (X _ _ l3)<|GB hfew,?_];rw[il _ vn];generalize hH5:upd (upd H3 p<|.dK []) ld (.dK<|g++[(ik n,.ref p)])=H5;let li:LI H H5 n s0 U ld p g []:=by
   subst hH5;show#[(Kd.of<|Y.trans X).trans (Kd.Lg<|X _ _ l3),?_,ag,#[[],?_,IC,λk1=>?_],λm F t=>?_]
   .rw[aA O,(Y.trans X) _ _ l.at_,l.at_]
   .rw[aA<|bJ M];show ag
   .simp
   .let[m',ia',e1,_,J,[iv,r1,r2,r3],_,q6]:=d.isin _ _ t;cases J
    show#[iv,?_,r2,λk1=>?_]
    .rw[aA q6];show X _ _<|Y _ _ r1
    .rw[r3,dw e1];simp
  let eD5:H5 D=some (.lst<|(zs<|(yt g).filter<|Ew s a).map V.int):=by
   subst hH5;rw[aA hDl];show X _ _ eD
  show#[1,D,0,#[_,cc.of eD5],?_];generalize hLs:(yt g).filter (Ew s a)=N at*;let hnd:N.Nodup:=by
   rw[<-hLs];show tS a_ ?_;let:=d.nd;rw[uv d.ks]at this;show(wU.mp this).imp λh z=>h<|by rw[z]
  show dh (src_list (R:=iu) (xs:=N)) (λi σ H'=>(∃v3,σ=[some vb,some<|.int (n:Int),some<|.ref pa,v3,some<|.ref D])/\H' D=some (.lst<|(zs N).map V.int)/\LI H H' n s0 U ld p g (N.take i))
   #[#[1],eD5,li] (λi σ H' _ z=>#[cc.of z.2.1,?_]) ?_ ?_
  .show fL N
  .ext i x v σ H6 H7 hx ⟨⟨v3,rfl⟩,d6,G⟩ s7 rfl;let hxL:=aX hx;let hxn:x∈yt g:=by grind
   let[v,hv]:=(DV d.ks).mp hxn;let[m',F,e1,1,_,_,_]:=d.isin _ _ hv;let S:LI H H7 n s0 U ld p g (N.take i):=by
    let[nk,f1,f2,f3]:=G.new;show#[G.kd.trans (Kd.of s7),?_,s7 _ _ G.at_,#[nk,s7 _ _ f1,f2,f3],λm F t=>?_]
    .let J:=G.OL;rw[l.at_]at J|-;show s7 _ _ J
    .let[iv,g1,g2,g3]:=G.old m F t;show#[iv,s7 _ _ g1,g2,g3]
   let hxt:x∉N.take i:=λz=>by
    let[j,hj,ej]:=fc.mp z;let[hi0,ei0]:=aJ.mp hx;let:=(lQ hnd).mp<|ej.trans ei0.symm;lk
   let[nk,f1,f2,f3]:=S.new;let[iv,g1,g2,g3]:=S.old x F hv;let st:=S.step d hp #[_,l.at_] Z hv hxt f1 f2 f3 g1 g2 g3;let hvp:cY (g++[(ik n,V.ref p)]) (ik n)=some (.ref p):=by rw[<-il _ vn,xW,aH rfl]
   let hvx:cY (g++[(ik n,V.ref p)]) (ik x)=some (.ref F):=by
    rw[<-il _ vn,xW,az ?_,eZ d.nd hv];intro z;let:=eZ d.nd hv;rw[z,vn]at this;cases this
   let L:F≠p:=λz=>by
    subst z;let[_,ia',_,_,J,[_,r1,_],_]:=d.isin _ _ hv;cases J
    rw[hp]at r1;cases r1
   let kj7:=S.kd.kj;show#[1,_,_,_,iU.kj o kj7,b.links,1,ld,1,(by rw[<-hvp];show cP.k (k:=ik n) S.at_),1,p,1,lT.k (k:=ik x) f1<|GB (sU f2 λq hq=>?_),?_]
   .grind
   let kd8:Kj H (upd H7 p<|.dK<|putK nk (ik x)<|.bl true):=(S.kd.upd hp).kj;show#[1,_,_,_,iU.kj o kd8,b.links,1,ld,1,(by rw[<-hvx];show cP.k (k:=ik x)<|by rw[aA M];show S.at_),1,F,1,lT.k (k:=ik n) (by rw[aA L];show g1)<|GB (sU g2 λq hq=>?_),?_]
   .let[y,ey,hy]||[ey,_]:=(g3 q).mp hq
    .let[_,_,_,hy2,_]:=iQ.mp hy;show#[y,hy2,ey]
    .grind
   show#[#[1],?_,?_]
   .let kp:Kp H7 (upd (upd H7 p<|.dK<|putK nk (ik x)<|.bl true) F<|.dK<|putK iv (ik n)<|.bl true):=(Kp.wr f1 rfl).trans<|Kp.wr (by rw[aA L];show g1) rfl
    show kp _ _ (s7 _ _ d6) rfl
   .rw[cM,hx];show st
  .ext σ H6 ⟨⟨v3,rfl⟩,d6,G⟩;rw[bK]at G;subst hLs;show k _ _ G.kd G.OL<|G.done d hp #[_,l.at_] ok ha Z hs
end
def HP{e:Type}[DecidableEq e]{a:List (e×V)}{f k:e}:k∈(eY a f).map (·.1)↔k∈a.map (·.1)/\k≠f:=by
 unfold eY;walk
 .intro h;let[p,d,0]:=ae.mp h;let[b,c]:=aw.mp d;show#[ae.mpr #[p,b,0],aF c]
 .ext⟨b,c⟩;let[p,d,0]:=ae.mp b;show ae.mpr #[p,aw.mpr #[d,aU c],0]
def jC{b:Type}[DecidableEq b]{a:List (b×V)}{c k:b}{v:V}:(k,v)∈eY a c↔(k,v)∈a/\k≠c:=by
 unfold eY;rw[aw];simp
def Mw{b:Type}[DecidableEq b]{a:List (b×V)}{k:b}(d:(a.map (·.1)).Nodup)(h:k∈a.map (·.1)):∃v,cY a k=some v/\(k,v)∈a:=by
 let[[e,v],c,0]:=ae.mp h;show#[v,eZ d c,c]
section
variable{P:Program}{w:World}{K:Frag}{mg:Str->Option Value}{base:Heap}{CP CB:Addr}
structure UI(H H':Hp)(n:Nat)(s:Board)(pd ld:Addr)(bL:List (Key×V))(L:List Nat):Prop where
 kd:Kd H H'
 OL:H' pd=H pd
 at_:H' ld=some (.dK<|eY bL<|ik n)
 old:∀m ia,(ik m,V.ref ia)∈bL->∃iv:List (Key×V),H' ia=some (.dK iv)/\(iv.map (·.1)).Nodup/\∀k,k∈iv.map (·.1)↔∃q,k=ik q/\q∈neighbours s.graph m/\¬(q=n/\m∈L)
def UI.step{H j:Hp}{n:Nat}{s:Board}{v ld:Addr}{g:List (Key×V)}{L:List Nat}(I:UI H j n s v ld g L)(f:fJ H s ld v g){m:Nat}{d:Addr}(r:(ik m,V.ref d)∈g)
  {h:List (Key×V)} (B:j d=some (.dK h)) (A:(h.map (·.1)).Nodup) (J:∀k,k∈h.map (·.1)↔∃q,k=ik q/\q∈neighbours ↥s m/\¬(q=n/\m∈L)):
  UI H (upd j d<|.dK<|eY h<|ik n) n s v ld g (L++[m]):=by
 let[Q,F,R,[b,S],M,[G,T,U],N,O]:=f.isin _ _ r;cases M
 show#[I.kd.trans (Kd.Lg B),?_,?_,?_]
 .rw[aA<|bJ N];show I.OL
 .rw[aA<|bJ O];show I.at_
 .intro i a o;by_cases e:i=m
  .subst e;let:V.ref a=V.ref d:=by
    let y:=eZ f.nd o;let x:=eZ f.nd r;rw[y]at x;show bj x
   cases this
   show#[_,ag,ng A,λk=>?_];rw[HP,J];walk
   .ext⟨⟨q,rfl,l,_⟩,p⟩;show#[q,0,l,λz=>p<|by rw[z.1]]
   .ext⟨q,rfl,l,p⟩;let c:q≠n:=λz=>p #[z,aD _<|aP.mpr rfl];show#[#[q,0,l,λz=>c z.1],λz=>c<|dw z]
  .let t:a≠d:=λz=>by subst z;show e<|dw<|f.inj _ _ _ o r
   let[u,C,D,E]:=I.old i a o;show#[u,by rw[aA t];show C,D,λk=>?_]
   rw[E];let:i∈L++[m]↔i∈L:=by rw[aG,aP];show#[λz=>z.resolve_right e,.inl]
   rw[this]
def Kv{s j:Board}(ok:wY s){n m q:Nat}(l:j.get n=none)(d:∀m,m≠n->j.get m=s.get m)(k:m≠n):q∈neighbours ↥j m↔q∈neighbours ↥s m/\¬(q=n/\m∈neighbours ↥s n):=by
 walk
 .intro h;let[x,y,e,f,b,a,g,i]:=iQ.mp h;let c:q≠n:=λz=>by subst z;rw[l]at a;cases a
  rw[d m k]at b;rw[d q c]at a;show#[iQ.mpr #[x,y,e,f,b,a,g,i],λz=>c z.1]
 .ext⟨h,o⟩;let c:q≠n:=λz=>by subst z;show o #[0,(cD ok).sym h]
  let[x,y,e,f,b,a,g,i]:=iQ.mp h;show iQ.mpr #[x,y,e,f,by rw[d m k];show b,by rw[d q c];show a,g,i]
def UI.done{H r:Hp}{n:Nat}{s p:Board}{o ld:Addr}{i:List (Key×V)}(I:UI H r n s o ld i (neighbours ↥s n))(d:fJ H s ld o i)(ok:wY s)(j:p.get n=none)(g:∀m,m≠n->p.get m=s.get m):
  fJ r p ld o (eY i<|ik n):=by
 show#[I.at_,ng d.nd,λk v A=>?_,λm b c=>?_,λk F v f l=>d.inj _ _ _ (jC.mp f).1 (jC.mp l).1]
 .let[f,l]:=jC.mp A;let[m,t,0,[b,c],0,_,D,E]:=d.isin _ _ f;let a:m≠n:=λz=>l<|by rw[z]
  let[C,u,x,y]:=I.old m t f;show#[m,t,0,#[b,by rw[g m a];show c],0,#[C,u,x,λk=>?_],D,E]
  rw[y];show#[λ#[q,e,h]=>#[q,e,(Kv ok j g a).mpr h],λ#[q,e,h]=>#[q,e,(Kv ok j g a).mp h]]
 .let a:m≠n:=λz=>by subst z;rw[j]at c;cases c
  rw[g m a]at c;let[v,B]:=d.all m b c;show#[v,jC.mpr #[B,λz=>a<|dw z]]
def vX(n:Nat)(k:List Key):Bool:=NT (.int (n:Int))<|k.map kV
def Kw:vX n [ik i,ik j]=true↔i=n\/j=n:=by
 unfold vX NT;change(((i:Int)==(n:Int))||(((j:Int)==(n:Int))||false))=true↔_;simp;lk
def jO(n:Nat)(i:Nat)(g:List (List Key×V)):List (List Key×V):=((g.take i).filter λa=>!vX n a.1)++g.drop i
def Fz(n:Nat)(g:List (List Key×V)):jO n 0 g=g:=by unfold jO;simp
def HQ(n:Nat)(g:List (List Key×V)):jO n g.length g=g.filter λa=>!vX n a.1:=by unfold jO;simp
def D4(h:g[i]?=some (k,v)):jO n i g=((g.take i).filter λb=>!vX n b.1)++(k,v)::g.drop (i+1):=by
 unfold jO;let[a,e]:=aJ.mp h;rw[pZ a,e]
def FA(h:g[i]?=some (k,v))(a:vX n k=false):jO n (i+1) g=jO n i g:=by
 rw[D4 h];unfold jO;rw[cM,h,eU];simp[a]
def HR:(jO n i g).Sublist g:=by
 let h:(jO n i g).Sublist (g.take i++g.drop i):=List.Sublist.append a_<|mx _;rw[wO]at h;show h
def FB(p:(g.map (·.1)).Nodup)(h:g[i]?=some (k,v))(o:vX n k=true):cY (jO n i g) k=some v/\eY (jO n i g) k=jO n (i+1) g:=by
 let a:((jO n i g).map (·.1)).Nodup:=tS (No _ HR) p;let e:=D4 (n:=n) h;show#[eZ a (by rw[e];show aD _<|aN ..),?_]
 let m:jO n (i+1) g=((g.take i).filter λc=>!vX n c.1)++g.drop (i+1):=by
  unfold jO;rw[cM,h,eU];simp[o]
 rw[m,e];rw[e,bw,bm]at a;let b:=di.mp a;let j:k∉((g.take i).filter λc=>!vX n c.1).map (·.1):=λz=>b.2.2 k z k (aN ..) rfl;let l:k∉(g.drop<|i+1).map (·.1):=(c9.mp b.2.1).1;let d:=x5 j;let f:=x5 l;unfold eY at d f|-;rw[eU,tT<|by simp,d,f]
def Mx(G:nq K H s f g)(t:Kp H e)(h:e f=some (.dT (g.filter λd=>!vX n d.1)))(l:∀m,m≠n->B.get m=s.get m):nq K e B f (g.filter λd=>!vX n d.1):=by
 show#[h,tS (No _ a_) G.nd,λk v r=>?_,aL (bu _ _) G.n9];let[o,p]:=aw.mp r;let[i,j,a,b,q,0,u,x,y,A]:=G.isin k v o;let c:¬vX n [ik i,ik j]=true:=by simpa using p
 rw[Kw]at c;show#[i,j,a,b,q,0,by rw[l i λz=>c<|.inl z];show u,by rw[l j λz=>c<|.inr z];show x,ki.mon _ _ _ _ t.ts y,A]
def oh(K:Frag)(CP CB:Addr):Sp:=λo H Q _=>∃(j:V) (n:Nat) (i:List (Str×V)) (e ld g:Addr) (h k:List (Key×V)) (l:List (List Key×V)) (s f:Board) (a:Piece),o=[j,.int (n:Int)]/\iU K CB H j i/\Nc i (s.layers:Int) e ld g/\Lf K CP H s e ld g h k l/\
 s.get n=some a/\f.get n=none/\(∀m,m≠n->f.get m=s.get m)/\∀d c b,Kj H d->d e=H e->fJ d f ld e c->nq K d f g b->Q .ic d
def D5(T:Facts K mg CP CB):Md P w K mg base 2 CB "unlink" ["self","number"] (oh K CP CB):=by
 show T.El.dx ["self","number","touched","other","pair"] λf cdv A outer s H vs Q E hr nd hu h=>?_;let[vb,n,fs,M,ld,U,kvs,J,R,s,s0,a,0,o,b,g,ha,h0,hs,k]:=h;let hB:dD K CP CB H vb s:=#[fs,M,ld,U,kvs,J,R,o,b,g];let[ba,dx,0,hba,hcl,hna]:=id o;let hnn:n∈nodes ↥s:=eV.mpr #[gz g.ok ha,by rw[ha];rfl]
 let lno:∀m:Str,m∉cT->fs.lookup m=none:=λm Y=>by
  cases e:fs.lookup m with
  |none=>rfl
  |some u=>show absurd (b.names _ _ e) Y
 show#[_,(af (aS 2 nd<|met (z8 T) T.c8.cls hr (pv 0)<|aa (pv 1) ah)
  (af (dL<|x0 (fv K 0) (pv 1) #[0,0,0,0])
  (af (dZ cm rfl (oE K<|pv 2) (bF 3 nd)
  (ao<|dL<|x0 (b7 hu (fv K 0) (pv 3) λ_ _=>rfl) (pv 1) #[0,0,0,0]))
  (ao (dZ cm rfl (oE K<|qb OI SY T.Bt.list boot_list<|aa (fv K 0) ah) (bF 4 nd)
  (ao<|cF (BD (Sd K) (pv 1) (pv 4)<|by with_unfolding_all rfl) (ao<|dL<|Kh hu (fv K 0) (pv 4) #[0,0,0,0]) bA)))))),?_]
 show zU #[1,ba,dx,fs,0,hba,lno _ dk,1,_,s,n,0,hB,hnn,λH1 D s1 hD eD=>?_];let r:=g.same s1;let[ian,v1,_]:=r.vU.get ha;show Q6 #[1,_,_,_,iU.same o s1,b.links,ld,0,.inl #[_,Rd.of r.vU.at_],1,_,ik n,_,r.vU.at_,0,v1,?_];generalize hH2:upd H1 ld (.dK<|eY J<|ik n)=H2;let u0:UI H1 H2 n s M ld J []:=by
  subst hH2;show#[Kd.Lg r.vU.at_,aA g.pl,ag,λm O Y=>?_];let[m',ia',e1,_,N,[iv,r1,r2,r3],_,q6]:=r.vU.isin _ _ Y;cases N
  show#[iv,by rw[aA q6];show r1,r2,λk=>?_]
  rw[r3,dw e1];simp
 let S:H2 D=some (.lst<|(zs<|neighbours ↥s n).map V.int):=u0.kd _ _ eD<|by intro _ z;cases z
 let gnd:=(cD g.ok).La n;show Q5 #[1,D,0,#[_,cc.of S],?_];show dh (src_list (R:=iu) (vs:=(zs<|neighbours ↥s n).map V.int) (xs:=neighbours ↥s n)) (λi G l=>(∃v3,G=[some (.ref ba),some<|.int (n:Int),some<|.ref D,v3,none])/\l D=some (.lst<|(zs<|neighbours ↥s n).map V.int)/\UI H1 l n s M ld J ((neighbours ↥s n).take i))
  #[#[1],S,u0] (λi G l _ z=>#[cc.of z.2.1,fL _]) ?_ ?_
 .ext i x v G H6 H7 I ⟨⟨v3,rfl⟩,d6,l6⟩ p rfl;let L:x∈neighbours ↥s n:=aX I;let hxb:=(cD g.ok).sym L;let hxn:x≠n:=λz=>by subst z;show(cD g.ok).Pl L
  let[c,hc]:=jk<|(cD g.ok).mem L;let[O,v2,_]:=r.vU.get hc;let hv:=pI v2;let l7:UI H1 H7 n s M ld J ((neighbours ↥s n).take i):=by
   show#[l6.kd.trans (Kd.of p),?_,p _ _ l6.at_,λm O Y=>?_]
   .let N:=l6.OL;rw[r.ie.at_]at N|-;show p _ _ N
   .let[iv,t1,t2,t3]:=l6.old m O Y;show#[iv,p _ _ t1,t2,t3]
  let hxt:x∉(neighbours ↥s n).take i:=λz=>by
   let[j,hj,ej]:=fc.mp z;let[hi0,ei0]:=aJ.mp I;let:=(lQ<|So.nodup gnd).mp<|ej.trans ei0.symm;lk
  let[iv,t1,t2,t3]:=l7.old x O hv;let hin:ik n∈iv.map (·.1):=(t3 _).mpr #[n,0,hxb,λz=>hxt z.2];let[u,hu2,_]:=Mw t2 hin;let hvx:cY (eY J<|ik n) (ik x)=some (.ref O):=eZ (ng g.vU.nd)<|jC.mpr #[hv,λz=>hxn<|dw z];show#[1,_,_,_,iU.kj (iU.same o s1) l7.kd.kj,b.links,1,ld,1,(by rw[<-hvx];show cP.k (k:=ik x) l7.at_),O,0,.inl #[_,Rd.of t1],1,_,ik n,u,t1,0,hu2,?_]
  show#[#[1],(Kp.wr t1 rfl) _ _ (p _ _ d6) rfl,?_];rw[cM,I];show l7.step r.vU hv t1 t2 t3
 .ext G C ⟨⟨v3,rfl⟩,d3,l3⟩;rw[bK]at l3;let lk3:=l3.done r.vU g.ok h0 hs;let B:Kj H C:=(Kj.of s1).trans l3.kd.kj;let X:C U=some (.dT R):=l3.kd _ _ r.sO.at_<|by intro _ z;cases z
  let pd3:C M=H M:=by rw[l3.OL,r.ie.at_,g.ie.at_]
  show#[1,_,_,_,iU.kj o B,b.vT,U,R,0,X,λW ws hW kr=>?_];let s4:am C (upd C W<|.lst ws):=am.new hW;show#[W,0,#[_,cc.of ag],?_];let kjI:Kj H (upd C W<|.lst ws):=B.trans<|Kj.of s4;let lk4:∀l,Kg C l->fJ l s0 ld M (eY J<|ik n):=λl kg=>lk3.kg kg;show dh (src_list (R:=λ_ v (kv:List Key×V)=>∃q,v=V.ref q/\C q=some (.tup<|kv.1.map kV)) (vs:=ws) (xs:=R)) (λi G l=>(∃v4,G=[some (.ref ba),some<|.int (n:Int),some<|.ref D,v3,v4])/\l W=some (.lst ws)/\Kg C l/\l U=some (.dT<|jO n i R))
   #[#[1],ag,Kg.of s4,?_] (λi G l _ z=>#[cc.of z.2.1,kr]) ?_ ?_
  .rw[Fz];show s4 _ _ X
  .ext i ⟨kk,vv⟩ v G H6 H7 I ⟨⟨v4,rfl⟩,w6,d,F⟩ p ⟨q,rfl,hq⟩;let Z:H7 q=some (.tup<|kk.map kV):=p _ _<|d _ _ hq<|by intro _ z;cases z
   let o7:=iU.kj (iU.kj o B)<|d.kj.trans<|Kj.of p;let w7:=p _ _ w6;let t:=p _ _ F;let hfl:(kk.map kV).all ph=true:=by
    show c7.mpr λx I=>?_;let[y,1]:=ae.mp I;cases y<;>rfl
   show#[2,q,1,.inr<|gT.of Z,0,hfl,1,?_];show cg (λe=>?_) λe=>?_
   .let[e1,N]:=FB (n:=n) g.sO.nd I e;show#[1,_,_,_,o7,b.vT,U,0,.inr #[_,Rd.of t],1,_,kk,vv,q,t,0,Z,e1,?_];rw[N];show#[#[1],(Kg.Q9 t) _ _ w7 (by intro _ z;cases z),(d.trans<|Kg.of p).trans<|Kg.Q9 t,ag]
   .show#[#[1],w7,d.trans<|Kg.of p,?_];rw[FA I e];show t
  .ext G H6 ⟨⟨v4,rfl⟩,w6,d,F⟩;rw[HQ]at F;show k _ _ _ (B.trans d.kj) ?_ (lk4 _ d)<|Mx g.sO (B.trans d.kj).kp F hs;rw[g.ie.at_]at pd3|-;show d _ _ pd3<|by intro _ z;cases z
end
section
variable{K:Frag}{CP CB:Addr}
def pQ(K:Frag)(CP CB:Addr):Sp:=λg H Q _=>∃(a d:Addr) (c:List (Str×V)) (n:Nat),g=[.ref a,.int (n:Int)]/\H a=some (.ins CB d c)/\(c=[]\/∃l f ld e,Nc c l f ld e)/\n<=16/\
 ∀b,gn a H b->dD K CP CB b (.ref a) (Vbpcaf.fresh n)->Q .ic b
def FC(T:Facts K mg CP CB):Md P w K mg base 1 CB "begin" ["self","layers"] (pQ K CP CB):=by
 show T.FO.dx ["self","layers"] λf cdv A X s H vs Q E hr nd d h=>?_;let[o,D,i,n,0,ha,O,hn,k]:=h;let hl:i.length<=50:=by
  let 0||[l,Y,ld,N,b]:=O
  .decide
  .show b.n9
 let R:∀f u,i.lookup f=some u->f∈cT:=λf u d=>by
  let 0||[l,Y,ld,N,b]:=O
  .cases d
  .show b.names f u d
 let G:∀C I M Z,(dM "gaps" Z<|dM "links" M<|dM "pieces" I<|dM "layers" C i).length<=50:=λC I M Z=>by
  let 0||[l,Y,ld,N,b]:=O
  .let a1:=iW "layers" C [];let a2:=iW "pieces" I<|dM "layers" C [];let a3:=iW "links" M<|dM "pieces" I<|dM "layers" C [];let a4:=iW "gaps" Z<|dM "links" M<|dM "pieces" I<|dM "layers" C [];let a0:([]:List (Str×V)).length=0:=rfl;lk
  .rw[fW _ _ _ ?_,fW _ _ _ ?_,fW _ _ _ ?_,fW _ _ _ #[_,b.layers]]
   .show b.n9
   .show#[.ref Y,by rw[bP,az dk];show b.pieces]
   .show#[.ref ld,by rw[bP,az dk,bP,az dk];show b.links]
   .show#[.ref N,by rw[bP,az dk,bP,az dk,bP,az dk];show b.vT]
 show#[_,(af (kF (pv 0) (pv 1) rfl)
  (af (kF (pv 0) gW rfl)
  (af (kF (pv 0) gW rfl)
  (ao<|kF (pv 0) Jw rfl)))),?_]
 let l1:=iW "layers" (.int (n:Int)) i;show#[2,o,CB,D,i,0,ha,T.c8.cls,T.c8.no _ dk,om,?_];intro j J;let t:o≠j:=λz=>by subst z;rw[ag]at J;cases J
 let l2:=iW "pieces" (.ref j)<|dM "layers" (.int (n:Int)) i;show#[1,o,CB,D,1,(by rw[aA t];show ag),T.c8.cls,T.c8.no _ dk,om,?_]
 intro q B;let L:o≠q:=λz=>by subst z;rw[ag]at B;cases B
 let l3:=iW "links" (.ref q)<|dM "pieces" (.ref j)<|dM "layers" (.int (n:Int)) i;show#[1,o,CB,D,1,(by rw[aA L];show ag),T.c8.cls,T.c8.no _ dk,om,?_]
 intro y p;let n3:o≠y:=λz=>by subst z;rw[ag]at p;cases p
 show#[1,o,CB,D,1,(by rw[aA n3];show ag),T.c8.cls,T.c8.no _ dk,om,?_]
 let v:j≠q:=λz=>by subst z;rw[aA<|bJ t,ag]at B;cases B
 let U:j≠y:=λz=>by subst z;rw[aA<|bJ t,aA v,aA<|bJ t,ag]at p;cases p
 let W:q≠y:=λz=>by subst z;rw[aA<|bJ L,ag]at p;cases p
 generalize F:dM "gaps" (V.ref y) (dM "links" (V.ref q)<|dM "pieces" (V.ref j)<|dM "layers" (V.int (n:Int)) i)=r;let c:∀f:Str,r.lookup f=if f="gaps" then some (.ref y)else if f="links" then some (.ref q)else if f="pieces" then some (.ref j)else if f="layers" then some (.int (n:Int))else i.lookup f:=λf=>by
  rw[<-F,bP,bP,bP,bP]
 let nm:∀f u,r.lookup f=some u->f∈cT:=λf u d=>by
  rw[c]at d;unfold cT;by_cases e1:f="gaps"
  .rw[e1];simp
  by_cases e2:f="links"
  .rw[e2];simp
  by_cases e3:f="pieces"
  .rw[e3];simp
  by_cases e4:f="layers"
  .rw[e4];simp
  rw[az e1,az e2,az e3,az e4]at d;show R f u d
 show k _ ?_ #[r,j,q,y,[],[],[],#[o,D,0,ag,T.c8.cls,λf u d=>T.c8.no f<|nm f u d],#[?_,?_,?_,?_,nm,?_],?_]
 .intro x u g d;let S:x≠j:=λz=>by subst z;rw[aA g,d]at J;cases J
  let m2:x≠q:=λz=>by subst z;rw[aA g,aA S,aA g,d]at B;cases B
  let m3:x≠y:=λz=>by subst z;rw[aA g,aA m2,aA g,aA S,aA g,d]at p;cases p
  rw[aA g,aA m3,aA g,aA m2,aA g,aA S,aA g];show d
 .rw[c,az dk,az dk,az dk,aH rfl];rfl
 .rw[c,az dk,az dk,aH rfl]
 .rw[c,az dk,aH rfl]
 .rw[c,aH rfl]
 .rw[<-F];show G _ _ _ _
 .show#[IV n,hn,(λm a e=>by rw[p7]at e;cases e),#[?_,IC,by simp,(λm a e=>by rw[p7]at e;cases e),by simp],#[?_,IC,by simp,(λm a e=>by rw[p7]at e;cases e),by simp],#[?_,IC,by simp,de],v]
  .rw[aA<|bJ t,aA U,aA<|bJ t,aA v,aA<|bJ t];show ag
  .rw[aA<|bJ L,aA W,aA<|bJ L];show ag
  .rw[aA<|bJ n3];show ag
def pR(K:Frag)(CP CB:Addr):Sp:=λd H Q _=>∃(a c:Addr),d=[.ref a]/\H a=some (.ins CB c [])/\∀b,gn a H b->dD K CP CB b (.ref a) Vbpcaf.start->Q .ic b
def z_(T:Facts K m CP CB):Md P w K m d 2 CB "__init__" ["self"] (pR K CP CB):=by
 show T.Ao.dx ["self"] λf j A a s H p Q E l o n h=>?_;let[c,e,0,g,k]:=h;show#[_,(ao<|dL<|met (FC T) T.c8.cls l (pv 0)<|aa (gc T.Ct.vN) ah),?_];show#[1,c,e,1,g,0,c,e,[],(2),0,g,.inl rfl,de,λi s b=>k i s b]
def fJ.pd{ld a:Addr}(h:fJ H s ld a c)(pl:a≠ld):fJ (upd H a o) s ld a c:=
 #[by rw[aA<|bJ pl];show h.at_,h.nd,λk v d=>let #[n,e,g,i,j,#[f,m,p],b,l]:=h.isin k v d;#[n,e,g,i,j,#[f,by rw[aA b];show m,p],b,l],h.all,h.inj]
def fJ.sx{ld b:Addr}(h:fJ H s ld b f)(a:H l=some (.ins C u w))(e:gn l H d):fJ d s ld b f:=
 #[e _ _ (λz=>by subst z;rw[h.at_]at a;cases a) h.at_,h.nd,λk v g=>let #[n,i,m,o,p,#[j,c,t],q,r]:=h.isin k v g;#[n,i,m,o,p,#[j,e _ _ (λz=>by subst z;rw[c]at a;cases a) c,t],q,r],h.all,h.inj]
def nq.mo(h:nq K H s p g)(e:∀m b,s.get m=some b->∃c,z.get m=some c/\c.shape.pts=b.shape.pts):nq K H z p g:=
 #[h.at_,h.nd,λk v r=>by
  let[i,j,a,b,q,t,u,w,x,y]:=h.isin k v r;let[d,f,l]:=e _ _ u;let[c,n,o]:=e _ _ w;show#[i,j,d,c,q,t,f,n,x,by rw[l,o];show y],h.n9]
def Be(K:Frag)(CP CB:Addr):Sp:=λl H Q _=>∃(e:V) (n:Nat) (d:Addr) (f:List (Str×V)) (h ld g:Addr) (b i:List (Key×V)) (j:List (List Key×V)) (s:Board) (a:Piece),l=[e,.int (n:Int),.ref d]/\iU K CB H e f/\Nc f (s.layers:Int) h ld g/\Lf K CP H s h ld g b i j/\
 s.get n=none/\n<128/\lU K CP H d a/\(∀k,(k,V.ref d)∉b)/\Qp s a/\a.shape.pts≠[]/\∀c,Kd H c->dD K CP CB c e (s.set n<|some a)->Q .ic c
def Kx(T:Facts K mg CP CB):Md P w K mg base 9 CB "put" ["self","number","piece"] (Be K CP CB):=by
 show T.K5.dx ["self","number","piece"] λf cdv A outer s H vs Q E hr nd hu h=>?_;let[vb,n,O,C,B,ld,L,r,bL,cW,s,a,0,o,b,g,W,t,Y,hfr,p,X,k]:=h;let[ba,dx,0,U,hcl,hna]:=id o;let lno:∀m:Str,m∉cT->C.lookup m=none:=λm j=>by
  cases e:C.lookup m with
  |none=>rfl
  |some u=>show absurd (b.names _ _ e) j
 let y:∀m,(s.set n<|some a).get m=if m=n then some a else s.get m:=λm=>get_set g.ok.len t;let vn:cY r (ik n)=none:=sT λz=>by
  let[[k1,v],j,e1]:=ae.mp z;let[m,c,I,e2,i,_]:=g.ie.isin _ _ j;let e3:ik n=ik m:=by rw[<-e2];show e1.symm
  rw[<-dw e3,W]at i;cases i
 let G:wY (s.set n<|some a):=Bx g.ok t λc e=>by cases e;show X
 let F:r.length<=128:=sU g.ie.nd λq hq=>by
  let[m,e,j]:=(g.ie.keys g.ok q).mp hq;show#[m,(eV.mp j).1,e]
 show#[_,(af (gO hu (fv K 0) (pv 1) (pv 2) rfl)
  (ao<|dL<|met (HN T) T.c8.cls hr (pv 0)<|aa (pv 1) ah)),?_]
 show#[2,_,_,_,o,b.pieces,1,B,1,lT.k (k:=ik n) g.ie.at_<|GB F,?_];generalize x:upd H B (.dK<|putK r (ik n)<|.ref O)=R;let d:Kd H R:=by subst x;show Kd.Lg g.ie.at_
 let D:=d _ _ U<|by intro _ z;cases z
 let J:jM K CP R (s.set n<|some a) B (r++[(ik n,.ref O)]):=by
  show#[?_,?_,λk1 v j=>?_,λm c i=>?_,λk1 k2 v M N=>?_]
  .subst x;rw[ag,il _ vn]
  .let:=w9 (V.ref O) g.ie.nd vn;rw[il _ vn]at this;show this
  .let j||j:=aG.mp j
   .let[m,c,I,q1,q2,q3,q4]:=g.ie.isin _ _ j;show#[m,c,I,q1,?_,q3,q4.kj d.kj];rw[y,az λz=>by subst z;rw[W]at q2;cases q2]
    show q2
   .let e:=aP.mp j;cases e
    show#[n,a,O,0,by rw[y,aH rfl],0,Y.kj d.kj]
  .rw[y]at i;by_cases e:m=n
   .grind
   .rw[az e]at i;let[v,hv]:=g.ie.all m c i;show#[v,cJ _ hv]
  .let M||M:=aG.mp M
   .let N||N:=aG.mp N
    .show g.ie.inj _ _ _ M N
    .grind
   .grind
 let lk1:fJ R s ld B bL:=by subst x;show g.vU.pd g.pl
 show#[1,ba,dx,C,0,D,lno _ dk,1,_,n,C,_,B,ld,L,_,bL,s.set n<|some a,s,a,0,iU.kj o d.kj,b,G,J,lk1,g.pl,by rw[y,aH rfl],W,λm j=>by rw[y,az j],λH2 Z l pd2 lk2=>?_]
 let S:H2 L=H L:=by rw[l _ _ (d _ _ g.sO.at_<|by intro _ z;cases z)<|by intro _ z;cases z];show g.sO.at_.symm
 show k _ (d.trans l) #[C,B,ld,L,_,Z,cW,iU.kj o (d.trans l).kj,b,G,g.lay,λm c i=>?_,J.kj l.kj pd2,lk2,(g.sO.mo λm c i=>#[c,?_,0]).kp (d.trans l).kj.kp S,g.pl]
 .rw[y]at i;by_cases e:m=n
  .rw[aH e]at i;cases i
   show#[p.lo,p.hi,p.top,p.net]
  .rw[az e]at i;let:=g.Fj m c i;show#[this.lo,this.hi,this.top,this.net]
 .grind
end
def Nc.no{ld:Addr}(b:Nc a l f ld d)(c:m∉cT):a.lookup m=none:=by
 cases e:a.lookup m with
 |none=>rfl
 |some u=>show absurd (b.names _ _ e) c
section
variable{K:Frag}{CP CB:Addr}
def yC(K:Frag)(CP CB:Addr):Sp:=λd H Q _=>∃(c:V) (n:Nat) (s:Board) (a:Piece),d=[c,.int (n:Int)]/\dD K CP CB H c s/\s.get n=some a/\∀b,Kj H b->dD K CP CB b c (s.set n none)->Q .ic b
def HS(T:Facts K mg CP CB):Md P w K mg R 3 CB "take" ["self","number"] (yC K CP CB):=by
 show T.Ir.dx ["self","number"] λf Y A L s H vs Q E hr nd hu h=>?_;let[vb,n,s,a,0,[x,u,ld,S,l,U,X,o,b,g],B,k]:=h;let[W,Z,0,C,hcl,hna]:=id o;let j:=gz g.ok B;let q:∀m,(s.set n none).get m=if m=n then none else s.get m:=λm=>get_set g.ok.len j;let J:wY (s.set n none):=Bx g.ok j λc e=>by cases e
 show#[_,(af (dL<|met (D5 T) T.c8.cls hr (pv 0)<|aa (pv 1) ah)
  (ao<|dL<|x0 (fv K 0) (pv 1) #[0,0,0,0])),?_]
 show Q6 #[1,W,Z,x,0,C,b.no dk,1,_,n,x,u,ld,S,l,U,X,s,s.set n none,a,0,o,b,g,B,by rw[q,aH rfl],λm D=>by rw[q,az D],λO G y r N I p=>?_]
 let d:=N.trans g.ie.at_;let[pa,v1,_]:=g.ie.get B;show#[1,_,_,_,iU.kj o r,b.pieces,u,0,.inl #[_,Rd.of d],1,_,ik n,_,d,0,v1,?_];let t:Kj O (upd O u<|.dK<|eY l<|ik n):=Kj.Lg d;let F:=r.trans t;show k _ F #[x,u,ld,S,eY l<|ik n,G,y,iU.kj o F,b,J,g.lay,λm c i=>?_,?_,I.pd g.pl,p.kp t.kp (aA λz=>by subst z;rw[p.at_]at d;cases d),g.pl]
 .rw[q]at i;by_cases e:m=n
  .rw[aH e]at i;cases i
  .rw[az e]at i;let:=g.Fj m c i;show#[this.lo,this.hi,this.top,this.net]
 .show#[ag,ng g.ie.nd,λk1 v D=>?_,λm c i=>?_,λk1 k2 v m1 m2=>g.ie.inj _ _ _ (jC.mp m1).1 (jC.mp m2).1]
  .let[h1,h2]:=jC.mp D;let[m,c,M,0,q2,q3,q4]:=g.ie.isin _ _ h1;show#[m,c,M,0,by rw[q,az λz=>h2<|by rw[z]];show q2,q3,q4.kj F]
  .rw[q]at i;by_cases e:m=n
   .rw[aH e]at i;cases i
   .rw[az e]at i;let[v,hv]:=g.ie.all m c i;show#[v,jC.mpr #[hv,λz=>e<|dw z]]
def jM.Ky(h:jM K CP H s y b)(w:cY b (ik n)=some (.ref d))(j:H d=some (.ins C E F))(p:gn d H q)(l:lU K CP q d r)(f:∀m,D.get m=if m=n then some r else s.get m):jM K CP q D y b:=by
 let a:=pI w;show#[p _ _ (λz=>by subst z;rw[h.at_]at j;cases j) h.at_,h.nd,λk v i=>?_,λm c g=>?_,h.inj]
 .let[m,c,o,0,A,0,B]:=h.isin _ _ i;by_cases e:m=n
  .subst e;let t:=eZ h.nd i;rw[w]at t;cases t
   show#[m,r,d,0,by rw[f,aH rfl],0,l]
  .show#[m,c,o,0,by rw[f,az e];show A,0,B.kp (p.kp j) λu x=>p _ _ (λz=>?_) x]
   subst z;show e<|dw<|h.inj _ _ _ i a
 .rw[f]at g;by_cases e:m=n
  .subst e;show#[_,a]
  .rw[az e]at g;show h.all m c g
def Bf{ld:Addr}(h:H c=some (.ins CB k f))(b:Nc f l o ld m)(i:lU K CP H j a):c≠j:=λz=>by
 subst z;let[d,g,e,_,n,_]:=i;rw[h]at e;cases e
 let:=n _ _ b.layers;revert this;decide+kernel
def vC(K:Frag)(CP CB:Addr):Sp:=λf H Q _=>∃(d:V) (n:Nat) (e:V) (s:Board) (a:Piece) (b:List Pt),f=[d,.int (n:Int),e]/\dD K CP CB H d s/\s.get n=some a/\Hr K H e b/\b≠[]/\b.length<=32/\
 ∀c,Kp H c->dD K CP CB c d (s.set n<|some {a with shape:=#[a.shape.r,b]})->Q .ic c
def FD(T:Facts K mg CP CB):Md P w K mg base 9 CB "place" ["self","number","points"] (vC K CP CB):=by
 show T.FP.dx ["self","number","points"] λf cdv A outer s H vs Q E hr nd hu h=>?_;let[vb,n,vp,s,a,ps,0,[J,pd,ld,gd,F,bL,cW,o,b,g],Y,hps,N,M,k]:=h;let[W,dx,0,D,hcl,hna]:=id o;let l:=gz g.ok Y;generalize C:({a with shape:=#[a.shape.r,ps]}:Piece)=I at k;let v:∀m,(s.set n none).get m=if m=n then none else s.get m:=λm=>get_set g.ok.len l;let X:∀m,(s.set n<|some I).get m=if m=n then some I else s.get m:=λm=>get_set g.ok.len l;let S:wY (s.set n<|some I):=Bx g.ok l λc e=>by cases e;subst C;show N
 show#[_,(af (dL<|met (D5 T) T.c8.cls hr (pv 0)<|aa (pv 1) ah)
  (af (dL<|met (Ht T) T.TP.cls hr (b7 hu (fv K 0) (pv 1) λ_ _=>rfl)<|aa (pv 2) ah)
  (ao<|dL<|met (HN T) T.c8.cls hr (pv 0)<|aa (pv 1) ah))),?_]
 show Q6 #[1,W,dx,J,0,D,b.no dk,1,_,n,J,pd,ld,gd,F,bL,cW,s,s.set n none,a,0,o,b,g,Y,by rw[v,aH rfl],λm Z=>by rw[v,az Z],λH1 lk' gk' i pd1 lk1 t=>?_]
 let G:=g.ie.kj i pd1;let[pa,v1,p1]:=G.get Y;let[B,r,d,x,pn,pl]:=id p1;let pno:r.lookup ("place":Str)=none:=by
  cases e:r.lookup ("place":Str)with
  |none=>rfl
  |some u=>show absurd (pn _ _ e) dk
 show Q6 #[1,_,_,_,iU.kj o i,b.pieces,1,pd,1,(by rw[<-v1];show cP.k (k:=ik n) G.at_),pa,B,r,0,d,pno,1,pa,B,r,vp,ps,0,d,om,IsL.kp eF.mon i.kp hps,N,M,λH2 fs2 a2 pl2 q ln2 j=>?_]
 let bpa:=Bf (i _ _ D (by intro _ z;cases z)<|by intro _ z;cases z) b p1
 let y:=j _ _ bpa<|i _ _ D (by intro _ z;cases z)<|by intro _ z;cases z
 let o2:iU K CB H2 (.ref W) J:=#[W,dx,0,y,hcl,hna];let p2:lU K CP H2 pa I:=by
  subst C;show#[B,fs2,a2,#[?_,?_,?_,?_,pl2,x.r0,x.r1],λf u hf=>?_,?_]
  .rw[q _ dk dk dk];show x.net
  .rw[q _ dk dk dk];show x.first
  .rw[q _ dk dk dk];show x.last
  .rw[q _ dk dk dk];show x.d9
  .by_cases e1:f="points"
   .rw[e1];decide+kernel
   by_cases e2:f="box"
   .rw[e2];decide+kernel
   by_cases e3:f="sides"
   .rw[e3];decide+kernel
   rw[q f e1 e2 e3]at hf;show pn f u hf
  .let[u1,w1,_]:=x.placed.pts;let[u2,w2,_]:=x.placed.box;let[u3,w3,_]:=x.placed.oW;rw[ln2.2 #[u1,w1] #[u2,w2] #[u3,w3]];show pl
 let U:=G.Ky v1 d j p2 X;let O:=lk1.sx d j;show#[1,W,dx,J,0,y,b.no dk,1,_,n,J,_,pd,ld,gd,F,lk',s.set n<|some I,s.set n none,I,0,o2,b,S,U,O,g.pl,by rw[X,aH rfl],by rw[v,aH rfl],λm Z=>by rw[X,az Z,v,az Z],λH3 lk3 p pd3 R=>?_]
 let gd2:=j _ _ (λz=>by subst z;rw[t.at_]at d;cases d) t.at_
 let gd3:=p _ _ gd2<|by intro _ z;cases z
 show k _ ((i.kp.trans<|j.kp d).trans p.kj.kp) #[J,pd,ld,gd,F,lk3,gk',iU.kj o2 p.kj,b,S,g.lay,λm c L=>?_,U.kj p.kj pd3,R,(t.mo λm c L=>#[c,?_,0]).kp ((j.kp d).trans p.kj.kp)<|by rw[gd3,t.at_],g.pl]
 .rw[X]at L;by_cases e:m=n
  .rw[aH e]at L;cases L
   let:=g.Fj n a Y;subst C;show#[this.lo,this.hi,this.top,this.net]
  .rw[az e]at L;let:=g.Fj m c L;show#[this.lo,this.hi,this.top,this.net]
 .grind
end
def nG(ok:gF g)(D:qR g r a)(f:r∈nodes g):c∈(ks a).filter (eQ a E)↔∃k,(c,k)∈a/\c≠r/\E c=pl a k/\mv a c=k:=by
 rw[aw];let n:=D.Kq ok f;walk
 .ext⟨h,e⟩;let[[o,k],d,0]:=ae.mp h;unfold eQ at e;rw[kq D.tree.nd d,be,aT,aT]at e;show#[k,d,λz=>by let i:=e.1;rw[z]at i;lk,e.2,kq D.tree.nd d]
 .ext⟨k,d,j,l,m⟩;let b:c∈ks a:=ae.mpr #[_,d,0];show#[b,?_];unfold eQ;rw[m,be,aT,aT];show#[Nat.pos_of_ne_zero λz=>j ?_,l];show uC D.tree.nd b (D.root ok f)<|by rw[z,n]
def D6(ok:gF g)(D:qR g r a)(f:r∈nodes g):x∈((ks a).filter<|eQ a E).map (mv a)↔∃c,(c,x)∈a/\c≠r/\E c=pl a x:=by
 rw[ae];walk
 .ext⟨c,h,rfl⟩;let[k,b,d,e,i]:=(nG ok D f).mp h;rw[i];show#[c,b,d,e]
 .ext⟨c,b,d,e⟩;show#[c,(nG ok D f).mpr #[x,b,d,e,kq D.tree.nd b],kq D.tree.nd b]
def Kz(ok:gF g)(D:qR g r a)(u:r∈nodes g):1<(((ks a).filter<|eQ a E).map<|mv a).count x↔∃c b,c≠b/\(c,x)∈a/\c≠r/\E c=pl a x/\(b,x)∈a/\b≠r/\E b=pl a x:=by
 let e:(((ks a).filter<|eQ a E).map<|mv a).count x=(((ks a).filter<|eQ a E).filter λc=>mv a c==x).length:=by
  rw[List.count,List.countP_map,List.countP_eq_length_filter];rfl
 rw[e];let v:(((ks a).filter<|eQ a E).filter λc=>mv a c==x).Nodup:=tS (a_.trans a_) D.tree.nd;let d:∀c,c∈(((ks a).filter<|eQ a E).filter λc=>mv a c==x)↔(c,x)∈a/\c≠r/\E c=pl a x:=by
  intro c;rw[aw,nG ok D u,C1];walk
  .ext⟨⟨k,f,j,i,t⟩,s⟩;rw[t]at s;subst s;show#[f,j,i]
  .ext⟨f,j,i⟩;show#[#[x,f,j,i,kq D.tree.nd f],kq D.tree.nd f]
 walk
 .intro h;let[c,b,f,j,i]:=Ks h v;let[l,m,n]:=(d c).mp f;let[o,p,q]:=(d b).mp j;show#[c,b,i,l,m,n,o,p,q]
 .ext⟨c,b,i,l,m,n,o,p,q⟩;show of_two ((d c).mpr #[l,m,n]) ((d b).mpr #[o,p,q]) i
def KA(ok:gF g)(D:qR g r a)(L:HK g a E)(j:r∈nodes g):(x∈((ks a).filter<|eQ a E).map (mv a)/\(x≠r\/1<(((ks a).filter<|eQ a E).map<|mv a).count r))↔x∈members g r/\uD g x:=by
 rw[D6 ok D j,Kz ok D j,<-D.key x];walk
 .ext⟨⟨c,b,d,i⟩,f⟩;let k:x∈ks a:=by
   let[q,_]||[_,q,_]:=D.tree.up b
   .show absurd q d
   .show q
  show#[k,(GD ok D L j k).mp ?_];by_cases e:x=r
  .let f||f:=f
   .show absurd e f
   .subst e;show .inr #[0,f]
  .show .inl #[e,c,b,d,i]
 .ext⟨k,h⟩;let[e,c,b,d,i]||[e,c,l,m,b,d,i,f]:=(GD ok D L j k).mpr h
  .show#[#[c,b,d,i],.inl e]
  .subst e;show#[#[c,b,d,i],.inr #[c,l,m,b,d,i,f]]
def KB(l:List Nat)(x:Nat):(zs l).count (x:Int)=l.count x:=by
 induction l with
 |nil=>rfl
 |cons a l b=>
  change List.count (x:Int) ((a:Int)::zs l)=_;rw[ox,ox,b];by_cases h:a=x
  .subst h;simp
  .let:¬(a:Int)=(x:Int):=om;simp[h,this]
section
variable{K:Frag}{CP CB:Addr}
def qS(K:Frag)(CP CB:Addr):Sp:=λb H Q _=>∃(a:V) (s:Board),b=[a]/\dD K CP CB H a s/\nr H Q (zs<|cuts ↥s)
def Ch(T:Facts K mg CP CB):Df P w K mg base 5 "cut_pieces" ["board"] (qS K CP CB):=by
 show T.CK.dx ["board","found","root","came_from","number","held_by"] λf cdv A outer s H vs Q E hr nd hu h=>?_;let[vb,s,0,hb,k]:=h;let ok:=cD hb.ok;show#[_,(af (aS 1 nd gW)
  (af (dZ cm rfl (oE K<|du (Ms T) hr<|aa (pv 0) ah) (bF 2 nd)
  (af (aS 3 nd<|du (D0 T) hr<|aa (pv 0)<|aa (pv 2) ah)
  (af (kh (i:=5) rfl nd rfl rfl (ma rfl rfl rfl rfl) (oE K<|du (HM T) hr<|aa (pv 0)<|aa (pv 3) ah) (cZ (own:=[("number",4)])<|by kernel_rfl) (λ_ _ _ _ _=>(bF 4 nd)) (λ_ _ _ _ _=>g_) λ_ _ _ _ _=>(b7 hu (pv 3) (pv 4) λ_ _=>rfl))
  (ao (dZ cm rfl (oE K<|pv 5) (bF 4 nd)
  (ao<|cF (AM (ct oA (pv 4)<|pv 2)<|t9<|ct oB (On (pv 5)<|pv 2) aI).pt (ao<|gO hu (pv 1) (pv 4) iN rfl) bA))))))
  (ao<|aM<|bC jw SY T.Bt.sorted boot_sorted<|aa (pv 1) ah))),?_]
 show λJ W=>?_;let s0:am H (upd H J<|.dK []):=am.new W;show#[1,_,s,0,hb.same s0,λH1 I s1 hpl e1=>#[I,0,#[_,cc.of e1],?_]];let npf:I≠J:=λz=>by rw[z,ag]at hpl;cases hpl
 let xlen:((nodes ↥s).filter<|isRoot ↥s).length<100000:=bi (aL (bu _ _) cz) de;show dh (src_list (K:=K) (R:=iu) (vs:=(zs<|(nodes ↥s).filter<|isRoot ↥s).map V.int) (xs:=(nodes ↥s).filter<|isRoot ↥s)) (λi O C=>∃(L:List Nat) (v2 v3 v4 v5:Option V),O=[some vb,some<|.ref J,v2,v3,v4,v5]/\am H C/\C J=some (.dK<|uz L)/\C I=some (.lst<|(zs<|(nodes ↥s).filter<|isRoot ↥s).map V.int)/\L.Nodup/\∀x,x∈L↔∃r∈((nodes ↥s).filter<|isRoot ↥s).take i,x∈members ↥s r/\uD ↥s x)
  #[[],none,none,none,none,0,s0.trans s1,s1 _ _ ag,e1,.nil,by simp] (λi O C _ z=>let #[_,_,_,_,_,_,_,_,e,_]:=z;#[cc.of e,fL _]) ?_ ?_
 .ext i r v O H2 H3 X ⟨L,v2,v3,v4,v5,rfl,s2,f2,l2,Y,N⟩ s3 r3;let 0:=r3;let G:r∈nodes ↥s:=(aw.mp<|aX X).1;let tk:((nodes ↥s).filter<|isRoot ↥s).take (i+1)=((nodes ↥s).filter<|isRoot ↥s).take i++[r]:=by rw[cM,X];rfl
  let Z:=s2.trans s3;show#[2,_,s,r,0,hb.same Z,G,λH4 d t s4 hd e4 D=>?_];let n9:=xm ok D;let s24:=Z.trans s4;dsimp only[dQ];show zU<|vM ?_;show#[2,_,s,r,d,t,0,hb.same s24,G,D,e4,λH5 hl E s5 hhl e5 Lw=>#[hl,0,#[_,cc.of e5],?_]];let hfew:((ks t).filter<|eQ t E).length<100000:=by
   let:=bu (eQ t E)<|ks t;rw[ac]at this;lk
  show lG (K:=K) (src_list (R:=iu) (vs:=(zs<|(ks t).filter<|eQ t E).map V.int) (xs:=(ks t).filter<|eQ t E)) iu.mon (mv t) hfew (λC e=>#[cc.of (e _ _ e5),fL _]) ?_ ?_
  .ext y v H6 Q1 hy s6 r6 k1;let 0:=r6;let[p,hyp,_,_,ep]:=(nG ok D G).mp hy;let g6:cP H6 d (kV<|ik y) (some<|.int (p:Int)):=by rw[<-iZ D.tree.nd hyp];show cP.k (k:=ik y)<|s6 _ _<|s5 _ _ e4
   show#[0,2,d,1,g6,k1 _ _ (am.refl _)<|by rw[ep];rfl]
  .intro H6 o acc s6 F e6 pr6;rw[pL pr6]at e6;generalize hHB:((ks t).filter<|eQ t E).map (mv t)=g at e6;let s56:=s5.trans s6;let s36:=s4.trans s56;let s26:=Z.trans s36;let hhb0:H o=none:=(s24.trans s5).free F;let nbf:o≠J:=λz=>by rw[z,s5 _ _<|s4 _ _<|s3 _ _ f2]at F;cases F
   let npl:I≠o:=λz=>by rw[<-z,s5 _ _<|s4 _ _<|s3 _ _ l2]at F;cases F
   let HBn:∀x,x∈g->x∈nodes ↥s:=λx X=>by
    rw[<-hHB]at X;let[c,h1,h2,_]:=(D6 ok D G).mp X;let[q,_]||[_,q,_]:=D.tree.up h1
    .show absurd q h2
    .show D.node ok q
   show#[1,o,0,#[_,cc.of e6],?_];show dh (src_list (K:=K) (R:=iu) (vs:=(zs g).map V.int) (xs:=g)) (λj O C=>∃(L:List Nat) (v4:Option V),O=[some vb,some<|.ref J,some<|.int (r:Int),some<|.ref d,v4,some<|.ref o]/\am H C/\C J=some (.dK<|uz L)/\C I=some (.lst<|(zs<|(nodes ↥s).filter<|isRoot ↥s).map V.int)/\C o=some (.lst<|(zs g).map V.int)/\L.Nodup/\∀x,x∈L↔(∃r∈((nodes ↥s).filter<|isRoot ↥s).take i,x∈members ↥s r/\uD ↥s x)\/(x∈g.take j/\(x≠r\/1<g.count r)))
    #[L,1,s26,s36 _ _<|s3 _ _ f2,s36 _ _<|s3 _ _ l2,e6,Y,λx=>by rw[N];simp] (λi O C _ z=>let #[_,_,_,_,_,_,e,_]:=z;#[cc.of e,fL _]) ?_ ?_
   .ext j y v O H7 H8 hy ⟨L,v4,rfl,s7,f7,l7,h7,B,u⟩ M r8;let 0:=r8;let tk':g.take (j+1)=g.take j++[y]:=by rw[cM,hy];rfl
    let s78:=s7.trans M;let hyn:=HBn y<|aX hy;let Lfew:L.length<=128:=aL (fM B (m:=nodes ↥s) λx X=>by
     let[r',_,q,_]||[q,_]:=(u x).mp X
     .show cK ok.so q
     .show HBn x<|iB q) cz
    let fin:∀(c:Bool),c=decide (y≠r\/1<g.count r)->∀x,x∈(if c=true then(if y∈L then L else L++[y])else L)↔(∃r∈((nodes ↥s).filter<|isRoot ↥s).take i,x∈members ↥s r/\uD ↥s x)\/(x∈g.take (j+1)/\(x≠r\/1<g.count r)):=by
     intro c hc x;let e1:x∈g.take (j+1)↔x∈g.take j\/x=y:=by rw[tk',aG,aP]
     rw[e1];by_cases q:y≠r\/1<g.count r
     .rw[hc,aU q,aH rfl];let e2:x∈(if y∈L then L else L++[y])↔x∈L\/x=y:=by
       split
       .rename_i hin;show#[.inl,λq=>q.elim id λq=>q▸hin]
       .rw[aG,aP]
      rw[e2,u];walk
      .ext((a|⟨a,b⟩)|a)
       .show .inl a
       .show .inr #[.inl a,b]
       .subst a;show .inr #[.inr rfl,q]
      .ext(a|⟨a|a,b⟩)
       .show .inl<|.inl a
       .show .inl<|.inr #[a,b]
       .show .inr a
     .rw[hc,bE q,az de,u];walk
      .ext(a|⟨a,b⟩)
       .show .inl a
       .show .inr #[.inl a,b]
      .ext(a|⟨a|a,b⟩)
       .show .inl a
       .show .inr #[a,b]
       .subst a;show absurd b q
    let put:(1:Nat)<=1->(y≠r\/1<g.count r)->∀{te:TE},True:=λ_ _ _=>trivial;let done:(y≠r\/1<g.count r)->(if y∈L then L else L++[y]).Nodup:=λ_=>by
     split
     .show B
     .rename_i hno;rw[di];show#[B,by simp,λp hp q hq e=>by simp at hq;subst hq;subst e;show hno hp]
    let S:(uz L).length<sizeLine:=by rw[uz,ac];show bi Lfew de
    let U:=M _ _ f7;show#[2,0,1,cg (λt1=>?_) λt1=>?_]
    .let q:y≠r\/1<g.count r:=.inl λz=>by subst z;simp at t1
     show Fd #[2,J,1,lT.k (k:=ik y) U S,?_];rw[xl];show#[_,1,am.upd s78 W,ag,?_,?_,done q,?_]
     .rw[aA npf];show M _ _ l7
     .rw[aA nbf];show M _ _ h7
     .let:=fin true (aU q).symm;simpa using this
    .let eyr:y=r:=by
      let:=t1;simp at this;lk
     show#[1,.inl #[0,_,cc.of<|M _ _ h7],1,o,zs g,(r:Int),0,0,cc.of<|M _ _ h7,_,1,0,1,?_];rw[KB];show cg (λt2=>?_) λt2=>?_
     .let q:y≠r\/1<g.count r:=.inr<|by let:=aF t2;lk
      show#[2,J,1,lT.k (k:=ik y) U S,?_];rw[xl];show#[_,1,am.upd s78 W,ag,?_,?_,done q,?_]
      .rw[aA npf];show M _ _ l7
      .rw[aA nbf];show M _ _ h7
      .let:=fin true (aU q).symm;simpa using this
     .let q:¬(y≠r\/1<g.count r):=λz=>by
       let z||z:=z
       .show z eyr
       .let:=cb t2;lk
      show#[L,1,s78,U,M _ _ l7,M _ _ h7,B,?_];let:=fin false (bE q).symm;simpa using this
   .ext O H7 ⟨L,v4,rfl,s7,f7,l7,h7,B,u⟩;rw[bK]at u;show#[L,_,_,_,1,s7,f7,l7,B,λx=>?_];rw[u,tk,<-hHB,KA ok D Lw G];simp only[aG,aP];walk
    .ext(⟨r',l,n⟩|q)
     .show#[r',.inl l,n]
     .show#[r,.inr rfl,q]
    .ext⟨r',l|l,n⟩
     .show .inl #[r',l,n]
     .subst l;show .inr n
 .ext O H2 ⟨L,v2,v3,v4,v5,rfl,s2,f2,l2,Y,N⟩;rw[bK]at N;let[ns,h1,h2,h3]:=kn (kvs:=uz L) (l:=L) (by rw[nE];show ly (λa b e=>dw e) Y) λkk=>by
   rw[nE,ae];show#[λ#[m,l,n]=>#[m,n.symm,l],λ#[m,l,n]=>#[m,n,l.symm]]
  show#[1,J,_,ns,0,Rd.of f2,h1,λns' p hp ho hpn=>?_];let so:So (cuts ↥s):=So.filter ok.so _;let R:∀m,m∈cuts ↥s↔m∈L:=λm=>by
   unfold cuts;rw[aw,N,aT];walk
   .ext⟨l,n⟩;show#[rootOf ↥s m,aw.mpr #[iF ok l,?_],ko ok<|e_ ok l,(DZ ok l).mp n];rw[i6 ok<|iF ok l];show aU<|iE ok<|e_ ok l
   .ext⟨r,l,n,q3⟩;let hm:=cK ok.so n;show#[hm,(DZ ok hm).mpr q3]
  rw[jz hp ho h2 so λx=>by
   rw[h3];show#[λ#[m,l,n]=>#[m,(R m).mpr l,n],λ#[m,l,n]=>#[m,(R m).mp l,n]]]
  show k _ _ (am.upd s2<|s2.free hpn) (s2.free hpn) ag
end
def My(l:List Nat)(x:Nat):NT (.int (x:Int)) ((zs l).map V.int)=decide (x∈l):=by
 unfold NT;rw[bQ,ci,aT];walk
 .ext⟨v,a,e⟩;rw[ae]at a;let[i,b,0]:=a;let[n,c,0]:=B5.mp b;let d:(n:Int)=(x:Int):=by simpa[Lc]using e
  let:n=x:=om;subst this;show c
 .intro h;show#[.int (x:Int),ae.mpr #[(x:Int),B5.mpr #[x,h,0],0],by simp[Lc]]
def KC(l:List Nat):((zs l).map V.int).all ph=true:=by
 rw[c7];intro v a;rw[ae]at a;let[i,1]:=a;rfl
structure Up(g:Graph)(r j:Nat)(cf:List (Nat×Nat))(E:Nat->Nat)(x:Nat)(F:List Nat):Prop where
 QF:ig cf x j
 nd:F.Nodup
 is:∀k,k∈F↔∃c,ig cf x c/\c≠x/\ig cf c j/\(c,k)∈cf/\k≠r/\c∈(ks cf).filter (eQ cf E)
 le:∀k,k∈F->pl cf x<=pl cf k
def Up.start(D:qR g r e)(l:j∈ks e):Up g r j e E j [] where
 QF:=.refl l
 nd:=.nil
 is:=λk=>by
  simp only[cA,G5];ext⟨c,d,f,i,_⟩;let a:=D.tree.jf d;let b:=D.tree.jf i;show f (uC D.tree.nd d.right d.left om)
 le:=λk h=>by simp at h
def Up.step(D:qR g r d)(u:Up g r j d E x F)(l:(x,p)∈d)(A:x≠r):
  pl d p<pl d x/\Up g r j d E p (if p≠r/\x∈(ks d).filter (eQ d E)then F++[p]else F):=by
 let ch:=D.tree.child l A;let o:ig d p x:=.step l<|.refl ch.2.1;let n:∀c,(ig d p c/\c≠p/\ig d c j)↔(ig d x c/\c≠x/\ig d c j)\/c=x:=by
  intro c;walk
  .ext⟨f,i,h⟩;by_cases e:c=x
   .show .inr e
   .show .inl #[?_,e,h];let q||q:=D.tree.Sf h u.QF
    .let B:=D.tree.jf<|D.tree.above l q e;let C:=D.tree.jf f;show absurd (uC D.tree.nd f.right f.left om) i
    .show q
  .ext(⟨f,i,h⟩|rfl)
   .show#[o.trans f,λz=>?_,h];subst z;let:=D.tree.jf f;lk
   .show#[o,λz=>by rw[z]at ch;lk,u.QF]
 show#[ch.1,o.trans u.QF,?_,λk=>?_,λk m=>?_]
 .split
  .rw[di];show#[u.nd,by simp,λa y b w e=>?_]
   simp at w;subst w;subst e;let:=u.le _ y;lk
  .show u.nd
 .let lhs:k∈(if p≠r/\x∈(ks d).filter (eQ d E)then F++[p]else F)↔k∈F\/(k=p/\p≠r/\x∈(ks d).filter (eQ d E)):=by
   split
   .grind
   .grind
  rw[lhs,u.is];walk
  .grind
  .ext⟨c,f,i,h,s,t,v⟩;let[a,b,_]||e:=(n c).mp #[f,i,h]
   .show .inl #[c,a,b,h,s,t,v]
   .subst e;let:=qk D.tree.nd s l;subst this;show .inr #[0,t,v]
 .split at m
  .let q||q:=aG.mp m
   .let:=u.le _ q;lk
   .simp at q;subst q;lk
  .let:=u.le _ m;lk
section
variable{K:Frag}{CP CB:Addr}
def my(K:Frag)(CP CB:Addr):Sp:=λb H Q _=>∃(a:V) (s:Board) (i j:Nat),b=[a,.int (i:Int),.int (j:Int)]/\dD K CP CB H a s/\i∈nodes ↥s/\j∈nodes ↥s/\nr H Q (zs<|needed ↥s i j)
def uF(T:Facts K mg CP CB):Df P w K mg base 4 "needed_between" ["board","start","end"] (my K CP CB):=by
 show T.uW.dx ["board","start","end","came_from","hung","found","number","above"] λf cdv A outer s H vs Q E hr R hu h=>?_;let[vb,s,r,j,0,hb,i,hj,k]:=h;let ok:=cD hb.ok;show#[_,(af (aS 3 R<|du (D0 T) hr<|aa (pv 0)<|aa (pv 1) ah)
  (af (cF (n6<|jP hu (pv 2)<|pv 3) (ao<|aM<|cR ah) bA)
  (af (aS 4 R<|du (HM T) hr<|aa (pv 0)<|aa (pv 3) ah)
  (af (aS 5 R<|cR ah)
  (af (aS 6 R<|pv 2)
  (af (m7 cm (ct oA (pv 6)<|pv 1) (af (aS 7 R<|b7 hu (pv 3) (pv 6) λ_ _=>rfl)
  (af (cF (o6 (ct oA (pv 7)<|pv 1)<|p9<|BD (Sd K) (pv 6) (pv 4)<|by with_unfolding_all rfl).pt (ao<|dL<|JJ (pv 5)<|pv 7) bA)
  (ao<|aS 6 R<|pv 7))))
  (ao<|aM<|bC (Gf K) SY T.Bt.sorted boot_sorted<|aa (pv 5) ah))))))),?_]
 show#[2,_,s,r,0,hb,i,λH1 d g s1 hd e1 D=>?_];show#[2,d,1,cP.k (k:=ik j) e1,1,?_];rw[nv D.tree.nd];show cg (λt1=>?_) λt1=>?_
 .let hno:j∉ks g:=by simpa using t1
  show#[cH _,λq hq=>?_];let e:needed ↥s r j=[]:=by
   unfold needed joined;rw[az];rw[bg];show λz=>hno<|(D.key j).mpr z
  rw[e]at k;show k _ _ (am.upd s1<|s1.free hq) (s1.free hq) ag
 .let C:j∈ks g:=by simpa using t1
  show#[2,_,s,r,d,g,0,hb.same s1,i,D,e1,λH2 O E s2 hhl e2 L=>?_];let s12:=s1.trans s2;show#[cH _,λB n=>?_];let y:=s12.free n;show#[1,?_];show#[λm σ o=>∃(x:Nat) (F:List Nat) (v7:Option V),m=pl g x/\σ=[some vb,some<|.int (r:Int),some<|.int (j:Int),some<|.ref d,some<|.ref O,some<|.ref B,some<|.int (x:Int),v7]/\am H o/\o d=some (.dK<|stK g)/\o O=some (.lst<|(zs<|(ks g).filter<|eQ g E).map V.int)/\o B=some (.lst<|(zs F).map V.int)/\Up ↥s r j g E x F,
   #[_,j,[],none,0,0,am.upd s12 y,?_,?_,ag,Up.start D C],?_]
  .let:=s2 _ _ e1;rw[aA<|cI this n];show this
  .rw[aA<|cI e2 n];show e2
  ext m σ H3 ⟨x,F,v7,rfl,rfl,S,Y,h3,M,U⟩;let hxk:=U.QF.left;let[[l,p],G,0]:=ae.mp hxk;show#[2,0,1,cg (λt2=>?_) λt2=>?_]
  .let t:l≠r:=λz=>by subst z;simp at t2
   let[st1,u]:=U.step D G t;let hpk:=(D.tree.child G t).2.1;let W:F.length<=128:=aL (fM U.nd (m:=nodes ↥s) λq hq=>by
    let[c,a1,I,X,J,a5,a6]:=(U.is q).mp hq;let[_,z]||[_,z,_]:=D.tree.up J
    .rw[z];show i
    .show D.node ok z) cz
   let' N:St->Hp->Prop:=λσ' o=>∃(F':List Nat),σ'=[some vb,some<|.int (r:Int),some<|.int (j:Int),some<|.ref d,some<|.ref O,some<|.ref B,some<|.int (p:Int),some<|.int (p:Int)]/\am H o/\o d=some (.dK<|stK g)/\o O=some (.lst<|(zs<|(ks g).filter<|eQ g E).map V.int)/\o B=some (.lst<|(zs F').map V.int)/\Up ↥s r j g E p F'
   show#[N,λσ' o #[F',q]=>#[_,st1,p,F',1,q],?_];let g3:cP H3 d (kV<|ik l) (some<|.int (p:Int)):=by rw[<-iZ D.tree.nd G];show cP.k (k:=ik l) Y
   show#[2,d,1,g3,?_];let no:¬(p≠r/\l∈(ks g).filter (eQ g E))->Up ↥s r j g E p F:=λz=>by rw[az z]at u;show u
   show#[2,0,1,cg (λt3=>?_) λt3=>?_]
   .let hpr:p≠r:=λz=>by subst z;simp at t3
    show#[2,O,1,.inl<|cc.of h3,0,KC _,1,?_];change if NT (.int (l:Int)) ((zs<|(ks g).filter<|eQ g E).map V.int)=true then _ else _;rw[My];show cg (λt4=>?_) λt4=>?_
    .let hin:=aF t4;rw[aH #[hpr,hin]]at u;show#[1,.inl #[0,_,cc.of M],1,B,_,1,0,M,?_,?_]
     .rw[ac,ac];show bi W de
     show#[1,F++[p],0,am.upd S y,?_,?_,?_,u]
     .rw[aA<|su Y M<|by intro z;cases z];show Y
     .let:O≠B:=λz=>by rw[<-z,e2]at n;cases n
      rw[aA this];show h3
     .rw[ag];simp
    .show#[1,F,0,S,Y,h3,M,no λz=>cb t4 z.2]
   .show vL #[1,F,0,S,Y,h3,M,no λz=>?_];simp at t3;lk
  .let t:l=r:=by simp at t2;lk
   subst t;show#[1,B,zs F,0,cc.of M,λns' p' hp ho Z=>?_];let so:So (needed ↥s l j):=by
    unfold needed;split
    .show So.filter ok.so _
    .show .nil
   let ej:joined ↥s l j=true:=by unfold joined;rw[bg];show(D.key j).mp C
   let v:∀m,m∈needed ↥s l j↔m∈F:=λm=>by
    let n1:=Fy ok D L i (k:=m) C;let e0:m∈needed ↥s l j↔m∈nodes ↥s/\m≠l/\m≠j/\joined (Vbpcaf.without ↥s m) l j=false:=by grind [needed]
    rw[e0,<-n1,U.is];walk
    .ext⟨c,a1,I,X,J,a5⟩;show#[c,D.tree.nF a1.left,X,a1,I,J,(nG ok D i).mpr #[m,I,X,a5,kq D.tree.nd I]]
    .ext⟨c,a1,I,X,J,a5,a6⟩;let[k',b1,b2,b3,_]:=(nG ok D i).mp a6;let:=qk D.tree.nd b1 J;subst this;show#[c,X,J,I,a5,b3]
   rw[jz hp ho (ly (λa b e=>om) U.nd) so λx=>by
    rw[B5];show#[λ#[m,q1,q2]=>#[m,(v m).mpr q1,q2],λ#[m,q1,q2]=>#[m,(v m).mp q1,q2]]]
   show k _ _ (am.upd S<|S.free Z) (S.free Z) ag
end
abbrev aK(O:List (Nat×Addr)):List (Key×V):=O.map λp=>(ik p.1,V.ref p.2)
def GF(O:List (Nat×Addr)):(aK O).map (·.1)=(O.map (·.1)).map ik:=by
 rw[bX,bX];rfl
def Nm(h:(O.map (·.1)).Nodup):((aK O).map (·.1)).Nodup:=by
 rw[GF];show ly (λa b e=>dw e) h
def rL(b:(O.map (·.1)).Nodup)(h:(r,a)∈O):cY (aK O) (ik r)=some (.ref a):=
 eZ (κ:=Key) (Nm b) (ae.mpr #[_,h,0])
def KD(h:r∉O.map (·.1)):cY (aK O) (ik r)=none:=lu (κ:=Key) λv b=>by
 let[p,c,e]:=ae.mp b;let a:ik p.1=ik r:=dF Prod.fst e;show h<|ae.mpr #[p,c,dw a]
def OR(h:r∉O.map (·.1)):putK (aK O) (ik r) (.ref a)=aK (O++[(r,a)]):=by
 rw[il _<|KD h];simp[aK]
structure Aa(Hs H':Hp)(fd:Addr)(O:List (Nat×Addr))(C:Nat->List (Key×V)):Prop where
 sm:∀b o,b≠fd->Hs b=some o->H' b=some o
 hs:∃kv,Hs fd=some (.dK kv)
 at_:H' fd=some (.dK<|aK O)
 free:∀p,p∈O->Hs p.2=none
 nd:(O.map (·.1)).Nodup
 Q_:(O.map (·.2)).Nodup
 D7:∀p,p∈O->H' p.2=some (.dK<|C p.1)
def Aa.ne(t:Aa c b a O C)(h:p∈O):p.2≠a:=λe=>by
 let[d,q]:=t.hs;let:=t.free p h;rw[e,q]at this;cases this
def Aa.start(h:H a=some (.dK [])):Aa H H a [] (λ_=>[]):=
 #[λ_ _ _ e=>e,#[_,h],h,λp h=>by simp at h,.nil,.nil,λp h=>by simp at h]
def Aa.same(t:Aa d a f O C)(e:am a c):Aa d c f O C:=
 #[λb o g h=>e _ _<|t.sm b o g h,t.hs,e _ _ t.at_,t.free,t.nd,t.Q_,λp h=>e _ _<|t.D7 p h]
def GG(C:Nat->List (Key×V))(r:Nat)(a:List (Key×V)):Nat->List (Key×V):=λq=>if q=r then a else C q
def Aa.add(t:Aa j s k O C)(d:s z=none)(n:r∉O.map (·.1)):
  Aa j (upd (upd s z<|.dK []) k<|.dK<|putK (aK O) (ik r)<|.ref z) k (O++[(r,z)]) (GG C r []):=by
 let i:z≠k:=λe=>by rw[e,t.at_]at d;cases d
 let g:j z=none:=by
  cases e:j z with
  |none=>rfl
  |some o=>rw[t.sm z o i e]at d;cases d
 show#[λb o c h=>?_,t.hs,?_,λp f=>?_,?_,?_,λp f=>?_]
 .rw[aA c,aA λe=>by rw[e,g]at h;cases h]
  show t.sm b o c h
 .rw[ag,OR n]
 .let q||q:=aG.mp f
  .show t.free p q
  .simp at q;subst q;show g
 .rw[bw,di];show#[t.nd,by simp,λa l b c e=>by simp at c;subst c;subst e;show n l]
 .rw[bw,di];show#[t.Q_,by simp,λa l b c e=>?_]
  simp at c;subst c;subst e;let[p,f,e]:=ae.mp l;let:=t.D7 p f;rw[e,d]at this;cases this
 .let q||q:=aG.mp f
  .let m:p.1≠r:=λe=>n<|ae.mpr #[p,q,e];rw[aA<|t.ne q,aA λe=>by let:=t.D7 p q;rw[e,d]at this;cases this]
   rw[t.D7 p q,GG,az m]
  .simp at q;subst q;rw[aA i,ag,GG,aH rfl]
def Aa.wr(t:Aa n m v O C)(h:(r,a)∈O):Aa n (upd m a<|.dK kv) v O (GG C r kv):=by
 let f:=t.ne h;show#[λb o w q=>?_,t.hs,?_,t.free,t.nd,t.Q_,λp d=>?_]
 .rw[aA λe=>by let:=t.free _ h;rw[<-e,q]at this;cases this]
  show t.sm b o w q
 .rw[aA<|bJ f];show t.at_
 .by_cases e:p=(r,a)
  .subst e;rw[ag,GG,aH rfl]
  .let s:p.1≠r:=λq=>e (by
    let[x,y]:=p;let g:x=r:=q;subst g;let l:=rL t.nd d;rw[rL t.nd h]at l;cases l
    rfl)
   let u:p.2≠a:=λq=>by
    let[x,y]:=p;let g:y=a:=q;subst g;let[i,z,k]:=iA.mp d;let[j,A,c]:=iA.mp h;let:=(lQ (i:=i) (j:=j) (h₀:=by simpa using z) (h₁:=by simpa using A) t.Q_).mp<|by simp[k,c]
    subst this;rw[k]at c;show e c
   rw[aA u,t.D7 p d,GG,az s]
def rM{s:Board}(ok:gF ↥s){i x m:Nat}(g:(nodes ↥s)[i]?=some x):m∈(nodes ↥s).take i↔m∈nodes ↥s/\m<x:=by
 let[b,f]:=aJ.mp g;let k:=ok.so;let d:=jL.mp k;walk
 .intro h;let[j,c,a]:=fc.mp h;show#[iB h,?_];rw[<-f,<-a];show d j i om b om
 .ext⟨h,l⟩;let[j,c,a]:=iA.mp h;show fc.mpr #[j,?_,a];let:j<i:=au λz=>by
   by_cases e:i=j
   .subst e;lk
   .let:=d i j b c om;lk
  lk
structure Pg(s:Board)(i:Nat)(O:List (Nat×Addr))(Ls:Nat->List Nat):Prop where
 keys:O.map (·.1)=((nodes s.graph).take i).filter (isRoot s.graph)
 nd:∀r,(Ls r).Nodup
 is:∀r z,r∈O.map (·.1)->(z∈Ls r↔z≠0/\∃m∈(nodes s.graph).take i,rootOf s.graph m=r/\netOf s m=z)
section
variable{P:Program}{w:World}{K:Frag}{mg:Str->Option Value}{base:Heap}{CP CB:Addr}
def kM(K:Frag)(CP CB:Addr):Sp:=λe H Q _=>∃(d:V) (s:Board),e=[d]/\dD K CP CB H d s/\
 ∀a b O c,am H a->H b=none->a b=some (.dK<|aK O)->(∀p∈O,a p.2=some (.dK<|uz<|c p.1)/\H p.2=none/\p.2≠b)->Pg s (nodes ↥s).length O c->Q (.ref b) a
def Mz{s:Board}(ok:gF ↥s){i x:Nat}(b:(nodes ↥s)[i]?=some x):(rootOf ↥s x∈((nodes ↥s).take i).filter (isRoot ↥s)/\isRoot ↥s x=false)\/(rootOf ↥s x∉((nodes ↥s).take i).filter (isRoot ↥s)/\rootOf ↥s x=x/\isRoot ↥s x=true):=by
 let a:=aX b;let c:=i6 ok a;by_cases e:rootOf ↥s x=x
 .show .inr #[λz=>?_,e,by rw[c];show aU e]
  let:=((rM ok b).mp (aw.mp z).1).2;lk
 .let le:=sV ok<|jB ok a;let d:=iF ok a;show .inl #[aw.mpr #[(rM ok b).mpr #[d,om],?_],by rw[c];show bE e]
  rw[i6 ok d];show aU<|iE ok<|e_ ok a
def yD(T:Facts K mg CP CB):Df P w K mg base 4 "nets_by_part" ["board"] (kM K CP CB):=by
 show T.zc.dx ["board","found","least","number","nets"] λf cdv A outer s H vs Q E hr nd hu h=>?_;let[vb,s,0,hb,k]:=h;let ok:=cD hb.ok;show#[_,(af (aS 1 nd gW)
  (af (aS 2 nd<|du (yx T) hr<|aa (pv 0) ah)
  (af (dZ cm rfl (oE K<|zT (B6 T) T.c8.cls hr<|pv 0) (bF 3 nd)
  (af (aS 4 nd<|oG (pv 1) (b7 hu (pv 2) (pv 3) λ_ _=>rfl) gW #[0,0,0,0])
  (ao<|cF (ct oA (fld K (Q7 (mF<|BR 0)<|BR 3)<|b7 hu (fv K 0) (pv 3) λ_ _=>rfl)<|gc T.Ct.JG) (ao<|gO hu (pv 4) (fld K (Q7 (mF<|BR 0)<|BR 3)<|b7 hu (fv K 0) (pv 3) λ_ _=>rfl) iN rfl) bA)))
  (ao<|aM<|pv 1)))),?_]
 show λy R=>?_;let s0:am H (upd H y<|.dK []):=am.new R;show#[1,_,s,0,hb.same s0,λH1 ld l s1 hld e1 L=>?_];let s01:=s0.trans s1;let hb1:=hb.same s01;let[ba,bdx,bfs,0,bo,bn]:=hb1.obj;show#[1,ba,bdx,bfs,0,bo,bn _ dk,_,s,0,hb1,λH2 nl s2 hnl e2=>#[nl,0,#[_,cc.of e2],?_]];let s02:=s01.trans s2;let fd2:H2 y=some (.dK []):=(s1.trans s2) _ _ ag;let nlf:nl≠y:=λz=>by rw[z,s1 _ _ ag]at hnl;cases hnl
 let ldf:ld≠y:=λz=>by rw[z,ag]at hld;cases hld
 let toH:∀{Y O C},Aa H2 Y y O C->am H Y:=λt b o h=>t.sm b o (λz=>by rw[z,R]at h;cases h)<|s02 _ _ h
 show dh (src_list (K:=K) (R:=iu) (vs:=(zs<|nodes ↥s).map V.int) (xs:=nodes ↥s)) (λi σ Y=>∃(O:List (Nat×Addr)) (D:Nat->List Nat) (v3 v4:Option V),σ=[some (.ref ba),some<|.ref y,some<|.ref ld,v3,v4]/\Aa H2 Y y O (λr=>uz<|D r)/\Pg s i O D)
  #[[],λ_=>[],none,none,0,Aa.start fd2,by simp,λ_=>.nil,λr z h=>by simp at h] (λi σ Y _ #[O,D,v3,v4,e,t,n]=>#[cc.of (t.sm _ _ nlf e2),fL _]) ?_ ?_
 .ext i x v σ H3 H4 hx ⟨O,D,v3,v4,rfl,t3,u⟩ s4 r4;let 0:=r4;let hxn:=aX hx;let W:=t3.same s4;let g4:cP H4 ld (kV<|ik x) (some<|.int (rootOf ↥s x:Int)):=by rw[<-L.get hxn];show cP.k (k:=ik x)<|W.sm _ _ ldf<|s2 _ _ e1
  let Z:(aK O).length<sizeLine:=by
   let l1:O.length<=128:=by
    let:=dF List.length u.keys;rw[ac]at this;rw[this];show aL (bu _ _)<|aL (by rw[cE];lk)<|cz (s:=s)
   rw[ac];show bi l1 de
  let tk:(nodes ↥s).take (i+1)=(nodes ↥s).take i++[x]:=by rw[cM,hx];rfl
  let[g,hpc]:=jk hxn;let enet:netOf s x=g.net:=by unfold netOf;rw[hpc]
  let key:∀z,H4 z=none->∃(N:List (Nat×Addr)) (c:Nat->List Nat) (S:Addr) (X:Hp),((cY (aK O) (ik<|rootOf ↥s x)=some (.ref S)/\X=upd H4 z (.dK []))\/(cY (aK O) (ik<|rootOf ↥s x)=none/\V.ref S=.ref z/\X=upd (upd H4 z<|.dK []) y (.dK<|putK (aK O) (ik<|rootOf ↥s x)<|.ref z)))/\Aa H2 X y N (λr=>uz<|c r)/\(rootOf ↥s x,S)∈N/\N.map (·.1)=((nodes ↥s).take<|i+1).filter (isRoot ↥s)/\(∀r,(c r).Nodup)/\∀r z,r∈N.map (·.1)->(z∈c r↔z≠0/\∃m∈(nodes ↥s).take i,rootOf ↥s m=r/\netOf s m=z):=by
   intro z J;let[U,q2]||[U,q2,q3]:=Mz ok hx
   .rw[<-u.keys]at U;let[[r,S],I,e]:=ae.mp U;let e':r=rootOf ↥s x:=e;subst e';show#[O,D,S,_,.inl #[rL W.nd I,0],W.same<|am.new J,I,?_,u.nd,u.is];rw[u.keys,tk,eU];simp[q2]
   .rw[<-u.keys]at U;show#[O++[(rootOf ↥s x,z)],λr=>if r=rootOf ↥s x then[]else D r,z,_,.inr #[KD U,0,0],?_,by simp,?_,λr=>?_,λr G d=>?_]
    .let:=W.add J U;let e:(λr=>uz (if r=rootOf ↥s x then[]else D r))=GG (λr=>uz<|D r) (rootOf ↥s x) []:=funext λr=>by unfold GG;split<;>rfl
     rw[e];show this
    .rw[bw,u.keys,tk,eU];simp[q2,q3]
    .dsimp only;split
     .show .nil
     .show u.nd r
    .dsimp only;split
     .rename_i e;subst e;simp only[cA,G5];ext⟨_,m,j,e1,_⟩;show U ?_;rw[u.keys,aw];let hmn:=iB j;let lt:=((rM ok hx).mp j).2;let le:=sV ok<|jB ok hmn;lk
     .rename_i e;rw[bw,aG]at d;let d||d:=d
      .show u.is r G d
      .simp at d;show absurd d e
  show#[1,y,0,.inl #[_,Rd.of W.at_],2,ld,1,g4,λz J=>?_];let[N,c,S,X,c5,t5,m5,k5,B,F]:=key z J;let nzf:z≠y:=λe=>by rw[e,W.at_]at J;cases J
  show#[_,_,_,X,(by rw[aA<|bJ nzf];show W.at_),0,Z,c5,?_]
  let hb5:=hb.same<|toH t5;let[bfs5,pd,bld,gd,kvs,bL,cW,bo5,bb5,g5]:=hb5;let[pa,vp,pat]:=g5.ie.get hpc;let[pfs,po,pf]:=pat.is T.TP;let dg5:cP X pd (kV<|ik x) (some<|.ref pa):=by rw[<-vp];show cP.k (k:=ik x) g5.ie.at_
  let M:∀r z,(∃m∈(nodes ↥s).take (i+1),rootOf ↥s m=r/\netOf s m=z)↔(∃m∈(nodes ↥s).take i,rootOf ↥s m=r/\netOf s m=z)\/(rootOf ↥s x=r/\g.net=z):=λr z=>by
   rw[tk,<-enet];walk
   .ext⟨m,j,q⟩;let j||j:=aG.mp j
    .show .inl #[m,j,q]
    .simp at j;subst j;show .inr q
   .ext(⟨m,j,q⟩|q)
    .show#[m,cJ _ j,q]
    .show#[x,aD _<|by simp,q]
  show#[1,_,_,_,bo5,bb5.pieces,1,pd,1,dg5,_,_,_,po,pf.net,0,1,cg (λt1=>?_) λt1=>?_]
  .let hne:g.net≠0:=λz=>by simp[gG,z]at t1
   let in5:=t5.D7 _ m5;let lfew:(uz<|c<|rootOf ↥s x).length<sizeLine:=by
    let:=fM (B<|rootOf ↥s x) (m:=(nodes ↥s).map<|netOf s) λz J=>by
     let[_,m,j,_,e]:=(F _ z<|ae.mpr #[_,m5,0]).mp J;show ae.mpr #[m,iB j,e]
    rw[ac]at this|-;show bi (aL this<|cz (s:=s)) de
   show#[2,_,_,_,bo5,bb5.pieces,1,pd,1,dg5,_,_,_,po,pf.net,S,1,lT.k (k:=ik g.net) in5 lfew,?_];rw[xl];show#[N,λr=>if r=rootOf ↥s x then(if g.net∈c r then c r else c r++[g.net])else c r,_,1,?_,k5,λr=>?_,λr G d=>?_]
   .let:=t5.wr (kv:=uz (if g.net∈c (rootOf ↥s x)then c (rootOf ↥s x)else c (rootOf ↥s x)++[g.net])) m5;let e:(λr=>uz (if r=rootOf ↥s x then(if g.net∈c r then c r else c r++[g.net])else c r))=GG (λr=>uz<|c r) (rootOf ↥s x) (uz (if g.net∈c (rootOf ↥s x)then c (rootOf ↥s x)else c (rootOf ↥s x)++[g.net])):=funext λr=>by
     unfold GG;by_cases e:r=rootOf ↥s x
     .rw[aH e,aH e,e]
     .rw[az e,az e]
    rw[e];show this
   .split
    .split
     .show B r
     .rename_i hno;rw[di];show#[B r,by simp,λp I q hq e=>by simp at hq;subst hq;subst e;show hno I]
    .show B r
   .rw[M];by_cases e:r=rootOf ↥s x
    .rw[aH e];let e2:G∈(if g.net∈c r then c r else c r++[g.net])↔G∈c r\/G=g.net:=by
      split
      .rename_i hin;show#[.inl,λq=>q.elim id λq=>q▸hin]
      .rw[aG,aP]
     rw[e2,F r G d];walk
     .ext(⟨a,b⟩|rfl)
      .show#[a,.inl b]
      .show#[hne,.inr #[e.symm,0]]
     .ext⟨a,b|b⟩
      .show .inl #[a,b]
      .show .inr b.2.symm
    .rw[az e,F r G d];walk
     .ext⟨a,b⟩;show#[a,.inl b]
     .ext⟨a,b|b⟩
      .show#[a,b]
      .show absurd b.1.symm e
  .let hz0:g.net=0:=by simp[gG]at t1;lk
   show#[N,c,_,1,t5,k5,B,λr G d=>?_];rw[F r G d,M];walk
   .ext⟨a,b⟩;show#[a,.inl b]
   .ext⟨a,b|b⟩
    .show#[a,b]
    .show absurd (b.2.symm.trans hz0) a
 .ext σ H3 ⟨O,D,v3,v4,rfl,t3,u⟩;show#[1,k _ _ O D (toH t3) R t3.at_ (λp I=>#[t3.D7 p I,s02.free<|t3.free p I,t3.ne I]) u]
structure Lj(s:Board)(i:Nat)(O:List (Nat×Addr))(ls:Nat->List Nat)(E:Nat->Nat->Nat):Prop where
 keys:∀n,n∈O.map (·.1)↔n≠0/\∃m∈(nodes s.graph).take i,netOf s m=n
 nd:∀n,(ls n).Nodup
 is:∀n r,n∈O.map (·.1)->(r∈ls n↔∃m∈(nodes s.graph).take i,rootOf s.graph m=r/\netOf s m=n)
 zero:∀n r,n∈O.map (·.1)->r∉ls n->E n r=0
 sum:∀n,n∈O.map (·.1)->((ls n).map<|E n).sum=(((nodes s.graph).take i).filter λm=>netOf s m==n).length
 le:∀n r,n∈O.map (·.1)->E n r<=i
def jU(K:Frag)(CP CB:Addr):Sp:=λe H Q _=>∃(d:V) (s:Board),e=[d]/\dD K CP CB H d s/\
 ∀a b O c E,am H a->H b=none->a b=some (.dK<|aK O)->(O.map (·.1)).Nodup->(∀p∈O,a p.2=some (.dK<|stK<|lV (c p.1)<|E p.1)/\H p.2=none/\p.2≠b)->Lj s (nodes ↥s).length O c E->Q (.ref b) a
def OS{l:List Nat}{E:Nat->Nat}{r:Nat}(b:l.Nodup)(h:r∈l):(l.map<|up E r<|E r+1).sum=(l.map E).sum+1:=by
 induction l with
 |nil=>cases h
 |cons a l f=>
  rw[c9]at b;let e||e:=aB.mp h
  .subst e;let:l.map (up E r<|E r+1)=l.map E:=dY λx d=>jN λz=>b.1<|z▸d;rw[bm,bm,tP,tP,this,fh];lk
  .let c:a≠r:=λz=>b.1<|z▸e;rw[bm,bm,tP,tP,f b.2 e,jN c];lk
def MA{l:List Nat}{E:Nat->Nat}{r m:Nat}(h:r∉l):putK (stK<|lV l E) (ik r) (.int (m:Int))=stK (lV (l++[r])<|up E r m):=by
 rw[sQ<|by rw[pP];show h]
 let:lV (l++[r]) (up E r m)=lV l E++[(r,m)]:=by
  unfold lV;rw[bw,List.map_singleton,fh];congr 1;show dY λx a=>by
   let:x≠r:=λz=>h<|by rw[<-z];show a
   rw[jN this]
 rw[this]
def vY(T:Facts K mg CP CB):Df P w K mg base 4 "counts_by_net" ["board"] (jU K CP CB):=by
 show T.wE.dx ["board","found","least","number","net","counts"] λf cdv A outer s H vs Q E hr nd hu h=>?_;let[vb,s,0,hb,k]:=h;let ok:=cD hb.ok;show#[_,(af (aS 1 nd gW)
  (af (aS 2 nd<|du (yx T) hr<|aa (pv 0) ah)
  (af (dZ cm rfl (oE K<|zT (B6 T) T.c8.cls hr<|pv 0) (bF 3 nd)
  (af (aS 4 nd<|fld K (Q7 (mF<|BR 0)<|BR 3)<|b7 hu (fv K 0) (pv 3) λ_ _=>rfl)
  (ao (cF (ct oA (pv 4)<|gc T.Ct.JG) (af (aS 5 nd<|oG (pv 1) (pv 4) gW #[0,0,0,0])
  (ao<|gO hu (pv 5) (b7 hu (pv 2) (pv 3) λ_ _=>rfl) (ad (Jy hu (pv 5) (b7 hu (pv 2) (pv 3) λ_ _=>rfl) aI #[0,0,0,0]) aI) rfl)) bA))))
  (ao<|aM<|pv 1)))),?_]
 show λI hfd=>?_;let s0:am H (upd H I<|.dK []):=am.new hfd;show#[1,_,s,0,hb.same s0,λH1 ld l s1 hld e1 L=>?_];let s01:=s0.trans s1;let hb1:=hb.same s01;let[ba,bdx,bfs,0,bo,bn]:=hb1.obj;show#[1,ba,bdx,bfs,0,bo,bn _ dk,_,s,0,hb1,λH2 nl s2 hnl e2=>#[nl,0,#[_,cc.of e2],?_]];let s02:=s01.trans s2;let fd2:H2 I=some (.dK []):=(s1.trans s2) _ _ ag;let nlf:nl≠I:=λz=>by rw[z,s1 _ _ ag]at hnl;cases hnl
 let ldf:ld≠I:=λz=>by rw[z,ag]at hld;cases hld
 let toH:∀{H' O C},Aa H2 H' I O C->am H H':=λt b o h=>t.sm b o (λz=>by rw[z,hfd]at h;cases h)<|s02 _ _ h
 show dh (src_list (K:=K) (R:=iu) (vs:=(zs<|nodes ↥s).map V.int) (xs:=nodes ↥s)) (λi σ H'=>∃(O:List (Nat×Addr)) (J:Nat->List Nat) (E:Nat->Nat->Nat) (v3 v4 v5:Option V),σ=[some (.ref ba),some<|.ref I,some<|.ref ld,v3,v4,v5]/\Aa H2 H' I O (λn=>stK<|lV (J n)<|E n)/\Lj s i O J E)
  #[[],λ_=>[],λ_ _=>0,none,none,none,0,Aa.start fd2,by simp,λ_=>.nil,λr z h=>by simp at h,λr z h=>by simp at h,λr h=>by simp at h,λr z h=>by simp at h] (λi σ H' _ #[O,J,E,v3,v4,v5,e,t,n]=>#[cc.of (t.sm _ _ nlf e2),fL _]) ?_ ?_
 .ext i x v σ H3 H4 hx ⟨O,J,E,v3,v4,v5,rfl,t3,y⟩ s4 r4;let 0:=r4;let hxn:=aX hx;let U:=t3.same s4;let hi128:i<128:=by
   let[hi,_]:=aJ.mp hx;let:=cz (s:=s);lk
  let Ofew:(aK O).length<sizeLine:=by
   let l1:=fM U.nd (m:=(nodes ↥s).map<|netOf s) λn g=>by
    let[_,m,D,e]:=(y.keys n).mp g;show ae.mpr #[m,iB D,e]
   rw[ac,ac]at l1;rw[ac];show bi (aL l1<|cz (s:=s)) de
  let tk:(nodes ↥s).take (i+1)=(nodes ↥s).take i++[x]:=by rw[cM,hx];rfl
  let[d,hpc]:=jk hxn;let G:netOf s x=d.net:=by unfold netOf;rw[hpc]
  let M:∀n (p:Nat->Prop),(∃m∈(nodes ↥s).take (i+1),p m/\netOf s m=n)↔(∃m∈(nodes ↥s).take i,p m/\netOf s m=n)\/(p x/\d.net=n):=λr p=>by
   rw[tk,<-G];walk
   .ext⟨m,D,q⟩;let D||D:=aG.mp D
    .show .inl #[m,D,q]
    .simp at D;subst D;show .inr q
   .ext(⟨m,D,q⟩|q)
    .show#[m,cJ _ D,q]
    .show#[x,aD _<|by simp,q]
  let N:∀n,(∃m∈(nodes ↥s).take (i+1),netOf s m=n)↔(∃m∈(nodes ↥s).take i,netOf s m=n)\/d.net=n:=λn=>by
   let:=M n λ_=>True;simpa using this
  let cnt:∀n,(((nodes ↥s).take<|i+1).filter λm=>netOf s m==n).length=(((nodes ↥s).take i).filter λm=>netOf s m==n).length+(if d.net=n then 1 else 0):=λn=>by
   rw[tk,eU,aW];congr 1;by_cases e:d.net=n
   .rw[aH e,M0<|by rw[G,e];simp];rfl
   .rw[az e,tT<|by rw[G];simpa using e];rfl
  let[bfs5,pd,bld,gd,kvs,bL,cW,bo5,bb5,g5]:=hb.same<|toH U;let[pa,vp,pat]:=g5.ie.get hpc;let[pfs,po,pf]:=pat.is T.TP;let dg5:cP H4 pd (kV<|ik x) (some<|.ref pa):=by rw[<-vp];show cP.k (k:=ik x) g5.ie.at_
  show#[1,_,_,_,bo5,bb5.pieces,1,pd,1,dg5,_,_,_,po,pf.net,1,0,1,cg (λt1=>?_) λt1=>?_]
  .let hne:d.net≠0:=λz=>by simp[gG,z]at t1
   let key:∀z,H4 z=none->∃(R:List (Nat×Addr)) (c:Nat->List Nat) (u:Nat->Nat->Nat) (Y:Addr) (H5:Hp),((cY (aK O) (ik d.net)=some (.ref Y)/\H5=upd H4 z (.dK []))\/(cY (aK O) (ik d.net)=none/\V.ref Y=.ref z/\H5=upd (upd H4 z<|.dK []) I (.dK<|putK (aK O) (ik d.net)<|.ref z)))/\Aa H2 H5 I R (λn=>stK<|lV (c n)<|u n)/\(d.net,Y)∈R/\(∀n,n∈R.map (·.1)↔n∈O.map (·.1)\/n=d.net)/\(∀n,(c n).Nodup)/\(∀n r,n∈R.map (·.1)->(r∈c n↔∃m∈(nodes ↥s).take i,rootOf ↥s m=r/\netOf s m=n))/\(∀n r,n∈R.map (·.1)->r∉c n->u n r=0)/\(∀n,n∈R.map (·.1)->((c n).map<|u n).sum=(((nodes ↥s).take i).filter λm=>netOf s m==n).length)/\∀n r,n∈R.map (·.1)->u n r<=i:=by
    intro z X;by_cases q1:d.net∈O.map (·.1)
    .let[[r,Y],W,e]:=ae.mp q1;let e':r=d.net:=e;subst e';show#[O,J,E,Y,_,.inl #[rL U.nd W,0],U.same<|am.new X,W,λn=>#[.inl,λq=>q.elim id λq=>q▸q1],y.nd,y.is,y.zero,y.sum,y.le]
    .let no:∀m,m∈(nodes ↥s).take i->netOf s m≠d.net:=λm D e=>q1<|(y.keys _).mpr #[hne,m,D,e];let S:∀n,n∈(O++[(d.net,z)]).map (·.1)->n≠d.net->n∈O.map (·.1):=λn g h=>by
      rw[bw,aG]at g;let g||g:=g
      .show g
      .simp at g;show absurd g h
     show#[O++[(d.net,z)],λn=>if n=d.net then[]else J n,λn=>if n=d.net then λ_=>0 else E n,z,_,.inr #[KD q1,0,0],?_,by simp,λn=>by rw[bw,aG];simp,λr=>?_,λn r g=>?_,λn r g h=>?_,λn g=>?_,λn r g=>?_]
     .let:=U.add X q1;let e:(λn=>stK<|lV ((λn=>if n=d.net then[]else J n) n)<|(λn=>if n=d.net then λ_=>0 else E n) n)=GG (λn=>stK<|lV (J n)<|E n) d.net []:=funext λr=>by
       unfold GG;dsimp only;by_cases e:r=d.net
       .simp only[aH e];rfl
       .simp only[az e]
      rw[e];show this
     .dsimp only;split
      .show .nil
      .show y.nd r
     .dsimp only;by_cases e:n=d.net
      .rw[aH e];simp only[cA,G5];ext⟨m,D,_,e1⟩;show no m D<|e1.trans e
      .rw[az e];show y.is n r<|S n g e
     .dsimp only at h|-;by_cases e:n=d.net
      .rw[aH e]
      .rw[az e]at h|-;show y.zero n r (S n g e) h
     .dsimp only;by_cases e:n=d.net
      .simp only[aH e];rw[List.filter_eq_nil_iff.mpr λm D=>by rw[C1,e];show no m D];rfl
      .rw[az e,az e];show y.sum n<|S n g e
     .dsimp only;by_cases e:n=d.net
      .rw[aH e];show cH _
      .rw[az e];show y.le n r<|S n g e
   show#[1,I,0,.inl #[_,Rd.of U.at_],1,λz X=>?_];let[R,c,u,Y,H5,c5,t5,m5,k5,F,is5,B,Z,le5]:=key z X;let nzf:z≠I:=λe=>by rw[e,U.at_]at X;cases X
   show#[_,_,_,H5,(by rw[aA<|bJ nzf];show U.at_),0,Ofew,c5,?_]
   let in5:=t5.D7 _ m5;let g6:cP H5 ld (kV<|ik x) (some<|.int (rootOf ↥s x:Int)):=by rw[<-L.get hxn];show cP.k (k:=ik x)<|t5.sm _ _ ldf<|s2 _ _ e1
   let pk:d.net∈R.map (·.1):=ae.mpr #[_,m5,0];generalize hr0:rootOf ↥s x=j at g6;let gv:(cY (stK<|lV (c d.net)<|u d.net)<|ik j).getD (.int 0)=.int (u d.net j:Int):=by
    by_cases h:j∈c d.net
    .rw[sY (F _) h];rfl
    .rw[Fs<|by rw[pP];show h,B _ _ pk h];rfl
   let lfew:(stK<|lV (c d.net)<|u d.net).length<sizeLine:=by
    let:=fM (F d.net) (m:=(nodes ↥s).map<|rootOf ↥s) λz X=>by
     let[m,D,e,_]:=(is5 _ z pk).mp X;show ae.mpr #[m,iB D,e]
    rw[ac]at this;rw[ac,ac];show bi (aL this<|cz (s:=s)) de
   show#[1,Y,0,.inl #[_,Rd.of in5],2,ld,1,g6,_,cP.k (k:=ik j) in5,_,_,gv,0,3,ld,1,g6,Y,1,lT.k (k:=ik j) in5 lfew,?_];let eput:putK (stK<|lV (c d.net)<|u d.net) (ik j) (.int<|(u d.net j:Int)+1)=stK (lV (if j∈c d.net then c d.net else c d.net++[j])<|up (u d.net) j<|u d.net j+1):=by
    let e:((u d.net j:Int)+1)=((u d.net j+1:Nat):Int):=om;rw[e];by_cases h:j∈c d.net
    .rw[aH h];show Cg h
    .rw[az h];show MA h
   rw[eput];show#[R,λn=>if n=d.net then(if j∈c n then c n else c n++[j])else c n,λn=>if n=d.net then up (u n) j (u n j+1)else u n,_,_,1,?_,λn=>?_,λn=>?_,λn r g=>?_,λn r g h=>?_,λn g=>?_,λn r g=>?_]
   .let:=t5.wr (kv:=stK<|lV (if j∈c d.net then c d.net else c d.net++[j])<|up (u d.net) j<|u d.net j+1) m5;let e:(λn=>stK<|lV ((λn=>if n=d.net then(if j∈c n then c n else c n++[j])else c n) n)<|(λn=>if n=d.net then up (u n) j (u n j+1)else u n) n)=GG (λn=>stK<|lV (c n)<|u n) d.net (stK<|lV (if j∈c d.net then c d.net else c d.net++[j])<|up (u d.net) j<|u d.net j+1):=funext λr=>by
     unfold GG;dsimp only;by_cases e:r=d.net
     .simp only[aH e];rw[e]
     .simp only[az e]
    rw[e];show this
   .rw[k5,y.keys,N];walk
    .ext(⟨a,b⟩|rfl)
     .show#[a,.inl b]
     .show#[hne,.inr rfl]
    .ext⟨a,b|b⟩
     .show .inl #[a,b]
     .show .inr b.symm
   .split
    .split
     .show F n
     .rename_i hno;rw[di];show#[F n,by simp,λp W q hq e=>by simp at hq;subst hq;subst e;show hno W]
    .show F n
   .rw[M n λm=>rootOf ↥s m=r,hr0];by_cases e:n=d.net
    .rw[aH e];let e2:r∈(if j∈c n then c n else c n++[j])↔r∈c n\/r=j:=by
      split
      .rename_i hin;show#[.inl,λq=>q.elim id λq=>q▸hin]
      .rw[aG,aP]
     rw[e2,is5 n r g];show#[λq=>q.imp id λq=>#[q.symm,e.symm],λq=>q.imp id λq=>q.1.symm]
    .rw[az e,is5 n r g];show#[.inl,λq=>q.elim id λq=>absurd q.2.symm e]
   .by_cases e:n=d.net
    .rw[aH e]at h|-;let hn0:r≠j:=λz=>h (by
      rw[z];split
      .assumption
      .show aD _<|by simp)
     let hl:r∉c n:=λz=>h (by
      split
      .show z
      .show cJ _ z)
     rw[jN hn0];show B n r g hl
    .rw[az e]at h|-;show B n r g h
   .rw[cnt];by_cases e:n=d.net
    .subst e;rw[aH rfl,aH rfl,aH rfl,<-Z _ g];by_cases h:j∈c d.net
     .rw[aH h,OS (F _) h]
     .rw[az h,bw,List.sum_append];let e1:(c d.net).map (up (u d.net) j<|u d.net j+1)=(c d.net).map (u d.net):=dY λq hq=>jN λz=>h<|z▸hq;rw[e1,B _ _ g h];simp[fh]
    .rw[az e,az e,az λz=>e z.symm];show Z n g
   .by_cases e:n=d.net
    .rw[aH e];by_cases e2:r=j
     .rw[e2,fh];let:=le5 n j g;lk
     .rw[jN e2];let:=le5 n r g;lk
    .rw[az e];let:=le5 n r g;lk
  .let hz0:d.net=0:=by simp[gG]at t1;lk
   show#[O,J,E,_,_,1,U,λn=>?_,y.nd,λn r g=>?_,y.zero,λn g=>?_,λn r g=>?_]
   .rw[y.keys,N];walk
    .ext⟨a,b⟩;show#[a,.inl b]
    .ext⟨a,b|b⟩
     .show#[a,b]
     .show absurd (b.symm.trans hz0) a
   .let n0:=((y.keys n).mp g).1;rw[y.is n r g,M n λm=>rootOf ↥s m=r];show#[.inl,λq=>q.elim id λq=>absurd (q.2.symm.trans hz0) n0]
   .let n0:=((y.keys n).mp g).1;rw[cnt,az λz=>n0<|z.symm.trans hz0,y.sum n g];rfl
   .let:=y.le n r g;lk
 .ext σ H3 ⟨O,J,E,v3,v4,v5,rfl,t3,y⟩;show#[1,k _ _ O J E (toH t3) hfd t3.at_ t3.nd (λp W=>#[t3.D7 p W,s02.free<|t3.free p W,t3.ne W]) y]
end
def uG:∀{l:List Nat},x∈Vbpcaf.putIn z l↔x=z\/x∈l
 |[]=>by simp[Vbpcaf.putIn]
 |y::l=>by
  unfold Vbpcaf.putIn;split
  .simp
  .split
   .rename_i e;subst e;simp
   .rw[aB,aB,uG];walk
    .grind
    .grind
def D8:∀{l:List Nat},So l->So (Vbpcaf.putIn z l)
 |[],_=>by simp[Vbpcaf.putIn]
 |y::l,h=>by
  unfold Vbpcaf.putIn;let b:=f8.mp h;split
  .rename_i d;show f8.mpr #[λa c=>?_,h];let e||e:=aB.mp c
   .lk
   .let:=b.1 a e;lk
  .split
   .show h
   .show f8.mpr #[λa c=>?_,D8 b.2];let e||e:=uG.mp c
    .lk
    .show b.1 a e
def rN:∀{l:List Nat},x∈sorted l↔x∈l
 |[]=>Iff.rfl
 |y::l=>by
  change x∈Vbpcaf.putIn y (sorted l)↔_;rw[uG,rN,aB]
def uH:∀{l:List Nat},So<|sorted l
 |[]=>.nil
 |y::l=>D8<|uH
def rO:z∈netsOf s l↔z≠0/\∃m∈l,netOf s m=z:=by
 unfold netsOf;rw[rN,aw,ae];walk
 .grind
 .grind
def nH:So (netsOf s l):=uH
def Bg{l m:List Nat}(a:l.Nodup)(b:m.Nodup)(h:∀x,x∈l↔x∈m):l.length=m.length:=(p4 a b|>.mpr h).length_eq
def gD{s:Board}(ok:gF ↥s){r m:Nat}(d:r∈nodes ↥s)(a:isRoot ↥s r=true):m∈members ↥s r↔m∈nodes ↥s/\rootOf ↥s m=r:=by
 rw[i6 ok d,aT]at a;walk
 .intro h;show#[cK ok.so h,(iE ok h).trans a]
 .ext⟨b,c⟩;let:=e_ ok b;rw[c]at this;show ko ok this
def Pg.nets{s:Board}{O:List (Nat×Addr)}{b:Nat->List Nat}(ok:gF ↥s)(n:Pg s (nodes ↥s).length O b){r:Nat}(c:r∈O.map (·.1)):∀z,z∈b r↔z∈netsOf s (members ↥s r):=λz=>by
 let a:=c;rw[n.keys,bK,aw]at a;rw[n.is r z c,bK,rO];show and_congr_right λ_=>exists_congr λm=>?_;rw[gD ok a.1 a.2,and_assoc]
def Pg.len{s:Board}{O:List (Nat×Addr)}{a:Nat->List Nat}(ok:gF ↥s)(n:Pg s (nodes ↥s).length O a){r:Nat}(b:r∈O.map (·.1)):(a r).length=(netsOf s<|members ↥s r).length:=
 Bg (n.nd r) (So.nodup nH) (n.nets ok b)
def Ci{I β:Type}{K:Frag}{J:It}{C:Hp->Prop}{d:List I}{R:Rep I}{T:Addr->Rep β}(S:Src J C d R)(O:∀D H j v x c,H D=some (.lst c)->(∀b o,b≠D->H b=some o->j b=some o)->T D H v x->T D j v x)(p:I->Bool)(f:I->β){g:TG}{tt:TT}{te:TE}{G:List Nat}{U:St}{n:Hp}{Q:VK}
  (hz:d.length<100000) (hC:∀H,am n H->C H)
  (hs:∀x v H D c (Y:VK) (X:Hp->Prop),x∈d->am n H->H D=some (.lst c)->n D=none->R H v x->(∀j y,am H j->p x=true->T D j y (f x)->Y y j)->(∀j,am H j->p x=false->X j)->
   g v (wipe U G) H λu H2=>wipe u G=wipe U G/\tt u H2 λb B=>if b=true then te u B Y else X B)
  (hd:∀H D c,am n H->n D=none->H D=some (.lst c)->Paired (T D H) c ((d.filter p).map f)->Q (.ref D) H):
  Qg g tt te G U Q J n:=by
 intro D E
 let' W:Nat->Hp->Prop:=λi H=>am n H/\∃c,H D=some (.lst c)/\Paired (T D H) c (((d.take i).filter p).map f)
 show#[λi m H=>m=d.length -i/\i<=d.length/\W i H,#[d.length,by simp,cH _,am.new E,[],ag,by simp;show .nil],?_]
 ext i m H ⟨rfl,hi,A,c,h,F⟩;let q:=hC H A;by_cases k:i<d.length
 .let Z:d[i]?=some d[i]:=by simp[k]
  let tk:d.take (i+1)=d.take i++[d[i]]:=by rw[cM,Z];rfl
  show .inr #[S.go i H q k,W<|i+1,λj p'=>#[d.length -(i+1),om,0,k,p'],λv j y=>?_];let[s,r]:=S.BB i H v j d[i] q y Z;let w:∀l,am j l->Paired (T D l) c (((d.take i).filter p).map f):=λl z=>F.mono λa b t=>O D H l a b c h (λb o _ e=>z _ _<|s _ _ e) t;show hs d[i] v j D c _ _ (lP k) (A.trans s) (s _ _ h) E r (λl y4 z N t4=>?_) λB P N=>?_
  .let M:=z _ _<|s _ _ h;let st:∀b o,b≠D->l b=some o->(upd l D<|.lst<|c++[y4]) b=some o:=λb o hb e=>by rw[aA hb];show e
   show#[c,M,?_,am.upd ((A.trans s).trans z) E,c++[y4],ag,?_]
   .let l1:=F.length;rw[ac]at l1;let l2:((d.take i).filter p).length<=(d.take i).length:=bu _ _;rw[cE]at l2;let l3:(100000:Nat)<sizeLine:=de;lk
   .rw[tk,eU,bw];let L:[d[i]].filter p=[d[i]]:=by simp[N]
    rw[L];show jj ((w l z).mono λa b t=>O D _ _ a b c M st t)<|O D _ _ _ _ c M st t4
  .show#[(A.trans s).trans P,c,P _ _<|s _ _ h,?_];rw[tk,eU,bw];let L:[d[i]].filter p=[]:=by simp[N]
   rw[L];simp;show w B P
 .let e:i=d.length:=om;subst e;rw[bK]at F;show .inl #[S.stop H q,hd H D c A E h F]
def MB{l u:Type}{K:Frag}{J:It}{C:Hp->Prop}{k:List l}{R:Rep l}{T:Addr->Rep u}(S:Src J C k R)(I:∀D H c v x a,H D=some (.lst a)->(∀b o,b≠D->H b=some o->c b=some o)->T D H v x->T D c v x)(f:l->u){g:TG}{q:TE}{j:List Nat}{m:St}{d:Hp}{Q:VK}
  (F:k.length<100000) (z:∀H,am d H->C H)
  (B:∀x v H D a (i:VK),x∈k->am d H->H D=some (.lst a)->d D=none->R H v x->(∀c y,am H c->T D c y (f x)->i y c)->g v (wipe m j) H λh w=>wipe h j=wipe m j/\q h w i)
  (A:∀H D a,am d H->d D=none->H D=some (.lst a)->Paired (T D H) a (k.map f)->Q (.ref D) H):Qg g Js q j m Q J d:=by
 show Ci (K:=K) S I (λ_=>true) f F z (λx v H D a i M E s e n r G _=>B x v H D a i E s e n r λc y L t=>G c y L rfl t) λH D a s n e p=>A H D a s n e ?_;rw[Eu.mpr λ_ _=>rfl]at p;show p
def HU:Src (RL d o b) (λH=>H d=some (.g9 o<|.dK b)) b (λH v e=>∃a,v=.ref a/\H a=some (.tup [kV e.1,e.2])) where
 go:=λi H c h=>#[c,h]
 stop:=λH c=>#[c,aE _]
 BB:=λi H v j x c y e=>by
  let[T,k,w,f,0,g,0]:=y;rw[f]at e;cases e
  show#[am.new g,T,0,by rw[ag]]
def Ph:Rep (Nat×List Nat):=λH v e=>∃t l,v=.ref t/\H t=some (.tup [.int (e.1:Int),.ref l])/\H l=some (.lst<|(zs e.2).map V.int)
def OT(D:Addr):Rep (Nat×List Nat):=λH v e=>∃t l,v=.ref t/\H t=some (.tup [.int (e.1:Int),.ref l])/\H l=some (.lst<|(zs e.2).map V.int)/\l≠D
def OT.mono:∀D H f v x e,H D=some (.lst e)->(∀b o,b≠D->H b=some o->f b=some o)->OT D H v x->OT D f v x:=λD H f v x e h k #[t,l,a,b,c,d]=>
 #[t,l,a,k _ _ (su b h<|by intro z;cases z) b,k _ _ d c,d]
def OT.to(h:OT D H v e):Ph H v e:=let #[t,l,a,b,c,d]:=h;#[t,l,a,b,c]
def KF{d:Type}(R:Rep d)(H:Hp)(Q:VK)(e:List d):Prop:=∀b a c,am H b->H a=none->b a=some (.lst c)->Paired (R b) c e->Q (.ref a) b
def j7(s:Board):List (Nat×List Nat):=(shorts s).map λp=>(p.headD 0,netsOf s p)
def FE(ok:gF ↥s):j7 s=(((nodes ↥s).filter<|isRoot ↥s).filter λr=>decide<|2<=(netsOf s<|members ↥s r).length).map λr=>(r,netsOf s<|members ↥s r):=by
 unfold j7 shorts;rw[lD ok,kE,bX];show dY λr a=>?_;let:=aw.mp (aw.mp a).1;change((members ↥s r).headD 0,_)=_;rw[t7 ok this.1 this.2]
def ql(n:Nat):kL (ik n)=n:=by change((n:Int)).toNat=n;lk
section
variable{P:Program}{w:World}{K:Frag}{mg:Str->Option Value}{base:Heap}{CP CB:Addr}
def jV(K:Frag)(CP CB:Addr):Sp:=λb H Q _=>∃(a:V) (s:Board),b=[a]/\dD K CP CB H a s/\KF Ph H Q (j7 s)
def vZ(T:Facts K mg CP CB):Df P w K mg base 5 "shorted_parts" ["board"] (jV K CP CB):=by
 show T.wF.dx ["board","part","nets"] λf cdv A L s H vs Q E y J hu h=>?_;let[vb,s,0,S,k]:=h;let ok:=cD S.ok;show#[_,(ao<|aM<|ke rfl J (JA<|lk<|du (yD T) y<|aa (pv 0) ah) (cZ (own:=[("part",1),("nets",2)])<|by kernel_rfl) (λ_ _ _ _ _=>(Le K 2<|dC (bF 1 J)<|dC (bF 2 J) jZ)) (λ_ _ _ _ _=>(jv<|ct oB (bC nc SY T.Bt.len boot_len<|aa (pv 2) ah) aI)) λ_ _ _ _ _=>(eI<|aa (pv 1)<|aa (bC jw SY T.Bt.sorted boot_sorted<|aa (pv 2) ah) ah)),?_]
 show rA<|vM ?_;show#[1,_,s,0,S,λH1 C O c s1 F B Z n=>?_];show#[C,1,B,λo=>#[C,o,1,ag,?_]];let Y:am H (upd H1 C<|.g9 o<|.dK<|aK O):=am.upd s1 F;let u:O.map (·.1)=(nodes ↥s).filter (isRoot ↥s):=by let:=n.keys;rw[bK]at this;show this
 let j:(aK O).length<100000:=by
  let l1:O.length<=128:=by
   let:=dF List.length u;rw[ac]at this;rw[this];show aL (bu _ _) cz
  rw[ac];lk
 show Ci (K:=K) (HU (o:=o)) OT.mono (λe=>decide<|1<(c<|kL e.1).length) (λe=>(kL e.1,netsOf s<|members ↥s<|kL e.1)) j (λH' e=>e _ _ ag) ?_ ?_
 .ext x v R D l Q1 Q0 hx M eD nD ⟨ta,rfl,ID⟩ k1 k0;let[[r,I],q,0]:=ae.mp hx;let[i1,i2,i3]:=Z _ q;let W:R I=some (.dK<|uz<|c r):=M _ _<|by rw[aA i3];show i1
  let y:r∈O.map (·.1):=ae.mpr #[_,q,0];let el:(uz<|c r).length=(c r).length:=by rw[ac]
  show#[ta,1,gT.of ID,0,_,1,_,1,0,?_];show#[0,1,I,1,W,_,1,0,1,cg (λt1=>?_) λt1=>?_]
  .let N:1<(c r).length:=by let:=aF t1;rw[el]at this;lk
   let[ns,h1,h2,h3]:=kn (l:=c r) (by rw[nE];show ly (λa b e=>dw e)<|n.nd r) λkk=>by
    rw[nE,ae];show#[λ#[m,g,i]=>#[m,i.symm,g],λ#[m,g,i]=>#[m,i,g.symm]]
   show#[2,I,_,ns,0,Rd.of W,h1,λns' p G ho d=>?_];rw[jz G ho h2 (nH (s:=s)) λx=>by
    rw[h3];show#[λ#[m,g,i]=>#[m,(n.nets ok y m).mp g,i],λ#[m,g,i]=>#[m,(n.nets ok y m).mpr g,i]]]
   show#[da,λt U=>k1 _ _ ((am.new d).trans<|am.new U) (by change decide (1<(c<|kL<|ik r).length)=true;rw[ql];show aU N) ?_]
   show#[t,p,0,?_,?_,λz=>by rw[z,eD]at d;cases d]
   .rw[ag];change _=some (HO.tup [.int ((kL (ik r):Nat):Int),.ref p]);rw[ql];rfl
   .change _=some (HO.lst<|(zs<|netsOf s<|members ↥s<|kL<|ik r).map V.int);show(am.new U) _ _ ag
  .show k0 _ (am.refl _) ?_;change decide (1<(c<|kL<|ik r).length)=false;rw[ql];let:=cb t1;show bE om
 .intro R a l M ha e X;show k _ _ l (Y.trans M) (Y.free ha) e ?_;let e0:List.map (λe=>(kL e.1,netsOf s<|members ↥s<|kL e.1)) (List.filter (λe=>decide<|1<(c<|kL e.1).length)<|aK O)=j7 s:=by
   rw[FE ok,<-u,kE,bX,kE,bX];let B:List.filter ((λe:Key×V=>decide<|1<(c<|kL e.1).length)∘λp:Nat×Addr=>(ik p.1,V.ref p.2)) O=List.filter ((λr=>decide<|2<=(netsOf s<|members ↥s r).length)∘(·.1)) O:=wT λp q=>by
    change decide (1<(c<|kL<|ik p.1).length)=decide (2<=(netsOf s<|members ↥s p.1).length);rw[ql,n.len ok<|ae.mpr #[_,q,0]];rfl
   rw[B];show dY λp q=>?_;change(kL<|ik p.1,netsOf s<|members ↥s<|kL<|ik p.1)=_;rfl
  rw[e0]at X;show X.mono λa b t=>t.to
end
def KG(k:Mon K R):Src (RM K a) (λH=>cc K H a vs/\Paired (R H) vs xs) xs.zipIdx (λH v e=>∃t u,v=.ref t/\H t=some (.tup [.int (e.2:Nat),u])/\R H u e.1) where
 go:=λi H c h=>by
  let f:i<vs.length:=by rw[c.2.length];simpa using h
  show#[vs,vs[i],c.1,by simp[f]]
 stop:=λH c=>#[vs,c.1,by rw[c.2.length];simp]
 BB:=λi H v l x c y e=>by
  let[T,u,0,g,0,q]:=y;rw[oR]at e;cases b:xs[i]?with
  |none=>rw[b]at e;cases e
  |some z=>
   rw[b]at e;let d:x=(z,i):=by let:=bj e;rw[<-this];simp
   subst d;let[m,j,r]:=im c.2 b;let:=q vs c.1;rw[j]at this;cases this
   let s:am H (upd H T<|.tup [.int (i:Nat),u]):=am.new g;show#[s,T,u,0,ag,k _ _ _ _ (am.ts s) r]
def le_total{f g:Frac}(h:f.le g=false):g.le f=true:=by
 unfold Frac.le at*;let:=cb h;show aU om
section
variable{P:Program}{w:World}{K:Frag}{mg:Str->Option Value}{base:Heap}{CP CB:Addr}
def nJ(K:Frag)(CP CB:Addr):Sp:=λf H Q _=>∃(e:V) (s:Board) (i j:Nat) (a b:Piece) (c:Nat),f=[e,.int (i:Int),.int (j:Int),.int (c:Int)]/\dD K CP CB H e s/\s.get i=some a/\s.get j=some b/\c<=1000000000/\touch a.shape b.shape=false/\
 ∀d,Kg H d->dD K CP CB d e s->Q (.bl<|!apart a.shape b.shape c) d
def v9(T:Facts K mg CP CB):Df P w K mg base 7 "shapes_nearer" ["board","i","j","clearance"] (nJ K CP CB):=by
 show T.wH.dx ["board","i","j","clearance","piece","other","distance"] λf U A D s H vs Q E z C G h=>?_;let[vb,s,i,j,a,b,c,0,u,l,n,hc,y,k]:=h;let[Y,L,ld,gd,kvs,bL,cW,o,p,g]:=id u;let[S,W,0,x,Z,hna]:=id o;let[pa,v1,p1]:=g.ie.get l;let[pb,v2,p2]:=g.ie.get n;let I:=p1.is T.TP;let J:=p2.is T.TP;let[f1,o1,M]:=id I;let[f2,o2,N]:=id J;let r1:(a.shape.r:Int)<=1000000000:=M.r1;let r2:(b.shape.r:Int)<=1000000000:=N.r1;show#[_,(af (aS 4 C<|b7 G (fv K 0) (pv 1) λ_ _=>rfl)
  (af (aS 5 C<|b7 G (fv K 0) (pv 2) λ_ _=>rfl)
  (af (aS 6 C<|ad (ad (fv K 4)<|fv K 5)<|pv 3)
  (ao<|aM<|mJ (du (B3 T) z<|aa (pv 4)<|aa (pv 5)<|aa (pv 6) ah)<|mI<|du (zV T) z<|aa (met (Kk T) T.c8.cls z (pv 0)<|aa (pv 1)<|aa (pv 2) ah)<|aa (eI<|aa (ml (pv 6)<|pv 6)<|aa aI ah) ah)))),?_]
 show#[1,_,_,_,o,p.pieces,1,L,1,(by rw[<-v1];show cP.k (k:=ik i) g.ie.at_),?_]
 show#[1,_,_,_,o,p.pieces,1,L,1,(by rw[<-v2];show cP.k (k:=ik j) g.ie.at_),?_]
 show#[1,_,_,_,o1,M.d9,1,_,_,_,o2,N.d9,_,1,0,1,_,1,0,?_];let X:((gG a).d9+(gG b).d9+(c:Int))=((a.shape.r+b.shape.r+c:Nat):Int):=by
  change(a.shape.r:Int)+(b.shape.r:Int)+(c:Int)=_;lk
 dsimp only[dQ];rw[X];let ne:=λ(m:Int×Int) (hg:sN a.shape.pts b.shape.pts m)=>Me (g.ok.pts _ _ l) (g.ok.pts _ _ n) (M:=(a.shape.r+b.shape.r)*(a.shape.r+b.shape.r)) y hg<|a.shape.r+b.shape.r+c;let O:apart a.shape b.shape c=(Frac.whole<|(a.shape.r+b.shape.r+c)*(a.shape.r+b.shape.r+c)).le (dist2 a.shape.pts b.shape.pts):=rfl;rw[O]at k;show#[3,_,_,gG a,gG b,1,I,J,λH1 d=>#[1,cg (λe=>?_) λe=>?_]]
 .show#[1,S,W,Y,0,d _ _ x,p.no dk,2,_,s,i,j,a,b,0,u.same d,l,n,λH2 v m B R rv q=>?_];show#[2,_,1,0,.inl #[om,om],da,λt ht=>?_];let F:=am.new (o:=.tup [.int (((a.shape.r+b.shape.r+c:Nat):Int)*((a.shape.r+b.shape.r+c:Nat):Int)),.int 1]) ht;show#[_,_,m,(((a.shape.r+b.shape.r+c:Nat):Int)*((a.shape.r+b.shape.r+c:Nat):Int),1),0,ki.mon _ _ _ _ (am.ts F) rv,#[t,0,gT.of ag],#[q.sq.2.1,q.sq.2.2],#[(by change(0:Int)<1;decide),(by change(1:Int)<2^64;decide)],?_]
  let:=ne m q;rw[<-this]at k;let kk:=k _ (((Kg.of d).trans B).trans<|Kg.of F)<|R.same F;show kt e kk
 .let kk:=k _ (Kg.of d)<|u.same d;let hx:(Frac.whole<|(a.shape.r+b.shape.r+c)*(a.shape.r+b.shape.r+c)).le (dist2 a.shape.pts b.shape.pts)=true:=by
   let r:=u_ (g.ok.pts _ _ l) (g.ok.pts _ _ n)<|a.shape.r+b.shape.r+c;unfold mX at r;rw[aH (show cC (bO (bM a.shape.pts) ((a.shape.r+b.shape.r+c:Nat):Int)) (bM b.shape.pts)=false from e)]at r;show le_total r.symm
  rw[hx]at kk;show kk
def MC(K:Frag):Rep (Nat×Nat):=λH v x=>IsT K H v [(x.1:Int),(x.2:Int)]
def MC.mon:Mon K (MC K):=λ_ _ _ _ t h=>h.ts t
def IE(s:Board)(c n:Nat)(a:Piece)(x:Nat×Piece):Bool:=level a x.2&&(!(members ↥s n).contains x.1&&!apart a.shape x.2.shape c)
def MD(s:Board)(c n:Nat)(a:Piece)(l:List (Nat×Piece)):nearPairs ↥s c ((n,a)::l)=((l.filter<|IE s c n a).map λx=>(n,x.1))++nearPairs ↥s c l:=rfl
def Cj(g:Graph)(c:Nat):∀l:List (Nat×Piece),(nearPairs g c l).length<=l.length*l.length
 |[]=>by simp[nearPairs]
 |(n,a)::l=>by
  let e:=Cj g c l;unfold nearPairs;simp only[aW,ac,aY];let b:=bu (λx=>level a x.2&&(!(members g n).contains x.1&&!apart a.shape x.2.shape c)) l;let d:(l.length+1)*(l.length+1)=l.length*l.length+2*l.length+1:=by grind
  lk
def GH{s:Board}{i n:Nat}{a:Piece}(h:s.all[i]?=some (n,a)):s.get n=some a:=(lZ.mp<|aX h).2
def tf{s:Board}:s.all.length<=128:=by
 let:=cz (s:=s);rw[eG,ac]at this;show this
def ME(ok:wY s)(f:s.get n=some a)(g:s.get m=some b)(i:m≠n):
  (rootOf ↥s n=rootOf ↥s m->IE s c n a (m,b)=false)/\(level a b=false->IE s c n a (m,b)=false)/\(rootOf ↥s n≠rootOf ↥s m->level a b=true->IE s c n a (m,b)=(!apart a.shape b.shape c)/\touch a.shape b.shape=false):=by
 let d:=cD ok;let o:n∈nodes ↥s:=eV.mpr #[gz ok f,by rw[f];rfl]
 let r:m∈nodes ↥s:=eV.mpr #[gz ok g,by rw[g];rfl]
 let j:=DX d o r;unfold joined at j;unfold IE;show#[λe=>?_,λe=>?_,λk l=>#[?_,?_]]
 .rw[j,aU e];simp
 .rw[show level a (m,b).2=false from e];rfl
 .rw[j,bE k,show level a (m,b).2=true from l];rfl
 .cases q:touch a.shape b.shape with
  |false=>rfl
  |true=>
   let t:touching a b=true:=by unfold touching;rw[l,q];rfl
   let h:m∈neighbours ↥s n:=iQ.mpr #[a,b,gz ok f,gz ok g,f,g,i,t];let p:m∈members ↥s n:=(bc d).mpr<|.step (.refl o) h;show absurd (iE d p).symm k
def qT(K:Frag)(CP CB:Addr):Sp:=λf H Q _=>∃(d:V) (s:Board) (c:Nat),f=[d,.int (c:Int)]/\dD K CP CB H d s/\c<=1000000000/\
 ∀b a e,Kg H b->H a=none->b a=some (.lst e)->Paired (MC K b) e (nearPairs ↥s c s.all)->dD K CP CB b d s->Q (.ref a) b
structure HV(K:Frag)(CP CB:Addr)(H H':Hp)(vb:V)(s:Board)(ld nl pl:Addr)(l:List (Nat×Nat))(acc:List (Nat×Nat)):Prop where
 kg:Kg H H'
 bd:dD K CP CB H' vb s
 least:H' ld=some (.dK<|stK l)
 nums:H' nl=some (.lst<|(zs<|nodes s.graph).map V.int)
 Ra:∃us,H' pl=some (.lst us)/\Paired (MC K H') us acc
def HV.mo{ld pl:Addr}(I:HV K CP CB H g f s ld h pl l c)(a:Kg g d)(b:dD K CP CB d f s):HV K CP CB H d f s ld h pl l c:=
 #[I.kg.trans a,b,a _ _ I.least (by intro _ z;cases z),a _ _ I.nums (by intro _ z;cases z),let #[i,e,p]:=I.Ra;#[i,a _ _ e (by intro _ z;cases z),cO MC.mon a.kp.ts p]]
def HV.sm{ld pl:Addr}(I:HV K CP CB H b f s ld d pl l a)(e:am b c):HV K CP CB H c f s ld d pl l a:=I.mo (Kg.of e)<|I.bd.same e
def HV.app{H c:Hp}{R:V}{s:Board}{ld O pl q:Addr}{l d:List (Nat×Nat)}{y:List V}{n m:Nat}(I:HV K CP CB H c R s ld O pl l d)(B:dD K CP CB H R s)(G:H pl=none)(e:c pl=some (.lst y))(p:Paired (MC K c) y d)(hq:c q=some (.tup [.int (n:Int),.int (m:Int)]))(F:O≠pl):
  HV K CP CB H (upd c pl<|.lst<|y++[.ref q]) R s ld O pl l (d++[(n,m)]):=by
 let Q:Tu K c (upd c pl<|.lst<|y++[.ref q]):=Tu.lst e;let N:ld≠pl:=λz=>by subst z;rw[I.least]at e;cases e
 let r:Kg H (upd c pl<|.lst<|y++[.ref q]):=λa o h x=>by
  rw[aA λz=>by subst z;rw[G]at h;cases h];show I.kg a o h x
 show#[r,?_,by rw[aA N];show I.least,by rw[aA F];show I.nums,_,ag,jj (cO MC.mon Q p) #[q,0,Q _ _<|gT.of hq]]
 let[T,pd,L,U,J,X,cW,o,S,g]:=B;let[D,pd',ld',E,W,M,f,o',A,t]:=I.bd;let e1:T=D:=by
  let[ba,dx,0,h1,_]:=o;let[Y,Z,C,u,_]:=o';cases C
  rw[I.kg _ _ h1<|by intro _ z;cases z]at u
  cases u
  rfl
 subst e1;let C:U=E:=by
  let:=S.vT;rw[A.vT]at this;cases this
  rfl
 subst C;show#[T,pd,L,U,J,X,f,iU.kj o r.kj,S,g.vT r #[by rw[aA λz=>by subst z;rw[t.sO.at_]at e;cases e];show t.sO.at_,t.sO.nd,λk v hm=>by
  let[i,j,a,b,m,q1,q2,q3,q4,q5]:=t.sO.isin k v hm;show#[i,j,a,b,m,q1,q2,q3,ki.mon _ _ _ _ Q q4,q5],t.sO.n9]]
def Ck(T:Facts K mg CP CB):Df P w K mg base 8 "near_pairs" ["board","clearance"] (qT K CP CB):=by
 show T.CO.dx ["board","clearance","least","numbers","pairs","k","i","j","apart"] λf cdv A outer s H vs Q E hr nd hu h=>?_;let[vb,s,c,0,hB,hc,k]:=h;let[fs,pd,lkd,gd,kvs,bL,cW,o,bf,g]:=id hB;let[J,dx,0,hba,hcl,hna]:=id o;let gok:=cD g.ok;let y:nodes ↥s=s.all.map (·.1):=eG;let W:=tf (s:=s);show#[_,(af (aS 2 nd<|du (yx T) hr<|aa (pv 0) ah)
  (af (aS 3 nd<|zT (B6 T) T.c8.cls hr<|pv 0)
  (af (aS 4 nd<|cR ah)
  (af (dZ cm rfl (L0 rfl T.Bt.enumerate<|aa (pv 3) ah) (Le K 2<|dC (bF 5 nd)<|dC (bF 6 nd) jZ)
  (ao (dZ cm rfl (oE K<|Ld K (pv 3) (fT<|ad (pv 5) aI) iC) (bF 7 nd)
  (af (aS 8 nd<|mJ (cv oA (b7 hu (pv 2) (pv 6) λ_ _=>rfl)<|b7 hu (pv 2) (pv 7) λ_ _=>rfl)<|mI<|du (z7 T) hr<|aa (b7 hu (fv K 0) (pv 6) λ_ _=>rfl)<|aa (b7 hu (fv K 0) (pv 7) λ_ _=>rfl) ah)
  (ao<|cF (o6 (cV<|pv 8)<|p9<|cV<|du (v9 T) hr<|aa (pv 0)<|aa (pv 6)<|aa (pv 7)<|aa (pv 1) ah).pt (ao<|dL<|JJ (pv 4)<|eI<|aa (pv 6)<|aa (pv 7) ah) bA)))))
  (ao<|aM<|pv 4))))),?_]
 show zU #[1,_,s,0,hB,λH1 ld l s1 hld e1 L=>?_];show zU #[1,J,dx,fs,0,s1 _ _ hba,bf.no dk,_,s,0,hB.same s1,λH2 D s2 hnl e2=>?_];show zU #[de,λpl B=>?_];let s12:=s1.trans s2;let hpl:H pl=none:=s12.free B;let s3:am H2 (upd H2 pl<|.lst []):=am.new B;let npl:D≠pl:=λz=>by subst z;rw[e2]at B;cases B
 let I0:HV K CP CB H (upd H2 pl<|.lst []) (.ref J) s ld D pl l []:=#[Kg.of (s12.trans s3),hB.same<|s12.trans s3,s3 _ _<|s2 _ _ e1,s3 _ _ e2,[],ag,.nil];dsimp only[dQ];show Q5 #[1,D,1,cc.of<|s3 _ _ e2,?_];show dh (KG (K:=K) (R:=iu) iu.mon (vs:=(zs<|nodes ↥s).map V.int) (xs:=nodes ↥s)) (λi U H'=>(∃v5 v6 S G,U=[some (.ref J),some<|.int (c:Int),some<|.ref ld,some<|.ref D,some<|.ref pl,v5,v6,S,G])/\∃r,r++nearPairs ↥s c (s.all.drop i)=nearPairs ↥s c s.all/\HV K CP CB H H' (.ref J) s ld D pl l r)
  #[#[_,_,_,1],[],by simp,I0] (λi U H' _ z=>let #[_,_,_,I]:=z;#[cc.of I.nums,fL _]) ?_ ?_
 .ext i ⟨n,d⟩ v U H4 H5 hx ⟨⟨v5,v6,S,G,rfl⟩,r,p,I4⟩ s5 ⟨t,u,rfl,ht,hu'⟩;cases hu'
  rw[oR]at hx;let hx2:(nodes ↥s)[i]?=some n/\d=i:=by
   cases q:(nodes ↥s)[i]?with
   |none=>rw[q]at hx;cases hx
   |some z=>
    rw[q]at hx;let e:=bj hx;let e3:=dF Prod.fst e;let e4:=dF Prod.snd e;simp at e3 e4;show#[by rw[e3],e4.symm]
  let[O,0]:=hx2;let N:∃a,s.all[d]?=some (n,a):=by
   rw[y,aZ]at O;let[[n',a],q1,q2]:=i9.mp O;cases q2
   show#[a,q1]
  let[a,N]:=N;let ha:=GH N;let hnn:n∈nodes ↥s:=aX O;let edr:s.all.drop d=(n,a)::s.all.drop (d+1):=by
   let[hi,e]:=aJ.mp N;rw[pZ hi,e]
  let I5:=I4.sm s5;show#[t,1,gT.of ht,0,_,1,_,1,0,?_];show#[2,_,1,0,1,D,1,cc.of I5.nums,λal X=>?_];let ecut:jb ((zs<|nodes ↥s).map V.int) (some<|(d:Int)+1) none=(zs<|(nodes ↥s).drop<|d+1).map V.int:=by
   rw[show((d:Int)+1)=((d+1:Nat):Int)from rfl,lw];unfold zs;rw[M3,M3]
  rw[ecut];let s6:am H5 (upd H5 al<|.lst<|(zs<|(nodes ↥s).drop<|d+1).map V.int):=am.new X;let I6:=I5.sm s6;let alp:al≠pl:=λz=>by subst z;let[us,e,_]:=I5.Ra;rw[X]at e;cases e
  show#[al,0,#[_,cc.of ag],?_];show dh (src_list (K:=K) (R:=iu) (vs:=(zs<|(nodes ↥s).drop<|d+1).map V.int) (xs:=(nodes ↥s).drop<|d+1)) (λj U H'=>(∃S G,U=[some (.ref J),some<|.int (c:Int),some<|.ref ld,some<|.ref D,some<|.ref pl,some<|.int (d:Int),some<|.int (n:Int),S,G])/\H' al=some (.lst<|(zs<|(nodes ↥s).drop<|d+1).map V.int)/\HV K CP CB H H' (.ref J) s ld D pl l (r++(((s.all.drop<|d+1).take j).filter<|IE s c n a).map λx=>(n,x.1)))
   #[#[_,1],ag,by simpa using I6] (λi U H' _ z=>#[cc.of z.2.1,fL _]) ?_ ?_
  .ext j m v U H7 H8 hm ⟨⟨S,G,rfl⟩,al7,I7⟩ s8 rfl;let I8:=I7.sm s8;let Y:=s8 _ _ al7;let C:∃b,(s.all.drop<|d+1)[j]?=some (m,b):=by
    rw[y,<-M3,aZ]at hm;let[[n',b],q1,q2]:=i9.mp hm;cases q2
    show#[b,q1]
   let[b,C]:=C;let hb:s.get m=some b:=by
    rw[tN]at C;show GH C
   let hmn:m∈nodes ↥s:=List.mem_of_mem_drop<|aX hm;let hne:m≠n:=by
    intro z;subst z;rw[tN]at hm;let[h1,e1]:=aJ.mp O;let[h2,e2]:=aJ.mp hm;let:=(lQ<|So.nodup gU).mp<|e1.trans e2.symm;lk
   let Z:(((s.all.drop<|d+1).take<|j+1).filter<|IE s c n a).map (λx=>(n,x.1))=(((s.all.drop<|d+1).take j).filter<|IE s c n a).map (λx=>(n,x.1))++(if IE s c n a (m,b)=true then[(n,m)]else[]):=by
    rw[cM,C,eU,bw];congr 1;change List.map _ (List.filter _ [(m,b)])=_;rw[js];split<;>rfl
   let[np1,np2,np3]:=ME (c:=c) g.ok ha hb hne;let g8:∀x,x∈nodes ↥s->cP H8 ld (.int (x:Int)) (some<|.int (rootOf ↥s x:Int)):=λx hx=>by
    rw[<-L.get hx];show cP.k (k:=ik x) I8.least
   let skip:IE s c n a (m,b)=false->∀G,((∃S v8',[some (V.ref J),some<|V.int (c:Int),some<|V.ref ld,some<|V.ref D,some<|V.ref pl,some<|V.int (d:Int),some<|V.int (n:Int),some<|V.int (m:Int),G]=[some (V.ref J),some<|V.int (c:Int),some<|V.ref ld,some<|V.ref D,some<|V.ref pl,some<|V.int (d:Int),some<|V.int (n:Int),S,v8'])/\H8 al=some (.lst<|(zs<|(nodes ↥s).drop<|d+1).map V.int)/\HV K CP CB H H8 (.ref J) s ld D pl l (r++(((s.all.drop<|d+1).take<|j+1).filter<|IE s c n a).map λx=>(n,x.1))):=λhf G=>by
    show#[#[_,1],Y,?_];rw[Z,hf];simpa using I8
   show#[2,ld,1,g8 n hnn,2,ld,1,g8 m hmn,0,1,cg (λe=>?_) λe=>?_]
   .let hr':rootOf ↥s n≠rootOf ↥s m:=λz=>by rw[z]at e;simp at e
    let[fs8,pd8,ld8,gd8,kvs8,lkvs8,gkvs8,o8,bf8,M]:=id I8.bd;let[pa,w1,p1]:=M.ie.get ha;let[pb,w2,p2]:=M.ie.get hb;show#[1,_,_,_,o8,bf8.pieces,1,pd8,1,(by rw[<-w1];show cP.k (k:=ik n) M.ie.at_),1,_,_,_,o8,bf8.pieces,1,pd8,1,(by rw[<-w2];show cP.k (k:=ik m) M.ie.at_),_,_,gG a,gG b,0,p1.is T.TP,p2.is T.TP,?_]
    let elv:(decide ((gG a).first<=(gG b).last)&&decide ((gG b).first<=(gG a).last))=level a b:=by
     unfold level gG;rw[<-tU,b8];simp only;lk
    dsimp only[dQ];rw[elv];show#[2,cg (λe3=>?_) λe3=>vL ?_]
    .let[q1,q2]:=np3 hr' e3;show#[4,_,s,n,m,a,b,c,0,I8.bd,ha,hb,hc,q2,λH9 R b9=>#[1,cg (λe4=>?_) λe4=>?_]]
     .let I9:=I8.mo R b9;let[us,e9,pr9]:=I9.Ra;show#[1,.inl #[0,_,cc.of e9],2,da,λq hq=>?_];let F:am H9 (upd H9 q<|.tup [.int (n:Int),.int (m:Int)]):=am.new hq;let I10:=I9.sm F;show#[pl,us,1,0,F _ _ e9,?_,?_]
      .let l1:=pr9.length;let l2:=dF List.length p;let l3:=Cj ↥s c s.all;let l4:=bu (IE s c n a)<|(s.all.drop<|d+1).take j;rw[aW]at l1 l2;rw[ac]at l1;rw[cE,fk]at l4;let l5:s.all.length*s.all.length<=128*128:=pq W W;show bi (show us.length<=20000 by lk) de
      .show#[#[_,1],?_,?_]
       .rw[aA alp];show F _ _<|R _ _ Y<|by intro _ z;cases z
       .let:=I10.app hB hpl (F _ _ e9) (cO MC.mon (am.ts F) pr9) ag npl;rw[Z,q1,aH e4,<-K_];show this
     .show#[#[_,1],R _ _ Y (by intro _ z;cases z),?_]
      let:=I8.mo R b9;rw[Z,q1,az<|by rw[e4];show aR]
      simpa using this
    .show skip (np2 e3) _
   .let hr':rootOf ↥s n=rootOf ↥s m:=by simp at e;lk
    show#[2,vL<|vL<|skip (np1 hr') _]
  .ext U H7 ⟨⟨S,G,rfl⟩,al7,I7⟩;show#[#[_,_,_,1],_,?_,I7];let ll:((nodes ↥s).drop<|d+1).length=(s.all.drop<|d+1).length:=by rw[y,<-M3,ac]
   rw[ll,bK,<-p,edr,MD,K_]
 .ext U H4 ⟨⟨v5,v6,S,G,rfl⟩,r,p,I4⟩;let[us,e,pr]:=I4.Ra;let ll:(nodes ↥s).zipIdx.length=s.all.length:=by rw[gY,y,ac]
  rw[ll,iG]at p;let ea:r=nearPairs ↥s c s.all:=by rw[<-p];simp[nearPairs]
  rw[ea]at pr;show#[1,k _ _ _ I4.kg hpl e pr I4.bd]
end
def vD:n∈allNets s↔n≠0/\∃m∈nodes ↥s,netOf s m=n:=by
 unfold allNets;rw[rO,<-eG]
def Lj.key(c:Lj s (nodes ↥s).length O a E):n∈O.map (·.1)↔n∈allNets s:=by
 rw[c.keys,bK,vD]
def gE(s:Board)(n:Nat):List Nat:=((nodes ↥s).filter<|isRoot ↥s).filter λr=>(netsOf s<|members ↥s r).contains n
def pS(ok:gF ↥s)(n:Nat):(partsOfNet s (parts ↥s) n).map (λp=>p.headD 0)=gE s n:=by
 unfold partsOfNet gE;rw[lD ok,kE,bX];let:List.map ((λp:List Nat=>p.headD 0)∘members ↥s) (List.filter ((λp=>(netsOf s p).contains n)∘members ↥s)<|(nodes ↥s).filter<|isRoot ↥s)=List.map id (List.filter ((λp=>(netsOf s p).contains n)∘members ↥s)<|(nodes ↥s).filter<|isRoot ↥s):=
  dY λr a=>by
   let:=aw.mp (aw.mp a).1;show t7 ok this.1 this.2
 rw[this,f9];rfl
def vE(ok:gF ↥s):So (gE s n):=(ok.so.filter _).filter _
def Lj.roots(ok:gF ↥s)(c:Lj s (nodes ↥s).length O i E)(g:n∈O.map (·.1)):∀r,r∈i n↔r∈gE s n:=λr=>by
 let j:=((c.keys n).mp g).1;rw[c.is n r g,bK];unfold gE;rw[aw,aw,bg,rO];walk
 .ext⟨m,a,b,f⟩;let d:r∈nodes ↥s:=by rw[<-b];show iF ok a
  let e:isRoot ↥s r=true:=by
   rw[i6 ok d,aT,<-b];show iE ok<|e_ ok a
  show#[#[d,e],j,m,(gD ok d e).mpr #[a,b],f]
 .ext⟨⟨d,e⟩,_,m,h,f⟩;let[a,b]:=(gD ok d e).mp h;show#[m,a,b,f]
def Lj.len(ok:gF ↥s)(c:Lj s (nodes ↥s).length O b E)(a:n∈O.map (·.1)):(b n).length=(gE s n).length:=
 Bg (c.nd n) (So.nodup<|vE ok) (c.roots ok a)
def Lj.SI(c:Lj s (nodes ↥s).length O e E)(d:n∈O.map (·.1)):((e n).map<|E n).sum=(s.all.filter λa=>a.2.net==n).length:=by
 rw[c.sum n d,bK,eG,kE,ac];congr 1;show wT λa b=>?_;let[i,p]:=a;change(netOf s i==n)=(p.net==n);unfold netOf;rw[(lZ.mp b).2]
def oj(s:Board):List (Nat×List Nat):=(opens s).map λn=>(n,(partsOfNet s (parts ↥s) n).map λp=>p.headD 0)
def HW(ok:gF ↥s):oj s=((allNets s).filter λn=>decide<|2<=(gE s n).length).map λn=>(n,gE s n):=by
 unfold oj opens;have e:(λn=>decide<|2<=(partsOfNet s (parts ↥s) n).length)=λn=>decide<|2<=(gE s n).length:=funext λn=>by
  rw[<-pS ok,ac]
 dsimp only;rw[e];show dY λn _=>by rw[pS ok]
def D9(d:(O.map (·.1)).Nodup):∃a:List Int,vk (aK O) a/\a.Nodup/\∀x,x∈a↔∃n:Nat,n∈O.map (·.1)/\x=(n:Int):=
 kn (Nm d) λk=>by
  rw[GF,ae];show#[λ#[m,b,c]=>#[m,c.symm,b],λ#[m,b,c]=>#[m,c,b.symm]]
def HX(d:l.Nodup):∃a:List Int,vk (stK<|lV l E) a/\a.Nodup/\∀x,x∈a↔∃n:Nat,n∈l/\x=(n:Int):=
 kn (Cc<|by rw[pP];show d) λk=>by
  rw[fG,pP,ae];show#[λ#[m,b,c]=>#[m,c.symm,b],λ#[m,b,c]=>#[m,c,b.symm]]
def vF:(allNets s).length<=128:=by
 let:=fM (So.nodup<|nH (s:=s)) (m:=(nodes ↥s).map<|netOf s) λn b=>by
  let[_,m,a,e]:=vD.mp b;show ae.mpr #[m,a,e]
 rw[ac]at this;show aL this cz
section
variable{K:Frag}{CP CB:Addr}
def mU(K:Frag)(CP CB:Addr):Sp:=λb H Q _=>∃(a:V) (s:Board),b=[a]/\dD K CP CB H a s/\KF Ph H Q (oj s)
def Cn(T:Facts K mg CP CB):Df P w K mg W 5 "nets_apart" ["board"] (mU K CP CB):=by
 show T.CL.dx ["board","found","net"] λf cdv A N s H vs Q E hr L hu h=>?_;let[vb,s,0,hb,k]:=h;let ok:=cD hb.ok;show#[_,(af (aS 1 L<|du (vY T) hr<|aa (pv 0) ah)
  (ao<|aM<|ke rfl L (oE K<|bC jw SY T.Bt.sorted boot_sorted<|aa (pv 1) ah) (cZ (own:=[("net",2)])<|by kernel_rfl) (λ_ _ _ _ _=>(bF 2 L)) (λ_ _ _ _ _=>(jv<|ct oB (bC nc SY T.Bt.len boot_len<|aa (b7 hu (pv 1) (pv 2) λ_ _=>rfl) ah) aI)) λ_ _ _ _ _=>(eI<|aa (pv 2)<|aa (bC jw SY T.Bt.sorted boot_sorted<|aa (b7 hu (pv 1) (pv 2) λ_ _=>rfl) ah) ah))),?_]
 show#[1,_,s,0,hb,λU y O ls C s1 hfd X l D7 n=>?_];dsimp only[dQ];show rA<|vM ?_;let[ns,h1,h2,h3]:=D9 l;show#[1,y,_,ns,0,Rd.of X,h1,λM nl hp J I=>?_];let so:So (allNets s):=nH;rw[jz hp J h2 so λx=>by
  rw[h3];show#[λ#[m,o,q]=>#[m,n.key.mp o,q],λ#[m,o,q]=>#[m,n.key.mpr o,q]]]
 show#[nl,0,#[_,cc.of ag],?_];let s2:am U (upd U nl<|.lst<|(zs<|allNets s).map V.int):=am.new I;let r:=s1.trans s2;show Ci (K:=K) (src_list (R:=iu) (vs:=(zs<|allNets s).map V.int) (xs:=allNets s)) OT.mono (λn=>decide<|2<=(gE s n).length) (λn=>(n,gE s n)) (bi vF de) (λH' e=>#[cc.of (e _ _ ag),fL _]) ?_ ?_
 .ext x v F D j Q1 Q0 hx R eD nD r3 k1 k0;let 0:=r3;let g:=n.key.mpr hx;let[[c,B],d,ex]:=ae.mp g;let G:c=x:=ex;subst G;let[i1,i2,i3]:=D7 _ d;let u:=s2.trans R;let i4:F B=some (.dK<|stK<|lV (ls c)<|C c):=u _ _ i1;let Z:cP F y (kV<|ik c) (some<|.ref B):=by rw[<-rL l d];show cP.k (k:=ik c)<|u _ _ X
  let Y:(stK<|lV (ls c)<|C c).length=(gE s c).length:=by rw[ac,ac,n.len ok g]
  show#[0,2,y,1,Z,B,1,i4,_,1,0,1,cg (λt1=>?_) λt1=>?_]
  .let S:2<=(gE s c).length:=by let:=aF t1;rw[Y]at this;lk
   let[ms,o,q,q3]:=HX (E:=C c)<|n.nd c;show#[3,y,1,Z,B,_,ms,0,Rd.of i4,o,λM p d J i=>?_];rw[jz d J q (vE ok (n:=c)) λx=>by
    rw[q3];show#[λ#[m,a,b]=>#[m,(n.roots ok g m).mp a,b],λ#[m,a,b]=>#[m,(n.roots ok g m).mpr a,b]]]
   show#[da,λt ht=>k1 _ _ ((am.new i).trans<|am.new ht) (aU S) ?_];show#[t,p,0,ag,(am.new ht) _ _ ag,λz=>by rw[z,eD]at i;cases i]
  .show k0 _ (am.refl _) (bE λz=>cb t1 ?_);rw[Y];lk
 .intro F a j R ha e pr;rw[<-HW ok]at pr;show k _ _ j (r.trans R) (r.free ha) e (pr.mono λa b t=>t.to)
def QG(K:Frag):Rep (Nat×Nat×Nat):=λH v e=>IsT K H v [(e.1:Int),(e.2.1:Int),(e.2.2:Int)]
def QG.mon:Mon K (QG K):=λ_ _ _ _ t h=>h.ts t
def vG(s:Board):List (Nat×Nat×Nat):=(allNets s).map λn=>(n,(s.all.filter λa=>a.2.net==n).length,(partsOfNet s (parts ↥s) n).length)
def OU(l:List Nat):(zs l).sum=((l.sum:Nat):Int):=by
 induction l with
 |nil=>rfl
 |cons a l b=>
  change((a:Int)::zs l).sum=_;rw[tP,tP,b];lk
def qU(K:Frag)(CP CB:Addr):Sp:=λb H Q _=>∃(a:V) (s:Board),b=[a]/\dD K CP CB H a s/\KF (QG K) H Q (vG s)
def Co(T:Facts K mg CP CB):Df P w K mg J 5 "net_counts" ["board"] (qU K CP CB):=by
 show T.CM.dx ["board","found","net"] λf Y A C s H vs Q E hr B R h=>?_;let[vb,s,0,N,k]:=h;let ok:=cD N.ok;show#[_,(af (aS 1 B<|du (vY T) hr<|aa (pv 0) ah)
  (ao<|aM<|ke rfl B (oE K<|bC jw SY T.Bt.sorted boot_sorted<|aa (pv 1) ah) (cZ (own:=[("net",2)])<|by kernel_rfl) (λ_ _ _ _ _=>(bF 2 B)) (λ_ _ _ _ _=>g_) λ_ _ _ _ _=>(eI<|aa (pv 2)<|aa (L7 (b7 R (pv 1) (pv 2) λ_ _=>rfl) SY T.Bt.sum)<|aa (bC nc SY T.Bt.len boot_len<|aa (b7 R (pv 1) (pv 2) λ_ _=>rfl) ah) ah))),?_]
 show#[1,_,s,0,N,λI o O q l s1 hfd L g X n=>?_];dsimp only[dQ];show rA<|vM ?_;let[ns,h1,h2,h3]:=D9 g;show#[1,o,_,ns,0,Rd.of L,h1,λns' U hp ho z=>?_];let so:So (allNets s):=nH;rw[jz hp ho h2 so λx=>by
  rw[h3];show#[λ#[m,D,F]=>#[m,n.key.mp D,F],λ#[m,D,F]=>#[m,n.key.mpr D,F]]]
 show#[U,0,#[_,cc.of ag],?_];let W:am I (upd I U<|.lst<|(zs<|allNets s).map V.int):=am.new z;let i:=s1.trans W;show lG (K:=K) (src_list (R:=iu) (vs:=(zs<|allNets s).map V.int) (xs:=allNets s)) QG.mon (λn=>(n,(s.all.filter λa=>a.2.net==n).length,(partsOfNet s (parts ↥s) n).length)) (bi vF de) (λH' e=>#[cc.of (e _ _ ag),fL _]) ?_ ?_
 .ext x v r Q1 hx G r3 k1;let 0:=r3;let c:=n.key.mpr hx;let[[b,p],d,ex]:=ae.mp c;let y:b=x:=ex;subst y;let[i1,i2,i3]:=X _ d;let j:=W.trans G;let S:r p=some (.dK<|stK<|lV (q b)<|l b):=j _ _ i1;let M:cP r o (kV<|ik b) (some<|.ref p):=by rw[<-rL g d];show cP.k (k:=ik b)<|j _ _ L
  let Z:(stK<|lV (q b)<|l b).length=(partsOfNet s (parts ↥s) b).length:=by
   rw[ac,ac,n.len ok c,<-pS ok,ac]
  let ev:(stK<|lV (q b)<|l b).map (·.2)=(zs<|(q b).map<|l b).map V.int:=by
   simp[stK,lV,zs,Function.comp_def]
  show#[0,3,o,1,M,p,_,1,S,ev,2,o,1,M,p,1,S,?_];rw[Z,OU,n.SI c];show#[db,λt ht=>k1 _ _ (am.new ht) #[t,0,gT.of ag]]
 .intro r a u G ha e pr;show k _ _ u (i.trans G) (i.free ha) e pr
def oH(K:Frag)(CP CB:Addr):Sp:=λb H Q _=>∃(a:V) (s:Board),b=[a]/\dD K CP CB H a s/\nr H Q (zs<|loose s)
def yE(ok:gF ↥s):loose s=(nodes ↥s).filter λx=>(netsOf s<|members ↥s<|rootOf ↥s x).isEmpty:=by
 show So.ext uH (ok.so.filter _) λx=>?_;unfold loose;rw[rN,List.mem_flatten,aw,lD ok];walk
 .ext⟨p,g,i⟩;let[b,c]:=aw.mp g;let[r,h,0]:=ae.mp b;let[l,m]:=aw.mp h;let[j,k]:=(gD ok l m).mp i;rw[k];show#[j,c]
 .ext⟨a,f⟩;let d:=iF ok a;let e:isRoot ↥s (rootOf ↥s x)=true:=by
   rw[i6 ok d,aT];show iE ok<|e_ ok a
  show#[_,aw.mpr #[ae.mpr #[_,aw.mpr #[d,e],0],f],(gD ok d e).mpr #[a,0]]
def yF(T:Facts K mg CP CB):Df P w K mg M 5 "loose_pieces" ["board"] (oH K CP CB):=by
 show T.zd.dx ["board","found","least","number"] λf cdv A C s H vs Q E t m S h=>?_;let[vb,s,0,j,k]:=h;let ok:=cD j.ok;show#[_,(af (aS 1 m<|du (yD T) t<|aa (pv 0) ah)
  (af (aS 2 m<|du (yx T) t<|aa (pv 0) ah)
  (ao<|aM<|ke rfl m (oE K<|zT (B6 T) T.c8.cls t<|pv 0) (cZ (own:=[("number",3)])<|by kernel_rfl) (λ_ _ _ _ _=>(bF 3 m)) (λ_ _ _ _ _=>(jv<|ct oz (bC nc SY T.Bt.len boot_len<|aa (b7 S (pv 1) (b7 S (pv 2) (pv 3) λ_ _=>rfl) λ_ _=>rfl) ah) aI)) λ_ _ _ _ _=>(pv 3)))),?_]
 show#[1,_,s,0,j,λH1 R O J Y hfd e1 D7 n=>?_];show#[1,_,s,0,j.same Y,λH2 ld l F hld e2 L=>?_];dsimp only[dQ];show rA<|vM ?_;let d:=Y.trans F;let b:=j.same d;let[ba,o,p,0,bo,bn]:=b.obj;show#[1,ba,o,p,0,bo,bn _ dk,_,s,0,b,λH3 nl Z hnl N=>#[nl,0,#[_,cc.of N],?_]];let g:=d.trans Z;show kG (K:=K) (src_list (R:=iu) (vs:=(zs<|nodes ↥s).map V.int) (xs:=nodes ↥s)) iu.mon (λx=>(netsOf s<|members ↥s<|rootOf ↥s x).isEmpty) id (bi cz de) (λH' e=>#[cc.of (e _ _ N),fL _]) ?_ ?_
 .ext x v i Q1 Q0 u G r4 k1 k0;let 0:=r4;let a:=Z.trans G;let g4:cP i ld (kV<|ik x) (some<|.int (rootOf ↥s x:Int)):=by rw[<-L.get u];show cP.k (k:=ik x)<|a _ _ e2
  let X:=iF ok u;let W:rootOf ↥s x∈O.map (·.1):=by
   rw[n.keys,bK,aw];show#[X,?_];rw[i6 ok X,aT];show iE ok<|e_ ok u
  let[[r,y],c,ex]:=ae.mp W;let q:r=rootOf ↥s x:=ex;subst q;let[i1,i2,i3]:=D7 _ c;let i4:i y=some (.dK<|uz<|J<|rootOf ↥s x):=a _ _<|F _ _ i1;let B:(O.map (·.1)).Nodup:=by rw[n.keys,bK];show So.nodup<|ok.so.filter _
  let g5:cP i R (kV<|ik<|rootOf ↥s x) (some<|.ref y):=by rw[<-rL B c];show cP.k (k:=ik<|rootOf ↥s x)<|a _ _<|F _ _ e1
  let el:(uz<|J<|rootOf ↥s x).length=(netsOf s<|members ↥s<|rootOf ↥s x).length:=by rw[ac,n.len ok W]
  show#[0,3,ld,1,g4,R,1,g5,y,1,i4,0,1,?_];rw[el];show cg (λt1=>?_) λt1=>?_
  .let I:(netsOf s<|members ↥s<|rootOf ↥s x).isEmpty=true:=by
    let:=aF t1;injection this with this;rw[HH];show f_.mp om
   show#[1,k1 _ _ (am.refl _) I rfl]
  .show k0 _ (am.refl _) ?_;rw[<-iH,HH];intro z;rw[z]at t1;simp at t1
 .intro i D acc G hD e U;rw[f9,<-yE ok]at U;rw[pL U]at e;show k _ _ (g.trans G) (g.free hD) e
end
def eg.in1(r:eg (k+1) A):eg k A.in1:=#[r.hd,by let:=r.dp;change A.depth+3*k+5<recursionLimit;lk,by let:=r.un;change A.units+1+16*k+200<cLine;lk]
def GJ(F:ka X.prog X.w X.K X.mg X.base CY k f i d o)(l:Binds X.K i d [])(n:eg (k+1) X.A)(I:Inv X b p H s)(r:Vals g c)(h:o g H Q E0):
  wpAny (model X.prog X.w) X.A.in1 (PySem.call (.ref f) c) (EP X b p Q) E s:=by
 let m:c.length=d.length:=by rw[<-r.length];show F.len _ _ _ _ h
 show xb (codeAny_mono (F.run X.A.in1 X.stack s H #[c,[]] c g Q E0 (eg.in1 n) I.LD.in1 (by let:=l s c I.Bz (by rw[nQ];show m);rw[nQ]at this;show this) r h) λr q a=>?_)
 cases r with
 |error e=>show a.elim
 |ok j=>
  cases j with
  |ret u=>show I.after a
  |next=>show False.elim a
  |brk=>show False.elim a
  |cont=>show False.elim a
def HY(I:Inv X S σ H s)(R:A.units<cLine)(h:IsT X.K H v i)(N:IsT X.K H w J)(hl:i.length=J.length)(r:RelV v u)(U:RelV w u'):OD A s u u' (dg i J):=by
 by_cases e:i=J
 .subst e;intro T w' E Q k;let[a,0,ha]:=h;let[b,0,hb]:=N;cases r
  cases U
  let[c,W,[[Y,Z,M,sl],P,hc,n,hd],_]:=I.tuple ha;let[d,o,[[L,C,data2,K],g,D,n2,G],_]:=I.tuple hb;subst hc hd D G;let e1:=W.length;let e2:=o.length;rw[ac]at e1 e2;let B:∀j (f:j<c.toArray.size) (q:j<d.toArray.size),∃m t p,c.toArray[j]=.int m t/\d.toArray[j]=.int m p:=λj f q=>by
   let O:j<i.length:=by simp at f;lk
   let[x,hx,r1]:=W.get<|by rw[aZ,ak O];rfl
   let[y,hy,r2]:=o.get<|by rw[aZ,ak O];rfl
   let[t,0]:=r1;let[p,0]:=r2;show#[i[j],t,p,?_,?_]
   .grind
   .grind
  let er:∀l:List Nat,rE (λ_=>true) (λ_=>false) l=false:=λl=>by
   induction l with
   |nil=>rfl
   |cons j l ih=>show ih
  show Gp #[_,P,0] #[_,g,0] F.slot_tuple_lt F.entry_tuple_lt (F.args_tuple_lt_2 _ _) (DS a b c.toArray d.toArray n n2 Z C sl K (λ_=>true) (λ_=>false)<|by simp;lk)
   #[P,g,λj f q=>?_,λj f q z=>Bool.noConfusion z,?_] R
  .let[m,t,p,q1,q2]:=B j f q;rw[q1,q2];let:=SeqAt.EqAt.int_int (A:=A.in1) (s:=s) m t m p;rw[G9]at this;show this
  .rw[er];rw[jo]at k;show#[(λx=>nomatch x),k]
 .show(sR I (KeepsTups.refl _) R h N hl r U).lt e
def oU(p:Pt):List Int:=[p.y,p.x]
structure KH(ps:List Pt)(j i:Nat):Prop where
 lt:i<j
 min:∀j' p q,j'<j->ps[j']?=some p->ps[i]?=some q->dg (oU p) (oU q)=false/\(j'<i->dg (oU q) (oU p)=true)
def MF(F:ka X.prog X.w X.K X.mg X.base CY k f fd ["point"] (d8 X.K))(g:Binds X.K fd ["point"] [])(hr:eg (k+1) X.A)(hc:X.calm=true)(hl:cc X.K H0 l xs)(pr:Paired (eF X.K H0) xs m)(hlI:l≠I)(B:S≠I)(hR:∀(i:Nat) (v:V) (u:Value) (s':Shared) (M:Hp),KH m m.length i->xs[i]?=some v->RelV v u->Inv X d σ M s'->am H0 M->R (.ok<|.ret u) s'):
  ∀(r j i:Nat) (s:Shared) (H:Hp) (Q P:Value) (kv:V) (q:Pt) (c:Nat),m.length -j=r->j<=m.length->Inv X d σ H s->am H0 H->(∀b∈[I,S],lS X d H b)->s.heap.IsListIter I l j->s.heap.get? S=some (seqObj "list" [Q,P].toArray c)->KH m j i->(∃vb,xs[i]?=some vb/\RelV vb Q)->m[i]?=some q->IsT X.K H kv (oU q)->RelV kv P->
   codeAny (model X.prog X.w) X.A (.builtin "min.loop" #[[.ref I,.ref f,.ref S],[]]) R s:=by
 let hname:(toString "min"++toString ".loop":String)="min.loop":=de;let hun:=hr.units;intro r
 induction r with
 |zero=>
  intro j i s H Q P kv q c hrj hj N L O C W a G hq hk rk;let ej:j=m.length:=om;subst ej;let[vb,hvb,rvb]:=G;let[its,rv,p,hz]:=N.list<|L.seq hl;let[f0,f1,f2,f3,f4,f5]:=O I<|by simp
  let[g0,g1,g2,g3,g4,g5]:=O S<|by simp
  let e1:=rv.length;let e2:=pr.length;show fY iI ?_;change wpAny _ X.A.in1 (seqItems? (.ref S)>>=_) _ _ _;show ai<|fU W rfl ?_;change wpAny _ X.A.in1 (tryCatch (pyNext<|.ref I) _>>=_) _ _ _;show ai<|gm (Ix (show X.A.in1.handled=none from N.ok.hd hc) C p.isList (by simp;lk) λU eb=>?_)
  let I1:Inv X d σ H {s with heap:=U}:=N.turned (t':=s.toks) (λb o g e=>eb b o g e) f0 f1 f3 f4 f5;let x:=eb S _ B W;change wpAny _ X.A.in1 (updateSeq S (λ_=>#[])>>=_) _ _ _;show ai ?_;show eN x rfl<|ai<|gk<|aj ?_;let sb:=dn U S (Obj.mapSeq λ_=>(#[]:Array Value));show hR i vb Q _ H a hvb rvb (I1.turned (t':=s.toks) (λb o g e=>(sb.2 b g).trans e) g0 g1 g3 g4 g5) L
 |succ r ih=>
  intro j i s H Q P kv q c hrj hj N L O C W a G hq hk rk;let D:j<m.length:=om;let[its,rv,p,hz]:=N.list<|L.seq hl;let[f0,f1,f2,f3,f4,f5]:=O I<|by simp
  let hx:=ak D;let[v,hv,rp]:=im pr hx;let[u,hu,ru]:=rv.get hv;show fY iI ?_;show ai<|fU W rfl ?_;change wpAny _ X.A.in1 (tryCatch (pyNext<|.ref I) _>>=_) _ _ _;show ai<|gm (kx C p.isList (by simpa using hu) λU Z sb=>?_)
  let I1:Inv X d σ H {s with heap:=U}:=N.turned (t':=s.toks) (λb o g e=>(sb.2 b g).trans e) f0 f1 f3 f4 f5;let x:=(sb.2 S B).trans W;let[oI,E,hcI,Y]:=id Z;let ho:∀b∈[I,S],∃o,(Shared.heap {s with heap:=U}).get? b=some o/\∀v,o.data≠.cell v:=λb g=>by
   simp only[aB,cA,k8]at g;let e||e:=g
   .subst e;show#[oI,E,λv z=>by rw[Y]at z;cases z]
   .grind
  let Ip:=I1.pinned O ho;change wpAny _ X.A.in1 (tryCatch (holding [u]<|PySem.call (.ref f) [u]) _>>=_) _ _ _;show ai<|gm<|dR (ew (GJ F g hr Ip (.cons ru .nil) (Q:=λv' M=>am H M/\IsT X.K M v' (oU m[j])) #[v,m[j],0,eF.mon _ _ _ _ (am.ts L) rp,λM v' s' r'=>#[s',r']]) (λw s2 hw=>?_) λ_ _ z=>z);let[v2,H2,T,rw2,K,t2]:=hw;let gI:=(T.pin (I,oI)<|aD _<|aD _<|dB SX E).1
  let gS:=(T.pin (S,_)<|aD _<|aD _<|dB SX x).1
  let nI:=(T.pin (I,oI)<|aD _<|aD _<|dB SX E).2.1
  let nS:=(T.pin (S,_)<|aD _<|aD _<|dB SX x).2.1
  let I3:=T.lE;let A:∀b∈[I,S],lS X d H2 b:=λb g=>by
   show#[?_,(O b g).2];simp only[aB,cA,k8]at g;let e||e:=g
   .rw[e];show nI
   .rw[e];show nS
  let hk2:=hk.same K;let y:s2.heap.IsListIter I l (j+1):=#[oI,gI,hcI,Y];let cmp:=HY I3 (A:=X.A.in1) (by change X.A.units+1<cLine;lk) t2 hk2 rfl rw2 rk
  change wpAny _ X.A.in1 (tryCatch (holding [u,w]<|richCompare .Lt w P>>=_) _>>=_) _ _ _;show ai<|gm<|dR<|ai<|cmp X.prog X.w _ _ ?_;show ai<|dR<|dr ?_;show ai<|gk<|aj ?_;cases n:dg (oU m[j]) (oU q)with
  |true=>
   let[g0,g1,g2,g3,g4,g5]:=A S<|by simp
   let sb2:=dn s2.heap S (Obj.mapSeq λ_=>[u,w].toArray);let[c2,hc2]:∃c2,(s2.heap.update S (Obj.mapSeq λ_=>[u,w].toArray)).get? S=some (seqObj "list" [u,w].toArray c2):=#[_,gt gS λ_=>[u,w].toArray];show ai ?_;show eN gS rfl<|ai<|gk ?_;show aj #[ft lW _,ih (j+1) j _ H2 u w v2 m[j] c2 om D (I3.turned (t':=s2.toks) (λb o g e=>(sb2.2 b g).trans e) g0 g1 g3 g4 g5) (L.trans K) A (y.at λo e=>(sb2.2 I<|bJ B).trans e) hc2 #[AA j,λj' J q' hj' h t=>?_] #[v,hv,ru] hx t2 rw2];rw[hx]at t;cases t
   by_cases e:j'=j
   .subst e;rw[hx]at h;cases h
    show#[jo _,λz=>absurd z (dO _)]
   .let[b1,b2]:=a.min j' J q om h hq;let strict:dg (oU m[j]) (oU J)=true:=by
     cases z:dg (oU q) (oU J)with
     |true=>show lN n z
     |false=>let e':=rF (X:=oU q) (Y:=oU J) rfl z b1;rw[<-e'];show n
    show#[?_,λ_=>strict];cases z:dg (oU J) (oU m[j])with
    |false=>rfl
    |true=>let:=lN z strict;rw[jo]at this;cases this
  |false=>
   show ai<|gk ?_;show aj #[ft lW _,ih (j+1) i _ H2 Q P kv q c om D I3 (L.trans K) A y gS #[by let:=a.lt;lk,λj' J q' hj' h t=>?_] G hq hk2 rk]
   rw[hq]at t;cases t
   by_cases e:j'=j
   .subst e;rw[hx]at h;cases h
    show#[n,λz=>by let:=a.lt;lk]
   .show a.min j' J q om h hq
def OV(F:ka X.prog X.w X.K X.mg X.base CY k f fd ["point"] (d8 X.K))(h:Binds X.K fd ["point"] [])(hr:eg (k+1) X.A)(hc:X.calm=true)(P:Inv X g σ H s)(hl:cc X.K H l xs)(pr:Paired (eF X.K H) xs r)(J:0<r.length)(hQ:∀(i:Nat) (v:V) (u:Value) (t:Shared) (j:Hp),KH r r.length i->xs[i]?=some v->RelV v u->Inv X g σ j t->am H j->Q u t):
  wpAny (model X.prog X.w) X.A (PySem.call (.builtin "min") [.ref l] [(Str.ofString "key",.ref f)]) Q E s:=by
 let n:(toString "min"++toString ".loop":String)="min.loop":=de;let[its,rv,p,hz]:=P.list hl;let[ol,nl,hol,_]:=id p;let hll:=ce hol;show PyProof.Rows.kmk_tree PySem.F.kind_min PySem.F.plain_min PySem.F.entry_min (PyProof.Rows.kmk_min_key _ _) ?_;change wpAny _ X.A.in1 (Builtin.Builtins.bindParams "min" ["key","default"] 0 #[[],[(Str.ofString "key",.ref f)]]>>=_) _ _ s;show ai<|wpAny_of_eq (show Builtin.Builtins.bindParams "min" ["key","default"] 0 #[[],[(Str.ofString "key",.ref f)]]=pure [some (.ref f),none]from rfl) ?_;show ai<|aj ?_;show ai<|o3 p.isList ?_;show ai<|gM ?_<|cH _;rw[n];let hS:(s.heap.push {cls:=.type "list_iterator",data:=.fields [.ref l,.int 0 0].toArray}).objs.size=⇑s+1:=kw ..;show aj #[ft lW _,?_];let gI:((s.heap.push {cls:=.type "list_iterator",data:=.fields [.ref l,.int 0 0].toArray}).push<|seqObj "list" #[] 0).get? ⇑s=some {cls:=.type "list_iterator",data:=.fields [.ref l,.int 0 0].toArray}:=br _<|bx _ rfl;let gS:((s.heap.push {cls:=.type "list_iterator",data:=.fields [.ref l,.int 0 0].toArray}).push<|seqObj "list" #[] 0).get? (s.heap.push {cls:=.type "list_iterator",data:=.fields [.ref l,.int 0 0].toArray}).objs.size=some (seqObj "list" #[] 0):=bx _ rfl;rw[hS]at gS|-;let R:Inv X g σ H {s with heap:=(s.heap.push {cls:=.type "list_iterator",data:=.fields [.ref l,.int 0 0].toArray}).push<|seqObj "list" #[] 0}:=P.kept (t':=s.toks) λb ob q=>br _<|br _ q;let U:∀b∈[⇑s,⇑s+1],lS X g H b:=λb h=>by
  let G:⇑s<=b:=by
   simp only[aB,cA,k8]at h;let e||e:=h
   .rw[e];show aE _
   .rw[e];show Et _
  show P.BC G<|P.hok.fresh G
 let m:⇑s+1≠⇑s:=iD _;let hlI:=bN hll;let[f0,f1,f2,f3,f4,f5]:=U ⇑s<|by simp
 generalize M:({s with heap:=(s.heap.push {cls:=.type "list_iterator",data:=.fields [.ref l,.int 0 0].toArray}).push<|seqObj "list" #[] 0}:Shared)=N at R;let W:N.heap.get? ⇑s=some {cls:=.type "list_iterator",data:=.fields [.ref l,.int 0 0].toArray}:=by rw[<-M];show gI
 let A:N.heap.get? (⇑s+1)=some (seqObj "list" #[] 0):=by rw[<-M];show gS
 generalize ⇑s=I at*;generalize hS':I+1=S at*;let[its0,rv0,p0,hz0]:=R.list hl;let hx:=ak J;let[v,hv,rp]:=im pr hx;let[u,hu,ru]:=rv0.get hv;show fY iI ?_;show ai<|fU A rfl ?_;change wpAny _ X.A.in1 (tryCatch (pyNext<|.ref I) _>>=_) _ _ _;show ai<|gm (kx #[_,W,0,0] p0.isList (by simpa using hu) λh' D sb=>?_)
 let I1:Inv X g σ H {N with heap:=h'}:=R.turned (t':=N.toks) (λb o h e=>(sb.2 b h).trans e) f0 f1 f3 f4 f5;let C:=(sb.2 S m).trans A;let[oI,K,hcI,hdI]:=id D;let ho:∀b∈[I,S],∃o,(Shared.heap {N with heap:=h'}).get? b=some o/\∀v,o.data≠.cell v:=λb h=>by
  simp only[aB,cA,k8]at h;let e||e:=h
  .grind
  .grind
 let Ip:=I1.pinned U ho;change wpAny _ X.A.in1 (tryCatch (holding [u]<|PySem.call (.ref f) [u]) _>>=_) _ _ _;show ai<|gm<|dR (ew (GJ F h hr Ip (.cons ru .nil) (Q:=λv' j=>am H j/\IsT X.K j v' (oU r[0])) #[v,r[0],0,rp,λj v' t r'=>#[t,r']]) (λw s2 hw=>?_) λ_ _ z=>z);let[v2,H2,x,rw2,s12,t2]:=hw;let Y:=(x.pin (I,oI)<|aD _<|aD _<|dB SX K).1
 let B:=(x.pin (S,_)<|aD _<|aD _<|dB SX C).1
 let nI:=(x.pin (I,oI)<|aD _<|aD _<|dB SX K).2.1
 let nS:=(x.pin (S,_)<|aD _<|aD _<|dB SX C).2.1
 let I3:=x.lE;let y:∀b∈[I,S],lS X g H2 b:=λb h=>by
  show#[?_,(U b h).2];simp only[aB,cA,k8]at h;let e||e:=h
  .rw[e];show nI
  .rw[e];show nS
 let[g0,g1,g2,g3,g4,g5]:=y S<|by simp
 let O:=dn s2.heap S (Obj.mapSeq λ_=>[u,w].toArray);let[T,Z]:∃T,(s2.heap.update S (Obj.mapSeq λ_=>[u,w].toArray)).get? S=some (seqObj "list" [u,w].toArray T):=#[_,gt B λ_=>[u,w].toArray];change wpAny _ X.A.in1 (updateSeq S (λ_=>[u,w].toArray)>>=_) _ _ _;show ai ?_;show eN B rfl ?_;show aj #[ft lW _,MF F h hr hc hl pr hlI m (λi v u t j a b c d e=>hQ i v u t j a b c d e) (r.length -1) 1 0 _ H2 u w v2 r[0] T rfl J (I3.turned (t':=s2.toks) (λb o h e=>(O.2 b h).trans e) g0 g1 g3 g4 g5) s12 y (#[oI,(O.2 I<|bJ m).trans Y,hcI,hdI]) Z #[Nat.zero_lt_one,λj' p' q' hj' hp' L=>?_] #[v,hv,ru] hx t2 rw2];let e:j'=0:=om;subst e;rw[hp']at L;cases L
 show#[jo _,λz=>absurd z (dO _)]
def QH(K:Frag)(e:TA):TE:=λg H Q=>e g H λf b=>∃(l:Addr) (c:List V) (a:List Pt),f=[.ref l]/\cc K b l c/\Paired (eF K b) c a/\0<a.length/\∀(i:Nat) (v:V) (d:Hp),KH a a.length i->c[i]?=some v->am b d->Q v d
def MG(D:Df X.prog X.w X.K X.mg X.base k "low_then_left" ["point"] (d8 X.K))(K:eg j X.A)(A:PA X [e] S)(C:Gl X "min")(J:X.mg "min"=none)(E:k+1<=j:=by decide)(d:Gl X "low_then_left":=by rfl)(B:X.calm=true:=by rfl)(L:backTo a (starEach [e] X.env)=(false,eval e X.env)::backTo a (starEach [] X.env):=by rfl)(m:(backTo a<|starEach [e] X.env).any (·.1)=false:=by rfl):
  PE X (.Call (.Name "min" p) [e] [#[some "key",.Name "low_then_left" Z,Y]] a) (QH X.K S):=by
 intro c s T H Q I h;let[f,W,F,g,M,b]:=D.ex;show dU<|ja I C J boot_min ?_ de de;show callWith_kw (dJ (A a c s T H _ I h) λus s1 #[vs,U,o,P,O]=>kws_cons<|nZ o d g (kws_nil ?_) de) L m;let[l,xs,ps,y,G,N,z,q]:=O;subst y;rw[Vals.uc P];show OV F b (K.mono E) B o G N z λi v u s' n w x r t R=>#[v,n,t,r,q i v n w x R]
def OW(I:Inv X a j H s)(c:eF X.K H v p)(d:eF X.K H v q):p=q:=by
 let[[f,e,t1],_]:=c;let[[g,b,t2],_]:=d;rw[e]at b;cases b
 let:=I.m6 t1 t2;simp only[bm,iP,tR,V.int.injEq,xp]at this;let[h,i]:=p;simp only at this;rw[this.1,this.2]
def GK(K:Frag):V->List V->Hp->VK->Prop:=λx d H Q=>∃(a:Addr) (c:List V) (y:V) (b:List Pt) (q:Pt),x=V.ref a/\d=[y]/\cc K H a c/\Paired (eF K H) c b/\eF K H y q/\q∈b/\b.length<=1000/\Q (.int (b.idxOf q:Nat)) H
open Classical in
def HZ(hr:eg k X.A):QY X "list.index" (GK X.K):=by
 intro S s σ H x xs v us Q I rx J h;let[a,ys,y,d,q,0,0,hs,w,rq,hq,hle,k']:=h;let hun:=hr.units;cases rx
 cases J with
 |cons ry rt=>
  rename_i uy ut;cases rt
  let[b,B,[[Z,dd,L,sl],n,P,M,hdn,N],O]:=I.list hs;simp only at M N;subst M N;let e1:=B.length;let e2:=w.length
  let' e:Value->Bool:=λu=>decide (∃j:Nat,b[j]?=some u/\d[j]?=some q)
  let ev:∀(i:Nat) (u:Value) (p:Pt),b[i]?=some u->d[i]?=some p->e u=decide (p=q):=λi u p t R=>by
   rw[b8];walk
   .ext⟨j,h1,h2⟩;let[v1,C,A]:=im w R;let[v2,g2,T]:=im w h2;let[u1,f,t1]:=B.get C;let[u2,r,t2]:=B.get g2;rw[t]at f;rw[h1]at r;cases f
    cases r
    let[[W,0,_],_]:=id A;let[[Y,0,_],_]:=id T;let z:u=Value.ref W:=t1;let U:u=Value.ref Y:=t2;rw[z]at U;cases U
    show OW I A T
   .ext rfl;show#[i,t,R]
  let hj:d.idxOf q<d.length:=oD hq;let o:d.idxOf q<b.toArray.size:=by simp;lk
  show kR tv #[_,P,0] PySem.F.entry_list_index (PySem.F.args_list_index_2 _ _)
   (SeqAt.list_indexAt a b.toArray n dd sl uy e (d.idxOf q) o om ?_ ?_) #[P,λu t=>?_,?_]
  .let:=ev (d.idxOf q) b.toArray[d.idxOf q] q (by simp at o|-)<|by rw[ak hj];simp
   rw[this];show aU rfl
  .intro m hm D;let hml:m<b.length:=by simpa using hm
   let E:m<d.length:=om;let:=ev m b.toArray[m] d[m] SX<|ak E
   rw[this];show bE λz=>?_;let F:=List.not_of_lt_findIdx (show m<d.findIdx (·==q)from D);simp[z]at F
  .let G:u∈b:=by simpa using t
   let[i,hi,ei]:=iA.mp G;let g:i<d.length:=om;let hiy:i<ys.length:=om;let l:b[i]?=some u:=by rw[ak hi,ei]
   let[v1,C,A]:=im w<|ak g;let[u1,f,t1]:=B.get C;rw[l]at f;cases f
   let c:=sR (s:=s) I (KeepsTups.refl _) (A:=X.A.in1) (by change X.A.units+1<cLine;lk) A.1 rq.1 rfl t1 ry
   rw[ev i u d[i] l<|ak g];let ee:decide ([d[i].x,d[i].y]=[q.x,q.y])=decide (d[i]=q):=by
    rw[b8];generalize d[i]=p;let[px,py]:=p;let[qx,qy]:=q;simp
   let K:=c.eq;rw[ee]at K;show K
  .show#[.int _,H,I.tok _,#[1],k']
def MH(j:eg k X.A)(i:PE X o m)(h:PE X e l)(f:starEach [e] X.env=[(false,eval e X.env)]:=by rfl)(a:attributeBase o "index" X.env (eval o X.env)=eval o X.env:=by rfl)(d:((backTo g<|starEach [e] X.env).all (λx=>!x.1)&&(backToKw g<|keywordEach [] X.env).all (λx=>x.1.isSome)
   &&decide (([e]:List Expr).length+([]:List Keyword).length+(if ([]:List Keyword).isEmpty then 0 else 1)<30))=true:=by rfl)(b:(c.endLine==g.line)=true:=by rfl):PE X (.Call (.Attribute o "index" c) [e] [] g) (Pb X.K "list" (GK X.K) m<|xT l zO):=
 Dq lg tv PySem.F.type_list_index (HZ j) i (aa h ah f) a d b f rfl
def Inv.adopt(I:Inv X d J H s)(f:lS X d H a)(l:fD X.prog X.w (upd H a o) s.heap a o):Inv X d J (upd H a o) s:=by
 let[y,A,K,g,B,C]:=f;let j:∀{b u},H b=some u->b≠a:=λ{b u} e=>cI e y;show#[I.ok,I.os,I.bare,#[I.base.keep,I.base.slot,λb m q n t=>?_,I.base.there,λb w q=>?_,λb m u q=>?_,λb D q=>?_],I.loc,I.cell,?_,λx c e=>?_,λp r=>?_,λb u e=>?_,I.len]
 .let k:b≠a:=λz=>by
   subst z;let g||g:=g
   .show t g
   .show absurd (ce q) (Nat.not_lt.mpr g)
  rw[aA k];show I.base.free b m q n t
 .let:=I.base.zL b w q;rw[aA<|j this];show this
 .let:=I.base.vK b m u q;rw[aA<|j this];show this
 .let[i,h]:=I.base.zM b D q;show#[i,by rw[aA<|j h];show h]
 .rw[aA<|bJ A];show I.free
 .rw[aA<|B x c e];show I.l8 x c e
 .let[E,F,G]:=I.pin p r;show#[E,by rw[aA<|C p r];show F,G]
 .by_cases k:b=a
  .subst k;rw[ag]at e;cases e;show l
  .rw[aA k]at e;show(I.hok b u e).vJ (λc v _ q=>q) (λc q=>by rw[aA<|j q];show q) λc w q=>by rw[aA<|j q];show q
def MI(F:ka X.prog X.w X.K X.mg X.base CY k f g d n)(j:Binds X.K g d [])(m:eg (k+2) X.A)(I:Inv X b o H s)(r:Vals vs c)(h:n vs H Q E0):
  wpAny (model X.prog X.w) X.A.in1.in1 (PySem.call (.ref f) c) (EP X b o Q) E s:=by
 let l:c.length=d.length:=by rw[<-r.length];show F.len _ _ _ _ h
 show xb (codeAny_mono (F.run X.A.in1.in1 X.stack s H #[c,[]] c vs Q E0 (eg.in1<|eg.in1 m) I.LD.in1.in1 (by let:=j s c I.Bz (by rw[nQ];show l);rw[nQ]at this;show this) r h) λr p a=>?_)
 cases r with
 |error e=>show a.elim
 |ok i=>
  cases i with
  |ret u=>show I.after a
  |next=>show False.elim a
  |brk=>show False.elim a
  |cont=>show False.elim a
def GL(I:Inv X g J H s):∀{c:List V} {f:List Value} {z:List Pt},Vals c f->Paired (λv p=>IsT X.K H v<|oU p) c z->∃b:List Value,KatTups s.heap f b/\b.length=f.length/\∀v∈b,∃i t,v=Value.int i t
 |[],_,[],.nil,.nil=>#[[],trivial,0,λv d=>by cases d]
 |_::_,_,_::_,.cons r t,.cons q p=>by
  let[b,j,k,l]:=GL I t p;let[a,0,m]:=q;cases r
  let[y,D,B,_]:=I.tuple m;let[o,x,u,n,w]:=B;cases D with
  |cons C G=>
   rename_i F A E h;let[t1,0]:=C;show#[_::b,KatTups.cons x u w rfl j,by simp[k],λv d=>?_]
   let e||e:=aB.mp d
   .subst e;show#[_,1]
   .show l v e
def QI(I:Inv X L σ H s)(h:IsT X.K H v (oU p))(R:IsT X.K H Z (oU q))(r:RelV v u)(U:RelV Z Y)(k:Q (dg (oU p)<|oU q) s):wpAny (model M w) A (keyLt' (tuples' true) u Y) Q E s:=by
 let[a,0,S]:=h;let[b,0,T]:=R;cases r
 cases U
 let[D,K,[o1,n,_,n1,i],_]:=I.tuple S;let[F,e,[o2,o,_,n2,l],_]:=I.tuple T;let N:=K.length;let O:=e.length;simp only[oU,bm,iP,aY,n4]at N O;show kat_lt n i o l ?_;let P:decide (D.toArray.size<F.toArray.size)=false:=bE<|by simp;lk
 rw[P];show Ca _ _ [[p.y],[p.x]] [[q.y],[q.x]] 0 rfl (by simp;lk) (by simp;lk) (λj c d f g=>?_) k
 let m:j<2:=by grind
 let gg:∀(z:Int×Int),(match j,m with|0,_=>True|1,_=>True):=λ_=>by
  match j,m with
  |0,_=>trivial
  |1,_=>trivial
 match j,m with
 |0,_=>
  obtain⟨x,B,G⟩:=K.get (i:=0) rfl;let[y,C,J]:=e.get (i:=0) rfl;rw[B]at f;rw[C]at g;cases f
  cases g
  let[t,0]:=G;let[W,0]:=J;show Kc.int _ _ _ _ _
 |1,_=>
  obtain⟨x,B,G⟩:=K.get (i:=1) rfl;let[y,C,J]:=e.get (i:=1) rfl;rw[B]at f;rw[C]at g;cases f
  cases g
  let[t,0]:=G;let[W,0]:=J;show Kc.int _ _ _ _ _
def CZ(a:List Pt)(i:Nat):List Int:=oU<|a.getD i #[(0),(0)]
def KI(h:a[i]?=some p):CZ a i=oU p:=by unfold CZ;rw[bh,h];rfl
section
variable{X:Cx}{E:Value->Shared->Prop}
def OX{N:List (Addr×Obj)}{σ:St}{H:Hp}{s:Shared}{a y:Addr}{d:List Value}{f:Array Value}{F:List V}{g:List Pt}{e R:Nat}{P:PySem.Fin->Shared->Prop}(II:Inv X N σ H s)(hka:y≠a)(gK:s.heap.get? y=some (seqObj "list" f e))(gA:s.heap.get? a=some (seqObj "list" #[] R))(L:Vals F f.toList)(pr:Paired (λv p=>IsT X.K H v<|oU p) F g)(hl:d.length=g.length)(h0:0<d.length)(h64:d.length<64)
  (h:∀p:Array Nat,p.Perm (List.toArray<|List.range d.length)->p.size=d.length->cp (rank d.length<|CZ g) p d.length->∀Y tk c,(∀b o,b≠y->b≠a->s.heap.get? b=some o->Y.get? b=some o)->Y.get? a=some (seqObj "list" (List.toArray (p.toList.map λi=>d.getD i Value.none)) c)->P (.done<|.ret .none) {s with heap:=Y,toks:=tk}):
  wpAny (model X.prog X.w) X.A.in1.in1 (ksk_end a false d.toArray R (.ref y) f) P E s:=by
 let hL:d.length<=sizeLine:=by rw[gV];lk
 let x:f.toList.length=d.length:=by rw[<-L.length,pr.length,hl]
 let W:f.size=d.length:=by rw[<-x,aO]
 let Q:f.zip d.toArray=f.toList.toArray.zip d.toArray:=by rw[R9]
 have tail:∀(st:SortSt) (p:Array Nat),p.Perm (List.toArray<|List.range d.length)->p.size=d.length->cp (rank d.length<|CZ g) p d.length->(arrOf st).map (·.2)=List.toArray (p.toList.map λi=>d.getD i Value.none)->failedOf st=none->
   wpAny (model X.prog X.w) X.A.in1.in1 (ksk_tail a false R (.ref y) st) P E s:=by
  intro st p p1 p2 p3 J hf;unfold ksk_tail;rw[J];show ai<|gr gK rfl ?_ (by rw[W];show hL)<|cH _
  let O:=dn s.heap y (Obj.mapSeq λ_=>(#[]:Array Value));let D:(s.heap.update y (Obj.mapSeq λ_=>(#[]:Array Value))).get? a=some (seqObj "list" #[] R):=(O.2 a<|bJ hka).trans gA;show ai<|gk ?_;show ai<|qt D rfl ?_;simp only[ck,fI];show ai<|gr D rfl ?_ (cH _)<|by rw[aQ,ac,aO,p2];show Bn hL
  let sb2:=dn (s.heap.update y (Obj.mapSeq λ_=>(#[]:Array Value))) a (Obj.mapSeq λ_=>List.toArray (p.toList.map λi=>d.getD i Value.none));let[U,hc2]:∃U,((s.heap.update y (Obj.mapSeq λ_=>(#[]:Array Value))).update a (Obj.mapSeq λ_=>List.toArray (p.toList.map λi=>d.getD i Value.none))).get? a=some (seqObj "list" (List.toArray (p.toList.map λi=>d.getD i Value.none)) U):=#[_,gt D λ_=>List.toArray (p.toList.map λi=>d.getD i Value.none)];rw[hf];simp only[me,ck,fI];show aj<|h p p1 p2 p3 _ s.toks U (λb o h1 B q=>(sb2.2 b B).trans<|(O.2 b h1).trans q) hc2
 unfold ksk_end;simp only[ck,fI];by_cases B:d.toArray.size<2
 .rw[aH B,aH B];let m:d.length=1:=by simp at B;lk
  show ai<|aj ?_;show ai<|aj ?_;show tail _ [0].toArray ?_ ?_ (λi j hij hj=>?_) ?_ rfl
  .rw[m];show tQ _
  .rw[m];rfl
  .grind
  .let[u,0]:∃v,d=[v]:=List.length_eq_one_iff.mp m;let[kk,hkk]:∃v,f.toList=[v]:=List.length_eq_one_iff.mp<|by rw[x];rfl
   change(f.zip<|List.toArray [u]).map (·.2)=_;rw[Q,hkk];apply Array.toList_inj.mp;simp
 .rw[az B,az B];let Z:2<=d.length:=by simp at B;lk
  let[fs,f1,f2,f3]:=GL II L pr;let kk:wpAny (model X.prog X.w) X.A.in1.in1 (keyKind' f) (λT A=>T=tuples' true/\A=s) E s:=by
   let:=kat_kind (M:=model X.prog X.w) (A:=X.A.in1.in1) (E:=E) f1 om (λv L=>by let[i,t,0]:=f3 v L;show .of_pure rfl) rfl (Q:=λT A=>T=tuples' true/\A=s) #[0,0]
   show this
  show ai (ew kk (λT A hz=>?_) λ_ _ z=>z);let[0,0]:=hz;let G:∀i,i<d.length->∃v u p,F[i]?=some v/\f.toList[i]?=some u/\g[i]?=some p/\RelV v u/\IsT X.K H v (oU p):=λi S=>by
   let I:i<g.length:=om;let[v,M,rx]:=im pr<|ak I;let[u,hu,ru]:=L.get M;show#[v,u,_,M,hu,ak I,ru,rx]
  let K:(kas_sort d.length).kasWp (PySem.W.kas_ask X.prog X.w X.A.in1.in1 (tuples' true) f.toList) (λp l=>p=ev (j5<|rank d.length<|CZ g) (kas_sort d.length)/\l=A) A:=
   Ok.wp (S:=λl=>l=A) (lt:=j5<|rank d.length<|CZ g) (λi j C l S hj e k=>by
    subst e;let[v,u,p,q1,q2,q3,q4,q5]:=G i S;let[v',u',p',r1,r2,r3,r4,r5]:=G j hj;let g1:f.toList.getD i Value.none=u:=by grind
    let g2:f.toList.getD j Value.none=u':=by grind
    change wpAny _ _ (keyLt' (tuples' true) (f.toList.getD i Value.none)<|f.toList.getD j Value.none) _ _ _;rw[g1,g2];show QI II q5 r5 q4 r4 ?_;let rk:=xk (F:=CZ g) (m:=2) (λi S=>rfl) S hj;let:=k _ rfl;let w:C (decide<|rank d.length (CZ g) i<rank d.length (CZ g) j) l:=this;rw[rk,KI q3,KI r3]at w;show w) _ _ _ (Gq om) rfl λl e=>#[0,e]
  show ai (ew (E':=E) (Q:=λr l=>l=A/\arrOf r.2=(ev (j5<|rank d.length<|CZ g)<|kas_sort d.length).map (kas_item<|f.toList.toArray.zip d.toArray)/\failedOf r.2=none) ?run ?_ λ_ _ e=>e)
  case run=>
   show PySem.W.kat_run (Q:=λn l=>l=A/\arrOf n=(ev (j5<|rank d.length<|CZ g)<|kas_sort d.length).map (kas_item<|f.toList.toArray.zip d.toArray)/\failedOf n=none) x Z h64 (λp n l a1 a2 a3 a4=>by let[0,e]:=a4;show#[e,a2,a3]) K
  ext⟨⟨⟩,n⟩ l ⟨rfl,har,hf⟩;let[q1,q2,q3]:=Go (rank d.length<|CZ g) d.length om;show tail n _ q1 q2 q3 (PySem.W.kat_snds x har) hf
end
def MJ{X:Cx}{a:List (Addr×Obj)}{j:List (Option V)}{H:Hp}{s:Shared}{i:Heap}{x:Nat}{ch:List Addr}(I:Inv X a j H s)(k:∀b o,b∉ch->s.heap.get? b=some o->i.get? b=some o)(f:∀b∈ch,lS X a H b):Inv X a j H {s with heap:=i,toks:=x}:=by
 let g:∀b u,H b=some u->b∉ch:=λb u e z=>by
  let:=(f b z).1;rw[e]at this;cases this
 show I.step (g':=s.gens) (d':=s.drawn) (ch:=ch) (λb h=>#[(f b h).2.2.2.1,(f b h).2.1,(f b h).2.2.2.2.1,(f b h).2.2.2.2.2]) (λb o _ _ d e _=>k b o d e) (λb o _ _ d e _=>#[o.slots,k b o d e]) (λ_ _ _ _ n=>n)
  (λb o d e=>#[o,k b o d e]) (λ_ _ e=>e) (λ_ _ _ e=>e) (λb y e=>#[#[],by rw[e];simp]) (λm t=>?_) (λb u e=>?_) I.bare
 .let[o,p,l,w,r]:=t;show#[o,p,l,k _ o (λz=>(f _ z).2.1 rfl) w,r]
 .show(I.hok b u e).vJ (λc v d q=>k c v ?_ q) (λ_ q=>q) λ_ _ q=>q;let z||z:=d
  .rw[z];show g b u e
  .show g c _ z
section
variable{X:Cx}{E:Value->Shared->Prop}
def MK{k:Nat}{f:Addr}{fd:FuncData}{d:List (Addr×Obj)}{U:St}{H:Hp}{s:Shared}{a g:Addr}{x:List Value}{xs:List V}{l:List Pt}{R:Nat}{P:PySem.Fin->Shared->Prop}(F:ka X.prog X.w X.K X.mg X.base CY k f fd ["point"] (d8 X.K))(A:Binds X.K fd ["point"] [])(hr:eg (k+2) X.A)
  (II:Inv X d U H s) (L:g≠a) (gK:s.heap.get? g=some (seqObj "list" #[] 0)) (gA:s.heap.get? a=some (seqObj "list" #[] R)) (fp:∀b∈[a,g],lS X d H b) (rv:Vals xs x) (pr:Paired (eF X.K H) xs l) (h0:0<x.length) (Z:x.length<64)
  (h:∀p:Array Nat,p.Perm (List.toArray<|List.range x.length)->p.size=x.length->cp (rank x.length<|CZ l) p x.length->∀B r c,Inv X d U r B->am H r->lS X d r a->B.heap.get? a=some (seqObj "list" (List.toArray (p.toList.map λi=>x.getD i Value.none)) c)->P (.done<|.ret .none) B):
  wpAny (model X.prog X.w) X.A.in1.in1 (ksk_rest a (.ref f) false x.toArray R<|.ref g) P E s:=by
 let hL:x.length<=sizeLine:=by rw[gV];lk
 let e1':=rv.length;let e2':=pr.length;unfold ksk_rest;show ai<|wpAny_rule ?_;rw[lq];show ai (ksk_fold (λi B=>∃(r:Hp) (t:Array Value) (e:Nat) (n:List V),Inv X d U r B/\am H r/\(∀b∈[a,g],lS X d r b)/\B.heap.get? g=some (seqObj "list" t e)/\B.heap.get? a=some (seqObj "list" #[] R)/\Vals n t.toList/\Paired (λv p=>IsT X.K r v<|oU p) n (l.take i)) x 0 s
  #[H,#[],(0),[],II,am.refl _,fp,gK,gA,.nil,by simp;show .nil] ?step ?done)
 case step=>
  ext j u B hu ⟨r,t,e,n,Q,T,m,y,C,S,G⟩;simp only[Nat.zero_add]at G|-;let hj:j<x.length:=(aJ.mp hu).1;let hjp:j<l.length:=om;let hx:l[j]?=some l[j]:=ak hjp;let[v,hv1,rp]:=im pr hx;let[u',M,ru]:=rv.get hv1;rw[hu]at M;cases M
  let hz:t.size<=x.length:=by
   let h1:n.length=t.toList.length:=S.length;let h2:n.length=(l.take j).length:=G.length;let h3:(l.take j).length=min j l.length:=cE;let h4:t.toList.length=t.size:=aO;rw[h3]at h2;let h5:t.size=min j l.length:=by rw[<-h4,<-h1,h2]
   rw[h5];lk
  let ho:∀b∈[a,g],∃o,B.heap.get? b=some o/\∀v,o.data≠.cell v:=λb A=>by
   simp only[aB,cA,k8]at A;let e||e:=A
   .subst e;show#[_,C,λv z=>by cases z]
   .subst e;show#[_,y,λv z=>by cases z]
  let Ip:=Q.pinned m ho;show ai<|gQ (ew (MI F A hr Ip (vs:=[v]) (.cons ru .nil) (E:=λ_ _=>False) (Q:=λv' D=>am r D/\IsT X.K D v' (oU l[j])) #[v,l[j],0,eF.mon _ _ _ _ (am.ts T) rp,λr v' B r'=>#[B,r']]) (λw O hw=>?_) λ_ _ z=>z.elim);let[v2,D,I,rw2,N,t2]:=hw;let Y:O.heap.get? a=some (seqObj "list" #[] R):=(I.pin (a,_)<|aD _<|aD _<|dB SX C).1
  let K:O.heap.get? g=some (seqObj "list" t e):=(I.pin (g,_)<|aD _<|aD _<|dB SX y).1
  let nA:D a=none:=(I.pin (a,_)<|aD _<|aD _<|dB SX C).2.1
  let nK:D g=none:=(I.pin (g,_)<|aD _<|aD _<|dB SX y).2.1
  let I3:=I.lE;let J:∀b∈[a,g],lS X d D b:=λb A=>by
   show#[?_,(m b A).2];simp only[aB,cA,k8]at A;let e||e:=A
   .rw[e];show nA
   .rw[e];show nK
  let[g0,g1,g2,g3,g4,g5]:=J g<|by simp
  let sb:=dn O.heap g<|Obj.mapSeq (·.push w);let[W,hc2]:∃W,(O.heap.update g<|Obj.mapSeq (·.push w)).get? g=some (seqObj "list" (t.push w) W):=#[_,gt K (·.push w)];dsimp only;show ai<|gr K rfl ?_ om<|aL (iK<|oy ..) om;let ek:l.take (j+1)=l.take j++[l[j]]:=by rw[List.take_add_one,hx];rfl
  let ea:(t.push w).toList=t.toList++[w]:=by simp
  show aj #[0,D,t.push w,W,n++[v2],I3.turned (t':=O.toks) (λb o A e=>(sb.2 b A).trans e) g0 g1 g3 g4 g5,T.trans N,J,hc2,(sb.2 a<|bJ L).trans Y,by rw[ea];show S.append<|.cons rw2 .nil,?_]
  rw[ek];show jj (G.mono λv p q=>q.same N) t2
 case done=>
  ext B ⟨r,t,e,n,Q,T,m,y,C,S,G⟩;let et:l.take (0+x.length)=l:=vH om;rw[et]at G;show ai<|listItems_at y rfl ?_;show OX Q L y C S G om h0 Z λp p1 p2 p3 h' tk c kk ga=>?_;let[g0,g1,g2,g3,g4,g5]:=m a<|by simp
  let[q0,q1,q2,q3,q4,q5]:=m g<|by simp
  let I4:Inv X d U r {B with heap:=h',toks:=tk}:=MJ (ch:=[a,g]) Q (λb o A e=>kk b o (λz=>A<|by simp[z]) (λz=>A<|by simp[z]) e) m
  show h p p1 p2 p3 _ r c I4 T (m a<|by simp) ga
def OY(K:Frag)(h:TA):TE:=λj H Q=>h j H λi c=>∃(l:Addr) (f:List V) (d:List Pt),i=[.ref l]/\cc K c l f/\Paired (eF K c) f d/\0<d.length/\d.length<64/\
 ∀(b:Hp) (a:Addr) (g:List V) (e:List Pt),am c b->c a=none->b a=some (.lst g)->Paired (eF K b) g e->e.Perm d->e.Pairwise (λp q=>dg (oU q) (oU p)=false)->Q (.ref a) b
def FF(D:Df X.prog X.w X.K X.mg X.base k "low_then_left" ["point"] (d8 X.K))(hr:eg j X.A)(ha:PA X [e] ta)(hg:Gl X "sorted")(hm:X.mg "sorted"=none)(w:k+2<=j:=by decide)(Z:Gl X "low_then_left":=by rfl)(hs:backTo A (starEach [e] X.env)=(false,eval e X.env)::backTo A (starEach [] X.env):=by rfl)(hpl:(backTo A<|starEach [e] X.env).any (·.1)=false:=by rfl):
  PE X (.Call (.Name "sorted" p) [e] [#[some "key",.Name "low_then_left" g,kp]] A) (OY X.K ta):=by
 intro n s σ H Q I h;let[f,fd,F,hmf,kp',b]:=D.ex;show dU<|ja I hg hm boot_sorted ?_ de de;show callWith_kw (dJ (ha A n s σ H _ I h) λus a #[vs,T,G,r1,q1]=>kws_cons<|nZ G Z hmf (kws_nil ?_) de) hs hpl;let[l,S,J,ex,hl,pr,h0,h64,q]:=q1;subst ex;rw[Vals.uc r1];let[d,rv,pl,hz]:=G.list hl;let W:=rv.length;let Y:=pr.length;let y:d.length<=sizeLine:=by rw[<-W];show hz
 change wpAny _ _ (PySem.call (.builtin "sorted") [.ref l] [(Str.ofString "key",.ref f)]) _ _ a;show call_function_entry_kw kind_sorted plain_sorted entry_sorted (PyProof.Rows.ksk_s1 _ _) ?_;unfold Builtin.«sorted»;show ai (m:=checkCount "sorted" 1 1 _)<|aj ?_;show ai<|collect_list pl.isList ?_ y;show ai<|gM ?_ y;let x:((a.heap.push<|seqObj "list" #[] 0).update ⇑a<|Obj.mapSeq (·++d.toArray)).objs.size=⇑a+1:=by rw[tr,kw]
 let m:(((a.heap.push<|seqObj "list" #[] 0).update ⇑a<|Obj.mapSeq (·++d.toArray)).push<|seqObj "list" d.toArray 0).get? (⇑a+1)=some (seqObj "list" d.toArray 0):=by
  rw[<-x];show bx _ rfl
 let B:∀b o,a.heap.get? b=some o->(((a.heap.push<|seqObj "list" #[] 0).update ⇑a<|Obj.mapSeq (·++d.toArray)).push<|seqObj "list" d.toArray 0).get? b=some o:=λb o q=>by
  let C:b<⇑a:=ce q;rw[Heap.get?_push_ne _ _ _<|by rw[x];show bN<|iT C,Heap.get?_update_ne _ _ _ _<|bN C,Heap.get?_push_ne _ _ _<|bN C]
  show q
 let P:(((a.heap.push<|seqObj "list" #[] 0).update ⇑a<|Obj.mapSeq (·++d.toArray)).push<|seqObj "list" d.toArray 0).objs.size=⇑a+2:=by rw[kw,x]
 change wpAny _ _ _ _ _ {a with heap:=((a.heap.push<|seqObj "list" #[] 0).update ⇑a<|Obj.mapSeq (·++d.toArray)).push<|seqObj "list" d.toArray 0};rw[x];generalize ((a.heap.push<|seqObj "list" #[] 0).update ⇑a<|Obj.mapSeq (·++d.toArray)).push (seqObj "list" d.toArray 0)=r at m B P;show ai (dR<|wpAny_call_entry_kw slot_list_sort #[_,m,0] Lk ?body (PyProof.Rows.ksk_l1 _ _))
 case body=>
  change wpAny (model X.prog X.w) X.A.in1.in1 (Builtin.«list.sort» #[[.ref (⇑a+1)],[(Str.ofString "key",.ref f)]]) _ _ _;rw[PyProof.Rows.ksk_t1];unfold PyProof.Rows.ksk_tree;show ai<|listItems_at m rfl ?_;show ai<|gr m rfl ?_ (by rw[aQ];show y)<|cH _
  let[U,N]:∃U,(r.update (⇑a+1) (Obj.mapSeq λ_=>#[])).get? (⇑a+1)=some (seqObj "list" #[] U):=#[_,gt m λ_=>#[]];show ai<|qt N rfl ?_;show ai<|wQ ?_<|by change d.length<=_;show y
  show ai<|gM ?_<|cH _;show dR ?_;let sb:=dn r (⇑a+1) (Obj.mapSeq λ_=>(#[]:Array Value));let szu:(r.update (⇑a+1) (Obj.mapSeq λ_=>(#[]:Array Value))).objs.size=⇑a+2:=by rw[tr,P]
  let R:((r.update (⇑a+1) (Obj.mapSeq λ_=>(#[]:Array Value))).push<|seqObj "tuple" d.toArray 0).objs.size=⇑a+3:=by rw[kw,szu]
  let gK:(((r.update (⇑a+1) (Obj.mapSeq λ_=>(#[]:Array Value))).push<|seqObj "tuple" d.toArray 0).push<|seqObj "list" #[] 0).get? (⇑a+3)=some (seqObj "list" #[] 0):=by rw[<-R];show bx _ rfl
  let gA:(((r.update (⇑a+1) (Obj.mapSeq λ_=>(#[]:Array Value))).push<|seqObj "tuple" d.toArray 0).push<|seqObj "list" #[] 0).get? (⇑a+1)=some (seqObj "list" #[] U):=br _<|br _ N;let kk:∀b o,a.heap.get? b=some o->(((r.update (⇑a+1) (Obj.mapSeq λ_=>(#[]:Array Value))).push<|seqObj "tuple" d.toArray 0).push<|seqObj "list" #[] 0).get? b=some o:=λb o q=>
   br _ (br _<|(sb.2 b<|bN<|iT<|ce q).trans<|B b o q)
  change wpAny (model X.prog X.w) X.A.in1.in1 (PyProof.Rows.ksk_rest (⇑a+1) (.ref f) false d.toArray _<|.ref ((r.update (⇑a+1) (Obj.mapSeq λ_=>(#[]:Array Value))).push<|seqObj "tuple" d.toArray 0).objs.size) _ _ {a with heap:=((r.update (⇑a+1) (Obj.mapSeq λ_=>(#[]:Array Value))).push<|seqObj "tuple" d.toArray 0).push<|seqObj "list" #[] 0};rw[R];let II:Inv X n σ T {a with heap:=((r.update (⇑a+1) (Obj.mapSeq λ_=>(#[]:Array Value))).push<|seqObj "tuple" d.toArray 0).push<|seqObj "list" #[] 0}:=G.kept (t':=a.toks) kk;let fp:∀b∈[⇑a+1,⇑a+3],lS X n T b:=λb hb=>by
   let L:⇑a<=b:=by
    simp only[aB,cA,k8]at hb;let e||e:=hb
    .rw[e];show qu _ _
    .rw[e];show qu _ _
   show G.BC L<|G.hok.fresh L
  let fr:T (⇑a+1)=none:=G.hok.fresh<|qu _ _;let wl:S.length=d.length:=W;show MK F b (hr.mono w) II (qZ<|Nat.add_lt_add_left de _) gK gA fp rv pr om om λp p1 g p3 s' H' c I' sm K ga=>?_;let pm:p.toList.Perm (List.range d.length):=by
   let:=Array.perm_iff_toList_perm.mp p1;simpa using this
  let lt':∀i∈p.toList,i<S.length:=λi t=>by
   let:=cB.mp<|pm.mem_iff.mp t;lk
  let hv:=rG rv (d:=.ic) (d':=Value.none) p.toList lt';let M:(p.toList.map λi=>S.getD i .ic).length<=sizeLine:=by
   rw[ac,pm.length_eq,cu];lk
  let I4:=Inv.adopt (o:=.lst (p.toList.map λi=>S.getD i .ic)) I' K #[M,_,c,hv,ga];let O:am T (upd H' (⇑a+1)<|.lst (p.toList.map λi=>S.getD i .ic)):=sm.trans<|am.new K.1;show#[1,aj #[1,.ref _,_,I4,0,q _ _ _ (p.toList.map λi=>J.getD i #[(0),(0)]) O fr ag ?_ ?_ ?_]]
  .show(@yo _ _ #[#[(0),(0)]] _ _ _ .ic #[(0),(0)] pr p.toList lt').mono λv p z=>eF.mon _ _ _ _ (am.ts O) z
  .show yp ?_;rw[<-Y,W];show pm
  .rw[jL];intro i j t w hij;rw[ac,aO,g]at t w;rw[Np,Np];let u:=p3 i j om w;let gi:p.getD i 0=p.toList[i]'(by rw[aO,g];show t):=by simp[nT,g,t]
   let gj:p.getD j 0=p.toList[j]'(by rw[aO,g];show w):=by simp[nT,g,w]
   let u':rank d.length (CZ J) (p.toList[i]'(by rw[aO,g];show t))<=rank d.length (CZ J) (p.toList[j]'(by rw[aO,g];show w)):=by
    let:=u;change _<=_;rw[<-gi,<-gj];show this
   let b1:p.toList[i]'(by rw[aO,g];show t)<d.length:=by let:=lt' _ (lP (l:=p.toList)<|by rw[aO,g];show t);lk
   let b2:p.toList[j]'(by rw[aO,g];show w)<d.length:=by let:=lt' _ (lP (l:=p.toList)<|by rw[aO,g];show w);lk
   let rk:=xk (F:=CZ J) (m:=2) (λi t=>rfl) b2 b1;change dg (CZ J _) (CZ J _)=false;rw[<-rk];show bE om
end
def Bh(a b:Pt):below a b=dg (oU a) (oU b):=by
 simp[below,oU,dg]
def GM:below a b=false↔b.y<a.y\/(a.y=b.y/\b.x<=a.x):=by
 grind [below]
def QJ:below a b=true↔a.y<b.y\/(a.y=b.y/\a.x<b.x):=by
 grind [below]
def KJ(h:below a b=false)(d:below b a=false):a=b:=by
 rw[GM]at h d;let[e,f]:=a;let[g,c]:=b;simp only at h d;rw[show e=g by lk,show f=c by lk]
def D_:∀(r:List Pt) (p:Pt),(r.foldl (λm q=>if below q m=true then q else m) p∈p::r)/\∀x∈p::r,below x (r.foldl (λm q=>if below q m=true then q else m) p)=false
 |[],p=>by
  show#[aP.mpr rfl,λx a=>?_];rw[aP.mp a];rw[GM];show .inr #[0,lh _]
 |q::r,p=>by
  rw[f6];let[c,b]:=D_ r (if below q p=true then q else p);generalize r.foldl (λm q=>if below q m=true then q else m) (if below q p=true then q else p)=m at c b;by_cases d:below q p=true
  .rw[aH d]at c b;show#[aC _ c,λx a=>?_];let 0||a:=aB.mp a
   .let:=b q<|aN ..;rw[GM]at this|-;rw[QJ]at d;lk
   .show b x a
  .rw[az d]at c b;show#[?_,λx a=>?_]
   .grind
   .let 0||a:=aB.mp a
    .grind
    .let 0||a:=aB.mp a
     .let:=b p<|aN ..;let e:below x p=false:=by simpa using d
      rw[GM]at this e|-;lk
     .grind
def Ea(b:KH a a.length i)(h:a[i]?=some q):tY a=q:=by
 match a,b,h with
 |[],b,h=>simp at h
 |p::r,b,h=>
  obtain⟨c,d⟩:=D_ r p;change r.foldl _ p=q;generalize r.foldl (λm q=>if below q m=true then q else m) p=m at c d;show KJ ?_<|d q<|aX h;let[j,f,e]:=iA.mp c;rw[Bh];show(b.min j m q f (by rw[ak f,e]) h).1
def KL(h:j.Perm [p,q])(k:j.Pairwise (λp q=>dg (oU q) (oU p)=false)):j=inForm [p,q]:=by
 let l:=h.length_eq
 match j,l with
 |[a,b],_=>
  have c:below b a=false:=by
   rw[Bh];simp at k;show k
  change[a,b]=if below q p=true then[q,p]else[p,q];let d:(a=p/\b=q)\/(a=q/\b=p):=by
   let e||e:=aB.mp (h.mem_iff.mp<|aN ..)
   .simp_all
   .let e:=aP.mp e;subst e;let:=List.Perm.cons_inv<|h.trans<|List.Perm.swap _ _ _;show .inr #[0,List.singleton_perm_singleton.mp this]
  let[f,g]||[f,g]:=d
  .subst f g;rw[c];rfl
  .subst f g;by_cases i:below a b=true
   .rw[aH i]
   .rw[az i,KJ (by simpa using i) c]
def KM:∀{a:List c} {b:List d},Paired F a b->Paired F a.reverse b.reverse
 |_,_,.nil=>.nil
 |_,_,.cons r t=>by rw[h9,h9];show xj (KM t)<|.cons r .nil
def Cp:∀{a:List c} {b:List d} {i:Nat} {v:c},Paired F a b->a[i]?=some v->∃x,b[i]?=some x/\F v x
 |_,_,_,_,.nil,e=>by simp at e
 |_,_,0,_,.cons r _,e=>#[1,by simp at e;rw[<-e];show r]
 |_,_,i+1,_,.cons _ t,e=>by rw[iL]at e|-;show Cp t e
def yG(K:Frag):Sp:=λc H Q _=>∃(b:V) (a:List Pt),c=[b]/\Hr K H b a/\a≠[]/\a.length<=60/\KF (eF K) H Q (normal a)
def H_(T:Facts K mg CP CB):Df P w K mg base 4 "in_form" ["points"] (yG K):=by
 show T.Io.dx ["points","corners","start"] λf cdv A outer s H n Q E hr nd hu h=>?_;let[va,m,0,[pl,n,0,J,pr],X,hle,k]:=h;let t:=pr.length;let D:=SU.mpr X;rw[<-G2]at k;show#[_,(af (cF (ct xQ (bC (mL K) SY T.Bt.len boot_len<|aa (pv 0) ah) aI) (ao<|aM<|FF (vS T) hr (aa (pv 0) ah) SY T.Bt.sorted) bA)
  (af (aS 1 nd<|qb (Ql K) SY T.Bt.list boot_list<|aa (pv 0) ah)
  (af (cF (ct xQ (du (zZ T) hr<|aa (pv 1) ah) aI) (ao<|aS 1 nd<|Mj (aa (pv 1) ah) SY T.Bt.list SY T.Bt.reversed) bA)
  (af (aS 2 nd<|MH hr (pv 1)<|MG (vS T) hr (aa (pv 1) ah) SY T.Bt.min)
  (ao<|aM<|cat (Ld K (pv 1) (fT<|pv 2) iC)<|Ld K (pv 1) iC<|fT<|pv 2))))),?_]
 show#[1,pl,n,0,.inl J,_,1,0,1,cg (λt1=>?_) λt1=>?_]
 .let hl3:n.length<3:=by
   let:=aF t1;lk
  show#[1,pl,n,m,0,J,pr,D,om,λH' a ys g sm hn C Z pm pw=>k _ _ _ sm hn C ?_];let e:inForm m=g:=by
   match m,D,t with
   |[p],_,_=>
    rw[List.perm_singleton.mp pm];rfl
   |[p,q],_,_=>show(KL pm pw).symm
   |_::_::_::_,_,t=>simp at t;lk
  rw[e];show Z
 .let hl3:¬n.length<3:=by
   let:=cb t1;lk
  show#[1,pl,n,0,.inl J,λl hl=>?_];let s1:am H (upd H l<|.lst n):=am.new hl;let L:=pr.mono λv p z=>eF.mon _ _ _ _ (am.ts s1) z;have fin:∀(B:Hp) (lx:Addr) (u:List V) (g:List Pt) (q:Pt),am H B->B lx=some (.lst u)->Paired (eF K B) u g->g=turned m->tY g=q->∀a b,B a=none->(upd B a<|.lst<|u.drop<|g.idxOf q) b=none->
    NW (.ref a) (.ref b) (upd (upd B a<|.lst<|u.drop<|g.idxOf q) b<|.lst<|u.take<|g.idxOf q) Q:=by
   intro B lx u g q sm hx Z eq el a b C G;let s5:=am.new (o:=.lst<|u.drop<|g.idxOf q) C;let s6:=am.new (o:=.lst<|u.take<|g.idxOf q) G;let hle2:u.length<=60:=by
    rw[Z.length,eq];unfold turned;split
    .grind
    .show hle
   show#[a,b,_,1,0,s6 _ _ ag,ag,?_,λc hc=>k _ _ _ (((sm.trans s5).trans s6).trans<|am.new hc) ?_ ag ?_]
   .rw[fk,cE];show aL (show _<=100 by lk) de
   .cases hh:H c with
    |none=>rfl
    |some o=>
     let:=((sm.trans s5).trans s6) _ _ hh;rw[this]at hc;cases hc
   .let ei:inForm m=g.drop (g.idxOf q)++g.take (g.idxOf q):=by
     let h3:3<=m.length:=om
     match m,h3,eq with
     |x::y::z::r,_,eq=>
      show(turned _).drop _++(turned _).take _=_;rw[<-eq,el]
    rw[ei];let s7:=(s5.trans s6).trans<|am.new (o:=.lst<|u.drop (g.idxOf q)++u.take (g.idxOf q)) hc;show xj (B9 _ (Z.mono λv p z=>eF.mon _ _ _ _ (am.ts s7) z))<|B_ _ (Z.mono λv p z=>eF.mon _ _ _ _ (am.ts s7) z)
  show#[1,_,m,0,#[l,n,0,cc.of ag,L],X,om,λB U=>#[_,1,0,1,cg (λt2=>?_) λt2=>?_]]
  .show#[1,l,n,0,cc.of<|U _ _ ag,λS W=>?_];dsimp only[dQ];let N:Paired (eF K<|upd B S<|.lst n.reverse) n.reverse m.reverse:=KM (L.mono λv p z=>eF.mon _ _ _ _ (am.ts<|U.trans<|am.new W) z);let R:am H (upd B S<|.lst n.reverse):=(s1.trans U).trans<|am.new W;let et:turned m=m.reverse:=by grind [turned]
   rw[et]at fin;show#[1,?_];show#[Or.inl #[0,_,cc.of ag],1,S,_,1,cc.of ag,N,by(rw[gH];show D),λi v H2 F ev O=>?_]
   let d:=O _ _ ag;let j:=N.mono λv p z=>eF.mon _ _ _ _ (am.ts O) z;let[q,Y,rq]:=Cp j ev;show#[S,_,v,_,q,0,0,cc.of d,j,rq,aX Y,by(let:=N.length;simp at this|-;lk),?_]
   dsimp only[dQ];show#[3,S,1,cc.of d,λa C=>#[3,S,1,(am.new C).seq<|cc.of d,λb G=>?_]];rw[lw]at G|-;rw[B8];show fin _ _ _ _ _ (R.trans O) d j rfl (Ea F Y) a b C G
  .let et:turned m=m:=by unfold turned;rw[az<|cb t2]
   let I:=U _ _<|@ag H l (.lst n);let M:=L.mono λv p z=>eF.mon _ _ _ _ (am.ts U) z;let R:=s1.trans U;rw[et]at fin;show#[1,?_];show#[Or.inl #[0,_,cc.of I],1,l,_,1,cc.of I,M,D,λi v H2 F ev O=>?_];let d:=O _ _ I;let j:=M.mono λv p z=>eF.mon _ _ _ _ (am.ts O) z;let[q,Y,rq]:=Cp j ev;show#[l,_,v,_,q,0,0,cc.of d,j,rq,aX Y,by(let:=M.length;simp at this|-;lk),?_]
   show#[3,l,1,cc.of d,λa C=>#[3,l,1,(am.new C).seq<|cc.of d,λb G=>?_]];rw[lw]at G|-;rw[B8];show fin _ _ _ _ _ (R.trans O) d j rfl (Ea F Y) a b C G
section
variable{ta tb tc td:TE}
def GN(r i j:R2)(ta tb tc td:TE):TE:=λa H Q=>ta a H λx e=>tb a e λy f=>r x y f λz b=>∃k,z=.bl k/\
 (if k=true then tc a b λu g=>i y u g λm c=>∃d,m=.bl d/\(if d=true then td a c λl h=>j u l h Q else Q (.bl false) c)else Q (.bl false) b)
def Ia(ho:p_ X (compareOp C) r)(m:p_ X (compareOp j) r')(n:p_ X (compareOp l) r2)(ha:PE X a ta)(hb:PE X b tb)(hc:PE X c tc)(hd:PE X d td)(hm:lastMarks [C,j,l] [b,c,d]=false:=by with_unfolding_all rfl):PT X (.Compare a [C,j,l] [b,c,d] pos) (AQ<|GN r r' r2 ta tb tc td):=by
 intro f s g H Q I h;show isTrue_chain (dJ (ha f s g H _ I h) λv s1 #[x,J,O,U,q1]=>test_link (dJ (hb f s1 g J _ O q1) λu s2 #[y,K,P,A,q2]=>
  dJ (ho f s2 g K x y v u _ P U A q2) λw1 s3 #[z,p,t,W,k,e,D]=>?_)) hm
 subst e;cases W
 show dr ?_;cases k with
 |false=>
  let[k',i,o]:=D;cases i
  show ite_ff #[p,t,o]
 |true=>
  show ite_tt<|test_link (dJ (hc f s3 g p _ t D) λF s4 #[G,L,R,B,q4]=>dJ (m f s4 g L y G u F _ R A B q4) λw3 s5 #[z3,q,w,Y,k2,i,E]=>?_);subst i;cases Y
  show dr ?_;cases k2 with
  |false=>
   let[k',i,o]:=E;cases i
   show ite_ff #[q,w,o]
  |true=>
   show ite_tt<|test_last (dJ (hd f s5 g q _ w E) λw4 s6 #[z4,M,S,Z,q6]=>dJ (n f s6 g M G z4 F w4 _ S B Z q6) λw5 s7 #[z5,N,T,e7,k3,e8,q7]=>?_);subst e8;cases e7
   show dr #[N,T,q7]
end
structure Pj(P:Program)(w:World)(K:Frag)(mg:Str->Option Value)(base:Heap)(k:Nat)(C:Addr)(x:Str)(ps:List Str)(sp:Sp):Prop where
 ex:∃f fd,ka P w K mg base CY k f fd ps sp/\Mk K C f/\mg x=some (.ref C)/\Binds K fd ps []
def Sh(M:Pj X.prog X.w X.K X.mg X.base j C x u r)(q:eg k X.A)(h:PA X (e::a) t)(n:j+1<=k:=by decide)(l:Gl X x:=by rfl)(c:(x==("__debug__":Str))=false:=by decide)(i:starEach (e::a) X.env=(false,eval e X.env)::starEach a X.env:=by rfl)(d:(backTo g<|starEach a X.env).any (·.1)=false:=by rfl):
  PE X (.Call (.Name x p) (e::a) [] g) (F6 C r [] E0 t):=by
 let[f,s,F,m,o,b]:=M.ex;show LH m F (q.mono n) l o b .nil A2 h c i d
def RZ(M:Pj X.prog X.w X.K X.mg X.base j C x n i)(g:eg k X.A)(d:j+1<=k:=by decide)(c:Gl X x:=by rfl)(a:(x==("__debug__":Str))=false:=by decide):
  PE X (.Call (.Name x p) [] [] h) (F6 C i [] E0 zO):=by
 let[f,l,F,m,e,b]:=M.ex;show Jk m F (g.mono d) c e b .nil A2 a
structure Da(P:Program)(w:World)(K:Frag)(mg:Str->Option Value)(base:Heap)(k:Nat)(f:Addr)(ps:List Str)(sp:Sp):Prop where
 ex:∃fd,ka P w K mg base CY k f fd ps sp/\keepIn K (.ref f)=true/\Binds K fd ps []
def OZ(D:Addr->Sp->Prop)(e:TE)(t:TA):TE:=λb H Q=>e b H λx c=>∃f a,x=.ref f/\D f a/\t b c λg d=>a g d Q E0
def R0(E:List Str)(B:eg k X.A)(z:PE X d L)(v:PA X (e::c) t)(y:starEach (e::c) X.env=(false,eval e X.env)::starEach c X.env:=by rfl)(g:(backTo a<|starEach c X.env).any (·.1)=false:=by rfl)(C:eval (.Call d (e::c) [] a) X.env=(do callWith a (<-eval d X.env) [] (backTo a<|starEach (e::c) X.env) (backToKw a<|keywordEach [] X.env)):=by rfl):
  PE X (.Call d (e::c) [] a) (OZ (λf l=>Da X.prog X.w X.K X.mg X.base k f E l) L t):=by
 intro b s m H Q I h;show Call_ (dJ (z b s m H _ I h) λu K #[x,n,o,J,f,l,p,D,q]=>?_) C;subst p;let 0:u=Value.ref f:=J;let[O,F,A,w]:=D.ex;show zA I.ok.mod.Pa A (dJ (v a b K m n _ o q) λR P #[M,N,i,r,G]=>#[i.Bz,?_]) y g;let j:_:=G;rw[<-nQ M]at j;show BF F B w .nil A2 i r j
def KN(K:Frag)(j:PE X o l)(i:PE X e k)(f:starEach [e] X.env=[(false,eval e X.env)]:=by rfl)(a:attributeBase o "extend" X.env (eval o X.env)=eval o X.env:=by rfl)(d:((backTo g<|starEach [e] X.env).all (λx=>!x.1)&&(backToKw g<|keywordEach [] X.env).all (λx=>x.1.isSome)
   &&decide (([e]:List Expr).length+([]:List Keyword).length+(if ([]:List Keyword).isEmpty then 0 else 1)<30))=true:=by rfl)(b:(c.endLine==g.line)=true:=by rfl)(h:X.K=K:=by rfl):PE X (.Call (.Attribute o "extend" c) [e] [] g) (Pb X.K "list" (DI K) l<|xT k zO):=by
 subst h;show Dq lg rz ri Fg j (aa i ah f) a d b f rfl
def KO(P:Program)(w:World)(K:Frag)(d:Addr)(a:List (Key×Value)):Prop:=∀h:Heap,K.In h->h.DictOf (cX P w) d a
def QK(a:List (Key×Value))(c:TE):TE:=λd H Q=>c d H λy b=>∃k q,y=kV k/\valueAt a k=some (.ref q)/\Q (.ref q) b
def ML(o:X.mg x=some (.ref d))(n:KO X.prog X.w X.K d c)(m:PE X i ty)(r:N6 i)(l:Gl X x:=by rfl)(b:(x==("__debug__":Str))=false:=by decide):PE X (.Subscript (.Name x p) i u) (QK c ty):=by
 intro a s z H Q I h;show Gc PySem.F.slot_dict_getitem.lookup r<|nZ I l o (dJ (m a s z H _ I h) λA B #[y,g,e,w,k,q,j,t,v]=>?_) b;subst j;let f:=n _ e.Bz;show#[f.typeIs,wpAny_getItem_of (qI w) f.mapOf t #[.ref q,g,e.tok _,0,v]]
def K2(M:Md P w K d a j C "__init__" i k)(mk:makesIn K C=true)(h:keepIn K (.ref C)=true)(g:d x=some (.ref C)):Pj P w K d a j C x i k:=let #[f,e,F,c,b]:=M.ex;#[f,e,F,#[mk,c.at_,c.fn,h],g,b]
section
variable{K:Frag}
def cU:1<=sizeLine:=de
def Pk(h:n<=200000):n<=sizeLine:=aL h de
def dN(K:Frag):Sp:=λc H Q _=>∃(a:Addr) (b:List Int),c=[.ref a]/\H a=some (.lst<|b.map V.int)/\b.length<=100000/\nr H Q ((b.length:Int)::b)
def Ib(T:Facts K m o n):Df P w K m d 1 "as_list" ["numbers"] (dN K):=by
 show T.Iu.dx ["numbers"] λf j A b s H x Q E t v u h=>?_;let[a,i,0,e,r,k]:=h;show#[_,(ao<|aM<|cat (cR<|aa (bC (mL K) SY T.Bt.len boot_len<|aa (pv 0) ah) ah)<|pv 0),?_]
 show#[1,a,1,.inl<|cc.of e,cU,λp l=>?_];let c:am H (upd H p<|.lst [.int ((i.map V.int).length:Nat)]):=am.new l;show#[1,p,a,_,1,0,ag,c _ _ e,?_,λq g=>?_]
 .rw[ac];show Pk<|by change 1+i.length<=200000;lk
 .show k _ _ (c.trans<|am.new g) (c.free g) ?_;rw[ag,ac];rfl
def Eb(K:Frag):Rep (List Int):=λH v r=>∃b,v=.ref b/\(H b=some (.lst<|r.map V.int)\/gT K H b (r.map V.int))
def Eb.same(h:Eb K H v r)(s:am H a):Eb K a v r:=let #[b,e,q]:=h;#[b,e,q.elim (λq=>.inl<|s _ _ q) λq=>.inr<|am.ts s _ _ q]
def kW(K:Frag):Sp:=λd H Q _=>∃(a:Addr) (c:List V) (b:List (List Int)),d=[.ref a]/\cc K H a c/\Paired (Eb K H) c b/\b.flatten.length<=100000/\nr H Q b.flatten
def Ic(a:List (List Int))(i:Nat):(a.take i).flatten.length<=a.flatten.length:=by
 let:a.flatten=(a.take i).flatten++(a.drop i).flatten:=by rw[<-zv,wO]
 rw[this,aW];lk
def Ec(T:Facts K O U S):Df P w K O u 1 "flattened" ["rows"] (kW K):=by
 show T.Em.dx ["rows","numbers","row"] λf J A n s H Z Q E X C Y h=>?_;let[a,R,c,0,B,M,W,k]:=h;show#[_,(af (aS 1 C<|cR ah)
  (af (dZ cm rfl (oE K<|pv 0) (bF 2 C)
  (ao<|dL<|KN K (pv 1)<|pv 2))
  (ao<|aM<|pv 1))),?_]
 show zU #[de,λD l=>?_];let F:am H (upd H D<|.lst []):=am.new l;dsimp only[dQ];show Q5 #[1,a,0,#[_,F.seq B],?_];show dh (src_list (K:=K) (R:=λ_ v r=>Eb K H v r) (vs:=R) (xs:=c)) (λi g j=>(∃p,g=[some (.ref a),some<|.ref D,p])/\am H j/\j D=some (.lst<|(c.take i).flatten.map V.int))
  #[#[1],F,ag] (λi g j _ z=>#[z.2.1.seq B,M]) ?_ ?_
 .ext i r v g I t N ⟨⟨p,rfl⟩,o,e⟩ G ⟨b,rfl,L⟩;let d:=o.trans G;let x:=G _ _ e;let m:t b=some (.lst<|r.map V.int)\/gT K t b (r.map V.int):=L.elim (λq=>.inl<|d _ _ q) λq=>.inr<|am.ts d _ _ q;let y:(c.take<|i+1).flatten=(c.take i).flatten++r:=by rw[cM,N,zv];simp
  let lt:=Ic c<|i+1;rw[y,aW]at lt;show#[1,.inl #[0,_,cc.of x],1,D,b,_,1,0,x,m,?_,?_]
  .rw[ac,ac];show Pk om
  .show#[#[1],am.upd d l,?_];rw[ag,y,bw]
 .ext g I ⟨⟨p,rfl⟩,o,e⟩;rw[bK]at e;show#[1,k _ _ o l e]
def oa(K:Frag):Sp:=λd H Q _=>∃(a:Addr) (c:List V) (b:List (List Int)),d=[.ref a]/\H a=some (.lst c)/\Paired (Eb K H) c b/\b.flatten.length<=100000/\nr H Q ((b.length:Int)::b.flatten)
def Ie(T:Facts K y B z):Df P w K y j 2 "as_rows" ["rows"] (oa K):=by
 show T.Iv.dx ["rows"] λf t A g s H I Q E x G F h=>?_;let[a,r,c,0,l,m,v,k]:=h;show#[_,(ao<|aM<|cat (cR<|aa (bC (mL K) SY T.Bt.len boot_len<|aa (pv 0) ah) ah)<|du (Ec T) x<|aa (pv 0) ah),?_]
 show#[1,a,1,.inl<|cc.of l,cU,λp e=>?_];let i:am H (upd H p<|.lst [.int (r.length:Nat)]):=am.new e;show#[1,a,r,c,0,cc.of<|i _ _ l,m.mono λ_ _ q=>q.same i,v,λC b o D u=>?_];let d:=i.trans o;show#[p,b,_,1,0,o _ _ ag,u,?_,λq n=>?_]
 .rw[ac];show Pk<|by change 1+c.flatten.length<=200000;lk
 .show k _ _ (d.trans<|am.new n) (d.free n) ?_;rw[ag,m.length];rfl
def qV(x:Nat×List Nat):List Int:=(x.1:Int)::(x.2.length:Int)::zs x.2
def KP(K:Frag)(D:Addr):Rep (List Int):=λH v r=>∃b,v=.ref b/\H b=some (.lst<|r.map V.int)/\b≠D
def KP.mono:∀D H f v x e,H D=some (.lst e)->(∀b o,b≠D->H b=some o->f b=some o)->KP K D H v x->KP K D f v x:=λD H f v x e h k #[b,a,c,d]=>#[b,a,k _ _ d c,d]
def mz(K:Frag):Sp:=λd H Q _=>∃(a:Addr) (c:List V) (b:List (Nat×List Nat)),d=[.ref a]/\H a=some (.lst c)/\Paired (Ph H) c b/\b.length<1000/\(∀x∈b,x.2.length<=1000)/\((b.map qV).flatten.length<=100000)/\nr H Q ((b.length:Int)::(b.map qV).flatten)
def FG(j:Facts K mg CP CB):Df P w K mg G 3 "as_lists" ["headed"] (mz K):=by
 show j.FQ.dx ["headed","head","numbers"] λf N A C s H vs Q E L B hu h=>?_;let[a,us,M,0,I,X,hl,n,o,k]:=h;show#[_,(ao<|aM<|du (Ie j) L<|aa (ke rfl B (oE K<|pv 0) (cZ (own:=[("head",1),("numbers",2)])<|by kernel_rfl) (λ_ _ _ _ _=>(Le K 2<|dC (bF 1 B)<|dC (bF 2 B) jZ)) (λ_ _ _ _ _=>g_) λ_ _ _ _ _=>(cat (cR<|aa (pv 1) ah)<|du (Ib j) L<|aa (pv 2) ah)) ah),?_]
 show rA<|Qi<|vj<|vM ?_;show#[1,a,0,#[_,cc.of I],?_];show MB (K:=K) (T:=KP K) (src_list (K:=K) (R:=λ_ v x=>Ph H v x) (vs:=us) (xs:=M)) KP.mono qV om (λH' s=>#[cc.of (s _ _ I),X]) ?_ ?_
 .ext x v i D c Q1 Z d U W ⟨t,l,rfl,Y,m⟩ k1;show#[t,1,gT.of<|d _ _ Y,0,_,1,_,1,0,0,?_];show#[1,cU,λp u=>?_];let g:am i (upd i p<|.lst [.int (x.1:Int)]):=am.new u;let hx2:=n x Z;show#[1,l,zs x.2,0,g _ _<|d _ _ m,?_,λH4 b F J T=>?_]
  .rw[zs,ac];lk
  .show#[p,b,_,1,0,F _ _ ag,T,?_,λq y=>?_]
   .rw[ac];show Pk<|by change 1+((zs x.2).length+1)<=200000;rw[zs,ac];lk
   .show k1 _ _ ((g.trans F).trans<|am.new y) #[q,0,?_,λz=>?_]
    .rw[ag];unfold qV;rw[show(zs x.2).length=x.2.length from ac ..];rfl
    .subst z;rw[(g.trans F) _ _ U]at y;cases y
 .intro i D c d W e pr;show#[D,c,M.map qV,0,e,pr.mono λv r q=>let #[b,O,R,_]:=q;#[b,O,.inl R],o,λH3 b g J S=>?_];show k _ _ (d.trans g) (d.free J) ?_;rw[S,ac]
def uI(K:Frag):Sp:=λa H Q _=>∃(i:Int),a=[.int i]/\Q (.bl<|decide<|0<=i/\i<=1000000000) H
def KQ(T:Facts K d j g):Df P w K d b 1 "is_net" ["net"] (uI K):=by
 show T.K6.dx ["net"] λf c A a s H o Q E l n m h=>?_;let[i,0,k]:=h;show#[_,(ao<|aM<|Jf fE fE aI (pv 0)<|gc T.Ct.BU),?_];rw[show decide (0<=i/\i<=1000000000)=(decide (0<=i)&&decide (i<=1000000000))from tU ..]at k;show#[1,_,1,0,1,cg (λe=>#[_,1,0,kt e k]) λe=>kf e k]
def inR(n:Int):Bool:=decide<|-1000000000<=n/\n<=1000000000
def mB(K:Frag):Sp:=λd H Q _=>∃(a:Addr) (b:List Int),d=[.ref a]/\cc K H a (b.map V.int)/\b.length<100000/\∀c,am H c->Q (.bl<|b.all inR) c
def FH(c:Facts K t z y):Df P w K t g 1 "in_range" ["numbers"] (mB K):=by
 show c.FR.dx ["numbers","number"] λf o A d s H L Q E G j I h=>?_;let[a,b,0,i,q,k]:=h;show#[_,(ao<|aM<|bC (call K) SY c.Bt.all boot_all<|aa (ke rfl j (oE K<|pv 0) (cZ (own:=[("number",1)])<|by kernel_rfl) (λ_ _ _ _ _=>(bF 1 j)) (λ_ _ _ _ _=>g_) λ_ _ _ _ _=>(cv fE (bC xR SY c.Bt.abs boot_abs<|aa (pv 1) ah)<|gc c.Ct.qv)) ah),?_]
 show rA<|Qh<|vj<|vM ?_;show#[1,a,0,#[_,i],?_];show lG (K:=K) (T:=Pe) (src_list (K:=K) (R:=ul) (vs:=b.map V.int) (xs:=b)) Pe.mon inR q (λB s=>#[s.seq i,JE _]) ?_ ?_
 .ext x v m C J l rfl r;show#[0,2,_,1,0,r _ _ (am.refl _) ?_];change V.bl _=V.bl (inR x);congr 1;unfold inR;rw[b8];split<;>lk
 .intro m D n l F e u;let p:=JF u;subst p;show#[D,b.map inR,0,cc.of e,?_];let:=k _ l;rw[show(b.map inR).all id=b.all inR by rw[List.all_map];rfl]
  show this
def xn:∀(a:List Int) (n:Nat),a.length=2*n->(points a).length=n
 |[],n,h=>by simp[points]at*;lk
 |[_],n,h=>by simp at h;lk
 |x::y::l,n,h=>by
  cases n with
  |zero=>simp at h
  |succ n=>
   unfold points;rw[aY,xn l n<|by simp at h;lk]
def KR:∀(c:List Int) (i:Nat) (x y:Int),c[2*i]?=some x->c[2*i+1]?=some y->(points c)[i]?=some #[x,y]
 |[],i,x,y,h,_=>by simp at h
 |[_],i,x,y,_,h=>by simp at h
 |u::v::l,0,x,y,a,b=>by
  simp at a b;subst a b;rfl
 |u::v::l,i+1,x,y,a,b=>by
  unfold points;rw[iL];show KR l i x y ?_ ?_
  .rw[show 2*(i+1)=(2*i+1)+1 by lk]at a;simpa using a
  .rw[show 2*(i+1)+1=(2*i+1+1)+1 by lk]at b;simpa using b
def MM(a:List Int)(n:Nat)(h:a.length=2*n):(List.range n).map (λi=>(#[a.getD (2*i) 0,a.getD (2*i+1) 0]:Pt))=points a:=by
 show mw λi=>?_;by_cases d:i<n
 .rw[aZ,zu d];let b:a[2*i]?=some (a.getD (2*i) 0):=by rw[bh,ak om];rfl
  let c:a[2*i+1]?=some (a.getD (2*i+1) 0):=by rw[bh,ak om];rfl
  rw[KR a i _ _ b c];rfl
 .rw[jI<|by rw[ac,cu];lk,jI<|by rw[xn a n h];lk]
def Cq(a:List Int)(n:Nat)(h:a.length=2*n):(points a).all inRange=a.all inR:=by
 induction n generalizing a with
 |zero=>cases a with
  |nil=>rfl
  |cons _ _=>simp at h
 |succ n b=>match a,h with
  |x::y::l,h=>
   unfold points;rw[iM,iM,iM,b l<|by simp at h;lk,<-Bool.and_assoc]
   congr 1;unfold inRange inR MOST;rw[<-tU,b8];simp only;lk
def SJ(n:Nat)(h:n<=100000):Sb 0 ((2*n:Nat):Int) 2 n:=by
 let e:Builtin.Range.rangeSize 0 ((2*n:Nat):Int) 2=(n:Int):=by
  unfold Builtin.Range.rangeSize;rw[aH de];split<;>lk
 show#[de,de,?_,e];let a:∀i:Int,0<=i->i<=300000->Builtin.Range.rangeFitsLong i=true:=λi b c=>by
  unfold Builtin.Range.rangeFitsLong;rw[be,aT,aT];lk
 unfold Builtin.Range.small;rw[e,aH (show(2:Int)>0 by decide),a 0 de de,a _ om om,a 2 de de,a _ om om,a _ om om]
 simp
def FI{lo:Int}:Src (RI lo c n) (λ_=>True) (List.range n) (λ_ v (k:Nat)=>v=.int (lo+(k:Int)*c)) where
 go:=λi H _ h=>by rw[cu]at h;show h
 stop:=λH _=>by rw[cu];show aE n
 BB:=λi H v a x _ y e=>by
  let[0,0]:=y;let[h,q]:=aJ.mp e;rw[GV]at q;subst q;show#[am.refl _,0]
def jD(K:Frag):Sp:=λc H Q _=>∃(a:Addr) (b:List Int) (n:Nat),c=[.ref a]/\cc K H a (b.map V.int)/\b.length=2*n/\n<=1000/\b.all inR=true/\KF (eF K) H Q (points b)
def Ab(l:Facts K O S R):Df P w K O p 1 "points_from" ["numbers"] (jD K):=by
 show l.Ap.dx ["numbers","k"] λf G A o s H Y Q E W x X h=>?_;let[a,b,n,0,m,u,U,c,k]:=h;show#[_,(ao<|aM<|ke rfl x (Hl rfl l.Bt.range<|aa aI<|aa (bC (mL K) SY l.Bt.len boot_len<|aa (pv 0) ah)<|aa aI ah) (cZ (own:=[("k",1)])<|by kernel_rfl) (λ_ _ _ _ _=>(bF 1 x)) (λ_ _ _ _ _=>g_) λ_ _ _ _ _=>(eI<|aa (iR K (pv 0)<|pv 1)<|aa (iR K (pv 0)<|ad (pv 1) aI) ah)),?_]
 show rA<|vM ?_;show#[1,a,1,.inl m,(0),_,(2),n,0,(by rw[ac,u];show SJ n om),?_]
 show lG (K:=K) (T:=eF K) (FI (lo:=0) (c:=2) (n:=n)) eF.mon (λi=>(#[b.getD (2*i) 0,b.getD (2*i+1) 0]:Pt)) (by rw[cu];lk) (λ_ _=>trivial) ?_ ?_
 .ext i v z T J j rfl N;let L:=cB.mp J;let r:b[2*i]?=some (b.getD (2*i) 0):=by rw[bh,ak om];rfl
  let t:b[2*i+1]?=some (b.getD (2*i+1) 0):=by rw[bh,ak om];rfl
  let B:AW (b.map V.int) (0+(i:Int)*2)=some (.int<|b.getD (2*i) 0):=by
   rw[show(0+(i:Int)*2)=((2*i:Nat):Int) by lk]
   show bH<|by rw[aZ,r];rfl
  let C:AW (b.map V.int) (0+(i:Int)*2+1)=some (.int<|b.getD (2*i+1) 0):=by
   rw[show(0+(i:Int)*2+1)=((2*i+1:Nat):Int) by lk]
   show bH<|by rw[aZ,t];rfl
  let d:=c7.mp c _<|aX r;let g:=c7.mp c _<|aX t;unfold inR at d g;let d:=aF d;let g:=aF g;show#[0,2,a,_,_,1,0,j.seq m,B,2,_,1,0,a,_,_,1,0,j.seq m,C,da,λq M=>?_];show N _ _ (am.new M) #[#[q,0,gT.of ag],d.1,d.2,g.1,g.2]
 .intro z D F j I e y;rw[MM b n u]at y;show k _ _ _ j I e y
end
def nL(a:List Int):Int:=if decide (a.length%2=0/\1<=a.length/2/\a.length/2<=32)=false then -6 else if a.all inR=false then -7 else if skeleton (points a)=false then -8 else 0
def tm(s:Board)(a lo b r:Int)(c:List Int):Int:=
 if decide (0<=a/\a<=1000000000)=false then -3 else if decide (1<=lo/\lo<=b/\b<=(s.layers:Int))=false then -4 else
 if decide (0<=r/\r<=1000000000)=false then -5 else if nL c≠0 then nL c else if decide (128<=(nodes ↥s).length)=true then -10 else 0
section
variable{K:Frag}{CP CB:Addr}
def nt(h:(!b)=true):b=false:=by cases b<;>simp_all
def nf(h:(!b)=false):b=true:=by cases b<;>simp_all
def uJ{lo:Int}(c:∀a:VK,a (.int x) H->f b H a)(d:∀a:VK,a (.int hi) H->g b H a)(k:Q (decide<|lo<=x/\x<=hi) H):
  AQ (EU (ES λi j=>.bl<|decide<|i<=j) (ES λi j=>.bl<|decide<|i<=j) (tC<|.int lo) f g) b H Q:=by
 show c _ #[lo,x,0,0,1,cg (λe=>d _ #[x,hi,0,0,1,?_]) λe=>#[1,?_]]
 .grind
 .grind
def MN{lo:Int}(f:∀a:VK,a (.int x) H->l c H a)(g:∀a:VK,a (.int y) H->m c H a)(h:∀a:VK,a (.int d) H->n c H a)(k:Q (decide<|lo<=x/\x<=y/\y<=d) H):
  AQ (GN (ES λi j=>.bl<|decide<|i<=j) (ES λi j=>.bl<|decide<|i<=j) (ES λi j=>.bl<|decide<|i<=j) (tC<|.int lo) l m n) c H Q:=by
 rw[tU,tU]at k;show f _ #[lo,x,0,0,1,cg (λe=>g _ #[x,y,0,0,1,cg (λb=>h _ #[y,d,0,0,1,?_]) λb=>#[1,?_]]) λe=>#[1,?_]]
 .rw[e,b]at k;show k
 .rw[e,b]at k;show k
 .rw[e]at k;show k
def Cr{a:List Int}(h:a.length%2=0/\1<=a.length/2/\a.length/2<=32):∃n,a.length=2*n/\1<=n/\n<=32:=#[a.length/2,om,h.2.1,h.2.2]
def ku(K:Frag):Sp:=λd H Q _=>∃(a:Addr) (b:List Int),d=[.ref a]/\cc K H a (b.map V.int)/\b.length<=200/\∀c,am H c->Q (.int<|nL b) c
def qB(T:Facts K C CP CB):Df P w K C p 5 "refusal_of_points" ["numbers"] (ku K):=by
 show T.qD.dx ["numbers"] λf y A o s H X Q E m W R h=>?_;let[a,c,0,i,O,k]:=h;show#[_,(af (cF (AM (ct oA (qH NM (bC (mL K) SY T.Bt.len boot_len<|aa (pv 0) ah) aI) aI)<|t9<|dG<|m8 fE fE aI (qH F0 (bC (mL K) SY T.Bt.len boot_len<|aa (pv 0) ah) aI)<|gc T.Ct.DH).pt (ao<|aM<|gc T.Ct.sF) bA)
  (af (cF (dG<|cV<|du (FH T) m<|aa (pv 0) ah) (ao<|aM<|gc T.Ct.jc) bA)
  (af (cF (dG<|cV<|du (zY T) m<|aa (du (Ab T) m<|aa (pv 0) ah) ah) (ao<|aM<|gc T.Ct.DD) bA)
  (ao<|aM aI)))),?_]
 let M:((c.map V.int).length:Int)=(c.length:Int):=by rw[ac]
 let x:PH ((c.map V.int).length:Int) 2:=#[de,de];show#[1,a,1,.inl i,_,1,0,(show(0:Int)<2 by decide),0,1,cg (λe=>?_) λe=>?_]
 .show Fd ?_;let:=k _<|am.refl _;unfold nL at this;rw[aH ?_]at this
  .show this
  .grind
 let L:(c.length:Int)%2=0:=by grind
 show uJ (x:=((c.map V.int).length:Int)/2) (hi:=32) (λv h=>#[1,a,1,.inl i,_,1,0,x,h]) (λv h=>h)<|cg (λe=>?_) λe=>?_
 .let:=k _<|am.refl _;unfold nL at this;rw[aH ?_]at this
  .show this
  .grind
 let q:c.length%2=0/\1<=c.length/2/\c.length/2<=32:=by grind
 unfold nL at k;rw[az<|by rw[aU q];show Bool.noConfusion]at k
 let[n,r,S,U]:=Cr q;show#[1,a,c,0,i,om,λG j=>#[1,cg (λe=>?_) λe=>?_]]
 .let g:c.all inR=false:=by simpa using e
  rw[aH g]at k;show k _ j
 let g:c.all inR=true:=by simpa using e
 rw[az<|by rw[g];show Bool.noConfusion]at k
 let pl:=xn c n r;let d:points c≠[]:=λz=>by rw[z]at pl;simp at pl;lk
 show#[1,a,c,n,0,j.seq i,r,om,g,λI b F t N B D=>?_];show#[_,1,#[b,F,0,cc.of B,D],d,om,λJ u=>#[1,cg (λe=>?_) λe=>?_]]
 .let l:skeleton (points c)=false:=by rw[<-AG d];simpa using e
  rw[aH l]at k;show k _<|(j.trans t).trans u
 .let l:skeleton (points c)=true:=by rw[<-AG d];simpa using e
  rw[az<|by rw[l];show Bool.noConfusion]at k
  show k _<|(j.trans t).trans u
def mD(K:Frag)(CP CB:Addr):Sp:=λg H Q _=>∃(f:V) (s:Board) (b lo e r:Int) (a:Addr) (c:List Int),g=[f,.int b,.int lo,.int e,.int r,.ref a]/\dD K CP CB H f s/\cc K H a (c.map V.int)/\c.length<=200/\∀d,am H d->Q (.int<|tm s b lo e r c) d
def uK(T:Facts K F CP CB):Df P w K F n 6 "refusal_of_add" ["board","net","first","last","radius","numbers"] (mD K CP CB):=by
 show T.uX.dx ["board","net","first","last","radius","numbers","refusal"] λf t A m s H U Q E j G O h=>?_
 let[S,s,l,lo,z,r,a,I,0,p,x,B,k]:=h;let[v,R,ld,N,D,L,M,o,b,g]:=id p;let[q,u,0,i,y,C]:=id o;show#[_,(af (cF (dG<|cV<|du (KQ T) j<|aa (pv 1) ah) (ao<|aM<|gc T.Ct.A4) bA)
  (af (cF (dG<|Ia fE fE fE aI (pv 2) (pv 3)<|fv K 0) (ao<|aM<|gc T.Ct.sE) bA)
  (af (cF (dG<|m8 fE fE aI (pv 4)<|gc T.Ct.vO) (ao<|aM<|gc T.Ct.BS) bA)
  (af (aS 6 G<|du (qB T) j<|aa (pv 5) ah)
  (af (cF (ct oA (pv 6) aI) (ao<|aM<|pv 6) bA)
  (af (cF (cV<|zT (B7 T) T.c8.cls j<|pv 0) (ao<|aM<|gc T.Ct.Fe) bA)
  (ao<|aM aI))))))),?_]
 unfold tm at k;show#[1,l,0,1,cg (λe=>?_) λe=>?_]
 .rw[aH<|nt e]at k;show k _<|am.refl _
 rw[az<|by rw[nf e];show Bool.noConfusion]at k
 dsimp only[sv,xN,EN,G7];show MN (y:=z) (λd h=>#[1,h]) (λd h=>#[1,h]) (λd h=>#[1,_,_,_,o,b.layers,h])<|cg (λe=>?_) λe=>?_
 .rw[aH<|nt e]at k;show k _<|am.refl _
 rw[az<|by rw[nf e];show Bool.noConfusion]at k
 show uJ (λd h=>#[1,h]) (λd h=>h)<|cg (λe=>?_) λe=>?_
 .rw[aH<|nt e]at k;show k _<|am.refl _
 rw[az<|by rw[nf e];show Bool.noConfusion]at k
 show#[1,a,I,0,x,B,λJ c=>?_];show#[1,0,1,cg (λe=>?_) λe=>?_]
 .rw[aH<|by simpa using e]at k
  show#[1,k _ c]
 rw[az<|by simpa using e]at k
 show#[1,q,u,v,0,c _ _ i,b.no dk,_,s,0,p.same c,1,cg (λe=>?_) λe=>?_]
 .rw[aH e]at k;show k _ c
 .rw[az<|by rw[e];show Bool.noConfusion]at k
  show k _ c
end
def xo(h:does s c=.ok x):step s c=x:=by unfold Vbpcaf.step;rw[h]
def GO(h:does s c=.error n):step s c=(s,[n]):=by unfold Vbpcaf.step;rw[h]
def gR(h:b=true):must b n=.ok ():=by unfold must;rw[aH h]
def jW(h:b=false):must b n=.error n:=by unfold must;rw[az<|by rw[h];show Bool.noConfusion]
def eS(h:hasB s i=true):∃(n:Nat) (a:Piece),i=(n:Int)/\s.get n=some a/\pieceAt s i=.ok a:=by
 unfold hasB at h;let[b,d]:=oS.mp h;let b:=aF b;let[a,c]:=qY.mp d;show#[i.toNat,a,om,c,?_];unfold pieceAt;rw[aH b,c]
def fX(h:hasB s i=false):pieceAt s i=.error (-2):=by
 unfold hasB at h;unfold pieceAt;by_cases b:0<=i
 .rw[aU b,tM]at h;rw[aH b];cases e:s.get i.toNat with
  |none=>rfl
  |some a=>rw[e]at h;cases h
 .rw[az b]
def O0(K:Frag)(d c:Addr)(H:Hp)(e:V)(x:Board×List Int)(Q:VK):Prop:=∀b a,Kp H b->(∀f,H a≠some (.lst f))->b a=some (.lst<|x.2.map V.int)->dD K d c b e x.1->Q (.ref a) b
def fi(K:Frag)(d b:Addr)(R:List Int->Call->Prop):Sp:=λg H Q _=>∃(a:V) (s:Board) (e:Addr) (f:List Int) (c:Call),g=[a,.ref e]/\dD K d b H a s/\H e=some (.lst<|f.map V.int)/\R f c/\O0 K d b H a (step s c) Q
section
variable{P:Program}{w:World}{K:Frag}{mg:Str->Option Value}{base:Heap}{CP CB:Addr}
def O0.no(k:O0 K CP CB H i (step s c) Q)(g:dD K CP CB H i s)(h:does s c=.error n)(d:am H a):∀p,a p=none->Q (.ref p) (upd a p<|.lst [.int n]):=λp b=>by
 rw[GO h]at k;let f:=d.trans<|am.new (o:=.lst [.int n]) b;show k _ _ (Kp.of f) (λj e=>by rw[d.free b]at e;cases e) ag<|g.same f
def O0.ret(k:O0 K CP CB H i (step s c) Q)(d:dD K CP CB H i s)(h:does s c=.ok (s,g)):nr H Q g:=λj a b f e=>by
 rw[xo h]at k;show k _ _ (Kp.of b) (λl z=>by rw[f]at z;cases z) e<|d.same b
def nr.after(k:nr H Q f)(s:am H c):nr c Q f:=λb a g d e=>k b a (s.trans g) (s.free d) e
def jE(k:nr H Q (counted l))(s:am H b)(e:b a=some (.lst<|(zs l).map V.int))(d:l.length<=100000):dN K [.ref a] b Q E:=by
 show#[a,zs l,0,e,by rw[zs,ac];show d,?_]
 let c:((zs l).length:Int)::zs l=counted l:=by
  unfold counted Vbpcaf.ints;rw[show(zs l).length=l.length from ac ..]
 rw[c];show k.after s
def lA{s:Board}{l:List Nat}(h:l.Sublist (nodes ↥s)):l.length<=100000:=aL h.length_le<|aL cz de
def FJ{s:Board}{l:List Nat}(a:So l)(h:∀x∈l,x∈nodes ↥s):l.length<=100000:=aL (fM (So.nodup a) h)<|aL cz de
def kY(ok:wY s)(h:s.get n=some a):n∈nodes ↥s:=eV.mpr #[gz ok h,by rw[h];rfl]
def dD.QL(h:dD K CP CB H a s):wY s:=let #[_,_,_,_,_,_,_,_,_,g]:=h;g.ok
def yH(g:Graph)(j:Nat):∀(d i:Nat),(walk g j d i).length<=d+1
 |0,i=>by simp[walk]
 |d+1,i=>by
  unfold walk;split
  .rw[aY];let:=yH g j d ‹_›;lk
  .simp
def Ig{s:Board}{i j:Nat}:(chain ↥s i j).length<=100000:=by
 unfold chain;split
 .rename_i d h;let:=yH ↥s j d i;let b:=pX h;let c:=cB.mp b;let a:=cz (s:=s);unfold nodes at a;rw[ac]at a;lk
 .simp
def v_(K:Frag)(CP CB:Addr):Sp:=fi K CP CB λa c=>a=[]/\c=.parts
def yI(T:Facts K mg CP CB):Df P w K mg base 5 "answer_parts" ["board","given"] (v_ K CP CB):=by
 show T.ze.dx ["board","given"] λf i A c s H u Q E d r q h=>?_;let[t,s,m,_,1,b,o,[0,0],k]:=h;let g:=k.ret b (show does s .parts=.ok (s,counted ((parts ↥s).map λp=>p.headD 0))from rfl);rw[vg<|cD b.QL]at g;show#[_,(ao<|aM<|du (Ib T) d<|aa (du (Ms T) d<|aa (pv 0) ah) ah),?_];show#[1,_,s,0,b,λl a j n e=>jE (K:=K) (E:=E0) g j e<|lA a_]
def wa(K:Frag)(CP CB:Addr):Sp:=fi K CP CB λa c=>a=[]/\c=.loose
def yJ(T:Facts K mg CP CB):Df P w K mg base 6 "answer_loose" ["board","given"] (wa K CP CB):=by
 show T.zf.dx ["board","given"] λf g A c s H t Q E d q p h=>?_;let[r,s,m,_,1,b,o,[0,0],k]:=h;let i:=k.ret b (show does s .loose=.ok (s,counted<|loose s)from rfl);show#[_,(ao<|aM<|du (Ib T) d<|aa (du (yF T) d<|aa (pv 0) ah) ah),?_];show#[1,_,s,0,b,λl a j n e=>jE (K:=K) (E:=E0) i j e<|by rw[yE<|cD b.QL];show lA a_]
def yK(K:Frag)(CP CB:Addr):Sp:=fi K CP CB λa c=>a=[]/\c=.cuts
def Ac(T:Facts K mg CP CB):Df P w K mg base 6 "answer_cuts" ["board","given"] (yK K CP CB):=by
 show T.Aq.dx ["board","given"] λf g A b s H t Q E d q p h=>?_;let[r,s,m,_,1,c,o,[0,0],k]:=h;let i:=k.ret c (show does s .cuts=.ok (s,counted<|cuts ↥s)from rfl);show#[_,(ao<|aM<|du (Ib T) d<|aa (du (Ch T) d<|aa (pv 0) ah) ah),?_];show#[1,_,s,0,c,λl a j n e=>jE (K:=K) (E:=E0) i j e<|lA a_]
def Ad(K:Frag)(CP CB:Addr):Sp:=fi K CP CB λa c=>a=[]/\c=.all
def Cs(T:Facts K mg CP CB):Df P w K mg base 2 "answer_all" ["board","given"] (Ad K CP CB):=by
 show T.CQ.dx ["board","given"] λf n A d s H M Q E i I G h=>?_;let[L,s,B,_,1,b,F,[0,0],k]:=h;let[q,J,ld,C,u,y,z,o,m,g]:=id b;let[l,p,0,c,r,t]:=id o;let j:=k.ret b (show does s .all=.ok (s,counted (s.all.map λa=>a.1))from rfl);rw[<-eG]at j;show#[_,(ao<|aM<|du (Ib T) i<|aa (zT (B6 T) T.c8.cls i<|pv 0) ah),?_];show#[1,l,p,q,0,c,m.no dk,_,s,0,b,λx a v D e=>jE (K:=K) (E:=E0) j v e<|lA<|mx _]
def rP(K:Frag)(CP CB:Addr):Sp:=fi K CP CB λa c=>∃i,a=[i]/\c=.touching i
def tz(T:Facts K mg CP CB):Df P w K mg base 2 "answer_touching" ["board","given"] (rP K CP CB):=by
 show T.tJ.dx ["board","given"] λf v A j s H U Q E d O N h=>?_;let[S,s,r,_,1,b,u,[i,0,0],k]:=h;let[q,R,ld,M,F,J,L,o,m,g]:=id b;let[l,p,0,c,y,z]:=id o;show#[_,(af (cF (dG<|cV<|met (JV T) T.c8.cls d (pv 0)<|aa (iR K (pv 1) aI) ah) (ao<|aM<|cR<|aa (gc T.Ct.dv) ah) bA)
  (ao<|aM<|du (Ib T) d<|aa (met (z8 T) T.c8.cls d (pv 0)<|aa (iR K (pv 1) aI) ah) ah)),?_]
 show#[1,l,p,q,0,c,m.no dk,1,r,_,_,1,0,cc.of u,bH (j:=0) rfl,_,s,i,0,b,1,cg (λe=>?_) λe=>?_]
 .show#[cU,k.no b (by change(pieceAt s i>>=λ_=>_)=_;rw[fX<|nt e];rfl)<|am.refl _]
 .let[n,a,0,t,B]:=eS<|nf e;let D:=k.ret b (show does s (.touching (n:Int))=.ok (s,counted<|neighbours ↥s n) by change(pieceAt s n>>=λ_=>_)=_;rw[B];rfl)
  show#[1,l,p,q,0,c,m.no dk,1,r,_,_,1,0,cc.of u,bH (j:=0) rfl,_,s,n,0,b,kY g.ok t,λI a G t e=>jE (K:=K) (E:=E0) D G e (FJ ((cD g.ok).La n) λx C=>(cD g.ok).mem C)]
def tD(K:Frag)(CP CB:Addr):Sp:=fi K CP CB λa c=>∃i,a=[i]/\c=.members i
def uL(T:Facts K mg CP CB):Df P w K mg base 4 "answer_members" ["board","given"] (tD K CP CB):=by
 show T.uY.dx ["board","given"] λf t A j s H U Q E d O N h=>?_;let[S,s,l,_,1,b,p,[i,0,0],k]:=h;let[v,R,ld,M,F,J,L,o,r,g]:=id b;let[q,u,0,c,y,z]:=id o;show#[_,(af (cF (dG<|cV<|met (JV T) T.c8.cls d (pv 0)<|aa (iR K (pv 1) aI) ah) (ao<|aM<|cR<|aa (gc T.Ct.dv) ah) bA)
  (ao<|aM<|du (Ib T) d<|aa (du (HI T) d<|aa (pv 0)<|aa (iR K (pv 1) aI) ah) ah)),?_]
 show#[1,q,u,v,0,c,r.no dk,1,l,_,_,1,0,cc.of p,bH (j:=0) rfl,_,s,i,0,b,1,cg (λe=>?_) λe=>?_]
 .show#[cU,k.no b (by change(pieceAt s i>>=λ_=>_)=_;rw[fX<|nt e];rfl)<|am.refl _]
 .let[n,a,0,m,B]:=eS<|nf e;let D:=k.ret b (show does s (.members (n:Int))=.ok (s,counted<|members ↥s n) by change(pieceAt s n>>=λ_=>_)=_;rw[B];rfl)
  show#[2,l,_,_,1,0,cc.of p,bH (j:=0) rfl,_,s,n,0,b,kY g.ok m,λI a G m e=>jE (K:=K) (E:=E0) D G e (FJ (gf gU n) λx C=>cK gU C)]
def uM(K:Frag)(CP CB:Addr):Sp:=fi K CP CB λa c=>∃i,a=[i]/\c=.levels i
def wb(T:Facts K mg CP CB):Df P w K mg base 4 "answer_levels" ["board","given"] (uM K CP CB):=by
 show T.wI.dx ["board","given"] λf t A j s H R Q E d M L h=>?_;let[O,s,l,_,1,b,p,[i,0,0],k]:=h;let[v,N,ld,J,C,G,I,o,r,g]:=id b;let[q,u,0,c,x,y]:=id o;show#[_,(af (cF (dG<|cV<|met (JV T) T.c8.cls d (pv 0)<|aa (iR K (pv 1) aI) ah) (ao<|aM<|cR<|aa (gc T.Ct.dv) ah) bA)
  (ao<|aM<|du (Ib T) d<|aa (du (uB T) d<|aa (pv 0)<|aa (iR K (pv 1) aI) ah) ah)),?_]
 show#[1,q,u,v,0,c,r.no dk,1,l,_,_,1,0,cc.of p,bH (j:=0) rfl,_,s,i,0,b,1,cg (λe=>?_) λe=>?_]
 .show#[cU,k.no b (by change(pieceAt s i>>=λ_=>_)=_;rw[fX<|nt e];rfl)<|am.refl _]
 .let[n,a,0,m,z]:=eS<|nf e;let B:=k.ret b (show does s (.levels (n:Int))=.ok (s,counted<|HJ s n) by change(pieceAt s n>>=λ_=>_)=_;rw[z];rfl)
  show#[2,l,_,_,1,0,cc.of p,bH (j:=0) rfl,_,s,n,0,b,kY g.ok m,λF a D m e=>jE (K:=K) (E:=E0) B D e ?_];unfold HJ;let:=bu (λk=>s.all.any λa=>(members ↥s n).contains a.1&&decide (a.2.lo<=k/\k<=a.2.hi))<|List.range<|s.layers+1;rw[cu]at this;let:=g.lay;lk
def wc(K:Frag)(CP CB:Addr):Sp:=fi K CP CB λa c=>∃i k,a=[i,k]/\c=.reach i k
def yL(T:Facts K mg CP CB):Df P w K mg base 4 "answer_reach" ["board","given"] (wc K CP CB):=by
 show T.zg.dx ["board","given"] λf z A q s H Z Q E p W U h=>?_;let[Y,s,d,_,1,c,j,[i,m,0,0],k]:=h;let[C,X,ld,S,J,N,O,o,y,g]:=id c;let[v,B,0,l,D,F]:=id o;show#[_,(af (cF (dG<|cV<|met (JV T) T.c8.cls p (pv 0)<|aa (iR K (pv 1) aI) ah) (ao<|aM<|cR<|aa (gc T.Ct.dv) ah) bA)
  (af (cF (dG<|m8 fE fE aI (iR K (pv 1) aI)<|gc T.Ct.Ff) (ao<|aM<|cR<|aa (gc T.Ct.DE) ah) bA)
  (ao<|aM<|du (Ib T) p<|aa (du (uw T) p<|aa (pv 0)<|aa (iR K (pv 1) aI)<|aa (iR K (pv 1) aI) ah) ah))),?_]
 show#[1,v,B,C,0,l,y.no dk,1,d,_,_,1,0,cc.of j,bH (j:=0) rfl,_,s,i,0,c,1,cg (λe=>?_) λe=>?_]
 .show#[cU,k.no c (by change(pieceAt s i>>=λ_=>_)=_;rw[fX<|nt e];rfl)<|am.refl _]
 let[n,a,0,r,t]:=eS<|nf e;dsimp only[sv,xN,EN,G7];show uJ (x:=m) (hi:=128) (λu h=>#[1,d,_,_,1,0,cc.of j,bH (j:=1) rfl,h]) (λu h=>h)<|cg (λe=>?_) λe=>?_
 .show#[cU,k.no c (by change(pieceAt s n>>=λ_=>must (decide<|0<=m/\m<=128) (-9)>>=λ_=>_)=_;rw[t,jW<|nt e];rfl)<|am.refl _]
 .let R:=aF<|nf e;let[b,0]:∃b:Nat,m=(b:Int):=#[m.toNat,om];let I:=k.ret c (show does s (.reach (n:Int) (b:Int))=.ok (s,counted<|reach ↥s b n) by change(pieceAt s n>>=λ_=>must (decide<|0<=(b:Int)/\(b:Int)<=128) (-9)>>=λ_=>_)=_;rw[t,gR<|nf e];rfl)
  show#[2,d,_,_,1,0,cc.of j,bH (j:=0) rfl,1,d,_,_,1,0,cc.of j,bH (j:=1) rfl,_,s,n,b,0,c,kY g.ok r,λM a L r e=>jE (K:=K) (E:=E0) I L e (FJ (fS gU b n) λx G=>ij G)]
def wd(K:Frag)(CP CB:Addr):Sp:=fi K CP CB λa c=>∃i j,a=[i,j]/\c=.chain i j
def yM(T:Facts K mg CP CB):Df P w K mg base 4 "answer_chain" ["board","given"] (wd K CP CB):=by
 show T.zh.dx ["board","given"] λf C A t s H Y Q E q U S h=>?_;let[X,s,l,_,1,c,p,[i,j,0,0],k]:=h;let[y,W,ld,R,J,N,O,o,v,g]:=id c;let[u,x,0,d,F,G]:=id o;show#[_,(af (cF (AM (dG<|cV<|met (JV T) T.c8.cls q (pv 0)<|aa (iR K (pv 1) aI) ah)<|t9<|dG<|cV<|met (JV T) T.c8.cls q (pv 0)<|aa (iR K (pv 1) aI) ah).pt (ao<|aM<|cR<|aa (gc T.Ct.dv) ah) bA)
  (ao<|aM<|du (Ib T) q<|aa (du (uA T) q<|aa (pv 0)<|aa (iR K (pv 1) aI)<|aa (iR K (pv 1) aI) ah) ah)),?_]
 show#[1,u,x,y,0,d,v.no dk,1,l,_,_,1,0,cc.of p,bH (j:=0) rfl,_,s,i,0,c,1,cg (λe=>Fd ?_) λe=>?_]
 .show#[cU,k.no c (by change(pieceAt s i>>=λ_=>_)=_;rw[fX<|nt e];rfl)<|am.refl _]
 let[n,a,0,z,B]:=eS<|nf e;show#[1,u,x,y,0,d,v.no dk,1,l,_,_,1,0,cc.of p,bH (j:=1) rfl,_,s,j,0,c,1,cg (λe=>?_) λe=>?_]
 .show#[cU,k.no c (by change(pieceAt s n>>=λ_=>pieceAt s j>>=λ_=>_)=_;rw[B,fX<|nt e];rfl)<|am.refl _]
 .let[m,b,0,D,r]:=eS<|nf e;let I:=k.ret c (show does s (.chain (n:Int) (m:Int))=.ok (s,counted<|chain ↥s n m) by change(pieceAt s n>>=λ_=>pieceAt s m>>=λ_=>_)=_;rw[B,r];rfl)
  show#[2,l,_,_,1,0,cc.of p,bH (j:=0) rfl,1,l,_,_,1,0,cc.of p,bH (j:=1) rfl,_,s,n,m,0,c,kY g.ok z,kY g.ok D,λM a L z e=>jE (K:=K) (E:=E0) I L e Ig]
def uN(K:Frag)(CP CB:Addr):Sp:=fi K CP CB λa c=>∃i j,a=[i,j]/\c=.needed i j
def we(T:Facts K mg CP CB):Df P w K mg base 5 "answer_needed" ["board","given"] (uN K CP CB):=by
 show T.wJ.dx ["board","given"] λf C A t s H Y Q E q U S h=>?_;let[X,s,l,_,1,c,p,[i,j,0,0],k]:=h;let[y,W,ld,R,J,N,O,o,v,g]:=id c;let[u,x,0,d,F,G]:=id o;show#[_,(af (cF (AM (dG<|cV<|met (JV T) T.c8.cls q (pv 0)<|aa (iR K (pv 1) aI) ah)<|t9<|dG<|cV<|met (JV T) T.c8.cls q (pv 0)<|aa (iR K (pv 1) aI) ah).pt (ao<|aM<|cR<|aa (gc T.Ct.dv) ah) bA)
  (ao<|aM<|du (Ib T) q<|aa (du (uF T) q<|aa (pv 0)<|aa (iR K (pv 1) aI)<|aa (iR K (pv 1) aI) ah) ah)),?_]
 show#[1,u,x,y,0,d,v.no dk,1,l,_,_,1,0,cc.of p,bH (j:=0) rfl,_,s,i,0,c,1,cg (λe=>Fd ?_) λe=>?_]
 .show#[cU,k.no c (by change(pieceAt s i>>=λ_=>_)=_;rw[fX<|nt e];rfl)<|am.refl _]
 let[n,a,0,z,B]:=eS<|nf e;show#[1,u,x,y,0,d,v.no dk,1,l,_,_,1,0,cc.of p,bH (j:=1) rfl,_,s,j,0,c,1,cg (λe=>?_) λe=>?_]
 .show#[cU,k.no c (by change(pieceAt s n>>=λ_=>pieceAt s j>>=λ_=>_)=_;rw[B,fX<|nt e];rfl)<|am.refl _]
 .let[m,b,0,D,r]:=eS<|nf e;let I:=k.ret c (show does s (.needed (n:Int) (m:Int))=.ok (s,counted<|needed ↥s n m) by change(pieceAt s n>>=λ_=>pieceAt s m>>=λ_=>_)=_;rw[B,r];rfl)
  show#[2,l,_,_,1,0,cc.of p,bH (j:=0) rfl,1,l,_,_,1,0,cc.of p,bH (j:=1) rfl,_,s,n,m,0,c,kY g.ok z,kY g.ok D,λM a L z e=>jE (K:=K) (E:=E0) I L e ?_];unfold needed;split
  .show lA a_
  .simp
end
def Bj(z:Nat):∀l:List Nat,(Vbpcaf.putIn z l).length<=l.length+1
 |[]=>by simp[Vbpcaf.putIn]
 |y::l=>by
  unfold Vbpcaf.putIn;let:=Bj z l;split
  .simp
  .split
   .simp
   .simp;lk
def yN:∀l:List Nat,(sorted l).length<=l.length
 |[]=>by simp[sorted]
 |x::l=>by
  let h:=yN l;let:=Bj x<|sorted l;change(Vbpcaf.putIn x<|sorted l).length<=_;rw[aY];lk
def rQ(s:Board)(l:List Nat):(netsOf s l).length<=l.length:=by
 unfold netsOf;show aL (yN _)<|aL (bu _ _) ?_;rw[ac];show aE _
def Ed{s:Board}(ok:gF ↥s){p:List Nat}(h:p∈parts ↥s):p.length<=128:=by
 rw[lD ok]at h;let[r,1]:=ae.mp h;show aL (fM (So.nodup<|gf ok.so r) λx a=>cK ok.so a) cz
def jT{s:Board}(ok:gF ↥s):(parts ↥s).length<=128:=by
 rw[lD ok,ac];show aL (bu _ _) cz
def pT:(allNets s).length<=128:=by
 unfold allNets;show aL (rQ s _) ?_;rw[ac];show tf
def kz{l:List (List Int)}{m:Nat}(h:∀r∈l,r.length<=m):l.flatten.length<=l.length*m:=by
 induction l with
 |nil=>simp
 |cons r l b=>
  rw[ou,aW,aY,Nat.add_mul,Nat.one_mul];let c:=h r<|aN ..;let d:=b λx a=>h x<|aC _ a;lk
section
variable{K:Frag}{CP CB:Addr}
def Ee{H c:Hp}{a:Addr}{f:List V}{b:List (Nat×List Nat)}{Q:VK}{E:XK}(k:nr H Q ((b.length:Int)::(b.map qV).flatten))(s:am H c)(e:c a=some (.lst f))(p:Paired (Ph c) f b)(h:b.length<=128)(g:∀x∈b,x.2.length<=128):mz K [.ref a] c Q E:=by
 show#[a,f,b,0,e,p,om,λx d=>aL (g x d) de,?_,k.after s];let:=kz (l:=b.map qV) (m:=130) λr i=>by
  let[x,d,0]:=ae.mp i;unfold qV;rw[aY,aY,zs,ac];let:=g x d;lk
 rw[ac]at this;let j:b.length*130<=128*130:=oQ _ h;lk
def uO(K:Frag)(CP CB:Addr):Sp:=fi K CP CB λa c=>a=[]/\c=.shorts
def wg(T:Facts K o CP CB):Df P w K o d 6 "answer_shorts" ["board","given"] (uO K CP CB):=by
 show T.wK.dx ["board","given"] λf j A c s H F Q E g B z h=>?_;let[D,s,u,_,1,b,y,[0,0],k]:=h;let ok:=cD b.QL;let l:does s .shorts=.ok (s,((j7 s).length:Int)::((j7 s).map qV).flatten):=by
  change Except.ok (s,((shorts s).length:Int)::(shorts s).flatMap λp=>(p.headD 0:Int)::counted (netsOf s p))=_;unfold j7;rw[ac,bX,ib];rfl
 let n:=k.ret b l;show#[_,(ao<|aM<|du (FG T) g<|aa (du (vZ T) g<|aa (pv 0) ah) ah),?_];show#[1,_,s,0,b,λt a C r v e q=>Ee (K:=K) (E:=E0) n r e q ?_ λx i=>?_]
 .unfold j7 shorts;rw[ac];show aL (bu _ _)<|jT ok
 .unfold j7 shorts at i;let[p,m,0]:=ae.mp i;show aL (rQ s p)<|Ed ok (aw.mp m).1
def wj(K:Frag)(CP CB:Addr):Sp:=fi K CP CB λa c=>a=[]/\c=.opens
def Bk:(opens s).length<=128:=by
 unfold opens;show aL (bu _ _) pT
def yO(T:Facts K o CP CB):Df P w K o d 6 "answer_opens" ["board","given"] (wj K CP CB):=by
 show T.zi.dx ["board","given"] λf j A c s H G Q E g C B h=>?_;let[F,s,u,_,1,b,y,[0,0],k]:=h;let ok:=cD b.QL;let l:does s .opens=.ok (s,((oj s).length:Int)::((oj s).map qV).flatten):=by
  change Except.ok (s,((opens s).length:Int)::(opens s).flatMap λ(n:Nat)=>(n:Int)::counted ((partsOfNet s (parts ↥s) n).map λp=>p.headD 0))=_;unfold oj;rw[ac,bX,ib];rfl
 let m:=k.ret b l;show#[_,(ao<|aM<|du (FG T) g<|aa (du (Cn T) g<|aa (pv 0) ah) ah),?_];show#[1,_,s,0,b,λt a D r v e q=>Ee (K:=K) (E:=E0) m r e q ?_ λx i=>?_]
 .unfold oj;rw[ac];show Bk
 .unfold oj at i;let[n,z,0]:=ae.mp i;change((partsOfNet s (parts ↥s) n).map λp=>p.headD 0).length<=128;rw[ac];unfold partsOfNet;show aL (bu _ _)<|jT ok
def wk(K:Frag)(CP CB:Addr):Sp:=fi K CP CB λa c=>a=[]/\c=.clean
def yP(T:Facts K I CP CB):Df P w K I t 6 "answer_clean" ["board","given"] (wk K CP CB):=by
 show T.zj.dx ["board","given","told"] λf D A j s H W Q E x J S h=>?_;let[U,s,N,_,1,i,R,[0,0],k]:=h;let ok:=cD i.QL;let G:=k.ret i (show does s .clean=.ok (s,truth<|clean s)from rfl);show#[_,(af (aS 2 J<|ad (bC (mL K) SY T.Bt.len boot_len<|aa (du (vZ T) x<|aa (pv 0) ah) ah)<|bC (mL K) SY T.Bt.len boot_len<|aa (du (Cn T) x<|aa (pv 0) ah) ah)
  (ao<|aM<|cR<|aa (Dh (ct oz (pv 2) aI) aI aI) ah)),?_]
 show#[1,_,s,0,i,λM a n m O e L=>#[a,n,0,.inl<|cc.of e,?_]];show#[1,_,s,0,i.same m,λr b o y v F l=>#[b,o,0,.inl<|cc.of F,_,1,0,?_]];let d:=L.length;let g:=l.length;unfold j7 at d;unfold oj at g;rw[ac]at d g;let fin:∀(b:Bool),b=clean s->∀p,r p=none->Q (.ref p) (upd r p<|.lst [.int (if b=true then 1 else 0)]):=λb v p c=>by
  subst v;show G _ _ ((m.trans y).trans<|am.new c) ((m.trans y).free c) ag
 show#[1,0,1,cg (λe=>?_) λe=>?_]
 .show#[cU,λp c=>fin true ?_ p c];let u:(n.length:Int)+(o.length:Int)=0:=by simpa using e
  unfold clean;let B:shorts s=[]:=f_.mp om;let C:opens s=[]:=f_.mp om;rw[B,C];rfl
 .show#[cU,λp c=>fin false ?_ p c];let u:¬((n.length:Int)+(o.length:Int)=0):=by simpa using e
  unfold clean;rw[eq_comm,nP];by_cases z:shorts s=[]
  .right;rw[z]at d;simp at d;cases q:opens s with
   |nil=>rw[q]at g;simp at g;subst d g;simp at u
   |cons _ _=>rfl
  .left;cases q:shorts s with
   |nil=>show absurd q z
   |cons _ _=>rfl
def uP(K:Frag)(CP CB:Addr):Sp:=fi K CP CB λa c=>∃i j,a=[i,j]/\c=.joined i j
def wm(T:Facts K mg CP CB):Df P w K mg F 3 "answer_joined" ["board","given"] (uP K CP CB):=by
 show T.wL.dx ["board","given"] λf N A C s H vs Q E z nd Z h=>?_;let[vb,s,t,_,1,l,u,[i,j,0,0],k]:=h;let[L,pd,ld,gd,kvs,bL,cW,o,G,g]:=id l;let[D,I,0,r,X,Y]:=id o;show#[_,(af (cF (AM (dG<|cV<|met (JV T) T.c8.cls z (pv 0)<|aa (iR K (pv 1) aI) ah)<|t9<|dG<|cV<|met (JV T) T.c8.cls z (pv 0)<|aa (iR K (pv 1) aI) ah).pt (ao<|aM<|cR<|aa (gc T.Ct.dv) ah) bA)
  (ao<|aM<|cR<|aa (Dh (n6<|E8 Z (iR K (pv 1) aI)<|du (Cd T) z<|aa (pv 0)<|aa (iR K (pv 1) aI) ah) aI aI) ah)),?_]
 show#[1,D,I,L,0,r,G.no dk,1,t,_,_,1,0,cc.of u,bH (j:=0) rfl,_,s,i,0,l,1,cg (λe=>Fd ?_) λe=>?_]
 .show#[cU,k.no l (by change(pieceAt s i>>=λ_=>_)=_;rw[fX<|nt e];rfl)<|am.refl _]
 let[n,a,0,W,c]:=eS<|nf e;show#[1,D,I,L,0,r,G.no dk,1,t,_,_,1,0,cc.of u,bH (j:=1) rfl,_,s,j,0,l,1,cg (λe=>?_) λe=>?_]
 .show#[cU,k.no l (by change(pieceAt s n>>=λ_=>pieceAt s j>>=λ_=>_)=_;rw[c,fX<|nt e];rfl)<|am.refl _]
 let[m,b,0,hb,y]:=eS<|nf e;let M:=k.ret l (show does s (.joined (n:Int) (m:Int))=.ok (s,truth<|joined ↥s n m) by change(pieceAt s n>>=λ_=>pieceAt s m>>=λ_=>_)=_;rw[c,y];rfl)
 show#[1,t,_,_,1,0,cc.of u,bH (j:=1) rfl,2,t,_,_,1,0,cc.of u,bH (j:=0) rfl,_,s,n,0,l,kY g.ok W,λH1 d q v hd O S=>?_];let J:(cY (stK q)<|ik m).isSome=joined ↥s n m:=by
  unfold joined;rw[bQ,bg,<-S.key gU,<-lF,ci,ae];walk
  .ext⟨kv,R,U⟩;let[x,B,0]:=ae.mp R;show#[x,B,dw<|aF U]
  .ext⟨x,B,rfl⟩;show#[(ik x.1,.int (x.2:Int)),ae.mpr #[x,B,0],aU rfl]
 show#[d,1,cP.k (k:=ik m) O,1,cg (λe=>?_) λe=>?_]
 .show#[cU,λp c=>M _ _ (v.trans<|am.new c) (v.free c) ?_];rw[J]at e;rw[e,ag];rfl
 .show#[cU,λp c=>M _ _ (v.trans<|am.new c) (v.free c) ?_];rw[J]at e;rw[e,ag];rfl
def yQ(K:Frag)(CP CB:Addr):Sp:=fi K CP CB λa c=>a=[]/\c=.nets
def tE{H:Hp}{b:Type}{R:Rep b}{f:b->List Int}(h:∀v x,R H v x->IsT K H v (f x)):∀{c:List V} {d:List b},Paired (R H) c d->Paired (Eb K H) c (d.map f)
 |_,_,.nil=>.nil
 |_,_,.cons r t=>.cons (let #[a,e,q]:=h _ _ r;#[a,e,.inr q])<|tE h t
def Ae(T:Facts K m CP CB):Df P w K m d 6 "answer_nets" ["board","given"] (yQ K CP CB):=by
 show T.Ar.dx ["board","given"] λf i A c s H F Q E b C B h=>?_;let[D,s,u,_,1,g,z,[0,0],k]:=h;let j:does s .nets=.ok (s,((vG s).length:Int)::((vG s).map λe=>[(e.1:Int),(e.2.1:Int),(e.2.2:Int)]).flatten):=by
  change Except.ok (s,((allNets s).length:Int)::(allNets s).flatMap λ(n:Nat)=>[(n:Int),((s.all.filter λa=>a.2.net==n).length:Int),((partsOfNet s (parts ↥s) n).length:Int)])=_;unfold vG;rw[ac,bX,ib];rfl
 let l:=k.ret g j;show#[_,(ao<|aM<|du (Ie T) b<|aa (du (Co T) b<|aa (pv 0) ah) ah),?_];show#[1,_,s,0,g,λt a q p y e o=>#[a,q,(vG s).map λe=>[(e.1:Int),(e.2.1:Int),(e.2.2:Int)],0,e,by show tE (R:=QG K) (λv x h=>h) o,?_,?_]]
 .let:=kz (l:=(vG s).map λe=>[(e.1:Int),(e.2.1:Int),(e.2.2:Int)]) (m:=3) λr b=>by
   let[x,1]:=ae.mp b;show aE _
  rw[ac]at this;unfold vG at this;rw[ac]at this;let:=pT (s:=s);unfold vG;lk
 .rw[ac];show l.after p
def yR(K:Frag)(CP CB:Addr):Sp:=fi K CP CB λa c=>∃i,a=[i]/\c=.near i
def Af(T:Facts K F CP CB):Df P w K F j 9 "answer_near" ["board","given"] (yR K CP CB):=by
 show T.As.dx ["board","given"] λf C A g s H X Q E d U O h=>?_;let[W,s,m,_,1,n,p,[i,0,0],k]:=h;show#[_,(af (cF (dG<|m8 fE fE aI (iR K (pv 1) aI)<|gc T.Ct.sG) (ao<|aM<|cR<|aa (gc T.Ct.x8) ah) bA)
  (ao<|aM<|du (Ie T) d<|aa (du (Ck T) d<|aa (pv 0)<|aa (iR K (pv 1) aI) ah) ah)),?_]
 dsimp only[sv,xN,EN,G7];show uJ (x:=i) (hi:=1000000000) (λy h=>#[1,m,_,_,1,0,cc.of p,bH (j:=0) rfl,h]) (λy h=>h)<|cg (λe=>?_) λe=>?_
 .show#[cU,k.no n (by change(must (decide<|1<=i/\i<=1000000000) (-9)>>=λ_=>_)=_;rw[jW<|nt e];rfl)<|am.refl _]
 let M:=aF<|nf e;let[c,0]:∃c:Nat,i=(c:Int):=#[i.toNat,om];let D:does s (.near (c:Int))=.ok (s,((nearPairs ↥s c s.all).length:Int)::((nearPairs ↥s c s.all).map λx=>[(x.1:Int),(x.2:Int)]).flatten):=by
  change(must (decide<|1<=(c:Int)/\(c:Int)<=1000000000) (-9)>>=λ_=>_)=_;rw[gR<|nf e,<-ib];rfl
 rw[xo D]at k;show#[2,m,_,_,1,0,cc.of p,bH (j:=0) rfl,_,s,c,0,n,om,λJ a I q N e G B=>?_];show#[a,I,(nearPairs ↥s c s.all).map λx=>[(x.1:Int),(x.2:Int)],0,e,by show tE (R:=MC K) (λv x h=>h) G,?_,λL b u o l=>?_]
 .let:=kz (l:=(nearPairs ↥s c s.all).map λx=>[(x.1:Int),(x.2:Int)]) (m:=2) λr d=>by
   let[x,1]:=ae.mp d;show aE _
  rw[ac]at this;let R:=Cj ↥s c s.all;let t:=tf (s:=s);let S:s.all.length*s.all.length<=128*128:=pq t t;lk
 .rw[ac]at l;show k _ _ (q.kp.trans<|Kp.of u) (λY z=>?_) l<|B.same u;rw[q.kp _ _ z rfl]at o;cases o
end
section
variable{K:Frag}{CP CB:Addr}
def O0.one(k:O0 K CP CB H i (step s c) Q)(h:does s c=.ok (s',[n]))(d:Kp H a)(g:dD K CP CB a i s'):∀p,a p=none->Q (.ref p) (upd a p<|.lst [.int n]):=λp b=>by
 rw[xo h]at k;let f:am a (upd a p<|.lst [.int n]):=am.new b;show k _ _ (d.trans<|Kp.of f) (λj e=>by rw[d _ _ e rfl]at b;cases b) ag<|g.same f
def wn(K:Frag)(CP CB:Addr):Sp:=fi K CP CB λa c=>∃i,a=[i]/\c=.begin_ i
def yS(T:Facts K C CP CB):Df P w K C d 2 "answer_begin" ["board","given"] (wn K CP CB):=by
 show T.zk.dx ["board","given","layers"] λf t A b s H S Q E z D N h=>?_;let[R,s,u,_,1,p,x,[i,0,0],k]:=h;let[m,O,ld,M,B,I,J,o,j,g]:=id p;let[c,l,0,a,v,y]:=id o;show#[_,(af (aS 2 D<|iR K (pv 1) aI)
  (af (cF (dG<|m8 fE fE aI (pv 2)<|gc T.Ct.DF) (ao<|aM<|cR<|aa (gc T.Ct.sD) ah) bA)
  (af (dL<|met (FC T) T.c8.cls z (pv 0)<|aa (pv 2) ah)
  (ao<|aM<|cR<|aa aI ah)))),?_]
 show#[1,u,_,_,1,0,cc.of x,bH rfl,?_];dsimp only[dQ,sv,xN,EN,G7];show uJ (x:=i) (λq h=>#[1,h]) (λq h=>h)<|cg (λe=>?_) λe=>?_
 .show#[cU,k.no p (by change(must (decide<|1<=i/\i<=16) (-1)>>=λ_=>_)=_;rw[jW<|nt e];rfl)<|am.refl _]
 let L:=aF<|nf e;let[n,0]:∃n:Nat,i=(n:Int):=#[i.toNat,om];show#[1,c,l,m,0,a,j.no dk,1,c,l,m,n,0,a,.inr #[_,_,_,_,j],om,λG F r=>#[cU,?_]];show k.one (by change(must (decide<|1<=(n:Int)/\(n:Int)<=16) (-1)>>=λ_=>_)=_;rw[gR<|nf e];rfl) (F.kp a) r
def uQ(K:Frag)(CP CB:Addr):Sp:=fi K CP CB λa c=>∃i,a=[i]/\c=.remove i
def wo(T:Facts K G CP CB):Df P w K G l 4 "answer_remove" ["board","given"] (uQ K CP CB):=by
 show T.wM.dx ["board","given"] λf x A d s H U Q E u O N h=>?_;let[S,s,r,_,1,c,t,[i,0,0],k]:=h;let[q,R,ld,M,F,J,L,o,m,g]:=id c;let[j,p,0,b,z,B]:=id o;show#[_,(af (cF (dG<|cV<|met (JV T) T.c8.cls u (pv 0)<|aa (iR K (pv 1) aI) ah) (ao<|aM<|cR<|aa (gc T.Ct.dv) ah) bA)
  (af (dL<|met (HS T) T.c8.cls u (pv 0)<|aa (iR K (pv 1) aI) ah)
  (ao<|aM<|cR<|aa aI ah))),?_]
 show#[1,j,p,q,0,b,m.no dk,1,r,_,_,1,0,cc.of t,bH rfl,_,s,i,0,c,1,cg (λe=>?_) λe=>?_]
 .show#[cU,k.no c (by change(pieceAt s i>>=λ_=>_)=_;rw[fX<|nt e];rfl)<|am.refl _]
 let[n,a,0,y,C]:=eS<|nf e;show#[1,j,p,q,0,b,m.no dk,1,r,_,_,1,0,cc.of t,bH rfl,_,n,s,a,0,c,y,λI D v=>#[cU,?_]];show k.one (by change(pieceAt s n>>=λ_=>_)=_;rw[C];rfl) D.kp v
def fJ.eqv{ld e:Addr}(h:fJ H s ld e g)(c:∀m,(∃b,f.get m=some b)↔∃b,s.get m=some b)(d:∀m q,q∈neighbours ↥f m↔q∈neighbours ↥s m):fJ H f ld e g:=
 #[h.at_,h.nd,λk v l=>let #[n,o,r,t,u,#[p,x,y,z],w]:=h.isin k v l;#[n,o,r,(c n).mpr t,u,#[p,x,y,λk=>(z k).trans #[λ#[m,a,b]=>#[m,a,(d n m).mpr b],λ#[m,a,b]=>#[m,a,(d n m).mp b]]],w],λn a i=>let #[b,j]:=(c n).mp #[a,i];h.all n b j,h.inj]
def wu(K:Frag)(CP CB:Addr):Sp:=fi K CP CB λa c=>∃i n,a=[i,n]/\c=.label i n
def yT(T:Facts K mg CP CB):Df P w K mg base 2 "answer_label" ["board","given"] (wu K CP CB):=by
 show T.zl.dx ["board","given"] λf cdv A outer s H vs Q E hr nd hu h=>?_;let[vb,s,O,_,1,R,U,[i,d,0,0],k]:=h;let[fs,pd,ld,gd,kvs,bL,cW,o,N,g]:=id R;let[W,dx,0,C,hcl,hna]:=id o;show#[_,(af (cF (dG<|cV<|met (JV T) T.c8.cls hr (pv 0)<|aa (iR K (pv 1) aI) ah) (ao<|aM<|cR<|aa (gc T.Ct.dv) ah) bA)
  (af (cF (dG<|cV<|du (KQ T) hr<|aa (iR K (pv 1) aI) ah) (ao<|aM<|cR<|aa (gc T.Ct.A4) ah) bA)
  (af (kF (b7 hu (fv K 0) (iR K (pv 1) aI) λ_ _=>rfl) (iR K (pv 1) aI) rfl)
  (ao<|aM<|cR<|aa aI ah)))),?_]
 show#[1,W,dx,fs,0,C,N.no dk,1,O,_,_,1,0,cc.of U,bH (j:=0) rfl,_,s,i,0,R,1,cg (λe=>?_) λe=>?_]
 .show#[cU,k.no R (by change(pieceAt s i>>=λ_=>_)=_;rw[fX<|nt e];rfl)<|am.refl _]
 let[n,a,0,S,hp]:=eS<|nf e;show#[1,O,_,_,1,0,cc.of U,bH (j:=1) rfl,d,0,1,cg (λe=>?_) λe=>?_]
 .show#[cU,k.no R (by change(pieceAt s n>>=λ_=>must (decide<|0<=d/\d<=1000000000) (-3)>>=λ_=>_)=_;rw[hp,jW<|nt e];rfl)<|am.refl _]
 let em:=aF<|nf e;let[D,v1,p1]:=g.ie.get S;let[v,t,p,F,pn,pl]:=id p1;show#[1,O,_,_,1,0,cc.of U,bH (j:=1) rfl,1,_,_,_,o,N.pieces,1,O,_,_,1,0,cc.of U,bH (j:=0) rfl,pd,1,(by rw[<-v1];show cP.k (k:=ik n) g.ie.at_),D,CP,v,t,0,p,T.TP.cls,T.TP.no _ dk,om,cU,?_]
 let B:=gz g.ok S;generalize y:({a with net:=d.toNat}:Piece)=r;let M:r.shape=a.shape/\r.lo=a.lo/\r.hi=a.hi:=by subst y;show#[0,0,0]
 let L:∀m,(s.set n<|some r).get m=if m=n then some r else s.get m:=λm=>get_set g.ok.len B;let sx:gn D H (upd H D<|.ins CP v<|dM "net" (.int d) t):=gn.upd _ _ _;let kp:=sx.kp p;let X:W≠D:=Bf C N p1;let p2:lU K CP (upd H D<|.ins CP v<|dM "net" (.int d) t) D r:=by
  subst y;let j:∀f:Str,(dM "net" (V.int d) t).lookup f=if f="net" then some (.int d)else t.lookup f:=λf=>bP _ _ _ _;show#[v,_,ag,#[?_,?_,?_,?_,?_,F.r0,F.r1],λf u hf=>?_,?_]
  .rw[j,aH rfl];change some (V.int d)=some (V.int ((d.toNat:Nat):Int));rw[lj em.1]
  .rw[j,az dk];show F.first
  .rw[j,az dk];show F.last
  .rw[j,az dk];show F.d9
  .let I:=F.placed.kp kp;show#[?_,?_,?_,I.ne,I.n9,I.rg]
   .rw[j,az dk];show I.pts
   .rw[j,az dk];show I.box
   .rw[j,az dk];show I.oW
  .rw[j]at hf;by_cases z:f="net"
   .rw[z];decide+kernel
   .rw[az z]at hf;show pn f u hf
  .rw[fW _ _ _ #[_,F.net]];show pl
 let e1:∀m,(∃b,(s.set n<|some r).get m=some b)↔∃b,s.get m=some b:=λm=>by
  rw[L];by_cases z:m=n
  .grind
  .rw[az z]
 let tc:∀b c:Piece,∀l J:Piece,l.shape=b.shape/\l.lo=b.lo/\l.hi=b.hi->J.shape=c.shape/\J.lo=c.lo/\J.hi=c.hi->touching l J=touching b c:=λb c l J Z h2=>by
  unfold touching level;rw[Z.1,Z.2.1,Z.2.2,h2.1,h2.2.1,h2.2.2]
 let e2:∀m q,q∈neighbours (s.set n<|some r).graph m↔q∈neighbours ↥s m:=λm q=>by
  rw[iQ,iQ];let cor:∀x (l:Piece),(s.set n<|some r).get x=some l->∃b,s.get x=some b/\l.shape=b.shape/\l.lo=b.lo/\l.hi=b.hi:=λx l hx=>by
   rw[L]at hx;by_cases z:x=n
   .grind
   .grind
  let cor2:∀x (b:Piece),s.get x=some b->∃l,(s.set n<|some r).get x=some l/\l.shape=b.shape/\l.lo=b.lo/\l.hi=b.hi:=λx b hx=>by
   rw[L];by_cases z:x=n
   .grind
   .grind
  walk
  .grind
  .grind
 let Y:gd≠D:=λz=>by subst z;rw[g.sO.at_]at p;cases p
 show k.one (s':=s.set n<|some r) (by change(pieceAt s n>>=λ_=>must (decide<|0<=d/\d<=1000000000) (-3)>>=λ_=>_)=_;rw[hp,gR<|nf e,<-y];rfl) kp #[fs,pd,ld,gd,kvs,bL,cW,#[W,dx,0,by rw[aA X];show C,hcl,hna],N,?_,g.lay,λm c G=>?_,g.ie.Ky v1 p sx p2 L,(g.vU.sx p sx).eqv e1 e2,(g.sO.kp kp<|aA Y).mo λm c G=>?_,g.pl]
 .show Bx g.ok B λc e=>by cases e;rw[M.1];show g.ok.pts _ _ S
 .rw[L]at G;by_cases z:m=n
  .rw[aH z]at G;cases G
   let:=g.Fj n a S;show#[by rw[M.2.1];show this.lo,by rw[M.2.1,M.2.2];show this.hi,by rw[M.2.2];show this.top,?_]
   subst y;change d.toNat<=1000000000;lk
  .rw[az z]at G;let:=g.Fj m c G;show#[this.lo,this.hi,this.top,this.net]
 .grind
end
section
variable{K:Frag}{CP CB:Addr}
def KS(p:Pt):List Int:=[p.x,p.y]
def MO(h:Paired (eF K H) b a):Paired (Eb K H) b (a.map KS):=tE (R:=eF K) (λv x h=>h.1) h
def xr(a:List Pt):(a.map KS).flatten.length<=a.length*2:=by
 let:=kz (l:=a.map KS) (m:=2) λr b=>by
  let[x,1]:=ae.mp b;show aE _
 rw[ac]at this;show this
def wv(K:Frag)(CP CB:Addr):Sp:=fi K CP CB λa c=>∃i,a=[i]/\c=.piece i
def yU(T:Facts K mg CP CB):Df P w K mg x 2 "answer_piece" ["board","given"] (wv K CP CB):=by
 show T.zm.dx ["board","given","piece"] λf G A u s H vs Q E D nd Z h=>?_;let[vb,s,z,_,1,m,B,[i,0,0],k]:=h;let[M,pd,ld,gd,kvs,bL,cW,o,y,g]:=id m;let[F,I,0,r,U,X]:=id o;show#[_,(af (cF (dG<|cV<|met (JV T) T.c8.cls D (pv 0)<|aa (iR K (pv 1) aI) ah) (ao<|aM<|cR<|aa (gc T.Ct.dv) ah) bA)
  (af (aS 2 nd<|b7 Z (fv K 0) (iR K (pv 1) aI) λ_ _=>rfl)
  (ao<|aM<|cat (cR<|aa (fv K 2)<|aa (fv K 2)<|aa (fv K 2)<|aa (fv K 2) ah)<|du (Ec T) D<|aa (fv K 2) ah))),?_]
 show#[1,F,I,M,0,r,y.no dk,1,z,_,_,1,0,cc.of B,bH (j:=0) rfl,_,s,i,0,m,1,cg (λe=>?_) λe=>?_]
 .show#[cU,k.no m (by change(pieceAt s i>>=λ_=>_)=_;rw[fX<|nt e];rfl)<|am.refl _]
 let[n,a,0,S,Y]:=eS<|nf e;let J:does s (.piece (n:Int))=.ok (s,(a.net:Int)::(a.lo:Int)::(a.hi:Int)::(a.shape.r:Int)::(a.shape.pts.map KS).flatten):=by
  change(pieceAt s n>>=λ_=>_)=_;rw[Y,<-ib];rfl
 let k2:=k.ret m J;let[pa,v1,p1]:=g.ie.get S;let[N,j,d]:=p1.is T.TP;let[vp,lp,[la,us,0,R,O]]:=d.placed.pts;let c:=d.placed.n9;let W:=xr a.shape.pts;show#[1,_,_,_,o,y.pieces,1,z,_,_,1,0,cc.of B,bH (j:=0) rfl,pd,1,(by rw[<-v1];show cP.k (k:=ik n) g.ie.at_),?_]
 show#[1,_,_,_,j,d.net,1,_,_,_,j,d.first,1,_,_,_,j,d.last,1,_,_,_,j,d.d9,dc,λp t=>?_]
 let l:am H (upd H p<|.lst [.int (a.net:Int),.int (a.lo:Int),.int (a.hi:Int),.int (a.shape.r:Int)]):=am.new t;show#[1,_,_,_,iU.same j l,lp,la,us,a.shape.pts.map KS,0,l.seq R,(MO O).mono λ_ _ q=>q.same l,?_,λH2 b v hb L=>?_]
 .let:a.shape.pts.length<=32:=c;lk
 show#[p,b,_,1,0,v _ _ ag,L,?_,λq C=>?_]
 .rw[ac];let:a.shape.pts.length<=32:=c;show Pk<|by change 4+(a.shape.pts.map KS).flatten.length<=200000;lk
 .show k2 _ _ ((l.trans v).trans<|am.new C) ((l.trans v).free C) ag
def QM(K:Frag):Rep Pt:=λH v p=>IsT K H v<|KS p
def QM.mon:Mon K (QM K):=λ_ _ _ _ t h=>h.ts t
def KU(a:List Pt):(a.map KS).flatten.all inR=a.all inRange:=by
 induction a with
 |nil=>rfl
 |cons p l b=>
  rw[bm,ou,List.all_append,iM,b];congr 1;unfold KS inRange inR MOST;simp only[iM,List.all_nil,lf];rw[<-tU,b8];lk
def QN(h:inRange p=true):Rg p:=by
 unfold inRange MOST at h;let:=aF h;show#[this.1,this.2.1,this.2.2.1,this.2.2.2]
def yV(K:Frag)(CP CB:Addr):Sp:=fi K CP CB λa c=>∃i x y,a=[i,x,y]/\c=.move i x y
def Ag(c:Facts K mg CP CB):Df P w K mg base 10 "answer_move" ["board","given"] (yV K CP CB):=by
 show c.At.dx ["board","given","x","y","moved"] λf cdv A Z s H vs Q E N Y hu h=>?_;let[vb,s,r,_,1,u,F,[i,x,y,0,0],k]:=h;let[fs,pd,ld,gd,kvs,bL,cW,o,S,g]:=id u;let[ba,dx,0,C,hcl,hna]:=id o;show#[_,(af (cF (dG<|cV<|met (JV c) c.c8.cls N (pv 0)<|aa (iR K (pv 1) aI) ah) (ao<|aM<|cR<|aa (gc c.Ct.dv) ah) bA)
  (af (kh (i:=4) rfl Y rfl rfl (ma rfl rfl rfl rfl) (oE K<|fld K (Q7 (mF<|BR 0)<|SE RU (BR 1) mC)<|b7 hu (fv K 0) (iR K (pv 1) aI) λ_ _=>rfl) (cZ (own:=[("x",2),("y",3)])<|by kernel_rfl) (λ_ _ _ _ _=>(Le K 2<|dC (bF 2 Y)<|dC (bF 3 Y) jZ)) (λ_ _ _ _ _=>g_) λ_ _ _ _ _=>(eI<|aa (ad (pv 2)<|iR K (pv 1) aI)<|aa (ad (pv 3)<|iR K (pv 1) aI) ah))
  (af (cF (dG<|cV<|du (FH c) N<|aa (du (Ec c) N<|aa (pv 4) ah) ah) (ao<|aM<|cR<|aa (gc c.Ct.jc) ah) bA)
  (af (dL<|met (FD c) c.c8.cls N (pv 0)<|aa (iR K (pv 1) aI)<|aa (pv 4) ah)
  (ao<|aM<|cR<|aa aI ah))))),?_]
 show#[1,ba,dx,fs,0,C,S.no dk,1,r,_,_,1,0,cc.of F,bH (j:=0) rfl,_,s,i,0,u,1,cg (λe=>?_) λe=>?_]
 .show#[cU,k.no u (by change(pieceAt s i>>=λ_=>_)=_;rw[fX<|nt e];rfl)<|am.refl _]
 let[n,a,0,ha,hp]:=eS<|nf e;let[pa,v1,p1]:=g.ie.get ha;let[fsp,op,pf]:=p1.is c.TP;let[vp,lp,[la,us,0,hS,hP]]:=pf.placed.pts;let hfew:a.shape.pts.length<=32:=pf.placed.n9;dsimp only[sv,xN];show QE<|vM ?_;show#[1,_,_,_,o,S.pieces,1,r,_,_,1,0,cc.of F,bH (j:=0) rfl,pd,1,(by rw[<-v1];show cP.k (k:=ik n) g.ie.at_),_,_,_,op,lp,la,0,#[_,hS],?_]
 show lG (K:=K) (T:=QM K) (src_list (K:=K) (R:=eF K) (vs:=us) (xs:=a.shape.pts)) QM.mon (shifted #[x,y]) om (λH' e=>#[e.seq hS,cO eF.mon (am.ts e) hP]) ?_ ?_
 .ext p v H2 Q1 hx M ⟨⟨t,rfl,ht⟩,_⟩ k1;show#[t,1,ht,0,_,1,_,1,0,0,?_];show#[2,r,_,_,1,0,cc.of<|M _ _ F,bH (j:=1) rfl,_,1,0,2,r,_,_,1,0,cc.of<|M _ _ F,bH (j:=2) rfl,_,1,0,da,λq hq=>?_];show k1 _ _ (am.new hq) #[q,0,gT.of ag]
 .intro H2 D m M hD eD O;generalize U:a.shape.pts.map (shifted #[x,y])=L at O;let B:L.length=a.shape.pts.length:=by rw[<-U,ac]
  let W:L≠[]:=λz=>by
   let:=pf.placed.ne;rw[z]at B;show this<|f_.mp B.symm
  show#[1,D,m,L.map KS,0,cc.of eD,tE (R:=QM K) (λv x h=>h) O,?_,λH3 b s3 hb e3=>?_]
  .let:=xr L;lk
  let s23:=M.trans s3;show#[b,1,cc.of e3,?_,λH4 s4=>#[1,cg (λe=>?_) λe=>?_]]
  .let:=xr L;lk
  .let l:=nt e;rw[KU]at l;let T:does s (.move (n:Int) x y)=.error (-7):=by
    change(pieceAt s n>>=λa=>must ((a.shape.pts.map<|shifted #[x,y]).all inRange) (-7)>>=λ_=>_)=_;rw[hp];change(must ((a.shape.pts.map<|shifted #[x,y]).all inRange) (-7)>>=λ_=>_)=_;rw[U,jW l];rfl
   show#[cU,k.no u T<|s23.trans s4]
  .let l:=nf e;rw[KU]at l;let d:=s3.trans s4;let R:=M.trans d;let J:Hr K H4 (.ref D) L:=#[D,m,0,cc.of<|d _ _ eD,uu (by rw[O.length]) λj v p hv G=>by
    let[v',I,q]:=im O G;rw[hv]at I;cases I
    show#[q.ts (am.ts d),QN<|c7.mp l p<|aX G]]
   let T:does s (.move (n:Int) x y)=.ok (s.set n<|some {a with shape:=#[a.shape.r,L]},[0]):=by
    change(pieceAt s n>>=λa=>must ((a.shape.pts.map<|shifted #[x,y]).all inRange) (-7)>>=λ_=>_)=_;rw[hp];change(must ((a.shape.pts.map<|shifted #[x,y]).all inRange) (-7)>>=λ_=>_)=_;rw[U,gR l];rfl
   show#[1,ba,dx,fs,0,R _ _ C,S.no dk,1,r,_,_,1,0,cc.of<|R _ _ F,bH (j:=0) rfl,1,_,n,_,s,a,L,0,u.same R,ha,J,W,om,λH5 X b5=>#[cU,?_]];show k.one T ((Kp.of R).trans X) b5
def qpx(g:H x=none)(h:H c=none)(j:c≠x)(i:gn x (upd (upd H c<|.own x) x<|.ins CP c []) e):am H e:=λb o a=>by
 let d:b≠x:=λz=>by subst z;rw[g]at a;cases a
 let f:b≠c:=λz=>by subst z;rw[h]at a;cases a
 show i _ _ d<|by rw[aA d,aA f];show a
def yW(b:H x=none)(c:H a=none)(d:a≠x):am H (upd (upd H a<|.own x) x<|.ins CP a []):=qpx (CP:=CP) b c d<|gn.refl _ _
def ww(K:Frag)(CP CB:Addr):Sp:=fi K CP CB λa c=>∃l x y,a=[l,x,y]/\c=.point l x y
def yX(d:Facts K mg CP CB):Df P w K mg base 8 "answer_point" ["board","given"] (ww K CP CB):=by
 show d.zn.dx ["board","given","layer","spot","number"] λf cdv A outer s H vs Q E B R hu h=>?_;let[vb,s,Y,_,1,G,hg,[l,x,y,0,0],k]:=h;let[fs,pd,ld,gd,kvs,bL,cW,o,S,g]:=id G;let[ba,dx,0,hba,hcl,hna]:=id o;show#[_,(af (aS 2 R<|iR K (pv 1) aI)
  (af (cF (dG<|m8 fE fE aI (pv 2)<|fv K 0) (ao<|aM<|cR<|aa (gc d.Ct.sE) ah) bA)
  (af (cF (dG<|cV<|du (FH d) B<|aa (Ld K (pv 1) (fT aI) iC) ah) (ao<|aM<|cR<|aa (gc d.Ct.jc) ah) bA)
  (af (aS 3 R<|Sh (K2 (B4 d) d.SK d.SL d.SM) B<|aa aI<|aa (pv 2)<|aa (pv 2)<|aa aI<|aa (du (Ab d) B<|aa (Ld K (pv 1) (fT aI) iC) ah) ah)
  (ao<|aM<|du (Ib d) B<|aa (ke rfl R (oE K<|zT (B6 d) d.c8.cls B<|pv 0) (cZ (own:=[("number",4)])<|by kernel_rfl) (λ_ _ _ _ _=>(bF 4 R)) (λ_ _ _ _ _=>(jv<|cV<|du (yf d) B<|aa (pv 3)<|aa (b7 hu (fv K 0) (pv 4) λ_ _=>rfl) ah)) λ_ _ _ _ _=>(pv 4)) ah))))),?_]
 show#[1,Y,_,_,1,0,cc.of hg,bH (j:=0) rfl,?_];dsimp only[dQ,sv,xN,EN,G7];show uJ (x:=l) (hi:=(s.layers:Int)) (λQ' h=>#[1,h]) (λQ' h=>#[1,_,_,_,o,S.layers,h])<|cg (λe=>?_) λe=>?_
 .show#[cU,k.no G (by change(must (decide<|1<=l/\l<=(s.layers:Int)) (-4)>>=λ_=>_)=_;rw[jW<|nt e];rfl)<|am.refl _]
 let W:=nf e;let em:=aF W;show#[2,Y,1,cc.of hg,λp hp=>?_];let j:jb [V.int l,V.int x,V.int y] (some 1) none=[x,y].map V.int:=lw [V.int l,V.int x,V.int y] 1;rw[show([l,x,y]:List Int).map V.int=[V.int l,V.int x,V.int y]from rfl,j];let s1:am H (upd H p<|.lst<|[x,y].map V.int):=am.new hp;let eR:([x,y]:List Int).all inR=inRange #[x,y]:=Cq [x,y] 1 rfl|>.symm.trans (by simp[points])
 show#[p,[x,y],0,cc.of ag,(show 2<100000 by decide),λH2 s2=>#[1,cg (λe=>?_) λe=>?_]]
 .let C:=nt e;rw[eR]at C;show#[cU,k.no G (by change(must (decide<|1<=l/\l<=(s.layers:Int)) (-4)>>=λ_=>must (inRange #[x,y]) (-7)>>=λ_=>_)=_;rw[gR W,jW C];rfl)<|s1.trans s2]
 let C:=nf e;let F:=C;rw[eR]at F;let L:=s1.trans s2;let e1:does s (.point l x y)=.ok (s,counted ((s.all.filter λa=>touching a.2 #[(0),l.toNat,l.toNat,#[(0),[#[x,y]]]]).map λa=>a.1)):=by
  change(must (decide<|1<=l/\l<=(s.layers:Int)) (-4)>>=λ_=>must (inRange #[x,y]) (-7)>>=λ_=>_)=_;rw[gR W,gR F];rfl
 let k2:=k.ret G e1;generalize I:(#[(0),l.toNat,l.toNat,#[(0),[#[x,y]]]]:Piece)=c at k2;show#[4,Y,1,cc.of<|L _ _ hg,λp2 hp2=>?_];rw[show([l,x,y]:List Int).map V.int=[V.int l,V.int x,V.int y]from rfl,j];let s3:am H2 (upd H2 p2<|.lst<|[x,y].map V.int):=am.new hp2;show#[p2,[x,y],(1),0,cc.of ag,0,de,C,λH4 b us s4 hb e4 pr=>?_];let s14:=(L.trans s3).trans s4;intro sa U h1 h2 hn;let sn:=yW (CP:=CP) h1 h2 hn;show#[sa,U,(0),l,l,(0),_,[#[x,y]],0,ag,#[b,us,0,cc.of<|sn _ _ e4,cO eF.mon (am.ts sn) pr],by simp,by simp,de,de,λH5 hpc sx=>#[0,?_]]
 let s5:am H4 H5:=qpx (CP:=CP) h1 h2 hn sx;let r:=s14.trans s5;let[T,X,Z,pf5,pn5,_]:=hpc;let i:oO K CP H5 (.ref sa) (gG c):=by
  show#[X,#[sa,T,0,Z,d.TP.cls,λf u hf=>d.TP.no f<|pn5 f u hf],?_];subst I;let N:((l.toNat:Nat):Int)=l:=lj om;let:gG #[(0),l.toNat,l.toNat,#[(0),[#[x,y]]]]=#[(0),l,l,(0),[#[x,y]]]:=by
   unfold gG;simp only[N];rfl
  rw[this];show pf5
 let m:c.shape.pts≠[]:=by subst I;simp
 dsimp only[dQ];show rA<|Qi<|vj<|vM ?_;show#[1,ba,dx,fs,0,r _ _ hba,S.no dk,_,s,0,G.same r,λH6 nl s6 hnl F=>?_];let t:=r.trans s6;show#[nl,0,#[_,cc.of F],?_]
 let' q:Nat->Bool:=λn=>match s.get n with|some a=>touching a c|none=>false
 show kG (K:=K) (T:=iu) (src_list (K:=K) (R:=iu) (vs:=(zs<|nodes ↥s).map V.int) (xs:=nodes ↥s)) iu.mon q id (bi cz de) (λH' e=>#[cc.of (e _ _ F),fL _]) ?_ ?_
 .ext n v H7 Q1 Q0 hn' M rfl kt' kf';let[a,O]:=jk hn';let g7:=(g.same t).same M;let[pa,v1,p1]:=g7.ie.get O;let et:q n=pH (gG c) (gG a):=by
   change(match s.get n with|some a=>touching a c|none=>false)=_
   rw[O,qj m<|g.ok.pts _ _ O,jY m<|g.ok.pts _ _ O]
  show#[0,2,_,_,_,iU.same (iU.same o t) M,S.pieces,1,pd,1,(by rw[<-v1];show cP.k (k:=ik n) g7.ie.at_),?_]
  show#[_,_,gG c,gG a,0,(i.same s6).same M,p1.is d.TP,λH8 s8=>#[1,?_]];show cg (λe=>#[1,kt' _ _ s8 (by rw[et];show e) rfl]) λe=>kf' _ s8<|by rw[et];show e
 .intro H7 D acc M hD N J;rw[f9]at J;let ea:=pL J;subst ea;let ef:(nodes ↥s).filter q=(s.all.filter λa=>touching a.2 c).map λa=>a.1:=by
   rw[eG,kE];congr 1;show wT λz hz=>?_;change(match s.get z.1 with|some a=>touching a c|none=>false)=_
   rw[(lZ.mp hz).2]
  rw[ef]at N;show jE (K:=K) (E:=E0) k2 (t.trans M) N ?_;rw[<-ef];show lA a_
end
def O1(l:List Pt):(fromLowest l).length=l.length:=by
 unfold fromLowest;split
 .rfl
 .rw[aW,iY,<-aW,List.takeWhile_append_dropWhile]
def FK(l:List Pt):(normal l).length=l.length:=by
 unfold normal;split
 .split<;>rfl
 .rw[O1];split
  .rw[gH]
  .rfl
def MP(g:decide (0<=r/\r<=1000000000)=true)(d:nL a≠0):made r a=.error (nL a):=by
 change(must (decide<|0<=r/\r<=1000000000) (-5)>>=λ_=>must (decide<|a.length%2=0/\1<=a.length/2/\a.length/2<=32) (-6)>>=λ_=>must ((points a).all inRange) (-7)>>=λ_=>must (skeleton<|points a) (-8)>>=λ_=>_)=_;unfold nL at d|-;rw[gR g];by_cases b:decide (a.length%2=0/\1<=a.length/2/\a.length/2<=32)=false
 .rw[aH b,jW b];rfl
 rw[az b]at d|-;let f:decide (a.length%2=0/\1<=a.length/2/\a.length/2<=32)=true:=by simpa using b
 rw[gR f];let[n,h,_,_]:=Cr<|aF f;rw[Cq a n h];by_cases c:a.all inR=false
 .rw[aH c,jW c];rfl
 rw[az c]at d|-;rw[gR<|by simpa using c]
 by_cases e:skeleton (points a)=false
 .rw[aH e,jW e];rfl
 .grind
def GP(i:decide (0<=r/\r<=1000000000)=true)(b:nL a=0):made r a=.ok #[r.toNat,normal<|points a]/\(∃n,a.length=2*n/\1<=n/\n<=32)/\a.all inR=true:=by
 unfold nL at b;by_cases c:decide (a.length%2=0/\1<=a.length/2/\a.length/2<=32)=false
 .rw[aH c]at b;cases b
 rw[az c]at b;let f:decide (a.length%2=0/\1<=a.length/2/\a.length/2<=32)=true:=by simpa using c
 by_cases d:a.all inR=false
 .rw[aH d]at b;cases b
 rw[az d]at b;by_cases e:skeleton (points a)=false
 .rw[aH e]at b;cases b
 let h:=Cr<|aF f;let g:a.all inR=true:=by simpa using d
 show#[?_,h,g];let[n,j,_,_]:=h;change(must (decide<|0<=r/\r<=1000000000) (-5)>>=λ_=>must (decide<|a.length%2=0/\1<=a.length/2/\a.length/2<=32) (-6)>>=λ_=>must ((points a).all inRange) (-7)>>=λ_=>must (skeleton<|points a) (-8)>>=λ_=>_)=_;rw[gR i,gR f,Cq a n j,gR g,gR<|by simpa using e]
 rfl
def Ih(h:firstFree s=none):128<=(nodes ↥s).length:=by
 unfold firstFree Vbpcaf.MOSTPIECES at h;rw[GU]at h;rw[eG,wZ,Eu.mpr λx b=>?_,cu]
 .show aE _
 .let:=h x b;cases e:s.get x with
  |none=>rw[e]at this;simp at this
  |some a=>rfl
def Bl(h:firstFree s=some n):n<128/\s.get n=none/\(∀k,k<n->∃a,s.get k=some a)/\(nodes ↥s).length<128:=by
 let[g,i,b,e,d]:=List.find?_eq_some_iff_getElem.mp h;rw[GV]at e;subst e;let c:s.get i=none:=by simp_all
 show#[b,c,λk f=>?_,?_]
 .let:=d k f;rw[GV]at this;cases e:s.get k with
  |none=>rw[e]at this;cases this
  |some a=>show#[a,0]
 .rw[eG,wZ];let:((List.range 128).filter λn=>(s.get n).isSome).length<(List.range 128).length:=by
   rw[List.length_filter_lt_length_iff_exists];show#[i,cB.mpr b,by rw[c];decide]
  show this
def yY(s:Board)(b lo c r:Int)(d:List Int):does s (.add b lo c r d)=(must (decide<|0<=b/\b<=1000000000) (-3)>>=λ_=>must (decide<|1<=lo/\lo<=c/\c<=(s.layers:Int)) (-4)>>=λ_=>made r d>>=λa=>match firstFree s with
  |none=>.error<|-10
  |some n=>.ok (s.set n<|some #[b.toNat,lo.toNat,c.toNat,a],[(n:Int)])):=rfl
def O2{lo:Int}(h:tm s a lo b r g≠0):does s (.add a lo b r g)=.error (tm s a lo b r g):=by
 rw[yY];unfold tm at h|-;by_cases c:decide (0<=a/\a<=1000000000)=false
 .rw[aH c,jW c];rfl
 rw[az c]at h|-;rw[gR (b:=decide<|0<=a/\a<=1000000000)<|by simpa using c]
 by_cases d:decide (1<=lo/\lo<=b/\b<=(s.layers:Int))=false
 .rw[aH d,jW d];rfl
 rw[az d]at h|-;rw[gR (b:=decide<|1<=lo/\lo<=b/\b<=(s.layers:Int))<|by simpa using d]
 by_cases e:decide (0<=r/\r<=1000000000)=false
 .rw[aH e];let:made r g=.error (-5):=by
   change(must (decide<|0<=r/\r<=1000000000) (-5)>>=λ_=>_)=_;rw[jW e];rfl
  rw[this];rfl
 rw[az e]at h|-;let j:decide (0<=r/\r<=1000000000)=true:=by simpa using e
 by_cases f:nL g≠0
 .rw[aH f];rw[MP j f];rfl
 rw[az f]at h|-;by_cases i:decide (128<=(nodes ↥s).length)=true
 .rw[aH i];let k:firstFree s=none:=by
   cases q:firstFree s with
   |none=>rfl
   |some n=>let:=(Bl q).2.2.2;let:=aF i;lk
  rw[(GP j<|by simpa using f).1,k];rfl
 .grind
def O3{lo:Int}(h:tm s b lo c r d=0):∃n,s.get n=none/\n<128/\(∀k,k<n->∃a,s.get k=some a)/\does s (.add b lo c r d)=.ok (s.set n<|some #[b.toNat,lo.toNat,c.toNat,#[r.toNat,normal<|points d]],[(n:Int)])/\
  (0<=b/\b<=1000000000)/\(1<=lo/\lo<=c/\c<=(s.layers:Int))/\(0<=r/\r<=1000000000)/\(∃n,d.length=2*n/\1<=n/\n<=32)/\d.all inR=true:=by
 rw[yY];unfold tm at h;by_cases e:decide (0<=b/\b<=1000000000)=false
 .rw[aH e]at h;cases h
 rw[az e]at h;by_cases f:decide (1<=lo/\lo<=c/\c<=(s.layers:Int))=false
 .rw[aH f]at h;cases h
 rw[az f]at h;by_cases g:decide (0<=r/\r<=1000000000)=false
 .rw[aH g]at h;cases h
 rw[az g]at h;let l:decide (0<=b/\b<=1000000000)=true:=by grind
 let m:decide (1<=lo/\lo<=c/\c<=(s.layers:Int))=true:=by grind
 let o:decide (0<=r/\r<=1000000000)=true:=by grind
 by_cases i:nL d≠0
 .lk
 rw[az i]at h;let[v,w,x]:=GP o<|by simpa using i
 by_cases j:decide (128<=(nodes ↥s).length)=true
 .rw[aH j]at h;cases h
 cases q:firstFree s with
 |none=>show absurd (aU<|Ih q) j
 |some n=>
  let[p,t,u,_]:=Bl q;show#[n,t,p,u,?_,aF l,aF m,aF o,w,x];rw[gR l,gR m,v];rfl
section
variable{K:Frag}{CP CB:Addr}
def Ah(K:Frag)(CP CB:Addr):Sp:=fi K CP CB λe c=>∃a lo d r b,e=a::lo::d::r::b/\b.length<=200/\c=.add a lo d r b
def Cu(T:Facts K mg CP CB):Df P w K mg base 10 "answer_add" ["board","given"] (Ah K CP CB):=by
 show T.CS.dx ["board","given","net","first","last","radius","numbers","refusal","number"] λf cdv A outer s H vs Q E u l hu h=>?_
 let[vb,s,x,_,1,N,F,[a,lo,i,r,c,0,hl,0],k]:=h;let[Y,pd,ld,gd,I,bL,cW,o,S,g]:=id N;let[ba,dx,0,C,hcl,hna]:=id o;show#[_,(af (aS 2 l<|iR K (pv 1) aI)
  (af (aS 3 l<|iR K (pv 1) aI)
  (af (aS 4 l<|iR K (pv 1) aI)
  (af (aS 5 l<|iR K (pv 1) aI)
  (af (aS 6 l<|Ld K (pv 1) (fT aI) iC)
  (af (aS 7 l<|du (uK T) u<|aa (pv 0)<|aa (pv 2)<|aa (pv 3)<|aa (pv 4)<|aa (pv 5)<|aa (pv 6) ah)
  (af (cF (ct oA (pv 7) aI) (ao<|aM<|cR<|aa (pv 7) ah) bA)
  (af (aS 8 l<|zT (vV T) T.c8.cls u<|pv 0)
  (af (dL<|met (Kx T) T.c8.cls u (pv 0)<|aa (pv 8)<|aa (Sh (K2 (B4 T) T.SK T.SL T.SM) u<|aa (pv 2)<|aa (pv 3)<|aa (pv 4)<|aa (pv 5)<|aa (du (H_ T) u<|aa (du (Ab T) u<|aa (pv 6) ah) ah) ah) ah)
  (ao<|aM<|cR<|aa (pv 8) ah)))))))))),?_]
 show#[1,x,_,_,1,0,cc.of F,bH rfl,?_];show#[1,x,_,_,1,0,cc.of F,bH rfl,?_];show#[1,x,_,_,1,0,cc.of F,bH rfl,?_];show#[1,x,_,_,1,0,cc.of F,bH rfl,?_];show#[2,x,1,cc.of F,λp hp=>?_];let v:jb ((a::lo::i::r::c).map V.int) (some 4) none=c.map V.int:=lw ((a::lo::i::r::c).map V.int) 4;rw[v];let s1:am H (upd H p<|.lst<|c.map V.int):=am.new hp;show#[6,_,s,a,lo,i,r,p,c,0,N.same s1,cc.of ag,hl,λH2 s2=>?_];let d:=s1.trans s2;show#[1,0,1,cg (λe=>?_) λe=>?_]
 .let X:tm s a lo i r c≠0:=by simpa using e
  show#[1,cU,k.no N (O2 X) d]
 let X:tm s a lo i r c=0:=by simpa using e
 let[n,hn,y,B,D,cn,cl,cr,[m,O,m1,m2],hin]:=O3 X;let pl:=xn c m O;let pne:points c≠[]:=λz=>by rw[z]at pl;simp at pl;lk
 let nl:=FK<|points c;let J:normal (points c)≠[]:=λz=>by rw[z]at nl;simp at nl;lk
 show#[1,ba,dx,Y,0,d _ _ C,S.no dk,_,s,n,0,N.same d,hn,B,?_];show#[1,ba,dx,Y,0,d _ _ C,S.no dk,6,p,c,m,0,cc.of<|s2 _ _ ag,O,om,hin,λH3 b us s3 hb e3 pr=>?_];show#[_,1,#[b,us,0,cc.of e3,pr],pne,om,λH4 b4 us4 s4 hb4 e4 pr4=>?_];intro R W M h2 G;let sn:=yW (CP:=CP) M h2 G;let L:=(d.trans s3).trans s4;show#[R,W,a,lo,i,r,_,normal<|points c,0,ag,#[b4,us4,0,cc.of<|sn _ _ e4,cO eF.mon (am.ts sn) pr4],J,om,cr.1,cr.2,λH5 hpc sx=>#[0,?_]];let s5:=qpx M h2 G sx;let t:=L.trans s5;let g5:=g.same t;generalize j:(#[a.toNat,lo.toNat,i.toNat,#[r.toNat,normal<|points c]]:Piece)=a' at D;let pca:lU K CP H5 R a':=by
  let[U,Z,x1,x2,x3,x4]:=hpc;show#[U,Z,x1,?_,x3,x4];subst j;let:gG #[a.toNat,lo.toNat,i.toNat,#[r.toNat,normal<|points c]]=#[a,lo,i,r,normal<|points c]:=by grind [gG]
  rw[this];show x2
 let fr:∀kk,(kk,V.ref R)∉I:=λkk O=>by
  let[_,_,pa',_,_,e',[_,_,q,_]]:=g.ie.isin _ _ O;cases e'
  rw[L _ _ q]at M;cases M
 show#[_,n,R,Y,pd,ld,gd,I,bL,cW,s,a',0,iU.same o t,S,g5,hn,y,pca,fr,?_,?_,λH6 kd6 b6=>#[1,cU,?_]]
 .subst j;show#[?_,?_,?_,?_]
  .change 1<=lo.toNat;lk
  .grind
  .grind
  .grind
 .subst j;show J
 .show k.one D ((Kp.of t).trans kd6.kj.kp) b6
end
def Ef(b:List V)(a n:Nat):jb b (some (a:Int)) (some ((a+n:Nat):Int))=(b.drop a).take n:=by
 unfold jb;rw[w8,w8];by_cases h:a<=b.length
 .simp_all;lk
 .rw[show min a b.length=b.length by lk,iG,vy om]
  simp
def Rp:Nat->List Int->Call->Prop
 |0=>λa c=>∃i,a=[i]/\c=.begin_ i
 |1=>λa c=>∃b lo e r d,a=b::lo::e::r::d/\d.length<=200/\c=.add b lo e r d
 |2=>λa c=>∃i,a=[i]/\c=.remove i
 |3=>λa c=>∃i n,a=[i,n]/\c=.label i n
 |4=>λa c=>∃i x y,a=[i,x,y]/\c=.move i x y
 |5=>λa c=>∃i,a=[i]/\c=.piece i
 |6=>λa c=>∃i,a=[i]/\c=.touching i
 |7=>λa c=>∃i j,a=[i,j]/\c=.joined i j
 |8=>λa c=>∃i,a=[i]/\c=.members i
 |9=>λa c=>a=[]/\c=.parts
 |10=>λa c=>∃i j,a=[i,j]/\c=.chain i j
 |11=>λa c=>∃i k,a=[i,k]/\c=.reach i k
 |12=>λa c=>a=[]/\c=.shorts
 |13=>λa c=>a=[]/\c=.opens
 |14=>λa c=>a=[]/\c=.loose
 |15=>λa c=>a=[]/\c=.cuts
 |16=>λa c=>∃i j,a=[i,j]/\c=.needed i j
 |17=>λa c=>∃l x y,a=[l,x,y]/\c=.point l x y
 |18=>λa c=>∃i,a=[i]/\c=.levels i
 |19=>λa c=>∃i,a=[i]/\c=.near i
 |20=>λa c=>a=[]/\c=.nets
 |21=>λa c=>a=[]/\c=.clean
 |22=>λa c=>a=[]/\c=.all
 |_=>λ_ _=>False
def oP:Nat->Nat
 |0=>1|1=>4|2=>1|3=>2|4=>3|5=>1|6=>1|7=>2|8=>1|9=>0|10=>2|11=>2|12=>0|13=>0|14=>0|15=>0|16=>2|17=>3|18=>1|19=>1|_=>0
def C0:Nat->Nat
 |1=>1|_=>0
def len0(h:l.length=0):l=[]:=f_.mp h
def FL(h:l.length=1):∃a,l=[a]:=match l,h with|[a],_=>#[a,0]
def dq(h:l.length=2):∃a b,l=[a,b]:=match l,h with|[a,b],_=>#[a,b,0]
def QO(h:l.length=3):∃a b c,l=[a,b,c]:=match l,h with|[a,b,c],_=>#[a,b,c,0]
def R1(h:l.length=4):∃a b c d,l=[a,b,c,d]:=match l,h with|[a,b,c,d],_=>#[a,b,c,d,0]
def KW(h:PyVbpcaf.shape q=some x):∃p:Nat,p<=22/\q=(p:Int)/\x=(oP p,C0 p):=by
 unfold PyVbpcaf.shape at h;by_cases o:q=0
 .rw[aH o]at h;cases h;show#[(0),de,o,0]
 rw[az o]at h;by_cases r:q=1
 .rw[aH r]at h;cases h;show#[(1),de,r,0]
 rw[az r]at h;by_cases s:q=2
 .rw[aH s]at h;cases h;show#[(2),de,s,0]
 rw[az s]at h;by_cases t:q=3
 .rw[aH t]at h;cases h;show#[(3),de,t,0]
 rw[az t]at h;by_cases u:q=4
 .rw[aH u]at h;cases h;show#[(4),de,u,0]
 rw[az u]at h;by_cases v:q=5
 .rw[aH v]at h;cases h;show#[(5),de,v,0]
 rw[az v]at h;by_cases w:q=6
 .rw[aH w]at h;cases h;show#[(6),de,w,0]
 rw[az w]at h;by_cases y:q=7
 .rw[aH y]at h;cases h;show#[(7),de,y,0]
 rw[az y]at h;by_cases z:q=8
 .rw[aH z]at h;cases h;show#[(8),de,z,0]
 rw[az z]at h;by_cases A:q=9
 .rw[aH A]at h;cases h;show#[(9),de,A,0]
 rw[az A]at h;by_cases a:q=10
 .rw[aH a]at h;cases h;show#[(10),de,a,0]
 rw[az a]at h;by_cases b:q=11
 .rw[aH b]at h;cases h;show#[(11),de,b,0]
 rw[az b]at h;by_cases c:q=12
 .rw[aH c]at h;cases h;show#[(12),de,c,0]
 rw[az c]at h;by_cases d:q=13
 .rw[aH d]at h;cases h;show#[(13),de,d,0]
 rw[az d]at h;by_cases e:q=14
 .rw[aH e]at h;cases h;show#[(14),de,e,0]
 rw[az e]at h;by_cases f:q=15
 .rw[aH f]at h;cases h;show#[(15),de,f,0]
 rw[az f]at h;by_cases g:q=16
 .rw[aH g]at h;cases h;show#[(16),de,g,0]
 rw[az g]at h;by_cases i:q=17
 .rw[aH i]at h;cases h;show#[(17),de,i,0]
 rw[az i]at h;by_cases j:q=18
 .rw[aH j]at h;cases h;show#[(18),de,j,0]
 rw[az j]at h;by_cases k:q=19
 .rw[aH k]at h;cases h;show#[(19),de,k,0]
 rw[az k]at h;by_cases l:q=20
 .rw[aH l]at h;cases h;show#[(20),de,l,0]
 rw[az l]at h;by_cases m:q=21
 .rw[aH m]at h;cases h;show#[(21),de,m,0]
 rw[az m]at h;by_cases n:q=22
 .rw[aH n]at h;cases h;show#[(22),de,n,0]
 rw[az n]at h;cases h
def O4(d:p<=22)(b:C0 p=0)(a:gs.length=oP p):∃c,VbpcafNeutral.callOf (PyVbpcaf.whole [(p:Int)::gs])=some c/\Rp p gs c:=by
 match p,d,b with
 |0,_,_=>obtain⟨i,rfl⟩:=FL a;show#[1,i,0,0]
 |1,_,h=>cases h
 |2,_,_=>let[i,0]:=FL a;show#[1,i,0,0]
 |3,_,_=>obtain⟨i,j,rfl⟩:=dq a;show#[1,i,j,0,0]
 |4,_,_=>obtain⟨i,j,k,rfl⟩:=QO a;show#[1,i,j,k,0,0]
 |5,_,_=>obtain⟨i,rfl⟩:=FL a;show#[1,i,0,0]
 |6,_,_=>obtain⟨i,rfl⟩:=FL a;show#[1,i,0,0]
 |7,_,_=>obtain⟨i,j,rfl⟩:=dq a;show#[1,i,j,0,0]
 |8,_,_=>obtain⟨i,rfl⟩:=FL a;show#[1,i,0,0]
 |9,_,_=>obtain rfl:=len0 a;show#[1,0,0]
 |10,_,_=>obtain⟨i,j,rfl⟩:=dq a;show#[1,i,j,0,0]
 |11,_,_=>obtain⟨i,j,rfl⟩:=dq a;show#[1,i,j,0,0]
 |12,_,_=>obtain rfl:=len0 a;show#[1,0,0]
 |13,_,_=>obtain rfl:=len0 a;show#[1,0,0]
 |14,_,_=>obtain rfl:=len0 a;show#[1,0,0]
 |15,_,_=>obtain rfl:=len0 a;show#[1,0,0]
 |16,_,_=>obtain⟨i,j,rfl⟩:=dq a;show#[1,i,j,0,0]
 |17,_,_=>obtain⟨i,j,k,rfl⟩:=QO a;show#[1,i,j,k,0,0]
 |18,_,_=>obtain⟨i,rfl⟩:=FL a;show#[1,i,0,0]
 |19,_,_=>obtain⟨i,rfl⟩:=FL a;show#[1,i,0,0]
 |20,_,_=>obtain rfl:=len0 a;show#[1,0,0]
 |21,_,_=>obtain rfl:=len0 a;show#[1,0,0]
 |22,_,_=>obtain rfl:=len0 a;show#[1,0,0]
 |n+23,h,_=>show absurd h om
def KY(f:C0 p=1)(h:gs.length=oP p)(g:VbpcafNeutral.asked1 (PyVbpcaf.whole [(p:Int)::gs,x])=true):∃c,VbpcafNeutral.callOf (PyVbpcaf.whole [(p:Int)::gs,x])=some c/\Rp p (gs++x) c:=by
 let i:p=1:=by
  unfold C0 at f;split at f
  .rfl
  .cases f
 subst i;let[a,b,c,d,0]:=R1 h;let e:VbpcafNeutral.asked1 [[1,a,b,c,d],x]=true:=g;unfold VbpcafNeutral.asked1 at e;simp only[be,dI]at e;show#[1,a,b,c,d,x,0,by let:=e.2.2.2.2.1;lk,0]
def dE{a b:Type}{m:Vbpcaf.R a}{f:a->Vbpcaf.R b}{x:b}(h:(m>>=f)=.ok x):∃y,m=.ok y/\f y=.ok x:=by
 cases m with
 |error e=>cases h
 |ok y=>show#[y,0,h]
def jG(h:l.length<=1000):(counted l).length<=40000:=by
 grind [counted,Vbpcaf.ints]
def yZ{s:Board}{l:List Nat}(h:l.Sublist (nodes ↥s)):l.length<=1000:=aL h.length_le<|aL cz de
def KZ{s:Board}{l:List Nat}(a:So l)(h:∀x∈l,x∈nodes ↥s):l.length<=1000:=aL (fM (So.nodup a) h)<|aL cz de
structure R3(s:Board):Prop where
 ok:wY s
 lay:s.layers<=16
 pts:∀n a,s.get n=some a->a.shape.pts.length<=32
def Eg(h:pieceAt s i=.ok a):s.get i.toNat=some a:=by
 unfold pieceAt at h;split at h
 .grind
 .cases h
def K0{s:Board}(L:R3 s){c:Call}{x:Board×List Int}(h:does s c=.ok x):x.2.length<=40000:=by
 let b:=cD L.ok;let e:∀n:Int,[n].length<=40000:=λn=>by change 1<=40000;decide
 cases c with
 |begin_ n=>let[_,_,h]:=dE h;cases h;show e _
 |add z lo D r l=>
  let[_,_,h]:=dE h;let[_,_,h]:=dE h;let[_,_,h]:=dE h;cases q:firstFree s with
  |none=>rw[q]at h;cases h
  |some n=>rw[q]at h;cases h;show e _
 |remove i=>let[_,_,h]:=dE h;cases h;show e _
 |label i n=>let[_,_,h]:=dE h;let[_,_,h]:=dE h;cases h;show e _
 |move i A B=>let[_,_,h]:=dE h;let[_,_,h]:=dE h;cases h;show e _
 |piece i=>
  let[a,v,h]:=dE h;cases h
  let m:=L.pts _ _<|Eg v;rw[ib];let:=xr a.shape.pts;unfold KS at this;simp only[aY];lk
 |touching i=>obtain⟨_,_,h⟩:=dE h;cases h;show jG (KZ (b.La _) λx g=>b.mem g)
 |joined i j=>let[_,_,h]:=dE h;let[_,_,h]:=dE h;cases h;show e _
 |members i=>let[_,_,h]:=dE h;cases h;show jG (KZ (gf b.so _) λx g=>cK b.so g)
 |parts=>cases h;show jG<|by rw[vg b];show yZ a_
 |chain i j=>
  let[_,_,h]:=dE h;let[_,_,h]:=dE h;cases h
  show jG ?_;unfold Vbpcaf.chain;split
  .rename_i d w;let:=yH ↥s j.toNat d i.toNat;let C:=cB.mp<|pX w;let o:=cz (s:=s);unfold nodes at o;rw[ac]at o;lk
  .simp
 |reach i k=>obtain⟨_,_,h⟩:=dE h;let[_,_,h]:=dE h;cases h;show jG (KZ (fS b.so _ _) λx g=>ij g)
 |shorts=>
  cases h
  rw[aY,ib];let m:(Vbpcaf.shorts s).length<=128:=by unfold Vbpcaf.shorts;show aL (bu _ _)<|jT b
  let:=kz (l:=(Vbpcaf.shorts s).map λp=>(p.headD 0:Int)::counted (netsOf s p)) (m:=130) λr f=>by
   let[p,t,0]:=ae.mp f;unfold counted Vbpcaf.ints;rw[aY,aY,ac];let:=rQ s p;let:=Ed b (aw.mp t).1;lk
  rw[ac]at this;lk
 |opens=>
  cases h
  rw[aY,ib];let m:=Bk (s:=s);let:=kz (l:=(Vbpcaf.opens s).map λ(n:Nat)=>(n:Int)::counted ((partsOfNet s (Vbpcaf.parts ↥s) n).map λp=>p.headD 0)) (m:=130) λr f=>by
   let[p,t,0]:=ae.mp f;unfold counted Vbpcaf.ints partsOfNet;rw[aY,aY,ac,ac];let:=bu (λq=>(netsOf s q).contains p)<|Vbpcaf.parts ↥s;let:=jT b;lk
  rw[ac]at this;lk
 |loose=>cases h;show jG<|by rw[yE b];show yZ a_
 |cuts=>cases h;show jG<|yZ a_
 |needed i j=>
  let[_,_,h]:=dE h;let[_,_,h]:=dE h;cases h
  show jG ?_;unfold Vbpcaf.needed;split
  .show yZ a_
  .simp
 |point l x y=>
  let[_,_,h]:=dE h;let[_,_,h]:=dE h;cases h
  show jG ?_;rw[ac];let:=bu (λa=>Vbpcaf.touching a.2 #[(0),l.toNat,l.toNat,#[(0),[#[x,y]]]]) s.all;let:=tf (s:=s);lk
 |levels i=>
  obtain⟨_,_,h⟩:=dE h;cases h
  show jG ?_;let:=bu (λk=>s.all.any λa=>(Vbpcaf.members ↥s i.toNat).contains a.1&&decide (a.2.lo<=k/\k<=a.2.hi))<|List.range<|s.layers+1;rw[cu]at this;let:=L.lay;lk
 |near c=>
  obtain⟨_,_,h⟩:=dE h;cases h
  rw[aY,ib];let:=kz (l:=(nearPairs ↥s c.toNat s.all).map λx=>[(x.1:Int),(x.2:Int)]) (m:=2) λr f=>by
   let[x,1]:=ae.mp f;show aE _
  rw[ac]at this;let E:=Cj ↥s c.toNat s.all;let u:=tf (s:=s);let F:=pq u u;lk
 |nets=>
  cases h
  rw[aY,ib];let:=kz (l:=(allNets s).map λ(n:Nat)=>[(n:Int),((s.all.filter λa=>a.2.net==n).length:Int),((partsOfNet s (Vbpcaf.parts ↥s) n).length:Int)]) (m:=3) λr f=>by
   let[x,1]:=ae.mp f;show aE _
  rw[ac]at this;let:=pT (s:=s);lk
 |clean=>cases h;show e _
 |all=>cases h;show jG<|by rw[<-eG];show yZ<|mx _
def K1(L:R3 s)(c:Call):(Vbpcaf.step s c).2.length<=40000:=by
 cases h:does s c with
 |ok x=>rw[xo h];show K0 L h
 |error n=>rw[GO h];change 1<=40000;decide
def dD.lim(h:dD K e d H i s):R3 s:=by
 let[_,_,_,_,_,_,_,_,_,g]:=h;show#[g.ok,g.lay,λn a b=>?_];let[f,_,[_,_,_,c,_]]:=g.ie.get b;show c.placed.n9
def R4(Cond:St->Hp->Prop)(tail:∀a c,Cond a c->u D a c)(d:(∀a c,Cond a c->u D a c)->t e H λb f=>if b=true then A {D with nx:=u D} e f else u D e f):xN (EN t A sv) u D e H:=d tail
structure Si(P:Program)(w:World)(K:Frag)(mg:Str->Option Value)(base:Heap)(CP CB:Addr):Prop where
 ex:∃(d:Addr) (kvs:List (Key×Value)) (tOf fOf:Nat->Addr),mg "CALLS"=some (.ref d)/\KO P w K d kvs/\∀p:Nat,p<=22->valueAt kvs (Sum.inl (p:Int))=some (.ref<|tOf p)/\(∀H,gT K H (tOf p) [.ref (fOf p),.int (oP p:Int),.int (C0 p:Int)])/\Da P w K mg base 10 (fOf p) ["board","given"] (fi K CP CB<|Rp p)
def Ii(h:PyFlat.call PyVbpcaf.shape (q::r)=some (c,t)):∃p:Nat,p<=22/\q=(p:Int)/\oP p<=r.length/\
  ((C0 p=0/\c=[q::r.take (oP p)]/\t=r.drop (oP p))\/(C0 p=1/\∃(m:Nat) (d:List Int),r.drop (oP p)=(m:Int)::d/\m<=d.length/\c=[q::r.take (oP p),d.take m]/\t=d.drop m)):=by
 unfold PyFlat.call at h;dsimp only at h;cases e:PyVbpcaf.shape q with
 |none=>rw[e]at h;cases h
 |some x=>
  rw[e]at h;let[p,i,j,0]:=KW e;show#[p,i,j,?_];dsimp only at h;split at h
  .cases h
  rename_i k;show#[om,?_];let b:C0 p=0\/C0 p=1:=by unfold C0;split<;>simp
  let b||b:=b
  .rw[b]at h;unfold PyFlat.rows at h;dsimp only at h;cases h
   show .inl #[b,0,0]
  .rw[b]at h;right;show#[b,?_];unfold PyFlat.rows at h;dsimp only at h;cases a:PyFlat.row (r.drop<|oP p)with
   |none=>rw[a]at h;cases h
   |some y=>
    let[x,s]:=y;rw[a]at h;dsimp only at h;unfold PyFlat.rows at h;dsimp only at h;cases h
    unfold PyFlat.row at a;split at a
    .cases a
    .rename_i n d g;split at a
     .rename_i f;cases a
      show#[n.toNat,d,by rw[g,lj f.1],f.2,0,0]
     .cases a
section
variable{K:Frag}{CP CB:Addr}
def MQ{H:Hp}{a f:Addr}{b:List V}{T:List Int}{o:HO}(h:cc K H a b)(j:∃r,b[0]?=some (.ref r))(d:H f=some (.lst<|T.map V.int)):cc K (upd H f o) a b:=by
 obtain (h|⟨k,h⟩)|h:=h
 .show .inl<|.inl ?_;rw[aA λz=>?_]
  .show h
  .subst z;rw[d]at h;let e:=HO.lst.inj<|bj h;let[r,c]:=j;rw[<-e,aZ]at c;let[i,_,g]:=i9.mp c;cases g
 .show .inl<|.inr #[k,?_];rw[aA λz=>?_]
  .show h
  .subst z;rw[d]at h;cases h
 .show .inr h
def j_(h:a≠[]):edges a≠[]:=by
 match a,h with
 |[],h=>show absurd rfl h
 |[p],_=>simp[edges]
 |[p,q],_=>simp[edges]
 |p::q::r::l,_=>simp[edges]
def Eh{f:Type}{R:Rep f}(m:Mon K R)(i:∀H v x,R H v x->∃r,v=.ref r){H:Hp}{e:Addr}{v:V}{b:List f}{T:List Int}{o:HO}(h:IsL K R H v b)(j:b≠[])(d:H e=some (.lst<|T.map V.int)):IsL K R (upd H e o) v b:=by
 let[a,k,0,g,c]:=h;show#[a,k,0,MQ g ?_ d,cO m (Tu.lst d) c];cases c with
 |nil=>show absurd rfl j
 |cons q _=>let[r,0]:=i _ _ _ q;show#[r,0]
def lU.ints{H:Hp}{g i:Addr}{a:Piece}{T:List Int}{o:HO}(h:lU K CP H g a)(d:H i=some (.lst<|T.map V.int)):lU K CP (upd H i o) g a:=by
 let[j,k,e,f,n,l]:=h;let m:g≠i:=λz=>by subst z;rw[d]at e;cases e
 show#[j,k,by rw[aA m];show e,#[f.net,f.first,f.last,f.d9,#[?_,?_,?_,f.placed.ne,f.placed.n9,f.placed.rg],f.r0,f.r1],n,l]
 .let[v,b,c]:=f.placed.pts;show#[v,b,Eh eF.mon (λ_ _ _ q=>let #[#[r,e,_],_]:=q;#[r,e]) c f.placed.ne d]
 .let[v,b,c]:=f.placed.box;show#[v,b,jd.mon _ _ _ _ (Tu.lst d) c]
 .let[v,b,c]:=f.placed.oW;show#[v,b,Eh eK.mon (λ_ _ _ q=>let #[r,_,_,e,_]:=q;#[r,e]) c (j_ f.placed.ne) d]
def dD.ints{H:Hp}{A:V}{y:Addr}{s:Board}{T:List Int}{o:HO}(h:dD K CP CB H A s)(m:H y=some (.lst<|T.map V.int)):dD K CP CB (upd H y o) A s:=by
 let[F,Q,ld,G,r,B,D,[C,E,0,I,J,L],b,g]:=h;let d:∀x u,H x=some u->(∀U,u≠.lst U)->(upd H y o) x=some u:=λx u p M=>by
  rw[aA λz=>by subst z;rw[m]at p;cases p;show M _ rfl];show p
 show#[F,Q,ld,G,r,B,D,#[C,E,0,d _ _ I (by intro _ z;cases z),J,L],b,g.ok,g.lay,g.Fj,#[d _ _ g.ie.at_ (by intro _ z;cases z),g.ie.nd,λk v c=>?_,g.ie.all,g.ie.inj],#[d _ _ g.vU.at_ (by intro _ z;cases z),g.vU.nd,λk v c=>?_,g.vU.all,g.vU.inj],#[d _ _ g.sO.at_ (by intro _ z;cases z),g.sO.nd,λk v c=>?_,g.sO.n9],g.pl]
 .let[n,a,P,e,f,l,t]:=g.ie.isin k v c;show#[n,a,P,e,f,l,t.ints m]
 .let[n,N,e,f,l,[O,R,S],w]:=g.vU.isin k v c;show#[n,N,e,f,l,#[O,d _ _ R (by intro _ z;cases z),S],w]
 .let[i,j,a,b,q,e,f,l,t,w]:=g.sO.isin k v c;show#[i,j,a,b,q,e,f,l,ki.mon _ _ _ _ (Tu.lst m) t,w]
def tH(K:Frag)(b d:Addr)(c:List V)(H:Hp):Prop:=(b≠d/\Rd H b (.lst c))\/∃(o:Obj) (a:Array Value) (n:Nat),K.lookup b=some o/\o.cls=.type "list"/\o.dict=none/\o.data=.seq a n/\a.size<=sizeLine/\Vals c a.toList
def tH.sq(h:tH K a c b H):cc K H a b:=h.elim (λh=>.inl h.2) .inr
def tH.kp(h:tH K c d e H)(k:Kp H b):tH K c d e b:=by
 let[a,h||[o,h]]||h:=h
 .show .inl #[a,.inl<|k _ _ h rfl]
 .show .inl #[a,.inr #[o,k _ _ h rfl]]
 .show .inr h
def tH.wr(h:tH K c b d H):tH K c b d (upd H b u):=by
 let[a,h||[o,h]]||h:=h
 .show .inl #[a,.inl<|by rw[aA a];show h]
 .show .inl #[a,.inr #[o,by rw[aA a];show h]]
 .show .inr h
def tH.of(h:cc K H b d)(a:H c=none):tH K b c d H:=by
 let h||h:=h
 .show .inl #[λz=>?_,h];subst z;let h||[o,h]:=h
  .rw[h]at a;cases a
  .rw[h]at a;cases a
 .show .inr h
structure Nn(K:Frag)(CP CB:Addr)(l:List Int)(ca ba ta:Addr)(H:Hp)(at':Nat)(s:Board)(T:List Int)(f:Nat)(rem:List (List<|List Int)):Prop where
 le:at'<=l.length
 hca:tH K ca ta (l.map V.int) H
 ID:H ta=some (.lst<|T.map V.int)
 bd:dD K CP CB H (.ref ba) s
 left:PyFlat.calls PyVbpcaf.shape f (l.drop at')=some rem
 Rb:T++PyFlat.told (PyFlat.played VbpcafNeutral.step s<|rem.map PyVbpcaf.whole)=PyVbpcaf.answers l
 asked:∀c∈rem,VbpcafNeutral.asked1 (PyVbpcaf.whole c)=true
 n9:T.length+40001*rem.length<=7200180
def y0(K:Frag)(CP CB:Addr):Sp:=λd H Q _=>∃(c:Addr) (l:List Int),d=[.ref c]/\cc K H c (l.map V.int)/\PyVbpcaf.answers_asked l=true/\∀b a,b a=some (.lst<|(PyVbpcaf.answers l).map V.int)->Q (.ref a) b
def y6:l9 ["calls","board","told","at","call","given","row","answer"] ["calls"] (cS<|top 117):=#[0,0,0,dk,0,dk,dk]
def Ij(F:L3 K "answers" "answers" (top 117) f0 fd0)(Cv:Pj P w K mg S 2 CB "Board" ["self"] (pR K CP CB))(Bt:oF mg)(Ct:w_ mg)(C:Si P w K mg S CP CB):ka P w K mg S CY 11 f0 fd0 ["calls"] (y0 K CP CB):=by
 show F.ok y6 (λvs H Q E h=>?_) λcdv A outer s H vs Q E hr h=>?_
 .let[_,1,_]:=h;rfl
 let L:=(y6).nd;let hu:=JC hr
 .let[B,l,0,hca,d,k]:=h;let[cd,ckv,o,fOf,hm,hk,htab]:=C.ex;let[j,W,hlen0,hask0]:∃j,PyFlat.calls PyVbpcaf.shape l.length l=some j/\j.length<=180/\∀c∈j,VbpcafNeutral.asked1 (PyVbpcaf.whole c)=true:=by
   unfold PyVbpcaf.answers_asked PyVbpcaf.calls at d;cases e:PyFlat.calls PyVbpcaf.shape l.length l with
   |none=>rw[e]at d;cases d
   |some j=>
    rw[e]at d;dsimp only at d;let[N,O]:=oS.mp d;show#[j,0,?_,λc hc=>?_]
    .unfold PyFlat.atMost at N;let:=aF N;rw[ac]at this;show this
    .unfold VbpcafNeutral.asked at O;show c7.mp (oS.mp O).1 _<|ae.mpr #[c,hc,0]
  let hans0:PyVbpcaf.answers l=PyFlat.told (PyFlat.played VbpcafNeutral.step Vbpcaf.start<|j.map PyVbpcaf.whole):=by
   unfold PyVbpcaf.answers PyVbpcaf.calls;rw[W];rfl
  show#[_,(af (aS 1 L<|RZ Cv hr)
   (af (aS 2 L<|cR ah)
   (af (aS 3 L aI)
   (af (m7 cm (ct xQ (pv 3)<|bC (mL K) SY Bt.len boot_len<|aa (pv 0) ah) (af (aS 4 L<|ML hm hk (iR K (pv 0)<|pv 3) λ_ _=>rfl)
   (af (aS 3 L<|ad (pv 3) aI)
   (af (aS 5 L<|Ld K (pv 0) (fT<|pv 3)<|fT<|ad (pv 3)<|ti K 4)
   (af (aS 3 L<|ad (pv 3)<|ti K 4)
   (af (cF (ct oz (ti K 4) aI) (af (aS 6 L<|Ld K (pv 0) (fT<|ad (pv 3) aI)<|fT<|ad (ad (pv 3) aI)<|iR K (pv 0)<|pv 3)
   (af (aS 3 L<|ad (ad (pv 3) aI)<|bC (mL K) SY Bt.len boot_len<|aa (pv 6) ah)
   (ao<|aS 5 L<|cat (pv 5)<|pv 6))) bA)
   (af (aS 7 L<|R0 ["board","given"] hr (ti K 4)<|aa (pv 1)<|aa (pv 5) ah)
   (af (dL<|JJ (pv 2)<|bC (mL K) SY Bt.len boot_len<|aa (pv 7) ah)
   (ao<|dL<|Gg (pv 2)<|pv 7)))))))))
   (ao<|aM<|pv 2))))),?_]
  show zU λba dx hba hdx hne=>?_;let sn:=yW (CP:=CB) hba hdx hne;show#[ba,dx,0,ag,λH1 sx b1=>#[0,?_]];let s1:am H H1:=qpx (CP:=CB) hba hdx hne sx;dsimp only[dQ];show zU #[de,λu ID=>?_];let s2:am H1 (upd H1 u<|.lst []):=am.new ID;let hca1:tH K B u (l.map V.int) H1:=tH.of (s1.seq hca) ID;dsimp only[dQ];show#[λm σ H'=>∃(a:Nat) (s:Board) (T:List Int) (f:Nat) (R:List (List<|List Int)) (v4 v5 v6 v7:Option V),m=l.length -a/\σ=[some (.ref B),some<|.ref ba,some<|.ref u,some<|.int (a:Int),v4,v5,v6,v7]/\Nn K CP CB l B ba u H' a s T f R,
   #[l.length,(0),Vbpcaf.start,[],l.length,j,none,none,none,none,om,0,#[cH _,hca1.wr,ag,b1.same s2,by rw[List.drop_zero];show W,by rw[hans0];rfl,hask0,by change 0+40001*j.length<=7200180;lk]],?_]
  ext m σ H2 ⟨a,s,T,f,R,v4,v5,v6,v7,rfl,rfl,G⟩;show#[2,B,1,.inl<|G.hca.sq,_,1,0,1,cg (λe=>?_) λe=>?_]
  .let hlt:a<l.length:=by
    let:=aF e;rw[ac]at this;lk
   let hdr:∃q r,l.drop a=q::r/\l[a]?=some q/\l.drop (a+1)=r:=#[l[a],l.drop<|a+1,pZ hlt,by simp[hlt],0]
   let[q,r,hqr,hq,I]:=hdr;let b:=G.left;rw[hqr]at b;let[U,c,t,g,0,hcall,hrem',0]:∃U c t g,f=U+1/\PyFlat.call PyVbpcaf.shape (q::r)=some (c,t)/\PyFlat.calls PyVbpcaf.shape U t=some g/\R=c::g:=by
    cases f with
    |zero=>cases b
    |succ U=>
     unfold PyFlat.calls at b;cases e1:PyFlat.call PyVbpcaf.shape (q::r)with
     |none=>rw[e1]at b;cases b
     |some y=>
      let[c,t]:=y;rw[e1]at b;dsimp only at b;cases e2:PyFlat.calls PyVbpcaf.shape U t with
      |none=>rw[e2]at b;cases b
      |some g=>
       rw[e2]at b;cases b
       show#[U,c,t,g,0,0,e2,0]
   let[p,X,0,hnl,hsh]:=Ii hcall;let[tb1,M,tb3]:=htab p X;let hac:=G.asked c<|aN ..;let hlr:l.length=a+1+r.length:=by rw[<-I,fk];lk
   show#[λσ' H'=>∃(v:Nat) (s':Board) (T':List Int) (w4 w5 w6 w7:Option V),a<v/\σ'=[some (.ref B),some<|.ref ba,some<|.ref u,some<|.int (v:Int),w4,w5,w6,w7]/\Nn K CP CB l B ba u H' v s' T' U g,
    λσ' H' #[v,s',T',w4,w5,w6,w7,N,O,h3]=>#[l.length -v,by let:=h3.le;lk,v,s',T',U,g,w4,w5,w6,w7,0,O,h3],?_]
   let aq:AW (l.map V.int) (a:Int)=some (.int (p:Int)):=bH<|by rw[aZ,hq];rfl
   show zU #[2,B,_,_,1,0,G.hca.sq,aq,Sum.inl (p:Int),o p,0,tb1,?_];dsimp only[dQ];show zU #[1,_,1,0,?_];dsimp only[dQ];let a1:((a:Int)+1)=((a+1:Nat):Int):=rfl;let a2:((a:Int)+1+(oP p:Int))=((a+1+oP p:Nat):Int):=rfl;show zU #[4,o p,_,1,M _,bH (j:=1) rfl,_,1,0,1,B,1,G.hca.sq,λga hga=>?_];let ecut:jb (l.map V.int) (some<|(a:Int)+1) (some<|(a:Int)+1+(oP p:Int))=(r.take<|oP p).map V.int:=by
    rw[a2,a1,Ef,<-M3,I,<-sA]
   rw[ecut];let s3:am H2 (upd H2 ga<|.lst<|(r.take<|oP p).map V.int):=am.new hga;dsimp only[dQ];show zU #[1,o p,_,1,M _,bH (j:=1) rfl,_,1,0,?_];dsimp only[dQ];show R4 (λσ5 Z=>∃(x:Nat) (g5:Addr) (gs:List Int) (i:Call) (w6 w7:Option V),σ5=[some (.ref B),some<|.ref ba,some<|.ref u,some<|.int (x:Int),some<|.ref<|o p,some<|.ref g5,w6,w7]/\a<x/\x<=l.length/\l.drop x=t/\am H2 Z/\Z g5=some (.lst<|gs.map V.int)/\Rp p gs i/\VbpcafNeutral.callOf (PyVbpcaf.whole c)=some i) ?_ ?_
   .ext σ5 Z ⟨x,g5,gs,i,w6,w7,rfl,l1,l2,l3,s5,e5,r5,c5⟩;let hst:VbpcafNeutral.step s (PyVbpcaf.whole c)=Vbpcaf.step s i:=by
     unfold VbpcafNeutral.step;rw[c5]
    let hlim:=K1 G.bd.lim i;show zU #[o p,_,1,M _,bH (j:=0) rfl,fOf p,1,tb3,2,_,s,g5,gs,i,0,G.bd.same s5,e5,r5,λH6 an kp6 hnl6 ean b6=>?_];dsimp only[dQ];let J:H6 u=some (.lst<|T.map V.int):=kp6 _ _ (s5 _ _ G.ID) rfl;let hca6:tH K B u (l.map V.int) H6:=(G.hca.kp<|Kp.of s5).kp kp6;let ant:an≠u:=λz=>by subst z;show hnl6 _<|s5 _ _ G.ID
    let n9:=G.n9;rw[aY]at n9;let big:(7300000:Nat)<sizeLine:=de;show#[1,.inl #[0,_,cc.of J],1,an,1,.inl<|cc.of ean,u,_,1,0,J,?_,?_]
    .rw[ac];lk
    let h7a:(upd H6 u<|.lst<|T.map V.int++[.int (((Vbpcaf.step s i).2.map V.int).length:Nat)]) an=some (.lst<|(Vbpcaf.step s i).2.map V.int):=by rw[aA ant];show ean
    show#[1,.inl #[0,_,cc.of ag],1,u,an,_,1,0,ag,h7a,?_,?_]
    .rw[aW,ac,ac,fH];lk
    rw[p8];let b6s:dD K CP CB (upd H6 u<|.lst<|T.map V.int++[.int (((Vbpcaf.step s i).2.map V.int).length:Nat)]++(Vbpcaf.step s i).2.map V.int) (.ref ba) (Vbpcaf.step s i).1:=b6.ints J;show#[x,(Vbpcaf.step s i).1,T++((Vbpcaf.step s i).2.length:Int)::(Vbpcaf.step s i).2,_,_,_,_,l1,0,#[l2,hca6.wr,?_,b6s,by rw[l3];show hrem',?_,λc' hc'=>G.asked c'<|aC _ hc',?_]]
    .rw[ag,ac,bw,K_];rfl
    .rw[<-G.Rb,bm];change _=T++PyFlat.told ((VbpcafNeutral.step s<|PyVbpcaf.whole c).2::PyFlat.played VbpcafNeutral.step (VbpcafNeutral.step s<|PyVbpcaf.whole c).1 (g.map PyVbpcaf.whole));rw[hst,K_];rfl
    .rw[aW,aY];lk
   .intro tail;let t2:∀Z,gT K Z (o p) [.ref (fOf p),.int (oP p:Int),.int (C0 p:Int)]:=λZ=>M Z;show#[o p,_,1,M _,bH (j:=2) rfl,0,1,cg (λe=>?_) λe=>?_]
    .let n:C0 p=1:=by
      let:(C0 p:Int)=1:=by simpa using e
      lk
     let[h0,_]||[_,m,Y,hd,hm',hc,ht]:=hsh
     .lk
     let hat:l[a+1+oP p]?=some (m:Int):=by
      let:(l.drop<|a+1+oP p)[0]?=some (m:Int):=by rw[<-Sm,I,hd];rfl
      rw[tN]at this;show this
     let D:l.drop (a+1+oP p+1)=Y:=by
      rw[<-Sm,<-Sm,I,hd];rfl
     let aq2:AW (l.map V.int) ((a:Int)+1+(oP p:Int))=some (.int (m:Int)):=by
      rw[a2];show bH<|by rw[aZ,hat];rfl
     show zU #[2,_,1,0,2,_,1,0,2,B,_,_,1,0,(G.hca.kp<|Kp.of s3).sq,aq2,_,1,0,1,B,1,(G.hca.kp<|Kp.of s3).sq,λro hro=>?_];let b1':((a:Int)+1+(oP p:Int)+1)=((a+1+oP p+1:Nat):Int):=rfl;let b2':((a:Int)+1+(oP p:Int)+1+(m:Int))=((a+1+oP p+1+m:Nat):Int):=rfl;let ecut2:jb (l.map V.int) (some<|(a:Int)+1+(oP p:Int)+1) (some<|(a:Int)+1+(oP p:Int)+1+(m:Int))=(Y.take m).map V.int:=by
      rw[b2',b1',Ef,<-M3,D,<-sA]
     rw[ecut2];let s4:=am.new (o:=.lst<|(Y.take m).map V.int) hro;dsimp only[dQ];let lro:(((Y.take m).map V.int).length:Int)=(m:Int):=by rw[ac,cE];lk
     show zU #[1,_,1,0,1,ro,1,.inl<|cc.of ag,_,1,0,?_];dsimp only[dQ];rw[lro];let hga4:=s4 _ _ (show(upd H2 ga<|.lst<|(r.take<|oP p).map V.int) ga=_ from ag);let hn4:oP p=4:=by
      let hp1:p=1:=by
       unfold C0 at n;split at n
       .rfl
       .cases n
      subst hp1;rfl
     let hm100:m<=200:=by
      let[i,N,O]:=KY (gs:=r.take<|oP p) (x:=Y.take m) n (by rw[cE];lk)<|by rw[<-hc];show hac
      let hp1:p=1:=by
       unfold C0 at n;split at n
       .rfl
       .cases n
      subst hp1;let[_,_,_,_,ns,e1,e2,_]:=O;let:=dF List.length e1;rw[aW,cE,cE]at this;simp only[aY]at this;lk
     show#[2,ga,ro,_,1,0,hga4,ag,?_,λg5 hg5=>?_]
     .rw[ac,ac,cE,cE];show Pk om
     let s5:=am.new (o:=.lst<|(r.take<|oP p).map V.int++(Y.take m).map V.int) hg5;let[i,N,O]:=KY (gs:=r.take<|oP p) (x:=Y.take m) n (by rw[cE];lk)<|by rw[<-hc];show hac
     show tail _ _ #[a+1+oP p+1+m,g5,r.take (oP p)++Y.take m,i,_,1,om,?_,?_,(s3.trans s4).trans s5,by rw[ag,bw],O,by rw[hc];show N]
     .let:=dF List.length D;rw[fk]at this;let[hlt2,_]:=aJ.mp hat;lk
     .rw[<-Sm,D,ht]
    .let hk0:C0 p=0:=by
      let[h0,_]||[N,_]:=hsh
      .show h0
      .let:¬((C0 p:Int)=1):=by simpa using e
       lk
     let[_,hc,ht]||[N,_]:=hsh
     .let[i,N,O]:=O4 X hk0 (gs:=r.take<|oP p)<|by rw[cE];lk
      show tail _ _ #[a+1+oP p,ga,r.take<|oP p,i,_,1,om,om,by rw[<-Sm,I,ht],s3,ag,O,by rw[hc];show N]
     .lk
  .let hge:a=l.length:=by
    let:=cb e;rw[ac]at this;let:=G.le;lk
   subst hge;let hl:=G.left;rw[iG]at hl;let hr0:R=[]:=by
    cases f<;>(unfold PyFlat.calls at hl;cases hl;rfl)
   subst hr0;let Rb:=G.Rb;show#[1,k _ _ ?_]
   .rw[G.ID,<-Rb];simp[PyFlat.told,PyFlat.played]
end
section
variable{P:Program}{w:World}{K:Frag}{mg:Str->Option Value}{d:Addr}{st:Stmt}{kV ct:Value}
def Sj(X:K.In h)(G:h.Ns mainGlobals mg)(a:PySem.W.nsIn K mainGlobals x=some (some<|.ref f))(l:K.lookup f=some #[j,m,.func<|fnOf x x (j3 st) (gP st) (cS st) .none kV e n i b ct,g])(c:codeIn K b x=true)(k:keepIn K (.ref f)=true):Fn K mg x st:=#[f,_,JB l c k,PySem.W.mg_of X G a]
def Sk(a:findIn K (.ref C) m=some (some<|.ref f))(i:isFn K (.ref f)=true)(l:K.lookup f=some #[n,o,.func<|fnOf m b (j3 st) (gP st) (cS st) .none kV g p j e ct,h])(c:codeIn K e b=true)(k:keepIn K (.ref f)=true):Mt K C m b st:=#[f,_,JB l c k,a,i,k]
def iz(D:Df P w K mg a j x k l)(i:mg x=some (.ref f))(g:j<=10):Da P w K mg a 10 f k l:=by
 let[m,c,F,b,h,e]:=D.ex;rw[i]at b;cases b
 show#[c,F.mono g,h,e]
def R5:Nat->Str
 |0=>"answer_begin"
 |1=>"answer_add"
 |2=>"answer_remove"
 |3=>"answer_label"
 |4=>"answer_move"
 |5=>"answer_piece"
 |6=>"answer_touching"
 |7=>"answer_joined"
 |8=>"answer_members"
 |9=>"answer_parts"
 |10=>"answer_chain"
 |11=>"answer_reach"
 |12=>"answer_shorts"
 |13=>"answer_opens"
 |14=>"answer_loose"
 |15=>"answer_cuts"
 |16=>"answer_needed"
 |17=>"answer_point"
 |18=>"answer_levels"
 |19=>"answer_near"
 |20=>"answer_nets"
 |21=>"answer_clean"
 |22=>"answer_all"
 |_=>""
structure Tab(P:Program)(w:World)(K:Frag)(mg:Str->Option Value):Prop where
 ex:∃(d:Addr) (kvs:List (Key×Value)) (tOf fOf:Nat->Addr),mg "CALLS"=some (.ref d)/\KO P w K d kvs/\∀p:Nat,p<=22->valueAt kvs (Sum.inl (p:Int))=some (.ref<|tOf p)/\(∀H,gT K H (tOf p) [.ref (fOf p),.int (oP p:Int),.int (C0 p:Int)])/\mg (R5 p)=some (.ref<|fOf p)
def R6(T:Facts K mg l k)(W:Tab P w K mg)(F:L3 K "answers" "answers" (top 117) m f):ka P w K mg a CY 11 m f ["calls"] (y0 K l k):=by
 let[d,i,j,c,q,o,g]:=W.ex;let C:Si P w K mg a l k:=#[d,i,j,c,q,o,λp b=>#[(g p b).1,(g p b).2.1,match p,b,(g p b).2.2 with
  |0,_,e=>iz (yS T) e de
  |1,_,e=>iz (Cu T) e de
  |2,_,e=>iz (wo T) e de
  |3,_,e=>iz (yT T) e de
  |4,_,e=>iz (Ag T) e de
  |5,_,e=>iz (yU T) e de
  |6,_,e=>iz (tz T) e de
  |7,_,e=>iz (wm T) e de
  |8,_,e=>iz (uL T) e de
  |9,_,e=>iz (yI T) e de
  |10,_,e=>iz (yM T) e de
  |11,_,e=>iz (yL T) e de
  |12,_,e=>iz (wg T) e de
  |13,_,e=>iz (yO T) e de
  |14,_,e=>iz (yJ T) e de
  |15,_,e=>iz (Ac T) e de
  |16,_,e=>iz (we T) e de
  |17,_,e=>iz (yX T) e de
  |18,_,e=>iz (wb T) e de
  |19,_,e=>iz (Af T) e de
  |20,_,e=>iz (Ae T) e de
  |21,_,e=>iz (yP T) e de
  |22,_,e=>iz (Cs T) e de
  |n+23,h,_=>absurd h om]]
 show Ij F (K2 (z_ T) T.SN T.SO T.SQ) T.Bt T.Ct C
end
mutual
inductive Dw(K:Frag)(H:Hp):V->WData->Prop
 |ic:Dw K H .ic .none
 |bl (b:Bool):Dw K H (.bl b) (.bool b)
 |int (i:Int):Dw K H (.int i) (.int i)
 |str (x:Str):Dw K H (.str x) (.str x)
 |Ev (b:Array UInt8):Dw K H (.Ev b) (.bytes b.toList)
 |lst {a:Addr} {xs:List V} {ds:List WData}:cc K H a xs->oJ K H xs ds->Dw K H (.ref a) (.list ds)
 |tup {a:Addr} {xs:List V} {ds:List WData}:gT K H a xs->oJ K H xs ds->Dw K H (.ref a) (.tuple ds)
inductive oJ(K:Frag)(H:Hp):List V->List WData->Prop
 |nil:oJ K H [] []
 |cons {v:V} {vs:List V} {d:WData} {ds:List WData}:Dw K H v d->oJ K H vs ds->oJ K H (v::vs) (d::ds)
end
def MS{K:Frag}{H:Hp}:∀a:List Int,oJ K H (a.map V.int)<|a.map WData.int
 |[]=>.nil
 |n::r=>.cons (.int n)<|MS r
def MT{K:Frag}{H:Hp}:∀(b:List Int) (a:List V),oJ K H a (b.map WData.int)->a=b.map V.int
 |[],a,h=>by
  cases h
  rfl
 |n::r,a,h=>by
  cases h with
  |cons c d=>
   cases c
   rw[MT r _ d]<;>rfl
section
variable{P:Program}{w:World}{K:Frag}{H:Hp}{h:Heap}{R:WRecords}{cl:Str->Option Addr}
def O6{a:Addr}{f:List V}(c:o5 P w H h)(g:K.In h)(q:cc K H a f):∃(b:List Value) (o:Obj) (n:Nat),Vals f b/\h.get? a=some o/\o.cls=.type "list"/\o.data=.seq b.toArray n:=by
 let q||[o,b,n,e,i,_,j,_,d]:=q
 .let[_,b,n,d,e]:=(show fD P w H h a (.lst f)from q.ok c);show#[b,_,n,d,e,0,0]
 .show#[b.toList,o,n,d,g _ _ e,i,by simp[j]]
def O7{a:Addr}{i:List V}(f:o5 P w H h)(j:K.In h)(q:gT K H a i):∃(b:List Value) (o:Obj) (n:Nat),Vals i b/\h.get? a=some o/\o.cls=.type "tuple"/\o.data=.seq b.toArray n:=by
 let q||[o,b,n,e,c,d,_,g]:=q
 .let[_,b,g,o,e,c,n,d]:=(show fD P w H h a (.tup i)from q.ok f);show#[b,o,n,g,e,c,d]
 .show#[b.toList,o,n,g,j _ _ e,c,by simp[d]]
mutual
def Dw.reads(hok:o5 P w H h)(KX:K.In h):∀(d:WData) (v:V) (u:Value),Dw K H v d->RelV v u->∃as,ReadsW R cl h u d as
 |.none,_,_,x,r=>by
  cases x
  cases r
  show#[_,ReadsW.none]
 |.bool b,_,_,x,r=>by
  cases x
  cases r
  show#[_,ReadsW.bool b]
 |.int i,_,_,x,r=>by
  cases x
  let[t,0]:=r;show#[_,ReadsW.int i t]
 |.str s,_,_,x,r=>by
  cases x
  let[t,0]:=r;show#[_,ReadsW.str s t]
 |.bytes b,_,_,x,r=>by
  cases x
  let[t,0]:=r;show#[_,ReadsW.bytes _ t]
 |.list ds,_,_,x,r=>by
  cases x with
  |lst hs ha=>
   cases r
   let[its,o,n,rv,ho,hc,hd]:=O6 hok KX hs;let[as,hr]:=Dw.readsAll hok KX ds _ its ha rv;show#[_,ReadsW.list ho hc hd hr]
 |.tuple ds,_,_,x,r=>by
  cases x with
  |tup hs ha=>
   cases r
   let[its,o,n,rv,ho,hc,hd]:=O7 hok KX hs;let[as,hr]:=Dw.readsAll hok KX ds _ its ha rv;show#[_,ReadsW.tuple ho hc hd hr]
 |.float _,_,_,x,_=>by cases x
 |.dict _,_,_,x,_=>by cases x
 |.bytearray _,_,_,x,_=>by cases x
 |.set _,_,_,x,_=>by cases x
 |.frozenset _,_,_,x,_=>by cases x
 |.obj _ _,_,_,x,_=>by cases x
def Dw.readsAll(hok:o5 P w H h)(KX:K.In h):∀(ds:List WData) (vs:List V) (us:List Value),oJ K H vs ds->Vals vs us->∃as,ReadsAllW R cl h us ds as
 |[],_,_,x,r=>by
  cases x
  cases r
  show#[_,ReadsAllW.nil]
 |d::ds,_,_,x,r=>by
  cases x with
  |cons h1 h2=>
   cases r with
   |cons r1 r2=>
    let[as,q1]:=Dw.reads hok KX d _ _ h1 r1;let[bs,q2]:=Dw.readsAll hok KX ds _ _ h2 r2;show#[_,ReadsAllW.cons q1 q2]
end
end
mutual
def GQ:WData->Bool
 |.none=>true
 |.bool _=>true
 |.int _=>true
 |.str _=>true
 |.bytes _=>true
 |.list xs=>wS xs
 |.tuple xs=>wS xs
 |_=>false
def wS:List WData->Bool
 |[]=>true
 |x::r=>GQ x&&wS r
end
def Eo{b:Type}{f:b->WData}(h:∀a,GQ (f a)=true):∀l:List b,wS (l.map f)=true
 |[]=>rfl
 |x::r=>by
  change(GQ (f x)&&wS (r.map f))=true;rw[h x,Eo h r]<;>rfl
def pU:∀(c:Codec) (a:c.denote),GQ (c.enc a)=true
 |.unit,_=>rfl
 |.bool,_=>rfl
 |.int _ _,_=>rfl
 |.nat _ _,_=>rfl
 |.u8,_=>rfl
 |.bytes _ _,_=>rfl
 |.text _ _ _ _,_=>rfl
 |.list _ _ c,a=>Eo (λx=>pU c x) a
 |.pair c d,a=>by
  change(GQ (c.enc a.1)&&(GQ (d.enc a.2)&&true))=true;rw[pU c a.1,pU d a.2]<;>rfl
 |.triple c d e,a=>by
  change(GQ (c.enc a.1)&&(GQ (d.enc a.2.1)&&(GQ (e.enc a.2.2)&&true)))=true;rw[pU c a.1,pU d a.2.1,pU e a.2.2]<;>rfl
 |.option c,none=>rfl
 |.option c,some x=>pU c x
def Bm:∀(cs:List Codec) (a:Codec.denoteAll cs),wS (Codec.encAll cs a)=true
 |[],_=>rfl
 |c::cs,a=>by
  change(GQ (c.enc a.1)&&wS (Codec.encAll cs a.2))=true;rw[pU c a.1,Bm cs a.2]<;>rfl
def rS:∀{a:List WData} {d:WData},d∈a->d.weight<=WData.weightAll a
 |[],d,h=>absurd h SX
 |x::r,d,h=>by
  change d.weight<=x.weight+1+WData.weightAll r;let e||m:=aB.mp h
  .rw[e];lk
  .let z:=rS m;lk
def toV:Value->V
 |.none=>.ic
 |.bool b=>.bl b
 |.int i _=>.int i
 |.str x _=>.str x
 |.bytes b _=>.Ev b
 |.ref a=>.ref a
 |_=>.ic
def Iw(A:List Addr):Value->Prop
 |.none=>True
 |.bool _=>True
 |.int _ _=>True
 |.str _ _=>True
 |.bytes _ _=>True
 |.ref a=>a∈A
 |_=>False
def Iw.mono{A B:List Addr}(h:∀a∈A,a∈B):∀{u:Value},Iw A u->Iw B u:=λ{u} x=>by
 cases u with
 |ref a=>show h a x
 |none=>trivial
 |bool b=>trivial
 |int i t=>trivial
 |str s t=>trivial
 |bytes b t=>trivial
 |_=>show False.elim x
def K7{A:List Addr}{u:Value}(x:Iw A u):RelV (toV u) u:=by
 cases u with
 |ref a=>rfl
 |none=>rfl
 |bool b=>rfl
 |int i t=>show#[t,0]
 |str s t=>show#[t,0]
 |bytes b t=>show#[t,0]
 |_=>show False.elim x
def nN{A:List Addr}:∀{a:List Value},(∀u∈a,Iw A u)->Vals (a.map toV) a
 |[],_=>.nil
 |u::r,h=>.cons (K7<|h u<|aN ..) (nN λx b=>h x<|aC _ b)
def oK(h:Heap)(A:List Addr)(a:Addr):Prop:=∃b:List Value,b.length<=sizeLine/\(∀u∈b,Iw A u)/\
 (h.get? a=some {cls:=.type "list",data:=.seq b.toArray}\/h.get? a=some {cls:=.type "tuple",data:=.seq b.toArray})
def oK.mono{h:Heap}{A B:List Addr}{a:Addr}(k:∀a∈A,a∈B)(x:oK h A a):oK h B a:=by
 let[f,b,c,d]:=x;show#[f,b,λu e=>(c u e).mono k,d]
def mG{P:Params}{h:Heap}:∀{c:List Value} {a:List WData},WellAll P h c a->c.length=a.length
 |_,_,.nil=>rfl
 |_,_,.cons _ b=>by
  change _+1=_+1;rw[mG b]
def Bo{P:Params}{h:Heap}{v:Value}{c:List WData}(x:Well P h v (.list c)):∃(a:Addr) (d:List Value),v=.ref a/\h.get? a=some {cls:=.type "list",data:=.seq d.toArray}/\WellAll P h d c:=by
 cases x with
 |list e b=>show#[_,1,e,b]
def zB{P:Params}{h:Heap}{v:Value}{c:List WData}(x:Well P h v (.tuple c)):∃(a:Addr) (d:List Value),v=.ref a/\h.get? a=some {cls:=.type "tuple",data:=.seq d.toArray}/\WellAll P h d c:=by
 cases x with
 |tuple e b=>show#[_,1,e,b]
def Bp{P:Params}{h:Heap}{e:List Value}{d:WData}{c:List WData}(x:WellAll P h e (d::c)):∃(v:Value) (f:List Value),e=v::f/\Well P h v d/\WellAll P h f c:=by
 cases x with
 |cons a b=>show#[_,1,a,b]
def GR{n:Nat}(h:n<=1048576):n<=sizeLine:=aL h de
section
variable{P:Params}{h:Heap}
mutual
def K8:∀(d:WData) (v:Value),Well P h v d->GQ d=true->d.weight<=1048576->∃A:List Addr,Iw A v/\∀a∈A,oK h A a
 |.none,_,x,_,_=>by
  cases x
  show#[[],trivial,λa m=>absurd m SX]
 |.bool b,_,x,_,_=>by
  cases x
  show#[[],trivial,λa m=>absurd m SX]
 |.int i,_,x,_,_=>by
  cases x
  show#[[],trivial,λa m=>absurd m SX]
 |.str s,_,x,_,_=>by
  cases x
  show#[[],trivial,λa m=>absurd m SX]
 |.bytes b,_,x,_,_=>by
  cases x
  show#[[],trivial,λa m=>absurd m SX]
 |.list ds,_,x,p,z=>by
  let[a,vs,0,ho,hall]:=Bo x;let z2:WData.weightAll ds<=1048576:=z;let[A,h1,h2]:=tL ds _ hall p λd hd=>aL (rS hd) z2;let k:∀b∈A,b∈a::A:=λb hb=>aC _ hb;show#[a::A,aN ..,λb hb=>?_];let e||m:=aB.mp hb
  .rw[e];show#[vs,GR<|by rw[mG hall];show aL (length_le_weightAllW ds) z2,λu hu=>(h1 u hu).mono k,.inl ho]
  .show(h2 b m).mono k
 |.tuple ds,_,x,p,z=>by
  let[a,vs,0,ho,hall]:=zB x;let z2:WData.weightAll ds<=1048576:=z;let[A,h1,h2]:=tL ds _ hall p λd hd=>aL (rS hd) z2;let k:∀b∈A,b∈a::A:=λb hb=>aC _ hb;show#[a::A,aN ..,λb hb=>?_];let e||m:=aB.mp hb
  .rw[e];show#[vs,GR<|by rw[mG hall];show aL (length_le_weightAllW ds) z2,λu hu=>(h1 u hu).mono k,.inr ho]
  .show(h2 b m).mono k
 |.float _,_,_,p,_=>Bool.noConfusion (show false=true from p)
 |.dict _,_,_,p,_=>Bool.noConfusion (show false=true from p)
 |.bytearray _,_,_,p,_=>Bool.noConfusion (show false=true from p)
 |.set _,_,_,p,_=>Bool.noConfusion (show false=true from p)
 |.frozenset _,_,_,p,_=>Bool.noConfusion (show false=true from p)
 |.obj _ _,_,_,p,_=>Bool.noConfusion (show false=true from p)
def tL:∀(ds:List WData) (vs:List Value),WellAll P h vs ds->wS ds=true->(∀d∈ds,d.weight<=1048576)->∃A:List Addr,(∀u∈vs,Iw A u)/\∀a∈A,oK h A a
 |[],_,x,_,_=>by
  cases x
  show#[[],λu m=>absurd m SX,λa m=>absurd m SX]
 |d::ds,_,x,p,z=>by
  let[v,vs,0,x1,x2]:=Bp x;let q:GQ d=true/\wS ds=true:=oS.mp p;let[A,a1,a2]:=K8 d v x1 q.1<|z d<|aN ..;let[B,b1,b2]:=tL ds vs x2 q.2 λe he=>z e<|aC _ he;let kA:∀b∈A,b∈A++B:=λb hb=>aG.mpr<|.inl hb;let kB:∀b∈B,b∈A++B:=λb hb=>aG.mpr<|.inr hb;show#[A++B,λu hu=>?_,λb hb=>?_]
  .let e||m:=aB.mp hu
   .rw[e];show a1.mono kA
   .show(b1 u m).mono kB
  .let m||m:=aG.mp hb
   .show(a2 b m).mono kA
   .show(b2 b m).mono kB
end
end
def MU(o:Obj):Option HO:=match o.data with
 |.seq a _=>if (o.cls==Value.type "list")=true then some (.g9 o<|.lst<|a.toList.map toV)else some (.g9 o<|.tup<|a.toList.map toV)
 |_=>none
def oq(K:Frag)(h:Heap)(A:List Addr):Hp:=λb=>if b∈A then(if (K.lookup b).isNone=true then(h.get? b).bind MU else none)else none
def Ep(H:Hp):Prop:=∀b,H b=none\/∃o u,H b=some (.g9 o u)
def Er(a:List Value):MU {cls:=.type "list",data:=.seq a.toArray}=some (.g9 {cls:=.type "list",data:=.seq a.toArray}<|.lst<|a.map toV):=by
 change(if (Value.type "list"==Value.type "list")=true then some (HO.g9 {cls:=.type "list",data:=.seq a.toArray}<|.lst<|a.toArray.toList.map toV)else some (HO.g9 {cls:=.type "list",data:=.seq a.toArray}<|.tup<|a.toArray.toList.map toV))=_;rw[aH<|G9 _]
def Es(a:List Value):MU {cls:=.type "tuple",data:=.seq a.toArray}=some (.g9 {cls:=.type "tuple",data:=.seq a.toArray}<|.tup<|a.map toV):=by
 change(if (Value.type "tuple"==Value.type "list")=true then some (HO.g9 {cls:=.type "tuple",data:=.seq a.toArray}<|.lst<|a.toArray.toList.map toV)else some (HO.g9 {cls:=.type "tuple",data:=.seq a.toArray}<|.tup<|a.toArray.toList.map toV))=_;rw[az de]
section
variable{P:Program}{w:World}{K:Frag}{h:Heap}{A:List Addr}
def xt{b:Addr}{o:Obj}(a:b∈A)(c:K.lookup b=none)(e:h.get? b=some o):oq K h A b=MU o:=by
 unfold oq;rw[aH a,c,aH (show(none:Option Obj).isNone=true from rfl),e]<;>rfl
def MV{b:Addr}{u:HO}(q:oq K h A b=some u):b∈A/\K.lookup b=none:=by
 unfold oq at q;by_cases a:b∈A
 .rw[aH a]at q;cases c:K.lookup b with
  |none=>show#[a,0]
  |some o=>
   rw[c,az<|by simp]at q
   cases q
 .rw[az a]at q;cases q
def xu(g:∀a∈A,oK h A a){b:Addr}{u:HO}(q:oq K h A b=some u):K.lookup b=none/\∃c:List Value,c.length<=sizeLine/\(∀u∈c,Iw A u)/\
  ((h.get? b=some {cls:=.type "list",data:=.seq c.toArray}/\u=.g9 {cls:=.type "list",data:=.seq c.toArray} (.lst<|c.map toV))\/
   (h.get? b=some {cls:=.type "tuple",data:=.seq c.toArray}/\u=.g9 {cls:=.type "tuple",data:=.seq c.toArray} (.tup<|c.map toV))):=by
 let[d,f]:=MV q;let[c,i,j,k]:=g b d;show#[f,c,i,j,?_];let e||e:=k
 .rw[xt d f e,Er]at q;show .inl #[e,(bj q).symm]
 .rw[xt d f e,Es]at q;show .inr #[e,(bj q).symm]
def Iy(c:∀a∈A,oK h A a):Ep (oq K h A):=λb=>by
 cases q:oq K h A b with
 |none=>show .inl rfl
 |some u=>
  let[_,d,_,_,[_,e]||[_,e]]:=xu c q
  .show .inr #[_,_,by rw[e]]
  .show .inr #[_,_,by rw[e]]
def MW(g:∀a∈A,oK h A a):o5 P w (oq K h A) h:=λb u q=>by
 let[_,f,c,d,[e,0]||[e,0]]:=xu g q
 .show#[e,by rw[ac];show c,f,_,nN d,e]
 .show#[e,by rw[ac];show c,f,nN d,_,e,0,1]
def xw{c a:Value}{d b:List Value}(e:(some {cls:=c,data:=.seq d.toArray}:Option Obj)=some {cls:=a,data:=.seq b.toArray}):c=a/\d=b:=by
 let f:=bj e;let g:c=a:=dF Obj.cls f;let i:Data.seq d.toArray=Data.seq b.toArray:=dF Obj.data f;injection i with j;show#[g,?_];let k:=dF Array.toList j;simpa using k
def R7(j:K.In h)(k:∀a∈A,oK h A a){a:Addr}{b:List Value}(g:a∈A)(e:h.get? a=some {cls:=.type "list",data:=.seq b.toArray}):(∀u∈b,Iw A u)/\cc K (oq K h A) a (b.map toV):=by
 let[i,l,f,m]:=k a g;let n:i=b:=by
  let q||q:=m
  .rw[e]at q;show(xw q).2.symm
  .rw[e]at q;show absurd (Value.type.inj (xw q).1) de
 subst n;show#[f,?_];cases c:K.lookup a with
 |none=>show .inl<|.inr #[_,by rw[xt g c e,Er]]
 |some o=>
  let d:=j a o c;rw[e]at d;let 0:=bj d;show .inr #[_,i.toArray,_,c,0,0,0,by rw[aQ];show l,by simpa using nN f]
def R8(j:K.In h)(k:∀a∈A,oK h A a){a:Addr}{b:List Value}(g:a∈A)(e:h.get? a=some {cls:=.type "tuple",data:=.seq b.toArray}):(∀u∈b,Iw A u)/\gT K (oq K h A) a (b.map toV):=by
 let[i,l,f,m]:=k a g;let n:i=b:=by
  let q||q:=m
  .rw[e]at q;show absurd (Value.type.inj (xw q).1) de
  .rw[e]at q;show(xw q).2.symm
 subst n;show#[f,?_];cases c:K.lookup a with
 |none=>show .inl<|.inr #[_,by rw[xt g c e,Es]]
 |some o=>
  let d:=j a o c;rw[e]at d;let 0:=bj d;show .inr #[_,i.toArray,_,c,0,0,by rw[aQ];show l,by simpa using nN f]
mutual
def O8{Pm:Params}(KX:K.In h)(ar:∀a∈A,oK h A a):∀(d:WData) (v:Value),Well Pm h v d->GQ d=true->Iw A v->Dw K (oq K h A) (toV v) d
 |.none,_,x,_,_=>by
  cases x
  show .ic
 |.bool b,_,x,_,_=>by
  cases x
  show .bl b
 |.int i,_,x,_,_=>by
  cases x
  show .int i
 |.str s,_,x,_,_=>by
  cases x
  show .str s
 |.bytes b,_,x,_,_=>by
  cases x
  let z:=Dw.Ev (K:=K) (H:=oq K h A) b.toArray;show z
 |.list ds,_,x,p,hu=>by
  let[a,vs,0,ho,hall]:=Bo x;let[h2,hs]:=R7 KX ar hu ho;show .lst hs<|CW KX ar ds _ hall p h2
 |.tuple ds,_,x,p,hu=>by
  let[a,vs,0,ho,hall]:=zB x;let[h2,hs]:=R8 KX ar hu ho;show .tup hs<|CW KX ar ds _ hall p h2
 |.float _,_,_,p,_=>Bool.noConfusion (show false=true from p)
 |.dict _,_,_,p,_=>Bool.noConfusion (show false=true from p)
 |.bytearray _,_,_,p,_=>Bool.noConfusion (show false=true from p)
 |.set _,_,_,p,_=>Bool.noConfusion (show false=true from p)
 |.frozenset _,_,_,p,_=>Bool.noConfusion (show false=true from p)
 |.obj _ _,_,_,p,_=>Bool.noConfusion (show false=true from p)
def CW{Pm:Params}(KX:K.In h)(ar:∀a∈A,oK h A a):∀(ds:List WData) (vs:List Value),WellAll Pm h vs ds->wS ds=true->(∀u∈vs,Iw A u)->oJ K (oq K h A) (vs.map toV) ds
 |[],_,x,_,_=>by
  cases x
  show .nil
 |d::ds,_,x,p,hu=>by
  let[v,vs,0,x1,x2]:=Bp x;let q:GQ d=true/\wS ds=true:=oS.mp p;show .cons (O8 KX ar d v x1 q.1<|hu _<|aN ..) (CW KX ar ds vs x2 q.2 λu m=>hu u<|aC _ m)
end
end
def Iz{P:Program}{w:World}{K:Frag}{Q mb:Str->Option Value}{CX:He}{k:Nat}{fa:Addr}{fd:FuncData}{T:List Str}{sp:Sp}{a:Shared}{c:List Value}{p:List WData}{R:WRecords}{cl:Str->Option Addr}{d0:WData}
  (U:K.In a.heap) (N:a.heap.Ns mainGlobals Q) (hb:a.heap.Ns builtinsNs mb) (hbb:∀x:Str,x≠"__name__"->mb x=bootBuiltins x) (M:a.heap.NoLimit) (hg:a.gens=#[])
  (B:WellAll w.params a.heap c p) (O:wS p=true) (hwt:∀d∈p,d.weight<=1048576) (hr:eg k callerA)
  (F:∀g:Heap,K.In g->g.Ns mainGlobals Q->ka P w K Q g CX k fa fd T sp) (t:∀(s:Shared) (us:List Value),us.length=T.length->BindsTo s fd #[us,[]] (T.zip us)) (L:p.length=T.length)
  (hsp:∀(H:Hp) (xs:List V),Ep H->oJ K H xs p->sp xs H (λv H'=>Dw K H' v d0) λ_ _ _=>False)
  (Z:∀H e h,CX [] H a (λ_ _ _=>False) e h->False):
  codeAny (model P w) callerA (.call (.ref fa) #[c,[]]) (λr h=>∃u X,r=.ok (.ret u)/\ReadsW R cl h.heap u d0 X/\OldK a.heap h.heap/\h.os=a.os/\AllBare h.gens) a:=by
 let[A,ho,E]:=tL p c B O hwt;let hO:Ep (oq K a.heap A):=Iy E;let y:o5 P w (oq K a.heap A) a.heap:=MW E;let hS:=CW U E p c B O ho;let hV:=nN ho;let hK:∀b u,oq K a.heap A b=some u->K.lookup b=none:=λb u q=>(xu E q).1;let S:∀{b:Addr} {o:Obj} {D:Array DictEntry} {C:Nat},a.heap.get? b=some o->o.data=.dict D C->oq K a.heap A b=none:=λ{b o D C} e d=>by
  cases q:oq K a.heap A b with
  |none=>rfl
  |some u=>
   let[_,vs,_,_,[I,_]||[I,_]]:=xu E q
   .rw[I]at e;cases e
    let Y:Data.seq vs.toArray _=Data.dict D C:=d;cases Y
   .rw[I]at e;cases e
    let Y:Data.seq vs.toArray _=Data.dict D C:=d;cases Y
 generalize oq K a.heap A=H at hO y hS hK S;let f:∀{b:Addr} {o:Obj},a.heap.get? b=some o->H b=none->(By a.heap H).get? b=some o:=λe n=>IW e n;let i:∀{b:Addr} {m:Str->Option Value},a.heap.Ns b m->(By a.heap H).Ns b m:=λ{b m} #[o,D,C,e,d,r]=>#[o,D,C,f e<|S e d,d,r];let nK:∀b o,K.lookup b=some o->H b=none:=λb o e=>by
  cases q:H b with
  |none=>rfl
  |some u=>
   rw[hK b u q]at e;cases e
 let J:K.In (By a.heap H):=λb o e=>f (U b o e)<|nK b o e;let hM:Mod K Q (By a.heap H):=#[J,i N,#[mb,i hb,hbb],let #[mc,h1,h2]:=M;#[mc,i h1,h2]];let e0:zP P w K Q (By a.heap H) callerA [] a H:=#[0,hM,λb o e=>Lq e,iK<|G6 _ _,trivial,λb hb=>absurd (show b∈([]:List Addr)from hb) SX,y,.of_eq hg]
 let hl:c.length=T.length:=by rw[mG B];show L
 show codeAny_mono ((F _ J<|i N).run callerA [] a H #[c,[]] c (c.map toV) _ _ hr e0 (t a c hl) hV (hsp H _ hO hS)) λr h x=>?_;cases r with
 |error e=>show(Z H e h x).elim
 |ok fl=>
  cases fl with
  |next=>show False.elim x
  |brk=>show False.elim x
  |cont=>show False.elim x
  |ret u=>
   let[v,H',os,G,un,j,r',q]:=x;let l:∀b o,a.heap.get? b=some o->h.heap.get? b=some o:=λb o e=>by
    cases q2:H b with
    |none=>show un.keep b o e q2 (by intro z;show absurd (show b∈([]:List Addr)from z) SX)<|by simp
    |some u2=>
     let z||[ob,u3,z]:=hO b
     .rw[q2]at z;cases z
     .let z2:=un.vK b ob _ z;let[e1,_]:=y b _ z;let[I,_]:=j b _ z2;rw[e]at e1;cases e1
      show I
   let W:K.In h.heap:=λb o e=>l b o<|U b o e;let[X,hrd]:=Dw.reads (R:=R) (cl:=cl) j W d0 v u q r';show#[u,X,0,hrd,OldK.of_keep l,os,G]
def zC{a:List WData}(h:WData.layableAll a=true):∀d∈a,d.weight<=1048576:=λd b=>
 (PySem.W.layableW_iff.mp<|c7.mp h d b).2.2
def zD:∀(cs:List Codec) (a:Codec.denoteAll cs),(Codec.encAll cs a).length=cs.length
 |[],_=>rfl
 |c::cs,a=>by
  change(Codec.encAll cs a.2).length+1=cs.length+1;rw[zD cs a.2]
def IA{r:OpenSpec}{k:Nat}{q:Program}{loose:List Str}{R:(Str->Option Value)->Heap->Prop}{B:World->Heap->Prop}{d:DefRec}{K:Params->Frag}{CX:World->He}{x:List Str}{sp:World->Sp}
  (c:r.wellSaid=true) (hdf:d.params.defaults=[]) (l:r.args.length=x.length) (hr:eg k callerA)
  (hY:∀(w:World) (h:Heap),B w h->(K w.params).In h)
  (F:∀(w:World) (g:Str->Option Value) (t:Addr) (h:Heap),B w h->(K w.params).In h->h.Ns mainGlobals g->g d.name=some (.ref t)->
   ∃D:FuncData,(∀(s:Shared) (M:List Value),M.length=x.length->BindsTo s D #[M,[]] (x.zip M))/\
    ∀b:Heap,(K w.params).In b->b.Ns mainGlobals g->ka r.prog w (K w.params) g b (CX w) k t D x (sp w))
  (J:∀(w:World) (H:Hp) (A:List V) (a:Codec.denoteAll r.args),Ep H->Codec.withinAll r.args a=true->Codec.app r.args r.asked a=true->oJ (K w.params) H A (Codec.encAll r.args a)->
   sp w A H (λv Q=>Dw (K w.params) Q v<|r.ret.enc<|Codec.app r.args r.f a) λ_ _ _=>False)
  (E:∀(w:World) (H:Hp) (s:Shared) (e:Value) (y:Shared),CX w [] H s (λ_ _ _=>False) e y->False):
  WalkOS q loose R B r d [] (λf vs=>PySem.call f vs):=by
 intro w P p g mb G Y t o pm cd S dV kV ho hd hcd hD I hg i O as m j hrd L hlo;let[a,T,U]:=PySem.W.os_pre_some m;let[W,n]:=Codec.encAll_of_decAll r.args i a T;subst W;let N:=hY w _ Y;let[D,hb,hF]:=F w g t _ Y N G.T.g I;show PySem.W.enter_call (codeAny_mono (Iz (R:=[]) (cl:=classAt P.heap) (d0:=r.ret.enc<|Codec.app r.args r.f a) N G.T.g G.T.b G.T.builtins G.T.nolimit hg L (Bm _ _) (zC j) hr hF hb (by rw[zD];show l)
  (λH A hO hS=>J w H A a hO n U hS) λH e y=>E w H p e y) λr' y hq=>?_)
 let[u,C,0,X,Z,h3,h4]:=hq;show#[.inl #[u,_,C,0,λ_=>rfl,X,(OpenSpec.post_iff c n _ _).mpr rfl,λz=>Bool.noConfusion (show false=true from z)],Z,h3,h4]
def O9{r:OpenSpec}{k:Nat}{q:Program}{loose:List Str}{C:(Str->Option Value)->Heap->Prop}{n:World->Heap->Prop}{d:DefRec}{K:Params->Frag}{m:He}{j:List Str}{x:Frag->Sp}
  (c:r.wellSaid=true) (p:d.params.defaults=[]) (g:r.args.length=j.length) (L:eg k callerA)
  (J:∀(w:World) (h:Heap),n w h->(K w.params).In h)
  (F:∀(w:World) (i:Str->Option Value) (z:Addr) (h:Heap),n w h->(K w.params).In h->h.Ns mainGlobals i->i d.name=some (.ref z)->
   ∃A:FuncData,(∀(s:Shared) (y:List Value),y.length=j.length->BindsTo s A #[y,[]] (j.zip y))/\
    ∀b:Heap,(K w.params).In b->b.Ns mainGlobals i->ka r.prog w (K w.params) i b m k z A j (x<|K w.params))
  (t:∀(K:Frag) (H:Hp) (l:List V) (a:Codec.denoteAll r.args),Ep H->Codec.withinAll r.args a=true->Codec.app r.args r.asked a=true->oJ K H l (Codec.encAll r.args a)->
   x K l H (λv B=>Dw K B v<|r.ret.enc<|Codec.app r.args r.f a) λ_ _ _=>False)
  (o:∀(H:Hp) (s:Shared) (e:Value) (u:Shared),m [] H s (λ_ _ _=>False) e u->False):
  WalkOS q loose C n r d [] (λf M=>PySem.call f M):=
 IA (K:=K) (CX:=λ_=>m) (sp:=λw=>x<|K w.params) c p g L J F (λw H l a D E G I=>t (K w.params) H l a D E G I) λ_ H s e u=>o H s e u
section
variable{P:Program}{w:World}{K:Frag}{mg:Str->Option Value}{h:Heap}{C CP CB d f fa:Addr}{x:Str}{kV doc pm cdv ct oc:Value}{od an:Option Addr}{osl:Array (Option Value)}
def cRw:List (Int×Nat×Nat):=[(0,1161,696),(1,1165,697),(2,1169,698),(3,1173,699),(4,1177,700),(5,1181,701),(6,1185,702),(7,1189,703),(8,1193,704),(9,1197,705),(10,1201,706),(11,1205,707),(12,1209,708),(13,1213,709),(14,1217,710),(15,1221,711),(16,1225,712),(17,1229,714),(18,1232,715),(19,1235,716),(20,1238,717),(21,1241,718),(22,1244,719)]
def tOx(p:Nat):Nat:=if p<=16 then 696+p else 697+p
def fAx(mg:Str->Option Value)(p:Nat):Addr:=match mg (R5 p) with
 |some (.ref a)=>a
 |_=>0
def ces:List DictEntry:=cRw.map λr=>⟨r.1,.int r.1 r.2.1,.ref r.2.2⟩
def ckv:List (Key×Value):=cRw.map λr=>(Sum.inl r.1,.ref r.2.2)
def ckx:∀p:Nat,p<=22->valueAt ckv (Sum.inl (p:Int))=some (.ref<|tOx p)
 |0,_=>rfl
 |1,_=>rfl
 |2,_=>rfl
 |3,_=>rfl
 |4,_=>rfl
 |5,_=>rfl
 |6,_=>rfl
 |7,_=>rfl
 |8,_=>rfl
 |9,_=>rfl
 |10,_=>rfl
 |11,_=>rfl
 |12,_=>rfl
 |13,_=>rfl
 |14,_=>rfl
 |15,_=>rfl
 |16,_=>rfl
 |17,_=>rfl
 |18,_=>rfl
 |19,_=>rfl
 |20,_=>rfl
 |21,_=>rfl
 |22,_=>rfl
 |n+23,h=>absurd h om
def cps(P:Program)(w:World):∀l:List (Int×Nat×Nat),Pairs (cX P w) (l.map λr=>(⟨r.1,.int r.1 r.2.1,.ref r.2.2⟩:DictEntry)) (l.map λr=>((Sum.inl r.1:Key),Value.ref r.2.2))
 |[]=>.nil
 |r::l=>.cons (by change Value.isInt r.1 (.int r.1 r.2.1)=true;simp[Value.isInt]) rfl<|cps P w l
def kdm(l:K.lookup d=some {cls:=.type "dict",data:=.dict ces.toArray 23}):KO P w K d ckv:=λh X=>by
 refine⟨_,_,_,X d _ l,⟨rfl,rfl,rfl⟩,rfl,λe a=>?_,cps P w cRw,dk⟩
 have a:e∈ces:=by simpa using a
 obtain⟨r,b,rfl⟩:=List.mem_map.mp a;refine⟨Sum.inl r.1,by change Value.isInt r.1 (.int r.1 r.2.1)=true;simp[Value.isInt],?_⟩;have:∀r∈cRw,r.1=hashInt r.1:=dk
 exact this r b
def cst{i:Int}{t:Tok}(X:K.In h)(G:h.Ns mainGlobals mg)(e:PySem.W.nsIn K mainGlobals x=some (some<|.int i t)):∃t,mg x=some (.int i t):=⟨t,PySem.W.mg_of X G e⟩
def tbp(X:K.In h)(G:h.Ns mainGlobals mg)(p:Nat){u v:Tok}(l:K.lookup (tOx p)=some {cls:=.type "tuple",data:=.seq [.ref f,.int (oP p:Int) u,.int (C0 p:Int) v].toArray}:=by k_is)(g:PySem.W.nsIn K mainGlobals (R5 p)=some (some<|.ref f):=by k_is):(∀H,gT K H (tOx p) [.ref<|fAx mg p,.int (oP p:Int),.int (C0 p:Int)])/\mg (R5 p)=some (.ref<|fAx mg p):=by
 have e:=PySem.W.mg_of X G g
 have c:fAx mg p=f:=by unfold fAx;rw[e]
 rw[c];exact⟨λH=>.inr ⟨_,_,_,l,rfl,rfl,by change 3<=sizeLine;decide,.cons rfl<|.cons ⟨u,rfl⟩<|.cons ⟨v,rfl⟩ .nil⟩,e⟩
def tbm(X:K.In h)(G:h.Ns mainGlobals mg)(t:∀p:Nat,p<=22->(∀H,gT K H (tOx p) [.ref<|fAx mg p,.int (oP p:Int),.int (C0 p:Int)])/\mg (R5 p)=some (.ref<|fAx mg p))(a:PySem.W.nsIn K mainGlobals "CALLS"=some (some<|.ref d))(l:K.lookup d=some {cls:=.type "dict",data:=.dict ces.toArray 23}):Tab P w K mg:=⟨d,ckv,tOx,fAx mg,PySem.W.mg_of X G a,kdm l,λp b=>⟨ckx p b,t p b⟩⟩
def tpk(X:K.In h)(G:h.Ns mainGlobals mg)(z:mg "answers"=some (.ref fa))(a:PySem.W.nsIn K mainGlobals "answers"=some (some<|.ref f))(l:K.lookup f=some ⟨oc,od,.func<|fnOf "answers" "answers" (j3<|top 117) (gP<|top 117) (cS<|top 117) .none kV doc pm an cdv ct,osl⟩)(c:codeIn K cdv "answers"=true)(k:keepIn K (.ref f)=true)(_:PySem.W.nsIn K mainGlobals "Piece"=some (some<|.ref CP))(_:PySem.W.nsIn K mainGlobals "Board"=some (some<|.ref CB))(T:Facts K mg CP CB)(W:Tab P w K mg):∃fd:FuncData,(∀(s:Shared) (us:List Value),us.length=(["calls"]:List Str).length->BindsTo s fd ⟨us,[]⟩ ((["calls"]:List Str).zip us))/\∀b:Heap,K.In b->b.Ns mainGlobals mg->ka P w K mg b CY 11 fa fd ["calls"] (y0 K 0 0):=by
 cases z.symm.trans (PySem.W.mg_of X G a)
 exact⟨_,λs us hu=>match us,hu with|[_],_=>.of_eq rfl,λb _ _=>(R6 T W (JB l c k):)⟩
def cfx(a:PySem.W.plainGet K C Str.empty=true)(b:hasDictIn K C=true)(c:plainOver K C=true)(d:findIn K (.ref C) "__setattr__"=some (some<|.builtin "object.__setattr__"))(n:List Str)(e:∀x∈n,findIn K (.ref C) x=some none):CF K C n:=⟨⟨a,b,c,d⟩,e⟩
end
end Zq
open PySem PySem.W PyProof.Rows Zq in
set_option maxHeartbeats 0 in
theorem PySem.Challenge.cw_copperboarddesk_s01_answers_holds : PySem.Challenge.rw_copperboarddesk_s01_answers.Holds := by
 w_on;k_headS;(case hw=>exact⟨[.list [.int 9]],dk,dk⟩)
 k_fillS
 refine O9 (r:=PySem.Challenge.rw_copperboarddesk_s01_answers) (k:=11) (m:=CY) (j:=["calls"]) (x:=fun K=>y0 K 0 0) dk rfl rfl ⟨rfl,de,de⟩ (fun w h Y=>kIn_of Y) ?F ?S fun _ _ _ _ z=>z
 case F=>
  intro w mg fa h Y X G hmg
  refine' tpk X G hmg ?a ?l ?c ?k ?aP ?aB ?T ?W
  (case a=>k_is);(case l=>k_is);(case c=>k_is);(case k=>k_is);(case aP=>k_is);(case aB=>k_is)
  case W=>
   refine' tbm (d:=695) X G (fun p b=>?_) (by k_is) (by k_is)
   match p,b with
   |0,_=>exact tbp X G 0
   |1,_=>exact tbp X G 1
   |2,_=>exact tbp X G 2
   |3,_=>exact tbp X G 3
   |4,_=>exact tbp X G 4
   |5,_=>exact tbp X G 5
   |6,_=>exact tbp X G 6
   |7,_=>exact tbp X G 7
   |8,_=>exact tbp X G 8
   |9,_=>exact tbp X G 9
   |10,_=>exact tbp X G 10
   |11,_=>exact tbp X G 11
   |12,_=>exact tbp X G 12
   |13,_=>exact tbp X G 13
   |14,_=>exact tbp X G 14
   |15,_=>exact tbp X G 15
   |16,_=>exact tbp X G 16
   |17,_=>exact tbp X G 17
   |18,_=>exact tbp X G 18
   |19,_=>exact tbp X G 19
   |20,_=>exact tbp X G 20
   |21,_=>exact tbp X G 21
   |22,_=>exact tbp X G 22
   |n+23,h=>omega
  constructor
  all_goals first|(refine' Sj X G ?a ?l ?c ?k;(case a=>k_is);(case l=>k_is);(case c=>k_is);case k=>k_is)|(refine' Sk ?a ?i ?l ?c ?k;(case a=>k_is);(case i=>k_is);(case l=>k_is);(case c=>k_is);case k=>k_is)|skip
  (case TP=>exact cfx (by k_is) (by k_is) (by k_is) (by k_is) _ (List.forall_mem_cons.2 ⟨by k_is,List.forall_mem_cons.2 ⟨by k_is,List.forall_mem_cons.2 ⟨by k_is,List.forall_mem_cons.2 ⟨by k_is,List.forall_mem_cons.2 ⟨by k_is,List.forall_mem_cons.2 ⟨by k_is,List.forall_mem_cons.2 ⟨by k_is,nofun⟩⟩⟩⟩⟩⟩⟩))
  (case c8=>exact cfx (by k_is) (by k_is) (by k_is) (by k_is) _ (List.forall_mem_cons.2 ⟨by k_is,List.forall_mem_cons.2 ⟨by k_is,List.forall_mem_cons.2 ⟨by k_is,List.forall_mem_cons.2 ⟨by k_is,nofun⟩⟩⟩⟩))
  (case Bt=>constructor<;>(refine' mg_none_of X G ?_;k_is))
  (case Ct=>constructor<;>exact cst X G (by k_is))
  all_goals first|k_is|(refine' mg_of X G ?_;k_is)
 intro K H xs a hO hwi hask hx
 cases hx with|cons h1 h2=>cases h2;cases h1 with|lst hs ha=>
  cases MT a.1 _ ha
  exact⟨_,a.1,rfl,hs,hask,fun H' p hp=>.lst (cc.of hp) (MS _)⟩
