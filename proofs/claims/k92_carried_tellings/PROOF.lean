import PyProof.Rows.All
import Wide.All
import OpenK.AllK
import Wide.FinOn
import Lean
import PyProof.EqAt
import PyProof.EqKinds
import PyProof.TupleCall
import PyProof.Rows.SortRuns
import PyProof.DictItems
import PyProof.DictWalks
import PyProof.CollectIter
import PyProof.Rows.SortRev
import KE.KSortTup
import KE.KDictList
import OpenK.KOwn
import PyProof.NsDelKeeps
import PyProof.RulesAs
import KE.KIsAll
import PyProof.ExcArgsOwn
import KE.KMinBuiltin
import PyProof.Draws
import PyProof.EnumMake
import PyProof.Rows.EnumRows
import PyProof.ListMulRoad
import PyProof.ExcInit
import PyProof.ExcClass2
import OpenK.KMake
import PyProof.InstStoreFacts
import OpenK.KCls
import OpenK.KMore
import KE.KItemsList
import PySem.Challenge.RW_evenform_k92_carried_tellings
set_option Elab.async false
set_option linter.all false
def AA:=@PySem.wpAny_bind
def AB:=@List.length_map
def AC:=@PySem.Heap.get?_push_of_some
def AD:=@if_neg
def AE:=@PySem.wpAny_pure
def AF:=@if_pos
def AG:=@Nat.le_refl
def AH:=@Array.getElem?_eq_getElem
def AI:=@List.length_append
def AJ:=@List.mem_cons_self
def AK:=@Bool.and_eq_true
def AL:=@PySem.Paired.length
def AM:=@List.mem_cons_of_mem
def AN:=@List.mem_cons
def AO:=@decide_eq_false
def AQ:=@PyProof.Rows.wpS_bind
def AR:=@Array.length_toList
def AS:=@PySem.Heap.lt_size
def AT:=@List.getElem?_eq_getElem
def AU:=@PySem.Heap.get?_push_size
def AV:=@decide_eq_true_eq
def AW:=@List.take_of_length_le
def AX:=@Bool.false_ne_true
def AY:=@List.mem_map
def AZ:=@List.all_eq_true
def Aa:=@List.mem_of_getElem?
def Ab:=@decide_eq_true
def Ac:=@PyProof.Rows.wpS_pure
def Ad:=@List.mem_singleton
def Ae:=@List.getElem?_eq_some_iff
def Af:=@Int.toNat_natCast
def Ag:=@List.append_assoc
def Ah:=@List.length_take
def Ai:=@Nat.lt_of_lt_of_le
def Aj:=@List.length_cons
def Al:=@List.getElem?_map
def Am:=@List.size_toArray
def An:=@List.map_cons
def Ao:=@List.getD_eq_getElem?_getD
def Ap:=@Option.some.inj
def Aq:=@List.mem_append
def Ar:=@PySem.PassesOwn.never
def As:=@Nat.ne_of_lt
def At:=@List.mem_range
def Au:=@List.filterMap_eq_map'
def Av:=@PyProof.Rows.boot_isinstance
def Aw:=@List.mem_append_right
def Ax:=@Nat.zero_le
def Ay:=@List.pairwise_cons
def Az:=@List.map_append
def A0:=@List.length_replicate
def A4:=@PySem.Heap.get?_update_other
def A5:=@List.replicate_succ
def A6:=@Array.getElem?_toList
def A7:=@Bool.false_eq_true
def A9:=@Nat.le_trans
def BA:=@List.length_singleton
def BB:=@of_decide_eq_true
def BC:=@List.length_drop
def BD:=@Nat.lt_of_le_of_lt
def BE:=@PySem.F.plainAttrs_list
def BF:=@PySem.wpAny_newObj_type
def BG:=@PySem.wpAny_field
def BH:=@PySem.W.mg_none_of
def BI:=@PySem.wpAny_mono
def BJ:=@PySem.W.mg_of
def BK:=@PyProof.Rows.callWith_type1
def BL:=@List.mem_append_left
def BM:=@List.append_nil
def BN:=@PySem.F.slot_list_append
def BO:=@PySem.F.type_list_append
def BP:=@PySem.wpAny_Call_Name_kw
def BQ:=@Array.toList_append
def BR:=@PySem.Heap.get?_update_self
def BS:=@PySem.F.excBase_ValueError
def BU:=@PySem.wpAny_callSpecial?_slot
def BV:=@List.Perm.append_right
def BW:=@List.flatMap_singleton
def BX:=@List.sum_cons
def BY:=@Nat.le_of_lt
def BZ:=@List.not_mem_nil
def Ba:=@List.mem_flatMap
def Bb:=@PySem.wpAny_call_entry
def Bc:=@PyProof.Rows.wpS_forRange
def Be:=@List.flatMap_append
def Bf:=@List.take_append_drop
def Bg:=@List.flatMap_cons
def Bh:=@PyProof.Rows.slot_tuple_getitem
def Bi:=@if_false
def Bj:=@Array.getElem?_eq_some_iff
def Bl:=@PySem.boot_len
def Bm:=@List.foldl_cons
def Bn:=@List.find?_cons
def Bo:=@List.range_succ
def Bp:=@List.mem_of_mem_take
def Bq:=@Array.getElem?_eq_none
def Br:=@List.filterMap_cons
def Bt:=@Nat.add_le_add_left
def Bu:=@List.flatten_cons
def Bv:=@List.foldl_append
def Bw:=@List.length_range
def Bx:=@List.Perm.append_left
def By:=@PySem.F.slot_dict_keyiterator_next
def Bz:=@Int.emod_lt_of_pos
def B0:=@PySem.wpAny_pyIter_tuple
def B1:=@PyProof.Rows.boot_tuple
def B2:=@List.lookup_cons
def B3:=@Nat.lt_irrefl
def B4:=@List.any_cons
def B5:=@PySem.wpAny_seqItems
def B6:=@Int.emod_nonneg
def B7:=@Ne.symm
def B8:=@Nat.ne_of_gt
def B9:=@List.filter_cons
def CA:=@PySem.Heap.size_push
def CB:=@PySem.Around.under_plainId
def CC:=@Nat.pow_lt_pow_right
def CD:=@if_true
def CF:=@List.pairwise_map
def CG:=@PySem.wpAny_pyIter_list
def CH:=@PySem.wpAny_loadPart_at
def CI:=@List.all_cons
def CJ:=@beq_self_eq_true
def CK:=@List.perm_append_comm
def CL:=@PySem.Obj.data_mapFields
def CM:=@List.sum_singleton
def CO:=@List.nodup_cons
def CQ:=@Array.toList_reverse
def CS:=@Nat.min_eq_left
def CT:=@List.sum_append
def CU:=@PySem.wpAny_rule
def CV:=@PySem.codeAny_builtin
def CW:=@PySem.wpAny_ite_false
def CY:=@PySem.wpAny_truthy_bool
def CZ:=@PySem.wpAny_typeNameOfWhole_keyiter
def Ca:=@List.map_congr_left
def Cb:=@Nat.le_add_right
def Cc:=@PySem.F.plain_max_loop
def Cd:=@Option.bind_some
def Ce:=@List.take_length
def Cf:=@PyProof.Rows.wpS_mono
def Cg:=@PySem.wpAny_setField
def Ch:=@PySem.Paired.mono
def Ci:=@List.drop_of_length_le
def Cj:=@PySem.F.slot_tuple_mul
def Ck:=@PyProof.Rows.wpS_modify
def Cm:=@List.map_map
def Cn:=@of_decide_eq_false
def Co:=@PySem.wpAny_setField_rec
def Cp:=@List.length_nil
def Cq:=@PySem.Obj.isFreed_of_fields
def Cr:=@PySem.wpAny_passesOwn
def Cs:=@PySem.wpAny_loadPart'
def Ct:=@PySem.F.slot_tuple_iterator_next
def Cu:=@PySem.wpAny_holding
def Cv:=@List.pairwise_append
def Cw:=@List.pairwise_iff_getElem
def Cy:=@PySem.codeAny_call_builtin
def Cz:=@Nat.succ_mul
def C1:=@Array.size_setIfInBounds
def C2:=@PySem.wpAny_typeNameOf_keyiter
def C3:=@or_false
def C4:=@PySem.mem_of_lookup
def C5:=@List.take_succ_cons
def C6:=@Array.getElem?_setIfInBounds_ne
def C7:=@PySem.F.plain_list_iadd
def C8:=@List.length_eq_zero_iff
def C9:=@List.mem_filterMap
def DA:=@Bool.eq_iff_iff
def DB:=@PySem.Calls.spliced_cons
def DC:=@List.Nodup.length_le_of_subset
def DD:=@PySem.wpAny_execs_nil
def DE:=@PySem.call_meets
def DF:=@List.getElem?_set_self
def DG:=@PySem.Calls.callWith_builtin
def DH:=@PySem.Paired.snoc
def DI:=@List.range_succ_eq_map
def DJ:=@List.zipWith_cons_cons
def DK:=@PySem.wpAny_letGo
def DL:=@Array.toList_push
def DM:=@List.ext_getElem?
def DN:=@List.map_nil
def DO:=@Nat.lt_trans
def DP:=@List.take_zero
def DQ:=@List.drop_zero
def DR:=@List.filterMap_append
def DS:=@PySem.codeAny_mono
def DT:=@PySem.Calls.evalArgs_plain
def DU:=@List.reverse_reverse
def DV:=@List.getElem_mem
def DW:=@Nat.pow_le_pow_right
def DX:=@PySem.F.excAttr_ValueError
def DY:=@List.getElem?_append_right
def DZ:=@PySem.wpAny_attempt
def Da:=@PySem.plainId_quiet
def Db:=@PySem.wpAny_standAt
def Dc:=@Int.le_refl
def Dd:=@List.reverse_append
def De:=@PySem.Heap.SameBut.update
def Df:=@PySem.Heap.get?_update_ne
def Dg:=@List.mem_filter
def Dh:=@List.getElem?_append_left
def Di:=@Bool.or_eq_true
def Dj:=@List.forIn_cons
def Dk:=@List.zip_cons_cons
def Dl:=@PySem.F.args_tuple_add_2
def Dm:=@Nat.mul_comm
def Dn:=@List.all_map
def Do:=@List.length_filterMap_le
def Dp:=@PySem.AutoSeq1.wpAny_loadPart'
def Dq:=@PySem.F.args_tuple_mul_2
def Dr:=@Int.zero_add
def Ds:=@Nat.gcd_pos_of_pos_right
def Dt:=@PySem.W.looks_findIn
def Du:=@Nat.mul_le_mul
def Dv:=@PyProof.Rows.wpS_get
def Dw:=@PySem.wpAny_tryCatch
def Dx:=@PySem.F.entry_tuple_add
def Dy:=@List.pairwise_singleton
def Dz:=@PySem.F.entry_tuple_mul
def D0:=@PySem.Obj.cls_mapFields
def D1:=@Bool.eq_false_iff
def D4:=@PySem.wpAny_dictEntries
def D5:=@Int.mul_one
def D6:=@PySem.F.slot_tuple_add
def D7:=@Nat.le_succ
def D8:=@Nat.pow_add
def D9:=@PyProof.Rows.boot_list
def EA:=@Int.mul_assoc
def EB:=@PySem.W.Looks.ld
def EC:=@PySem.Heap.size_update
def ED:=@PySem.F.slot_tuple_lt
def EE:=@PySem.F.slot_dict_get
def EF:=@List.getElem?_set_ne
def EG:=@Int.ediv_one
def EI:=@PySem.F.args_dict_keyiterator_next_1
def EJ:=@PySem.W.kat_nil
def EK:=@PySem.W.kat_one
def EL:=@PySem.F.slot_zip_next
def EM:=@Nat.mul_le_mul_right
def EN:=@decide_false
def EO:=@PySem.wpAny_dictEpoch
def EQ:=@PySem.wpAny_updateSeq_pair
def ER:=@PySem.F.entry_dict_keyiterator_next
def ES:=@PySem.W.hideAll_get
def ET:=@PyProof.Rows.lt_int
def EU:=@Int.toNat_of_nonneg
def EV:=@List.getElem?_range
def EW:=@List.mem_map_of_mem
def EX:=@PySem.F.args_tuple_iterator_next_1
def EY:=@Int.natAbs_mul
def EZ:=@PyProof.Rows.wpS_lift
def Ea:=@decide_true
def Eb:=@PyProof.Rows.callWith_kw
def Ec:=@PySem.W.of_hideAll
def Ed:=@PySem.W.callWith_K
def Ee:=@PySem.SeqAt.EqAt.int_int
def Ef:=@Array.size_extract
def Eg:=@PySem.F.entry_proto_collect
def Eh:=@PySem.F.plain_proto_collect
def Ej:=@PySem.F.entry_tuple_iterator_next
def Ek:=@PySem.Code.quiet_builtin
def El:=@Int.natAbs_natCast
def Em:=@PySem.tupleKind_room_in1
def En:=@PySem.Calls.Name_function_global
def Eo:=@Int.fdiv_eq_ediv_of_nonneg
def Ep:=@Array.perm_iff_toList_perm
def Er:=@Nat.mul_lt_mul_of_pos_left
def Es:=@PySem.wpAny_onRaise
def Et:=@List.reverse_cons
def Eu:=@PySem.SeqAt.RcAt.tuples
def Ew:=@Bool.not_eq_true'
def Ex:=@PySem.Within.cons
def Ey:=@PySem.wpAny_call
def Ez:=@PySem.typeIs_int
def E1:=@PySem.wpAny_binaryOp_repeat_ref
def E3:=@beq_iff_eq
def E4:=@PySem.codeAny_handlers_suite_as
def E5:=@Nat.lt_succ_self
def E6:=@List.getElem?_take_of_lt
def E7:=@Prod.ext
def E8:=@Nat.min_self
def E9:=@List.zipIdx_cons
def FA:=@PySem.W.kat_cons
def FC:=@List.any_map
def FD:=@PySem.F.entry_max_loop
def FE:=@Nat.min_eq_right
def FF:=@PySem.F.slot_list_extend
def FG:=@PySem.F.type_list_extend
def FH:=@Int.mul_ediv_cancel_left
def FJ:=@PySem.noFill_tuple_add
def FK:=@PySem.wpAny_isInstance
def FL:=@PySem.F.args_tuple_lt_2
def FM:=@PySem.F.args_dict_get_3
def FO:=@PySem.F.plainAttrs_dict
def FP:=@Nat.add_sub_cancel_left
def FR:=@PySem.F.entry_list_iadd
def FS:=@PySem.F.slot_tuple_rmul
def FT:=@Nat.mul_div_cancel_left
def FU:=@List.of_mem_zip
def FV:=@PySem.SeqAt.EqAt.same
def FW:=@List.nil_append
def FX:=@PySem.W.kat_yes
def FY:=@Int.natCast_mul
def FZ:=@PySem.wpAny_updateSeq
def Fa:=@PyProof.noPylong_small
def Fb:=@PySem.W.cellsFrom_some
def Fc:=@PySem.F.entry_tuple_lt
def Fd:=@PySem.F.entry_dict_get
def Fe:=@Array.getElem?_extract
def Ff:=@List.getElem_cons_drop
def Fg:=@PySem.wpAny_pyNext_range_end
def Fh:=@PySem.wpAny_pyIter_rangeiter
def Fi:=@PySem.sizeLine_eq
def Fk:=@PyProof.Rows.wpS_reverse
def Fl:=@PySem.wpAny_of_eq
def Fm:=@PyProof.Rows.boot_sorted
def Fn:=@PySem.W.looks_mroIn
def Fo:=@PySem.W.hideAll_get
def Fp:=@Bool.and_false
def Fq:=@Array.mem_of_getElem?
def Fs:=@List.pairwise_and_iff
def Ft:=@PySem.W.kat_no
def Fu:=@List.forIn_nil
def Fv:=@PySem.F.slot_enumerate_next
def Fw:=@PySem.F.slot_int_rmul
def Fx:=@PyProof.Rows.boot_any
def Fy:=@List.getElem?_eq_none
def Fz:=@PyProof.Rows.boot_min
def F0:=@List.contains_iff_mem
def GI:=@List.length_filter_le
def GQ:=@PySem.wpAny_isTrue_Compare1
def GY:=@PySem.wpAny_notOrdered_dict
def GZ:=@PySem.wpAny_isOneOf_keyiter
def Ga:=@PySem.isSubtype_stop
def Gb:=@PySem.wpAny_newTuple
def Gc:=@PySem.codeAny_handlers_test
def Gd:=@PySem.wpAny_loadPart
def Gg:=@List.mem_of_mem_drop
def Gm:=@Bool.false_or
def Gn:=@Bool.and_true
def Go:=@Bool.not_true
def Gp:=@List.map_drop
def Gq:=@List.map_take
def Gr:=@PySem.seq_tuple_add
def Gv:=@List.filter_sublist
def Gz:=@Nat.add_comm
def HA:=@Nat.sub_zero
def HB:=@Int.add_comm
def HC:=@PySem.concat_meets
def HD:=@PySem.wpAny_typeOf
def HG:=@List.map_id
def HH:=@Int.add_mul
def HI:=@Int.mul_add
set_option maxRecDepth 100000
noncomputable section
abbrev wB:=List Int
abbrev wC:=List PySem.Value
abbrev wD:=PySem.Value→PySem.Shared→Prop
abbrev wF:=List (PySem.Addr×PySem.Obj)
abbrev wG:=List PySem.Str
abbrev wH:=List PySem.Addr
abbrev wI:=Option PySem.Value
abbrev wJ:=List PySem.Expr
abbrev wK:=Array PySem.Value
abbrev wL:=PySem.W.Frag
abbrev wM:=PySem.Shared
abbrev wN:=PySem.Value
abbrev wO:=PySem.Addr
abbrev wP:=PySem.Program
abbrev wQ:=PySem.World
abbrev wR:=PySem.FuncData
abbrev wS:=PySem.NameKind
abbrev wT:=PySem.DictEntry
namespace L2
open PySem PySem.Spec PyProof.Rows
abbrev Ht:=Sum Int Str
def QD:Ht->wN->Bool
 |.inl k,v=>Value.isInt k v
 |.inr x,v=>Value.isStrOf x v
noncomputable def dI(w:wQ):Ht->Int
 |.inl k=>hashInt k
 |.inr x=>hashStr w x
theorem NG:∀{k:Ht}{v:wN},QD k v=true->(∃i t,k=Sum.inl i/\v=Value.int i t)∨(∃x t,k=Sum.inr x/\v=Value.str x t)
 |.inl i,v,h=>by
  obtain⟨t,e⟩:=Value.isInt_shape (k:=i) (v:=v) h
  exact .inl ⟨i,t,rfl,e⟩
 |.inr x,v,h=>by
  obtain⟨t,e⟩:=Value.isStrOf_shape (x:=x) (v:=v) h
  exact .inr ⟨x,t,rfl,e⟩
theorem cD(i:Int)(t:Tok):QD (.inl i) (.int i t)=true:=by simp [QD,Value.isInt]
theorem qG(x:Str)(t:Tok):QD (.inr x) (.str x t)=true:=by simp [QD,Value.isStrOf]
theorem oY(a b:Int):decide ((Sum.inl a:Ht)=Sum.inl b)=(a==b):=by
 by_cases e:a=b
 ·subst e;simp
 ·have h:¬ (Sum.inl a:Ht)=Sum.inl b:=λq=>e (Sum.inl.inj q)
  rw[AO h]
  exact(beq_eq_false_iff_ne.mpr e).symm
theorem nM(a b:Str):decide ((Sum.inr a:Ht)=Sum.inr b)=decide (a=b):=by
 by_cases e:a=b
 ·subst e;simp
 ·have h:¬ (Sum.inr a:Ht)=Sum.inr b:=λq=>e (Sum.inr.inj q)
  rw[AO h,AO e]
theorem YC(a:Int)(b:Str):decide ((Sum.inl a:Ht)=Sum.inr b)=false:=AO (λq=>nomatch q)
theorem dB(a:Str)(b:Int):decide ((Sum.inr a:Ht)=Sum.inl b)=false:=AO (λq=>nomatch q)
noncomputable def J7(prog:wP)(w:wQ):PySem.KeyKind prog w Ht where
 is:=QD
 hash:=dI w
 inj:=λv a b ha hb=>by
  rcases NG ha with⟨i,t,rfl,rfl⟩|⟨x,t,rfl,rfl⟩
  ·rcases NG hb with⟨j,u,rfl,e⟩|⟨y,u,rfl,e⟩
   ·injection e with e1 _;rw[e1]
   ·exact nomatch e
  ·rcases NG hb with⟨j,u,rfl,e⟩|⟨y,u,rfl,e⟩
   ·exact nomatch e
   ·injection e with e1 _;rw[e1]
 byValue:=λk v h=>by
  rcases NG h with⟨i,t,rfl,rfl⟩|⟨x,t,rfl,rfl⟩<;>rfl
 pyHash:=λhv h=>by
  rcases NG hv with⟨i,t,rfl,rfl⟩|⟨x,t,rfl,rfl⟩
  ·exact wpAny_pyHash_int h
  ·exact wpAny_pyHash_str h
 eqBool:=λhu hv h=>by
  rcases NG hu with⟨i,t,rfl,rfl⟩|⟨x,t,rfl,rfl⟩
  ·rcases NG hv with⟨j,u,rfl,rfl⟩|⟨y,u,rfl,rfl⟩
   ·rw[oY]at h;exact wpAny_eqBool_int h
   ·rw[YC]at h;exact SeqAt.EqAt.int_str i t y u _ _ _ _ h
  ·rcases NG hv with⟨j,u,rfl,rfl⟩|⟨y,u,rfl,rfl⟩
   ·rw[dB]at h;exact SeqAt.EqAt.str_int x t j u _ _ _ _ h
   ·rw[nM]at h;exact wpAny_eqBool_str h
 «strs»:=λk x t v h=>by
  rcases NG h with⟨i,u,rfl,e⟩|⟨y,u,rfl,e⟩
  ·exact nomatch e
  ·injection e with e1 _
   subst e1
   cases v<;>rfl
theorem aO(prog:wP)(w:wQ)(i:Int)(t:Tok):(J7 prog w).is (.inl i) (.int i t)=true:=cD i t
theorem qF(prog:wP)(w:wQ)(x:Str)(t:Tok):(J7 prog w).is (.inr x) (.str x t)=true:=qG x t
inductive V where
 |non|bl (b:Bool)|int (i:Int)|str (x:Str)|byt (b:Array UInt8)|flt (b:UInt64)|ref (a:wO)|ty (n:String)
 deriving DecidableEq
def HE:V->wN->Prop
 |.non,u=>u=Value.none
 |.bl b,u=>u=Value.bool b
 |.int i,u=>∃t,u=Value.int i t
 |.str x,u=>∃t,u=Value.str x t
 |.byt b,u=>∃t,u=Value.bytes b t
 |.flt b,u=>∃t,u=Value.float b t
 |.ref a,u=>u=Value.ref a
 |.ty n,u=>u=Value.type n
abbrev HF:List V->wC->Prop:=Paired HE
theorem HF.length{xs:List V}{us:wC}(r:HF xs us):xs.length=us.length:=AL r
theorem HF.get:∀{xs:List V}{us:wC}{i:Nat}{x:V},HF xs us->xs[i]?=some x->∃u,us[i]?=some u/\HE x u
 |_,_,_,_,.nil,e=>by simp at e
 |_,_,0,_,.cons r _,e=>by simp at e;subst e;exact⟨_,rfl,r⟩
 |_,_,i+1,x,.cons _ t,e=>by
  obtain⟨u,h1,h2⟩:=HF.get (i:=i) (x:=x) t (by simpa using e)
  exact⟨u,by simpa using h1,h2⟩
theorem HF.set{x:V}{u:wN}(r:HE x u):∀{xs:List V}{us:wC}(i:Nat),HF xs us->HF (xs.set i x) (us.set i u)
 |_,_,_,.nil=>.nil
 |_,_,0,.cons _ t=>.cons r t
 |_,_,i+1,.cons q t=>.cons q (HF.set r i t)
theorem HF.append:∀{xs ys:List V}{us ws:wC},HF xs us->HF ys ws->HF (xs++ys) (us++ws)
 |_,_,_,_,.nil,s=>s
 |_,_,_,_,.cons r t,s=>.cons r (HF.append t s)
theorem HF.take:∀{xs:List V}{us:wC}(n:Nat),HF xs us->HF (xs.take n) (us.take n)
 |_,_,0,_=>.nil
 |_,_,_+1,.nil=>.nil
 |_,_,n+1,.cons r t=>.cons r (HF.take n t)
theorem HF.drop:∀{xs:List V}{us:wC}(n:Nat),HF xs us->HF (xs.drop n) (us.drop n)
 |_,_,0,r=>r
 |_,_,_+1,.nil=>.nil
 |_,_,n+1,.cons _ t=>HF.drop n t
def IY:Option V->wI->Prop
 |some v,some u=>HE v u
 |none,none=>True
 |_,_=>False
def KV{κ:Type}:List (κ×V)->List (κ×wN)->Prop:=Paired λ(p:κ×V)(q:κ×wN)=>p.1=q.1/\HE p.2 q.2
noncomputable def kV:Ht->V
 |.inl i=>.int i
 |.inr x=>.str x
inductive HO where
 |lst (xs:List V)
 |tup (xs:List V)
 |dK (kvs:List (Ht×V))|dT (kvs:List (List Ht×V))
 |set (S:Int->Bool) (n:Nat)
 |ins (C dx:wO) (fs:List (Str×V))
 |own (x:wO)
 |xd (fs:List (Str×V))
 |met (f x:wO)
 |rng (lo hi:Int)
 |frz (o:Obj) (u:HO)
 |tbl (ps:wK)
 |ext (φ:Heap->Prop)
abbrev Hp:=wO->Option HO
noncomputable def Gw(H:Hp)(a:wO)(o:HO):Hp:=λb=>if b=a then some o else H b
theorem Gu{H:Hp}{a:wO}{o:HO}:Gw H a o a=some o:=by unfold Gw;rw[AF rfl]
theorem Hf{H:Hp}{a b:wO}{o:HO}(h:b≠a):Gw H a o b=H b:=by unfold Gw;rw[AD h]
theorem Ku{H:Hp}{a b:wO}{o u:HO}(h:H a=some o)(h':H b=some u)(d:o≠u):a≠b:=by
 intro e;subst e;rw[h]at h';exact d (Ap h')
theorem JR{H:Hp}{a b:wO}{o:HO}(h:H a=some o)(h':H b=none):a≠b:=by
 intro e;subst e;rw[h]at h';cases h'
def JZ(h:Heap)(a:wO)(items:wK):Prop:=∃o,h.get? a=some o/\o.cls=.type "tuple" /\ ∃n,o.data=.seq items n/\o.dict=none
theorem JZ.tup{h:Heap}{a:wO}{items:wK}(x:JZ h a items):IsTup h a items:=let ⟨o,e,c,n,d,_⟩:=x;⟨o,e,c,n,d⟩
theorem JZ.new(h:Heap)(items:wK):JZ (h.push { cls:=.type "tuple",data:=.seq items }) h.objs.size items:=⟨_,AU _ rfl,rfl,0,rfl,rfl⟩
section
variable(P:wP)(w:wQ)
def HR(H:Hp)(h:Heap)(a:wO):HO->Prop
 |.lst xs=>xs.length<=sizeLine/\∃(its:wC)(n:Nat),HF xs its/\h.get? a=some { cls:=.type "list",data:=.seq its.toArray n }
 |.tup xs=>xs.length<=sizeLine/\∃its:wC,HF xs its/\JZ h a its.toArray
 |.dK kvs=>kvs.length<=sizeLine/\(a==sysModules)=false/\∃vs,KV kvs vs/\h.DictOf (J7 P w) a vs
 |.dT kvs=>kvs.length<=sizeLine/\(a==sysModules)=false/\∃xs:List (List Ht×wO×wN),
   Paired (λ(p:List Ht×V)(q:List Ht×wO×wN)=>p.1=q.1/\H q.2.1=some (.tup (p.1.map kV))/\HE p.2 q.2.2) kvs xs /\
   ∃o es ep,h.get? a=some o/\o.ExactDict/\o.data=.dict es ep/\es.toList=xs.map (entryOfKey (tupleKind (J7 P w)))/\(xs.map (·.1)).Nodup
 |.set S n=>h.SetOf (intKind P w) a S n
 |.ins C dx fs=>H dx=some (.own a)/\fs.length<=1000/\dx≠a/\h.get? a=some (W.instObj C dx) /\
   ∃mA,h.Ns1 dx mA/\(∀f,IY (fs.lookup f) (mA f))/\PySem.Within mA (fs.map (·.1))
 |.own _=>∃o,h.get? a=some o
 |.xd fs=>∃mA,h.Ns1 a mA/\∀f,IY (fs.lookup f) (mA f)
 |.rng lo hi=>∃t u v,h.get? a=some { cls:=.type "range",data:=.fields #[.int lo t,.int hi u,.int 1 v] }
 |.frz o u=>h.get? a=some o/\HR H h a u
 |.tbl ps=>h.get? a=some { cls:=.none,data:=.fields ps }
 |.met f x=>h.get? a=some (W.methodObj (.ref f) (.ref x))
 |.ext φ=>φ h/\(∃o,h.get? a=some o)/\∀h1 h2:Heap,φ h1->(∀o,h1.get? a=some o->h2.get? a=some o)->φ h2
def IU(H:Hp)(h:Heap):Prop:=∀a o,H a=some o->HR P w H h a o
end
section
variable{P:wP}{w:wQ}{H H':Hp}{h h':Heap}{a:wO}{o:HO}
theorem HR.lt(x:HR P w H h a o):a<h.objs.size:=by
 cases o with
 |lst xs=>obtain⟨_,_,_,_,e⟩:=x;exact AS e
 |tup xs=>obtain⟨_,_,_,p⟩:=x;exact p.tup.lt
 |dK kvs=>obtain⟨_,_,_,_,o,_,_,e,_⟩:=x;exact AS e
 |dT kvs=>obtain⟨_,_,_,_,o,_,_,e,_⟩:=x;exact AS e
 |set S n=>obtain⟨o,_,_,_,e,_⟩:=x;exact AS e
 |ins C dx fs=>obtain⟨_,_,_,e,_⟩:=x;exact AS e
 |own y=>obtain⟨_,e⟩:=x;exact AS e
 |xd fs=>obtain⟨_,⟨_,_,_,e,_⟩,_⟩:=x;exact AS e
 |rng lo hi=>obtain⟨_,_,_,e⟩:=x;exact AS e
 |frz ob u=>obtain⟨e,_⟩:=x;exact AS e
 |tbl ps=>exact AS (show h.get? a=some _ from x)
 |met f y=>exact AS (show h.get? a=some _ from x)
 |ext φ=>obtain⟨_,⟨_,e⟩,_⟩:=x;exact AS e
theorem Paired.mapP{α β:Type}{F G:α->β->Prop}:∀{l₁:List α}{l₂:List β},Paired F l₁ l₂->(∀a b,F a b->G a b)->Paired G l₁ l₂
 |_,_,.nil,_=>.nil
 |_,_,.cons r t,f=>.cons (f _ _ r) (Paired.mapP t f)
theorem HR.stay(x:HR P w H h a o)(k:∀b u,(b=a∨H b=some (.own a))->h.get? b=some u->h'.get? b=some u)
  (ho:∀b,H b=some (.own a)->H' b=some (.own a)) (ht:∀b xs,H b=some (.tup xs)->H' b=some (.tup xs)):HR P w H' h' a o:=by
 induction o with
 |lst xs=>obtain⟨z,its,n,r,e⟩:=x;exact⟨z,its,n,r,k _ _ (.inl rfl) e⟩
 |tup xs=>obtain⟨z,its,r,ob,e,c⟩:=x;exact⟨z,its,r,ob,k _ _ (.inl rfl) e,c⟩
 |dK kvs=>obtain⟨z,y,vs,r,ob,es,ep,e,c⟩:=x;exact⟨z,y,vs,r,ob,es,ep,k _ _ (.inl rfl) e,c⟩
 |dT kvs =>
  obtain⟨z,y,xs,r,ob,es,ep,e,c⟩:=x
  exact⟨z,y,xs,Paired.mapP r λp q z=>⟨z.1,ht _ _ z.2.1,z.2.2⟩,ob,es,ep,k _ _ (.inl rfl) e,c⟩
 |set S n=>obtain⟨ob,es,ep,t,e,c⟩:=x;exact⟨ob,es,ep,t,k _ _ (.inl rfl) e,c⟩
 |ins C dx fs =>
  obtain⟨d,z,ne,e,mA,⟨od,es,ep,e2,c⟩,r⟩:=x
  exact⟨ho _ d,z,ne,k _ _ (.inl rfl) e,mA,⟨od,es,ep,k _ _ (.inr d) e2,c⟩,r⟩
 |own y=>obtain⟨ob,e⟩:=x;exact⟨ob,k _ _ (.inl rfl) e⟩
 |xd fs=>obtain⟨mA,⟨od,es,ep,e,c⟩,r⟩:=x;exact⟨mA,⟨od,es,ep,k _ _ (.inl rfl) e,c⟩,r⟩
 |rng lo hi=>obtain⟨t,u,v,e⟩:=x;exact⟨t,u,v,k _ _ (.inl rfl) e⟩
 |frz ob u ih=>obtain⟨e,q⟩:=x;exact⟨k _ _ (.inl rfl) e,ih q⟩
 |tbl ps =>
  have e:h.get? a=some { cls:=.none,data:=.fields ps }:=x
  show h'.get? a=some { cls:=.none,data:=.fields ps }
  exact k a _ (.inl rfl) e
 |met f y =>
  have e:h.get? a=some (W.methodObj (.ref f) (.ref y)):=x
  show h'.get? a=some (W.methodObj (.ref f) (.ref y))
  exact k a _ (.inl rfl) e
 |ext φ=>obtain⟨p,⟨o,e⟩,st⟩:=x;exact⟨st _ _ p λo q=>k _ _ (.inl rfl) q,⟨o,k _ _ (.inl rfl) e⟩,st⟩
theorem IU.lt(x:IU P w H h)(e:H a=some o):a<h.objs.size:=(x a o e).lt
theorem IU.fresh(x:IU P w H h)(e:h.objs.size<=a):H a=none:=by
 cases q:H a with
 |none=>rfl
 |some u=>exact absurd (Ai (x.lt q) e) (B3 _)
theorem IU.kept(x:IU P w H h)(k:∀b u,h.get? b=some u->h'.get? b=some u):IU P w H h':=λa o e =>
 (x a o e).stay (λb u _ q=>k b u q) (λ_ q=>q) λ_ _ q=>q
theorem IU.laid(x:IU P w H h)(k:∀b u,h.get? b=some u->h'.get? b=some u)(hp:h.objs.size<=a)(new:HR P w (Gw H a o) h' a o):IU P w (Gw H a o) h':=λb u e=>by
 have hn:=x.fresh hp
 by_cases hb:b=a
 ·subst hb;rw[Gu]at e;cases e;exact new
 ·rw[Hf hb]at e
  exact(x b u e).stay (λc v _ q=>k c v q) (λc q=>by rw[Hf (JR q hn)];exact q) λc xs q=>by rw[Hf (JR q hn)];exact q
end
def Rd(H:Hp)(a:wO)(u:HO):Prop:=H a=some u∨∃o,H a=some (.frz o u)
theorem Rd.of{H:Hp}{a:wO}{u:HO}(h:H a=some u):Rd H a u:=.inl h
theorem Rd.ok{P:wP}{w:wQ}{H:Hp}{h:Heap}{a:wO}{u:HO}(r:Rd H a u)(x:IU P w H h):HR P w H h a u:=by
 rcases r with r|⟨o,r⟩
 ·exact x a u r
 ·obtain⟨_,q⟩:=x a _ r
  exact q
def VL:Option HO->Prop
 |some (.lst _)=>True
 |some (.dK _)=>True
 |some (.dT _)=>True
 |some (.set _ _)=>True
 |some (.ins _ _ _)=>True
 |some (.ext _)=>True
 |_=>False
section
variable{P:wP}{w:wQ}{H:Hp}{h h':Heap}{x e:wO}{o':HO}
theorem IU.write(ok:IU P w H h)(mu:VL (H x))(he:e=x∨H e=some (.own x))(k:∀b u,b≠e->h.get? b=some u->h'.get? b=some u)(heo:∃u,h'.get? e=some u)
  (new:HR P w (Gw H x o') h' x o'):IU P w (Gw H x o') h':=λb u q=>by
 have nown:∀c y,H c=some (.own y)->c≠x:=λc y r z=>by subst z;rw[r]at mu;exact mu
 have ntup:∀c xs,H c=some (.tup xs)->c≠x:=λc xs r z=>by subst z;rw[r]at mu;exact mu
 by_cases hb:b=x
 ·subst hb;rw[Gu]at q;cases q;exact new
 ·rw[Hf hb]at q
  by_cases hbe:b=e
  ·have q':H b=some (.own x):=by
    rcases he with z|z
    ·exact absurd (hbe.trans z) hb
    ·rw[hbe];exact z
   rw[q]at q';cases q'
   obtain⟨v,hv⟩:=heo
   exact⟨v,by rw[hbe];exact hv⟩
  ·refine(ok b u q).stay (λc v hc r=>k c v ?_ r) (λc r=>by rw[Hf (nown c b r)];exact r) λc xs r=>by rw[Hf (ntup c xs r)];exact r
   rcases hc with rfl|hc
   ·exact hbe
   ·rintro rfl
    rcases he with z|z
    ·exact nown c b hc z
    ·rw[hc]at z;cases z;exact hb rfl
end
structure Un(fs ex:wH)(H H':Hp)(h h':Heap):Prop where
 keep:∀b o,h.get? b=some o->H b=none->b∉fs->b∉ex->h'.get? b=some o
 slot:∀b o,h.get? b=some o->H b=none->b∈fs->b∉ex->∃sl,h'.get? b=some { o with slots:=sl }
 free:∀b o,h.get? b=some o->H b=none->b∉ex->H' b=none
 there:∀b o,h.get? b=some o->b∉ex->∃o',h'.get? b=some o'
 tups:∀b xs,H b=some (.tup xs)->H' b=some (.tup xs)
 frzs:∀b o u,H b=some (.frz o u)->H' b=some (.frz o u)
 tbls:∀b ps,H b=some (.tbl ps)->∃more,H' b=some (.tbl (ps++more))
section
variable{fs fs' ex ex':wH}{H H1 H2:Hp}{h h1 h2 h':Heap}{a x e:wO}{o:HO}
theorem Un.any(u:Un fs ex H H1 h h1){b:wO}{ob:Obj}(q:h.get? b=some ob)(n:H b=none)(hx:b∉ex):∃sl,h1.get? b=some { ob with slots:=sl }:=by
 by_cases hb:b∈fs
 ·exact u.slot b ob q n hb hx
 ·exact⟨ob.slots,u.keep b ob q n hb hx⟩
theorem Un.trans(a:Un fs ex H H1 h h1)(b:Un fs ex H1 H2 h1 h2):Un fs ex H H2 h h2 where
 keep:=λc ob q n hc hx=>b.keep c ob (a.keep c ob q n hc hx) (a.free c ob q n hx) hc hx
 slot:=λc ob q n hc hx=>by
  obtain⟨sl,e1⟩:=a.slot c ob q n hc hx
  obtain⟨sl',e2⟩:=b.slot c _ e1 (a.free c ob q n hx) hc hx
  exact⟨sl',e2⟩
 free:=λc ob q n hx=>by
  obtain⟨o',e1⟩:=a.there c ob q hx
  exact b.free c o' e1 (a.free c ob q n hx) hx
 there:=λc ob q hx=>by
  obtain⟨o',e1⟩:=a.there c ob q hx
  exact b.there c o' e1 hx
 tups:=λc xs q=>b.tups c xs (a.tups c xs q)
 frzs:=λc ob xs q=>b.frzs c ob xs (a.frzs c ob xs q)
 tbls:=λc ps q=>by
  obtain⟨m1,e1⟩:=a.tbls c ps q
  obtain⟨m2,e2⟩:=b.tbls c _ e1
  exact⟨m1++m2,by rw[e2,Array.append_assoc]⟩
theorem Un.kept(k:∀b u,h.get? b=some u->h'.get? b=some u):Un fs ex H H h h' :=
 ⟨λb ob q _ _ _=>k b ob q,λb ob q _ _ _=>⟨ob.slots,k b ob q⟩,λ_ _ _ n _=>n,λb ob q _=>⟨ob,k b ob q⟩,λ_ _ q=>q,λ_ _ _ q=>q,λ_ ps q=>⟨#[],by rw[q];simp⟩⟩
theorem Un.refl:Un fs ex H H h h:=Un.kept λ_ _ q=>q
theorem Un.laid(k:∀b u,h.get? b=some u->h'.get? b=some u)(hp:h.objs.size<=a)(hn:H a=none):Un fs ex H (Gw H a o) h h' where
 keep:=λb u q _ _ _=>k b u q
 slot:=λb u q _ _ _=>⟨u.slots,k b u q⟩
 free:=λb u q n _=>by rw[Hf (As (Ai (AS q) hp))];exact n
 there:=λb u q _=>⟨u,k b u q⟩
 tups:=λb xs q=>by rw[Hf (JR q hn)];exact q
 frzs:=λb u xs q=>by rw[Hf (JR q hn)];exact q
 tbls:=λb ps q=>⟨#[],by rw[Hf (JR q hn),q];simp⟩
theorem Un.write(mu:VL (H x))(he:e=x∨H e=some (.own x))(k:∀b u,b≠e->h.get? b=some u->h'.get? b=some u)(heo:∃u,h'.get? e=some u):Un fs ex H (Gw H x o) h h':=by
 have hx:∀b,H b=none->b≠x:=λb n z=>by subst z;rw[n]at mu;exact mu
 have hb:∀b,H b=none->b≠e:=λb n z=>by
  subst z
  rcases he with r|r
  ·exact hx b n r
  ·rw[n]at r;cases r
 have hm:∀b u,H b=some u->¬ VL (some u)->b≠x:=λb u q nm z=>by subst z;rw[q]at mu;exact nm mu
 refine⟨λb u q n _ _=>k b u (hb b n) q,λb u q n _ _=>⟨u.slots,k b u (hb b n) q⟩,λb u q n _=>by rw[Hf (hx b n)];exact n,λb u q _=>?_,
  λb xs q=>by rw[Hf (hm b _ q λz=>z)];exact q,λb u xs q=>by rw[Hf (hm b _ q λz=>z)];exact q,λb ps q=>⟨#[],by rw[Hf (hm b _ q λz=>z),q];simp⟩⟩
 by_cases hbe:b=e
 ·subst hbe;exact heo
 ·exact⟨u,k b u hbe q⟩
theorem Un.mono(u:Un fs ex H H1 h h1)(hs:∀b∈fs,b∈fs')(hx:∀b∈ex,b∈ex'):Un fs' ex' H H1 h h1 :=
 ⟨λb ob q n hb he=>u.keep b ob q n (λz=>hb (hs b z)) λz=>he (hx b z),λ_ _ q n _ he=>u.any q n λz=>he (hx _ z),λb ob q n he=>u.free b ob q n λz=>he (hx b z),λb ob q he=>u.there b ob q λz=>he (hx b z),u.tups,u.frzs,u.tbls⟩
end
noncomputable def trk(h:Heap)(H:Hp):wH:=(List.range h.objs.size).filter λa=>(H a).isSome
def Ms(h:Heap)(H:Hp):Heap:=W.hideAll h (trk h H)
theorem eY(h:Heap)(H:Hp):(Ms h H).objs.size=h.objs.size:=W.hideAll_size _ _
theorem bO{h:Heap}{H:Hp}{b:wO}{o:Obj}(e:h.get? b=some o)(n:H b=none):(Ms h H).get? b=some o :=
 ES _ e λhm=>by
  have q:(H b).isSome=true:=(Dg.mp hm).2
  rw[n]at q;simp at q
theorem W8{h:Heap}{H:Hp}{b:wO}{o:Obj}(e:(Ms h H).get? b=some o):h.get? b=some o/\H b=none:=by
 have e':h.get? b=some o:=Ec (trk h H) e
 refine⟨e',?_⟩
 cases q:H b with
 |none=>rfl
 |some x =>
  have hm:b∈trk h H:=Dg.mpr ⟨At.mpr (AS e'),by simp [q]⟩
  have z:(Ms h H).get? b=none:=W.hideAll_none (trk h H) hm
  rw[z]at e;cases e
noncomputable def ZV(g h:Heap)(L:wO):wF:=(List.range h.objs.size).filterMap λa=>if a=L∨(g.get? a).isSome=true then none else (h.get? a).map λo=>(a,o)
noncomputable def Hg(g h:Heap)(L d:wO):wF:=(ZV g h L).filter λp=>decide (p.1≠d)
structure Mod(K:wL)(mg:Str->wI)(base:Heap):Prop where
 kin:K.In base
 glob:base.Ns mainGlobals mg
 blt:∃mb,base.Ns builtinsNs mb/\∀x:Str,x ≠ "__name__" -> mb x=bootBuiltins x
 nolimit:base.NoLimit
structure Cx where
 prog:wP
 w:wQ
 K:wL
 mg:Str->wI
 base:Heap
 A:Around
 N:wG
 s₀:wM
 H₀:Hp
 env:Env
 outer:List Env
 stack:List Env
 ex:wH
 fn:Str->Bool
 calm:Bool
 pn:wF
 xe:wD
noncomputable def IZ(l:List Env):wH:=l.filterMap (·.frame)
abbrev Cx.fs(X:Cx):wH:=IZ X.outer
def WL(sc:Scope)(x:Str):Prop:=sc.names.lookup x=some .local∨sc.names.lookup x=some .cell∨sc.names.lookup x=some .free
def Loc(sc:Scope)(x:Str):Prop:=sc.names.lookup x=some .local∨sc.names.lookup x=some .cell
def YG(env:Env)(h:Heap)(m:Str->wI)(x:Str)(u:wN):Prop :=
 (env.kindOf x=some .local/\m x=some u)∨((env.kindOf x=some .cell∨env.kindOf x=some .free)/\∃c,env.cells.lookup x=some c/\h.IsCell c (some u))
structure Cx.Ok(X:Cx):Prop where
 mod:Mod X.K X.mg X.base
 kind:X.env.scope.kind=.function
 glob:X.env.globals=mainGlobals
 blt:X.env.builtins=builtinsNs
 above:X.s₀.heap.objs.size<=X.env.locals
 inj:∀x y c,X.env.cells.lookup x=some c->X.env.cells.lookup y=some c->x=y
 has:∀x,(X.env.kindOf x=some .cell∨X.env.kindOf x=some .free)->∃c,X.env.cells.lookup x=some c
 cab:∀x c,X.fn x=true->X.env.cells.lookup x=some c->X.s₀.heap.objs.size<=c
 hd:X.calm=true->X.A.handled=none
 frames:X.A.frames=some X.stack
 stk:X.stack=X.outer∨(X.stack=X.env::X.outer/\X.env.frame=some X.env.locals)
 exf:∀b∈X.ex,b≠X.env.locals/\∀x c,X.env.cells.lookup x=some c->c≠b
 bs:∀b o,X.base.get? b=some o->X.s₀.heap.get? b=some o/\X.H₀ b=none
 bsz:X.base.objs.size<=X.s₀.heap.objs.size
 noex:∀b o,X.base.get? b=some o->b∉X.ex
 exfs:∀b∈X.ex,b∉X.fs
 funs:X.s₀.heap.FunFrames X.base X.outer
 frf:∀b∈X.fs,X.H₀ b=none
structure Inv(X:Cx)(Fj:wF)(σ:List (Option V))(H:Hp)(s:wM):Prop where
 ok:X.Ok
 os:s.os=X.s₀.os
 bare:AllBare s.gens
 base:Un X.fs X.ex X.H₀ H X.s₀.heap s.heap
 loc:∃m,s.heap.Ns X.env.locals m/\∀(i:Nat)(x:Str)(v:V),X.N[i]?=some x->σ[i]?=some (some v)->WL X.env.scope x->∃u,HE v u/\YG X.env s.heap m x u
 cell:∀x c,X.env.cells.lookup x=some c->∃v,s.heap.IsCell c v
 free:H X.env.locals=none
 freeC:∀x c,X.env.cells.lookup x=some c->H c=none
 pin:∀p∈X.pn++Fj,s.heap.get? p.1=some p.2/\H p.1=none/\p.1≠X.env.locals/\p.1∉X.fs/\∀v,p.2.data≠.cell v
 hok:IU X.prog X.w H s.heap
 len:σ.length=X.N.length
section
variable{X:Cx}{Fj:wF}{σ:List (Option V)}{H H':Hp}{s:wM}{h':Heap}
theorem Cx.Ok.nofr(ok:X.Ok){b:wO}{o:Obj}(e:X.base.get? b=some o):b∉X.fs:=λhb=>by
 have:=(ok.funs.mem hb).1
 rw[e]at this;cases this
theorem Inv.bs(I:Inv X Fj σ H s):∀b o,X.base.get? b=some o->s.heap.get? b=some o/\H b=none:=λb o e =>
 ⟨I.base.keep b o (I.ok.bs b o e).1 (I.ok.bs b o e).2 (I.ok.nofr e) (I.ok.noex b o e),I.base.free b o (I.ok.bs b o e).1 (I.ok.bs b o e).2 (I.ok.noex b o e)⟩
theorem Inv.bk(I:Inv X Fj σ H s):∀b o,X.base.get? b=some o->s.heap.get? b=some o:=λb o e=>(I.bs b o e).1
theorem Inv.mod(I:Inv X Fj σ H s):Mod X.K X.mg X.base:=I.ok.mod
theorem Inv.kIn(I:Inv X Fj σ H s):X.K.In s.heap:=I.ok.mod.kin.keeps I.bk
theorem Inv.nolimit(I:Inv X Fj σ H s):s.heap.NoLimit:=I.ok.mod.nolimit.keeps I.bk
theorem Inv.lt(I:Inv X Fj σ H s):X.env.locals<s.heap.objs.size:=let ⟨_,hn,_⟩:=I.loc;hn.lt
theorem Inv.sz(I:Inv X Fj σ H s):X.s₀.heap.objs.size<=s.heap.objs.size:=A9 I.ok.above (BY I.lt)
theorem Inv.nofs(I:Inv X Fj σ H s){a:wO}(h:s.heap.objs.size<=a):a∉X.fs:=λhb=>by
 obtain⟨_,o,ho,_⟩:=I.ok.funs.mem hb
 exact absurd (Ai (AS ho) (A9 I.sz h)) (B3 _)
theorem Inv.cne(I:Inv X Fj σ H s):∀x c,X.env.cells.lookup x=some c->c≠X.env.locals:=λx c e z=>by
 obtain⟨v,o,ho,hd⟩:=I.cell x c e
 obtain⟨m,⟨o',es,ep,ho',hd',_⟩,_⟩:=I.loc
 rw[z,ho']at ho;cases ho;rw[hd']at hd;cases hd
theorem Inv.funs(I:Inv X Fj σ H s):s.heap.FunFrames X.base X.outer:=by
 have all:∀(l:List Env),(∀b∈IZ l,b∈X.fs)->X.s₀.heap.FunFrames X.base l->s.heap.FunFrames X.base l:=by
  intro l
  induction l with
  |nil=>intro _ _;trivial
  |cons env r ih =>
   intro hs hl
   obtain⟨hk,⟨L,o,hf,hn,ho,hd⟩,hr⟩:=hl
   have hL:L∈X.fs:=hs L (by unfold IZ;rw[Br,hf];exact AJ)
   obtain⟨sl,e⟩:=I.base.slot L o ho (I.ok.frf L hL) hL λz=>I.ok.exfs L z hL
   exact⟨hk,⟨L,_,hf,hn,e,hd⟩,ih (λb hb=>hs b (by unfold IZ;rw[Br,hf];exact AM _ hb)) hr⟩
 exact all X.outer (λ_ hb=>hb) I.ok.funs
theorem Inv.stack(I:Inv X Fj σ H s):s.heap.FunFrames X.base X.stack:=by
 rcases I.ok.stk with e|⟨e,hf⟩
 ·rw[e];exact I.funs
 ·rw[e]
  obtain⟨m,hn,_⟩:=I.loc
  refine .cons (by rw[I.ok.kind];decide) hf hn ?_ I.funs
  exact Heap.get?_none_of_le (A9 I.ok.bsz I.ok.above)
theorem Inv.stkSub(I:Inv X Fj σ H s):∀b∈IZ X.stack,b∈X.env.locals::X.fs:=λb hb=>by
 rcases I.ok.stk with e|⟨e,hf⟩
 ·rw[e]at hb;exact AM _ hb
 ·rw[e]at hb
  unfold IZ at hb
  rw[Br,hf]at hb
  exact hb
theorem Inv.stkFree(I:Inv X Fj σ H s):∀b∈IZ X.stack,H b=none:=λb hb=>by
 rcases AN.mp (I.stkSub b hb) with e|hb
 ·rw[e];exact I.free
 ·obtain⟨_,o,ho,_⟩:=I.ok.funs.mem hb
  exact I.base.free b o ho (I.ok.frf b hb) λz=>I.ok.exfs b z hb
theorem Inv.step{g':Array GenState}{t':Nat}{d':Drawn}{ch:wH}(I:Inv X Fj σ H s)
  (hch:∀b∈ch,(b∈X.ex∨X.s₀.heap.objs.size<=b)/\b≠X.env.locals/\(∀x c,X.env.cells.lookup x=some c->c≠b)/\∀p∈X.pn++Fj,p.1≠b)
  (keep:∀b o,b≠X.env.locals->b∉X.fs->b∉ch->s.heap.get? b=some o->H b=none->h'.get? b=some o)
  (slot:∀b o,b≠X.env.locals->b∈X.fs->b∉ch->s.heap.get? b=some o->H b=none->∃sl,h'.get? b=some { o with slots:=sl }) (free:∀b o,b∉ch->s.heap.get? b=some o->H b=none->H' b=none)
  (there:∀b o,b∉ch->s.heap.get? b=some o->∃o',h'.get? b=some o')
  (tups:∀b xs,H b=some (.tup xs)->H' b=some (.tup xs)) (frzs:∀b o u,H b=some (.frz o u)->H' b=some (.frz o u)) (tbls:∀b ps,H b=some (.tbl ps)->∃more,H' b=some (.tbl (ps++more)))
  (ns:∀m,s.heap.Ns X.env.locals m->h'.Ns X.env.locals m) (hok:IU X.prog X.w H' h') (hg:AllBare g') :
  Inv X Fj σ H' { s with heap:=h',gens:=g',drawn:=d',toks:=t' }:=by
 have neL:∀b o,X.s₀.heap.get? b=some o->b≠X.env.locals:=λb o e=>As (Ai (AS e) I.ok.above)
 have neC:∀b o,X.s₀.heap.get? b=some o->b∉X.ex->b∉ch:=λb o e hx hb=>by
  rcases (hch b hb).1 with z|z
  ·exact hx z
  ·exact absurd (Ai (AS e) z) (B3 _)
 have cellK:∀x c,X.env.cells.lookup x=some c->∀v,s.heap.IsCell c v->h'.IsCell c v:=λx c e v ⟨o,ho,hd⟩=>by
  have nch:c∉ch:=λz=>(hch c z).2.2.1 x c e rfl
  by_cases hc:c∈X.fs
  ·obtain⟨sl,q⟩:=slot c o (I.cne x c e) hc nch ho (I.freeC x c e)
   exact⟨_,q,hd⟩
  ·exact⟨o,keep c o (I.cne x c e) hc nch ho (I.freeC x c e),hd⟩
 refine⟨I.ok,I.os,hg,⟨λb o e n hb hx=>?_,λb o e n hb hx=>?_,λb o e n hx=>?_,λb o e hx=>?_,λb xs e=>tups b xs (I.base.tups b xs e),λb o xs e=>frzs b o xs (I.base.frzs b o xs e),λb ps e=>?_⟩,?_,λx c e=>?_,?_,λx c e=>?_,λp hp=>?_,hok,I.len⟩
 ·exact keep b o (neL b o e) hb (neC b o e hx) (I.base.keep b o e n hb hx) (I.base.free b o e n hx)
 ·obtain⟨sl,e1⟩:=I.base.slot b o e n hb hx
  obtain⟨sl',e2⟩:=slot b _ (neL b o e) hb (neC b o e hx) e1 (I.base.free b o e n hx)
  exact⟨sl',e2⟩
 ·obtain⟨o',e1⟩:=I.base.there b o e hx
  exact free b o' (neC b o e hx) e1 (I.base.free b o e n hx)
 ·obtain⟨o',e1⟩:=I.base.there b o e hx
  exact there b o' (neC b o e hx) e1
 ·obtain⟨m1,e1⟩:=I.base.tbls b ps e
  obtain⟨m2,e2⟩:=tbls b _ e1
  exact⟨m1++m2,by rw[e2,Array.append_assoc]⟩
 ·obtain⟨m,hn,hl⟩:=I.loc
  refine⟨m,ns m hn,λi x v e1 e2 e3=>?_⟩
  obtain⟨u,r,l⟩:=hl i x v e1 e2 e3
  refine⟨u,r,?_⟩
  rcases l with l|⟨k,c,e,z⟩
  ·exact .inl l
  ·exact .inr ⟨k,c,e,cellK x c e _ z⟩
 ·obtain⟨v,z⟩:=I.cell x c e
  exact⟨v,cellK x c e v z⟩
 ·obtain⟨m,⟨o,_,_,ho,_⟩,_⟩:=I.loc
  exact free _ o (λz=>(hch _ z).2.1 rfl) ho I.free
 ·obtain⟨v,o,ho,hd⟩:=I.cell x c e
  exact free c o (λz=>(hch c z).2.2.1 x c e rfl) ho (I.freeC x c e)
 ·obtain⟨e,n,ne,nf,d⟩:=I.pin p hp
  have nch:p.1∉ch:=λz=>(hch p.1 z).2.2.2 p hp rfl
  exact⟨keep p.1 p.2 ne nf nch e n,free p.1 p.2 nch e n,ne,nf,d⟩
theorem Inv.un{t':Nat}(I:Inv X Fj σ H s)(u:Un X.fs [] H H' s.heap h')(hok:IU X.prog X.w H' h'):Inv X Fj σ H' { s with heap:=h',toks:=t' }:=by
 obtain⟨m,⟨o,es,ep,ho,r⟩,_⟩:=id I.loc
 obtain⟨sl,hL⟩:=u.any ho I.free (by simp)
 exact I.step (g':=s.gens) (d':=s.drawn) (ch:=[]) (λ_ z=>nomatch z) (λb o _ hb _ e n=>u.keep b o e n hb (by simp)) (λb o _ hb _ e n=>u.slot b o e n hb (by simp)) (λb o _ e n=>u.free b o e n (by simp)) (λb o _ e=>u.there b o e (by simp)) u.tups u.frzs u.tbls (λm' hm=>by
  obtain⟨o',es',ep',ho',r'⟩:=hm
  rw[ho]at ho';cases ho'
  exact⟨_,es',ep',hL,r'⟩) hok I.bare
theorem Inv.call{g':Array GenState}{t':Nat}{d':Drawn}{ch:wH}(I:Inv X Fj σ H s)(u:Un (IZ X.stack) ch H H' s.heap h')(hok:IU X.prog X.w H' h')(hg:AllBare g')
  (hch:∀b∈ch,(b∈X.ex∨X.s₀.heap.objs.size<=b)/\b≠X.env.locals/\(∀x c,X.env.cells.lookup x=some c->c≠b)/\∀p∈X.pn++Fj,p.1≠b) :
  Inv X Fj σ H' { s with heap:=h',gens:=g',drawn:=d',toks:=t' }:=by
 obtain⟨m,⟨o,es,ep,ho,r⟩,_⟩:=id I.loc
 obtain⟨sl,hL⟩:=u.any ho I.free λz=>(hch _ z).2.1 rfl
 exact I.step (ch:=ch) hch (λb o hL hb hc e n=>u.keep b o e n (λz=>(AN.mp (I.stkSub b z)).elim hL hb) hc) (λb o _ _ hc e n=>u.any e n hc) (λb o hc e n=>u.free b o e n hc) (λb o hc e=>u.there b o e hc) u.tups u.frzs u.tbls (λm' hm=>by
  obtain⟨o',es',ep',ho',r'⟩:=hm
  rw[ho]at ho';cases ho'
  exact⟨_,es',ep',hL,r'⟩) hok hg
theorem Inv.turned{t':Nat}{it:wO}(I:Inv X Fj σ H s)(k:∀b o,b≠it->s.heap.get? b=some o->h'.get? b=some o)(hn:H it=none)(hL:it≠X.env.locals)
  (h1:it∈X.ex∨X.s₀.heap.objs.size<=it) (h2:∀x c,X.env.cells.lookup x=some c->c≠it) (h3:∀p∈X.pn++Fj,p.1≠it):Inv X Fj σ H { s with heap:=h',toks:=t' }:=by
 have nit:∀b u,H b=some u->b≠it:=λb u e z=>by rw[z,hn]at e;cases e
 refine I.step (g':=s.gens) (d':=s.drawn) (ch:=[it]) (λb hb=>?_) (λb o _ _ hc e _=>k b o (λz=>hc (by simp [z])) e) (λb o _ _ hc e _=>⟨o.slots,k b o (λz=>hc (by simp [z])) e⟩) (λ_ _ _ _ n=>n)
  (λb o hc e=>⟨o,k b o (λz=>hc (by simp [z])) e⟩) (λ_ _ e=>e) (λ_ _ _ e=>e) (λb ps e=>⟨#[],by rw[e];simp⟩) (λm hm=>?_) (λb u e=>?_) I.bare
 ·have e:b=it:=by simpa using hb
  subst e
  exact⟨h1,hL,h2,h3⟩
 ·obtain⟨o,es,ep,ho,r⟩:=hm
  exact⟨o,es,ep,k _ o (B7 hL) ho,r⟩
 ·refine(I.hok b u e).stay (λc v hc q=>k c v ?_ q) (λ_ q=>q) λ_ _ q=>q
  rcases hc with z|z
  ·rw[z];exact nit b u e
  ·exact nit c _ z
theorem Inv.tok(I:Inv X Fj σ H s)(t:Nat):Inv X Fj σ H { s with toks:=t }:=I.un (h':=s.heap) (t':=t) Un.refl I.hok
theorem Inv.kept{t':Nat}(I:Inv X Fj σ H s)(k:∀b u,s.heap.get? b=some u->h'.get? b=some u):Inv X Fj σ H { s with heap:=h',toks:=t' }:=I.un (Un.kept k) (I.hok.kept k)
theorem Inv.laid{a:wO}{o:HO}{t':Nat}(I:Inv X Fj σ H s)(k:∀b u,s.heap.get? b=some u->h'.get? b=some u)(hp:s.heap.objs.size<=a)(new:HR X.prog X.w (Gw H a o) h' a o) :
  Inv X Fj σ (Gw H a o) { s with heap:=h',toks:=t' }:=I.un (Un.laid k hp (I.hok.fresh hp)) (I.hok.laid k hp new)
theorem Inv.write{x e:wO}{o:HO}{t':Nat}(I:Inv X Fj σ H s)(mu:VL (H x))(he:e=x∨H e=some (.own x))(k:∀b u,b≠e->s.heap.get? b=some u->h'.get? b=some u)(heo:∃u,h'.get? e=some u)
  (new:HR X.prog X.w (Gw H x o) h' x o):Inv X Fj σ (Gw H x o) { s with heap:=h',toks:=t' }:=I.un (Un.write mu he k heo) (I.hok.write mu he k heo new)
theorem Inv.pins_of{pins':wF}(I:Inv X Fj σ H s)(h:∀p∈pins',s.heap.get? p.1=some p.2/\H p.1=none/\p.1≠X.env.locals/\p.1∉X.fs/\∀v,p.2.data≠.cell v):Inv X pins' σ H s :=
 ⟨I.ok,I.os,I.bare,I.base,I.loc,I.cell,I.free,I.freeC,λp hp=>(Aq.mp hp).elim (λz=>I.pin p (BL _ z)) (h p),I.hok,I.len⟩
theorem pW{N:wG}(hN:N.Nodup){i j:Nat}{x:Str}(a:N[i]?=some x)(b:N[j]?=some x):i=j:=by
 obtain⟨h1,e1⟩:=Ae.mp a
 obtain⟨h2,e2⟩:=Ae.mp b
 exact(List.getElem_inj hN).mp (e1.trans e2.symm)
theorem VH{M:Model}{A:Around}{E:wD}{i:Nat}{x:Str}{v:V}{u:wN}{Q:Unit->wM->Prop}(I:Inv X Fj σ H s)(hN:X.N.Nodup)(hi:X.N[i]?=some x)(hx:Loc X.env.scope x)(r:HE v u)
  (h:∀s',Inv X Fj (σ.set i (some v)) H s'->(∃a,Heap.SameBut a s.heap s'.heap/\(a=X.env.locals∨X.env.cells.lookup x=some a))->Q () s') (hf:X.fn x=true∨X.env.scope.names.lookup x=some .local:=by first|exact .inl rfl|exact .inr rfl|assumption):wpAny M A (storeName X.env x u) Q E s:=by
 obtain⟨m,hn,hl⟩:=id I.loc
 have hcls:(X.env.scope.kind==.class||(X.env.scope.kind==.module&&X.env.locals != X.env.globals))=false:=by rw[I.ok.kind];rfl
 have hiσ:i<σ.length:=by rw[I.len];exact(Ae.mp hi).1
 have cne:=I.cne
 have tracked:∀{a:wO}{h':Heap},(∃o,s.heap.get? a=some o/\H a=none)->Heap.SameBut a s.heap h'->IU X.prog X.w H h':=λ{a h'} ha hs b ob e=>by
  obtain⟨_,_,hfree⟩:=ha
  refine(I.hok b ob e).stay (λc w' hc q=>(hs.2 c ?_).trans q) (λ_ q=>q) λ_ _ q=>q
  rintro rfl
  rcases hc with rfl|hc
  ·rw[hfree]at e;cases e
  ·rw[hfree]at hc;cases hc
 rcases hx with hk|hk
 ·refine wpAny_storeName_local hk hn (λh' hn' hs=>?_) hcls
  obtain⟨oL,_,_,hoL,_⟩:=id hn
  refine h _ ⟨I.ok,I.os,I.bare,⟨λb o e n hb hx=>?_,λb o e n hb hx=>?_,I.base.free,λb o e hx=>?_,I.base.tups,I.base.frzs,I.base.tbls⟩,⟨_,hn',λj y v' e1 e2 e3=>?_⟩,λy c e=>?_,I.free,I.freeC,λp hp=>?_,tracked ⟨oL,hoL,I.free⟩ hs,by simpa using I.len⟩ ⟨_,hs,.inl rfl⟩
  ·exact(hs.2 b (As (Ai (AS e) I.ok.above))).trans (I.base.keep b o e n hb hx)
  ·obtain⟨sl,e1⟩:=I.base.slot b o e n hb hx
   exact⟨sl,(hs.2 b (As (Ai (AS e) I.ok.above))).trans e1⟩
  ·obtain⟨o',e1⟩:=I.base.there b o e hx
   exact⟨o',(hs.2 b (As (Ai (AS e) I.ok.above))).trans e1⟩
  ·by_cases hj:j=i
   ·subst hj
    rw[hi]at e1;cases e1
    rw[DF hiσ]at e2
    cases e2
    exact⟨u,r,.inl ⟨hk,by simp⟩⟩
   ·rw[EF (B7 hj)]at e2
    obtain⟨u',r',q⟩:=hl j y v' e1 e2 e3
    refine⟨u',r',?_⟩
    rcases q with⟨k,e⟩|⟨k,c,e,z⟩
    ·refine .inl ⟨k,?_⟩
     have:y≠x:=λe=>hj (pW hN e1 (e▸hi))
     simp [this,e]
    ·exact .inr ⟨k,c,e,z.sameBut hs (cne y c e)⟩
  ·obtain⟨w',z⟩:=I.cell y c e
   exact⟨w',z.sameBut hs (cne y c e)⟩
  ·obtain⟨e,n,ne,nf,d⟩:=I.pin p hp
   exact⟨(hs.2 p.1 ne).trans e,n,ne,nf,d⟩
 ·have hfn:X.fn x=true:=by
   rcases hf with z|z
   ·exact z
   ·rw[z]at hk;cases hk
  obtain⟨c,hc⟩:=I.ok.has x (.inl hk)
  obtain⟨w',z⟩:=I.cell x c hc
  refine wpAny_storeName_cell I.ok.kind hk hc z (λh' hc' hs=>?_)
  obtain⟨oc,hoc,hocd⟩:=id z
  refine h { s with heap:=h' } ⟨I.ok,I.os,I.bare,⟨λb o e n hb hx=>?_,λb o e n hb hx=>?_,I.base.free,λb o e hx=>?_,I.base.tups,I.base.frzs,I.base.tbls⟩,⟨m,hn.sameBut hs (B7 (cne x c hc)),λj y v' e1 e2 e3=>?_⟩,λy c' e=>?_,I.free,I.freeC,λp hp=>?_,tracked ⟨oc,hoc,I.freeC x c hc⟩ hs,by simpa using I.len⟩ ⟨c,hs,.inr hc⟩
  ·exact(hs.2 b (As (Ai (AS e) (I.ok.cab x c hfn hc)))).trans (I.base.keep b o e n hb hx)
  ·obtain⟨sl,e1⟩:=I.base.slot b o e n hb hx
   exact⟨sl,(hs.2 b (As (Ai (AS e) (I.ok.cab x c hfn hc)))).trans e1⟩
  ·obtain⟨o',e1⟩:=I.base.there b o e hx
   exact⟨o',(hs.2 b (As (Ai (AS e) (I.ok.cab x c hfn hc)))).trans e1⟩
  ·by_cases hj:j=i
   ·subst hj
    rw[hi]at e1;cases e1
    rw[DF hiσ]at e2
    cases e2
    exact⟨u,r,.inr ⟨.inl hk,c,hc,hc'⟩⟩
   ·rw[EF (B7 hj)]at e2
    obtain⟨u',r',q⟩:=hl j y v' e1 e2 e3
    refine⟨u',r',?_⟩
    rcases q with q|⟨k,c',e,z'⟩
    ·exact .inl q
    ·refine .inr ⟨k,c',e,z'.sameBut hs ?_⟩
     rintro rfl
     exact hj (pW hN e1 (I.ok.inj _ _ _ e hc▸hi))
  ·by_cases hcc:c'=c
   ·subst hcc;exact⟨_,hc'⟩
   ·obtain⟨w2,z2⟩:=I.cell y c' e
    exact⟨w2,z2.sameBut hs hcc⟩
  ·obtain⟨e,n,ne,nf,d⟩:=I.pin p hp
   refine⟨(hs.2 p.1 ?_).trans e,n,ne,nf,d⟩
   intro q
   rw[q,hoc]at e
   have q':oc=p.2:=Ap e
   exact d w' (by rw[<-q'];exact hocd)
theorem WT{M:Model}{A:Around}{E:wD}{i:Nat}{x:Str}{v:V}{u:wN}{Q:Unit->wM->Prop}(I:Inv X Fj σ H s)(hN:X.N.Nodup)(hi:X.N[i]?=some x)(hx:Loc X.env.scope x)(r:HE v u)
  (h:∀s',Inv X Fj (σ.set i (some v)) H s'->Q () s') (hf:X.fn x=true∨X.env.scope.names.lookup x=some .local:=by first|exact .inl rfl|exact .inr rfl|assumption):wpAny M A (storeName X.env x u) Q E s :=
 VH I hN hi hx r (λs' I' _=>h s' I') hf
theorem Inv.call'{s':wM}{ch:wH}(I:Inv X Fj σ H s)(ho:s'.os=s.os)(u:Un (IZ X.stack) ch H H' s.heap s'.heap)(hok:IU X.prog X.w H' s'.heap)(hg:AllBare s'.gens)
  (hch:∀b∈ch,(b∈X.ex∨X.s₀.heap.objs.size<=b)/\b≠X.env.locals/\(∀x c,X.env.cells.lookup x=some c->c≠b)/\∀p∈X.pn++Fj,p.1≠b):Inv X Fj σ H' s':=by
 obtain⟨h',g',d',t',o'⟩:=s'
 have e:o'=s.os:=ho
 subst e
 exact I.call (g':=g') (t':=t') (d':=d') u hok hg hch
end
abbrev XK:=wN->Option wO->Hp->Prop
abbrev St:=List (Option V)
abbrev VK:=V->Hp->Prop
abbrev TE:=St->Hp->VK->Prop
abbrev TT:=St->Hp->(Bool->Hp->Prop)->Prop
abbrev TA:=St->Hp->(List V->Hp->Prop)->Prop
structure JA where
 nx:St->Hp->Prop
 rt:VK
 bk:St->Hp->Prop:=λ_ _=>False
 ct:St->Hp->Prop:=λ_ _=>False
abbrev TS:=JA->St->Hp->Prop
def EP(X:Cx)(Fj:wF)(σ:St)(Q:VK)(u:wN)(s':wM):Prop:=∃v H',Inv X Fj σ H' s'/\HE v u/\Q v H'
def TP(X:Cx)(Fj:wF)(σ:St)(Q:Bool->Hp->Prop)(b:Bool)(s':wM):Prop:=∃H',Inv X Fj σ H' s'/\Q b H'
def AP(X:Cx)(Fj:wF)(σ:St)(Q:List V->Hp->Prop)(us:wC)(s':wM):Prop:=∃vs H',Inv X Fj σ H' s'/\HF vs us/\Q vs H'
def SP(X:Cx)(Fj:wF)(D:JA)(f:Flow)(s':wM):Prop :=
 match f with
 |.next=>∃σ' H',Inv X Fj σ' H' s'/\D.nx σ' H'
 |.brk=>∃σ' H',Inv X Fj σ' H' s'/\D.bk σ' H'
 |.cont=>∃σ' H',Inv X Fj σ' H' s'/\D.ct σ' H'
 |.ret u=>∃v σ' H',Inv X Fj σ' H' s'/\HE v u/\D.rt v H'
def PE(X:Cx)(e:Expr)(t:TE):Prop :=
 ∀(Fj:wF)(s:wM)(σ:St)(H:Hp)(Q:VK),Inv X Fj σ H s->t σ H Q->wpAny (model X.prog X.w) X.A (eval e X.env) (EP X Fj σ Q) X.xe s
def PT(X:Cx)(e:Expr)(t:TT):Prop :=
 ∀(Fj:wF)(s:wM)(σ:St)(H:Hp)(Q:Bool->Hp->Prop),Inv X Fj σ H s->t σ H Q->wpAny (model X.prog X.w) X.A (isTrue e X.env (eval e X.env)) (TP X Fj σ Q) X.xe s
def PW(X:Cx)(e:Expr)(t:TT):Prop :=
 ∀(whole:Sem wN)(Fj:wF)(s:wM)(σ:St)(H:Hp)(Q:Bool->Hp->Prop),Inv X Fj σ H s->t σ H Q->wpAny (model X.prog X.w) X.A (isTrue e X.env whole) (TP X Fj σ Q) X.xe s
theorem PW.pt{X:Cx}{e:Expr}{t:TT}(h:PW X e t):PT X e t:=h _
def PA(X:Cx)(es:wJ)(t:TA):Prop :=
 ∀(pos:Pos)(Fj:wF)(s:wM)(σ:St)(H:Hp)(Q:List V->Hp->Prop),Inv X Fj σ H s->t σ H Q->wpAny (model X.prog X.w) X.A (spliced (backTo pos (starEach es X.env))) (AP X Fj σ Q) X.xe s
def PS(X:Cx)(st:Stmt)(t:TS):Prop :=
 ∀(Fj:wF)(s:wM)(σ:St)(H:Hp)(D:JA),Inv X Fj σ H s->t D σ H->wpAny (model X.prog X.w) X.A (exec st X.env) (SP X Fj D) X.xe s
def Iw(X:Cx)(st:List Stmt)(t:TS):Prop :=
 ∀(Fj:wF)(s:wM)(σ:St)(H:Hp)(D:JA),Inv X Fj σ H s->t D σ H->wpAny (model X.prog X.w) X.A (execs st X.env) (SP X Fj D) X.xe s
theorem HZ{α:Type}{t:Sem α}{Q Q':α->wM->Prop}{M:Model}{A:Around}{E:wD}{s:wM}(h:wpAny M A t Q E s)(hQ:∀a s,Q a s->Q' a s):wpAny M A t Q' E s:=BI h hQ λ_ _ x=>x
section
variable{X:Cx}
theorem bin{a b:Expr}{ta tb:TE}(ha:PE X a ta)(hb:PE X b tb){Fj:wF}{s:wM}{σ:St}{H:Hp}{R:V->V->Hp->Prop}(I:Inv X Fj σ H s)(h:ta σ H λx H1=>tb σ H1 λy H2=>R x y H2)
  {α:Type} {Q:α->wM->Prop} {f:wN->wN->Sem α}
  (hf:∀v u s2 x y H2,Inv X Fj σ H2 s2->HE x v->HE y u->R x y H2->wpAny (model X.prog X.w) X.A (f v u) Q X.xe s2) :
  wpAny (model X.prog X.w) X.A (eval a X.env) (λv s₁=>wpAny (model X.prog X.w) X.A (eval b X.env) (λu s₂=>wpAny (model X.prog X.w) X.A (f v u) Q X.xe s₂) X.xe s₁) X.xe s:=by
 refine HZ (ha Fj s σ H _ I h) λv s1 ⟨x,H1,I1,r1,q1⟩=>?_
 refine HZ (hb Fj s1 σ H1 _ I1 q1) λu s2 ⟨y,H2,I2,r2,q2⟩=>?_
 exact hf v u s2 x y H2 I2 r1 r2 q2
def Oa(i:Nat):TE:=λσ H Q=>∃v,σ[i]?=some (some v)/\Q v H
def tC(v:V):TE:=λ_ H Q=>Q v H
theorem OH{i:Nat}{x:Str}{pos:Pos}(hN:X.N[i]?=some x)(hv:WL X.env.scope x)(hd:(x==("__debug__" : Str))=false:=by decide)(hcd:(x==("__classdict__" : Str))=false:=by decide):PE X (.Name x pos) (Oa i):=by
 intro Fj s σ H Q I h
 obtain⟨v,e,h⟩:=h
 obtain⟨m,hn,hl⟩:=I.loc
 obtain⟨u,r,l⟩:=hl i x v hN e hv
 have fin:EP X Fj σ Q u s:=⟨v,H,I,r,h⟩
 rcases l with⟨hk,hm⟩|⟨hk,c,hc,hcell⟩
 ·exact wpAny_Name (wpAny_loadName_local I.ok.kind hk hn hm fin) hd
 ·rcases hk with hk|hk
  ·exact wpAny_Name (wpAny_loadName_cell I.ok.kind hk hc hcell fin) hd
  ·exact wpAny_Name (wpAny_loadName_free I.ok.kind hk hc hcell fin hcd) hd
theorem HM{i j pos}:PE X (.Constant (.int i) j pos) (tC (.int i)):=λ_ _ _ H _ I h=>wpAny_Constant_int ⟨.int i,H,I.tok _,⟨_,rfl⟩,h⟩
theorem Ky{b j pos}:PE X (.Constant (.bool b) j pos) (tC (.bl b)):=λ_ _ _ H _ I h=>Constant_bool ⟨.bl b,H,I,rfl,h⟩
theorem Uf{j pos}:PE X (.Constant .none j pos) (tC .non):=λ_ _ _ H _ I h=>Constant_none ⟨.non,H,I,rfl,h⟩
theorem IT{x j pos}:PE X (.Constant (.str x) j pos) (tC (.str x)):=λ_ _ _ H _ I h=>Calls.Constant_str ⟨.str x,H,I.tok _,⟨_,rfl⟩,h⟩
def Gl(X:Cx)(x:Str):Prop:=X.env.kindOf x=some .globalImplicit
theorem NZ{E:wD}{Fj:wF}{s:wM}{σ:St}{H:Hp}{x:Str}{u:wN}{pos:Pos}{Q:wD}(I:Inv X Fj σ H s)(hg:Gl X x)(hm:X.mg x=some u)(h:Q u s)
  (hd:(x==("__debug__" : Str))=false:=by decide):wpAny (model X.prog X.w) X.A (eval (.Name x pos) X.env) Q E s :=
 En I.ok.kind hg (Calls.loadGlobal_global (by rw[I.ok.glob];exact I.mod.glob.keeps I.bk) hm h) hd
theorem KI{E:wD}{Fj:wF}{s:wM}{σ:St}{H:Hp}{x:Str}{u:wN}{pos:Pos}{Q:wD}(I:Inv X Fj σ H s)(hg:Gl X x)(hm:X.mg x=none)(hv:bootBuiltins x=some u)(h:Q u s)
  (hn:x ≠ "__name__" := by decide) (hd:(x==("__debug__" : Str))=false:=by decide):wpAny (model X.prog X.w) X.A (eval (.Name x pos) X.env) Q E s:=by
 obtain⟨mb,h1,h2⟩:=I.mod.blt
 exact En I.ok.kind hg (Calls.loadGlobal_builtin (by rw[I.ok.glob];exact I.mod.glob.keeps I.bk) hm (by rw[I.ok.blt];exact h1.keeps I.bk) ((h2 x hn).trans hv) h) hd
theorem KJ{x:Str}{v:V}{u:wN}{pos:Pos}(hg:Gl X x)(hm:X.mg x=some u)(r:HE v u)(hd:(x==("__debug__" : Str))=false:=by decide):PE X (.Name x pos) (tC v) :=
 λ_ _ _ H _ I h=>NZ I hg hm ⟨v,H,I,r,h⟩ hd
theorem qS{x:Str}{v:V}{u:wN}{pos:Pos}(hg:Gl X x)(hm:X.mg x=none)(hv:bootBuiltins x=some u)(r:HE v u)(hn:x ≠ "__name__" := by decide)(hd:(x==("__debug__" : Str))=false:=by decide):PE X (.Name x pos) (tC v) :=
 λ_ _ _ H _ I h=>KI I hg hm hv ⟨v,H,I,r,h⟩ hn hd
variable{a b:Expr}{ta tb:TE}{pos:Pos}
def PC(X:Cx)(op:CmpOp)(a b:Expr)(t:TE):Prop :=
 ∀(Fj:wF)(s:wM)(σ:St)(H:Hp)(Q:VK),Inv X Fj σ H s->t σ H Q ->
  wpAny (model X.prog X.w) X.A (eval a X.env) (λv s₁=>wpAny (model X.prog X.w) X.A (eval b X.env) (λu s₂=>wpAny (model X.prog X.w) X.A (compareOp op v u) (EP X Fj σ Q) X.xe s₂) X.xe s₁) X.xe s
theorem Xj(b:Expr){op:CmpOp}(h:op≠.In)(h2:op≠.NotIn):behindInMarks op b=false:=by
 have e1:(op==CmpOp.In)=false:=by cases op<;>first|rfl|exact absurd rfl h
 have e2:(op==CmpOp.NotIn)=false:=by cases op<;>first|rfl|exact absurd rfl h2
 cases b<;>simp [behindInMarks,e1,e2]
def tB(t:TE):TT:=λσ H Q=>t σ H λx H1=>∃c,x=.bl c/\Q c H1
theorem uX{op:CmpOp}{t:TE}(h:PC X op a b t)(h1:behindInMarks op b=false:=by first|exact Xj _ (by decide) (by decide)|rfl):PT X (.Compare a [op] [b] pos) (tB t):=by
 intro Fj s σ H Q I hw
 refine GQ (HZ (h Fj s σ H _ I hw) λv s1 h1=>HZ h1 λu s2 h2=>HZ h2 λc s3 ⟨x,H1,I1,r1,q1⟩=>?_) h1
 obtain⟨d,rfl,q⟩:=q1
 cases r1
 exact CY ⟨H1,I1,q⟩
theorem Ot{e:Expr}{t:TE}(h:PE X e t)(he:∀whole,isTrue e X.env whole=(do let v <-whole;standAt e.pos;holding [v] (truthy v)):=by intro _;rfl):PT X e (tB t):=by
 intro Fj s σ H Q I hw
 refine isTrue_plain (HZ (h Fj s σ H _ I hw) λv s1 ⟨x,H1,I1,r1,q1⟩=>?_) (he _)
 obtain⟨d,rfl,q⟩:=q1
 cases r1
 exact CY ⟨H1,I1,q⟩
variable{tA tB':TT}{Hg:wJ}
def vJ(t u:TT):TT:=λσ H Q=>t σ H λc H1=>if c=true then Q true H1 else u σ H1 Q
def aD(t:TT):TT:=λσ H Q=>t σ H λc H1=>Q (!c) H1
theorem UO(ha:PT X a tA):PW X (.BoolOp .Or [a] pos) tA:=by
 intro wh Fj s σ H Q I h
 refine isTrue_or (HZ (ha Fj s σ H Q I h) λc s1 e=>?_)
 cases c with
 |false=>exact isTrue_or_nil e
 |true=>exact e
theorem VR(ha:PT X a tA)(hb:PW X (.BoolOp .Or (b::Hg) pos) tB'):PW X (.BoolOp .Or (a::b::Hg) pos) (vJ tA tB'):=by
 intro wh Fj s σ H Q I h
 refine isTrue_or (HZ (ha Fj s σ H _ I h) λc s1 ⟨H1,I1,q1⟩=>?_)
 cases c with
 |true=>exact⟨H1,I1,q1⟩
 |false=>exact hb wh Fj s1 σ H1 Q I1 q1
theorem pB(ha:PT X a tA):PT X (.UnaryOp .Not a pos) (aD tA):=by
 intro Fj s σ H Q I h
 exact isTrue_not (ha Fj s σ H (λc H1=>Q (!c) H1) I h)
def uR(t:TT)(ta tb:TE):TE:=λσ H Q=>t σ H λc H1=>if c=true then ta σ H1 Q else tb σ H1 Q
theorem Y7{c:Expr}(hc:PT X c tA)(ha:PE X a ta)(hb:PE X b tb):PE X (.IfExp c a b pos) (uR tA ta tb):=by
 intro Fj s σ H Q I h
 refine wpAny_IfExp (HZ (hc Fj s σ H _ I h) λd s1 ⟨H1,I1,q1⟩=>?_)
 cases d with
 |true=>exact ha Fj s1 σ H1 Q I1 q1
 |false=>exact hb Fj s1 σ H1 Q I1 q1
end
def HJ(K:wL)(H:Hp)(a:wO)(xs:List V):Prop :=
 Rd H a (.lst xs) ∨
  ∃(o:Obj)(its:wK)(n:Nat),K.lookup a=some o/\o.cls=.type "list" /\ o.dict=none/\o.data=.seq its n/\its.size<=sizeLine/\HF xs its.toList
def HK(K:wL)(H:Hp)(a:wO)(xs:List V):Prop :=
 Rd H a (.tup xs) ∨
  ∃(o:Obj)(its:wK)(n:Nat),K.lookup a=some o/\o.cls=.type "tuple" /\ o.data=.seq its n/\its.size<=sizeLine/\HF xs its.toList
noncomputable def ZT:wN->Option V
 |.none=>some .non
 |.bool b=>some (.bl b)
 |.int i _=>some (.int i)
 |.str x _=>some (.str x)
 |.bytes b _=>some (.byt b)
 |.float b _=>some (.flt b)
 |.ref a=>some (.ref a)
 |.type n=>some (.ty n)
 |_=>none
theorem HE.abs{x:V}{u:wN}(r:HE x u):ZT u=some x:=by
 cases x with
 |non=>cases r;rfl
 |bl _=>cases r;rfl
 |int _=>obtain⟨t,rfl⟩:=r;rfl
 |str _=>obtain⟨t,rfl⟩:=r;rfl
 |byt _=>obtain⟨t,rfl⟩:=r;rfl
 |flt _=>obtain⟨t,rfl⟩:=r;rfl
 |ref _=>cases r;rfl
 |ty _=>cases r;rfl
theorem HE.inj{x y:V}{u:wN}(r:HE x u)(q:HE y u):x=y:=Ap (r.abs.symm.trans q.abs)
theorem HF.inj:∀{xs ys:List V}{us:wC},HF xs us->HF ys us->xs=ys
 |_,_,_,.nil,.nil=>rfl
 |_,_,_,.cons r t,.cons r' t'=>by rw[r.inj r',HF.inj t t']
section
variable{X:Cx}{Fj:wF}{σ:St}{H:Hp}{s:wM}{a:wO}{xs ys:List V}
theorem HJ.of{K:wL}(h:H a=some (.lst xs)):HJ K H a xs:=.inl (.inl h)
theorem HK.of{K:wL}(h:H a=some (.tup xs)):HK K H a xs:=.inl (.inl h)
theorem Inv.list(I:Inv X Fj σ H s)(h:HJ X.K H a xs):∃its:wC,HF xs its/\PlainL s.heap a its.toArray/\xs.length<=sizeLine:=by
 rcases h with h|⟨o,its,n,hk,hc,hd,hs,hz,r⟩
 ·obtain⟨z,its,n,r,e⟩:=h.ok I.hok
  exact⟨its,r,⟨_,n,e,rfl,rfl,rfl⟩,z⟩
 ·refine⟨its.toList,r,⟨o,n,I.kIn a o hk,hc,hd,by simpa using hs⟩,?_⟩
  have e:=r.length
  simp only[AR]at e
  lia
theorem Inv.tuple(I:Inv X Fj σ H s)(h:HK X.K H a xs):∃its:wC,HF xs its/\IsTup s.heap a its.toArray/\xs.length<=sizeLine:=by
 rcases h with h|⟨o,its,n,hk,hc,hs,hz,r⟩
 ·obtain⟨z,its,r,p⟩:=h.ok I.hok
  exact⟨its,r,p.tup,z⟩
 ·refine⟨its.toList,r,⟨o,I.kIn a o hk,hc,n,by simpa using hs⟩,?_⟩
  have e:=r.length
  simp only[AR]at e
  lia
theorem Inv.list_inj(I:Inv X Fj σ H s)(h:HJ X.K H a xs)(h':HJ X.K H a ys):xs=ys:=by
 obtain⟨its,r,⟨o,n,e,_,_,d⟩,_⟩:=I.list h
 obtain⟨its',r',⟨o',n',e',_,_,d'⟩,_⟩:=I.list h'
 rw[e]at e';cases e'
 rw[d]at d'
 injection d' with d1 _
 have:its=its':=by simpa using congrArg Array.toList d1
 subst this
 exact r.inj r'
theorem Inv.tuple_inj(I:Inv X Fj σ H s)(h:HK X.K H a xs)(h':HK X.K H a ys):xs=ys:=by
 obtain⟨its,r,⟨o,e,_,n,d⟩,_⟩:=I.tuple h
 obtain⟨its',r',⟨o',e',_,n',d'⟩,_⟩:=I.tuple h'
 rw[e]at e';cases e'
 rw[d]at d'
 injection d' with d1 _
 have:its=its':=by simpa using congrArg Array.toList d1
 subst this
 exact r.inj r'
end
noncomputable abbrev Cx.wish(X:Cx)(E:wD):Cx:={ X with xe:=E }
noncomputable abbrev Cx.nox(X:Cx):Cx:=X.wish λ_ _=>False
theorem Cx.Ok.wish{X:Cx}(ok:X.Ok)(E:wD):(X.wish E).Ok :=
 ⟨ok.mod,ok.kind,ok.glob,ok.blt,ok.above,ok.inj,ok.has,ok.cab,ok.hd,ok.frames,ok.stk,ok.exf,ok.bs,ok.bsz,ok.noex,ok.exfs,ok.funs,ok.frf⟩
theorem Cx.Ok.unwish{X:Cx}{E:wD}(ok:(X.wish E).Ok):X.Ok :=
 ⟨ok.mod,ok.kind,ok.glob,ok.blt,ok.above,ok.inj,ok.has,ok.cab,ok.hd,ok.frames,ok.stk,ok.exf,ok.bs,ok.bsz,ok.noex,ok.exfs,ok.funs,ok.frf⟩
section
variable{X:Cx}{Fj:wF}{σ:St}{H:Hp}{s:wM}{E:wD}
theorem Inv.wish(I:Inv X Fj σ H s)(E:wD):Inv (X.wish E) Fj σ H s:=⟨I.ok.wish E,I.os,I.bare,I.base,I.loc,I.cell,I.free,I.freeC,I.pin,I.hok,I.len⟩
theorem Inv.unwish(I:Inv (X.wish E) Fj σ H s):Inv X Fj σ H s:=⟨I.ok.unwish,I.os,I.bare,I.base,I.loc,I.cell,I.free,I.freeC,I.pin,I.hok,I.len⟩
theorem SP.unwish{D:JA}{f:Flow}{s':wM}(h:SP (X.wish E) Fj D f s'):SP X Fj D f s':=by
 cases f with
 |next=>obtain⟨σ',H',I,q⟩:=h;exact⟨σ',H',I.unwish,q⟩
 |brk=>obtain⟨σ',H',I,q⟩:=h;exact⟨σ',H',I.unwish,q⟩
 |cont=>obtain⟨σ',H',I,q⟩:=h;exact⟨σ',H',I.unwish,q⟩
 |ret u=>obtain⟨v,σ',H',I,r,q⟩:=h;exact⟨v,σ',H',I.unwish,r,q⟩
theorem Iw.nox{st:List Stmt}{t:TS}(h:Iw X.nox st t):Iw X st t:=λFj s σ H D I hw =>
 BI (h Fj s σ H D (I.wish _) hw) (λ_ _ q=>q.unwish) λ_ _ z=>False.elim z
end
section
variable{X:Cx}{st:Stmt}{Hg:List Stmt}{t u:TS}{e:Expr}{te:TE}{pos:Pos}
def ZQ:TS:=λD σ H=>D.nx σ H
def MR(t u:TS):TS:=λD σ H=>t { D with nx:=u D } σ H
theorem IQ:Iw X [] ZQ:=λ_ _ σ H _ I h=>DD ⟨σ,H,I,h⟩
theorem HP(h1:PS X st t)(h2:Iw X Hg u):Iw X (st::Hg) (MR t u):=by
 intro Fj s σ H D I h
 refine wpAny_execs_cons (HZ (h1 Fj s σ H { D with nx:=u D } I h) λf s1 q=>?_)
 cases f with
 |next =>
  obtain⟨σ',H',I',q⟩:=q
  exact h2 Fj s1 σ' H' D I' q
 |ret v=>exact q
 |brk=>exact q
 |cont=>exact q
theorem HL(h1:PS X st t):Iw X [st] t:=by
 intro Fj s σ H D I h
 refine wpAny_execs_cons (HZ (h1 Fj s σ H D I h) λf s1 q=>?_)
 cases f with
 |next=>exact DD q
 |ret v=>exact q
 |brk=>exact q
 |cont=>exact q
theorem Inv.quiet{Fj:wF}{σ:St}{H:Hp}{s:wM}(I:Inv X Fj σ H s):interactive X.env=false:=by simp [interactive,I.ok.kind]
def dZ(te:TE):TS:=λD σ H=>te σ H λ_ H1=>D.nx σ H1
theorem Iq(he:PE X e te)(hs:swapsWith e none pos.line X.env=pure false:=by rfl):PS X (.Expr e pos) (dZ te):=by
 intro Fj s σ H D I h
 exact wpAny_Expr_any (HZ (he Fj s σ H _ I h) λv s1 ⟨x,H1,I1,r1,q1⟩=>⟨σ,H1,I1,q1⟩) I.quiet hs
def lY(te:TE):TS:=λD σ H=>te σ H D.rt
theorem Hk(he:PE X e te):PS X (.Return (some e) pos) (lY te):=by
 intro Fj s σ H D I h
 exact wpAny_Return_some (HZ (he Fj s σ H _ I h) λv s1 ⟨x,H1,I1,r1,q1⟩=>⟨x,σ,H1,I1,r1,q1⟩)
def X4(c:TT)(t u:TS):TS:=λD σ H=>c σ H λb H1=>if b=true then t D σ H1 else u D σ H1
theorem IP{c:Expr}{a b:List Stmt}{tc:TT}(hc:PT X c tc)(ha:Iw X a t)(hb:Iw X b u):PS X (.If c a b pos) (X4 tc t u):=by
 intro Fj s σ H D I h
 refine wpAny_If (HZ (hc Fj s σ H _ I h) λd s1 ⟨H1,I1,q1⟩=>?_)
 cases d with
 |true=>exact ha Fj s1 σ H1 D I1 q1
 |false=>exact hb Fj s1 σ H1 D I1 q1
def eX:TS:=λ_ _ _=>False
theorem RE:PS X st eX:=λ_ _ _ _ _ _ h=>h.elim
end
abbrev TG:=V->St->Hp->(St->Hp->Prop)->Prop
abbrev Oo:=List V->St->Hp->(St->Hp->Prop)->Prop
def PG(X:Cx)(target:Expr)(t:TG):Prop :=
 ∀(Fj:wF)(s:wM)(σ:St)(H:Hp)(v:V)(u:wN)(Q:St->Hp->Prop),Inv X Fj σ H s->HE v u->t v σ H Q ->
  wpAny (model X.prog X.w) X.A (assign target X.env u) (λ_ s'=>∃σ' H',Inv X Fj σ' H' s'/\Q σ' H') X.xe s
def WC(X:Cx)(ts:wJ)(t:Oo):Prop :=
 ∀(Fj:wF)(s:wM)(σ:St)(H:Hp)(vs:List V)(us:wC)(Q:St->Hp->Prop),Inv X Fj σ H s->HF vs us->t vs σ H Q ->
  wpAny (model X.prog X.w) X.A (assignInOrder ((assignEach ts X.env).map (·.2)) us) (λ_ s'=>∃σ' H',Inv X Fj σ' H' s'/\Q σ' H') X.xe s
section
variable{X:Cx}{pos:Pos}
def JF(i:Nat):TG:=λv σ H Q=>Q (σ.set i (some v)) H
theorem HW{i:Nat}{x:Str}(hN:X.N.Nodup)(hi:X.N[i]?=some x)(hx:Loc X.env.scope x)(hf:X.fn x=true∨X.env.scope.names.lookup x=some .local:=by first|exact .inl rfl|exact .inr rfl|assumption):PG X (.Name x pos) (JF i):=by
 intro Fj s σ H v u Q I r h
 exact wpAny_assign_Name (WT I hN hi hx r (λs' I'=>⟨_,H,I',h⟩) hf)
def X9:Oo:=λvs σ H Q=>vs=[]/\Q σ H
def Xd(t:TG)(u:Oo):Oo:=λvs σ H Q=>∃v r,vs=v::r/\t v σ H λσ' H'=>u r σ' H' Q
theorem Ik:WC X [] X9:=by
 intro Fj s σ H vs us Q I r h
 obtain⟨e,h⟩:=h
 subst e
 cases r
 exact assignInOrder_nil ⟨σ,H,I,h⟩
theorem Hw{e:Expr}{es:wJ}{t:TG}{u:Oo}(h1:PG X e t)(h2:WC X es u)
  (hs:(assignEach (e::es) X.env).map (·.2)=assign e X.env::(assignEach es X.env).map (·.2):=by rfl):WC X (e::es) (Xd t u):=by
 intro Fj s σ H vs us Q I r h
 obtain⟨v,vr,e1,h⟩:=h
 subst e1
 cases r with
 |cons r rr =>
  rw[hs]
  refine assignInOrder_cons (HZ (h1 Fj s σ H _ _ _ I r h) λ_ s1 ⟨σ1,H1,I1,q1⟩=>?_)
  exact h2 Fj s1 σ1 H1 _ _ Q I1 rr q1
def Wo(K:wL)(n:Nat)(t:Oo):TG:=λv σ H Q=>∃a xs,v=.ref a/\HK K H a xs/\xs.length=n/\t xs σ H Q
theorem Im{es:wJ}{k:Nat}{t:Oo}{n:Nat}(hc:X.calm=true)(h:WC X es t)
  (hn:(assignEach es X.env).length=n:=by rfl) (hst:(assignEach es X.env).findIdx? (·.1)=none:=by rfl):PG X (.Tuple es k pos) (Wo X.K n t):=by
 intro Fj s σ H v u Q I r hw
 obtain⟨a,xs,e1,hq,hl,hw⟩:=hw
 subst e1
 cases r
 obtain⟨its,rv,ht,hz⟩:=I.tuple hq
 refine assign_Tuple_tuple (I.ok.hd hc) ht (by simp [hn,<-hl,rv.length]) hst λh' hx=>?_
 have I1:Inv X Fj σ H { s with heap:=h' }:=I.kept (t':=s.toks) λb o e=>hx b o (As (AS e)) e
 exact h Fj _ σ H xs _ Q I1 (by simpa using rv) hw
def LF(te:TE)(g:TG):TS:=λD σ H=>te σ H λx H1=>g x σ H1 D.nx
theorem Hj{i:Nat}{x:Str}{e:Expr}{te:TE}{pos':Pos}(hN:X.N.Nodup)(hi:X.N[i]?=some x)(hx:Loc X.env.scope x)(he:PE X e te)(hs:swapsWith e (some (.Name x pos')) pos.line X.env=pure false:=by rfl)(hf:X.fn x=true∨X.env.scope.names.lookup x=some .local:=by first|exact .inl rfl|exact .inr rfl|assumption) :
  PS X (.Assign [.Name x pos'] e pos) (LF te (JF i)):=by
 intro Fj s σ H D I h
 refine wpAny_Assign_Name (HZ (he Fj s σ H _ I h) λv s1 ⟨y,H1,I1,r1,q1⟩=>?_) hs
 exact WT I1 hN hi hx r1 (λs2 I2=>⟨_,H1,I2,q1⟩) hf
end
section
variable{X:Cx}{pos:Pos}
def dX(c:TT)(tb:TS):TS:=λD σ H=>∃W:Nat->St->Hp->Prop,(∃m,W m σ H)/\∀m σ H,W m σ H ->
 c σ H λb H1=>if b=true then ∃N:St->Hp->Prop,(∀σ' H',N σ' H'->∃m',m'<m/\W m' σ' H')/\tb { D with nx:=N,ct:=N,bk:=D.nx } σ H1 else D.nx σ H1
theorem dU{c:Expr}{body:List Stmt}{tc:TT}{tb:TS}(hp:PassesOwn (model X.prog X.w) X.A X.env X.xe)(hc:PT X c tc)(hb:Iw X body tb):PS X (.While c body [] pos) (dX tc tb):=by
 intro Fj s σ H D I h
 obtain⟨W,⟨m0,w0⟩,turn⟩:=h
 refine wpAny_While (codeAny_whileLoop (λn s'=>∃σ' H',Inv X Fj σ' H' s'/\W n σ' H') ?_ m0 ⟨σ,H,I,w0⟩)
 rintro n s1 ⟨σ1,H1,I1,w1⟩
 refine Cr hp (HZ (hc Fj s1 σ1 H1 _ I1 (turn n σ1 H1 w1)) λb s2 ⟨H2,I2,q2⟩=>?_)
 cases b with
 |true =>
  obtain⟨N,hN,q2⟩:=q2
  rw[AF rfl]
  refine Cr hp (HZ (hb Fj s2 σ1 H2 _ I2 q2) λf s3 q3=>?_)
  cases f with
  |next =>
   obtain⟨σ3,H3,I3,n3⟩:=q3
   obtain⟨m',hm,w3⟩:=hN σ3 H3 n3
   exact⟨m',hm,σ3,H3,I3,w3⟩
  |cont =>
   obtain⟨σ3,H3,I3,n3⟩:=q3
   obtain⟨m',hm,w3⟩:=hN σ3 H3 n3
   exact⟨m',hm,σ3,H3,I3,w3⟩
  |brk=>exact q3
  |ret v=>exact q3
 |false =>
  rw[AD AX]
  exact DD ⟨σ1,H2,I2,q2⟩
end
structure It where
 go:Nat->Hp->Prop
 yld:Nat->Hp->V->Hp->Prop
 stop:Nat->Hp->Prop
def Kw(X:Cx)(Fj:wF)(H:Hp)(b:wO):Prop :=
 H b=none/\b≠X.env.locals/\b∉X.fs/\(b∈X.ex∨X.s₀.heap.objs.size<=b)/\(∀x c,X.env.cells.lookup x=some c->c≠b)/\∀p∈X.pn++Fj,p.1≠b
theorem Inv.fpOk{X:Cx}{Fj:wF}{σ:St}{H H':Hp}{s:wM}{b:wO}(I:Inv X Fj σ H s)(hb:s.heap.objs.size<=b)(hn:H' b=none):Kw X Fj H' b:=by
 refine⟨hn,B8 (Ai I.lt hb),I.nofs hb,.inr (A9 I.sz hb),λx c e z=>?_,λp hp z=>?_⟩
 ·obtain⟨v,q⟩:=I.cell x c e
  exact absurd (Ai q.lt (by rw[z];exact hb)) (B3 _)
 ·exact absurd (Ai (AS (I.pin p hp).1) (by rw[z];exact hb)) (B3 _)
structure KB(P:wP)(w:wQ)(K:wL)(tg:Expr)(J:It)(fp:wH)(it:wO)(tn:Nat->Heap->Prop):Prop where
 mem:it∈fp
 obj:∀i h,tn i h->∀b∈fp,∃o,h.get? b=some o/\∀v,o.data≠.cell v
 keep:∀i h h',tn i h->(∀b∈fp,∀o,h.get? b=some o->h'.get? b=some o)->tn i h'
 item:∀(X:Cx),X.prog=P->X.w=w->X.K=K->X.calm=true->∀(i:Nat)(Fj:wF)(s:wM)(σ:St)(H:Hp)(E:wD),Inv X Fj σ H s->(∀b∈fp,Kw X Fj H b)->tn i s.heap->J.go i H ->
  wpAny (model P w) X.A (pyNext (.ref it)) (λr s1=>∃u,r=some u /\
   wpAny (model P w) X.A (letOwnedTupleGo tg (.ref it) u) (λ_ s2=>∃x H',Inv X Fj σ H' s2/\HE x u/\J.yld i H x H'/\tn (i+1) s2.heap/\∀b∈fp,H' b=none) E s1) E s
 done:∀(X:Cx),X.prog=P->X.w=w->X.K=K->X.calm=true->∀(i:Nat)(Fj:wF)(s:wM)(σ:St)(H:Hp)(E:wD),Inv X Fj σ H s->(∀b∈fp,Kw X Fj H b)->tn i s.heap->J.stop i H ->
  wpAny (model P w) X.A (pyNext (.ref it)) (λr s1=>r=none/\Inv X Fj σ H s1) E s
 self:∀(A:Around)(i:Nat)(s:wM)(Q:wD)(E:wD),tn i s.heap->Q (.ref it) s->wpAny (model P w) A (pyIter (.ref it)) Q E s
abbrev TI:=St->Hp->(It->Hp->Prop)->Prop
def Zc(X:Cx)(Fj:wF)(σ:St)(tg:Expr)(R:It->Hp->Prop)(itv:wN)(s2:wM):Prop :=
 ∃(it:wO)(fp:wH)(tn:Nat->Heap->Prop)(J:It)(H':Hp),itv=.ref it/\Inv X Fj σ H' s2/\KB X.prog X.w X.K tg J fp it tn/\tn 0 s2.heap/\(∀b∈fp,Kw X Fj H' b)/\R J H'
def PI(X:Cx)(tg iter:Expr)(wi:TI):Prop :=
 ∀(Fj:wF)(s:wM)(σ:St)(H:Hp)(R:It->Hp->Prop),Inv X Fj σ H s->wi σ H R ->
  wpAny (model X.prog X.w) X.A (eval iter X.env) (λv s1=>wpAny (model X.prog X.w) X.A (pyIter v) (Zc X Fj σ tg R) X.xe s1) X.xe s
theorem Qv{M:Model}{A:Around}{E:wD}{s:wM}{tg:Expr}{it:wO}{u:wN}{o:Obj}{n:String}{vs:wK}{Q:Unit->wM->Prop}(ho:s.heap.get? it=some o)(hc:o.cls=.type n)(hd:o.data=.fields vs)
  (hn:["enumerate", "zip", "dict_itemiterator", "dict_reverseitemiterator", "odict_iterator", "itertools.zip_longest", "itertools.pairwise"].contains n=false) (hQ:Q () s):wpAny M A (letOwnedTupleGo tg (.ref it) u) Q E s:=by
 unfold letOwnedTupleGo
 cases tg<;>first
  |exact AE hQ
  | (cases u<;>first
    |exact AE hQ
    | (refine AA (wpAny_load ho ?_)
       rw[hc,hd]
       show wpAny M A (if (["enumerate", "zip", "dict_itemiterator", "dict_reverseitemiterator", "odict_iterator", "itertools.zip_longest", "itertools.pairwise"].contains n&&vs[0]?==some (rawInt _))=true then _ else _) Q E s
       rw[AD (by intro h;rw[hn,Bool.false_and]at h;cases h)]
       exact AE hQ))
def Nb(K:wL)(a:wO):It :=
 ⟨λi H=>∃xs x,HJ K H a xs/\xs[i]?=some x,λi H x H'=>H'=H/\∀xs,HJ K H a xs->xs[i]?=some x,λi H=>∃xs,HJ K H a xs/\xs.length<=i⟩
def Lu(K:wL)(a:wO):It :=
 ⟨λi H=>∃xs x,HK K H a xs/\xs[i]?=some x,λi H x H'=>H'=H/\∀xs,HK K H a xs->xs[i]?=some x,λi H=>∃xs,HK K H a xs/\xs.length<=i⟩
def L7(lo:Int)(n:Nat):It:=⟨λi _=>i<n,λi H x H'=>H'=H/\x=.int (lo+i),λi _=>n<=i⟩
theorem YY{P:wP}{w:wQ}{K:wL}{tg:Expr}(a it:wO):KB P w K tg (Nb K a) [it] it (λi h=>h.IsListIter it a i) where
 mem:=by simp
 obj:=λi h st b hb=>by
  have e:b=it:=by simpa using hb
  subst e
  obtain⟨o,e,c,d⟩:=st
  exact⟨o,e,λv z=>by rw[d]at z;cases z⟩
 keep:=λi h h' st k=>st.at λo e=>k it (by simp) o e
 item:=by
  intro X hP hw hK hc i Fj s σ H E I hf st hg
  subst hP hw hK
  obtain⟨xs,x,hq,hx⟩:=hg
  obtain⟨its,rv,p,hz⟩:=I.list hq
  obtain⟨u,hu,ru⟩:=rv.get hx
  obtain⟨f0,f1,f2,f3,f4,f5⟩:=hf it (by simp)
  refine wpAny_pyNext_list_item st p.isList (x:=u) (by simpa using hu) λh' st' sb=>?_
  have I1:Inv X Fj σ H { s with heap:=h' }:=I.turned (t':=s.toks) (λb o hb e=>(sb.2 b hb).trans e) f0 f1 f3 f4 f5
  obtain⟨o,e,c,d⟩:=id st'
  exact⟨u,rfl,Qv (s:={ s with heap:=h' }) e c d (by decide) ⟨x,H,I1,ru,⟨rfl,λys hy=>by rw[I.list_inj hy hq];exact hx⟩,st',λb hb=>(hf b hb).1⟩⟩
 done:=by
  intro X hP hw hK hc i Fj s σ H E I hf st hg
  subst hP hw hK
  obtain⟨xs,hq,hx⟩:=hg
  obtain⟨its,rv,p,hz⟩:=I.list hq
  obtain⟨f0,f1,f2,f3,f4,f5⟩:=hf it (by simp)
  have hl:=rv.length
  exact wpAny_pyNext_list_end (I.ok.hd hc) st p.isList (by simp;lia) λh' eb=>⟨rfl,I.turned (t':=s.toks) (λb o hb e=>eb b o hb e) f0 f1 f3 f4 f5⟩
 self:=λ_ _ _ _ _ st h=>wpAny_pyIter_listiter st h
theorem jD{P:wP}{w:wQ}{K:wL}{tg:Expr}(a it:wO):KB P w K tg (Lu K a) [it] it (λi h=>h.IsTupleIter it a i) where
 mem:=by simp
 obj:=λi h st b hb=>by
  have e:b=it:=by simpa using hb
  subst e
  obtain⟨o,e,c,d⟩:=st
  exact⟨o,e,λv z=>by rw[d]at z;cases z⟩
 keep:=λi h h' st k=>st.at λo e=>k it (by simp) o e
 item:=by
  intro X hP hw hK hc i Fj s σ H E I hf st hg
  subst hP hw hK
  obtain⟨xs,x,hq,hx⟩:=hg
  obtain⟨its,rv,p,hz⟩:=I.tuple hq
  obtain⟨u,hu,ru⟩:=rv.get hx
  obtain⟨f0,f1,f2,f3,f4,f5⟩:=hf it (by simp)
  refine wpAny_pyNext_tuple_item st (show s.heap.IsTuple a its.toArray from p) (x:=u) (by simpa using hu) λh' st' sb=>?_
  have I1:Inv X Fj σ H { s with heap:=h' }:=I.turned (t':=s.toks) (λb o hb e=>(sb.2 b hb).trans e) f0 f1 f3 f4 f5
  obtain⟨o,e,c,d⟩:=id st'
  exact⟨u,rfl,Qv (s:={ s with heap:=h' }) e c d (by decide) ⟨x,H,I1,ru,⟨rfl,λys hy=>by rw[I.tuple_inj hy hq];exact hx⟩,st',λb hb=>(hf b hb).1⟩⟩
 done:=by
  intro X hP hw hK hc i Fj s σ H E I hf st hg
  subst hP hw hK
  obtain⟨xs,hq,hx⟩:=hg
  obtain⟨its,rv,p,hz⟩:=I.tuple hq
  obtain⟨f0,f1,f2,f3,f4,f5⟩:=hf it (by simp)
  have hl:=rv.length
  exact wpAny_pyNext_tuple_end (I.ok.hd hc) st (show s.heap.IsTuple a its.toArray from p) (by simp;lia) λh' eb=>⟨rfl,I.turned (t':=s.toks) (λb o hb e=>eb b o hb e) f0 f1 f3 f4 f5⟩
 self:=λ_ _ _ _ _ st h=>wpAny_pyIter_tupleiter st h
theorem jJ{P:wP}{w:wQ}{K:wL}{tg:Expr}(it:wO)(lo:Int)(n:Nat):KB P w K tg (L7 lo n) [it] it (λi h=>IsRangeIter h it (lo+(i:Nat)*1) ((n:Int)-(i:Nat)) 1) where
 mem:=by simp
 obj:=λi h st b hb=>by
  have e:b=it:=by simpa using hb
  subst e
  exact⟨_,st,λv z=>by
   have z':Data.fields _=Data.cell v:=z
   cases z'⟩
 keep:=λi h h' st k=>k it (by simp) _ st
 item:=by
  intro X hP hw hK hc i Fj s σ H E I hf st hg
  subst hP hw hK
  obtain⟨f0,f1,f2,f3,f4,f5⟩:=hf it (by simp)
  have W:=Walks.range (prog:=X.prog) (w:=X.w) (I.ok.hd hc) it lo 1 n
  refine W.item i s _ _ hg st λv h' tk hv st' kk=>?_
  obtain⟨t,rfl⟩:=hv
  have I1:Inv X Fj σ H { s with heap:=h',toks:=tk }:=I.turned (λb o hb e=>kk b o (by simpa using hb) e) f0 f1 f3 f4 f5
  refine⟨_,rfl,Qv (s:={ s with heap:=h',toks:=tk }) (n := "range_iterator") st' rfl rfl (by decide) ⟨.int (lo+i),H,I1,⟨t,?_⟩,⟨rfl,rfl⟩,st',λb hb=>(hf b hb).1⟩⟩
  rw[D5]
 done:=by
  intro X hP hw hK hc i Fj s σ H E I hf st hg
  subst hP hw hK
  obtain⟨f0,f1,f2,f3,f4,f5⟩:=hf it (by simp)
  exact Fg (I.ok.hd hc) st (by have:n<=i:=hg;lia) λh' eb=>⟨rfl,I.turned (t':=s.toks) (λb o hb e=>eb b o hb e) f0 f1 f3 f4 f5⟩
 self:=λ_ _ _ _ _ st h=>Fh st h
section
variable{X:Cx}{tg:Expr}
def kH(K:wL)(tl:TE):TI:=λσ H R=>tl σ H λx H1=>∃a,x=.ref a/\(∃xs,HJ K H1 a xs)/\R (Nb K a) H1
def nV(K:wL)(tl:TE):TI:=λσ H R=>tl σ H λx H1=>∃a,x=.ref a/\(∃xs,HK K H1 a xs)/\R (Lu K a) H1
theorem IW{l:Expr}{tl:TE}(hl:PE X l tl):PI X tg l (kH X.K tl):=by
 intro Fj s σ H R I h
 refine HZ (hl Fj s σ H _ I h) λv s1 ⟨x,H1,I1,r1,q1⟩=>?_
 obtain⟨a,e,⟨xs,hq⟩,q⟩:=q1
 subst e
 cases r1
 obtain⟨its,rv,p,hz⟩:=I1.list hq
 refine CG p.isList ?_
 refine⟨s1.heap.objs.size,[s1.heap.objs.size],_,_,H1,rfl,I1.kept (t':=s1.toks) λb o e=>AC _ e,YY a _,⟨_,AU _ rfl,rfl,rfl⟩,λb hb=>?_,q⟩
 have e:b=s1.heap.objs.size:=by simpa using hb
 subst e
 exact I1.fpOk (AG _) (I1.hok.fresh (AG _))
theorem US{l:Expr}{tl:TE}(hl:PE X l tl):PI X tg l (nV X.K tl):=by
 intro Fj s σ H R I h
 refine HZ (hl Fj s σ H _ I h) λv s1 ⟨x,H1,I1,r1,q1⟩=>?_
 obtain⟨a,e,⟨xs,hq⟩,q⟩:=q1
 subst e
 cases r1
 obtain⟨its,rv,p,hz⟩:=I1.tuple hq
 refine B0 (show s1.heap.IsTuple a its.toArray from p) ?_
 refine⟨s1.heap.objs.size,[s1.heap.objs.size],_,_,H1,rfl,I1.kept (t':=s1.toks) λb o e=>AC _ e,jD a _,⟨_,AU _ rfl,rfl,rfl⟩,λb hb=>?_,q⟩
 have e:b=s1.heap.objs.size:=by simpa using hb
 subst e
 exact I1.fpOk (AG _) (I1.hok.fresh (AG _))
theorem Tx{Fj:wF}{σ:St}{H:Hp}{s:wM}{R:It->Hp->Prop}{E:wD}{lo hi:Int}{t u v:Tok}{tk:Nat}(I:Inv X Fj σ H s)(h1:-(2^62)<=lo)(h2:lo<2^62)(h3:-(2^62)<=hi)(h4:hi<2^62)
  (q:R (L7 lo (hi-lo).toNat) H):wpAny (model X.prog X.w) X.A (pyIter (.ref s.heap.objs.size)) (Zc X Fj σ tg R) E { s with heap:=s.heap.push { cls:=.type "range",data:=.fields #[.int lo t,.int hi u,.int 1 v] },toks:=tk }:=by
 refine wpAny_pyIter_range (IsRange.new ..) (small_one h1 h2 h3 h4) ?_
 have I1:Inv X Fj σ H { s with heap:=s.heap.push { cls:=.type "range",data:=.fields #[.int lo t,.int hi u,.int 1 v] },toks:=tk }:=I.kept λb o e=>AC _ e
 refine⟨(s.heap.push { cls:=.type "range",data:=.fields #[.int lo t,.int hi u,.int 1 v] }).objs.size,[(s.heap.push { cls:=.type "range",data:=.fields #[.int lo t,.int hi u,.int 1 v] }).objs.size],_,_,H,rfl,
  I1.kept (t':=tk) λb o e=>AC _ e,jJ _ lo (hi-lo).toNat,?_,λb hb=>?_,q⟩
 ·have e1:lo+((0:Nat):Int)*1=lo:=by simp
  have e2:(((hi-lo).toNat:Nat):Int)-((0:Nat):Int)=Builtin.Range.rangeSize lo hi 1:=by rw[rangeSize_one];split<;>lia
  show IsRangeIter _ _ (lo+((0:Nat):Int)*1) ((((hi-lo).toNat:Nat):Int)-((0:Nat):Int)) 1
  rw[e1,e2]
  exact AU _ rfl
 ·have e:b=(s.heap.push { cls:=.type "range",data:=.fields #[.int lo t,.int hi u,.int 1 v] }).objs.size:=by simpa using hb
  subst e
  exact I1.fpOk (AG _) (I1.hok.fresh (AG _))
def Yo(ta:TA):TI:=λσ H R=>ta σ H λvs H1=>∃j:Int,vs=[.int j]/\-(2^62)<=j/\j<2^62/\R (L7 0 j.toNat) H1
def mB(ta:TA):TI:=λσ H R=>ta σ H λvs H1=>∃i j:Int,vs=[.int i,.int j]/\(-(2^62)<=i/\i<2^62/\-(2^62)<=j/\j<2^62)/\R (L7 i (j-i).toNat) H1
theorem Nh{a:Expr}{ta:TA}{p pos:Pos}(hg:Gl X "range")(hm:X.mg "range" = none)(ha:PA X [a] ta)(hs:starEach [a] X.env=[(false,eval a X.env)]:=by rfl):PI X tg (.Call (.Name "range" p) [a] [] pos) (Yo ta):=by
 intro Fj s σ H R I h
 refine Call_ (KI I hg hm boot_range (BK (HZ (ha pos Fj s σ H _ I h) λus s1 ⟨vs,H1,I1,r1,q1⟩=>?_) hs rfl))
 obtain⟨j,e,q1,q2,q⟩:=q1
 subst e
 cases r1 with
 |cons r rr =>
  cases rr
  obtain⟨t,rfl⟩:=r
  exact call_range_1 (Tx I1 (by lia) (by lia) q1 q2 (by simpa using q))
theorem bY{a b:Expr}{ta:TA}{p pos:Pos}(hg:Gl X "range")(hm:X.mg "range" = none)(ha:PA X [a,b] ta)(hs:starEach [a,b] X.env=[(false,eval a X.env),(false,eval b X.env)]:=by rfl)(hs2:starEach [b] X.env=[(false,eval b X.env)]:=by rfl) :
  PI X tg (.Call (.Name "range" p) [a,b] [] pos) (mB ta):=by
 intro Fj s σ H R I h
 refine Call_ (KI I hg hm boot_range (BK (HZ (ha pos Fj s σ H _ I h) λus s1 ⟨vs,H1,I1,r1,q1⟩=>?_) (by rw[hs,hs2]) (by rw[hs2];rfl)))
 obtain⟨i,j,e,⟨q1,q2,q3,q4⟩,q⟩:=q1
 subst e
 cases r1 with
 |cons r rr =>
  cases rr with
  |cons r' rr =>
   cases rr
   obtain⟨t,rfl⟩:=r
   obtain⟨t',rfl⟩:=r'
   exact call_range_2 (Tx I1 q1 q2 q3 q4 q)
def jR(wi:TI)(g:TG)(tb:TS):TS:=λD σ H=>wi σ H λJ H1=>∃W:Nat->Nat->St->Hp->Prop,(∃m,W 0 m σ H1)/\∀i m σ H,W i m σ H ->
 (J.stop i H/\D.nx σ H)∨(J.go i H/\∃N:St->Hp->Prop,(∀σ' H',N σ' H'->∃m',m'<m/\W (i+1) m' σ' H')/\∀x H',J.yld i H x H'->g x σ H' λσ2 H2=>tb { D with nx:=N,ct:=N,bk:=D.nx } σ2 H2)
def R9(fp:wH)(h:Heap):wF:=fp.filterMap λb=>(h.get? b).map λo=>(b,o)
theorem WD{fp:wH}{h:Heap}{b:wO}{o:Obj}(hb:b∈fp)(e:h.get? b=some o):(b,o)∈R9 fp h:=C9.mpr ⟨b,hb,by rw[e];rfl⟩
theorem qH{fp:wH}{h:Heap}{p:wO×Obj}(hp:p∈R9 fp h):p.1∈fp/\h.get? p.1=some p.2:=by
 obtain⟨b,hb,e⟩:=C9.mp hp
 cases q:h.get? b with
 |none=>rw[q]at e;cases e
 |some o =>
  rw[q]at e
  have e':(b,o)=p:=Ap e
  subst e'
  exact⟨hb,q⟩
theorem Inv.pinned{Fj:wF}{σ:St}{H:Hp}{s:wM}{fp:wH}(I:Inv X Fj σ H s)(hf:∀b∈fp,Kw X Fj H b)(ho:∀b∈fp,∃o,s.heap.get? b=some o/\∀v,o.data≠.cell v):Inv X (Fj++R9 fp s.heap) σ H s :=
 I.pins_of λp hp=>(Aq.mp hp).elim (λz=>I.pin p (Aw _ z)) λz=>by
  obtain⟨hb,e⟩:=qH z
  obtain⟨f0,f1,f2,_⟩:=hf p.1 hb
  obtain⟨o,e',d⟩:=ho p.1 hb
  rw[e]at e';cases e'
  exact⟨e,f0,f1,f2,d⟩
theorem Inv.unpinned{Fj pl:wF}{σ:St}{H:Hp}{s:wM}(I:Inv X (Fj++pl) σ H s):Inv X Fj σ H s:=I.pins_of λp hp=>I.pin p (Aw _ (BL _ hp))
theorem Ii{iter:Expr}{body:List Stmt}{wi:TI}{g:TG}{tb:TS}{pos:Pos}(hp:PassesOwn (model X.prog X.w) X.A X.env X.xe)(hc:X.calm=true)(hi:PI X tg iter wi)(hg:PG X tg g)(hb:Iw X body tb)
  (hs:∀x,foldedSetIterable iter X.env x=pure x:=by intro _;rfl):PS X (.For tg iter body [] pos) (jR wi g tb):=by
 intro Fj s σ H D I h
 refine wpAny_For (HZ (hi Fj s σ H _ I h) λv s1 h1=>HZ h1 λitv s2 h2=>?_) hs
 obtain⟨it,fp,tn,J,H2,e,I2,T,st2,f2,W,⟨m0,w0⟩,turn⟩:=h2
 subst e
 have stat:∀{H':Hp},(∀b∈fp,H' b=none)->∀b∈fp,Kw X Fj H' b:=λhn b hb=>⟨hn b hb,(f2 b hb).2⟩
 refine codeAny_forLoop_any (λn s'=>∃i σ' H',Inv X Fj σ' H' s'/\tn i s'.heap/\(∀b∈fp,H' b=none)/\W i n σ' H') ?_ m0 ⟨0,σ,H2,I2,st2,λb hb=>(f2 b hb).1,w0⟩
 rintro n s3 ⟨i,σ3,H3,I3,st3,fr3,w3⟩
 rcases turn i n σ3 H3 w3 with⟨stop,qn⟩|⟨go,N,hN,step⟩
 ·refine Cr hp (HZ (T.done X rfl rfl rfl hc i Fj s3 σ3 H3 X.xe I3 (stat fr3) st3 stop) λr s4 ⟨hr,I4⟩=>?_)
  subst hr
  exact DD ⟨σ3,H3,I4,qn⟩
 ·refine Cr hp (HZ (T.item X rfl rfl rfl hc i Fj s3 σ3 H3 X.xe I3 (stat fr3) st3 go) λr s4 ⟨u,hr,h4⟩=>?_)
  subst hr
  refine Cr hp (HZ h4 λ_ s5 ⟨x,H5,I5,r5,y5,st5,fr5⟩=>?_)
  have I5':=I5.pinned (stat fr5) (T.obj _ _ st5)
  refine Cr hp (HZ (hg _ s5 σ3 H5 x u _ I5' r5 (step x H5 y5)) λ_ s6 ⟨σ6,H6,I6,q6⟩=>?_)
  refine Cr hp (HZ (hb _ s6 σ6 H6 _ I6 q6) λf s7 q7=>?_)
  have again:∀{σ7:St}{H7:Hp},Inv X (Fj++R9 fp s5.heap) σ7 H7 s7->N σ7 H7->∃m,m<n/\∃i σ' H',Inv X Fj σ' H' s7/\tn i s7.heap/\(∀b∈fp,H' b=none)/\W i m σ' H':=λ{σ7 H7} I7 n7=>by
   obtain⟨m',hm,w7⟩:=hN σ7 H7 n7
   refine⟨m',hm,i+1,σ7,H7,I7.unpinned,T.keep _ _ _ st5 λb hb o e=>(I7.pin (b,o) (Aw _ (Aw _ (WD hb e)))).1,λb hb=>?_,w7⟩
   obtain⟨o,e,d⟩:=T.obj _ _ st5 b hb
   exact(I7.pin (b,o) (Aw _ (Aw _ (WD hb e)))).2.1
  cases f with
  |next=>obtain⟨σ7,H7,I7,n7⟩:=q7;exact again I7 n7
  |cont=>obtain⟨σ7,H7,I7,n7⟩:=q7;exact again I7 n7
  |brk=>obtain⟨σ7,H7,I7,q7⟩:=q7;exact⟨σ7,H7,I7.unpinned,q7⟩
  |ret v=>obtain⟨x7,σ7,H7,I7,r7,q7⟩:=q7;exact⟨x7,σ7,H7,I7.unpinned,r7,q7⟩
end
theorem Jd{K:wL}{a:wO}{xs:List V}{g:TG}{tb:TS}{D:JA}{σ:St}{H:Hp}(Pv:Nat->St->Hp->Prop)(h0:Pv 0 σ H)(hl:∀i σ H,i<=xs.length->Pv i σ H->HJ K H a xs)
  (hs:∀i x σ H,xs[i]?=some x->Pv i σ H->g x σ H λσ2 H2=>tb { D with nx:=Pv (i+1),ct:=Pv (i+1),bk:=D.nx } σ2 H2) (hd:∀σ H,Pv xs.length σ H->D.nx σ H) :
  ∃W:Nat->Nat->St->Hp->Prop,(∃m,W 0 m σ H)/\∀i m σ H,W i m σ H ->
   ((Nb K a).stop i H/\D.nx σ H)∨((Nb K a).go i H/\∃N:St->Hp->Prop,(∀σ' H',N σ' H'->∃m',m'<m/\W (i+1) m' σ' H')/\∀x H',(Nb K a).yld i H x H'->g x σ H' λσ2 H2=>tb { D with nx:=N,ct:=N,bk:=D.nx } σ2 H2):=by
 refine⟨λi m σ H=>m=xs.length-i/\i<=xs.length/\Pv i σ H,⟨xs.length,by simp,Ax _,h0⟩,?_⟩
 rintro i m σ H ⟨rfl,hi,p⟩
 have q:=hl i σ H hi p
 by_cases hlt:i<xs.length
 ·refine .inr ⟨⟨xs,xs[i],q,by simp [hlt]⟩,Pv (i+1),λσ' H' p'=>⟨xs.length-(i+1),by lia,rfl,hlt,p'⟩,λx H' y=>?_⟩
  obtain⟨e,y⟩:=y
  subst e
  exact hs i x σ _ (y xs q) p
 ·have e:i=xs.length:=by lia
  subst e
  exact .inl ⟨⟨xs,q,AG _⟩,hd σ H p⟩
theorem iR{K:wL}{a:wO}{xs:List V}{g:TG}{tb:TS}{D:JA}{σ:St}{H:Hp}(Pv:Nat->St->Hp->Prop)(h0:Pv 0 σ H)(hl:∀i σ H,i<=xs.length->Pv i σ H->HK K H a xs)
  (hs:∀i x σ H,xs[i]?=some x->Pv i σ H->g x σ H λσ2 H2=>tb { D with nx:=Pv (i+1),ct:=Pv (i+1),bk:=D.nx } σ2 H2) (hd:∀σ H,Pv xs.length σ H->D.nx σ H) :
  ∃W:Nat->Nat->St->Hp->Prop,(∃m,W 0 m σ H)/\∀i m σ H,W i m σ H ->
   ((Lu K a).stop i H/\D.nx σ H)∨((Lu K a).go i H/\∃N:St->Hp->Prop,(∀σ' H',N σ' H'->∃m',m'<m/\W (i+1) m' σ' H')/\∀x H',(Lu K a).yld i H x H'->g x σ H' λσ2 H2=>tb { D with nx:=N,ct:=N,bk:=D.nx } σ2 H2):=by
 refine⟨λi m σ H=>m=xs.length-i/\i<=xs.length/\Pv i σ H,⟨xs.length,by simp,Ax _,h0⟩,?_⟩
 rintro i m σ H ⟨rfl,hi,p⟩
 have q:=hl i σ H hi p
 by_cases hlt:i<xs.length
 ·refine .inr ⟨⟨xs,xs[i],q,by simp [hlt]⟩,Pv (i+1),λσ' H' p'=>⟨xs.length-(i+1),by lia,rfl,hlt,p'⟩,λx H' y=>?_⟩
  obtain⟨e,y⟩:=y
  subst e
  exact hs i x σ _ (y xs q) p
 ·have e:i=xs.length:=by lia
  subst e
  exact .inl ⟨⟨xs,q,AG _⟩,hd σ H p⟩
theorem Ni{lo:Int}{n:Nat}{g:TG}{tb:TS}{D:JA}{σ:St}{H:Hp}(Pv:Nat->St->Hp->Prop)(h0:Pv 0 σ H)
  (hs:∀i σ H,i<n->Pv i σ H->g (.int (lo+i)) σ H λσ2 H2=>tb { D with nx:=Pv (i+1),ct:=Pv (i+1),bk:=D.nx } σ2 H2) (hd:∀σ H,Pv n σ H->D.nx σ H) :
  ∃W:Nat->Nat->St->Hp->Prop,(∃m,W 0 m σ H)/\∀i m σ H,W i m σ H ->
   ((L7 lo n).stop i H/\D.nx σ H)∨((L7 lo n).go i H/\∃N:St->Hp->Prop,(∀σ' H',N σ' H'->∃m',m'<m/\W (i+1) m' σ' H')/\∀x H',(L7 lo n).yld i H x H'->g x σ H' λσ2 H2=>tb { D with nx:=N,ct:=N,bk:=D.nx } σ2 H2):=by
 refine⟨λi m σ H=>m=n-i/\i<=n/\Pv i σ H,⟨n,by simp,Ax _,h0⟩,?_⟩
 rintro i m σ H ⟨rfl,hi,p⟩
 by_cases hlt:i<n
 ·refine .inr ⟨hlt,Pv (i+1),λσ' H' p'=>⟨n-(i+1),by lia,rfl,hlt,p'⟩,λx H' y=>?_⟩
  obtain⟨e,y⟩:=y
  subst e y
  exact hs i σ _ hlt p
 ·have e:i=n:=by lia
  subst e
  exact .inl ⟨AG _,hd σ H p⟩
abbrev R2:=V->V->Hp->VK->Prop
def IX(X:Cx)(f:wN->wN->Sem wN)(r:R2):Prop :=
 ∀(Fj:wF)(s:wM)(σ:St)(H:Hp)(x y:V)(v u:wN)(Q:VK),Inv X Fj σ H s->HE x v->HE y u->r x y H Q ->
  wpAny (model X.prog X.w) X.A (f v u) (EP X Fj σ Q) X.xe s
def KW(X:Cx)(f:wN->Sem wN)(r:V->Hp->VK->Prop):Prop :=
 ∀(Fj:wF)(s:wM)(σ:St)(H:Hp)(x:V)(v:wN)(Q:VK),Inv X Fj σ H s->HE x v->r x H Q ->
  wpAny (model X.prog X.w) X.A (f v) (EP X Fj σ Q) X.xe s
def ID(X:Cx)(f:wN)(r:List V->Hp->VK->Prop):Prop :=
 ∀(Fj:wF)(s:wM)(σ:St)(H:Hp)(xs:List V)(us:wC)(Q:VK),Inv X Fj σ H s->HF xs us->r xs H Q ->
  wpAny (model X.prog X.w) X.A (call f us) (EP X Fj σ Q) X.xe s
def Pq(r:R2)(ta tb:TE):TE:=λσ H Q=>ta σ H λx H1=>tb σ H1 λy H2=>r x y H2 Q
def vU(r:V->Hp->VK->Prop)(ta:TE):TE:=λσ H Q=>ta σ H λx H1=>r x H1 Q
def rI(C:Int->Int->Prop)(g:Int->Int->V):R2:=λx y H Q=>∃i j,x=.int i/\y=.int j/\C i j/\Q (g i j) H
def NY(g:Int->Int->V):R2:=λx y H Q=>∃i j,x=.int i/\y=.int j/\Q (g i j) H
def rU(g:Int->V):V->Hp->VK->Prop:=λx H Q=>∃i,x=.int i/\Q (g i) H
section
variable{X:Cx}{a b c:Expr}{ta tb tc:TE}{pos:Pos}
theorem OZ(ha:PE X a ta)(hb:PE X b tb){Fj:wF}{s:wM}{σ:St}{H:Hp}{R:V->V->Hp->Prop}(I:Inv X Fj σ H s)
  (h:ta σ H λx H1=>tb σ H1 λy H2=>R x y H2) {Q:wD} {f:wN->wN->Sem wN}
  (hf:∀v u s2 x y H2,Inv X Fj σ H2 s2->HE x v->HE y u->R x y H2->wpAny (model X.prog X.w) X.A (f v u) Q X.xe s2) :
  wpAny (model X.prog X.w) X.A (eval a X.env) (λv s₁=>wpAny (model X.prog X.w) X.A (eval b X.env) (λu s₂=>wpAny (model X.prog X.w) X.A (f v u) Q X.xe s₂) X.xe s₁) X.xe s:=by
 refine HZ (ha Fj s σ H _ I h) λv s1 ⟨x,H1,I1,r1,q1⟩=>?_
 refine HZ (hb Fj s1 σ H1 _ I1 q1) λu s2 ⟨y,H2,I2,r2,q2⟩=>?_
 exact hf v u s2 x y H2 I2 r1 r2 q2
theorem HV{op:Operator}{r:R2}(ho:IX X (binaryOp op) r)(ha:PE X a ta)(hb:PE X b tb):PE X (.BinOp a op b pos) (Pq r ta tb):=by
 intro Fj s σ H Q I h
 exact wpAny_BinOp (OZ ha hb I h λv u s2 x y H2 I2 rx ry q=>ho Fj s2 σ H2 x y v u Q I2 rx ry q)
theorem OY{op:UnaryOp}{r:V->Hp->VK->Prop}(ho:KW X (unaryOp op) r)(ha:PE X a ta):PE X (.UnaryOp op a pos) (vU r ta):=by
 intro Fj s σ H Q I h
 exact UnaryOp_ (HZ (ha Fj s σ H _ I h) λv s1 ⟨x,H1,I1,r1,q1⟩=>ho Fj s1 σ H1 x v Q I1 r1 q1)
theorem VP{f:wN->wN->Sem wN}{C:Int->Int->Prop}{g:Int->Int->Int}
  (rule:∀(i j:Int)(t u:Tok)(s:wM)(Q:wD)(E:wD),C i j->Q (.int (g i j) s.toks) { s with toks:=s.toks+1 }->wpAny (model X.prog X.w) X.A (f (.int i t) (.int j u)) Q E s) :
  IX X f (rI C λi j=>.int (g i j)):=by
 intro Fj s σ H x y v u Q I rx ry h
 obtain⟨i,j,rfl,rfl,hc,q⟩:=h
 obtain⟨t,rfl⟩:=rx
 obtain⟨t',rfl⟩:=ry
 exact rule i j t t' s _ _ hc ⟨.int (g i j),H,I.tok _,⟨_,rfl⟩,q⟩
theorem S1{f:wN->wN->Sem wN}{g:Int->Int->Int}
  (rule:∀(i j:Int)(t u:Tok)(s:wM)(Q:wD)(E:wD),Q (.int (g i j) s.toks) { s with toks:=s.toks+1 }->wpAny (model X.prog X.w) X.A (f (.int i t) (.int j u)) Q E s) :
  IX X f (NY λi j=>.int (g i j)):=by
 intro Fj s σ H x y v u Q I rx ry h
 obtain⟨i,j,rfl,rfl,q⟩:=h
 obtain⟨t,rfl⟩:=rx
 obtain⟨t',rfl⟩:=ry
 exact rule i j t t' s _ _ ⟨.int (g i j),H,I.tok _,⟨_,rfl⟩,q⟩
theorem Mp{f:wN->wN->Sem wN}{g:Int->Int->Bool}
  (rule:∀(i j:Int)(t u:Tok)(s:wM)(Q:wD)(E:wD),Q (.bool (g i j)) s->wpAny (model X.prog X.w) X.A (f (.int i t) (.int j u)) Q E s) :
  IX X f (NY λi j=>.bl (g i j)):=by
 intro Fj s σ H x y v u Q I rx ry h
 obtain⟨i,j,rfl,rfl,q⟩:=h
 obtain⟨t,rfl⟩:=rx
 obtain⟨t',rfl⟩:=ry
 exact rule i j t t' s _ _ ⟨.bl (g i j),H,I,rfl,q⟩
def iH(i j:Int):Prop:=0<j/\j<1073741824
def lQ(i j:Int):Prop:=0<=j/\j<=1000000/\i.natAbs<2^64
def RD(i j:Int):Prop:=(-(2^64)<i/\i<2^64)∨(-(2^64)<j/\j<2^64)
theorem RD.ok{i j:Int}(h:RD i j):IntMulOk i j:=by
 rcases h with⟨h1,h2⟩|⟨h1,h2⟩
 ·exact .of_left (intBits_le_64 h1 h2)
 ·exact .of_right (intBits_le_64 h1 h2)
theorem Jc:IX X (binaryOp .Add) (NY λi j=>.int (i+j)):=S1 λ_ _ _ _ _ _ _ q=>add_int q
theorem LO:IX X (binaryOp .Sub) (NY λi j=>.int (i-j)):=S1 λ_ _ _ _ _ _ _ q=>sub_int q
theorem O0:IX X (binaryOp .FloorDiv) (rI iH λi j=>.int (i / j)):=VP λi j _ _ _ _ _ hc q=>by
 have h1:(0:Int)<j:=hc.1
 have h2:j<1073741824:=hc.2
 exact floordiv_int (by lia) (by rw[Eo i (by lia)];exact q) (.inl (Fa (by lia)))
theorem K6:IX X (binaryOp .Mod) (rI (λ_ j=>0<j) λi j=>.int (i%j)):=VP λi j _ _ _ _ _ hc q=>by
 have h1:(0:Int)<j:=hc
 exact mod_int' (by lia) (by rw[Int.fmod_eq_emod_of_nonneg i (by lia)];exact q)
theorem TJ:IX X (binaryOp .Pow) (rI lQ λi j=>.int (i^j.toNat)):=VP λ_ _ _ _ _ _ _ hc q=>pow_int_small hc.1 hc.2.1 hc.2.2 q
theorem uH{f:wN->Sem wN}{g:Int->Int}
  (rule:∀(i:Int)(t:Tok)(s:wM)(Q:wD)(E:wD),Q (.int (g i) s.toks) { s with toks:=s.toks+1 }->wpAny (model X.prog X.w) X.A (f (.int i t)) Q E s) :
  KW X f (rU λi=>.int (g i)):=by
 intro Fj s σ H x v Q I rx h
 obtain⟨i,rfl,q⟩:=h
 obtain⟨t,rfl⟩:=rx
 exact rule i t s _ _ ⟨.int (g i),H,I.tok _,⟨_,rfl⟩,q⟩
theorem OR:KW X (unaryOp .USub) (rU λi=>.int (-i)):=uH λ_ _ _ _ _ q=>neg_int q
end
noncomputable def Tt:V->V->Bool
 |.non,.non=>true|.non,.int _=>true|.int _,.non=>true|.non,.bl _=>true|.bl _,.non=>true|.non,.str _=>true|.str _,.non=>true
 |.int _,.int _=>true|.bl _,.bl _=>true|.str _,.str _=>true|.byt _,.byt _=>true
 |.int _,.str _=>true|.str _,.int _=>true|.bl _,.str _=>true|.str _,.bl _=>true
 |_,_=>false
def vZ:R2:=λx y H Q=>Tt x y=true/\Q (.bl (decide (x=y))) H
def vB:R2:=λx y H Q=>Tt x y=true/\Q (.bl (!decide (x=y))) H
theorem Um{i j:Int}:decide (V.int i=V.int j)=(i==j):=by
 rw[DA]
 simp
theorem Uh{i j:Bool}:decide (V.bl i=V.bl j)=(i==j):=by
 rw[DA]
 simp
theorem Sj{i j:Str}:decide (V.str i=V.str j)=(i==j):=by
 rw[DA]
 simp
theorem Tv{i j:Array UInt8}:decide (V.byt i=V.byt j)=(i.toList==j.toList):=by
 rw[DA]
 cases i
 cases j
 simp
section
variable{X:Cx}{a b c:Expr}{ta tb tc:TE}{pos:Pos}
theorem Ic{Fj:wF}{σ:St}{H:Hp}{s:wM}{Q:VK}{k k':Bool}(I:Inv X Fj σ H s)(q:Q (.bl k) H)(e:k=k'):EP X Fj σ Q (.bool k') s:=by
 subst e
 exact⟨.bl k,H,I,rfl,q⟩
theorem ME:IX X (compareOp .Eq) vZ:=by
 intro Fj s σ H x y v u Q I rx ry h
 obtain⟨hs,q⟩:=h
 cases x with
 |non =>
  cases rx
  cases y with
  |non=>cases ry;exact PySem.EqNone.eq_none_none (Ic I q (by simp))
  |bl j=>cases ry;exact PySem.EqNone.eq_none_bool (Ic I q (by simp))
  |int j=>obtain⟨t',rfl⟩:=ry;exact PySem.EqNone.eq_none_int (Ic I q (by simp))
  |str j=>obtain⟨t',rfl⟩:=ry;exact PySem.EqNone.eq_none_str (Ic I q (by simp))
  |_=>exact absurd (show false=true from hs) AX
 |bl i =>
  cases rx
  cases y with
  |non=>cases ry;exact PySem.EqNone.eq_bool_none (Ic I q (by simp))
  |bl j=>cases ry;exact eq_bool (Ic I q Uh)
  |str j=>obtain⟨t',rfl⟩:=ry;exact PySem.EqMixed.eq_bool_str (Ic I q (by simp))
  |_=>exact absurd (show false=true from hs) AX
 |int i =>
  obtain⟨t,rfl⟩:=rx
  cases y with
  |non=>cases ry;exact PySem.EqNone.eq_int_none (Ic I q (by simp))
  |int j=>obtain⟨t',rfl⟩:=ry;exact eq_int (Ic I q Um)
  |str j=>obtain⟨t',rfl⟩:=ry;exact PySem.EqMixed.eq_int_str (Ic I q (by simp))
  |_=>exact absurd (show false=true from hs) AX
 |str i =>
  obtain⟨t,rfl⟩:=rx
  cases y with
  |non=>cases ry;exact PySem.EqNone.eq_str_none (Ic I q (by simp))
  |bl j=>cases ry;exact PySem.EqMixed.eq_str_bool (Ic I q (by simp))
  |int j=>obtain⟨t',rfl⟩:=ry;exact PySem.EqMixed.eq_str_int (Ic I q (by simp))
  |str j=>obtain⟨t',rfl⟩:=ry;exact eq_str (Ic I q Sj)
  |_=>exact absurd (show false=true from hs) AX
 |byt i =>
  obtain⟨t,rfl⟩:=rx
  cases y with
  |byt j=>obtain⟨t',rfl⟩:=ry;exact W.eq_bytes (Ic I q Tv)
  |_=>exact absurd (show false=true from hs) AX
 |_=>cases y<;>exact absurd (show false=true from hs) AX
theorem Mq:IX X (compareOp .NotEq) vB:=by
 intro Fj s σ H x y v u Q I rx ry h
 obtain⟨hs,q⟩:=h
 cases x with
 |non =>
  cases rx
  cases y with
  |non=>cases ry;exact PySem.EqNone.ne_none_none (Ic I q (by simp))
  |bl j=>cases ry;exact PySem.EqNone.ne_none_bool (Ic I q (by simp))
  |int j=>obtain⟨t',rfl⟩:=ry;exact PySem.EqNone.ne_none_int (Ic I q (by simp))
  |str j=>obtain⟨t',rfl⟩:=ry;exact PySem.EqNone.ne_none_str (Ic I q (by simp))
  |_=>exact absurd (show false=true from hs) AX
 |bl i =>
  cases rx
  cases y with
  |non=>cases ry;exact PySem.EqNone.ne_bool_none (Ic I q (by simp))
  |bl j=>cases ry;exact ne_bool (Ic I q (congrArg not Uh))
  |str j=>obtain⟨t',rfl⟩:=ry;exact PySem.EqMixed.ne_bool_str (Ic I q (by simp))
  |_=>exact absurd (show false=true from hs) AX
 |int i =>
  obtain⟨t,rfl⟩:=rx
  cases y with
  |non=>cases ry;exact PySem.EqNone.ne_int_none (Ic I q (by simp))
  |int j=>obtain⟨t',rfl⟩:=ry;exact ne_int (Ic I q (congrArg not Um))
  |str j=>obtain⟨t',rfl⟩:=ry;exact PySem.EqMixed.ne_int_str (Ic I q (by simp))
  |_=>exact absurd (show false=true from hs) AX
 |str i =>
  obtain⟨t,rfl⟩:=rx
  cases y with
  |non=>cases ry;exact PySem.EqNone.ne_str_none (Ic I q (by simp))
  |bl j=>cases ry;exact PySem.EqMixed.ne_str_bool (Ic I q (by simp))
  |int j=>obtain⟨t',rfl⟩:=ry;exact PySem.EqMixed.ne_str_int (Ic I q (by simp))
  |str j=>obtain⟨t',rfl⟩:=ry;exact ne_str (Ic I q (congrArg not Sj))
  |_=>exact absurd (show false=true from hs) AX
 |byt i =>
  obtain⟨t,rfl⟩:=rx
  cases y with
  |byt j=>obtain⟨t',rfl⟩:=ry;exact W.ne_bytes (Ic I q (congrArg not Tv))
  |_=>exact absurd (show false=true from hs) AX
 |_=>cases y<;>exact absurd (show false=true from hs) AX
theorem Pb:IX X (compareOp .Lt) (NY λi j=>.bl (decide (i<j))):=Mp λ_ _ _ _ _ _ _ q=>lt_int q
theorem OX:IX X (compareOp .LtE) (NY λi j=>.bl (decide (i<=j))):=Mp λ_ _ _ _ _ _ _ q=>le_int q
theorem PM:IX X (compareOp .Gt) (NY λi j=>.bl (decide (j<i))):=Mp λ_ _ _ _ _ _ _ q=>gt_int q
theorem fG:IX X (compareOp .GtE) (NY λi j=>.bl (decide (j<=i))):=Mp λ_ _ _ _ _ _ _ q=>ge_int q
theorem ZK:IX X (compareOp .Is) (λx y H Q=>y=.non/\Q (.bl (decide (x=.non))) H):=by
 intro Fj s σ H x y v u Q I rx ry h
 obtain⟨rfl,q⟩:=h
 cases ry
 refine is_none_gen (Ic I q ?_)
 cases x<;>first
  |(cases rx;rfl)
  |(obtain⟨t,rfl⟩:=rx;rfl)
theorem cK:IX X (compareOp .IsNot) (λx y H Q=>y=.non/\Q (.bl (!decide (x=.non))) H):=by
 intro Fj s σ H x y v u Q I rx ry h
 obtain⟨rfl,q⟩:=h
 cases ry
 refine isnot_none_gen (Ic I q ?_)
 cases x<;>first
  |(cases rx;rfl)
  |(obtain⟨t,rfl⟩:=rx;rfl)
theorem IX.or{f:wN->wN->Sem wN}{r r':R2}(h:IX X f r)(h':IX X f r'):IX X f (λx y H Q=>r x y H Q∨r' x y H Q):=by
 intro Fj s σ H x y v u Q I rx ry q
 rcases q with q|q
 ·exact h Fj s σ H x y v u Q I rx ry q
 ·exact h' Fj s σ H x y v u Q I rx ry q
theorem IE(b:Expr){op:CmpOp}(h:op≠.In:=by decide)(h2:op≠.NotIn:=by decide):behindInMarks op b=false:=by
 have e1:(op==CmpOp.In)=false:=by cases op<;>first|rfl|exact absurd rfl h
 have e2:(op==CmpOp.NotIn)=false:=by cases op<;>first|rfl|exact absurd rfl h2
 cases b<;>simp [behindInMarks,e1,e2]
theorem QS{op:CmpOp}{r:R2}(ho:IX X (compareOp op) r)(ha:PE X a ta)(hb:PE X b tb)(hm:behindInMarks op b=false):PE X (.Compare a [op] [b] pos) (Pq r ta tb):=by
 intro Fj s σ H Q I h
 exact wpAny_Compare1 (OZ ha hb I h λv u s2 x y H2 I2 rx ry q=>ho Fj s2 σ H2 x y v u Q I2 rx ry q) hm
def jH(t:TE):TT:=λσ H Q=>t σ H λx H'=>∃k,x=.bl k/\Q k H'
theorem II{op:CmpOp}{r:R2}(ho:IX X (compareOp op) r)(ha:PE X a ta)(hb:PE X b tb)(hm:behindInMarks op b=false):PT X (.Compare a [op] [b] pos) (jH (Pq r ta tb)):=by
 intro Fj s σ H Q I h
 refine GQ (HZ (ha Fj s σ H _ I h) λv s1 ⟨x,H1,I1,r1,q1⟩=>HZ (hb Fj s1 σ H1 _ I1 q1) λu s2 ⟨y,H2,I2,r2,q2⟩ =>
  HZ (ho Fj s2 σ H2 x y v u _ I2 r1 r2 q2) λc s3 ⟨z,H3,I3,r3,k,e,q3⟩=>?_) hm
 subst e
 cases r3
 exact CY ⟨H3,I3,q3⟩
theorem N8:(sizeLine:Nat)<2^63:=by rw[Fi];decide
theorem K5{x:V}{us:wC}(r:HF [x] us):∃u,us=[u]/\HE x u:=by
 cases r with
 |cons r1 r2=>cases r2;exact⟨_,rfl,r1⟩
theorem Mv{x y:V}{us:wC}(r:HF [x,y] us):∃u w',us=[u,w']/\HE x u/\HE y w':=by
 cases r with
 |cons r1 r2 =>
  cases r2 with
  |cons r3 r4=>cases r4;exact⟨_,_,rfl,r1,r3⟩
theorem Yy:ID X (.builtin "abs") (λxs H Q=>∃i,xs=[.int i]/\Q (.int (if i<0 then -i else i)) H):=by
 intro Fj s σ H xs us Q I r h
 obtain⟨i,rfl,q⟩:=h
 obtain⟨u,rfl,t,rfl⟩:=K5 r
 exact call_abs_int λu tk=>⟨.int (if i<0 then -i else i),H,I.tok _,⟨_,rfl⟩,q⟩
theorem Qa(hc:X.calm=true):ID X (.builtin "min") (λxs H Q=>∃i j,xs=[.int i,.int j]/\Q (.int (if j<i then j else i)) H):=by
 intro Fj s σ H xs us Q I r h
 obtain⟨i,j,rfl,q⟩:=h
 obtain⟨u,w',rfl,⟨t,rfl⟩,⟨t',rfl⟩⟩:=Mv r
 refine min_two_ints (I.ok.hd hc) λh' tk k=>⟨_,H,I.kept k,?_,q⟩
 by_cases hj:j<i
 ·rw[AF hj,AF hj];exact⟨_,rfl⟩
 ·rw[AD hj,AD hj];exact⟨_,rfl⟩
end
structure RH(h:Heap)(x dx C:wO)(mA:Str->wI):Prop where
 obj:h.get? x=some (W.instObj C dx)
 ns:h.Ns1 dx mA
 ne:dx≠x
theorem RI{h:Heap}{dx:wO}{mA:Str->wI}(n:h.Ns1 dx mA):∃od,h.get? dx=some od/\∀name,W.lookIn name od=some (mA name):=by
 obtain⟨o,es,ep,ho,hd,hk,_,hm⟩:=n
 refine⟨o,ho,λname=>?_⟩
 have e:=hm name
 unfold nsFind findBy at e
 rw[<-Array.find?_toList]at e
 unfold W.lookIn
 rw[hd]
 dsimp only
 split
 ·rename_i y q
  rw[q]at e
  exact congrArg some e
 ·rename_i q
  rw[q]at e
  have a:es.toList.any (·.refKey)=false:=by
   rw[List.any_eq_false]
   intro y hy
   obtain⟨z,t,hkey⟩:=hk y (Array.mem_toList_iff.mp hy)
   simp [DictEntry.refKey,hkey]
  have a':¬ es.toList.any (·.refKey)=true:=by rw[a];exact AX
  rw[AD a']
  exact congrArg some e
theorem RH.look{h:Heap}{x dx C:wO}{mA:Str->wI}(I:RH h x dx C mA):∃od,W.InstAt h x (W.instObj C dx) C (some od)/\∀name,W.lookIn name od=some (mA name) :=
 let ⟨od,ho,hl⟩:=RI I.ns
 ⟨od,⟨I.obj,rfl,rfl,ho⟩,hl⟩
noncomputable def LU(f:Str)(v:V):List (Str×V)->List (Str×V)
 |[]=>[(f,v)]
 |(g,x)::r=>if g=f then (g,v)::r else (g,x)::LU f v r
theorem qZ(f g:Str)(v:V):∀fs:List (Str×V),(LU f v fs).lookup g=if g=f then some v else fs.lookup g
 |[]=>by
  show List.lookup g [(f,v)]=_
  by_cases h:g=f
  ·have hb:(g==f)=true:=beq_iff_eq.mpr h
   simp only[List.lookup,hb,AF h]
  ·have hb:(g==f)=false:=beq_eq_false_iff_ne.mpr h
   simp only[List.lookup,hb,AD h]
 |(k,x)::r=>by
  have ih:=qZ f g v r
  rw[show LU f v ((k,x)::r)=(if k=f then (k,v)::r else (k,x)::LU f v r) from rfl]
  by_cases hk:k=f
  ·rw[AF hk]
   by_cases h:g=k
   ·have hb:(g==k)=true:=beq_iff_eq.mpr h
    simp only[List.lookup,hb,AF (h.trans hk)]
   ·have hb:(g==k)=false:=beq_eq_false_iff_ne.mpr h
    simp only[List.lookup,hb,AD (λe:g=f=>h (e.trans hk.symm))]
  ·rw[AD hk]
   by_cases h:g=k
   ·have hb:(g==k)=true:=beq_iff_eq.mpr h
    simp only[List.lookup,hb,AD (λe:g=f=>hk (h.symm.trans e))]
   ·have hb:(g==k)=false:=beq_eq_false_iff_ne.mpr h
    simp only[List.lookup,hb]
    exact ih
theorem pI(f:Str)(v:V):∀fs:List (Str×V),f∈(LU f v fs).map (·.1)/\∀g,g∈fs.map (·.1)->g∈(LU f v fs).map (·.1)
 |[]=>⟨by simp [LU],λg h=>by simp at h⟩
 |(k,x)::r=>by
  obtain⟨i1,i2⟩:=pI f v r
  rw[show LU f v ((k,x)::r)=(if k=f then (k,v)::r else (k,x)::LU f v r) from rfl]
  by_cases hk:k=f
  ·rw[AF hk]
   subst hk
   exact⟨by simp,λg h=>by simpa using h⟩
  ·rw[AD hk]
   refine⟨?_,λg h=>?_⟩
   ·rw[An]
    exact AM _ i1
   ·rw[An]at h ⊢
    rcases AN.mp h with e|e
    ·exact AN.mpr (.inl e)
    ·exact AM _ (i2 g e)
theorem IY.some_of{v:V}{o:wI}(r:IY (some v) o):∃u,o=some u/\HE v u:=by
 cases o with
 |none=>exact(show False from r).elim
 |some u=>exact⟨u,rfl,r⟩
theorem Zu{v:V}{u:wN}(r:HE v u):W.handedIn u=true:=by
 cases v with
 |non=>cases(show u=Value.none from r);rfl
 |bl b=>cases(show u=Value.bool b from r);rfl
 |int i=>obtain⟨t,e⟩:=(show ∃t,u=Value.int i t from r);cases e;rfl
 |str x=>obtain⟨t,e⟩:=(show ∃t,u=Value.str x t from r);cases e;rfl
 |byt b=>obtain⟨t,e⟩:=(show ∃t,u=Value.bytes b t from r);cases e;rfl
 |flt b=>obtain⟨t,e⟩:=(show ∃t,u=Value.float b t from r);cases e;rfl
 |ref a=>cases(show u=Value.ref a from r);rfl
 |ty n=>cases(show u=Value.type n from r);rfl
structure aA(K:wL)(C:wO):Prop where
 pg:W.plainGet K C Str.empty=true
 hd:W.hasDictIn K C=true
 po:W.plainOver K C=true
 sa:W.findIn K (.ref C) "__setattr__" = some (some (.builtin "object.__setattr__"))
theorem aA.get{K:wL}{C:wO}(c:aA K C)(f:Str):W.plainGet K C f=true:=c.pg
structure wA(K:wL)(C:wO)(f:Str)(v:V)(u:wN):Prop where
 at_:W.findIn K (.ref C) f=some (some u)
 rel:HE v u
 get:W.specialIn K u "__get__" = some none
 cp:W.copiedNames.contains f=false
structure vT(K:wL)(C:wO)(m:Str)(f:wO):Prop where
 at_:W.findIn K (.ref C) m=some (some (.ref f))
 fn:W.isFn K (.ref f)=true
 kp:W.keepIn K (.ref f)=true
section
variable{X:Cx}{Fj:wF}{σ:St}{H:Hp}{s:wM}{a C dx:wO}{fs:List (Str×V)}{f:Str}{v:V}{A:Around}{E:wD}
theorem Inv.made(I:Inv X Fj σ H s):Inv X Fj σ (Gw (Gw H s.heap.objs.size (.own (s.heap.objs.size+1))) (s.heap.objs.size+1) (.ins C s.heap.objs.size []))
  { s with heap:=(s.heap.push W.emptyDict).push (W.instObj C s.heap.objs.size) }:=by
 have e1:(s.heap.push W.emptyDict).get? s.heap.objs.size=some W.emptyDict:=AU s.heap rfl
 have e2:((s.heap.push W.emptyDict).push (W.instObj C s.heap.objs.size)).get? (s.heap.objs.size+1)=some (W.instObj C s.heap.objs.size):=by
  have:=AU (s.heap.push W.emptyDict) (o:=W.instObj C s.heap.objs.size) rfl
  rwa [CA]at this
 have e3:(s.heap.push W.emptyDict).Ns s.heap.objs.size (λ_=>none):=⟨W.emptyDict,#[],_,e1,rfl,(λe he=>absurd he (by simp)),λ_=>rfl⟩
 have I1:=I.laid (a:=s.heap.objs.size) (o:=.own (s.heap.objs.size+1)) (h':=s.heap.push W.emptyDict) (t':=s.toks) (λb u q=>AC _ q) (AG _) ⟨_,e1⟩
 refine I1.laid (a:=s.heap.objs.size+1) (o:=.ins C s.heap.objs.size []) (t':=s.toks) (λb u q=>AC _ q) (Nat.le_of_eq (CA _ _)) ?_
 have ne:s.heap.objs.size≠s.heap.objs.size+1:=As (E5 _)
 refine⟨by rw[Hf ne,Gu],Ax _,ne,e2,λ_=>none,(Heap.Ns1.of_empty e3).at λo q=>AC _ q,λ_=>True.intro,λy hy=>absurd rfl hy⟩
theorem Xm{prog:wP}{w:wQ}{env:Env}{e:Expr}{f:Str}{pos:Pos}{s:wM}{Q:wD}(hb:attributeBase e f env (eval e env)=eval e env)
  (h:wpAny (model prog w) A (eval e env) (λo s₁=>wpAny (model prog w) A (getAttr o f true) Q E s₁) E s):wpAny (model prog w) A (eval (.Attribute e f pos) env) Q E s :=
 Attribute_any_ h (by rw[arm_eval_Attribute,hb])
end
section
variable{X:Cx}{Fj:wF}{σ:St}{H:Hp}{s:wM}{A:Around}{E:wD}{Q:wD}{c:wN}{b:Bool}
inductive JM (K:wL) (H:Hp):V->wN->Prop where
 |non:JM K H .non (.type "NoneType")
 |bl (x:Bool):JM K H (.bl x) (.type "bool")
 |int (i:Int):JM K H (.int i) (.type "int")
 |str (x:Str):JM K H (.str x) (.type "str")
 |flt (x:UInt64):JM K H (.flt x) (.type "float")
 |lst {a:wO} {xs:List V} (e:H a=some (.lst xs)):JM K H (.ref a) (.type "list")
 |frz {a:wO} {o:Obj} {xs:List V} (e:H a=some (.frz o (.lst xs))):JM K H (.ref a) (.type "list")
 |tup {a:wO} {xs:List V} (e:H a=some (.tup xs)):JM K H (.ref a) (.type "tuple")
 |dK {a:wO} {kvs:List (Ht×V)} (e:H a=some (.dK kvs)):JM K H (.ref a) (.type "dict")
 |dT {a:wO} {kvs:List (List Ht×V)} (e:H a=some (.dT kvs)):JM K H (.ref a) (.type "dict")
 |ins {a C dx:wO} {fs:List (Str×V)} (e:H a=some (.ins C dx fs)) (cl:aA K C) (ha:W.findIn K (.ref C) "__class__" = some (some (.builtin "object.__class__")))
   (hn:W.specialIn K (.builtin "object.__class__") "__get__" = some (some (.builtin "getset_descriptor.__get__"))) (htk:W.takesIn K (.builtin "object.__class__")=some true)
   (hm:W.mroIn K C (.type "object")=some true):JM K H (.ref a) (.ref C)
end
structure Hq(k:Nat)(A:Around):Prop where
 hd:A.handled=none
 dp:A.depth+3*k+5<recursionLimit
 un:A.units+16*k+200<cLine
theorem Hq.mono{j k:Nat}{A:Around}(r:Hq k A)(h:j<=k):Hq j A:=⟨r.hd,by have:=r.dp;lia,by have:=r.un;lia⟩
theorem Hq.deeper{k:Nat}{A:Around}(r:Hq (k+1) A)(env:Env):Hq k (A.deeper env) :=
 ⟨r.hd,by have:=r.dp;show A.depth+1+3*k+5<_;lia,by have:=r.un;show A.units+3+16*k+200<_;lia⟩
theorem Hq.in1{k:Nat}{A:Around}(r:Hq (k+1) A):Hq k A.in1 :=
 ⟨r.hd,by have:=r.dp;show A.depth+3*k+5<_;lia,by have:=r.un;show A.units+1+16*k+200<_;lia⟩
theorem ZI{A:Around}{C:wO}{us:wC}{kw:List (Str×wN)}:(A.under (.builtin "type.__call__" ⟨.ref C::us,kw⟩)).depth=A.depth+1:=by
 first|rfl|simp [Around.under,Code.weight,Code.isCreation,Code.isGuard,Code.isCaller,Code.frames,Code.isFrame,guardIds]
theorem dO{A:Around}{C:wO}{us:wC}{kw:List (Str×wN)}:(A.under (.builtin "type.__call__" ⟨.ref C::us,kw⟩)).units=A.units+1:=by
 first|rfl|simp [Around.under,Code.cUnits,Code.frames,Code.isFrame]
theorem Hq.make{k:Nat}{A:Around}(r:Hq (k+1) A)(C:wO)(us:wC)(kw:List (Str×wN)):Hq k (A.under (.builtin "type.__call__" ⟨.ref C::us,kw⟩)) :=
 ⟨r.hd,by have:=r.dp;rw[ZI];lia,by have:=r.un;rw[dO];lia⟩
theorem Hq.depth{k:Nat}{A:Around}(r:Hq k A):A.depth<recursionLimit:=by have:=r.dp;lia
theorem Hq.units{k:Nat}{A:Around}(r:Hq k A):A.units+64<cLine:=by have:=r.un;lia
def YF:TA:=λ_ H Q=>Q [] H
def UW(ta:TE)(tr:TA):TA:=λσ H Q=>ta σ H λx H1=>tr σ H1 λxs H2=>Q (x::xs) H2
section
variable{X:Cx}{e:Expr}{es:wJ}{te:TE}{t:TA}{pos:Pos}
theorem Gk:PA X [] YF:=λ_ _ _ _ H Q I h=>Calls.spliced_nil ⟨[],H,I,.nil,h⟩
theorem Ge(ha:PE X e te)(hr:PA X es t)(hs:starEach (e::es) X.env=(false,eval e X.env)::starEach es X.env:=by rfl):PA X (e::es) (UW te t):=by
 intro pos Fj s σ H Q I h
 rw[hs]
 show wpAny _ _ (spliced ((false,eval e X.env)::backTo pos (starEach es X.env))) _ _ s
 refine DB (HZ (ha Fj s σ H _ I h) λu s1 ⟨x,H1,I1,r1,q1⟩=>?_)
 exact HZ (hr pos Fj s1 σ H1 _ I1 q1) λus s2 ⟨xs,H2,I2,r2,q2⟩=>⟨x::xs,H2,I2,.cons r1 r2,q2⟩
def ZW(t:TA):TE:=λσ H Q=>t σ H λxs H1=>xs.length<=sizeLine/\∀p,H1 p=none->Q (.ref p) (Gw H1 p (.tup xs))
def S4(t:TA):TE:=λσ H Q=>t σ H λxs H1=>xs.length<=sizeLine/\∀p,H1 p=none->Q (.ref p) (Gw H1 p (.lst xs))
theorem Hd{x1}(h:PA X es t):PE X (.Tuple es x1 pos) (ZW t):=by
 intro Fj s σ H Q I hq
 refine wpAny_Tuple_spliced (HZ (h pos Fj s σ H _ I hq) λus s1 ⟨xs,H1,I1,r,z,q⟩=>⟨by rw[<-r.length];exact z,?_⟩)
 have hf:H1 s1.heap.objs.size=none:=I1.hok.fresh (AG _)
 refine⟨.ref s1.heap.objs.size,Gw H1 s1.heap.objs.size (.tup xs),I1.laid (t':=s1.toks) (λb u e=>AC _ e) (AG _) ?_,rfl,q _ hf⟩
 exact⟨z,us,r,⟨_,AU _ rfl,rfl,_,rfl,rfl⟩⟩
theorem IC(h:PA X es t):PE X (.List es pos) (S4 t):=by
 intro Fj s σ H Q I hq
 refine wpAny_List_spliced (HZ (h pos Fj s σ H _ I hq) λus s1 ⟨xs,H1,I1,r,z,q⟩=>⟨by rw[<-r.length];exact z,?_⟩)
 have hf:H1 s1.heap.objs.size=none:=I1.hok.fresh (AG _)
 refine⟨.ref s1.heap.objs.size,Gw H1 s1.heap.objs.size (.lst xs),I1.laid (t':=s1.toks) (λb u e=>AC _ e) (AG _) ?_,rfl,q _ hf⟩
 exact⟨z,us,0,r,AU _ rfl⟩
end
abbrev Sp:=List V->Hp->VK->XK->Prop
abbrev Jy:=List Env->Hp->wM->XK->wN->wM->Prop
structure JT(P:wP)(w:wQ)(K:wL)(mg:Str->wI)(base:Heap)(A:Around)(outer:List Env)(s:wM)(H:Hp):Prop where
 frames:A.frames=some outer
 mod:Mod K mg base
 bs:∀b o,base.get? b=some o->s.heap.get? b=some o/\H b=none
 bsz:base.objs.size<=s.heap.objs.size
 funs:s.heap.FunFrames base outer
 frf:∀b∈IZ outer,H b=none
 hok:IU P w H s.heap
 bare:AllBare s.gens
def CE(outer:List Env)(P:wP)(w:wQ)(H:Hp)(s:wM)(Q:VK)(u:wN)(s':wM):Prop :=
 ∃v H',s'.os=s.os/\AllBare s'.gens/\Un (IZ outer) [] H H' s.heap s'.heap/\IU P w H' s'.heap/\HE v u/\Q v H'
def CR(CX:Jy)(outer:List Env)(P:wP)(w:wQ)(H:Hp)(s:wM)(Q:VK)(E:XK)(r:Result)(s':wM):Prop :=
 match r with
 |.ok (.ret u)=>CE outer P w H s Q u s'
 |.ok _=>False
 |.error e=>CX outer H s E e s'
structure Gx(P:wP)(w:wQ)(K:wL)(mg:Str->wI)(base:Heap)(CX:Jy)(k:Nat)(f:wO)(fd:wR)(ps:wG)(sp:Sp):Prop where
 len:∀vs H Q E,sp vs H Q E->vs.length=ps.length
 run:∀(A:Around)(outer:List Env)(s:wM)(H:Hp)(args:Args)(us:wC)(vs:List V)(Q:VK)(E:XK),Hq k A->JT P w K mg base A outer s H->BindsTo s fd args (ps.zip us)->HF vs us->sp vs H Q E ->
  codeAny (model P w) A (.call (.ref f) args) (CR CX outer P w H s Q E) s
theorem Gx.mono{P:wP}{w:wQ}{K:wL}{mg:Str->wI}{base:Heap}{CX:Jy}{j k:Nat}{f:wO}{fd:wR}{ps:wG}{sp:Sp}(F:Gx P w K mg base CX j f fd ps sp)(h:j<=k) :
  Gx P w K mg base CX k f fd ps sp:=⟨F.len,λA outer s H args us vs Q E hr=>F.run A outer s H args us vs Q E (hr.mono h)⟩
theorem Gx.imp{P:wP}{w:wQ}{K:wL}{mg:Str->wI}{base:Heap}{CX:Jy}{k:Nat}{f:wO}{fd:wR}{ps:wG}{sp sp':Sp}(F:Gx P w K mg base CX k f fd ps sp)
  (h:∀vs H Q E,sp' vs H Q E->sp vs H Q E):Gx P w K mg base CX k f fd ps sp' :=
 ⟨λvs H Q E q=>F.len vs H Q E (h _ _ _ _ q),λA outer s H args us vs Q E hr he hb hv hs=>F.run A outer s H args us vs Q E hr he hb hv (h _ _ _ _ hs)⟩
theorem JT.make{P:wP}{w:wQ}{K:wL}{mg:Str->wI}{base:Heap}{A:Around}{outer:List Env}{s:wM}{H:Hp}(e:JT P w K mg base A outer s H)(C:wO)(us:wC)(kw:List (Str×wN)) :
  JT P w K mg base (A.under (.builtin "type.__call__" ⟨.ref C::us,kw⟩)) outer s H:=⟨by first|exact e.frames|(simpa [Around.under,Code.envs,Code.isFrame,pushEnvs]using e.frames),e.mod,e.bs,e.bsz,e.funs,e.frf,e.hok,e.bare⟩
theorem JT.in1{P:wP}{w:wQ}{K:wL}{mg:Str->wI}{base:Heap}{A:Around}{outer:List Env}{s:wM}{H:Hp}(e:JT P w K mg base A outer s H) :
  JT P w K mg base A.in1 outer s H:=⟨e.frames,e.mod,e.bs,e.bsz,e.funs,e.frf,e.hok,e.bare⟩
section
variable{X:Cx}{Fj:wF}{σ:St}{H:Hp}{s s':wM}
theorem Inv.env0(I:Inv X Fj σ H s):JT X.prog X.w X.K X.mg X.base X.A X.stack s H :=
 ⟨I.ok.frames,I.ok.mod,I.bs,A9 I.ok.bsz I.sz,I.stack,I.stkFree,I.hok,I.bare⟩
theorem Inv.after{Q:VK}{u:wN}(I:Inv X Fj σ H s)(h:CE X.stack X.prog X.w H s Q u s'):EP X Fj σ Q u s':=by
 obtain⟨v,H',os,bare,un,hok,r,q⟩:=h
 obtain⟨hh,g,d,t,os'⟩:=s'
 obtain rfl:os'=s.os:=os
 exact⟨v,H',I.call (h':=hh) (g':=g) (d':=d) (t':=t) (ch:=[]) un hok bare (λb z=>absurd z (by simp)),r,q⟩
end
def Ol(sp:Sp)(dvs:List V)(E:XK)(t:TA):TE:=λσ H Q=>t σ H λvs H1=>sp (vs++dvs) H1 Q E
def Hy(K:wL)(fd:wR)(ps:wG)(ds:wC):Prop :=
 ∀(s:wM)(us:wC),K.In s.heap->(us++ds).length=ps.length->BindsTo s fd ⟨us,[]⟩ (ps.zip (us++ds))
theorem Hy.all{K:wL}{fd:wR}{ps:wG}(h:∀us:wC,us.length=ps.length->bindArgs fd ⟨us,[]⟩=pure (ps.zip us)):Hy K fd ps []:=λs us _ hl=>by
 rw[BM]at hl ⊢
 exact .of_eq (h us hl)
def Nr(CX:Jy)(X:Cx)(E:XK):Prop:=∀(Fj:wF)(σ:St)(H:Hp)(s:wM)(e:wN)(s':wM),Inv X Fj σ H s->CX X.stack H s E e s'->X.xe e s'
section
variable{X:Cx}{CX:Jy}{k:Nat}{f C:wO}{fd:wR}{ps:wG}{sp:Sp}{dvs:List V}{ds:wC}{E:XK}{x m:Str}{p pos apos:Pos}{e o:Expr}{es:wJ}{ta:TE}{t:TA}
theorem Xw{Fj:wF}{σ:St}{H:Hp}{s:wM}{Q:VK}{us:wC}{vs:List V}(F:Gx X.prog X.w X.K X.mg X.base CX k f fd ps sp)(hr:Hq k X.A)(hb:Hy X.K fd ps ds)(hd:HF dvs ds)(hx:Nr CX X E)
  (I:Inv X Fj σ H s) (r:HF vs us) (h:sp (vs++dvs) H Q E):wpAny (model X.prog X.w) X.A (call (.ref f) us) (EP X Fj σ Q) X.xe s:=by
 have r2:HF (vs++dvs) (us++ds):=r.append hd
 have hl:(us++ds).length=ps.length:=by rw[<-r2.length];exact F.len _ _ _ _ h
 refine Ey (DS (F.run X.A X.stack s H ⟨us,[]⟩ (us++ds) (vs++dvs) Q E hr I.env0 (hb s us I.kIn hl) r2 h) λr s' hq=>?_)
 cases r with
 |error e=>exact hx Fj σ H s e s' I hq
 |ok fl =>
  cases fl with
  |ret u=>exact I.after hq
  |next=>exact False.elim hq
  |brk=>exact False.elim hq
  |cont=>exact False.elim hq
theorem Px(F:Gx X.prog X.w X.K X.mg X.base CX k f fd ps sp)(hr:Hq k X.A)(hg:Gl X x)(hm:X.mg x=some (.ref f))(hk:W.keepIn X.K (.ref f)=true)(hb:Hy X.K fd ps ds)(hd:HF dvs ds)(hx:Nr CX X E)
  (ha:PA X (e::es) t) (hdb:(x==("__debug__" : Str))=false:=by decide) (he:starEach (e::es) X.env=(false,eval e X.env)::starEach es X.env:=by rfl) (hpl:(backTo pos (starEach es X.env)).any (·.1)=false:=by rfl) :
  PE X (.Call (.Name x p) (e::es) [] pos) (Ol sp dvs E t):=by
 intro Fj s σ H Q I h
 refine BP (NZ I hg hm ?_ hdb)
 refine Ed (h₀:=X.base) I.ok.mod.kin hk (HZ (ha pos Fj s σ H _ I h) λus s1 ⟨vs,H1,I1,r,q⟩=>⟨I1.kIn,?_⟩) he hpl
 exact Xw F hr hb hd hx I1 r q
structure Mk(K:wL)(C f:wO):Prop where
 makes:W.makesIn K C=true
 init:W.findIn K (.ref C) "__init__" = some (some (.ref f))
 fn:W.isFn K (.ref f)=true
 kp:W.keepIn K (.ref C)=true
end
section
variable{X:Cx}{CX:Jy}{k:Nat}{f C:wO}{fd:wR}{ps ks:wG}{sp:Sp}{E:XK}{x m:Str}{p pos apos kpos:Pos}{e o:Expr}{es:wJ}{kws:List Keyword}{te ta:TE}{t tk:TA}{nm:Option Str}
structure aU(K:wL)(fd:wR)(ps ks:wG)(g:wC->wC->wC)(gV:List V->List V->List V):Prop where
 to:∀(s:wM)(us ws:wC),K.In s.heap->(g us ws).length=ps.length->BindsTo s fd ⟨us,ks.zip ws⟩ (ps.zip (g us ws))
 rel:∀{vs:List V}{us:wC}{zs:List V}{ws:wC},HF vs us->HF zs ws->HF (gV vs zs) (g us ws)
variable{g:wC->wC->wC}{gV:List V->List V->List V}
end
structure Gj(N P:wG)(sc:Scope):Prop where
 kind:sc.kind=.function
 co:sc.isCoroutine=false
 gen:sc.isGenerator=false
 nd:N.Nodup
 pre:N.take P.length=P
 par:∀x∈P,sc.names.lookup x=some .local∨sc.names.lookup x=some .cell
 nofree:∀y∈sc.names,y.2≠.free
theorem R7{kindOf:Str->Option wS}{x:Str}:∀{binds:List (Str×wN)}{m:Str->wI},(∀v,(x,v)∉binds)->bindL kindOf binds m x=m x
 |[],_,_=>rfl
 |(n,v)::r,m,h=>by
  unfold bindL
  rw[R7 λw hw=>h w (AM _ hw)]
  split
  ·have:x≠n:=by rintro rfl;exact h v AJ
   simp [this]
  ·rfl
theorem Us{kindOf:Str->Option wS}{x:Str}:∀{binds:List (Str×wN)}{m:Str->wI},(∀v,(x,v)∉binds)->bindC kindOf binds m x=m x
 |[],_,_=>rfl
 |(n,v)::r,m,h=>by
  unfold bindC
  rw[Us λw hw=>h w (AM _ hw)]
  split
  ·rfl
  ·have:x≠n:=by rintro rfl;exact h v AJ
   simp [this]
theorem RL{kindOf:Str->Option wS}{x:Str}{v:wN}:∀{P:wG}{vs:wC}{i:Nat}{m:Str->wI},P.Nodup->P[i]?=some x->vs[i]?=some v->kindOf x=some .local ->
  bindL kindOf (P.zip vs) m x=some v
 |[],_,_,_,_,h,_,_=>by simp at h
 |_::_,[],_,_,_,_,h,_=>by simp at h
 |p::P,w::vs,0,m,nd,h1,h2,hk=>by
  simp at h1 h2;subst h1;subst h2
  show bindL kindOf ((p,w)::P.zip vs) m p=_
  unfold bindL
  rw[R7 λv hv=>(CO.mp nd).1 (FU hv).1,AF hk]
  simp
 |p::P,w::vs,i+1,m,nd,h1,h2,hk=>by
  show bindL kindOf ((p,w)::P.zip vs) m x=_
  unfold bindL
  exact RL (i:=i) (CO.mp nd).2 (by simpa using h1) (by simpa using h2) hk
theorem So{kindOf:Str->Option wS}{x:Str}{v:wN}:∀{P:wG}{vs:wC}{i:Nat}{m:Str->wI},P.Nodup->P[i]?=some x->vs[i]?=some v->kindOf x≠some .local ->
  bindC kindOf (P.zip vs) m x=some v
 |[],_,_,_,_,h,_,_=>by simp at h
 |_::_,[],_,_,_,_,h,_=>by simp at h
 |p::P,w::vs,0,m,nd,h1,h2,hk=>by
  simp at h1 h2;subst h1;subst h2
  show bindC kindOf ((p,w)::P.zip vs) m p=_
  unfold bindC
  rw[Us λv hv=>(CO.mp nd).1 (FU hv).1,AD hk]
  simp
 |p::P,w::vs,i+1,m,nd,h1,h2,hk=>by
  show bindC kindOf ((p,w)::P.zip vs) m x=_
  unfold bindC
  exact So (i:=i) (CO.mp nd).2 (by simpa using h1) (by simpa using h2) hk
noncomputable def start(N:wG)(vs:List V):St:=vs.map some++List.replicate (N.length-vs.length) none
noncomputable def I0(CX:Jy)(P:wP)(w:wQ)(K:wL)(mg:Str->wI)(base:Heap)(N:wG)(qual:Str)(scope:Scope)(f:wO)(cd:wN)(A:Around)(outer:List Env)(s:wM)(H:Hp)(E:XK):Cx where
 prog:=P
 w:=w
 K:=K
 mg:=mg
 base:=base
 A:=A.deeper (envOfC qual scope s.heap.objs.size f cd)
 N:=N
 s₀:=s
 H₀:=H
 env:=envOfC qual scope s.heap.objs.size f cd
 outer:=outer
 stack:=envOfC qual scope s.heap.objs.size f cd::outer
 ex:=[]
 calm:=true
 fn:=λ_=>true
 pn:=[]
 xe:=λe s'=>wpAny (model P w) (A.deeper (envOfC qual scope s.heap.objs.size f cd)) (leaving (envOfC qual scope s.heap.objs.size f cd) e) (λ_ s''=>CX outer H s E e s'') (λe' s''=>CX outer H s E e' s'') s'
theorem RR{sc:Scope}{n:Nat}{x:Str}(h:sc.names.lookup x=some .cell):∃c,(cellsFrom n sc.names []).lookup x=some c:=by
 have q:=Fb sc.names n [] (.inl h)
 exact Option.isSome_iff_exists.mp q
theorem Z3{CX:Jy}{P:wP}{w:wQ}{K:wL}{mg:Str->wI}{base:Heap}{N ps:wG}{qual:Str}{scope:Scope}{f:wO}{cd:wN}{A:Around}{outer:List Env}{s s1:wM}{H:Hp}{E:XK}{us:wC}{vs:List V}
  (S:Gj N ps scope) (hd:A.handled=none) (e0:JT P w K mg base A outer s H) (hl:vs.length=ps.length) (r:HF vs us)
  (x:InCallC s s.heap.objs.size (bindL (envOfC qual scope s.heap.objs.size f cd).kindOf (ps.zip us) λ_=>none) (cellsFrom (s.heap.objs.size+1) scope.names []) (bindC (envOfC qual scope s.heap.objs.size f cd).kindOf (ps.zip us) λ_=>none) s1) :
  Inv (I0 CX P w K mg base N qual scope f cd A outer s H E) [] (start N vs) H s1:=by
 have hpl:ps.length<=N.length:=by have:=congrArg List.length S.pre;rw[Ah]at this;lia
 obtain⟨h1,tk,rfl,hk⟩:=x.done
 have noA:∀b:wO,b∉(I0 CX P w K mg base N qual scope f cd A outer s H E).ex:=λb z=>absurd (show b∈([]:wH) from z) (by simp)
 refine⟨⟨e0.mod,S.kind,rfl,rfl,AG _,λy z c h1 h2=>?_,λy hy=>?_,λy c _ h=>?_,λ_=>hd,Around.frames_deeper e0.frames,.inr ⟨rfl,rfl⟩,λb z=>absurd z (noA b),e0.bs,e0.bsz,λb _ _=>noA b,λb z=>absurd z (noA b),e0.funs,e0.frf⟩,
  rfl,e0.bare,Un.kept hk,⟨_,x.toInCall.ns,λi y v h1 h2 h3=>?_⟩,λy c h=>⟨_,x.cell y c h⟩,e0.hok.fresh (AG _),λy c h=>?_,λp hp=>absurd (show p∈([]:wF) from hp) (by simp),e0.hok.kept hk,?_⟩
 ·exact name_of_addr x.apart (C4 h1) (C4 h2)
 ·have hy:scope.names.lookup y=some .cell∨scope.names.lookup y=some .free:=hy
  rcases hy with hy|hy
  ·exact RR hy
  ·exact absurd rfl (S.nofree _ (C4 hy))
 ·exact BY (x.above y c (C4 h))
 ·have hi:i<vs.length:=by
   unfold start at h2
   by_cases hi:i<vs.length
   ·exact hi
   ·rw[DY (by simpa using hi)]at h2
    rw[List.getElem?_replicate]at h2
    split at h2<;>cases h2
  have ha:vs[i]?=some v:=by
   unfold start at h2
   rw[Dh (by simpa using hi),Al]at h2
   cases e:vs[i]? with
   |none=>rw[e]at h2;cases h2
   |some a=>rw[e]at h2;cases h2;rfl
  obtain⟨u,hu,rv⟩:=r.get ha
  have hp:ps[i]?=some y:=by
   rw[<-S.pre,E6 (by lia)];exact h1
  have ndP:ps.Nodup:=by rw[<-S.pre];exact S.nd.sublist (List.take_sublist _ _)
  refine⟨u,rv,?_⟩
  rcases S.par y (Aa hp) with k|k
  ·exact .inl ⟨k,RL ndP hp hu k⟩
  ·obtain⟨c,e⟩:=RR (n:=s.heap.objs.size+1) k
   refine .inr ⟨.inl k,c,e,?_⟩
   have q:=x.cell y c e
   rw[So ndP hp hu (by show scope.names.lookup y≠_;rw[k];decide)]at q
   exact q
 ·exact e0.hok.fresh (BY (x.above y c (C4 h)))
 ·unfold start
  show _=N.length
  rw[AI,AB,A0]
  lia
theorem VS{CX:Jy}{P:wP}{w:wQ}{K:wL}{mg:Str->wI}{base:Heap}{k:Nat}{f:wO}{name qual:Str}{params:Arguments}{body:List Stmt}{scope:Scope}{dV kV doc pm HQ ct oc:wN}{an od:Option wO}
  {osl:Array wI} {N ps:wG} {sp:Sp} (lk:K.lookup f=some ⟨oc,od,.func (W.fnOf name qual params body scope dV kV doc pm an HQ ct),osl⟩) (hcd:W.codeIn K HQ qual=true) (S:Gj N ps scope)
  (len:∀vs H Q E,sp vs H Q E->vs.length=ps.length)
  (Ip:∀(A:Around)(outer:List Env)(s:wM)(H:Hp)(vs:List V)(Q:VK)(E:XK),Hq k (A.deeper (envOfC qual scope s.heap.objs.size f HQ))->sp vs H Q E ->
   ∃t,Iw (I0 CX P w K mg base N qual scope f HQ A outer s H E) body t/\t { nx:=λ_ H'=>Q .non H',rt:=Q } (start N vs) H) :
  Gx P w K mg base CX (k+1) f (W.fnOf name qual params body scope dV kV doc pm an HQ ct) ps sp:=by
 refine⟨len,λA outer s H args us vs Q E hr e0 hb r hsp=>?_⟩
 have hl:=len _ _ _ _ hsp
 have KX:K.In s.heap:=e0.mod.kin.keeps λb o e=>(e0.bs b o e).1
 have lim:s.heap.NoLimit:=e0.mod.nolimit.keeps λb o e=>(e0.bs b o e).1
 have hkind:∀y∈ps.zip us,scope.names.lookup y.1=some .local∨(scope.names.lookup y.1=some .cell/\((cellsFrom (s.heap.objs.size+1) scope.names []).lookup y.1).isSome=true):=λ⟨n,v⟩ hy=>by
  rcases S.par n (FU hy).1 with q|q
  ·exact .inl q
  ·exact .inr ⟨q,Fb _ _ _ (.inl q)⟩
 refine codeAny_call_function hr.depth (KX _ _ lk) rfl S.co S.gen rfl (W.codeRec_of KX hcd) (hb _ _ _ _ ?_)
 refine wpAny_newFunctionEnv_cells S.kind hkind λenv he s1 x=>?_
 subst he
 refine⟨lim.keeps x.toInCall.keep,codeAny_func ?_⟩
 obtain⟨t,ht,hq⟩:=Ip A outer s H vs Q E (hr.deeper _) hsp
 have I:Inv (I0 CX P w K mg base N qual scope f HQ A outer s H E) [] (start N vs) H s1:=Z3 S hr.hd e0 hl r x
 refine BI (ht [] s1 (start N vs) H _ I hq) (λfl s' hs=>?_) λe s' hs=>hs
 have fin:∀{σ':St}{H':Hp}{v:V}{u:wN},Inv (I0 CX P w K mg base N qual scope f HQ A outer s H E) [] σ' H' s'->HE v u->Q v H'->CE outer P w H s Q u s' :=
  λ{σ' H' v u} J rv q=>⟨v,H',J.os,J.bare,J.base,J.hok,rv,q⟩
 cases fl with
 |ret u =>
  obtain⟨v,σ',H',J,rv,q⟩:=hs
  exact fin J rv q
 |next =>
  obtain⟨σ',H',J,q⟩:=hs
  exact fin (v:=V.non) (u:=Value.none) J rfl q
 |brk =>
  obtain⟨_,_,_,q⟩:=hs
  exact False.elim q
 |cont =>
  obtain⟨_,_,_,q⟩:=hs
  exact False.elim q
section
variable{X:Cx}{x:Str}{p pos:Pos}{e:Expr}{es:wJ}{t:TA}{id T:String}{r:List V->Hp->VK->Prop}
def tX(r:List V->Hp->VK->Prop)(t:TA):TE:=λσ H Q=>t σ H λvs H1=>r vs H1 Q
theorem Ia(hc:ID X (.builtin id) r)(hg:Gl X x)(hm:X.mg x=none)(hv:bootBuiltins x=some (.builtin id))(ha:PA X (e::es) t)(hn:x ≠ "__name__" := by decide)(hdb:(x==("__debug__" : Str))=false:=by decide)
  (he:starEach (e::es) X.env=(false,eval e X.env)::starEach es X.env:=by rfl) (hpl:(backTo pos (starEach es X.env)).any (·.1)=false:=by rfl):PE X (.Call (.Name x p) (e::es) [] pos) (tX r t):=by
 intro Fj s σ H Q I h
 refine BP (KI I hg hm hv ?_ hn hdb)
 exact PyProof.Rows.callWith_builtin1 (HZ (ha pos Fj s σ H _ I h) λus s1 ⟨vs,H1,I1,r1,q1⟩=>hc Fj s1 σ H1 vs us Q I1 r1 q1) he hpl
theorem NN(hc:ID X (.type T) r)(hg:Gl X x)(hm:X.mg x=none)(hv:bootBuiltins x=some (.type T))(ha:PA X (e::es) t)(hn:x ≠ "__name__" := by decide)(hdb:(x==("__debug__" : Str))=false:=by decide)
  (he:starEach (e::es) X.env=(false,eval e X.env)::starEach es X.env:=by rfl) (hpl:(backTo pos (starEach es X.env)).any (·.1)=false:=by rfl):PE X (.Call (.Name x p) (e::es) [] pos) (tX r t):=by
 intro Fj s σ H Q I h
 refine BP (KI I hg hm hv ?_ hn hdb)
 exact BK (HZ (ha pos Fj s σ H _ I h) λus s1 ⟨vs,H1,I1,r1,q1⟩=>hc Fj s1 σ H1 vs us Q I1 r1 q1) he hpl
end
end L2
namespace HT
open PySem PyProof.Rows
section
def lexLt:wB->wB->Bool
 |[],[]=>false
 |[],_::_=>true
 |_::_,[]=>false
 |x::xs,y::ys=>if x=y then lexLt xs ys else decide (x<y)
theorem lexLt_cons(x y:Int)(xs ys:wB):lexLt (x::xs) (y::ys)=if x=y then lexLt xs ys else decide (x<y):=rfl
theorem lexLt_nil_nil:lexLt [] []=false:=rfl
theorem lexLt_nil_cons(y:Int)(ys:wB):lexLt [] (y::ys)=true:=rfl
theorem lexLt_cons_nil(x:Int)(xs:wB):lexLt (x::xs) []=false:=rfl
theorem eqAt_int(A:Around)(s:wM)(a:Int)(t:Tok)(c:Int)(u:Tok):∃e,SeqAt.EqAt A s (.int a t) (.int c u) e/\(e=true↔a=c) :=
 ⟨(a==c),Ee a t c u,by simp⟩
theorem oC(A:Around)(s:wM)(a:Int)(t:Tok)(c:Int)(u:Tok)(prog:wP)(w:wQ)(E:wD)(Q:wD)(h:Q (.bool (decide (a<c))) s) :
  wpAny (model prog w) A (richCompare .Lt (.int a t) (.int c u)) Q E s :=
 (ET h:wpAny (model prog w) A (compareOp .Lt (.int a t) (.int c u)) Q E s)
section
open PySem.SeqAt
open PySem.AutoSeq1 (wpAny_loadPart')
open PySem.MeetsSeq PySem.MeetsSeq2 PySem.MeetsSeq3
theorem tuple_lt_ints(l b:wO)(items items2:wK)(n n2:Nat)(dd dd2:Option wO)(sl sl2:Array wI)(ns ms:wB)(hi:IntsAre items.toList ns)(hj:IntsAre items2.toList ms) :
  Meets (Builtin.«tuple.__lt__» ⟨[.ref l,.ref b],[]⟩)
   (λ_ R s=>s.heap.get? l=some { cls:=.type "tuple",dict:=dd,data:=.seq items n,slots:=sl }/\s.heap.get? b=some { cls:=.type "tuple",dict:=dd2,data:=.seq items2 n2,slots:=sl2 } /\
    R (.ok (.ret (.bool (lexLt ns ms)))) s) :=
 .of_wp λprog w A R s h=>by
  obtain⟨hp,g,d,tk,os⟩:=s;obtain⟨hl,hb,h⟩:=h
  have f2:=AutoSeq1.sub_tuple_tuple
  have z1:items.size=ns.length:=by rw[<-hi.length];simp
  have z2:items2.size=ms.length:=by rw[<-hj.length];simp
  wp_walk using Cs hl,Cs hb,wpAny_forIn_list _ (λHg b s'=>b.1=none/\s'=⟨hp,g,d,tk,os⟩/\∃(vs ws:wC)(ns' ms':wB),Hg=vs.zip ws /\
   IntsAre vs ns'/\IntsAre ws ms'/\ns'.length+items2.size=ms'.length+items.size/\R (.ok (.ret (.bool (lexLt ns' ms')))) ⟨hp,g,d,tk,os⟩) _
  case turn =>
   rintro⟨y,x⟩ Hg b s' ⟨hb',rfl,vs,ws,ns',ms',hz,hvi,hwi,Ha,hR⟩
   cases hvi with
   |nil=>rw[List.zip_nil_left]at hz;cases hz
   |cons a t hvi' =>
    cases hwi with
    |nil=>rw[List.zip_nil_right]at hz;cases hz
    |cons c u hwi' =>
     rw[Dk]at hz
     injection hz with hyx hrest
     injection hyx with hy hx
     subst hy hx
     rw[lexLt_cons]at hR
     simp only[Aj]at Ha
     obtain⟨e,he,hiff⟩:=eqAt_int A.in1 ⟨hp,g,d,tk,os⟩ a t c u
     refine AA (he prog w _ _ ?_)
     cases e with
     |true =>
      rw[AF (hiff.mp rfl)]at hR
      wp_walk
      exact⟨rfl,rfl,_,_,_,_,hrest,hvi',hwi',by lia,hR⟩
     |false =>
      rw[AD (λq=>absurd (hiff.mpr q) AX)]at hR
      have hri:=oC A.in1 ⟨hp,g,d,tk,os⟩ a t c u prog w
      wp_walk using hri
      exact⟨_,rfl,by simpa using hR⟩
  case fin =>
   rintro⟨b1,b2⟩ s' ⟨hb',rfl,vs,ws,ns',ms',hz,hvi,hwi,Ha,hR⟩
   simp only at hb'
   subst hb'
   have hv:lexLt ns' ms'=decide (items.size<items2.size):=by
    cases hvi with
    |nil =>
     cases hwi with
     |nil =>
      simp only[Cp]at Ha
      rw[lexLt_nil_nil]
      exact(AO (by lia)).symm
     |cons c u hw =>
      simp only[Cp,Aj]at Ha
      rw[lexLt_nil_cons]
      exact(Ab (by lia)).symm
    |cons a t hv =>
     cases hwi with
     |nil =>
      simp only[Cp,Aj]at Ha
      rw[lexLt_cons_nil]
      exact(AO (by lia)).symm
     |cons c u hw =>
      rw[Dk]at hz
      cases hz
   rw[hv]at hR
   wp_walk
   exact⟨_,rfl,by simpa [Builtin.Tuple.tupleCompareSizes]using hR⟩
  case h =>
   exact⟨rfl,rfl,items.toList,items2.toList,ns,ms,rfl,hi,hj,by lia,h⟩
end
section
variable{prog:wP}{w:wQ}{A:Around}{E:wD}{s:wM}
theorem lt_tupInts{l b:wO}{items items2:wK}{ns ms:wB}{Q:wD}(hl:IsTup s.heap l items)(hb:IsTup s.heap b items2)(hi:IntsAre items.toList ns)(hj:IntsAre items2.toList ms)
  (hu:A.units<cLine) (h:Q (.bool (lexLt ns ms)) s):wpAny (model prog w) A (compareOp .Lt (.ref l) (.ref b)) Q E s:=by
 obtain⟨⟨cls,dd,data,sl⟩,ho,hc,n,hd⟩:=id hl
 obtain⟨⟨cls2,dd2,data2,sl2⟩,ho2,hc2,n2,hd2⟩:=id hb
 simp only at hc hd hc2 hd2
 subst hc hd hc2 hd2
 exact richCompare_meets_room (op:=.Lt) ⟨_,ho,rfl⟩ ⟨_,ho2,rfl⟩ ED Fc (FL _ _) (tuple_lt_ints l b items items2 n n2 dd dd2 sl sl2 ns ms hi hj)
  ⟨ho,ho2,show Value.bool (lexLt ns ms)≠Value.notImplemented/\Q (.bool (lexLt ns ms)) s from⟨(λx=>nomatch x),h⟩⟩ hu
theorem cat_tup{t b:wO}{vs ws:wC}{Q:wD}(ht:IsTup s.heap t vs.toArray)(hb:IsTup s.heap b ws.toArray)(hv:vs≠[])
  (h1:ws=[]->Q (.ref t) s) (h2:ws≠[]->Q (.ref s.heap.objs.size) { s with heap:=s.heap.push { cls:=.type "tuple",data:=.seq (vs++ws).toArray } })
  (hsz:vs.length+ws.length<=sizeLine):wpAny (model prog w) A (binaryOp .Add (.ref t) (.ref b)) Q E s:=by
 obtain⟨⟨cls,dd,data,sl⟩,ho,hc,n,hd⟩:=id ht
 obtain⟨⟨cls2,dd2,data2,sl2⟩,ho2,hc2,n2,hd2⟩:=id hb
 simp only at hc hd hc2 hd2
 subst hc hd hc2 hd2
 have e:vs.toArray++ws.toArray=(vs++ws).toArray:=by simp
 by_cases hw:ws=[]
 ·exact HC ⟨_,ho,rfl⟩ ⟨_,ho2,rfl⟩ FJ Gr D6 Dx (Dl _ _)
   (tuple_addW1 t b vs.toArray ws.toArray n n2 dd dd2 sl sl2 (by simpa using hv) (by simp [hw])) ⟨ho,ho2,h1 hw⟩
 ·refine HC ⟨_,ho,rfl⟩ ⟨_,ho2,rfl⟩ FJ Gr D6 Dx (Dl _ _)
   (tuple_addW2 t b vs.toArray ws.toArray n n2 dd dd2 sl sl2 (by simpa using hv) (by simpa using hw) (by rw[Am,Am];exact hsz)) ⟨ho,ho2,?_⟩
  rw[e]
  exact h2 hw
noncomputable def sIx(n d:Nat):Option Int->Nat
 |none=>d
 |some v=>if v<0 then (v+(n:Int)).toNat else min v.toNat n
theorem sIx_none(n d:Nat):sIx n d none=d:=rfl
theorem sIx_nat(n d k:Nat):sIx n d (some (k:Int))=min k n:=by
 show(if (k:Int)<0 then ((k:Int)+(n:Int)).toNat else min (k:Int).toNat n)=min k n
 rw[AD (by lia),Af]
theorem oF(n d:Nat)(hd:d<=n)(o:Option Int):sIx n d o<=n:=by
 cases o with
 |none=>exact hd
 |some v =>
  show(if v<0 then (v+(n:Int)).toNat else min v.toNat n)<=n
  by_cases hv:v<0
  ·rw[AF hv];lia
  ·rw[AD hv];exact Nat.min_le_right _ _
theorem Ql(v:Int)(n d:Nat):(if v<0 then max (v+(n:Int)) 0 else min v (n:Int))=((sIx n d (some v):Nat):Int):=by
 show(if v<0 then max (v+(n:Int)) 0 else min v (n:Int))=(((if v<0 then (v+(n:Int)).toNat else min v.toNat n):Nat):Int)
 by_cases hv:v<0
 ·simp only[AF hv];lia
 ·simp only[AD hv];lia
theorem Zw(lo hi:Option Int)(n:Nat):Builtin.Slice.sliceAdjust lo hi 1 (n:Int)=(((sIx n 0 lo:Nat):Int),((sIx n n hi:Nat):Int)):=by
 have h1:¬ ((1:Int)<0):=by lia
 unfold Builtin.Slice.sliceAdjust
 simp only[h1,Bi]
 refine E7 ?_ ?_
 ·cases lo with
  |none=>rfl
  |some v=>exact Ql v n 0
 ·cases hi with
  |none=>rfl
  |some v=>exact Ql v n n
theorem XG(i j:Nat):Builtin.Slice.slicePlaces (i:Int) (j:Int) 1=j-i:=by
 unfold Builtin.Slice.slicePlaces
 have h1:(1:Int)>0:=by lia
 simp only[h1,CD,EG]
 split<;>lia
theorem tI{v:wN}{o:Option Int}{Q:Option Int->wM->Prop}(p:IsPart v o)(h:Q o s):wpAny (model prog w) A (Builtin.Slice.slicePartIndex v) Q E s:=by
 cases p with
 |none=>exact slicePart_none h
 |int i t=>exact slicePart_int h
theorem sliceApplied_gen{sl:wO}{vl vu:wN}{lo hi:Option Int}{n:Nat}{Q:Int×Int×Nat->wM->Prop}(hs:s.heap.IsSliceOf sl vl vu .none)(pl:IsPart vl lo)(pu:IsPart vu hi)
  (h:Q (((sIx n 0 lo:Nat):Int),1,sIx n n hi-sIx n 0 lo) s):wpAny (model prog w) A (Builtin.Slice.sliceApplied (.ref sl) (pure (n:Int))) Q E s:=by
 obtain⟨os,hos,hcs,hds⟩:=id hs
 unfold Builtin.Slice.sliceApplied Builtin.Slice.sliceFields
 refine AA (AA (BG hos hds (x:=vl) rfl (AA (BG hos hds (x:=vu) rfl (AA (BG hos hds (x:=.none) rfl (AE ?_)))))))
 refine AA (slicePart_none ?_)
 show wpAny _ _ (if ((1:Int)==0)=true then _ else _) _ _ s
 rw[AD (by decide)]
 refine AA (tI pl (AA (tI pu (AA (AE ?_)))))
 show wpAny _ _ (match Builtin.Slice.sliceAdjust lo hi 1 (n:Int) with|(lo,hi)=>pure (lo,(1:Int),Builtin.Slice.slicePlaces lo hi 1)) _ _ s
 rw[Zw lo hi n]
 show wpAny _ _ (pure (((sIx n 0 lo:Nat):Int),(1:Int),Builtin.Slice.slicePlaces ((sIx n 0 lo:Nat):Int) ((sIx n n hi:Nat):Int) 1)) _ _ s
 rw[XG]
 exact AE h
theorem oA(xs:wK)(i k:Nat):((List.range k).filterMap λ(m:Nat)=>xs[((i:Int)+(m:Int)*1).toNat]?).toArray=((xs.toList.drop i).take k).toArray:=by
 have e:(λ(m:Nat)=>xs[((i:Int)+(m:Int)*1).toNat]?)=λm=>xs[i+m]?:=by
  funext m
  have:((i:Int)+(m:Int)*1).toNat=i+m:=by lia
  rw[this]
 rw[e]
 have:=pick_run xs i k
 rw[List.filterMap_map]at this
 have e2:((λx=>xs[x]?) ∘ λx=>i+x)=λm=>xs[i+m]?:=rfl
 rw[e2]at this
 rw[this]
theorem getItem_tuple_cut{t sl:wO}{items:wK}{vl vu:wN}{lo hi:Option Int}{Q:wD}(ht:IsTup s.heap t items)(hs:s.heap.IsSliceOf sl vl vu .none)(pl:IsPart vl lo)(pu:IsPart vu hi)
  (hw:¬ (sIx items.size 0 lo=0/\sIx items.size items.size hi=items.size))
  (h:Q (.ref s.heap.objs.size) { s with heap:=s.heap.push { cls:=.type "tuple",data:=.seq ((items.toList.drop (sIx items.size 0 lo)).take (sIx items.size items.size hi-sIx items.size 0 lo)).toArray } })
  (hsz:items.size<=sizeLine):wpAny (model prog w) A (getItem (.ref t) (.ref sl)) Q E s:=by
 have htake:sizeOk (.seq ((items.toList.drop (sIx items.size 0 lo)).take (sIx items.size items.size hi-sIx items.size 0 lo)).toArray):=by
  show((items.toList.drop (sIx items.size 0 lo)).take (sIx items.size items.size hi-sIx items.size 0 lo)).toArray.size<=sizeLine
  rw[Am,Ah,BC,AR]
  lia
 have hj:sIx items.size items.size hi<=items.size:=oF _ _ (AG _) hi
 obtain⟨os,hos,hcs,hds⟩:=id hs
 have hTs:s.TypeIs (.ref sl) "slice" := ⟨os,hos,hcs⟩
 unfold getItem
 try with_reducible refine Cu ?_
 first|refine AA (AE ?_)|skip
 refine AA (wpAny_sequenceKey ht.typeIs (by decide) ?_)
 refine AA (BU (name:=Str.ofString "__getitem__") ht.typeIs Bh
  (Bb Bh ht.typeIs entry_tuple_getitem ?_ (args_tuple_getitem _ _)))
 show wpAny _ _ (Builtin.Tuple.tupleItemsOf (.ref t)>>=_) _ _ s
 refine AA (tupleItemsOf_ ht ?_)
 refine AA (HD hTs ?_)
 rw[AF (by decide)]
 refine AA (sliceApplied_gen hs pl pu ?_)
 have hno:¬ ((((sIx items.size 0 lo:Nat):Int)==0&&(1:Int)==1&&(sIx items.size items.size hi-sIx items.size 0 lo)==items.size)=true):=by
  intro q
  rw[AK,AK]at q
  have q1:((sIx items.size 0 lo:Nat):Int)=0:=eq_of_beq q.1.1
  have q2:sIx items.size items.size hi-sIx items.size 0 lo=items.size:=eq_of_beq q.2
  exact hw ⟨by lia,by lia⟩
 show wpAny _ _ (if (((sIx items.size 0 lo:Nat):Int)==0&&(1:Int)==1&&(sIx items.size items.size hi-sIx items.size 0 lo)==items.size)=true then _ else _) _ _ s
 rw[AD hno,oA]
 first
  |exact AA (m:=Builtin.Tuple.tupleExact _) (BF (AE ⟨_,rfl,AE h⟩) htake)
  |exact AA (m:=Builtin.Tuple.tupleExact _) (BF (AA (AE (AE ⟨_,rfl,AE h⟩))) htake)
  |exact AA (AA (m:=Builtin.Tuple.tupleExact _) (BF (AE (AE ⟨_,rfl,AE h⟩)) htake))
  |exact AA (AA (m:=Builtin.Tuple.tupleExact _) (BF (AE ⟨_,rfl,AE h⟩) htake))
end
end
end HT
namespace L2
open PySem PySem.Spec PyProof.Rows
abbrev TO:=St->Hp->(Option Int->Hp->Prop)->Prop
def PO(X:Cx)(e:Option Expr)(t:TO):Prop :=
 ∀(Fj:wF)(s:wM)(σ:St)(H:Hp)(Q:Option Int->Hp->Prop),Inv X Fj σ H s->t σ H Q ->
  wpAny (model X.prog X.w) X.A (evalPart e X.env) (λu s'=>∃o H',Inv X Fj σ H' s'/\IsPart u o/\Q o H') X.xe s
def iJ:TO:=λ_ H Q=>Q none H
def Ys(t:TE):TO:=λσ H Q=>t σ H λx H1=>∃i,x=.int i/\Q (some i) H1
theorem LR{ns:wB}:∀{us:wC},HF (ns.map V.int) us->IntsAre us ns:=by
 induction ns with
 |nil=>intro us r;rw[DN]at r;cases r;exact .nil
 |cons n ns ih =>
  intro us r
  rw[An]at r
  cases r with
  |cons r1 r2 =>
   obtain⟨t,e⟩:=r1
   subst e
   exact .cons n t (ih r2)
section
variable{X:Cx}{e:Expr}{te:TE}{lo hi:Option Expr}{tl th:TO}{pos p2:Pos}
theorem Mh:PO X none iJ:=by
 intro Fj s σ H Q I h
 rw[evalPart_none]
 exact AE ⟨none,H,I,.none,h⟩
theorem NA(h:PE X e te):PO X (some e) (Ys te):=by
 intro Fj s σ H Q I hw
 rw[evalPart_some]
 refine HZ (h Fj s σ H _ I hw) λu s1 ⟨x,H1,I1,r1,q1⟩=>?_
 obtain⟨i,rfl,q⟩:=q1
 obtain⟨t,rfl⟩:=r1
 exact⟨some i,H1,I1,.int i t,q⟩
def Lo(X:Cx)(r:V->Option Int->Option Int->Hp->VK->Prop):Prop :=
 ∀(Fj:wF)(s:wM)(σ:St)(H:Hp)(x:V)(v vl vu:wN)(lo hi:Option Int)(sl:wO)(Q:VK),Inv X Fj σ H s->HE x v->s.heap.IsSliceOf sl vl vu .none->IsPart vl lo->IsPart vu hi->r x lo hi H Q ->
  ∃T id,typeLookup (.type T) "__getitem__" = pure (some (.builtin id))/\s.TypeIs v T/\wpAny (model X.prog X.w) X.A (getItem v (.ref sl)) (EP X Fj σ Q) X.xe s
theorem Lo.or{r r':V->Option Int->Option Int->Hp->VK->Prop}(h:Lo X r)(h':Lo X r'):Lo X (λx lo hi H Q=>r x lo hi H Q∨r' x lo hi H Q):=by
 intro Fj s σ H x v vl vu lo hi sl Q I rx hs pl pu q
 rcases q with q|q
 ·exact h Fj s σ H x v vl vu lo hi sl Q I rx hs pl pu q
 ·exact h' Fj s σ H x v vl vu lo hi sl Q I rx hs pl pu q
def vQ(r:V->Option Int->Option Int->Hp->VK->Prop)(te:TE)(tl th:TO):TE:=λσ H Q=>te σ H λx H1=>tl σ H1 λl H2=>th σ H2 λu H3=>r x l u H3 Q
theorem NB{r:V->Option Int->Option Int->Hp->VK->Prop}(hr:Lo X r)(he:PE X e te)(hl:PO X lo tl)(hu:PO X hi th):PE X (.Subscript e (.Slice lo hi none p2) pos) (vQ r te tl th):=by
 intro Fj s σ H Q I h
 refine Subscript_ (HZ (he Fj s σ H _ I h) λv s1 ⟨x,H1,I1,r1,q1⟩=>?_)
 refine wpAny_Slice (HZ (hl Fj s1 σ H1 _ I1 q1) λvl s2 ⟨l,H2,I2,pl,q2⟩=>HZ (hu Fj s2 σ H2 _ I2 q2) λvu s3 ⟨u,H3,I3,pu,q3⟩=>?_)
 rw[evalPart_none]
 refine AE ?_
 have I4:Inv X Fj σ H3 { s3 with heap:=s3.heap.push { cls:=.type "slice",data:=.fields #[vl,vu,.none] } }:=I3.kept (t':=s3.toks) λb ob q=>AC _ q
 obtain⟨T,id,hT,ht,hg⟩:=hr Fj { s3 with heap:=s3.heap.push { cls:=.type "slice",data:=.fields #[vl,vu,.none] } } σ H3 x v vl vu l u s3.heap.objs.size Q I4 r1 (Heap.IsSliceOf.new ..) pl pu q3
 show wpAny (model X.prog X.w) X.A (subscriptTail e (.Slice lo hi none p2) v (.ref s3.heap.objs.size)) (EP X Fj σ Q) X.xe { s3 with heap:=s3.heap.push { cls:=.type "slice",data:=.fields #[vl,vu,.none] } }
 exact tail_any (ops:=[.ref s3.heap.objs.size,v]) ht hT hg (by with_unfolding_all rfl)
noncomputable def K3(xs:List V)(lo hi:Option Int):List V:=(xs.drop (HT.sIx xs.length 0 lo)).take (HT.sIx xs.length xs.length hi-HT.sIx xs.length 0 lo)
theorem qY(xs:List V)(lo hi:Option Int):(K3 xs lo hi).length<=xs.length:=by
 unfold K3
 rw[Ah,BC]
 lia
def fF(K:wL):V->Option Int->Option Int->Hp->VK->Prop:=λx lo hi H Q=>∃a xs,x=.ref a/\HK K H a xs /\
 ¬ (HT.sIx xs.length 0 lo=0/\HT.sIx xs.length xs.length hi=xs.length)/\∀p,H p=none->Q (.ref p) (Gw H p (.tup (K3 xs lo hi)))
theorem TK:Lo X (fF X.K):=by
 intro Fj s σ H x v vl vu lo hi sl Q I rx hs pl pu h
 obtain⟨a,xs,rfl,hx,hw,q⟩:=h
 cases rx
 obtain⟨its,r,ht,hz⟩:=I.tuple hx
 have Ha:its.toArray.size=xs.length:=by rw[Am];exact r.length.symm
 refine⟨"tuple",_,Bh.lookup,ht.typeIs,?_⟩
 refine HT.getItem_tuple_cut ht hs pl pu (by rw[Ha];exact hw) ?_ (by rw[Ha];exact hz)
 rw[Ha]
 refine⟨.ref s.heap.objs.size,_,I.laid (t':=s.toks) (o:=.tup (K3 xs lo hi)) (λb ob q=>AC _ q) (AG _) ?_,rfl,q _ (I.hok.fresh (AG _))⟩
 exact⟨A9 (qY xs lo hi) hz,_,(r.drop (HT.sIx xs.length 0 lo)).take (HT.sIx xs.length xs.length hi-HT.sIx xs.length 0 lo),JZ.new _ _⟩
def Zt(K:wL):R2:=λx y H Q=>∃a b xs ys,x=.ref a/\y=.ref b/\HK K H a xs/\HK K H b ys/\xs≠[]/\xs.length+ys.length<=sizeLine /\
 (ys=[]->Q (.ref a) H)/\(ys≠[]->∀p,H p=none->Q (.ref p) (Gw H p (.tup (xs++ys))))
theorem HF.nil_iff{xs:List V}{us:wC}(r:HF xs us):us=[]↔xs=[]:=by
 cases r with
 |nil=>simp
 |cons _ _=>simp
theorem Ux:IX X (binaryOp .Add) (Zt X.K):=by
 intro Fj s σ H x y v u Q I rx ry h
 obtain⟨a,b,xs,ys,rfl,rfl,ha,hb,hx,hz,q1,q2⟩:=h
 cases rx
 cases ry
 obtain⟨its,r1,p1,_⟩:=I.tuple ha
 obtain⟨its2,r2,p2,_⟩:=I.tuple hb
 refine HT.cat_tup p1 p2 (λz=>hx (r1.nil_iff.mp z)) (λz=>⟨.ref a,H,I,rfl,q1 (r2.nil_iff.mp z)⟩) (λz=>?_) (by rw[<-r1.length,<-r2.length];exact hz)
 refine⟨.ref s.heap.objs.size,_,I.laid (t':=s.toks) (o:=.tup (xs++ys)) (λb ob q=>AC _ q) (AG _) ?_,rfl,q2 (λw=>z (r2.nil_iff.mpr w)) _ (I.hok.fresh (AG _))⟩
 exact⟨by rw[AI];exact hz,_,r1.append r2,JZ.new _ _⟩
end
noncomputable def O1(n:Nat)(i:Int):Option Nat:=if 0<=i then (if i<n then some i.toNat else none) else if -(n:Int)<=i then some (i+n).toNat else none
noncomputable def J6{α:Type}(xs:List α)(i:Int):Option α:=(O1 xs.length i).bind λj=>xs[j]?
theorem XF{n:Nat}{i:Int}{j:Nat}(h:O1 n i=some j):seqIndex? i n=some j/\j<n/\-(n:Int)<=i/\i<n:=by
 unfold O1 at h
 by_cases h0:0<=i
 ·rw[AF h0]at h
  by_cases h1:i<n
  ·rw[AF h1]at h
   have e:i.toNat=j:=Ap h
   exact⟨by rw[seqIndex_of h0 h1,e],by lia,by lia,h1⟩
  ·rw[AD h1]at h;cases h
 ·rw[AD h0]at h
  by_cases h1:-(n:Int)<=i
  ·rw[AF h1]at h
   have e:(i+n).toNat=j:=Ap h
   exact⟨by rw[seqIndex_neg (by lia) h1,e],by lia,h1,by lia⟩
  ·rw[AD h1]at h;cases h
theorem VD{α:Type}{xs:List α}{i:Int}{v:α}(h:J6 xs i=some v):∃j,seqIndex? i xs.length=some j/\xs[j]?=some v/\j<xs.length/\-(xs.length:Int)<=i/\i<xs.length:=by
 unfold J6 at h
 cases e:O1 xs.length i with
 |none=>rw[e]at h;cases h
 |some j =>
  rw[e]at h
  obtain⟨h1,h2,h3,h4⟩:=XF e
  exact⟨j,h1,h,h2,h3,h4⟩
theorem KH{α:Type}{xs:List α}{j:Nat}{v:α}(h:xs[j]?=some v):J6 xs (j:Int)=some v:=by
 have hj:j<xs.length:=(Ae.mp h).1
 have e:O1 xs.length (j:Int)=some j:=by
  unfold O1
  rw[AF (by lia),AF (by lia)];simp
 unfold J6;rw[e];exact h
def bJ(b:Expr):Prop:=∀o i,subscripted b false o i=operate [o,i] (getItem o i)
def O8(X:Cx)(r:R2):Prop :=
 ∀(value slice:Expr)(Fj:wF)(s:wM)(σ:St)(H:Hp)(x y:V)(v u:wN)(Q:VK),Inv X Fj σ H s->HE x v->HE y u->r x y H Q ->
  subscripted slice false v u=operate [v,u] (getItem v u)->wpAny (model X.prog X.w) X.A (subscriptTail value slice v u) (EP X Fj σ Q) X.xe s
def Q4(X:Cx)(id:String)(r:V->List V->Hp->VK->Prop):Prop :=
 ∀(Fj:wF)(s:wM)(σ:St)(H:Hp)(x:V)(xs:List V)(v:wN)(us:wC)(Q:VK),Inv X Fj σ H s->HE x v->HF xs us->r x xs H Q ->
  wpAny (model X.prog X.w) X.A (call (.builtin id) (v::us)) (EP X Fj σ Q) X.xe s
section
variable{X:Cx}{a b:Expr}{ta tb:TE}{pos:Pos}
theorem O8.or{r r':R2}(h:O8 X r)(h':O8 X r'):O8 X (λx y H Q=>r x y H Q∨r' x y H Q):=by
 intro value slice Fj s σ H x y v u Q I rx ry q hs
 rcases q with q|q
 ·exact h value slice Fj s σ H x y v u Q I rx ry q hs
 ·exact h' value slice Fj s σ H x y v u Q I rx ry q hs
theorem Q4.or{id:String}{r r':V->List V->Hp->VK->Prop}(h:Q4 X id r)(h':Q4 X id r'):Q4 X id (λx xs H Q=>r x xs H Q∨r' x xs H Q):=by
 intro Fj s σ H x xs v us Q I rx rs q
 rcases q with q|q
 ·exact h Fj s σ H x xs v us Q I rx rs q
 ·exact h' Fj s σ H x xs v us Q I rx rs q
theorem Ix{r:R2}(hr:O8 X r)(ha:PE X a ta)(hb:PE X b tb)(hs:bJ b):PE X (.Subscript a b pos) (Pq r ta tb):=by
 intro Fj s σ H Q I h
 exact Subscript_ (OZ ha hb I h λv u s2 x y H2 I2 rx ry q=>hr a b Fj s2 σ H2 x y v u Q I2 rx ry q (hs _ _))
def OS(K:wL):R2:=λx y H Q=>∃p xs i v,x=.ref p/\y=.int i/\HJ K H p xs/\J6 xs i=some v/\Q v H
def Y3(K:wL):R2:=λx y H Q=>∃p xs i v,x=.ref p/\y=.int i/\HK K H p xs/\J6 xs i=some v/\Q v H
theorem Kh:O8 X (OS X.K):=by
 intro value slice Fj s σ H x y v u Q I rx ry h hs
 obtain⟨p,xs,i,z,rfl,rfl,hq,he,q⟩:=h
 cases rx
 obtain⟨t,rfl⟩:=ry
 obtain⟨its,r,pl,hz⟩:=I.list hq
 obtain⟨j,h1,h2,h3,h4,h5⟩:=VD he
 obtain⟨w,ew,rw'⟩:=r.get h2
 have hl:=r.length
 have hn:=N8
 have fin:EP X Fj σ Q w s:=⟨z,H,I,rw',q⟩
 by_cases h0:0<=i
 ·have hj:i.toNat=j:=by
   rw[seqIndex_of h0 h5]at h1
   exact Ap h1
  exact item_listR pl.isList h0 (by lia) (by rw[hj];simpa using ew) fin hs
 ·have hj:(i+(its.toArray.size:Int)).toNat=j:=by
   rw[seqIndex_neg (by lia) h4]at h1
   rw[Am,<-hl]
   exact Ap h1
  exact subscriptTail_builtinR (x:=w) pl.isList.typeIs slot_list_getitem.lookup
   (wpAny_getItem_list_neg (Q:=λr s'=>r=w/\EP X Fj σ Q r s') pl.isList (by lia) (by rw[Am]<;>lia) (by lia) (by rw[hj];simpa using ew) ⟨rfl,fin⟩) hs
theorem Ks:O8 X (Y3 X.K):=by
 intro value slice Fj s σ H x y v u Q I rx ry h hs
 obtain⟨p,xs,i,z,rfl,rfl,hq,he,q⟩:=h
 cases rx
 obtain⟨t,rfl⟩:=ry
 obtain⟨its,r,pl,hz⟩:=I.tuple hq
 obtain⟨j,h1,h2,h3,h4,h5⟩:=VD he
 obtain⟨w,ew,rw'⟩:=r.get h2
 have hl:=r.length
 have hn:=N8
 have fin:EP X Fj σ Q w s:=⟨z,H,I,rw',q⟩
 exact subscriptTail_builtinR (x:=w) pl.typeIs slot_tuple_getitem.lookup
  (getItem_tuple (j:=j) (Q:=λr s'=>r=w/\EP X Fj σ Q r s') pl (by lia) (by lia) (by rw[Am,<-hl];exact h1) (by simpa using ew) ⟨rfl,fin⟩) hs
theorem Inv.lst{Fj:wF}{σ:St}{H:Hp}{s:wM}{p:wO}{xs:List V}(I:Inv X Fj σ H s)(h:H p=some (.lst xs)) :
  ∃(its:wC)(n:Nat),HF xs its/\s.heap.get? p=some { cls:=.type "list",data:=.seq its.toArray n }/\xs.length<=sizeLine:=by
 obtain⟨z,its,n,r,e⟩:=I.hok p _ h
 exact⟨its,n,r,e,z⟩
theorem gO(lo hi:Option Int)(n:Nat):(sliceBounds lo hi none n).1=((HT.sIx n 0 lo:Nat):Int)/\(sliceBounds lo hi none n).2.1=((HT.sIx n n hi:Nat):Int)/\(sliceBounds lo hi none n).2.2=1:=by
 refine⟨?_,?_,rfl⟩
 ·cases lo with
  |none=>simp [sliceBounds,HT.sIx]
  |some i =>
   simp only[sliceBounds,HT.sIx,Option.getD_none,show(1:Int)>0 by decide,CD]
   by_cases h:i<0
   ·simp only[h,CD]<;>lia
   ·simp only[h,Bi]<;>lia
 ·cases hi with
  |none=>simp [sliceBounds,HT.sIx]
  |some i =>
   simp only[sliceBounds,HT.sIx,Option.getD_none,show(1:Int)>0 by decide,CD]
   by_cases h:i<0
   ·simp only[h,CD]<;>lia
   ·simp only[h,Bi]<;>lia
theorem gD(its:wC)(lo hi:Option Int):slicePick its.toArray lo hi none=((its.drop (HT.sIx its.length 0 lo)).take (HT.sIx its.length its.length hi-HT.sIx its.length 0 lo)).toArray:=by
 obtain⟨h1,h2,h3⟩:=gO lo hi its.toArray.size
 unfold slicePick
 rw[h1,h2,h3]
 simp only[sliceRange_one,pick_run,Am]<;>rfl
def dL(K:wL):V->Option Int->Option Int->Hp->VK->Prop:=λx lo hi H Q=>∃a xs,x=.ref a/\HJ K H a xs/\∀p,H p=none->Q (.ref p) (Gw H p (.lst (K3 xs lo hi)))
theorem uG:Lo X (dL X.K):=by
 intro Fj s σ H x v vl vu lo hi sl Q I rx hs pl pu h
 obtain⟨a,xs,rfl,hx,q⟩:=h
 cases rx
 obtain⟨its,r,ht,hz⟩:=I.list hx
 have Ha:=r.length
 refine⟨"list",_,slot_list_getitem.lookup,ht.isList.typeIs,?_⟩
 refine wpAny_getItem_list_slice ht.isList hs pl pu .none (by simp) ?_ (by rw[Am]<;>lia)
 rw[gD,<-Ha]
 refine⟨.ref s.heap.objs.size,_,I.laid (t':=s.toks) (o:=.lst (K3 xs lo hi)) (λb ob q=>AC _ q) (AG _) ?_,rfl,q _ (I.hok.fresh (AG _))⟩
 exact⟨A9 (qY xs lo hi) hz,_,0,(r.drop (HT.sIx xs.length 0 lo)).take (HT.sIx xs.length xs.length hi-HT.sIx xs.length 0 lo),AU _ rfl⟩
def Me:V->Bool
 |.non=>true
 |.bl _=>true
 |.int _=>true
 |.str _=>true
 |_=>false
noncomputable def L4:V->V->Bool
 |.non,.non=>true
 |.bl a,.bl b=>a==b
 |.bl a,.int b=>(if a then 1 else 0)==b
 |.int a,.bl b=>a==(if b then 1 else 0)
 |.int a,.int b=>a==b
 |.str a,.str b=>a==b
 |_,_=>false
theorem YV{A:Around}{s:wM}{y x:V}{u v:wN}(ry:HE y u)(rx:HE x v)(fy:Me y=true)(fx:Me x=true):SeqAt.EqAt A s u v (L4 y x):=by
 cases y with
 |non =>
  cases ry
  cases x with
  |non=>cases rx;exact FV _
  |bl b=>cases rx;exact SeqAt.EqAt.none_bool b
  |int b=>obtain⟨t,rfl⟩:=rx;exact SeqAt.EqAt.none_int b t
  |str b=>obtain⟨t,rfl⟩:=rx;exact SeqAt.EqAt.none_str b t
  |_=>exact absurd (show false=true from fx) AX
 |bl a =>
  cases ry
  cases x with
  |non=>cases rx;exact SeqAt.EqAt.bool_none a
  |bl b=>cases rx;exact SeqAt.EqAt.bool_bool a b
  |int b=>obtain⟨t,rfl⟩:=rx;exact SeqAt.EqAt.bool_int a b t
  |str b=>obtain⟨t,rfl⟩:=rx;exact SeqAt.EqAt.bool_str a b t
  |_=>exact absurd (show false=true from fx) AX
 |int a =>
  obtain⟨t',rfl⟩:=ry
  cases x with
  |non=>cases rx;exact SeqAt.EqAt.int_none a t'
  |bl b=>cases rx;exact SeqAt.EqAt.int_bool a t' b
  |int b=>obtain⟨t,rfl⟩:=rx;exact Ee a t' b t
  |str b=>obtain⟨t,rfl⟩:=rx;exact SeqAt.EqAt.int_str a t' b t
  |_=>exact absurd (show false=true from fx) AX
 |str a =>
  obtain⟨t',rfl⟩:=ry
  cases x with
  |non=>cases rx;exact SeqAt.EqAt.str_none a t'
  |bl b=>cases rx;exact SeqAt.EqAt.str_bool a t' b
  |int b=>obtain⟨t,rfl⟩:=rx;exact SeqAt.EqAt.str_int a t' b t
  |str b=>obtain⟨t,rfl⟩:=rx;exact SeqAt.EqAt.str_str a t' b t
  |_=>exact absurd (show false=true from fx) AX
 |_=>exact absurd (show false=true from fy) AX
noncomputable def KP(x:V)(u:wN):Bool:=match u with
 |.none=>L4 .non x
 |.bool b=>L4 (.bl b) x
 |.int i _=>L4 (.int i) x
 |.str z _=>L4 (.str z) x
 |_=>false
theorem Rf{x y:V}{u:wN}(r:HE y u)(f:Me y=true):KP x u=L4 y x:=by
 cases y with
 |non=>cases r;rfl
 |bl b=>cases r;rfl
 |int i=>obtain⟨t,rfl⟩:=r;rfl
 |str z=>obtain⟨t,rfl⟩:=r;rfl
 |_=>exact absurd (show false=true from f) AX
theorem Uq{x:V}:∀{xs:List V}{us:wC},HF xs us->xs.all Me=true->us.any (KP x)=xs.any λy=>L4 y x
 |_,_,.nil,_=>rfl
 |y::xs,u::us,.cons r t,f=>by
  rw[CI,AK]at f
  rw[B4,B4,Rf r f.1,Uq t f.2]
theorem R5{A:Around}{s:wM}{x:V}{v:wN}(rx:HE x v)(fx:Me x=true):∀{xs:List V}{us:wC},HF xs us->xs.all Me=true->∀u∈us,SeqAt.EqAt A s u v (KP x u)
 |_,_,.nil,_=>λu hu=>by cases hu
 |y::xs,u::us,.cons r t,f=>λu' hu=>by
  rw[CI,AK]at f
  rcases AN.mp hu with rfl|hu
  ·rw[Rf r f.1];exact YV r rx f.1 fx
  ·exact R5 rx fx t f.2 u' hu
noncomputable def QC(x:V)(xs:List V):Bool:=xs.any λy=>L4 y x
def qT(K:wL)(neg:Bool):R2:=λx y H Q=>∃p xs,y=.ref p/\(HJ K H p xs∨HK K H p xs)/\Me x=true/\xs.all Me=true/\Q (.bl (if neg then !QC x xs else QC x xs)) H
theorem Yp:IX X (compareOp .In) (qT X.K false):=by
 intro Fj s σ H x y v u Q I rx ry h
 obtain⟨p,xs,rfl,hq,fx,fs,q⟩:=h
 cases ry
 rcases hq with hq|hq
 ·obtain⟨its,r,pl,hz⟩:=I.list hq
  refine SeqAt.in_listAt (KP x) pl.isList (λw hw=>R5 rx fx r fs w (by simpa using hw)) ⟨.bl _,H,I,rfl,?_⟩
  rw[show its.toArray.any (KP x)=its.any (KP x) by simp,Uq r fs]
  exact q
 ·obtain⟨its,r,pl,hz⟩:=I.tuple hq
  refine SeqAt.in_tupleAt (KP x) pl (λw hw=>R5 rx fx r fs w (by simpa using hw)) ⟨.bl _,H,I,rfl,?_⟩
  rw[show its.toArray.any (KP x)=its.any (KP x) by simp,Uq r fs]
  exact q
theorem rY:IX X (compareOp .NotIn) (qT X.K true):=by
 intro Fj s σ H x y v u Q I rx ry h
 obtain⟨p,xs,rfl,hq,fx,fs,q⟩:=h
 cases ry
 rcases hq with hq|hq
 ·obtain⟨its,r,pl,hz⟩:=I.list hq
  refine SeqAt.notIn_listAt (KP x) pl.isList (λw hw=>R5 rx fx r fs w (by simpa using hw)) ⟨.bl _,H,I,rfl,?_⟩
  rw[show its.toArray.any (KP x)=its.any (KP x) by simp,Uq r fs]
  exact q
 ·obtain⟨its,r,pl,hz⟩:=I.tuple hq
  refine SeqAt.notIn_tupleAt (KP x) pl (λw hw=>R5 rx fx r fs w (by simpa using hw)) ⟨.bl _,H,I,rfl,?_⟩
  rw[show its.toArray.any (KP x)=its.any (KP x) by simp,Uq r fs]
  exact q
theorem K4:ID X (.builtin "len") (λxs H Q=>∃p ys,xs=[.ref p]/\(HJ X.K H p ys∨HK X.K H p ys)/\Q (.int ys.length) H):=by
 intro Fj s σ H xs us Q I r h
 obtain⟨p,ys,rfl,hq,q⟩:=h
 obtain⟨u,rfl,rx⟩:=K5 r
 cases rx
 have hn:=N8
 rcases hq with hq|hq
 ·obtain⟨its,r',pl,hz⟩:=I.list hq
  have Ha:=r'.length
  exact Calls.call_len_list pl.isList (by simp only[Am]<;>lia) ⟨.int ys.length,H,I.tok _,⟨s.toks+1,by rw[Am,Ha]⟩,q⟩
 ·obtain⟨its,r',pl,hz⟩:=I.tuple hq
  have Ha:=r'.length
  exact len_tuple pl (by simp only[Am]<;>lia) ⟨.int ys.length,H,I.tok _,⟨s.toks+1,by rw[Am,Ha]⟩,q⟩
theorem ID.or{f:wN}{r r':List V->Hp->VK->Prop}(h:ID X f r)(h':ID X f r'):ID X f (λxs H Q=>r xs H Q∨r' xs H Q):=by
 intro Fj s σ H xs us Q I rs q
 rcases q with q|q
 ·exact h Fj s σ H xs us Q I rs q
 ·exact h' Fj s σ H xs us Q I rs q
theorem oQ:ID X (.type "list") (λxs H Q=>∃p ys,xs=[.ref p]/\(HJ X.K H p ys∨HK X.K H p ys)/\∀l,H l=none->Q (.ref l) (Gw H l (.lst ys))):=by
 intro Fj s σ H xs us Q I r h
 obtain⟨p,ys,rfl,hq,q⟩:=h
 obtain⟨u,rfl,rx⟩:=K5 r
 cases rx
 have fin:∀(its:wC),HF ys its->ys.length<=sizeLine->∀(h':Heap)(c':Nat),(∀b o',s.heap.get? b=some o'->h'.get? b=some o') ->
   h'.get? s.heap.objs.size=some { cls:=.type "list",dict:=none,data:=.seq its.toArray c',slots:=#[] }->EP X Fj σ Q (.ref s.heap.objs.size) { s with heap:=h' }:=λits r' hz h' c' kp e =>
  ⟨.ref s.heap.objs.size,_,I.laid (t':=s.toks) kp (AG _) (show HR X.prog X.w _ h' _ (.lst ys) from⟨hz,its,c',r',e⟩),rfl,q _ (I.hok.fresh (AG _))⟩
 rcases hq with hq|hq
 ·obtain⟨its,r',pl,hz⟩:=I.list hq
  have Ha:=r'.length
  obtain⟨o,ho,hc,n,hd⟩:=pl.isList
  exact call_list_seq p (.inl rfl) ho hc hd (λh' c' kp e=>fin its r' hz h' c' kp e) (by simp only[Am]<;>lia)
 ·obtain⟨its,r',pl,hz⟩:=I.tuple hq
  have Ha:=r'.length
  obtain⟨o,ho,hc,n,hd⟩:=pl
  exact call_list_seq p (.inr rfl) ho hc hd (λh' c' kp e=>fin its r' hz h' c' kp e) (by simp only[Am]<;>lia)
theorem N2:ID X (.type "tuple") (λxs H Q=>∃p ys,xs=[.ref p]/\((HJ X.K H p ys/\∀l,H l=none->Q (.ref l) (Gw H l (.tup ys)))∨(HK X.K H p ys/\Q (.ref p) H))):=by
 intro Fj s σ H xs us Q I r h
 obtain⟨p,ys,rfl,h⟩:=h
 obtain⟨u,rfl,rx⟩:=K5 r
 cases rx
 rcases h with⟨hq,q⟩|⟨hq,q⟩
 ·obtain⟨its,r',pl,hz⟩:=I.list hq
  have Ha:=r'.length
  refine call_tuple_list pl.isList (λh' kp=>?_) (by simp only[Am]<;>lia)
  have I1:Inv X Fj σ H { s with heap:=h' }:=I.kept (t':=s.toks) kp
  have I2:Inv X Fj σ (Gw H h'.objs.size (.tup ys)) { s with heap:=h'.push { cls:=.type "tuple",data:=.seq its.toArray } } :=
   I1.laid (t':=s.toks) (λb o e=>AC _ e) (AG _) (show HR X.prog X.w _ _ _ (.tup ys) from⟨hz,its,r',JZ.new _ _⟩)
  exact⟨.ref h'.objs.size,_,I2,rfl,q _ (I1.hok.fresh (AG _))⟩
 ·obtain⟨its,r',pl,hz⟩:=I.tuple hq
  exact call_tuple_same pl ⟨.ref p,H,I,rfl,q⟩
def tZ(K:wL)(T:String)(x:V)(H:Hp):Prop:=match x with
 |.str _=>T = "str"
 |.int _=>T = "int"
 |.ref p=>(T = "list" /\ ∃xs,HJ K H p xs)∨(T = "tuple" /\ ∃o,K.lookup p=some o/\o.cls=.type "tuple" /\ o.dict=none) ∨
   (T = "dict" /\ ((∃kvs,H p=some (.dK kvs))∨∃kvs,H p=some (.dT kvs)))∨(T = "set" /\ ∃S n,H p=some (.set S n))
 |_=>False
theorem cS{Fj:wF}{σ:St}{H:Hp}{s:wM}{T:String}{x:V}{v:wN}(I:Inv X Fj σ H s)(r:HE x v)(ty:tZ X.K T x H) :
  s.TypeIs v T/\∀a,v=.ref a->∃ob,s.heap.get? a=some ob/\ob.dict=none:=by
 cases x with
 |str z =>
  obtain⟨t,rfl⟩:=r
  cases(show T = "str" from ty)
  exact⟨typeIs_str s z t,λ_ e=>nomatch e⟩
 |int i =>
  obtain⟨t,rfl⟩:=r
  cases(show T = "int" from ty)
  exact⟨Ez s i t,λ_ e=>nomatch e⟩
 |ref p =>
  cases r
  rcases ty with⟨rfl,xs,hq⟩|⟨rfl,o,hk,hc,hd⟩|⟨rfl,hk⟩|⟨rfl,S,n,hk⟩
  ·obtain⟨its,_,pl,_⟩:=I.list hq
   refine⟨pl.isList.typeIs,λa e=>?_⟩
   cases e
   obtain⟨o,n,e,c,hd,_⟩:=pl
   exact⟨o,e,hd⟩
  ·refine⟨⟨o,I.kIn p o hk,hc⟩,λa e=>?_⟩
   cases e
   exact⟨o,I.kIn _ o hk,hd⟩
  ·have z:∃o,s.heap.get? p=some o/\o.ExactDict:=by
    rcases hk with⟨kvs,hk⟩|⟨kvs,hk⟩
    ·obtain⟨_,_,_,_,o,_,_,e,ex,_⟩:=I.hok p _ hk
     exact⟨o,e,ex⟩
    ·obtain⟨_,_,_,_,o,_,_,e,ex,_⟩:=I.hok p _ hk
     exact⟨o,e,ex⟩
   obtain⟨o,e,ex⟩:=z
   refine⟨⟨o,e,ex.1⟩,λa e2=>?_⟩
   cases e2
   exact⟨o,e,ex.2.1⟩
  ·obtain⟨o,_,_,_,e,ex,_⟩:=I.hok p _ hk
   refine⟨⟨o,e,ex.1⟩,λa e2=>?_⟩
   cases e2
   exact⟨o,e,ex.2.1⟩
 |_=>exact False.elim ty
def vE(K:wL)(T:String)(r:V->List V->Hp->VK->Prop)(to:TE)(t:TA):TE:=λσ H Q=>to σ H λx H1=>tZ K T x H1/\t σ H1 λxs H2=>r x xs H2 Q
variable{o e:Expr}{es:wJ}{to:TE}{t:TA}{name:Str}{apos cpos:Pos}{T id:String}{r:V->List V->Hp->VK->Prop}
theorem LQ(pa:PlainAttrs T)(slot:Slot T name id)(hty:typeOf (.builtin id)=pure (.type "method_descriptor"))(hm:Q4 X id r)(ho:PE X o to)(ha:PA X (e::es) t)
  (hbase:attributeBase o name X.env (eval o X.env)=eval o X.env:=by rfl)
  (hfew:((backTo cpos (starEach (e::es) X.env)).all (λx=>!x.1)&&(backToKw cpos (keywordEach [] X.env)).all (λx=>x.1.isSome)
   && decide ((e::es).length+([]:List Keyword).length+(if ([]:List Keyword).isEmpty then 0 else 1)<30))=true:=by rfl)
  (hline:(apos.endLine==cpos.line)=true:=by rfl) (hs:starEach (e::es) X.env=(false,eval e X.env)::starEach es X.env:=by rfl) (hplain:(backTo cpos (starEach es X.env)).any (·.1)=false:=by rfl) :
  PE X (.Call (.Attribute o name apos) (e::es) [] cpos) (vE X.K T r to t):=by
 intro Fj s σ H Q I h
 refine wpAny_Call_method_late hbase hfew hline rfl (HZ (ho Fj s σ H _ I h) λv s1 ⟨x,H1,I1,r1,ty,q1⟩=>?_)
 obtain⟨h1,h2⟩:=cS I1 r1 ty
 refine⟨T,id,pa,slot,hty,h1,h2,?_⟩
 have hA:=ha cpos Fj s1 σ H1 _ I1 q1
 rw[hs]at hA ⊢
 refine DG (by show(false||(backTo cpos (starEach es X.env)).any (·.1))=false;rw[hplain]<;>rfl) (DT ?_)
 exact HZ hA λus s2 ⟨vs,H2,I2,r2,q2⟩=>hm Fj s2 σ H2 x vs v us Q I2 r1 r2 q2
end
def sV(X:Cx)(id:String)(r:V->List V->Hp->VK->Prop):Prop :=
 ∀(Fj:wF)(s:wM)(σ:St)(H:Hp)(x:V)(xs:List V)(v:wN)(us:wC)(Q:VK),Inv X Fj σ H s->HE x v->HF xs us->r x xs H Q ->
  wpAny (model X.prog X.w) X.A (call (.builtin id) (v::us)) (EP X Fj σ Q) X.xe s
theorem HF.one:∀{x:V}{us:wC},HF [x] us->∃u,us=[u]/\HE x u
 |_,_,.cons r .nil=>⟨_,rfl,r⟩
theorem HF.two:∀{x y:V}{us:wC},HF [x,y] us->∃u v,us=[u,v]/\HE x u/\HE y v
 |_,_,_,.cons r (.cons q .nil)=>⟨_,_,rfl,r,q⟩
theorem HF.reverse{xs:List V}{us:wC}(h:HF xs us):HF xs.reverse us.reverse:=by
 induction h with
 |nil=>exact .nil
 |cons r t ih=>rw[Et,Et];exact HF.append ih (.cons r .nil)
theorem HF.rep{xs:List V}{us:wC}(h:HF xs us):∀k:Nat,HF (List.replicate k xs).flatten (List.replicate k us).flatten
 |0=>.nil
 |k+1=>by
  rw[A5,A5,Bu,Bu]
  exact HF.append h (HF.rep h k)
theorem Sa(its:wC):∀(k:Nat)(acc:wC),
  List.foldl (λx1 x2=>x1++x2) acc.toArray (List.replicate k its.toArray)=(acc++(List.replicate k its).flatten).toArray
 |0,acc=>by simp
 |k+1,acc=>by
  have e:acc.toArray++its.toArray=(acc++its).toArray:=by simp
  have e2:(acc++its)++(List.replicate k its).flatten=acc++(List.replicate (k+1) its).flatten:=by
   rw[A5,Bu,Ag]
  rw[<-e2,<-Sa its k (acc++its),<-e,A5,Bm]
section
variable{X:Cx}{Fj:wF}{σ:St}{H:Hp}{s:wM}{l b:wO}{xs ys zs:List V}
theorem Inv.lset{its its':wC}{n:Nat}{f:wK->wK}{t':Nat}(I:Inv X Fj σ H s)(hH:H l=some (.lst xs))
  (e:s.heap.get? l=some { cls:=.type "list",data:=.seq its.toArray n }) (hf:f its.toArray=its'.toArray) (hv:HF ys its') (hz:ys.length<=sizeLine) :
  Inv X Fj σ (Gw H l (.lst ys)) { s with heap:=s.heap.update l (Obj.mapSeq f),toks:=t' }:=by
 have q:=PySem.IsL.update e f
 rw[hf]at q
 refine I.write (x:=l) (e:=l) (by rw[hH];exact trivial) (.inl rfl) (λb' u hb hu=>(A4 s.heap (Obj.mapSeq f) (B7 hb)).trans hu) ⟨_,q⟩ ?_
 exact⟨hz,its',_,hv,q⟩
theorem Inv.lnew{its:wC}{t':Nat}(I:Inv X Fj σ H s)(hv:HF ys its)(hz:ys.length<=sizeLine) :
  Inv X Fj σ (Gw H s.heap.objs.size (.lst ys)) { s with heap:=s.heap.push { cls:=.type "list",data:=.seq its.toArray },toks:=t' } :=
 I.laid (λ_ _ q=>AC _ q) (AG _) ⟨hz,its,0,hv,AU _ rfl⟩
theorem Inv.fresh(I:Inv X Fj σ H s):H s.heap.objs.size=none:=I.hok.fresh (AG _)
theorem Inv.lstM(I:Inv X Fj σ H s)(hH:H l=some (.lst xs)):xs.length<=sizeLine/\∃(its:wC)(n:Nat),HF xs its/\xs.length=its.length/\s.heap.get? l=some { cls:=.type "list",data:=.seq its.toArray n }:=by
 obtain⟨z,its,n,r,e⟩:=I.hok l _ hH
 exact⟨z,its,n,r,r.length,e⟩
theorem S3{n:Nat}(h:n<=sizeLine):Builtin.List.listTooLong n=false:=by
 unfold Builtin.List.listTooLong
 exact AO (by lia)
end
section
variable{X:Cx}
def VE:V->List V->Hp->VK->Prop:=λx vs H Q=>∃l xs y,x=.ref l/\vs=[y]/\H l=some (.lst xs)/\xs.length<sizeLine/\Q .non (Gw H l (.lst (xs++[y])))
theorem Lj:sV X "list.append" VE:=by
 intro Fj s σ H x vs v us Q I rx rv h
 obtain⟨l,xs,y,rfl,rfl,hH,hz,q⟩:=h
 cases rx
 obtain⟨u,rfl,ru⟩:=rv.one
 obtain⟨z,its,n,r,hl,e⟩:=I.lstM hH
 refine DE F.slot_list_append ⟨_,e,rfl⟩ F.entry_list_append (F.args_list_append_2 _ _) (PySem.list_append l its.toArray n u (by rw[Am];lia)) ⟨e,?_⟩
 refine⟨.non,_,I.lset (its':=its++[u]) hH e (by simp) (r.append (.cons ru .nil)) ?_,rfl,q⟩
 rw[AI,BA]
 lia
def jF:V->List V->Hp->VK->Prop:=λx vs H Q=>∃l b xs zs,x=.ref l/\vs=[.ref b]/\H l=some (.lst xs)/\H b=some (.lst zs)/\xs.length+zs.length<=sizeLine/\Q .non (Gw H l (.lst (xs++zs)))
theorem Ur:sV X "list.extend" jF:=by
 intro Fj s σ H x vs v us Q I rx rv h
 obtain⟨l,b,xs,zs,rfl,rfl,hH,hB,hz,q⟩:=h
 cases rx
 obtain⟨u,rfl,ru⟩:=rv.one
 cases ru
 obtain⟨z,its,n,r,hl,e⟩:=I.lstM hH
 obtain⟨z2,its2,n2,r2,hl2,e2⟩:=I.lstM hB
 have hsz:its.toArray.size+its2.toArray.size<=sizeLine:=by rw[Am,Am];lia
 have hlong:¬ (!its.toArray.isEmpty&&Builtin.List.listTooLong (its.toArray.size+its2.toArray.size))=true:=by
  rw[S3 hsz,Fp]
  exact AX
 refine DE F.slot_list_extend ⟨_,e,rfl⟩ F.entry_list_extend (F.args_list_extend_2 _ _)
  (AutoSeq1.list_extend_list_list_0 l its.toArray n b its2.toArray n2 hlong (by rw[Am];lia) (by lia)) ⟨e,e2,?_⟩
 refine⟨.non,_,I.lset (its':=its++its2) hH e (by simp) (r.append r2) ?_,rfl,q⟩
 rw[AI]
 lia
def Xx:R2:=λx y H Q=>∃l b xs zs,x=.ref l/\y=.ref b/\H l=some (.lst xs)/\H b=some (.lst zs)/\xs.length+zs.length<=sizeLine/\∀p,H p=none->Q (.ref p) (Gw H p (.lst (xs++zs)))
theorem NT:IX X (binaryOp .Add) Xx:=by
 intro Fj s σ H x y v u Q I rx ry h
 obtain⟨l,b,xs,zs,rfl,rfl,hH,hB,hz,q⟩:=h
 cases rx
 cases ry
 obtain⟨z,its,n,r,hl,e⟩:=I.lstM hH
 obtain⟨z2,its2,n2,r2,hl2,e2⟩:=I.lstM hB
 refine PySem.P.add_list e e2 ?_ (by rw[Am,Am];lia)
 have ea:its.toArray++its2.toArray=(its++its2).toArray:=by simp
 rw[ea]
 exact⟨.ref _,_,I.lnew (t':=s.toks) (r.append r2) (by rw[AI];lia),rfl,q _ I.fresh⟩
def jC:R2:=λx y H Q=>∃l k xs,x=.ref l/\y=.int k/\H l=some (.lst xs)/\-(2^63)<=k/\k<2^63/\xs.length*k.toNat<=sizeLine /\
 ∀p,H p=none->Q (.ref p) (Gw H p (.lst (List.replicate k.toNat xs).flatten))
theorem Tw{α:Type}(xs:List α)(k:Nat):(List.replicate k xs).flatten.length=k*xs.length:=by
 induction k with
 |zero=>simp
 |succ k ih=>rw[A5,Bu,AI,ih,Cz,Gz]
theorem Xi:IX X (binaryOp .Mult) jC:=by
 intro Fj s σ H x y v u Q I rx ry h
 obtain⟨l,k,xs,rfl,rfl,hH,h1,h2,hz,q⟩:=h
 cases rx
 obtain⟨t,rfl⟩:=ry
 obtain⟨z,its,n,r,hl,e⟩:=I.lstM hH
 have Ha:its.toArray.size*k.toNat<=sizeLine:=by rw[Am,<-hl];exact hz
 have hcap:¬ its.toArray.size*k.toNat>(2^63-1) / 8:=by
  have:(sizeLine:Nat)<=(2^63-1) / 8:=by decide
  lia
 have hfit:¬ (!Builtin.List.listFitsIndex k)=true:=by
  rw[fitsIndex_both h1 h2]
  exact AX
 have hlong:¬ Builtin.List.listTooLong (its.toArray.size*k.toNat)=true:=by
  rw[S3 Ha]
  exact AX
 have hnew:List.foldl (λx1 x2=>x1++x2) #[] (List.replicate (if its.toArray.isEmpty=true then 0 else k.toNat) its.toArray)=(List.replicate k.toNat its).flatten.toArray:=by
  have f0:∀m:Nat,List.foldl (λx1 x2=>x1++x2) #[] (List.replicate m its.toArray)=(List.replicate m its).flatten.toArray:=λm=>by
   have:=Sa its m []
   rw[FW]at this
   exact this
  rw[f0]
  cases its with
  |nil=>simp
  |cons a r'=>rw[AD (by simp)]
 refine E1 (T := "list") (U := "int") (by decide) ⟨_,e,rfl⟩ (λs'=>Ez s' k t) noFill_list_mul F.fills_int_mul F.slot_int_rmul repeat_list F.slot_int_index.lookup
  (DE F.slot_int_rmul (Ez s k t) F.entry_int_rmul (F.args_int_rmul_2 _ _) (int___rmul___int_list k t l its.toArray n)
   ⟨e,rfl,⟨_,e,rfl⟩,DE F.slot_list_mul ⟨_,e,rfl⟩ F.entry_list_mul (F.args_list_mul_2 _ _) (AutoListH.list___mul___list_int_3 l its.toArray n k t hfit hcap hlong) ⟨e,?_⟩⟩)
 rw[hnew]
 exact⟨.ref _,_,I.lnew (t':=s.toks) (r.rep k.toNat) (by rw[Tw,Dm];exact hz),rfl,q _ I.fresh⟩
end
end L2
namespace Att
open PySem PySem.W PySem.Calls PyProof.Rows
theorem vV{P:Params}{h:Heap}:∀(ns:wB)(vs:wC),WellAll P h vs (ns.map WData.int)->IntsAre vs ns:=by
 intro ns
 induction ns with
 |nil =>
  intro vs w
  rw[DN]at w
  cases w
  exact .nil
 |cons n ns ih =>
  intro vs w
  rw[An]at w
  cases w with
  |cons a b =>
   cases a
   exact .cons _ _ (ih _ b)
theorem ZP{l:OpenLaw}{n:Nat}(hn:l.most=some n){P:Params}{h:Heap}{args:List WData}{vals:wC}
  (hpre:l.row.toRowW.claim.pre args=true) (hwl:WellAll P h vals args) :
  ∃a vs ns,vals=[Value.ref a]/\args=[WData.list (ns.map WData.int)]/\h.get? a=some { cls:=.type "list",data:=.seq vs.toArray }/\IntsAre vs ns/\ns.length<=n:=by
 have hsh:WShape.hasAll [] args [.list .int]=true:=(pre_splitW hpre).1
 have hc:l.pre.holds [] { args:=args }=true:=(pre_splitW hpre).2
 obtain⟨d,r,rfl,h1,h2⟩:=hasAllW_cons hsh
 obtain rfl:=hasAllW_nil h2
 obtain⟨xs,rfl,h3⟩:=hasW_list h1
 obtain⟨ns,rfl⟩:=items_int h3
 have Ha:ns.length<=n:=by
  unfold OpenLaw.pre at hc
  have h4:(WTm.not (.lt (.lit (.int (n:Int))) (.len (.arg 0)))).holds [] { args:=[.list (ns.map .int)] }=true:=by
   have h4:=(holds_andW hc).1
   rw[hn]at h4
   exact h4
  have h5:=condW_of h4 (w_not (w_lt w_lit (w_len_list (w_arg rfl))))
  rw[AB]at h5
  refine Nat.le_of_not_lt λq=>?_
  have q':(n:Int)<((ns.length:Nat):Int):=by lia
  first
   |(rw[Ab q']at h5;exact absurd h5 (by decide))
   |(simp at h5;lia)
 cases hwl with
 |cons w1 w2 =>
  cases w2
  cases w1 with
  |list ho hall=>exact⟨_,_,ns,rfl,rfl,ho,vV ns _ hall,Ha⟩
theorem iY(l:OpenLaw)(args:List WData):l.row.toRowW.claim.post args (.bool true) args=true :=
 postW_of (r:=l.row.toRowW) (X:=(true==true))
  (show WShape.has [] (.bool true) .bool=true by first|rfl|decide|simp [WShape.has,WShape.arms,WShape.armsAll])
  (show(WTm.eq .res (.lit (.bool true))).value [] { args:=args,res:=some (.bool true),after:=args }=some (.bool (true==true)) from w_eq_bool (w_res rfl) w_lit) rfl
theorem attach_call{l:OpenLaw}{n:Nat}{q:wP}{loose:wG}{XP:(Str->wI)->Heap->Prop}{YP:wQ->Heap->Prop}{d:DefRec}
  (hn:l.most=some n) (hdf:d.params.defaults=[])
  (call:∀(w:wQ)(s₀ s₁:wM)(mg mb:Str->wI)(fa:wO)(o:Obj)(pm cd doc:wN)(a:wO)(vs:wC)(ns:wB),
   Ground q loose [] XP w s₀ mg mb s₁.heap->YP w s₁.heap ->
   s₁.heap.get? fa=some o->o.data=.func (docDef d.name d.params d.body d.scope pm cd doc)->s₁.heap.CodeRec cd d.name->mg d.name=some (.ref fa) ->
   s₁.heap.get? a=some { cls:=.type "list",data:=.seq vs.toArray }->IntsAre vs ns->ns.length<=n->s₁.gens=#[] ->
   codeAny (model l.prog w) callerA (.call (.ref fa) ⟨[.ref a],[]⟩) (λr s'=>r=.ok (.ret (.bool true))/\OldK s₁.heap s'.heap/\s'.os=s₁.os/\AllBare s'.gens) s₁) :
  WalkO q loose XP YP l.row.toRowW d [] (λf vs=>PySem.call f vs):=by
 intro w s₀ s₁ mg mb G Y fa o pm cd doc dV kV ho hd hcd hD hmg hg args vals as hpre hlay hrd hwl hlo
 obtain rfl:dV=.none:=Dflts.none hD hdf
 obtain rfl:kV=.none:=Dflts.noKw hD
 obtain⟨a,vs,ns,rfl,rfl,hobj,hints,Ha⟩:=ZP hn hpre hwl
 refine enter_call (DS (call w s₀ s₁ mg mb fa o pm cd doc a vs ns G Y ho (fd_plain hd) hcd hmg hobj hints Ha hg) λr s' hq=>?_)
 obtain⟨rfl,h2,h3,h4⟩:=hq
 exact⟨.inl ⟨.bool true,.bool true,[],rfl,λ_=>rfl,.bool true,iY l _,λ_=>⟨List.Pairwise.nil,λ_ hm=>(nomatch hm)⟩⟩,h2,h3,h4⟩
section
variable{prog:wP}{w:wQ}{A:Around}{E:wD}{s:wM}{K:Frag}
noncomputable def vH(h:Heap)(L d:wO):wF:=(List.range h.objs.size).filterMap λa=>if a=L∨a=d then none else (h.get? a).map λo=>(a,o)
end
end Att
namespace L2
open PySem PySem.Spec PyProof.Rows
theorem Qh:∀{vs:wC}{ns:wB},IntsAre vs ns->HF (ns.map V.int) vs
 |_,_,.nil=>.nil
 |_,_,.cons n t h=>.cons ⟨t,rfl⟩ (Qh h)
def PK(H:Hp):Prop:=∀b,H b=none∨∃o xs,H b=some (.frz o (.lst xs))
theorem Z6{P:wP}{w:wQ}{K:wL}{mg mb:Str->wI}{CX:Jy}{k:Nat}{fa a:wO}{fd:wR}{x:Str}{sp:Sp}{s₁:wM}{vs:wC}{ns:wB}
  (KX:K.In s₁.heap) (hns:s₁.heap.Ns mainGlobals mg) (hb:s₁.heap.Ns builtinsNs mb) (hbb:∀x:Str,x ≠ "__name__" -> mb x=bootBuiltins x) (hlim:s₁.heap.NoLimit) (hg:s₁.gens=#[])
  (ha:s₁.heap.get? a=some { cls:=.type "list",data:=.seq vs.toArray }) (hi:IntsAre vs ns) (hl:ns.length<=sizeLine) (hr:Hq k callerA)
  (F:∀base:Heap,K.In base->base.Ns mainGlobals mg->Gx P w K mg base CX k fa fd [x] sp) (hbind:∀(s:wM)(u:wN),BindsTo s fd ⟨[u],[]⟩ [(x,u)])
  (hsp:∀H:Hp,PK H->HJ K H a (ns.map V.int)->sp [.ref a] H (λv _=>v=.bl true) λ_ _ _=>False)
  (hCX:∀H e s',CX [] H s₁ (λ_ _ _=>False) e s'->False) :
  codeAny (model P w) callerA (.call (.ref fa) ⟨[.ref a],[]⟩) (λr s'=>r=.ok (.ret (.bool true))/\OldK s₁.heap s'.heap/\s'.os=s₁.os/\AllBare s'.gens) s₁:=by
 have rv:=Qh hi
 have lenV:=hi.length
 have core:∀H:Hp,PK H->HJ K H a (ns.map V.int)->IU P w H s₁.heap->(∀b,H b≠none->b=a)->(H a≠none->K.lookup a=none) ->
   codeAny (model P w) callerA (.call (.ref fa) ⟨[.ref a],[]⟩) (λr s'=>r=.ok (.ret (.bool true))/\OldK s₁.heap s'.heap/\s'.os=s₁.os/\AllBare s'.gens) s₁:=by
  intro H hO hS hok hA hK
  have base_of:∀{b:wO}{o:Obj},s₁.heap.get? b=some o->H b=none->(Ms s₁.heap H).get? b=some o:=λe n=>bO e n
  have noA:∀{b:wO}{o:Obj}{es:Array wT}{ep:Nat},s₁.heap.get? b=some o->o.data=.dict es ep->H b=none:=λ{b o es ep} e d=>by
   cases q:H b with
   |none=>rfl
   |some u =>
    have e':b=a:=hA b (by rw[q];simp)
    subst e'
    rw[ha]at e;cases e
    have d':Data.seq vs.toArray _=Data.dict es ep:=d
    cases d'
  have nsK:∀{b:wO}{m:Str->wI},s₁.heap.Ns b m->(Ms s₁.heap H).Ns b m:=λ{b m} ⟨o,es,ep,e,d,r⟩=>⟨o,es,ep,base_of e (noA e d),d,r⟩
  have hKb:K.In (Ms s₁.heap H):=λb o e=>base_of (KX b o e) (by
   cases q:H b with
   |none=>rfl
   |some u =>
    have e':b=a:=hA b (by rw[q];simp)
    subst e'
    rw[hK (by rw[q];simp)]at e;cases e)
  have hM:Mod K mg (Ms s₁.heap H):=⟨hKb,nsK hns,⟨mb,nsK hb,hbb⟩,let ⟨mc,h1,h2⟩:=hlim;⟨mc,nsK h1,h2⟩⟩
  have e0:JT P w K mg (Ms s₁.heap H) callerA [] s₁ H:=⟨rfl,hM,λb o e=>W8 e,Nat.le_of_eq (eY _ _),trivial,λb hb=>absurd (show b∈([]:wH) from hb) (by simp),hok,.of_eq hg⟩
  refine DS ((F _ hKb (nsK hns)).run callerA [] s₁ H ⟨[.ref a],[]⟩ [.ref a] [.ref a] _ _ hr e0 (hbind s₁ (.ref a)) (.cons rfl .nil) (hsp H hO hS)) λr s' h=>?_
  cases r with
  |error e=>exact(hCX H e s' h).elim
  |ok fl =>
   cases fl with
   |next=>exact False.elim h
   |brk=>exact False.elim h
   |cont=>exact False.elim h
   |ret u =>
    obtain⟨v,H',os,bare,un,hok',r',q⟩:=h
    have q':v=.bl true:=q
    subst q'
    obtain rfl:u=Value.bool true:=r'
    refine⟨rfl,OldK.of_keep λb o e=>?_,os,bare⟩
    cases q:H b with
    |none=>exact un.keep b o e q (by intro z;exact absurd (show b∈([]:wH) from z) (by simp)) (by simp)
    |some u =>
     rcases hO b with z|⟨ob,xs,z⟩
     ·rw[q]at z;cases z
     ·have z2:=un.frzs b ob _ z
      obtain⟨e1,_⟩:=hok b _ z
      obtain⟨e2,_⟩:=hok' b _ z2
      rw[e]at e1;cases e1
      exact e2
 cases hk:K.lookup a with
 |some o =>
  have e:=KX a o hk
  rw[ha]at e
  cases e
  refine core (λ_=>none) (λ_=>.inl rfl) (.inr ⟨_,vs.toArray,_,hk,rfl,rfl,rfl,by rw[Am,lenV];exact hl,by simpa using rv⟩) (λb u z=>by have z':(none:Option HO)=some u:=z;cases z') (λb z=>absurd rfl z) λz=>absurd rfl z
 |none =>
  refine core (λb=>if b=a then some (.frz { cls:=.type "list",data:=.seq vs.toArray } (.lst (ns.map V.int))) else none) (λb=>?_) (.inl (.inr ⟨{ cls:=.type "list",data:=.seq vs.toArray },AF rfl⟩)) (λb u z=>?_) (λb z=>?_) λ_=>hk
  ·by_cases hb:b=a
   ·exact .inr ⟨_,_,AF hb⟩
   ·exact .inl (AD hb)
  ·by_cases hb:b=a
   ·have z':=(AF hb).symm.trans z
    cases z'
    subst hb
    exact⟨ha,by rw[AB];exact hl,vs,_,rv,ha⟩
   ·have z':=(AD hb).symm.trans z
    cases z'
  ·by_cases hb:b=a
   ·exact hb
   ·exact absurd (AD hb) z
theorem walk_of{l:W.OpenLaw}{n k:Nat}{q:wP}{loose:wG}{XP:(Str->wI)->Heap->Prop}{YP:wQ->Heap->Prop}{d:DefRec}{K:Params->wL}{CX:wQ->Jy}{sp:wQ->Sp}{x:Str}
  (hn:l.most=some n) (hn2:n<=sizeLine) (hdf:d.params.defaults=[]) (hr:Hq k callerA)
  (hY:∀(w:wQ)(h:Heap),YP w h->(K w.params).In h)
  (F:∀(w:wQ)(mg:Str->wI)(fa:wO)(h:Heap),(K w.params).In h->h.Ns mainGlobals mg->mg d.name=some (.ref fa) ->
   ∃fd:wR,(∀(s:wM)(u:wN),BindsTo s fd ⟨[u],[]⟩ [(x,u)]) /\
    ∀base:Heap,(K w.params).In base->base.Ns mainGlobals mg->Gx l.prog w (K w.params) mg base (CX w) k fa fd [x] (sp w))
  (hsp:∀(w:wQ)(H:Hp)(a:wO)(ns:wB),ns.length<=n->PK H->HJ (K w.params) H a (ns.map V.int)->sp w [.ref a] H (λv _=>v=.bl true) λ_ _ _=>False)
  (hCX:∀(w:wQ)(H:Hp)(s:wM)(e:wN)(s':wM),CX w [] H s (λ_ _ _=>False) e s'->False) :
  W.WalkO q loose XP YP l.row.toRowW d [] (λf vs=>PySem.call f vs):=by
 refine Att.attach_call hn hdf λw s₀ s₁ mg mb fa o pm cd doc a vs ns G Y ho hd hcd hmg hobj hints Ha hg=>?_
 have KX:=hY w _ Y
 obtain⟨fd,hb,hF⟩:=F w mg fa _ KX G.T.g hmg
 exact Z6 KX G.T.g G.T.b G.T.builtins G.T.nolimit hg hobj hints (A9 Ha hn2) hr hF hb (λH hO hS=>hsp w H a ns Ha hO hS) λH e s'=>hCX w H s₁ e s'
end L2
namespace L2
open PySem PySem.Spec PyProof.Rows
noncomputable def Mt(s:Stmt):Arguments:=match s with
 |.FunctionDef _ a _ _ _ _ _ _ _ _=>a
 |_=>{ posonlyargs:=[],args:=[],vararg:=none,kwonlyargs:=[],kw_defaults:=[],kwarg:=none,defaults:=[] }
noncomputable def K7(s:Stmt):List Stmt:=match s with
 |.FunctionDef _ _ b _ _ _ _ _ _ _=>b
 |_=>[]
noncomputable def HS(s:Stmt):Scope:=match s with
 |.FunctionDef _ _ _ _ _ _ sc _ _ _=>sc
 |_=>{ kind:=.function,names:=[],isGenerator:=false,isCoroutine:=false }
abbrev Ho:Jy:=λ_ _ _ _ _ _=>False
abbrev E0:XK:=λ_ _ _=>False
theorem Ou{X:Cx}:Nr Ho X E0:=λ_ _ _ _ _ _ _ h=>h.elim
structure Hi(K:wL)(x qual:Str)(st:Stmt)(f:wO)(fd:wR):Prop where
 ex:∃(oc:wN)(od:Option wO)(kV doc pm:wN)(an:Option wO)(HQ ct:wN)(osl:Array wI),
  fd=W.fnOf x qual (Mt st) (K7 st) (HS st) .none kV doc pm an HQ ct/\K.lookup f=some ⟨oc,od,.func fd,osl⟩/\W.codeIn K HQ qual=true
 kp:W.keepIn K (.ref f)=true
section
variable{P:wP}{w:wQ}{K:wL}{mg:Str->wI}{base:Heap}
theorem Hi.ok{x qual:Str}{st:Stmt}{f:wO}{fd:wR}{N ps:wG}{k:Nat}{sp:Sp}(F:Hi K x qual st f fd)(S:Gj N ps (HS st))(len:∀vs H Q E,sp vs H Q E->vs.length=ps.length)
  (Ip:∀(HQ:wN)(A:Around)(outer:List Env)(s:wM)(H:Hp)(vs:List V)(Q:VK)(E:XK),Hq k (A.deeper (envOfC qual (HS st) s.heap.objs.size f HQ))->sp vs H Q E ->
   ∃t,Iw (I0 Ho P w K mg base N qual (HS st) f HQ A outer s H E).nox (K7 st) t/\t { nx:=λ_ H'=>Q .non H',rt:=Q } (start N vs) H):Gx P w K mg base Ho (k+1) f fd ps sp:=by
 obtain⟨oc,od,kV,doc,pm,an,HQ,ct,osl,rfl,lk,hcd⟩:=F.ex
 refine VS lk hcd S len λA outer s H vs Q E hr hsp=>?_
 obtain⟨t,h,q⟩:=Ip HQ A outer s H vs Q E hr hsp
 exact⟨t,h.nox,q⟩
theorem Hi.binds{x qual:Str}{st:Stmt}{f:wO}{fd:wR}{ps:wG}(F:Hi K x qual st f fd)
  (h:∀(kV doc pm:wN)(an:Option wO)(HQ ct:wN)(us:wC),us.length=ps.length->bindArgs (W.fnOf x qual (Mt st) (K7 st) (HS st) .none kV doc pm an HQ ct) ⟨us,[]⟩=pure (ps.zip us)):Hy K fd ps []:=by
 obtain⟨oc,od,kV,doc,pm,an,HQ,ct,osl,rfl,lk,hcd⟩:=F.ex
 exact .all (h kV doc pm an HQ ct)
theorem Ob{x qual:Str}{st:Stmt}{f:wO}{oc:wN}{od an:Option wO}{osl:Array wI}{kV doc pm HQ ct:wN}(l:K.lookup f=some ⟨oc,od,.func (W.fnOf x qual (Mt st) (K7 st) (HS st) .none kV doc pm an HQ ct),osl⟩)
  (c:W.codeIn K HQ qual=true) (k:W.keepIn K (.ref f)=true):Hi K x qual st f (W.fnOf x qual (Mt st) (K7 st) (HS st) .none kV doc pm an HQ ct):=⟨⟨oc,od,kV,doc,pm,an,HQ,ct,osl,rfl,l,c⟩,k⟩
end
theorem SN{A:Around}{k:Nat}(hr:Hq k A):A.units+1<cLine:=BD (Bt (by decide:1<=64) _) hr.units
section
variable{X:Cx}
theorem pv(i:Nat){x:Str}{pos:Pos}(hN:X.N[i]?=some x:=by rfl)(hv:WL X.env.scope x:=by first|exact Or.inl rfl|exact Or.inr (Or.inl rfl)|exact Or.inr (Or.inr rfl))(hd:(x==("__debug__" : Str))=false:=by decide)
  (hcd:(x==("__classdict__" : Str))=false:=by decide):PE X (.Name x pos) (Oa i):=OH hN hv hd hcd
end
theorem J4{A B:Prop}(h:B):if false=true then A else B:=by
 rw[AD AX]
 exact h
theorem JP{A B:Prop}(h:A):if true=true then A else B:=by
 rw[AF rfl]
 exact h
theorem mX{c A B:Prop}[Decidable c](h1:c->A)(h2:¬ c->B):if c then A else B:=by
 by_cases h:c
 ·rw[AF h]
  exact h1 h
 ·rw[AD h]
  exact h2 h
def Gh(H H':Hp):Prop:=∀b o,H b=some o->H' b=some o
theorem Gh.refl(H:Hp):Gh H H:=λ_ _ h=>h
theorem Gh.trans{H H1 H2:Hp}(a:Gh H H1)(b:Gh H1 H2):Gh H H2:=λc o h=>b c o (a c o h)
theorem Gh.free{H H':Hp}(e:Gh H H'){l:wO}(h:H' l=Option.none):H l=Option.none:=by
 cases q:H l with
 |none=>rfl
 |some o =>
  rw[e l o q]at h
  cases h
theorem Gh.seq{K:wL}{H H':Hp}{a:wO}{xs:List V}(e:Gh H H')(h:HJ K H a xs):HJ K H' a xs:=by
 rcases h with(h|⟨o,h⟩)|h
 ·exact .inl (.inl (e _ _ h))
 ·exact .inl (.inr ⟨o,e _ _ h⟩)
 ·exact .inr h
section
variable{κ:Type}[DecidableEq κ]
noncomputable def Kf(kvs:List (κ×V))(k:κ):Option V:=(kvs.find? λkv=>decide (kv.1=k)).map (·.2)
noncomputable def Jv(kvs:List (κ×V))(k:κ)(v:V):List (κ×V) :=
 if (kvs.any λkv=>decide (kv.1=k))=true then kvs.map (λkv=>if kv.1=k then (kv.1,v) else kv) else kvs++[(k,v)]
noncomputable def Rl(kvs:List (κ×V))(k:κ):List (κ×V):=kvs.filter λkv=>decide (kv.1≠k)
theorem Vj{p:κ×V}{r:List (κ×V)}{k:κ}(e:p.1=k):Kf (p::r) k=some p.2:=by simp [Kf,Bn,e]
theorem Wf{p:κ×V}{r:List (κ×V)}{k:κ}(e:¬ p.1=k):Kf (p::r) k=Kf r k:=by simp [Kf,Bn,e]
theorem Q5(k:κ):∀kvs:List (κ×V),(kvs.any λkv=>decide (kv.1=k))=(Kf kvs k).isSome
 |[]=>rfl
 |p::r=>by
  rw[B4]
  by_cases e:p.1=k
  ·simp only[Vj e,Ab e,Bool.true_or,Option.isSome_some]
  ·rw[Wf e,AO e,Gm];exact Q5 k r
theorem rA(kvs:List (κ×V))(k:κ)(v:V):(Jv kvs k v).length<=kvs.length+1:=by
 unfold Jv
 split
 ·rw[AB];lia
 ·rw[AI,Aj,Cp];lia
theorem IY.isSome_eq{o:Option V}{u:wI}(r:IY o u):o.isSome=u.isSome:=by
 cases o with
 |none=>cases u with
  |none=>rfl
  |some _=>exact(show False from r).elim
 |some _=>cases u with
  |none=>exact(show False from r).elim
  |some _=>rfl
theorem IY.getD{o:Option V}{u:wI}{d:V}{d':wN}(r:IY o u)(rd:HE d d'):HE (o.getD d) (u.getD d'):=by
 cases o with
 |none=>cases u with
  |none=>exact rd
  |some _=>exact(show False from r).elim
 |some _=>cases u with
  |none=>exact(show False from r).elim
  |some _=>exact r
theorem KV.val{kvs:List (κ×V)}{vs:List (κ×wN)}(r:KV kvs vs)(k:κ):IY (Kf kvs k) (valueAt vs k):=by
 unfold KV at r
 induction r with
 |nil=>exact True.intro
 |@cons p q ps qs h t ih =>
  obtain⟨h1,h2⟩:=h
  by_cases e:p.1=k
  ·have e':q.1=k:=h1.symm.trans e
   have b:valueAt (q::qs) k=some q.2:=by simp [valueAt,Bn,e']
   rw[Vj e,b];exact h2
  ·have e':¬ q.1=k:=λz=>e (h1.trans z)
   have b:valueAt (q::qs) k=valueAt qs k:=by simp [valueAt,Bn,e']
   rw[Wf e,b];exact ih
theorem KV.any{kvs:List (κ×V)}{vs:List (κ×wN)}(r:KV kvs vs)(k:κ):(kvs.any λkv=>decide (kv.1=k))=vs.any λkv=>decide (kv.1=k):=by
 unfold KV at r
 induction r with
 |nil=>rfl
 |cons h t ih=>rw[B4,B4,ih,h.1]
theorem KV.repl{kvs:List (κ×V)}{vs:List (κ×wN)}(r:KV kvs vs)(k:κ){y:V}{u:wN}(ry:HE y u) :
  KV (kvs.map λkv=>if kv.1=k then (kv.1,y) else kv) (vs.map λkv=>if kv.1=k then (kv.1,u) else kv):=by
 unfold KV at r ⊢
 induction r with
 |nil=>exact .nil
 |@cons p q ps qs h t ih =>
  rw[An,An]
  refine .cons ?_ ih
  obtain⟨h1,h2⟩:=h
  by_cases e:p.1=k
  ·rw[AF e,AF (h1.symm.trans e)];exact⟨h1,ry⟩
  ·rw[AD e,AD (λz=>e (h1.trans z))];exact⟨h1,h2⟩
theorem KV.put{kvs:List (κ×V)}{vs:List (κ×wN)}(r:KV kvs vs)(k:κ){y:V}{u:wN}(ry:HE y u):KV (Jv kvs k y) (stored vs k u):=by
 unfold Jv stored
 rw[r.any k]
 by_cases e:(vs.any λkv=>decide (kv.1=k))=true
 ·rw[AF e,AF e];exact r.repl k ry
 ·rw[AD e,AD e];exact DH r ⟨rfl,ry⟩
theorem KV.drop{kvs:List (κ×V)}{vs:List (κ×wN)}(r:KV kvs vs)(k:κ):KV (Rl kvs k) (without vs k):=by
 unfold KV at r ⊢
 unfold Rl without
 induction r with
 |nil=>exact .nil
 |@cons p q ps qs h t ih =>
  obtain⟨h1,h2⟩:=h
  rw[B9,B9]
  by_cases e:p.1=k
  ·have a:¬ decide (p.1≠k)=true:=by simp [e]
   have b:¬ decide (q.1≠k)=true:=by simp [h1.symm.trans e]
   rw[AD a,AD b];exact ih
  ·have e':¬ q.1=k:=λz=>e (h1.trans z)
   have a:decide (p.1≠k)=true:=by simp [e]
   have b:decide (q.1≠k)=true:=by simp [e']
   rw[AF a,AF b];exact .cons ⟨h1,h2⟩ ih
theorem KV.keys{kvs:List (κ×V)}{vs:List (κ×wN)}(r:KV kvs vs):kvs.map (·.1)=vs.map (·.1):=by
 unfold KV at r
 induction r with
 |nil=>rfl
 |cons h t ih=>rw[An,An,ih,h.1]
theorem KV.length{kvs:List (κ×V)}{vs:List (κ×wN)}(r:KV kvs vs):kvs.length=vs.length:=AL r
end
theorem My{P:wP}{w:wQ}{k:Ht}{u:wN}(r:HE (kV k) u):(J7 P w).is k u=true:=by
 cases k with
 |inl i=>obtain⟨t,e⟩:=(show ∃t,u=Value.int i t from r);subst e;exact aO P w i t
 |inr x=>obtain⟨t,e⟩:=(show ∃t,u=Value.str x t from r);subst e;exact qF P w x t
theorem U2{P:wP}{w:wQ}:∀{ks:List Ht}{us:wC},HF (ks.map kV) us->ItemsAre (J7 P w) ks us
 |[],_,r=>by rw[DN]at r;cases r;exact .nil
 |k::ks,_,r=>by
  rw[An]at r
  cases r with
  |cons h t=>exact .cons (My h) (U2 t)
abbrev KT(H:Hp):List (List Ht×V)->List (List Ht×wO×wN)->Prop:=Paired λp q=>p.1=q.1/\H q.2.1=some (.tup (p.1.map kV))/\HE p.2 q.2.2
theorem KT.val{H:Hp}{kvs:List (List Ht×V)}{xs:List (List Ht×wO×wN)}(r:KT H kvs xs)(k:List Ht):IY (Kf kvs k) ((atKey xs k).map (·.2)):=by
 induction r with
 |nil=>exact True.intro
 |@cons p q ps qs h t ih =>
  obtain⟨h1,_,h2⟩:=h
  by_cases e:p.1=k
  ·have e':q.1=k:=h1.symm.trans e
   have b:atKey (q::qs) k=some q.2:=by simp [atKey,Bn,e']
   rw[Vj e,b];exact h2
  ·have e':¬ q.1=k:=λz=>e (h1.trans z)
   have b:atKey (q::qs) k=atKey qs k:=by simp [atKey,Bn,e']
   rw[Wf e,b];exact ih
theorem KT.repl{H:Hp}{kvs:List (List Ht×V)}{xs:List (List Ht×wO×wN)}(r:KT H kvs xs)(k:List Ht){y:V}{u:wN}(ry:HE y u) :
  KT H (kvs.map λkv=>if kv.1=k then (kv.1,y) else kv) (xs.map (putAt k u)):=by
 induction r with
 |nil=>exact .nil
 |@cons p q ps qs h t ih =>
  rw[An,An]
  refine .cons ?_ ih
  obtain⟨h1,h2,h3⟩:=h
  unfold putAt
  by_cases e:p.1=k
  ·rw[AF e,AF (h1.symm.trans e)];exact⟨h1,h2,ry⟩
  ·rw[AD e,AD (λz=>e (h1.trans z))];exact⟨h1,h2,h3⟩
theorem KT.put{H:Hp}{kvs:List (List Ht×V)}{xs:List (List Ht×wO×wN)}(r:KT H kvs xs)(k:List Ht){b:wO}{y:V}{u:wN}(hb:H b=some (.tup (k.map kV)))(ry:HE y u) :
  KT H (Jv kvs k y) (storedH xs k b u):=by
 have e:(kvs.any λkv=>decide (kv.1=k))=(atKey xs k).isSome:=by
  rw[Q5,(r.val k).isSome_eq,Option.isSome_map]
 unfold Jv storedH
 rw[e]
 by_cases q:(atKey xs k).isSome=true
 ·rw[AF q,AF q];exact r.repl k ry
 ·rw[AD q,AD q];exact DH r ⟨rfl,hb,ry⟩
theorem KT.keeps{H H':Hp}{kvs:List (List Ht×V)}{xs:List (List Ht×wO×wN)}(r:KT H kvs xs)(ht:∀b ys,H b=some (.tup ys)->H' b=some (.tup ys)):KT H' kvs xs :=
 Paired.mapP r λ_ _ z=>⟨z.1,ht _ _ z.2.1,z.2.2⟩
section
variable{P:wP}{w:wQ}{H:Hp}{h:Heap}{a:wO}
theorem Mi{u:HO}(ok:IU P w H h)(e:Rd H a u):HR P w H h a u:=e.ok ok
theorem VI{kvs:List (Ht×V)}(ok:IU P w H h)(e:Rd H a (.dK kvs)):kvs.length<=sizeLine/\(a==sysModules)=false/\∃vs,KV kvs vs/\h.DictOf (J7 P w) a vs :=
 show HR P w H h a (.dK kvs) from Mi ok e
theorem fW{kvs:List (Ht×V)}(ok:IU P w H h)(e:H a=some (.dK kvs)):kvs.length<=sizeLine/\(a==sysModules)=false/\∃vs,KV kvs vs/\h.DictOf (J7 P w) a vs:=VI ok (.inl e)
theorem Vw{ks:List Ht}(ok:IU P w H h)(e:H a=some (.tup (ks.map kV))):(tupleKind (J7 P w)).is h ks a:=by
 obtain⟨_,its,r,o,h1,h2,n,h3⟩:=(show HR P w H h a (.tup (ks.map kV)) from ok a _ e)
 exact⟨o,its.toArray,n,h1,h2,h3.1,by simpa using U2 r⟩
theorem S6{kvs:List (List Ht×V)}(ok:IU P w H h)(e:Rd H a (.dT kvs)):kvs.length<=sizeLine/\(a==sysModules)=false /\
  ∃xs,KT H kvs xs/\h.DictOfH (tupleKind (J7 P w)) a xs:=by
 obtain⟨z,y,xs,r,o,es,ep,h1,h2,h3,h4,h5⟩:=(show HR P w H h a (.dT kvs) from Mi ok e)
 refine⟨z,y,xs,r,o,es,ep,h1,h2,h3,h4,λx hx=>?_,h5⟩
 have all:∀{l:List (List Ht×V)}{m:List (List Ht×wO×wN)},KT H l m->∀x∈m,(tupleKind (J7 P w)).is h x.1 x.2.1:=by
  intro l m q
  induction q with
  |nil=>intro x hx;exact nomatch hx
  |@cons p q ps qs hq t ih =>
   intro x hx
   rcases AN.mp hx with e|hx
   ·subst e
    exact Vw ok (by rw[<-hq.1];exact hq.2.1)
   ·exact ih x hx
 exact all r x hx
theorem bV{kvs:List (List Ht×V)}(ok:IU P w H h)(e:H a=some (.dT kvs)):kvs.length<=sizeLine/\(a==sysModules)=false /\
  ∃xs,KT H kvs xs/\h.DictOfH (tupleKind (J7 P w)) a xs:=S6 ok (.inl e)
end
def Ih(H:Hp)(a:wO)(y:V)(r:Option V):Prop :=
 (∃kvs k,Rd H a (.dK kvs)/\y=kV k/\r=Kf kvs k)∨∃kvs k b,Rd H a (.dT kvs)/\y=.ref b/\H b=some (.tup (k.map kV))/\r=Kf kvs k
def JS(H:Hp)(a:wO)(y v:V)(H':Hp):Prop :=
 (∃kvs k,H a=some (.dK kvs)/\y=kV k/\kvs.length<sizeLine/\H'=Gw H a (.dK (Jv kvs k v))) ∨
 ∃kvs k b,H a=some (.dT kvs)/\y=.ref b/\H b=some (.tup (k.map kV))/\kvs.length<sizeLine/\H'=Gw H a (.dT (Jv kvs k v))
theorem Ih.k{H:Hp}{a:wO}{kvs:List (Ht×V)}{k:Ht}(e:H a=some (.dK kvs)):Ih H a (kV k) (Kf kvs k):=.inl ⟨kvs,k,.inl e,rfl,rfl⟩
theorem Ih.t{H:Hp}{a b:wO}{kvs:List (List Ht×V)}{k:List Ht}(e:H a=some (.dT kvs))(eb:H b=some (.tup (k.map kV))):Ih H a (.ref b) (Kf kvs k):=.inr ⟨kvs,k,b,.inl e,rfl,eb,rfl⟩
theorem JS.k{H:Hp}{a:wO}{kvs:List (Ht×V)}{k:Ht}{v:V}(e:H a=some (.dK kvs))(hl:kvs.length<sizeLine):JS H a (kV k) v (Gw H a (.dK (Jv kvs k v))):=.inl ⟨kvs,k,e,rfl,hl,rfl⟩
theorem JS.t{H:Hp}{a b:wO}{kvs:List (List Ht×V)}{k:List Ht}{v:V}(e:H a=some (.dT kvs))(eb:H b=some (.tup (k.map kV)))(hl:kvs.length<sizeLine) :
  JS H a (.ref b) v (Gw H a (.dT (Jv kvs k v))):=.inr ⟨kvs,k,b,e,rfl,eb,hl,rfl⟩
section
variable{X:Cx}{Fj:wF}{σ:St}{H:Hp}{s:wM}{a:wO}{y v:V}{u r:wN}{o:Option V}{A:Around}{E:wD}
theorem Inv.big(I:Inv X Fj σ H s):sysModules<s.heap.objs.size:=by
 have h:mainGlobals<s.heap.objs.size:=(I.mod.glob.keeps I.bk).lt
 exact DO (by decide) h
theorem mJ{Q:wD}(hu:A.units+1<cLine)(I:Inv X Fj σ H s)(g:Ih H a y (some v))(ry:HE y u)(h:∀w' s',Inv X Fj σ H s'->HE v w'->Q w' s') :
  wpAny (model X.prog X.w) A (getItem (.ref a) u) Q E s:=by
 rcases g with⟨kvs,k,e,ey,l⟩|⟨kvs,k,b,e,ey,eb,l⟩
 ·subst ey
  obtain⟨z,hd,vs,rel,dd⟩:=VI I.hok e
  obtain⟨w',hw,rw'⟩:=IY.some_of (v:=v) (o:=valueAt vs k) (by rw[l];exact rel.val k)
  exact wpAny_getItem_of (My ry) dd.mapOf hw (h w' _ (I.tok _) rw')
 ·subst ey
  cases(show u=Value.ref b from ry)
  obtain⟨z,hd,xs,rel,dd⟩:=S6 I.hok e
  obtain⟨w',hw,rw'⟩:=IY.some_of (v:=v) (o:=(atKey xs k).map (·.2)) (by rw[l];exact rel.val k)
  obtain⟨p,hp,hp2⟩:=Option.map_eq_some_iff.mp hw
  refine wpAny_getItem_heap (Em hu) (Vw I.hok eb) dd hp ?_
  rw[hp2]
  exact h w' _ (I.tok _) rw'
theorem U9{h':Heap}{t':Nat}{ob:HO}(I:Inv X Fj σ H s)(mu:VL (H a))(hs:Heap.SameBut a s.heap h')(he:∃q,h'.get? a=some q)(new:HR X.prog X.w (Gw H a ob) h' a ob) :
  Inv X Fj σ (Gw H a ob) { s with heap:=h',toks:=t' } :=
 I.write (x:=a) (e:=a) mu (.inl rfl) (λb q hb z=>(hs.2 b hb).trans z) he new
theorem lG{P:wP}{w:wQ}{H':Hp}{h':Heap}{kvs:List (Ht×V)}{vs:List (Ht×wN)}(z:kvs.length<=sizeLine)(hd:(a==sysModules)=false)(rel:KV kvs vs)(dd:h'.DictOf (J7 P w) a vs) :
  HR P w H' h' a (.dK kvs):=⟨z,hd,vs,rel,dd⟩
theorem gI{H':Hp}{Q:Unit->wM->Prop}(hu:A.units+1<cLine)(I:Inv X Fj σ H s)(g:JS H a y v H')(ry:HE y u)(rv:HE v r)(h:∀s',Inv X Fj σ H' s'->Q () s') :
  wpAny (model X.prog X.w) A (setItem (.ref a) u r) Q E s:=by
 rcases g with⟨kvs,k,e,ey,l,eH⟩|⟨kvs,k,b,e,ey,eb,l,eH⟩
 ·subst ey eH
  obtain⟨z,hd,vs,rel,dd⟩:=fW I.hok e
  have hz:vs.length<=sizeLine:=by rw[<-rel.length];exact z
  have hl:(Jv kvs k v).length<=sizeLine:=by have:=rA kvs k v;lia
  refine wpAny_setItem_pairs (hsz:=hz) (My ry) dd λh' dd' hs=>h _ ?_
  have he:∃q,h'.get? a=some q:=let ⟨q,_,_,hq,_⟩:=dd';⟨q,hq⟩
  exact U9 I (by rw[e];exact True.intro) hs he (lG hl hd (rel.put k rv) dd')
 ·subst ey eH
  cases(show u=Value.ref b from ry)
  obtain⟨z,hd,xs,rel,dd⟩:=bV I.hok e
  have hz:xs.length<=sizeLine:=by rw[<-AL rel];exact z
  have hl:(Jv kvs k v).length<=sizeLine:=by have:=rA kvs k v;lia
  refine wpAny_setItem_heap (hsz:=hz) (Em hu) (Vw I.hok eb) dd λh' dd' hs=>h _ ?_
  obtain⟨q,es,ep,hq,h2,h3,h4,_,h5⟩:=dd'
  refine U9 I (by rw[e];exact True.intro) hs ⟨q,hq⟩ ⟨hl,hd,_,(rel.put k eb rv).keeps λc ys ec=>?_,q,es,ep,hq,h2,h3,h4,h5⟩
  rw[Hf (Ku ec e (λz=>nomatch z))]
  exact ec
end
def TC(i:Expr):Prop:=∀ov iv,subscripted i false ov iv=operate [ov,iv] (getItem ov iv)
theorem iK{prog:wP}{w:wQ}{A:Around}{E:wD}{s:wM}{env:Env}{value slice:Expr}{pos:Pos}{T id:String}{Q:wD}
  (hl:typeLookup (.type T) "__getitem__" = pure (some (.builtin id))) (hs:TC slice)
  (h:wpAny (model prog w) A (eval value env) (λo s₁=>wpAny (model prog w) A (eval slice env) (λi s₂=>s₂.TypeIs o T/\wpAny (model prog w) A (getItem o i) Q E s₂) E s₁) E s) :
  wpAny (model prog w) A (eval (.Subscript value slice pos) env) Q E s:=by
 refine Subscript_ (BI h (λo s₁ h₁=>BI h₁ (λi s₂ h₂=>?_) λ_ _ x=>x) λ_ _ x=>x)
 obtain⟨hT,h₂⟩:=h₂
 unfold subscriptTail
 refine AA ?_
 rw[getitemInPython_of_ne hT.not_modules]
 refine AA (wpAny_specialOf hT hl ?_)
 have fin:wpAny (model prog w) A (subscripted slice false o i) (λr s₃=>wpAny (model prog w) A (letTemporaryGo value o r>>=λ_=>pure r) Q E s₃) E s₂:=by
  rw[hs o i]
  exact wpAny_operating (BI h₂ (λr s₃ h₃=>AA (wpAny_letTemporaryGo (AE h₃))) λ_ _ x=>x)
 first
  |exact AE (AA fin)
  |exact AA (AE (AA fin))
  |exact AA fin
theorem Wp{X:Cx}{Fj:wF}{σ:St}{H:Hp}{s:wM}{a:wO}{y:V}{o:Option V}(I:Inv X Fj σ H s)(g:Ih H a y o):s.TypeIs (.ref a) "dict" := by
 rcases g with⟨kvs,k,e,_,_⟩|⟨kvs,k,b,e,_,_,_⟩
 ·obtain⟨_,_,vs,_,dd⟩:=VI I.hok e
  exact dd.typeIs
 ·obtain⟨_,_,xs,_,dd⟩:=S6 I.hok e
  exact dd.typeIs
def cB(td ty:TE):TE:=λσ H Q=>td σ H λx H1=>ty σ H1 λy H2=>∃a v,x=.ref a/\Ih H2 a y (some v)/\Q v H2
def Z2(td ty tv:TE):TS:=λD σ H=>tv σ H λv H1=>td σ H1 λx H2=>ty σ H2 λy H3=>∃a H4,x=.ref a/\JS H3 a y v H4/\D.nx σ H4
section
variable{X:Cx}{o i e value:Expr}{pos pos' tpos:Pos}{td ty tv:TE}
theorem QF(hu:X.A.units+1<cLine)(ho:PE X o td)(hi:PE X i ty)(hs:TC i):PE X (.Subscript o i pos) (cB td ty):=by
 intro Fj s σ H Q I h
 refine iK PySem.F.slot_dict_getitem.lookup hs (HZ (ho Fj s σ H _ I h) λu s1 ⟨x,H1,I1,rx,q1⟩=>HZ (hi Fj s1 σ H1 _ I1 q1) λiv s2 ⟨y,H2,I2,ry,a,v,ex,g,q2⟩=>?_)
 subst ex
 obtain rfl:u=Value.ref a:=rx
 exact⟨Wp I2 g,mJ hu I2 g ry λw' s3 I3 rw'=>⟨v,H2,I3,rw',q2⟩⟩
theorem V4(hu:X.A.units+1<cLine)(ho:PE X o td)(hi:PE X i ty)(hv:PE X value tv)(hs:swapsWith value (some (.Subscript o i pos')) pos.line X.env=pure false) :
  PS X (.Assign [.Subscript o i pos'] value pos) (Z2 td ty tv):=by
 intro Fj s σ H D I h
 refine wpAny_Assign_Subscript (HZ (hv Fj s σ H _ I h) λr s1 ⟨v,H1,I1,rv,q1⟩=>HZ (ho Fj s1 σ H1 _ I1 q1) λu s2 ⟨x,H2,I2,rx,q2⟩=>HZ (hi Fj s2 σ H2 _ I2 q2) λiv s3 ⟨y,H3,I3,ry,a,H4,ex,g,q3⟩=>?_) hs
 subst ex
 obtain rfl:u=Value.ref a:=rx
 exact gI hu I3 g ry rv λs4 I4=>⟨σ,H4,I4,q3⟩
end
theorem lH{P:wP}{w:wQ}{H:Hp}(h:Heap)(hb:sysModules<h.objs.size):HR P w H (h.push { cls:=.type "dict",data:=.dict #[] }) h.objs.size (.dT []) :=
 ⟨Ax _,beq_eq_false_iff_ne.mpr (B7 (As hb)),[],.nil,_,#[],0,AU _ rfl,⟨rfl,rfl,rfl⟩,rfl,rfl,List.nodup_nil⟩
def XX:TE:=λ_ H Q=>∀p,H p=none->Q (.ref p) (Gw H p (.dT []))
section
variable{X:Cx}{pos:Pos}
theorem Vd:PE X (.Dict [] [] pos) XX:=λFj s σ H Q I h =>
 wpAny_Dict_empty ⟨.ref s.heap.objs.size,_,I.laid (a:=s.heap.objs.size) (o:=.dT []) (t':=s.toks) (λ_ _ q=>AC _ q) (AG _) (lH s.heap I.big),rfl,h _ (I.hok.fresh (AG _))⟩
end
noncomputable def pT(kvs more:List (Ht×V)):List (Ht×V):=more.foldl (λacc kv=>Jv acc kv.1 kv.2) kvs
theorem KV.merge:∀{more:List (Ht×V)}{rs:List (Ht×wN)}{kvs:List (Ht×V)}{vs:List (Ht×wN)},KV more rs->KV kvs vs->KV (pT kvs more) (merged vs rs):=by
 intro more rs kvs vs r
 unfold KV at r
 induction r generalizing kvs vs with
 |nil=>intro q;exact q
 |@cons p q ps qs h t ih =>
  intro r0
  have e:KV (Jv kvs p.1 p.2) (stored vs q.1 q.2):=by
   have:=r0.put p.1 h.2
   rw[<-h.1];exact this
  exact ih e
structure M1(X:Cx)(o:Expr)(m:Str)(apos:Pos)(e:Expr)(cpos:Pos):Prop where
 base:attributeBase o m X.env (eval o X.env)=eval o X.env
 few:((backTo cpos (starEach [e] X.env)).all (λx=>!x.1)&&(backToKw cpos (keywordEach [] X.env)).all (λx=>x.1.isSome)
  && decide (([e]:wJ).length+([]:List Keyword).length+(if ([]:List Keyword).isEmpty then 0 else 1)<30))=true
 line:(apos.endLine==cpos.line)=true
 trees:backTo cpos (starEach [e] X.env)=[(false,eval e X.env)]
structure M2(X:Cx)(o:Expr)(m:Str)(apos:Pos)(e f:Expr)(cpos:Pos):Prop where
 base:attributeBase o m X.env (eval o X.env)=eval o X.env
 few:((backTo cpos (starEach [e,f] X.env)).all (λx=>!x.1)&&(backToKw cpos (keywordEach [] X.env)).all (λx=>x.1.isSome)
  && decide (([e,f]:wJ).length+([]:List Keyword).length+(if ([]:List Keyword).isEmpty then 0 else 1)<30))=true
 line:(apos.endLine==cpos.line)=true
 trees:backTo cpos (starEach [e,f] X.env)=[(false,eval e X.env),(false,eval f X.env)]
def sL(H:Hp)(a:wO):Prop:=(∃kvs,Rd H a (.dK kvs))∨∃kvs,Rd H a (.dT kvs)
theorem Xk{X:Cx}{Fj:wF}{σ:St}{H:Hp}{s:wM}{a:wO}(I:Inv X Fj σ H s)(d:sL H a) :
  s.TypeIs (.ref a) "dict" /\ (∀b,Value.ref a=.ref b->∃ob,s.heap.get? b=some ob/\ob.dict=none)/\(a==sysModules)=false:=by
 rcases d with⟨kvs,e⟩|⟨kvs,e⟩
 ·obtain⟨_,hd,vs,_,dd⟩:=VI I.hok e
  refine⟨dd.typeIs,λb q=>?_,hd⟩
  cases q
  obtain⟨ob,_,_,h1,h2,_⟩:=dd
  exact⟨ob,h1,h2.2.1⟩
 ·obtain⟨_,hd,xs,_,dd⟩:=S6 I.hok e
  refine⟨dd.typeIs,λb q=>?_,hd⟩
  cases q
  obtain⟨ob,_,_,h1,h2,_⟩:=dd
  exact⟨ob,h1,h2.2.1⟩
section
variable{X:Cx}{Fj:wF}{σ:St}{H:Hp}{s:wM}{a:wO}{y d:V}{u r:wN}{o:Option V}{A:Around}{E:wD}
theorem bX{Q:wD}(hu:A.units+1<cLine)(I:Inv X Fj σ H s)(g:Ih H a y o)(ry:HE y u)(rd:HE d r)(h:∀w' s',Inv X Fj σ H s'->HE (o.getD d) w'->Q w' s') :
  wpAny (model X.prog X.w) A (call (.builtin "dict.get") [.ref a,u,r]) Q E s:=by
 rcases g with⟨kvs,k,e,ey,l⟩|⟨kvs,k,b,e,ey,eb,l⟩
 ·subst ey
  obtain⟨z,hd,vs,rel,dd⟩:=VI I.hok e
  refine call_meetsIn EE dd.typeIs Fd (FM _ _ _) (meets_dict_get_default (J7 X.prog X.w) a (My ry) hd r) ⟨_,dd.mapOf,h _ _ (I.tok _) ?_⟩
  rw[l]
  exact(rel.val k).getD rd
 ·subst ey
  cases(show u=Value.ref b from ry)
  obtain⟨z,hd,xs,rel,dd⟩:=S6 I.hok e
  refine call_meetsIn EE dd.typeIs Fd (FM _ _ _) (meetsH_dict_get_default (tupleKind (J7 X.prog X.w)) a b hd r) ⟨Em hu,k,xs,Vw I.hok eb,dd,h _ _ (I.tok _) ?_⟩
  rw[l]
  exact(rel.val k).getD rd
end
def oK(td ty tx:TE):TE:=λσ H Q=>td σ H λx H1=>∃a,x=.ref a/\sL H1 a/\ty σ H1 λy H2=>tx σ H2 λz H3=>∃o,Ih H3 a y o/\Q (o.getD z) H3
section
variable{X:Cx}{o e f:Expr}{apos cpos:Pos}{td ty tx:TE}
theorem kT(hu:X.A.units+1<cLine)(ho:PE X o td)(he:PE X e ty)(hf:PE X f tx)(m:M2 X o "get" apos e f cpos):PE X (.Call (.Attribute o "get" apos) [e,f] [] cpos) (oK td ty tx):=by
 intro Fj s σ H Q I h
 refine wpAny_Call_method m.base m.few m.line FO EE PySem.F.type_dict_get (HZ (ho Fj s σ H _ I h) λu s1 ⟨x,H1,I1,rx,a,ex,d,q1⟩=>?_)
 subst ex
 obtain rfl:u=Value.ref a:=rx
 obtain⟨t1,t2,_⟩:=Xk I1 d
 refine⟨t1,t2,?_⟩
 rw[m.trees]
 refine DG rfl (DT (DB (HZ (he Fj s1 σ H1 _ I1 q1) λiv s2 ⟨y,H2,I2,ry,q2⟩ =>
  DB (HZ (hf Fj s2 σ H2 _ I2 q2) λfv s3 ⟨z,H3,I3,rz,ov,g,q3⟩=>Calls.spliced_nil ?_))))
 exact bX hu I3 g ry rz λw' s4 I4 rw'=>⟨_,H3,I4,rw',q3⟩
end
end L2
namespace L2.Ev
open PySem PySem.Spec PyProof.Rows
section
theorem qW(a b:Int):Builtin.Range.rangeSize a b (-1)=if b<a then a-b else 0:=by
 unfold Builtin.Range.rangeSize
 rw[AD (by decide)]
 by_cases h:a>b
 ·rw[AF h,AF (show b<a from h)]
  have e:-(-1:Int)=1:=rfl
  rw[e,EG]
  lia
 ·rw[AD h,AD (show ¬ b<a from h)]
theorem mW{a b:Int}(ha:-(2^62)<=a)(ha':a<2^62)(hb:-(2^62)<=b)(hb':b<2^62):Builtin.Range.small a b (-1)=true:=by
 unfold Builtin.Range.small
 rw[qW]
 simp only[Builtin.Range.rangeFitsLong,AK,Di,AV,E3,show ¬ ((-1:Int)>0) by decide,Bi]
 split<;>lia
def QG(hi:Int)(n:Nat):It:=⟨λi _=>i<n,λi H x H'=>H'=H/\x=.int (hi-i),λi _=>n<=i⟩
theorem jE{P:wP}{w:wQ}{K:wL}{tg:Expr}(it:wO)(hi:Int)(n:Nat):KB P w K tg (QG hi n) [it] it (λi h=>IsRangeIter h it (hi+(i:Nat)*(-1)) ((n:Int)-(i:Nat)) (-1)) where
 mem:=by simp
 obj:=λi h st b hb=>by
  have e:b=it:=by simpa using hb
  subst e
  exact⟨_,st,λv z=>by
   have z':Data.fields _=Data.cell v:=z
   cases z'⟩
 keep:=λi h h' st k=>k it (by simp) _ st
 item:=by
  intro X hP hw hK hc i Fj s σ H E I hf st hg
  subst hP hw hK
  obtain⟨f0,f1,f2,f3,f4,f5⟩:=hf it (by simp)
  have W:=Walks.range (prog:=X.prog) (w:=X.w) (I.ok.hd hc) it hi (-1) n
  refine W.item i s _ _ hg st λv h' tk hv st' kk=>?_
  obtain⟨t,rfl⟩:=hv
  have I1:Inv X Fj σ H { s with heap:=h',toks:=tk }:=I.turned (λb o hb e=>kk b o (by simpa using hb) e) f0 f1 f3 f4 f5
  refine⟨_,rfl,Qv (s:={ s with heap:=h',toks:=tk }) (n := "range_iterator") st' rfl rfl (by decide) ⟨.int (hi-i),H,I1,⟨t,?_⟩,⟨rfl,rfl⟩,st',λb hb=>(hf b hb).1⟩⟩
  have e:hi+(i:Int)*(-1)=hi-(i:Int):=by lia
  rw[e]
 done:=by
  intro X hP hw hK hc i Fj s σ H E I hf st hg
  subst hP hw hK
  obtain⟨f0,f1,f2,f3,f4,f5⟩:=hf it (by simp)
  exact Fg (I.ok.hd hc) st (by have:n<=i:=hg;lia) λh' eb=>⟨rfl,I.turned (t':=s.toks) (λb o hb e=>eb b o hb e) f0 f1 f3 f4 f5⟩
 self:=λ_ _ _ _ _ st h=>Fh st h
section
variable{X:Cx}{tg:Expr}
theorem oN{Fj:wF}{σ:St}{H:Hp}{s:wM}{R:It->Hp->Prop}{E:wD}{hi lo:Int}{t u v:Tok}{tk:Nat}(I:Inv X Fj σ H s)(h1:-(2^62)<=hi)(h2:hi<2^62)(h3:-(2^62)<=lo)(h4:lo<2^62)
  (q:R (QG hi (hi-lo).toNat) H):wpAny (model X.prog X.w) X.A (pyIter (.ref s.heap.objs.size)) (Zc X Fj σ tg R) E { s with heap:=s.heap.push { cls:=.type "range",data:=.fields #[.int hi t,.int lo u,.int (-1) v] },toks:=tk }:=by
 refine wpAny_pyIter_range (IsRange.new ..) (mW h1 h2 h3 h4) ?_
 have I1:Inv X Fj σ H { s with heap:=s.heap.push { cls:=.type "range",data:=.fields #[.int hi t,.int lo u,.int (-1) v] },toks:=tk }:=I.kept λb o e=>AC _ e
 refine⟨(s.heap.push { cls:=.type "range",data:=.fields #[.int hi t,.int lo u,.int (-1) v] }).objs.size,[(s.heap.push { cls:=.type "range",data:=.fields #[.int hi t,.int lo u,.int (-1) v] }).objs.size],_,_,H,rfl,
  I1.kept (t':=tk) λb o e=>AC _ e,jE _ hi (hi-lo).toNat,?_,λb hb=>?_,q⟩
 ·have e1:hi+((0:Nat):Int)*(-1)=hi:=by simp
  have e2:(((hi-lo).toNat:Nat):Int)-((0:Nat):Int)=Builtin.Range.rangeSize hi lo (-1):=by rw[qW];split<;>lia
  show IsRangeIter _ _ (hi+((0:Nat):Int)*(-1)) ((((hi-lo).toNat:Nat):Int)-((0:Nat):Int)) (-1)
  rw[e1,e2]
  exact AU _ rfl
 ·have e:b=(s.heap.push { cls:=.type "range",data:=.fields #[.int hi t,.int lo u,.int (-1) v] }).objs.size:=by simpa using hb
  subst e
  exact I1.fpOk (AG _) (I1.hok.fresh (AG _))
def eV(ta:TA):TI:=λσ H R=>ta σ H λvs H1=>∃i j:Int,vs=[.int i,.int j,.int (-1)]/\(-(2^62)<=i/\i<2^62/\-(2^62)<=j/\j<2^62)/\R (QG i (i-j).toNat) H1
theorem mT{a b c:Expr}{ta:TA}{p pos:Pos}(hg:Gl X "range")(hm:X.mg "range" = none)(ha:PA X [a,b,c] ta)(hs:starEach [a,b,c] X.env=(false,eval a X.env)::starEach [b,c] X.env:=by rfl)(hs2:(backTo pos (starEach [b,c] X.env)).any (·.1)=false:=by rfl) :
  PI X tg (.Call (.Name "range" p) [a,b,c] [] pos) (eV ta):=by
 intro Fj s σ H R I h
 refine Call_ (KI I hg hm boot_range (BK (HZ (ha pos Fj s σ H _ I h) λus s1 ⟨vs,H1,I1,r1,q1⟩=>?_) hs hs2))
 obtain⟨i,j,e,⟨q1,q2,q3,q4⟩,q⟩:=q1
 subst e
 cases r1 with
 |cons r rr =>
  cases rr with
  |cons r' rr =>
   cases rr with
   |cons r'' rr =>
    cases rr
    obtain⟨t,rfl⟩:=r
    obtain⟨t',rfl⟩:=r'
    obtain⟨t'',rfl⟩:=r''
    exact call_range_3 (by decide) (oN I1 q1 q2 q3 q4 q) (Or.inl (Fa (by decide)))
end
theorem Yq{hi:Int}{n:Nat}{g:TG}{tb:TS}{D:JA}{σ:St}{H:Hp}(Pv:Nat->St->Hp->Prop)(h0:Pv 0 σ H)
  (hs:∀i σ H,i<n->Pv i σ H->g (.int (hi-i)) σ H λσ2 H2=>tb { D with nx:=Pv (i+1),ct:=Pv (i+1),bk:=D.nx } σ2 H2) (hd:∀σ H,Pv n σ H->D.nx σ H) :
  ∃W:Nat->Nat->St->Hp->Prop,(∃m,W 0 m σ H)/\∀i m σ H,W i m σ H ->
   ((QG hi n).stop i H/\D.nx σ H)∨((QG hi n).go i H/\∃N:St->Hp->Prop,(∀σ' H',N σ' H'->∃m',m'<m/\W (i+1) m' σ' H')/\∀x H',(QG hi n).yld i H x H'->g x σ H' λσ2 H2=>tb { D with nx:=N,ct:=N,bk:=D.nx } σ2 H2):=by
 refine⟨λi m σ H=>m=n-i/\i<=n/\Pv i σ H,⟨n,by simp,Ax _,h0⟩,?_⟩
 rintro i m σ H ⟨rfl,hi,p⟩
 by_cases hlt:i<n
 ·refine .inr ⟨hlt,Pv (i+1),λσ' H' p'=>⟨n-(i+1),by lia,rfl,hlt,p'⟩,λx H' y=>?_⟩
  obtain⟨e,y⟩:=y
  subst e y
  exact hs i σ _ hlt p
 ·have e:i=n:=by lia
  subst e
  exact .inl ⟨AG _,hd σ H p⟩
section
variable{X:Cx}
theorem iP{t:wO}{vs:wC}{ns:wB}{s:wM}{prog:wP}{w:wQ}{A:Around}{E:wD}{Q:wD}(hh:A.handled=none)(hl:s.heap.IsTuple t vs.toArray)(hi:IntsAre vs ns)
  (h:∀h' tk t',(∀b o,s.heap.get? b=some o->h'.get? b=some o)->Q (.int ns.sum t') { s with heap:=h',toks:=tk }) :
  wpAny (model prog w) A (call (.builtin "sum") [.ref t]) Q E s:=by
 obtain⟨xs,hx⟩:=hi.allInts.items
 have hn:numsOf vs.toArray.toList=ns:=by rw[show vs.toArray.toList=vs from rfl,hi.numsOf]
 rw[hx]at hl hn
 rw[nums_intItems]at hn
 refine W.ktm_sumG hh hl λh' tk t' hk=>?_
 have:=h h' tk t' hk
 rw[preSum_eq,AW (by simp),hn]
 exact this
theorem iC(hc:X.calm=true):ID X (.builtin "sum") (λxs H Q=>∃(p:wO)(ns:wB),xs=[.ref p]/\HK X.K H p (ns.map V.int)/\Q (.int ns.sum) H):=by
 intro Fj s σ H xs us Q I r h
 obtain⟨p,ns,rfl,hq,q⟩:=h
 obtain⟨u,rfl,ru⟩:=K5 r
 cases ru
 obtain⟨its,rv,ht,_⟩:=I.tuple hq
 exact iP (I.ok.hd hc) (show s.heap.IsTuple p its.toArray from ht) (LR rv) λh' tk t' hk=>⟨.int ns.sum,H,I.kept (t':=tk) hk,⟨t',rfl⟩,q⟩
end
def HX(H H':Hp):Prop:=∀p xs,H p=some (.tup xs)->H' p=some (.tup xs)
theorem HX.refl(H:Hp):HX H H:=λ_ _ h=>h
theorem HX.trans{H H1 H2:Hp}(a:HX H H1)(b:HX H1 H2):HX H H2:=λp xs h=>b p xs (a p xs h)
theorem HX.same{H H':Hp}(a:Gh H H'):HX H H':=λp xs h=>a p _ h
class Dat (α:Type) where
 is:Hp->V->α->Prop
 mono:∀{H H':Hp}{v:V}{a:α},HX H H'->is H v a->is H' v a
 inj:∀{H:Hp}{v:V}{a b:α},is H v a->is H v b->a=b
 dep:Nat
 eqb:α->α->Bool
 eqb_iff:∀a b,eqb a b=true↔a=b
 eqAt:∀{X:Cx}{Fj:wF}{σ:St}{H:Hp}{s:wM}{A:Around}{v v':V}{u u':wN}{a b:α},Inv X Fj σ H s->A.units+dep<cLine->is H v a->is H v' b->HE v u->HE v' u'->SeqAt.EqAt A s u u' (eqb a b)
instance:Dat Int where
 is:=λ_ v n=>v=.int n
 mono:=λ_ h=>h
 inj:=λh h'=>by rw[h]at h';cases h';rfl
 dep:=0
 eqb:=λa b=>a==b
 eqb_iff:=λa b=>by simp
 eqAt:=λI hu h h' r r'=>by
  subst h h'
  obtain⟨t,rfl⟩:=r
  obtain⟨t',rfl⟩:=r'
  exact Ee _ _ _ _
theorem Paired.get{α β:Type}{F:α->β->Prop}:∀{l:List α}{m:List β}(r:Paired F l m){i:Nat}{a:α},l[i]?=some a->∃b,m[i]?=some b/\F a b
 |_,_,.nil,_,_,e=>by simp at e
 |_,_,.cons r t,0,_,e=>by simp at e;subst e;exact⟨_,rfl,r⟩
 |_,_,.cons r t,i+1,a,e=>by
  obtain⟨b,h1,h2⟩:=Paired.get t (i:=i) (a:=a) (by simpa using e)
  exact⟨b,by simpa using h1,h2⟩
theorem Paired.injR{α β:Type}{F:α->β->Prop}(hf:∀a b b',F a b->F a b'->b=b'):∀{l:List α}{m m':List β},Paired F l m->Paired F l m'->m=m'
 |_,_,_,.nil,.nil=>rfl
 |_,_,_,.cons r t,.cons r' t'=>by rw[hf _ _ _ r r',Paired.injR hf t t']
theorem Paired.app{α β:Type}{F:α->β->Prop}:∀{l l':List α}{m m':List β},Paired F l m->Paired F l' m'->Paired F (l++l') (m++m')
 |_,_,_,_,.nil,h=>h
 |_,_,_,_,.cons r t,h=>.cons r (Paired.app t h)
noncomputable def JL{α:Type}(e:α->α->Bool):List α->List α->Bool
 |[],[]=>true
 |a::l,b::m=>e a b&&JL e l m
 |_,_=>false
theorem QO{α:Type}{e:α->α->Bool}(h:∀a b,e a b=true↔a=b):∀l m,JL e l m=true↔l=m
 |[],[]=>by simp [JL]
 |[],_::_=>by simp [JL]
 |_::_,[]=>by simp [JL]
 |a::l,b::m=>by simp [JL,h a b,QO h l m]
noncomputable def Ko{α:Type}(e:α->α->Bool)(l m:List α)(j:Nat):Bool:=match l[j]?,m[j]? with
 |some a,some b=>e a b
 |_,_=>false
theorem SW{α:Type}(e:α->α->Bool):∀l m:List α,((List.range (min l.length m.length)).all (Ko e l m)&&l.length==m.length)=JL e l m
 |[],[]=>by simp [JL]
 |[],_::_=>by simp [JL]
 |_::_,[]=>by simp [JL]
 |a::l,b::m=>by
  have ih:=SW e l m
  show((List.range (min (l.length+1) (m.length+1))).all (Ko e (a::l) (b::m))&&(l.length+1==m.length+1))=(e a b&&JL e l m)
  rw[<-ih,Nat.add_min_add_right,DI,CI,Dn]
  have e0:Ko e (a::l) (b::m) 0=e a b:=rfl
  have e1:(Ko e (a::l) (b::m) ∘ Nat.succ)=Ko e l m:=by funext j;rfl
  have e2:(l.length+1==m.length+1)=(l.length==m.length):=by simp
  rw[e0,e1,e2,Bool.and_assoc]
section
variable{α:Type}[D:Dat α]
abbrev Hs(H:Hp)(vs:List V)(l:List α):Prop:=Paired (λv a=>D.is H v a) vs l
theorem Hs.mono{H H':Hp}{vs:List V}{l:List α}(t:HX H H')(h:Hs H vs l):Hs H' vs l:=Ch (λ_ _ q=>D.mono t q) h
theorem Hs.inj{H:Hp}{vs:List V}{l m:List α}(h:Hs H vs l)(h':Hs H vs m):l=m:=Paired.injR (F:=λv a=>D.is H v a) (λ_ _ _ q q'=>D.inj q q') h h'
theorem S0{X:Cx}{Fj:wF}{σ:St}{H:Hp}{s:wM}{A:Around}{vs vs':List V}{its its':wC}{l m:List α}(I:Inv X Fj σ H s)(hu:A.units+D.dep<cLine)(h:Hs H vs l)(h':Hs H vs' m)(r:HF vs its)(r':HF vs' its') :
  ∀j (h1:j<its.toArray.size) (h2:j<its'.toArray.size),SeqAt.EqAt A s its.toArray[j] its'.toArray[j] (Ko D.eqb l m j):=by
 intro j h1 h2
 have l1:=r.length
 have l2:=r'.length
 have k1:j<its.length:=by simpa using h1
 have k2:j<its'.length:=by simpa using h2
 have g1:vs[j]?=some vs[j]:=AT (by lia)
 have g2:vs'[j]?=some vs'[j]:=AT (by lia)
 obtain⟨u,e1,ru⟩:=r.get g1
 obtain⟨u',e2,ru'⟩:=r'.get g2
 obtain⟨a,f1,ra⟩:=Paired.get h g1
 obtain⟨b,f2,rb⟩:=Paired.get h' g2
 have q1:its.toArray[j]=u:=by
  have:its[j]=u:=by rw[AT k1]at e1;exact Ap e1
  simpa using this
 have q2:its'.toArray[j]=u':=by
  have:its'[j]=u':=by rw[AT k2]at e2;exact Ap e2
  simpa using this
 have q3:Ko D.eqb l m j=D.eqb a b:=by unfold Ko;rw[f1,f2]
 rw[q1,q2,q3]
 exact D.eqAt I hu ra rb ru ru'
instance Vi:Dat (List α) where
 is:=λH v l=>∃p vs,v=.ref p/\H p=some (.tup vs)/\Hs H vs l
 mono:=λt ⟨p,vs,e,h,i⟩=>⟨p,vs,e,t p vs h,Hs.mono t i⟩
 inj:=λ⟨p,vs,e,h,i⟩ ⟨p',vs',e',h',i'⟩=>by
  subst e
  cases e'
  rw[h]at h'
  cases h'
  exact Hs.inj i i'
 dep:=D.dep+1
 eqb:=JL D.eqb
 eqb_iff:=QO D.eqb_iff
 eqAt:=λ{X Fj σ H s A v v' u u' l m} I hu h h' r r'=>by
  obtain⟨p,vs,rfl,h,i⟩:=h
  obtain⟨p',vs',rfl,h',i'⟩:=h'
  cases r
  cases r'
  by_cases e:p=p'
  ·subst e
   rw[h]at h'
   cases h'
   have q:l=m:=Hs.inj i i'
   rw[(QO D.eqb_iff l m).mpr q]
   exact FV _
  ·obtain⟨its,rv,ht,_⟩:=I.tuple (HK.of h)
   obtain⟨its',rv',ht',_⟩:=I.tuple (HK.of h')
   have hl:its.toArray.size=l.length:=by have:=rv.length;have:=AL i;simp;lia
   have hm:its'.toArray.size=m.length:=by have:=rv'.length;have:=AL i';simp;lia
   have q:=Eu (A:=A) (s:=s) (e:=Ko D.eqb l m) (show s.heap.IsTuple p its.toArray from ht) (show s.heap.IsTuple p' its'.toArray from ht') (by lia)
    (S0 I (A:=A.in1) (by show A.units+1+D.dep<cLine;lia) i i' rv rv')
   rw[hl,hm,SW]at q
   exact SeqAt.EqAt.of_refs e q
def Gf(H:Hp)(a:wO)(l:List α):Prop:=∃vs,H a=some (.lst vs)/\Hs H vs l
theorem Gf.mono{H H':Hp}{a:wO}{l:List α}(e:Gh H H')(h:Gf H a l):Gf H' a l:=by
 obtain⟨vs,q,i⟩:=h
 exact⟨vs,e _ _ q,Hs.mono (HX.same e) i⟩
end
section
variable{α β:Type}[D:Dat α][D2:Dat β]
instance WO:Dat (α×β) where
 is:=λH v x=>∃p a b,v=.ref p/\H p=some (.tup [a,b])/\D.is H a x.1/\D2.is H b x.2
 mono:=λt ⟨p,a,b,e,h,i,j⟩=>⟨p,a,b,e,t _ _ h,D.mono t i,D2.mono t j⟩
 inj:=λ⟨p,a,b,e,h,i,j⟩ ⟨p',a',b',e',h',i',j'⟩=>by
  subst e
  cases e'
  rw[h]at h'
  cases h'
  exact E7 (D.inj i i') (D2.inj j j')
 dep:=max D.dep D2.dep+1
 eqb:=λx y=>D.eqb x.1 y.1&&D2.eqb x.2 y.2
 eqb_iff:=λx y=>by rw[AK,D.eqb_iff,D2.eqb_iff,Prod.ext_iff]
 eqAt:=λ{X Fj σ H s A v v' u u' l m} I hu h h' r r'=>by
  obtain⟨p,a,b,rfl,h,i,j⟩:=h
  obtain⟨p',a',b',rfl,h',i',j'⟩:=h'
  cases r
  cases r'
  by_cases e:p=p'
  ·subst e
   rw[h]at h'
   cases h'
   rw[(D.eqb_iff _ _).mpr (D.inj i i'),(D2.eqb_iff _ _).mpr (D2.inj j j')]
   exact FV _
  ·obtain⟨its,rv,ht,_⟩:=I.tuple (HK.of h)
   obtain⟨its',rv',ht',_⟩:=I.tuple (HK.of h')
   obtain⟨w1,w2,rfl,r1,r2⟩:=Mv rv
   obtain⟨z1,z2,rfl,t1,t2⟩:=Mv rv'
   have q:=Eu (A:=A) (s:=s) (e:=λk=>if k=0 then D.eqb l.1 m.1 else D2.eqb l.2 m.2) (show s.heap.IsTuple p _ from ht) (show s.heap.IsTuple p' _ from ht') (by lia)
    (λk h1 h2=>by
     have hk:k=0∨k=1:=by
      have:k<2:=h1
      lia
     rcases hk with rfl|rfl
     ·exact D.eqAt (A:=A.in1) I (by show A.units+1+D.dep<cLine;lia) i i' r1 t1
     ·exact D2.eqAt (A:=A.in1) I (by show A.units+1+D2.dep<cLine;lia) j j' r2 t2)
   have e2:((List.range (min [w1,w2].toArray.size [z1,z2].toArray.size)).all (λk=>if k=0 then D.eqb l.1 m.1 else D2.eqb l.2 m.2)&&[w1,w2].toArray.size==[z1,z2].toArray.size)=(D.eqb l.1 m.1&&D2.eqb l.2 m.2):=by
    simp [Bo]
   rw[e2]at q
   exact SeqAt.EqAt.of_refs e q
end
section
variable{X:Cx}{α:Type}[D:Dat α]
theorem uQ{Fj:wF}{σ:St}{H:Hp}{s:wM}{A:Around}{a b:wO}{l m:List α}(I:Inv X Fj σ H s)(hu:A.units+(D.dep+1)<cLine)(ha:Gf H a l)(hb:Gf H b m) :
  SeqAt.RcAt A s (.ref a) (.ref b) (JL D.eqb l m):=by
 obtain⟨vs,ha,i⟩:=ha
 obtain⟨vs',hb,i'⟩:=hb
 obtain⟨its,rv,ht,_⟩:=I.list (HJ.of ha)
 obtain⟨its',rv',ht',_⟩:=I.list (HJ.of hb)
 have hl:its.toArray.size=l.length:=by have:=rv.length;have:=AL i;simp;lia
 have hm:its'.toArray.size=m.length:=by have:=rv'.length;have:=AL i';simp;lia
 have all:=SW D.eqb l m
 by_cases e:l.length=m.length
 ·have q:=SeqAt.RcAt.lists (A:=A) (s:=s) (e:=Ko D.eqb l m) ht.isList ht'.isList (by lia) (by lia) (S0 I (A:=A.in1) (by show A.units+1+D.dep<cLine;lia) i i' rv rv')
  rw[hl]at q
  rw[e,E8,CJ,Gn,<-e]at all
  rw[all]at q
  exact q
 ·have q:=SeqAt.RcAt.lists_lengths (A:=A) (s:=s) ht.isList ht'.isList (by rw[hl,hm];simpa using e) (by lia)
  rw[show(l.length==m.length)=false by simpa using e,Fp]at all
  rw[<-all]
  exact q
theorem Zi{Fj:wF}{σ:St}{H:Hp}{s:wM}{A:Around}{a b:wO}{l m:List α}(I:Inv X Fj σ H s)(hu:A.units+(D.dep+1)<cLine)(ha:Gf H a l)(hb:Gf H b m) :
  SeqAt.RcNeAt A s (.ref a) (.ref b) (!JL D.eqb l m):=by
 obtain⟨vs,ha,i⟩:=ha
 obtain⟨vs',hb,i'⟩:=hb
 obtain⟨its,rv,ht,_⟩:=I.list (HJ.of ha)
 obtain⟨its',rv',ht',_⟩:=I.list (HJ.of hb)
 have hl:its.toArray.size=l.length:=by have:=rv.length;have:=AL i;simp;lia
 have hm:its'.toArray.size=m.length:=by have:=rv'.length;have:=AL i';simp;lia
 have all:=SW D.eqb l m
 by_cases e:l.length=m.length
 ·have q:=SeqAt.RcNeAt.lists (A:=A) (s:=s) (e:=Ko D.eqb l m) ht.isList ht'.isList (by lia) (by lia) (S0 I (A:=A.in1) (by show A.units+1+D.dep<cLine;lia) i i' rv rv')
  rw[hl]at q
  rw[e,E8,CJ,Gn,<-e]at all
  rw[all]at q
  exact q
 ·have q:=SeqAt.RcNeAt.lists_lengths (A:=A) (s:=s) ht.isList ht'.isList (by rw[hl,hm];simpa using e) (by lia)
  rw[show(l.length==m.length)=false by simpa using e,Fp]at all
  rw[<-all]
  exact q
def XH(α:Type)[Dat α]:R2:=λx y H Q=>∃(a b:wO)(l m:List α),x=.ref a/\y=.ref b/\Gf H a l/\Gf H b m/\Q (.bl (!JL (Dat.eqb (α:=α)) l m)) H
theorem Kz(hu:X.A.units+(D.dep+1)<cLine):IX X (compareOp .NotEq) (XH α):=by
 intro Fj s σ H x y v u Q I rx ry h
 obtain⟨a,b,l,m,rfl,rfl,ha,hb,q⟩:=h
 cases rx
 cases ry
 exact(Zi I hu ha hb) X.prog X.w X.xe _ ⟨.bl _,H,I,rfl,q⟩
end
end
end L2.Ev
namespace L2.Ts
open PySem PyProof.Rows
noncomputable def kv(rk:Keyed->Nat)(xs:Array Keyed)(i:Nat):Nat:=match xs[i]? with
 |some p=>rk p
 |none=>0
def JD(rk:Keyed->Nat)(xs:Array Keyed)(a b:Nat):Prop:=∀i j,a<=i->i<=j->j<b->kv rk xs i<=kv rk xs j
def SX(rk:Keyed->Nat)(xs:Array Keyed)(a b:Nat):Prop:=∀i j,a<=i->i<=j->j<b->kv rk xs j<=kv rk xs i
theorem IV{rk:Keyed->Nat}{xs:Array Keyed}{i:Nat}{p:Keyed}(h:xs[i]?=some p):kv rk xs i=rk p:=by unfold kv;rw[h]
theorem LC{rk:Keyed->Nat}{xs ys:Array Keyed}{i j:Nat}(h:xs[i]?=ys[j]?):kv rk xs i=kv rk ys j:=by unfold kv;rw[h]
structure Nx(lo:Nat)(st st':SortSt):Prop where
 kind:kindOf st'=kindOf st
 failed:failedOf st'=failedOf st
 pend:pendingOf st'=pendingOf st
 perm:(arrOf st').Perm (arrOf st)
 below:∀k:Nat,k<lo->(arrOf st')[k]?=(arrOf st)[k]?
theorem Nx.refl(lo:Nat)(st:SortSt):Nx lo st st:=⟨rfl,rfl,rfl,Array.Perm.refl _,λ_ _=>rfl⟩
theorem Nx.trans{lo:Nat}{a b c:SortSt}(h:Nx lo a b)(q:Nx lo b c):Nx lo a c:=⟨q.kind.trans h.kind,q.failed.trans h.failed,q.pend.trans h.pend,q.perm.trans h.perm,λk hk=>(q.below k hk).trans (h.below k hk)⟩
theorem Nx.size{lo:Nat}{a b:SortSt}(h:Nx lo a b):(arrOf b).size=(arrOf a).size:=h.perm.size_eq
theorem Sr{rk:Keyed->Nat}{xs:Array Keyed}{i j:Nat}(hj:j<=xs.size)(k:Nat):kv rk (mirror xs i j ((j-i) / 2)) k=if i<=k/\k<j then kv rk xs (i+j-1-k) else kv rk xs k:=by
 have e:=getElem?_mirror_all (i:=i) hj k
 split
 ·rename_i h;rw[AF h]at e;exact LC e
 ·rename_i h;rw[AD h]at e;exact LC e
theorem Ub{rk:Keyed->Nat}{xs:Array Keyed}{src d:Nat}(hs:src<xs.size)(hd:d<=src)(k:Nat) :
  kv rk (bubble xs src d) k=if k=src-d then kv rk xs src else if src-d<k/\k<=src then kv rk xs (k-1) else kv rk xs k:=by
 have e:=getElem?_bubble hs d hd k
 split
 ·rename_i h;rw[AF h]at e;exact LC e
 ·rename_i h
  rw[AD h]at e
  split
  ·rename_i h2;rw[AF h2]at e;exact LC e
  ·rename_i h2;rw[AD h2]at e;exact LC e
theorem V7{lo i j:Nat}{st:SortSt}(hi:lo<=i)(hj:j<=(arrOf st).size):Nx lo st (setArr st (mirror (arrOf st) i j ((j-i) / 2))) :=
 ⟨rfl,rfl,rfl,mirror_perm _ _ _ _,λk hk=>by
  have e:=getElem?_mirror_all (xs:=arrOf st) (i:=i) hj k
  rw[AD (by lia)]at e
  exact e⟩
theorem jT{lo src d:Nat}{st:SortSt}(hi:lo<=src-d)(hs:src<(arrOf st).size)(hd:d<=src):Nx lo st (setArr st (bubble (arrOf st) src d)) :=
 ⟨rfl,rfl,rfl,bubble_perm _ _ _,λk hk=>by
  have e:=getElem?_bubble (xs:=arrOf st) hs d hd k
  rw[AD (by lia),AD (by lia)]at e
  exact e⟩
section
variable{prog:wP}{w:wQ}{A:Around}{E:wD}{s:wM}{κ:SortKind}{M:Keyed->Prop}{rk:Keyed->Nat}
def KA(prog:wP)(w:wQ)(A:Around)(s:wM)(κ:SortKind)(M:Keyed->Prop)(rk:Keyed->Nat):Prop :=
 ∀x y,M x->M y->∀Q:Bool->wM->Prop,Q (decide (rk x<rk y)) s->wpAny (model prog w) A (keyLt' κ x.1 y.1) Q (λ_ _=>False) s
theorem T9(h:KA prog w A s κ M rk){x y:Keyed}{st:SortSt}{Q:Option Bool->SortSt->Prop}(hk:kindOf st=κ)(hx:M x)(hy:M y)(q:Q (some (decide (rk x<rk y))) st) :
  wpS (model prog w) A E s (lt' x y) Q st:=by
 rw[lt'_eq]
 refine AQ (Dv ?_)
 rw[hk]
 refine AQ (EZ (DZ (BI (h x y hx hy (λb s'=>s'=s/\b=decide (rk x<rk y)) ⟨rfl,rfl⟩) (λb s' hb=>?_) λ_ _ z=>z.elim)))
 obtain⟨h1,rfl⟩:=hb
 exact⟨h1,Ac q⟩
theorem JJ{arr:Array Keyed}{i:Nat}{p:Keyed}{st:SortSt}{Q:Keyed->SortSt->Prop}(h:arr[i]?=some p)(q:Q p st):wpS (model prog w) A E s (elem' arr i) Q st:=by
 rw[elem'_eq,h]
 exact Ac q
def All(M:Keyed->Prop)(xs:Array Keyed):Prop:=∀(i:Nat) p,xs[i]?=some p->M p
theorem All.perm{xs ys:Array Keyed}(h:All M xs)(p:ys.Perm xs):All M ys:=λi x e=>by
 have hm:x∈xs:=p.mem_iff.mp (Fq e)
 obtain⟨j,hj,ej⟩:=Array.getElem_of_mem hm
 exact h j x (by rw[AH hj,ej])
theorem U4(h:KA prog w A s κ M rk){i j:Nat}{st:SortSt}{Q:Option Bool->SortSt->Prop}(hk:kindOf st=κ)(ha:All M (arrOf st))(hi:i<(arrOf st).size)(hj:j<(arrOf st).size)
  (q:Q (some (decide (kv rk (arrOf st) i<kv rk (arrOf st) j))) st):wpS (model prog w) A E s (ltAt' i j) Q st:=by
 have ei:(arrOf st)[i]?=some (arrOf st)[i]:=AH hi
 have ej:(arrOf st)[j]?=some (arrOf st)[j]:=AH hj
 rw[ltAt'_eq]
 refine AQ (Dv ?_)
 refine AQ (JJ ei (AQ (JJ ej (T9 h hk (ha _ _ ei) (ha _ _ ej) ?_))))
 rw[IV ei,IV ej]at q
 exact q
theorem bZ(h:KA prog w A s κ M rk){lo nrem:Nat}{st:SortSt}{Q:Option Nat->SortSt->Prop}(hk:kindOf st=κ)(ha:All M (arrOf st))(hn:1<=nrem)(hz:lo+nrem<=(arrOf st).size)
  (q:∀n st',Nx lo st st'->1<=n->n<=nrem->JD rk (arrOf st') lo (lo+n)->Q (some n) st'):wpS (model prog w) A E s (countRun' lo nrem) Q st:=by
 rw[countRun'_eq]
 have asc:∀(st1:SortSt)(a:Nat)(R:Option (Option Nat)×Nat->SortSt->Prop),Nx lo st st1->1<=a->a<=nrem->JD rk (arrOf st1) lo (lo+a) ->
   (∀n,a<=n->n<=nrem->JD rk (arrOf st1) lo (lo+n)->(n=nrem∨kv rk (arrOf st1) (lo+n)<kv rk (arrOf st1) (lo+n-1))->R (none,n) st1) ->
   wpS (model prog w) A E s (forIn [a:nrem] ((none,a):Option (Option Nat)×Nat) λ_ r=>do
    let x <-ltAt' (lo+r.2) (lo+r.2-1)
    match x with
    |some c=>if c=true then pure (ForInStep.done (none,r.2)) else pure (ForInStep.yield (none,r.2+1))
    |_=>pure (ForInStep.done (some none,r.2))) R st1:=by
  intro st1 a R n1 ha1 han hs hR
  refine Bc (I:=λx c st'=>st'=st1/\c=(none,x)/\JD rk (arrOf st1) lo (lo+x)) ?step ?fin ⟨rfl,rfl,hs⟩
  case fin =>
   rintro c st' ⟨rfl,rfl,hs'⟩
   rw[show max a nrem=nrem by lia]at hs' ⊢
   exact hR nrem han (AG _) hs' (.inl rfl)
  case step =>
   rintro x c st' hax hxn ⟨rfl,rfl,hs'⟩
   dsimp only
   have hsz:=n1.size
   refine AQ (U4 h (n1.kind.trans hk) (ha.perm n1.perm) (by lia) (by lia) ?_)
   by_cases hl:kv rk (arrOf st') (lo+x)<kv rk (arrOf st') (lo+x-1)
   ·simp only[hl,Ea,CD]
    exact Ac (hR x hax (by lia) hs' (.inr hl))
   ·simp only[hl,EN,A7,Bi]
    refine Ac ⟨rfl,rfl,λi j hi hij hj=>?_⟩
    by_cases hjx:j<lo+x
    ·exact hs' i j hi hij hjx
    ·have ej:j=lo+x:=by lia
     subst ej
     by_cases hi':i=lo+x
     ·subst hi';exact AG _
     ·have:=hs' i (lo+x-1) hi (by lia) (by lia)
      lia
 have one:JD rk (arrOf st) lo (lo+1):=λi j h1 h2 h3=>by
  have e:i=j:=by lia
  subst e
  exact AG _
 refine AQ (asc st 1 _ (Nx.refl _ _) (AG _) hn one λn hn1 hn2 hs hnd=>?_)
 dsimp only
 by_cases hnn:n=nrem
 ·subst hnn
  rw[AF (by simp)]
  exact Ac (q n st (Nx.refl _ _) hn1 (AG _) hs)
 rw[AD (by simpa using hnn)]
 have hlt:kv rk (arrOf st) (lo+n)<kv rk (arrOf st) (lo+n-1):=hnd.resolve_left hnn
 have key:∀K:StateT SortSt Sem (Option Nat),(∀st1,Nx lo st st1->SX rk (arrOf st1) lo (lo+n+1)->wpS (model prog w) A E s K Q st1) ->
   wpS (model prog w) A E s (if n>1 then do
    let x <-ltAt' lo (lo+n-1)
    match x with
    |some c=>if c=true then pure (some n) else do
     reverseSlice' lo (lo+n)
     K
    |_=>pure none
   else K) Q st:=by
  intro K hK
  by_cases h1:n>1
  ·rw[AF h1]
   refine AQ (U4 h hk ha (by lia) (by lia) ?_)
   by_cases hl:kv rk (arrOf st) lo<kv rk (arrOf st) (lo+n-1)
   ·simp only[hl,Ea,CD]
    exact Ac (q n st (Nx.refl _ _) hn1 hn2 hs)
   ·simp only[hl,EN,A7,Bi]
    refine AQ (Fk (hK _ (V7 (AG _) (by lia)) ?_))
    have alike:∀k,lo<=k->k<lo+n->kv rk (arrOf st) k=kv rk (arrOf st) lo:=λk h2 h3=>by
     have e1:=hs lo k (AG _) h2 h3
     have e2:=hs k (lo+n-1) h2 (by lia) (by lia)
     lia
    have same:∀k,kv rk (mirror (arrOf st) lo (lo+n) ((lo+n-lo) / 2)) k=kv rk (arrOf st) k:=λk=>by
     rw[Sr (by lia)]
     split
     ·rw[alike _ (by lia) (by lia),alike k (by lia) (by lia)]
     ·rfl
    intro i j hi hij hj
    show kv rk (mirror (arrOf st) lo (lo+n) ((lo+n-lo) / 2)) j<=kv rk (mirror (arrOf st) lo (lo+n) ((lo+n-lo) / 2)) i
    rw[same,same]
    by_cases hj':j<lo+n
    ·rw[alike j (by lia) hj',alike i hi (by lia)];exact AG _
    ·have ej:j=lo+n:=by lia
     subst ej
     by_cases hi':i<lo+n
     ·have e1:=alike i hi hi'
      have e2:=alike (lo+n-1) (by lia) (by lia)
      lia
     ·have ei:i=lo+n:=by lia
      subst ei;exact AG _
  ·rw[AD h1]
   have en:n=1:=by lia
   subst en
   refine hK st (Nx.refl _ _) λi j hi hij hj=>?_
   by_cases e:i=j
   ·subst e;exact AG _
   ·have e1:i=lo:=by lia
    have e2:j=lo+1:=by lia
    subst e1 e2
    exact BY hlt
 refine key _ λst1 n1 hd=>?_
 have sz1:=n1.size
 refine AQ (EZ (CU ⟨rfl,?_⟩))
 refine AQ (Cf (Bc (I:=λx c st'=>∃neq,c=(none,x,neq)/\Nx lo st st'/\SX rk (arrOf st') lo (lo+x)/\neq+1<=x/\(∀i,lo+x-(neq+1)<=i->i<lo+x->kv rk (arrOf st') i=kv rk (arrOf st') (lo+x-1)))
  (Q:=λc st'=>∃x neq,c=(none,x,neq)/\n+1<=x/\x<=nrem/\Nx lo st st'/\SX rk (arrOf st') lo (lo+x)/\neq+1<=x/\(∀i,lo+x-(neq+1)<=i->i<lo+x->kv rk (arrOf st') i=kv rk (arrOf st') (lo+x-1)))
  ?step ?fin ⟨0,rfl,n1,hd,by lia,λi h1 h2=>by congr 1;lia⟩) ?post)
 case fin =>
  rintro c st' ⟨neq,rfl,n',hd',hq,he⟩
  rw[show max (n+1) nrem=nrem by lia]at hd' hq he ⊢
  exact⟨nrem,neq,rfl,by lia,AG _,n',hd',hq,he⟩
 case step =>
  rintro x c st' hax hxn ⟨neq,rfl,n',hd',hq,he⟩
  dsimp only
  have sz':=n'.size
  have grow:∀st2,Nx lo st st2->(∀k,kv rk (arrOf st2) k=kv rk (arrOf st') k)->kv rk (arrOf st') (lo+x)<=kv rk (arrOf st') (lo+x-1)->SX rk (arrOf st2) lo (lo+(x+1)):=by
   intro st2 _ e hle i j hi hij hj
   rw[e,e]
   by_cases hjx:j<lo+x
   ·exact hd' i j hi hij hjx
   ·have ej:j=lo+x:=by lia
    subst ej
    by_cases hi':i=lo+x
    ·subst hi';exact AG _
    ·have:=hd' i (lo+x-1) hi (by lia) (by lia)
     lia
  refine AQ (U4 h (n'.kind.trans hk) (ha.perm n'.perm) (by lia) (by lia) ?_)
  by_cases hl:kv rk (arrOf st') (lo+x)<kv rk (arrOf st') (lo+x-1)
  ·simp only[hl,Ea,CD]
   by_cases hq0:neq>0
   ·rw[AF hq0]
    have n2:Nx lo st' (setArr st' (mirror (arrOf st') (lo+x-(neq+1)) (lo+x) ((lo+x-(lo+x-(neq+1))) / 2))):=V7 (by lia) (by lia)
    have same:∀k,kv rk (mirror (arrOf st') (lo+x-(neq+1)) (lo+x) ((lo+x-(lo+x-(neq+1))) / 2)) k=kv rk (arrOf st') k:=λk=>by
     rw[Sr (by lia)]
     split
     ·rw[he _ (by lia) (by lia),he k (by lia) (by lia)]
     ·rfl
    refine AQ (Fk (Ac ⟨0,rfl,n'.trans n2,grow _ (n'.trans n2) same (BY hl),by lia,λi h1 h2=>by congr 1;lia⟩))
   ·rw[AD hq0]
    exact Ac ⟨0,rfl,n',grow _ n' (λ_=>rfl) (BY hl),by lia,λi h1 h2=>by congr 1;lia⟩
  ·simp only[hl,EN,A7,Bi]
   refine AQ (U4 h (n'.kind.trans hk) (ha.perm n'.perm) (by lia) (by lia) ?_)
   by_cases hl2:kv rk (arrOf st') (lo+x-1)<kv rk (arrOf st') (lo+x)
   ·simp only[hl2,Ea,CD]
    exact Ac ⟨x,neq,rfl,hax,by lia,n',hd',hq,he⟩
   ·simp only[hl2,EN,A7,Bi]
    refine Ac ⟨neq+1,rfl,n',grow _ n' (λ_=>rfl) (by lia),by lia,λi h1 h2=>?_⟩
    rw[show lo+(x+1)-1=lo+x by lia]
    by_cases hi':i=lo+x
    ·subst hi';rfl
    ·rw[he i (by lia) (by lia)];lia
 case post =>
  rintro c st' ⟨x,neq,rfl,hx1,hx2,n',hd',hq,he⟩
  dsimp only
  have sz':=n'.size
  have last:∀(K:Option (Option Nat)×Nat->StateT SortSt Sem (Option Nat)),(∀m,K (none,m)=pure (some m))->∀st2,Nx lo st st2->SX rk (arrOf st2) lo (lo+x)->wpS (model prog w) A E s (do
    reverseSlice' lo (lo+x)
    let r <-forIn [x:nrem] ((none,x):Option (Option Nat)×Nat) λ_ r=>do
     let x <-ltAt' (lo+r.2) (lo+r.2-1)
     match x with
     |some c=>if c=true then pure (ForInStep.done (none,r.2)) else pure (ForInStep.yield (none,r.2+1))
     |_=>pure (ForInStep.done (some none,r.2))
    K r) Q st2:=by
   intro K hK st2 n2 hd2
   have sz2:=n2.size
   refine AQ (Fk ?_)
   have n3:Nx lo st2 (setArr st2 (mirror (arrOf st2) lo (lo+x) ((lo+x-lo) / 2))):=V7 (AG _) (by lia)
   refine AQ (asc _ x _ (n2.trans n3) (by lia) hx2 ?_ λm hm1 hm2 hs _=>?_)
   ·intro i j hi hij hj
    show kv rk (mirror (arrOf st2) lo (lo+x) ((lo+x-lo) / 2)) i<=kv rk (mirror (arrOf st2) lo (lo+x) ((lo+x-lo) / 2)) j
    rw[Sr (by lia),Sr (by lia),AF (by lia),AF (by lia)]
    exact hd2 _ _ (by lia) (by lia) (by lia)
   ·rw[hK];exact Ac (q m _ (n2.trans n3) (by lia) hm2 hs)
  by_cases hq0:neq>0
  ·rw[AF hq0]
   have n2:Nx lo st' (setArr st' (mirror (arrOf st') (lo+x-(neq+1)) (lo+x) ((lo+x-(lo+x-(neq+1))) / 2))):=V7 (by lia) (by lia)
   have same:∀k,kv rk (mirror (arrOf st') (lo+x-(neq+1)) (lo+x) ((lo+x-(lo+x-(neq+1))) / 2)) k=kv rk (arrOf st') k:=λk=>by
    rw[Sr (by lia)]
    split
    ·rw[he _ (by lia) (by lia),he k (by lia) (by lia)]
    ·rfl
   refine AQ (Fk (last _ (λ_=>rfl) _ (n'.trans n2) λi j hi hij hj=>?_))
   show kv rk (mirror _ _ _ _) j<=kv rk (mirror _ _ _ _) i
   rw[same,same]
   exact hd' i j hi hij hj
  ·rw[AD hq0]
   exact last _ (λ_=>rfl) st' n' hd'
theorem Zj(h:KA prog w A s κ M rk){lo n ok:Nat}{st:SortSt}{Q:Bool->SortSt->Prop}(hk:kindOf st=κ)(ha:All M (arrOf st))(hn:lo+n<=(arrOf st).size)(hok:ok<=n)(hs:JD rk (arrOf st) lo (lo+ok))
  (q:∀st',Nx lo st st'->JD rk (arrOf st') lo (lo+n)->Q true st'):wpS (model prog w) A E s (binarySort' lo n ok) Q st:=by
 rw[binarySort'_eq]
 refine AQ (Cf (Bc (I:=λk c st'=>c=(none,())/\Nx lo st st'/\JD rk (arrOf st') lo (lo+min k n))
  (Q:=λc st'=>c=(none,())/\Nx lo st st'/\JD rk (arrOf st') lo (lo+n)) ?step ?fin ?init) ?post)
 case post =>
  rintro c st' ⟨rfl,n',hs'⟩
  exact Ac (q st' n' hs')
 case init =>
  refine⟨rfl,Nx.refl _ _,λi j hi hij hj=>?_⟩
  by_cases h1:ok=0
  ·have e:i=j:=by lia
   subst e;exact AG _
  ·exact hs i j hi hij (by lia)
 case fin =>
  rintro c st' ⟨hc,n',hs'⟩
  refine⟨hc,n',?_⟩
  rwa [show min (max (max ok 1) n) n=n by lia]at hs'
 case step =>
  rintro k c st' hak hkn ⟨rfl,n',hs'⟩
  rw[show min k n=k by lia]at hs'
  have sz':=n'.size
  refine AQ (Cf (Bc (I:=λx c st''=>st''=st'/\∃l r,c=(none,l,r)/\l<=r/\r<=k/\r-l<=k-x /\
    (∀i,i<l->kv rk (arrOf st') (lo+i)<=kv rk (arrOf st') (lo+k))/\(∀i,r<=i->i<k->kv rk (arrOf st') (lo+k)<kv rk (arrOf st') (lo+i)))
   (Q:=λc st''=>st''=st'/\∃l r,c=(none,l,r)/\l<=k /\
    (∀i,i<l->kv rk (arrOf st') (lo+i)<=kv rk (arrOf st') (lo+k))/\(∀i,l<=i->i<k->kv rk (arrOf st') (lo+k)<kv rk (arrOf st') (lo+i))) ?istep ?ifin ?iinit) ?ipost)
  case iinit=>exact⟨rfl,0,k,rfl,by lia,by lia,by lia,λi hi=>by lia,λi h1 h2=>by lia⟩
  case ifin =>
   rintro c st'' ⟨rfl,l,r,rfl,hlr,hrk,hm,hlo,hhi⟩
   have e:l=r:=by lia
   subst e
   exact⟨rfl,l,l,rfl,hrk,hlo,hhi⟩
  case istep =>
   rintro x c st'' _ hxk ⟨rfl,l,r,rfl,hlr,hrk,hm,hlo,hhi⟩
   dsimp only
   by_cases hge:l ≥ r
   ·rw[AF hge]
    have e:l=r:=by lia
    subst e
    exact Ac ⟨rfl,l,l,rfl,hrk,hlo,hhi⟩
   ·rw[AD hge]
    refine AQ (U4 h (n'.kind.trans hk) (ha.perm n'.perm) (by lia) (by lia) ?_)
    by_cases hl:kv rk (arrOf st'') (lo+k)<kv rk (arrOf st'') (lo+(l+r) / 2)
    ·simp only[hl,Ea,CD]
     refine Ac ⟨rfl,l,(l+r) / 2,rfl,by lia,by lia,by lia,hlo,λi h1 h2=>?_⟩
     exact Ai hl (hs' _ _ (by lia) (by lia) (by lia))
    ·simp only[hl,EN,A7,Bi]
     refine Ac ⟨rfl,(l+r) / 2+1,r,rfl,by lia,by lia,by lia,λi h1=>?_,hhi⟩
     exact A9 (hs' (lo+i) (lo+(l+r) / 2) (by lia) (by lia) (by lia)) (Nat.not_lt.mp hl)
  case ipost =>
   rintro c st'' ⟨rfl,l,r,rfl,hlk,hlo,hhi⟩
   show wpS _ _ _ _ (do moveDown' (lo+k) (lo+l);pure (ForInStep.yield (none,()))) _ _
   rw[moveDown'_eq]
   refine AQ (Ck (Ac ⟨rfl,n'.trans (jT (by lia) (by lia) (by lia)),?_⟩))
   rw[show min (k+1) n=k+1 by lia]
   intro i j hi hij hj
   show kv rk (bubble (arrOf st'') (lo+k) (lo+k-(lo+l))) i<=kv rk (bubble (arrOf st'') (lo+k) (lo+k-(lo+l))) j
   rw[Ub (by lia) (by lia),Ub (by lia) (by lia),show lo+k-(lo+k-(lo+l))=lo+l by lia]
   have hlo':∀z,lo<=z->z<lo+l->kv rk (arrOf st'') z<=kv rk (arrOf st'') (lo+k):=λz h1 h2=>by
    have:=hlo (z-lo) (by lia)
    rwa [show lo+(z-lo)=z by lia]at this
   have hhi':∀z,lo+l<=z->z<lo+k->kv rk (arrOf st'') (lo+k)<kv rk (arrOf st'') z:=λz h1 h2=>by
    have:=hhi (z-lo) (by lia) (by lia)
    rwa [show lo+(z-lo)=z by lia]at this
   repeat' split
   all_goals first
    |(exfalso;lia)
    |exact AG _
    |exact hlo' _ (by lia) (by lia)
    |exact BY (hhi' _ (by lia) (by lia))
    |exact hs' _ _ (by lia) (by lia) (by lia)
end
noncomputable def VV:Bool->Keyed->Array Keyed->Nat->Nat->Nat->StateT SortSt Sem (Option Nat):=sortPriv% PySem.Builtin.gallop
section
variable{prog:wP}{w:wQ}{A:Around}{E:wD}{s:wM}{κ:SortKind}{M:Keyed->Prop}{rk:Keyed->Nat}
def Bd(rk:Keyed->Nat)(left:Bool)(key:Keyed)(arr:Array Keyed)(i:Nat):Prop:=if left=true then kv rk arr i<rk key else kv rk arr i<=rk key
theorem QA(h:KA prog w A s κ M rk){left:Bool}{key:Keyed}{arr:Array Keyed}{base n hint:Nat}{st:SortSt}{Q:Option Nat->SortSt->Prop}(hk:kindOf st=κ)(hM:M key)(ha:All M arr)(hz:base+n<=arr.size)(hh:hint<n)
  (hs:JD rk arr base (base+n)) (q:∀p,p<=n->(∀i,base<=i->i<base+p->Bd rk left key arr i)->(∀i,base+p<=i->i<base+n->¬ Bd rk left key arr i)->Q (some p) st) :
  wpS (model prog w) A E s (VV left key arr base n hint) Q st:=by
 have mono:∀i j,base<=i->i<=j->j<base+n->Bd rk left key arr j->Bd rk left key arr i:=λi j h1 h2 h3 b=>by
  have:=hs i j h1 h2 h3
  unfold Bd at b ⊢
  cases left
  ·simp only[A7,Bi]at b ⊢;lia
  ·simp only[CD]at b ⊢;lia
 have asks:∀(i:Nat)(R:Option Bool->SortSt->Prop),i<n->(Bd rk left key arr (base+i)->R (some true) st)->(¬ Bd rk left key arr (base+i)->R (some false) st) ->
   wpS (model prog w) A E s (do
    let x <-elem' arr (base+i)
    if left=true then lt' x key else do
     let r <-lt' key x
     pure (r.map λb=>!b)) R st:=by
  intro i R hi r1 r2
  have ei:arr[base+i]?=some arr[base+i]:=AH (by lia)
  refine AQ (JJ ei ?_)
  have ev:=IV (rk:=rk) ei
  cases left
  ·rw[AD (by decide)]
   refine AQ (T9 h hk hM (ha _ _ ei) (Ac ?_))
   by_cases c:rk key<rk arr[base+i]
   ·rw[Ab c]
    refine r2 λb=>?_
    unfold Bd at b
    rw[AD (by decide),ev]at b
    lia
   ·rw[AO c]
    refine r1 ?_
    unfold Bd
    rw[AD (by decide),ev]
    lia
  ·rw[AF rfl]
   refine T9 h hk (ha _ _ ei) hM ?_
   by_cases c:rk arr[base+i]<rk key
   ·rw[Ab c]
    refine r1 ?_
    unfold Bd
    rw[AF rfl,ev]
    exact c
   ·rw[AO c]
    refine r2 λb=>?_
    unfold Bd at b
    rw[AF rfl,ev]at b
    exact c b
 have srch:∀(K:Option (Option Nat)×Nat×Nat->StateT SortSt Sem (Option Nat)),(∀l p,K (none,l,p)=pure (some p))->∀lo hi,lo<=hi->hi<=n->(∀i,base<=i->i<base+lo->Bd rk left key arr i)->(∀i,base+hi<=i->i<base+n->¬ Bd rk left key arr i) ->
   ∀body,(∀x l p,body x (none,l,p)=if l ≥ p then pure (ForInStep.done (none,l,p)) else do
    let c <-(do
     let x <-elem' arr (base+(l+(p-l) / 2))
     if left=true then lt' x key else do
      let r <-lt' key x
      pure (r.map λb=>!b))
    match c with
    |some more=>if more=true then pure (ForInStep.yield (none,l+(p-l) / 2+1,p)) else pure (ForInStep.yield (none,l,l+(p-l) / 2))
    |_=>pure (ForInStep.done (some none,l,p))) ->
   wpS (model prog w) A E s (do let r <-forIn [0:n] ((none,lo,hi):Option (Option Nat)×Nat×Nat) body;K r) Q st:=by
  intro K hK lo hi hlh hhn h1 h2 body hb
  refine AQ (Bc (I:=λx c st'=>st'=st/\∃l p,c=(none,l,p)/\l<=p/\p<=n/\p-l<=n-x/\(∀i,base<=i->i<base+l->Bd rk left key arr i)/\(∀i,base+p<=i->i<base+n->¬ Bd rk left key arr i)) ?step ?fin ⟨rfl,lo,hi,rfl,hlh,hhn,by lia,h1,h2⟩)
  case fin =>
   rintro c st' ⟨rfl,l,p,rfl,a1,a2,a3,a4,a5⟩
   have e:l=p:=by lia
   subst e
   rw[hK]
   exact Ac (q l a2 a4 a5)
  case step =>
   rintro x c st' _ hx ⟨rfl,l,p,rfl,a1,a2,a3,a4,a5⟩
   rw[hb]
   by_cases c:l ≥ p
   ·rw[AF c]
    have e:l=p:=by lia
    subst e
    refine Ac ?_
    show wpS _ _ _ _ (K (none,l,l)) Q st'
    rw[hK]
    exact Ac (q l a2 a4 a5)
   ·rw[AD c]
    refine AQ (asks _ _ (by lia) (λb=>?_) λb=>?_)
    ·refine Ac ⟨rfl,l+(p-l) / 2+1,p,rfl,by lia,a2,by lia,λi i1 i2=>?_,a5⟩
     exact mono i _ i1 (by lia) (by lia) b
    ·refine Ac ⟨rfl,l,l+(p-l) / 2,rfl,by lia,by lia,by lia,a4,λi i1 i2=>?_⟩
     exact λbi=>b (mono _ i (by lia) i1 i2 bi)
 refine AQ (asks hint _ hh (λb=>?_) λb=>?_)
 ·dsimp only
  rw[AF rfl]
  refine AQ (Cf (Bc (I:=λx c st'=>st'=st/\∃l p,c=(none,l,p)/\l<p/\x<p/\l<n-hint/\Bd rk left key arr (base+(hint+l)))
   (Q:=λc st'=>st'=st/\∃l p,c=(none,l,p)/\l<p/\l<n-hint/\Bd rk left key arr (base+(hint+l))/\(n-hint<=p∨(p<n-hint/\¬ Bd rk left key arr (base+(hint+p))))) ?step ?fin ⟨rfl,0,1,rfl,by lia,by lia,by lia,b⟩) ?post)
  case fin =>
   rintro c st' ⟨rfl,l,p,rfl,a1,a2,a3,a4⟩
   exact⟨rfl,l,p,rfl,a1,a3,a4,.inl (by lia)⟩
  case step =>
   rintro x c st' _ hx ⟨rfl,l,p,rfl,a1,a2,a3,a4⟩
   dsimp only
   by_cases c:p ≥ n-hint
   ·rw[AF c]
    exact Ac ⟨rfl,l,p,rfl,a1,a3,a4,.inl c⟩
   ·rw[AD c]
    refine AQ (asks _ _ (by lia) (λb=>?_) λb=>?_)
    ·exact Ac ⟨rfl,p,2*p+1,rfl,by lia,by lia,by lia,b⟩
    ·exact Ac ⟨rfl,l,p,rfl,a1,a3,a4,.inr ⟨by lia,b⟩⟩
  case post =>
   rintro c st' ⟨rfl,l,p,rfl,a1,a2,a3,a4⟩
   dsimp only
   refine srch _ (λ_ _=>rfl) _ _ ?_ ?_ (λi i1 i2=>mono i _ i1 (by lia) (by lia) a3) (λi i1 i2 bi=>?_) _ λx l p=>rfl
   ·lia
   ·lia
   ·rcases a4 with a4|⟨a4,a5⟩
    ·lia
    ·exact a5 (mono _ i (by lia) (by lia) i2 bi)
 ·dsimp only
  rw[AD (by decide)]
  refine AQ (Cf (Bc (I:=λx c st'=>st'=st/\∃l p,c=(none,l,p)/\l<p/\x<p/\l<hint+1/\¬ Bd rk left key arr (base+(hint-l)))
   (Q:=λc st'=>st'=st/\∃l p,c=(none,l,p)/\l<p/\l<hint+1/\¬ Bd rk left key arr (base+(hint-l))/\(hint+1<=p∨(p<hint+1/\Bd rk left key arr (base+(hint-p))))) ?step ?fin ⟨rfl,0,1,rfl,by lia,by lia,by lia,b⟩) ?post)
  case fin =>
   rintro c st' ⟨rfl,l,p,rfl,a1,a2,a3,a4⟩
   exact⟨rfl,l,p,rfl,a1,a3,a4,.inl (by lia)⟩
  case step =>
   rintro x c st' _ hx ⟨rfl,l,p,rfl,a1,a2,a3,a4⟩
   dsimp only
   by_cases c:p ≥ hint+1
   ·rw[AF c]
    exact Ac ⟨rfl,l,p,rfl,a1,a3,a4,.inl c⟩
   ·rw[AD c]
    refine AQ (asks _ _ (by lia) (λb=>?_) λb=>?_)
    ·exact Ac ⟨rfl,l,p,rfl,a1,a3,a4,.inr ⟨by lia,b⟩⟩
    ·exact Ac ⟨rfl,p,2*p+1,rfl,by lia,by lia,by lia,b⟩
  case post =>
   rintro c st' ⟨rfl,l,p,rfl,a1,a2,a3,a4⟩
   dsimp only
   refine srch _ (λ_ _=>rfl) _ _ ?_ ?_ (λi i1 i2=>?_) (λi i1 i2 bi=>a3 (mono _ i (by lia) (by lia) i2 bi)) _ λx l p=>rfl
   ·lia
   ·lia
   ·rcases a4 with a4|⟨a4,a5⟩
    ·lia
    ·exact mono i _ i1 (by lia) (by lia) a5
end
section
abbrev Up(rk:Keyed->Nat)(l:List Keyed):Prop:=l.Pairwise λx y=>rk x<=rk y
structure J(rk:Keyed->Nat)(la lb o:List Keyed)(ia ib:Nat):Prop where
 ha:ia<=la.length
 hb:ib<=lb.length
 perm:o.Perm (la.take ia++lb.take ib)
 srt:Up rk o
 ua:∀x∈o,∀y∈la.drop ia,rk x<=rk y
 ub:∀x∈o,∀y∈lb.drop ib,rk x<=rk y
def Hu(rk:Keyed->Nat)(la lb r:List Keyed):Prop:=r.Perm (la++lb)/\Up rk r
variable{rk:Keyed->Nat}{la lb o:List Keyed}{ia ib na nb k:Nat}
theorem Pr{α:Type}(l:List α)(i k:Nat):l.drop i=(l.drop i).take k++l.drop (i+k):=by
 rw[<-List.drop_drop]
 exact(Bf k (l.drop i)).symm
theorem WV{α:Type}(l:List α)(i k:Nat):l.take (i+k)=l.take i++(l.drop i).take k:=List.take_add
theorem Up.drop{l:List Keyed}(h:Up rk l)(i:Nat):Up rk (l.drop i):=h.sublist (List.drop_sublist i l)
theorem Up.take{l:List Keyed}(h:Up rk l)(i:Nat):Up rk (l.take i):=h.sublist (List.take_sublist i l)
theorem Up.app{l m:List Keyed}(h:Up rk l)(q:Up rk m)(c:∀x∈l,∀y∈m,rk x<=rk y):Up rk (l++m):=Cv.mpr ⟨h,q,c⟩
theorem J.a(j:J rk la lb o ia ib)(sa:Up rk la)(hk:ia+k<=la.length)(h:∀x∈(la.drop ia).take k,∀y∈lb.drop ib,rk x<=rk y):J rk la lb (o++(la.drop ia).take k) (ia+k) ib:=by
 have sd:=Pr la ia k
 have up:=sa.drop ia
 rw[sd]at up
 have cr:=(Cv.mp up).2.2
 refine⟨hk,j.hb,?_,j.srt.app ((sa.drop ia).take k) λx hx y hy=>j.ua x hx y (Bp hy),λx hx y hy=>?_,λx hx y hy=>?_⟩
 ·rw[WV,Ag]
  refine(BV _ j.perm).trans ?_
  rw[Ag]
  exact Bx _ CK
 ·rcases Aq.mp hx with hx|hx
  ·exact j.ua x hx y (by rw[sd];exact Aw _ hy)
  ·exact cr x hx y hy
 ·rcases Aq.mp hx with hx|hx
  ·exact j.ub x hx y hy
  ·exact h x hx y hy
theorem J.b(j:J rk la lb o ia ib)(sb:Up rk lb)(hk:ib+k<=lb.length)(h:∀x∈(lb.drop ib).take k,∀y∈la.drop ia,rk x<=rk y):J rk la lb (o++(lb.drop ib).take k) ia (ib+k):=by
 have sd:=Pr lb ib k
 have up:=sb.drop ib
 rw[sd]at up
 have cr:=(Cv.mp up).2.2
 refine⟨j.ha,hk,?_,j.srt.app ((sb.drop ib).take k) λx hx y hy=>j.ub x hx y (Bp hy),λx hx y hy=>?_,λx hx y hy=>?_⟩
 ·rw[WV,<-Ag]
  exact BV _ j.perm
 ·rcases Aq.mp hx with hx|hx
  ·exact j.ua x hx y hy
  ·exact h x hx y hy
 ·rcases Aq.mp hx with hx|hx
  ·exact j.ub x hx y (by rw[sd];exact Aw _ hy)
  ·exact cr x hx y hy
theorem J.all(j:J rk la lb o ia ib):(o++la.drop ia++lb.drop ib).Perm (la++lb):=by
 have e:(la.take ia++lb.take ib++la.drop ia++lb.drop ib).Perm (la++lb):=by
  have e1:(la++lb)=(la.take ia++la.drop ia)++(lb.take ib++lb.drop ib):=by rw[Bf,Bf]
  rw[e1,Ag,Ag,Ag]
  refine Bx _ ?_
  rw[<-Ag,<-Ag]
  exact BV _ CK
 exact(BV _ (BV _ j.perm)).trans e
theorem J.done(j:J rk la lb o ia ib)(sa:Up rk la)(sb:Up rk lb)(h:ia=la.length∨ib=lb.length):Hu rk la lb (o++la.drop ia++lb.drop ib):=by
 refine⟨j.all,?_⟩
 rcases h with h|h
 ·rw[h,List.drop_length,BM]
  exact j.srt.app (sb.drop ib) j.ub
 ·rw[h,List.drop_length,BM]
  exact j.srt.app (sa.drop ia) j.ua
theorem J.last(j:J rk la lb o ia ib)(sa:Up rk la)(sb:Up rk lb)(h:∀y∈lb,∀x∈la.drop ia,rk y<=rk x):Hu rk la lb (o++lb.drop ib++la.drop ia):=by
 refine⟨?_,(j.srt.app (sb.drop ib) j.ub).app (sa.drop ia) λx hx y hy=>?_⟩
 ·refine List.Perm.trans ?_ j.all
  rw[Ag,Ag]
  exact Bx _ CK
 ·rcases Aq.mp hx with hx|hx
  ·exact j.ua x hx y hy
  ·exact h x (Gg hx) y hy
structure J2(rk:Keyed->Nat)(la lb o:List Keyed)(na nb:Nat):Prop where
 ha:na<=la.length
 hb:nb<=lb.length
 perm:o.Perm (la.drop na++lb.drop nb)
 srt:Up rk o
 ua:∀x∈la.take na,∀y∈o,rk x<=rk y
 ub:∀x∈lb.take nb,∀y∈o,rk x<=rk y
theorem J2.a(j:J2 rk la lb o (na+k) nb)(sa:Up rk la)(h:∀x∈(la.drop na).take k,∀y∈lb.take nb,rk y<=rk x):J2 rk la lb ((la.drop na).take k++o) na nb:=by
 have sd:=WV la na k
 have up:=sa.take (na+k)
 rw[sd]at up
 have cr:=(Cv.mp up).2.2
 have j1:=j.ha
 refine⟨by lia,j.hb,?_,((sa.drop na).take k).app j.srt λx hx y hy=>j.ua x (by rw[sd];exact Aw _ hx) y hy,λx hx y hy=>?_,λx hx y hy=>?_⟩
 ·have e:la.drop na++lb.drop nb=(la.drop na).take k++(la.drop (na+k)++lb.drop nb):=by rw[<-Ag,<-Pr la na k]
  rw[e]
  exact Bx _ j.perm
 ·rcases Aq.mp hy with hy|hy
  ·exact cr x hx y hy
  ·exact j.ua x (by rw[sd];exact BL _ hx) y hy
 ·rcases Aq.mp hy with hy|hy
  ·exact h y hy x hx
  ·exact j.ub x hx y hy
theorem J2.b(j:J2 rk la lb o na (nb+k))(sb:Up rk lb)(h:∀x∈(lb.drop nb).take k,∀y∈la.take na,rk y<=rk x):J2 rk la lb ((lb.drop nb).take k++o) na nb:=by
 have sd:=WV lb nb k
 have up:=sb.take (nb+k)
 rw[sd]at up
 have cr:=(Cv.mp up).2.2
 have j1:=j.hb
 refine⟨j.ha,by lia,?_,((sb.drop nb).take k).app j.srt λx hx y hy=>j.ub x (by rw[sd];exact Aw _ hx) y hy,λx hx y hy=>?_,λx hx y hy=>?_⟩
 ·have e:la.drop na++lb.drop nb=la.drop na++(lb.drop nb).take k++lb.drop (nb+k):=by rw[Ag,<-Pr lb nb k]
  rw[e]
  refine(Bx _ j.perm).trans ?_
  rw[<-Ag]
  exact BV _ CK
 ·rcases Aq.mp hy with hy|hy
  ·exact h y hy x hx
  ·exact j.ua x hx y hy
 ·rcases Aq.mp hy with hy|hy
  ·exact cr x hx y hy
  ·exact j.ub x (by rw[sd];exact BL _ hx) y hy
theorem J2.all(j:J2 rk la lb o na nb):(la.take na++lb.take nb++o).Perm (la++lb):=by
 have e:(la.take na++lb.take nb++(la.drop na++lb.drop nb)).Perm (la++lb):=by
  have e1:(la++lb)=(la.take na++la.drop na)++(lb.take nb++lb.drop nb):=by rw[Bf,Bf]
  rw[e1,Ag,Ag]
  refine Bx _ ?_
  rw[<-Ag,<-Ag]
  exact BV _ CK
 exact(Bx _ j.perm).trans e
theorem J2.done(j:J2 rk la lb o na nb)(sa:Up rk la)(sb:Up rk lb)(h:na=0∨nb=0):Hu rk la lb (la.take na++lb.take nb++o):=by
 refine⟨j.all,?_⟩
 rcases h with h|h
 ·rw[h,DP,FW]
  exact(sb.take nb).app j.srt j.ub
 ·rw[h,DP,BM]
  exact(sa.take na).app j.srt j.ua
theorem J2.first(j:J2 rk la lb o na nb)(sa:Up rk la)(sb:Up rk lb)(h:∀y∈lb.take nb,∀x∈la,rk y<=rk x):Hu rk la lb (lb.take nb++la.take na++o):=by
 refine⟨?_,((sb.take nb).app (sa.take na) λx hx y hy=>h x hx y (Bp hy)).app j.srt λx hx y hy=>?_⟩
 ·refine List.Perm.trans ?_ j.all
  exact BV _ CK
 ·rcases Aq.mp hx with hx|hx
  ·exact j.ub x hx y hy
  ·exact j.ua x hx y hy
def X3:Array Keyed->Array Keyed->StateT SortSt Sem (Array Keyed):=sortPriv% PySem.Builtin.mergeLo
def Wr:Array Keyed->Array Keyed->StateT SortSt Sem (Array Keyed):=sortPriv% PySem.Builtin.mergeHi
structure Gs(st st':SortSt):Prop where
 kind:kindOf st'=kindOf st
 arr:arrOf st'=arrOf st
 pend:pendingOf st'=pendingOf st
 failed:failedOf st'=failedOf st
theorem Gs.refl(st:SortSt):Gs st st:=⟨rfl,rfl,rfl,rfl⟩
theorem Gs.trans{a b c:SortSt}(h:Gs a b)(q:Gs b c):Gs a c:=⟨q.kind.trans h.kind,q.arr.trans h.arr,q.pend.trans h.pend,q.failed.trans h.failed⟩
theorem QJ(st:SortSt)(g:Nat):Gs st (SortSt.mk' (kindOf st) (arrOf st) (pendingOf st) g (failedOf st)):=⟨rfl,rfl,rfl,rfl⟩
theorem Nf{xs:Array Keyed}{i k:Nat}{x:Keyed}(h:x∈(xs.toList.drop i).take k):∃j,i<=j/\j<i+k/\j<xs.size/\kv rk xs j=rk x/\xs[j]?=some x:=by
 obtain⟨m,hm,e⟩:=List.getElem_of_mem h
 have l:=hm
 rw[Ah,BC,AR]at l
 have e2:xs[i+m]?=some x:=by
  rw[List.getElem_take,List.getElem_drop]at e
  rw[<-e,<-A6]
  exact AT (by rw[AR];lia)
 exact⟨i+m,by lia,by lia,by lia,IV e2,e2⟩
theorem Ov{xs:Array Keyed}{i:Nat}{x:Keyed}(h:x∈xs.toList.drop i):∃j,i<=j/\j<xs.size/\kv rk xs j=rk x:=by
 have h':x∈(xs.toList.drop i).take xs.size:=by
  rw[AW (by rw[BC,AR];lia)]
  exact h
 obtain⟨j,h1,_,h3,h4,_⟩:=Nf (rk:=rk) h'
 exact⟨j,h1,h3,h4⟩
theorem Sv{xs:Array Keyed}{i:Nat}{x:Keyed}(h:x∈xs.toList.take i):∃j,j<i/\j<xs.size/\kv rk xs j=rk x:=by
 have h':x∈(xs.toList.drop 0).take i:=by rw[DQ];exact h
 obtain⟨j,h1,h2,h3,h4,_⟩:=Nf (rk:=rk) h'
 exact⟨j,by lia,h3,h4⟩
theorem Kb{xs:Array Keyed}(h:Up rk xs.toList):JD rk xs 0 xs.size:=λi j _ hij hj=>by
 by_cases e:i=j
 ·subst e;exact AG _
 ·have q:=Cw.mp h i j (by rw[AR];lia) (by rw[AR];lia) (by lia)
  have ei:xs[i]?=some xs[i]:=AH (by lia)
  have ej:xs[j]?=some xs[j]:=AH (by lia)
  rw[IV ei,IV ej]
  simpa using q
theorem RP{xs:Array Keyed}{i k:Nat}(h:JD rk xs i (i+k))(hz:i+k<=xs.size):Up rk (xs.toList.drop i |>.take k):=by
 refine Cw.mpr λp q hp hq hpq=>?_
 have l:=hq
 rw[Ah,BC,AR]at l
 have ep:xs[i+p]?=some xs[i+p]:=AH (by lia)
 have eq:xs[i+q]?=some xs[i+q]:=AH (by lia)
 have r:=h (i+p) (i+q) (by lia) (by lia) (by lia)
 rw[IV ep,IV eq]at r
 simpa [List.getElem_take,List.getElem_drop]using r
theorem Nw{xs:Array Keyed}{i:Nat}{x:Keyed}(h:xs[i]?=some x):(xs.toList.drop i).take 1=[x]:=by
 obtain⟨hi,e⟩:=Bj.mp h
 have hl:i<xs.toList.length:=by rw[AR];exact hi
 rw[List.drop_eq_getElem_cons hl,C5,DP]
 rw[Array.getElem_toList,e]
theorem LW(xs:Array Keyed)(i j:Nat):(xs.extract i j).toList=(xs.toList.drop i).take (j-i):=by
 rw[Array.toList_extract,List.extract_eq_drop_take]
theorem Wj(xs:Array Keyed)(i:Nat):(xs.extract i xs.size).toList=xs.toList.drop i:=by
 rw[LW,AW (by rw[BC,AR];lia)]
theorem V3(xs:Array Keyed)(i:Nat):(xs.extract 0 i).toList=xs.toList.take i:=by
 rw[LW,DQ,HA]
section
variable{prog:wP}{w:wQ}{A:Around}{E:wD}{s:wM}{κ:SortKind}{M:Keyed->Prop}
theorem Vt{σ α:Type}{c:Prop}[Decidable c]{x y:StateT σ Sem α}{Q:α->σ->Prop}{st:σ}(h1:c->wpS (model prog w) A E s x Q st)(h2:¬ c->wpS (model prog w) A E s y Q st):wpS (model prog w) A E s (if c then x else y) Q st:=by
 by_cases h:c
 ·rw[AF h];exact h1 h
 ·rw[AD h];exact h2 h
abbrev Oq:=Option (Array Keyed)×Array Keyed×Nat×Nat×Nat×Nat×Nat
noncomputable def l3(a b:Array Keyed)(out:Array Keyed)(ia ib g ac bc:Nat):StateT SortSt Sem (ForInStep Oq):=do
 let x <-elem' a ia
 if (ia+1+1==a.size)=true then pure (.done (some (out.push x++b.extract ib b.size++a.extract (ia+1) a.size),out.push x,ia+1,ib,g,ac,bc))
 else if (decide (ac<7)&&decide (bc<7))=true then pure (.done (none,out.push x,ia+1,ib,g,ac,bc))
 else pure (.yield (none,out.push x,ia+1,ib,g,ac,bc))
noncomputable def l2(a b:Array Keyed)(out:Array Keyed)(ia ib g ac bc0:Nat):StateT SortSt Sem (ForInStep Oq):=do
 let x <-elem' b ib
 if (ib+1==b.size)=true then pure (.done (some (out.push x++a.extract ia a.size++b.extract (ib+1) b.size),out.push x,ia,ib+1,g,ac,bc0))
 else do
  let y <-elem' a ia
  let r <-VV true y b (ib+1) (b.size-(ib+1)) 0
  match r with
  |some k =>
   if k>0 then
    if (ib+1+k==b.size)=true then pure (.done (some (out.push x++b.extract (ib+1) (ib+1+k)++a.extract ia a.size++b.extract (ib+1+k) b.size),out.push x++b.extract (ib+1) (ib+1+k),ia,ib+1+k,g,ac,k))
    else l3 a b (out.push x++b.extract (ib+1) (ib+1+k)) ia (ib+1+k) g ac k
   else l3 a b (out.push x) ia (ib+1) g ac k
  |_=>pure (.done (some (out.push x++a.extract ia a.size++b.extract (ib+1) b.size),out.push x,ia,ib+1,g,ac,bc0))
noncomputable def l1(a b:Array Keyed)(out:Array Keyed)(ia ib g ac0 bc0:Nat):StateT SortSt Sem (ForInStep Oq):=do
 let y <-elem' b ib
 let r <-VV false y a ia (a.size-ia) 0
 match r with
 |some k =>
  if k>0 then
   if (ia+k+1==a.size)=true then pure (.done (some (out++a.extract ia (ia+k)++b.extract ib b.size++a.extract (ia+k) a.size),out++a.extract ia (ia+k),ia+k,ib,g,k,bc0))
   else if (ia+k==a.size)=true then pure (.done (some (out++a.extract ia (ia+k)++a.extract (ia+k) a.size++b.extract ib b.size),out++a.extract ia (ia+k),ia+k,ib,g,k,bc0))
   else l2 a b (out++a.extract ia (ia+k)) (ia+k) ib g k bc0
  else l2 a b out ia ib g k bc0
 |_=>pure (.done (some (out++a.extract ia a.size++b.extract ib b.size),out,ia,ib,g,ac0,bc0))
structure Hn(M:Keyed->Prop)(rk:Keyed->Nat)(a b:Array Keyed):Prop where
 ma:All M a
 mb:All M b
 sa:Up rk a.toList
 sb:Up rk b.toList
 za:0<a.size
 zb:0<b.size
 fst:kv rk b 0<kv rk a 0
 lst:∀i,i<b.size->kv rk b i<kv rk a (a.size-1)
variable{a b:Array Keyed}
theorem Hn.done(m:Hn M rk a b){out:Array Keyed}(j:J rk a.toList b.toList out.toList ia ib)(h:ia=a.size∨ib=b.size):Hu rk a.toList b.toList (out++a.extract ia a.size++b.extract ib b.size).toList:=by
 rw[BQ,BQ,Wj,Wj]
 exact j.done m.sa m.sb (by rw[AR,AR];exact h)
theorem Hn.last(m:Hn M rk a b){out:Array Keyed}(j:J rk a.toList b.toList out.toList ia ib)(h:ia+1=a.size):Hu rk a.toList b.toList (out++b.extract ib b.size++a.extract ia a.size).toList:=by
 rw[BQ,BQ,Wj,Wj]
 refine j.last m.sa m.sb λy hy x hx=>?_
 obtain⟨p,p1,p2,p3⟩:=Ov (rk:=rk) (i:=0) (by rw[DQ];exact hy)
 obtain⟨r,r1,r2,r3⟩:=Ov (rk:=rk) hx
 have e:r=a.size-1:=by lia
 have:=m.lst p p2
 rw[e]at r3
 lia
theorem Hn.pushA(m:Hn M rk a b){out:Array Keyed}{x:Keyed}(j:J rk a.toList b.toList out.toList ia ib)(hx:a[ia]?=some x)(h:∀i,ib<=i->i<b.size->kv rk a ia<=kv rk b i):J rk a.toList b.toList (out.push x).toList (ia+1) ib:=by
 obtain⟨hi,_⟩:=Bj.mp hx
 have q:=j.a (k:=1) m.sa (by rw[AR];lia) (λz hz y hy=>by
  rw[Nw hx]at hz
  rw[Ad.mp hz]
  obtain⟨r,r1,r2,r3⟩:=Ov (rk:=rk) hy
  have:=h r r1 r2
  rw[IV hx]at this
  lia)
 rw[Nw hx]at q
 rw[DL]
 exact q
theorem Hn.pushB(m:Hn M rk a b){out:Array Keyed}{x:Keyed}(j:J rk a.toList b.toList out.toList ia ib)(hx:b[ib]?=some x)(h:∀i,ia<=i->i<a.size->kv rk b ib<=kv rk a i):J rk a.toList b.toList (out.push x).toList ia (ib+1):=by
 obtain⟨hi,_⟩:=Bj.mp hx
 have q:=j.b (k:=1) m.sb (by rw[AR];lia) (λz hz y hy=>by
  rw[Nw hx]at hz
  rw[Ad.mp hz]
  obtain⟨r,r1,r2,r3⟩:=Ov (rk:=rk) hy
  have:=h r r1 r2
  rw[IV hx]at this
  lia)
 rw[Nw hx]at q
 rw[DL]
 exact q
theorem Hn.appA(m:Hn M rk a b){out:Array Keyed}(j:J rk a.toList b.toList out.toList ia ib)(hk:ia+k<=a.size)(h:∀p,ia<=p->p<ia+k->∀i,ib<=i->i<b.size->kv rk a p<=kv rk b i):J rk a.toList b.toList (out++a.extract ia (ia+k)).toList (ia+k) ib:=by
 have q:=j.a (k:=k) m.sa (by rw[AR];lia) (λz hz y hy=>by
  obtain⟨p,p1,p2,p3,p4,_⟩:=Nf (rk:=rk) hz
  obtain⟨r,r1,r2,r3⟩:=Ov (rk:=rk) hy
  have:=h p p1 p2 r r1 r2
  lia)
 rw[BQ,LW,FP]
 exact q
theorem Hn.appB(m:Hn M rk a b){out:Array Keyed}(j:J rk a.toList b.toList out.toList ia ib)(hk:ib+k<=b.size)(h:∀p,ib<=p->p<ib+k->∀i,ia<=i->i<a.size->kv rk b p<=kv rk a i):J rk a.toList b.toList (out++b.extract ib (ib+k)).toList ia (ib+k):=by
 have q:=j.b (k:=k) m.sb (by rw[AR];lia) (λz hz y hy=>by
  obtain⟨p,p1,p2,p3,p4,_⟩:=Nf (rk:=rk) hz
  obtain⟨r,r1,r2,r3⟩:=Ov (rk:=rk) hy
  have:=h p p1 p2 r r1 r2
  lia)
 rw[BQ,LW,FP]
 exact q
def Mz(rk:Keyed->Nat)(a b:Array Keyed)(p:Nat)(st:SortSt)(c:Oq)(st':SortSt):Prop:=Gs st st' /\
 ((∃r,c.1=some r/\Hu rk a.toList b.toList r.toList)∨(c.1=none/\J rk a.toList b.toList c.2.1.toList c.2.2.1 c.2.2.2.1/\c.2.2.1+1<a.size/\c.2.2.2.1<b.size/\p<=c.2.2.1+c.2.2.2.1))
theorem RV(m:Hn M rk a b){out:Array Keyed}{g ac bc p:Nat}{st st':SortSt}{R:ForInStep Oq->SortSt->Prop}(gs:Gs st st')(j:J rk a.toList b.toList out.toList ia ib)(h1:ia+1<a.size)(h2:ib<b.size)(hp:p<=ia+ib)
  (h:∀i,ib<=i->i<b.size->kv rk a ia<=kv rk b i) (d:∀c,Mz rk a b p st c st'->R (.done c) st') (y:∀c,c.1=none->Mz rk a b p st c st'->R (.yield c) st'):wpS (model prog w) A E s (l3 a b out ia ib g ac bc) R st':=by
 have ea:a[ia]?=some a[ia]:=AH (by lia)
 refine AQ (JJ ea ?_)
 have j':=m.pushA j ea h
 by_cases c:ia+1+1=a.size
 ·rw[AF (by simpa using c)]
  exact Ac (d _ ⟨gs,.inl ⟨_,rfl,m.last j' c⟩⟩)
 ·rw[AD (by simpa using c)]
  have on:Mz rk a b p st (none,out.push a[ia],ia+1,ib,g,ac,bc) st':=⟨gs,.inr ⟨rfl,j',(by show ia+1+1<a.size;lia),h2,(by show p<=ia+1+ib;lia)⟩⟩
  split
  ·exact Ac (d _ on)
  ·exact Ac (y _ rfl on)
theorem R8(hA:KA prog w A s κ M rk)(m:Hn M rk a b){out:Array Keyed}{g ac bc p:Nat}{st st':SortSt}{R:ForInStep Oq->SortSt->Prop}(hk:kindOf st=κ)(gs:Gs st st')(j:J rk a.toList b.toList out.toList ia ib)(h1:ia+1<a.size)(h2:ib<b.size)(hp:p<=ia+ib)
  (h:∀i,ia<=i->i<a.size->kv rk b ib<=kv rk a i) (d:∀c,Mz rk a b p st c st'->R (.done c) st') (y:∀c,c.1=none->Mz rk a b p st c st'->R (.yield c) st'):wpS (model prog w) A E s (l2 a b out ia ib g ac bc) R st':=by
 have eb:b[ib]?=some b[ib]:=AH h2
 have ea:a[ia]?=some a[ia]:=AH (by lia)
 refine AQ (JJ eb ?_)
 have j':=m.pushB j eb h
 by_cases c:ib+1=b.size
 ·rw[AF (by simpa using c)]
  exact Ac (d _ ⟨gs,.inl ⟨_,rfl,m.done j' (.inr c)⟩⟩)
 ·rw[AD (by simpa using c)]
  refine AQ (JJ ea (AQ (QA hA (gs.kind.trans hk) (m.ma _ _ ea) m.mb (by lia) (by lia) (λi k a1 a2 a3=>Kb m.sb i k (Ax _) a2 (by lia)) λk k1 k2 k3=>?_)))
  have sA:=Kb m.sa
  have lt:∀i,ib+1<=i->i<ib+1+k->kv rk b i<kv rk a ia:=λi i1 i2=>by
   have:=k2 i i1 i2
   unfold Bd at this
   rw[AF rfl,<-IV (rk:=rk) ea]at this
   exact this
  have ge:∀i,ib+1+k<=i->i<b.size->kv rk a ia<=kv rk b i:=λi i1 i2=>by
   have:=k3 i i1 (by lia)
   unfold Bd at this
   rw[AF rfl,<-IV (rk:=rk) ea]at this
   lia
  dsimp only
  by_cases k0:k>0
  ·rw[AF k0]
   have j2:=m.appB (k:=k) j' (by lia) (λp p1 p2 i i1 i2=>by
    have q1:=lt p p1 p2
    have q2:=sA ia i (Ax _) i1 i2
    lia)
   by_cases c2:ib+1+k=b.size
   ·rw[AF (by simpa using c2)]
    exact Ac (d _ ⟨gs,.inl ⟨_,rfl,m.done j2 (.inr c2)⟩⟩)
   ·rw[AD (by simpa using c2)]
    exact RV m gs j2 h1 (by lia) (by lia) ge d y
  ·rw[AD k0]
   exact RV m gs j' h1 (by lia) (by lia) (λi i1 i2=>ge i (by lia) i2) d y
theorem RO(hA:KA prog w A s κ M rk)(m:Hn M rk a b){out:Array Keyed}{g ac bc p:Nat}{st st':SortSt}{R:ForInStep Oq->SortSt->Prop}(hk:kindOf st=κ)(gs:Gs st st')(j:J rk a.toList b.toList out.toList ia ib)(h1:ia+1<a.size)(h2:ib<b.size)(hp:p<=ia+ib)
  (d:∀c,Mz rk a b p st c st'->R (.done c) st') (y:∀c,c.1=none->Mz rk a b p st c st'->R (.yield c) st'):wpS (model prog w) A E s (l1 a b out ia ib g ac bc) R st':=by
 have eb:b[ib]?=some b[ib]:=AH h2
 refine AQ (JJ eb (AQ (QA hA (gs.kind.trans hk) (m.mb _ _ eb) m.ma (by lia) (by lia) (λi k a1 a2 a3=>Kb m.sa i k (Ax _) a2 (by lia)) λk k1 k2 k3=>?_)))
 have sB:=Kb m.sb
 have le:∀i,ia<=i->i<ia+k->kv rk a i<=kv rk b ib:=λi i1 i2=>by
  have:=k2 i i1 i2
  unfold Bd at this
  rw[AD (by decide),<-IV (rk:=rk) eb]at this
  exact this
 have gt:∀i,ia+k<=i->i<a.size->kv rk b ib<=kv rk a i:=λi i1 i2=>by
  have:=k3 i i1 (by lia)
  unfold Bd at this
  rw[AD (by decide),<-IV (rk:=rk) eb]at this
  lia
 dsimp only
 by_cases k0:k>0
 ·rw[AF k0]
  have j2:=m.appA (k:=k) j (by lia) (λp p1 p2 i i1 i2=>by
   have q1:=le p p1 p2
   have q2:=sB ib i (Ax _) i1 i2
   lia)
  by_cases c:ia+k+1=a.size
  ·rw[AF (by simpa using c)]
   exact Ac (d _ ⟨gs,.inl ⟨_,rfl,m.last j2 c⟩⟩)
  rw[AD (by simpa using c)]
  by_cases c2:ia+k=a.size
  ·rw[AF (by simpa using c2)]
   exact Ac (d _ ⟨gs,.inl ⟨_,rfl,m.done j2 (.inl c2)⟩⟩)
  ·rw[AD (by simpa using c2)]
   exact R8 hA m hk gs j2 (by lia) h2 (by lia) gt d y
 ·rw[AD k0]
  exact R8 hA m hk gs j h1 h2 hp (λi i1 i2=>gt i (by lia) i2) d y
theorem qJ(hA:KA prog w A s κ M rk){st:SortSt}{Q:Array Keyed->SortSt->Prop}(hk:kindOf st=κ)(m:Hn M rk a b)
  (q:∀r st',Gs st st'->Hu rk a.toList b.toList r.toList->Q r st'):wpS (model prog w) A E s (X3 a b) Q st:=by
 refine AQ (EZ (CU ⟨rfl,?_⟩))
 have za:=m.za
 have zb:=m.zb
 have eb0:b[0]?=some b[0]:=AH zb
 have sA:=Kb m.sa
 have sB:=Kb m.sb
 have j0:J rk a.toList b.toList (#[]:Array Keyed).toList 0 0:=⟨Ax _,Ax _,by simp,List.Pairwise.nil,λx hx=>by simp at hx,λx hx=>by simp at hx⟩
 have j1:J rk a.toList b.toList (#[b[0]]:Array Keyed).toList 0 1:=m.pushB j0 eb0 λi i1 i2=>A9 (BY m.fst) (sA 0 i (Ax _) i1 i2)
 refine AQ (JJ eb0 ?_)
 by_cases c1:1=b.size
 ·rw[AF (by simpa using c1)]
  exact Ac (q _ st (Gs.refl _) (m.done j1 (.inr c1)))
 rw[AD (by simpa using c1)]
 by_cases c2:0+1=a.size
 ·rw[AF (by simpa using c2)]
  exact Ac (q _ st (Gs.refl _) (m.last j1 c2))
 rw[AD (by simpa using c2)]
 refine AQ (Dv ?_)
 refine AQ (Cf (Bc (I:=λx c st'=>Gs st st'/\c.1=none/\J rk a.toList b.toList c.2.1.toList c.2.2.1 c.2.2.2.1/\c.2.2.1+1<a.size/\c.2.2.2.1<b.size/\x+1<=c.2.2.1+c.2.2.2.1)
  (Q:=λc st'=>Gs st st'/\∃r,c.1=some r/\Hu rk a.toList b.toList r.toList) ?step ?fin ⟨Gs.refl _,rfl,j1,by show 0+1<a.size;lia,by show 1<b.size;lia,AG _⟩) ?post)
 case post =>
  rintro⟨c,Hg⟩ st' ⟨gs,r,e,g⟩
  have e':c=some r:=e
  subst e'
  exact Ac (q r st' gs g)
 case fin =>
  rintro⟨c,out,ia,ib,g⟩ st' ⟨gs,e,j,h1,h2,h3⟩
  exfalso
  dsimp only at h1 h2 h3
  lia
 case step =>
  rintro x ⟨c,out,ia,ib,g⟩ st' _ hx ⟨gs,e,j,h1,h2,h3⟩
  dsimp only at e j h1 h2 h3
  subst e
  refine AQ (Cf (Bc (I:=λy c st''=>st''=st'/\c.1=none/\J rk a.toList b.toList c.2.1.toList c.2.2.1 c.2.2.2.1/\c.2.2.1+1<a.size/\c.2.2.2.1<b.size/\x+1+min y 1<=c.2.2.1+c.2.2.2.1)
   (Q:=λc st''=>st''=st'/\((∃r,c.1=some r/\Hu rk a.toList b.toList r.toList)∨(c.1=none/\J rk a.toList b.toList c.2.1.toList c.2.2.1 c.2.2.2.1/\c.2.2.1+1<a.size/\c.2.2.2.1<b.size/\x+2<=c.2.2.1+c.2.2.2.1))) ?step1 ?fin1 ⟨rfl,rfl,j,h1,h2,by show x+1+min 0 1<=ia+ib;lia⟩) ?post1)
  case fin1 =>
   rintro⟨c,out,ia,ib,ac,bc⟩ st'' ⟨e1,e,j,h1,h2,h3⟩
   refine⟨e1,.inr ⟨e,j,h1,h2,?_⟩⟩
   dsimp only at h3 ⊢
   lia
  case step1 =>
   rintro y ⟨c,out,ia,ib,ac,bc⟩ st'' _ hy ⟨e1,e,j,h1,h2,h3⟩
   subst e1
   dsimp only at e j h1 h2 h3
   subst e
   have eb:b[ib]?=some b[ib]:=AH h2
   have ea:a[ia]?=some a[ia]:=AH (by lia)
   refine AQ (JJ eb (AQ (JJ ea (AQ (T9 hA (gs.kind.trans hk) (m.mb _ _ eb) (m.ma _ _ ea) ?_)))))
   by_cases c:rk b[ib]<rk a[ia]
   ·rw[Ab c]
    dsimp only
    rw[AF rfl]
    refine AQ (JJ eb ?_)
    have j':=m.pushB j eb λi i1 i2=>by
     have q1:=sA ia i (Ax _) i1 i2
     rw[IV ea]at q1
     rw[IV eb]
     lia
    by_cases c3:ib+1=b.size
    ·rw[AF (by simpa using c3)]
     exact Ac ⟨rfl,.inl ⟨_,rfl,m.done j' (.inr c3)⟩⟩
    rw[AD (by simpa using c3)]
    split
    ·exact Ac ⟨rfl,.inr ⟨rfl,j',h1,by dsimp only;lia,by dsimp only;lia⟩⟩
    ·exact Ac ⟨rfl,rfl,j',h1,by dsimp only;lia,by dsimp only;lia⟩
   ·rw[AO c]
    dsimp only
    rw[AD (by decide)]
    refine AQ (JJ ea ?_)
    have j':=m.pushA j ea λi i1 i2=>by
     have q1:=sB ib i (Ax _) i1 i2
     rw[IV eb]at q1
     rw[IV ea]
     lia
    by_cases c3:ia+1+1=a.size
    ·rw[AF (by simpa using c3)]
     exact Ac ⟨rfl,.inl ⟨_,rfl,m.last j' c3⟩⟩
    rw[AD (by simpa using c3)]
    split
    ·exact Ac ⟨rfl,.inr ⟨rfl,j',by dsimp only;lia,h2,by dsimp only;lia⟩⟩
    ·exact Ac ⟨rfl,rfl,j',by dsimp only;lia,h2,by dsimp only;lia⟩
  case post1 =>
   rintro⟨c,out,ia,ib,ac,bc⟩ st'' ⟨e1,h⟩
   subst e1
   rcases h with⟨r,e,g1⟩|⟨e,j,h1,h2,h3⟩
   ·have e':c=some r:=e
    subst e'
    exact Ac ⟨gs,r,rfl,g1⟩
   ·dsimp only at e j h1 h2 h3
    subst e
    refine AQ (EZ (CU ⟨rfl,?_⟩))
    refine AQ (Cf (Bc (I:=λ_ c st3=>c.1=none/\Mz rk a b (x+2) st c st3) (Q:=λc st3=>Mz rk a b (x+2) st c st3) ?step2 ?fin2 ⟨rfl,gs,.inr ⟨rfl,j,h1,h2,h3⟩⟩) ?post2)
    case fin2 =>
     rintro c st3 ⟨_,hc⟩
     exact hc
    case step2 =>
     rintro y ⟨c,out,ia,ib,g2,ac,bc⟩ st3 _ hy ⟨e,gs3,hc⟩
     have e':c=none:=e
     subst e'
     rcases hc with⟨r,er,_⟩|⟨_,j,h1,h2,h3⟩
     ·cases er
     dsimp only at j h1 h2 h3
     refine Vt (λ_=>?_) (λ_=>?_)
     ·refine AQ (Ck ?_)
      exact RO hA m hk (gs3.trans (QJ st3 (g2-1))) j h1 h2 h3 (λc hc=>hc) (λc e hc=>⟨e,hc⟩)
     ·refine AQ (Ck ?_)
      exact RO hA m hk (gs3.trans (QJ st3 g2)) j h1 h2 h3 (λc hc=>hc) (λc e hc=>⟨e,hc⟩)
    case post2 =>
     rintro⟨c,out,ia,ib,g2,ac,bc⟩ st3 ⟨gs3,hc⟩
     rcases hc with⟨r,er,g3⟩|⟨er,j,h1,h2,h3⟩
     ·have e':c=some r:=er
      subst e'
      exact Ac ⟨gs3,r,rfl,g3⟩
     ·have e':c=none:=er
      subst e'
      dsimp only at j h1 h2 h3 ⊢
      refine AQ (Ck (Ac ⟨gs3.trans (QJ st3 (g2+1)),rfl,j,h1,h2,by dsimp only;lia⟩))
end
end
section
variable{rk:Keyed->Nat}{na nb k:Nat}{prog:wP}{w:wQ}{A:Around}{E:wD}{s:wM}{κ:SortKind}{M:Keyed->Prop}
abbrev Om:=Option (Array Keyed)×Nat×Nat×Array Keyed×Nat×Nat×Nat
noncomputable def r3(a b:Array Keyed)(out:Array Keyed)(na nb g ac bc:Nat):StateT SortSt Sem (ForInStep Om):=do
 let x <-elem' a (na-1)
 if (na-1==0)=true then pure (.done (some (a.extract 0 (na-1)++b.extract 0 nb++(out.push x).reverse),na-1,nb,out.push x,g,ac,bc))
 else if (decide (ac<7)&&decide (bc<7))=true then pure (.done (none,na-1,nb,out.push x,g,ac,bc))
 else pure (.yield (none,na-1,nb,out.push x,g,ac,bc))
noncomputable def r2(a b:Array Keyed)(out:Array Keyed)(na nb g ac bc0:Nat):StateT SortSt Sem (ForInStep Om):=do
 let x <-elem' b (nb-1)
 if (nb-1==1)=true then pure (.done (some (b.extract 0 (nb-1)++a.extract 0 na++(out.push x).reverse),na,nb-1,out.push x,g,ac,bc0))
 else do
  let y <-elem' a (na-1)
  let r <-VV true y b 0 (nb-1) (nb-1-1)
  match r with
  |some p =>
   if nb-1-p>0 then
    if (p==1)=true then pure (.done (some (b.extract 0 p++a.extract 0 na++(out.push x++(b.extract p (nb-1)).reverse).reverse),na,p,out.push x++(b.extract p (nb-1)).reverse,g,ac,nb-1-p))
    else if (p==0)=true then pure (.done (some (a.extract 0 na++b.extract 0 p++(out.push x++(b.extract p (nb-1)).reverse).reverse),na,p,out.push x++(b.extract p (nb-1)).reverse,g,ac,nb-1-p))
    else r3 a b (out.push x++(b.extract p (nb-1)).reverse) na p g ac (nb-1-p)
   else r3 a b (out.push x) na (nb-1) g ac (nb-1-p)
  |_=>pure (.done (some (a.extract 0 na++b.extract 0 (nb-1)++(out.push x).reverse),na,nb-1,out.push x,g,ac,bc0))
noncomputable def r1(a b:Array Keyed)(out:Array Keyed)(na nb g ac0 bc0:Nat):StateT SortSt Sem (ForInStep Om):=do
 let y <-elem' b (nb-1)
 let r <-VV false y a 0 na (na-1)
 match r with
 |some p =>
  if na-p>0 then
   if (p==0)=true then pure (.done (some (a.extract 0 p++b.extract 0 nb++(out++(a.extract p na).reverse).reverse),p,nb,out++(a.extract p na).reverse,g,na-p,bc0))
   else r2 a b (out++(a.extract p na).reverse) p nb g (na-p) bc0
  else r2 a b out na nb g (na-p) bc0
 |_=>pure (.done (some (a.extract 0 na++b.extract 0 nb++out.reverse),na,nb,out,g,ac0,bc0))
variable{a b:Array Keyed}
theorem Hn.done2(m:Hn M rk a b){out:Array Keyed}(j:J2 rk a.toList b.toList out.toList.reverse na nb)(h:na=0∨nb=0):Hu rk a.toList b.toList (a.extract 0 na++b.extract 0 nb++out.reverse).toList:=by
 rw[BQ,BQ,V3,V3,CQ]
 exact j.done m.sa m.sb h
theorem Hn.first2(m:Hn M rk a b){out:Array Keyed}(j:J2 rk a.toList b.toList out.toList.reverse na nb)(h:nb=1):Hu rk a.toList b.toList (b.extract 0 nb++a.extract 0 na++out.reverse).toList:=by
 rw[BQ,BQ,V3,V3,CQ]
 refine j.first m.sa m.sb λy hy x hx=>?_
 obtain⟨p,p1,p2,p3⟩:=Sv (rk:=rk) hy
 obtain⟨r,r1,r2,r3⟩:=Ov (rk:=rk) (i:=0) (by rw[DQ];exact hx)
 have e:p=0:=by lia
 have:=m.fst
 have:=Kb m.sa 0 r (AG _) (Ax _) r2
 rw[e]at p3
 lia
theorem Hn.pushA2(m:Hn M rk a b){out:Array Keyed}{x:Keyed}(j:J2 rk a.toList b.toList out.toList.reverse na nb)(h1:0<na)(hx:a[na-1]?=some x)(h:∀i,i<nb->i<b.size->kv rk b i<=kv rk a (na-1)):J2 rk a.toList b.toList (out.push x).toList.reverse (na-1) nb:=by
 have e:na-1+1=na:=by lia
 rw[<-e]at j
 have q:=j.a (k:=1) m.sa (λz hz y hy=>by
  rw[Nw hx]at hz
  rw[Ad.mp hz]
  obtain⟨r,r1,r2,r3⟩:=Sv (rk:=rk) hy
  have:=h r r1 r2
  rw[IV hx]at this
  lia)
 rw[Nw hx]at q
 rw[DL,Dd]
 exact q
theorem Hn.pushB2(m:Hn M rk a b){out:Array Keyed}{x:Keyed}(j:J2 rk a.toList b.toList out.toList.reverse na nb)(h1:0<nb)(hx:b[nb-1]?=some x)(h:∀i,i<na->i<a.size->kv rk a i<=kv rk b (nb-1)):J2 rk a.toList b.toList (out.push x).toList.reverse na (nb-1):=by
 have e:nb-1+1=nb:=by lia
 rw[<-e]at j
 have q:=j.b (k:=1) m.sb (λz hz y hy=>by
  rw[Nw hx]at hz
  rw[Ad.mp hz]
  obtain⟨r,r1,r2,r3⟩:=Sv (rk:=rk) hy
  have:=h r r1 r2
  rw[IV hx]at this
  lia)
 rw[Nw hx]at q
 rw[DL,Dd]
 exact q
theorem Hn.appA2(m:Hn M rk a b){out:Array Keyed}{p:Nat}(j:J2 rk a.toList b.toList out.toList.reverse na nb)(hp:p<=na)(h:∀r,p<=r->r<na->∀i,i<nb->i<b.size->kv rk b i<=kv rk a r):J2 rk a.toList b.toList (out++(a.extract p na).reverse).toList.reverse p nb:=by
 have e:p+(na-p)=na:=by lia
 rw[<-e]at j
 have q:=j.a (k:=na-p) m.sa (λz hz y hy=>by
  obtain⟨r,r1,r2,r3,r4,_⟩:=Nf (rk:=rk) hz
  obtain⟨i,i1,i2,i3⟩:=Sv (rk:=rk) hy
  have:=h r r1 (by lia) i i1 i2
  lia)
 rw[BQ,CQ,Dd,DU,LW]
 exact q
theorem Hn.appB2(m:Hn M rk a b){out:Array Keyed}{p:Nat}(j:J2 rk a.toList b.toList out.toList.reverse na nb)(hp:p<=nb)(h:∀r,p<=r->r<nb->∀i,i<na->i<a.size->kv rk a i<=kv rk b r):J2 rk a.toList b.toList (out++(b.extract p nb).reverse).toList.reverse na p:=by
 have e:p+(nb-p)=nb:=by lia
 rw[<-e]at j
 have q:=j.b (k:=nb-p) m.sb (λz hz y hy=>by
  obtain⟨r,r1,r2,r3,r4,_⟩:=Nf (rk:=rk) hz
  obtain⟨i,i1,i2,i3⟩:=Sv (rk:=rk) hy
  have:=h r r1 (by lia) i i1 i2
  lia)
 rw[BQ,CQ,Dd,DU,LW]
 exact q
def NK(rk:Keyed->Nat)(a b:Array Keyed)(p:Nat)(st:SortSt)(c:Om)(st':SortSt):Prop:=Gs st st' /\
 ((∃r,c.1=some r/\Hu rk a.toList b.toList r.toList)∨(c.1=none/\J2 rk a.toList b.toList c.2.2.2.1.toList.reverse c.2.1 c.2.2.1/\1<=c.2.1/\2<=c.2.2.1/\p+c.2.1+c.2.2.1<=a.size+b.size))
theorem J2.za(j:J2 rk a.toList b.toList o na nb):na<=a.size:=by have:=j.ha;rwa [AR]at this
theorem J2.zb(j:J2 rk a.toList b.toList o na nb):nb<=b.size:=by have:=j.hb;rwa [AR]at this
theorem Rc(m:Hn M rk a b){out:Array Keyed}{g ac bc p:Nat}{st st':SortSt}{R:ForInStep Om->SortSt->Prop}(gs:Gs st st')(j:J2 rk a.toList b.toList out.toList.reverse na nb)(h1:1<=na)(h2:2<=nb)(hp:p+na+nb<=a.size+b.size)
  (h:∀i,i<nb->i<b.size->kv rk b i<=kv rk a (na-1)) (d:∀c,NK rk a b p st c st'->R (.done c) st') (y:∀c,c.1=none->NK rk a b p st c st'->R (.yield c) st'):wpS (model prog w) A E s (r3 a b out na nb g ac bc) R st':=by
 have z:=j.za
 have ea:a[na-1]?=some a[na-1]:=AH (by lia)
 refine AQ (JJ ea ?_)
 have j':=m.pushA2 j h1 ea h
 by_cases c:na-1=0
 ·rw[AF (by simpa using c)]
  exact Ac (d _ ⟨gs,.inl ⟨_,rfl,m.done2 j' (.inl c)⟩⟩)
 ·rw[AD (by simpa using c)]
  have on:NK rk a b p st (none,na-1,nb,out.push a[na-1],g,ac,bc) st':=⟨gs,.inr ⟨rfl,j',(by show 1<=na-1;lia),h2,(by show p+(na-1)+nb<=a.size+b.size;lia)⟩⟩
  split
  ·exact Ac (d _ on)
  ·exact Ac (y _ rfl on)
theorem Rr(hA:KA prog w A s κ M rk)(m:Hn M rk a b){out:Array Keyed}{g ac bc p:Nat}{st st':SortSt}{R:ForInStep Om->SortSt->Prop}(hk:kindOf st=κ)(gs:Gs st st')(j:J2 rk a.toList b.toList out.toList.reverse na nb)(h1:1<=na)(h2:2<=nb)(hp:p+na+nb<=a.size+b.size)
  (h:∀i,i<na->i<a.size->kv rk a i<=kv rk b (nb-1)) (d:∀c,NK rk a b p st c st'->R (.done c) st') (y:∀c,c.1=none->NK rk a b p st c st'->R (.yield c) st'):wpS (model prog w) A E s (r2 a b out na nb g ac bc) R st':=by
 have z:=j.za
 have z2:=j.zb
 have ea:a[na-1]?=some a[na-1]:=AH (by lia)
 have eb:b[nb-1]?=some b[nb-1]:=AH (by lia)
 refine AQ (JJ eb ?_)
 have j':=m.pushB2 j (by lia) eb h
 by_cases c:nb-1=1
 ·rw[AF (by simpa using c)]
  exact Ac (d _ ⟨gs,.inl ⟨_,rfl,m.first2 j' c⟩⟩)
 ·rw[AD (by simpa using c)]
  refine AQ (JJ ea (AQ (QA hA (gs.kind.trans hk) (m.ma _ _ ea) m.mb (by lia) (by lia) (λi k a1 a2 a3=>Kb m.sb i k (Ax _) a2 (by lia)) λr k1 k2 k3=>?_)))
  have sA:=Kb m.sa
  have lt:∀i,i<r->kv rk b i<kv rk a (na-1):=λi i2=>by
   have:=k2 i (Ax _) (by lia)
   unfold Bd at this
   rw[AF rfl,<-IV (rk:=rk) ea]at this
   exact this
  have ge:∀i,r<=i->i<nb-1->kv rk a (na-1)<=kv rk b i:=λi i1 i2=>by
   have:=k3 i (by lia) (by lia)
   unfold Bd at this
   rw[AF rfl,<-IV (rk:=rk) ea]at this
   lia
  dsimp only
  by_cases k0:nb-1-r>0
  ·rw[AF k0]
   have j2:=m.appB2 (p:=r) j' (by lia) (λq q1 q2 i i1 i2=>by
    have e1:=ge q q1 q2
    have e2:=sA i (na-1) (Ax _) (by lia) (by lia)
    lia)
   by_cases c2:r=1
   ·rw[AF (by simpa using c2)]
    exact Ac (d _ ⟨gs,.inl ⟨_,rfl,m.first2 j2 c2⟩⟩)
   rw[AD (by simpa using c2)]
   by_cases c3:r=0
   ·rw[AF (by simpa using c3)]
    exact Ac (d _ ⟨gs,.inl ⟨_,rfl,m.done2 j2 (.inr c3)⟩⟩)
   ·rw[AD (by simpa using c3)]
    exact Rc m gs j2 h1 (by lia) (by lia) (λi i1 i2=>BY (lt i i1)) d y
  ·rw[AD k0]
   exact Rc m gs j' h1 (by lia) (by lia) (λi i1 i2=>BY (lt i (by lia))) d y
theorem Re(hA:KA prog w A s κ M rk)(m:Hn M rk a b){out:Array Keyed}{g ac bc p:Nat}{st st':SortSt}{R:ForInStep Om->SortSt->Prop}(hk:kindOf st=κ)(gs:Gs st st')(j:J2 rk a.toList b.toList out.toList.reverse na nb)(h1:1<=na)(h2:2<=nb)(hp:p+na+nb<=a.size+b.size)
  (d:∀c,NK rk a b p st c st'->R (.done c) st') (y:∀c,c.1=none->NK rk a b p st c st'->R (.yield c) st'):wpS (model prog w) A E s (r1 a b out na nb g ac bc) R st':=by
 have z:=j.za
 have z2:=j.zb
 have eb:b[nb-1]?=some b[nb-1]:=AH (by lia)
 refine AQ (JJ eb (AQ (QA hA (gs.kind.trans hk) (m.mb _ _ eb) m.ma (by lia) (by lia) (λi k a1 a2 a3=>Kb m.sa i k (Ax _) a2 (by lia)) λr k1 k2 k3=>?_)))
 have sB:=Kb m.sb
 have le:∀i,i<r->kv rk a i<=kv rk b (nb-1):=λi i2=>by
  have:=k2 i (Ax _) (by lia)
  unfold Bd at this
  rw[AD (by decide),<-IV (rk:=rk) eb]at this
  exact this
 have gt:∀i,r<=i->i<na->kv rk b (nb-1)<=kv rk a i:=λi i1 i2=>by
  have:=k3 i (by lia) (by lia)
  unfold Bd at this
  rw[AD (by decide),<-IV (rk:=rk) eb]at this
  lia
 dsimp only
 by_cases k0:na-r>0
 ·rw[AF k0]
  have j2:=m.appA2 (p:=r) j (by lia) (λq q1 q2 i i1 i2=>by
   have e1:=gt q q1 q2
   have e2:=sB i (nb-1) (Ax _) (by lia) (by lia)
   lia)
  by_cases c:r=0
  ·rw[AF (by simpa using c)]
   exact Ac (d _ ⟨gs,.inl ⟨_,rfl,m.done2 j2 (.inl c)⟩⟩)
  ·rw[AD (by simpa using c)]
   exact Rr hA m hk gs j2 (by lia) h2 (by lia) (λi i1 i2=>le i i1) d y
 ·rw[AD k0]
  exact Rr hA m hk gs j h1 h2 hp (λi i1 i2=>le i (by lia)) d y
theorem XI(hA:KA prog w A s κ M rk){st:SortSt}{Q:Array Keyed->SortSt->Prop}(hk:kindOf st=κ)(m:Hn M rk a b)
  (q:∀r st',Gs st st'->Hu rk a.toList b.toList r.toList->Q r st'):wpS (model prog w) A E s (Wr a b) Q st:=by
 refine AQ (EZ (CU ⟨rfl,?_⟩))
 have za:=m.za
 have zb:=m.zb
 have ea0:a[a.size-1]?=some a[a.size-1]:=AH (by lia)
 have sA:=Kb m.sa
 have sB:=Kb m.sb
 have j0:J2 rk a.toList b.toList (#[]:Array Keyed).toList.reverse a.size b.size:=⟨by rw[AR];exact AG _,by rw[AR];exact AG _,by simp [Ci],List.Pairwise.nil,λx hx y hy=>by simp at hy,λx hx y hy=>by simp at hy⟩
 have j1:J2 rk a.toList b.toList (#[a[a.size-1]]:Array Keyed).toList.reverse (a.size-1) b.size:=m.pushA2 j0 za ea0 λi i1 i2=>BY (m.lst i i2)
 refine AQ (JJ ea0 ?_)
 by_cases c1:a.size-1=0
 ·rw[AF (by simpa using c1)]
  exact Ac (q _ st (Gs.refl _) (m.done2 j1 (.inl c1)))
 rw[AD (by simpa using c1)]
 by_cases c2:b.size=1
 ·rw[AF (by simpa using c2)]
  exact Ac (q _ st (Gs.refl _) (m.first2 j1 c2))
 rw[AD (by simpa using c2)]
 refine AQ (Dv ?_)
 refine AQ (Cf (Bc (I:=λx c st'=>Gs st st'/\c.1=none/\J2 rk a.toList b.toList c.2.2.2.1.toList.reverse c.2.1 c.2.2.1/\1<=c.2.1/\2<=c.2.2.1/\x+1+c.2.1+c.2.2.1<=a.size+b.size)
  (Q:=λc st'=>Gs st st'/\∃r,c.1=some r/\Hu rk a.toList b.toList r.toList) ?step ?fin ⟨Gs.refl _,rfl,j1,by show 1<=a.size-1;lia,by show 2<=b.size;lia,by show 0+1+(a.size-1)+b.size<=a.size+b.size;lia⟩) ?post)
 case post =>
  rintro⟨c,Hg⟩ st' ⟨gs,r,e,g⟩
  have e':c=some r:=e
  subst e'
  exact Ac (q r st' gs g)
 case fin =>
  rintro⟨c,na,nb,out,g⟩ st' ⟨gs,e,j,h1,h2,h3⟩
  exfalso
  dsimp only at h1 h2 h3
  lia
 case step =>
  rintro x ⟨c,na,nb,out,g⟩ st' _ hx ⟨gs,e,j,h1,h2,h3⟩
  dsimp only at e j h1 h2 h3
  subst e
  refine AQ (Cf (Bc (I:=λy c st''=>st''=st'/\c.1=none/\J2 rk a.toList b.toList c.2.2.2.1.toList.reverse c.2.1 c.2.2.1/\1<=c.2.1/\2<=c.2.2.1/\x+1+min y 1+c.2.1+c.2.2.1<=a.size+b.size)
   (Q:=λc st''=>st''=st'/\((∃r,c.1=some r/\Hu rk a.toList b.toList r.toList)∨(c.1=none/\J2 rk a.toList b.toList c.2.2.2.1.toList.reverse c.2.1 c.2.2.1/\1<=c.2.1/\2<=c.2.2.1/\x+2+c.2.1+c.2.2.1<=a.size+b.size))) ?step1 ?fin1 ⟨rfl,rfl,j,h1,h2,by show x+1+min 0 1+na+nb<=a.size+b.size;lia⟩) ?post1)
  case fin1 =>
   rintro⟨c,na,nb,out,ac,bc⟩ st'' ⟨e1,e,j,h1,h2,h3⟩
   refine⟨e1,.inr ⟨e,j,h1,h2,?_⟩⟩
   dsimp only at h3 ⊢
   lia
  case step1 =>
   rintro y ⟨c,na,nb,out,ac,bc⟩ st'' _ hy ⟨e1,e,j,h1,h2,h3⟩
   subst e1
   dsimp only at e j h1 h2 h3
   subst e
   have z:=j.za
   have z2:=j.zb
   have eb:b[nb-1]?=some b[nb-1]:=AH (by lia)
   have ea:a[na-1]?=some a[na-1]:=AH (by lia)
   refine AQ (JJ eb (AQ (JJ ea (AQ (T9 hA (gs.kind.trans hk) (m.mb _ _ eb) (m.ma _ _ ea) ?_)))))
   by_cases c:rk b[nb-1]<rk a[na-1]
   ·rw[Ab c]
    dsimp only
    rw[AF rfl]
    refine AQ (JJ ea ?_)
    have j':=m.pushA2 j h1 ea λi i1 i2=>by
     have q1:=sB i (nb-1) (Ax _) (by lia) (by lia)
     rw[IV eb]at q1
     rw[IV ea]
     lia
    by_cases c3:na-1=0
    ·rw[AF (by simpa using c3)]
     exact Ac ⟨rfl,.inl ⟨_,rfl,m.done2 j' (.inl c3)⟩⟩
    rw[AD (by simpa using c3)]
    split
    ·exact Ac ⟨rfl,.inr ⟨rfl,j',by dsimp only;lia,h2,by dsimp only;lia⟩⟩
    ·exact Ac ⟨rfl,rfl,j',by dsimp only;lia,h2,by dsimp only;lia⟩
   ·rw[AO c]
    dsimp only
    rw[AD (by decide)]
    refine AQ (JJ eb ?_)
    have j':=m.pushB2 j (by lia) eb λi i1 i2=>by
     have q1:=sA i (na-1) (Ax _) (by lia) (by lia)
     rw[IV ea]at q1
     rw[IV eb]
     lia
    by_cases c3:nb-1=1
    ·rw[AF (by simpa using c3)]
     exact Ac ⟨rfl,.inl ⟨_,rfl,m.first2 j' c3⟩⟩
    rw[AD (by simpa using c3)]
    split
    ·exact Ac ⟨rfl,.inr ⟨rfl,j',h1,by dsimp only;lia,by dsimp only;lia⟩⟩
    ·exact Ac ⟨rfl,rfl,j',h1,by dsimp only;lia,by dsimp only;lia⟩
  case post1 =>
   rintro⟨c,na,nb,out,ac,bc⟩ st'' ⟨e1,h⟩
   subst e1
   rcases h with⟨r,e,g1⟩|⟨e,j,h1,h2,h3⟩
   ·have e':c=some r:=e
    subst e'
    exact Ac ⟨gs,r,rfl,g1⟩
   ·dsimp only at e j h1 h2 h3
    subst e
    refine AQ (EZ (CU ⟨rfl,?_⟩))
    refine AQ (Cf (Bc (I:=λ_ c st3=>c.1=none/\NK rk a b (x+2) st c st3) (Q:=λc st3=>NK rk a b (x+2) st c st3) ?step2 ?fin2 ⟨rfl,gs,.inr ⟨rfl,j,h1,h2,h3⟩⟩) ?post2)
    case fin2 =>
     rintro c st3 ⟨_,hc⟩
     exact hc
    case step2 =>
     rintro y ⟨c,na,nb,out,g2,ac,bc⟩ st3 _ hy ⟨e,gs3,hc⟩
     have e':c=none:=e
     subst e'
     rcases hc with⟨r,er,_⟩|⟨_,j,h1,h2,h3⟩
     ·cases er
     dsimp only at j h1 h2 h3
     refine Vt (λ_=>?_) (λ_=>?_)
     ·refine AQ (Ck ?_)
      exact Re hA m hk (gs3.trans (QJ st3 (g2-1))) j h1 h2 h3 (λc hc=>hc) (λc e hc=>⟨e,hc⟩)
     ·refine AQ (Ck ?_)
      exact Re hA m hk (gs3.trans (QJ st3 g2)) j h1 h2 h3 (λc hc=>hc) (λc e hc=>⟨e,hc⟩)
    case post2 =>
     rintro⟨c,na,nb,out,g2,ac,bc⟩ st3 ⟨gs3,hc⟩
     rcases hc with⟨r,er,g3⟩|⟨er,j,h1,h2,h3⟩
     ·have e':c=some r:=er
      subst e'
      exact Ac ⟨gs3,r,rfl,g3⟩
     ·have e':c=none:=er
      subst e'
      dsimp only at j h1 h2 h3 ⊢
      refine AQ (Ck (Ac ⟨gs3.trans (QJ st3 (g2+1)),rfl,j,h1,h2,by dsimp only;lia⟩))
end
abbrev Run:=Nat×Nat×Nat
theorem cP{α:Type}{L R:List α}{x y z:α}{p:Array α}(hp:p.toList=L++x::y::R):((p.setIfInBounds L.length z).eraseIdxIfInBounds (L.length+1)).toList=L++z::R:=by
 have hz:p.size=L.length+2+R.length:=by rw[<-AR,hp];simp;lia
 rw[Array.eraseIdxIfInBounds]
 rw[dif_pos (by rw[C1];lia),Array.toList_eraseIdx,Array.toList_setIfInBounds,hp]
 rw[List.set_append_right _ _ (AG _),Nat.sub_self,List.set_cons_zero,List.eraseIdx_append_of_length_le (by lia),show L.length+1-L.length=1 by lia]
 rfl
theorem Uj(o:Nat):∀(l:List Keyed)(n:Nat)(xs:Array Keyed),o+n+l.length<=xs.size->∀k:Nat,
  ((l.zipIdx n).foldl (λa (x:Keyed×Nat)=>a.setIfInBounds (o+x.2) x.1) xs)[k]?=if o+n<=k/\k<o+n+l.length then l[k-(o+n)]? else xs[k]?
 |[],n,xs,_,k=>by
  rw[AD (by simp)];rfl
 |x::l,n,xs,h,k=>by
  rw[Aj]at h
  rw[E9,Bm,Uj o l (n+1) _ (by rw[C1];lia) k,Aj]
  by_cases c:o+(n+1)<=k/\k<o+(n+1)+l.length
  ·rw[AF c,AF (by lia),show k-(o+n)=(k-(o+(n+1)))+1 by lia,List.getElem?_cons_succ]
  ·rw[AD c]
   by_cases c2:k=o+n
   ·subst c2
    rw[AF (by lia),Nat.sub_self,List.getElem?_cons_zero,Array.getElem?_setIfInBounds_self_of_lt (by lia)]
   ·rw[AD (by lia),C6 (by lia)]
theorem Wd{rk:Keyed->Nat}{xs:Array Keyed}{i j m:Nat}(h:i+m<j):kv rk (xs.extract i j) m=kv rk xs (i+m):=by
 refine LC ?_
 rw[Fe]
 by_cases c:m<min j xs.size-i
 ·rw[AF c]
 ·rw[AD c,Bq (by lia)]
theorem Yf{σ:Type}{M:Model}{A:Around}{E:wD}{s:wM}{x:σ}{Q:PUnit->σ->Prop}{st:σ}(h:Q ⟨⟩ x):wpS M A E s (set x:StateT σ Sem PUnit) Q st:=by
 unfold wpS
 rw[StateT.run_set]
 exact AE ⟨rfl,h⟩
section
variable{rk:Keyed->Nat}{prog:wP}{w:wQ}{A:Around}{E:wD}{s:wM}{κ:SortKind}{M:Keyed->Prop}
theorem ZO(h:KA prog w A s κ M rk){st:SortSt}{Q:Bool->SortSt->Prop}(hk:kindOf st=κ)(ha:All M (arrOf st))(hf:failedOf st=none){L R:List Run}{sa na pa sb nb pb:Nat}(hp:(pendingOf st).toList=L++(sa,na,pa)::(sb,nb,pb)::R)
  (e:sb=sa+na) (h1:1<=na) (h2:1<=nb) (hz:sb+nb<=(arrOf st).size) (s1:JD rk (arrOf st) sa (sa+na)) (s2:JD rk (arrOf st) sb (sb+nb))
  (q:∀st',kindOf st'=κ->failedOf st'=none->(pendingOf st').toList=L++(sa,na+nb,pa)::R->(arrOf st').Perm (arrOf st)->(∀k:Nat,k<sa∨sa+na+nb<=k->(arrOf st')[k]?=(arrOf st)[k]?)->JD rk (arrOf st') sa (sa+(na+nb))->Q true st') :
  wpS (model prog w) A E s (mergeAt' L.length) Q st:=by
 subst e
 have g0:(pendingOf st)[L.length]?=some (sa,na,pa):=by rw[<-A6,hp];simp
 have g1:(pendingOf st)[L.length+1]?=some (sa+na,nb,pb):=by rw[<-A6,hp];simp
 have er:=cP (z:=(sa,na+nb,pa)) hp
 refine AQ (Dv ?_)
 rw[g0,g1]
 dsimp only
 refine AQ (Yf ?_)
 have eb:(arrOf st)[sa+na]?=some (arrOf st)[sa+na]:=AH (by lia)
 refine AQ (JJ eb (AQ (QA h (arr:=arrOf st) (st:=SortSt.mk' (kindOf st) (arrOf st) _ (gallopOf st) (failedOf st)) hk (ha _ _ eb) ha (by lia) (by lia) s1 λk k1 k2 k3=>?_)))
 have a1:∀i,sa<=i->i<sa+k->kv rk (arrOf st) i<=kv rk (arrOf st) (sa+na):=λi i1 i2=>by
  have:=k2 i i1 i2
  unfold Bd at this
  rw[AD (by decide),<-IV (rk:=rk) eb]at this
  exact this
 have a2:∀i,sa+k<=i->i<sa+na->kv rk (arrOf st) (sa+na)<kv rk (arrOf st) i:=λi i1 i2=>by
  have:=k3 i i1 (by lia)
  unfold Bd at this
  rw[AD (by decide),<-IV (rk:=rk) eb]at this
  lia
 dsimp only
 by_cases c1:na-k=0
 ·rw[AF (by simpa using c1)]
  refine Ac (q _ hk hf er (Array.Perm.refl _) (λ_ _=>rfl) λi j i1 ij j1=>?_)
  show kv rk (arrOf st) i<=kv rk (arrOf st) j
  by_cases cj:j<sa+na
  ·exact s1 i j i1 ij cj
  ·by_cases ci:i<sa+na
   ·have b1:=a1 i i1 (by lia)
    have b2:=s2 (sa+na) j (AG _) (by lia) (by lia)
    lia
   ·exact s2 i j (by lia) ij (by lia)
 rw[AD (by simpa using c1)]
 have el:(arrOf st)[sa+k+(na-k)-1]?=some (arrOf st)[sa+k+(na-k)-1]:=AH (by lia)
 refine AQ (JJ el (AQ (QA h (arr:=arrOf st) (st:=SortSt.mk' (kindOf st) (arrOf st) _ (gallopOf st) (failedOf st)) hk (ha _ _ el) ha (by lia) (by lia) s2 λn n1 n2 n3=>?_)))
 have b1:∀i,sa+na<=i->i<sa+na+n->kv rk (arrOf st) i<kv rk (arrOf st) (sa+na-1):=λi i1 i2=>by
  have:=n2 i i1 i2
  unfold Bd at this
  rw[AF rfl,<-IV (rk:=rk) el,show sa+k+(na-k)-1=sa+na-1 by lia]at this
  exact this
 have b2:∀i,sa+na+n<=i->i<sa+na+nb->kv rk (arrOf st) (sa+na-1)<=kv rk (arrOf st) i:=λi i1 i2=>by
  have:=n3 i i1 i2
  unfold Bd at this
  rw[AF rfl,<-IV (rk:=rk) el,show sa+k+(na-k)-1=sa+na-1 by lia]at this
  lia
 dsimp only
 by_cases c2:n=0
 ·exfalso
  have d1:=a2 (sa+na-1) (by lia) (by lia)
  have d2:=b2 (sa+na) (by lia) (by lia)
  lia
 rw[AD (by simpa using c2)]
 have mp:Hn M rk ((arrOf st).extract (sa+k) (sa+na)) ((arrOf st).extract (sa+na) (sa+na+n)):=by
  have zx:((arrOf st).extract (sa+k) (sa+na)).size=na-k:=by rw[Ef];lia
  have zy:((arrOf st).extract (sa+na) (sa+na+n)).size=n:=by rw[Ef];lia
  have sub:∀i j,All M ((arrOf st).extract i j):=λi j m x hx=>by
   rw[Fe]at hx
   split at hx
   ·exact ha _ _ hx
   ·cases hx
  refine⟨sub _ _,sub _ _,?_,?_,by lia,by lia,?_,λi hi=>?_⟩
  ·rw[LW,show sa+na-(sa+k)=na-k by lia]
   exact RP (λi j i1 ij j1=>s1 i j (by lia) ij (by lia)) (by lia)
  ·rw[LW,show sa+na+n-(sa+na)=n by lia]
   exact RP (λi j i1 ij j1=>s2 i j i1 ij (by lia)) (by lia)
  ·rw[Wd (by lia),Wd (by lia)]
   exact a2 _ (by lia) (by lia)
  ·rw[zx,Wd (by lia),Wd (by lia),show sa+k+(na-k-1)=sa+na-1 by lia]
   exact b1 _ (by lia) (by lia)
 have fin:∀(r:Array Keyed)(st2:SortSt),Gs (SortSt.mk' (kindOf st) (arrOf st) (((pendingOf st).setIfInBounds L.length (sa,na+nb,pa)).eraseIdxIfInBounds (L.length+1)) (gallopOf st) (failedOf st)) st2 ->
   Hu rk ((arrOf st).extract (sa+k) (sa+na)).toList ((arrOf st).extract (sa+na) (sa+na+n)).toList r.toList ->
   Q true (SortSt.mk' (kindOf st2) (r.toList.zipIdx.foldl (λa (x:Keyed×Nat)=>a.setIfInBounds (sa+k+x.2) x.1) (arrOf st2)) (pendingOf st2) (gallopOf st2) (failedOf st2))/\failedOf st2=none:=by
  intro r st2 gs gd
  have e1:arrOf st2=arrOf st:=gs.arr
  have e2:failedOf st2=none:=gs.failed.trans hf
  refine⟨?_,e2⟩
  rw[e1]
  have lr:r.toList.length=(na-k)+n:=by
   have:=gd.1.length_eq
   simp only[AI,AR,Ef]at this
   rw[AR]
   lia
  have wr:=Uj (sa+k) r.toList 0 (arrOf st) (by lia)
  generalize hxs:r.toList.zipIdx.foldl (λa (x:Keyed×Nat)=>a.setIfInBounds (sa+k+x.2) x.1) (arrOf st)=xs' at wr ⊢
  have zs:xs'.size=(arrOf st).size:=by
   have key:∀(l:List (Keyed×Nat))(ys:Array Keyed),(l.foldl (λa (x:Keyed×Nat)=>a.setIfInBounds (sa+k+x.2) x.1) ys).size=ys.size:=by
    intro l
    induction l with
    |nil=>intro ys;rfl
    |cons z l ih=>intro ys;rw[Bm,ih,C1]
   rw[<-hxs]
   exact key _ _
  have whole:xs'.toList=(arrOf st).toList.take (sa+k)++r.toList++(arrOf st).toList.drop (sa+na+n):=by
   refine DM λi=>?_
   rw[A6,wr i]
   have lt:((arrOf st).toList.take (sa+k)).length=sa+k:=by rw[Ah,AR];lia
   by_cases c:i<sa+k
   ·rw[AD (by lia),Ag,Dh (by lia),E6 c,A6]
   ·by_cases c':i<sa+na+n
    ·rw[AF (by lia),Dh (by rw[AI,lt];lia),DY (by lia),lt]
     rfl
    ·rw[AD (by lia),DY (by rw[AI,lt];lia),AI,lt,List.getElem?_drop,A6]
     congr 1
     lia
  have old:(arrOf st).toList=(arrOf st).toList.take (sa+k)++(((arrOf st).extract (sa+k) (sa+na)).toList++((arrOf st).extract (sa+na) (sa+na+n)).toList)++(arrOf st).toList.drop (sa+na+n):=by
   have f1:(arrOf st).toList=(arrOf st).toList.take (sa+k)++(arrOf st).toList.drop (sa+k):=(Bf _ _).symm
   have f2:=Pr (arrOf st).toList (sa+k) (na-k)
   have f3:=Pr (arrOf st).toList (sa+na) n
   rw[show sa+k+(na-k)=sa+na by lia]at f2
   rw[LW,LW,show sa+na-(sa+k)=na-k by lia,show sa+na+n-(sa+na)=n by lia]
   rw[Ag,Ag,<-f3,<-f2]
   exact f1
  have pm:xs'.Perm (arrOf st):=by
   refine Ep.mpr ?_
   rw[whole]
   refine List.Perm.trans ?_ (List.Perm.of_eq old.symm)
   exact BV _ (Bx _ gd.1)
  have kvw:∀i,kv rk xs' i=if sa+k<=i/\i<sa+na+n then kv rk r (i-(sa+k)) else kv rk (arrOf st) i:=λi=>by
   have q1:=wr i
   by_cases c:sa+k<=i/\i<sa+na+n
   ·rw[AF c]
    rw[AF (by lia)]at q1
    exact LC (by rw[q1,A6];rfl)
   ·rw[AD c]
    rw[AD (by lia)]at q1
    exact LC q1
  have src:∀m,m<(na-k)+n->∃j,sa+k<=j/\j<sa+na+n/\kv rk r m=kv rk (arrOf st) j:=λm hm=>by
   have hm':m<r.size:=by rw[<-AR];lia
   have em:r[m]?=some r[m]:=AH hm'
   have mem:r[m]∈r.toList:=by simp
   rcases Aq.mp (gd.1.mem_iff.mp mem) with hm1|hm1
   ·rw[LW]at hm1
    obtain⟨j,j1,j2,j3,j4,_⟩:=Nf (rk:=rk) hm1
    exact⟨j,j1,by lia,by rw[IV em,j4]⟩
   ·rw[LW]at hm1
    obtain⟨j,j1,j2,j3,j4,_⟩:=Nf (rk:=rk) hm1
    exact⟨j,by lia,by lia,by rw[IV em,j4]⟩
  have sr:=Kb gd.2
  refine q _ (gs.kind.trans hk) e2 ((congrArg Array.toList gs.pend).trans er) pm (λi hi=>?_) λi j i1 ij j1=>?_
  ·have q1:=wr i
   rw[AD (by lia)]at q1
   exact q1
  ·show kv rk xs' i<=kv rk xs' j
   have left:∀z y,sa<=z->z<sa+k->sa+k<=y->y<sa+na+nb->kv rk (arrOf st) z<=kv rk (arrOf st) y:=λz y z1 z2 y1 y2=>by
    by_cases c:y<sa+na
    ·exact s1 z y z1 (by lia) c
    ·have d1:=a1 z z1 z2
     have d2:=s2 (sa+na) y (AG _) (by lia) y2
     lia
   have right:∀z y,sa+k<=z->z<sa+na+n->sa+na+n<=y->y<sa+na+nb->kv rk (arrOf st) z<=kv rk (arrOf st) y:=λz y z1 z2 y1 y2=>by
    by_cases c:z<sa+na
    ·have d1:=s1 z (sa+na-1) (by lia) (by lia) (by lia)
     have d2:=b2 y y1 y2
     lia
    ·exact s2 z y (by lia) (by lia) y2
   rw[kvw i,kvw j]
   by_cases ci:sa+k<=i/\i<sa+na+n
   ·rw[AF ci]
    by_cases cj:sa+k<=j/\j<sa+na+n
    ·rw[AF cj]
     exact sr _ _ (Ax _) (by lia) (by rw[<-AR];lia)
    ·rw[AD cj]
     obtain⟨z,z1,z2,z3⟩:=src (i-(sa+k)) (by lia)
     rw[z3]
     exact right z j z1 z2 (by lia) (by lia)
   ·rw[AD ci]
    by_cases cj:sa+k<=j/\j<sa+na+n
    ·rw[AF cj]
     obtain⟨z,z1,z2,z3⟩:=src (j-(sa+k)) (by lia)
     rw[z3]
     exact left i z i1 (by lia) z1 (by lia)
    ·rw[AD cj]
     by_cases c5:i<sa+k
     ·by_cases c6:j<sa+k
      ·exact s1 i j i1 ij (by lia)
      ·exact left i j i1 c5 (by lia) (by lia)
     ·exact s2 i j (by lia) ij (by lia)
 have go:∀(r:Array Keyed)(st2:SortSt),Gs (SortSt.mk' (kindOf st) (arrOf st) (((pendingOf st).setIfInBounds L.length (sa,na+nb,pa)).eraseIdxIfInBounds (L.length+1)) (gallopOf st) (failedOf st)) st2 ->
   Hu rk ((arrOf st).extract (sa+k) (sa+na)).toList ((arrOf st).extract (sa+na) (sa+na+n)).toList r.toList ->
   wpS (model prog w) A E s (do
    modify λt=>SortSt.mk' (kindOf t) (r.toList.zipIdx.foldl (λa (x:Keyed×Nat)=>a.setIfInBounds (sa+k+x.2) x.1) (arrOf t)) (pendingOf t) (gallopOf t) (failedOf t)
    let t <-get
    pure (failedOf t).isNone) Q st2:=by
  intro r st2 gs gd
  obtain⟨f1,f2⟩:=fin r st2 gs gd
  refine AQ (Ck (AQ (Dv (Ac ?_))))
  have e3:(failedOf st2).isNone=true:=by rw[f2];rfl
  show Q (failedOf st2).isNone _
  rw[e3]
  exact f1
 refine Vt (λ_=>?_) (λ_=>?_)
 ·exact AQ (qJ h hk mp λr st2 gs gd=>go r st2 gs gd)
 ·exact AQ (XI h hk mp λr st2 gs gd=>go r st2 gs gd)
def Hz(rk:Keyed->Nat)(xs:Array Keyed):List Run->Nat->Nat->Prop
 |[],a,e=>a=e
 |r::l,a,e=>r.1=a/\1<=r.2.1/\JD rk xs a (a+r.2.1)/\Hz rk xs l (a+r.2.1) e
theorem Hz.le{xs:Array Keyed}:∀{l:List Run}{a e:Nat},Hz rk xs l a e->a+l.length<=e
 |[],a,e,h=>by have:a=e:=h;simp;lia
 |r::l,a,e,⟨h1,h2,h3,h4⟩=>by
  have:=Hz.le h4
  rw[Aj]
  lia
theorem Hz.app{xs:Array Keyed}:∀{l m:List Run}{a e:Nat},Hz rk xs (l++m) a e->∃z,Hz rk xs l a z/\Hz rk xs m z e
 |[],m,a,e,h=>⟨a,rfl,h⟩
 |r::l,m,a,e,⟨h1,h2,h3,h4⟩=>by
  obtain⟨z,z1,z2⟩:=Hz.app h4
  exact⟨z,⟨h1,h2,h3,z1⟩,z2⟩
theorem Hz.join{xs:Array Keyed}:∀{l m:List Run}{a z e:Nat},Hz rk xs l a z->Hz rk xs m z e->Hz rk xs (l++m) a e
 |[],m,a,z,e,h,q=>by have:a=z:=h;subst this;exact q
 |r::l,m,a,z,e,⟨h1,h2,h3,h4⟩,q=>⟨h1,h2,h3,Hz.join h4 q⟩
theorem Hz.same{xs ys:Array Keyed}:∀{l:List Run}{a e:Nat},Hz rk xs l a e->(∀k,a<=k->k<e->kv rk ys k=kv rk xs k)->Hz rk ys l a e
 |[],a,e,h,_=>h
 |r::l,a,e,⟨h1,h2,h3,h4⟩,q=>by
  have le:=Hz.le h4
  refine⟨h1,h2,λi j i1 ij j1=>?_,Hz.same h4 λk k1 k2=>q k (by lia) k2⟩
  rw[q i i1 (by lia),q j (by lia) (by lia)]
  exact h3 i j i1 ij j1
theorem Hz.modify{xs:Array Keyed}{f:Run->Run}(hf:∀r,(f r).1=r.1/\(f r).2.1=r.2.1):∀{l:List Run}{a e:Nat},Hz rk xs l a e->∀i,Hz rk xs (l.modify i f) a e
 |[],a,e,h,i=>by cases i<;>exact h
 |r::l,a,e,⟨h1,h2,h3,h4⟩,0=>by
  obtain⟨f1,f2⟩:=hf r
  show Hz rk xs (f r::l) a e
  exact⟨f1.trans h1,by lia,by rw[f2];exact h3,by rw[f2];exact h4⟩
 |r::l,a,e,⟨h1,h2,h3,h4⟩,i+1=>⟨h1,h2,h3,Hz.modify hf h4 i⟩
structure Tb(rk:Keyed->Nat)(κ:SortKind)(a₀:Array Keyed)(lo:Nat)(st:SortSt):Prop where
 kind:kindOf st=κ
 failed:failedOf st=none
 perm:(arrOf st).Perm a₀
 runs:Hz rk (arrOf st) (pendingOf st).toList 0 lo
theorem Tb.size{a₀:Array Keyed}{lo:Nat}{st:SortSt}(t:Tb rk κ a₀ lo st):(arrOf st).size=a₀.size:=t.perm.size_eq
theorem Qc(h:KA prog w A s κ M rk){a₀:Array Keyed}{lo i:Nat}{st:SortSt}{Q:Bool->SortSt->Prop}(hM:All M a₀)(t:Tb rk κ a₀ lo st)(hlo:lo<=a₀.size)(hi:i+1<(pendingOf st).size)
  (q:∀st',Tb rk κ a₀ lo st'->(pendingOf st').size+1=(pendingOf st).size->(∀k:Nat,lo<=k->(arrOf st')[k]?=(arrOf st)[k]?)->Q true st'):wpS (model prog w) A E s (mergeAt' i) Q st:=by
 obtain⟨L,x,y,R,e,el⟩:∃L x y R,(pendingOf st).toList=L++x::y::R/\L.length=i:=by
  have hl:i+1<(pendingOf st).toList.length:=by rw[AR];exact hi
  refine⟨(pendingOf st).toList.take i,(pendingOf st).toList[i],(pendingOf st).toList[i+1],(pendingOf st).toList.drop (i+2),?_,by rw[Ah];lia⟩
  rw[Ff hl,Ff,Bf]
 subst el
 obtain⟨sa,na,pa⟩:=x
 obtain⟨sb,nb,pb⟩:=y
 have r:=t.runs
 rw[e]at r
 obtain⟨z,r1,r2⟩:=r.app
 obtain⟨x1,x2,x3,x4⟩:=r2
 obtain⟨y1,y2,y3,y4⟩:=x4
 dsimp only at x1 x2 x3 y1 y2 y3 y4
 subst x1
 have le:=y4.le
 have sz:=t.size
 refine ZO h t.kind (hM.perm t.perm) t.failed e y1 x2 y2 (by lia) x3 (by rw[y1];exact y3) λst' k1 k2 k3 k4 k5 k6=>?_
 have sm:∀k,k<sa∨sa+na+nb<=k->kv rk (arrOf st') k=kv rk (arrOf st) k:=λk hk=>LC (k5 k hk)
 refine q st' ⟨k1,k2,k4.trans t.perm,?_⟩ ?_ λk hk=>k5 k (.inr (by lia))
 ·rw[k3]
  refine(r1.same λk _ hk=>sm k (.inl hk)).join ⟨rfl,by dsimp only;lia,k6,?_⟩
  dsimp only
  rw[show sa+(na+nb)=sa+na+nb by lia]
  exact y4.same λk hk _=>sm k (.inr hk)
 ·rw[<-AR,<-AR,k3,e]
  simp
  lia
theorem W4(h:KA prog w A s κ M rk){st:SortSt}{Q:Unit->SortSt->Prop}(hk:kindOf st=κ)(hM:All M (arrOf st))(hf:failedOf st=none)(hp:pendingOf st=#[])(h1:1<=(arrOf st).size)
  (q:∀st',(arrOf st').Perm (arrOf st)->failedOf st'=none->JD rk (arrOf st') 0 (arrOf st).size->Q () st'):wpS (model prog w) A E s sortRuns' Q st:=by
 rw[sortRuns'_eq]
 refine AQ (Dv ?_)
 generalize ha₀:arrOf st=a₀ at hM h1 q
 dsimp only
 have t0:Tb rk κ a₀ 0 st:=⟨hk,hf,by rw[ha₀],by rw[hp];rfl⟩
 refine AQ (Cf (Bc (I:=λx c st'=>c.1=none/\Tb rk κ a₀ c.2 st'/\c.2<=a₀.size/\(x<=c.2∨c.2=a₀.size)) (Q:=λc st'=>c.1=none/\Tb rk κ a₀ a₀.size st') ?step ?fin ⟨rfl,t0,Ax _,.inl (AG _)⟩) ?post)
 case fin =>
  rintro⟨c,lo⟩ st' ⟨e,t,hl,hx⟩
  dsimp only at e t hl hx
  have el:lo=a₀.size:=by lia
  subst el
  exact⟨e,t⟩
 case step =>
  rintro x ⟨c,lo⟩ st' _ hx ⟨e,t,hl,hxl⟩
  dsimp only at e t hl hxl ⊢
  subst e
  by_cases c1:lo ≥ a₀.size
  ·rw[AF c1]
   have el:lo=a₀.size:=by lia
   subst el
   exact Ac ⟨rfl,t⟩
  rw[AD c1]
  have sz:=t.size
  refine AQ (bZ h t.kind (hM.perm t.perm) (by lia) (by lia) λn st2 nx n1 n2 ns=>?_)
  have t2:Tb rk κ a₀ lo st2:=⟨nx.kind.trans t.kind,nx.failed.trans t.failed,nx.perm.trans t.perm,by rw[nx.pend];exact t.runs.same λk _ hk=>LC (nx.below k hk)⟩
  dsimp only
  generalize hforce:min (a₀.size-lo) (minRun' a₀.size a₀.size 0)=force
  have Hg:∀(K1 K2:StateT SortSt Sem (ForInStep (Option Unit×Nat)))(Z:ForInStep (Option Unit×Nat)->SortSt->Prop),
    (∀st3,Tb rk κ a₀ lo st3->1<=force->lo+force<=a₀.size->JD rk (arrOf st3) lo (lo+force)->wpS (model prog w) A E s K1 Z st3) ->
    (∀st3,Tb rk κ a₀ lo st3->1<=n->lo+n<=a₀.size->JD rk (arrOf st3) lo (lo+n)->wpS (model prog w) A E s K2 Z st3) ->
    wpS (model prog w) A E s (if n<minRun' a₀.size a₀.size 0 then do
     liftM (rule "list.sort.binary-insertion")
     let r <-binarySort' lo force n
     if (!r)=true then pure (ForInStep.done (some (),lo)) else K1
    else K2) Z st2:=by
   intro K1 K2 Z hK1 hK2
   have sz2:=t2.size
   by_cases c2:n<minRun' a₀.size a₀.size 0
   ·rw[AF c2]
    refine AQ (EZ (CU ⟨rfl,?_⟩))
    refine AQ (Zj h t2.kind (hM.perm t2.perm) (by lia) (by lia) ns λst3 nx3 ns3=>?_)
    simp only[Go,A7,Bi]
    exact hK1 st3 ⟨nx3.kind.trans t2.kind,nx3.failed.trans t2.failed,nx3.perm.trans t2.perm,by rw[nx3.pend];exact t2.runs.same λk _ hk=>LC (nx3.below k hk)⟩ (by lia) (by lia) ns3
   ·rw[AD c2]
    exact hK2 st2 t2 n1 (by lia) ns
  have push:∀(m:Nat) st4,Tb rk κ a₀ lo st4->1<=m->JD rk (arrOf st4) lo (lo+m)->Tb rk κ a₀ (lo+m) (setPending st4 ((pendingOf st4).push (lo,m,0))):=λm st4 t4 m1 ns4=>by
   refine⟨t4.kind,t4.failed,t4.perm,?_⟩
   show Hz rk (arrOf st4) ((pendingOf st4).push (lo,m,0)).toList 0 (lo+m)
   rw[DL]
   exact t4.runs.join ⟨rfl,m1,ns4,rfl⟩
  have relabel:∀(f:Run->Run) st4,(∀r,(f r).1=r.1/\(f r).2.1=r.2.1)->Tb rk κ a₀ lo st4->Tb rk κ a₀ lo (setPending st4 ((pendingOf st4).modify ((pendingOf st4).size-1) f)):=λf st4 hf t4=>by
   refine⟨t4.kind,t4.failed,t4.perm,?_⟩
   show Hz rk (arrOf st4) ((pendingOf st4).modify ((pendingOf st4).size-1) f).toList 0 lo
   rw[Array.toList_modify]
   exact t4.runs.modify hf _
  have inner:∀(m:Nat)(st3:SortSt)(pw:Nat)(K:Option Unit×Unit->StateT SortSt Sem (ForInStep (Option Unit×Nat)))(Z:ForInStep (Option Unit×Nat)->SortSt->Prop),Tb rk κ a₀ lo st3->JD rk (arrOf st3) lo (lo+m) ->
    (∀st4,Tb rk κ a₀ lo st4->JD rk (arrOf st4) lo (lo+m)->wpS (model prog w) A E s (K (none,())) Z st4) ->
    wpS (model prog w) A E s (do
     let r <-forIn [0:a₀.size] ((none,()):Option Unit×Unit) λ_ _=>do
      let z <-get
      match (if (pendingOf z).size>1 then (pendingOf z)[(pendingOf z).size-2]? else none) with
      |some (_,_,old)=>if old<=pw then pure (ForInStep.done (none,())) else do
       let ok <-mergeAt' ((pendingOf z).size-2)
       if (!ok)=true then pure (ForInStep.done (some (),())) else pure (ForInStep.yield (none,()))
      |_=>pure (ForInStep.done (none,()))
     K r) Z st3:=by
   intro m st3 pw K Z t3 ns hK
   refine AQ (Cf (Bc (I:=λ_ c st'=>c.1=none/\Tb rk κ a₀ lo st'/\JD rk (arrOf st') lo (lo+m)) (Q:=λc st'=>c.1=none/\Tb rk κ a₀ lo st'/\JD rk (arrOf st') lo (lo+m)) ?step3 (λc st' hc=>hc) ⟨rfl,t3,ns⟩) ?post3)
   case step3 =>
    rintro y ⟨c,u⟩ st4 _ hy ⟨e,t4,ns4⟩
    have e':c=none:=e
    subst e'
    refine AQ (Dv ?_)
    by_cases c4:(pendingOf st4).size>1
    ·rw[AF c4]
     have eg:(pendingOf st4)[(pendingOf st4).size-2]?=some (pendingOf st4)[(pendingOf st4).size-2]:=AH (by lia)
     rw[eg]
     generalize (pendingOf st4)[(pendingOf st4).size-2]=z
     obtain⟨z1,z2,z3⟩:=z
     dsimp only
     refine Vt (λ_=>Ac ⟨rfl,t4,ns4⟩) λ_=>?_
     refine AQ (Qc h hM t4 hl (by lia) λst5 t5 _ k5=>?_)
     simp only[Go,A7,Bi]
     refine Ac ⟨rfl,t5,λi j i1 ij j1=>?_⟩
     rw[LC (rk:=rk) (k5 i i1),LC (rk:=rk) (k5 j (by lia))]
     exact ns4 i j i1 ij j1
    ·rw[AD c4]
     exact Ac ⟨rfl,t4,ns4⟩
   case post3 =>
    rintro⟨c,u⟩ st4 ⟨e,t4,ns4⟩
    have e':c=none:=e
    subst e'
    exact hK st4 t4 ns4
  refine Hg _ _ _ (λst3 t3 n1 n2 ns=>?_) (λst3 t3 n1 n2 ns=>?_)
  all_goals
   refine AQ (Dv ?_)
   cases hb:(pendingOf st3).back? with
   |none=>exact AQ (Ck (Ac ⟨rfl,push _ st3 t3 n1 ns,n2,by dsimp only;lia⟩))
   |some z =>
    obtain⟨s1,n3,p3⟩:=z
    dsimp only
    refine inner _ st3 _ _ _ t3 ns λst4 t4 ns4=>?_
    exact AQ (Ck (AQ (Ck (Ac ⟨rfl,push _ _ (relabel _ st4 (λr=>⟨rfl,rfl⟩) t4) n1 ns4,n2,by dsimp only;lia⟩))))
 case post =>
  rintro⟨c,lo⟩ st' ⟨e,t⟩
  have e':c=none:=e
  subst e'
  dsimp only
  have sz:=t.size
  have r0:=t.runs.le
  rw[AR]at r0
  refine AQ (Cf (Bc (I:=λx c st2=>c.1=none/\Tb rk κ a₀ a₀.size st2/\((pendingOf st2).size<=1∨(pendingOf st2).size+x<=a₀.size)) (Q:=λc st2=>c.1=none/\Tb rk κ a₀ a₀.size st2/\(pendingOf st2).size<=1) ?step4 ?fin4 ⟨rfl,t,.inr (by lia)⟩) ?post4)
  case fin4 =>
   rintro c st2 ⟨e,t,h3⟩
   exact⟨e,t,by lia⟩
  case step4 =>
   rintro x ⟨c,u⟩ st2 _ hx ⟨e,t2,h3⟩
   have e':c=none:=e
   subst e'
   refine AQ (Dv ?_)
   by_cases c1:(pendingOf st2).size<=1
   ·rw[AF c1]
    exact Ac ⟨rfl,t2,c1⟩
   rw[AD c1]
   have fin:∀i,i+1<(pendingOf st2).size->∀(K:Bool->StateT SortSt Sem (ForInStep (Option Unit×Unit)))(Z:ForInStep (Option Unit×Unit)->SortSt->Prop),K true=pure (.yield (none,())) ->
     (∀st5,Tb rk κ a₀ a₀.size st5->((pendingOf st5).size<=1∨(pendingOf st5).size+(x+1)<=a₀.size)->Z (.yield (none,())) st5)->wpS (model prog w) A E s (do
     let r <-mergeAt' i
     K r) Z st2:=by
    intro i hi K Z hK hZ
    refine AQ (Qc h hM t2 (AG _) hi λst5 t5 z5 _=>?_)
    rw[hK]
    exact Ac (hZ st5 t5 (by lia))
   have both:∀(c:Bool)(i:Nat),i+2=(pendingOf st2).size->(if c=true then i-1 else i)+1<(pendingOf st2).size:=λc i hi=>by
    split<;>lia
   refine fin _ (both _ _ ?_) (λr=>_) _ ?_ (λst5 t5 h5=>⟨rfl,t5,h5⟩)
   ·lia
   ·rfl
  case post4 =>
   rintro⟨c,u⟩ st2 ⟨e,t2,h3⟩
   have e':c=none:=e
   subst e'
   refine Ac (q st2 t2.perm t2.failed ?_)
   have r:=t2.runs
   rw[<-AR]at h3
   match hl:(pendingOf st2).toList,h3,r with
   |[],_,r=>have:0=a₀.size:=r;lia
   |[z],_,r =>
    obtain⟨r1,r2,r3,r4⟩:=r
    have r4':0+z.2.1=a₀.size:=r4
    rw[r4']at r3
    exact r3
   |_::_::_,h3,_=>simp at h3
end
end L2.Ts
namespace L2.Rw
open PySem
def IR(h:Heap)(d:wO)(es:Array wT)(ep:Nat):Prop:=∃o,h.get? d=some o/\o.ExactDict/\o.data=.dict es ep
theorem IR.keep{h h':Heap}{d:wO}{es:Array wT}{ep:Nat}(x:IR h d es ep)(k:∀o,h.get? d=some o->h'.get? d=some o):IR h' d es ep:=let ⟨o,e,r⟩:=x;⟨o,k o e,r⟩
theorem IR.lt{h:Heap}{d:wO}{es:Array wT}{ep:Nat}(x:IR h d es ep):d<h.objs.size:=let ⟨_,e,_⟩:=x;AS e
theorem IR.type{s:wM}{d:wO}{es:Array wT}{ep:Nat}(x:IR s.heap d es ep):s.TypeIs (.ref d) "dict" := let ⟨o,e,c,_⟩:=x;⟨o,e,c.1⟩
section
variable{prog:wP}{w:wQ}{A:Around}{E:wD}{s:wM}{d it:wO}{es:Array wT}{ep i:Nat}
theorem UR{Q:wD}(hd:(d==sysModules)=false)(hm:IR s.heap d es ep)
  (hQ:Q (.ref s.heap.objs.size) { s with heap:=s.heap.push { cls:=.type "dict_keyiterator",data:=.fields #[.ref d,.int 0 0,.int es.size 0,.int ep 0] } }):wpAny (model prog w) A (pyIter (.ref d)) Q E s:=by
 have hT:=hm.type
 obtain⟨o,ho,_,hdat⟩:=hm
 refine wpAny_pyIter_slot hT F.slot_dict_iter (Bb F.slot_dict_iter hT F.entry_dict_iter ?_ (F.args_dict_iter_1 _))
 unfold Builtin.«dict.__iter__»
 refine AA ?_
 unfold Builtin.Dict.dictSlotNone
 refine AA (GY hT (AE ?_))
 show wpAny _ _ (Builtin.Dict.showsAll d>>=_) _ _ s
 unfold Builtin.Dict.showsAll
 rw[AD (by rw[hd];decide)]
 refine AA (AE (AA (D4 ho hdat (AA (EO ho hdat ?_)))))
 refine AA (BF (AE ⟨_,rfl, "dict_keyiterator",_,⟨_,AU _ rfl,rfl⟩,By.lookup,?_⟩))
 simpa [rawInt]using hQ
theorem SZ{Q:wI->wM->Prop}(hit:s.heap.IsKeyIter it d i es.size ep)(hm:IR s.heap d es ep)(hi:i<es.size)
  (hQ:∀h',h'.IsKeyIter it d (i+1) es.size ep->Heap.SameBut it s.heap h'->Q (some es[i].key) { s with heap:=h' }):wpAny (model prog w) A (pyNext (.ref it)) Q E s:=by
 obtain⟨o,ho,hc,hd⟩:=id hit
 obtain⟨od,hod,_,hdd⟩:=hm
 have hT:=hit.typeIs
 unfold pyNext
 refine AA (DZ (BU (name:=Str.ofString "__next__") hT By (Bb By hT ER ?_ (EI _))))
 refine AA (AE (AA (AA ?_)))
 first|refine AA (CZ hT (AE ?_))|refine AA (C2 hT (AE ?_))
 refine AA (wpAny_fieldsOf ho hd ?_)
 have own:Builtin.Dict_items.ownsTuple "dict_keyiterator" = false:=by decide
 simp only[own,A7,Bi]
 show wpAny _ _ (if (Value.ref d==Value.none)=true then _ else _) _ _ s
 rw[AD (show ¬ ((Value.ref d==Value.none)=true) from AX)]
 refine AA (AE (AA (D4 hod hdd ?_)))
 rw[AD (by simp)]
 refine AA (AE (AA (EO hod hdd ?_)))
 rw[AD (by simp)]
 refine AE ?_
 simp only[show ¬ ((i:Int)<0) from by lia,Bi,Af,AH hi]
 refine AA ?_
 first|refine AA (CZ hT (AE ?_))|refine AA (C2 hT (AE ?_))
 refine AA (GZ hT ?_)
 show wpAny _ _ (setField (.ref it) 1 (rawInt ((i:Int)+1))>>=_) _ _ s
 refine AA (Cg ho hd (by simp) ?_)
 have on:(s.heap.update it (Obj.mapFields (·.setIfInBounds 1 (rawInt ((i:Int)+1))))).IsKeyIter it d (i+1) es.size ep :=
  ⟨_,BR _ ho (Cq (CL hd _)),(D0 ..).trans hc,by rw[CL hd];simp [rawInt]⟩
 refine AA (Cu (AA (GZ (s:={ s with heap:=s.heap.update it (Obj.mapFields (·.setIfInBounds 1 (rawInt ((i:Int)+1)))) }) on.typeIs ?_)))
 show wpAny _ _ (pure es[i].key) _ _ _
 exact AE (AE ⟨_,rfl,AE (hQ _ on (De ..))⟩)
theorem SE{Q:wI->wM->Prop}(hh:A.handled=none)(hit:s.heap.IsKeyIter it d i es.size ep)(hm:IR s.heap d es ep)(hi:es.size<=i)
  (hQ:∀h',Heap.ExtBut it s.heap h'->Q none { s with heap:=h' }):wpAny (model prog w) A (pyNext (.ref it)) Q E s:=by
 obtain⟨o,ho,hc,hd⟩:=id hit
 obtain⟨od,hod,_,hdd⟩:=hm
 have hT:=hit.typeIs
 unfold pyNext
 refine AA (DZ (BU (name:=Str.ofString "__next__") hT By (Bb By hT ER ?_ (EI _))))
 refine AA (AE (AA (AA ?_)))
 first|refine AA (CZ hT (AE ?_))|refine AA (C2 hT (AE ?_))
 refine AA (wpAny_fieldsOf ho hd ?_)
 have own:Builtin.Dict_items.ownsTuple "dict_keyiterator" = false:=by decide
 simp only[own,A7,Bi]
 show wpAny _ _ (if (Value.ref d==Value.none)=true then _ else _) _ _ s
 rw[AD (show ¬ ((Value.ref d==Value.none)=true) from AX)]
 refine AA (AE (AA (D4 hod hdd ?_)))
 rw[AD (by simp)]
 refine AA (AE (AA (EO hod hdd ?_)))
 rw[AD (by simp)]
 refine AE ?_
 simp only[show ¬ ((i:Int)<0) from by lia,Bi,Af,Bq hi]
 refine AA ?_
 first|refine AA (CZ hT (AE ?_))|refine AA (C2 hT (AE ?_))
 show wpAny _ _ (setField (.ref it) 0 .none>>=_) _ _ s
 refine AA (Cg ho hd (by simp) ?_)
 show wpAny _ _ (newExc (.type "StopIteration") []>>=_) _ _ _
 refine AA ?_
 simp only[newExc,newTuple]
 refine AA (BF ?_ (by size_fits))
 refine AA (m:=firstArgMember _ _) (Fl (a:=Value.none) (by first|rfl|(simp only[firstArgMember];rfl)) ?_)
 refine BF ?_ (by size_fits)
 simp only[raiseNew]
 refine AA (wpAny_handled ?_)
 rw[show A.in1.handled=none from hh]
 refine AA (AE (wpAny_throw ?_))
 refine AA (FK (T := "StopIteration") (b:=true) ⟨_,AU _ rfl,rfl⟩ Ga ?_)
 exact AE (hQ _ (((De ..).extBut.push _).push _))
theorem Q7(hh:A.handled=none)(I d:wO)(hne:d≠I)(es:Array wT)(ep:Nat) :
  Walks prog w A I [I,d] [I] es.size (λi v=>∃h:i<es.size,v=es[i].key) (λi h=>h.IsKeyIter I d i es.size ep/\IR h d es ep) where
 sub:=λb hb=>by simp at hb;simp [hb]
 frame:=λ_ _ _ st hk=>⟨st.1.at λo e=>hk I (by simp) o e,st.2.keep λo e=>hk d (by simp) o e⟩
 item:=λi s Q E hi st hQ=>SZ st.1 st.2 hi λh' on hs=>hQ es[i].key h' s.toks ⟨hi,rfl⟩ ⟨on,st.2.keep λo e=>hs.extBut _ _ hne e⟩ λb o hb e=>hs.extBut b o (λz=>hb (by simp [z])) e
 done:=λs Q E st hQ=>SE hh st.1 st.2 (AG _) λh' he=>hQ h' s.toks λb o hb e=>he b o (λz=>hb (by simp [z])) e
 self:=λ_ _ _ _ st hQ=>wpAny_pyIter_keyiter st.1 hQ
end
end L2.Rw
namespace L2.Pl
abbrev Pw:=wB
abbrev Gi:=wB×Int
noncomputable def Hv:Pw->Pw->Bool
 |[],[]=>false
 |[],_::_=>true
 |_::_,[]=>false
 |x::xs,y::ys=>if x=y then Hv xs ys else decide (x<y)
theorem KD:∀a:Pw,Hv a a=false
 |[]=>rfl
 |x::xs=>by simp [Hv,KD xs]
theorem Mx:∀{a b c:Pw},Hv a b=true->Hv b c=true->Hv a c=true
 |[],[],c,h,_=>by simp [Hv]at h
 |[],_::_,[],_,h=>by simp [Hv]at h
 |[],_::_,_::_,_,_=>rfl
 |_::_,[],_,h,_=>by simp [Hv]at h
 |_::_,_::_,[],_,h=>by simp [Hv]at h
 |x::xs,y::ys,z::zs,h,q=>by
  simp only[Hv]at h q ⊢
  split at h
  ·rename_i e
   subst e
   split at q
   ·rename_i e
    subst e
    rw[AF rfl]
    exact Mx h q
   ·rename_i e
    rw[AD e]
    exact q
  ·rename_i e
   have h':=BB h
   split at q
   ·rename_i e2
    subst e2
    rw[AD e]
    exact h
   ·have q':=BB q
    rw[AD (by lia)]
    exact Ab (by lia)
theorem NS:∀{a b:Pw},Hv a b=false->Hv b a=false->a=b
 |[],[],_,_=>rfl
 |[],_::_,h,_=>by simp [Hv]at h
 |_::_,[],_,h=>by simp [Hv]at h
 |x::xs,y::ys,h,q=>by
  simp only[Hv]at h q
  by_cases e:x=y
  ·subst e
   rw[AF rfl]at h q
   rw[NS h q]
  ·rw[AD e]at h
   rw[AD (λz=>e z.symm)]at q
   have h':=Cn h
   have q':=Cn q
   lia
structure R0{α:Type}(lt:α->α->Bool):Prop where
 irr:∀a,lt a a=false
 trans:∀{a b c},lt a b=true->lt b c=true->lt a c=true
 tri:∀{a b},lt a b=false->lt b a=false->a=b
theorem Z1:R0 Hv:=⟨KD,Mx,NS⟩
noncomputable def Le(a b:Gi):Bool:=if a.1=b.1 then decide (a.2<b.2) else Hv a.1 b.1
theorem Wu:R0 Le where
 irr:=λa=>by simp [Le]
 trans:=λ{a b c} h q=>by
  unfold Le at h q ⊢
  by_cases e1:a.1=b.1
  ·rw[AF e1]at h
   by_cases e2:b.1=c.1
   ·rw[AF e2]at q
    rw[AF (e1.trans e2)]
    have:=BB h
    have:=BB q
    exact Ab (by lia)
   ·rw[AD e2]at q
    rw[AD (λz=>e2 (e1.symm.trans z)),e1]
    exact q
  ·rw[AD e1]at h
   by_cases e2:b.1=c.1
   ·rw[<-e2,AD e1]
    exact h
   ·rw[AD e2]at q
    have t:=Mx h q
    rw[AD (λz=>by rw[z,KD]at t;cases t)]
    exact t
 tri:=λ{a b} h q=>by
  unfold Le at h q
  by_cases e:a.1=b.1
  ·rw[AF e]at h
   rw[AF e.symm]at q
   have:=Cn h
   have:=Cn q
   exact E7 e (by lia)
  ·rw[AD e]at h
   rw[AD (λz=>e z.symm)]at q
   exact absurd (NS h q) e
noncomputable def K8{α:Type}(lt:α->α->Bool)(l:List α)(a:α):Nat:=(l.filter (lt · a)).length
theorem Oh{α:Type}{lt:α->α->Bool}(L:R0 lt){l:List α}{a b:α}(ha:a∈l):lt a b=true↔K8 lt l a<K8 lt l b:=by
 constructor
 ·intro h
  unfold K8
  have key:∀m:List α,(m.filter (lt · a)).length<=(m.filter (lt · b)).length/\(a∈m->(m.filter (lt · a)).length<(m.filter (lt · b)).length):=by
   intro m
   induction m with
   |nil=>simp
   |cons x m ih =>
    rw[B9,B9]
    by_cases c:lt x a=true
    ·rw[AF c,AF (L.trans c h)]
     simp only[Aj]
     refine⟨by lia,λhm=>?_⟩
     rcases AN.mp hm with e|hm
     ·subst e;rw[L.irr]at c;cases c
     ·have:=ih.2 hm;lia
    ·rw[AD c]
     by_cases c2:lt x b=true
     ·rw[AF c2]
      simp only[Aj]
      exact⟨by lia,λ_=>by lia⟩
     ·rw[AD c2]
      refine⟨ih.1,λhm=>?_⟩
      rcases AN.mp hm with e|hm
      ·subst e;exact absurd h c2
      ·exact ih.2 hm
  exact(key l).2 ha
 ·intro h
  cases c:lt a b with
  |true=>rfl
  |false =>
   exfalso
   have key:∀m:List α,(m.filter (lt · b)).length<=(m.filter (lt · a)).length:=by
    intro m
    induction m with
    |nil=>simp
    |cons x m ih =>
     rw[B9,B9]
     by_cases c1:lt x b=true
     ·have c2:lt x a=true:=by
       cases c3:lt x a with
       |true=>rfl
       |false =>
        cases c4:lt a x with
        |true =>
         rw[L.trans c4 c1]at c;cases c
        |false =>
         have e:=L.tri c3 c4
         subst e
         rw[c1]at c;cases c
      rw[AF c1,AF c2]
      simp only[Aj]
      lia
     ·rw[AD c1]
      split
      ·simp only[Aj];lia
      ·exact ih
   have:=key l
   unfold K8 at h
   lia
noncomputable def cf:List Gi->Pw->Int
 |[],_=>0
 |t::r,p=>(if t.1=p then t.2 else 0)+cf r p
theorem Oy(p:Pw):∀a b:List Gi,cf (a++b) p=cf a p+cf b p
 |[],b=>by simp [cf]
 |t::a,b=>by simp only[List.cons_append,cf,Oy p a b];lia
theorem VO{a b:List Gi}(h:a.Perm b)(p:Pw):cf a p=cf b p:=by
 induction h with
 |nil=>rfl
 |cons x _ ih=>simp only[cf,ih]
 |swap x y l=>simp only[cf];lia
 |trans _ _ i1 i2=>exact i1.trans i2
theorem NF{p:Pw}:∀{l:List Gi},(∀t∈l,t.1≠p)->cf l p=0
 |[],_=>rfl
 |t::r,h=>by
  simp only[cf]
  rw[AD (h t (AJ ..)),NF λx hx=>h x (AM _ hx)]
  rfl
structure HU(l:List Gi):Prop where
 ord:l.Pairwise λa b=>Hv b.1 a.1=true
 num:∀t∈l,t.2≠0
theorem HU.tail{t:Gi}{l:List Gi}(h:HU (t::l)):HU l:=⟨(Ay.mp h.ord).2,λx hx=>h.num x (AM _ hx)⟩
theorem HU.head{t:Gi}{l:List Gi}(h:HU (t::l)):cf (t::l) t.1=t.2:=by
 have o:=(Ay.mp h.ord).1
 simp only[cf]
 rw[AF trivial,NF λx hx e=>by have:=o x hx;rw[e,KD]at this;cases this]
 lia
theorem HU.above{l:List Gi}(h:HU l){p:Pw}(q:∀t∈l,Hv t.1 p=true):cf l p=0:=NF λt ht e=>by
 have:=q t ht
 rw[e,KD]at this
 cases this
theorem V6:∀{a b:List Gi},HU a->HU b->(∀p,cf a p=cf b p)->a=b
 |[],[],_,_,_=>rfl
 |[],t::b,_,hb,e=>by
  have:=e t.1
  rw[hb.head]at this
  exact absurd this.symm (hb.num t (AJ ..))
 |t::a,[],ha,_,e=>by
  have:=e t.1
  rw[ha.head]at this
  exact absurd this (ha.num t (AJ ..))
 |t::a,u::b,ha,hb,e=>by
  have oa:=(Ay.mp ha.ord).1
  have ob:=(Ay.mp hb.ord).1
  have k1:Hv t.1 u.1=false:=by
   cases c:Hv t.1 u.1 with
   |false=>rfl
   |true =>
    have z:=e u.1
    rw[hb.head,ha.above λx hx=>by
     rcases AN.mp hx with rfl|hx
     ·exact c
     ·exact Mx (oa x hx) c]at z
    exact absurd z.symm (hb.num u (AJ ..))
  have k2:Hv u.1 t.1=false:=by
   cases c:Hv u.1 t.1 with
   |false=>rfl
   |true =>
    have z:=e t.1
    rw[ha.head,hb.above λx hx=>by
     rcases AN.mp hx with rfl|hx
     ·exact c
     ·exact Mx (ob x hx) c]at z
    exact absurd z (ha.num t (AJ ..))
  have e1:t.1=u.1:=NS k1 k2
  have e2:t.2=u.2:=by
   have z:=e t.1
   rw[ha.head,e1,hb.head]at z
   exact z
  have e3:t=u:=E7 e1 e2
  subst e3
  rw[V6 ha.tail hb.tail λp=>by
   have z:=e p
   simp only[cf]at z
   lia]
noncomputable def ins(t:Gi):List Gi->List Gi
 |[]=>if t.2=0 then [] else [t]
 |u::r=>if t.1=u.1 then (if u.2+t.2=0 then r else (u.1,u.2+t.2)::r) else if Hv u.1 t.1=true then (if t.2=0 then u::r else t::u::r) else u::ins t r
theorem TR(t:Gi)(p:Pw):∀l:List Gi,cf (ins t l) p=(if t.1=p then t.2 else 0)+cf l p
 |[]=>by
  unfold ins
  split
  ·rename_i h;simp [cf,h]
  ·simp [cf]
 |u::r=>by
  unfold ins
  split
  ·rename_i h
   split
   ·rename_i z
    simp only[cf]
    by_cases e:u.1=p
    ·rw[AF e,AF (h.trans e)];lia
    ·rw[AD e,AD (λq=>e (h.symm.trans q))];lia
   ·simp only[cf]
    by_cases e:u.1=p
    ·rw[AF e,AF e,AF (h.trans e)];lia
    ·rw[AD e,AD e,AD (λq=>e (h.symm.trans q))];lia
  ·split
   ·split
    ·rename_i z;rw[z];simp only[cf];split<;>lia
    ·simp only[cf]
   ·simp only[cf,TR t p r];lia
theorem TX(t:Gi){q:Pw}:∀{l:List Gi},(∀x∈l,Hv x.1 q=true)->Hv t.1 q=true->∀x∈ins t l,Hv x.1 q=true
 |[],_,ht,x,hx=>by
  unfold ins at hx
  split at hx
  ·simp at hx
  ·rw[Ad.mp hx];exact ht
 |u::r,h,ht,x,hx=>by
  have hr:∀x∈r,Hv x.1 q=true:=λy hy=>h y (AM _ hy)
  have hu:=h u (AJ ..)
  unfold ins at hx
  split at hx
  ·split at hx
   ·exact hr x hx
   ·rcases AN.mp hx with rfl|hx
    ·exact hu
    ·exact hr x hx
  ·split at hx
   ·split at hx
    ·exact h x hx
    ·rcases AN.mp hx with rfl|hx
     ·exact ht
     ·exact h x hx
   ·rcases AN.mp hx with rfl|hx
    ·exact hu
    ·exact TX t hr ht x hx
theorem UV(t:Gi):∀{l:List Gi},HU l->HU (ins t l)
 |[],_=>by
  unfold ins
  split
  ·exact⟨.nil,λx hx=>by simp at hx⟩
  ·rename_i h
   exact⟨Dy _ _,λx hx=>by rw[Ad.mp hx];exact h⟩
 |u::r,h=>by
  obtain⟨o1,o2⟩:=Ay.mp h.ord
  have nr:∀x∈r,x.2≠0:=λx hx=>h.num x (AM _ hx)
  have nu:=h.num u (AJ ..)
  unfold ins
  split
  ·split
   ·exact h.tail
   ·rename_i z
    refine⟨Ay.mpr ⟨o1,o2⟩,λx hx=>?_⟩
    rcases AN.mp hx with rfl|hx
    ·exact z
    ·exact nr x hx
  ·rename_i ne
   split
   ·rename_i lt
    split
    ·exact h
    ·rename_i z
     refine⟨Ay.mpr ⟨λx hx=>?_,h.ord⟩,λx hx=>?_⟩
     ·rcases AN.mp hx with rfl|hx
      ·exact lt
      ·exact Mx (o1 x hx) lt
     ·rcases AN.mp hx with rfl|hx
      ·exact z
      ·exact h.num x hx
   ·rename_i lt
    have c:=UV t h.tail
    have tu:Hv t.1 u.1=true:=by
     cases k:Hv t.1 u.1 with
     |true=>rfl
     |false=>exact absurd (NS k (by simpa using lt)) ne
    refine⟨Ay.mpr ⟨λx hx=>TX t o1 tu x hx,c.ord⟩,λx hx=>?_⟩
    rcases AN.mp hx with rfl|hx
    ·exact nu
    ·exact c.num x hx
noncomputable def norm(ts:List Gi):List Gi:=ts.foldr ins []
theorem Jt:∀ts:List Gi,HU (norm ts)
 |[]=>⟨.nil,λx hx=>by simp [norm]at hx⟩
 |t::r=>UV t (Jt r)
theorem KG(p:Pw):∀ts:List Gi,cf (norm ts) p=cf ts p
 |[]=>rfl
 |t::r=>by
  show cf (ins t (norm r)) p=_
  rw[TR,KG p r]
  rfl
theorem Vp{l ts:List Gi}(c:HU l)(e:∀p,cf l p=cf ts p):l=norm ts:=V6 c (Jt ts) λp=>by rw[e,KG]
theorem XD{a b:List Gi}(e:∀p,cf a p=cf b p):norm a=norm b:=V6 (Jt a) (Jt b) λp=>by rw[KG,KG,e]
theorem UJ{l:List Gi}(c:HU l):norm l=l:=(Vp c λ_=>rfl).symm
theorem LK{ts:List Gi}{t:Gi}(h:t∈norm ts):∃u∈ts,u.1=t.1:=by
 have c:=Jt ts
 have:cf (norm ts) t.1=t.2:=by
  have key:∀l:List Gi,HU l->t∈l->cf l t.1=t.2:=by
   intro l
   induction l with
   |nil=>intro _ hm;simp at hm
   |cons u l ih =>
    intro c hm
    rcases AN.mp hm with e|hm
    ·subst e;exact c.head
    ·have o:=(Ay.mp c.ord).1 t hm
     simp only[cf]
     rw[AD (λe=>by rw[e,KD]at o;cases o),ih c.tail hm]
     lia
  exact key _ c h
 rw[KG]at this
 false_or_by_contra
 rename_i n
 have z:cf ts t.1=0:=NF λu hu e=>n ⟨u,hu,e⟩
 exact c.num t h (by lia)
theorem RA(t:Gi):∀l:List Gi,(ins t l).length<=l.length+1
 |[]=>by unfold ins;split<;>simp
 |u::r=>by
  unfold ins
  split
  ·split
   ·simp;lia
   ·simp
  ·split
   ·split<;>simp
   ·have:=RA t r;simp;lia
theorem MQ:∀ts:List Gi,(norm ts).length<=ts.length
 |[]=>AG _
 |t::r=>by
  have h1:=RA t (norm r)
  have h2:=MQ r
  show(ins t (norm r)).length<=r.length+1
  lia
noncomputable def Ij(d:List Gi)(p:Pw):Option Int:=(d.find? λkv=>decide (kv.1=p)).map (·.2)
noncomputable def Li(d:List Gi)(p:Pw)(n:Int):List Gi:=if (d.any λkv=>decide (kv.1=p))=true then d.map (λkv=>if kv.1=p then (kv.1,n) else kv) else d++[(p,n)]
abbrev Nd(d:List Gi):Prop:=(d.map (·.1)).Nodup
theorem O4:∀{d:List Gi},Nd d->∀p,(Ij d p).getD 0=cf d p
 |[],_,p=>rfl
 |t::r,h,p=>by
  obtain⟨h1,h2⟩:=CO.mp (show(t.1::r.map (·.1)).Nodup from h)
  simp only[cf]
  by_cases e:t.1=p
  ·subst e
   have z:cf r t.1=0:=NF λu hu e=>h1 (e▸AY.mpr ⟨u,hu,rfl⟩)
   simp [Ij,Bn,z]
  ·have ih:=O4 h2 p
   rw[AD e,<-ih]
   simp [Ij,Bn,e]
theorem VN(d:List Gi)(p:Pw)(n:Int):(Li d p n).map (·.1)=if p∈d.map (·.1) then d.map (·.1) else d.map (·.1)++[p]:=by
 unfold Li
 have ha:(d.any λkv=>decide (kv.1=p))=true↔p∈d.map (·.1):=by simp
 by_cases c:p∈d.map (·.1)
 ·rw[AF (ha.mpr c),AF c,Cm]
  apply Ca
  intro x _
  simp only[Function.comp]
  split<;>rfl
 ·rw[AD (λz=>c (ha.mp z)),AD c,Az]
  rfl
theorem nR{d:List Gi}(h:Nd d)(p:Pw)(n:Int):Nd (Li d p n):=by
 unfold Nd
 rw[VN]
 split
 ·exact h
 ·rename_i c
  exact List.nodup_append.mpr ⟨h,by simp,λa ha b hb e=>by
   rw[Ad.mp hb]at e
   exact c (e▸ha)⟩
theorem eJ{d:List Gi}(h:Nd d)(p:Pw)(n:Int)(q:Pw):cf (Li d p n) q=if p=q then n else cf d q:=by
 unfold Li
 by_cases c:(d.any λkv=>decide (kv.1=p))=true
 ·rw[AF c]
  have key:∀l:List Gi,Nd l->(l.any λkv=>decide (kv.1=p))=true->cf (l.map λkv=>if kv.1=p then (kv.1,n) else kv) q=if p=q then n else cf l q:=by
   intro l
   induction l with
   |nil=>intro _ z;simp at z
   |cons t r ih =>
    intro hn ha
    obtain⟨h1,h2⟩:=CO.mp (show(t.1::r.map (·.1)).Nodup from hn)
    rw[An]
    by_cases e:t.1=p
    ·subst e
     have same:(r.map λkv=>if kv.1=t.1 then (kv.1,n) else kv)=r:=by
      conv=>rhs;rw[<-HG r]
      apply Ca
      intro x hx
      have ne:¬ x.1=t.1:=λe=>h1 (by rw[<-e];exact AY.mpr ⟨x,hx,rfl⟩)
      rw[AD ne]
      rfl
     rw[AF rfl,same]
     simp only[cf]
     by_cases e2:t.1=q
     ·rw[AF e2,AF e2]
      have z:cf r q=0:=NF λu hu e=>h1 (by rw[e2,<-e];exact AY.mpr ⟨u,hu,rfl⟩)
      lia
     ·rw[AD e2,AD e2,AD e2]
    ·have ha':(r.any λkv=>decide (kv.1=p))=true:=by simpa [B4,e]using ha
     rw[AD e]
     simp only[cf]
     rw[ih h2 ha']
     by_cases e2:p=q
     ·rw[AF e2,AD (λz=>e (z.trans e2.symm)),AF e2];lia
     ·rw[AD e2,AD e2]
  exact key d h c
 ·rw[AD c,Oy]
  simp only[cf]
  by_cases e:p=q
  ·subst e
   rw[AF rfl,AF rfl]
   have z:cf d p=0:=NF λu hu e=>c (List.any_eq_true.mpr ⟨u,hu,Ab e⟩)
   lia
  ·rw[AD e,AD e];lia
noncomputable def IA(ts:List Gi):List Gi:=ts.foldl (λd t=>Li d t.1 ((Ij d t.1).getD 0+t.2)) []
theorem NQ(ts:List Gi)(t:Gi):IA (ts++[t])=Li (IA ts) t.1 ((Ij (IA ts) t.1).getD 0+t.2):=by
 unfold IA;rw[Bv];rfl
theorem MI{α:Type}{P:List α->Prop}(h0:P [])(hs:∀l x,P l->P (l++[x])):∀l,P l:=by
 intro l
 rw[<-DU l]
 induction l.reverse with
 |nil=>exact h0
 |cons x l ih=>rw[Et];exact hs _ _ ih
theorem Py:∀ts:List Gi,Nd (IA ts):=MI (by simp [IA,Nd]) λl t h=>by rw[NQ];exact nR h _ _
theorem Z7(q:Pw):∀ts:List Gi,cf (IA ts) q=cf ts q:=MI rfl λl t h=>by
 rw[NQ,eJ (Py l),Oy,O4 (Py l)]
 simp only[cf]
 by_cases e:t.1=q
 ·rw[AF e,AF e,e,h];lia
 ·rw[AD e,AD e,h];lia
theorem Sh(d:List Gi)(p:Pw)(n:Int):(Li d p n).length<=d.length+1:=by
 unfold Li
 split<;>simp
theorem P8:∀ts:List Gi,(IA ts).length<=ts.length:=MI (AG _) λl t h=>by
 rw[NQ]
 have:=Sh (IA l) t.1 ((Ij (IA l) t.1).getD 0+t.2)
 simp
 lia
theorem lS{p:Pw}:∀ts:List Gi,p∈(IA ts).map (·.1)->p∈ts.map (·.1):=MI (by simp [IA]) λl t h hp=>by
 rw[NQ,VN]at hp
 rw[Az]
 split at hp
 ·exact BL _ (h hp)
 ·rcases Aq.mp hp with z|z
  ·exact BL _ (h z)
  ·exact Aw _ (by rw[Ad.mp z];simp)
theorem Ry{d:List Gi}{p:Pw}(h:p∈d.map (·.1)):∃n,Ij d p=some n:=by
 obtain⟨x,hx,e⟩:=AY.mp h
 unfold Ij
 cases c:d.find? λkv=>decide (kv.1=p) with
 |none=>exact absurd (Ab e) (by simpa using List.find?_eq_none.mp c x hx)
 |some y=>exact⟨y.2,rfl⟩
theorem mO(p:Pw):∀l:List Gi,cf (l.filter λt=>decide (t.2≠0)) p=cf l p
 |[]=>rfl
 |t::r=>by
  rw[B9]
  by_cases c:t.2≠0
  ·rw[AF (Ab c)]
   simp only[cf,mO p r]
  ·rw[AD (by simpa using c)]
   simp only[cf,mO p r]
   split<;>lia
theorem Z5{ts l:List Gi}(hp:l.Perm ((IA ts).filter λt=>decide (t.2≠0)))(ho:l.Pairwise λa b=>Le a b=false):l=norm ts:=by
 refine Vp ⟨?_,λt ht=>?_⟩ λp=>?_
 ·have nd:(l.map (·.1)).Nodup:=((hp.map (·.1)).nodup_iff).mpr ((Py ts).sublist (Gv.map _))
  rw[List.Nodup,CF]at nd
  refine(Fs.mpr ⟨ho,nd⟩).imp λ{a b} h=>?_
  obtain⟨h1,h2⟩:=h
  unfold Le at h1
  rw[AD h2]at h1
  cases c:Hv b.1 a.1 with
  |true=>rfl
  |false=>exact absurd (NS h1 c) h2
 ·have:=(Dg.mp (hp.mem_iff.mp ht)).2
  simpa using this
 ·rw[VO hp,mO,Z7]
theorem Si{ts:List Gi}{ks:List Pw}(hp:ks.Perm ((IA ts).map (·.1)))(ho:ks.Pairwise λa b=>Hv a b=false) :
  (ks.filter λk=>decide ((Ij (IA ts) k).getD 0≠0)).map (λk=>(k,(Ij (IA ts) k).getD 0))=norm ts:=by
 have nd:ks.Nodup:=(hp.nodup_iff).mpr (Py ts)
 have so:ks.Pairwise λa b=>Hv b a=true:=(Fs.mpr ⟨ho,nd⟩).imp λ{a b} h=>by
  cases c:Hv b a with
  |true=>rfl
  |false=>exact absurd (NS h.1 c) h.2
 have g:∀p,(Ij (IA ts) p).getD 0=cf ts p:=λp=>by rw[O4 (Py ts),Z7]
 have e:(ks.filter λk=>decide ((Ij (IA ts) k).getD 0≠0)).map (λk=>(k,(Ij (IA ts) k).getD 0))=(ks.filter λk=>decide (cf ts k≠0)).map λk=>(k,cf ts k):=by
  simp only[g]
 rw[e]
 refine Vp ⟨?_,λt ht=>?_⟩ λp=>?_
 ·rw[CF]
  exact so.sublist Gv
 ·obtain⟨k,hk,rfl⟩:=AY.mp ht
  simpa using (Dg.mp hk).2
 ·have key:∀l:List Pw,l.Nodup->cf ((l.filter λk=>decide (cf ts k≠0)).map λk=>(k,cf ts k)) p=if p∈l then cf ts p else 0:=by
   intro l
   induction l with
   |nil=>intro _;rfl
   |cons a l ih =>
    intro hn
    obtain⟨h1,h2⟩:=CO.mp hn
    have ih':=ih h2
    rw[B9]
    by_cases c:cf ts a≠0
    ·rw[AF (Ab c),An]
     simp only[cf]
     rw[ih']
     by_cases e:a=p
     ·subst e
      rw[AF rfl,AD h1,AF (AJ ..)];lia
     ·rw[AD e]
      by_cases m:p∈l
      ·rw[AF m,AF (AM _ m)];lia
      ·rw[AD m,AD (λz=>(AN.mp z).elim (λq=>e q.symm) m)];lia
    ·rw[AD (by simpa using c),ih']
     have c':cf ts a=0:=by lia
     by_cases e:a=p
     ·subst e
      rw[AD h1,AF (AJ ..),c']
     ·by_cases m:p∈l
      ·rw[AF m,AF (AM _ m)]
      ·rw[AD m,AD (λz=>(AN.mp z).elim (λq=>e q.symm) m)]
  rw[key ks nd]
  by_cases m:p∈ks
  ·rw[AF m]
  ·rw[AD m,<-Z7 p ts]
   exact(NF λu hu e=>m (hp.mem_iff.mpr (AY.mpr ⟨u,hu,e⟩))).symm
end L2.Pl
namespace L2.Ev
open PySem PySem.Spec PyProof.Rows
open L2.Ts L2.Pl
theorem MU:∀a b:wB,HT.lexLt a b=Hv a b
 |[],[]=>by rw[HT.lexLt_nil_nil];rfl
 |[],_::_=>by rw[HT.lexLt_nil_cons];rfl
 |_::_,[]=>by rw[HT.lexLt_cons_nil];rfl
 |x::xs,y::ys=>by
  rw[HT.lexLt_cons]
  simp only[Hv]
  split
  ·exact MU xs ys
  ·rfl
section
variable{prog:wP}{w:wQ}{A:Around}{E:wD}{s:wM}{b fin:Bool}{Q:Bool->wM->Prop}
theorem Q3:∀{vs ws:wC}{ns ms:wB}{i:Nat},IntsAre vs ns->IntsAre ws ms->(fin=decide (ns.length<ms.length))->Q (Hv ns ms) s->W.KatLex prog w A b fin Q (vs.zip ws) i s
 |[],[],_,_,i,.nil,.nil,e,q=>by
  subst e
  exact EJ q
 |[],_::_,_,_,i,.nil,.cons _ _ _,e,q=>by
  subst e
  refine EJ ?_
  simpa [Hv]using q
 |_::_,[],_,_,i,.cons _ _ _,.nil,e,q=>by
  subst e
  refine EJ ?_
  simpa [Hv]using q
 |_,_,_,_,i,.cons a t hv,.cons c u hw,e,q=>by
  rw[Dk]
  simp only[Hv]at q
  obtain⟨eq,he,hiff⟩:=HT.eqAt_int A s a t c u
  refine FA (he prog w _ _ ?_)
  cases eq with
  |true =>
   rw[AF (hiff.mp rfl)]at q
   refine FX (Q3 hv hw ?_ q)
   rw[e]
   simp
  |false =>
   rw[AD (λz=>absurd (hiff.mpr z) AX)]at q
   refine Ft ?_
   cases hb:(b&&i==0) with
   |true=>exact oneLt_int q
   |false =>
    refine EK _ _ ?_
    exact ET q
end
section
variable{X:Cx}{Fj:wF}{σ:St}{H:Hp}{s:wM}
class JC (α:Type) [D:Dat α] where
 lt:α->α->Bool
 lin:R0 lt
 plain:Bool
 ok:α->Prop
 first:∀{X:Cx}{Fj:wF}{σ:St}{H:Hp}{s:wM}{v:V}{a:α},Inv X Fj σ H s->D.is H v a->ok a ->
  ∃(p:wO)(o:Obj)(xs:wK)(n:Nat)(f:wN),HE v (.ref p)/\s.heap.get? p=some o/\o.cls=.type "tuple" /\ o.data=.seq xs n/\xs[0]?=some f/\W.Looks (model X.prog X.w) s.heap (typeOf f) (if plain=true then .type "int" else .type "tuple")
 asks:∀{X:Cx}{Fj:wF}{σ:St}{H:Hp}{s:wM}{A:Around}{v v':V}{u u':wN}{a b:α},Inv X Fj σ H s->A.units+4<cLine->D.is H v a->D.is H v' b->ok a->ok b->HE v u->HE v' u' ->
  ∀Q:Bool->wM->Prop,Q (lt a b) s->wpAny (model X.prog X.w) A (keyLt' (tuples' plain) u u') Q (λ_ _=>False) s
theorem JU{H:Hp}{v:V}{r:wB}(h:Dat.is H v r):∃p,v=.ref p/\H p=some (.tup (r.map V.int)):=by
 obtain⟨p,vs,e,q,i⟩:=h
 have ei:∀{vs:List V}{ns:wB},Hs H vs ns->vs=ns.map V.int:=by
  intro vs ns i
  induction i with
  |nil=>rfl
  |cons r t ih=>rw[An,<-ih];exact congrArg (· :: _) r
 rw[ei i]at q
 exact⟨p,e,q⟩
theorem Js{H:Hp}{p:wO}{r:wB}(h:H p=some (.tup (r.map V.int))):Dat.is H (.ref p) r:=by
 have ei:∀ns:wB,Hs H (ns.map V.int) ns:=by
  intro ns
  induction ns with
  |nil=>exact .nil
  |cons n r ih=>exact .cons rfl ih
 exact⟨p,_,rfl,h,ei r⟩
theorem Mw{a:wO}{xs:List V}(I:Inv X Fj σ H s)(h:H a=some (.tup xs)):∃(o:Obj)(its:wC)(n:Nat),s.heap.get? a=some o/\o.cls=.type "tuple" /\ o.data=.seq its.toArray n/\HF xs its:=by
 obtain⟨its,rv,ht,_⟩:=I.tuple (HK.of h)
 obtain⟨o,ho,hc,n,hd⟩:=ht
 exact⟨o,its,n,ho,hc,hd,rv⟩
instance WP:JC wB where
 lt:=Hv
 lin:=Z1
 plain:=true
 ok:=λa=>a≠[]
 first:=λ{X Fj σ H s v a} I h ok=>by
  obtain⟨p,rfl,hp⟩:=JU h
  obtain⟨o,its,n,ho,hc,hd,rv⟩:=Mw I hp
  cases a with
  |nil=>exact absurd rfl ok
  |cons x a =>
   rw[An]at rv
   cases rv with
   |cons r t =>
    obtain⟨tk,rfl⟩:=r
    exact⟨p,o,_,n,_,rfl,ho,hc,hd,rfl,W.Looks.of_pure rfl⟩
 asks:=λ{X Fj σ H s A v v' u u' a b} I hu h h' ok ok' r r' Q q=>by
  obtain⟨p,rfl,hp⟩:=JU h
  obtain⟨p',rfl,hp'⟩:=JU h'
  obtain⟨o,its,n,ho,hc,hd,rv⟩:=Mw I hp
  obtain⟨o',its',n',ho',hc',hd',rv'⟩:=Mw I hp'
  cases r
  cases r'
  refine W.kat_lt ho hd ho' hd' (Q3 (LR rv) (LR rv') ?_ q)
  have l1:=rv.length
  have l2:=rv'.length
  simp only[AB]at l1 l2
  simp only[Am]
  rw[l1,l2]
instance sQ:JC (wB×Int) where
 lt:=Le
 lin:=Wu
 plain:=false
 ok:=λ_=>True
 first:=λ{X Fj σ H s v a} I h ok=>by
  obtain⟨p,x,y,rfl,hp,hx,hy⟩:=h
  obtain⟨o,its,n,ho,hc,hd,rv⟩:=Mw I hp
  obtain⟨p2,rfl,hp2⟩:=JU hx
  obtain⟨o2,its2,n2,ho2,hc2,hd2,rv2⟩:=Mw I hp2
  obtain⟨w1,w2,rfl,r1,r2⟩:=Mv rv
  cases r1
  refine⟨p,o,_,n,_,rfl,ho,hc,hd,rfl,?_⟩
  rw[AD (by decide),<-hc2]
  exact(EB ho2).andThen .now
 asks:=λ{X Fj σ H s A v v' u u' a b} I hu h h' ok ok' r r' Q q=>by
  obtain⟨p,x,y,rfl,hp,hx,hy⟩:=h
  obtain⟨p',x',y',rfl,hp',hx',hy'⟩:=h'
  obtain⟨o,its,n,ho,hc,hd,rv⟩:=Mw I hp
  obtain⟨o',its',n',ho',hc',hd',rv'⟩:=Mw I hp'
  cases r
  cases r'
  obtain⟨w1,w2,rfl,r1,r2⟩:=Mv rv
  obtain⟨z1,z2,rfl,t1,t2⟩:=Mv rv'
  refine W.kat_lt ho hd ho' hd' ?_
  show W.KatLex _ _ _ _ _ _ [(w1,z1),(w2,z2)] 0 s
  have e1:=Dat.eqAt (A:=A) I (by show A.units+(0+1)<cLine;lia) hx hx' r1 t1
  refine FA (e1 _ _ _ _ ?_)
  unfold Le at q
  cases c:Dat.eqb a.1 b.1 with
  |true =>
   have e:=(Dat.eqb_iff a.1 b.1).mp c
   rw[AF e]at q
   refine FX ?_
   have hy2:y=.int a.2:=hy
   have hy2':y'=.int b.2:=hy'
   subst hy2 hy2'
   obtain⟨k1,rfl⟩:=r2
   obtain⟨k2,rfl⟩:=t2
   obtain⟨eq,he,hiff⟩:=HT.eqAt_int A s a.2 k1 b.2 k2
   refine FA (he _ _ _ _ ?_)
   cases eq with
   |true =>
    have e2:=hiff.mp rfl
    rw[AO (by lia)]at q
    refine FX (EJ ?_)
    simpa using q
   |false =>
    refine Ft (EK _ _ ?_)
    exact ET q
  |false =>
   have e:¬ a.1=b.1:=λz=>by rw[(Dat.eqb_iff a.1 b.1).mpr z]at c;cases c
   rw[AD e]at q
   refine Ft (EK _ _ ?_)
   obtain⟨p2,rfl,hp2⟩:=JU hx
   obtain⟨p2',rfl,hp2'⟩:=JU hx'
   cases r1
   cases t1
   obtain⟨its,r1,q1,_⟩:=I.tuple (HK.of hp2)
   obtain⟨its2,r2,q2,_⟩:=I.tuple (HK.of hp2')
   have i1:IntsAre its.toArray.toList a.1:=LR r1
   have i2:IntsAre its2.toArray.toList b.1:=LR r2
   refine HT.lt_tupInts q1 q2 i1 i2 (by lia) ?_
   rw[MU]
   exact q
end
end L2.Ev
namespace L2.Ts
open PySem PyProof.Rows
section
variable{prog:wP}{w:wQ}{A:Around}{E:wD}{s:wM}{κ:SortKind}{M:Keyed->Prop}{rk:Keyed->Nat}
theorem Qs(vs:wC):(vs.zip vs).map (·.2)=vs:=List.map_snd_zip (AG _)
theorem kL{a:wO}{vs:wC}{n:Nat}{P:PySem.Fin->wM->Prop}(ho:s.heap.get? a=some (seqObj "list" vs.toArray n))(hz:vs.length<=sizeLine)(hM:∀v∈vs,M (v,v))
  (hk:∀h',(∀b o,b≠a->s.heap.get? b=some o->h'.get? b=some o)->2<=vs.length->(∀(Q:SortKind->wM->Prop)(E':wD),Q κ { s with heap:=h' }->wpAny (model prog w) A (keyKind' vs.toArray) Q E' { s with heap:=h' })/\KA prog w A { s with heap:=h' } κ M rk)
  (h:∀out:wC,out.Perm vs->(out.Pairwise λx y=>rk (y,y)<=rk (x,x))->P (.done (.ret .none)) { s with heap:=sortedHeap s.heap a vs out.toArray }) :
  wpAny (model prog w) A (Builtin.«list.sort» ⟨[.ref a],[(Str.ofString "reverse",.bool true)]⟩) P E s:=by
 rw[list_sort_rev]
 have ha:a<s.heap.objs.size:=AS ho
 have hsz:vs.toArray.size=vs.length:=by simp
 refine AA (listItems_at ho rfl (AA (listUpdate_at ho rfl ?_ (by rw[hsz];exact hz) (by simp))))
 obtain⟨e1,ho1⟩:∃e1,(s.heap.update a (Obj.mapSeq λ_=>#[])).get? a=some (seqObj "list" #[] e1):=⟨_,get?_update_seq ho (λ_=>#[])⟩
 refine AA (seqEpoch_at ho1 rfl (AA (Gb ?_ (by simpa using hz))))
 refine AA (wpAny_newList (Cu ?_))
 have ho6:(((s.heap.update a (Obj.mapSeq λ_=>#[])).push (seqObj "tuple" vs.toArray 0)).push (seqObj "list" #[] 0)).get? a=some (seqObj "list" #[] e1):=by
  rw[Heap.get?_push_ne _ _ _ (by rw[size_push',EC];exact As (Nat.lt_succ_of_lt ha)),Heap.get?_push_ne _ _ _ (by rw[EC];exact As ha)]
  exact ho1
 have keep:∀b o,b≠a->s.heap.get? b=some o->(((s.heap.update a (Obj.mapSeq λ_=>#[])).push (seqObj "tuple" vs.toArray 0)).push (seqObj "list" #[] 0)).get? b=some o:=λb o hb e =>
  AC _ (AC _ ((A4 _ _ (B7 hb)).trans e))
 show wpAny (model prog w) A _ P E { s with heap:=((s.heap.update a (Obj.mapSeq λ_=>#[])).push (seqObj "tuple" vs.toArray 0)).push (seqObj "list" #[] 0) }
 dsimp only
 simp only[CD]
 refine AA (CU ?_)
 by_cases h2:vs.toArray.size<2
 ·rw[AF h2,AF h2]
  refine AA (AE ?_)
  rw[StateT.run_pure]
  refine AA (AE ?_)
  dsimp only
  have eo:((arrOf (SortSt.mk' general' (vs.toArray.zip vs.toArray).reverse #[] 7 none)).map (·.2)).reverse=vs.toArray:=by
   show((vs.toArray.zip vs.toArray).reverse.map (·.2)).reverse=vs.toArray
   apply Array.ext'
   simp only[CQ,Array.toList_map,Array.toList_zip,List.map_reverse,DU]
   exact Qs vs
  refine AA (seqEpoch_at ho6 rfl (AA (listUpdate_at ho6 rfl ?_ (by simp) ?_)))
  ·simp only[bne_self_eq_false,A7,Bi]
   refine AE ?_
   have q:=h vs (List.Perm.refl _) (by
    match vs,hsz,h2 with
    |[],_,_=>exact .nil
    |[x],_,_=>exact Dy _ _
    |_::_::_,_,h2=>exfalso;simp at h2;lia)
   unfold sortedHeap at q
   rw[eo]
   exact q
  ·rw[eo,hsz];lia
 ·rw[AD h2,AD h2]
  obtain⟨k1,k2⟩:=hk _ keep (by lia)
  refine AA (k1 _ _ ?_)
  have all:All M (arrOf (SortSt.mk' κ (vs.toArray.zip vs.toArray).reverse #[] 7 none)):=λi p hp=>by
   have hm:p∈(vs.toArray.zip vs.toArray).reverse:=Fq hp
   have hm2:p∈vs.zip vs:=by
    have:p∈(vs.toArray.zip vs.toArray).toList:=by simpa using Array.mem_reverse.mp hm
    simpa using this
   obtain⟨e,m⟩:=mem_zip_self hm2
   have:p=(p.1,p.1):=E7 rfl e.symm
   rw[this]
   exact hM _ m
  have z0:(arrOf (SortSt.mk' κ (vs.toArray.zip vs.toArray).reverse #[] 7 none)).size=vs.length:=by
   show(vs.toArray.zip vs.toArray).reverse.size=vs.length
   simp
  refine AA (BI (W4 k2 (st:=SortSt.mk' κ (vs.toArray.zip vs.toArray).reverse #[] 7 none) (Q:=λ_ st'=>(arrOf st').Perm (vs.toArray.zip vs.toArray).reverse/\failedOf st'=none/\JD rk (arrOf st') 0 vs.length) rfl all rfl rfl (by rw[z0];lia)
   λst' a1 a2 a3=>⟨a1,a2,by rw[z0]at a3;exact a3⟩) ?_ λ_ _ e=>e)
  rintro⟨⟨⟩,st'⟩ s' ⟨rfl,hp,hf,hs⟩
  dsimp only
  have zs:(arrOf st').size=vs.length:=by rw[hp.size_eq];exact z0
  have lp:(arrOf st').toList.Perm (vs.zip vs):=by
   have:=Ep.mp hp
   rw[CQ]at this
   exact this.trans ((List.reverse_perm _).trans (List.Perm.of_eq (by simp)))
  have eo:((arrOf st').map (·.2)).reverse=(((arrOf st').toList.map (·.2)).reverse).toArray:=by
   apply Array.ext'
   simp
  refine AA (seqEpoch_at ho6 rfl (AA (listUpdate_at ho6 rfl ?_ (by simp) ?_)))
  ·rw[hf]
   simp only[bne_self_eq_false,A7,Bi]
   refine AE ?_
   have q:=h (((arrOf st').toList.map (·.2)).reverse) ?_ ?_
   ·unfold sortedHeap at q
    rw[eo]
    exact q
   ·have:=lp.map (·.2)
    rw[Qs]at this
    exact(List.reverse_perm _).trans this
   ·rw[List.pairwise_reverse,CF]
    refine Cw.mpr λi j hi hj hij=>?_
    have li:i<(arrOf st').size:=by simpa using hi
    have lj:j<(arrOf st').size:=by simpa using hj
    have q:=hs i j (Ax _) (BY hij) (by lia)
    rw[IV (AH li),IV (AH lj)]at q
    have twin:∀p∈(arrOf st').toList,p=(p.2,p.2):=λp m=>E7 (mem_zip_self (lp.mem_iff.mp m)).1 rfl
    have ei:=twin (arrOf st').toList[i] (DV _)
    have ej:=twin (arrOf st').toList[j] (DV _)
    rw[<-ei,<-ej]
    simpa using q
  ·rw[Array.size_reverse,Array.size_map,zs];lia
theorem WQ{r:wO}{vs:wC}{Q:wD}(hz:vs.length<=sizeLine)(hM:∀v∈vs,M (v,v))
  (hc:∀(Q':wC->wM->Prop),(∀h' tk,(∀b o,s.heap.get? b=some o->h'.get? b=some o)->s.heap.objs.size<=h'.objs.size->Q' vs { s with heap:=h',toks:=tk })->wpAny (model prog w) A.in1 (collect (.ref r)) Q' E s)
  (hk:∀h' tk,(∀b o,s.heap.get? b=some o->h'.get? b=some o)->2<=vs.length->(∀(Q':SortKind->wM->Prop)(E':wD),Q' κ { s with heap:=h',toks:=tk }->wpAny (model prog w) A.in1.in1 (keyKind' vs.toArray) Q' E' { s with heap:=h',toks:=tk })/\KA prog w A.in1.in1 { s with heap:=h',toks:=tk } κ M rk)
  (h:∀h' tk D e (out:wC),out.Perm vs->(out.Pairwise λx y=>rk (y,y)<=rk (x,x))->(∀b o,s.heap.get? b=some o->h'.get? b=some o)->s.heap.objs.size<=D->h'.get? D=some (seqObj "list" out.toArray e)->Q (.ref D) { s with heap:=h',toks:=tk }) :
  wpAny (model prog w) A (call (.builtin "sorted") [.ref r] [(Str.ofString "reverse",.bool true)]) Q E s:=by
 refine call_function_entry_kw kind_sorted plain_sorted entry_sorted (args_sorted_rev _ _) ?_
 unfold Builtin.«sorted»
 refine AA (m:=checkCount "sorted" 1 1 _) (AE ?_)
 refine AA (hc _ λh' tk kp sz=>?_)
 refine AA (wpAny_newList ?_ hz)
 have hoL:(h'.push (seqObj "list" vs.toArray 0)).get? h'.objs.size=some (seqObj "list" vs.toArray 0):=AU _ rfl
 have lt:∀b o,s.heap.get? b=some o->b<h'.objs.size:=λb o e=>AS (kp b o e)
 refine AA (Cu (wpAny_call_entry_kw slot_list_sort ⟨_,hoL,rfl⟩ entry_list_sort (kL (s:={ s with heap:=h'.push (seqObj "list" vs.toArray 0),toks:=tk }) (κ:=κ) (M:=M) (rk:=rk) hoL hz hM (λh2 k2 l2=>?_) λout p o=>⟨_,rfl,?_⟩) (args_list_sort_rev _ _)))
 ·exact hk h2 tk (λb o e=>k2 b o (As (lt b o e)) (AC _ (kp b o e))) l2
 ·obtain⟨c,hc'⟩:=sortedHeap_at (vs:=vs) (out:=out.toArray) hoL
  refine AE ⟨_,rfl,h _ tk h'.objs.size c out p o (λb o e=>?_) sz hc'⟩
  have ne:b≠h'.objs.size:=As (lt b o e)
  unfold sortedHeap
  refine(A4 _ _ (B7 ne)).trans (AC _ (AC _ ((A4 _ _ (B7 ne)).trans (AC _ (kp b o e)))))
end
end L2.Ts
namespace L2.Rw
open PySem PySem.W PySem.Calls PyProof.Rows PySem.Spec
section
variable{prog:wP}{w:wQ}{A:Around}{E:wD}{s:wM}{d:wO}{es:Array wT}{ep:Nat}
theorem Rj(lo:(d==sysModules)=false):KdlSrc prog w "dict" d d es.size (λi v=>∃h:i<es.size,v=es[i].key) (λh=>IR h d es ep) where
 type:=λ_ hm=>hm.type
 there:=λ_ hm=>⟨hm.lt,hm.lt⟩
 keep:=λ_ _ hm hk=>hm.keep λo e=>hk d (.inl rfl) o e
 notList:=by decide
 notTuple:=by decide
 hint:=λ_ _ _ _ hm hq=>kdl_hint_dict hm.type hq
 iter:=λ_ _ hh hm=>⟨_,_,(λ_ _ hq=>UR lo hm hq),Q7 hh _ d (As hm.lt) es ep,⟨⟨_,AU _ rfl,rfl,rfl⟩,hm.keep λo e=>AC _ e⟩⟩
theorem sI{T:String}{r:wO}{n:Nat}{P:Nat->wN->Prop}{OK:Heap->Prop}{Q:wC->wM->Prop}(K:KdlSrc prog w T r d n P OK)(hh:A.handled=none)(hok:OK s.heap)(hn:n<=sizeLine)
  (hQ:∀h' tk acc,(∀b o,s.heap.get? b=some o->h'.get? b=some o)->s.heap.objs.size<=h'.objs.size->ItemsOf P acc n->Q acc.toList { s with heap:=h',toks:=tk }):wpAny (model prog w) A (collect (.ref r)) Q E s:=by
 obtain⟨tr,td⟩:=K.there _ hok
 unfold collect
 refine AA (wpAny_runValue (CV Eg ?_))
 rw[CB Eh _]
 show wpAny _ A.in1 (newList []>>=λl=>again (.builtin "list.__iadd__" ⟨[l,.ref r],[]⟩)) _ _ s
 refine AA (BF (AE ⟨Da C7 _,CV FR ?_⟩))
 rw[CB C7 _]
 have hok1:=K.keep _ (s.heap.push { cls:=.type "list",data:=.seq ([]:wC).toArray }) hok λb _ o e=>AC _ e
 have key:=kdl_extend (A:=A) (s:={ s with heap:=s.heap.push { cls:=.type "list",data:=.seq ([]:wC).toArray } })
  (R:=λ(q:Result)(s':wM)=>∃(h':Heap)(tk:Nat)(acc:wK)(c:Nat),q=.ok (.ret (.ref s.heap.objs.size))/\s'={ s with heap:=h',toks:=tk }/\(∀b o,s.heap.get? b=some o->h'.get? b=some o)/\h'.get? s.heap.objs.size=some { cls:=.type "list",dict:=none,data:=.seq acc c,slots:=#[] }/\ItemsOf P acc n)
  K hh hok1 s.heap.objs.size (B8 tr) (B8 td) (.ref s.heap.objs.size) 0 (AU _ rfl)
  (λh' tk acc c kp hS it=>⟨h',tk,acc,c,rfl,rfl,λb o e=>kp b o (As (AS e)) (AC _ e),hS,it⟩) hn
 have fin:∀(q:Result)(s':wM),(∃(h':Heap)(tk:Nat)(acc:wK)(c:Nat),q=.ok (.ret (.ref s.heap.objs.size))/\s'={ s with heap:=h',toks:=tk }/\(∀b o,s.heap.get? b=some o->h'.get? b=some o)/\h'.get? s.heap.objs.size=some { cls:=.type "list",dict:=none,data:=.seq acc c,slots:=#[] }/\ItemsOf P acc n) ->
   q=.ok (.ret (.ref s.heap.objs.size))/\wpAny (model prog w) A (load s.heap.objs.size>>=λo=>match o.data with|.seq xs _=>pure xs.toList|_=>unsupported "internal:collect") Q E s':=by
  rintro q s' ⟨h',tk,acc,c,rfl,rfl,kp,hS,it⟩
  exact⟨rfl,AA (wpAny_load hS (AE (hQ h' tk acc kp (BY (AS hS)) it)))⟩
 refine BI key (λf s' x=>?_) λe s' x=>?_
 ·cases f with
  |done f =>
   obtain⟨e,q⟩:=fin _ _ x
   cases e
   exact q
  |again c₁ =>
   refine⟨x.1,DS x.2 λq s₂ y=>?_⟩
   obtain⟨e,q⟩:=fin _ _ y
   subst e
   exact q
 ·obtain⟨e',_⟩:=fin _ _ x
  cases e'
end
end L2.Rw
namespace L2.Ev
open PySem PySem.Spec PyProof.Rows
noncomputable def LS(cells:List (Str×wO)):List (Str×wS)->List (Str×wO)->List (Str×wO)
 |[],acc=>acc
 |(n,k)::r,acc=>if (k==NameKind.free)=true then LS cells r ((n,(cells.lookup n).getD 0)::acc) else LS cells r acc
theorem fP{env:Env}(names:List (Str×wS))(h:∀x∈names,x.2=.free->∃c,env.cells.lookup x.1=some c)(acc:List (Str×wO)) :
  (do
   let mut cs:=acc
   for (name,kind) in names do
    if kind==.free then cs:=(name,<-cellOf env name)::cs
   return cs:Sem (List (Str×wO)))=pure (LS env.cells names acc):=by
 induction names generalizing acc with
 |nil=>simp [LS]
 |cons x r ih =>
  obtain⟨n,k⟩:=x
  have hr:∀x∈r,x.2=.free->∃c,env.cells.lookup x.1=some c:=λx hx=>h x (AM _ hx)
  by_cases hk:k=.free
  ·subst hk
   obtain⟨c,hc⟩:=h (n,.free) AJ rfl
   have ih':=ih hr ((n,c)::acc)
   simp only[Dj,CJ,CD,cellOf,hc,LS,Option.getD_some,pure_bind]at ih' ⊢
   exact ih'
  ·have hb:(k==NameKind.free)=false:=by simpa using hk
   have ih':=ih hr acc
   simp only[Dj,hb,A7,Bi,LS,pure_bind]at ih' ⊢
   exact ih'
theorem dM{cells:List (Str×wO)}:∀{names:List (Str×wS)}{acc:List (Str×wO)},(∀x∈names,x.2=.free->∃c,cells.lookup x.1=some c)->(∀x c,acc.lookup x=some c->cells.lookup x=some c) ->
  ∀x c,(LS cells names acc).lookup x=some c->cells.lookup x=some c
 |[],acc,_,ha,x,c,e=>ha x c e
 |(n,k)::r,acc,h,ha,x,c,e=>by
  have hr:∀x∈r,x.2=.free->∃c,cells.lookup x.1=some c:=λx hx=>h x (AM _ hx)
  unfold LS at e
  by_cases hk:(k==NameKind.free)=true
  ·rw[AF hk]at e
   refine dM hr (λy d e'=>?_) x c e
   obtain⟨c0,hc0⟩:=h (n,k) AJ (by simpa using hk)
   rw[B2]at e'
   cases hy:y==n with
   |true =>
    rw[hy]at e'
    have e1:y=n:=by simpa using hy
    subst e1
    have e2:(cells.lookup y).getD 0=d:=by simpa using e'
    have hc1:cells.lookup y=some c0:=hc0
    rw[hc1]at e2 ⊢
    simpa using e2
   |false=>rw[hy]at e';exact ha y d e'
  ·rw[AD hk]at e
   exact dM hr ha x c e
theorem Vr{cells:List (Str×wO)}:∀{names:List (Str×wS)}{acc:List (Str×wO)}{x:Str},((∃c,acc.lookup x=some c)∨(x,NameKind.free)∈names)->∃c,(LS cells names acc).lookup x=some c
 |[],acc,x,h=>by
  rcases h with h|h
  ·exact h
  ·simp at h
 |(n,k)::r,acc,x,h=>by
  unfold LS
  by_cases hk:(k==NameKind.free)=true
  ·rw[AF hk]
   refine Vr ?_
   rw[B2]
   cases hy:x==n with
   |true=>exact .inl ⟨_,rfl⟩
   |false =>
    rcases h with h|h
    ·exact .inl h
    ·rcases AN.mp h with e|h
     ·injection e with e1 e2
      subst e1
      simp at hy
     ·exact .inr h
  ·rw[AD hk]
   refine Vr ?_
   rcases h with h|h
   ·exact .inl h
   ·rcases AN.mp h with e|h
    ·injection e with e1 e2
     subst e2
     simp at hk
    ·exact .inr h
theorem mem_of_lookup{α β:Type}[BEq α][LawfulBEq α]:∀{l:List (α×β)}{x:α}{k:β},l.lookup x=some k->(x,k)∈l
 |[],_,_,h=>by simp at h
 |(n,j)::r,x,k,h=>by
  rw[B2]at h
  cases hy:x==n with
  |true =>
   rw[hy]at h
   have e1:x=n:=by simpa using hy
   have e2:j=k:=by simpa using h
   subst e1 e2
   exact AJ
  |false=>rw[hy]at h;exact AM _ (mem_of_lookup h)
theorem Wg{env:Env}:∀{names:List (Str×wS)}{x:Str}{k:wS},(∀y∈names,y.2≠.cell)->(k=.cell∨k=.free) ->
  (names.map λ(n,k)=>if (k==NameKind.free&&env.scope.kind==.function&&env.kindOf n==some .cell) then (n,NameKind.cell) else (n,k)).lookup x=some k->(x,NameKind.free)∈names
 |[],_,_,_,_,h=>by simp at h
 |(n,j)::r,x,k,hc,hk,h=>by
  have hr:∀y∈r,y.2≠.cell:=λy hy=>hc y (AM _ hy)
  have hj:j≠.cell:=hc (n,j) AJ
  have h':List.lookup x ((if (j==NameKind.free&&env.scope.kind==.function&&env.kindOf n==some .cell)=true then (n,NameKind.cell) else (n,j))::r.map λ(n,k)=>if (k==NameKind.free&&env.scope.kind==.function&&env.kindOf n==some .cell) then (n,NameKind.cell) else (n,k))=some k:=h
  by_cases c:(j==NameKind.free&&env.scope.kind==.function&&env.kindOf n==some .cell)=true
  ·rw[AF c,B2]at h'
   simp only[AK]at c
   have ej:j=.free:=by simpa using c.1.1
   cases hy:x==n with
   |true =>
    have e1:x=n:=by simpa using hy
    subst e1 ej
    exact AJ
   |false=>rw[hy]at h';exact AM _ (Wg hr hk h')
  ·rw[AD c,B2]at h'
   cases hy:x==n with
   |true =>
    rw[hy]at h'
    have e1:x=n:=by simpa using hy
    have e2:j=k:=by simpa using h'
    subst e1 e2
    rcases hk with hk|hk
    ·exact absurd hk hj
    ·subst hk;exact AJ
   |false=>rw[hy]at h';exact AM _ (Wg hr hk h')
theorem sM{env:Env}:∀{names:List (Str×wS)}{x:Str},names.lookup x=some .free ->
  (names.map λ(n,k)=>if (k==NameKind.free&&env.scope.kind==.function&&env.kindOf n==some .cell) then (n,NameKind.cell) else (n,k)).lookup x=some .cell ∨
  (names.map λ(n,k)=>if (k==NameKind.free&&env.scope.kind==.function&&env.kindOf n==some .cell) then (n,NameKind.cell) else (n,k)).lookup x=some .free
 |[],_,h=>by simp at h
 |(n,j)::r,x,h=>by
  have key:∀(z:Str×wS),z=(if (j==NameKind.free&&env.scope.kind==.function&&env.kindOf n==some .cell)=true then (n,NameKind.cell) else (n,j)) ->
   (List.lookup x (z::r.map λ(n,k)=>if (k==NameKind.free&&env.scope.kind==.function&&env.kindOf n==some .cell) then (n,NameKind.cell) else (n,k))=some .cell ∨
    List.lookup x (z::r.map λ(n,k)=>if (k==NameKind.free&&env.scope.kind==.function&&env.kindOf n==some .cell) then (n,NameKind.cell) else (n,k))=some .free):=by
   intro z hz
   rw[B2]at h
   cases hy:x==n with
   |true =>
    rw[hy]at h
    have e2:j=.free:=by simpa using h
    subst e2
    by_cases c:(NameKind.free==NameKind.free&&env.scope.kind==.function&&env.kindOf n==some .cell)=true
    ·rw[AF c]at hz;subst hz;left;rw[B2,hy]
    ·rw[AD c]at hz;subst hz;right;rw[B2,hy]
   |false =>
    rw[hy]at h
    have ih:=sM (env:=env) h
    have hz1:z.1=n:=by rw[hz];split<;>rfl
    obtain⟨z1,z2⟩:=z
    simp only at hz1
    subst hz1
    rw[B2,hy]
    exact ih
  exact key _ rfl
structure Bk where
 C:wO
 s:wM
 H:Hp
 ex:wH
noncomputable abbrev JY(X:Cx)(N':wG)(scope:Scope)(b:Bk):Cx :=
 { X with N:=N',s₀:=b.s,H₀:=b.H,env:=compEnvC scope (LS X.env.cells scope.names []) b.C X.env,outer:=X.stack,stack:=X.stack,ex:=b.ex,fn:=λ_=>false,pn:=[],xe:=λ_ _=>False }
structure JI(X:Cx)(N':wG)(src:List (Option Nat))(scope:Scope):Prop where
 kind:scope.kind=.function
 nocell:∀y∈scope.names,y.2≠.cell
 names:∀y∈scope.names,y.2=.local->scope.names.lookup y.1=some .local
 frees:∀y∈scope.names,y.2=.free->X.env.kindOf y.1=some .cell∨X.env.kindOf y.1=some .free
 len:src.length=N'.length
 out:∀i j:Nat,src[i]?=some (some j)->∃x:Str,N'[i]?=some x/\X.N[j]?=some x/\scope.names.lookup x=some .free
noncomputable def entry(src:List (Option Nat))(σ:St):St:=src.map λo=>o.bind λj=>(σ[j]?).bind id
def Uw(X:Cx)(ifs:wJ)(t:TT):Prop :=
 ∀(Fj:wF)(s:wM)(σ:St)(H:Hp)(Q:Bool->Hp->Prop),Inv X Fj σ H s->t σ H Q ->
  wpAny (model X.prog X.w) X.A (forIn ifs true λc r=>if r=true then do let ok <-isTrue c X.env (eval c X.env);pure (ForInStep.yield ok) else pure (ForInStep.yield r)) (TP X Fj σ Q) X.xe s
def OM:TT:=λ_ H Q=>Q true H
theorem JX{X:Cx}:Uw X [] OM:=λ_ _ _ H _ I h=>wpAny_tests_nil ⟨H,I,h⟩
theorem PP{X:Cx}{c:Expr}{t:TT}(h:PT X c t):Uw X [c] t:=λFj s σ H Q I q=>wpAny_tests_one (h Fj s σ H Q I q)
def N9(src:List (Option Nat))(wi:TI)(g:Bk->TG)(tc:Bk->TT)(te:Bk->TE):TE:=λσ H Q=>wi σ H λJ H1=>∀(b:Bk)(D:wO),H1 D=none ->
 ∃W:Nat->Nat->St->Hp->Prop,(∃m,W 0 m (entry src σ) (Gw H1 D (.lst [])))/\∀i m σ' H',W i m σ' H' ->
  (J.stop i H'/\Q (.ref D) H')∨(J.go i H'/\∃N:St->Hp->Prop,(∀σ'' H'',N σ'' H''->∃m',m'<m/\W (i+1) m' σ'' H'') /\
   ∀x H'',J.yld i H' x H''->g b x σ' H'' λσ2 H2=>tc b σ2 H2 λok H3=>if ok=true then te b σ2 H3 λy H4=>∃ys,H4 D=some (.lst ys)/\ys.length<sizeLine/\N σ2 (Gw H4 D (.lst (ys++[y]))) else N σ2 H3)
section
variable{prog:wP}{w:wQ}{A:Around}{R:Result->wM->Prop}{s:wM}
theorem pX{elt target iter:Expr}{ifs:wJ}{scope:Scope}{pos:Pos}{it acc:wN}{env:Env}(I:Nat->wM->Prop)
  (turn:∀n s,I n s->wpAny (model prog w) A (pyNext it) (λr s₁=>match r with
   |none=>R (.ok .next) s₁
   |some v=>wpAny (model prog w) A (letOwnedTupleGo target it v) (λ_ s₁'=>wpAny (model prog w) A (assign target env v) (λ_ s₂ =>
     wpAny (model prog w) A (forIn ifs true λc r=>if r=true then do let ok <-isTrue c env (eval c env);pure (ForInStep.yield ok) else pure (ForInStep.yield r)) (λok s₃ =>
      if ok=true then wpAny (model prog w) A (eval elt env) (λx s₄ =>
       wpAny (model prog w) A (call (.builtin "list.append") [acc,x]) (λ_ s₅=>∃m,m<n/\I m s₅) (λ_ _=>False) s₄) (λ_ _=>False) s₃
      else ∃m,m<n/\I m s₃) (λ_ _=>False) s₂) (λ_ _=>False) s₁') (λ_ _=>False) s₁) (λ_ _=>False) s)
  (n:Nat) (h:I n s) :
  codeAny (model prog w) A (.compLoop (.ListComp elt [⟨target,iter,ifs,0⟩] scope pos) 0 it acc env) R s:=by
 refine codeAny_loop rfl I (λn s hI=>?_) n h
 show wpAny _ A ((compTurn (.ListComp elt [⟨target,iter,ifs,0⟩] scope pos) 0 it acc env).onRaise (λx=>do noteFrame x env;theTreesLotGoes x)) _ _ s
 refine wpAny_noted ?_
 rw[compTurn_list]
 refine AA (Db (AA (BI (turn n s hI) (λr s₁ h₁=>?_) λ_ _ h'=>h'.elim)))
 cases r with
 |none=>exact AE h₁
 |some v =>
  refine AA (BI h₁ (λ_ s₁' h₁'=>?_) λ_ _ h'=>h'.elim)
  refine AA (BI h₁' (λ_ s₂ h₂=>AA (BI h₂ (λok s₃ h₃=>?_) λ_ _ h'=>h'.elim)) λ_ _ h'=>h'.elim)
  cases ok with
  |false=>exact AE ⟨rfl,h₃⟩
  |true =>
   exact AA (AA (BI h₃ (λx s₄ h₄=>AA (BI h₄ (λ_ s₅ h₅=>AE (AE ⟨rfl,h₅⟩)) λ_ _ h'=>h'.elim)) λ_ _ h'=>h'.elim))
end
theorem UL{X:Cx}{elt tg iter:Expr}{ifs:wJ}{scope:Scope}{pos pos':Pos}{N':wG}{src:List (Option Nat)}{wi:TI}{g:Bk->TG}{tc:Bk->TT}{te:Bk->TE}(hc:X.calm=true)(hi:PI X tg iter wi)(S:JI X N' src scope)
  (hg:∀b,PG (JY X N' scope b) tg (g b)) (ht:∀b,Uw (JY X N' scope b) ifs (tc b)) (he:∀b,PE (JY X N' scope b) elt (te b)) (hs:∀x,foldedSetIterable iter X.env x=pure x) (use:Option (wN->Sem Unit)) (R:wD)
  {Fj:wF} {s:wM} {σ:St} {H:Hp} {Q:V->Hp->Prop} (I:Inv X Fj σ H s) (h:N9 src wi g tc te σ H Q)
  (fin:∀(D C:wO)(H5:Hp)(s6:wM)(m:Str->wI),s6.heap.Ns C m->Kw X Fj H5 C->(∀h',Heap.SameBut C s6.heap h'->Inv X Fj σ H5 { s6 with heap:=h' })->Q (.ref D) H5->compPost (model X.prog X.w) X.A X.xe use R (.ref D) C (.ok .next) s6) :
  wpAny (model X.prog X.w) X.A (comprehension (.ListComp elt [⟨tg,iter,ifs,0⟩] scope pos) scope X.env pos' (newList []) false (eval iter X.env) use) R X.xe s:=by
 have hfr:∀x∈scope.names,x.2=.free->∃c,X.env.cells.lookup x.1=some c:=λx hx hf=>I.ok.has x.1 (S.frees x hx hf)
 have clS:∀x c,(LS X.env.cells scope.names []).lookup x=some c->X.env.cells.lookup x=some c:=dM hfr (λx c e=>by simp at e)
 refine wpAny_comprehension_free (use:=use) rfl hs (fP scope.names hfr []) S.kind S.names ?_
 refine HZ (hi Fj s σ H _ I h) λv s1 h1=>HZ h1 λitv s2 h2=>?_
 obtain⟨it,fp,tn,J,H2,rfl,I2,T,st2,f2,h3⟩:=h2
 have hD:H2 s2.heap.objs.size=none:=I2.fresh
 refine BF ?_
 have I3:Inv X Fj σ (Gw H2 s2.heap.objs.size (.lst [])) { s2 with heap:=s2.heap.push { cls:=.type "list",data:=.seq ([]:wC).toArray } } :=
  I2.laid (t':=s2.toks) (λb u e=>AC _ e) (AG _) ⟨Ax _,[],0,.nil,AU _ rfl⟩
 have hfp:∀b∈fp,b<s2.heap.objs.size:=λb hb=>by
  obtain⟨o,e,_⟩:=T.obj _ _ st2 b hb
  exact AS e
 have st3:tn 0 (s2.heap.push { cls:=.type "list",data:=.seq ([]:wC).toArray }):=T.keep _ _ _ st2 λb _ o e=>AC _ e
 generalize hs3:({ s2 with heap:=s2.heap.push { cls:=.type "list",data:=.seq ([]:wC).toArray } }:wM)=s3 at I3 ⊢
 have st3':tn 0 s3.heap:=by rw[<-hs3];exact st3
 have hsz3:s3.heap.objs.size=s2.heap.objs.size+1:=by rw[<-hs3];exact CA ..
 have fp3:∀b∈fp,(Gw H2 s2.heap.objs.size (.lst [])) b=none:=λb hb=>by rw[Hf (As (hfp b hb))];exact(f2 b hb).1
 generalize hDe:s2.heap.objs.size=D at *
 generalize hH3:Gw H2 D (.lst [])=H3 at *
 refine wpAny_newFunctionEnv S.nocell (by intro y hy;simp at hy) (λh₁ hns₁ hsb₁=>?_) S.kind
 have old:∀b o,s3.heap.get? b=some o->h₁.get? b=some o:=λb o e=>hsb₁.extBut b o (As (AS e)) (AC _ e)
 have Yok:(JY X N' scope ⟨s3.heap.objs.size,s3,H3,fp⟩).Ok:=by
  refine⟨I.ok.mod,S.kind,I.ok.glob,I.ok.blt,AG _,λx y c e1 e2=>I.ok.inj x y c (clS x c e1) (clS y c e2),λx hx=>?_,λx c z=>(by cases z),I.ok.hd,I.ok.frames,.inl rfl,λb hb=>⟨?_,λx c e=>(f2 b hb).2.2.2.2.1 x c (clS x c e)⟩,I3.bs,?_,λb o e hb=>?_,λb hb z=>?_,I3.stack,I3.stkFree⟩
  ·have hx':(x,NameKind.free)∈scope.names:=by
    rcases hx with hx|hx
    ·exact Wg (env:=X.env) S.nocell (.inl rfl) hx
    ·exact Wg (env:=X.env) S.nocell (.inr rfl) hx
   exact Vr (.inr hx')
  ·exact As (Ai (hfp b hb) (by rw[hsz3];exact D7 _))
  ·exact A9 I.ok.bsz I3.sz
  ·rcases (f2 b hb).2.2.2.1 with z|z
   ·exact I.ok.noex b o e z
   ·exact absurd (Ai (AS e) (A9 I.ok.bsz z)) (B3 _)
  ·rcases AN.mp (I3.stkSub b z) with e|e
   ·exact(f2 b hb).2.1 e
   ·exact(f2 b hb).2.2.1 e
 generalize hY:JY X N' scope ⟨s3.heap.objs.size,s3,H3,fp⟩=Y at Yok
 have I4:Inv (JY X N' scope ⟨s3.heap.objs.size,s3,H3,fp⟩) [] (entry src σ) H3 { s3 with heap:=h₁,toks:=s3.toks+([]:List (Str×wN)).length }:=by
  subst hY
  refine⟨Yok,rfl,I3.bare,Un.kept old,⟨_,hns₁,λi x v e1 e2 e3=>?_⟩,λx c e=>?_,I3.fresh,λx c e=>I3.freeC x c (clS x c e),λp hp=>by simp at hp,I3.hok.kept old,?_⟩
  ·unfold entry at e2
   rw[Al]at e2
   cases hsrc:src[i]? with
   |none=>rw[hsrc]at e2;cases e2
   |some o =>
    rw[hsrc]at e2
    cases o with
    |none=>have e2':some (none:Option V)=some (some v):=e2;cases e2'
    |some j =>
     have e2':some ((σ[j]?).bind id)=some (some v):=e2
     have e2'':(σ[j]?).bind id=some v:=Ap e2'
     have hσ:σ[j]?=some (some v):=by
      cases q:σ[j]? with
      |none=>rw[q]at e2'';cases e2''
      |some z =>
       rw[q]at e2''
       have:z=some v:=e2''
       rw[this]
     obtain⟨x',n1,n2,n3⟩:=S.out i j hsrc
     have ex:x'=x:=Ap (n1.symm.trans e1)
     subst ex
     obtain⟨m0,_,hl⟩:=I3.loc
     have hk:=S.frees (x',.free) (mem_of_lookup n3) rfl
     have hvis:WL X.env.scope x':=hk.elim (λz=>.inr (.inl z)) λz=>.inr (.inr z)
     obtain⟨u,r,l⟩:=hl j x' v n2 hσ hvis
     refine⟨u,r,.inr ?_⟩
     rcases l with⟨l1,_⟩|⟨_,c,l2,o,l3,l4⟩
     ·rcases hk with z|z
      ·rw[show X.env.kindOf x'=some .local from l1]at z;cases z
      ·rw[show X.env.kindOf x'=some .local from l1]at z;cases z
     ·obtain⟨c',hc'⟩:=Vr (cells:=X.env.cells) (names:=scope.names) (acc:=[]) (.inr (mem_of_lookup n3))
      have e4:=clS x' c' hc'
      rw[l2]at e4
      cases e4
      exact⟨sM (env:=X.env) n3,c,hc',o,old _ _ l3,l4⟩
  ·obtain⟨v,o,ho,hd⟩:=I3.cell x c (clS x c e)
   exact⟨v,o,old _ _ ho,hd⟩
  ·show(entry src σ).length=N'.length
   unfold entry
   rw[AB]
   exact S.len
 obtain⟨W,⟨m0,w0⟩,turn⟩:=h3 ⟨s3.heap.objs.size,s3,H3,fp⟩ D hD
 rw[hH3]at w0
 have loop:codeAny (model X.prog X.w) X.A (.compLoop (.ListComp elt [⟨tg,iter,ifs,0⟩] scope pos) 0 (.ref it) (.ref D) (JY X N' scope ⟨s3.heap.objs.size,s3,H3,fp⟩).env)
   (compPost (model X.prog X.w) X.A X.xe use R (.ref D) s3.heap.objs.size) { s3 with heap:=h₁,toks:=s3.toks+([]:List (Str×wN)).length }:=by
  have stat:∀{H':Hp},(∀b∈fp,H' b=none)->∀b∈fp,Kw (JY X N' scope ⟨s3.heap.objs.size,s3,H3,fp⟩) [] H' b:=λhn b hb =>
   ⟨hn b hb,(I4.ok.exf b hb).1,I4.ok.exfs b hb,.inl hb,(I4.ok.exf b hb).2,λp hp=>by simp at hp⟩
  refine pX (λn s'=>∃i σ' H',Inv (JY X N' scope ⟨s3.heap.objs.size,s3,H3,fp⟩) [] σ' H' s'/\tn i s'.heap/\(∀b∈fp,H' b=none)/\W i n σ' H') ?_ m0
   ⟨0,_,H3,I4,T.keep _ _ _ st3' λb _ o e=>old b o e,fp3,w0⟩
  rintro n s5 ⟨i,σ5,H5,I5,st5,fr5,w5⟩
  rcases turn i n σ5 H5 w5 with⟨stop,qn⟩|⟨go,N,hN,step⟩
  ·refine HZ (T.done (JY X N' scope ⟨s3.heap.objs.size,s3,H3,fp⟩) rfl rfl rfl hc i [] s5 σ5 H5 _ I5 (stat fr5) st5 stop) λr s6 ⟨hr,I6⟩=>?_
   subst hr
   obtain⟨m,hn,_⟩:=I6.loc
   have hC:H5 s3.heap.objs.size=none:=I6.free
   refine fin D s3.heap.objs.size H5 s6 m hn (I3.fpOk (AG _) hC) (λh' sb=>?_) qn
   have nC:∀b o,s3.heap.get? b=some o->b≠s3.heap.objs.size:=λb o e=>As (AS e)
   have keep:∀b o,b≠s3.heap.objs.size->s6.heap.get? b=some o->h'.get? b=some o:=λb o hb e=>(sb.2 b hb).trans e
   have hok:IU X.prog X.w H5 h':=λb u e=>(I6.hok b u e).stay (λc v hc q=>keep c v (by
    rcases hc with z|z
    ·rw[z];intro z2;rw[z2,hC]at e;cases e
    ·intro z2;rw[z2,hC]at z;cases z) q) (λ_ q=>q) λ_ _ q=>q
   have u6:Un (IZ X.stack) fp H3 H5 s3.heap s6.heap:=I6.base
   have un:Un (IZ X.stack) fp H3 H5 s3.heap h':=⟨λb o e n hb hx=>keep b o (nC b o e) (u6.keep b o e n hb hx),λb o e n hb hx=>by
     obtain⟨sl,q⟩:=u6.slot b o e n hb hx
     exact⟨sl,keep b _ (nC b o e) q⟩,u6.free,λb o e hx=>by
     obtain⟨o',q⟩:=u6.there b o e hx
     exact⟨o',keep b _ (nC b o e) q⟩,u6.tups,u6.frzs,u6.tbls⟩
   refine I3.call' (s':={ s6 with heap:=h' }) (ch:=fp) I6.os un hok I6.bare λb hb=>?_
   exact⟨(f2 b hb).2.2.2.1,(f2 b hb).2.1,(f2 b hb).2.2.2.2.1,(f2 b hb).2.2.2.2.2⟩
  ·refine HZ (T.item (JY X N' scope ⟨s3.heap.objs.size,s3,H3,fp⟩) rfl rfl rfl hc i [] s5 σ5 H5 _ I5 (stat fr5) st5 go) λr s6 ⟨u,hr,h6⟩=>?_
   subst hr
   refine HZ h6 λ_ s7 ⟨x,H7,I7,r7,y7,st7,fr7⟩=>?_
   have I7':=I7.pinned (stat fr7) (T.obj _ _ st7)
   have again:∀{σ9:St}{H9:Hp}{s9:wM},Inv (JY X N' scope ⟨s3.heap.objs.size,s3,H3,fp⟩) ([]++R9 fp s7.heap) σ9 H9 s9->N σ9 H9->∃m,m<n/\∃i σ' H',Inv (JY X N' scope ⟨s3.heap.objs.size,s3,H3,fp⟩) [] σ' H' s9/\tn i s9.heap/\(∀b∈fp,H' b=none)/\W i m σ' H':=λ{σ9 H9 s9} I9 n9=>by
    obtain⟨m',hm,w9⟩:=hN σ9 H9 n9
    refine⟨m',hm,i+1,σ9,H9,I9.unpinned,T.keep _ _ _ st7 λb hb o e=>(I9.pin (b,o) (Aw _ (Aw _ (WD hb e)))).1,λb hb=>?_,w9⟩
    obtain⟨o,e,d⟩:=T.obj _ _ st7 b hb
    exact(I9.pin (b,o) (Aw _ (Aw _ (WD hb e)))).2.1
   refine HZ (hg _ _ s7 σ5 H7 x u _ I7' r7 (step x H7 y7)) λ_ s8 ⟨σ8,H8,I8,q8⟩=>?_
   refine HZ (ht _ _ s8 σ8 H8 _ I8 q8) λok s9 ⟨H9,I9,q9⟩=>?_
   cases ok with
   |false=>exact again I9 q9
   |true =>
    refine HZ (he _ _ s9 σ8 H9 _ I9 q9) λyv s10 ⟨y,H10,I10,r10,ys,e10,l10,n10⟩=>?_
    refine HZ (Lj _ s10 σ8 H10 (.ref D) [y] (.ref D) [yv] (λ_ H11=>N σ8 H11) I10 rfl (.cons r10 .nil) ⟨D,ys,y,rfl,rfl,e10,l10,n10⟩) λ_ s11 ⟨_,H11,I11,_,n11⟩=>again I11 n11
 have self:=T.self X.A 0 { s3 with heap:=h₁,toks:=s3.toks+([]:List (Str×wN)).length } (λit' s'=>codeAny (model X.prog X.w) X.A (.compLoop (.ListComp elt [⟨tg,iter,ifs,0⟩] scope pos) 0 it' (.ref D) (JY X N' scope ⟨s3.heap.objs.size,s3,H3,fp⟩).env)
   (compPost (model X.prog X.w) X.A X.xe use R (.ref D) s3.heap.objs.size) s') (notedBy (model X.prog X.w) X.A (JY X N' scope ⟨s3.heap.objs.size,s3,H3,fp⟩).env λx s'=>compPost (model X.prog X.w) X.A X.xe use R (.ref D) s3.heap.objs.size (.error x) s')
   (T.keep _ _ _ st3' λb _ o e=>old b o e) loop
 exact codeAny_compStart_list loop self
theorem Iy{X:Cx}{elt tg iter:Expr}{ifs:wJ}{scope:Scope}{pos:Pos}{N':wG}{src:List (Option Nat)}{wi:TI}{g:Bk->TG}{tc:Bk->TT}{te:Bk->TE}(hc:X.calm=true)(hi:PI X tg iter wi)(S:JI X N' src scope)
  (hg:∀b,PG (JY X N' scope b) tg (g b)) (ht:∀b,Uw (JY X N' scope b) ifs (tc b)) (he:∀b,PE (JY X N' scope b) elt (te b)) (hs:∀x,foldedSetIterable iter X.env x=pure x:=by intro _;rfl) :
  PE X (.ListComp elt [⟨tg,iter,ifs,0⟩] scope pos) (N9 src wi g tc te):=by
 intro Fj s σ H Q I h
 rw[eval_ListComp]
 exact UL hc hi S hg ht he hs none (EP X Fj σ Q) I h λD C H5 s6 m hn _ k q=>⟨m,hn,λh' sb=>⟨.ref D,H5,k h' sb,rfl,q⟩⟩
theorem Sx{X:Cx}{elt tg iter:Expr}{ifs:wJ}{scope:Scope}{pos spos py:Pos}{N':wG}{src:List (Option Nat)}{wi:TI}{g:Bk->TG}{tc:Bk->TT}{te:Bk->TE}{i:Nat}{y:Str}(hN:X.N.Nodup)(hy:X.N[i]?=some y)(hx:Loc X.env.scope y)
  (hw:swapsWith (.ListComp elt [⟨tg,iter,ifs,0⟩] scope pos) (some (.Name y py)) spos.line X.env=pure true) (hc:X.calm=true) (hi:PI X tg iter wi) (S:JI X N' src scope)
  (hg:∀b,PG (JY X N' scope b) tg (g b)) (ht:∀b,Uw (JY X N' scope b) ifs (tc b)) (he:∀b,PE (JY X N' scope b) elt (te b)) (hs:∀x,foldedSetIterable iter X.env x=pure x:=by intro _;rfl)
  (hf:X.fn y=true∨X.env.scope.names.lookup y=some .local:=by first|exact .inl rfl|exact .inr rfl|assumption) :
  PS X (.Assign [.Name y py] (.ListComp elt [⟨tg,iter,ifs,0⟩] scope pos) spos) (LF (N9 src wi g tc te) (JF i)):=by
 intro Fj s σ H D I h
 rw[exec_Assign_Name_used _ _ _ _ hw]
 refine AA (Db (AA ?_))
 show wpAny _ X.A (do let _ <-comprehension (.ListComp elt [⟨tg,iter,ifs,0⟩] scope pos) scope X.env _ (newList []) false (eval iter X.env) (some (assign (.Name y py) X.env))) _ _ s
 refine AA (BI (UL hc hi S hg ht he hs (some (assign (.Name y py) X.env)) (λ_ s'=>SP X Fj D .next s') I h ?_) (λ_ s' hq=>AE (AE hq)) λ_ _ e=>e)
 intro L C H5 s6 m hn fp k q
 show wpAny _ X.A (assign (.Name y py) X.env (.ref L)) _ _ _
 have I6:Inv X Fj σ H5 s6:=k s6.heap ⟨rfl,λ_ _=>rfl⟩
 refine wpAny_assign_Name (VH I6 hN hy hx (v:=.ref L) rfl (λs7 I7 ⟨a,sb,ha⟩=>?_) hf)
 have hCa:C≠a:=by
  rcases ha with rfl|ha
  ·exact fp.2.1
  ·exact λz=>fp.2.2.2.2.1 _ _ ha z.symm
 refine⟨m,hn.sameBut sb hCa,λh' sb'=>⟨_,H5,?_,q⟩⟩
 have keep:∀b o,b≠C->s7.heap.get? b=some o->h'.get? b=some o:=λb o hb e=>(sb'.2 b hb).trans e
 have hok:IU X.prog X.w H5 h':=λb u e=>(I7.hok b u e).stay (λc v hc' q'=>keep c v (by
  rcases hc' with z|z
  ·rw[z];intro z2;rw[z2,fp.1]at e;cases e
  ·intro z2;rw[z2,fp.1]at z;cases z) q') (λ_ q'=>q') λ_ _ q'=>q'
 refine I7.call' (s':={ s7 with heap:=h' }) (ch:=[C]) rfl ⟨λb o e n hb hx'=>keep b o (λz=>hx' (by rw[z];exact AJ ..)) e,λb o e n hb hx'=>⟨o.slots,keep b o (λz=>hx' (by rw[z];exact AJ ..)) e⟩,λb o e n hx'=>n,λb o e hx'=>⟨o,keep b o (λz=>hx' (by rw[z];exact AJ ..)) e⟩,λ_ _ e=>e,λ_ _ _ e=>e,λ_ ps e=>⟨#[],by rw[Array.append_empty];exact e⟩⟩ hok I7.bare λb hb=>?_
 rw[Ad.mp hb]
 exact⟨fp.2.2.2.1,fp.2.1,fp.2.2.2.2.1,fp.2.2.2.2.2⟩
theorem P4{α:Type}[Dat α]{J:It}{n:Nat}{σ0:St}{H1:Hp}{D:wO}{Q:V->Hp->Prop}{g:TG}{tc:TT}{te:TE}(hD:H1 D=none)(Sp:St->Prop)(out:Nat->Option α)(hn:n<=sizeLine)(h0:Sp σ0)
  (hstop:∀H',Gh H1 H'->J.stop n H') (hgo:∀i H',i<n->Gh H1 H'->J.go i H')
  (IF:∀(i:Nat)(σ':St)(H':Hp)(Yes:V->St->Hp->Prop)(No:St->Hp->Prop),i<n->Sp σ'->Gh H1 H'->(∀y σ2 H4 a,Sp σ2->Gh H' H4->out i=some a->Dat.is H4 y a->Yes y σ2 H4)->(∀σ2 H3,Sp σ2->Gh H' H3->out i=none->No σ2 H3) ->
   ∀x H'',J.yld i H' x H''->g x σ' H'' λσ2 H2=>tc σ2 H2 λok H3=>if ok=true then te σ2 H3 λy H4=>Yes y σ2 H4 else No σ2 H3)
  (hend:∀H',Gh H1 H'->Gf H' D ((List.range n).filterMap out)->Q (.ref D) H') :
  ∃W:Nat->Nat->St->Hp->Prop,(∃m,W 0 m σ0 (Gw H1 D (.lst [])))/\∀i m σ' H',W i m σ' H' ->
  (J.stop i H'/\Q (.ref D) H')∨(J.go i H'/\∃N:St->Hp->Prop,(∀σ'' H'',N σ'' H''->∃m',m'<m/\W (i+1) m' σ'' H'') /\
   ∀x H'',J.yld i H' x H''->g x σ' H'' λσ2 H2=>tc σ2 H2 λok H3=>if ok=true then te σ2 H3 λy H4=>∃ys,H4 D=some (.lst ys)/\ys.length<sizeLine/\N σ2 (Gw H4 D (.lst (ys++[y]))) else N σ2 H3):=by
 have s1:∀{H':Hp}(o:HO),Gh H1 H'->Gh H1 (Gw H' D o):=λo e b u q=>by rw[Hf (JR q hD)];exact e b u q
 refine⟨λi m σ' H'=>m=n-i/\i<=n/\Sp σ'/\Gh H1 H'/\Gf H' D ((List.range i).filterMap out),⟨n,by simp,Ax _,h0,s1 _ (Gh.refl _),[],Gu,.nil⟩,?_⟩
 rintro i m σ' H' ⟨rfl,hi,hS,hH,hL⟩
 by_cases hlt:i<n
 ·refine .inr ⟨hgo i H' hlt hH,λσ2 H2=>Sp σ2/\Gh H1 H2/\Gf H2 D ((List.range (i+1)).filterMap out),λσ2 H2 ⟨a,b,c⟩=>⟨n-(i+1),by lia,rfl,hlt,a,b,c⟩,?_⟩
  obtain⟨vs,eD,iD⟩:=hL
  have lv:vs.length<=i:=by
   have:=AL iD
   have:=Do out (List.range i)
   rw[Bw]at this
   lia
  refine IF i σ' H' (λy σ2 H4=>∃ys,H4 D=some (.lst ys)/\ys.length<sizeLine/\(λσ2 H2=>Sp σ2/\Gh H1 H2/\Gf H2 D ((List.range (i+1)).filterMap out)) σ2 (Gw H4 D (.lst (ys++[y])))) _ hlt hS hH (λy σ2 H4 a a1 a2 a3 a4=>?_) (λσ2 H3 a1 a2 a3=>?_)
  ·have e4:=a2 _ _ eD
   have t4:HX H4 (Gw H4 D (.lst (vs++[y]))):=λp ys q=>by rw[Hf (Ku q e4 (by intro z;cases z))];exact q
   refine⟨vs,e4,by lia,a1,s1 _ (hH.trans a2),vs++[y],Gu,?_⟩
   rw[Bo,DR,Br,a3]
   exact DH (Hs.mono ((HX.same a2).trans t4) iD) (Dat.mono t4 a4)
  ·refine⟨a1,hH.trans a2,vs,a2 _ _ eD,?_⟩
   rw[Bo,DR,Br,a3]
   simpa using Hs.mono (HX.same a2) iD
 ·have e:i=n:=by lia
  subst e
  exact .inl ⟨hstop H' hH,hend H' hH hL⟩
inductive SK
 |lst
 |tup
def SK.iter:SK->Heap->wO->wO->Nat->Prop
 |.lst,h,i,l,k=>h.IsListIter i l k
 |.tup,h,i,l,k=>h.IsTupleIter i l k
def SK.seq:SK->Heap->wO->wK->Prop
 |.lst,h,l,xs=>h.IsList l xs
 |.tup,h,l,xs=>h.IsTuple l xs
noncomputable def SK.ob:SK->wO->Obj
 |.lst,l=>{ cls:=.type "list_iterator",data:=.fields #[.ref l,.int 0 0] }
 |.tup,l=>{ cls:=.type "tuple_iterator",data:=.fields #[.ref l,.int 0 0] }
def SK.is(K:wL)(H:Hp)(l:wO)(xs:List V):SK->Prop
 |.lst=>HJ K H l xs
 |.tup=>HK K H l xs
theorem SK.iter_keep{k:SK}{h h':Heap}{i l:wO}{n:Nat}(x:k.iter h i l n)(e:∀o,h.get? i=some o->h'.get? i=some o):k.iter h' i l n:=by
 cases k with
 |lst=>obtain⟨o,a,b⟩:=x;exact⟨o,e o a,b⟩
 |tup=>obtain⟨o,a,b⟩:=x;exact⟨o,e o a,b⟩
theorem SK.seq_keep{k:SK}{h h':Heap}{l:wO}{xs:wK}(x:k.seq h l xs)(e:∀o,h.get? l=some o->h'.get? l=some o):k.seq h' l xs:=by
 cases k with
 |lst=>obtain⟨o,a,b⟩:=x;exact⟨o,e o a,b⟩
 |tup=>obtain⟨o,a,b⟩:=x;exact⟨o,e o a,b⟩
theorem SK.iter_lt{k:SK}{h:Heap}{i l:wO}{n:Nat}(x:k.iter h i l n):i<h.objs.size:=by
 cases k with
 |lst=>obtain⟨o,a,_⟩:=x;exact AS a
 |tup=>obtain⟨o,a,_⟩:=x;exact AS a
theorem SK.iter_new{k:SK}{h:Heap}{i l:wO}(e:h.get? i=some (k.ob l)):k.iter h i l 0:=by
 cases k with
 |lst=>exact⟨_,e,rfl,rfl⟩
 |tup=>exact⟨_,e,rfl,rfl⟩
theorem SK.at{X:Cx}{Fj:wF}{σ:St}{H:Hp}{s:wM}{l:wO}{xs:List V}{k:SK}(I:Inv X Fj σ H s)(h:k.is X.K H l xs):∃its:wC,HF xs its/\k.seq s.heap l its.toArray:=by
 cases k with
 |lst=>obtain⟨its,r,p,_⟩:=I.list h;exact⟨its,r,p.isList⟩
 |tup=>obtain⟨its,r,p,_⟩:=I.tuple h;exact⟨its,r,p⟩
theorem SK.inj{X:Cx}{Fj:wF}{σ:St}{H:Hp}{s:wM}{l:wO}{xs ys:List V}{k:SK}(I:Inv X Fj σ H s)(h:k.is X.K H l xs)(h':k.is X.K H l ys):xs=ys:=by
 cases k with
 |lst=>exact I.list_inj h h'
 |tup=>exact I.tuple_inj h h'
section
variable{prog:wP}{w:wQ}{A:Around}{E:wD}{s:wM}
theorem X8{it t:wO}{i:Nat}{items:wK}{x:wN}{Q:wD}(hit:s.heap.IsTupleIter it t i)(ht:s.heap.IsTuple t items)(hx:items[i]?=some x)
  (hQ:∀h',h'.IsTupleIter it t (i+1)->Heap.SameBut it s.heap h'->Q x { s with heap:=h' }):wpAny (model prog w) A (Builtin.SmallTypes.nextOf (.ref it)) Q E s:=by
 obtain⟨ob,hob,hcl,hdt⟩:=id hit
 obtain⟨o2,ho2,_,n2,hd2⟩:=ht
 unfold Builtin.SmallTypes.nextOf
 refine AA (BU (name:=Str.ofString "__next__") hit.typeIs Ct (Bb Ct hit.typeIs Ej ?_ (EX _)))
 show wpAny _ _ (field (.ref it) 0>>=λ_=>_) _ _ s
 refine AA (BG hob hdt (x:=Value.ref t) rfl ?_)
 show wpAny _ _ (if (Value.ref t==Value.none)=true then _ else (_:Sem _)) _ _ s
 rw[AD (show ¬ (Value.ref t==Value.none)=true from λz=>AX z)]
 show wpAny _ _ (field (.ref it) 1>>=λ_=>_) _ _ s
 refine AA (BG hob hdt (x:=Value.int i 0) rfl ?_)
 show wpAny _ _ (seqItems? (.ref t)>>=λ_=>_) _ _ s
 refine AA (B5 ho2 hd2 ?_)
 simp only[Af,hx]
 refine AA (Cg hob hdt (by simp) (AE ⟨x,rfl,AE (hQ _ ⟨_,BR _ hob (Cq (CL hdt _)),(D0 ..).trans hcl,?_⟩ (De ..))⟩))
 rw[CL hdt]
 simp [rawInt]
theorem W9{it t:wO}{i:Nat}{items:wK}{Q:wD}(hh:A.handled=none)(hit:s.heap.IsTupleIter it t i)(ht:s.heap.IsTuple t items)(hx:items[i]?=none)
  (hE:∀h' e,Heap.ExtBut it s.heap h'->(∃o,h'.get? e=some o/\o.cls=.type "StopIteration")->E (.ref e) { s with heap:=h' }):wpAny (model prog w) A (Builtin.SmallTypes.nextOf (.ref it)) Q E s:=by
 obtain⟨ob,hob,hcl,hdt⟩:=id hit
 obtain⟨o2,ho2,_,n2,hd2⟩:=ht
 unfold Builtin.SmallTypes.nextOf
 refine AA (BU (name:=Str.ofString "__next__") hit.typeIs Ct (Bb Ct hit.typeIs Ej ?_ (EX _)))
 show wpAny _ _ (field (.ref it) 0>>=λ_=>_) _ _ s
 refine AA (BG hob hdt (x:=Value.ref t) rfl ?_)
 show wpAny _ _ (if (Value.ref t==Value.none)=true then _ else (_:Sem _)) _ _ s
 rw[AD (show ¬ (Value.ref t==Value.none)=true from λz=>AX z)]
 show wpAny _ _ (field (.ref it) 1>>=λ_=>_) _ _ s
 refine AA (BG hob hdt (x:=Value.int i 0) rfl ?_)
 show wpAny _ _ (seqItems? (.ref t)>>=λ_=>_) _ _ s
 refine AA (B5 ho2 hd2 ?_)
 simp only[Af,hx]
 refine AA (CU (AA (Cg hob hdt (by simp) ?_)))
 show wpAny _ _ (newExc (.type "StopIteration") []>>=λ_=>_) _ _ _
 refine AA ?_
 simp only[newExc,newTuple]
 refine AA (BF ?_ (by size_fits))
 refine AA (m:=firstArgMember _ _) (Fl (a:=Value.none) (by first|rfl|(simp only[firstArgMember];rfl)) (BF ?_ (by size_fits)))
 simp only[raiseNew]
 refine AA (wpAny_handled ?_)
 first|rw[show A.in1.handled=none from hh]|rw[hh]
 refine AA (AE (wpAny_throw (hE _ _ (((De ..).extBut.push _).push _) ⟨_,AU _ rfl,rfl⟩)))
theorem SK.next{k:SK}{it l:wO}{i:Nat}{items:wK}{x:wN}{Q:wD}(hit:k.iter s.heap it l i)(hl:k.seq s.heap l items)(hx:items[i]?=some x)
  (hQ:∀h',k.iter h' it l (i+1)->Heap.SameBut it s.heap h'->Q x { s with heap:=h' }):wpAny (model prog w) A (Builtin.SmallTypes.nextOf (.ref it)) Q E s:=by
 cases k with
 |lst=>exact wpAny_nextOf_list_item hit hl hx hQ
 |tup=>exact X8 hit hl hx hQ
theorem SK.stop{k:SK}{it l:wO}{i:Nat}{items:wK}{Q:wD}(hh:A.handled=none)(hit:k.iter s.heap it l i)(hl:k.seq s.heap l items)(hx:items[i]?=none)
  (hE:∀h' e,Heap.ExtBut it s.heap h'->(∃o,h'.get? e=some o/\o.cls=.type "StopIteration")->E (.ref e) { s with heap:=h' }):wpAny (model prog w) A (Builtin.SmallTypes.nextOf (.ref it)) Q E s:=by
 cases k with
 |lst=>exact wpAny_nextOf_list_end hh hit hl hx hE
 |tup=>exact W9 hh hit hl hx hE
structure WB(z TI TO i1 i2:wO):Prop where
 a1:TI≠z
 a2:TO≠z
 a3:i1≠z
 a4:i2≠z
 a5:TI≠TO
 a6:TI≠i1
 a7:TI≠i2
 a8:TO≠i1
 a9:TO≠i2
 b1:i1≠i2
structure Vb(k1 k2:SK)(z TI TO i1 i2 l1 l2:wO)(i:Nat)(h:Heap):Prop where
 hz:IsZip h z TI TO .none
 hTI:IsPair h TI (.ref i1) (.ref i2)
 hTO:∃a b,IsPair h TO a b
 h1:k1.iter h i1 l1 i
 h2:k2.iter h i2 l2 i
theorem fZ{k1 k2:SK}{z TI TO i1 i2 l1 l2:wO}{i:Nat}{xs ys:wK}{x y:wN}{Q:wI->wM->Prop}(D:WB z TI TO i1 i2)(Z:Vb k1 k2 z TI TO i1 i2 l1 l2 i s.heap)(hl1:k1.seq s.heap l1 xs)(hl2:k2.seq s.heap l2 ys)
  (n1:l1≠z/\l1≠i1) (n2:l2≠z/\l2≠i1/\l2≠TO) (hx:xs[i]?=some x) (hy:ys[i]?=some y)
  (hQ:∀h',IsZip h' z TI TO (rawInt s.heap.objs.size)->IsPair h' TI (.ref i1) (.ref i2)->IsPair h' TO x y->k1.iter h' i1 l1 (i+1)->k2.iter h' i2 l2 (i+1)->IsPair h' s.heap.objs.size x y ->
   (∀c o,c≠z->c≠TO->c≠i1->c≠i2->s.heap.get? c=some o->h'.get? c=some o)->Q (some (.ref s.heap.objs.size)) { s with heap:=h' }):wpAny (model prog w) A (pyNext (.ref z)) Q E s:=by
 obtain⟨hz,hTI,⟨a,b,hTO⟩,h1,h2⟩:=Z
 have hT:s.TypeIs (.ref z) "zip" := ⟨_,hz,rfl⟩
 unfold pyNext
 refine AA (DZ (BU (name:=Str.ofString "__next__") hT EL (Bb EL hT F.entry_zip_next ?_ (F.args_zip_next_1 _))))
 show wpAny _ _ (field (.ref z) 2>>=λ_=>_) _ _ _
 refine AA (BG hz rfl (x:=Value.bool false) rfl ?_)
 show wpAny _ _ (field (.ref z) 3>>=λ_=>_) _ _ _
 refine AA (BG hz rfl (x:=Value.ref TI) rfl (AA (B5 hTI rfl ?_)))
 show wpAny _ _ (Builtin.SmallTypes.ownedTupleIsFree (.ref z)>>=λ_=>_) _ _ _
 refine AA ?_
 unfold Builtin.SmallTypes.ownedTupleIsFree
 refine AA (BG hz rfl (x:=Value.none) rfl (AE ?_))
 simp only[CD]
 refine AA (CU (AA (BG hz rfl (x:=Value.ref TO) rfl (AA (Co hz (by simp) λh₁ hz₁ hs₁=>?_)))))
 have z1:IsZip h₁ z TI TO .ellipsis:=hz₁
 refine AA ?_
 simp only[E9,List.zipIdx_nil,Dj,Fu]
 refine AA (AA (Es ?_))
 show wpAny _ _ (Builtin.SmallTypes.nextOf (.ref i1)>>=λ_=>_) _ _ _
 refine AA (SK.next (SK.iter_keep h1 λo e=>hs₁.extBut _ _ D.a3 e) (SK.seq_keep hl1 λo e=>hs₁.extBut _ _ n1.1 e) hx λh₂ p₂ hs₂=>AE ?_)
 have t2:IsPair h₂ TO a b:=hs₂.extBut _ _ D.a8 (hs₁.extBut _ _ D.a2 hTO)
 refine AA (B5 t2 rfl (AA (EQ t2 λh₃ q₃ hs₃=>?_)))
 have t3:IsPair h₃ TO x b:=q₃
 refine AA (DK (AE (AA (AA (Es ?_)))))
 show wpAny _ _ (Builtin.SmallTypes.nextOf (.ref i2)>>=λ_=>_) _ _ _
 refine AA (SK.next (SK.iter_keep h2 λo e=>hs₃.extBut _ _ D.a9.symm (hs₂.extBut _ _ D.b1.symm (hs₁.extBut _ _ D.a4 e))) (SK.seq_keep hl2 λo e=>hs₃.extBut _ _ n2.2.2 (hs₂.extBut _ _ n2.2.1 (hs₁.extBut _ _ n2.1 e))) hy λh₄ p₄ hs₄=>AE ?_)
 have t4:IsPair h₄ TO x b:=hs₄.extBut _ _ D.a9 t3
 refine AA (B5 t4 rfl (AA (EQ t4 λh₅ q₅ hs₅=>?_)))
 have t5:IsPair h₅ TO x y:=q₅
 refine AA (DK (AE (AE (AA (B5 t5 rfl (AA (Gb ?_)))))))
 have sz:h₅.objs.size=s.heap.objs.size:=by rw[hs₅.1,hs₄.1,hs₃.1,hs₂.1,hs₁.1]
 have z5:IsZip h₅ z TI TO .ellipsis:=hs₅.extBut _ _ D.a2.symm (hs₄.extBut _ _ D.a4.symm (hs₃.extBut _ _ D.a2.symm (hs₂.extBut _ _ D.a3.symm z1)))
 have k5:∀c o,c≠z->c≠TO->c≠i1->c≠i2->s.heap.get? c=some o->h₅.get? c=some o:=λc o c1 c2 c3 c4 e=>hs₅.extBut _ _ c2 (hs₄.extBut _ _ c4 (hs₃.extBut _ _ c2 (hs₂.extBut _ _ c3 (hs₁.extBut _ _ c1 e))))
 have r1:k1.iter h₅ i1 l1 (i+1):=SK.iter_keep p₂ λo e=>hs₅.extBut _ _ D.a8.symm (hs₄.extBut _ _ D.b1 (hs₃.extBut _ _ D.a8.symm e))
 have r2:k2.iter h₅ i2 l2 (i+1):=SK.iter_keep p₄ λo e=>hs₅.extBut _ _ D.a9.symm e
 show wpAny _ _ (Builtin.SmallTypes.ownedTupleHandOut (.ref z) (.ref h₅.objs.size)>>=λ_=>_) _ _ _
 refine AA ?_
 unfold Builtin.SmallTypes.ownedTupleHandOut
 have z6:IsZip (h₅.push { cls:=.type "tuple",data:=.seq #[x,y] }) z TI TO .ellipsis:=AC _ z5
 refine AA (Co z6 (by simp) λh₇ q₇ hs₇=>?_)
 have z7:IsZip h₇ z TI TO (rawInt h₅.objs.size):=q₇
 refine Co z7 (by simp) λh₈ q₈ hs₈=>?_
 have z8:IsZip h₈ z TI TO (rawInt h₅.objs.size):=q₈
 have zlt:z<h₅.objs.size:=AS z5
 have up:∀c o,c≠z->h₅.get? c=some o->h₈.get? c=some o:=λc o c1 e=>hs₈.extBut _ _ c1 (hs₇.extBut _ _ c1 (AC _ e))
 have t8:IsPair h₈ h₅.objs.size x y:=hs₈.extBut _ _ (B8 zlt) (hs₇.extBut _ _ (B8 zlt) (AU _ rfl))
 rw[sz]at z8 t8
 refine AE ⟨_,rfl,?_⟩
 show wpAny _ _ _ _ _ _
 refine AE ?_
 have fin:=hQ h₈ z8 (up _ _ D.a1 (k5 _ _ D.a1 D.a5 D.a6 D.a7 hTI)) (up _ _ D.a2 t5) (SK.iter_keep r1 λo e=>up _ o D.a3 e) (SK.iter_keep r2 λo e=>up _ o D.a4 e) t8 λc o c1 c2 c3 c4 e=>up c o c1 (k5 c o c1 c2 c3 c4 e)
 show Q (some (.ref h₅.objs.size)) _
 rw[sz]
 exact fin
theorem YR{k1 k2:SK}{z TI TO i1 i2 l1 l2:wO}{i:Nat}{xs ys:wK}{Q:wI->wM->Prop}(hh:A.handled=none)(D:WB z TI TO i1 i2)(Z:Vb k1 k2 z TI TO i1 i2 l1 l2 i s.heap)(hl1:k1.seq s.heap l1 xs)(hl2:k2.seq s.heap l2 ys)
  (n1:l1≠z/\l1≠i1) (n2:l2≠z/\l2≠i1/\l2≠TO) (hend:xs[i]?=none∨ys[i]?=none)
  (hQ:∀h',(∀c o,c≠z->c≠TO->c≠i1->c≠i2->s.heap.get? c=some o->h'.get? c=some o)->Q none { s with heap:=h' }):wpAny (model prog w) A (pyNext (.ref z)) Q E s:=by
 obtain⟨hz,hTI,⟨a,b,hTO⟩,h1,h2⟩:=Z
 have hT:s.TypeIs (.ref z) "zip" := ⟨_,hz,rfl⟩
 have stop:∀(h':Heap)(e:wO),(∃o,h'.get? e=some o/\o.cls=.type "StopIteration")->(∀c o,c≠z->c≠TO->c≠i1->c≠i2->s.heap.get? c=some o->h'.get? c=some o) ->
   wpAny (model prog w) A (isInstance (.ref e) (.type "StopIteration")>>=λb=>if b=true then pure none else throw (.ref e)) Q E { s with heap:=h' }:=by
  rintro h' e ⟨o,ho,hc⟩ hk
  exact AA (FK (T := "StopIteration") (b:=true) ⟨o,ho,hc⟩ Ga (AE (hQ _ hk)))
 unfold pyNext
 refine AA (DZ (BU (name:=Str.ofString "__next__") hT EL (Bb EL hT F.entry_zip_next ?_ (F.args_zip_next_1 _))))
 show wpAny _ _ (field (.ref z) 2>>=λ_=>_) _ _ _
 refine AA (BG hz rfl (x:=Value.bool false) rfl ?_)
 show wpAny _ _ (field (.ref z) 3>>=λ_=>_) _ _ _
 refine AA (BG hz rfl (x:=Value.ref TI) rfl (AA (B5 hTI rfl ?_)))
 show wpAny _ _ (Builtin.SmallTypes.ownedTupleIsFree (.ref z)>>=λ_=>_) _ _ _
 refine AA ?_
 unfold Builtin.SmallTypes.ownedTupleIsFree
 refine AA (BG hz rfl (x:=Value.none) rfl (AE ?_))
 simp only[CD]
 refine AA (CU (AA (BG hz rfl (x:=Value.ref TO) rfl (AA (Co hz (by simp) λh₁ hz₁ hs₁=>?_)))))
 have z1:IsZip h₁ z TI TO .ellipsis:=hz₁
 refine AA ?_
 simp only[E9,List.zipIdx_nil,Dj,Fu]
 refine AA (AA (Es ?_))
 show wpAny _ _ (Builtin.SmallTypes.nextOf (.ref i1)>>=λ_=>_) _ _ _
 cases hx:xs[i]? with
 |none =>
  refine AA (SK.stop hh (SK.iter_keep h1 λo e=>hs₁.extBut _ _ D.a3 e) (SK.seq_keep hl1 λo e=>hs₁.extBut _ _ n1.1 e) hx λh₂ e hs₂ he=>?_)
  obtain⟨oe,hoe,hce⟩:=he
  have z2:IsZip h₂ z TI TO .ellipsis:=hs₂ _ _ D.a3.symm z1
  have ez:e≠z:=λq=>by subst q;rw[z2]at hoe;cases hoe;simp at hce
  refine Co z2 (by simp) λh₃ _ hs₃=>?_
  exact stop h₃ e ⟨oe,hs₃.extBut _ _ ez hoe,hce⟩ λc o c1 _ c3 _ q=>hs₃.extBut _ _ c1 (hs₂ _ _ c3 (hs₁.extBut _ _ c1 q))
 |some x =>
  have hy:ys[i]?=none:=by
   rcases hend with h|h
   ·rw[hx]at h;cases h
   ·exact h
  refine AA (SK.next (SK.iter_keep h1 λo e=>hs₁.extBut _ _ D.a3 e) (SK.seq_keep hl1 λo e=>hs₁.extBut _ _ n1.1 e) hx λh₂ p₂ hs₂=>AE ?_)
  have t2:IsPair h₂ TO a b:=hs₂.extBut _ _ D.a8 (hs₁.extBut _ _ D.a2 hTO)
  refine AA (B5 t2 rfl (AA (EQ t2 λh₃ q₃ hs₃=>?_)))
  refine AA (DK (AE (AA (AA (Es ?_)))))
  show wpAny _ _ (Builtin.SmallTypes.nextOf (.ref i2)>>=λ_=>_) _ _ _
  refine AA (SK.stop hh (SK.iter_keep h2 λo e=>hs₃.extBut _ _ D.a9.symm (hs₂.extBut _ _ D.b1.symm (hs₁.extBut _ _ D.a4 e))) (SK.seq_keep hl2 λo e=>hs₃.extBut _ _ n2.2.2 (hs₂.extBut _ _ n2.2.1 (hs₁.extBut _ _ n2.1 e))) hy λh₄ e hs₄ he=>?_)
  obtain⟨oe,hoe,hce⟩:=he
  have z4:IsZip h₄ z TI TO .ellipsis:=hs₄ _ _ D.a4.symm (hs₃.extBut _ _ D.a2.symm (hs₂.extBut _ _ D.a3.symm z1))
  have ez:e≠z:=λq=>by subst q;rw[z4]at hoe;cases hoe;simp at hce
  refine Co z4 (by simp) λh₅ _ hs₅=>?_
  exact stop h₅ e ⟨oe,hs₅.extBut _ _ ez hoe,hce⟩ λc o c1 c2 c3 c4 q=>hs₅.extBut _ _ c1 (hs₄ _ _ c4 (hs₃.extBut _ _ c2 (hs₂.extBut _ _ c3 (hs₁.extBut _ _ c1 q))))
end
abbrev WW(k1:SK)(h:Heap)(l1:wO):Heap:=h.push (k1.ob l1)
abbrev V1(k1 k2:SK)(h:Heap)(l1 l2:wO):Heap:=(WW k1 h l1).push (k2.ob l2)
noncomputable abbrev V5(k1 k2:SK)(h:Heap)(l1 l2:wO):Heap:=(V1 k1 k2 h l1 l2).push { cls:=.type "tuple",data:=.seq #[.ref h.objs.size,.ref (WW k1 h l1).objs.size] }
noncomputable abbrev WS(k1 k2:SK)(h:Heap)(l1 l2:wO):Heap:=(V5 k1 k2 h l1 l2).push { cls:=.type "tuple",data:=.seq #[.none,.none] }
noncomputable abbrev PR(k1 k2:SK)(h:Heap)(l1 l2:wO):Heap:=(WS k1 k2 h l1 l2).push { cls:=.type "zip",data:=.fields #[.none,.bool false,.bool false,.ref (V1 k1 k2 h l1 l2).objs.size,.ref (V5 k1 k2 h l1 l2).objs.size] }
theorem SK.seq_push{k:SK}{h:Heap}{l:wO}{xs:wK}(x:k.seq h l xs)(o:Obj):k.seq (h.push o) l xs:=SK.seq_keep x λ_ e=>AC _ e
set_option maxHeartbeats 8000000 in
theorem aY(k1 k2:SK)(l1 l2:wO)(xs ys:wK) :
  Meets (Builtin.«zip.__new__» ⟨[.type "zip",.ref l1,.ref l2],[]⟩) (λ_ R s=>k1.seq s.heap l1 xs/\k2.seq s.heap l2 ys/\R (.ok (.ret (.ref (WS k1 k2 s.heap l1 l2).objs.size))) { s with heap:=PR k1 k2 s.heap l1 l2 }) :=
 .of_wp λprog w A R s h=>by
  obtain⟨hp,g,d,tk,os⟩:=s
  obtain⟨hl1,hl2,h⟩:=h
  have hsub:=sub_zip
  have q1:k1.seq (Shared.heap ⟨hp,g,d,tk,os⟩) l1 xs:=hl1
  have q2:k2.seq (Shared.heap ⟨hp.push (k1.ob l1),g,d,tk,os⟩) l2 ys:=SK.seq_push hl2 _
  cases k1 with
  |lst =>
   cases k2 with
   |lst =>
    have w1:Heap.IsList (Shared.heap ⟨hp,g,d,tk,os⟩) l1 xs:=q1
    have w2:Heap.IsList (Shared.heap ⟨hp.push { cls:=.type "list_iterator",data:=.fields #[.ref l1,.int 0 0] },g,d,tk,os⟩) l2 ys:=q2
    wp_walk using CG w1,CG w2
    exact⟨_,rfl,h⟩
   |tup =>
    have w1:Heap.IsList (Shared.heap ⟨hp,g,d,tk,os⟩) l1 xs:=q1
    have w2:Heap.IsTuple (Shared.heap ⟨hp.push { cls:=.type "list_iterator",data:=.fields #[.ref l1,.int 0 0] },g,d,tk,os⟩) l2 ys:=q2
    wp_walk using CG w1,B0 w2
    exact⟨_,rfl,h⟩
  |tup =>
   cases k2 with
   |lst =>
    have w1:Heap.IsTuple (Shared.heap ⟨hp,g,d,tk,os⟩) l1 xs:=q1
    have w2:Heap.IsList (Shared.heap ⟨hp.push { cls:=.type "tuple_iterator",data:=.fields #[.ref l1,.int 0 0] },g,d,tk,os⟩) l2 ys:=q2
    wp_walk using B0 w1,CG w2
    exact⟨_,rfl,h⟩
   |tup =>
    have w1:Heap.IsTuple (Shared.heap ⟨hp,g,d,tk,os⟩) l1 xs:=q1
    have w2:Heap.IsTuple (Shared.heap ⟨hp.push { cls:=.type "tuple_iterator",data:=.fields #[.ref l1,.int 0 0] },g,d,tk,os⟩) l2 ys:=q2
    wp_walk using B0 w1,B0 w2
    exact⟨_,rfl,h⟩
theorem mR(n:Nat):WB (n+4) (n+2) (n+3) n (n+1):=by
 constructor<;>(show(_:Nat)≠_)<;>lia
theorem cW{k1 k2:SK}{l1 l2:wO}{xs ys:wK}{Q:wD}{prog:wP}{w:wQ}{A:Around}{E:wD}{s:wM}(hl1:k1.seq s.heap l1 xs)(hl2:k2.seq s.heap l2 ys)
  (h:∀h',Vb k1 k2 (s.heap.objs.size+4) (s.heap.objs.size+2) (s.heap.objs.size+3) s.heap.objs.size (s.heap.objs.size+1) l1 l2 0 h'->(∀c o,s.heap.get? c=some o->h'.get? c=some o)->Q (.ref (s.heap.objs.size+4)) { s with heap:=h' }) :
  wpAny (model prog w) A (call (.type "zip") [.ref l1,.ref l2]) Q E s:=by
 refine callType_new F.called_zip (by decide) (F.typeCall_zip_2 _ _) (F.newCall_zip_2 _ _) (λobj=>F.args_object_init_3 obj _ _) F.entry_zip_new (aY k1 k2 l1 l2 xs ys) ⟨hl1,hl2,?_⟩
 have e1:(WW k1 s.heap l1).objs.size=s.heap.objs.size+1:=CA ..
 have e2:(V1 k1 k2 s.heap l1 l2).objs.size=s.heap.objs.size+2:=by rw[CA,e1]
 have e3:(V5 k1 k2 s.heap l1 l2).objs.size=s.heap.objs.size+3:=by rw[CA,e2]
 have e4:(WS k1 k2 s.heap l1 l2).objs.size=s.heap.objs.size+4:=by rw[CA,e3]
 have g5:(PR k1 k2 s.heap l1 l2).get? (WS k1 k2 s.heap l1 l2).objs.size=some _:=AU _ rfl
 have g4:(PR k1 k2 s.heap l1 l2).get? (V5 k1 k2 s.heap l1 l2).objs.size=some _:=AC _ (AU _ rfl)
 have g3:(PR k1 k2 s.heap l1 l2).get? (V1 k1 k2 s.heap l1 l2).objs.size=some _:=AC _ (AC _ (AU _ rfl))
 have f2:(k2.ob l2).isFreed=false:=by cases k2<;>rfl
 have f1:(k1.ob l1).isFreed=false:=by cases k1<;>rfl
 have g2:(PR k1 k2 s.heap l1 l2).get? (WW k1 s.heap l1).objs.size=some (k2.ob l2):=AC _ (AC _ (AC _ (AU _ f2)))
 have g1:(PR k1 k2 s.heap l1 l2).get? s.heap.objs.size=some (k1.ob l1):=AC _ (AC _ (AC _ (AC _ (AU _ f1))))
 have fin:=h (PR k1 k2 s.heap l1 l2) ⟨by rw[e2,e3,e4]at g5;exact g5,by rw[e1,e2]at g3;exact g3,⟨_,_,by rw[e3]at g4;exact g4⟩,SK.iter_new g1,SK.iter_new (by rw[e1]at g2;exact g2)⟩
  λc o e=>AC _ (AC _ (AC _ (AC _ (AC _ e))))
 rw[<-e4]at fin
 exact⟨⟨_,g5,rfl⟩,fin⟩
def Sd(K:wL)(k1 k2:SK)(a b:wO):It :=
 ⟨λi H=>∃xs ys x y,k1.is K H a xs/\k2.is K H b ys/\xs[i]?=some x/\ys[i]?=some y,
  λi H v H'=>∃p x y,v=.ref p/\H p=none/\H'=Gw H p (.tup [x,y])/\(∀xs,k1.is K H a xs->xs[i]?=some x)/\∀ys,k2.is K H b ys->ys[i]?=some y,
  λi H=>∃xs ys,k1.is K H a xs/\k2.is K H b ys/\(xs.length<=i∨ys.length<=i)⟩
theorem LG{X:Cx}{Fj:wF}{σ:St}{H:Hp}{s:wM}{a c:wO}{xs:List V}{k:SK}(I:Inv X Fj σ H s)(h:k.is X.K H a xs)(f:Kw X Fj H c):a≠c:=by
 intro e
 subst e
 have known:∀o,X.K.lookup a=some o->False:=λo q=>by
  have e:=I.ok.mod.kin a o q
  rcases f.2.2.2.1 with z|z
  ·exact I.ok.noex a o e z
  ·exact absurd (Ai (AS e) (A9 I.ok.bsz z)) (B3 _)
 cases k with
 |lst =>
  rcases h with(h|⟨o,h⟩)|⟨o,_,_,q,_⟩
  ·rw[f.1]at h;cases h
  ·rw[f.1]at h;cases h
  ·exact known o q
 |tup =>
  rcases h with(h|⟨o,h⟩)|⟨o,_,_,q,_⟩
  ·rw[f.1]at h;cases h
  ·rw[f.1]at h;cases h
  ·exact known o q
theorem V8{X:Cx}{Fj:wF}{σ:St}{H H':Hp}{s:wM}{h':Heap}{t':Nat}{ch:wH}(I:Inv X Fj σ H s)(hf:∀b∈ch,Kw X Fj H b)(k:∀b o,b∉ch->s.heap.get? b=some o->h'.get? b=some o)
  (new:∀b,b<s.heap.objs.size->H' b=H b) (hok:IU X.prog X.w H' h'):Inv X Fj σ H' { s with heap:=h',toks:=t' }:=by
 have lt:∀{b u},H b=some u->b<s.heap.objs.size:=λe=>I.hok.lt e
 refine I.step (g':=s.gens) (d':=s.drawn) (ch:=ch) (λb hb=>⟨(hf b hb).2.2.2.1,(hf b hb).2.1,(hf b hb).2.2.2.2.1,(hf b hb).2.2.2.2.2⟩) (λb o _ _ hc e _=>k b o hc e) (λb o _ _ hc e _=>⟨o.slots,k b o hc e⟩) (λb o _ e n=>by rw[new b (AS e)];exact n)
  (λb o hc e=>⟨o,k b o hc e⟩) (λb xs e=>by rw[new b (lt e)];exact e) (λb o u e=>by rw[new b (lt e)];exact e) (λb ps e=>⟨#[],by rw[new b (lt e),e];simp⟩) (λm hm=>?_) hok I.bare
 obtain⟨o,es,ep,ho,r⟩:=hm
 exact⟨o,es,ep,k _ o (λz=>(hf _ z).2.1 rfl) ho,r⟩
theorem Yv{P:wP}{w:wQ}{K:wL}{elts:wJ}{x1}{pos:Pos}(k1 k2:SK)(a b z TI TO i1 i2:wO)(D:WB z TI TO i1 i2) :
  KB P w K (.Tuple elts x1 pos) (Sd K k1 k2 a b) [z,TI,TO,i1,i2] z (λi h=>Vb k1 k2 z TI TO i1 i2 a b i h) where
 mem:=by simp
 obj:=λi h st c hc=>by
  obtain⟨hz,hTI,⟨u,v,hTO⟩,h1,h2⟩:=st
  have it:∀{k:SK}{i l:wO}{n:Nat},k.iter h i l n->∃o,h.get? i=some o/\∀v,o.data≠.cell v:=λ{k i l n} x=>by
   cases k with
   |lst=>obtain⟨o,e,_,d⟩:=x;exact⟨o,e,λv q=>by rw[d]at q;cases q⟩
   |tup=>obtain⟨o,e,_,d⟩:=x;exact⟨o,e,λv q=>by rw[d]at q;cases q⟩
  simp only[AN,BZ,C3]at hc
  rcases hc with rfl|rfl|rfl|rfl|rfl
  ·exact⟨_,hz,λv q=>by cases(show Data.fields _=Data.cell v from q)⟩
  ·exact⟨_,hTI,λv q=>by cases(show Data.seq _ _=Data.cell v from q)⟩
  ·exact⟨_,hTO,λv q=>by cases(show Data.seq _ _=Data.cell v from q)⟩
  ·exact it h1
  ·exact it h2
 keep:=λi h h' st k=>by
  obtain⟨hz,hTI,⟨u,v,hTO⟩,h1,h2⟩:=st
  exact⟨k z (by simp) _ hz,k TI (by simp) _ hTI,⟨u,v,k TO (by simp) _ hTO⟩,SK.iter_keep h1 λo e=>k i1 (by simp) o e,SK.iter_keep h2 λo e=>k i2 (by simp) o e⟩
 item:=by
  intro X hP hw hK hc i Fj s σ H E I hf st hg
  subst hP hw hK
  obtain⟨xs,ys,x,y,q1,q2,hx,hy⟩:=hg
  obtain⟨its,r1,p1⟩:=SK.at I q1
  obtain⟨its',r2,p2⟩:=SK.at I q2
  obtain⟨u,hu,ru⟩:=r1.get hx
  obtain⟨v,hv,rv⟩:=r2.get hy
  have fz:=hf z (by simp)
  have fTO:=hf TO (by simp)
  have f1:=hf i1 (by simp)
  have f2:=hf i2 (by simp)
  refine fZ D st p1 p2 ⟨LG I q1 fz,LG I q1 f1⟩ ⟨LG I q2 fz,LG I q2 f1,LG I q2 fTO⟩ (x:=u) (y:=v) (by simpa using hu) (by simpa using hv) λh' a1 a2 a3 a4 a5 a6 a7=>?_
  refine⟨_,rfl,wpAny_letOwnedTupleGo_zip (s:={ s with heap:=h' }) a1 λh'' b1 b2=>?_⟩
  have kp:∀c o,c∉[z,TO,i1,i2]->s.heap.get? c=some o->h''.get? c=some o:=λc o hc e=>by
   simp only[AN,BZ,C3,not_or]at hc
   exact b2.extBut _ _ hc.1 (a7 c o hc.1 hc.2.1 hc.2.2.1 hc.2.2.2 e)
  have zlt:z<s.heap.objs.size:=AS st.hz
  have hT:IsPair h'' s.heap.objs.size u v:=b2.extBut _ _ (B8 zlt) a6
  have hf4:∀c∈[z,TO,i1,i2],Kw X Fj H c:=λc hc=>by
   simp only[AN,BZ,C3]at hc
   rcases hc with rfl|rfl|rfl|rfl
   ·exact fz
   ·exact fTO
   ·exact f1
   ·exact f2
  have hn:H s.heap.objs.size=none:=I.fresh
  have hok:IU X.prog X.w (Gw H s.heap.objs.size (.tup [x,y])) h'':=λc o e=>by
   by_cases hc:c=s.heap.objs.size
   ·subst hc
    rw[Gu]at e
    cases e
    exact⟨by show 2<=sizeLine;decide,[u,v],.cons ru (.cons rv .nil),⟨_,hT,rfl,_,rfl,rfl⟩⟩
   ·rw[Hf hc]at e
    refine(I.hok c o e).stay (λd v2 hd q=>kp d v2 (λm=>?_) q) (λd q=>by rw[Hf (JR q hn)];exact q) λd xs q=>by rw[Hf (JR q hn)];exact q
    have z:=(hf4 d m).1
    rcases hd with rfl|hd
    ·rw[e]at z;cases z
    ·rw[hd]at z;cases z
  have I9:Inv X Fj σ (Gw H s.heap.objs.size (.tup [x,y])) { s with heap:=h'',toks:=s.toks }:=V8 (s:=s) I hf4 kp (λc hc=>Hf (As hc)) hok
  refine⟨.ref s.heap.objs.size,Gw H s.heap.objs.size (.tup [x,y]),I9,rfl,⟨s.heap.objs.size,x,y,rfl,hn,rfl,λzs hz=>by rw[SK.inj I hz q1];exact hx,λzs hz=>by rw[SK.inj I hz q2];exact hy⟩,?_,λc hc=>?_⟩
  ·exact⟨b1,b2.extBut _ _ D.a1 a2,⟨u,v,b2.extBut _ _ D.a2 a3⟩,SK.iter_keep a4 λo e=>b2.extBut _ _ D.a3 e,SK.iter_keep a5 λo e=>b2.extBut _ _ D.a4 e⟩
  ·obtain⟨o,e⟩:∃o,s.heap.get? c=some o:=by
    obtain⟨hz,hTI,⟨u,v,hTO⟩,h1,h2⟩:=st
    simp only[AN,BZ,C3]at hc
    rcases hc with rfl|rfl|rfl|rfl|rfl
    ·exact⟨_,hz⟩
    ·exact⟨_,hTI⟩
    ·exact⟨_,hTO⟩
    ·cases k1 with
     |lst=>obtain⟨o,e,_⟩:=h1;exact⟨o,e⟩
     |tup=>obtain⟨o,e,_⟩:=h1;exact⟨o,e⟩
    ·cases k2 with
     |lst=>obtain⟨o,e,_⟩:=h2;exact⟨o,e⟩
     |tup=>obtain⟨o,e,_⟩:=h2;exact⟨o,e⟩
   rw[Hf (As (AS e))]
   exact(hf c hc).1
 done:=by
  intro X hP hw hK hc i Fj s σ H E I hf st hg
  subst hP hw hK
  obtain⟨xs,ys,q1,q2,hx⟩:=hg
  obtain⟨its,r1,p1⟩:=SK.at I q1
  obtain⟨its',r2,p2⟩:=SK.at I q2
  have fz:=hf z (by simp)
  have fTO:=hf TO (by simp)
  have f1:=hf i1 (by simp)
  have f2:=hf i2 (by simp)
  have l1:=r1.length
  have l2:=r2.length
  refine YR (I.ok.hd hc) D st p1 p2 ⟨LG I q1 fz,LG I q1 f1⟩ ⟨LG I q2 fz,LG I q2 f1,LG I q2 fTO⟩ (hx.imp (λq=>by simp;lia) λq=>by simp;lia) λh' a7=>⟨rfl,?_⟩
  have hf4:∀c∈[z,TO,i1,i2],Kw X Fj H c:=λc hc=>by
   simp only[AN,BZ,C3]at hc
   rcases hc with rfl|rfl|rfl|rfl
   ·exact fz
   ·exact fTO
   ·exact f1
   ·exact f2
  have kp:∀c o,c∉[z,TO,i1,i2]->s.heap.get? c=some o->h'.get? c=some o:=λc o hc e=>by
   simp only[AN,BZ,C3,not_or]at hc
   exact a7 c o hc.1 hc.2.1 hc.2.2.1 hc.2.2.2 e
  refine V8 (h':=h') (t':=s.toks) I hf4 kp (λc _=>rfl) λc o e=>?_
  refine(I.hok c o e).stay (λd v2 hd q=>kp d v2 (λm=>?_) q) (λd q=>q) λd xs q=>q
  have z:=(hf4 d m).1
  rcases hd with rfl|hd
  ·rw[e]at z;cases z
  ·rw[hd]at z;cases z
 self:=λ_ _ _ _ _ st h=>wpAny_pyIter_zip st.hz h
def gF(K:wL)(k1 k2:SK)(ta:TA):TI:=λσ H R=>ta σ H λvs H1=>∃a b,vs=[.ref a,.ref b]/\(∃xs,k1.is K H1 a xs)/\(∃ys,k2.is K H1 b ys)/\R (Sd K k1 k2 a b) H1
theorem N0{X:Cx}{ea eb:Expr}{ta:TA}{p pos tp:Pos}{elts:wJ}{x1}(k1 k2:SK)(hg:Gl X "zip")(hm:X.mg "zip" = none)(ha:PA X [ea,eb] ta)(hs:starEach [ea,eb] X.env=(false,eval ea X.env)::starEach [eb] X.env:=by rfl)(hs2:(backTo pos (starEach [eb] X.env)).any (·.1)=false:=by rfl) :
  PI X (.Tuple elts x1 tp) (.Call (.Name "zip" p) [ea,eb] [] pos) (gF X.K k1 k2 ta):=by
 intro Fj s σ H R I h
 refine Call_ (KI I hg hm boot_zip (BK (HZ (ha pos Fj s σ H _ I h) λus s1 ⟨vs,H1,I1,r1,q1⟩=>?_) hs hs2))
 obtain⟨a,b,rfl,⟨xs,ex⟩,⟨ys,ey⟩,q⟩:=q1
 obtain⟨u,v,rfl,ru,rv⟩:=Mv r1
 cases ru
 cases rv
 obtain⟨its,r1,p1⟩:=SK.at I1 ex
 obtain⟨its',r2,p2⟩:=SK.at I1 ey
 refine cW p1 p2 λh' Z kp=>?_
 refine wpAny_pyIter_zip Z.hz ?_
 have I2:Inv X Fj σ H1 { s1 with heap:=h' }:=I1.kept (t':=s1.toks) kp
 refine⟨_,[s1.heap.objs.size+4,s1.heap.objs.size+2,s1.heap.objs.size+3,s1.heap.objs.size,s1.heap.objs.size+1],_,_,H1,rfl,I2,Yv k1 k2 a b _ _ _ _ _ (mR _),Z,λc hc=>?_,q⟩
 have ge:s1.heap.objs.size<=c:=by
  simp only[AN,BZ,C3]at hc
  rcases hc with rfl|rfl|rfl|rfl|rfl
  ·exact Cb _ _
  ·exact Cb _ _
  ·exact Cb _ _
  ·exact AG _
  ·exact Cb _ _
 exact I1.fpOk ge (I1.hok.fresh ge)
end L2.Ev
namespace L2.Ev
open PySem PySem.Spec PyProof.Rows
open L2.Ts L2.Pl L2.Rw
section
variable{X:Cx}{α:Type}[D:Dat α][S:JC α]
noncomputable def MC(α:Type)[D:Dat α][S:JC α](H:Hp)(l:List α)(p:Keyed):Nat:=by
 classical exact if h:∃a:α,∃v,HE v p.1/\D.is H v a then K8 S.lt l h.choose else 0
theorem QB{H:Hp}{l:List α}{p:Keyed}{v:V}{a:α}(r:HE v p.1)(h:D.is H v a):MC α H l p=K8 S.lt l a:=by
 unfold MC
 have e:∃a:α,∃v,HE v p.1/\D.is H v a:=⟨a,v,r,h⟩
 rw[dif_pos e]
 obtain⟨v',r',h'⟩:=e.choose_spec
 have:v'=v:=HE.inj r' r
 subst this
 rw[D.inj h' h]
theorem Paired.perm{β γ:Type}{F:β->γ->Prop}{l l':List β}(p:l'.Perm l):∀{m:List γ},Paired F l m->∃m',m'.Perm m/\Paired F l' m':=by
 induction p with
 |nil=>intro m h;exact⟨m,List.Perm.refl _,h⟩
 |cons x _ ih =>
  intro m h
  cases h with
  |cons r t =>
   obtain⟨m',p',h'⟩:=ih t
   exact⟨_::m',p'.cons _,.cons r h'⟩
 |swap x y l =>
  intro m h
  cases h with
  |cons r t =>
   cases t with
   |cons r2 t2=>exact⟨_,List.Perm.swap _ _ _,.cons r2 (.cons r t2)⟩
 |trans _ _ i1 i2 =>
  intro m h
  obtain⟨m1,p1,h1⟩:=i2 h
  obtain⟨m2,p2,h2⟩:=i1 h1
  exact⟨m2,p2.trans p1,h2⟩
theorem Paired.mem{β γ:Type}{F:β->γ->Prop}{l:List β}{m:List γ}(h:Paired F l m){x:β}(hx:x∈l):∃y∈m,F x y:=by
 induction h with
 |nil=>cases hx
 |cons r t ih =>
  rcases AN.mp hx with e|hx
  ·subst e;exact⟨_,AJ ..,r⟩
  ·obtain⟨y,hy,f⟩:=ih hx
   exact⟨y,AM _ hy,f⟩
abbrev J1(α:Type)[D:Dat α](H:Hp)(its:wC)(l:List α):Prop:=Paired (λu a=>∃v,HE v u/\D.is H v a) its l
theorem Qe{H:Hp}:∀{vs:List V}{its:wC}{l:List α},HF vs its->Hs H vs l->J1 α H its l
 |_,_,_,.nil,.nil=>.nil
 |_,_,_,.cons r t,.cons q u=>.cons ⟨_,r,q⟩ (Qe t u)
theorem Qf{H:Hp}{its:wC}{l:List α}(h:J1 α H its l):∃vs,HF vs its/\Hs H vs l:=by
 induction h with
 |nil=>exact⟨[],.nil,.nil⟩
 |cons r t ih =>
  obtain⟨v,rv,d⟩:=r
  obtain⟨vs,a,b⟩:=ih
  exact⟨v::vs,.cons rv a,.cons d b⟩
theorem aG{H:Hp}{l0:List α}{out:wC}{m:List α}(h:J1 α H out m)(hm:∀a∈m,a∈l0)(o:out.Pairwise λx y=>MC α H l0 (y,y)<=MC α H l0 (x,x)):m.Pairwise λa b=>S.lt a b=false:=by
 induction h with
 |nil=>exact .nil
 |@cons x a xs m r t ih =>
  obtain⟨o1,o2⟩:=Ay.mp o
  refine Ay.mpr ⟨λb hb=>?_,ih (λb hb=>hm b (AM _ hb)) o2⟩
  obtain⟨y,hy,e⟩:∃y∈xs,∃v,HE v y/\D.is H v b:=by
   have key:∀{xs:wC}{m:List α},J1 α H xs m->b∈m->∃y∈xs,∃v,HE v y/\D.is H v b:=by
    intro xs m t
    induction t with
    |nil=>intro z;cases z
    |cons r t ih =>
     intro z
     rcases AN.mp z with e|z
     ·subst e;exact⟨_,AJ ..,r⟩
     ·obtain⟨y,hy,f⟩:=ih z
      exact⟨y,AM _ hy,f⟩
   exact key t hb
  obtain⟨v,rv,dv⟩:=r
  obtain⟨v2,rv2,dv2⟩:=e
  have q:=o1 y hy
  rw[QB (p:=(y,y)) rv2 dv2,QB (p:=(x,x)) rv dv]at q
  cases c:S.lt a b with
  |false=>rfl
  |true =>
   have:=(Oh S.lin (hm a (AJ ..))).mp c
   lia
theorem RT{Fj:wF}{σ:St}{H:Hp}{s:wM}{its:wC}{l:List α}{A:Around}(hu:A.units+4<cLine)(hb:J1 α H its l)(hok:∀a∈l,S.ok a)(I:Inv X Fj σ H s)(h2:2<=its.length) :
  (∀(Q:SortKind->wM->Prop)(E':wD),Q (tuples' S.plain) s->wpAny (model X.prog X.w) A (keyKind' its.toArray) Q E' s) /\
  KA X.prog X.w A s (tuples' S.plain) (λp=>∃a∈l,∃v,HE v p.1/\D.is H v a) (MC α H l):=by
 constructor
 ·intro Q E' q
  have fs:∀{its:wC}{l:List α},J1 α H its l->(∀a∈l,S.ok a)->∃fs:wC,fs.length=its.length/\W.KatTups s.heap its fs/\∀f∈fs,W.Looks (model X.prog X.w) s.heap (typeOf f) (if S.plain=true then .type "int" else .type "tuple"):=by
   intro its l hb
   induction hb with
   |nil=>intro _;exact⟨[],rfl,W.KatTups.nil,λf hf=>by cases hf⟩
   |@cons u0 a0 _ _ r t ih =>
    intro ok
    obtain⟨fs,f1,f2,f3⟩:=ih λa ha=>ok a (AM _ ha)
    obtain⟨v,rv,dv⟩:=r
    obtain⟨p,o,xs,n,f,rp,ho,hc,hd,hf,lk⟩:=S.first I dv (ok _ (AJ ..))
    have e:u0=Value.ref p:=by
     cases v with
     |ref a =>
      have e1:Value.ref p=Value.ref a:=rp
      have e2:u0=Value.ref a:=rv
      rw[e2,e1]
     |_=>first|(obtain⟨_,e⟩:=rp;cases e)|cases rp
    subst e
    refine⟨f::fs,by simp [f1],W.KatTups.cons ho hc hd hf f2,λg hg=>?_⟩
    rcases AN.mp hg with e|hg
    ·subst e;exact lk
    ·exact f3 g hg
  obtain⟨fs,f1,f2,f3⟩:=fs hb hok
  refine W.kat_kind f2 (by lia) f3 (by split<;>decide) ?_
  cases c:S.plain with
  |true=>rw[c]at q;exact q
  |false=>rw[c]at q;exact q
 ·intro x y hx hy Q q
  obtain⟨a,ha,v,rv,dv⟩:=hx
  obtain⟨b,hb',v',rv',dv'⟩:=hy
  refine S.asks I hu dv dv' (hok a ha) (hok b hb') rv rv' Q ?_
  rw[QB rv dv,QB rv' dv']at q
  have e:decide (K8 S.lt l a<K8 S.lt l b)=S.lt a b:=by
   cases c:S.lt a b with
   |true=>exact Ab ((Oh S.lin ha).mp c)
   |false=>exact AO λz=>by rw[(Oh S.lin ha).mpr z]at c;cases c
  rw[e]at q
  exact q
def gB(α:Type)[D:Dat α][S:JC α](ta:TA):TE:=λσ H Q=>ta σ H λvs H1=>∃(a:wO)(l:List α),vs=[.ref a]/\Gf H1 a l/\(∀b∈l,S.ok b) /\
 ∀(p:wO)(vs:List V)(l':List α),H1 p=none->l'.Perm l->(l'.Pairwise λa b=>S.lt a b=false)->Hs H1 vs l'->Q (.ref p) (Gw H1 p (.lst vs))
theorem Yc{Fj:wF}{σ:St}{H:Hp}{s:wM}{its out:wC}{l:List α}{Q:VK}{h':Heap}{tk:Nat}{P:wO}{e:Nat}(I:Inv X Fj σ H s)(hb:J1 α H its l)(hz:its.length<=sizeLine)(p:out.Perm its)
  (o:out.Pairwise λx y=>MC α H l (y,y)<=MC α H l (x,x)) (kp:∀b o,s.heap.get? b=some o->h'.get? b=some o) (hP:s.heap.objs.size<=P) (hg:h'.get? P=some (seqObj "list" out.toArray e))
  (q:∀(p:wO)(vs:List V)(l':List α),H p=none->l'.Perm l->(l'.Pairwise λa b=>S.lt a b=false)->Hs H vs l'->Q (.ref p) (Gw H p (.lst vs))):EP X Fj σ Q (.ref P) { s with heap:=h',toks:=tk }:=by
 obtain⟨m,pm,bm⟩:=Paired.perm p hb
 obtain⟨vs,v1,v2⟩:=Qf bm
 have lz:vs.length<=sizeLine:=by rw[v1.length,p.length_eq];exact hz
 refine⟨.ref P,Gw H P (.lst vs),I.laid (a:=P) (o:=.lst vs) (t':=tk) kp hP ⟨lz,out,e,v1,hg⟩,rfl,q P vs m (I.hok.fresh hP) pm (aG bm (λa ha=>pm.mem_iff.mp ha) o) v2⟩
theorem tG{Fj:wF}{σ:St}{H:Hp}{s:wM}{r:wO}{its:wC}{l:List α}{Q:VK}(hu:X.A.units+8<cLine)(I:Inv X Fj σ H s)(hb:J1 α H its l)(hz:its.length<=sizeLine)(hok:∀a∈l,S.ok a)
  (LA:∀(Q':wC->wM->Prop),(∀h' tk,(∀b o,s.heap.get? b=some o->h'.get? b=some o)->s.heap.objs.size<=h'.objs.size->Q' its { s with heap:=h',toks:=tk })->wpAny (model X.prog X.w) X.A.in1 (collect (.ref r)) Q' X.xe s)
  (q:∀(p:wO)(vs:List V)(l':List α),H p=none->l'.Perm l->(l'.Pairwise λa b=>S.lt a b=false)->Hs H vs l'->Q (.ref p) (Gw H p (.lst vs))) :
  wpAny (model X.prog X.w) X.A (call (.builtin "sorted") [.ref r] [(Str.ofString "reverse",.bool true)]) (EP X Fj σ Q) X.xe s:=by
 refine WQ (κ:=tuples' S.plain) (M:=λp=>∃a∈l,∃v,HE v p.1/\D.is H v a) (rk:=MC α H l) hz (λv hv=>?_) LA (λh' tk kp l2=>?_) λh' tk P e out p o kp hP hg=>?_
 ·obtain⟨a,ha,d⟩:=Paired.mem hb hv
  exact⟨a,ha,d⟩
 ·exact RT (A:=X.A.in1.in1) (by show X.A.units+1+1+4<cLine;lia) hb hok (I.kept (t':=tk) kp) l2
 ·exact Yc I hb hz p o kp hP hg q
theorem rE{e:Expr}{ta:TA}{p pos kp kq:Pos}{j}(hc:X.calm=true)(hu:X.A.units+8<cLine)(hg:Gl X "sorted")(hm:X.mg "sorted" = none)(ha:PA X [e] ta)
  (h1:backTo pos (starEach [e] X.env)=(false,eval e X.env)::backTo pos (starEach [] X.env):=by rfl) (h2:(backTo pos (starEach [e] X.env)).any (·.1)=false:=by rfl) :
  PE X (.Call (.Name "sorted" p) [e] [⟨some (Str.ofString "reverse"),.Constant (.bool true) j kq,kp⟩] pos) (gB α ta):=by
 intro Fj s σ H Q I h
 refine BP (KI I hg hm Fm ?_)
 refine Eb (HZ (ha pos Fj s σ H _ I h) λus s1 ⟨vs,H1,I1,r1,q1⟩=>?_) h1 h2
 obtain⟨a,l,rfl,⟨vs,hL,hI⟩,hok,q⟩:=q1
 obtain⟨u,rfl,ru⟩:=K5 r1
 cases ru
 refine kws_cons (Constant_bool (kws_nil ?_))
 obtain⟨its,rv,ht,hz⟩:=I1.list (HJ.of hL)
 refine tG hu I1 (Qe rv hI) (by rw[<-rv.length];exact hz) hok (λQ' q'=>collect_list ht.isList (q' _ _ (λb o e=>?_) ?_) (by rw[<-rv.length];exact hz)) q
 ·exact(A4 _ _ (B8 (AS e))).trans (AC _ e)
 ·rw[EC,size_push'];exact D7 _
end
noncomputable def IS(d:List Gi):List (List Ht×V):=d.map λt=>(t.1.map Sum.inl,V.int t.2)
theorem Rb:∀{a b:wB},(a.map Sum.inl:List Ht)=b.map Sum.inl->a=b
 |[],[],_=>rfl
 |[],_::_,e=>by simp at e
 |_::_,[],e=>by simp at e
 |x::xs,y::ys,e=>by
  rw[An,An]at e
  injection e with e1 e2
  injection e1 with e1
  rw[e1,Rb e2]
theorem LV(k:wB):(k.map Sum.inl:List Ht).map kV=k.map V.int:=by rw[Cm];rfl
theorem QT(d:List Gi)(p:Pw):Kf (IS d) (p.map Sum.inl)=(Ij d p).map V.int:=by
 induction d with
 |nil=>rfl
 |cons t r ih =>
  have e0:IS (t::r)=(t.1.map Sum.inl,V.int t.2)::IS r:=rfl
  rw[e0]
  by_cases e:t.1=p
  ·rw[Vj (p:=(t.1.map Sum.inl,V.int t.2)) (by rw[e])]
   simp [Ij,Bn,e]
  ·rw[Wf (p:=(t.1.map Sum.inl,V.int t.2)) (λz=>e (Rb z)),ih]
   simp [Ij,Bn,e]
theorem Pj(d:List Gi)(p:Pw)(n:Int):Jv (IS d) (p.map Sum.inl) (V.int n)=IS (Li d p n):=by
 have ea:((IS d).any λkv=>decide (kv.1=p.map Sum.inl))=d.any λkv=>decide (kv.1=p):=by
  unfold IS
  rw[FC]
  congr 1
  funext t
  show decide ((t.1.map Sum.inl:List Ht)=p.map Sum.inl)=decide (t.1=p)
  by_cases e:t.1=p
  ·rw[Ab e,Ab (by rw[e])]
  ·rw[AO e,AO λz=>e (Rb z)]
 unfold Jv Li
 rw[ea]
 split
 ·unfold IS
  rw[Cm,Cm]
  apply Ca
  intro t _
  simp only[Function.comp]
  by_cases e:t.1=p
  ·rw[AF (by rw[e]),AF e]
  ·rw[AD (λz=>e (Rb z)),AD e]
 ·unfold IS
  rw[Az]
  rfl
theorem Vu(d:List Gi):(IS d).length=d.length:=AB _
theorem WJ{X:Cx}{Fj:wF}{σ:St}{H:Hp}{s:wM}{a:wO}{d:List Gi}(I:Inv X Fj σ H s)(h:Rd H a (.dT (IS d))) :
  d.length<=sizeLine/\(a==sysModules)=false/\∃(es:Array wT)(ep:Nat),IR s.heap a es ep/\es.size=d.length /\
   Paired (λ(e:wT)(t:Gi)=>(∃p,e.key=.ref p/\H p=some (.tup (t.1.map V.int)))/\HE (.int t.2) e.val) es.toList d:=by
 obtain⟨z,y,xs,r,o,es,ep,h1,h2,h3,h4,h5⟩:=(show HR X.prog X.w H s.heap a (.dT (IS d)) from Mi I.hok h)
 have key:∀{d:List Gi}{xs:List (List Ht×wO×wN)},KT H (IS d) xs->Paired (λ(e:wT)(t:Gi)=>(∃p,e.key=.ref p/\H p=some (.tup (t.1.map V.int)))/\HE (.int t.2) e.val) (xs.map (entryOfKey (tupleKind (J7 X.prog X.w)))) d:=by
  intro d
  induction d with
  |nil=>intro xs r;cases r;exact .nil
  |cons t d ih =>
   intro xs r
   cases r with
   |cons q qs =>
    refine .cons ⟨⟨_,rfl,?_⟩,q.2.2⟩ (ih qs)
    have:=q.2.1
    rw[<-LV]
    exact this
 have kp:=key r
 rw[<-h4]at kp
 refine⟨by rw[<-Vu];exact z,y,es,ep,⟨o,h1,h2,h3⟩,?_,kp⟩
 rw[<-AR]
 exact AL kp
section
variable{X:Cx}
def aM(ta:TA):TE:=λσ H Q=>ta σ H λvs H1=>∃(a:wO)(d:List Gi),vs=[.ref a]/\Rd H1 a (.dT (IS d))/\(∀t∈d,t.1≠[]) /\
 ∀(p:wO)(vs:List V)(ks:List Pw),H1 p=none->ks.Perm (d.map (·.1))->(ks.Pairwise λa b=>Hv a b=false)->Hs H1 vs ks->Q (.ref p) (Gw H1 p (.lst vs))
theorem Ym{e:Expr}{ta:TA}{p pos kp kq:Pos}{j}(hc:X.calm=true)(hu:X.A.units+8<cLine)(hg:Gl X "sorted")(hm:X.mg "sorted" = none)(ha:PA X [e] ta)
  (h1:backTo pos (starEach [e] X.env)=(false,eval e X.env)::backTo pos (starEach [] X.env):=by rfl) (h2:(backTo pos (starEach [e] X.env)).any (·.1)=false:=by rfl) :
  PE X (.Call (.Name "sorted" p) [e] [⟨some (Str.ofString "reverse"),.Constant (.bool true) j kq,kp⟩] pos) (aM ta):=by
 intro Fj s σ H Q I h
 refine BP (KI I hg hm Fm ?_)
 refine Eb (HZ (ha pos Fj s σ H _ I h) λus s1 ⟨vs,H1,I1,r1,q1⟩=>?_) h1 h2
 obtain⟨a,d,rfl,hR,hne,q⟩:=q1
 obtain⟨u,rfl,ru⟩:=K5 r1
 cases ru
 refine kws_cons (Constant_bool (kws_nil ?_))
 obtain⟨z,lo,es,ep,raw,sz,ent⟩:=WJ I1 hR
 have hb:J1 wB H1 (es.toList.map (·.key)) (d.map (·.1)):=by
  have key:∀{l:List wT}{d:List Gi},Paired (λ(e:wT)(t:Gi)=>(∃p,e.key=.ref p/\H1 p=some (.tup (t.1.map V.int)))/\HE (.int t.2) e.val) l d->J1 wB H1 (l.map (·.key)) (d.map (·.1)):=by
   intro l d h
   induction h with
   |nil=>exact .nil
   |cons r t ih =>
    obtain⟨⟨p,e1,e2⟩,_⟩:=r
    exact .cons ⟨.ref p,e1,Js e2⟩ ih
  exact key ent
 have ln:(es.toList.map (·.key)).length<=sizeLine:=by rw[AB,AR,sz];exact z
 refine tG hu I1 hb ln (λk hk=>?_) (λQ' q'=>sI (Rj lo) (I1.ok.hd hc) raw (by rw[sz];exact z) λh' tk acc kp szz it=>?_) q
 ·obtain⟨t,ht,rfl⟩:=AY.mp hk
  exact hne t ht
 ·have e:acc.toList=es.toList.map (·.key):=by
   refine DM λi=>?_
   rw[A6,Al,A6]
   by_cases c:i<es.size
   ·have ci:i<acc.size:=by rw[it.1];exact c
    obtain⟨_,e⟩:=it.2 i acc[i] (AH ci)
    rw[AH ci,AH c,e]
    rfl
   ·rw[Bq (by rw[it.1];lia),Bq (by lia)]
    rfl
  rw[e]
  exact q' h' tk kp szz
end
theorem RS{H:Hp}{X:Cx}{Fj:wF}{σ:St}{s:wM}{a:wO}{o:Obj}{d:List Gi}{es:Array wT}{ep:Nat}(hd:o.data=.dict es ep)(I:Inv X Fj σ H s)(h:H a=some (.frz o (.dT (IS d)))) :
  IR s.heap a es ep/\es.size=d.length/\Paired (λ(e:wT)(t:Gi)=>(∃p,e.key=.ref p/\H p=some (.tup (t.1.map V.int)))/\HE (.int t.2) e.val) es.toList d:=by
 obtain⟨_,_,es',ep',⟨o',h1,h2,h3⟩,h4,h5⟩:=WJ I (.inr ⟨o,h⟩)
 obtain⟨h0,_⟩:=(show HR X.prog X.w H s.heap a (.frz o (.dT (IS d))) from I.hok a _ h)
 rw[h0]at h1
 cases h1
 rw[hd]at h3
 cases h3
 exact⟨⟨o,h0,h2,hd⟩,h4,h5⟩
end L2.Ev
namespace L2.Ev
open PySem
open L2.Pl
theorem Gy{H:Hp}{p:wO}(h:H p=none)(o:HO):Gh H (Gw H p o):=λb u q=>by rw[Hf (JR q h)];exact q
theorem KU{n:Nat}(h:n<=100000):n<sizeLine:=BD h (by decide)
theorem small{n:Nat}(h:n<=100000):n<=sizeLine:=BY (KU h)
theorem QN{A:Around}{k:Nat}(hr:Hq k A):A.units+8<cLine:=BD (Bt (by decide:8<=64) _) hr.units
noncomputable def Ra(scope:Scope)(N N':wG)(o:Option Nat)(i:Nat):Bool:=match o with
 |none=>true
 |some j=>match N'[i]? with
  |some x=>decide (N[j]?=some x)&&decide (scope.names.lookup x=some NameKind.free)
  |none=>false
noncomputable def Uc(sc scope:Scope)(N N':wG)(src:List (Option Nat)):Bool :=
 decide (scope.kind=.function)&&scope.names.all (λy=>decide (y.2≠NameKind.cell))&&scope.names.all (λy=>!decide (y.2=NameKind.local)||decide (scope.names.lookup y.1=some NameKind.local)) &&
 scope.names.all (λy=>!decide (y.2=NameKind.free)||(decide (sc.names.lookup y.1=some NameKind.cell)||decide (sc.names.lookup y.1=some NameKind.free)))&&decide (src.length=N'.length) &&
 (List.range src.length).all λi=>Ra scope N N' (src.getD i none) i
theorem Ir{X:Cx}{N':wG}{src:List (Option Nat)}{scope:Scope}(sc:Scope)(N:wG)(h:Uc sc scope N N' src=true)(e1:X.env.scope=sc:=by rfl)(e2:X.N=N:=by rfl):JI X N' src scope:=by
 subst e1 e2
 unfold Uc at h
 simp only[AK,AV,AZ,Di,Ew,decide_eq_false_iff_not]at h
 obtain⟨⟨⟨⟨⟨h1,h2⟩,h3⟩,h4⟩,h5⟩,h6⟩:=h
 refine⟨h1,h2,λy hy e=>(h3 y hy).resolve_left λz=>z e,λy hy e=>(h4 y hy).resolve_left λz=>z e,h5,λi j e=>?_⟩
 obtain⟨hi,ei⟩:=Ae.mp e
 have q:=h6 i (At.mpr hi)
 rw[Ao,e]at q
 unfold Ra at q
 simp only[Option.getD_some]at q
 cases c:N'[i]? with
 |none=>rw[c]at q;cases q
 |some x =>
  rw[c]at q
  simp only[AK,AV]at q
  exact⟨x,rfl,q.1,q.2⟩
theorem Gh.tseq{K:wL}{H H':Hp}{a:wO}{xs:List V}(e:Gh H H')(h:HK K H a xs):HK K H' a xs:=by
 rcases h with(h|⟨o,h⟩)|h
 ·exact .inl (.inl (e _ _ h))
 ·exact .inl (.inr ⟨o,e _ _ h⟩)
 ·exact .inr h
theorem SK.same{K:wL}{H H':Hp}{a:wO}{xs:List V}{k:SK}(e:Gh H H')(h:k.is K H a xs):k.is K H' a xs:=by
 cases k with
 |lst=>exact Gh.seq e h
 |tup=>exact Gh.tseq e h
theorem KL{α:Type}[Dat α]{K:wL}{a:wO}{xs:List V}{σ0:St}{H1:Hp}{D:wO}{R:Hp->Prop}{g:TG}{tc:TT}{te:TE}(hD:H1 D=none)(hl:HJ K H1 a xs)(Sp:St->Prop)(out:Nat->Option α)(hn:xs.length<=sizeLine)(h0:Sp σ0)
  (IF:∀(i:Nat)(x:V)(σ':St)(H':Hp)(Yes:V->St->Hp->Prop)(No:St->Hp->Prop),xs[i]?=some x->Sp σ'->Gh H1 H'->(∀y σ2 H4 a,Sp σ2->Gh H' H4->out i=some a->Dat.is H4 y a->Yes y σ2 H4)->(∀σ2 H3,Sp σ2->Gh H' H3->out i=none->No σ2 H3) ->
   g x σ' H' λσ2 H2=>tc σ2 H2 λok H3=>if ok=true then te σ2 H3 λy H4=>Yes y σ2 H4 else No σ2 H3)
  (hend:∀H',Gh H1 H'->Gf H' D ((List.range xs.length).filterMap out)->R H') :
  ∃W:Nat->Nat->St->Hp->Prop,(∃m,W 0 m σ0 (Gw H1 D (.lst [])))/\∀i m σ' H',W i m σ' H' ->
  ((Nb K a).stop i H'/\R H')∨((Nb K a).go i H'/\∃N:St->Hp->Prop,(∀σ'' H'',N σ'' H''->∃m',m'<m/\W (i+1) m' σ'' H'') /\
   ∀x H'',(Nb K a).yld i H' x H''->g x σ' H'' λσ2 H2=>tc σ2 H2 λok H3=>if ok=true then te σ2 H3 λy H4=>∃ys,H4 D=some (.lst ys)/\ys.length<sizeLine/\N σ2 (Gw H4 D (.lst (ys++[y]))) else N σ2 H3):=by
 refine P4 (Q:=λ_ H=>R H) (n:=xs.length) hD Sp out hn h0 (λH' e=>⟨xs,Gh.seq e hl,AG _⟩) (λi H' hi e=>⟨xs,xs[i],Gh.seq e hl,AT hi⟩) (λi σ' H' Yes No hi hS hH hy hn x H'' y=>?_) hend
 obtain⟨rfl,y⟩:=y
 exact IF i x σ' H'' Yes No (y xs (Gh.seq hH hl)) hS hH hy hn
theorem nH{α:Type}[Dat α]{K:wL}{a:wO}{xs:List V}{σ0:St}{H1:Hp}{D:wO}{R:Hp->Prop}{g:TG}{tc:TT}{te:TE}(hD:H1 D=none)(hl:HK K H1 a xs)(Sp:St->Prop)(out:Nat->Option α)(hn:xs.length<=sizeLine)(h0:Sp σ0)
  (IF:∀(i:Nat)(x:V)(σ':St)(H':Hp)(Yes:V->St->Hp->Prop)(No:St->Hp->Prop),xs[i]?=some x->Sp σ'->Gh H1 H'->(∀y σ2 H4 a,Sp σ2->Gh H' H4->out i=some a->Dat.is H4 y a->Yes y σ2 H4)->(∀σ2 H3,Sp σ2->Gh H' H3->out i=none->No σ2 H3) ->
   g x σ' H' λσ2 H2=>tc σ2 H2 λok H3=>if ok=true then te σ2 H3 λy H4=>Yes y σ2 H4 else No σ2 H3)
  (hend:∀H',Gh H1 H'->Gf H' D ((List.range xs.length).filterMap out)->R H') :
  ∃W:Nat->Nat->St->Hp->Prop,(∃m,W 0 m σ0 (Gw H1 D (.lst [])))/\∀i m σ' H',W i m σ' H' ->
  ((Lu K a).stop i H'/\R H')∨((Lu K a).go i H'/\∃N:St->Hp->Prop,(∀σ'' H'',N σ'' H''->∃m',m'<m/\W (i+1) m' σ'' H'') /\
   ∀x H'',(Lu K a).yld i H' x H''->g x σ' H'' λσ2 H2=>tc σ2 H2 λok H3=>if ok=true then te σ2 H3 λy H4=>∃ys,H4 D=some (.lst ys)/\ys.length<sizeLine/\N σ2 (Gw H4 D (.lst (ys++[y]))) else N σ2 H3):=by
 refine P4 (Q:=λ_ H=>R H) (n:=xs.length) hD Sp out hn h0 (λH' e=>⟨xs,Gh.tseq e hl,AG _⟩) (λi H' hi e=>⟨xs,xs[i],Gh.tseq e hl,AT hi⟩) (λi σ' H' Yes No hi hS hH hy hn x H'' y=>?_) hend
 obtain⟨rfl,y⟩:=y
 exact IF i x σ' H'' Yes No (y xs (Gh.tseq hH hl)) hS hH hy hn
theorem Vz{α:Type}[Dat α]{lo:Int}{n:Nat}{σ0:St}{H1:Hp}{D:wO}{R:Hp->Prop}{g:TG}{tc:TT}{te:TE}(hD:H1 D=none)(Sp:St->Prop)(out:Nat->Option α)(hn:n<=sizeLine)(h0:Sp σ0)
  (IF:∀(i:Nat)(σ':St)(H':Hp)(Yes:V->St->Hp->Prop)(No:St->Hp->Prop),i<n->Sp σ'->Gh H1 H'->(∀y σ2 H4 a,Sp σ2->Gh H' H4->out i=some a->Dat.is H4 y a->Yes y σ2 H4)->(∀σ2 H3,Sp σ2->Gh H' H3->out i=none->No σ2 H3) ->
   g (.int (lo+i)) σ' H' λσ2 H2=>tc σ2 H2 λok H3=>if ok=true then te σ2 H3 λy H4=>Yes y σ2 H4 else No σ2 H3)
  (hend:∀H',Gh H1 H'->Gf H' D ((List.range n).filterMap out)->R H') :
  ∃W:Nat->Nat->St->Hp->Prop,(∃m,W 0 m σ0 (Gw H1 D (.lst [])))/\∀i m σ' H',W i m σ' H' ->
  ((L7 lo n).stop i H'/\R H')∨((L7 lo n).go i H'/\∃N:St->Hp->Prop,(∀σ'' H'',N σ'' H''->∃m',m'<m/\W (i+1) m' σ'' H'') /\
   ∀x H'',(L7 lo n).yld i H' x H''->g x σ' H'' λσ2 H2=>tc σ2 H2 λok H3=>if ok=true then te σ2 H3 λy H4=>∃ys,H4 D=some (.lst ys)/\ys.length<sizeLine/\N σ2 (Gw H4 D (.lst (ys++[y]))) else N σ2 H3):=by
 refine P4 (Q:=λ_ H=>R H) (n:=n) hD Sp out hn h0 (λH' e=>AG _) (λi H' hi e=>hi) (λi σ' H' Yes No hi hS hH hy hn x H'' y=>?_) hend
 obtain⟨rfl,rfl⟩:=y
 exact IF i σ' H'' Yes No hi hS hH hy hn
theorem iG{α:Type}[Dat α]{K:wL}{k1 k2:SK}{a b:wO}{xs ys:List V}{σ0:St}{H1:Hp}{D:wO}{R:Hp->Prop}{g:TG}{tc:TT}{te:TE}(hD:H1 D=none)(hl:k1.is K H1 a xs)(hl2:k2.is K H1 b ys)(Sp:St->Prop)(out:Nat->Option α)(hn:min xs.length ys.length<=sizeLine)(h0:Sp σ0)
  (IF:∀(i:Nat)(x y:V)(p:wO)(σ':St)(H':Hp)(Yes:V->St->Hp->Prop)(No:St->Hp->Prop),xs[i]?=some x->ys[i]?=some y->H' p=none->Sp σ'->Gh H1 H'->(∀y σ2 H4 a,Sp σ2->Gh H' H4->out i=some a->Dat.is H4 y a->Yes y σ2 H4)->(∀σ2 H3,Sp σ2->Gh H' H3->out i=none->No σ2 H3) ->
   g (.ref p) σ' (Gw H' p (.tup [x,y])) λσ2 H2=>tc σ2 H2 λok H3=>if ok=true then te σ2 H3 λy H4=>Yes y σ2 H4 else No σ2 H3)
  (hend:∀H',Gh H1 H'->Gf H' D ((List.range (min xs.length ys.length)).filterMap out)->R H') :
  ∃W:Nat->Nat->St->Hp->Prop,(∃m,W 0 m σ0 (Gw H1 D (.lst [])))/\∀i m σ' H',W i m σ' H' ->
  ((Sd K k1 k2 a b).stop i H'/\R H')∨((Sd K k1 k2 a b).go i H'/\∃N:St->Hp->Prop,(∀σ'' H'',N σ'' H''->∃m',m'<m/\W (i+1) m' σ'' H'') /\
   ∀x H'',(Sd K k1 k2 a b).yld i H' x H''->g x σ' H'' λσ2 H2=>tc σ2 H2 λok H3=>if ok=true then te σ2 H3 λy H4=>∃ys,H4 D=some (.lst ys)/\ys.length<sizeLine/\N σ2 (Gw H4 D (.lst (ys++[y]))) else N σ2 H3):=by
 refine P4 (Q:=λ_ H=>R H) (n:=min xs.length ys.length) hD Sp out hn h0 (λH' e=>⟨xs,ys,SK.same e hl,SK.same e hl2,by lia⟩) (λi H' hi e=>⟨xs,ys,xs[i],ys[i],SK.same e hl,SK.same e hl2,AT (by lia),AT (by lia)⟩) (λi σ' H' Yes No hi hS hH hy hn x H'' y=>?_) hend
 obtain⟨p,x,y,rfl,hp,rfl,hx,hy2⟩:=y
 exact IF i x y p σ' H' Yes No (hx xs (SK.same hH hl)) (hy2 ys (SK.same hH hl2)) hp hS hH hy hn
theorem Jg{α β:Type}(f:α->Option β)(l:List α):(List.range l.length).filterMap (λi=>(l[i]?).bind f)=l.filterMap f:=by
 induction l with
 |nil=>rfl
 |cons x l ih =>
  rw[Aj,DI,Br,List.filterMap_map,Br]
  have e:((λi=>((x::l)[i]?).bind f) ∘ Nat.succ)=λi=>(l[i]?).bind f:=by funext i;simp
  rw[e,ih]
  simp
theorem Tc{α β:Type}(c:α->Prop)[DecidablePred c](g:α->β)(l:List α):l.filterMap (λk=>if c k then some (g k) else none)=(l.filter λk=>decide (c k)).map g:=by
 induction l with
 |nil=>rfl
 |cons x l ih =>
  rw[Br,B9]
  by_cases h:c x
  ·rw[AF h,AF (Ab h),An,ih]
  ·rw[AD h,AD (by simpa using h),ih]
theorem Ib{α:Type}[D:Dat α]{H:Hp}{vs:List V}{l:List α}(h:Hs H vs l){i:Nat}{x:V}(e:vs[i]?=some x):∃a,l[i]?=some a/\D.is H x a:=Paired.get h e
theorem JK{α:Type}{l:List α}{i:Nat}{x:α}(e:l[i]?=some x):l.take (i+1)=l.take i++[x]:=by
 obtain⟨h,rfl⟩:=Ae.mp e
 rw[List.take_succ_eq_append_getElem h]
theorem JO{H:Hp}{x:V}{t:Gi}(h:Dat.is H x t):∃p q,x=.ref p/\H p=some (.tup [.ref q,.int t.2])/\H q=some (.tup (t.1.map V.int)):=by
 obtain⟨p,a,b,rfl,hp,ha,hb⟩:=h
 obtain⟨q,rfl,hq⟩:=JU ha
 have hb':b=.int t.2:=hb
 subst hb'
 exact⟨p,q,rfl,hp,hq⟩
theorem JB{H:Hp}{p q:wO}{t:Gi}(hp:H p=some (.tup [.ref q,.int t.2]))(hq:H q=some (.tup (t.1.map V.int))):Dat.is H (.ref p) t:=⟨p,_,_,rfl,hp,Js hq,rfl⟩
theorem T4{H:Hp}{p:wO}(h:H p=none)(o:HO):HX H (Gw H p o):=HX.same (Gy h o)
theorem Kj{σ:St}{H:Hp}{A B:Hp->Prop}(h:A H):OM σ H (λok H3=>if ok=true then A H3 else B H3):=JP (A:=A H) (B:=B H) h
theorem NV{i:Nat}{v:V}{σ:St}{H:Hp}{A B:St->Hp->Prop}(h:A (σ.set i (some v)) H):JF i v σ H (λσ2 H2=>OM σ2 H2 λok H3=>if ok=true then A σ2 H3 else B σ2 H3):=JP (A:=A (σ.set i (some v)) H) (B:=B (σ.set i (some v)) H) h
end L2.Ev
namespace L2.Ev
open PySem PySem.Spec PyProof.Rows
open L2.Pl
section
variable{X:Cx}
def lZ(i j:Int):Prop:=i.natAbs<2^100000/\j.natAbs<2^100000
theorem Uo{x:Int}(h:x.natAbs<2^100000):Builtin.Int.intBits x<=2^20:=by
 unfold Builtin.Int.intBits
 split
 ·exact Ax _
 ·rename_i c
  have hx:x.natAbs≠0:=by
   intro z
   exact c (by simpa using Int.natAbs_eq_zero.mp z)
  have:=(Nat.log2_lt hx).mpr h
  have e:(2:Nat)^20=1048576:=by decide
  lia
theorem Lr:IX X (binaryOp .Mult) (rI lZ λi j=>.int (i*j)):=VP λ_ _ _ _ _ _ _ hc q=>mul_int q (.of_bits (Uo hc.1) (Uo hc.2))
def UT(K:wL):R2:=λx y H Q=>∃a b xs ys,x=.ref a/\y=.ref b/\HK K H a xs/\HK K H b ys/\xs.length+ys.length<=sizeLine /\
 (xs=[]->Q (.ref b) H)/\(xs≠[]->ys=[]->Q (.ref a) H)/\(xs≠[]->ys≠[]->∀p,H p=none->Q (.ref p) (Gw H p (.tup (xs++ys))))
theorem LM:IX X (binaryOp .Add) (UT X.K):=by
 intro Fj s σ H x y v u Q I rx ry h
 obtain⟨a,b,xs,ys,rfl,rfl,ha,hb,hz,q0,q1,q2⟩:=h
 by_cases hx:xs=[]
 ·cases rx
  cases ry
  obtain⟨its,r1,p1,_⟩:=I.tuple ha
  obtain⟨its2,r2,p2,_⟩:=I.tuple hb
  obtain⟨⟨cls,dd,data,sl⟩,ho,hc,n,hd⟩:=id p1
  obtain⟨⟨cls2,dd2,data2,sl2⟩,ho2,hc2,n2,hd2⟩:=id p2
  simp only at hc hd hc2 hd2
  subst hc hd hc2 hd2
  have e0:its=[]:=r1.nil_iff.mpr hx
  exact HC ⟨_,ho,rfl⟩ ⟨_,ho2,rfl⟩ FJ Gr D6 Dx (Dl _ _)
   (tuple_addW0 a b its.toArray its2.toArray n n2 dd dd2 sl sl2 (by rw[e0];rfl)) ⟨ho,ho2,⟨.ref b,H,I,rfl,q0 hx⟩⟩
 ·exact Ux Fj s σ H (.ref a) (.ref b) v u Q I rx ry ⟨a,b,xs,ys,rfl,rfl,ha,hb,hx,hz,q1 hx,q2 hx⟩
theorem Kp{K:wL}{H:Hp}{a b:wO}{r r':wB}{Q:VK}(ha:H a=some (.tup (r.map V.int)))(hb:H b=some (.tup (r'.map V.int)))(hz:r.length+r'.length<=sizeLine)
  (q:∀p H',Gh H H'->H' p=some (.tup ((r++r').map V.int))->Q (.ref p) H'):UT K (.ref a) (.ref b) H Q:=by
 refine⟨a,b,_,_,rfl,rfl,HK.of ha,HK.of hb,by simpa using hz,λe=>?_,λ_ e=>?_,λ_ _ p hp=>?_⟩
 ·have e':r=[]:=by simpa using e
  refine q b H (Gh.refl _) ?_
  rw[e',FW]
  exact hb
 ·have e':r'=[]:=by simpa using e
  refine q a H (Gh.refl _) ?_
  rw[e',BM]
  exact ha
 ·refine q p _ (Gy hp _) ?_
  rw[Az]
  exact Gu
theorem NP{H:Hp}{vs:List V}{ns:wB}(i:Hs H vs ns):vs=ns.map V.int:=by
 induction i with
 |nil=>rfl
 |cons r t ih=>rw[An,<-ih];exact congrArg (· :: _) r
theorem U3{bs:List Bool}{its:wC}(r:HF (bs.map V.bl) its){i:Nat}{v:wN}(h:its.toArray[i]?=some v):∃b,bs[i]?=some b/\v=.bool b:=by
 have h':its[i]?=some v:=by simpa using h
 have hi:i<its.length:=(Ae.mp h').1
 have hb:i<bs.length:=by have:=r.length;rw[AB]at this;lia
 have e:(bs.map V.bl)[i]?=some (V.bl bs[i]):=by rw[Al,AT hb];rfl
 obtain⟨u,e1,r1⟩:=r.get e
 rw[h']at e1
 cases e1
 exact⟨bs[i],AT hb,r1⟩
theorem gR{bs:List Bool}(n:Nat)(hn:n=bs.length):(List.range n).all (λi=>bs.getD i false)=bs.all id:=by
 subst hn
 induction bs with
 |nil=>rfl
 |cons b bs ih =>
  rw[Aj,DI,CI,Dn,CI]
  have e:((λi=>(b::bs).getD i false) ∘ Nat.succ)=λi=>bs.getD i false:=by funext i;simp
  rw[e,ih]
  rfl
theorem eG{bs:List Bool}(n:Nat)(hn:n=bs.length):(List.range n).any (λi=>bs.getD i false)=bs.any id:=by
 subst hn
 induction bs with
 |nil=>rfl
 |cons b bs ih =>
  rw[Aj,DI,B4,FC,B4]
  have e:((λi=>(b::bs).getD i false) ∘ Nat.succ)=λi=>bs.getD i false:=by funext i;simp
  rw[e,ih]
  rfl
theorem sC{Fj:wF}{σ:St}{H:Hp}{s:wM}{o:Obj}{s':wM}(I:Inv X Fj σ H s)(hm:Moved [s.heap.objs.size] (λa b=>b=a) { s with heap:=s.heap.push o } s'):Inv X Fj σ H s':=by
 obtain⟨h',g',d',tk',os'⟩:=s'
 have e1:g'=s.gens:=hm.gens
 have e2:d'=s.drawn:=hm.drawn
 have e3:os'=s.os:=hm.os
 subst e1 e2 e3
 exact I.kept (t':=tk') λb o e=>hm.heap b o (λhb=>absurd (AS e) ((Ad.mp hb)▸B3 _)) (AC _ e)
theorem uZ(hc:X.calm=true):ID X (.builtin "all") (λxs H Q=>∃(p:wO)(bs:List Bool),xs=[.ref p]/\HJ X.K H p (bs.map V.bl)/\Q (.bl (bs.all id)) H):=by
 intro Fj s σ H xs us Q I r h
 obtain⟨p,bs,rfl,hq,q⟩:=h
 obtain⟨u,rfl,ru⟩:=K5 r
 cases ru
 obtain⟨its,rv,ht,_⟩:=I.list hq
 have hl:=ht.isList
 obtain⟨o,ho,_⟩:=id hl
 have W:=(Walks.list (prog:=X.prog) (w:=X.w) (A:=X.A.in1) (I.ok.hd hc) s.heap.objs.size p (As (AS ho)) its.toArray).toS
 refine call_all_walkS (CG hl ⟨s.heap.objs.size,_,_,_,_,_,_,λi=>bs.getD i false,rfl,W,⟨⟨_,AU _ rfl,rfl,rfl⟩,hl.at λo e=>AC _ e⟩,λi v s2 Q2 E2 hP q2=>?_,λs' hm=>?_⟩)
 ·obtain⟨b,hb,rfl⟩:=U3 rv hP
  refine CY ?_
  have e:bs.getD i false=b:=by rw[Ao,hb];rfl
  have q2:Q2 (bs.getD i false) s2:=q2
  rw[e]at q2
  exact q2
 ·refine⟨.bl (bs.all id),H,sC I hm,?_,q⟩
  have e:=gR (bs:=bs) its.toArray.size (by have:=rv.length;simp at this ⊢;lia)
  rw[e]
  rfl
theorem Ri(hc:X.calm=true):ID X (.builtin "any") (λxs H Q=>∃(p:wO)(bs:List Bool),xs=[.ref p]/\HJ X.K H p (bs.map V.bl)/\Q (.bl (bs.any id)) H):=by
 intro Fj s σ H xs us Q I r h
 obtain⟨p,bs,rfl,hq,q⟩:=h
 obtain⟨u,rfl,ru⟩:=K5 r
 cases ru
 obtain⟨its,rv,ht,_⟩:=I.list hq
 have hl:=ht.isList
 obtain⟨o,ho,_⟩:=id hl
 have W:=(Walks.list (prog:=X.prog) (w:=X.w) (A:=X.A.in1) (I.ok.hd hc) s.heap.objs.size p (As (AS ho)) its.toArray).toS
 refine call_any_walkS (CG hl ⟨s.heap.objs.size,_,_,_,_,_,_,λi=>bs.getD i false,rfl,W,⟨⟨_,AU _ rfl,rfl,rfl⟩,hl.at λo e=>AC _ e⟩,λi v s2 Q2 E2 hP q2=>?_,λs' hm=>?_⟩)
 ·obtain⟨b,hb,rfl⟩:=U3 rv hP
  refine CY ?_
  have e:bs.getD i false=b:=by rw[Ao,hb];rfl
  have q2:Q2 (bs.getD i false) s2:=q2
  rw[e]at q2
  exact q2
 ·refine⟨.bl (bs.any id),H,sC I hm,?_,q⟩
  have e:=eG (bs:=bs) its.toArray.size (by have:=rv.length;simp at this ⊢;lia)
  rw[e]
  rfl
instance WF:Dat Bool where
 is:=λ_ v b=>v=.bl b
 mono:=λ_ h=>h
 inj:=λh h'=>by rw[h]at h';cases h';rfl
 dep:=0
 eqb:=λa b=>a==b
 eqb_iff:=λa b=>by simp
 eqAt:=λ{X Fj σ H s A v v' u u' a b} I hu h h' r r'=>by
  subst h h'
  cases r
  cases r'
  exact SeqAt.EqAt.bool_bool _ _
theorem Ug{H:Hp}{vs:List V}{bs:List Bool}(i:Hs H vs bs):vs=bs.map V.bl:=by
 induction i with
 |nil=>rfl
 |cons r t ih=>rw[An,<-ih];exact congrArg (· :: _) r
theorem Qk{α:Type}[D:Dat α]{Fj:wF}{σ:St}{H:Hp}{s:wM}{A:Around}{a b:wO}{l m:List α}(I:Inv X Fj σ H s)(hu:A.units+(D.dep+1)<cLine)(ha:Dat.is H (.ref a) l)(hb:Dat.is H (.ref b) m) :
  SeqAt.RcAt A s (.ref a) (.ref b) (JL D.eqb l m)/\SeqAt.RcNeAt A s (.ref a) (.ref b) (!JL D.eqb l m):=by
 obtain⟨p,vs,e,h,i⟩:=ha
 cases e
 obtain⟨p',vs',e',h',i'⟩:=hb
 cases e'
 obtain⟨its,rv,ht,_⟩:=I.tuple (HK.of h)
 obtain⟨its',rv',ht',_⟩:=I.tuple (HK.of h')
 have hl:its.toArray.size=l.length:=by have:=rv.length;have:=AL i;simp;lia
 have hm:its'.toArray.size=m.length:=by have:=rv'.length;have:=AL i';simp;lia
 have q:=Eu (A:=A) (s:=s) (e:=Ko D.eqb l m) (show s.heap.IsTuple a its.toArray from ht) (show s.heap.IsTuple b its'.toArray from ht') (by lia) (S0 I (A:=A.in1) (by show A.units+1+D.dep<cLine;lia) i i' rv rv')
 have q2:=SeqAt.RcNeAt.tuples (A:=A) (s:=s) (e:=Ko D.eqb l m) (show s.heap.IsTuple a its.toArray from ht) (show s.heap.IsTuple b its'.toArray from ht') (by lia) (S0 I (A:=A.in1) (by show A.units+1+D.dep<cLine;lia) i i' rv rv')
 rw[hl,hm,SW]at q q2
 exact⟨q,q2⟩
def fH(α:Type)[Dat α]:R2:=λx y H Q=>∃(l m:List α),Dat.is H x l/\Dat.is H y m/\Q (.bl (JL (Dat.eqb (α:=α)) l m)) H
def mI(α:Type)[Dat α]:R2:=λx y H Q=>∃(l m:List α),Dat.is H x l/\Dat.is H y m/\Q (.bl (!JL (Dat.eqb (α:=α)) l m)) H
theorem PZ{α:Type}[D:Dat α](hu:X.A.units+(D.dep+1)<cLine):IX X (compareOp .Eq) (fH α):=by
 intro Fj s σ H x y v u Q I rx ry h
 obtain⟨l,m,ha,hb,q⟩:=h
 obtain⟨p,_,rfl,_⟩:=id ha
 obtain⟨p',_,rfl,_⟩:=id hb
 cases rx
 cases ry
 exact(Qk I hu ha hb).1 X.prog X.w X.xe _ ⟨.bl _,H,I,rfl,q⟩
theorem pJ{α:Type}[D:Dat α](hu:X.A.units+(D.dep+1)<cLine):IX X (compareOp .NotEq) (mI α):=by
 intro Fj s σ H x y v u Q I rx ry h
 obtain⟨l,m,ha,hb,q⟩:=h
 obtain⟨p,_,rfl,_⟩:=id ha
 obtain⟨p',_,rfl,_⟩:=id hb
 cases rx
 cases ry
 exact(Qk I hu ha hb).2 X.prog X.w X.xe _ ⟨.bl _,H,I,rfl,q⟩
end
end L2.Ev
namespace L2.Pl
noncomputable def Lv(ps pt:wB):Int:=(ps.zip pt).foldl (λv x=>v*x.2^x.1.toNat) 1
theorem sZ{a b:Int}{x y:Nat}(ha:a.natAbs<2^x)(hb:b.natAbs<2^y):(a*b).natAbs<2^(x+y):=by
 rw[EY,D8]
 exact Nat.mul_lt_mul_of_lt_of_lt ha hb
theorem Jb{a:Int}{x y:Nat}(h:a.natAbs<2^x)(hxy:x<=y):a.natAbs<2^y:=Ai h (DW (by decide) hxy)
noncomputable def swp(p:wB)(k:Nat):wB:=p.take k++[p.getD (k+1) 0,p.getD k 0]++p.drop (k+2)
noncomputable def Ie(ts:List Gi)(k:Nat):List Gi:=norm (ts.map λt=>(swp t.1 k,t.2))
theorem Pe{p:wB}{k:Nat}(h:k+1<p.length):(swp p k).length=p.length:=by
 unfold swp
 simp
 lia
theorem mY{p:wB}{k:Nat}(h:k+1<p.length){x:Int}(hx:x∈swp p k):x∈p:=by
 unfold swp at hx
 rcases Aq.mp hx with hx|hx
 ·rcases Aq.mp hx with hx|hx
  ·exact Bp hx
  ·have e1:p.getD (k+1) 0=p[k+1]:=by simp [h]
   have e2:p.getD k 0=p[k]:=by simp [show k<p.length by lia]
   rw[e1,e2]at hx
   rcases AN.mp hx with rfl|hx
   ·exact DV _
   ·rw[Ad.mp hx];exact DV _
 ·exact Gg hx
structure Hu(n b:Nat)(ts:List Gi):Prop where
 len:∀t∈ts,t.1.length=n
 pow:∀t∈ts,∀x∈t.1,0<=x/\x<=8
 num:∀t∈ts,t.2.natAbs<2^b
theorem Hu.ne{n b:Nat}{ts:List Gi}(h:Hu (n+1) b ts):∀t∈ts,t.1≠[]:=λt ht e=>by
 have:=h.len t ht
 rw[e]at this
 simp at this
theorem Hu.mono{n b c:Nat}{ts:List Gi}(h:Hu n b ts)(hbc:b<=c):Hu n c ts:=⟨h.len,h.pow,λt ht=>Jb (h.num t ht) hbc⟩
theorem oH{b:Nat}(p:Pw):∀{ts:List Gi},(∀t∈ts,t.2.natAbs<2^b)->(cf ts p).natAbs<=ts.length*2^b
 |[],_=>by simp [cf]
 |t::r,h=>by
  have ih:=oH p (ts:=r) λx hx=>h x (AM _ hx)
  have h1:=h t (AJ ..)
  simp only[cf]
  have h2:=Int.natAbs_add_le (if t.1=p then t.2 else 0) (cf r p)
  have h3:(if t.1=p then t.2 else (0:Int)).natAbs<=2^b:=by
   split
   ·lia
   ·simp
  rw[Aj,Cz]
  lia
theorem PY{l:List Gi}(c:HU l){t:Gi}(ht:t∈l):cf l t.1=t.2:=by
 induction l with
 |nil=>cases ht
 |cons u l ih =>
  rcases AN.mp ht with e|ht
  ·subst e;exact c.head
  ·have o:=(Ay.mp c.ord).1 t ht
   simp only[cf]
   rw[AD (λe=>by rw[e,KD]at o;cases o),ih c.tail ht]
   lia
theorem Hu.norm{n b k:Nat}{ts:List Gi}(h:Hu n b ts)(hk:ts.length<2^k):Hu n (b+k) (norm ts):=by
 refine⟨λt ht=>?_,λt ht=>?_,λt ht=>?_⟩
 ·obtain⟨u,hu,e⟩:=LK ht
  rw[<-e];exact h.len u hu
 ·obtain⟨u,hu,e⟩:=LK ht
  rw[<-e];exact h.pow u hu
 ·have e:=PY (Jt ts) ht
  rw[KG]at e
  rw[<-e]
  refine BD (oH t.1 h.num) ?_
  rw[D8,Dm]
  exact Er hk (Nat.pow_pos (by decide))
theorem Hu.swp{n b k:Nat}{ts:List Gi}(h:Hu n b ts)(hk:k+1<n):Hu n b (ts.map λt=>(swp t.1 k,t.2)):=by
 refine⟨λt ht=>?_,λt ht=>?_,λt ht=>?_⟩<;>obtain⟨u,hu,rfl⟩:=AY.mp ht
 ·show(Pl.swp u.1 k).length=n
  rw[Pe (by rw[h.len u hu];exact hk),h.len u hu]
 ·intro x hx
  exact h.pow u hu x (mY (by rw[h.len u hu];exact hk) hx)
 ·exact h.num u hu
noncomputable def uY(c k m:Int):Int:=(c%2147483647*48271+69621*k*k+7*k)%2147483629*((c%2147483647*48271+69621*k*k+7*k)%2147483629)%2147483587%m
theorem U1{x:Int}:∀{l:wB},(∀y∈l,0<=y)->x∈l->x<=l.sum/\0<=l.sum
 |[],_,h=>by cases h
 |y::l,hl,h=>by
  have hl':∀z∈l,0<=z:=λz hz=>hl z (AM _ hz)
  have hy:=hl y (AJ ..)
  have s0:0<=l.sum:=by
   have key:∀m:wB,(∀z∈m,0<=z)->0<=m.sum:=by
    intro m
    induction m with
    |nil=>intro _;simp
    |cons a m ih =>
     intro hm
     have:=hm a (AJ ..)
     have:=ih λz hz=>hm z (AM _ hz)
     rw[BX];lia
   exact key l hl'
  rw[BX]
  rcases AN.mp h with rfl|h
  ·lia
  ·have:=(U1 hl' h).1
   lia
noncomputable def Ld(ns:wB)(k:Nat):Int:=if k<ns.length then ns.getD k 0%2147483647 else 0
end L2.Pl
namespace L2.Ev
open PySem
open L2.Pl
theorem JV{c A B:Prop}[Decidable c](h:¬ c)(b:B):if decide c=true then A else B:=by
 rw[AO h]
 exact J4 b
theorem Jq{c A B:Prop}[Decidable c](h:c)(a:A):if decide c=true then A else B:=by
 rw[Ab h]
 exact JP a
theorem mL{c A B:Prop}[Decidable c](h:c)(b:B):if (!decide c)=true then A else B:=by
 rw[Ab h]
 exact J4 b
theorem Xg{c A B:Prop}[Decidable c](h:¬ c)(a:A):if (!decide c)=true then A else B:=by
 rw[AO h]
 exact JP a
end L2.Ev
namespace L2.Pl
noncomputable def sm(f:Pw->Int):List Gi->Int
 |[]=>0
 |t::r=>t.2*f t.1+sm f r
theorem Ta(f:Pw->Int):∀a b:List Gi,sm f (a++b)=sm f a+sm f b
 |[],b=>by simp [sm]
 |t::a,b=>by simp only[List.cons_append,sm];rw[Ta f a b];lia
theorem Rx(f:Pw->Int)(t:Gi):∀l:List Gi,sm f (ins t l)=t.2*f t.1+sm f l
 |[]=>by
  unfold ins
  split
  ·rename_i h
   simp [sm,h]
  ·simp [sm]
 |u::l=>by
  unfold ins
  split
  ·rename_i h
   split
   ·rename_i h2
    simp only[sm]
    rw[<-Int.add_assoc,h,<-HH,HB t.2,h2]
    simp
   ·simp only[sm]
    rw[h,HH]
    lia
  ·split
   ·split
    ·rename_i h
     simp only[sm];rw[h];lia
    ·simp only[sm]
   ·simp only[sm];rw[Rx f t l];lia
theorem Jx(f:Pw->Int):∀ts:List Gi,sm f (norm ts)=sm f ts
 |[]=>rfl
 |t::r=>by
  show sm f (ins t (norm r))=_
  rw[Rx,Jx f r]
  rfl
theorem J5(p:Pw):∀ts:List Gi,cf ts p=sm (λq=>if q=p then 1 else 0) ts
 |[]=>rfl
 |t::r=>by
  simp only[cf,sm]
  rw[J5 p r]
  split<;>simp
theorem Nj{a b:List Gi}(h:∀f,sm f a=sm f b):norm a=norm b:=XD λp=>by rw[J5,J5,h]
theorem NJ{f g:Pw->Int}:∀{ts:List Gi},(∀t∈ts,f t.1=g t.1)->sm f ts=sm g ts
 |[],_=>rfl
 |t::r,h=>by
  simp only[sm]
  rw[h t (AJ ..),NJ λx hx=>h x (AM _ hx)]
theorem Oz(f:Pw->Int)(c:Int):∀ts:List Gi,sm (λp=>f p*c) ts=sm f ts*c
 |[]=>by simp [sm]
 |t::r=>by simp only[sm];rw[Oz f c r,HH,EA]
theorem YT(f:Pw->Int)(c:Int)(ts:List Gi):sm (λp=>c*f p) ts=c*sm f ts:=by
 rw[Int.mul_comm,<-Oz]
 exact NJ λt _=>Int.mul_comm _ _
noncomputable def IM(p q:Pw):Pw:=List.zipWith (· + ·) p q
noncomputable def prd(a b:List Gi):List Gi:=a.flatMap λt=>b.map λu=>(IM t.1 u.1,t.2*u.2)
noncomputable def ngt(a:List Gi):List Gi:=a.map λt=>(t.1,-t.2)
def Jw(a:List Gi)(k:Nat):List Gi:=a.map λt=>(swp t.1 k,t.2)
theorem Oc(f:Pw->Int):∀a:List Gi,sm f (ngt a)=- sm f a
 |[]=>rfl
 |t::r=>by
  have:=Oc f r
  unfold ngt at this ⊢
  rw[An]
  simp only[sm]
  rw[this,Int.neg_mul]
  lia
theorem KQ(f:Pw->Int)(k:Nat):∀a:List Gi,sm f (Jw a k)=sm (λp=>f (swp p k)) a
 |[]=>rfl
 |t::r=>by
  have:=KQ f k r
  unfold Jw at this ⊢
  rw[An]
  simp only[sm]
  rw[this]
theorem R6(f:Pw->Int)(t:Gi):∀b:List Gi,sm f (b.map λu=>(IM t.1 u.1,t.2*u.2))=t.2*sm (λq=>f (IM t.1 q)) b
 |[]=>by simp [sm]
 |u::r=>by
  rw[An]
  simp only[sm]
  rw[R6 f t r,HI,EA]
theorem NU(f:Pw->Int)(b:List Gi):∀a:List Gi,sm f (prd a b)=sm (λp=>sm (λq=>f (IM p q)) b) a
 |[]=>rfl
 |t::r=>by
  have:=NU f b r
  unfold prd at this ⊢
  rw[Bg,Ta,this,R6]
  rfl
theorem Q0{p q:Pw}{n:Nat}(h:p.length=n)(g:q.length=n):(IM p q).length=n:=by
 unfold IM
 rw[List.length_zipWith,h,g,E8]
theorem Pn:∀{p q:Pw},p.length=q.length->(IM p q).sum=p.sum+q.sum
 |[],[],_=>rfl
 |x::p,y::q,h=>by
  have:=Pn (p:=p) (q:=q) (by simpa using h)
  unfold IM at this ⊢
  simp only[DJ,BX]
  rw[this];lia
theorem UN:∀{p q:Pw},(∀x∈p,0<=x)->(∀x∈q,0<=x)->∀x∈IM p q,0<=x
 |[],_,_,_,x,hx=>by simp [IM]at hx
 |_::_,[],_,_,x,hx=>by simp [IM]at hx
 |a::p,b::q,hp,hq,x,hx=>by
  unfold IM at hx
  rw[DJ]at hx
  rcases AN.mp hx with rfl|hx
  ·have:=hp a (AJ ..)
   have:=hq b (AJ ..)
   lia
  ·exact UN (λy hy=>hp y (AM _ hy)) (λy hy=>hq y (AM _ hy)) x hx
theorem YH(l:List (Int×Int)):∀v:Int,l.foldl (λv x=>v*x.2^x.1.toNat) v=v*l.foldl (λv x=>v*x.2^x.1.toNat) 1:=by
 induction l with
 |nil=>intro v;simp
 |cons x l ih =>
  intro v
  rw[Bm,Bm,ih,ih (1*_),Int.one_mul,EA]
theorem QQ(x y:Int)(p pt:wB):Lv (x::p) (y::pt)=y^x.toNat*Lv p pt:=by
 unfold Lv
 rw[Dk,Bm,YH,Int.one_mul]
theorem Ny(x y:Int)(p:wB):swp (x::y::p) 0=y::x::p:=by simp [swp]
theorem Nv(x:Int)(p:wB)(k:Nat):swp (x::p) (k+1)=x::swp p k:=by simp [swp]
theorem qR:∀{k:Nat}{p pt:wB},k+1<p.length->p.length=pt.length->Lv (swp p k) pt=Lv p (swp pt k)
 |0,x::y::p,a::b::pt,_,_=>by
  rw[Ny,Ny,QQ,QQ,QQ,QQ,Int.mul_left_comm]
 |k+1,x::p,a::pt,h1,h2=>by
  rw[Nv,Nv,QQ,QQ,qR (by simpa using h1) (by simpa using h2)]
theorem PU:∀{k:Nat}{p:wB},k+1<p.length->swp (swp p k) k=p
 |0,x::y::p,_=>by rw[Ny,Ny]
 |k+1,x::p,h=>by rw[Nv,Nv,PU (by simpa using h)]
theorem SC:∀{k:Nat}{p q:wB},k+1<p.length->p.length=q.length->swp (IM p q) k=IM (swp p k) (swp q k)
 |0,x::y::p,a::b::q,_,_=>by
  rw[Ny,Ny]
  show swp ((x+a)::(y+b)::IM p q) 0=(y+b)::(x+a)::IM p q
  rw[Ny]
 |k+1,x::p,a::q,h1,h2=>by
  rw[Nv,Nv]
  show swp ((x+a)::IM p q) (k+1)=(x+a)::IM (swp p k) (swp q k)
  rw[Nv,SC (by simpa using h1) (by simpa using h2)]
theorem qB{a b:List Gi}{n k:Nat}(ha:∀t∈a,t.1.length=n)(hb:∀t∈b,t.1.length=n)(hk:k+1<n):norm (Jw (norm (prd a b)) k)=norm (prd (norm (Jw a k)) (norm (Jw b k))):=by
 refine Nj λf=>?_
 rw[KQ,Jx,NU,NU,Jx,KQ]
 refine NJ λt ht=>?_
 rw[Jx,KQ]
 refine NJ λu hu=>?_
 rw[SC (by rw[ha t ht];exact hk) (by rw[ha t ht,hb u hu])]
structure Deg(n d b:Nat)(ts:List Gi):Prop where
 len:∀t∈ts,t.1.length=n
 nn:∀t∈ts,∀x∈t.1,0<=x
 sum:∀t∈ts,t.1.sum<=d
 num:∀t∈ts,t.2.natAbs<2^b
theorem Deg.good{n d b:Nat}{ts:List Gi}(h:Deg n d b ts)(hd:d<=8):Hu n b ts:=by
 refine⟨h.len,λt ht x hx=>⟨h.nn t ht x hx,?_⟩,h.num⟩
 have:=(U1 (h.nn t ht) hx).1
 have:=h.sum t ht
 lia
theorem Deg.mono{n d b d' b':Nat}{ts:List Gi}(h:Deg n d b ts)(hd:d<=d')(hb:b<=b'):Deg n d' b' ts :=
 ⟨h.len,h.nn,λt ht=>by have:=h.sum t ht;lia,λt ht=>Jb (h.num t ht) hb⟩
theorem Deg.app{n d b:Nat}{ts us:List Gi}(h:Deg n d b ts)(q:Deg n d b us):Deg n d b (ts++us) :=
 ⟨λt ht=>(Aq.mp ht).elim (h.len t) (q.len t),λt ht=>(Aq.mp ht).elim (h.nn t) (q.nn t),λt ht=>(Aq.mp ht).elim (h.sum t) (q.sum t),λt ht=>(Aq.mp ht).elim (h.num t) (q.num t)⟩
theorem Deg.norm{n d b k:Nat}{ts:List Gi}(h:Deg n d b ts)(hk:ts.length<2^k):Deg n d (b+k) (Pl.norm ts):=by
 refine⟨λt ht=>?_,λt ht=>?_,λt ht=>?_,λt ht=>?_⟩
 ·obtain⟨u,hu,e⟩:=LK ht
  rw[<-e];exact h.len u hu
 ·obtain⟨u,hu,e⟩:=LK ht
  rw[<-e];exact h.nn u hu
 ·obtain⟨u,hu,e⟩:=LK ht
  rw[<-e];exact h.sum u hu
 ·have e:=PY (Jt ts) ht
  rw[KG]at e
  rw[<-e]
  refine BD (oH t.1 h.num) ?_
  rw[D8,Dm]
  exact Er hk (Nat.pow_pos (by decide))
theorem Deg.ngt{n d b:Nat}{ts:List Gi}(h:Deg n d b ts):Deg n d b (Pl.ngt ts):=by
 refine⟨λt ht=>?_,λt ht=>?_,λt ht=>?_,λt ht=>?_⟩<;>obtain⟨u,hu,rfl⟩:=AY.mp ht
 ·exact h.len u hu
 ·exact h.nn u hu
 ·exact h.sum u hu
 ·show(-u.2).natAbs<_
  rw[Int.natAbs_neg];exact h.num u hu
theorem Deg.prd{n d b d' b':Nat}{ts us:List Gi}(h:Deg n d b ts)(q:Deg n d' b' us):Deg n (d+d') (b+b') (Pl.prd ts us):=by
 have key:∀t∈Pl.prd ts us,∃x∈ts,∃y∈us,t=(IM x.1 y.1,x.2*y.2):=λt ht=>by
  obtain⟨x,hx,ht⟩:=Ba.mp ht
  obtain⟨y,hy,rfl⟩:=AY.mp ht
  exact⟨x,hx,y,hy,rfl⟩
 refine⟨λt ht=>?_,λt ht=>?_,λt ht=>?_,λt ht=>?_⟩<;>obtain⟨x,hx,y,hy,rfl⟩:=key t ht
 ·exact Q0 (h.len x hx) (q.len y hy)
 ·exact UN (h.nn x hx) (q.nn y hy)
 ·show(IM x.1 y.1).sum<=_
  rw[Pn (by rw[h.len x hx,q.len y hy])]
  have:=h.sum x hx
  have:=q.sum y hy
  lia
 ·exact sZ (h.num x hx) (q.num y hy)
theorem Vy(a b:List Gi):(prd a b).length=a.length*b.length:=by
 induction a with
 |nil=>simp [prd]
 |cons t r ih =>
  unfold prd at ih ⊢
  rw[Bg,AI,ih,AB,Aj,Cz,Gz]
theorem XQ(a:List Gi):(ngt a).length=a.length:=by unfold ngt;rw[AB]
theorem QZ:∀{p a q:Pw}{n:Nat},p.length=n->a.length=n->q.length=n->Hv p a=true->Hv (IM p q) (IM a q)=true
 |[],[],_,_,_,_,_,h=>by simp [Hv]at h
 |[],_::_,_,_,h1,h2,_,_=>by simp at h1 h2;lia
 |_::_,[],_,_,h1,h2,_,_=>by simp at h1 h2;lia
 |_::_,_::_,[],_,h1,_,h3,_=>by simp at h1 h3;lia
 |x::p,y::a,z::q,n,h1,h2,h3,h=>by
  unfold IM
  simp only[DJ,Hv]at h ⊢
  simp only[Aj]at h1 h2 h3
  by_cases e:x=y
  ·subst e
   rw[AF rfl]at h ⊢
   exact QZ (n:=p.length) rfl (by lia) (by lia) h
  ·rw[AD e]at h
   have:=BB h
   rw[AD (by lia)]
   exact Ab (by lia)
theorem Rh:∀p q:Pw,IM p q=IM q p
 |[],[]=>rfl
 |[],_::_=>rfl
 |_::_,[]=>rfl
 |x::p,y::q=>by
  have:=Rh p q
  unfold IM at this ⊢
  simp only[DJ]
  rw[this,HB]
structure Top(f:List Gi)(a:Pw)(x:Int):Prop where
 at_:cf f a=x
 top:∀t∈f,t.1=a∨Hv t.1 a=true
theorem Top.norm{f:List Gi}{a:Pw}{x:Int}(h:Top f a x):Top (norm f) a x:=⟨by rw[KG];exact h.at_,λt ht=>by
 obtain⟨u,hu,e⟩:=LK ht
 rw[<-e]
 exact h.top u hu⟩
theorem TV{t:Gi}{r:List Gi}(c:HU (t::r)):Top (t::r) t.1 t.2:=⟨c.head,λu hu=>by
 rcases AN.mp hu with rfl|hu
 ·exact .inl rfl
 ·exact .inr ((Ay.mp c.ord).1 u hu)⟩
theorem Top.prd{f g:List Gi}{a b:Pw}{x y:Int}{n:Nat}(hf:Top f a x)(hg:Top g b y)(lf:∀t∈f,t.1.length=n)(lg:∀t∈g,t.1.length=n)(la:a.length=n)(lb:b.length=n):Top (prd f g) (IM a b) (x*y):=by
 have cmp:∀t∈f,∀u∈g,IM t.1 u.1=IM a b/\t.1=a/\u.1=b∨Hv (IM t.1 u.1) (IM a b)=true/\¬ (t.1=a/\u.1=b):=λt ht u hu=>by
  rcases hf.top t ht with e|e<;>rcases hg.top u hu with e'|e'
  ·exact .inl ⟨by rw[e,e'],e,e'⟩
  ·refine .inr ⟨?_,λz=>by rw[z.2,KD]at e';cases e'⟩
   rw[e,Rh a,Rh a]
   exact QZ (lg u hu) lb la e'
  ·refine .inr ⟨?_,λz=>by rw[z.1,KD]at e;cases e⟩
   rw[e']
   exact QZ (lf t ht) la lb e
  ·refine .inr ⟨?_,λz=>by rw[z.1,KD]at e;cases e⟩
   refine Mx (QZ (lf t ht) la (lg u hu) e) ?_
   rw[Rh a,Rh a]
   exact QZ (lg u hu) lb la e'
 refine⟨?_,λt ht=>?_⟩
 ·rw[J5,NU,<-hf.at_,<-hg.at_,J5 a,J5 b,<-Oz]
  refine NJ λt ht=>?_
  rw[<-YT (λq=>if q=b then 1 else 0)]
  refine NJ λu hu=>?_
  rcases cmp t ht u hu with⟨e,e1,e2⟩|⟨e,e1⟩
  ·rw[AF e,AF e1,AF e2];rfl
  ·rw[AD (λz=>by rw[z,KD]at e;cases e)]
   by_cases c:t.1=a
   ·rw[AF c,AD (λz=>e1 ⟨c,z⟩)];rfl
   ·rw[AD c];simp
 ·obtain⟨u,hu,ht⟩:=Ba.mp ht
  obtain⟨v,hv,rfl⟩:=AY.mp ht
  rcases cmp u hu v hv with⟨e,_⟩|⟨e,_⟩
  ·exact .inl e
  ·exact .inr e
def Hc(n:Nat)(f:List Gi):Prop:=∀k,k+1<n->norm (Jw f k)=norm f
theorem Hc.norm{n:Nat}{f:List Gi}(h:Hc n f):Hc n (norm f):=λk hk=>by
 rw[UJ (Jt f)]
 exact(Nj λF=>by rw[KQ,Jx,KQ]).trans (h k hk)
theorem kM{n:Nat}{a b:List Gi}(ha:Hc n a)(hb:Hc n b)(la:∀t∈a,t.1.length=n)(lb:∀t∈b,t.1.length=n):Hc n (prd a b):=λk hk=>by
 have h:=qB la lb hk
 rw[ha k hk,hb k hk]at h
 have e1:L2.Pl.norm (Jw (L2.Pl.norm (prd a b)) k)=L2.Pl.norm (Jw (prd a b) k):=Nj λF=>by rw[KQ,Jx,KQ]
 have e2:L2.Pl.norm (prd (L2.Pl.norm a) (L2.Pl.norm b))=L2.Pl.norm (prd a b):=Nj λF=>by
  rw[NU,Jx,NU]
  exact NJ λt _=>Jx _ _
 rw[<-e1,h,e2]
theorem Hc.congr{n:Nat}{f g:List Gi}(h:Hc n f)(e:L2.Pl.norm f=L2.Pl.norm g):Hc n g:=λk hk=>by
 rw[<-e,<-h k hk]
 exact Nj λF=>by rw[KQ,KQ,<-Jx _ f,e,Jx]
noncomputable def scl(c:Int)(f:List Gi):List Gi:=f.map λt=>(t.1,c*t.2)
theorem NR(F:Pw->Int)(c:Int):∀f:List Gi,sm F (scl c f)=c*sm F f
 |[]=>by simp [scl,sm]
 |t::r=>by
  have:=NR F c r
  unfold scl at this ⊢
  rw[An]
  simp only[sm]
  rw[this,HI,EA]
theorem ND(c:Int)(f:List Gi):(scl c f).length=f.length:=AB _
theorem WR{n:Nat}{f g:List Gi}(hf:Hc n f)(hg:Hc n g):Hc n (f++g):=λk hk=>Nj λF=>by
 have h1:=congrArg (sm F) (hf k hk)
 have h2:=congrArg (sm F) (hg k hk)
 rw[Jx,Jx]at h1 h2
 have e:Jw (f++g) k=Jw f k++Jw g k:=Az
 rw[e,Ta,Ta,h1,h2]
theorem X7{n:Nat}{f:List Gi}(c:Int)(hf:Hc n f):Hc n (scl c f):=λk hk=>Nj λF=>by
 have h1:=congrArg (sm λp=>F p) (hf k hk)
 rw[Jx,Jx,KQ]at h1
 rw[KQ,NR,NR,h1]
theorem To{n:Nat}{f:List Gi}(hf:Hc n f):Hc n (ngt f):=λk hk=>Nj λF=>by
 have h1:=congrArg (sm λp=>F p) (hf k hk)
 rw[Jx,Jx,KQ]at h1
 rw[KQ,Oc,Oc,h1]
theorem VF:∀{k:Nat}{a:Pw},k+1<a.length->a.getD k 0<a.getD (k+1) 0->Hv a (swp a k)=true
 |0,x::y::a,_,h=>by
  rw[Ny]
  simp at h
  simp only[Hv]
  rw[AD (by lia)]
  exact Ab h
 |k+1,x::a,hk,h=>by
  rw[Nv]
  simp only[Hv]
  rw[AF trivial]
  exact VF (by simpa using hk) (by simpa using h)
 |0,[],hk,_=>by simp at hk
 |0,[_],hk,_=>by simp at hk
 |k+1,[],hk,_=>by simp at hk
theorem rF{n k:Nat}{t:Gi}{r:List Gi}(c:HU (t::r))(h:Hc n (t::r))(l:∀u∈t::r,u.1.length=n)(hk:k+1<n):t.1.getD (k+1) 0<=t.1.getD k 0:=by
 refine Int.not_lt.mp λz=>?_
 have lt:=l t (AJ ..)
 have g:=VF (a:=t.1) (k:=k) (by lia) z
 have e:cf (t::r) (swp t.1 k)=t.2:=by
  have h1:cf (norm (Jw (t::r) k)) (swp t.1 k)=cf (norm (t::r)) (swp t.1 k):=by rw[h k hk]
  rw[KG,KG]at h1
  rw[<-h1,J5,KQ,<-c.head,J5]
  refine NJ λu hu=>?_
  by_cases e:u.1=t.1
  ·rw[AF e,AF (by rw[e])]
  ·rw[AD e,AD λz=>e ?_]
   have:=congrArg (swp · k) z
   rwa [PU (by rw[l u hu];exact hk),PU (by lia)]at this
 have z2:cf (t::r) (swp t.1 k)=0:=NF λu hu e2=>by
  rcases (TV c).top u hu with e3|e3
  ·rw[<-e2,e3,KD]at g;cases g
  ·rw[<-e2]at g
   have:=Mx e3 g
   rw[KD]at this;cases this
 exact c.num t (AJ ..) (by lia)
theorem cV{left E:List Gi}{p:Pw}{x:Int}(h:Top left p x)(hE:Top E p 1):∀t∈norm (left++ngt (scl x E)),Hv t.1 p=true:=λt ht=>by
 obtain⟨u,hu,e⟩:=LK ht
 have le:t.1=p∨Hv t.1 p=true:=by
  rw[<-e]
  rcases Aq.mp hu with hu|hu
  ·exact h.top u hu
  ·obtain⟨v,hv,rfl⟩:=AY.mp hu
   obtain⟨v',hv',rfl⟩:=AY.mp hv
   exact hE.top v' hv'
 rcases le with e1|e1
 ·have c0:cf (norm (left++ngt (scl x E))) p=0:=by
   rw[KG,Oy,h.at_,J5 p (ngt (scl x E)),Oc,NR,<-J5,hE.at_]
   lia
  have:=PY (Jt _) ht
  rw[e1,c0]at this
  exact absurd this.symm ((Jt _).num t ht)
 ·exact e1
theorem aX{n:Nat}{left E:List Gi}{x:Int}(h:Hc n left)(hE:Hc n E):Hc n (norm (left++ngt (scl x E))):=(WR h (To (X7 x hE))).norm
noncomputable def key:Pw->Nat
 |[]=>0
 |x::p=>x.toNat*9^p.length+key p
def Ak(a b:List Gi):Prop:=∀f:Pw->Int,sm f a=sm f b
theorem Ak.symm{a b:List Gi}(h:Ak a b):Ak b a:=λf=>(h f).symm
theorem Ak.trans{a b c:List Gi}(h:Ak a b)(g:Ak b c):Ak a c:=λf=>(h f).trans (g f)
theorem Ak.norm(a:List Gi):Ak (norm a) a:=λf=>Jx f a
theorem Ak.scl{a b:List Gi}(c:Int)(h:Ak a b):Ak (L2.Pl.scl c a) (L2.Pl.scl c b):=λf=>by rw[NR,NR,h]
theorem Ak.prd{a b c d:List Gi}(h:Ak a b)(g:Ak c d):Ak (L2.Pl.prd a c) (L2.Pl.prd b d):=λf=>by
 rw[NU,NU,h]
 congr 1
 funext p
 exact g _
def vN(n:Nat):List Gi:=[(List.replicate n 0,1)]
noncomputable def uO(h:Int->List Gi)(n:Nat)(r:wB):List Gi:=r.foldr (λk acc=>prd (h k) acc) (vN n)
noncomputable def hv(h:Int->List Gi)(n:Nat)(T:List Gi):List Gi:=T.flatMap λt=>scl t.2 (uO h n t.1)
noncomputable def Jh(d:wB->wB)(S T:List Gi):List Gi:=S.flatMap λt=>T.map λu=>(d (t.1++u.1),t.2*u.2)
end L2.Pl
namespace L2.Ev
open PySem
open L2.Pl
structure Hl(P:wP)(w:wQ)(K:wL)(mg:Str->wI)(base:Heap)(k:Nat)(x:Str)(ps:wG)(sp:Sp) where
 f:wO
 fd:wR
 ok:Gx P w K mg base Ho k f fd ps sp
 bd:Hy K fd ps []
 kp:W.keepIn K (.ref f)=true
 at_:mg x=some (.ref f)
noncomputable def Hl.lift{P:wP}{w:wQ}{K:wL}{mg:Str->wI}{base:Heap}{j k:Nat}{x:Str}{ps:wG}{sp:Sp}(G:Hl P w K mg base j x ps sp)(h:j<=k):Hl P w K mg base k x ps sp:=⟨G.f,G.fd,G.ok.mono h,G.bd,G.kp,G.at_⟩
noncomputable def Hl.ql{P:wP}{w:wQ}{K:wL}{mg:Str->wI}{base:Heap}{j k:Nat}{x:Str}{ps:wG}{sp:Sp}(G:Hl P w K mg base j x ps sp)(h:j<=k:=by decide):Hl P w K mg base k x ps sp:=G.lift h
theorem Hm{X:Cx}{k:Nat}{x:Str}{ps:wG}{sp:Sp}{p pos:Pos}{e:Expr}{es:wJ}{t:TA}(G:Hl X.prog X.w X.K X.mg X.base k x ps sp)(hr:Hq k X.A)(hg:Gl X x)
  (ha:PA X (e::es) t) (hdb:(x==("__debug__" : Str))=false:=by decide) (he:starEach (e::es) X.env=(false,eval e X.env)::starEach es X.env:=by rfl) (hpl:(backTo pos (starEach es X.env)).any (·.1)=false:=by rfl) :
  PE X (.Call (.Name x p) (e::es) [] pos) (Ol sp [] E0 t):=Px G.ok hr hg G.at_ G.kp G.bd .nil Ou ha hdb he hpl
theorem KZ{α:Type}[D:Dat α](l:List α):JL (Dat.eqb (α:=α)) l l=true:=(QO Dat.eqb_iff _ _).mpr rfl
end L2.Ev
namespace L2.Ev
open PySem PyProof.Rows
open L2.Pl
end L2.Ev
namespace L2.Ev
open PySem
open L2.Pl
set_option maxHeartbeats 4000000
end L2.Ev
namespace L2.Ev
open PySem PySem.Spec PyProof.Rows
open PySem.W PySem.Calls
def VZ(h:Heap)(e:wO)(od:Option wO):Prop:=∃ob,h.get? e=some ob/\ob.dict=od
theorem eC{o:Obj}{f:wK->wK}:(Obj.mapFields f o).dict=o.dict:=by
 obtain⟨_,_,da,_⟩:=o
 cases da<;>rfl
def MJ(base:Heap)(l:List Env)(e:wO)(cls a0:wN)(od:Option wO)(h:Heap):Prop:=Heap.FlyingW base l e cls a0 h/\VZ h e od
section
variable{M:Model}{A:Around}{E:wD}{s:wM}
theorem TZ{base:Heap}{env:Env}{outer:List Env}{L e:wO}{oe:Obj}{vs:wK}{head a0:wN}{hadNext:Bool}{Q:Unit->wM->Prop}
  (hfr:A.frames=some (env::outer)) (hl:s.heap.FunFrames base (env::outer)) (hf:env.frame=some L)
  (he:s.heap.get? e=some oe) (hkb:base.StaysIn s.heap) (hen:base.get? e=none) (hd:oe.data=.fields vs) (hsz:1<vs.size) (h0:vs[0]?=some a0)
  (h:∀h',Heap.NotedW base (env::outer) e oe.cls a0 (rawInt L) s.heap h'->VZ h' e oe.dict->Q () { s with heap:=h' }) :
  wpAny M A (do let a <-frameOf env;let pl <-entryPlaceOf L hadNext;let b <-EntryCells.newEntry head a .none (rawInt L) .none pl;setField (.ref e) 1 b) Q E s:=by
 have nfr:e∉(env::outer).filterMap (·.frame):=λhm=>by
  obtain⟨_,o,ho,hnf⟩:=hl.mem hm
  rw[he]at ho;cases ho;exact hnf vs hd
 refine AA (wpAny_frameOf_fun hfr hl hf λh1 hs=>AA (wpAny_entryPlaceOf λpl hpl=>?_))
 have e1:h1.get? e=some oe:=(hs.2.1 e nfr).trans he
 have k1:base.StaysIn h1:=λb o z=>(hs.2.1 b λhm=>by rw[(hl.mem hm).1]at z;cases z).trans (hkb b o z)
 have Te:h1.objs.size≠e:=B8 (AS e1)
 unfold EntryCells.newEntry newFields
 refine AA (BF ?_ (hpl.sizeOk5 _ _ _ _ _))
 generalize hrec:([head,.ref L,.none,rawInt L,.none]++(if pl.isEmpty then List.replicate 6 Value.none else pl)).toArray=rec
 have r3:rec[3]?=some (rawInt L):=by
  rw[<-hrec]
  simp
 have e2:=AC (h:=h1) { cls:=.type "traceback",dict:=none,data:=.fields rec } e1
 have T2:(h1.push { cls:=.type "traceback",dict:=none,data:=.fields rec }).get? h1.objs.size=some { cls:=.type "traceback",dict:=none,data:=.fields rec }:=AU h1 rfl
 generalize hp2:h1.push { cls:=.type "traceback",dict:=none,data:=.fields rec }=h2 at e2 T2
 have old2:∀b o,h1.get? b=some o->h2.get? b=some o:=λb o z=>by rw[<-hp2];exact AC _ z
 have d3:=CL hd (·.setIfInBounds 1 (Value.ref h1.objs.size))
 have e3:=BR (Obj.mapFields (·.setIfInBounds 1 (Value.ref h1.objs.size))) e2 (Cq d3)
 have T3:=(A4 h2 (Obj.mapFields (·.setIfInBounds 1 (Value.ref h1.objs.size))) (B7 Te)).trans T2
 have keep:∀b o,b≠e->h1.get? b=some o->(h2.update e (Obj.mapFields (·.setIfInBounds 1 (Value.ref h1.objs.size)))).get? b=some o:=λb o hb z=>(A4 _ _ (B7 hb)).trans (old2 b o z)
 have nrec:∀b o,s.heap.get? b=some o->(∀vs,o.data≠.fields vs)->b≠e:=λb o z hnf q=>by
  rw[q,he]at z;cases z;exact hnf vs hd
 refine Cg e2 hd hsz (h _ ⟨λb o z=>keep b o (λq=>by rw[q,hen]at z;cases z) (k1 b o z),hl.of_keeps λb o z hnf=>?_,?_,λb o z hnf=>?_⟩ ⟨_,e3,eC⟩)
 ·obtain⟨sl,q⟩:=hs.2.2 b o z
  exact⟨_,keep b _ (nrec b o z hnf) q,rfl⟩
 ·exact⟨_,_,h1.objs.size,_,_,e3,⟨D0 _ _,by rw[C6 (by decide)];exact h0⟩,d3,by simp [hsz],k1.fresh,Te,T3,rfl,r3⟩
 ·obtain⟨sl,q⟩:=hs.2.2 b o z
  exact⟨sl,keep b _ (nrec b o z hnf) q⟩
theorem P5{base:Heap}{l:List Env}{e:wO}{cls a0 fl:wN}{od:Option wO}{Q:Unit->wM->Prop}
  (hkb:base.StaysIn s.heap) (hen:base.get? e=none) (hl:s.heap.FunFrames base l) (ht:s.heap.TracedAtW base e cls a0 fl) (hd0:VZ s.heap e od)
  (h:∀h',MJ base l e cls a0 od h'->s.heap.UpToSlots h'->Q () { s with heap:=h' }):wpAny M A (setFlight (.ref e) none) Q E s:=by
 obtain⟨oe,vs,T,oT,ts,he,hcls,hd,h1,hnT,hTe,hT,hdT,h3⟩:=ht
 obtain⟨ob,hob,hod⟩:=hd0
 rw[he]at hob
 cases hob
 have z3:3<ts.size:=(Bj.mp h3).1
 have dT:=CL hdT (·.setIfInBounds 3 ((none:Option wO).elim Value.none λf=>rawInt f))
 have oth:∀b,b≠T->(s.heap.update T (Obj.mapFields (·.setIfInBounds 3 ((none:Option wO).elim Value.none λf=>rawInt f)))).get? b=s.heap.get? b:=λb hb=>A4 _ _ (B7 hb)
 have nrec:∀b o,s.heap.get? b=some o->(∀vs,o.data≠.fields vs)->b≠T:=λb o hb hnf q=>by
  rw[q,hT]at hb;cases hb;exact hnf ts hdT
 have he':=(oth e (B7 hTe)).trans he
 unfold setFlight
 refine AA (BG he hd h1 ?_)
 rw[AF (show(Value.ref T != Value.none)=true from by simp)]
 refine Cg hT hdT z3 (h _ ⟨⟨λb o z=>(oth b λq=>by rw[q,hnT]at z;cases z).trans (hkb b o z),hen,hl.of_keeps λb o hb hnf=>⟨o,(oth b (nrec b o hb hnf)).trans hb,rfl⟩,?_⟩,⟨oe,he',hod⟩⟩ λb o hb hnf=>⟨o.slots,(oth b (nrec b o hb hnf)).trans hb⟩)
 exact⟨oe,vs,T,_,_,he',hcls,hd,h1,hnT,hTe,BR _ hT (Cq dT),dT,by simp [z3]⟩
theorem OL{base:Heap}{env:Env}{outer:List Env}{L e:wO}{cls a0:wN}{od:Option wO}{Q:Unit->wM->Prop}
  (hfr:A.frames=some (env::outer)) (hf:env.frame=some L) (hfl:MJ base (env::outer) e cls a0 od s.heap)
  (h:∀h',Heap.HeldW base (env::outer) e cls a0 L h'->VZ h' e od->s.heap.UpToSlots h'->Q () { s with heap:=h' }):wpAny M A (noteFrame (.ref e) env) Q E s:=by
 obtain⟨⟨f1,f2,f3,oe,vs,T,oT,ts,he,⟨hcls,h0⟩,hd,h1,hnT,hTe,hT,hdT,h3⟩,od',hod,hdd⟩:=hfl
 rw[he]at hod
 cases hod
 subst hcls hdd
 unfold noteFrame
 simp only[hf]
 refine AA (BG he hd h1 ?_)
 rw[AF (show(Value.ref T != Value.none)=true from by simp)]
 refine AA (BG hT hdT h3 ?_)
 rw[AD (show ¬ ((Value.none==rawInt L)=true) from by simp [rawInt])]
 refine AA (Cg hT hdT (Bj.mp h3).1 ?_)
 have oth:∀b,b≠T->(s.heap.update T (Obj.mapFields (·.setIfInBounds 3 Value.none))).get? b=s.heap.get? b:=λb hb=>A4 _ _ (B7 hb)
 have nrec:∀b o,s.heap.get? b=some o->(∀vs,o.data≠.fields vs)->b≠T:=λb o hb hnf q=>by
  rw[q,hT]at hb;cases hb;exact hnf ts hdT
 refine TZ hfr (f3.of_keeps λb o hb hnf=>⟨o,(oth b (nrec b o hb hnf)).trans hb,rfl⟩) hf ((oth e (B7 hTe)).trans he)
  (λb o z=>(oth b λq=>by rw[q,hnT]at z;cases z).trans (f1 b o z)) f2 hd (Bj.mp h1).1 h0 λh' ⟨x1,x2,x3,x4⟩ xd=>?_
 exact h h' ⟨x1,f2,x2,x3⟩ xd λb o hb hnf=>x4 b o ((oth b (nrec b o hb hnf)).trans hb) hnf
theorem X6{base:Heap}{env:Env}{outer:List Env}{L e:wO}{cls a0:wN}{od:Option wO}{Q:Unit->wM->Prop}
  (hfr:A.frames=some (env::outer)) (hf:env.frame=some L) (hfl:MJ base (env::outer) e cls a0 od s.heap)
  (hQ:∀h',MJ base outer e cls a0 od h'->s.heap.UpToSlots h'->Q () { s with heap:=h' }):wpAny M A (leaving env (.ref e)) Q E s:=by
 unfold leaving
 refine AA (OL hfr hf hfl λh1 ⟨k1,k2,k3,k4⟩ kd sm=>P5 (s:={ s with heap:=h1 }) k1 k2 k3 k4 kd λh2 ⟨⟨x1,x2,⟨_,_,x3⟩,x4⟩,xd⟩ sm2=>?_)
 exact hQ h2 ⟨⟨x1,x2,x3,x4⟩,xd⟩ (sm.trans sm2)
theorem Td{base:Heap}{env:Env}{outer:List Env}{L e:wO}{oe:Obj}{vs:wK}{a0:wN}{Q:Unit->wM->Prop}
  (hfr:A.frames=some (env::outer)) (hl:s.heap.FunFrames base (env::outer)) (hf:env.frame=some L)
  (he:s.heap.get? e=some oe) (hkb:base.StaysIn s.heap) (hen:base.get? e=none) (hd:oe.data=.fields vs) (h1:vs[1]?=some .none) (h0:vs[0]?=some a0)
  (hQ:∀h',MJ base outer e oe.cls a0 oe.dict h'->s.heap.UpToSlots h'->Q () { s with heap:=h' }):wpAny M A (leaving env (.ref e)) Q E s:=by
 unfold leaving noteFrame
 simp only[hf]
 refine AA (AA (BG he hd h1 ?_))
 rw[AD (by decide)]
 refine TZ hfr hl hf he hkb hen hd (Bj.mp h1).1 h0 λh1 ⟨k1,k3,k4,sm⟩ kd=>P5 (s:={ s with heap:=h1 }) k1 hen k3 k4 kd λh2 ⟨⟨x1,x2,⟨_,_,x3⟩,x4⟩,xd⟩ sm2=>?_
 exact hQ h2 ⟨⟨x1,x2,x3,x4⟩,xd⟩ (Heap.UpToSlots.trans sm sm2)
end
end L2.Ev
namespace L2.Ev
open PySem PySem.Spec PyProof.Rows
open L2.Pl
theorem HR.got{P:wP}{w:wQ}{H:Hp}{h:Heap}{a:wO}{o:HO}(x:HR P w H h a o):∃ob,h.get? a=some ob:=by
 cases o with
 |lst xs=>obtain⟨_,_,_,_,e⟩:=x;exact⟨_,e⟩
 |tup xs=>obtain⟨_,_,_,ob,e,_⟩:=x;exact⟨_,e⟩
 |dK kvs=>obtain⟨_,_,_,_,o,_,_,e,_⟩:=x;exact⟨_,e⟩
 |dT kvs=>obtain⟨_,_,_,_,o,_,_,e,_⟩:=x;exact⟨_,e⟩
 |set S n=>obtain⟨o,_,_,_,e,_⟩:=x;exact⟨_,e⟩
 |ins C dx fs=>obtain⟨_,_,_,e,_⟩:=x;exact⟨_,e⟩
 |own y=>exact x
 |xd fs=>obtain⟨_,⟨_,_,_,e,_⟩,_⟩:=x;exact⟨_,e⟩
 |rng lo hi=>obtain⟨_,_,_,e⟩:=x;exact⟨_,e⟩
 |frz ob u=>obtain⟨e,_⟩:=x;exact⟨_,e⟩
 |tbl ps=>exact⟨_,(show h.get? a=some _ from x)⟩
 |met f y=>exact⟨_,(show h.get? a=some _ from x)⟩
 |ext φ=>obtain⟨_,e,_⟩:=x;exact e
structure Bs(l:List Env)(H:Hp)(h:Heap)(H':Hp)(B:Heap):Prop where
 old:∀b o,h.get? b=some o->b∉IZ l->∃o',B.get? b=some o'/\(H b=none->o'=o)
 trk:∀b u,H' b=some u->∃o,B.get? b=some o
structure tS(P:wP)(w:wQ)(l:List Env)(H:Hp)(s:wM)(a:wO)(cls a0:wN)(od:Option wO)(H':Hp)(s':wM):Prop where
 os:s'.os=s.os
 bare:AllBare s'.gens
 un:Un (IZ l) [] H H' s.heap s'.heap
 hok:IU P w H' s'.heap
 fly:∃B,Bs l H s.heap H' B/\MJ B l a cls a0 od s'.heap
def IB(P:wP)(w:wQ):Jy:=λl H s E e s'=>∃a cls a0 od H',e=.ref a/\tS P w l H s a cls a0 od H' s'/\E cls od H'
section
variable{X:Cx}{Fj:wF}{σ:St}{H H':Hp}{s s':wM}{B:Heap}
theorem QP(I:Inv X Fj σ H s)(os:s'.os=s.os)(bare:AllBare s'.gens)(un:Un (IZ X.stack) [] H H' s.heap s'.heap)(hok:IU X.prog X.w H' s'.heap)(bs:Bs X.stack H s.heap H' B)(st0:B.StaysIn s'.heap){h':Heap}(st:B.StaysIn h')(sm:s'.heap.UpToSlots h') :
  Inv X Fj σ H' { s' with heap:=h' }:=by
 have fr:∀b o,s.heap.get? b=some o->b∈IZ X.stack->∀vs,o.data≠.fields vs:=λb o e hb=>by
  obtain⟨_,o',e',d⟩:=I.stack.mem hb
  rw[e]at e';cases e'
  exact d
 have slot:∀b o,s.heap.get? b=some o->b∈IZ X.stack->∃sl,h'.get? b=some { o with slots:=sl }:=λb o e hb=>by
  obtain⟨sl,e1⟩:=un.slot b o e (I.stkFree b hb) hb (by simp)
  obtain⟨sl2,e2⟩:=sm b _ e1 (fr b o e hb)
  exact⟨sl2,e2⟩
 refine I.call' (s':={ s' with heap:=h' }) (ch:=[]) os ⟨λb o e n hb _=>?_,λb o e n hb _=>slot b o e hb,un.free,λb o e _=>?_,un.tups,un.frzs,un.tbls⟩ (λb u e=>?_) bare λb hb=>by simp at hb
 ·obtain⟨o',e1,e2⟩:=bs.old b o e hb
  rw[e2 n]at e1
  exact st _ _ e1
 ·by_cases hb:b∈IZ X.stack
  ·obtain⟨sl,e1⟩:=slot b o e hb
   exact⟨_,e1⟩
  ·obtain⟨o',e1,_⟩:=bs.old b o e hb
   exact⟨o',st _ _ e1⟩
 ·have key:∀c v u',H' c=some u'->s'.heap.get? c=some v->h'.get? c=some v:=λc v u' hc q=>by
   obtain⟨o,e1⟩:=bs.trk c u' hc
   have:=st0 _ _ e1
   rw[q]at this
   cases this
   exact st _ _ e1
  refine(hok b u e).stay (λc v hc q=>?_) (λ_ q=>q) λ_ _ q=>q
  rcases hc with z|z
  ·subst z;exact key c v u e q
  ·exact key c v _ z q
end
section
variable{P:wP}{w:wQ}{K:wL}{mg:Str->wI}{base:Heap}{N:wG}{qual:Str}{scope:Scope}{f:wO}{HQ:wN}{A:Around}{outer:List Env}{s0:wM}{H0:Hp}{E:XK}
theorem Tp{Fj:wF}{σ:St}{H H':Hp}{s s':wM}{B:Heap}{a:wO}{cls a0:wN}{od:Option wO}(I:Inv (I0 (IB P w) P w K mg base N qual scope f HQ A outer s0 H0 E) Fj σ H s)(I':Inv (I0 (IB P w) P w K mg base N qual scope f HQ A outer s0 H0 E) Fj σ H' s')
  (bs:Bs (I0 (IB P w) P w K mg base N qual scope f HQ A outer s0 H0 E).stack H s.heap H' B) (fl:MJ B outer a cls a0 od s'.heap):tS P w outer H0 s0 a cls a0 od H' s':=by
 refine⟨I'.os,I'.bare,I'.base,I'.hok,B,⟨λb o e hb=>?_,bs.trk⟩,fl⟩
 obtain⟨o1,e1⟩:=I.base.there b o e (by show b∉([]:wH);simp)
 have hL:b∉IZ (I0 (IB P w) P w K mg base N qual scope f HQ A outer s0 H0 E).stack:=λz=>by
  rcases AN.mp (I.stkSub b z) with z|z
  ·have:=I.ok.above
   have:=AS e
   rw[z]at this
   exact absurd (Ai this I.ok.above) (B3 _)
  ·exact hb z
 obtain⟨o2,e2,e3⟩:=bs.old b o1 e1 hL
 refine⟨o2,e2,λn=>?_⟩
 have k:=I.base.keep b o e n hb (by show b∉([]:wH);simp)
 rw[e1]at k
 cases k
 exact e3 (I.base.free b o e n (by show b∉([]:wH);simp))
theorem Je:Nr (IB P w) (I0 (IB P w) P w K mg base N qual scope f HQ A outer s0 H0 E) E:=by
 rintro Fj σ H s e s' I ⟨a,cls,a0,od,H',rfl,F,hE⟩
 obtain⟨os,bare,un,hok,B,bs,fl⟩:=F
 show wpAny _ _ (leaving _ (.ref a)) _ _ s'
 refine X6 (outer:=outer) I.ok.frames rfl fl λh' fl' sm=>?_
 have I':=QP I os bare un hok bs fl.1.1 fl'.1.1 sm
 exact⟨a,cls,a0,od,H',rfl,Tp I I' bs fl',hE⟩
def Rs(X:Cx)(E:XK):Prop:=∀(Fj:wF)(σ:St)(H:Hp)(s:wM)(h2:Heap)(e C:wO)(vs:wC),Inv X Fj σ H s->Heap.MadeExcOf s.heap h2 e (.ref C) vs->E (.ref C) none H->X.xe (.ref e) { s with heap:=h2 }
theorem R1:Rs (I0 (IB P w) P w K mg base N qual scope f HQ A outer s0 H0 E) E:=by
 intro Fj σ H s h2 e C vs I hx hE
 show wpAny _ _ (leaving _ (.ref e)) _ _ _
 have hin:∀env∈(I0 (IB P w) P w K mg base N qual scope f HQ A outer s0 H0 E).stack,∀b,env.frame=some b->b∈IZ (I0 (IB P w) P w K mg base N qual scope f HQ A outer s0 H0 E).stack:=λenv he b hb=>C9.mpr ⟨env,he,hb⟩
 have bs:Bs (I0 (IB P w) P w K mg base N qual scope f HQ A outer s0 H0 E).stack H s.heap H (W.hideAll s.heap (IZ (I0 (IB P w) P w K mg base N qual scope f HQ A outer s0 H0 E).stack)):=by
  refine⟨λb o e hb=>⟨o,ES _ e hb,λ_=>rfl⟩,λb u e=>?_⟩
  obtain⟨o,q⟩:=HR.got (I.hok b u e)
  exact⟨o,ES _ q λz=>by rw[I.stkFree b z]at e;cases e⟩
 have st0:(W.hideAll s.heap (IZ (I0 (IB P w) P w K mg base N qual scope f HQ A outer s0 H0 E).stack)).StaysIn h2:=λb o q=>hx.keeps b o (Ec _ q)
 obtain⟨t,he,htn,ht⟩:=hx.there
 have hen:(W.hideAll s.heap (IZ (I0 (IB P w) P w K mg base N qual scope f HQ A outer s0 H0 E).stack)).get? e=none:=by
  cases hq:(W.hideAll s.heap (IZ (I0 (IB P w) P w K mg base N qual scope f HQ A outer s0 H0 E).stack)).get? e with
  |none=>rfl
  |some o'=>have:=Ec _ hq;rw[hx.new]at this;cases this
 refine Td (s:={ s with heap:=h2 }) (outer:=outer) (a0:=.ref t) I.ok.frames ((W.funFrames_hide I.stack hin).of_keeps λb o hb _=>⟨o,hx.keeps b o hb,rfl⟩) rfl he st0 hen rfl rfl rfl λh' fl sm=>?_
 have I':=QP (s':={ s with heap:=h2 }) I rfl I.bare (Un.kept hx.keeps) (I.hok.kept hx.keeps) bs st0 fl.1.1 sm
 exact⟨e,.ref C,.ref t,none,H,rfl,Tp I I' bs fl,hE⟩
theorem Hi.okx{x qual:Str}{st:Stmt}{f:wO}{fd:wR}{N ps:wG}{k:Nat}{sp:Sp}(F:Hi K x qual st f fd)(S:Gj N ps (HS st))(len:∀vs H Q E,sp vs H Q E->vs.length=ps.length)
  (Ip:∀(HQ:wN)(A:Around)(outer:List Env)(s:wM)(H:Hp)(vs:List V)(Q:VK)(E:XK),Hq k (A.deeper (envOfC qual (HS st) s.heap.objs.size f HQ))->sp vs H Q E ->
   ∃t,Iw (I0 (IB P w) P w K mg base N qual (HS st) f HQ A outer s H E) (K7 st) t/\t { nx:=λ_ H'=>Q .non H',rt:=Q } (start N vs) H):Gx P w K mg base (IB P w) (k+1) f fd ps sp:=by
 obtain⟨oc,od,kV,doc,pm,an,HQ,ct,osl,rfl,lk,hcd⟩:=F.ex
 exact VS lk hcd S len λA outer s H vs Q E hr hsp=>Ip HQ A outer s H vs Q E hr hsp
end
theorem qN{K:wL}{h:Heap}{C:wO}{bmB:wC}{newId:String}(X:K.In h)(q:W.excIn K C bmB newId=true) :
  ∃bm N nm qn bs hdct sn sub ab col dd k0 k1 k2 k3 k5 mN,h.get? C=some (excClassObj nm qn C N bs bm hdct sn sub ab col dd k0 k1 k2 k3 k5 newId)/\h.Ns N mN/\mN "__init__" = none/\OwnTail h bmB bm:=by
 unfold W.excIn at q
 split at q
 ·rename_i dd cd sl ho
  split at q
  ·rename_i C' bm k0 k1 k2 k3 n k5 hm hs
   simp only[AK,E3,Ew]at q
   obtain⟨⟨⟨⟨⟨rfl,rfl⟩,hdel⟩,ht⟩,hok⟩,hni⟩:=q
   obtain⟨nm,bs,mro,ns,qn,hd,sn,sub,ab,col,del⟩:=cd
   dsimp only at hm hdel hok hni
   subst hm hdel
   have hsl:sl=#[k0,k1,k2,k3,some (.builtin n),k5]:=by
    obtain⟨l⟩:=sl
    simp only at hs
    rw[hs]
   subst hsl
   exact⟨bm,ns,nm,qn,bs,hd,sn,sub,ab,col,dd,k0,k1,k2,k3,k5,_,X _ _ ho,.of_isNs (W.isNs_of_in X hok),W.nsMap_none_of_in X hok hni,W.tail_of_in X ht⟩
  ·cases q
 ·cases q
def ZG(C:wO)(E:XK)(ta:TA):TS:=λ_ σ H=>ta σ H λvs H1=>vs.length<=sizeLine/\E (.ref C) none H1
theorem Ui{X:Cx}{E:XK}{x:Str}{C:wO}{bmB:wC}{B newId initId:String}{np cpos pos:Pos}{e:Expr}{es:wJ}{ta:TA}(hc:X.calm=true)(R:Rs X E)(FB:ExcBaseFacts B newId initId bmB)(hg:Gl X x)(hm:X.mg x=some (.ref C))(q:W.excIn X.K C bmB newId=true)
  (ha:PA X (e::es) ta) (hdb:(x==("__debug__" : Str))=false:=by decide) (he:starEach (e::es) X.env=(false,eval e X.env)::starEach es X.env:=by rfl) (hpl:(backTo cpos (starEach es X.env)).any (·.1)=false:=by rfl) :
  PS X (.Raise (some (.Call (.Name x np) (e::es) [] cpos)) none pos) (ZG C E ta):=by
 intro Fj s σ H D I h
 obtain⟨bm,N,nm,qn,bs,hdct,sn,sub,ab,col,dd,k0,k1,k2,k3,k5,mN,hC,hN,hni,T⟩:=qN I.mod.kin q
 refine wpAny_Raise_call_subT (C:=C) (nm:=nm) (q:=qn) (N:=N) (bs:=bs) (bm:=bm) (hdct:=hdct) (sn:=sn) (sub:=sub) (ab:=ab) (col:=col) (dd:=dd) (k0:=k0) (k1:=k1) (k2:=k2) (k3:=k3) (k5:=k5)
  FB (mN:=mN) (T.hasType FB.hasBase) (I.ok.hd hc) (by rw[he];show(false||(backTo cpos (starEach es X.env)).any (·.1))=false;rw[hpl];rfl) hni (NZ I hg hm ⟨rfl,?_⟩ hdb)
 have h0:=ha cpos Fj s σ H _ I h
 rw[he]at h0 ⊢
 refine DT (BI h0 (λus s2 ⟨vs,H1,I1,r,hl,hE⟩=>?_) λ_ _ y=>y)
 refine⟨rfl,by rw[<-r.length];exact hl,I1.bk _ _ hC,hN.keeps I1.bk,T.keeps I1.bk,λh' e' hx=>R Fj σ H1 s2 h' e' C us I1 hx hE⟩
theorem sP{K:wL}{M:Model}{A:Around}{E:wD}{s:wM}{e C C0:wO}{oe:Obj}{Q:Bool->wM->Prop}(X:K.In s.heap)(he:s.heap.get? e=some oe)(hc:oe.cls=.ref C)
  (k1:W.kitCls K (.ref C) (.ref C0)=some true) (k2:W.kitCls K (.ref C0) (.type "BaseException")=some true) (h:Q true s):wpAny M A (excMatches (.ref e) (.ref C0)) Q E s:=by
 obtain⟨t1,i1,s1⟩:=W.kit_cls (M:=M) X k1
 obtain⟨_,_,s2⟩:=W.kit_cls (M:=M) X k2
 have keep:∀b o,s.heap.get? b=some o->s.heap.get? b=some o:=λ_ _ q=>q
 unfold excMatches isInstance
 refine AA (AA (t1 A _ _ s keep (Fl tc_notTuple ?_)))
 simp only[A7,Bi]
 refine AA (AE ?_)
 simp only[Dj,Fu]
 unfold isExcClass
 refine AA (AA (AA (AA (i1 A _ _ s keep ?_))))
 simp only[CD]
 refine s2 A _ _ s keep ?_
 simp only[Go,A7,Bi]
 refine AE (AE ?_)
 have ty:W.Looks M s.heap (typeOf (.ref e)) (.ref C):=hc▸(EB he).andThen .now
 refine AA (ty A _ _ s keep ?_)
 refine AA (AA (AA (s1 A _ _ s keep ?_)))
 simp only[CD]
 refine AE (AE ?_)
 exact AE h
def xE(a:wO)(cls:wN)(od:Option wO):HO:=.ext λh=>∃ob vs,h.get? a=some ob/\ob.cls=cls/\ob.data=.fields vs/\ob.dict=od
section
variable{X:Cx}{Fj:wF}{σ:St}{H H':Hp}{s s':wM}{B:Heap}{a:wO}{cls a0:wN}{od:Option wO}
theorem Sg(I:Inv X Fj σ H s)(I':Inv X Fj σ H' s')(bs:Bs X.stack H s.heap H' B)(fl:MJ B X.stack a cls a0 od s'.heap):Inv X Fj σ (Gw H' a (xE a cls od)) s'/\H' a=none:=by
 obtain⟨⟨st,hB,ff,oe,vs,T,oT,ts,he,⟨hc,_⟩,hd,_⟩,ox,hox,hod⟩:=fl
 rw[he]at hox
 cases hox
 have hn:H' a=none:=by
  cases q:H' a with
  |none=>rfl
  |some u=>obtain⟨o,e⟩:=bs.trk a u q;rw[hB]at e;cases e
 have notfr:a∉IZ X.stack:=λz=>by
  obtain⟨_,o,e,d⟩:=ff.mem z
  rw[he]at e;cases e
  exact d vs hd
 have notold:∀o,s.heap.get? a=some o->False:=λo e=>by
  obtain⟨o',e',_⟩:=bs.old a o e notfr
  rw[hB]at e';cases e'
 have s0n:∀o,X.s₀.heap.get? a=some o->a∉X.ex->False:=λo e hx=>by
  obtain⟨o',e'⟩:=I.base.there a o e hx
  exact notold o' e'
 have nL:X.env.locals≠a:=λz=>by
  obtain⟨m,⟨o,es,ep,ho,hd',_⟩,_⟩:=I'.loc
  rw[z,he]at ho;cases ho
  rw[hd]at hd';cases hd'
 have nC:∀x c,X.env.cells.lookup x=some c->c≠a:=λx c e z=>by
  obtain⟨v,o,ho,hd'⟩:=I'.cell x c e
  rw[z,he]at ho;cases ho
  rw[hd]at hd';cases hd'
 have nP:∀p∈X.pn++Fj,p.1≠a:=λp hp z=>by
  obtain⟨e,_⟩:=I.pin p hp
  rw[z]at e
  exact notold _ e
 have neq:∀b u,H' b=some u->b≠a:=λb u e z=>by rw[z,hn]at e;cases e
 refine⟨⟨I'.ok,I'.os,I'.bare,⟨I'.base.keep,I'.base.slot,λb o e n hx=>?_,I'.base.there,λb xs e=>?_,λb o u e=>?_,λb ps e=>?_⟩,I'.loc,I'.cell,?_,λx c e=>?_,λp hp=>?_,λb u e=>?_,I'.len⟩,hn⟩
 ·have q:=I'.base.free b o e n hx
  by_cases z:b=a
  ·subst z;exact(s0n o e hx).elim
  ·rw[Hf z];exact q
 ·have q:=I'.base.tups b xs e
  rw[Hf (neq _ _ q)];exact q
 ·have q:=I'.base.frzs b o u e
  rw[Hf (neq _ _ q)];exact q
 ·obtain⟨more,q⟩:=I'.base.tbls b ps e
  exact⟨more,by rw[Hf (neq _ _ q)];exact q⟩
 ·rw[Hf nL];exact I'.free
 ·rw[Hf (nC x c e)];exact I'.freeC x c e
 ·obtain⟨q1,q2,q3⟩:=I'.pin p hp
  exact⟨q1,by rw[Hf (nP p hp)];exact q2,q3⟩
 ·by_cases z:b=a
  ·subst z
   rw[Gu]at e
   cases e
   exact⟨⟨oe,vs,he,hc,hd,hod⟩,⟨oe,he⟩,λh1 h2 ⟨ob,ws,k1,k2,k3⟩ k=>⟨ob,ws,k _ k1,k2,k3⟩⟩
  ·rw[Hf z]at e
   exact(I'.hok b u e).stay (λ_ _ _ q=>q) (λc q=>by rw[Hf (neq _ _ q)];exact q) λc xs q=>by rw[Hf (neq _ _ q)];exact q
theorem Tf{M:Model}{A:Around}{E:wD}{i:Nat}{x:Str}{pos:Pos}{Q:Unit->wM->Prop}(I:Inv X Fj σ H s)(hN:X.N.Nodup)(hi:X.N[i]?=some x)(hx:X.env.scope.names.lookup x=some .local)
  (h:∀s',Inv X Fj (σ.set i none) H s'->Q () s'):wpAny M A (do bindName X.env x .none;unbindBehindTheSuite X.env x pos) Q E s:=by
 obtain⟨m,hn,hl⟩:=id I.loc
 have hcls:(X.env.scope.kind==.class||(X.env.scope.kind==.module&&X.env.locals != X.env.globals))=false:=by rw[I.ok.kind];rfl
 have hiσ:i<σ.length:=by rw[I.len];exact(Ae.mp hi).1
 have cne:=I.cne
 refine wpAny_nameGoes_keeps hx hn hcls λh' v hn' hs=>?_
 obtain⟨oL,_,_,hoL,_⟩:=id hn
 refine h _ ⟨I.ok,I.os,I.bare,⟨λb o e n hb hx=>?_,λb o e n hb hx=>?_,I.base.free,λb o e hx=>?_,I.base.tups,I.base.frzs,I.base.tbls⟩,⟨_,hn',λj y v' e1 e2 e3=>?_⟩,λy c e=>?_,I.free,I.freeC,λp hp=>?_,λb ob e=>?_,by simpa using I.len⟩
 ·exact(hs.2 b (As (Ai (AS e) I.ok.above))).trans (I.base.keep b o e n hb hx)
 ·obtain⟨sl,e1⟩:=I.base.slot b o e n hb hx
  exact⟨sl,(hs.2 b (As (Ai (AS e) I.ok.above))).trans e1⟩
 ·obtain⟨o',e1⟩:=I.base.there b o e hx
  exact⟨o',(hs.2 b (As (Ai (AS e) I.ok.above))).trans e1⟩
 ·by_cases hj:j=i
  ·subst hj
   rw[DF hiσ]at e2
   cases e2
  ·rw[EF (B7 hj)]at e2
   obtain⟨u',r',q⟩:=hl j y v' e1 e2 e3
   refine⟨u',r',?_⟩
   rcases q with⟨k,e⟩|⟨k,c,e,z⟩
   ·refine .inl ⟨k,?_⟩
    have:y≠x:=λe=>hj (pW hN e1 (e▸hi))
    simp [this,e]
   ·exact .inr ⟨k,c,e,z.sameBut hs (cne y c e)⟩
 ·obtain⟨w',z⟩:=I.cell y c e
  exact⟨w',z.sameBut hs (cne y c e)⟩
 ·obtain⟨e,n,ne,nf,d⟩:=I.pin p hp
  exact⟨(hs.2 p.1 ne).trans e,n,ne,nf,d⟩
 ·refine(I.hok b ob e).stay (λc w' hc q=>(hs.2 c ?_).trans q) (λ_ q=>q) λ_ _ q=>q
  intro z
  rcases hc with hc|hc
  ·rw[<-hc,z,I.free]at e;cases e
  ·rw[z,I.free]at hc;cases hc
end
noncomputable abbrev Cx.mk1(X:Cx)(e:wN):Cx:={ X with A:=X.A.mark (some e),calm:=false,xe:=λ_ _=>False }
noncomputable abbrev Cx.pin1(X:Cx)(pn:wF)(T:wD):Cx:={ X with pn:=pn,xe:=T }
section
variable{X:Cx}{Fj:wF}{σ:St}{H:Hp}{s:wM}
theorem Wz(ok:X.Ok)(e:wN):(Cx.mk1 X e).Ok:=⟨ok.mod,ok.kind,ok.glob,ok.blt,ok.above,ok.inj,ok.has,ok.cab,λz=>(by cases z),ok.frames,ok.stk,ok.exf,ok.bs,ok.bsz,ok.noex,ok.exfs,ok.funs,ok.frf⟩
theorem WN(I:Inv X Fj σ H s)(e:wN):Inv (Cx.mk1 X e) Fj σ H s:=⟨Wz I.ok e,I.os,I.bare,I.base,I.loc,I.cell,I.free,I.freeC,I.pin,I.hok,I.len⟩
theorem RZ(ok:X.Ok){e:wN}(I:Inv (Cx.mk1 X e) Fj σ H s):Inv X Fj σ H s:=⟨ok,I.os,I.bare,I.base,I.loc,I.cell,I.free,I.freeC,I.pin,I.hok,I.len⟩
theorem oP(ok:X.Ok)(pn:wF)(T:wD):(Cx.pin1 X pn T).Ok:=⟨ok.mod,ok.kind,ok.glob,ok.blt,ok.above,ok.inj,ok.has,ok.cab,ok.hd,ok.frames,ok.stk,ok.exf,ok.bs,ok.bsz,ok.noex,ok.exfs,ok.funs,ok.frf⟩
theorem TM(I:Inv X Fj σ H s)(T:wD):Inv (Cx.pin1 X (X.pn++Fj) T) [] σ H s:=⟨oP I.ok _ T,I.os,I.bare,I.base,I.loc,I.cell,I.free,I.freeC,λp hp=>I.pin p (by rw[BM]at hp;exact hp),I.hok,I.len⟩
theorem MH(ok:X.Ok){T:wD}{pins':wF}(I:Inv (Cx.pin1 X (X.pn++Fj) T) pins' σ H s):Inv X Fj σ H s:=⟨ok,I.os,I.bare,I.base,I.loc,I.cell,I.free,I.freeC,λp hp=>I.pin p (BL _ hp),I.hok,I.len⟩
end
def QX(X:Cx)(σ0:St)(E:XK):Prop:=∀(Fj:wF)(H:Hp)(s:wM)(e:wN)(s':wM),Inv X Fj σ0 H s->IB X.prog X.w X.stack H s E e s'->X.xe e s'
def jM(σ0:St)(sp:Sp)(E:XK)(t:TA):TE:=λσ H Q=>σ=σ0/\t σ H λvs H1=>sp vs H1 Q E
theorem UP{X:Cx}{k:Nat}{f:wO}{fd:wR}{ps:wG}{sp:Sp}{E:XK}{σ0:St}{x:Str}{p pos:Pos}{e:Expr}{es:wJ}{t:TA}(F:Gx X.prog X.w X.K X.mg X.base (IB X.prog X.w) k f fd ps sp)(hr:Hq k X.A)(hg:Gl X x)(hm:X.mg x=some (.ref f))(hk:W.keepIn X.K (.ref f)=true)(hb:Hy X.K fd ps [])(hx:QX X σ0 E)
  (ha:PA X (e::es) t) (hdb:(x==("__debug__" : Str))=false:=by decide) (he:starEach (e::es) X.env=(false,eval e X.env)::starEach es X.env:=by rfl) (hpl:(backTo pos (starEach es X.env)).any (·.1)=false:=by rfl) :
  PE X (.Call (.Name x p) (e::es) [] pos) (jM σ0 sp E t):=by
 intro Fj s σ H Q I h
 obtain⟨rfl,h⟩:=h
 refine BP (NZ I hg hm ?_ hdb)
 refine Ed (h₀:=X.base) I.ok.mod.kin hk (HZ (ha pos Fj s σ H _ I h) λus s1 ⟨vs,H1,I1,r,q⟩=>⟨I1.kIn,?_⟩) he hpl
 have hl:us.length=ps.length:=by rw[<-r.length];exact F.len _ _ _ _ q
 have hbd:=hb s1 us I1.kIn (by rw[BM];exact hl)
 rw[BM]at hbd
 refine Ey (DS (F.run X.A X.stack s1 H1 ⟨us,[]⟩ us vs Q E hr I1.env0 hbd r q) λr' s' hq=>?_)
 cases r' with
 |error e'=>exact hx Fj H1 s1 e' s' I1 hq
 |ok fl =>
  cases fl with
  |ret u=>exact I1.after hq
  |next=>exact False.elim hq
  |brk=>exact False.elim hq
  |cont=>exact False.elim hq
def EH(K:wL)(C0:wO)(i j:Nat)(D:JA)(σ:St):XK:=λcls od H'=>∃C:wO,cls=.ref C/\W.kitCls K (.ref C) (.ref C0)=some true /\
 ∀a,H' a=none->D.nx (((σ.set i (some (.ref a))).set j (some (.ref a))).set i none) (Gw H' a (xE a cls od))
theorem fL{X:Cx}{x n y:Str}{C0:wO}{body:List Stmt}{np py pn ap hp pos:Pos}{i j:Nat}{tb:St->XK->TS}(hst:X.stack=X.env::X.outer)(hfr:X.env.frame=some X.env.locals)
  (hN:X.N.Nodup) (hi:X.N[i]?=some n) (li:X.env.scope.names.lookup n=some .local) (hj:X.N[j]?=some y) (lj:X.env.scope.names.lookup y=some .local) (hg:Gl X x) (hm:X.mg x=some (.ref C0)) (kC:W.kitCls X.K (.ref C0) (.type "BaseException")=some true)
  (hb:∀(pn':wF)(T:wD)(σ0:St)(E:XK),QX (Cx.pin1 X pn' T) σ0 E->Iw (Cx.pin1 X pn' T) body (tb σ0 E)) (hd1:(n==("__debug__" : Str))=false:=by decide) (hd2:(n==("__classdict__" : Str))=false:=by decide) (hd3:(x==("__debug__" : Str))=false:=by decide) :
  PS X (.Try body [.ExceptHandler (some (.Name x np)) (some n) [.Assign [.Name y py] (.Name n pn) ap] hp] [] [] pos) (λD σ H=>tb σ (EH X.K C0 i j D σ) D σ H):=by
 intro Fj s σ H D I h
 rw[arm_exec_Try]
 refine AA (Db (wpAny_tryStmt_except ?_))
 have hP:QX (Cx.pin1 X (X.pn++Fj) λe s₁=>wpAny (model X.prog X.w) X.A (noteFrame e X.env) (λ_ s₂=>wpAny (model X.prog X.w) X.A (setFlight e none) (λ_ s₃ =>
   wpAny (model X.prog X.w) X.A (handleBy e X.env [.ExceptHandler (some (.Name x np)) (some n) [.Assign [.Name y py] (.Name n pn) ap] hp]) (SP X Fj D) X.xe s₃) X.xe s₂) X.xe s₁) σ (EH X.K C0 i j D σ):=by
  rintro pins' H1 s1 e s' J ⟨a,cls,a0,od,H',rfl,F,C,rfl,kC',hE⟩
  have I1:Inv X Fj σ H1 s1:=MH I.ok J
  obtain⟨os,bare,un,hok,B,bs,fl⟩:=F
  have bs:Bs X.stack H1 s1.heap H' B:=bs
  have fl:MJ B X.stack a (.ref C) a0 od s'.heap:=fl
  have fl':=fl
  rw[hst]at fl'
  show wpAny _ X.A (noteFrame (.ref a) X.env) _ _ s'
  refine OL (outer:=X.outer) (by rw[I1.ok.frames,hst]) hfr fl' λh4 ⟨m1,m2,m3,m4⟩ md sm4=>?_
  refine P5 (s:={ s' with heap:=h4 }) m1 m2 m3 m4 md λh5 fly5 sm5=>?_
  have sm45:=sm4.trans sm5
  have I5:=QP I1 os bare un hok bs fl.1.1 fly5.1.1 sm45
  obtain⟨ob,hob,hobc⟩:=fly5.1.there
  refine wpAny_handleBy_cons (Gc (NZ (X:=Cx.mk1 X (.ref a)) (WN I5 (.ref a)) hg hm (sP I5.kIn hob hobc kC' kC ?_) hd3)) (by intro q;cases q)
  refine E4 ?_
  obtain⟨⟨n1,n2,n3,n4⟩,nd⟩:=fly5
  refine P5 (s:={ s' with heap:=h5 }) n1 n2 n3 n4.at nd λh6 fly6 sm6=>?_
  have I6:=QP I1 os bare un hok bs fl.1.1 fly6.1.1 (sm45.trans sm6)
  obtain⟨I6',hn⟩:=Sg I1 I6 bs (by rw[hst];exact fly6)
  refine WT (X:=X) I6' hN hi (Or.inl li) (v:=.ref a) rfl (λs7 I7=>?_) (.inr li)
  have hlt:i<σ.length:=by rw[I1.len];exact(Ae.mp hi).1
  have ps:=HL (Hj (X:=Cx.mk1 X (.ref a)) (pos:=ap) (pos':=py) hN hj (Or.inl lj) (OH (pos:=pn) hi (Or.inl li) hd1 hd2) rfl (.inr lj))
  refine BI (ps Fj s7 (σ.set i (some (.ref a))) (Gw H' a (xE a (.ref C) od)) { nx:=λσ8 H8=>σ8=(σ.set i (some (.ref a))).set j (some (.ref a))/\H8=Gw H' a (xE a (.ref C) od),rt:=λ_ _=>False } (WN I7 (.ref a)) ⟨.ref a,DF hlt,rfl,rfl⟩) (λfw s8 q=>?_) (λ_ _ z=>False.elim z)
  cases fw with
  |next =>
   obtain⟨σ8,H8,J8,rfl,rfl⟩:=q
   exact Tf (RZ I.ok J8) hN hi li λs9 I9=>⟨_,_,I9,hE a hn⟩
  |brk=>obtain⟨_,_,_,z⟩:=q;exact z.elim
  |cont=>obtain⟨_,_,_,z⟩:=q;exact z.elim
  |ret u=>obtain⟨_,_,_,_,_,z⟩:=q;exact z.elim
 refine BI (hb _ _ σ _ hP [] s σ H D (TM I _) h) (λfw s₁ q=>?_) λe s₁ q=>q
 cases fw with
 |next=>obtain⟨σ',H',J,q⟩:=q;exact DD ⟨σ',H',MH I.ok J,q⟩
 |brk=>obtain⟨σ',H',J,q⟩:=q;exact⟨σ',H',MH I.ok J,q⟩
 |cont=>obtain⟨σ',H',J,q⟩:=q;exact⟨σ',H',MH I.ok J,q⟩
 |ret u=>obtain⟨v,σ',H',J,r,q⟩:=q;exact⟨v,σ',H',MH I.ok J,r,q⟩
end L2.Ev
namespace L2.Ev
open PySem PySem.Spec PyProof.Rows
open PySem.W
open PySem PySem.Calls PyProof.Rows Builtin Builtin.ObjectAttr Builtin.Getset_descriptor
section
variable{prog:wP}{w:wQ}{A:Around}{E:wD}{K:Frag}{h:Heap}{g:Array GenState}{d:Drawn}{t:Nat}{os:OsState}{a C:wO}{o:Obj}
theorem Zz{tp:wN}{R:Result->wM->Prop}(X:K.In h)(L0:Looks (model prog w) h (typeOf (.ref a)) (.ref C))(hm:mroIn K C (.type "object")=some true)
  (hq:R (.ok (.ret (.ref C))) ⟨h,g,d,t,os⟩):codeAny (model prog w) A (.call (.builtin "getset_descriptor.__get__") ⟨[.builtin "object.__class__",.ref a,tp],[]⟩) R ⟨h,g,d,t,os⟩:=by
 have L1:=Fn (M:=model prog w) X hm
 refine Cy KF.slot_gs.plain KF.entry_gs (KF.slot_gs.check _ _ _ _ _ _ _ _ KF.type_class (KF.args_gs _ _ _) ?_)
 unfold Builtin.«getset_descriptor.__get__» descrGet
 rw[dga_obj]
 refine AA (AE ?_)
 unfold descrGetter descrCheckInstance descrNameAndClass isInstance
 simp only[KF.owner_class]
 repeat lk
 refine⟨Ek _ (by decide +kernel),CV KF.entry_class ?_⟩
 unfold Builtin.«object.__class__» shownTypeOf
 repeat lk
 exact hq
theorem pS{tk:Tok}{Q:Fin->wM->Prop}(X:K.In h)(L0:Looks (model prog w) h (typeOf (.ref a)) (.ref C))(hm:mroIn K C (.type "object")=some true)(hcl:findIn K (.ref C) "__class__" = some (some (.builtin "object.__class__")))
  (hx:h.get? a=some o) (hc:o.cls=.ref C) (hq:Q (.done (.ret (.ref C))) ⟨h,g,d,t,os⟩) :
  wpAny (model prog w) A (Builtin.«object.__getattribute__» ⟨[.ref a,.str "__class__" tk],[]⟩) Q E ⟨h,g,d,t,os⟩:=by
 have L2:=Dt (M:=model prog w) X hcl
 have f5:=KF.type_class
 have f6:=F.slot_gs_get.lookup
 have f7:=F.slot_gs_set.lookup
 repeat (any_goals (first|assumption|(with_reducible refine CH hx ?_;rw[hc])|with_reducible refine L2.at ?_|wp_step))
 refine Zz X L0 hm ?_
 repeat (any_goals (first|assumption|wp_step))
theorem Tz{M:Model}{nameV:wN}{Q:Unit->wM->Prop}(L0:Looks M h (typeOf (.ref a)) (.ref C))(LB:Looks M h (isSubtype (.ref C) (.type "BaseException")) true)
  (hq:Q () ⟨h,g,d,t,os⟩):wpAny M A (checkBuiltinCall "BaseException.__getattribute__" ⟨[.ref a,nameV],[]⟩) Q E ⟨h,g,d,t,os⟩:=by
 have hk:builtinKind "BaseException.__getattribute__" = some .slot:=by decide +kernel
 have hsplit:splitId "BaseException.__getattribute__" = some ("BaseException", "__getattribute__"):=by decide +kernel
 have ha:=F.args_bexc_ga (.ref a) nameV
 have LI:Looks M h (isInstance (.ref a) (.type "BaseException")) true:=L0.andThen LB
 simp only[checkBuiltinCall,hk,hsplit]
 refine AA (LI.at ?_)
 repeat (first|assumption|wp_step)
theorem YN{tk:Tok}{R:Result->wM->Prop}(X:K.In h)(hm:mroIn K C (.type "object")=some true)(hb:mroIn K C (.type "BaseException")=some true)(hcl:findIn K (.ref C) "__class__" = some (some (.builtin "object.__class__")))
  (hx:h.get? a=some o) (hc:o.cls=.ref C) (hq:R (.ok (.ret (.ref C))) ⟨h,g,d,t,os⟩) :
  codeAny (model prog w) A (.call (.builtin "BaseException.__getattribute__") ⟨[.ref a,.str "__class__" tk],[]⟩) R ⟨h,g,d,t,os⟩:=by
 have L0:Looks (model prog w) h (typeOf (.ref a)) (.ref C):=hc▸(Looks.ld hx).andThen .now
 exact Cy DX.ga.plain F.entry_bexc_ga (Tz L0 (Fn X hb) (pS X L0 hm hcl hx hc hq))
theorem Yr{tk:Tok}{Q:wD}(X:K.In h)(hm:mroIn K C (.type "object")=some true)(hb:mroIn K C (.type "BaseException")=some true)(hcl:findIn K (.ref C) "__class__" = some (some (.builtin "object.__class__")))
  (hga:findIn K (.ref C) "__getattribute__" = some (some (.builtin "BaseException.__getattribute__"))) (hgt:findIn K (.ref C) "__getattr__" = some none)
  (hx:h.get? a=some o) (hc:o.cls=.ref C) (hq:Q (.ref C) ⟨h,g,d,t,os⟩):wpAny (model prog w) A (getAttrBy (.ref a) (.str "__class__" tk) false) Q E ⟨h,g,d,t,os⟩:=by
 have f3:=DX.ga.bind (.ref a)
 have hx2:(Value.builtin "BaseException.__getattribute__" == Value.builtin "object.__getattribute__")=false:=by decide +kernel
 have hx1:(onTheHeap (Value.ref C)&&Value.builtin "BaseException.__getattribute__" == Value.builtin "object.__getattribute__")=false:=by rw[hx2];rfl
 have L1:=Dt (M:=model prog w) X hga
 have L2:=Dt (M:=model prog w) X hgt
 repeat (any_goals (first|assumption|(with_reducible refine CH hx ?_;rw[hc])|with_reducible refine L1.at ?_|with_reducible refine L2.at ?_|wp_step))
 refine YN X hm hb hcl hx hc ?_
 repeat (any_goals (first|assumption|wp_step))
theorem kD{Q:wI->wM->Prop}(X:K.In h)(hm:mroIn K C (.type "object")=some true)(hb:mroIn K C (.type "BaseException")=some true)(hcl:findIn K (.ref C) "__class__" = some (some (.builtin "object.__class__")))
  (hga:findIn K (.ref C) "__getattribute__" = some (some (.builtin "BaseException.__getattribute__"))) (hgt:findIn K (.ref C) "__getattr__" = some none)
  (hx:h.get? a=some o) (hc:o.cls=.ref C) (hq:Q (some (.ref C)) ⟨h,g,d,t+1,os⟩):wpAny (model prog w) A (getAttr? (.ref a) "__class__") Q E ⟨h,g,d,t,os⟩:=by
 unfold getAttr? getAttrBy?
 repeat (any_goals (first|assumption|with_reducible apply Yr X hm hb hcl hga hgt hx hc|wp_step))
end
structure Ja(K:Frag)(C:wO):Prop where
 obj:mroIn K C (.type "object")=some true
 exc:mroIn K C (.type "BaseException")=some true
 cls:findIn K (.ref C) "__class__" = some (some (.builtin "object.__class__"))
 ga:findIn K (.ref C) "__getattribute__" = some (some (.builtin "BaseException.__getattribute__"))
 gt:findIn K (.ref C) "__getattr__" = some none
 is:(clsIn K C).isSome=true
theorem fA{K:Frag}{a C:wO}(k:Ja K C):KitX K (.ref a) (.ref C) (λh=>∃o,h.get? a=some o/\o.cls=.ref C) where
 ty:=λM h _ ⟨o,hx,hc⟩=>hc▸(Looks.ld hx).andThen .now
 it:=λ_ _ X _=>by
  have z0:=k.is
  unfold clsIn at z0
  split at z0
  ·rename_i c' d' cd' sl' ho
   intro A' Q' E' s' kk q
   unfold isType loadHead
   exact AA (Gd (kk _ _ (X _ _ ho)) (AE q))
  ·cases z0
 ne:=λh tp dd its n sl X htp=>by
  refine D1.mpr λq=>?_
  have e:C=tp:=Value.ref.inj (beq_iff_eq.mp q)
  subst e
  have z0:=k.is
  unfold clsIn at z0
  split at z0
  ·rename_i c' d' cd' sl' ho
   have:=X _ _ ho
   rw[htp]at this
   cases this
  ·cases z0
 ca:=λ{prog w A E Q s} X ⟨o,hx,hc⟩ q=>by
  obtain⟨hh,g,d,t,os⟩:=s
  exact kD X k.obj k.exc k.cls k.ga k.gt hx hc q
section
variable{X:Cx}
theorem Ke:ID X (.builtin "isinstance") (λxs H Q=>∃od a C c u b,xs=[.ref a,c]/\H a=some (xE a (.ref C) od)/\Ja X.K C/\HE c u/\(∀u',HE c u'->u'=u)/\kitOne X.K (.ref C) u=some b/\Q (.bl b) H):=by
 intro Fj s σ H xs us Q I r h
 obtain⟨od,a,C,c,u,b,rfl,ha,k,_,uni,e,q⟩:=h
 obtain⟨u1,v,rfl,r1,r2⟩:=Mv r
 cases r1
 have hv:=uni v r2
 subst hv
 obtain⟨⟨ob,vs,hx,hc,_⟩,_⟩:=(show HR X.prog X.w H s.heap a (xE a (.ref C) od) from I.hok a _ ha)
 exact kia_one (fA k) I.kIn ⟨ob,hx,hc⟩ e (λz=>nomatch z) λtk=>⟨.bl b,H,I.tok tk,rfl,q⟩
end
end L2.Ev
namespace L2.Ev
open PySem PySem.Spec PyProof.Rows
open L2.Pl
theorem mM(a v:wN):argsOk "max" ⟨[a],[(Str.ofString "default",v)]⟩:=by unfold argsOk;kernel_rfl
section
variable{prog:wP}{w:wQ}{A:Around}{R:Result->wM->Prop}{I:wO}{fp wr:wH}{n:Nat}{P:Nat->wN->Prop}{St:Nat->Heap->Prop}{dv:wN}
noncomputable abbrev Qz(I S:wO)(dv:wN):Code:=.builtin "max.loop" ⟨[.ref I,.none,.ref S],[(Str.ofString "default",dv)]⟩
noncomputable abbrev Rv(vs:wK)(c:Nat):Obj:={ cls:=.type "list",dict:=none,data:=.seq vs c,slots:=#[] }
theorem Wi:(toString "max" ++ toString ".loop" : String) = "max.loop" := by decide
theorem PL(W:Walks prog w A.in1 I fp wr n P St)(bt:Nat->Nat->Bool)(hcmp:CmpOf prog w A.in1 .Gt P bt)(S:wO)(hSf:S∉fp) :
  ∀(k j:Nat)(s:wM)(vb:wN)(c:Nat),n-(j+1)=k->j+1<=n->St (j+1) s.heap->P (argBest bt j) vb->s.heap.get? S=some (Rv #[vb,vb] c) ->
  (∀v h' tk,P (argBest bt (n-1)) v->(∀b o,b∉wr->b≠S->s.heap.get? b=some o->h'.get? b=some o)->R (.ok (.ret v)) { s with heap:=h',toks:=tk })->codeAny (model prog w) A (Qz I S dv) R s
 |0,j,s,vb,c,hk,hj,hst,hPb,hS,hR=>by
  have hSw:S∉wr:=λh=>hSf (W.sub _ h)
  have hin:j+1=n:=by lia
  refine CV FD ?_
  rw[CB Cc _]
  show wpAny _ A.in1 (seqItems? (.ref S)>>=_) _ _ s
  refine AA (B5 hS rfl ?_)
  show wpAny _ A.in1 (tryCatch (pyNext (.ref I)) _>>=_) _ _ s
  refine AA (Dw (W.done s _ _ (hin▸hst) λh' tk hk'=>?_))
  have hS':=hk' S _ hSw hS
  show wpAny _ A.in1 (updateSeq S (λ_=>#[])>>=_) _ _ _
  exact AA (FZ hS' rfl (AA (DK (AE (hR vb _ tk (by rw[<-hin];exact hPb) λb o hbw hbS e=>(A4 _ _ (B7 hbS)).trans (hk' b o hbw e))))))
 |k+1,j,s,vb,c,hk,hj,hst,hPb,hS,hR=>by
  have hSw:S∉wr:=λh=>hSf (W.sub _ h)
  have hlt:j+1<n:=by lia
  refine CV FD ?_
  rw[CB Cc _]
  show wpAny _ A.in1 (seqItems? (.ref S)>>=_) _ _ s
  refine AA (B5 hS rfl ?_)
  show wpAny _ A.in1 (tryCatch (pyNext (.ref I)) _>>=_) _ _ s
  refine AA (Dw (W.item (j+1) s _ _ hlt hst λv h' tk hP hst' hk'=>?_))
  have hS':=hk' S _ hSw hS
  show wpAny _ A.in1 (tryCatch (holding [v,v] (richCompare .Gt v vb>>=_)) _>>=_) _ _ _
  refine AA (Dw (Cu (AA (hcmp (j+1) (argBest bt j) v vb _ _ _ hP hPb (AA (Cu (CY (AA (DK (AE ?_))))))))))
  cases hb:bt (j+1) (argBest bt j) with
  |true =>
   simp only[CD]
   refine AA (FZ hS' rfl (AA (DK ?_)))
   rw[Wi]
   refine AE ⟨Da Cc _,PL W bt hcmp S hSf k (j+1) _ v _ (by lia) hlt (W.frame _ _ _ hst' λb hbf o e=>?_) (by simp only[argBest,hb,CD];exact hP) (BR _ hS' rfl) λv' h'' tk'' hP' hk''=>?_⟩
   ·exact(A4 _ _ (λh:S=b=>hSf (by rw[h];exact hbf))).trans e
   ·exact hR v' h'' tk'' hP' λb o hbw hbS e=>hk'' b o hbw hbS ((A4 _ _ (B7 hbS)).trans (hk' b o hbw e))
  |false =>
   simp only[A7,Bi]
   refine AA (DK ?_)
   rw[Wi]
   exact AE ⟨Da Cc _,PL W bt hcmp S hSf k (j+1) _ vb c (by lia) hlt hst' (by simp only[argBest,hb,A7,Bi];exact hPb) hS' λv' h'' tk'' hP' hk''=>hR v' h'' tk'' hP' λb o hbw hbS e=>hk'' b o hbw hbS (hk' b o hbw e)⟩
theorem gQ(W:Walks prog w A.in1 I fp wr n P St)(bt:Nat->Nat->Bool)(hcmp:CmpOf prog w A.in1 .Gt P bt)(S:wO)(hSf:S∉fp){s:wM}{c:Nat}(hst:St 0 s.heap)(hS:s.heap.get? S=some (Rv #[] c))
  (hR:∀v h' tk,((0<n/\P (argBest bt (n-1)) v)∨(n=0/\v=dv))->(∀b o,b∉wr->b≠S->s.heap.get? b=some o->h'.get? b=some o)->R (.ok (.ret v)) { s with heap:=h',toks:=tk }):codeAny (model prog w) A (Qz I S dv) R s:=by
 have hSw:S∉wr:=λh=>hSf (W.sub _ h)
 refine CV FD ?_
 rw[CB Cc _]
 show wpAny _ A.in1 (seqItems? (.ref S)>>=_) _ _ s
 refine AA (B5 hS rfl ?_)
 show wpAny _ A.in1 (tryCatch (pyNext (.ref I)) _>>=_) _ _ s
 rcases Nat.eq_zero_or_pos n with z|hn
 ·refine AA (Dw (W.done s _ _ (z▸hst) λh' tk hk'=>?_))
  exact AA (CU (AE (hR dv h' tk (.inr ⟨z,rfl⟩) λb o hbw _ e=>hk' b o hbw e)))
 ·refine AA (Dw (W.item 0 s _ _ hn hst λv h' tk hP hst' hk'=>?_))
  have hS':=hk' S _ hSw hS
  show wpAny _ A.in1 (updateSeq S (λ_=>#[v,v])>>=_) _ _ _
  refine AA (FZ hS' rfl ?_)
  rw[Wi]
  refine AE ⟨Da Cc _,PL W bt hcmp S hSf _ 0 _ v _ rfl hn (W.frame _ _ _ hst' λb hbf o e=>?_) hP (BR _ hS' rfl) λv' h'' tk'' hP' hk''=>?_⟩
  ·exact(A4 _ _ (λh:S=b=>hSf (by rw[h];exact hbf))).trans e
  ·exact hR v' h'' tk'' (.inl ⟨hn,hP'⟩) λb o hbw hbS e=>hk'' b o hbw hbS ((A4 _ _ (B7 hbS)).trans (hk' b o hbw e))
end
section
variable{prog:wP}{w:wQ}{A:Around}{E:wD}{Q:wD}{s:wM}
theorem Xe{a:wO}{xs:Array (Int×Tok)}{d:Int}{td:Tok}(hh:A.handled=none)(hl:s.heap.IsList a (intItems xs)∨s.heap.IsTuple a (intItems xs))
  (h:∀h' tk M t',(∀b o,s.heap.get? b=some o->h'.get? b=some o)->((xs.size=0/\M=d)∨(M∈xs.toList.map (·.1)/\∀x∈xs.toList.map (·.1),x<=M))->Q (.int M t') { s with heap:=h',toks:=tk }) :
  wpAny (model prog w) A (call (.builtin "max") [.ref a] [(Str.ofString "default",.int d td)]) Q E s:=by
 have fin:∀(v:wN)(s2:wM)(h':Heap)(tk:Nat),s2={ s with heap:=s2.heap }->(∀b o,s.heap.get? b=some o->h'.get? b=some o)->((0<(intItems xs).size/\(intItems xs)[argBest (λi j=>decide (numAt xs i>numAt xs j)) ((intItems xs).size-1)]?=some v)∨((intItems xs).size=0/\v=.int d td))->Q v { s2 with heap:=h',toks:=tk }:=by
  intro v s2 h' tk e2 hk hv
  rw[e2]
  have sz:(intItems xs).size=xs.size:=by simp [intItems]
  rw[sz]at hv
  rcases hv with⟨hn,hv⟩|⟨z,rfl⟩
  ·obtain⟨t',rfl⟩:=intItems_at hv
   obtain⟨h1,h2⟩:=argBest_gt (numAt xs) (xs.size-1)
   refine h h' tk _ t' hk (.inr ⟨?_,λx hx=>?_⟩)
   ·rw[numAt_eq];exact getD_mem (by rw[AB,AR];lia)
   ·obtain⟨j,hj,rfl⟩:=mem_getD hx
    rw[AB,AR]at hj
    rw[<-numAt_eq];exact h2 j (by lia)
  ·exact h h' tk d td hk (.inl ⟨z,rfl⟩)
 have go:∀(fp wr:wH)(St:Nat->Heap->Prop)(s2:wM),s2={ s with heap:=s2.heap }->(∀b o,s.heap.get? b=some o->s2.heap.get? b=some o)->Walks prog w A.in1 s.heap.objs.size fp wr (intItems xs).size (λi v=>(intItems xs)[i]?=some v) St->St 0 s2.heap->(∀b∈fp,b<s2.heap.objs.size)->(∀b∈wr,s.heap.get? b=none) ->
   wpAny (model prog w) A.in1 (newList []>>=λl=>(again (.builtin (toString "max" ++ toString ".loop") ⟨[.ref s.heap.objs.size,.none,l],[(Str.ofString "default",.int d td)]⟩):Sem Fin)) (λfin s'=>match fin with
    |.done f=>(match (Except.ok f:Result) with|.ok (.ret v)=>Q v s'|.ok _=>False|.error e=>E e s')
    |.again c'=>c'.quiet=true/\codeAny (model prog w) A c' (λr s'=>match r with|.ok (.ret v)=>Q v s'|.ok _=>False|.error e=>E e s') s') E s2:=by
  intro fp wr St s2 e2 k2 W st hfp hwr
  refine AA (BF ?_)
  have hSf:s2.heap.objs.size∉fp:=λz=>B3 _ (hfp _ z)
  rw[Wi]
  refine AE ⟨Da Cc _,gQ W _ (CmpOf.ints_gt (numAt xs) (λ_ _=>intItems_at)) s2.heap.objs.size hSf (W.frame _ _ _ st λb _ o e=>AC _ e) (AU _ rfl) λv h' tk hv hk=>?_⟩
  exact fin v s2 h' tk e2 (λb o e=>hk b o (λz=>by rw[hwr b z]at e;cases e) (As (AS (k2 b o e))) (AC _ (k2 b o e))) hv
 have new:∀b∈[s.heap.objs.size],s.heap.get? b=none:=λb hb=>by rw[Ad.mp hb];exact Heap.get?_none_of_le (AG _)
 refine PyProof.Rows.kmb_tree F.kind_max F.plain_max F.entry_max (mM _ _) ?_
 show wpAny _ A.in1 (Builtin.Builtins.bindParams "max" ["key", "default"] 0 ⟨[],[(Str.ofString "default",.int d td)]⟩>>=_) _ _ s
 refine AA (Fl (show Builtin.Builtins.bindParams "max" ["key", "default"] 0 ⟨[],[(Str.ofString "default",.int d td)]⟩=pure [none,some (.int d td)] from rfl) ?_)
 refine AA (AE (AA ?_))
 have pairs:∀{b:wO},b<s.heap.objs.size->∀(o:Obj),∀c∈[s.heap.objs.size,b],c<(s.heap.push o).objs.size:=λ{b} hb o c hc=>by
  rw[CA]
  rcases AN.mp hc with rfl|hc
  ·exact E5 _
  ·rw[Ad.mp hc];exact Nat.lt_succ_of_lt hb
 rcases hl with hl|hl
 ·obtain⟨o,ho,_⟩:=id hl
  refine CG hl ?_
  exact go _ _ _ _ rfl (λb o e=>AC _ e) (Walks.list (A:=A.in1) hh s.heap.objs.size a (As (AS ho)) (intItems xs)) ⟨⟨_,AU _ rfl,rfl,rfl⟩,hl.at λo e=>AC _ e⟩ (pairs (AS ho) _) new
 ·obtain⟨o,ho,_⟩:=id hl
  refine B0 hl ?_
  exact go _ _ _ _ rfl (λb o e=>AC _ e) (Walks.tuple (A:=A.in1) hh s.heap.objs.size a (As (AS ho)) (intItems xs)) ⟨⟨_,AU _ rfl,rfl,rfl⟩,hl.at λo e=>AC _ e⟩ (pairs (AS ho) _) new
end
section
variable{X:Cx}
def lV(K:wL)(d:Int)(ta:TA):TE:=λσ H Q=>ta σ H λvs H1=>∃(a:wO)(ns:wB),vs=[.ref a]/\(HJ K H1 a (ns.map V.int)∨HK K H1 a (ns.map V.int))/\∀M:Int,((ns=[]/\M=d)∨(M∈ns/\∀x∈ns,x<=M))->Q (.int M) H1
theorem Wn{e:Expr}{ta:TA}{p pos kp kq:Pos}{j}{d:Int}(hc:X.calm=true)(hg:Gl X "max")(hm:X.mg "max" = none)(ha:PA X [e] ta)
  (h1:backTo pos (starEach [e] X.env)=(false,eval e X.env)::backTo pos (starEach [] X.env):=by rfl) (h2:(backTo pos (starEach [e] X.env)).any (·.1)=false:=by rfl) :
  PE X (.Call (.Name "max" p) [e] [⟨some (Str.ofString "default"),.Constant (.int d) j kq,kp⟩] pos) (lV X.K d ta):=by
 intro Fj s σ H Q I h
 refine BP (KI I hg hm boot_max ?_)
 refine Eb (HZ (ha pos Fj s σ H _ I h) λus s1 ⟨vs,H1,I1,r1,q1⟩=>?_) h1 h2
 obtain⟨a,ns,rfl,hq,q⟩:=q1
 obtain⟨u,rfl,ru⟩:=K5 r1
 cases ru
 refine kws_cons (wpAny_Constant_int (kws_nil ?_))
 have I2:=I1.tok (s1.toks+1)
 have key:∀(its:wC),HF (ns.map V.int) its->(s1.heap.IsList a its.toArray∨s1.heap.IsTuple a its.toArray)->wpAny (model X.prog X.w) X.A (call (.builtin "max") [.ref a] [(Str.ofString "default",.int d s1.toks)]) (EP X Fj σ Q) X.xe { s1 with toks:=s1.toks+1 }:=by
  intro its rv hl
  obtain⟨xs,hx⟩:=(LR rv).allInts.items
  have hn:xs.toList.map (·.1)=ns:=by
   have e1:numsOf its.toArray.toList=ns:=by rw[show its.toArray.toList=its from rfl,(LR rv).numsOf]
   rw[hx,nums_intItems]at e1
   exact e1
  rw[hx]at hl
  refine Xe (I.ok.hd hc) hl λh' tk M t' hk hM=>⟨.int M,H1,I2.kept (t':=tk) hk,⟨t',rfl⟩,q M ?_⟩
  rw[hn]at hM
  rcases hM with⟨z,e⟩|hM
  ·refine .inl ⟨?_,e⟩
   rw[<-hn]
   have:xs=#[]:=Array.size_eq_zero_iff.mp z
   rw[this];rfl
  ·exact .inr hM
 rcases hq with hq|hq
 ·obtain⟨its,rv,ht,_⟩:=I1.list hq
  exact key its rv (.inl ht.isList)
 ·obtain⟨its,rv,ht,_⟩:=I1.tuple hq
  exact key its rv (.inr ht)
end
end L2.Ev
namespace L2.Ev
open PySem PyProof.Rows
open L2.Pl
end L2.Ev
namespace L2.Ev
open PySem PySem.Spec PyProof.Rows
open L2.Pl
theorem X2{prog:wP}{w:wQ}{A:Around}(hh:A.handled=none)(k:SK)(it l:wO)(ne:l≠it)(xs:wK) :
  Draws prog w A it [it,l] xs.size (λi x=>xs[i]?=some x) (λi h=>k.iter h it l i/\k.seq h l xs) where
 live:=λi h st=>by
  cases k with
  |lst=>obtain⟨⟨o,e,_⟩,_⟩:=st;exact⟨o,e⟩
  |tup=>obtain⟨⟨o,e,_⟩,_⟩:=st;exact⟨o,e⟩
 frame:=λi h h' st q=>⟨SK.iter_keep st.1 λo e=>q it (by simp) o e,SK.seq_keep st.2 λo e=>q l (by simp) o e⟩
 item:=λi s Q E hi st q=>SK.next st.1 st.2 (AH hi) λh' p sb=>q xs[i] h' s.toks (AH hi) ⟨p,SK.seq_keep st.2 λo e=>sb.extBut _ _ ne e⟩ sb
 done:=λs Q E st q=>SK.stop hh st.1 st.2 (by simp) q
structure tF(k:SK)(e it l:wO)(i:Nat)(h:Heap):Prop where
 he:∃old,IsEnum h e it (i:Int) old
 hi:k.iter h it l i
theorem pK(l:wO)(xs:wK) :
  Meets (Builtin.«enumerate.__new__» ⟨[.type "enumerate",.ref l],[]⟩) (λ_ R s=>s.heap.IsTuple l xs/\R (.ok (.ret (.ref (s.heap.push (SK.tup.ob l)).objs.size))) { s with heap:=(s.heap.push (SK.tup.ob l)).push { cls:=.type "enumerate",data:=.fields #[.none,.bool false,.ref s.heap.objs.size,rawInt 0,.none,.none] } }) :=
 .of_wp λprog w A R s h=>by
  obtain⟨hp,g,d,tk,os⟩:=s
  obtain⟨w1,h⟩:=h
  have hsub:=sub_enumerate
  have w1:Heap.IsTuple (Shared.heap ⟨hp,g,d,tk,os⟩) l xs:=w1
  obtain⟨o,ho,_⟩:=id w1
  wp_walk using Dp ho,B0 w1
  refine wpAny_stack_any λst=>AE ?_
  split
  ·rename_i c _ _ _ _ _
   cases(c==Value.type "enumerate")<;>(wp_walk using Dp ho,B0 w1;exact⟨_,rfl,h⟩)
  ·wp_walk using Dp ho,B0 w1
   exact⟨_,rfl,h⟩
theorem Z8{k:SK}{l:wO}{xs:wK}{Q:wD}{prog:wP}{w:wQ}{A:Around}{E:wD}{s:wM}(hl:k.seq s.heap l xs)
  (h:∀h',tF k (s.heap.objs.size+1) s.heap.objs.size l 0 h'->(∀c o,s.heap.get? c=some o->h'.get? c=some o)->Q (.ref (s.heap.objs.size+1)) { s with heap:=h' }) :
  wpAny (model prog w) A (call (.type "enumerate") [.ref l]) Q E s:=by
 cases k with
 |lst=>exact call_enumerate_list hl λh' a b _ q=>h h' ⟨⟨_,a⟩,b⟩ q
 |tup =>
  refine callType_new F.called_enumerate (by decide) (F.typeCall_enumerate_1 _) (F.newCall_enumerate_1 _) (λobj=>F.args_object_init_2 obj _) F.entry_enumerate_new (pK l xs) ⟨hl,?_⟩
  have e1:(s.heap.push (SK.tup.ob l)).objs.size=s.heap.objs.size+1:=CA ..
  have g2:((s.heap.push (SK.tup.ob l)).push { cls:=.type "enumerate",data:=.fields #[.none,.bool false,.ref s.heap.objs.size,rawInt 0,.none,.none] }).get? (s.heap.push (SK.tup.ob l)).objs.size=some _:=AU _ rfl
  have fin:=h _ ⟨⟨.none,by rw[e1]at g2;exact g2⟩,SK.iter_new (k:=.tup) (AC _ (AU _ rfl))⟩ λc o e=>AC _ (AC _ e)
  rw[<-e1]at fin
  exact⟨⟨_,g2,rfl⟩,fin⟩
def Nc(K:wL)(k:SK)(a:wO):It :=
 ⟨λi H=>∃xs x,k.is K H a xs/\xs[i]?=some x,
  λi H v H'=>∃p x,v=.ref p/\H p=none/\H'=Gw H p (.tup [.int i,x])/\∀xs,k.is K H a xs->xs[i]?=some x,
  λi H=>∃xs,k.is K H a xs/\xs.length<=i⟩
theorem Zp{P:wP}{w:wQ}{K:wL}{elts:wJ}{x1}{pos:Pos}(k:SK)(a e it:wO)(ne:e≠it) :
  KB P w K (.Tuple elts x1 pos) (Nc K k a) [e,it] e (λi h=>tF k e it a i h) where
 mem:=by simp
 obj:=λi h st c hc=>by
  obtain⟨⟨old,he⟩,h1⟩:=st
  simp only[AN,BZ,C3]at hc
  rcases hc with rfl|rfl
  ·exact⟨_,he,λv q=>by cases(show Data.fields _=Data.cell v from q)⟩
  ·cases k with
   |lst=>obtain⟨o,e,_,d⟩:=h1;exact⟨o,e,λv q=>by rw[d]at q;cases q⟩
   |tup=>obtain⟨o,e,_,d⟩:=h1;exact⟨o,e,λv q=>by rw[d]at q;cases q⟩
 keep:=λi h h' st q=>by
  obtain⟨⟨old,he⟩,h1⟩:=st
  exact⟨⟨old,q e (by simp) _ he⟩,SK.iter_keep h1 λo x=>q it (by simp) o x⟩
 item:=by
  intro X hP hw hK hc i Fj s σ H E I hf st hg
  subst hP hw hK
  obtain⟨xs,x,q1,hx⟩:=hg
  obtain⟨its,r1,p1⟩:=SK.at I q1
  obtain⟨u,hu,ru⟩:=r1.get hx
  have fe:=hf e (by simp)
  have fi:=hf it (by simp)
  have ae:a≠e:=LG I q1 fe
  have ai:a≠it:=LG I q1 fi
  obtain⟨⟨old,he⟩,h1⟩:=id st
  have lt:i<its.toArray.size:=by
   have:=(Ae.mp hu).1
   simpa using this
  refine wpAny_pyNext_enum_itemD (X2 (A:=X.A.in1) (I.ok.hd hc) k it a ai its.toArray) he ⟨h1,p1⟩ lt ne (by simp only[AN,BZ,C3,not_or];exact⟨ne,ae.symm⟩) λv h' tk hv a1 a2 a3 _ a4=>?_
  have hv':u=v:=by
   have:its[i]?=some v:=by simpa using hv
   rw[hu]at this
   exact Ap this
  subst hv'
  refine⟨_,rfl,wpAny_letOwnedTupleGo_enum (s:={ s with heap:=h',toks:=tk+1 }) a1 λh'' b1 b2=>?_⟩
  have kp:∀c o,c∉[e,it]->s.heap.get? c=some o->h''.get? c=some o:=λc o hc x=>by
   simp only[AN,BZ,C3,not_or]at hc
   exact b2.extBut _ _ hc.1 (a4 c o hc.1 hc.2 x)
  have elt:e<s.heap.objs.size:=AS he
  have hT:=b2.extBut _ _ (B8 elt) a3
  have hn:H s.heap.objs.size=none:=I.fresh
  have hok:IU X.prog X.w (Gw H s.heap.objs.size (.tup [.int i,x])) h'':=λc o z=>by
   by_cases hc:c=s.heap.objs.size
   ·subst hc
    rw[Gu]at z
    cases z
    exact⟨by show 2<=sizeLine;decide,[.int i tk,u],.cons ⟨tk,rfl⟩ (.cons ru .nil),⟨_,hT,rfl,_,rfl,rfl⟩⟩
   ·rw[Hf hc]at z
    refine(I.hok c o z).stay (λd v2 hd q=>kp d v2 (λm=>?_) q) (λd q=>by rw[Hf (JR q hn)];exact q) λd xs q=>by rw[Hf (JR q hn)];exact q
    have z2:=(hf d m).1
    rcases hd with rfl|hd
    ·rw[z]at z2;cases z2
    ·rw[hd]at z2;cases z2
  have I9:Inv X Fj σ (Gw H s.heap.objs.size (.tup [.int i,x])) { s with heap:=h'',toks:=tk+1 }:=V8 (s:=s) I hf kp (λc hc=>Hf (As hc)) hok
  refine⟨.ref s.heap.objs.size,Gw H s.heap.objs.size (.tup [.int i,x]),I9,rfl,⟨s.heap.objs.size,x,rfl,hn,rfl,λzs hz=>by rw[SK.inj I hz q1];exact hx⟩,?_,λc hc=>?_⟩
  ·refine⟨⟨u,?_⟩,SK.iter_keep a2.1 λo x=>b2.extBut _ _ ne.symm x⟩
   rw[Int.natCast_add]
   exact b1
  ·have hlt:c<s.heap.objs.size:=by
    simp only[AN,BZ,C3]at hc
    rcases hc with rfl|rfl
    ·exact elt
    ·exact SK.iter_lt h1
   rw[Hf (As hlt)]
   exact(hf c hc).1
 done:=by
  intro X hP hw hK hc i Fj s σ H E I hf st hg
  subst hP hw hK
  obtain⟨xs,q1,hx⟩:=hg
  obtain⟨its,r1,p1⟩:=SK.at I q1
  have fe:=hf e (by simp)
  have fi:=hf it (by simp)
  have ai:a≠it:=LG I q1 fi
  have l1:=r1.length
  obtain⟨⟨old,he⟩,h1⟩:=id st
  have hT:s.TypeIs (.ref e) "enumerate" := ⟨_,he,rfl⟩
  unfold pyNext
  refine AA (DZ (BU (name:=Str.ofString "__next__") hT Fv (Bb Fv hT F.entry_enumerate_next ?_ (F.args_enumerate_next_1 _))))
  show wpAny _ _ (field (.ref e) 2>>=λ_=>_) _ _ _
  refine AA (BG he rfl (x:=Value.ref it) rfl (AA (SK.stop (show X.A.in1.handled=none from I.ok.hd hc) h1 p1 (by simp;lia) λh' z q hz=>?_)))
  obtain⟨o,ho,hcl⟩:=hz
  refine AA (FK (T := "StopIteration") (b:=true) ⟨o,ho,hcl⟩ Ga (AE ⟨rfl,?_⟩))
  have kp:∀c o,c∉[it]->s.heap.get? c=some o->h'.get? c=some o:=λc o hc x=>q c o (by simpa using hc) x
  have hf1:∀c∈[it],Kw X Fj H c:=λc hc=>by rw[Ad.mp hc];exact fi
  refine V8 (h':=h') (t':=s.toks) I hf1 kp (λc _=>rfl) λc o z=>?_
  refine(I.hok c o z).stay (λd v2 hd q=>kp d v2 (λm=>?_) q) (λd q=>q) λd xs q=>q
  have z2:=(hf1 d m).1
  rcases hd with rfl|hd
  ·rw[z]at z2;cases z2
  ·rw[hd]at z2;cases z2
 self:=λ_ _ _ _ _ st h=>by
  obtain⟨⟨old,he⟩,_⟩:=st
  exact wpAny_pyIter_enum he h
def pF(K:wL)(k:SK)(ta:TA):TI:=λσ H R=>ta σ H λvs H1=>∃a,vs=[.ref a]/\(∃xs,k.is K H1 a xs)/\R (Nc K k a) H1
theorem RQ{X:Cx}{ea:Expr}{ta:TA}{p pos tp:Pos}{elts:wJ}{x1}(k:SK)(hg:Gl X "enumerate")(hm:X.mg "enumerate" = none)(ha:PA X [ea] ta)(hs:starEach [ea] X.env=(false,eval ea X.env)::starEach [] X.env:=by rfl)(hs2:(backTo pos (starEach [] X.env)).any (·.1)=false:=by rfl) :
  PI X (.Tuple elts x1 tp) (.Call (.Name "enumerate" p) [ea] [] pos) (pF X.K k ta):=by
 intro Fj s σ H R I h
 refine Call_ (KI I hg hm boot_enumerate (BK (HZ (ha pos Fj s σ H _ I h) λus s1 ⟨vs,H1,I1,r1,q1⟩=>?_) hs hs2))
 obtain⟨a,rfl,⟨xs,ex⟩,q⟩:=q1
 obtain⟨u,rfl,ru⟩:=K5 r1
 cases ru
 obtain⟨its,r1,p1⟩:=SK.at I1 ex
 refine Z8 p1 λh' Z kp=>?_
 obtain⟨⟨old,he⟩,_⟩:=id Z
 refine wpAny_pyIter_enum he ?_
 have I2:Inv X Fj σ H1 { s1 with heap:=h' }:=I1.kept (t':=s1.toks) kp
 refine⟨_,[s1.heap.objs.size+1,s1.heap.objs.size],_,_,H1,rfl,I2,Zp k a _ _ (Nat.succ_ne_self _),Z,λc hc=>?_,q⟩
 have ge:s1.heap.objs.size<=c:=by
  simp only[AN,BZ,C3]at hc
  rcases hc with rfl|rfl
  ·exact Cb _ _
  ·exact AG _
 exact I1.fpOk ge (I1.hok.fresh ge)
theorem YE{K:wL}{k:SK}{a:wO}{xs:List V}{g:TG}{tb:TS}{D:JA}{σ:St}{H:Hp}(Pv:Nat->St->Hp->Prop)(h0:Pv 0 σ H)(hl:∀i σ H,Pv i σ H->k.is K H a xs)
  (hs:∀i x p σ H,xs[i]?=some x->H p=none->Pv i σ H->g (.ref p) σ (Gw H p (.tup [.int i,x])) λσ2 H2=>tb { D with nx:=Pv (i+1),ct:=Pv (i+1),bk:=D.nx } σ2 H2) (hd:∀σ H,Pv xs.length σ H->D.nx σ H) :
  ∃W:Nat->Nat->St->Hp->Prop,(∃m,W 0 m σ H)/\∀i m σ H,W i m σ H ->
   ((Nc K k a).stop i H/\D.nx σ H)∨((Nc K k a).go i H/\∃N:St->Hp->Prop,(∀σ' H',N σ' H'->∃m',m'<m/\W (i+1) m' σ' H')/\∀x H',(Nc K k a).yld i H x H'->g x σ H' λσ2 H2=>tb { D with nx:=N,ct:=N,bk:=D.nx } σ2 H2):=by
 refine⟨λi m σ H=>m=xs.length-i/\i<=xs.length/\Pv i σ H,⟨xs.length,by simp,Ax _,h0⟩,?_⟩
 rintro i m σ H ⟨rfl,hi,p⟩
 have l1:=hl i σ H p
 by_cases hlt:i<xs.length
 ·refine .inr ⟨⟨xs,xs[i],l1,AT (by lia)⟩,Pv (i+1),λσ' H' p'=>⟨xs.length-(i+1),by lia,rfl,hlt,p'⟩,λx H' y=>?_⟩
  obtain⟨q,x,rfl,hq,rfl,hx⟩:=y
  exact hs i x q σ H (hx xs l1) hq p
 ·have e:i=xs.length:=by lia
  subst e
  exact .inl ⟨⟨xs,l1,AG _⟩,hd σ H p⟩
instance cG:Dat Str where
 is:=λ_ v b=>v=.str b
 mono:=λ_ h=>h
 inj:=λh h'=>by rw[h]at h';cases h';rfl
 dep:=0
 eqb:=λa b=>a==b
 eqb_iff:=λa b=>E3
 eqAt:=λ{X Fj σ H s A v v' u u' a b} I hu h h' r r'=>by
  subst h h'
  obtain⟨t,rfl⟩:=r
  obtain⟨t',rfl⟩:=r'
  exact SeqAt.EqAt.str_str _ _ _ _
section
variable{prog:wP}{w:wQ}{A:Around}{E:wD}{s:wM}
theorem pD{t sl:wO}{items:wK}{vl vu:wN}{lo hi:Option Int}{Q:wD}(ht:IsTup s.heap t items)(hs:s.heap.IsSliceOf sl vl vu .none)(pl:IsPart vl lo)(pu:IsPart vu hi)
  (w1:HT.sIx items.size 0 lo=0) (w2:HT.sIx items.size items.size hi=items.size) (h:Q (.ref t) s):wpAny (model prog w) A (getItem (.ref t) (.ref sl)) Q E s:=by
 obtain⟨os,hos,hcs,hds⟩:=id hs
 have hTs:s.TypeIs (.ref sl) "slice" := ⟨os,hos,hcs⟩
 unfold getItem
 try with_reducible refine Cu ?_
 first|refine AA (AE ?_)|skip
 refine AA (wpAny_sequenceKey ht.typeIs (by decide) (AA (BU (name:=Str.ofString "__getitem__") ht.typeIs Bh (Bb Bh ht.typeIs entry_tuple_getitem ?_ (args_tuple_getitem _ _)))))
 show wpAny _ _ (Builtin.Tuple.tupleItemsOf (.ref t)>>=λ_=>_) _ _ s
 refine AA (tupleItemsOf_ ht (AA (HD hTs ?_)))
 rw[AF (by decide)]
 refine AA (HT.sliceApplied_gen hs pl pu ?_)
 rw[w1,w2]
 show wpAny _ _ (if (((0:Nat):Int)==0&&(1:Int)==1&&(items.size-0)==items.size)=true then _ else _) _ _ s
 rw[AF (by simp)]
 refine AA ?_
 refine AA (m:=Builtin.Tuple.tupleIsExact (.ref t)) ?_
 unfold Builtin.Tuple.tupleIsExact
 refine AA (HD ht.typeIs (AE (AE ?_)))
 rw[AF (by decide)]
 exact AA (CU (AE ⟨_,rfl,AE h⟩))
end
section
variable{X:Cx}
def Zb(K:wL):V->Option Int->Option Int->Hp->VK->Prop:=λx lo hi H Q=>∃a xs,x=.ref a/\HK K H a xs/\HT.sIx xs.length 0 lo=0/\HT.sIx xs.length xs.length hi=xs.length/\Q (.ref a) H
theorem pM:Lo X (Zb X.K):=by
 intro Fj s σ H x v vl vu lo hi sl Q I rx hs pl pu h
 obtain⟨a,xs,rfl,hx,w1,w2,q⟩:=h
 cases rx
 obtain⟨its,r,ht,hz⟩:=I.tuple hx
 have Ha:its.toArray.size=xs.length:=by rw[Am];exact r.length.symm
 exact⟨"tuple",_,Bh.lookup,ht.typeIs,pD ht hs pl pu (by rw[Ha];exact w1) (by rw[Ha];exact w2) ⟨.ref a,H,I,rfl,q⟩⟩
theorem Sm:Lo X (λx lo hi H Q=>∃(a:wO)(r:wB),x=.ref a/\lo=some 1/\hi=none/\H a=some (.tup (r.map V.int))/\∀(p:wO)(H':Hp),Gh H H'->H' p=some (.tup ((r.drop 1).map V.int))->Q (.ref p) H'):=by
 intro Fj s σ H x v vl vu lo hi sl Q I rx hs pl pu h
 obtain⟨a,r,rfl,rfl,rfl,ha,q⟩:=h
 cases r with
 |nil=>exact pM Fj s σ H _ v vl vu _ _ sl Q I rx hs pl pu ⟨a,[],rfl,HK.of ha,rfl,rfl,q a H (λ_ _ e=>e) ha⟩
 |cons n r =>
  refine TK Fj s σ H _ v vl vu _ _ sl Q I rx hs pl pu ⟨a,_,rfl,HK.of ha,λz=>?_,λp hp=>?_⟩
  ·have z1:=z.1
   rw[show(1:Int)=((1:Nat):Int) from rfl,HT.sIx_nat,AB,Aj]at z1
   lia
  ·refine q p _ (Gy hp _) ?_
   rw[Gu]
   unfold K3
   rw[show(1:Int)=((1:Nat):Int) from rfl,HT.sIx_nat,HT.sIx_none,AB,Aj,CS (by lia),AW (by simp),Gp]
theorem OA:Lo X (λx lo hi H Q=>∃(a:wO)(r:wB)(k:Nat),x=.ref a/\lo=none/\hi=some (k:Int)/\H a=some (.tup (r.map V.int))/\∀(p:wO)(H':Hp),Gh H H'->H' p=some (.tup ((r.take k).map V.int))->Q (.ref p) H'):=by
 intro Fj s σ H x v vl vu lo hi sl Q I rx hs pl pu h
 obtain⟨a,r,k,rfl,rfl,rfl,ha,q⟩:=h
 by_cases c:r.length<=k
 ·refine pM Fj s σ H _ v vl vu _ _ sl Q I rx hs pl pu ⟨a,_,rfl,HK.of ha,HT.sIx_none _ _,?_,q a H (λ_ _ e=>e) (by rw[AW c];exact ha)⟩
  rw[HT.sIx_nat,AB]
  lia
 ·refine TK Fj s σ H _ v vl vu _ _ sl Q I rx hs pl pu ⟨a,_,rfl,HK.of ha,λz=>?_,λp hp=>?_⟩
  ·have z2:=z.2
   rw[HT.sIx_nat,AB]at z2
   lia
  ·refine q p _ (Gy hp _) ?_
   rw[Gu]
   unfold K3
   rw[HT.sIx_nat,HT.sIx_none,AB,DQ,HA,CS (by lia),Gq]
end
section
variable{X:Cx}
theorem RC:Lo X (λx lo hi H Q=>∃(a:wO)(r:wB)(k:Nat),x=.ref a/\lo=some (k:Int)/\hi=none/\H a=some (.tup (r.map V.int))/\∀(p:wO)(H':Hp),Gh H H'->H' p=some (.tup ((r.drop k).map V.int))->Q (.ref p) H'):=by
 intro Fj s σ H x v vl vu lo hi sl Q I rx hs pl pu h
 obtain⟨a,r,k,rfl,rfl,rfl,ha,q⟩:=h
 by_cases c:min k r.length=0
 ·have e:r.drop k=r:=by
   rcases Nat.min_eq_zero_iff.mp c with z|z
   ·rw[z];rfl
   ·rw[C8.mp z,List.drop_nil]
  exact pM Fj s σ H _ v vl vu _ _ sl Q I rx hs pl pu ⟨a,_,rfl,HK.of ha,by rw[HT.sIx_nat,AB];exact c,HT.sIx_none _ _,q a H (λ_ _ e=>e) (by rw[e];exact ha)⟩
 ·refine TK Fj s σ H _ v vl vu _ _ sl Q I rx hs pl pu ⟨a,_,rfl,HK.of ha,λz=>?_,λp hp=>?_⟩
  ·have z1:=z.1
   rw[HT.sIx_nat,AB]at z1
   exact c z1
  ·refine q p _ (Gy hp _) ?_
   rw[Gu]
   unfold K3
   rw[HT.sIx_nat,HT.sIx_none,AB,AW (by rw[BC,AB];lia),Gp]
   by_cases c2:k<=r.length
   ·rw[CS c2]
   ·rw[FE (by lia),Ci (by rw[AB];lia),Ci (by rw[AB];lia)]
theorem gE:IX X (compareOp .NotIn) (λx y H Q=>∃(n:Int)(p:wO)(r:wB),x=.int n/\y=.ref p/\H p=some (.tup (r.map V.int))/\Q (.bl (!decide (n∈r))) H):=by
 intro Fj s σ H x y v u Q I rx ry h
 obtain⟨n,p,r,rfl,rfl,hp,q⟩:=h
 have e:QC (.int n) (r.map V.int)=decide (n∈r):=by
  unfold QC
  clear hp q
  induction r with
  |nil=>rfl
  |cons y r ih =>
   rw[An,B4,ih]
   by_cases c:y=n
   ·subst c
    rw[show L4 (.int y) (.int y)=true from CJ y,Ab (AJ ..)]
    rfl
   ·rw[show L4 (.int y) (.int n)=false from beq_eq_false_iff_ne.mpr c,Gm]
    by_cases d:n∈r
    ·rw[Ab d,Ab (AM _ d)]
    ·rw[AO d,AO (λz=>(AN.mp z).elim (λz=>c z.symm) d)]
 refine rY Fj s σ H _ _ v u Q I rx ry ⟨p,_,rfl,.inr (HK.of hp),rfl,?_,?_⟩
 ·rw[Dn];exact AZ.mpr λ_ _=>rfl
 ·rw[AF rfl,e];exact q
end
theorem uM:fillsNumberSlot (.type "tuple") "mul" = pure false :=
 PySem.fillsNumberSlot_seq (id := "tuple.__mul__") (r:=some (.builtin "tuple.__rmul__")) Cj.lookup (by decide +kernel) FS.lookup (by decide +kernel)
theorem dS:seqRepeat? (.type "tuple")=pure (some (.builtin "tuple.__mul__")):=by
 unfold seqRepeat?
 rw[PySem.seqSlot_of (T := "tuple") (name := "__mul__") (id := "tuple.__mul__") Cj.lookup (by decide +kernel),PySem.seqSlot_of (T := "tuple") (name := "__rmul__") (id := "tuple.__rmul__") FS.lookup (by decide +kernel)]
 rfl
theorem pN(a:Int)(t:Tok)(l:wO)(items:wK)(n:Nat)(dd:Option wO)(sl:Array wI) :
  Meets (Builtin.«int.__rmul__» ⟨[.int a t,.ref l],[]⟩) (λ_ R s=>s.heap.get? l=some ⟨.type "tuple",dd,.seq items n,sl⟩/\R (.ok (.ret Value.notImplemented)) s) :=
 .of_wp λprog w A R s h=>by
  obtain⟨hp,g,d,tk,os⟩:=s
  obtain⟨hl,h⟩:=h
  wp_walk
  exact⟨_,rfl,h⟩
theorem iX(l:wO)(items:wK)(n:Nat)(dd:Option wO)(sl:Array wI)(u:Tok) :
  Meets (Builtin.«tuple.__mul__» ⟨[.ref l,.int 1 u],[]⟩) (λ_ R s=>s.heap.get? l=some ⟨.type "tuple",dd,.seq items n,sl⟩/\R (.ok (.ret (.ref l))) s) :=
 .of_wp λprog w A R s h=>by
  obtain⟨hp,g,d,tk,os⟩:=s
  obtain⟨hl,h⟩:=h
  have hc:(items.isEmpty||(1:Int)==1)=true:=by rw[CJ,Bool.or_true]
  wp_walk
  exact⟨_,rfl,h⟩
theorem qP(l:wO)(items:wK)(n:Nat)(dd:Option wO)(sl:Array wI)(k:Int)(u:Tok)(hi:items.isEmpty=false)(h0:k<=0)(h1:-(2^63)<=k) :
  Meets (Builtin.«tuple.__mul__» ⟨[.ref l,.int k u],[]⟩) (λ_ R s=>s.heap.get? l=some ⟨.type "tuple",dd,.seq items n,sl⟩/\R (.ok (.ret (.ref s.heap.objs.size))) { s with heap:=s.heap.push { cls:=.type "tuple",data:=.seq #[] } }) :=
 .of_wp λprog w A R s h=>by
  obtain⟨hp,g,d,tk,os⟩:=s
  obtain⟨hl,h⟩:=h
  have hf:¬ (decide (k < -(2^63))||decide (k ≥ 2^63))=true:=by rw[AO (by lia),AO (by lia)];exact AX
  have hc:¬ (items.isEmpty||k==1)=true:=by rw[hi,show(k==1)=false from beq_eq_false_iff_ne.mpr (by lia)];exact AX
  have hz:(decide (k<=0)||items.isEmpty)=true:=by rw[Ab h0];rfl
  wp_walk
  refine CW (AO hf) ?_
  wp_walk
  refine CW (AO hc) ?_
  wp_walk
  exact⟨_,rfl,h⟩
theorem XO(l:wO)(items:wK)(n:Nat)(dd:Option wO)(sl:Array wI)(k:Int)(u:Tok)(hi:items.isEmpty=false)(h0:2<=k)(h1:k<2^63)(hz:items.size*k.toNat<=sizeLine) :
  Meets (Builtin.«tuple.__mul__» ⟨[.ref l,.int k u],[]⟩) (λ_ R s=>s.heap.get? l=some ⟨.type "tuple",dd,.seq items n,sl⟩/\R (.ok (.ret (.ref s.heap.objs.size))) { s with heap:=s.heap.push { cls:=.type "tuple",data:=.seq ((List.replicate k.toNat items).foldl (λx1 x2=>x1++x2) #[]) } }) :=
 .of_wp λprog w A R s h=>by
  obtain⟨hp,g,d,tk,os⟩:=s
  obtain⟨hl,h⟩:=h
  have e:(items.size:Int)*k=((items.size*k.toNat:Nat):Int):=by rw[FY,EU (by lia)]
  have hs:(sizeLine:Nat)<=(2^63-1) / 8:=by decide
  have hf:¬ (decide (k < -(2^63))||decide (k ≥ 2^63))=true:=by rw[AO (by lia),AO (by lia)];exact AX
  have hc:¬ (items.isEmpty||k==1)=true:=by rw[hi,show(k==1)=false from beq_eq_false_iff_ne.mpr (by lia)];exact AX
  have hz1:¬ (decide (k<=0)||items.isEmpty)=true:=by rw[AO (by lia),hi];exact AX
  have hm:¬ (items.size:Int)*k>(2^63-1) / 8:=by rw[e];lia
  have ht:¬ Builtin.Tuple.tupleTooMany ((items.size:Int)*k)=true:=by
   unfold Builtin.Tuple.tupleTooMany
   rw[e,AO (by lia)]
   exact AX
  have hsz:sizeOk (.seq ((List.replicate k.toNat items).foldl (λx1 x2=>x1++x2) #[])):=by
   show((List.replicate k.toNat items).foldl (λx1 x2=>x1++x2) #[]).size<=sizeLine
   have:∀(m:Nat)(acc:wK),((List.replicate m items).foldl (λx1 x2=>x1++x2) acc).size=acc.size+items.size*m:=by
    intro m
    induction m with
    |zero=>intro acc;simp
    |succ m ih=>intro acc;rw[A5,Bm,ih,Array.size_append,Nat.mul_succ];lia
   rw[this]
   simpa using hz
  wp_walk
  refine CW (AO hf) ?_
  wp_walk
  refine CW (AO hc) ?_
  wp_walk
  refine CW (AO hz1) ?_
  wp_walk
  refine CW (AO hm) ?_
  wp_walk
  refine CW (AO ht) ?_
  wp_walk
  refine CW (AO (Nat.not_lt.mpr hsz)) ?_
  wp_walk
  exact⟨_,rfl,h⟩
theorem fX(r:wB)(k:Nat):(List.replicate k (r.map V.int)).flatten=((List.replicate k r).flatten).map V.int:=by
 induction k with
 |zero=>rfl
 |succ k ih=>rw[A5,A5,Bu,Bu,Az,ih]
theorem fB(l:wC):∀m:Nat,(List.replicate m l.toArray).foldl (λx1 x2=>x1++x2) #[]=(List.replicate m l).flatten.toArray:=λm=>by
 have:∀(m:Nat)(acc:wC),(List.replicate m l.toArray).foldl (λx1 x2=>x1++x2) acc.toArray=(acc++(List.replicate m l).flatten).toArray:=by
  intro m
  induction m with
  |zero=>intro acc;simp
  |succ m ih =>
   intro acc
   rw[A5,Bm,List.append_toArray,ih,A5,Bu,Ag]
 exact this m []
section
variable{X:Cx}
theorem OV:IX X (binaryOp .Mult) (λx y H Q=>∃(p:wO)(r:wB)(k:Int),x=.ref p/\y=.int k/\H p=some (.tup (r.map V.int))/\r≠[]/\-(2^63)<=k/\k<2^63/\r.length*k.toNat<=sizeLine /\
  ∀(t:wO)(H':Hp),Gh H H'->H' t=some (.tup (((List.replicate k.toNat r).flatten).map V.int))->Q (.ref t) H'):=by
 intro Fj s σ H x y v u Q I rx ry h
 obtain⟨p,r,k,rfl,rfl,hp,hne,h1,h2,hz,q⟩:=h
 cases rx
 obtain⟨t,rfl⟩:=ry
 obtain⟨its,rv,p1,_⟩:=I.tuple (HK.of hp)
 obtain⟨⟨cls,dd,data,sl⟩,ho,hc,n,hd⟩:=id p1
 simp only at hc hd
 subst hc hd
 have hl:=rv.length
 rw[AB]at hl
 have hi:its.toArray.isEmpty=false:=by
  cases its with
  |nil=>exact absurd (C8.mp (by rw[hl];rfl)) hne
  |cons a b=>rfl
 refine E1 (T := "tuple") (U := "int") (by decide) ⟨_,ho,rfl⟩ (λs'=>Ez s' k t) uM PySem.F.fills_int_mul Fw dS PySem.F.slot_int_index.lookup
  (DE Fw (Ez s k t) PySem.F.entry_int_rmul (PySem.F.args_int_rmul_2 _ _) (pN k t p its.toArray n dd sl) ⟨ho,rfl,⟨_,ho,rfl⟩,?_⟩)
 by_cases c1:k=1
 ·subst c1
  refine DE Cj ⟨_,ho,rfl⟩ Dz (Dq _ _) (iX p its.toArray n dd sl t) ⟨ho,?_⟩
  exact⟨.ref p,H,I,rfl,q p H (λ_ _ e=>e) (by rw[hp];simp)⟩
 ·by_cases c0:k<=0
  ·refine DE Cj ⟨_,ho,rfl⟩ Dz (Dq _ _) (qP p its.toArray n dd sl k t hi c0 h1) ⟨ho,?_⟩
   refine⟨.ref s.heap.objs.size,Gw H s.heap.objs.size (.tup []),I.laid (t':=s.toks) (o:=.tup []) (λb ob q=>AC _ q) (AG _) ⟨Ax _,[],.nil,JZ.new _ _⟩,rfl,q _ _ (Gy I.fresh _) ?_⟩
   rw[Gu,show k.toNat=0 by lia]
   rfl
  ·refine DE Cj ⟨_,ho,rfl⟩ Dz (Dq _ _) (XO p its.toArray n dd sl k t hi (by lia) h2 (by rw[Am,<-hl];exact hz)) ⟨ho,?_⟩
   rw[fB]
   refine⟨.ref s.heap.objs.size,Gw H s.heap.objs.size (.tup ((List.replicate k.toNat (r.map V.int)).flatten)),I.laid (t':=s.toks) (o:=.tup ((List.replicate k.toNat (r.map V.int)).flatten)) (λb ob q=>AC _ q) (AG _) ⟨?_,_,rv.rep k.toNat,JZ.new _ _⟩,rfl,q _ _ (Gy I.fresh _) ?_⟩
   ·rw[Tw,AB,Dm];exact hz
   ·rw[Gu,fX]
end
end L2.Ev
namespace L2.Ev
open PySem PySem.Spec PyProof.Rows
open L2.Ts L2.Pl L2.Rw
def Rt(a:wO)(o:Obj)(d:List Gi):It :=
 ⟨λi H=>H a=some (.frz o (.dT (IS d)))/\i<d.length,
  λi H v H'=>∃q t,v=.ref q/\d[i]?=some t/\H q=some (.tup (t.1.map V.int))/\H'=H,
  λi H=>H a=some (.frz o (.dT (IS d)))/\d.length<=i⟩
theorem dQ{P:wP}{w:wQ}{K:wL}{tg:Expr}(a it:wO)(o:Obj)(d:List Gi)(es:Array wT)(ep:Nat)(hd:o.data=.dict es ep) :
  KB P w K tg (Rt a o d) [it] it (λi h=>h.IsKeyIter it a i es.size ep) where
 mem:=by simp
 obj:=λi h st b hb=>by
  obtain⟨o',e1,e2,e3⟩:=st
  have e:b=it:=by simpa using hb
  subst e
  exact⟨o',e1,λv z=>by rw[e3]at z;cases z⟩
 keep:=λi h h' st k=>st.at λo e=>k it (by simp) o e
 item:=by
  intro X hP hw hK hc i Fj s σ H E I hf st hg
  subst hP hw hK
  obtain⟨hg,hi⟩:=hg
  obtain⟨raw,sz,ent⟩:=RS hd I hg
  obtain⟨f0,f1,f2,f3,f4,f5⟩:=hf it (by simp)
  have hi':i<es.size:=by lia
  have ei:es.toList[i]?=some es[i]:=by rw[A6,AH hi']
  obtain⟨t,et,⟨q,eq1,eq2⟩,rt⟩:=Paired.get ent ei
  refine SZ st raw hi' λh' on sb=>?_
  have I1:Inv X Fj σ H { s with heap:=h' }:=I.turned (t':=s.toks) (λb o hb e=>(sb.2 b hb).trans e) f0 f1 f3 f4 f5
  obtain⟨o',e1,e2,e3⟩:=id on
  exact⟨_,rfl,Qv (s:={ s with heap:=h' }) e1 e2 e3 (by decide) ⟨.ref q,H,I1,by rw[eq1];rfl,⟨q,t,rfl,et,eq2,rfl⟩,on,λb hb=>(hf b hb).1⟩⟩
 done:=by
  intro X hP hw hK hc i Fj s σ H E I hf st hg
  subst hP hw hK
  obtain⟨hg,hi⟩:=hg
  obtain⟨raw,sz,ent⟩:=RS hd I hg
  obtain⟨f0,f1,f2,f3,f4,f5⟩:=hf it (by simp)
  exact SE (I.ok.hd hc) st raw (by lia) λh' eb=>⟨rfl,I.turned (t':=s.toks) (λb o hb e=>eb b o hb e) f0 f1 f3 f4 f5⟩
 self:=λ_ _ _ _ _ st h=>wpAny_pyIter_keyiter st h
def Yu(te:TE):TI:=λσ H R=>te σ H λx H1=>∃(a:wO)(d:List Gi),x=.ref a/\H1 a=some (.dT (IS d))/\∀o:Obj,R (Rt a o d) (Gw H1 a (.frz o (.dT (IS d))))
theorem YO{X:Cx}{tg eo:Expr}{te:TE}(ho:PE X eo te):PI X tg eo (Yu te):=by
 intro Fj s σ H R I h
 refine HZ (ho Fj s σ H _ I h) λv s1 ⟨x,H1,I1,r1,q1⟩=>?_
 obtain⟨a,d,rfl,hd,q⟩:=q1
 cases r1
 obtain⟨z,lo,es,ep,raw,sz,ent⟩:=WJ I1 (.inl hd)
 obtain⟨o,ho,hx,hdat⟩:=id raw
 refine UR lo raw ?_
 have I2:Inv X Fj σ H1 { s1 with heap:=s1.heap.push { cls:=.type "dict_keyiterator",data:=.fields #[.ref a,.int 0 0,.int es.size 0,.int ep 0] } }:=I1.kept (t':=s1.toks) λb u e=>AC _ e
 have hn:H1 s1.heap.objs.size=none:=I1.hok.fresh (AG _)
 have ho2:(s1.heap.push { cls:=.type "dict_keyiterator",data:=.fields #[.ref a,.int 0 0,.int es.size 0,.int ep 0] }).get? a=some o:=AC _ ho
 have I3:Inv X Fj σ (Gw H1 a (.frz o (.dT (IS d)))) { s1 with heap:=s1.heap.push { cls:=.type "dict_keyiterator",data:=.fields #[.ref a,.int 0 0,.int es.size 0,.int ep 0] } }:=by
  refine I2.write (x:=a) (e:=a) (o:=.frz o (.dT (IS d))) (t':=s1.toks) (by rw[hd];exact True.intro) (.inl rfl) (λb u _ e=>e) ⟨o,ho2⟩ ⟨ho2,?_⟩
  refine(I2.hok a _ hd).stay (λb u _ e=>e) (λb e=>?_) λb xs e=>?_
  ·rw[Hf (Ku e hd (by intro z;cases z))];exact e
  ·rw[Hf (Ku e hd (by intro z;cases z))];exact e
 refine⟨_,[s1.heap.objs.size],_,_,_,rfl,I3,dQ a s1.heap.objs.size o d es ep hdat,⟨_,AU _ rfl,rfl,rfl⟩,λb hb=>?_,q o⟩
 have eb:b=s1.heap.objs.size:=by simpa using hb
 subst eb
 refine I1.fpOk (AG _) ?_
 rw[Hf (JR hd hn).symm]
 exact hn
theorem oB{α:Type}[Dat α]{a:wO}{o:Obj}{d:List Gi}{σ0:St}{H1:Hp}{D:wO}{R:Hp->Prop}{g:TG}{tc:TT}{te:TE}(hD:H1 D=none)(hl:H1 a=some (.frz o (.dT (IS d))))(Sp:St->Prop)(out:Nat->Option α)(hn:d.length<=sizeLine)(h0:Sp σ0)
  (IF:∀(i:Nat)(t:Gi)(q:wO)(σ':St)(H':Hp)(Yes:V->St->Hp->Prop)(No:St->Hp->Prop),d[i]?=some t->H' q=some (.tup (t.1.map V.int))->Sp σ'->Gh H1 H'->(∀y σ2 H4 a,Sp σ2->Gh H' H4->out i=some a->Dat.is H4 y a->Yes y σ2 H4)->(∀σ2 H3,Sp σ2->Gh H' H3->out i=none->No σ2 H3) ->
   g (.ref q) σ' H' λσ2 H2=>tc σ2 H2 λok H3=>if ok=true then te σ2 H3 λy H4=>Yes y σ2 H4 else No σ2 H3)
  (hend:∀H',Gh H1 H'->Gf H' D ((List.range d.length).filterMap out)->R H') :
  ∃W:Nat->Nat->St->Hp->Prop,(∃m,W 0 m σ0 (Gw H1 D (.lst [])))/\∀i m σ' H',W i m σ' H' ->
  ((Rt a o d).stop i H'/\R H')∨((Rt a o d).go i H'/\∃N:St->Hp->Prop,(∀σ'' H'',N σ'' H''->∃m',m'<m/\W (i+1) m' σ'' H'') /\
   ∀x H'',(Rt a o d).yld i H' x H''->g x σ' H'' λσ2 H2=>tc σ2 H2 λok H3=>if ok=true then te σ2 H3 λy H4=>∃ys,H4 D=some (.lst ys)/\ys.length<sizeLine/\N σ2 (Gw H4 D (.lst (ys++[y]))) else N σ2 H3):=by
 refine P4 (Q:=λ_ H=>R H) (n:=d.length) hD Sp out hn h0 (λH' e=>⟨e _ _ hl,AG _⟩) (λi H' hi e=>⟨e _ _ hl,hi⟩) (λi σ' H' Yes No hi hS hH hy hn x H'' y=>?_) hend
 obtain⟨q,t,rfl,ht,hq,rfl⟩:=y
 exact IF i t q σ' H'' Yes No ht hq hS hH hy hn
end L2.Ev
namespace L2.Ev
open PySem PySem.Spec PyProof.Rows
structure SD(X:Cx)(N':wG)(src:List (Option Nat))(z:Str)(scope:Scope):Prop where
 kind:scope.kind=.function
 cells:∀n acc,cellsFrom n scope.names acc=(z,n)::acc
 push:∀h:Heap,pushCells h scope.names=h.push { cls:=.type "cell",data:=.cell none }
 own:∀y∈scope.names,y.2=.cell->y.1=z
 isz:scope.names.lookup z=some .cell
 names:∀y∈scope.names,y.2=.local->scope.names.lookup y.1=some .local
 frees:∀y∈scope.names,y.2=.free->X.env.kindOf y.1=some .cell∨X.env.kindOf y.1=some .free
 len:src.length=N'.length
 out:∀i j:Nat,src[i]?=some (some j)->∃x:Str,N'[i]?=some x/\X.N[j]?=some x/\scope.names.lookup x=some .free
end L2.Ev
namespace L2.Rw
open PySem PySem.W PySem.Calls PyProof.Rows PySem.Spec
section
variable{prog:wP}{w:wQ}{A:Around}{E:wD}{s:wM}{d:wO}{es:Array wT}{ep:Nat}
theorem dJ{Q:wD}(hd:(d==sysModules)=false)(hm:IR s.heap d es ep)
  (hQ:Q (.ref s.heap.objs.size) { s with heap:=s.heap.push { cls:=.type "dict_keys",data:=.fields #[.ref d] } }):wpAny (model prog w) A (call (.builtin "dict.keys") [.ref d]) Q E s:=by
 have hT:=hm.type
 refine Bb F.slot_dict_keys hT F.entry_dict_keys ?_ (F.args_dict_keys_1 _)
 refine AA (m:=Builtin.Dict.noArgs "keys" ⟨[.ref d],[]⟩) ?_
 unfold Builtin.Dict.noArgs
 refine AA (GY hT (AE ?_))
 show wpAny _ _ (Builtin.Dict.showsAll d>>=_) _ _ s
 unfold Builtin.Dict.showsAll
 rw[AD (by rw[hd];decide)]
 exact AA (AE (AA (BF (AE ⟨_,rfl,hQ⟩))))
theorem YK{v:wO}{Q:wD}(hv:KdlKeysView s.heap v d)(hm:IR s.heap d es ep)
  (hQ:Q (.ref s.heap.objs.size) { s with heap:=s.heap.push { cls:=.type "dict_keyiterator",data:=.fields #[.ref d,.int 0 0,.int es.size 0,.int ep 0] } }) :
  wpAny (model prog w) A (pyIter (.ref v)) Q E s:=by
 obtain⟨ov,hov,hcv,hdv⟩:=id hv
 obtain⟨o,ho,_,hdat⟩:=hm
 refine wpAny_pyIter_slot hv.typeIs kdl_slot_keys_iter (Bb kdl_slot_keys_iter hv.typeIs kdl_entry_keys_iter ?_ (kdl_args_keys_iter _))
 unfold Builtin.«dict_keys.__iter__»
 refine AA (AE (AA ?_))
 unfold Builtin.Dict_items.dictOf
 refine AA (BG hov hdv (x:=.ref d) rfl (AE (AA ?_)))
 unfold Builtin.Dict_items.newIterator
 refine AA (D4 ho hdat (AA (EO ho hdat ?_)))
 have own:Builtin.Dict_items.ownsTuple "dict_keyiterator" = false:=by decide
 simp only[own]
 refine BF (AE ⟨_,rfl, "dict_keyiterator",_,⟨_,AU _ rfl,rfl⟩,By.lookup,?_⟩) (by simp [sizeOk,Fi])
 simpa [rawInt]using hQ
theorem Yn{r:wO}:KdlSrc prog w "dict_keys" r d es.size (λi v=>∃h:i<es.size,v=es[i].key) (λh=>KdlKeysView h r d/\IR h d es ep) where
 type:=λ_ hm=>hm.1.typeIs
 there:=λ_ hm=>⟨by obtain⟨_,e,_⟩:=hm.1;exact AS e,hm.2.lt⟩
 keep:=λ_ _ hm hk=>⟨by obtain⟨o,e,q⟩:=hm.1;exact⟨o,hk r (.inl rfl) o e,q⟩,hm.2.keep λo e=>hk d (.inr rfl) o e⟩
 notList:=by decide
 notTuple:=by decide
 hint:=λ_ _ _ _ hm hq=>kdl_hint_keys hm.1.typeIs hq
 iter:=λ_ _ hh hm=>⟨_,_,(λ_ _ hq=>YK hm.1 hm.2 hq),Q7 hh _ d (As hm.2.lt) es ep,⟨⟨_,AU _ rfl,rfl,rfl⟩,hm.2.keep λo e=>AC _ e⟩⟩
end
end L2.Rw
namespace L2.Ev
open PySem PySem.Spec PyProof.Rows
open L2.Ts L2.Pl L2.Rw
noncomputable def LD(ks:List Pw):List (List Ht×V):=ks.map λk=>(k.map Sum.inl,V.bl true)
theorem Rn(ks:List Pw):(LD ks).length=ks.length:=AB _
theorem iS{X:Cx}{Fj:wF}{σ:St}{H:Hp}{s:wM}{a:wO}{ks:List Pw}(I:Inv X Fj σ H s)(h:Rd H a (.dT (LD ks))) :
  ks.length<=sizeLine/\(a==sysModules)=false/\∃(es:Array wT)(ep:Nat),IR s.heap a es ep/\es.size=ks.length /\
   Paired (λ(e:wT)(k:Pw)=>∃p,e.key=.ref p/\H p=some (.tup (k.map V.int))) es.toList ks:=by
 obtain⟨z,y,xs,r,o,es,ep,h1,h2,h3,h4,h5⟩:=(show HR X.prog X.w H s.heap a (.dT (LD ks)) from Mi I.hok h)
 have key:∀{ks:List Pw}{xs:List (List Ht×wO×wN)},KT H (LD ks) xs->Paired (λ(e:wT)(k:Pw)=>∃p,e.key=.ref p/\H p=some (.tup (k.map V.int))) (xs.map (entryOfKey (tupleKind (J7 X.prog X.w)))) ks:=by
  intro ks
  induction ks with
  |nil=>intro xs r;cases r;exact .nil
  |cons t d ih =>
   intro xs r
   cases r with
   |cons q qs =>
    refine .cons ⟨_,rfl,?_⟩ (ih qs)
    have:=q.2.1
    rw[<-LV]
    exact this
 have kp:=key r
 rw[<-h4]at kp
 refine⟨by rw[<-Rn];exact z,y,es,ep,⟨o,h1,h2,h3⟩,?_,kp⟩
 rw[<-AR]
 exact AL kp
section
variable{X:Cx}
def XV(te:TE):TE:=λσ H Q=>te σ H λx H1=>∃(a:wO)(ks:List Pw),x=.ref a/\H1 a=some (.dT (LD ks))/\∀(l:wO)(vs:List V),H1 l=none->Hs H1 vs ks->Q (.ref l) (Gw H1 l (.lst vs))
theorem Xn{Fj:wF}{σ:St}{H:Hp}{s:wM}{ks:List Pw}{es:Array wT}{Q:VK}{h':Heap}{tk P c:Nat}{acc:wK}(I:Inv X Fj σ H s)(z:ks.length<=sizeLine)(sz:es.size=ks.length)(ent:Paired (λ(e:wT)(k:Pw)=>∃p,e.key=.ref p/\H p=some (.tup (k.map V.int))) es.toList ks)
  (it:ItemsOf (λi v=>∃h:i<es.size,v=es[i].key) acc es.size) (kp:∀b o,s.heap.get? b=some o->h'.get? b=some o) (hP:s.heap.objs.size<=P) (hS:h'.get? P=some { cls:=.type "list",dict:=none,data:=.seq acc c,slots:=#[] })
  (q:∀(l:wO)(vs:List V),H l=none->Hs H vs ks->Q (.ref l) (Gw H l (.lst vs))):EP X Fj σ Q (.ref P) { s with heap:=h',toks:=tk }:=by
 have e:acc.toList=es.toList.map (·.key):=by
  refine DM λi=>?_
  rw[A6,Al,A6]
  by_cases c:i<es.size
  ·have ci:i<acc.size:=by rw[it.1];exact c
   obtain⟨_,e⟩:=it.2 i acc[i] (AH ci)
   rw[AH ci,AH c,e]
   rfl
  ·rw[Bq (by rw[it.1];lia),Bq (by lia)]
   rfl
 have key:∀{l:List wT}{d:List Pw},Paired (λ(e:wT)(k:Pw)=>∃p,e.key=.ref p/\H p=some (.tup (k.map V.int))) l d->J1 wB H (l.map (·.key)) d:=by
  intro l d h
  induction h with
  |nil=>exact .nil
  |cons r t ih =>
   obtain⟨p,e1,e2⟩:=r
   exact .cons ⟨.ref p,e1,Js e2⟩ ih
 have hb:=key ent
 rw[<-e]at hb
 obtain⟨vs,v1,v2⟩:=Qf hb
 have lz:vs.length<=sizeLine:=by rw[v1.length,e,AB,AR,sz];exact z
 exact⟨.ref P,Gw H P (.lst vs),I.laid (a:=P) (o:=.lst vs) (t':=tk) kp hP ⟨lz,acc.toList,c,v1,by rw[hS]⟩,rfl,q P vs (I.hok.fresh hP) v2⟩
theorem jZ{eo:Expr}{te:TE}{p pos apos ppos:Pos}(hc:X.calm=true)(hg:Gl X "list")(hm:X.mg "list" = none)(ho:PE X eo te)(hbase:attributeBase eo "keys" X.env (eval eo X.env)=eval eo X.env:=by rfl)(hline:(apos.endLine==ppos.line)=true:=by rfl)
  (he:starEach [.Call (.Attribute eo "keys" apos) [] [] ppos] X.env=(false,eval (.Call (.Attribute eo "keys" apos) [] [] ppos) X.env)::starEach [] X.env:=by rfl) (hpl:(backTo pos (starEach [] X.env)).any (·.1)=false:=by rfl) (hnil:backTo pos (starEach [] X.env)=[]:=by rfl) :
  PE X (.Call (.Name "list" p) [.Call (.Attribute eo "keys" apos) [] [] ppos] [] pos) (XV te):=by
 intro Fj s σ H Q I h
 refine BP (KI I hg hm D9 ?_)
 refine BK ?_ he hpl
 rw[he]
 show wpAny _ _ (spliced ((false,eval (.Call (.Attribute eo "keys" apos) [] [] ppos) X.env)::backTo pos (starEach [] X.env))) _ _ s
 rw[hnil]
 refine DB (wpAny_Call_method0_late hbase hline (HZ (ho Fj s σ H _ I h) λv s1 ⟨x,H1,I1,r1,q1⟩=>?_))
 obtain⟨a,ks,rfl,hd,q⟩:=q1
 cases r1
 obtain⟨z,lo,es,ep,raw,sz,ent⟩:=iS I1 (.inl hd)
 obtain⟨o,ho',hx,hdat⟩:=id raw
 refine⟨"dict", "dict.keys",FO,PySem.F.slot_dict_keys,PySem.F.type_dict_keys,raw.type,λb e=>?_,DG rfl (PySem.evalArgs_none (dJ lo raw ?_))⟩
 ·cases e
  exact⟨o,ho',hx.2.1⟩
 have kp1:∀b u,s1.heap.get? b=some u->(s1.heap.push { cls:=.type "dict_keys",data:=.fields #[.ref a] }).get? b=some u:=λb u e=>AC _ e
 refine AE ?_
 refine W.kdl_call (s:={ s1 with heap:=s1.heap.push { cls:=.type "dict_keys",data:=.fields #[.ref a] } }) (Yn (r:=s1.heap.objs.size) (d:=a) (es:=es) (ep:=ep)) (I1.ok.hd hc) ⟨⟨_,AU _ rfl,rfl,rfl⟩,raw.keep λo e=>kp1 _ _ e⟩ (by rw[sz];exact z) λh' tk acc c kp hS it=>?_
 have I2:Inv X Fj σ H1 { s1 with heap:=s1.heap.push { cls:=.type "dict_keys",data:=.fields #[.ref a] } }:=I1.kept (t':=s1.toks) kp1
 exact Xn I2 z sz ent it kp (AG _) hS q
end
end L2.Ev
namespace L2.Rw
open PySem PySem.W PySem.Calls PyProof.Rows PySem.Spec
open PySem.SeqAt
open PySem.AutoSeq1 (wpAny_loadPart')
open PySem.MeetsSeq PySem.MeetsSeq2 PySem.MeetsSeq3
section
variable{prog:wP}{w:wQ}{A:Around}{E:wD}
theorem ZN{s:wM}{r:wO}{its:wC}{Q:wC->wM->Prop}(ht:IsTup s.heap r its.toArray)(hz:its.length<=sizeLine)
  (hQ:∀h',(∀b o,s.heap.get? b=some o->h'.get? b=some o)->s.heap.objs.size<=h'.objs.size->Q its { s with heap:=h' }):wpAny (model prog w) A (collect (.ref r)) Q E s:=by
 obtain⟨⟨cls,dd,data,sl⟩,ho,hc,n,hd⟩:=ht
 simp only at hc hd
 subst hc hd
 obtain⟨hp,g,d,tk,os⟩:=s
 simp only at ho hQ
 unfold collect
 refine AA (wpAny_runValue (CV Eg ?_))
 rw[CB Eh _]
 show wpAny _ A.in1 (newList []>>=λl=>again (.builtin "list.__iadd__" ⟨[l,.ref r],[]⟩)) _ _ _
 refine AA (BF (AE ⟨Da C7 _,CV FR ?_⟩))
 rw[CB C7 _]
 have hN:(hp.push { cls:=.type "list",data:=.seq ([]:wC).toArray }).get? hp.objs.size=some { cls:=.type "list",dict:=none,data:=.seq ([]:wC).toArray 0,slots:=#[] }:=AU _ rfl
 have hT:(hp.push { cls:=.type "list",data:=.seq ([]:wC).toArray }).get? r=some { cls:=.type "tuple",dict:=dd,data:=.seq its.toArray n,slots:=sl }:=AC _ ho
 have ne:hp.objs.size≠r:=B8 (AS ho)
 unfold Builtin.«list.__iadd__»
 wp_walk using Cs hT,Cs hN
 have hl:(Obj.mapSeq (λx=>x++its.toArray) { cls:=.type "list",data:=.seq (#[]:wK) }).data.pastItsLine=none:=by
  simp [Obj.mapSeq,Data.pastItsLine,sizeOk]
  lia
 rw[hl]
 refine AE ?_
 refine AE ?_
 have hU:=BR (h:=hp.push { cls:=.type "list",data:=.seq (#[]:wK) }) (f:=Obj.mapSeq λx=>x++its.toArray) hN rfl
 refine AA (wpAny_load hU ?_)
 show wpAny _ _ (pure (#[]++its.toArray).toList) _ _ _
 rw[Array.empty_append,List.toList_toArray]
 refine AE (hQ _ (λb o e=>?_) ?_)
 ·exact(A4 _ _ (B8 (AS e))).trans (AC _ e)
 ·rw[EC,size_push'];exact D7 _
end
end L2.Rw
namespace L2.Ev
open PySem PySem.Spec PyProof.Rows
open L2.Ts L2.Pl L2.Rw
theorem TD:R0 (λa b:Int=>decide (a<b)) where
 irr:=λa=>AO (by lia)
 trans:=λ{a b c} h q=>Ab (by have:=BB h;have:=BB q;lia)
 tri:=λ{a b} h q=>by have:=Cn h;have:=Cn q;lia
section
variable{X:Cx}
noncomputable def Pt(l:wB)(p:Keyed):Nat:=match p.1 with
 |.int x _=>K8 (λa b:Int=>decide (a<b)) l x
 |_=>0
abbrev QK(u:wN)(n:Int):Prop:=∃t,u=.int n t
theorem Y6{its:wC}{ns:wB}(h:IntsAre its ns):Paired QK its ns:=by
 induction h with
 |nil=>exact .nil
 |cons a t _ ih=>exact .cons ⟨t,rfl⟩ ih
theorem kF{its:wC}{ns:wB}(h:Paired QK its ns):IntsAre its ns/\HF (ns.map V.int) its:=by
 induction h with
 |nil=>exact⟨.nil,.nil⟩
 |cons r _ ih =>
  obtain⟨t,rfl⟩:=r
  exact⟨.cons _ t ih.1,.cons ⟨t,rfl⟩ ih.2⟩
theorem cM{l0:wB}{out:wC}{m:wB}(h:Paired QK out m)(hm:∀a∈m,a∈l0)(o:out.Pairwise λx y=>Pt l0 (y,y)<=Pt l0 (x,x)):m.Pairwise λa b=>b<=a:=by
 induction h with
 |nil=>exact .nil
 |@cons x a xs m r t ih =>
  obtain⟨o1,o2⟩:=Ay.mp o
  refine Ay.mpr ⟨λb hb=>?_,ih (λb hb=>hm b (AM _ hb)) o2⟩
  obtain⟨y,hy,e⟩:∃y∈xs,QK y b:=by
   have key:∀{xs:wC}{m:wB},Paired QK xs m->b∈m->∃y∈xs,QK y b:=by
    intro xs m t
    induction t with
    |nil=>intro z;cases z
    |cons r t ih =>
     intro z
     rcases AN.mp z with e|z
     ·subst e;exact⟨_,AJ ..,r⟩
     ·obtain⟨y,hy,f⟩:=ih z
      exact⟨y,AM _ hy,f⟩
   exact key t hb
  obtain⟨t1,rfl⟩:=r
  obtain⟨t2,rfl⟩:=e
  have q:K8 (λa b:Int=>decide (a<b)) l0 b<=K8 (λa b:Int=>decide (a<b)) l0 a:=o1 _ hy
  refine Int.not_lt.mp λz=>?_
  have:=(Oh TD (hm a (AJ ..))).mp (Ab z)
  lia
theorem Wm:∀{its:wC}{ns:wB},IntsAre its ns->2<=its.length->keyKind' its.toArray=pure oneType'
 |[],_,_,h=>absurd h (by decide)
 |[_],_,_,h=>absurd h (by show ¬ 2<=1;decide)
 |_::_::_,_,ii,_=>keyKind_ints ii
def ZU(K:wL)(ta:TA):TE:=λσ H Q=>ta σ H λvs H1=>∃(a:wO)(ns:wB),vs=[.ref a]/\HK K H1 a (ns.map V.int) /\
 ∀(p:wO)(l:wB),H1 p=none->l.Perm ns->(l.Pairwise λa b=>b<=a)->Q (.ref p) (Gw H1 p (.lst (l.map V.int)))
theorem sG{e:Expr}{ta:TA}{p pos kp kq:Pos}{j}(hc:X.calm=true)(hu:X.A.units+8<cLine)(hg:Gl X "sorted")(hm:X.mg "sorted" = none)(ha:PA X [e] ta)
  (h1:backTo pos (starEach [e] X.env)=(false,eval e X.env)::backTo pos (starEach [] X.env):=by rfl) (h2:(backTo pos (starEach [e] X.env)).any (·.1)=false:=by rfl) :
  PE X (.Call (.Name "sorted" p) [e] [⟨some (Str.ofString "reverse"),.Constant (.bool true) j kq,kp⟩] pos) (ZU X.K ta):=by
 intro Fj s σ H Q I h
 refine BP (KI I hg hm Fm ?_)
 refine Eb (HZ (ha pos Fj s σ H _ I h) λus s1 ⟨vs,H1,I1,r1,q1⟩=>?_) h1 h2
 obtain⟨a,ns,rfl,hq,q⟩:=q1
 obtain⟨u,rfl,ru⟩:=K5 r1
 cases ru
 refine kws_cons (Constant_bool (kws_nil ?_))
 obtain⟨its,rv,ht,hz⟩:=I1.tuple hq
 have ii:IntsAre its ns:=LR rv
 have pi:=Y6 ii
 have lz:its.length<=sizeLine:=by rw[<-rv.length];exact hz
 refine WQ (κ:=oneType') (M:=λp=>∃x∈ns,∃t,p.1=.int x t) (rk:=Pt ns) lz (λv hv=>?_) (λQ' q'=>ZN ht lz λh' kp sz=>q' h' s1.toks kp sz) (λh' tk kp l2=>⟨λQ' E' q'=>?_,λx y hx hy Q' q'=>?_⟩) λh' tk P c out pm o kp hP hg=>?_
 ·obtain⟨n,hn,t,e⟩:=Paired.mem pi hv
  exact⟨n,hn,t,e⟩
 ·rw[Wm ii l2]
  exact AE q'
 ·obtain⟨n,hn,t,e⟩:=hx
  obtain⟨m,hm',t',e'⟩:=hy
  rw[e,e',keyLt'_oneType]
  refine oneLt_int ?_
  have z:decide (Pt ns x<Pt ns y)=decide (n<m):=by
   unfold Pt
   rw[e,e']
   have:=Oh TD hn (b:=m)
   by_cases c:n<m
   ·rw[Ab c,Ab (this.mp (Ab c))]
   ·rw[AO c,AO λz=>c (BB (this.mpr z))]
  rw[z]at q'
  exact q'
 ·obtain⟨m,p1,bm⟩:=Paired.perm pm pi
  obtain⟨i2,v2⟩:=kF bm
  have lo:(m.map V.int).length<=sizeLine:=by rw[v2.length,pm.length_eq];exact lz
  exact⟨.ref P,Gw H1 P (.lst (m.map V.int)),I1.laid (a:=P) (o:=.lst (m.map V.int)) (t':=tk) kp hP ⟨lo,out,c,v2,hg⟩,rfl,q P m (I1.hok.fresh hP) p1 (cM bm (λa ha=>p1.mem_iff.mp ha) o)⟩
end
end L2.Ev
namespace L2.Ev
open PySem PySem.Spec PyProof.Rows
open L2.Pl
end L2.Ev
namespace L2.Ev
open PySem PySem.Spec PyProof.Rows
open L2.Ts L2.Pl L2.Rw
section
variable{X:Cx}{α:Type}[D:Dat α][S:JC α]
theorem YS{Fj:wF}{σ:St}{H:Hp}{s:wM}{r:wO}{its:wC}{l:List α}{Q:VK}(hu:X.A.units+8<cLine)(I:Inv X Fj σ H s)(hb:J1 α H its l)(hz:its.length<=sizeLine)(hok:2<=l.length->∀a∈l,S.ok a)
  (LA:∀(Q':wC->wM->Prop),(∀h' tk,(∀b o,s.heap.get? b=some o->h'.get? b=some o)->s.heap.objs.size<=h'.objs.size->Q' its { s with heap:=h',toks:=tk })->wpAny (model X.prog X.w) X.A.in1 (collect (.ref r)) Q' X.xe s)
  (q:∀(p:wO)(vs:List V)(l':List α),H p=none->l'.Perm l->(l'.Pairwise λa b=>S.lt a b=false)->Hs H vs l'->Q (.ref p) (Gw H p (.lst vs))) :
  wpAny (model X.prog X.w) X.A (call (.builtin "sorted") [.ref r] [(Str.ofString "reverse",.bool true)]) (EP X Fj σ Q) X.xe s:=by
 refine WQ (κ:=tuples' S.plain) (M:=λp=>∃a∈l,∃v,HE v p.1/\D.is H v a) (rk:=MC α H l) hz (λv hv=>?_) LA (λh' tk kp l2=>?_) λh' tk P e out p o kp hP hg=>?_
 ·obtain⟨a,ha,d⟩:=Paired.mem hb hv
  exact⟨a,ha,d⟩
 ·exact RT (A:=X.A.in1.in1) (by show X.A.units+1+1+4<cLine;lia) hb (hok (by rw[<-AL hb];exact l2)) (I.kept (t':=tk) kp) l2
 ·exact Yc I hb hz p o kp hP hg q
end
section
variable{X:Cx}
theorem RU:∀{a b:wB},a.Perm b->(a.Pairwise λx y=>y<=x)->(b.Pairwise λx y=>y<=x)->a=b
 |[],b,h,_,_=>(List.nil_perm.mp h).symm
 |x::a,[],h,_,_=>absurd h.symm (by simp)
 |x::a,y::b,h,ha,hb=>by
  obtain⟨a1,a2⟩:=Ay.mp ha
  obtain⟨b1,b2⟩:=Ay.mp hb
  have e:x=y:=by
   have h1:x∈y::b:=h.mem_iff.mp (AJ ..)
   have h2:y∈x::a:=h.mem_iff.mpr (AJ ..)
   rcases AN.mp h1 with e|m1
   ·exact e
   ·rcases AN.mp h2 with e|m2
    ·exact e.symm
    ·have:=b1 x m1
     have:=a1 y m2
     lia
  subst e
  rw[RU (List.perm_cons x |>.mp h) a2 b2]
noncomputable def Pp(x:Int):wB->wB
 |[]=>[x]
 |y::l=>if y<=x then x::y::l else y::Pp x l
noncomputable def Iu(l:wB):wB:=l.foldr Pp []
theorem Y0(x:Int):∀l,(Pp x l).Perm (x::l)
 |[]=>.refl _
 |y::l=>by
  unfold Pp
  split
  ·exact .refl _
  ·exact((Y0 x l).cons y).trans (.swap ..)
theorem sY(x:Int):∀{l:wB},(l.Pairwise λa b=>b<=a)->((Pp x l).Pairwise λa b=>b<=a)
 |[],_=>Dy _ _
 |y::l,h=>by
  obtain⟨h1,h2⟩:=Ay.mp h
  unfold Pp
  split
  ·rename_i c
   exact Ay.mpr ⟨λz hz=>(AN.mp hz).elim (λe=>e▸c) λm=>by have:=h1 z m;lia,h⟩
  ·rename_i c
   refine Ay.mpr ⟨λz hz=>?_,sY x h2⟩
   rcases AN.mp ((Y0 x l).mem_iff.mp hz) with e|m
   ·lia
   ·exact h1 z m
theorem Qr:∀l,(Iu l).Perm l
 |[]=>.refl _
 |x::l=>(Y0 x (Iu l)).trans ((Qr l).cons x)
theorem XR:∀l,(Iu l).Pairwise λa b=>b<=a
 |[]=>.nil
 |x::l=>sY x (XR l)
theorem Rk{a l:wB}(h:a.Perm l)(f:a.Pairwise λx y=>y<=x):a=Iu l:=RU (h.trans (Qr l).symm) f (XR l)
end
end L2.Ev
namespace L2.Ev
open PySem PySem.Spec PyProof.Rows L2 L2.Pl
end L2.Ev
namespace L2.Ev
open PySem PySem.Spec PyProof.Rows
open L2.Ts L2.Pl L2.Rw
section
variable{X:Cx}{Fj:wF}{σ:St}{H:Hp}{s:wM}{A:Around}{E':wD}
theorem tO(I:Inv X Fj σ H s):∀{its:wC}{l:List wB},J1 wB H its l->∀{Q:List wI->wM->Prop},(∀fs:List wI,fs.map (·.isSome)=l.map (λr=>!r.isEmpty)->Q fs s)->wpAny (model X.prog X.w) A (its.mapM firstOfTuple') Q E' s
 |[],[],.nil,Q,q=>by
  rw[List.mapM_nil]
  exact AE (q [] rfl)
 |u::its,r::l,.cons h t,Q,q=>by
  obtain⟨v,rv,dv⟩:=h
  obtain⟨p,rfl,hp⟩:=JU dv
  cases rv
  obtain⟨o,xs,n,ho,hc,hd,rvv⟩:=Mw I hp
  rw[List.mapM_cons]
  refine AA ?_
  rw[W.kas_first_eq]
  refine AA (W.Looks.here (show W.Looks (model X.prog X.w) s.heap (typeOf (.ref p)) o.cls from(EB ho).andThen .now) ?_)
  rw[hc,AD (by first|decide|simp)]
  refine AA (listItems_at ho hd (AE ?_))
  refine AA (tO I t (Q:=λbs s'=>wpAny (model X.prog X.w) A (pure (xs.toArray[0]?::bs)) Q E' s') λfs e=>AE (q _ ?_))
  rw[An,An,e]
  congr 1
  have l1:=rvv.length
  rw[AB]at l1
  cases r with
  |nil =>
   have:xs=[]:=C8.mp (by simpa using l1.symm)
   subst this
   rfl
  |cons x r =>
   cases xs with
   |nil=>simp at l1
   |cons y xs=>rfl
theorem jS(I:Inv X Fj σ H s){its:wC}{l:List wB}(hb:J1 wB H its l)(hm:[]∈l){Q:SortKind->wM->Prop}(q:Q (if (l.headD []).isEmpty=true then oneType' else general') s):wpAny (model X.prog X.w) A (keyKind' its.toArray) Q E' s:=by
 rw[PyProof.Rows.kat_kind_eq,List.mapM_toArray,map_eq_pure_bind]
 refine AA (AA (tO I hb λfs e=>AE ?_))
 have h1:(fs.toArray.all λx=>x.isSome)=false:=by
  rw[List.all_toArray]
  have:fs.all (λx=>x.isSome)=(fs.map (·.isSome)).all id:=by rw[Dn];rfl
  rw[this,e]
  refine D1.mpr λz=>?_
  have:=AZ.mp z _ (AY.mpr ⟨[],hm,rfl⟩)
  cases this
 rw[AD (by rw[h1];decide)]
 cases l with
 |nil=>cases hm
 |cons r l =>
  cases hb with
  |@cons u _ its' _ h t =>
   cases fs with
   |nil=>simp at e
   |cons f fs =>
    rw[An,An]at e
    injection e with e1 e2
    show wpAny _ _ (if (f).isSome=true then pure general' else _) _ _ _
    rw[List.headD_cons]at q
    cases c:r.isEmpty with
    |false =>
     rw[c]at e1 q
     rw[AF (by rw[e1];rfl)]
     exact AE q
    |true =>
     rw[c]at e1 q
     rw[AD (by rw[e1];decide)]
     rw[oneTypeOnly'_eq,List.mapM_toArray,map_eq_pure_bind]
     have ty:∀v∈u::its',∀(Q':wD),Q' (.type "tuple") s->wpAny (model X.prog X.w) A (typeOf v) Q' E' s:=λv hv Q' hq=>by
      obtain⟨a,_,v',rv,dv⟩:=Paired.mem (Paired.cons h t) hv
      obtain⟨p,rfl,hp⟩:=JU dv
      cases rv
      obtain⟨o,xs,n,ho,hc,hd,rvv⟩:=Mw I hp
      exact W.Looks.here (show W.Looks (model X.prog X.w) s.heap (typeOf (.ref p)) (.type "tuple") from hc▸(EB ho).andThen .now) hq
     refine AA (AA (AA (W.kas_mapM (r:=Value.type "tuple") _ ty (AE ?_))))
     have hall2:((List.map (λ_=>Value.type "tuple") (u::its')).toArray.all λx=>x==Value.type "tuple")=true:=by
      simp only[List.all_toArray,Dn,AZ]
      intro _ _
      show(Value.type "tuple" == Value.type "tuple")=true
      decide
     have h0:(List.map (λ_=>Value.type "tuple") (u::its')).toArray[0]?=some (Value.type "tuple"):=by simp
     rw[h0]
     refine AE ?_
     rw[AF hall2]
     exact AE q
theorem qA(I:Inv X Fj σ H s)(hu:A.units+1<cLine){p p':wO}{a b:wB}(h:H p=some (.tup (a.map V.int)))(h':H p'=some (.tup (b.map V.int))){Q:Bool->wM->Prop}(q:Q (Hv a b) s):wpAny (model X.prog X.w) A (keyLt' general' (.ref p) (.ref p')) Q (λ_ _=>False) s:=by
 obtain⟨its,r1,p1,_⟩:=I.tuple (HK.of h)
 obtain⟨its2,r2,p2,_⟩:=I.tuple (HK.of h')
 show wpAny _ _ (oneLt' false (.ref p) (.ref p')) _ _ _
 refine EK _ _ (HT.lt_tupInts p1 p2 (LR r1) (LR r2) (by lia) ?_)
 rw[MU]
 exact q
theorem YB(I:Inv X Fj σ H s)(hu:A.units+1<cLine){p p':wO}{a b:wB}(h:H p=some (.tup (a.map V.int)))(h':H p'=some (.tup (b.map V.int))){Q:Bool->wM->Prop}(q:Q (Hv a b) s):wpAny (model X.prog X.w) A (keyLt' oneType' (.ref p) (.ref p')) Q (λ_ _=>False) s:=by
 obtain⟨its,r1,p1,_⟩:=I.tuple (HK.of h)
 obtain⟨its2,r2,p2,_⟩:=I.tuple (HK.of h')
 obtain⟨⟨cls,dd,data,sl⟩,ho,hc,n,hd⟩:=id p1
 obtain⟨⟨cls2,dd2,data2,sl2⟩,ho2,hc2,n2,hd2⟩:=id p2
 simp only at hc hd hc2 hd2
 subst hc hd hc2 hd2
 rw[keyLt'_oneType,oneLt'_eq]
 simp only[CD]
 refine AA (wpAny_cRoomFor (by lia) ?_)
 refine AA (wpAny_callSpecialIfBound?_slot ⟨_,ho,rfl⟩ ED (DE ED ⟨_,ho,rfl⟩ Fc (FL _ _) (HT.tuple_lt_ints p p' its.toArray its2.toArray n n2 dd dd2 sl sl2 a b (LR r1) (LR r2)) ⟨ho,ho2,?_⟩))
 show wpAny _ _ (truthOfDropped (.bool (HT.lexLt a b))) _ _ _
 rw[MU]
 exact CY q
end
section
variable{X:Cx}
theorem iO{Fj:wF}{σ:St}{H:Hp}{s:wM}{r:wO}{its:wC}{l:List wB}{Q:VK}(hu:X.A.units+8<cLine)(I:Inv X Fj σ H s)(hb:J1 wB H its l)(hz:its.length<=sizeLine)
  (LA:∀(Q':wC->wM->Prop),(∀h' tk,(∀b o,s.heap.get? b=some o->h'.get? b=some o)->s.heap.objs.size<=h'.objs.size->Q' its { s with heap:=h',toks:=tk })->wpAny (model X.prog X.w) X.A.in1 (collect (.ref r)) Q' X.xe s)
  (q:∀(p:wO)(vs:List V)(l':List wB),H p=none->l'.Perm l->(l'.Pairwise λa b=>Hv a b=false)->Hs H vs l'->Q (.ref p) (Gw H p (.lst vs))) :
  wpAny (model X.prog X.w) X.A (call (.builtin "sorted") [.ref r] [(Str.ofString "reverse",.bool true)]) (EP X Fj σ Q) X.xe s:=by
 by_cases c:[]∈l
 ·refine WQ (κ:=if (l.headD []).isEmpty=true then oneType' else general') (M:=λp=>∃a∈l,∃v,HE v p.1/\Dat.is H v a) (rk:=MC wB H l) hz (λv hv=>?_) LA (λh' tk kp l2=>⟨λQ' E' q'=>jS (I.kept (t':=tk) kp) hb c q',?_⟩) λh' tk P e out p o kp hP hg=>?_
  ·obtain⟨a,ha,d⟩:=Paired.mem hb hv
   exact⟨a,ha,d⟩
  ·intro x y hx hy Q q
   have I2:=I.kept (t':=tk) kp
   obtain⟨a,ha,v,rv,dv⟩:=hx
   obtain⟨b,hb',v',rv',dv'⟩:=hy
   rw[QB rv dv,QB rv' dv']at q
   have e:decide (K8 (JC.lt (α:=wB)) l a<K8 (JC.lt (α:=wB)) l b)=Hv a b:=by
    show _=JC.lt (α:=wB) a b
    cases c:JC.lt (α:=wB) a b with
    |true=>exact Ab ((Oh JC.lin ha).mp c)
    |false=>exact AO λz=>by rw[(Oh JC.lin ha).mpr z]at c;cases c
   rw[e]at q
   obtain⟨p1,rfl,hp1⟩:=JU dv
   obtain⟨p2,rfl,hp2⟩:=JU dv'
   obtain⟨x1,x2⟩:=x
   obtain⟨y1,y2⟩:=y
   cases rv
   cases rv'
   split
   ·exact YB I2 (by show X.A.units+1+1+1<cLine;lia) hp1 hp2 q
   ·exact qA I2 (by show X.A.units+1+1+1<cLine;lia) hp1 hp2 q
  ·exact Yc I hb hz p o kp hP hg q
 ·exact YS hu I hb hz (λ_ a ha=>show a≠[] from λe=>c (by rw[<-e];exact ha)) LA q
def jG(ta:TA):TE:=λσ H Q=>ta σ H λvs H1=>∃(a:wO)(d:List Gi),vs=[.ref a]/\Rd H1 a (.dT (IS d)) /\
 ∀(p:wO)(vs:List V)(ks:List Pw),H1 p=none->ks.Perm (d.map (·.1))->(ks.Pairwise λa b=>Hv a b=false)->Hs H1 vs ks->Q (.ref p) (Gw H1 p (.lst vs))
theorem nO{e:Expr}{ta:TA}{p pos kp kq:Pos}{j}(hc:X.calm=true)(hu:X.A.units+8<cLine)(hg:Gl X "sorted")(hm:X.mg "sorted" = none)(ha:PA X [e] ta)
  (h1:backTo pos (starEach [e] X.env)=(false,eval e X.env)::backTo pos (starEach [] X.env):=by rfl) (h2:(backTo pos (starEach [e] X.env)).any (·.1)=false:=by rfl) :
  PE X (.Call (.Name "sorted" p) [e] [⟨some (Str.ofString "reverse"),.Constant (.bool true) j kq,kp⟩] pos) (jG ta):=by
 intro Fj s σ H Q I h
 refine BP (KI I hg hm Fm ?_)
 refine Eb (HZ (ha pos Fj s σ H _ I h) λus s1 ⟨vs,H1,I1,r1,q1⟩=>?_) h1 h2
 obtain⟨a,d,rfl,hR,q⟩:=q1
 obtain⟨u,rfl,ru⟩:=K5 r1
 cases ru
 refine kws_cons (Constant_bool (kws_nil ?_))
 obtain⟨z,lo,es,ep,raw,sz,ent⟩:=WJ I1 hR
 have hb:J1 wB H1 (es.toList.map (·.key)) (d.map (·.1)):=by
  have key:∀{l:List wT}{d:List Gi},Paired (λ(e:wT)(t:Gi)=>(∃p,e.key=.ref p/\H1 p=some (.tup (t.1.map V.int)))/\HE (.int t.2) e.val) l d->J1 wB H1 (l.map (·.key)) (d.map (·.1)):=by
   intro l d h
   induction h with
   |nil=>exact .nil
   |cons r t ih =>
    obtain⟨⟨p,e1,e2⟩,_⟩:=r
    exact .cons ⟨.ref p,e1,Js e2⟩ ih
  exact key ent
 have ln:(es.toList.map (·.key)).length<=sizeLine:=by rw[AB,AR,sz];exact z
 refine iO hu I1 hb ln (λQ' q'=>sI (Rj lo) (I1.ok.hd hc) raw (by rw[sz];exact z) λh' tk acc kp szz it=>?_) q
 ·have e:acc.toList=es.toList.map (·.key):=by
   refine DM λi=>?_
   rw[A6,Al,A6]
   by_cases c:i<es.size
   ·have ci:i<acc.size:=by rw[it.1];exact c
    obtain⟨_,e⟩:=it.2 i acc[i] (AH ci)
    rw[AH ci,AH c,e]
    rfl
   ·rw[Bq (by rw[it.1];lia),Bq (by lia)]
    rfl
  rw[e]
  exact q' h' tk kp szz
end
end L2.Ev
namespace L2.Ev
open PySem PySem.Spec PyProof.Rows
open PySem.W PySem.Calls Builtin Builtin.ObjectAttr
def WU:wN->Bool
 |.ref _=>true
 |_=>false
noncomputable def QV(l:wC):Bool:=l.dropWhile WU==[.type "ValueError",.type "Exception",.type "BaseException",.type "object"]
theorem tM(self:wN)(what:Str):∀l:wC,refuseLoop self what l=refuseLoop self what (l.dropWhile WU)
 |[]=>rfl
 |v::r=>by
  rw[List.dropWhile_cons]
  cases h:WU v with
  |true =>
   obtain⟨c,rfl⟩:∃c,v=.ref c:=by
    cases v<;>first|exact⟨_,rfl⟩|cases h
   rw[AF rfl,refuseLoop_ref]
   exact tM self what r
  |false=>rw[AD (by decide)]
theorem aQ(self:wN){l:wC}(h:QV l=true):refuseLoop self "__setattr__" l=pure ():=by
 rw[tM,show l.dropWhile WU=_ from beq_iff_eq.mp h]
 exact PySem.F.store_ValueError.passes self
section
variable{prog:wP}{w:wQ}{K:Frag}{x C:wO}{s:wM}{A:Around}{R:Result->wM->Prop}
theorem VG{ox:Obj}{od:Option Obj}{cd:ClassData}{name:Str}{tk:Tok}{v:wN}(X:K.In s.heap)(I:InstAt s.heap x ox C od)(k:Ja K C)(hc:clsIn K C=some cd)(hv:QV cd.mro=true)(hf:findIn K (.ref C) name=some none)
  (q:wpAny (model prog w) A.in1 (storeInOwnDict (.ref x) (.ref C) (.str name tk) name v false) (λfin s'=>match fin with|.done f=>R (.ok f) s'|.again c'=>c'.quiet=true/\codeAny (model prog w) A c' R s') (λe s'=>R (.error e) s') s) :
  codeAny (model prog w) A (.call (.builtin "object.__setattr__") ⟨[.ref x,.str name tk,v],[]⟩) R s:=by
 have SF:=PySem.F.store_object
 have isO:Looks (model prog w) s.heap (isInstance (.ref x) (.type "object")) true:=I.type.andThen (Fn X k.obj)
 have mro:Looks (model prog w) s.heap (mroOf (.ref C)) cd.mro:=(looks_clsIn X hc).andThen .now
 refine Cy SF.slot.plain SF.entry (@check_slot (model prog w) _ _ s "object.__setattr__" "object" "__setattr__" (.ref x) [.str name tk,v] [] _ SF.kind SF.split isO (SF.args (.ref x) (.str name tk) v) ?_)
 rw[osa_eq,refuse_eq]
 refine AA (AA (I.type.here (AA (mro.here ?_))))
 rw[aQ _ hv]
 refine AE (AA (I.type.here (AA ((Dt X hf).here (AA (AE ?_))))))
 exact q
theorem jY{cd:ClassData}{name:Str}{tk:Tok}{v:wN}{b:Bool}{oda:Data}{osl:Array wI}{Q:Fin->wM->Prop}{E:wD}(X:K.In s.heap)(hc:clsIn K C=some cd)(hd:cd.hasDict=true)(hx:s.heap.get? x=some { cls:=.ref C,dict:=none,data:=oda,slots:=osl })(hnc:∀c,oda≠.cls c)
  (q:∀h' tk',h'.get? x=some { cls:=.ref C,dict:=some s.heap.objs.size,data:=oda,slots:=osl }->h'.Ns1 s.heap.objs.size (λy=>if y=name then some v else none)->(∀b o,b≠x->s.heap.get? b=some o->h'.get? b=some o)->Q (.done (.ret .none)) { s with heap:=h',toks:=tk' }) :
  wpAny (model prog w) A (storeInOwnDict (.ref x) (.ref C) (.str name tk) name v b) Q E s:=by
 refine AA (AE (AA (AA (Gd hx (AA ((looks_clsIn X hc).here ?_))))))
 rw[hd,AD (by decide)]
 show wpAny _ _ (if (!true||!typeHasDict (.ref C))=true then pure none else _) _ _ _
 rw[AD (by show ¬ ((!true||!true)=true);decide)]
 have new:wpAny (model prog w) A (alloc { cls:=.type "dict",data:=.dict #[] }>>=λd=>update x (λo=>{ o with dict:=some d })>>=λ_=>dictMade (.ref C) x d) (λa s'=>wpAny (model prog w) A (match a with|some d=>storeInDict d (.str name tk) name v|none=>noDictFor (.ref x) (.ref C) name b) Q E s') E s:=by
  have hx1:=AC { cls:=.type "dict",data:=.dict #[] } hx
  have nx:x≠s.heap.objs.size:=As (AS hx)
  refine AA (wpAny_alloc' (AA (wpAny_update' hx1 (AE ?_))))
  have self':((s.heap.push { cls:=.type "dict",data:=.dict #[] }).update x λo=>{ o with dict:=some s.heap.objs.size }).get? x=some { cls:=.ref C,dict:=some s.heap.objs.size,data:=oda,slots:=osl }:=by
   refine BR _ hx1 ?_
   have hfr:=(Heap.get?_some_iff.mp hx).2
   cases oda<;>first|rfl|exact hfr
  have dct:((s.heap.push { cls:=.type "dict",data:=.dict #[] }).update x λo=>{ o with dict:=some s.heap.objs.size }).get? s.heap.objs.size=some { cls:=.type "dict",data:=.dict #[] }:=(Df _ _ _ _ nx.symm).trans (Heap.get?_push_at rfl rfl)
  have emp:((s.heap.push { cls:=.type "dict",data:=.dict #[] }).update x λo=>{ o with dict:=some s.heap.objs.size }).Ns s.heap.objs.size (λ_=>none):=⟨_,#[],_,dct,rfl,λe he=>absurd he (by simp),λ_=>rfl⟩
  have oth:∀b o,b≠x->s.heap.get? b=some o->((s.heap.push { cls:=.type "dict",data:=.dict #[] }).update x λo=>{ o with dict:=some s.heap.objs.size }).get? b=some o:=λb o hb e=>(Df _ _ _ _ hb).trans (AC _ e)
  show wpAny _ _ (storeInDict s.heap.objs.size (.str name tk) name v) _ _ _
  unfold storeInDict newKeyGuard
  refine AA (AE (AA (wpAny_nsSet1 (Heap.Ns1.of_empty emp) λh' hn2 hs2=>?_)))
  obtain⟨oD,esD,epD,hoD,hdD,hcD⟩:=hn2.count (Ex name v PySem.Within.nil)
  refine AA (wpAny_lookBehind hoD (by rw[hdD];exact pastItsLine_dict (A9 hcD (by rw[Aj,Cp,Fi];lia))) ?_)
  exact AE (q h' _ ((hs2.2 _ nx).trans self') hn2 λb' o' h1 h2=>(hs2.2 _ (As (AS h2))).trans (oth b' o' h1 h2))
 cases oda<;>first|exact new|exact absurd rfl (hnc _)
theorem bA{cd:ClassData}{mA:Str->wI}{ns:wG}{name:Str}{tk:Tok}{v:wN}{b:Bool}{ob:Obj}{dx:wO}{Q:Fin->wM->Prop}{E:wD}(X:K.In s.heap)(hc:clsIn K C=some cd)(hd:cd.hasDict=true)(hx:s.heap.get? x=some ob)(hcl:ob.cls=.ref C)(hdx:ob.dict=some dx)(hns:s.heap.Ns1 dx mA)(wi:Within mA ns)(hz:ns.length<1000)
  (q:∀h' tk',h'.Ns1 dx (λy=>if y=name then some v else mA y)->(∀b o,b≠dx->s.heap.get? b=some o->h'.get? b=some o)->Q (.done (.ret .none)) { s with heap:=h',toks:=tk' }) :
  wpAny (model prog w) A (storeInOwnDict (.ref x) (.ref C) (.str name tk) name v b) Q E s:=by
 obtain⟨oc,odi,oda,osl⟩:=ob
 dsimp only at hcl hdx
 subst hcl hdx
 have line:ns.length+1<=sizeLine:=by rw[Fi];lia
 refine AA (AE (AA (AA (Gd hx (AA ((looks_clsIn X hc).here ?_))))))
 rw[hd]
 refine AE (a:=some dx) (AA (AE (AA ?_)))
 refine wpAny_nsSet1 hns λh' hn2 hs2=>?_
 obtain⟨oD,esD,epD,hoD,hdD,hcD⟩:=hn2.count (Ex name v wi)
 refine AA (wpAny_lookBehind hoD (by rw[hdD];exact pastItsLine_dict (A9 hcD (by rw[Aj];lia))) ?_)
 exact AE (q _ _ hn2 λb' o' h1 h2=>(hs2.2 _ h1).trans h2)
end
def xI(a C:wO)(d:Option wO):HO:=.ext λh=>∃ob vs,h.get? a=some ob/\ob.cls=.ref C/\ob.data=.fields vs/\vs.size=6/\vs[1]?=some .none/\ob.dict=d
def xD(d:wO)(fs:List (Str×V)):HO:=.ext λh=>∃mA,h.Ns1 d mA/\(∀f,IY (fs.lookup f) (mA f))/\Within mA (fs.map (·.1))
theorem UI{h h':Heap}{d:wO}{mA:Str->wI}(n:h.Ns1 d mA)(k:∀o,h.get? d=some o->h'.get? d=some o):h'.Ns1 d mA:=by
 obtain⟨o,es,ep,e,r⟩:=n
 exact⟨o,es,ep,k _ e,r⟩
section
variable{P:wP}{w:wQ}{H:Hp}{h:Heap}{a C d:wO}
theorem N7{od:Option wO}{ob:Obj}{vs:wK}(e:h.get? a=some ob)(c:ob.cls=.ref C)(f:ob.data=.fields vs)(z:vs.size=6)(n:vs[1]?=some .none)(dd:ob.dict=od):HR P w H h a (xI a C od) :=
 ⟨⟨ob,vs,e,c,f,z,n,dd⟩,⟨ob,e⟩,λh1 h2 ⟨ob,vs,e,r⟩ k=>⟨ob,vs,k _ e,r⟩⟩
theorem SM{fs:List (Str×V)}{mA:Str->wI}(n:h.Ns1 d mA)(r:∀f,IY (fs.lookup f) (mA f))(wi:Within mA (fs.map (·.1))):HR P w H h d (xD d fs) :=
 ⟨⟨mA,n,r,wi⟩,let ⟨o,_,_,e,_⟩:=n;⟨o,e⟩,λh1 h2 ⟨mA,n,r⟩ k=>⟨mA,UI n k,r⟩⟩
end
noncomputable def MT(K:Frag)(C:wO):Bool:=(clsIn K C).any λcd=>QV cd.mro&&cd.hasDict
structure KO(K:Frag)(C:wO):Prop where
 k:Ja K C
 st:MT K C=true
 sa:findIn K (.ref C) "__setattr__" = some (some (.builtin "object.__setattr__"))
theorem KO.cls{K:Frag}{C:wO}(c:KO K C):∃cd,clsIn K C=some cd/\QV cd.mro=true/\cd.hasDict=true:=by
 have z:=c.st
 unfold MT at z
 cases e:clsIn K C with
 |none=>rw[e]at z;cases z
 |some cd =>
  rw[e]at z
  have z:(QV cd.mro&&cd.hasDict)=true:=z
  rw[AK]at z
  exact⟨cd,rfl,z.1,z.2⟩
section
variable{X:Cx}{Fj:wF}{σ:St}{H:Hp}{s:wM}{a C dx:wO}{f:Str}{y:V}{u:wN}{A:Around}{E:wD}{Q:Unit->wM->Prop}
theorem qO(I:Inv X Fj σ H s)(e:H a=some (xI a C none))(c:KO X.K C)(n:findIn X.K (.ref C) f=some none)(ry:HE y u)
  (q:∀(d:wO)(s':wM),H d=none->d≠a->Inv X Fj σ (Gw (Gw H d (xD d [(f,y)])) a (xI a C (some d))) s'->Q () s'):wpAny (model X.prog X.w) A (setAttr (.ref a) f u) Q E s:=by
 obtain⟨⟨ob,vs,hx,hc,hdt,z6,h1,hdn⟩,_⟩:=(show HR X.prog X.w H s.heap a (xI a C none) from I.hok a _ e)
 obtain⟨oc,od,oda,osl⟩:=ob
 dsimp only at hc hdt hdn
 subst hc hdt hdn
 obtain⟨cd,hcd,hv,hd⟩:=c.cls
 have J:InstAt s.heap a ⟨.ref C,none,.fields vs,osl⟩ C none:=⟨hx,rfl,rfl,True.intro⟩
 refine set_plain I.kIn J c.sa (VG (s:={ s with toks:=s.toks+1 }) I.kIn J c.k hcd hv n (jY (s:={ s with toks:=s.toks+1 }) I.kIn hcd hd hx (by intro _ z;cases z) λh' tk' g1 g2 g3=>?_))
 have na:s.heap.objs.size≠a:=B8 (AS hx)
 have fr:=I.hok.fresh (AG s.heap.objs.size)
 have b1:(h'.update a λ_=>⟨.ref C,none,.fields vs,osl⟩).get? a=some ⟨.ref C,none,.fields vs,osl⟩:=BR _ g1 rfl
 have b2:∀b,b≠a->(h'.update a λ_=>⟨.ref C,none,.fields vs,osl⟩).get? b=h'.get? b:=λb hb=>Df _ _ _ _ hb
 have I1:Inv X Fj σ (Gw H s.heap.objs.size (xD s.heap.objs.size [(f,y)])) { s with heap:=h'.update a λ_=>⟨.ref C,none,.fields vs,osl⟩,toks:=tk' }:=by
  refine I.laid (λb o z=>?_) (AG _) (SM (UI g2 λo z=>(b2 _ na).trans z) (λg=>?_) (Ex f u PySem.Within.nil))
  ·by_cases hb:b=a
   ·subst hb
    rw[b1,<-z,hx]
   ·rw[b2 b hb]
    exact g3 b o hb z
  ·show IY ([(f,y)].lookup g) (if g=f then some u else none)
   rw[B2]
   by_cases hg:g=f
   ·rw[AF hg,hg]
    simp
    exact ry
   ·rw[AD hg,show(g==f)=false from beq_eq_false_iff_ne.mpr hg]
    exact True.intro
 have I2:=I1.write (x:=a) (e:=a) (o:=xI a C (some s.heap.objs.size)) (h':=h') (t':=tk') (by rw[Hf (B7 na),e];exact True.intro) (.inl rfl) (λb o hb z=>by rw[<-b2 b hb];exact z) ⟨_,g1⟩ (N7 g1 rfl rfl z6 h1 rfl)
 exact q _ _ fr na I2
theorem Zn{fs:List (Str×V)}(I:Inv X Fj σ H s)(e:H a=some (xI a C (some dx)))(ed:H dx=some (xD dx fs))(c:KO X.K C)(n:findIn X.K (.ref C) f=some none)(hl:fs.length<900)(ry:HE y u)
  (q:∀s':wM,Inv X Fj σ (Gw H dx (xD dx (LU f y fs))) s'->Q () s'):wpAny (model X.prog X.w) A (setAttr (.ref a) f u) Q E s:=by
 obtain⟨⟨ob,vs,hx,hc,hdt,z6,h1,hdn⟩,_⟩:=(show HR X.prog X.w H s.heap a (xI a C (some dx)) from I.hok a _ e)
 obtain⟨⟨mA,hns,rl,wi⟩,⟨od,hod⟩,_⟩:=(show HR X.prog X.w H s.heap dx (xD dx fs) from I.hok dx _ ed)
 obtain⟨cd,hcd,hv,hd⟩:=c.cls
 have J:InstAt s.heap a ob C (some od):=⟨hx,hc,by unfold notCls;rw[hdt],by rw[hdn];exact hod⟩
 refine set_plain I.kIn J c.sa (VG (s:={ s with toks:=s.toks+1 }) I.kIn J c.k hcd hv n (bA (s:={ s with toks:=s.toks+1 }) I.kIn hcd hd hx hc hdn hns wi (by rw[AB];lia) λh' tk' g1 g2=>?_))
 refine q _ (I.write (x:=dx) (e:=dx) (t':=tk') (by rw[ed];exact True.intro) (.inl rfl) g2 (let ⟨o,_,_,z,_⟩:=g1;⟨o,z⟩) (SM g1 (λg=>?_) λg hg=>?_))
 ·show IY ((LU f y fs).lookup g) (if g=f then some u else mA g)
  rw[qZ]
  by_cases z:g=f
  ·rw[AF z,AF z];exact ry
  ·rw[AD z,AD z];exact rl g
 ·by_cases z:g=f
  ·rw[z];exact(pI f y fs).1
  ·refine(pI f y fs).2 g (wi g λz'=>hg ?_)
   show(if g=f then some u else mA g)=none
   rw[AD z];exact z'
def qQ(K:Frag)(ta tv:TE)(f:Str):TS:=λD σ H=>tv σ H λy H1=>ta σ H1 λx H2=>∃a C,x=.ref a/\KO K C/\findIn K (.ref C) f=some none /\
 ((H2 a=some (xI a C none)/\∀d,H2 d=none->d≠a->D.nx σ (Gw (Gw H2 d (xD d [(f,y)])) a (xI a C (some d)))) ∨
  (∃d fs,H2 a=some (xI a C (some d))/\H2 d=some (xD d fs)/\fs.length<900/\D.nx σ (Gw H2 d (xD d (LU f y fs)))))
theorem PF{o value:Expr}{ta tv:TE}{pos pos':Pos}(ha:PE X o ta)(hv:PE X value tv)(hs:swapsWith value (some (.Attribute o f pos')) pos.line X.env=pure false):PS X (.Assign [.Attribute o f pos'] value pos) (qQ X.K ta tv f):=by
 intro Fj s σ H D I h
 refine plainObj_wpAny_Assign_Attribute (HZ (hv Fj s σ H _ I h) λu s1 ⟨y,H1,I1,ry,q⟩=>HZ (ha Fj s1 σ H1 _ I1 q) λov s2 ⟨x,H2,I2,rx,a,C,ex,c,n,q2⟩=>?_) hs
 subst ex
 obtain rfl:ov=Value.ref a:=rx
 rcases q2 with⟨e,q2⟩|⟨d,fs,e,ed,l,q2⟩
 ·exact qO I2 e c n ry λd s3 h1 h2 I3=>⟨σ,_,I3,q2 d h1 h2⟩
 ·exact Zn I2 e ed c n l ry λs3 I3=>⟨σ,_,I3,q2⟩
end
theorem Xt{K:Frag}{h:Heap}{N:wO}{mN:Str->wI}{n:Str}{v:wN}(X:K.In h)(G:h.Ns N mN)(e:nsIn K N n=some (some v)):mN n=some v:=by
 obtain⟨o,es,ep,ho,hd,_,hf⟩:=G
 unfold nsIn at e
 split at e
 ·rename_i q
  rw[X _ _ q]at ho
  cases ho
  cases hd
  split at e
  ·rename_i he
   cases e
   rw[<-hf]
   unfold nsFind findBy
   rw[<-Array.find?_toList,he]
   rfl
  ·split at e<;>cases e
 ·cases e
noncomputable def Mb(K:Frag)(C fI:wO):Bool:=match K.lookup C with
 |some ⟨.type "type",_,.cls cd,sl⟩=>cd.mro.head?==some (.ref C)&&tailIn K [.type "ValueError",.type "Exception",.type "BaseException",.type "object"] cd.mro.tail&&nsOkIn K cd.ns&&nsIn K cd.ns "__init__" == some (some (.ref fI))&&!cd.hasDel&&(sl.toList.length==6&&sl.toList[4]?==some (some (.builtin "ValueError.__new__")))
 |_=>false
abbrev N3:wC:=[.type "ValueError",.type "Exception",.type "BaseException",.type "object"]
theorem We{K:Frag}{h:Heap}{C fI:wO}(X:K.In h)(q:Mb K C fI=true) :
  ∃bm N nm qn bs hdct sn sub ab col dd k0 k1 k2 k3 k5 mN,h.get? C=some (excClassObj nm qn C N bs bm hdct sn sub ab col dd k0 k1 k2 k3 k5 "ValueError.__new__")/\h.Ns N mN/\mN "__init__" = some (.ref fI)/\OwnTail h N3 bm:=by
 unfold Mb at q
 split at q
 ·rename_i dd cd sl ho
  simp only[AK,E3,Ew]at q
  obtain⟨⟨⟨⟨⟨hm,ht⟩,hok⟩,hni⟩,hdel⟩,hl,h4⟩:=q
  obtain⟨nm,bs,mro,ns,qn,hd,sn,sub,ab,col,del⟩:=cd
  dsimp only at hm ht hok hni hdel
  subst hdel
  obtain⟨bm,rfl⟩:∃bm,mro=.ref C::bm:=by
   cases mro with
   |nil=>cases hm
   |cons v r=>cases hm;exact⟨r,rfl⟩
  obtain⟨l⟩:=sl
  obtain⟨k0,k1,k2,k3,k4,k5,rfl⟩:∃k0 k1 k2 k3 k4 k5,l=[k0,k1,k2,k3,k4,k5]:=by
   match l,hl with
   |[k0,k1,k2,k3,k4,k5],_=>exact⟨_,_,_,_,_,_,rfl⟩
  have h4:k4=some (.builtin "ValueError.__new__"):=by simpa using h4
  subst h4
  exact⟨bm,ns,nm,qn,bs,hd,sn,sub,ab,col,dd,k0,k1,k2,k3,k5,_,X _ _ ho,.of_isNs (isNs_of_in X hok),Xt X (.of_isNs (isNs_of_in X hok)) hni,tail_of_in X ht⟩
 ·cases q
section
variable{X:Cx}{Fj:wF}{σ:St}{H:Hp}{s:wM}{a C dx:wO}{u:wN}{A:Around}{E:wD}{Q:wD}
theorem Y8{od:Option wO}{fI:wO}(I:Inv X Fj σ H s)(e:H a=some (xI a C od))(hv:Mb X.K C fI=true)
  (q:∀s':wM,Inv X Fj σ H s'->Q .none s'):wpAny (model X.prog X.w) A (call (.builtin "ValueError.__init__") [.ref a,u]) Q E s:=by
 have F:=BS
 obtain⟨⟨ob,vs,hx,hc,hdt,z6,h1,hdn⟩,_⟩:=(show HR X.prog X.w H s.heap a (xI a C od) from I.hok a _ e)
 obtain⟨bm,N,nm,qn,bs,hdct,sn,sub,ab,col,dd,k0,k1,k2,k3,k5,mN,hC,hN,hni,T⟩:=We I.kIn hv
 refine Ey (Cy F.init.plain F.initEntry ?_)
 have chk:∀{B:Around}{E':wD}{R:Unit->wM->Prop},R () s->wpAny (model X.prog X.w) B (checkBuiltinCall "ValueError.__init__" ⟨[.ref a,u],[]⟩) R E' s:=by
  intro B E' R r
  obtain⟨hh,g,d,t,os⟩:=s
  exact wpAny_check_init_subT F T hC hx hc r
 refine chk ?_
 have hx1:=AC { cls:=.type "tuple",data:=.seq #[u] } hx
 have l0:0<vs.size:=by lia
 show wpAny _ _ (newTuple [u]>>=λt=>BaseException.bexcPut (.ref a) 0 t>>=λ_=>ret .none) _ _ _
 refine AA (Gb ?_)
 refine AA ?_
 unfold BaseException.bexcPut
 refine AA (BG hx1 hdt (x:=vs[0]) (AH l0) ?_)
 refine AA (Cg hx1 hdt l0 ?_)
 have go:∀{B:Around}{F':wD}{R:Unit->wM->Prop}{s':wM},R () s'->wpAny (model X.prog X.w) B (match vs[0]with|.ref _=>letGo [vs[0]] []|_=>pure ()) R F' s':=by
  intro B F' R s' r
  cases vs[0]<;>first|exact AE r|exact DK r
 have dd:=CL hdt (·.setIfInBounds 0 (Value.ref s.heap.objs.size))
 have sx:=BR (Obj.mapFields (·.setIfInBounds 0 (Value.ref s.heap.objs.size))) hx1 (Cq dd)
 refine go (AE (q _ ?_))
 have W:=I.write (x:=a) (e:=a) (o:=xI a C od) (h':=(s.heap.push { cls:=.type "tuple",data:=.seq #[u] }).update a (Obj.mapFields (·.setIfInBounds 0 (Value.ref s.heap.objs.size)))) (t':=s.toks) (by rw[e];exact True.intro) (.inl rfl) (λb o hb z=>(Df _ _ _ _ hb).trans (AC _ z)) ⟨_,sx⟩ (N7 sx ((D0 _ _).trans hc) dd (by rw[C1];exact z6) (by rw[C6 (by decide)];exact h1) (by rw[<-hdn];obtain⟨_,_,_,_⟩:=ob;cases hdt;rfl))
 have eq:Gw H a (xI a C od)=H:=by
  funext b
  unfold Gw
  split
  ·rename_i z
   rw[z,e]
  ·rfl
 rw[eq]at W
 exact W
end
section
variable{X:Cx}
structure Lf(K:Frag)(C0:wO):Prop where
 sp:specialIn K (.ref C0) "__getattribute__" = some (some (.builtin "type.__getattribute__"))
 rd:readsIn K C0 (.type "type")=true
 fd:findCls K (.ref C0) (.type "type") "__init__" = some (.val (.builtin "ValueError.__init__"))
def vR(K:Frag)(ta:TA):TE:=λσ H Q=>ta σ H λvs H1=>∃a C od fI v2,vs=[.ref a,v2]/\H1 a=some (xI a C od)/\Mb K C fI=true/\Q .non H1
theorem Qn{x:Str}{C0:wO}{np apos pos:Pos}{e1 e2:Expr}{ta:TA}{pl:Sem Bool}(hg:Gl X x)(hm:X.mg x=some (.ref C0))(b:Lf X.K C0)(ha:PA X [e1,e2] ta)(hdb:(x==("__debug__" : Str))=false:=by decide)
  (he:starEach [e1,e2] X.env=(false,eval e1 X.env)::starEach [e2] X.env:=by rfl) (hpl:(backTo pos (starEach [e1,e2] X.env)).any (·.1)=false:=by rfl)
  (ht:eval (.Call (.Attribute (.Name x np) "__init__" apos) [e1,e2] [] pos) X.env=(do
   let ov <-eval (.Name x np) X.env
   standAt apos.atName
   let (f,first) <-holding [ov] (getMethod ov "__init__" pl)
   callWith pos f first (backTo pos (starEach [e1,e2] X.env)) (backToKw pos (keywordEach [] X.env))):=by rfl) :
  PE X (.Call (.Attribute (.Name x np) "__init__" apos) [e1,e2] [] pos) (vR X.K ta):=by
 intro Fj s σ H Q I h
 refine W.methodCall_KW (pl:=pl) (NZ I hg hm ?_ hdb) ht
 refine method_cls I.kIn b.sp (cls_value I.kIn b.rd b.fd (by decide) ?_)
 have I1:=I.tok (s.toks+1)
 show wpAny _ _ (callWith pos (.builtin "ValueError.__init__") [] (backTo pos (starEach [e1,e2] X.env)) []) _ _ _
 refine DG hpl ?_
 have h0:=ha pos Fj _ σ H _ I1 h
 rw[he]at h0 ⊢
 refine DT (BI h0 (λus s2 ⟨vs,H1,I2,r,q⟩=>?_) λ_ _ y=>y)
 obtain⟨a,C,od,fI,v2,rfl,ea,j,q⟩:=q
 obtain⟨u1,u2,rfl,r1,r2⟩:=Mv r
 obtain rfl:u1=Value.ref a:=r1
 exact Y8 I2 ea j λs3 I3=>⟨.non,H1,I3,rfl,q⟩
end
noncomputable abbrev NE(C:wO)(h:Heap)(us:wC):Heap:=(h.push { cls:=.type "tuple",data:=.seq us.toArray }).push { cls:=.ref C,data:=.fields #[.ref h.objs.size,.none,.none,.none,.bool false,.none] }
theorem TH{C:wO}{h:Heap}{us:wC}(b:wO)(o:Obj)(e:h.get? b=some o):(NE C h us).get? b=some o:=AC _ (AC _ e)
theorem Sf{C:wO}{h:Heap}{us:wC}:(NE C h us).get? (h.objs.size+1)=some { cls:=.ref C,data:=.fields #[.ref h.objs.size,.none,.none,.none,.bool false,.none] }:=by heap_get
section
variable{X:Cx}{Fj:wF}{σ:St}{H:Hp}{s:wM}{C fI:wO}
theorem nA{us:wC}(I:Inv X Fj σ H s):Inv X Fj σ (Gw H (s.heap.objs.size+1) (xI (s.heap.objs.size+1) C none)) { s with heap:=NE C s.heap us } :=
 I.laid (t':=s.toks) TH (D7 _) (N7 Sf rfl rfl rfl rfl rfl)
theorem cC{us:wC}{A:Around}{E:wD}{Q:Fin->wM->Prop}(K1:X.K.In s.heap)(j:Mb X.K C fI=true)(fn:isFn X.K (.ref fI)=true)(hl:us.length<=sizeLine)
  (q:wpAny (model X.prog X.w) A (call (.ref fI) (.ref (s.heap.objs.size+1)::us)) (λr s'=>r=.none/\Q (.done (.ret (.ref (s.heap.objs.size+1)))) s') E { s with heap:=NE C s.heap us }) :
  wpAny (model X.prog X.w) A (Builtin.«type.__call__» ⟨.ref C::us,[]⟩) Q E s:=by
 have F:=BS
 obtain⟨bm,N,nm,qn,bs,hdct,sn,sub,ab,col,dd,k0,k1,k2,k3,k5,mN,hC,hN,hi,T⟩:=We K1 j
 have K2:X.K.In (NE C s.heap us):=λa o e=>TH _ _ (K1 a o e)
 have hC1:=TH (C:=C) (us:=us) _ _ hC
 have hN1:(NE C s.heap us).Ns N mN:=hN.keeps TH
 have T1:=T.keeps (h':=NE C s.heap us) TH
 have hcC:(Value.ref C::bm).contains (.ref C)=true:=by simp
 obtain⟨h,g,d,t,os⟩:=s
 repeat (first|with_reducible refine CH hC ?_|with_reducible refine wpAny_madeBy_exc hC ?_|wp_step)
 refine codeAny_call_builtin_code (Ek _ F.quiet) (wpAny_check_new_subT F T hC ?_)
 refine codeAny_exc_new_subT F T hC ?_ hl
 show wpAny _ _ _ _ _ _
 have hget:(NE C h us).get? (h.objs.size+1)=some _:=Sf
 unfold isInstance
 repeat (first|with_reducible refine CH hget ?_|(with_reducible refine wpAny_isSubtype_exc hC1 ?_;rw[hcC])|wp_step)
 show wpAny _ _ (typeLookup (.ref C) _) _ _ _
 refine wpAny_typeLookup_tail hC1 hN1 T1 F.mroIs F.init.lookup ?_
 rw[hi]
 refine Cu (AA ((bind_fn K2 _ (beq_iff_eq.mp fn)).here ?_))
 refine AA (BI q (λr s' hr=>?_) λ_ _ x=>x)
 obtain⟨rfl,hQ⟩:=hr
 wp_walk
 exact hQ
theorem kA{us:wC}{A:Around}{E:wD}{Q:wD}(K1:X.K.In s.heap)(j:Mb X.K C fI=true)(fn:isFn X.K (.ref fI)=true)(hl:us.length<=sizeLine)
  (q:wpAny (model X.prog X.w) (A.under (.builtin "type.__call__" ⟨.ref C::us,[]⟩)) (call (.ref fI) (.ref (s.heap.objs.size+1)::us)) (λr s'=>r=.none/\Q (.ref (s.heap.objs.size+1)) s') E { s with heap:=NE C s.heap us }) :
  wpAny (model X.prog X.w) A (call (.ref C) us) Q E s:=by
 obtain⟨bm,N,nm,qn,bs,hdct,sn,sub,ab,col,dd,k0,k1,k2,k3,k5,mN,hC,hN,hi,T⟩:=We K1 j
 have f1:=tc_lookup
 have f2:=tc_bind (.ref C)
 have hT:s.TypeIs (.ref C) "type" := ⟨_,hC,rfl⟩
 obtain⟨h,g,d,t,os⟩:=s
 refine Ey (codeAny_of_tree ?_)
 show wpAny _ _ (callAny (.ref C) _) _ _ _
 repeat (any_goals (first|assumption|with_reducible refine CH hC ?_|wp_step))
 refine⟨rfl,?_⟩
 exact codeAny_call_builtin_at (Ek _ (by decide +kernel)) entry_typeCall (wpAny_check_type_call_sub hC (cC (s:=⟨h,g,d,t,os⟩) K1 j fn hl q))
variable{CX:Jy}{k:Nat}{fd:wR}{ps:wG}{sp:Sp}{dvs:List V}{ds:wC}{E:XK}{Q:VK}{us:wC}{vs:List V}
end
end L2.Ev
namespace L2.Ev
open PySem PySem.Spec PyProof.Rows
open PySem.W PySem.Calls
section
variable{M:Model}{A:Around}{E:wD}{s:wM}{env:Env}
variable{nm q:Str}{C N:wO}{bs bm:wC}{hdct:Bool}{sn:wG}{sub:wC}{ab:Bool}{col:Option Bool}{dd:Option wO}{k0 k1 k2 k3 k5:wI}{newId:String}
theorem kU{x:Sem wN}{Q:Flow->wM->Prop}(hbase:bm.contains (.type "BaseException")=true)(hh:A.handled=none)
  (h:wpAny M A x (λv s1=>∃e ob vs,v=.ref e/\s1.heap.get? C=some (excClassObj nm q C N bs bm hdct sn sub ab col dd k0 k1 k2 k3 k5 newId)/\s1.heap.get? e=some ob/\ob.cls=.ref C/\ob.data=.fields vs/\vs[1]?=some .none/\E (.ref e) s1) E s) :
  wpAny M A (raiseStmt env (some x) none) Q E s:=by
 have hcB:(Value.ref C::bm).contains (.type "BaseException")=true:=by rw[List.contains_cons,hbase,Bool.or_true]
 unfold raiseStmt
 refine AA (BI h (λv s1 h1=>?_) λ_ _ x=>x)
 obtain⟨e,ob,vs,rfl,hC,he,hc,hd,h1,hE⟩:=h1
 obtain⟨oc,od,oda,osl⟩:=ob
 dsimp only at hc hd
 subst hc hd
 obtain⟨hp,g,d,tk,os⟩:=s1
 repeat (first|with_reducible refine BG he rfl h1 ?_|with_reducible refine CH he ?_|with_reducible refine CH hC ?_|(with_reducible refine wpAny_isSubtype_exc hC ?_;rw[hcB])|wp_step)
 exact wpAny_raiseNew_none hh hE
end
def MW(x:wO)(H:Hp):Hp:=λb=>if b=x then none else H b
theorem Lb{x b:wO}{H:Hp}(h:b≠x):MW x H b=H b:=AD h
theorem Tn{x:wO}{H:Hp}:MW x H x=none:=AF rfl
section
variable{P:wP}{w:wQ}{K:wL}{mg:Str->wI}{base:Heap}{N:wG}{qual:Str}{scope:Scope}{f:wO}{HQ:wN}{A:Around}{outer:List Env}{s0:wM}{H0:Hp}{E:XK}
def rW(X:Cx)(E:XK):Prop:=∀(Fj:wF)(σ:St)(H:Hp)(s:wM)(e C:wO)(od:Option wO),Inv X Fj σ H s->X.s₀.heap.objs.size<=e->H e=some (xI e C od)->E (.ref C) od (MW e H)->X.xe (.ref e) s
theorem rG:rW (I0 (IB P w) P w K mg base N qual scope f HQ A outer s0 H0 E) E:=by
 intro Fj σ H s e C od I hsz He hE
 generalize hX:I0 (IB P w) P w K mg base N qual scope f HQ A outer s0 H0 E=X at I hsz
 obtain⟨⟨ob,vs,hx,hc,hdt,z6,h1,hdn⟩,_⟩:=(show HR X.prog X.w H s.heap e (xI e C od) from I.hok e _ He)
 have notf:∀b,b∈IZ X.stack->b≠e:=λb hb z=>by have:=I.stkFree b hb;rw[z,He]at this;cases this
 have trk:∀b u,H b=some u->b≠e->∀o,s.heap.get? b=some o->(hideAll s.heap (e::IZ X.stack)).get? b=some o:=λb u hb ne o q =>
  Fo _ q λz=>by
   rcases AN.mp z with z|z
   ·exact ne z
   ·rw[I.stkFree b z]at hb;cases hb
 have st0:(hideAll s.heap (e::IZ X.stack)).StaysIn s.heap:=λb o q=>of_hideAll _ q
 have fr:∀b o,s.heap.get? b=some o->b∈IZ X.stack->∀vs,o.data≠.fields vs:=λb o e hb=>by
  obtain⟨_,o',e',d⟩:=I.stack.mem hb
  rw[e]at e';cases e'
  exact d
 have ne_own:∀c b u,H b=some u->b≠e->(c=b∨H c=some (.own b))->c≠e/\∃u',H c=some u':=λc b u hb ne hc=>by
  rcases hc with z|z
  ·subst z;exact⟨ne,u,hb⟩
  ·refine⟨λq=>?_,_,z⟩
   rw[q,He]at z;cases z
 have go:∀h',(hideAll s.heap (e::IZ X.stack)).StaysIn h'->s.heap.UpToSlots h'->Inv X Fj σ (MW e H) { s with heap:=h' }:=λh' st sm=>by
  refine I.call' (s':={ s with heap:=h' }) (ch:=[e]) rfl ⟨λb o q n hb hn=>?_,λb o q n hb hn=>?_,λb o q n hn=>?_,λb o q hn=>?_,λb xs q=>?_,λb o u q=>?_,λb ps q=>?_⟩ (λb u q=>?_) I.bare λb hb=>?_
  ·exact st _ _ (Fo _ q λz=>by
    rcases AN.mp z with z|z
    ·exact hn (by rw[z];exact .head _)
    ·exact hb z)
  ·exact sm b o q (fr b o q hb)
  ·rw[Lb λz=>hn (by rw[z];exact .head _)];exact n
  ·by_cases hb:b∈IZ X.stack
   ·obtain⟨sl,z⟩:=sm b o q (fr b o q hb)
    exact⟨_,z⟩
   ·exact⟨o,st _ _ (Fo _ q λz=>by
     rcases AN.mp z with z|z
     ·exact hn (by rw[z];exact .head _)
     ·exact hb z)⟩
  ·rw[Lb λz=>by rw[z,He]at q;cases q];exact q
  ·rw[Lb λz=>by rw[z,He]at q;cases q];exact q
  ·exact⟨#[],by rw[Lb λz=>by rw[z,He]at q;cases q];simpa using q⟩
  ·by_cases ne:b=e
   ·rw[ne,Tn]at q;cases q
   rw[Lb ne]at q
   refine(I.hok b u q).stay (λc v hc z=>?_) (λc z=>?_) λc xs z=>?_
   ·obtain⟨n1,u',n2⟩:=ne_own c b u q ne hc
    exact st _ _ (trk c u' n2 n1 v z)
   ·rw[Lb (ne_own c b u q ne (.inr z)).1];exact z
   ·rw[Lb λy=>by rw[y,He]at z;cases z];exact z
  ·obtain rfl:b=e:=by simpa using hb
   refine⟨.inr hsz,λz=>?_,λx c q z=>?_,λp hp z=>?_⟩
   ·have:=I.free;rw[<-z,He]at this;cases this
   ·have:=I.freeC x c q;rw[z,He]at this;cases this
   ·have:=(I.pin p hp).2.1;rw[z,He]at this;cases this
 have hin:∀env∈X.stack,∀b,env.frame=some b->b∈e::IZ X.stack:=λenv he b hb=>.tail _ (C9.mpr ⟨env,he,hb⟩)
 have ff:=funFrames_hide I.stack hin
 have hen:(hideAll s.heap (e::IZ X.stack)).get? e=none:=hideAll_none _ (.head _)
 subst hX
 show wpAny _ _ (leaving _ (.ref e)) _ _ _
 refine Td (outer:=outer) (a0:=vs[0]'(by lia)) I.ok.frames ff rfl hx st0 hen hdt h1 (AH (by lia)) λh' fl sm=>?_
 have I':=go h' fl.1.1 sm
 rw[hc,hdn]at fl
 refine⟨e,.ref C,_,od,MW e H,rfl,⟨I'.os,I'.bare,I'.base,I'.hok,_,⟨λb o q hb=>?_,λb u q=>?_⟩,fl⟩,hE⟩
 ·obtain⟨o1,e1⟩:=I.base.there b o q (by show b∉([]:wH);simp)
  have lt:=AS q
  have hL:b∉e::IZ (I0 (IB P w) P w K mg base N qual scope f HQ A outer s0 H0 E).stack:=λz=>by
   rcases AN.mp z with z|z
   ·exact absurd (Ai lt hsz) (by rw[z];exact B3 _)
   ·rcases AN.mp (I.stkSub b z) with z|z
    ·rw[z]at lt
     exact absurd (Ai lt I.ok.above) (B3 _)
    ·exact hb z
  refine⟨o1,Fo _ e1 hL,λn=>?_⟩
  have k:=I.base.keep b o q n hb (by show b∉([]:wH);simp)
  rw[e1]at k
  cases k
  rfl
 ·by_cases ne:b=e
  ·rw[ne,Tn]at q;cases q
  rw[Lb ne]at q
  obtain⟨o,z⟩:=HR.got (I.hok b u q)
  exact⟨o,trk b u q ne o z⟩
end
structure Vf(K:Frag)(C fI:wO):Prop where
 j:Mb K C fI=true
 fn:isFn K (.ref fI)=true
 kp:keepIn K (.ref C)=true
section
variable{X:Cx}{Fj:wF}{σ:St}{H:Hp}{s:wM}{C fI:wO}
variable{CX:Jy}{k:Nat}{fd:wR}{ps:wG}{sp:Sp}{dvs:List V}{ds:wC}{E Ei:XK}{Q:wO->Hp->Prop}{us:wC}{vs:List V}
theorem Xy(M:Vf X.K C fI)(F:Gx X.prog X.w X.K X.mg X.base CX k fI fd ps sp)(hr:Hq (k+1) X.A)(hb:Hy X.K fd ps ds)(hd:HF dvs ds)(hx:Nr CX X Ei)(I:Inv X Fj σ H s)(r:HF vs us)(hl:us.length<=sizeLine)
  (h:∀x,H x=none->sp (.ref x::(vs++dvs)) (Gw H x (xI x C none)) (λv H2=>v=.non/\Q x H2) Ei) :
  wpAny (model X.prog X.w) X.A (call (.ref C) us) (λu s'=>∃x H',u=.ref x/\X.s₀.heap.objs.size<=x/\Inv X Fj σ H' s'/\Q x H') X.xe s:=by
 have hq:=h (s.heap.objs.size+1) (I.hok.fresh (D7 _))
 have I2:=nA (C:=C) (us:=us) I
 have r2:HF (V.ref (s.heap.objs.size+1)::(vs++dvs)) (Value.ref (s.heap.objs.size+1)::(us++ds)):=.cons rfl (r.append hd)
 have hl2:(Value.ref (s.heap.objs.size+1)::us++ds).length=ps.length:=by
  have e:=r2.length
  rw[F.len _ _ _ _ hq]at e
  exact e.symm
 refine kA I.kIn M.j M.fn hl (Ey (DS (F.run _ X.stack _ _ ⟨Value.ref (s.heap.objs.size+1)::us,[]⟩ (Value.ref (s.heap.objs.size+1)::(us++ds)) _ _ Ei (hr.make C us [])
  (I2.env0.make C us []) (hb _ (Value.ref (s.heap.objs.size+1)::us) I2.kIn hl2) r2 hq) λr s' hq'=>?_))
 cases r with
 |error e=>exact hx Fj σ _ _ e s' I2 hq'
 |ok fl =>
  cases fl with
  |ret u =>
   obtain⟨v,H',I3,rv,ev,q3⟩:=I2.after hq'
   subst ev
   exact⟨rv,_,H',rfl,A9 I.sz (D7 _),I3,q3⟩
  |next=>exact False.elim hq'
  |brk=>exact False.elim hq'
  |cont=>exact False.elim hq'
def Zl(C:wO)(sp:Sp)(dvs:List V)(E Ei:XK)(ta:TA):TS:=λ_ σ H=>ta σ H λvs H1=>vs.length<=sizeLine/\∀x,H1 x=none->sp (.ref x::(vs++dvs)) (Gw H1 x (xI x C none)) (λv H2=>v=.non/\∃od,H2 x=some (xI x C od)/\E (.ref C) od (MW x H2)) Ei
theorem SU{x:Str}{np cpos pos:Pos}{e:Expr}{es:wJ}{ta:TA}(hc:X.calm=true)(R:rW X E)(M:Vf X.K C fI)(F:Gx X.prog X.w X.K X.mg X.base CX k fI fd ps sp)(hr:Hq (k+1) X.A)(hb:Hy X.K fd ps ds)(hd:HF dvs ds)(hx:Nr CX X Ei)(hg:Gl X x)(hm:X.mg x=some (.ref C))
  (ha:PA X (e::es) ta) (hdb:(x==("__debug__" : Str))=false:=by decide) (he:starEach (e::es) X.env=(false,eval e X.env)::starEach es X.env:=by rfl) (hpl:(backTo cpos (starEach es X.env)).any (·.1)=false:=by rfl) :
  PS X (.Raise (some (.Call (.Name x np) (e::es) [] cpos)) none pos) (Zl C sp dvs E Ei ta):=by
 intro Fj s σ H D I h
 obtain⟨bm,N,nm,qn,bs,hdct,sn,sub,ab,col,dd,k0,k1,k2,k3,k5,mN,hC,hN,hni,T⟩:=We I.ok.mod.kin M.j
 rw[arm_exec_Raise]
 refine AA (Db (kU (C:=C) (nm:=nm) (q:=qn) (N:=N) (bs:=bs) (bm:=bm) (hdct:=hdct) (sn:=sn) (sub:=sub) (ab:=ab) (col:=col) (dd:=dd) (k0:=k0) (k1:=k1) (k2:=k2) (k3:=k3) (k5:=k5) (newId := "ValueError.__new__") (T.hasType BS.hasBase) (I.ok.hd hc) ?_))
 refine AA (BP (NZ I hg hm ?_ hdb))
 refine Ed (h₀:=X.base) I.ok.mod.kin M.kp (HZ (ha cpos Fj s σ H _ I h) λus s1 ⟨vs,H1,I1,r,hl,q⟩=>⟨I1.kIn,?_⟩) he hpl
 refine BI (Xy (Q:=λx H2=>∃od,H2 x=some (xI x C od)/\E (.ref C) od (MW x H2)) (us:=us) M F hr hb hd hx I1 r (by rw[<-r.length];exact hl) q) (λu s2 ⟨a,H2,eu,hsz,I2,od,q1,q2⟩=>?_) λ_ _ y=>y
 subst eu
 obtain⟨⟨ob,ws,hx',hcl,hdt,_,h1,_⟩,_⟩:=(show HR X.prog X.w H2 s2.heap a (xI a C od) from I2.hok a _ q1)
 exact AA (Db (AE ⟨a,ob,ws,rfl,I2.bk _ _ hC,hx',hcl,hdt,h1,R Fj σ H2 s2 a C od I2 hsz q1 q2⟩))
end
set_option maxHeartbeats 1000000
end L2.Ev
namespace L2.Ev
open PySem PySem.Spec PyProof.Rows
open PySem.W PySem.Calls Builtin Builtin.ObjectAttr
section
variable{prog:wP}{w:wQ}{A:Around}{E:wD}{K:Frag}{h:Heap}{g:Array GenState}{d:Drawn}{t:Nat}{os:OsState}{a C:wO}{o:Obj}{od:Option Obj}{name:Str}{v:wN}
theorem nQ{tk:Tok}{Q:Fin->wM->Prop}(X:K.In h)(I:InstAt h a o C od)(hf:findObj K C od name=some (.value v))(hq:Q (.done (.ret v)) ⟨h,g,d,t,os⟩) :
  wpAny (model prog w) A (Builtin.«object.__getattribute__» ⟨[.ref a,.str name tk],[]⟩) Q E ⟨h,g,d,t,os⟩:=by
 have L0:=I.type (M:=model prog w)
 have L1:=looks_find (M:=model prog w) X I hf
 refine AA (AE (AA (AE (AA (L0.at (AA (L1.at ?_)))))))
 exact AE hq
theorem jN{tk:Tok}{R:Result->wM->Prop}(X:K.In h)(I:InstAt h a o C od)(hb:mroIn K C (.type "BaseException")=some true)(hf:findObj K C od name=some (.value v))(hq:R (.ok (.ret v)) ⟨h,g,d,t,os⟩) :
  codeAny (model prog w) A (.call (.builtin "BaseException.__getattribute__") ⟨[.ref a,.str name tk],[]⟩) R ⟨h,g,d,t,os⟩ :=
 Cy DX.ga.plain F.entry_bexc_ga (Tz I.type (Fn X hb) (nQ X I hf hq))
theorem Y2{tk:Tok}{b b2:Bool}{Q:wD}(X:K.In h)(I:InstAt h a o C od)(k:Ja K C)(hf:findObj K C od name=some (.value v))(hv:handedIn v=true)(hq:Q v ⟨h,g,d,t,os⟩) :
  wpAny (model prog w) A (getAttrBy (.ref a) (.str name tk) b b2) Q E ⟨h,g,d,t,os⟩:=by
 have f3:=DX.ga.bind (.ref a)
 have hx:=I.at_
 have hc:=I.cls
 have hx2:(Value.builtin "BaseException.__getattribute__" == Value.builtin "object.__getattribute__")=false:=by decide +kernel
 have hx1:(onTheHeap (Value.ref C)&&Value.builtin "BaseException.__getattribute__" == Value.builtin "object.__getattribute__")=false:=by rw[hx2];rfl
 have L1:=Dt (M:=model prog w) X k.ga
 have L2:=Dt (M:=model prog w) X k.gt
 have hh:=handedOut_of hv
 cases b<;>cases b2 <;>
 (repeat (any_goals (first|assumption|(with_reducible refine CH hx ?_;rw[hc])|with_reducible refine L1.at ?_|with_reducible refine L2.at ?_|wp_step))
  refine jN X I k.exc hf ?_
  repeat (any_goals (first|assumption|wp_step)))
end
section
variable{X:Cx}{Fj:wF}{σ:St}{H:Hp}{s:wM}{a C dx:wO}{f:Str}{y:V}{A:Around}{E:wD}{Q:wD}{fs:List (Str×V)}{b:Bool}
theorem cO(I:Inv X Fj σ H s)(e:H a=some (xE a (.ref C) (some dx)))(ed:H dx=some (xD dx fs))(k:Ja X.K C)(hh:hasDictIn X.K C=true)(n:findIn X.K (.ref C) f=some none)(l:fs.lookup f=some y)
  (h:∀u s',Inv X Fj σ H s'->HE y u->Q u s'):wpAny (model X.prog X.w) A (getAttr (.ref a) f b) Q E s:=by
 obtain⟨⟨ob,vs,hx,hc,hdt,hdn⟩,_⟩:=(show HR X.prog X.w H s.heap a (xE a (.ref C) (some dx)) from I.hok a _ e)
 obtain⟨⟨mA,hns,rl,wi⟩,_⟩:=(show HR X.prog X.w H s.heap dx (xD dx fs) from I.hok dx _ ed)
 obtain⟨od,ho,hl⟩:=RI hns
 obtain⟨u,hu,ru⟩:=IY.some_of (v:=y) (o:=mA f) (by rw[<-l];exact rl f)
 have J:InstAt s.heap a ob C (some od):=⟨hx,hc,by unfold notCls;rw[hdt],by rw[hdn];exact ho⟩
 have hf:findObj X.K C (some od) f=some (.value u):=findObj_own hh n rfl (by rw[hl,hu])
 have I1:=I.tok (s.toks+1)
 have K1:=I.kIn
 obtain⟨hp,g,d,t,os⟩:=s
 unfold getAttr
 exact AA (wpAny_mkText (Y2 K1 J k hf (Zu ru) (h u _ I1 ru)))
def RM(K:Frag)(ta:TE)(f:Str):TE:=λσ H Q=>ta σ H λx H1=>∃a C d fs v,x=.ref a/\H1 a=some (xE a (.ref C) (some d))/\H1 d=some (xD d fs)/\Ja K C/\hasDictIn K C=true/\findIn K (.ref C) f=some none/\fs.lookup f=some v/\Q v H1
theorem pC{e:Expr}{ta:TE}{pos:Pos}(he:PE X e ta)(hb:attributeBase e f X.env (eval e X.env)=eval e X.env):PE X (.Attribute e f pos) (RM X.K ta f):=by
 intro Fj s σ H Q I h
 refine Xm hb (HZ (he Fj s σ H _ I h) λu s1 ⟨x,H1,I1,rx,a,C,d,fs,v,ex,ea,ed,k,hh,n,l,q⟩=>?_)
 subst ex
 obtain rfl:u=Value.ref a:=rx
 exact cO I1 ea ed k hh n l λu' s2 I2 ru=>⟨v,H1,I2,ru,q⟩
end
set_option maxHeartbeats 4000000
end L2.Ev
namespace L2.Ev
open PySem PySem.Spec PyProof.Rows
open L2.Pl
def mH(K:wL)(C0:wO)(i:Nat)(th:TS)(D:JA)(σ:St):XK:=λcls od H'=>∃C:wO,cls=.ref C/\W.kitCls K (.ref C) (.ref C0)=some true /\
 ∀a,H' a=none->th { nx:=λσ8 H8=>D.nx (σ8.set i none) H8,rt:=λ_ _=>False } (σ.set i (some (.ref a))) (Gw H' a (xE a cls od))
theorem dP{X:Cx}{x n:Str}{C0:wO}{body Hg:List Stmt}{st:Stmt}{np hp pos:Pos}{i:Nat}{th:TS}{tb:St->XK->TS}(hst:X.stack=X.env::X.outer)(hfr:X.env.frame=some X.env.locals)
  (hN:X.N.Nodup) (hi:X.N[i]?=some n) (li:X.env.scope.names.lookup n=some .local) (hg:Gl X x) (hm:X.mg x=some (.ref C0)) (kC:W.kitCls X.K (.ref C0) (.type "BaseException")=some true)
  (hh:∀e:wN,Iw (Cx.mk1 X e) (st::Hg) th) (hb:∀(pn':wF)(T:wD)(σ0:St)(E:XK),QX (Cx.pin1 X pn' T) σ0 E->Iw (Cx.pin1 X pn' T) body (tb σ0 E)) (hd3:(x==("__debug__" : Str))=false:=by decide) :
  PS X (.Try body [.ExceptHandler (some (.Name x np)) (some n) (st::Hg) hp] [] [] pos) (λD σ H=>tb σ (mH X.K C0 i th D σ) D σ H):=by
 intro Fj s σ H D I h
 rw[arm_exec_Try]
 refine AA (Db (wpAny_tryStmt_except ?_))
 have hP:QX (Cx.pin1 X (X.pn++Fj) λe s₁=>wpAny (model X.prog X.w) X.A (noteFrame e X.env) (λ_ s₂=>wpAny (model X.prog X.w) X.A (setFlight e none) (λ_ s₃ =>
   wpAny (model X.prog X.w) X.A (handleBy e X.env [.ExceptHandler (some (.Name x np)) (some n) (st::Hg) hp]) (SP X Fj D) X.xe s₃) X.xe s₂) X.xe s₁) σ (mH X.K C0 i th D σ):=by
  rintro pins' H1 s1 e s' J ⟨a,cls,a0,od,H',rfl,F,C,rfl,kC',hE⟩
  have I1:Inv X Fj σ H1 s1:=MH I.ok J
  obtain⟨os,bare,un,hok,B,bs,fl⟩:=F
  have bs:Bs X.stack H1 s1.heap H' B:=bs
  have fl:MJ B X.stack a (.ref C) a0 od s'.heap:=fl
  have fl':=fl
  rw[hst]at fl'
  show wpAny _ X.A (noteFrame (.ref a) X.env) _ _ s'
  refine OL (outer:=X.outer) (by rw[I1.ok.frames,hst]) hfr fl' λh4 ⟨m1,m2,m3,m4⟩ md sm4=>?_
  refine P5 (s:={ s' with heap:=h4 }) m1 m2 m3 m4 md λh5 fly5 sm5=>?_
  have sm45:=sm4.trans sm5
  have I5:=QP I1 os bare un hok bs fl.1.1 fly5.1.1 sm45
  obtain⟨ob,hob,hobc⟩:=fly5.1.there
  refine wpAny_handleBy_cons (Gc (NZ (X:=Cx.mk1 X (.ref a)) (WN I5 (.ref a)) hg hm (sP I5.kIn hob hobc kC' kC ?_) hd3)) (by intro q;cases q)
  refine E4 ?_
  obtain⟨⟨n1,n2,n3,n4⟩,nd⟩:=fly5
  refine P5 (s:={ s' with heap:=h5 }) n1 n2 n3 n4.at nd λh6 fly6 sm6=>?_
  have I6:=QP I1 os bare un hok bs fl.1.1 fly6.1.1 (sm45.trans sm6)
  obtain⟨I6',hn⟩:=Sg I1 I6 bs (by rw[hst];exact fly6)
  refine WT (X:=X) I6' hN hi (Or.inl li) (v:=.ref a) rfl (λs7 I7=>?_) (.inr li)
  refine BI (hh (.ref a) Fj s7 (σ.set i (some (.ref a))) (Gw H' a (xE a (.ref C) od)) { nx:=λσ8 H8=>D.nx (σ8.set i none) H8,rt:=λ_ _=>False } (WN I7 (.ref a)) (hE a hn)) (λfw s8 q=>?_) (λ_ _ z=>False.elim z)
  cases fw with
  |next =>
   obtain⟨σ8,H8,J8,q8⟩:=q
   exact Tf (RZ I.ok J8) hN hi li λs9 I9=>⟨_,_,I9,q8⟩
  |brk=>obtain⟨_,_,_,z⟩:=q;exact z.elim
  |cont=>obtain⟨_,_,_,z⟩:=q;exact z.elim
  |ret u=>obtain⟨_,_,_,_,_,z⟩:=q;exact z.elim
 refine BI (hb _ _ σ _ hP [] s σ H D (TM I _) h) (λfw s₁ q=>?_) λe s₁ q=>q
 cases fw with
 |next=>obtain⟨σ',H',J,q⟩:=q;exact DD ⟨σ',H',MH I.ok J,q⟩
 |brk=>obtain⟨σ',H',J,q⟩:=q;exact⟨σ',H',MH I.ok J,q⟩
 |cont=>obtain⟨σ',H',J,q⟩:=q;exact⟨σ',H',MH I.ok J,q⟩
 |ret u=>obtain⟨v,σ',H',J,r,q⟩:=q;exact⟨v,σ',H',MH I.ok J,r,q⟩
end L2.Ev
namespace L2.Ev
open PySem PySem.Spec PyProof.Rows
open L2.Pl
theorem Hx{N P:wG}{sc:Scope}(a:sc.kind=.function:=by rfl)(b:sc.isCoroutine=false:=by rfl)(c:sc.isGenerator=false:=by rfl)(d:N.Nodup:=by decide +kernel)(e:N.take P.length=P:=by rfl)(f:∀x∈P,sc.names.lookup x=some .local∨sc.names.lookup x=some .cell:=by decide +kernel)(g:∀y∈sc.names,y.2≠.free:=by decide +kernel):Gj N P sc:=⟨a,b,c,d,e,f,g⟩
theorem JN:0<=sizeLine:=by decide
theorem IH:1<=sizeLine:=by decide
theorem Hr:2<=sizeLine:=by decide
theorem V0:3<=sizeLine:=by decide
theorem qE:4<=sizeLine:=by decide
theorem sS:5<=sizeLine:=by decide
theorem gY:11<=sizeLine:=by decide
section
variable{P:wP}{w:wQ}{K:wL}{mg:Str->wI}{base:Heap}{x qual:Str}{st:Stmt}{f:wO}{fd:wR}{N ps:wG}{k:Nat}{sp:Sp}
theorem IJ(F:Hi K x qual st f fd)(S:Gj N ps (HS st))
  (Ip:∀(HQ:wN)(A:Around)(outer:List Env)(s:wM)(H:Hp)(vs:List V)(Q:VK)(E:XK),Hq k (A.deeper (envOfC qual (HS st) s.heap.objs.size f HQ))->sp vs H Q E ->
   ∃t,Iw (I0 Ho P w K mg base N qual (HS st) f HQ A outer s H E).nox (K7 st) t/\t { nx:=λ_ H'=>Q .non H',rt:=Q } (start N vs) H)
  (len:∀vs H Q E,sp vs H Q E->vs.length=ps.length:=by intro vs H Q E h;repeat (first|(obtain⟨rfl,_⟩:=h;rfl)|(obtain⟨_,h⟩:=h))):Gx P w K mg base Ho (k+1) f fd ps sp:=Hi.ok F S len Ip
theorem Kc(F:Hi K x qual st f fd)(S:Gj N ps (HS st))
  (Ip:∀(HQ:wN)(A:Around)(outer:List Env)(s:wM)(H:Hp)(vs:List V)(Q:VK)(E:XK),Hq k (A.deeper (envOfC qual (HS st) s.heap.objs.size f HQ))->sp vs H Q E ->
   ∃t,Iw (I0 (IB P w) P w K mg base N qual (HS st) f HQ A outer s H E) (K7 st) t/\t { nx:=λ_ H'=>Q .non H',rt:=Q } (start N vs) H)
  (len:∀vs H Q E,sp vs H Q E->vs.length=ps.length:=by intro vs H Q E h;repeat (first|(obtain⟨rfl,_⟩:=h;rfl)|(obtain⟨_,h⟩:=h))):Gx P w K mg base (IB P w) (k+1) f fd ps sp:=Hi.okx F S len Ip
end
end L2.Ev
set_option maxHeartbeats 4000000
namespace L2.K92
open PySem
open L2.Pl L2.Ev
noncomputable def top(i:Nat):Stmt:=PySem.Challenge.pw_evenform_k92_carried_tellings.main.body.getD i (.Pass ⟨0,0,0,0⟩)
abbrev Xo:Stmt:=top 13
abbrev oE:Stmt:=top 14
abbrev qK:Stmt:=top 18
abbrev Pg:Stmt:=top 19
abbrev Oe:Stmt:=top 20
abbrev MO:Stmt:=top 21
abbrev Mc:Stmt:=top 22
abbrev Pi:Stmt:=top 23
abbrev Mn:Stmt:=top 24
abbrev Lq:Stmt:=top 26
abbrev Oj:Stmt:=top 27
abbrev Wh:Stmt:=top 30
abbrev Vc:Stmt:=top 31
abbrev Ye:Stmt:=top 33
abbrev kP:Stmt:=top 34
abbrev VX:Stmt:=top 35
abbrev Vq:Stmt:=top 36
abbrev W7:Stmt:=top 37
abbrev Vo:Stmt:=top 38
abbrev WG:Stmt:=top 39
abbrev Vk:Stmt:=top 41
abbrev fV:Stmt:=top 42
abbrev WH:Stmt:=top 43
abbrev V9:Stmt:=top 47
abbrev pV:Stmt:=top 48
abbrev aT:Stmt:=top 49
abbrev Zq:Stmt:=top 50
abbrev ZS:Stmt:=top 51
abbrev mQ:Stmt:=top 52
abbrev YX:Stmt:=top 60
abbrev Xa:Stmt:=top 61
abbrev WK:Stmt:=top 62
abbrev XE:Stmt:=top 65
abbrev eR:Stmt:=top 66
abbrev Zg:Stmt:=top 67
abbrev Vx:Stmt:=top 68
abbrev P6:Stmt:=top 69
abbrev X5:Stmt:=top 72
abbrev Op:Stmt:=top 73
abbrev aF:Stmt:=top 74
abbrev oR:Stmt:=top 75
abbrev X0:Stmt:=top 76
abbrev WX:Stmt:=top 77
abbrev Xv:Stmt:=top 78
abbrev WA:Stmt:=top 79
abbrev NH:Stmt:=top 80
abbrev Wk:Stmt:=top 82
abbrev Po:Stmt:=top 83
abbrev Mr:Stmt:=top 84
abbrev VY:Stmt:=top 85
abbrev MP:Stmt:=top 86
abbrev Os:Stmt:=top 88
abbrev Ma:Stmt:=top 89
abbrev On:Stmt:=top 92
abbrev Pf:Stmt:=top 93
abbrev Mj:Stmt:=top 94
abbrev MX:Stmt:=top 95
section
variable{P:wP}{w:wQ}{K:wL}{mg:Str->wI}{base:Heap}{f g:wO}{fd gd:wR}
theorem MA{X:Cx}{P:wP}{w:wQ}:Nr (IB P w) X E0:=λ_ _ _ _ _ _ _ ⟨_,_,_,_,_,_,_,z⟩=>False.elim z
theorem UD{P:wP}{w:wQ}{K:wL}{mg:Str->wI}{base:Heap}{N:wG}{qual:Str}{scope:Scope}{f:wO}{HQ:wN}{A:Around}{outer:List Env}{s0:wM}{H0:Hp}{E:XK}:PassesOwn (model P w) (A.deeper (PyProof.Rows.envOfC qual scope s0.heap.objs.size f HQ)) (PyProof.Rows.envOfC qual scope s0.heap.objs.size f HQ) (I0 (IB P w) P w K mg base N qual scope f HQ A outer s0 H0 E).xe:=PassesOwn.leaving
structure Hh(P:wP)(w:wQ)(K:wL)(mg:Str->wI)(base:Heap)(k:Nat)(x:Str)(ps:wG)(sp:Sp) where
 f:wO
 fd:wR
 ok:Gx P w K mg base (IB P w) k f fd ps sp
 bd:Hy K fd ps []
 kp:W.keepIn K (.ref f)=true
 at_:mg x=some (.ref f)
theorem Io{X:Cx}{k:Nat}{x:Str}{ps:wG}{sp:Sp}{p pos:Pos}{e:Expr}{es:wJ}{t:TA}{E:XK}(G:Hh X.prog X.w X.K X.mg X.base k x ps sp)(hr:Hq k X.A)(hg:Gl X x)(hx:Nr (IB X.prog X.w) X E)
  (ha:PA X (e::es) t) (hdb:(x==("__debug__" : Str))=false:=by decide) (he:starEach (e::es) X.env=(false,eval e X.env)::starEach es X.env:=by rfl) (hpl:(backTo pos (starEach es X.env)).any (·.1)=false:=by rfl) :
  PE X (.Call (.Name x p) (e::es) [] pos) (Ol sp [] E t):=Px G.ok hr hg G.at_ G.kp G.bd .nil hx ha hdb he hpl
abbrev Vg:wC:=[.type "ValueError",.type "Exception",.type "BaseException",.type "object"]
structure PJ(K:wL)(mg:Str->wI)(x:Str)(C:wO):Prop where
 at_:mg x=some (.ref C)
 is:W.excIn K C Vg "ValueError.__new__" = true
theorem fJ{K:wL}{C:wO}{bm:wC}{n:String}(q:W.excIn K C bm n=true):(W.clsIn K C).isSome=true:=by
 unfold W.excIn at q
 split at q
 ·rename_i dd cd sl ho
  unfold W.clsIn
  rw[ho]
  rfl
 ·cases q
theorem ZH{K:wL}{C C0:wO}{b:Bool}(h:W.kitOne K (.ref C) (.ref C0)=some b)(ne:C≠C0):W.kitCls K (.ref C) (.ref C0)=some b:=by
 unfold W.kitOne at h
 rwa [AD (λz=>ne (by injection (beq_iff_eq.mp z)))]at h
theorem rM{K:wL}{C:wO}{T:String}{b:Bool}(h:W.kitOne K (.ref C) (.type T)=some b):W.kitCls K (.ref C) (.type T)=some b:=by
 unfold W.kitOne at h
 rwa [AD (λz=>by cases beq_iff_eq.mp z)]at h
theorem Uk{k:Nat}{ps:wG}{sp sp':Sp}(F:Gx P w K mg base (IB P w) k f fd ps sp)(h:∀vs H Q E,sp' vs H Q E->sp vs H Q E0):Gx P w K mg base Ho k f fd ps sp' :=
 ⟨λvs H Q E q=>F.len vs H Q E0 (h _ _ _ _ q),λA outer s H args us vs Q E hr he hb hv hs=>DS (F.run A outer s H args us vs Q E0 hr he hb hv (h _ _ _ _ hs)) λr s' z=>by
  cases r with
  |ok fl=>cases fl<;>exact z
  |error e=>obtain⟨_,_,_,_,_,_,_,y⟩:=z;exact y.elim⟩
abbrev uW:wG:=["many"]
theorem XW:Gj uW ["many"] (HS qK):=Hx
def Va(cBC:wO):Sp:=λvs H Q E=>∃n:Int,vs=[.int n]/\(1<=n/\n<=4->Q .non H)/\(¬ (1<=n/\n<=4)->E (.ref cBC) none H)
theorem UA{tk:Tok}{cBC:wO}(F:Hi K "refuse_bad_count" "refuse_bad_count" qK f fd)(gU:mg "MOST_UNKNOWNS" = some (.int 4 tk))(X1:PJ K mg "BadCount" cBC):Gx P w K mg base (IB P w) 2 f fd ["many"] (Va cBC):=by
 refine Kc F XW λHQ A outer s H vs Q E hr h=>?_
 obtain⟨n,rfl,q,e⟩:=h
 refine⟨_,HL (IP (PW.pt (VR (II Pb (pv 0) HM (IE _)) (UO (II PM (pv 0) (KJ (v:=.int 4) rfl gU ⟨_,rfl⟩) (IE _))))) (HL (Ui rfl R1 BS rfl X1.at_ X1.is (Ge IT Gk))) IQ),?_⟩
 refine⟨_,rfl,_,_,rfl,rfl,_,rfl,?_⟩
 by_cases c1:n<1
 ·exact Jq c1 (JP ⟨IH,e (by lia)⟩)
 ·refine JV c1 ⟨_,rfl,_,_,rfl,rfl,_,rfl,?_⟩
  by_cases c2:4<n
  ·exact Jq c2 ⟨IH,e (by lia)⟩
  ·exact JV c2 (q (by lia))
def SB:Sp:=λvs H Q _=>∃n:Int,vs=[.int n]/\1<=n/\n<=4/\Q .non H
theorem fS{cBC:wO}{k:Nat}(F:Gx P w K mg base (IB P w) k f fd ["many"] (Va cBC)):Gx P w K mg base Ho k f fd ["many"] SB:=Uk F λvs H Q E ⟨n,e,a,b,q⟩=>⟨n,e,λ_=>q,λz=>absurd ⟨a,b⟩ z⟩
noncomputable abbrev nG:wG:=["terms", "numbers", "powers", "number"]
abbrev bG:wG:=["powers", "numbers"]
theorem vI:bG.Nodup:=by decide +kernel
theorem WI:Gj nG ["terms"] (HS Pg):=Hx
def Qm:Sp:=λvs H Q _=>∃(a:wO)(ts:List Gi),vs=[.ref a]/\Gf H a ts/\(∀t∈ts,t.1≠[])/\ts.length<=100000/\∀(l:wO)(H':Hp),H l=none->Gh H H'->Gf H' l (norm ts)->Q (.ref l) H'
theorem Xc(F:Hi K "gathered" "gathered" Pg f fd)(ms:mg "sorted" = none):Gx P w K mg base Ho 2 f fd ["terms"] Qm:=by
 refine IJ F WI λHQ A outer s H vs Q E hr h=>?_
 obtain⟨a,ts,rfl,hL,hne,Ha,q⟩:=h
 have hu:=SN hr
 have h8:=QN hr
 refine⟨_,HP (Hj (i:=1) WI.nd rfl (Or.inr rfl) Vd)
  (HP (Ii Ar rfl (IW (pv 0)) (Im rfl (Hw (HW (i:=2) WI.nd rfl (Or.inl rfl)) (Hw (HW (i:=3) WI.nd rfl (Or.inl rfl)) Ik)))
   (HL (V4 hu (pv 1) (pv 2) (HV Jc (kT hu (pv 1) (pv 2) HM ⟨rfl,rfl,rfl,rfl⟩) (pv 3)) rfl)))
  (HL (Hk (Iy (N':=bG) (src:=[none,some 1]) rfl (IW (Ym rfl h8 rfl ms (Ge (pv 1) Gk)))
   (Ir (HS Pg) nG (by decide +kernel))
   (λb=>HW (i:=0) vI rfl (Or.inl rfl))
   (λb=>PP (II Mq (QF hu (pv 1) (pv 0) (λ_ _=>rfl)) HM (IE _)))
   (λb=>Hd (Ge (pv 0) (Ge (QF hu (pv 1) (pv 0) (λ_ _=>rfl)) Gk))))))),?_⟩
 intro d hd
 obtain⟨vs,eL,iL⟩:=hL
 have lv:=AL iL
 have s0:Gh H (Gw H d (.dT [])):=Gy hd _
 refine⟨_,rfl,a,rfl,⟨vs,HJ.of (s0 _ _ eL)⟩,?_⟩
 refine Jd (xs:=vs) (λi σ H'=>(∃c2 c3,σ=[some (.ref a),some (.ref d),c2,c3])/\H' d=some (.dT (IS (IA (ts.take i))))/\Gh H H') ?_ ?_ ?_ ?_
 ·exact⟨⟨_,_,rfl⟩,Gu,s0⟩
 ·rintro i σ H1 _ ⟨_,_,s1⟩
  exact HJ.of (s1 _ _ eL)
 ·rintro i x σ H1 hx ⟨⟨c2,c3,rfl⟩,h1,s1⟩
  obtain⟨t,ht,hi⟩:=Ib iL hx
  obtain⟨p,k,rfl,hp,hk⟩:=JO hi
  have hk1:=s1 _ _ hk
  refine⟨p,_,rfl,HK.of (s1 _ _ hp),rfl,_,_,rfl,_,_,rfl,rfl,?_⟩
  have g:=Ih.t (k:=t.1.map Sum.inl) h1 (by rw[LV];exact hk1)
  rw[QT]at g
  refine⟨_,rfl,d,rfl,.inr ⟨_,.inl h1⟩,_,rfl,_,g,_,rfl,(Ij (IA (ts.take i)) t.1).getD 0,t.2,?_,rfl,_,rfl,_,rfl,d,_,rfl,JS.t (k:=t.1.map Sum.inl) h1 (by rw[LV];exact hk1) ?_,?_⟩
  ·cases Ij (IA (ts.take i)) t.1<;>rfl
  ·rw[Vu]
   have:=P8 (ts.take i)
   rw[Ah]at this
   exact KU (by lia)
  ·refine⟨⟨_,_,rfl⟩,?_,λb o e=>?_⟩
   ·rw[JK ht,NQ,<-Pj]
    exact Gu
   ·rw[Hf (JR e hd)]
    exact s1 b o e
 ·rintro σ H1 ⟨⟨c2,c3,rfl⟩,h1,s1⟩
  rw[AW (by lia)]at h1
  have hnd:∀t∈IA ts,t.1≠[]:=λt ht=>by
   obtain⟨u,hu,e⟩:=AY.mp (lS ts (AY.mpr ⟨t,ht,rfl⟩))
   rw[<-e]
   exact hne u hu
  refine⟨_,rfl,d,IA ts,rfl,.inl h1,hnd,λp vs' ks hp pm so it=>?_⟩
  have s2:Gh H1 (Gw H1 p (.lst vs')):=Gy hp _
  refine⟨p,rfl,⟨_,HJ.of Gu⟩,λb D hD=>?_⟩
  have lk:=AL it
  have ln:vs'.length<=100000:=by
   have:=pm.length_eq
   rw[AB]at this
   have:=P8 ts
   lia
  refine KL (α:=Gi) hD (HJ.of Gu) (λσ=>∃c,σ=[c,some (.ref d)]) (λi=>(ks[i]?).bind λk=>if (Ij (IA ts) k).getD 0≠0 then some (k,(Ij (IA ts) k).getD 0) else none) (small ln) ⟨_,rfl⟩ ?_ ?_
  ·rintro i x σ H2 Yes No hx ⟨c,rfl⟩ s3 yes no
   obtain⟨k,hk,hi⟩:=Ib it hx
   obtain⟨pk,rfl,hpk⟩:=JU hi
   have hpk3:=s3 _ _ (s2 _ _ hpk)
   have hd3:=s3 _ _ (s2 _ _ h1)
   obtain⟨n,hn⟩:=Ry (pm.mem_iff.mp (Aa hk))
   have g:=Ih.t (k:=k.map Sum.inl) hd3 (by rw[LV];exact hpk3)
   rw[QT,hn]at g
   refine⟨_,rfl,_,rfl,d,.int n,rfl,g,rfl,_,rfl,?_⟩
   by_cases c0:n=0
   ·subst c0
    refine J4 ?_
    exact no _ _ ⟨_,rfl⟩ (Gh.refl _) (by rw[hk,Cd,hn,AD (by simp)])
   ·have e0:(!decide (V.int n=V.int 0))=true:=by
     rw[AO (λz=>c0 (by injection z))]
     rfl
    rw[e0]
    refine JP ⟨_,rfl,_,rfl,_,rfl,d,.int n,rfl,g,Hr,λr hr=>?_⟩
    exact yes _ _ _ (k,n) ⟨_,rfl⟩ (Gy hr _) (by rw[hk,Cd,hn,AF (by simpa using c0)];rfl) (JB Gu (Gy hr _ _ _ hpk3))
  ·intro H2 s3 hL
   refine q D H2 (s1.free (s2.free hD)) (s1.trans (s2.trans s3)) ?_
   have e:=Si pm so
   rw[<-Tc,<-Jg,<-lk]at e
   rw[<-e]
   exact hL
theorem jI{n d b:Nat}{ts:List Gi}(h:Deg n d b ts)(n1:1<=n):∀t∈ts,t.1≠[]:=λt ht e=>by
 have:=h.len t ht
 rw[e]at this
 simp at this
 lia
noncomputable abbrev MF:wG:=["one", "other"]
def O9(g:List Gi->List Gi->List Gi):Sp:=λvs H Q _=>∃(a b:wO)(ts us:List Gi),vs=[.ref a,.ref b]/\Gf H a ts/\Gf H b us/\(∀t∈ts,t.1≠[])/\(∀t∈us,t.1≠[])/\ts.length+us.length<=100000/\∀(l:wO)(H':Hp),H l=none->Gh H H'->Gf H' l (norm (g ts us))->Q (.ref l) H'
abbrev sO:wG:=["powers", "number"]
theorem Ue:sO.Nodup:=by decide +kernel
theorem kK:Gj MF MF (HS MO):=Hx
theorem aV(F:Hi K "less" "less" MO f fd)(GG:Hl P w K mg base 2 "gathered" ["terms"] Qm):Gx P w K mg base Ho 3 f fd MF (O9 λts us=>ts++ngt us):=by
 refine IJ F kK λHQ A outer s H vs Q E hr h=>?_
 obtain⟨a,b,ts,us,rfl,⟨vs,eA,iA⟩,⟨ws,eB,iB⟩,ne1,ne2,Ha,q⟩:=h
 refine⟨_,HL (Hk (Hm GG hr rfl (Ge (HV NT (pv 0) (Iy (N':=sO) (src:=[none,none]) rfl (IW (pv 1)) (Ir (HS MO) MF (by decide +kernel))
   (λb=>Im rfl (Hw (HW (i:=0) Ue rfl (Or.inl rfl)) (Hw (HW (i:=1) Ue rfl (Or.inl rfl)) Ik)))
   (λb=>JX)
   (λb=>Hd (Ge (pv 0) (Ge (OY OR (pv 1)) Gk))))) Gk))),?_⟩
 have la:=AL iA
 have lb:=AL iB
 refine⟨_,rfl,_,rfl,b,rfl,⟨_,HJ.of eB⟩,λbk D hD=>?_⟩
 refine KL (α:=Gi) hD (HJ.of eB) (λσ=>∃c d,σ=[c,d]) (λi=>(us[i]?).bind λt=>some (t.1,-t.2)) (small (by lia)) ?_ ?_ ?_
 ·exact⟨_,_,rfl⟩
 ·rintro i x σ H2 Yes No hx ⟨c,d,rfl⟩ s3 yes no
  obtain⟨t,ht,hi⟩:=Ib iB hx
  obtain⟨p,kk,rfl,hp,hkk⟩:=JO hi
  refine⟨p,_,rfl,HK.of (s3 _ _ hp),rfl,_,_,rfl,_,_,rfl,rfl,?_⟩
  refine Kj ?_
  refine⟨_,rfl,_,rfl,_,rfl,Hr,λp3 h3=>?_⟩
  have s5:=Gy h3 (.tup [.ref kk,.int (-t.2)])
  exact yes _ _ _ (t.1,-t.2) ⟨_,_,rfl⟩ s5 (by rw[ht];rfl) (JB Gu (s5 _ _ (s3 _ _ hkk)))
 rintro H2 s3 ⟨zs,eZ,iZ⟩
 have e:(List.range ws.length).filterMap (λi=>(us[i]?).bind λt=>some (t.1,-t.2))=ngt us:=by
  rw[lb,Jg,Au]
  rfl
 rw[e]at iZ
 have lz:=AL iZ
 rw[XQ]at lz
 refine⟨a,D,vs,zs,rfl,rfl,s3 _ _ eA,eZ,small (by lia),λp hp=>?_⟩
 have s1:=Gy hp (.lst (vs++zs))
 refine⟨p,ts++ngt us,rfl,⟨_,Gu,Paired.app (Hs.mono (HX.same (s3.trans s1)) iA) (Hs.mono (HX.same s1) iZ)⟩,λt ht=>(Aq.mp ht).elim (ne1 t) λht=>?_,by rw[AI,XQ];exact Ha,λl H' hl s2 h2=>?_⟩
 ·obtain⟨u,hu,rfl⟩:=AY.mp ht
  exact ne2 u hu
 ·exact q l H' (s3.free (s1.free hl)) (s3.trans (s1.trans s2)) h2
noncomputable abbrev nS:wG:=["powers", "place"]
theorem vD:Gj nS ["powers", "place"] (HS Pi):=Hx
def Qi:Sp:=λvs H Q _=>∃(a:wO)(ps:wB)(k:Nat),vs=[.ref a,.int k]/\H a=some (.tup (ps.map V.int))/\k+1<ps.length/\ps.length<=100/\∀p H',Gh H H'->H' p=some (.tup ((swp ps k).map V.int))->Q (.ref p) H'
theorem ZL(ps:wB)(k:Nat)(h:k<=ps.length):K3 (ps.map V.int) none (some (k:Int))=(ps.take k).map V.int:=by
 unfold K3
 rw[HT.sIx_none,HT.sIx_nat,AB,DQ,HA,CS h,Gq]
theorem cU(ps:wB)(k:Nat):K3 (ps.map V.int) (some (k:Int)) none=(ps.drop k).map V.int:=by
 unfold K3
 rw[HT.sIx_none,HT.sIx_nat,AB,AW (by rw[BC,AB];lia),Gp]
 by_cases c:k<=ps.length
 ·rw[CS c]
 ·rw[FE (by lia),Ci (by simp),Ci (by simp;lia)]
theorem RB{ps:wB}{k:Nat}(h:k<ps.length):J6 (ps.map V.int) (k:Int)=some (.int (ps.getD k 0)):=by
 refine KH ?_
 rw[Al,AT h]
 simp [h]
theorem kR(F:Hi K "swapped" "swapped" Pi f fd):Gx P w K mg base Ho 2 f fd ["powers", "place"] Qi:=by
 refine IJ F vD λHQ A outer s H vs Q E hr h=>?_
 obtain⟨a,ps,k,rfl,ha,hk,hl,q⟩:=h
 refine⟨_,HL (Hk (HV LM (HV LM (NB TK (pv 0) Mh (NA (pv 1)))
   (Hd (Ge (Ix Ks (pv 0) (HV Jc (pv 1) HM) (λ_ _=>rfl)) (Ge (Ix Ks (pv 0) (pv 1) (λ_ _=>rfl)) Gk))))
   (NB TK (pv 0) (NA (HV Jc (pv 1) HM)) Mh))),?_⟩
 have e1:((k:Int)+1)=((k+1:Nat):Int):=by lia
 have e2:((k:Int)+2)=((k+2:Nat):Int):=by lia
 refine⟨_,rfl,_,rfl,_,rfl,a,_,rfl,HK.of ha,?_,λp1 h1=>?_⟩
 ·rintro⟨_,z⟩
  rw[HT.sIx_nat,AB]at z
  lia
 rw[ZL ps k (by lia)]
 have s1:=Gy h1 (.tup ((ps.take k).map V.int))
 have ha1:=s1 _ _ ha
 refine⟨_,rfl,_,rfl,_,_,rfl,rfl,a,_,_,_,rfl,rfl,HK.of ha1,by rw[e1];exact RB hk,_,rfl,_,rfl,a,_,_,_,rfl,rfl,HK.of ha1,RB (by lia),Hr,λp2 h2=>?_⟩
 have s2:=Gy h2 (.tup [.int (ps.getD (k+1) 0),.int (ps.getD k 0)])
 have hp1:=s2 _ _ (Gu (H:=H) (a:=p1) (o:=.tup ((ps.take k).map V.int)))
 refine Kp (r:=ps.take k) (r':=[ps.getD (k+1) 0,ps.getD k 0]) hp1 Gu (small (by rw[Ah];show min k ps.length+2<=100000;lia)) λp3 H3 s3 h3=>?_
 have ha3:=s3 _ _ (s2 _ _ ha1)
 refine⟨_,rfl,_,rfl,_,_,rfl,rfl,_,rfl,a,_,rfl,HK.of ha3,?_,λp4 h4=>?_⟩
 ·rintro⟨z,_⟩
  rw[e2,HT.sIx_nat,AB]at z
  lia
 rw[e2,cU]
 have s4:=Gy h4 (.tup ((ps.drop (k+2)).map V.int))
 refine Kp (s4 _ _ h3) Gu (small (by rw[AI,Ah,BC];show min k ps.length+2+(ps.length-(k+2))<=100000;lia)) λp5 H5 s5 h5=>?_
 exact q p5 H5 (s1.trans (s2.trans (s3.trans (s4.trans s5)))) h5
abbrev nE:wG:=["some", "place"]
noncomputable abbrev bE:wG:=["powers", "number", "place"]
theorem sR:bE.Nodup:=by decide +kernel
theorem vA:Gj nE ["some", "place"] (HS Mn):=Hx
def Rg:Sp:=λvs H Q _=>∃(a:wO)(n k:Nat)(ts:List Gi),vs=[.ref a,.int k]/\Gf H a ts/\(∀t∈ts,t.1.length=n)/\k+1<n/\n<=100/\ts.length<=100000/\∀(l:wO)(H':Hp),H l=none->Gh H H'->Gf H' l (Ie ts k)->Q (.ref l) H'
theorem bU{h':wO}{hd':wR}(F:Hi K "exchanged" "exchanged" Mn f fd)(G:Gx P w K mg base Ho 2 g gd ["terms"] Qm)(bG':Hy K gd ["terms"] [])(kG:W.keepIn K (.ref g)=true)(mG:mg "gathered" = some (.ref g))
  (GS:Gx P w K mg base Ho 2 h' hd' ["powers", "place"] Qi) (bS:Hy K hd' ["powers", "place"] []) (kS:W.keepIn K (.ref h')=true) (mS:mg "swapped" = some (.ref h')):Gx P w K mg base Ho 3 f fd ["some", "place"] Rg:=by
 refine IJ F vA λHQ A outer s H vs Q E hr h=>?_
 obtain⟨a,n,k,ts,rfl,⟨vs,eL,iL⟩,hln,hk,hn,hl,q⟩:=h
 refine⟨_,HL (Hk (Px G hr rfl mG kG bG' .nil Ou (Ge (Iy (N':=bE) (src:=[none,none,some 1]) rfl (IW (pv 0)) (Ir (HS Mn) nE (by decide +kernel))
   (λb=>Im rfl (Hw (HW (i:=0) sR rfl (Or.inl rfl)) (Hw (HW (i:=1) sR rfl (Or.inl rfl)) Ik)))
   (λb=>JX)
   (λb=>Hd (Ge (Px GS hr rfl mS kS bS .nil Ou (Ge (pv 0) (Ge (pv 2) Gk))) (Ge (pv 1) Gk)))) Gk))),?_⟩
 refine⟨_,rfl,a,rfl,⟨_,HJ.of eL⟩,λbk D hD=>?_⟩
 have lv:=AL iL
 refine KL (α:=Gi) hD (HJ.of eL) (λσ=>∃c d,σ=[c,d,some (.int k)]) (λi=>(ts[i]?).bind λt=>some (swp t.1 k,t.2)) (small (by lia)) ?_ ?_ ?_
 ·exact⟨_,_,rfl⟩
 ·rintro i x σ H2 Yes No hx ⟨c,d,rfl⟩ s3 yes no
  obtain⟨t,ht,hi⟩:=Ib iL hx
  obtain⟨p,kk,rfl,hp,hkk⟩:=JO hi
  have hm:=Aa ht
  have pl:=hln t hm
  refine⟨p,_,rfl,HK.of (s3 _ _ hp),rfl,_,_,rfl,_,_,rfl,rfl,?_⟩
  refine Kj ?_
  refine⟨_,rfl,_,rfl,kk,t.1,k,rfl,s3 _ _ hkk,by lia,by lia,λp2 H4 s4 h4=>?_⟩
  refine⟨_,rfl,Hr,λp3 h3=>?_⟩
  have s5:=Gy h3 (.tup [.ref p2,.int t.2])
  exact yes _ _ _ (swp t.1 k,t.2) ⟨_,_,rfl⟩ (s4.trans s5) (by rw[ht];rfl) (JB Gu (s5 _ _ h4))
 ·rintro H2 s3 hL
  have e:(List.range vs.length).filterMap (λi=>(ts[i]?).bind λt=>some (swp t.1 k,t.2))=ts.map λt=>(swp t.1 k,t.2):=by
   rw[lv,Jg,Au]
  rw[e]at hL
  refine⟨D,_,rfl,hL,λt ht e=>?_,by rw[AB];lia,λl H4 hl4 s4 h4=>?_⟩
  ·obtain⟨u,hu,rfl⟩:=AY.mp ht
   have z:(swp u.1 k).length=n:=by rw[Pe (by rw[hln u hu];exact hk),hln u hu]
   have e':swp u.1 k=[]:=e
   rw[e']at z
   simp at z
   lia
  ·exact q l H4 (s3.free hl4) (s3.trans s4) h4
end
section
variable{P:wP}{w:wQ}{K:wL}{mg:Str->wI}{base:Heap}{f g:wO}{fd gd:wR}
def MM(ts:List Gi)(k:Nat):List Gi:=norm (ts++ngt (Ie ts k))
def KW(ts:List Gi)(m:Nat):Option (Nat×Pw)->Prop
 |none=>∀k,k<m->MM ts k=[]
 |some (k,p)=>k<m/\(∀j,j<k->MM ts j=[])/\∃t r,MM ts k=t::r/\t.1=p
theorem KW.one{ts:List Gi}{m:Nat}:∀{a b:Option (Nat×Pw)},KW ts m a->KW ts m b->a=b
 |none,none,_,_=>rfl
 |none,some (k,p),h,⟨hk,_,t,r,e,_⟩=>by rw[h k hk]at e;cases e
 |some (k,p),none,⟨hk,_,t,r,e,_⟩,h=>by rw[h k hk]at e;cases e
 |some (k,p),some (j,q),⟨hk,hk',t,r,e,ep⟩,⟨hj,hj',t',r',e',ep'⟩=>by
  have:k=j:=by
   rcases Nat.lt_trichotomy k j with c|c|c
   ·rw[hj' k c]at e;cases e
   ·exact c
   ·rw[hk' j c]at e';cases e'
  subst this
  rw[e]at e'
  cases e'
  rw[<-ep,ep']
def vS(H:Hp)(v:V):Option (Nat×Pw)->Prop
 |none=>v=.non
 |some (k,p)=>∃t kk,v=.ref t/\H t=some (.tup [.int k,.ref kk])/\H kk=some (.tup (p.map V.int))
theorem Zs(ts:List Gi)(k:Nat):(MM ts k).length<=2*ts.length:=by
 unfold MM
 refine A9 (MQ _) ?_
 rw[AI]
 have:=MQ (ts.map λt=>(swp t.1 k,t.2))
 rw[AB]at this
 unfold ngt Ie
 rw[AB]
 lia
theorem bC{ts:List Gi}{k n:Nat}(hk:k+1<n)(hl:∀t∈ts,t.1.length=n):∀t∈Ie ts k,t.1.length=n:=λt ht=>by
 obtain⟨u,hu,e⟩:=LK ht
 obtain⟨x,hx,rfl⟩:=AY.mp hu
 rw[<-e]
 show(swp x.1 k).length=n
 rw[Pe (by rw[hl x hx];exact hk),hl x hx]
theorem RF{n:Nat}(n1:1<=n){ts:List Gi}(h:∀t∈ts,t.1.length=n):∀t∈ts,t.1≠[]:=λt ht e=>by
 have:=h t ht
 rw[e]at this
 simp at this
 lia
noncomputable abbrev vC:wG:=["many", "some", "place", "unlike"]
abbrev Jl:wG:=["many", "some"]
theorem PQ:Gj vC Jl (HS Ye):=Hx
def Uv(cBC:wO):Sp:=λvs H Q E=>∃(n:Int)(a:wO)(ts:List Gi),vs=[.int n,.ref a]/\Gf H a ts/\ts.length<=1000/\(¬ (1<=n/\n<=4)->E (.ref cBC) none H) /\
 (1<=n/\n<=4->(∀t∈ts,t.1.length=n.toNat)/\∀(v:V)(o:Option (Nat×Pw))(H':Hp),Gh H H'->KW ts (n.toNat-1) o->vS H' v o->Q v H')
theorem oM{cBC:wO}(F:Hi K "uneven" "uneven" Ye f fd)(GC:Hh P w K mg base 3 "refuse_bad_count" ["many"] (Va cBC))(GL:Hl P w K mg base 3 "less" MF (O9 λts us=>ts++ngt us))(GE:Hl P w K mg base 3 "exchanged" ["some", "place"] Rg)(mr:mg "range" = none):Gx P w K mg base (IB P w) 4 f fd Jl (Uv cBC):=by
 refine Kc F PQ λHQ A outer s H vs Q E hr h=>?_
 obtain⟨n,a,ts,rfl,hL,hl,e1,q⟩:=h
 have hM:=BD (Bt (by decide:Dat.dep Gi+1<=64) _) hr.units
 refine⟨_,HP (Iq (Io GC hr rfl Je (Ge (pv 0) Gk)))
  (HP (Ii UD rfl (Nh rfl mr (Ge (HV LO (pv 0) HM) Gk)) (HW (i:=2) PQ.nd rfl (Or.inl rfl))
   (HP (Hj (i:=3) PQ.nd rfl (Or.inl rfl) (Hm GL hr rfl (Ge (pv 1) (Ge (Hm GE hr rfl (Ge (pv 1) (Ge (pv 2) Gk))) Gk))))
   (HL (IP (II (Kz (α:=Gi) hM) (pv 3) (IC Gk) (IE _)) (HL (Hk (Hd (Ge (pv 2) (Ge (Ix Ks (Ix Kh (pv 3) HM (λ_ _=>rfl)) HM (λ_ _=>rfl)) Gk))))) IQ))))
  (HL (Hk Uf))),?_⟩
 refine⟨_,rfl,n,rfl,λhn=>?_,e1⟩
 obtain⟨n,rfl,n1,n4⟩:∃k:Nat,n=k/\1<=k/\k<=4:=⟨n.toNat,by lia,by lia,by lia⟩
 obtain⟨lens,q⟩:=q hn
 rw[Af]at lens q
 refine⟨_,rfl,_,_,rfl,rfl,_,rfl,by lia,by lia,?_⟩
 rw[show((n:Int)-1).toNat=n-1 by lia]
 refine Ni (lo:=0) (n:=n-1) (λi σ H'=>(∃c2 c3,σ=[some (.int n),some (.ref a),c2,c3])/\Gh H H'/\∀k,k<i->MM ts k=[]) ?_ ?_ ?_
 ·exact⟨⟨_,_,rfl⟩,Gh.refl _,λk hk=>absurd hk (Nat.not_lt_zero _)⟩
 ·rintro i σ H1 hi ⟨⟨c2,c3,rfl⟩,s1,hz⟩
  rw[Dr]
  refine⟨_,rfl,_,rfl,_,rfl,a,n,i,ts,rfl,hL.mono s1,lens,by lia,by lia,by lia,λl2 H2 hl2 s2 h2=>?_⟩
  have el:=MQ (ts.map λt=>(swp t.1 i,t.2))
  rw[AB]at el
  refine⟨a,l2,ts,Ie ts i,rfl,hL.mono (s1.trans s2),h2,RF n1 lens,RF n1 (bC (by lia) lens),by unfold Ie;lia,λl3 H3 hl3 s3 h3=>?_⟩
  have h3:Gf H3 l3 (MM ts i):=h3
  have ul:=Zs ts i
  refine⟨_,rfl,JN,λl4 hl4=>?_⟩
  have s4:=Gy hl4 (.lst [])
  have sH:=s1.trans (s2.trans (s3.trans s4))
  refine⟨l3,l4,MM ts i,[],rfl,rfl,h3.mono s4,⟨[],Gu,.nil⟩,_,rfl,?_⟩
  cases eu:MM ts i with
  |nil=>exact J4 ⟨⟨_,_,rfl⟩,sH,λk hk=>by
    rcases Nat.lt_succ_iff_lt_or_eq.mp hk with c|c
    ·exact hz k c
    ·rw[c];exact eu⟩
  |cons t r =>
   rw[eu]at h3
   refine JP ?_
   obtain⟨vs,eL,iL⟩:=h3.mono s4
   obtain⟨v0,vr,rfl⟩:∃v0 vr,vs=v0::vr:=by
    cases vs with
    |nil=>cases iL
    |cons x y=>exact⟨x,y,rfl⟩
   obtain⟨x,hx,hi0⟩:=Ib (i:=0) iL rfl
   cases hx
   obtain⟨p,kk,rfl,hp,hkk⟩:=JO hi0
   refine⟨_,rfl,_,rfl,l3,_,_,.ref p,rfl,rfl,HJ.of eL,KH (j:=0) rfl,p,_,_,.ref kk,rfl,rfl,HK.of hp,KH (j:=0) rfl,Hr,λt5 h5=>?_⟩
   have s5:=Gy h5 (.tup [.int i,.ref kk])
   exact q _ (some (i,t.1)) _ (sH.trans s5) ⟨hi,hz,t,r,eu,rfl⟩ ⟨t5,kk,rfl,Gu,s5 _ _ hkk⟩
 ·rintro σ H1 ⟨⟨c2,c3,rfl⟩,s1,hz⟩
  exact q _ none _ s1 hz rfl
end
section
variable{P:wP}{w:wQ}{K:wL}{mg:Str->wI}{base:Heap}{f g:wO}{fd gd:wR}
noncomputable def Tl:Stmt->List Stmt
 |.ClassDef _ _ _ b _ _ _ _ _ _ _=>b
 |_=>[]
noncomputable abbrev LJ:Stmt:=(Tl Xo).getD 0 (.Pass ⟨0,0,0,0⟩)
noncomputable abbrev P2:wG:=["self", "place", "powers"]
theorem jO:Gj P2 P2 (HS LJ):=Hx
structure OQ(K:wL)(C fI:wO):Prop where
 s:KO K C
 m:Vf K C fI
 p1:W.findIn K (.ref C) "place" = some none
 p2:W.findIn K (.ref C) "powers" = some none
def Th(C:wO):Sp:=λvs H Q E=>∃(x:wO)(v1 v2:V),vs=[.ref x,v1,v2]/\H x=some (xI x C none)/\∀d,H d=none->d≠x->Q .non (Gw (Gw (Gw H d (xD d [("place",v1)])) x (xI x C (some d))) d (xD d [("place",v1),("powers",v2)]))
theorem bB{C C0 fI:wO}(F:Hi K "__init__" "Uneven.__init__" LJ f fd)(M0:mg "EvenError" = some (.ref C0))(B:Lf K C0)(c:OQ K C fI):Gx P w K mg base Ho 2 f fd P2 (Th C):=by
 refine IJ F jO λHQ A outer s H vs Q E hr h=>?_
 obtain⟨x,v1,v2,rfl,hx,q⟩:=h
 refine⟨_,HP (Iq (Qn rfl M0 B (Ge (pv 0) (Ge IT Gk)))) (HP (PF (pv 0) (pv 1) rfl) (HL (PF (pv 0) (pv 2) rfl))),?_⟩
 refine⟨_,rfl,x,C,none,fI,_,rfl,hx,c.m.j,?_⟩
 refine⟨_,rfl,_,rfl,x,C,rfl,c.s,c.p1,.inl ⟨hx,λd hd dne=>?_⟩⟩
 refine⟨_,rfl,_,rfl,x,C,rfl,c.s,c.p2,.inr ⟨d,[("place",v1)],by rw[Gu],?_,(by decide:1<900),?_⟩⟩
 ·rw[Hf dne,Gu]
 ·exact q d hd dne
end
section
variable{P:wP}{w:wQ}{K:wL}{mg:Str->wI}{base:Heap}{f g:wO}{fd gd:wR}
noncomputable abbrev vG:wG:=["many", "some", "found"]
theorem Qw:Gj vG Jl (HS kP):=Hx
def MV(cBC C:wO):Sp:=λvs H Q E=>∃(n:Int)(a:wO)(ts:List Gi),vs=[.int n,.ref a]/\Gf H a ts/\ts.length<=1000/\(¬ (1<=n/\n<=4)->E (.ref cBC) none H) /\
 (1<=n/\n<=4->(∀t∈ts,t.1.length=n.toNat)/\(KW ts (n.toNat-1) none->∀H',Gh H H'->Q .non H') /\
  ∀k p,KW ts (n.toNat-1) (some (k,p))->∀H' d kk,Gh H H'->H d=none->H' d=some (xD d [("place",.int k),("powers",.ref kk)])->H' kk=some (.tup (p.map V.int))->E (.ref C) (some d) H')
theorem ZR{cBC C fI:wO}{fdI:wR}(F:Hi K "refuse_uneven" "refuse_uneven" kP f fd)(GU:Hh P w K mg base 5 "uneven" Jl (Uv cBC))(OI:Gx P w K mg base Ho 4 fI fdI P2 (Th C))(bI:Hy K fdI P2 [])(c:OQ K C fI)(M6:mg "Uneven" = some (.ref C)):Gx P w K mg base (IB P w) 6 f fd Jl (MV cBC C):=by
 refine Kc F Qw λHQ A outer s H vs Q E hr h=>?_
 obtain⟨n,a,ts,rfl,hL,hl,e1,q⟩:=h
 refine⟨_,HP (Hj (i:=2) Qw.nd rfl (Or.inl rfl) (Io GU hr rfl Je (Ge (pv 0) (Ge (pv 1) Gk))))
  (HL (IP (II cK (pv 2) Uf (IE _)) (HL (SU rfl rG c.m OI hr bI .nil Ou rfl M6 (Ge (Ix Ks (pv 2) HM (λ_ _=>rfl)) (Ge (Ix Ks (pv 2) HM (λ_ _=>rfl)) Gk)))) IQ)),?_⟩
 refine⟨_,rfl,_,rfl,n,a,ts,rfl,hL,hl,e1,λhn=>?_⟩
 obtain⟨lens,q0,q1⟩:=q hn
 refine⟨lens,λv o H' sH hU hI=>?_⟩
 refine⟨_,rfl,rfl,_,rfl,?_⟩
 cases o with
 |none =>
  obtain rfl:v=.non:=hI
  exact J4 (q0 hU H' sH)
 |some kp =>
  obtain⟨k,p⟩:=kp
  obtain⟨t,kk,rfl,ht,hk⟩:=hI
  refine JP ?_
  refine⟨_,rfl,t,_,_,_,rfl,rfl,HK.of ht,rfl,_,rfl,t,_,_,_,rfl,rfl,HK.of ht,rfl,Hr,λx hx=>?_⟩
  refine⟨x,_,_,rfl,Gu,λd hd dne=>⟨rfl,some d,?_,?_⟩⟩
  ·rw[Hf (B7 dne),Gu]
  ·have hd':H' d=none:=by rw[Hf dne]at hd;exact hd
   have key:∀b u,H' b=some u->MW x (Gw (Gw (Gw (Gw H' x (xI x C none)) d (xD d [("place",.int k)])) x (xI x C (some d))) d (xD d [("place",.int k),("powers",.ref kk)])) b=some u:=λb u hb=>by
    have n1:b≠x:=λz=>by rw[z,hx]at hb;cases hb
    have n2:b≠d:=λz=>by rw[z,hd']at hb;cases hb
    rw[Lb n1,Hf n2,Hf n1,Hf n2,Hf n1]
    exact hb
   refine q1 k p hU _ d kk (sH.trans key) (sH.free hd') ?_ (key _ _ hk)
   rw[Lb dne,Gu]
end
section
variable{P:wP}{w:wQ}{K:wL}{mg:Str->wI}{base:Heap}{f g:wO}{fd gd:wR}
abbrev tL:wG:=["terms", "numbers", "powers", "number"]
abbrev tQ:wG:=["powers", "numbers"]
theorem Yz:tQ.Nodup:=by decide +kernel
theorem NL:Gj tL ["terms"] (HS Pg):=Hx
def Ve:Sp:=λvs H Q _=>∃(a:wO)(ts:List Gi),vs=[.ref a]/\Gf H a ts/\ts.length<=100000/\∀(l:wO)(H':Hp),H l=none->Gh H H'->Gf H' l (norm ts)->Q (.ref l) H'
theorem oJ(F:Hi K "gathered" "gathered" Pg f fd)(ms:mg "sorted" = none):Gx P w K mg base Ho 2 f fd ["terms"] Ve:=by
 refine IJ F NL λHQ A outer s H vs Q E hr h=>?_
 obtain⟨a,ts,rfl,hL,Ha,q⟩:=h
 have hu:=SN hr
 have h8:=QN hr
 refine⟨_,HP (Hj (i:=1) NL.nd rfl (Or.inr rfl) Vd)
  (HP (Ii Ar rfl (IW (pv 0)) (Im rfl (Hw (HW (i:=2) NL.nd rfl (Or.inl rfl)) (Hw (HW (i:=3) NL.nd rfl (Or.inl rfl)) Ik)))
   (HL (V4 hu (pv 1) (pv 2) (HV Jc (kT hu (pv 1) (pv 2) HM ⟨rfl,rfl,rfl,rfl⟩) (pv 3)) rfl)))
  (HL (Hk (Iy (N':=tQ) (src:=[none,some 1]) rfl (IW (nO rfl h8 rfl ms (Ge (pv 1) Gk)))
   (Ir (HS Pg) tL (by decide +kernel))
   (λb=>HW (i:=0) Yz rfl (Or.inl rfl))
   (λb=>PP (II Mq (QF hu (pv 1) (pv 0) (λ_ _=>rfl)) HM (IE _)))
   (λb=>Hd (Ge (pv 0) (Ge (QF hu (pv 1) (pv 0) (λ_ _=>rfl)) Gk))))))),?_⟩
 intro d hd
 obtain⟨vs,eL,iL⟩:=hL
 have lv:=AL iL
 have s0:Gh H (Gw H d (.dT [])):=Gy hd _
 refine⟨_,rfl,a,rfl,⟨vs,HJ.of (s0 _ _ eL)⟩,?_⟩
 refine Jd (xs:=vs) (λi σ H'=>(∃c2 c3,σ=[some (.ref a),some (.ref d),c2,c3])/\H' d=some (.dT (IS (IA (ts.take i))))/\Gh H H') ?_ ?_ ?_ ?_
 ·exact⟨⟨_,_,rfl⟩,Gu,s0⟩
 ·rintro i σ H1 _ ⟨_,_,s1⟩
  exact HJ.of (s1 _ _ eL)
 ·rintro i x σ H1 hx ⟨⟨c2,c3,rfl⟩,h1,s1⟩
  obtain⟨t,ht,hi⟩:=Ib iL hx
  obtain⟨p,k,rfl,hp,hk⟩:=JO hi
  have hk1:=s1 _ _ hk
  refine⟨p,_,rfl,HK.of (s1 _ _ hp),rfl,_,_,rfl,_,_,rfl,rfl,?_⟩
  have g:=Ih.t (k:=t.1.map Sum.inl) h1 (by rw[LV];exact hk1)
  rw[QT]at g
  refine⟨_,rfl,d,rfl,.inr ⟨_,.inl h1⟩,_,rfl,_,g,_,rfl,(Ij (IA (ts.take i)) t.1).getD 0,t.2,?_,rfl,_,rfl,_,rfl,d,_,rfl,JS.t (k:=t.1.map Sum.inl) h1 (by rw[LV];exact hk1) ?_,?_⟩
  ·cases Ij (IA (ts.take i)) t.1<;>rfl
  ·rw[Vu]
   have:=P8 (ts.take i)
   rw[Ah]at this
   exact KU (by lia)
  ·refine⟨⟨_,_,rfl⟩,?_,λb o e=>?_⟩
   ·rw[JK ht,NQ,<-Pj]
    exact Gu
   ·rw[Hf (JR e hd)]
    exact s1 b o e
 ·rintro σ H1 ⟨⟨c2,c3,rfl⟩,h1,s1⟩
  rw[AW (by lia)]at h1
  refine⟨_,rfl,d,IA ts,rfl,.inl h1,λp vs' ks hp pm so it=>?_⟩
  have s2:Gh H1 (Gw H1 p (.lst vs')):=Gy hp _
  refine⟨p,rfl,⟨_,HJ.of Gu⟩,λb D hD=>?_⟩
  have lk:=AL it
  have ln:vs'.length<=100000:=by
   have:=pm.length_eq
   rw[AB]at this
   have:=P8 ts
   lia
  refine KL (α:=Gi) hD (HJ.of Gu) (λσ=>∃c,σ=[c,some (.ref d)]) (λi=>(ks[i]?).bind λk=>if (Ij (IA ts) k).getD 0≠0 then some (k,(Ij (IA ts) k).getD 0) else none) (small ln) ⟨_,rfl⟩ ?_ ?_
  ·rintro i x σ H2 Yes No hx ⟨c,rfl⟩ s3 yes no
   obtain⟨k,hk,hi⟩:=Ib it hx
   obtain⟨pk,rfl,hpk⟩:=JU hi
   have hpk3:=s3 _ _ (s2 _ _ hpk)
   have hd3:=s3 _ _ (s2 _ _ h1)
   obtain⟨n,hn⟩:=Ry (pm.mem_iff.mp (Aa hk))
   have g:=Ih.t (k:=k.map Sum.inl) hd3 (by rw[LV];exact hpk3)
   rw[QT,hn]at g
   refine⟨_,rfl,_,rfl,d,.int n,rfl,g,rfl,_,rfl,?_⟩
   by_cases c0:n=0
   ·subst c0
    refine J4 ?_
    exact no _ _ ⟨_,rfl⟩ (Gh.refl _) (by rw[hk,Cd,hn,AD (by simp)])
   ·have e0:(!decide (V.int n=V.int 0))=true:=by
     rw[AO (λz=>c0 (by injection z))]
     rfl
    rw[e0]
    refine JP ⟨_,rfl,_,rfl,_,rfl,d,.int n,rfl,g,Hr,λr hr=>?_⟩
    exact yes _ _ _ (k,n) ⟨_,rfl⟩ (Gy hr _) (by rw[hk,Cd,hn,AF (by simpa using c0)];rfl) (JB Gu (Gy hr _ _ _ hpk3))
  ·intro H2 s3 hL
   refine q D H2 (s1.free (s2.free hD)) (s1.trans (s2.trans s3)) ?_
   have e:=Si pm so
   rw[<-Tc,<-Jg,<-lk]at e
   rw[<-e]
   exact hL
def Ow:Sp:=λvs H Q _=>∃(a b:wO)(S T:List Gi),vs=[.ref a,.ref b]/\Gf H a S/\Gf H b T/\S.length*T.length<=10000/\(∀t∈S,t.1.length<=100/\t.2.natAbs<2^100000)/\(∀t∈T,t.1.length<=100/\t.2.natAbs<2^100000)/\∀(l:wO)(H':Hp),H l=none->Gh H H'->Gf H' l (norm (Jh Iu S T))->Q (.ref l) H'
noncomputable abbrev vF:wG:=["one", "other", "terms", "row", "number", "more", "often"]
theorem LH:Gj vF ["one", "other"] (HS pV):=Hx
theorem L9{H H':Hp}{l:wO}(h:H l=none)(e:Gh H H')(o:HO):Gh H (Gw H' l o):=λb u q=>by rw[Hf (JR q h)];exact e b u q
theorem Km{H:Hp}{l:wO}{xs:List V}(h:H l=some (.lst xs))(o:HO):HX H (Gw H l o):=λp ys q=>by
 rw[Hf (Ku q h (by intro z;cases z))];exact q
theorem gT(d:wB->wB)(S T:List Gi)(t:Gi):Jh d (S++[t]) T=Jh d S T++T.map λu=>(d (t.1++u.1),t.2*u.2):=by
 unfold Jh
 rw[Be,BW]
theorem Sz(d:wB->wB)(T:List Gi):∀S:List Gi,(Jh d S T).length=S.length*T.length
 |[]=>by simp [Jh]
 |t::S=>by
  have:=Sz d T S
  unfold Jh at this ⊢
  rw[Bg,AI,AB,this,Aj,Cz]
  lia
theorem dF(F:Hi K "joined" "joined" pV f fd)(GG:Hl P w K mg base 2 "gathered" ["terms"] Ve)(mt:mg "tuple" = none)(ms:mg "sorted" = none):Gx P w K mg base Ho 3 f fd ["one", "other"] Ow:=by
 refine IJ F LH λHQ A outer s H vs Q E hr h=>?_
 obtain⟨a,b,S,T,rfl,⟨vs,eA,iA⟩,⟨ws,eB,iB⟩,hl,hS,hT,q⟩:=h
 have h8:=QN hr
 refine⟨_,HP (Hj (i:=2) LH.nd rfl (Or.inl rfl) (IC Gk))
  (HP (Ii Ar rfl (IW (pv 0)) (Im rfl (Hw (HW (i:=3) LH.nd rfl (Or.inl rfl)) (Hw (HW (i:=4) LH.nd rfl (Or.inl rfl)) Ik)))
   (HL (Ii Ar rfl (IW (pv 1)) (Im rfl (Hw (HW (i:=5) LH.nd rfl (Or.inl rfl)) (Hw (HW (i:=6) LH.nd rfl (Or.inl rfl)) Ik)))
    (HL (Iq (LQ BE BN BO Lj (pv 2) (Ge (Hd (Ge (NN N2 rfl mt B1 (Ge (sG rfl h8 rfl ms (Ge (HV LM (pv 3) (pv 5)) Gk)) Gk)) (Ge (HV Lr (pv 4) (pv 6)) Gk))) Gk)))))))
  (HL (Hk (Hm GG hr rfl (Ge (pv 2) Gk))))),?_⟩
 have lA:=AL iA
 have lB:=AL iB
 refine⟨JN,λl hl0=>?_⟩
 have s0:=Gy hl0 (.lst [])
 refine⟨_,rfl,a,rfl,⟨vs,HJ.of (s0 _ _ eA)⟩,?_⟩
 refine Jd (xs:=vs) (λi σ H'=>(∃c3 c4 c5 c6,σ=[some (.ref a),some (.ref b),some (.ref l),c3,c4,c5,c6])/\Gf H' l (Jh Iu (S.take i) T)/\Gh H H') ?_ ?_ ?_ ?_
 ·exact⟨⟨_,_,_,_,rfl⟩,⟨[],Gu,.nil⟩,s0⟩
 ·rintro i σ H1 _ ⟨_,_,s1⟩
  exact HJ.of (s1 _ _ eA)
 ·rintro i x σ H1 hx ⟨⟨c3,c4,c5,c6,rfl⟩,hW,s1⟩
  obtain⟨t,ht,hi⟩:=Ib iA hx
  obtain⟨p,kk,rfl,hp,hkk⟩:=JO hi
  have li:i<S.length:=(Ae.mp ht).1
  have tb:=hS t (Aa ht)
  refine⟨p,_,rfl,HK.of (s1 _ _ hp),rfl,_,_,rfl,_,_,rfl,rfl,?_⟩
  refine⟨_,rfl,b,rfl,⟨ws,HJ.of (s1 _ _ eB)⟩,?_⟩
  rw[JK ht,gT]
  have jl:=Sz Iu T (S.take i)
  have jm:(S.take i).length*T.length+T.length<=10000:=by
   have:((S.take i).length+1)*T.length<=S.length*T.length:=EM _ (by rw[Ah];lia)
   rw[Cz]at this
   lia
  generalize Jh Iu (S.take i) T=pre at hW jl
  refine Jd (xs:=ws) (λj σ H'=>(∃c5 c6,σ=[some (.ref a),some (.ref b),some (.ref l),some (.ref kk),some (.int t.2),c5,c6])/\Gf H' l (pre++(T.take j).map λu=>(Iu (t.1++u.1),t.2*u.2))/\Gh H H') ?_ ?_ ?_ ?_
  ·refine⟨⟨_,_,rfl⟩,?_,s1⟩
   rw[DP,DN,BM]
   exact hW
  ·rintro j σ H2 _ ⟨_,_,s2⟩
   exact HJ.of (s2 _ _ eB)
  ·rintro j y σ H2 hy ⟨⟨c5,c6,rfl⟩,⟨us,eU,iU⟩,s2⟩
   obtain⟨u,hu,hi2⟩:=Ib iB hy
   obtain⟨p2,k2,rfl,hp2,hk2⟩:=JO hi2
   have ub:=hT u (Aa hu)
   have lu:=AL iU
   have lj:j<T.length:=(Ae.mp hu).1
   refine⟨p2,_,rfl,HK.of (s2 _ _ hp2),rfl,_,_,rfl,_,_,rfl,rfl,?_⟩
   refine⟨_,rfl,.inl ⟨rfl,_,HJ.of eU⟩,?_⟩
   refine⟨_,rfl,_,rfl,?_⟩
   refine Kp (r:=t.1) (r':=u.1) (s2 _ _ hkk) (s2 _ _ hk2) (small (by lia)) λt3 H3 s3 h3=>?_
   refine⟨t3,t.1++u.1,rfl,HK.of h3,λp4 m h4 pm so=>?_⟩
   rw[Rk pm so]
   have s4:=Gy h4 (.lst ((Iu (t.1++u.1)).map V.int))
   refine⟨p4,_,rfl,.inl ⟨HJ.of Gu,λt5 h5=>?_⟩⟩
   have s5:=Gy h5 (.tup ((Iu (t.1++u.1)).map V.int))
   refine⟨_,rfl,_,rfl,_,_,rfl,rfl,⟨tb.2,ub.2⟩,Hr,λp6 h6=>?_⟩
   have s6:=Gy h6 (.tup [.ref t5,.int (t.2*u.2)])
   have all:=s3.trans (s4.trans (s5.trans s6))
   have eU6:=all _ _ eU
   refine⟨l,us,_,rfl,rfl,eU6,KU (by rw[AI,AB,Ah]at lu;lia),⟨_,_,rfl⟩,⟨us++[.ref p6],Gu,?_⟩,L9 hl0 (s2.trans all) _⟩
   rw[JK hu,Az,<-Ag]
   exact Paired.app (Hs.mono ((HX.same all).trans (Km eU6 _)) iU) (.cons (Dat.mono (Km eU6 _) (JB (t:=(Iu (t.1++u.1),t.2*u.2)) Gu (s6 _ _ Gu))) .nil)
  ·rintro σ H2 ⟨⟨c5,c6,rfl⟩,h2,s2⟩
   rw[AW (by lia)]at h2
   exact⟨⟨_,_,_,_,rfl⟩,h2,s2⟩
 ·rintro σ H1 ⟨⟨c3,c4,c5,c6,rfl⟩,hL,s1⟩
  rw[AW (by lia)]at hL
  have jl:=Sz Iu T S
  exact⟨_,rfl,l,_,rfl,hL,by lia,λl3 H2 hl3 s2 h2=>q l3 H2 (s1.free hl3) (s1.trans s2) h2⟩
end
section
variable{P:wP}{w:wQ}{K:wL}{mg:Str->wI}{base:Heap}{f g:wO}{fd gd:wR}
theorem oI:Gj MF MF (HS Oe):=Hx
def Ti:Sp:=λvs H Q _=>∃(a b:wO)(S T:List Gi),vs=[.ref a,.ref b]/\Gf H a S/\Gf H b T/\S.length+T.length<=100000/\∀(l:wO)(H':Hp),H l=none->Gh H H'->Gf H' l (norm (S++T))->Q (.ref l) H'
theorem YI(F:Hi K "plus" "plus" Oe f fd)(GG:Hl P w K mg base 2 "gathered" ["terms"] Ve):Gx P w K mg base Ho 3 f fd MF Ti:=by
 refine IJ F oI λHQ A outer s H vs Q E hr h=>?_
 obtain⟨a,b,ts,us,rfl,⟨vs,eA,iA⟩,⟨ws,eB,iB⟩,Ha,q⟩:=h
 refine⟨_,HL (Hk (Hm GG hr rfl (Ge (HV NT (pv 0) (pv 1)) Gk))),?_⟩
 have la:=AL iA
 have lb:=AL iB
 refine⟨_,rfl,_,rfl,a,b,vs,ws,rfl,rfl,eA,eB,small (by lia),λp hp=>?_⟩
 have s1:=Gy hp (.lst (vs++ws))
 refine⟨p,ts++us,rfl,⟨_,Gu,Paired.app (Hs.mono (HX.same s1) iA) (Hs.mono (HX.same s1) iB)⟩,by rw[AI];exact Ha,λl H' hl s2 h2=>?_⟩
 exact q l H' (s1.free hl) (s1.trans s2) h2
abbrev KY(H:Hp)(vs:List V)(Ps:List (List Gi)):Prop:=Paired (λv T=>∃b,v=.ref b/\Gf H b T) vs Ps
theorem KY.mono{H H':Hp}{vs:List V}{Ps:List (List Gi)}(s:Gh H H')(h:KY H vs Ps):KY H' vs Ps:=Ch (λ_ _ q=>let ⟨b,e,hb⟩:=q;⟨b,e,hb.mono s⟩) h
noncomputable def P7(k:Nat):Int:=if (k:Int)%2=1 then 1 else -1
noncomputable def KM(Ps:List (List Gi)):Nat->List Gi
 |0=>[]
 |k+1=>norm (KM Ps k++norm (Jh Iu [([((k+1:Nat):Int)],P7 (k+1))] (Ps.getD (Ps.length-(k+1)) [])))
noncomputable def O7(T:List Gi):Bool:=decide (T.length<=100)&&T.all λt=>decide (t.1.length<=100)&&decide (t.2.natAbs<2^64)
noncomputable def Lk(Ps:List (List Gi)):Bool:=decide (Ps.length<=8)&&Ps.all O7&&(List.range (Ps.length+1)).all λk=>O7 (KM Ps k)
theorem Vn{T:List Gi}(h:O7 T=true):T.length<=100/\∀t∈T,t.1.length<=100/\t.2.natAbs<2^100000:=by
 unfold O7 at h
 rw[AK,AV,AZ]at h
 refine⟨h.1,λt ht=>?_⟩
 have:=h.2 t ht
 rw[AK,AV,AV]at this
 exact⟨this.1,DO this.2 (CC (by decide) (by decide))⟩
noncomputable abbrev vL:wG:=["lesser", "total", "number", "sign"]
theorem Ls:Gj vL ["lesser"] (HS aT):=Hx
def N5:Sp:=λvs H Q _=>∃(a:wO)(us:List V)(Ps:List (List Gi)),vs=[.ref a]/\H a=some (.lst us)/\KY H us Ps/\Lk Ps=true/\∀(l:wO)(H':Hp),H l=none->Gh H H'->Gf H' l (KM Ps Ps.length)->Q (.ref l) H'
theorem gZ{us:List V}{k:Nat}(h:k<us.length):J6 us (-((k:Int)+1))=us[us.length-(k+1)]?:=by
 unfold J6 O1
 rw[AD (by lia)]
 rw[AF (by lia)]
 rw[Cd]
 congr 1
 lia
theorem aL(F:Hi K "alternating" "alternating" aT f fd)(GP:Hl P w K mg base 3 "plus" MF Ti)(GJ:Hl P w K mg base 3 "joined" ["one", "other"] Ow)(mr:mg "range" = none)(mn:mg "len" = none):Gx P w K mg base Ho 4 f fd ["lesser"] N5:=by
 refine IJ F Ls λHQ A outer s H vs Q E hr h=>?_
 obtain⟨a,us,Ps,rfl,ha,hT,hB,q⟩:=h
 refine⟨_,HP (Hj (i:=1) Ls.nd rfl (Or.inl rfl) (IC Gk))
  (HP (Ii Ar rfl (bY rfl mr (Ge HM (Ge (HV Jc (Ia K4 rfl mn Bl (Ge (pv 0) Gk)) HM) Gk))) (HW (i:=2) Ls.nd rfl (Or.inl rfl))
   (HP (Hj (i:=3) Ls.nd rfl (Or.inl rfl) (Y7 (II ME (HV K6 (pv 2) HM) HM (IE _)) HM (OY OR HM)))
   (HL (Hj (i:=1) Ls.nd rfl (Or.inl rfl) (Hm GP hr rfl (Ge (pv 1) (Ge (Hm GJ hr rfl (Ge (IC (Ge (Hd (Ge (Hd (Ge (pv 2) Gk)) (Ge (pv 3) Gk))) Gk)) (Ge (Ix Kh (pv 0) (OY OR (pv 2)) (λ_ _=>rfl)) Gk))) Gk)))))))
  (HL (Hk (pv 1)))),?_⟩
 unfold Lk at hB
 rw[AK,AK,AV,AZ,AZ]at hB
 obtain⟨⟨l8,hP⟩,hK⟩:=hB
 have lu:=AL hT
 refine⟨JN,λl0 hl0=>?_⟩
 have s0:=Gy hl0 (.lst [])
 refine⟨_,rfl,a,_,rfl,.inl (HJ.of (s0 _ _ ha)),_,_,rfl,rfl,1,_,rfl,⟨by lia,by lia,by lia,by lia⟩,?_⟩
 refine Ni (lo:=1) (n:=((us.length:Int)+1-1).toNat) (λk σ H'=>(∃(l:wO)(c2 c3:Option V),σ=[some (.ref a),some (.ref l),c2,c3]/\Gf H' l (KM Ps k)/\H l=none)/\Gh H H') ?_ ?_ ?_
 ·exact⟨⟨l0,_,_,rfl,⟨[],Gu,.nil⟩,hl0⟩,s0⟩
 ·rintro k σ H1 hk ⟨⟨l,c2,c3,rfl,hL,fl⟩,s1⟩
  have kl:k<us.length:=by lia
  obtain⟨Pk,hPk,b,hb',hb⟩:∃Pk,Pk=Ps.getD (Ps.length-(k+1)) []/\∃b,us[us.length-(k+1)]?=some (.ref b)/\Gf H b Pk:=by
   obtain⟨T,hT',b,eb,hb⟩:=Paired.get hT (AT (show us.length-(k+1)<us.length by lia))
   refine⟨T,?_,b,by rw[AT (show us.length-(k+1)<us.length by lia),eb],hb⟩
   rw[<-lu,Ao,hT']
   rfl
  have pm:Pk∈Ps:=by
   rw[hPk,Ao,AT (show Ps.length-(k+1)<Ps.length by lia)]
   exact DV _
  obtain⟨b1,b2⟩:=Vn (hP Pk pm)
  obtain⟨a1,a2⟩:=Vn (hK k (At.mpr (by lia)))
  have at1:J6 us (-(1+(k:Int)))=some (.ref b):=by
   rw[show -(1+(k:Int))=-((k:Int)+1) by lia,gZ kl]
   exact hb'
  have par:(1+(k:Int))%2=1/\P7 (k+1)=1∨¬ (1+(k:Int))%2=1/\P7 (k+1)=-1:=by
   unfold P7
   rw[show((k+1:Nat):Int)=1+(k:Int) by lia]
   by_cases c:(1+(k:Int))%2=1
   ·exact .inl ⟨c,AF c⟩
   ·exact .inr ⟨c,AD c⟩
  refine⟨_,rfl,_,_,rfl,rfl,(by show(0:Int)<2;decide),rfl,_,rfl,?_⟩
  rcases par with⟨c1,e1⟩|⟨c1,e1⟩
  ·refine Jq (show V.int ((1+(k:Int))%2)=V.int 1 by rw[c1]) ?_
   refine⟨_,rfl,_,rfl,IH,λt1 h1=>⟨_,rfl,Hr,λt2 h2=>⟨IH,λl3 h3=>?_⟩⟩⟩
   have z1:=Gy h1 (.tup [.int (1+(k:Int))])
   have z2:=Gy h2 (.tup [.ref t1,.int (1)])
   have z3:=Gy h3 (.lst [.ref t2])
   have z:=z1.trans (z2.trans z3)
   have sz:=s1.trans z
   refine⟨_,rfl,_,rfl,_,rfl,a,us,_,.ref b,rfl,rfl,HJ.of (sz _ _ ha),at1,?_⟩
   refine⟨l3,b,[([1+(k:Int)],1)],Pk,rfl,⟨[.ref t2],Gu,.cons (JB (t:=([1+(k:Int)],1)) (z3 _ _ Gu) (z3 _ _ (z2 _ _ Gu))) .nil⟩,hb.mono sz,by show 1*_<=10000;lia,λt ht=>by rw[Ad.mp ht];exact⟨by show 1<=100;decide,by show(1:Int).natAbs<_;exact DO (show(1:Int).natAbs<2^64 by decide) (CC (by decide) (by decide))⟩,b2,λl4 H4 hl4 s4 h4=>?_⟩
   have jl:=Sz Iu Pk [([1+(k:Int)],1)]
   have nl:=MQ (Jh Iu [([1+(k:Int)],1)] Pk)
   have j1:[([1+(k:Int)],(1:Int))].length=1:=rfl
   rw[j1,Nat.one_mul]at jl
   refine⟨l,l4,KM Ps k,_,rfl,hL.mono (z.trans s4),h4,by lia,λl5 H5 hl5 s5 h5=>?_⟩
   refine⟨⟨l5,_,_,rfl,?_,(sz.trans s4).free hl5⟩,(sz.trans s4).trans s5⟩
   show Gf H5 l5 (norm (KM Ps k++norm (Jh Iu [([((k+1:Nat):Int)],P7 (k+1))] (Ps.getD (Ps.length-(k+1)) []))))
   rw[e1,<-hPk,show((k+1:Nat):Int)=1+(k:Int) by lia]
   exact h5
  ·refine JV (λz=>c1 (by injection z)) ⟨_,rfl,?_⟩
   refine⟨_,rfl,_,rfl,IH,λt1 h1=>⟨_,rfl,Hr,λt2 h2=>⟨IH,λl3 h3=>?_⟩⟩⟩
   have z1:=Gy h1 (.tup [.int (1+(k:Int))])
   have z2:=Gy h2 (.tup [.ref t1,.int (-1)])
   have z3:=Gy h3 (.lst [.ref t2])
   have z:=z1.trans (z2.trans z3)
   have sz:=s1.trans z
   refine⟨_,rfl,_,rfl,_,rfl,a,us,_,.ref b,rfl,rfl,HJ.of (sz _ _ ha),at1,?_⟩
   refine⟨l3,b,[([1+(k:Int)],-1)],Pk,rfl,⟨[.ref t2],Gu,.cons (JB (t:=([1+(k:Int)],-1)) (z3 _ _ Gu) (z3 _ _ (z2 _ _ Gu))) .nil⟩,hb.mono sz,by show 1*_<=10000;lia,λt ht=>by rw[Ad.mp ht];exact⟨by show 1<=100;decide,by show(-1:Int).natAbs<_;exact DO (show(-1:Int).natAbs<2^64 by decide) (CC (by decide) (by decide))⟩,b2,λl4 H4 hl4 s4 h4=>?_⟩
   have jl:=Sz Iu Pk [([1+(k:Int)],-1)]
   have nl:=MQ (Jh Iu [([1+(k:Int)],-1)] Pk)
   have j1:[([1+(k:Int)],(-1:Int))].length=1:=rfl
   rw[j1,Nat.one_mul]at jl
   refine⟨l,l4,KM Ps k,_,rfl,hL.mono (z.trans s4),h4,by lia,λl5 H5 hl5 s5 h5=>?_⟩
   refine⟨⟨l5,_,_,rfl,?_,(sz.trans s4).free hl5⟩,(sz.trans s4).trans s5⟩
   show Gf H5 l5 (norm (KM Ps k++norm (Jh Iu [([((k+1:Nat):Int)],P7 (k+1))] (Ps.getD (Ps.length-(k+1)) []))))
   rw[e1,<-hPk,show((k+1:Nat):Int)=1+(k:Int) by lia]
   exact h5
 ·rintro σ H1 ⟨⟨l,c2,c3,rfl,hL,fl⟩,s1⟩
  rw[show((us.length:Int)+1-1).toNat=Ps.length by lia]at hL
  exact⟨_,rfl,q l _ fl s1 hL⟩
end
section
variable{P:wP}{w:wQ}{K:wL}{mg:Str->wI}{base:Heap}{f g:wO}{fd gd:wR}
noncomputable def JG:Nat->List (List Gi)
 |0=>[[([],1)]]
 |k+1=>JG k++[KM (JG k) (JG k).length]
theorem UY:∀k,(JG k).length=k+1
 |0=>rfl
 |k+1=>by
  show(JG k++[KM (JG k) (JG k).length]).length=_
  rw[AI,UY k]
  rfl
theorem nZ:∀k∈List.range 5,Lk (JG k)=true:=by decide +kernel
theorem Vh{H:Hp}{b p:wO}{T:List Gi}{xs:List V}(nb:b≠p)(hp:H p=some (.lst xs))(o:HO)(h:Gf H b T):Gf (Gw H p o) b T:=by
 obtain⟨vs,e,i⟩:=h
 exact⟨vs,by rw[Hf nb];exact e,Hs.mono (Km hp o) i⟩
theorem UX:Gj ["many", "parts"] ["many"] (HS ZS):=Hx
def Uy:Sp:=λvs H Q _=>∃n:Nat,vs=[.int n]/\n<=4/\∀(a:wO)(us:List V)(H':Hp),H a=none->Gh H H'->H' a=some (.lst us)->KY H' us (JG n)->Q (.ref a) H'
theorem fM(F:Hi K "elementaries_by_whole" "elementaries_by_whole" ZS f fd)(GA:Hl P w K mg base 4 "alternating" ["lesser"] N5)(mn:mg "len" = none):Gx P w K mg base Ho 5 f fd ["many"] Uy:=by
 refine IJ F UX λHQ A outer s H vs Q E hr h=>?_
 obtain⟨n,rfl,n4,q⟩:=h
 refine⟨_,HP (Hj (i:=1) UX.nd rfl (Or.inl rfl) (IC (Ge (IC (Ge (Hd (Ge (Hd Gk) (Ge HM Gk))) Gk)) Gk)))
  (HP (dU Ar (II OX (Ia K4 rfl mn Bl (Ge (pv 1) Gk)) (pv 0) (IE _))
   (HL (Iq (LQ BE BN BO Lj (pv 1) (Ge (Hm GA hr rfl (Ge (pv 1) Gk)) Gk)))))
  (HL (Hk (pv 1)))),?_⟩
 refine⟨JN,λt0 h0=>⟨Hr,λt1 h1=>⟨IH,λl2 h2=>⟨IH,λp hp=>?_⟩⟩⟩⟩
 have s0:=Gy h0 (.tup [])
 have s1:=Gy h1 (.tup [.ref t0,.int 1])
 have s2:=Gy h2 (.lst [.ref t1])
 have s3:=Gy hp (.lst [.ref l2])
 have z:=s0.trans (s1.trans (s2.trans s3))
 have np:l2≠p:=λe=>by rw[<-e,Gu]at hp;cases hp
 have fp:H p=none:=s0.free (s1.free (s2.free hp))
 refine⟨λm σ H'=>∃(k:Nat)(us:List V),m=n+1-k/\k<=n/\σ=[some (.int n),some (.ref p)]/\H' p=some (.lst us)/\Paired (λv T=>∃b,v=.ref b/\b≠p/\Gf H' b T) us (JG k)/\Gh H H',⟨n+1,0,[.ref l2],rfl,by lia,rfl,Gu,.cons ⟨l2,rfl,np,s3 _ _ Gu |> λe=>⟨[.ref t1],e,.cons (JB (t:=([],1)) (s3 _ _ (s2 _ _ Gu)) (s3 _ _ (s2 _ _ (s1 _ _ Gu)))) .nil⟩⟩ .nil,z⟩,?_⟩
 rintro m σ H1 ⟨k,us,rfl,kn,rfl,h1',hT,sH⟩
 have lu:=AL hT
 rw[UY]at lu
 refine⟨_,rfl,p,_,rfl,.inl (HJ.of h1'),_,rfl,_,_,rfl,rfl,_,rfl,?_⟩
 by_cases c:((us.length:Int))<=(n:Int)
 ·refine Jq c ⟨λσ' H'=>∃us',σ'=[some (.int n),some (.ref p)]/\H' p=some (.lst us')/\Paired (λv T=>∃b,v=.ref b/\b≠p/\Gf H' b T) us' (JG (k+1))/\Gh H H',λσ' H' ⟨us',e1,e2,e3,e4⟩=>⟨n+1-(k+1),by lia,k+1,us',rfl,by lia,e1,e2,e3,e4⟩,?_⟩
  refine⟨_,rfl,.inl ⟨rfl,_,HJ.of h1'⟩,_,rfl,p,us,JG k,rfl,h1',Ch (λ_ _ q=>let ⟨b,e,_,hb⟩:=q;⟨b,e,hb⟩) hT,nZ k (At.mpr (by lia)),λl H2 hl s4 hL=>?_⟩
  have h2p:=s4 _ _ h1'
  have nl:l≠p:=λe=>by rw[e,h1']at hl;cases hl
  refine⟨p,us,_,rfl,rfl,h2p,KU (by lia),us++[.ref l],rfl,Gu,?_,L9 fp (sH.trans s4) _⟩
  show Paired _ _ (JG k++[KM (JG k) (JG k).length])
  refine Paired.app (Ch (λv T q=>?_) hT) (.cons ?_ .nil)
  ·obtain⟨b,e,nb,hb⟩:=q
   exact⟨b,e,nb,Vh nb h2p _ (hb.mono s4)⟩
  ·exact⟨l,rfl,nl,Vh nl h2p _ hL⟩
 ·refine JV c ?_
  have:k=n:=by lia
  subst this
  exact⟨_,rfl,q p us _ fp sH h1' (Ch (λ_ _ q=>let ⟨b,e,_,hb⟩:=q;⟨b,e,hb⟩) hT)⟩
end
section
variable{P:wP}{w:wQ}{K:wL}{mg:Str->wI}{base:Heap}{f g:wO}{fd gd:wR}
theorem Yg(c:Int)(p:Pw):∀a:List Gi,cf (scl c a) p=c*cf a p
 |[]=>by simp [scl,cf]
 |t::r=>by
  have:=Yg c p r
  unfold scl at this ⊢
  rw[An]
  show(if t.1=p then c*t.2 else 0)+cf _ p=c*((if t.1=p then t.2 else 0)+cf r p)
  rw[this,HI]
  split
  ·rfl
  ·rw[Int.mul_zero]
theorem ZZ{c:Int}(h:c≠0){a:List Gi}(k:HU a):HU (scl c a):=by
 refine⟨?_,λt ht=>?_⟩
 ·have:=k.ord
  unfold scl
  rw[CF]
  exact this
 ·obtain⟨u,hu,rfl⟩:=AY.mp ht
  exact Int.mul_ne_zero h (k.num u hu)
theorem pL{c:Int}(h:c≠0)(a:List Gi):norm (scl c a)=scl c (norm a):=V6 (Jt _) (ZZ h (Jt a)) λp=>by rw[KG,Yg,Yg,KG]
theorem Qy(d:wB->wB)(c:Int)(P:List Gi):∀S:List Gi,Jh d (scl c S) P=scl c (Jh d S P)
 |[]=>rfl
 |t::S=>by
  have:=Qy d c P S
  unfold Jh scl at this ⊢
  rw[An,Bg,Bg,Az,this]
  congr 1
  rw[Cm]
  refine Ca λu _=>?_
  show(_,c*t.2*u.2)=(_,c*(t.2*u.2))
  rw[EA]
noncomputable def Jj(Ps:List (List Gi))(r:wB):List Gi:=r.foldl (λres k=>norm (Jh Iu res (Ps.getD k.toNat []))) [([],1)]
theorem Y9(Ps:List (List Gi))(r:wB)(k:Int):Jj Ps (r++[k])=norm (Jh Iu (Jj Ps r) (Ps.getD k.toNat [])):=by
 unfold Jj
 rw[Bv]
 rfl
noncomputable def OO(Ps:List (List Gi))(r:wB):Bool:=decide (r.length<=8)&&r.all (λk=>decide (0<=k)&&decide (k<(Ps.length:Int)))&&(List.range (r.length+1)).all λj=>decide ((Jj Ps (r.take j)).length<=50)&&(Jj Ps (r.take j)).all λt=>decide (t.1.length<=50)&&decide (t.2.natAbs<2^64)
structure PB(Ps:List (List Gi))(r:wB):Prop where
 l8:r.length<=8
 num:∀k∈r,0<=k/\k<(Ps.length:Int)
 few:∀j,j<=r.length->(Jj Ps (r.take j)).length<=50
 all:∀j,j<=r.length->∀t∈Jj Ps (r.take j),t.1.length<=50/\t.2.natAbs<2^64
theorem Vs{Ps:List (List Gi)}{r:wB}(h:OO Ps r=true):PB Ps r:=by
 unfold OO at h
 rw[AK,AK,AV,AZ,AZ]at h
 obtain⟨⟨h1,h2⟩,h3⟩:=h
 have k3:∀j,j<=r.length->(Jj Ps (r.take j)).length<=50/\∀t∈Jj Ps (r.take j),t.1.length<=50/\t.2.natAbs<2^64:=λj hj=>by
  have:=h3 j (At.mpr (by lia))
  rw[AK,AV,AZ]at this
  refine⟨this.1,λt ht=>?_⟩
  have:=this.2 t ht
  rw[AK,AV,AV]at this
  exact this
 refine⟨h1,λk hk=>?_,λj hj=>(k3 j hj).1,λj hj=>(k3 j hj).2⟩
 have:=h2 k hk
 rw[AK,AV,AV]at this
 exact this
theorem lJ{a b:Int}(ha:a.natAbs<2^20000)(hb:b.natAbs<2^64):(a*b).natAbs<2^100000:=by
 rw[EY]
 have h1:a.natAbs*b.natAbs<=2^20000*2^64:=Du (BY ha) (BY hb)
 rw[<-D8]at h1
 exact BD h1 (CC (by decide) (by decide))
def L5(Ps:List (List Gi))(t:Gi):List Gi:=scl t.2 (Jj Ps t.1)
noncomputable abbrev uL:wG:=["telling", "parts", "terms", "row", "often", "result", "number"]
theorem KS:Gj uL ["telling", "parts"] (HS Zq):=Hx
def N1:Sp:=λvs H Q _=>∃(a b:wO)(T:List Gi)(us:List V)(Ps:List (List Gi)),vs=[.ref a,.ref b]/\Gf H a T/\H b=some (.lst us)/\KY H us Ps/\T.length<=100/\(∀t∈T,OO Ps t.1=true/\t.2≠0/\t.2.natAbs<2^20000)/\(∀P∈Ps,O7 P=true)/\∀(l:wO)(H':Hp),H l=none->Gh H H'->Gf H' l (norm (T.flatMap (L5 Ps)))->Q (.ref l) H'
theorem Qp(Ps:List (List Gi)):∀(T:List Gi),(∀t∈T,(Jj Ps t.1).length<=50)->(T.flatMap (L5 Ps)).length<=T.length*50
 |[],_=>by simp
 |t::T,h=>by
  have h1:=h t (AJ ..)
  have h2:=Qp Ps T λu hu=>h u (AM _ hu)
  rw[Bg,AI,Aj,Cz]
  unfold L5 at h2 ⊢
  rw[ND]
  lia
theorem bQ(F:Hi K "put_in" "put_in" Zq f fd)(GG:Hl P w K mg base 3 "gathered" ["terms"] Ve)(GJ:Hl P w K mg base 3 "joined" ["one", "other"] Ow):Gx P w K mg base Ho 4 f fd ["telling", "parts"] N1:=by
 refine IJ F KS λHQ A outer s H vs Q E hr h=>?_
 obtain⟨a,b,T,us,Ps,rfl,⟨vs,eA,iA⟩,eB,hT,lT,bT,bP,q⟩:=h
 refine⟨_,HP (Hj (i:=2) KS.nd rfl (Or.inl rfl) (IC Gk))
  (HP (Ii Ar rfl (IW (pv 0)) (Im rfl (Hw (HW (i:=3) KS.nd rfl (Or.inl rfl)) (Hw (HW (i:=4) KS.nd rfl (Or.inl rfl)) Ik)))
   (HP (Hj (i:=5) KS.nd rfl (Or.inl rfl) (IC (Ge (Hd (Ge (Hd Gk) (Ge (pv 4) Gk))) Gk)))
   (HP (Ii Ar rfl (US (pv 3)) (HW (i:=6) KS.nd rfl (Or.inl rfl))
    (HL (Hj (i:=5) KS.nd rfl (Or.inl rfl) (Hm GJ hr rfl (Ge (pv 5) (Ge (Ix Kh (pv 1) (pv 6) (λ_ _=>rfl)) Gk))))))
   (HL (Iq (LQ BE FF FG Ur (pv 2) (Ge (pv 5) Gk)))))))
  (HL (Hk (Hm GG hr rfl (Ge (pv 2) Gk))))),?_⟩
 have lA:=AL iA
 have lu:=AL hT
 have pr:∀t∈T,(Jj Ps t.1).length<=50:=λt ht=>by
  have:=(Vs (bT t ht).1).few t.1.length (AG _)
  rwa [AW (AG _)]at this
 refine⟨JN,λl hl0=>?_⟩
 have s0:=Gy hl0 (.lst [])
 refine⟨_,rfl,a,rfl,⟨vs,HJ.of (s0 _ _ eA)⟩,?_⟩
 refine Jd (xs:=vs) (λi σ H'=>(∃c3 c4 c5 c6,σ=[some (.ref a),some (.ref b),some (.ref l),c3,c4,c5,c6])/\Gf H' l ((T.take i).flatMap (L5 Ps))/\Gh H H') ?_ ?_ ?_ ?_
 ·exact⟨⟨_,_,_,_,rfl⟩,⟨[],Gu,.nil⟩,s0⟩
 ·rintro i σ H1 _ ⟨_,_,s1⟩
  exact HJ.of (s1 _ _ eA)
 ·rintro i x σ H1 hx ⟨⟨c3,c4,c5,c6,rfl⟩,hW,s1⟩
  obtain⟨t,ht,hi⟩:=Ib iA hx
  obtain⟨p,kk,rfl,hp,hkk⟩:=JO hi
  have tm:=Aa ht
  obtain⟨t1,t2,t3⟩:=bT t tm
  have pb:=Vs t1
  have fl:=Qp Ps (T.take i) λu hu=>pr u (Bp hu)
  rw[Ah]at fl
  refine⟨p,_,rfl,HK.of (s1 _ _ hp),rfl,_,_,rfl,_,_,rfl,rfl,?_⟩
  refine⟨JN,λt0 h0=>⟨_,rfl,Hr,λt4 h4=>⟨IH,λl3 h3=>?_⟩⟩⟩
  have z1:=Gy h0 (.tup [])
  have z2:=Gy h4 (.tup [.ref t0,.int t.2])
  have z3:=Gy h3 (.lst [.ref t4])
  have z:=z1.trans (z2.trans z3)
  have hL3:Gf (Gw (Gw (Gw H1 t0 (.tup [])) t4 (.tup [.ref t0,.int t.2])) l3 (.lst [.ref t4])) l3 (scl t.2 [([],1)]):=⟨[.ref t4],Gu,.cons (JB (t:=([],t.2*1)) (by rw[D5];exact z3 _ _ Gu) (z3 _ _ (z2 _ _ Gu))) .nil⟩
  have n3:l3≠l:=λe=>by
   obtain⟨ys,ey,_⟩:=hW.mono (z1.trans z2)
   rw[e,ey]at h3
   cases h3
  have hW3:=hW.mono z
  have s3:=s1.trans z
  show JF 5 (.ref l3) _ (Gw (Gw (Gw H1 t0 (.tup [])) t4 (.tup [.ref t0,.int t.2])) l3 (.lst [.ref t4])) _
  generalize Gw (Gw (Gw H1 t0 (.tup [])) t4 (.tup [.ref t0,.int t.2])) l3 (.lst [.ref t4])=H2 at *
  refine⟨_,rfl,kk,rfl,⟨_,HK.of (s3 _ _ hkk)⟩,?_⟩
  refine iR (xs:=t.1.map V.int) (λj σ H'=>(∃(lr:wO)(c6:Option V),σ=[some (.ref a),some (.ref b),some (.ref l),some (.ref kk),some (.int t.2),some (.ref lr),c6]/\Gf H' lr (scl t.2 (Jj Ps (t.1.take j)))/\lr≠l)/\Gh H2 H') ?_ ?_ ?_ ?_
  ·exact⟨⟨l3,_,rfl,hL3,n3⟩,Gh.refl _⟩
  ·rintro j σ H3 _ ⟨_,s4⟩
   exact HK.of (s4 _ _ (s3 _ _ hkk))
  ·rintro j v σ H3 hv ⟨⟨lr,c6,rfl,hR,nr⟩,s4⟩
   obtain⟨k,hk,rfl⟩:∃k,t.1[j]?=some k/\V.int k=v:=by
    rw[Al]at hv
    cases e:t.1[j]? with
    |none=>rw[e]at hv;cases hv
    |some y=>rw[e]at hv;exact⟨y,rfl,Ap hv⟩
   have jl:j<t.1.length:=(Ae.mp hk).1
   obtain⟨k0,k1⟩:=pb.num k (Aa hk)
   obtain⟨m,rfl⟩:∃m:Nat,k=m:=⟨k.toNat,by lia⟩
   obtain⟨Pk,hPk,bk,ebk,hbk⟩:=Paired.get hT (AT (show m<us.length by lia))
   have s34:=s3.trans s4
   have gP:Ps.getD (m:Int).toNat []=Pk:=by
    rw[Af,Ao,hPk]
    rfl
   obtain⟨b1,b2⟩:=Vn (bP Pk (Aa hPk))
   have fw:=pb.few j (by lia)
   have al:=pb.all j (by lia)
   have e1:norm (Jh Iu (scl t.2 (Jj Ps (t.1.take j))) Pk)=scl t.2 (Jj Ps (t.1.take (j+1))):=by
    rw[Qy,pL t2,JK hk,Y9,gP]
   generalize Jj Ps (t.1.take j)=R at hR fw al e1
   refine⟨_,rfl,_,rfl,_,rfl,b,us,_,.ref bk,rfl,rfl,HJ.of (s34 _ _ eB),KH (by rw[AT (show m<us.length by lia),ebk]),?_⟩
   refine⟨lr,bk,scl t.2 R,Pk,rfl,hR,hbk.mono s34,?_,λu hu=>?_,b2,λl5 H5 hl5 s5 h5=>?_⟩
   ·rw[ND]
    have:=Du fw b1
    lia
   ·obtain⟨y,hy,rfl⟩:=AY.mp hu
    obtain⟨y1,y2⟩:=al y hy
    exact⟨by show y.1.length<=100;lia,lJ t3 y2⟩
   ·rw[e1]at h5
    refine⟨⟨l5,_,rfl,h5,λe=>?_⟩,s4.trans s5⟩
    obtain⟨ys,ey,_⟩:=hW3.mono s4
    rw[e,ey]at hl5
    cases hl5
  ·rintro σ H3 ⟨⟨lr,c6,rfl,hR,nr⟩,s4⟩
   rw[AB,AW (AG _)]at hR
   obtain⟨xs,ex,ix⟩:=hW3.mono s4
   obtain⟨zs,ez,iz⟩:=hR
   have lx:=AL ix
   have lz:=AL iz
   rw[ND]at lz
   have p50:=pr t tm
   refine⟨_,rfl,.inl ⟨rfl,_,HJ.of ex⟩,_,rfl,l,lr,xs,zs,rfl,rfl,ex,ez,small (by lia),⟨_,_,_,_,rfl⟩,⟨xs++zs,Gu,?_⟩,L9 hl0 (s3.trans s4) _⟩
   rw[JK ht,Be,BW]
   exact Paired.app (Hs.mono (Km ex _) ix) (Hs.mono (Km ex _) iz)
 ·rintro σ H1 ⟨⟨c3,c4,c5,c6,rfl⟩,hL,s1⟩
  rw[AW (by lia)]at hL
  have fl:=Qp Ps T pr
  exact⟨_,rfl,l,_,rfl,hL,by lia,λl3 H2 hl3 s2 h2=>q l3 H2 (s1.free hl3) (s1.trans s2) h2⟩
end
section
variable{P:wP}{w:wQ}{K:wL}{mg:Str->wI}{base:Heap}{f g:wO}{fd gd:wR}
noncomputable def MG(f:wB->List wB)(l:wB)(i:Nat):List wB:=if l.getD i 0∈l.take i then [] else (f (l.take i++l.drop (i+1))).map (l.getD i 0 :: ·)
noncomputable def JW:Nat->wB->List wB
 |0,_=>[]
 |n+1,l=>if l=[] then [[]] else (List.range l.length).flatMap (MG (JW n) l)
theorem W6(n:Nat):JW (n+1) []=[[]]:=by simp [JW]
theorem gN(n:Nat)(l:wB)(h:l≠[]):JW (n+1) l=(List.range l.length).flatMap (MG (JW n) l):=by simp [JW,h]
theorem iN:∀(n:Nat)(l:wB),∀r∈JW n l,r.length=l.length
 |0,_,r,h=>by simp [JW]at h
 |n+1,l,r,h=>by
  by_cases c:l=[]
  ·subst c
   rw[W6,Ad]at h
   rw[h]
  ·rw[gN n l c,Ba]at h
   obtain⟨i,hi,h⟩:=h
   have hi:=At.mp hi
   unfold MG at h
   split at h
   ·simp at h
   ·obtain⟨q,hq,rfl⟩:=AY.mp h
    have:=iN n _ q hq
    rw[AI,Ah,BC]at this
    rw[Aj]
    lia
def ML:Nat->Nat
 |0=>1
 |n+1=>(n+1)*ML n
theorem V2{α β:Type}(g:α->List β)(B:Nat):∀l:List α,(∀a∈l,(g a).length<=B)->(l.flatMap g).length<=l.length*B
 |[],_=>by simp
 |a::l,h=>by
  have h1:=h a (AJ ..)
  have h2:=V2 g B l λb hb=>h b (AM _ hb)
  rw[Bg,AI,Aj,Cz]
  lia
theorem WZ:∀(n:Nat)(l:wB),(JW n l).length<=ML l.length
 |0,l=>by simp [JW]
 |n+1,l=>by
  by_cases c:l=[]
  ·subst c
   rw[W6]
   exact AG _
  ·rw[gN n l c]
   obtain⟨k,hk⟩:∃k,l.length=k+1:=⟨l.length-1,by have:=List.length_pos_iff.mpr c;lia⟩
   refine A9 (V2 _ (ML k) _ λi hi=>?_) ?_
   ·have hi:=At.mp hi
    unfold MG
    split
    ·exact Ax _
    ·rw[AB]
     have:=WZ n (l.take i++l.drop (i+1))
     rwa [AI,Ah,BC,show min i l.length+(l.length-(i+1))=k by lia]at this
   ·rw[Bw,hk]
    exact AG _
theorem Zf{α β:Type}(g:α->List β):∀{l:List α}{i:Nat}{a:α},l[i]?=some a->(l.take (i+1)).flatMap g=(l.take i).flatMap g++g a:=λ{l i a} h=>by
 rw[JK h,Be,BW]
theorem Zx{α β:Type}(g:α->List β)(l:List α)(i:Nat):((l.take i).flatMap g).length<=(l.flatMap g).length:=by
 have:l.flatMap g=(l.take i).flatMap g++(l.drop i).flatMap g:=by rw[<-Be,Bf]
 rw[this,AI]
 lia
theorem cA{r:wB}{i:Nat}{v:V}(h:(r.map V.int)[i]?=some v):v=.int (r.getD i 0)/\i<r.length:=by
 rw[Al]at h
 rw[Ao]
 cases e:r[i]? with
 |none=>rw[e]at h;cases h
 |some c=>rw[e]at h;exact⟨(Ap h).symm,(Ae.mp e).1⟩
noncomputable abbrev uF:wG:=["numbers", "found", "place", "number", "rest"]
theorem Lp:Gj uF ["numbers"] (HS VX):=Hx
def Kt(n:Nat):Sp:=λvs H Q _=>∃(p:wO)(l:wB),vs=[.ref p]/\H p=some (.tup (l.map V.int))/\l.length<n/\l.length<=4 /\
 ∀(a:wO)(H':Hp),H a=none->Gh H H'->Gf H' a (JW n l)->Q (.ref a) H'
theorem Y4{n:Nat}(F:Hi K "orders" "orders" VX f fd)(G:Gx P w K mg base Ho n f fd ["numbers"] (Kt n))(bF:Hy K fd ["numbers"] [])(mU:mg "orders" = some (.ref f))(me:mg "enumerate" = none) :
  Gx P w K mg base Ho (n+1) f fd ["numbers"] (Kt (n+1)):=by
 refine IJ F Lp λHQ A outer s H vs Q E hr h=>?_
 obtain⟨p,l,rfl,hp,hn,h4,q⟩:=h
 have hI:=BD (Bt (by decide:Dat.dep Int+1<=64) _) hr.units
 refine⟨_,HP (IP (II (PZ (α:=Int) hI) (pv 0) (Hd Gk) (IE _)) (HL (Hk (IC (Ge (Hd Gk) Gk)))) IQ)
  (HP (Hj (i:=1) Lp.nd rfl (Or.inl rfl) (IC Gk))
  (HP (Ii Ar rfl (RQ .tup rfl me (Ge (pv 0) Gk)) (Im rfl (Hw (HW (i:=2) Lp.nd rfl (Or.inl rfl)) (Hw (HW (i:=3) Lp.nd rfl (Or.inl rfl)) Ik)))
   (HL (IP (II gE (pv 3) (NB OA (pv 0) Mh (NA (pv 2))) rfl)
    (HL (Ii Ar rfl (IW (Px G hr rfl mU F.kp bF .nil Ou (Ge (HV LM (NB OA (pv 0) Mh (NA (pv 2))) (NB RC (pv 0) (NA (HV Jc (pv 2) HM)) Mh)) Gk))) (HW (i:=4) Lp.nd rfl (Or.inl rfl))
     (HL (Iq (LQ BE BN BO Lj (pv 1) (Ge (HV LM (Hd (Ge (pv 3) Gk)) (pv 4)) Gk)))))) IQ)))
  (HL (Hk (pv 1))))),?_⟩
 refine⟨_,rfl,JN,λt0 h0=>?_⟩
 have s0:=Gy h0 (.tup [])
 refine⟨l,[],Js (s0 _ _ hp),Js Gu,_,rfl,?_⟩
 by_cases c:l=[]
 ·subst c
  rw[KZ]
  refine JP ?_
  refine⟨JN,λt1 h1=>⟨IH,λa ha=>?_⟩⟩
  have s1:=Gy h1 (.tup [])
  have s2:=Gy ha (.lst [.ref t1])
  refine q a _ (s0.free (s1.free ha)) (s0.trans (s1.trans s2)) ⟨[.ref t1],Gu,?_⟩
  rw[W6]
  exact .cons (Js (r:=[]) (s2 _ _ Gu)) .nil
 have ne:JL (Dat.eqb (α:=Int)) l []=false:=D1.mpr λz=>c ((QO Dat.eqb_iff _ _).mp z)
 rw[ne]
 refine J4 ?_
 refine⟨JN,λa ha=>?_⟩
 have s1:=s0.trans (Gy ha (.lst []))
 have fa:H a=none:=s0.free ha
 have tot:=gN n l c
 have tl:=WZ (n+1) l
 have b4:ML l.length<=24:=by
  have:l.length=0∨l.length=1∨l.length=2∨l.length=3∨l.length=4:=by lia
  rcases this with e|e|e|e|e<;>rw[e]<;>decide
 rw[tot]at tl
 refine⟨_,rfl,p,rfl,⟨_,HK.of (s1 _ _ hp)⟩,?_⟩
 refine YE (k:=.tup) (xs:=l.map V.int) (λi σ H'=>(∃c2 c3 c4,σ=[some (.ref p),some (.ref a),c2,c3,c4])/\Gh H H'/\Gf H' a (((List.range l.length).take i).flatMap (MG (JW n) l))) ?_ ?_ ?_ ?_
 ·exact⟨⟨_,_,_,rfl⟩,s1,[],Gu,by simpa using Paired.nil⟩
 ·rintro i σ H1 ⟨_,sH,_⟩
  exact HK.of (sH _ _ hp)
 ·rintro i x t σ H1 hx ht ⟨⟨c2,c3,c4,rfl⟩,sH,hL⟩
  obtain⟨rfl,hi⟩:=cA hx
  have s2:=Gy ht (.tup [.int i,.int (l.getD i 0)])
  refine⟨t,_,rfl,HK.of Gu,rfl,_,_,rfl,_,_,rfl,rfl,?_⟩
  have hL:=hL.mono s2
  have sH:=sH.trans s2
  generalize Gw H1 t (.tup [.int i,.int (l.getD i 0)])=G1 at hL sH
  have nx:=Zf (MG (JW n) l) (EV hi)
  have nle:=Zx (MG (JW n) l) (List.range l.length) (i+1)
  rw[nx]at nle
  refine⟨_,rfl,_,rfl,_,rfl,_,rfl,p,l,i,rfl,rfl,rfl,sH _ _ hp,λt2 H2 s2 h2=>⟨_,t2,_,rfl,rfl,h2,_,rfl,?_⟩⟩
  by_cases cm:l.getD i 0∈l.take i
  ·rw[Ab cm]
   refine J4 ⟨⟨_,_,_,rfl⟩,sH.trans s2,?_⟩
   rw[nx,show MG (JW n) l i=[] from AF cm,BM]
   exact hL.mono s2
  rw[AO cm]
  refine JP ?_
  have eO:MG (JW n) l i=(JW n (l.take i++l.drop (i+1))).map (l.getD i 0 :: ·):=AD cm
  rw[eO]at nx nle
  have sH2:=sH.trans s2
  refine⟨_,rfl,_,rfl,_,rfl,p,l,i,rfl,rfl,rfl,sH2 _ _ hp,λt3 H3 s3 h3=>?_⟩
  refine⟨_,rfl,_,rfl,_,_,rfl,rfl,_,rfl,p,l,i+1,rfl,by rw[Int.natCast_add];rfl,rfl,s3 _ _ (sH2 _ _ hp),λt4 H4 s4 h4'=>?_⟩
  refine Kp (r:=l.take i) (r':=l.drop (i+1)) (s4 _ _ h3) h4' (small (by rw[Ah,BC];lia)) λt5 H5 s5 h5=>?_
  have s25:=s3.trans (s4.trans s5)
  have sH5:=sH2.trans s25
  have lr:(l.take i++l.drop (i+1)).length=l.length-1:=by rw[AI,Ah,BC];lia
  refine⟨t5,_,rfl,h5,by lia,by lia,λr H6 fr s6 e6=>?_⟩
  have rl:=iN n (l.take i++l.drop (i+1))
  generalize JW n (l.take i++l.drop (i+1))=Hg at e6 nx nle rl
  obtain⟨vs2,e2,i2⟩:=e6
  have l2:=AL i2
  have hL6:=(hL.mono s2).mono (s25.trans s6)
  generalize ((List.range l.length).take i).flatMap (MG (JW n) l)=pre at hL6 nx nle
  have hra:r≠a:=λz=>by
   obtain⟨zs,ez,_⟩:=(hL.mono s2).mono s25
   rw[z]at fr
   rw[ez]at fr
   cases fr
  refine⟨r,rfl,⟨_,HJ.of e2⟩,?_⟩
  refine Jd (xs:=vs2) (λj σ H'=>(∃c4,σ=[some (.ref p),some (.ref a),some (.int i),some (.int (l.getD i 0)),c4])/\Gh H H'/\H' r=some (.lst vs2)/\Hs H' vs2 Hg/\Gf H' a (pre++(Hg.take j).map (l.getD i 0 :: ·))) ?_ ?_ ?_ ?_
  ·exact⟨⟨_,rfl⟩,sH5.trans s6,e2,i2,by simpa using hL6⟩
  ·rintro j σ H7 _ ⟨_,_,e3,_⟩
   exact HJ.of e3
  ·rintro j x σ H7 hx ⟨⟨c4,rfl⟩,s7,e3,i3,pv2,eL3,iL3⟩
   obtain⟨row,hrow,hx2⟩:=Paired.get i3 hx
   obtain⟨px,rfl,hpx⟩:=JU hx2
   have jl:j<Hg.length:=(Ae.mp hrow).1
   have len3:pv2.length<sizeLine:=by
    have z:=AL iL3
    rw[AI,AB,Ah]at z
    rw[AI,AB]at nle
    exact KU (by lia)
   have rw4:=rl row (Aa hrow)
   refine⟨_,rfl,.inl ⟨rfl,_,HJ.of eL3⟩,_,rfl,IH,λp8 h8=>⟨_,rfl,?_⟩⟩
   have s8:=Gy h8 (.tup [.int (l.getD i 0)])
   refine Kp (r:=[l.getD i 0]) (r':=row) Gu (s8 _ _ hpx) (small (by show 1+row.length<=100000;lia)) λp9 H9 s9 h9=>?_
   have s89:=s8.trans s9
   have eL4:=s89 _ _ eL3
   have t4:HX H9 (Gw H9 a (.lst (pv2++[.ref p9]))):=Km eL4 _
   refine⟨a,pv2,.ref p9,rfl,rfl,eL4,len3,⟨_,rfl⟩,L9 fa (s7.trans s89) _,?_,Hs.mono ((HX.same s89).trans t4) i3,pv2++[.ref p9],Gu,?_⟩
   ·rw[Hf hra];exact s89 _ _ e3
   ·rw[JK hrow,Az,<-Ag]
    exact DH (Hs.mono ((HX.same s89).trans t4) iL3) (Dat.mono t4 (Js h9))
  ·rintro σ H7 ⟨⟨c4,rfl⟩,s7,e3,i3,hL3⟩
   refine⟨⟨_,_,_,rfl⟩,s7,?_⟩
   rw[nx]
   rw[l2,Ce]at hL3
   exact hL3
 ·rintro σ H1 ⟨⟨c2,c3,c4,rfl⟩,sH,hL⟩
  refine⟨_,rfl,q a H1 fa sH ?_⟩
  rw[tot]
  rw[AB,AW (by rw[Bw];exact AG _)]at hL
  exact hL
theorem ZA:Gx P w K mg base Ho 0 f fd ["numbers"] (Kt 0):=by
 have no:∀vs H Q E,¬ Kt 0 vs H Q E:=λvs H Q E h=>by
  obtain⟨p,l,_,_,h1,_⟩:=h
  lia
 exact⟨λvs H Q E h=>absurd h (no vs H Q E),λA outer s H args us vs Q E _ _ _ _ h=>absurd h (no vs H Q E)⟩
theorem U6(F:Hi K "orders" "orders" VX f fd)(bF:Hy K fd ["numbers"] [])(mU:mg "orders" = some (.ref f))(me:mg "enumerate" = none):∀n,Gx P w K mg base Ho n f fd ["numbers"] (Kt n)
 |0=>ZA
 |n+1=>Y4 F (U6 F bF mU me n) bF mU me
noncomputable def IN(r:wB):Bool:=r.all (λx=>decide (1<=x))&&((List.range (r.length-1)).all λi=>decide (r.getD (i+1) 0<=r.getD i 0))&&decide (r.sum<=8)
abbrev Mo:wG:=["row"]
abbrev qX:wG:=["number"]
noncomputable abbrev Tq:wG:=["number", "later"]
theorem nW:qX.Nodup:=by decide +kernel
theorem Rz:Tq.Nodup:=by decide +kernel
theorem gC:Gj Mo Mo (HS Lq):=Hx
def OE(cBR:wO):Sp:=λvs H Q E=>∃(p:wO)(r:wB),vs=[.ref p]/\H p=some (.tup (r.map V.int))/\r.length<=1000/\(IN r=true->∀H',Gh H H'->Q .non H')/\(IN r=false->∀H',Gh H H'->E (.ref cBR) none H')
theorem cJ(r:wB):(r.map λx=>decide (x<1)).any id=!(r.all λx=>decide (1<=x)):=by
 induction r with
 |nil=>rfl
 |cons x r ih =>
  rw[An,B4,CI,ih,Bool.not_and]
  have:id (decide (x<1))=!decide (1<=x):=by
   by_cases c:x<1
   ·simp [c]
   ·simp [c,show 1<=x by lia]
  rw[this]
theorem YJ(l:List Nat)(r:wB):(l.map λi=>decide (r.getD i 0<r.getD (i+1) 0)).any id=!(l.all λi=>decide (r.getD (i+1) 0<=r.getD i 0)):=by
 induction l with
 |nil=>rfl
 |cons i l ih =>
  rw[An,B4,CI,ih,Bool.not_and]
  have:id (decide (r.getD i 0<r.getD (i+1) 0))=!decide (r.getD (i+1) 0<=r.getD i 0):=by
   by_cases c:r.getD i 0<r.getD (i+1) 0
   ·rw[Ab c,AO (by lia)];rfl
   ·rw[AO c,Ab (by lia)];rfl
  rw[this]
theorem U7{r:wB}{i:Nat}{v:V}(h:(r.map V.int)[i]?=some v):v=.int (r.getD i 0)/\i<r.length:=by
 rw[Al]at h
 rw[Ao]
 cases e:r[i]? with
 |none=>rw[e]at h;cases h
 |some c=>rw[e]at h;exact⟨(Ap h).symm,(Ae.mp e).1⟩
theorem UB{tk:Tok}{cBR:wO}(F:Hi K "refuse_bad_row" "refuse_bad_row" Lq f fd)(gU:mg "MOST_TOGETHER" = some (.int 8 tk))(X1:PJ K mg "BadRow" cBR)(ma:mg "any" = none)(mz:mg "zip" = none)(ms:mg "sum" = none):Gx P w K mg base (IB P w) 2 f fd Mo (OE cBR):=by
 refine Kc F gC λHQ A outer s H vs Q E hr h=>?_
 obtain⟨p,r,rfl,hp,hl,q,e⟩:=h
 refine⟨_,HP (IP (Ot (Ia (Ri rfl) rfl ma Fx (Ge (Iy (N':=qX) (src:=[none]) rfl (US (pv 0)) (Ir (HS Lq) Mo (by decide +kernel))
    (λb=>HW (i:=0) nW rfl (Or.inl rfl)) (λb=>JX) (λb=>QS Pb (pv 0) HM (IE _))) Gk))) (HL (Ui rfl R1 BS rfl X1.at_ X1.is (Ge IT Gk))) IQ)
  (HP (IP (Ot (Ia (Ri rfl) rfl ma Fx (Ge (Iy (N':=Tq) (src:=[none,none]) rfl (N0 .tup .tup rfl mz (Ge (pv 0) (Ge (NB Sm (pv 0) (NA HM) Mh) Gk))) (Ir (HS Lq) Mo (by decide +kernel))
    (λb=>Im rfl (Hw (HW (i:=0) Rz rfl (Or.inl rfl)) (Hw (HW (i:=1) Rz rfl (Or.inl rfl)) Ik))) (λb=>JX) (λb=>QS PM (pv 1) (pv 0) (IE _))) Gk))) (HL (Ui rfl R1 BS rfl X1.at_ X1.is (Ge IT Gk))) IQ)
  (HL (IP (II PM (Ia (iC rfl) rfl ms PyProof.Rows.boot_sum (Ge (pv 0) Gk)) (KJ (v:=.int 8) rfl gU ⟨_,rfl⟩) (IE _)) (HL (Ui rfl R1 BS rfl X1.at_ X1.is (Ge IT Gk))) IQ))),?_⟩
 have sz:1<=sizeLine:=by decide
 refine⟨_,rfl,p,rfl,⟨_,HK.of hp⟩,λbk D hD=>?_⟩
 refine nH (α:=Bool) hD (HK.of hp) (λσ=>∃c,σ=[c]) (λi=>(r[i]?).bind λx=>some (decide (x<1))) (small (by rw[AB];lia)) ?_ ?_ ?_
 ·exact⟨_,rfl⟩
 ·rintro i v σ H2 Yes No hv ⟨c,rfl⟩ s3 yes no
  obtain⟨x,hx,rfl⟩:∃x,r[i]?=some x/\V.int x=v:=by
   rw[Al]at hv
   cases e:r[i]? with
   |none=>rw[e]at hv;cases hv
   |some y=>rw[e]at hv;exact⟨y,rfl,Ap hv⟩
  refine NV ?_
  refine⟨_,rfl,_,_,rfl,rfl,?_⟩
  exact yes _ _ _ _ ⟨_,rfl⟩ (λ_ _ e=>e) (by rw[hx];rfl) rfl
 rintro H1 s1 ⟨ws,eD,iD⟩
 have e0:(List.range (r.map V.int).length).filterMap (λi=>(r[i]?).bind λx=>some (decide (x<1)))=r.map λx=>decide (x<1):=by
  rw[AB,Jg,Au]
 rw[Ug iD,e0]at eD
 refine⟨D,_,rfl,HJ.of eD,_,rfl,?_⟩
 rw[cJ]
 cases c1:r.all λx=>decide (1<=x) with
 |false=>exact JP ⟨sz,e (by unfold IN;rw[c1];rfl) _ s1⟩
 |true =>
 refine J4 ?_
 have hp1:=s1 _ _ hp
 refine⟨_,rfl,_,rfl,1,rfl,p,r,rfl,rfl,rfl,hp1,λt H2 s2 ht=>⟨p,t,rfl,⟨_,HK.of (s2 _ _ hp1)⟩,⟨_,HK.of ht⟩,λbk2 D2 hD2=>?_⟩⟩
 refine iG (α:=Bool) (k1:=.tup) (k2:=.tup) hD2 (HK.of (s2 _ _ hp1)) (HK.of ht) (λσ=>∃c d,σ=[c,d]) (λi=>some (decide (r.getD i 0<r.getD (i+1) 0))) (small (by rw[AB,AB];lia)) ?_ ?_ ?_
 ·exact⟨_,_,rfl⟩
 ·rintro i x y p2 σ H3 Yes No hx hy h2 ⟨c,d,rfl⟩ s3 yes no
  obtain⟨rfl,_⟩:=U7 hx
  obtain⟨rfl,_⟩:=U7 hy
  refine⟨p2,_,rfl,HK.of Gu,rfl,_,_,rfl,_,_,rfl,rfl,?_⟩
  refine Kj ?_
  refine⟨_,rfl,_,rfl,_,_,rfl,rfl,?_⟩
  refine yes _ _ _ _ ⟨_,_,rfl⟩ (Gy h2 _) rfl ?_
  show V.bl (decide (r.getD i 0<(r.drop 1).getD i 0))=V.bl (decide (r.getD i 0<r.getD (i+1) 0))
  rw[show(r.drop 1).getD i 0=r.getD (i+1) 0 by rw[Ao,List.getElem?_drop,Ao,Gz 1 i]]
 rintro H4 s4 ⟨ws2,eD2,iD2⟩
 have e1:(List.range (min (r.map V.int).length ((r.drop 1).map V.int).length)).filterMap (λi=>some (decide (r.getD i 0<r.getD (i+1) 0)))=(List.range (r.length-1)).map λi=>decide (r.getD i 0<r.getD (i+1) 0):=by
  rw[AB,AB,BC,FE (by lia),Au]
 rw[Ug iD2,e1]at eD2
 have s14:=s1.trans (s2.trans s4)
 refine⟨D2,_,rfl,HJ.of eD2,_,rfl,?_⟩
 rw[YJ]
 cases c2:(List.range (r.length-1)).all λi=>decide (r.getD (i+1) 0<=r.getD i 0) with
 |false=>exact JP ⟨sz,e (by unfold IN;rw[c1,c2];rfl) _ s14⟩
 |true =>
 refine J4 ?_
 refine⟨_,rfl,p,r,rfl,HK.of (s14 _ _ hp),_,_,rfl,rfl,_,rfl,?_⟩
 by_cases c3:8<r.sum
 ·exact Jq c3 ⟨sz,e (by unfold IN;rw[c1,c2,AO (by lia)];rfl) _ s14⟩
 ·exact JV c3 (q (by unfold IN;rw[c1,c2,Ab (by lia)];rfl) _ s14)
def UM:Sp:=λvs H Q _=>∃(p:wO)(r:wB),vs=[.ref p]/\H p=some (.tup (r.map V.int))/\r.length<=1000/\IN r=true/\∀H',Gh H H'->Q .non H'
theorem lC{cBR:wO}{k:Nat}(F:Gx P w K mg base (IB P w) k f fd Mo (OE cBR)):Gx P w K mg base Ho k f fd Mo UM:=Uk F λvs H Q E ⟨p,r,e,h,l,b,q⟩=>⟨p,r,e,h,l,λ_=>q,λz=>by rw[b]at z;cases z⟩
abbrev QM:wG:=["many", "row"]
abbrev rK:wG:=["powers"]
theorem pQ:rK.Nodup:=by decide +kernel
theorem cR:Gj QM QM (HS Vq):=Hx
noncomputable def Ie(n:Nat)(r:wB):List Gi:=(JW 5 (r++List.replicate (n-r.length) 0)).map λq=>(q,1)
def OT:Sp:=λvs H Q _=>∃(n:Nat)(p:wO)(r:wB),vs=[.int n,.ref p]/\1<=n/\n<=4/\H p=some (.tup (r.map V.int))/\r.length<=n/\IN r=true/\∀(a:wO)(H':Hp),H a=none->Gh H H'->Gf H' a (Ie n r)->Q (.ref a) H'
theorem P0(k:Nat):(List.replicate k [(0:Int)]).flatten=List.replicate k 0:=by
 induction k with
 |zero=>rfl
 |succ k ih=>rw[A5,Bu,ih,A5];rfl
theorem YL(F:Hi K "exchange_sum" "exchange_sum" Vq f fd)(GR:Hl P w K mg base 5 "refuse_bad_row" Mo UM)(GC:Hl P w K mg base 5 "refuse_bad_count" ["many"] SB)(GO:Hl P w K mg base 5 "orders" ["numbers"] (Kt 5))(mn:mg "len" = none):Gx P w K mg base Ho 6 f fd QM OT:=by
 refine IJ F cR λHQ A outer s H vs Q E hr h=>?_
 obtain⟨n,p,r,rfl,n1,n4,hp,hl,hB,q⟩:=h
 refine⟨_,HP (Iq (Hm GR hr rfl (Ge (pv 1) Gk))) (HP (Iq (Hm GC hr rfl (Ge (pv 0) Gk)))
  (HP (IP (II PM (Ia K4 rfl mn Bl (Ge (pv 1) Gk)) (pv 0) (IE _)) (HL RE) IQ)
  (HL (Hk (Iy (N':=rK) (src:=[none]) rfl (IW (Hm GO hr rfl (Ge (HV LM (pv 1) (HV OV (Hd (Ge HM Gk)) (HV LO (pv 0) (Ia K4 rfl mn Bl (Ge (pv 1) Gk))))) Gk))) (Ir (HS Vq) QM (by decide +kernel))
   (λb=>HW (i:=0) pQ rfl (Or.inl rfl)) (λb=>JX) (λb=>Hd (Ge (pv 0) (Ge HM Gk)))))))),?_⟩
 refine⟨_,rfl,p,r,rfl,hp,by lia,hB,λH1 s1=>?_⟩
 refine⟨_,rfl,n,rfl,by lia,by lia,?_⟩
 have hp1:=s1 _ _ hp
 refine⟨_,rfl,p,_,rfl,.inr (HK.of hp1),_,rfl,_,_,rfl,rfl,_,rfl,JV (by rw[AB];lia) ?_⟩
 refine⟨_,rfl,IH,λt0 h0=>?_⟩
 have s0:=Gy h0 (.tup [.int 0])
 refine⟨_,rfl,_,rfl,p,_,rfl,.inr (HK.of (s0 _ _ hp1)),_,_,rfl,rfl,t0,[0],_,rfl,rfl,Gu,by simp,by rw[AB];lia,by rw[AB];lia,small (by rw[AB];show 1*_<=100000;lia),λt2 H2 s2 h2=>?_⟩
 rw[P0,AB,show((n:Int)-(r.length:Int)).toNat=n-r.length by lia]at h2
 refine Kp (r:=r) (r':=List.replicate (n-r.length) 0) (s2 _ _ (s0 _ _ hp1)) h2 (small (by rw[A0];lia)) λt3 H3 s3 h3=>?_
 have l4:(r++List.replicate (n-r.length) (0:Int)).length=n:=by rw[AI,A0];lia
 refine⟨t3,_,rfl,h3,by lia,by lia,λa H4 ha s4 hL=>?_⟩
 have sH:=s1.trans (s0.trans (s2.trans (s3.trans s4)))
 have ol:=WZ 5 (r++List.replicate (n-r.length) 0)
 rw[l4]at ol
 have b4:ML n<=24:=by
  have:n=1∨n=2∨n=3∨n=4:=by lia
  rcases this with e|e|e|e<;>rw[e]<;>decide
 unfold Ie at q
 generalize JW 5 (r++List.replicate (n-r.length) 0)=os at hL q ol
 obtain⟨vs,eL,iL⟩:=hL
 have lv:=AL iL
 refine⟨a,rfl,⟨_,HJ.of eL⟩,λbk D hD=>?_⟩
 refine KL (α:=Gi) hD (HJ.of eL) (λσ=>∃c,σ=[c]) (λi=>(os[i]?).bind λx=>some (x,1)) (small (by lia)) ?_ ?_ ?_
 ·exact⟨_,rfl⟩
 ·rintro i v σ H5 Yes No hv ⟨c,rfl⟩ s5 yes no
  obtain⟨x,hx,hi⟩:=Ib iL hv
  obtain⟨px,rfl,hpx⟩:=JU hi
  refine NV ?_
  refine⟨_,rfl,Hr,λt6 h6=>?_⟩
  have s6:=Gy h6 (.tup [.ref px,.int 1])
  exact yes _ _ _ (x,1) ⟨_,rfl⟩ s6 (by rw[hx];rfl) (JB (t:=(x,1)) Gu (s6 _ _ (s5 _ _ hpx)))
 intro H7 s7 h7
 have e:(List.range vs.length).filterMap (λi=>(os[i]?).bind λx=>some (x,(1:Int)))=os.map λq=>(q,1):=by
  rw[lv,Jg,Au]
 rw[e]at h7
 exact q D H7 (sH.free hD) (sH.trans s7) h7
end
section
variable{P:wP}{w:wQ}{K:wL}{mg:Str->wI}{base:Heap}{f g:wO}{fd gd:wR}
noncomputable abbrev rS:wG:=["one", "other", "terms", "powers", "number", "more", "often"]
noncomputable abbrev sX:wG:=["power", "added"]
theorem Sq:sX.Nodup:=by decide +kernel
theorem Kn:Gj rS ["one", "other"] (HS Mc):=Hx
def Md:Sp:=λvs H Q _=>∃(a b:wO)(n d e x y:Nat)(ts us:List Gi),vs=[.ref a,.ref b]/\Gf H a ts/\Gf H b us/\Deg n d x ts/\Deg n e y us/\1<=n/\n<=4/\x<=100000/\y<=100000/\ts.length*us.length<=40000 /\
 ∀(l:wO)(H':Hp),H l=none->Gh H H'->Gf H' l (norm (prd ts us))->Q (.ref l) H'
theorem ZJ(p q:Pw)(h:p.length=q.length):(List.range (min (p.map V.int).length (q.map V.int).length)).filterMap (λi=>some (p.getD i 0+q.getD i 0))=IM p q:=by
 rw[Au,AB,AB,<-h,E8]
 refine DM λi=>?_
 unfold IM
 rw[Al,List.getElem?_zipWith]
 by_cases c:i<p.length
 ·rw[EV c,AT c,AT (by lia:i<q.length)]
  simp [c,(by lia:i<q.length)]
 ·rw[Fy (by rw[Bw];lia),Fy (by lia:p.length<=i)]
  rfl
theorem fQ(a b:List Gi)(t:Gi):prd (a++[t]) b=prd a b++b.map λu=>(IM t.1 u.1,t.2*u.2):=by
 unfold prd
 rw[Be,BW]
theorem YW(F:Hi K "multiplied" "multiplied" Mc f fd)(GG:Hl P w K mg base 2 "gathered" ["terms"] Qm)(mt:mg "tuple" = none)(mz:mg "zip" = none):Gx P w K mg base Ho 3 f fd ["one", "other"] Md:=by
 refine IJ F Kn λHQ A outer s H vs Q E hr h=>?_
 obtain⟨a,b,n,d,e,x,y,ts,us,rfl,hA,hB,ga,gb,n1,n4,hx1,hy1,hml,q⟩:=h
 refine⟨_,HP (Hj (i:=2) Kn.nd rfl (Or.inl rfl) (IC Gk))
  (HP (Ii Ar rfl (IW (pv 0)) (Im rfl (Hw (HW (i:=3) Kn.nd rfl (Or.inl rfl)) (Hw (HW (i:=4) Kn.nd rfl (Or.inl rfl)) Ik)))
   (HL (Ii Ar rfl (IW (pv 1)) (Im rfl (Hw (HW (i:=5) Kn.nd rfl (Or.inl rfl)) (Hw (HW (i:=6) Kn.nd rfl (Or.inl rfl)) Ik)))
    (HL (Iq (LQ BE BN BO Lj (pv 2) (Ge (Hd (Ge
     (NN N2 rfl mt B1 (Ge (Iy (N':=sX) (src:=[none,none]) rfl
      (N0 .tup .tup rfl mz (Ge (pv 3) (Ge (pv 5) Gk))) (Ir (HS Mc) rS (by decide +kernel))
      (λb=>Im rfl (Hw (HW (i:=0) Sq rfl (Or.inl rfl)) (Hw (HW (i:=1) Sq rfl (Or.inl rfl)) Ik)))
      (λb=>JX)
      (λb=>HV Jc (pv 0) (pv 1))) Gk))
     (Ge (HV Lr (pv 4) (pv 6)) Gk))) Gk)))))))
  (HL (Hk (Hm GG hr rfl (Ge (pv 2) Gk))))),?_⟩
 obtain⟨vs,eA,iA⟩:=id hA
 obtain⟨ws,eB,iB⟩:=id hB
 have lva:=AL iA
 have lvb:=AL iB
 refine⟨JN,λl hl0=>?_⟩
 have s0:=Gy hl0 (.lst [])
 refine⟨_,rfl,a,rfl,⟨vs,HJ.of (s0 _ _ eA)⟩,?_⟩
 refine Jd (xs:=vs) (λi σ H'=>(∃c3 c4 c5 c6,σ=[some (.ref a),some (.ref b),some (.ref l),c3,c4,c5,c6])/\Gf H' l (prd (ts.take i) us)/\Gh H H') ?_ ?_ ?_ ?_
 ·exact⟨⟨_,_,_,_,rfl⟩,⟨[],Gu,.nil⟩,s0⟩
 ·rintro i σ H1 _ ⟨_,_,s1⟩
  exact HJ.of (s1 _ _ eA)
 ·rintro i v σ H1 hv ⟨⟨c3,c4,c5,c6,rfl⟩,hL,s1⟩
  obtain⟨t,ht,hi⟩:=Ib iA hv
  have hmt:=Aa ht
  have lti:i<ts.length:=(Ae.mp ht).1
  obtain⟨p,k1,rfl,hp,hk1⟩:=JO hi
  refine⟨p,_,rfl,HK.of (s1 _ _ hp),rfl,_,_,rfl,_,_,rfl,rfl,?_⟩
  refine⟨_,rfl,b,rfl,⟨ws,HJ.of (s1 _ _ eB)⟩,?_⟩
  refine Jd (xs:=ws) (λj σ H'=>(∃c5 c6,σ=[some (.ref a),some (.ref b),some (.ref l),some (.ref k1),some (.int t.2),c5,c6])/\Gf H' l (prd (ts.take i) us++(us.take j).map λu=>(IM t.1 u.1,t.2*u.2))/\Gh H H') ?_ ?_ ?_ ?_
  ·refine⟨⟨_,_,rfl⟩,?_,s1⟩
   rw[DP,DN,BM]
   exact hL
  ·rintro j σ H2 _ ⟨_,_,s2⟩
   exact HJ.of (s2 _ _ eB)
  ·rintro j w2 σ H2 hw ⟨⟨c5,c6,rfl⟩,⟨zs,eZ,iZ⟩,s2⟩
   obtain⟨u,hu,hj⟩:=Ib iB hw
   have hmu:=Aa hu
   have luj:j<us.length:=(Ae.mp hu).1
   have lz:=AL iZ
   rw[AI,Vy,AB,Ah,Ah,CS (by lia),CS (by lia)]at lz
   have lz2:zs.length<=40000:=by
    have z1:i*us.length+j<(i+1)*us.length:=by rw[Cz];lia
    have z2:(i+1)*us.length<=ts.length*us.length:=EM _ lti
    lia
   have hlu:t.1.length=u.1.length:=by rw[ga.len t hmt,gb.len u hmu]
   obtain⟨p',k2,rfl,hp',hk2⟩:=JO hj
   refine⟨p',_,rfl,HK.of (s2 _ _ hp'),rfl,_,_,rfl,_,_,rfl,rfl,?_⟩
   refine⟨_,rfl,.inl ⟨rfl,_,HJ.of eZ⟩,?_⟩
   refine⟨_,rfl,_,rfl,k1,k2,rfl,⟨_,HK.of (s2 _ _ hk1)⟩,⟨_,HK.of (s2 _ _ hk2)⟩,λbk D hD=>?_⟩
   refine iG (α:=Int) (k1:=.tup) (k2:=.tup) hD (HK.of (s2 _ _ hk1)) (HK.of (s2 _ _ hk2)) (λσ=>∃c d,σ=[c,d]) (λi=>some (t.1.getD i 0+u.1.getD i 0)) (small (by rw[AB,ga.len t hmt];lia)) ?_ ?_ ?_
   ·exact⟨_,_,rfl⟩
   ·rintro i x y p2 σ H2 Yes No hx hy h2 ⟨c,d,rfl⟩ s3 yes no
    obtain rfl:V.int (t.1.getD i 0)=x:=by
     rw[Al]at hx
     rw[Ao]
     cases e:t.1[i]? with
     |none=>rw[e]at hx;cases hx
     |some c=>rw[e]at hx;exact Ap hx
    obtain rfl:V.int (u.1.getD i 0)=y:=by
     rw[Al]at hy
     rw[Ao]
     cases e:u.1[i]? with
     |none=>rw[e]at hy;cases hy
     |some c=>rw[e]at hy;exact Ap hy
    refine⟨p2,_,rfl,HK.of Gu,rfl,_,_,rfl,_,_,rfl,rfl,?_⟩
    refine Kj ?_
    refine⟨_,rfl,_,rfl,_,_,rfl,rfl,?_⟩
    exact yes _ _ _ _ ⟨_,_,rfl⟩ (Gy h2 _) rfl rfl
   rintro H3 s3 ⟨ys,eD,iD⟩
   rw[NP iD,ZJ _ _ hlu]at eD
   refine⟨D,_,rfl,.inl ⟨HJ.of eD,λr hr2=>?_⟩⟩
   have s4:=Gy hr2 (.tup ((IM t.1 u.1).map V.int))
   refine⟨_,rfl,_,rfl,_,_,rfl,rfl,⟨Jb (ga.num t hmt) hx1,Jb (gb.num u hmu) hy1⟩,Hr,λr2 h5=>?_⟩
   have s5:=Gy h5 (.tup [.ref r,.int (t.2*u.2)])
   have s345:=s3.trans (s4.trans s5)
   have eZ3:=s345 _ _ eZ
   refine⟨l,zs,_,rfl,rfl,eZ3,KU (by lia),⟨_,_,rfl⟩,⟨zs++[.ref r2],Gu,?_⟩,λb' o e'=>?_⟩
   ·rw[JK hu,Az,<-Ag]
    have t6:∀o,HX _ (Gw _ l o):=λo r' ys e'=>by
     rw[Hf (Ku e' eZ3 (by intro z;cases z))];exact e'
    exact DH (Hs.mono ((HX.same s345).trans (t6 _)) iZ) (Dat.mono (t6 _) (JB (t:=(IM t.1 u.1,t.2*u.2)) Gu (s5 _ _ Gu)))
   ·rw[Hf (JR e' hl0)]
    exact s345 _ _ (s2 b' o e')
  ·rintro σ H2 ⟨⟨c5,c6,rfl⟩,hL2,s2⟩
   rw[AW (show us.length<=ws.length by lia)]at hL2
   refine⟨⟨_,_,_,_,rfl⟩,?_,s2⟩
   rw[JK ht,fQ]
   exact hL2
 ·rintro σ H1 ⟨⟨c3,c4,c5,c6,rfl⟩,hL,s1⟩
  rw[AW (by lia)]at hL
  refine⟨_,rfl,l,_,rfl,hL,jI (ga.prd gb) n1,by rw[Vy];lia,λr H2 hr s2 h2=>?_⟩
  exact q r H2 (s1.free hr) (s1.trans s2) h2
theorem Wq{l r:wB}(h:r.Perm l):r.sum=l.sum:=by
 induction h with
 |nil=>rfl
 |cons x _ ih=>rw[BX,BX,ih]
 |swap x y l=>rw[BX,BX,BX,BX];lia
 |trans _ _ i1 i2=>rw[i1,i2]
theorem Tj(m:Nat):(List.replicate m (0:Int)).sum=0:=by
 induction m with
 |zero=>rfl
 |succ m ih=>rw[A5,BX,ih];rfl
noncomputable def wv:Nat->Nat->List wB
 |0,w=>if w=0 then [[]] else []
 |n+1,w=>(List.range (w+1)).flatMap λ(x:Nat)=>(wv n (w-x)).map ((x:Int) :: ·)
theorem Wc:∀{l:wB},(∀y∈l,0<=y)->0<=l.sum
 |[],_=>Dc _
 |x::l,h=>by
  have h1:=h x (AJ ..)
  have h2:=Wc (l:=l) λy hy=>h y (AM _ hy)
  rw[BX]
  lia
theorem WE:∀(n w:Nat)(l:wB),l.length=n->(∀x∈l,0<=x)->l.sum=(w:Int)->l∈wv n w
 |0,w,l,h,_,hs=>by
  rw[C8.mp h]at hs ⊢
  have e:w=0:=by
   have:(0:Int)=(w:Int):=hs
   lia
  rw[e]
  exact Ad.mpr rfl
 |n+1,w,[],h,_,_=>by simp at h
 |n+1,w,x::l,h,hx,hs=>by
  have h1:=hx x (AJ ..)
  have h2:=Wc (l:=l) λy hy=>hx y (AM _ hy)
  rw[BX]at hs
  refine Ba.mpr ⟨x.toNat,At.mpr (by lia),AY.mpr ⟨l,WE n (w-x.toNat) l (by simpa using h) (λy hy=>hx y (AM _ hy)) (by lia),?_⟩⟩
  rw[EU h1]
theorem bW:∀n∈List.range 5,∀w∈List.range 9,(wv n w).length<=165:=by decide +kernel
structure Uz(n k:Nat)(f:List Gi):Prop where
 deg:Deg n k 1 f
 one:∀t∈f,t.1.sum=(k:Int)
 len:f.length<=165
theorem gH{k:Int}{ts:List Gi}(h:∀t∈ts,t.1.sum=k):∀t∈norm ts,t.1.sum=k:=λt ht=>by
 obtain⟨u,hu,e⟩:=LK ht
 rw[<-e]
 exact h u hu
theorem Yh{n k b:Nat}{ts:List Gi}(h:Deg n k b ts)(h1:∀t∈ts,t.1.sum=(k:Int))(n4:n<=4)(k8:k<=8):(norm ts).length<=165:=by
 have nd:((norm ts).map (·.1)).Nodup:=by
  rw[List.Nodup,CF]
  refine(Jt ts).ord.imp λ{x y} z e=>?_
  rw[e,KD]at z
  cases z
 have sub:∀p∈(norm ts).map (·.1),p∈wv n k:=λp hp=>by
  obtain⟨t,ht,rfl⟩:=AY.mp hp
  obtain⟨u,hu,e⟩:=LK ht
  rw[<-e]
  exact WE n k _ (h.len u hu) (h.nn u hu) (h1 u hu)
 have:=DC nd sub
 rw[AB]at this
 have:=bW n (At.mpr (by lia)) k (At.mpr (by lia))
 lia
theorem kO{n x y:Nat}{k l:Int}{b c:Nat}{ts us:List Gi}(ga:Deg n x b ts)(gb:Deg n y c us)(h:∀t∈ts,t.1.sum=k)(h':∀t∈us,t.1.sum=l):∀t∈prd ts us,t.1.sum=k+l:=λt ht=>by
 obtain⟨a,ha,ht⟩:=Ba.mp ht
 obtain⟨b,hb,rfl⟩:=AY.mp ht
 rw[Pn (by rw[ga.len a ha,gb.len b hb]),h a ha,h' b hb]
def SQ(ff:Nat->List Gi)(acc:List Gi)(k:Nat):List Gi:=norm (prd acc (ff k))
noncomputable def J3(ff:Nat->List Gi)(n:Nat)(ks:List Nat):List Gi:=ks.foldl (SQ ff) [(List.replicate n 0,1)]
theorem lW(ff:Nat->List Gi)(n:Nat)(ks:List Nat)(k:Nat):J3 ff n (ks++[k])=SQ ff (J3 ff n ks) k:=by
 unfold J3
 rw[Bv]
 rfl
theorem Yx{ff:Nat->List Gi}{n:Nat}(n1:1<=n)(n4:n<=4)(hf:∀k,1<=k->k<=8->Uz n k (ff k)):∀ks:List Nat,ks.sum<=8->(∀k∈ks,1<=k)->Deg n ks.sum (1+19*ks.length) (J3 ff n ks)/\(∀t∈J3 ff n ks,t.1.sum=(ks.sum:Int))/\(J3 ff n ks).length<=165:=by
 refine MI (λ_ _=>⟨⟨λt ht=>?_,λt ht x hx=>?_,λt ht=>?_,λt ht=>?_⟩,λt ht=>?_,by show 1<=165;decide⟩) λks k ih hs h1=>?_
 ·rw[Ad.mp ht];exact A0
 ·rw[Ad.mp ht]at hx
  rw[(List.mem_replicate.mp hx).2];exact Dc _
 ·rw[Ad.mp ht]
  show(List.replicate n (0:Int)).sum<=_
  rw[Tj];exact Dc _
 ·rw[Ad.mp ht]
  show(1:Int).natAbs<2^1
  decide
 ·rw[Ad.mp ht]
  exact Tj n
 ·rw[CT,CM]at hs
  obtain⟨d,o,l⟩:=ih (by lia) λx hx=>h1 x (BL _ hx)
  have k1:=h1 k (Aw _ (Ad.mpr rfl))
  have fk:=hf k k1 (by lia)
  rw[lW]
  have dp:=d.prd fk.deg
  have op:=kO d fk.deg o fk.one
  have e:(((ks++[k]).sum:Nat):Int)=(ks.sum:Int)+(k:Int):=by rw[CT,CM];lia
  have lp:(prd (J3 ff n ks) (ff k)).length<2^18:=by
   rw[Vy]
   have:=Du l fk.len
   exact BD this (by decide)
  refine⟨(dp.norm lp).mono (by rw[CT,CM];exact AG _) ?_,?_,?_⟩
  ·rw[AI,BA]
   lia
  ·rw[e]
   exact gH op
  ·refine Yh (k:=ks.sum+k) dp (λt ht=>?_) n4 hs
   rw[op t ht]
   lia
noncomputable abbrev uJ:wG:=["many", "factors", "result", "factor"]
theorem J0:Gj uJ ["many", "factors"] (HS Vk):=Hx
def SL:Sp:=λvs H Q _=>∃(ff:Nat->List Gi)(n:Nat)(a:wO)(xs:wH)(ks:List Nat),vs=[.int n,.ref a]/\1<=n/\n<=4/\(∀k,1<=k->k<=8->Uz n k (ff k))/\H a=some (.lst (xs.map V.ref))/\Paired (λx k=>Gf H x (ff k)) xs ks/\ks.sum<=8/\ks.length<=8/\(∀k∈ks,1<=k) /\
 ∀(l:wO)(H':Hp),H l=none->Gh H H'->Gf H' l (J3 ff n ks)->Q (.ref l) H'
theorem bK(F:Hi K "product" "product" Vk f fd)(GM:Hl P w K mg base 3 "multiplied" ["one", "other"] Md):Gx P w K mg base Ho 4 f fd ["many", "factors"] SL:=by
 refine IJ F J0 λHQ A outer s H vs Q E hr h=>?_
 obtain⟨ff,n,a,xs,ks,rfl,n1,n4,hf,ha,hx,hs,hk8,hk1,q⟩:=h
 refine⟨_,HP (Hj (i:=2) J0.nd rfl (Or.inl rfl) (IC (Ge (Hd (Ge (HV OV (Hd (Ge HM Gk)) (pv 0)) (Ge HM Gk))) Gk)))
  (HP (Ii Ar rfl (IW (pv 1)) (HW (i:=3) J0.nd rfl (Or.inl rfl)) (HL (Hj (i:=2) J0.nd rfl (Or.inl rfl) (Hm GM hr rfl (Ge (pv 2) (Ge (pv 3) Gk))))))
  (HL (Hk (pv 2)))),?_⟩
 have lx:=AL hx
 refine⟨IH,λt0 h0=>?_⟩
 have s0:=Gy h0 (.tup [.int 0])
 refine⟨_,rfl,t0,[0],_,rfl,rfl,Gu,by simp,by lia,by lia,small (by show 1*_<=100000;lia),λt1 H1 s1 h1=>?_⟩
 rw[P0,Af]at h1
 refine⟨Hr,λt2 h2=>⟨IH,λl0 h3=>?_⟩⟩
 have s2:=Gy h2 (.tup [.ref t1,.int 1])
 have s3:=Gy h3 (.lst [.ref t2])
 have sA:=s0.trans (s1.trans (s2.trans s3))
 refine⟨_,rfl,a,rfl,⟨_,HJ.of (sA _ _ ha)⟩,?_⟩
 refine Jd (xs:=xs.map V.ref) (λi σ H'=>(∃(l:wO)(c3:Option V),σ=[some (.int n),some (.ref a),some (.ref l),c3]/\Gf H' l (J3 ff n (ks.take i))/\H l=none)/\Gh H H') ?_ ?_ ?_ ?_
 ·refine⟨⟨l0,_,rfl,⟨[.ref t2],Gu,.cons (JB (t:=(List.replicate n 0,1)) (s3 _ _ Gu) (s3 _ _ (s2 _ _ h1))) .nil⟩,s0.free (s1.free (s2.free h3))⟩,sA⟩
 ·rintro i σ H4 _ ⟨_,sH⟩
  exact HJ.of (sH _ _ ha)
 ·rintro i v σ H4 hv ⟨⟨l,c3,rfl,hL,fl⟩,sH⟩
  obtain⟨x,hxi,rfl⟩:∃x,xs[i]?=some x/\V.ref x=v:=by
   rw[Al]at hv
   cases e:xs[i]? with
   |none=>rw[e]at hv;cases hv
   |some y=>rw[e]at hv;exact⟨y,rfl,Ap hv⟩
  obtain⟨k,hk,hLx⟩:=Paired.get hx hxi
  have et:=JK hk
  have st:(ks.take (i+1)).sum<=8:=by
   have e:ks.sum=(ks.take (i+1)).sum+(ks.drop (i+1)).sum:=by rw[<-CT,Bf]
   lia
  have st':=st
  rw[et,CT,CM]at st'
  obtain⟨d,_,ln⟩:=Yx n1 n4 hf (ks.take i) (by lia) λx hx=>hk1 x (Bp hx)
  have lt:(ks.take i).length<=8:=by rw[Ah];lia
  have fk:=hf k (hk1 k (Aa hk)) (by lia)
  refine⟨_,rfl,_,rfl,l,x,n,_,_,_,_,_,_,rfl,hL,hLx.mono sH,d,fk.deg,n1,n4,by lia,by decide,?_,λl5 H5 hl5 s5 h5=>?_⟩
  ·exact A9 (Du ln fk.len) (by decide)
  ·refine⟨⟨l5,_,rfl,?_,sH.free hl5⟩,sH.trans s5⟩
   rw[et,lW]
   exact h5
 ·rintro σ H4 ⟨⟨l,c3,rfl,hL,fl⟩,sH⟩
  rw[AB,AW (by lia)]at hL
  exact⟨_,rfl,q l H4 fl sH hL⟩
end
section
variable{P:wP}{w:wQ}{K:wL}{mg:Str->wI}{base:Heap}{f g:wO}{fd gd:wR}
noncomputable abbrev nC:wG:=["_law_script", "_law_k"]
theorem uK:Gj nC nC (HS Po):=Hx
def RK(K:wL):Sp:=λvs H Q _=>∃(a:wO)(ns:wB)(k:Nat),vs=[.ref a,.int k]/\HJ K H a (ns.map V.int)/\Q (.int (Ld ns k)) H
theorem YQ(F:Hi K "_law_cell" "_law_cell" Po f fd)(ml:mg "len" = none):Gx P w K mg base Ho 2 f fd nC (RK K):=by
 refine IJ F uK λHQ A outer s H vs Q E hr h=>?_
 obtain⟨a,ns,k,rfl,hS,q⟩:=h
 refine⟨_,HP (IP (II Pb (pv 1) (Ia K4 rfl ml Bl (Ge (pv 0) Gk)) (IE _)) (HL (Hk (HV K6 (Ix Kh (pv 0) (pv 1) (λ_ _=>rfl)) HM))) IQ)
  (HL (Hk HM)),?_⟩
 refine⟨_,rfl,_,rfl,a,_,rfl,.inl hS,_,_,rfl,rfl,_,rfl,?_⟩
 unfold Ld at q
 rw[AB]
 by_cases c:k<ns.length
 ·rw[AF c]at q
  refine Jq (by lia) ⟨_,rfl,_,rfl,a,_,_,.int (ns.getD k 0),rfl,rfl,hS,?_,_,_,rfl,rfl,(by show(0:Int)<2147483647;decide),q⟩
  refine KH ?_
  rw[Al,AT c]
  simp [c]
 ·rw[AD c]at q
  exact JV (by lia) q
def KN(k:Int):wB:=(List.range k.toNat).map λ(i:Nat)=>k-(i:Int)
noncomputable def up:Nat->Int->Int->Int->List wB
 |0,_,_,_=>[]
 |n+1,top,w,m=>if w=0 then [[]] else if m<=0 then [] else (KN (if w<top then w else top)).flatMap λf=>(up n f (w-f) (m-1)).map (f :: ·)
theorem OP(n:Nat)(top m:Int):up (n+1) top 0 m=[[]]:=by simp [up]
theorem fE(n:Nat)(top w m:Int)(h:w≠0)(hm:m<=0):up (n+1) top w m=[]:=by simp [up,h,hm]
theorem ZX(n:Nat)(top w m:Int)(h:w≠0)(hm:¬ m<=0):up (n+1) top w m=(KN (if w<top then w else top)).flatMap λf=>(up n f (w-f) (m-1)).map (f :: ·):=by simp [up,h,hm]
theorem tT(f:Nat->Nat)(c:Nat):∀k,(∀i,i<k->f i<=2^(c+i))->((List.range k).map f).sum+2^c<=2^(c+k)
 |0,_=>by simp
 |k+1,h=>by
  have ih:=tT f c k λi hi=>h i (by lia)
  have hk:=h k (by lia)
  rw[Bo,Az,CT,List.map_singleton,CM]
  have e:2^(c+(k+1))=2^(c+k)+2^(c+k):=by rw[<-Nat.add_assoc,Nat.pow_succ];lia
  lia
theorem SH:∀(n:Nat)(top w m:Int),0<=w->(up n top w m).length<=2^w.toNat
 |0,_,_,_,_=>by simp [up]
 |n+1,top,w,m,h0=>by
  by_cases h:w=0
  ·subst h;rw[OP];simp
  by_cases hm:m<=0
  ·rw[fE n top w m h hm];simp
  rw[ZX n top w m h hm]
  have hk:∀k:Int,k<=w->((KN k).flatMap λf=>(up n f (w-f) (m-1)).map (f :: ·)).length<=2^w.toNat:=by
   intro k hk
   rw[List.length_flatMap]
   unfold KN
   rw[Cm]
   have e:(List.map ((λf=>((up n f (w-f) (m-1)).map (f :: ·)).length) ∘ λ(i:Nat)=>k-(i:Int)) (List.range k.toNat))=(List.range k.toNat).map λ(i:Nat)=>(up n (k-(i:Int)) (w-(k-(i:Int))) (m-1)).length:=by
    apply Ca;intro i _;simp
   rw[e]
   have q:=tT (λi=>(up n (k-(i:Int)) (w-(k-(i:Int))) (m-1)).length) (w-k).toNat k.toNat (λi hi=>by
    have ih:=SH n (k-(i:Int)) (w-(k-(i:Int))) (m-1) (by lia)
    have e2:(w-(k-(i:Int))).toNat=(w-k).toNat+i:=by lia
    rw[e2]at ih
    exact ih)
   by_cases hk0:0<=k
   ·have e3:(w-k).toNat+k.toNat=w.toNat:=by lia
    rw[e3]at q
    exact A9 (Cb _ _) q
   ·have e4:k.toNat=0:=by lia
    rw[e4];simp
  apply hk
  split<;>lia
theorem oG{k f:Int}(h:f∈KN k):1<=f/\f<=k:=by
 unfold KN at h
 obtain⟨i,hi,e⟩:=AY.mp h
 have:=At.mp hi
 lia
theorem Sk:∀(n:Nat)(top w m:Int),0<=w->∀r∈up n top w m,(r.length:Int)<=w
 |0,_,_,_,_,r,h=>by simp [up]at h
 |n+1,top,w,m,h0,r,hr=>by
  by_cases h:w=0
  ·subst h;rw[OP]at hr;simp at hr;subst hr;simp
  by_cases hm:m<=0
  ·rw[fE n top w m h hm]at hr;simp at hr
  rw[ZX n top w m h hm]at hr
  obtain⟨f,hf,hr⟩:=Ba.mp hr
  obtain⟨r',hr',rfl⟩:=AY.mp hr
  have z:=oG hf
  have zw:f<=w:=by
   have:(if w<top then w else top)<=w:=by split<;>lia
   lia
  have ih:=Sk n f (w-f) (m-1) (by lia) r' hr'
  rw[Aj]
  lia
theorem Sw{α β:Type}(g:α->List β):∀{l:List α}{i:Nat}{a:α},l[i]?=some a->(l.take (i+1)).flatMap g=(l.take i).flatMap g++g a
 |[],i,a,e=>by simp at e
 |x::l,0,a,e=>by simp at e;subst e;simp
 |x::l,i+1,a,e=>by
  have ih:=Sw g (l:=l) (i:=i) (a:=a) (by simpa using e)
  rw[C5,Bg,ih,C5,Bg,Ag]
theorem Ss{α β:Type}(g:α->List β):∀(l:List α)(i:Nat),((l.take i).flatMap g).length<=(l.flatMap g).length
 |[],i=>by simp
 |x::l,0=>by simp
 |x::l,i+1=>by
  have ih:=Ss g l i
  rw[C5,Bg,Bg,AI,AI]
  lia
theorem XS{k:Int}{i:Nat}(h:i<k.toNat):(KN k)[i]?=some (k-(i:Int)):=by
 unfold KN
 rw[Al,EV h]
 rfl
theorem Yt(k:Int):(KN k).length=k.toNat:=by unfold KN;simp
theorem Nz{n:Nat}{t w m:Int}(h0:0<=w)(h8:w<=8):(up n t w m).length<=256:=by
 have q:=SH n t w m h0
 have z:2^w.toNat<=2^8:=DW (by decide) (by lia)
 exact A9 q z
noncomputable abbrev pU:wG:=["_law_weight", "_law_most", "_law_top"]
def Kl(n:Nat):Sp:=λvs H Q _=>∃t w m:Int,vs=[.int w,.int m,.int t]/\0<=t/\0<=w/\w<=8/\w<n /\
 ∀(l:wO)(H':Hp),H l=none->Gh H H'->Gf H' l (up n t w m)->Q (.ref l) H'
noncomputable abbrev nU:wG:=["_law_weight", "_law_most", "_law_top", "_law_found", "_law_first", "_law_rest"]
theorem WM:Gj nU pU (HS Mr):=Hx
theorem iI{n:Nat}(h:n<=1000):n<sizeLine:=KU (by lia)
theorem jA{n:Nat}(F:Hi K "_law_rows" "_law_rows" Mr f fd)(G:Gx P w K mg base Ho n f fd pU (Kl n))(bF:Hy K fd pU [])(mU:mg "_law_rows" = some (.ref f))(mr:mg "range" = none)(mm:mg "min" = none) :
  Gx P w K mg base Ho (n+1) f fd pU (Kl (n+1)):=by
 refine IJ F WM λHQ A outer s H vs Q E hr h=>?_
 obtain⟨t,w,m,rfl,ht,h0,h8,hn,q⟩:=h
 refine⟨_,HP (IP (II ME (pv 0) HM (IE _)) (HL (Hk (IC (Ge (Hd Gk) Gk)))) IQ)
  (HP (Hj (i:=3) WM.nd rfl (Or.inl rfl) (IC Gk))
  (HP (IP (II PM (pv 1) HM (IE _)) (HL (Ii Ar rfl (mT rfl mr (Ge (Ia (Qa rfl) rfl mm Fz (Ge (pv 0) (Ge (pv 2) Gk))) (Ge HM (Ge (OY OR HM) Gk)))) (HW (i:=4) WM.nd rfl (Or.inl rfl))
   (HL (Ii Ar rfl (IW (Px G hr rfl mU F.kp bF .nil Ou (Ge (HV LO (pv 0) (pv 4)) (Ge (HV LO (pv 1) HM) (Ge (pv 4) Gk))))) (HW (i:=5) WM.nd rfl (Or.inl rfl))
    (HL (Iq (LQ BE BN BO Lj (pv 3) (Ge (HV Ux (Hd (Ge (pv 4) Gk)) (pv 5)) Gk)))))))) IQ)
  (HL (Hk (pv 3))))),?_⟩
 refine⟨_,rfl,rfl,_,rfl,?_⟩
 refine mX (λc=>?_) (λc=>?_)
 ·have c':V.int w=V.int 0:=BB c
  have cw:w=0:=by injection c'
  subst cw
  refine⟨JN,λp hp=>⟨IH,λl hl=>?_⟩⟩
  have s1:Gh H (Gw H p (.tup [])):=Gy hp _
  have s2:=Gy hl (.lst [.ref p])
  refine q l _ (s1.free hl) (s1.trans s2) ⟨[.ref p],Gu,?_⟩
  rw[OP]
  exact .cons ⟨p,[],rfl,s2 _ _ Gu,.nil⟩ .nil
 have cw:w≠0:=λz=>c (Ab (congrArg V.int z))
 refine⟨JN,λl hl=>?_⟩
 have s0:Gh H (Gw H l (.lst [])):=Gy hl _
 refine⟨_,rfl,_,_,rfl,rfl,_,rfl,?_⟩
 by_cases c2:¬ 0<m
 ·have cm:m<=0:=by lia
  refine JV c2 ⟨_,rfl,?_⟩
  refine q l _ hl s0 ⟨[],Gu,?_⟩
  rw[fE n t w m cw cm]
  exact .nil
 have cm:¬ m<=0:=by lia
 refine Jq (by lia) ?_
 have tot:=ZX n t w m cw cm
 have tl:(up (n+1) t w m).length<=256:=Nz h0 h8
 have hmin:(if t<w then t else w)=(if w<t then w else t):=by split<;>split<;>lia
 have hk0:0<=(if w<t then w else t):=by split<;>lia
 have hkw:(if w<t then w else t)<=w:=by split<;>lia
 generalize hk:(if w<t then w else t)=k at hk0 hkw tot
 rw[tot]at tl
 refine⟨_,rfl,_,rfl,_,_,rfl,_,rfl,_,_,rfl,⟨by rw[hmin,hk];lia,by rw[hmin,hk];lia,by decide,by decide⟩,?_⟩
 rw[hmin,hk]
 have ek:(k-0).toNat=k.toNat:=by rw[Int.sub_zero]
 rw[ek]
 refine Yq (hi:=k) (n:=k.toNat) (λi σ H'=>(∃a b,σ=[some (.int w),some (.int m),some (.int t),some (.ref l),a,b])/\Gh H H'/\Gf H' l (((KN k).take i).flatMap λf=>(up n f (w-f) (m-1)).map (f :: ·))) ?_ ?_ ?_
 ·exact⟨⟨_,_,rfl⟩,s0,[],Gu,by simpa using Paired.nil⟩
 ·rintro i σ H1 hi ⟨⟨a,b,rfl⟩,sH,hL⟩
  have hd:=XS hi
  have nx:=Sw (λf=>(up n f (w-f) (m-1)).map (f :: ·)) hd
  have nle:=Ss (λf=>(up n f (w-f) (m-1)).map (f :: ·)) (KN k) (i+1)
  rw[nx]at nle
  generalize hpre:((KN k).take i).flatMap (λf=>(up n f (w-f) (m-1)).map (f :: ·))=pre at hL nx nle
  obtain⟨pv1,eL,iL⟩:=hL
  refine⟨_,rfl,_,rfl,_,_,rfl,rfl,_,rfl,_,_,rfl,rfl,_,rfl,k-(i:Int),w-(k-(i:Int)),m-1,rfl,by lia,by lia,by lia,by lia,λr H2 fr g1 e1=>?_⟩
  have rl:=Sk n (k-(i:Int)) (w-(k-(i:Int))) (m-1) (by lia)
  generalize up n (k-(i:Int)) (w-(k-(i:Int))) (m-1)=Hg at e1 nx nle rl
  obtain⟨vs2,e2,i2⟩:=e1
  refine⟨r,rfl,⟨_,HJ.of e2⟩,?_⟩
  have hrl:r≠l:=(JR eL fr).symm
  have l2:=AL i2
  refine Jd (xs:=vs2) (λj σ H'=>(∃b,σ=[some (.int w),some (.int m),some (.int t),some (.ref l),some (.int (k-(i:Int))),b])/\Gh H H'/\H' r=some (.lst vs2)/\Hs H' vs2 Hg/\Gf H' l (pre++(Hg.take j).map ((k-(i:Int)) :: ·))) ?_ ?_ ?_ ?_
  ·exact⟨⟨_,rfl⟩,sH.trans g1,e2,i2,pv1,g1 _ _ eL,by simpa using Hs.mono (HX.same g1) iL⟩
  ·rintro j σ H3 _ ⟨_,_,e3,_⟩
   exact HJ.of e3
  ·rintro j x σ H3 hx ⟨⟨b,rfl⟩,s3,e3,i3,pv2,eL3,iL3⟩
   obtain⟨row,hrow,hx2⟩:=Paired.get i3 hx
   obtain⟨px,rfl,hpx⟩:=JU hx2
   have len3:pv2.length<sizeLine:=by
    have z:=AL iL3
    have jl:j<Hg.length:=by
     have:=(Ae.mp hrow).1
     exact this
    rw[AI,AB,Ah]at z
    rw[AI,AB]at nle
    exact iI (by lia)
   have fin:∀(p:wO)(H4:Hp),Gh H3 H4->H4 p=some (.tup (((k-(i:Int))::row).map V.int)) ->
     VE (.ref l) [.ref p] H4 λ_ H5=>(∃b',[some (V.int w),some (.int m),some (.int t),some (.ref l),some (.int (k-(i:Int))),some (.ref px)]=[some (.int w),some (.int m),some (.int t),some (.ref l),some (.int (k-(i:Int))),b'])/\Gh H H5/\H5 r=some (.lst vs2)/\Hs H5 vs2 Hg/\Gf H5 l (pre++(Hg.take (j+1)).map ((k-(i:Int)) :: ·)):=by
    intro p H4 s4 hp
    have eL4:=s4 _ _ eL3
    have t4:HX H4 (Gw H4 l (.lst (pv2++[.ref p]))):=Km eL4 _
    refine⟨l,pv2,.ref p,rfl,rfl,eL4,len3,⟨_,rfl⟩,L9 hl (s3.trans s4) _,?_,Hs.mono ((HX.same s4).trans t4) i3,pv2++[.ref p],Gu,?_⟩
    ·rw[Hf hrl];exact s4 _ _ e3
    ·have q1:(Hg.take (j+1)).map ((k-(i:Int)) :: ·)=(Hg.take j).map ((k-(i:Int)) :: ·)++[(k-(i:Int))::row]:=by
      rw[List.take_add_one,hrow];simp
     rw[q1,<-Ag]
     exact DH (Hs.mono ((HX.same s4).trans t4) iL3) (Dat.mono t4 (Js hp))
   refine⟨_,rfl,.inl ⟨rfl,_,HJ.of eL3⟩,_,rfl,IH,λp hp=>⟨_,rfl,p,px,[.int (k-(i:Int))],row.map V.int,rfl,rfl,HK.of Gu,HK.of (Gy hp _ _ _ hpx),(by simp),?_,λz=>?_,λz p2 hp2=>?_⟩⟩
   ·have zr:=rl row (Aa hrow)
    rw[AB]
    exact small (by show 1+row.length<=100000;lia)
   ·have zr:row=[]:=by simpa using z
    subst zr
    exact fin p _ (Gy hp _) Gu
   ·exact fin p2 _ ((Gy hp _).trans (Gy hp2 _)) Gu
  ·rintro σ H3 ⟨⟨b,rfl⟩,s3,e3,i3,hL3⟩
   refine⟨⟨_,_,rfl⟩,s3,?_⟩
   rw[nx]
   rw[l2,Ce]at hL3
   exact hL3
 ·rintro σ H1 ⟨⟨a,b,rfl⟩,sH,hL⟩
  refine⟨_,rfl,q l H1 hl sH ?_⟩
  rw[tot]
  have z:(KN k).take k.toNat=KN k:=by rw[<-Yt k,Ce]
  rw[z]at hL
  exact hL
theorem aE:Gx P w K mg base Ho 0 f fd pU (Kl 0):=by
 have no:∀vs H Q E,¬ Kl 0 vs H Q E:=λvs H Q E h=>by
  obtain⟨t,w,m,_,_,h0,_,h1,_⟩:=h
  lia
 exact⟨λvs H Q E h=>absurd h (no vs H Q E),λA outer s H args us vs Q E _ _ _ _ h=>absurd h (no vs H Q E)⟩
theorem RY(F:Hi K "_law_rows" "_law_rows" Mr f fd)(bF:Hy K fd pU [])(mU:mg "_law_rows" = some (.ref f))(mr:mg "range" = none)(mm:mg "min" = none):∀n,Gx P w K mg base Ho n f fd pU (Kl n)
 |0=>aE
 |n+1=>jA F (RY F bF mU mr mm n) bF mU mr mm
end
section
variable{P:wP}{w:wQ}{K:wL}{mg:Str->wI}{base:Heap}{f g:wO}{fd gd:wR}
theorem Rm:∀{d:List Gi},Nd d->∀{t:Gi},t∈d->Ij d t.1=some t.2
 |[],_,t,h=>by simp at h
 |u::r,h,t,ht=>by
  obtain⟨h1,h2⟩:=CO.mp (show(u.1::r.map (·.1)).Nodup from h)
  rcases AN.mp ht with rfl|ht
  ·simp [Ij,Bn]
  ·have e:¬ u.1=t.1:=λz=>h1 (z▸AY.mpr ⟨t,ht,rfl⟩)
   have ih:=Rm h2 ht
   unfold Ij at ih ⊢
   rw[Bn,AO e]
   exact ih
noncomputable abbrev rQ:wG:=["_law_powers", "_law_total"]
theorem nY:rQ.Nodup:=by decide +kernel
theorem pG:Gj ["_law_total"] ["_law_total"] (HS VY):=Hx
def Su:Sp:=λvs H Q _=>∃(a:wO)(ts:List Gi),vs=[.ref a]/\H a=some (.dT (IS (IA ts)))/\ts.length<=100000/\∀(l:wO)(H':Hp),H l=none->(∀b u,b≠a->H b=some u->H' b=some u)->Gf H' l (norm ts)->Q (.ref l) H'
theorem fC(F:Hi K "_law_plain" "_law_plain" VY f fd)(ms:mg "sorted" = none):Gx P w K mg base Ho 2 f fd ["_law_total"] Su:=by
 refine IJ F pG λHQ A outer s H vs Q E hr h=>?_
 obtain⟨d,ts,rfl,h1,Ha,q⟩:=h
 have hu:=SN hr
 have h8:=QN hr
 refine⟨_,HL (Hk (rE (α:=Gi) rfl h8 rfl ms (Ge (Iy (N':=rQ) (src:=[none,some 0]) rfl (YO (pv 0)) (Ir (HS VY) ["_law_total"] (by decide +kernel))
   (λb=>HW (i:=0) nY rfl (Or.inl rfl))
   (λb=>PP (II Mq (QF hu (pv 1) (pv 0) (λ_ _=>rfl)) HM (IE _)))
   (λb=>Hd (Ge (pv 0) (Ge (QF hu (pv 1) (pv 0) (λ_ _=>rfl)) Gk)))) Gk))),?_⟩
 have dl:=P8 ts
 refine⟨_,rfl,d,IA ts,rfl,h1,λo b D hD=>?_⟩
 have hd1:(Gw H d (.frz o (.dT (IS (IA ts))))) d=some (.frz o (.dT (IS (IA ts)))):=Gu
 have dD:D≠d:=λz=>by rw[z,hd1]at hD;cases hD
 refine oB (α:=Gi) hD hd1 (λσ=>∃c,σ=[c,some (.ref d)]) (λi=>((IA ts)[i]?).bind λt=>if t.2≠0 then some t else none) (small (by lia)) ⟨_,rfl⟩ ?_ ?_
 ·rintro i t k σ H2 Yes No ht hk ⟨c,rfl⟩ s3 yes no
  have hd3:=s3 _ _ hd1
  have g:Ih H2 d (.ref k) (Kf (IS (IA ts)) (t.1.map Sum.inl)):=.inr ⟨_,_,k,.inr ⟨o,hd3⟩,rfl,by rw[LV];exact hk,rfl⟩
  rw[QT,Rm (Py ts) (Aa ht)]at g
  refine⟨_,rfl,_,rfl,d,.int t.2,rfl,g,rfl,_,rfl,?_⟩
  by_cases c0:t.2=0
  ·have e0:(!decide (V.int t.2=V.int 0))=false:=by rw[Ab (congrArg V.int c0)];rfl
   rw[e0]
   refine J4 ?_
   exact no _ _ ⟨_,rfl⟩ (Gh.refl _) (by rw[ht,Cd,AD (by simpa using c0)])
  ·have e0:(!decide (V.int t.2=V.int 0))=true:=by
    rw[AO (λz=>c0 (by injection z))]
    rfl
   rw[e0]
   refine JP ⟨_,rfl,_,rfl,_,rfl,d,.int t.2,rfl,g,Hr,λr hr=>?_⟩
   exact yes _ _ _ t ⟨_,rfl⟩ (Gy hr _) (by rw[ht,Cd,AF (by simpa using c0)]) (JB Gu (Gy hr _ _ _ hk))
 ·intro H2 s3 hL
  refine⟨D,_,rfl,hL,λ_ _=>True.intro,λp vs' l' hp pm so it=>?_⟩
  have s4:=s3.trans (Gy hp (.lst vs'))
  have fp:=s3.free hp
  have pd:p≠d:=λz=>by rw[z,hd1]at fp;cases fp
  refine q p _ (by rw[Hf pd]at fp;exact fp) (λb u hb e=>s4 b u (by rw[Hf hb];exact e)) ⟨vs',Gu,?_⟩
  have e:l'=norm ts:=by
   refine Z5 ?_ so
   rw[Jg,Tc (λt:Gi=>t.2≠0) (λt=>t),List.map_id']at pm
   exact pm
  rw[<-e]
  exact Hs.mono (T4 hp _) it
end
section
variable{P:wP}{w:wQ}{K:wL}{mg:Str->wI}{base:Heap}{f g:wO}{fd gd:wR}
theorem bD{K:wL}{a:wO}{xs:List V}{σ0:St}{H1:Hp}{D:wO}{R:Hp->Prop}{g:TG}{tc:TT}{te:TE}(Pv:Nat->List V->St->Hp->Prop)(hn:xs.length<=sizeLine)(h0:Pv 0 [] σ0 (Gw H1 D (.lst [])))(hs:∀i ys σ H,Pv i ys σ H->HK K H a xs)
  (IF:∀(i:Nat)(x:V)(ys:List V)(σ':St)(H':Hp)(Yes:V->St->Hp->Prop)(No:St->Hp->Prop),xs[i]?=some x->H' D=some (.lst ys)->Pv i ys σ' H'->(∀y σ2 H4,H4 D=some (.lst ys)->Pv (i+1) (ys++[y]) σ2 (Gw H4 D (.lst (ys++[y])))->Yes y σ2 H4) ->
   g x σ' H' λσ2 H2=>tc σ2 H2 λok H3=>if ok=true then te σ2 H3 λy H4=>Yes y σ2 H4 else No σ2 H3)
  (hend:∀ys σ' H',H' D=some (.lst ys)->Pv xs.length ys σ' H'->R H') :
  ∃W:Nat->Nat->St->Hp->Prop,(∃m,W 0 m σ0 (Gw H1 D (.lst [])))/\∀i m σ' H',W i m σ' H' ->
  ((Lu K a).stop i H'/\R H')∨((Lu K a).go i H'/\∃N:St->Hp->Prop,(∀σ'' H'',N σ'' H''->∃m',m'<m/\W (i+1) m' σ'' H'') /\
   ∀x H'',(Lu K a).yld i H' x H''->g x σ' H'' λσ2 H2=>tc σ2 H2 λok H3=>if ok=true then te σ2 H3 λy H4=>∃ys,H4 D=some (.lst ys)/\ys.length<sizeLine/\N σ2 (Gw H4 D (.lst (ys++[y]))) else N σ2 H3):=by
 refine⟨λi m σ' H'=>m=xs.length-i/\i<=xs.length/\∃ys,ys.length<=i/\H' D=some (.lst ys)/\Pv i ys σ' H',⟨xs.length,by simp,Ax _,[],AG _,Gu,h0⟩,?_⟩
 rintro i m σ' H' ⟨rfl,hi,ys,ly,eD,pv⟩
 have l1:=hs i ys σ' H' pv
 by_cases hlt:i<xs.length
 ·refine .inr ⟨⟨xs,xs[i],l1,AT hlt⟩,λσ2 H2=>∃ys,ys.length<=i+1/\H2 D=some (.lst ys)/\Pv (i+1) ys σ2 H2,λσ2 H2 c=>⟨xs.length-(i+1),by lia,rfl,hlt,c⟩,?_⟩
  rintro x H'' ⟨rfl,hx⟩
  exact IF i x ys σ' H'' _ _ (hx xs l1) eD pv (λy σ2 H4 e4 p4=>⟨ys,e4,by lia,ys++[y],by simp;exact ly,Gu,p4⟩)
 ·obtain rfl:i=xs.length:=by lia
  exact .inl ⟨⟨xs,l1,AG _⟩,hend ys σ' H' eD pv⟩
theorem Wb{r:wB}(h:IN r=true):(∀x∈r,1<=x)/\r.sum<=8:=by
 unfold IN at h
 rw[AK,AK,AZ,AV]at h
 exact⟨λx hx=>BB (h.1.1 x hx),h.2⟩
theorem RW:∀(r:wB),(∀x∈r,1<=x)->((r.map Int.toNat).sum:Int)=r.sum/\(r.length:Int)<=r.sum
 |[],_=>⟨rfl,Dc _⟩
 |x::r,h=>by
  obtain⟨a,b⟩:=RW r λy hy=>h y (AM _ hy)
  have:=h x (AJ ..)
  rw[An,BX,BX,Aj]
  lia
theorem Tr:∀{r:wB},(∀x∈r,1<=x)->∀x∈r,x<=r.sum
 |[],_,x,hx=>by simp at hx
 |y::r,h,x,hx=>by
  have h0:=(RW r λz hz=>h z (AM _ hz)).2
  have h1:=h y (AJ ..)
  rw[BX]
  rcases AN.mp hx with rfl|hx
  ·lia
  ·have:=Tr (λz hz=>h z (AM _ hz)) x hx
   lia
theorem cY(x:Int)(k:Nat):(List.replicate k [x]).flatten=List.replicate k x:=by
 induction k with
 |zero=>rfl
 |succ k ih=>rw[A5,Bu,ih,A5];rfl
abbrev Vl:wG:=["many", "number"]
theorem Zm:Gj Vl Vl (HS fV):=Hx
def JQ(n k:Nat):List Gi:=if n<k then [] else Ie n (List.replicate k 1)
def U0(ff:Nat->Nat->List Gi):Sp:=λvs H Q _=>∃n k:Nat,vs=[.int n,.int k]/\1<=n/\n<=4/\k<=8/\∀(a:wO)(H':Hp),H a=none->Gh H H'->Gf H' a (ff n k)->Q (.ref a) H'
theorem gS:∀k∈List.range 5,IN (List.replicate k 1)=true:=by decide +kernel
theorem XA(F:Hi K "elementary" "elementary" fV f fd)(GE:Hl P w K mg base 6 "exchange_sum" QM OT):Gx P w K mg base Ho 7 f fd Vl (U0 JQ):=by
 refine IJ F Zm λHQ A outer s H vs Q E hr h=>?_
 obtain⟨n,k,rfl,n1,n4,k8,q⟩:=h
 refine⟨_,HP (IP (II PM (pv 1) (pv 0) (IE _)) (HL (Hk (IC Gk))) IQ)
  (HL (Hk (Hm GE hr rfl (Ge (pv 0) (Ge (HV OV (Hd (Ge HM Gk)) (pv 1)) Gk))))),?_⟩
 refine⟨_,rfl,_,rfl,_,_,rfl,rfl,_,rfl,?_⟩
 by_cases c:n<k
 ·refine Jq (by lia) ?_
  refine⟨JN,λl hl=>q l _ hl (Gy hl _) ⟨[],Gu,?_⟩⟩
  rw[JQ,AF c]
  exact .nil
 ·refine JV (by lia) ?_
  refine⟨_,rfl,IH,λt0 h0=>?_⟩
  have s0:=Gy h0 (.tup [.int 1])
  refine⟨_,rfl,t0,[1],_,rfl,rfl,Gu,by simp,by lia,by lia,small (by show 1*_<=100000;lia),λt1 H1 s1 h1=>?_⟩
  rw[cY,Af]at h1
  refine⟨n,t1,List.replicate k 1,rfl,n1,n4,h1,by rw[A0];lia,gS k (At.mpr (by lia)),λa H2 ha s2 hL=>?_⟩
  refine q a H2 (s0.free (s1.free ha)) (s0.trans (s1.trans s2)) ?_
  rw[JQ,AD c]
  exact hL
def Sn(ff:Nat->Nat->List Gi):Sp:=λvs H Q _=>∃(n:Nat)(p:wO)(r:wB),vs=[.int n,.ref p]/\1<=n/\n<=4/\H p=some (.tup (r.map V.int))/\IN r=true/\∀(a:wO)(H':Hp),H a=none->Gh H H'->Gf H' a (J3 (ff n) n (r.map Int.toNat))->Q (.ref a) H'
abbrev TN:wG:=["many", "row"]
abbrev rT:wG:=["number", "many"]
theorem ZB:rT.Nodup:=by decide +kernel
theorem kJ:Gj TN TN (HS WH):=Hx
theorem mC(F:Hi K "elementary_product" "elementary_product" WH f fd)(GE:Hl P w K mg base 7 "elementary" Vl (U0 JQ))(GP:Hl P w K mg base 7 "product" ["many", "factors"] SL)(hF:∀n k:Nat,1<=n->n<=4->1<=k->k<=8->Uz n k (JQ n k)):Gx P w K mg base Ho 8 f fd TN (Sn JQ):=by
 refine IJ F kJ λHQ A outer s H vs Q E hr h=>?_
 obtain⟨n,p,r,rfl,n1,n4,hp,hB,q⟩:=h
 refine⟨_,(HL (Hk (Hm GP hr rfl (Ge (pv 0) (Ge (Iy (N':=rT) (src:=[none,some 0]) rfl (US (pv 1)) (Ir (HS WH) TN (by decide +kernel))
   (λb=>HW (i:=0) ZB rfl (Or.inl rfl)) (λb=>JX) (λb=>Hm GE hr rfl (Ge (pv 1) (Ge (pv 0) Gk)))) Gk))))),?_⟩
 obtain⟨low,s8⟩:=Wb hB
 obtain⟨e8,l8⟩:=RW r low
 obtain⟨H1,eH1⟩:∃H1,H1=H:=⟨_,rfl⟩
 have s1:Gh H H1:=by rw[eH1];exact λ_ _ e=>e
 rw[<-eH1]
 have hp1:=s1 _ _ hp
 refine⟨_,rfl,_,rfl,p,rfl,⟨_,HK.of hp1⟩,λbk D hD=>?_⟩
 refine bD (xs:=r.map V.int) (λi ys σ H'=>(∃c,σ=[c,some (.int n)])/\(∀b o,H1 b=some o->H' b=some o)/\∃as:wH,ys=as.map V.ref/\Paired (λx k=>Gf H' x (JQ n k)/\x≠D) as ((r.map Int.toNat).take i)) (small (by rw[AB];lia)) ?_ ?_ ?_ ?_
 ·exact⟨⟨_,rfl⟩,Gy hD _,[],rfl,.nil⟩
 ·rintro i ys σ H' ⟨_,sm,_⟩
  exact HK.of (sm _ _ hp1)
 ·rintro i v ys σ H2 Yes No hv eD ⟨⟨c,rfl⟩,sm,as,rfl,hP⟩ yes
  obtain⟨x,hx,rfl⟩:∃x,r[i]?=some x/\V.int x=v:=by
   rw[Al]at hv
   cases e:r[i]? with
   |none=>rw[e]at hv;cases hv
   |some y=>rw[e]at hv;exact⟨y,rfl,Ap hv⟩
  have xm:=Aa hx
  have x1:=low x xm
  have x8:=Tr low x xm
  refine NV ?_
  refine⟨_,rfl,_,rfl,n,x.toNat,by rw[EU (by lia)];rfl,n1,n4,by lia,λa3 H3 h3 s3 hL=>?_⟩
  have eD3:=s3 _ _ eD
  have na:a3≠D:=λz=>by
   rw[z,eD]at h3
   cases h3
  have tD:∀o,∀{y:wO}{f:List Gi},y≠D->Gf H3 y f->Gf (Gw H3 D o) y f:=λo {y f} hy ⟨ws,ew,iw⟩=>⟨ws,by rw[Hf hy];exact ew,Hs.mono (λq ys' e'=>by rw[Hf (Ku e' eD3 (by intro z;cases z))];exact e') iw⟩
  refine yes _ _ _ eD3 ⟨⟨_,rfl⟩,λb o e=>?_,as++[a3],by rw[Az];rfl,?_⟩
  ·rw[Hf (JR e hD)]
   exact s3 _ _ (sm b o e)
  ·have ht':((r.map Int.toNat))[i]?=some x.toNat:=by rw[Al,hx];rfl
   rw[JK ht']
   exact DH (Paired.mapP hP λy k hk=>⟨tD _ hk.2 (hk.1.mono s3),hk.2⟩) ⟨tD _ na hL,na⟩
 ·rintro ys σ H2 eD ⟨_,sm,as,rfl,hP⟩
  rw[AB,<-AB (f:=Int.toNat),Ce]at hP
  refine⟨JQ n,n,D,as,r.map Int.toNat,rfl,n1,n4,λk k1 k8=>hF n k n1 n4 k1 k8,eD,(Paired.mapP hP λy k hk=>hk.1),by lia,by rw[AB];lia,λk hk=>?_,λl H3 hl s3 hL=>?_⟩
  ·obtain⟨x,hx,rfl⟩:=AY.mp hk
   have:=low x hx
   lia
  ·have sA:Gh H1 H2:=sm
   exact q l H3 (s1.free (sA.free hl)) (s1.trans (sA.trans s3)) hL
noncomputable abbrev TL:wG:=["row", "least"]
abbrev tW:wG:=["number", "least"]
theorem dG:tW.Nodup:=by decide +kernel
theorem Yb:Gj TL TL (HS Wh):=Hx
noncomputable def eI(r:wB)(k:Int):Int:=((r.filter λx=>decide (k<=x)).length:Int)
def Qu:Sp:=λvs H Q _=>∃(p:wO)(r:wB)(k:Int),vs=[.ref p,.int k]/\H p=some (.tup (r.map V.int))/\r.length<=1000/\∀H',Gh H H'->Q (.int (eI r k)) H'
theorem XY(r:wB)(c:Int->Prop)[DecidablePred c](n:Nat)(h:n=r.length):(List.range n).filterMap (λi=>(r[i]?).bind λx=>if c x then some x else none)=r.filter λx=>decide (c x):=by
 rw[h,Jg,Tc]
 exact HG _
theorem jB(F:Hi K "count_from" "count_from" Wh f fd)(ml:mg "len" = none):Gx P w K mg base Ho 2 f fd TL Qu:=by
 refine IJ F Yb λHQ A outer s H vs Q E hr h=>?_
 obtain⟨p,r,k,rfl,hp,hl,q⟩:=h
 refine⟨_,HL (Hk (Ia K4 rfl ml Bl (Ge (Iy (N':=tW) (src:=[none,some 1]) rfl (US (pv 0)) (Ir (HS Wh) TL (by decide +kernel))
   (λb=>HW (i:=0) dG rfl (Or.inl rfl)) (λb=>PP (II fG (pv 0) (pv 1) (IE _))) (λb=>pv 0)) Gk))),?_⟩
 refine⟨_,rfl,p,rfl,⟨_,HK.of hp⟩,λbk D hD=>?_⟩
 refine nH (α:=Int) hD (HK.of hp) (λσ=>∃c,σ=[c,some (.int k)]) (λi=>(r[i]?).bind λx=>if k<=x then some x else none) (small (by rw[AB];lia)) ?_ ?_ ?_
 ·exact⟨_,rfl⟩
 ·rintro i v σ H2 Yes No hv ⟨c,rfl⟩ s3 yes no
  obtain⟨x,hx,rfl⟩:∃x,r[i]?=some x/\V.int x=v:=by
   rw[Al]at hv
   cases e:r[i]? with
   |none=>rw[e]at hv;cases hv
   |some y=>rw[e]at hv;exact⟨y,rfl,Ap hv⟩
  refine⟨_,rfl,_,rfl,_,_,rfl,rfl,_,rfl,?_⟩
  by_cases c:k<=x
  ·refine Jq c ⟨_,rfl,?_⟩
   exact yes _ _ _ x ⟨_,rfl⟩ (λ_ _ e=>e) (by rw[hx];exact AF c) rfl
  ·exact JV c (no _ _ ⟨_,rfl⟩ (λ_ _ e=>e) (by rw[hx];exact AD c))
 rintro H1 s1 ⟨ws,eD,iD⟩
 have lw:=AL iD
 rw[XY r (λx=>k<=x) _ (by rw[AB])]at lw
 refine⟨D,_,rfl,.inl (HJ.of eD),?_⟩
 rw[lw]
 exact q H1 s1
abbrev Qo:wG:=["row"]
abbrev uB:wG:=["place", "row"]
theorem aW:uB.Nodup:=by decide +kernel
theorem pZ:Gj Qo Qo (HS Vc):=Hx
def OF(r:wB):Int:=r.foldl max 0
def Ig(r:wB):wB:=(List.range (OF r).toNat).map λ(i:Nat)=>eI r ((i:Int)+1)
theorem TW{r:wB}{M:Int}(nn:∀x∈r,0<=x)(h:(r=[]/\M=0)∨(M∈r/\∀x∈r,x<=M)):M=OF r:=by
 have key:∀(l:wB)(a:Int),(a<=l.foldl max a/\(∀x∈l,x<=l.foldl max a)/\(l.foldl max a=a∨l.foldl max a∈l)):=by
  intro l
  induction l with
  |nil=>intro a;exact⟨Dc _,by simp,.inl rfl⟩
  |cons y l ih =>
   intro a
   obtain⟨h1,h2,h3⟩:=ih (max a y)
   rw[Bm]
   refine⟨by lia,λx hx=>?_,?_⟩
   ·rcases AN.mp hx with rfl|hx
    ·lia
    ·exact h2 x hx
   ·rcases h3 with h3|h3
    ·rw[h3]
     by_cases c:a<=y
     ·exact .inr (by rw[Int.max_eq_right c];exact AJ ..)
     ·exact .inl (by rw[Int.max_eq_left (by lia)])
    ·exact .inr (AM _ h3)
 obtain⟨h1,h2,h3⟩:=key r 0
 unfold OF
 rcases h with⟨rfl,rfl⟩|⟨hm,hM⟩
 ·rfl
 ·have a1:=h2 M hm
  rcases h3 with h3|h3
  ·have:=nn M hm
   lia
  ·have:=hM _ h3
   lia
def R3:Sp:=λvs H Q _=>∃(p:wO)(r:wB),vs=[.ref p]/\H p=some (.tup (r.map V.int))/\r.length<=1000/\(∀x∈r,0<=x)/\OF r<=1000/\∀(t:wO)(H':Hp),Gh H H'->H' t=some (.tup ((Ig r).map V.int))->Q (.ref t) H'
theorem cT(F:Hi K "turned_over" "turned_over" Vc f fd)(G:Hl P w K mg base 2 "count_from" TL Qu)(mx:mg "max" = none)(mr:mg "range" = none)(mt:mg "tuple" = none):Gx P w K mg base Ho 3 f fd Qo R3:=by
 refine IJ F pZ λHQ A outer s H vs Q E hr h=>?_
 obtain⟨p,r,rfl,hp,hl,nn,hm,q⟩:=h
 refine⟨_,HL (Hk (NN N2 rfl mt B1 (Ge (Iy (N':=uB) (src:=[none,some 0]) rfl
   (Nh rfl mr (Ge (Wn rfl rfl mx (Ge (pv 0) Gk)) Gk)) (Ir (HS Vc) Qo (by decide +kernel))
   (λb=>HW (i:=0) aW rfl (Or.inl rfl)) (λb=>JX) (λb=>Hm G hr rfl (Ge (pv 1) (Ge (HV Jc (pv 0) HM) Gk)))) Gk))),?_⟩
 refine⟨_,rfl,p,r,rfl,.inr (HK.of hp),λM hM=>?_⟩
 rw[TW nn hM]
 have m0:0<=OF r:=by
  rw[<-TW nn hM]
  rcases hM with⟨_,rfl⟩|⟨hm,_⟩
  ·exact Dc _
  ·exact nn M hm
 refine⟨_,rfl,by lia,by lia,λbk D hD=>?_⟩
 refine Vz (α:=Int) hD (λσ=>∃c,σ=[c,some (.ref p)]) (λ(i:Nat)=>some (eI r ((i:Int)+1))) (small (by lia)) ?_ ?_ ?_
 ·exact⟨_,rfl⟩
 ·rintro i σ H2 Yes No hi ⟨c,rfl⟩ s3 yes no
  refine NV ?_
  refine⟨_,rfl,_,rfl,_,_,rfl,rfl,p,r,_,rfl,s3 _ _ hp,hl,λH4 s4=>?_⟩
  rw[Dr]
  exact yes _ _ _ _ ⟨_,rfl⟩ s4 rfl rfl
 rintro H1 s1 ⟨ws,eD,iD⟩
 rw[NP iD,Au]at eD
 refine⟨D,_,rfl,.inl ⟨HJ.of eD,λt ht=>?_⟩⟩
 exact q t _ (s1.trans (Gy ht _)) Gu
end
section
variable{P:wP}{w:wQ}{K:wL}{mg:Str->wI}{base:Heap}{f g:wO}{fd gd:wR}
noncomputable def Ox(n k:Nat)(f:List Gi):Bool:=f.all (λt=>decide (t.1.length=n)&&t.1.all (λx=>decide (0<=x))&&decide (t.1.sum=(k:Int))&&decide (t.2=1))&&decide (f.length<=165)
theorem XU{n k:Nat}{f:List Gi}(h:Ox n k f=true):Uz n k f:=by
 unfold Ox at h
 rw[AK,AZ,AV]at h
 have key:∀t∈f,((t.1.length=n/\∀x∈t.1,0<=x)/\t.1.sum=(k:Int))/\t.2=1:=λt ht=>by
  have:=h.1 t ht
  rw[AK,AK,AK,AV,AV,AV,AZ]at this
  exact⟨⟨⟨this.1.1.1,λx hx=>BB (this.1.1.2 x hx)⟩,this.1.2⟩,this.2⟩
 exact⟨⟨λt ht=>(key t ht).1.1.1,λt ht=>(key t ht).1.1.2,λt ht=>by rw[(key t ht).1.2];exact Dc _,λt ht=>by rw[(key t ht).2];decide⟩,λt ht=>(key t ht).1.2,h.2⟩
theorem mZ:∀n∈[1,2,3,4],∀k∈[1,2,3,4,5,6,7,8],Ox n k (JQ n k)=true:=by decide +kernel
theorem Mg(n k:Nat)(n1:1<=n)(n4:n<=4)(k1:1<=k)(k8:k<=8):Uz n k (JQ n k):=by
 have hn:n∈[1,2,3,4]:=by
  have:n=1∨n=2∨n=3∨n=4:=by lia
  rcases this with rfl|rfl|rfl|rfl<;>simp
 have hk:k∈[1,2,3,4,5,6,7,8]:=by
  have:k=1∨k=2∨k=3∨k=4∨k=5∨k=6∨k=7∨k=8:=by lia
  rcases this with rfl|rfl|rfl|rfl|rfl|rfl|rfl|rfl<;>simp
 exact XU (mZ n hn k hk)
theorem YZ{r:wB}(hB:IN r=true):(r.map Int.toNat).sum<=8/\∀k∈r.map Int.toNat,1<=k:=by
 obtain⟨low,s8⟩:=Wb hB
 obtain⟨e8,l8⟩:=RW r low
 refine⟨by lia,λk hk=>?_⟩
 obtain⟨y,hy,rfl⟩:=AY.mp hk
 have:=low y hy
 lia
def Nn(n k:Nat):Pw:=List.replicate k 1++List.replicate (n-k) 0
noncomputable def QI:Pw->Bool
 |x::y::r=>decide (y<=x)&&QI (y::r)
 |_=>true
noncomputable def fl(n:Nat):List Pw:=((List.range 9).flatMap (wv n)).filter QI
noncomputable def PN(n:Nat)(ks:List Nat):Pw:=ks.foldl (λacc k=>IM acc (Nn n k)) (List.replicate n 0)
noncomputable def NO(n:Nat)(r:wB):Bool:=r.all (λx=>decide (1<=x)&&decide (x<=(n:Int)))&&QI r&&decide (r.length<=8)
noncomputable def TY(n:Nat)(p:Pw):Bool:=NO n (Ig p)&&decide ((Ig p).sum=p.sum)&&decide (PN n ((Ig p).map Int.toNat)=p)&&decide (OF p<=1000)&&IN (Ig p)
theorem Pa:∀n∈[1,2,3,4],(fl n).length<=53/\((List.range 9).flatMap (wv n)).length<=495/\(fl n).all (TY n)=true:=by decide +kernel
noncomputable def sJ(n k:Nat):Bool:=decide (cf (JQ n k) (Nn n k)=1)&&(JQ n k).all (λt=>decide (t.1=Nn n k)||Hv t.1 (Nn n k))&&(List.range (n-1)).all (λj=>decide (norm (Jw (JQ n k) j)=norm (JQ n k)))&&decide ((Nn n k).length=n)
theorem dC:∀n∈[1,2,3,4],∀k∈List.range (n+1),sJ n k=true:=by decide +kernel
theorem K0{n:Nat}(n1:1<=n)(n4:n<=4):n∈[1,2,3,4]:=by
 have:n=1∨n=2∨n=3∨n=4:=by lia
 rcases this with rfl|rfl|rfl|rfl<;>simp
theorem Pz:∀{p:Pw},(∀k,k+1<p.length->p.getD (k+1) 0<=p.getD k 0)->QI p=true
 |[],_=>rfl
 |[_],_=>rfl
 |x::y::r,h=>by
  unfold QI
  rw[AK,AV]
  refine⟨by simpa using h 0 (by simp),Pz λk hk=>?_⟩
  have:=h (k+1) (by simpa using hk)
  simpa using this
theorem UG{n:Nat}{p:Pw}(l:p.length=n)(nn:∀x∈p,0<=x)(s:p.sum<=8)(f:QI p=true):p∈fl n:=by
 have s0:=Wc nn
 refine Dg.mpr ⟨Ba.mpr ⟨p.sum.toNat,At.mpr (by lia),WE n _ p l nn (by lia)⟩,f⟩
theorem QR{n:Nat}{p:Pw}(n1:1<=n)(n4:n<=4)(h:p∈fl n):(((NO n (Ig p)=true/\(Ig p).sum=p.sum)/\PN n ((Ig p).map Int.toNat)=p)/\OF p<=1000)/\IN (Ig p)=true:=by
 have:=AZ.mp (Pa n (K0 n1 n4)).2.2 p h
 unfold TY at this
 rw[AK,AK,AK,AK,AV,AV,AV]at this
 exact this
theorem lX{n k:Nat}(n1:1<=n)(n4:n<=4)(hk:k<=n):Top (JQ n k) (Nn n k) 1/\Hc n (JQ n k)/\(Nn n k).length=n:=by
 have:=dC n (K0 n1 n4) k (At.mpr (by lia))
 unfold sJ at this
 rw[AK,AK,AK,AV,AV,AZ,AZ]at this
 obtain⟨⟨⟨a,b⟩,c⟩,d⟩:=this
 refine⟨⟨a,λt ht=>?_⟩,λj hj=>BB (c j (At.mpr (by lia))),d⟩
 have:=b t ht
 rw[Di,AV]at this
 exact this
theorem Xl{n:Nat}(n1:1<=n)(n4:n<=4):∀ks:List Nat,ks.sum<=8->(∀k∈ks,1<=k/\k<=n)->Top (J3 (JQ n) n ks) (PN n ks) 1/\Hc n (J3 (JQ n) n ks)/\(PN n ks).length=n:=by
 refine MI (λ_ _=>⟨⟨?_,λt ht=>.inl ?_⟩,λk hk=>?_,A0⟩) λks k ih hs hk=>?_
 ·show cf [(List.replicate n 0,1)] (List.replicate n 0)=1
  simp [cf]
 ·rw[Ad.mp ht];rfl
 ·have e:Jw [(List.replicate n (0:Int),(1:Int))] k=[(List.replicate n 0,1)]:=by
   show [(swp (List.replicate n (0:Int)) k,(1:Int))]=_
   have:swp (List.replicate n (0:Int)) k=List.replicate n 0:=by
    have:n=1∨n=2∨n=3∨n=4:=by lia
    rcases this with rfl|rfl|rfl|rfl
    ·lia
    ·obtain rfl:k=0:=by lia
     rfl
    ·have:k=0∨k=1:=by lia
     rcases this with rfl|rfl<;>rfl
    ·have:k=0∨k=1∨k=2:=by lia
     rcases this with rfl|rfl|rfl<;>rfl
   rw[this]
  show norm (Jw [(List.replicate n (0:Int),(1:Int))] k)=norm [(List.replicate n (0:Int),(1:Int))]
  rw[e]
 ·rw[CT,CM]at hs
  have hk':=hk k (Aw _ (Ad.mpr rfl))
  obtain⟨a,b,c⟩:=ih (by lia) λx hx=>hk x (BL _ hx)
  obtain⟨d,_,_⟩:=Yx n1 n4 (λk k1 k8=>Mg n k n1 n4 k1 k8) ks (by lia) λx hx=>(hk x (BL _ hx)).1
  obtain⟨t,e,l⟩:=lX n1 n4 hk'.2
  have fk:=Mg n k n1 n4 hk'.1 (by lia)
  rw[lW]
  have es:PN n (ks++[k])=IM (PN n ks) (Nn n k):=by
   unfold PN
   rw[Bv]
   rfl
  rw[es]
  have tp:=(Top.prd a t d.len fk.deg.len c l).norm
  rw[D5]at tp
  exact⟨tp,(kM b e d.len fk.deg.len).norm,Q0 c l⟩
noncomputable def MN(n:Nat)(F:Pw->Int)(T:List Gi):Int:=(T.map λt=>t.2*sm F (J3 (JQ n) n (t.1.map Int.toNat))).sum
theorem Y1(n:Nat)(F:Pw->Int)(T:List Gi)(t:Gi):MN n F (T++[t])=MN n F T+t.2*sm F (J3 (JQ n) n (t.1.map Int.toNat)):=by
 unfold MN
 rw[Az,CT,List.map_singleton,CM]
structure LN(n b:Nat)(all:List Gi)(ps:List Pw)(T L:List Gi):Prop where
 can:HU L
 even:Hc n L
 deg:Deg n 8 (b+200*T.length) L
 few:L.length<=495
 rows:T.map (·.1)=ps.map Ig
 below:∀t∈L,∀p∈ps,Hv t.1 p=true
 nd:ps.Nodup
 mem:∀p∈ps,p∈fl n
 num:∀t∈T,t.2≠0
 bits:∀t∈T,t.2.natAbs<2^(b+200*T.length)
 sum:∀F,sm F all=sm F L+MN n F T
theorem Qt{n b:Nat}{L:List Gi}(c:HU L)(d:Deg n 8 b L)(n1:1<=n)(n4:n<=4):L.length<=495:=by
 have nd:(L.map (·.1)).Nodup:=by
  rw[List.Nodup,CF]
  refine c.ord.imp λ{x y} z e=>?_
  rw[e,KD]at z
  cases z
 have sub:∀p∈L.map (·.1),p∈(List.range 9).flatMap (wv n):=λp hp=>by
  obtain⟨t,ht,rfl⟩:=AY.mp hp
  have s0:=Wc (d.nn t ht)
  have s8:=d.sum t ht
  exact Ba.mpr ⟨t.1.sum.toNat,At.mpr (by lia),WE n _ t.1 (d.len t ht) (d.nn t ht) (by lia)⟩
 have:=DC nd sub
 rw[AB]at this
 have:=(Pa n (K0 n1 n4)).2.1
 lia
theorem LN.start{n b:Nat}{all:List Gi}(c:HU all)(e:Hc n all)(d:Deg n 8 b all)(n1:1<=n)(n4:n<=4):LN n b all [] [] all :=
 ⟨c,e,d,Qt c d n1 n4,rfl,λ_ _ _ h=>by simp at h,List.nodup_nil,λ_ h=>by simp at h,λ_ h=>by simp at h,λ_ h=>by simp at h,λF=>by simp [MN]⟩
theorem LN.few'{n b:Nat}{all L T:List Gi}{ps:List Pw}(h:LN n b all ps T L)(n1:1<=n)(n4:n<=4):T.length<=53:=by
 have e:=congrArg List.length h.rows
 rw[AB,AB]at e
 have:=DC h.nd h.mem
 have:=(Pa n (K0 n1 n4)).1
 lia
theorem LN.lead{n b:Nat}{all L T:List Gi}{ps:List Pw}{t:Gi}(h:LN n b all ps T (t::L)):t.1∈fl n:=by
 have ht:=AJ (a:=t) (l:=L)
 refine UG (h.deg.len t ht) (h.deg.nn t ht) (h.deg.sum t ht) (Pz λk hk=>rF h.can h.even h.deg.len ?_)
 rw[h.deg.len t ht]at hk
 exact hk
def Kr(n:Nat)(p:Pw):List Gi:=J3 (JQ n) n ((Ig p).map Int.toNat)
theorem ZC{n:Nat}{p:Pw}(n1:1<=n)(n4:n<=4)(h:p∈fl n):((Ig p).map Int.toNat).sum<=8/\∀k∈(Ig p).map Int.toNat,1<=k/\k<=n:=by
 obtain⟨⟨⟨⟨r,_⟩,_⟩,_⟩,hB⟩:=QR n1 n4 h
 refine⟨(YZ hB).1,λk hk=>?_⟩
 obtain⟨x,hx,rfl⟩:=AY.mp hk
 unfold NO at r
 rw[AK,AK,AZ]at r
 have:=r.1.1 x hx
 rw[AK,AV,AV]at this
 lia
theorem Sb{n:Nat}{p:Pw}(n1:1<=n)(n4:n<=4)(h:p∈fl n):Top (Kr n p) p 1/\Hc n (Kr n p)/\Deg n 8 153 (Kr n p)/\(Kr n p).length<=165:=by
 obtain⟨s8,hk⟩:=ZC n1 n4 h
 obtain⟨a,b,_⟩:=Xl n1 n4 _ s8 hk
 obtain⟨d,_,l⟩:=Yx n1 n4 (λk k1 k8=>Mg n k n1 n4 k1 k8) _ s8 λx hx=>(hk x hx).1
 obtain⟨⟨⟨_,e⟩,_⟩,hB⟩:=QR n1 n4 h
 rw[e]at a
 have:=(RW (Ig p) (Wb hB).1).2
 have:=(Wb hB).2
 exact⟨a,b,d.mono s8 (by rw[AB];lia),l⟩
theorem Deg.scl{n d b c:Nat}{x:Int}{ts:List Gi}(h:Deg n d b ts)(hx:x.natAbs<2^c):Deg n d (c+b) (scl x ts):=by
 refine⟨λt ht=>?_,λt ht=>?_,λt ht=>?_,λt ht=>?_⟩
 all_goals
  obtain⟨u,hu,rfl⟩:=AY.mp ht
 ·exact h.len u hu
 ·exact h.nn u hu
 ·exact h.sum u hu
 ·exact sZ hx (h.num u hu)
theorem LN.step{n b:Nat}{all L T:List Gi}{ps:List Pw}{t:Gi}(h:LN n b all ps T (t::L))(n1:1<=n)(n4:n<=4):LN n b all (ps++[t.1]) (T++[(Ig t.1,t.2)]) (norm ((t::L)++ngt (scl t.2 (Kr n t.1)))):=by
 have ht:=AJ (a:=t) (l:=L)
 have hl:=h.lead
 obtain⟨tp,ev,dg,ln⟩:=Sb n1 n4 hl
 have d1:=(L2.Pl.Deg.ngt (Deg.scl dg (h.deg.num t ht)))
 have d2:=Deg.app (h.deg.mono (AG 8) (Cb _ 153)) d1
 have lz:((t::L)++ngt (scl t.2 (Kr n t.1))).length<2^10:=by
  rw[AI,XQ,ND]
  have:=h.few
  have:(2:Nat)^10=1024:=by decide
  lia
 have d3:=Deg.norm d2 lz
 have d4:Deg n 8 (b+200*(T++[(Ig t.1,t.2)]).length) (norm ((t::L)++ngt (scl t.2 (Kr n t.1)))):=d3.mono (AG 8) (by rw[AI,BA];lia)
 have sb:=cV (TV h.can) tp
 refine⟨Jt _,aX h.even ev,d4,Qt (Jt _) d4 n1 n4,?_,λu hu p hp=>?_,?_,λp hp=>?_,λu hu=>?_,λu hu=>?_,λF=>?_⟩
 ·rw[Az,Az,h.rows];rfl
 ·have u1:=sb u hu
  rcases Aq.mp hp with hp|hp
  ·exact Mx u1 (h.below t ht p hp)
  ·rw[Ad.mp hp];exact u1
 ·rw[List.nodup_append]
  refine⟨h.nd,by simp,λa ha b hb e=>?_⟩
  rw[Ad.mp hb]at e
  have:=h.below t ht a ha
  rw[e,KD]at this
  cases this
 ·rcases Aq.mp hp with hp|hp
  ·exact h.mem p hp
  ·rw[Ad.mp hp];exact hl
 ·rcases Aq.mp hu with hu|hu
  ·exact h.num u hu
  ·rw[Ad.mp hu];exact h.can.num t ht
 ·have lt:b+200*T.length<=b+200*(T++[(Ig t.1,t.2)]).length:=by rw[AI,BA];lia
  rcases Aq.mp hu with hu|hu
  ·exact Jb (h.bits u hu) lt
  ·rw[Ad.mp hu];exact Jb (h.deg.num t ht) lt
 ·rw[h.sum F,Y1,Jx,Ta,Oc,NR]
  show _=_+(_+t.2*sm F (Kr n t.1))
  lia
end
section
variable{P:wP}{w:wQ}{K:wL}{mg:Str->wI}{base:Heap}{f g:wO}{fd gd:wR}
noncomputable abbrev uP:wG:=["_law_total", "_law_some", "_law_number", "_law_powers", "_law_count"]
noncomputable abbrev aR:wG:=["_law_total", "_law_some", "_law_number"]
theorem Oi:Gj uP aR (HS Os):=Hx
def Wa(d:wO)(H H':Hp):Prop:=∀b o,b≠d->H b=some o->H' b=some o
def SG:Sp:=λvs H Q _=>∃(d a:wO)(x:Int)(acc us:List Gi),vs=[.ref d,.ref a,.int x]/\H d=some (.dT (IS (IA acc)))/\Gf H a us/\(IA acc).length+us.length<=100000/\x.natAbs<2^100000/\(∀t∈us,t.2.natAbs<2^100000) /\
 ∀H',Wa d H H'->H' d=some (.dT (IS (IA (acc++scl x us))))->Q (.ref d) H'
theorem Xh(acc us:List Gi):(IA (acc++us)).length<=(IA acc).length+us.length:=by
 revert us
 refine MI ?_ λus t ih=>?_
 ·rw[BM];exact AG _
 ·rw[<-Ag,NQ,AI,BA]
  have:=Sh (IA (acc++us)) t.1 ((Ij (IA (acc++us)) t.1).getD 0+t.2)
  lia
theorem Ws(x:Int)(us:List Gi)(t:Gi):scl x (us++[t])=scl x us++[(t.1,x*t.2)]:=by
 unfold scl
 rw[Az]
 rfl
theorem lP(F:Hi K "_law_put" "_law_put" Os f fd):Gx P w K mg base Ho 2 f fd aR SG:=by
 refine IJ F Oi λHQ A outer s H vs Q E hr h=>?_
 obtain⟨d,a,x,acc,us,rfl,hd,hA,hz,hx,hn,q⟩:=h
 have hu:=SN hr
 refine⟨_,HP (Ii Ar rfl (IW (pv 1)) (Im rfl (Hw (HW (i:=3) Oi.nd rfl (Or.inl rfl)) (Hw (HW (i:=4) Oi.nd rfl (Or.inl rfl)) Ik)))
   (HL (V4 hu (pv 0) (pv 3) (HV Jc (kT hu (pv 0) (pv 3) HM ⟨rfl,rfl,rfl,rfl⟩) (HV Lr (pv 2) (pv 4))) rfl)))
  (HL (Hk (pv 0))),?_⟩
 obtain⟨vs,eA,iA⟩:=id hA
 have lv:=AL iA
 have na:a≠d:=Ku eA hd (by intro z;cases z)
 refine⟨_,rfl,a,rfl,⟨vs,HJ.of eA⟩,?_⟩
 refine Jd (xs:=vs) (λi σ H'=>(∃c3 c4,σ=[some (.ref d),some (.ref a),some (.int x),c3,c4])/\H' d=some (.dT (IS (IA (acc++scl x (us.take i)))))/\Wa d H H') ?_ ?_ ?_ ?_
 ·refine⟨⟨_,_,rfl⟩,?_,λ_ _ _ e=>e⟩
  rw[DP,show scl x []=[] from rfl,BM]
  exact hd
 ·rintro i σ H1 _ ⟨_,_,s1⟩
  exact HJ.of (s1 _ _ na eA)
 ·rintro i v σ H1 hv ⟨⟨c3,c4,rfl⟩,h1,s1⟩
  obtain⟨t,ht,hi⟩:=Ib iA hv
  have hmt:=Aa ht
  have lti:i<us.length:=(Ae.mp ht).1
  obtain⟨p,k1,rfl,hp,hk1⟩:=JO hi
  have hp1:=s1 _ _ (Ku hp hd (by intro z;cases z)) hp
  have hk:=s1 _ _ (Ku hk1 hd (by intro z;cases z)) hk1
  refine⟨p,_,rfl,HK.of hp1,rfl,_,_,rfl,_,_,rfl,rfl,?_⟩
  have g:=Ih.t (k:=t.1.map Sum.inl) h1 (by rw[LV];exact hk)
  rw[QT]at g
  have ls:=Xh acc (scl x (us.take i))
  rw[ND,Ah]at ls
  refine⟨_,rfl,d,rfl,.inr ⟨_,.inl h1⟩,_,rfl,_,g,_,rfl,_,rfl,_,_,rfl,rfl,⟨hx,hn t hmt⟩,(Ij (IA (acc++scl x (us.take i))) t.1).getD 0,x*t.2,?_,rfl,_,rfl,_,rfl,d,_,rfl,JS.t (k:=t.1.map Sum.inl) h1 (by rw[LV];exact hk) ?_,?_⟩
  ·cases Ij (IA (acc++scl x (us.take i))) t.1<;>rfl
  ·rw[Vu]
   exact KU (by lia)
  ·refine⟨⟨_,_,rfl⟩,?_,λb' o nb e'=>?_⟩
   ·rw[JK ht,Ws,<-Ag]
    show _=some (HO.dT (IS (IA (_++[(t.1,x*t.2)]))))
    rw[NQ,<-Pj]
    exact Gu
   ·rw[Hf nb]
    exact s1 b' o nb e'
 ·rintro σ H1 ⟨⟨c3,c4,rfl⟩,h1,s1⟩
  rw[AW (by lia)]at h1
  exact⟨_,rfl,q H1 s1 h1⟩
end
section
variable{P:wP}{w:wQ}{K:wL}{mg:Str->wI}{base:Heap}{f g:wO}{fd gd:wR}
noncomputable def LX(x:Int)(s:wB):List wB:=(List.range (s.length+1)).map λk=>s.take k++[x]++s.drop k
noncomputable def O5(ks:List Pw)(k:Pw):List Pw:=if k∈ks then ks else ks++[k]
noncomputable def La(ks l:List Pw):List Pw:=l.foldl O5 ks
theorem kW(ks l:List Pw)(k:Pw):La ks (l++[k])=O5 (La ks l) k:=by
 unfold La
 rw[Bv]
 rfl
theorem jV(ks:List Pw)(k:Pw):(O5 ks k).length<=ks.length+1:=by
 unfold O5
 split
 ·lia
 ·rw[AI,BA];lia
theorem uC(ks:List Pw):∀l:List Pw,(La ks l).length<=ks.length+l.length:=by
 refine MI (AG _) λl k ih=>?_
 rw[kW,AI,BA]
 have:=jV (La ks l) k
 lia
noncomputable def Kd(found:List Pw)(x:Int):List Pw:=La [] (found.flatMap (LX x))
noncomputable def Og(n:Nat)(r:wB):List Pw:=(r++List.replicate (n-r.length) 0).foldl Kd [[]]
theorem XM{k:Pw}:∀l:List Pw,k∈La [] l->k∈l:=by
 refine MI (λh=>by simp [La]at h) λl x ih h=>?_
 rw[kW]at h
 unfold O5 at h
 split at h
 ·exact BL _ (ih h)
 ·rcases Aq.mp h with h|h
  ·exact BL _ (ih h)
  ·exact Aw _ h
theorem gL:∀zs:wB,(zs.foldl Kd [[]]).length<=ML zs.length/\∀s∈zs.foldl Kd [[]],s.length=zs.length:=by
 refine MI ⟨AG _,λs hs=>by rw[Ad.mp hs]⟩ λzs x ih=>?_
 obtain⟨a,b⟩:=ih
 rw[Bv,AI,BA]
 show(Kd (zs.foldl Kd [[]]) x).length<=_/\∀s∈Kd (zs.foldl Kd [[]]) x,_
 refine⟨?_,λs hs=>?_⟩
 ·have h1:=uC [] ((zs.foldl Kd [[]]).flatMap (LX x))
  have h2:=V2 (LX x) (zs.length+1) (zs.foldl Kd [[]]) λs hs=>by
   unfold LX
   rw[AB,Bw,b s hs]
   exact AG _
  have h3:=EM (zs.length+1) a
  have h4:ML (zs.length+1)=(zs.length+1)*ML zs.length:=rfl
  show(La [] ((zs.foldl Kd [[]]).flatMap (LX x))).length<=_
  rw[h4,Dm]
  simp only[Cp]at h1
  lia
 ·obtain⟨u,hu,hs⟩:=Ba.mp (XM _ hs)
  obtain⟨k,hk,rfl⟩:=AY.mp hs
  have hk:=At.mp hk
  rw[AI,AI,Ah,BC,BA,<-b u hu]
  lia
theorem Xq(ks:List Pw)(k:Pw):Jv (LD ks) (k.map Sum.inl) (V.bl true)=LD (O5 ks k):=by
 have ea:((LD ks).any λkv=>decide (kv.1=k.map Sum.inl))=decide (k∈ks):=by
  unfold LD
  rw[FC]
  induction ks with
  |nil=>rfl
  |cons x r ih =>
   rw[B4,ih]
   show(decide ((x.map Sum.inl:List Ht)=k.map Sum.inl)||_)=_
   by_cases e:x=k
   ·subst e
    rw[Ab rfl,Ab (AJ ..)]
    rfl
   ·rw[AO λz=>e (Rb z)]
    by_cases c:k∈r
    ·rw[Ab c,Ab (AM _ c)];rfl
    ·rw[AO c,AO λz=>(AN.mp z).elim (λz=>e z.symm) c];rfl
 unfold Jv O5
 rw[ea]
 by_cases c:k∈ks
 ·rw[AF (Ab c),AF c]
  unfold LD
  rw[Cm]
  apply Ca
  intro t _
  simp only[Function.comp]
  split<;>rfl
 ·rw[AD (by rw[AO c];decide),AD c]
  unfold LD
  rw[Az]
  rfl
noncomputable abbrev rJ:wG:=["_law_many", "_law_row", "_law_found", "_law_number", "_law_more", "_law_powers", "_law_place"]
abbrev sD:wG:=["_law_many", "_law_row"]
abbrev tP:wG:=["_law_k"]
theorem YD:tP.Nodup:=by decide +kernel
theorem Ka:Gj rJ sD (HS MP):=Hx
def Qq:Sp:=λvs H Q _=>∃(n:Nat)(p:wO)(r:wB),vs=[.int n,.ref p]/\1<=n/\n<=4/\H p=some (.tup (r.map V.int))/\r.length<=n/\∀(a:wO)(H':Hp),H a=none->Gh H H'->Gf H' a (Og n r)->Q (.ref a) H'
theorem YM(k:Nat)(x:Int):((List.range k).filterMap λ(i:Nat)=>some x)=List.replicate k x:=by
 rw[Au,List.map_const',Bw]
theorem cL(F:Hi K "_law_arranged" "_law_arranged" MP f fd)(ml:mg "list" = none)(mr:mg "range" = none)(mn:mg "len" = none):Gx P w K mg base Ho 2 f fd sD Qq:=by
 refine IJ F Ka λHQ A outer s H vs Q E hr h=>?_
 obtain⟨n,p,r,rfl,n1,n4,hp,hl,q⟩:=h
 have hu:=SN hr
 refine⟨_,HP (Hj (i:=2) Ka.nd rfl (Or.inl rfl) (IC (Ge (Hd Gk) Gk)))
  (HP (Ii Ar rfl (IW (HV NT (NN oQ rfl ml D9 (Ge (pv 1) Gk)) (Iy (N':=tP) (src:=[none]) rfl (Nh rfl mr (Ge (HV LO (pv 0) (Ia K4 rfl mn Bl (Ge (pv 1) Gk))) Gk)) (Ir (HS MP) rJ (by decide +kernel)) (λb=>HW (i:=0) YD rfl (Or.inl rfl)) (λb=>JX) (λb=>HM)))) (HW (i:=3) Ka.nd rfl (Or.inl rfl))
   (HP (Hj (i:=4) Ka.nd rfl (Or.inl rfl) Vd)
   (HP (Ii Ar rfl (IW (pv 2)) (HW (i:=5) Ka.nd rfl (Or.inl rfl))
    (HL (Ii Ar rfl (Nh rfl mr (Ge (HV Jc (Ia K4 rfl mn Bl (Ge (pv 5) Gk)) HM) Gk)) (HW (i:=6) Ka.nd rfl (Or.inl rfl))
     (HL (V4 hu (pv 4) (HV LM (HV LM (NB OA (pv 5) Mh (NA (pv 6))) (Hd (Ge (pv 3) Gk))) (NB RC (pv 5) (NA (pv 6)) Mh)) Ky rfl)))))
   (HL (Hj (i:=2) Ka.nd rfl (Or.inl rfl) (jZ rfl rfl ml (pv 4)))))))
  (HL (Hk (pv 2)))),?_⟩
 refine⟨JN,λe0 h0=>⟨IH,λl0 h1=>?_⟩⟩
 have s0:=Gy h0 (.tup [])
 have s1:=Gy h1 (.lst [.ref e0])
 have s01:=s0.trans s1
 refine⟨_,rfl,p,_,rfl,.inr (HK.of (s01 _ _ hp)),λq0 h2=>?_⟩
 have s2:=Gy h2 (.lst (r.map V.int))
 refine⟨_,rfl,_,rfl,p,_,rfl,.inr (HK.of (s2 _ _ (s01 _ _ hp))),_,_,rfl,rfl,_,rfl,by rw[AB];lia,by rw[AB];lia,λbk D hD=>?_⟩
 rw[AB,show((n:Int)-(r.length:Int)).toNat=n-r.length by lia]
 refine Vz (α:=Int) hD (λσ=>∃c,σ=[c]) (λ(i:Nat)=>some (0:Int)) (small (by lia)) ?_ ?_ ?_
 ·exact⟨_,rfl⟩
 ·rintro i σ H2 Yes No hi ⟨c,rfl⟩ s3 yes no
  refine NV ?_
  exact yes _ _ _ _ ⟨_,rfl⟩ (λ_ _ e=>e) rfl rfl
 rintro H3 s3 ⟨ws,eD,iD⟩
 rw[NP iD,YM]at eD
 refine⟨q0,D,_,_,rfl,rfl,s3 _ _ Gu,eD,small (by rw[AB,AB,A0];lia),λl1 h4=>?_⟩
 rw[<-Az]
 have s4:=Gy h4 (.lst ((r++List.replicate (n-r.length) 0).map V.int))
 have hz4:Gw H3 l1 (.lst ((r++List.replicate (n-r.length) 0).map V.int)) l1=some (.lst ((r++List.replicate (n-r.length) 0).map V.int)):=Gu
 have sA:=s01.trans (s2.trans (s3.trans s4))
 have hl0:Gw H3 l1 (.lst ((r++List.replicate (n-r.length) 0).map V.int)) l0=some (.lst [.ref e0]):=s4 _ _ (s3 _ _ (s2 _ _ Gu))
 have he0:Gw H3 l1 (.lst ((r++List.replicate (n-r.length) 0).map V.int)) e0=some (.tup []):=s4 _ _ (s3 _ _ (s2 _ _ (s1 _ _ Gu)))
 have fl0:H l0=none:=s0.free h1
 unfold Og at q
 have zn:(r++List.replicate (n-r.length) (0:Int)).length=n:=by rw[AI,A0];lia
 generalize Gw H3 l1 (.lst ((r++List.replicate (n-r.length) 0).map V.int))=G at *
 generalize r++List.replicate (n-r.length) (0:Int)=zs at *
 refine⟨l1,rfl,⟨_,HJ.of hz4⟩,?_⟩
 refine Jd (xs:=zs.map V.int) (λi σ H'=>(∃(l:wO)(c3 c4 c5 c6:Option V),σ=[some (.int n),some (.ref p),some (.ref l),c3,c4,c5,c6]/\Gf H' l ((zs.take i).foldl Kd [[]])/\H l=none)/\Gh G H') ?_ ?_ ?_ ?_
 ·exact⟨⟨l0,_,_,_,_,rfl,⟨[.ref e0],hl0,.cons (Js (r:=[]) he0) .nil⟩,fl0⟩,λ_ _ e=>e⟩
 ·rintro i σ H5 _ ⟨_,s5⟩
  exact HJ.of (s5 _ _ hz4)
 ·rintro i v σ H5 hv ⟨⟨l,c3,c4,c5,c6,rfl,⟨vs,eL,iL⟩,fl⟩,s5⟩
  obtain⟨x,hx,rfl⟩:∃x,zs[i]?=some x/\V.int x=v:=by
   rw[Al]at hv
   cases e:zs[i]? with
   |none=>rw[e]at hv;cases hv
   |some y=>rw[e]at hv;exact⟨y,rfl,Ap hv⟩
  have hi:i<zs.length:=(Ae.mp hx).1
  obtain⟨al,am⟩:=gL (zs.take i)
  rw[Ah,CS (by lia)]at al am
  have b4:ML i<=24:=by
   have:i=0∨i=1∨i=2∨i=3:=by lia
   rcases this with e|e|e|e<;>rw[e]<;>decide
  have nx:(zs.take (i+1)).foldl Kd [[]]=La [] (((zs.take i).foldl Kd [[]]).flatMap (LX x)):=by
   rw[JK hx,Bv]
   rfl
  rw[nx]
  generalize (zs.take i).foldl Kd [[]]=fs at al am iL
  have lv:=AL iL
  intro d hd
  have s6:Gh H5 (Gw H5 d (.dT [])):=Gy hd _
  refine⟨_,rfl,l,rfl,⟨_,HJ.of (s6 _ _ eL)⟩,?_⟩
  refine Jd (xs:=vs) (λj σ H'=>(∃c5 c6,σ=[some (.int n),some (.ref p),some (.ref l),some (.int x),some (.ref d),c5,c6])/\H' d=some (.dT (LD (La [] ((fs.take j).flatMap (LX x)))))/\Gh H5 H') ?_ ?_ ?_ ?_
  ·exact⟨⟨_,_,rfl⟩,Gu,s6⟩
  ·rintro j σ H6 _ ⟨_,_,s7⟩
   exact HJ.of (s7 _ _ eL)
  ·rintro j v σ H6 hv ⟨⟨c5,c6,rfl⟩,hd6,s7⟩
   obtain⟨u,hu',hi2⟩:=Ib iL hv
   obtain⟨pu,rfl,hpu⟩:=JU hi2
   have lu:=am u (Aa hu')
   have ln1:=V2 (LX x) 4 (fs.take j) λs hs=>by
    unfold LX
    rw[AB,Bw,am s (Bp hs)]
    lia
   rw[Ah]at ln1
   refine⟨_,rfl,pu,_,rfl,.inr (HK.of (s7 _ _ hpu)),_,_,rfl,rfl,_,rfl,by rw[AB];lia,by rw[AB];lia,?_⟩
   rw[AB,show((u.length:Int)+1).toNat=u.length+1 by lia]
   refine Ni (lo:=0) (n:=u.length+1) (λe σ H'=>(∃c6,σ=[some (.int n),some (.ref p),some (.ref l),some (.int x),some (.ref d),some (.ref pu),c6])/\H' d=some (.dT (LD (La [] ((fs.take j).flatMap (LX x)++(List.range e).map λk=>u.take k++[x]++u.drop k))))/\Gh H5 H') ?_ ?_ ?_
   ·refine⟨⟨_,rfl⟩,?_,s7⟩
    rw[List.range_zero,DN,BM]
    exact hd6
   ·rintro e σ H7 he ⟨⟨c6,rfl⟩,hd7,s8⟩
    rw[Dr]
    have hpu7:=s8 _ _ hpu
    refine⟨_,rfl,_,rfl,_,rfl,_,rfl,pu,u,e,rfl,rfl,rfl,hpu7,λt1 G1 g1 e1=>?_⟩
    refine⟨_,rfl,IH,λt2 h2'=>?_⟩
    have g2:=Gy h2' (.tup [.int x])
    refine Kp (r:=u.take e) (r':=[x]) (g2 _ _ e1) Gu (small (by rw[Ah];show _+1<=100000;lia)) λt3 G3 g3 e3=>?_
    have g13:=g1.trans (g2.trans g3)
    refine⟨_,rfl,_,rfl,_,rfl,pu,u,e,rfl,rfl,rfl,g13 _ _ hpu7,λt4 G4 g4 e4=>?_⟩
    refine Kp (r:=u.take e++[x]) (r':=u.drop e) (g4 _ _ e3) e4 (small (by rw[AI,Ah,BC,BA];lia)) λt5 G5 g5 e5=>?_
    have gA:=g13.trans (g4.trans g5)
    have hd8:=gA _ _ hd7
    have la:=uC [] ((fs.take j).flatMap (LX x)++(List.range e).map λk=>u.take k++[x]++u.drop k)
    rw[AI,AB,Bw,Cp]at la
    refine⟨d,_,rfl,JS.t (k:=(u.take e++[x]++u.drop e).map Sum.inl) hd8 (by rw[LV];exact e5) ?_,?_⟩
    ·rw[Rn]
     exact KU (by lia)
    ·refine⟨⟨_,rfl⟩,?_,λb o e'=>?_⟩
     ·have er:(List.range (e+1)).map (λk=>u.take k++[x]++u.drop k)=(List.range e).map (λk=>u.take k++[x]++u.drop k)++[u.take e++[x]++u.drop e]:=by
       rw[Bo,Az]
       rfl
      rw[er,<-Ag ((fs.take j).flatMap (LX x)),kW,<-Xq]
      exact Gu
     ·rw[Hf (JR e' hd)]
      exact gA _ _ (s8 b o e')
   ·rintro σ H7 ⟨⟨c6,rfl⟩,hd7,s8⟩
    refine⟨⟨_,_,rfl⟩,?_,s8⟩
    rw[JK hu',Be,BW]
    exact hd7
  ·rintro σ H6 ⟨⟨c5,c6,rfl⟩,hd6,s7⟩
   rw[AW (show fs.length<=vs.length by lia)]at hd6
   refine⟨_,rfl,d,_,rfl,hd6,λl7 vs7 h7 i7=>?_⟩
   have s8:=Gy h7 (.lst vs7)
   exact⟨⟨l7,_,_,_,_,rfl,⟨vs7,Gu,Hs.mono (HX.same s8) i7⟩,sA.free (s5.free (s7.free h7))⟩,s5.trans (s7.trans s8)⟩
 ·rintro σ H5 ⟨⟨l,c3,c4,c5,c6,rfl,hL,fl⟩,s5⟩
  rw[AB,Ce]at hL
  exact⟨_,rfl,q l H5 fl (sA.trans s5) hL⟩
end
section
variable{P:wP}{w:wQ}{K:wL}{mg:Str->wI}{base:Heap}{f g:wO}{fd gd:wR}
theorem nI{H:Hp}{vs:List V}{rs:List wB}(iL:Hs H vs rs)(h:0<rs.length)(x:Int):∃(j:Nat)(r:wB)(p:wO),x%(vs.length:Int)=j/\J6 vs (x%(vs.length:Int))=some (.ref p)/\r∈rs/\H p=some (.tup (r.map V.int)):=by
 have lv:=AL iL
 have m0:=B6 x (show(vs.length:Int)≠0 by lia)
 have m1:=Bz x (show(0:Int)<(vs.length:Int) by lia)
 obtain⟨j,hj⟩:∃j:Nat,x%(vs.length:Int)=j:=⟨(x%(vs.length:Int)).toNat,by lia⟩
 have jl:j<vs.length:=by lia
 obtain⟨r,hr',hi⟩:=Ib iL (AT jl)
 obtain⟨pr,e1,hpr⟩:=JU hi
 exact⟨j,r,pr,hj,by rw[hj];exact KH (by rw[AT jl,e1]),Aa hr',hpr⟩
theorem pP{c:Prop}[Decidable c]{A:Prop}{v:Int}(u:Int)(R:Int->Prop)(hA:R u->A)(h:∀w,w=u∨w=v->R w):if decide c=true then A else R v:=by
 by_cases e:c
 ·exact Jq e (hA (h u (.inl rfl)))
 ·exact JV e (h v (.inr rfl))
def LZ(n:Nat)(r:wB):List Gi:=(Og n r).map λq=>(q,1)
noncomputable def N4(n:Nat)(r:wB):Bool:=decide (r.length<=n)&&(List.range (n-1)).all (λj=>decide (norm (Jw (LZ n r) j)=norm (LZ n r)))&&(Og n r).all (λq=>decide (q.length=n)&&q.all (λx=>decide (0<=x))&&decide (q.sum<=8))&&decide ((Og n r).length<=24)
theorem gX:∀n∈([1,2,3,4]:List Nat),∀w∈List.range 9,(up 9 (w:Int) (w:Int) (n:Int)).all (N4 n)=true:=by decide +kernel
structure Ng(n:Nat)(r:wB):Prop where
 len:r.length<=n
 even:Hc n (LZ n r)
 deg:Deg n 8 1 (LZ n r)
 few:(LZ n r).length<=24
theorem gM{n:Nat}{r:wB}(h:N4 n r=true):Ng n r:=by
 unfold N4 at h
 rw[AK,AK,AK,AV,AV,AZ,AZ]at h
 obtain⟨⟨⟨a,b⟩,c⟩,d⟩:=h
 have key:∀t∈LZ n r,(t.1.length=n/\(∀x∈t.1,0<=x))/\t.1.sum<=8/\t.2=1:=λt ht=>by
  obtain⟨q,hq,rfl⟩:=AY.mp ht
  have:=c q hq
  rw[AK,AK,AV,AV,AZ]at this
  exact⟨⟨this.1.1,λx hx=>BB (this.1.2 x hx)⟩,this.2,rfl⟩
 refine⟨a,λj hj=>BB (b j (At.mpr (by lia))),⟨λt ht=>(key t ht).1.1,λt ht=>(key t ht).1.2,λt ht=>(key t ht).2.1,λt ht=>?_⟩,by unfold LZ;rw[AB];exact d⟩
 rw[(key t ht).2.2];decide
noncomputable def Kv(n wt:Nat):List wB:=(List.range wt).flatMap λ(k:Nat)=>up 9 (k:Int) (k:Int) (n:Int)
theorem Zh{n wt:Nat}(n1:1<=n)(n4:n<=4)(h:wt<=9):∀r∈Kv n wt,Ng n r:=λr hr=>by
 obtain⟨k,hk,hr⟩:=Ba.mp hr
 have hk:=At.mp hk
 exact gM (AZ.mp (gX n (K0 n1 n4) k (At.mpr (by lia))) r hr)
theorem fK(n:Nat):∀wt,wt<=9->(Kv n wt).length<=256*wt
 |0,_=>by simp [Kv]
 |wt+1,h=>by
  have ih:=fK n wt (by lia)
  have e:Kv n (wt+1)=Kv n wt++up 9 (wt:Int) (wt:Int) (n:Int):=by
   unfold Kv
   rw[Bo,Be,BW]
  have l1:(up 9 (wt:Int) (wt:Int) (n:Int)).length<=256:=Nz (by lia) (by lia)
  rw[e,AI]
  lia
noncomputable abbrev rH:wG:=["_law_script", "_law_start", "_law_many", "_law_weight", "_law_size", "_law_total", "_law_menu", "_law_k", "_law_row", "_law_number"]
noncomputable abbrev nB:wG:=["_law_script", "_law_start", "_law_many", "_law_weight", "_law_size"]
abbrev tN:wG:=["_law_powers"]
theorem kY:tN.Nodup:=by decide +kernel
theorem Jp:Gj rH nB (HS Ma):=Hx
def UE(K:wL):Sp:=λvs H Q _=>∃(a:wO)(ns:wB)(n wt:Nat)(sz:Int),vs=[.ref a,.int 1,.int n,.int wt,.int sz]/\HJ K H a (ns.map V.int)/\ns.length<=63/\1<=n/\n<=4/\wt<=8/\1<=sz/\sz.natAbs<2^250 /\
 ∀(l:wO)(H':Hp)(ts:List Gi),H l=none->Gh H H'->Gf H' l ts->HU ts->Hc n ts->Deg n 8 300 ts->Q (.ref l) H'
theorem jW{x sz:Int}(h:1<=sz)(hs:sz.natAbs<2^250):(x%(2*sz)-sz).natAbs<2^252:=by
 have h0:=B6 x (show(2*sz)≠0 by lia)
 have h1:=Bz x (show 0<2*sz by lia)
 have h2:(2:Nat)^252=4*2^250:=by rw[show(252:Nat)=250+2 from rfl,D8,Dm]
 generalize (2:Nat)^250=B at *
 lia
theorem dA(F:Hi K "_law_even" "_law_even" Ma f fd)(GR:Hl P w K mg base 9 "_law_rows" pU (Kl 9))(GA:Hl P w K mg base 9 "_law_arranged" ["_law_many", "_law_row"] Qq)(GP:Hl P w K mg base 9 "_law_put" aR SG)(GL:Hl P w K mg base 9 "_law_plain" ["_law_total"] Su)(mr:mg "range" = none)(mm:mg "min" = none)(mn:mg "len" = none):Gx P w K mg base Ho 10 f fd nB (UE K):=by
 refine IJ F Jp λHQ A outer s H vs Q E hr h=>?_
 obtain⟨a,ns,n,wt,sz,rfl,hS,h63,n1,n4,w8,z1,z2,q⟩:=h
 refine⟨_,HP (Hj (i:=5) Jp.nd rfl (Or.inl rfl) Vd)
  (HP (Hj (i:=6) Jp.nd rfl (Or.inl rfl) (IC Gk))
  (HP (Ii Ar rfl (Nh rfl mr (Ge (HV Jc (pv 3) HM) Gk)) (HW (i:=7) Jp.nd rfl (Or.inl rfl))
   (HL (Hj (i:=6) Jp.nd rfl (Or.inl rfl) (HV NT (pv 6) (Hm GR hr rfl (Ge (pv 7) (Ge (pv 2) (Ge (pv 7) Gk))))))))
  (HP (Ii Ar rfl (bY rfl mr (Ge (pv 1) (Ge (Ia (Qa rfl) rfl mm Fz (Ge (Ia K4 rfl mn Bl (Ge (pv 0) Gk)) (Ge (HV Jc (pv 1) HM) Gk))) Gk))) (HW (i:=7) Jp.nd rfl (Or.inl rfl))
   (HP (Hj (i:=8) Jp.nd rfl (Or.inl rfl) (Ix Kh (pv 6) (HV K6 (Ix Kh (pv 0) (pv 7) (λ_ _=>rfl)) (Ia K4 rfl mn Bl (Ge (pv 6) Gk))) (λ_ _=>rfl)))
   (HP (Hj (i:=9) Jp.nd rfl (Or.inl rfl) (HV LO (HV K6 (HV O0 (Ix Kh (pv 0) (pv 7) (λ_ _=>rfl)) HM) HM) HM))
   (HP (IP (II ME (HV K6 (HV O0 (Ix Kh (pv 0) (pv 7) (λ_ _=>rfl)) HM) HM) HM (IE _))
    (HL (Hj (i:=9) Jp.nd rfl (Or.inl rfl) (HV LO (HV K6 (HV O0 (Ix Kh (pv 0) (pv 7) (λ_ _=>rfl)) HM) (HV Lr HM (pv 4))) (pv 4)))) IQ)
   (HL (Iq (Hm GP hr rfl (Ge (pv 5) (Ge (Iy (N':=tN) (src:=[none]) rfl (IW (Hm GA hr rfl (Ge (pv 2) (Ge (pv 8) Gk)))) (Ir (HS Ma) rH (by decide +kernel)) (λb=>HW (i:=0) kY rfl (Or.inl rfl)) (λb=>JX) (λb=>Hd (Ge (pv 0) (Ge HM Gk)))) (Ge (pv 9) Gk))))))))))
  (HL (Hk (Hm GL hr rfl (Ge (pv 5) Gk))))))),?_⟩
 intro d hd
 have s0:Gh H (Gw H d (.dT [])):=Gy hd _
 refine⟨JN,λm0 h0=>?_⟩
 have s1:=Gy h0 (.lst [])
 have nd0:m0≠d:=λz=>by
  rw[z,Gu]at h0
  cases h0
 refine⟨_,rfl,_,_,rfl,rfl,_,rfl,by lia,by lia,?_⟩
 rw[show((wt:Int)+1).toNat=wt+1 by lia]
 refine Ni (lo:=0) (n:=wt+1) (λi σ H'=>(∃(m:wO)(c7 c8 c9:Option V),σ=[some (.ref a),some (.int 1),some (.int n),some (.int wt),some (.int sz),some (.ref d),some (.ref m),c7,c8,c9]/\Gf H' m (Kv n i))/\H' d=some (.dT (IS (IA [])))/\Gh H H') ?_ ?_ ?_
 ·exact⟨⟨m0,_,_,_,rfl,⟨[],Gu,.nil⟩⟩,s1 _ _ Gu,s0.trans s1⟩
 ·rintro i σ H2 hi ⟨⟨m,c7,c8,c9,rfl,⟨vs,eM,iM⟩⟩,hd2,sH⟩
  rw[Dr]
  refine⟨_,rfl,_,rfl,_,rfl,_,rfl,(i:Int),(i:Int),(n:Int),rfl,by lia,by lia,by lia,by lia,λl3 H3 h3 s3 hL3=>?_⟩
  have l1:(up 9 (i:Int) (i:Int) (n:Int)).length<=256:=Nz (by lia) (by lia)
  have l2:=fK n i (by lia)
  obtain⟨ws,eW,iW⟩:=hL3
  have lv:=AL iM
  have lw:=AL iW
  refine⟨m,l3,vs,ws,rfl,rfl,s3 _ _ eM,eW,small (by lia),λm4 h4=>?_⟩
  have s4:=Gy h4 (.lst (vs++ws))
  refine⟨⟨m4,_,_,_,rfl,⟨vs++ws,Gu,?_⟩⟩,s4 _ _ (s3 _ _ hd2),sH.trans (s3.trans s4)⟩
  have e:Kv n (i+1)=Kv n i++up 9 (i:Int) (i:Int) (n:Int):=by
   unfold Kv
   rw[Bo,Be,BW]
  rw[e]
  exact Paired.app (Hs.mono (HX.same (s3.trans s4)) iM) (Hs.mono (HX.same s4) iW)
 ·rintro σ H2 ⟨⟨m,c7,c8,c9,rfl,⟨vs,eM,iM⟩⟩,hd2,sH⟩
  have mo:=Zh n1 n4 (show wt+1<=9 by lia)
  have ml:=fK n (wt+1) (by lia)
  have m0':0<(Kv n (wt+1)).length:=by
   have:([]:wB)∈Kv n (wt+1):=Ba.mpr ⟨0,At.mpr (by lia),by simp [up]⟩
   exact List.length_pos_of_mem this
  have lv:=AL iM
  generalize Kv n (wt+1)=rs at mo ml m0' lv iM
  have eM':=eM
  refine⟨_,rfl,_,rfl,a,_,rfl,.inl (sH.seq hS),_,rfl,_,_,rfl,rfl,_,_,rfl,1,_,rfl,⟨by decide,by decide,?_,?_⟩,?_⟩
  ·rw[AB];split<;>lia
  ·rw[AB];split<;>lia
  rw[AB]
  have hj:∀i:Nat,i<((if (1:Int)+8<(ns.length:Int) then (1:Int)+8 else (ns.length:Int))-1).toNat->i+1<ns.length/\i<8:=λi hi=>by split at hi<;>lia
  have hj8:((if (1:Int)+8<(ns.length:Int) then (1:Int)+8 else (ns.length:Int))-1).toNat<=8:=by split<;>lia
  generalize ((if (1:Int)+8<(ns.length:Int) then (1:Int)+8 else (ns.length:Int))-1).toNat=J at hj hj8
  refine Ni (lo:=1) (n:=J) (λi σ H'=>(∃(c7 c8 c9:Option V)(acc:List Gi),σ=[some (.ref a),some (.int 1),some (.int n),some (.int wt),some (.int sz),some (.ref d),some (.ref m),c7,c8,c9]/\H' d=some (.dT (IS (IA acc)))/\Hc n acc/\Deg n 8 253 acc/\acc.length<=24*i)/\Gh H H'/\Wa d H2 H') ?_ ?_ ?_
  ·refine⟨⟨_,_,_,[],rfl,hd2,λ_ _=>rfl,⟨λt ht=>by simp at ht,λt ht=>by simp at ht,λt ht=>by simp at ht,λt ht=>by simp at ht⟩,by simp⟩,sH,λ_ _ _ e=>e⟩
  ·rintro i σ H3 hi ⟨⟨c7,c8,c9,acc,rfl,h3,hE,hD,hz⟩,sH3,bt⟩
   obtain⟨i1,i8⟩:=hj i hi
   have nmd:m≠d:=Ku eM hd2 (by intro z;cases z)
   have eM3:=bt _ _ nmd eM
   have hS3:=sH3.seq hS
   have atC:J6 (ns.map V.int) (1+(i:Int))=some (.int (ns.getD (i+1) 0)):=by
    rw[show(1:Int)+(i:Int)=((i+1:Nat):Int) by lia]
    refine KH ?_
    rw[Al,AT i1]
    simp [i1]
   generalize ns.getD (i+1) 0=c at atC
   obtain⟨j1,r,pr,_,at1,rm,hpr⟩:=nI iM m0' c
   have ao:=mo r rm
   refine⟨_,rfl,_,rfl,_,rfl,a,_,_,.int c,rfl,rfl,hS3,atC,_,rfl,m,_,rfl,.inl (HJ.of eM3),_,_,rfl,rfl,(by lia),m,_,_,.ref pr,rfl,rfl,HJ.of eM3,at1,?_⟩
   refine⟨_,rfl,_,rfl,a,_,_,.int c,rfl,rfl,hS3,atC,_,_,rfl,rfl,⟨by decide,by decide⟩,_,_,rfl,rfl,(by show(0:Int)<19;decide),_,_,rfl,rfl,?_⟩
   show JF 9 (V.int (c / 90%19-9)) _ _ _
   have u0:=B6 (c / 90) (show(19:Int)≠0 by decide)
   have u1:=Bz (c / 90) (show(0:Int)<19 by decide)
   have vb:(c / 90%19-9).natAbs<2^252:=Ai (show _<2^5 by lia) (DW (by decide) (by decide))
   have ub:=jW (x:=c / 90) z1 z2
   generalize c / 90%19-9=v at *
   refine⟨_,rfl,_,rfl,a,_,_,.int c,rfl,rfl,hS3,atC,_,_,rfl,rfl,⟨by decide,by decide⟩,_,_,rfl,rfl,(by show(0:Int)<3;decide),rfl,_,rfl,?_⟩
   change if decide _=true then _ else _
   apply pP (v:=v) (c / 90%(2*sz)-sz)
   ·intro h
    exact⟨_,rfl,_,rfl,a,_,_,.int c,rfl,rfl,hS3,atC,_,_,rfl,rfl,⟨by decide,by decide⟩,_,rfl,_,_,rfl,rfl,⟨Jb (show(2:Int).natAbs<2^2 by decide) (show 2<=100000 by lia),Jb z2 (show 250<=100000 by lia)⟩,_,_,rfl,rfl,(by show(0:Int)<2*sz;lia),_,rfl,_,_,rfl,rfl,h⟩
   intro x hx
   have xb:x.natAbs<2^252:=by rcases hx with e|e<;>rw[e]<;>assumption
   refine⟨_,rfl,_,rfl,_,rfl,n,pr,r,rfl,n1,n4,?_,ao.len,λlA H4 h4 s4 hA4=>?_⟩
   ·exact bt _ _ (Ku hpr hd2 (by intro z;cases z)) hpr
   obtain⟨wsA,eA,iA⟩:=hA4
   have lA':=AL iA
   have few:=ao.few
   have eM2:LZ n r=(Og n r).map λq=>(q,1):=rfl
   refine⟨lA,rfl,⟨_,HJ.of eA⟩,λbk D hD'=>?_⟩
   rw[eM2,AB]at few
   refine KL (α:=Gi) hD' (HJ.of eA) (λσ=>∃c,σ=[c]) (λi=>((Og n r)[i]?).bind λx=>some (x,1)) (small (by lia)) ?_ ?_ ?_
   ·exact⟨_,rfl⟩
   ·rintro i v σ H5 Yes No hv ⟨c,rfl⟩ s5 yes no
    obtain⟨y,hy,hi⟩:=Ib iA hv
    obtain⟨px,rfl,hpx⟩:=JU hi
    refine NV ?_
    refine⟨_,rfl,Hr,λt6 h6=>?_⟩
    have s6:=Gy h6 (.tup [.ref px,.int 1])
    exact yes _ _ _ (y,1) ⟨_,rfl⟩ s6 (by rw[hy];rfl) (JB (t:=(y,1)) Gu (s6 _ _ (s5 _ _ hpx)))
   intro H5 s5 h5
   rw[lA',Jg,Au]at h5
   change Gf H5 D (LZ n r) at h5
   have z5:=s4.trans s5
   have dl:=P8 acc
   refine⟨_,rfl,d,D,x,acc,LZ n r,rfl,z5 _ _ h3,h5,?_,Jb xb (show 252<=100000 by lia),λt ht=>Jb (ao.deg.num t ht) (show 1<=100000 by lia),λH6 b6 h6=>?_⟩
   ·have:=ao.few
    lia
   refine⟨⟨_,_,_,acc++scl x (LZ n r),rfl,h6,WR hE (X7 x ao.even),Deg.app hD ((Deg.scl ao.deg xb).mono (AG 8) (by decide)),?_⟩,λb o e=>?_,λb o nb e=>?_⟩
   ·rw[AI,ND]
    have:=ao.few
    lia
   ·exact b6 b o (JR e hd) (z5 _ _ (sH3 b o e))
   ·exact b6 b o nb (z5 _ _ (bt b o nb e))
  ·rintro σ H3 ⟨⟨c7,c8,c9,acc,rfl,h3,hE,hD,hz⟩,sH3,bt⟩
   refine⟨_,rfl,d,acc,rfl,h3,by lia,λl4 H4 h4 b4 hL4=>?_⟩
   refine q l4 H4 (norm acc) (sH3.free h4) (λb o e=>b4 b o (JR e hd) (sH3 b o e)) hL4 (Jt acc) hE.norm ((Deg.norm hD (k:=10) ?_).mono (AG 8) (by decide))
   have:(2:Nat)^10=1024:=by decide
   lia
end
end L2.K92
namespace L2.Ev
open PySem PySem.Spec PyProof.Rows
open L2.Ts L2.Pl L2.Rw
section
variable{X:Cx}
theorem Vv:IX X (binaryOp .FloorDiv) (rI (λ_ j=>0<j/\j<1152921504606846976) λi j=>.int (i / j)):=VP λi j _ _ _ _ _ hc q=>by
 have h1:(0:Int)<j:=hc.1
 have h2:j<1152921504606846976:=hc.2
 exact floordiv_int (by lia) (by rw[Eo i (by lia)];exact q) (.inl (PyProof.noPylong_of_log2 (by
  have:j.natAbs.log2<60:=(Nat.log2_lt (by lia)).mpr (by
   have:(2:Nat)^60=1152921504606846976:=by decide
   lia)
  lia)))
def qI(ta:TA):TE:=λσ H Q=>ta σ H λvs H1=>∃i j:Int,vs=[.int i,.int j]/\(-(2^62)<=i/\i<2^62/\-(2^62)<=j/\j<2^62)/\(j-i).toNat<=1000/\∀l,H1 l=none->Q (.ref l) (Gw H1 l (.lst ((List.range (j-i).toNat).map λ(k:Nat)=>V.int (i+k))))
theorem fD{i:Int}{n:Nat}{acc:wK}(h:ItemsOf (λk v=>∃t,v=.int (i+k*1) t) acc n):HF ((List.range n).map λ(k:Nat)=>V.int (i+k)) acc.toList:=by
 have key:∀m,m<=n->HF ((List.range m).map λ(k:Nat)=>V.int (i+k)) (acc.toList.take m):=by
  intro m
  induction m with
  |zero=>intro _;exact .nil
  |succ m ih =>
   intro hm
   have lm:m<acc.size:=by rw[h.1];lia
   rw[Bo,Az,JK (x:=acc[m]) (by rw[A6,AH lm])]
   obtain⟨t,e⟩:=h.2 m acc[m] (AH lm)
   refine(ih (by lia)).append (.cons ⟨t,?_⟩ .nil)
   rw[e,D5]
 have:=key n (AG _)
 rwa [AW (by rw[AR,h.1];exact AG _)]at this
theorem dE{a b:Expr}{ta:TA}{p pos p2 pos2:Pos}(hc:X.calm=true)(hg:Gl X "list")(hm:X.mg "list" = none)(hg2:Gl X "range")(hm2:X.mg "range" = none)(ha:PA X [a,b] ta)
  (hs:starEach [a,b] X.env=[(false,eval a X.env),(false,eval b X.env)]:=by rfl) (hs2:starEach [b] X.env=[(false,eval b X.env)]:=by rfl)
  (he:starEach [.Call (.Name "range" p2) [a,b] [] pos2] X.env=(false,eval (.Call (.Name "range" p2) [a,b] [] pos2) X.env)::starEach [] X.env:=by rfl) (hpl:(backTo pos (starEach [] X.env)).any (·.1)=false:=by rfl) (hnil:backTo pos (starEach [] X.env)=[]:=by rfl) :
  PE X (.Call (.Name "list" p) [.Call (.Name "range" p2) [a,b] [] pos2] [] pos) (qI ta):=by
 intro Fj s σ H Q I h
 refine BP (KI I hg hm D9 ?_)
 refine BK ?_ he hpl
 rw[he]
 show wpAny _ _ (spliced ((false,eval (.Call (.Name "range" p2) [a,b] [] pos2) X.env)::backTo pos (starEach [] X.env))) _ _ s
 rw[hnil]
 refine DB (BP (KI I hg2 hm2 boot_range (BK (HZ (ha pos2 Fj s σ H _ I h) λus s1 ⟨vs,H1,I1,r1,q1⟩=>?_) (by rw[hs,hs2]) (by rw[hs2];rfl))))
 obtain⟨i,j,e,⟨q1,q2,q3,q4⟩,hz,q⟩:=q1
 subst e
 cases r1 with
 |cons r rr =>
  cases rr with
  |cons r' rr =>
   cases rr
   obtain⟨t,rfl⟩:=r
   obtain⟨t',rfl⟩:=r'
   refine call_range_2 ?_
   refine AE ?_
   have e2:Builtin.Range.rangeSize i j 1=(((j-i).toNat:Nat):Int):=by rw[rangeSize_one];split<;>lia
   refine call_list_range (n:=(j-i).toNat) (I1.ok.hd hc) (IsRange.new ..) (small_one q1 q2 q3 q4) e2 (A9 hz (by decide)) λh' tk acc c kp hS it=>?_
   have kp':∀b o,s1.heap.get? b=some o->h'.get? b=some o:=λb o e=>kp b o (AC _ e)
   have sz:s1.heap.objs.size<=(s1.heap.push { cls:=.type "range",data:=.fields #[.int i t,.int j t',.int 1 s1.toks] }).objs.size:=by rw[CA];lia
   have vv:=fD it
   refine⟨.ref _,_,I1.laid (t':=tk) kp' sz (show HR X.prog X.w _ h' _ (.lst _) from⟨?_,acc.toList,c,vv,by rw[Array.toArray_toList];exact hS⟩),rfl,q _ (I1.hok.fresh sz)⟩
   rw[AB,Bw]
   exact A9 hz (by decide)
end
end L2.Ev
namespace L2.K92
open PySem
open L2.Pl L2.Ev
section
variable{P:wP}{w:wQ}{K:wL}{mg:Str->wI}{base:Heap}{f g:wO}{fd gd:wR}
abbrev uV:wG:=["one", "other", "rest"]
theorem Mu:Gj uV ["one", "other"] (HS XE):=Hx
def OU:Sp:=λvs H Q _=>∃a b:Nat,vs=[.int a,.int b]/\Q (.int ((Nat.gcd a b:Nat):Int)) H
theorem oZ{y:Nat}(h:y≠0):(!decide (V.int (y:Int)=V.int 0))=true:=by
 rw[AO (λz=>h (by injection z;lia))]
 rfl
theorem W5(F:Hi K "common_divisor" "common_divisor" XE f fd):Gx P w K mg base Ho 2 f fd ["one", "other"] OU:=by
 refine IJ F Mu λHQ A outer s H vs Q E hr h=>?_
 obtain⟨a,b,rfl,q⟩:=h
 refine⟨_,HP (dU Ar (II Mq (pv 1) HM (IE _))
   (HP (Hj (i:=2) Mu.nd rfl (Or.inl rfl) (HV K6 (pv 0) (pv 1)))
   (HP (Hj (i:=0) Mu.nd rfl (Or.inl rfl) (pv 1))
   (HL (Hj (i:=1) Mu.nd rfl (Or.inl rfl) (pv 2))))))
  (HL (Hk (pv 0))),?_⟩
 refine⟨λm σ H'=>∃(x y:Nat)(c:Option V),m=y/\σ=[some (.int x),some (.int y),c]/\Nat.gcd x y=Nat.gcd a b/\H'=H,⟨b,a,b,_,rfl,rfl,rfl,rfl⟩,?_⟩
 rintro m σ H1 ⟨x,y,c,rfl,rfl,e,rfl⟩
 refine⟨_,rfl,rfl,_,rfl,?_⟩
 by_cases c0:m=0
 ·subst c0
  refine J4 ⟨_,rfl,?_⟩
  rw[Nat.gcd_zero_right]at e
  rw[e]
  exact q
 ·rw[oZ c0]
  refine JP ⟨λσ' H'=>σ'=[some (.int m),some (.int ((x:Int)%(m:Int))),some (.int ((x:Int)%(m:Int)))]/\H'=H1,λσ' H' ⟨e1,e2⟩=>⟨x%m,Nat.mod_lt _ (by lia),m,x%m,_,rfl,e1,?_,e2⟩,?_⟩
  ·rw[<-e,Nat.gcd_comm x m,Nat.gcd_rec m x,Nat.gcd_comm]
  ·exact⟨_,rfl,_,rfl,_,_,rfl,rfl,(by show(0:Int)<(m:Int);lia),_,rfl,_,rfl,rfl,rfl⟩
noncomputable abbrev vM:wG:=["top", "bottom", "divisor"]
theorem UU:Gj vM ["top", "bottom"] (HS eR):=Hx
noncomputable def Ki(t:Int)(b:Nat):wB:=[t / ((Nat.gcd t.natAbs b:Nat):Int),(b:Int) / ((Nat.gcd t.natAbs b:Nat):Int)]
def PX:Sp:=λvs H Q _=>∃(t:Int)(b:Nat),vs=[.int t,.int b]/\1<=b/\b<1152921504606846976/\∀(p:wO)(H':Hp),H p=none->Gh H H'->H' p=some (.tup ((Ki t b).map V.int))->Q (.ref p) H'
theorem Ww(t:Int):(if t<0 then -t else t)=(t.natAbs:Int):=by split<;>lia
theorem Zv(F:Hi K "fraction" "fraction" eR f fd)(GC:Hl P w K mg base 2 "common_divisor" ["one", "other"] OU)(ma:mg "abs" = none):Gx P w K mg base Ho 3 f fd ["top", "bottom"] PX:=by
 refine IJ F UU λHQ A outer s H vs Q E hr h=>?_
 obtain⟨t,b,rfl,b1,b2,q⟩:=h
 refine⟨_,HP (Hj (i:=2) UU.nd rfl (Or.inl rfl) (Hm GC hr rfl (Ge (Ia Yy rfl ma PyProof.Rows.boot_abs (Ge (pv 0) Gk)) (Ge (pv 1) Gk))))
  (HL (Hk (Hd (Ge (HV Vv (pv 0) (pv 2)) (Ge (HV Vv (pv 1) (pv 2)) Gk))))),?_⟩
 have g0:0<Nat.gcd t.natAbs b:=Ds _ (by lia)
 have g1:Nat.gcd t.natAbs b<=b:=Nat.gcd_le_right _ (by lia)
 refine⟨_,rfl,t,rfl,_,rfl,t.natAbs,b,by rw[Ww];rfl,?_⟩
 unfold Ki at q
 generalize Nat.gcd t.natAbs b=g at *
 refine⟨_,rfl,_,rfl,_,_,rfl,rfl,⟨by lia,by lia⟩,_,rfl,_,rfl,_,_,rfl,rfl,⟨by lia,by lia⟩,Hr,λp hp=>?_⟩
 exact q p _ hp (Gy hp _) Gu
abbrev uI:wG:=["numbers", "result", "number"]
theorem NC:Gj uI ["numbers"] (HS Zg):=Hx
def LP(ns:wB):Int:=ns.foldl (λr x=>r*x) 1
theorem aH(ns:wB)(x:Int):LP (ns++[x])=LP ns*x:=by
 unfold LP
 rw[Bv]
 rfl
def UC:Sp:=λvs H Q _=>∃(a:wO)(ns:wB),vs=[.ref a]/\H a=some (.lst (ns.map V.int))/\(∀i,(LP (ns.take i)).natAbs<2^100000)/\(∀x∈ns,x.natAbs<2^100000)/\Q (.int (LP ns)) H
theorem Wy(F:Hi K "multiplied_up" "multiplied_up" Zg f fd):Gx P w K mg base Ho 2 f fd ["numbers"] UC:=by
 refine IJ F NC λHQ A outer s H vs Q E hr h=>?_
 obtain⟨a,ns,rfl,hA,hP,hN,q⟩:=h
 refine⟨_,HP (Hj (i:=1) NC.nd rfl (Or.inl rfl) HM)
  (HP (Ii Ar rfl (IW (pv 0)) (HW (i:=2) NC.nd rfl (Or.inl rfl))
   (HL (Hj (i:=1) NC.nd rfl (Or.inl rfl) (HV Lr (pv 1) (pv 2)))))
  (HL (Hk (pv 1)))),?_⟩
 refine⟨_,rfl,a,rfl,⟨_,HJ.of hA⟩,?_⟩
 refine Jd (xs:=ns.map V.int) (λi σ H'=>(∃c,σ=[some (.ref a),some (.int (LP (ns.take i))),c])/\H'=H) ?_ ?_ ?_ ?_
 ·exact⟨⟨_,rfl⟩,rfl⟩
 ·rintro i σ H1 _ ⟨_,rfl⟩
  exact HJ.of hA
 ·rintro i v σ H1 hv ⟨⟨c,rfl⟩,rfl⟩
  obtain⟨x,hx,rfl⟩:∃x,ns[i]?=some x/\V.int x=v:=by
   rw[Al]at hv
   cases e:ns[i]? with
   |none=>rw[e]at hv;cases hv
   |some y=>rw[e]at hv;exact⟨y,rfl,Ap hv⟩
  refine⟨_,rfl,_,rfl,_,_,rfl,rfl,⟨hP i,hN x (Aa hx)⟩,⟨some (.int x),?_⟩,rfl⟩
  rw[JK hx,aH]
  rfl
 ·rintro σ H1 ⟨⟨c,rfl⟩,rfl⟩
  rw[AB,Ce]
  exact⟨_,rfl,q⟩
end
section
variable{P:wP}{w:wQ}{K:wL}{mg:Str->wI}{base:Heap}{f g:wO}{fd gd:wR}
noncomputable def qD(k:Int)(T:List Gi):List Gi:=T.map λt=>(t.1,t.2 / k)
noncomputable def Il(c:Int):Nat->List (List Gi)
 |0=>[[([],c)]]
 |k+1=>Il c k++[qD ((k:Int)+1) (KM (Il c k) (Il c k).length)]
theorem VA(c:Int):∀k,(Il c k).length=k+1
 |0=>rfl
 |k+1=>by
  show(Il c k++[qD ((k:Int)+1) (KM (Il c k) (Il c k).length)]).length=_
  rw[AI,VA c k]
  rfl
noncomputable def JH:Nat->Int
 |0=>1
 |n+1=>JH n*((n:Int)+1)
theorem dH:∀n∈[1,2,3,4],∀k∈List.range n,Lk (Il (JH n) k)=true:=by decide +kernel
noncomputable abbrev sE:wG:=["many", "scale", "parts", "number"]
abbrev rR:wG:=["row", "top", "number"]
theorem Ro:rR.Nodup:=by decide +kernel
theorem Of:Gj sE ["many", "scale"] (HS Vx):=Hx
def SI:Sp:=λvs H Q _=>∃n:Nat,vs=[.int n,.int (JH n)]/\n∈[1,2,3,4]/\∀(a:wO)(us:List V)(H':Hp),H a=none->Gh H H'->H' a=some (.lst us)->KY H' us (Il (JH n) n)->Q (.ref a) H'
theorem dY(F:Hi K "elementaries_by_power" "elementaries_by_power" Vx f fd)(GA:Hl P w K mg base 4 "alternating" ["lesser"] N5)(mr:mg "range" = none):Gx P w K mg base Ho 5 f fd ["many", "scale"] SI:=by
 refine IJ F Of λHQ A outer s H vs Q E hr h=>?_
 obtain⟨n,rfl,hn,q⟩:=h
 have n4:n<=4:=by
  simp at hn
  lia
 refine⟨_,HP (Hj (i:=2) Of.nd rfl (Or.inl rfl) (IC (Ge (IC (Ge (Hd (Ge (Hd Gk) (Ge (pv 1) Gk))) Gk)) Gk)))
  (HP (Ii Ar rfl (bY rfl mr (Ge HM (Ge (HV Jc (pv 0) HM) Gk))) (HW (i:=3) Of.nd rfl (Or.inr rfl))
   (HL (Iq (LQ BE BN BO Lj (pv 2) (Ge (Iy (N':=rR) (src:=[none,none,some 3]) rfl (IW (Hm GA hr rfl (Ge (pv 2) Gk))) (Ir (HS Vx) sE (by decide +kernel))
    (λb=>Im rfl (Hw (HW (i:=0) Ro rfl (Or.inl rfl)) (Hw (HW (i:=1) Ro rfl (Or.inl rfl)) Ik))) (λb=>JX)
    (λb=>Hd (Ge (pv 0) (Ge (HV O0 (pv 1) (pv 2)) Gk)))) Gk)))))
  (HL (Hk (pv 2)))),?_⟩
 generalize hc:JH n=c at *
 refine⟨JN,λt0 h0=>⟨_,rfl,Hr,λt1 h1=>⟨IH,λl2 h2=>⟨IH,λp hp=>?_⟩⟩⟩⟩
 have s0:=Gy h0 (.tup [])
 have s1:=Gy h1 (.tup [.ref t0,.int c])
 have s2:=Gy h2 (.lst [.ref t1])
 have s3:=Gy hp (.lst [.ref l2])
 have z:=s0.trans (s1.trans (s2.trans s3))
 have np:l2≠p:=λe=>by rw[<-e,Gu]at hp;cases hp
 have fp:H p=none:=s0.free (s1.free (s2.free hp))
 refine⟨_,rfl,_,_,rfl,rfl,1,_,rfl,⟨by lia,by lia,by lia,by lia⟩,?_⟩
 rw[show((n:Int)+1-1).toNat=n by lia]
 refine Ni (lo:=1) (n:=n) (λk σ H'=>∃(us:List V)(c3:Option V),σ=[some (.int n),some (.int c),some (.ref p),c3]/\H' p=some (.lst us)/\Paired (λv T=>∃b,v=.ref b/\b≠p/\Gf H' b T) us (Il c k)/\Gh H H') ?_ ?_ ?_
 ·exact⟨[.ref l2],_,rfl,Gu,.cons ⟨l2,rfl,np,⟨[.ref t1],s3 _ _ Gu,.cons (JB (t:=([],c)) (s3 _ _ (s2 _ _ Gu)) (s3 _ _ (s2 _ _ (s1 _ _ Gu)))) .nil⟩⟩ .nil,z⟩
 ·rintro k σ H1 hk ⟨us,c3,rfl,h1',hT,sH⟩
  have lu:=AL hT
  rw[VA]at lu
  have aB:=dH n hn k (At.mpr hk)
  rw[hc]at aB
  refine⟨_,rfl,.inl ⟨rfl,_,HJ.of h1'⟩,_,rfl,p,us,Il c k,rfl,h1',Ch (λ_ _ q=>let ⟨b,e,_,hb⟩:=q;⟨b,e,hb⟩) hT,aB,λl H2 hl s4 hL=>?_⟩
  have tb:(KM (Il c k) (Il c k).length).length<=100:=by
   unfold Lk at aB
   rw[AK,AZ]at aB
   exact(Vn (aB.2 (Il c k).length (At.mpr (E5 _)))).1
  have e1:Il c (k+1)=Il c k++[qD ((k:Int)+1) (KM (Il c k) (Il c k).length)]:=rfl
  rw[e1]
  generalize KM (Il c k) (Il c k).length=A at hL tb
  obtain⟨ws,eL,iL⟩:=hL
  have lw:=AL iL
  refine⟨l,rfl,⟨_,HJ.of eL⟩,λbk D hD=>?_⟩
  refine KL (α:=Gi) hD (HJ.of eL) (λσ=>∃c1 c2,σ=[c1,c2,some (.int (1+(k:Int)))]) (λi=>(A[i]?).bind λt=>some (t.1,t.2 / ((k:Int)+1))) (small (by lia)) ⟨_,_,rfl⟩ ?_ ?_
  ·rintro i v σ H3 Yes No hv ⟨c1,c2,rfl⟩ s5 yes no
   obtain⟨t,ht,hi⟩:=Ib iL hv
   obtain⟨pt,kk,rfl,hpt,hkk⟩:=JO hi
   refine⟨pt,_,rfl,HK.of (s5 _ _ hpt),rfl,_,_,rfl,_,_,rfl,rfl,?_⟩
   refine Kj ?_
   refine⟨_,rfl,_,rfl,_,rfl,_,_,rfl,rfl,⟨(by show(0:Int)<1+(k:Int);lia),(by show 1+(k:Int)<1073741824;lia)⟩,Hr,λr hr2=>?_⟩
   have s6:=Gy hr2 (.tup [.ref kk,.int (t.2 / (1+(k:Int)))])
   refine yes _ _ _ (t.1,t.2 / ((k:Int)+1)) ⟨_,_,rfl⟩ s6 (by rw[ht];rfl) (JB (t:=(t.1,t.2 / ((k:Int)+1))) (by rw[HB (k:Int) 1];exact Gu) (s6 _ _ (s5 _ _ hkk)))
  intro H3 s5 hD3
  rw[lw,Jg,Au]at hD3
  have h3p:=s5 _ _ (s4 _ _ h1')
  have nD:D≠p:=λe=>by rw[e,s4 _ _ h1']at hD;cases hD
  refine⟨p,us,_,rfl,rfl,h3p,KU (by lia),us++[.ref D],_,rfl,Gu,?_,L9 fp (sH.trans (s4.trans s5)) _⟩
  refine Paired.app (Ch (λv T q=>?_) hT) (.cons ?_ .nil)
  ·obtain⟨b,e,nb,hb⟩:=q
   exact⟨b,e,nb,Vh nb h3p _ (hb.mono (s4.trans s5))⟩
  ·exact⟨D,rfl,nD,Vh nD h3p _ hD3⟩
 ·rintro σ H1 ⟨us,c3,rfl,h1',hT,sH⟩
  exact⟨_,rfl,q p us _ fp sH h1' (Ch (λ_ _ q=>let ⟨b,e,_,hb⟩:=q;⟨b,e,hb⟩) hT)⟩
end
section
variable{P:wP}{w:wQ}{K:wL}{mg:Str->wI}{base:Heap}{f g:wO}{fd gd:wR}
noncomputable def kZ(n:Nat)(s:List Gi×List Gi):List Gi×List Gi:=match s.2 with
 |[]=>s
 |t::r=>(s.1++[(Ig t.1,t.2)],norm ((t::r)++ngt (scl t.2 (Kr n t.1))))
noncomputable def Od(n:Nat):Nat->List Gi×List Gi->List Gi×List Gi
 |0,s=>s
 |k+1,s=>Od n k (kZ n s)
theorem sF(n:Nat)(T:List Gi):∀k,Od n k (T,[])=(T,[])
 |0=>rfl
 |k+1=>sF n T k
def IL(n:Nat)(ts:List Gi):List Gi:=norm (Od n 53 ([],ts)).1
structure NX(n b:Nat)(all T:List Gi):Prop where
 row:∀t∈T,NO n t.1=true/\IN t.1=true
 can:HU T
 sum:∀F,sm F all=MN n F T
 few:T.length<=53
 bits:∀t∈T,t.2.natAbs<2^(b+10600)
 own:∀t∈T,t.1∈(fl n).map Ig
theorem eP{n:Nat}{F:Pw->Int}{T T':List Gi}(h:T'.Perm T):MN n F T'=MN n F T:=by
 unfold MN
 exact Wq (h.map _)
theorem iF{T l:List Gi}(pm:l.Perm T)(so:l.Pairwise λa b=>Le a b=false)(nd:(T.map (·.1)).Nodup)(num:∀t∈T,t.2≠0):l=norm T:=by
 have nd':(l.map (·.1)).Nodup:=(pm.map (·.1)).nodup_iff.mpr nd
 refine Vp ⟨?_,λt ht=>num t (pm.mem_iff.mp ht)⟩ λp=>VO pm p
 rw[List.Nodup,CF]at nd'
 refine(so.and nd').imp λ{a b} z=>?_
 have z1:=z.1
 unfold Le at z1
 rw[AD z.2]at z1
 cases c:Hv b.1 a.1 with
 |true=>rfl
 |false=>exact absurd (NS z1 c) z.2
theorem lM{n b:Nat}{all T l:List Gi}{ps:List Pw}(h:LN n b all ps T [])(hR:Od n (53-T.length) (T,[])=Od n 53 ([],all))(n1:1<=n)(n4:n<=4)(pm:l.Perm T)(so:l.Pairwise λa b=>Le a b=false):l=IL n all/\NX n b all (IL n all):=by
 have inj:(T.map (·.1)).Nodup:=by
  rw[h.rows,List.Nodup,CF]
  have nd:=h.nd
  have mm:=h.mem
  refine List.Pairwise.imp_of_mem (λ{a b} ha hb z e=>z ?_) nd
  have e1:=(QR n1 n4 (mm a ha)).1.1.2
  have e2:=(QR n1 n4 (mm b hb)).1.1.2
  rw[<-e1,<-e2,e]
 have e:=iF pm so inj h.num
 have eB:IL n all=norm T:=by
  unfold IL
  rw[<-hR,sF]
 rw[eB]
 refine⟨e,λt ht=>?_,Jt T,λF=>?_,?_,λt ht=>?_,λt ht=>?_⟩
 ·rw[<-e]at ht
  have hm:=EW (f:=(·.1)) (pm.mem_iff.mp ht)
  rw[h.rows]at hm
  obtain⟨p,hp,ep⟩:=AY.mp hm
  obtain⟨⟨⟨⟨r1,_⟩,_⟩,_⟩,r2⟩:=QR n1 n4 (h.mem p hp)
  rw[<-show Ig p=t.1 from ep]
  exact⟨r1,r2⟩
 ·rw[h.sum F,<-e,eP pm]
  simp [sm]
 ·rw[<-e,pm.length_eq]
  exact h.few' n1 n4
 ·rw[<-e]at ht
  have:=h.few' n1 n4
  exact Jb (h.bits t (pm.mem_iff.mp ht)) (by lia)
 ·rw[<-e]at ht
  have hm:=EW (f:=(·.1)) (pm.mem_iff.mp ht)
  rw[h.rows]at hm
  obtain⟨p,hp,ep⟩:=AY.mp hm
  rw[<-show Ig p=t.1 from ep]
  exact EW (h.mem p hp)
noncomputable abbrev rN:wG:=["many", "some", "telling", "left", "row", "often"]
abbrev tH:wG:=["powers", "number", "often"]
theorem VB:tH.Nodup:=by decide +kernel
theorem Kq:Gj rN ["many", "some"] (HS V9):=Hx
def Jm(cBC C:wO)(good:Nat->List Gi->Hp->VK->Prop):Sp:=λvs H Q E=>∃(n:Int)(a:wO)(ts:List Gi),vs=[.int n,.ref a]/\Gf H a ts/\ts.length<=1000/\(¬ (1<=n/\n<=4)->E (.ref cBC) none H) /\
 (1<=n/\n<=4->(∀t∈ts,t.1.length=n.toNat)/\(KW ts (n.toNat-1) none->good n.toNat ts H Q) /\
  ∀k p,KW ts (n.toNat-1) (some (k,p))->∀H' d kk,Gh H H'->H d=none->H' d=some (xD d [("place",.int k),("powers",.ref kk)])->H' kk=some (.tup (p.map V.int))->E (.ref C) (some d) H')
def Mf(cBC C:wO):Sp:=Jm cBC C λn ts H Q=>∃b,HU ts/\Hc n ts/\Deg n 8 b ts/\b<=1000/\∀(l:wO)(H':Hp),H l=none->Gh H H'->Gf H' l (IL n ts)->NX n b ts (IL n ts)->Q (.ref l) H'
def sU(n b:Nat)(a:wO)(ts:List Gi)(H:Hp)(m:Nat)(σ:St)(H':Hp):Prop:=∃(ps:List Pw)(T L:List Gi)(lT lL:wO)(c4 c5:Option V),m=53-T.length/\LN n b ts ps T L/\Od n (53-T.length) (T,L)=Od n 53 ([],ts)/\σ=[some (.int n),some (.ref a),some (.ref lT),some (.ref lL),c4,c5]/\Gf H' lT T/\Gf H' lL L/\lT≠lL/\H lT=none/\Gh H H'
theorem cX{cBC C:wO}(F:Hi K "by_elementary" "by_elementary" V9 f fd)(GU:Hh P w K mg base 8 "refuse_uneven" Jl (MV cBC C))(GT:Hl P w K mg base 8 "turned_over" Qo R3)(GE:Hl P w K mg base 8 "elementary_product" TN (Sn JQ))(GL:Hl P w K mg base 8 "less" MF (O9 λts us=>ts++ngt us))(ms:mg "sorted" = none):Gx P w K mg base (IB P w) 9 f fd ["many", "some"] (Mf cBC C):=by
 refine Kc F Kq λHQ A outer s H vs Q E hr h=>?_
 obtain⟨n0,a,ts,rfl,hA,hl,e1,q0⟩:=h
 have hM:=BD (Bt (by decide:Dat.dep Gi+1<=64) _) hr.units
 have h8:=QN hr
 refine⟨_,HP (Iq (Io GU hr rfl Je (Ge (pv 0) (Ge (pv 1) Gk))))
  (HP (Hj (i:=2) Kq.nd rfl (Or.inl rfl) (IC Gk))
  (HP (Hj (i:=3) Kq.nd rfl (Or.inl rfl) (pv 1))
  (HP (dU UD (II (Kz (α:=Gi) hM) (pv 3) (IC Gk) (IE _))
   (HP (Hj (i:=4) Kq.nd rfl (Or.inl rfl) (Hm GT hr rfl (Ge (Ix Ks (Ix Kh (pv 3) HM (λ_ _=>rfl)) HM (λ_ _=>rfl)) Gk)))
   (HP (Hj (i:=5) Kq.nd rfl (Or.inr rfl) (Ix Ks (Ix Kh (pv 3) HM (λ_ _=>rfl)) HM (λ_ _=>rfl)))
   (HP (Iq (LQ BE BN BO Lj (pv 2) (Ge (Hd (Ge (pv 4) (Ge (pv 5) Gk))) Gk)))
   (HL (Hj (i:=3) Kq.nd rfl (Or.inl rfl) (Hm GL hr rfl (Ge (pv 3) (Ge (Iy (N':=tH) (src:=[none,none,some 5]) rfl (IW (Hm GE hr rfl (Ge (pv 0) (Ge (pv 4) Gk)))) (Ir (HS V9) rN (by decide +kernel))
    (λb=>Im rfl (Hw (HW (i:=0) VB rfl (Or.inl rfl)) (Hw (HW (i:=1) VB rfl (Or.inl rfl)) Ik))) (λb=>JX)
    (λb=>Hd (Ge (pv 0) (Ge (HV Lr (pv 2) (pv 1)) Gk)))) Gk)))))))))
  (HL (Hk (rE (α:=Gi) rfl h8 rfl ms (Ge (pv 2) Gk))))))),?_⟩
 refine⟨_,rfl,_,rfl,n0,a,ts,rfl,hA,hl,e1,λhm=>?_⟩
 obtain⟨n,rfl⟩:∃n:Nat,n0=n:=⟨n0.toNat,by lia⟩
 obtain⟨q1,q2,q3⟩:=q0 hm
 rw[Af]at q1 q2 q3
 refine⟨q1,λun H1 s1=>?_,q3⟩
 obtain⟨b,hC,hE,hD,hb,q⟩:=q2 un
 have n1:1<=n:=by lia
 have n4:n<=4:=by lia
 have few:=Qt hC hD n1 n4
 refine⟨JN,λl0 h0=>?_⟩
 have s0:=Gy h0 (.lst [])
 have hA1:Gf (Gw H1 l0 (.lst [])) a ts:=hA.mono (s1.trans s0)
 have na:l0≠a:=λz=>by
  obtain⟨vs,eA,_⟩:=hA.mono s1
  rw[z,eA]at h0
  cases h0
 refine⟨_,rfl,?_⟩
 refine⟨sU n b a ts H,⟨53,[],[],ts,l0,a,none,none,rfl,LN.start hC hE hD n1 n4,rfl,rfl,⟨[],Gu,.nil⟩,hA1,na,s1.free h0,s1.trans s0⟩,?_⟩
 rintro m σ H3 ⟨ps,T,L,lT,lL,c4,c5,rfl,hB,hR,rfl,hT,hL,nTL,fT,sH⟩
 refine⟨_,rfl,JN,λe0 h3=>?_⟩
 have s3:=Gy h3 (.lst [])
 refine⟨lL,e0,L,[],rfl,rfl,hL.mono s3,⟨[],Gu,.nil⟩,_,rfl,?_⟩
 have hT3:=hT.mono s3
 have hL3:=hL.mono s3
 have sH3:=sH.trans s3
 generalize Gw H3 e0 (.lst [])=G at *
 cases L with
 |nil =>
  rw[KZ]
  refine J4 ?_
  refine⟨_,rfl,lT,T,rfl,hT3,λ_ _=>trivial,λp vs l' hp pm so it=>?_⟩
  obtain⟨e1,e2⟩:=lM hB hR n1 n4 pm so
  rw[e1]at it
  exact q p _ (sH3.free hp) (sH3.trans (Gy hp _)) ⟨vs,Gu,Hs.mono (T4 hp _) it⟩ e2
 |cons t r =>
  rw[show JL (Dat.eqb (α:=Gi)) (t::r) []=false from rfl]
  refine JP ⟨λσ' H'=>∃m',m'<53-T.length/\sU n b a ts H m' σ' H',λ_ _ z=>z,?_⟩
  have ht:=AJ (a:=t) (l:=r)
  have hl:=hB.lead
  obtain⟨⟨⟨⟨_,_⟩,_⟩,mx⟩,rB⟩:=QR n1 n4 hl
  have bs:=hB.step n1 n4
  have few':=bs.few' n1 n4
  rw[AI,BA]at few'
  obtain⟨_,_,dgE,lnE⟩:=Sb n1 n4 hl
  obtain⟨vsL,eL,iL⟩:=id hL3
  obtain⟨vsT,eT,iT⟩:=hT3
  have lT':=AL iT
  have lL':=AL iL
  obtain⟨u,hu,hi⟩:=Ib iL (AT (show 0<vsL.length by rw[lL',Aj];lia))
  cases hu
  obtain⟨p0,k0,ev,hp0,hk0⟩:=JO hi
  have at0:J6 vsL (0:Int)=some (.ref p0):=KH (j:=0) (by rw[AT (show 0<vsL.length by rw[lL',Aj];lia),ev])
  refine⟨_,rfl,lL,_,_,.ref p0,rfl,rfl,HJ.of eL,at0,p0,_,_,.ref k0,rfl,rfl,HK.of hp0,KH (j:=0) rfl,k0,t.1,rfl,hk0,by rw[hB.deg.len t ht];lia,hB.deg.nn t ht,mx,λtr H4 s4 h4=>?_⟩
  refine⟨_,rfl,lL,_,_,.ref p0,rfl,rfl,HJ.of (s4 _ _ eL),at0,p0,_,_,.int t.2,rfl,rfl,HK.of (s4 _ _ hp0),KH (j:=1) rfl,?_⟩
  have eT4:=s4 _ _ eT
  refine⟨_,rfl,.inl ⟨rfl,_,HJ.of eT4⟩,_,rfl,_,rfl,Hr,λpr h5=>?_⟩
  have s5:=Gy h5 (.tup [.ref tr,.int t.2])
  have eT5:=s5 _ _ eT4
  have hP:Gw H4 pr (.tup [.ref tr,.int t.2]) pr=some (.tup [.ref tr,.int t.2]):=Gu
  have z5:=s4.trans s5
  have h45:=s5 _ _ h4
  refine⟨lT,vsT,_,rfl,rfl,eT5,KU (by lia),?_⟩
  generalize Gw H4 pr (.tup [.ref tr,.int t.2])=G5 at *
  have t5:∀o,HX G5 (Gw G5 lT o):=λo=>Km eT5 o
  have hT6:Gf (Gw G5 lT (.lst (vsT++[.ref pr]))) lT (T++[(Ig t.1,t.2)]):=⟨_,Gu,DH (Hs.mono ((HX.same z5).trans (t5 _)) iT) (Dat.mono (t5 _) (JB (t:=(Ig t.1,t.2)) hP h45))⟩
  have hL6:Gf (Gw G5 lT (.lst (vsT++[.ref pr]))) lL (t::r):=⟨vsL,by rw[Hf (λz=>nTL z.symm)];exact z5 _ _ eL,Hs.mono ((HX.same z5).trans (t5 _)) iL⟩
  have htr:Gw G5 lT (.lst (vsT++[.ref pr])) tr=some (.tup ((Ig t.1).map V.int)):=t5 _ _ _ h45
  have sH6:Gh H (Gw G5 lT (.lst (vsT++[.ref pr]))):=L9 fT (sH3.trans z5) _
  generalize Gw G5 lT (.lst (vsT++[.ref pr]))=G6 at *
  refine⟨_,rfl,_,rfl,_,rfl,n,tr,Ig t.1,rfl,n1,n4,htr,rB,λlE H7 h7 s7 hE7=>?_⟩
  change Gf H7 lE (Kr n t.1) at hE7
  obtain⟨vsE,eE,iE⟩:=hE7
  have lE':=AL iE
  refine⟨lE,rfl,⟨_,HJ.of eE⟩,λbk D hD'=>?_⟩
  refine KL (α:=Gi) hD' (HJ.of eE) (λσ=>∃c d,σ=[c,d,some (.int t.2)]) (λi=>((Kr n t.1)[i]?).bind λu=>some (u.1,t.2*u.2)) (small (by lia)) ?_ ?_ ?_
  ·exact⟨_,_,rfl⟩
  ·rintro i x σ H8 Yes No hx ⟨c,d,rfl⟩ s8 yes no
   obtain⟨u,hu,hi⟩:=Ib iE hx
   obtain⟨pu,ku,rfl,hpu,hku⟩:=JO hi
   refine⟨pu,_,rfl,HK.of (s8 _ _ hpu),rfl,_,_,rfl,_,_,rfl,rfl,?_⟩
   refine Kj ?_
   refine⟨_,rfl,_,rfl,_,rfl,_,_,rfl,rfl,⟨Jb (hB.deg.num t ht) (by lia),Jb (dgE.num u (Aa hu)) (by lia)⟩,Hr,λp9 h9=>?_⟩
   have s9:=Gy h9 (.tup [.ref ku,.int (t.2*u.2)])
   exact yes _ _ _ (u.1,t.2*u.2) ⟨_,_,rfl⟩ s9 (by rw[hu];rfl) (JB (t:=(u.1,t.2*u.2)) Gu (s9 _ _ (s8 _ _ hku)))
  rintro H8 s8 hS8
  rw[lE',Jg,Au]at hS8
  change Gf H8 D (scl t.2 (Kr n t.1)) at hS8
  have ne:∀{u:Gi},u.1.length=n->u.1≠[]:=λ{u} h e=>by
   rw[e]at h
   simp at h
   lia
  refine⟨lL,D,t::r,scl t.2 (Kr n t.1),rfl,hL6.mono (s7.trans s8),hS8,λu hu=>ne (hB.deg.len u hu),λu hu=>?_,?_,λl9 H9 h9 s9 hL9=>?_⟩
  ·obtain⟨v,hv,rfl⟩:=AY.mp hu
   exact ne (dgE.len v hv)
  ·have:=hB.few
   rw[ND]
   lia
  have z9:=s7.trans (s8.trans s9)
  have hT9:=hT6.mono z9
  refine⟨53-(T.length+1),by lia,ps++[t.1],T++[(Ig t.1,t.2)],_,lT,l9,_,_,?_,bs,?_,rfl,hT9,hL9,λz=>?_,fT,sH6.trans z9⟩
  ·rw[AI,BA]
  ·rw[<-hR,AI,BA,show 53-T.length=(53-(T.length+1))+1 by lia]
   rfl
  ·obtain⟨ws,ew,_⟩:=hT6.mono (s7.trans s8)
   rw[z]at ew
   rw[ew]at h9
   cases h9
end
section
variable{P:wP}{w:wQ}{K:wL}{mg:Str->wI}{base:Heap}{f g:wO}{fd gd:wR}
noncomputable def eK(n:Nat)(k:Int)(j:Nat):wB:=(List.range n).map λi=>if i=j then k else 0
def vY(n k:Nat):List Gi:=(List.range n).map λj=>(eK n (k:Int) j,1)
noncomputable def vK(n:Nat)(F:Pw->Int)(T:List Gi):Int:=sm (λr=>sm F (J3 (vY n) n (r.map Int.toNat))) T
theorem cZ:∀n∈[1,2,3,4],(Il (JH n) n).all O7=true:=by decide +kernel
noncomputable def Wl(n:Nat):List wB:=(fl n).map Ig
def Nu(L:Nat)(r:wB):wB:=r++List.replicate (L-r.length) 0
theorem nJ:∀n∈[1,2,3,4],(Wl n).all (λr=>(List.range 9).all λL=>decide (L<r.length)||(OO (Il (JH n) n) (Nu L r)&&(Jj (Il (JH n) n) (Nu L r)).all λt=>(Wl n).contains t.1))=true:=by decide +kernel
theorem RX{n L:Nat}(n1:1<=n)(n4:n<=4){r:wB}(h:r∈Wl n)(hL:L<=8)(hr:r.length<=L):OO (Il (JH n) n) (Nu L r)=true/\∀t∈Jj (Il (JH n) n) (Nu L r),t.1∈Wl n:=by
 have:=AZ.mp (AZ.mp (nJ n (K0 n1 n4)) r h) L (At.mpr (by lia))
 rw[AO (by lia),Gm,AK,AZ]at this
 exact⟨this.1,λt ht=>F0.mp (this.2 t ht)⟩
noncomputable def Ju(T:List Gi):Nat:=T.foldl (λm t=>max m t.1.length) 0
theorem Q9(T:List Gi):∀t∈T,t.1.length<=Ju T:=by
 have key:∀(T:List Gi)(a:Nat),a<=T.foldl (λm t=>max m t.1.length) a/\∀t∈T,t.1.length<=T.foldl (λm t=>max m t.1.length) a:=by
  intro T
  induction T with
  |nil=>intro a;exact⟨AG _,λt ht=>by simp at ht⟩
  |cons u T ih =>
   intro a
   obtain⟨h1,h2⟩:=ih (max a u.1.length)
   rw[Bm]
   refine⟨by lia,λt ht=>?_⟩
   rcases AN.mp ht with rfl|ht
   ·lia
   ·exact h2 t ht
 exact(key T 0).2
noncomputable def NW(L:Nat)(T:List Gi):List Gi:=T.map λt=>(Nu L t.1,t.2)
noncomputable def Np(n L:Nat)(T:List Gi):List Gi:=norm ((NW L T).flatMap (L5 (Il (JH n) n)))
structure uE(n b L:Nat)(all U:List Gi):Prop where
 row:∀t∈U,NO n t.1=true/\IN t.1=true
 can:HU U
 sum:∀F,vK n F U=JH n^L*sm F all
 few:U.length<=53
 bits:∀t∈U,t.2.natAbs<2^(b+10700)
theorem ZD{n:Nat}{r:wB}(h:NO n r=true):r.length<=8/\∀k∈r,1<=k/\k<=(n:Int):=by
 unfold NO at h
 rw[AK,AK,AZ,AV]at h
 refine⟨h.2,λk hk=>?_⟩
 have:=h.1.1 k hk
 rw[AK,AV,AV]at this
 exact this
end
section
variable{P:wP}{w:wQ}{K:wL}{mg:Str->wI}{base:Heap}{f g:wO}{fd gd:wR}
noncomputable def uD(n k:Nat):List Gi:=(up 9 (k:Int) (k:Int) (n:Int)).flatMap (LZ n)
theorem W0:∀n∈[1,2,3,4],((fl n).map Ig).all (λr=>OO (JG n) r&&(Jj (JG n) r).all λt=>((fl n).map Ig).contains t.1)=true:=by decide +kernel
theorem oU:∀n∈[1,2,3,4],(JG n).all O7=true:=by decide +kernel
def PV(n:Nat)(ts:List Gi):List Gi:=norm ((IL n ts).flatMap (L5 (JG n)))
structure vP(n b:Nat)(all T:List Gi):Prop where
 row:∀t∈T,NO n t.1=true/\IN t.1=true
 can:HU T
 sum:∀F,sm F all=(T.map λt=>t.2*sm F (J3 (uD n) n (t.1.map Int.toNat))).sum
 few:T.length<=53
 bits:∀t∈T,t.2.natAbs<2^(b+10700)
theorem Q8{n:Nat}(n1:1<=n)(n4:n<=4){r:wB}(h:r∈(fl n).map Ig):OO (JG n) r=true/\∀t∈Jj (JG n) r,t.1∈(fl n).map Ig:=by
 have:=AZ.mp (W0 n (K0 n1 n4)) r h
 rw[AK,AZ]at this
 exact⟨this.1,λt ht=>F0.mp (this.2 t ht)⟩
end
section
variable{P:wP}{w:wQ}{K:wL}{mg:Str->wI}{base:Heap}{f g:wO}{fd gd:wR}
noncomputable def L3(n:Nat)(fs:List (List Gi)):List Gi:=fs.foldl (λacc f=>norm (prd acc f)) [(List.replicate n 0,1)]
theorem Z9(n:Nat)(fs:List (List Gi))(f:List Gi):L3 n (fs++[f])=norm (prd (L3 n fs) f):=by
 unfold L3
 rw[Bv]
 rfl
def SY:Sp:=λvs H Q _=>∃(n:Nat)(a:wO)(xs:wH)(fs:List (List Gi)),vs=[.int n,.ref a]/\1<=n/\n<=4/\H a=some (.lst (xs.map V.ref))/\Paired (λx f=>Gf H x f) xs fs/\(∀i f,fs[i]?=some f->Deg n 100 1000 (L3 n (fs.take i))/\Deg n 100 1000 f/\(L3 n (fs.take i)).length*f.length<=40000) /\
 ∀(l:wO)(H':Hp),H l=none->Gh H H'->Gf H' l (L3 n fs)->Q (.ref l) H'
theorem aZ(F:Hi K "product" "product" Vk f fd)(GM:Hl P w K mg base 3 "multiplied" ["one", "other"] Md):Gx P w K mg base Ho 4 f fd ["many", "factors"] SY:=by
 refine IJ F J0 λHQ A outer s H vs Q E hr h=>?_
 obtain⟨n,a,xs,fs,rfl,n1,n4,ha,hx,hb,q⟩:=h
 refine⟨_,HP (Hj (i:=2) J0.nd rfl (Or.inl rfl) (IC (Ge (Hd (Ge (HV OV (Hd (Ge HM Gk)) (pv 0)) (Ge HM Gk))) Gk)))
  (HP (Ii Ar rfl (IW (pv 1)) (HW (i:=3) J0.nd rfl (Or.inl rfl)) (HL (Hj (i:=2) J0.nd rfl (Or.inl rfl) (Hm GM hr rfl (Ge (pv 2) (Ge (pv 3) Gk))))))
  (HL (Hk (pv 2)))),?_⟩
 have lx:=AL hx
 refine⟨IH,λt0 h0=>?_⟩
 have s0:=Gy h0 (.tup [.int 0])
 refine⟨_,rfl,t0,[0],_,rfl,rfl,Gu,by simp,by lia,by lia,small (by show 1*_<=100000;lia),λt1 H1 s1 h1=>?_⟩
 rw[P0,Af]at h1
 refine⟨Hr,λt2 h2=>⟨IH,λl0 h3=>?_⟩⟩
 have s2:=Gy h2 (.tup [.ref t1,.int 1])
 have s3:=Gy h3 (.lst [.ref t2])
 have sA:=s0.trans (s1.trans (s2.trans s3))
 refine⟨_,rfl,a,rfl,⟨_,HJ.of (sA _ _ ha)⟩,?_⟩
 refine Jd (xs:=xs.map V.ref) (λi σ H'=>(∃(l:wO)(c3:Option V),σ=[some (.int n),some (.ref a),some (.ref l),c3]/\Gf H' l (L3 n (fs.take i))/\H l=none)/\Gh H H') ?_ ?_ ?_ ?_
 ·refine⟨⟨l0,_,rfl,⟨[.ref t2],Gu,.cons (JB (t:=(List.replicate n 0,1)) (s3 _ _ Gu) (s3 _ _ (s2 _ _ h1))) .nil⟩,s0.free (s1.free (s2.free h3))⟩,sA⟩
 ·rintro i σ H4 _ ⟨_,sH⟩
  exact HJ.of (sH _ _ ha)
 ·rintro i v σ H4 hv ⟨⟨l,c3,rfl,hL,fl⟩,sH⟩
  obtain⟨x,hxi,rfl⟩:∃x,xs[i]?=some x/\V.ref x=v:=by
   rw[Al]at hv
   cases e:xs[i]? with
   |none=>rw[e]at hv;cases hv
   |some y=>rw[e]at hv;exact⟨y,rfl,Ap hv⟩
  obtain⟨k,hk,hLx⟩:=Paired.get hx hxi
  obtain⟨b1,b2,b3⟩:=hb i k hk
  refine⟨_,rfl,_,rfl,l,x,n,_,_,_,_,_,_,rfl,hL,hLx.mono sH,b1,b2,n1,n4,by decide,by decide,b3,λl5 H5 hl5 s5 h5=>?_⟩
  refine⟨⟨l5,_,rfl,?_,sH.free hl5⟩,sH.trans s5⟩
  rw[JK hk,Z9]
  exact h5
 ·rintro σ H4 ⟨⟨l,c3,rfl,hL,fl⟩,sH⟩
  rw[AB,AW (by lia)]at hL
  exact⟨_,rfl,q l H4 fl sH hL⟩
end
section
variable{P:wP}{w:wQ}{K:wL}{mg:Str->wI}{base:Heap}{f g:wO}{fd gd:wR}
theorem Yw{α:Type}[Dat α]{K:wL}{k1:SK}{a:wO}{xs:List V}{σ0:St}{H1:Hp}{D:wO}{R:Hp->Prop}{g:TG}{tc:TT}{te:TE}(hD:H1 D=none)(hl:k1.is K H1 a xs)(Sp:St->Prop)(out:Nat->Option α)(hn:xs.length<=sizeLine)(h0:Sp σ0)
  (IF:∀(i:Nat)(x:V)(p:wO)(σ':St)(H':Hp)(Yes:V->St->Hp->Prop)(No:St->Hp->Prop),xs[i]?=some x->H' p=none->Sp σ'->Gh H1 H'->(∀y σ2 H4 a,Sp σ2->Gh H' H4->out i=some a->Dat.is H4 y a->Yes y σ2 H4)->(∀σ2 H3,Sp σ2->Gh H' H3->out i=none->No σ2 H3) ->
   g (.ref p) σ' (Gw H' p (.tup [.int i,x])) λσ2 H2=>tc σ2 H2 λok H3=>if ok=true then te σ2 H3 λy H4=>Yes y σ2 H4 else No σ2 H3)
  (hend:∀H',Gh H1 H'->Gf H' D ((List.range xs.length).filterMap out)->R H') :
  ∃W:Nat->Nat->St->Hp->Prop,(∃m,W 0 m σ0 (Gw H1 D (.lst [])))/\∀i m σ' H',W i m σ' H' ->
  ((Nc K k1 a).stop i H'/\R H')∨((Nc K k1 a).go i H'/\∃N:St->Hp->Prop,(∀σ'' H'',N σ'' H''->∃m',m'<m/\W (i+1) m' σ'' H'') /\
   ∀x H'',(Nc K k1 a).yld i H' x H''->g x σ' H'' λσ2 H2=>tc σ2 H2 λok H3=>if ok=true then te σ2 H3 λy H4=>∃ys,H4 D=some (.lst ys)/\ys.length<sizeLine/\N σ2 (Gw H4 D (.lst (ys++[y]))) else N σ2 H3):=by
 refine P4 (Q:=λ_ H=>R H) (n:=xs.length) hD Sp out hn h0 (λH' e=>⟨xs,SK.same e hl,AG _⟩) (λi H' hi e=>⟨xs,xs[i],SK.same e hl,AT hi⟩) (λi σ' H' Yes No hi hS hH hy hn x H'' y=>?_) hend
 obtain⟨p,x,rfl,hp,rfl,hx⟩:=y
 exact IF i x p σ' H' Yes No (hx xs (SK.same hH hl)) hp hS hH hy hn
theorem dW:Gj ["powers"] ["powers"] (HS W7):=Hx
def Jf(r:wB):Bool:=JL (Dat.eqb (α:=Int)) r (Iu r)
theorem Wv(r:wB):Jf r=true↔r=Iu r:=QO Dat.eqb_iff _ _
def N6:Sp:=λvs H Q _=>∃(p:wO)(r:wB),vs=[.ref p]/\H p=some (.tup (r.map V.int))/\∀H',Gh H H'->Q (.bl (Jf r)) H'
theorem kX(F:Hi K "falls" "falls" W7 f fd)(mt:mg "tuple" = none)(ms:mg "sorted" = none):Gx P w K mg base Ho 2 f fd ["powers"] N6:=by
 refine IJ F dW λHQ A outer s H vs Q E hr h=>?_
 obtain⟨p,r,rfl,hp,q⟩:=h
 have hI:=BD (Bt (by decide:Dat.dep Int+1<=64) _) hr.units
 have h8:=QN hr
 refine⟨_,HL (Hk (QS (PZ (α:=Int) hI) (pv 0) (NN N2 rfl mt B1 (Ge (sG rfl h8 rfl ms (Ge (pv 0) Gk)) Gk)) (IE _))),?_⟩
 refine⟨_,rfl,_,rfl,p,r,rfl,HK.of hp,λp4 m h4 pm so=>?_⟩
 rw[Rk pm so]
 have s4:=Gy h4 (.lst ((Iu r).map V.int))
 refine⟨p4,_,rfl,.inl ⟨HJ.of Gu,λt5 h5=>?_⟩⟩
 have s5:=Gy h5 (.tup ((Iu r).map V.int))
 exact⟨r,Iu r,Js (s5 _ _ (s4 _ _ hp)),Js Gu,q _ (s4.trans s5)⟩
abbrev tJ:wG:=["power"]
theorem gW:tJ.Nodup:=by decide +kernel
theorem eQ:Gj ["powers"] ["powers"] (HS Vo):=Hx
noncomputable def Iz(r:wB):wB:=r.filter λx=>decide (0<x)
def O3:Sp:=λvs H Q _=>∃(p:wO)(r:wB),vs=[.ref p]/\H p=some (.tup (r.map V.int))/\r.length<=1000/\∀(t:wO)(H':Hp),Gh H H'->H' t=some (.tup ((Iz r).map V.int))->Q (.ref t) H'
theorem gJ(F:Hi K "row_of" "row_of" Vo f fd)(mt:mg "tuple" = none):Gx P w K mg base Ho 2 f fd ["powers"] O3:=by
 refine IJ F eQ λHQ A outer s H vs Q E hr h=>?_
 obtain⟨p,r,rfl,hp,hl,q⟩:=h
 refine⟨_,HL (Hk (NN N2 rfl mt B1 (Ge (Iy (N':=tJ) (src:=[none]) rfl (US (pv 0)) (Ir (HS Vo) ["powers"] (by decide +kernel))
   (λb=>HW (i:=0) gW rfl (Or.inl rfl)) (λb=>PP (II PM (pv 0) HM (IE _))) (λb=>pv 0)) Gk))),?_⟩
 refine⟨_,rfl,p,rfl,⟨_,HK.of hp⟩,λbk D hD=>?_⟩
 refine nH (α:=Int) hD (HK.of hp) (λσ=>∃c,σ=[c]) (λi=>(r[i]?).bind λx=>if 0<x then some x else none) (small (by rw[AB];lia)) ⟨_,rfl⟩ ?_ ?_
 ·rintro i v σ H2 Yes No hv ⟨c,rfl⟩ s3 yes no
  obtain⟨x,hx,rfl⟩:∃x,r[i]?=some x/\V.int x=v:=by
   rw[Al]at hv
   cases e:r[i]? with
   |none=>rw[e]at hv;cases hv
   |some y=>rw[e]at hv;exact⟨y,rfl,Ap hv⟩
  refine⟨_,rfl,_,_,rfl,rfl,_,rfl,?_⟩
  by_cases c0:0<x
  ·exact Jq c0 ⟨_,rfl,yes _ _ _ x ⟨_,rfl⟩ (Gh.refl _) (by rw[hx];exact AF c0) rfl⟩
  ·exact JV c0 (no _ _ ⟨_,rfl⟩ (Gh.refl _) (by rw[hx];exact AD c0))
 rintro H1 s1 ⟨ws,eD,iD⟩
 have e0:(List.range (r.map V.int).length).filterMap (λi=>(r[i]?).bind λx=>if 0<x then some x else none)=Iz r:=by
  unfold Iz
  rw[AB,Jg,Tc]
  exact HG _
 rw[NP iD,e0]at eD
 refine⟨D,_,rfl,.inl ⟨HJ.of eD,λt ht=>?_⟩⟩
 exact q t _ (s1.trans (Gy ht _)) Gu
theorem nN:Gj ["many", "place"] ["many", "place"] (HS YX):=Hx
noncomputable def RN(n k:Nat):wB:=List.replicate k 0++[1]++List.replicate (n-k-1) 0
def Ua:Sp:=λvs H Q _=>∃(n k:Nat),vs=[.int n,.int k]/\k<n/\n<=4/\∀(t:wO)(H':Hp),Gh H H'->H' t=some (.tup ((RN n k).map V.int))->Q (.ref t) H'
theorem Xs(F:Hi K "unknown_alone" "unknown_alone" YX f fd):Gx P w K mg base Ho 2 f fd ["many", "place"] Ua:=by
 refine IJ F nN λHQ A outer s H vs Q E hr h=>?_
 obtain⟨n,k,rfl,hk,n4,q⟩:=h
 refine⟨_,HL (Hk (HV LM (HV LM (HV OV (Hd (Ge HM Gk)) (pv 1)) (Hd (Ge HM Gk))) (HV OV (Hd (Ge HM Gk)) (HV LO (HV LO (pv 0) (pv 1)) HM)))),?_⟩
 refine⟨IH,λt0 h0=>?_⟩
 have s0:=Gy h0 (.tup [.int 0])
 refine⟨_,rfl,t0,[0],_,rfl,rfl,Gu,by simp,by lia,by lia,small (by show 1*_<=100000;lia),λt1 H1 s1 h1=>?_⟩
 rw[P0,Af]at h1
 refine⟨IH,λt2 h2=>?_⟩
 have s2:=Gy h2 (.tup [.int 1])
 refine Kp (r:=List.replicate k 0) (r':=[1]) (s2 _ _ h1) Gu (small (by rw[A0];show k+1<=100000;lia)) λt3 H3 s3 h3=>?_
 refine⟨IH,λt4 h4=>?_⟩
 have s4:=Gy h4 (.tup [.int 0])
 refine⟨_,rfl,_,rfl,_,_,rfl,rfl,_,_,rfl,rfl,t4,[0],_,rfl,rfl,Gu,by simp,by lia,by lia,small (by show 1*_<=100000;lia),λt5 H5 s5 h5=>?_⟩
 rw[P0,show((n:Int)-(k:Int)-1).toNat=n-k-1 by lia]at h5
 refine Kp (r:=List.replicate k 0++[1]) (r':=List.replicate (n-k-1) 0) (s5 _ _ (s4 _ _ h3)) h5 (small (by rw[AI,A0,A0];show k+1+_<=100000;lia)) λt6 H6 s6 h6=>?_
 exact q t6 H6 (s0.trans (s1.trans (s2.trans (s3.trans (s4.trans (s5.trans s6)))))) h6
noncomputable def VQ(n l e:Nat):List Gi:=[(RN n e,1),(RN n l,-1)]
noncomputable def OG(n l:Nat):List (List Gi):=(List.range l).map (VQ n l)
noncomputable def OD(n:Nat):List (List Gi):=(List.range n).flatMap (OG n)
def Lx(n:Nat):List Gi:=L3 n (OD n)
noncomputable def Lg(n d b:Nat)(ts:List Gi):Bool:=ts.all λt=>decide (t.1.length=n)&&t.1.all (λx=>decide (0<=x))&&decide (t.1.sum<=(d:Int))&&decide (t.2.natAbs<2^b)
theorem kQ{n d b:Nat}{ts:List Gi}(h:Lg n d b ts=true):Deg n d b ts:=by
 unfold Lg at h
 rw[AZ]at h
 have k:∀t∈ts,((t.1.length=n/\∀x∈t.1,0<=x)/\t.1.sum<=(d:Int))/\t.2.natAbs<2^b:=λt ht=>by
  have:=h t ht
  rw[AK,AK,AK,AV,AV,AV,AZ]at this
  exact⟨⟨⟨this.1.1.1,λx hx=>BB (this.1.1.2 x hx)⟩,this.1.2⟩,this.2⟩
 exact⟨λt ht=>(k t ht).1.1.1,λt ht=>(k t ht).1.1.2,λt ht=>(k t ht).1.2,λt ht=>(k t ht).2⟩
theorem TF:∀n∈[1,2,3,4],((List.range (OD n).length).all (λi=>Lg n 6 10 (L3 n ((OD n).take i))&&Lg n 1 1 ((OD n).getD i [])&&decide ((L3 n ((OD n).take i)).length*((OD n).getD i []).length<=100))&&Lg n 6 10 (Lx n)&&decide ((Lx n).length<=24))=true:=by decide +kernel
noncomputable abbrev uT:wG:=["many", "factors", "later", "earlier"]
theorem Ml:Gj uT ["many"] (HS Xa):=Hx
def QY:Sp:=λvs H Q _=>∃n:Nat,vs=[.int n]/\n∈[1,2,3,4]/\∀(l:wO)(H':Hp),H l=none->Gh H H'->Gf H' l (Lx n)->Q (.ref l) H'
theorem nT(F:Hi K "differences" "differences" Xa f fd)(GU:Hl P w K mg base 4 "unknown_alone" ["many", "place"] Ua)(GP:Hl P w K mg base 4 "product" ["many", "factors"] SY)(mr:mg "range" = none):Gx P w K mg base Ho 5 f fd ["many"] QY:=by
 refine IJ F Ml λHQ A outer s H vs Q E hr h=>?_
 obtain⟨n,rfl,hn,q⟩:=h
 have n14:1<=n/\n<=4:=by
  simp at hn
  lia
 obtain⟨n1,n4⟩:=n14
 refine⟨_,HP (Hj (i:=1) Ml.nd rfl (Or.inl rfl) (IC Gk))
  (HP (Ii Ar rfl (Nh rfl mr (Ge (pv 0) Gk)) (HW (i:=2) Ml.nd rfl (Or.inl rfl))
   (HL (Ii Ar rfl (Nh rfl mr (Ge (pv 2) Gk)) (HW (i:=3) Ml.nd rfl (Or.inl rfl))
    (HL (Iq (LQ BE BN BO Lj (pv 1) (Ge (IC (Ge (Hd (Ge (Hm GU hr rfl (Ge (pv 0) (Ge (pv 3) Gk))) (Ge HM Gk))) (Ge (Hd (Ge (Hm GU hr rfl (Ge (pv 0) (Ge (pv 2) Gk))) (Ge (OY OR HM) Gk))) Gk))) Gk)))))))
  (HL (Hk (Hm GP hr rfl (Ge (pv 0) (Ge (pv 1) Gk)))))),?_⟩
 refine⟨JN,λp hp=>?_⟩
 have s0:=Gy hp (.lst [])
 refine⟨_,rfl,(n:Int),rfl,by lia,by lia,?_⟩
 rw[Af]
 refine Ni (lo:=0) (n:=n) (λi σ H'=>∃(xs:wH)(c2 c3:Option V),σ=[some (.int n),some (.ref p),c2,c3]/\H' p=some (.lst (xs.map V.ref))/\Paired (λx f=>x≠p/\Gf H' x f) xs ((List.range i).flatMap (OG n))/\xs.length<=4*i/\Gh H H') ?_ ?_ ?_
 ·exact⟨[],_,_,rfl,Gu,.nil,by simp,s0⟩
 ·rintro i σ H1 hi ⟨xs,c2,c3,rfl,h1,hP,lx,s1⟩
  rw[Dr]
  refine⟨_,rfl,(i:Int),rfl,by lia,by lia,?_⟩
  rw[Af,Bo,Be,BW]
  generalize (List.range i).flatMap (OG n)=pre at hP
  refine Ni (lo:=0) (n:=i) (λj σ H'=>∃(xs:wH)(c3:Option V),σ=[some (.int n),some (.ref p),some (.int (i:Int)),c3]/\H' p=some (.lst (xs.map V.ref))/\Paired (λx f=>x≠p/\Gf H' x f) xs (pre++(List.range j).map (VQ n i))/\xs.length<=4*i+j/\Gh H H') ?_ ?_ ?_
  ·exact⟨xs,_,rfl,h1,by rw[List.range_zero,DN,BM];exact hP,by lia,s1⟩
  ·rintro j σ H2 hj ⟨ys,c3',rfl,h2,hQ,ly,s2⟩
   rw[Dr]
   refine⟨_,rfl,.inl ⟨rfl,_,HJ.of h2⟩,_,rfl,_,rfl,n,j,rfl,by lia,n4,λt3 H3 s3 h3=>?_⟩
   refine⟨Hr,λt4 h4=>?_⟩
   have s4:=Gy h4 (.tup [.ref t3,.int 1])
   refine⟨_,rfl,_,rfl,n,i,rfl,hi,n4,λt5 H5 s5 h5=>?_⟩
   refine⟨_,rfl,Hr,λt6 h6=>⟨Hr,λl7 h7=>?_⟩⟩
   have s6:=Gy h6 (.tup [.ref t5,.int (-1)])
   have s7:=Gy h7 (.lst [.ref t4,.ref t6])
   have z:=s3.trans (s4.trans (s5.trans (s6.trans s7)))
   have h2z:=z _ _ h2
   have n7:l7≠p:=λe=>by
    have:=s6 _ _ (s5 _ _ (s4 _ _ (s3 _ _ h2)))
    rw[e,this]at h7
    cases h7
   have keep:∀{x:wO}{f:List Gi}{G:Hp}{us:List V}(o:HO),x≠p->G p=some (.lst us)->Gf G x f->Gf (Gw G p o) x f:=λ{x f G us} o nx hG ⟨ws,ew,iw⟩=>⟨ws,by rw[Hf nx];exact ew,Hs.mono (λq ys' e'=>by rw[Hf (Ku e' hG (by intro z;cases z))];exact e') iw⟩
   refine⟨p,_,_,rfl,rfl,h2z,KU (by rw[AB];lia),ys++[l7],_,rfl,?_,?_,by rw[AI,BA];lia,L9 hp (s2.trans z) _⟩
   ·rw[Az]
    exact Gu
   ·rw[Bo,Az,<-Ag]
    refine Paired.app (Ch (λx f q=>⟨q.1,keep _ q.1 h2z (q.2.mono z)⟩) hQ) (.cons ⟨n7,keep _ n7 h2z ⟨[.ref t4,.ref t6],Gu,.cons (JB (t:=(RN n j,1)) (s7 _ _ (s6 _ _ (s5 _ _ Gu))) (s7 _ _ (s6 _ _ (s5 _ _ (s4 _ _ h3))))) (.cons (JB (t:=(RN n i,-1)) (s7 _ _ Gu) (s7 _ _ (s6 _ _ h5))) .nil)⟩⟩ .nil)
  ·rintro σ H2 ⟨ys,c3',rfl,h2,hQ,ly,s2⟩
   exact⟨ys,_,_,rfl,h2,hQ,by lia,s2⟩
 ·rintro σ H1 ⟨xs,c2,c3,rfl,h1,hP,lx,s1⟩
  have dk:=TF n hn
  rw[AK,AK,AZ]at dk
  refine⟨_,rfl,_,rfl,n,p,xs,OD n,rfl,n1,n4,h1,Ch (λ_ _ q=>q.2) hP,λi g hg=>?_,λl H2 hl s2 hL=>q l H2 (s1.free hl) (s1.trans s2) hL⟩
  have:=dk.1.1 i (At.mpr (Ae.mp hg).1)
  rw[AK,AK,AV,Ao,hg]at this
  exact⟨(kQ this.1.1).mono (by decide) (by decide),(kQ this.1.2).mono (by decide) (by decide),A9 this.2 (by decide)⟩
end
section
variable{P:wP}{w:wQ}{K:wL}{mg:Str->wI}{base:Heap}{f g:wO}{fd gd:wR}
abbrev qV:wG:=["powers", "number"]
theorem TB:qV.Nodup:=by decide +kernel
theorem mP:Gj Jl Jl (HS WG):=Hx
noncomputable def Lm(t:Gi):Option Gi:=if Jf t.1=true then some (Iz t.1,t.2) else none
noncomputable def Jk(ts:List Gi):List Gi:=ts.filterMap Lm
def Qb(cBC C:wO):Sp:=λvs H Q E=>∃(n:Int)(a:wO)(ts:List Gi),vs=[.int n,.ref a]/\Gf H a ts/\ts.length<=1000/\(¬ (1<=n/\n<=4)->E (.ref cBC) none H) /\
 (1<=n/\n<=4->(∀t∈ts,t.1.length=n.toNat)/\(KW ts (n.toNat-1) none->∀(l:wO)(H':Hp),H l=none->Gh H H'->Gf H' l (Jk ts)->Q (.ref l) H') /\
  ∀k p,KW ts (n.toNat-1) (some (k,p))->∀H' d kk,Gh H H'->H d=none->H' d=some (xD d [("place",.int k),("powers",.ref kk)])->H' kk=some (.tup (p.map V.int))->E (.ref C) (some d) H')
theorem Ya{cBC C:wO}(F:Hi K "by_exchange" "by_exchange" WG f fd)(GR:Hh P w K mg base 7 "refuse_uneven" Jl (MV cBC C))(GF:Hl P w K mg base 7 "falls" ["powers"] N6)(GW:Hl P w K mg base 7 "row_of" ["powers"] O3):Gx P w K mg base (IB P w) 8 f fd Jl (Qb cBC C):=by
 refine Kc F mP λHQ A outer s H vs Q E hr h=>?_
 obtain⟨n,a,ts,rfl,hL,hl,e1,q⟩:=h
 refine⟨_,HP (Iq (Io GR hr rfl Je (Ge (pv 0) (Ge (pv 1) Gk))))
  (HL (Hk (Iy (N':=qV) (src:=[none,none]) rfl (IW (pv 1)) (Ir (HS WG) Jl (by decide +kernel))
   (λb=>Im rfl (Hw (HW (i:=0) TB rfl (Or.inl rfl)) (Hw (HW (i:=1) TB rfl (Or.inl rfl)) Ik)))
   (λb=>PP (Ot (Hm GF hr rfl (Ge (pv 0) Gk))))
   (λb=>Hd (Ge (Hm GW hr rfl (Ge (pv 0) Gk)) (Ge (pv 1) Gk)))))),?_⟩
 refine⟨_,rfl,_,rfl,n,a,ts,rfl,hL,hl,e1,λhn=>?_⟩
 obtain⟨lens,q0,q1⟩:=q hn
 refine⟨lens,λhU H1 s1=>?_,q1⟩
 obtain⟨ws,eB,iB⟩:=hL.mono s1
 have lb:=AL iB
 refine⟨_,rfl,a,rfl,⟨_,HJ.of eB⟩,λbk D hD=>?_⟩
 refine KL (α:=Gi) hD (HJ.of eB) (λσ=>∃c d,σ=[c,d]) (λi=>(ts[i]?).bind Lm) (small (by lia)) ⟨_,_,rfl⟩ ?_ ?_
 ·rintro i x σ H2 Yes No hx ⟨c,d,rfl⟩ s3 yes no
  obtain⟨t,ht,hi⟩:=Ib iB hx
  obtain⟨p,kk,rfl,hp,hkk⟩:=JO hi
  have lt:=lens t (Aa ht)
  refine⟨p,_,rfl,HK.of (s3 _ _ hp),rfl,_,_,rfl,_,_,rfl,rfl,?_⟩
  refine⟨_,rfl,kk,t.1,rfl,s3 _ _ hkk,λH4 s4=>⟨_,rfl,?_⟩⟩
  by_cases cF:Jf t.1=true
  ·rw[cF]
   refine JP ⟨_,rfl,kk,t.1,rfl,s4 _ _ (s3 _ _ hkk),by lia,λt5 H5 s5 h5=>⟨_,rfl,Hr,λp6 h6=>?_⟩⟩
   have s6:=Gy h6 (.tup [.ref t5,.int t.2])
   exact yes _ _ _ (Iz t.1,t.2) ⟨_,_,rfl⟩ (s4.trans (s5.trans s6)) (by rw[ht];exact AF cF) (JB Gu (s6 _ _ h5))
  ·rw[D1.mpr cF]
   exact J4 (no _ _ ⟨_,_,rfl⟩ s4 (by rw[ht];exact AD cF))
 ·rintro H2 s3 h2
  rw[lb,Jg]at h2
  exact q0 hU D H2 (s1.free hD) (s1.trans s3) h2
theorem dR{n:Nat}{r:wB}(h:r.length<=n):∀t∈Ie n r,t.1.length=n:=λt ht=>by
 unfold Ie at ht
 obtain⟨q,hq,rfl⟩:=AY.mp ht
 rw[iN _ _ q hq,AI,A0]
 lia
theorem Ud{n:Nat}{r:wB}(h:r.length<=n)(n4:n<=4):(Ie n r).length<=24:=by
 unfold Ie
 rw[AB]
 have:=WZ 5 (r++List.replicate (n-r.length) 0)
 rw[show(r++List.replicate (n-r.length) (0:Int)).length=n by rw[AI,A0];lia]at this
 have b4:ML n<=24:=by
  have:n=0∨n=1∨n=2∨n=3∨n=4:=by lia
  rcases this with e|e|e|e|e<;>rw[e]<;>decide
 exact A9 this b4
def J9{α:Type}[Dat α](cBC C:wO)(F:Nat->List Gi->List α):Sp:=Jm cBC C λn ts H Q=>∃b,HU ts/\Hc n ts/\Deg n 8 b ts/\b<=1000/\∀(l:wO)(H':Hp),H l=none->Gh H H'->Gf H' l (F n ts)->(F n ts).length<=100000->Q (.ref l) H'
theorem Jm.mono{cBC C:wO}{g1 g2:Nat->List Gi->Hp->VK->Prop}{vs:List V}{H:Hp}{Q Q2:VK}{E E2:XK}(h:Jm cBC C g1 vs H Q E)(hg:∀n ts,g1 n ts H Q->g2 n ts H Q2)(hE:∀c d H',E c d H'->E2 c d H'):Jm cBC C g2 vs H Q2 E2:=by
 obtain⟨n,a,ts,e,hL,hl,e1,q⟩:=h
 exact⟨n,a,ts,e,hL,hl,λz=>hE _ _ _ (e1 z),λz=>⟨(q z).1,λu=>hg _ _ ((q z).2.1 u),λk p u H' d kk x1 x2 x3 x4=>hE _ _ _ ((q z).2.2 k p u H' d kk x1 x2 x3 x4)⟩⟩
theorem Z4{cBC C:wO}{k:Nat}(F:Gx P w K mg base (IB P w) k f fd Jl (Qb cBC C)):Gx P w K mg base (IB P w) k f fd Jl (J9 cBC C λ_ ts=>Jk ts):=Gx.imp F λvs H Q E ⟨n,a,ts,e,hL,hl,e1,q⟩=>⟨n,a,ts,e,hL,hl,e1,λz=>⟨(q z).1,λu l H' h1 h2 h3=>by
  obtain⟨b,_,_,_,_,q⟩:=(q z).2.1 u
  refine q l H' h1 h2 h3 ?_
  have:=Do Lm ts
  show(ts.filterMap Lm).length<=100000
  lia,(q z).2.2⟩⟩
theorem fY{cBC C:wO}{k:Nat}(F:Gx P w K mg base (IB P w) k f fd ["many", "some"] (Mf cBC C)):Gx P w K mg base (IB P w) k f fd ["many", "some"] (J9 cBC C IL):=Gx.imp F λvs H Q E h=>Jm.mono h (λn ts ⟨b,x1,x2,x3,x4,q⟩=>⟨b,x1,x2,x3,x4,λl H' h1 h2 h3 tk=>q l H' h1 h2 h3 (by have:=tk.few;lia)⟩) λ_ _ _ z=>z
end
section
variable{P:wP}{w:wQ}{K:wL}{mg:Str->wI}{base:Heap}{f g:wO}{fd gd:wR}
noncomputable def Jz(n:Nat)(p:wB):wB:=(List.range p.length).map λ(i:Nat)=>p.getD i 0-(n:Int)+1+(i:Int)
noncomputable def Nk(n:Nat)(D:List Gi):List Gi:=(D.filter λt=>Jf (Jz n t.1)).map λt=>(Iz (Jz n t.1),t.2)
theorem gG(n:Nat)(D:List Gi)(t:Gi):Nk n (D++[t])=Nk n D++if Jf (Jz n t.1)=true then [(Iz (Jz n t.1),t.2)] else []:=by
 unfold Nk
 rw[List.filter_append,Az]
 congr 1
 cases c:Jf (Jz n t.1)<;>simp [c]
def OC(n:Nat)(ts:List Gi):List Gi:=Nk n (norm (prd ts (Lx n)))
theorem jL(n:Nat)(p:wB):(List.range (p.map V.int).length).filterMap (λ(i:Nat)=>(p[i]?).bind λx=>some (x-(n:Int)+1+(i:Int)))=Jz n p:=by
 rw[AB]
 unfold Jz
 have key:∀m,m<=p.length->(List.range m).filterMap (λ(i:Nat)=>(p[i]?).bind λx=>some (x-(n:Int)+1+(i:Int)))=(List.range m).map λ(i:Nat)=>p.getD i 0-(n:Int)+1+(i:Int):=by
  intro m
  induction m with
  |zero=>intro _;rfl
  |succ m ih =>
   intro hm
   rw[Bo,DR,Az,ih (by lia)]
   congr 1
   have:p[m]?=some p[m]:=AT (by lia)
   simp [this]
 exact key _ (AG _)
noncomputable abbrev tY:wG:=["many", "some", "telling", "powers", "number", "lowered"]
abbrev rC:wG:=["place", "power", "many"]
theorem S2:rC.Nodup:=by decide +kernel
theorem Ll:Gj tY ["many", "some"] (HS WK):=Hx
def SV(cBC C:wO):Sp:=J9 cBC C OC
theorem eN{cBC C:wO}(F:Hi K "by_fillings" "by_fillings" WK f fd)(GU:Hh P w K mg base 8 "refuse_uneven" Jl (MV cBC C))(GM:Hl P w K mg base 8 "multiplied" ["one", "other"] Md)(GD:Hl P w K mg base 8 "differences" ["many"] QY)(GF:Hl P w K mg base 8 "falls" ["powers"] N6)(GR:Hl P w K mg base 8 "row_of" ["powers"] O3)(mt:mg "tuple" = none)(me:mg "enumerate" = none):Gx P w K mg base (IB P w) 9 f fd Jl (SV cBC C):=by
 refine Kc F Ll λHQ A outer s H vs Q E hr h=>?_
 obtain⟨m,a,ts,rfl,hA,hl,e1,q⟩:=h
 refine⟨_,HP (Iq (Io GU hr rfl Je (Ge (pv 0) (Ge (pv 1) Gk))))
  (HP (Hj (i:=2) Ll.nd rfl (Or.inl rfl) (IC Gk))
  (HP (Ii UD rfl (IW (Hm GM hr rfl (Ge (pv 1) (Ge (Hm GD hr rfl (Ge (pv 0) Gk)) Gk)))) (Im rfl (Hw (HW (i:=3) Ll.nd rfl (Or.inl rfl)) (Hw (HW (i:=4) Ll.nd rfl (Or.inl rfl)) Ik)))
   (HP (Hj (i:=5) Ll.nd rfl (Or.inl rfl) (NN N2 rfl mt B1 (Ge (Iy (N':=rC) (src:=[none,none,some 0]) rfl (RQ .tup rfl me (Ge (pv 3) Gk)) (Ir (HS WK) tY (by decide +kernel))
    (λb=>Im rfl (Hw (HW (i:=0) S2 rfl (Or.inl rfl)) (Hw (HW (i:=1) S2 rfl (Or.inl rfl)) Ik))) (λb=>JX) (λb=>HV Jc (HV Jc (HV LO (pv 1) (pv 2)) HM) (pv 0))) Gk)))
   (HL (IP (Ot (Hm GF hr rfl (Ge (pv 5) Gk))) (HL (Iq (LQ BE BN BO Lj (pv 2) (Ge (Hd (Ge (Hm GR hr rfl (Ge (pv 5) Gk)) (Ge (pv 4) Gk))) Gk)))) IQ))))
  (HL (Hk (pv 2))))),?_⟩
 refine⟨_,rfl,_,rfl,m,a,ts,rfl,hA,hl,e1,λhm=>?_⟩
 obtain⟨lens,q0,q1⟩:=q hm
 refine⟨lens,λhU H1 s1=>?_,q1⟩
 obtain⟨b,_,_,hD,hb,q⟩:=q0 hU
 clear q0 q1 e1 hU
 obtain⟨n,rfl,n1,n4⟩:∃n:Nat,m=n/\1<=n/\n<=4:=⟨m.toNat,by lia,by lia,by lia⟩
 rw[Af]at hD q
 have hn:n∈[1,2,3,4]:=by
  have:n=1∨n=2∨n=3∨n=4:=by lia
  rcases this with rfl|rfl|rfl|rfl<;>simp
 have dk:=TF n hn
 rw[AK,AK,AV]at dk
 have dD:=kQ dk.1.2
 have lD:=dk.2
 refine⟨JN,λlT hT=>?_⟩
 have s2:=Gy hT (.lst [])
 refine⟨_,rfl,_,rfl,n,rfl,hn,λl3 H3 h3 s3 hL3=>?_⟩
 have hm:ts.length*(Lx n).length<=1000*24:=Du hl lD
 refine⟨a,l3,n,8,6,b,10,ts,Lx n,rfl,hA.mono (s1.trans (s2.trans s3)),hL3,hD,dD,n1,n4,by lia,by decide,by lia,λl4 H4 h4 s4 hL4=>?_⟩
 have Ha:∀t∈norm (prd ts (Lx n)),t.1.length=n:=λt ht=>by
  obtain⟨u,hu,e⟩:=LK ht
  rw[<-e]
  exact(hD.prd dD).len u hu
 have few:(norm (prd ts (Lx n))).length<=24000:=by
  have:=MQ (prd ts (Lx n))
  rw[Vy]at this
  lia
 unfold OC at q
 generalize norm (prd ts (Lx n))=W at hL4 Ha few q
 obtain⟨vs,eW,iW⟩:=hL4
 have lv:=AL iW
 have sA:=s1.trans (s2.trans (s3.trans s4))
 have fT:H lT=none:=s1.free hT
 have z34:=s3.trans s4
 have n4T:l4≠lT:=λe=>by
  have:=s3 _ _ (Gu (H:=H1) (a:=lT) (o:=.lst []))
  rw[e,this]at h4
  cases h4
 refine⟨l4,rfl,⟨_,HJ.of eW⟩,?_⟩
 refine Jd (xs:=vs) (λi σ H'=>(∃c3 c4 c5,σ=[some (.int n),some (.ref a),some (.ref lT),c3,c4,c5])/\Gf H' lT (Nk n (W.take i))/\Wa lT H4 H'/\HX H4 H'/\Gh H H') ?_ ?_ ?_ ?_
 ·exact⟨⟨_,_,_,rfl⟩,⟨[],z34 _ _ Gu,.nil⟩,λ_ _ _ e=>e,HX.refl _,sA⟩
 ·rintro i σ H5 _ ⟨_,_,b5,_,_⟩
  exact HJ.of (b5 _ _ n4T eW)
 ·rintro i v σ H5 hv ⟨⟨c3,c4,c5,rfl⟩,hL5,b5,t5,s5⟩
  obtain⟨t,ht,hi⟩:=Ib iW hv
  obtain⟨p,kk,rfl,hp,hkk⟩:=JO hi
  have li:i<W.length:=(Ae.mp ht).1
  have tl:=Ha t (Aa ht)
  have hk5:=t5 _ _ hkk
  obtain⟨us,eU,iU⟩:=id hL5
  have lu:=AL iU
  have lu2:(Nk n (W.take i)).length<=i:=by
   unfold Nk
   rw[AB]
   have:=GI (λt:Gi=>Jf (Jz n t.1)) (W.take i)
   rw[Ah]at this
   lia
  refine⟨p,_,rfl,HK.of (t5 _ _ hp),rfl,_,_,rfl,_,_,rfl,rfl,?_⟩
  refine⟨_,rfl,kk,rfl,⟨_,HK.of hk5⟩,λbk D hD'=>?_⟩
  refine Yw (α:=Int) (k1:=.tup) (xs:=t.1.map V.int) hD' (HK.of hk5) (λσ=>∃c d,σ=[c,d,some (.int n)]) (λi=>(t.1[i]?).bind λx=>some (x-(n:Int)+1+(i:Int))) (small (by rw[AB];lia)) ?_ ?_ ?_
  ·exact⟨_,_,rfl⟩
  ·rintro i v p2 σ H6 Yes No hv hp2 ⟨c,d,rfl⟩ s6 yes no
   obtain⟨x,hx,rfl⟩:∃x,t.1[i]?=some x/\V.int x=v:=by
    rw[Al]at hv
    cases e:t.1[i]? with
    |none=>rw[e]at hv;cases hv
    |some y=>rw[e]at hv;exact⟨y,rfl,Ap hv⟩
   refine⟨p2,_,rfl,HK.of Gu,rfl,_,_,rfl,_,_,rfl,rfl,?_⟩
   refine Kj ?_
   refine⟨_,rfl,_,rfl,_,_,rfl,rfl,_,_,rfl,rfl,_,rfl,_,_,rfl,rfl,?_⟩
   exact yes _ _ _ (x-(n:Int)+1+(i:Int)) ⟨_,_,rfl⟩ (Gy hp2 _) (by rw[hx];rfl) rfl
  rintro H6 s6 ⟨ws,eD,iD⟩
  rw[NP iD,jL]at eD
  refine⟨D,_,rfl,.inl ⟨HJ.of eD,λt7 h7=>?_⟩⟩
  have s7:=Gy h7 (.tup ((Jz n t.1).map V.int))
  have z67:=s6.trans s7
  refine⟨_,rfl,t7,Jz n t.1,rfl,Gu,λH8 s8=>?_⟩
  have z68:=z67.trans s8
  have h78:=s8 _ _ (Gu (H:=H6) (a:=t7) (o:=.tup ((Jz n t.1).map V.int)))
  have ll:(Jz n t.1).length<=1000:=by
   unfold Jz
   rw[AB,Bw]
   lia
  rw[JK ht,gG]
  generalize Jf (Jz n t.1)=c
  cases c with
  |false =>
   refine⟨_,rfl,J4 ⟨⟨_,_,_,rfl⟩,?_,λb o nb e=>z68 _ _ (b5 b o nb e),t5.trans (HX.same z68),s5.trans z68⟩⟩
   rw[AD (by decide),BM]
   exact hL5.mono z68
  |true =>
   have eU8:=z68 _ _ eU
   refine⟨_,rfl,JP ⟨_,rfl,.inl ⟨rfl,_,HJ.of eU8⟩,_,rfl,t7,Jz n t.1,rfl,h78,ll,λt9 H9 s9 h9=>?_⟩⟩
   refine⟨_,rfl,Hr,λt10 h10=>?_⟩
   have s10:=Gy h10 (.tup [.ref t9,.int t.2])
   have zz:=z68.trans (s9.trans s10)
   have eU10:=zz _ _ eU
   refine⟨lT,us,_,rfl,rfl,eU10,KU (by lia),⟨_,_,_,rfl⟩,?_,λb o nb e=>?_,t5.trans ((HX.same zz).trans (Km eU10 _)),λb o e=>?_⟩
   ·rw[AF rfl]
    exact⟨us++[.ref t10],Gu,Paired.app (Hs.mono ((HX.same zz).trans (Km eU10 _)) iU) (.cons (Dat.mono (Km eU10 _) (JB (t:=(Iz (Jz n t.1),t.2)) Gu (s10 _ _ h9))) .nil)⟩
   ·rw[Hf nb]
    exact zz _ _ (b5 b o nb e)
   ·rw[Hf (JR e fT)]
    exact zz _ _ (s5 b o e)
 ·rintro σ H5 ⟨⟨c3,c4,c5,rfl⟩,hL5,b5,t5,s5⟩
  rw[AW (by lia)]at hL5
  refine⟨_,rfl,q lT H5 fT s5 hL5 ?_⟩
  unfold Nk
  rw[AB]
  have:=GI (λt:Gi=>Jf (Jz n t.1)) W
  lia
end
section
variable{P:wP}{w:wQ}{K:wL}{mg:Str->wI}{base:Heap}{f g:wO}{fd gd:wR}
theorem qM:Gj ["many", "some"] ["many", "some"] (HS mQ):=Hx
theorem pO{cBC C:wO}(F:Hi K "by_whole" "by_whole" mQ f fd)(GB:Hh P w K mg base 9 "by_elementary" ["many", "some"] (Mf cBC C))(GE:Hl P w K mg base 9 "elementaries_by_whole" ["many"] Uy)(GP:Hl P w K mg base 9 "put_in" ["telling", "parts"] N1):Gx P w K mg base (IB P w) 10 f fd ["many", "some"] (J9 cBC C PV):=by
 refine Kc F qM λHQ A outer s H vs Q E hr h=>?_
 obtain⟨n0,a,ts,rfl,hL,hl,e1,q0⟩:=h
 refine⟨_,HL (Hk (Hm GP hr rfl (Ge (Io GB hr rfl Je (Ge (pv 0) (Ge (pv 1) Gk))) (Ge (Hm GE hr rfl (Ge (pv 0) Gk)) Gk)))),?_⟩
 refine⟨_,rfl,_,rfl,n0,a,ts,rfl,hL,hl,e1,λhm=>?_⟩
 obtain⟨n,rfl⟩:∃n:Nat,n0=n:=⟨n0.toNat,by lia⟩
 obtain⟨q1,q2,q3⟩:=q0 hm
 rw[Af]at q1 q2 q3
 refine⟨q1,λun=>?_,q3⟩
 obtain⟨b,hC,hE,hD,hb,q⟩:=q2 un
 have n1:1<=n:=by lia
 have n4:n<=4:=by lia
 rw[Af]
 refine⟨b,hC,hE,hD,hb,λl1 H1 h1 s1 hT tk=>?_⟩
 refine⟨_,rfl,n,rfl,n4,λl2 us H2 h2 s2 e2 hP=>?_⟩
 refine⟨l1,l2,IL n ts,us,JG n,rfl,hT.mono s2,e2,hP,by have:=tk.few;lia,λt ht=>⟨(Q8 n1 n4 (tk.own t ht)).1,tk.can.num t ht,Jb (tk.bits t ht) (by lia)⟩,AZ.mp (oU n (K0 n1 n4)),λl3 H3 h3 s3 hL3=>?_⟩
 refine q l3 H3 (s1.free (s2.free h3)) (s1.trans (s2.trans s3)) hL3 ?_
 have:=MQ ((IL n ts).flatMap (L5 (JG n)))
 have:=Qp (JG n) (IL n ts) λt ht=>by
  have pb:=Vs (Q8 n1 n4 (tk.own t ht)).1
  have f1:=pb.few t.1.length (AG _)
  rwa [AW (AG _)]at f1
 have:=tk.few
 show(norm ((IL n ts).flatMap (L5 (JG n)))).length<=100000
 lia
end
section
variable{P:wP}{w:wQ}{K:wL}{mg:Str->wI}{base:Heap}{f g:wO}{fd gd:wR}
abbrev IG:=wB×wB
theorem W1{T:List Gi}{M:Int}(h:(T.map (λt=>(t.1.length:Int))=[]/\M=0)∨(M∈T.map (λt=>(t.1.length:Int))/\∀x∈T.map (λt=>(t.1.length:Int)),x<=M)):M=(Ju T:Int):=by
 have key:∀(T:List Gi)(a:Nat),T.foldl (λm t=>max m t.1.length) a=a∨∃t∈T,T.foldl (λm t=>max m t.1.length) a=t.1.length:=by
  intro T
  induction T with
  |nil=>intro a;exact .inl rfl
  |cons u T ih =>
   intro a
   rw[Bm]
   rcases ih (max a u.1.length) with e|⟨t,ht,e⟩
   ·rw[e]
    by_cases c:a<=u.1.length
    ·exact .inr ⟨u,AJ ..,by lia⟩
    ·exact .inl (by lia)
   ·exact .inr ⟨t,AM _ ht,e⟩
 have ge:=Q9 T
 rcases h with⟨h,rfl⟩|⟨h,hM⟩
 ·have:T=[]:=List.map_eq_nil_iff.mp h
  subst this
  rfl
 ·obtain⟨u,hu,e⟩:=AY.mp h
  have g:=ge u hu
  rcases key T 0 with e1|⟨t,ht,e1⟩
  ·have:Ju T=0:=e1
   lia
  ·have:Ju T=t.1.length:=e1
   have:=hM _ (AY.mpr ⟨t,ht,rfl⟩)
   lia
theorem QW{x:Int}(h:x.natAbs<18446744073709551616):x.natAbs<2^100000:=by
 have e:(2:Nat)^64=18446744073709551616:=by decide
 exact DO (by rw[e];exact h) (CC (by decide) (show 64<100000 by decide))
def Nl(n L:Nat):Nat:=(JH n^L).toNat
theorem Rp{ns:wB}(h:(List.range (ns.length+1)).all (λi=>decide ((LP (ns.take i)).natAbs<2^64))=true)(i:Nat):(LP (ns.take i)).natAbs<2^100000:=by
 have k:∀j,j<=ns.length->(LP (ns.take j)).natAbs<2^64:=λj hj=>BB (AZ.mp h j (At.mpr (by lia)))
 refine DO (m:=2^64) ?_ (CC (by decide) (by decide))
 by_cases c:i<=ns.length
 ·exact k i c
 ·rw[AW (by lia),<-Ce (l:=ns)]
  exact k _ (AG _)
noncomputable def QU(n:Nat):wB:=(List.range n).map λ(k:Nat)=>1+(k:Int)
noncomputable def rD(ns:wB):Bool:=(List.range (ns.length+1)).all λi=>decide ((LP (ns.take i)).natAbs<2^64)
theorem qL:∀n∈[1,2,3,4],LP (QU n)=JH n/\rD (QU n)=true/\∀L∈List.range 9,LP (List.replicate L (JH n))=JH n^L/\rD (List.replicate L (JH n))=true/\1<=JH n^L/\JH n^L<1152921504606846976/\1<=JH n/\JH n<=24:=by decide +kernel
theorem ZY(c:Int)(k:Nat):(List.replicate k [V.int c]).flatten=(List.replicate k c).map V.int:=by
 induction k with
 |zero=>rfl
 |succ k ih=>rw[A5,Bu,ih,A5];rfl
noncomputable def MD(n:Nat)(ts:List Gi):List IG:=(Np n (Ju (IL n ts)) (IL n ts)).map λt=>(t.1,Ki t.2 (Nl n (Ju (IL n ts))))
theorem Kg{H:Hp}{p k q:wO}{t:IG}(h:H p=some (.tup [.ref k,.ref q]))(h1:H k=some (.tup (t.1.map V.int)))(h2:H q=some (.tup (t.2.map V.int))):Dat.is H (.ref p) t:=⟨p,.ref k,.ref q,rfl,h,Js h1,Js h2⟩
theorem SR{H:Hp}{v:V}{t:IG}(h:Dat.is H v t):∃p k q,v=.ref p/\H p=some (.tup [.ref k,.ref q])/\H k=some (.tup (t.1.map V.int))/\H q=some (.tup (t.2.map V.int)):=by
 obtain⟨p,x,y,rfl,h,hx,hy⟩:=h
 obtain⟨k,rfl,hk⟩:=JU hx
 obtain⟨q,rfl,hq⟩:=JU hy
 exact⟨p,k,q,rfl,h,hk,hq⟩
noncomputable abbrev Vm:wG:=["many", "some", "telling", "length", "filled_up", "scale", "bottom"]
abbrev rZ:wG:=["row", "often"]
noncomputable abbrev sT:wG:=["row", "often", "length"]
abbrev rO:wG:=["row", "top", "bottom"]
theorem UQ:rZ.Nodup:=by decide +kernel
theorem UF:sT.Nodup:=by decide +kernel
theorem Ut:rO.Nodup:=by decide +kernel
theorem Kk:Gj Vm ["many", "some"] (HS P6):=Hx
def Nq(t:IG):Prop:=∃(c:Int)(b:Nat),t.2=[c,(b:Int)]/\1<=b/\b<1152921504606846976/\Ki c b=[c,(b:Int)]
theorem Yj{t:Int}{b:Nat}(h1:1<=b)(h2:b<1152921504606846976)(r:wB):Nq (r,Ki t b):=by
 have g0:0<Nat.gcd t.natAbs b:=Ds _ h1
 have d1:Nat.gcd t.natAbs b ∣ t.natAbs:=Nat.gcd_dvd_left _ _
 have d2:Nat.gcd t.natAbs b ∣ b:=Nat.gcd_dvd_right _ _
 have cp:=Nat.gcd_div_gcd_div_gcd_of_pos_right (n:=t.natAbs) (m:=b) (by lia)
 have hf:Ki t b=[t / ((Nat.gcd t.natAbs b:Nat):Int),(b:Int) / ((Nat.gcd t.natAbs b:Nat):Int)]:=rfl
 generalize Nat.gcd t.natAbs b=g at *
 obtain⟨b',rfl⟩:=d2
 obtain⟨t',ht⟩:=Int.ofNat_dvd_left.mpr d1
 subst ht
 have e1:(g:Int)*t' / (g:Int)=t':=FH _ (by lia)
 have e2:((g*b':Nat):Int) / (g:Int)=(b':Int):=by
  rw[FY]
  exact FH _ (by lia)
 have e3:((g:Int)*t').natAbs / g=t'.natAbs:=by
  rw[EY,El]
  exact FT _ g0
 have e4:g*b' / g=b':=FT _ g0
 rw[e1,e2]at hf
 rw[e3,e4]at cp
 have b1:1<=b':=by
  rcases Nat.eq_zero_or_pos b' with e|e
  ·rw[e]at h1
   simp at h1
  ·exact e
 refine⟨t',b',hf,b1,BD (Nat.le_mul_of_pos_left _ g0) h2,?_⟩
 unfold Ki
 rw[cp]
 show [t' / (1:Int),(b':Int) / (1:Int)]=_
 rw[EG,EG]
def QE{α:Type}[Dat α](cBC C:wO)(F:Nat->List Gi->List α)(G:α->Prop):Sp:=Jm cBC C λn ts H Q=>∃b,HU ts/\Hc n ts/\Deg n 8 b ts/\b<=1000/\∀(l:wO)(H':Hp),H l=none->Gh H H'->Gf H' l (F n ts)->(F n ts).length<=100000->(∀t∈F n ts,G t)->Q (.ref l) H'
theorem Yk{cBC C:wO}(F:Hi K "by_power" "by_power" P6 f fd)(GB:Hh P w K mg base 9 "by_elementary" ["many", "some"] (Mf cBC C))(GM:Hl P w K mg base 9 "multiplied_up" ["numbers"] UC)(GP:Hl P w K mg base 9 "put_in" ["telling", "parts"] N1)(GE:Hl P w K mg base 9 "elementaries_by_power" ["many", "scale"] SI)(GF:Hl P w K mg base 9 "fraction" ["top", "bottom"] PX)(mx:mg "max" = none)(mn:mg "len" = none)(ml:mg "list" = none)(mr:mg "range" = none):Gx P w K mg base (IB P w) 10 f fd ["many", "some"] (QE cBC C MD Nq):=by
 refine Kc F Kk λHQ A outer s H vs Q E hr h=>?_
 obtain⟨n0,a,ts,rfl,hL,hl,e1,q0⟩:=h
 refine⟨_,HP (Hj (i:=2) Kk.nd rfl (Or.inl rfl) (Io GB hr rfl Je (Ge (pv 0) (Ge (pv 1) Gk))))
  (HP (Hj (i:=3) Kk.nd rfl (Or.inr rfl) (Wn rfl rfl mx (Ge (Iy (N':=rZ) (src:=[none,none]) rfl (IW (pv 2)) (Ir (HS P6) Vm (by decide +kernel))
   (λb=>Im rfl (Hw (HW (i:=0) UQ rfl (Or.inl rfl)) (Hw (HW (i:=1) UQ rfl (Or.inl rfl)) Ik))) (λb=>JX) (λb=>Ia K4 rfl mn Bl (Ge (pv 0) Gk))) Gk)))
  (HP (Sx (i:=4) (N':=sT) (src:=[none,none,some 3]) Kk.nd rfl (Or.inl rfl) rfl rfl (IW (pv 2)) (Ir (HS P6) Vm (by decide +kernel))
   (λb=>Im rfl (Hw (HW (i:=0) UF rfl (Or.inl rfl)) (Hw (HW (i:=1) UF rfl (Or.inl rfl)) Ik))) (λb=>JX)
   (λb=>Hd (Ge (HV LM (pv 0) (HV OV (Hd (Ge HM Gk)) (HV LO (pv 2) (Ia K4 rfl mn Bl (Ge (pv 0) Gk))))) (Ge (pv 1) Gk))))
  (HP (Hj (i:=5) Kk.nd rfl (Or.inl rfl) (Hm GM hr rfl (Ge (dE rfl rfl ml rfl mr (Ge HM (Ge (HV Jc (pv 0) HM) Gk))) Gk)))
  (HP (Hj (i:=6) Kk.nd rfl (Or.inr rfl) (Hm GM hr rfl (Ge (HV Xi (IC (Ge (pv 5) Gk)) (pv 3)) Gk)))
  (HL (Hk (Iy (N':=rO) (src:=[none,none,some 6]) rfl (IW (Hm GP hr rfl (Ge (pv 4) (Ge (Hm GE hr rfl (Ge (pv 0) (Ge (pv 5) Gk))) Gk)))) (Ir (HS P6) Vm (by decide +kernel))
   (λb=>Im rfl (Hw (HW (i:=0) Ut rfl (Or.inl rfl)) (Hw (HW (i:=1) Ut rfl (Or.inl rfl)) Ik))) (λb=>JX)
   (λb=>Hd (Ge (pv 0) (Ge (Hm GF hr rfl (Ge (pv 1) (Ge (pv 2) Gk))) Gk)))))))))),?_⟩
 refine⟨_,rfl,_,rfl,n0,a,ts,rfl,hL,hl,e1,λhm=>?_⟩
 obtain⟨n,rfl⟩:∃n:Nat,n0=n:=⟨n0.toNat,by lia⟩
 obtain⟨q1,q2,q3⟩:=q0 hm
 rw[Af]at q1 q2 q3
 refine⟨q1,λun=>?_,q3⟩
 obtain⟨b,hC,hE,hD,hb,q⟩:=q2 un
 have n1:1<=n:=by lia
 have n4:n<=4:=by lia
 rw[Af]
 refine⟨b,hC,hE,hD,hb,λl1 H1 h1 s1 hT tk=>?_⟩
 have few:=tk.few
 have rl:∀t∈IL n ts,t.1.length<=8:=λt ht=>(ZD (tk.row t ht).1).1
 have ge:=Q9 (IL n ts)
 have nn:=λt ht=>tk.can.num t ht
 have bt:=tk.bits
 have own:=tk.own
 have bpk:Ju (IL n ts)<=8->(Np n (Ju (IL n ts)) (IL n ts)).length<=2650:=λhL=>by
  have:=MQ ((NW (Ju (IL n ts)) (IL n ts)).flatMap (L5 (Il (JH n) n)))
  have:=Qp (Il (JH n) n) (NW (Ju (IL n ts)) (IL n ts)) λt ht=>by
   obtain⟨z,hz,rfl⟩:=AY.mp ht
   have pb:=Vs (RX n1 n4 (tk.own z hz) hL (ge z hz)).1
   have f1:=pb.few _ (AG _)
   rwa [AW (AG _)]at f1
  have e1:(NW (Ju (IL n ts)) (IL n ts)).length=(IL n ts).length:=AB _
  unfold Np
  lia
 have q:∀(l:wO)(H':Hp),H l=none->Gh H H'->Gf H' l ((Np n (Ju (IL n ts)) (IL n ts)).map λt=>(t.1,Ki t.2 (Nl n (Ju (IL n ts)))))->(MD n ts).length<=100000->(∀t∈MD n ts,Nq t)->Q (.ref l) H':=q
 have eF:MD n ts=(Np n (Ju (IL n ts)) (IL n ts)).map λt=>(t.1,Ki t.2 (Nl n (Ju (IL n ts)))):=rfl
 rw[eF]at q
 generalize hTt:IL n ts=T at *
 obtain⟨vs,eT,iT⟩:=hT
 have lv:=AL iT
 refine⟨_,rfl,l1,rfl,⟨_,HJ.of eT⟩,λbk D hD'=>?_⟩
 refine KL (α:=Int) hD' (HJ.of eT) (λσ=>∃c d,σ=[c,d]) (λi=>(T[i]?).bind λt=>some (t.1.length:Int)) (small (by lia)) ⟨_,_,rfl⟩ ?_ ?_
 ·rintro i v σ H2 Yes No hv ⟨c,d,rfl⟩ s2 yes no
  obtain⟨t,ht,hi⟩:=Ib iT hv
  obtain⟨p,kk,rfl,hp,hkk⟩:=JO hi
  refine⟨p,_,rfl,HK.of (s2 _ _ hp),rfl,_,_,rfl,_,_,rfl,rfl,?_⟩
  refine Kj ?_
  refine⟨_,rfl,kk,_,rfl,.inr (HK.of (s2 _ _ hkk)),?_⟩
  rw[AB]
  exact yes _ _ _ (t.1.length:Int) ⟨_,_,rfl⟩ (Gh.refl _) (by rw[ht];rfl) rfl
 rintro H2 s2 ⟨ws,eD,iD⟩
 rw[NP iD,lv,Jg,Au]at eD
 refine⟨D,_,rfl,.inl (HJ.of eD),λM hM=>?_⟩
 have eM:=W1 hM
 subst eM
 have L8:Ju T<=8:=by
  rcases hM with⟨e,hz⟩|⟨hm,_⟩
  ·lia
  ·obtain⟨t,ht,e⟩:=AY.mp hm
   have:=rl t ht
   lia
 have bpk:=bpk L8
 clear hM eD iD
 show JF 3 (V.int ((Ju T:Nat):Int)) _ _ _
 generalize hLL:Ju T=L at *
 refine⟨_,rfl,l1,rfl,⟨_,HJ.of (s2 _ _ eT)⟩,λbk2 D2 hD2=>?_⟩
 have iT2:=Hs.mono (HX.same s2) iT
 refine KL (α:=Gi) hD2 (HJ.of (s2 _ _ eT)) (λσ=>∃c d,σ=[c,d,some (.int (L:Int))]) (λi=>(T[i]?).bind λt=>some (Nu L t.1,t.2)) (small (by lia)) ⟨_,_,rfl⟩ ?_ ?_
 ·rintro i v σ H3 Yes No hv ⟨c,d,rfl⟩ s3 yes no
  obtain⟨t,ht,hi⟩:=Ib iT2 hv
  have tm:=Aa ht
  have tl:=ge t tm
  obtain⟨p,kk,rfl,hp,hkk⟩:=JO hi
  have hk3:=s3 _ _ hkk
  refine⟨p,_,rfl,HK.of (s3 _ _ hp),rfl,_,_,rfl,_,_,rfl,rfl,?_⟩
  refine Kj ?_
  refine⟨_,rfl,IH,λt0 h0=>?_⟩
  have s0:=Gy h0 (.tup [.int 0])
  refine⟨_,rfl,_,rfl,kk,_,rfl,.inr (HK.of (s0 _ _ hk3)),_,_,rfl,rfl,t0,[0],_,rfl,rfl,Gu,by simp,by rw[AB];lia,by rw[AB];lia,small (by rw[AB];show 1*_<=100000;lia),λt2 H4 s4 h4=>?_⟩
  rw[P0,AB,show((L:Int)-(t.1.length:Int)).toNat=L-t.1.length by lia]at h4
  refine Kp (r:=t.1) (r':=List.replicate (L-t.1.length) 0) (s4 _ _ (s0 _ _ hk3)) h4 (small (by rw[A0];lia)) λt3 H5 s5 h5=>?_
  refine⟨_,rfl,Hr,λt6 h6=>?_⟩
  have s6:=Gy h6 (.tup [.ref t3,.int t.2])
  exact yes _ _ _ (Nu L t.1,t.2) ⟨_,_,rfl⟩ (s0.trans (s4.trans (s5.trans s6))) (by rw[ht];rfl) (JB (t:=(Nu L t.1,t.2)) Gu (s6 _ _ h5))
 intro H3 s3 hD3
 rw[lv,Jg,Au]at hD3
 change Gf H3 D2 (NW L T) at hD3
 obtain⟨u1,u2,u3⟩:=qL n (K0 n1 n4)
 obtain⟨u4,u5,u6,u7,u8,u9⟩:=u3 L (At.mpr (by lia))
 refine⟨_,rfl,_,_,rfl,rfl,1,_,rfl,⟨by lia,by lia,by lia,by lia⟩,by lia,λl5 h5=>?_⟩
 have e5:((List.range ((n:Int)+1-1).toNat).map λ(k:Nat)=>V.int (1+(k:Int)))=(QU n).map V.int:=by
  unfold QU
  rw[show((n:Int)+1-1).toNat=n by lia,Cm]
  rfl
 rw[e5]
 have s5:=Gy h5 (.lst ((QU n).map V.int))
 refine⟨l5,QU n,rfl,Gu,Rp u2,λx hx=>?_,?_⟩
 ·obtain⟨k,hk,rfl⟩:=AY.mp hx
  have:=At.mp hk
  exact QW (by lia)
 rw[u1]
 generalize hc:JH n=c at *
 refine⟨_,rfl,IH,λl6 h6=>?_⟩
 have s6:=Gy h6 (.lst [.int c])
 refine⟨_,rfl,l6,_,_,rfl,rfl,Gu,by lia,by lia,small (by show 1*_<=100000;lia),λl7 h7=>?_⟩
 rw[ZY,Af]
 have s7:=Gy h7 (.lst ((List.replicate L c).map V.int))
 refine⟨l7,List.replicate L c,rfl,Gu,Rp u5,λx hx=>?_,?_⟩
 ·rw[List.eq_of_mem_replicate hx]
  exact QW (by lia)
 rw[u4]
 have z57:=s5.trans (s6.trans s7)
 have eb:((Nl n L:Nat):Int)=c^L:=by
  unfold Nl
  rw[hc]
  lia
 have hbot:1<=Nl n L/\Nl n L<1152921504606846976:=by lia
 show JF 6 (V.int (c^L)) _ _ _
 rw[<-eb]
 generalize Nl n L=B at *
 refine⟨_,rfl,_,rfl,_,rfl,n,by rw[hc];rfl,K0 n1 n4,λl8 us H8 h8 s8 e8 hP8=>?_⟩
 refine⟨D2,l8,NW L T,us,Il c n,rfl,hD3.mono (z57.trans s8),e8,by rw[<-hc];exact hP8,by rw[show(NW L T).length=T.length from AB _];lia,λt ht=>?_,by rw[<-hc];exact AZ.mp (cZ n (K0 n1 n4)),λl9 H9 h9 s9 hL9=>?_⟩
 ·obtain⟨z,hz,rfl⟩:=AY.mp ht
  refine⟨?_,nn z hz,Jb (bt z hz) (by lia)⟩
  rw[<-hc]
  exact(RX n1 n4 (own z hz) L8 (ge z hz)).1
 have zz:=s1.trans (s2.trans (s3.trans (z57.trans (s8.trans s9))))
 have eU:norm ((NW L T).flatMap (L5 (Il c n)))=Np n L T:=by
  unfold Np
  rw[hc]
 rw[eU]at hL9
 have fU:=bpk
 generalize Np n L T=U at *
 obtain⟨ws9,e9,i9⟩:=hL9
 have lv9:=AL i9
 refine⟨l9,rfl,⟨_,HJ.of e9⟩,λbk3 D3 hD3'=>?_⟩
 refine KL (α:=IG) hD3' (HJ.of e9) (λσ=>∃c d,σ=[c,d,some (.int (B:Int))]) (λi=>(U[i]?).bind λt=>some (t.1,Ki t.2 B)) (small (by lia)) ⟨_,_,rfl⟩ ?_ ?_
 ·rintro i v σ H10 Yes No hv ⟨c,d,rfl⟩ s10 yes no
  obtain⟨t,ht,hi⟩:=Ib i9 hv
  obtain⟨p,kk,rfl,hp,hkk⟩:=JO hi
  refine⟨p,_,rfl,HK.of (s10 _ _ hp),rfl,_,_,rfl,_,_,rfl,rfl,?_⟩
  refine Kj ?_
  refine⟨_,rfl,_,rfl,_,rfl,t.2,B,rfl,hbot.1,hbot.2,λp11 H11 h11 s11 e11=>?_⟩
  refine⟨Hr,λt12 h12=>?_⟩
  have s12:=Gy h12 (.tup [.ref kk,.ref p11])
  exact yes _ _ _ (t.1,Ki t.2 B) ⟨_,_,rfl⟩ (s11.trans s12) (by rw[ht];rfl) (Kg (t:=(t.1,Ki t.2 B)) Gu (s12 _ _ (s11 _ _ (s10 _ _ hkk))) (s12 _ _ e11))
 intro H10 s10 hL10
 rw[lv9,Jg,Au]at hL10
 have hL10:Gf H10 D3 (U.map λt=>((t.1,Ki t.2 B):IG)):=hL10
 refine q D3 H10 ((s1.trans (s2.trans (s3.trans (z57.trans (s8.trans s9))))).free hD3') (zz.trans s10) hL10 ?_ λt ht=>?_
 ·rw[AB]
  lia
 ·obtain⟨u,hu,rfl⟩:=AY.mp ht
  exact Yj hbot.1 hbot.2 _
end
section
variable{P:wP}{w:wQ}{K:wL}{mg:Str->wI}{base:Heap}{f g:wO}{fd gd:wR}
abbrev P3:Stmt:=(Tl oE).getD 0 (.Pass ⟨0,0,0,0⟩)
abbrev QL:wG:=["self", "row"]
theorem lU:Gj QL QL (HS P3):=Hx
structure Lh(K:wL)(C fI:wO):Prop where
 s:KO K C
 m:Vf K C fI
 p1:W.findIn K (.ref C) "row" = some none
def Uu(C:wO):Sp:=λvs H Q E=>∃(x:wO)(v1:V),vs=[.ref x,v1]/\H x=some (xI x C none)/\∀d,H d=none->d≠x->Q .non (Gw (Gw H d (xD d [("row",v1)])) x (xI x C (some d)))
theorem Za{C C0 fI:wO}(F:Hi K "__init__" "NotBy.__init__" P3 f fd)(M0:mg "EvenError" = some (.ref C0))(B:Lf K C0)(c:Lh K C fI):Gx P w K mg base Ho 2 f fd QL (Uu C):=by
 refine IJ F lU λHQ A outer s H vs Q E hr h=>?_
 obtain⟨x,v1,rfl,hx,q⟩:=h
 refine⟨_,HP (Iq (Qn rfl M0 B (Ge (pv 0) (Ge IT Gk)))) (HL (PF (pv 0) (pv 1) rfl)),?_⟩
 refine⟨_,rfl,x,C,none,fI,_,rfl,hx,c.m.j,?_⟩
 refine⟨_,rfl,_,rfl,x,C,rfl,c.s,c.p1,.inl ⟨hx,λd hd dne=>?_⟩⟩
 exact q d hd dne
theorem oV{X:Cx}{ss:List Stmt}:Iw X ss (λ_ _ _=>False):=λ_ _ _ _ _ _ h=>h.elim
noncomputable def HY:wG:=["exchange", "elementary", "whole", "power", "filling"]
theorem U5(k:Str)(xs:wG):QC (.str k) (xs.map V.str)=decide (k∈xs):=by
 rw[DA,AV]
 unfold QC
 rw[FC,List.any_eq_true]
 constructor
 ·rintro⟨y,hy,e⟩
  have e:(y==k)=true:=e
  rw[<-eq_of_beq e]
  exact hy
 ·intro h
  exact⟨k,h,CJ k⟩
theorem SJ(xs:wG):(xs.map V.str).all Me=true:=by
 rw[Dn,AZ]
 intro x _
 rfl
theorem Wx:Gj ["kind"] ["kind"] (HS X5):=Hx
def RJ(cNK:wO):Sp:=λvs H Q E=>∃k:Str,vs=[.str k]/\(k∈HY->Q .non H)/\(¬ k∈HY->E (.ref cNK) none H)
theorem aJ{cNK dK:wO}(F:Hi K "refuse_no_kind" "refuse_no_kind" X5 f fd)(gK:mg "KINDS" = some (.ref dK))(sK:∀H,HK K H dK (HY.map V.str))(X1:PJ K mg "NoKind" cNK):Gx P w K mg base (IB P w) 2 f fd ["kind"] (RJ cNK):=by
 refine Kc F Wx λHQ A outer s H vs Q E hr h=>?_
 obtain⟨k,rfl,q,e⟩:=h
 refine⟨_,HL (IP (II rY (pv 0) (KJ (v:=.ref dK) rfl gK rfl) (by with_unfolding_all rfl)) (HL (Ui rfl R1 BS rfl X1.at_ X1.is (Ge IT Gk))) IQ),?_⟩
 refine⟨_,rfl,dK,_,rfl,.inr (sK _),rfl,SJ _,_,rfl,?_⟩
 rw[AF rfl,U5]
 by_cases c:k∈HY
 ·exact mL c (q c)
 ·exact Xg c ⟨IH,e c⟩
abbrev Nm:wG:=["kind", "many", "row"]
theorem W2:Gj Nm Nm (HS Op):=Hx
noncomputable def LL(k:Str)(n:Nat)(r:wB):Bool:=if k∈(["exchange", "filling"]:wG) then decide ((r.length:Int)<=(n:Int)) else r.all λx=>decide (x<=(n:Int))
def VC:Sp:=λvs H Q _=>∃(k:Str)(n:Nat)(p:wO)(r:wB),vs=[.str k,.int n,.ref p]/\H p=some (.tup (r.map V.int))/\∀H',Gh H H'->Q (.bl (LL k n r)) H'
theorem YA(F:Hi K "lets_in" "lets_in" Op f fd)(mn:mg "len" = none)(mx:mg "max" = none):Gx P w K mg base Ho 2 f fd Nm VC:=by
 refine IJ F W2 λHQ A outer s H vs Q E hr h=>?_
 obtain⟨k,n,p,r,rfl,hp,q⟩:=h
 refine⟨_,HP (IP (II Yp (pv 0) (Hd (Ge IT (Ge IT Gk))) (by with_unfolding_all rfl)) (HL (Hk (QS OX (Ia K4 rfl mn Bl (Ge (pv 2) Gk)) (pv 1) (IE _)))) IQ)
  (HL (Hk (QS OX (Wn rfl rfl mx (Ge (pv 2) Gk)) (pv 1) (IE _)))),?_⟩
 refine⟨_,rfl,Hr,λt ht=>?_⟩
 have s0:=Gy ht (.tup [V.str "exchange",V.str "filling"])
 have hp0:=s0 _ _ hp
 refine⟨t,(["exchange", "filling"]:wG).map V.str,rfl,.inr (HK.of Gu),rfl,SJ _,_,rfl,?_⟩
 rw[AD (by decide),U5]
 by_cases c:k∈(["exchange", "filling"]:wG)
 ·refine Jq c ⟨_,rfl,p,_,rfl,.inr (HK.of hp0),_,rfl,_,_,rfl,rfl,?_⟩
  have:=q _ s0
  unfold LL at this
  rw[AF c]at this
  rw[AB]
  exact this
 ·refine JV c ⟨_,rfl,p,r,rfl,.inr (HK.of hp0),λM hM=>⟨_,rfl,_,_,rfl,rfl,?_⟩⟩
  have:=q _ s0
  unfold LL at this
  rw[AD c]at this
  have e:decide (M<=(n:Int))=r.all λx=>decide (x<=(n:Int)):=by
   rw[DA,AV,AZ]
   rcases hM with⟨rfl,rfl⟩|⟨h1,h2⟩
   ·exact⟨λ_ x hx=>(by cases hx),λ_=>(by lia)⟩
   ·exact⟨λh x hx=>Ab (by have:=h2 x hx;lia),λh=>BB (h M h1)⟩
  show Q (V.bl (decide (M<=(n:Int)))) _
  rw[e]
  exact this
noncomputable abbrev uN:wG:=["telling", "row", "share"]
theorem OB:Gj uN ["telling"] (HS Oj):=Hx
noncomputable def Jo(T:List IG):Bool:=T.all λt=>IN t.1
def SS(cBR:wO):Sp:=λvs H Q E=>∃(l:wO)(T:List IG),vs=[.ref l]/\Gf H l T/\(∀t∈T,t.1.length<=1000)/\(Jo T=true->∀H',Gh H H'->Q .non H')/\(Jo T=false->∀H',Gh H H'->E (.ref cBR) none H')
theorem oO{cBR:wO}(F:Hi K "refuse_bad_rows" "refuse_bad_rows" Oj f fd)(G:Hh P w K mg base 2 "refuse_bad_row" Mo (OE cBR)):Gx P w K mg base (IB P w) 3 f fd ["telling"] (SS cBR):=by
 refine Kc F OB λHQ A outer s H vs Q E hr h=>?_
 obtain⟨l,T,rfl,⟨us,eL,iL⟩,h1000,q,e⟩:=h
 refine⟨_,HL (Ii UD rfl (IW (pv 0)) (Im rfl (Hw (HW (i:=1) OB.nd rfl (Or.inl rfl)) (Hw (HW (i:=2) OB.nd rfl (Or.inl rfl)) Ik)))
   (HL (Iq (Io G hr rfl Je (Ge (pv 1) Gk))))),?_⟩
 refine⟨_,rfl,l,rfl,⟨us,HJ.of eL⟩,?_⟩
 have lu:=AL iL
 refine Jd (xs:=us) (λi σ H'=>(∃c1 c2,σ=[some (.ref l),c1,c2])/\Gh H H'/\Jo (T.take i)=true) ?_ ?_ ?_ ?_
 ·exact⟨⟨_,_,rfl⟩,Gh.refl _,rfl⟩
 ·rintro i σ H1 _ ⟨_,s1,_⟩
  exact HJ.of (s1 _ _ eL)
 ·rintro i x σ H1 hx ⟨⟨c1,c2,rfl⟩,s1,g1⟩
  obtain⟨t,ht,hi⟩:=Ib iL hx
  obtain⟨p,k,q',rfl,hp,hk,hq⟩:=SR hi
  refine⟨p,_,rfl,HK.of (s1 _ _ hp),rfl,_,_,rfl,_,_,rfl,rfl,?_⟩
  refine⟨_,rfl,k,t.1,rfl,s1 _ _ hk,h1000 t (Aa ht),λhb H2 s2=>⟨⟨_,_,rfl⟩,s1.trans s2,?_⟩,λhb H2 s2=>e ?_ _ (s1.trans s2)⟩
  ·unfold Jo at g1 ⊢
   rw[JK ht,List.all_append,g1]
   simp [hb]
  ·unfold Jo
   rw[List.all_eq_false]
   exact⟨t,Aa ht,by simp [hb]⟩
 ·rintro σ H1 ⟨_,s1,g1⟩
  rw[AW (by lia)]at g1
  exact q g1 _ s1
abbrev vW:wG:=["kind", "many", "telling", "row", "share"]
noncomputable abbrev hJ:wG:=["kind", "many", "telling"]
theorem OW:Gj vW hJ (HS aF):=Hx
noncomputable def Nt(k:Str)(n:Nat)(T:List IG):Bool:=T.all λt=>LL k n t.1
def NotIn(cNB:wO)(k:Str)(n:Nat)(T:List IG)(H:Hp)(E:XK):Prop:=∀i t,T[i]?=some t->Nt k n (T.take i)=true->LL k n t.1=false->∀H' d kk,Gh H H'->H d=none->H' d=some (xD d [("row",.ref kk)])->H' kk=some (.tup (t.1.map V.int))->E (.ref cNB) (some d) H'
def Ru(cNB:wO):Sp:=λvs H Q E=>∃(k:Str)(n:Nat)(l:wO)(T:List IG),vs=[.str k,.int n,.ref l]/\Gf H l T/\(Nt k n T=true->∀H',Gh H H'->Q .non H')/\NotIn cNB k n T H E
theorem qC{cNB fI:wO}{fdI:wR}(F:Hi K "refuse_not_by" "refuse_not_by" aF f fd)(GL:Hl P w K mg base 4 "lets_in" Nm VC)(OI:Gx P w K mg base Ho 4 fI fdI QL (Uu cNB))(bI:Hy K fdI QL [])(c:Lh K cNB fI)(M8:mg "NotBy" = some (.ref cNB)):Gx P w K mg base (IB P w) 6 f fd hJ (Ru cNB):=by
 refine Kc F OW λHQ A outer s H vs Q E hr h=>?_
 obtain⟨k,n,l,T,rfl,⟨us,eL,iL⟩,q,e⟩:=h
 refine⟨_,HL (Ii UD rfl (IW (pv 2)) (Im rfl (Hw (HW (i:=3) OW.nd rfl (Or.inl rfl)) (Hw (HW (i:=4) OW.nd rfl (Or.inl rfl)) Ik)))
   (HL (IP (pB (Ot (Hm GL (hr.mono (by decide)) rfl (Ge (pv 0) (Ge (pv 1) (Ge (pv 3) Gk)))))) (HL (SU rfl rG c.m OI (hr.mono (by decide)) bI .nil Ou rfl M8 (Ge (pv 3) Gk))) IQ))),?_⟩
 refine⟨_,rfl,l,rfl,⟨us,HJ.of eL⟩,?_⟩
 have lu:=AL iL
 refine Jd (xs:=us) (λi σ H'=>(∃c1 c2,σ=[some (.str k),some (.int n),some (.ref l),c1,c2])/\Gh H H'/\Nt k n (T.take i)=true) ?_ ?_ ?_ ?_
 ·exact⟨⟨_,_,rfl⟩,Gh.refl _,rfl⟩
 ·rintro i σ H1 _ ⟨_,s1,_⟩
  exact HJ.of (s1 _ _ eL)
 ·rintro i x σ H1 hx ⟨⟨c1,c2,rfl⟩,s1,g1⟩
  obtain⟨t,ht,hi⟩:=Ib iL hx
  obtain⟨p,kk,q',rfl,hp,hk,hq⟩:=SR hi
  refine⟨p,_,rfl,HK.of (s1 _ _ hp),rfl,_,_,rfl,_,_,rfl,rfl,?_⟩
  refine⟨_,rfl,_,rfl,_,rfl,k,n,kk,t.1,rfl,s1 _ _ hk,λH2 s2=>⟨_,rfl,?_⟩⟩
  cases hb:LL k n t.1 with
  |true =>
   refine J4 ⟨⟨_,_,rfl⟩,s1.trans s2,?_⟩
   unfold Nt at g1 ⊢
   rw[JK ht,List.all_append,g1]
   simp [hb]
  |false =>
   refine JP ?_
   refine⟨_,rfl,IH,λx hx=>?_⟩
   refine⟨x,_,rfl,Gu,λd hd dne=>⟨rfl,some d,Gu,?_⟩⟩
   have hd':H2 d=none:=by rw[Hf dne]at hd;exact hd
   have key:∀b u,H2 b=some u->MW x (Gw (Gw (Gw H2 x (xI x cNB none)) d (xD d [("row",.ref kk)])) x (xI x cNB (some d))) b=some u:=λb u hb=>by
    have n1:b≠x:=λz=>by rw[z,hx]at hb;cases hb
    have n2:b≠d:=λz=>by rw[z,hd']at hb;cases hb
    rw[Lb n1,Hf n1,Hf n2,Hf n1]
    exact hb
   have s12:=s1.trans s2
   refine e i t ht g1 hb _ d kk (s12.trans key) (s12.free hd') ?_ (key _ _ (s12 _ _ hk))
   rw[Lb dne,Hf dne,Gu]
 ·rintro σ H1 ⟨_,s1,g1⟩
  rw[AW (by lia)]at g1
  exact q g1 _ s1
end
section
variable{P:wP}{w:wQ}{K:wL}{mg:Str->wI}{base:Heap}{f g:wO}{fd gd:wR}
theorem Zy:Gj Nm Nm (HS oR):=Hx
def VT:Sp:=λvs H Q E=>∃(n:Nat)(p:wO)(r:wB),vs=[.str "exchange",.int n,.ref p]/\1<=n/\n<=4/\H p=some (.tup (r.map V.int))/\r.length<=n/\IN r=true/\∀(a:wO)(H':Hp),H a=none->Gh H H'->Gf H' a (Ie n r)->Q (.ref a) H'
theorem fR(F:Hi K "sum_by" "sum_by" oR f fd)(GE:Hl P w K mg base 6 "exchange_sum" QM OT):Gx P w K mg base Ho 7 f fd Nm VT:=by
 refine IJ F Zy λHQ A outer s H vs Q E hr h=>?_
 obtain⟨n,p,r,rfl,h⟩:=h
 refine⟨_,HP (IP (II ME (pv 0) IT (IE _)) (HL (Hk (Hm GE hr rfl (Ge (pv 1) (Ge (pv 2) Gk))))) IQ) oV,?_⟩
 exact⟨_,rfl,rfl,_,rfl,Jq rfl ⟨_,rfl,_,rfl,n,p,r,rfl,h⟩⟩
abbrev Mm:wG:=["kind", "many", "some"]
theorem Xb:Gj Mm Mm (HS X0):=Hx
noncomputable def KC(k:Str)(n:Nat)(ts:List Gi):List Gi:=if k = "exchange" then Jk ts else if k = "elementary" then IL n ts else if k = "whole" then PV n ts else OC n ts
def VJ(cBC C:wO):Sp:=λvs H Q E=>∃(k:Str)(v1 v2:V),vs=[.str k,v1,v2]/\J9 cBC C (KC k) [v1,v2] H Q E
theorem OJ{i j:Str}(h:i≠j):¬ (V.str i=V.str j):=λz=>h (by injection z)
theorem Pu{i j:Str}(h:i=j):V.str i=V.str j:=by rw[h]
theorem Xf{cBC C:wO}(F:Hi K "whole_telling" "whole_telling" X0 f fd)(G0:Hh P w K mg base 12 "by_exchange" Jl (J9 cBC C λ_ ts=>Jk ts))(G1:Hh P w K mg base 12 "by_elementary" ["many", "some"] (J9 cBC C IL))(G2:Hh P w K mg base 12 "by_whole" ["many", "some"] (J9 cBC C PV))(G3:Hh P w K mg base 12 "by_fillings" Jl (SV cBC C)):Gx P w K mg base (IB P w) 13 f fd Mm (VJ cBC C):=by
 refine Kc F Xb λHQ A outer s H vs Q E hr h=>?_
 obtain⟨k,v1,v2,rfl,h⟩:=h
 refine⟨_,HP (IP (II ME (pv 0) IT (IE _)) (HL (Hk (Io G0 hr rfl Je (Ge (pv 1) (Ge (pv 2) Gk))))) IQ)
  (HP (IP (II ME (pv 0) IT (IE _)) (HL (Hk (Io G1 hr rfl Je (Ge (pv 1) (Ge (pv 2) Gk))))) IQ)
  (HP (IP (II ME (pv 0) IT (IE _)) (HL (Hk (Io G2 hr rfl Je (Ge (pv 1) (Ge (pv 2) Gk))))) IQ)
  (HL (Hk (Io G3 hr rfl Je (Ge (pv 1) (Ge (pv 2) Gk))))))),?_⟩
 refine⟨_,rfl,rfl,_,rfl,?_⟩
 by_cases c0:k = "exchange"
 ·refine Jq (Pu c0) ⟨_,rfl,_,rfl,?_⟩
  have e:(λ(_:Nat) ts=>Jk ts)=KC k:=by funext n ts;unfold KC;rw[AF c0]
  show J9 cBC C (λ(_:Nat) ts=>Jk ts) _ _ _ _
  rw[e]
  exact h
 refine JV (OJ c0) ⟨_,rfl,rfl,_,rfl,?_⟩
 by_cases c1:k = "elementary"
 ·refine Jq (Pu c1) ⟨_,rfl,_,rfl,?_⟩
  have e:IL=KC k:=by funext n ts;unfold KC;rw[AD c0,AF c1]
  show J9 cBC C IL _ _ _ _
  rw[e]
  exact h
 refine JV (OJ c1) ⟨_,rfl,rfl,_,rfl,?_⟩
 by_cases c2:k = "whole"
 ·refine Jq (Pu c2) ⟨_,rfl,_,rfl,?_⟩
  have e:PV=KC k:=by funext n ts;unfold KC;rw[AD c0,AD c1,AF c2]
  show J9 cBC C PV _ _ _ _
  rw[e]
  exact h
 refine JV (OJ c2) ⟨_,rfl,_,rfl,?_⟩
 have e:OC=KC k:=by funext n ts;unfold KC;rw[AD c0,AD c1,AD c2]
 show J9 cBC C OC _ _ _ _
 rw[e]
 exact h
abbrev rP:wG:=["row", "number"]
theorem Tu:rP.Nodup:=by decide +kernel
theorem Zo:Gj Mm Mm (HS WX):=Hx
noncomputable def Iv(t:Gi):IG:=(t.1,[t.2,1])
noncomputable def Jr(k:Str)(n:Nat)(ts:List Gi):List IG:=if k = "power" then MD n ts else (KC k n ts).map Iv
theorem cE(c:Int)(r:wB):Nq (r,[c,1]):=⟨c,1,rfl,by decide,by decide,by
 unfold Ki
 rw[Nat.gcd_one_right]
 show [c / (1:Int),(1:Int) / 1]=[c,1]
 rw[EG]
 rfl⟩
def Qx(cBC C:wO):Sp:=λvs H Q E=>∃(k:Str)(v1 v2:V),vs=[.str k,v1,v2]/\QE cBC C (Jr k) Nq [v1,v2] H Q E
theorem ZF{cBC C:wO}(F:Hi K "shared_telling" "shared_telling" WX f fd)(G0:Hh P w K mg base 13 "by_power" ["many", "some"] (QE cBC C MD Nq))(G1:Hh P w K mg base 13 "whole_telling" Mm (VJ cBC C)):Gx P w K mg base (IB P w) 14 f fd Mm (Qx cBC C):=by
 refine Kc F Zo λHQ A outer s H vs Q E hr h=>?_
 obtain⟨k,v1,v2,rfl,h⟩:=h
 refine⟨_,HP (IP (II ME (pv 0) IT (IE _)) (HL (Hk (Io G0 hr rfl Je (Ge (pv 1) (Ge (pv 2) Gk))))) IQ)
  (HL (Hk (Iy (N':=rP) (src:=[none,none]) rfl (IW (Io G1 hr rfl Je (Ge (pv 0) (Ge (pv 1) (Ge (pv 2) Gk))))) (Ir (HS WX) Mm (by decide +kernel))
   (λb=>Im rfl (Hw (HW (i:=0) Tu rfl (Or.inl rfl)) (Hw (HW (i:=1) Tu rfl (Or.inl rfl)) Ik))) (λb=>JX)
   (λb=>Hd (Ge (pv 0) (Ge (Hd (Ge (pv 1) (Ge HM Gk))) Gk)))))),?_⟩
 refine⟨_,rfl,rfl,_,rfl,?_⟩
 by_cases c0:k = "power"
 ·refine Jq (Pu c0) ⟨_,rfl,_,rfl,?_⟩
  have e:MD=Jr k:=by funext n ts;unfold Jr;rw[AF c0]
  show QE cBC C MD Nq _ _ _ _
  rw[e]
  exact h
 refine JV (OJ c0) ⟨_,rfl,_,rfl,_,rfl,k,v1,v2,rfl,?_⟩
 refine Jm.mono h (λn ts ⟨b,x1,x2,x3,x4,q⟩=>⟨b,x1,x2,x3,x4,λl H1 h1 s1 hL few=>?_⟩) λ_ _ _ z=>z
 have eS:Jr k n ts=(KC k n ts).map Iv:=by unfold Jr;rw[AD c0]
 rw[eS]at q
 generalize KC k n ts=W at *
 obtain⟨ws,eW,iW⟩:=hL
 have lw:=AL iW
 refine⟨l,rfl,⟨_,HJ.of eW⟩,λbk D hD=>?_⟩
 refine KL (α:=IG) hD (HJ.of eW) (λσ=>∃c d,σ=[c,d]) (λi=>(W[i]?).bind λt=>some (Iv t)) (small (by lia)) ⟨_,_,rfl⟩ ?_ ?_
 ·rintro i x σ H2 Yes No hx ⟨c,d,rfl⟩ s2 yes no
  obtain⟨t,ht,hi⟩:=Ib iW hx
  obtain⟨p,kk,rfl,hp,hkk⟩:=JO hi
  refine⟨p,_,rfl,HK.of (s2 _ _ hp),rfl,_,_,rfl,_,_,rfl,rfl,?_⟩
  refine Kj ?_
  refine⟨_,rfl,_,rfl,Hr,λt3 h3=>⟨Hr,λt4 h4=>?_⟩⟩
  have s3:=Gy h3 (.tup [.int t.2,.int 1])
  have s4:=Gy h4 (.tup [.ref kk,.ref t3])
  exact yes _ _ _ (Iv t) ⟨_,_,rfl⟩ (s3.trans s4) (by rw[ht];rfl) (Kg (t:=Iv t) Gu (s4 _ _ (s3 _ _ (s2 _ _ hkk))) (s4 _ _ Gu))
 rintro H2 s2 h2
 rw[lw,Jg,Au]at h2
 refine q D H2 (s1.free hD) (s1.trans s2) h2 (by rw[AB];lia) λt ht=>?_
 obtain⟨u,hu,rfl⟩:=AY.mp ht
 exact cE _ _
def Jn(x:IG):Nat:=(x.2.getD 1 0).toNat
def Ly(x:IG):Int:=x.2.getD 0 0
structure Xp(x:IG):Prop where
 is_:x.2=[Ly x,(Jn x:Int)]
 pos:1<=Jn x
 low:Jn x<1152921504606846976
noncomputable def NI(X:List IG):Nat:=X.foldl (λs x=>Nat.lcm s (Jn x)) 1
theorem mF(X:List IG)(x:IG):NI (X++[x])=Nat.lcm (NI X) (Jn x):=by
 unfold NI
 rw[Bv]
 rfl
theorem pA:∀X:List IG,(∀x∈X,1<=Jn x)->1<=NI X:=by
 have key:∀(X:List IG)(s:Nat),1<=s->(∀x∈X,1<=Jn x)->1<=X.foldl (λs x=>Nat.lcm s (Jn x)) s:=by
  intro X
  induction X with
  |nil=>intro s h _;exact h
  |cons x X ih =>
   intro s h hx
   exact ih _ (Nat.lcm_pos h (hx x (AJ ..))) λy hy=>hx y (AM _ hy)
 exact λX h=>key X 1 (AG _) h
noncomputable abbrev uU:wG:=["telling", "common", "row", "share"]
theorem Lw:Gj uU ["telling"] (HS Xv):=Hx
def VW:Sp:=λvs H Q _=>∃(l:wO)(T:List IG),vs=[.ref l]/\Gf H l T/\(∀t∈T,Xp t)/\(∀i,NI (T.take i)<2^100)/\Q (.int (NI T:Int)) H
theorem bM(F:Hi K "common_bottom" "common_bottom" Xv f fd)(GC:Hl P w K mg base 3 "common_divisor" ["one", "other"] OU):Gx P w K mg base Ho 4 f fd ["telling"] VW:=by
 refine IJ F Lw λHQ A outer s H vs Q E hr h=>?_
 obtain⟨l,T,rfl,⟨us,eL,iL⟩,hT,hB,q⟩:=h
 refine⟨_,HP (Hj (i:=1) Lw.nd rfl (Or.inl rfl) HM)
  (HP (Ii Ar rfl (IW (pv 0)) (Im rfl (Hw (HW (i:=2) Lw.nd rfl (Or.inl rfl)) (Hw (HW (i:=3) Lw.nd rfl (Or.inl rfl)) Ik)))
   (HL (Hj (i:=1) Lw.nd rfl (Or.inl rfl) (HV Vv (HV Lr (pv 1) (Ix Ks (pv 3) HM (λ_ _=>rfl))) (Hm GC hr rfl (Ge (pv 1) (Ge (Ix Ks (pv 3) HM (λ_ _=>rfl)) Gk)))))))
  (HL (Hk (pv 1)))),?_⟩
 have lu:=AL iL
 refine⟨_,rfl,l,rfl,⟨us,HJ.of eL⟩,?_⟩
 refine Jd (xs:=us) (λi σ H'=>(∃c2 c3,σ=[some (.ref l),some (.int (NI (T.take i):Int)),c2,c3])/\H'=H) ?_ ?_ ?_ ?_
 ·exact⟨⟨_,_,rfl⟩,rfl⟩
 ·rintro i σ H1 _ ⟨_,rfl⟩
  exact HJ.of eL
 ·rintro i x σ H1 hx ⟨⟨c2,c3,rfl⟩,rfl⟩
  obtain⟨t,ht,hi⟩:=Ib iL hx
  obtain⟨p,k,q',rfl,hp,hk,hq⟩:=SR hi
  have tm:=Aa ht
  have fp:=hT t tm
  rw[fp.is_]at hq
  have lp:=pA (T.take i) λx hx=>(hT x (Bp hx)).pos
  have lb:=hB i
  rw[JK ht,mF]
  generalize NI (T.take i)=m at *
  have fl:=fp.low
  have fpos:=fp.pos
  generalize Jn t=b at *
  refine⟨p,_,rfl,HK.of hp,rfl,_,_,rfl,_,_,rfl,rfl,?_⟩
  have g0:0<Nat.gcd m b:=Ds _ fpos
  have g1:Nat.gcd m b<=b:=Nat.gcd_le_right _ fpos
  refine⟨_,rfl,_,rfl,q',_,_,.int (b:Int),rfl,rfl,HK.of hq,KH (j:=1) rfl,_,_,rfl,rfl,⟨?_,?_⟩,_,rfl,_,rfl,q',_,_,.int (b:Int),rfl,rfl,HK.of hq,KH (j:=1) rfl,m,b,rfl,_,_,rfl,rfl,⟨?_,?_⟩,?_⟩
  ·rw[El];exact DO lb (CC (by decide) (by decide))
  ·exact QW (by lia)
  ·show(0:Int)<((Nat.gcd m b:Nat):Int);lia
  ·show((Nat.gcd m b:Nat):Int)<1152921504606846976;lia
  ·have eL:((Nat.lcm m b:Nat):Int)=(m:Int)*(b:Int) / ((Nat.gcd m b:Nat):Int):=by unfold Nat.lcm;rw[Int.natCast_ediv,FY]
   rw[eL]
   exact⟨⟨_,_,rfl⟩,rfl⟩
 ·rintro σ H1 ⟨⟨c2,c3,rfl⟩,rfl⟩
  rw[AW (by lia)]
  exact⟨_,rfl,q⟩
noncomputable abbrev tE:wG:=["kind", "many", "telling", "often", "terms", "row", "share", "top"]
noncomputable abbrev oX:wG:=["kind", "many", "telling", "often"]
abbrev qU:wG:=["powers", "number", "top"]
theorem U8:qU.Nodup:=by decide +kernel
theorem Ln:Gj tE oX (HS WA):=Hx
noncomputable def LY(n o:Nat)(T:List IG):List Gi:=T.flatMap λt=>scl (Ly t*((o:Int) / (Jn t:Int))) (Ie n t.1)
theorem ZM(n o:Nat)(T:List IG)(t:IG):LY n o (T++[t])=LY n o T++scl (Ly t*((o:Int) / (Jn t:Int))) (Ie n t.1):=by
 unfold LY
 rw[Be,BW]
theorem ZE{n o:Nat}(n4:n<=4):∀T:List IG,(∀t∈T,t.1.length<=n)->(LY n o T).length<=24*T.length
 |[],_=>by simp [LY]
 |t::T,h=>by
  have ih:=ZE (o:=o) n4 T λu hu=>h u (AM _ hu)
  have:=Ud (h t (AJ ..)) n4
  show(scl _ (Ie n t.1)++LY n o T).length<=_
  rw[AI,ND,Aj]
  lia
def TU:Sp:=λvs H Q _=>∃(n o:Nat)(l:wO)(T:List IG),vs=[.str "exchange",.int n,.ref l,.int o]/\1<=n/\n<=4/\Gf H l T/\T.length<=1000/\o<2^100/\(∀t∈T,Xp t/\(Ly t).natAbs<2^2000/\t.1.length<=n/\IN t.1=true) /\
 ∀(a:wO)(H':Hp),H a=none->Gh H H'->Gf H' a (norm (LY n o T))->Q (.ref a) H'
theorem Z0(F:Hi K "summed_up" "summed_up" WA f fd)(GS:Hl P w K mg base 8 "sum_by" Nm VT)(GG:Hl P w K mg base 8 "gathered" ["terms"] Qm):Gx P w K mg base Ho 9 f fd oX TU:=by
 refine IJ F Ln λHQ A outer s H vs Q E hr h=>?_
 obtain⟨n,o,l,T,rfl,n1,n4,⟨us,eL,iL⟩,lT,ho,hT,q⟩:=h
 refine⟨_,HP (Hj (i:=4) Ln.nd rfl (Or.inl rfl) (IC Gk))
  (HP (Ii Ar rfl (IW (pv 2)) (Im rfl (Hw (HW (i:=5) Ln.nd rfl (Or.inl rfl)) (Hw (HW (i:=6) Ln.nd rfl (Or.inl rfl)) Ik)))
   (HP (Hj (i:=7) Ln.nd rfl (Or.inr rfl) (HV Lr (Ix Ks (pv 6) HM (λ_ _=>rfl)) (HV Vv (pv 3) (Ix Ks (pv 6) HM (λ_ _=>rfl)))))
   (HL (Iq (LQ BE FF FG Ur (pv 4) (Ge (Iy (N':=qU) (src:=[none,none,some 7]) rfl (IW (Hm GS hr rfl (Ge (pv 0) (Ge (pv 1) (Ge (pv 5) Gk))))) (Ir (HS WA) tE (by decide +kernel))
    (λb=>Im rfl (Hw (HW (i:=0) U8 rfl (Or.inl rfl)) (Hw (HW (i:=1) U8 rfl (Or.inl rfl)) Ik))) (λb=>JX)
    (λb=>Hd (Ge (pv 0) (Ge (HV Lr (pv 2) (pv 1)) Gk)))) Gk))))))
  (HL (Hk (Hm GG hr rfl (Ge (pv 4) Gk))))),?_⟩
 have lu:=AL iL
 refine⟨JN,λlR hR=>?_⟩
 have s0:=Gy hR (.lst [])
 refine⟨_,rfl,l,rfl,⟨us,HJ.of (s0 _ _ eL)⟩,?_⟩
 refine Jd (xs:=us) (λi σ H'=>(∃c5 c6 c7,σ=[some (.str "exchange"),some (.int n),some (.ref l),some (.int o),some (.ref lR),c5,c6,c7])/\Gf H' lR (LY n o (T.take i))/\Gh H H') ?_ ?_ ?_ ?_
 ·exact⟨⟨_,_,_,rfl⟩,⟨[],Gu,.nil⟩,s0⟩
 ·rintro i σ H1 _ ⟨_,_,s1⟩
  exact HJ.of (s1 _ _ eL)
 ·rintro i x σ H1 hx ⟨⟨c5,c6,c7,rfl⟩,hW,s1⟩
  obtain⟨t,ht,hi⟩:=Ib iL hx
  obtain⟨p,kk,q',rfl,hp,hk,hq⟩:=SR hi
  have tm:=Aa ht
  obtain⟨fp,tb,tl,tr⟩:=hT t tm
  have il:i<T.length:=(Ae.mp ht).1
  have fw:=ZE (o:=o) n4 (T.take i) λu hu=>(hT u (Bp hu)).2.2.1
  rw[Ah]at fw
  have ex:=Ud tl n4
  rw[fp.is_]at hq
  rw[JK ht,ZM]
  have b0:=fp.pos
  have b1:=fp.low
  have hq1:=s1 _ _ hq
  refine⟨p,_,rfl,HK.of (s1 _ _ hp),rfl,_,_,rfl,_,_,rfl,rfl,?_⟩
  have ob:(((o:Int) / (Jn t:Int))).natAbs<2^100:=by
   rw[<-Int.natCast_ediv,El]
   exact BD (Nat.div_le_self _ _) ho
  refine⟨_,rfl,q',_,_,.int (Ly t),rfl,rfl,HK.of hq1,KH (j:=0) rfl,_,rfl,_,rfl,q',_,_,.int (Jn t:Int),rfl,rfl,HK.of hq1,KH (j:=1) rfl,_,_,rfl,rfl,⟨by lia,by lia⟩,_,_,rfl,rfl,⟨Jb tb (by decide),Jb ob (by decide)⟩,?_⟩
  have mb:(Ly t*((o:Int) / (Jn t:Int))).natAbs<2^3000:=by
   rw[EY]
   refine Ai (Nat.mul_lt_mul'' tb ob) ?_
   rw[<-D8]
   exact DW (by decide) (by decide)
  show JF 7 (V.int (Ly t*((o:Int) / (Jn t:Int)))) _ _ _
  generalize Ly t*((o:Int) / (Jn t:Int))=c at *
  obtain⟨ws,eW,iW⟩:=id hW
  have lw:=AL iW
  refine⟨_,rfl,.inl ⟨rfl,_,HJ.of eW⟩,_,rfl,_,rfl,_,rfl,n,kk,t.1,rfl,n1,n4,s1 _ _ hk,tl,tr,λl2 H2 h2 s2 hE=>?_⟩
  obtain⟨vs,eE,iE⟩:=hE
  have lE:=AL iE
  refine⟨l2,rfl,⟨_,HJ.of eE⟩,λbk D hD=>?_⟩
  refine KL (α:=Gi) hD (HJ.of eE) (λσ=>∃a b,σ=[a,b,some (.int c)]) (λi=>((Ie n t.1)[i]?).bind λu=>some (u.1,c*u.2)) (small (by lia)) ⟨_,_,rfl⟩ ?_ ?_
  ·rintro j x σ H3 Yes No hx ⟨a,b,rfl⟩ s3 yes no
   obtain⟨u,hu,hi⟩:=Ib iE hx
   obtain⟨pu,ku,rfl,hpu,hku⟩:=JO hi
   have u2:u.2=1:=by
    obtain⟨y,hy,rfl⟩:=AY.mp (Aa hu)
    rfl
   refine⟨pu,_,rfl,HK.of (s3 _ _ hpu),rfl,_,_,rfl,_,_,rfl,rfl,?_⟩
   refine Kj ?_
   refine⟨_,rfl,_,rfl,_,rfl,_,_,rfl,rfl,⟨Jb mb (by decide),by rw[u2];exact QW (by decide)⟩,Hr,λp4 h4=>?_⟩
   have s4:=Gy h4 (.tup [.ref ku,.int (c*u.2)])
   exact yes _ _ _ (u.1,c*u.2) ⟨_,_,rfl⟩ s4 (by rw[hu];rfl) (JB (t:=(u.1,c*u.2)) Gu (s4 _ _ (s3 _ _ hku)))
  rintro H3 s3 hS
  rw[lE,Jg,Au]at hS
  obtain⟨zs,eZ,iZ⟩:=hS
  have iZ:Hs H3 zs (scl c (Ie n t.1)):=iZ
  have lz:=AL iZ
  rw[ND]at lz
  have z:=s2.trans s3
  have eW3:=z _ _ eW
  refine⟨lR,D,ws,zs,rfl,rfl,eW3,eZ,small (by lia),⟨_,_,_,rfl⟩,⟨ws++zs,Gu,Paired.app (Hs.mono ((HX.same z).trans (Km eW3 _)) iW) (Hs.mono (Km eW3 _) iZ)⟩,L9 hR (s1.trans z) _⟩
 ·rintro σ H1 ⟨⟨c5,c6,c7,rfl⟩,hW,s1⟩
  rw[AW (by lia)]at hW
  have fw:=ZE (o:=o) n4 T λu hu=>(hT u hu).2.2.1
  refine⟨_,rfl,lR,LY n o T,rfl,hW,λt ht=>?_,by lia,λa H2 h2 s2 hL=>q a H2 (s1.free h2) (s1.trans s2) hL⟩
  obtain⟨u,hu,hm⟩:=Ba.mp ht
  obtain⟨y,hy,rfl⟩:=AY.mp hm
  have:=dR (hT u hu).2.2.1 y hy
  intro e
  rw[e]at this
  simp at this
  lia
end
section
variable{P:wP}{w:wQ}{K:wL}{mg:Str->wI}{base:Heap}{f g:wO}{fd gd:wR}
theorem VU{n:Nat}{ts:List Gi}(h:Hc n ts)(l:∀t∈ts,t.1.length=n):KW ts (n-1) none:=λk hk=>by
 unfold MM
 refine(XD (b:=[]) λp=>?_).trans rfl
 have e:=congrArg (λf=>cf f p) (h k (by lia))
 simp only[KG]at e
 rw[Oy,J5 p (ngt _),Oc,<-J5]
 show cf ts p + - cf (norm (Jw ts k)) p=0
 rw[KG,e]
 lia
end
section
variable{P:wP}{w:wQ}{K:wL}{mg:Str->wI}{base:Heap}{f g:wO}{fd gd:wR}
theorem Zr{n:Nat}{f g:List Gi}(hf:Hc n f)(hg:Hc n g)(lf:∀t∈f,t.1.length=n)(lg:∀t∈g,t.1.length=n)(h:∀p:Pw,((∃t∈f,t.1=p)∨∃t∈g,t.1=p)->(∀k,k+1<p.length->p.getD (k+1) 0<=p.getD k 0)->cf f p=cf g p):norm f=norm g:=by
 have eD:Hc n (norm (f++ngt g)):=(WR hf (To hg)).norm
 have mD:∀t∈norm (f++ngt g),(∃u∈f,u.1=t.1)∨∃u∈g,u.1=t.1:=λt ht=>by
  obtain⟨u,hu,e⟩:=LK ht
  rcases Aq.mp hu with hu|hu
  ·exact .inl ⟨u,hu,e⟩
  ·obtain⟨v,hv,rfl⟩:=AY.mp hu
   exact .inr ⟨v,hv,e⟩
 have lD:∀t∈norm (f++ngt g),t.1.length=n:=λt ht=>by
  rcases mD t ht with⟨u,hu,e⟩|⟨u,hu,e⟩
  ·rw[<-e];exact lf u hu
  ·rw[<-e];exact lg u hu
 have c:=Jt (f++ngt g)
 have k0:∀p,cf (norm (f++ngt g)) p=cf f p-cf g p:=λp=>by
  rw[KG,Oy,J5 p (ngt g),Oc,<-J5]
  lia
 generalize norm (f++ngt g)=D at *
 cases D with
 |nil =>
  refine XD λp=>?_
  have:=k0 p
  have e0:cf ([]:List Gi) p=0:=rfl
  lia
 |cons t r =>
  exfalso
  have tm:=AJ (a:=t) (l:=r)
  have t0:=c.num t tm
  have e:=c.head
  have l:=lD t tm
  have:=h t.1 (mD t tm) λk hk=>rF c eD lD (by rw[l]at hk;exact hk)
  have:=k0 t.1
  lia
noncomputable def sN(n:Nat)(p:Pw):Bool:=decide ((Iz p).length<=n)&&IN (Iz p)&&Jf p&&(List.range (n-1)).all (λj=>decide (norm (Jw (Ie n (Iz p)) j)=norm (Ie n (Iz p))))&&(Ie n (Iz p)).all (λt=>decide (t.1.length=n)&&t.1.all (λx=>decide (0<=x))&&decide (t.1.sum<=8))&&(fl n).all (λq=>decide (cf (Ie n (Iz p)) q=if p=q then 1 else 0))
theorem Yl:∀n∈[1,2,3,4],(fl n).all (sN n)=true:=by decide +kernel
structure bR(n:Nat)(p:Pw):Prop where
 len:(Iz p).length<=n
 row:IN (Iz p)=true
 fal:Jf p=true
 ev:Hc n (Ie n (Iz p))
 ter:∀t∈Ie n (Iz p),t.1.length=n/\(∀x∈t.1,0<=x)/\t.1.sum<=8
 at_:∀q∈fl n,cf (Ie n (Iz p)) q=if p=q then 1 else 0
theorem UZ{n:Nat}{p:Pw}(n1:1<=n)(n4:n<=4)(h:p∈fl n):bR n p:=by
 have:=AZ.mp (Yl n (K0 n1 n4)) p h
 unfold sN at this
 simp only[AK,AV,AZ]at this
 obtain⟨⟨⟨⟨⟨h1,h2⟩,h3⟩,h4⟩,h5⟩,h6⟩:=this
 exact⟨h1,h2,h3,λk hk=>h4 k (At.mpr (by lia)),λt ht=>⟨(h5 t ht).1.1,(h5 t ht).1.2,(h5 t ht).2⟩,h6⟩
theorem Qg{p:Pw}(h:Jf p=true):∀k,k+1<p.length->p.getD (k+1) 0<=p.getD k 0:=λk hk=>by
 have e:=(Wv p).mp h
 have f:p.Pairwise λa b=>b<=a:=by rw[e];exact XR p
 have:=Cw.mp f k (k+1) (by lia) hk (by lia)
 rw[Ao,Ao,AT hk,AT (show k<p.length by lia)]
 exact this
theorem Q6(G:Pw->Int):∀ts:List Gi,sm G (Jk ts)=sm (λp=>if Jf p=true then G (Iz p) else 0) ts
 |[]=>rfl
 |t::ts=>by
  have ih:sm G (ts.filterMap Lm)=sm (λp=>if Jf p=true then G (Iz p) else 0) ts:=Q6 G ts
  show sm G ((t::ts).filterMap Lm)=t.2*(if Jf t.1=true then G (Iz t.1) else 0)+sm (λp=>if Jf p=true then G (Iz p) else 0) ts
  rw[Br]
  by_cases h:Jf t.1=true
  ·rw[show Lm t=some (Iz t.1,t.2) from AF h,AF h,<-ih]
   rfl
  ·rw[show Lm t=none from AD h,AD h,<-ih]
   show sm G (ts.filterMap Lm)=_
   lia
noncomputable def QH(n:Nat)(T:List Gi):List Gi:=T.flatMap λt=>scl t.2 (Ie n t.1)
theorem Qj(n:Nat)(q:Pw):∀T:List Gi,cf (QH n T) q=sm (λr=>cf (Ie n r) q) T
 |[]=>rfl
 |t::T=>by
  have ih:=Qj n q T
  show cf (scl t.2 (Ie n t.1)++QH n T) q=t.2*cf (Ie n t.1) q+sm (λr=>cf (Ie n r) q) T
  rw[Oy,ih,J5 q (scl _ _),NR,<-J5]
theorem lF(n:Nat)(T:List Gi):LY n 1 (T.map Iv)=QH n T:=by
 unfold LY QH
 rw[List.flatMap_map]
 congr 1
 funext t
 have e1:Ly (Iv t)=t.2:=rfl
 have e2:Jn (Iv t)=1:=rfl
 rw[e1,e2]
 show scl (t.2*1) _=_
 rw[D5]
 rfl
theorem Ph{n b:Nat}{ts:List Gi}(d:Deg n 8 b ts):∀t∈Jk ts,∃p∈fl n,t.1=Iz p/\t.2.natAbs<2^b:=λt ht=>by
 obtain⟨u,hu,e⟩:=C9.mp ht
 unfold Lm at e
 by_cases h1:Jf u.1=true
 ·rw[AF h1]at e
  cases e
  exact⟨u.1,UG (d.len u hu) (d.nn u hu) (d.sum u hu) (Pz (Qg h1)),rfl,d.num u hu⟩
 ·rw[AD h1]at e;cases e
theorem SA{n:Nat}(n1:1<=n)(n4:n<=4):∀T:List Gi,(∀t∈T,∃p∈fl n,t.1=Iz p)->Hc n (QH n T)/\∀t∈QH n T,t.1.length=n/\(∀x∈t.1,0<=x)/\t.1.sum<=8
 |[],_=>⟨λk hk=>rfl,λt ht=>by cases ht⟩
 |t::T,h=>by
  obtain⟨i1,i2⟩:=SA n1 n4 T λu hu=>h u (AM _ hu)
  obtain⟨p,hp,e⟩:=h t (AJ ..)
  have ok:=UZ n1 n4 hp
  have ev:=ok.ev
  have te:=ok.ter
  rw[<-e]at ev te
  refine⟨WR (X7 t.2 ev) i1,λu hu=>?_⟩
  rcases Aq.mp hu with hu|hu
  ·obtain⟨v,hv,rfl⟩:=AY.mp hu
   exact te v hv
  ·exact i2 u hu
theorem XT{n b:Nat}{ts:List Gi}(n1:1<=n)(n4:n<=4)(c:HU ts)(e:Hc n ts)(d:Deg n 8 b ts):norm (LY n 1 ((Jk ts).map Iv))=ts:=by
 rw[lF]
 obtain⟨ev,te⟩:=SA n1 n4 (Jk ts) λt ht=>by obtain⟨p,h1,h2,_⟩:=Ph d t ht;exact⟨p,h1,h2⟩
 refine Eq.trans (Zr ev e (λt ht=>(te t ht).1) d.len λq hq fq=>?_) (UJ c)
 have qm:q∈fl n:=by
  rcases hq with⟨t,ht,rfl⟩|⟨t,ht,rfl⟩
  ·exact UG (te t ht).1 (te t ht).2.1 (te t ht).2.2 (Pz fq)
  ·exact UG (d.len t ht) (d.nn t ht) (d.sum t ht) (Pz fq)
 rw[Qj,Q6,J5 q ts]
 refine NJ λt ht=>?_
 by_cases h1:Jf t.1=true
 ·rw[AF h1]
  exact(UZ n1 n4 (UG (d.len t ht) (d.nn t ht) (d.sum t ht) (Pz (Qg h1)))).at_ q qm
 ·rw[AD h1,AD]
  intro z
  rw[z]at h1
  exact h1 (UZ n1 n4 qm).fal
end
section
variable{P:wP}{w:wQ}{K:wL}{mg:Str->wI}{base:Heap}{f g:wO}{fd gd:wR}
noncomputable abbrev rV:wG:=["many", "telling", "kind", "other", "often", "some"]
noncomputable abbrev Tg:wG:=["many", "telling", "kind", "other"]
abbrev uA:wG:=["row", "share", "often"]
theorem Sl:uA.Nodup:=by decide +kernel
theorem O6:Gj rV Tg (HS NH):=Hx
@[irreducible] def JE (cBR cBC cNK cNB:wO):Sp:=λvs H Q E=>∃(n:Int)(l:wO)(T:List IG)(k o:Str),vs=[.int n,.ref l,.str k,.str o]/\Gf H l T/\(∀t∈T,t.1.length<=1000) /\
 (Jo T=false->∀H',Gh H H'->E (.ref cBR) none H') /\
 (Jo T=true->¬ (1<=n/\n<=4)->∀H',Gh H H'->E (.ref cBC) none H') /\
 (Jo T=true->1<=n/\n<=4->¬ (k∈HY/\o∈HY)->∀H',Gh H H'->E (.ref cNK) none H') /\
 (Jo T=true->1<=n/\n<=4->k∈HY/\o∈HY->NotIn cNB k n.toNat T H E) /\
 (Jo T=true->1<=n/\n<=4->k∈HY/\o∈HY->Nt k n.toNat T=true->k = "exchange" /\ ∃(b:Nat)(ts:List Gi),HU ts/\Hc n.toNat ts/\Deg n.toNat 8 b ts/\b<=1000/\T=(Jk ts).map Iv/\∀(l':wO)(H':Hp),H l'=none->Gh H H'->Gf H' l' (Jr o n.toNat ts)->Q (.ref l') H')
theorem NotIn.mono{cNB:wO}{k:Str}{n:Nat}{T:List IG}{H H1:Hp}{E:XK}(h:NotIn cNB k n T H E)(s:Gh H H1):NotIn cNB k n T H1 E:=λi t h1 h2 h3 H' d kk s' hd e1 e2=>h i t h1 h2 h3 H' d kk (s.trans s') (s.free hd) e1 e2
theorem S5:∀T:List Gi,NI (T.map Iv)=1:=by
 have key:∀T:List Gi,(T.map Iv).foldl (λs x=>Nat.lcm s (Jn x)) 1=1:=by
  intro T
  induction T with
  |nil=>rfl
  |cons t T ih =>
   rw[An,Bm,show Nat.lcm 1 (Jn (Iv t))=1 from by show Nat.lcm 1 1=1;decide]
   exact ih
 exact key
theorem W3{cBR cBC cNK cNB C:wO}(F:Hi K "carried" "carried" NH f fd)(GR:Hh P w K mg base 15 "refuse_bad_rows" ["telling"] (SS cBR))(GC:Hh P w K mg base 15 "refuse_bad_count" ["many"] (Va cBC))(GK:Hh P w K mg base 15 "refuse_no_kind" ["kind"] (RJ cNK))(GN:Hh P w K mg base 15 "refuse_not_by" hJ (Ru cNB))(GB:Hl P w K mg base 15 "common_bottom" ["telling"] VW)(GS:Hl P w K mg base 15 "summed_up" oX TU)(GH:Hh P w K mg base 15 "shared_telling" Mm (Qx cBC C))(GF:Hl P w K mg base 15 "fraction" ["top", "bottom"] PX):Gx P w K mg base (IB P w) 16 f fd Tg (JE cBR cBC cNK cNB):=by
 refine Hi.okx F O6 (λvs H Q E h=>?_) (λHQ A outer s H vs Q E hr h=>?_)
 ·unfold JE at h
  obtain⟨n,l,T,k,o,rfl,_⟩:=h
  rfl
 unfold JE at h
 obtain⟨n0,l,T,k,o,rfl,hL,h1000,e1,e2,e3,e4,q⟩:=h
 refine⟨_,HP (Iq (Io GR hr rfl Je (Ge (pv 1) Gk)))
  (HP (Iq (Io GC hr rfl Je (Ge (pv 0) Gk)))
  (HP (Iq (Io GK hr rfl Je (Ge (pv 2) Gk)))
  (HP (Iq (Io GK hr rfl Je (Ge (pv 3) Gk)))
  (HP (Iq (Io GN hr rfl Je (Ge (pv 2) (Ge (pv 0) (Ge (pv 1) Gk)))))
  (HP (Hj (i:=4) O6.nd rfl (Or.inr rfl) (Hm GB hr rfl (Ge (pv 1) Gk)))
  (HP (Hj (i:=5) O6.nd rfl (Or.inl rfl) (Hm GS hr rfl (Ge (pv 2) (Ge (pv 0) (Ge (pv 1) (Ge (pv 4) Gk))))))
  (HL (Hk (Iy (N':=uA) (src:=[none,none,some 4]) rfl (IW (Io GH hr rfl Je (Ge (pv 3) (Ge (pv 0) (Ge (pv 5) Gk))))) (Ir (HS NH) rV (by decide +kernel))
   (λb=>Im rfl (Hw (HW (i:=0) Sl rfl (Or.inl rfl)) (Hw (HW (i:=1) Sl rfl (Or.inl rfl)) Ik))) (λb=>JX)
   (λb=>Hd (Ge (pv 0) (Ge (Hm GF hr rfl (Ge (Ix Ks (pv 1) HM (λ_ _=>rfl)) (Ge (HV Lr (Ix Ks (pv 1) HM (λ_ _=>rfl)) (pv 2)) Gk))) Gk)))))))))))),?_⟩
 refine⟨_,rfl,l,T,rfl,hL,h1000,λr H1 s1=>?_,e1⟩
 have e2:=e2 r
 have e3:=e3 r
 have e4:=e4 r
 have q:=q r
 refine⟨_,rfl,n0,rfl,λhn=>?_,λhn=>e2 hn _ s1⟩
 have e3:=e3 hn
 have e4:=e4 hn
 have q:=q hn
 refine⟨_,rfl,k,rfl,λhk=>?_,λhk=>e3 (λz=>hk z.1) _ s1⟩
 refine⟨_,rfl,o,rfl,λho=>?_,λho=>e3 (λz=>ho z.2) _ s1⟩
 have e4:=e4 ⟨hk,ho⟩
 have q:=q ⟨hk,ho⟩
 obtain⟨n,rfl⟩:∃n:Nat,n0=n:=⟨n0.toNat,by lia⟩
 rw[Af]at e4 q
 refine⟨_,rfl,_,rfl,_,rfl,k,n,l,T,rfl,hL.mono s1,λhl H2 s2=>?_,e4.mono s1⟩
 obtain⟨rfl,b,ts,hC,hE,hD,hb,rfl,q⟩:=q hl
 have n1:1<=n:=by lia
 have n4:n<=4:=by lia
 have s12:=s1.trans s2
 have hL2:=hL.mono s12
 have few:=Qt hC hD n1 n4
 have fe:=Do Lm ts
 have fp:∀t∈(Jk ts).map Iv,Xp t:=λt ht=>by
  obtain⟨u,_,rfl⟩:=AY.mp ht
  exact⟨rfl,(by show 1<=1;decide),(by show 1<1152921504606846976;decide)⟩
 refine⟨_,rfl,l,_,rfl,hL2,fp,λi=>?_,?_⟩
 ·rw[<-Gq,S5]
  decide
 rw[S5]
 show JF 4 (V.int 1) _ _ _
 refine⟨_,rfl,_,rfl,_,rfl,_,rfl,n,1,l,_,rfl,n1,n4,hL2,by rw[AB];unfold Jk;lia,by decide,λt ht=>?_,λa H3 h3 s3 hS=>?_⟩
 ·obtain⟨u,hu,rfl⟩:=AY.mp ht
  obtain⟨p,hp,ep,eb⟩:=Ph hD u hu
  have ok:=UZ n1 n4 hp
  refine⟨fp _ ht,Jb (show(Ly (Iv u)).natAbs<2^b from eb) (by lia),?_,?_⟩
  ·show u.1.length<=n
   rw[ep]
   exact ok.len
  ·show IN u.1=true
   rw[ep]
   exact ok.row
 rw[XT n1 n4 hC hE hD]at hS
 refine⟨_,rfl,_,rfl,_,rfl,o,_,_,rfl,n,a,ts,rfl,hS,by lia,λz=>absurd hn z,λ_=>⟨by rw[Af];exact hD.len,λ_=>?_,λk p z=>?_⟩⟩
 ·rw[Af]
  refine⟨b,hC,hE,hD,hb,λl4 H4 h4 s4 hL4 f4 g4=>?_⟩
  generalize Jr o n ts=W at *
  obtain⟨ws,eW,iW⟩:=hL4
  have lw:=AL iW
  refine⟨l4,rfl,⟨_,HJ.of eW⟩,λbk D hD'=>?_⟩
  have z:=s12.trans (s3.trans s4)
  refine KL (α:=IG) hD' (HJ.of eW) (λσ=>∃c d,σ=[c,d,some (.int 1)]) (λi=>(W[i]?).bind λt=>some t) (small (by lia)) ⟨_,_,rfl⟩ ?_ ?_
  ·rintro i x σ H5 Yes No hx ⟨c,d,rfl⟩ s5 yes no
   obtain⟨t,ht,hi⟩:=Ib iW hx
   obtain⟨p,kk,q',rfl,hp,hkk,hq⟩:=SR hi
   obtain⟨c0,b0,ef,b1,b2,e0⟩:=g4 t (Aa ht)
   rw[ef]at hq
   have hq5:=s5 _ _ hq
   refine⟨p,_,rfl,HK.of (s5 _ _ hp),rfl,_,_,rfl,_,_,rfl,rfl,?_⟩
   refine Kj ?_
   refine⟨_,rfl,_,rfl,q',_,_,.int c0,rfl,rfl,HK.of hq5,KH (j:=0) rfl,_,rfl,q',_,_,.int (b0:Int),rfl,rfl,HK.of hq5,KH (j:=1) rfl,_,rfl,_,_,rfl,rfl,⟨QW (by lia),QW (by decide)⟩,c0,b0,(by show [V.int c0,V.int ((b0:Int)*1)]=_;rw[D5]),b1,b2,λp6 H6 h6 s6 e6=>⟨Hr,λt7 h7=>?_⟩⟩
   have s7:=Gy h7 (.tup [.ref kk,.ref p6])
   rw[e0,<-ef]at e6
   exact yes _ _ _ t ⟨_,_,rfl⟩ (s6.trans s7) (by rw[ht];rfl) (Kg (t:=t) Gu (s7 _ _ (s6 _ _ (s5 _ _ hkk))) (s7 _ _ e6))
  rintro H5 s5 h5
  rw[lw,Jg,Au,List.map_id']at h5
  exact q D H5 (z.free hD') (z.trans s5) h5
 ·rw[Af]at z
  exact absurd ((VU hE hD.len).one z) (by intro y;cases y)
theorem Yi{cBR cBC cNK cNB:wO}{vs:List V}{H:Hp}{Q Q2:VK}{E E2:XK}(h:JE cBR cBC cNK cNB vs H Q E)(hQ:∀v H',Q v H'->Q2 v H')(hE:∀c d H',E c d H'->E2 c d H'):JE cBR cBC cNK cNB vs H Q2 E2:=by
 unfold JE at h ⊢
 obtain⟨n0,l,T,k,o,rfl,hL,h1000,e1,e2,e3,e4,q⟩:=h
 refine⟨n0,l,T,k,o,rfl,hL,h1000,λa H' s=>hE _ _ _ (e1 a H' s),λa b H' s=>hE _ _ _ (e2 a b H' s),λa b c H' s=>hE _ _ _ (e3 a b c H' s),λa b c i t x1 x2 x3 H' d kk s x4 x5 x6=>hE _ _ _ (e4 a b c i t x1 x2 x3 H' d kk s x4 x5 x6),λa b c d=>?_⟩
 obtain⟨y,z,ts,x1,x2,x3,x4,x5,q⟩:=q a b c d
 exact⟨y,z,ts,x1,x2,x3,x4,x5,λl' H' h s e=>hQ _ _ (q l' H' h s e)⟩
end
section
variable{P:wP}{w:wQ}{K:wL}{mg:Str->wI}{base:Heap}{f g:wO}{fd gd:wR}
theorem Ul{X:Cx}{x:Str}{j}{pos:Pos}{es:wJ}{t:TA}(hr:PA X es t):PA X (.Constant (.str x) j pos::es) (UW (tC (.str x)) t):=Ge IT hr rfl
theorem SO{X:Cx}:∀xs:List (Str×Nat×Pos),PA X (xs.map λq=>Expr.Constant (.str q.1) q.2.1 q.2.2) (λσ H Q=>Q (xs.map λq=>V.str q.1) H)
 |[]=>Gk
 |q::r=>λpos Fj s σ H Q I h=>(Ge (X:=X) (e:=Expr.Constant (.str q.1) q.2.1 q.2.2) IT (SO r) rfl) pos Fj s σ H Q I h
def PD(xs:wG):TE:=λ_ H Q=>xs.length<=sizeLine/\∀p,H p=none->Q (.ref p) (Gw H p (.lst (xs.map V.str)))
theorem Q1{X:Cx}{pl:Pos}(xs:List (Str×Nat×Pos)):PE X (.List (xs.map λq=>Expr.Constant (.str q.1) q.2.1 q.2.2) pl) (PD (xs.map λq=>q.1)):=λFj s σ H Q I h=>(IC (pos:=pl) (SO xs)) Fj s σ H Q I ⟨by rw[AB];have:=h.1;rwa [AB]at this,λp hp=>by have:=h.2 p hp;rwa [Cm]at this⟩
@[irreducible] def KR (p:Prop):Prop:=p
theorem aP{X:Cx}{i:Nat}{x:Str}{pos' pl pos:Pos}(xs:List (Str×Nat×Pos))(hN:X.N.Nodup)(hi:X.N[i]?=some x)(hx:Loc X.env.scope x)(hf:X.fn x=true∨X.env.scope.names.lookup x=some .local) :
  KR (PS X (.Assign [.Name x pos'] (.List (xs.map λq=>Expr.Constant (.str q.1) q.2.1 q.2.2) pl) pos) (LF (PD (xs.map λq=>q.1)) (JF i))):=by
 unfold KR
 exact Hj hN hi hx (Q1 xs) rfl hf
theorem jX{X:Cx}{st:Stmt}{Hg:List Stmt}{t u:TS}(h1:KR (PS X st t))(h2:Iw X Hg u):KR (Iw X (st::Hg) (MR t u)):=by
 unfold KR at h1 ⊢
 exact HP h1 h2
theorem pY{X:Cx}{st:Stmt}{Hg:List Stmt}{t u:TS}(h1:PS X st t)(h2:KR (Iw X Hg u)):Iw X (st::Hg) (MR t u):=by
 unfold KR at h2
 exact HP h1 h2
def Pm(K:wL)(C:wO)(ds:wH)(bs:List Bool):Prop:=ds.length=bs.length/\∀(i:Nat)(d:wO)(b:Bool),ds[i]?=some d->bs[i]?=some b->W.kitOne K (.ref C) (.ref d)=some b
noncomputable abbrev nF:wG:=["_law_caught", "_law_some", "_law_names", "_law_found"]
noncomputable abbrev bF:wG:=["_law_name", "_law_truth"]
theorem tV:bF.Nodup:=by decide +kernel
theorem Na:Gj nF ["_law_caught"] (HS Wk):=Hx
noncomputable def L6:wG:=["count", "powers", "great", "row", "weights", "long", "uneven", "kind", "by", "text", "line", "badname", "name"]
noncomputable def MZ(bs:List Bool):wG:=(List.range 13).filterMap λi=>if bs.getD i false=true then some (L6.getD i "") else none
theorem hV{bs:List Bool}{i:Nat}{v:V}(h:(bs.map V.bl)[i]?=some v):v=.bl (bs.getD i false):=by
 rw[Al]at h
 rw[Ao]
 cases e:bs[i]? with
 |none=>rw[e]at h;cases h
 |some c=>rw[e]at h;exact(Ap h).symm
theorem Xz{xs:wG}{i:Nat}{v:V}(h:(xs.map V.str)[i]?=some v):v=.str (xs.getD i ""):=by
 rw[Al]at h
 rw[Ao]
 cases e:xs[i]? with
 |none=>rw[e]at h;cases h
 |some c=>rw[e]at h;exact(Ap h).symm
def VM(K:wL)(ds:wH):Sp:=λvs H Q _=>∃(od:Option wO)(c C:wO)(bs:List Bool),vs=[.ref c]/\H c=some (xE c (.ref C) od)/\Ja K C/\W.kitOne K (.ref C) (.type "ValueError")=some true/\Pm K C ds bs/\∀(l:wO)(H':Hp),H l=none->Gh H H'->Gf H' l (MZ bs)->Q (.ref l) H'
theorem mV{d0 d1 d2 d3 d4 d5 d6 d7 d8 d9 d10 d11 d12:wO}(F:Hi K "_law_called" "_law_called" Wk f fd)(mi:mg "isinstance" = none)(mz:mg "zip" = none)(mv:mg "ValueError" = none)(m0:mg "BadCount" = some (.ref d0))(m1:mg "BadPowers" = some (.ref d1))(m2:mg "TooGreat" = some (.ref d2))(m3:mg "BadRow" = some (.ref d3))(m4:mg "UnlikeWeights" = some (.ref d4))(m5:mg "TooLong" = some (.ref d5))(m6:mg "Uneven" = some (.ref d6))(m7:mg "NoKind" = some (.ref d7))(m8:mg "NotBy" = some (.ref d8))(m9:mg "NoText" = some (.ref d9))(m10:mg "NoLine" = some (.ref d10))(m11:mg "BadName" = some (.ref d11))(m12:mg "NoName" = some (.ref d12)):Gx P w K mg base Ho 2 f fd ["_law_caught"] (VM K [d0,d1,d2,d3,d4,d5,d6,d7,d8,d9,d10,d11,d12]):=by
 refine IJ F Na λHQ A outer s H vs Q E hr h=>?_
 obtain⟨od,c,C,bs,rfl,hc,hk,hv,⟨hl,hs⟩,q⟩:=h
 match bs,hl,hs,q with
 |[b0,b1,b2,b3,b4,b5,b6,b7,b8,b9,b10,b11,b12],_,hs,q =>
 have k0:=hs 0 _ _ rfl rfl
 have k1:=hs 1 _ _ rfl rfl
 have k2:=hs 2 _ _ rfl rfl
 have k3:=hs 3 _ _ rfl rfl
 have k4:=hs 4 _ _ rfl rfl
 have k5:=hs 5 _ _ rfl rfl
 have k6:=hs 6 _ _ rfl rfl
 have k7:=hs 7 _ _ rfl rfl
 have k8:=hs 8 _ _ rfl rfl
 have k9:=hs 9 _ _ rfl rfl
 have k10:=hs 10 _ _ rfl rfl
 have k11:=hs 11 _ _ rfl rfl
 have k12:=hs 12 _ _ rfl rfl
 refine⟨_,HP (IP (II ZK (pv 0) Uf (IE _)) (HL (Hk (IC Gk))) IQ)
  (HP (Hj (i:=1) Na.nd rfl (Or.inl rfl) (IC (Ge (Ia Ke rfl mi Av (Ge (pv 0) (Ge (KJ (v:=.ref d0) rfl m0 rfl) Gk))) (Ge (Ia Ke rfl mi Av (Ge (pv 0) (Ge (KJ (v:=.ref d1) rfl m1 rfl) Gk))) (Ge (Ia Ke rfl mi Av (Ge (pv 0) (Ge (KJ (v:=.ref d2) rfl m2 rfl) Gk))) Gk)))))
  (HP (Hj (i:=1) Na.nd rfl (Or.inl rfl) (HV NT (pv 1) (IC (Ge (Ia Ke rfl mi Av (Ge (pv 0) (Ge (KJ (v:=.ref d3) rfl m3 rfl) Gk))) (Ge (Ia Ke rfl mi Av (Ge (pv 0) (Ge (KJ (v:=.ref d4) rfl m4 rfl) Gk))) (Ge (Ia Ke rfl mi Av (Ge (pv 0) (Ge (KJ (v:=.ref d5) rfl m5 rfl) Gk))) Gk))))))
  (HP (Hj (i:=1) Na.nd rfl (Or.inl rfl) (HV NT (pv 1) (IC (Ge (Ia Ke rfl mi Av (Ge (pv 0) (Ge (KJ (v:=.ref d6) rfl m6 rfl) Gk))) (Ge (Ia Ke rfl mi Av (Ge (pv 0) (Ge (KJ (v:=.ref d7) rfl m7 rfl) Gk))) (Ge (Ia Ke rfl mi Av (Ge (pv 0) (Ge (KJ (v:=.ref d8) rfl m8 rfl) Gk))) Gk))))))
  (HP (Hj (i:=1) Na.nd rfl (Or.inl rfl) (HV NT (pv 1) (IC (Ge (Ia Ke rfl mi Av (Ge (pv 0) (Ge (KJ (v:=.ref d9) rfl m9 rfl) Gk))) (Ge (Ia Ke rfl mi Av (Ge (pv 0) (Ge (KJ (v:=.ref d10) rfl m10 rfl) Gk))) (Ge (Ia Ke rfl mi Av (Ge (pv 0) (Ge (KJ (v:=.ref d11) rfl m11 rfl) Gk))) Gk))))))
  (pY (Iq (LQ BE BN BO Lj (pv 1) (Ge (Ia Ke rfl mi Av (Ge (pv 0) (Ge (KJ (v:=.ref d12) rfl m12 rfl) Gk))) Gk)))
  (jX (aP (i:=2) [(_,_,_),(_,_,_),(_,_,_),(_,_,_),(_,_,_),(_,_,_),(_,_,_),(_,_,_),(_,_,_),(_,_,_),(_,_,_)] Na.nd rfl (Or.inl rfl) (Or.inr rfl))
  (HP (Hj (i:=2) Na.nd rfl (Or.inl rfl) (HV NT (pv 2) (IC (Ul (Ul Gk)))))
  (HP (Sx (i:=3) (N':=bF) (src:=[none,none]) Na.nd rfl (Or.inl rfl) rfl rfl (N0 .lst .lst rfl mz (Ge (pv 2) (Ge (pv 1) Gk))) (Ir (HS Wk) nF (by decide +kernel))
   (λb=>Im rfl (Hw (HW (i:=0) tV rfl (Or.inl rfl)) (Hw (HW (i:=1) tV rfl (Or.inl rfl)) Ik))) (λb=>PP (Ot (pv 1))) (λb=>pv 0))
  (HP (IP (Ot (Ia Ke rfl mi Av (Ge (pv 0) (Ge (qS (v:=.ty "ValueError") rfl mv PyProof.Rows.Boot.«ValueError» rfl) Gk)))) (HL (Hk (pv 3))) IQ)
  (HL RE)))))))))),?_⟩
 refine⟨_,rfl,rfl,_,rfl,JV (by intro z;cases z) ?_⟩
 refine⟨_,rfl,od,c,C,_,_,_,rfl,hc,hk,rfl,λ_ z=>z,k0,_,rfl,od,c,C,_,_,_,rfl,hc,hk,rfl,λ_ z=>z,k1,_,rfl,od,c,C,_,_,_,rfl,hc,hk,rfl,λ_ z=>z,k2,V0,λp0 h0=>?_⟩
 have s0:=Gy h0 (.lst [.bl b0,.bl b1,.bl b2])
 have hc0:=s0 _ _ hc
 have e0:Gw H p0 (.lst [.bl b0,.bl b1,.bl b2]) p0=some (.lst [.bl b0,.bl b1,.bl b2]):=Gu
 have z0:Gh H (Gw H p0 (.lst [.bl b0,.bl b1,.bl b2])):=s0
 generalize Gw H p0 (.lst [.bl b0,.bl b1,.bl b2])=G0 at *
 refine⟨_,rfl,_,rfl,od,c,C,_,_,_,rfl,hc0,hk,rfl,λ_ z=>z,k3,_,rfl,od,c,C,_,_,_,rfl,hc0,hk,rfl,λ_ z=>z,k4,_,rfl,od,c,C,_,_,_,rfl,hc0,hk,rfl,λ_ z=>z,k5,V0,λr1 hr1=>?_⟩
 have u1:=Gy hr1 (.lst [.bl b3,.bl b4,.bl b5])
 refine⟨p0,r1,_,_,rfl,rfl,u1 _ _ e0,Gu,small (by show 6<=100000;decide),λp1 hp1=>?_⟩
 have v1:=u1.trans (Gy hp1 (.lst [.bl b0,.bl b1,.bl b2,.bl b3,.bl b4,.bl b5]))
 have hc1:=v1 _ _ hc0
 have z1:Gh H (Gw (Gw G0 r1 (.lst [.bl b3,.bl b4,.bl b5])) p1 (.lst [.bl b0,.bl b1,.bl b2,.bl b3,.bl b4,.bl b5])):=z0.trans v1
 have e1:Gw (Gw G0 r1 (.lst [.bl b3,.bl b4,.bl b5])) p1 (.lst [.bl b0,.bl b1,.bl b2,.bl b3,.bl b4,.bl b5]) p1=some (.lst [.bl b0,.bl b1,.bl b2,.bl b3,.bl b4,.bl b5]):=Gu
 generalize hG1:Gw (Gw G0 r1 (.lst [.bl b3,.bl b4,.bl b5])) p1 (.lst [.bl b0,.bl b1,.bl b2,.bl b3,.bl b4,.bl b5])=G1 at *
 show JF 1 (.ref p1) _ (Gw (Gw G0 r1 (.lst [.bl b3,.bl b4,.bl b5])) p1 (.lst [.bl b0,.bl b1,.bl b2,.bl b3,.bl b4,.bl b5])) _
 rw[hG1]
 refine⟨_,rfl,_,rfl,od,c,C,_,_,_,rfl,hc1,hk,rfl,λ_ z=>z,k6,_,rfl,od,c,C,_,_,_,rfl,hc1,hk,rfl,λ_ z=>z,k7,_,rfl,od,c,C,_,_,_,rfl,hc1,hk,rfl,λ_ z=>z,k8,V0,λr2 hr2=>?_⟩
 have u2:=Gy hr2 (.lst [.bl b6,.bl b7,.bl b8])
 refine⟨p1,r2,_,_,rfl,rfl,u2 _ _ e1,Gu,small (by show 9<=100000;decide),λp2 hp2=>?_⟩
 have v2:=u2.trans (Gy hp2 (.lst [.bl b0,.bl b1,.bl b2,.bl b3,.bl b4,.bl b5,.bl b6,.bl b7,.bl b8]))
 have hc2:=v2 _ _ hc1
 have z2:Gh H (Gw (Gw G1 r2 (.lst [.bl b6,.bl b7,.bl b8])) p2 (.lst [.bl b0,.bl b1,.bl b2,.bl b3,.bl b4,.bl b5,.bl b6,.bl b7,.bl b8])):=z1.trans v2
 have e2:Gw (Gw G1 r2 (.lst [.bl b6,.bl b7,.bl b8])) p2 (.lst [.bl b0,.bl b1,.bl b2,.bl b3,.bl b4,.bl b5,.bl b6,.bl b7,.bl b8]) p2=some (.lst [.bl b0,.bl b1,.bl b2,.bl b3,.bl b4,.bl b5,.bl b6,.bl b7,.bl b8]):=Gu
 generalize hG2:Gw (Gw G1 r2 (.lst [.bl b6,.bl b7,.bl b8])) p2 (.lst [.bl b0,.bl b1,.bl b2,.bl b3,.bl b4,.bl b5,.bl b6,.bl b7,.bl b8])=G2 at *
 show JF 1 (.ref p2) _ (Gw (Gw G1 r2 (.lst [.bl b6,.bl b7,.bl b8])) p2 (.lst [.bl b0,.bl b1,.bl b2,.bl b3,.bl b4,.bl b5,.bl b6,.bl b7,.bl b8])) _
 rw[hG2]
 refine⟨_,rfl,_,rfl,od,c,C,_,_,_,rfl,hc2,hk,rfl,λ_ z=>z,k9,_,rfl,od,c,C,_,_,_,rfl,hc2,hk,rfl,λ_ z=>z,k10,_,rfl,od,c,C,_,_,_,rfl,hc2,hk,rfl,λ_ z=>z,k11,V0,λr3 hr3=>?_⟩
 have u3:=Gy hr3 (.lst [.bl b9,.bl b10,.bl b11])
 refine⟨p2,r3,_,_,rfl,rfl,u3 _ _ e2,Gu,small (by show 12<=100000;decide),λp3 hp3=>?_⟩
 have v3:=u3.trans (Gy hp3 (.lst [.bl b0,.bl b1,.bl b2,.bl b3,.bl b4,.bl b5,.bl b6,.bl b7,.bl b8,.bl b9,.bl b10,.bl b11]))
 have fp3:H p3=none:=z2.free (u3.free hp3)
 have hc3:=v3 _ _ hc2
 have z3:Gh H (Gw (Gw G2 r3 (.lst [.bl b9,.bl b10,.bl b11])) p3 (.lst [.bl b0,.bl b1,.bl b2,.bl b3,.bl b4,.bl b5,.bl b6,.bl b7,.bl b8,.bl b9,.bl b10,.bl b11])):=z2.trans v3
 have e3:Gw (Gw G2 r3 (.lst [.bl b9,.bl b10,.bl b11])) p3 (.lst [.bl b0,.bl b1,.bl b2,.bl b3,.bl b4,.bl b5,.bl b6,.bl b7,.bl b8,.bl b9,.bl b10,.bl b11]) p3=some (.lst [.bl b0,.bl b1,.bl b2,.bl b3,.bl b4,.bl b5,.bl b6,.bl b7,.bl b8,.bl b9,.bl b10,.bl b11]):=Gu
 generalize hG3:Gw (Gw G2 r3 (.lst [.bl b9,.bl b10,.bl b11])) p3 (.lst [.bl b0,.bl b1,.bl b2,.bl b3,.bl b4,.bl b5,.bl b6,.bl b7,.bl b8,.bl b9,.bl b10,.bl b11])=G3 at *
 show JF 1 (.ref p3) _ (Gw (Gw G2 r3 (.lst [.bl b9,.bl b10,.bl b11])) p3 (.lst [.bl b0,.bl b1,.bl b2,.bl b3,.bl b4,.bl b5,.bl b6,.bl b7,.bl b8,.bl b9,.bl b10,.bl b11])) _
 rw[hG3]
 refine⟨_,rfl,.inl ⟨rfl,_,HJ.of e3⟩,_,rfl,od,c,C,_,_,_,rfl,hc3,hk,rfl,λ_ z=>z,k12,p3,_,_,rfl,rfl,e3,KU (by show 12<=100000;decide),?_⟩
 have z4:Gh H (Gw G3 p3 (.lst ([.bl b0,.bl b1,.bl b2,.bl b3,.bl b4,.bl b5,.bl b6,.bl b7,.bl b8,.bl b9,.bl b10,.bl b11]++[.bl b12]))):=L9 fp3 z3 _
 have e4:Gw G3 p3 (.lst ([.bl b0,.bl b1,.bl b2,.bl b3,.bl b4,.bl b5,.bl b6,.bl b7,.bl b8,.bl b9,.bl b10,.bl b11]++[.bl b12])) p3=some (.lst ([.bl b0,.bl b1,.bl b2,.bl b3,.bl b4,.bl b5,.bl b6,.bl b7,.bl b8,.bl b9,.bl b10,.bl b11]++[.bl b12])):=Gu
 have hc4:=z4 _ _ hc
 generalize Gw G3 p3 (.lst ([.bl b0,.bl b1,.bl b2,.bl b3,.bl b4,.bl b5,.bl b6,.bl b7,.bl b8,.bl b9,.bl b10,.bl b11]++[.bl b12]))=G4 at *
 refine⟨gY,λp5 h5=>?_⟩
 have s5:=Gy h5 (.lst [.str "count",.str "powers",.str "great",.str "row",.str "weights",.str "long",.str "uneven",.str "kind",.str "by",.str "text",.str "line"])
 have e5:Gw G4 p5 (.lst [.str "count",.str "powers",.str "great",.str "row",.str "weights",.str "long",.str "uneven",.str "kind",.str "by",.str "text",.str "line"]) p5=some (.lst [.str "count",.str "powers",.str "great",.str "row",.str "weights",.str "long",.str "uneven",.str "kind",.str "by",.str "text",.str "line"]):=Gu
 have z5:=z4.trans s5
 have f4:=s5 _ _ e4
 have hc5:=s5 _ _ hc4
 show JF 2 (.ref p5) _ (Gw G4 p5 (.lst [.str "count",.str "powers",.str "great",.str "row",.str "weights",.str "long",.str "uneven",.str "kind",.str "by",.str "text",.str "line"])) _
 generalize Gw G4 p5 (.lst [.str "count",.str "powers",.str "great",.str "row",.str "weights",.str "long",.str "uneven",.str "kind",.str "by",.str "text",.str "line"])=G5 at *
 refine⟨_,rfl,Hr,λp6 h6=>?_⟩
 have s6:=Gy h6 (.lst [.str "badname",.str "name"])
 refine⟨p5,p6,_,_,rfl,rfl,s6 _ _ e5,Gu,small (by show 13<=100000;decide),λp7 h7=>?_⟩
 have s7:=s6.trans (Gy h7 (.lst (L6.map V.str)))
 have e7:Gw (Gw G5 p6 (.lst [.str "badname",.str "name"])) p7 (.lst (L6.map V.str)) p7=some (.lst (L6.map V.str)):=Gu
 have z7:=z5.trans s7
 have f7:=s7 _ _ f4
 have hc7:=s7 _ _ hc5
 show JF 2 (.ref p7) _ (Gw (Gw G5 p6 (.lst [.str "badname",.str "name"])) p7 (.lst (L6.map V.str))) _
 generalize Gw (Gw G5 p6 (.lst [.str "badname",.str "name"])) p7 (.lst (L6.map V.str))=G7 at *
 have f7':G7 p3=some (.lst ([b0,b1,b2,b3,b4,b5,b6,b7,b8,b9,b10,b11,b12].map V.bl)):=f7
 generalize hbs:[b0,b1,b2,b3,b4,b5,b6,b7,b8,b9,b10,b11,b12]=bs at *
 have lbs:bs.length=13:=by rw[<-hbs];rfl
 refine⟨_,rfl,_,rfl,p7,p3,rfl,⟨_,HJ.of e7⟩,⟨_,HJ.of f7'⟩,λbk D hD=>?_⟩
 refine iG (α:=Str) (k1:=.lst) (k2:=.lst) hD (HJ.of e7) (HJ.of f7') (λσ=>∃c d,σ=[c,d]) (λi=>if bs.getD i false=true then some (L6.getD i "") else none) (small (by rw[AB,AB];lia)) ?_ ?_ ?_
 ·exact⟨_,_,rfl⟩
 ·rintro i x y p2 σ H2 Yes No hx hy h2 ⟨c,d,rfl⟩ s3 yes no
  obtain rfl:=Xz hx
  obtain rfl:=hV hy
  refine⟨p2,_,rfl,HK.of Gu,rfl,_,_,rfl,_,_,rfl,rfl,?_⟩
  refine⟨_,rfl,_,rfl,?_⟩
  cases cb:bs.getD i false with
  |true=>exact JP ⟨_,rfl,yes _ _ _ (L6.getD i "") ⟨_,_,rfl⟩ (Gy h2 _) (by rw[AF cb]) rfl⟩
  |false=>exact J4 (no _ _ ⟨_,_,rfl⟩ (Gy h2 _) (by rw[cb];rfl))
 rintro H8 s8 h8
 have en:(List.range (min (L6.map V.str).length (bs.map V.bl).length)).filterMap (λi=>if bs.getD i false=true then some (L6.getD i "") else none)=MZ bs:=by
  rw[AB,AB,lbs]
  rfl
 rw[en]at h8
 refine⟨_,rfl,od,c,C,.ty "ValueError",.type "ValueError",_,rfl,s8 _ _ hc7,hk,rfl,λ_ z=>z,hv,_,rfl,JP ⟨_,rfl,?_⟩⟩
 exact q D H8 (z7.free hD) (z7.trans s8) h8
theorem Gx.or{CX:Jy}{k:Nat}{ps:wG}{sp sp':Sp}(A:Gx P w K mg base CX k f fd ps sp)(B:Gx P w K mg base CX k f fd ps sp'):Gx P w K mg base CX k f fd ps (λvs H Q E=>sp vs H Q E∨sp' vs H Q E) :=
 ⟨λvs H Q E q=>q.elim (A.len vs H Q E) (B.len vs H Q E),λA' outer s H args us vs Q E hr he hb hv hs=>hs.elim (A.run A' outer s H args us vs Q E hr he hb hv) (B.run A' outer s H args us vs Q E hr he hb hv)⟩
end
section
variable{P:wP}{w:wQ}{K:wL}{mg:Str->wI}{base:Heap}{f g:wO}{fd gd:wR}
structure Ji(K:wL)(ds:wH)(C0 C:wO)(nm:wG):Prop where
 k:Ja K C
 v:W.kitOne K (.ref C) (.type "ValueError")=some true
 s:∃bs,Pm K C ds bs/\MZ bs=nm
 w:W.kitOne K (.ref C) (.ref C0)=some true
 n:C≠C0
noncomputable abbrev vX:wG:=["_law_many", "_law_telling_here", "_law_kind", "_law_other", "_law_caught", "e"]
noncomputable abbrev nX:wG:=["_law_many", "_law_telling_here", "_law_kind", "_law_other"]
theorem Pc:Gj vX nX (HS On):=Hx
def S7(K:wL)(ds:wH)(C0 cBR cBC cNK cNB:wO):Sp:=λvs H Q _=>∃(x:wO)(nm:wG),JE cBR cBC cNK cNB vs H (λ_ _=>False) (λcls od H'=>cls=.ref x/\Gh H H')/\Ji K ds C0 x nm /\
 ∀(l:wO)(H':Hp),H l=none->Gh H H'->Gf H' l nm->Q (.ref l) H'
theorem jK{C0 cBR cBC cNK cNB:wO}{ds:wH}(F:Hi K "_law_flags" "_law_flags" On f fd)(GC:Hh P w K mg base 17 "carried" Tg (JE cBR cBC cNK cNB))(GD:Hl P w K mg base 17 "_law_called" ["_law_caught"] (VM K ds))(mE:mg "EvenError" = some (.ref C0))(kE:W.kitOne K (.ref C0) (.type "BaseException")=some true):Gx P w K mg base Ho 18 f fd nX (S7 K ds C0 cBR cBC cNK cNB):=by
 refine F.ok Pc (λvs H Q E h=>?_) (λHQ A outer s H vs Q E hr h=>?_)
 ·obtain⟨x,nm,hc,_⟩:=h
  unfold JE at hc
  obtain⟨n,l,T,k,o,rfl,_⟩:=hc
  rfl
 obtain⟨x,nm,hc,⟨hk,hv,⟨bs,sy,nb⟩,hw,hn⟩,q⟩:=h
 have hc2:=hc
 unfold JE at hc2
 obtain⟨n,l,T,k,o,e,_⟩:=hc2
 subst e
 refine⟨_,HP (Hj (i:=4) Pc.nd rfl (Or.inl rfl) Uf)
  (HP (fL (i:=5) (j:=4) rfl rfl Pc.nd rfl rfl rfl rfl rfl mE (rM kE) (λpn' T σ0 E' hx =>
   HL (Iq (UP GC.ok hr rfl GC.at_ GC.kp GC.bd hx (Ge (pv 0) (Ge (pv 1) (Ge (pv 2) (Ge (pv 3) Gk))))))))
  (HL (Hk (Hm GD hr rfl (Ge (pv 4) Gk))))),?_⟩
 refine⟨rfl,_,rfl,_,rfl,_,rfl,_,rfl,?_⟩
 show JE cBR cBC cNK cNB [.int n,.ref l,.str k,.str o] H _ _
 refine Yi hc (λ_ _ z=>z.elim) λcls od H' ⟨hcls,s'⟩=>?_
 subst hcls
 refine⟨x,rfl,ZH hw hn,λcc hcc=>?_⟩
 have v1':=Gy hcc (xE cc (.ref x) od)
 refine⟨_,rfl,od,cc,x,bs,rfl,Gu,hk,hv,sy,λl H2 hl s2 hL=>?_⟩
 refine q l H2 (s'.free (v1'.free hl)) (s'.trans (v1'.trans s2)) ?_
 rw[nb]at hL
 exact hL
theorem iV{X:Cx}{x n y f1:Str}{C0:wO}{body:List Stmt}{np hp pos py ap p1 p2:Pos}{i j:Nat}{tb:St->XK->TS}(hst:X.stack=X.env::X.outer)(hfr:X.env.frame=some X.env.locals)
  (hN:X.N.Nodup) (hi:X.N[i]?=some n) (li:X.env.scope.names.lookup n=some .local) (hj:X.N[j]?=some y) (lj:X.env.scope.names.lookup y=some .local) (hg:Gl X x) (hm:X.mg x=some (.ref C0)) (kC:W.kitCls X.K (.ref C0) (.type "BaseException")=some true)
  (hb:∀(pn':wF)(T:wD)(σ0:St)(E:XK),QX (Cx.pin1 X pn' T) σ0 E->Iw (Cx.pin1 X pn' T) body (tb σ0 E)) (hd1:(n==("__debug__" : Str))=false:=by decide) (hd2:(n==("__classdict__" : Str))=false:=by decide) (hd3:(x==("__debug__" : Str))=false:=by decide) :
  PS X (.Try body [.ExceptHandler (some (.Name x np)) (some n) [.Assign [.Name y py] (.Attribute (.Name n p1) f1 p2) ap] hp] [] [] pos) (λD σ H=>tb σ (mH X.K C0 i (LF (RM X.K (Oa i) f1) (JF j)) D σ) D σ H) :=
 dP hst hfr hN hi li hg hm kC (λe=>HL (Hj (X:=Cx.mk1 X e) (pos:=ap) (pos':=py) hN hj (Or.inl lj) (pC (OH (pos:=p1) hi (Or.inl li) hd1 hd2) rfl) rfl (.inr lj))) hb hd3
noncomputable abbrev vO:wG:=["_law_many", "_law_telling_here", "_law_kind", "_law_found", "e"]
noncomputable abbrev jP:wG:=["_law_many", "_law_telling_here", "_law_kind"]
theorem O2:Gj vO jP (HS Pf):=Hx
def Se:Sp:=λvs H Q _=>∃(n:Nat)(l:wO)(t:IG)(T:List IG)(k:Str),vs=[.int n,.ref l,.str k]/\1<=n/\n<=4/\Gf H l (t::T)/\(∀t'∈t::T,t'.1.length<=1000)/\Jo (t::T)=true/\k∈HY/\LL k n t.1=false /\
 ∀(kk:wO)(H':Hp),Gh H H'->H' kk=some (.tup (t.1.map V.int))->Q (.ref kk) H'
theorem XJ{cBR cBC cNK C:wO}(F:Hi K "_law_field" "_law_field" Pf f fd)(GC:Hh P w K mg base 17 "carried" Tg (JE cBR cBC cNK C))(M8:mg "NotBy" = some (.ref C))(kB:W.kitOne K (.ref C) (.type "BaseException")=some true)(kS:W.kitCls K (.ref C) (.ref C)=some true)(kC:Ja K C)(hd:W.hasDictIn K C=true)(p1:W.findIn K (.ref C) "row" = some none):Gx P w K mg base Ho 18 f fd jP Se:=by
 refine IJ F O2 λHQ A outer s H vs Q E hr h=>?_
 obtain⟨n,l,t,T,k,rfl,n1,n4,hL,h1000,hR,hk,hl,q⟩:=h
 refine⟨_,HP (Hj (i:=3) O2.nd rfl (Or.inl rfl) Uf)
  (HP (iV (i:=4) (j:=3) rfl rfl O2.nd rfl rfl rfl rfl rfl M8 (rM kB) (λpn' T σ0 E' hx =>
   HL (Iq (UP GC.ok hr rfl GC.at_ GC.kp GC.bd hx (Ge (pv 0) (Ge (pv 1) (Ge (pv 2) (Ge IT Gk))))))))
  (HL (Hk (pv 3)))),?_⟩
 have n14:1<=(n:Int)/\(n:Int)<=4:=⟨by lia,by lia⟩
 have kk':k∈HY/\("power" : Str)∈HY:=⟨hk,by decide⟩
 refine⟨rfl,_,rfl,_,rfl,_,rfl,?_⟩
 show JE cBR cBC cNK C [.int n,.ref l,.str k,.str "power"] H _ _
 unfold JE
 refine⟨n,l,t::T,k, "power",rfl,hL,h1000,λz=>?_,λ_ z=>absurd n14 z,λ_ _ z=>absurd kk' z,λ_ _ _ i t' hi hb hf H1 d kk s1 hd0 ed ek=>?_,λ_ _ _ z=>?_⟩
 ·rw[hR]at z;cases z
 ·rw[Af]at hb hf
  cases i with
  |succ i =>
   rw[C5]at hb
   unfold Nt at hb
   rw[CI,hl]at hb
   cases hb
  |zero =>
  cases hi
  refine⟨C,rfl,kS,λx hx=>?_⟩
  have v1:=Gy hx (xE x (.ref C) (some d))
  exact⟨_,rfl,x,C,d,_,_,rfl,Gu,v1 _ _ ed,kC,hd,p1,rfl,_,rfl,q kk _ (s1.trans v1) (v1 _ _ ek)⟩
 ·rw[Af]at z
  unfold Nt at z
  rw[CI,hl]at z
  cases z
abbrev sW:wG:=["_law_row", "_law_number"]
theorem UK:sW.Nodup:=by decide +kernel
theorem jQ:Gj ["_law_telling_here"] ["_law_telling_here"] (HS Mj):=Hx
def UH:Sp:=λvs H Q _=>∃(a:wO)(T:List Gi),vs=[.ref a]/\Gf H a T/\T.length<=100000/\∀(l:wO)(H':Hp),H l=none->Gh H H'->Gf H' l (T.map Iv)->Q (.ref l) H'
theorem pE(F:Hi K "_law_shares" "_law_shares" Mj f fd):Gx P w K mg base Ho 2 f fd ["_law_telling_here"] UH:=by
 refine IJ F jQ λHQ A outer s H vs Q E hr h=>?_
 obtain⟨a,T,rfl,⟨ws,eW,iW⟩,few,q⟩:=h
 refine⟨_,HL (Hk (Iy (N':=sW) (src:=[none,none]) rfl (IW (pv 0)) (Ir (HS Mj) ["_law_telling_here"] (by decide +kernel))
   (λb=>Im rfl (Hw (HW (i:=0) UK rfl (Or.inl rfl)) (Hw (HW (i:=1) UK rfl (Or.inl rfl)) Ik))) (λb=>JX)
   (λb=>Hd (Ge (pv 0) (Ge (Hd (Ge (pv 1) (Ge HM Gk))) Gk))))),?_⟩
 have lw:=AL iW
 refine⟨_,rfl,a,rfl,⟨_,HJ.of eW⟩,λbk D hD=>?_⟩
 refine KL (α:=IG) hD (HJ.of eW) (λσ=>∃c d,σ=[c,d]) (λi=>(T[i]?).bind λt=>some (Iv t)) (small (by lia)) ⟨_,_,rfl⟩ ?_ ?_
 ·rintro i x σ H2 Yes No hx ⟨c,d,rfl⟩ s2 yes no
  obtain⟨t,ht,hi⟩:=Ib iW hx
  obtain⟨p,kk,rfl,hp,hkk⟩:=JO hi
  refine⟨p,_,rfl,HK.of (s2 _ _ hp),rfl,_,_,rfl,_,_,rfl,rfl,?_⟩
  refine Kj ?_
  refine⟨_,rfl,_,rfl,Hr,λt3 h3=>⟨Hr,λt4 h4=>?_⟩⟩
  have s3:=Gy h3 (.tup [.int t.2,.int 1])
  have s4:=Gy h4 (.tup [.ref kk,.ref t3])
  exact yes _ _ _ (Iv t) ⟨_,_,rfl⟩ (s3.trans s4) (by rw[ht];rfl) (Kg (t:=Iv t) Gu (s4 _ _ (s3 _ _ (s2 _ _ hkk))) (s4 _ _ Gu))
 rintro H2 s2 h2
 rw[lw,Jg,Au]at h2
 exact q D H2 hD s2 h2
end
section
variable{P:wP}{w:wQ}{K:wL}{mg:Str->wI}{base:Heap}{f g:wO}{fd gd:wR}
abbrev CE:=Bool×Int×Nat×Pos×Pos
noncomputable def P9:CE->Expr
 |(false,n,j,p,_)=>.Constant (.int n) j p
 |(true,n,j,p,p')=>.UnaryOp .USub (.Constant (.int n) j p) p'
noncomputable def WY:CE->Int
 |(false,n,_)=>n
 |(true,n,_)=>-n
theorem cH{X:Cx}:∀q:CE,PE X (P9 q) (λσ H Q=>Q (.int (WY q)) H)
 |(false,n,j,p,p')=>HM
 |(true,n,j,p,p')=>λFj s σ H Q I h=>(OY OR HM) Fj s σ H Q I ⟨n,rfl,h⟩
theorem Zk{env:Env}{es:wJ}:∀q:CE,starEach (P9 q::es) env=(false,eval (P9 q) env)::starEach es env
 |(false,n,j,p,p')=>rfl
 |(true,n,j,p,p')=>rfl
theorem RG{X:Cx}:∀qs:List CE,PA X (qs.map P9) (λσ H Q=>Q (qs.map λq=>V.int (WY q)) H)
 |[]=>Gk
 |q::r=>λpos Fj s σ H Q I h=>(Ge (X:=X) (e:=P9 q) (cH q) (RG r) (Zk q)) pos Fj s σ H Q I h
def YU:List (List V)->TA
 |[],_,H,Q=>Q [] H
 |vs::r,σ,H,Q=>vs.length<=sizeLine/\∀p,H p=none->YU r σ (Gw H p (.tup vs)) λus H2=>Q (.ref p::us) H2
abbrev Xr:=List CE×Nat×Pos
noncomputable def oS(x:Xr):Expr:=.Tuple (x.1.map P9) x.2.1 x.2.2
theorem Sc{X:Cx}:∀xs:List Xr,PA X (xs.map oS) (YU (xs.map λx=>x.1.map λq=>V.int (WY q)))
 |[]=>Gk
 |x::r=>λpos Fj s σ H Q I h=>(Ge (X:=X) (e:=oS x) (Hd (RG x.1)) (Sc r) rfl) pos Fj s σ H Q I h
theorem Y5{X:Cx}{i:Nat}{x:Str}{pos' pl pos p2:Pos}{ix:Expr}{tix:TE}(xs:List Xr)(hN:X.N.Nodup)(hi:X.N[i]?=some x)(hx:Loc X.env.scope x)(hf:X.fn x=true∨X.env.scope.names.lookup x=some .local)(hix:PE X ix tix)(hp:bJ ix) :
  KR (PS X (.Assign [.Name x pos'] (.Subscript (.List (xs.map oS) pl) ix p2) pos) (LF (Pq (OS X.K) (S4 (YU (xs.map λx=>x.1.map λq=>V.int (WY q)))) tix) (JF i))):=by
 unfold KR
 exact Hj hN hi hx (Ix Kh (IC (Sc xs)) hix hp) rfl hf
theorem Lc{b:Bool}{A B:Prop}(h:b=false)(x:B):if b=true then A else B:=by rw[h];exact x
theorem cQ{X:Cx}{st:Stmt}{Hg:List Stmt}{t u:TS}(h1:KR (PS X st t))(h2:KR (Iw X Hg u)):KR (Iw X (st::Hg) (MR t u)):=by
 unfold KR at h1 h2 ⊢
 exact HP h1 h2
theorem rL{X:Cx}{i:Nat}{x:Str}{pos' pl pos p2:Pos}{ix:Expr}{tix:TE}(xs:List (Str×Nat×Pos))(hN:X.N.Nodup)(hi:X.N[i]?=some x)(hx:Loc X.env.scope x)(hf:X.fn x=true∨X.env.scope.names.lookup x=some .local)(hix:PE X ix tix)(hp:bJ ix) :
  KR (PS X (.Assign [.Name x pos'] (.Subscript (.List (xs.map λq=>Expr.Constant (.str q.1) q.2.1 q.2.2) pl) ix p2) pos) (LF (Pq (OS X.K) (PD (xs.map λq=>q.1)) tix) (JF i))):=by
 unfold KR
 exact Hj hN hi hx (Ix Kh (Q1 xs) hix hp) rfl hf
theorem pH{X:Cx}{st:Stmt}{t:TS}(h:PS X st t):PS X st (λD σ H=>∃I:St->Hp->Prop,t { D with nx:=I } σ H/\∀σ' H',I σ' H'->D.nx σ' H'):=by
 intro Fj s σ H D inv ⟨I,q1,q2⟩
 refine HZ (h Fj s σ H { D with nx:=I } inv q1) λfl s' e=>?_
 cases fl with
 |next=>obtain⟨σ',H',i,n⟩:=e;exact⟨σ',H',i,q2 _ _ n⟩
 |brk=>exact e
 |cont=>exact e
 |ret u=>exact e
theorem Yd(n:Nat)(ts:List Gi):Jr "exchange" n ts=(Jk ts).map Iv:=by unfold Jr KC;rw[AD (by decide),AF rfl]
theorem mK(n:Nat)(ts:List Gi):Jr "elementary" n ts=(IL n ts).map Iv:=by unfold Jr KC;rw[AD (by decide),AD (by decide),AF rfl]
theorem fO(n:Nat)(ts:List Gi):Jr "whole" n ts=(PV n ts).map Iv:=by unfold Jr KC;rw[AD (by decide),AD (by decide),AD (by decide),AF rfl]
theorem bH(n:Nat)(ts:List Gi):Jr "power" n ts=MD n ts:=by unfold Jr;rw[AF rfl]
theorem oW(n:Nat)(ts:List Gi):Jr "filling" n ts=(OC n ts).map Iv:=by unfold Jr KC;rw[AD (by decide),AD (by decide),AD (by decide),AD (by decide)]
structure PH(n:Nat)(ts:List Gi):Prop where
 n1:1<=n
 n4:n<=4
 can:HU ts
 ev:Hc n ts
 deg:Deg n 8 300 ts
theorem PH.few{n:Nat}{ts:List Gi}(h:PH n ts):ts.length<=495:=Qt h.can h.deg h.n1 h.n4
theorem Tk{n:Nat}{ts:List Gi}(h:PH n ts){cBC C a:wO}{H:Hp}{Q:VK}{good:Nat->List Gi->Hp->VK->Prop}(hL:Gf H a ts)(q:good n ts H Q):Jm cBC C good [.int n,.ref a] H Q E0 :=
 ⟨n,a,ts,rfl,hL,by have:=h.few;lia,λz=>absurd ⟨by have:=h.n1;lia,by have:=h.n4;lia⟩ z,λ_=>⟨by rw[Af];exact h.deg.len,λ_=>by rw[Af];exact q,λk p u=>by
  rw[Af]at u
  have e1:=(VU h.ev h.deg.len).one u
  cases e1⟩⟩
theorem MS{n:Nat}{ts:List Gi}(h:PH n ts){α:Type}[Dat α]{cBC C a:wO}{F:Nat->List Gi->List α}{H:Hp}{Q:VK}(hL:Gf H a ts)(q:∀(l:wO)(H':Hp),H l=none->Gh H H'->Gf H' l (F n ts)->(F n ts).length<=100000->Q (.ref l) H'):J9 cBC C F [.int n,.ref a] H Q E0:=Tk h hL ⟨300,h.can,h.ev,h.deg,by decide,q⟩
theorem XZ{n:Nat}{ts:List Gi}(h:PH n ts){α:Type}[Dat α]{cBC C a:wO}{F:Nat->List Gi->List α}{G:α->Prop}{H:Hp}{Q:VK}(hL:Gf H a ts)(q:∀(l:wO)(H':Hp),H l=none->Gh H H'->Gf H' l (F n ts)->Q (.ref l) H'):QE cBC C F G [.int n,.ref a] H Q E0:=Tk h hL ⟨300,h.can,h.ev,h.deg,by decide,λl H' x1 x2 x3 _ _=>q l H' x1 x2 x3⟩
theorem R4{n:Nat}{ts:List Gi}(h:PH n ts){cBR cBC cNK cNB l:wO}{o:Str}{H:Hp}{Q:VK}(hL:Gf H l ((Jk ts).map Iv))(ho:o∈HY)(q:∀(l':wO)(H':Hp),H l'=none->Gh H H'->Gf H' l' (Jr o n ts)->Q (.ref l') H'):JE cBR cBC cNK cNB [.int n,.ref l,.str "exchange",.str o] H Q E0:=by
 have own:∀t∈(Jk ts).map Iv,IN t.1=true/\t.1.length<=n:=λt ht=>by
  obtain⟨u,hu,rfl⟩:=AY.mp ht
  obtain⟨p,hp,ep,_⟩:=Ph h.deg u hu
  have ok:=UZ h.n1 h.n4 hp
  show IN u.1=true/\u.1.length<=n
  rw[ep]
  exact⟨ok.row,ok.len⟩
 have hR:Jo ((Jk ts).map Iv)=true:=AZ.mpr λt ht=>(own t ht).1
 have n14:1<=(n:Int)/\(n:Int)<=4:=⟨by have:=h.n1;lia,by have:=h.n4;lia⟩
 have hk:("exchange" : Str)∈HY/\o∈HY:=⟨by decide,ho⟩
 have hl:∀t∈(Jk ts).map Iv,LL "exchange" n t.1=true:=λt ht=>by
  unfold LL
  rw[AF (by decide)]
  exact Ab (by have:=(own t ht).2;lia)
 unfold JE
 refine⟨n,l,_, "exchange",o,rfl,hL,λt ht=>by have:=(own t ht).2;have:=h.n4;lia,λz=>?_,λ_ z=>absurd n14 z,λ_ _ z=>absurd hk z,λ_ _ _ i t hi _ hf=>?_,λ_ _ _ _=>⟨rfl,300,ts,h.can,by rw[Af];exact h.ev,by rw[Af];exact h.deg,by decide,rfl,by rw[Af];exact q⟩⟩
 ·rw[hR]at z;cases z
 ·rw[Af,hl t (Aa hi)]at hf
  cases hf
section
variable{cBR cBC cNK cNB l:wO}{n:Int}{T:List IG}{k o:Str}{H:Hp}
theorem T5(hL:Gf H l T)(h1:∀t∈T,t.1.length<=1000)(hR:Jo T=false):JE cBR cBC cNK cNB [.int n,.ref l,.str k,.str o] H (λ_ _=>False) (λcls _ H'=>cls=.ref cBR/\Gh H H'):=by
 unfold JE
 exact⟨n,l,T,k,o,rfl,hL,h1,λ_ H' s=>⟨rfl,s⟩,λz=>by(rw[hR]at z;cases z),λz=>by(rw[hR]at z;cases z),λz=>by(rw[hR]at z;cases z),λz=>by(rw[hR]at z;cases z)⟩
theorem Wt(hL:Gf H l T)(h1:∀t∈T,t.1.length<=1000)(hR:Jo T=true)(hn:¬ (1<=n/\n<=4)):JE cBR cBC cNK cNB [.int n,.ref l,.str k,.str o] H (λ_ _=>False) (λcls _ H'=>cls=.ref cBC/\Gh H H'):=by
 unfold JE
 exact⟨n,l,T,k,o,rfl,hL,h1,λz=>by(rw[hR]at z;cases z),λ_ _ H' s=>⟨rfl,s⟩,λ_ z=>absurd z hn,λ_ z=>absurd z hn,λ_ z=>absurd z hn⟩
theorem Rq(hL:Gf H l T)(h1:∀t∈T,t.1.length<=1000)(hR:Jo T=true)(hn:1<=n/\n<=4)(hk:¬ (k∈HY/\o∈HY)):JE cBR cBC cNK cNB [.int n,.ref l,.str k,.str o] H (λ_ _=>False) (λcls _ H'=>cls=.ref cNK/\Gh H H'):=by
 unfold JE
 exact⟨n,l,T,k,o,rfl,hL,h1,λz=>by(rw[hR]at z;cases z),λ_ z=>absurd hn z,λ_ _ _ H' s=>⟨rfl,s⟩,λ_ _ z=>absurd z hk,λ_ _ z=>absurd z hk⟩
theorem Zd{t:IG}(hL:Gf H l (t::T))(h1:∀t'∈t::T,t'.1.length<=1000)(hR:Jo (t::T)=true)(hn:1<=n/\n<=4)(hk:k∈HY/\o∈HY)(hb:LL k n.toNat t.1=false):JE cBR cBC cNK cNB [.int n,.ref l,.str k,.str o] H (λ_ _=>False) (λcls _ H'=>cls=.ref cNB/\Gh H H'):=by
 unfold JE
 exact⟨n,l,t::T,k,o,rfl,hL,h1,λz=>by(rw[hR]at z;cases z),λ_ z=>absurd hn z,λ_ _ z=>absurd hk z,λ_ _ _ _ _ _ _ _ H' _ _ s _ _ _=>⟨rfl,s⟩,λ_ _ _ z=>by
  unfold Nt at z
  rw[CI,hb]at z
  cases z⟩
end
noncomputable def K9(k:Str)(n:Nat):wB:=if k = "exchange" ∨ k = "filling" then List.replicate (n+1) 1 else [(n:Int)+1]
noncomputable def Lz(k:Str)(n:Nat):wB:=if k = "exchange" ∨ k = "filling" then [2]++(List.replicate (n+1) 1).drop 1 else [(n:Int)+1,1]
theorem dN:∀n∈[1,2,3,4],∀k∈HY,IN (K9 k n)=true/\IN (Lz k n)=true/\LL k n (K9 k n)=false/\LL k n (Lz k n)=false/\(K9 k n).length<=1000/\(Lz k n).length<=1000:=by decide +kernel
noncomputable abbrev nL:wG:=["_law_script", "_law_many", "_law_some", "_law_telling_here", "_law_cell_here", "_law_kind", "_law_strange", "_law_count", "_law_none", "_law_far", "_law_more"]
abbrev bL:wG:=["_law_k"]
theorem uS:bL.Nodup:=by decide +kernel
theorem Kx:Gj nL ["_law_script"] (HS MX):=Hx
def NM(K:wL):Sp:=λvs H Q _=>∃(a:wO)(ns:wB),vs=[.ref a]/\HJ K H a (ns.map V.int)/\ns.length<=63/\∀H',Q (.bl true) H'
theorem S8(m:Nat):(List.range m).filterMap (λ_=>some (1:Int))=List.replicate m 1:=by
 induction m with
 |zero=>rfl
 |succ m ih=>rw[Bo,DR,ih,List.replicate_succ'];rfl
theorem Sy{p:IG->Prop}{a:IG}(h:p a):∀t∈[a],p t:=λt ht=>by rw[Ad.mp ht];exact h
theorem MY{p:IG->Prop}{a b:IG}(h:p a)(h2:p b):∀t∈[a,b],p t:=λt ht=>by
 rcases AN.mp ht with rfl|ht
 ·exact h
 ·rw[Ad.mp ht];exact h2
theorem S9{r s:wB}{b:Bool}(h:IN r=b):Jo [(r,s)]=b:=by
 show(IN r&&true)=b
 rw[h,Gn]
theorem Pd{r s r' s':wB}(h:IN r=true)(h2:IN r'=true):Jo [(r,s),(r',s')]=true:=by
 show(IN r&&(IN r'&&true))=true
 rw[h,h2]
 rfl
theorem Ze{r s r' s':wB}(h2:IN r'=false):Jo [(r,s),(r',s')]=false:=by
 show(IN r&&(IN r'&&true))=false
 rw[h2]
 simp
theorem jU{C0 cBR cBC cNK cNB C:wO}{ds:wH}(F:Hi K "law" "law" MX f fd)(GCe:Hl P w K mg base 18 "_law_cell" nC (RK K))(GV:Hl P w K mg base 18 "_law_even" nB (UE K))(GH:Hl P w K mg base 18 "_law_shares" ["_law_telling_here"] UH)(GX:Hh P w K mg base 18 "by_exchange" Jl (J9 cBC C λ_ ts=>Jk ts))(GE:Hh P w K mg base 18 "by_elementary" ["many", "some"] (J9 cBC C IL))(GW:Hh P w K mg base 18 "by_whole" ["many", "some"] (J9 cBC C PV))(GP:Hh P w K mg base 18 "by_power" ["many", "some"] (QE cBC C MD Nq))(GL:Hh P w K mg base 18 "by_fillings" Jl (J9 cBC C OC))(GC:Hh P w K mg base 18 "carried" Tg (JE cBR cBC cNK cNB))(GF:Hl P w K mg base 18 "_law_flags" nX (S7 K ds C0 cBR cBC cNK cNB))(GD:Hl P w K mg base 18 "_law_field" jP Se)
  (tR:Ji K ds C0 cBR ["row"]) (tC:Ji K ds C0 cBC ["count"]) (tK:Ji K ds C0 cNK ["kind"]) (tB:Ji K ds C0 cNB ["by"]) (mt:mg "tuple" = none) (mr:mg "range" = none):Gx P w K mg base Ho 19 f fd ["_law_script"] (NM K):=by
 refine IJ F Kx λHQ A outer s H vs Q E hr h=>?_
 obtain⟨a0,ns,rfl,hS,h63,q⟩:=h
 have hF:=BD (Bt (by decide:Dat.dep IG+1<=64) _) hr.units
 have hX:=BD (Bt (by decide:Dat.dep Str+1<=64) _) hr.units
 have hI:=BD (Bt (by decide:Dat.dep Int+1<=64) _) hr.units
 refine⟨_,(HP (Hj (i:=1) Kx.nd rfl (Or.inl rfl) (HV Jc HM (HV K6 (Hm GCe hr rfl (Ge (pv 0) (Ge HM Gk))) HM)))
  (HP (Hj (i:=2) Kx.nd rfl (Or.inl rfl) (Hm GV hr rfl (Ge (pv 0) (Ge HM (Ge (pv 1) (Ge HM (Ge (HV TJ HM HM) Gk)))))))
  (HP (Hj (i:=3) Kx.nd rfl (Or.inl rfl) (Hm GH hr rfl (Ge (Io GX hr rfl MA (Ge (pv 1) (Ge (pv 2) Gk))) Gk)))
  (HP (IP (II (Kz (α:=IG) hF) (Io GC hr rfl MA (Ge (pv 1) (Ge (pv 3) (Ge IT (Ge IT Gk))))) (pv 3) (IE _)) (HL (Hk Ky)) IQ)
  (HP (IP (II (Kz (α:=IG) hF) (Io GC hr rfl MA (Ge (pv 1) (Ge (pv 3) (Ge IT (Ge IT Gk))))) (Hm GH hr rfl (Ge (Io GE hr rfl MA (Ge (pv 1) (Ge (pv 2) Gk))) Gk)) (IE _)) (HL (Hk Ky)) IQ)
  (HP (IP (II (Kz (α:=IG) hF) (Io GC hr rfl MA (Ge (pv 1) (Ge (pv 3) (Ge IT (Ge IT Gk))))) (Hm GH hr rfl (Ge (Io GW hr rfl MA (Ge (pv 1) (Ge (pv 2) Gk))) Gk)) (IE _)) (HL (Hk Ky)) IQ)
  (HP (IP (II (Kz (α:=IG) hF) (Io GC hr rfl MA (Ge (pv 1) (Ge (pv 3) (Ge IT (Ge IT Gk))))) (Io GP hr rfl MA (Ge (pv 1) (Ge (pv 2) Gk))) (IE _)) (HL (Hk Ky)) IQ)
  (HP (IP (II (Kz (α:=IG) hF) (Io GC hr rfl MA (Ge (pv 1) (Ge (pv 3) (Ge IT (Ge IT Gk))))) (Hm GH hr rfl (Ge (Io GL hr rfl MA (Ge (pv 1) (Ge (pv 2) Gk))) Gk)) (IE _)) (HL (Hk Ky)) IQ)
  (pY (Hj (i:=4) Kx.nd rfl (Or.inl rfl) (Hm GCe hr rfl (Ge (pv 0) (Ge HM Gk))))
  (cQ (rL (i:=5) [(_,_,_),(_,_,_),(_,_,_),(_,_,_),(_,_,_)] Kx.nd rfl (Or.inl rfl) (Or.inr rfl) (HV K6 (pv 4) HM) (λ_ _=>rfl))
  (jX (rL (i:=6) [(_,_,_),(_,_,_),(_,_,_),(_,_,_)] Kx.nd rfl (Or.inl rfl) (Or.inr rfl) (HV K6 (HV O0 (pv 4) HM) HM) (λ_ _=>rfl))
  (pY (Hj (i:=7) Kx.nd rfl (Or.inl rfl) (Ix Kh (IC (Ge HM (Ge HM (Ge (HV LO (OY OR HM) (HV K6 (pv 4) HM)) (Ge (HV Jc HM (HV Lr (pv 4) (HV TJ HM HM))) Gk))))) (HV K6 (HV O0 (pv 4) HM) HM) (λ_ _=>rfl)))
  (jX (Y5 (i:=8) [([(false,_,_,_,⟨0,0,0,0⟩),(false,_,_,_,⟨0,0,0,0⟩)],_,_),([(false,_,_,_,⟨0,0,0,0⟩)],_,_),([(false,_,_,_,⟨0,0,0,0⟩)],_,_),([(false,_,_,_,⟨0,0,0,0⟩),(false,_,_,_,⟨0,0,0,0⟩)],_,_)] Kx.nd rfl (Or.inl rfl) (Or.inr rfl) (HV K6 (HV O0 (pv 4) HM) HM) (λ_ _=>rfl))
  (HP (Hj (i:=9) Kx.nd rfl (Or.inl rfl) (Hd (Ge (HV Jc (pv 1) HM) Gk)))
  (HP (Hj (i:=10) Kx.nd rfl (Or.inl rfl) (Hd (Ge (HV Jc (pv 1) HM) (Ge HM Gk))))
  (HP (pH (IP (PW.pt (VR (II ME (pv 5) IT (IE _)) (UO (II ME (pv 5) IT (IE _))))) (HP (Hj (i:=9) Kx.nd rfl (Or.inl rfl) (NN N2 rfl mt B1 (Ge (Iy (N':=bL) (src:=[none]) rfl (Nh rfl mr (Ge (HV Jc (pv 1) HM) Gk)) (Ir (HS MX) nL (by decide +kernel)) (λb=>HW (i:=0) uS rfl (Or.inl rfl)) (λb=>JX) (λb=>HM)) Gk))) (HL (Hj (i:=10) Kx.nd rfl (Or.inl rfl) (HV LM (Hd (Ge HM Gk)) (NB Sm (pv 9) (NA HM) Mh))))) IQ))
  (HP (IP (II (Kz (α:=Str) hX) (Hm GF hr rfl (Ge (pv 7) (Ge (IC (Ge (Hd (Ge (pv 8) (Ge (Hd (Ge HM (Ge HM Gk))) Gk))) Gk)) (Ge (pv 6) (Ge (pv 5) Gk))))) (IC (Ge IT Gk)) (IE _)) (HL (Hk Ky)) IQ)
  (HP (IP (II (Kz (α:=Str) hX) (Hm GF hr rfl (Ge (pv 1) (Ge (IC (Ge (Hd (Ge (Hd (Ge HM Gk)) (Ge (Hd (Ge HM (Ge HM Gk))) Gk))) (Ge (Hd (Ge (pv 8) (Ge (Hd (Ge HM (Ge HM Gk))) Gk))) Gk))) (Ge (pv 5) (Ge (pv 5) Gk))))) (IC (Ge IT Gk)) (IE _)) (HL (Hk Ky)) IQ)
  (HP (IP (II (Kz (α:=Str) hX) (Hm GF hr rfl (Ge (pv 7) (Ge (IC Gk) (Ge (pv 6) (Ge (pv 5) Gk))))) (IC (Ge IT Gk)) (IE _)) (HL (Hk Ky)) IQ)
  (HP (IP (II (Kz (α:=Str) hX) (Hm GF hr rfl (Ge (pv 1) (Ge (IC (Ge (Hd (Ge (pv 9) (Ge (Hd (Ge HM (Ge HM Gk))) Gk))) Gk)) (Ge (pv 6) (Ge (pv 5) Gk))))) (IC (Ge IT Gk)) (IE _)) (HL (Hk Ky)) IQ)
  (HP (IP (II (Kz (α:=Str) hX) (Hm GF hr rfl (Ge (pv 1) (Ge (IC Gk) (Ge (pv 5) (Ge (pv 6) Gk))))) (IC (Ge IT Gk)) (IE _)) (HL (Hk Ky)) IQ)
  (HP (IP (II (Kz (α:=Str) hX) (Hm GF hr rfl (Ge (pv 1) (Ge (IC (Ge (Hd (Ge (pv 9) (Ge (Hd (Ge HM (Ge HM Gk))) Gk))) (Ge (Hd (Ge (Hd (Ge HM Gk)) (Ge (Hd (Ge HM (Ge HM Gk))) Gk))) Gk))) (Ge (pv 5) (Ge IT Gk))))) (IC (Ge IT Gk)) (IE _)) (HL (Hk Ky)) IQ)
  (HP (IP (II (pJ (α:=Int) hI) (Hm GD hr rfl (Ge (pv 1) (Ge (IC (Ge (Hd (Ge (pv 10) (Ge (Hd (Ge HM (Ge HM Gk))) Gk))) (Ge (Hd (Ge (pv 9) (Ge (Hd (Ge HM (Ge HM Gk))) Gk))) Gk))) (Ge (pv 5) Gk)))) (pv 10) (IE _)) (HL (Hk Ky)) IQ)
  (HL (Hk (QS (PZ (α:=Int) hI) (Hm GD hr rfl (Ge (pv 1) (Ge (IC (Ge (Hd (Ge (pv 9) (Ge (Hd (Ge HM (Ge HM Gk))) Gk))) (Ge (Hd (Ge (Hd (Ge HM Gk)) (Ge (Hd (Ge HM (Ge HM Gk))) Gk))) Gk))) (Ge (pv 5) Gk)))) (pv 9) (IE _))))))))))))))))))))))))))),?_⟩
 have cn:∀k,0<=Ld ns k/\Ld ns k<2147483647:=λk=>by
  unfold Ld
  split
  ·exact⟨B6 _ (by decide),Bz _ (by decide)⟩
  ·decide
 obtain⟨n,hn,n1,n4⟩:∃n:Nat,1+Ld ns 0%4=n/\1<=n/\n<=4:=by
  have h0:=B6 (Ld ns 0) (show(4:Int)≠0 by decide)
  have h1:=Bz (Ld ns 0) (show(0:Int)<4 by decide)
  exact⟨(1+Ld ns 0%4).toNat,by lia,by lia,by lia⟩
 refine⟨_,rfl,a0,ns,0,rfl,hS,_,_,rfl,rfl,(by show(0:Int)<4;decide),_,_,rfl,rfl,?_⟩
 show JF 1 (V.int (1+Ld ns 0%4)) _ _ _
 rw[hn]
 refine⟨_,rfl,_,rfl,_,_,rfl,rfl,⟨by decide,by decide,by decide⟩,a0,ns,n,4,_,rfl,hS,h63,n1,n4,by decide,by decide,by decide,λls H1 ts f1 s1 hL hC hE hD=>?_⟩
 have hP:PH n ts:=⟨n1,n4,hC,hE,hD⟩
 refine⟨_,rfl,_,rfl,MS hP hL λl2 H2 f2 s2 hL2 few2=>⟨l2,_,rfl,hL2,few2,λlt H3 f3 s3 hT=>?_⟩⟩
 have hL3:=hL.mono (s2.trans s3)
 have hS3:=(s1.trans (s2.trans s3)).seq hS
 have z:=Gh.refl H3
 refine⟨_,rfl,_,rfl,R4 hP (hT.mono z) (by decide) λla1 Ga1 fa1 sa1 hA1=>?_⟩
 rw[Yd]at hA1
 have z:=z.trans sa1
 refine⟨_,rfl,la1,lt,_,_,rfl,rfl,hA1,hT.mono z,_,rfl,Lc (by rw[KZ];rfl) ?_⟩
 refine⟨_,rfl,_,rfl,R4 hP (hT.mono z) (by decide) λla2 Ga2 fa2 sa2 hA2=>?_⟩
 rw[mK]at hA2
 have z:=z.trans sa2
 refine⟨_,rfl,_,rfl,MS hP (hL3.mono z) λlb2 Gb2 fb2 sb2 hB2 fw2=>⟨lb2,_,rfl,hB2,fw2,λlc2 Gc2 fc2 sc2 hC2=>?_⟩⟩
 have z:=z.trans (sb2.trans sc2)
 refine⟨la2,lc2,_,_,rfl,rfl,hA2.mono (sb2.trans sc2),hC2,_,rfl,Lc (by rw[KZ];rfl) ?_⟩
 refine⟨_,rfl,_,rfl,R4 hP (hT.mono z) (by decide) λla3 Ga3 fa3 sa3 hA3=>?_⟩
 rw[fO]at hA3
 have z:=z.trans sa3
 refine⟨_,rfl,_,rfl,MS hP (hL3.mono z) λlb3 Gb3 fb3 sb3 hB3 fw3=>⟨lb3,_,rfl,hB3,fw3,λlc3 Gc3 fc3 sc3 hC3=>?_⟩⟩
 have z:=z.trans (sb3.trans sc3)
 refine⟨la3,lc3,_,_,rfl,rfl,hA3.mono (sb3.trans sc3),hC3,_,rfl,Lc (by rw[KZ];rfl) ?_⟩
 refine⟨_,rfl,_,rfl,R4 hP (hT.mono z) (by decide) λla4 Ga4 fa4 sa4 hA4=>?_⟩
 rw[bH]at hA4
 have z:=z.trans sa4
 refine⟨_,rfl,_,rfl,XZ hP (hL3.mono z) λlb4 Gb4 fb4 sb4 hB4=>?_⟩
 have z:=z.trans sb4
 refine⟨la4,lb4,_,_,rfl,rfl,hA4.mono sb4,hB4,_,rfl,Lc (by rw[KZ];rfl) ?_⟩
 refine⟨_,rfl,_,rfl,R4 hP (hT.mono z) (by decide) λla5 Ga5 fa5 sa5 hA5=>?_⟩
 rw[oW]at hA5
 have z:=z.trans sa5
 refine⟨_,rfl,_,rfl,MS hP (hL3.mono z) λlb5 Gb5 fb5 sb5 hB5 fw5=>⟨lb5,_,rfl,hB5,fw5,λlc5 Gc5 fc5 sc5 hC5=>?_⟩⟩
 have z:=z.trans (sb5.trans sc5)
 refine⟨la5,lc5,_,_,rfl,rfl,hA5.mono (sb5.trans sc5),hC5,_,rfl,Lc (by rw[KZ];rfl) ?_⟩
 refine⟨_,rfl,a0,ns,9,rfl,z.seq hS3,?_⟩
 obtain⟨c0,c1⟩:=cn 9
 show JF 4 (V.int (Ld ns 9)) _ _ _
 generalize Ld ns 9=c at *
 obtain⟨kd,hkd,aK⟩:∃kd∈HY,J6 (HY.map V.str) (c%5)=some (.str kd):=by
  have h0:=B6 c (show(5:Int)≠0 by decide)
  have h1:=Bz c (show(0:Int)<5 by decide)
  have:c%5=0∨c%5=1∨c%5=2∨c%5=3∨c%5=4:=by lia
  rcases this with e|e|e|e|e
  ·exact⟨"exchange",by decide,by rw[e];rfl⟩
  ·exact⟨"elementary",by decide,by rw[e];rfl⟩
  ·exact⟨"whole",by decide,by rw[e];rfl⟩
  ·exact⟨"power",by decide,by rw[e];rfl⟩
  ·exact⟨"filling",by decide,by rw[e];rfl⟩
 obtain⟨sg,hsg,aS⟩:∃sg:Str,¬ sg∈HY/\J6 ((["", "fillings", "Power", "sum"]:wG).map V.str) (c / 5%4)=some (.str sg):=by
  have h0:=B6 (c / 5) (show(4:Int)≠0 by decide)
  have h1:=Bz (c / 5) (show(0:Int)<4 by decide)
  have:c / 5%4=0∨c / 5%4=1∨c / 5%4=2∨c / 5%4=3:=by lia
  rcases this with e|e|e|e
  ·exact⟨"",by decide,by rw[e];rfl⟩
  ·exact⟨"fillings",by decide,by rw[e];rfl⟩
  ·exact⟨"Power",by decide,by rw[e];rfl⟩
  ·exact⟨"sum",by decide,by rw[e];rfl⟩
 refine⟨sS,λq5 g5=>?_⟩
 have z:=z.trans (Gy g5 (.lst (HY.map V.str)))
 refine⟨_,rfl,_,_,rfl,rfl,(by show(0:Int)<5;decide),q5,_,_,.str kd,rfl,rfl,HJ.of Gu,aK,?_⟩
 show JF 5 (.str kd) _ (Gw Gc5 q5 (.lst (HY.map V.str))) _
 generalize Gw Gc5 q5 (.lst (HY.map V.str))=H5 at *
 refine⟨qE,λq6 g6=>?_⟩
 have z:=z.trans (Gy g6 (.lst ((["", "fillings", "Power", "sum"]:wG).map V.str)))
 refine⟨_,rfl,_,_,rfl,rfl,⟨by decide,by decide⟩,_,_,rfl,rfl,(by show(0:Int)<4;decide),q6,_,_,.str sg,rfl,rfl,HJ.of Gu,aS,?_⟩
 show JF 6 (.str sg) _ (Gw H5 q6 (.lst ((["", "fillings", "Power", "sum"]:wG).map V.str))) _
 generalize Gw H5 q6 (.lst ((["", "fillings", "Power", "sum"]:wG).map V.str))=H6 at *
 obtain⟨cnt,aC,hcnt⟩:∃cnt:Int,J6 [V.int 0,V.int 5,V.int (-1-c%7),V.int (9+c*10^(40:Int).toNat)] (c / 20%4)=some (.int cnt)/\¬ (1<=cnt/\cnt<=4):=by
  have h0:=B6 (c / 20) (show(4:Int)≠0 by decide)
  have h1:=Bz (c / 20) (show(0:Int)<4 by decide)
  have h9:=B6 c (show(7:Int)≠0 by decide)
  have hm:0<=c*10^(40:Int).toNat:=Int.mul_nonneg c0 (by decide)
  have:c / 20%4=0∨c / 20%4=1∨c / 20%4=2∨c / 20%4=3:=by lia
  rcases this with e|e|e|e
  ·exact⟨0,by rw[e];rfl,by lia⟩
  ·exact⟨5,by rw[e];rfl,by lia⟩
  ·exact⟨-1-c%7,by rw[e];rfl,by lia⟩
  ·exact⟨9+c*10^(40:Int).toNat,by rw[e];rfl,by lia⟩
 refine⟨_,rfl,_,rfl,_,_,rfl,rfl,(by show(0:Int)<7;decide),_,_,rfl,rfl,_,rfl,_,_,rfl,rfl,⟨by decide,by decide,by decide⟩,_,_,rfl,rfl,⟨?_,?_⟩,_,_,rfl,rfl,qE,λq7 g7=>?_⟩
 ·exact Jb (show c.natAbs<2^32 by lia) (by decide)
 ·exact Jb (show((10:Int)^(40:Int).toNat).natAbs<2^200 by decide) (by decide)
 have z:=z.trans (Gy g7 (.lst [V.int 0,V.int 5,V.int (-1-c%7),V.int (9+c*10^(40:Int).toNat)]))
 refine⟨_,rfl,_,_,rfl,rfl,⟨by decide,by decide⟩,_,_,rfl,rfl,(by show(0:Int)<4;decide),q7,_,_,.int cnt,rfl,rfl,HJ.of Gu,aC,?_⟩
 show JF 7 (.int cnt) _ (Gw H6 q7 (.lst [V.int 0,V.int 5,V.int (-1-c%7),V.int (9+c*10^(40:Int).toNat)])) _
 generalize Gw H6 q7 (.lst [V.int 0,V.int 5,V.int (-1-c%7),V.int (9+c*10^(40:Int).toNat)])=H7 at *
 refine⟨Hr,λbt0 bg0=>⟨IH,λbt1 bg1=>⟨IH,λbt2 bg2=>⟨Hr,λbt3 bg3=>⟨qE,λbl bgl=>?_⟩⟩⟩⟩⟩
 have bw0:=Gy bg0 (.tup [V.int (1),V.int (2)])
 have bw1:=Gy bg1 (.tup [V.int (0)])
 have bw2:=Gy bg2 (.tup [V.int (9)])
 have bw3:=Gy bg3 (.tup [V.int (5),V.int (4)])
 have bwl:=Gy bgl (.lst [.ref bt0,.ref bt1,.ref bt2,.ref bt3])
 have zN:=bw0.trans (bw1.trans (bw2.trans (bw3.trans bwl)))
 obtain⟨btr,br,bat,bhr,brow⟩:∃(tr:wO)(r:wB),J6 [V.ref bt0,V.ref bt1,V.ref bt2,V.ref bt3] (c / 80%4)=some (.ref tr)/\(Gw (Gw (Gw (Gw (Gw H7 bt0 (.tup [V.int (1),V.int (2)])) bt1 (.tup [V.int (0)])) bt2 (.tup [V.int (9)])) bt3 (.tup [V.int (5),V.int (4)])) bl (.lst [.ref bt0,.ref bt1,.ref bt2,.ref bt3])) tr=some (.tup (r.map V.int))/\IN r=false/\r.length<=1000:=by
  have h0:=B6 (c / 80) (show(4:Int)≠0 by decide)
  have h1:=Bz (c / 80) (show(0:Int)<4 by decide)
  have:c / 80%4=0∨c / 80%4=1∨c / 80%4=2∨c / 80%4=3:=by lia
  rcases this with e|e|e|e
  ·exact⟨bt0,[1,2],by rw[e];rfl,(bw1.trans (bw2.trans (bw3.trans bwl))) _ _ Gu,by decide +kernel,by decide⟩
  ·exact⟨bt1,[0],by rw[e];rfl,(bw2.trans (bw3.trans bwl)) _ _ Gu,by decide +kernel,by decide⟩
  ·exact⟨bt2,[9],by rw[e];rfl,(bw3.trans bwl) _ _ Gu,by decide +kernel,by decide⟩
  ·exact⟨bt3,[5,4],by rw[e];rfl,bwl _ _ Gu,by decide +kernel,by decide⟩
 refine⟨_,rfl,_,_,rfl,rfl,⟨by decide,by decide⟩,_,_,rfl,rfl,(by show(0:Int)<4;decide),bl,_,_,.ref btr,rfl,rfl,HJ.of Gu,bat,?_⟩
 have z:=z.trans zN
 show JF 8 (.ref btr) _ (Gw (Gw (Gw (Gw (Gw H7 bt0 (.tup [V.int (1),V.int (2)])) bt1 (.tup [V.int (0)])) bt2 (.tup [V.int (9)])) bt3 (.tup [V.int (5),V.int (4)])) bl (.lst [.ref bt0,.ref bt1,.ref bt2,.ref bt3])) _
 generalize (Gw (Gw (Gw (Gw (Gw H7 bt0 (.tup [V.int (1),V.int (2)])) bt1 (.tup [V.int (0)])) bt2 (.tup [V.int (9)])) bt3 (.tup [V.int (5),V.int (4)])) bl (.lst [.ref bt0,.ref bt1,.ref bt2,.ref bt3]))=HN at *
 clear bw0 bw1 bw2 bw3 bwl zN
 refine⟨_,rfl,_,_,rfl,rfl,IH,λt9 g9=>?_⟩
 refine⟨_,rfl,_,_,rfl,rfl,Hr,λt10 g10=>?_⟩
 have w9:=Gy g9 (.tup [V.int ((n:Int)+1)])
 have w10:=Gy g10 (.tup [V.int ((n:Int)+1),V.int 1])
 have w910:=w9.trans w10
 obtain⟨fr1,fr2,fr3,fr4,fr5,fr6⟩:=dN n (K0 n1 n4) kd hkd
 refine⟨λσ' H'=>∃pf pm:wO,σ'=[some (.ref a0),some (.int n),some (.ref ls),some (.ref lt),some (.int c),some (.str kd),some (.str sg),some (.int cnt),some (.ref btr),some (.ref pf),some (.ref pm)]/\H' pf=some (.tup ((K9 kd n).map V.int))/\H' pm=some (.tup ((Lz kd n).map V.int))/\Gh HN H',?_,?_⟩
 ·refine⟨_,rfl,rfl,_,rfl,?_⟩
  by_cases e1:kd = "exchange" ∨ kd = "filling"
  ·by_cases e2:kd = "exchange"
   ·refine Jq (Pu e2) (JP ?_)
    refine⟨_,rfl,_,_,rfl,rfl,_,rfl,by lia,by lia,λbk D hD2=>?_⟩
    rw[show((n:Int)+1).toNat=n+1 by lia]
    refine Vz (α:=Int) hD2 (λσ=>∃e,σ=[e]) (λi=>some 1) (small (by lia)) ⟨_,rfl⟩ ?_ ?_
    ·rintro i σ H4 Yes No hi ⟨e,rfl⟩ s4 yes no
     refine NV ?_
     exact yes _ _ _ 1 ⟨_,rfl⟩ (Gh.refl _) rfl rfl
    rintro H4 s4 ⟨bv,eB,iB⟩
    rw[NP iB,S8]at eB
    refine⟨D,_,rfl,.inl ⟨HJ.of eB,λtf gf=>?_⟩⟩
    have wf:=Gy gf (.tup ((List.replicate (n+1) (1:Int)).map V.int))
    refine⟨IH,λt2 g2=>?_⟩
    have w2:=Gy g2 (.tup [.int 2])
    refine⟨_,rfl,1,rfl,tf,List.replicate (n+1) 1,rfl,rfl,rfl,w2 _ _ Gu,λt3 H5 s5 h5=>?_⟩
    refine Kp (r:=[2]) (r':=(List.replicate (n+1) 1).drop 1) (s5 _ _ Gu) h5 (small (by rw[BC,A0];show 1+(n+1-1)<=100000;lia)) λt6 H6 s6 h6=>?_
    refine⟨tf,t6,rfl,?_,?_,?_⟩
    ·unfold K9;rw[AF e1];exact s6 _ _ (s5 _ _ (w2 _ _ Gu))
    ·unfold Lz;rw[AF e1];exact h6
    ·exact w910.trans (s4.trans (wf.trans (w2.trans (s5.trans s6))))
   ·refine JV (OJ e2) ⟨_,rfl,rfl,_,rfl,Jq (Pu (e1.resolve_left e2)) ?_⟩
    refine⟨_,rfl,_,_,rfl,rfl,_,rfl,by lia,by lia,λbk D hD2=>?_⟩
    rw[show((n:Int)+1).toNat=n+1 by lia]
    refine Vz (α:=Int) hD2 (λσ=>∃e,σ=[e]) (λi=>some 1) (small (by lia)) ⟨_,rfl⟩ ?_ ?_
    ·rintro i σ H4 Yes No hi ⟨e,rfl⟩ s4 yes no
     refine NV ?_
     exact yes _ _ _ 1 ⟨_,rfl⟩ (Gh.refl _) rfl rfl
    rintro H4 s4 ⟨bv,eB,iB⟩
    rw[NP iB,S8]at eB
    refine⟨D,_,rfl,.inl ⟨HJ.of eB,λtf gf=>?_⟩⟩
    have wf:=Gy gf (.tup ((List.replicate (n+1) (1:Int)).map V.int))
    refine⟨IH,λt2 g2=>?_⟩
    have w2:=Gy g2 (.tup [.int 2])
    refine⟨_,rfl,1,rfl,tf,List.replicate (n+1) 1,rfl,rfl,rfl,w2 _ _ Gu,λt3 H5 s5 h5=>?_⟩
    refine Kp (r:=[2]) (r':=(List.replicate (n+1) 1).drop 1) (s5 _ _ Gu) h5 (small (by rw[BC,A0];show 1+(n+1-1)<=100000;lia)) λt6 H6 s6 h6=>?_
    refine⟨tf,t6,rfl,?_,?_,?_⟩
    ·unfold K9;rw[AF e1];exact s6 _ _ (s5 _ _ (w2 _ _ Gu))
    ·unfold Lz;rw[AF e1];exact h6
    ·exact w910.trans (s4.trans (wf.trans (w2.trans (s5.trans s6))))
  ·refine JV (OJ λy=>e1 (.inl y)) ⟨_,rfl,rfl,_,rfl,JV (OJ λy=>e1 (.inr y)) ⟨t9,t10,rfl,?_,?_,w910⟩⟩
   ·unfold K9;rw[AD e1];exact w10 _ _ Gu
   ·unfold Lz;rw[AD e1];exact Gu
 rintro σ' Hb ⟨pf,pm,rfl,hpf,hpm,z11⟩
 have hbr:=z11 _ _ bhr
 have n14:1<=(n:Int)/\(n:Int)<=4:=⟨by lia,by lia⟩
 clear z11 bhr w9 w10 w910 z hT hL3 hS3
 have z:=Gh.refl Hb
 refine⟨_,rfl,?_⟩
 refine⟨_,rfl,Hr,λs1 gs1=>⟨Hr,λe1 ge1=>?_⟩⟩
 have ws1:=Gy gs1 (.tup [V.int 1,V.int 2])
 have we1:=Gy ge1 (.tup [.ref btr,.ref s1])
 refine⟨IH,λll2 gl2=>?_⟩
 have wl2:=Gy gl2 (.lst [.ref e1])
 refine⟨_,rfl,_,rfl,cBR,["row"],T5 ⟨[.ref e1],Gu,(.cons (Kg (t:=((br),[1,2])) (wl2 _ _ Gu) ((z.trans (ws1.trans (we1.trans wl2))) _ _ hbr) ((we1.trans wl2) _ _ Gu)) .nil)⟩ (Sy (brow.2)) (S9 brow.1),tR,λl20 G20 fl20 sl20 hl20=>?_⟩
 refine⟨IH,λm20 gm20=>?_⟩
 have wm20:=Gy gm20 (.lst [V.str (Str.ofString "row")])
 refine⟨l20,m20,(["row"]:wG),(["row"]:wG),rfl,rfl,hl20.mono wm20,⟨_,Gu,.cons rfl .nil⟩,_,rfl,Lc (by rw[KZ];rfl) ?_⟩
 have z:=z.trans ((ws1.trans (we1.trans wl2)).trans (sl20.trans wm20))
 refine⟨_,rfl,?_⟩
 refine⟨IH,λr3 gr3=>⟨Hr,λs3 gs3=>⟨Hr,λe3 ge3=>?_⟩⟩⟩
 have wr3:=Gy gr3 (.tup [V.int 2])
 have ws3:=Gy gs3 (.tup [V.int 1,V.int 2])
 have we3:=Gy ge3 (.tup [.ref r3,.ref s3])
 refine⟨_,rfl,Hr,λs4 gs4=>⟨Hr,λe4 ge4=>?_⟩⟩
 have ws4:=Gy gs4 (.tup [V.int 1,V.int 2])
 have we4:=Gy ge4 (.tup [.ref btr,.ref s4])
 refine⟨Hr,λll5 gl5=>?_⟩
 have wl5:=Gy gl5 (.lst [.ref e3,.ref e4])
 refine⟨_,rfl,_,rfl,cBR,["row"],T5 ⟨[.ref e3,.ref e4],Gu,(.cons (Kg (t:=(([2]),[1,2])) ((ws4.trans (we4.trans wl5)) _ _ Gu) ((ws3.trans (we3.trans (ws4.trans (we4.trans wl5)))) _ _ Gu) ((we3.trans (ws4.trans (we4.trans wl5))) _ _ Gu)) (.cons (Kg (t:=((br),[1,2])) (wl5 _ _ Gu) ((z.trans (wr3.trans (ws3.trans (we3.trans (ws4.trans (we4.trans wl5)))))) _ _ hbr) ((we4.trans wl5) _ _ Gu)) .nil))⟩ (MY (by decide) (brow.2)) (Ze brow.1),tR,λl21 G21 fl21 sl21 hl21=>?_⟩
 refine⟨IH,λm21 gm21=>?_⟩
 have wm21:=Gy gm21 (.lst [V.str (Str.ofString "row")])
 refine⟨l21,m21,(["row"]:wG),(["row"]:wG),rfl,rfl,hl21.mono wm21,⟨_,Gu,.cons rfl .nil⟩,_,rfl,Lc (by rw[KZ];rfl) ?_⟩
 have z:=z.trans ((wr3.trans (ws3.trans (we3.trans (ws4.trans (we4.trans wl5))))).trans (sl21.trans wm21))
 refine⟨_,rfl,?_⟩
 refine⟨JN,λll6 gl6=>?_⟩
 have wl6:=Gy gl6 (.lst [])
 refine⟨_,rfl,_,rfl,cBC,["count"],Wt ⟨[],Gu,.nil⟩ (λt ht=>by cases ht) rfl hcnt,tC,λl22 G22 fl22 sl22 hl22=>?_⟩
 refine⟨IH,λm22 gm22=>?_⟩
 have wm22:=Gy gm22 (.lst [V.str (Str.ofString "count")])
 refine⟨l22,m22,(["count"]:wG),(["count"]:wG),rfl,rfl,hl22.mono wm22,⟨_,Gu,.cons rfl .nil⟩,_,rfl,Lc (by rw[KZ];rfl) ?_⟩
 have z:=z.trans (wl6.trans (sl22.trans wm22))
 refine⟨_,rfl,?_⟩
 refine⟨_,rfl,Hr,λs7 gs7=>⟨Hr,λe7 ge7=>?_⟩⟩
 have ws7:=Gy gs7 (.tup [V.int 1,V.int 2])
 have we7:=Gy ge7 (.tup [.ref pf,.ref s7])
 refine⟨IH,λll8 gl8=>?_⟩
 have wl8:=Gy gl8 (.lst [.ref e7])
 refine⟨_,rfl,_,rfl,cNK,["kind"],Rq ⟨[.ref e7],Gu,(.cons (Kg (t:=((K9 kd n),[1,2])) (wl8 _ _ Gu) ((z.trans (ws7.trans (we7.trans wl8))) _ _ hpf) ((we7.trans wl8) _ _ Gu)) .nil)⟩ (Sy (fr5)) (S9 fr1) n14 (λw=>hsg w.1),tK,λl23 G23 fl23 sl23 hl23=>?_⟩
 refine⟨IH,λm23 gm23=>?_⟩
 have wm23:=Gy gm23 (.lst [V.str (Str.ofString "kind")])
 refine⟨l23,m23,(["kind"]:wG),(["kind"]:wG),rfl,rfl,hl23.mono wm23,⟨_,Gu,.cons rfl .nil⟩,_,rfl,Lc (by rw[KZ];rfl) ?_⟩
 have z:=z.trans ((ws7.trans (we7.trans wl8)).trans (sl23.trans wm23))
 refine⟨_,rfl,?_⟩
 refine⟨JN,λll9 gl9=>?_⟩
 have wl9:=Gy gl9 (.lst [])
 refine⟨_,rfl,_,rfl,cNK,["kind"],Rq ⟨[],Gu,.nil⟩ (λt ht=>by cases ht) rfl n14 (λw=>hsg w.2),tK,λl24 G24 fl24 sl24 hl24=>?_⟩
 refine⟨IH,λm24 gm24=>?_⟩
 have wm24:=Gy gm24 (.lst [V.str (Str.ofString "kind")])
 refine⟨l24,m24,(["kind"]:wG),(["kind"]:wG),rfl,rfl,hl24.mono wm24,⟨_,Gu,.cons rfl .nil⟩,_,rfl,Lc (by rw[KZ];rfl) ?_⟩
 have z:=z.trans (wl9.trans (sl24.trans wm24))
 refine⟨_,rfl,?_⟩
 refine⟨_,rfl,Hr,λs10 gs10=>⟨Hr,λe10 ge10=>?_⟩⟩
 have ws10:=Gy gs10 (.tup [V.int 1,V.int 2])
 have we10:=Gy ge10 (.tup [.ref pf,.ref s10])
 refine⟨IH,λr11 gr11=>⟨Hr,λs11 gs11=>⟨Hr,λe11 ge11=>?_⟩⟩⟩
 have wr11:=Gy gr11 (.tup [V.int 1])
 have ws11:=Gy gs11 (.tup [V.int 1,V.int 3])
 have we11:=Gy ge11 (.tup [.ref r11,.ref s11])
 refine⟨Hr,λll12 gl12=>?_⟩
 have wl12:=Gy gl12 (.lst [.ref e10,.ref e11])
 refine⟨_,rfl,cNB,["by"],Zd ⟨[.ref e10,.ref e11],Gu,(.cons (Kg (t:=((K9 kd n),[1,2])) ((wr11.trans (ws11.trans (we11.trans wl12))) _ _ Gu) ((z.trans (ws10.trans (we10.trans (wr11.trans (ws11.trans (we11.trans wl12)))))) _ _ hpf) ((we10.trans (wr11.trans (ws11.trans (we11.trans wl12)))) _ _ Gu)) (.cons (Kg (t:=(([1]),[1,3])) (wl12 _ _ Gu) ((ws11.trans (we11.trans wl12)) _ _ Gu) ((we11.trans wl12) _ _ Gu)) .nil))⟩ (MY (fr5) (by decide)) (Pd fr1 (by decide +kernel)) n14 ⟨hkd,by decide⟩ (by rw[Af];exact fr3),tB,λl25 G25 fl25 sl25 hl25=>?_⟩
 refine⟨IH,λm25 gm25=>?_⟩
 have wm25:=Gy gm25 (.lst [V.str (Str.ofString "by")])
 refine⟨l25,m25,(["by"]:wG),(["by"]:wG),rfl,rfl,hl25.mono wm25,⟨_,Gu,.cons rfl .nil⟩,_,rfl,Lc (by rw[KZ];rfl) ?_⟩
 have z:=z.trans ((ws10.trans (we10.trans (wr11.trans (ws11.trans (we11.trans wl12))))).trans (sl25.trans wm25))
 refine⟨_,rfl,?_⟩
 refine⟨_,rfl,Hr,λs13 gs13=>⟨Hr,λe13 ge13=>?_⟩⟩
 have ws13:=Gy gs13 (.tup [V.int 1,V.int 2])
 have we13:=Gy ge13 (.tup [.ref pm,.ref s13])
 refine⟨_,rfl,Hr,λs14 gs14=>⟨Hr,λe14 ge14=>?_⟩⟩
 have ws14:=Gy gs14 (.tup [V.int 1,V.int 3])
 have we14:=Gy ge14 (.tup [.ref pf,.ref s14])
 refine⟨Hr,λll15 gl15=>?_⟩
 have wl15:=Gy gl15 (.lst [.ref e13,.ref e14])
 refine⟨_,rfl,n,ll15,_,_,kd,rfl,n1,n4,⟨[.ref e13,.ref e14],Gu,(.cons (Kg (t:=((Lz kd n),[1,2])) ((ws14.trans (we14.trans wl15)) _ _ Gu) ((z.trans (ws13.trans (we13.trans (ws14.trans (we14.trans wl15))))) _ _ hpm) ((we13.trans (ws14.trans (we14.trans wl15))) _ _ Gu)) (.cons (Kg (t:=((K9 kd n),[1,3])) (wl15 _ _ Gu) ((z.trans (ws13.trans (we13.trans (ws14.trans (we14.trans wl15))))) _ _ hpf) ((we14.trans wl15) _ _ Gu)) .nil))⟩,(MY (fr6) (fr5)),(Pd fr2 fr1),hkd,fr4,λkk40 G40 sk40 hk40=>?_⟩
 have z:=z.trans ((ws13.trans (we13.trans (ws14.trans (we14.trans wl15)))).trans sk40)
 refine⟨_,rfl,Lz kd n,Lz kd n,Js hk40,Js (z _ _ hpm),_,rfl,Lc (by rw[KZ];rfl) ?_⟩
 refine⟨_,rfl,?_⟩
 refine⟨_,rfl,Hr,λs16 gs16=>⟨Hr,λe16 ge16=>?_⟩⟩
 have ws16:=Gy gs16 (.tup [V.int 1,V.int 2])
 have we16:=Gy ge16 (.tup [.ref pf,.ref s16])
 refine⟨IH,λr17 gr17=>⟨Hr,λs17 gs17=>⟨Hr,λe17 ge17=>?_⟩⟩⟩
 have wr17:=Gy gr17 (.tup [V.int 1])
 have ws17:=Gy gs17 (.tup [V.int 1,V.int 3])
 have we17:=Gy ge17 (.tup [.ref r17,.ref s17])
 refine⟨Hr,λll18 gl18=>?_⟩
 have wl18:=Gy gl18 (.lst [.ref e16,.ref e17])
 refine⟨_,rfl,n,ll18,_,_,kd,rfl,n1,n4,⟨[.ref e16,.ref e17],Gu,(.cons (Kg (t:=((K9 kd n),[1,2])) ((wr17.trans (ws17.trans (we17.trans wl18))) _ _ Gu) ((z.trans (ws16.trans (we16.trans (wr17.trans (ws17.trans (we17.trans wl18)))))) _ _ hpf) ((we16.trans (wr17.trans (ws17.trans (we17.trans wl18)))) _ _ Gu)) (.cons (Kg (t:=(([1]),[1,3])) (wl18 _ _ Gu) ((ws17.trans (we17.trans wl18)) _ _ Gu) ((we17.trans wl18) _ _ Gu)) .nil))⟩,(MY (fr5) (by decide)),(Pd fr1 (by decide +kernel)),hkd,fr3,λkk41 G41 sk41 hk41=>?_⟩
 have z:=z.trans ((ws16.trans (we16.trans (wr17.trans (ws17.trans (we17.trans wl18))))).trans sk41)
 refine⟨_,rfl,K9 kd n,K9 kd n,Js hk41,Js (z _ _ hpf),?_⟩
 rw[KZ]
 exact q _
end
section
variable{P:wP}{w:wQ}{K:wL}{mg:Str->wI}{base:Heap}{f g:wO}{fd gd:wR}
def FQ(K:wL)(n:Str)(st:Stmt):Prop:=∃(f:wO)(fd:wR),W.nsIn K mainGlobals n=some (some (.ref f))/\Hi K n n st f fd
theorem fq_mk{n:Str}{st:Stmt}{f:wO}{oc:wN}{od an:Option wO}{osl:Array wI}{kV doc pm HQ ct:wN}(a:W.nsIn K mainGlobals n=some (some (.ref f)))(l:K.lookup f=some ⟨oc,od,.func (W.fnOf n n (Mt st) (K7 st) (HS st) .none kV doc pm an HQ ct),osl⟩)
  (c:W.codeIn K HQ n=true) (k:W.keepIn K (.ref f)=true):FQ K n st:=⟨f,_,a,Ob l c k⟩
theorem FQ.x{n:Str}{st:Stmt}{h:Heap}(q:FQ K n st)(X:K.In h)(G:h.Ns mainGlobals mg):∃f fd,Hi K n n st f fd/\W.keepIn K (.ref f)=true/\mg n=some (.ref f):=by
 obtain⟨f,fd,a,F⟩:=q
 exact⟨f,fd,F,F.kp,BJ X G a⟩
noncomputable def Hh.lift{j k:Nat}{x:Str}{ps:wG}{sp:Sp}(G:Hh P w K mg base j x ps sp)(h:j<=k):Hh P w K mg base k x ps sp:=⟨G.f,G.fd,G.ok.mono h,G.bd,G.kp,G.at_⟩
noncomputable def Hh.ql{P:wP}{w:wQ}{K:wL}{mg:Str->wI}{base:Heap}{j k:Nat}{x:Str}{ps:wG}{sp:Sp}(G:Hh P w K mg base j x ps sp)(h:j<=k:=by decide):Hh P w K mg base k x ps sp:=G.lift h
theorem Xu{K:wL}{C:wO}{ds:wH}{bs:List Bool}(h:Paired (λd b=>W.kitOne K (.ref C) (.ref d)=some b) ds bs):Pm K C ds bs:=⟨AL h,λi d b h1 h2=>by
 obtain⟨b',e,q⟩:=Paired.get h h1
 rw[h2]at e
 cases e
 exact q⟩
structure TQ(K:wL)(ds:wH)(C C0:wO)(fl:List Bool):Prop where
 a:W.mroIn K C (.type "object")=some true
 b:W.mroIn K C (.type "BaseException")=some true
 c:W.findIn K (.ref C) "__class__" = some (some (.builtin "object.__class__"))
 d:W.findIn K (.ref C) "__getattribute__" = some (some (.builtin "BaseException.__getattribute__"))
 e:W.findIn K (.ref C) "__getattr__" = some none
 v:W.kitOne K (.ref C) (.type "ValueError")=some true
 w:W.kitOne K (.ref C) (.ref C0)=some true
 n:C≠C0
 s:Paired (λd b=>W.kitOne K (.ref C) (.ref d)=some b) ds fl
theorem TQ.told{ds:wH}{C C0:wO}{fl:List Bool}{nm:wG}(t:TQ K ds C C0 fl)(e:MZ fl=nm)(i:(W.clsIn K C).isSome=true):Ji K ds C0 C nm:=⟨⟨t.a,t.b,t.c,t.d,t.e,i⟩,t.v,⟨fl,Xu t.s,e⟩,t.w,t.n⟩
theorem iQ{K:wL}{C:wO}(a:(W.clsIn K C).isSome=true)(b:W.typeIn K (.ref C)=some (.type "type"))(c:W.mroIn K C (.ref C)=some true):W.kitCls K (.ref C) (.ref C)=some true:=by
 unfold W.kitCls
 simp
 exact⟨⟨a,b⟩,c⟩
end
set_option maxHeartbeats 1000000
end L2.K92
namespace L2.Ev
open PySem PySem.Spec PyProof.Rows
open PySem.W PySem.Calls Builtin Builtin.ObjectAttr
section
structure IK(K:Frag)(C C0 fI:wO)(dd:Option wO)(cd:ClassData)(sl:Array wI)(o1:wN)(o2:Option wO)(es:Array wT)(n:Nat)(o3:Array wI):Prop where
 l:K.lookup C=some ⟨.type "type",dd,.cls cd,sl⟩
 m:cd.mro=[.ref C,.ref C0,.type "ValueError",.type "Exception",.type "BaseException",.type "object"]
 g:cd.hasDel=false/\cd.hasDict=true
 s:(sl.toList.length==6&&sl.toList[4]?==some (some (.builtin "ValueError.__new__")))=true
 d:K.lookup cd.ns=some ⟨o1,o2,.dict es n,o3⟩
 k:(es.toList.all λe=>match e.key with|.str _ _=>true|_=>false)=true
 i:nsIn K cd.ns "__init__" = some (some (.ref fI))
 b:excIn K C0 N3 "ValueError.__new__" = true
variable{K:Frag}{C C0 fI:wO}{dd:Option wO}{cd:ClassData}{sl:Array wI}{o1:wN}{o2:Option wO}{es:Array wT}{n:Nat}{o3:Array wI}
theorem lO(b:excIn K C0 N3 "ValueError.__new__" = true):tailIn K N3 (.ref C0::N3)=true:=by
 unfold excIn at b
 unfold tailIn
 rw[Di]
 right
 split at b
 ·rename_i cd sl ho
  split at b
  ·simp only[AK,E3]at b
   dsimp only
   rw[ho]
   dsimp only
   obtain⟨⟨⟨⟨⟨_,_⟩,_⟩,_⟩,h1⟩,h2⟩:=b
   rw[h1,h2]
   have e:tailIn K N3 N3=true:=by
    unfold tailIn
    rw[Di]
    left
    decide
   rw[e]
   decide
  ·cases b
 ·cases b
theorem IK.cls(p:IK K C C0 fI dd cd sl o1 o2 es n o3):clsIn K C=some cd:=by
 unfold clsIn
 rw[p.l]
theorem IK.some(p:IK K C C0 fI dd cd sl o1 o2 es n o3):(clsIn K C).isSome=true:=by
 rw[p.cls]
 rfl
theorem IK.st(p:IK K C C0 fI dd cd sl o1 o2 es n o3):MT K C=true:=by
 unfold MT
 rw[p.cls]
 show(QV cd.mro&&cd.hasDict)=true
 rw[p.m,p.g.2]
 rfl
theorem IK.j(p:IK K C C0 fI dd cd sl o1 o2 es n o3):Mb K C fI=true:=by
 unfold Mb
 rw[p.l]
 have hn:nsOkIn K cd.ns=true:=by
  unfold nsOkIn
  rw[p.d]
  show(es.all λe=>match e.key with|.str _ _=>true|_=>false)=true
  rw[<-Array.all_toList]
  exact p.k
 have ht:tailIn K [.type "ValueError",.type "Exception",.type "BaseException",.type "object"] cd.mro.tail=true:=by
  rw[p.m]
  exact lO p.b
 have hm:(cd.mro.head?==Option.some (.ref C))=true:=by
  rw[p.m]
  exact CJ _
 have hi:(nsIn K cd.ns "__init__" == Option.some (Option.some (.ref fI)))=true:=by
  rw[p.i]
  exact CJ _
 show(cd.mro.head?==Option.some (.ref C)&&tailIn K [.type "ValueError",.type "Exception",.type "BaseException",.type "object"] cd.mro.tail&&nsOkIn K cd.ns&&nsIn K cd.ns "__init__" == Option.some (Option.some (.ref fI))&&!cd.hasDel&&(sl.toList.length==6&&sl.toList[4]?==Option.some (Option.some (.builtin "ValueError.__new__"))))=true
 rw[hm,ht,hn,hi,p.g.1,p.s]
 rfl
end
set_option maxHeartbeats 4000000
end L2.Ev
namespace L2.K92
open PySem
open L2.Pl L2.Ev
theorem MB{α:Type}{C:List α->Prop}(h:∀a0,C [a0]):∀us:List α,us.length=1->C us
 |[a0],_=>h a0
theorem P1{α:Type}{C:List α->Prop}(h:∀a0 a1,C [a0,a1]):∀us:List α,us.length=2->C us
 |[a0,a1],_=>h a0 a1
theorem Qd{α:Type}{C:List α->Prop}(h:∀a0 a1 a2,C [a0,a1,a2]):∀us:List α,us.length=3->C us
 |[a0,a1,a2],_=>h a0 a1 a2
theorem tU{α:Type}{C:List α->Prop}(h:∀a0 a1 a2 a3,C [a0,a1,a2,a3]):∀us:List α,us.length=4->C us
 |[a0,a1,a2,a3],_=>h a0 a1 a2 a3
theorem rX{α:Type}{C:List α->Prop}(h:∀a0 a1 a2 a3 a4,C [a0,a1,a2,a3,a4]):∀us:List α,us.length=5->C us
 |[a0,a1,a2,a3,a4],_=>h a0 a1 a2 a3 a4
theorem FQ.g{P:wP}{w:wQ}{K:wL}{mg:Str->wI}{base:Heap}{n:Str}{st:Stmt}{ps:wG}{sp:Sp}{k:Nat}{h:Heap}(q:FQ K n st)(X:K.In h)(G:h.Ns mainGlobals mg)(ok:∀f fd,Hi K n n st f fd->Gx P w K mg base Ho k f fd ps sp)(b:∀(kV doc pm:wN)(an:Option wO)(HQ ct:wN)(us:wC),us.length=ps.length->bindArgs (W.fnOf n n (Mt st) (K7 st) (HS st) .none kV doc pm an HQ ct) ⟨us,[]⟩=pure (ps.zip us):=by intro _ _ _ _ _ _;first|exact MB λ_=>rfl|exact P1 λ_ _=>rfl|exact Qd λ_ _ _=>rfl|exact tU λ_ _ _ _=>rfl|exact rX λ_ _ _ _ _=>rfl):Nonempty (Hl P w K mg base k n ps sp):=by
 obtain⟨f,fd,F,kp,A⟩:=q.x X G
 exact⟨⟨f,fd,ok f fd F,F.binds b,kp,A⟩⟩
theorem FQ.gx{P:wP}{w:wQ}{K:wL}{mg:Str->wI}{base:Heap}{n:Str}{st:Stmt}{ps:wG}{sp:Sp}{k:Nat}{h:Heap}(q:FQ K n st)(X:K.In h)(G:h.Ns mainGlobals mg)(ok:∀f fd,Hi K n n st f fd->Gx P w K mg base (IB P w) k f fd ps sp)(b:∀(kV doc pm:wN)(an:Option wO)(HQ ct:wN)(us:wC),us.length=ps.length->bindArgs (W.fnOf n n (Mt st) (K7 st) (HS st) .none kV doc pm an HQ ct) ⟨us,[]⟩=pure (ps.zip us):=by intro _ _ _ _ _ _;first|exact MB λ_=>rfl|exact P1 λ_ _=>rfl|exact Qd λ_ _ _=>rfl|exact tU λ_ _ _ _=>rfl|exact rX λ_ _ _ _ _=>rfl):Nonempty (Hh P w K mg base k n ps sp):=by
 obtain⟨f,fd,F,kp,A⟩:=q.x X G
 exact⟨⟨f,fd,ok f fd F,F.binds b,kp,A⟩⟩
theorem all_mk{l:W.OpenLaw}{w:wQ}{K:wL}{h:Heap}{mg:Str->wI}{fa:wO}(X:K.In h)(G:h.Ns mainGlobals mg)(hfa:mg "law" = some (.ref fa))
  (q1:FQ K "refuse_bad_count" qK)
  (q2:FQ K "gathered" Pg)
  (q3:FQ K "plus" Oe)
  (q4:FQ K "less" MO)
  (q5:FQ K "multiplied" Mc)
  (q6:FQ K "swapped" Pi)
  (q7:FQ K "exchanged" Mn)
  (q8:FQ K "refuse_bad_row" Lq)
  (q9:FQ K "refuse_bad_rows" Oj)
  (q10:FQ K "count_from" Wh)
  (q11:FQ K "turned_over" Vc)
  (q12:FQ K "uneven" Ye)
  (q13:FQ K "refuse_uneven" kP)
  (q14:FQ K "orders" VX)
  (q15:FQ K "exchange_sum" Vq)
  (q16:FQ K "falls" W7)
  (q17:FQ K "row_of" Vo)
  (q18:FQ K "by_exchange" WG)
  (q19:FQ K "product" Vk)
  (q20:FQ K "elementary" fV)
  (q21:FQ K "elementary_product" WH)
  (q22:FQ K "by_elementary" V9)
  (q23:FQ K "joined" pV)
  (q24:FQ K "alternating" aT)
  (q25:FQ K "put_in" Zq)
  (q26:FQ K "elementaries_by_whole" ZS)
  (q27:FQ K "by_whole" mQ)
  (q28:FQ K "unknown_alone" YX)
  (q29:FQ K "differences" Xa)
  (q30:FQ K "by_fillings" WK)
  (q31:FQ K "common_divisor" XE)
  (q32:FQ K "fraction" eR)
  (q33:FQ K "multiplied_up" Zg)
  (q34:FQ K "elementaries_by_power" Vx)
  (q35:FQ K "by_power" P6)
  (q36:FQ K "refuse_no_kind" X5)
  (q37:FQ K "lets_in" Op)
  (q38:FQ K "refuse_not_by" aF)
  (q39:FQ K "sum_by" oR)
  (q40:FQ K "whole_telling" X0)
  (q41:FQ K "shared_telling" WX)
  (q42:FQ K "common_bottom" Xv)
  (q43:FQ K "summed_up" WA)
  (q44:FQ K "carried" NH)
  (q45:FQ K "_law_called" Wk)
  (q46:FQ K "_law_cell" Po)
  (q47:FQ K "_law_rows" Mr)
  (q48:FQ K "_law_plain" VY)
  (q49:FQ K "_law_arranged" MP)
  (q50:FQ K "_law_put" Os)
  (q51:FQ K "_law_even" Ma)
  (q52:FQ K "_law_flags" On)
  (q53:FQ K "_law_field" Pf)
  (q54:FQ K "_law_shares" Mj)
  (q55:FQ K "law" MX)
  {tk1:Tok} (g1:W.nsIn K mainGlobals "MOST_UNKNOWNS" = some (some (.int 4 tk1)))
  {tk2:Tok} (g2:W.nsIn K mainGlobals "MOST_TOGETHER" = some (some (.int 8 tk2)))
  {d0 d1 d2 d3 d4 d5 d6 d7 d8 d9 d10 d11 d12 d13:wO} {fI:wO} {odI anI ddC o2C:Option wO} {slI slC o3C:Array wI} {ocI kVI dcI pmI cdI ctI o1C:wN} {cdC:ClassData} {esC:Array wT} {nnC:Nat} {fN dK:wO} {odN anN ddN o2N odK:Option wO} {slN slCN o3N slK:Array wI} {ocN kVN dcN pmN cdN ctN o1N:wN} {cdCN:ClassData} {esN:Array wT} {nnN nK:Nat} {tk0 tk1 tk2 tk3 tk4:Tok}
  (y0:W.nsIn K mainGlobals "BadCount" = some (some (.ref d0)))
  (y1:W.nsIn K mainGlobals "BadPowers" = some (some (.ref d1)))
  (y2:W.nsIn K mainGlobals "TooGreat" = some (some (.ref d2)))
  (y3:W.nsIn K mainGlobals "BadRow" = some (some (.ref d3)))
  (y4:W.nsIn K mainGlobals "UnlikeWeights" = some (some (.ref d4)))
  (y5:W.nsIn K mainGlobals "TooLong" = some (some (.ref d5)))
  (y6:W.nsIn K mainGlobals "Uneven" = some (some (.ref d6)))
  (y7:W.nsIn K mainGlobals "NoKind" = some (some (.ref d7)))
  (y8:W.nsIn K mainGlobals "NotBy" = some (some (.ref d8)))
  (y9:W.nsIn K mainGlobals "NoText" = some (some (.ref d9)))
  (y10:W.nsIn K mainGlobals "NoLine" = some (some (.ref d10)))
  (y11:W.nsIn K mainGlobals "BadName" = some (some (.ref d11)))
  (y12:W.nsIn K mainGlobals "NoName" = some (some (.ref d12)))
  (y13:W.nsIn K mainGlobals "EvenError" = some (some (.ref d13)))
  (x0:W.excIn K d0 Vg "ValueError.__new__" = true)
  (x3:W.excIn K d3 Vg "ValueError.__new__" = true)
  (x7:W.excIn K d7 Vg "ValueError.__new__" = true)
  (t0:TQ K [d0,d1,d2,d3,d4,d5,d6,d7,d8,d9,d10,d11,d12] d0 d13 [true,false,false,false,false,false,false,false,false,false,false,false,false])
  (t3:TQ K [d0,d1,d2,d3,d4,d5,d6,d7,d8,d9,d10,d11,d12] d3 d13 [false,false,false,true,false,false,false,false,false,false,false,false,false])
  (t7:TQ K [d0,d1,d2,d3,d4,d5,d6,d7,d8,d9,d10,d11,d12] d7 d13 [false,false,false,false,false,false,false,true,false,false,false,false,false])
  (t6:TQ K [d0,d1,d2,d3,d4,d5,d6,d7,d8,d9,d10,d11,d12] d6 d13 [false,false,false,false,false,false,true,false,false,false,false,false,false])
  (wE:W.kitOne K (.ref d13) (.type "BaseException")=some true)
  (aI:W.findIn K (.ref d6) "__init__" = some (some (.ref fI)))
  (lI:K.lookup fI=some ⟨ocI,odI,.func (W.fnOf "__init__" "Uneven.__init__" (Mt LJ) (K7 LJ) (HS LJ) .none kVI dcI pmI anI cdI ctI),slI⟩)
  (cI:W.codeIn K cdI "Uneven.__init__" = true)
  (kI:W.keepIn K (.ref fI)=true)
  (CP:IK K d6 d13 fI ddC cdC slC o1C o2C esC nnC o3C)
  (fI1:W.isFn K (.ref fI)=true)
  (kC6:W.keepIn K (.ref d6)=true)
  (sa6:W.findIn K (.ref d6) "__setattr__" = some (some (.builtin "object.__setattr__")))
  (p1:W.findIn K (.ref d6) "place" = some none)
  (p2:W.findIn K (.ref d6) "powers" = some none)
  (hd6:W.hasDictIn K d6=true)
  (bi1:W.specialIn K (.ref d13) "__getattribute__" = some (some (.builtin "type.__getattribute__")))
  (bi2:W.readsIn K d13 (.type "type")=true)
  (bi3:W.findCls K (.ref d13) (.type "type") "__init__" = some (.val (.builtin "ValueError.__init__")))
  (t8:TQ K [d0,d1,d2,d3,d4,d5,d6,d7,d8,d9,d10,d11,d12] d8 d13 [false,false,false,false,false,false,false,false,true,false,false,false,false])
  (aN:W.findIn K (.ref d8) "__init__" = some (some (.ref fN)))
  (lN:K.lookup fN=some ⟨ocN,odN,.func (W.fnOf "__init__" "NotBy.__init__" (Mt P3) (K7 P3) (HS P3) .none kVN dcN pmN anN cdN ctN),slN⟩)
  (cN:W.codeIn K cdN "NotBy.__init__" = true)
  (kN:W.keepIn K (.ref fN)=true)
  (CN:IK K d8 d13 fN ddN cdCN slCN o1N o2N esN nnN o3N)
  (fN1:W.isFn K (.ref fN)=true)
  (kC8:W.keepIn K (.ref d8)=true)
  (sa8:W.findIn K (.ref d8) "__setattr__" = some (some (.builtin "object.__setattr__")))
  (pR:W.findIn K (.ref d8) "row" = some none)
  (hd8:W.hasDictIn K d8=true)
  (tyC:W.typeIn K (.ref d8)=some (.type "type"))
  (mrC:W.mroIn K d8 (.ref d8)=some true)
  (kB8:W.kitOne K (.ref d8) (.type "BaseException")=some true)
  (yK:W.nsIn K mainGlobals "KINDS" = some (some (.ref dK)))
  (lK:K.lookup dK=some ⟨.type "tuple",odK,.seq #[.str "exchange" tk0,.str "elementary" tk1,.str "whole" tk2,.str "power" tk3,.str "filling" tk4] nK,slK⟩)
  (z1:W.nsIn K mainGlobals "sorted" = some none)
  (z2:W.nsIn K mainGlobals "range" = some none)
  (z3:W.nsIn K mainGlobals "isinstance" = some none)
  (z4:W.nsIn K mainGlobals "abs" = some none)
  (z5:W.nsIn K mainGlobals "len" = some none)
  (z6:W.nsIn K mainGlobals "tuple" = some none)
  (z7:W.nsIn K mainGlobals "list" = some none)
  (z8:W.nsIn K mainGlobals "any" = some none)
  (z9:W.nsIn K mainGlobals "zip" = some none)
  (z10:W.nsIn K mainGlobals "sum" = some none)
  (z11:W.nsIn K mainGlobals "enumerate" = some none)
  (z12:W.nsIn K mainGlobals "min" = some none)
  (z13:W.nsIn K mainGlobals "max" = some none)
  (z14:W.nsIn K mainGlobals "ValueError" = some none)
  : ∃fd:wR,(∀(s:wM)(v:wN),BindsTo s fd ⟨[v],[]⟩ [("_law_script",v)])/\∀base:Heap,K.In base->base.Ns mainGlobals mg->Gx l.prog w K mg base Ho 19 fa fd ["_law_script"] (NM K):=by
 obtain⟨f1,e1,F1,k1,A1⟩:=q1.x X G
 obtain⟨f2,e2,F2,k2,A2⟩:=q2.x X G
 obtain⟨f3,e3,F3,k3,A3⟩:=q3.x X G
 obtain⟨f8,e8,F8,k8,A8⟩:=q8.x X G
 obtain⟨f14,e14,F14,k14,A14⟩:=q14.x X G
 obtain⟨f19,e19,F19,k19,A19⟩:=q19.x X G
 obtain⟨f47,e47,F47,k47,A47⟩:=q47.x X G
 obtain⟨f55,fd,a55,F55⟩:=q55
 have e:=hfa.symm.trans (BJ X G a55)
 cases e
 have c_MOST_UNKNOWNS:=BJ X G g1
 have c_MOST_TOGETHER:=BJ X G g2
 have m_sorted:=BH X G z1
 have m_range:=BH X G z2
 have m_isinstance:=BH X G z3
 have m_abs:=BH X G z4
 have m_len:=BH X G z5
 have m_tuple:=BH X G z6
 have m_list:=BH X G z7
 have m_any:=BH X G z8
 have m_zip:=BH X G z9
 have m_sum:=BH X G z10
 have m_enumerate:=BH X G z11
 have m_min:=BH X G z12
 have m_max:=BH X G z13
 have m_ValueError:=BH X G z14
 refine⟨fd,λs v=>?_,λbase _ _=>?_⟩
 ·obtain⟨_,_,_,_,_,_,_,_,_,rfl,_,_⟩:=F55.ex
  exact .of_eq rfl
 have T0:=t0.told (nm:=["count"]) (by decide +kernel) (fJ x0)
 have T3:=t3.told (nm:=["row"]) (by decide +kernel) (fJ x3)
 have T7:=t7.told (nm:=["kind"]) (by decide +kernel) (fJ x7)
 have M0:=BJ X G y0
 have M1:=BJ X G y1
 have M2:=BJ X G y2
 have M3:=BJ X G y3
 have M4:=BJ X G y4
 have M5:=BJ X G y5
 have M6:=BJ X G y6
 have M7:=BJ X G y7
 have M8:=BJ X G y8
 have M9:=BJ X G y9
 have M10:=BJ X G y10
 have M11:=BJ X G y11
 have M12:=BJ X G y12
 have M13:=BJ X G y13
 have T6:=t6.told (nm:=["uneven"]) (by decide +kernel) CP.some
 have XC6:OQ K d6 fI:=⟨⟨T6.k,CP.st,sa6⟩,⟨CP.j,fI1,kC6⟩,p1,p2⟩
 have FI:=Ob (st:=LJ) lI cI kI
 have bI:=FI.binds (ps:=P2) λ_ _ _ _ _ _=>Qd λ_ _ _=>rfl
 have OI:=bB (P:=l.prog) (w:=w) (base:=base) FI M13 ⟨bi1,bi2,bi3⟩ XC6
 have T8:=t8.told (nm:=["by"]) (by decide +kernel) CN.some
 have XN:Lh K d8 fN:=⟨⟨T8.k,CN.st,sa8⟩,⟨CN.j,fN1,kC8⟩,pR⟩
 have FN:=Ob (st:=P3) lN cN kN
 have bN:=FN.binds (ps:=QL) λ_ _ _ _ _ _=>P1 λ_ _=>rfl
 have ON:=Za (P:=l.prog) (w:=w) (base:=base) FN M13 ⟨bi1,bi2,bi3⟩ XN
 have MK:=BJ X G yK
 have SK:∀H,HK K H dK (HY.map V.str):=λH=>.inr ⟨_,_,_,lK,rfl,rfl,sS,.cons ⟨_,rfl⟩ (.cons ⟨_,rfl⟩ (.cons ⟨_,rfl⟩ (.cons ⟨_,rfl⟩ (.cons ⟨_,rfl⟩ .nil))))⟩
 have XC:=Hh.mk f1 e1 (UA (P:=l.prog) (w:=w) (base:=base) F1 c_MOST_UNKNOWNS ⟨M0,x0⟩) (F1.binds λ_ _ _ _ _ _=>MB λ_=>rfl) k1 A1
 have G1:=Hl.mk f1 e1 (fS (UA (P:=l.prog) (w:=w) (base:=base) F1 c_MOST_UNKNOWNS ⟨M0,x0⟩)) (F1.binds λ_ _ _ _ _ _=>MB λ_=>rfl) k1 A1
 have G2:=Hl.mk f2 e2 (Xc (P:=l.prog) (w:=w) (base:=base) F2 m_sorted) (F2.binds λ_ _ _ _ _ _=>MB λ_=>rfl) k2 A2
 have GGF:=Hl.mk f2 e2 (oJ (P:=l.prog) (w:=w) (base:=base) F2 m_sorted) (F2.binds λ_ _ _ _ _ _=>MB λ_=>rfl) k2 A2
 have GPF:=Hl.mk f3 e3 (YI F3 GGF.ql) (F3.binds λ_ _ _ _ _ _=>P1 λ_ _=>rfl) k3 A3
 obtain⟨G4⟩:=q4.g X G λ_ _ F4=>aV F4 G2.ql
 obtain⟨G5⟩:=q5.g X G λ_ _ F5=>YW F5 G2.ql m_tuple m_zip
 obtain⟨G6⟩:=q6.g X G λ_ _ F6=>kR (P:=l.prog) (w:=w) (mg:=mg) (base:=base) F6
 obtain⟨G7⟩:=q7.g X G λ_ _ F7=>bU F7 (G2.ok) G2.bd G2.kp G2.at_ (G6.ok) G6.bd G6.kp G6.at_
 have XB:=Hh.mk f8 e8 (UB (P:=l.prog) (w:=w) (base:=base) F8 c_MOST_TOGETHER ⟨M3,x3⟩ m_any m_zip m_sum) (F8.binds λ_ _ _ _ _ _=>MB λ_=>rfl) k8 A8
 have G8:=Hl.mk f8 e8 (lC (UB (P:=l.prog) (w:=w) (base:=base) F8 c_MOST_TOGETHER ⟨M3,x3⟩ m_any m_zip m_sum)) (F8.binds λ_ _ _ _ _ _=>MB λ_=>rfl) k8 A8
 obtain⟨G9⟩:=q9.gx X G λ_ _ F9=>oO F9 XB.ql
 obtain⟨G10⟩:=q10.g X G λ_ _ F10=>jB (P:=l.prog) (w:=w) (base:=base) F10 m_len
 obtain⟨G11⟩:=q11.g X G λ_ _ F11=>cT F11 G10.ql m_max m_range m_tuple
 obtain⟨G12⟩:=q12.gx X G λ_ _ F12=>oM F12 XC.ql G4.ql G7.ql m_range
 obtain⟨G13⟩:=q13.gx X G λ_ _ F13=>ZR F13 G12.ql (OI.mono (by decide)) bI XC6 M6
 have G14:=Hl.mk f14 e14 (U6 (P:=l.prog) (w:=w) (base:=base) F14 (F14.binds λ_ _ _ _ _ _=>MB λ_=>rfl) A14 m_enumerate 5) (F14.binds λ_ _ _ _ _ _=>MB λ_=>rfl) k14 A14
 obtain⟨G15⟩:=q15.g X G λ_ _ F15=>YL F15 G8.ql G1.ql G14.ql m_len
 obtain⟨G16⟩:=q16.g X G λ_ _ F16=>kX (P:=l.prog) (w:=w) (base:=base) F16 m_tuple m_sorted
 obtain⟨G17⟩:=q17.g X G λ_ _ F17=>gJ (P:=l.prog) (w:=w) (base:=base) F17 m_tuple
 obtain⟨G18⟩:=q18.gx X G λ_ _ F18=>Z4 (Ya F18 G13.ql G16.ql G17.ql)
 have G19:=Hl.mk f19 e19 (bK F19 G5.ql) (F19.binds λ_ _ _ _ _ _=>P1 λ_ _=>rfl) k19 A19
 have GPL:=Hl.mk f19 e19 (aZ F19 G5.ql) (F19.binds λ_ _ _ _ _ _=>P1 λ_ _=>rfl) k19 A19
 obtain⟨G20⟩:=q20.g X G λ_ _ F20=>XA F20 G15.ql
 obtain⟨G21⟩:=q21.g X G λ_ _ F21=>mC F21 G20.ql G19.ql Mg
 obtain⟨G22⟩:=q22.gx X G λ_ _ F22=>cX F22 G13.ql G11.ql G21.ql G4.ql m_sorted
 have GBT:=Hh.mk G22.f G22.fd (fY G22.ok) G22.bd G22.kp G22.at_
 obtain⟨G23⟩:=q23.g X G λ_ _ F23=>dF F23 GGF.ql m_tuple m_sorted
 obtain⟨G24⟩:=q24.g X G λ_ _ F24=>aL F24 GPF.ql G23.ql m_range m_len
 obtain⟨G25⟩:=q25.g X G λ_ _ F25=>bQ F25 GGF.ql G23.ql
 obtain⟨G26⟩:=q26.g X G λ_ _ F26=>fM F26 G24.ql m_len
 obtain⟨G27⟩:=q27.gx X G λ_ _ F27=>pO F27 G22.ql G26.ql G25.ql
 obtain⟨G28⟩:=q28.g X G λ_ _ F28=>Xs (P:=l.prog) (w:=w) (mg:=mg) (base:=base) F28
 obtain⟨G29⟩:=q29.g X G λ_ _ F29=>nT F29 G28.ql GPL.ql m_range
 obtain⟨G30⟩:=q30.gx X G λ_ _ F30=>eN F30 G13.ql G5.ql G29.ql G16.ql G17.ql m_tuple m_enumerate
 obtain⟨G31⟩:=q31.g X G λ_ _ F31=>W5 (P:=l.prog) (w:=w) (mg:=mg) (base:=base) F31
 obtain⟨G32⟩:=q32.g X G λ_ _ F32=>Zv F32 G31.ql m_abs
 obtain⟨G33⟩:=q33.g X G λ_ _ F33=>Wy (P:=l.prog) (w:=w) (mg:=mg) (base:=base) F33
 obtain⟨G34⟩:=q34.g X G λ_ _ F34=>dY F34 G24.ql m_range
 obtain⟨G35⟩:=q35.gx X G λ_ _ F35=>Yk F35 G22.ql G33.ql G25.ql G34.ql G32.ql m_max m_len m_list m_range
 obtain⟨G36⟩:=q36.gx X G λ_ _ F36=>aJ (P:=l.prog) (w:=w) (base:=base) F36 MK SK ⟨M7,x7⟩
 obtain⟨G37⟩:=q37.g X G λ_ _ F37=>YA (P:=l.prog) (w:=w) (base:=base) F37 m_len m_max
 obtain⟨G38⟩:=q38.gx X G λ_ _ F38=>qC F38 G37.ql (ON.mono (by decide)) bN XN M8
 obtain⟨G39⟩:=q39.g X G λ_ _ F39=>fR F39 G15.ql
 obtain⟨G40⟩:=q40.gx X G λ_ _ F40=>Xf F40 G18.ql GBT.ql G27.ql G30.ql
 obtain⟨G41⟩:=q41.gx X G λ_ _ F41=>ZF F41 G35.ql G40.ql
 obtain⟨G42⟩:=q42.g X G λ_ _ F42=>bM F42 G31.ql
 obtain⟨G43⟩:=q43.g X G λ_ _ F43=>Z0 F43 G39.ql G2.ql
 obtain⟨G44⟩:=q44.gx X G λ_ _ F44=>W3 F44 G9.ql XC.ql G36.ql G38.ql G42.ql G43.ql G41.ql G32.ql
 obtain⟨G45⟩:=q45.g X G λ_ _ F45=>mV (P:=l.prog) (w:=w) (base:=base) F45 m_isinstance m_zip m_ValueError M0 M1 M2 M3 M4 M5 M6 M7 M8 M9 M10 M11 M12
 obtain⟨G46⟩:=q46.g X G λ_ _ F46=>YQ (P:=l.prog) (w:=w) (base:=base) F46 m_len
 have G47:=Hl.mk f47 e47 (RY (P:=l.prog) (w:=w) (base:=base) F47 (F47.binds λ_ _ _ _ _ _=>Qd λ_ _ _=>rfl) A47 m_range m_min 9) (F47.binds λ_ _ _ _ _ _=>Qd λ_ _ _=>rfl) k47 A47
 obtain⟨G48⟩:=q48.g X G λ_ _ F48=>fC (P:=l.prog) (w:=w) (base:=base) F48 m_sorted
 obtain⟨G49⟩:=q49.g X G λ_ _ F49=>cL (P:=l.prog) (w:=w) (base:=base) F49 m_list m_range m_len
 obtain⟨G50⟩:=q50.g X G λ_ _ F50=>lP (P:=l.prog) (w:=w) (mg:=mg) (base:=base) F50
 obtain⟨G51⟩:=q51.g X G λ_ _ F51=>dA F51 G47.ql G49.ql G50.ql G48.ql m_range m_min m_len
 obtain⟨G52⟩:=q52.g X G λ_ _ F52=>jK F52 G44.ql G45.ql M13 wE
 obtain⟨G53⟩:=q53.g X G λ_ _ F53=>XJ F53 G44.ql M8 kB8 (iQ CN.some tyC mrC) T8.k hd8 pR
 obtain⟨G54⟩:=q54.g X G λ_ _ F54=>pE (P:=l.prog) (w:=w) (mg:=mg) (base:=base) F54
 exact jU F55 G46.ql G51.ql G54.ql G18.ql GBT.ql G27.ql G35.ql G30.ql G44.ql G52.ql G53.ql T3 T0 T7 T8 m_tuple m_range
theorem walk{l:W.OpenLaw}{q:wP}{loose:wG}{XP:(Str->wI)->Heap->Prop}{YP:wQ->Heap->Prop}{d:DefRec}{K:Params->wL}(hn:l.most=some 63)(hdf:d.params.defaults=[])
  (hY:∀(w:wQ)(h:Heap),YP w h->(K w.params).In h)
  (F:∀(w:wQ)(mg:Str->wI)(fa:wO)(h:Heap),(K w.params).In h->h.Ns mainGlobals mg->mg d.name=some (.ref fa) ->
   ∃fd:wR,(∀(s:wM)(u:wN),BindsTo s fd ⟨[u],[]⟩ [("_law_script",u)])/\∀base:Heap,(K w.params).In base->base.Ns mainGlobals mg->Gx l.prog w (K w.params) mg base Ho 19 fa fd ["_law_script"] (NM (K w.params))) :
  W.WalkO q loose XP YP l.row.toRowW d [] (λf vs=>PySem.call f vs) :=
 L2.walk_of (n:=63) (k:=19) (x := "_law_script") (CX:=λ_=>Ho) (sp:=λw=>NM (K w.params)) hn (by decide) hdf ⟨rfl,by decide,by decide⟩ hY F (λ_ _ a ns hl _ hS=>⟨a,ns,rfl,hS,hl,λ_=>rfl⟩) λ_ _ _ _ _ z=>z
end L2.K92
end
namespace PySem.W.Fast
def tw10070922486000967485:=0
def tw10123272522496023886:=0
def tw10130413953008715065:=0
def tw10198917573831488252:=0
def tw10288228379371404469:=0
def tw10290165706093436853:=0
def tw10298587712206492264:=0
def tw10373458007780374860:=0
def tw10401296488426247507:=0
def tw10410823990600075001:=0
def tw10510034031658110520:=0
def tw10535914731891471106:=0
def tw10544091333848908510:=0
def tw10556481371337113940:=0
def tw10573689784263920028:=0
def tw10576269181065053430:=0
def tw10593917406887845405:=0
def tw10595834759105313146:=0
def tw10598097323258661964:=0
def tw10747979970226943255:=0
def tw10759105493028754844:=0
def tw10792926077773694850:=0
def tw10837034339967943686:=0
def tw10838890416827090129:=0
def tw10841110531948405498:=0
def tw1089927475100003799:=0
def tw1090859607009142259:=0
def tw10925218436068081022:=0
def tw10933164834164931285:=0
def tw10939625916770433056:=0
def tw10971383199477869854:=0
def tw11045021375412964176:=0
def tw1105897447670738287:=0
def tw11065419876818862440:=0
def tw11081868745163456469:=0
def tw11142359664783615356:=0
def tw11229897438614580830:=0
def tw11259210745809520641:=0
def tw11265925293910816582:=0
def tw11281547347181906896:=0
def tw11282315195733555455:=0
def tw11294675573327276358:=0
def tw11321611636585272624:=0
def tw11350886874451881505:=0
def tw11399929439779617154:=0
def tw11406735378458563535:=0
def tw11519791261117774323:=0
def tw11535817966768163058:=0
def tw11572939279626473163:=0
def tw11620260955901422019:=0
def tw11661206595605820139:=0
def tw11771651962414339411:=0
def tw11856600618933829913:=0
def tw1187118632646821832:=0
def tw11906610677882759660:=0
def tw11955922688437503493:=0
def tw1197200398781328365:=0
def tw11997588201636080613:=0
def tw12126398728360173085:=0
def tw12172489615967496606:=0
def tw1224393120008773952:=0
def tw1224817404743727578:=0
def tw12254721183357032738:=0
def tw12291186582074397797:=0
def tw12307781321744111317:=0
def tw1238258894497251455:=0
def tw12405007492493190428:=0
def tw12453866605575224125:=0
def tw12606530648017480019:=0
def tw12678026673367706203:=0
def tw12681057823940982648:=0
def tw12776330224094831064:=0
def tw12802511956466379717:=0
def tw128098788393665412:=0
def tw1282227388845743678:=0
def tw12866500906346320368:=0
def tw12903604180666095203:=0
def tw1293052889565155842:=0
def tw12944102764414641735:=0
def tw13164607422625697068:=0
def tw13170022504363911710:=0
def tw13217825684450552868:=0
def tw13312403205253936240:=0
def tw13330728881816249101:=0
def tw13386477665631061091:=0
def tw13513594577084242168:=0
def tw13593274678849553528:=0
def tw13637041918162694719:=0
def tw13668218078063619278:=0
def tw13675189211611428846:=0
def tw13706003121219127060:=0
def tw13711168183372350793:=0
def tw13729019709905939841:=0
def tw13776466559029186256:=0
def tw13788069875632732979:=0
def tw13797322169836758551:=0
def tw13935197654695283984:=0
def tw13952747741019053995:=0
def tw13955831519685366260:=0
def tw1398046119314122802:=0
def tw13996060191132932174:=0
def tw14023459813844625154:=0
def tw14050061015466755670:=0
def tw14050487006039657078:=0
def tw14057723362390762751:=0
def tw14215211484129382283:=0
def tw14301760389730470539:=0
def tw14364885797038217094:=0
def tw14380713644887732363:=0
def tw14402254998510149947:=0
def tw14492041671090341307:=0
def tw14541194001301057787:=0
def tw14561887986322758851:=0
def tw14570835619037568096:=0
def tw14589706385622499929:=0
def tw14610196663496344257:=0
def tw14786596821442796558:=0
def tw14806287562631261992:=0
def tw14880484489504952932:=0
def tw14946494097768926254:=0
def tw15027211751822696278:=0
def tw15028474346131325584:=0
def tw1518615694891648400:=0
def tw15194002863151497114:=0
def tw15240358660520567757:=0
def tw15269240205465380227:=0
def tw15309638920636791243:=0
def tw1537255490073030603:=0
def tw15388657651395408822:=0
def tw1543368926724161772:=0
def tw1544521491254755457:=0
def tw15508582122362287391:=0
def tw15573824434619760022:=0
def tw15646615739130320629:=0
def tw15687851464251487351:=0
def tw1572194356627081947:=0
def tw15804109948245256202:=0
def tw1593666066433304783:=0
def tw15954175085556198144:=0
def tw16017553262523795764:=0
def tw16112523653839450845:=0
def tw16164905195363571504:=0
def tw1622168025711217784:=0
def tw16301213878126130840:=0
def tw16395822870235144092:=0
def tw16403055105252230286:=0
def tw16419479639250597805:=0
def tw16422875916203763646:=0
def tw16446057718927368755:=0
def tw16474276713176919516:=0
def tw1648764026252351683:=0
def tw16505061116593260412:=0
def tw16529915408918698725:=0
def tw1665262170280693692:=0
def tw1666518478114608782:=0
def tw16691850992719103915:=0
def tw16705872373238035215:=0
def tw16724018067906445690:=0
def tw1674145014501383882:=0
def tw16757526582736623863:=0
def tw16781428072029818469:=0
def tw16783674189462521937:=0
def tw16788132451008702730:=0
def tw16793149656561381464:=0
def tw16823616917641633521:=0
def tw1689221098152322943:=0
def tw16899796704416027801:=0
def tw16906646061567439059:=0
def tw16975676380362483226:=0
def tw16978166949246915093:=0
def tw17013792973874139509:=0
def tw17036150232872137491:=0
def tw1705928991446257090:=0
def tw17064135889320274976:=0
def tw17085112036334165002:=0
def tw17163902446134346108:=0
def tw17230269469995579251:=0
def tw17498381224326094632:=0
def tw17518990633640547771:=0
def tw17528825631051133605:=0
def tw17533131781377159207:=0
def tw17630605011714070956:=0
def tw17640352106395019608:=0
def tw17643336768009238361:=0
def tw17648193297288216178:=0
def tw17703364471293538413:=0
def tw17725208681699493579:=0
def tw17776728825586240380:=0
def tw17793159668785906921:=0
def tw17814289919918835433:=0
def tw17824789775746381296:=0
def tw17838874243791279006:=0
def tw17843837091727874764:=0
def tw17867468050072432295:=0
def tw17868915678316994540:=0
def tw17870847582521452981:=0
def tw17912844211601169467:=0
def tw179272968188844213:=0
def tw18022236452848788972:=0
def tw1802483281095666866:=0
def tw18064334411358245969:=0
def tw18069076660710089355:=0
def tw18109927242884707310:=0
def tw18146678760251933058:=0
def tw1815673885195007261:=0
def tw18170948388306770115:=0
def tw1819798345756113610:=0
def tw18238031603512808742:=0
def tw18268404471767430007:=0
def tw18292655834451817701:=0
def tw18328485694693162919:=0
def tw18399308016506517376:=0
def tw18438133465460107117:=0
def tw1887160232665465728:=0
def tw1893520352323392331:=0
def tw190965617839380172:=0
def tw1921508425032535444:=0
def tw2157403232251648513:=0
def tw2165839078358111878:=0
def tw2185238266632269911:=0
def tw2269223260852227674:=0
def tw2285565103208925891:=0
def tw2321953565450590880:=0
def tw2344818198788673196:=0
def tw2357944766121778788:=0
def tw2363349066859314881:=0
def tw2384397423073360286:=0
def tw2387073061992178293:=0
def tw2421775462644597555:=0
def tw242850073104568842:=0
def tw2449028214760044512:=0
def tw2485325423608792482:=0
def tw2510767609348623625:=0
def tw2528203474517979420:=0
def tw2569364076704225770:=0
def tw2583408802555969566:=0
def tw261686833579865565:=0
def tw2640153706772234448:=0
def tw2656509621020371290:=0
def tw2703824900808172932:=0
def tw2732709204500039655:=0
def tw2753021584548256681:=0
def tw2867588925159747875:=0
def tw2990430175703157577:=0
def tw2998356242343282717:=0
def tw3003486453597818326:=0
def tw3020372297839553983:=0
def tw304046570827656283:=0
def tw3057635868294839420:=0
def tw3073243221644365257:=0
def tw3098080427317059797:=0
def tw3143690595409742337:=0
def tw3198622360941855396:=0
def tw3202640602120965134:=0
def tw3242571498149363895:=0
def tw3258492768819753839:=0
def tw3261157917742424048:=0
def tw3320247588934400291:=0
def tw3366416175899154142:=0
def tw3392713244167194990:=0
def tw3401680466584713667:=0
def tw3488045293645196544:=0
def tw3534374442513153027:=0
def tw3663238317354356779:=0
def tw3676124603373031445:=0
def tw3698554474136449454:=0
def tw3729462001716600659:=0
def tw375113084813599414:=0
def tw3797436701827337745:=0
def tw3815907760216506566:=0
def tw3834123965369427666:=0
def tw38371747057770443:=0
def tw3849950201118144082:=0
def tw3922155041580773601:=0
def tw3939295251636157915:=0
def tw4066246026667878712:=0
def tw4080505570241627839:=0
def tw4100022625029842914:=0
def tw4111141776138394390:=0
def tw4136861054525977193:=0
def tw4145161985954455015:=0
def tw4156499850071068436:=0
def tw429807660313649583:=0
def tw4299170764951405076:=0
def tw4343351596673312875:=0
def tw4373317450298028324:=0
def tw4377795235242553094:=0
def tw4403032112976807699:=0
def tw4452065110791485589:=0
def tw4455884437129602566:=0
def tw4474187853414496587:=0
def tw4476696598576892114:=0
def tw4521587242694318764:=0
def tw4537394393375138721:=0
def tw4552046586349468050:=0
def tw4563677034673685901:=0
def tw459585574181872384:=0
def tw4602331223724893705:=0
def tw4613437669024088883:=0
def tw4657421591014462584:=0
def tw4667227289604353613:=0
def tw4683673498442268605:=0
def tw4735747992219079921:=0
def tw4746686492591404060:=0
def tw4816807724418289726:=0
def tw4828994570433163436:=0
def tw4851759608330888138:=0
def tw4889678981276352878:=0
def tw496520269434806893:=0
def tw4992351445151220773:=0
def tw5043456036080435903:=0
def tw5066798566565429205:=0
def tw5141734260271733415:=0
def tw5147875913301777737:=0
def tw5272500454405326380:=0
def tw5329179880152481535:=0
def tw5369883768558967375:=0
def tw5412973497379268681:=0
def tw5435683866006924393:=0
def tw5438805486779816236:=0
def tw5558458243863329533:=0
def tw5596261081659488933:=0
def tw5613447824351051358:=0
def tw5623347484082191909:=0
def tw5671151594901067237:=0
def tw5671838230855344205:=0
def tw568410340448552892:=0
def tw5705279757986127386:=0
def tw5783832351702888676:=0
def tw5800237647035035444:=0
def tw5847004939705783068:=0
def tw5847731569841693811:=0
def tw5848282824305471588:=0
def tw6033630766357668530:=0
def tw6059599941154502638:=0
def tw6149039986241028331:=0
def tw620182988941752311:=0
def tw6215784782475914205:=0
def tw6421490967169459183:=0
def tw6446280095939481312:=0
def tw6501957327920631230:=0
def tw6510489551043958602:=0
def tw6519899479553801143:=0
def tw6563091877231508720:=0
def tw6575183657360377126:=0
def tw6576833267417311757:=0
def tw6620566148149421652:=0
def tw6653393915801324466:=0
def tw6675143892541926380:=0
def tw6733376091801933242:=0
def tw6743136030045023782:=0
def tw6787828463934773266:=0
def tw6799967935584855859:=0
def tw6806034406182884285:=0
def tw6809692119519888356:=0
def tw6931310364720424974:=0
def tw6978147580334253436:=0
def tw6989784661597432117:=0
def tw7009014287744143493:=0
def tw7014820855406272430:=0
def tw7042384008330025487:=0
def tw7087082874237384722:=0
def tw7153423201742444881:=0
def tw7175062826796461353:=0
def tw7183434500550129856:=0
def tw7208724831423293878:=0
def tw7412532719082377613:=0
def tw7528695871428039157:=0
def tw7550007123398479315:=0
def tw761799713834838896:=0
def tw7655550133334497827:=0
def tw7678600689780591876:=0
def tw772916222978742656:=0
def tw775468672705543932:=0
def tw7786500613536354661:=0
def tw7790644537601936740:=0
def tw780056031274223743:=0
def tw7814975363692496136:=0
def tw7835063642015045896:=0
def tw7876139608291804724:=0
def tw7915412388371153361:=0
def tw7999380657477710559:=0
def tw8048639888937672403:=0
def tw8087756697318514459:=0
def tw8122371221864744954:=0
def tw8157855802428864833:=0
def tw821465544774481719:=0
def tw8336143962858795047:=0
def tw8367277035301472072:=0
def tw839222743982097710:=0
def tw8395690746776161794:=0
def tw8451327766272552255:=0
def tw8461809362763406637:=0
def tw8532424430551737207:=0
def tw8537285183133970052:=0
def tw8549598125359160628:=0
def tw8574826836159221148:=0
def tw8670057357986509973:=0
def tw8690118181962189659:=0
def tw8731913705312314465:=0
def tw8818231811418541722:=0
def tw8823601518198420017:=0
def tw893352435111337023:=0
def tw893526122494436810:=0
def tw8955241542739032119:=0
def tw8992287199655908665:=0
def tw8992985907828034829:=0
def tw9038509233061223373:=0
def tw9173197919660575439:=0
def tw917500134478013502:=0
def tw9178857230020398303:=0
def tw9212495602133821652:=0
def tw9219672716982447269:=0
def tw9257294930032832025:=0
def tw9381201859253799590:=0
def tw9400623426186405494:=0
def tw9508455761541051578:=0
def tw9510037732770349100:=0
def tw9536070818614216595:=0
def tw953712050648125026:=0
def tw9537726335631776847:=0
def tw9579635816292806250:=0
def tw9594998703217602053:=0
def tw9599733275803746507:=0
def tw9626639499585624882:=0
def tw9710506787049696290:=0
def tw9715418250539129845:=0
def tw9722916396044042630:=0
def tw9748639271949966457:=0
def tw9749732312716180768:=0
def tw9835618523141797086:=0
def tw9884256727636555275:=0
end PySem.W.Fast
open PySem PySem.W PyProof.Rows
set_option maxRecDepth 100000 in
set_option maxHeartbeats 0 in
theorem PySem.Challenge.cw_evenform_k92_carried_tellings_holds : PySem.Challenge.rw_evenform_k92_carried_tellings.Holds := by
  w_on; o_law; k_head; (case hw => w_witness2)
  k_fill
  refine L2.K92.walk (l := PySem.Challenge.rw_evenform_k92_carried_tellings) rfl rfl (fun w h Y => PySem.W.kIn_of Y) ?F
  case F =>
    intro w mg fa h KX G hmg
    refine' L2.K92.all_mk KX G hmg ?q1 ?q2 ?q3 ?q4 ?q5 ?q6 ?q7 ?q8 ?q9 ?q10 ?q11 ?q12 ?q13 ?q14 ?q15 ?q16 ?q17 ?q18 ?q19 ?q20 ?q21 ?q22 ?q23 ?q24 ?q25 ?q26 ?q27 ?q28 ?q29 ?q30 ?q31 ?q32 ?q33 ?q34 ?q35 ?q36 ?q37 ?q38 ?q39 ?q40 ?q41 ?q42 ?q43 ?q44 ?q45 ?q46 ?q47 ?q48 ?q49 ?q50 ?q51 ?q52 ?q53 ?q54 ?q55 ?g1 ?g2 ?y0 ?y1 ?y2 ?y3 ?y4 ?y5 ?y6 ?y7 ?y8 ?y9 ?y10 ?y11 ?y12 ?y13 ?x0 ?x3 ?x7 ?t0 ?t3 ?t7 ?t6 ?wE ?aI ?lI ?cI ?kI ?CP ?fI1 ?kC6 ?sa6 ?p1 ?p2 ?hd6 ?bi1 ?bi2 ?bi3 ?t8 ?aN ?lN ?cN ?kN ?CN ?fN1 ?kC8 ?sa8 ?pR ?hd8 ?tyC ?mrC ?kB8 ?yK ?lK ?z1 ?z2 ?z3 ?z4 ?z5 ?z6 ?z7 ?z8 ?z9 ?z10 ?z11 ?z12 ?z13 ?z14
    all_goals try (refine' L2.K92.fq_mk ?a ?l ?c ?k; (case a => k_is); (case l => k_is); (case c => k_is); (case k => k_is))
    (case g1 => k_is)
    (case g2 => k_is)
    (case y0 => k_is)
    (case y1 => k_is)
    (case y2 => k_is)
    (case y3 => k_is)
    (case y4 => k_is)
    (case y5 => k_is)
    (case y6 => k_is)
    (case y7 => k_is)
    (case y8 => k_is)
    (case y9 => k_is)
    (case y10 => k_is)
    (case y11 => k_is)
    (case y12 => k_is)
    (case y13 => k_is)
    (case x0 => k_exc)
    (case x3 => k_exc)
    (case x7 => k_exc)
    (case t0 => constructor; (case a => k_is); (case b => k_is); (case c => k_is); (case d => k_is); (case e => k_is); (case v => kit_is); (case w => kit_is); (case n => decide); (case s => (repeat (refine .cons (by kit_is) ?_)); exact .nil))
    (case t3 => constructor; (case a => k_is); (case b => k_is); (case c => k_is); (case d => k_is); (case e => k_is); (case v => kit_is); (case w => kit_is); (case n => decide); (case s => (repeat (refine .cons (by kit_is) ?_)); exact .nil))
    (case t7 => constructor; (case a => k_is); (case b => k_is); (case c => k_is); (case d => k_is); (case e => k_is); (case v => kit_is); (case w => kit_is); (case n => decide); (case s => (repeat (refine .cons (by kit_is) ?_)); exact .nil))
    (case t6 => constructor; (case a => k_is); (case b => k_is); (case c => k_is); (case d => k_is); (case e => k_is); (case v => kit_is); (case w => kit_is); (case n => decide); (case s => (repeat (refine .cons (by kit_is) ?_)); exact .nil))
    (case wE => kit_is)
    (case aI => k_is)
    (case lI => k_is)
    (case cI => k_is)
    (case kI => k_is)
    (case CP => constructor; (case l => k_is); (case m => rfl); (case g => exact ⟨rfl, rfl⟩); (case s => first | decide | rfl); (case d => k_is); (case k => rfl); (case i => k_is); (case b => k_exc))
    (case fI1 => k_is)
    (case kC6 => k_is)
    (case sa6 => k_is)
    (case p1 => k_is)
    (case p2 => k_is)
    (case hd6 => k_is)
    (case bi1 => k_is)
    (case bi2 => k_is)
    (case bi3 => k_is)
    (case t8 => constructor; (case a => k_is); (case b => k_is); (case c => k_is); (case d => k_is); (case e => k_is); (case v => kit_is); (case w => kit_is); (case n => decide); (case s => (repeat (refine .cons (by kit_is) ?_)); exact .nil))
    (case aN => k_is)
    (case lN => k_is)
    (case cN => k_is)
    (case kN => k_is)
    (case CN => constructor; (case l => k_is); (case m => rfl); (case g => exact ⟨rfl, rfl⟩); (case s => first | decide | rfl); (case d => k_is); (case k => rfl); (case i => k_is); (case b => k_exc))
    (case fN1 => k_is)
    (case kC8 => k_is)
    (case sa8 => k_is)
    (case pR => k_is)
    (case hd8 => k_is)
    (case tyC => k_is)
    (case mrC => k_is)
    (case kB8 => kit_is)
    (case yK => k_is)
    (case lK => k_is)
    all_goals k_is
