import PyProof.Rows.All
import Wide.All
import OpenK.AllK
import Wide.FinOn
import Lean
import PyProof.EqAt
import PyProof.EqKinds
import PyProof.TupleCall
import PyProof.Rows.SortRuns
import PyProof.DictItems
import PyProof.DictWalks
import PyProof.CollectIter
import PyProof.Rows.SortRev
import KE.KSortTup
import KE.KDictList
import OpenK.KOwn
import PyProof.NsDelKeeps
import PyProof.RulesAs
import KE.KIsAll
import PyProof.ExcArgsOwn
import KE.KMinBuiltin
import PyProof.Draws
import PyProof.EnumMake
import PyProof.Rows.EnumRows
import PyProof.ListMulRoad
import PyProof.ExcInit
import PyProof.ExcClass2
import OpenK.KMake
import PyProof.InstStoreFacts
import OpenK.KCls
import OpenK.KMore
import KE.KItemsList
import PySem.Challenge.RW_evenform_k43_refused_tellings
set_option Elab.async false
set_option linter.all false
def AA:=@PySem.wpAny_bind
def AB:=@List.length_map
def AC:=@PySem.Heap.get?_push_of_some
def AD:=@PySem.wpAny_pure
def AE:=@if_neg
def AF:=@Array.getElem?_eq_getElem
def AG:=@Nat.le_refl
def AH:=@if_pos
def AI:=@List.length_append
def AJ:=@List.mem_cons_self
def AK:=@List.mem_cons_of_mem
def AL:=@PySem.Paired.length
def AM:=@Bool.and_eq_true
def AN:=@decide_eq_false
def AO:=@List.mem_cons
def AQ:=@PySem.Heap.get?_push_size
def AR:=@PySem.Heap.lt_size
def AS:=@List.mem_singleton
def AT:=@Array.length_toList
def AU:=@PyProof.Rows.wpS_bind
def AV:=@List.mem_map
def AW:=@List.getElem?_eq_getElem
def AX:=@decide_eq_true
def AY:=@Bool.false_ne_true
def AZ:=@decide_eq_true_eq
def Aa:=@PyProof.Rows.wpS_pure
def Ab:=@List.getElem?_eq_some_iff
def Ac:=@List.append_assoc
def Ad:=@List.mem_of_getElem?
def Ae:=@List.map_cons
def Af:=@List.take_of_length_le
def Ag:=@List.getElem?_map
def Ah:=@List.length_take
def Ai:=@List.length_cons
def Aj:=@List.all_eq_true
def Al:=@Option.some.inj
def Am:=@List.size_toArray
def An:=@PySem.Heap.get?_update_other
def Ao:=@Nat.lt_of_lt_of_le
def Ap:=@List.mem_append_right
def Aq:=@List.mem_append
def Ar:=@PySem.PassesOwn.never
def As:=@Nat.ne_of_lt
def At:=@List.mem_range
def Au:=@List.map_append
def Av:=@List.getD_eq_getElem?_getD
def Aw:=@Int.toNat_natCast
def Ax:=@PyProof.Rows.boot_isinstance
def Ay:=@List.pairwise_cons
def Az:=@Nat.zero_le
def A0:=@Array.getElem?_toList
def A4:=@List.replicate_succ
def A5:=@Bool.false_eq_true
def A6:=@List.mem_append_left
def A7:=@List.filterMap_eq_map'
def BA:=@List.length_replicate
def BB:=@List.length_singleton
def BC:=@PySem.wpAny_newObj_type
def BD:=@of_decide_eq_true
def BE:=@Nat.le_trans
def BF:=@PySem.Heap.get?_update_self
def BG:=@Nat.lt_of_le_of_lt
def BH:=@List.length_drop
def BI:=@PySem.wpAny_field
def BJ:=@PySem.W.mg_none_of
def BK:=@PySem.wpAny_Call_Name_kw
def BL:=@PySem.wpAny_mono
def BM:=@PyProof.Rows.callWith_type1
def BN:=@List.append_nil
def BO:=@List.mem_flatMap
def BP:=@PySem.W.mg_of
def BQ:=@PySem.F.plainAttrs_list
def BR:=@Array.toList_append
def BS:=@PySem.F.plain_max_loop
def BU:=@Array.getElem?_eq_none
def BV:=@PySem.F.slot_list_append
def BW:=@PySem.F.type_list_append
def BX:=@List.sum_cons
def BY:=@PySem.wpAny_callSpecial?_slot
def BZ:=@List.flatMap_cons
def Ba:=@PySem.Around.under_plainId
def Bb:=@if_false
def Bc:=@List.Perm.append_right
def Be:=@PySem.wpAny_seqItems
def Bf:=@Nat.le_of_lt
def Bg:=@List.not_mem_nil
def Bh:=@List.take_length
def Bi:=@PySem.wpAny_call_entry
def Bj:=@PyProof.Rows.wpS_forRange
def Bl:=@Ne.symm
def Bm:=@List.take_append_drop
def Bn:=@PyProof.Rows.slot_tuple_getitem
def Bo:=@Array.getElem?_eq_some_iff
def Bp:=@PySem.F.excBase_ValueError
def Bq:=@List.find?_cons
def Br:=@PySem.wpAny_pyIter_tuple
def Bt:=@Nat.add_le_add_left
def Bu:=@List.flatMap_append
def Bv:=@List.flatten_cons
def Bw:=@List.pairwise_map
def Bx:=@List.length_range
def By:=@PySem.wpAny_holding
def Bz:=@PySem.Heap.size_push
def B0:=@List.Perm.append_left
def B1:=@PySem.F.slot_dict_keyiterator_next
def B2:=@PySem.boot_len
def B3:=@List.foldl_cons
def B4:=@PySem.codeAny_builtin
def B5:=@List.mem_of_mem_take
def B6:=@List.lookup_cons
def B7:=@Nat.lt_irrefl
def B8:=@List.any_cons
def B9:=@List.flatMap_singleton
def CA:=@if_true
def CB:=@List.foldl_append
def CC:=@List.filterMap_cons
def CD:=@List.length_nil
def CF:=@Int.emod_nonneg
def CG:=@Nat.ne_of_gt
def CH:=@List.filter_cons
def CI:=@Int.emod_lt_of_pos
def CJ:=@PyProof.Rows.boot_tuple
def CK:=@PySem.wpAny_truthy_bool
def CL:=@PySem.wpAny_pyIter_list
def CM:=@PySem.wpAny_loadPart_at
def CN:=@List.nil_append
def CO:=@List.range_succ
def CQ:=@PySem.wpAny_loadPart'
def CS:=@List.zipWith_cons_cons
def CT:=@PySem.wpAny_letGo
def CU:=@PySem.plainId_quiet
def CV:=@Nat.le_add_right
def CW:=@List.perm_append_comm
def CY:=@PySem.Obj.data_mapFields
def CZ:=@List.sum_singleton
def Ca:=@List.map_singleton
def Cb:=@PySem.wpAny_tryCatch
def Cc:=@PySem.Paired.snoc
def Cd:=@List.nodup_cons
def Ce:=@Array.toList_reverse
def Cf:=@Nat.min_eq_left
def Cg:=@Nat.pow_lt_pow_right
def Ch:=@List.Nodup.length_le_of_subset
def Ci:=@List.sum_append
def Cj:=@PySem.wpAny_rule
def Ck:=@PySem.wpAny_ite_false
def Cm:=@PySem.wpAny_typeNameOfWhole_keyiter
def Cn:=@List.map_congr_left
def Co:=@Option.bind_some
def Cp:=@beq_self_eq_true
def Cq:=@PyProof.Rows.wpS_mono
def Cr:=@PySem.wpAny_setField
def Cs:=@PySem.Calls.callWith_builtin
def Ct:=@List.drop_of_length_le
def Cu:=@PySem.F.slot_tuple_mul
def Cv:=@PyProof.Rows.boot_list
def Cw:=@PyProof.Rows.wpS_modify
def Cy:=@PySem.Calls.spliced_cons
def Cz:=@List.zip_cons_cons
def C1:=@List.map_map
def C2:=@of_decide_eq_false
def C3:=@PySem.wpAny_setField_rec
def C4:=@PySem.Obj.isFreed_of_fields
def C5:=@PySem.wpAny_passesOwn
def C6:=@List.getElem?_append_right
def C7:=@List.all_cons
def C8:=@PySem.F.slot_tuple_iterator_next
def C9:=@List.ext_getElem?
def DA:=@List.pairwise_append
def DB:=@PySem.codeAny_call_builtin
def DC:=@Nat.succ_mul
def DD:=@Array.size_setIfInBounds
def DE:=@PySem.F.entry_max_loop
def DF:=@PySem.wpAny_typeNameOf_keyiter
def DG:=@or_false
def DH:=@PySem.mem_of_lookup
def DI:=@Int.toNat_of_nonneg
def DJ:=@Array.getElem?_setIfInBounds_ne
def DK:=@PySem.F.plain_list_iadd
def DL:=@List.length_eq_zero_iff
def DM:=@PySem.wpAny_standAt
def DN:=@PySem.wpAny_execs_nil
def DO:=@PySem.call_meets
def DP:=@PySem.wpAny_updateSeq
def DQ:=@List.getElem?_set_self
def DR:=@List.range_succ_eq_map
def DS:=@PySem.Paired.mono
def DT:=@Array.toList_push
def DU:=@Nat.mul_comm
def DV:=@List.take_zero
def DW:=@List.drop_zero
def DX:=@PySem.codeAny_mono
def DY:=@PySem.Calls.evalArgs_plain
def DZ:=@List.reverse_reverse
def Da:=@List.getElem_mem
def Db:=@PySem.F.excAttr_ValueError
def Dc:=@Nat.mul_lt_mul_of_pos_left
def Dd:=@Int.mul_assoc
def De:=@PySem.wpAny_attempt
def Df:=@Int.le_refl
def Dg:=@List.take_succ_cons
def Dh:=@List.reverse_append
def Di:=@PySem.Heap.SameBut.update
def Dj:=@PySem.Heap.get?_update_ne
def Dk:=@List.mem_filter
def Dl:=@List.getElem?_append_left
def Dm:=@Bool.or_eq_true
def Dn:=@List.pairwise_iff_getElem
def Do:=@List.forIn_cons
def Dp:=@List.mem_filterMap
def Dq:=@PySem.F.args_tuple_add_2
def Dr:=@List.map_nil
def Ds:=@Nat.lt_trans
def Dt:=@Int.zero_add
def Du:=@PySem.AutoSeq1.wpAny_loadPart'
def Dv:=@PySem.F.args_tuple_mul_2
def Dw:=@List.eq_of_mem_replicate
def Dx:=@PySem.W.looks_findIn
def Dy:=@PyProof.Rows.wpS_get
def Dz:=@PySem.F.entry_tuple_add
def D0:=@PySem.F.plainAttrs_dict
def D1:=@List.pairwise_singleton
def D4:=@PySem.F.entry_tuple_mul
def D5:=@PySem.SeqAt.RcAt.tuples
def D6:=@PySem.Obj.cls_mapFields
def D7:=@PySem.wpAny_dictEntries
def D8:=@PySem.F.slot_tuple_add
def D9:=@Nat.le_succ
def EA:=@Nat.pow_add
def EB:=@PyProof.Rows.callWith_kw
def EC:=@Nat.lt_succ_self
def ED:=@PySem.W.Looks.ld
def EE:=@PySem.Heap.size_update
def EF:=@PySem.F.slot_tuple_lt
def EG:=@PySem.F.slot_dict_get
def EI:=@PyProof.Rows.boot_min
def EJ:=@List.getElem?_set_ne
def EK:=@Bool.eq_iff_iff
def EL:=@List.all_map
def EM:=@PySem.F.args_dict_keyiterator_next_1
def EN:=@PySem.W.kat_nil
def EO:=@PySem.W.kat_one
def EQ:=@PySem.F.slot_zip_next
def ER:=@Nat.pow_le_pow_right
def ES:=@Nat.mul_le_mul_right
def ET:=@decide_false
def EU:=@PySem.wpAny_dictEpoch
def EV:=@PySem.wpAny_updateSeq_pair
def EW:=@PySem.F.entry_dict_keyiterator_next
def EX:=@PySem.W.hideAll_get
def EY:=@PyProof.Rows.lt_int
def EZ:=@List.getElem?_range
def Ea:=@List.mem_map_of_mem
def Eb:=@PySem.F.args_tuple_iterator_next_1
def Ec:=@Nat.mul_le_mul
def Ed:=@PyProof.Rows.wpS_lift
def Ee:=@decide_true
def Ef:=@PySem.wpAny_of_eq
def Eg:=@PyProof.Rows.boot_sorted
def Eh:=@PySem.W.of_hideAll
def Ej:=@PySem.W.callWith_K
def Ek:=@PySem.SeqAt.EqAt.int_int
def El:=@Array.size_extract
def Em:=@PySem.F.entry_proto_collect
def En:=@PySem.F.plain_proto_collect
def Eo:=@PySem.F.entry_tuple_iterator_next
def Ep:=@PySem.Code.quiet_builtin
def Er:=@PySem.tupleKind_room_in1
def Es:=@PySem.Calls.Name_function_global
def Et:=@Int.fdiv_eq_ediv_of_nonneg
def Eu:=@Array.perm_iff_toList_perm
def Ew:=@PySem.wpAny_onRaise
def Ex:=@List.take_sublist
def Ey:=@List.reverse_cons
def Ez:=@List.nodup_append
def E1:=@Nat.lt_succ_of_lt
def E3:=@Bool.not_eq_true'
def E4:=@Bool.eq_false_iff
def E5:=@PySem.Within.cons
def E6:=@PySem.wpAny_call
def E7:=@PySem.typeIs_int
def E8:=@PySem.wpAny_binaryOp_repeat_ref
def E9:=@beq_iff_eq
def FA:=@PySem.codeAny_handlers_suite_as
def FC:=@List.getElem?_take_of_lt
def FD:=@PySem.AutoSeq1.sub_tuple_tuple
def FE:=@Prod.ext
def FF:=@Nat.min_self
def FG:=@List.zipIdx_cons
def FH:=@PySem.W.kat_cons
def FJ:=@Nat.min_eq_right
def FK:=@PySem.noFill_tuple_add
def FL:=@PySem.wpAny_isInstance
def FM:=@PyProof.Rows.kws_cons
def FN:=@PySem.F.args_tuple_lt_2
def FO:=@PySem.F.args_dict_get_3
def FP:=@Nat.add_sub_cancel_left
def FR:=@List.getElem?_cons_succ
def FS:=@PySem.F.entry_list_iadd
def FT:=@PySem.F.slot_tuple_rmul
def FU:=@PySem.wpAny_Call_method0_late
def FV:=@List.of_mem_zip
def FW:=@PySem.SeqAt.EqAt.same
def FX:=@PySem.W.kat_yes
def FY:=@Nat.not_lt_zero
def FZ:=@Int.mul_one
def Fa:=@PyProof.noPylong_small
def Fb:=@PySem.W.cellsFrom_some
def Fc:=@PySem.F.entry_tuple_lt
def Fd:=@PySem.F.entry_dict_get
def Fe:=@Array.getElem?_extract
def Ff:=@List.getElem_cons_drop
def Fg:=@Int.mul_add
def Fh:=@Int.one_mul
def Fi:=@PySem.F.slot_dict_keys
def Fj:=@PySem.F.type_dict_keys
def Fk:=@PySem.wpAny_pyNext_range_end
def Fl:=@PySem.wpAny_pyIter_rangeiter
def Fm:=@PySem.sizeLine_eq
def Fn:=@PySem.richCompare_meets_room
def Fp:=@PyProof.Rows.wpS_reverse
def Fq:=@PySem.W.looks_mroIn
def Fs:=@PySem.W.hideAll_get
def Ft:=@Bool.and_false
def Fu:=@Array.mem_of_getElem?
def Fv:=@List.pairwise_and_iff
def Fw:=@PySem.W.kat_no
def Fx:=@List.filterMap_append
def Fy:=@List.forIn_nil
def Fz:=@PySem.F.slot_enumerate_next
def F0:=@PySem.F.slot_int_rmul
def GH:=@PyProof.Rows.boot_any
def GI:=@List.getElem?_eq_none
def GK:=@List.contains_iff_mem
def GQ:=@PySem.wpAny_isTrue_Compare1
def GW:=@PySem.wpAny_notOrdered_dict
def GY:=@PySem.wpAny_isOneOf_keyiter
def GZ:=@PySem.isSubtype_stop
def Ga:=@PySem.wpAny_newTuple
def Gc:=@PySem.codeAny_handlers_test
def Gd:=@PySem.wpAny_loadPart
def Gg:=@List.mem_of_mem_drop
def Gk:=@Bool.false_or
def Gm:=@Bool.not_true
def Gn:=@List.map_drop
def Go:=@List.map_take
def Gp:=@PySem.seq_tuple_add
def Gr:=@List.filter_sublist
def Gv:=@PySem.evalArgs_none
def Gz:=@Nat.add_comm
def HA:=@Nat.sub_zero
def HB:=@Nat.sub_self
def HC:=@List.any_map
def HD:=@Int.add_comm
def HE:=@PySem.concat_meets
def HF:=@PySem.wpAny_typeOf
def HG:=@PySem.seqIndex_neg
def HI:=@Nat.pow_pos
def HJ:=@Int.add_mul
set_option maxRecDepth 100000
namespace L2
open PySem PySem.Spec PyProof.Rows
abbrev Hl:=Sum Int Str
def PL:Hl->Value->Bool
 |.inl k,v=>Value.isInt k v
 |.inr x,v=>Value.isStrOf x v
def Y9(w:World):Hl->Int
 |.inl k=>hashInt k
 |.inr x=>hashStr w x
theorem Mf:∀{k:Hl}{v:Value},PL k v=true->(∃i t,k=Sum.inl i/\v=Value.int i t)∨(∃x t,k=Sum.inr x/\v=Value.str x t)
 |.inl i,v,h=>by
  obtain⟨t,e⟩:=Value.isInt_shape (k:=i) (v:=v) h
  exact .inl ⟨i,t,rfl,e⟩
 |.inr x,v,h=>by
  obtain⟨t,e⟩:=Value.isStrOf_shape (x:=x) (v:=v) h
  exact .inr ⟨x,t,rfl,e⟩
theorem iX(i:Int)(t:Tok):PL (.inl i) (.int i t)=true:=by simp [PL,Value.isInt]
theorem fA(x:Str)(t:Tok):PL (.inr x) (.str x t)=true:=by simp [PL,Value.isStrOf]
theorem kH(a b:Int):decide ((Sum.inl a:Hl)=Sum.inl b)=(a==b):=by
 by_cases e:a=b
 ·subst e;simp
 ·have h:¬ (Sum.inl a:Hl)=Sum.inl b:=λq=>e (Sum.inl.inj q)
  rw[AN h]
  exact(beq_eq_false_iff_ne.mpr e).symm
theorem WS(a b:Str):decide ((Sum.inr a:Hl)=Sum.inr b)=decide (a=b):=by
 by_cases e:a=b
 ·subst e;simp
 ·have h:¬ (Sum.inr a:Hl)=Sum.inr b:=λq=>e (Sum.inr.inj q)
  rw[AN h,AN e]
theorem Xl(a:Int)(b:Str):decide ((Sum.inl a:Hl)=Sum.inr b)=false:=AN (λq=>nomatch q)
theorem nR(a:Str)(b:Int):decide ((Sum.inr a:Hl)=Sum.inl b)=false:=AN (λq=>nomatch q)
def Jq(prog:Program)(w:World):PySem.KeyKind prog w Hl where
 is:=PL
 hash:=Y9 w
 inj:=λv a b ha hb=>by
  rcases Mf ha with⟨i,t,rfl,rfl⟩|⟨x,t,rfl,rfl⟩
  ·rcases Mf hb with⟨j,u,rfl,e⟩|⟨y,u,rfl,e⟩
   ·injection e with e1 _;rw[e1]
   ·exact nomatch e
  ·rcases Mf hb with⟨j,u,rfl,e⟩|⟨y,u,rfl,e⟩
   ·exact nomatch e
   ·injection e with e1 _;rw[e1]
 byValue:=λk v h=>by
  rcases Mf h with⟨i,t,rfl,rfl⟩|⟨x,t,rfl,rfl⟩<;>rfl
 pyHash:=λhv h=>by
  rcases Mf hv with⟨i,t,rfl,rfl⟩|⟨x,t,rfl,rfl⟩
  ·exact wpAny_pyHash_int h
  ·exact wpAny_pyHash_str h
 eqBool:=λhu hv h=>by
  rcases Mf hu with⟨i,t,rfl,rfl⟩|⟨x,t,rfl,rfl⟩
  ·rcases Mf hv with⟨j,u,rfl,rfl⟩|⟨y,u,rfl,rfl⟩
   ·rw[kH]at h;exact wpAny_eqBool_int h
   ·rw[Xl]at h;exact SeqAt.EqAt.int_str i t y u _ _ _ _ h
  ·rcases Mf hv with⟨j,u,rfl,rfl⟩|⟨y,u,rfl,rfl⟩
   ·rw[nR]at h;exact SeqAt.EqAt.str_int x t j u _ _ _ _ h
   ·rw[WS]at h;exact wpAny_eqBool_str h
 «strs»:=λk x t v h=>by
  rcases Mf h with⟨i,u,rfl,e⟩|⟨y,u,rfl,e⟩
  ·exact nomatch e
  ·injection e with e1 _
   subst e1
   cases v<;>rfl
theorem YK(prog:Program)(w:World)(i:Int)(t:Tok):(Jq prog w).is (.inl i) (.int i t)=true:=iX i t
theorem dQ(prog:Program)(w:World)(x:Str)(t:Tok):(Jq prog w).is (.inr x) (.str x t)=true:=fA x t
inductive V where
 |non|bl (b:Bool)|int (i:Int)|str (x:Str)|byt (b:Array UInt8)|flt (b:UInt64)|ref (a:Addr)|ty (n:String)
 deriving DecidableEq
def Gx:V->Value->Prop
 |.non,u=>u=Value.none
 |.bl b,u=>u=Value.bool b
 |.int i,u=>∃t,u=Value.int i t
 |.str x,u=>∃t,u=Value.str x t
 |.byt b,u=>∃t,u=Value.bytes b t
 |.flt b,u=>∃t,u=Value.float b t
 |.ref a,u=>u=Value.ref a
 |.ty n,u=>u=Value.type n
abbrev Gy:List V->List Value->Prop:=Paired Gx
theorem Gy.length{xs:List V}{us:List Value}(r:Gy xs us):xs.length=us.length:=AL r
theorem Gy.get:∀{xs:List V}{us:List Value}{i:Nat}{x:V},Gy xs us->xs[i]?=some x->∃u,us[i]?=some u/\Gx x u
 |_,_,_,_,.nil,e=>by simp at e
 |_,_,0,_,.cons r _,e=>by simp at e;subst e;exact⟨_,rfl,r⟩
 |_,_,i+1,x,.cons _ t,e=>by
  obtain⟨u,h1,h2⟩:=Gy.get (i:=i) (x:=x) t (by simpa using e)
  exact⟨u,by simpa using h1,h2⟩
theorem Gy.set{x:V}{u:Value}(r:Gx x u):∀{xs:List V}{us:List Value}(i:Nat),Gy xs us->Gy (xs.set i x) (us.set i u)
 |_,_,_,.nil=>.nil
 |_,_,0,.cons _ t=>.cons r t
 |_,_,i+1,.cons q t=>.cons q (Gy.set r i t)
theorem Gy.append:∀{xs ys:List V}{us ws:List Value},Gy xs us->Gy ys ws->Gy (xs++ys) (us++ws)
 |_,_,_,_,.nil,s=>s
 |_,_,_,_,.cons r t,s=>.cons r (Gy.append t s)
theorem Gy.take:∀{xs:List V}{us:List Value}(n:Nat),Gy xs us->Gy (xs.take n) (us.take n)
 |_,_,0,_=>.nil
 |_,_,_+1,.nil=>.nil
 |_,_,n+1,.cons r t=>.cons r (Gy.take n t)
theorem Gy.drop:∀{xs:List V}{us:List Value}(n:Nat),Gy xs us->Gy (xs.drop n) (us.drop n)
 |_,_,0,r=>r
 |_,_,_+1,.nil=>.nil
 |_,_,n+1,.cons _ t=>Gy.drop n t
def IS:Option V->Option Value->Prop
 |some v,some u=>Gx v u
 |none,none=>True
 |_,_=>False
def KV{κ:Type}:List (κ×V)->List (κ×Value)->Prop:=Paired λ(p:κ×V)(q:κ×Value)=>p.1=q.1/\Gx p.2 q.2
def kV:Hl->V
 |.inl i=>.int i
 |.inr x=>.str x
inductive HO where
 |lst (xs:List V)
 |tup (xs:List V)
 |dK (kvs:List (Hl×V))|dT (kvs:List (List Hl×V))
 |set (S:Int->Bool) (n:Nat)
 |ins (C dx:Addr) (fs:List (Str×V))
 |own (x:Addr)
 |xd (fs:List (Str×V))
 |met (f x:Addr)
 |rng (lo hi:Int)
 |frz (o:Obj) (u:HO)
 |tbl (ps:Array Value)
 |ext (φ:Heap->Prop)
abbrev Hp:=Addr->Option HO
def Gi(H:Hp)(a:Addr)(o:HO):Hp:=λb=>if b=a then some o else H b
theorem Gu{H:Hp}{a:Addr}{o:HO}:Gi H a o a=some o:=by unfold Gi;rw[AH rfl]
theorem Ha{H:Hp}{a b:Addr}{o:HO}(h:b≠a):Gi H a o b=H b:=by unfold Gi;rw[AE h]
theorem KL{H:Hp}{a b:Addr}{o u:HO}(h:H a=some o)(h':H b=some u)(d:o≠u):a≠b:=by
 intro e;subst e;rw[h]at h';exact d (Al h')
theorem Iv{H:Hp}{a b:Addr}{o:HO}(h:H a=some o)(h':H b=none):a≠b:=by
 intro e;subst e;rw[h]at h';cases h'
def JN(h:Heap)(a:Addr)(items:Array Value):Prop:=∃o,h.get? a=some o/\o.cls=.type "tuple" /\ ∃n,o.data=.seq items n/\o.dict=none
theorem JN.tup{h:Heap}{a:Addr}{items:Array Value}(x:JN h a items):IsTup h a items:=let ⟨o,e,c,n,d,_⟩:=x;⟨o,e,c,n,d⟩
theorem JN.new(h:Heap)(items:Array Value):JN (h.push { cls:=.type "tuple",data:=.seq items }) h.objs.size items:=⟨_,AQ _ rfl,rfl,0,rfl,rfl⟩
section
variable(P:Program)(w:World)
def HM(H:Hp)(h:Heap)(a:Addr):HO->Prop
 |.lst xs=>xs.length<=sizeLine/\∃(its:List Value)(n:Nat),Gy xs its/\h.get? a=some { cls:=.type "list",data:=.seq its.toArray n }
 |.tup xs=>xs.length<=sizeLine/\∃its:List Value,Gy xs its/\JN h a its.toArray
 |.dK kvs=>kvs.length<=sizeLine/\(a==sysModules)=false/\∃vs,KV kvs vs/\h.DictOf (Jq P w) a vs
 |.dT kvs=>kvs.length<=sizeLine/\(a==sysModules)=false/\∃xs:List (List Hl×Addr×Value),
   Paired (λ(p:List Hl×V)(q:List Hl×Addr×Value)=>p.1=q.1/\H q.2.1=some (.tup (p.1.map kV))/\Gx p.2 q.2.2) kvs xs /\
   ∃o es ep,h.get? a=some o/\o.ExactDict/\o.data=.dict es ep/\es.toList=xs.map (entryOfKey (tupleKind (Jq P w)))/\(xs.map (·.1)).Nodup
 |.set S n=>h.SetOf (intKind P w) a S n
 |.ins C dx fs=>H dx=some (.own a)/\fs.length<=1000/\dx≠a/\h.get? a=some (W.instObj C dx) /\
   ∃mA,h.Ns1 dx mA/\(∀f,IS (fs.lookup f) (mA f))/\PySem.Within mA (fs.map (·.1))
 |.own _=>∃o,h.get? a=some o
 |.xd fs=>∃mA,h.Ns1 a mA/\∀f,IS (fs.lookup f) (mA f)
 |.rng lo hi=>∃t u v,h.get? a=some { cls:=.type "range",data:=.fields #[.int lo t,.int hi u,.int 1 v] }
 |.frz o u=>h.get? a=some o/\HM H h a u
 |.tbl ps=>h.get? a=some { cls:=.none,data:=.fields ps }
 |.met f x=>h.get? a=some (W.methodObj (.ref f) (.ref x))
 |.ext φ=>φ h/\(∃o,h.get? a=some o)/\∀h1 h2:Heap,φ h1->(∀o,h1.get? a=some o->h2.get? a=some o)->φ h2
def IN(H:Hp)(h:Heap):Prop:=∀a o,H a=some o->HM P w H h a o
end
section
variable{P:Program}{w:World}{H H':Hp}{h h':Heap}{a:Addr}{o:HO}
theorem HM.lt(x:HM P w H h a o):a<h.objs.size:=by
 cases o with
 |lst xs=>obtain⟨_,_,_,_,e⟩:=x;exact AR e
 |tup xs=>obtain⟨_,_,_,p⟩:=x;exact p.tup.lt
 |dK kvs=>obtain⟨_,_,_,_,o,_,_,e,_⟩:=x;exact AR e
 |dT kvs=>obtain⟨_,_,_,_,o,_,_,e,_⟩:=x;exact AR e
 |set S n=>obtain⟨o,_,_,_,e,_⟩:=x;exact AR e
 |ins C dx fs=>obtain⟨_,_,_,e,_⟩:=x;exact AR e
 |own y=>obtain⟨_,e⟩:=x;exact AR e
 |xd fs=>obtain⟨_,⟨_,_,_,e,_⟩,_⟩:=x;exact AR e
 |rng lo hi=>obtain⟨_,_,_,e⟩:=x;exact AR e
 |frz ob u=>obtain⟨e,_⟩:=x;exact AR e
 |tbl ps=>exact AR (show h.get? a=some _ from x)
 |met f y=>exact AR (show h.get? a=some _ from x)
 |ext φ=>obtain⟨_,⟨_,e⟩,_⟩:=x;exact AR e
theorem Paired.mapP{α β:Type}{F G:α->β->Prop}:∀{l₁:List α}{l₂:List β},Paired F l₁ l₂->(∀a b,F a b->G a b)->Paired G l₁ l₂
 |_,_,.nil,_=>.nil
 |_,_,.cons r t,f=>.cons (f _ _ r) (Paired.mapP t f)
theorem HM.stay(x:HM P w H h a o)(k:∀b u,(b=a∨H b=some (.own a))->h.get? b=some u->h'.get? b=some u)
  (ho:∀b,H b=some (.own a)->H' b=some (.own a)) (ht:∀b xs,H b=some (.tup xs)->H' b=some (.tup xs)):HM P w H' h' a o:=by
 induction o with
 |lst xs=>obtain⟨z,its,n,r,e⟩:=x;exact⟨z,its,n,r,k _ _ (.inl rfl) e⟩
 |tup xs=>obtain⟨z,its,r,ob,e,c⟩:=x;exact⟨z,its,r,ob,k _ _ (.inl rfl) e,c⟩
 |dK kvs=>obtain⟨z,y,vs,r,ob,es,ep,e,c⟩:=x;exact⟨z,y,vs,r,ob,es,ep,k _ _ (.inl rfl) e,c⟩
 |dT kvs =>
  obtain⟨z,y,xs,r,ob,es,ep,e,c⟩:=x
  exact⟨z,y,xs,Paired.mapP r λp q z=>⟨z.1,ht _ _ z.2.1,z.2.2⟩,ob,es,ep,k _ _ (.inl rfl) e,c⟩
 |set S n=>obtain⟨ob,es,ep,t,e,c⟩:=x;exact⟨ob,es,ep,t,k _ _ (.inl rfl) e,c⟩
 |ins C dx fs =>
  obtain⟨d,z,ne,e,mA,⟨od,es,ep,e2,c⟩,r⟩:=x
  exact⟨ho _ d,z,ne,k _ _ (.inl rfl) e,mA,⟨od,es,ep,k _ _ (.inr d) e2,c⟩,r⟩
 |own y=>obtain⟨ob,e⟩:=x;exact⟨ob,k _ _ (.inl rfl) e⟩
 |xd fs=>obtain⟨mA,⟨od,es,ep,e,c⟩,r⟩:=x;exact⟨mA,⟨od,es,ep,k _ _ (.inl rfl) e,c⟩,r⟩
 |rng lo hi=>obtain⟨t,u,v,e⟩:=x;exact⟨t,u,v,k _ _ (.inl rfl) e⟩
 |frz ob u ih=>obtain⟨e,q⟩:=x;exact⟨k _ _ (.inl rfl) e,ih q⟩
 |tbl ps =>
  have e:h.get? a=some { cls:=.none,data:=.fields ps }:=x
  show h'.get? a=some { cls:=.none,data:=.fields ps }
  exact k a _ (.inl rfl) e
 |met f y =>
  have e:h.get? a=some (W.methodObj (.ref f) (.ref y)):=x
  show h'.get? a=some (W.methodObj (.ref f) (.ref y))
  exact k a _ (.inl rfl) e
 |ext φ=>obtain⟨p,⟨o,e⟩,st⟩:=x;exact⟨st _ _ p λo q=>k _ _ (.inl rfl) q,⟨o,k _ _ (.inl rfl) e⟩,st⟩
theorem IN.lt(x:IN P w H h)(e:H a=some o):a<h.objs.size:=(x a o e).lt
theorem IN.fresh(x:IN P w H h)(e:h.objs.size<=a):H a=none:=by
 cases q:H a with
 |none=>rfl
 |some u=>exact absurd (Ao (x.lt q) e) (B7 _)
theorem IN.kept(x:IN P w H h)(k:∀b u,h.get? b=some u->h'.get? b=some u):IN P w H h':=λa o e =>
 (x a o e).stay (λb u _ q=>k b u q) (λ_ q=>q) λ_ _ q=>q
theorem IN.laid(x:IN P w H h)(k:∀b u,h.get? b=some u->h'.get? b=some u)(hp:h.objs.size<=a)(new:HM P w (Gi H a o) h' a o):IN P w (Gi H a o) h':=λb u e=>by
 have hn:=x.fresh hp
 by_cases hb:b=a
 ·subst hb;rw[Gu]at e;cases e;exact new
 ·rw[Ha hb]at e
  exact(x b u e).stay (λc v _ q=>k c v q) (λc q=>by rw[Ha (Iv q hn)];exact q) λc xs q=>by rw[Ha (Iv q hn)];exact q
end
def Rd(H:Hp)(a:Addr)(u:HO):Prop:=H a=some u∨∃o,H a=some (.frz o u)
theorem Rd.of{H:Hp}{a:Addr}{u:HO}(h:H a=some u):Rd H a u:=.inl h
theorem Rd.ok{P:Program}{w:World}{H:Hp}{h:Heap}{a:Addr}{u:HO}(r:Rd H a u)(x:IN P w H h):HM P w H h a u:=by
 rcases r with r|⟨o,r⟩
 ·exact x a u r
 ·obtain⟨_,q⟩:=x a _ r
  exact q
def Sk:Option HO->Prop
 |some (.lst _)=>True
 |some (.dK _)=>True
 |some (.dT _)=>True
 |some (.set _ _)=>True
 |some (.ins _ _ _)=>True
 |some (.ext _)=>True
 |_=>False
section
variable{P:Program}{w:World}{H:Hp}{h h':Heap}{x e:Addr}{o':HO}
theorem IN.write(ok:IN P w H h)(mu:Sk (H x))(he:e=x∨H e=some (.own x))(k:∀b u,b≠e->h.get? b=some u->h'.get? b=some u)(heo:∃u,h'.get? e=some u)
  (new:HM P w (Gi H x o') h' x o'):IN P w (Gi H x o') h':=λb u q=>by
 have nown:∀c y,H c=some (.own y)->c≠x:=λc y r z=>by subst z;rw[r]at mu;exact mu
 have ntup:∀c xs,H c=some (.tup xs)->c≠x:=λc xs r z=>by subst z;rw[r]at mu;exact mu
 by_cases hb:b=x
 ·subst hb;rw[Gu]at q;cases q;exact new
 ·rw[Ha hb]at q
  by_cases hbe:b=e
  ·have q':H b=some (.own x):=by
    rcases he with z|z
    ·exact absurd (hbe.trans z) hb
    ·rw[hbe];exact z
   rw[q]at q';cases q'
   obtain⟨v,hv⟩:=heo
   exact⟨v,by rw[hbe];exact hv⟩
  ·refine(ok b u q).stay (λc v hc r=>k c v ?_ r) (λc r=>by rw[Ha (nown c b r)];exact r) λc xs r=>by rw[Ha (ntup c xs r)];exact r
   rcases hc with rfl|hc
   ·exact hbe
   ·rintro rfl
    rcases he with z|z
    ·exact nown c b hc z
    ·rw[hc]at z;cases z;exact hb rfl
end
structure Un(fs ex:List Addr)(H H':Hp)(h h':Heap):Prop where
 keep:∀b o,h.get? b=some o->H b=none->b∉fs->b∉ex->h'.get? b=some o
 slot:∀b o,h.get? b=some o->H b=none->b∈fs->b∉ex->∃sl,h'.get? b=some { o with slots:=sl }
 free:∀b o,h.get? b=some o->H b=none->b∉ex->H' b=none
 there:∀b o,h.get? b=some o->b∉ex->∃o',h'.get? b=some o'
 tups:∀b xs,H b=some (.tup xs)->H' b=some (.tup xs)
 frzs:∀b o u,H b=some (.frz o u)->H' b=some (.frz o u)
 tbls:∀b ps,H b=some (.tbl ps)->∃more,H' b=some (.tbl (ps++more))
section
variable{fs fs' ex ex':List Addr}{H H1 H2:Hp}{h h1 h2 h':Heap}{a x e:Addr}{o:HO}
theorem Un.any(u:Un fs ex H H1 h h1){b:Addr}{ob:Obj}(q:h.get? b=some ob)(n:H b=none)(hx:b∉ex):∃sl,h1.get? b=some { ob with slots:=sl }:=by
 by_cases hb:b∈fs
 ·exact u.slot b ob q n hb hx
 ·exact⟨ob.slots,u.keep b ob q n hb hx⟩
theorem Un.trans(a:Un fs ex H H1 h h1)(b:Un fs ex H1 H2 h1 h2):Un fs ex H H2 h h2 where
 keep:=λc ob q n hc hx=>b.keep c ob (a.keep c ob q n hc hx) (a.free c ob q n hx) hc hx
 slot:=λc ob q n hc hx=>by
  obtain⟨sl,e1⟩:=a.slot c ob q n hc hx
  obtain⟨sl',e2⟩:=b.slot c _ e1 (a.free c ob q n hx) hc hx
  exact⟨sl',e2⟩
 free:=λc ob q n hx=>by
  obtain⟨o',e1⟩:=a.there c ob q hx
  exact b.free c o' e1 (a.free c ob q n hx) hx
 there:=λc ob q hx=>by
  obtain⟨o',e1⟩:=a.there c ob q hx
  exact b.there c o' e1 hx
 tups:=λc xs q=>b.tups c xs (a.tups c xs q)
 frzs:=λc ob xs q=>b.frzs c ob xs (a.frzs c ob xs q)
 tbls:=λc ps q=>by
  obtain⟨m1,e1⟩:=a.tbls c ps q
  obtain⟨m2,e2⟩:=b.tbls c _ e1
  exact⟨m1++m2,by rw[e2,Array.append_assoc]⟩
theorem Un.kept(k:∀b u,h.get? b=some u->h'.get? b=some u):Un fs ex H H h h' :=
 ⟨λb ob q _ _ _=>k b ob q,λb ob q _ _ _=>⟨ob.slots,k b ob q⟩,λ_ _ _ n _=>n,λb ob q _=>⟨ob,k b ob q⟩,λ_ _ q=>q,λ_ _ _ q=>q,λ_ ps q=>⟨#[],by rw[q];simp⟩⟩
theorem Un.refl:Un fs ex H H h h:=Un.kept λ_ _ q=>q
theorem Un.laid(k:∀b u,h.get? b=some u->h'.get? b=some u)(hp:h.objs.size<=a)(hn:H a=none):Un fs ex H (Gi H a o) h h' where
 keep:=λb u q _ _ _=>k b u q
 slot:=λb u q _ _ _=>⟨u.slots,k b u q⟩
 free:=λb u q n _=>by rw[Ha (As (Ao (AR q) hp))];exact n
 there:=λb u q _=>⟨u,k b u q⟩
 tups:=λb xs q=>by rw[Ha (Iv q hn)];exact q
 frzs:=λb u xs q=>by rw[Ha (Iv q hn)];exact q
 tbls:=λb ps q=>⟨#[],by rw[Ha (Iv q hn),q];simp⟩
theorem Un.write(mu:Sk (H x))(he:e=x∨H e=some (.own x))(k:∀b u,b≠e->h.get? b=some u->h'.get? b=some u)(heo:∃u,h'.get? e=some u):Un fs ex H (Gi H x o) h h':=by
 have hx:∀b,H b=none->b≠x:=λb n z=>by subst z;rw[n]at mu;exact mu
 have hb:∀b,H b=none->b≠e:=λb n z=>by
  subst z
  rcases he with r|r
  ·exact hx b n r
  ·rw[n]at r;cases r
 have hm:∀b u,H b=some u->¬ Sk (some u)->b≠x:=λb u q nm z=>by subst z;rw[q]at mu;exact nm mu
 refine⟨λb u q n _ _=>k b u (hb b n) q,λb u q n _ _=>⟨u.slots,k b u (hb b n) q⟩,λb u q n _=>by rw[Ha (hx b n)];exact n,λb u q _=>?_,
  λb xs q=>by rw[Ha (hm b _ q λz=>z)];exact q,λb u xs q=>by rw[Ha (hm b _ q λz=>z)];exact q,λb ps q=>⟨#[],by rw[Ha (hm b _ q λz=>z),q];simp⟩⟩
 by_cases hbe:b=e
 ·subst hbe;exact heo
 ·exact⟨u,k b u hbe q⟩
theorem Un.mono(u:Un fs ex H H1 h h1)(hs:∀b∈fs,b∈fs')(hx:∀b∈ex,b∈ex'):Un fs' ex' H H1 h h1 :=
 ⟨λb ob q n hb he=>u.keep b ob q n (λz=>hb (hs b z)) λz=>he (hx b z),λ_ _ q n _ he=>u.any q n λz=>he (hx _ z),λb ob q n he=>u.free b ob q n λz=>he (hx b z),λb ob q he=>u.there b ob q λz=>he (hx b z),u.tups,u.frzs,u.tbls⟩
end
def trk(h:Heap)(H:Hp):List Addr:=(List.range h.objs.size).filter λa=>(H a).isSome
def Ma(h:Heap)(H:Hp):Heap:=W.hideAll h (trk h H)
theorem nY(h:Heap)(H:Hp):(Ma h H).objs.size=h.objs.size:=W.hideAll_size _ _
theorem Zg{h:Heap}{H:Hp}{b:Addr}{o:Obj}(e:h.get? b=some o)(n:H b=none):(Ma h H).get? b=some o :=
 EX _ e λhm=>by
  have q:(H b).isSome=true:=(Dk.mp hm).2
  rw[n]at q;simp at q
theorem cS{h:Heap}{H:Hp}{b:Addr}{o:Obj}(e:(Ma h H).get? b=some o):h.get? b=some o/\H b=none:=by
 have e':h.get? b=some o:=Eh (trk h H) e
 refine⟨e',?_⟩
 cases q:H b with
 |none=>rfl
 |some x =>
  have hm:b∈trk h H:=Dk.mpr ⟨At.mpr (AR e'),by simp [q]⟩
  have z:(Ma h H).get? b=none:=W.hideAll_none (trk h H) hm
  rw[z]at e;cases e
def lS(g h:Heap)(L:Addr):List (Addr×Obj):=(List.range h.objs.size).filterMap λa=>if a=L∨(g.get? a).isSome=true then none else (h.get? a).map λo=>(a,o)
def HU(g h:Heap)(L d:Addr):List (Addr×Obj):=(lS g h L).filter λp=>decide (p.1≠d)
structure Mod(K:W.Frag)(mg:Str->Option Value)(base:Heap):Prop where
 kin:K.In base
 glob:base.Ns mainGlobals mg
 blt:∃mb,base.Ns builtinsNs mb/\∀x:Str,x ≠ "__name__" -> mb x=bootBuiltins x
 nolimit:base.NoLimit
structure Cx where
 prog:Program
 w:World
 K:W.Frag
 mg:Str->Option Value
 base:Heap
 A:Around
 N:List Str
 s₀:Shared
 H₀:Hp
 env:Env
 outer:List Env
 stack:List Env
 ex:List Addr
 fn:Str->Bool
 calm:Bool
 pn:List (Addr×Obj)
 xe:Value->Shared->Prop
def IQ(l:List Env):List Addr:=l.filterMap (·.frame)
abbrev Cx.fs(X:Cx):List Addr:=IQ X.outer
def Vo(sc:Scope)(x:Str):Prop:=sc.names.lookup x=some .local∨sc.names.lookup x=some .cell∨sc.names.lookup x=some .free
def Loc(sc:Scope)(x:Str):Prop:=sc.names.lookup x=some .local∨sc.names.lookup x=some .cell
def kN(env:Env)(h:Heap)(m:Str->Option Value)(x:Str)(u:Value):Prop :=
 (env.kindOf x=some .local/\m x=some u)∨((env.kindOf x=some .cell∨env.kindOf x=some .free)/\∃c,env.cells.lookup x=some c/\h.IsCell c (some u))
structure Cx.Ok(X:Cx):Prop where
 mod:Mod X.K X.mg X.base
 kind:X.env.scope.kind=.function
 glob:X.env.globals=mainGlobals
 blt:X.env.builtins=builtinsNs
 above:X.s₀.heap.objs.size<=X.env.locals
 inj:∀x y c,X.env.cells.lookup x=some c->X.env.cells.lookup y=some c->x=y
 has:∀x,(X.env.kindOf x=some .cell∨X.env.kindOf x=some .free)->∃c,X.env.cells.lookup x=some c
 cab:∀x c,X.fn x=true->X.env.cells.lookup x=some c->X.s₀.heap.objs.size<=c
 hd:X.calm=true->X.A.handled=none
 frames:X.A.frames=some X.stack
 stk:X.stack=X.outer∨(X.stack=X.env::X.outer/\X.env.frame=some X.env.locals)
 exf:∀b∈X.ex,b≠X.env.locals/\∀x c,X.env.cells.lookup x=some c->c≠b
 bs:∀b o,X.base.get? b=some o->X.s₀.heap.get? b=some o/\X.H₀ b=none
 bsz:X.base.objs.size<=X.s₀.heap.objs.size
 noex:∀b o,X.base.get? b=some o->b∉X.ex
 exfs:∀b∈X.ex,b∉X.fs
 funs:X.s₀.heap.FunFrames X.base X.outer
 frf:∀b∈X.fs,X.H₀ b=none
structure Inv(X:Cx)(Fo:List (Addr×Obj))(σ:List (Option V))(H:Hp)(s:Shared):Prop where
 ok:X.Ok
 os:s.os=X.s₀.os
 bare:AllBare s.gens
 base:Un X.fs X.ex X.H₀ H X.s₀.heap s.heap
 loc:∃m,s.heap.Ns X.env.locals m/\∀(i:Nat)(x:Str)(v:V),X.N[i]?=some x->σ[i]?=some (some v)->Vo X.env.scope x->∃u,Gx v u/\kN X.env s.heap m x u
 cell:∀x c,X.env.cells.lookup x=some c->∃v,s.heap.IsCell c v
 free:H X.env.locals=none
 freeC:∀x c,X.env.cells.lookup x=some c->H c=none
 pin:∀p∈X.pn++Fo,s.heap.get? p.1=some p.2/\H p.1=none/\p.1≠X.env.locals/\p.1∉X.fs/\∀v,p.2.data≠.cell v
 hok:IN X.prog X.w H s.heap
 len:σ.length=X.N.length
section
variable{X:Cx}{Fo:List (Addr×Obj)}{σ:List (Option V)}{H H':Hp}{s:Shared}{h':Heap}
theorem Cx.Ok.nofr(ok:X.Ok){b:Addr}{o:Obj}(e:X.base.get? b=some o):b∉X.fs:=λhb=>by
 have:=(ok.funs.mem hb).1
 rw[e]at this;cases this
theorem Inv.bs(I:Inv X Fo σ H s):∀b o,X.base.get? b=some o->s.heap.get? b=some o/\H b=none:=λb o e =>
 ⟨I.base.keep b o (I.ok.bs b o e).1 (I.ok.bs b o e).2 (I.ok.nofr e) (I.ok.noex b o e),I.base.free b o (I.ok.bs b o e).1 (I.ok.bs b o e).2 (I.ok.noex b o e)⟩
theorem Inv.bk(I:Inv X Fo σ H s):∀b o,X.base.get? b=some o->s.heap.get? b=some o:=λb o e=>(I.bs b o e).1
theorem Inv.mod(I:Inv X Fo σ H s):Mod X.K X.mg X.base:=I.ok.mod
theorem Inv.kIn(I:Inv X Fo σ H s):X.K.In s.heap:=I.ok.mod.kin.keeps I.bk
theorem Inv.nolimit(I:Inv X Fo σ H s):s.heap.NoLimit:=I.ok.mod.nolimit.keeps I.bk
theorem Inv.lt(I:Inv X Fo σ H s):X.env.locals<s.heap.objs.size:=let ⟨_,hn,_⟩:=I.loc;hn.lt
theorem Inv.sz(I:Inv X Fo σ H s):X.s₀.heap.objs.size<=s.heap.objs.size:=BE I.ok.above (Bf I.lt)
theorem Inv.nofs(I:Inv X Fo σ H s){a:Addr}(h:s.heap.objs.size<=a):a∉X.fs:=λhb=>by
 obtain⟨_,o,ho,_⟩:=I.ok.funs.mem hb
 exact absurd (Ao (AR ho) (BE I.sz h)) (B7 _)
theorem Inv.cne(I:Inv X Fo σ H s):∀x c,X.env.cells.lookup x=some c->c≠X.env.locals:=λx c e z=>by
 obtain⟨v,o,ho,hd⟩:=I.cell x c e
 obtain⟨m,⟨o',es,ep,ho',hd',_⟩,_⟩:=I.loc
 rw[z,ho']at ho;cases ho;rw[hd']at hd;cases hd
theorem Inv.funs(I:Inv X Fo σ H s):s.heap.FunFrames X.base X.outer:=by
 have all:∀(l:List Env),(∀b∈IQ l,b∈X.fs)->X.s₀.heap.FunFrames X.base l->s.heap.FunFrames X.base l:=by
  intro l
  induction l with
  |nil=>intro _ _;trivial
  |cons env r ih =>
   intro hs hl
   obtain⟨hk,⟨L,o,hf,hn,ho,hd⟩,hr⟩:=hl
   have hL:L∈X.fs:=hs L (by unfold IQ;rw[CC,hf];exact AJ)
   obtain⟨sl,e⟩:=I.base.slot L o ho (I.ok.frf L hL) hL λz=>I.ok.exfs L z hL
   exact⟨hk,⟨L,_,hf,hn,e,hd⟩,ih (λb hb=>hs b (by unfold IQ;rw[CC,hf];exact AK _ hb)) hr⟩
 exact all X.outer (λ_ hb=>hb) I.ok.funs
theorem Inv.stack(I:Inv X Fo σ H s):s.heap.FunFrames X.base X.stack:=by
 rcases I.ok.stk with e|⟨e,hf⟩
 ·rw[e];exact I.funs
 ·rw[e]
  obtain⟨m,hn,_⟩:=I.loc
  refine .cons (by rw[I.ok.kind];decide) hf hn ?_ I.funs
  exact Heap.get?_none_of_le (BE I.ok.bsz I.ok.above)
theorem Inv.stkSub(I:Inv X Fo σ H s):∀b∈IQ X.stack,b∈X.env.locals::X.fs:=λb hb=>by
 rcases I.ok.stk with e|⟨e,hf⟩
 ·rw[e]at hb;exact AK _ hb
 ·rw[e]at hb
  unfold IQ at hb
  rw[CC,hf]at hb
  exact hb
theorem Inv.stkFree(I:Inv X Fo σ H s):∀b∈IQ X.stack,H b=none:=λb hb=>by
 rcases AO.mp (I.stkSub b hb) with e|hb
 ·rw[e];exact I.free
 ·obtain⟨_,o,ho,_⟩:=I.ok.funs.mem hb
  exact I.base.free b o ho (I.ok.frf b hb) λz=>I.ok.exfs b z hb
theorem Inv.step{g':Array GenState}{t':Nat}{d':Drawn}{ch:List Addr}(I:Inv X Fo σ H s)
  (hch:∀b∈ch,(b∈X.ex∨X.s₀.heap.objs.size<=b)/\b≠X.env.locals/\(∀x c,X.env.cells.lookup x=some c->c≠b)/\∀p∈X.pn++Fo,p.1≠b)
  (keep:∀b o,b≠X.env.locals->b∉X.fs->b∉ch->s.heap.get? b=some o->H b=none->h'.get? b=some o)
  (slot:∀b o,b≠X.env.locals->b∈X.fs->b∉ch->s.heap.get? b=some o->H b=none->∃sl,h'.get? b=some { o with slots:=sl }) (free:∀b o,b∉ch->s.heap.get? b=some o->H b=none->H' b=none)
  (there:∀b o,b∉ch->s.heap.get? b=some o->∃o',h'.get? b=some o')
  (tups:∀b xs,H b=some (.tup xs)->H' b=some (.tup xs)) (frzs:∀b o u,H b=some (.frz o u)->H' b=some (.frz o u)) (tbls:∀b ps,H b=some (.tbl ps)->∃more,H' b=some (.tbl (ps++more)))
  (ns:∀m,s.heap.Ns X.env.locals m->h'.Ns X.env.locals m) (hok:IN X.prog X.w H' h') (hg:AllBare g') :
  Inv X Fo σ H' { s with heap:=h',gens:=g',drawn:=d',toks:=t' }:=by
 have neL:∀b o,X.s₀.heap.get? b=some o->b≠X.env.locals:=λb o e=>As (Ao (AR e) I.ok.above)
 have neC:∀b o,X.s₀.heap.get? b=some o->b∉X.ex->b∉ch:=λb o e hx hb=>by
  rcases (hch b hb).1 with z|z
  ·exact hx z
  ·exact absurd (Ao (AR e) z) (B7 _)
 have cellK:∀x c,X.env.cells.lookup x=some c->∀v,s.heap.IsCell c v->h'.IsCell c v:=λx c e v ⟨o,ho,hd⟩=>by
  have nch:c∉ch:=λz=>(hch c z).2.2.1 x c e rfl
  by_cases hc:c∈X.fs
  ·obtain⟨sl,q⟩:=slot c o (I.cne x c e) hc nch ho (I.freeC x c e)
   exact⟨_,q,hd⟩
  ·exact⟨o,keep c o (I.cne x c e) hc nch ho (I.freeC x c e),hd⟩
 refine⟨I.ok,I.os,hg,⟨λb o e n hb hx=>?_,λb o e n hb hx=>?_,λb o e n hx=>?_,λb o e hx=>?_,λb xs e=>tups b xs (I.base.tups b xs e),λb o xs e=>frzs b o xs (I.base.frzs b o xs e),λb ps e=>?_⟩,?_,λx c e=>?_,?_,λx c e=>?_,λp hp=>?_,hok,I.len⟩
 ·exact keep b o (neL b o e) hb (neC b o e hx) (I.base.keep b o e n hb hx) (I.base.free b o e n hx)
 ·obtain⟨sl,e1⟩:=I.base.slot b o e n hb hx
  obtain⟨sl',e2⟩:=slot b _ (neL b o e) hb (neC b o e hx) e1 (I.base.free b o e n hx)
  exact⟨sl',e2⟩
 ·obtain⟨o',e1⟩:=I.base.there b o e hx
  exact free b o' (neC b o e hx) e1 (I.base.free b o e n hx)
 ·obtain⟨o',e1⟩:=I.base.there b o e hx
  exact there b o' (neC b o e hx) e1
 ·obtain⟨m1,e1⟩:=I.base.tbls b ps e
  obtain⟨m2,e2⟩:=tbls b _ e1
  exact⟨m1++m2,by rw[e2,Array.append_assoc]⟩
 ·obtain⟨m,hn,hl⟩:=I.loc
  refine⟨m,ns m hn,λi x v e1 e2 e3=>?_⟩
  obtain⟨u,r,l⟩:=hl i x v e1 e2 e3
  refine⟨u,r,?_⟩
  rcases l with l|⟨k,c,e,z⟩
  ·exact .inl l
  ·exact .inr ⟨k,c,e,cellK x c e _ z⟩
 ·obtain⟨v,z⟩:=I.cell x c e
  exact⟨v,cellK x c e v z⟩
 ·obtain⟨m,⟨o,_,_,ho,_⟩,_⟩:=I.loc
  exact free _ o (λz=>(hch _ z).2.1 rfl) ho I.free
 ·obtain⟨v,o,ho,hd⟩:=I.cell x c e
  exact free c o (λz=>(hch c z).2.2.1 x c e rfl) ho (I.freeC x c e)
 ·obtain⟨e,n,ne,nf,d⟩:=I.pin p hp
  have nch:p.1∉ch:=λz=>(hch p.1 z).2.2.2 p hp rfl
  exact⟨keep p.1 p.2 ne nf nch e n,free p.1 p.2 nch e n,ne,nf,d⟩
theorem Inv.un{t':Nat}(I:Inv X Fo σ H s)(u:Un X.fs [] H H' s.heap h')(hok:IN X.prog X.w H' h'):Inv X Fo σ H' { s with heap:=h',toks:=t' }:=by
 obtain⟨m,⟨o,es,ep,ho,r⟩,_⟩:=id I.loc
 obtain⟨sl,hL⟩:=u.any ho I.free (by simp)
 exact I.step (g':=s.gens) (d':=s.drawn) (ch:=[]) (λ_ z=>nomatch z) (λb o _ hb _ e n=>u.keep b o e n hb (by simp)) (λb o _ hb _ e n=>u.slot b o e n hb (by simp)) (λb o _ e n=>u.free b o e n (by simp)) (λb o _ e=>u.there b o e (by simp)) u.tups u.frzs u.tbls (λm' hm=>by
  obtain⟨o',es',ep',ho',r'⟩:=hm
  rw[ho]at ho';cases ho'
  exact⟨_,es',ep',hL,r'⟩) hok I.bare
theorem Inv.call{g':Array GenState}{t':Nat}{d':Drawn}{ch:List Addr}(I:Inv X Fo σ H s)(u:Un (IQ X.stack) ch H H' s.heap h')(hok:IN X.prog X.w H' h')(hg:AllBare g')
  (hch:∀b∈ch,(b∈X.ex∨X.s₀.heap.objs.size<=b)/\b≠X.env.locals/\(∀x c,X.env.cells.lookup x=some c->c≠b)/\∀p∈X.pn++Fo,p.1≠b) :
  Inv X Fo σ H' { s with heap:=h',gens:=g',drawn:=d',toks:=t' }:=by
 obtain⟨m,⟨o,es,ep,ho,r⟩,_⟩:=id I.loc
 obtain⟨sl,hL⟩:=u.any ho I.free λz=>(hch _ z).2.1 rfl
 exact I.step (ch:=ch) hch (λb o hL hb hc e n=>u.keep b o e n (λz=>(AO.mp (I.stkSub b z)).elim hL hb) hc) (λb o _ _ hc e n=>u.any e n hc) (λb o hc e n=>u.free b o e n hc) (λb o hc e=>u.there b o e hc) u.tups u.frzs u.tbls (λm' hm=>by
  obtain⟨o',es',ep',ho',r'⟩:=hm
  rw[ho]at ho';cases ho'
  exact⟨_,es',ep',hL,r'⟩) hok hg
theorem Inv.turned{t':Nat}{it:Addr}(I:Inv X Fo σ H s)(k:∀b o,b≠it->s.heap.get? b=some o->h'.get? b=some o)(hn:H it=none)(hL:it≠X.env.locals)
  (h1:it∈X.ex∨X.s₀.heap.objs.size<=it) (h2:∀x c,X.env.cells.lookup x=some c->c≠it) (h3:∀p∈X.pn++Fo,p.1≠it):Inv X Fo σ H { s with heap:=h',toks:=t' }:=by
 have nit:∀b u,H b=some u->b≠it:=λb u e z=>by rw[z,hn]at e;cases e
 refine I.step (g':=s.gens) (d':=s.drawn) (ch:=[it]) (λb hb=>?_) (λb o _ _ hc e _=>k b o (λz=>hc (by simp [z])) e) (λb o _ _ hc e _=>⟨o.slots,k b o (λz=>hc (by simp [z])) e⟩) (λ_ _ _ _ n=>n)
  (λb o hc e=>⟨o,k b o (λz=>hc (by simp [z])) e⟩) (λ_ _ e=>e) (λ_ _ _ e=>e) (λb ps e=>⟨#[],by rw[e];simp⟩) (λm hm=>?_) (λb u e=>?_) I.bare
 ·have e:b=it:=by simpa using hb
  subst e
  exact⟨h1,hL,h2,h3⟩
 ·obtain⟨o,es,ep,ho,r⟩:=hm
  exact⟨o,es,ep,k _ o (Bl hL) ho,r⟩
 ·refine(I.hok b u e).stay (λc v hc q=>k c v ?_ q) (λ_ q=>q) λ_ _ q=>q
  rcases hc with z|z
  ·rw[z];exact nit b u e
  ·exact nit c _ z
theorem Inv.tok(I:Inv X Fo σ H s)(t:Nat):Inv X Fo σ H { s with toks:=t }:=I.un (h':=s.heap) (t':=t) Un.refl I.hok
theorem Inv.kept{t':Nat}(I:Inv X Fo σ H s)(k:∀b u,s.heap.get? b=some u->h'.get? b=some u):Inv X Fo σ H { s with heap:=h',toks:=t' }:=I.un (Un.kept k) (I.hok.kept k)
theorem Inv.laid{a:Addr}{o:HO}{t':Nat}(I:Inv X Fo σ H s)(k:∀b u,s.heap.get? b=some u->h'.get? b=some u)(hp:s.heap.objs.size<=a)(new:HM X.prog X.w (Gi H a o) h' a o) :
  Inv X Fo σ (Gi H a o) { s with heap:=h',toks:=t' }:=I.un (Un.laid k hp (I.hok.fresh hp)) (I.hok.laid k hp new)
theorem Inv.write{x e:Addr}{o:HO}{t':Nat}(I:Inv X Fo σ H s)(mu:Sk (H x))(he:e=x∨H e=some (.own x))(k:∀b u,b≠e->s.heap.get? b=some u->h'.get? b=some u)(heo:∃u,h'.get? e=some u)
  (new:HM X.prog X.w (Gi H x o) h' x o):Inv X Fo σ (Gi H x o) { s with heap:=h',toks:=t' }:=I.un (Un.write mu he k heo) (I.hok.write mu he k heo new)
theorem Inv.pins_of{pins':List (Addr×Obj)}(I:Inv X Fo σ H s)(h:∀p∈pins',s.heap.get? p.1=some p.2/\H p.1=none/\p.1≠X.env.locals/\p.1∉X.fs/\∀v,p.2.data≠.cell v):Inv X pins' σ H s :=
 ⟨I.ok,I.os,I.bare,I.base,I.loc,I.cell,I.free,I.freeC,λp hp=>(Aq.mp hp).elim (λz=>I.pin p (A6 _ z)) (h p),I.hok,I.len⟩
theorem ZO{N:List Str}(hN:N.Nodup){i j:Nat}{x:Str}(a:N[i]?=some x)(b:N[j]?=some x):i=j:=by
 obtain⟨h1,e1⟩:=Ab.mp a
 obtain⟨h2,e2⟩:=Ab.mp b
 exact(List.getElem_inj hN).mp (e1.trans e2.symm)
theorem Sa{M:Model}{A:Around}{E:Value->Shared->Prop}{i:Nat}{x:Str}{v:V}{u:Value}{Q:Unit->Shared->Prop}(I:Inv X Fo σ H s)(hN:X.N.Nodup)(hi:X.N[i]?=some x)(hx:Loc X.env.scope x)(r:Gx v u)
  (h:∀s',Inv X Fo (σ.set i (some v)) H s'->(∃a,Heap.SameBut a s.heap s'.heap/\(a=X.env.locals∨X.env.cells.lookup x=some a))->Q () s') (hf:X.fn x=true∨X.env.scope.names.lookup x=some .local:=by first|exact .inl rfl|exact .inr rfl|assumption):wpAny M A (storeName X.env x u) Q E s:=by
 obtain⟨m,hn,hl⟩:=id I.loc
 have hcls:(X.env.scope.kind==.class||(X.env.scope.kind==.module&&X.env.locals != X.env.globals))=false:=by rw[I.ok.kind];rfl
 have hiσ:i<σ.length:=by rw[I.len];exact(Ab.mp hi).1
 have cne:=I.cne
 have tracked:∀{a:Addr}{h':Heap},(∃o,s.heap.get? a=some o/\H a=none)->Heap.SameBut a s.heap h'->IN X.prog X.w H h':=λ{a h'} ha hs b ob e=>by
  obtain⟨_,_,hfree⟩:=ha
  refine(I.hok b ob e).stay (λc w' hc q=>(hs.2 c ?_).trans q) (λ_ q=>q) λ_ _ q=>q
  rintro rfl
  rcases hc with rfl|hc
  ·rw[hfree]at e;cases e
  ·rw[hfree]at hc;cases hc
 rcases hx with hk|hk
 ·refine wpAny_storeName_local hk hn (λh' hn' hs=>?_) hcls
  obtain⟨oL,_,_,hoL,_⟩:=id hn
  refine h _ ⟨I.ok,I.os,I.bare,⟨λb o e n hb hx=>?_,λb o e n hb hx=>?_,I.base.free,λb o e hx=>?_,I.base.tups,I.base.frzs,I.base.tbls⟩,⟨_,hn',λj y v' e1 e2 e3=>?_⟩,λy c e=>?_,I.free,I.freeC,λp hp=>?_,tracked ⟨oL,hoL,I.free⟩ hs,by simpa using I.len⟩ ⟨_,hs,.inl rfl⟩
  ·exact(hs.2 b (As (Ao (AR e) I.ok.above))).trans (I.base.keep b o e n hb hx)
  ·obtain⟨sl,e1⟩:=I.base.slot b o e n hb hx
   exact⟨sl,(hs.2 b (As (Ao (AR e) I.ok.above))).trans e1⟩
  ·obtain⟨o',e1⟩:=I.base.there b o e hx
   exact⟨o',(hs.2 b (As (Ao (AR e) I.ok.above))).trans e1⟩
  ·by_cases hj:j=i
   ·subst hj
    rw[hi]at e1;cases e1
    rw[DQ hiσ]at e2
    cases e2
    exact⟨u,r,.inl ⟨hk,by simp⟩⟩
   ·rw[EJ (Bl hj)]at e2
    obtain⟨u',r',q⟩:=hl j y v' e1 e2 e3
    refine⟨u',r',?_⟩
    rcases q with⟨k,e⟩|⟨k,c,e,z⟩
    ·refine .inl ⟨k,?_⟩
     have:y≠x:=λe=>hj (ZO hN e1 (e▸hi))
     simp [this,e]
    ·exact .inr ⟨k,c,e,z.sameBut hs (cne y c e)⟩
  ·obtain⟨w',z⟩:=I.cell y c e
   exact⟨w',z.sameBut hs (cne y c e)⟩
  ·obtain⟨e,n,ne,nf,d⟩:=I.pin p hp
   exact⟨(hs.2 p.1 ne).trans e,n,ne,nf,d⟩
 ·have hfn:X.fn x=true:=by
   rcases hf with z|z
   ·exact z
   ·rw[z]at hk;cases hk
  obtain⟨c,hc⟩:=I.ok.has x (.inl hk)
  obtain⟨w',z⟩:=I.cell x c hc
  refine wpAny_storeName_cell I.ok.kind hk hc z (λh' hc' hs=>?_)
  obtain⟨oc,hoc,hocd⟩:=id z
  refine h { s with heap:=h' } ⟨I.ok,I.os,I.bare,⟨λb o e n hb hx=>?_,λb o e n hb hx=>?_,I.base.free,λb o e hx=>?_,I.base.tups,I.base.frzs,I.base.tbls⟩,⟨m,hn.sameBut hs (Bl (cne x c hc)),λj y v' e1 e2 e3=>?_⟩,λy c' e=>?_,I.free,I.freeC,λp hp=>?_,tracked ⟨oc,hoc,I.freeC x c hc⟩ hs,by simpa using I.len⟩ ⟨c,hs,.inr hc⟩
  ·exact(hs.2 b (As (Ao (AR e) (I.ok.cab x c hfn hc)))).trans (I.base.keep b o e n hb hx)
  ·obtain⟨sl,e1⟩:=I.base.slot b o e n hb hx
   exact⟨sl,(hs.2 b (As (Ao (AR e) (I.ok.cab x c hfn hc)))).trans e1⟩
  ·obtain⟨o',e1⟩:=I.base.there b o e hx
   exact⟨o',(hs.2 b (As (Ao (AR e) (I.ok.cab x c hfn hc)))).trans e1⟩
  ·by_cases hj:j=i
   ·subst hj
    rw[hi]at e1;cases e1
    rw[DQ hiσ]at e2
    cases e2
    exact⟨u,r,.inr ⟨.inl hk,c,hc,hc'⟩⟩
   ·rw[EJ (Bl hj)]at e2
    obtain⟨u',r',q⟩:=hl j y v' e1 e2 e3
    refine⟨u',r',?_⟩
    rcases q with q|⟨k,c',e,z'⟩
    ·exact .inl q
    ·refine .inr ⟨k,c',e,z'.sameBut hs ?_⟩
     rintro rfl
     exact hj (ZO hN e1 (I.ok.inj _ _ _ e hc▸hi))
  ·by_cases hcc:c'=c
   ·subst hcc;exact⟨_,hc'⟩
   ·obtain⟨w2,z2⟩:=I.cell y c' e
    exact⟨w2,z2.sameBut hs hcc⟩
  ·obtain⟨e,n,ne,nf,d⟩:=I.pin p hp
   refine⟨(hs.2 p.1 ?_).trans e,n,ne,nf,d⟩
   intro q
   rw[q,hoc]at e
   have q':oc=p.2:=Al e
   exact d w' (by rw[<-q'];exact hocd)
theorem Vt{M:Model}{A:Around}{E:Value->Shared->Prop}{i:Nat}{x:Str}{v:V}{u:Value}{Q:Unit->Shared->Prop}(I:Inv X Fo σ H s)(hN:X.N.Nodup)(hi:X.N[i]?=some x)(hx:Loc X.env.scope x)(r:Gx v u)
  (h:∀s',Inv X Fo (σ.set i (some v)) H s'->Q () s') (hf:X.fn x=true∨X.env.scope.names.lookup x=some .local:=by first|exact .inl rfl|exact .inr rfl|assumption):wpAny M A (storeName X.env x u) Q E s :=
 Sa I hN hi hx r (λs' I' _=>h s' I') hf
theorem Inv.call'{s':Shared}{ch:List Addr}(I:Inv X Fo σ H s)(ho:s'.os=s.os)(u:Un (IQ X.stack) ch H H' s.heap s'.heap)(hok:IN X.prog X.w H' s'.heap)(hg:AllBare s'.gens)
  (hch:∀b∈ch,(b∈X.ex∨X.s₀.heap.objs.size<=b)/\b≠X.env.locals/\(∀x c,X.env.cells.lookup x=some c->c≠b)/\∀p∈X.pn++Fo,p.1≠b):Inv X Fo σ H' s':=by
 obtain⟨h',g',d',t',o'⟩:=s'
 have e:o'=s.os:=ho
 subst e
 exact I.call (g':=g') (t':=t') (d':=d') u hok hg hch
end
abbrev XK:=Value->Option Addr->Hp->Prop
abbrev St:=List (Option V)
abbrev VK:=V->Hp->Prop
abbrev TE:=St->Hp->VK->Prop
abbrev TT:=St->Hp->(Bool->Hp->Prop)->Prop
abbrev TA:=St->Hp->(List V->Hp->Prop)->Prop
structure Iq where
 nx:St->Hp->Prop
 rt:VK
 bk:St->Hp->Prop:=λ_ _=>False
 ct:St->Hp->Prop:=λ_ _=>False
abbrev TS:=Iq->St->Hp->Prop
def EP(X:Cx)(Fo:List (Addr×Obj))(σ:St)(Q:VK)(u:Value)(s':Shared):Prop:=∃v H',Inv X Fo σ H' s'/\Gx v u/\Q v H'
def TP(X:Cx)(Fo:List (Addr×Obj))(σ:St)(Q:Bool->Hp->Prop)(b:Bool)(s':Shared):Prop:=∃H',Inv X Fo σ H' s'/\Q b H'
def AP(X:Cx)(Fo:List (Addr×Obj))(σ:St)(Q:List V->Hp->Prop)(us:List Value)(s':Shared):Prop:=∃vs H',Inv X Fo σ H' s'/\Gy vs us/\Q vs H'
def SP(X:Cx)(Fo:List (Addr×Obj))(D:Iq)(f:Flow)(s':Shared):Prop :=
 match f with
 |.next=>∃σ' H',Inv X Fo σ' H' s'/\D.nx σ' H'
 |.brk=>∃σ' H',Inv X Fo σ' H' s'/\D.bk σ' H'
 |.cont=>∃σ' H',Inv X Fo σ' H' s'/\D.ct σ' H'
 |.ret u=>∃v σ' H',Inv X Fo σ' H' s'/\Gx v u/\D.rt v H'
def PE(X:Cx)(e:Expr)(t:TE):Prop :=
 ∀(Fo:List (Addr×Obj))(s:Shared)(σ:St)(H:Hp)(Q:VK),Inv X Fo σ H s->t σ H Q->wpAny (model X.prog X.w) X.A (eval e X.env) (EP X Fo σ Q) X.xe s
def PT(X:Cx)(e:Expr)(t:TT):Prop :=
 ∀(Fo:List (Addr×Obj))(s:Shared)(σ:St)(H:Hp)(Q:Bool->Hp->Prop),Inv X Fo σ H s->t σ H Q->wpAny (model X.prog X.w) X.A (isTrue e X.env (eval e X.env)) (TP X Fo σ Q) X.xe s
def PW(X:Cx)(e:Expr)(t:TT):Prop :=
 ∀(whole:Sem Value)(Fo:List (Addr×Obj))(s:Shared)(σ:St)(H:Hp)(Q:Bool->Hp->Prop),Inv X Fo σ H s->t σ H Q->wpAny (model X.prog X.w) X.A (isTrue e X.env whole) (TP X Fo σ Q) X.xe s
theorem PW.pt{X:Cx}{e:Expr}{t:TT}(h:PW X e t):PT X e t:=h _
def PA(X:Cx)(es:List Expr)(t:TA):Prop :=
 ∀(pos:Pos)(Fo:List (Addr×Obj))(s:Shared)(σ:St)(H:Hp)(Q:List V->Hp->Prop),Inv X Fo σ H s->t σ H Q->wpAny (model X.prog X.w) X.A (spliced (backTo pos (starEach es X.env))) (AP X Fo σ Q) X.xe s
def PS(X:Cx)(st:Stmt)(t:TS):Prop :=
 ∀(Fo:List (Addr×Obj))(s:Shared)(σ:St)(H:Hp)(D:Iq),Inv X Fo σ H s->t D σ H->wpAny (model X.prog X.w) X.A (exec st X.env) (SP X Fo D) X.xe s
def Ii(X:Cx)(st:List Stmt)(t:TS):Prop :=
 ∀(Fo:List (Addr×Obj))(s:Shared)(σ:St)(H:Hp)(D:Iq),Inv X Fo σ H s->t D σ H->wpAny (model X.prog X.w) X.A (execs st X.env) (SP X Fo D) X.xe s
theorem HY{α:Type}{t:Sem α}{Q Q':α->Shared->Prop}{M:Model}{A:Around}{E:Value->Shared->Prop}{s:Shared}(h:wpAny M A t Q E s)(hQ:∀a s,Q a s->Q' a s):wpAny M A t Q' E s:=BL h hQ λ_ _ x=>x
section
variable{X:Cx}
theorem bin{a b:Expr}{ta tb:TE}(ha:PE X a ta)(hb:PE X b tb){Fo:List (Addr×Obj)}{s:Shared}{σ:St}{H:Hp}{R:V->V->Hp->Prop}(I:Inv X Fo σ H s)(h:ta σ H λx H1=>tb σ H1 λy H2=>R x y H2)
  {α:Type} {Q:α->Shared->Prop} {f:Value->Value->Sem α}
  (hf:∀v u s2 x y H2,Inv X Fo σ H2 s2->Gx x v->Gx y u->R x y H2->wpAny (model X.prog X.w) X.A (f v u) Q X.xe s2) :
  wpAny (model X.prog X.w) X.A (eval a X.env) (λv s₁=>wpAny (model X.prog X.w) X.A (eval b X.env) (λu s₂=>wpAny (model X.prog X.w) X.A (f v u) Q X.xe s₂) X.xe s₁) X.xe s:=by
 refine HY (ha Fo s σ H _ I h) λv s1 ⟨x,H1,I1,r1,q1⟩=>?_
 refine HY (hb Fo s1 σ H1 _ I1 q1) λu s2 ⟨y,H2,I2,r2,q2⟩=>?_
 exact hf v u s2 x y H2 I2 r1 r2 q2
def MF(i:Nat):TE:=λσ H Q=>∃v,σ[i]?=some (some v)/\Q v H
def tC(v:V):TE:=λ_ H Q=>Q v H
theorem Vm{i:Nat}{x:Str}{pos:Pos}(hN:X.N[i]?=some x)(hv:Vo X.env.scope x)(hd:(x==("__debug__" : Str))=false:=by decide)(hcd:(x==("__classdict__" : Str))=false:=by decide):PE X (.Name x pos) (MF i):=by
 intro Fo s σ H Q I h
 obtain⟨v,e,h⟩:=h
 obtain⟨m,hn,hl⟩:=I.loc
 obtain⟨u,r,l⟩:=hl i x v hN e hv
 have fin:EP X Fo σ Q u s:=⟨v,H,I,r,h⟩
 rcases l with⟨hk,hm⟩|⟨hk,c,hc,hcell⟩
 ·exact wpAny_Name (wpAny_loadName_local I.ok.kind hk hn hm fin) hd
 ·rcases hk with hk|hk
  ·exact wpAny_Name (wpAny_loadName_cell I.ok.kind hk hc hcell fin) hd
  ·exact wpAny_Name (wpAny_loadName_free I.ok.kind hk hc hcell fin hcd) hd
theorem HR{i j pos}:PE X (.Constant (.int i) j pos) (tC (.int i)):=λ_ _ _ H _ I h=>wpAny_Constant_int ⟨.int i,H,I.tok _,⟨_,rfl⟩,h⟩
theorem O6{b j pos}:PE X (.Constant (.bool b) j pos) (tC (.bl b)):=λ_ _ _ H _ I h=>Constant_bool ⟨.bl b,H,I,rfl,h⟩
theorem Nj{j pos}:PE X (.Constant .none j pos) (tC .non):=λ_ _ _ H _ I h=>Constant_none ⟨.non,H,I,rfl,h⟩
theorem Km{x j pos}:PE X (.Constant (.str x) j pos) (tC (.str x)):=λ_ _ _ H _ I h=>Calls.Constant_str ⟨.str x,H,I.tok _,⟨_,rfl⟩,h⟩
def Gl(X:Cx)(x:Str):Prop:=X.env.kindOf x=some .globalImplicit
theorem NA{E:Value->Shared->Prop}{Fo:List (Addr×Obj)}{s:Shared}{σ:St}{H:Hp}{x:Str}{u:Value}{pos:Pos}{Q:Value->Shared->Prop}(I:Inv X Fo σ H s)(hg:Gl X x)(hm:X.mg x=some u)(h:Q u s)
  (hd:(x==("__debug__" : Str))=false:=by decide):wpAny (model X.prog X.w) X.A (eval (.Name x pos) X.env) Q E s :=
 Es I.ok.kind hg (Calls.loadGlobal_global (by rw[I.ok.glob];exact I.mod.glob.keeps I.bk) hm h) hd
theorem Jj{E:Value->Shared->Prop}{Fo:List (Addr×Obj)}{s:Shared}{σ:St}{H:Hp}{x:Str}{u:Value}{pos:Pos}{Q:Value->Shared->Prop}(I:Inv X Fo σ H s)(hg:Gl X x)(hm:X.mg x=none)(hv:bootBuiltins x=some u)(h:Q u s)
  (hn:x ≠ "__name__" := by decide) (hd:(x==("__debug__" : Str))=false:=by decide):wpAny (model X.prog X.w) X.A (eval (.Name x pos) X.env) Q E s:=by
 obtain⟨mb,h1,h2⟩:=I.mod.blt
 exact Es I.ok.kind hg (Calls.loadGlobal_builtin (by rw[I.ok.glob];exact I.mod.glob.keeps I.bk) hm (by rw[I.ok.blt];exact h1.keeps I.bk) ((h2 x hn).trans hv) h) hd
theorem J0{x:Str}{v:V}{u:Value}{pos:Pos}(hg:Gl X x)(hm:X.mg x=some u)(r:Gx v u)(hd:(x==("__debug__" : Str))=false:=by decide):PE X (.Name x pos) (tC v) :=
 λ_ _ _ H _ I h=>NA I hg hm ⟨v,H,I,r,h⟩ hd
theorem fE{x:Str}{v:V}{u:Value}{pos:Pos}(hg:Gl X x)(hm:X.mg x=none)(hv:bootBuiltins x=some u)(r:Gx v u)(hn:x ≠ "__name__" := by decide)(hd:(x==("__debug__" : Str))=false:=by decide):PE X (.Name x pos) (tC v) :=
 λ_ _ _ H _ I h=>Jj I hg hm hv ⟨v,H,I,r,h⟩ hn hd
variable{a b:Expr}{ta tb:TE}{pos:Pos}
def PC(X:Cx)(op:CmpOp)(a b:Expr)(t:TE):Prop :=
 ∀(Fo:List (Addr×Obj))(s:Shared)(σ:St)(H:Hp)(Q:VK),Inv X Fo σ H s->t σ H Q ->
  wpAny (model X.prog X.w) X.A (eval a X.env) (λv s₁=>wpAny (model X.prog X.w) X.A (eval b X.env) (λu s₂=>wpAny (model X.prog X.w) X.A (compareOp op v u) (EP X Fo σ Q) X.xe s₂) X.xe s₁) X.xe s
theorem WU(b:Expr){op:CmpOp}(h:op≠.In)(h2:op≠.NotIn):behindInMarks op b=false:=by
 have e1:(op==CmpOp.In)=false:=by cases op<;>first|rfl|exact absurd rfl h
 have e2:(op==CmpOp.NotIn)=false:=by cases op<;>first|rfl|exact absurd rfl h2
 cases b<;>simp [behindInMarks,e1,e2]
def tB(t:TE):TT:=λσ H Q=>t σ H λx H1=>∃c,x=.bl c/\Q c H1
theorem sI{op:CmpOp}{t:TE}(h:PC X op a b t)(h1:behindInMarks op b=false:=by first|exact WU _ (by decide) (by decide)|rfl):PT X (.Compare a [op] [b] pos) (tB t):=by
 intro Fo s σ H Q I hw
 refine GQ (HY (h Fo s σ H _ I hw) λv s1 h1=>HY h1 λu s2 h2=>HY h2 λc s3 ⟨x,H1,I1,r1,q1⟩=>?_) h1
 obtain⟨d,rfl,q⟩:=q1
 cases r1
 exact CK ⟨H1,I1,q⟩
theorem WC{e:Expr}{t:TE}(h:PE X e t)(he:∀whole,isTrue e X.env whole=(do let v <-whole;standAt e.pos;holding [v] (truthy v)):=by intro _;rfl):PT X e (tB t):=by
 intro Fo s σ H Q I hw
 refine isTrue_plain (HY (h Fo s σ H _ I hw) λv s1 ⟨x,H1,I1,r1,q1⟩=>?_) (he _)
 obtain⟨d,rfl,q⟩:=q1
 cases r1
 exact CK ⟨H1,I1,q⟩
variable{tA tB':TT}{HU:List Expr}
def sL(t u:TT):TT:=λσ H Q=>t σ H λc H1=>if c=true then Q true H1 else u σ H1 Q
theorem S5(ha:PT X a tA):PW X (.BoolOp .Or [a] pos) tA:=by
 intro wh Fo s σ H Q I h
 refine isTrue_or (HY (ha Fo s σ H Q I h) λc s1 e=>?_)
 cases c with
 |false=>exact isTrue_or_nil e
 |true=>exact e
theorem UF(ha:PT X a tA)(hb:PW X (.BoolOp .Or (b::HU) pos) tB'):PW X (.BoolOp .Or (a::b::HU) pos) (sL tA tB'):=by
 intro wh Fo s σ H Q I h
 refine isTrue_or (HY (ha Fo s σ H _ I h) λc s1 ⟨H1,I1,q1⟩=>?_)
 cases c with
 |true=>exact⟨H1,I1,q1⟩
 |false=>exact hb wh Fo s1 σ H1 Q I1 q1
def sM(t:TT)(ta tb:TE):TE:=λσ H Q=>t σ H λc H1=>if c=true then ta σ H1 Q else tb σ H1 Q
theorem aL{c:Expr}(hc:PT X c tA)(ha:PE X a ta)(hb:PE X b tb):PE X (.IfExp c a b pos) (sM tA ta tb):=by
 intro Fo s σ H Q I h
 refine wpAny_IfExp (HY (hc Fo s σ H _ I h) λd s1 ⟨H1,I1,q1⟩=>?_)
 cases d with
 |true=>exact ha Fo s1 σ H1 Q I1 q1
 |false=>exact hb Fo s1 σ H1 Q I1 q1
end
def HK(K:W.Frag)(H:Hp)(a:Addr)(xs:List V):Prop :=
 Rd H a (.lst xs) ∨
  ∃(o:Obj)(its:Array Value)(n:Nat),K.lookup a=some o/\o.cls=.type "list" /\ o.dict=none/\o.data=.seq its n/\its.size<=sizeLine/\Gy xs its.toList
def HL(K:W.Frag)(H:Hp)(a:Addr)(xs:List V):Prop :=
 Rd H a (.tup xs) ∨
  ∃(o:Obj)(its:Array Value)(n:Nat),K.lookup a=some o/\o.cls=.type "tuple" /\ o.data=.seq its n/\its.size<=sizeLine/\Gy xs its.toList
def Y5:Value->Option V
 |.none=>some .non
 |.bool b=>some (.bl b)
 |.int i _=>some (.int i)
 |.str x _=>some (.str x)
 |.bytes b _=>some (.byt b)
 |.float b _=>some (.flt b)
 |.ref a=>some (.ref a)
 |.type n=>some (.ty n)
 |_=>none
theorem Gx.abs{x:V}{u:Value}(r:Gx x u):Y5 u=some x:=by
 cases x with
 |non=>cases r;rfl
 |bl _=>cases r;rfl
 |int _=>obtain⟨t,rfl⟩:=r;rfl
 |str _=>obtain⟨t,rfl⟩:=r;rfl
 |byt _=>obtain⟨t,rfl⟩:=r;rfl
 |flt _=>obtain⟨t,rfl⟩:=r;rfl
 |ref _=>cases r;rfl
 |ty _=>cases r;rfl
theorem Gx.inj{x y:V}{u:Value}(r:Gx x u)(q:Gx y u):x=y:=Al (r.abs.symm.trans q.abs)
theorem Gy.inj:∀{xs ys:List V}{us:List Value},Gy xs us->Gy ys us->xs=ys
 |_,_,_,.nil,.nil=>rfl
 |_,_,_,.cons r t,.cons r' t'=>by rw[r.inj r',Gy.inj t t']
section
variable{X:Cx}{Fo:List (Addr×Obj)}{σ:St}{H:Hp}{s:Shared}{a:Addr}{xs ys:List V}
theorem HK.of{K:W.Frag}(h:H a=some (.lst xs)):HK K H a xs:=.inl (.inl h)
theorem HL.of{K:W.Frag}(h:H a=some (.tup xs)):HL K H a xs:=.inl (.inl h)
theorem Inv.list(I:Inv X Fo σ H s)(h:HK X.K H a xs):∃its:List Value,Gy xs its/\PlainL s.heap a its.toArray/\xs.length<=sizeLine:=by
 rcases h with h|⟨o,its,n,hk,hc,hd,hs,hz,r⟩
 ·obtain⟨z,its,n,r,e⟩:=h.ok I.hok
  exact⟨its,r,⟨_,n,e,rfl,rfl,rfl⟩,z⟩
 ·refine⟨its.toList,r,⟨o,n,I.kIn a o hk,hc,hd,by simpa using hs⟩,?_⟩
  have e:=r.length
  simp only[AT]at e
  lia
theorem Inv.tuple(I:Inv X Fo σ H s)(h:HL X.K H a xs):∃its:List Value,Gy xs its/\IsTup s.heap a its.toArray/\xs.length<=sizeLine:=by
 rcases h with h|⟨o,its,n,hk,hc,hs,hz,r⟩
 ·obtain⟨z,its,r,p⟩:=h.ok I.hok
  exact⟨its,r,p.tup,z⟩
 ·refine⟨its.toList,r,⟨o,I.kIn a o hk,hc,n,by simpa using hs⟩,?_⟩
  have e:=r.length
  simp only[AT]at e
  lia
theorem Inv.list_inj(I:Inv X Fo σ H s)(h:HK X.K H a xs)(h':HK X.K H a ys):xs=ys:=by
 obtain⟨its,r,⟨o,n,e,_,_,d⟩,_⟩:=I.list h
 obtain⟨its',r',⟨o',n',e',_,_,d'⟩,_⟩:=I.list h'
 rw[e]at e';cases e'
 rw[d]at d'
 injection d' with d1 _
 have:its=its':=by simpa using congrArg Array.toList d1
 subst this
 exact r.inj r'
theorem Inv.tuple_inj(I:Inv X Fo σ H s)(h:HL X.K H a xs)(h':HL X.K H a ys):xs=ys:=by
 obtain⟨its,r,⟨o,e,_,n,d⟩,_⟩:=I.tuple h
 obtain⟨its',r',⟨o',e',_,n',d'⟩,_⟩:=I.tuple h'
 rw[e]at e';cases e'
 rw[d]at d'
 injection d' with d1 _
 have:its=its':=by simpa using congrArg Array.toList d1
 subst this
 exact r.inj r'
end
abbrev Cx.wish(X:Cx)(E:Value->Shared->Prop):Cx:={ X with xe:=E }
abbrev Cx.nox(X:Cx):Cx:=X.wish λ_ _=>False
theorem Cx.Ok.wish{X:Cx}(ok:X.Ok)(E:Value->Shared->Prop):(X.wish E).Ok :=
 ⟨ok.mod,ok.kind,ok.glob,ok.blt,ok.above,ok.inj,ok.has,ok.cab,ok.hd,ok.frames,ok.stk,ok.exf,ok.bs,ok.bsz,ok.noex,ok.exfs,ok.funs,ok.frf⟩
theorem Cx.Ok.unwish{X:Cx}{E:Value->Shared->Prop}(ok:(X.wish E).Ok):X.Ok :=
 ⟨ok.mod,ok.kind,ok.glob,ok.blt,ok.above,ok.inj,ok.has,ok.cab,ok.hd,ok.frames,ok.stk,ok.exf,ok.bs,ok.bsz,ok.noex,ok.exfs,ok.funs,ok.frf⟩
section
variable{X:Cx}{Fo:List (Addr×Obj)}{σ:St}{H:Hp}{s:Shared}{E:Value->Shared->Prop}
theorem Inv.wish(I:Inv X Fo σ H s)(E:Value->Shared->Prop):Inv (X.wish E) Fo σ H s:=⟨I.ok.wish E,I.os,I.bare,I.base,I.loc,I.cell,I.free,I.freeC,I.pin,I.hok,I.len⟩
theorem Inv.unwish(I:Inv (X.wish E) Fo σ H s):Inv X Fo σ H s:=⟨I.ok.unwish,I.os,I.bare,I.base,I.loc,I.cell,I.free,I.freeC,I.pin,I.hok,I.len⟩
theorem SP.unwish{D:Iq}{f:Flow}{s':Shared}(h:SP (X.wish E) Fo D f s'):SP X Fo D f s':=by
 cases f with
 |next=>obtain⟨σ',H',I,q⟩:=h;exact⟨σ',H',I.unwish,q⟩
 |brk=>obtain⟨σ',H',I,q⟩:=h;exact⟨σ',H',I.unwish,q⟩
 |cont=>obtain⟨σ',H',I,q⟩:=h;exact⟨σ',H',I.unwish,q⟩
 |ret u=>obtain⟨v,σ',H',I,r,q⟩:=h;exact⟨v,σ',H',I.unwish,r,q⟩
theorem Ii.nox{st:List Stmt}{t:TS}(h:Ii X.nox st t):Ii X st t:=λFo s σ H D I hw =>
 BL (h Fo s σ H D (I.wish _) hw) (λ_ _ q=>q.unwish) λ_ _ z=>False.elim z
end
section
variable{X:Cx}{st:Stmt}{HU:List Stmt}{t u:TS}{e:Expr}{te:TE}{pos:Pos}
def kR:TS:=λD σ H=>D.nx σ H
def MR(t u:TS):TS:=λD σ H=>t { D with nx:=u D } σ H
theorem Ip:Ii X [] kR:=λ_ _ σ H _ I h=>DN ⟨σ,H,I,h⟩
theorem HP(h1:PS X st t)(h2:Ii X HU u):Ii X (st::HU) (MR t u):=by
 intro Fo s σ H D I h
 refine wpAny_execs_cons (HY (h1 Fo s σ H { D with nx:=u D } I h) λf s1 q=>?_)
 cases f with
 |next =>
  obtain⟨σ',H',I',q⟩:=q
  exact h2 Fo s1 σ' H' D I' q
 |ret v=>exact q
 |brk=>exact q
 |cont=>exact q
theorem HN(h1:PS X st t):Ii X [st] t:=by
 intro Fo s σ H D I h
 refine wpAny_execs_cons (HY (h1 Fo s σ H D I h) λf s1 q=>?_)
 cases f with
 |next=>exact DN q
 |ret v=>exact q
 |brk=>exact q
 |cont=>exact q
theorem Inv.quiet{Fo:List (Addr×Obj)}{σ:St}{H:Hp}{s:Shared}(I:Inv X Fo σ H s):interactive X.env=false:=by simp [interactive,I.ok.kind]
def bW(te:TE):TS:=λD σ H=>te σ H λ_ H1=>D.nx σ H1
theorem IZ(he:PE X e te)(hs:swapsWith e none pos.line X.env=pure false:=by rfl):PS X (.Expr e pos) (bW te):=by
 intro Fo s σ H D I h
 exact wpAny_Expr_any (HY (he Fo s σ H _ I h) λv s1 ⟨x,H1,I1,r1,q1⟩=>⟨σ,H1,I1,q1⟩) I.quiet hs
def lF(te:TE):TS:=λD σ H=>te σ H D.rt
theorem Hs(he:PE X e te):PS X (.Return (some e) pos) (lF te):=by
 intro Fo s σ H D I h
 exact wpAny_Return_some (HY (he Fo s σ H _ I h) λv s1 ⟨x,H1,I1,r1,q1⟩=>⟨x,σ,H1,I1,r1,q1⟩)
def Zd(c:TT)(t u:TS):TS:=λD σ H=>c σ H λb H1=>if b=true then t D σ H1 else u D σ H1
theorem Ia{c:Expr}{a b:List Stmt}{tc:TT}(hc:PT X c tc)(ha:Ii X a t)(hb:Ii X b u):PS X (.If c a b pos) (Zd tc t u):=by
 intro Fo s σ H D I h
 refine wpAny_If (HY (hc Fo s σ H _ I h) λd s1 ⟨H1,I1,q1⟩=>?_)
 cases d with
 |true=>exact ha Fo s1 σ H1 D I1 q1
 |false=>exact hb Fo s1 σ H1 D I1 q1
def bD:TS:=λ_ _ _=>False
theorem P2:PS X st bD:=λ_ _ _ _ _ _ h=>h.elim
end
abbrev TG:=V->St->Hp->(St->Hp->Prop)->Prop
abbrev OX:=List V->St->Hp->(St->Hp->Prop)->Prop
def PG(X:Cx)(target:Expr)(t:TG):Prop :=
 ∀(Fo:List (Addr×Obj))(s:Shared)(σ:St)(H:Hp)(v:V)(u:Value)(Q:St->Hp->Prop),Inv X Fo σ H s->Gx v u->t v σ H Q ->
  wpAny (model X.prog X.w) X.A (assign target X.env u) (λ_ s'=>∃σ' H',Inv X Fo σ' H' s'/\Q σ' H') X.xe s
def Uw(X:Cx)(ts:List Expr)(t:OX):Prop :=
 ∀(Fo:List (Addr×Obj))(s:Shared)(σ:St)(H:Hp)(vs:List V)(us:List Value)(Q:St->Hp->Prop),Inv X Fo σ H s->Gy vs us->t vs σ H Q ->
  wpAny (model X.prog X.w) X.A (assignInOrder ((assignEach ts X.env).map (·.2)) us) (λ_ s'=>∃σ' H',Inv X Fo σ' H' s'/\Q σ' H') X.xe s
abbrev N7:=V->V->V->Hp->(Hp->Prop)->Prop
def TX(X:Cx)(t:N7):Prop :=
 ∀(Fo:List (Addr×Obj))(s:Shared)(σ:St)(H:Hp)(o i v:V)(ov iv u:Value)(Q:Hp->Prop),Inv X Fo σ H s->Gx o ov->Gx i iv->Gx v u->t o i v H Q ->
  wpAny (model X.prog X.w) X.A (setItem ov iv u) (λ_ s'=>∃H',Inv X Fo σ H' s'/\Q H') X.xe s
section
variable{X:Cx}{pos:Pos}
def JA(i:Nat):TG:=λv σ H Q=>Q (σ.set i (some v)) H
theorem Hb{i:Nat}{x:Str}(hN:X.N.Nodup)(hi:X.N[i]?=some x)(hx:Loc X.env.scope x)(hf:X.fn x=true∨X.env.scope.names.lookup x=some .local:=by first|exact .inl rfl|exact .inr rfl|assumption):PG X (.Name x pos) (JA i):=by
 intro Fo s σ H v u Q I r h
 exact wpAny_assign_Name (Vt I hN hi hx r (λs' I'=>⟨_,H,I',h⟩) hf)
def WM:OX:=λvs σ H Q=>vs=[]/\Q σ H
def dM(t:TG)(u:OX):OX:=λvs σ H Q=>∃v r,vs=v::r/\t v σ H λσ' H'=>u r σ' H' Q
theorem JZ:Uw X [] WM:=by
 intro Fo s σ H vs us Q I r h
 obtain⟨e,h⟩:=h
 subst e
 cases r
 exact assignInOrder_nil ⟨σ,H,I,h⟩
theorem IE{e:Expr}{es:List Expr}{t:TG}{u:OX}(h1:PG X e t)(h2:Uw X es u)
  (hs:(assignEach (e::es) X.env).map (·.2)=assign e X.env::(assignEach es X.env).map (·.2):=by rfl):Uw X (e::es) (dM t u):=by
 intro Fo s σ H vs us Q I r h
 obtain⟨v,vr,e1,h⟩:=h
 subst e1
 cases r with
 |cons r rr =>
  rw[hs]
  refine assignInOrder_cons (HY (h1 Fo s σ H _ _ _ I r h) λ_ s1 ⟨σ1,H1,I1,q1⟩=>?_)
  exact h2 Fo s1 σ1 H1 _ _ Q I1 rr q1
def Zk(K:W.Frag)(n:Nat)(t:OX):TG:=λv σ H Q=>∃a xs,v=.ref a/\HL K H a xs/\xs.length=n/\t xs σ H Q
theorem JX{es:List Expr}{k:Nat}{t:OX}{n:Nat}(hc:X.calm=true)(h:Uw X es t)
  (hn:(assignEach es X.env).length=n:=by rfl) (hst:(assignEach es X.env).findIdx? (·.1)=none:=by rfl):PG X (.Tuple es k pos) (Zk X.K n t):=by
 intro Fo s σ H v u Q I r hw
 obtain⟨a,xs,e1,hq,hl,hw⟩:=hw
 subst e1
 cases r
 obtain⟨its,rv,ht,hz⟩:=I.tuple hq
 refine assign_Tuple_tuple (I.ok.hd hc) ht (by simp [hn,<-hl,rv.length]) hst λh' hx=>?_
 have I1:Inv X Fo σ H { s with heap:=h' }:=I.kept (t':=s.toks) λb o e=>hx b o (As (AR e)) e
 exact h Fo _ σ H xs _ Q I1 (by simpa using rv) hw
def Yh(to ti:TE)(t:N7):TG:=λv σ H Q=>to σ H λo H1=>ti σ H1 λi H2=>t o i v H2 λH3=>Q σ H3
theorem SV{o i:Expr}{to ti:TE}{t:N7}(ho:PE X o to)(hi:PE X i ti)(hs:TX X t)
  (ha:∀v,assign (.Subscript o i pos) X.env v=(do
   let ov <-holding [v] (eval o X.env)
   let iv <-holding [v,ov] (eval i X.env)
   standAt pos
   holding [v,ov,iv] (setItem ov iv v)
   release [v,ov,iv] []):=by intro _;rfl):PG X (.Subscript o i pos) (Yh to ti t):=by
 intro Fo s σ H v u Q I r h
 rw[ha]
 refine AA (By (HY (ho Fo s σ H _ I h) λov s1 ⟨x,H1,I1,r1,q1⟩=>?_))
 refine AA (By (HY (hi Fo s1 σ H1 _ I1 q1) λiv s2 ⟨y,H2,I2,r2,q2⟩=>?_))
 refine AA (DM (AA (By (HY (hs Fo s2 σ H2 x y v ov iv u _ I2 r1 r2 r q2) λ_ s3 ⟨H3,I3,q3⟩=>?_))))
 exact wpAny_release ⟨σ,H3,I3,q3⟩
def O7(te:TE)(g:TG):TS:=λD σ H=>te σ H λx H1=>g x σ H1 D.nx
theorem UG{tg e:Expr}{te:TE}{g:TG}(he:PE X e te)(hg:PG X tg g)(hs:swapsWithSole [tg] e pos.line X.env=pure false:=by rfl)(hw:swappedStores [tg] e X.env=pure none:=by rfl)
  (h1:(assignEach [tg] X.env).map (·.2)=[assign tg X.env]:=by rfl):PS X (.Assign [tg] e pos) (O7 te g):=by
 intro Fo s σ H D I h
 refine wpAny_Assign_stores (HY (he Fo s σ H _ I h) λv s1 ⟨x,H1,I1,r1,q1⟩=>?_) hs hw
 rw[h1]
 exact HY (hg Fo s1 σ H1 x v _ I1 r1 q1) λ_ s2 q=>q
theorem Hi{i:Nat}{x:Str}{e:Expr}{te:TE}{pos':Pos}(hN:X.N.Nodup)(hi:X.N[i]?=some x)(hx:Loc X.env.scope x)(he:PE X e te)(hs:swapsWith e (some (.Name x pos')) pos.line X.env=pure false:=by rfl)(hf:X.fn x=true∨X.env.scope.names.lookup x=some .local:=by first|exact .inl rfl|exact .inr rfl|assumption) :
  PS X (.Assign [.Name x pos'] e pos) (O7 te (JA i)):=by
 intro Fo s σ H D I h
 refine wpAny_Assign_Name (HY (he Fo s σ H _ I h) λv s1 ⟨y,H1,I1,r1,q1⟩=>?_) hs
 exact Vt I1 hN hi hx r1 (λs2 I2=>⟨_,H1,I2,q1⟩) hf
end
section
variable{X:Cx}{pos:Pos}
def kP(c:TT)(tb:TS):TS:=λD σ H=>∃W:Nat->St->Hp->Prop,(∃m,W m σ H)/\∀m σ H,W m σ H ->
 c σ H λb H1=>if b=true then ∃N:St->Hp->Prop,(∀σ' H',N σ' H'->∃m',m'<m/\W m' σ' H')/\tb { D with nx:=N,ct:=N,bk:=D.nx } σ H1 else D.nx σ H1
theorem WW{c:Expr}{body:List Stmt}{tc:TT}{tb:TS}(hp:PassesOwn (model X.prog X.w) X.A X.env X.xe)(hc:PT X c tc)(hb:Ii X body tb):PS X (.While c body [] pos) (kP tc tb):=by
 intro Fo s σ H D I h
 obtain⟨W,⟨m0,w0⟩,turn⟩:=h
 refine wpAny_While (codeAny_whileLoop (λn s'=>∃σ' H',Inv X Fo σ' H' s'/\W n σ' H') ?_ m0 ⟨σ,H,I,w0⟩)
 rintro n s1 ⟨σ1,H1,I1,w1⟩
 refine C5 hp (HY (hc Fo s1 σ1 H1 _ I1 (turn n σ1 H1 w1)) λb s2 ⟨H2,I2,q2⟩=>?_)
 cases b with
 |true =>
  obtain⟨N,hN,q2⟩:=q2
  rw[AH rfl]
  refine C5 hp (HY (hb Fo s2 σ1 H2 _ I2 q2) λf s3 q3=>?_)
  cases f with
  |next =>
   obtain⟨σ3,H3,I3,n3⟩:=q3
   obtain⟨m',hm,w3⟩:=hN σ3 H3 n3
   exact⟨m',hm,σ3,H3,I3,w3⟩
  |cont =>
   obtain⟨σ3,H3,I3,n3⟩:=q3
   obtain⟨m',hm,w3⟩:=hN σ3 H3 n3
   exact⟨m',hm,σ3,H3,I3,w3⟩
  |brk=>exact q3
  |ret v=>exact q3
 |false =>
  rw[AE AY]
  exact DN ⟨σ1,H2,I2,q2⟩
end
structure It where
 go:Nat->Hp->Prop
 yld:Nat->Hp->V->Hp->Prop
 stop:Nat->Hp->Prop
def KY(X:Cx)(Fo:List (Addr×Obj))(H:Hp)(b:Addr):Prop :=
 H b=none/\b≠X.env.locals/\b∉X.fs/\(b∈X.ex∨X.s₀.heap.objs.size<=b)/\(∀x c,X.env.cells.lookup x=some c->c≠b)/\∀p∈X.pn++Fo,p.1≠b
theorem Inv.fpOk{X:Cx}{Fo:List (Addr×Obj)}{σ:St}{H H':Hp}{s:Shared}{b:Addr}(I:Inv X Fo σ H s)(hb:s.heap.objs.size<=b)(hn:H' b=none):KY X Fo H' b:=by
 refine⟨hn,CG (Ao I.lt hb),I.nofs hb,.inr (BE I.sz hb),λx c e z=>?_,λp hp z=>?_⟩
 ·obtain⟨v,q⟩:=I.cell x c e
  exact absurd (Ao q.lt (by rw[z];exact hb)) (B7 _)
 ·exact absurd (Ao (AR (I.pin p hp).1) (by rw[z];exact hb)) (B7 _)
structure Js(P:Program)(w:World)(K:W.Frag)(tg:Expr)(J:It)(fp:List Addr)(it:Addr)(tn:Nat->Heap->Prop):Prop where
 mem:it∈fp
 obj:∀i h,tn i h->∀b∈fp,∃o,h.get? b=some o/\∀v,o.data≠.cell v
 keep:∀i h h',tn i h->(∀b∈fp,∀o,h.get? b=some o->h'.get? b=some o)->tn i h'
 item:∀(X:Cx),X.prog=P->X.w=w->X.K=K->X.calm=true->∀(i:Nat)(Fo:List (Addr×Obj))(s:Shared)(σ:St)(H:Hp)(E:Value->Shared->Prop),Inv X Fo σ H s->(∀b∈fp,KY X Fo H b)->tn i s.heap->J.go i H ->
  wpAny (model P w) X.A (pyNext (.ref it)) (λr s1=>∃u,r=some u /\
   wpAny (model P w) X.A (letOwnedTupleGo tg (.ref it) u) (λ_ s2=>∃x H',Inv X Fo σ H' s2/\Gx x u/\J.yld i H x H'/\tn (i+1) s2.heap/\∀b∈fp,H' b=none) E s1) E s
 done:∀(X:Cx),X.prog=P->X.w=w->X.K=K->X.calm=true->∀(i:Nat)(Fo:List (Addr×Obj))(s:Shared)(σ:St)(H:Hp)(E:Value->Shared->Prop),Inv X Fo σ H s->(∀b∈fp,KY X Fo H b)->tn i s.heap->J.stop i H ->
  wpAny (model P w) X.A (pyNext (.ref it)) (λr s1=>r=none/\Inv X Fo σ H s1) E s
 self:∀(A:Around)(i:Nat)(s:Shared)(Q:Value->Shared->Prop)(E:Value->Shared->Prop),tn i s.heap->Q (.ref it) s->wpAny (model P w) A (pyIter (.ref it)) Q E s
abbrev TI:=St->Hp->(It->Hp->Prop)->Prop
def Zy(X:Cx)(Fo:List (Addr×Obj))(σ:St)(tg:Expr)(R:It->Hp->Prop)(itv:Value)(s2:Shared):Prop :=
 ∃(it:Addr)(fp:List Addr)(tn:Nat->Heap->Prop)(J:It)(H':Hp),itv=.ref it/\Inv X Fo σ H' s2/\Js X.prog X.w X.K tg J fp it tn/\tn 0 s2.heap/\(∀b∈fp,KY X Fo H' b)/\R J H'
def PI(X:Cx)(tg iter:Expr)(wi:TI):Prop :=
 ∀(Fo:List (Addr×Obj))(s:Shared)(σ:St)(H:Hp)(R:It->Hp->Prop),Inv X Fo σ H s->wi σ H R ->
  wpAny (model X.prog X.w) X.A (eval iter X.env) (λv s1=>wpAny (model X.prog X.w) X.A (pyIter v) (Zy X Fo σ tg R) X.xe s1) X.xe s
theorem Tk{M:Model}{A:Around}{E:Value->Shared->Prop}{s:Shared}{tg:Expr}{it:Addr}{u:Value}{o:Obj}{n:String}{vs:Array Value}{Q:Unit->Shared->Prop}(ho:s.heap.get? it=some o)(hc:o.cls=.type n)(hd:o.data=.fields vs)
  (hn:["enumerate", "zip", "dict_itemiterator", "dict_reverseitemiterator", "odict_iterator", "itertools.zip_longest", "itertools.pairwise"].contains n=false) (hQ:Q () s):wpAny M A (letOwnedTupleGo tg (.ref it) u) Q E s:=by
 unfold letOwnedTupleGo
 cases tg<;>first
  |exact AD hQ
  | (cases u<;>first
    |exact AD hQ
    | (refine AA (wpAny_load ho ?_)
       rw[hc,hd]
       show wpAny M A (if (["enumerate", "zip", "dict_itemiterator", "dict_reverseitemiterator", "odict_iterator", "itertools.zip_longest", "itertools.pairwise"].contains n&&vs[0]?==some (rawInt _))=true then _ else _) Q E s
       rw[AE (by intro h;rw[hn,Bool.false_and]at h;cases h)]
       exact AD hQ))
def NK(K:W.Frag)(a:Addr):It :=
 ⟨λi H=>∃xs x,HK K H a xs/\xs[i]?=some x,λi H x H'=>H'=H/\∀xs,HK K H a xs->xs[i]?=some x,λi H=>∃xs,HK K H a xs/\xs.length<=i⟩
def La(K:W.Frag)(a:Addr):It :=
 ⟨λi H=>∃xs x,HL K H a xs/\xs[i]?=some x,λi H x H'=>H'=H/\∀xs,HL K H a xs->xs[i]?=some x,λi H=>∃xs,HL K H a xs/\xs.length<=i⟩
def Lq(lo:Int)(n:Nat):It:=⟨λi _=>i<n,λi H x H'=>H'=H/\x=.int (lo+i),λi _=>n<=i⟩
theorem Z7{P:Program}{w:World}{K:W.Frag}{tg:Expr}(a it:Addr):Js P w K tg (NK K a) [it] it (λi h=>h.IsListIter it a i) where
 mem:=by simp
 obj:=λi h st b hb=>by
  have e:b=it:=by simpa using hb
  subst e
  obtain⟨o,e,c,d⟩:=st
  exact⟨o,e,λv z=>by rw[d]at z;cases z⟩
 keep:=λi h h' st k=>st.at λo e=>k it (by simp) o e
 item:=by
  intro X hP hw hK hc i Fo s σ H E I hf st hg
  subst hP hw hK
  obtain⟨xs,x,hq,hx⟩:=hg
  obtain⟨its,rv,p,hz⟩:=I.list hq
  obtain⟨u,hu,ru⟩:=rv.get hx
  obtain⟨f0,f1,f2,f3,f4,f5⟩:=hf it (by simp)
  refine wpAny_pyNext_list_item st p.isList (x:=u) (by simpa using hu) λh' st' sb=>?_
  have I1:Inv X Fo σ H { s with heap:=h' }:=I.turned (t':=s.toks) (λb o hb e=>(sb.2 b hb).trans e) f0 f1 f3 f4 f5
  obtain⟨o,e,c,d⟩:=id st'
  exact⟨u,rfl,Tk (s:={ s with heap:=h' }) e c d (by decide) ⟨x,H,I1,ru,⟨rfl,λys hy=>by rw[I.list_inj hy hq];exact hx⟩,st',λb hb=>(hf b hb).1⟩⟩
 done:=by
  intro X hP hw hK hc i Fo s σ H E I hf st hg
  subst hP hw hK
  obtain⟨xs,hq,hx⟩:=hg
  obtain⟨its,rv,p,hz⟩:=I.list hq
  obtain⟨f0,f1,f2,f3,f4,f5⟩:=hf it (by simp)
  have hl:=rv.length
  exact wpAny_pyNext_list_end (I.ok.hd hc) st p.isList (by simp;lia) λh' eb=>⟨rfl,I.turned (t':=s.toks) (λb o hb e=>eb b o hb e) f0 f1 f3 f4 f5⟩
 self:=λ_ _ _ _ _ st h=>wpAny_pyIter_listiter st h
theorem cT{P:Program}{w:World}{K:W.Frag}{tg:Expr}(a it:Addr):Js P w K tg (La K a) [it] it (λi h=>h.IsTupleIter it a i) where
 mem:=by simp
 obj:=λi h st b hb=>by
  have e:b=it:=by simpa using hb
  subst e
  obtain⟨o,e,c,d⟩:=st
  exact⟨o,e,λv z=>by rw[d]at z;cases z⟩
 keep:=λi h h' st k=>st.at λo e=>k it (by simp) o e
 item:=by
  intro X hP hw hK hc i Fo s σ H E I hf st hg
  subst hP hw hK
  obtain⟨xs,x,hq,hx⟩:=hg
  obtain⟨its,rv,p,hz⟩:=I.tuple hq
  obtain⟨u,hu,ru⟩:=rv.get hx
  obtain⟨f0,f1,f2,f3,f4,f5⟩:=hf it (by simp)
  refine wpAny_pyNext_tuple_item st (show s.heap.IsTuple a its.toArray from p) (x:=u) (by simpa using hu) λh' st' sb=>?_
  have I1:Inv X Fo σ H { s with heap:=h' }:=I.turned (t':=s.toks) (λb o hb e=>(sb.2 b hb).trans e) f0 f1 f3 f4 f5
  obtain⟨o,e,c,d⟩:=id st'
  exact⟨u,rfl,Tk (s:={ s with heap:=h' }) e c d (by decide) ⟨x,H,I1,ru,⟨rfl,λys hy=>by rw[I.tuple_inj hy hq];exact hx⟩,st',λb hb=>(hf b hb).1⟩⟩
 done:=by
  intro X hP hw hK hc i Fo s σ H E I hf st hg
  subst hP hw hK
  obtain⟨xs,hq,hx⟩:=hg
  obtain⟨its,rv,p,hz⟩:=I.tuple hq
  obtain⟨f0,f1,f2,f3,f4,f5⟩:=hf it (by simp)
  have hl:=rv.length
  exact wpAny_pyNext_tuple_end (I.ok.hd hc) st (show s.heap.IsTuple a its.toArray from p) (by simp;lia) λh' eb=>⟨rfl,I.turned (t':=s.toks) (λb o hb e=>eb b o hb e) f0 f1 f3 f4 f5⟩
 self:=λ_ _ _ _ _ st h=>wpAny_pyIter_tupleiter st h
theorem W3{P:Program}{w:World}{K:W.Frag}{tg:Expr}(it:Addr)(lo:Int)(n:Nat):Js P w K tg (Lq lo n) [it] it (λi h=>IsRangeIter h it (lo+(i:Nat)*1) ((n:Int)-(i:Nat)) 1) where
 mem:=by simp
 obj:=λi h st b hb=>by
  have e:b=it:=by simpa using hb
  subst e
  exact⟨_,st,λv z=>by
   have z':Data.fields _=Data.cell v:=z
   cases z'⟩
 keep:=λi h h' st k=>k it (by simp) _ st
 item:=by
  intro X hP hw hK hc i Fo s σ H E I hf st hg
  subst hP hw hK
  obtain⟨f0,f1,f2,f3,f4,f5⟩:=hf it (by simp)
  have W:=Walks.range (prog:=X.prog) (w:=X.w) (I.ok.hd hc) it lo 1 n
  refine W.item i s _ _ hg st λv h' tk hv st' kk=>?_
  obtain⟨t,rfl⟩:=hv
  have I1:Inv X Fo σ H { s with heap:=h',toks:=tk }:=I.turned (λb o hb e=>kk b o (by simpa using hb) e) f0 f1 f3 f4 f5
  refine⟨_,rfl,Tk (s:={ s with heap:=h',toks:=tk }) (n := "range_iterator") st' rfl rfl (by decide) ⟨.int (lo+i),H,I1,⟨t,?_⟩,⟨rfl,rfl⟩,st',λb hb=>(hf b hb).1⟩⟩
  rw[FZ]
 done:=by
  intro X hP hw hK hc i Fo s σ H E I hf st hg
  subst hP hw hK
  obtain⟨f0,f1,f2,f3,f4,f5⟩:=hf it (by simp)
  exact Fk (I.ok.hd hc) st (by have:n<=i:=hg;lia) λh' eb=>⟨rfl,I.turned (t':=s.toks) (λb o hb e=>eb b o hb e) f0 f1 f3 f4 f5⟩
 self:=λ_ _ _ _ _ st h=>Fl st h
section
variable{X:Cx}{tg:Expr}
def iY(K:W.Frag)(tl:TE):TI:=λσ H R=>tl σ H λx H1=>∃a,x=.ref a/\(∃xs,HK K H1 a xs)/\R (NK K a) H1
def mP(K:W.Frag)(tl:TE):TI:=λσ H R=>tl σ H λx H1=>∃a,x=.ref a/\(∃xs,HL K H1 a xs)/\R (La K a) H1
theorem Ig{l:Expr}{tl:TE}(hl:PE X l tl):PI X tg l (iY X.K tl):=by
 intro Fo s σ H R I h
 refine HY (hl Fo s σ H _ I h) λv s1 ⟨x,H1,I1,r1,q1⟩=>?_
 obtain⟨a,e,⟨xs,hq⟩,q⟩:=q1
 subst e
 cases r1
 obtain⟨its,rv,p,hz⟩:=I1.list hq
 refine CL p.isList ?_
 refine⟨s1.heap.objs.size,[s1.heap.objs.size],_,_,H1,rfl,I1.kept (t':=s1.toks) λb o e=>AC _ e,Z7 a _,⟨_,AQ _ rfl,rfl,rfl⟩,λb hb=>?_,q⟩
 have e:b=s1.heap.objs.size:=by simpa using hb
 subst e
 exact I1.fpOk (AG _) (I1.hok.fresh (AG _))
theorem O3{l:Expr}{tl:TE}(hl:PE X l tl):PI X tg l (mP X.K tl):=by
 intro Fo s σ H R I h
 refine HY (hl Fo s σ H _ I h) λv s1 ⟨x,H1,I1,r1,q1⟩=>?_
 obtain⟨a,e,⟨xs,hq⟩,q⟩:=q1
 subst e
 cases r1
 obtain⟨its,rv,p,hz⟩:=I1.tuple hq
 refine Br (show s1.heap.IsTuple a its.toArray from p) ?_
 refine⟨s1.heap.objs.size,[s1.heap.objs.size],_,_,H1,rfl,I1.kept (t':=s1.toks) λb o e=>AC _ e,cT a _,⟨_,AQ _ rfl,rfl,rfl⟩,λb hb=>?_,q⟩
 have e:b=s1.heap.objs.size:=by simpa using hb
 subst e
 exact I1.fpOk (AG _) (I1.hok.fresh (AG _))
theorem RX{Fo:List (Addr×Obj)}{σ:St}{H:Hp}{s:Shared}{R:It->Hp->Prop}{E:Value->Shared->Prop}{lo hi:Int}{t u v:Tok}{tk:Nat}(I:Inv X Fo σ H s)(h1:-(2^62)<=lo)(h2:lo<2^62)(h3:-(2^62)<=hi)(h4:hi<2^62)
  (q:R (Lq lo (hi-lo).toNat) H):wpAny (model X.prog X.w) X.A (pyIter (.ref s.heap.objs.size)) (Zy X Fo σ tg R) E { s with heap:=s.heap.push { cls:=.type "range",data:=.fields #[.int lo t,.int hi u,.int 1 v] },toks:=tk }:=by
 refine wpAny_pyIter_range (IsRange.new ..) (small_one h1 h2 h3 h4) ?_
 have I1:Inv X Fo σ H { s with heap:=s.heap.push { cls:=.type "range",data:=.fields #[.int lo t,.int hi u,.int 1 v] },toks:=tk }:=I.kept λb o e=>AC _ e
 refine⟨(s.heap.push { cls:=.type "range",data:=.fields #[.int lo t,.int hi u,.int 1 v] }).objs.size,[(s.heap.push { cls:=.type "range",data:=.fields #[.int lo t,.int hi u,.int 1 v] }).objs.size],_,_,H,rfl,
  I1.kept (t':=tk) λb o e=>AC _ e,W3 _ lo (hi-lo).toNat,?_,λb hb=>?_,q⟩
 ·have e1:lo+((0:Nat):Int)*1=lo:=by simp
  have e2:(((hi-lo).toNat:Nat):Int)-((0:Nat):Int)=Builtin.Range.rangeSize lo hi 1:=by rw[rangeSize_one];split<;>lia
  show IsRangeIter _ _ (lo+((0:Nat):Int)*1) ((((hi-lo).toNat:Nat):Int)-((0:Nat):Int)) 1
  rw[e1,e2]
  exact AQ _ rfl
 ·have e:b=(s.heap.push { cls:=.type "range",data:=.fields #[.int lo t,.int hi u,.int 1 v] }).objs.size:=by simpa using hb
  subst e
  exact I1.fpOk (AG _) (I1.hok.fresh (AG _))
def Y3(ta:TA):TI:=λσ H R=>ta σ H λvs H1=>∃j:Int,vs=[.int j]/\-(2^62)<=j/\j<2^62/\R (Lq 0 j.toNat) H1
def WI(ta:TA):TI:=λσ H R=>ta σ H λvs H1=>∃i j:Int,vs=[.int i,.int j]/\(-(2^62)<=i/\i<2^62/\-(2^62)<=j/\j<2^62)/\R (Lq i (j-i).toNat) H1
theorem NO{a:Expr}{ta:TA}{p pos:Pos}(hg:Gl X "range")(hm:X.mg "range" = none)(ha:PA X [a] ta)(hs:starEach [a] X.env=[(false,eval a X.env)]:=by rfl):PI X tg (.Call (.Name "range" p) [a] [] pos) (Y3 ta):=by
 intro Fo s σ H R I h
 refine Call_ (Jj I hg hm boot_range (BM (HY (ha pos Fo s σ H _ I h) λus s1 ⟨vs,H1,I1,r1,q1⟩=>?_) hs rfl))
 obtain⟨j,e,q1,q2,q⟩:=q1
 subst e
 cases r1 with
 |cons r rr =>
  cases rr
  obtain⟨t,rfl⟩:=r
  exact call_range_1 (RX I1 (by lia) (by lia) q1 q2 (by simpa using q))
theorem VX{a b:Expr}{ta:TA}{p pos:Pos}(hg:Gl X "range")(hm:X.mg "range" = none)(ha:PA X [a,b] ta)(hs:starEach [a,b] X.env=[(false,eval a X.env),(false,eval b X.env)]:=by rfl)(hs2:starEach [b] X.env=[(false,eval b X.env)]:=by rfl) :
  PI X tg (.Call (.Name "range" p) [a,b] [] pos) (WI ta):=by
 intro Fo s σ H R I h
 refine Call_ (Jj I hg hm boot_range (BM (HY (ha pos Fo s σ H _ I h) λus s1 ⟨vs,H1,I1,r1,q1⟩=>?_) (by rw[hs,hs2]) (by rw[hs2];rfl)))
 obtain⟨i,j,e,⟨q1,q2,q3,q4⟩,q⟩:=q1
 subst e
 cases r1 with
 |cons r rr =>
  cases rr with
  |cons r' rr =>
   cases rr
   obtain⟨t,rfl⟩:=r
   obtain⟨t',rfl⟩:=r'
   exact call_range_2 (RX I1 q1 q2 q3 q4 q)
def aE(wi:TI)(g:TG)(tb:TS):TS:=λD σ H=>wi σ H λJ H1=>∃W:Nat->Nat->St->Hp->Prop,(∃m,W 0 m σ H1)/\∀i m σ H,W i m σ H ->
 (J.stop i H/\D.nx σ H)∨(J.go i H/\∃N:St->Hp->Prop,(∀σ' H',N σ' H'->∃m',m'<m/\W (i+1) m' σ' H')/\∀x H',J.yld i H x H'->g x σ H' λσ2 H2=>tb { D with nx:=N,ct:=N,bk:=D.nx } σ2 H2)
def Sn(fp:List Addr)(h:Heap):List (Addr×Obj):=fp.filterMap λb=>(h.get? b).map λo=>(b,o)
theorem V6{fp:List Addr}{h:Heap}{b:Addr}{o:Obj}(hb:b∈fp)(e:h.get? b=some o):(b,o)∈Sn fp h:=Dp.mpr ⟨b,hb,by rw[e];rfl⟩
theorem mM{fp:List Addr}{h:Heap}{p:Addr×Obj}(hp:p∈Sn fp h):p.1∈fp/\h.get? p.1=some p.2:=by
 obtain⟨b,hb,e⟩:=Dp.mp hp
 cases q:h.get? b with
 |none=>rw[q]at e;cases e
 |some o =>
  rw[q]at e
  have e':(b,o)=p:=Al e
  subst e'
  exact⟨hb,q⟩
theorem Inv.pinned{Fo:List (Addr×Obj)}{σ:St}{H:Hp}{s:Shared}{fp:List Addr}(I:Inv X Fo σ H s)(hf:∀b∈fp,KY X Fo H b)(ho:∀b∈fp,∃o,s.heap.get? b=some o/\∀v,o.data≠.cell v):Inv X (Fo++Sn fp s.heap) σ H s :=
 I.pins_of λp hp=>(Aq.mp hp).elim (λz=>I.pin p (Ap _ z)) λz=>by
  obtain⟨hb,e⟩:=mM z
  obtain⟨f0,f1,f2,_⟩:=hf p.1 hb
  obtain⟨o,e',d⟩:=ho p.1 hb
  rw[e]at e';cases e'
  exact⟨e,f0,f1,f2,d⟩
theorem Inv.unpinned{Fo pl:List (Addr×Obj)}{σ:St}{H:Hp}{s:Shared}(I:Inv X (Fo++pl) σ H s):Inv X Fo σ H s:=I.pins_of λp hp=>I.pin p (Ap _ (A6 _ hp))
theorem IX{iter:Expr}{body:List Stmt}{wi:TI}{g:TG}{tb:TS}{pos:Pos}(hp:PassesOwn (model X.prog X.w) X.A X.env X.xe)(hc:X.calm=true)(hi:PI X tg iter wi)(hg:PG X tg g)(hb:Ii X body tb)
  (hs:∀x,foldedSetIterable iter X.env x=pure x:=by intro _;rfl):PS X (.For tg iter body [] pos) (aE wi g tb):=by
 intro Fo s σ H D I h
 refine wpAny_For (HY (hi Fo s σ H _ I h) λv s1 h1=>HY h1 λitv s2 h2=>?_) hs
 obtain⟨it,fp,tn,J,H2,e,I2,T,st2,f2,W,⟨m0,w0⟩,turn⟩:=h2
 subst e
 have stat:∀{H':Hp},(∀b∈fp,H' b=none)->∀b∈fp,KY X Fo H' b:=λhn b hb=>⟨hn b hb,(f2 b hb).2⟩
 refine codeAny_forLoop_any (λn s'=>∃i σ' H',Inv X Fo σ' H' s'/\tn i s'.heap/\(∀b∈fp,H' b=none)/\W i n σ' H') ?_ m0 ⟨0,σ,H2,I2,st2,λb hb=>(f2 b hb).1,w0⟩
 rintro n s3 ⟨i,σ3,H3,I3,st3,fr3,w3⟩
 rcases turn i n σ3 H3 w3 with⟨stop,qn⟩|⟨go,N,hN,step⟩
 ·refine C5 hp (HY (T.done X rfl rfl rfl hc i Fo s3 σ3 H3 X.xe I3 (stat fr3) st3 stop) λr s4 ⟨hr,I4⟩=>?_)
  subst hr
  exact DN ⟨σ3,H3,I4,qn⟩
 ·refine C5 hp (HY (T.item X rfl rfl rfl hc i Fo s3 σ3 H3 X.xe I3 (stat fr3) st3 go) λr s4 ⟨u,hr,h4⟩=>?_)
  subst hr
  refine C5 hp (HY h4 λ_ s5 ⟨x,H5,I5,r5,y5,st5,fr5⟩=>?_)
  have I5':=I5.pinned (stat fr5) (T.obj _ _ st5)
  refine C5 hp (HY (hg _ s5 σ3 H5 x u _ I5' r5 (step x H5 y5)) λ_ s6 ⟨σ6,H6,I6,q6⟩=>?_)
  refine C5 hp (HY (hb _ s6 σ6 H6 _ I6 q6) λf s7 q7=>?_)
  have again:∀{σ7:St}{H7:Hp},Inv X (Fo++Sn fp s5.heap) σ7 H7 s7->N σ7 H7->∃m,m<n/\∃i σ' H',Inv X Fo σ' H' s7/\tn i s7.heap/\(∀b∈fp,H' b=none)/\W i m σ' H':=λ{σ7 H7} I7 n7=>by
   obtain⟨m',hm,w7⟩:=hN σ7 H7 n7
   refine⟨m',hm,i+1,σ7,H7,I7.unpinned,T.keep _ _ _ st5 λb hb o e=>(I7.pin (b,o) (Ap _ (Ap _ (V6 hb e)))).1,λb hb=>?_,w7⟩
   obtain⟨o,e,d⟩:=T.obj _ _ st5 b hb
   exact(I7.pin (b,o) (Ap _ (Ap _ (V6 hb e)))).2.1
  cases f with
  |next=>obtain⟨σ7,H7,I7,n7⟩:=q7;exact again I7 n7
  |cont=>obtain⟨σ7,H7,I7,n7⟩:=q7;exact again I7 n7
  |brk=>obtain⟨σ7,H7,I7,q7⟩:=q7;exact⟨σ7,H7,I7.unpinned,q7⟩
  |ret v=>obtain⟨x7,σ7,H7,I7,r7,q7⟩:=q7;exact⟨x7,σ7,H7,I7.unpinned,r7,q7⟩
end
theorem Jd{K:W.Frag}{a:Addr}{xs:List V}{g:TG}{tb:TS}{D:Iq}{σ:St}{H:Hp}(Pv:Nat->St->Hp->Prop)(h0:Pv 0 σ H)(hl:∀i σ H,i<=xs.length->Pv i σ H->HK K H a xs)
  (hs:∀i x σ H,xs[i]?=some x->Pv i σ H->g x σ H λσ2 H2=>tb { D with nx:=Pv (i+1),ct:=Pv (i+1),bk:=D.nx } σ2 H2) (hd:∀σ H,Pv xs.length σ H->D.nx σ H) :
  ∃W:Nat->Nat->St->Hp->Prop,(∃m,W 0 m σ H)/\∀i m σ H,W i m σ H ->
   ((NK K a).stop i H/\D.nx σ H)∨((NK K a).go i H/\∃N:St->Hp->Prop,(∀σ' H',N σ' H'->∃m',m'<m/\W (i+1) m' σ' H')/\∀x H',(NK K a).yld i H x H'->g x σ H' λσ2 H2=>tb { D with nx:=N,ct:=N,bk:=D.nx } σ2 H2):=by
 refine⟨λi m σ H=>m=xs.length-i/\i<=xs.length/\Pv i σ H,⟨xs.length,by simp,Az _,h0⟩,?_⟩
 rintro i m σ H ⟨rfl,hi,p⟩
 have q:=hl i σ H hi p
 by_cases hlt:i<xs.length
 ·refine .inr ⟨⟨xs,xs[i],q,by simp [hlt]⟩,Pv (i+1),λσ' H' p'=>⟨xs.length-(i+1),by lia,rfl,hlt,p'⟩,λx H' y=>?_⟩
  obtain⟨e,y⟩:=y
  subst e
  exact hs i x σ _ (y xs q) p
 ·have e:i=xs.length:=by lia
  subst e
  exact .inl ⟨⟨xs,q,AG _⟩,hd σ H p⟩
theorem WK{K:W.Frag}{a:Addr}{xs:List V}{g:TG}{tb:TS}{D:Iq}{σ:St}{H:Hp}(Pv:Nat->St->Hp->Prop)(h0:Pv 0 σ H)(hl:∀i σ H,i<=xs.length->Pv i σ H->HL K H a xs)
  (hs:∀i x σ H,xs[i]?=some x->Pv i σ H->g x σ H λσ2 H2=>tb { D with nx:=Pv (i+1),ct:=Pv (i+1),bk:=D.nx } σ2 H2) (hd:∀σ H,Pv xs.length σ H->D.nx σ H) :
  ∃W:Nat->Nat->St->Hp->Prop,(∃m,W 0 m σ H)/\∀i m σ H,W i m σ H ->
   ((La K a).stop i H/\D.nx σ H)∨((La K a).go i H/\∃N:St->Hp->Prop,(∀σ' H',N σ' H'->∃m',m'<m/\W (i+1) m' σ' H')/\∀x H',(La K a).yld i H x H'->g x σ H' λσ2 H2=>tb { D with nx:=N,ct:=N,bk:=D.nx } σ2 H2):=by
 refine⟨λi m σ H=>m=xs.length-i/\i<=xs.length/\Pv i σ H,⟨xs.length,by simp,Az _,h0⟩,?_⟩
 rintro i m σ H ⟨rfl,hi,p⟩
 have q:=hl i σ H hi p
 by_cases hlt:i<xs.length
 ·refine .inr ⟨⟨xs,xs[i],q,by simp [hlt]⟩,Pv (i+1),λσ' H' p'=>⟨xs.length-(i+1),by lia,rfl,hlt,p'⟩,λx H' y=>?_⟩
  obtain⟨e,y⟩:=y
  subst e
  exact hs i x σ _ (y xs q) p
 ·have e:i=xs.length:=by lia
  subst e
  exact .inl ⟨⟨xs,q,AG _⟩,hd σ H p⟩
theorem ME{lo:Int}{n:Nat}{g:TG}{tb:TS}{D:Iq}{σ:St}{H:Hp}(Pv:Nat->St->Hp->Prop)(h0:Pv 0 σ H)
  (hs:∀i σ H,i<n->Pv i σ H->g (.int (lo+i)) σ H λσ2 H2=>tb { D with nx:=Pv (i+1),ct:=Pv (i+1),bk:=D.nx } σ2 H2) (hd:∀σ H,Pv n σ H->D.nx σ H) :
  ∃W:Nat->Nat->St->Hp->Prop,(∃m,W 0 m σ H)/\∀i m σ H,W i m σ H ->
   ((Lq lo n).stop i H/\D.nx σ H)∨((Lq lo n).go i H/\∃N:St->Hp->Prop,(∀σ' H',N σ' H'->∃m',m'<m/\W (i+1) m' σ' H')/\∀x H',(Lq lo n).yld i H x H'->g x σ H' λσ2 H2=>tb { D with nx:=N,ct:=N,bk:=D.nx } σ2 H2):=by
 refine⟨λi m σ H=>m=n-i/\i<=n/\Pv i σ H,⟨n,by simp,Az _,h0⟩,?_⟩
 rintro i m σ H ⟨rfl,hi,p⟩
 by_cases hlt:i<n
 ·refine .inr ⟨hlt,Pv (i+1),λσ' H' p'=>⟨n-(i+1),by lia,rfl,hlt,p'⟩,λx H' y=>?_⟩
  obtain⟨e,y⟩:=y
  subst e y
  exact hs i σ _ hlt p
 ·have e:i=n:=by lia
  subst e
  exact .inl ⟨AG _,hd σ H p⟩
abbrev R2:=V->V->Hp->VK->Prop
def IK(X:Cx)(f:Value->Value->Sem Value)(r:R2):Prop :=
 ∀(Fo:List (Addr×Obj))(s:Shared)(σ:St)(H:Hp)(x y:V)(v u:Value)(Q:VK),Inv X Fo σ H s->Gx x v->Gx y u->r x y H Q ->
  wpAny (model X.prog X.w) X.A (f v u) (EP X Fo σ Q) X.xe s
def Jv(X:Cx)(f:Value->Sem Value)(r:V->Hp->VK->Prop):Prop :=
 ∀(Fo:List (Addr×Obj))(s:Shared)(σ:St)(H:Hp)(x:V)(v:Value)(Q:VK),Inv X Fo σ H s->Gx x v->r x H Q ->
  wpAny (model X.prog X.w) X.A (f v) (EP X Fo σ Q) X.xe s
def Hw(X:Cx)(f:Value)(r:List V->Hp->VK->Prop):Prop :=
 ∀(Fo:List (Addr×Obj))(s:Shared)(σ:St)(H:Hp)(xs:List V)(us:List Value)(Q:VK),Inv X Fo σ H s->Gy xs us->r xs H Q ->
  wpAny (model X.prog X.w) X.A (call f us) (EP X Fo σ Q) X.xe s
def SU(r:R2)(ta tb:TE):TE:=λσ H Q=>ta σ H λx H1=>tb σ H1 λy H2=>r x y H2 Q
def rD(r:V->Hp->VK->Prop)(ta:TE):TE:=λσ H Q=>ta σ H λx H1=>r x H1 Q
def rI(C:Int->Int->Prop)(g:Int->Int->V):R2:=λx y H Q=>∃i j,x=.int i/\y=.int j/\C i j/\Q (g i j) H
def NT(g:Int->Int->V):R2:=λx y H Q=>∃i j,x=.int i/\y=.int j/\Q (g i j) H
def rU(g:Int->V):V->Hp->VK->Prop:=λx H Q=>∃i,x=.int i/\Q (g i) H
section
variable{X:Cx}{a b c:Expr}{ta tb tc:TE}{pos:Pos}
theorem Oa(ha:PE X a ta)(hb:PE X b tb){Fo:List (Addr×Obj)}{s:Shared}{σ:St}{H:Hp}{R:V->V->Hp->Prop}(I:Inv X Fo σ H s)
  (h:ta σ H λx H1=>tb σ H1 λy H2=>R x y H2) {Q:Value->Shared->Prop} {f:Value->Value->Sem Value}
  (hf:∀v u s2 x y H2,Inv X Fo σ H2 s2->Gx x v->Gx y u->R x y H2->wpAny (model X.prog X.w) X.A (f v u) Q X.xe s2) :
  wpAny (model X.prog X.w) X.A (eval a X.env) (λv s₁=>wpAny (model X.prog X.w) X.A (eval b X.env) (λu s₂=>wpAny (model X.prog X.w) X.A (f v u) Q X.xe s₂) X.xe s₁) X.xe s:=by
 refine HY (ha Fo s σ H _ I h) λv s1 ⟨x,H1,I1,r1,q1⟩=>?_
 refine HY (hb Fo s1 σ H1 _ I1 q1) λu s2 ⟨y,H2,I2,r2,q2⟩=>?_
 exact hf v u s2 x y H2 I2 r1 r2 q2
theorem HV{op:Operator}{r:R2}(ho:IK X (binaryOp op) r)(ha:PE X a ta)(hb:PE X b tb):PE X (.BinOp a op b pos) (SU r ta tb):=by
 intro Fo s σ H Q I h
 exact wpAny_BinOp (Oa ha hb I h λv u s2 x y H2 I2 rx ry q=>ho Fo s2 σ H2 x y v u Q I2 rx ry q)
theorem Na{op:UnaryOp}{r:V->Hp->VK->Prop}(ho:Jv X (unaryOp op) r)(ha:PE X a ta):PE X (.UnaryOp op a pos) (rD r ta):=by
 intro Fo s σ H Q I h
 exact UnaryOp_ (HY (ha Fo s σ H _ I h) λv s1 ⟨x,H1,I1,r1,q1⟩=>ho Fo s1 σ H1 x v Q I1 r1 q1)
theorem Pd{f:Value->Value->Sem Value}{C:Int->Int->Prop}{g:Int->Int->Int}
  (rule:∀(i j:Int)(t u:Tok)(s:Shared)(Q:Value->Shared->Prop)(E:Value->Shared->Prop),C i j->Q (.int (g i j) s.toks) { s with toks:=s.toks+1 }->wpAny (model X.prog X.w) X.A (f (.int i t) (.int j u)) Q E s) :
  IK X f (rI C λi j=>.int (g i j)):=by
 intro Fo s σ H x y v u Q I rx ry h
 obtain⟨i,j,rfl,rfl,hc,q⟩:=h
 obtain⟨t,rfl⟩:=rx
 obtain⟨t',rfl⟩:=ry
 exact rule i j t t' s _ _ hc ⟨.int (g i j),H,I.tok _,⟨_,rfl⟩,q⟩
theorem UQ{f:Value->Value->Sem Value}{g:Int->Int->Int}
  (rule:∀(i j:Int)(t u:Tok)(s:Shared)(Q:Value->Shared->Prop)(E:Value->Shared->Prop),Q (.int (g i j) s.toks) { s with toks:=s.toks+1 }->wpAny (model X.prog X.w) X.A (f (.int i t) (.int j u)) Q E s) :
  IK X f (NT λi j=>.int (g i j)):=by
 intro Fo s σ H x y v u Q I rx ry h
 obtain⟨i,j,rfl,rfl,q⟩:=h
 obtain⟨t,rfl⟩:=rx
 obtain⟨t',rfl⟩:=ry
 exact rule i j t t' s _ _ ⟨.int (g i j),H,I.tok _,⟨_,rfl⟩,q⟩
theorem MK{f:Value->Value->Sem Value}{g:Int->Int->Bool}
  (rule:∀(i j:Int)(t u:Tok)(s:Shared)(Q:Value->Shared->Prop)(E:Value->Shared->Prop),Q (.bool (g i j)) s->wpAny (model X.prog X.w) X.A (f (.int i t) (.int j u)) Q E s) :
  IK X f (NT λi j=>.bl (g i j)):=by
 intro Fo s σ H x y v u Q I rx ry h
 obtain⟨i,j,rfl,rfl,q⟩:=h
 obtain⟨t,rfl⟩:=rx
 obtain⟨t',rfl⟩:=ry
 exact rule i j t t' s _ _ ⟨.bl (g i j),H,I,rfl,q⟩
def XR(i j:Int):Prop:=0<j/\j<1073741824
def dN(i j:Int):Prop:=0<=j/\j<=1000000/\i.natAbs<2^64
def Oj(i j:Int):Prop:=(-(2^64)<i/\i<2^64)∨(-(2^64)<j/\j<2^64)
theorem Oj.ok{i j:Int}(h:Oj i j):IntMulOk i j:=by
 rcases h with⟨h1,h2⟩|⟨h1,h2⟩
 ·exact .of_left (intBits_le_64 h1 h2)
 ·exact .of_right (intBits_le_64 h1 h2)
theorem JW:IK X (binaryOp .Add) (NT λi j=>.int (i+j)):=UQ λ_ _ _ _ _ _ _ q=>add_int q
theorem Kn:IK X (binaryOp .Sub) (NT λi j=>.int (i-j)):=UQ λ_ _ _ _ _ _ _ q=>sub_int q
theorem jU:IK X (binaryOp .Mult) (rI Oj λi j=>.int (i*j)):=Pd λ_ _ _ _ _ _ _ hc q=>mul_int q hc.ok
theorem Mx:IK X (binaryOp .FloorDiv) (rI XR λi j=>.int (i / j)):=Pd λi j _ _ _ _ _ hc q=>by
 have h1:(0:Int)<j:=hc.1
 have h2:j<1073741824:=hc.2
 exact floordiv_int (by lia) (by rw[Et i (by lia)];exact q) (.inl (Fa (by lia)))
theorem KM:IK X (binaryOp .Mod) (rI (λ_ j=>0<j) λi j=>.int (i%j)):=Pd λi j _ _ _ _ _ hc q=>by
 have h1:(0:Int)<j:=hc
 exact mod_int' (by lia) (by rw[Int.fmod_eq_emod_of_nonneg i (by lia)];exact q)
theorem Rf:IK X (binaryOp .Pow) (rI dN λi j=>.int (i^j.toNat)):=Pd λ_ _ _ _ _ _ _ hc q=>pow_int_small hc.1 hc.2.1 hc.2.2 q
theorem sO{f:Value->Sem Value}{g:Int->Int}
  (rule:∀(i:Int)(t:Tok)(s:Shared)(Q:Value->Shared->Prop)(E:Value->Shared->Prop),Q (.int (g i) s.toks) { s with toks:=s.toks+1 }->wpAny (model X.prog X.w) X.A (f (.int i t)) Q E s) :
  Jv X f (rU λi=>.int (g i)):=by
 intro Fo s σ H x v Q I rx h
 obtain⟨i,rfl,q⟩:=h
 obtain⟨t,rfl⟩:=rx
 exact rule i t s _ _ ⟨.int (g i),H,I.tok _,⟨_,rfl⟩,q⟩
theorem Nb:Jv X (unaryOp .USub) (rU λi=>.int (-i)):=sO λ_ _ _ _ _ q=>neg_int q
end
def TC:V->V->Bool
 |.non,.non=>true|.non,.int _=>true|.int _,.non=>true|.non,.bl _=>true|.bl _,.non=>true|.non,.str _=>true|.str _,.non=>true
 |.int _,.int _=>true|.bl _,.bl _=>true|.str _,.str _=>true|.byt _,.byt _=>true
 |.int _,.str _=>true|.str _,.int _=>true|.bl _,.str _=>true|.str _,.bl _=>true
 |_,_=>false
def sQ:R2:=λx y H Q=>TC x y=true/\Q (.bl (decide (x=y))) H
def sJ:R2:=λx y H Q=>TC x y=true/\Q (.bl (!decide (x=y))) H
theorem Sw{i j:Int}:decide (V.int i=V.int j)=(i==j):=by
 rw[EK]
 simp
theorem UB{i j:Bool}:decide (V.bl i=V.bl j)=(i==j):=by
 rw[EK]
 simp
theorem Ui{i j:Str}:decide (V.str i=V.str j)=(i==j):=by
 rw[EK]
 simp
theorem Pz{i j:Array UInt8}:decide (V.byt i=V.byt j)=(i.toList==j.toList):=by
 rw[EK]
 cases i
 cases j
 simp
section
variable{X:Cx}{a b c:Expr}{ta tb tc:TE}{pos:Pos}
theorem IW{Fo:List (Addr×Obj)}{σ:St}{H:Hp}{s:Shared}{Q:VK}{k k':Bool}(I:Inv X Fo σ H s)(q:Q (.bl k) H)(e:k=k'):EP X Fo σ Q (.bool k') s:=by
 subst e
 exact⟨.bl k,H,I,rfl,q⟩
theorem MP:IK X (compareOp .Eq) sQ:=by
 intro Fo s σ H x y v u Q I rx ry h
 obtain⟨hs,q⟩:=h
 cases x with
 |non =>
  cases rx
  cases y with
  |non=>cases ry;exact PySem.EqNone.eq_none_none (IW I q (by simp))
  |bl j=>cases ry;exact PySem.EqNone.eq_none_bool (IW I q (by simp))
  |int j=>obtain⟨t',rfl⟩:=ry;exact PySem.EqNone.eq_none_int (IW I q (by simp))
  |str j=>obtain⟨t',rfl⟩:=ry;exact PySem.EqNone.eq_none_str (IW I q (by simp))
  |_=>exact absurd (show false=true from hs) AY
 |bl i =>
  cases rx
  cases y with
  |non=>cases ry;exact PySem.EqNone.eq_bool_none (IW I q (by simp))
  |bl j=>cases ry;exact eq_bool (IW I q UB)
  |str j=>obtain⟨t',rfl⟩:=ry;exact PySem.EqMixed.eq_bool_str (IW I q (by simp))
  |_=>exact absurd (show false=true from hs) AY
 |int i =>
  obtain⟨t,rfl⟩:=rx
  cases y with
  |non=>cases ry;exact PySem.EqNone.eq_int_none (IW I q (by simp))
  |int j=>obtain⟨t',rfl⟩:=ry;exact eq_int (IW I q Sw)
  |str j=>obtain⟨t',rfl⟩:=ry;exact PySem.EqMixed.eq_int_str (IW I q (by simp))
  |_=>exact absurd (show false=true from hs) AY
 |str i =>
  obtain⟨t,rfl⟩:=rx
  cases y with
  |non=>cases ry;exact PySem.EqNone.eq_str_none (IW I q (by simp))
  |bl j=>cases ry;exact PySem.EqMixed.eq_str_bool (IW I q (by simp))
  |int j=>obtain⟨t',rfl⟩:=ry;exact PySem.EqMixed.eq_str_int (IW I q (by simp))
  |str j=>obtain⟨t',rfl⟩:=ry;exact eq_str (IW I q Ui)
  |_=>exact absurd (show false=true from hs) AY
 |byt i =>
  obtain⟨t,rfl⟩:=rx
  cases y with
  |byt j=>obtain⟨t',rfl⟩:=ry;exact W.eq_bytes (IW I q Pz)
  |_=>exact absurd (show false=true from hs) AY
 |_=>cases y<;>exact absurd (show false=true from hs) AY
theorem S8:IK X (compareOp .NotEq) sJ:=by
 intro Fo s σ H x y v u Q I rx ry h
 obtain⟨hs,q⟩:=h
 cases x with
 |non =>
  cases rx
  cases y with
  |non=>cases ry;exact PySem.EqNone.ne_none_none (IW I q (by simp))
  |bl j=>cases ry;exact PySem.EqNone.ne_none_bool (IW I q (by simp))
  |int j=>obtain⟨t',rfl⟩:=ry;exact PySem.EqNone.ne_none_int (IW I q (by simp))
  |str j=>obtain⟨t',rfl⟩:=ry;exact PySem.EqNone.ne_none_str (IW I q (by simp))
  |_=>exact absurd (show false=true from hs) AY
 |bl i =>
  cases rx
  cases y with
  |non=>cases ry;exact PySem.EqNone.ne_bool_none (IW I q (by simp))
  |bl j=>cases ry;exact ne_bool (IW I q (congrArg not UB))
  |str j=>obtain⟨t',rfl⟩:=ry;exact PySem.EqMixed.ne_bool_str (IW I q (by simp))
  |_=>exact absurd (show false=true from hs) AY
 |int i =>
  obtain⟨t,rfl⟩:=rx
  cases y with
  |non=>cases ry;exact PySem.EqNone.ne_int_none (IW I q (by simp))
  |int j=>obtain⟨t',rfl⟩:=ry;exact ne_int (IW I q (congrArg not Sw))
  |str j=>obtain⟨t',rfl⟩:=ry;exact PySem.EqMixed.ne_int_str (IW I q (by simp))
  |_=>exact absurd (show false=true from hs) AY
 |str i =>
  obtain⟨t,rfl⟩:=rx
  cases y with
  |non=>cases ry;exact PySem.EqNone.ne_str_none (IW I q (by simp))
  |bl j=>cases ry;exact PySem.EqMixed.ne_str_bool (IW I q (by simp))
  |int j=>obtain⟨t',rfl⟩:=ry;exact PySem.EqMixed.ne_str_int (IW I q (by simp))
  |str j=>obtain⟨t',rfl⟩:=ry;exact ne_str (IW I q (congrArg not Ui))
  |_=>exact absurd (show false=true from hs) AY
 |byt i =>
  obtain⟨t,rfl⟩:=rx
  cases y with
  |byt j=>obtain⟨t',rfl⟩:=ry;exact W.ne_bytes (IW I q (congrArg not Pz))
  |_=>exact absurd (show false=true from hs) AY
 |_=>cases y<;>exact absurd (show false=true from hs) AY
theorem Nn:IK X (compareOp .Lt) (NT λi j=>.bl (decide (i<j))):=MK λ_ _ _ _ _ _ _ q=>lt_int q
theorem Q6:IK X (compareOp .LtE) (NT λi j=>.bl (decide (i<=j))):=MK λ_ _ _ _ _ _ _ q=>le_int q
theorem PN:IK X (compareOp .Gt) (NT λi j=>.bl (decide (j<i))):=MK λ_ _ _ _ _ _ _ q=>gt_int q
theorem gZ:IK X (compareOp .GtE) (NT λi j=>.bl (decide (j<=i))):=MK λ_ _ _ _ _ _ _ q=>ge_int q
theorem RH:IK X (compareOp .Is) (λx y H Q=>y=.non/\Q (.bl (decide (x=.non))) H):=by
 intro Fo s σ H x y v u Q I rx ry h
 obtain⟨rfl,q⟩:=h
 cases ry
 refine is_none_gen (IW I q ?_)
 cases x<;>first
  |(cases rx;rfl)
  |(obtain⟨t,rfl⟩:=rx;rfl)
theorem bX:IK X (compareOp .IsNot) (λx y H Q=>y=.non/\Q (.bl (!decide (x=.non))) H):=by
 intro Fo s σ H x y v u Q I rx ry h
 obtain⟨rfl,q⟩:=h
 cases ry
 refine isnot_none_gen (IW I q ?_)
 cases x<;>first
  |(cases rx;rfl)
  |(obtain⟨t,rfl⟩:=rx;rfl)
theorem IK.or{f:Value->Value->Sem Value}{r r':R2}(h:IK X f r)(h':IK X f r'):IK X f (λx y H Q=>r x y H Q∨r' x y H Q):=by
 intro Fo s σ H x y v u Q I rx ry q
 rcases q with q|q
 ·exact h Fo s σ H x y v u Q I rx ry q
 ·exact h' Fo s σ H x y v u Q I rx ry q
theorem IA(b:Expr){op:CmpOp}(h:op≠.In:=by decide)(h2:op≠.NotIn:=by decide):behindInMarks op b=false:=by
 have e1:(op==CmpOp.In)=false:=by cases op<;>first|rfl|exact absurd rfl h
 have e2:(op==CmpOp.NotIn)=false:=by cases op<;>first|rfl|exact absurd rfl h2
 cases b<;>simp [behindInMarks,e1,e2]
theorem YG{op:CmpOp}{r:R2}(ho:IK X (compareOp op) r)(ha:PE X a ta)(hb:PE X b tb)(hm:behindInMarks op b=false):PE X (.Compare a [op] [b] pos) (SU r ta tb):=by
 intro Fo s σ H Q I h
 exact wpAny_Compare1 (Oa ha hb I h λv u s2 x y H2 I2 rx ry q=>ho Fo s2 σ H2 x y v u Q I2 rx ry q) hm
def aV(t:TE):TT:=λσ H Q=>t σ H λx H'=>∃k,x=.bl k/\Q k H'
theorem ID{op:CmpOp}{r:R2}(ho:IK X (compareOp op) r)(ha:PE X a ta)(hb:PE X b tb)(hm:behindInMarks op b=false):PT X (.Compare a [op] [b] pos) (aV (SU r ta tb)):=by
 intro Fo s σ H Q I h
 refine GQ (HY (ha Fo s σ H _ I h) λv s1 ⟨x,H1,I1,r1,q1⟩=>HY (hb Fo s1 σ H1 _ I1 q1) λu s2 ⟨y,H2,I2,r2,q2⟩ =>
  HY (ho Fo s2 σ H2 x y v u _ I2 r1 r2 q2) λc s3 ⟨z,H3,I3,r3,k,e,q3⟩=>?_) hm
 subst e
 cases r3
 exact CK ⟨H3,I3,q3⟩
theorem Ve:(sizeLine:Nat)<2^63:=by rw[Fm];decide
theorem KQ{x:V}{us:List Value}(r:Gy [x] us):∃u,us=[u]/\Gx x u:=by
 cases r with
 |cons r1 r2=>cases r2;exact⟨_,rfl,r1⟩
theorem K0{x y:V}{us:List Value}(r:Gy [x,y] us):∃u w',us=[u,w']/\Gx x u/\Gx y w':=by
 cases r with
 |cons r1 r2 =>
  cases r2 with
  |cons r3 r4=>cases r4;exact⟨_,_,rfl,r1,r3⟩
theorem Wg:Hw X (.builtin "abs") (λxs H Q=>∃i,xs=[.int i]/\Q (.int (if i<0 then -i else i)) H):=by
 intro Fo s σ H xs us Q I r h
 obtain⟨i,rfl,q⟩:=h
 obtain⟨u,rfl,t,rfl⟩:=KQ r
 exact call_abs_int λu tk=>⟨.int (if i<0 then -i else i),H,I.tok _,⟨_,rfl⟩,q⟩
theorem Y0(hc:X.calm=true):Hw X (.builtin "min") (λxs H Q=>∃i j,xs=[.int i,.int j]/\Q (.int (if j<i then j else i)) H):=by
 intro Fo s σ H xs us Q I r h
 obtain⟨i,j,rfl,q⟩:=h
 obtain⟨u,w',rfl,⟨t,rfl⟩,⟨t',rfl⟩⟩:=K0 r
 refine min_two_ints (I.ok.hd hc) λh' tk k=>⟨_,H,I.kept k,?_,q⟩
 by_cases hj:j<i
 ·rw[AH hj,AH hj];exact⟨_,rfl⟩
 ·rw[AE hj,AE hj];exact⟨_,rfl⟩
end
structure P1(h:Heap)(x dx C:Addr)(mA:Str->Option Value):Prop where
 obj:h.get? x=some (W.instObj C dx)
 ns:h.Ns1 dx mA
 ne:dx≠x
theorem Q4{h:Heap}{dx:Addr}{mA:Str->Option Value}(n:h.Ns1 dx mA):∃od,h.get? dx=some od/\∀name,W.lookIn name od=some (mA name):=by
 obtain⟨o,es,ep,ho,hd,hk,_,hm⟩:=n
 refine⟨o,ho,λname=>?_⟩
 have e:=hm name
 unfold nsFind findBy at e
 rw[<-Array.find?_toList]at e
 unfold W.lookIn
 rw[hd]
 dsimp only
 split
 ·rename_i y q
  rw[q]at e
  exact congrArg some e
 ·rename_i q
  rw[q]at e
  have a:es.toList.any (·.refKey)=false:=by
   rw[List.any_eq_false]
   intro y hy
   obtain⟨z,t,hkey⟩:=hk y (Array.mem_toList_iff.mp hy)
   simp [DictEntry.refKey,hkey]
  have a':¬ es.toList.any (·.refKey)=true:=by rw[a];exact AY
  rw[AE a']
  exact congrArg some e
theorem P1.look{h:Heap}{x dx C:Addr}{mA:Str->Option Value}(I:P1 h x dx C mA):∃od,W.InstAt h x (W.instObj C dx) C (some od)/\∀name,W.lookIn name od=some (mA name) :=
 let ⟨od,ho,hl⟩:=Q4 I.ns
 ⟨od,⟨I.obj,rfl,rfl,ho⟩,hl⟩
def K9(f:Str)(v:V):List (Str×V)->List (Str×V)
 |[]=>[(f,v)]
 |(g,x)::r=>if g=f then (g,v)::r else (g,x)::K9 f v r
theorem pH(f g:Str)(v:V):∀fs:List (Str×V),(K9 f v fs).lookup g=if g=f then some v else fs.lookup g
 |[]=>by
  show List.lookup g [(f,v)]=_
  by_cases h:g=f
  ·have hb:(g==f)=true:=beq_iff_eq.mpr h
   simp only[List.lookup,hb,AH h]
  ·have hb:(g==f)=false:=beq_eq_false_iff_ne.mpr h
   simp only[List.lookup,hb,AE h]
 |(k,x)::r=>by
  have ih:=pH f g v r
  rw[show K9 f v ((k,x)::r)=(if k=f then (k,v)::r else (k,x)::K9 f v r) from rfl]
  by_cases hk:k=f
  ·rw[AH hk]
   by_cases h:g=k
   ·have hb:(g==k)=true:=beq_iff_eq.mpr h
    simp only[List.lookup,hb,AH (h.trans hk)]
   ·have hb:(g==k)=false:=beq_eq_false_iff_ne.mpr h
    simp only[List.lookup,hb,AE (λe:g=f=>h (e.trans hk.symm))]
  ·rw[AE hk]
   by_cases h:g=k
   ·have hb:(g==k)=true:=beq_iff_eq.mpr h
    simp only[List.lookup,hb,AE (λe:g=f=>hk (h.symm.trans e))]
   ·have hb:(g==k)=false:=beq_eq_false_iff_ne.mpr h
    simp only[List.lookup,hb]
    exact ih
theorem bO(f:Str)(v:V):∀fs:List (Str×V),f∈(K9 f v fs).map (·.1)/\∀g,g∈fs.map (·.1)->g∈(K9 f v fs).map (·.1)
 |[]=>⟨by simp [K9],λg h=>by simp at h⟩
 |(k,x)::r=>by
  obtain⟨i1,i2⟩:=bO f v r
  rw[show K9 f v ((k,x)::r)=(if k=f then (k,v)::r else (k,x)::K9 f v r) from rfl]
  by_cases hk:k=f
  ·rw[AH hk]
   subst hk
   exact⟨by simp,λg h=>by simpa using h⟩
  ·rw[AE hk]
   refine⟨?_,λg h=>?_⟩
   ·rw[Ae]
    exact AK _ i1
   ·rw[Ae]at h ⊢
    rcases AO.mp h with e|e
    ·exact AO.mpr (.inl e)
    ·exact AK _ (i2 g e)
theorem IS.some_of{v:V}{o:Option Value}(r:IS (some v) o):∃u,o=some u/\Gx v u:=by
 cases o with
 |none=>exact(show False from r).elim
 |some u=>exact⟨u,rfl,r⟩
theorem fZ{v:V}{u:Value}(r:Gx v u):W.handedIn u=true:=by
 cases v with
 |non=>cases(show u=Value.none from r);rfl
 |bl b=>cases(show u=Value.bool b from r);rfl
 |int i=>obtain⟨t,e⟩:=(show ∃t,u=Value.int i t from r);cases e;rfl
 |str x=>obtain⟨t,e⟩:=(show ∃t,u=Value.str x t from r);cases e;rfl
 |byt b=>obtain⟨t,e⟩:=(show ∃t,u=Value.bytes b t from r);cases e;rfl
 |flt b=>obtain⟨t,e⟩:=(show ∃t,u=Value.float b t from r);cases e;rfl
 |ref a=>cases(show u=Value.ref a from r);rfl
 |ty n=>cases(show u=Value.type n from r);rfl
structure Ym(K:W.Frag)(C:Addr):Prop where
 pg:W.plainGet K C Str.empty=true
 hd:W.hasDictIn K C=true
 po:W.plainOver K C=true
 sa:W.findIn K (.ref C) "__setattr__" = some (some (.builtin "object.__setattr__"))
theorem Ym.get{K:W.Frag}{C:Addr}(c:Ym K C)(f:Str):W.plainGet K C f=true:=c.pg
structure sX(K:W.Frag)(C:Addr)(f:Str)(v:V)(u:Value):Prop where
 at_:W.findIn K (.ref C) f=some (some u)
 rel:Gx v u
 get:W.specialIn K u "__get__" = some none
 cp:W.copiedNames.contains f=false
structure rE(K:W.Frag)(C:Addr)(m:Str)(f:Addr):Prop where
 at_:W.findIn K (.ref C) m=some (some (.ref f))
 fn:W.isFn K (.ref f)=true
 kp:W.keepIn K (.ref f)=true
section
variable{X:Cx}{Fo:List (Addr×Obj)}{σ:St}{H:Hp}{s:Shared}{a C dx:Addr}{fs:List (Str×V)}{f:Str}{v:V}{A:Around}{E:Value->Shared->Prop}
theorem Inv.made(I:Inv X Fo σ H s):Inv X Fo σ (Gi (Gi H s.heap.objs.size (.own (s.heap.objs.size+1))) (s.heap.objs.size+1) (.ins C s.heap.objs.size []))
  { s with heap:=(s.heap.push W.emptyDict).push (W.instObj C s.heap.objs.size) }:=by
 have e1:(s.heap.push W.emptyDict).get? s.heap.objs.size=some W.emptyDict:=AQ s.heap rfl
 have e2:((s.heap.push W.emptyDict).push (W.instObj C s.heap.objs.size)).get? (s.heap.objs.size+1)=some (W.instObj C s.heap.objs.size):=by
  have:=AQ (s.heap.push W.emptyDict) (o:=W.instObj C s.heap.objs.size) rfl
  rwa [Bz]at this
 have e3:(s.heap.push W.emptyDict).Ns s.heap.objs.size (λ_=>none):=⟨W.emptyDict,#[],_,e1,rfl,(λe he=>absurd he (by simp)),λ_=>rfl⟩
 have I1:=I.laid (a:=s.heap.objs.size) (o:=.own (s.heap.objs.size+1)) (h':=s.heap.push W.emptyDict) (t':=s.toks) (λb u q=>AC _ q) (AG _) ⟨_,e1⟩
 refine I1.laid (a:=s.heap.objs.size+1) (o:=.ins C s.heap.objs.size []) (t':=s.toks) (λb u q=>AC _ q) (Nat.le_of_eq (Bz _ _)) ?_
 have ne:s.heap.objs.size≠s.heap.objs.size+1:=As (EC _)
 refine⟨by rw[Ha ne,Gu],Az _,ne,e2,λ_=>none,(Heap.Ns1.of_empty e3).at λo q=>AC _ q,λ_=>True.intro,λy hy=>absurd rfl hy⟩
theorem mO{prog:Program}{w:World}{env:Env}{e:Expr}{f:Str}{pos:Pos}{s:Shared}{Q:Value->Shared->Prop}(hb:attributeBase e f env (eval e env)=eval e env)
  (h:wpAny (model prog w) A (eval e env) (λo s₁=>wpAny (model prog w) A (getAttr o f true) Q E s₁) E s):wpAny (model prog w) A (eval (.Attribute e f pos) env) Q E s :=
 Attribute_any_ h (by rw[arm_eval_Attribute,hb])
end
section
variable{X:Cx}{Fo:List (Addr×Obj)}{σ:St}{H:Hp}{s:Shared}{A:Around}{E:Value->Shared->Prop}{Q:Value->Shared->Prop}{c:Value}{b:Bool}
inductive JC (K:W.Frag) (H:Hp):V->Value->Prop where
 |non:JC K H .non (.type "NoneType")
 |bl (x:Bool):JC K H (.bl x) (.type "bool")
 |int (i:Int):JC K H (.int i) (.type "int")
 |str (x:Str):JC K H (.str x) (.type "str")
 |flt (x:UInt64):JC K H (.flt x) (.type "float")
 |lst {a:Addr} {xs:List V} (e:H a=some (.lst xs)):JC K H (.ref a) (.type "list")
 |frz {a:Addr} {o:Obj} {xs:List V} (e:H a=some (.frz o (.lst xs))):JC K H (.ref a) (.type "list")
 |tup {a:Addr} {xs:List V} (e:H a=some (.tup xs)):JC K H (.ref a) (.type "tuple")
 |dK {a:Addr} {kvs:List (Hl×V)} (e:H a=some (.dK kvs)):JC K H (.ref a) (.type "dict")
 |dT {a:Addr} {kvs:List (List Hl×V)} (e:H a=some (.dT kvs)):JC K H (.ref a) (.type "dict")
 |ins {a C dx:Addr} {fs:List (Str×V)} (e:H a=some (.ins C dx fs)) (cl:Ym K C) (ha:W.findIn K (.ref C) "__class__" = some (some (.builtin "object.__class__")))
   (hn:W.specialIn K (.builtin "object.__class__") "__get__" = some (some (.builtin "getset_descriptor.__get__"))) (htk:W.takesIn K (.builtin "object.__class__")=some true)
   (hm:W.mroIn K C (.type "object")=some true):JC K H (.ref a) (.ref C)
end
structure Hf(k:Nat)(A:Around):Prop where
 hd:A.handled=none
 dp:A.depth+3*k+5<recursionLimit
 un:A.units+16*k+200<cLine
theorem Hf.mono{j k:Nat}{A:Around}(r:Hf k A)(h:j<=k):Hf j A:=⟨r.hd,by have:=r.dp;lia,by have:=r.un;lia⟩
theorem Hf.deeper{k:Nat}{A:Around}(r:Hf (k+1) A)(env:Env):Hf k (A.deeper env) :=
 ⟨r.hd,by have:=r.dp;show A.depth+1+3*k+5<_;lia,by have:=r.un;show A.units+3+16*k+200<_;lia⟩
theorem Hf.in1{k:Nat}{A:Around}(r:Hf (k+1) A):Hf k A.in1 :=
 ⟨r.hd,by have:=r.dp;show A.depth+3*k+5<_;lia,by have:=r.un;show A.units+1+16*k+200<_;lia⟩
theorem nB{A:Around}{C:Addr}{us:List Value}{kw:List (Str×Value)}:(A.under (.builtin "type.__call__" ⟨.ref C::us,kw⟩)).depth=A.depth+1:=by
 first|rfl|simp [Around.under,Code.weight,Code.isCreation,Code.isGuard,Code.isCaller,Code.frames,Code.isFrame,guardIds]
theorem Wl{A:Around}{C:Addr}{us:List Value}{kw:List (Str×Value)}:(A.under (.builtin "type.__call__" ⟨.ref C::us,kw⟩)).units=A.units+1:=by
 first|rfl|simp [Around.under,Code.cUnits,Code.frames,Code.isFrame]
theorem Hf.make{k:Nat}{A:Around}(r:Hf (k+1) A)(C:Addr)(us:List Value)(kw:List (Str×Value)):Hf k (A.under (.builtin "type.__call__" ⟨.ref C::us,kw⟩)) :=
 ⟨r.hd,by have:=r.dp;rw[nB];lia,by have:=r.un;rw[Wl];lia⟩
theorem Hf.depth{k:Nat}{A:Around}(r:Hf k A):A.depth<recursionLimit:=by have:=r.dp;lia
theorem Hf.units{k:Nat}{A:Around}(r:Hf k A):A.units+64<cLine:=by have:=r.un;lia
def RM:TA:=λ_ H Q=>Q [] H
def MW(ta:TE)(tr:TA):TA:=λσ H Q=>ta σ H λx H1=>tr σ H1 λxs H2=>Q (x::xs) H2
section
variable{X:Cx}{e:Expr}{es:List Expr}{te:TE}{t:TA}{pos:Pos}
theorem Gq:PA X [] RM:=λ_ _ _ _ H Q I h=>Calls.spliced_nil ⟨[],H,I,.nil,h⟩
theorem Ge(ha:PE X e te)(hr:PA X es t)(hs:starEach (e::es) X.env=(false,eval e X.env)::starEach es X.env:=by rfl):PA X (e::es) (MW te t):=by
 intro pos Fo s σ H Q I h
 rw[hs]
 show wpAny _ _ (spliced ((false,eval e X.env)::backTo pos (starEach es X.env))) _ _ s
 refine Cy (HY (ha Fo s σ H _ I h) λu s1 ⟨x,H1,I1,r1,q1⟩=>?_)
 exact HY (hr pos Fo s1 σ H1 _ I1 q1) λus s2 ⟨xs,H2,I2,r2,q2⟩=>⟨x::xs,H2,I2,.cons r1 r2,q2⟩
def Ro(t:TA):TE:=λσ H Q=>t σ H λxs H1=>xs.length<=sizeLine/\∀p,H1 p=none->Q (.ref p) (Gi H1 p (.tup xs))
def RK(t:TA):TE:=λσ H Q=>t σ H λxs H1=>xs.length<=sizeLine/\∀p,H1 p=none->Q (.ref p) (Gi H1 p (.lst xs))
theorem Hz{x1}(h:PA X es t):PE X (.Tuple es x1 pos) (Ro t):=by
 intro Fo s σ H Q I hq
 refine wpAny_Tuple_spliced (HY (h pos Fo s σ H _ I hq) λus s1 ⟨xs,H1,I1,r,z,q⟩=>⟨by rw[<-r.length];exact z,?_⟩)
 have hf:H1 s1.heap.objs.size=none:=I1.hok.fresh (AG _)
 refine⟨.ref s1.heap.objs.size,Gi H1 s1.heap.objs.size (.tup xs),I1.laid (t':=s1.toks) (λb u e=>AC _ e) (AG _) ?_,rfl,q _ hf⟩
 exact⟨z,us,r,⟨_,AQ _ rfl,rfl,_,rfl,rfl⟩⟩
theorem Hy(h:PA X es t):PE X (.List es pos) (RK t):=by
 intro Fo s σ H Q I hq
 refine wpAny_List_spliced (HY (h pos Fo s σ H _ I hq) λus s1 ⟨xs,H1,I1,r,z,q⟩=>⟨by rw[<-r.length];exact z,?_⟩)
 have hf:H1 s1.heap.objs.size=none:=I1.hok.fresh (AG _)
 refine⟨.ref s1.heap.objs.size,Gi H1 s1.heap.objs.size (.lst xs),I1.laid (t':=s1.toks) (λb u e=>AC _ e) (AG _) ?_,rfl,q _ hf⟩
 exact⟨z,us,0,r,AQ _ rfl⟩
end
abbrev Sp:=List V->Hp->VK->XK->Prop
abbrev Jl:=List Env->Hp->Shared->XK->Value->Shared->Prop
structure JT(P:Program)(w:World)(K:W.Frag)(mg:Str->Option Value)(base:Heap)(A:Around)(outer:List Env)(s:Shared)(H:Hp):Prop where
 frames:A.frames=some outer
 mod:Mod K mg base
 bs:∀b o,base.get? b=some o->s.heap.get? b=some o/\H b=none
 bsz:base.objs.size<=s.heap.objs.size
 funs:s.heap.FunFrames base outer
 frf:∀b∈IQ outer,H b=none
 hok:IN P w H s.heap
 bare:AllBare s.gens
def CE(outer:List Env)(P:Program)(w:World)(H:Hp)(s:Shared)(Q:VK)(u:Value)(s':Shared):Prop :=
 ∃v H',s'.os=s.os/\AllBare s'.gens/\Un (IQ outer) [] H H' s.heap s'.heap/\IN P w H' s'.heap/\Gx v u/\Q v H'
def CR(CX:Jl)(outer:List Env)(P:Program)(w:World)(H:Hp)(s:Shared)(Q:VK)(E:XK)(r:Result)(s':Shared):Prop :=
 match r with
 |.ok (.ret u)=>CE outer P w H s Q u s'
 |.ok _=>False
 |.error e=>CX outer H s E e s'
structure Gw(P:Program)(w:World)(K:W.Frag)(mg:Str->Option Value)(base:Heap)(CX:Jl)(k:Nat)(f:Addr)(fd:FuncData)(ps:List Str)(sp:Sp):Prop where
 len:∀vs H Q E,sp vs H Q E->vs.length=ps.length
 run:∀(A:Around)(outer:List Env)(s:Shared)(H:Hp)(args:Args)(us:List Value)(vs:List V)(Q:VK)(E:XK),Hf k A->JT P w K mg base A outer s H->BindsTo s fd args (ps.zip us)->Gy vs us->sp vs H Q E ->
  codeAny (model P w) A (.call (.ref f) args) (CR CX outer P w H s Q E) s
theorem Gw.mono{P:Program}{w:World}{K:W.Frag}{mg:Str->Option Value}{base:Heap}{CX:Jl}{j k:Nat}{f:Addr}{fd:FuncData}{ps:List Str}{sp:Sp}(F:Gw P w K mg base CX j f fd ps sp)(h:j<=k) :
  Gw P w K mg base CX k f fd ps sp:=⟨F.len,λA outer s H args us vs Q E hr=>F.run A outer s H args us vs Q E (hr.mono h)⟩
theorem Gw.imp{P:Program}{w:World}{K:W.Frag}{mg:Str->Option Value}{base:Heap}{CX:Jl}{k:Nat}{f:Addr}{fd:FuncData}{ps:List Str}{sp sp':Sp}(F:Gw P w K mg base CX k f fd ps sp)
  (h:∀vs H Q E,sp' vs H Q E->sp vs H Q E):Gw P w K mg base CX k f fd ps sp' :=
 ⟨λvs H Q E q=>F.len vs H Q E (h _ _ _ _ q),λA outer s H args us vs Q E hr he hb hv hs=>F.run A outer s H args us vs Q E hr he hb hv (h _ _ _ _ hs)⟩
theorem JT.make{P:Program}{w:World}{K:W.Frag}{mg:Str->Option Value}{base:Heap}{A:Around}{outer:List Env}{s:Shared}{H:Hp}(e:JT P w K mg base A outer s H)(C:Addr)(us:List Value)(kw:List (Str×Value)) :
  JT P w K mg base (A.under (.builtin "type.__call__" ⟨.ref C::us,kw⟩)) outer s H:=⟨by first|exact e.frames|(simpa [Around.under,Code.envs,Code.isFrame,pushEnvs]using e.frames),e.mod,e.bs,e.bsz,e.funs,e.frf,e.hok,e.bare⟩
theorem JT.in1{P:Program}{w:World}{K:W.Frag}{mg:Str->Option Value}{base:Heap}{A:Around}{outer:List Env}{s:Shared}{H:Hp}(e:JT P w K mg base A outer s H) :
  JT P w K mg base A.in1 outer s H:=⟨e.frames,e.mod,e.bs,e.bsz,e.funs,e.frf,e.hok,e.bare⟩
section
variable{X:Cx}{Fo:List (Addr×Obj)}{σ:St}{H:Hp}{s s':Shared}
theorem Inv.env0(I:Inv X Fo σ H s):JT X.prog X.w X.K X.mg X.base X.A X.stack s H :=
 ⟨I.ok.frames,I.ok.mod,I.bs,BE I.ok.bsz I.sz,I.stack,I.stkFree,I.hok,I.bare⟩
theorem Inv.after{Q:VK}{u:Value}(I:Inv X Fo σ H s)(h:CE X.stack X.prog X.w H s Q u s'):EP X Fo σ Q u s':=by
 obtain⟨v,H',os,bare,un,hok,r,q⟩:=h
 obtain⟨hh,g,d,t,os'⟩:=s'
 obtain rfl:os'=s.os:=os
 exact⟨v,H',I.call (h':=hh) (g':=g) (d':=d) (t':=t) (ch:=[]) un hok bare (λb z=>absurd z (by simp)),r,q⟩
end
def OG(sp:Sp)(dvs:List V)(E:XK)(t:TA):TE:=λσ H Q=>t σ H λvs H1=>sp (vs++dvs) H1 Q E
def Ho(K:W.Frag)(fd:FuncData)(ps:List Str)(ds:List Value):Prop :=
 ∀(s:Shared)(us:List Value),K.In s.heap->(us++ds).length=ps.length->BindsTo s fd ⟨us,[]⟩ (ps.zip (us++ds))
theorem Ho.all{K:W.Frag}{fd:FuncData}{ps:List Str}(h:∀us:List Value,us.length=ps.length->bindArgs fd ⟨us,[]⟩=pure (ps.zip us)):Ho K fd ps []:=λs us _ hl=>by
 rw[BN]at hl ⊢
 exact .of_eq (h us hl)
def Od(CX:Jl)(X:Cx)(E:XK):Prop:=∀(Fo:List (Addr×Obj))(σ:St)(H:Hp)(s:Shared)(e:Value)(s':Shared),Inv X Fo σ H s->CX X.stack H s E e s'->X.xe e s'
section
variable{X:Cx}{CX:Jl}{k:Nat}{f C:Addr}{fd:FuncData}{ps:List Str}{sp:Sp}{dvs:List V}{ds:List Value}{E:XK}{x m:Str}{p pos apos:Pos}{e o:Expr}{es:List Expr}{ta:TE}{t:TA}
theorem lU{Fo:List (Addr×Obj)}{σ:St}{H:Hp}{s:Shared}{Q:VK}{us:List Value}{vs:List V}(F:Gw X.prog X.w X.K X.mg X.base CX k f fd ps sp)(hr:Hf k X.A)(hb:Ho X.K fd ps ds)(hd:Gy dvs ds)(hx:Od CX X E)
  (I:Inv X Fo σ H s) (r:Gy vs us) (h:sp (vs++dvs) H Q E):wpAny (model X.prog X.w) X.A (call (.ref f) us) (EP X Fo σ Q) X.xe s:=by
 have r2:Gy (vs++dvs) (us++ds):=r.append hd
 have hl:(us++ds).length=ps.length:=by rw[<-r2.length];exact F.len _ _ _ _ h
 refine E6 (DX (F.run X.A X.stack s H ⟨us,[]⟩ (us++ds) (vs++dvs) Q E hr I.env0 (hb s us I.kIn hl) r2 h) λr s' hq=>?_)
 cases r with
 |error e=>exact hx Fo σ H s e s' I hq
 |ok fl =>
  cases fl with
  |ret u=>exact I.after hq
  |next=>exact False.elim hq
  |brk=>exact False.elim hq
  |cont=>exact False.elim hq
theorem NI(F:Gw X.prog X.w X.K X.mg X.base CX k f fd ps sp)(hr:Hf k X.A)(hg:Gl X x)(hm:X.mg x=some (.ref f))(hk:W.keepIn X.K (.ref f)=true)(hb:Ho X.K fd ps ds)(hd:Gy dvs ds)(hx:Od CX X E)
  (ha:PA X (e::es) t) (hdb:(x==("__debug__" : Str))=false:=by decide) (he:starEach (e::es) X.env=(false,eval e X.env)::starEach es X.env:=by rfl) (hpl:(backTo pos (starEach es X.env)).any (·.1)=false:=by rfl) :
  PE X (.Call (.Name x p) (e::es) [] pos) (OG sp dvs E t):=by
 intro Fo s σ H Q I h
 refine BK (NA I hg hm ?_ hdb)
 refine Ej (h₀:=X.base) I.ok.mod.kin hk (HY (ha pos Fo s σ H _ I h) λus s1 ⟨vs,H1,I1,r,q⟩=>⟨I1.kIn,?_⟩) he hpl
 exact lU F hr hb hd hx I1 r q
structure Mk(K:W.Frag)(C f:Addr):Prop where
 makes:W.makesIn K C=true
 init:W.findIn K (.ref C) "__init__" = some (some (.ref f))
 fn:W.isFn K (.ref f)=true
 kp:W.keepIn K (.ref C)=true
end
section
variable{X:Cx}{CX:Jl}{k:Nat}{f C:Addr}{fd:FuncData}{ps ks:List Str}{sp:Sp}{E:XK}{x m:Str}{p pos apos kpos:Pos}{e o:Expr}{es:List Expr}{kws:List Keyword}{te ta:TE}{t tk:TA}{nm:Option Str}
structure fQ(K:W.Frag)(fd:FuncData)(ps ks:List Str)(g:List Value->List Value->List Value)(gV:List V->List V->List V):Prop where
 to:∀(s:Shared)(us ws:List Value),K.In s.heap->(g us ws).length=ps.length->BindsTo s fd ⟨us,ks.zip ws⟩ (ps.zip (g us ws))
 rel:∀{vs:List V}{us:List Value}{zs:List V}{ws:List Value},Gy vs us->Gy zs ws->Gy (gV vs zs) (g us ws)
variable{g:List Value->List Value->List Value}{gV:List V->List V->List V}
end
structure Gj(N P:List Str)(sc:Scope):Prop where
 kind:sc.kind=.function
 co:sc.isCoroutine=false
 gen:sc.isGenerator=false
 nd:N.Nodup
 pre:N.take P.length=P
 par:∀x∈P,sc.names.lookup x=some .local∨sc.names.lookup x=some .cell
 nofree:∀y∈sc.names,y.2≠.free
theorem Rg{kindOf:Str->Option NameKind}{x:Str}:∀{binds:List (Str×Value)}{m:Str->Option Value},(∀v,(x,v)∉binds)->bindL kindOf binds m x=m x
 |[],_,_=>rfl
 |(n,v)::r,m,h=>by
  unfold bindL
  rw[Rg λw hw=>h w (AK _ hw)]
  split
  ·have:x≠n:=by rintro rfl;exact h v AJ
   simp [this]
  ·rfl
theorem RE{kindOf:Str->Option NameKind}{x:Str}:∀{binds:List (Str×Value)}{m:Str->Option Value},(∀v,(x,v)∉binds)->bindC kindOf binds m x=m x
 |[],_,_=>rfl
 |(n,v)::r,m,h=>by
  unfold bindC
  rw[RE λw hw=>h w (AK _ hw)]
  split
  ·rfl
  ·have:x≠n:=by rintro rfl;exact h v AJ
   simp [this]
theorem Rk{kindOf:Str->Option NameKind}{x:Str}{v:Value}:∀{P:List Str}{vs:List Value}{i:Nat}{m:Str->Option Value},P.Nodup->P[i]?=some x->vs[i]?=some v->kindOf x=some .local ->
  bindL kindOf (P.zip vs) m x=some v
 |[],_,_,_,_,h,_,_=>by simp at h
 |_::_,[],_,_,_,_,h,_=>by simp at h
 |p::P,w::vs,0,m,nd,h1,h2,hk=>by
  simp at h1 h2;subst h1;subst h2
  show bindL kindOf ((p,w)::P.zip vs) m p=_
  unfold bindL
  rw[Rg λv hv=>(Cd.mp nd).1 (FV hv).1,AH hk]
  simp
 |p::P,w::vs,i+1,m,nd,h1,h2,hk=>by
  show bindL kindOf ((p,w)::P.zip vs) m x=_
  unfold bindL
  exact Rk (i:=i) (Cd.mp nd).2 (by simpa using h1) (by simpa using h2) hk
theorem Sy{kindOf:Str->Option NameKind}{x:Str}{v:Value}:∀{P:List Str}{vs:List Value}{i:Nat}{m:Str->Option Value},P.Nodup->P[i]?=some x->vs[i]?=some v->kindOf x≠some .local ->
  bindC kindOf (P.zip vs) m x=some v
 |[],_,_,_,_,h,_,_=>by simp at h
 |_::_,[],_,_,_,_,h,_=>by simp at h
 |p::P,w::vs,0,m,nd,h1,h2,hk=>by
  simp at h1 h2;subst h1;subst h2
  show bindC kindOf ((p,w)::P.zip vs) m p=_
  unfold bindC
  rw[RE λv hv=>(Cd.mp nd).1 (FV hv).1,AE hk]
  simp
 |p::P,w::vs,i+1,m,nd,h1,h2,hk=>by
  show bindC kindOf ((p,w)::P.zip vs) m x=_
  unfold bindC
  exact Sy (i:=i) (Cd.mp nd).2 (by simpa using h1) (by simpa using h2) hk
def start(N:List Str)(vs:List V):St:=vs.map some++List.replicate (N.length-vs.length) none
def Il(CX:Jl)(P:Program)(w:World)(K:W.Frag)(mg:Str->Option Value)(base:Heap)(N:List Str)(qual:Str)(scope:Scope)(f:Addr)(cd:Value)(A:Around)(outer:List Env)(s:Shared)(H:Hp)(E:XK):Cx where
 prog:=P
 w:=w
 K:=K
 mg:=mg
 base:=base
 A:=A.deeper (envOfC qual scope s.heap.objs.size f cd)
 N:=N
 s₀:=s
 H₀:=H
 env:=envOfC qual scope s.heap.objs.size f cd
 outer:=outer
 stack:=envOfC qual scope s.heap.objs.size f cd::outer
 ex:=[]
 calm:=true
 fn:=λ_=>true
 pn:=[]
 xe:=λe s'=>wpAny (model P w) (A.deeper (envOfC qual scope s.heap.objs.size f cd)) (leaving (envOfC qual scope s.heap.objs.size f cd) e) (λ_ s''=>CX outer H s E e s'') (λe' s''=>CX outer H s E e' s'') s'
theorem P3{sc:Scope}{n:Nat}{x:Str}(h:sc.names.lookup x=some .cell):∃c,(cellsFrom n sc.names []).lookup x=some c:=by
 have q:=Fb sc.names n [] (.inl h)
 exact Option.isSome_iff_exists.mp q
theorem Y4{CX:Jl}{P:Program}{w:World}{K:W.Frag}{mg:Str->Option Value}{base:Heap}{N ps:List Str}{qual:Str}{scope:Scope}{f:Addr}{cd:Value}{A:Around}{outer:List Env}{s s1:Shared}{H:Hp}{E:XK}{us:List Value}{vs:List V}
  (S:Gj N ps scope) (hd:A.handled=none) (e0:JT P w K mg base A outer s H) (hl:vs.length=ps.length) (r:Gy vs us)
  (x:InCallC s s.heap.objs.size (bindL (envOfC qual scope s.heap.objs.size f cd).kindOf (ps.zip us) λ_=>none) (cellsFrom (s.heap.objs.size+1) scope.names []) (bindC (envOfC qual scope s.heap.objs.size f cd).kindOf (ps.zip us) λ_=>none) s1) :
  Inv (Il CX P w K mg base N qual scope f cd A outer s H E) [] (start N vs) H s1:=by
 have hpl:ps.length<=N.length:=by have:=congrArg List.length S.pre;rw[Ah]at this;lia
 obtain⟨h1,tk,rfl,hk⟩:=x.done
 have noA:∀b:Addr,b∉(Il CX P w K mg base N qual scope f cd A outer s H E).ex:=λb z=>absurd (show b∈([]:List Addr) from z) (by simp)
 refine⟨⟨e0.mod,S.kind,rfl,rfl,AG _,λy z c h1 h2=>?_,λy hy=>?_,λy c _ h=>?_,λ_=>hd,Around.frames_deeper e0.frames,.inr ⟨rfl,rfl⟩,λb z=>absurd z (noA b),e0.bs,e0.bsz,λb _ _=>noA b,λb z=>absurd z (noA b),e0.funs,e0.frf⟩,
  rfl,e0.bare,Un.kept hk,⟨_,x.toInCall.ns,λi y v h1 h2 h3=>?_⟩,λy c h=>⟨_,x.cell y c h⟩,e0.hok.fresh (AG _),λy c h=>?_,λp hp=>absurd (show p∈([]:List (Addr×Obj)) from hp) (by simp),e0.hok.kept hk,?_⟩
 ·exact name_of_addr x.apart (DH h1) (DH h2)
 ·have hy:scope.names.lookup y=some .cell∨scope.names.lookup y=some .free:=hy
  rcases hy with hy|hy
  ·exact P3 hy
  ·exact absurd rfl (S.nofree _ (DH hy))
 ·exact Bf (x.above y c (DH h))
 ·have hi:i<vs.length:=by
   unfold start at h2
   by_cases hi:i<vs.length
   ·exact hi
   ·rw[C6 (by simpa using hi)]at h2
    rw[List.getElem?_replicate]at h2
    split at h2<;>cases h2
  have ha:vs[i]?=some v:=by
   unfold start at h2
   rw[Dl (by simpa using hi),Ag]at h2
   cases e:vs[i]? with
   |none=>rw[e]at h2;cases h2
   |some a=>rw[e]at h2;cases h2;rfl
  obtain⟨u,hu,rv⟩:=r.get ha
  have hp:ps[i]?=some y:=by
   rw[<-S.pre,FC (by lia)];exact h1
  have ndP:ps.Nodup:=by rw[<-S.pre];exact S.nd.sublist (Ex _ _)
  refine⟨u,rv,?_⟩
  rcases S.par y (Ad hp) with k|k
  ·exact .inl ⟨k,Rk ndP hp hu k⟩
  ·obtain⟨c,e⟩:=P3 (n:=s.heap.objs.size+1) k
   refine .inr ⟨.inl k,c,e,?_⟩
   have q:=x.cell y c e
   rw[Sy ndP hp hu (by show scope.names.lookup y≠_;rw[k];decide)]at q
   exact q
 ·exact e0.hok.fresh (Bf (x.above y c (DH h)))
 ·unfold start
  show _=N.length
  rw[AI,AB,BA]
  lia
theorem Q7{CX:Jl}{P:Program}{w:World}{K:W.Frag}{mg:Str->Option Value}{base:Heap}{k:Nat}{f:Addr}{name qual:Str}{params:Arguments}{body:List Stmt}{scope:Scope}{dV kV doc pm HQ ct oc:Value}{an od:Option Addr}
  {osl:Array (Option Value)} {N ps:List Str} {sp:Sp} (lk:K.lookup f=some ⟨oc,od,.func (W.fnOf name qual params body scope dV kV doc pm an HQ ct),osl⟩) (hcd:W.codeIn K HQ qual=true) (S:Gj N ps scope)
  (len:∀vs H Q E,sp vs H Q E->vs.length=ps.length)
  (Ie:∀(A:Around)(outer:List Env)(s:Shared)(H:Hp)(vs:List V)(Q:VK)(E:XK),Hf k (A.deeper (envOfC qual scope s.heap.objs.size f HQ))->sp vs H Q E ->
   ∃t,Ii (Il CX P w K mg base N qual scope f HQ A outer s H E) body t/\t { nx:=λ_ H'=>Q .non H',rt:=Q } (start N vs) H) :
  Gw P w K mg base CX (k+1) f (W.fnOf name qual params body scope dV kV doc pm an HQ ct) ps sp:=by
 refine⟨len,λA outer s H args us vs Q E hr e0 hb r hsp=>?_⟩
 have hl:=len _ _ _ _ hsp
 have KX:K.In s.heap:=e0.mod.kin.keeps λb o e=>(e0.bs b o e).1
 have lim:s.heap.NoLimit:=e0.mod.nolimit.keeps λb o e=>(e0.bs b o e).1
 have hkind:∀y∈ps.zip us,scope.names.lookup y.1=some .local∨(scope.names.lookup y.1=some .cell/\((cellsFrom (s.heap.objs.size+1) scope.names []).lookup y.1).isSome=true):=λ⟨n,v⟩ hy=>by
  rcases S.par n (FV hy).1 with q|q
  ·exact .inl q
  ·exact .inr ⟨q,Fb _ _ _ (.inl q)⟩
 refine codeAny_call_function hr.depth (KX _ _ lk) rfl S.co S.gen rfl (W.codeRec_of KX hcd) (hb _ _ _ _ ?_)
 refine wpAny_newFunctionEnv_cells S.kind hkind λenv he s1 x=>?_
 subst he
 refine⟨lim.keeps x.toInCall.keep,codeAny_func ?_⟩
 obtain⟨t,ht,hq⟩:=Ie A outer s H vs Q E (hr.deeper _) hsp
 have I:Inv (Il CX P w K mg base N qual scope f HQ A outer s H E) [] (start N vs) H s1:=Y4 S hr.hd e0 hl r x
 refine BL (ht [] s1 (start N vs) H _ I hq) (λfl s' hs=>?_) λe s' hs=>hs
 have fin:∀{σ':St}{H':Hp}{v:V}{u:Value},Inv (Il CX P w K mg base N qual scope f HQ A outer s H E) [] σ' H' s'->Gx v u->Q v H'->CE outer P w H s Q u s' :=
  λ{σ' H' v u} J rv q=>⟨v,H',J.os,J.bare,J.base,J.hok,rv,q⟩
 cases fl with
 |ret u =>
  obtain⟨v,σ',H',J,rv,q⟩:=hs
  exact fin J rv q
 |next =>
  obtain⟨σ',H',J,q⟩:=hs
  exact fin (v:=V.non) (u:=Value.none) J rfl q
 |brk =>
  obtain⟨_,_,_,q⟩:=hs
  exact False.elim q
 |cont =>
  obtain⟨_,_,_,q⟩:=hs
  exact False.elim q
section
variable{X:Cx}{x:Str}{p pos:Pos}{e:Expr}{es:List Expr}{t:TA}{id T:String}{r:List V->Hp->VK->Prop}
def qS(r:List V->Hp->VK->Prop)(t:TA):TE:=λσ H Q=>t σ H λvs H1=>r vs H1 Q
theorem IT(hc:Hw X (.builtin id) r)(hg:Gl X x)(hm:X.mg x=none)(hv:bootBuiltins x=some (.builtin id))(ha:PA X (e::es) t)(hn:x ≠ "__name__" := by decide)(hdb:(x==("__debug__" : Str))=false:=by decide)
  (he:starEach (e::es) X.env=(false,eval e X.env)::starEach es X.env:=by rfl) (hpl:(backTo pos (starEach es X.env)).any (·.1)=false:=by rfl):PE X (.Call (.Name x p) (e::es) [] pos) (qS r t):=by
 intro Fo s σ H Q I h
 refine BK (Jj I hg hm hv ?_ hn hdb)
 exact PyProof.Rows.callWith_builtin1 (HY (ha pos Fo s σ H _ I h) λus s1 ⟨vs,H1,I1,r1,q1⟩=>hc Fo s1 σ H1 vs us Q I1 r1 q1) he hpl
theorem Mh(hc:Hw X (.type T) r)(hg:Gl X x)(hm:X.mg x=none)(hv:bootBuiltins x=some (.type T))(ha:PA X (e::es) t)(hn:x ≠ "__name__" := by decide)(hdb:(x==("__debug__" : Str))=false:=by decide)
  (he:starEach (e::es) X.env=(false,eval e X.env)::starEach es X.env:=by rfl) (hpl:(backTo pos (starEach es X.env)).any (·.1)=false:=by rfl):PE X (.Call (.Name x p) (e::es) [] pos) (qS r t):=by
 intro Fo s σ H Q I h
 refine BK (Jj I hg hm hv ?_ hn hdb)
 exact BM (HY (ha pos Fo s σ H _ I h) λus s1 ⟨vs,H1,I1,r1,q1⟩=>hc Fo s1 σ H1 vs us Q I1 r1 q1) he hpl
end
end L2
namespace HT
open PySem PyProof.Rows
section
def lexLt:List Int->List Int->Bool
 |[],[]=>false
 |[],_::_=>true
 |_::_,[]=>false
 |x::xs,y::ys=>if x=y then lexLt xs ys else decide (x<y)
theorem lexLt_cons(x y:Int)(xs ys:List Int):lexLt (x::xs) (y::ys)=if x=y then lexLt xs ys else decide (x<y):=rfl
theorem lexLt_nil_nil:lexLt [] []=false:=rfl
theorem lexLt_nil_cons(y:Int)(ys:List Int):lexLt [] (y::ys)=true:=rfl
theorem lexLt_cons_nil(x:Int)(xs:List Int):lexLt (x::xs) []=false:=rfl
theorem eqAt_int(A:Around)(s:Shared)(a:Int)(t:Tok)(c:Int)(u:Tok):∃e,SeqAt.EqAt A s (.int a t) (.int c u) e/\(e=true↔a=c) :=
 ⟨(a==c),Ek a t c u,by simp⟩
theorem bC(A:Around)(s:Shared)(a:Int)(t:Tok)(c:Int)(u:Tok)(prog:Program)(w:World)(E:Value->Shared->Prop)(Q:Value->Shared->Prop)(h:Q (.bool (decide (a<c))) s) :
  wpAny (model prog w) A (richCompare .Lt (.int a t) (.int c u)) Q E s :=
 (EY h:wpAny (model prog w) A (compareOp .Lt (.int a t) (.int c u)) Q E s)
section
open PySem.SeqAt
open PySem.AutoSeq1 (wpAny_loadPart')
open PySem.MeetsSeq PySem.MeetsSeq2 PySem.MeetsSeq3
theorem tuple_lt_ints(l b:Addr)(items items2:Array Value)(n n2:Nat)(dd dd2:Option Addr)(sl sl2:Array (Option Value))(ns ms:List Int)(hi:IntsAre items.toList ns)(hj:IntsAre items2.toList ms) :
  Meets (Builtin.«tuple.__lt__» ⟨[.ref l,.ref b],[]⟩)
   (λ_ R s=>s.heap.get? l=some { cls:=.type "tuple",dict:=dd,data:=.seq items n,slots:=sl }/\s.heap.get? b=some { cls:=.type "tuple",dict:=dd2,data:=.seq items2 n2,slots:=sl2 } /\
    R (.ok (.ret (.bool (lexLt ns ms)))) s) :=
 .of_wp λprog w A R s h=>by
  obtain⟨hp,g,d,tk,os⟩:=s;obtain⟨hl,hb,h⟩:=h
  have f2:=FD
  have z1:items.size=ns.length:=by rw[<-hi.length];simp
  have z2:items2.size=ms.length:=by rw[<-hj.length];simp
  wp_walk using CQ hl,CQ hb,wpAny_forIn_list _ (λHU b s'=>b.1=none/\s'=⟨hp,g,d,tk,os⟩/\∃(vs ws:List Value)(ns' ms':List Int),HU=vs.zip ws /\
   IntsAre vs ns'/\IntsAre ws ms'/\ns'.length+items2.size=ms'.length+items.size/\R (.ok (.ret (.bool (lexLt ns' ms')))) ⟨hp,g,d,tk,os⟩) _
  case turn =>
   rintro⟨y,x⟩ HU b s' ⟨hb',rfl,vs,ws,ns',ms',hz,hvi,hwi,HX,hR⟩
   cases hvi with
   |nil=>rw[List.zip_nil_left]at hz;cases hz
   |cons a t hvi' =>
    cases hwi with
    |nil=>rw[List.zip_nil_right]at hz;cases hz
    |cons c u hwi' =>
     rw[Cz]at hz
     injection hz with hyx hrest
     injection hyx with hy hx
     subst hy hx
     rw[lexLt_cons]at hR
     simp only[Ai]at HX
     obtain⟨e,he,hiff⟩:=eqAt_int A.in1 ⟨hp,g,d,tk,os⟩ a t c u
     refine AA (he prog w _ _ ?_)
     cases e with
     |true =>
      rw[AH (hiff.mp rfl)]at hR
      wp_walk
      exact⟨rfl,rfl,_,_,_,_,hrest,hvi',hwi',by lia,hR⟩
     |false =>
      rw[AE (λq=>absurd (hiff.mpr q) AY)]at hR
      have hri:=bC A.in1 ⟨hp,g,d,tk,os⟩ a t c u prog w
      wp_walk using hri
      exact⟨_,rfl,by simpa using hR⟩
  case fin =>
   rintro⟨b1,b2⟩ s' ⟨hb',rfl,vs,ws,ns',ms',hz,hvi,hwi,HX,hR⟩
   simp only at hb'
   subst hb'
   have hv:lexLt ns' ms'=decide (items.size<items2.size):=by
    cases hvi with
    |nil =>
     cases hwi with
     |nil =>
      simp only[CD]at HX
      rw[lexLt_nil_nil]
      exact(AN (by lia)).symm
     |cons c u hw =>
      simp only[CD,Ai]at HX
      rw[lexLt_nil_cons]
      exact(AX (by lia)).symm
    |cons a t hv =>
     cases hwi with
     |nil =>
      simp only[CD,Ai]at HX
      rw[lexLt_cons_nil]
      exact(AN (by lia)).symm
     |cons c u hw =>
      rw[Cz]at hz
      cases hz
   rw[hv]at hR
   wp_walk
   exact⟨_,rfl,by simpa [Builtin.Tuple.tupleCompareSizes]using hR⟩
  case h =>
   exact⟨rfl,rfl,items.toList,items2.toList,ns,ms,rfl,hi,hj,by lia,h⟩
end
section
variable{prog:Program}{w:World}{A:Around}{E:Value->Shared->Prop}{s:Shared}
theorem lt_tupInts{l b:Addr}{items items2:Array Value}{ns ms:List Int}{Q:Value->Shared->Prop}(hl:IsTup s.heap l items)(hb:IsTup s.heap b items2)(hi:IntsAre items.toList ns)(hj:IntsAre items2.toList ms)
  (hu:A.units<cLine) (h:Q (.bool (lexLt ns ms)) s):wpAny (model prog w) A (compareOp .Lt (.ref l) (.ref b)) Q E s:=by
 obtain⟨⟨cls,dd,data,sl⟩,ho,hc,n,hd⟩:=id hl
 obtain⟨⟨cls2,dd2,data2,sl2⟩,ho2,hc2,n2,hd2⟩:=id hb
 simp only at hc hd hc2 hd2
 subst hc hd hc2 hd2
 exact Fn (op:=.Lt) ⟨_,ho,rfl⟩ ⟨_,ho2,rfl⟩ EF Fc (FN _ _) (tuple_lt_ints l b items items2 n n2 dd dd2 sl sl2 ns ms hi hj)
  ⟨ho,ho2,show Value.bool (lexLt ns ms)≠Value.notImplemented/\Q (.bool (lexLt ns ms)) s from⟨(λx=>nomatch x),h⟩⟩ hu
theorem cat_tup{t b:Addr}{vs ws:List Value}{Q:Value->Shared->Prop}(ht:IsTup s.heap t vs.toArray)(hb:IsTup s.heap b ws.toArray)(hv:vs≠[])
  (h1:ws=[]->Q (.ref t) s) (h2:ws≠[]->Q (.ref s.heap.objs.size) { s with heap:=s.heap.push { cls:=.type "tuple",data:=.seq (vs++ws).toArray } })
  (hsz:vs.length+ws.length<=sizeLine):wpAny (model prog w) A (binaryOp .Add (.ref t) (.ref b)) Q E s:=by
 obtain⟨⟨cls,dd,data,sl⟩,ho,hc,n,hd⟩:=id ht
 obtain⟨⟨cls2,dd2,data2,sl2⟩,ho2,hc2,n2,hd2⟩:=id hb
 simp only at hc hd hc2 hd2
 subst hc hd hc2 hd2
 have e:vs.toArray++ws.toArray=(vs++ws).toArray:=by simp
 by_cases hw:ws=[]
 ·exact HE ⟨_,ho,rfl⟩ ⟨_,ho2,rfl⟩ FK Gp D8 Dz (Dq _ _)
   (tuple_addW1 t b vs.toArray ws.toArray n n2 dd dd2 sl sl2 (by simpa using hv) (by simp [hw])) ⟨ho,ho2,h1 hw⟩
 ·refine HE ⟨_,ho,rfl⟩ ⟨_,ho2,rfl⟩ FK Gp D8 Dz (Dq _ _)
   (tuple_addW2 t b vs.toArray ws.toArray n n2 dd dd2 sl sl2 (by simpa using hv) (by simpa using hw) (by rw[Am,Am];exact hsz)) ⟨ho,ho2,?_⟩
  rw[e]
  exact h2 hw
def sIx(n d:Nat):Option Int->Nat
 |none=>d
 |some v=>if v<0 then (v+(n:Int)).toNat else min v.toNat n
theorem sIx_none(n d:Nat):sIx n d none=d:=rfl
theorem sIx_nat(n d k:Nat):sIx n d (some (k:Int))=min k n:=by
 show(if (k:Int)<0 then ((k:Int)+(n:Int)).toNat else min (k:Int).toNat n)=min k n
 rw[AE (by lia),Aw]
theorem YJ(n d:Nat)(hd:d<=n)(o:Option Int):sIx n d o<=n:=by
 cases o with
 |none=>exact hd
 |some v =>
  show(if v<0 then (v+(n:Int)).toNat else min v.toNat n)<=n
  by_cases hv:v<0
  ·rw[AH hv];lia
  ·rw[AE hv];exact Nat.min_le_right _ _
theorem S7(v:Int)(n d:Nat):(if v<0 then max (v+(n:Int)) 0 else min v (n:Int))=((sIx n d (some v):Nat):Int):=by
 show(if v<0 then max (v+(n:Int)) 0 else min v (n:Int))=(((if v<0 then (v+(n:Int)).toNat else min v.toNat n):Nat):Int)
 by_cases hv:v<0
 ·simp only[AH hv];lia
 ·simp only[AE hv];lia
theorem Wa(lo hi:Option Int)(n:Nat):Builtin.Slice.sliceAdjust lo hi 1 (n:Int)=(((sIx n 0 lo:Nat):Int),((sIx n n hi:Nat):Int)):=by
 have h1:¬ ((1:Int)<0):=by lia
 unfold Builtin.Slice.sliceAdjust
 simp only[h1,Bb]
 refine FE ?_ ?_
 ·cases lo with
  |none=>rfl
  |some v=>exact S7 v n 0
 ·cases hi with
  |none=>rfl
  |some v=>exact S7 v n n
theorem mI(i j:Nat):Builtin.Slice.slicePlaces (i:Int) (j:Int) 1=j-i:=by
 unfold Builtin.Slice.slicePlaces
 have h1:(1:Int)>0:=by lia
 simp only[h1,CA,Int.ediv_one]
 split<;>lia
theorem qJ{v:Value}{o:Option Int}{Q:Option Int->Shared->Prop}(p:IsPart v o)(h:Q o s):wpAny (model prog w) A (Builtin.Slice.slicePartIndex v) Q E s:=by
 cases p with
 |none=>exact slicePart_none h
 |int i t=>exact slicePart_int h
theorem sliceApplied_gen{sl:Addr}{vl vu:Value}{lo hi:Option Int}{n:Nat}{Q:Int×Int×Nat->Shared->Prop}(hs:s.heap.IsSliceOf sl vl vu .none)(pl:IsPart vl lo)(pu:IsPart vu hi)
  (h:Q (((sIx n 0 lo:Nat):Int),1,sIx n n hi-sIx n 0 lo) s):wpAny (model prog w) A (Builtin.Slice.sliceApplied (.ref sl) (pure (n:Int))) Q E s:=by
 obtain⟨os,hos,hcs,hds⟩:=id hs
 unfold Builtin.Slice.sliceApplied Builtin.Slice.sliceFields
 refine AA (AA (BI hos hds (x:=vl) rfl (AA (BI hos hds (x:=vu) rfl (AA (BI hos hds (x:=.none) rfl (AD ?_)))))))
 refine AA (slicePart_none ?_)
 show wpAny _ _ (if ((1:Int)==0)=true then _ else _) _ _ s
 rw[AE (by decide)]
 refine AA (qJ pl (AA (qJ pu (AA (AD ?_)))))
 show wpAny _ _ (match Builtin.Slice.sliceAdjust lo hi 1 (n:Int) with|(lo,hi)=>pure (lo,(1:Int),Builtin.Slice.slicePlaces lo hi 1)) _ _ s
 rw[Wa lo hi n]
 show wpAny _ _ (pure (((sIx n 0 lo:Nat):Int),(1:Int),Builtin.Slice.slicePlaces ((sIx n 0 lo:Nat):Int) ((sIx n n hi:Nat):Int) 1)) _ _ s
 rw[mI]
 exact AD h
theorem Yi(xs:Array Value)(i k:Nat):((List.range k).filterMap λ(m:Nat)=>xs[((i:Int)+(m:Int)*1).toNat]?).toArray=((xs.toList.drop i).take k).toArray:=by
 have e:(λ(m:Nat)=>xs[((i:Int)+(m:Int)*1).toNat]?)=λm=>xs[i+m]?:=by
  funext m
  have:((i:Int)+(m:Int)*1).toNat=i+m:=by lia
  rw[this]
 rw[e]
 have:=pick_run xs i k
 rw[List.filterMap_map]at this
 have e2:((λx=>xs[x]?) ∘ λx=>i+x)=λm=>xs[i+m]?:=rfl
 rw[e2]at this
 rw[this]
theorem getItem_tuple_cut{t sl:Addr}{items:Array Value}{vl vu:Value}{lo hi:Option Int}{Q:Value->Shared->Prop}(ht:IsTup s.heap t items)(hs:s.heap.IsSliceOf sl vl vu .none)(pl:IsPart vl lo)(pu:IsPart vu hi)
  (hw:¬ (sIx items.size 0 lo=0/\sIx items.size items.size hi=items.size))
  (h:Q (.ref s.heap.objs.size) { s with heap:=s.heap.push { cls:=.type "tuple",data:=.seq ((items.toList.drop (sIx items.size 0 lo)).take (sIx items.size items.size hi-sIx items.size 0 lo)).toArray } })
  (hsz:items.size<=sizeLine):wpAny (model prog w) A (getItem (.ref t) (.ref sl)) Q E s:=by
 have htake:sizeOk (.seq ((items.toList.drop (sIx items.size 0 lo)).take (sIx items.size items.size hi-sIx items.size 0 lo)).toArray):=by
  show((items.toList.drop (sIx items.size 0 lo)).take (sIx items.size items.size hi-sIx items.size 0 lo)).toArray.size<=sizeLine
  rw[Am,Ah,BH,AT]
  lia
 have hj:sIx items.size items.size hi<=items.size:=YJ _ _ (AG _) hi
 obtain⟨os,hos,hcs,hds⟩:=id hs
 have hTs:s.TypeIs (.ref sl) "slice" := ⟨os,hos,hcs⟩
 unfold getItem
 try with_reducible refine By ?_
 first|refine AA (AD ?_)|skip
 refine AA (wpAny_sequenceKey ht.typeIs (by decide) ?_)
 refine AA (BY (name:=Str.ofString "__getitem__") ht.typeIs Bn
  (Bi Bn ht.typeIs entry_tuple_getitem ?_ (args_tuple_getitem _ _)))
 show wpAny _ _ (Builtin.Tuple.tupleItemsOf (.ref t)>>=_) _ _ s
 refine AA (tupleItemsOf_ ht ?_)
 refine AA (HF hTs ?_)
 rw[AH (by decide)]
 refine AA (sliceApplied_gen hs pl pu ?_)
 have hno:¬ ((((sIx items.size 0 lo:Nat):Int)==0&&(1:Int)==1&&(sIx items.size items.size hi-sIx items.size 0 lo)==items.size)=true):=by
  intro q
  rw[AM,AM]at q
  have q1:((sIx items.size 0 lo:Nat):Int)=0:=eq_of_beq q.1.1
  have q2:sIx items.size items.size hi-sIx items.size 0 lo=items.size:=eq_of_beq q.2
  exact hw ⟨by lia,by lia⟩
 show wpAny _ _ (if (((sIx items.size 0 lo:Nat):Int)==0&&(1:Int)==1&&(sIx items.size items.size hi-sIx items.size 0 lo)==items.size)=true then _ else _) _ _ s
 rw[AE hno,Yi]
 first
  |exact AA (m:=Builtin.Tuple.tupleExact _) (BC (AD ⟨_,rfl,AD h⟩) htake)
  |exact AA (m:=Builtin.Tuple.tupleExact _) (BC (AA (AD (AD ⟨_,rfl,AD h⟩))) htake)
  |exact AA (AA (m:=Builtin.Tuple.tupleExact _) (BC (AD (AD ⟨_,rfl,AD h⟩)) htake))
  |exact AA (AA (m:=Builtin.Tuple.tupleExact _) (BC (AD ⟨_,rfl,AD h⟩) htake))
end
end
end HT
namespace L2
open PySem PySem.Spec PyProof.Rows
abbrev TO:=St->Hp->(Option Int->Hp->Prop)->Prop
def PO(X:Cx)(e:Option Expr)(t:TO):Prop :=
 ∀(Fo:List (Addr×Obj))(s:Shared)(σ:St)(H:Hp)(Q:Option Int->Hp->Prop),Inv X Fo σ H s->t σ H Q ->
  wpAny (model X.prog X.w) X.A (evalPart e X.env) (λu s'=>∃o H',Inv X Fo σ H' s'/\IsPart u o/\Q o H') X.xe s
def Xt:TO:=λ_ H Q=>Q none H
def lR(t:TE):TO:=λσ H Q=>t σ H λx H1=>∃i,x=.int i/\Q (some i) H1
theorem KI{ns:List Int}:∀{us:List Value},Gy (ns.map V.int) us->IntsAre us ns:=by
 induction ns with
 |nil=>intro us r;rw[Dr]at r;cases r;exact .nil
 |cons n ns ih =>
  intro us r
  rw[Ae]at r
  cases r with
  |cons r1 r2 =>
   obtain⟨t,e⟩:=r1
   subst e
   exact .cons n t (ih r2)
section
variable{X:Cx}{e:Expr}{te:TE}{lo hi:Option Expr}{tl th:TO}{pos p2:Pos}
theorem My:PO X none Xt:=by
 intro Fo s σ H Q I h
 rw[evalPart_none]
 exact AD ⟨none,H,I,.none,h⟩
theorem NR(h:PE X e te):PO X (some e) (lR te):=by
 intro Fo s σ H Q I hw
 rw[evalPart_some]
 refine HY (h Fo s σ H _ I hw) λu s1 ⟨x,H1,I1,r1,q1⟩=>?_
 obtain⟨i,rfl,q⟩:=q1
 obtain⟨t,rfl⟩:=r1
 exact⟨some i,H1,I1,.int i t,q⟩
def LM(X:Cx)(r:V->Option Int->Option Int->Hp->VK->Prop):Prop :=
 ∀(Fo:List (Addr×Obj))(s:Shared)(σ:St)(H:Hp)(x:V)(v vl vu:Value)(lo hi:Option Int)(sl:Addr)(Q:VK),Inv X Fo σ H s->Gx x v->s.heap.IsSliceOf sl vl vu .none->IsPart vl lo->IsPart vu hi->r x lo hi H Q ->
  ∃T id,typeLookup (.type T) "__getitem__" = pure (some (.builtin id))/\s.TypeIs v T/\wpAny (model X.prog X.w) X.A (getItem v (.ref sl)) (EP X Fo σ Q) X.xe s
theorem LM.or{r r':V->Option Int->Option Int->Hp->VK->Prop}(h:LM X r)(h':LM X r'):LM X (λx lo hi H Q=>r x lo hi H Q∨r' x lo hi H Q):=by
 intro Fo s σ H x v vl vu lo hi sl Q I rx hs pl pu q
 rcases q with q|q
 ·exact h Fo s σ H x v vl vu lo hi sl Q I rx hs pl pu q
 ·exact h' Fo s σ H x v vl vu lo hi sl Q I rx hs pl pu q
def sF(r:V->Option Int->Option Int->Hp->VK->Prop)(te:TE)(tl th:TO):TE:=λσ H Q=>te σ H λx H1=>tl σ H1 λl H2=>th σ H2 λu H3=>r x l u H3 Q
theorem Mz{r:V->Option Int->Option Int->Hp->VK->Prop}(hr:LM X r)(he:PE X e te)(hl:PO X lo tl)(hu:PO X hi th):PE X (.Subscript e (.Slice lo hi none p2) pos) (sF r te tl th):=by
 intro Fo s σ H Q I h
 refine Subscript_ (HY (he Fo s σ H _ I h) λv s1 ⟨x,H1,I1,r1,q1⟩=>?_)
 refine wpAny_Slice (HY (hl Fo s1 σ H1 _ I1 q1) λvl s2 ⟨l,H2,I2,pl,q2⟩=>HY (hu Fo s2 σ H2 _ I2 q2) λvu s3 ⟨u,H3,I3,pu,q3⟩=>?_)
 rw[evalPart_none]
 refine AD ?_
 have I4:Inv X Fo σ H3 { s3 with heap:=s3.heap.push { cls:=.type "slice",data:=.fields #[vl,vu,.none] } }:=I3.kept (t':=s3.toks) λb ob q=>AC _ q
 obtain⟨T,id,hT,ht,hg⟩:=hr Fo { s3 with heap:=s3.heap.push { cls:=.type "slice",data:=.fields #[vl,vu,.none] } } σ H3 x v vl vu l u s3.heap.objs.size Q I4 r1 (Heap.IsSliceOf.new ..) pl pu q3
 show wpAny (model X.prog X.w) X.A (subscriptTail e (.Slice lo hi none p2) v (.ref s3.heap.objs.size)) (EP X Fo σ Q) X.xe { s3 with heap:=s3.heap.push { cls:=.type "slice",data:=.fields #[vl,vu,.none] } }
 exact tail_any (ops:=[.ref s3.heap.objs.size,v]) ht hT hg (by with_unfolding_all rfl)
def KR(xs:List V)(lo hi:Option Int):List V:=(xs.drop (HT.sIx xs.length 0 lo)).take (HT.sIx xs.length xs.length hi-HT.sIx xs.length 0 lo)
theorem qM(xs:List V)(lo hi:Option Int):(KR xs lo hi).length<=xs.length:=by
 unfold KR
 rw[Ah,BH]
 lia
def Z1(K:W.Frag):V->Option Int->Option Int->Hp->VK->Prop:=λx lo hi H Q=>∃a xs,x=.ref a/\HL K H a xs /\
 ¬ (HT.sIx xs.length 0 lo=0/\HT.sIx xs.length xs.length hi=xs.length)/\∀p,H p=none->Q (.ref p) (Gi H p (.tup (KR xs lo hi)))
theorem UD:LM X (Z1 X.K):=by
 intro Fo s σ H x v vl vu lo hi sl Q I rx hs pl pu h
 obtain⟨a,xs,rfl,hx,hw,q⟩:=h
 cases rx
 obtain⟨its,r,ht,hz⟩:=I.tuple hx
 have HX:its.toArray.size=xs.length:=by rw[Am];exact r.length.symm
 refine⟨"tuple",_,Bn.lookup,ht.typeIs,?_⟩
 refine HT.getItem_tuple_cut ht hs pl pu (by rw[HX];exact hw) ?_ (by rw[HX];exact hz)
 rw[HX]
 refine⟨.ref s.heap.objs.size,_,I.laid (t':=s.toks) (o:=.tup (KR xs lo hi)) (λb ob q=>AC _ q) (AG _) ?_,rfl,q _ (I.hok.fresh (AG _))⟩
 exact⟨BE (qM xs lo hi) hz,_,(r.drop (HT.sIx xs.length 0 lo)).take (HT.sIx xs.length xs.length hi-HT.sIx xs.length 0 lo),JN.new _ _⟩
def oI(K:W.Frag):R2:=λx y H Q=>∃a b xs ys,x=.ref a/\y=.ref b/\HL K H a xs/\HL K H b ys/\xs≠[]/\xs.length+ys.length<=sizeLine /\
 (ys=[]->Q (.ref a) H)/\(ys≠[]->∀p,H p=none->Q (.ref p) (Gi H p (.tup (xs++ys))))
theorem Gy.nil_iff{xs:List V}{us:List Value}(r:Gy xs us):us=[]↔xs=[]:=by
 cases r with
 |nil=>simp
 |cons _ _=>simp
theorem lW:IK X (binaryOp .Add) (oI X.K):=by
 intro Fo s σ H x y v u Q I rx ry h
 obtain⟨a,b,xs,ys,rfl,rfl,ha,hb,hx,hz,q1,q2⟩:=h
 cases rx
 cases ry
 obtain⟨its,r1,p1,_⟩:=I.tuple ha
 obtain⟨its2,r2,p2,_⟩:=I.tuple hb
 refine HT.cat_tup p1 p2 (λz=>hx (r1.nil_iff.mp z)) (λz=>⟨.ref a,H,I,rfl,q1 (r2.nil_iff.mp z)⟩) (λz=>?_) (by rw[<-r1.length,<-r2.length];exact hz)
 refine⟨.ref s.heap.objs.size,_,I.laid (t':=s.toks) (o:=.tup (xs++ys)) (λb ob q=>AC _ q) (AG _) ?_,rfl,q2 (λw=>z (r2.nil_iff.mpr w)) _ (I.hok.fresh (AG _))⟩
 exact⟨by rw[AI];exact hz,_,r1.append r2,JN.new _ _⟩
end
def Lr(n:Nat)(i:Int):Option Nat:=if 0<=i then (if i<n then some i.toNat else none) else if -(n:Int)<=i then some (i+n).toNat else none
def Jn{α:Type}(xs:List α)(i:Int):Option α:=(Lr xs.length i).bind λj=>xs[j]?
theorem S2{n:Nat}{i:Int}{j:Nat}(h:Lr n i=some j):seqIndex? i n=some j/\j<n/\-(n:Int)<=i/\i<n:=by
 unfold Lr at h
 by_cases h0:0<=i
 ·rw[AH h0]at h
  by_cases h1:i<n
  ·rw[AH h1]at h
   have e:i.toNat=j:=Al h
   exact⟨by rw[seqIndex_of h0 h1,e],by lia,by lia,h1⟩
  ·rw[AE h1]at h;cases h
 ·rw[AE h0]at h
  by_cases h1:-(n:Int)<=i
  ·rw[AH h1]at h
   have e:(i+n).toNat=j:=Al h
   exact⟨by rw[HG (by lia) h1,e],by lia,h1,by lia⟩
  ·rw[AE h1]at h;cases h
theorem Sr{α:Type}{xs:List α}{i:Int}{v:α}(h:Jn xs i=some v):∃j,seqIndex? i xs.length=some j/\xs[j]?=some v/\j<xs.length/\-(xs.length:Int)<=i/\i<xs.length:=by
 unfold Jn at h
 cases e:Lr xs.length i with
 |none=>rw[e]at h;cases h
 |some j =>
  rw[e]at h
  obtain⟨h1,h2,h3,h4⟩:=S2 e
  exact⟨j,h1,h,h2,h3,h4⟩
theorem LN{α:Type}{xs:List α}{j:Nat}{v:α}(h:xs[j]?=some v):Jn xs (j:Int)=some v:=by
 have hj:j<xs.length:=(Ab.mp h).1
 have e:Lr xs.length (j:Int)=some j:=by
  unfold Lr
  rw[AH (by lia),AH (by lia)];simp
 unfold Jn;rw[e];exact h
def Qo(b:Expr):Prop:=∀o i,subscripted b false o i=operate [o,i] (getItem o i)
def N3(X:Cx)(r:R2):Prop :=
 ∀(value slice:Expr)(Fo:List (Addr×Obj))(s:Shared)(σ:St)(H:Hp)(x y:V)(v u:Value)(Q:VK),Inv X Fo σ H s->Gx x v->Gx y u->r x y H Q ->
  subscripted slice false v u=operate [v,u] (getItem v u)->wpAny (model X.prog X.w) X.A (subscriptTail value slice v u) (EP X Fo σ Q) X.xe s
def Sm(X:Cx)(id:String)(r:V->List V->Hp->VK->Prop):Prop :=
 ∀(Fo:List (Addr×Obj))(s:Shared)(σ:St)(H:Hp)(x:V)(xs:List V)(v:Value)(us:List Value)(Q:VK),Inv X Fo σ H s->Gx x v->Gy xs us->r x xs H Q ->
  wpAny (model X.prog X.w) X.A (call (.builtin id) (v::us)) (EP X Fo σ Q) X.xe s
section
variable{X:Cx}{a b:Expr}{ta tb:TE}{pos:Pos}
theorem N3.or{r r':R2}(h:N3 X r)(h':N3 X r'):N3 X (λx y H Q=>r x y H Q∨r' x y H Q):=by
 intro value slice Fo s σ H x y v u Q I rx ry q hs
 rcases q with q|q
 ·exact h value slice Fo s σ H x y v u Q I rx ry q hs
 ·exact h' value slice Fo s σ H x y v u Q I rx ry q hs
theorem Sm.or{id:String}{r r':V->List V->Hp->VK->Prop}(h:Sm X id r)(h':Sm X id r'):Sm X id (λx xs H Q=>r x xs H Q∨r' x xs H Q):=by
 intro Fo s σ H x xs v us Q I rx rs q
 rcases q with q|q
 ·exact h Fo s σ H x xs v us Q I rx rs q
 ·exact h' Fo s σ H x xs v us Q I rx rs q
theorem JH{r:R2}(hr:N3 X r)(ha:PE X a ta)(hb:PE X b tb)(hs:Qo b):PE X (.Subscript a b pos) (SU r ta tb):=by
 intro Fo s σ H Q I h
 exact Subscript_ (Oa ha hb I h λv u s2 x y H2 I2 rx ry q=>hr a b Fo s2 σ H2 x y v u Q I2 rx ry q (hs _ _))
def T7(K:W.Frag):R2:=λx y H Q=>∃p xs i v,x=.ref p/\y=.int i/\HK K H p xs/\Jn xs i=some v/\Q v H
def kT(K:W.Frag):R2:=λx y H Q=>∃p xs i v,x=.ref p/\y=.int i/\HL K H p xs/\Jn xs i=some v/\Q v H
theorem KU:N3 X (T7 X.K):=by
 intro value slice Fo s σ H x y v u Q I rx ry h hs
 obtain⟨p,xs,i,z,rfl,rfl,hq,he,q⟩:=h
 cases rx
 obtain⟨t,rfl⟩:=ry
 obtain⟨its,r,pl,hz⟩:=I.list hq
 obtain⟨j,h1,h2,h3,h4,h5⟩:=Sr he
 obtain⟨w,ew,rw'⟩:=r.get h2
 have hl:=r.length
 have hn:=Ve
 have fin:EP X Fo σ Q w s:=⟨z,H,I,rw',q⟩
 by_cases h0:0<=i
 ·have hj:i.toNat=j:=by
   rw[seqIndex_of h0 h5]at h1
   exact Al h1
  exact item_listR pl.isList h0 (by lia) (by rw[hj];simpa using ew) fin hs
 ·have hj:(i+(its.toArray.size:Int)).toNat=j:=by
   rw[HG (by lia) h4]at h1
   rw[Am,<-hl]
   exact Al h1
  exact subscriptTail_builtinR (x:=w) pl.isList.typeIs slot_list_getitem.lookup
   (wpAny_getItem_list_neg (Q:=λr s'=>r=w/\EP X Fo σ Q r s') pl.isList (by lia) (by rw[Am]<;>lia) (by lia) (by rw[hj];simpa using ew) ⟨rfl,fin⟩) hs
theorem Mq:N3 X (kT X.K):=by
 intro value slice Fo s σ H x y v u Q I rx ry h hs
 obtain⟨p,xs,i,z,rfl,rfl,hq,he,q⟩:=h
 cases rx
 obtain⟨t,rfl⟩:=ry
 obtain⟨its,r,pl,hz⟩:=I.tuple hq
 obtain⟨j,h1,h2,h3,h4,h5⟩:=Sr he
 obtain⟨w,ew,rw'⟩:=r.get h2
 have hl:=r.length
 have hn:=Ve
 have fin:EP X Fo σ Q w s:=⟨z,H,I,rw',q⟩
 exact subscriptTail_builtinR (x:=w) pl.typeIs slot_tuple_getitem.lookup
  (getItem_tuple (j:=j) (Q:=λr s'=>r=w/\EP X Fo σ Q r s') pl (by lia) (by lia) (by rw[Am,<-hl];exact h1) (by simpa using ew) ⟨rfl,fin⟩) hs
theorem ZY(its:List Value)(n j:Nat)(u:Value):Obj.mapSeq (·.setIfInBounds j u) { cls:=.type "list",data:=.seq its.toArray n }={ cls:=.type "list",data:=.seq (its.set j u).toArray n }:=by
 simp [Obj.mapSeq]
theorem Inv.lst{Fo:List (Addr×Obj)}{σ:St}{H:Hp}{s:Shared}{p:Addr}{xs:List V}(I:Inv X Fo σ H s)(h:H p=some (.lst xs)) :
  ∃(its:List Value)(n:Nat),Gy xs its/\s.heap.get? p=some { cls:=.type "list",data:=.seq its.toArray n }/\xs.length<=sizeLine:=by
 obtain⟨z,its,n,r,e⟩:=I.hok p _ h
 exact⟨its,n,r,e,z⟩
theorem Inv.lstUpd{Fo:List (Addr×Obj)}{σ:St}{H:Hp}{s:Shared}{p:Addr}{xs ys:List V}{its its':List Value}{n n':Nat}{f:Obj->Obj}(I:Inv X Fo σ H s)(h:H p=some (.lst xs))
  (ho:s.heap.get? p=some { cls:=.type "list",data:=.seq its.toArray n }) (hf:f { cls:=.type "list",data:=.seq its.toArray n }={ cls:=.type "list",data:=.seq its'.toArray n' }) (r:Gy ys its') (hz:ys.length<=sizeLine) (t:Nat) :
  Inv X Fo σ (Gi H p (.lst ys)) { s with heap:=s.heap.update p f,toks:=t }:=by
 have e:(s.heap.update p f).get? p=some { cls:=.type "list",data:=.seq its'.toArray n' }:=by
  rw[BF f ho (by rw[hf]<;>rfl),hf]
 refine I.write (x:=p) (e:=p) (by rw[h];trivial) (.inl rfl) (λb u hb q=>(An _ _ (Bl hb)).trans q) ⟨_,e⟩ ?_
 exact⟨hz,its',n',r,e⟩
def eK:V->V->V->Hp->(Hp->Prop)->Prop:=λo i v H Q=>∃p xs k j,o=.ref p/\i=.int k/\H p=some (.lst xs)/\Lr xs.length k=some j/\Q (Gi H p (.lst (xs.set j v)))
theorem Tx:TX X eK:=by
 intro Fo s σ H o i v ov iv u Q I ro ri rv h
 obtain⟨p,xs,k,j,rfl,rfl,hp,hj,q⟩:=h
 cases ro
 obtain⟨t,rfl⟩:=ri
 obtain⟨its,n,r,ho,hz⟩:=I.lst hp
 obtain⟨h1,h2,h3,h4⟩:=S2 hj
 have hl:=r.length
 have hn:=Ve
 have I':Inv X Fo σ (Gi H p (.lst (xs.set j v))) { s with heap:=s.heap.update p (Obj.mapSeq (·.setIfInBounds j u)) } :=
  I.lstUpd hp ho (ZY its n j u) (r.set rv j) (by rw[List.length_set];exact hz) s.toks
 by_cases h0:0<=k
 ·have hk:k.toNat=j:=by
   rw[seqIndex_of h0 h4]at h1
   exact Al h1
  exact W.ki_setAt ho h0 (by lia) (by rw[Am,<-hl];exact h4) (by rw[hk];exact⟨_,I',q⟩)
 ·have hk:(k+(its.toArray.size:Int)).toNat=j:=by
   rw[HG (by lia) h3]at h1
   rw[Am,<-hl]
   exact Al h1
  exact W.ki_setBack ho (by lia) (by rw[Am,<-hl];exact h3) (by lia) (by rw[hk];exact⟨_,I',q⟩)
theorem YD(lo hi:Option Int)(n:Nat):(sliceBounds lo hi none n).1=((HT.sIx n 0 lo:Nat):Int)/\(sliceBounds lo hi none n).2.1=((HT.sIx n n hi:Nat):Int)/\(sliceBounds lo hi none n).2.2=1:=by
 refine⟨?_,?_,rfl⟩
 ·cases lo with
  |none=>simp [sliceBounds,HT.sIx]
  |some i =>
   simp only[sliceBounds,HT.sIx,Option.getD_none,show(1:Int)>0 by decide,CA]
   by_cases h:i<0
   ·simp only[h,CA]<;>lia
   ·simp only[h,Bb]<;>lia
 ·cases hi with
  |none=>simp [sliceBounds,HT.sIx]
  |some i =>
   simp only[sliceBounds,HT.sIx,Option.getD_none,show(1:Int)>0 by decide,CA]
   by_cases h:i<0
   ·simp only[h,CA]<;>lia
   ·simp only[h,Bb]<;>lia
theorem bQ(its:List Value)(lo hi:Option Int):slicePick its.toArray lo hi none=((its.drop (HT.sIx its.length 0 lo)).take (HT.sIx its.length its.length hi-HT.sIx its.length 0 lo)).toArray:=by
 obtain⟨h1,h2,h3⟩:=YD lo hi its.toArray.size
 unfold slicePick
 rw[h1,h2,h3]
 simp only[sliceRange_one,pick_run,Am]<;>rfl
def aN(K:W.Frag):V->Option Int->Option Int->Hp->VK->Prop:=λx lo hi H Q=>∃a xs,x=.ref a/\HK K H a xs/\∀p,H p=none->Q (.ref p) (Gi H p (.lst (KR xs lo hi)))
theorem sU:LM X (aN X.K):=by
 intro Fo s σ H x v vl vu lo hi sl Q I rx hs pl pu h
 obtain⟨a,xs,rfl,hx,q⟩:=h
 cases rx
 obtain⟨its,r,ht,hz⟩:=I.list hx
 have HX:=r.length
 refine⟨"list",_,slot_list_getitem.lookup,ht.isList.typeIs,?_⟩
 refine wpAny_getItem_list_slice ht.isList hs pl pu .none (by simp) ?_ (by rw[Am]<;>lia)
 rw[bQ,<-HX]
 refine⟨.ref s.heap.objs.size,_,I.laid (t':=s.toks) (o:=.lst (KR xs lo hi)) (λb ob q=>AC _ q) (AG _) ?_,rfl,q _ (I.hok.fresh (AG _))⟩
 exact⟨BE (qM xs lo hi) hz,_,0,(r.drop (HT.sIx xs.length 0 lo)).take (HT.sIx xs.length xs.length hi-HT.sIx xs.length 0 lo),AQ _ rfl⟩
def NU:V->Bool
 |.non=>true
 |.bl _=>true
 |.int _=>true
 |.str _=>true
 |_=>false
def Lg:V->V->Bool
 |.non,.non=>true
 |.bl a,.bl b=>a==b
 |.bl a,.int b=>(if a then 1 else 0)==b
 |.int a,.bl b=>a==(if b then 1 else 0)
 |.int a,.int b=>a==b
 |.str a,.str b=>a==b
 |_,_=>false
theorem ZL{A:Around}{s:Shared}{y x:V}{u v:Value}(ry:Gx y u)(rx:Gx x v)(fy:NU y=true)(fx:NU x=true):SeqAt.EqAt A s u v (Lg y x):=by
 cases y with
 |non =>
  cases ry
  cases x with
  |non=>cases rx;exact FW _
  |bl b=>cases rx;exact SeqAt.EqAt.none_bool b
  |int b=>obtain⟨t,rfl⟩:=rx;exact SeqAt.EqAt.none_int b t
  |str b=>obtain⟨t,rfl⟩:=rx;exact SeqAt.EqAt.none_str b t
  |_=>exact absurd (show false=true from fx) AY
 |bl a =>
  cases ry
  cases x with
  |non=>cases rx;exact SeqAt.EqAt.bool_none a
  |bl b=>cases rx;exact SeqAt.EqAt.bool_bool a b
  |int b=>obtain⟨t,rfl⟩:=rx;exact SeqAt.EqAt.bool_int a b t
  |str b=>obtain⟨t,rfl⟩:=rx;exact SeqAt.EqAt.bool_str a b t
  |_=>exact absurd (show false=true from fx) AY
 |int a =>
  obtain⟨t',rfl⟩:=ry
  cases x with
  |non=>cases rx;exact SeqAt.EqAt.int_none a t'
  |bl b=>cases rx;exact SeqAt.EqAt.int_bool a t' b
  |int b=>obtain⟨t,rfl⟩:=rx;exact Ek a t' b t
  |str b=>obtain⟨t,rfl⟩:=rx;exact SeqAt.EqAt.int_str a t' b t
  |_=>exact absurd (show false=true from fx) AY
 |str a =>
  obtain⟨t',rfl⟩:=ry
  cases x with
  |non=>cases rx;exact SeqAt.EqAt.str_none a t'
  |bl b=>cases rx;exact SeqAt.EqAt.str_bool a t' b
  |int b=>obtain⟨t,rfl⟩:=rx;exact SeqAt.EqAt.str_int a t' b t
  |str b=>obtain⟨t,rfl⟩:=rx;exact SeqAt.EqAt.str_str a t' b t
  |_=>exact absurd (show false=true from fx) AY
 |_=>exact absurd (show false=true from fy) AY
def L4(x:V)(u:Value):Bool:=match u with
 |.none=>Lg .non x
 |.bool b=>Lg (.bl b) x
 |.int i _=>Lg (.int i) x
 |.str z _=>Lg (.str z) x
 |_=>false
theorem Sq{x y:V}{u:Value}(r:Gx y u)(f:NU y=true):L4 x u=Lg y x:=by
 cases y with
 |non=>cases r;rfl
 |bl b=>cases r;rfl
 |int i=>obtain⟨t,rfl⟩:=r;rfl
 |str z=>obtain⟨t,rfl⟩:=r;rfl
 |_=>exact absurd (show false=true from f) AY
theorem Ov{x:V}:∀{xs:List V}{us:List Value},Gy xs us->xs.all NU=true->us.any (L4 x)=xs.any λy=>Lg y x
 |_,_,.nil,_=>rfl
 |y::xs,u::us,.cons r t,f=>by
  rw[C7,AM]at f
  rw[B8,B8,Sq r f.1,Ov t f.2]
theorem Zt{A:Around}{s:Shared}{x:V}{v:Value}(rx:Gx x v)(fx:NU x=true):∀{xs:List V}{us:List Value},Gy xs us->xs.all NU=true->∀u∈us,SeqAt.EqAt A s u v (L4 x u)
 |_,_,.nil,_=>λu hu=>by cases hu
 |y::xs,u::us,.cons r t,f=>λu' hu=>by
  rw[C7,AM]at f
  rcases AO.mp hu with rfl|hu
  ·rw[Sq r f.1];exact ZL r rx f.1 fx
  ·exact Zt rx fx t f.2 u' hu
def Vz(x:V)(xs:List V):Bool:=xs.any λy=>Lg y x
def rP(K:W.Frag)(neg:Bool):R2:=λx y H Q=>∃p xs,y=.ref p/\(HK K H p xs∨HL K H p xs)/\NU x=true/\xs.all NU=true/\Q (.bl (if neg then !Vz x xs else Vz x xs)) H
theorem Y6:IK X (compareOp .NotIn) (rP X.K true):=by
 intro Fo s σ H x y v u Q I rx ry h
 obtain⟨p,xs,rfl,hq,fx,fs,q⟩:=h
 cases ry
 rcases hq with hq|hq
 ·obtain⟨its,r,pl,hz⟩:=I.list hq
  refine SeqAt.notIn_listAt (L4 x) pl.isList (λw hw=>Zt rx fx r fs w (by simpa using hw)) ⟨.bl _,H,I,rfl,?_⟩
  rw[show its.toArray.any (L4 x)=its.any (L4 x) by simp,Ov r fs]
  exact q
 ·obtain⟨its,r,pl,hz⟩:=I.tuple hq
  refine SeqAt.notIn_tupleAt (L4 x) pl (λw hw=>Zt rx fx r fs w (by simpa using hw)) ⟨.bl _,H,I,rfl,?_⟩
  rw[show its.toArray.any (L4 x)=its.any (L4 x) by simp,Ov r fs]
  exact q
theorem K6:Hw X (.builtin "len") (λxs H Q=>∃p ys,xs=[.ref p]/\(HK X.K H p ys∨HL X.K H p ys)/\Q (.int ys.length) H):=by
 intro Fo s σ H xs us Q I r h
 obtain⟨p,ys,rfl,hq,q⟩:=h
 obtain⟨u,rfl,rx⟩:=KQ r
 cases rx
 have hn:=Ve
 rcases hq with hq|hq
 ·obtain⟨its,r',pl,hz⟩:=I.list hq
  have HX:=r'.length
  exact Calls.call_len_list pl.isList (by simp only[Am]<;>lia) ⟨.int ys.length,H,I.tok _,⟨s.toks+1,by rw[Am,HX]⟩,q⟩
 ·obtain⟨its,r',pl,hz⟩:=I.tuple hq
  have HX:=r'.length
  exact len_tuple pl (by simp only[Am]<;>lia) ⟨.int ys.length,H,I.tok _,⟨s.toks+1,by rw[Am,HX]⟩,q⟩
theorem Hw.or{f:Value}{r r':List V->Hp->VK->Prop}(h:Hw X f r)(h':Hw X f r'):Hw X f (λxs H Q=>r xs H Q∨r' xs H Q):=by
 intro Fo s σ H xs us Q I rs q
 rcases q with q|q
 ·exact h Fo s σ H xs us Q I rs q
 ·exact h' Fo s σ H xs us Q I rs q
theorem kU:Hw X (.type "list") (λxs H Q=>∃p ys,xs=[.ref p]/\(HK X.K H p ys∨HL X.K H p ys)/\∀l,H l=none->Q (.ref l) (Gi H l (.lst ys))):=by
 intro Fo s σ H xs us Q I r h
 obtain⟨p,ys,rfl,hq,q⟩:=h
 obtain⟨u,rfl,rx⟩:=KQ r
 cases rx
 have fin:∀(its:List Value),Gy ys its->ys.length<=sizeLine->∀(h':Heap)(c':Nat),(∀b o',s.heap.get? b=some o'->h'.get? b=some o') ->
   h'.get? s.heap.objs.size=some { cls:=.type "list",dict:=none,data:=.seq its.toArray c',slots:=#[] }->EP X Fo σ Q (.ref s.heap.objs.size) { s with heap:=h' }:=λits r' hz h' c' kp e =>
  ⟨.ref s.heap.objs.size,_,I.laid (t':=s.toks) kp (AG _) (show HM X.prog X.w _ h' _ (.lst ys) from⟨hz,its,c',r',e⟩),rfl,q _ (I.hok.fresh (AG _))⟩
 rcases hq with hq|hq
 ·obtain⟨its,r',pl,hz⟩:=I.list hq
  have HX:=r'.length
  obtain⟨o,ho,hc,n,hd⟩:=pl.isList
  exact call_list_seq p (.inl rfl) ho hc hd (λh' c' kp e=>fin its r' hz h' c' kp e) (by simp only[Am]<;>lia)
 ·obtain⟨its,r',pl,hz⟩:=I.tuple hq
  have HX:=r'.length
  obtain⟨o,ho,hc,n,hd⟩:=pl
  exact call_list_seq p (.inr rfl) ho hc hd (λh' c' kp e=>fin its r' hz h' c' kp e) (by simp only[Am]<;>lia)
theorem Pj:Hw X (.type "tuple") (λxs H Q=>∃p ys,xs=[.ref p]/\((HK X.K H p ys/\∀l,H l=none->Q (.ref l) (Gi H l (.tup ys)))∨(HL X.K H p ys/\Q (.ref p) H))):=by
 intro Fo s σ H xs us Q I r h
 obtain⟨p,ys,rfl,h⟩:=h
 obtain⟨u,rfl,rx⟩:=KQ r
 cases rx
 rcases h with⟨hq,q⟩|⟨hq,q⟩
 ·obtain⟨its,r',pl,hz⟩:=I.list hq
  have HX:=r'.length
  refine call_tuple_list pl.isList (λh' kp=>?_) (by simp only[Am]<;>lia)
  have I1:Inv X Fo σ H { s with heap:=h' }:=I.kept (t':=s.toks) kp
  have I2:Inv X Fo σ (Gi H h'.objs.size (.tup ys)) { s with heap:=h'.push { cls:=.type "tuple",data:=.seq its.toArray } } :=
   I1.laid (t':=s.toks) (λb o e=>AC _ e) (AG _) (show HM X.prog X.w _ _ _ (.tup ys) from⟨hz,its,r',JN.new _ _⟩)
  exact⟨.ref h'.objs.size,_,I2,rfl,q _ (I1.hok.fresh (AG _))⟩
 ·obtain⟨its,r',pl,hz⟩:=I.tuple hq
  exact call_tuple_same pl ⟨.ref p,H,I,rfl,q⟩
def qT(K:W.Frag)(T:String)(x:V)(H:Hp):Prop:=match x with
 |.str _=>T = "str"
 |.int _=>T = "int"
 |.ref p=>(T = "list" /\ ∃xs,HK K H p xs)∨(T = "tuple" /\ ∃o,K.lookup p=some o/\o.cls=.type "tuple" /\ o.dict=none) ∨
   (T = "dict" /\ ((∃kvs,H p=some (.dK kvs))∨∃kvs,H p=some (.dT kvs)))∨(T = "set" /\ ∃S n,H p=some (.set S n))
 |_=>False
theorem iV{Fo:List (Addr×Obj)}{σ:St}{H:Hp}{s:Shared}{T:String}{x:V}{v:Value}(I:Inv X Fo σ H s)(r:Gx x v)(ty:qT X.K T x H) :
  s.TypeIs v T/\∀a,v=.ref a->∃ob,s.heap.get? a=some ob/\ob.dict=none:=by
 cases x with
 |str z =>
  obtain⟨t,rfl⟩:=r
  cases(show T = "str" from ty)
  exact⟨typeIs_str s z t,λ_ e=>nomatch e⟩
 |int i =>
  obtain⟨t,rfl⟩:=r
  cases(show T = "int" from ty)
  exact⟨E7 s i t,λ_ e=>nomatch e⟩
 |ref p =>
  cases r
  rcases ty with⟨rfl,xs,hq⟩|⟨rfl,o,hk,hc,hd⟩|⟨rfl,hk⟩|⟨rfl,S,n,hk⟩
  ·obtain⟨its,_,pl,_⟩:=I.list hq
   refine⟨pl.isList.typeIs,λa e=>?_⟩
   cases e
   obtain⟨o,n,e,c,hd,_⟩:=pl
   exact⟨o,e,hd⟩
  ·refine⟨⟨o,I.kIn p o hk,hc⟩,λa e=>?_⟩
   cases e
   exact⟨o,I.kIn _ o hk,hd⟩
  ·have z:∃o,s.heap.get? p=some o/\o.ExactDict:=by
    rcases hk with⟨kvs,hk⟩|⟨kvs,hk⟩
    ·obtain⟨_,_,_,_,o,_,_,e,ex,_⟩:=I.hok p _ hk
     exact⟨o,e,ex⟩
    ·obtain⟨_,_,_,_,o,_,_,e,ex,_⟩:=I.hok p _ hk
     exact⟨o,e,ex⟩
   obtain⟨o,e,ex⟩:=z
   refine⟨⟨o,e,ex.1⟩,λa e2=>?_⟩
   cases e2
   exact⟨o,e,ex.2.1⟩
  ·obtain⟨o,_,_,_,e,ex,_⟩:=I.hok p _ hk
   refine⟨⟨o,e,ex.1⟩,λa e2=>?_⟩
   cases e2
   exact⟨o,e,ex.2.1⟩
 |_=>exact False.elim ty
def rW(K:W.Frag)(T:String)(r:V->List V->Hp->VK->Prop)(to:TE)(t:TA):TE:=λσ H Q=>to σ H λx H1=>qT K T x H1/\t σ H1 λxs H2=>r x xs H2 Q
variable{o e:Expr}{es:List Expr}{to:TE}{t:TA}{name:Str}{apos cpos:Pos}{T id:String}{r:V->List V->Hp->VK->Prop}
theorem Lc(pa:PlainAttrs T)(slot:Slot T name id)(hty:typeOf (.builtin id)=pure (.type "method_descriptor"))(hm:Sm X id r)(ho:PE X o to)(ha:PA X (e::es) t)
  (hbase:attributeBase o name X.env (eval o X.env)=eval o X.env:=by rfl)
  (hfew:((backTo cpos (starEach (e::es) X.env)).all (λx=>!x.1)&&(backToKw cpos (keywordEach [] X.env)).all (λx=>x.1.isSome)
   && decide ((e::es).length+([]:List Keyword).length+(if ([]:List Keyword).isEmpty then 0 else 1)<30))=true:=by rfl)
  (hline:(apos.endLine==cpos.line)=true:=by rfl) (hs:starEach (e::es) X.env=(false,eval e X.env)::starEach es X.env:=by rfl) (hplain:(backTo cpos (starEach es X.env)).any (·.1)=false:=by rfl) :
  PE X (.Call (.Attribute o name apos) (e::es) [] cpos) (rW X.K T r to t):=by
 intro Fo s σ H Q I h
 refine wpAny_Call_method_late hbase hfew hline rfl (HY (ho Fo s σ H _ I h) λv s1 ⟨x,H1,I1,r1,ty,q1⟩=>?_)
 obtain⟨h1,h2⟩:=iV I1 r1 ty
 refine⟨T,id,pa,slot,hty,h1,h2,?_⟩
 have hA:=ha cpos Fo s1 σ H1 _ I1 q1
 rw[hs]at hA ⊢
 refine Cs (by show(false||(backTo cpos (starEach es X.env)).any (·.1))=false;rw[hplain]<;>rfl) (DY ?_)
 exact HY hA λus s2 ⟨vs,H2,I2,r2,q2⟩=>hm Fo s2 σ H2 x vs v us Q I2 r1 r2 q2
end
def qO(X:Cx)(id:String)(r:V->List V->Hp->VK->Prop):Prop :=
 ∀(Fo:List (Addr×Obj))(s:Shared)(σ:St)(H:Hp)(x:V)(xs:List V)(v:Value)(us:List Value)(Q:VK),Inv X Fo σ H s->Gx x v->Gy xs us->r x xs H Q ->
  wpAny (model X.prog X.w) X.A (call (.builtin id) (v::us)) (EP X Fo σ Q) X.xe s
theorem Gy.one:∀{x:V}{us:List Value},Gy [x] us->∃u,us=[u]/\Gx x u
 |_,_,.cons r .nil=>⟨_,rfl,r⟩
theorem Gy.two:∀{x y:V}{us:List Value},Gy [x,y] us->∃u v,us=[u,v]/\Gx x u/\Gx y v
 |_,_,_,.cons r (.cons q .nil)=>⟨_,_,rfl,r,q⟩
theorem Gy.reverse{xs:List V}{us:List Value}(h:Gy xs us):Gy xs.reverse us.reverse:=by
 induction h with
 |nil=>exact .nil
 |cons r t ih=>rw[Ey,Ey];exact Gy.append ih (.cons r .nil)
theorem Gy.rep{xs:List V}{us:List Value}(h:Gy xs us):∀k:Nat,Gy (List.replicate k xs).flatten (List.replicate k us).flatten
 |0=>.nil
 |k+1=>by
  rw[A4,A4,Bv,Bv]
  exact Gy.append h (Gy.rep h k)
theorem Qh(its:List Value):∀(k:Nat)(acc:List Value),
  List.foldl (λx1 x2=>x1++x2) acc.toArray (List.replicate k its.toArray)=(acc++(List.replicate k its).flatten).toArray
 |0,acc=>by simp
 |k+1,acc=>by
  have e:acc.toArray++its.toArray=(acc++its).toArray:=by simp
  have e2:(acc++its)++(List.replicate k its).flatten=acc++(List.replicate (k+1) its).flatten:=by
   rw[A4,Bv,Ac]
  rw[<-e2,<-Qh its k (acc++its),<-e,A4,B3]
section
variable{X:Cx}{Fo:List (Addr×Obj)}{σ:St}{H:Hp}{s:Shared}{l b:Addr}{xs ys zs:List V}
theorem Inv.lset{its its':List Value}{n:Nat}{f:Array Value->Array Value}{t':Nat}(I:Inv X Fo σ H s)(hH:H l=some (.lst xs))
  (e:s.heap.get? l=some { cls:=.type "list",data:=.seq its.toArray n }) (hf:f its.toArray=its'.toArray) (hv:Gy ys its') (hz:ys.length<=sizeLine) :
  Inv X Fo σ (Gi H l (.lst ys)) { s with heap:=s.heap.update l (Obj.mapSeq f),toks:=t' }:=by
 have q:=PySem.IsL.update e f
 rw[hf]at q
 refine I.write (x:=l) (e:=l) (by rw[hH];exact trivial) (.inl rfl) (λb' u hb hu=>(An s.heap (Obj.mapSeq f) (Bl hb)).trans hu) ⟨_,q⟩ ?_
 exact⟨hz,its',_,hv,q⟩
theorem Inv.lnew{its:List Value}{t':Nat}(I:Inv X Fo σ H s)(hv:Gy ys its)(hz:ys.length<=sizeLine) :
  Inv X Fo σ (Gi H s.heap.objs.size (.lst ys)) { s with heap:=s.heap.push { cls:=.type "list",data:=.seq its.toArray },toks:=t' } :=
 I.laid (λ_ _ q=>AC _ q) (AG _) ⟨hz,its,0,hv,AQ _ rfl⟩
theorem Inv.fresh(I:Inv X Fo σ H s):H s.heap.objs.size=none:=I.hok.fresh (AG _)
theorem Inv.lstM(I:Inv X Fo σ H s)(hH:H l=some (.lst xs)):xs.length<=sizeLine/\∃(its:List Value)(n:Nat),Gy xs its/\xs.length=its.length/\s.heap.get? l=some { cls:=.type "list",data:=.seq its.toArray n }:=by
 obtain⟨z,its,n,r,e⟩:=I.hok l _ hH
 exact⟨z,its,n,r,r.length,e⟩
theorem Q1{n:Nat}(h:n<=sizeLine):Builtin.List.listTooLong n=false:=by
 unfold Builtin.List.listTooLong
 exact AN (by lia)
end
section
variable{X:Cx}
def Yf:V->List V->Hp->VK->Prop:=λx vs H Q=>∃l xs y,x=.ref l/\vs=[y]/\H l=some (.lst xs)/\xs.length<sizeLine/\Q .non (Gi H l (.lst (xs++[y])))
theorem Lu:qO X "list.append" Yf:=by
 intro Fo s σ H x vs v us Q I rx rv h
 obtain⟨l,xs,y,rfl,rfl,hH,hz,q⟩:=h
 cases rx
 obtain⟨u,rfl,ru⟩:=rv.one
 obtain⟨z,its,n,r,hl,e⟩:=I.lstM hH
 refine DO F.slot_list_append ⟨_,e,rfl⟩ F.entry_list_append (F.args_list_append_2 _ _) (PySem.list_append l its.toArray n u (by rw[Am];lia)) ⟨e,?_⟩
 refine⟨.non,_,I.lset (its':=its++[u]) hH e (by simp) (r.append (.cons ru .nil)) ?_,rfl,q⟩
 rw[AI,BB]
 lia
def iQ:V->List V->Hp->VK->Prop:=λx vs H Q=>∃l b xs zs,x=.ref l/\vs=[.ref b]/\H l=some (.lst xs)/\H b=some (.lst zs)/\xs.length+zs.length<=sizeLine/\Q .non (Gi H l (.lst (xs++zs)))
theorem nM:qO X "list.extend" iQ:=by
 intro Fo s σ H x vs v us Q I rx rv h
 obtain⟨l,b,xs,zs,rfl,rfl,hH,hB,hz,q⟩:=h
 cases rx
 obtain⟨u,rfl,ru⟩:=rv.one
 cases ru
 obtain⟨z,its,n,r,hl,e⟩:=I.lstM hH
 obtain⟨z2,its2,n2,r2,hl2,e2⟩:=I.lstM hB
 have hsz:its.toArray.size+its2.toArray.size<=sizeLine:=by rw[Am,Am];lia
 have hlong:¬ (!its.toArray.isEmpty&&Builtin.List.listTooLong (its.toArray.size+its2.toArray.size))=true:=by
  rw[Q1 hsz,Ft]
  exact AY
 refine DO F.slot_list_extend ⟨_,e,rfl⟩ F.entry_list_extend (F.args_list_extend_2 _ _)
  (AutoSeq1.list_extend_list_list_0 l its.toArray n b its2.toArray n2 hlong (by rw[Am];lia) (by lia)) ⟨e,e2,?_⟩
 refine⟨.non,_,I.lset (its':=its++its2) hH e (by simp) (r.append r2) ?_,rfl,q⟩
 rw[AI]
 lia
def jT:R2:=λx y H Q=>∃l b xs zs,x=.ref l/\y=.ref b/\H l=some (.lst xs)/\H b=some (.lst zs)/\xs.length+zs.length<=sizeLine/\∀p,H p=none->Q (.ref p) (Gi H p (.lst (xs++zs)))
theorem Lm:IK X (binaryOp .Add) jT:=by
 intro Fo s σ H x y v u Q I rx ry h
 obtain⟨l,b,xs,zs,rfl,rfl,hH,hB,hz,q⟩:=h
 cases rx
 cases ry
 obtain⟨z,its,n,r,hl,e⟩:=I.lstM hH
 obtain⟨z2,its2,n2,r2,hl2,e2⟩:=I.lstM hB
 refine PySem.P.add_list e e2 ?_ (by rw[Am,Am];lia)
 have ea:its.toArray++its2.toArray=(its++its2).toArray:=by simp
 rw[ea]
 exact⟨.ref _,_,I.lnew (t':=s.toks) (r.append r2) (by rw[AI];lia),rfl,q _ I.fresh⟩
def oF:R2:=λx y H Q=>∃l k xs,x=.ref l/\y=.int k/\H l=some (.lst xs)/\-(2^63)<=k/\k<2^63/\xs.length*k.toNat<=sizeLine /\
 ∀p,H p=none->Q (.ref p) (Gi H p (.lst (List.replicate k.toNat xs).flatten))
theorem QE{α:Type}(xs:List α)(k:Nat):(List.replicate k xs).flatten.length=k*xs.length:=by
 induction k with
 |zero=>simp
 |succ k ih=>rw[A4,Bv,AI,ih,DC,Gz]
theorem kQ:IK X (binaryOp .Mult) oF:=by
 intro Fo s σ H x y v u Q I rx ry h
 obtain⟨l,k,xs,rfl,rfl,hH,h1,h2,hz,q⟩:=h
 cases rx
 obtain⟨t,rfl⟩:=ry
 obtain⟨z,its,n,r,hl,e⟩:=I.lstM hH
 have HX:its.toArray.size*k.toNat<=sizeLine:=by rw[Am,<-hl];exact hz
 have hcap:¬ its.toArray.size*k.toNat>(2^63-1) / 8:=by
  have:(sizeLine:Nat)<=(2^63-1) / 8:=by decide
  lia
 have hfit:¬ (!Builtin.List.listFitsIndex k)=true:=by
  rw[fitsIndex_both h1 h2]
  exact AY
 have hlong:¬ Builtin.List.listTooLong (its.toArray.size*k.toNat)=true:=by
  rw[Q1 HX]
  exact AY
 have hnew:List.foldl (λx1 x2=>x1++x2) #[] (List.replicate (if its.toArray.isEmpty=true then 0 else k.toNat) its.toArray)=(List.replicate k.toNat its).flatten.toArray:=by
  have f0:∀m:Nat,List.foldl (λx1 x2=>x1++x2) #[] (List.replicate m its.toArray)=(List.replicate m its).flatten.toArray:=λm=>by
   have:=Qh its m []
   rw[CN]at this
   exact this
  rw[f0]
  cases its with
  |nil=>simp
  |cons a r'=>rw[AE (by simp)]
 refine E8 (T := "list") (U := "int") (by decide) ⟨_,e,rfl⟩ (λs'=>E7 s' k t) noFill_list_mul F.fills_int_mul F.slot_int_rmul repeat_list F.slot_int_index.lookup
  (DO F.slot_int_rmul (E7 s k t) F.entry_int_rmul (F.args_int_rmul_2 _ _) (int___rmul___int_list k t l its.toArray n)
   ⟨e,rfl,⟨_,e,rfl⟩,DO F.slot_list_mul ⟨_,e,rfl⟩ F.entry_list_mul (F.args_list_mul_2 _ _) (AutoListH.list___mul___list_int_3 l its.toArray n k t hfit hcap hlong) ⟨e,?_⟩⟩)
 rw[hnew]
 exact⟨.ref _,_,I.lnew (t':=s.toks) (r.rep k.toNat) (by rw[QE,DU];exact hz),rfl,q _ I.fresh⟩
end
end L2
namespace Att
open PySem PySem.W PySem.Calls PyProof.Rows
theorem qZ{P:Params}{h:Heap}:∀(ns:List Int)(vs:List Value),WellAll P h vs (ns.map WData.int)->IntsAre vs ns:=by
 intro ns
 induction ns with
 |nil =>
  intro vs w
  rw[Dr]at w
  cases w
  exact .nil
 |cons n ns ih =>
  intro vs w
  rw[Ae]at w
  cases w with
  |cons a b =>
   cases a
   exact .cons _ _ (ih _ b)
theorem Zs{l:OpenLaw}{n:Nat}(hn:l.most=some n){P:Params}{h:Heap}{args:List WData}{vals:List Value}
  (hpre:l.row.toRowW.claim.pre args=true) (hwl:WellAll P h vals args) :
  ∃a vs ns,vals=[Value.ref a]/\args=[WData.list (ns.map WData.int)]/\h.get? a=some { cls:=.type "list",data:=.seq vs.toArray }/\IntsAre vs ns/\ns.length<=n:=by
 have hsh:WShape.hasAll [] args [.list .int]=true:=(pre_splitW hpre).1
 have hc:l.pre.holds [] { args:=args }=true:=(pre_splitW hpre).2
 obtain⟨d,r,rfl,h1,h2⟩:=hasAllW_cons hsh
 obtain rfl:=hasAllW_nil h2
 obtain⟨xs,rfl,h3⟩:=hasW_list h1
 obtain⟨ns,rfl⟩:=items_int h3
 have HX:ns.length<=n:=by
  unfold OpenLaw.pre at hc
  have h4:(WTm.not (.lt (.lit (.int (n:Int))) (.len (.arg 0)))).holds [] { args:=[.list (ns.map .int)] }=true:=by
   have h4:=(holds_andW hc).1
   rw[hn]at h4
   exact h4
  have h5:=condW_of h4 (w_not (w_lt w_lit (w_len_list (w_arg rfl))))
  rw[AB]at h5
  refine Nat.le_of_not_lt λq=>?_
  have q':(n:Int)<((ns.length:Nat):Int):=by lia
  first
   |(rw[AX q']at h5;exact absurd h5 (by decide))
   |(simp at h5;lia)
 cases hwl with
 |cons w1 w2 =>
  cases w2
  cases w1 with
  |list ho hall=>exact⟨_,_,ns,rfl,rfl,ho,qZ ns _ hall,HX⟩
theorem Zr(l:OpenLaw)(args:List WData):l.row.toRowW.claim.post args (.bool true) args=true :=
 postW_of (r:=l.row.toRowW) (X:=(true==true))
  (show WShape.has [] (.bool true) .bool=true by first|rfl|decide|simp [WShape.has,WShape.arms,WShape.armsAll])
  (show(WTm.eq .res (.lit (.bool true))).value [] { args:=args,res:=some (.bool true),after:=args }=some (.bool (true==true)) from w_eq_bool (w_res rfl) w_lit) rfl
theorem attach_call{l:OpenLaw}{n:Nat}{q:Program}{loose:List Str}{XP:(Str->Option Value)->Heap->Prop}{YP:World->Heap->Prop}{d:DefRec}
  (hn:l.most=some n) (hdf:d.params.defaults=[])
  (call:∀(w:World)(s₀ s₁:Shared)(mg mb:Str->Option Value)(fa:Addr)(o:Obj)(pm cd doc:Value)(a:Addr)(vs:List Value)(ns:List Int),
   Ground q loose [] XP w s₀ mg mb s₁.heap->YP w s₁.heap ->
   s₁.heap.get? fa=some o->o.data=.func (docDef d.name d.params d.body d.scope pm cd doc)->s₁.heap.CodeRec cd d.name->mg d.name=some (.ref fa) ->
   s₁.heap.get? a=some { cls:=.type "list",data:=.seq vs.toArray }->IntsAre vs ns->ns.length<=n->s₁.gens=#[] ->
   codeAny (model l.prog w) callerA (.call (.ref fa) ⟨[.ref a],[]⟩) (λr s'=>r=.ok (.ret (.bool true))/\OldK s₁.heap s'.heap/\s'.os=s₁.os/\AllBare s'.gens) s₁) :
  WalkO q loose XP YP l.row.toRowW d [] (λf vs=>PySem.call f vs):=by
 intro w s₀ s₁ mg mb G Y fa o pm cd doc dV kV ho hd hcd hD hmg hg args vals as hpre hlay hrd hwl hlo
 obtain rfl:dV=.none:=Dflts.none hD hdf
 obtain rfl:kV=.none:=Dflts.noKw hD
 obtain⟨a,vs,ns,rfl,rfl,hobj,hints,HX⟩:=Zs hn hpre hwl
 refine enter_call (DX (call w s₀ s₁ mg mb fa o pm cd doc a vs ns G Y ho (fd_plain hd) hcd hmg hobj hints HX hg) λr s' hq=>?_)
 obtain⟨rfl,h2,h3,h4⟩:=hq
 exact⟨.inl ⟨.bool true,.bool true,[],rfl,λ_=>rfl,.bool true,Zr l _,λ_=>⟨List.Pairwise.nil,λ_ hm=>(nomatch hm)⟩⟩,h2,h3,h4⟩
section
variable{prog:Program}{w:World}{A:Around}{E:Value->Shared->Prop}{s:Shared}{K:Frag}
def rA(h:Heap)(L d:Addr):List (Addr×Obj):=(List.range h.objs.size).filterMap λa=>if a=L∨a=d then none else (h.get? a).map λo=>(a,o)
end
end Att
namespace L2
open PySem PySem.Spec PyProof.Rows
theorem SL:∀{vs:List Value}{ns:List Int},IntsAre vs ns->Gy (ns.map V.int) vs
 |_,_,.nil=>.nil
 |_,_,.cons n t h=>.cons ⟨t,rfl⟩ (SL h)
def Nw(H:Hp):Prop:=∀b,H b=none∨∃o xs,H b=some (.frz o (.lst xs))
theorem We{P:Program}{w:World}{K:W.Frag}{mg mb:Str->Option Value}{CX:Jl}{k:Nat}{fa a:Addr}{fd:FuncData}{x:Str}{sp:Sp}{s₁:Shared}{vs:List Value}{ns:List Int}
  (KX:K.In s₁.heap) (hns:s₁.heap.Ns mainGlobals mg) (hb:s₁.heap.Ns builtinsNs mb) (hbb:∀x:Str,x ≠ "__name__" -> mb x=bootBuiltins x) (hlim:s₁.heap.NoLimit) (hg:s₁.gens=#[])
  (ha:s₁.heap.get? a=some { cls:=.type "list",data:=.seq vs.toArray }) (hi:IntsAre vs ns) (hl:ns.length<=sizeLine) (hr:Hf k callerA)
  (F:∀base:Heap,K.In base->base.Ns mainGlobals mg->Gw P w K mg base CX k fa fd [x] sp) (hbind:∀(s:Shared)(u:Value),BindsTo s fd ⟨[u],[]⟩ [(x,u)])
  (hsp:∀H:Hp,Nw H->HK K H a (ns.map V.int)->sp [.ref a] H (λv _=>v=.bl true) λ_ _ _=>False)
  (hCX:∀H e s',CX [] H s₁ (λ_ _ _=>False) e s'->False) :
  codeAny (model P w) callerA (.call (.ref fa) ⟨[.ref a],[]⟩) (λr s'=>r=.ok (.ret (.bool true))/\OldK s₁.heap s'.heap/\s'.os=s₁.os/\AllBare s'.gens) s₁:=by
 have rv:=SL hi
 have lenV:=hi.length
 have core:∀H:Hp,Nw H->HK K H a (ns.map V.int)->IN P w H s₁.heap->(∀b,H b≠none->b=a)->(H a≠none->K.lookup a=none) ->
   codeAny (model P w) callerA (.call (.ref fa) ⟨[.ref a],[]⟩) (λr s'=>r=.ok (.ret (.bool true))/\OldK s₁.heap s'.heap/\s'.os=s₁.os/\AllBare s'.gens) s₁:=by
  intro H hO hS hok hA hK
  have base_of:∀{b:Addr}{o:Obj},s₁.heap.get? b=some o->H b=none->(Ma s₁.heap H).get? b=some o:=λe n=>Zg e n
  have noA:∀{b:Addr}{o:Obj}{es:Array DictEntry}{ep:Nat},s₁.heap.get? b=some o->o.data=.dict es ep->H b=none:=λ{b o es ep} e d=>by
   cases q:H b with
   |none=>rfl
   |some u =>
    have e':b=a:=hA b (by rw[q];simp)
    subst e'
    rw[ha]at e;cases e
    have d':Data.seq vs.toArray _=Data.dict es ep:=d
    cases d'
  have nsK:∀{b:Addr}{m:Str->Option Value},s₁.heap.Ns b m->(Ma s₁.heap H).Ns b m:=λ{b m} ⟨o,es,ep,e,d,r⟩=>⟨o,es,ep,base_of e (noA e d),d,r⟩
  have hKb:K.In (Ma s₁.heap H):=λb o e=>base_of (KX b o e) (by
   cases q:H b with
   |none=>rfl
   |some u =>
    have e':b=a:=hA b (by rw[q];simp)
    subst e'
    rw[hK (by rw[q];simp)]at e;cases e)
  have hM:Mod K mg (Ma s₁.heap H):=⟨hKb,nsK hns,⟨mb,nsK hb,hbb⟩,let ⟨mc,h1,h2⟩:=hlim;⟨mc,nsK h1,h2⟩⟩
  have e0:JT P w K mg (Ma s₁.heap H) callerA [] s₁ H:=⟨rfl,hM,λb o e=>cS e,Nat.le_of_eq (nY _ _),trivial,λb hb=>absurd (show b∈([]:List Addr) from hb) (by simp),hok,.of_eq hg⟩
  refine DX ((F _ hKb (nsK hns)).run callerA [] s₁ H ⟨[.ref a],[]⟩ [.ref a] [.ref a] _ _ hr e0 (hbind s₁ (.ref a)) (.cons rfl .nil) (hsp H hO hS)) λr s' h=>?_
  cases r with
  |error e=>exact(hCX H e s' h).elim
  |ok fl =>
   cases fl with
   |next=>exact False.elim h
   |brk=>exact False.elim h
   |cont=>exact False.elim h
   |ret u =>
    obtain⟨v,H',os,bare,un,hok',r',q⟩:=h
    have q':v=.bl true:=q
    subst q'
    obtain rfl:u=Value.bool true:=r'
    refine⟨rfl,OldK.of_keep λb o e=>?_,os,bare⟩
    cases q:H b with
    |none=>exact un.keep b o e q (by intro z;exact absurd (show b∈([]:List Addr) from z) (by simp)) (by simp)
    |some u =>
     rcases hO b with z|⟨ob,xs,z⟩
     ·rw[q]at z;cases z
     ·have z2:=un.frzs b ob _ z
      obtain⟨e1,_⟩:=hok b _ z
      obtain⟨e2,_⟩:=hok' b _ z2
      rw[e]at e1;cases e1
      exact e2
 cases hk:K.lookup a with
 |some o =>
  have e:=KX a o hk
  rw[ha]at e
  cases e
  refine core (λ_=>none) (λ_=>.inl rfl) (.inr ⟨_,vs.toArray,_,hk,rfl,rfl,rfl,by rw[Am,lenV];exact hl,by simpa using rv⟩) (λb u z=>by have z':(none:Option HO)=some u:=z;cases z') (λb z=>absurd rfl z) λz=>absurd rfl z
 |none =>
  refine core (λb=>if b=a then some (.frz { cls:=.type "list",data:=.seq vs.toArray } (.lst (ns.map V.int))) else none) (λb=>?_) (.inl (.inr ⟨{ cls:=.type "list",data:=.seq vs.toArray },AH rfl⟩)) (λb u z=>?_) (λb z=>?_) λ_=>hk
  ·by_cases hb:b=a
   ·exact .inr ⟨_,_,AH hb⟩
   ·exact .inl (AE hb)
  ·by_cases hb:b=a
   ·have z':=(AH hb).symm.trans z
    cases z'
    subst hb
    exact⟨ha,by rw[AB];exact hl,vs,_,rv,ha⟩
   ·have z':=(AE hb).symm.trans z
    cases z'
  ·by_cases hb:b=a
   ·exact hb
   ·exact absurd (AE hb) z
theorem walk_of{l:W.OpenLaw}{n k:Nat}{q:Program}{loose:List Str}{XP:(Str->Option Value)->Heap->Prop}{YP:World->Heap->Prop}{d:DefRec}{K:Params->W.Frag}{CX:World->Jl}{sp:World->Sp}{x:Str}
  (hn:l.most=some n) (hn2:n<=sizeLine) (hdf:d.params.defaults=[]) (hr:Hf k callerA)
  (hY:∀(w:World)(h:Heap),YP w h->(K w.params).In h)
  (F:∀(w:World)(mg:Str->Option Value)(fa:Addr)(h:Heap),(K w.params).In h->h.Ns mainGlobals mg->mg d.name=some (.ref fa) ->
   ∃fd:FuncData,(∀(s:Shared)(u:Value),BindsTo s fd ⟨[u],[]⟩ [(x,u)]) /\
    ∀base:Heap,(K w.params).In base->base.Ns mainGlobals mg->Gw l.prog w (K w.params) mg base (CX w) k fa fd [x] (sp w))
  (hsp:∀(w:World)(H:Hp)(a:Addr)(ns:List Int),ns.length<=n->Nw H->HK (K w.params) H a (ns.map V.int)->sp w [.ref a] H (λv _=>v=.bl true) λ_ _ _=>False)
  (hCX:∀(w:World)(H:Hp)(s:Shared)(e:Value)(s':Shared),CX w [] H s (λ_ _ _=>False) e s'->False) :
  W.WalkO q loose XP YP l.row.toRowW d [] (λf vs=>PySem.call f vs):=by
 refine Att.attach_call hn hdf λw s₀ s₁ mg mb fa o pm cd doc a vs ns G Y ho hd hcd hmg hobj hints HX hg=>?_
 have KX:=hY w _ Y
 obtain⟨fd,hb,hF⟩:=F w mg fa _ KX G.T.g hmg
 exact We KX G.T.g G.T.b G.T.builtins G.T.nolimit hg hobj hints (BE HX hn2) hr hF hb (λH hO hS=>hsp w H a ns HX hO hS) λH e s'=>hCX w H s₁ e s'
end L2
namespace L2
open PySem PySem.Spec PyProof.Rows
def NQ(s:Stmt):Arguments:=match s with
 |.FunctionDef _ a _ _ _ _ _ _ _ _=>a
 |_=>{ posonlyargs:=[],args:=[],vararg:=none,kwonlyargs:=[],kw_defaults:=[],kwarg:=none,defaults:=[] }
def Kz(s:Stmt):List Stmt:=match s with
 |.FunctionDef _ _ b _ _ _ _ _ _ _=>b
 |_=>[]
def HW(s:Stmt):Scope:=match s with
 |.FunctionDef _ _ _ _ _ _ sc _ _ _=>sc
 |_=>{ kind:=.function,names:=[],isGenerator:=false,isCoroutine:=false }
abbrev Hk:Jl:=λ_ _ _ _ _ _=>False
abbrev E0:XK:=λ_ _ _=>False
theorem Mw{X:Cx}:Od Hk X E0:=λ_ _ _ _ _ _ _ h=>h.elim
structure Hg(K:W.Frag)(x qual:Str)(st:Stmt)(f:Addr)(fd:FuncData):Prop where
 ex:∃(oc:Value)(od:Option Addr)(kV doc pm:Value)(an:Option Addr)(HQ ct:Value)(osl:Array (Option Value)),
  fd=W.fnOf x qual (NQ st) (Kz st) (HW st) .none kV doc pm an HQ ct/\K.lookup f=some ⟨oc,od,.func fd,osl⟩/\W.codeIn K HQ qual=true
 kp:W.keepIn K (.ref f)=true
section
variable{P:Program}{w:World}{K:W.Frag}{mg:Str->Option Value}{base:Heap}
theorem Hg.ok{x qual:Str}{st:Stmt}{f:Addr}{fd:FuncData}{N ps:List Str}{k:Nat}{sp:Sp}(F:Hg K x qual st f fd)(S:Gj N ps (HW st))(len:∀vs H Q E,sp vs H Q E->vs.length=ps.length)
  (Ie:∀(HQ:Value)(A:Around)(outer:List Env)(s:Shared)(H:Hp)(vs:List V)(Q:VK)(E:XK),Hf k (A.deeper (envOfC qual (HW st) s.heap.objs.size f HQ))->sp vs H Q E ->
   ∃t,Ii (Il Hk P w K mg base N qual (HW st) f HQ A outer s H E).nox (Kz st) t/\t { nx:=λ_ H'=>Q .non H',rt:=Q } (start N vs) H):Gw P w K mg base Hk (k+1) f fd ps sp:=by
 obtain⟨oc,od,kV,doc,pm,an,HQ,ct,osl,rfl,lk,hcd⟩:=F.ex
 refine Q7 lk hcd S len λA outer s H vs Q E hr hsp=>?_
 obtain⟨t,h,q⟩:=Ie HQ A outer s H vs Q E hr hsp
 exact⟨t,h.nox,q⟩
theorem Hg.binds{x qual:Str}{st:Stmt}{f:Addr}{fd:FuncData}{ps:List Str}(F:Hg K x qual st f fd)
  (h:∀(kV doc pm:Value)(an:Option Addr)(HQ ct:Value)(us:List Value),us.length=ps.length->bindArgs (W.fnOf x qual (NQ st) (Kz st) (HW st) .none kV doc pm an HQ ct) ⟨us,[]⟩=pure (ps.zip us)):Ho K fd ps []:=by
 obtain⟨oc,od,kV,doc,pm,an,HQ,ct,osl,rfl,lk,hcd⟩:=F.ex
 exact .all (h kV doc pm an HQ ct)
theorem Su{x qual:Str}{st:Stmt}{f:Addr}{oc:Value}{od an:Option Addr}{osl:Array (Option Value)}{kV doc pm HQ ct:Value}(l:K.lookup f=some ⟨oc,od,.func (W.fnOf x qual (NQ st) (Kz st) (HW st) .none kV doc pm an HQ ct),osl⟩)
  (c:W.codeIn K HQ qual=true) (k:W.keepIn K (.ref f)=true):Hg K x qual st f (W.fnOf x qual (NQ st) (Kz st) (HW st) .none kV doc pm an HQ ct):=⟨⟨oc,od,kV,doc,pm,an,HQ,ct,osl,rfl,l,c⟩,k⟩
end
theorem Ra{A:Around}{k:Nat}(hr:Hf k A):A.units+1<cLine:=BG (Bt (by decide:1<=64) _) hr.units
section
variable{X:Cx}
theorem pv(i:Nat){x:Str}{pos:Pos}(hN:X.N[i]?=some x:=by rfl)(hv:Vo X.env.scope x:=by first|exact Or.inl rfl|exact Or.inr (Or.inl rfl)|exact Or.inr (Or.inr rfl))(hd:(x==("__debug__" : Str))=false:=by decide)
  (hcd:(x==("__classdict__" : Str))=false:=by decide):PE X (.Name x pos) (MF i):=Vm hN hv hd hcd
end
theorem KW{A B:Prop}(h:B):if false=true then A else B:=by
 rw[AE AY]
 exact h
theorem Jr{A B:Prop}(h:A):if true=true then A else B:=by
 rw[AH rfl]
 exact h
theorem Nf{c A B:Prop}[Decidable c](h1:c->A)(h2:¬ c->B):if c then A else B:=by
 by_cases h:c
 ·rw[AH h]
  exact h1 h
 ·rw[AE h]
  exact h2 h
def Gf(H H':Hp):Prop:=∀b o,H b=some o->H' b=some o
theorem Gf.refl(H:Hp):Gf H H:=λ_ _ h=>h
theorem Gf.trans{H H1 H2:Hp}(a:Gf H H1)(b:Gf H1 H2):Gf H H2:=λc o h=>b c o (a c o h)
theorem Gf.free{H H':Hp}(e:Gf H H'){l:Addr}(h:H' l=Option.none):H l=Option.none:=by
 cases q:H l with
 |none=>rfl
 |some o =>
  rw[e l o q]at h
  cases h
theorem Gf.seq{K:W.Frag}{H H':Hp}{a:Addr}{xs:List V}(e:Gf H H')(h:HK K H a xs):HK K H' a xs:=by
 rcases h with(h|⟨o,h⟩)|h
 ·exact .inl (.inl (e _ _ h))
 ·exact .inl (.inr ⟨o,e _ _ h⟩)
 ·exact .inr h
section
variable{κ:Type}[DecidableEq κ]
def KJ(kvs:List (κ×V))(k:κ):Option V:=(kvs.find? λkv=>decide (kv.1=k)).map (·.2)
def Je(kvs:List (κ×V))(k:κ)(v:V):List (κ×V) :=
 if (kvs.any λkv=>decide (kv.1=k))=true then kvs.map (λkv=>if kv.1=k then (kv.1,v) else kv) else kvs++[(k,v)]
def UN(kvs:List (κ×V))(k:κ):List (κ×V):=kvs.filter λkv=>decide (kv.1≠k)
theorem Vr{p:κ×V}{r:List (κ×V)}{k:κ}(e:p.1=k):KJ (p::r) k=some p.2:=by simp [KJ,Bq,e]
theorem VV{p:κ×V}{r:List (κ×V)}{k:κ}(e:¬ p.1=k):KJ (p::r) k=KJ r k:=by simp [KJ,Bq,e]
theorem SZ(k:κ):∀kvs:List (κ×V),(kvs.any λkv=>decide (kv.1=k))=(KJ kvs k).isSome
 |[]=>rfl
 |p::r=>by
  rw[B8]
  by_cases e:p.1=k
  ·simp only[Vr e,AX e,Bool.true_or,Option.isSome_some]
  ·rw[VV e,AN e,Gk];exact SZ k r
theorem qQ(kvs:List (κ×V))(k:κ)(v:V):(Je kvs k v).length<=kvs.length+1:=by
 unfold Je
 split
 ·rw[AB];lia
 ·rw[AI,Ai,CD];lia
theorem IS.isSome_eq{o:Option V}{u:Option Value}(r:IS o u):o.isSome=u.isSome:=by
 cases o with
 |none=>cases u with
  |none=>rfl
  |some _=>exact(show False from r).elim
 |some _=>cases u with
  |none=>exact(show False from r).elim
  |some _=>rfl
theorem IS.getD{o:Option V}{u:Option Value}{d:V}{d':Value}(r:IS o u)(rd:Gx d d'):Gx (o.getD d) (u.getD d'):=by
 cases o with
 |none=>cases u with
  |none=>exact rd
  |some _=>exact(show False from r).elim
 |some _=>cases u with
  |none=>exact(show False from r).elim
  |some _=>exact r
theorem KV.val{kvs:List (κ×V)}{vs:List (κ×Value)}(r:KV kvs vs)(k:κ):IS (KJ kvs k) (valueAt vs k):=by
 unfold KV at r
 induction r with
 |nil=>exact True.intro
 |@cons p q ps qs h t ih =>
  obtain⟨h1,h2⟩:=h
  by_cases e:p.1=k
  ·have e':q.1=k:=h1.symm.trans e
   have b:valueAt (q::qs) k=some q.2:=by simp [valueAt,Bq,e']
   rw[Vr e,b];exact h2
  ·have e':¬ q.1=k:=λz=>e (h1.trans z)
   have b:valueAt (q::qs) k=valueAt qs k:=by simp [valueAt,Bq,e']
   rw[VV e,b];exact ih
theorem KV.any{kvs:List (κ×V)}{vs:List (κ×Value)}(r:KV kvs vs)(k:κ):(kvs.any λkv=>decide (kv.1=k))=vs.any λkv=>decide (kv.1=k):=by
 unfold KV at r
 induction r with
 |nil=>rfl
 |cons h t ih=>rw[B8,B8,ih,h.1]
theorem KV.repl{kvs:List (κ×V)}{vs:List (κ×Value)}(r:KV kvs vs)(k:κ){y:V}{u:Value}(ry:Gx y u) :
  KV (kvs.map λkv=>if kv.1=k then (kv.1,y) else kv) (vs.map λkv=>if kv.1=k then (kv.1,u) else kv):=by
 unfold KV at r ⊢
 induction r with
 |nil=>exact .nil
 |@cons p q ps qs h t ih =>
  rw[Ae,Ae]
  refine .cons ?_ ih
  obtain⟨h1,h2⟩:=h
  by_cases e:p.1=k
  ·rw[AH e,AH (h1.symm.trans e)];exact⟨h1,ry⟩
  ·rw[AE e,AE (λz=>e (h1.trans z))];exact⟨h1,h2⟩
theorem KV.put{kvs:List (κ×V)}{vs:List (κ×Value)}(r:KV kvs vs)(k:κ){y:V}{u:Value}(ry:Gx y u):KV (Je kvs k y) (stored vs k u):=by
 unfold Je stored
 rw[r.any k]
 by_cases e:(vs.any λkv=>decide (kv.1=k))=true
 ·rw[AH e,AH e];exact r.repl k ry
 ·rw[AE e,AE e];exact Cc r ⟨rfl,ry⟩
theorem KV.drop{kvs:List (κ×V)}{vs:List (κ×Value)}(r:KV kvs vs)(k:κ):KV (UN kvs k) (without vs k):=by
 unfold KV at r ⊢
 unfold UN without
 induction r with
 |nil=>exact .nil
 |@cons p q ps qs h t ih =>
  obtain⟨h1,h2⟩:=h
  rw[CH,CH]
  by_cases e:p.1=k
  ·have a:¬ decide (p.1≠k)=true:=by simp [e]
   have b:¬ decide (q.1≠k)=true:=by simp [h1.symm.trans e]
   rw[AE a,AE b];exact ih
  ·have e':¬ q.1=k:=λz=>e (h1.trans z)
   have a:decide (p.1≠k)=true:=by simp [e]
   have b:decide (q.1≠k)=true:=by simp [e']
   rw[AH a,AH b];exact .cons ⟨h1,h2⟩ ih
theorem KV.keys{kvs:List (κ×V)}{vs:List (κ×Value)}(r:KV kvs vs):kvs.map (·.1)=vs.map (·.1):=by
 unfold KV at r
 induction r with
 |nil=>rfl
 |cons h t ih=>rw[Ae,Ae,ih,h.1]
theorem KV.length{kvs:List (κ×V)}{vs:List (κ×Value)}(r:KV kvs vs):kvs.length=vs.length:=AL r
end
theorem Mg{P:Program}{w:World}{k:Hl}{u:Value}(r:Gx (kV k) u):(Jq P w).is k u=true:=by
 cases k with
 |inl i=>obtain⟨t,e⟩:=(show ∃t,u=Value.int i t from r);subst e;exact YK P w i t
 |inr x=>obtain⟨t,e⟩:=(show ∃t,u=Value.str x t from r);subst e;exact dQ P w x t
theorem UO{P:Program}{w:World}:∀{ks:List Hl}{us:List Value},Gy (ks.map kV) us->ItemsAre (Jq P w) ks us
 |[],_,r=>by rw[Dr]at r;cases r;exact .nil
 |k::ks,_,r=>by
  rw[Ae]at r
  cases r with
  |cons h t=>exact .cons (Mg h) (UO t)
abbrev KT(H:Hp):List (List Hl×V)->List (List Hl×Addr×Value)->Prop:=Paired λp q=>p.1=q.1/\H q.2.1=some (.tup (p.1.map kV))/\Gx p.2 q.2.2
theorem KT.val{H:Hp}{kvs:List (List Hl×V)}{xs:List (List Hl×Addr×Value)}(r:KT H kvs xs)(k:List Hl):IS (KJ kvs k) ((atKey xs k).map (·.2)):=by
 induction r with
 |nil=>exact True.intro
 |@cons p q ps qs h t ih =>
  obtain⟨h1,_,h2⟩:=h
  by_cases e:p.1=k
  ·have e':q.1=k:=h1.symm.trans e
   have b:atKey (q::qs) k=some q.2:=by simp [atKey,Bq,e']
   rw[Vr e,b];exact h2
  ·have e':¬ q.1=k:=λz=>e (h1.trans z)
   have b:atKey (q::qs) k=atKey qs k:=by simp [atKey,Bq,e']
   rw[VV e,b];exact ih
theorem KT.repl{H:Hp}{kvs:List (List Hl×V)}{xs:List (List Hl×Addr×Value)}(r:KT H kvs xs)(k:List Hl){y:V}{u:Value}(ry:Gx y u) :
  KT H (kvs.map λkv=>if kv.1=k then (kv.1,y) else kv) (xs.map (putAt k u)):=by
 induction r with
 |nil=>exact .nil
 |@cons p q ps qs h t ih =>
  rw[Ae,Ae]
  refine .cons ?_ ih
  obtain⟨h1,h2,h3⟩:=h
  unfold putAt
  by_cases e:p.1=k
  ·rw[AH e,AH (h1.symm.trans e)];exact⟨h1,h2,ry⟩
  ·rw[AE e,AE (λz=>e (h1.trans z))];exact⟨h1,h2,h3⟩
theorem KT.put{H:Hp}{kvs:List (List Hl×V)}{xs:List (List Hl×Addr×Value)}(r:KT H kvs xs)(k:List Hl){b:Addr}{y:V}{u:Value}(hb:H b=some (.tup (k.map kV)))(ry:Gx y u) :
  KT H (Je kvs k y) (storedH xs k b u):=by
 have e:(kvs.any λkv=>decide (kv.1=k))=(atKey xs k).isSome:=by
  rw[SZ,(r.val k).isSome_eq,Option.isSome_map]
 unfold Je storedH
 rw[e]
 by_cases q:(atKey xs k).isSome=true
 ·rw[AH q,AH q];exact r.repl k ry
 ·rw[AE q,AE q];exact Cc r ⟨rfl,hb,ry⟩
theorem KT.keeps{H H':Hp}{kvs:List (List Hl×V)}{xs:List (List Hl×Addr×Value)}(r:KT H kvs xs)(ht:∀b ys,H b=some (.tup ys)->H' b=some (.tup ys)):KT H' kvs xs :=
 Paired.mapP r λ_ _ z=>⟨z.1,ht _ _ z.2.1,z.2.2⟩
section
variable{P:Program}{w:World}{H:Hp}{h:Heap}{a:Addr}
theorem MG{u:HO}(ok:IN P w H h)(e:Rd H a u):HM P w H h a u:=e.ok ok
theorem RZ{kvs:List (Hl×V)}(ok:IN P w H h)(e:Rd H a (.dK kvs)):kvs.length<=sizeLine/\(a==sysModules)=false/\∃vs,KV kvs vs/\h.DictOf (Jq P w) a vs :=
 show HM P w H h a (.dK kvs) from MG ok e
theorem dJ{kvs:List (Hl×V)}(ok:IN P w H h)(e:H a=some (.dK kvs)):kvs.length<=sizeLine/\(a==sysModules)=false/\∃vs,KV kvs vs/\h.DictOf (Jq P w) a vs:=RZ ok (.inl e)
theorem VF{ks:List Hl}(ok:IN P w H h)(e:H a=some (.tup (ks.map kV))):(tupleKind (Jq P w)).is h ks a:=by
 obtain⟨_,its,r,o,h1,h2,n,h3⟩:=(show HM P w H h a (.tup (ks.map kV)) from ok a _ e)
 exact⟨o,its.toArray,n,h1,h2,h3.1,by simpa using UO r⟩
theorem SN{kvs:List (List Hl×V)}(ok:IN P w H h)(e:Rd H a (.dT kvs)):kvs.length<=sizeLine/\(a==sysModules)=false /\
  ∃xs,KT H kvs xs/\h.DictOfH (tupleKind (Jq P w)) a xs:=by
 obtain⟨z,y,xs,r,o,es,ep,h1,h2,h3,h4,h5⟩:=(show HM P w H h a (.dT kvs) from MG ok e)
 refine⟨z,y,xs,r,o,es,ep,h1,h2,h3,h4,λx hx=>?_,h5⟩
 have all:∀{l:List (List Hl×V)}{m:List (List Hl×Addr×Value)},KT H l m->∀x∈m,(tupleKind (Jq P w)).is h x.1 x.2.1:=by
  intro l m q
  induction q with
  |nil=>intro x hx;exact nomatch hx
  |@cons p q ps qs hq t ih =>
   intro x hx
   rcases AO.mp hx with e|hx
   ·subst e
    exact VF ok (by rw[<-hq.1];exact hq.2.1)
   ·exact ih x hx
 exact all r x hx
theorem aS{kvs:List (List Hl×V)}(ok:IN P w H h)(e:H a=some (.dT kvs)):kvs.length<=sizeLine/\(a==sysModules)=false /\
  ∃xs,KT H kvs xs/\h.DictOfH (tupleKind (Jq P w)) a xs:=SN ok (.inl e)
end
def IR(H:Hp)(a:Addr)(y:V)(r:Option V):Prop :=
 (∃kvs k,Rd H a (.dK kvs)/\y=kV k/\r=KJ kvs k)∨∃kvs k b,Rd H a (.dT kvs)/\y=.ref b/\H b=some (.tup (k.map kV))/\r=KJ kvs k
def Ix(H:Hp)(a:Addr)(y v:V)(H':Hp):Prop :=
 (∃kvs k,H a=some (.dK kvs)/\y=kV k/\kvs.length<sizeLine/\H'=Gi H a (.dK (Je kvs k v))) ∨
 ∃kvs k b,H a=some (.dT kvs)/\y=.ref b/\H b=some (.tup (k.map kV))/\kvs.length<sizeLine/\H'=Gi H a (.dT (Je kvs k v))
theorem IR.k{H:Hp}{a:Addr}{kvs:List (Hl×V)}{k:Hl}(e:H a=some (.dK kvs)):IR H a (kV k) (KJ kvs k):=.inl ⟨kvs,k,.inl e,rfl,rfl⟩
theorem IR.t{H:Hp}{a b:Addr}{kvs:List (List Hl×V)}{k:List Hl}(e:H a=some (.dT kvs))(eb:H b=some (.tup (k.map kV))):IR H a (.ref b) (KJ kvs k):=.inr ⟨kvs,k,b,.inl e,rfl,eb,rfl⟩
theorem Ix.k{H:Hp}{a:Addr}{kvs:List (Hl×V)}{k:Hl}{v:V}(e:H a=some (.dK kvs))(hl:kvs.length<sizeLine):Ix H a (kV k) v (Gi H a (.dK (Je kvs k v))):=.inl ⟨kvs,k,e,rfl,hl,rfl⟩
theorem Ix.t{H:Hp}{a b:Addr}{kvs:List (List Hl×V)}{k:List Hl}{v:V}(e:H a=some (.dT kvs))(eb:H b=some (.tup (k.map kV)))(hl:kvs.length<sizeLine) :
  Ix H a (.ref b) v (Gi H a (.dT (Je kvs k v))):=.inr ⟨kvs,k,b,e,rfl,eb,hl,rfl⟩
section
variable{X:Cx}{Fo:List (Addr×Obj)}{σ:St}{H:Hp}{s:Shared}{a:Addr}{y v:V}{u r:Value}{o:Option V}{A:Around}{E:Value->Shared->Prop}
theorem Inv.big(I:Inv X Fo σ H s):sysModules<s.heap.objs.size:=by
 have h:mainGlobals<s.heap.objs.size:=(I.mod.glob.keeps I.bk).lt
 exact Ds (by decide) h
theorem Z4{Q:Value->Shared->Prop}(hu:A.units+1<cLine)(I:Inv X Fo σ H s)(g:IR H a y (some v))(ry:Gx y u)(h:∀w' s',Inv X Fo σ H s'->Gx v w'->Q w' s') :
  wpAny (model X.prog X.w) A (getItem (.ref a) u) Q E s:=by
 rcases g with⟨kvs,k,e,ey,l⟩|⟨kvs,k,b,e,ey,eb,l⟩
 ·subst ey
  obtain⟨z,hd,vs,rel,dd⟩:=RZ I.hok e
  obtain⟨w',hw,rw'⟩:=IS.some_of (v:=v) (o:=valueAt vs k) (by rw[l];exact rel.val k)
  exact wpAny_getItem_of (Mg ry) dd.mapOf hw (h w' _ (I.tok _) rw')
 ·subst ey
  cases(show u=Value.ref b from ry)
  obtain⟨z,hd,xs,rel,dd⟩:=SN I.hok e
  obtain⟨w',hw,rw'⟩:=IS.some_of (v:=v) (o:=(atKey xs k).map (·.2)) (by rw[l];exact rel.val k)
  obtain⟨p,hp,hp2⟩:=Option.map_eq_some_iff.mp hw
  refine wpAny_getItem_heap (Er hu) (VF I.hok eb) dd hp ?_
  rw[hp2]
  exact h w' _ (I.tok _) rw'
theorem Rq{h':Heap}{t':Nat}{ob:HO}(I:Inv X Fo σ H s)(mu:Sk (H a))(hs:Heap.SameBut a s.heap h')(he:∃q,h'.get? a=some q)(new:HM X.prog X.w (Gi H a ob) h' a ob) :
  Inv X Fo σ (Gi H a ob) { s with heap:=h',toks:=t' } :=
 I.write (x:=a) (e:=a) mu (.inl rfl) (λb q hb z=>(hs.2 b hb).trans z) he new
theorem kZ{P:Program}{w:World}{H':Hp}{h':Heap}{kvs:List (Hl×V)}{vs:List (Hl×Value)}(z:kvs.length<=sizeLine)(hd:(a==sysModules)=false)(rel:KV kvs vs)(dd:h'.DictOf (Jq P w) a vs) :
  HM P w H' h' a (.dK kvs):=⟨z,hd,vs,rel,dd⟩
theorem X7{H':Hp}{Q:Unit->Shared->Prop}(hu:A.units+1<cLine)(I:Inv X Fo σ H s)(g:Ix H a y v H')(ry:Gx y u)(rv:Gx v r)(h:∀s',Inv X Fo σ H' s'->Q () s') :
  wpAny (model X.prog X.w) A (setItem (.ref a) u r) Q E s:=by
 rcases g with⟨kvs,k,e,ey,l,eH⟩|⟨kvs,k,b,e,ey,eb,l,eH⟩
 ·subst ey eH
  obtain⟨z,hd,vs,rel,dd⟩:=dJ I.hok e
  have hz:vs.length<=sizeLine:=by rw[<-rel.length];exact z
  have hl:(Je kvs k v).length<=sizeLine:=by have:=qQ kvs k v;lia
  refine wpAny_setItem_pairs (hsz:=hz) (Mg ry) dd λh' dd' hs=>h _ ?_
  have he:∃q,h'.get? a=some q:=let ⟨q,_,_,hq,_⟩:=dd';⟨q,hq⟩
  exact Rq I (by rw[e];exact True.intro) hs he (kZ hl hd (rel.put k rv) dd')
 ·subst ey eH
  cases(show u=Value.ref b from ry)
  obtain⟨z,hd,xs,rel,dd⟩:=aS I.hok e
  have hz:xs.length<=sizeLine:=by rw[<-AL rel];exact z
  have hl:(Je kvs k v).length<=sizeLine:=by have:=qQ kvs k v;lia
  refine wpAny_setItem_heap (hsz:=hz) (Er hu) (VF I.hok eb) dd λh' dd' hs=>h _ ?_
  obtain⟨q,es,ep,hq,h2,h3,h4,_,h5⟩:=dd'
  refine Rq I (by rw[e];exact True.intro) hs ⟨q,hq⟩ ⟨hl,hd,_,(rel.put k eb rv).keeps λc ys ec=>?_,q,es,ep,hq,h2,h3,h4,h5⟩
  rw[Ha (KL ec e (λz=>nomatch z))]
  exact ec
end
def Qv(i:Expr):Prop:=∀ov iv,subscripted i false ov iv=operate [ov,iv] (getItem ov iv)
theorem fL{prog:Program}{w:World}{A:Around}{E:Value->Shared->Prop}{s:Shared}{env:Env}{value slice:Expr}{pos:Pos}{T id:String}{Q:Value->Shared->Prop}
  (hl:typeLookup (.type T) "__getitem__" = pure (some (.builtin id))) (hs:Qv slice)
  (h:wpAny (model prog w) A (eval value env) (λo s₁=>wpAny (model prog w) A (eval slice env) (λi s₂=>s₂.TypeIs o T/\wpAny (model prog w) A (getItem o i) Q E s₂) E s₁) E s) :
  wpAny (model prog w) A (eval (.Subscript value slice pos) env) Q E s:=by
 refine Subscript_ (BL h (λo s₁ h₁=>BL h₁ (λi s₂ h₂=>?_) λ_ _ x=>x) λ_ _ x=>x)
 obtain⟨hT,h₂⟩:=h₂
 unfold subscriptTail
 refine AA ?_
 rw[getitemInPython_of_ne hT.not_modules]
 refine AA (wpAny_specialOf hT hl ?_)
 have fin:wpAny (model prog w) A (subscripted slice false o i) (λr s₃=>wpAny (model prog w) A (letTemporaryGo value o r>>=λ_=>pure r) Q E s₃) E s₂:=by
  rw[hs o i]
  exact wpAny_operating (BL h₂ (λr s₃ h₃=>AA (wpAny_letTemporaryGo (AD h₃))) λ_ _ x=>x)
 first
  |exact AD (AA fin)
  |exact AA (AD (AA fin))
  |exact AA fin
theorem lP{X:Cx}{Fo:List (Addr×Obj)}{σ:St}{H:Hp}{s:Shared}{a:Addr}{y:V}{o:Option V}(I:Inv X Fo σ H s)(g:IR H a y o):s.TypeIs (.ref a) "dict" := by
 rcases g with⟨kvs,k,e,_,_⟩|⟨kvs,k,b,e,_,_,_⟩
 ·obtain⟨_,_,vs,_,dd⟩:=RZ I.hok e
  exact dd.typeIs
 ·obtain⟨_,_,xs,_,dd⟩:=SN I.hok e
  exact dd.typeIs
def XF(td ty:TE):TE:=λσ H Q=>td σ H λx H1=>ty σ H1 λy H2=>∃a v,x=.ref a/\IR H2 a y (some v)/\Q v H2
def Yj(td ty tv:TE):TS:=λD σ H=>tv σ H λv H1=>td σ H1 λx H2=>ty σ H2 λy H3=>∃a H4,x=.ref a/\Ix H3 a y v H4/\D.nx σ H4
section
variable{X:Cx}{o i e value:Expr}{pos pos' tpos:Pos}{td ty tv:TE}
theorem N1(hu:X.A.units+1<cLine)(ho:PE X o td)(hi:PE X i ty)(hs:Qv i):PE X (.Subscript o i pos) (XF td ty):=by
 intro Fo s σ H Q I h
 refine fL PySem.F.slot_dict_getitem.lookup hs (HY (ho Fo s σ H _ I h) λu s1 ⟨x,H1,I1,rx,q1⟩=>HY (hi Fo s1 σ H1 _ I1 q1) λiv s2 ⟨y,H2,I2,ry,a,v,ex,g,q2⟩=>?_)
 subst ex
 obtain rfl:u=Value.ref a:=rx
 exact⟨lP I2 g,Z4 hu I2 g ry λw' s3 I3 rw'=>⟨v,H2,I3,rw',q2⟩⟩
theorem QN(hu:X.A.units+1<cLine)(ho:PE X o td)(hi:PE X i ty)(hv:PE X value tv)(hs:swapsWith value (some (.Subscript o i pos')) pos.line X.env=pure false) :
  PS X (.Assign [.Subscript o i pos'] value pos) (Yj td ty tv):=by
 intro Fo s σ H D I h
 refine wpAny_Assign_Subscript (HY (hv Fo s σ H _ I h) λr s1 ⟨v,H1,I1,rv,q1⟩=>HY (ho Fo s1 σ H1 _ I1 q1) λu s2 ⟨x,H2,I2,rx,q2⟩=>HY (hi Fo s2 σ H2 _ I2 q2) λiv s3 ⟨y,H3,I3,ry,a,H4,ex,g,q3⟩=>?_) hs
 subst ex
 obtain rfl:u=Value.ref a:=rx
 exact X7 hu I3 g ry rv λs4 I4=>⟨σ,H4,I4,q3⟩
end
theorem YE{P:Program}{w:World}{H:Hp}(h:Heap)(hb:sysModules<h.objs.size):HM P w H (h.push { cls:=.type "dict",data:=.dict #[] }) h.objs.size (.dT []) :=
 ⟨Az _,beq_eq_false_iff_ne.mpr (Bl (As hb)),[],.nil,_,#[],0,AQ _ rfl,⟨rfl,rfl,rfl⟩,rfl,rfl,List.nodup_nil⟩
def YB:TE:=λ_ H Q=>∀p,H p=none->Q (.ref p) (Gi H p (.dT []))
section
variable{X:Cx}{pos:Pos}
theorem PF:PE X (.Dict [] [] pos) YB:=λFo s σ H Q I h =>
 wpAny_Dict_empty ⟨.ref s.heap.objs.size,_,I.laid (a:=s.heap.objs.size) (o:=.dT []) (t':=s.toks) (λ_ _ q=>AC _ q) (AG _) (YE s.heap I.big),rfl,h _ (I.hok.fresh (AG _))⟩
end
def Ws(kvs more:List (Hl×V)):List (Hl×V):=more.foldl (λacc kv=>Je acc kv.1 kv.2) kvs
theorem KV.merge:∀{more:List (Hl×V)}{rs:List (Hl×Value)}{kvs:List (Hl×V)}{vs:List (Hl×Value)},KV more rs->KV kvs vs->KV (Ws kvs more) (merged vs rs):=by
 intro more rs kvs vs r
 unfold KV at r
 induction r generalizing kvs vs with
 |nil=>intro q;exact q
 |@cons p q ps qs h t ih =>
  intro r0
  have e:KV (Je kvs p.1 p.2) (stored vs q.1 q.2):=by
   have:=r0.put p.1 h.2
   rw[<-h.1];exact this
  exact ih e
structure M1(X:Cx)(o:Expr)(m:Str)(apos:Pos)(e:Expr)(cpos:Pos):Prop where
 base:attributeBase o m X.env (eval o X.env)=eval o X.env
 few:((backTo cpos (starEach [e] X.env)).all (λx=>!x.1)&&(backToKw cpos (keywordEach [] X.env)).all (λx=>x.1.isSome)
  && decide (([e]:List Expr).length+([]:List Keyword).length+(if ([]:List Keyword).isEmpty then 0 else 1)<30))=true
 line:(apos.endLine==cpos.line)=true
 trees:backTo cpos (starEach [e] X.env)=[(false,eval e X.env)]
structure M2(X:Cx)(o:Expr)(m:Str)(apos:Pos)(e f:Expr)(cpos:Pos):Prop where
 base:attributeBase o m X.env (eval o X.env)=eval o X.env
 few:((backTo cpos (starEach [e,f] X.env)).all (λx=>!x.1)&&(backToKw cpos (keywordEach [] X.env)).all (λx=>x.1.isSome)
  && decide (([e,f]:List Expr).length+([]:List Keyword).length+(if ([]:List Keyword).isEmpty then 0 else 1)<30))=true
 line:(apos.endLine==cpos.line)=true
 trees:backTo cpos (starEach [e,f] X.env)=[(false,eval e X.env),(false,eval f X.env)]
def pZ(H:Hp)(a:Addr):Prop:=(∃kvs,Rd H a (.dK kvs))∨∃kvs,Rd H a (.dT kvs)
theorem ZQ{X:Cx}{Fo:List (Addr×Obj)}{σ:St}{H:Hp}{s:Shared}{a:Addr}(I:Inv X Fo σ H s)(d:pZ H a) :
  s.TypeIs (.ref a) "dict" /\ (∀b,Value.ref a=.ref b->∃ob,s.heap.get? b=some ob/\ob.dict=none)/\(a==sysModules)=false:=by
 rcases d with⟨kvs,e⟩|⟨kvs,e⟩
 ·obtain⟨_,hd,vs,_,dd⟩:=RZ I.hok e
  refine⟨dd.typeIs,λb q=>?_,hd⟩
  cases q
  obtain⟨ob,_,_,h1,h2,_⟩:=dd
  exact⟨ob,h1,h2.2.1⟩
 ·obtain⟨_,hd,xs,_,dd⟩:=SN I.hok e
  refine⟨dd.typeIs,λb q=>?_,hd⟩
  cases q
  obtain⟨ob,_,_,h1,h2,_⟩:=dd
  exact⟨ob,h1,h2.2.1⟩
section
variable{X:Cx}{Fo:List (Addr×Obj)}{σ:St}{H:Hp}{s:Shared}{a:Addr}{y d:V}{u r:Value}{o:Option V}{A:Around}{E:Value->Shared->Prop}
theorem cE{Q:Value->Shared->Prop}(hu:A.units+1<cLine)(I:Inv X Fo σ H s)(g:IR H a y o)(ry:Gx y u)(rd:Gx d r)(h:∀w' s',Inv X Fo σ H s'->Gx (o.getD d) w'->Q w' s') :
  wpAny (model X.prog X.w) A (call (.builtin "dict.get") [.ref a,u,r]) Q E s:=by
 rcases g with⟨kvs,k,e,ey,l⟩|⟨kvs,k,b,e,ey,eb,l⟩
 ·subst ey
  obtain⟨z,hd,vs,rel,dd⟩:=RZ I.hok e
  refine call_meetsIn EG dd.typeIs Fd (FO _ _ _) (meets_dict_get_default (Jq X.prog X.w) a (Mg ry) hd r) ⟨_,dd.mapOf,h _ _ (I.tok _) ?_⟩
  rw[l]
  exact(rel.val k).getD rd
 ·subst ey
  cases(show u=Value.ref b from ry)
  obtain⟨z,hd,xs,rel,dd⟩:=SN I.hok e
  refine call_meetsIn EG dd.typeIs Fd (FO _ _ _) (meetsH_dict_get_default (tupleKind (Jq X.prog X.w)) a b hd r) ⟨Er hu,k,xs,VF I.hok eb,dd,h _ _ (I.tok _) ?_⟩
  rw[l]
  exact(rel.val k).getD rd
end
def iK(td ty tx:TE):TE:=λσ H Q=>td σ H λx H1=>∃a,x=.ref a/\pZ H1 a/\ty σ H1 λy H2=>tx σ H2 λz H3=>∃o,IR H3 a y o/\Q (o.getD z) H3
section
variable{X:Cx}{o e f:Expr}{apos cpos:Pos}{td ty tx:TE}
theorem Vc(hu:X.A.units+1<cLine)(ho:PE X o td)(he:PE X e ty)(hf:PE X f tx)(m:M2 X o "get" apos e f cpos):PE X (.Call (.Attribute o "get" apos) [e,f] [] cpos) (iK td ty tx):=by
 intro Fo s σ H Q I h
 refine wpAny_Call_method m.base m.few m.line D0 EG PySem.F.type_dict_get (HY (ho Fo s σ H _ I h) λu s1 ⟨x,H1,I1,rx,a,ex,d,q1⟩=>?_)
 subst ex
 obtain rfl:u=Value.ref a:=rx
 obtain⟨t1,t2,_⟩:=ZQ I1 d
 refine⟨t1,t2,?_⟩
 rw[m.trees]
 refine Cs rfl (DY (Cy (HY (he Fo s1 σ H1 _ I1 q1) λiv s2 ⟨y,H2,I2,ry,q2⟩ =>
  Cy (HY (hf Fo s2 σ H2 _ I2 q2) λfv s3 ⟨z,H3,I3,rz,ov,g,q3⟩=>Calls.spliced_nil ?_))))
 exact cE hu I3 g ry rz λw' s4 I4 rw'=>⟨_,H3,I4,rw',q3⟩
end
end L2
namespace L2.Ev
open PySem PySem.Spec PyProof.Rows
section
theorem qV(a b:Int):Builtin.Range.rangeSize a b (-1)=if b<a then a-b else 0:=by
 unfold Builtin.Range.rangeSize
 rw[AE (by decide)]
 by_cases h:a>b
 ·rw[AH h,AH (show b<a from h)]
  have e:-(-1:Int)=1:=rfl
  rw[e,Int.ediv_one]
  lia
 ·rw[AE h,AE (show ¬ b<a from h)]
theorem WT{a b:Int}(ha:-(2^62)<=a)(ha':a<2^62)(hb:-(2^62)<=b)(hb':b<2^62):Builtin.Range.small a b (-1)=true:=by
 unfold Builtin.Range.small
 rw[qV]
 simp only[Builtin.Range.rangeFitsLong,AM,Dm,AZ,E9,show ¬ ((-1:Int)>0) by decide,Bb]
 split<;>lia
def PZ(hi:Int)(n:Nat):It:=⟨λi _=>i<n,λi H x H'=>H'=H/\x=.int (hi-i),λi _=>n<=i⟩
theorem nH{P:Program}{w:World}{K:W.Frag}{tg:Expr}(it:Addr)(hi:Int)(n:Nat):Js P w K tg (PZ hi n) [it] it (λi h=>IsRangeIter h it (hi+(i:Nat)*(-1)) ((n:Int)-(i:Nat)) (-1)) where
 mem:=by simp
 obj:=λi h st b hb=>by
  have e:b=it:=by simpa using hb
  subst e
  exact⟨_,st,λv z=>by
   have z':Data.fields _=Data.cell v:=z
   cases z'⟩
 keep:=λi h h' st k=>k it (by simp) _ st
 item:=by
  intro X hP hw hK hc i Fo s σ H E I hf st hg
  subst hP hw hK
  obtain⟨f0,f1,f2,f3,f4,f5⟩:=hf it (by simp)
  have W:=Walks.range (prog:=X.prog) (w:=X.w) (I.ok.hd hc) it hi (-1) n
  refine W.item i s _ _ hg st λv h' tk hv st' kk=>?_
  obtain⟨t,rfl⟩:=hv
  have I1:Inv X Fo σ H { s with heap:=h',toks:=tk }:=I.turned (λb o hb e=>kk b o (by simpa using hb) e) f0 f1 f3 f4 f5
  refine⟨_,rfl,Tk (s:={ s with heap:=h',toks:=tk }) (n := "range_iterator") st' rfl rfl (by decide) ⟨.int (hi-i),H,I1,⟨t,?_⟩,⟨rfl,rfl⟩,st',λb hb=>(hf b hb).1⟩⟩
  have e:hi+(i:Int)*(-1)=hi-(i:Int):=by lia
  rw[e]
 done:=by
  intro X hP hw hK hc i Fo s σ H E I hf st hg
  subst hP hw hK
  obtain⟨f0,f1,f2,f3,f4,f5⟩:=hf it (by simp)
  exact Fk (I.ok.hd hc) st (by have:n<=i:=hg;lia) λh' eb=>⟨rfl,I.turned (t':=s.toks) (λb o hb e=>eb b o hb e) f0 f1 f3 f4 f5⟩
 self:=λ_ _ _ _ _ st h=>Fl st h
section
variable{X:Cx}{tg:Expr}
theorem jQ{Fo:List (Addr×Obj)}{σ:St}{H:Hp}{s:Shared}{R:It->Hp->Prop}{E:Value->Shared->Prop}{hi lo:Int}{t u v:Tok}{tk:Nat}(I:Inv X Fo σ H s)(h1:-(2^62)<=hi)(h2:hi<2^62)(h3:-(2^62)<=lo)(h4:lo<2^62)
  (q:R (PZ hi (hi-lo).toNat) H):wpAny (model X.prog X.w) X.A (pyIter (.ref s.heap.objs.size)) (Zy X Fo σ tg R) E { s with heap:=s.heap.push { cls:=.type "range",data:=.fields #[.int hi t,.int lo u,.int (-1) v] },toks:=tk }:=by
 refine wpAny_pyIter_range (IsRange.new ..) (WT h1 h2 h3 h4) ?_
 have I1:Inv X Fo σ H { s with heap:=s.heap.push { cls:=.type "range",data:=.fields #[.int hi t,.int lo u,.int (-1) v] },toks:=tk }:=I.kept λb o e=>AC _ e
 refine⟨(s.heap.push { cls:=.type "range",data:=.fields #[.int hi t,.int lo u,.int (-1) v] }).objs.size,[(s.heap.push { cls:=.type "range",data:=.fields #[.int hi t,.int lo u,.int (-1) v] }).objs.size],_,_,H,rfl,
  I1.kept (t':=tk) λb o e=>AC _ e,nH _ hi (hi-lo).toNat,?_,λb hb=>?_,q⟩
 ·have e1:hi+((0:Nat):Int)*(-1)=hi:=by simp
  have e2:(((hi-lo).toNat:Nat):Int)-((0:Nat):Int)=Builtin.Range.rangeSize hi lo (-1):=by rw[qV];split<;>lia
  show IsRangeIter _ _ (hi+((0:Nat):Int)*(-1)) ((((hi-lo).toNat:Nat):Int)-((0:Nat):Int)) (-1)
  rw[e1,e2]
  exact AQ _ rfl
 ·have e:b=(s.heap.push { cls:=.type "range",data:=.fields #[.int hi t,.int lo u,.int (-1) v] }).objs.size:=by simpa using hb
  subst e
  exact I1.fpOk (AG _) (I1.hok.fresh (AG _))
def Wd(ta:TA):TI:=λσ H R=>ta σ H λvs H1=>∃i j:Int,vs=[.int i,.int j,.int (-1)]/\(-(2^62)<=i/\i<2^62/\-(2^62)<=j/\j<2^62)/\R (PZ i (i-j).toNat) H1
theorem Qj{a b c:Expr}{ta:TA}{p pos:Pos}(hg:Gl X "range")(hm:X.mg "range" = none)(ha:PA X [a,b,c] ta)(hs:starEach [a,b,c] X.env=(false,eval a X.env)::starEach [b,c] X.env:=by rfl)(hs2:(backTo pos (starEach [b,c] X.env)).any (·.1)=false:=by rfl) :
  PI X tg (.Call (.Name "range" p) [a,b,c] [] pos) (Wd ta):=by
 intro Fo s σ H R I h
 refine Call_ (Jj I hg hm boot_range (BM (HY (ha pos Fo s σ H _ I h) λus s1 ⟨vs,H1,I1,r1,q1⟩=>?_) hs hs2))
 obtain⟨i,j,e,⟨q1,q2,q3,q4⟩,q⟩:=q1
 subst e
 cases r1 with
 |cons r rr =>
  cases rr with
  |cons r' rr =>
   cases rr with
   |cons r'' rr =>
    cases rr
    obtain⟨t,rfl⟩:=r
    obtain⟨t',rfl⟩:=r'
    obtain⟨t'',rfl⟩:=r''
    exact call_range_3 (by decide) (jQ I1 q1 q2 q3 q4 q) (Or.inl (Fa (by decide)))
end
theorem QI{hi:Int}{n:Nat}{g:TG}{tb:TS}{D:Iq}{σ:St}{H:Hp}(Pv:Nat->St->Hp->Prop)(h0:Pv 0 σ H)
  (hs:∀i σ H,i<n->Pv i σ H->g (.int (hi-i)) σ H λσ2 H2=>tb { D with nx:=Pv (i+1),ct:=Pv (i+1),bk:=D.nx } σ2 H2) (hd:∀σ H,Pv n σ H->D.nx σ H) :
  ∃W:Nat->Nat->St->Hp->Prop,(∃m,W 0 m σ H)/\∀i m σ H,W i m σ H ->
   ((PZ hi n).stop i H/\D.nx σ H)∨((PZ hi n).go i H/\∃N:St->Hp->Prop,(∀σ' H',N σ' H'->∃m',m'<m/\W (i+1) m' σ' H')/\∀x H',(PZ hi n).yld i H x H'->g x σ H' λσ2 H2=>tb { D with nx:=N,ct:=N,bk:=D.nx } σ2 H2):=by
 refine⟨λi m σ H=>m=n-i/\i<=n/\Pv i σ H,⟨n,by simp,Az _,h0⟩,?_⟩
 rintro i m σ H ⟨rfl,hi,p⟩
 by_cases hlt:i<n
 ·refine .inr ⟨hlt,Pv (i+1),λσ' H' p'=>⟨n-(i+1),by lia,rfl,hlt,p'⟩,λx H' y=>?_⟩
  obtain⟨e,y⟩:=y
  subst e y
  exact hs i σ _ hlt p
 ·have e:i=n:=by lia
  subst e
  exact .inl ⟨AG _,hd σ H p⟩
section
variable{X:Cx}
theorem Yb{t:Addr}{vs:List Value}{ns:List Int}{s:Shared}{prog:Program}{w:World}{A:Around}{E:Value->Shared->Prop}{Q:Value->Shared->Prop}(hh:A.handled=none)(hl:s.heap.IsTuple t vs.toArray)(hi:IntsAre vs ns)
  (h:∀h' tk t',(∀b o,s.heap.get? b=some o->h'.get? b=some o)->Q (.int ns.sum t') { s with heap:=h',toks:=tk }) :
  wpAny (model prog w) A (call (.builtin "sum") [.ref t]) Q E s:=by
 obtain⟨xs,hx⟩:=hi.allInts.items
 have hn:numsOf vs.toArray.toList=ns:=by rw[show vs.toArray.toList=vs from rfl,hi.numsOf]
 rw[hx]at hl hn
 rw[nums_intItems]at hn
 refine W.ktm_sumG hh hl λh' tk t' hk=>?_
 have:=h h' tk t' hk
 rw[preSum_eq,Af (by simp),hn]
 exact this
theorem YL(hc:X.calm=true):Hw X (.builtin "sum") (λxs H Q=>∃(p:Addr)(ns:List Int),xs=[.ref p]/\HL X.K H p (ns.map V.int)/\Q (.int ns.sum) H):=by
 intro Fo s σ H xs us Q I r h
 obtain⟨p,ns,rfl,hq,q⟩:=h
 obtain⟨u,rfl,ru⟩:=KQ r
 cases ru
 obtain⟨its,rv,ht,_⟩:=I.tuple hq
 exact Yb (I.ok.hd hc) (show s.heap.IsTuple p its.toArray from ht) (KI rv) λh' tk t' hk=>⟨.int ns.sum,H,I.kept (t':=tk) hk,⟨t',rfl⟩,q⟩
end
theorem lN(A:Around)(s:Shared)(a:Int)(t:Tok)(c:Int)(u:Tok)(prog:Program)(w:World)(E:Value->Shared->Prop)(Q:Value->Shared->Prop)(h:Q (.bool (decide (c<a))) s) :
  wpAny (model prog w) A (richCompare .Gt (.int a t) (.int c u)) Q E s :=
 (PyProof.Rows.gt_int h:wpAny (model prog w) A (compareOp .Gt (.int a t) (.int c u)) Q E s)
section
open PySem.SeqAt
open PySem.AutoSeq1 (wpAny_loadPart')
open PySem.MeetsSeq PySem.MeetsSeq2 PySem.MeetsSeq3
open HT
theorem gO(l b:Addr)(items items2:Array Value)(n n2:Nat)(dd dd2:Option Addr)(sl sl2:Array (Option Value))(ns ms:List Int)(hi:IntsAre items.toList ns)(hj:IntsAre items2.toList ms) :
  Meets (Builtin.«tuple.__gt__» ⟨[.ref l,.ref b],[]⟩)
   (λ_ R s=>s.heap.get? l=some { cls:=.type "tuple",dict:=dd,data:=.seq items n,slots:=sl }/\s.heap.get? b=some { cls:=.type "tuple",dict:=dd2,data:=.seq items2 n2,slots:=sl2 } /\
    R (.ok (.ret (.bool (lexLt ms ns)))) s) :=
 .of_wp λprog w A R s h=>by
  obtain⟨hp,g,d,tk,os⟩:=s;obtain⟨hl,hb,h⟩:=h
  have f2:=FD
  have z1:items.size=ns.length:=by rw[<-hi.length];simp
  have z2:items2.size=ms.length:=by rw[<-hj.length];simp
  wp_walk using CQ hl,CQ hb,wpAny_forIn_list _ (λHU b s'=>b.1=none/\s'=⟨hp,g,d,tk,os⟩/\∃(vs ws:List Value)(ns' ms':List Int),HU=vs.zip ws /\
   IntsAre vs ns'/\IntsAre ws ms'/\ns'.length+items2.size=ms'.length+items.size/\R (.ok (.ret (.bool (lexLt ms' ns')))) ⟨hp,g,d,tk,os⟩) _
  case turn =>
   rintro⟨y,x⟩ HU b s' ⟨hb',rfl,vs,ws,ns',ms',hz,hvi,hwi,HX,hR⟩
   cases hvi with
   |nil=>rw[List.zip_nil_left]at hz;cases hz
   |cons a t hvi' =>
    cases hwi with
    |nil=>rw[List.zip_nil_right]at hz;cases hz
    |cons c u hwi' =>
     rw[Cz]at hz
     injection hz with hyx hrest
     injection hyx with hy hx
     subst hy hx
     rw[lexLt_cons]at hR
     simp only[Ai]at HX
     obtain⟨e,he,hiff⟩:=eqAt_int A.in1 ⟨hp,g,d,tk,os⟩ a t c u
     refine AA (he prog w _ _ ?_)
     cases e with
     |true =>
      rw[AH (hiff.mp rfl).symm]at hR
      wp_walk
      exact⟨rfl,rfl,_,_,_,_,hrest,hvi',hwi',by lia,hR⟩
     |false =>
      rw[AE (λq=>absurd (hiff.mpr (Eq.symm q)) AY)]at hR
      have hri:=lN A.in1 ⟨hp,g,d,tk,os⟩ a t c u prog w
      wp_walk using hri
      exact⟨_,rfl,by simpa using hR⟩
  case fin =>
   rintro⟨b1,b2⟩ s' ⟨hb',rfl,vs,ws,ns',ms',hz,hvi,hwi,HX,hR⟩
   simp only at hb'
   subst hb'
   have hv:lexLt ms' ns'=decide (items2.size<items.size):=by
    cases hvi with
    |nil =>
     cases hwi with
     |nil =>
      simp only[CD]at HX
      rw[lexLt_nil_nil]
      exact(AN (by lia)).symm
     |cons c u hw =>
      simp only[CD,Ai]at HX
      rw[lexLt_cons_nil]
      exact(AN (by lia)).symm
    |cons a t hv =>
     cases hwi with
     |nil =>
      simp only[CD,Ai]at HX
      rw[lexLt_nil_cons]
      exact(AX (by lia)).symm
     |cons c u hw =>
      rw[Cz]at hz
      cases hz
   rw[hv]at hR
   wp_walk
   exact⟨_,rfl,by simpa [Builtin.Tuple.tupleCompareSizes]using hR⟩
  case h =>
   exact⟨rfl,rfl,items.toList,items2.toList,ns,ms,rfl,hi,hj,by lia,h⟩
end
section
variable{prog:Program}{w:World}{A:Around}{E:Value->Shared->Prop}{s:Shared}
theorem Vn{l b:Addr}{items items2:Array Value}{ns ms:List Int}{Q:Value->Shared->Prop}(hl:IsTup s.heap l items)(hb:IsTup s.heap b items2)(hi:IntsAre items.toList ns)(hj:IntsAre items2.toList ms)
  (hu:A.units<cLine) (h:Q (.bool (HT.lexLt ms ns)) s):wpAny (model prog w) A (compareOp .Gt (.ref l) (.ref b)) Q E s:=by
 obtain⟨⟨cls,dd,data,sl⟩,ho,hc,n,hd⟩:=id hl
 obtain⟨⟨cls2,dd2,data2,sl2⟩,ho2,hc2,n2,hd2⟩:=id hb
 simp only at hc hd hc2 hd2
 subst hc hd hc2 hd2
 exact Fn (op:=.Gt) ⟨_,ho,rfl⟩ ⟨_,ho2,rfl⟩ PySem.F.slot_tuple_gt PySem.F.entry_tuple_gt (PySem.F.args_tuple_gt_2 _ _) (gO l b items items2 n n2 dd dd2 sl sl2 ns ms hi hj)
  ⟨ho,ho2,show Value.bool (HT.lexLt ms ns)≠Value.notImplemented/\Q (.bool (HT.lexLt ms ns)) s from⟨(λx=>nomatch x),h⟩⟩ hu
end
def HZ(H H':Hp):Prop:=∀p xs,H p=some (.tup xs)->H' p=some (.tup xs)
theorem HZ.trans{H H1 H2:Hp}(a:HZ H H1)(b:HZ H1 H2):HZ H H2:=λp xs h=>b p xs (a p xs h)
theorem HZ.same{H H':Hp}(a:Gf H H'):HZ H H':=λp xs h=>a p _ h
class Dat (α:Type) where
 is:Hp->V->α->Prop
 mono:∀{H H':Hp}{v:V}{a:α},HZ H H'->is H v a->is H' v a
 inj:∀{H:Hp}{v:V}{a b:α},is H v a->is H v b->a=b
 dep:Nat
 eqb:α->α->Bool
 eqb_iff:∀a b,eqb a b=true↔a=b
 eqAt:∀{X:Cx}{Fo:List (Addr×Obj)}{σ:St}{H:Hp}{s:Shared}{A:Around}{v v':V}{u u':Value}{a b:α},Inv X Fo σ H s->A.units+dep<cLine->is H v a->is H v' b->Gx v u->Gx v' u'->SeqAt.EqAt A s u u' (eqb a b)
instance:Dat Int where
 is:=λ_ v n=>v=.int n
 mono:=λ_ h=>h
 inj:=λh h'=>by rw[h]at h';cases h';rfl
 dep:=0
 eqb:=λa b=>a==b
 eqb_iff:=λa b=>by simp
 eqAt:=λI hu h h' r r'=>by
  subst h h'
  obtain⟨t,rfl⟩:=r
  obtain⟨t',rfl⟩:=r'
  exact Ek _ _ _ _
theorem Paired.get{α β:Type}{F:α->β->Prop}:∀{l:List α}{m:List β}(r:Paired F l m){i:Nat}{a:α},l[i]?=some a->∃b,m[i]?=some b/\F a b
 |_,_,.nil,_,_,e=>by simp at e
 |_,_,.cons r t,0,_,e=>by simp at e;subst e;exact⟨_,rfl,r⟩
 |_,_,.cons r t,i+1,a,e=>by
  obtain⟨b,h1,h2⟩:=Paired.get t (i:=i) (a:=a) (by simpa using e)
  exact⟨b,by simpa using h1,h2⟩
theorem Paired.injR{α β:Type}{F:α->β->Prop}(hf:∀a b b',F a b->F a b'->b=b'):∀{l:List α}{m m':List β},Paired F l m->Paired F l m'->m=m'
 |_,_,_,.nil,.nil=>rfl
 |_,_,_,.cons r t,.cons r' t'=>by rw[hf _ _ _ r r',Paired.injR hf t t']
theorem Paired.app{α β:Type}{F:α->β->Prop}:∀{l l':List α}{m m':List β},Paired F l m->Paired F l' m'->Paired F (l++l') (m++m')
 |_,_,_,_,.nil,h=>h
 |_,_,_,_,.cons r t,h=>.cons r (Paired.app t h)
def JG{α:Type}(e:α->α->Bool):List α->List α->Bool
 |[],[]=>true
 |a::l,b::m=>e a b&&JG e l m
 |_,_=>false
theorem UP{α:Type}{e:α->α->Bool}(h:∀a b,e a b=true↔a=b):∀l m,JG e l m=true↔l=m
 |[],[]=>by simp [JG]
 |[],_::_=>by simp [JG]
 |_::_,[]=>by simp [JG]
 |a::l,b::m=>by simp [JG,h a b,UP h l m]
def Kd{α:Type}(e:α->α->Bool)(l m:List α)(j:Nat):Bool:=match l[j]?,m[j]? with
 |some a,some b=>e a b
 |_,_=>false
theorem QB{α:Type}(e:α->α->Bool):∀l m:List α,((List.range (min l.length m.length)).all (Kd e l m)&&l.length==m.length)=JG e l m
 |[],[]=>by simp [JG]
 |[],_::_=>by simp [JG]
 |_::_,[]=>by simp [JG]
 |a::l,b::m=>by
  have ih:=QB e l m
  show((List.range (min (l.length+1) (m.length+1))).all (Kd e (a::l) (b::m))&&(l.length+1==m.length+1))=(e a b&&JG e l m)
  rw[<-ih,Nat.add_min_add_right,DR,C7,EL]
  have e0:Kd e (a::l) (b::m) 0=e a b:=rfl
  have e1:(Kd e (a::l) (b::m) ∘ Nat.succ)=Kd e l m:=by funext j;rfl
  have e2:(l.length+1==m.length+1)=(l.length==m.length):=by simp
  rw[e0,e1,e2,Bool.and_assoc]
section
variable{α:Type}[D:Dat α]
abbrev Hc(H:Hp)(vs:List V)(l:List α):Prop:=Paired (λv a=>D.is H v a) vs l
theorem Hc.mono{H H':Hp}{vs:List V}{l:List α}(t:HZ H H')(h:Hc H vs l):Hc H' vs l:=DS (λ_ _ q=>D.mono t q) h
theorem Hc.inj{H:Hp}{vs:List V}{l m:List α}(h:Hc H vs l)(h':Hc H vs m):l=m:=Paired.injR (F:=λv a=>D.is H v a) (λ_ _ _ q q'=>D.inj q q') h h'
theorem Qk{X:Cx}{Fo:List (Addr×Obj)}{σ:St}{H:Hp}{s:Shared}{A:Around}{vs vs':List V}{its its':List Value}{l m:List α}(I:Inv X Fo σ H s)(hu:A.units+D.dep<cLine)(h:Hc H vs l)(h':Hc H vs' m)(r:Gy vs its)(r':Gy vs' its') :
  ∀j (h1:j<its.toArray.size) (h2:j<its'.toArray.size),SeqAt.EqAt A s its.toArray[j] its'.toArray[j] (Kd D.eqb l m j):=by
 intro j h1 h2
 have l1:=r.length
 have l2:=r'.length
 have k1:j<its.length:=by simpa using h1
 have k2:j<its'.length:=by simpa using h2
 have g1:vs[j]?=some vs[j]:=AW (by lia)
 have g2:vs'[j]?=some vs'[j]:=AW (by lia)
 obtain⟨u,e1,ru⟩:=r.get g1
 obtain⟨u',e2,ru'⟩:=r'.get g2
 obtain⟨a,f1,ra⟩:=Paired.get h g1
 obtain⟨b,f2,rb⟩:=Paired.get h' g2
 have q1:its.toArray[j]=u:=by
  have:its[j]=u:=by rw[AW k1]at e1;exact Al e1
  simpa using this
 have q2:its'.toArray[j]=u':=by
  have:its'[j]=u':=by rw[AW k2]at e2;exact Al e2
  simpa using this
 have q3:Kd D.eqb l m j=D.eqb a b:=by unfold Kd;rw[f1,f2]
 rw[q1,q2,q3]
 exact D.eqAt I hu ra rb ru ru'
instance VJ:Dat (List α) where
 is:=λH v l=>∃p vs,v=.ref p/\H p=some (.tup vs)/\Hc H vs l
 mono:=λt ⟨p,vs,e,h,i⟩=>⟨p,vs,e,t p vs h,Hc.mono t i⟩
 inj:=λ⟨p,vs,e,h,i⟩ ⟨p',vs',e',h',i'⟩=>by
  subst e
  cases e'
  rw[h]at h'
  cases h'
  exact Hc.inj i i'
 dep:=D.dep+1
 eqb:=JG D.eqb
 eqb_iff:=UP D.eqb_iff
 eqAt:=λ{X Fo σ H s A v v' u u' l m} I hu h h' r r'=>by
  obtain⟨p,vs,rfl,h,i⟩:=h
  obtain⟨p',vs',rfl,h',i'⟩:=h'
  cases r
  cases r'
  by_cases e:p=p'
  ·subst e
   rw[h]at h'
   cases h'
   have q:l=m:=Hc.inj i i'
   rw[(UP D.eqb_iff l m).mpr q]
   exact FW _
  ·obtain⟨its,rv,ht,_⟩:=I.tuple (HL.of h)
   obtain⟨its',rv',ht',_⟩:=I.tuple (HL.of h')
   have hl:its.toArray.size=l.length:=by have:=rv.length;have:=AL i;simp;lia
   have hm:its'.toArray.size=m.length:=by have:=rv'.length;have:=AL i';simp;lia
   have q:=D5 (A:=A) (s:=s) (e:=Kd D.eqb l m) (show s.heap.IsTuple p its.toArray from ht) (show s.heap.IsTuple p' its'.toArray from ht') (by lia)
    (Qk I (A:=A.in1) (by show A.units+1+D.dep<cLine;lia) i i' rv rv')
   rw[hl,hm,QB]at q
   exact SeqAt.EqAt.of_refs e q
def Gh(H:Hp)(a:Addr)(l:List α):Prop:=∃vs,H a=some (.lst vs)/\Hc H vs l
theorem Gh.mono{H H':Hp}{a:Addr}{l:List α}(e:Gf H H')(h:Gh H a l):Gh H' a l:=by
 obtain⟨vs,q,i⟩:=h
 exact⟨vs,e _ _ q,Hc.mono (HZ.same e) i⟩
end
section
variable{α β:Type}[D:Dat α][D2:Dat β]
instance U9:Dat (α×β) where
 is:=λH v x=>∃p a b,v=.ref p/\H p=some (.tup [a,b])/\D.is H a x.1/\D2.is H b x.2
 mono:=λt ⟨p,a,b,e,h,i,j⟩=>⟨p,a,b,e,t _ _ h,D.mono t i,D2.mono t j⟩
 inj:=λ⟨p,a,b,e,h,i,j⟩ ⟨p',a',b',e',h',i',j'⟩=>by
  subst e
  cases e'
  rw[h]at h'
  cases h'
  exact FE (D.inj i i') (D2.inj j j')
 dep:=max D.dep D2.dep+1
 eqb:=λx y=>D.eqb x.1 y.1&&D2.eqb x.2 y.2
 eqb_iff:=λx y=>by rw[AM,D.eqb_iff,D2.eqb_iff,Prod.ext_iff]
 eqAt:=λ{X Fo σ H s A v v' u u' l m} I hu h h' r r'=>by
  obtain⟨p,a,b,rfl,h,i,j⟩:=h
  obtain⟨p',a',b',rfl,h',i',j'⟩:=h'
  cases r
  cases r'
  by_cases e:p=p'
  ·subst e
   rw[h]at h'
   cases h'
   rw[(D.eqb_iff _ _).mpr (D.inj i i'),(D2.eqb_iff _ _).mpr (D2.inj j j')]
   exact FW _
  ·obtain⟨its,rv,ht,_⟩:=I.tuple (HL.of h)
   obtain⟨its',rv',ht',_⟩:=I.tuple (HL.of h')
   obtain⟨w1,w2,rfl,r1,r2⟩:=K0 rv
   obtain⟨z1,z2,rfl,t1,t2⟩:=K0 rv'
   have q:=D5 (A:=A) (s:=s) (e:=λk=>if k=0 then D.eqb l.1 m.1 else D2.eqb l.2 m.2) (show s.heap.IsTuple p _ from ht) (show s.heap.IsTuple p' _ from ht') (by lia)
    (λk h1 h2=>by
     have hk:k=0∨k=1:=by
      have:k<2:=h1
      lia
     rcases hk with rfl|rfl
     ·exact D.eqAt (A:=A.in1) I (by show A.units+1+D.dep<cLine;lia) i i' r1 t1
     ·exact D2.eqAt (A:=A.in1) I (by show A.units+1+D2.dep<cLine;lia) j j' r2 t2)
   have e2:((List.range (min [w1,w2].toArray.size [z1,z2].toArray.size)).all (λk=>if k=0 then D.eqb l.1 m.1 else D2.eqb l.2 m.2)&&[w1,w2].toArray.size==[z1,z2].toArray.size)=(D.eqb l.1 m.1&&D2.eqb l.2 m.2):=by
    simp [CO]
   rw[e2]at q
   exact SeqAt.EqAt.of_refs e q
end
section
variable{X:Cx}{α:Type}[D:Dat α]
theorem X8{Fo:List (Addr×Obj)}{σ:St}{H:Hp}{s:Shared}{A:Around}{a b:Addr}{l m:List α}(I:Inv X Fo σ H s)(hu:A.units+(D.dep+1)<cLine)(ha:Gh H a l)(hb:Gh H b m) :
  SeqAt.RcAt A s (.ref a) (.ref b) (JG D.eqb l m):=by
 obtain⟨vs,ha,i⟩:=ha
 obtain⟨vs',hb,i'⟩:=hb
 obtain⟨its,rv,ht,_⟩:=I.list (HK.of ha)
 obtain⟨its',rv',ht',_⟩:=I.list (HK.of hb)
 have hl:its.toArray.size=l.length:=by have:=rv.length;have:=AL i;simp;lia
 have hm:its'.toArray.size=m.length:=by have:=rv'.length;have:=AL i';simp;lia
 have all:=QB D.eqb l m
 by_cases e:l.length=m.length
 ·have q:=SeqAt.RcAt.lists (A:=A) (s:=s) (e:=Kd D.eqb l m) ht.isList ht'.isList (by lia) (by lia) (Qk I (A:=A.in1) (by show A.units+1+D.dep<cLine;lia) i i' rv rv')
  rw[hl]at q
  rw[e,FF,Cp,Bool.and_true,<-e]at all
  rw[all]at q
  exact q
 ·have q:=SeqAt.RcAt.lists_lengths (A:=A) (s:=s) ht.isList ht'.isList (by rw[hl,hm];simpa using e) (by lia)
  rw[show(l.length==m.length)=false by simpa using e,Ft]at all
  rw[<-all]
  exact q
theorem ZD{Fo:List (Addr×Obj)}{σ:St}{H:Hp}{s:Shared}{A:Around}{a b:Addr}{l m:List α}(I:Inv X Fo σ H s)(hu:A.units+(D.dep+1)<cLine)(ha:Gh H a l)(hb:Gh H b m) :
  SeqAt.RcNeAt A s (.ref a) (.ref b) (!JG D.eqb l m):=by
 obtain⟨vs,ha,i⟩:=ha
 obtain⟨vs',hb,i'⟩:=hb
 obtain⟨its,rv,ht,_⟩:=I.list (HK.of ha)
 obtain⟨its',rv',ht',_⟩:=I.list (HK.of hb)
 have hl:its.toArray.size=l.length:=by have:=rv.length;have:=AL i;simp;lia
 have hm:its'.toArray.size=m.length:=by have:=rv'.length;have:=AL i';simp;lia
 have all:=QB D.eqb l m
 by_cases e:l.length=m.length
 ·have q:=SeqAt.RcNeAt.lists (A:=A) (s:=s) (e:=Kd D.eqb l m) ht.isList ht'.isList (by lia) (by lia) (Qk I (A:=A.in1) (by show A.units+1+D.dep<cLine;lia) i i' rv rv')
  rw[hl]at q
  rw[e,FF,Cp,Bool.and_true,<-e]at all
  rw[all]at q
  exact q
 ·have q:=SeqAt.RcNeAt.lists_lengths (A:=A) (s:=s) ht.isList ht'.isList (by rw[hl,hm];simpa using e) (by lia)
  rw[show(l.length==m.length)=false by simpa using e,Ft]at all
  rw[<-all]
  exact q
def Ys(α:Type)[Dat α]:R2:=λx y H Q=>∃(a b:Addr)(l m:List α),x=.ref a/\y=.ref b/\Gh H a l/\Gh H b m/\Q (.bl (JG (Dat.eqb (α:=α)) l m)) H
def ZM(α:Type)[Dat α]:R2:=λx y H Q=>∃(a b:Addr)(l m:List α),x=.ref a/\y=.ref b/\Gh H a l/\Gh H b m/\Q (.bl (!JG (Dat.eqb (α:=α)) l m)) H
theorem Zp(hu:X.A.units+(D.dep+1)<cLine):IK X (compareOp .Eq) (Ys α):=by
 intro Fo s σ H x y v u Q I rx ry h
 obtain⟨a,b,l,m,rfl,rfl,ha,hb,q⟩:=h
 cases rx
 cases ry
 exact(X8 I hu ha hb) X.prog X.w X.xe _ ⟨.bl _,H,I,rfl,q⟩
theorem Lx(hu:X.A.units+(D.dep+1)<cLine):IK X (compareOp .NotEq) (ZM α):=by
 intro Fo s σ H x y v u Q I rx ry h
 obtain⟨a,b,l,m,rfl,rfl,ha,hb,q⟩:=h
 cases rx
 cases ry
 exact(ZD I hu ha hb) X.prog X.w X.xe _ ⟨.bl _,H,I,rfl,q⟩
end
end
end L2.Ev
namespace L2.Ts
open PySem PyProof.Rows
def kv(rk:Keyed->Nat)(xs:Array Keyed)(i:Nat):Nat:=match xs[i]? with
 |some p=>rk p
 |none=>0
def Ir(rk:Keyed->Nat)(xs:Array Keyed)(a b:Nat):Prop:=∀i j,a<=i->i<=j->j<b->kv rk xs i<=kv rk xs j
def R4(rk:Keyed->Nat)(xs:Array Keyed)(a b:Nat):Prop:=∀i j,a<=i->i<=j->j<b->kv rk xs j<=kv rk xs i
theorem IP{rk:Keyed->Nat}{xs:Array Keyed}{i:Nat}{p:Keyed}(h:xs[i]?=some p):kv rk xs i=rk p:=by unfold kv;rw[h]
theorem Kg{rk:Keyed->Nat}{xs ys:Array Keyed}{i j:Nat}(h:xs[i]?=ys[j]?):kv rk xs i=kv rk ys j:=by unfold kv;rw[h]
structure Nx(lo:Nat)(st st':SortSt):Prop where
 kind:kindOf st'=kindOf st
 failed:failedOf st'=failedOf st
 pend:pendingOf st'=pendingOf st
 perm:(arrOf st').Perm (arrOf st)
 below:∀k:Nat,k<lo->(arrOf st')[k]?=(arrOf st)[k]?
theorem Nx.refl(lo:Nat)(st:SortSt):Nx lo st st:=⟨rfl,rfl,rfl,Array.Perm.refl _,λ_ _=>rfl⟩
theorem Nx.trans{lo:Nat}{a b c:SortSt}(h:Nx lo a b)(q:Nx lo b c):Nx lo a c:=⟨q.kind.trans h.kind,q.failed.trans h.failed,q.pend.trans h.pend,q.perm.trans h.perm,λk hk=>(q.below k hk).trans (h.below k hk)⟩
theorem Nx.size{lo:Nat}{a b:SortSt}(h:Nx lo a b):(arrOf b).size=(arrOf a).size:=h.perm.size_eq
theorem RQ{rk:Keyed->Nat}{xs:Array Keyed}{i j:Nat}(hj:j<=xs.size)(k:Nat):kv rk (mirror xs i j ((j-i) / 2)) k=if i<=k/\k<j then kv rk xs (i+j-1-k) else kv rk xs k:=by
 have e:=getElem?_mirror_all (i:=i) hj k
 split
 ·rename_i h;rw[AH h]at e;exact Kg e
 ·rename_i h;rw[AE h]at e;exact Kg e
theorem UK{rk:Keyed->Nat}{xs:Array Keyed}{src d:Nat}(hs:src<xs.size)(hd:d<=src)(k:Nat) :
  kv rk (bubble xs src d) k=if k=src-d then kv rk xs src else if src-d<k/\k<=src then kv rk xs (k-1) else kv rk xs k:=by
 have e:=getElem?_bubble hs d hd k
 split
 ·rename_i h;rw[AH h]at e;exact Kg e
 ·rename_i h
  rw[AE h]at e
  split
  ·rename_i h2;rw[AH h2]at e;exact Kg e
  ·rename_i h2;rw[AE h2]at e;exact Kg e
theorem VQ{lo i j:Nat}{st:SortSt}(hi:lo<=i)(hj:j<=(arrOf st).size):Nx lo st (setArr st (mirror (arrOf st) i j ((j-i) / 2))) :=
 ⟨rfl,rfl,rfl,mirror_perm _ _ _ _,λk hk=>by
  have e:=getElem?_mirror_all (xs:=arrOf st) (i:=i) hj k
  rw[AE (by lia)]at e
  exact e⟩
theorem iI{lo src d:Nat}{st:SortSt}(hi:lo<=src-d)(hs:src<(arrOf st).size)(hd:d<=src):Nx lo st (setArr st (bubble (arrOf st) src d)) :=
 ⟨rfl,rfl,rfl,bubble_perm _ _ _,λk hk=>by
  have e:=getElem?_bubble (xs:=arrOf st) hs d hd k
  rw[AE (by lia),AE (by lia)]at e
  exact e⟩
section
variable{prog:Program}{w:World}{A:Around}{E:Value->Shared->Prop}{s:Shared}{κ:SortKind}{M:Keyed->Prop}{rk:Keyed->Nat}
def Jm(prog:Program)(w:World)(A:Around)(s:Shared)(κ:SortKind)(M:Keyed->Prop)(rk:Keyed->Nat):Prop :=
 ∀x y,M x->M y->∀Q:Bool->Shared->Prop,Q (decide (rk x<rk y)) s->wpAny (model prog w) A (keyLt' κ x.1 y.1) Q (λ_ _=>False) s
theorem QL(h:Jm prog w A s κ M rk){x y:Keyed}{st:SortSt}{Q:Option Bool->SortSt->Prop}(hk:kindOf st=κ)(hx:M x)(hy:M y)(q:Q (some (decide (rk x<rk y))) st) :
  wpS (model prog w) A E s (lt' x y) Q st:=by
 rw[lt'_eq]
 refine AU (Dy ?_)
 rw[hk]
 refine AU (Ed (De (BL (h x y hx hy (λb s'=>s'=s/\b=decide (rk x<rk y)) ⟨rfl,rfl⟩) (λb s' hb=>?_) λ_ _ z=>z.elim)))
 obtain⟨h1,rfl⟩:=hb
 exact⟨h1,Aa q⟩
theorem Iy{arr:Array Keyed}{i:Nat}{p:Keyed}{st:SortSt}{Q:Keyed->SortSt->Prop}(h:arr[i]?=some p)(q:Q p st):wpS (model prog w) A E s (elem' arr i) Q st:=by
 rw[elem'_eq,h]
 exact Aa q
def All(M:Keyed->Prop)(xs:Array Keyed):Prop:=∀(i:Nat) p,xs[i]?=some p->M p
theorem All.perm{xs ys:Array Keyed}(h:All M xs)(p:ys.Perm xs):All M ys:=λi x e=>by
 have hm:x∈xs:=p.mem_iff.mp (Fu e)
 obtain⟨j,hj,ej⟩:=Array.getElem_of_mem hm
 exact h j x (by rw[AF hj,ej])
theorem Uj(h:Jm prog w A s κ M rk){i j:Nat}{st:SortSt}{Q:Option Bool->SortSt->Prop}(hk:kindOf st=κ)(ha:All M (arrOf st))(hi:i<(arrOf st).size)(hj:j<(arrOf st).size)
  (q:Q (some (decide (kv rk (arrOf st) i<kv rk (arrOf st) j))) st):wpS (model prog w) A E s (ltAt' i j) Q st:=by
 have ei:(arrOf st)[i]?=some (arrOf st)[i]:=AF hi
 have ej:(arrOf st)[j]?=some (arrOf st)[j]:=AF hj
 rw[ltAt'_eq]
 refine AU (Dy ?_)
 refine AU (Iy ei (AU (Iy ej (QL h hk (ha _ _ ei) (ha _ _ ej) ?_))))
 rw[IP ei,IP ej]at q
 exact q
theorem fG(h:Jm prog w A s κ M rk){lo nrem:Nat}{st:SortSt}{Q:Option Nat->SortSt->Prop}(hk:kindOf st=κ)(ha:All M (arrOf st))(hn:1<=nrem)(hz:lo+nrem<=(arrOf st).size)
  (q:∀n st',Nx lo st st'->1<=n->n<=nrem->Ir rk (arrOf st') lo (lo+n)->Q (some n) st'):wpS (model prog w) A E s (countRun' lo nrem) Q st:=by
 rw[countRun'_eq]
 have asc:∀(st1:SortSt)(a:Nat)(R:Option (Option Nat)×Nat->SortSt->Prop),Nx lo st st1->1<=a->a<=nrem->Ir rk (arrOf st1) lo (lo+a) ->
   (∀n,a<=n->n<=nrem->Ir rk (arrOf st1) lo (lo+n)->(n=nrem∨kv rk (arrOf st1) (lo+n)<kv rk (arrOf st1) (lo+n-1))->R (none,n) st1) ->
   wpS (model prog w) A E s (forIn [a:nrem] ((none,a):Option (Option Nat)×Nat) λ_ r=>do
    let x <-ltAt' (lo+r.2) (lo+r.2-1)
    match x with
    |some c=>if c=true then pure (ForInStep.done (none,r.2)) else pure (ForInStep.yield (none,r.2+1))
    |_=>pure (ForInStep.done (some none,r.2))) R st1:=by
  intro st1 a R n1 ha1 han hs hR
  refine Bj (I:=λx c st'=>st'=st1/\c=(none,x)/\Ir rk (arrOf st1) lo (lo+x)) ?step ?fin ⟨rfl,rfl,hs⟩
  case fin =>
   rintro c st' ⟨rfl,rfl,hs'⟩
   rw[show max a nrem=nrem by lia]at hs' ⊢
   exact hR nrem han (AG _) hs' (.inl rfl)
  case step =>
   rintro x c st' hax hxn ⟨rfl,rfl,hs'⟩
   dsimp only
   have hsz:=n1.size
   refine AU (Uj h (n1.kind.trans hk) (ha.perm n1.perm) (by lia) (by lia) ?_)
   by_cases hl:kv rk (arrOf st') (lo+x)<kv rk (arrOf st') (lo+x-1)
   ·simp only[hl,Ee,CA]
    exact Aa (hR x hax (by lia) hs' (.inr hl))
   ·simp only[hl,ET,A5,Bb]
    refine Aa ⟨rfl,rfl,λi j hi hij hj=>?_⟩
    by_cases hjx:j<lo+x
    ·exact hs' i j hi hij hjx
    ·have ej:j=lo+x:=by lia
     subst ej
     by_cases hi':i=lo+x
     ·subst hi';exact AG _
     ·have:=hs' i (lo+x-1) hi (by lia) (by lia)
      lia
 have one:Ir rk (arrOf st) lo (lo+1):=λi j h1 h2 h3=>by
  have e:i=j:=by lia
  subst e
  exact AG _
 refine AU (asc st 1 _ (Nx.refl _ _) (AG _) hn one λn hn1 hn2 hs hnd=>?_)
 dsimp only
 by_cases hnn:n=nrem
 ·subst hnn
  rw[AH (by simp)]
  exact Aa (q n st (Nx.refl _ _) hn1 (AG _) hs)
 rw[AE (by simpa using hnn)]
 have hlt:kv rk (arrOf st) (lo+n)<kv rk (arrOf st) (lo+n-1):=hnd.resolve_left hnn
 have key:∀K:StateT SortSt Sem (Option Nat),(∀st1,Nx lo st st1->R4 rk (arrOf st1) lo (lo+n+1)->wpS (model prog w) A E s K Q st1) ->
   wpS (model prog w) A E s (if n>1 then do
    let x <-ltAt' lo (lo+n-1)
    match x with
    |some c=>if c=true then pure (some n) else do
     reverseSlice' lo (lo+n)
     K
    |_=>pure none
   else K) Q st:=by
  intro K hK
  by_cases h1:n>1
  ·rw[AH h1]
   refine AU (Uj h hk ha (by lia) (by lia) ?_)
   by_cases hl:kv rk (arrOf st) lo<kv rk (arrOf st) (lo+n-1)
   ·simp only[hl,Ee,CA]
    exact Aa (q n st (Nx.refl _ _) hn1 hn2 hs)
   ·simp only[hl,ET,A5,Bb]
    refine AU (Fp (hK _ (VQ (AG _) (by lia)) ?_))
    have alike:∀k,lo<=k->k<lo+n->kv rk (arrOf st) k=kv rk (arrOf st) lo:=λk h2 h3=>by
     have e1:=hs lo k (AG _) h2 h3
     have e2:=hs k (lo+n-1) h2 (by lia) (by lia)
     lia
    have same:∀k,kv rk (mirror (arrOf st) lo (lo+n) ((lo+n-lo) / 2)) k=kv rk (arrOf st) k:=λk=>by
     rw[RQ (by lia)]
     split
     ·rw[alike _ (by lia) (by lia),alike k (by lia) (by lia)]
     ·rfl
    intro i j hi hij hj
    show kv rk (mirror (arrOf st) lo (lo+n) ((lo+n-lo) / 2)) j<=kv rk (mirror (arrOf st) lo (lo+n) ((lo+n-lo) / 2)) i
    rw[same,same]
    by_cases hj':j<lo+n
    ·rw[alike j (by lia) hj',alike i hi (by lia)];exact AG _
    ·have ej:j=lo+n:=by lia
     subst ej
     by_cases hi':i<lo+n
     ·have e1:=alike i hi hi'
      have e2:=alike (lo+n-1) (by lia) (by lia)
      lia
     ·have ei:i=lo+n:=by lia
      subst ei;exact AG _
  ·rw[AE h1]
   have en:n=1:=by lia
   subst en
   refine hK st (Nx.refl _ _) λi j hi hij hj=>?_
   by_cases e:i=j
   ·subst e;exact AG _
   ·have e1:i=lo:=by lia
    have e2:j=lo+1:=by lia
    subst e1 e2
    exact Bf hlt
 refine key _ λst1 n1 hd=>?_
 have sz1:=n1.size
 refine AU (Ed (Cj ⟨rfl,?_⟩))
 refine AU (Cq (Bj (I:=λx c st'=>∃neq,c=(none,x,neq)/\Nx lo st st'/\R4 rk (arrOf st') lo (lo+x)/\neq+1<=x/\(∀i,lo+x-(neq+1)<=i->i<lo+x->kv rk (arrOf st') i=kv rk (arrOf st') (lo+x-1)))
  (Q:=λc st'=>∃x neq,c=(none,x,neq)/\n+1<=x/\x<=nrem/\Nx lo st st'/\R4 rk (arrOf st') lo (lo+x)/\neq+1<=x/\(∀i,lo+x-(neq+1)<=i->i<lo+x->kv rk (arrOf st') i=kv rk (arrOf st') (lo+x-1)))
  ?step ?fin ⟨0,rfl,n1,hd,by lia,λi h1 h2=>by congr 1;lia⟩) ?post)
 case fin =>
  rintro c st' ⟨neq,rfl,n',hd',hq,he⟩
  rw[show max (n+1) nrem=nrem by lia]at hd' hq he ⊢
  exact⟨nrem,neq,rfl,by lia,AG _,n',hd',hq,he⟩
 case step =>
  rintro x c st' hax hxn ⟨neq,rfl,n',hd',hq,he⟩
  dsimp only
  have sz':=n'.size
  have grow:∀st2,Nx lo st st2->(∀k,kv rk (arrOf st2) k=kv rk (arrOf st') k)->kv rk (arrOf st') (lo+x)<=kv rk (arrOf st') (lo+x-1)->R4 rk (arrOf st2) lo (lo+(x+1)):=by
   intro st2 _ e hle i j hi hij hj
   rw[e,e]
   by_cases hjx:j<lo+x
   ·exact hd' i j hi hij hjx
   ·have ej:j=lo+x:=by lia
    subst ej
    by_cases hi':i=lo+x
    ·subst hi';exact AG _
    ·have:=hd' i (lo+x-1) hi (by lia) (by lia)
     lia
  refine AU (Uj h (n'.kind.trans hk) (ha.perm n'.perm) (by lia) (by lia) ?_)
  by_cases hl:kv rk (arrOf st') (lo+x)<kv rk (arrOf st') (lo+x-1)
  ·simp only[hl,Ee,CA]
   by_cases hq0:neq>0
   ·rw[AH hq0]
    have n2:Nx lo st' (setArr st' (mirror (arrOf st') (lo+x-(neq+1)) (lo+x) ((lo+x-(lo+x-(neq+1))) / 2))):=VQ (by lia) (by lia)
    have same:∀k,kv rk (mirror (arrOf st') (lo+x-(neq+1)) (lo+x) ((lo+x-(lo+x-(neq+1))) / 2)) k=kv rk (arrOf st') k:=λk=>by
     rw[RQ (by lia)]
     split
     ·rw[he _ (by lia) (by lia),he k (by lia) (by lia)]
     ·rfl
    refine AU (Fp (Aa ⟨0,rfl,n'.trans n2,grow _ (n'.trans n2) same (Bf hl),by lia,λi h1 h2=>by congr 1;lia⟩))
   ·rw[AE hq0]
    exact Aa ⟨0,rfl,n',grow _ n' (λ_=>rfl) (Bf hl),by lia,λi h1 h2=>by congr 1;lia⟩
  ·simp only[hl,ET,A5,Bb]
   refine AU (Uj h (n'.kind.trans hk) (ha.perm n'.perm) (by lia) (by lia) ?_)
   by_cases hl2:kv rk (arrOf st') (lo+x-1)<kv rk (arrOf st') (lo+x)
   ·simp only[hl2,Ee,CA]
    exact Aa ⟨x,neq,rfl,hax,by lia,n',hd',hq,he⟩
   ·simp only[hl2,ET,A5,Bb]
    refine Aa ⟨neq+1,rfl,n',grow _ n' (λ_=>rfl) (by lia),by lia,λi h1 h2=>?_⟩
    rw[show lo+(x+1)-1=lo+x by lia]
    by_cases hi':i=lo+x
    ·subst hi';rfl
    ·rw[he i (by lia) (by lia)];lia
 case post =>
  rintro c st' ⟨x,neq,rfl,hx1,hx2,n',hd',hq,he⟩
  dsimp only
  have sz':=n'.size
  have last:∀(K:Option (Option Nat)×Nat->StateT SortSt Sem (Option Nat)),(∀m,K (none,m)=pure (some m))->∀st2,Nx lo st st2->R4 rk (arrOf st2) lo (lo+x)->wpS (model prog w) A E s (do
    reverseSlice' lo (lo+x)
    let r <-forIn [x:nrem] ((none,x):Option (Option Nat)×Nat) λ_ r=>do
     let x <-ltAt' (lo+r.2) (lo+r.2-1)
     match x with
     |some c=>if c=true then pure (ForInStep.done (none,r.2)) else pure (ForInStep.yield (none,r.2+1))
     |_=>pure (ForInStep.done (some none,r.2))
    K r) Q st2:=by
   intro K hK st2 n2 hd2
   have sz2:=n2.size
   refine AU (Fp ?_)
   have n3:Nx lo st2 (setArr st2 (mirror (arrOf st2) lo (lo+x) ((lo+x-lo) / 2))):=VQ (AG _) (by lia)
   refine AU (asc _ x _ (n2.trans n3) (by lia) hx2 ?_ λm hm1 hm2 hs _=>?_)
   ·intro i j hi hij hj
    show kv rk (mirror (arrOf st2) lo (lo+x) ((lo+x-lo) / 2)) i<=kv rk (mirror (arrOf st2) lo (lo+x) ((lo+x-lo) / 2)) j
    rw[RQ (by lia),RQ (by lia),AH (by lia),AH (by lia)]
    exact hd2 _ _ (by lia) (by lia) (by lia)
   ·rw[hK];exact Aa (q m _ (n2.trans n3) (by lia) hm2 hs)
  by_cases hq0:neq>0
  ·rw[AH hq0]
   have n2:Nx lo st' (setArr st' (mirror (arrOf st') (lo+x-(neq+1)) (lo+x) ((lo+x-(lo+x-(neq+1))) / 2))):=VQ (by lia) (by lia)
   have same:∀k,kv rk (mirror (arrOf st') (lo+x-(neq+1)) (lo+x) ((lo+x-(lo+x-(neq+1))) / 2)) k=kv rk (arrOf st') k:=λk=>by
    rw[RQ (by lia)]
    split
    ·rw[he _ (by lia) (by lia),he k (by lia) (by lia)]
    ·rfl
   refine AU (Fp (last _ (λ_=>rfl) _ (n'.trans n2) λi j hi hij hj=>?_))
   show kv rk (mirror _ _ _ _) j<=kv rk (mirror _ _ _ _) i
   rw[same,same]
   exact hd' i j hi hij hj
  ·rw[AE hq0]
   exact last _ (λ_=>rfl) st' n' hd'
theorem oK(h:Jm prog w A s κ M rk){lo n ok:Nat}{st:SortSt}{Q:Bool->SortSt->Prop}(hk:kindOf st=κ)(ha:All M (arrOf st))(hn:lo+n<=(arrOf st).size)(hok:ok<=n)(hs:Ir rk (arrOf st) lo (lo+ok))
  (q:∀st',Nx lo st st'->Ir rk (arrOf st') lo (lo+n)->Q true st'):wpS (model prog w) A E s (binarySort' lo n ok) Q st:=by
 rw[binarySort'_eq]
 refine AU (Cq (Bj (I:=λk c st'=>c=(none,())/\Nx lo st st'/\Ir rk (arrOf st') lo (lo+min k n))
  (Q:=λc st'=>c=(none,())/\Nx lo st st'/\Ir rk (arrOf st') lo (lo+n)) ?step ?fin ?init) ?post)
 case post =>
  rintro c st' ⟨rfl,n',hs'⟩
  exact Aa (q st' n' hs')
 case init =>
  refine⟨rfl,Nx.refl _ _,λi j hi hij hj=>?_⟩
  by_cases h1:ok=0
  ·have e:i=j:=by lia
   subst e;exact AG _
  ·exact hs i j hi hij (by lia)
 case fin =>
  rintro c st' ⟨hc,n',hs'⟩
  refine⟨hc,n',?_⟩
  rwa [show min (max (max ok 1) n) n=n by lia]at hs'
 case step =>
  rintro k c st' hak hkn ⟨rfl,n',hs'⟩
  rw[show min k n=k by lia]at hs'
  have sz':=n'.size
  refine AU (Cq (Bj (I:=λx c st''=>st''=st'/\∃l r,c=(none,l,r)/\l<=r/\r<=k/\r-l<=k-x /\
    (∀i,i<l->kv rk (arrOf st') (lo+i)<=kv rk (arrOf st') (lo+k))/\(∀i,r<=i->i<k->kv rk (arrOf st') (lo+k)<kv rk (arrOf st') (lo+i)))
   (Q:=λc st''=>st''=st'/\∃l r,c=(none,l,r)/\l<=k /\
    (∀i,i<l->kv rk (arrOf st') (lo+i)<=kv rk (arrOf st') (lo+k))/\(∀i,l<=i->i<k->kv rk (arrOf st') (lo+k)<kv rk (arrOf st') (lo+i))) ?istep ?ifin ?iinit) ?ipost)
  case iinit=>exact⟨rfl,0,k,rfl,by lia,by lia,by lia,λi hi=>by lia,λi h1 h2=>by lia⟩
  case ifin =>
   rintro c st'' ⟨rfl,l,r,rfl,hlr,hrk,hm,hlo,hhi⟩
   have e:l=r:=by lia
   subst e
   exact⟨rfl,l,l,rfl,hrk,hlo,hhi⟩
  case istep =>
   rintro x c st'' _ hxk ⟨rfl,l,r,rfl,hlr,hrk,hm,hlo,hhi⟩
   dsimp only
   by_cases hge:l ≥ r
   ·rw[AH hge]
    have e:l=r:=by lia
    subst e
    exact Aa ⟨rfl,l,l,rfl,hrk,hlo,hhi⟩
   ·rw[AE hge]
    refine AU (Uj h (n'.kind.trans hk) (ha.perm n'.perm) (by lia) (by lia) ?_)
    by_cases hl:kv rk (arrOf st'') (lo+k)<kv rk (arrOf st'') (lo+(l+r) / 2)
    ·simp only[hl,Ee,CA]
     refine Aa ⟨rfl,l,(l+r) / 2,rfl,by lia,by lia,by lia,hlo,λi h1 h2=>?_⟩
     exact Ao hl (hs' _ _ (by lia) (by lia) (by lia))
    ·simp only[hl,ET,A5,Bb]
     refine Aa ⟨rfl,(l+r) / 2+1,r,rfl,by lia,by lia,by lia,λi h1=>?_,hhi⟩
     exact BE (hs' (lo+i) (lo+(l+r) / 2) (by lia) (by lia) (by lia)) (Nat.not_lt.mp hl)
  case ipost =>
   rintro c st'' ⟨rfl,l,r,rfl,hlk,hlo,hhi⟩
   show wpS _ _ _ _ (do moveDown' (lo+k) (lo+l);pure (ForInStep.yield (none,()))) _ _
   rw[moveDown'_eq]
   refine AU (Cw (Aa ⟨rfl,n'.trans (iI (by lia) (by lia) (by lia)),?_⟩))
   rw[show min (k+1) n=k+1 by lia]
   intro i j hi hij hj
   show kv rk (bubble (arrOf st'') (lo+k) (lo+k-(lo+l))) i<=kv rk (bubble (arrOf st'') (lo+k) (lo+k-(lo+l))) j
   rw[UK (by lia) (by lia),UK (by lia) (by lia),show lo+k-(lo+k-(lo+l))=lo+l by lia]
   have hlo':∀z,lo<=z->z<lo+l->kv rk (arrOf st'') z<=kv rk (arrOf st'') (lo+k):=λz h1 h2=>by
    have:=hlo (z-lo) (by lia)
    rwa [show lo+(z-lo)=z by lia]at this
   have hhi':∀z,lo+l<=z->z<lo+k->kv rk (arrOf st'') (lo+k)<kv rk (arrOf st'') z:=λz h1 h2=>by
    have:=hhi (z-lo) (by lia) (by lia)
    rwa [show lo+(z-lo)=z by lia]at this
   repeat' split
   all_goals first
    |(exfalso;lia)
    |exact AG _
    |exact hlo' _ (by lia) (by lia)
    |exact Bf (hhi' _ (by lia) (by lia))
    |exact hs' _ _ (by lia) (by lia) (by lia)
end
def SX:Bool->Keyed->Array Keyed->Nat->Nat->Nat->StateT SortSt Sem (Option Nat):=sortPriv% PySem.Builtin.gallop
section
variable{prog:Program}{w:World}{A:Around}{E:Value->Shared->Prop}{s:Shared}{κ:SortKind}{M:Keyed->Prop}{rk:Keyed->Nat}
def Bd(rk:Keyed->Nat)(left:Bool)(key:Keyed)(arr:Array Keyed)(i:Nat):Prop:=if left=true then kv rk arr i<rk key else kv rk arr i<=rk key
theorem O8(h:Jm prog w A s κ M rk){left:Bool}{key:Keyed}{arr:Array Keyed}{base n hint:Nat}{st:SortSt}{Q:Option Nat->SortSt->Prop}(hk:kindOf st=κ)(hM:M key)(ha:All M arr)(hz:base+n<=arr.size)(hh:hint<n)
  (hs:Ir rk arr base (base+n)) (q:∀p,p<=n->(∀i,base<=i->i<base+p->Bd rk left key arr i)->(∀i,base+p<=i->i<base+n->¬ Bd rk left key arr i)->Q (some p) st) :
  wpS (model prog w) A E s (SX left key arr base n hint) Q st:=by
 have mono:∀i j,base<=i->i<=j->j<base+n->Bd rk left key arr j->Bd rk left key arr i:=λi j h1 h2 h3 b=>by
  have:=hs i j h1 h2 h3
  unfold Bd at b ⊢
  cases left
  ·simp only[A5,Bb]at b ⊢;lia
  ·simp only[CA]at b ⊢;lia
 have asks:∀(i:Nat)(R:Option Bool->SortSt->Prop),i<n->(Bd rk left key arr (base+i)->R (some true) st)->(¬ Bd rk left key arr (base+i)->R (some false) st) ->
   wpS (model prog w) A E s (do
    let x <-elem' arr (base+i)
    if left=true then lt' x key else do
     let r <-lt' key x
     pure (r.map λb=>!b)) R st:=by
  intro i R hi r1 r2
  have ei:arr[base+i]?=some arr[base+i]:=AF (by lia)
  refine AU (Iy ei ?_)
  have ev:=IP (rk:=rk) ei
  cases left
  ·rw[AE (by decide)]
   refine AU (QL h hk hM (ha _ _ ei) (Aa ?_))
   by_cases c:rk key<rk arr[base+i]
   ·rw[AX c]
    refine r2 λb=>?_
    unfold Bd at b
    rw[AE (by decide),ev]at b
    lia
   ·rw[AN c]
    refine r1 ?_
    unfold Bd
    rw[AE (by decide),ev]
    lia
  ·rw[AH rfl]
   refine QL h hk (ha _ _ ei) hM ?_
   by_cases c:rk arr[base+i]<rk key
   ·rw[AX c]
    refine r1 ?_
    unfold Bd
    rw[AH rfl,ev]
    exact c
   ·rw[AN c]
    refine r2 λb=>?_
    unfold Bd at b
    rw[AH rfl,ev]at b
    exact c b
 have srch:∀(K:Option (Option Nat)×Nat×Nat->StateT SortSt Sem (Option Nat)),(∀l p,K (none,l,p)=pure (some p))->∀lo hi,lo<=hi->hi<=n->(∀i,base<=i->i<base+lo->Bd rk left key arr i)->(∀i,base+hi<=i->i<base+n->¬ Bd rk left key arr i) ->
   ∀body,(∀x l p,body x (none,l,p)=if l ≥ p then pure (ForInStep.done (none,l,p)) else do
    let c <-(do
     let x <-elem' arr (base+(l+(p-l) / 2))
     if left=true then lt' x key else do
      let r <-lt' key x
      pure (r.map λb=>!b))
    match c with
    |some more=>if more=true then pure (ForInStep.yield (none,l+(p-l) / 2+1,p)) else pure (ForInStep.yield (none,l,l+(p-l) / 2))
    |_=>pure (ForInStep.done (some none,l,p))) ->
   wpS (model prog w) A E s (do let r <-forIn [0:n] ((none,lo,hi):Option (Option Nat)×Nat×Nat) body;K r) Q st:=by
  intro K hK lo hi hlh hhn h1 h2 body hb
  refine AU (Bj (I:=λx c st'=>st'=st/\∃l p,c=(none,l,p)/\l<=p/\p<=n/\p-l<=n-x/\(∀i,base<=i->i<base+l->Bd rk left key arr i)/\(∀i,base+p<=i->i<base+n->¬ Bd rk left key arr i)) ?step ?fin ⟨rfl,lo,hi,rfl,hlh,hhn,by lia,h1,h2⟩)
  case fin =>
   rintro c st' ⟨rfl,l,p,rfl,a1,a2,a3,a4,a5⟩
   have e:l=p:=by lia
   subst e
   rw[hK]
   exact Aa (q l a2 a4 a5)
  case step =>
   rintro x c st' _ hx ⟨rfl,l,p,rfl,a1,a2,a3,a4,a5⟩
   rw[hb]
   by_cases c:l ≥ p
   ·rw[AH c]
    have e:l=p:=by lia
    subst e
    refine Aa ?_
    show wpS _ _ _ _ (K (none,l,l)) Q st'
    rw[hK]
    exact Aa (q l a2 a4 a5)
   ·rw[AE c]
    refine AU (asks _ _ (by lia) (λb=>?_) λb=>?_)
    ·refine Aa ⟨rfl,l+(p-l) / 2+1,p,rfl,by lia,a2,by lia,λi i1 i2=>?_,a5⟩
     exact mono i _ i1 (by lia) (by lia) b
    ·refine Aa ⟨rfl,l,l+(p-l) / 2,rfl,by lia,by lia,by lia,a4,λi i1 i2=>?_⟩
     exact λbi=>b (mono _ i (by lia) i1 i2 bi)
 refine AU (asks hint _ hh (λb=>?_) λb=>?_)
 ·dsimp only
  rw[AH rfl]
  refine AU (Cq (Bj (I:=λx c st'=>st'=st/\∃l p,c=(none,l,p)/\l<p/\x<p/\l<n-hint/\Bd rk left key arr (base+(hint+l)))
   (Q:=λc st'=>st'=st/\∃l p,c=(none,l,p)/\l<p/\l<n-hint/\Bd rk left key arr (base+(hint+l))/\(n-hint<=p∨(p<n-hint/\¬ Bd rk left key arr (base+(hint+p))))) ?step ?fin ⟨rfl,0,1,rfl,by lia,by lia,by lia,b⟩) ?post)
  case fin =>
   rintro c st' ⟨rfl,l,p,rfl,a1,a2,a3,a4⟩
   exact⟨rfl,l,p,rfl,a1,a3,a4,.inl (by lia)⟩
  case step =>
   rintro x c st' _ hx ⟨rfl,l,p,rfl,a1,a2,a3,a4⟩
   dsimp only
   by_cases c:p ≥ n-hint
   ·rw[AH c]
    exact Aa ⟨rfl,l,p,rfl,a1,a3,a4,.inl c⟩
   ·rw[AE c]
    refine AU (asks _ _ (by lia) (λb=>?_) λb=>?_)
    ·exact Aa ⟨rfl,p,2*p+1,rfl,by lia,by lia,by lia,b⟩
    ·exact Aa ⟨rfl,l,p,rfl,a1,a3,a4,.inr ⟨by lia,b⟩⟩
  case post =>
   rintro c st' ⟨rfl,l,p,rfl,a1,a2,a3,a4⟩
   dsimp only
   refine srch _ (λ_ _=>rfl) _ _ ?_ ?_ (λi i1 i2=>mono i _ i1 (by lia) (by lia) a3) (λi i1 i2 bi=>?_) _ λx l p=>rfl
   ·lia
   ·lia
   ·rcases a4 with a4|⟨a4,a5⟩
    ·lia
    ·exact a5 (mono _ i (by lia) (by lia) i2 bi)
 ·dsimp only
  rw[AE (by decide)]
  refine AU (Cq (Bj (I:=λx c st'=>st'=st/\∃l p,c=(none,l,p)/\l<p/\x<p/\l<hint+1/\¬ Bd rk left key arr (base+(hint-l)))
   (Q:=λc st'=>st'=st/\∃l p,c=(none,l,p)/\l<p/\l<hint+1/\¬ Bd rk left key arr (base+(hint-l))/\(hint+1<=p∨(p<hint+1/\Bd rk left key arr (base+(hint-p))))) ?step ?fin ⟨rfl,0,1,rfl,by lia,by lia,by lia,b⟩) ?post)
  case fin =>
   rintro c st' ⟨rfl,l,p,rfl,a1,a2,a3,a4⟩
   exact⟨rfl,l,p,rfl,a1,a3,a4,.inl (by lia)⟩
  case step =>
   rintro x c st' _ hx ⟨rfl,l,p,rfl,a1,a2,a3,a4⟩
   dsimp only
   by_cases c:p ≥ hint+1
   ·rw[AH c]
    exact Aa ⟨rfl,l,p,rfl,a1,a3,a4,.inl c⟩
   ·rw[AE c]
    refine AU (asks _ _ (by lia) (λb=>?_) λb=>?_)
    ·exact Aa ⟨rfl,l,p,rfl,a1,a3,a4,.inr ⟨by lia,b⟩⟩
    ·exact Aa ⟨rfl,p,2*p+1,rfl,by lia,by lia,by lia,b⟩
  case post =>
   rintro c st' ⟨rfl,l,p,rfl,a1,a2,a3,a4⟩
   dsimp only
   refine srch _ (λ_ _=>rfl) _ _ ?_ ?_ (λi i1 i2=>?_) (λi i1 i2 bi=>a3 (mono _ i (by lia) (by lia) i2 bi)) _ λx l p=>rfl
   ·lia
   ·lia
   ·rcases a4 with a4|⟨a4,a5⟩
    ·lia
    ·exact mono i _ i1 (by lia) (by lia) a5
end
section
abbrev Up(rk:Keyed->Nat)(l:List Keyed):Prop:=l.Pairwise λx y=>rk x<=rk y
structure J(rk:Keyed->Nat)(la lb o:List Keyed)(ia ib:Nat):Prop where
 ha:ia<=la.length
 hb:ib<=lb.length
 perm:o.Perm (la.take ia++lb.take ib)
 srt:Up rk o
 ua:∀x∈o,∀y∈la.drop ia,rk x<=rk y
 ub:∀x∈o,∀y∈lb.drop ib,rk x<=rk y
def Hn(rk:Keyed->Nat)(la lb r:List Keyed):Prop:=r.Perm (la++lb)/\Up rk r
variable{rk:Keyed->Nat}{la lb o:List Keyed}{ia ib na nb k:Nat}
theorem Po{α:Type}(l:List α)(i k:Nat):l.drop i=(l.drop i).take k++l.drop (i+k):=by
 rw[<-List.drop_drop]
 exact(Bm k (l.drop i)).symm
theorem VE{α:Type}(l:List α)(i k:Nat):l.take (i+k)=l.take i++(l.drop i).take k:=List.take_add
theorem Up.drop{l:List Keyed}(h:Up rk l)(i:Nat):Up rk (l.drop i):=h.sublist (List.drop_sublist i l)
theorem Up.take{l:List Keyed}(h:Up rk l)(i:Nat):Up rk (l.take i):=h.sublist (Ex i l)
theorem Up.app{l m:List Keyed}(h:Up rk l)(q:Up rk m)(c:∀x∈l,∀y∈m,rk x<=rk y):Up rk (l++m):=DA.mpr ⟨h,q,c⟩
theorem J.a(j:J rk la lb o ia ib)(sa:Up rk la)(hk:ia+k<=la.length)(h:∀x∈(la.drop ia).take k,∀y∈lb.drop ib,rk x<=rk y):J rk la lb (o++(la.drop ia).take k) (ia+k) ib:=by
 have sd:=Po la ia k
 have up:=sa.drop ia
 rw[sd]at up
 have cr:=(DA.mp up).2.2
 refine⟨hk,j.hb,?_,j.srt.app ((sa.drop ia).take k) λx hx y hy=>j.ua x hx y (B5 hy),λx hx y hy=>?_,λx hx y hy=>?_⟩
 ·rw[VE,Ac]
  refine(Bc _ j.perm).trans ?_
  rw[Ac]
  exact B0 _ CW
 ·rcases Aq.mp hx with hx|hx
  ·exact j.ua x hx y (by rw[sd];exact Ap _ hy)
  ·exact cr x hx y hy
 ·rcases Aq.mp hx with hx|hx
  ·exact j.ub x hx y hy
  ·exact h x hx y hy
theorem J.b(j:J rk la lb o ia ib)(sb:Up rk lb)(hk:ib+k<=lb.length)(h:∀x∈(lb.drop ib).take k,∀y∈la.drop ia,rk x<=rk y):J rk la lb (o++(lb.drop ib).take k) ia (ib+k):=by
 have sd:=Po lb ib k
 have up:=sb.drop ib
 rw[sd]at up
 have cr:=(DA.mp up).2.2
 refine⟨j.ha,hk,?_,j.srt.app ((sb.drop ib).take k) λx hx y hy=>j.ub x hx y (B5 hy),λx hx y hy=>?_,λx hx y hy=>?_⟩
 ·rw[VE,<-Ac]
  exact Bc _ j.perm
 ·rcases Aq.mp hx with hx|hx
  ·exact j.ua x hx y hy
  ·exact h x hx y hy
 ·rcases Aq.mp hx with hx|hx
  ·exact j.ub x hx y (by rw[sd];exact Ap _ hy)
  ·exact cr x hx y hy
theorem J.all(j:J rk la lb o ia ib):(o++la.drop ia++lb.drop ib).Perm (la++lb):=by
 have e:(la.take ia++lb.take ib++la.drop ia++lb.drop ib).Perm (la++lb):=by
  have e1:(la++lb)=(la.take ia++la.drop ia)++(lb.take ib++lb.drop ib):=by rw[Bm,Bm]
  rw[e1,Ac,Ac,Ac]
  refine B0 _ ?_
  rw[<-Ac,<-Ac]
  exact Bc _ CW
 exact(Bc _ (Bc _ j.perm)).trans e
theorem J.done(j:J rk la lb o ia ib)(sa:Up rk la)(sb:Up rk lb)(h:ia=la.length∨ib=lb.length):Hn rk la lb (o++la.drop ia++lb.drop ib):=by
 refine⟨j.all,?_⟩
 rcases h with h|h
 ·rw[h,List.drop_length,BN]
  exact j.srt.app (sb.drop ib) j.ub
 ·rw[h,List.drop_length,BN]
  exact j.srt.app (sa.drop ia) j.ua
theorem J.last(j:J rk la lb o ia ib)(sa:Up rk la)(sb:Up rk lb)(h:∀y∈lb,∀x∈la.drop ia,rk y<=rk x):Hn rk la lb (o++lb.drop ib++la.drop ia):=by
 refine⟨?_,(j.srt.app (sb.drop ib) j.ub).app (sa.drop ia) λx hx y hy=>?_⟩
 ·refine List.Perm.trans ?_ j.all
  rw[Ac,Ac]
  exact B0 _ CW
 ·rcases Aq.mp hx with hx|hx
  ·exact j.ua x hx y hy
  ·exact h x (Gg hx) y hy
structure J2(rk:Keyed->Nat)(la lb o:List Keyed)(na nb:Nat):Prop where
 ha:na<=la.length
 hb:nb<=lb.length
 perm:o.Perm (la.drop na++lb.drop nb)
 srt:Up rk o
 ua:∀x∈la.take na,∀y∈o,rk x<=rk y
 ub:∀x∈lb.take nb,∀y∈o,rk x<=rk y
theorem J2.a(j:J2 rk la lb o (na+k) nb)(sa:Up rk la)(h:∀x∈(la.drop na).take k,∀y∈lb.take nb,rk y<=rk x):J2 rk la lb ((la.drop na).take k++o) na nb:=by
 have sd:=VE la na k
 have up:=sa.take (na+k)
 rw[sd]at up
 have cr:=(DA.mp up).2.2
 have j1:=j.ha
 refine⟨by lia,j.hb,?_,((sa.drop na).take k).app j.srt λx hx y hy=>j.ua x (by rw[sd];exact Ap _ hx) y hy,λx hx y hy=>?_,λx hx y hy=>?_⟩
 ·have e:la.drop na++lb.drop nb=(la.drop na).take k++(la.drop (na+k)++lb.drop nb):=by rw[<-Ac,<-Po la na k]
  rw[e]
  exact B0 _ j.perm
 ·rcases Aq.mp hy with hy|hy
  ·exact cr x hx y hy
  ·exact j.ua x (by rw[sd];exact A6 _ hx) y hy
 ·rcases Aq.mp hy with hy|hy
  ·exact h y hy x hx
  ·exact j.ub x hx y hy
theorem J2.b(j:J2 rk la lb o na (nb+k))(sb:Up rk lb)(h:∀x∈(lb.drop nb).take k,∀y∈la.take na,rk y<=rk x):J2 rk la lb ((lb.drop nb).take k++o) na nb:=by
 have sd:=VE lb nb k
 have up:=sb.take (nb+k)
 rw[sd]at up
 have cr:=(DA.mp up).2.2
 have j1:=j.hb
 refine⟨j.ha,by lia,?_,((sb.drop nb).take k).app j.srt λx hx y hy=>j.ub x (by rw[sd];exact Ap _ hx) y hy,λx hx y hy=>?_,λx hx y hy=>?_⟩
 ·have e:la.drop na++lb.drop nb=la.drop na++(lb.drop nb).take k++lb.drop (nb+k):=by rw[Ac,<-Po lb nb k]
  rw[e]
  refine(B0 _ j.perm).trans ?_
  rw[<-Ac]
  exact Bc _ CW
 ·rcases Aq.mp hy with hy|hy
  ·exact h y hy x hx
  ·exact j.ua x hx y hy
 ·rcases Aq.mp hy with hy|hy
  ·exact cr x hx y hy
  ·exact j.ub x (by rw[sd];exact A6 _ hx) y hy
theorem J2.all(j:J2 rk la lb o na nb):(la.take na++lb.take nb++o).Perm (la++lb):=by
 have e:(la.take na++lb.take nb++(la.drop na++lb.drop nb)).Perm (la++lb):=by
  have e1:(la++lb)=(la.take na++la.drop na)++(lb.take nb++lb.drop nb):=by rw[Bm,Bm]
  rw[e1,Ac,Ac]
  refine B0 _ ?_
  rw[<-Ac,<-Ac]
  exact Bc _ CW
 exact(B0 _ j.perm).trans e
theorem J2.done(j:J2 rk la lb o na nb)(sa:Up rk la)(sb:Up rk lb)(h:na=0∨nb=0):Hn rk la lb (la.take na++lb.take nb++o):=by
 refine⟨j.all,?_⟩
 rcases h with h|h
 ·rw[h,DV,CN]
  exact(sb.take nb).app j.srt j.ub
 ·rw[h,DV,BN]
  exact(sa.take na).app j.srt j.ua
theorem J2.first(j:J2 rk la lb o na nb)(sa:Up rk la)(sb:Up rk lb)(h:∀y∈lb.take nb,∀x∈la,rk y<=rk x):Hn rk la lb (lb.take nb++la.take na++o):=by
 refine⟨?_,((sb.take nb).app (sa.take na) λx hx y hy=>h x hx y (B5 hy)).app j.srt λx hx y hy=>?_⟩
 ·refine List.Perm.trans ?_ j.all
  exact Bc _ CW
 ·rcases Aq.mp hx with hx|hx
  ·exact j.ub x hx y hy
  ·exact j.ua x hx y hy
def fP:Array Keyed->Array Keyed->StateT SortSt Sem (Array Keyed):=sortPriv% PySem.Builtin.mergeLo
def nJ:Array Keyed->Array Keyed->StateT SortSt Sem (Array Keyed):=sortPriv% PySem.Builtin.mergeHi
structure Gs(st st':SortSt):Prop where
 kind:kindOf st'=kindOf st
 arr:arrOf st'=arrOf st
 pend:pendingOf st'=pendingOf st
 failed:failedOf st'=failedOf st
theorem Gs.refl(st:SortSt):Gs st st:=⟨rfl,rfl,rfl,rfl⟩
theorem Gs.trans{a b c:SortSt}(h:Gs a b)(q:Gs b c):Gs a c:=⟨q.kind.trans h.kind,q.arr.trans h.arr,q.pend.trans h.pend,q.failed.trans h.failed⟩
theorem O5(st:SortSt)(g:Nat):Gs st (SortSt.mk' (kindOf st) (arrOf st) (pendingOf st) g (failedOf st)):=⟨rfl,rfl,rfl,rfl⟩
theorem NP{xs:Array Keyed}{i k:Nat}{x:Keyed}(h:x∈(xs.toList.drop i).take k):∃j,i<=j/\j<i+k/\j<xs.size/\kv rk xs j=rk x/\xs[j]?=some x:=by
 obtain⟨m,hm,e⟩:=List.getElem_of_mem h
 have l:=hm
 rw[Ah,BH,AT]at l
 have e2:xs[i+m]?=some x:=by
  rw[List.getElem_take,List.getElem_drop]at e
  rw[<-e,<-A0]
  exact AW (by rw[AT];lia)
 exact⟨i+m,by lia,by lia,by lia,IP e2,e2⟩
theorem OS{xs:Array Keyed}{i:Nat}{x:Keyed}(h:x∈xs.toList.drop i):∃j,i<=j/\j<xs.size/\kv rk xs j=rk x:=by
 have h':x∈(xs.toList.drop i).take xs.size:=by
  rw[Af (by rw[BH,AT];lia)]
  exact h
 obtain⟨j,h1,_,h3,h4,_⟩:=NP (rk:=rk) h'
 exact⟨j,h1,h3,h4⟩
theorem UA{xs:Array Keyed}{i:Nat}{x:Keyed}(h:x∈xs.toList.take i):∃j,j<i/\j<xs.size/\kv rk xs j=rk x:=by
 have h':x∈(xs.toList.drop 0).take i:=by rw[DW];exact h
 obtain⟨j,h1,h2,h3,h4,_⟩:=NP (rk:=rk) h'
 exact⟨j,by lia,h3,h4⟩
theorem KD{xs:Array Keyed}(h:Up rk xs.toList):Ir rk xs 0 xs.size:=λi j _ hij hj=>by
 by_cases e:i=j
 ·subst e;exact AG _
 ·have q:=Dn.mp h i j (by rw[AT];lia) (by rw[AT];lia) (by lia)
  have ei:xs[i]?=some xs[i]:=AF (by lia)
  have ej:xs[j]?=some xs[j]:=AF (by lia)
  rw[IP ei,IP ej]
  simpa using q
theorem Qi{xs:Array Keyed}{i k:Nat}(h:Ir rk xs i (i+k))(hz:i+k<=xs.size):Up rk (xs.toList.drop i |>.take k):=by
 refine Dn.mpr λp q hp hq hpq=>?_
 have l:=hq
 rw[Ah,BH,AT]at l
 have ep:xs[i+p]?=some xs[i+p]:=AF (by lia)
 have eq:xs[i+q]?=some xs[i+q]:=AF (by lia)
 have r:=h (i+p) (i+q) (by lia) (by lia) (by lia)
 rw[IP ep,IP eq]at r
 simpa [List.getElem_take,List.getElem_drop]using r
theorem NS{xs:Array Keyed}{i:Nat}{x:Keyed}(h:xs[i]?=some x):(xs.toList.drop i).take 1=[x]:=by
 obtain⟨hi,e⟩:=Bo.mp h
 have hl:i<xs.toList.length:=by rw[AT];exact hi
 rw[List.drop_eq_getElem_cons hl,Dg,DV]
 rw[Array.getElem_toList,e]
theorem LA(xs:Array Keyed)(i j:Nat):(xs.extract i j).toList=(xs.toList.drop i).take (j-i):=by
 rw[Array.toList_extract,List.extract_eq_drop_take]
theorem Vp(xs:Array Keyed)(i:Nat):(xs.extract i xs.size).toList=xs.toList.drop i:=by
 rw[LA,Af (by rw[BH,AT];lia)]
theorem Vx(xs:Array Keyed)(i:Nat):(xs.extract 0 i).toList=xs.toList.take i:=by
 rw[LA,DW,HA]
section
variable{prog:Program}{w:World}{A:Around}{E:Value->Shared->Prop}{s:Shared}{κ:SortKind}{M:Keyed->Prop}
theorem Vi{σ α:Type}{c:Prop}[Decidable c]{x y:StateT σ Sem α}{Q:α->σ->Prop}{st:σ}(h1:c->wpS (model prog w) A E s x Q st)(h2:¬ c->wpS (model prog w) A E s y Q st):wpS (model prog w) A E s (if c then x else y) Q st:=by
 by_cases h:c
 ·rw[AH h];exact h1 h
 ·rw[AE h];exact h2 h
abbrev Ob:=Option (Array Keyed)×Array Keyed×Nat×Nat×Nat×Nat×Nat
def l3(a b:Array Keyed)(out:Array Keyed)(ia ib g ac bc:Nat):StateT SortSt Sem (ForInStep Ob):=do
 let x <-elem' a ia
 if (ia+1+1==a.size)=true then pure (.done (some (out.push x++b.extract ib b.size++a.extract (ia+1) a.size),out.push x,ia+1,ib,g,ac,bc))
 else if (decide (ac<7)&&decide (bc<7))=true then pure (.done (none,out.push x,ia+1,ib,g,ac,bc))
 else pure (.yield (none,out.push x,ia+1,ib,g,ac,bc))
def l2(a b:Array Keyed)(out:Array Keyed)(ia ib g ac bc0:Nat):StateT SortSt Sem (ForInStep Ob):=do
 let x <-elem' b ib
 if (ib+1==b.size)=true then pure (.done (some (out.push x++a.extract ia a.size++b.extract (ib+1) b.size),out.push x,ia,ib+1,g,ac,bc0))
 else do
  let y <-elem' a ia
  let r <-SX true y b (ib+1) (b.size-(ib+1)) 0
  match r with
  |some k =>
   if k>0 then
    if (ib+1+k==b.size)=true then pure (.done (some (out.push x++b.extract (ib+1) (ib+1+k)++a.extract ia a.size++b.extract (ib+1+k) b.size),out.push x++b.extract (ib+1) (ib+1+k),ia,ib+1+k,g,ac,k))
    else l3 a b (out.push x++b.extract (ib+1) (ib+1+k)) ia (ib+1+k) g ac k
   else l3 a b (out.push x) ia (ib+1) g ac k
  |_=>pure (.done (some (out.push x++a.extract ia a.size++b.extract (ib+1) b.size),out.push x,ia,ib+1,g,ac,bc0))
def l1(a b:Array Keyed)(out:Array Keyed)(ia ib g ac0 bc0:Nat):StateT SortSt Sem (ForInStep Ob):=do
 let y <-elem' b ib
 let r <-SX false y a ia (a.size-ia) 0
 match r with
 |some k =>
  if k>0 then
   if (ia+k+1==a.size)=true then pure (.done (some (out++a.extract ia (ia+k)++b.extract ib b.size++a.extract (ia+k) a.size),out++a.extract ia (ia+k),ia+k,ib,g,k,bc0))
   else if (ia+k==a.size)=true then pure (.done (some (out++a.extract ia (ia+k)++a.extract (ia+k) a.size++b.extract ib b.size),out++a.extract ia (ia+k),ia+k,ib,g,k,bc0))
   else l2 a b (out++a.extract ia (ia+k)) (ia+k) ib g k bc0
  else l2 a b out ia ib g k bc0
 |_=>pure (.done (some (out++a.extract ia a.size++b.extract ib b.size),out,ia,ib,g,ac0,bc0))
structure Hh(M:Keyed->Prop)(rk:Keyed->Nat)(a b:Array Keyed):Prop where
 ma:All M a
 mb:All M b
 sa:Up rk a.toList
 sb:Up rk b.toList
 za:0<a.size
 zb:0<b.size
 fst:kv rk b 0<kv rk a 0
 lst:∀i,i<b.size->kv rk b i<kv rk a (a.size-1)
variable{a b:Array Keyed}
theorem Hh.done(m:Hh M rk a b){out:Array Keyed}(j:J rk a.toList b.toList out.toList ia ib)(h:ia=a.size∨ib=b.size):Hn rk a.toList b.toList (out++a.extract ia a.size++b.extract ib b.size).toList:=by
 rw[BR,BR,Vp,Vp]
 exact j.done m.sa m.sb (by rw[AT,AT];exact h)
theorem Hh.last(m:Hh M rk a b){out:Array Keyed}(j:J rk a.toList b.toList out.toList ia ib)(h:ia+1=a.size):Hn rk a.toList b.toList (out++b.extract ib b.size++a.extract ia a.size).toList:=by
 rw[BR,BR,Vp,Vp]
 refine j.last m.sa m.sb λy hy x hx=>?_
 obtain⟨p,p1,p2,p3⟩:=OS (rk:=rk) (i:=0) (by rw[DW];exact hy)
 obtain⟨r,r1,r2,r3⟩:=OS (rk:=rk) hx
 have e:r=a.size-1:=by lia
 have:=m.lst p p2
 rw[e]at r3
 lia
theorem Hh.pushA(m:Hh M rk a b){out:Array Keyed}{x:Keyed}(j:J rk a.toList b.toList out.toList ia ib)(hx:a[ia]?=some x)(h:∀i,ib<=i->i<b.size->kv rk a ia<=kv rk b i):J rk a.toList b.toList (out.push x).toList (ia+1) ib:=by
 obtain⟨hi,_⟩:=Bo.mp hx
 have q:=j.a (k:=1) m.sa (by rw[AT];lia) (λz hz y hy=>by
  rw[NS hx]at hz
  rw[AS.mp hz]
  obtain⟨r,r1,r2,r3⟩:=OS (rk:=rk) hy
  have:=h r r1 r2
  rw[IP hx]at this
  lia)
 rw[NS hx]at q
 rw[DT]
 exact q
theorem Hh.pushB(m:Hh M rk a b){out:Array Keyed}{x:Keyed}(j:J rk a.toList b.toList out.toList ia ib)(hx:b[ib]?=some x)(h:∀i,ia<=i->i<a.size->kv rk b ib<=kv rk a i):J rk a.toList b.toList (out.push x).toList ia (ib+1):=by
 obtain⟨hi,_⟩:=Bo.mp hx
 have q:=j.b (k:=1) m.sb (by rw[AT];lia) (λz hz y hy=>by
  rw[NS hx]at hz
  rw[AS.mp hz]
  obtain⟨r,r1,r2,r3⟩:=OS (rk:=rk) hy
  have:=h r r1 r2
  rw[IP hx]at this
  lia)
 rw[NS hx]at q
 rw[DT]
 exact q
theorem Hh.appA(m:Hh M rk a b){out:Array Keyed}(j:J rk a.toList b.toList out.toList ia ib)(hk:ia+k<=a.size)(h:∀p,ia<=p->p<ia+k->∀i,ib<=i->i<b.size->kv rk a p<=kv rk b i):J rk a.toList b.toList (out++a.extract ia (ia+k)).toList (ia+k) ib:=by
 have q:=j.a (k:=k) m.sa (by rw[AT];lia) (λz hz y hy=>by
  obtain⟨p,p1,p2,p3,p4,_⟩:=NP (rk:=rk) hz
  obtain⟨r,r1,r2,r3⟩:=OS (rk:=rk) hy
  have:=h p p1 p2 r r1 r2
  lia)
 rw[BR,LA,FP]
 exact q
theorem Hh.appB(m:Hh M rk a b){out:Array Keyed}(j:J rk a.toList b.toList out.toList ia ib)(hk:ib+k<=b.size)(h:∀p,ib<=p->p<ib+k->∀i,ia<=i->i<a.size->kv rk b p<=kv rk a i):J rk a.toList b.toList (out++b.extract ib (ib+k)).toList ia (ib+k):=by
 have q:=j.b (k:=k) m.sb (by rw[AT];lia) (λz hz y hy=>by
  obtain⟨p,p1,p2,p3,p4,_⟩:=NP (rk:=rk) hz
  obtain⟨r,r1,r2,r3⟩:=OS (rk:=rk) hy
  have:=h p p1 p2 r r1 r2
  lia)
 rw[BR,LA,FP]
 exact q
def MV(rk:Keyed->Nat)(a b:Array Keyed)(p:Nat)(st:SortSt)(c:Ob)(st':SortSt):Prop:=Gs st st' /\
 ((∃r,c.1=some r/\Hn rk a.toList b.toList r.toList)∨(c.1=none/\J rk a.toList b.toList c.2.1.toList c.2.2.1 c.2.2.2.1/\c.2.2.1+1<a.size/\c.2.2.2.1<b.size/\p<=c.2.2.1+c.2.2.2.1))
theorem Rr(m:Hh M rk a b){out:Array Keyed}{g ac bc p:Nat}{st st':SortSt}{R:ForInStep Ob->SortSt->Prop}(gs:Gs st st')(j:J rk a.toList b.toList out.toList ia ib)(h1:ia+1<a.size)(h2:ib<b.size)(hp:p<=ia+ib)
  (h:∀i,ib<=i->i<b.size->kv rk a ia<=kv rk b i) (d:∀c,MV rk a b p st c st'->R (.done c) st') (y:∀c,c.1=none->MV rk a b p st c st'->R (.yield c) st'):wpS (model prog w) A E s (l3 a b out ia ib g ac bc) R st':=by
 have ea:a[ia]?=some a[ia]:=AF (by lia)
 refine AU (Iy ea ?_)
 have j':=m.pushA j ea h
 by_cases c:ia+1+1=a.size
 ·rw[AH (by simpa using c)]
  exact Aa (d _ ⟨gs,.inl ⟨_,rfl,m.last j' c⟩⟩)
 ·rw[AE (by simpa using c)]
  have on:MV rk a b p st (none,out.push a[ia],ia+1,ib,g,ac,bc) st':=⟨gs,.inr ⟨rfl,j',(by show ia+1+1<a.size;lia),h2,(by show p<=ia+1+ib;lia)⟩⟩
  split
  ·exact Aa (d _ on)
  ·exact Aa (y _ rfl on)
theorem Ul(hA:Jm prog w A s κ M rk)(m:Hh M rk a b){out:Array Keyed}{g ac bc p:Nat}{st st':SortSt}{R:ForInStep Ob->SortSt->Prop}(hk:kindOf st=κ)(gs:Gs st st')(j:J rk a.toList b.toList out.toList ia ib)(h1:ia+1<a.size)(h2:ib<b.size)(hp:p<=ia+ib)
  (h:∀i,ia<=i->i<a.size->kv rk b ib<=kv rk a i) (d:∀c,MV rk a b p st c st'->R (.done c) st') (y:∀c,c.1=none->MV rk a b p st c st'->R (.yield c) st'):wpS (model prog w) A E s (l2 a b out ia ib g ac bc) R st':=by
 have eb:b[ib]?=some b[ib]:=AF h2
 have ea:a[ia]?=some a[ia]:=AF (by lia)
 refine AU (Iy eb ?_)
 have j':=m.pushB j eb h
 by_cases c:ib+1=b.size
 ·rw[AH (by simpa using c)]
  exact Aa (d _ ⟨gs,.inl ⟨_,rfl,m.done j' (.inr c)⟩⟩)
 ·rw[AE (by simpa using c)]
  refine AU (Iy ea (AU (O8 hA (gs.kind.trans hk) (m.ma _ _ ea) m.mb (by lia) (by lia) (λi k a1 a2 a3=>KD m.sb i k (Az _) a2 (by lia)) λk k1 k2 k3=>?_)))
  have sA:=KD m.sa
  have lt:∀i,ib+1<=i->i<ib+1+k->kv rk b i<kv rk a ia:=λi i1 i2=>by
   have:=k2 i i1 i2
   unfold Bd at this
   rw[AH rfl,<-IP (rk:=rk) ea]at this
   exact this
  have ge:∀i,ib+1+k<=i->i<b.size->kv rk a ia<=kv rk b i:=λi i1 i2=>by
   have:=k3 i i1 (by lia)
   unfold Bd at this
   rw[AH rfl,<-IP (rk:=rk) ea]at this
   lia
  dsimp only
  by_cases k0:k>0
  ·rw[AH k0]
   have j2:=m.appB (k:=k) j' (by lia) (λp p1 p2 i i1 i2=>by
    have q1:=lt p p1 p2
    have q2:=sA ia i (Az _) i1 i2
    lia)
   by_cases c2:ib+1+k=b.size
   ·rw[AH (by simpa using c2)]
    exact Aa (d _ ⟨gs,.inl ⟨_,rfl,m.done j2 (.inr c2)⟩⟩)
   ·rw[AE (by simpa using c2)]
    exact Rr m gs j2 h1 (by lia) (by lia) ge d y
  ·rw[AE k0]
   exact Rr m gs j' h1 (by lia) (by lia) (λi i1 i2=>ge i (by lia) i2) d y
theorem SE(hA:Jm prog w A s κ M rk)(m:Hh M rk a b){out:Array Keyed}{g ac bc p:Nat}{st st':SortSt}{R:ForInStep Ob->SortSt->Prop}(hk:kindOf st=κ)(gs:Gs st st')(j:J rk a.toList b.toList out.toList ia ib)(h1:ia+1<a.size)(h2:ib<b.size)(hp:p<=ia+ib)
  (d:∀c,MV rk a b p st c st'->R (.done c) st') (y:∀c,c.1=none->MV rk a b p st c st'->R (.yield c) st'):wpS (model prog w) A E s (l1 a b out ia ib g ac bc) R st':=by
 have eb:b[ib]?=some b[ib]:=AF h2
 refine AU (Iy eb (AU (O8 hA (gs.kind.trans hk) (m.mb _ _ eb) m.ma (by lia) (by lia) (λi k a1 a2 a3=>KD m.sa i k (Az _) a2 (by lia)) λk k1 k2 k3=>?_)))
 have sB:=KD m.sb
 have le:∀i,ia<=i->i<ia+k->kv rk a i<=kv rk b ib:=λi i1 i2=>by
  have:=k2 i i1 i2
  unfold Bd at this
  rw[AE (by decide),<-IP (rk:=rk) eb]at this
  exact this
 have gt:∀i,ia+k<=i->i<a.size->kv rk b ib<=kv rk a i:=λi i1 i2=>by
  have:=k3 i i1 (by lia)
  unfold Bd at this
  rw[AE (by decide),<-IP (rk:=rk) eb]at this
  lia
 dsimp only
 by_cases k0:k>0
 ·rw[AH k0]
  have j2:=m.appA (k:=k) j (by lia) (λp p1 p2 i i1 i2=>by
   have q1:=le p p1 p2
   have q2:=sB ib i (Az _) i1 i2
   lia)
  by_cases c:ia+k+1=a.size
  ·rw[AH (by simpa using c)]
   exact Aa (d _ ⟨gs,.inl ⟨_,rfl,m.last j2 c⟩⟩)
  rw[AE (by simpa using c)]
  by_cases c2:ia+k=a.size
  ·rw[AH (by simpa using c2)]
   exact Aa (d _ ⟨gs,.inl ⟨_,rfl,m.done j2 (.inl c2)⟩⟩)
  ·rw[AE (by simpa using c2)]
   exact Ul hA m hk gs j2 (by lia) h2 (by lia) gt d y
 ·rw[AE k0]
  exact Ul hA m hk gs j h1 h2 hp (λi i1 i2=>gt i (by lia) i2) d y
theorem Yp(hA:Jm prog w A s κ M rk){st:SortSt}{Q:Array Keyed->SortSt->Prop}(hk:kindOf st=κ)(m:Hh M rk a b)
  (q:∀r st',Gs st st'->Hn rk a.toList b.toList r.toList->Q r st'):wpS (model prog w) A E s (fP a b) Q st:=by
 refine AU (Ed (Cj ⟨rfl,?_⟩))
 have za:=m.za
 have zb:=m.zb
 have eb0:b[0]?=some b[0]:=AF zb
 have sA:=KD m.sa
 have sB:=KD m.sb
 have j0:J rk a.toList b.toList (#[]:Array Keyed).toList 0 0:=⟨Az _,Az _,by simp,List.Pairwise.nil,λx hx=>by simp at hx,λx hx=>by simp at hx⟩
 have j1:J rk a.toList b.toList (#[b[0]]:Array Keyed).toList 0 1:=m.pushB j0 eb0 λi i1 i2=>BE (Bf m.fst) (sA 0 i (Az _) i1 i2)
 refine AU (Iy eb0 ?_)
 by_cases c1:1=b.size
 ·rw[AH (by simpa using c1)]
  exact Aa (q _ st (Gs.refl _) (m.done j1 (.inr c1)))
 rw[AE (by simpa using c1)]
 by_cases c2:0+1=a.size
 ·rw[AH (by simpa using c2)]
  exact Aa (q _ st (Gs.refl _) (m.last j1 c2))
 rw[AE (by simpa using c2)]
 refine AU (Dy ?_)
 refine AU (Cq (Bj (I:=λx c st'=>Gs st st'/\c.1=none/\J rk a.toList b.toList c.2.1.toList c.2.2.1 c.2.2.2.1/\c.2.2.1+1<a.size/\c.2.2.2.1<b.size/\x+1<=c.2.2.1+c.2.2.2.1)
  (Q:=λc st'=>Gs st st'/\∃r,c.1=some r/\Hn rk a.toList b.toList r.toList) ?step ?fin ⟨Gs.refl _,rfl,j1,by show 0+1<a.size;lia,by show 1<b.size;lia,AG _⟩) ?post)
 case post =>
  rintro⟨c,HU⟩ st' ⟨gs,r,e,g⟩
  have e':c=some r:=e
  subst e'
  exact Aa (q r st' gs g)
 case fin =>
  rintro⟨c,out,ia,ib,g⟩ st' ⟨gs,e,j,h1,h2,h3⟩
  exfalso
  dsimp only at h1 h2 h3
  lia
 case step =>
  rintro x ⟨c,out,ia,ib,g⟩ st' _ hx ⟨gs,e,j,h1,h2,h3⟩
  dsimp only at e j h1 h2 h3
  subst e
  refine AU (Cq (Bj (I:=λy c st''=>st''=st'/\c.1=none/\J rk a.toList b.toList c.2.1.toList c.2.2.1 c.2.2.2.1/\c.2.2.1+1<a.size/\c.2.2.2.1<b.size/\x+1+min y 1<=c.2.2.1+c.2.2.2.1)
   (Q:=λc st''=>st''=st'/\((∃r,c.1=some r/\Hn rk a.toList b.toList r.toList)∨(c.1=none/\J rk a.toList b.toList c.2.1.toList c.2.2.1 c.2.2.2.1/\c.2.2.1+1<a.size/\c.2.2.2.1<b.size/\x+2<=c.2.2.1+c.2.2.2.1))) ?step1 ?fin1 ⟨rfl,rfl,j,h1,h2,by show x+1+min 0 1<=ia+ib;lia⟩) ?post1)
  case fin1 =>
   rintro⟨c,out,ia,ib,ac,bc⟩ st'' ⟨e1,e,j,h1,h2,h3⟩
   refine⟨e1,.inr ⟨e,j,h1,h2,?_⟩⟩
   dsimp only at h3 ⊢
   lia
  case step1 =>
   rintro y ⟨c,out,ia,ib,ac,bc⟩ st'' _ hy ⟨e1,e,j,h1,h2,h3⟩
   subst e1
   dsimp only at e j h1 h2 h3
   subst e
   have eb:b[ib]?=some b[ib]:=AF h2
   have ea:a[ia]?=some a[ia]:=AF (by lia)
   refine AU (Iy eb (AU (Iy ea (AU (QL hA (gs.kind.trans hk) (m.mb _ _ eb) (m.ma _ _ ea) ?_)))))
   by_cases c:rk b[ib]<rk a[ia]
   ·rw[AX c]
    dsimp only
    rw[AH rfl]
    refine AU (Iy eb ?_)
    have j':=m.pushB j eb λi i1 i2=>by
     have q1:=sA ia i (Az _) i1 i2
     rw[IP ea]at q1
     rw[IP eb]
     lia
    by_cases c3:ib+1=b.size
    ·rw[AH (by simpa using c3)]
     exact Aa ⟨rfl,.inl ⟨_,rfl,m.done j' (.inr c3)⟩⟩
    rw[AE (by simpa using c3)]
    split
    ·exact Aa ⟨rfl,.inr ⟨rfl,j',h1,by dsimp only;lia,by dsimp only;lia⟩⟩
    ·exact Aa ⟨rfl,rfl,j',h1,by dsimp only;lia,by dsimp only;lia⟩
   ·rw[AN c]
    dsimp only
    rw[AE (by decide)]
    refine AU (Iy ea ?_)
    have j':=m.pushA j ea λi i1 i2=>by
     have q1:=sB ib i (Az _) i1 i2
     rw[IP eb]at q1
     rw[IP ea]
     lia
    by_cases c3:ia+1+1=a.size
    ·rw[AH (by simpa using c3)]
     exact Aa ⟨rfl,.inl ⟨_,rfl,m.last j' c3⟩⟩
    rw[AE (by simpa using c3)]
    split
    ·exact Aa ⟨rfl,.inr ⟨rfl,j',by dsimp only;lia,h2,by dsimp only;lia⟩⟩
    ·exact Aa ⟨rfl,rfl,j',by dsimp only;lia,h2,by dsimp only;lia⟩
  case post1 =>
   rintro⟨c,out,ia,ib,ac,bc⟩ st'' ⟨e1,h⟩
   subst e1
   rcases h with⟨r,e,g1⟩|⟨e,j,h1,h2,h3⟩
   ·have e':c=some r:=e
    subst e'
    exact Aa ⟨gs,r,rfl,g1⟩
   ·dsimp only at e j h1 h2 h3
    subst e
    refine AU (Ed (Cj ⟨rfl,?_⟩))
    refine AU (Cq (Bj (I:=λ_ c st3=>c.1=none/\MV rk a b (x+2) st c st3) (Q:=λc st3=>MV rk a b (x+2) st c st3) ?step2 ?fin2 ⟨rfl,gs,.inr ⟨rfl,j,h1,h2,h3⟩⟩) ?post2)
    case fin2 =>
     rintro c st3 ⟨_,hc⟩
     exact hc
    case step2 =>
     rintro y ⟨c,out,ia,ib,g2,ac,bc⟩ st3 _ hy ⟨e,gs3,hc⟩
     have e':c=none:=e
     subst e'
     rcases hc with⟨r,er,_⟩|⟨_,j,h1,h2,h3⟩
     ·cases er
     dsimp only at j h1 h2 h3
     refine Vi (λ_=>?_) (λ_=>?_)
     ·refine AU (Cw ?_)
      exact SE hA m hk (gs3.trans (O5 st3 (g2-1))) j h1 h2 h3 (λc hc=>hc) (λc e hc=>⟨e,hc⟩)
     ·refine AU (Cw ?_)
      exact SE hA m hk (gs3.trans (O5 st3 g2)) j h1 h2 h3 (λc hc=>hc) (λc e hc=>⟨e,hc⟩)
    case post2 =>
     rintro⟨c,out,ia,ib,g2,ac,bc⟩ st3 ⟨gs3,hc⟩
     rcases hc with⟨r,er,g3⟩|⟨er,j,h1,h2,h3⟩
     ·have e':c=some r:=er
      subst e'
      exact Aa ⟨gs3,r,rfl,g3⟩
     ·have e':c=none:=er
      subst e'
      dsimp only at j h1 h2 h3 ⊢
      refine AU (Cw (Aa ⟨gs3.trans (O5 st3 (g2+1)),rfl,j,h1,h2,by dsimp only;lia⟩))
end
end
section
variable{rk:Keyed->Nat}{na nb k:Nat}{prog:Program}{w:World}{A:Around}{E:Value->Shared->Prop}{s:Shared}{κ:SortKind}{M:Keyed->Prop}
abbrev OR:=Option (Array Keyed)×Nat×Nat×Array Keyed×Nat×Nat×Nat
def r3(a b:Array Keyed)(out:Array Keyed)(na nb g ac bc:Nat):StateT SortSt Sem (ForInStep OR):=do
 let x <-elem' a (na-1)
 if (na-1==0)=true then pure (.done (some (a.extract 0 (na-1)++b.extract 0 nb++(out.push x).reverse),na-1,nb,out.push x,g,ac,bc))
 else if (decide (ac<7)&&decide (bc<7))=true then pure (.done (none,na-1,nb,out.push x,g,ac,bc))
 else pure (.yield (none,na-1,nb,out.push x,g,ac,bc))
def r2(a b:Array Keyed)(out:Array Keyed)(na nb g ac bc0:Nat):StateT SortSt Sem (ForInStep OR):=do
 let x <-elem' b (nb-1)
 if (nb-1==1)=true then pure (.done (some (b.extract 0 (nb-1)++a.extract 0 na++(out.push x).reverse),na,nb-1,out.push x,g,ac,bc0))
 else do
  let y <-elem' a (na-1)
  let r <-SX true y b 0 (nb-1) (nb-1-1)
  match r with
  |some p =>
   if nb-1-p>0 then
    if (p==1)=true then pure (.done (some (b.extract 0 p++a.extract 0 na++(out.push x++(b.extract p (nb-1)).reverse).reverse),na,p,out.push x++(b.extract p (nb-1)).reverse,g,ac,nb-1-p))
    else if (p==0)=true then pure (.done (some (a.extract 0 na++b.extract 0 p++(out.push x++(b.extract p (nb-1)).reverse).reverse),na,p,out.push x++(b.extract p (nb-1)).reverse,g,ac,nb-1-p))
    else r3 a b (out.push x++(b.extract p (nb-1)).reverse) na p g ac (nb-1-p)
   else r3 a b (out.push x) na (nb-1) g ac (nb-1-p)
  |_=>pure (.done (some (a.extract 0 na++b.extract 0 (nb-1)++(out.push x).reverse),na,nb-1,out.push x,g,ac,bc0))
def r1(a b:Array Keyed)(out:Array Keyed)(na nb g ac0 bc0:Nat):StateT SortSt Sem (ForInStep OR):=do
 let y <-elem' b (nb-1)
 let r <-SX false y a 0 na (na-1)
 match r with
 |some p =>
  if na-p>0 then
   if (p==0)=true then pure (.done (some (a.extract 0 p++b.extract 0 nb++(out++(a.extract p na).reverse).reverse),p,nb,out++(a.extract p na).reverse,g,na-p,bc0))
   else r2 a b (out++(a.extract p na).reverse) p nb g (na-p) bc0
  else r2 a b out na nb g (na-p) bc0
 |_=>pure (.done (some (a.extract 0 na++b.extract 0 nb++out.reverse),na,nb,out,g,ac0,bc0))
variable{a b:Array Keyed}
theorem Hh.done2(m:Hh M rk a b){out:Array Keyed}(j:J2 rk a.toList b.toList out.toList.reverse na nb)(h:na=0∨nb=0):Hn rk a.toList b.toList (a.extract 0 na++b.extract 0 nb++out.reverse).toList:=by
 rw[BR,BR,Vx,Vx,Ce]
 exact j.done m.sa m.sb h
theorem Hh.first2(m:Hh M rk a b){out:Array Keyed}(j:J2 rk a.toList b.toList out.toList.reverse na nb)(h:nb=1):Hn rk a.toList b.toList (b.extract 0 nb++a.extract 0 na++out.reverse).toList:=by
 rw[BR,BR,Vx,Vx,Ce]
 refine j.first m.sa m.sb λy hy x hx=>?_
 obtain⟨p,p1,p2,p3⟩:=UA (rk:=rk) hy
 obtain⟨r,r1,r2,r3⟩:=OS (rk:=rk) (i:=0) (by rw[DW];exact hx)
 have e:p=0:=by lia
 have:=m.fst
 have:=KD m.sa 0 r (AG _) (Az _) r2
 rw[e]at p3
 lia
theorem Hh.pushA2(m:Hh M rk a b){out:Array Keyed}{x:Keyed}(j:J2 rk a.toList b.toList out.toList.reverse na nb)(h1:0<na)(hx:a[na-1]?=some x)(h:∀i,i<nb->i<b.size->kv rk b i<=kv rk a (na-1)):J2 rk a.toList b.toList (out.push x).toList.reverse (na-1) nb:=by
 have e:na-1+1=na:=by lia
 rw[<-e]at j
 have q:=j.a (k:=1) m.sa (λz hz y hy=>by
  rw[NS hx]at hz
  rw[AS.mp hz]
  obtain⟨r,r1,r2,r3⟩:=UA (rk:=rk) hy
  have:=h r r1 r2
  rw[IP hx]at this
  lia)
 rw[NS hx]at q
 rw[DT,Dh]
 exact q
theorem Hh.pushB2(m:Hh M rk a b){out:Array Keyed}{x:Keyed}(j:J2 rk a.toList b.toList out.toList.reverse na nb)(h1:0<nb)(hx:b[nb-1]?=some x)(h:∀i,i<na->i<a.size->kv rk a i<=kv rk b (nb-1)):J2 rk a.toList b.toList (out.push x).toList.reverse na (nb-1):=by
 have e:nb-1+1=nb:=by lia
 rw[<-e]at j
 have q:=j.b (k:=1) m.sb (λz hz y hy=>by
  rw[NS hx]at hz
  rw[AS.mp hz]
  obtain⟨r,r1,r2,r3⟩:=UA (rk:=rk) hy
  have:=h r r1 r2
  rw[IP hx]at this
  lia)
 rw[NS hx]at q
 rw[DT,Dh]
 exact q
theorem Hh.appA2(m:Hh M rk a b){out:Array Keyed}{p:Nat}(j:J2 rk a.toList b.toList out.toList.reverse na nb)(hp:p<=na)(h:∀r,p<=r->r<na->∀i,i<nb->i<b.size->kv rk b i<=kv rk a r):J2 rk a.toList b.toList (out++(a.extract p na).reverse).toList.reverse p nb:=by
 have e:p+(na-p)=na:=by lia
 rw[<-e]at j
 have q:=j.a (k:=na-p) m.sa (λz hz y hy=>by
  obtain⟨r,r1,r2,r3,r4,_⟩:=NP (rk:=rk) hz
  obtain⟨i,i1,i2,i3⟩:=UA (rk:=rk) hy
  have:=h r r1 (by lia) i i1 i2
  lia)
 rw[BR,Ce,Dh,DZ,LA]
 exact q
theorem Hh.appB2(m:Hh M rk a b){out:Array Keyed}{p:Nat}(j:J2 rk a.toList b.toList out.toList.reverse na nb)(hp:p<=nb)(h:∀r,p<=r->r<nb->∀i,i<na->i<a.size->kv rk a i<=kv rk b r):J2 rk a.toList b.toList (out++(b.extract p nb).reverse).toList.reverse na p:=by
 have e:p+(nb-p)=nb:=by lia
 rw[<-e]at j
 have q:=j.b (k:=nb-p) m.sb (λz hz y hy=>by
  obtain⟨r,r1,r2,r3,r4,_⟩:=NP (rk:=rk) hz
  obtain⟨i,i1,i2,i3⟩:=UA (rk:=rk) hy
  have:=h r r1 (by lia) i i1 i2
  lia)
 rw[BR,Ce,Dh,DZ,LA]
 exact q
def MO(rk:Keyed->Nat)(a b:Array Keyed)(p:Nat)(st:SortSt)(c:OR)(st':SortSt):Prop:=Gs st st' /\
 ((∃r,c.1=some r/\Hn rk a.toList b.toList r.toList)∨(c.1=none/\J2 rk a.toList b.toList c.2.2.2.1.toList.reverse c.2.1 c.2.2.1/\1<=c.2.1/\2<=c.2.2.1/\p+c.2.1+c.2.2.1<=a.size+b.size))
theorem J2.za(j:J2 rk a.toList b.toList o na nb):na<=a.size:=by have:=j.ha;rwa [AT]at this
theorem J2.zb(j:J2 rk a.toList b.toList o na nb):nb<=b.size:=by have:=j.hb;rwa [AT]at this
theorem Tt(m:Hh M rk a b){out:Array Keyed}{g ac bc p:Nat}{st st':SortSt}{R:ForInStep OR->SortSt->Prop}(gs:Gs st st')(j:J2 rk a.toList b.toList out.toList.reverse na nb)(h1:1<=na)(h2:2<=nb)(hp:p+na+nb<=a.size+b.size)
  (h:∀i,i<nb->i<b.size->kv rk b i<=kv rk a (na-1)) (d:∀c,MO rk a b p st c st'->R (.done c) st') (y:∀c,c.1=none->MO rk a b p st c st'->R (.yield c) st'):wpS (model prog w) A E s (r3 a b out na nb g ac bc) R st':=by
 have z:=j.za
 have ea:a[na-1]?=some a[na-1]:=AF (by lia)
 refine AU (Iy ea ?_)
 have j':=m.pushA2 j h1 ea h
 by_cases c:na-1=0
 ·rw[AH (by simpa using c)]
  exact Aa (d _ ⟨gs,.inl ⟨_,rfl,m.done2 j' (.inl c)⟩⟩)
 ·rw[AE (by simpa using c)]
  have on:MO rk a b p st (none,na-1,nb,out.push a[na-1],g,ac,bc) st':=⟨gs,.inr ⟨rfl,j',(by show 1<=na-1;lia),h2,(by show p+(na-1)+nb<=a.size+b.size;lia)⟩⟩
  split
  ·exact Aa (d _ on)
  ·exact Aa (y _ rfl on)
theorem Qa(hA:Jm prog w A s κ M rk)(m:Hh M rk a b){out:Array Keyed}{g ac bc p:Nat}{st st':SortSt}{R:ForInStep OR->SortSt->Prop}(hk:kindOf st=κ)(gs:Gs st st')(j:J2 rk a.toList b.toList out.toList.reverse na nb)(h1:1<=na)(h2:2<=nb)(hp:p+na+nb<=a.size+b.size)
  (h:∀i,i<na->i<a.size->kv rk a i<=kv rk b (nb-1)) (d:∀c,MO rk a b p st c st'->R (.done c) st') (y:∀c,c.1=none->MO rk a b p st c st'->R (.yield c) st'):wpS (model prog w) A E s (r2 a b out na nb g ac bc) R st':=by
 have z:=j.za
 have z2:=j.zb
 have ea:a[na-1]?=some a[na-1]:=AF (by lia)
 have eb:b[nb-1]?=some b[nb-1]:=AF (by lia)
 refine AU (Iy eb ?_)
 have j':=m.pushB2 j (by lia) eb h
 by_cases c:nb-1=1
 ·rw[AH (by simpa using c)]
  exact Aa (d _ ⟨gs,.inl ⟨_,rfl,m.first2 j' c⟩⟩)
 ·rw[AE (by simpa using c)]
  refine AU (Iy ea (AU (O8 hA (gs.kind.trans hk) (m.ma _ _ ea) m.mb (by lia) (by lia) (λi k a1 a2 a3=>KD m.sb i k (Az _) a2 (by lia)) λr k1 k2 k3=>?_)))
  have sA:=KD m.sa
  have lt:∀i,i<r->kv rk b i<kv rk a (na-1):=λi i2=>by
   have:=k2 i (Az _) (by lia)
   unfold Bd at this
   rw[AH rfl,<-IP (rk:=rk) ea]at this
   exact this
  have ge:∀i,r<=i->i<nb-1->kv rk a (na-1)<=kv rk b i:=λi i1 i2=>by
   have:=k3 i (by lia) (by lia)
   unfold Bd at this
   rw[AH rfl,<-IP (rk:=rk) ea]at this
   lia
  dsimp only
  by_cases k0:nb-1-r>0
  ·rw[AH k0]
   have j2:=m.appB2 (p:=r) j' (by lia) (λq q1 q2 i i1 i2=>by
    have e1:=ge q q1 q2
    have e2:=sA i (na-1) (Az _) (by lia) (by lia)
    lia)
   by_cases c2:r=1
   ·rw[AH (by simpa using c2)]
    exact Aa (d _ ⟨gs,.inl ⟨_,rfl,m.first2 j2 c2⟩⟩)
   rw[AE (by simpa using c2)]
   by_cases c3:r=0
   ·rw[AH (by simpa using c3)]
    exact Aa (d _ ⟨gs,.inl ⟨_,rfl,m.done2 j2 (.inr c3)⟩⟩)
   ·rw[AE (by simpa using c3)]
    exact Tt m gs j2 h1 (by lia) (by lia) (λi i1 i2=>Bf (lt i i1)) d y
  ·rw[AE k0]
   exact Tt m gs j' h1 (by lia) (by lia) (λi i1 i2=>Bf (lt i (by lia))) d y
theorem UC(hA:Jm prog w A s κ M rk)(m:Hh M rk a b){out:Array Keyed}{g ac bc p:Nat}{st st':SortSt}{R:ForInStep OR->SortSt->Prop}(hk:kindOf st=κ)(gs:Gs st st')(j:J2 rk a.toList b.toList out.toList.reverse na nb)(h1:1<=na)(h2:2<=nb)(hp:p+na+nb<=a.size+b.size)
  (d:∀c,MO rk a b p st c st'->R (.done c) st') (y:∀c,c.1=none->MO rk a b p st c st'->R (.yield c) st'):wpS (model prog w) A E s (r1 a b out na nb g ac bc) R st':=by
 have z:=j.za
 have z2:=j.zb
 have eb:b[nb-1]?=some b[nb-1]:=AF (by lia)
 refine AU (Iy eb (AU (O8 hA (gs.kind.trans hk) (m.mb _ _ eb) m.ma (by lia) (by lia) (λi k a1 a2 a3=>KD m.sa i k (Az _) a2 (by lia)) λr k1 k2 k3=>?_)))
 have sB:=KD m.sb
 have le:∀i,i<r->kv rk a i<=kv rk b (nb-1):=λi i2=>by
  have:=k2 i (Az _) (by lia)
  unfold Bd at this
  rw[AE (by decide),<-IP (rk:=rk) eb]at this
  exact this
 have gt:∀i,r<=i->i<na->kv rk b (nb-1)<=kv rk a i:=λi i1 i2=>by
  have:=k3 i (by lia) (by lia)
  unfold Bd at this
  rw[AE (by decide),<-IP (rk:=rk) eb]at this
  lia
 dsimp only
 by_cases k0:na-r>0
 ·rw[AH k0]
  have j2:=m.appA2 (p:=r) j (by lia) (λq q1 q2 i i1 i2=>by
   have e1:=gt q q1 q2
   have e2:=sB i (nb-1) (Az _) (by lia) (by lia)
   lia)
  by_cases c:r=0
  ·rw[AH (by simpa using c)]
   exact Aa (d _ ⟨gs,.inl ⟨_,rfl,m.done2 j2 (.inl c)⟩⟩)
  ·rw[AE (by simpa using c)]
   exact Qa hA m hk gs j2 (by lia) h2 (by lia) (λi i1 i2=>le i i1) d y
 ·rw[AE k0]
  exact Qa hA m hk gs j h1 h2 hp (λi i1 i2=>le i (by lia)) d y
theorem Zv(hA:Jm prog w A s κ M rk){st:SortSt}{Q:Array Keyed->SortSt->Prop}(hk:kindOf st=κ)(m:Hh M rk a b)
  (q:∀r st',Gs st st'->Hn rk a.toList b.toList r.toList->Q r st'):wpS (model prog w) A E s (nJ a b) Q st:=by
 refine AU (Ed (Cj ⟨rfl,?_⟩))
 have za:=m.za
 have zb:=m.zb
 have ea0:a[a.size-1]?=some a[a.size-1]:=AF (by lia)
 have sA:=KD m.sa
 have sB:=KD m.sb
 have j0:J2 rk a.toList b.toList (#[]:Array Keyed).toList.reverse a.size b.size:=⟨by rw[AT];exact AG _,by rw[AT];exact AG _,by simp [Ct],List.Pairwise.nil,λx hx y hy=>by simp at hy,λx hx y hy=>by simp at hy⟩
 have j1:J2 rk a.toList b.toList (#[a[a.size-1]]:Array Keyed).toList.reverse (a.size-1) b.size:=m.pushA2 j0 za ea0 λi i1 i2=>Bf (m.lst i i2)
 refine AU (Iy ea0 ?_)
 by_cases c1:a.size-1=0
 ·rw[AH (by simpa using c1)]
  exact Aa (q _ st (Gs.refl _) (m.done2 j1 (.inl c1)))
 rw[AE (by simpa using c1)]
 by_cases c2:b.size=1
 ·rw[AH (by simpa using c2)]
  exact Aa (q _ st (Gs.refl _) (m.first2 j1 c2))
 rw[AE (by simpa using c2)]
 refine AU (Dy ?_)
 refine AU (Cq (Bj (I:=λx c st'=>Gs st st'/\c.1=none/\J2 rk a.toList b.toList c.2.2.2.1.toList.reverse c.2.1 c.2.2.1/\1<=c.2.1/\2<=c.2.2.1/\x+1+c.2.1+c.2.2.1<=a.size+b.size)
  (Q:=λc st'=>Gs st st'/\∃r,c.1=some r/\Hn rk a.toList b.toList r.toList) ?step ?fin ⟨Gs.refl _,rfl,j1,by show 1<=a.size-1;lia,by show 2<=b.size;lia,by show 0+1+(a.size-1)+b.size<=a.size+b.size;lia⟩) ?post)
 case post =>
  rintro⟨c,HU⟩ st' ⟨gs,r,e,g⟩
  have e':c=some r:=e
  subst e'
  exact Aa (q r st' gs g)
 case fin =>
  rintro⟨c,na,nb,out,g⟩ st' ⟨gs,e,j,h1,h2,h3⟩
  exfalso
  dsimp only at h1 h2 h3
  lia
 case step =>
  rintro x ⟨c,na,nb,out,g⟩ st' _ hx ⟨gs,e,j,h1,h2,h3⟩
  dsimp only at e j h1 h2 h3
  subst e
  refine AU (Cq (Bj (I:=λy c st''=>st''=st'/\c.1=none/\J2 rk a.toList b.toList c.2.2.2.1.toList.reverse c.2.1 c.2.2.1/\1<=c.2.1/\2<=c.2.2.1/\x+1+min y 1+c.2.1+c.2.2.1<=a.size+b.size)
   (Q:=λc st''=>st''=st'/\((∃r,c.1=some r/\Hn rk a.toList b.toList r.toList)∨(c.1=none/\J2 rk a.toList b.toList c.2.2.2.1.toList.reverse c.2.1 c.2.2.1/\1<=c.2.1/\2<=c.2.2.1/\x+2+c.2.1+c.2.2.1<=a.size+b.size))) ?step1 ?fin1 ⟨rfl,rfl,j,h1,h2,by show x+1+min 0 1+na+nb<=a.size+b.size;lia⟩) ?post1)
  case fin1 =>
   rintro⟨c,na,nb,out,ac,bc⟩ st'' ⟨e1,e,j,h1,h2,h3⟩
   refine⟨e1,.inr ⟨e,j,h1,h2,?_⟩⟩
   dsimp only at h3 ⊢
   lia
  case step1 =>
   rintro y ⟨c,na,nb,out,ac,bc⟩ st'' _ hy ⟨e1,e,j,h1,h2,h3⟩
   subst e1
   dsimp only at e j h1 h2 h3
   subst e
   have z:=j.za
   have z2:=j.zb
   have eb:b[nb-1]?=some b[nb-1]:=AF (by lia)
   have ea:a[na-1]?=some a[na-1]:=AF (by lia)
   refine AU (Iy eb (AU (Iy ea (AU (QL hA (gs.kind.trans hk) (m.mb _ _ eb) (m.ma _ _ ea) ?_)))))
   by_cases c:rk b[nb-1]<rk a[na-1]
   ·rw[AX c]
    dsimp only
    rw[AH rfl]
    refine AU (Iy ea ?_)
    have j':=m.pushA2 j h1 ea λi i1 i2=>by
     have q1:=sB i (nb-1) (Az _) (by lia) (by lia)
     rw[IP eb]at q1
     rw[IP ea]
     lia
    by_cases c3:na-1=0
    ·rw[AH (by simpa using c3)]
     exact Aa ⟨rfl,.inl ⟨_,rfl,m.done2 j' (.inl c3)⟩⟩
    rw[AE (by simpa using c3)]
    split
    ·exact Aa ⟨rfl,.inr ⟨rfl,j',by dsimp only;lia,h2,by dsimp only;lia⟩⟩
    ·exact Aa ⟨rfl,rfl,j',by dsimp only;lia,h2,by dsimp only;lia⟩
   ·rw[AN c]
    dsimp only
    rw[AE (by decide)]
    refine AU (Iy eb ?_)
    have j':=m.pushB2 j (by lia) eb λi i1 i2=>by
     have q1:=sA i (na-1) (Az _) (by lia) (by lia)
     rw[IP ea]at q1
     rw[IP eb]
     lia
    by_cases c3:nb-1=1
    ·rw[AH (by simpa using c3)]
     exact Aa ⟨rfl,.inl ⟨_,rfl,m.first2 j' c3⟩⟩
    rw[AE (by simpa using c3)]
    split
    ·exact Aa ⟨rfl,.inr ⟨rfl,j',h1,by dsimp only;lia,by dsimp only;lia⟩⟩
    ·exact Aa ⟨rfl,rfl,j',h1,by dsimp only;lia,by dsimp only;lia⟩
  case post1 =>
   rintro⟨c,na,nb,out,ac,bc⟩ st'' ⟨e1,h⟩
   subst e1
   rcases h with⟨r,e,g1⟩|⟨e,j,h1,h2,h3⟩
   ·have e':c=some r:=e
    subst e'
    exact Aa ⟨gs,r,rfl,g1⟩
   ·dsimp only at e j h1 h2 h3
    subst e
    refine AU (Ed (Cj ⟨rfl,?_⟩))
    refine AU (Cq (Bj (I:=λ_ c st3=>c.1=none/\MO rk a b (x+2) st c st3) (Q:=λc st3=>MO rk a b (x+2) st c st3) ?step2 ?fin2 ⟨rfl,gs,.inr ⟨rfl,j,h1,h2,h3⟩⟩) ?post2)
    case fin2 =>
     rintro c st3 ⟨_,hc⟩
     exact hc
    case step2 =>
     rintro y ⟨c,na,nb,out,g2,ac,bc⟩ st3 _ hy ⟨e,gs3,hc⟩
     have e':c=none:=e
     subst e'
     rcases hc with⟨r,er,_⟩|⟨_,j,h1,h2,h3⟩
     ·cases er
     dsimp only at j h1 h2 h3
     refine Vi (λ_=>?_) (λ_=>?_)
     ·refine AU (Cw ?_)
      exact UC hA m hk (gs3.trans (O5 st3 (g2-1))) j h1 h2 h3 (λc hc=>hc) (λc e hc=>⟨e,hc⟩)
     ·refine AU (Cw ?_)
      exact UC hA m hk (gs3.trans (O5 st3 g2)) j h1 h2 h3 (λc hc=>hc) (λc e hc=>⟨e,hc⟩)
    case post2 =>
     rintro⟨c,na,nb,out,g2,ac,bc⟩ st3 ⟨gs3,hc⟩
     rcases hc with⟨r,er,g3⟩|⟨er,j,h1,h2,h3⟩
     ·have e':c=some r:=er
      subst e'
      exact Aa ⟨gs3,r,rfl,g3⟩
     ·have e':c=none:=er
      subst e'
      dsimp only at j h1 h2 h3 ⊢
      refine AU (Cw (Aa ⟨gs3.trans (O5 st3 (g2+1)),rfl,j,h1,h2,by dsimp only;lia⟩))
end
abbrev Run:=Nat×Nat×Nat
theorem Y1{α:Type}{L R:List α}{x y z:α}{p:Array α}(hp:p.toList=L++x::y::R):((p.setIfInBounds L.length z).eraseIdxIfInBounds (L.length+1)).toList=L++z::R:=by
 have hz:p.size=L.length+2+R.length:=by rw[<-AT,hp];simp;lia
 rw[Array.eraseIdxIfInBounds]
 rw[dif_pos (by rw[DD];lia),Array.toList_eraseIdx,Array.toList_setIfInBounds,hp]
 rw[List.set_append_right _ _ (AG _),HB,List.set_cons_zero,List.eraseIdx_append_of_length_le (by lia),show L.length+1-L.length=1 by lia]
 rfl
theorem Rm(o:Nat):∀(l:List Keyed)(n:Nat)(xs:Array Keyed),o+n+l.length<=xs.size->∀k:Nat,
  ((l.zipIdx n).foldl (λa (x:Keyed×Nat)=>a.setIfInBounds (o+x.2) x.1) xs)[k]?=if o+n<=k/\k<o+n+l.length then l[k-(o+n)]? else xs[k]?
 |[],n,xs,_,k=>by
  rw[AE (by simp)];rfl
 |x::l,n,xs,h,k=>by
  rw[Ai]at h
  rw[FG,B3,Rm o l (n+1) _ (by rw[DD];lia) k,Ai]
  by_cases c:o+(n+1)<=k/\k<o+(n+1)+l.length
  ·rw[AH c,AH (by lia),show k-(o+n)=(k-(o+(n+1)))+1 by lia,FR]
  ·rw[AE c]
   by_cases c2:k=o+n
   ·subst c2
    rw[AH (by lia),HB,List.getElem?_cons_zero,Array.getElem?_setIfInBounds_self_of_lt (by lia)]
   ·rw[AE (by lia),DJ (by lia)]
theorem VR{rk:Keyed->Nat}{xs:Array Keyed}{i j m:Nat}(h:i+m<j):kv rk (xs.extract i j) m=kv rk xs (i+m):=by
 refine Kg ?_
 rw[Fe]
 by_cases c:m<min j xs.size-i
 ·rw[AH c]
 ·rw[AE c,BU (by lia)]
theorem Xg{σ:Type}{M:Model}{A:Around}{E:Value->Shared->Prop}{s:Shared}{x:σ}{Q:PUnit->σ->Prop}{st:σ}(h:Q ⟨⟩ x):wpS M A E s (set x:StateT σ Sem PUnit) Q st:=by
 unfold wpS
 rw[StateT.run_set]
 exact AD ⟨rfl,h⟩
section
variable{rk:Keyed->Nat}{prog:Program}{w:World}{A:Around}{E:Value->Shared->Prop}{s:Shared}{κ:SortKind}{M:Keyed->Prop}
theorem XO(h:Jm prog w A s κ M rk){st:SortSt}{Q:Bool->SortSt->Prop}(hk:kindOf st=κ)(ha:All M (arrOf st))(hf:failedOf st=none){L R:List Run}{sa na pa sb nb pb:Nat}(hp:(pendingOf st).toList=L++(sa,na,pa)::(sb,nb,pb)::R)
  (e:sb=sa+na) (h1:1<=na) (h2:1<=nb) (hz:sb+nb<=(arrOf st).size) (s1:Ir rk (arrOf st) sa (sa+na)) (s2:Ir rk (arrOf st) sb (sb+nb))
  (q:∀st',kindOf st'=κ->failedOf st'=none->(pendingOf st').toList=L++(sa,na+nb,pa)::R->(arrOf st').Perm (arrOf st)->(∀k:Nat,k<sa∨sa+na+nb<=k->(arrOf st')[k]?=(arrOf st)[k]?)->Ir rk (arrOf st') sa (sa+(na+nb))->Q true st') :
  wpS (model prog w) A E s (mergeAt' L.length) Q st:=by
 subst e
 have g0:(pendingOf st)[L.length]?=some (sa,na,pa):=by rw[<-A0,hp];simp
 have g1:(pendingOf st)[L.length+1]?=some (sa+na,nb,pb):=by rw[<-A0,hp];simp
 have er:=Y1 (z:=(sa,na+nb,pa)) hp
 refine AU (Dy ?_)
 rw[g0,g1]
 dsimp only
 refine AU (Xg ?_)
 have eb:(arrOf st)[sa+na]?=some (arrOf st)[sa+na]:=AF (by lia)
 refine AU (Iy eb (AU (O8 h (arr:=arrOf st) (st:=SortSt.mk' (kindOf st) (arrOf st) _ (gallopOf st) (failedOf st)) hk (ha _ _ eb) ha (by lia) (by lia) s1 λk k1 k2 k3=>?_)))
 have a1:∀i,sa<=i->i<sa+k->kv rk (arrOf st) i<=kv rk (arrOf st) (sa+na):=λi i1 i2=>by
  have:=k2 i i1 i2
  unfold Bd at this
  rw[AE (by decide),<-IP (rk:=rk) eb]at this
  exact this
 have a2:∀i,sa+k<=i->i<sa+na->kv rk (arrOf st) (sa+na)<kv rk (arrOf st) i:=λi i1 i2=>by
  have:=k3 i i1 (by lia)
  unfold Bd at this
  rw[AE (by decide),<-IP (rk:=rk) eb]at this
  lia
 dsimp only
 by_cases c1:na-k=0
 ·rw[AH (by simpa using c1)]
  refine Aa (q _ hk hf er (Array.Perm.refl _) (λ_ _=>rfl) λi j i1 ij j1=>?_)
  show kv rk (arrOf st) i<=kv rk (arrOf st) j
  by_cases cj:j<sa+na
  ·exact s1 i j i1 ij cj
  ·by_cases ci:i<sa+na
   ·have b1:=a1 i i1 (by lia)
    have b2:=s2 (sa+na) j (AG _) (by lia) (by lia)
    lia
   ·exact s2 i j (by lia) ij (by lia)
 rw[AE (by simpa using c1)]
 have el:(arrOf st)[sa+k+(na-k)-1]?=some (arrOf st)[sa+k+(na-k)-1]:=AF (by lia)
 refine AU (Iy el (AU (O8 h (arr:=arrOf st) (st:=SortSt.mk' (kindOf st) (arrOf st) _ (gallopOf st) (failedOf st)) hk (ha _ _ el) ha (by lia) (by lia) s2 λn n1 n2 n3=>?_)))
 have b1:∀i,sa+na<=i->i<sa+na+n->kv rk (arrOf st) i<kv rk (arrOf st) (sa+na-1):=λi i1 i2=>by
  have:=n2 i i1 i2
  unfold Bd at this
  rw[AH rfl,<-IP (rk:=rk) el,show sa+k+(na-k)-1=sa+na-1 by lia]at this
  exact this
 have b2:∀i,sa+na+n<=i->i<sa+na+nb->kv rk (arrOf st) (sa+na-1)<=kv rk (arrOf st) i:=λi i1 i2=>by
  have:=n3 i i1 i2
  unfold Bd at this
  rw[AH rfl,<-IP (rk:=rk) el,show sa+k+(na-k)-1=sa+na-1 by lia]at this
  lia
 dsimp only
 by_cases c2:n=0
 ·exfalso
  have d1:=a2 (sa+na-1) (by lia) (by lia)
  have d2:=b2 (sa+na) (by lia) (by lia)
  lia
 rw[AE (by simpa using c2)]
 have mp:Hh M rk ((arrOf st).extract (sa+k) (sa+na)) ((arrOf st).extract (sa+na) (sa+na+n)):=by
  have zx:((arrOf st).extract (sa+k) (sa+na)).size=na-k:=by rw[El];lia
  have zy:((arrOf st).extract (sa+na) (sa+na+n)).size=n:=by rw[El];lia
  have sub:∀i j,All M ((arrOf st).extract i j):=λi j m x hx=>by
   rw[Fe]at hx
   split at hx
   ·exact ha _ _ hx
   ·cases hx
  refine⟨sub _ _,sub _ _,?_,?_,by lia,by lia,?_,λi hi=>?_⟩
  ·rw[LA,show sa+na-(sa+k)=na-k by lia]
   exact Qi (λi j i1 ij j1=>s1 i j (by lia) ij (by lia)) (by lia)
  ·rw[LA,show sa+na+n-(sa+na)=n by lia]
   exact Qi (λi j i1 ij j1=>s2 i j i1 ij (by lia)) (by lia)
  ·rw[VR (by lia),VR (by lia)]
   exact a2 _ (by lia) (by lia)
  ·rw[zx,VR (by lia),VR (by lia),show sa+k+(na-k-1)=sa+na-1 by lia]
   exact b1 _ (by lia) (by lia)
 have fin:∀(r:Array Keyed)(st2:SortSt),Gs (SortSt.mk' (kindOf st) (arrOf st) (((pendingOf st).setIfInBounds L.length (sa,na+nb,pa)).eraseIdxIfInBounds (L.length+1)) (gallopOf st) (failedOf st)) st2 ->
   Hn rk ((arrOf st).extract (sa+k) (sa+na)).toList ((arrOf st).extract (sa+na) (sa+na+n)).toList r.toList ->
   Q true (SortSt.mk' (kindOf st2) (r.toList.zipIdx.foldl (λa (x:Keyed×Nat)=>a.setIfInBounds (sa+k+x.2) x.1) (arrOf st2)) (pendingOf st2) (gallopOf st2) (failedOf st2))/\failedOf st2=none:=by
  intro r st2 gs gd
  have e1:arrOf st2=arrOf st:=gs.arr
  have e2:failedOf st2=none:=gs.failed.trans hf
  refine⟨?_,e2⟩
  rw[e1]
  have lr:r.toList.length=(na-k)+n:=by
   have:=gd.1.length_eq
   simp only[AI,AT,El]at this
   rw[AT]
   lia
  have wr:=Rm (sa+k) r.toList 0 (arrOf st) (by lia)
  generalize hxs:r.toList.zipIdx.foldl (λa (x:Keyed×Nat)=>a.setIfInBounds (sa+k+x.2) x.1) (arrOf st)=xs' at wr ⊢
  have zs:xs'.size=(arrOf st).size:=by
   have key:∀(l:List (Keyed×Nat))(ys:Array Keyed),(l.foldl (λa (x:Keyed×Nat)=>a.setIfInBounds (sa+k+x.2) x.1) ys).size=ys.size:=by
    intro l
    induction l with
    |nil=>intro ys;rfl
    |cons z l ih=>intro ys;rw[B3,ih,DD]
   rw[<-hxs]
   exact key _ _
  have whole:xs'.toList=(arrOf st).toList.take (sa+k)++r.toList++(arrOf st).toList.drop (sa+na+n):=by
   refine C9 λi=>?_
   rw[A0,wr i]
   have lt:((arrOf st).toList.take (sa+k)).length=sa+k:=by rw[Ah,AT];lia
   by_cases c:i<sa+k
   ·rw[AE (by lia),Ac,Dl (by lia),FC c,A0]
   ·by_cases c':i<sa+na+n
    ·rw[AH (by lia),Dl (by rw[AI,lt];lia),C6 (by lia),lt]
     rfl
    ·rw[AE (by lia),C6 (by rw[AI,lt];lia),AI,lt,List.getElem?_drop,A0]
     congr 1
     lia
  have old:(arrOf st).toList=(arrOf st).toList.take (sa+k)++(((arrOf st).extract (sa+k) (sa+na)).toList++((arrOf st).extract (sa+na) (sa+na+n)).toList)++(arrOf st).toList.drop (sa+na+n):=by
   have f1:(arrOf st).toList=(arrOf st).toList.take (sa+k)++(arrOf st).toList.drop (sa+k):=(Bm _ _).symm
   have f2:=Po (arrOf st).toList (sa+k) (na-k)
   have f3:=Po (arrOf st).toList (sa+na) n
   rw[show sa+k+(na-k)=sa+na by lia]at f2
   rw[LA,LA,show sa+na-(sa+k)=na-k by lia,show sa+na+n-(sa+na)=n by lia]
   rw[Ac,Ac,<-f3,<-f2]
   exact f1
  have pm:xs'.Perm (arrOf st):=by
   refine Eu.mpr ?_
   rw[whole]
   refine List.Perm.trans ?_ (List.Perm.of_eq old.symm)
   exact Bc _ (B0 _ gd.1)
  have kvw:∀i,kv rk xs' i=if sa+k<=i/\i<sa+na+n then kv rk r (i-(sa+k)) else kv rk (arrOf st) i:=λi=>by
   have q1:=wr i
   by_cases c:sa+k<=i/\i<sa+na+n
   ·rw[AH c]
    rw[AH (by lia)]at q1
    exact Kg (by rw[q1,A0];rfl)
   ·rw[AE c]
    rw[AE (by lia)]at q1
    exact Kg q1
  have src:∀m,m<(na-k)+n->∃j,sa+k<=j/\j<sa+na+n/\kv rk r m=kv rk (arrOf st) j:=λm hm=>by
   have hm':m<r.size:=by rw[<-AT];lia
   have em:r[m]?=some r[m]:=AF hm'
   have mem:r[m]∈r.toList:=by simp
   rcases Aq.mp (gd.1.mem_iff.mp mem) with hm1|hm1
   ·rw[LA]at hm1
    obtain⟨j,j1,j2,j3,j4,_⟩:=NP (rk:=rk) hm1
    exact⟨j,j1,by lia,by rw[IP em,j4]⟩
   ·rw[LA]at hm1
    obtain⟨j,j1,j2,j3,j4,_⟩:=NP (rk:=rk) hm1
    exact⟨j,by lia,by lia,by rw[IP em,j4]⟩
  have sr:=KD gd.2
  refine q _ (gs.kind.trans hk) e2 ((congrArg Array.toList gs.pend).trans er) pm (λi hi=>?_) λi j i1 ij j1=>?_
  ·have q1:=wr i
   rw[AE (by lia)]at q1
   exact q1
  ·show kv rk xs' i<=kv rk xs' j
   have left:∀z y,sa<=z->z<sa+k->sa+k<=y->y<sa+na+nb->kv rk (arrOf st) z<=kv rk (arrOf st) y:=λz y z1 z2 y1 y2=>by
    by_cases c:y<sa+na
    ·exact s1 z y z1 (by lia) c
    ·have d1:=a1 z z1 z2
     have d2:=s2 (sa+na) y (AG _) (by lia) y2
     lia
   have right:∀z y,sa+k<=z->z<sa+na+n->sa+na+n<=y->y<sa+na+nb->kv rk (arrOf st) z<=kv rk (arrOf st) y:=λz y z1 z2 y1 y2=>by
    by_cases c:z<sa+na
    ·have d1:=s1 z (sa+na-1) (by lia) (by lia) (by lia)
     have d2:=b2 y y1 y2
     lia
    ·exact s2 z y (by lia) (by lia) y2
   rw[kvw i,kvw j]
   by_cases ci:sa+k<=i/\i<sa+na+n
   ·rw[AH ci]
    by_cases cj:sa+k<=j/\j<sa+na+n
    ·rw[AH cj]
     exact sr _ _ (Az _) (by lia) (by rw[<-AT];lia)
    ·rw[AE cj]
     obtain⟨z,z1,z2,z3⟩:=src (i-(sa+k)) (by lia)
     rw[z3]
     exact right z j z1 z2 (by lia) (by lia)
   ·rw[AE ci]
    by_cases cj:sa+k<=j/\j<sa+na+n
    ·rw[AH cj]
     obtain⟨z,z1,z2,z3⟩:=src (j-(sa+k)) (by lia)
     rw[z3]
     exact left i z i1 (by lia) z1 (by lia)
    ·rw[AE cj]
     by_cases c5:i<sa+k
     ·by_cases c6:j<sa+k
      ·exact s1 i j i1 ij (by lia)
      ·exact left i j i1 c5 (by lia) (by lia)
     ·exact s2 i j (by lia) ij (by lia)
 have go:∀(r:Array Keyed)(st2:SortSt),Gs (SortSt.mk' (kindOf st) (arrOf st) (((pendingOf st).setIfInBounds L.length (sa,na+nb,pa)).eraseIdxIfInBounds (L.length+1)) (gallopOf st) (failedOf st)) st2 ->
   Hn rk ((arrOf st).extract (sa+k) (sa+na)).toList ((arrOf st).extract (sa+na) (sa+na+n)).toList r.toList ->
   wpS (model prog w) A E s (do
    modify λt=>SortSt.mk' (kindOf t) (r.toList.zipIdx.foldl (λa (x:Keyed×Nat)=>a.setIfInBounds (sa+k+x.2) x.1) (arrOf t)) (pendingOf t) (gallopOf t) (failedOf t)
    let t <-get
    pure (failedOf t).isNone) Q st2:=by
  intro r st2 gs gd
  obtain⟨f1,f2⟩:=fin r st2 gs gd
  refine AU (Cw (AU (Dy (Aa ?_))))
  have e3:(failedOf st2).isNone=true:=by rw[f2];rfl
  show Q (failedOf st2).isNone _
  rw[e3]
  exact f1
 refine Vi (λ_=>?_) (λ_=>?_)
 ·exact AU (Yp h hk mp λr st2 gs gd=>go r st2 gs gd)
 ·exact AU (Zv h hk mp λr st2 gs gd=>go r st2 gs gd)
def Ht(rk:Keyed->Nat)(xs:Array Keyed):List Run->Nat->Nat->Prop
 |[],a,e=>a=e
 |r::l,a,e=>r.1=a/\1<=r.2.1/\Ir rk xs a (a+r.2.1)/\Ht rk xs l (a+r.2.1) e
theorem Ht.le{xs:Array Keyed}:∀{l:List Run}{a e:Nat},Ht rk xs l a e->a+l.length<=e
 |[],a,e,h=>by have:a=e:=h;simp;lia
 |r::l,a,e,⟨h1,h2,h3,h4⟩=>by
  have:=Ht.le h4
  rw[Ai]
  lia
theorem Ht.app{xs:Array Keyed}:∀{l m:List Run}{a e:Nat},Ht rk xs (l++m) a e->∃z,Ht rk xs l a z/\Ht rk xs m z e
 |[],m,a,e,h=>⟨a,rfl,h⟩
 |r::l,m,a,e,⟨h1,h2,h3,h4⟩=>by
  obtain⟨z,z1,z2⟩:=Ht.app h4
  exact⟨z,⟨h1,h2,h3,z1⟩,z2⟩
theorem Ht.join{xs:Array Keyed}:∀{l m:List Run}{a z e:Nat},Ht rk xs l a z->Ht rk xs m z e->Ht rk xs (l++m) a e
 |[],m,a,z,e,h,q=>by have:a=z:=h;subst this;exact q
 |r::l,m,a,z,e,⟨h1,h2,h3,h4⟩,q=>⟨h1,h2,h3,Ht.join h4 q⟩
theorem Ht.same{xs ys:Array Keyed}:∀{l:List Run}{a e:Nat},Ht rk xs l a e->(∀k,a<=k->k<e->kv rk ys k=kv rk xs k)->Ht rk ys l a e
 |[],a,e,h,_=>h
 |r::l,a,e,⟨h1,h2,h3,h4⟩,q=>by
  have le:=Ht.le h4
  refine⟨h1,h2,λi j i1 ij j1=>?_,Ht.same h4 λk k1 k2=>q k (by lia) k2⟩
  rw[q i i1 (by lia),q j (by lia) (by lia)]
  exact h3 i j i1 ij j1
theorem Ht.modify{xs:Array Keyed}{f:Run->Run}(hf:∀r,(f r).1=r.1/\(f r).2.1=r.2.1):∀{l:List Run}{a e:Nat},Ht rk xs l a e->∀i,Ht rk xs (l.modify i f) a e
 |[],a,e,h,i=>by cases i<;>exact h
 |r::l,a,e,⟨h1,h2,h3,h4⟩,0=>by
  obtain⟨f1,f2⟩:=hf r
  show Ht rk xs (f r::l) a e
  exact⟨f1.trans h1,by lia,by rw[f2];exact h3,by rw[f2];exact h4⟩
 |r::l,a,e,⟨h1,h2,h3,h4⟩,i+1=>⟨h1,h2,h3,Ht.modify hf h4 i⟩
structure Tb(rk:Keyed->Nat)(κ:SortKind)(a₀:Array Keyed)(lo:Nat)(st:SortSt):Prop where
 kind:kindOf st=κ
 failed:failedOf st=none
 perm:(arrOf st).Perm a₀
 runs:Ht rk (arrOf st) (pendingOf st).toList 0 lo
theorem Tb.size{a₀:Array Keyed}{lo:Nat}{st:SortSt}(t:Tb rk κ a₀ lo st):(arrOf st).size=a₀.size:=t.perm.size_eq
theorem R0(h:Jm prog w A s κ M rk){a₀:Array Keyed}{lo i:Nat}{st:SortSt}{Q:Bool->SortSt->Prop}(hM:All M a₀)(t:Tb rk κ a₀ lo st)(hlo:lo<=a₀.size)(hi:i+1<(pendingOf st).size)
  (q:∀st',Tb rk κ a₀ lo st'->(pendingOf st').size+1=(pendingOf st).size->(∀k:Nat,lo<=k->(arrOf st')[k]?=(arrOf st)[k]?)->Q true st'):wpS (model prog w) A E s (mergeAt' i) Q st:=by
 obtain⟨L,x,y,R,e,el⟩:∃L x y R,(pendingOf st).toList=L++x::y::R/\L.length=i:=by
  have hl:i+1<(pendingOf st).toList.length:=by rw[AT];exact hi
  refine⟨(pendingOf st).toList.take i,(pendingOf st).toList[i],(pendingOf st).toList[i+1],(pendingOf st).toList.drop (i+2),?_,by rw[Ah];lia⟩
  rw[Ff hl,Ff,Bm]
 subst el
 obtain⟨sa,na,pa⟩:=x
 obtain⟨sb,nb,pb⟩:=y
 have r:=t.runs
 rw[e]at r
 obtain⟨z,r1,r2⟩:=r.app
 obtain⟨x1,x2,x3,x4⟩:=r2
 obtain⟨y1,y2,y3,y4⟩:=x4
 dsimp only at x1 x2 x3 y1 y2 y3 y4
 subst x1
 have le:=y4.le
 have sz:=t.size
 refine XO h t.kind (hM.perm t.perm) t.failed e y1 x2 y2 (by lia) x3 (by rw[y1];exact y3) λst' k1 k2 k3 k4 k5 k6=>?_
 have sm:∀k,k<sa∨sa+na+nb<=k->kv rk (arrOf st') k=kv rk (arrOf st) k:=λk hk=>Kg (k5 k hk)
 refine q st' ⟨k1,k2,k4.trans t.perm,?_⟩ ?_ λk hk=>k5 k (.inr (by lia))
 ·rw[k3]
  refine(r1.same λk _ hk=>sm k (.inl hk)).join ⟨rfl,by dsimp only;lia,k6,?_⟩
  dsimp only
  rw[show sa+(na+nb)=sa+na+nb by lia]
  exact y4.same λk hk _=>sm k (.inr hk)
 ·rw[<-AT,<-AT,k3,e]
  simp
  lia
theorem oJ(h:Jm prog w A s κ M rk){st:SortSt}{Q:Unit->SortSt->Prop}(hk:kindOf st=κ)(hM:All M (arrOf st))(hf:failedOf st=none)(hp:pendingOf st=#[])(h1:1<=(arrOf st).size)
  (q:∀st',(arrOf st').Perm (arrOf st)->failedOf st'=none->Ir rk (arrOf st') 0 (arrOf st).size->Q () st'):wpS (model prog w) A E s sortRuns' Q st:=by
 rw[sortRuns'_eq]
 refine AU (Dy ?_)
 generalize ha₀:arrOf st=a₀ at hM h1 q
 dsimp only
 have t0:Tb rk κ a₀ 0 st:=⟨hk,hf,by rw[ha₀],by rw[hp];rfl⟩
 refine AU (Cq (Bj (I:=λx c st'=>c.1=none/\Tb rk κ a₀ c.2 st'/\c.2<=a₀.size/\(x<=c.2∨c.2=a₀.size)) (Q:=λc st'=>c.1=none/\Tb rk κ a₀ a₀.size st') ?step ?fin ⟨rfl,t0,Az _,.inl (AG _)⟩) ?post)
 case fin =>
  rintro⟨c,lo⟩ st' ⟨e,t,hl,hx⟩
  dsimp only at e t hl hx
  have el:lo=a₀.size:=by lia
  subst el
  exact⟨e,t⟩
 case step =>
  rintro x ⟨c,lo⟩ st' _ hx ⟨e,t,hl,hxl⟩
  dsimp only at e t hl hxl ⊢
  subst e
  by_cases c1:lo ≥ a₀.size
  ·rw[AH c1]
   have el:lo=a₀.size:=by lia
   subst el
   exact Aa ⟨rfl,t⟩
  rw[AE c1]
  have sz:=t.size
  refine AU (fG h t.kind (hM.perm t.perm) (by lia) (by lia) λn st2 nx n1 n2 ns=>?_)
  have t2:Tb rk κ a₀ lo st2:=⟨nx.kind.trans t.kind,nx.failed.trans t.failed,nx.perm.trans t.perm,by rw[nx.pend];exact t.runs.same λk _ hk=>Kg (nx.below k hk)⟩
  dsimp only
  generalize hforce:min (a₀.size-lo) (minRun' a₀.size a₀.size 0)=force
  have HU:∀(K1 K2:StateT SortSt Sem (ForInStep (Option Unit×Nat)))(Z:ForInStep (Option Unit×Nat)->SortSt->Prop),
    (∀st3,Tb rk κ a₀ lo st3->1<=force->lo+force<=a₀.size->Ir rk (arrOf st3) lo (lo+force)->wpS (model prog w) A E s K1 Z st3) ->
    (∀st3,Tb rk κ a₀ lo st3->1<=n->lo+n<=a₀.size->Ir rk (arrOf st3) lo (lo+n)->wpS (model prog w) A E s K2 Z st3) ->
    wpS (model prog w) A E s (if n<minRun' a₀.size a₀.size 0 then do
     liftM (rule "list.sort.binary-insertion")
     let r <-binarySort' lo force n
     if (!r)=true then pure (ForInStep.done (some (),lo)) else K1
    else K2) Z st2:=by
   intro K1 K2 Z hK1 hK2
   have sz2:=t2.size
   by_cases c2:n<minRun' a₀.size a₀.size 0
   ·rw[AH c2]
    refine AU (Ed (Cj ⟨rfl,?_⟩))
    refine AU (oK h t2.kind (hM.perm t2.perm) (by lia) (by lia) ns λst3 nx3 ns3=>?_)
    simp only[Gm,A5,Bb]
    exact hK1 st3 ⟨nx3.kind.trans t2.kind,nx3.failed.trans t2.failed,nx3.perm.trans t2.perm,by rw[nx3.pend];exact t2.runs.same λk _ hk=>Kg (nx3.below k hk)⟩ (by lia) (by lia) ns3
   ·rw[AE c2]
    exact hK2 st2 t2 n1 (by lia) ns
  have push:∀(m:Nat) st4,Tb rk κ a₀ lo st4->1<=m->Ir rk (arrOf st4) lo (lo+m)->Tb rk κ a₀ (lo+m) (setPending st4 ((pendingOf st4).push (lo,m,0))):=λm st4 t4 m1 ns4=>by
   refine⟨t4.kind,t4.failed,t4.perm,?_⟩
   show Ht rk (arrOf st4) ((pendingOf st4).push (lo,m,0)).toList 0 (lo+m)
   rw[DT]
   exact t4.runs.join ⟨rfl,m1,ns4,rfl⟩
  have relabel:∀(f:Run->Run) st4,(∀r,(f r).1=r.1/\(f r).2.1=r.2.1)->Tb rk κ a₀ lo st4->Tb rk κ a₀ lo (setPending st4 ((pendingOf st4).modify ((pendingOf st4).size-1) f)):=λf st4 hf t4=>by
   refine⟨t4.kind,t4.failed,t4.perm,?_⟩
   show Ht rk (arrOf st4) ((pendingOf st4).modify ((pendingOf st4).size-1) f).toList 0 lo
   rw[Array.toList_modify]
   exact t4.runs.modify hf _
  have inner:∀(m:Nat)(st3:SortSt)(pw:Nat)(K:Option Unit×Unit->StateT SortSt Sem (ForInStep (Option Unit×Nat)))(Z:ForInStep (Option Unit×Nat)->SortSt->Prop),Tb rk κ a₀ lo st3->Ir rk (arrOf st3) lo (lo+m) ->
    (∀st4,Tb rk κ a₀ lo st4->Ir rk (arrOf st4) lo (lo+m)->wpS (model prog w) A E s (K (none,())) Z st4) ->
    wpS (model prog w) A E s (do
     let r <-forIn [0:a₀.size] ((none,()):Option Unit×Unit) λ_ _=>do
      let z <-get
      match (if (pendingOf z).size>1 then (pendingOf z)[(pendingOf z).size-2]? else none) with
      |some (_,_,old)=>if old<=pw then pure (ForInStep.done (none,())) else do
       let ok <-mergeAt' ((pendingOf z).size-2)
       if (!ok)=true then pure (ForInStep.done (some (),())) else pure (ForInStep.yield (none,()))
      |_=>pure (ForInStep.done (none,()))
     K r) Z st3:=by
   intro m st3 pw K Z t3 ns hK
   refine AU (Cq (Bj (I:=λ_ c st'=>c.1=none/\Tb rk κ a₀ lo st'/\Ir rk (arrOf st') lo (lo+m)) (Q:=λc st'=>c.1=none/\Tb rk κ a₀ lo st'/\Ir rk (arrOf st') lo (lo+m)) ?step3 (λc st' hc=>hc) ⟨rfl,t3,ns⟩) ?post3)
   case step3 =>
    rintro y ⟨c,u⟩ st4 _ hy ⟨e,t4,ns4⟩
    have e':c=none:=e
    subst e'
    refine AU (Dy ?_)
    by_cases c4:(pendingOf st4).size>1
    ·rw[AH c4]
     have eg:(pendingOf st4)[(pendingOf st4).size-2]?=some (pendingOf st4)[(pendingOf st4).size-2]:=AF (by lia)
     rw[eg]
     generalize (pendingOf st4)[(pendingOf st4).size-2]=z
     obtain⟨z1,z2,z3⟩:=z
     dsimp only
     refine Vi (λ_=>Aa ⟨rfl,t4,ns4⟩) λ_=>?_
     refine AU (R0 h hM t4 hl (by lia) λst5 t5 _ k5=>?_)
     simp only[Gm,A5,Bb]
     refine Aa ⟨rfl,t5,λi j i1 ij j1=>?_⟩
     rw[Kg (rk:=rk) (k5 i i1),Kg (rk:=rk) (k5 j (by lia))]
     exact ns4 i j i1 ij j1
    ·rw[AE c4]
     exact Aa ⟨rfl,t4,ns4⟩
   case post3 =>
    rintro⟨c,u⟩ st4 ⟨e,t4,ns4⟩
    have e':c=none:=e
    subst e'
    exact hK st4 t4 ns4
  refine HU _ _ _ (λst3 t3 n1 n2 ns=>?_) (λst3 t3 n1 n2 ns=>?_)
  all_goals
   refine AU (Dy ?_)
   cases hb:(pendingOf st3).back? with
   |none=>exact AU (Cw (Aa ⟨rfl,push _ st3 t3 n1 ns,n2,by dsimp only;lia⟩))
   |some z =>
    obtain⟨s1,n3,p3⟩:=z
    dsimp only
    refine inner _ st3 _ _ _ t3 ns λst4 t4 ns4=>?_
    exact AU (Cw (AU (Cw (Aa ⟨rfl,push _ _ (relabel _ st4 (λr=>⟨rfl,rfl⟩) t4) n1 ns4,n2,by dsimp only;lia⟩))))
 case post =>
  rintro⟨c,lo⟩ st' ⟨e,t⟩
  have e':c=none:=e
  subst e'
  dsimp only
  have sz:=t.size
  have r0:=t.runs.le
  rw[AT]at r0
  refine AU (Cq (Bj (I:=λx c st2=>c.1=none/\Tb rk κ a₀ a₀.size st2/\((pendingOf st2).size<=1∨(pendingOf st2).size+x<=a₀.size)) (Q:=λc st2=>c.1=none/\Tb rk κ a₀ a₀.size st2/\(pendingOf st2).size<=1) ?step4 ?fin4 ⟨rfl,t,.inr (by lia)⟩) ?post4)
  case fin4 =>
   rintro c st2 ⟨e,t,h3⟩
   exact⟨e,t,by lia⟩
  case step4 =>
   rintro x ⟨c,u⟩ st2 _ hx ⟨e,t2,h3⟩
   have e':c=none:=e
   subst e'
   refine AU (Dy ?_)
   by_cases c1:(pendingOf st2).size<=1
   ·rw[AH c1]
    exact Aa ⟨rfl,t2,c1⟩
   rw[AE c1]
   have fin:∀i,i+1<(pendingOf st2).size->∀(K:Bool->StateT SortSt Sem (ForInStep (Option Unit×Unit)))(Z:ForInStep (Option Unit×Unit)->SortSt->Prop),K true=pure (.yield (none,())) ->
     (∀st5,Tb rk κ a₀ a₀.size st5->((pendingOf st5).size<=1∨(pendingOf st5).size+(x+1)<=a₀.size)->Z (.yield (none,())) st5)->wpS (model prog w) A E s (do
     let r <-mergeAt' i
     K r) Z st2:=by
    intro i hi K Z hK hZ
    refine AU (R0 h hM t2 (AG _) hi λst5 t5 z5 _=>?_)
    rw[hK]
    exact Aa (hZ st5 t5 (by lia))
   have both:∀(c:Bool)(i:Nat),i+2=(pendingOf st2).size->(if c=true then i-1 else i)+1<(pendingOf st2).size:=λc i hi=>by
    split<;>lia
   refine fin _ (both _ _ ?_) (λr=>_) _ ?_ (λst5 t5 h5=>⟨rfl,t5,h5⟩)
   ·lia
   ·rfl
  case post4 =>
   rintro⟨c,u⟩ st2 ⟨e,t2,h3⟩
   have e':c=none:=e
   subst e'
   refine Aa (q st2 t2.perm t2.failed ?_)
   have r:=t2.runs
   rw[<-AT]at h3
   match hl:(pendingOf st2).toList,h3,r with
   |[],_,r=>have:0=a₀.size:=r;lia
   |[z],_,r =>
    obtain⟨r1,r2,r3,r4⟩:=r
    have r4':0+z.2.1=a₀.size:=r4
    rw[r4']at r3
    exact r3
   |_::_::_,h3,_=>simp at h3
end
end L2.Ts
namespace L2.Rw
open PySem
def IL(h:Heap)(d:Addr)(es:Array DictEntry)(ep:Nat):Prop:=∃o,h.get? d=some o/\o.ExactDict/\o.data=.dict es ep
theorem IL.keep{h h':Heap}{d:Addr}{es:Array DictEntry}{ep:Nat}(x:IL h d es ep)(k:∀o,h.get? d=some o->h'.get? d=some o):IL h' d es ep:=let ⟨o,e,r⟩:=x;⟨o,k o e,r⟩
theorem IL.lt{h:Heap}{d:Addr}{es:Array DictEntry}{ep:Nat}(x:IL h d es ep):d<h.objs.size:=let ⟨_,e,_⟩:=x;AR e
theorem IL.type{s:Shared}{d:Addr}{es:Array DictEntry}{ep:Nat}(x:IL s.heap d es ep):s.TypeIs (.ref d) "dict" := let ⟨o,e,c,_⟩:=x;⟨o,e,c.1⟩
section
variable{prog:Program}{w:World}{A:Around}{E:Value->Shared->Prop}{s:Shared}{d it:Addr}{es:Array DictEntry}{ep i:Nat}
theorem Q8{Q:Value->Shared->Prop}(hd:(d==sysModules)=false)(hm:IL s.heap d es ep)
  (hQ:Q (.ref s.heap.objs.size) { s with heap:=s.heap.push { cls:=.type "dict_keyiterator",data:=.fields #[.ref d,.int 0 0,.int es.size 0,.int ep 0] } }):wpAny (model prog w) A (pyIter (.ref d)) Q E s:=by
 have hT:=hm.type
 obtain⟨o,ho,_,hdat⟩:=hm
 refine wpAny_pyIter_slot hT F.slot_dict_iter (Bi F.slot_dict_iter hT F.entry_dict_iter ?_ (F.args_dict_iter_1 _))
 unfold Builtin.«dict.__iter__»
 refine AA ?_
 unfold Builtin.Dict.dictSlotNone
 refine AA (GW hT (AD ?_))
 show wpAny _ _ (Builtin.Dict.showsAll d>>=_) _ _ s
 unfold Builtin.Dict.showsAll
 rw[AE (by rw[hd];decide)]
 refine AA (AD (AA (D7 ho hdat (AA (EU ho hdat ?_)))))
 refine AA (BC (AD ⟨_,rfl, "dict_keyiterator",_,⟨_,AQ _ rfl,rfl⟩,B1.lookup,?_⟩))
 simpa [rawInt]using hQ
theorem Qz{Q:Option Value->Shared->Prop}(hit:s.heap.IsKeyIter it d i es.size ep)(hm:IL s.heap d es ep)(hi:i<es.size)
  (hQ:∀h',h'.IsKeyIter it d (i+1) es.size ep->Heap.SameBut it s.heap h'->Q (some es[i].key) { s with heap:=h' }):wpAny (model prog w) A (pyNext (.ref it)) Q E s:=by
 obtain⟨o,ho,hc,hd⟩:=id hit
 obtain⟨od,hod,_,hdd⟩:=hm
 have hT:=hit.typeIs
 unfold pyNext
 refine AA (De (BY (name:=Str.ofString "__next__") hT B1 (Bi B1 hT EW ?_ (EM _))))
 refine AA (AD (AA (AA ?_)))
 first|refine AA (Cm hT (AD ?_))|refine AA (DF hT (AD ?_))
 refine AA (wpAny_fieldsOf ho hd ?_)
 have own:Builtin.Dict_items.ownsTuple "dict_keyiterator" = false:=by decide
 simp only[own,A5,Bb]
 show wpAny _ _ (if (Value.ref d==Value.none)=true then _ else _) _ _ s
 rw[AE (show ¬ ((Value.ref d==Value.none)=true) from AY)]
 refine AA (AD (AA (D7 hod hdd ?_)))
 rw[AE (by simp)]
 refine AA (AD (AA (EU hod hdd ?_)))
 rw[AE (by simp)]
 refine AD ?_
 simp only[show ¬ ((i:Int)<0) from by lia,Bb,Aw,AF hi]
 refine AA ?_
 first|refine AA (Cm hT (AD ?_))|refine AA (DF hT (AD ?_))
 refine AA (GY hT ?_)
 show wpAny _ _ (setField (.ref it) 1 (rawInt ((i:Int)+1))>>=_) _ _ s
 refine AA (Cr ho hd (by simp) ?_)
 have on:(s.heap.update it (Obj.mapFields (·.setIfInBounds 1 (rawInt ((i:Int)+1))))).IsKeyIter it d (i+1) es.size ep :=
  ⟨_,BF _ ho (C4 (CY hd _)),(D6 ..).trans hc,by rw[CY hd];simp [rawInt]⟩
 refine AA (By (AA (GY (s:={ s with heap:=s.heap.update it (Obj.mapFields (·.setIfInBounds 1 (rawInt ((i:Int)+1)))) }) on.typeIs ?_)))
 show wpAny _ _ (pure es[i].key) _ _ _
 exact AD (AD ⟨_,rfl,AD (hQ _ on (Di ..))⟩)
theorem Qu{Q:Option Value->Shared->Prop}(hh:A.handled=none)(hit:s.heap.IsKeyIter it d i es.size ep)(hm:IL s.heap d es ep)(hi:es.size<=i)
  (hQ:∀h',Heap.ExtBut it s.heap h'->Q none { s with heap:=h' }):wpAny (model prog w) A (pyNext (.ref it)) Q E s:=by
 obtain⟨o,ho,hc,hd⟩:=id hit
 obtain⟨od,hod,_,hdd⟩:=hm
 have hT:=hit.typeIs
 unfold pyNext
 refine AA (De (BY (name:=Str.ofString "__next__") hT B1 (Bi B1 hT EW ?_ (EM _))))
 refine AA (AD (AA (AA ?_)))
 first|refine AA (Cm hT (AD ?_))|refine AA (DF hT (AD ?_))
 refine AA (wpAny_fieldsOf ho hd ?_)
 have own:Builtin.Dict_items.ownsTuple "dict_keyiterator" = false:=by decide
 simp only[own,A5,Bb]
 show wpAny _ _ (if (Value.ref d==Value.none)=true then _ else _) _ _ s
 rw[AE (show ¬ ((Value.ref d==Value.none)=true) from AY)]
 refine AA (AD (AA (D7 hod hdd ?_)))
 rw[AE (by simp)]
 refine AA (AD (AA (EU hod hdd ?_)))
 rw[AE (by simp)]
 refine AD ?_
 simp only[show ¬ ((i:Int)<0) from by lia,Bb,Aw,BU hi]
 refine AA ?_
 first|refine AA (Cm hT (AD ?_))|refine AA (DF hT (AD ?_))
 show wpAny _ _ (setField (.ref it) 0 .none>>=_) _ _ s
 refine AA (Cr ho hd (by simp) ?_)
 show wpAny _ _ (newExc (.type "StopIteration") []>>=_) _ _ _
 refine AA ?_
 simp only[newExc,newTuple]
 refine AA (BC ?_ (by size_fits))
 refine AA (m:=firstArgMember _ _) (Ef (a:=Value.none) (by first|rfl|(simp only[firstArgMember];rfl)) ?_)
 refine BC ?_ (by size_fits)
 simp only[raiseNew]
 refine AA (wpAny_handled ?_)
 rw[show A.in1.handled=none from hh]
 refine AA (AD (wpAny_throw ?_))
 refine AA (FL (T := "StopIteration") (b:=true) ⟨_,AQ _ rfl,rfl⟩ GZ ?_)
 exact AD (hQ _ (((Di ..).extBut.push _).push _))
theorem Sb(hh:A.handled=none)(I d:Addr)(hne:d≠I)(es:Array DictEntry)(ep:Nat) :
  Walks prog w A I [I,d] [I] es.size (λi v=>∃h:i<es.size,v=es[i].key) (λi h=>h.IsKeyIter I d i es.size ep/\IL h d es ep) where
 sub:=λb hb=>by simp at hb;simp [hb]
 frame:=λ_ _ _ st hk=>⟨st.1.at λo e=>hk I (by simp) o e,st.2.keep λo e=>hk d (by simp) o e⟩
 item:=λi s Q E hi st hQ=>Qz st.1 st.2 hi λh' on hs=>hQ es[i].key h' s.toks ⟨hi,rfl⟩ ⟨on,st.2.keep λo e=>hs.extBut _ _ hne e⟩ λb o hb e=>hs.extBut b o (λz=>hb (by simp [z])) e
 done:=λs Q E st hQ=>Qu hh st.1 st.2 (AG _) λh' he=>hQ h' s.toks λb o hb e=>he b o (λz=>hb (by simp [z])) e
 self:=λ_ _ _ _ st hQ=>wpAny_pyIter_keyiter st.1 hQ
end
end L2.Rw
namespace L2.Pl
abbrev Pw:=List Int
abbrev Gb:=List Int×Int
def Hj:Pw->Pw->Bool
 |[],[]=>false
 |[],_::_=>true
 |_::_,[]=>false
 |x::xs,y::ys=>if x=y then Hj xs ys else decide (x<y)
theorem Jb:∀a:Pw,Hj a a=false
 |[]=>rfl
 |x::xs=>by simp [Hj,Jb xs]
theorem Lv:∀{a b c:Pw},Hj a b=true->Hj b c=true->Hj a c=true
 |[],[],c,h,_=>by simp [Hj]at h
 |[],_::_,[],_,h=>by simp [Hj]at h
 |[],_::_,_::_,_,_=>rfl
 |_::_,[],_,h,_=>by simp [Hj]at h
 |_::_,_::_,[],_,h=>by simp [Hj]at h
 |x::xs,y::ys,z::zs,h,q=>by
  simp only[Hj]at h q ⊢
  split at h
  ·rename_i e
   subst e
   split at q
   ·rename_i e
    subst e
    rw[AH rfl]
    exact Lv h q
   ·rename_i e
    rw[AE e]
    exact q
  ·rename_i e
   have h':=BD h
   split at q
   ·rename_i e2
    subst e2
    rw[AE e]
    exact h
   ·have q':=BD q
    rw[AE (by lia)]
    exact AX (by lia)
theorem NN:∀{a b:Pw},Hj a b=false->Hj b a=false->a=b
 |[],[],_,_=>rfl
 |[],_::_,h,_=>by simp [Hj]at h
 |_::_,[],_,h=>by simp [Hj]at h
 |x::xs,y::ys,h,q=>by
  simp only[Hj]at h q
  by_cases e:x=y
  ·subst e
   rw[AH rfl]at h q
   rw[NN h q]
  ·rw[AE e]at h
   rw[AE (λz=>e z.symm)]at q
   have h':=C2 h
   have q':=C2 q
   lia
structure Pt{α:Type}(lt:α->α->Bool):Prop where
 irr:∀a,lt a a=false
 trans:∀{a b c},lt a b=true->lt b c=true->lt a c=true
 tri:∀{a b},lt a b=false->lt b a=false->a=b
theorem dO:Pt Hj:=⟨Jb,Lv,NN⟩
def LS(a b:Gb):Bool:=if a.1=b.1 then decide (a.2<b.2) else Hj a.1 b.1
theorem Yr:Pt LS where
 irr:=λa=>by simp [LS]
 trans:=λ{a b c} h q=>by
  unfold LS at h q ⊢
  by_cases e1:a.1=b.1
  ·rw[AH e1]at h
   by_cases e2:b.1=c.1
   ·rw[AH e2]at q
    rw[AH (e1.trans e2)]
    have:=BD h
    have:=BD q
    exact AX (by lia)
   ·rw[AE e2]at q
    rw[AE (λz=>e2 (e1.symm.trans z)),e1]
    exact q
  ·rw[AE e1]at h
   by_cases e2:b.1=c.1
   ·rw[<-e2,AE e1]
    exact h
   ·rw[AE e2]at q
    have t:=Lv h q
    rw[AE (λz=>by rw[z,Jb]at t;cases t)]
    exact t
 tri:=λ{a b} h q=>by
  unfold LS at h q
  by_cases e:a.1=b.1
  ·rw[AH e]at h
   rw[AH e.symm]at q
   have:=C2 h
   have:=C2 q
   exact FE e (by lia)
  ·rw[AE e]at h
   rw[AE (λz=>e z.symm)]at q
   exact absurd (NN h q) e
def Kw{α:Type}(lt:α->α->Bool)(l:List α)(a:α):Nat:=(l.filter (lt · a)).length
theorem OC{α:Type}{lt:α->α->Bool}(L:Pt lt){l:List α}{a b:α}(ha:a∈l):lt a b=true↔Kw lt l a<Kw lt l b:=by
 constructor
 ·intro h
  unfold Kw
  have key:∀m:List α,(m.filter (lt · a)).length<=(m.filter (lt · b)).length/\(a∈m->(m.filter (lt · a)).length<(m.filter (lt · b)).length):=by
   intro m
   induction m with
   |nil=>simp
   |cons x m ih =>
    rw[CH,CH]
    by_cases c:lt x a=true
    ·rw[AH c,AH (L.trans c h)]
     simp only[Ai]
     refine⟨by lia,λhm=>?_⟩
     rcases AO.mp hm with e|hm
     ·subst e;rw[L.irr]at c;cases c
     ·have:=ih.2 hm;lia
    ·rw[AE c]
     by_cases c2:lt x b=true
     ·rw[AH c2]
      simp only[Ai]
      exact⟨by lia,λ_=>by lia⟩
     ·rw[AE c2]
      refine⟨ih.1,λhm=>?_⟩
      rcases AO.mp hm with e|hm
      ·subst e;exact absurd h c2
      ·exact ih.2 hm
  exact(key l).2 ha
 ·intro h
  cases c:lt a b with
  |true=>rfl
  |false =>
   exfalso
   have key:∀m:List α,(m.filter (lt · b)).length<=(m.filter (lt · a)).length:=by
    intro m
    induction m with
    |nil=>simp
    |cons x m ih =>
     rw[CH,CH]
     by_cases c1:lt x b=true
     ·have c2:lt x a=true:=by
       cases c3:lt x a with
       |true=>rfl
       |false =>
        cases c4:lt a x with
        |true =>
         rw[L.trans c4 c1]at c;cases c
        |false =>
         have e:=L.tri c3 c4
         subst e
         rw[c1]at c;cases c
      rw[AH c1,AH c2]
      simp only[Ai]
      lia
     ·rw[AE c1]
      split
      ·simp only[Ai];lia
      ·exact ih
   have:=key l
   unfold Kw at h
   lia
def cf:List Gb->Pw->Int
 |[],_=>0
 |t::r,p=>(if t.1=p then t.2 else 0)+cf r p
theorem Pp(p:Pw):∀a b:List Gb,cf (a++b) p=cf a p+cf b p
 |[],b=>by simp [cf]
 |t::a,b=>by simp only[List.cons_append,cf,Pp p a b];lia
theorem Rz{a b:List Gb}(h:a.Perm b)(p:Pw):cf a p=cf b p:=by
 induction h with
 |nil=>rfl
 |cons x _ ih=>simp only[cf,ih]
 |swap x y l=>simp only[cf];lia
 |trans _ _ i1 i2=>exact i1.trans i2
theorem MB{p:Pw}:∀{l:List Gb},(∀t∈l,t.1≠p)->cf l p=0
 |[],_=>rfl
 |t::r,h=>by
  simp only[cf]
  rw[AE (h t (AJ ..)),MB λx hx=>h x (AK _ hx)]
  rfl
structure HS(l:List Gb):Prop where
 ord:l.Pairwise λa b=>Hj b.1 a.1=true
 num:∀t∈l,t.2≠0
theorem HS.tail{t:Gb}{l:List Gb}(h:HS (t::l)):HS l:=⟨(Ay.mp h.ord).2,λx hx=>h.num x (AK _ hx)⟩
theorem HS.head{t:Gb}{l:List Gb}(h:HS (t::l)):cf (t::l) t.1=t.2:=by
 have o:=(Ay.mp h.ord).1
 simp only[cf]
 rw[AH trivial,MB λx hx e=>by have:=o x hx;rw[e,Jb]at this;cases this]
 lia
theorem HS.above{l:List Gb}(h:HS l){p:Pw}(q:∀t∈l,Hj t.1 p=true):cf l p=0:=MB λt ht e=>by
 have:=q t ht
 rw[e,Jb]at this
 cases this
theorem V3:∀{a b:List Gb},HS a->HS b->(∀p,cf a p=cf b p)->a=b
 |[],[],_,_,_=>rfl
 |[],t::b,_,hb,e=>by
  have:=e t.1
  rw[hb.head]at this
  exact absurd this.symm (hb.num t (AJ ..))
 |t::a,[],ha,_,e=>by
  have:=e t.1
  rw[ha.head]at this
  exact absurd this (ha.num t (AJ ..))
 |t::a,u::b,ha,hb,e=>by
  have oa:=(Ay.mp ha.ord).1
  have ob:=(Ay.mp hb.ord).1
  have k1:Hj t.1 u.1=false:=by
   cases c:Hj t.1 u.1 with
   |false=>rfl
   |true =>
    have z:=e u.1
    rw[hb.head,ha.above λx hx=>by
     rcases AO.mp hx with rfl|hx
     ·exact c
     ·exact Lv (oa x hx) c]at z
    exact absurd z.symm (hb.num u (AJ ..))
  have k2:Hj u.1 t.1=false:=by
   cases c:Hj u.1 t.1 with
   |false=>rfl
   |true =>
    have z:=e t.1
    rw[ha.head,hb.above λx hx=>by
     rcases AO.mp hx with rfl|hx
     ·exact c
     ·exact Lv (ob x hx) c]at z
    exact absurd z (ha.num t (AJ ..))
  have e1:t.1=u.1:=NN k1 k2
  have e2:t.2=u.2:=by
   have z:=e t.1
   rw[ha.head,e1,hb.head]at z
   exact z
  have e3:t=u:=FE e1 e2
  subst e3
  rw[V3 ha.tail hb.tail λp=>by
   have z:=e p
   simp only[cf]at z
   lia]
def ins(t:Gb):List Gb->List Gb
 |[]=>if t.2=0 then [] else [t]
 |u::r=>if t.1=u.1 then (if u.2+t.2=0 then r else (u.1,u.2+t.2)::r) else if Hj u.1 t.1=true then (if t.2=0 then u::r else t::u::r) else u::ins t r
theorem RA(t:Gb)(p:Pw):∀l:List Gb,cf (ins t l) p=(if t.1=p then t.2 else 0)+cf l p
 |[]=>by
  unfold ins
  split
  ·rename_i h;simp [cf,h]
  ·simp [cf]
 |u::r=>by
  unfold ins
  split
  ·rename_i h
   split
   ·rename_i z
    simp only[cf]
    by_cases e:u.1=p
    ·rw[AH e,AH (h.trans e)];lia
    ·rw[AE e,AE (λq=>e (h.symm.trans q))];lia
   ·simp only[cf]
    by_cases e:u.1=p
    ·rw[AH e,AH e,AH (h.trans e)];lia
    ·rw[AE e,AE e,AE (λq=>e (h.symm.trans q))];lia
  ·split
   ·split
    ·rename_i z;rw[z];simp only[cf];split<;>lia
    ·simp only[cf]
   ·simp only[cf,RA t p r];lia
theorem RJ(t:Gb){q:Pw}:∀{l:List Gb},(∀x∈l,Hj x.1 q=true)->Hj t.1 q=true->∀x∈ins t l,Hj x.1 q=true
 |[],_,ht,x,hx=>by
  unfold ins at hx
  split at hx
  ·simp at hx
  ·rw[AS.mp hx];exact ht
 |u::r,h,ht,x,hx=>by
  have hr:∀x∈r,Hj x.1 q=true:=λy hy=>h y (AK _ hy)
  have hu:=h u (AJ ..)
  unfold ins at hx
  split at hx
  ·split at hx
   ·exact hr x hx
   ·rcases AO.mp hx with rfl|hx
    ·exact hu
    ·exact hr x hx
  ·split at hx
   ·split at hx
    ·exact h x hx
    ·rcases AO.mp hx with rfl|hx
     ·exact ht
     ·exact h x hx
   ·rcases AO.mp hx with rfl|hx
    ·exact hu
    ·exact RJ t hr ht x hx
theorem Tn(t:Gb):∀{l:List Gb},HS l->HS (ins t l)
 |[],_=>by
  unfold ins
  split
  ·exact⟨.nil,λx hx=>by simp at hx⟩
  ·rename_i h
   exact⟨D1 _ _,λx hx=>by rw[AS.mp hx];exact h⟩
 |u::r,h=>by
  obtain⟨o1,o2⟩:=Ay.mp h.ord
  have nr:∀x∈r,x.2≠0:=λx hx=>h.num x (AK _ hx)
  have nu:=h.num u (AJ ..)
  unfold ins
  split
  ·split
   ·exact h.tail
   ·rename_i z
    refine⟨Ay.mpr ⟨o1,o2⟩,λx hx=>?_⟩
    rcases AO.mp hx with rfl|hx
    ·exact z
    ·exact nr x hx
  ·rename_i ne
   split
   ·rename_i lt
    split
    ·exact h
    ·rename_i z
     refine⟨Ay.mpr ⟨λx hx=>?_,h.ord⟩,λx hx=>?_⟩
     ·rcases AO.mp hx with rfl|hx
      ·exact lt
      ·exact Lv (o1 x hx) lt
     ·rcases AO.mp hx with rfl|hx
      ·exact z
      ·exact h.num x hx
   ·rename_i lt
    have c:=Tn t h.tail
    have tu:Hj t.1 u.1=true:=by
     cases k:Hj t.1 u.1 with
     |true=>rfl
     |false=>exact absurd (NN k (by simpa using lt)) ne
    refine⟨Ay.mpr ⟨λx hx=>RJ t o1 tu x hx,c.ord⟩,λx hx=>?_⟩
    rcases AO.mp hx with rfl|hx
    ·exact nu
    ·exact c.num x hx
def norm(ts:List Gb):List Gb:=ts.foldr ins []
theorem JI:∀ts:List Gb,HS (norm ts)
 |[]=>⟨.nil,λx hx=>by simp [norm]at hx⟩
 |t::r=>Tn t (JI r)
theorem Jo(p:Pw):∀ts:List Gb,cf (norm ts) p=cf ts p
 |[]=>rfl
 |t::r=>by
  show cf (ins t (norm r)) p=_
  rw[RA,Jo p r]
  rfl
theorem Vw{l ts:List Gb}(c:HS l)(e:∀p,cf l p=cf ts p):l=norm ts:=V3 c (JI ts) λp=>by rw[e,Jo]
theorem aA{a b:List Gb}(e:∀p,cf a p=cf b p):norm a=norm b:=V3 (JI a) (JI b) λp=>by rw[Jo,Jo,e]
theorem jM{l:List Gb}(c:HS l):norm l=l:=(Vw c λ_=>rfl).symm
theorem J1{ts:List Gb}{t:Gb}(h:t∈norm ts):∃u∈ts,u.1=t.1:=by
 have c:=JI ts
 have:cf (norm ts) t.1=t.2:=by
  have key:∀l:List Gb,HS l->t∈l->cf l t.1=t.2:=by
   intro l
   induction l with
   |nil=>intro _ hm;simp at hm
   |cons u l ih =>
    intro c hm
    rcases AO.mp hm with e|hm
    ·subst e;exact c.head
    ·have o:=(Ay.mp c.ord).1 t hm
     simp only[cf]
     rw[AE (λe=>by rw[e,Jb]at o;cases o),ih c.tail hm]
     lia
  exact key _ c h
 rw[Jo]at this
 false_or_by_contra
 rename_i n
 have z:cf ts t.1=0:=MB λu hu e=>n ⟨u,hu,e⟩
 exact c.num t h (by lia)
theorem Rc(t:Gb):∀l:List Gb,(ins t l).length<=l.length+1
 |[]=>by unfold ins;split<;>simp
 |u::r=>by
  unfold ins
  split
  ·split
   ·simp;lia
   ·simp
  ·split
   ·split<;>simp
   ·have:=Rc t r;simp;lia
theorem NF:∀ts:List Gb,(norm ts).length<=ts.length
 |[]=>AG _
 |t::r=>by
  have h1:=Rc t (norm r)
  have h2:=NF r
  show(ins t (norm r)).length<=r.length+1
  lia
def IU(d:List Gb)(p:Pw):Option Int:=(d.find? λkv=>decide (kv.1=p)).map (·.2)
def Ke(d:List Gb)(p:Pw)(n:Int):List Gb:=if (d.any λkv=>decide (kv.1=p))=true then d.map (λkv=>if kv.1=p then (kv.1,n) else kv) else d++[(p,n)]
abbrev Nd(d:List Gb):Prop:=(d.map (·.1)).Nodup
theorem Sx:∀{d:List Gb},Nd d->∀p,(IU d p).getD 0=cf d p
 |[],_,p=>rfl
 |t::r,h,p=>by
  obtain⟨h1,h2⟩:=Cd.mp (show(t.1::r.map (·.1)).Nodup from h)
  simp only[cf]
  by_cases e:t.1=p
  ·subst e
   have z:cf r t.1=0:=MB λu hu e=>h1 (e▸AV.mpr ⟨u,hu,rfl⟩)
   simp [IU,Bq,z]
  ·have ih:=Sx h2 p
   rw[AE e,<-ih]
   simp [IU,Bq,e]
theorem So(d:List Gb)(p:Pw)(n:Int):(Ke d p n).map (·.1)=if p∈d.map (·.1) then d.map (·.1) else d.map (·.1)++[p]:=by
 unfold Ke
 have ha:(d.any λkv=>decide (kv.1=p))=true↔p∈d.map (·.1):=by simp
 by_cases c:p∈d.map (·.1)
 ·rw[AH (ha.mpr c),AH c,C1]
  apply Cn
  intro x _
  simp only[Function.comp]
  split<;>rfl
 ·rw[AE (λz=>c (ha.mp z)),AE c,Au]
  rfl
theorem jC{d:List Gb}(h:Nd d)(p:Pw)(n:Int):Nd (Ke d p n):=by
 unfold Nd
 rw[So]
 split
 ·exact h
 ·rename_i c
  exact Ez.mpr ⟨h,by simp,λa ha b hb e=>by
   rw[AS.mp hb]at e
   exact c (e▸ha)⟩
theorem ZP{d:List Gb}(h:Nd d)(p:Pw)(n:Int)(q:Pw):cf (Ke d p n) q=if p=q then n else cf d q:=by
 unfold Ke
 by_cases c:(d.any λkv=>decide (kv.1=p))=true
 ·rw[AH c]
  have key:∀l:List Gb,Nd l->(l.any λkv=>decide (kv.1=p))=true->cf (l.map λkv=>if kv.1=p then (kv.1,n) else kv) q=if p=q then n else cf l q:=by
   intro l
   induction l with
   |nil=>intro _ z;simp at z
   |cons t r ih =>
    intro hn ha
    obtain⟨h1,h2⟩:=Cd.mp (show(t.1::r.map (·.1)).Nodup from hn)
    rw[Ae]
    by_cases e:t.1=p
    ·subst e
     have same:(r.map λkv=>if kv.1=t.1 then (kv.1,n) else kv)=r:=by
      conv=>rhs;rw[<-List.map_id r]
      apply Cn
      intro x hx
      have ne:¬ x.1=t.1:=λe=>h1 (by rw[<-e];exact AV.mpr ⟨x,hx,rfl⟩)
      rw[AE ne]
      rfl
     rw[AH rfl,same]
     simp only[cf]
     by_cases e2:t.1=q
     ·rw[AH e2,AH e2]
      have z:cf r q=0:=MB λu hu e=>h1 (by rw[e2,<-e];exact AV.mpr ⟨u,hu,rfl⟩)
      lia
     ·rw[AE e2,AE e2,AE e2]
    ·have ha':(r.any λkv=>decide (kv.1=p))=true:=by simpa [B8,e]using ha
     rw[AE e]
     simp only[cf]
     rw[ih h2 ha']
     by_cases e2:p=q
     ·rw[AH e2,AE (λz=>e (z.trans e2.symm)),AH e2];lia
     ·rw[AE e2,AE e2]
  exact key d h c
 ·rw[AE c,Pp]
  simp only[cf]
  by_cases e:p=q
  ·subst e
   rw[AH rfl,AH rfl]
   have z:cf d p=0:=MB λu hu e=>c (List.any_eq_true.mpr ⟨u,hu,AX e⟩)
   lia
  ·rw[AE e,AE e];lia
def Hu(ts:List Gb):List Gb:=ts.foldl (λd t=>Ke d t.1 ((IU d t.1).getD 0+t.2)) []
theorem NG(ts:List Gb)(t:Gb):Hu (ts++[t])=Ke (Hu ts) t.1 ((IU (Hu ts) t.1).getD 0+t.2):=by
 unfold Hu;rw[CB];rfl
theorem J4{α:Type}{P:List α->Prop}(h0:P [])(hs:∀l x,P l->P (l++[x])):∀l,P l:=by
 intro l
 rw[<-DZ l]
 induction l.reverse with
 |nil=>exact h0
 |cons x l ih=>rw[Ey];exact hs _ _ ih
theorem Pe:∀ts:List Gb,Nd (Hu ts):=J4 (by simp [Hu,Nd]) λl t h=>by rw[NG];exact jC h _ _
theorem N0(q:Pw):∀ts:List Gb,cf (Hu ts) q=cf ts q:=J4 rfl λl t h=>by
 rw[NG,ZP (Pe l),Pp,Sx (Pe l)]
 simp only[cf]
 by_cases e:t.1=q
 ·rw[AH e,AH e,e,h];lia
 ·rw[AE e,AE e,h];lia
theorem Ue(d:List Gb)(p:Pw)(n:Int):(Ke d p n).length<=d.length+1:=by
 unfold Ke
 split<;>simp
theorem ON:∀ts:List Gb,(Hu ts).length<=ts.length:=J4 (AG _) λl t h=>by
 rw[NG]
 have:=Ue (Hu l) t.1 ((IU (Hu l) t.1).getD 0+t.2)
 simp
 lia
theorem XZ{p:Pw}:∀ts:List Gb,p∈(Hu ts).map (·.1)->p∈ts.map (·.1):=J4 (by simp [Hu]) λl t h hp=>by
 rw[NG,So]at hp
 rw[Au]
 split at hp
 ·exact A6 _ (h hp)
 ·rcases Aq.mp hp with z|z
  ·exact A6 _ (h z)
  ·exact Ap _ (by rw[AS.mp z];simp)
theorem gI{d:List Gb}{p:Pw}(h:p∈d.map (·.1)):∃n,IU d p=some n:=by
 obtain⟨x,hx,e⟩:=AV.mp h
 unfold IU
 cases c:d.find? λkv=>decide (kv.1=p) with
 |none=>exact absurd (AX e) (by simpa using List.find?_eq_none.mp c x hx)
 |some y=>exact⟨y.2,rfl⟩
theorem aO(p:Pw):∀l:List Gb,cf (l.filter λt=>decide (t.2≠0)) p=cf l p
 |[]=>rfl
 |t::r=>by
  rw[CH]
  by_cases c:t.2≠0
  ·rw[AH (AX c)]
   simp only[cf,aO p r]
  ·rw[AE (by simpa using c)]
   simp only[cf,aO p r]
   split<;>lia
theorem ZA{ts l:List Gb}(hp:l.Perm ((Hu ts).filter λt=>decide (t.2≠0)))(ho:l.Pairwise λa b=>LS a b=false):l=norm ts:=by
 refine Vw ⟨?_,λt ht=>?_⟩ λp=>?_
 ·have nd:(l.map (·.1)).Nodup:=((hp.map (·.1)).nodup_iff).mpr ((Pe ts).sublist (Gr.map _))
  rw[List.Nodup,Bw]at nd
  refine(Fv.mpr ⟨ho,nd⟩).imp λ{a b} h=>?_
  obtain⟨h1,h2⟩:=h
  unfold LS at h1
  rw[AE h2]at h1
  cases c:Hj b.1 a.1 with
  |true=>rfl
  |false=>exact absurd (NN h1 c) h2
 ·have:=(Dk.mp (hp.mem_iff.mp ht)).2
  simpa using this
 ·rw[Rz hp,aO,N0]
theorem Qe{ts:List Gb}{ks:List Pw}(hp:ks.Perm ((Hu ts).map (·.1)))(ho:ks.Pairwise λa b=>Hj a b=false) :
  (ks.filter λk=>decide ((IU (Hu ts) k).getD 0≠0)).map (λk=>(k,(IU (Hu ts) k).getD 0))=norm ts:=by
 have nd:ks.Nodup:=(hp.nodup_iff).mpr (Pe ts)
 have so:ks.Pairwise λa b=>Hj b a=true:=(Fv.mpr ⟨ho,nd⟩).imp λ{a b} h=>by
  cases c:Hj b a with
  |true=>rfl
  |false=>exact absurd (NN h.1 c) h.2
 have g:∀p,(IU (Hu ts) p).getD 0=cf ts p:=λp=>by rw[Sx (Pe ts),N0]
 have e:(ks.filter λk=>decide ((IU (Hu ts) k).getD 0≠0)).map (λk=>(k,(IU (Hu ts) k).getD 0))=(ks.filter λk=>decide (cf ts k≠0)).map λk=>(k,cf ts k):=by
  simp only[g]
 rw[e]
 refine Vw ⟨?_,λt ht=>?_⟩ λp=>?_
 ·rw[Bw]
  exact so.sublist Gr
 ·obtain⟨k,hk,rfl⟩:=AV.mp ht
  simpa using (Dk.mp hk).2
 ·have key:∀l:List Pw,l.Nodup->cf ((l.filter λk=>decide (cf ts k≠0)).map λk=>(k,cf ts k)) p=if p∈l then cf ts p else 0:=by
   intro l
   induction l with
   |nil=>intro _;rfl
   |cons a l ih =>
    intro hn
    obtain⟨h1,h2⟩:=Cd.mp hn
    have ih':=ih h2
    rw[CH]
    by_cases c:cf ts a≠0
    ·rw[AH (AX c),Ae]
     simp only[cf]
     rw[ih']
     by_cases e:a=p
     ·subst e
      rw[AH rfl,AE h1,AH (AJ ..)];lia
     ·rw[AE e]
      by_cases m:p∈l
      ·rw[AH m,AH (AK _ m)];lia
      ·rw[AE m,AE (λz=>(AO.mp z).elim (λq=>e q.symm) m)];lia
    ·rw[AE (by simpa using c),ih']
     have c':cf ts a=0:=by lia
     by_cases e:a=p
     ·subst e
      rw[AE h1,AH (AJ ..),c']
     ·by_cases m:p∈l
      ·rw[AH m,AH (AK _ m)]
      ·rw[AE m,AE (λz=>(AO.mp z).elim (λq=>e q.symm) m)]
  rw[key ks nd]
  by_cases m:p∈ks
  ·rw[AH m]
  ·rw[AE m,<-N0 p ts]
   exact(MB λu hu e=>m (hp.mem_iff.mpr (AV.mpr ⟨u,hu,e⟩))).symm
end L2.Pl
namespace L2.Ev
open PySem PySem.Spec PyProof.Rows
open L2.Ts L2.Pl
theorem SO:∀a b:List Int,HT.lexLt a b=Hj a b
 |[],[]=>by rw[HT.lexLt_nil_nil];rfl
 |[],_::_=>by rw[HT.lexLt_nil_cons];rfl
 |_::_,[]=>by rw[HT.lexLt_cons_nil];rfl
 |x::xs,y::ys=>by
  rw[HT.lexLt_cons]
  simp only[Hj]
  split
  ·exact SO xs ys
  ·rfl
section
variable{prog:Program}{w:World}{A:Around}{E:Value->Shared->Prop}{s:Shared}{b fin:Bool}{Q:Bool->Shared->Prop}
theorem RD:∀{vs ws:List Value}{ns ms:List Int}{i:Nat},IntsAre vs ns->IntsAre ws ms->(fin=decide (ns.length<ms.length))->Q (Hj ns ms) s->W.KatLex prog w A b fin Q (vs.zip ws) i s
 |[],[],_,_,i,.nil,.nil,e,q=>by
  subst e
  exact EN q
 |[],_::_,_,_,i,.nil,.cons _ _ _,e,q=>by
  subst e
  refine EN ?_
  simpa [Hj]using q
 |_::_,[],_,_,i,.cons _ _ _,.nil,e,q=>by
  subst e
  refine EN ?_
  simpa [Hj]using q
 |_,_,_,_,i,.cons a t hv,.cons c u hw,e,q=>by
  rw[Cz]
  simp only[Hj]at q
  obtain⟨eq,he,hiff⟩:=HT.eqAt_int A s a t c u
  refine FH (he prog w _ _ ?_)
  cases eq with
  |true =>
   rw[AH (hiff.mp rfl)]at q
   refine FX (RD hv hw ?_ q)
   rw[e]
   simp
  |false =>
   rw[AE (λz=>absurd (hiff.mpr z) AY)]at q
   refine Fw ?_
   cases hb:(b&&i==0) with
   |true=>exact oneLt_int q
   |false =>
    refine EO _ _ ?_
    exact EY q
end
section
variable{X:Cx}{Fo:List (Addr×Obj)}{σ:St}{H:Hp}{s:Shared}
class Io (α:Type) [D:Dat α] where
 lt:α->α->Bool
 lin:Pt lt
 plain:Bool
 ok:α->Prop
 first:∀{X:Cx}{Fo:List (Addr×Obj)}{σ:St}{H:Hp}{s:Shared}{v:V}{a:α},Inv X Fo σ H s->D.is H v a->ok a ->
  ∃(p:Addr)(o:Obj)(xs:Array Value)(n:Nat)(f:Value),Gx v (.ref p)/\s.heap.get? p=some o/\o.cls=.type "tuple" /\ o.data=.seq xs n/\xs[0]?=some f/\W.Looks (model X.prog X.w) s.heap (typeOf f) (if plain=true then .type "int" else .type "tuple")
 asks:∀{X:Cx}{Fo:List (Addr×Obj)}{σ:St}{H:Hp}{s:Shared}{A:Around}{v v':V}{u u':Value}{a b:α},Inv X Fo σ H s->A.units+4<cLine->D.is H v a->D.is H v' b->ok a->ok b->Gx v u->Gx v' u' ->
  ∀Q:Bool->Shared->Prop,Q (lt a b) s->wpAny (model X.prog X.w) A (keyLt' (tuples' plain) u u') Q (λ_ _=>False) s
theorem JE{H:Hp}{v:V}{r:List Int}(h:Dat.is H v r):∃p,v=.ref p/\H p=some (.tup (r.map V.int)):=by
 obtain⟨p,vs,e,q,i⟩:=h
 have ei:∀{vs:List V}{ns:List Int},Hc H vs ns->vs=ns.map V.int:=by
  intro vs ns i
  induction i with
  |nil=>rfl
  |cons r t ih=>rw[Ae,<-ih];exact congrArg (· :: _) r
 rw[ei i]at q
 exact⟨p,e,q⟩
theorem Jx{H:Hp}{p:Addr}{r:List Int}(h:H p=some (.tup (r.map V.int))):Dat.is H (.ref p) r:=by
 have ei:∀ns:List Int,Hc H (ns.map V.int) ns:=by
  intro ns
  induction ns with
  |nil=>exact .nil
  |cons n r ih=>exact .cons rfl ih
 exact⟨p,_,rfl,h,ei r⟩
theorem Mn{a:Addr}{xs:List V}(I:Inv X Fo σ H s)(h:H a=some (.tup xs)):∃(o:Obj)(its:List Value)(n:Nat),s.heap.get? a=some o/\o.cls=.type "tuple" /\ o.data=.seq its.toArray n/\Gy xs its:=by
 obtain⟨its,rv,ht,_⟩:=I.tuple (HL.of h)
 obtain⟨o,ho,hc,n,hd⟩:=ht
 exact⟨o,its,n,ho,hc,hd,rv⟩
instance Vb:Io (List Int) where
 lt:=Hj
 lin:=dO
 plain:=true
 ok:=λa=>a≠[]
 first:=λ{X Fo σ H s v a} I h ok=>by
  obtain⟨p,rfl,hp⟩:=JE h
  obtain⟨o,its,n,ho,hc,hd,rv⟩:=Mn I hp
  cases a with
  |nil=>exact absurd rfl ok
  |cons x a =>
   rw[Ae]at rv
   cases rv with
   |cons r t =>
    obtain⟨tk,rfl⟩:=r
    exact⟨p,o,_,n,_,rfl,ho,hc,hd,rfl,W.Looks.of_pure rfl⟩
 asks:=λ{X Fo σ H s A v v' u u' a b} I hu h h' ok ok' r r' Q q=>by
  obtain⟨p,rfl,hp⟩:=JE h
  obtain⟨p',rfl,hp'⟩:=JE h'
  obtain⟨o,its,n,ho,hc,hd,rv⟩:=Mn I hp
  obtain⟨o',its',n',ho',hc',hd',rv'⟩:=Mn I hp'
  cases r
  cases r'
  refine W.kat_lt ho hd ho' hd' (RD (KI rv) (KI rv') ?_ q)
  have l1:=rv.length
  have l2:=rv'.length
  simp only[AB]at l1 l2
  simp only[Am]
  rw[l1,l2]
instance pQ:Io (List Int×Int) where
 lt:=LS
 lin:=Yr
 plain:=false
 ok:=λ_=>True
 first:=λ{X Fo σ H s v a} I h ok=>by
  obtain⟨p,x,y,rfl,hp,hx,hy⟩:=h
  obtain⟨o,its,n,ho,hc,hd,rv⟩:=Mn I hp
  obtain⟨p2,rfl,hp2⟩:=JE hx
  obtain⟨o2,its2,n2,ho2,hc2,hd2,rv2⟩:=Mn I hp2
  obtain⟨w1,w2,rfl,r1,r2⟩:=K0 rv
  cases r1
  refine⟨p,o,_,n,_,rfl,ho,hc,hd,rfl,?_⟩
  rw[AE (by decide),<-hc2]
  exact(ED ho2).andThen .now
 asks:=λ{X Fo σ H s A v v' u u' a b} I hu h h' ok ok' r r' Q q=>by
  obtain⟨p,x,y,rfl,hp,hx,hy⟩:=h
  obtain⟨p',x',y',rfl,hp',hx',hy'⟩:=h'
  obtain⟨o,its,n,ho,hc,hd,rv⟩:=Mn I hp
  obtain⟨o',its',n',ho',hc',hd',rv'⟩:=Mn I hp'
  cases r
  cases r'
  obtain⟨w1,w2,rfl,r1,r2⟩:=K0 rv
  obtain⟨z1,z2,rfl,t1,t2⟩:=K0 rv'
  refine W.kat_lt ho hd ho' hd' ?_
  show W.KatLex _ _ _ _ _ _ [(w1,z1),(w2,z2)] 0 s
  have e1:=Dat.eqAt (A:=A) I (by show A.units+(0+1)<cLine;lia) hx hx' r1 t1
  refine FH (e1 _ _ _ _ ?_)
  unfold LS at q
  cases c:Dat.eqb a.1 b.1 with
  |true =>
   have e:=(Dat.eqb_iff a.1 b.1).mp c
   rw[AH e]at q
   refine FX ?_
   have hy2:y=.int a.2:=hy
   have hy2':y'=.int b.2:=hy'
   subst hy2 hy2'
   obtain⟨k1,rfl⟩:=r2
   obtain⟨k2,rfl⟩:=t2
   obtain⟨eq,he,hiff⟩:=HT.eqAt_int A s a.2 k1 b.2 k2
   refine FH (he _ _ _ _ ?_)
   cases eq with
   |true =>
    have e2:=hiff.mp rfl
    rw[AN (by lia)]at q
    refine FX (EN ?_)
    simpa using q
   |false =>
    refine Fw (EO _ _ ?_)
    exact EY q
  |false =>
   have e:¬ a.1=b.1:=λz=>by rw[(Dat.eqb_iff a.1 b.1).mpr z]at c;cases c
   rw[AE e]at q
   refine Fw (EO _ _ ?_)
   obtain⟨p2,rfl,hp2⟩:=JE hx
   obtain⟨p2',rfl,hp2'⟩:=JE hx'
   cases r1
   cases t1
   obtain⟨its,r1,q1,_⟩:=I.tuple (HL.of hp2)
   obtain⟨its2,r2,q2,_⟩:=I.tuple (HL.of hp2')
   have i1:IntsAre its.toArray.toList a.1:=KI r1
   have i2:IntsAre its2.toArray.toList b.1:=KI r2
   refine HT.lt_tupInts q1 q2 i1 i2 (by lia) ?_
   rw[SO]
   exact q
end
end L2.Ev
namespace L2.Ts
open PySem PyProof.Rows
section
variable{prog:Program}{w:World}{A:Around}{E:Value->Shared->Prop}{s:Shared}{κ:SortKind}{M:Keyed->Prop}{rk:Keyed->Nat}
theorem UZ(vs:List Value):(vs.zip vs).map (·.2)=vs:=List.map_snd_zip (AG _)
theorem X4{a:Addr}{vs:List Value}{n:Nat}{P:PySem.Fin->Shared->Prop}(ho:s.heap.get? a=some (seqObj "list" vs.toArray n))(hz:vs.length<=sizeLine)(hM:∀v∈vs,M (v,v))
  (hk:∀h',(∀b o,b≠a->s.heap.get? b=some o->h'.get? b=some o)->2<=vs.length->(∀(Q:SortKind->Shared->Prop)(E':Value->Shared->Prop),Q κ { s with heap:=h' }->wpAny (model prog w) A (keyKind' vs.toArray) Q E' { s with heap:=h' })/\Jm prog w A { s with heap:=h' } κ M rk)
  (h:∀out:List Value,out.Perm vs->(out.Pairwise λx y=>rk (y,y)<=rk (x,x))->P (.done (.ret .none)) { s with heap:=sortedHeap s.heap a vs out.toArray }) :
  wpAny (model prog w) A (Builtin.«list.sort» ⟨[.ref a],[(Str.ofString "reverse",.bool true)]⟩) P E s:=by
 rw[list_sort_rev]
 have ha:a<s.heap.objs.size:=AR ho
 have hsz:vs.toArray.size=vs.length:=by simp
 refine AA (listItems_at ho rfl (AA (listUpdate_at ho rfl ?_ (by rw[hsz];exact hz) (by simp))))
 obtain⟨e1,ho1⟩:∃e1,(s.heap.update a (Obj.mapSeq λ_=>#[])).get? a=some (seqObj "list" #[] e1):=⟨_,get?_update_seq ho (λ_=>#[])⟩
 refine AA (seqEpoch_at ho1 rfl (AA (Ga ?_ (by simpa using hz))))
 refine AA (wpAny_newList (By ?_))
 have ho6:(((s.heap.update a (Obj.mapSeq λ_=>#[])).push (seqObj "tuple" vs.toArray 0)).push (seqObj "list" #[] 0)).get? a=some (seqObj "list" #[] e1):=by
  rw[Heap.get?_push_ne _ _ _ (by rw[size_push',EE];exact As (E1 ha)),Heap.get?_push_ne _ _ _ (by rw[EE];exact As ha)]
  exact ho1
 have keep:∀b o,b≠a->s.heap.get? b=some o->(((s.heap.update a (Obj.mapSeq λ_=>#[])).push (seqObj "tuple" vs.toArray 0)).push (seqObj "list" #[] 0)).get? b=some o:=λb o hb e =>
  AC _ (AC _ ((An _ _ (Bl hb)).trans e))
 show wpAny (model prog w) A _ P E { s with heap:=((s.heap.update a (Obj.mapSeq λ_=>#[])).push (seqObj "tuple" vs.toArray 0)).push (seqObj "list" #[] 0) }
 dsimp only
 simp only[CA]
 refine AA (Cj ?_)
 by_cases h2:vs.toArray.size<2
 ·rw[AH h2,AH h2]
  refine AA (AD ?_)
  rw[StateT.run_pure]
  refine AA (AD ?_)
  dsimp only
  have eo:((arrOf (SortSt.mk' general' (vs.toArray.zip vs.toArray).reverse #[] 7 none)).map (·.2)).reverse=vs.toArray:=by
   show((vs.toArray.zip vs.toArray).reverse.map (·.2)).reverse=vs.toArray
   apply Array.ext'
   simp only[Ce,Array.toList_map,Array.toList_zip,List.map_reverse,DZ]
   exact UZ vs
  refine AA (seqEpoch_at ho6 rfl (AA (listUpdate_at ho6 rfl ?_ (by simp) ?_)))
  ·simp only[bne_self_eq_false,A5,Bb]
   refine AD ?_
   have q:=h vs (List.Perm.refl _) (by
    match vs,hsz,h2 with
    |[],_,_=>exact .nil
    |[x],_,_=>exact D1 _ _
    |_::_::_,_,h2=>exfalso;simp at h2;lia)
   unfold sortedHeap at q
   rw[eo]
   exact q
  ·rw[eo,hsz];lia
 ·rw[AE h2,AE h2]
  obtain⟨k1,k2⟩:=hk _ keep (by lia)
  refine AA (k1 _ _ ?_)
  have all:All M (arrOf (SortSt.mk' κ (vs.toArray.zip vs.toArray).reverse #[] 7 none)):=λi p hp=>by
   have hm:p∈(vs.toArray.zip vs.toArray).reverse:=Fu hp
   have hm2:p∈vs.zip vs:=by
    have:p∈(vs.toArray.zip vs.toArray).toList:=by simpa using Array.mem_reverse.mp hm
    simpa using this
   obtain⟨e,m⟩:=mem_zip_self hm2
   have:p=(p.1,p.1):=FE rfl e.symm
   rw[this]
   exact hM _ m
  have z0:(arrOf (SortSt.mk' κ (vs.toArray.zip vs.toArray).reverse #[] 7 none)).size=vs.length:=by
   show(vs.toArray.zip vs.toArray).reverse.size=vs.length
   simp
  refine AA (BL (oJ k2 (st:=SortSt.mk' κ (vs.toArray.zip vs.toArray).reverse #[] 7 none) (Q:=λ_ st'=>(arrOf st').Perm (vs.toArray.zip vs.toArray).reverse/\failedOf st'=none/\Ir rk (arrOf st') 0 vs.length) rfl all rfl rfl (by rw[z0];lia)
   λst' a1 a2 a3=>⟨a1,a2,by rw[z0]at a3;exact a3⟩) ?_ λ_ _ e=>e)
  rintro⟨⟨⟩,st'⟩ s' ⟨rfl,hp,hf,hs⟩
  dsimp only
  have zs:(arrOf st').size=vs.length:=by rw[hp.size_eq];exact z0
  have lp:(arrOf st').toList.Perm (vs.zip vs):=by
   have:=Eu.mp hp
   rw[Ce]at this
   exact this.trans ((List.reverse_perm _).trans (List.Perm.of_eq (by simp)))
  have eo:((arrOf st').map (·.2)).reverse=(((arrOf st').toList.map (·.2)).reverse).toArray:=by
   apply Array.ext'
   simp
  refine AA (seqEpoch_at ho6 rfl (AA (listUpdate_at ho6 rfl ?_ (by simp) ?_)))
  ·rw[hf]
   simp only[bne_self_eq_false,A5,Bb]
   refine AD ?_
   have q:=h (((arrOf st').toList.map (·.2)).reverse) ?_ ?_
   ·unfold sortedHeap at q
    rw[eo]
    exact q
   ·have:=lp.map (·.2)
    rw[UZ]at this
    exact(List.reverse_perm _).trans this
   ·rw[List.pairwise_reverse,Bw]
    refine Dn.mpr λi j hi hj hij=>?_
    have li:i<(arrOf st').size:=by simpa using hi
    have lj:j<(arrOf st').size:=by simpa using hj
    have q:=hs i j (Az _) (Bf hij) (by lia)
    rw[IP (AF li),IP (AF lj)]at q
    have twin:∀p∈(arrOf st').toList,p=(p.2,p.2):=λp m=>FE (mem_zip_self (lp.mem_iff.mp m)).1 rfl
    have ei:=twin (arrOf st').toList[i] (Da _)
    have ej:=twin (arrOf st').toList[j] (Da _)
    rw[<-ei,<-ej]
    simpa using q
  ·rw[Array.size_reverse,Array.size_map,zs];lia
theorem VL{r:Addr}{vs:List Value}{Q:Value->Shared->Prop}(hz:vs.length<=sizeLine)(hM:∀v∈vs,M (v,v))
  (hc:∀(Q':List Value->Shared->Prop),(∀h' tk,(∀b o,s.heap.get? b=some o->h'.get? b=some o)->s.heap.objs.size<=h'.objs.size->Q' vs { s with heap:=h',toks:=tk })->wpAny (model prog w) A.in1 (collect (.ref r)) Q' E s)
  (hk:∀h' tk,(∀b o,s.heap.get? b=some o->h'.get? b=some o)->2<=vs.length->(∀(Q':SortKind->Shared->Prop)(E':Value->Shared->Prop),Q' κ { s with heap:=h',toks:=tk }->wpAny (model prog w) A.in1.in1 (keyKind' vs.toArray) Q' E' { s with heap:=h',toks:=tk })/\Jm prog w A.in1.in1 { s with heap:=h',toks:=tk } κ M rk)
  (h:∀h' tk D e (out:List Value),out.Perm vs->(out.Pairwise λx y=>rk (y,y)<=rk (x,x))->(∀b o,s.heap.get? b=some o->h'.get? b=some o)->s.heap.objs.size<=D->h'.get? D=some (seqObj "list" out.toArray e)->Q (.ref D) { s with heap:=h',toks:=tk }) :
  wpAny (model prog w) A (call (.builtin "sorted") [.ref r] [(Str.ofString "reverse",.bool true)]) Q E s:=by
 refine call_function_entry_kw kind_sorted plain_sorted entry_sorted (args_sorted_rev _ _) ?_
 unfold Builtin.«sorted»
 refine AA (m:=checkCount "sorted" 1 1 _) (AD ?_)
 refine AA (hc _ λh' tk kp sz=>?_)
 refine AA (wpAny_newList ?_ hz)
 have hoL:(h'.push (seqObj "list" vs.toArray 0)).get? h'.objs.size=some (seqObj "list" vs.toArray 0):=AQ _ rfl
 have lt:∀b o,s.heap.get? b=some o->b<h'.objs.size:=λb o e=>AR (kp b o e)
 refine AA (By (wpAny_call_entry_kw slot_list_sort ⟨_,hoL,rfl⟩ entry_list_sort (X4 (s:={ s with heap:=h'.push (seqObj "list" vs.toArray 0),toks:=tk }) (κ:=κ) (M:=M) (rk:=rk) hoL hz hM (λh2 k2 l2=>?_) λout p o=>⟨_,rfl,?_⟩) (args_list_sort_rev _ _)))
 ·exact hk h2 tk (λb o e=>k2 b o (As (lt b o e)) (AC _ (kp b o e))) l2
 ·obtain⟨c,hc'⟩:=sortedHeap_at (vs:=vs) (out:=out.toArray) hoL
  refine AD ⟨_,rfl,h _ tk h'.objs.size c out p o (λb o e=>?_) sz hc'⟩
  have ne:b≠h'.objs.size:=As (lt b o e)
  unfold sortedHeap
  refine(An _ _ (Bl ne)).trans (AC _ (AC _ ((An _ _ (Bl ne)).trans (AC _ (kp b o e)))))
end
end L2.Ts
namespace L2.Rw
open PySem PySem.W PySem.Calls PyProof.Rows PySem.Spec
section
variable{prog:Program}{w:World}{A:Around}{E:Value->Shared->Prop}{s:Shared}{d:Addr}{es:Array DictEntry}{ep:Nat}
theorem RR(lo:(d==sysModules)=false):KdlSrc prog w "dict" d d es.size (λi v=>∃h:i<es.size,v=es[i].key) (λh=>IL h d es ep) where
 type:=λ_ hm=>hm.type
 there:=λ_ hm=>⟨hm.lt,hm.lt⟩
 keep:=λ_ _ hm hk=>hm.keep λo e=>hk d (.inl rfl) o e
 notList:=by decide
 notTuple:=by decide
 hint:=λ_ _ _ _ hm hq=>kdl_hint_dict hm.type hq
 iter:=λ_ _ hh hm=>⟨_,_,(λ_ _ hq=>Q8 lo hm hq),Sb hh _ d (As hm.lt) es ep,⟨⟨_,AQ _ rfl,rfl,rfl⟩,hm.keep λo e=>AC _ e⟩⟩
theorem aG{T:String}{r:Addr}{n:Nat}{P:Nat->Value->Prop}{OK:Heap->Prop}{Q:List Value->Shared->Prop}(K:KdlSrc prog w T r d n P OK)(hh:A.handled=none)(hok:OK s.heap)(hn:n<=sizeLine)
  (hQ:∀h' tk acc,(∀b o,s.heap.get? b=some o->h'.get? b=some o)->s.heap.objs.size<=h'.objs.size->ItemsOf P acc n->Q acc.toList { s with heap:=h',toks:=tk }):wpAny (model prog w) A (collect (.ref r)) Q E s:=by
 obtain⟨tr,td⟩:=K.there _ hok
 unfold collect
 refine AA (wpAny_runValue (B4 Em ?_))
 rw[Ba En _]
 show wpAny _ A.in1 (newList []>>=λl=>again (.builtin "list.__iadd__" ⟨[l,.ref r],[]⟩)) _ _ s
 refine AA (BC (AD ⟨CU DK _,B4 FS ?_⟩))
 rw[Ba DK _]
 have hok1:=K.keep _ (s.heap.push { cls:=.type "list",data:=.seq ([]:List Value).toArray }) hok λb _ o e=>AC _ e
 have key:=kdl_extend (A:=A) (s:={ s with heap:=s.heap.push { cls:=.type "list",data:=.seq ([]:List Value).toArray } })
  (R:=λ(q:Result)(s':Shared)=>∃(h':Heap)(tk:Nat)(acc:Array Value)(c:Nat),q=.ok (.ret (.ref s.heap.objs.size))/\s'={ s with heap:=h',toks:=tk }/\(∀b o,s.heap.get? b=some o->h'.get? b=some o)/\h'.get? s.heap.objs.size=some { cls:=.type "list",dict:=none,data:=.seq acc c,slots:=#[] }/\ItemsOf P acc n)
  K hh hok1 s.heap.objs.size (CG tr) (CG td) (.ref s.heap.objs.size) 0 (AQ _ rfl)
  (λh' tk acc c kp hS it=>⟨h',tk,acc,c,rfl,rfl,λb o e=>kp b o (As (AR e)) (AC _ e),hS,it⟩) hn
 have fin:∀(q:Result)(s':Shared),(∃(h':Heap)(tk:Nat)(acc:Array Value)(c:Nat),q=.ok (.ret (.ref s.heap.objs.size))/\s'={ s with heap:=h',toks:=tk }/\(∀b o,s.heap.get? b=some o->h'.get? b=some o)/\h'.get? s.heap.objs.size=some { cls:=.type "list",dict:=none,data:=.seq acc c,slots:=#[] }/\ItemsOf P acc n) ->
   q=.ok (.ret (.ref s.heap.objs.size))/\wpAny (model prog w) A (load s.heap.objs.size>>=λo=>match o.data with|.seq xs _=>pure xs.toList|_=>unsupported "internal:collect") Q E s':=by
  rintro q s' ⟨h',tk,acc,c,rfl,rfl,kp,hS,it⟩
  exact⟨rfl,AA (wpAny_load hS (AD (hQ h' tk acc kp (Bf (AR hS)) it)))⟩
 refine BL key (λf s' x=>?_) λe s' x=>?_
 ·cases f with
  |done f =>
   obtain⟨e,q⟩:=fin _ _ x
   cases e
   exact q
  |again c₁ =>
   refine⟨x.1,DX x.2 λq s₂ y=>?_⟩
   obtain⟨e,q⟩:=fin _ _ y
   subst e
   exact q
 ·obtain⟨e',_⟩:=fin _ _ x
  cases e'
end
end L2.Rw
namespace L2.Ev
open PySem PySem.Spec PyProof.Rows
def Kx(cells:List (Str×Addr)):List (Str×NameKind)->List (Str×Addr)->List (Str×Addr)
 |[],acc=>acc
 |(n,k)::r,acc=>if (k==NameKind.free)=true then Kx cells r ((n,(cells.lookup n).getD 0)::acc) else Kx cells r acc
theorem Wi{env:Env}(names:List (Str×NameKind))(h:∀x∈names,x.2=.free->∃c,env.cells.lookup x.1=some c)(acc:List (Str×Addr)) :
  (do
   let mut cs:=acc
   for (name,kind) in names do
    if kind==.free then cs:=(name,<-cellOf env name)::cs
   return cs:Sem (List (Str×Addr)))=pure (Kx env.cells names acc):=by
 induction names generalizing acc with
 |nil=>simp [Kx]
 |cons x r ih =>
  obtain⟨n,k⟩:=x
  have hr:∀x∈r,x.2=.free->∃c,env.cells.lookup x.1=some c:=λx hx=>h x (AK _ hx)
  by_cases hk:k=.free
  ·subst hk
   obtain⟨c,hc⟩:=h (n,.free) AJ rfl
   have ih':=ih hr ((n,c)::acc)
   simp only[Do,Cp,CA,cellOf,hc,Kx,Option.getD_some,pure_bind]at ih' ⊢
   exact ih'
  ·have hb:(k==NameKind.free)=false:=by simpa using hk
   have ih':=ih hr acc
   simp only[Do,hb,A5,Bb,Kx,pure_bind]at ih' ⊢
   exact ih'
theorem ZW{cells:List (Str×Addr)}:∀{names:List (Str×NameKind)}{acc:List (Str×Addr)},(∀x∈names,x.2=.free->∃c,cells.lookup x.1=some c)->(∀x c,acc.lookup x=some c->cells.lookup x=some c) ->
  ∀x c,(Kx cells names acc).lookup x=some c->cells.lookup x=some c
 |[],acc,_,ha,x,c,e=>ha x c e
 |(n,k)::r,acc,h,ha,x,c,e=>by
  have hr:∀x∈r,x.2=.free->∃c,cells.lookup x.1=some c:=λx hx=>h x (AK _ hx)
  unfold Kx at e
  by_cases hk:(k==NameKind.free)=true
  ·rw[AH hk]at e
   refine ZW hr (λy d e'=>?_) x c e
   obtain⟨c0,hc0⟩:=h (n,k) AJ (by simpa using hk)
   rw[B6]at e'
   cases hy:y==n with
   |true =>
    rw[hy]at e'
    have e1:y=n:=by simpa using hy
    subst e1
    have e2:(cells.lookup y).getD 0=d:=by simpa using e'
    have hc1:cells.lookup y=some c0:=hc0
    rw[hc1]at e2 ⊢
    simpa using e2
   |false=>rw[hy]at e';exact ha y d e'
  ·rw[AE hk]at e
   exact ZW hr ha x c e
theorem VW{cells:List (Str×Addr)}:∀{names:List (Str×NameKind)}{acc:List (Str×Addr)}{x:Str},((∃c,acc.lookup x=some c)∨(x,NameKind.free)∈names)->∃c,(Kx cells names acc).lookup x=some c
 |[],acc,x,h=>by
  rcases h with h|h
  ·exact h
  ·simp at h
 |(n,k)::r,acc,x,h=>by
  unfold Kx
  by_cases hk:(k==NameKind.free)=true
  ·rw[AH hk]
   refine VW ?_
   rw[B6]
   cases hy:x==n with
   |true=>exact .inl ⟨_,rfl⟩
   |false =>
    rcases h with h|h
    ·exact .inl h
    ·rcases AO.mp h with e|h
     ·injection e with e1 e2
      subst e1
      simp at hy
     ·exact .inr h
  ·rw[AE hk]
   refine VW ?_
   rcases h with h|h
   ·exact .inl h
   ·rcases AO.mp h with e|h
    ·injection e with e1 e2
     subst e2
     simp at hk
    ·exact .inr h
theorem mem_of_lookup{α β:Type}[BEq α][LawfulBEq α]:∀{l:List (α×β)}{x:α}{k:β},l.lookup x=some k->(x,k)∈l
 |[],_,_,h=>by simp at h
 |(n,j)::r,x,k,h=>by
  rw[B6]at h
  cases hy:x==n with
  |true =>
   rw[hy]at h
   have e1:x=n:=by simpa using hy
   have e2:j=k:=by simpa using h
   subst e1 e2
   exact AJ
  |false=>rw[hy]at h;exact AK _ (mem_of_lookup h)
theorem VU{env:Env}:∀{names:List (Str×NameKind)}{x:Str}{k:NameKind},(∀y∈names,y.2≠.cell)->(k=.cell∨k=.free) ->
  (names.map λ(n,k)=>if (k==NameKind.free&&env.scope.kind==.function&&env.kindOf n==some .cell) then (n,NameKind.cell) else (n,k)).lookup x=some k->(x,NameKind.free)∈names
 |[],_,_,_,_,h=>by simp at h
 |(n,j)::r,x,k,hc,hk,h=>by
  have hr:∀y∈r,y.2≠.cell:=λy hy=>hc y (AK _ hy)
  have hj:j≠.cell:=hc (n,j) AJ
  have h':List.lookup x ((if (j==NameKind.free&&env.scope.kind==.function&&env.kindOf n==some .cell)=true then (n,NameKind.cell) else (n,j))::r.map λ(n,k)=>if (k==NameKind.free&&env.scope.kind==.function&&env.kindOf n==some .cell) then (n,NameKind.cell) else (n,k))=some k:=h
  by_cases c:(j==NameKind.free&&env.scope.kind==.function&&env.kindOf n==some .cell)=true
  ·rw[AH c,B6]at h'
   simp only[AM]at c
   have ej:j=.free:=by simpa using c.1.1
   cases hy:x==n with
   |true =>
    have e1:x=n:=by simpa using hy
    subst e1 ej
    exact AJ
   |false=>rw[hy]at h';exact AK _ (VU hr hk h')
  ·rw[AE c,B6]at h'
   cases hy:x==n with
   |true =>
    rw[hy]at h'
    have e1:x=n:=by simpa using hy
    have e2:j=k:=by simpa using h'
    subst e1 e2
    rcases hk with hk|hk
    ·exact absurd hk hj
    ·subst hk;exact AJ
   |false=>rw[hy]at h';exact AK _ (VU hr hk h')
theorem pE{env:Env}:∀{names:List (Str×NameKind)}{x:Str},names.lookup x=some .free ->
  (names.map λ(n,k)=>if (k==NameKind.free&&env.scope.kind==.function&&env.kindOf n==some .cell) then (n,NameKind.cell) else (n,k)).lookup x=some .cell ∨
  (names.map λ(n,k)=>if (k==NameKind.free&&env.scope.kind==.function&&env.kindOf n==some .cell) then (n,NameKind.cell) else (n,k)).lookup x=some .free
 |[],_,h=>by simp at h
 |(n,j)::r,x,h=>by
  have key:∀(z:Str×NameKind),z=(if (j==NameKind.free&&env.scope.kind==.function&&env.kindOf n==some .cell)=true then (n,NameKind.cell) else (n,j)) ->
   (List.lookup x (z::r.map λ(n,k)=>if (k==NameKind.free&&env.scope.kind==.function&&env.kindOf n==some .cell) then (n,NameKind.cell) else (n,k))=some .cell ∨
    List.lookup x (z::r.map λ(n,k)=>if (k==NameKind.free&&env.scope.kind==.function&&env.kindOf n==some .cell) then (n,NameKind.cell) else (n,k))=some .free):=by
   intro z hz
   rw[B6]at h
   cases hy:x==n with
   |true =>
    rw[hy]at h
    have e2:j=.free:=by simpa using h
    subst e2
    by_cases c:(NameKind.free==NameKind.free&&env.scope.kind==.function&&env.kindOf n==some .cell)=true
    ·rw[AH c]at hz;subst hz;left;rw[B6,hy]
    ·rw[AE c]at hz;subst hz;right;rw[B6,hy]
   |false =>
    rw[hy]at h
    have ih:=pE (env:=env) h
    have hz1:z.1=n:=by rw[hz];split<;>rfl
    obtain⟨z1,z2⟩:=z
    simp only at hz1
    subst hz1
    rw[B6,hy]
    exact ih
  exact key _ rfl
structure Bk where
 C:Addr
 s:Shared
 H:Hp
 ex:List Addr
abbrev JP(X:Cx)(N':List Str)(scope:Scope)(b:Bk):Cx :=
 { X with N:=N',s₀:=b.s,H₀:=b.H,env:=compEnvC scope (Kx X.env.cells scope.names []) b.C X.env,outer:=X.stack,stack:=X.stack,ex:=b.ex,fn:=λ_=>false,pn:=[],xe:=λ_ _=>False }
structure Iu(X:Cx)(N':List Str)(src:List (Option Nat))(scope:Scope):Prop where
 kind:scope.kind=.function
 nocell:∀y∈scope.names,y.2≠.cell
 names:∀y∈scope.names,y.2=.local->scope.names.lookup y.1=some .local
 frees:∀y∈scope.names,y.2=.free->X.env.kindOf y.1=some .cell∨X.env.kindOf y.1=some .free
 len:src.length=N'.length
 out:∀i j:Nat,src[i]?=some (some j)->∃x:Str,N'[i]?=some x/\X.N[j]?=some x/\scope.names.lookup x=some .free
def entry(src:List (Option Nat))(σ:St):St:=src.map λo=>o.bind λj=>(σ[j]?).bind id
def R9(X:Cx)(ifs:List Expr)(t:TT):Prop :=
 ∀(Fo:List (Addr×Obj))(s:Shared)(σ:St)(H:Hp)(Q:Bool->Hp->Prop),Inv X Fo σ H s->t σ H Q ->
  wpAny (model X.prog X.w) X.A (forIn ifs true λc r=>if r=true then do let ok <-isTrue c X.env (eval c X.env);pure (ForInStep.yield ok) else pure (ForInStep.yield r)) (TP X Fo σ Q) X.xe s
def Ot:TT:=λ_ H Q=>Q true H
theorem Jh{X:Cx}:R9 X [] Ot:=λ_ _ _ H _ I h=>wpAny_tests_nil ⟨H,I,h⟩
theorem Pq{X:Cx}{c:Expr}{t:TT}(h:PT X c t):R9 X [c] t:=λFo s σ H Q I q=>wpAny_tests_one (h Fo s σ H Q I q)
def N6(src:List (Option Nat))(wi:TI)(g:Bk->TG)(tc:Bk->TT)(te:Bk->TE):TE:=λσ H Q=>wi σ H λJ H1=>∀(b:Bk)(D:Addr),H1 D=none ->
 ∃W:Nat->Nat->St->Hp->Prop,(∃m,W 0 m (entry src σ) (Gi H1 D (.lst [])))/\∀i m σ' H',W i m σ' H' ->
  (J.stop i H'/\Q (.ref D) H')∨(J.go i H'/\∃N:St->Hp->Prop,(∀σ'' H'',N σ'' H''->∃m',m'<m/\W (i+1) m' σ'' H'') /\
   ∀x H'',J.yld i H' x H''->g b x σ' H'' λσ2 H2=>tc b σ2 H2 λok H3=>if ok=true then te b σ2 H3 λy H4=>∃ys,H4 D=some (.lst ys)/\ys.length<sizeLine/\N σ2 (Gi H4 D (.lst (ys++[y]))) else N σ2 H3)
section
variable{prog:Program}{w:World}{A:Around}{R:Result->Shared->Prop}{s:Shared}
theorem XW{elt target iter:Expr}{ifs:List Expr}{scope:Scope}{pos:Pos}{it acc:Value}{env:Env}(I:Nat->Shared->Prop)
  (turn:∀n s,I n s->wpAny (model prog w) A (pyNext it) (λr s₁=>match r with
   |none=>R (.ok .next) s₁
   |some v=>wpAny (model prog w) A (letOwnedTupleGo target it v) (λ_ s₁'=>wpAny (model prog w) A (assign target env v) (λ_ s₂ =>
     wpAny (model prog w) A (forIn ifs true λc r=>if r=true then do let ok <-isTrue c env (eval c env);pure (ForInStep.yield ok) else pure (ForInStep.yield r)) (λok s₃ =>
      if ok=true then wpAny (model prog w) A (eval elt env) (λx s₄ =>
       wpAny (model prog w) A (call (.builtin "list.append") [acc,x]) (λ_ s₅=>∃m,m<n/\I m s₅) (λ_ _=>False) s₄) (λ_ _=>False) s₃
      else ∃m,m<n/\I m s₃) (λ_ _=>False) s₂) (λ_ _=>False) s₁') (λ_ _=>False) s₁) (λ_ _=>False) s)
  (n:Nat) (h:I n s) :
  codeAny (model prog w) A (.compLoop (.ListComp elt [⟨target,iter,ifs,0⟩] scope pos) 0 it acc env) R s:=by
 refine codeAny_loop rfl I (λn s hI=>?_) n h
 show wpAny _ A ((compTurn (.ListComp elt [⟨target,iter,ifs,0⟩] scope pos) 0 it acc env).onRaise (λx=>do noteFrame x env;theTreesLotGoes x)) _ _ s
 refine wpAny_noted ?_
 rw[compTurn_list]
 refine AA (DM (AA (BL (turn n s hI) (λr s₁ h₁=>?_) λ_ _ h'=>h'.elim)))
 cases r with
 |none=>exact AD h₁
 |some v =>
  refine AA (BL h₁ (λ_ s₁' h₁'=>?_) λ_ _ h'=>h'.elim)
  refine AA (BL h₁' (λ_ s₂ h₂=>AA (BL h₂ (λok s₃ h₃=>?_) λ_ _ h'=>h'.elim)) λ_ _ h'=>h'.elim)
  cases ok with
  |false=>exact AD ⟨rfl,h₃⟩
  |true =>
   exact AA (AA (BL h₃ (λx s₄ h₄=>AA (BL h₄ (λ_ s₅ h₅=>AD (AD ⟨rfl,h₅⟩)) λ_ _ h'=>h'.elim)) λ_ _ h'=>h'.elim))
end
theorem SG{X:Cx}{elt tg iter:Expr}{ifs:List Expr}{scope:Scope}{pos pos':Pos}{N':List Str}{src:List (Option Nat)}{wi:TI}{g:Bk->TG}{tc:Bk->TT}{te:Bk->TE}(hc:X.calm=true)(hi:PI X tg iter wi)(S:Iu X N' src scope)
  (hg:∀b,PG (JP X N' scope b) tg (g b)) (ht:∀b,R9 (JP X N' scope b) ifs (tc b)) (he:∀b,PE (JP X N' scope b) elt (te b)) (hs:∀x,foldedSetIterable iter X.env x=pure x) (use:Option (Value->Sem Unit)) (R:Value->Shared->Prop)
  {Fo:List (Addr×Obj)} {s:Shared} {σ:St} {H:Hp} {Q:V->Hp->Prop} (I:Inv X Fo σ H s) (h:N6 src wi g tc te σ H Q)
  (fin:∀(D C:Addr)(H5:Hp)(s6:Shared)(m:Str->Option Value),s6.heap.Ns C m->KY X Fo H5 C->(∀h',Heap.SameBut C s6.heap h'->Inv X Fo σ H5 { s6 with heap:=h' })->Q (.ref D) H5->compPost (model X.prog X.w) X.A X.xe use R (.ref D) C (.ok .next) s6) :
  wpAny (model X.prog X.w) X.A (comprehension (.ListComp elt [⟨tg,iter,ifs,0⟩] scope pos) scope X.env pos' (newList []) false (eval iter X.env) use) R X.xe s:=by
 have hfr:∀x∈scope.names,x.2=.free->∃c,X.env.cells.lookup x.1=some c:=λx hx hf=>I.ok.has x.1 (S.frees x hx hf)
 have clS:∀x c,(Kx X.env.cells scope.names []).lookup x=some c->X.env.cells.lookup x=some c:=ZW hfr (λx c e=>by simp at e)
 refine wpAny_comprehension_free (use:=use) rfl hs (Wi scope.names hfr []) S.kind S.names ?_
 refine HY (hi Fo s σ H _ I h) λv s1 h1=>HY h1 λitv s2 h2=>?_
 obtain⟨it,fp,tn,J,H2,rfl,I2,T,st2,f2,h3⟩:=h2
 have hD:H2 s2.heap.objs.size=none:=I2.fresh
 refine BC ?_
 have I3:Inv X Fo σ (Gi H2 s2.heap.objs.size (.lst [])) { s2 with heap:=s2.heap.push { cls:=.type "list",data:=.seq ([]:List Value).toArray } } :=
  I2.laid (t':=s2.toks) (λb u e=>AC _ e) (AG _) ⟨Az _,[],0,.nil,AQ _ rfl⟩
 have hfp:∀b∈fp,b<s2.heap.objs.size:=λb hb=>by
  obtain⟨o,e,_⟩:=T.obj _ _ st2 b hb
  exact AR e
 have st3:tn 0 (s2.heap.push { cls:=.type "list",data:=.seq ([]:List Value).toArray }):=T.keep _ _ _ st2 λb _ o e=>AC _ e
 generalize hs3:({ s2 with heap:=s2.heap.push { cls:=.type "list",data:=.seq ([]:List Value).toArray } }:Shared)=s3 at I3 ⊢
 have st3':tn 0 s3.heap:=by rw[<-hs3];exact st3
 have hsz3:s3.heap.objs.size=s2.heap.objs.size+1:=by rw[<-hs3];exact Bz ..
 have fp3:∀b∈fp,(Gi H2 s2.heap.objs.size (.lst [])) b=none:=λb hb=>by rw[Ha (As (hfp b hb))];exact(f2 b hb).1
 generalize hDe:s2.heap.objs.size=D at *
 generalize hH3:Gi H2 D (.lst [])=H3 at *
 refine wpAny_newFunctionEnv S.nocell (by intro y hy;simp at hy) (λh₁ hns₁ hsb₁=>?_) S.kind
 have old:∀b o,s3.heap.get? b=some o->h₁.get? b=some o:=λb o e=>hsb₁.extBut b o (As (AR e)) (AC _ e)
 have Yok:(JP X N' scope ⟨s3.heap.objs.size,s3,H3,fp⟩).Ok:=by
  refine⟨I.ok.mod,S.kind,I.ok.glob,I.ok.blt,AG _,λx y c e1 e2=>I.ok.inj x y c (clS x c e1) (clS y c e2),λx hx=>?_,λx c z=>(by cases z),I.ok.hd,I.ok.frames,.inl rfl,λb hb=>⟨?_,λx c e=>(f2 b hb).2.2.2.2.1 x c (clS x c e)⟩,I3.bs,?_,λb o e hb=>?_,λb hb z=>?_,I3.stack,I3.stkFree⟩
  ·have hx':(x,NameKind.free)∈scope.names:=by
    rcases hx with hx|hx
    ·exact VU (env:=X.env) S.nocell (.inl rfl) hx
    ·exact VU (env:=X.env) S.nocell (.inr rfl) hx
   exact VW (.inr hx')
  ·exact As (Ao (hfp b hb) (by rw[hsz3];exact D9 _))
  ·exact BE I.ok.bsz I3.sz
  ·rcases (f2 b hb).2.2.2.1 with z|z
   ·exact I.ok.noex b o e z
   ·exact absurd (Ao (AR e) (BE I.ok.bsz z)) (B7 _)
  ·rcases AO.mp (I3.stkSub b z) with e|e
   ·exact(f2 b hb).2.1 e
   ·exact(f2 b hb).2.2.1 e
 generalize hY:JP X N' scope ⟨s3.heap.objs.size,s3,H3,fp⟩=Y at Yok
 have I4:Inv (JP X N' scope ⟨s3.heap.objs.size,s3,H3,fp⟩) [] (entry src σ) H3 { s3 with heap:=h₁,toks:=s3.toks+([]:List (Str×Value)).length }:=by
  subst hY
  refine⟨Yok,rfl,I3.bare,Un.kept old,⟨_,hns₁,λi x v e1 e2 e3=>?_⟩,λx c e=>?_,I3.fresh,λx c e=>I3.freeC x c (clS x c e),λp hp=>by simp at hp,I3.hok.kept old,?_⟩
  ·unfold entry at e2
   rw[Ag]at e2
   cases hsrc:src[i]? with
   |none=>rw[hsrc]at e2;cases e2
   |some o =>
    rw[hsrc]at e2
    cases o with
    |none=>have e2':some (none:Option V)=some (some v):=e2;cases e2'
    |some j =>
     have e2':some ((σ[j]?).bind id)=some (some v):=e2
     have e2'':(σ[j]?).bind id=some v:=Al e2'
     have hσ:σ[j]?=some (some v):=by
      cases q:σ[j]? with
      |none=>rw[q]at e2'';cases e2''
      |some z =>
       rw[q]at e2''
       have:z=some v:=e2''
       rw[this]
     obtain⟨x',n1,n2,n3⟩:=S.out i j hsrc
     have ex:x'=x:=Al (n1.symm.trans e1)
     subst ex
     obtain⟨m0,_,hl⟩:=I3.loc
     have hk:=S.frees (x',.free) (mem_of_lookup n3) rfl
     have hvis:Vo X.env.scope x':=hk.elim (λz=>.inr (.inl z)) λz=>.inr (.inr z)
     obtain⟨u,r,l⟩:=hl j x' v n2 hσ hvis
     refine⟨u,r,.inr ?_⟩
     rcases l with⟨l1,_⟩|⟨_,c,l2,o,l3,l4⟩
     ·rcases hk with z|z
      ·rw[show X.env.kindOf x'=some .local from l1]at z;cases z
      ·rw[show X.env.kindOf x'=some .local from l1]at z;cases z
     ·obtain⟨c',hc'⟩:=VW (cells:=X.env.cells) (names:=scope.names) (acc:=[]) (.inr (mem_of_lookup n3))
      have e4:=clS x' c' hc'
      rw[l2]at e4
      cases e4
      exact⟨pE (env:=X.env) n3,c,hc',o,old _ _ l3,l4⟩
  ·obtain⟨v,o,ho,hd⟩:=I3.cell x c (clS x c e)
   exact⟨v,o,old _ _ ho,hd⟩
  ·show(entry src σ).length=N'.length
   unfold entry
   rw[AB]
   exact S.len
 obtain⟨W,⟨m0,w0⟩,turn⟩:=h3 ⟨s3.heap.objs.size,s3,H3,fp⟩ D hD
 rw[hH3]at w0
 have loop:codeAny (model X.prog X.w) X.A (.compLoop (.ListComp elt [⟨tg,iter,ifs,0⟩] scope pos) 0 (.ref it) (.ref D) (JP X N' scope ⟨s3.heap.objs.size,s3,H3,fp⟩).env)
   (compPost (model X.prog X.w) X.A X.xe use R (.ref D) s3.heap.objs.size) { s3 with heap:=h₁,toks:=s3.toks+([]:List (Str×Value)).length }:=by
  have stat:∀{H':Hp},(∀b∈fp,H' b=none)->∀b∈fp,KY (JP X N' scope ⟨s3.heap.objs.size,s3,H3,fp⟩) [] H' b:=λhn b hb =>
   ⟨hn b hb,(I4.ok.exf b hb).1,I4.ok.exfs b hb,.inl hb,(I4.ok.exf b hb).2,λp hp=>by simp at hp⟩
  refine XW (λn s'=>∃i σ' H',Inv (JP X N' scope ⟨s3.heap.objs.size,s3,H3,fp⟩) [] σ' H' s'/\tn i s'.heap/\(∀b∈fp,H' b=none)/\W i n σ' H') ?_ m0
   ⟨0,_,H3,I4,T.keep _ _ _ st3' λb _ o e=>old b o e,fp3,w0⟩
  rintro n s5 ⟨i,σ5,H5,I5,st5,fr5,w5⟩
  rcases turn i n σ5 H5 w5 with⟨stop,qn⟩|⟨go,N,hN,step⟩
  ·refine HY (T.done (JP X N' scope ⟨s3.heap.objs.size,s3,H3,fp⟩) rfl rfl rfl hc i [] s5 σ5 H5 _ I5 (stat fr5) st5 stop) λr s6 ⟨hr,I6⟩=>?_
   subst hr
   obtain⟨m,hn,_⟩:=I6.loc
   have hC:H5 s3.heap.objs.size=none:=I6.free
   refine fin D s3.heap.objs.size H5 s6 m hn (I3.fpOk (AG _) hC) (λh' sb=>?_) qn
   have nC:∀b o,s3.heap.get? b=some o->b≠s3.heap.objs.size:=λb o e=>As (AR e)
   have keep:∀b o,b≠s3.heap.objs.size->s6.heap.get? b=some o->h'.get? b=some o:=λb o hb e=>(sb.2 b hb).trans e
   have hok:IN X.prog X.w H5 h':=λb u e=>(I6.hok b u e).stay (λc v hc q=>keep c v (by
    rcases hc with z|z
    ·rw[z];intro z2;rw[z2,hC]at e;cases e
    ·intro z2;rw[z2,hC]at z;cases z) q) (λ_ q=>q) λ_ _ q=>q
   have u6:Un (IQ X.stack) fp H3 H5 s3.heap s6.heap:=I6.base
   have un:Un (IQ X.stack) fp H3 H5 s3.heap h':=⟨λb o e n hb hx=>keep b o (nC b o e) (u6.keep b o e n hb hx),λb o e n hb hx=>by
     obtain⟨sl,q⟩:=u6.slot b o e n hb hx
     exact⟨sl,keep b _ (nC b o e) q⟩,u6.free,λb o e hx=>by
     obtain⟨o',q⟩:=u6.there b o e hx
     exact⟨o',keep b _ (nC b o e) q⟩,u6.tups,u6.frzs,u6.tbls⟩
   refine I3.call' (s':={ s6 with heap:=h' }) (ch:=fp) I6.os un hok I6.bare λb hb=>?_
   exact⟨(f2 b hb).2.2.2.1,(f2 b hb).2.1,(f2 b hb).2.2.2.2.1,(f2 b hb).2.2.2.2.2⟩
  ·refine HY (T.item (JP X N' scope ⟨s3.heap.objs.size,s3,H3,fp⟩) rfl rfl rfl hc i [] s5 σ5 H5 _ I5 (stat fr5) st5 go) λr s6 ⟨u,hr,h6⟩=>?_
   subst hr
   refine HY h6 λ_ s7 ⟨x,H7,I7,r7,y7,st7,fr7⟩=>?_
   have I7':=I7.pinned (stat fr7) (T.obj _ _ st7)
   have again:∀{σ9:St}{H9:Hp}{s9:Shared},Inv (JP X N' scope ⟨s3.heap.objs.size,s3,H3,fp⟩) ([]++Sn fp s7.heap) σ9 H9 s9->N σ9 H9->∃m,m<n/\∃i σ' H',Inv (JP X N' scope ⟨s3.heap.objs.size,s3,H3,fp⟩) [] σ' H' s9/\tn i s9.heap/\(∀b∈fp,H' b=none)/\W i m σ' H':=λ{σ9 H9 s9} I9 n9=>by
    obtain⟨m',hm,w9⟩:=hN σ9 H9 n9
    refine⟨m',hm,i+1,σ9,H9,I9.unpinned,T.keep _ _ _ st7 λb hb o e=>(I9.pin (b,o) (Ap _ (Ap _ (V6 hb e)))).1,λb hb=>?_,w9⟩
    obtain⟨o,e,d⟩:=T.obj _ _ st7 b hb
    exact(I9.pin (b,o) (Ap _ (Ap _ (V6 hb e)))).2.1
   refine HY (hg _ _ s7 σ5 H7 x u _ I7' r7 (step x H7 y7)) λ_ s8 ⟨σ8,H8,I8,q8⟩=>?_
   refine HY (ht _ _ s8 σ8 H8 _ I8 q8) λok s9 ⟨H9,I9,q9⟩=>?_
   cases ok with
   |false=>exact again I9 q9
   |true =>
    refine HY (he _ _ s9 σ8 H9 _ I9 q9) λyv s10 ⟨y,H10,I10,r10,ys,e10,l10,n10⟩=>?_
    refine HY (Lu _ s10 σ8 H10 (.ref D) [y] (.ref D) [yv] (λ_ H11=>N σ8 H11) I10 rfl (.cons r10 .nil) ⟨D,ys,y,rfl,rfl,e10,l10,n10⟩) λ_ s11 ⟨_,H11,I11,_,n11⟩=>again I11 n11
 have self:=T.self X.A 0 { s3 with heap:=h₁,toks:=s3.toks+([]:List (Str×Value)).length } (λit' s'=>codeAny (model X.prog X.w) X.A (.compLoop (.ListComp elt [⟨tg,iter,ifs,0⟩] scope pos) 0 it' (.ref D) (JP X N' scope ⟨s3.heap.objs.size,s3,H3,fp⟩).env)
   (compPost (model X.prog X.w) X.A X.xe use R (.ref D) s3.heap.objs.size) s') (notedBy (model X.prog X.w) X.A (JP X N' scope ⟨s3.heap.objs.size,s3,H3,fp⟩).env λx s'=>compPost (model X.prog X.w) X.A X.xe use R (.ref D) s3.heap.objs.size (.error x) s')
   (T.keep _ _ _ st3' λb _ o e=>old b o e) loop
 exact codeAny_compStart_list loop self
theorem JO{X:Cx}{elt tg iter:Expr}{ifs:List Expr}{scope:Scope}{pos:Pos}{N':List Str}{src:List (Option Nat)}{wi:TI}{g:Bk->TG}{tc:Bk->TT}{te:Bk->TE}(hc:X.calm=true)(hi:PI X tg iter wi)(S:Iu X N' src scope)
  (hg:∀b,PG (JP X N' scope b) tg (g b)) (ht:∀b,R9 (JP X N' scope b) ifs (tc b)) (he:∀b,PE (JP X N' scope b) elt (te b)) (hs:∀x,foldedSetIterable iter X.env x=pure x:=by intro _;rfl) :
  PE X (.ListComp elt [⟨tg,iter,ifs,0⟩] scope pos) (N6 src wi g tc te):=by
 intro Fo s σ H Q I h
 rw[eval_ListComp]
 exact SG hc hi S hg ht he hs none (EP X Fo σ Q) I h λD C H5 s6 m hn _ k q=>⟨m,hn,λh' sb=>⟨.ref D,H5,k h' sb,rfl,q⟩⟩
theorem QW{X:Cx}{elt tg iter:Expr}{ifs:List Expr}{scope:Scope}{pos spos py:Pos}{N':List Str}{src:List (Option Nat)}{wi:TI}{g:Bk->TG}{tc:Bk->TT}{te:Bk->TE}{i:Nat}{y:Str}(hN:X.N.Nodup)(hy:X.N[i]?=some y)(hx:Loc X.env.scope y)
  (hw:swapsWith (.ListComp elt [⟨tg,iter,ifs,0⟩] scope pos) (some (.Name y py)) spos.line X.env=pure true) (hc:X.calm=true) (hi:PI X tg iter wi) (S:Iu X N' src scope)
  (hg:∀b,PG (JP X N' scope b) tg (g b)) (ht:∀b,R9 (JP X N' scope b) ifs (tc b)) (he:∀b,PE (JP X N' scope b) elt (te b)) (hs:∀x,foldedSetIterable iter X.env x=pure x:=by intro _;rfl)
  (hf:X.fn y=true∨X.env.scope.names.lookup y=some .local:=by first|exact .inl rfl|exact .inr rfl|assumption) :
  PS X (.Assign [.Name y py] (.ListComp elt [⟨tg,iter,ifs,0⟩] scope pos) spos) (O7 (N6 src wi g tc te) (JA i)):=by
 intro Fo s σ H D I h
 rw[exec_Assign_Name_used _ _ _ _ hw]
 refine AA (DM (AA ?_))
 show wpAny _ X.A (do let _ <-comprehension (.ListComp elt [⟨tg,iter,ifs,0⟩] scope pos) scope X.env _ (newList []) false (eval iter X.env) (some (assign (.Name y py) X.env))) _ _ s
 refine AA (BL (SG hc hi S hg ht he hs (some (assign (.Name y py) X.env)) (λ_ s'=>SP X Fo D .next s') I h ?_) (λ_ s' hq=>AD (AD hq)) λ_ _ e=>e)
 intro L C H5 s6 m hn fp k q
 show wpAny _ X.A (assign (.Name y py) X.env (.ref L)) _ _ _
 have I6:Inv X Fo σ H5 s6:=k s6.heap ⟨rfl,λ_ _=>rfl⟩
 refine wpAny_assign_Name (Sa I6 hN hy hx (v:=.ref L) rfl (λs7 I7 ⟨a,sb,ha⟩=>?_) hf)
 have hCa:C≠a:=by
  rcases ha with rfl|ha
  ·exact fp.2.1
  ·exact λz=>fp.2.2.2.2.1 _ _ ha z.symm
 refine⟨m,hn.sameBut sb hCa,λh' sb'=>⟨_,H5,?_,q⟩⟩
 have keep:∀b o,b≠C->s7.heap.get? b=some o->h'.get? b=some o:=λb o hb e=>(sb'.2 b hb).trans e
 have hok:IN X.prog X.w H5 h':=λb u e=>(I7.hok b u e).stay (λc v hc' q'=>keep c v (by
  rcases hc' with z|z
  ·rw[z];intro z2;rw[z2,fp.1]at e;cases e
  ·intro z2;rw[z2,fp.1]at z;cases z) q') (λ_ q'=>q') λ_ _ q'=>q'
 refine I7.call' (s':={ s7 with heap:=h' }) (ch:=[C]) rfl ⟨λb o e n hb hx'=>keep b o (λz=>hx' (by rw[z];exact AJ ..)) e,λb o e n hb hx'=>⟨o.slots,keep b o (λz=>hx' (by rw[z];exact AJ ..)) e⟩,λb o e n hx'=>n,λb o e hx'=>⟨o,keep b o (λz=>hx' (by rw[z];exact AJ ..)) e⟩,λ_ _ e=>e,λ_ _ _ e=>e,λ_ ps e=>⟨#[],by rw[Array.append_empty];exact e⟩⟩ hok I7.bare λb hb=>?_
 rw[AS.mp hb]
 exact⟨fp.2.2.2.1,fp.2.1,fp.2.2.2.2.1,fp.2.2.2.2.2⟩
theorem Ql{α:Type}[Dat α]{J:It}{n:Nat}{σ0:St}{H1:Hp}{D:Addr}{Q:V->Hp->Prop}{g:TG}{tc:TT}{te:TE}(hD:H1 D=none)(Sp:St->Prop)(out:Nat->Option α)(hn:n<=sizeLine)(h0:Sp σ0)
  (hstop:∀H',Gf H1 H'->J.stop n H') (hgo:∀i H',i<n->Gf H1 H'->J.go i H')
  (IC:∀(i:Nat)(σ':St)(H':Hp)(Yes:V->St->Hp->Prop)(No:St->Hp->Prop),i<n->Sp σ'->Gf H1 H'->(∀y σ2 H4 a,Sp σ2->Gf H' H4->out i=some a->Dat.is H4 y a->Yes y σ2 H4)->(∀σ2 H3,Sp σ2->Gf H' H3->out i=none->No σ2 H3) ->
   ∀x H'',J.yld i H' x H''->g x σ' H'' λσ2 H2=>tc σ2 H2 λok H3=>if ok=true then te σ2 H3 λy H4=>Yes y σ2 H4 else No σ2 H3)
  (hend:∀H',Gf H1 H'->Gh H' D ((List.range n).filterMap out)->Q (.ref D) H') :
  ∃W:Nat->Nat->St->Hp->Prop,(∃m,W 0 m σ0 (Gi H1 D (.lst [])))/\∀i m σ' H',W i m σ' H' ->
  (J.stop i H'/\Q (.ref D) H')∨(J.go i H'/\∃N:St->Hp->Prop,(∀σ'' H'',N σ'' H''->∃m',m'<m/\W (i+1) m' σ'' H'') /\
   ∀x H'',J.yld i H' x H''->g x σ' H'' λσ2 H2=>tc σ2 H2 λok H3=>if ok=true then te σ2 H3 λy H4=>∃ys,H4 D=some (.lst ys)/\ys.length<sizeLine/\N σ2 (Gi H4 D (.lst (ys++[y]))) else N σ2 H3):=by
 have s1:∀{H':Hp}(o:HO),Gf H1 H'->Gf H1 (Gi H' D o):=λo e b u q=>by rw[Ha (Iv q hD)];exact e b u q
 refine⟨λi m σ' H'=>m=n-i/\i<=n/\Sp σ'/\Gf H1 H'/\Gh H' D ((List.range i).filterMap out),⟨n,by simp,Az _,h0,s1 _ (Gf.refl _),[],Gu,.nil⟩,?_⟩
 rintro i m σ' H' ⟨rfl,hi,hS,hH,hL⟩
 by_cases hlt:i<n
 ·refine .inr ⟨hgo i H' hlt hH,λσ2 H2=>Sp σ2/\Gf H1 H2/\Gh H2 D ((List.range (i+1)).filterMap out),λσ2 H2 ⟨a,b,c⟩=>⟨n-(i+1),by lia,rfl,hlt,a,b,c⟩,?_⟩
  obtain⟨vs,eD,iD⟩:=hL
  have lv:vs.length<=i:=by
   have:=AL iD
   have:=List.length_filterMap_le out (List.range i)
   rw[Bx]at this
   lia
  refine IC i σ' H' (λy σ2 H4=>∃ys,H4 D=some (.lst ys)/\ys.length<sizeLine/\(λσ2 H2=>Sp σ2/\Gf H1 H2/\Gh H2 D ((List.range (i+1)).filterMap out)) σ2 (Gi H4 D (.lst (ys++[y])))) _ hlt hS hH (λy σ2 H4 a a1 a2 a3 a4=>?_) (λσ2 H3 a1 a2 a3=>?_)
  ·have e4:=a2 _ _ eD
   have t4:HZ H4 (Gi H4 D (.lst (vs++[y]))):=λp ys q=>by rw[Ha (KL q e4 (by intro z;cases z))];exact q
   refine⟨vs,e4,by lia,a1,s1 _ (hH.trans a2),vs++[y],Gu,?_⟩
   rw[CO,Fx,CC,a3]
   exact Cc (Hc.mono ((HZ.same a2).trans t4) iD) (Dat.mono t4 a4)
  ·refine⟨a1,hH.trans a2,vs,a2 _ _ eD,?_⟩
   rw[CO,Fx,CC,a3]
   simpa using Hc.mono (HZ.same a2) iD
 ·have e:i=n:=by lia
  subst e
  exact .inl ⟨hstop H' hH,hend H' hH hL⟩
inductive SK
 |lst
 |tup
def SK.iter:SK->Heap->Addr->Addr->Nat->Prop
 |.lst,h,i,l,k=>h.IsListIter i l k
 |.tup,h,i,l,k=>h.IsTupleIter i l k
def SK.seq:SK->Heap->Addr->Array Value->Prop
 |.lst,h,l,xs=>h.IsList l xs
 |.tup,h,l,xs=>h.IsTuple l xs
def SK.ob:SK->Addr->Obj
 |.lst,l=>{ cls:=.type "list_iterator",data:=.fields #[.ref l,.int 0 0] }
 |.tup,l=>{ cls:=.type "tuple_iterator",data:=.fields #[.ref l,.int 0 0] }
def SK.is(K:W.Frag)(H:Hp)(l:Addr)(xs:List V):SK->Prop
 |.lst=>HK K H l xs
 |.tup=>HL K H l xs
theorem SK.iter_keep{k:SK}{h h':Heap}{i l:Addr}{n:Nat}(x:k.iter h i l n)(e:∀o,h.get? i=some o->h'.get? i=some o):k.iter h' i l n:=by
 cases k with
 |lst=>obtain⟨o,a,b⟩:=x;exact⟨o,e o a,b⟩
 |tup=>obtain⟨o,a,b⟩:=x;exact⟨o,e o a,b⟩
theorem SK.seq_keep{k:SK}{h h':Heap}{l:Addr}{xs:Array Value}(x:k.seq h l xs)(e:∀o,h.get? l=some o->h'.get? l=some o):k.seq h' l xs:=by
 cases k with
 |lst=>obtain⟨o,a,b⟩:=x;exact⟨o,e o a,b⟩
 |tup=>obtain⟨o,a,b⟩:=x;exact⟨o,e o a,b⟩
theorem SK.iter_lt{k:SK}{h:Heap}{i l:Addr}{n:Nat}(x:k.iter h i l n):i<h.objs.size:=by
 cases k with
 |lst=>obtain⟨o,a,_⟩:=x;exact AR a
 |tup=>obtain⟨o,a,_⟩:=x;exact AR a
theorem SK.iter_new{k:SK}{h:Heap}{i l:Addr}(e:h.get? i=some (k.ob l)):k.iter h i l 0:=by
 cases k with
 |lst=>exact⟨_,e,rfl,rfl⟩
 |tup=>exact⟨_,e,rfl,rfl⟩
theorem SK.at{X:Cx}{Fo:List (Addr×Obj)}{σ:St}{H:Hp}{s:Shared}{l:Addr}{xs:List V}{k:SK}(I:Inv X Fo σ H s)(h:k.is X.K H l xs):∃its:List Value,Gy xs its/\k.seq s.heap l its.toArray:=by
 cases k with
 |lst=>obtain⟨its,r,p,_⟩:=I.list h;exact⟨its,r,p.isList⟩
 |tup=>obtain⟨its,r,p,_⟩:=I.tuple h;exact⟨its,r,p⟩
theorem SK.inj{X:Cx}{Fo:List (Addr×Obj)}{σ:St}{H:Hp}{s:Shared}{l:Addr}{xs ys:List V}{k:SK}(I:Inv X Fo σ H s)(h:k.is X.K H l xs)(h':k.is X.K H l ys):xs=ys:=by
 cases k with
 |lst=>exact I.list_inj h h'
 |tup=>exact I.tuple_inj h h'
section
variable{prog:Program}{w:World}{A:Around}{E:Value->Shared->Prop}{s:Shared}
theorem Wk{it t:Addr}{i:Nat}{items:Array Value}{x:Value}{Q:Value->Shared->Prop}(hit:s.heap.IsTupleIter it t i)(ht:s.heap.IsTuple t items)(hx:items[i]?=some x)
  (hQ:∀h',h'.IsTupleIter it t (i+1)->Heap.SameBut it s.heap h'->Q x { s with heap:=h' }):wpAny (model prog w) A (Builtin.SmallTypes.nextOf (.ref it)) Q E s:=by
 obtain⟨ob,hob,hcl,hdt⟩:=id hit
 obtain⟨o2,ho2,_,n2,hd2⟩:=ht
 unfold Builtin.SmallTypes.nextOf
 refine AA (BY (name:=Str.ofString "__next__") hit.typeIs C8 (Bi C8 hit.typeIs Eo ?_ (Eb _)))
 show wpAny _ _ (field (.ref it) 0>>=λ_=>_) _ _ s
 refine AA (BI hob hdt (x:=Value.ref t) rfl ?_)
 show wpAny _ _ (if (Value.ref t==Value.none)=true then _ else (_:Sem _)) _ _ s
 rw[AE (show ¬ (Value.ref t==Value.none)=true from λz=>AY z)]
 show wpAny _ _ (field (.ref it) 1>>=λ_=>_) _ _ s
 refine AA (BI hob hdt (x:=Value.int i 0) rfl ?_)
 show wpAny _ _ (seqItems? (.ref t)>>=λ_=>_) _ _ s
 refine AA (Be ho2 hd2 ?_)
 simp only[Aw,hx]
 refine AA (Cr hob hdt (by simp) (AD ⟨x,rfl,AD (hQ _ ⟨_,BF _ hob (C4 (CY hdt _)),(D6 ..).trans hcl,?_⟩ (Di ..))⟩))
 rw[CY hdt]
 simp [rawInt]
theorem jJ{it t:Addr}{i:Nat}{items:Array Value}{Q:Value->Shared->Prop}(hh:A.handled=none)(hit:s.heap.IsTupleIter it t i)(ht:s.heap.IsTuple t items)(hx:items[i]?=none)
  (hE:∀h' e,Heap.ExtBut it s.heap h'->(∃o,h'.get? e=some o/\o.cls=.type "StopIteration")->E (.ref e) { s with heap:=h' }):wpAny (model prog w) A (Builtin.SmallTypes.nextOf (.ref it)) Q E s:=by
 obtain⟨ob,hob,hcl,hdt⟩:=id hit
 obtain⟨o2,ho2,_,n2,hd2⟩:=ht
 unfold Builtin.SmallTypes.nextOf
 refine AA (BY (name:=Str.ofString "__next__") hit.typeIs C8 (Bi C8 hit.typeIs Eo ?_ (Eb _)))
 show wpAny _ _ (field (.ref it) 0>>=λ_=>_) _ _ s
 refine AA (BI hob hdt (x:=Value.ref t) rfl ?_)
 show wpAny _ _ (if (Value.ref t==Value.none)=true then _ else (_:Sem _)) _ _ s
 rw[AE (show ¬ (Value.ref t==Value.none)=true from λz=>AY z)]
 show wpAny _ _ (field (.ref it) 1>>=λ_=>_) _ _ s
 refine AA (BI hob hdt (x:=Value.int i 0) rfl ?_)
 show wpAny _ _ (seqItems? (.ref t)>>=λ_=>_) _ _ s
 refine AA (Be ho2 hd2 ?_)
 simp only[Aw,hx]
 refine AA (Cj (AA (Cr hob hdt (by simp) ?_)))
 show wpAny _ _ (newExc (.type "StopIteration") []>>=λ_=>_) _ _ _
 refine AA ?_
 simp only[newExc,newTuple]
 refine AA (BC ?_ (by size_fits))
 refine AA (m:=firstArgMember _ _) (Ef (a:=Value.none) (by first|rfl|(simp only[firstArgMember];rfl)) (BC ?_ (by size_fits)))
 simp only[raiseNew]
 refine AA (wpAny_handled ?_)
 first|rw[show A.in1.handled=none from hh]|rw[hh]
 refine AA (AD (wpAny_throw (hE _ _ (((Di ..).extBut.push _).push _) ⟨_,AQ _ rfl,rfl⟩)))
theorem SK.next{k:SK}{it l:Addr}{i:Nat}{items:Array Value}{x:Value}{Q:Value->Shared->Prop}(hit:k.iter s.heap it l i)(hl:k.seq s.heap l items)(hx:items[i]?=some x)
  (hQ:∀h',k.iter h' it l (i+1)->Heap.SameBut it s.heap h'->Q x { s with heap:=h' }):wpAny (model prog w) A (Builtin.SmallTypes.nextOf (.ref it)) Q E s:=by
 cases k with
 |lst=>exact wpAny_nextOf_list_item hit hl hx hQ
 |tup=>exact Wk hit hl hx hQ
theorem SK.stop{k:SK}{it l:Addr}{i:Nat}{items:Array Value}{Q:Value->Shared->Prop}(hh:A.handled=none)(hit:k.iter s.heap it l i)(hl:k.seq s.heap l items)(hx:items[i]?=none)
  (hE:∀h' e,Heap.ExtBut it s.heap h'->(∃o,h'.get? e=some o/\o.cls=.type "StopIteration")->E (.ref e) { s with heap:=h' }):wpAny (model prog w) A (Builtin.SmallTypes.nextOf (.ref it)) Q E s:=by
 cases k with
 |lst=>exact wpAny_nextOf_list_end hh hit hl hx hE
 |tup=>exact jJ hh hit hl hx hE
structure VT(z TI TO i1 i2:Addr):Prop where
 a1:TI≠z
 a2:TO≠z
 a3:i1≠z
 a4:i2≠z
 a5:TI≠TO
 a6:TI≠i1
 a7:TI≠i2
 a8:TO≠i1
 a9:TO≠i2
 b1:i1≠i2
structure Ut(k1 k2:SK)(z TI TO i1 i2 l1 l2:Addr)(i:Nat)(h:Heap):Prop where
 hz:IsZip h z TI TO .none
 hTI:IsPair h TI (.ref i1) (.ref i2)
 hTO:∃a b,IsPair h TO a b
 h1:k1.iter h i1 l1 i
 h2:k2.iter h i2 l2 i
theorem oA{k1 k2:SK}{z TI TO i1 i2 l1 l2:Addr}{i:Nat}{xs ys:Array Value}{x y:Value}{Q:Option Value->Shared->Prop}(D:VT z TI TO i1 i2)(Z:Ut k1 k2 z TI TO i1 i2 l1 l2 i s.heap)(hl1:k1.seq s.heap l1 xs)(hl2:k2.seq s.heap l2 ys)
  (n1:l1≠z/\l1≠i1) (n2:l2≠z/\l2≠i1/\l2≠TO) (hx:xs[i]?=some x) (hy:ys[i]?=some y)
  (hQ:∀h',IsZip h' z TI TO (rawInt s.heap.objs.size)->IsPair h' TI (.ref i1) (.ref i2)->IsPair h' TO x y->k1.iter h' i1 l1 (i+1)->k2.iter h' i2 l2 (i+1)->IsPair h' s.heap.objs.size x y ->
   (∀c o,c≠z->c≠TO->c≠i1->c≠i2->s.heap.get? c=some o->h'.get? c=some o)->Q (some (.ref s.heap.objs.size)) { s with heap:=h' }):wpAny (model prog w) A (pyNext (.ref z)) Q E s:=by
 obtain⟨hz,hTI,⟨a,b,hTO⟩,h1,h2⟩:=Z
 have hT:s.TypeIs (.ref z) "zip" := ⟨_,hz,rfl⟩
 unfold pyNext
 refine AA (De (BY (name:=Str.ofString "__next__") hT EQ (Bi EQ hT F.entry_zip_next ?_ (F.args_zip_next_1 _))))
 show wpAny _ _ (field (.ref z) 2>>=λ_=>_) _ _ _
 refine AA (BI hz rfl (x:=Value.bool false) rfl ?_)
 show wpAny _ _ (field (.ref z) 3>>=λ_=>_) _ _ _
 refine AA (BI hz rfl (x:=Value.ref TI) rfl (AA (Be hTI rfl ?_)))
 show wpAny _ _ (Builtin.SmallTypes.ownedTupleIsFree (.ref z)>>=λ_=>_) _ _ _
 refine AA ?_
 unfold Builtin.SmallTypes.ownedTupleIsFree
 refine AA (BI hz rfl (x:=Value.none) rfl (AD ?_))
 simp only[CA]
 refine AA (Cj (AA (BI hz rfl (x:=Value.ref TO) rfl (AA (C3 hz (by simp) λh₁ hz₁ hs₁=>?_)))))
 have z1:IsZip h₁ z TI TO .ellipsis:=hz₁
 refine AA ?_
 simp only[FG,List.zipIdx_nil,Do,Fy]
 refine AA (AA (Ew ?_))
 show wpAny _ _ (Builtin.SmallTypes.nextOf (.ref i1)>>=λ_=>_) _ _ _
 refine AA (SK.next (SK.iter_keep h1 λo e=>hs₁.extBut _ _ D.a3 e) (SK.seq_keep hl1 λo e=>hs₁.extBut _ _ n1.1 e) hx λh₂ p₂ hs₂=>AD ?_)
 have t2:IsPair h₂ TO a b:=hs₂.extBut _ _ D.a8 (hs₁.extBut _ _ D.a2 hTO)
 refine AA (Be t2 rfl (AA (EV t2 λh₃ q₃ hs₃=>?_)))
 have t3:IsPair h₃ TO x b:=q₃
 refine AA (CT (AD (AA (AA (Ew ?_)))))
 show wpAny _ _ (Builtin.SmallTypes.nextOf (.ref i2)>>=λ_=>_) _ _ _
 refine AA (SK.next (SK.iter_keep h2 λo e=>hs₃.extBut _ _ D.a9.symm (hs₂.extBut _ _ D.b1.symm (hs₁.extBut _ _ D.a4 e))) (SK.seq_keep hl2 λo e=>hs₃.extBut _ _ n2.2.2 (hs₂.extBut _ _ n2.2.1 (hs₁.extBut _ _ n2.1 e))) hy λh₄ p₄ hs₄=>AD ?_)
 have t4:IsPair h₄ TO x b:=hs₄.extBut _ _ D.a9 t3
 refine AA (Be t4 rfl (AA (EV t4 λh₅ q₅ hs₅=>?_)))
 have t5:IsPair h₅ TO x y:=q₅
 refine AA (CT (AD (AD (AA (Be t5 rfl (AA (Ga ?_)))))))
 have sz:h₅.objs.size=s.heap.objs.size:=by rw[hs₅.1,hs₄.1,hs₃.1,hs₂.1,hs₁.1]
 have z5:IsZip h₅ z TI TO .ellipsis:=hs₅.extBut _ _ D.a2.symm (hs₄.extBut _ _ D.a4.symm (hs₃.extBut _ _ D.a2.symm (hs₂.extBut _ _ D.a3.symm z1)))
 have k5:∀c o,c≠z->c≠TO->c≠i1->c≠i2->s.heap.get? c=some o->h₅.get? c=some o:=λc o c1 c2 c3 c4 e=>hs₅.extBut _ _ c2 (hs₄.extBut _ _ c4 (hs₃.extBut _ _ c2 (hs₂.extBut _ _ c3 (hs₁.extBut _ _ c1 e))))
 have r1:k1.iter h₅ i1 l1 (i+1):=SK.iter_keep p₂ λo e=>hs₅.extBut _ _ D.a8.symm (hs₄.extBut _ _ D.b1 (hs₃.extBut _ _ D.a8.symm e))
 have r2:k2.iter h₅ i2 l2 (i+1):=SK.iter_keep p₄ λo e=>hs₅.extBut _ _ D.a9.symm e
 show wpAny _ _ (Builtin.SmallTypes.ownedTupleHandOut (.ref z) (.ref h₅.objs.size)>>=λ_=>_) _ _ _
 refine AA ?_
 unfold Builtin.SmallTypes.ownedTupleHandOut
 have z6:IsZip (h₅.push { cls:=.type "tuple",data:=.seq #[x,y] }) z TI TO .ellipsis:=AC _ z5
 refine AA (C3 z6 (by simp) λh₇ q₇ hs₇=>?_)
 have z7:IsZip h₇ z TI TO (rawInt h₅.objs.size):=q₇
 refine C3 z7 (by simp) λh₈ q₈ hs₈=>?_
 have z8:IsZip h₈ z TI TO (rawInt h₅.objs.size):=q₈
 have zlt:z<h₅.objs.size:=AR z5
 have up:∀c o,c≠z->h₅.get? c=some o->h₈.get? c=some o:=λc o c1 e=>hs₈.extBut _ _ c1 (hs₇.extBut _ _ c1 (AC _ e))
 have t8:IsPair h₈ h₅.objs.size x y:=hs₈.extBut _ _ (CG zlt) (hs₇.extBut _ _ (CG zlt) (AQ _ rfl))
 rw[sz]at z8 t8
 refine AD ⟨_,rfl,?_⟩
 show wpAny _ _ _ _ _ _
 refine AD ?_
 have fin:=hQ h₈ z8 (up _ _ D.a1 (k5 _ _ D.a1 D.a5 D.a6 D.a7 hTI)) (up _ _ D.a2 t5) (SK.iter_keep r1 λo e=>up _ o D.a3 e) (SK.iter_keep r2 λo e=>up _ o D.a4 e) t8 λc o c1 c2 c3 c4 e=>up c o c1 (k5 c o c1 c2 c3 c4 e)
 show Q (some (.ref h₅.objs.size)) _
 rw[sz]
 exact fin
theorem aM{k1 k2:SK}{z TI TO i1 i2 l1 l2:Addr}{i:Nat}{xs ys:Array Value}{Q:Option Value->Shared->Prop}(hh:A.handled=none)(D:VT z TI TO i1 i2)(Z:Ut k1 k2 z TI TO i1 i2 l1 l2 i s.heap)(hl1:k1.seq s.heap l1 xs)(hl2:k2.seq s.heap l2 ys)
  (n1:l1≠z/\l1≠i1) (n2:l2≠z/\l2≠i1/\l2≠TO) (hend:xs[i]?=none∨ys[i]?=none)
  (hQ:∀h',(∀c o,c≠z->c≠TO->c≠i1->c≠i2->s.heap.get? c=some o->h'.get? c=some o)->Q none { s with heap:=h' }):wpAny (model prog w) A (pyNext (.ref z)) Q E s:=by
 obtain⟨hz,hTI,⟨a,b,hTO⟩,h1,h2⟩:=Z
 have hT:s.TypeIs (.ref z) "zip" := ⟨_,hz,rfl⟩
 have stop:∀(h':Heap)(e:Addr),(∃o,h'.get? e=some o/\o.cls=.type "StopIteration")->(∀c o,c≠z->c≠TO->c≠i1->c≠i2->s.heap.get? c=some o->h'.get? c=some o) ->
   wpAny (model prog w) A (isInstance (.ref e) (.type "StopIteration")>>=λb=>if b=true then pure none else throw (.ref e)) Q E { s with heap:=h' }:=by
  rintro h' e ⟨o,ho,hc⟩ hk
  exact AA (FL (T := "StopIteration") (b:=true) ⟨o,ho,hc⟩ GZ (AD (hQ _ hk)))
 unfold pyNext
 refine AA (De (BY (name:=Str.ofString "__next__") hT EQ (Bi EQ hT F.entry_zip_next ?_ (F.args_zip_next_1 _))))
 show wpAny _ _ (field (.ref z) 2>>=λ_=>_) _ _ _
 refine AA (BI hz rfl (x:=Value.bool false) rfl ?_)
 show wpAny _ _ (field (.ref z) 3>>=λ_=>_) _ _ _
 refine AA (BI hz rfl (x:=Value.ref TI) rfl (AA (Be hTI rfl ?_)))
 show wpAny _ _ (Builtin.SmallTypes.ownedTupleIsFree (.ref z)>>=λ_=>_) _ _ _
 refine AA ?_
 unfold Builtin.SmallTypes.ownedTupleIsFree
 refine AA (BI hz rfl (x:=Value.none) rfl (AD ?_))
 simp only[CA]
 refine AA (Cj (AA (BI hz rfl (x:=Value.ref TO) rfl (AA (C3 hz (by simp) λh₁ hz₁ hs₁=>?_)))))
 have z1:IsZip h₁ z TI TO .ellipsis:=hz₁
 refine AA ?_
 simp only[FG,List.zipIdx_nil,Do,Fy]
 refine AA (AA (Ew ?_))
 show wpAny _ _ (Builtin.SmallTypes.nextOf (.ref i1)>>=λ_=>_) _ _ _
 cases hx:xs[i]? with
 |none =>
  refine AA (SK.stop hh (SK.iter_keep h1 λo e=>hs₁.extBut _ _ D.a3 e) (SK.seq_keep hl1 λo e=>hs₁.extBut _ _ n1.1 e) hx λh₂ e hs₂ he=>?_)
  obtain⟨oe,hoe,hce⟩:=he
  have z2:IsZip h₂ z TI TO .ellipsis:=hs₂ _ _ D.a3.symm z1
  have ez:e≠z:=λq=>by subst q;rw[z2]at hoe;cases hoe;simp at hce
  refine C3 z2 (by simp) λh₃ _ hs₃=>?_
  exact stop h₃ e ⟨oe,hs₃.extBut _ _ ez hoe,hce⟩ λc o c1 _ c3 _ q=>hs₃.extBut _ _ c1 (hs₂ _ _ c3 (hs₁.extBut _ _ c1 q))
 |some x =>
  have hy:ys[i]?=none:=by
   rcases hend with h|h
   ·rw[hx]at h;cases h
   ·exact h
  refine AA (SK.next (SK.iter_keep h1 λo e=>hs₁.extBut _ _ D.a3 e) (SK.seq_keep hl1 λo e=>hs₁.extBut _ _ n1.1 e) hx λh₂ p₂ hs₂=>AD ?_)
  have t2:IsPair h₂ TO a b:=hs₂.extBut _ _ D.a8 (hs₁.extBut _ _ D.a2 hTO)
  refine AA (Be t2 rfl (AA (EV t2 λh₃ q₃ hs₃=>?_)))
  refine AA (CT (AD (AA (AA (Ew ?_)))))
  show wpAny _ _ (Builtin.SmallTypes.nextOf (.ref i2)>>=λ_=>_) _ _ _
  refine AA (SK.stop hh (SK.iter_keep h2 λo e=>hs₃.extBut _ _ D.a9.symm (hs₂.extBut _ _ D.b1.symm (hs₁.extBut _ _ D.a4 e))) (SK.seq_keep hl2 λo e=>hs₃.extBut _ _ n2.2.2 (hs₂.extBut _ _ n2.2.1 (hs₁.extBut _ _ n2.1 e))) hy λh₄ e hs₄ he=>?_)
  obtain⟨oe,hoe,hce⟩:=he
  have z4:IsZip h₄ z TI TO .ellipsis:=hs₄ _ _ D.a4.symm (hs₃.extBut _ _ D.a2.symm (hs₂.extBut _ _ D.a3.symm z1))
  have ez:e≠z:=λq=>by subst q;rw[z4]at hoe;cases hoe;simp at hce
  refine C3 z4 (by simp) λh₅ _ hs₅=>?_
  exact stop h₅ e ⟨oe,hs₅.extBut _ _ ez hoe,hce⟩ λc o c1 c2 c3 c4 q=>hs₅.extBut _ _ c1 (hs₄ _ _ c4 (hs₃.extBut _ _ c2 (hs₂.extBut _ _ c3 (hs₁.extBut _ _ c1 q))))
end
abbrev VY(k1:SK)(h:Heap)(l1:Addr):Heap:=h.push (k1.ob l1)
abbrev Vl(k1 k2:SK)(h:Heap)(l1 l2:Addr):Heap:=(VY k1 h l1).push (k2.ob l2)
abbrev V8(k1 k2:SK)(h:Heap)(l1 l2:Addr):Heap:=(Vl k1 k2 h l1 l2).push { cls:=.type "tuple",data:=.seq #[.ref h.objs.size,.ref (VY k1 h l1).objs.size] }
abbrev VA(k1 k2:SK)(h:Heap)(l1 l2:Addr):Heap:=(V8 k1 k2 h l1 l2).push { cls:=.type "tuple",data:=.seq #[.none,.none] }
abbrev Oq(k1 k2:SK)(h:Heap)(l1 l2:Addr):Heap:=(VA k1 k2 h l1 l2).push { cls:=.type "zip",data:=.fields #[.none,.bool false,.bool false,.ref (Vl k1 k2 h l1 l2).objs.size,.ref (V8 k1 k2 h l1 l2).objs.size] }
theorem SK.seq_push{k:SK}{h:Heap}{l:Addr}{xs:Array Value}(x:k.seq h l xs)(o:Obj):k.seq (h.push o) l xs:=SK.seq_keep x λ_ e=>AC _ e
set_option maxHeartbeats 8000000 in
theorem XQ(k1 k2:SK)(l1 l2:Addr)(xs ys:Array Value) :
  Meets (Builtin.«zip.__new__» ⟨[.type "zip",.ref l1,.ref l2],[]⟩) (λ_ R s=>k1.seq s.heap l1 xs/\k2.seq s.heap l2 ys/\R (.ok (.ret (.ref (VA k1 k2 s.heap l1 l2).objs.size))) { s with heap:=Oq k1 k2 s.heap l1 l2 }) :=
 .of_wp λprog w A R s h=>by
  obtain⟨hp,g,d,tk,os⟩:=s
  obtain⟨hl1,hl2,h⟩:=h
  have hsub:=sub_zip
  have q1:k1.seq (Shared.heap ⟨hp,g,d,tk,os⟩) l1 xs:=hl1
  have q2:k2.seq (Shared.heap ⟨hp.push (k1.ob l1),g,d,tk,os⟩) l2 ys:=SK.seq_push hl2 _
  cases k1 with
  |lst =>
   cases k2 with
   |lst =>
    have w1:Heap.IsList (Shared.heap ⟨hp,g,d,tk,os⟩) l1 xs:=q1
    have w2:Heap.IsList (Shared.heap ⟨hp.push { cls:=.type "list_iterator",data:=.fields #[.ref l1,.int 0 0] },g,d,tk,os⟩) l2 ys:=q2
    wp_walk using CL w1,CL w2
    exact⟨_,rfl,h⟩
   |tup =>
    have w1:Heap.IsList (Shared.heap ⟨hp,g,d,tk,os⟩) l1 xs:=q1
    have w2:Heap.IsTuple (Shared.heap ⟨hp.push { cls:=.type "list_iterator",data:=.fields #[.ref l1,.int 0 0] },g,d,tk,os⟩) l2 ys:=q2
    wp_walk using CL w1,Br w2
    exact⟨_,rfl,h⟩
  |tup =>
   cases k2 with
   |lst =>
    have w1:Heap.IsTuple (Shared.heap ⟨hp,g,d,tk,os⟩) l1 xs:=q1
    have w2:Heap.IsList (Shared.heap ⟨hp.push { cls:=.type "tuple_iterator",data:=.fields #[.ref l1,.int 0 0] },g,d,tk,os⟩) l2 ys:=q2
    wp_walk using Br w1,CL w2
    exact⟨_,rfl,h⟩
   |tup =>
    have w1:Heap.IsTuple (Shared.heap ⟨hp,g,d,tk,os⟩) l1 xs:=q1
    have w2:Heap.IsTuple (Shared.heap ⟨hp.push { cls:=.type "tuple_iterator",data:=.fields #[.ref l1,.int 0 0] },g,d,tk,os⟩) l2 ys:=q2
    wp_walk using Br w1,Br w2
    exact⟨_,rfl,h⟩
theorem dE(n:Nat):VT (n+4) (n+2) (n+3) n (n+1):=by
 constructor<;>(show(_:Nat)≠_)<;>lia
theorem bK{k1 k2:SK}{l1 l2:Addr}{xs ys:Array Value}{Q:Value->Shared->Prop}{prog:Program}{w:World}{A:Around}{E:Value->Shared->Prop}{s:Shared}(hl1:k1.seq s.heap l1 xs)(hl2:k2.seq s.heap l2 ys)
  (h:∀h',Ut k1 k2 (s.heap.objs.size+4) (s.heap.objs.size+2) (s.heap.objs.size+3) s.heap.objs.size (s.heap.objs.size+1) l1 l2 0 h'->(∀c o,s.heap.get? c=some o->h'.get? c=some o)->Q (.ref (s.heap.objs.size+4)) { s with heap:=h' }) :
  wpAny (model prog w) A (call (.type "zip") [.ref l1,.ref l2]) Q E s:=by
 refine callType_new F.called_zip (by decide) (F.typeCall_zip_2 _ _) (F.newCall_zip_2 _ _) (λobj=>F.args_object_init_3 obj _ _) F.entry_zip_new (XQ k1 k2 l1 l2 xs ys) ⟨hl1,hl2,?_⟩
 have e1:(VY k1 s.heap l1).objs.size=s.heap.objs.size+1:=Bz ..
 have e2:(Vl k1 k2 s.heap l1 l2).objs.size=s.heap.objs.size+2:=by rw[Bz,e1]
 have e3:(V8 k1 k2 s.heap l1 l2).objs.size=s.heap.objs.size+3:=by rw[Bz,e2]
 have e4:(VA k1 k2 s.heap l1 l2).objs.size=s.heap.objs.size+4:=by rw[Bz,e3]
 have g5:(Oq k1 k2 s.heap l1 l2).get? (VA k1 k2 s.heap l1 l2).objs.size=some _:=AQ _ rfl
 have g4:(Oq k1 k2 s.heap l1 l2).get? (V8 k1 k2 s.heap l1 l2).objs.size=some _:=AC _ (AQ _ rfl)
 have g3:(Oq k1 k2 s.heap l1 l2).get? (Vl k1 k2 s.heap l1 l2).objs.size=some _:=AC _ (AC _ (AQ _ rfl))
 have f2:(k2.ob l2).isFreed=false:=by cases k2<;>rfl
 have f1:(k1.ob l1).isFreed=false:=by cases k1<;>rfl
 have g2:(Oq k1 k2 s.heap l1 l2).get? (VY k1 s.heap l1).objs.size=some (k2.ob l2):=AC _ (AC _ (AC _ (AQ _ f2)))
 have g1:(Oq k1 k2 s.heap l1 l2).get? s.heap.objs.size=some (k1.ob l1):=AC _ (AC _ (AC _ (AC _ (AQ _ f1))))
 have fin:=h (Oq k1 k2 s.heap l1 l2) ⟨by rw[e2,e3,e4]at g5;exact g5,by rw[e1,e2]at g3;exact g3,⟨_,_,by rw[e3]at g4;exact g4⟩,SK.iter_new g1,SK.iter_new (by rw[e1]at g2;exact g2)⟩
  λc o e=>AC _ (AC _ (AC _ (AC _ (AC _ e))))
 rw[<-e4]at fin
 exact⟨⟨_,g5,rfl⟩,fin⟩
def Uq(K:W.Frag)(k1 k2:SK)(a b:Addr):It :=
 ⟨λi H=>∃xs ys x y,k1.is K H a xs/\k2.is K H b ys/\xs[i]?=some x/\ys[i]?=some y,
  λi H v H'=>∃p x y,v=.ref p/\H p=none/\H'=Gi H p (.tup [x,y])/\(∀xs,k1.is K H a xs->xs[i]?=some x)/\∀ys,k2.is K H b ys->ys[i]?=some y,
  λi H=>∃xs ys,k1.is K H a xs/\k2.is K H b ys/\(xs.length<=i∨ys.length<=i)⟩
theorem KS{X:Cx}{Fo:List (Addr×Obj)}{σ:St}{H:Hp}{s:Shared}{a c:Addr}{xs:List V}{k:SK}(I:Inv X Fo σ H s)(h:k.is X.K H a xs)(f:KY X Fo H c):a≠c:=by
 intro e
 subst e
 have known:∀o,X.K.lookup a=some o->False:=λo q=>by
  have e:=I.ok.mod.kin a o q
  rcases f.2.2.2.1 with z|z
  ·exact I.ok.noex a o e z
  ·exact absurd (Ao (AR e) (BE I.ok.bsz z)) (B7 _)
 cases k with
 |lst =>
  rcases h with(h|⟨o,h⟩)|⟨o,_,_,q,_⟩
  ·rw[f.1]at h;cases h
  ·rw[f.1]at h;cases h
  ·exact known o q
 |tup =>
  rcases h with(h|⟨o,h⟩)|⟨o,_,_,q,_⟩
  ·rw[f.1]at h;cases h
  ·rw[f.1]at h;cases h
  ·exact known o q
theorem U0{X:Cx}{Fo:List (Addr×Obj)}{σ:St}{H H':Hp}{s:Shared}{h':Heap}{t':Nat}{ch:List Addr}(I:Inv X Fo σ H s)(hf:∀b∈ch,KY X Fo H b)(k:∀b o,b∉ch->s.heap.get? b=some o->h'.get? b=some o)
  (new:∀b,b<s.heap.objs.size->H' b=H b) (hok:IN X.prog X.w H' h'):Inv X Fo σ H' { s with heap:=h',toks:=t' }:=by
 have lt:∀{b u},H b=some u->b<s.heap.objs.size:=λe=>I.hok.lt e
 refine I.step (g':=s.gens) (d':=s.drawn) (ch:=ch) (λb hb=>⟨(hf b hb).2.2.2.1,(hf b hb).2.1,(hf b hb).2.2.2.2.1,(hf b hb).2.2.2.2.2⟩) (λb o _ _ hc e _=>k b o hc e) (λb o _ _ hc e _=>⟨o.slots,k b o hc e⟩) (λb o _ e n=>by rw[new b (AR e)];exact n)
  (λb o hc e=>⟨o,k b o hc e⟩) (λb xs e=>by rw[new b (lt e)];exact e) (λb o u e=>by rw[new b (lt e)];exact e) (λb ps e=>⟨#[],by rw[new b (lt e),e];simp⟩) (λm hm=>?_) hok I.bare
 obtain⟨o,es,ep,ho,r⟩:=hm
 exact⟨o,es,ep,k _ o (λz=>(hf _ z).2.1 rfl) ho,r⟩
theorem Yc{P:Program}{w:World}{K:W.Frag}{elts:List Expr}{x1}{pos:Pos}(k1 k2:SK)(a b z TI TO i1 i2:Addr)(D:VT z TI TO i1 i2) :
  Js P w K (.Tuple elts x1 pos) (Uq K k1 k2 a b) [z,TI,TO,i1,i2] z (λi h=>Ut k1 k2 z TI TO i1 i2 a b i h) where
 mem:=by simp
 obj:=λi h st c hc=>by
  obtain⟨hz,hTI,⟨u,v,hTO⟩,h1,h2⟩:=st
  have it:∀{k:SK}{i l:Addr}{n:Nat},k.iter h i l n->∃o,h.get? i=some o/\∀v,o.data≠.cell v:=λ{k i l n} x=>by
   cases k with
   |lst=>obtain⟨o,e,_,d⟩:=x;exact⟨o,e,λv q=>by rw[d]at q;cases q⟩
   |tup=>obtain⟨o,e,_,d⟩:=x;exact⟨o,e,λv q=>by rw[d]at q;cases q⟩
  simp only[AO,Bg,DG]at hc
  rcases hc with rfl|rfl|rfl|rfl|rfl
  ·exact⟨_,hz,λv q=>by cases(show Data.fields _=Data.cell v from q)⟩
  ·exact⟨_,hTI,λv q=>by cases(show Data.seq _ _=Data.cell v from q)⟩
  ·exact⟨_,hTO,λv q=>by cases(show Data.seq _ _=Data.cell v from q)⟩
  ·exact it h1
  ·exact it h2
 keep:=λi h h' st k=>by
  obtain⟨hz,hTI,⟨u,v,hTO⟩,h1,h2⟩:=st
  exact⟨k z (by simp) _ hz,k TI (by simp) _ hTI,⟨u,v,k TO (by simp) _ hTO⟩,SK.iter_keep h1 λo e=>k i1 (by simp) o e,SK.iter_keep h2 λo e=>k i2 (by simp) o e⟩
 item:=by
  intro X hP hw hK hc i Fo s σ H E I hf st hg
  subst hP hw hK
  obtain⟨xs,ys,x,y,q1,q2,hx,hy⟩:=hg
  obtain⟨its,r1,p1⟩:=SK.at I q1
  obtain⟨its',r2,p2⟩:=SK.at I q2
  obtain⟨u,hu,ru⟩:=r1.get hx
  obtain⟨v,hv,rv⟩:=r2.get hy
  have fz:=hf z (by simp)
  have fTO:=hf TO (by simp)
  have f1:=hf i1 (by simp)
  have f2:=hf i2 (by simp)
  refine oA D st p1 p2 ⟨KS I q1 fz,KS I q1 f1⟩ ⟨KS I q2 fz,KS I q2 f1,KS I q2 fTO⟩ (x:=u) (y:=v) (by simpa using hu) (by simpa using hv) λh' a1 a2 a3 a4 a5 a6 a7=>?_
  refine⟨_,rfl,wpAny_letOwnedTupleGo_zip (s:={ s with heap:=h' }) a1 λh'' b1 b2=>?_⟩
  have kp:∀c o,c∉[z,TO,i1,i2]->s.heap.get? c=some o->h''.get? c=some o:=λc o hc e=>by
   simp only[AO,Bg,DG,not_or]at hc
   exact b2.extBut _ _ hc.1 (a7 c o hc.1 hc.2.1 hc.2.2.1 hc.2.2.2 e)
  have zlt:z<s.heap.objs.size:=AR st.hz
  have hT:IsPair h'' s.heap.objs.size u v:=b2.extBut _ _ (CG zlt) a6
  have hf4:∀c∈[z,TO,i1,i2],KY X Fo H c:=λc hc=>by
   simp only[AO,Bg,DG]at hc
   rcases hc with rfl|rfl|rfl|rfl
   ·exact fz
   ·exact fTO
   ·exact f1
   ·exact f2
  have hn:H s.heap.objs.size=none:=I.fresh
  have hok:IN X.prog X.w (Gi H s.heap.objs.size (.tup [x,y])) h'':=λc o e=>by
   by_cases hc:c=s.heap.objs.size
   ·subst hc
    rw[Gu]at e
    cases e
    exact⟨by show 2<=sizeLine;decide,[u,v],.cons ru (.cons rv .nil),⟨_,hT,rfl,_,rfl,rfl⟩⟩
   ·rw[Ha hc]at e
    refine(I.hok c o e).stay (λd v2 hd q=>kp d v2 (λm=>?_) q) (λd q=>by rw[Ha (Iv q hn)];exact q) λd xs q=>by rw[Ha (Iv q hn)];exact q
    have z:=(hf4 d m).1
    rcases hd with rfl|hd
    ·rw[e]at z;cases z
    ·rw[hd]at z;cases z
  have I9:Inv X Fo σ (Gi H s.heap.objs.size (.tup [x,y])) { s with heap:=h'',toks:=s.toks }:=U0 (s:=s) I hf4 kp (λc hc=>Ha (As hc)) hok
  refine⟨.ref s.heap.objs.size,Gi H s.heap.objs.size (.tup [x,y]),I9,rfl,⟨s.heap.objs.size,x,y,rfl,hn,rfl,λzs hz=>by rw[SK.inj I hz q1];exact hx,λzs hz=>by rw[SK.inj I hz q2];exact hy⟩,?_,λc hc=>?_⟩
  ·exact⟨b1,b2.extBut _ _ D.a1 a2,⟨u,v,b2.extBut _ _ D.a2 a3⟩,SK.iter_keep a4 λo e=>b2.extBut _ _ D.a3 e,SK.iter_keep a5 λo e=>b2.extBut _ _ D.a4 e⟩
  ·obtain⟨o,e⟩:∃o,s.heap.get? c=some o:=by
    obtain⟨hz,hTI,⟨u,v,hTO⟩,h1,h2⟩:=st
    simp only[AO,Bg,DG]at hc
    rcases hc with rfl|rfl|rfl|rfl|rfl
    ·exact⟨_,hz⟩
    ·exact⟨_,hTI⟩
    ·exact⟨_,hTO⟩
    ·cases k1 with
     |lst=>obtain⟨o,e,_⟩:=h1;exact⟨o,e⟩
     |tup=>obtain⟨o,e,_⟩:=h1;exact⟨o,e⟩
    ·cases k2 with
     |lst=>obtain⟨o,e,_⟩:=h2;exact⟨o,e⟩
     |tup=>obtain⟨o,e,_⟩:=h2;exact⟨o,e⟩
   rw[Ha (As (AR e))]
   exact(hf c hc).1
 done:=by
  intro X hP hw hK hc i Fo s σ H E I hf st hg
  subst hP hw hK
  obtain⟨xs,ys,q1,q2,hx⟩:=hg
  obtain⟨its,r1,p1⟩:=SK.at I q1
  obtain⟨its',r2,p2⟩:=SK.at I q2
  have fz:=hf z (by simp)
  have fTO:=hf TO (by simp)
  have f1:=hf i1 (by simp)
  have f2:=hf i2 (by simp)
  have l1:=r1.length
  have l2:=r2.length
  refine aM (I.ok.hd hc) D st p1 p2 ⟨KS I q1 fz,KS I q1 f1⟩ ⟨KS I q2 fz,KS I q2 f1,KS I q2 fTO⟩ (hx.imp (λq=>by simp;lia) λq=>by simp;lia) λh' a7=>⟨rfl,?_⟩
  have hf4:∀c∈[z,TO,i1,i2],KY X Fo H c:=λc hc=>by
   simp only[AO,Bg,DG]at hc
   rcases hc with rfl|rfl|rfl|rfl
   ·exact fz
   ·exact fTO
   ·exact f1
   ·exact f2
  have kp:∀c o,c∉[z,TO,i1,i2]->s.heap.get? c=some o->h'.get? c=some o:=λc o hc e=>by
   simp only[AO,Bg,DG,not_or]at hc
   exact a7 c o hc.1 hc.2.1 hc.2.2.1 hc.2.2.2 e
  refine U0 (h':=h') (t':=s.toks) I hf4 kp (λc _=>rfl) λc o e=>?_
  refine(I.hok c o e).stay (λd v2 hd q=>kp d v2 (λm=>?_) q) (λd q=>q) λd xs q=>q
  have z:=(hf4 d m).1
  rcases hd with rfl|hd
  ·rw[e]at z;cases z
  ·rw[hd]at z;cases z
 self:=λ_ _ _ _ _ st h=>wpAny_pyIter_zip st.hz h
def WZ(K:W.Frag)(k1 k2:SK)(ta:TA):TI:=λσ H R=>ta σ H λvs H1=>∃a b,vs=[.ref a,.ref b]/\(∃xs,k1.is K H1 a xs)/\(∃ys,k2.is K H1 b ys)/\R (Uq K k1 k2 a b) H1
theorem OE{X:Cx}{ea eb:Expr}{ta:TA}{p pos tp:Pos}{elts:List Expr}{x1}(k1 k2:SK)(hg:Gl X "zip")(hm:X.mg "zip" = none)(ha:PA X [ea,eb] ta)(hs:starEach [ea,eb] X.env=(false,eval ea X.env)::starEach [eb] X.env:=by rfl)(hs2:(backTo pos (starEach [eb] X.env)).any (·.1)=false:=by rfl) :
  PI X (.Tuple elts x1 tp) (.Call (.Name "zip" p) [ea,eb] [] pos) (WZ X.K k1 k2 ta):=by
 intro Fo s σ H R I h
 refine Call_ (Jj I hg hm boot_zip (BM (HY (ha pos Fo s σ H _ I h) λus s1 ⟨vs,H1,I1,r1,q1⟩=>?_) hs hs2))
 obtain⟨a,b,rfl,⟨xs,ex⟩,⟨ys,ey⟩,q⟩:=q1
 obtain⟨u,v,rfl,ru,rv⟩:=K0 r1
 cases ru
 cases rv
 obtain⟨its,r1,p1⟩:=SK.at I1 ex
 obtain⟨its',r2,p2⟩:=SK.at I1 ey
 refine bK p1 p2 λh' Z kp=>?_
 refine wpAny_pyIter_zip Z.hz ?_
 have I2:Inv X Fo σ H1 { s1 with heap:=h' }:=I1.kept (t':=s1.toks) kp
 refine⟨_,[s1.heap.objs.size+4,s1.heap.objs.size+2,s1.heap.objs.size+3,s1.heap.objs.size,s1.heap.objs.size+1],_,_,H1,rfl,I2,Yc k1 k2 a b _ _ _ _ _ (dE _),Z,λc hc=>?_,q⟩
 have ge:s1.heap.objs.size<=c:=by
  simp only[AO,Bg,DG]at hc
  rcases hc with rfl|rfl|rfl|rfl|rfl
  ·exact CV _ _
  ·exact CV _ _
  ·exact CV _ _
  ·exact AG _
  ·exact CV _ _
 exact I1.fpOk ge (I1.hok.fresh ge)
end L2.Ev
namespace L2.Ev
open PySem PySem.Spec PyProof.Rows
open L2.Ts L2.Pl L2.Rw
section
variable{X:Cx}{α:Type}[D:Dat α][S:Io α]
noncomputable def Lb(α:Type)[D:Dat α][S:Io α](H:Hp)(l:List α)(p:Keyed):Nat:=by
 classical exact if h:∃a:α,∃v,Gx v p.1/\D.is H v a then Kw S.lt l h.choose else 0
theorem PR{H:Hp}{l:List α}{p:Keyed}{v:V}{a:α}(r:Gx v p.1)(h:D.is H v a):Lb α H l p=Kw S.lt l a:=by
 unfold Lb
 have e:∃a:α,∃v,Gx v p.1/\D.is H v a:=⟨a,v,r,h⟩
 rw[dif_pos e]
 obtain⟨v',r',h'⟩:=e.choose_spec
 have:v'=v:=Gx.inj r' r
 subst this
 rw[D.inj h' h]
theorem Paired.perm{β γ:Type}{F:β->γ->Prop}{l l':List β}(p:l'.Perm l):∀{m:List γ},Paired F l m->∃m',m'.Perm m/\Paired F l' m':=by
 induction p with
 |nil=>intro m h;exact⟨m,List.Perm.refl _,h⟩
 |cons x _ ih =>
  intro m h
  cases h with
  |cons r t =>
   obtain⟨m',p',h'⟩:=ih t
   exact⟨_::m',p'.cons _,.cons r h'⟩
 |swap x y l =>
  intro m h
  cases h with
  |cons r t =>
   cases t with
   |cons r2 t2=>exact⟨_,List.Perm.swap _ _ _,.cons r2 (.cons r t2)⟩
 |trans _ _ i1 i2 =>
  intro m h
  obtain⟨m1,p1,h1⟩:=i2 h
  obtain⟨m2,p2,h2⟩:=i1 h1
  exact⟨m2,p2.trans p1,h2⟩
theorem Paired.mem{β γ:Type}{F:β->γ->Prop}{l:List β}{m:List γ}(h:Paired F l m){x:β}(hx:x∈l):∃y∈m,F x y:=by
 induction h with
 |nil=>cases hx
 |cons r t ih =>
  rcases AO.mp hx with e|hx
  ·subst e;exact⟨_,AJ ..,r⟩
  ·obtain⟨y,hy,f⟩:=ih hx
   exact⟨y,AK _ hy,f⟩
abbrev Ja(α:Type)[D:Dat α](H:Hp)(its:List Value)(l:List α):Prop:=Paired (λu a=>∃v,Gx v u/\D.is H v a) its l
theorem UX{H:Hp}:∀{vs:List V}{its:List Value}{l:List α},Gy vs its->Hc H vs l->Ja α H its l
 |_,_,_,.nil,.nil=>.nil
 |_,_,_,.cons r t,.cons q u=>.cons ⟨_,r,q⟩ (UX t u)
theorem P4{H:Hp}{its:List Value}{l:List α}(h:Ja α H its l):∃vs,Gy vs its/\Hc H vs l:=by
 induction h with
 |nil=>exact⟨[],.nil,.nil⟩
 |cons r t ih =>
  obtain⟨v,rv,d⟩:=r
  obtain⟨vs,a,b⟩:=ih
  exact⟨v::vs,.cons rv a,.cons d b⟩
theorem fJ{H:Hp}{l0:List α}{out:List Value}{m:List α}(h:Ja α H out m)(hm:∀a∈m,a∈l0)(o:out.Pairwise λx y=>Lb α H l0 (y,y)<=Lb α H l0 (x,x)):m.Pairwise λa b=>S.lt a b=false:=by
 induction h with
 |nil=>exact .nil
 |@cons x a xs m r t ih =>
  obtain⟨o1,o2⟩:=Ay.mp o
  refine Ay.mpr ⟨λb hb=>?_,ih (λb hb=>hm b (AK _ hb)) o2⟩
  obtain⟨y,hy,e⟩:∃y∈xs,∃v,Gx v y/\D.is H v b:=by
   have key:∀{xs:List Value}{m:List α},Ja α H xs m->b∈m->∃y∈xs,∃v,Gx v y/\D.is H v b:=by
    intro xs m t
    induction t with
    |nil=>intro z;cases z
    |cons r t ih =>
     intro z
     rcases AO.mp z with e|z
     ·subst e;exact⟨_,AJ ..,r⟩
     ·obtain⟨y,hy,f⟩:=ih z
      exact⟨y,AK _ hy,f⟩
   exact key t hb
  obtain⟨v,rv,dv⟩:=r
  obtain⟨v2,rv2,dv2⟩:=e
  have q:=o1 y hy
  rw[PR (p:=(y,y)) rv2 dv2,PR (p:=(x,x)) rv dv]at q
  cases c:S.lt a b with
  |false=>rfl
  |true =>
   have:=(OC S.lin (hm a (AJ ..))).mp c
   lia
theorem SY{Fo:List (Addr×Obj)}{σ:St}{H:Hp}{s:Shared}{its:List Value}{l:List α}{A:Around}(hu:A.units+4<cLine)(hb:Ja α H its l)(hok:∀a∈l,S.ok a)(I:Inv X Fo σ H s)(h2:2<=its.length) :
  (∀(Q:SortKind->Shared->Prop)(E':Value->Shared->Prop),Q (tuples' S.plain) s->wpAny (model X.prog X.w) A (keyKind' its.toArray) Q E' s) /\
  Jm X.prog X.w A s (tuples' S.plain) (λp=>∃a∈l,∃v,Gx v p.1/\D.is H v a) (Lb α H l):=by
 constructor
 ·intro Q E' q
  have fs:∀{its:List Value}{l:List α},Ja α H its l->(∀a∈l,S.ok a)->∃fs:List Value,fs.length=its.length/\W.KatTups s.heap its fs/\∀f∈fs,W.Looks (model X.prog X.w) s.heap (typeOf f) (if S.plain=true then .type "int" else .type "tuple"):=by
   intro its l hb
   induction hb with
   |nil=>intro _;exact⟨[],rfl,W.KatTups.nil,λf hf=>by cases hf⟩
   |@cons u0 a0 _ _ r t ih =>
    intro ok
    obtain⟨fs,f1,f2,f3⟩:=ih λa ha=>ok a (AK _ ha)
    obtain⟨v,rv,dv⟩:=r
    obtain⟨p,o,xs,n,f,rp,ho,hc,hd,hf,lk⟩:=S.first I dv (ok _ (AJ ..))
    have e:u0=Value.ref p:=by
     cases v with
     |ref a =>
      have e1:Value.ref p=Value.ref a:=rp
      have e2:u0=Value.ref a:=rv
      rw[e2,e1]
     |_=>first|(obtain⟨_,e⟩:=rp;cases e)|cases rp
    subst e
    refine⟨f::fs,by simp [f1],W.KatTups.cons ho hc hd hf f2,λg hg=>?_⟩
    rcases AO.mp hg with e|hg
    ·subst e;exact lk
    ·exact f3 g hg
  obtain⟨fs,f1,f2,f3⟩:=fs hb hok
  refine W.kat_kind f2 (by lia) f3 (by split<;>decide) ?_
  cases c:S.plain with
  |true=>rw[c]at q;exact q
  |false=>rw[c]at q;exact q
 ·intro x y hx hy Q q
  obtain⟨a,ha,v,rv,dv⟩:=hx
  obtain⟨b,hb',v',rv',dv'⟩:=hy
  refine S.asks I hu dv dv' (hok a ha) (hok b hb') rv rv' Q ?_
  rw[PR rv dv,PR rv' dv']at q
  have e:decide (Kw S.lt l a<Kw S.lt l b)=S.lt a b:=by
   cases c:S.lt a b with
   |true=>exact AX ((OC S.lin ha).mp c)
   |false=>exact AN λz=>by rw[(OC S.lin ha).mpr z]at c;cases c
  rw[e]at q
  exact q
def jA(α:Type)[D:Dat α][S:Io α](ta:TA):TE:=λσ H Q=>ta σ H λvs H1=>∃(a:Addr)(l:List α),vs=[.ref a]/\Gh H1 a l/\(∀b∈l,S.ok b) /\
 ∀(p:Addr)(vs:List V)(l':List α),H1 p=none->l'.Perm l->(l'.Pairwise λa b=>S.lt a b=false)->Hc H1 vs l'->Q (.ref p) (Gi H1 p (.lst vs))
theorem kA{Fo:List (Addr×Obj)}{σ:St}{H:Hp}{s:Shared}{its out:List Value}{l:List α}{Q:VK}{h':Heap}{tk:Nat}{P:Addr}{e:Nat}(I:Inv X Fo σ H s)(hb:Ja α H its l)(hz:its.length<=sizeLine)(p:out.Perm its)
  (o:out.Pairwise λx y=>Lb α H l (y,y)<=Lb α H l (x,x)) (kp:∀b o,s.heap.get? b=some o->h'.get? b=some o) (hP:s.heap.objs.size<=P) (hg:h'.get? P=some (seqObj "list" out.toArray e))
  (q:∀(p:Addr)(vs:List V)(l':List α),H p=none->l'.Perm l->(l'.Pairwise λa b=>S.lt a b=false)->Hc H vs l'->Q (.ref p) (Gi H p (.lst vs))):EP X Fo σ Q (.ref P) { s with heap:=h',toks:=tk }:=by
 obtain⟨m,pm,bm⟩:=Paired.perm p hb
 obtain⟨vs,v1,v2⟩:=P4 bm
 have lz:vs.length<=sizeLine:=by rw[v1.length,p.length_eq];exact hz
 refine⟨.ref P,Gi H P (.lst vs),I.laid (a:=P) (o:=.lst vs) (t':=tk) kp hP ⟨lz,out,e,v1,hg⟩,rfl,q P vs m (I.hok.fresh hP) pm (fJ bm (λa ha=>pm.mem_iff.mp ha) o) v2⟩
theorem iS{Fo:List (Addr×Obj)}{σ:St}{H:Hp}{s:Shared}{r:Addr}{its:List Value}{l:List α}{Q:VK}(hu:X.A.units+8<cLine)(I:Inv X Fo σ H s)(hb:Ja α H its l)(hz:its.length<=sizeLine)(hok:∀a∈l,S.ok a)
  (Kr:∀(Q':List Value->Shared->Prop),(∀h' tk,(∀b o,s.heap.get? b=some o->h'.get? b=some o)->s.heap.objs.size<=h'.objs.size->Q' its { s with heap:=h',toks:=tk })->wpAny (model X.prog X.w) X.A.in1 (collect (.ref r)) Q' X.xe s)
  (q:∀(p:Addr)(vs:List V)(l':List α),H p=none->l'.Perm l->(l'.Pairwise λa b=>S.lt a b=false)->Hc H vs l'->Q (.ref p) (Gi H p (.lst vs))) :
  wpAny (model X.prog X.w) X.A (call (.builtin "sorted") [.ref r] [(Str.ofString "reverse",.bool true)]) (EP X Fo σ Q) X.xe s:=by
 refine VL (κ:=tuples' S.plain) (M:=λp=>∃a∈l,∃v,Gx v p.1/\D.is H v a) (rk:=Lb α H l) hz (λv hv=>?_) Kr (λh' tk kp l2=>?_) λh' tk P e out p o kp hP hg=>?_
 ·obtain⟨a,ha,d⟩:=Paired.mem hb hv
  exact⟨a,ha,d⟩
 ·exact SY (A:=X.A.in1.in1) (by show X.A.units+1+1+4<cLine;lia) hb hok (I.kept (t':=tk) kp) l2
 ·exact kA I hb hz p o kp hP hg q
theorem pJ{e:Expr}{ta:TA}{p pos kp kq:Pos}{j}(hc:X.calm=true)(hu:X.A.units+8<cLine)(hg:Gl X "sorted")(hm:X.mg "sorted" = none)(ha:PA X [e] ta)
  (h1:backTo pos (starEach [e] X.env)=(false,eval e X.env)::backTo pos (starEach [] X.env):=by rfl) (h2:(backTo pos (starEach [e] X.env)).any (·.1)=false:=by rfl) :
  PE X (.Call (.Name "sorted" p) [e] [⟨some (Str.ofString "reverse"),.Constant (.bool true) j kq,kp⟩] pos) (jA α ta):=by
 intro Fo s σ H Q I h
 refine BK (Jj I hg hm Eg ?_)
 refine EB (HY (ha pos Fo s σ H _ I h) λus s1 ⟨vs,H1,I1,r1,q1⟩=>?_) h1 h2
 obtain⟨a,l,rfl,⟨vs,hL,hI⟩,hok,q⟩:=q1
 obtain⟨u,rfl,ru⟩:=KQ r1
 cases ru
 refine FM (Constant_bool (kws_nil ?_))
 obtain⟨its,rv,ht,hz⟩:=I1.list (HK.of hL)
 refine iS hu I1 (UX rv hI) (by rw[<-rv.length];exact hz) hok (λQ' q'=>collect_list ht.isList (q' _ _ (λb o e=>?_) ?_) (by rw[<-rv.length];exact hz)) q
 ·exact(An _ _ (CG (AR e))).trans (AC _ e)
 ·rw[EE,size_push'];exact D9 _
end
def II(d:List Gb):List (List Hl×V):=d.map λt=>(t.1.map Sum.inl,V.int t.2)
theorem SD:∀{a b:List Int},(a.map Sum.inl:List Hl)=b.map Sum.inl->a=b
 |[],[],_=>rfl
 |[],_::_,e=>by simp at e
 |_::_,[],e=>by simp at e
 |x::xs,y::ys,e=>by
  rw[Ae,Ae]at e
  injection e with e1 e2
  injection e1 with e1
  rw[e1,SD e2]
theorem J7(k:List Int):(k.map Sum.inl:List Hl).map kV=k.map V.int:=by rw[C1];rfl
theorem Ng(d:List Gb)(p:Pw):KJ (II d) (p.map Sum.inl)=(IU d p).map V.int:=by
 induction d with
 |nil=>rfl
 |cons t r ih =>
  have e0:II (t::r)=(t.1.map Sum.inl,V.int t.2)::II r:=rfl
  rw[e0]
  by_cases e:t.1=p
  ·rw[Vr (p:=(t.1.map Sum.inl,V.int t.2)) (by rw[e])]
   simp [IU,Bq,e]
  ·rw[VV (p:=(t.1.map Sum.inl,V.int t.2)) (λz=>e (SD z)),ih]
   simp [IU,Bq,e]
theorem V9(d:List Gb)(p:Pw)(n:Int):Je (II d) (p.map Sum.inl) (V.int n)=II (Ke d p n):=by
 have ea:((II d).any λkv=>decide (kv.1=p.map Sum.inl))=d.any λkv=>decide (kv.1=p):=by
  unfold II
  rw[HC]
  congr 1
  funext t
  show decide ((t.1.map Sum.inl:List Hl)=p.map Sum.inl)=decide (t.1=p)
  by_cases e:t.1=p
  ·rw[AX e,AX (by rw[e])]
  ·rw[AN e,AN λz=>e (SD z)]
 unfold Je Ke
 rw[ea]
 split
 ·unfold II
  rw[C1,C1]
  apply Cn
  intro t _
  simp only[Function.comp]
  by_cases e:t.1=p
  ·rw[AH (by rw[e]),AH e]
  ·rw[AE (λz=>e (SD z)),AE e]
 ·unfold II
  rw[Au]
  rfl
theorem Qn(d:List Gb):(II d).length=d.length:=AB _
theorem QF{X:Cx}{Fo:List (Addr×Obj)}{σ:St}{H:Hp}{s:Shared}{a:Addr}{d:List Gb}(I:Inv X Fo σ H s)(h:Rd H a (.dT (II d))) :
  d.length<=sizeLine/\(a==sysModules)=false/\∃(es:Array DictEntry)(ep:Nat),IL s.heap a es ep/\es.size=d.length /\
   Paired (λ(e:DictEntry)(t:Gb)=>(∃p,e.key=.ref p/\H p=some (.tup (t.1.map V.int)))/\Gx (.int t.2) e.val) es.toList d:=by
 obtain⟨z,y,xs,r,o,es,ep,h1,h2,h3,h4,h5⟩:=(show HM X.prog X.w H s.heap a (.dT (II d)) from MG I.hok h)
 have key:∀{d:List Gb}{xs:List (List Hl×Addr×Value)},KT H (II d) xs->Paired (λ(e:DictEntry)(t:Gb)=>(∃p,e.key=.ref p/\H p=some (.tup (t.1.map V.int)))/\Gx (.int t.2) e.val) (xs.map (entryOfKey (tupleKind (Jq X.prog X.w)))) d:=by
  intro d
  induction d with
  |nil=>intro xs r;cases r;exact .nil
  |cons t d ih =>
   intro xs r
   cases r with
   |cons q qs =>
    refine .cons ⟨⟨_,rfl,?_⟩,q.2.2⟩ (ih qs)
    have:=q.2.1
    rw[<-J7]
    exact this
 have kp:=key r
 rw[<-h4]at kp
 refine⟨by rw[<-Qn];exact z,y,es,ep,⟨o,h1,h2,h3⟩,?_,kp⟩
 rw[<-AT]
 exact AL kp
section
variable{X:Cx}
def W4(ta:TA):TE:=λσ H Q=>ta σ H λvs H1=>∃(a:Addr)(d:List Gb),vs=[.ref a]/\Rd H1 a (.dT (II d))/\(∀t∈d,t.1≠[]) /\
 ∀(p:Addr)(vs:List V)(ks:List Pw),H1 p=none->ks.Perm (d.map (·.1))->(ks.Pairwise λa b=>Hj a b=false)->Hc H1 vs ks->Q (.ref p) (Gi H1 p (.lst vs))
theorem iN{e:Expr}{ta:TA}{p pos kp kq:Pos}{j}(hc:X.calm=true)(hu:X.A.units+8<cLine)(hg:Gl X "sorted")(hm:X.mg "sorted" = none)(ha:PA X [e] ta)
  (h1:backTo pos (starEach [e] X.env)=(false,eval e X.env)::backTo pos (starEach [] X.env):=by rfl) (h2:(backTo pos (starEach [e] X.env)).any (·.1)=false:=by rfl) :
  PE X (.Call (.Name "sorted" p) [e] [⟨some (Str.ofString "reverse"),.Constant (.bool true) j kq,kp⟩] pos) (W4 ta):=by
 intro Fo s σ H Q I h
 refine BK (Jj I hg hm Eg ?_)
 refine EB (HY (ha pos Fo s σ H _ I h) λus s1 ⟨vs,H1,I1,r1,q1⟩=>?_) h1 h2
 obtain⟨a,d,rfl,hR,hne,q⟩:=q1
 obtain⟨u,rfl,ru⟩:=KQ r1
 cases ru
 refine FM (Constant_bool (kws_nil ?_))
 obtain⟨z,lo,es,ep,raw,sz,ent⟩:=QF I1 hR
 have hb:Ja (List Int) H1 (es.toList.map (·.key)) (d.map (·.1)):=by
  have key:∀{l:List DictEntry}{d:List Gb},Paired (λ(e:DictEntry)(t:Gb)=>(∃p,e.key=.ref p/\H1 p=some (.tup (t.1.map V.int)))/\Gx (.int t.2) e.val) l d->Ja (List Int) H1 (l.map (·.key)) (d.map (·.1)):=by
   intro l d h
   induction h with
   |nil=>exact .nil
   |cons r t ih =>
    obtain⟨⟨p,e1,e2⟩,_⟩:=r
    exact .cons ⟨.ref p,e1,Jx e2⟩ ih
  exact key ent
 have ln:(es.toList.map (·.key)).length<=sizeLine:=by rw[AB,AT,sz];exact z
 refine iS hu I1 hb ln (λk hk=>?_) (λQ' q'=>aG (RR lo) (I1.ok.hd hc) raw (by rw[sz];exact z) λh' tk acc kp szz it=>?_) q
 ·obtain⟨t,ht,rfl⟩:=AV.mp hk
  exact hne t ht
 ·have e:acc.toList=es.toList.map (·.key):=by
   refine C9 λi=>?_
   rw[A0,Ag,A0]
   by_cases c:i<es.size
   ·have ci:i<acc.size:=by rw[it.1];exact c
    obtain⟨_,e⟩:=it.2 i acc[i] (AF ci)
    rw[AF ci,AF c,e]
    rfl
   ·rw[BU (by rw[it.1];lia),BU (by lia)]
    rfl
  rw[e]
  exact q' h' tk kp szz
end
theorem Ug{H:Hp}{X:Cx}{Fo:List (Addr×Obj)}{σ:St}{s:Shared}{a:Addr}{o:Obj}{d:List Gb}{es:Array DictEntry}{ep:Nat}(hd:o.data=.dict es ep)(I:Inv X Fo σ H s)(h:H a=some (.frz o (.dT (II d)))) :
  IL s.heap a es ep/\es.size=d.length/\Paired (λ(e:DictEntry)(t:Gb)=>(∃p,e.key=.ref p/\H p=some (.tup (t.1.map V.int)))/\Gx (.int t.2) e.val) es.toList d:=by
 obtain⟨_,_,es',ep',⟨o',h1,h2,h3⟩,h4,h5⟩:=QF I (.inr ⟨o,h⟩)
 obtain⟨h0,_⟩:=(show HM X.prog X.w H s.heap a (.frz o (.dT (II d))) from I.hok a _ h)
 rw[h0]at h1
 cases h1
 rw[hd]at h3
 cases h3
 exact⟨⟨o,h0,h2,hd⟩,h4,h5⟩
end L2.Ev
namespace L2.Ev
open PySem
open L2.Pl
theorem HH{H:Hp}{p:Addr}(h:H p=none)(o:HO):Gf H (Gi H p o):=λb u q=>by rw[Ha (Iv q h)];exact q
theorem Kl{n:Nat}(h:n<=100000):n<sizeLine:=BG h (by decide)
theorem small{n:Nat}(h:n<=100000):n<=sizeLine:=Bf (Kl h)
theorem Pb{A:Around}{k:Nat}(hr:Hf k A):A.units+8<cLine:=BG (Bt (by decide:8<=64) _) hr.units
def Qr(scope:Scope)(N N':List Str)(o:Option Nat)(i:Nat):Bool:=match o with
 |none=>true
 |some j=>match N'[i]? with
  |some x=>decide (N[j]?=some x)&&decide (scope.names.lookup x=some NameKind.free)
  |none=>false
def QV(sc scope:Scope)(N N':List Str)(src:List (Option Nat)):Bool :=
 decide (scope.kind=.function)&&scope.names.all (λy=>decide (y.2≠NameKind.cell))&&scope.names.all (λy=>!decide (y.2=NameKind.local)||decide (scope.names.lookup y.1=some NameKind.local)) &&
 scope.names.all (λy=>!decide (y.2=NameKind.free)||(decide (sc.names.lookup y.1=some NameKind.cell)||decide (sc.names.lookup y.1=some NameKind.free)))&&decide (src.length=N'.length) &&
 (List.range src.length).all λi=>Qr scope N N' (src.getD i none) i
theorem I0{X:Cx}{N':List Str}{src:List (Option Nat)}{scope:Scope}(sc:Scope)(N:List Str)(h:QV sc scope N N' src=true)(e1:X.env.scope=sc:=by rfl)(e2:X.N=N:=by rfl):Iu X N' src scope:=by
 subst e1 e2
 unfold QV at h
 simp only[AM,AZ,Aj,Dm,E3,decide_eq_false_iff_not]at h
 obtain⟨⟨⟨⟨⟨h1,h2⟩,h3⟩,h4⟩,h5⟩,h6⟩:=h
 refine⟨h1,h2,λy hy e=>(h3 y hy).resolve_left λz=>z e,λy hy e=>(h4 y hy).resolve_left λz=>z e,h5,λi j e=>?_⟩
 obtain⟨hi,ei⟩:=Ab.mp e
 have q:=h6 i (At.mpr hi)
 rw[Av,e]at q
 unfold Qr at q
 simp only[Option.getD_some]at q
 cases c:N'[i]? with
 |none=>rw[c]at q;cases q
 |some x =>
  rw[c]at q
  simp only[AM,AZ]at q
  exact⟨x,rfl,q.1,q.2⟩
theorem Gf.tseq{K:W.Frag}{H H':Hp}{a:Addr}{xs:List V}(e:Gf H H')(h:HL K H a xs):HL K H' a xs:=by
 rcases h with(h|⟨o,h⟩)|h
 ·exact .inl (.inl (e _ _ h))
 ·exact .inl (.inr ⟨o,e _ _ h⟩)
 ·exact .inr h
theorem SK.same{K:W.Frag}{H H':Hp}{a:Addr}{xs:List V}{k:SK}(e:Gf H H')(h:k.is K H a xs):k.is K H' a xs:=by
 cases k with
 |lst=>exact Gf.seq e h
 |tup=>exact Gf.tseq e h
theorem LF{α:Type}[Dat α]{K:W.Frag}{a:Addr}{xs:List V}{σ0:St}{H1:Hp}{D:Addr}{R:Hp->Prop}{g:TG}{tc:TT}{te:TE}(hD:H1 D=none)(hl:HK K H1 a xs)(Sp:St->Prop)(out:Nat->Option α)(hn:xs.length<=sizeLine)(h0:Sp σ0)
  (IC:∀(i:Nat)(x:V)(σ':St)(H':Hp)(Yes:V->St->Hp->Prop)(No:St->Hp->Prop),xs[i]?=some x->Sp σ'->Gf H1 H'->(∀y σ2 H4 a,Sp σ2->Gf H' H4->out i=some a->Dat.is H4 y a->Yes y σ2 H4)->(∀σ2 H3,Sp σ2->Gf H' H3->out i=none->No σ2 H3) ->
   g x σ' H' λσ2 H2=>tc σ2 H2 λok H3=>if ok=true then te σ2 H3 λy H4=>Yes y σ2 H4 else No σ2 H3)
  (hend:∀H',Gf H1 H'->Gh H' D ((List.range xs.length).filterMap out)->R H') :
  ∃W:Nat->Nat->St->Hp->Prop,(∃m,W 0 m σ0 (Gi H1 D (.lst [])))/\∀i m σ' H',W i m σ' H' ->
  ((NK K a).stop i H'/\R H')∨((NK K a).go i H'/\∃N:St->Hp->Prop,(∀σ'' H'',N σ'' H''->∃m',m'<m/\W (i+1) m' σ'' H'') /\
   ∀x H'',(NK K a).yld i H' x H''->g x σ' H'' λσ2 H2=>tc σ2 H2 λok H3=>if ok=true then te σ2 H3 λy H4=>∃ys,H4 D=some (.lst ys)/\ys.length<sizeLine/\N σ2 (Gi H4 D (.lst (ys++[y]))) else N σ2 H3):=by
 refine Ql (Q:=λ_ H=>R H) (n:=xs.length) hD Sp out hn h0 (λH' e=>⟨xs,Gf.seq e hl,AG _⟩) (λi H' hi e=>⟨xs,xs[i],Gf.seq e hl,AW hi⟩) (λi σ' H' Yes No hi hS hH hy hn x H'' y=>?_) hend
 obtain⟨rfl,y⟩:=y
 exact IC i x σ' H'' Yes No (y xs (Gf.seq hH hl)) hS hH hy hn
theorem TM{α:Type}[Dat α]{K:W.Frag}{a:Addr}{xs:List V}{σ0:St}{H1:Hp}{D:Addr}{R:Hp->Prop}{g:TG}{tc:TT}{te:TE}(hD:H1 D=none)(hl:HL K H1 a xs)(Sp:St->Prop)(out:Nat->Option α)(hn:xs.length<=sizeLine)(h0:Sp σ0)
  (IC:∀(i:Nat)(x:V)(σ':St)(H':Hp)(Yes:V->St->Hp->Prop)(No:St->Hp->Prop),xs[i]?=some x->Sp σ'->Gf H1 H'->(∀y σ2 H4 a,Sp σ2->Gf H' H4->out i=some a->Dat.is H4 y a->Yes y σ2 H4)->(∀σ2 H3,Sp σ2->Gf H' H3->out i=none->No σ2 H3) ->
   g x σ' H' λσ2 H2=>tc σ2 H2 λok H3=>if ok=true then te σ2 H3 λy H4=>Yes y σ2 H4 else No σ2 H3)
  (hend:∀H',Gf H1 H'->Gh H' D ((List.range xs.length).filterMap out)->R H') :
  ∃W:Nat->Nat->St->Hp->Prop,(∃m,W 0 m σ0 (Gi H1 D (.lst [])))/\∀i m σ' H',W i m σ' H' ->
  ((La K a).stop i H'/\R H')∨((La K a).go i H'/\∃N:St->Hp->Prop,(∀σ'' H'',N σ'' H''->∃m',m'<m/\W (i+1) m' σ'' H'') /\
   ∀x H'',(La K a).yld i H' x H''->g x σ' H'' λσ2 H2=>tc σ2 H2 λok H3=>if ok=true then te σ2 H3 λy H4=>∃ys,H4 D=some (.lst ys)/\ys.length<sizeLine/\N σ2 (Gi H4 D (.lst (ys++[y]))) else N σ2 H3):=by
 refine Ql (Q:=λ_ H=>R H) (n:=xs.length) hD Sp out hn h0 (λH' e=>⟨xs,Gf.tseq e hl,AG _⟩) (λi H' hi e=>⟨xs,xs[i],Gf.tseq e hl,AW hi⟩) (λi σ' H' Yes No hi hS hH hy hn x H'' y=>?_) hend
 obtain⟨rfl,y⟩:=y
 exact IC i x σ' H'' Yes No (y xs (Gf.tseq hH hl)) hS hH hy hn
theorem nW{α:Type}[Dat α]{lo:Int}{n:Nat}{σ0:St}{H1:Hp}{D:Addr}{R:Hp->Prop}{g:TG}{tc:TT}{te:TE}(hD:H1 D=none)(Sp:St->Prop)(out:Nat->Option α)(hn:n<=sizeLine)(h0:Sp σ0)
  (IC:∀(i:Nat)(σ':St)(H':Hp)(Yes:V->St->Hp->Prop)(No:St->Hp->Prop),i<n->Sp σ'->Gf H1 H'->(∀y σ2 H4 a,Sp σ2->Gf H' H4->out i=some a->Dat.is H4 y a->Yes y σ2 H4)->(∀σ2 H3,Sp σ2->Gf H' H3->out i=none->No σ2 H3) ->
   g (.int (lo+i)) σ' H' λσ2 H2=>tc σ2 H2 λok H3=>if ok=true then te σ2 H3 λy H4=>Yes y σ2 H4 else No σ2 H3)
  (hend:∀H',Gf H1 H'->Gh H' D ((List.range n).filterMap out)->R H') :
  ∃W:Nat->Nat->St->Hp->Prop,(∃m,W 0 m σ0 (Gi H1 D (.lst [])))/\∀i m σ' H',W i m σ' H' ->
  ((Lq lo n).stop i H'/\R H')∨((Lq lo n).go i H'/\∃N:St->Hp->Prop,(∀σ'' H'',N σ'' H''->∃m',m'<m/\W (i+1) m' σ'' H'') /\
   ∀x H'',(Lq lo n).yld i H' x H''->g x σ' H'' λσ2 H2=>tc σ2 H2 λok H3=>if ok=true then te σ2 H3 λy H4=>∃ys,H4 D=some (.lst ys)/\ys.length<sizeLine/\N σ2 (Gi H4 D (.lst (ys++[y]))) else N σ2 H3):=by
 refine Ql (Q:=λ_ H=>R H) (n:=n) hD Sp out hn h0 (λH' e=>AG _) (λi H' hi e=>hi) (λi σ' H' Yes No hi hS hH hy hn x H'' y=>?_) hend
 obtain⟨rfl,rfl⟩:=y
 exact IC i σ' H'' Yes No hi hS hH hy hn
theorem jR{α:Type}[Dat α]{K:W.Frag}{k1 k2:SK}{a b:Addr}{xs ys:List V}{σ0:St}{H1:Hp}{D:Addr}{R:Hp->Prop}{g:TG}{tc:TT}{te:TE}(hD:H1 D=none)(hl:k1.is K H1 a xs)(hl2:k2.is K H1 b ys)(Sp:St->Prop)(out:Nat->Option α)(hn:min xs.length ys.length<=sizeLine)(h0:Sp σ0)
  (IC:∀(i:Nat)(x y:V)(p:Addr)(σ':St)(H':Hp)(Yes:V->St->Hp->Prop)(No:St->Hp->Prop),xs[i]?=some x->ys[i]?=some y->H' p=none->Sp σ'->Gf H1 H'->(∀y σ2 H4 a,Sp σ2->Gf H' H4->out i=some a->Dat.is H4 y a->Yes y σ2 H4)->(∀σ2 H3,Sp σ2->Gf H' H3->out i=none->No σ2 H3) ->
   g (.ref p) σ' (Gi H' p (.tup [x,y])) λσ2 H2=>tc σ2 H2 λok H3=>if ok=true then te σ2 H3 λy H4=>Yes y σ2 H4 else No σ2 H3)
  (hend:∀H',Gf H1 H'->Gh H' D ((List.range (min xs.length ys.length)).filterMap out)->R H') :
  ∃W:Nat->Nat->St->Hp->Prop,(∃m,W 0 m σ0 (Gi H1 D (.lst [])))/\∀i m σ' H',W i m σ' H' ->
  ((Uq K k1 k2 a b).stop i H'/\R H')∨((Uq K k1 k2 a b).go i H'/\∃N:St->Hp->Prop,(∀σ'' H'',N σ'' H''->∃m',m'<m/\W (i+1) m' σ'' H'') /\
   ∀x H'',(Uq K k1 k2 a b).yld i H' x H''->g x σ' H'' λσ2 H2=>tc σ2 H2 λok H3=>if ok=true then te σ2 H3 λy H4=>∃ys,H4 D=some (.lst ys)/\ys.length<sizeLine/\N σ2 (Gi H4 D (.lst (ys++[y]))) else N σ2 H3):=by
 refine Ql (Q:=λ_ H=>R H) (n:=min xs.length ys.length) hD Sp out hn h0 (λH' e=>⟨xs,ys,SK.same e hl,SK.same e hl2,by lia⟩) (λi H' hi e=>⟨xs,ys,xs[i],ys[i],SK.same e hl,SK.same e hl2,AW (by lia),AW (by lia)⟩) (λi σ' H' Yes No hi hS hH hy hn x H'' y=>?_) hend
 obtain⟨p,x,y,rfl,hp,rfl,hx,hy2⟩:=y
 exact IC i x y p σ' H' Yes No (hx xs (SK.same hH hl)) (hy2 ys (SK.same hH hl2)) hp hS hH hy hn
theorem KC{α β:Type}(f:α->Option β)(l:List α):(List.range l.length).filterMap (λi=>(l[i]?).bind f)=l.filterMap f:=by
 induction l with
 |nil=>rfl
 |cons x l ih =>
  rw[Ai,DR,CC,List.filterMap_map,CC]
  have e:((λi=>((x::l)[i]?).bind f) ∘ Nat.succ)=λi=>(l[i]?).bind f:=by funext i;simp
  rw[e,ih]
  simp
theorem VB{α β:Type}(c:α->Prop)[DecidablePred c](g:α->β)(l:List α):l.filterMap (λk=>if c k then some (g k) else none)=(l.filter λk=>decide (c k)).map g:=by
 induction l with
 |nil=>rfl
 |cons x l ih =>
  rw[CC,CH]
  by_cases h:c x
  ·rw[AH h,AH (AX h),Ae,ih]
  ·rw[AE h,AE (by simpa using h),ih]
theorem Im{α:Type}[D:Dat α]{H:Hp}{vs:List V}{l:List α}(h:Hc H vs l){i:Nat}{x:V}(e:vs[i]?=some x):∃a,l[i]?=some a/\D.is H x a:=Paired.get h e
theorem JF{α:Type}{l:List α}{i:Nat}{x:α}(e:l[i]?=some x):l.take (i+1)=l.take i++[x]:=by
 obtain⟨h,rfl⟩:=Ab.mp e
 rw[List.take_succ_eq_append_getElem h]
theorem Jf{H:Hp}{x:V}{t:Gb}(h:Dat.is H x t):∃p q,x=.ref p/\H p=some (.tup [.ref q,.int t.2])/\H q=some (.tup (t.1.map V.int)):=by
 obtain⟨p,a,b,rfl,hp,ha,hb⟩:=h
 obtain⟨q,rfl,hq⟩:=JE ha
 have hb':b=.int t.2:=hb
 subst hb'
 exact⟨p,q,rfl,hp,hq⟩
theorem JY{H:Hp}{p q:Addr}{t:Gb}(hp:H p=some (.tup [.ref q,.int t.2]))(hq:H q=some (.tup (t.1.map V.int))):Dat.is H (.ref p) t:=⟨p,_,_,rfl,hp,Jx hq,rfl⟩
theorem S4{H:Hp}{p:Addr}(h:H p=none)(o:HO):HZ H (Gi H p o):=HZ.same (HH h o)
theorem Mi{σ:St}{H:Hp}{A B:Hp->Prop}(h:A H):Ot σ H (λok H3=>if ok=true then A H3 else B H3):=Jr (A:=A H) (B:=B H) h
theorem L6{i:Nat}{v:V}{σ:St}{H:Hp}{A B:St->Hp->Prop}(h:A (σ.set i (some v)) H):JA i v σ H (λσ2 H2=>Ot σ2 H2 λok H3=>if ok=true then A σ2 H3 else B σ2 H3):=Jr (A:=A (σ.set i (some v)) H) (B:=B (σ.set i (some v)) H) h
end L2.Ev
namespace L2.Ev
open PySem PySem.Spec PyProof.Rows
open L2.Pl
section
variable{X:Cx}
def Xb(i j:Int):Prop:=i.natAbs<2^100000/\j.natAbs<2^100000
theorem Sl{x:Int}(h:x.natAbs<2^100000):Builtin.Int.intBits x<=2^20:=by
 unfold Builtin.Int.intBits
 split
 ·exact Az _
 ·rename_i c
  have hx:x.natAbs≠0:=by
   intro z
   exact c (by simpa using Int.natAbs_eq_zero.mp z)
  have:=(Nat.log2_lt hx).mpr h
  have e:(2:Nat)^20=1048576:=by decide
  lia
theorem Nk:IK X (binaryOp .Mult) (rI Xb λi j=>.int (i*j)):=Pd λ_ _ _ _ _ _ _ hc q=>mul_int q (.of_bits (Sl hc.1) (Sl hc.2))
def Ri(K:W.Frag):R2:=λx y H Q=>∃a b xs ys,x=.ref a/\y=.ref b/\HL K H a xs/\HL K H b ys/\xs.length+ys.length<=sizeLine /\
 (xs=[]->Q (.ref b) H)/\(xs≠[]->ys=[]->Q (.ref a) H)/\(xs≠[]->ys≠[]->∀p,H p=none->Q (.ref p) (Gi H p (.tup (xs++ys))))
theorem L3:IK X (binaryOp .Add) (Ri X.K):=by
 intro Fo s σ H x y v u Q I rx ry h
 obtain⟨a,b,xs,ys,rfl,rfl,ha,hb,hz,q0,q1,q2⟩:=h
 by_cases hx:xs=[]
 ·cases rx
  cases ry
  obtain⟨its,r1,p1,_⟩:=I.tuple ha
  obtain⟨its2,r2,p2,_⟩:=I.tuple hb
  obtain⟨⟨cls,dd,data,sl⟩,ho,hc,n,hd⟩:=id p1
  obtain⟨⟨cls2,dd2,data2,sl2⟩,ho2,hc2,n2,hd2⟩:=id p2
  simp only at hc hd hc2 hd2
  subst hc hd hc2 hd2
  have e0:its=[]:=r1.nil_iff.mpr hx
  exact HE ⟨_,ho,rfl⟩ ⟨_,ho2,rfl⟩ FK Gp D8 Dz (Dq _ _)
   (tuple_addW0 a b its.toArray its2.toArray n n2 dd dd2 sl sl2 (by rw[e0];rfl)) ⟨ho,ho2,⟨.ref b,H,I,rfl,q0 hx⟩⟩
 ·exact lW Fo s σ H (.ref a) (.ref b) v u Q I rx ry ⟨a,b,xs,ys,rfl,rfl,ha,hb,hx,hz,q1 hx,q2 hx⟩
theorem Mr{K:W.Frag}{H:Hp}{a b:Addr}{r r':List Int}{Q:VK}(ha:H a=some (.tup (r.map V.int)))(hb:H b=some (.tup (r'.map V.int)))(hz:r.length+r'.length<=sizeLine)
  (q:∀p H',Gf H H'->H' p=some (.tup ((r++r').map V.int))->Q (.ref p) H'):Ri K (.ref a) (.ref b) H Q:=by
 refine⟨a,b,_,_,rfl,rfl,HL.of ha,HL.of hb,by simpa using hz,λe=>?_,λ_ e=>?_,λ_ _ p hp=>?_⟩
 ·have e':r=[]:=by simpa using e
  refine q b H (Gf.refl _) ?_
  rw[e',CN]
  exact hb
 ·have e':r'=[]:=by simpa using e
  refine q a H (Gf.refl _) ?_
  rw[e',BN]
  exact ha
 ·refine q p _ (HH hp _) ?_
  rw[Au]
  exact Gu
theorem Qg{H:Hp}{vs:List V}{ns:List Int}(i:Hc H vs ns):vs=ns.map V.int:=by
 induction i with
 |nil=>rfl
 |cons r t ih=>rw[Ae,<-ih];exact congrArg (· :: _) r
theorem RT{bs:List Bool}{its:List Value}(r:Gy (bs.map V.bl) its){i:Nat}{v:Value}(h:its.toArray[i]?=some v):∃b,bs[i]?=some b/\v=.bool b:=by
 have h':its[i]?=some v:=by simpa using h
 have hi:i<its.length:=(Ab.mp h').1
 have hb:i<bs.length:=by have:=r.length;rw[AB]at this;lia
 have e:(bs.map V.bl)[i]?=some (V.bl bs[i]):=by rw[Ag,AW hb];rfl
 obtain⟨u,e1,r1⟩:=r.get e
 rw[h']at e1
 cases e1
 exact⟨bs[i],AW hb,r1⟩
theorem gD{bs:List Bool}(n:Nat)(hn:n=bs.length):(List.range n).all (λi=>bs.getD i false)=bs.all id:=by
 subst hn
 induction bs with
 |nil=>rfl
 |cons b bs ih =>
  rw[Ai,DR,C7,EL,C7]
  have e:((λi=>(b::bs).getD i false) ∘ Nat.succ)=λi=>bs.getD i false:=by funext i;simp
  rw[e,ih]
  rfl
theorem oE{bs:List Bool}(n:Nat)(hn:n=bs.length):(List.range n).any (λi=>bs.getD i false)=bs.any id:=by
 subst hn
 induction bs with
 |nil=>rfl
 |cons b bs ih =>
  rw[Ai,DR,B8,HC,B8]
  have e:((λi=>(b::bs).getD i false) ∘ Nat.succ)=λi=>bs.getD i false:=by funext i;simp
  rw[e,ih]
  rfl
theorem pO{Fo:List (Addr×Obj)}{σ:St}{H:Hp}{s:Shared}{o:Obj}{s':Shared}(I:Inv X Fo σ H s)(hm:Moved [s.heap.objs.size] (λa b=>b=a) { s with heap:=s.heap.push o } s'):Inv X Fo σ H s':=by
 obtain⟨h',g',d',tk',os'⟩:=s'
 have e1:g'=s.gens:=hm.gens
 have e2:d'=s.drawn:=hm.drawn
 have e3:os'=s.os:=hm.os
 subst e1 e2 e3
 exact I.kept (t':=tk') λb o e=>hm.heap b o (λhb=>absurd (AR e) ((AS.mp hb)▸B7 _)) (AC _ e)
theorem rT(hc:X.calm=true):Hw X (.builtin "all") (λxs H Q=>∃(p:Addr)(bs:List Bool),xs=[.ref p]/\HK X.K H p (bs.map V.bl)/\Q (.bl (bs.all id)) H):=by
 intro Fo s σ H xs us Q I r h
 obtain⟨p,bs,rfl,hq,q⟩:=h
 obtain⟨u,rfl,ru⟩:=KQ r
 cases ru
 obtain⟨its,rv,ht,_⟩:=I.list hq
 have hl:=ht.isList
 obtain⟨o,ho,_⟩:=id hl
 have W:=(Walks.list (prog:=X.prog) (w:=X.w) (A:=X.A.in1) (I.ok.hd hc) s.heap.objs.size p (As (AR ho)) its.toArray).toS
 refine call_all_walkS (CL hl ⟨s.heap.objs.size,_,_,_,_,_,_,λi=>bs.getD i false,rfl,W,⟨⟨_,AQ _ rfl,rfl,rfl⟩,hl.at λo e=>AC _ e⟩,λi v s2 Q2 E2 hP q2=>?_,λs' hm=>?_⟩)
 ·obtain⟨b,hb,rfl⟩:=RT rv hP
  refine CK ?_
  have e:bs.getD i false=b:=by rw[Av,hb];rfl
  have q2:Q2 (bs.getD i false) s2:=q2
  rw[e]at q2
  exact q2
 ·refine⟨.bl (bs.all id),H,pO I hm,?_,q⟩
  have e:=gD (bs:=bs) its.toArray.size (by have:=rv.length;simp at this ⊢;lia)
  rw[e]
  rfl
theorem RV(hc:X.calm=true):Hw X (.builtin "any") (λxs H Q=>∃(p:Addr)(bs:List Bool),xs=[.ref p]/\HK X.K H p (bs.map V.bl)/\Q (.bl (bs.any id)) H):=by
 intro Fo s σ H xs us Q I r h
 obtain⟨p,bs,rfl,hq,q⟩:=h
 obtain⟨u,rfl,ru⟩:=KQ r
 cases ru
 obtain⟨its,rv,ht,_⟩:=I.list hq
 have hl:=ht.isList
 obtain⟨o,ho,_⟩:=id hl
 have W:=(Walks.list (prog:=X.prog) (w:=X.w) (A:=X.A.in1) (I.ok.hd hc) s.heap.objs.size p (As (AR ho)) its.toArray).toS
 refine call_any_walkS (CL hl ⟨s.heap.objs.size,_,_,_,_,_,_,λi=>bs.getD i false,rfl,W,⟨⟨_,AQ _ rfl,rfl,rfl⟩,hl.at λo e=>AC _ e⟩,λi v s2 Q2 E2 hP q2=>?_,λs' hm=>?_⟩)
 ·obtain⟨b,hb,rfl⟩:=RT rv hP
  refine CK ?_
  have e:bs.getD i false=b:=by rw[Av,hb];rfl
  have q2:Q2 (bs.getD i false) s2:=q2
  rw[e]at q2
  exact q2
 ·refine⟨.bl (bs.any id),H,pO I hm,?_,q⟩
  have e:=oE (bs:=bs) its.toArray.size (by have:=rv.length;simp at this ⊢;lia)
  rw[e]
  rfl
instance Uy:Dat Bool where
 is:=λ_ v b=>v=.bl b
 mono:=λ_ h=>h
 inj:=λh h'=>by rw[h]at h';cases h';rfl
 dep:=0
 eqb:=λa b=>a==b
 eqb_iff:=λa b=>by simp
 eqAt:=λ{X Fo σ H s A v v' u u' a b} I hu h h' r r'=>by
  subst h h'
  cases r
  cases r'
  exact SeqAt.EqAt.bool_bool _ _
theorem R6{H:Hp}{vs:List V}{bs:List Bool}(i:Hc H vs bs):vs=bs.map V.bl:=by
 induction i with
 |nil=>rfl
 |cons r t ih=>rw[Ae,<-ih];exact congrArg (· :: _) r
theorem cW{α:Type}[D:Dat α]{Fo:List (Addr×Obj)}{σ:St}{H:Hp}{s:Shared}{A:Around}{a b:Addr}{l m:List α}(I:Inv X Fo σ H s)(hu:A.units+(D.dep+1)<cLine)(ha:Dat.is H (.ref a) l)(hb:Dat.is H (.ref b) m) :
  SeqAt.RcAt A s (.ref a) (.ref b) (JG D.eqb l m)/\SeqAt.RcNeAt A s (.ref a) (.ref b) (!JG D.eqb l m):=by
 obtain⟨p,vs,e,h,i⟩:=ha
 cases e
 obtain⟨p',vs',e',h',i'⟩:=hb
 cases e'
 obtain⟨its,rv,ht,_⟩:=I.tuple (HL.of h)
 obtain⟨its',rv',ht',_⟩:=I.tuple (HL.of h')
 have hl:its.toArray.size=l.length:=by have:=rv.length;have:=AL i;simp;lia
 have hm:its'.toArray.size=m.length:=by have:=rv'.length;have:=AL i';simp;lia
 have q:=D5 (A:=A) (s:=s) (e:=Kd D.eqb l m) (show s.heap.IsTuple a its.toArray from ht) (show s.heap.IsTuple b its'.toArray from ht') (by lia) (Qk I (A:=A.in1) (by show A.units+1+D.dep<cLine;lia) i i' rv rv')
 have q2:=SeqAt.RcNeAt.tuples (A:=A) (s:=s) (e:=Kd D.eqb l m) (show s.heap.IsTuple a its.toArray from ht) (show s.heap.IsTuple b its'.toArray from ht') (by lia) (Qk I (A:=A.in1) (by show A.units+1+D.dep<cLine;lia) i i' rv rv')
 rw[hl,hm,QB]at q q2
 exact⟨q,q2⟩
theorem dL{α β:Type}[D:Dat α][D2:Dat β]{Fo:List (Addr×Obj)}{σ:St}{H:Hp}{s:Shared}{A:Around}{x y:V}{u v:Value}{l m:α×β}(I:Inv X Fo σ H s)(hu:A.units+(max D.dep D2.dep+1)<cLine)(ha:Dat.is H x l)(hb:Dat.is H y m)(rx:Gx x u)(ry:Gx y v) :
  SeqAt.RcAt A s u v (Dat.eqb l m)/\SeqAt.RcNeAt A s u v (!Dat.eqb l m):=by
 obtain⟨p,a,b,rfl,h,i,j⟩:=ha
 obtain⟨p',a',b',rfl,h',i',j'⟩:=hb
 cases rx
 cases ry
 obtain⟨its,rv,ht,_⟩:=I.tuple (HL.of h)
 obtain⟨its',rv',ht',_⟩:=I.tuple (HL.of h')
 obtain⟨w1,w2,rfl,r1,r2⟩:=K0 rv
 obtain⟨z1,z2,rfl,t1,t2⟩:=K0 rv'
 have each:∀k (h1:k<[w1,w2].toArray.size) (h2:k<[z1,z2].toArray.size),SeqAt.EqAt A.in1 s [w1,w2].toArray[k] [z1,z2].toArray[k] (if k=0 then D.eqb l.1 m.1 else D2.eqb l.2 m.2):=λk h1 h2=>by
  have hk:k=0∨k=1:=by
   have:k<2:=h1
   lia
  rcases hk with rfl|rfl
  ·exact D.eqAt (A:=A.in1) I (by show A.units+1+D.dep<cLine;lia) i i' r1 t1
  ·exact D2.eqAt (A:=A.in1) I (by show A.units+1+D2.dep<cLine;lia) j j' r2 t2
 have q:=D5 (A:=A) (s:=s) (show s.heap.IsTuple p _ from ht) (show s.heap.IsTuple p' _ from ht') (by lia) each
 have q2:=SeqAt.RcNeAt.tuples (A:=A) (s:=s) (show s.heap.IsTuple p _ from ht) (show s.heap.IsTuple p' _ from ht') (by lia) each
 have e2:((List.range (min [w1,w2].toArray.size [z1,z2].toArray.size)).all (λk=>if k=0 then D.eqb l.1 m.1 else D2.eqb l.2 m.2)&&[w1,w2].toArray.size==[z1,z2].toArray.size)=(D.eqb l.1 m.1&&D2.eqb l.2 m.2):=by
  simp [CO]
 rw[e2]at q q2
 exact⟨q,q2⟩
def fN(α β:Type)[Dat α][Dat β]:R2:=λx y H Q=>∃(l m:α×β),Dat.is H x l/\Dat.is H y m/\Q (.bl (!Dat.eqb l m)) H
theorem aY{α β:Type}[D:Dat α][D2:Dat β](hu:X.A.units+(max D.dep D2.dep+1)<cLine):IK X (compareOp .NotEq) (fN α β):=by
 intro Fo s σ H x y v u Q I rx ry h
 obtain⟨l,m,ha,hb,q⟩:=h
 exact(dL I hu ha hb rx ry).2 X.prog X.w X.xe _ ⟨.bl _,H,I,rfl,q⟩
def fR(α:Type)[Dat α]:R2:=λx y H Q=>∃(l m:List α),Dat.is H x l/\Dat.is H y m/\Q (.bl (JG (Dat.eqb (α:=α)) l m)) H
theorem iP{α:Type}[D:Dat α](hu:X.A.units+(D.dep+1)<cLine):IK X (compareOp .Eq) (fR α):=by
 intro Fo s σ H x y v u Q I rx ry h
 obtain⟨l,m,ha,hb,q⟩:=h
 obtain⟨p,_,rfl,_⟩:=id ha
 obtain⟨p',_,rfl,_⟩:=id hb
 cases rx
 cases ry
 exact(cW I hu ha hb).1 X.prog X.w X.xe _ ⟨.bl _,H,I,rfl,q⟩
end
end L2.Ev
namespace L2.Pl
def LZ(ps pt:List Int):Int:=(ps.zip pt).foldl (λv x=>v*x.2^x.1.toNat) 1
theorem aJ{a b:Int}{x y:Nat}(ha:a.natAbs<2^x)(hb:b.natAbs<2^y):(a*b).natAbs<2^(x+y):=by
 rw[Int.natAbs_mul,EA]
 exact Nat.mul_lt_mul_of_lt_of_lt ha hb
theorem JM{a:Int}{x y:Nat}(h:a.natAbs<2^x)(hxy:x<=y):a.natAbs<2^y:=Ao h (ER (by decide) hxy)
def swp(p:List Int)(k:Nat):List Int:=p.take k++[p.getD (k+1) 0,p.getD k 0]++p.drop (k+2)
def JL(ts:List Gb)(k:Nat):List Gb:=norm (ts.map λt=>(swp t.1 k,t.2))
theorem O4{p:List Int}{k:Nat}(h:k+1<p.length):(swp p k).length=p.length:=by
 unfold swp
 simp
 lia
theorem cG{p:List Int}{k:Nat}(h:k+1<p.length){x:Int}(hx:x∈swp p k):x∈p:=by
 unfold swp at hx
 rcases Aq.mp hx with hx|hx
 ·rcases Aq.mp hx with hx|hx
  ·exact B5 hx
  ·have e1:p.getD (k+1) 0=p[k+1]:=by simp [h]
   have e2:p.getD k 0=p[k]:=by simp [show k<p.length by lia]
   rw[e1,e2]at hx
   rcases AO.mp hx with rfl|hx
   ·exact Da _
   ·rw[AS.mp hx];exact Da _
 ·exact Gg hx
structure Hn(n b:Nat)(ts:List Gb):Prop where
 len:∀t∈ts,t.1.length=n
 pow:∀t∈ts,∀x∈t.1,0<=x/\x<=8
 num:∀t∈ts,t.2.natAbs<2^b
theorem Hn.ne{n b:Nat}{ts:List Gb}(h:Hn (n+1) b ts):∀t∈ts,t.1≠[]:=λt ht e=>by
 have:=h.len t ht
 rw[e]at this
 simp at this
theorem Hn.mono{n b c:Nat}{ts:List Gb}(h:Hn n b ts)(hbc:b<=c):Hn n c ts:=⟨h.len,h.pow,λt ht=>JM (h.num t ht) hbc⟩
theorem Uu{b:Nat}(p:Pw):∀{ts:List Gb},(∀t∈ts,t.2.natAbs<2^b)->(cf ts p).natAbs<=ts.length*2^b
 |[],_=>by simp [cf]
 |t::r,h=>by
  have ih:=Uu p (ts:=r) λx hx=>h x (AK _ hx)
  have h1:=h t (AJ ..)
  simp only[cf]
  have h2:=Int.natAbs_add_le (if t.1=p then t.2 else 0) (cf r p)
  have h3:(if t.1=p then t.2 else (0:Int)).natAbs<=2^b:=by
   split
   ·lia
   ·simp
  rw[Ai,DC]
  lia
theorem O9{l:List Gb}(c:HS l){t:Gb}(ht:t∈l):cf l t.1=t.2:=by
 induction l with
 |nil=>cases ht
 |cons u l ih =>
  rcases AO.mp ht with e|ht
  ·subst e;exact c.head
  ·have o:=(Ay.mp c.ord).1 t ht
   simp only[cf]
   rw[AE (λe=>by rw[e,Jb]at o;cases o),ih c.tail ht]
   lia
theorem Hn.norm{n b k:Nat}{ts:List Gb}(h:Hn n b ts)(hk:ts.length<2^k):Hn n (b+k) (norm ts):=by
 refine⟨λt ht=>?_,λt ht=>?_,λt ht=>?_⟩
 ·obtain⟨u,hu,e⟩:=J1 ht
  rw[<-e];exact h.len u hu
 ·obtain⟨u,hu,e⟩:=J1 ht
  rw[<-e];exact h.pow u hu
 ·have e:=O9 (JI ts) ht
  rw[Jo]at e
  rw[<-e]
  refine BG (Uu t.1 h.num) ?_
  rw[EA,DU]
  exact Dc hk (HI (by decide))
theorem Hn.swp{n b k:Nat}{ts:List Gb}(h:Hn n b ts)(hk:k+1<n):Hn n b (ts.map λt=>(swp t.1 k,t.2)):=by
 refine⟨λt ht=>?_,λt ht=>?_,λt ht=>?_⟩<;>obtain⟨u,hu,rfl⟩:=AV.mp ht
 ·show(Pl.swp u.1 k).length=n
  rw[O4 (by rw[h.len u hu];exact hk),h.len u hu]
 ·intro x hx
  exact h.pow u hu x (cG (by rw[h.len u hu];exact hk) hx)
 ·exact h.num u hu
def sR(c k m:Int):Int:=(c%2147483647*48271+69621*k*k+7*k)%2147483629*((c%2147483647*48271+69621*k*k+7*k)%2147483629)%2147483587%m
theorem P6{x:Int}:∀{l:List Int},(∀y∈l,0<=y)->x∈l->x<=l.sum/\0<=l.sum
 |[],_,h=>by cases h
 |y::l,hl,h=>by
  have hl':∀z∈l,0<=z:=λz hz=>hl z (AK _ hz)
  have hy:=hl y (AJ ..)
  have s0:0<=l.sum:=by
   have key:∀m:List Int,(∀z∈m,0<=z)->0<=m.sum:=by
    intro m
    induction m with
    |nil=>intro _;simp
    |cons a m ih =>
     intro hm
     have:=hm a (AJ ..)
     have:=ih λz hz=>hm z (AK _ hz)
     rw[BX];lia
   exact key l hl'
  rw[BX]
  rcases AO.mp h with rfl|h
  ·lia
  ·have:=(P6 hl' h).1
   lia
def Ky(ns:List Int)(k:Nat):Int:=if k<ns.length then ns.getD k 0%2147483647 else 0
end L2.Pl
namespace L2.Ev
open PySem
open L2.Pl
theorem Ij{c A B:Prop}[Decidable c](h:¬ c)(b:B):if decide c=true then A else B:=by
 rw[AN h]
 exact KW b
theorem Jt{c A B:Prop}[Decidable c](h:c)(a:A):if decide c=true then A else B:=by
 rw[AX h]
 exact Jr a
end L2.Ev
namespace L2.Pl
def sm(f:Pw->Int):List Gb->Int
 |[]=>0
 |t::r=>t.2*f t.1+sm f r
theorem Kp(f:Pw->Int):∀a b:List Gb,sm f (a++b)=sm f a+sm f b
 |[],b=>by simp [sm]
 |t::a,b=>by simp only[List.cons_append,sm];rw[Kp f a b];lia
theorem Um(f:Pw->Int)(t:Gb):∀l:List Gb,sm f (ins t l)=t.2*f t.1+sm f l
 |[]=>by
  unfold ins
  split
  ·rename_i h
   simp [sm,h]
  ·simp [sm]
 |u::l=>by
  unfold ins
  split
  ·rename_i h
   split
   ·rename_i h2
    simp only[sm]
    rw[<-Int.add_assoc,h,<-HJ,HD t.2,h2]
    simp
   ·simp only[sm]
    rw[h,HJ]
    lia
  ·split
   ·split
    ·rename_i h
     simp only[sm];rw[h];lia
    ·simp only[sm]
   ·simp only[sm];rw[Um f t l];lia
theorem JV(f:Pw->Int):∀ts:List Gb,sm f (norm ts)=sm f ts
 |[]=>rfl
 |t::r=>by
  show sm f (ins t (norm r))=_
  rw[Um,JV f r]
  rfl
theorem Lf(p:Pw):∀ts:List Gb,cf ts p=sm (λq=>if q=p then 1 else 0) ts
 |[]=>rfl
 |t::r=>by
  simp only[cf,sm]
  rw[Lf p r]
  split<;>simp
theorem NC{a b:List Gb}(h:∀f,sm f a=sm f b):norm a=norm b:=aA λp=>by rw[Lf,Lf,h]
theorem LW{f g:Pw->Int}:∀{ts:List Gb},(∀t∈ts,f t.1=g t.1)->sm f ts=sm g ts
 |[],_=>rfl
 |t::r,h=>by
  simp only[sm]
  rw[h t (AJ ..),LW λx hx=>h x (AK _ hx)]
theorem UR(f g:Pw->Int):∀ts:List Gb,sm (λp=>f p+g p) ts=sm f ts+sm g ts
 |[]=>rfl
 |t::r=>by simp only[sm];rw[UR f g r,Fg];lia
theorem Nv(f:Pw->Int)(c:Int):∀ts:List Gb,sm (λp=>f p*c) ts=sm f ts*c
 |[]=>by simp [sm]
 |t::r=>by simp only[sm];rw[Nv f c r,HJ,Dd]
theorem Nm(f:Pw->Int)(c:Int)(ts:List Gb):sm (λp=>c*f p) ts=c*sm f ts:=by
 rw[Int.mul_comm,<-Nv]
 exact LW λt _=>Int.mul_comm _ _
def Hv(p q:Pw):Pw:=List.zipWith (· + ·) p q
def prd(a b:List Gb):List Gb:=a.flatMap λt=>b.map λu=>(Hv t.1 u.1,t.2*u.2)
def ngt(a:List Gb):List Gb:=a.map λt=>(t.1,-t.2)
def Jg(a:List Gb)(k:Nat):List Gb:=a.map λt=>(swp t.1 k,t.2)
theorem O0(f:Pw->Int):∀a:List Gb,sm f (ngt a)=- sm f a
 |[]=>rfl
 |t::r=>by
  have:=O0 f r
  unfold ngt at this ⊢
  rw[Ae]
  simp only[sm]
  rw[this,Int.neg_mul]
  lia
theorem Kj(f:Pw->Int)(k:Nat):∀a:List Gb,sm f (Jg a k)=sm (λp=>f (swp p k)) a
 |[]=>rfl
 |t::r=>by
  have:=Kj f k r
  unfold Jg at this ⊢
  rw[Ae]
  simp only[sm]
  rw[this]
theorem Qf(f:Pw->Int)(t:Gb):∀b:List Gb,sm f (b.map λu=>(Hv t.1 u.1,t.2*u.2))=t.2*sm (λq=>f (Hv t.1 q)) b
 |[]=>by simp [sm]
 |u::r=>by
  rw[Ae]
  simp only[sm]
  rw[Qf f t r,Fg,Dd]
theorem JK(f:Pw->Int)(b:List Gb):∀a:List Gb,sm f (prd a b)=sm (λp=>sm (λq=>f (Hv p q)) b) a
 |[]=>rfl
 |t::r=>by
  have:=JK f b r
  unfold prd at this ⊢
  rw[BZ,Kp,this,Qf]
  rfl
theorem QS:∀p q r:Pw,Hv (Hv p q) r=Hv p (Hv q r)
 |[],q,r=>by simp [Hv]
 |_::_,[],r=>by simp [Hv]
 |_::_,_::_,[]=>by simp [Hv]
 |x::p,y::q,z::r=>by
  have:=QS p q r
  unfold Hv at this ⊢
  simp only[CS]
  rw[this,Int.add_assoc]
theorem Vf{p q:Pw}{n:Nat}(h:p.length=n)(g:q.length=n):(Hv p q).length=n:=by
 unfold Hv
 rw[List.length_zipWith,h,g,FF]
theorem OD:∀{p q:Pw},p.length=q.length->(Hv p q).sum=p.sum+q.sum
 |[],[],_=>rfl
 |x::p,y::q,h=>by
  have:=OD (p:=p) (q:=q) (by simpa using h)
  unfold Hv at this ⊢
  simp only[CS,BX]
  rw[this];lia
theorem Q0:∀{p q:Pw},(∀x∈p,0<=x)->(∀x∈q,0<=x)->∀x∈Hv p q,0<=x
 |[],_,_,_,x,hx=>by simp [Hv]at hx
 |_::_,[],_,_,x,hx=>by simp [Hv]at hx
 |a::p,b::q,hp,hq,x,hx=>by
  unfold Hv at hx
  rw[CS]at hx
  rcases AO.mp hx with rfl|hx
  ·have:=hp a (AJ ..)
   have:=hq b (AJ ..)
   lia
  ·exact Q0 (λy hy=>hp y (AK _ hy)) (λy hy=>hq y (AK _ hy)) x hx
theorem Xn(l:List (Int×Int)):∀v:Int,l.foldl (λv x=>v*x.2^x.1.toNat) v=v*l.foldl (λv x=>v*x.2^x.1.toNat) 1:=by
 induction l with
 |nil=>intro v;simp
 |cons x l ih =>
  intro v
  rw[B3,B3,ih,ih (1*_),Fh,Dd]
theorem Pf(x y:Int)(p pt:List Int):LZ (x::p) (y::pt)=y^x.toNat*LZ p pt:=by
 unfold LZ
 rw[Cz,B3,Xn,Fh]
theorem Lj(x y:Int)(p:List Int):swp (x::y::p) 0=y::x::p:=by simp [swp]
theorem Ll(x:Int)(p:List Int)(k:Nat):swp (x::p) (k+1)=x::swp p k:=by simp [swp]
theorem Wt:∀{k:Nat}{p pt:List Int},k+1<p.length->p.length=pt.length->LZ (swp p k) pt=LZ p (swp pt k)
 |0,x::y::p,a::b::pt,_,_=>by
  rw[Lj,Lj,Pf,Pf,Pf,Pf,Int.mul_left_comm]
 |k+1,x::p,a::pt,h1,h2=>by
  rw[Ll,Ll,Pf,Pf,Wt (by simpa using h1) (by simpa using h2)]
theorem Lp:∀{k:Nat}{p:List Int},k+1<p.length->swp (swp p k) k=p
 |0,x::y::p,_=>by rw[Lj,Lj]
 |k+1,x::p,h=>by rw[Ll,Ll,Lp (by simpa using h)]
theorem Th:∀{k:Nat}{p q:List Int},k+1<p.length->p.length=q.length->swp (Hv p q) k=Hv (swp p k) (swp q k)
 |0,x::y::p,a::b::q,_,_=>by
  rw[Lj,Lj]
  show swp ((x+a)::(y+b)::Hv p q) 0=(y+b)::(x+a)::Hv p q
  rw[Lj]
 |k+1,x::p,a::q,h1,h2=>by
  rw[Ll,Ll]
  show swp ((x+a)::Hv p q) (k+1)=(x+a)::Hv (swp p k) (swp q k)
  rw[Ll,Th (by simpa using h1) (by simpa using h2)]
theorem lH{a b:List Gb}{n k:Nat}(ha:∀t∈a,t.1.length=n)(hb:∀t∈b,t.1.length=n)(hk:k+1<n):norm (Jg (norm (prd a b)) k)=norm (prd (norm (Jg a k)) (norm (Jg b k))):=by
 refine NC λf=>?_
 rw[Kj,JV,JK,JK,JV,Kj]
 refine LW λt ht=>?_
 rw[JV,Kj]
 refine LW λu hu=>?_
 rw[Th (by rw[ha t ht];exact hk) (by rw[ha t ht,hb u hu])]
structure Deg(n d b:Nat)(ts:List Gb):Prop where
 len:∀t∈ts,t.1.length=n
 nn:∀t∈ts,∀x∈t.1,0<=x
 sum:∀t∈ts,t.1.sum<=d
 num:∀t∈ts,t.2.natAbs<2^b
theorem Deg.good{n d b:Nat}{ts:List Gb}(h:Deg n d b ts)(hd:d<=8):Hn n b ts:=by
 refine⟨h.len,λt ht x hx=>⟨h.nn t ht x hx,?_⟩,h.num⟩
 have:=(P6 (h.nn t ht) hx).1
 have:=h.sum t ht
 lia
theorem Deg.mono{n d b d' b':Nat}{ts:List Gb}(h:Deg n d b ts)(hd:d<=d')(hb:b<=b'):Deg n d' b' ts :=
 ⟨h.len,h.nn,λt ht=>by have:=h.sum t ht;lia,λt ht=>JM (h.num t ht) hb⟩
theorem Deg.app{n d b:Nat}{ts us:List Gb}(h:Deg n d b ts)(q:Deg n d b us):Deg n d b (ts++us) :=
 ⟨λt ht=>(Aq.mp ht).elim (h.len t) (q.len t),λt ht=>(Aq.mp ht).elim (h.nn t) (q.nn t),λt ht=>(Aq.mp ht).elim (h.sum t) (q.sum t),λt ht=>(Aq.mp ht).elim (h.num t) (q.num t)⟩
theorem Deg.norm{n d b k:Nat}{ts:List Gb}(h:Deg n d b ts)(hk:ts.length<2^k):Deg n d (b+k) (Pl.norm ts):=by
 refine⟨λt ht=>?_,λt ht=>?_,λt ht=>?_,λt ht=>?_⟩
 ·obtain⟨u,hu,e⟩:=J1 ht
  rw[<-e];exact h.len u hu
 ·obtain⟨u,hu,e⟩:=J1 ht
  rw[<-e];exact h.nn u hu
 ·obtain⟨u,hu,e⟩:=J1 ht
  rw[<-e];exact h.sum u hu
 ·have e:=O9 (JI ts) ht
  rw[Jo]at e
  rw[<-e]
  refine BG (Uu t.1 h.num) ?_
  rw[EA,DU]
  exact Dc hk (HI (by decide))
theorem Deg.ngt{n d b:Nat}{ts:List Gb}(h:Deg n d b ts):Deg n d b (Pl.ngt ts):=by
 refine⟨λt ht=>?_,λt ht=>?_,λt ht=>?_,λt ht=>?_⟩<;>obtain⟨u,hu,rfl⟩:=AV.mp ht
 ·exact h.len u hu
 ·exact h.nn u hu
 ·exact h.sum u hu
 ·show(-u.2).natAbs<_
  rw[Int.natAbs_neg];exact h.num u hu
theorem Deg.prd{n d b d' b':Nat}{ts us:List Gb}(h:Deg n d b ts)(q:Deg n d' b' us):Deg n (d+d') (b+b') (Pl.prd ts us):=by
 have key:∀t∈Pl.prd ts us,∃x∈ts,∃y∈us,t=(Hv x.1 y.1,x.2*y.2):=λt ht=>by
  obtain⟨x,hx,ht⟩:=BO.mp ht
  obtain⟨y,hy,rfl⟩:=AV.mp ht
  exact⟨x,hx,y,hy,rfl⟩
 refine⟨λt ht=>?_,λt ht=>?_,λt ht=>?_,λt ht=>?_⟩<;>obtain⟨x,hx,y,hy,rfl⟩:=key t ht
 ·exact Vf (h.len x hx) (q.len y hy)
 ·exact Q0 (h.nn x hx) (q.nn y hy)
 ·show(Hv x.1 y.1).sum<=_
  rw[OD (by rw[h.len x hx,q.len y hy])]
  have:=h.sum x hx
  have:=q.sum y hy
  lia
 ·exact aJ (h.num x hx) (q.num y hy)
theorem Z8(a b:List Gb):(prd a b).length=a.length*b.length:=by
 induction a with
 |nil=>simp [prd]
 |cons t r ih =>
  unfold prd at ih ⊢
  rw[BZ,AI,ih,AB,Ai,DC,Gz]
theorem OY(a:List Gb):(ngt a).length=a.length:=by unfold ngt;rw[AB]
theorem Se:∀{p a q:Pw}{n:Nat},p.length=n->a.length=n->q.length=n->Hj p a=true->Hj (Hv p q) (Hv a q)=true
 |[],[],_,_,_,_,_,h=>by simp [Hj]at h
 |[],_::_,_,_,h1,h2,_,_=>by simp at h1 h2;lia
 |_::_,[],_,_,h1,h2,_,_=>by simp at h1 h2;lia
 |_::_,_::_,[],_,h1,_,h3,_=>by simp at h1 h3;lia
 |x::p,y::a,z::q,n,h1,h2,h3,h=>by
  unfold Hv
  simp only[CS,Hj]at h ⊢
  simp only[Ai]at h1 h2 h3
  by_cases e:x=y
  ·subst e
   rw[AH rfl]at h ⊢
   exact Se (n:=p.length) rfl (by lia) (by lia) h
  ·rw[AE e]at h
   have:=BD h
   rw[AE (by lia)]
   exact AX (by lia)
theorem PY:∀p q:Pw,Hv p q=Hv q p
 |[],[]=>rfl
 |[],_::_=>rfl
 |_::_,[]=>rfl
 |x::p,y::q=>by
  have:=PY p q
  unfold Hv at this ⊢
  simp only[CS]
  rw[this,HD]
structure Top(f:List Gb)(a:Pw)(x:Int):Prop where
 at_:cf f a=x
 top:∀t∈f,t.1=a∨Hj t.1 a=true
theorem Top.norm{f:List Gb}{a:Pw}{x:Int}(h:Top f a x):Top (norm f) a x:=⟨by rw[Jo];exact h.at_,λt ht=>by
 obtain⟨u,hu,e⟩:=J1 ht
 rw[<-e]
 exact h.top u hu⟩
theorem QO{t:Gb}{r:List Gb}(c:HS (t::r)):Top (t::r) t.1 t.2:=⟨c.head,λu hu=>by
 rcases AO.mp hu with rfl|hu
 ·exact .inl rfl
 ·exact .inr ((Ay.mp c.ord).1 u hu)⟩
theorem Top.prd{f g:List Gb}{a b:Pw}{x y:Int}{n:Nat}(hf:Top f a x)(hg:Top g b y)(lf:∀t∈f,t.1.length=n)(lg:∀t∈g,t.1.length=n)(la:a.length=n)(lb:b.length=n):Top (prd f g) (Hv a b) (x*y):=by
 have cmp:∀t∈f,∀u∈g,Hv t.1 u.1=Hv a b/\t.1=a/\u.1=b∨Hj (Hv t.1 u.1) (Hv a b)=true/\¬ (t.1=a/\u.1=b):=λt ht u hu=>by
  rcases hf.top t ht with e|e<;>rcases hg.top u hu with e'|e'
  ·exact .inl ⟨by rw[e,e'],e,e'⟩
  ·refine .inr ⟨?_,λz=>by rw[z.2,Jb]at e';cases e'⟩
   rw[e,PY a,PY a]
   exact Se (lg u hu) lb la e'
  ·refine .inr ⟨?_,λz=>by rw[z.1,Jb]at e;cases e⟩
   rw[e']
   exact Se (lf t ht) la lb e
  ·refine .inr ⟨?_,λz=>by rw[z.1,Jb]at e;cases e⟩
   refine Lv (Se (lf t ht) la (lg u hu) e) ?_
   rw[PY a,PY a]
   exact Se (lg u hu) lb la e'
 refine⟨?_,λt ht=>?_⟩
 ·rw[Lf,JK,<-hf.at_,<-hg.at_,Lf a,Lf b,<-Nv]
  refine LW λt ht=>?_
  rw[<-Nm (λq=>if q=b then 1 else 0)]
  refine LW λu hu=>?_
  rcases cmp t ht u hu with⟨e,e1,e2⟩|⟨e,e1⟩
  ·rw[AH e,AH e1,AH e2];rfl
  ·rw[AE (λz=>by rw[z,Jb]at e;cases e)]
   by_cases c:t.1=a
   ·rw[AH c,AE (λz=>e1 ⟨c,z⟩)];rfl
   ·rw[AE c];simp
 ·obtain⟨u,hu,ht⟩:=BO.mp ht
  obtain⟨v,hv,rfl⟩:=AV.mp ht
  rcases cmp u hu v hv with⟨e,_⟩|⟨e,_⟩
  ·exact .inl e
  ·exact .inr e
def Hm(n:Nat)(f:List Gb):Prop:=∀k,k+1<n->norm (Jg f k)=norm f
theorem Hm.norm{n:Nat}{f:List Gb}(h:Hm n f):Hm n (norm f):=λk hk=>by
 rw[jM (JI f)]
 exact(NC λF=>by rw[Kj,JV,Kj]).trans (h k hk)
theorem YT{n:Nat}{a b:List Gb}(ha:Hm n a)(hb:Hm n b)(la:∀t∈a,t.1.length=n)(lb:∀t∈b,t.1.length=n):Hm n (prd a b):=λk hk=>by
 have h:=lH la lb hk
 rw[ha k hk,hb k hk]at h
 have e1:L2.Pl.norm (Jg (L2.Pl.norm (prd a b)) k)=L2.Pl.norm (Jg (prd a b) k):=NC λF=>by rw[Kj,JV,Kj]
 have e2:L2.Pl.norm (prd (L2.Pl.norm a) (L2.Pl.norm b))=L2.Pl.norm (prd a b):=NC λF=>by
  rw[JK,JV,JK]
  exact LW λt _=>JV _ _
 rw[<-e1,h,e2]
def scl(c:Int)(f:List Gb):List Gb:=f.map λt=>(t.1,c*t.2)
theorem Jz(F:Pw->Int)(c:Int):∀f:List Gb,sm F (scl c f)=c*sm F f
 |[]=>by simp [scl,sm]
 |t::r=>by
  have:=Jz F c r
  unfold scl at this ⊢
  rw[Ae]
  simp only[sm]
  rw[this,Fg,Dd]
theorem Ly(c:Int)(f:List Gb):(scl c f).length=f.length:=AB _
theorem RO{n:Nat}{f g:List Gb}(hf:Hm n f)(hg:Hm n g):Hm n (f++g):=λk hk=>NC λF=>by
 have h1:=congrArg (sm F) (hf k hk)
 have h2:=congrArg (sm F) (hg k hk)
 rw[JV,JV]at h1 h2
 have e:Jg (f++g) k=Jg f k++Jg g k:=Au
 rw[e,Kp,Kp,h1,h2]
theorem QC{n:Nat}{f:List Gb}(c:Int)(hf:Hm n f):Hm n (scl c f):=λk hk=>NC λF=>by
 have h1:=congrArg (sm λp=>F p) (hf k hk)
 rw[JV,JV,Kj]at h1
 rw[Kj,Jz,Jz,h1]
theorem lV{n:Nat}{f:List Gb}(hf:Hm n f):Hm n (ngt f):=λk hk=>NC λF=>by
 have h1:=congrArg (sm λp=>F p) (hf k hk)
 rw[JV,JV,Kj]at h1
 rw[Kj,O0,O0,h1]
theorem Py:∀{k:Nat}{a:Pw},k+1<a.length->a.getD k 0<a.getD (k+1) 0->Hj a (swp a k)=true
 |0,x::y::a,_,h=>by
  rw[Lj]
  simp at h
  simp only[Hj]
  rw[AE (by lia)]
  exact AX h
 |k+1,x::a,hk,h=>by
  rw[Ll]
  simp only[Hj]
  rw[AH trivial]
  exact Py (by simpa using hk) (by simpa using h)
 |0,[],hk,_=>by simp at hk
 |0,[_],hk,_=>by simp at hk
 |k+1,[],hk,_=>by simp at hk
theorem aF{n k:Nat}{t:Gb}{r:List Gb}(c:HS (t::r))(h:Hm n (t::r))(l:∀u∈t::r,u.1.length=n)(hk:k+1<n):t.1.getD (k+1) 0<=t.1.getD k 0:=by
 refine Int.not_lt.mp λz=>?_
 have lt:=l t (AJ ..)
 have g:=Py (a:=t.1) (k:=k) (by lia) z
 have e:cf (t::r) (swp t.1 k)=t.2:=by
  have h1:cf (norm (Jg (t::r) k)) (swp t.1 k)=cf (norm (t::r)) (swp t.1 k):=by rw[h k hk]
  rw[Jo,Jo]at h1
  rw[<-h1,Lf,Kj,<-c.head,Lf]
  refine LW λu hu=>?_
  by_cases e:u.1=t.1
  ·rw[AH e,AH (by rw[e])]
  ·rw[AE e,AE λz=>e ?_]
   have:=congrArg (swp · k) z
   rwa [Lp (by rw[l u hu];exact hk),Lp (by lia)]at this
 have z2:cf (t::r) (swp t.1 k)=0:=MB λu hu e2=>by
  rcases (QO c).top u hu with e3|e3
  ·rw[<-e2,e3,Jb]at g;cases g
  ·rw[<-e2]at g
   have:=Lv e3 g
   rw[Jb]at this;cases this
 exact c.num t (AJ ..) (by lia)
theorem eY{left E:List Gb}{p:Pw}{x:Int}(h:Top left p x)(hE:Top E p 1):∀t∈norm (left++ngt (scl x E)),Hj t.1 p=true:=λt ht=>by
 obtain⟨u,hu,e⟩:=J1 ht
 have le:t.1=p∨Hj t.1 p=true:=by
  rw[<-e]
  rcases Aq.mp hu with hu|hu
  ·exact h.top u hu
  ·obtain⟨v,hv,rfl⟩:=AV.mp hu
   obtain⟨v',hv',rfl⟩:=AV.mp hv
   exact hE.top v' hv'
 rcases le with e1|e1
 ·have c0:cf (norm (left++ngt (scl x E))) p=0:=by
   rw[Jo,Pp,h.at_,Lf p (ngt (scl x E)),O0,Jz,<-Lf,hE.at_]
   lia
  have:=O9 (JI _) ht
  rw[e1,c0]at this
  exact absurd this.symm ((JI _).num t ht)
 ·exact e1
theorem lJ{n:Nat}{left E:List Gb}{x:Int}(h:Hm n left)(hE:Hm n E):Hm n (norm (left++ngt (scl x E))):=(RO h (lV (QC x hE))).norm
def key:Pw->Nat
 |[]=>0
 |x::p=>x.toNat*9^p.length+key p
theorem SQ(G:Pw->Pw->Int)(A:List Gb):∀F:List Gb,sm (λp=>sm (λq=>G p q) A) F=sm (λq=>sm (λp=>G p q) F) A
 |[]=>by
  have key:∀A:List Gb,sm (λ_=>(0:Int)) A=0:=by
   intro A
   induction A with
   |nil=>rfl
   |cons t r ih =>
    show t.2*0+sm (λ_=>(0:Int)) r=0
    rw[ih]
    lia
  exact(key A).symm
 |t::r=>by
  show t.2*sm (λq=>G t.1 q) A+sm (λp=>sm (λq=>G p q) A) r=sm (λq=>t.2*G t.1 q+sm (λp=>G p q) r) A
  rw[UR,Nm,SQ G A r]
def Ak(a b:List Gb):Prop:=∀f:Pw->Int,sm f a=sm f b
theorem Ak.refl(a:List Gb):Ak a a:=λ_=>rfl
theorem Ak.symm{a b:List Gb}(h:Ak a b):Ak b a:=λf=>(h f).symm
theorem Ak.trans{a b c:List Gb}(h:Ak a b)(g:Ak b c):Ak a c:=λf=>(h f).trans (g f)
theorem Ak.norm(a:List Gb):Ak (norm a) a:=λf=>JV f a
theorem Ak.of_norm{a b:List Gb}(h:L2.Pl.norm a=L2.Pl.norm b):Ak a b:=λf=>by rw[<-JV f a,h,JV]
theorem Ak.app{a b c d:List Gb}(h:Ak a b)(g:Ak c d):Ak (a++c) (b++d):=λf=>by rw[Kp,Kp,h,g]
theorem Ak.scl{a b:List Gb}(c:Int)(h:Ak a b):Ak (L2.Pl.scl c a) (L2.Pl.scl c b):=λf=>by rw[Jz,Jz,h]
theorem Ak.prd{a b c d:List Gb}(h:Ak a b)(g:Ak c d):Ak (L2.Pl.prd a c) (L2.Pl.prd b d):=λf=>by
 rw[JK,JK,h]
 congr 1
 funext p
 exact g _
theorem NH(a b:List Gb):Ak (prd a b) (prd b a):=λf=>by
 rw[JK,JK,SQ]
 congr 1
 funext q
 congr 1
 funext p
 rw[PY]
theorem Ny(a b c:List Gb):Ak (prd (prd a b) c) (prd a (prd b c)):=λf=>by
 rw[JK,JK,JK]
 congr 1
 funext p
 rw[JK]
 congr 1
 funext q
 congr 1
 funext r
 rw[QS]
theorem Uo(a b c:List Gb):Ak (prd (a++b) c) (prd a c++prd b c):=λf=>by rw[Kp,JK,JK,JK,Kp]
theorem cA(x:Int)(a b:List Gb):Ak (prd (scl x a) b) (scl x (prd a b)):=λf=>by rw[Jz,JK,JK,Jz]
theorem Tl(x:Int)(a b:List Gb):Ak (prd a (scl x b)) (scl x (prd a b)):=(NH a _).trans ((cA x b a).trans ((NH b a).scl x))
theorem Qw(x y:Int)(a:List Gb):Ak (scl x (scl y a)) (scl (x*y) a):=λf=>by rw[Jz,Jz,Jz,Dd]
def Of(n:Nat):List Gb:=[(List.replicate n 0,1)]
theorem RU:∀(n:Nat)(p:Pw),p.length=n->Hv (List.replicate n 0) p=p
 |0,[],_=>rfl
 |n+1,x::p,h=>by
  have:=RU n p (by simpa using h)
  unfold Hv at this ⊢
  rw[A4,CS,this,Dt]
theorem OP{n:Nat}{a:List Gb}(h:∀t∈a,t.1.length=n):Ak (prd (Of n) a) a:=λf=>by
 rw[JK]
 show 1*sm (λq=>f (Hv (List.replicate n 0) q)) a+0=sm f a
 rw[Fh,Int.add_zero]
 exact LW λt ht=>by rw[RU n t.1 (h t ht)]
def Iw(h:Int->List Gb)(n:Nat)(r:List Int):List Gb:=r.foldr (λk acc=>prd (h k) acc) (Of n)
theorem RY{h:Int->List Gb}{n:Nat}(hl:∀k,∀t∈h k,t.1.length=n):∀r:List Int,∀t∈Iw h n r,t.1.length=n
 |[],t,ht=>by rw[AS.mp ht];exact BA
 |k::r,t,ht=>by
  obtain⟨x,hx,hm⟩:=BO.mp ht
  obtain⟨y,hy,rfl⟩:=AV.mp hm
  exact Vf (hl k x hx) (RY hl r y hy)
theorem X5(h:Int->List Gb)(n:Nat){r s:List Int}(p:r.Perm s):Ak (Iw h n r) (Iw h n s):=by
 induction p with
 |nil=>exact Ak.refl _
 |cons x _ ih=>exact(Ak.refl _).prd ih
 |swap x y l=>exact(Ny _ _ _).symm.trans (((NH _ _).prd (Ak.refl _)).trans (Ny _ _ _))
 |trans _ _ ih1 ih2=>exact ih1.trans ih2
theorem aQ{h:Int->List Gb}{n:Nat}(hl:∀k,∀t∈h k,t.1.length=n):∀r s:List Int,Ak (Iw h n (r++s)) (prd (Iw h n r) (Iw h n s))
 |[],s=>(OP (RY hl s)).symm
 |k::r,s=>((Ak.refl _).prd (aQ hl r s)).trans (Ny _ _ _).symm
def hv(h:Int->List Gb)(n:Nat)(T:List Gb):List Gb:=T.flatMap λt=>scl t.2 (Iw h n t.1)
theorem Yo(h:Int->List Gb)(n:Nat)(S T:List Gb):hv h n (S++T)=hv h n S++hv h n T:=Bu
theorem Ph(h:Int->List Gb)(n:Nat)(f:Pw->Int):∀T:List Gb,sm f (hv h n T)=sm (λr=>sm f (Iw h n r)) T
 |[]=>rfl
 |t::T=>by
  show sm f (scl t.2 (Iw h n t.1)++hv h n T)=t.2*sm f (Iw h n t.1)+sm (λr=>sm f (Iw h n r)) T
  rw[Kp,Jz,Ph h n f T]
theorem lC{h:Int->List Gb}{n:Nat}{S T:List Gb}(e:Ak S T):Ak (hv h n S) (hv h n T):=λf=>by rw[Ph,Ph,e]
def JD(d:List Int->List Int)(S T:List Gb):List Gb:=S.flatMap λt=>T.map λu=>(d (t.1++u.1),t.2*u.2)
theorem US{h:Int->List Gb}{n:Nat}(hl:∀k,∀t∈h k,t.1.length=n){d:List Int->List Int}(hd:∀r,(d r).Perm r)(t:Gb):∀T:List Gb,Ak (hv h n (T.map λu=>(d (t.1++u.1),t.2*u.2))) (prd (scl t.2 (Iw h n t.1)) (hv h n T))
 |[]=>λf=>by
  rw[JK]
  show 0=sm (λp=>0) _
  have key:∀A:List Gb,sm (λ_=>(0:Int)) A=0:=by
   intro A
   induction A with
   |nil=>rfl
   |cons t r ih =>
    show t.2*0+sm (λ_=>(0:Int)) r=0
    rw[ih]
    lia
  exact(key _).symm
 |u::T=>by
  rw[Ae]
  show Ak (scl (t.2*u.2) (Iw h n (d (t.1++u.1)))++hv h n (T.map λu=>(d (t.1++u.1),t.2*u.2))) (prd (scl t.2 (Iw h n t.1)) (scl u.2 (Iw h n u.1)++hv h n T))
  have e1:Ak (scl (t.2*u.2) (Iw h n (d (t.1++u.1)))) (prd (scl t.2 (Iw h n t.1)) (scl u.2 (Iw h n u.1))) :=
   (((X5 h n (hd _)).trans (aQ hl _ _)).scl _).trans ((Qw _ _ _).symm.trans (((Tl _ _ _).symm.scl _).trans (cA _ _ _).symm))
  refine(e1.app (US hl hd t T)).trans ?_
  exact((NH _ _).app (NH _ _)).trans ((Uo _ _ _).symm.trans (NH _ _))
theorem T4{h:Int->List Gb}{n:Nat}(hl:∀k,∀t∈h k,t.1.length=n){d:List Int->List Int}(hd:∀r,(d r).Perm r)(T:List Gb):∀S:List Gb,Ak (hv h n (JD d S T)) (prd (hv h n S) (hv h n T))
 |[]=>λf=>by
  rw[JK]
  rfl
 |t::S=>by
  show Ak (hv h n ((T.map λu=>(d (t.1++u.1),t.2*u.2))++JD d S T)) (prd (scl t.2 (Iw h n t.1)++hv h n S) (hv h n T))
  rw[Yo]
  exact((US hl hd t T).app (T4 hl hd T S)).trans (Uo _ _ _).symm
end L2.Pl
namespace L2.Ev
open PySem
open L2.Pl
structure Hd(P:Program)(w:World)(K:W.Frag)(mg:Str->Option Value)(base:Heap)(k:Nat)(x:Str)(ps:List Str)(sp:Sp) where
 f:Addr
 fd:FuncData
 ok:Gw P w K mg base Hk k f fd ps sp
 bd:Ho K fd ps []
 kp:W.keepIn K (.ref f)=true
 at_:mg x=some (.ref f)
def Hd.lift{P:Program}{w:World}{K:W.Frag}{mg:Str->Option Value}{base:Heap}{j k:Nat}{x:Str}{ps:List Str}{sp:Sp}(G:Hd P w K mg base j x ps sp)(h:j<=k):Hd P w K mg base k x ps sp:=⟨G.f,G.fd,G.ok.mono h,G.bd,G.kp,G.at_⟩
def Hd.ql{P:Program}{w:World}{K:W.Frag}{mg:Str->Option Value}{base:Heap}{j k:Nat}{x:Str}{ps:List Str}{sp:Sp}(G:Hd P w K mg base j x ps sp)(h:j<=k:=by decide):Hd P w K mg base k x ps sp:=G.lift h
theorem Hq{X:Cx}{k:Nat}{x:Str}{ps:List Str}{sp:Sp}{p pos:Pos}{e:Expr}{es:List Expr}{t:TA}(G:Hd X.prog X.w X.K X.mg X.base k x ps sp)(hr:Hf k X.A)(hg:Gl X x)
  (ha:PA X (e::es) t) (hdb:(x==("__debug__" : Str))=false:=by decide) (he:starEach (e::es) X.env=(false,eval e X.env)::starEach es X.env:=by rfl) (hpl:(backTo pos (starEach es X.env)).any (·.1)=false:=by rfl) :
  PE X (.Call (.Name x p) (e::es) [] pos) (OG sp [] E0 t):=NI G.ok hr hg G.at_ G.kp G.bd .nil Mw ha hdb he hpl
theorem LD{α:Type}[D:Dat α](l:List α):JG (Dat.eqb (α:=α)) l l=true:=(UP Dat.eqb_iff _ _).mpr rfl
end L2.Ev
namespace L2.Ev
open PySem PyProof.Rows
open L2.Pl
end L2.Ev
namespace L2.Ev
open PySem
open L2.Pl
set_option maxHeartbeats 4000000
end L2.Ev
namespace L2.Ev
open PySem PySem.Spec PyProof.Rows
open PySem.W PySem.Calls
def V1(h:Heap)(e:Addr)(od:Option Addr):Prop:=∃ob,h.get? e=some ob/\ob.dict=od
theorem eG{o:Obj}{f:Array Value->Array Value}:(Obj.mapFields f o).dict=o.dict:=by
 obtain⟨_,_,da,_⟩:=o
 cases da<;>rfl
def Ln(base:Heap)(l:List Env)(e:Addr)(cls a0:Value)(od:Option Addr)(h:Heap):Prop:=Heap.FlyingW base l e cls a0 h/\V1 h e od
section
variable{M:Model}{A:Around}{E:Value->Shared->Prop}{s:Shared}
theorem Qd{base:Heap}{env:Env}{outer:List Env}{L e:Addr}{oe:Obj}{vs:Array Value}{head a0:Value}{hadNext:Bool}{Q:Unit->Shared->Prop}
  (hfr:A.frames=some (env::outer)) (hl:s.heap.FunFrames base (env::outer)) (hf:env.frame=some L)
  (he:s.heap.get? e=some oe) (hkb:base.StaysIn s.heap) (hen:base.get? e=none) (hd:oe.data=.fields vs) (hsz:1<vs.size) (h0:vs[0]?=some a0)
  (h:∀h',Heap.NotedW base (env::outer) e oe.cls a0 (rawInt L) s.heap h'->V1 h' e oe.dict->Q () { s with heap:=h' }) :
  wpAny M A (do let a <-frameOf env;let pl <-entryPlaceOf L hadNext;let b <-EntryCells.newEntry head a .none (rawInt L) .none pl;setField (.ref e) 1 b) Q E s:=by
 have nfr:e∉(env::outer).filterMap (·.frame):=λhm=>by
  obtain⟨_,o,ho,hnf⟩:=hl.mem hm
  rw[he]at ho;cases ho;exact hnf vs hd
 refine AA (wpAny_frameOf_fun hfr hl hf λh1 hs=>AA (wpAny_entryPlaceOf λpl hpl=>?_))
 have e1:h1.get? e=some oe:=(hs.2.1 e nfr).trans he
 have k1:base.StaysIn h1:=λb o z=>(hs.2.1 b λhm=>by rw[(hl.mem hm).1]at z;cases z).trans (hkb b o z)
 have Te:h1.objs.size≠e:=CG (AR e1)
 unfold EntryCells.newEntry newFields
 refine AA (BC ?_ (hpl.sizeOk5 _ _ _ _ _))
 generalize hrec:([head,.ref L,.none,rawInt L,.none]++(if pl.isEmpty then List.replicate 6 Value.none else pl)).toArray=rec
 have r3:rec[3]?=some (rawInt L):=by
  rw[<-hrec]
  simp
 have e2:=AC (h:=h1) { cls:=.type "traceback",dict:=none,data:=.fields rec } e1
 have T2:(h1.push { cls:=.type "traceback",dict:=none,data:=.fields rec }).get? h1.objs.size=some { cls:=.type "traceback",dict:=none,data:=.fields rec }:=AQ h1 rfl
 generalize hp2:h1.push { cls:=.type "traceback",dict:=none,data:=.fields rec }=h2 at e2 T2
 have old2:∀b o,h1.get? b=some o->h2.get? b=some o:=λb o z=>by rw[<-hp2];exact AC _ z
 have d3:=CY hd (·.setIfInBounds 1 (Value.ref h1.objs.size))
 have e3:=BF (Obj.mapFields (·.setIfInBounds 1 (Value.ref h1.objs.size))) e2 (C4 d3)
 have T3:=(An h2 (Obj.mapFields (·.setIfInBounds 1 (Value.ref h1.objs.size))) (Bl Te)).trans T2
 have keep:∀b o,b≠e->h1.get? b=some o->(h2.update e (Obj.mapFields (·.setIfInBounds 1 (Value.ref h1.objs.size)))).get? b=some o:=λb o hb z=>(An _ _ (Bl hb)).trans (old2 b o z)
 have nrec:∀b o,s.heap.get? b=some o->(∀vs,o.data≠.fields vs)->b≠e:=λb o z hnf q=>by
  rw[q,he]at z;cases z;exact hnf vs hd
 refine Cr e2 hd hsz (h _ ⟨λb o z=>keep b o (λq=>by rw[q,hen]at z;cases z) (k1 b o z),hl.of_keeps λb o z hnf=>?_,?_,λb o z hnf=>?_⟩ ⟨_,e3,eG⟩)
 ·obtain⟨sl,q⟩:=hs.2.2 b o z
  exact⟨_,keep b _ (nrec b o z hnf) q,rfl⟩
 ·exact⟨_,_,h1.objs.size,_,_,e3,⟨D6 _ _,by rw[DJ (by decide)];exact h0⟩,d3,by simp [hsz],k1.fresh,Te,T3,rfl,r3⟩
 ·obtain⟨sl,q⟩:=hs.2.2 b o z
  exact⟨sl,keep b _ (nrec b o z hnf) q⟩
theorem PV{base:Heap}{l:List Env}{e:Addr}{cls a0 fl:Value}{od:Option Addr}{Q:Unit->Shared->Prop}
  (hkb:base.StaysIn s.heap) (hen:base.get? e=none) (hl:s.heap.FunFrames base l) (ht:s.heap.TracedAtW base e cls a0 fl) (hd0:V1 s.heap e od)
  (h:∀h',Ln base l e cls a0 od h'->s.heap.UpToSlots h'->Q () { s with heap:=h' }):wpAny M A (setFlight (.ref e) none) Q E s:=by
 obtain⟨oe,vs,T,oT,ts,he,hcls,hd,h1,hnT,hTe,hT,hdT,h3⟩:=ht
 obtain⟨ob,hob,hod⟩:=hd0
 rw[he]at hob
 cases hob
 have z3:3<ts.size:=(Bo.mp h3).1
 have dT:=CY hdT (·.setIfInBounds 3 ((none:Option Addr).elim Value.none λf=>rawInt f))
 have oth:∀b,b≠T->(s.heap.update T (Obj.mapFields (·.setIfInBounds 3 ((none:Option Addr).elim Value.none λf=>rawInt f)))).get? b=s.heap.get? b:=λb hb=>An _ _ (Bl hb)
 have nrec:∀b o,s.heap.get? b=some o->(∀vs,o.data≠.fields vs)->b≠T:=λb o hb hnf q=>by
  rw[q,hT]at hb;cases hb;exact hnf ts hdT
 have he':=(oth e (Bl hTe)).trans he
 unfold setFlight
 refine AA (BI he hd h1 ?_)
 rw[AH (show(Value.ref T != Value.none)=true from by simp)]
 refine Cr hT hdT z3 (h _ ⟨⟨λb o z=>(oth b λq=>by rw[q,hnT]at z;cases z).trans (hkb b o z),hen,hl.of_keeps λb o hb hnf=>⟨o,(oth b (nrec b o hb hnf)).trans hb,rfl⟩,?_⟩,⟨oe,he',hod⟩⟩ λb o hb hnf=>⟨o.slots,(oth b (nrec b o hb hnf)).trans hb⟩)
 exact⟨oe,vs,T,_,_,he',hcls,hd,h1,hnT,hTe,BF _ hT (C4 dT),dT,by simp [z3]⟩
theorem Nh{base:Heap}{env:Env}{outer:List Env}{L e:Addr}{cls a0:Value}{od:Option Addr}{Q:Unit->Shared->Prop}
  (hfr:A.frames=some (env::outer)) (hf:env.frame=some L) (hfl:Ln base (env::outer) e cls a0 od s.heap)
  (h:∀h',Heap.HeldW base (env::outer) e cls a0 L h'->V1 h' e od->s.heap.UpToSlots h'->Q () { s with heap:=h' }):wpAny M A (noteFrame (.ref e) env) Q E s:=by
 obtain⟨⟨f1,f2,f3,oe,vs,T,oT,ts,he,⟨hcls,h0⟩,hd,h1,hnT,hTe,hT,hdT,h3⟩,od',hod,hdd⟩:=hfl
 rw[he]at hod
 cases hod
 subst hcls hdd
 unfold noteFrame
 simp only[hf]
 refine AA (BI he hd h1 ?_)
 rw[AH (show(Value.ref T != Value.none)=true from by simp)]
 refine AA (BI hT hdT h3 ?_)
 rw[AE (show ¬ ((Value.none==rawInt L)=true) from by simp [rawInt])]
 refine AA (Cr hT hdT (Bo.mp h3).1 ?_)
 have oth:∀b,b≠T->(s.heap.update T (Obj.mapFields (·.setIfInBounds 3 Value.none))).get? b=s.heap.get? b:=λb hb=>An _ _ (Bl hb)
 have nrec:∀b o,s.heap.get? b=some o->(∀vs,o.data≠.fields vs)->b≠T:=λb o hb hnf q=>by
  rw[q,hT]at hb;cases hb;exact hnf ts hdT
 refine Qd hfr (f3.of_keeps λb o hb hnf=>⟨o,(oth b (nrec b o hb hnf)).trans hb,rfl⟩) hf ((oth e (Bl hTe)).trans he)
  (λb o z=>(oth b λq=>by rw[q,hnT]at z;cases z).trans (f1 b o z)) f2 hd (Bo.mp h1).1 h0 λh' ⟨x1,x2,x3,x4⟩ xd=>?_
 exact h h' ⟨x1,f2,x2,x3⟩ xd λb o hb hnf=>x4 b o ((oth b (nrec b o hb hnf)).trans hb) hnf
theorem WO{base:Heap}{env:Env}{outer:List Env}{L e:Addr}{cls a0:Value}{od:Option Addr}{Q:Unit->Shared->Prop}
  (hfr:A.frames=some (env::outer)) (hf:env.frame=some L) (hfl:Ln base (env::outer) e cls a0 od s.heap)
  (hQ:∀h',Ln base outer e cls a0 od h'->s.heap.UpToSlots h'->Q () { s with heap:=h' }):wpAny M A (leaving env (.ref e)) Q E s:=by
 unfold leaving
 refine AA (Nh hfr hf hfl λh1 ⟨k1,k2,k3,k4⟩ kd sm=>PV (s:={ s with heap:=h1 }) k1 k2 k3 k4 kd λh2 ⟨⟨x1,x2,⟨_,_,x3⟩,x4⟩,xd⟩ sm2=>?_)
 exact hQ h2 ⟨⟨x1,x2,x3,x4⟩,xd⟩ (sm.trans sm2)
theorem Ud{base:Heap}{env:Env}{outer:List Env}{L e:Addr}{oe:Obj}{vs:Array Value}{a0:Value}{Q:Unit->Shared->Prop}
  (hfr:A.frames=some (env::outer)) (hl:s.heap.FunFrames base (env::outer)) (hf:env.frame=some L)
  (he:s.heap.get? e=some oe) (hkb:base.StaysIn s.heap) (hen:base.get? e=none) (hd:oe.data=.fields vs) (h1:vs[1]?=some .none) (h0:vs[0]?=some a0)
  (hQ:∀h',Ln base outer e oe.cls a0 oe.dict h'->s.heap.UpToSlots h'->Q () { s with heap:=h' }):wpAny M A (leaving env (.ref e)) Q E s:=by
 unfold leaving noteFrame
 simp only[hf]
 refine AA (AA (BI he hd h1 ?_))
 rw[AE (by decide)]
 refine Qd hfr hl hf he hkb hen hd (Bo.mp h1).1 h0 λh1 ⟨k1,k3,k4,sm⟩ kd=>PV (s:={ s with heap:=h1 }) k1 hen k3 k4 kd λh2 ⟨⟨x1,x2,⟨_,_,x3⟩,x4⟩,xd⟩ sm2=>?_
 exact hQ h2 ⟨⟨x1,x2,x3,x4⟩,xd⟩ (Heap.UpToSlots.trans sm sm2)
end
end L2.Ev
namespace L2.Ev
open PySem PySem.Spec PyProof.Rows
open L2.Pl
theorem HM.got{P:Program}{w:World}{H:Hp}{h:Heap}{a:Addr}{o:HO}(x:HM P w H h a o):∃ob,h.get? a=some ob:=by
 cases o with
 |lst xs=>obtain⟨_,_,_,_,e⟩:=x;exact⟨_,e⟩
 |tup xs=>obtain⟨_,_,_,ob,e,_⟩:=x;exact⟨_,e⟩
 |dK kvs=>obtain⟨_,_,_,_,o,_,_,e,_⟩:=x;exact⟨_,e⟩
 |dT kvs=>obtain⟨_,_,_,_,o,_,_,e,_⟩:=x;exact⟨_,e⟩
 |set S n=>obtain⟨o,_,_,_,e,_⟩:=x;exact⟨_,e⟩
 |ins C dx fs=>obtain⟨_,_,_,e,_⟩:=x;exact⟨_,e⟩
 |own y=>exact x
 |xd fs=>obtain⟨_,⟨_,_,_,e,_⟩,_⟩:=x;exact⟨_,e⟩
 |rng lo hi=>obtain⟨_,_,_,e⟩:=x;exact⟨_,e⟩
 |frz ob u=>obtain⟨e,_⟩:=x;exact⟨_,e⟩
 |tbl ps=>exact⟨_,(show h.get? a=some _ from x)⟩
 |met f y=>exact⟨_,(show h.get? a=some _ from x)⟩
 |ext φ=>obtain⟨_,e,_⟩:=x;exact e
structure Bs(l:List Env)(H:Hp)(h:Heap)(H':Hp)(B:Heap):Prop where
 old:∀b o,h.get? b=some o->b∉IQ l->∃o',B.get? b=some o'/\(H b=none->o'=o)
 trk:∀b u,H' b=some u->∃o,B.get? b=some o
structure pR(P:Program)(w:World)(l:List Env)(H:Hp)(s:Shared)(a:Addr)(cls a0:Value)(od:Option Addr)(H':Hp)(s':Shared):Prop where
 os:s'.os=s.os
 bare:AllBare s'.gens
 un:Un (IQ l) [] H H' s.heap s'.heap
 hok:IN P w H' s'.heap
 fly:∃B,Bs l H s.heap H' B/\Ln B l a cls a0 od s'.heap
def IB(P:Program)(w:World):Jl:=λl H s E e s'=>∃a cls a0 od H',e=.ref a/\pR P w l H s a cls a0 od H' s'/\E cls od H'
section
variable{X:Cx}{Fo:List (Addr×Obj)}{σ:St}{H H':Hp}{s s':Shared}{B:Heap}
theorem O1(I:Inv X Fo σ H s)(os:s'.os=s.os)(bare:AllBare s'.gens)(un:Un (IQ X.stack) [] H H' s.heap s'.heap)(hok:IN X.prog X.w H' s'.heap)(bs:Bs X.stack H s.heap H' B)(st0:B.StaysIn s'.heap){h':Heap}(st:B.StaysIn h')(sm:s'.heap.UpToSlots h') :
  Inv X Fo σ H' { s' with heap:=h' }:=by
 have fr:∀b o,s.heap.get? b=some o->b∈IQ X.stack->∀vs,o.data≠.fields vs:=λb o e hb=>by
  obtain⟨_,o',e',d⟩:=I.stack.mem hb
  rw[e]at e';cases e'
  exact d
 have slot:∀b o,s.heap.get? b=some o->b∈IQ X.stack->∃sl,h'.get? b=some { o with slots:=sl }:=λb o e hb=>by
  obtain⟨sl,e1⟩:=un.slot b o e (I.stkFree b hb) hb (by simp)
  obtain⟨sl2,e2⟩:=sm b _ e1 (fr b o e hb)
  exact⟨sl2,e2⟩
 refine I.call' (s':={ s' with heap:=h' }) (ch:=[]) os ⟨λb o e n hb _=>?_,λb o e n hb _=>slot b o e hb,un.free,λb o e _=>?_,un.tups,un.frzs,un.tbls⟩ (λb u e=>?_) bare λb hb=>by simp at hb
 ·obtain⟨o',e1,e2⟩:=bs.old b o e hb
  rw[e2 n]at e1
  exact st _ _ e1
 ·by_cases hb:b∈IQ X.stack
  ·obtain⟨sl,e1⟩:=slot b o e hb
   exact⟨_,e1⟩
  ·obtain⟨o',e1,_⟩:=bs.old b o e hb
   exact⟨o',st _ _ e1⟩
 ·have key:∀c v u',H' c=some u'->s'.heap.get? c=some v->h'.get? c=some v:=λc v u' hc q=>by
   obtain⟨o,e1⟩:=bs.trk c u' hc
   have:=st0 _ _ e1
   rw[q]at this
   cases this
   exact st _ _ e1
  refine(hok b u e).stay (λc v hc q=>?_) (λ_ q=>q) λ_ _ q=>q
  rcases hc with z|z
  ·subst z;exact key c v u e q
  ·exact key c v _ z q
end
section
variable{P:Program}{w:World}{K:W.Frag}{mg:Str->Option Value}{base:Heap}{N:List Str}{qual:Str}{scope:Scope}{f:Addr}{HQ:Value}{A:Around}{outer:List Env}{s0:Shared}{H0:Hp}{E:XK}
theorem QD{Fo:List (Addr×Obj)}{σ:St}{H H':Hp}{s s':Shared}{B:Heap}{a:Addr}{cls a0:Value}{od:Option Addr}(I:Inv (Il (IB P w) P w K mg base N qual scope f HQ A outer s0 H0 E) Fo σ H s)(I':Inv (Il (IB P w) P w K mg base N qual scope f HQ A outer s0 H0 E) Fo σ H' s')
  (bs:Bs (Il (IB P w) P w K mg base N qual scope f HQ A outer s0 H0 E).stack H s.heap H' B) (fl:Ln B outer a cls a0 od s'.heap):pR P w outer H0 s0 a cls a0 od H' s':=by
 refine⟨I'.os,I'.bare,I'.base,I'.hok,B,⟨λb o e hb=>?_,bs.trk⟩,fl⟩
 obtain⟨o1,e1⟩:=I.base.there b o e (by show b∉([]:List Addr);simp)
 have hL:b∉IQ (Il (IB P w) P w K mg base N qual scope f HQ A outer s0 H0 E).stack:=λz=>by
  rcases AO.mp (I.stkSub b z) with z|z
  ·have:=I.ok.above
   have:=AR e
   rw[z]at this
   exact absurd (Ao this I.ok.above) (B7 _)
  ·exact hb z
 obtain⟨o2,e2,e3⟩:=bs.old b o1 e1 hL
 refine⟨o2,e2,λn=>?_⟩
 have k:=I.base.keep b o e n hb (by show b∉([]:List Addr);simp)
 rw[e1]at k
 cases k
 exact e3 (I.base.free b o e n (by show b∉([]:List Addr);simp))
theorem Jp:Od (IB P w) (Il (IB P w) P w K mg base N qual scope f HQ A outer s0 H0 E) E:=by
 rintro Fo σ H s e s' I ⟨a,cls,a0,od,H',rfl,F,hE⟩
 obtain⟨os,bare,un,hok,B,bs,fl⟩:=F
 show wpAny _ _ (leaving _ (.ref a)) _ _ s'
 refine WO (outer:=outer) I.ok.frames rfl fl λh' fl' sm=>?_
 have I':=O1 I os bare un hok bs fl.1.1 fl'.1.1 sm
 exact⟨a,cls,a0,od,H',rfl,QD I I' bs fl',hE⟩
def Rs(X:Cx)(E:XK):Prop:=∀(Fo:List (Addr×Obj))(σ:St)(H:Hp)(s:Shared)(h2:Heap)(e C:Addr)(vs:List Value),Inv X Fo σ H s->Heap.MadeExcOf s.heap h2 e (.ref C) vs->E (.ref C) none H->X.xe (.ref e) { s with heap:=h2 }
theorem Vs:Rs (Il (IB P w) P w K mg base N qual scope f HQ A outer s0 H0 E) E:=by
 intro Fo σ H s h2 e C vs I hx hE
 show wpAny _ _ (leaving _ (.ref e)) _ _ _
 have hin:∀env∈(Il (IB P w) P w K mg base N qual scope f HQ A outer s0 H0 E).stack,∀b,env.frame=some b->b∈IQ (Il (IB P w) P w K mg base N qual scope f HQ A outer s0 H0 E).stack:=λenv he b hb=>Dp.mpr ⟨env,he,hb⟩
 have bs:Bs (Il (IB P w) P w K mg base N qual scope f HQ A outer s0 H0 E).stack H s.heap H (W.hideAll s.heap (IQ (Il (IB P w) P w K mg base N qual scope f HQ A outer s0 H0 E).stack)):=by
  refine⟨λb o e hb=>⟨o,EX _ e hb,λ_=>rfl⟩,λb u e=>?_⟩
  obtain⟨o,q⟩:=HM.got (I.hok b u e)
  exact⟨o,EX _ q λz=>by rw[I.stkFree b z]at e;cases e⟩
 have st0:(W.hideAll s.heap (IQ (Il (IB P w) P w K mg base N qual scope f HQ A outer s0 H0 E).stack)).StaysIn h2:=λb o q=>hx.keeps b o (Eh _ q)
 obtain⟨t,he,htn,ht⟩:=hx.there
 have hen:(W.hideAll s.heap (IQ (Il (IB P w) P w K mg base N qual scope f HQ A outer s0 H0 E).stack)).get? e=none:=by
  cases hq:(W.hideAll s.heap (IQ (Il (IB P w) P w K mg base N qual scope f HQ A outer s0 H0 E).stack)).get? e with
  |none=>rfl
  |some o'=>have:=Eh _ hq;rw[hx.new]at this;cases this
 refine Ud (s:={ s with heap:=h2 }) (outer:=outer) (a0:=.ref t) I.ok.frames ((W.funFrames_hide I.stack hin).of_keeps λb o hb _=>⟨o,hx.keeps b o hb,rfl⟩) rfl he st0 hen rfl rfl rfl λh' fl sm=>?_
 have I':=O1 (s':={ s with heap:=h2 }) I rfl I.bare (Un.kept hx.keeps) (I.hok.kept hx.keeps) bs st0 fl.1.1 sm
 exact⟨e,.ref C,.ref t,none,H,rfl,QD I I' bs fl,hE⟩
theorem Hg.okx{x qual:Str}{st:Stmt}{f:Addr}{fd:FuncData}{N ps:List Str}{k:Nat}{sp:Sp}(F:Hg K x qual st f fd)(S:Gj N ps (HW st))(len:∀vs H Q E,sp vs H Q E->vs.length=ps.length)
  (Ie:∀(HQ:Value)(A:Around)(outer:List Env)(s:Shared)(H:Hp)(vs:List V)(Q:VK)(E:XK),Hf k (A.deeper (envOfC qual (HW st) s.heap.objs.size f HQ))->sp vs H Q E ->
   ∃t,Ii (Il (IB P w) P w K mg base N qual (HW st) f HQ A outer s H E) (Kz st) t/\t { nx:=λ_ H'=>Q .non H',rt:=Q } (start N vs) H):Gw P w K mg base (IB P w) (k+1) f fd ps sp:=by
 obtain⟨oc,od,kV,doc,pm,an,HQ,ct,osl,rfl,lk,hcd⟩:=F.ex
 exact Q7 lk hcd S len λA outer s H vs Q E hr hsp=>Ie HQ A outer s H vs Q E hr hsp
end
theorem XN{K:W.Frag}{h:Heap}{C:Addr}{bmB:List Value}{newId:String}(X:K.In h)(q:W.excIn K C bmB newId=true) :
  ∃bm N nm qn bs hdct sn sub ab col dd k0 k1 k2 k3 k5 mN,h.get? C=some (excClassObj nm qn C N bs bm hdct sn sub ab col dd k0 k1 k2 k3 k5 newId)/\h.Ns N mN/\mN "__init__" = none/\OwnTail h bmB bm:=by
 unfold W.excIn at q
 split at q
 ·rename_i dd cd sl ho
  split at q
  ·rename_i C' bm k0 k1 k2 k3 n k5 hm hs
   simp only[AM,E9,E3]at q
   obtain⟨⟨⟨⟨⟨rfl,rfl⟩,hdel⟩,ht⟩,hok⟩,hni⟩:=q
   obtain⟨nm,bs,mro,ns,qn,hd,sn,sub,ab,col,del⟩:=cd
   dsimp only at hm hdel hok hni
   subst hm hdel
   have hsl:sl=#[k0,k1,k2,k3,some (.builtin n),k5]:=by
    obtain⟨l⟩:=sl
    simp only at hs
    rw[hs]
   subst hsl
   exact⟨bm,ns,nm,qn,bs,hd,sn,sub,ab,col,dd,k0,k1,k2,k3,k5,_,X _ _ ho,.of_isNs (W.isNs_of_in X hok),W.nsMap_none_of_in X hok hni,W.tail_of_in X ht⟩
  ·cases q
 ·cases q
def aD(C:Addr)(E:XK)(ta:TA):TS:=λ_ σ H=>ta σ H λvs H1=>vs.length<=sizeLine/\E (.ref C) none H1
theorem VD{X:Cx}{E:XK}{x:Str}{C:Addr}{bmB:List Value}{B newId initId:String}{np cpos pos:Pos}{e:Expr}{es:List Expr}{ta:TA}(hc:X.calm=true)(R:Rs X E)(FB:ExcBaseFacts B newId initId bmB)(hg:Gl X x)(hm:X.mg x=some (.ref C))(q:W.excIn X.K C bmB newId=true)
  (ha:PA X (e::es) ta) (hdb:(x==("__debug__" : Str))=false:=by decide) (he:starEach (e::es) X.env=(false,eval e X.env)::starEach es X.env:=by rfl) (hpl:(backTo cpos (starEach es X.env)).any (·.1)=false:=by rfl) :
  PS X (.Raise (some (.Call (.Name x np) (e::es) [] cpos)) none pos) (aD C E ta):=by
 intro Fo s σ H D I h
 obtain⟨bm,N,nm,qn,bs,hdct,sn,sub,ab,col,dd,k0,k1,k2,k3,k5,mN,hC,hN,hni,T⟩:=XN I.mod.kin q
 refine wpAny_Raise_call_subT (C:=C) (nm:=nm) (q:=qn) (N:=N) (bs:=bs) (bm:=bm) (hdct:=hdct) (sn:=sn) (sub:=sub) (ab:=ab) (col:=col) (dd:=dd) (k0:=k0) (k1:=k1) (k2:=k2) (k3:=k3) (k5:=k5)
  FB (mN:=mN) (T.hasType FB.hasBase) (I.ok.hd hc) (by rw[he];show(false||(backTo cpos (starEach es X.env)).any (·.1))=false;rw[hpl];rfl) hni (NA I hg hm ⟨rfl,?_⟩ hdb)
 have h0:=ha cpos Fo s σ H _ I h
 rw[he]at h0 ⊢
 refine DY (BL h0 (λus s2 ⟨vs,H1,I1,r,hl,hE⟩=>?_) λ_ _ y=>y)
 refine⟨rfl,by rw[<-r.length];exact hl,I1.bk _ _ hC,hN.keeps I1.bk,T.keeps I1.bk,λh' e' hx=>R Fo σ H1 s2 h' e' C us I1 hx hE⟩
theorem oU{K:W.Frag}{M:Model}{A:Around}{E:Value->Shared->Prop}{s:Shared}{e C C0:Addr}{oe:Obj}{Q:Bool->Shared->Prop}(X:K.In s.heap)(he:s.heap.get? e=some oe)(hc:oe.cls=.ref C)
  (k1:W.kitCls K (.ref C) (.ref C0)=some true) (k2:W.kitCls K (.ref C0) (.type "BaseException")=some true) (h:Q true s):wpAny M A (excMatches (.ref e) (.ref C0)) Q E s:=by
 obtain⟨t1,i1,s1⟩:=W.kit_cls (M:=M) X k1
 obtain⟨_,_,s2⟩:=W.kit_cls (M:=M) X k2
 have keep:∀b o,s.heap.get? b=some o->s.heap.get? b=some o:=λ_ _ q=>q
 unfold excMatches isInstance
 refine AA (AA (t1 A _ _ s keep (Ef tc_notTuple ?_)))
 simp only[A5,Bb]
 refine AA (AD ?_)
 simp only[Do,Fy]
 unfold isExcClass
 refine AA (AA (AA (AA (i1 A _ _ s keep ?_))))
 simp only[CA]
 refine s2 A _ _ s keep ?_
 simp only[Gm,A5,Bb]
 refine AD (AD ?_)
 have ty:W.Looks M s.heap (typeOf (.ref e)) (.ref C):=hc▸(ED he).andThen .now
 refine AA (ty A _ _ s keep ?_)
 refine AA (AA (AA (s1 A _ _ s keep ?_)))
 simp only[CA]
 refine AD (AD ?_)
 exact AD h
def xE(a:Addr)(cls:Value)(od:Option Addr):HO:=.ext λh=>∃ob vs,h.get? a=some ob/\ob.cls=cls/\ob.data=.fields vs/\ob.dict=od
section
variable{X:Cx}{Fo:List (Addr×Obj)}{σ:St}{H H':Hp}{s s':Shared}{B:Heap}{a:Addr}{cls a0:Value}{od:Option Addr}
theorem Tj(I:Inv X Fo σ H s)(I':Inv X Fo σ H' s')(bs:Bs X.stack H s.heap H' B)(fl:Ln B X.stack a cls a0 od s'.heap):Inv X Fo σ (Gi H' a (xE a cls od)) s'/\H' a=none:=by
 obtain⟨⟨st,hB,ff,oe,vs,T,oT,ts,he,⟨hc,_⟩,hd,_⟩,ox,hox,hod⟩:=fl
 rw[he]at hox
 cases hox
 have hn:H' a=none:=by
  cases q:H' a with
  |none=>rfl
  |some u=>obtain⟨o,e⟩:=bs.trk a u q;rw[hB]at e;cases e
 have notfr:a∉IQ X.stack:=λz=>by
  obtain⟨_,o,e,d⟩:=ff.mem z
  rw[he]at e;cases e
  exact d vs hd
 have notold:∀o,s.heap.get? a=some o->False:=λo e=>by
  obtain⟨o',e',_⟩:=bs.old a o e notfr
  rw[hB]at e';cases e'
 have s0n:∀o,X.s₀.heap.get? a=some o->a∉X.ex->False:=λo e hx=>by
  obtain⟨o',e'⟩:=I.base.there a o e hx
  exact notold o' e'
 have nL:X.env.locals≠a:=λz=>by
  obtain⟨m,⟨o,es,ep,ho,hd',_⟩,_⟩:=I'.loc
  rw[z,he]at ho;cases ho
  rw[hd]at hd';cases hd'
 have nC:∀x c,X.env.cells.lookup x=some c->c≠a:=λx c e z=>by
  obtain⟨v,o,ho,hd'⟩:=I'.cell x c e
  rw[z,he]at ho;cases ho
  rw[hd]at hd';cases hd'
 have nP:∀p∈X.pn++Fo,p.1≠a:=λp hp z=>by
  obtain⟨e,_⟩:=I.pin p hp
  rw[z]at e
  exact notold _ e
 have neq:∀b u,H' b=some u->b≠a:=λb u e z=>by rw[z,hn]at e;cases e
 refine⟨⟨I'.ok,I'.os,I'.bare,⟨I'.base.keep,I'.base.slot,λb o e n hx=>?_,I'.base.there,λb xs e=>?_,λb o u e=>?_,λb ps e=>?_⟩,I'.loc,I'.cell,?_,λx c e=>?_,λp hp=>?_,λb u e=>?_,I'.len⟩,hn⟩
 ·have q:=I'.base.free b o e n hx
  by_cases z:b=a
  ·subst z;exact(s0n o e hx).elim
  ·rw[Ha z];exact q
 ·have q:=I'.base.tups b xs e
  rw[Ha (neq _ _ q)];exact q
 ·have q:=I'.base.frzs b o u e
  rw[Ha (neq _ _ q)];exact q
 ·obtain⟨more,q⟩:=I'.base.tbls b ps e
  exact⟨more,by rw[Ha (neq _ _ q)];exact q⟩
 ·rw[Ha nL];exact I'.free
 ·rw[Ha (nC x c e)];exact I'.freeC x c e
 ·obtain⟨q1,q2,q3⟩:=I'.pin p hp
  exact⟨q1,by rw[Ha (nP p hp)];exact q2,q3⟩
 ·by_cases z:b=a
  ·subst z
   rw[Gu]at e
   cases e
   exact⟨⟨oe,vs,he,hc,hd,hod⟩,⟨oe,he⟩,λh1 h2 ⟨ob,ws,k1,k2,k3⟩ k=>⟨ob,ws,k _ k1,k2,k3⟩⟩
  ·rw[Ha z]at e
   exact(I'.hok b u e).stay (λ_ _ _ q=>q) (λc q=>by rw[Ha (neq _ _ q)];exact q) λc xs q=>by rw[Ha (neq _ _ q)];exact q
theorem Ub{M:Model}{A:Around}{E:Value->Shared->Prop}{i:Nat}{x:Str}{pos:Pos}{Q:Unit->Shared->Prop}(I:Inv X Fo σ H s)(hN:X.N.Nodup)(hi:X.N[i]?=some x)(hx:X.env.scope.names.lookup x=some .local)
  (h:∀s',Inv X Fo (σ.set i none) H s'->Q () s'):wpAny M A (do bindName X.env x .none;unbindBehindTheSuite X.env x pos) Q E s:=by
 obtain⟨m,hn,hl⟩:=id I.loc
 have hcls:(X.env.scope.kind==.class||(X.env.scope.kind==.module&&X.env.locals != X.env.globals))=false:=by rw[I.ok.kind];rfl
 have hiσ:i<σ.length:=by rw[I.len];exact(Ab.mp hi).1
 have cne:=I.cne
 refine wpAny_nameGoes_keeps hx hn hcls λh' v hn' hs=>?_
 obtain⟨oL,_,_,hoL,_⟩:=id hn
 refine h _ ⟨I.ok,I.os,I.bare,⟨λb o e n hb hx=>?_,λb o e n hb hx=>?_,I.base.free,λb o e hx=>?_,I.base.tups,I.base.frzs,I.base.tbls⟩,⟨_,hn',λj y v' e1 e2 e3=>?_⟩,λy c e=>?_,I.free,I.freeC,λp hp=>?_,λb ob e=>?_,by simpa using I.len⟩
 ·exact(hs.2 b (As (Ao (AR e) I.ok.above))).trans (I.base.keep b o e n hb hx)
 ·obtain⟨sl,e1⟩:=I.base.slot b o e n hb hx
  exact⟨sl,(hs.2 b (As (Ao (AR e) I.ok.above))).trans e1⟩
 ·obtain⟨o',e1⟩:=I.base.there b o e hx
  exact⟨o',(hs.2 b (As (Ao (AR e) I.ok.above))).trans e1⟩
 ·by_cases hj:j=i
  ·subst hj
   rw[DQ hiσ]at e2
   cases e2
  ·rw[EJ (Bl hj)]at e2
   obtain⟨u',r',q⟩:=hl j y v' e1 e2 e3
   refine⟨u',r',?_⟩
   rcases q with⟨k,e⟩|⟨k,c,e,z⟩
   ·refine .inl ⟨k,?_⟩
    have:y≠x:=λe=>hj (ZO hN e1 (e▸hi))
    simp [this,e]
   ·exact .inr ⟨k,c,e,z.sameBut hs (cne y c e)⟩
 ·obtain⟨w',z⟩:=I.cell y c e
  exact⟨w',z.sameBut hs (cne y c e)⟩
 ·obtain⟨e,n,ne,nf,d⟩:=I.pin p hp
  exact⟨(hs.2 p.1 ne).trans e,n,ne,nf,d⟩
 ·refine(I.hok b ob e).stay (λc w' hc q=>(hs.2 c ?_).trans q) (λ_ q=>q) λ_ _ q=>q
  intro z
  rcases hc with hc|hc
  ·rw[<-hc,z,I.free]at e;cases e
  ·rw[z,I.free]at hc;cases hc
end
abbrev Cx.mk1(X:Cx)(e:Value):Cx:={ X with A:=X.A.mark (some e),calm:=false,xe:=λ_ _=>False }
abbrev Cx.pin1(X:Cx)(pn:List (Addr×Obj))(T:Value->Shared->Prop):Cx:={ X with pn:=pn,xe:=T }
section
variable{X:Cx}{Fo:List (Addr×Obj)}{σ:St}{H:Hp}{s:Shared}
theorem lX(ok:X.Ok)(e:Value):(Cx.mk1 X e).Ok:=⟨ok.mod,ok.kind,ok.glob,ok.blt,ok.above,ok.inj,ok.has,ok.cab,λz=>(by cases z),ok.frames,ok.stk,ok.exf,ok.bs,ok.bsz,ok.noex,ok.exfs,ok.funs,ok.frf⟩
theorem Vj(I:Inv X Fo σ H s)(e:Value):Inv (Cx.mk1 X e) Fo σ H s:=⟨lX I.ok e,I.os,I.bare,I.base,I.loc,I.cell,I.free,I.freeC,I.pin,I.hok,I.len⟩
theorem SB(ok:X.Ok){e:Value}(I:Inv (Cx.mk1 X e) Fo σ H s):Inv X Fo σ H s:=⟨ok,I.os,I.bare,I.base,I.loc,I.cell,I.free,I.freeC,I.pin,I.hok,I.len⟩
theorem cF(ok:X.Ok)(pn:List (Addr×Obj))(T:Value->Shared->Prop):(Cx.pin1 X pn T).Ok:=⟨ok.mod,ok.kind,ok.glob,ok.blt,ok.above,ok.inj,ok.has,ok.cab,ok.hd,ok.frames,ok.stk,ok.exf,ok.bs,ok.bsz,ok.noex,ok.exfs,ok.funs,ok.frf⟩
theorem QU(I:Inv X Fo σ H s)(T:Value->Shared->Prop):Inv (Cx.pin1 X (X.pn++Fo) T) [] σ H s:=⟨cF I.ok _ T,I.os,I.bare,I.base,I.loc,I.cell,I.free,I.freeC,λp hp=>I.pin p (by rw[BN]at hp;exact hp),I.hok,I.len⟩
theorem Lz(ok:X.Ok){T:Value->Shared->Prop}{pins':List (Addr×Obj)}(I:Inv (Cx.pin1 X (X.pn++Fo) T) pins' σ H s):Inv X Fo σ H s:=⟨ok,I.os,I.bare,I.base,I.loc,I.cell,I.free,I.freeC,λp hp=>I.pin p (A6 _ hp),I.hok,I.len⟩
end
def Pc(X:Cx)(σ0:St)(E:XK):Prop:=∀(Fo:List (Addr×Obj))(H:Hp)(s:Shared)(e:Value)(s':Shared),Inv X Fo σ0 H s->IB X.prog X.w X.stack H s E e s'->X.xe e s'
def bA(σ0:St)(sp:Sp)(E:XK)(t:TA):TE:=λσ H Q=>σ=σ0/\t σ H λvs H1=>sp vs H1 Q E
theorem R1{X:Cx}{k:Nat}{f:Addr}{fd:FuncData}{ps:List Str}{sp:Sp}{E:XK}{σ0:St}{x:Str}{p pos:Pos}{e:Expr}{es:List Expr}{t:TA}(F:Gw X.prog X.w X.K X.mg X.base (IB X.prog X.w) k f fd ps sp)(hr:Hf k X.A)(hg:Gl X x)(hm:X.mg x=some (.ref f))(hk:W.keepIn X.K (.ref f)=true)(hb:Ho X.K fd ps [])(hx:Pc X σ0 E)
  (ha:PA X (e::es) t) (hdb:(x==("__debug__" : Str))=false:=by decide) (he:starEach (e::es) X.env=(false,eval e X.env)::starEach es X.env:=by rfl) (hpl:(backTo pos (starEach es X.env)).any (·.1)=false:=by rfl) :
  PE X (.Call (.Name x p) (e::es) [] pos) (bA σ0 sp E t):=by
 intro Fo s σ H Q I h
 obtain⟨rfl,h⟩:=h
 refine BK (NA I hg hm ?_ hdb)
 refine Ej (h₀:=X.base) I.ok.mod.kin hk (HY (ha pos Fo s σ H _ I h) λus s1 ⟨vs,H1,I1,r,q⟩=>⟨I1.kIn,?_⟩) he hpl
 have hl:us.length=ps.length:=by rw[<-r.length];exact F.len _ _ _ _ q
 have hbd:=hb s1 us I1.kIn (by rw[BN];exact hl)
 rw[BN]at hbd
 refine E6 (DX (F.run X.A X.stack s1 H1 ⟨us,[]⟩ us vs Q E hr I1.env0 hbd r q) λr' s' hq=>?_)
 cases r' with
 |error e'=>exact hx Fo H1 s1 e' s' I1 hq
 |ok fl =>
  cases fl with
  |ret u=>exact I1.after hq
  |next=>exact False.elim hq
  |brk=>exact False.elim hq
  |cont=>exact False.elim hq
def EH(K:W.Frag)(C0:Addr)(i j:Nat)(D:Iq)(σ:St):XK:=λcls od H'=>∃C:Addr,cls=.ref C/\W.kitCls K (.ref C) (.ref C0)=some true /\
 ∀a,H' a=none->D.nx (((σ.set i (some (.ref a))).set j (some (.ref a))).set i none) (Gi H' a (xE a cls od))
theorem Xk{X:Cx}{x n y:Str}{C0:Addr}{body:List Stmt}{np py pn ap hp pos:Pos}{i j:Nat}{tb:St->XK->TS}(hst:X.stack=X.env::X.outer)(hfr:X.env.frame=some X.env.locals)
  (hN:X.N.Nodup) (hi:X.N[i]?=some n) (li:X.env.scope.names.lookup n=some .local) (hj:X.N[j]?=some y) (lj:X.env.scope.names.lookup y=some .local) (hg:Gl X x) (hm:X.mg x=some (.ref C0)) (kC:W.kitCls X.K (.ref C0) (.type "BaseException")=some true)
  (hb:∀(pn':List (Addr×Obj))(T:Value->Shared->Prop)(σ0:St)(E:XK),Pc (Cx.pin1 X pn' T) σ0 E->Ii (Cx.pin1 X pn' T) body (tb σ0 E)) (hd1:(n==("__debug__" : Str))=false:=by decide) (hd2:(n==("__classdict__" : Str))=false:=by decide) (hd3:(x==("__debug__" : Str))=false:=by decide) :
  PS X (.Try body [.ExceptHandler (some (.Name x np)) (some n) [.Assign [.Name y py] (.Name n pn) ap] hp] [] [] pos) (λD σ H=>tb σ (EH X.K C0 i j D σ) D σ H):=by
 intro Fo s σ H D I h
 rw[arm_exec_Try]
 refine AA (DM (wpAny_tryStmt_except ?_))
 have hP:Pc (Cx.pin1 X (X.pn++Fo) λe s₁=>wpAny (model X.prog X.w) X.A (noteFrame e X.env) (λ_ s₂=>wpAny (model X.prog X.w) X.A (setFlight e none) (λ_ s₃ =>
   wpAny (model X.prog X.w) X.A (handleBy e X.env [.ExceptHandler (some (.Name x np)) (some n) [.Assign [.Name y py] (.Name n pn) ap] hp]) (SP X Fo D) X.xe s₃) X.xe s₂) X.xe s₁) σ (EH X.K C0 i j D σ):=by
  rintro pins' H1 s1 e s' J ⟨a,cls,a0,od,H',rfl,F,C,rfl,kC',hE⟩
  have I1:Inv X Fo σ H1 s1:=Lz I.ok J
  obtain⟨os,bare,un,hok,B,bs,fl⟩:=F
  have bs:Bs X.stack H1 s1.heap H' B:=bs
  have fl:Ln B X.stack a (.ref C) a0 od s'.heap:=fl
  have fl':=fl
  rw[hst]at fl'
  show wpAny _ X.A (noteFrame (.ref a) X.env) _ _ s'
  refine Nh (outer:=X.outer) (by rw[I1.ok.frames,hst]) hfr fl' λh4 ⟨m1,m2,m3,m4⟩ md sm4=>?_
  refine PV (s:={ s' with heap:=h4 }) m1 m2 m3 m4 md λh5 fly5 sm5=>?_
  have sm45:=sm4.trans sm5
  have I5:=O1 I1 os bare un hok bs fl.1.1 fly5.1.1 sm45
  obtain⟨ob,hob,hobc⟩:=fly5.1.there
  refine wpAny_handleBy_cons (Gc (NA (X:=Cx.mk1 X (.ref a)) (Vj I5 (.ref a)) hg hm (oU I5.kIn hob hobc kC' kC ?_) hd3)) (by intro q;cases q)
  refine FA ?_
  obtain⟨⟨n1,n2,n3,n4⟩,nd⟩:=fly5
  refine PV (s:={ s' with heap:=h5 }) n1 n2 n3 n4.at nd λh6 fly6 sm6=>?_
  have I6:=O1 I1 os bare un hok bs fl.1.1 fly6.1.1 (sm45.trans sm6)
  obtain⟨I6',hn⟩:=Tj I1 I6 bs (by rw[hst];exact fly6)
  refine Vt (X:=X) I6' hN hi (Or.inl li) (v:=.ref a) rfl (λs7 I7=>?_) (.inr li)
  have hlt:i<σ.length:=by rw[I1.len];exact(Ab.mp hi).1
  have ps:=HN (Hi (X:=Cx.mk1 X (.ref a)) (pos:=ap) (pos':=py) hN hj (Or.inl lj) (Vm (pos:=pn) hi (Or.inl li) hd1 hd2) rfl (.inr lj))
  refine BL (ps Fo s7 (σ.set i (some (.ref a))) (Gi H' a (xE a (.ref C) od)) { nx:=λσ8 H8=>σ8=(σ.set i (some (.ref a))).set j (some (.ref a))/\H8=Gi H' a (xE a (.ref C) od),rt:=λ_ _=>False } (Vj I7 (.ref a)) ⟨.ref a,DQ hlt,rfl,rfl⟩) (λfw s8 q=>?_) (λ_ _ z=>False.elim z)
  cases fw with
  |next =>
   obtain⟨σ8,H8,J8,rfl,rfl⟩:=q
   exact Ub (SB I.ok J8) hN hi li λs9 I9=>⟨_,_,I9,hE a hn⟩
  |brk=>obtain⟨_,_,_,z⟩:=q;exact z.elim
  |cont=>obtain⟨_,_,_,z⟩:=q;exact z.elim
  |ret u=>obtain⟨_,_,_,_,_,z⟩:=q;exact z.elim
 refine BL (hb _ _ σ _ hP [] s σ H D (QU I _) h) (λfw s₁ q=>?_) λe s₁ q=>q
 cases fw with
 |next=>obtain⟨σ',H',J,q⟩:=q;exact DN ⟨σ',H',Lz I.ok J,q⟩
 |brk=>obtain⟨σ',H',J,q⟩:=q;exact⟨σ',H',Lz I.ok J,q⟩
 |cont=>obtain⟨σ',H',J,q⟩:=q;exact⟨σ',H',Lz I.ok J,q⟩
 |ret u=>obtain⟨v,σ',H',J,r,q⟩:=q;exact⟨v,σ',H',Lz I.ok J,r,q⟩
end L2.Ev
namespace L2.Ev
open PySem PySem.Spec PyProof.Rows
open PySem.W
open PySem PySem.Calls PyProof.Rows Builtin Builtin.ObjectAttr Builtin.Getset_descriptor
section
variable{prog:Program}{w:World}{A:Around}{E:Value->Shared->Prop}{K:Frag}{h:Heap}{g:Array GenState}{d:Drawn}{t:Nat}{os:OsState}{a C:Addr}{o:Obj}
theorem cQ{tp:Value}{R:Result->Shared->Prop}(X:K.In h)(L0:Looks (model prog w) h (typeOf (.ref a)) (.ref C))(hm:mroIn K C (.type "object")=some true)
  (hq:R (.ok (.ret (.ref C))) ⟨h,g,d,t,os⟩):codeAny (model prog w) A (.call (.builtin "getset_descriptor.__get__") ⟨[.builtin "object.__class__",.ref a,tp],[]⟩) R ⟨h,g,d,t,os⟩:=by
 have L1:=Fq (M:=model prog w) X hm
 refine DB KF.slot_gs.plain KF.entry_gs (KF.slot_gs.check _ _ _ _ _ _ _ _ KF.type_class (KF.args_gs _ _ _) ?_)
 unfold Builtin.«getset_descriptor.__get__» descrGet
 rw[dga_obj]
 refine AA (AD ?_)
 unfold descrGetter descrCheckInstance descrNameAndClass isInstance
 simp only[KF.owner_class]
 repeat lk
 refine⟨Ep _ (by decide +kernel),B4 KF.entry_class ?_⟩
 unfold Builtin.«object.__class__» shownTypeOf
 repeat lk
 exact hq
theorem YO{tk:Tok}{Q:Fin->Shared->Prop}(X:K.In h)(L0:Looks (model prog w) h (typeOf (.ref a)) (.ref C))(hm:mroIn K C (.type "object")=some true)(hcl:findIn K (.ref C) "__class__" = some (some (.builtin "object.__class__")))
  (hx:h.get? a=some o) (hc:o.cls=.ref C) (hq:Q (.done (.ret (.ref C))) ⟨h,g,d,t,os⟩) :
  wpAny (model prog w) A (Builtin.«object.__getattribute__» ⟨[.ref a,.str "__class__" tk],[]⟩) Q E ⟨h,g,d,t,os⟩:=by
 have L2:=Dx (M:=model prog w) X hcl
 have f5:=KF.type_class
 have f6:=F.slot_gs_get.lookup
 have f7:=F.slot_gs_set.lookup
 repeat (any_goals (first|assumption|(with_reducible refine CM hx ?_;rw[hc])|with_reducible refine L2.at ?_|wp_step))
 refine cQ X L0 hm ?_
 repeat (any_goals (first|assumption|wp_step))
theorem Rl{M:Model}{nameV:Value}{Q:Unit->Shared->Prop}(L0:Looks M h (typeOf (.ref a)) (.ref C))(LB:Looks M h (isSubtype (.ref C) (.type "BaseException")) true)
  (hq:Q () ⟨h,g,d,t,os⟩):wpAny M A (checkBuiltinCall "BaseException.__getattribute__" ⟨[.ref a,nameV],[]⟩) Q E ⟨h,g,d,t,os⟩:=by
 have hk:builtinKind "BaseException.__getattribute__" = some .slot:=by decide +kernel
 have hsplit:splitId "BaseException.__getattribute__" = some ("BaseException", "__getattribute__"):=by decide +kernel
 have ha:=F.args_bexc_ga (.ref a) nameV
 have LI:Looks M h (isInstance (.ref a) (.type "BaseException")) true:=L0.andThen LB
 simp only[checkBuiltinCall,hk,hsplit]
 refine AA (LI.at ?_)
 repeat (first|assumption|wp_step)
theorem dS{tk:Tok}{R:Result->Shared->Prop}(X:K.In h)(hm:mroIn K C (.type "object")=some true)(hb:mroIn K C (.type "BaseException")=some true)(hcl:findIn K (.ref C) "__class__" = some (some (.builtin "object.__class__")))
  (hx:h.get? a=some o) (hc:o.cls=.ref C) (hq:R (.ok (.ret (.ref C))) ⟨h,g,d,t,os⟩) :
  codeAny (model prog w) A (.call (.builtin "BaseException.__getattribute__") ⟨[.ref a,.str "__class__" tk],[]⟩) R ⟨h,g,d,t,os⟩:=by
 have L0:Looks (model prog w) h (typeOf (.ref a)) (.ref C):=hc▸(Looks.ld hx).andThen .now
 exact DB Db.ga.plain F.entry_bexc_ga (Rl L0 (Fq X hb) (YO X L0 hm hcl hx hc hq))
theorem mH{tk:Tok}{Q:Value->Shared->Prop}(X:K.In h)(hm:mroIn K C (.type "object")=some true)(hb:mroIn K C (.type "BaseException")=some true)(hcl:findIn K (.ref C) "__class__" = some (some (.builtin "object.__class__")))
  (hga:findIn K (.ref C) "__getattribute__" = some (some (.builtin "BaseException.__getattribute__"))) (hgt:findIn K (.ref C) "__getattr__" = some none)
  (hx:h.get? a=some o) (hc:o.cls=.ref C) (hq:Q (.ref C) ⟨h,g,d,t,os⟩):wpAny (model prog w) A (getAttrBy (.ref a) (.str "__class__" tk) false) Q E ⟨h,g,d,t,os⟩:=by
 have f3:=Db.ga.bind (.ref a)
 have hx2:(Value.builtin "BaseException.__getattribute__" == Value.builtin "object.__getattribute__")=false:=by decide +kernel
 have hx1:(onTheHeap (Value.ref C)&&Value.builtin "BaseException.__getattribute__" == Value.builtin "object.__getattribute__")=false:=by rw[hx2];rfl
 have L1:=Dx (M:=model prog w) X hga
 have L2:=Dx (M:=model prog w) X hgt
 repeat (any_goals (first|assumption|(with_reducible refine CM hx ?_;rw[hc])|with_reducible refine L1.at ?_|with_reducible refine L2.at ?_|wp_step))
 refine dS X hm hb hcl hx hc ?_
 repeat (any_goals (first|assumption|wp_step))
theorem Yg{Q:Option Value->Shared->Prop}(X:K.In h)(hm:mroIn K C (.type "object")=some true)(hb:mroIn K C (.type "BaseException")=some true)(hcl:findIn K (.ref C) "__class__" = some (some (.builtin "object.__class__")))
  (hga:findIn K (.ref C) "__getattribute__" = some (some (.builtin "BaseException.__getattribute__"))) (hgt:findIn K (.ref C) "__getattr__" = some none)
  (hx:h.get? a=some o) (hc:o.cls=.ref C) (hq:Q (some (.ref C)) ⟨h,g,d,t+1,os⟩):wpAny (model prog w) A (getAttr? (.ref a) "__class__") Q E ⟨h,g,d,t,os⟩:=by
 unfold getAttr? getAttrBy?
 repeat (any_goals (first|assumption|with_reducible apply mH X hm hb hcl hga hgt hx hc|wp_step))
end
structure JS(K:Frag)(C:Addr):Prop where
 obj:mroIn K C (.type "object")=some true
 exc:mroIn K C (.type "BaseException")=some true
 cls:findIn K (.ref C) "__class__" = some (some (.builtin "object.__class__"))
 ga:findIn K (.ref C) "__getattribute__" = some (some (.builtin "BaseException.__getattribute__"))
 gt:findIn K (.ref C) "__getattr__" = some none
 is:(clsIn K C).isSome=true
theorem bB{K:Frag}{a C:Addr}(k:JS K C):KitX K (.ref a) (.ref C) (λh=>∃o,h.get? a=some o/\o.cls=.ref C) where
 ty:=λM h _ ⟨o,hx,hc⟩=>hc▸(Looks.ld hx).andThen .now
 it:=λ_ _ X _=>by
  have z0:=k.is
  unfold clsIn at z0
  split at z0
  ·rename_i c' d' cd' sl' ho
   intro A' Q' E' s' kk q
   unfold isType loadHead
   exact AA (Gd (kk _ _ (X _ _ ho)) (AD q))
  ·cases z0
 ne:=λh tp dd its n sl X htp=>by
  refine E4.mpr λq=>?_
  have e:C=tp:=Value.ref.inj (beq_iff_eq.mp q)
  subst e
  have z0:=k.is
  unfold clsIn at z0
  split at z0
  ·rename_i c' d' cd' sl' ho
   have:=X _ _ ho
   rw[htp]at this
   cases this
  ·cases z0
 ca:=λ{prog w A E Q s} X ⟨o,hx,hc⟩ q=>by
  obtain⟨hh,g,d,t,os⟩:=s
  exact Yg X k.obj k.exc k.cls k.ga k.gt hx hc q
section
variable{X:Cx}
theorem KB:Hw X (.builtin "isinstance") (λxs H Q=>∃od a C c u b,xs=[.ref a,c]/\H a=some (xE a (.ref C) od)/\JS X.K C/\Gx c u/\(∀u',Gx c u'->u'=u)/\kitOne X.K (.ref C) u=some b/\Q (.bl b) H):=by
 intro Fo s σ H xs us Q I r h
 obtain⟨od,a,C,c,u,b,rfl,ha,k,_,uni,e,q⟩:=h
 obtain⟨u1,v,rfl,r1,r2⟩:=K0 r
 cases r1
 have hv:=uni v r2
 subst hv
 obtain⟨⟨ob,vs,hx,hc,_⟩,_⟩:=(show HM X.prog X.w H s.heap a (xE a (.ref C) od) from I.hok a _ ha)
 exact kia_one (bB k) I.kIn ⟨ob,hx,hc⟩ e (λz=>nomatch z) λtk=>⟨.bl b,H,I.tok tk,rfl,q⟩
end
end L2.Ev
namespace L2.Ev
open PySem PySem.Spec PyProof.Rows
open L2.Pl
theorem mB(a v:Value):argsOk "max" ⟨[a],[(Str.ofString "default",v)]⟩:=by unfold argsOk;kernel_rfl
section
variable{prog:Program}{w:World}{A:Around}{R:Result->Shared->Prop}{I:Addr}{fp wr:List Addr}{n:Nat}{P:Nat->Value->Prop}{St:Nat->Heap->Prop}{dv:Value}
abbrev UM(I S:Addr)(dv:Value):Code:=.builtin "max.loop" ⟨[.ref I,.none,.ref S],[(Str.ofString "default",dv)]⟩
abbrev Uz(vs:Array Value)(c:Nat):Obj:={ cls:=.type "list",dict:=none,data:=.seq vs c,slots:=#[] }
theorem NJ:(toString "max" ++ toString ".loop" : String) = "max.loop" := by decide
theorem Nc(W:Walks prog w A.in1 I fp wr n P St)(bt:Nat->Nat->Bool)(hcmp:CmpOf prog w A.in1 .Gt P bt)(S:Addr)(hSf:S∉fp) :
  ∀(k j:Nat)(s:Shared)(vb:Value)(c:Nat),n-(j+1)=k->j+1<=n->St (j+1) s.heap->P (argBest bt j) vb->s.heap.get? S=some (Uz #[vb,vb] c) ->
  (∀v h' tk,P (argBest bt (n-1)) v->(∀b o,b∉wr->b≠S->s.heap.get? b=some o->h'.get? b=some o)->R (.ok (.ret v)) { s with heap:=h',toks:=tk })->codeAny (model prog w) A (UM I S dv) R s
 |0,j,s,vb,c,hk,hj,hst,hPb,hS,hR=>by
  have hSw:S∉wr:=λh=>hSf (W.sub _ h)
  have hin:j+1=n:=by lia
  refine B4 DE ?_
  rw[Ba BS _]
  show wpAny _ A.in1 (seqItems? (.ref S)>>=_) _ _ s
  refine AA (Be hS rfl ?_)
  show wpAny _ A.in1 (tryCatch (pyNext (.ref I)) _>>=_) _ _ s
  refine AA (Cb (W.done s _ _ (hin▸hst) λh' tk hk'=>?_))
  have hS':=hk' S _ hSw hS
  show wpAny _ A.in1 (updateSeq S (λ_=>#[])>>=_) _ _ _
  exact AA (DP hS' rfl (AA (CT (AD (hR vb _ tk (by rw[<-hin];exact hPb) λb o hbw hbS e=>(An _ _ (Bl hbS)).trans (hk' b o hbw e))))))
 |k+1,j,s,vb,c,hk,hj,hst,hPb,hS,hR=>by
  have hSw:S∉wr:=λh=>hSf (W.sub _ h)
  have hlt:j+1<n:=by lia
  refine B4 DE ?_
  rw[Ba BS _]
  show wpAny _ A.in1 (seqItems? (.ref S)>>=_) _ _ s
  refine AA (Be hS rfl ?_)
  show wpAny _ A.in1 (tryCatch (pyNext (.ref I)) _>>=_) _ _ s
  refine AA (Cb (W.item (j+1) s _ _ hlt hst λv h' tk hP hst' hk'=>?_))
  have hS':=hk' S _ hSw hS
  show wpAny _ A.in1 (tryCatch (holding [v,v] (richCompare .Gt v vb>>=_)) _>>=_) _ _ _
  refine AA (Cb (By (AA (hcmp (j+1) (argBest bt j) v vb _ _ _ hP hPb (AA (By (CK (AA (CT (AD ?_))))))))))
  cases hb:bt (j+1) (argBest bt j) with
  |true =>
   simp only[CA]
   refine AA (DP hS' rfl (AA (CT ?_)))
   rw[NJ]
   refine AD ⟨CU BS _,Nc W bt hcmp S hSf k (j+1) _ v _ (by lia) hlt (W.frame _ _ _ hst' λb hbf o e=>?_) (by simp only[argBest,hb,CA];exact hP) (BF _ hS' rfl) λv' h'' tk'' hP' hk''=>?_⟩
   ·exact(An _ _ (λh:S=b=>hSf (by rw[h];exact hbf))).trans e
   ·exact hR v' h'' tk'' hP' λb o hbw hbS e=>hk'' b o hbw hbS ((An _ _ (Bl hbS)).trans (hk' b o hbw e))
  |false =>
   simp only[A5,Bb]
   refine AA (CT ?_)
   rw[NJ]
   exact AD ⟨CU BS _,Nc W bt hcmp S hSf k (j+1) _ vb c (by lia) hlt hst' (by simp only[argBest,hb,A5,Bb];exact hPb) hS' λv' h'' tk'' hP' hk''=>hR v' h'' tk'' hP' λb o hbw hbS e=>hk'' b o hbw hbS (hk' b o hbw e)⟩
theorem Wb(W:Walks prog w A.in1 I fp wr n P St)(bt:Nat->Nat->Bool)(hcmp:CmpOf prog w A.in1 .Gt P bt)(S:Addr)(hSf:S∉fp){s:Shared}{c:Nat}(hst:St 0 s.heap)(hS:s.heap.get? S=some (Uz #[] c))
  (hR:∀v h' tk,((0<n/\P (argBest bt (n-1)) v)∨(n=0/\v=dv))->(∀b o,b∉wr->b≠S->s.heap.get? b=some o->h'.get? b=some o)->R (.ok (.ret v)) { s with heap:=h',toks:=tk }):codeAny (model prog w) A (UM I S dv) R s:=by
 have hSw:S∉wr:=λh=>hSf (W.sub _ h)
 refine B4 DE ?_
 rw[Ba BS _]
 show wpAny _ A.in1 (seqItems? (.ref S)>>=_) _ _ s
 refine AA (Be hS rfl ?_)
 show wpAny _ A.in1 (tryCatch (pyNext (.ref I)) _>>=_) _ _ s
 rcases Nat.eq_zero_or_pos n with z|hn
 ·refine AA (Cb (W.done s _ _ (z▸hst) λh' tk hk'=>?_))
  exact AA (Cj (AD (hR dv h' tk (.inr ⟨z,rfl⟩) λb o hbw _ e=>hk' b o hbw e)))
 ·refine AA (Cb (W.item 0 s _ _ hn hst λv h' tk hP hst' hk'=>?_))
  have hS':=hk' S _ hSw hS
  show wpAny _ A.in1 (updateSeq S (λ_=>#[v,v])>>=_) _ _ _
  refine AA (DP hS' rfl ?_)
  rw[NJ]
  refine AD ⟨CU BS _,Nc W bt hcmp S hSf _ 0 _ v _ rfl hn (W.frame _ _ _ hst' λb hbf o e=>?_) hP (BF _ hS' rfl) λv' h'' tk'' hP' hk''=>?_⟩
  ·exact(An _ _ (λh:S=b=>hSf (by rw[h];exact hbf))).trans e
  ·exact hR v' h'' tk'' (.inl ⟨hn,hP'⟩) λb o hbw hbS e=>hk'' b o hbw hbS ((An _ _ (Bl hbS)).trans (hk' b o hbw e))
end
section
variable{prog:Program}{w:World}{A:Around}{E:Value->Shared->Prop}{Q:Value->Shared->Prop}{s:Shared}
theorem Wm{a:Addr}{xs:Array (Int×Tok)}{d:Int}{td:Tok}(hh:A.handled=none)(hl:s.heap.IsList a (intItems xs)∨s.heap.IsTuple a (intItems xs))
  (h:∀h' tk M t',(∀b o,s.heap.get? b=some o->h'.get? b=some o)->((xs.size=0/\M=d)∨(M∈xs.toList.map (·.1)/\∀x∈xs.toList.map (·.1),x<=M))->Q (.int M t') { s with heap:=h',toks:=tk }) :
  wpAny (model prog w) A (call (.builtin "max") [.ref a] [(Str.ofString "default",.int d td)]) Q E s:=by
 have fin:∀(v:Value)(s2:Shared)(h':Heap)(tk:Nat),s2={ s with heap:=s2.heap }->(∀b o,s.heap.get? b=some o->h'.get? b=some o)->((0<(intItems xs).size/\(intItems xs)[argBest (λi j=>decide (numAt xs i>numAt xs j)) ((intItems xs).size-1)]?=some v)∨((intItems xs).size=0/\v=.int d td))->Q v { s2 with heap:=h',toks:=tk }:=by
  intro v s2 h' tk e2 hk hv
  rw[e2]
  have sz:(intItems xs).size=xs.size:=by simp [intItems]
  rw[sz]at hv
  rcases hv with⟨hn,hv⟩|⟨z,rfl⟩
  ·obtain⟨t',rfl⟩:=intItems_at hv
   obtain⟨h1,h2⟩:=argBest_gt (numAt xs) (xs.size-1)
   refine h h' tk _ t' hk (.inr ⟨?_,λx hx=>?_⟩)
   ·rw[numAt_eq];exact getD_mem (by rw[AB,AT];lia)
   ·obtain⟨j,hj,rfl⟩:=mem_getD hx
    rw[AB,AT]at hj
    rw[<-numAt_eq];exact h2 j (by lia)
  ·exact h h' tk d td hk (.inl ⟨z,rfl⟩)
 have go:∀(fp wr:List Addr)(St:Nat->Heap->Prop)(s2:Shared),s2={ s with heap:=s2.heap }->(∀b o,s.heap.get? b=some o->s2.heap.get? b=some o)->Walks prog w A.in1 s.heap.objs.size fp wr (intItems xs).size (λi v=>(intItems xs)[i]?=some v) St->St 0 s2.heap->(∀b∈fp,b<s2.heap.objs.size)->(∀b∈wr,s.heap.get? b=none) ->
   wpAny (model prog w) A.in1 (newList []>>=λl=>(again (.builtin (toString "max" ++ toString ".loop") ⟨[.ref s.heap.objs.size,.none,l],[(Str.ofString "default",.int d td)]⟩):Sem Fin)) (λfin s'=>match fin with
    |.done f=>(match (Except.ok f:Result) with|.ok (.ret v)=>Q v s'|.ok _=>False|.error e=>E e s')
    |.again c'=>c'.quiet=true/\codeAny (model prog w) A c' (λr s'=>match r with|.ok (.ret v)=>Q v s'|.ok _=>False|.error e=>E e s') s') E s2:=by
  intro fp wr St s2 e2 k2 W st hfp hwr
  refine AA (BC ?_)
  have hSf:s2.heap.objs.size∉fp:=λz=>B7 _ (hfp _ z)
  rw[NJ]
  refine AD ⟨CU BS _,Wb W _ (CmpOf.ints_gt (numAt xs) (λ_ _=>intItems_at)) s2.heap.objs.size hSf (W.frame _ _ _ st λb _ o e=>AC _ e) (AQ _ rfl) λv h' tk hv hk=>?_⟩
  exact fin v s2 h' tk e2 (λb o e=>hk b o (λz=>by rw[hwr b z]at e;cases e) (As (AR (k2 b o e))) (AC _ (k2 b o e))) hv
 have new:∀b∈[s.heap.objs.size],s.heap.get? b=none:=λb hb=>by rw[AS.mp hb];exact Heap.get?_none_of_le (AG _)
 refine PyProof.Rows.kmb_tree F.kind_max F.plain_max F.entry_max (mB _ _) ?_
 show wpAny _ A.in1 (Builtin.Builtins.bindParams "max" ["key", "default"] 0 ⟨[],[(Str.ofString "default",.int d td)]⟩>>=_) _ _ s
 refine AA (Ef (show Builtin.Builtins.bindParams "max" ["key", "default"] 0 ⟨[],[(Str.ofString "default",.int d td)]⟩=pure [none,some (.int d td)] from rfl) ?_)
 refine AA (AD (AA ?_))
 have pairs:∀{b:Addr},b<s.heap.objs.size->∀(o:Obj),∀c∈[s.heap.objs.size,b],c<(s.heap.push o).objs.size:=λ{b} hb o c hc=>by
  rw[Bz]
  rcases AO.mp hc with rfl|hc
  ·exact EC _
  ·rw[AS.mp hc];exact E1 hb
 rcases hl with hl|hl
 ·obtain⟨o,ho,_⟩:=id hl
  refine CL hl ?_
  exact go _ _ _ _ rfl (λb o e=>AC _ e) (Walks.list (A:=A.in1) hh s.heap.objs.size a (As (AR ho)) (intItems xs)) ⟨⟨_,AQ _ rfl,rfl,rfl⟩,hl.at λo e=>AC _ e⟩ (pairs (AR ho) _) new
 ·obtain⟨o,ho,_⟩:=id hl
  refine Br hl ?_
  exact go _ _ _ _ rfl (λb o e=>AC _ e) (Walks.tuple (A:=A.in1) hh s.heap.objs.size a (As (AR ho)) (intItems xs)) ⟨⟨_,AQ _ rfl,rfl,rfl⟩,hl.at λo e=>AC _ e⟩ (pairs (AR ho) _) new
end
section
variable{X:Cx}
def Yk(K:W.Frag)(d:Int)(ta:TA):TE:=λσ H Q=>ta σ H λvs H1=>∃(a:Addr)(ns:List Int),vs=[.ref a]/\(HK K H1 a (ns.map V.int)∨HL K H1 a (ns.map V.int))/\∀M:Int,((ns=[]/\M=d)∨(M∈ns/\∀x∈ns,x<=M))->Q (.int M) H1
theorem T9{e:Expr}{ta:TA}{p pos kp kq:Pos}{j}{d:Int}(hc:X.calm=true)(hg:Gl X "max")(hm:X.mg "max" = none)(ha:PA X [e] ta)
  (h1:backTo pos (starEach [e] X.env)=(false,eval e X.env)::backTo pos (starEach [] X.env):=by rfl) (h2:(backTo pos (starEach [e] X.env)).any (·.1)=false:=by rfl) :
  PE X (.Call (.Name "max" p) [e] [⟨some (Str.ofString "default"),.Constant (.int d) j kq,kp⟩] pos) (Yk X.K d ta):=by
 intro Fo s σ H Q I h
 refine BK (Jj I hg hm boot_max ?_)
 refine EB (HY (ha pos Fo s σ H _ I h) λus s1 ⟨vs,H1,I1,r1,q1⟩=>?_) h1 h2
 obtain⟨a,ns,rfl,hq,q⟩:=q1
 obtain⟨u,rfl,ru⟩:=KQ r1
 cases ru
 refine FM (wpAny_Constant_int (kws_nil ?_))
 have I2:=I1.tok (s1.toks+1)
 have key:∀(its:List Value),Gy (ns.map V.int) its->(s1.heap.IsList a its.toArray∨s1.heap.IsTuple a its.toArray)->wpAny (model X.prog X.w) X.A (call (.builtin "max") [.ref a] [(Str.ofString "default",.int d s1.toks)]) (EP X Fo σ Q) X.xe { s1 with toks:=s1.toks+1 }:=by
  intro its rv hl
  obtain⟨xs,hx⟩:=(KI rv).allInts.items
  have hn:xs.toList.map (·.1)=ns:=by
   have e1:numsOf its.toArray.toList=ns:=by rw[show its.toArray.toList=its from rfl,(KI rv).numsOf]
   rw[hx,nums_intItems]at e1
   exact e1
  rw[hx]at hl
  refine Wm (I.ok.hd hc) hl λh' tk M t' hk hM=>⟨.int M,H1,I2.kept (t':=tk) hk,⟨t',rfl⟩,q M ?_⟩
  rw[hn]at hM
  rcases hM with⟨z,e⟩|hM
  ·refine .inl ⟨?_,e⟩
   rw[<-hn]
   have:xs=#[]:=Array.size_eq_zero_iff.mp z
   rw[this];rfl
  ·exact .inr hM
 rcases hq with hq|hq
 ·obtain⟨its,rv,ht,_⟩:=I1.list hq
  exact key its rv (.inl ht.isList)
 ·obtain⟨its,rv,ht,_⟩:=I1.tuple hq
  exact key its rv (.inr ht)
end
end L2.Ev
namespace L2.Ev
open PySem PyProof.Rows
open L2.Pl
end L2.Ev
namespace L2.Ev
open PySem PySem.Spec PyProof.Rows
open L2.Pl
theorem ZU{prog:Program}{w:World}{A:Around}(hh:A.handled=none)(k:SK)(it l:Addr)(ne:l≠it)(xs:Array Value) :
  Draws prog w A it [it,l] xs.size (λi x=>xs[i]?=some x) (λi h=>k.iter h it l i/\k.seq h l xs) where
 live:=λi h st=>by
  cases k with
  |lst=>obtain⟨⟨o,e,_⟩,_⟩:=st;exact⟨o,e⟩
  |tup=>obtain⟨⟨o,e,_⟩,_⟩:=st;exact⟨o,e⟩
 frame:=λi h h' st q=>⟨SK.iter_keep st.1 λo e=>q it (by simp) o e,SK.seq_keep st.2 λo e=>q l (by simp) o e⟩
 item:=λi s Q E hi st q=>SK.next st.1 st.2 (AF hi) λh' p sb=>q xs[i] h' s.toks (AF hi) ⟨p,SK.seq_keep st.2 λo e=>sb.extBut _ _ ne e⟩ sb
 done:=λs Q E st q=>SK.stop hh st.1 st.2 (by simp) q
structure qG(k:SK)(e it l:Addr)(i:Nat)(h:Heap):Prop where
 he:∃old,IsEnum h e it (i:Int) old
 hi:k.iter h it l i
theorem cY(l:Addr)(xs:Array Value) :
  Meets (Builtin.«enumerate.__new__» ⟨[.type "enumerate",.ref l],[]⟩) (λ_ R s=>s.heap.IsTuple l xs/\R (.ok (.ret (.ref (s.heap.push (SK.tup.ob l)).objs.size))) { s with heap:=(s.heap.push (SK.tup.ob l)).push { cls:=.type "enumerate",data:=.fields #[.none,.bool false,.ref s.heap.objs.size,rawInt 0,.none,.none] } }) :=
 .of_wp λprog w A R s h=>by
  obtain⟨hp,g,d,tk,os⟩:=s
  obtain⟨w1,h⟩:=h
  have hsub:=sub_enumerate
  have w1:Heap.IsTuple (Shared.heap ⟨hp,g,d,tk,os⟩) l xs:=w1
  obtain⟨o,ho,_⟩:=id w1
  wp_walk using Du ho,Br w1
  refine wpAny_stack_any λst=>AD ?_
  split
  ·rename_i c _ _ _ _ _
   cases(c==Value.type "enumerate")<;>(wp_walk using Du ho,Br w1;exact⟨_,rfl,h⟩)
  ·wp_walk using Du ho,Br w1
   exact⟨_,rfl,h⟩
theorem W8{k:SK}{l:Addr}{xs:Array Value}{Q:Value->Shared->Prop}{prog:Program}{w:World}{A:Around}{E:Value->Shared->Prop}{s:Shared}(hl:k.seq s.heap l xs)
  (h:∀h',qG k (s.heap.objs.size+1) s.heap.objs.size l 0 h'->(∀c o,s.heap.get? c=some o->h'.get? c=some o)->Q (.ref (s.heap.objs.size+1)) { s with heap:=h' }) :
  wpAny (model prog w) A (call (.type "enumerate") [.ref l]) Q E s:=by
 cases k with
 |lst=>exact call_enumerate_list hl λh' a b _ q=>h h' ⟨⟨_,a⟩,b⟩ q
 |tup =>
  refine callType_new F.called_enumerate (by decide) (F.typeCall_enumerate_1 _) (F.newCall_enumerate_1 _) (λobj=>F.args_object_init_2 obj _) F.entry_enumerate_new (cY l xs) ⟨hl,?_⟩
  have e1:(s.heap.push (SK.tup.ob l)).objs.size=s.heap.objs.size+1:=Bz ..
  have g2:((s.heap.push (SK.tup.ob l)).push { cls:=.type "enumerate",data:=.fields #[.none,.bool false,.ref s.heap.objs.size,rawInt 0,.none,.none] }).get? (s.heap.push (SK.tup.ob l)).objs.size=some _:=AQ _ rfl
  have fin:=h _ ⟨⟨.none,by rw[e1]at g2;exact g2⟩,SK.iter_new (k:=.tup) (AC _ (AQ _ rfl))⟩ λc o e=>AC _ (AC _ e)
  rw[<-e1]at fin
  exact⟨⟨_,g2,rfl⟩,fin⟩
def S0(K:W.Frag)(k:SK)(a:Addr):It :=
 ⟨λi H=>∃xs x,k.is K H a xs/\xs[i]?=some x,
  λi H v H'=>∃p x,v=.ref p/\H p=none/\H'=Gi H p (.tup [.int i,x])/\∀xs,k.is K H a xs->xs[i]?=some x,
  λi H=>∃xs,k.is K H a xs/\xs.length<=i⟩
theorem Xm{P:Program}{w:World}{K:W.Frag}{elts:List Expr}{x1}{pos:Pos}(k:SK)(a e it:Addr)(ne:e≠it) :
  Js P w K (.Tuple elts x1 pos) (S0 K k a) [e,it] e (λi h=>qG k e it a i h) where
 mem:=by simp
 obj:=λi h st c hc=>by
  obtain⟨⟨old,he⟩,h1⟩:=st
  simp only[AO,Bg,DG]at hc
  rcases hc with rfl|rfl
  ·exact⟨_,he,λv q=>by cases(show Data.fields _=Data.cell v from q)⟩
  ·cases k with
   |lst=>obtain⟨o,e,_,d⟩:=h1;exact⟨o,e,λv q=>by rw[d]at q;cases q⟩
   |tup=>obtain⟨o,e,_,d⟩:=h1;exact⟨o,e,λv q=>by rw[d]at q;cases q⟩
 keep:=λi h h' st q=>by
  obtain⟨⟨old,he⟩,h1⟩:=st
  exact⟨⟨old,q e (by simp) _ he⟩,SK.iter_keep h1 λo x=>q it (by simp) o x⟩
 item:=by
  intro X hP hw hK hc i Fo s σ H E I hf st hg
  subst hP hw hK
  obtain⟨xs,x,q1,hx⟩:=hg
  obtain⟨its,r1,p1⟩:=SK.at I q1
  obtain⟨u,hu,ru⟩:=r1.get hx
  have fe:=hf e (by simp)
  have fi:=hf it (by simp)
  have ae:a≠e:=KS I q1 fe
  have ai:a≠it:=KS I q1 fi
  obtain⟨⟨old,he⟩,h1⟩:=id st
  have lt:i<its.toArray.size:=by
   have:=(Ab.mp hu).1
   simpa using this
  refine wpAny_pyNext_enum_itemD (ZU (A:=X.A.in1) (I.ok.hd hc) k it a ai its.toArray) he ⟨h1,p1⟩ lt ne (by simp only[AO,Bg,DG,not_or];exact⟨ne,ae.symm⟩) λv h' tk hv a1 a2 a3 _ a4=>?_
  have hv':u=v:=by
   have:its[i]?=some v:=by simpa using hv
   rw[hu]at this
   exact Al this
  subst hv'
  refine⟨_,rfl,wpAny_letOwnedTupleGo_enum (s:={ s with heap:=h',toks:=tk+1 }) a1 λh'' b1 b2=>?_⟩
  have kp:∀c o,c∉[e,it]->s.heap.get? c=some o->h''.get? c=some o:=λc o hc x=>by
   simp only[AO,Bg,DG,not_or]at hc
   exact b2.extBut _ _ hc.1 (a4 c o hc.1 hc.2 x)
  have elt:e<s.heap.objs.size:=AR he
  have hT:=b2.extBut _ _ (CG elt) a3
  have hn:H s.heap.objs.size=none:=I.fresh
  have hok:IN X.prog X.w (Gi H s.heap.objs.size (.tup [.int i,x])) h'':=λc o z=>by
   by_cases hc:c=s.heap.objs.size
   ·subst hc
    rw[Gu]at z
    cases z
    exact⟨by show 2<=sizeLine;decide,[.int i tk,u],.cons ⟨tk,rfl⟩ (.cons ru .nil),⟨_,hT,rfl,_,rfl,rfl⟩⟩
   ·rw[Ha hc]at z
    refine(I.hok c o z).stay (λd v2 hd q=>kp d v2 (λm=>?_) q) (λd q=>by rw[Ha (Iv q hn)];exact q) λd xs q=>by rw[Ha (Iv q hn)];exact q
    have z2:=(hf d m).1
    rcases hd with rfl|hd
    ·rw[z]at z2;cases z2
    ·rw[hd]at z2;cases z2
  have I9:Inv X Fo σ (Gi H s.heap.objs.size (.tup [.int i,x])) { s with heap:=h'',toks:=tk+1 }:=U0 (s:=s) I hf kp (λc hc=>Ha (As hc)) hok
  refine⟨.ref s.heap.objs.size,Gi H s.heap.objs.size (.tup [.int i,x]),I9,rfl,⟨s.heap.objs.size,x,rfl,hn,rfl,λzs hz=>by rw[SK.inj I hz q1];exact hx⟩,?_,λc hc=>?_⟩
  ·refine⟨⟨u,?_⟩,SK.iter_keep a2.1 λo x=>b2.extBut _ _ ne.symm x⟩
   rw[Int.natCast_add]
   exact b1
  ·have hlt:c<s.heap.objs.size:=by
    simp only[AO,Bg,DG]at hc
    rcases hc with rfl|rfl
    ·exact elt
    ·exact SK.iter_lt h1
   rw[Ha (As hlt)]
   exact(hf c hc).1
 done:=by
  intro X hP hw hK hc i Fo s σ H E I hf st hg
  subst hP hw hK
  obtain⟨xs,q1,hx⟩:=hg
  obtain⟨its,r1,p1⟩:=SK.at I q1
  have fe:=hf e (by simp)
  have fi:=hf it (by simp)
  have ai:a≠it:=KS I q1 fi
  have l1:=r1.length
  obtain⟨⟨old,he⟩,h1⟩:=id st
  have hT:s.TypeIs (.ref e) "enumerate" := ⟨_,he,rfl⟩
  unfold pyNext
  refine AA (De (BY (name:=Str.ofString "__next__") hT Fz (Bi Fz hT F.entry_enumerate_next ?_ (F.args_enumerate_next_1 _))))
  show wpAny _ _ (field (.ref e) 2>>=λ_=>_) _ _ _
  refine AA (BI he rfl (x:=Value.ref it) rfl (AA (SK.stop (show X.A.in1.handled=none from I.ok.hd hc) h1 p1 (by simp;lia) λh' z q hz=>?_)))
  obtain⟨o,ho,hcl⟩:=hz
  refine AA (FL (T := "StopIteration") (b:=true) ⟨o,ho,hcl⟩ GZ (AD ⟨rfl,?_⟩))
  have kp:∀c o,c∉[it]->s.heap.get? c=some o->h'.get? c=some o:=λc o hc x=>q c o (by simpa using hc) x
  have hf1:∀c∈[it],KY X Fo H c:=λc hc=>by rw[AS.mp hc];exact fi
  refine U0 (h':=h') (t':=s.toks) I hf1 kp (λc _=>rfl) λc o z=>?_
  refine(I.hok c o z).stay (λd v2 hd q=>kp d v2 (λm=>?_) q) (λd q=>q) λd xs q=>q
  have z2:=(hf1 d m).1
  rcases hd with rfl|hd
  ·rw[z]at z2;cases z2
  ·rw[hd]at z2;cases z2
 self:=λ_ _ _ _ _ st h=>by
  obtain⟨⟨old,he⟩,_⟩:=st
  exact wpAny_pyIter_enum he h
def gT(K:W.Frag)(k:SK)(ta:TA):TI:=λσ H R=>ta σ H λvs H1=>∃a,vs=[.ref a]/\(∃xs,k.is K H1 a xs)/\R (S0 K k a) H1
theorem YI{X:Cx}{ea:Expr}{ta:TA}{p pos tp:Pos}{elts:List Expr}{x1}(k:SK)(hg:Gl X "enumerate")(hm:X.mg "enumerate" = none)(ha:PA X [ea] ta)(hs:starEach [ea] X.env=(false,eval ea X.env)::starEach [] X.env:=by rfl)(hs2:(backTo pos (starEach [] X.env)).any (·.1)=false:=by rfl) :
  PI X (.Tuple elts x1 tp) (.Call (.Name "enumerate" p) [ea] [] pos) (gT X.K k ta):=by
 intro Fo s σ H R I h
 refine Call_ (Jj I hg hm boot_enumerate (BM (HY (ha pos Fo s σ H _ I h) λus s1 ⟨vs,H1,I1,r1,q1⟩=>?_) hs hs2))
 obtain⟨a,rfl,⟨xs,ex⟩,q⟩:=q1
 obtain⟨u,rfl,ru⟩:=KQ r1
 cases ru
 obtain⟨its,r1,p1⟩:=SK.at I1 ex
 refine W8 p1 λh' Z kp=>?_
 obtain⟨⟨old,he⟩,_⟩:=id Z
 refine wpAny_pyIter_enum he ?_
 have I2:Inv X Fo σ H1 { s1 with heap:=h' }:=I1.kept (t':=s1.toks) kp
 refine⟨_,[s1.heap.objs.size+1,s1.heap.objs.size],_,_,H1,rfl,I2,Xm k a _ _ (Nat.succ_ne_self _),Z,λc hc=>?_,q⟩
 have ge:s1.heap.objs.size<=c:=by
  simp only[AO,Bg,DG]at hc
  rcases hc with rfl|rfl
  ·exact CV _ _
  ·exact AG _
 exact I1.fpOk ge (I1.hok.fresh ge)
theorem ZG{K:W.Frag}{k:SK}{a:Addr}{xs:List V}{g:TG}{tb:TS}{D:Iq}{σ:St}{H:Hp}(Pv:Nat->St->Hp->Prop)(h0:Pv 0 σ H)(hl:∀i σ H,Pv i σ H->k.is K H a xs)
  (hs:∀i x p σ H,xs[i]?=some x->H p=none->Pv i σ H->g (.ref p) σ (Gi H p (.tup [.int i,x])) λσ2 H2=>tb { D with nx:=Pv (i+1),ct:=Pv (i+1),bk:=D.nx } σ2 H2) (hd:∀σ H,Pv xs.length σ H->D.nx σ H) :
  ∃W:Nat->Nat->St->Hp->Prop,(∃m,W 0 m σ H)/\∀i m σ H,W i m σ H ->
   ((S0 K k a).stop i H/\D.nx σ H)∨((S0 K k a).go i H/\∃N:St->Hp->Prop,(∀σ' H',N σ' H'->∃m',m'<m/\W (i+1) m' σ' H')/\∀x H',(S0 K k a).yld i H x H'->g x σ H' λσ2 H2=>tb { D with nx:=N,ct:=N,bk:=D.nx } σ2 H2):=by
 refine⟨λi m σ H=>m=xs.length-i/\i<=xs.length/\Pv i σ H,⟨xs.length,by simp,Az _,h0⟩,?_⟩
 rintro i m σ H ⟨rfl,hi,p⟩
 have l1:=hl i σ H p
 by_cases hlt:i<xs.length
 ·refine .inr ⟨⟨xs,xs[i],l1,AW (by lia)⟩,Pv (i+1),λσ' H' p'=>⟨xs.length-(i+1),by lia,rfl,hlt,p'⟩,λx H' y=>?_⟩
  obtain⟨q,x,rfl,hq,rfl,hx⟩:=y
  exact hs i x q σ H (hx xs l1) hq p
 ·have e:i=xs.length:=by lia
  subst e
  exact .inl ⟨⟨xs,l1,AG _⟩,hd σ H p⟩
instance cO:Dat Str where
 is:=λ_ v b=>v=.str b
 mono:=λ_ h=>h
 inj:=λh h'=>by rw[h]at h';cases h';rfl
 dep:=0
 eqb:=λa b=>a==b
 eqb_iff:=λa b=>E9
 eqAt:=λ{X Fo σ H s A v v' u u' a b} I hu h h' r r'=>by
  subst h h'
  obtain⟨t,rfl⟩:=r
  obtain⟨t',rfl⟩:=r'
  exact SeqAt.EqAt.str_str _ _ _ _
section
variable{prog:Program}{w:World}{A:Around}{E:Value->Shared->Prop}{s:Shared}
theorem Zj{t sl:Addr}{items:Array Value}{vl vu:Value}{lo hi:Option Int}{Q:Value->Shared->Prop}(ht:IsTup s.heap t items)(hs:s.heap.IsSliceOf sl vl vu .none)(pl:IsPart vl lo)(pu:IsPart vu hi)
  (w1:HT.sIx items.size 0 lo=0) (w2:HT.sIx items.size items.size hi=items.size) (h:Q (.ref t) s):wpAny (model prog w) A (getItem (.ref t) (.ref sl)) Q E s:=by
 obtain⟨os,hos,hcs,hds⟩:=id hs
 have hTs:s.TypeIs (.ref sl) "slice" := ⟨os,hos,hcs⟩
 unfold getItem
 try with_reducible refine By ?_
 first|refine AA (AD ?_)|skip
 refine AA (wpAny_sequenceKey ht.typeIs (by decide) (AA (BY (name:=Str.ofString "__getitem__") ht.typeIs Bn (Bi Bn ht.typeIs entry_tuple_getitem ?_ (args_tuple_getitem _ _)))))
 show wpAny _ _ (Builtin.Tuple.tupleItemsOf (.ref t)>>=λ_=>_) _ _ s
 refine AA (tupleItemsOf_ ht (AA (HF hTs ?_)))
 rw[AH (by decide)]
 refine AA (HT.sliceApplied_gen hs pl pu ?_)
 rw[w1,w2]
 show wpAny _ _ (if (((0:Nat):Int)==0&&(1:Int)==1&&(items.size-0)==items.size)=true then _ else _) _ _ s
 rw[AH (by simp)]
 refine AA ?_
 refine AA (m:=Builtin.Tuple.tupleIsExact (.ref t)) ?_
 unfold Builtin.Tuple.tupleIsExact
 refine AA (HF ht.typeIs (AD (AD ?_)))
 rw[AH (by decide)]
 exact AA (Cj (AD ⟨_,rfl,AD h⟩))
end
section
variable{X:Cx}
def Zl(K:W.Frag):V->Option Int->Option Int->Hp->VK->Prop:=λx lo hi H Q=>∃a xs,x=.ref a/\HL K H a xs/\HT.sIx xs.length 0 lo=0/\HT.sIx xs.length xs.length hi=xs.length/\Q (.ref a) H
theorem iG:LM X (Zl X.K):=by
 intro Fo s σ H x v vl vu lo hi sl Q I rx hs pl pu h
 obtain⟨a,xs,rfl,hx,w1,w2,q⟩:=h
 cases rx
 obtain⟨its,r,ht,hz⟩:=I.tuple hx
 have HX:its.toArray.size=xs.length:=by rw[Am];exact r.length.symm
 exact⟨"tuple",_,Bn.lookup,ht.typeIs,Zj ht hs pl pu (by rw[HX];exact w1) (by rw[HX];exact w2) ⟨.ref a,H,I,rfl,q⟩⟩
theorem nA:LM X (λx lo hi H Q=>∃(a:Addr)(r:List Int),x=.ref a/\lo=some 1/\hi=none/\H a=some (.tup (r.map V.int))/\∀(p:Addr)(H':Hp),Gf H H'->H' p=some (.tup ((r.drop 1).map V.int))->Q (.ref p) H'):=by
 intro Fo s σ H x v vl vu lo hi sl Q I rx hs pl pu h
 obtain⟨a,r,rfl,rfl,rfl,ha,q⟩:=h
 cases r with
 |nil=>exact iG Fo s σ H _ v vl vu _ _ sl Q I rx hs pl pu ⟨a,[],rfl,HL.of ha,rfl,rfl,q a H (λ_ _ e=>e) ha⟩
 |cons n r =>
  refine UD Fo s σ H _ v vl vu _ _ sl Q I rx hs pl pu ⟨a,_,rfl,HL.of ha,λz=>?_,λp hp=>?_⟩
  ·have z1:=z.1
   rw[show(1:Int)=((1:Nat):Int) from rfl,HT.sIx_nat,AB,Ai]at z1
   lia
  ·refine q p _ (HH hp _) ?_
   rw[Gu]
   unfold KR
   rw[show(1:Int)=((1:Nat):Int) from rfl,HT.sIx_nat,HT.sIx_none,AB,Ai,Cf (by lia),Af (by simp),Gn]
theorem Oi:LM X (λx lo hi H Q=>∃(a:Addr)(r:List Int)(k:Nat),x=.ref a/\lo=none/\hi=some (k:Int)/\H a=some (.tup (r.map V.int))/\∀(p:Addr)(H':Hp),Gf H H'->H' p=some (.tup ((r.take k).map V.int))->Q (.ref p) H'):=by
 intro Fo s σ H x v vl vu lo hi sl Q I rx hs pl pu h
 obtain⟨a,r,k,rfl,rfl,rfl,ha,q⟩:=h
 by_cases c:r.length<=k
 ·refine iG Fo s σ H _ v vl vu _ _ sl Q I rx hs pl pu ⟨a,_,rfl,HL.of ha,HT.sIx_none _ _,?_,q a H (λ_ _ e=>e) (by rw[Af c];exact ha)⟩
  rw[HT.sIx_nat,AB]
  lia
 ·refine UD Fo s σ H _ v vl vu _ _ sl Q I rx hs pl pu ⟨a,_,rfl,HL.of ha,λz=>?_,λp hp=>?_⟩
  ·have z2:=z.2
   rw[HT.sIx_nat,AB]at z2
   lia
  ·refine q p _ (HH hp _) ?_
   rw[Gu]
   unfold KR
   rw[HT.sIx_nat,HT.sIx_none,AB,DW,HA,Cf (by lia),Go]
end
section
variable{X:Cx}
theorem Sg:LM X (λx lo hi H Q=>∃(a:Addr)(r:List Int)(k:Nat),x=.ref a/\lo=some (k:Int)/\hi=none/\H a=some (.tup (r.map V.int))/\∀(p:Addr)(H':Hp),Gf H H'->H' p=some (.tup ((r.drop k).map V.int))->Q (.ref p) H'):=by
 intro Fo s σ H x v vl vu lo hi sl Q I rx hs pl pu h
 obtain⟨a,r,k,rfl,rfl,rfl,ha,q⟩:=h
 by_cases c:min k r.length=0
 ·have e:r.drop k=r:=by
   rcases Nat.min_eq_zero_iff.mp c with z|z
   ·rw[z];rfl
   ·rw[DL.mp z,List.drop_nil]
  exact iG Fo s σ H _ v vl vu _ _ sl Q I rx hs pl pu ⟨a,_,rfl,HL.of ha,by rw[HT.sIx_nat,AB];exact c,HT.sIx_none _ _,q a H (λ_ _ e=>e) (by rw[e];exact ha)⟩
 ·refine UD Fo s σ H _ v vl vu _ _ sl Q I rx hs pl pu ⟨a,_,rfl,HL.of ha,λz=>?_,λp hp=>?_⟩
  ·have z1:=z.1
   rw[HT.sIx_nat,AB]at z1
   exact c z1
  ·refine q p _ (HH hp _) ?_
   rw[Gu]
   unfold KR
   rw[HT.sIx_nat,HT.sIx_none,AB,Af (by rw[BH,AB];lia),Gn]
   by_cases c2:k<=r.length
   ·rw[Cf c2]
   ·rw[FJ (by lia),Ct (by rw[AB];lia),Ct (by rw[AB];lia)]
theorem kL:IK X (compareOp .NotIn) (λx y H Q=>∃(n:Int)(p:Addr)(r:List Int),x=.int n/\y=.ref p/\H p=some (.tup (r.map V.int))/\Q (.bl (!decide (n∈r))) H):=by
 intro Fo s σ H x y v u Q I rx ry h
 obtain⟨n,p,r,rfl,rfl,hp,q⟩:=h
 have e:Vz (.int n) (r.map V.int)=decide (n∈r):=by
  unfold Vz
  clear hp q
  induction r with
  |nil=>rfl
  |cons y r ih =>
   rw[Ae,B8,ih]
   by_cases c:y=n
   ·subst c
    rw[show Lg (.int y) (.int y)=true from Cp y,AX (AJ ..)]
    rfl
   ·rw[show Lg (.int y) (.int n)=false from beq_eq_false_iff_ne.mpr c,Gk]
    by_cases d:n∈r
    ·rw[AX d,AX (AK _ d)]
    ·rw[AN d,AN (λz=>(AO.mp z).elim (λz=>c z.symm) d)]
 refine Y6 Fo s σ H _ _ v u Q I rx ry ⟨p,_,rfl,.inr (HL.of hp),rfl,?_,?_⟩
 ·rw[EL];exact Aj.mpr λ_ _=>rfl
 ·rw[AH rfl,e];exact q
end
theorem rQ:fillsNumberSlot (.type "tuple") "mul" = pure false :=
 PySem.fillsNumberSlot_seq (id := "tuple.__mul__") (r:=some (.builtin "tuple.__rmul__")) Cu.lookup (by decide +kernel) FT.lookup (by decide +kernel)
theorem jI:seqRepeat? (.type "tuple")=pure (some (.builtin "tuple.__mul__")):=by
 unfold seqRepeat?
 rw[PySem.seqSlot_of (T := "tuple") (name := "__mul__") (id := "tuple.__mul__") Cu.lookup (by decide +kernel),PySem.seqSlot_of (T := "tuple") (name := "__rmul__") (id := "tuple.__rmul__") FT.lookup (by decide +kernel)]
 rfl
theorem cV(a:Int)(t:Tok)(l:Addr)(items:Array Value)(n:Nat)(dd:Option Addr)(sl:Array (Option Value)) :
  Meets (Builtin.«int.__rmul__» ⟨[.int a t,.ref l],[]⟩) (λ_ R s=>s.heap.get? l=some ⟨.type "tuple",dd,.seq items n,sl⟩/\R (.ok (.ret Value.notImplemented)) s) :=
 .of_wp λprog w A R s h=>by
  obtain⟨hp,g,d,tk,os⟩:=s
  obtain⟨hl,h⟩:=h
  wp_walk
  exact⟨_,rfl,h⟩
theorem cK(l:Addr)(items:Array Value)(n:Nat)(dd:Option Addr)(sl:Array (Option Value))(u:Tok) :
  Meets (Builtin.«tuple.__mul__» ⟨[.ref l,.int 1 u],[]⟩) (λ_ R s=>s.heap.get? l=some ⟨.type "tuple",dd,.seq items n,sl⟩/\R (.ok (.ret (.ref l))) s) :=
 .of_wp λprog w A R s h=>by
  obtain⟨hp,g,d,tk,os⟩:=s
  obtain⟨hl,h⟩:=h
  have hc:(items.isEmpty||(1:Int)==1)=true:=by rw[Cp,Bool.or_true]
  wp_walk
  exact⟨_,rfl,h⟩
theorem Yz(l:Addr)(items:Array Value)(n:Nat)(dd:Option Addr)(sl:Array (Option Value))(k:Int)(u:Tok)(hi:items.isEmpty=false)(h0:k<=0)(h1:-(2^63)<=k) :
  Meets (Builtin.«tuple.__mul__» ⟨[.ref l,.int k u],[]⟩) (λ_ R s=>s.heap.get? l=some ⟨.type "tuple",dd,.seq items n,sl⟩/\R (.ok (.ret (.ref s.heap.objs.size))) { s with heap:=s.heap.push { cls:=.type "tuple",data:=.seq #[] } }) :=
 .of_wp λprog w A R s h=>by
  obtain⟨hp,g,d,tk,os⟩:=s
  obtain⟨hl,h⟩:=h
  have hf:¬ (decide (k < -(2^63))||decide (k ≥ 2^63))=true:=by rw[AN (by lia),AN (by lia)];exact AY
  have hc:¬ (items.isEmpty||k==1)=true:=by rw[hi,show(k==1)=false from beq_eq_false_iff_ne.mpr (by lia)];exact AY
  have hz:(decide (k<=0)||items.isEmpty)=true:=by rw[AX h0];rfl
  wp_walk
  refine Ck (AN hf) ?_
  wp_walk
  refine Ck (AN hc) ?_
  wp_walk
  exact⟨_,rfl,h⟩
theorem aW(l:Addr)(items:Array Value)(n:Nat)(dd:Option Addr)(sl:Array (Option Value))(k:Int)(u:Tok)(hi:items.isEmpty=false)(h0:2<=k)(h1:k<2^63)(hz:items.size*k.toNat<=sizeLine) :
  Meets (Builtin.«tuple.__mul__» ⟨[.ref l,.int k u],[]⟩) (λ_ R s=>s.heap.get? l=some ⟨.type "tuple",dd,.seq items n,sl⟩/\R (.ok (.ret (.ref s.heap.objs.size))) { s with heap:=s.heap.push { cls:=.type "tuple",data:=.seq ((List.replicate k.toNat items).foldl (λx1 x2=>x1++x2) #[]) } }) :=
 .of_wp λprog w A R s h=>by
  obtain⟨hp,g,d,tk,os⟩:=s
  obtain⟨hl,h⟩:=h
  have e:(items.size:Int)*k=((items.size*k.toNat:Nat):Int):=by rw[Int.natCast_mul,DI (by lia)]
  have hs:(sizeLine:Nat)<=(2^63-1) / 8:=by decide
  have hf:¬ (decide (k < -(2^63))||decide (k ≥ 2^63))=true:=by rw[AN (by lia),AN (by lia)];exact AY
  have hc:¬ (items.isEmpty||k==1)=true:=by rw[hi,show(k==1)=false from beq_eq_false_iff_ne.mpr (by lia)];exact AY
  have hz1:¬ (decide (k<=0)||items.isEmpty)=true:=by rw[AN (by lia),hi];exact AY
  have hm:¬ (items.size:Int)*k>(2^63-1) / 8:=by rw[e];lia
  have ht:¬ Builtin.Tuple.tupleTooMany ((items.size:Int)*k)=true:=by
   unfold Builtin.Tuple.tupleTooMany
   rw[e,AN (by lia)]
   exact AY
  have hsz:sizeOk (.seq ((List.replicate k.toNat items).foldl (λx1 x2=>x1++x2) #[])):=by
   show((List.replicate k.toNat items).foldl (λx1 x2=>x1++x2) #[]).size<=sizeLine
   have:∀(m:Nat)(acc:Array Value),((List.replicate m items).foldl (λx1 x2=>x1++x2) acc).size=acc.size+items.size*m:=by
    intro m
    induction m with
    |zero=>intro acc;simp
    |succ m ih=>intro acc;rw[A4,B3,ih,Array.size_append,Nat.mul_succ];lia
   rw[this]
   simpa using hz
  wp_walk
  refine Ck (AN hf) ?_
  wp_walk
  refine Ck (AN hc) ?_
  wp_walk
  refine Ck (AN hz1) ?_
  wp_walk
  refine Ck (AN hm) ?_
  wp_walk
  refine Ck (AN ht) ?_
  wp_walk
  refine Ck (AN (Nat.not_lt.mpr hsz)) ?_
  wp_walk
  exact⟨_,rfl,h⟩
theorem cL(r:List Int)(k:Nat):(List.replicate k (r.map V.int)).flatten=((List.replicate k r).flatten).map V.int:=by
 induction k with
 |zero=>rfl
 |succ k ih=>rw[A4,A4,Bv,Bv,Au,ih]
theorem Xo(l:List Value):∀m:Nat,(List.replicate m l.toArray).foldl (λx1 x2=>x1++x2) #[]=(List.replicate m l).flatten.toArray:=λm=>by
 have:∀(m:Nat)(acc:List Value),(List.replicate m l.toArray).foldl (λx1 x2=>x1++x2) acc.toArray=(acc++(List.replicate m l).flatten).toArray:=by
  intro m
  induction m with
  |zero=>intro acc;simp
  |succ m ih =>
   intro acc
   rw[A4,B3,List.append_toArray,ih,A4,Bv,Ac]
 exact this m []
section
variable{X:Cx}
theorem WD:IK X (binaryOp .Mult) (λx y H Q=>∃(p:Addr)(r:List Int)(k:Int),x=.ref p/\y=.int k/\H p=some (.tup (r.map V.int))/\r≠[]/\-(2^63)<=k/\k<2^63/\r.length*k.toNat<=sizeLine /\
  ∀(t:Addr)(H':Hp),Gf H H'->H' t=some (.tup (((List.replicate k.toNat r).flatten).map V.int))->Q (.ref t) H'):=by
 intro Fo s σ H x y v u Q I rx ry h
 obtain⟨p,r,k,rfl,rfl,hp,hne,h1,h2,hz,q⟩:=h
 cases rx
 obtain⟨t,rfl⟩:=ry
 obtain⟨its,rv,p1,_⟩:=I.tuple (HL.of hp)
 obtain⟨⟨cls,dd,data,sl⟩,ho,hc,n,hd⟩:=id p1
 simp only at hc hd
 subst hc hd
 have hl:=rv.length
 rw[AB]at hl
 have hi:its.toArray.isEmpty=false:=by
  cases its with
  |nil=>exact absurd (DL.mp (by rw[hl];rfl)) hne
  |cons a b=>rfl
 refine E8 (T := "tuple") (U := "int") (by decide) ⟨_,ho,rfl⟩ (λs'=>E7 s' k t) rQ PySem.F.fills_int_mul F0 jI PySem.F.slot_int_index.lookup
  (DO F0 (E7 s k t) PySem.F.entry_int_rmul (PySem.F.args_int_rmul_2 _ _) (cV k t p its.toArray n dd sl) ⟨ho,rfl,⟨_,ho,rfl⟩,?_⟩)
 by_cases c1:k=1
 ·subst c1
  refine DO Cu ⟨_,ho,rfl⟩ D4 (Dv _ _) (cK p its.toArray n dd sl t) ⟨ho,?_⟩
  exact⟨.ref p,H,I,rfl,q p H (λ_ _ e=>e) (by rw[hp];simp)⟩
 ·by_cases c0:k<=0
  ·refine DO Cu ⟨_,ho,rfl⟩ D4 (Dv _ _) (Yz p its.toArray n dd sl k t hi c0 h1) ⟨ho,?_⟩
   refine⟨.ref s.heap.objs.size,Gi H s.heap.objs.size (.tup []),I.laid (t':=s.toks) (o:=.tup []) (λb ob q=>AC _ q) (AG _) ⟨Az _,[],.nil,JN.new _ _⟩,rfl,q _ _ (HH I.fresh _) ?_⟩
   rw[Gu,show k.toNat=0 by lia]
   rfl
  ·refine DO Cu ⟨_,ho,rfl⟩ D4 (Dv _ _) (aW p its.toArray n dd sl k t hi (by lia) h2 (by rw[Am,<-hl];exact hz)) ⟨ho,?_⟩
   rw[Xo]
   refine⟨.ref s.heap.objs.size,Gi H s.heap.objs.size (.tup ((List.replicate k.toNat (r.map V.int)).flatten)),I.laid (t':=s.toks) (o:=.tup ((List.replicate k.toNat (r.map V.int)).flatten)) (λb ob q=>AC _ q) (AG _) ⟨?_,_,rv.rep k.toNat,JN.new _ _⟩,rfl,q _ _ (HH I.fresh _) ?_⟩
   ·rw[QE,AB,DU];exact hz
   ·rw[Gu,cL]
end
end L2.Ev
namespace L2.Ev
open PySem PySem.Spec PyProof.Rows
open L2.Ts L2.Pl L2.Rw
def SM(a:Addr)(o:Obj)(d:List Gb):It :=
 ⟨λi H=>H a=some (.frz o (.dT (II d)))/\i<d.length,
  λi H v H'=>∃q t,v=.ref q/\d[i]?=some t/\H q=some (.tup (t.1.map V.int))/\H'=H,
  λi H=>H a=some (.frz o (.dT (II d)))/\d.length<=i⟩
theorem Yv{P:Program}{w:World}{K:W.Frag}{tg:Expr}(a it:Addr)(o:Obj)(d:List Gb)(es:Array DictEntry)(ep:Nat)(hd:o.data=.dict es ep) :
  Js P w K tg (SM a o d) [it] it (λi h=>h.IsKeyIter it a i es.size ep) where
 mem:=by simp
 obj:=λi h st b hb=>by
  obtain⟨o',e1,e2,e3⟩:=st
  have e:b=it:=by simpa using hb
  subst e
  exact⟨o',e1,λv z=>by rw[e3]at z;cases z⟩
 keep:=λi h h' st k=>st.at λo e=>k it (by simp) o e
 item:=by
  intro X hP hw hK hc i Fo s σ H E I hf st hg
  subst hP hw hK
  obtain⟨hg,hi⟩:=hg
  obtain⟨raw,sz,ent⟩:=Ug hd I hg
  obtain⟨f0,f1,f2,f3,f4,f5⟩:=hf it (by simp)
  have hi':i<es.size:=by lia
  have ei:es.toList[i]?=some es[i]:=by rw[A0,AF hi']
  obtain⟨t,et,⟨q,eq1,eq2⟩,rt⟩:=Paired.get ent ei
  refine Qz st raw hi' λh' on sb=>?_
  have I1:Inv X Fo σ H { s with heap:=h' }:=I.turned (t':=s.toks) (λb o hb e=>(sb.2 b hb).trans e) f0 f1 f3 f4 f5
  obtain⟨o',e1,e2,e3⟩:=id on
  exact⟨_,rfl,Tk (s:={ s with heap:=h' }) e1 e2 e3 (by decide) ⟨.ref q,H,I1,by rw[eq1];rfl,⟨q,t,rfl,et,eq2,rfl⟩,on,λb hb=>(hf b hb).1⟩⟩
 done:=by
  intro X hP hw hK hc i Fo s σ H E I hf st hg
  subst hP hw hK
  obtain⟨hg,hi⟩:=hg
  obtain⟨raw,sz,ent⟩:=Ug hd I hg
  obtain⟨f0,f1,f2,f3,f4,f5⟩:=hf it (by simp)
  exact Qu (I.ok.hd hc) st raw (by lia) λh' eb=>⟨rfl,I.turned (t':=s.toks) (λb o hb e=>eb b o hb e) f0 f1 f3 f4 f5⟩
 self:=λ_ _ _ _ _ st h=>wpAny_pyIter_keyiter st h
def Wx(te:TE):TI:=λσ H R=>te σ H λx H1=>∃(a:Addr)(d:List Gb),x=.ref a/\H1 a=some (.dT (II d))/\∀o:Obj,R (SM a o d) (Gi H1 a (.frz o (.dT (II d))))
theorem XS{X:Cx}{tg eo:Expr}{te:TE}(ho:PE X eo te):PI X tg eo (Wx te):=by
 intro Fo s σ H R I h
 refine HY (ho Fo s σ H _ I h) λv s1 ⟨x,H1,I1,r1,q1⟩=>?_
 obtain⟨a,d,rfl,hd,q⟩:=q1
 cases r1
 obtain⟨z,lo,es,ep,raw,sz,ent⟩:=QF I1 (.inl hd)
 obtain⟨o,ho,hx,hdat⟩:=id raw
 refine Q8 lo raw ?_
 have I2:Inv X Fo σ H1 { s1 with heap:=s1.heap.push { cls:=.type "dict_keyiterator",data:=.fields #[.ref a,.int 0 0,.int es.size 0,.int ep 0] } }:=I1.kept (t':=s1.toks) λb u e=>AC _ e
 have hn:H1 s1.heap.objs.size=none:=I1.hok.fresh (AG _)
 have ho2:(s1.heap.push { cls:=.type "dict_keyiterator",data:=.fields #[.ref a,.int 0 0,.int es.size 0,.int ep 0] }).get? a=some o:=AC _ ho
 have I3:Inv X Fo σ (Gi H1 a (.frz o (.dT (II d)))) { s1 with heap:=s1.heap.push { cls:=.type "dict_keyiterator",data:=.fields #[.ref a,.int 0 0,.int es.size 0,.int ep 0] } }:=by
  refine I2.write (x:=a) (e:=a) (o:=.frz o (.dT (II d))) (t':=s1.toks) (by rw[hd];exact True.intro) (.inl rfl) (λb u _ e=>e) ⟨o,ho2⟩ ⟨ho2,?_⟩
  refine(I2.hok a _ hd).stay (λb u _ e=>e) (λb e=>?_) λb xs e=>?_
  ·rw[Ha (KL e hd (by intro z;cases z))];exact e
  ·rw[Ha (KL e hd (by intro z;cases z))];exact e
 refine⟨_,[s1.heap.objs.size],_,_,_,rfl,I3,Yv a s1.heap.objs.size o d es ep hdat,⟨_,AQ _ rfl,rfl,rfl⟩,λb hb=>?_,q o⟩
 have eb:b=s1.heap.objs.size:=by simpa using hb
 subst eb
 refine I1.fpOk (AG _) ?_
 rw[Ha (Iv hd hn).symm]
 exact hn
theorem dH{α:Type}[Dat α]{a:Addr}{o:Obj}{d:List Gb}{σ0:St}{H1:Hp}{D:Addr}{R:Hp->Prop}{g:TG}{tc:TT}{te:TE}(hD:H1 D=none)(hl:H1 a=some (.frz o (.dT (II d))))(Sp:St->Prop)(out:Nat->Option α)(hn:d.length<=sizeLine)(h0:Sp σ0)
  (IC:∀(i:Nat)(t:Gb)(q:Addr)(σ':St)(H':Hp)(Yes:V->St->Hp->Prop)(No:St->Hp->Prop),d[i]?=some t->H' q=some (.tup (t.1.map V.int))->Sp σ'->Gf H1 H'->(∀y σ2 H4 a,Sp σ2->Gf H' H4->out i=some a->Dat.is H4 y a->Yes y σ2 H4)->(∀σ2 H3,Sp σ2->Gf H' H3->out i=none->No σ2 H3) ->
   g (.ref q) σ' H' λσ2 H2=>tc σ2 H2 λok H3=>if ok=true then te σ2 H3 λy H4=>Yes y σ2 H4 else No σ2 H3)
  (hend:∀H',Gf H1 H'->Gh H' D ((List.range d.length).filterMap out)->R H') :
  ∃W:Nat->Nat->St->Hp->Prop,(∃m,W 0 m σ0 (Gi H1 D (.lst [])))/\∀i m σ' H',W i m σ' H' ->
  ((SM a o d).stop i H'/\R H')∨((SM a o d).go i H'/\∃N:St->Hp->Prop,(∀σ'' H'',N σ'' H''->∃m',m'<m/\W (i+1) m' σ'' H'') /\
   ∀x H'',(SM a o d).yld i H' x H''->g x σ' H'' λσ2 H2=>tc σ2 H2 λok H3=>if ok=true then te σ2 H3 λy H4=>∃ys,H4 D=some (.lst ys)/\ys.length<sizeLine/\N σ2 (Gi H4 D (.lst (ys++[y]))) else N σ2 H3):=by
 refine Ql (Q:=λ_ H=>R H) (n:=d.length) hD Sp out hn h0 (λH' e=>⟨e _ _ hl,AG _⟩) (λi H' hi e=>⟨e _ _ hl,hi⟩) (λi σ' H' Yes No hi hS hH hy hn x H'' y=>?_) hend
 obtain⟨q,t,rfl,ht,hq,rfl⟩:=y
 exact IC i t q σ' H'' Yes No ht hq hS hH hy hn
end L2.Ev
namespace L2.Ev
open PySem PySem.Spec PyProof.Rows
structure P8(X:Cx)(N':List Str)(src:List (Option Nat))(z:Str)(scope:Scope):Prop where
 kind:scope.kind=.function
 cells:∀n acc,cellsFrom n scope.names acc=(z,n)::acc
 push:∀h:Heap,pushCells h scope.names=h.push { cls:=.type "cell",data:=.cell none }
 own:∀y∈scope.names,y.2=.cell->y.1=z
 isz:scope.names.lookup z=some .cell
 names:∀y∈scope.names,y.2=.local->scope.names.lookup y.1=some .local
 frees:∀y∈scope.names,y.2=.free->X.env.kindOf y.1=some .cell∨X.env.kindOf y.1=some .free
 len:src.length=N'.length
 out:∀i j:Nat,src[i]?=some (some j)->∃x:Str,N'[i]?=some x/\X.N[j]?=some x/\scope.names.lookup x=some .free
end L2.Ev
namespace L2.Rw
open PySem PySem.W PySem.Calls PyProof.Rows PySem.Spec
section
variable{prog:Program}{w:World}{A:Around}{E:Value->Shared->Prop}{s:Shared}{d:Addr}{es:Array DictEntry}{ep:Nat}
theorem Ta{Q:Value->Shared->Prop}(hd:(d==sysModules)=false)(hm:IL s.heap d es ep)
  (hQ:Q (.ref s.heap.objs.size) { s with heap:=s.heap.push { cls:=.type "dict_keys",data:=.fields #[.ref d] } }):wpAny (model prog w) A (call (.builtin "dict.keys") [.ref d]) Q E s:=by
 have hT:=hm.type
 refine Bi F.slot_dict_keys hT F.entry_dict_keys ?_ (F.args_dict_keys_1 _)
 refine AA (m:=Builtin.Dict.noArgs "keys" ⟨[.ref d],[]⟩) ?_
 unfold Builtin.Dict.noArgs
 refine AA (GW hT (AD ?_))
 show wpAny _ _ (Builtin.Dict.showsAll d>>=_) _ _ s
 unfold Builtin.Dict.showsAll
 rw[AE (by rw[hd];decide)]
 exact AA (AD (AA (BC (AD ⟨_,rfl,hQ⟩))))
theorem WL{v:Addr}{Q:Value->Shared->Prop}(hv:KdlKeysView s.heap v d)(hm:IL s.heap d es ep)
  (hQ:Q (.ref s.heap.objs.size) { s with heap:=s.heap.push { cls:=.type "dict_keyiterator",data:=.fields #[.ref d,.int 0 0,.int es.size 0,.int ep 0] } }) :
  wpAny (model prog w) A (pyIter (.ref v)) Q E s:=by
 obtain⟨ov,hov,hcv,hdv⟩:=id hv
 obtain⟨o,ho,_,hdat⟩:=hm
 refine wpAny_pyIter_slot hv.typeIs kdl_slot_keys_iter (Bi kdl_slot_keys_iter hv.typeIs kdl_entry_keys_iter ?_ (kdl_args_keys_iter _))
 unfold Builtin.«dict_keys.__iter__»
 refine AA (AD (AA ?_))
 unfold Builtin.Dict_items.dictOf
 refine AA (BI hov hdv (x:=.ref d) rfl (AD (AA ?_)))
 unfold Builtin.Dict_items.newIterator
 refine AA (D7 ho hdat (AA (EU ho hdat ?_)))
 have own:Builtin.Dict_items.ownsTuple "dict_keyiterator" = false:=by decide
 simp only[own]
 refine BC (AD ⟨_,rfl, "dict_keyiterator",_,⟨_,AQ _ rfl,rfl⟩,B1.lookup,?_⟩) (by simp [sizeOk,Fm])
 simpa [rawInt]using hQ
theorem SR{r:Addr}:KdlSrc prog w "dict_keys" r d es.size (λi v=>∃h:i<es.size,v=es[i].key) (λh=>KdlKeysView h r d/\IL h d es ep) where
 type:=λ_ hm=>hm.1.typeIs
 there:=λ_ hm=>⟨by obtain⟨_,e,_⟩:=hm.1;exact AR e,hm.2.lt⟩
 keep:=λ_ _ hm hk=>⟨by obtain⟨o,e,q⟩:=hm.1;exact⟨o,hk r (.inl rfl) o e,q⟩,hm.2.keep λo e=>hk d (.inr rfl) o e⟩
 notList:=by decide
 notTuple:=by decide
 hint:=λ_ _ _ _ hm hq=>kdl_hint_keys hm.1.typeIs hq
 iter:=λ_ _ hh hm=>⟨_,_,(λ_ _ hq=>WL hm.1 hm.2 hq),Sb hh _ d (As hm.2.lt) es ep,⟨⟨_,AQ _ rfl,rfl,rfl⟩,hm.2.keep λo e=>AC _ e⟩⟩
end
end L2.Rw
namespace L2.Ev
open PySem PySem.Spec PyProof.Rows
open L2.Ts L2.Pl L2.Rw
def Kk(ks:List Pw):List (List Hl×V):=ks.map λk=>(k.map Sum.inl,V.bl true)
theorem UE(ks:List Pw):(Kk ks).length=ks.length:=AB _
theorem mT{X:Cx}{Fo:List (Addr×Obj)}{σ:St}{H:Hp}{s:Shared}{a:Addr}{ks:List Pw}(I:Inv X Fo σ H s)(h:Rd H a (.dT (Kk ks))) :
  ks.length<=sizeLine/\(a==sysModules)=false/\∃(es:Array DictEntry)(ep:Nat),IL s.heap a es ep/\es.size=ks.length /\
   Paired (λ(e:DictEntry)(k:Pw)=>∃p,e.key=.ref p/\H p=some (.tup (k.map V.int))) es.toList ks:=by
 obtain⟨z,y,xs,r,o,es,ep,h1,h2,h3,h4,h5⟩:=(show HM X.prog X.w H s.heap a (.dT (Kk ks)) from MG I.hok h)
 have key:∀{ks:List Pw}{xs:List (List Hl×Addr×Value)},KT H (Kk ks) xs->Paired (λ(e:DictEntry)(k:Pw)=>∃p,e.key=.ref p/\H p=some (.tup (k.map V.int))) (xs.map (entryOfKey (tupleKind (Jq X.prog X.w)))) ks:=by
  intro ks
  induction ks with
  |nil=>intro xs r;cases r;exact .nil
  |cons t d ih =>
   intro xs r
   cases r with
   |cons q qs =>
    refine .cons ⟨_,rfl,?_⟩ (ih qs)
    have:=q.2.1
    rw[<-J7]
    exact this
 have kp:=key r
 rw[<-h4]at kp
 refine⟨by rw[<-UE];exact z,y,es,ep,⟨o,h1,h2,h3⟩,?_,kp⟩
 rw[<-AT]
 exact AL kp
section
variable{X:Cx}
def Yu(te:TE):TE:=λσ H Q=>te σ H λx H1=>∃(a:Addr)(ks:List Pw),x=.ref a/\H1 a=some (.dT (Kk ks))/\∀(l:Addr)(vs:List V),H1 l=none->Hc H1 vs ks->Q (.ref l) (Gi H1 l (.lst vs))
theorem lO{Fo:List (Addr×Obj)}{σ:St}{H:Hp}{s:Shared}{ks:List Pw}{es:Array DictEntry}{Q:VK}{h':Heap}{tk P c:Nat}{acc:Array Value}(I:Inv X Fo σ H s)(z:ks.length<=sizeLine)(sz:es.size=ks.length)(ent:Paired (λ(e:DictEntry)(k:Pw)=>∃p,e.key=.ref p/\H p=some (.tup (k.map V.int))) es.toList ks)
  (it:ItemsOf (λi v=>∃h:i<es.size,v=es[i].key) acc es.size) (kp:∀b o,s.heap.get? b=some o->h'.get? b=some o) (hP:s.heap.objs.size<=P) (hS:h'.get? P=some { cls:=.type "list",dict:=none,data:=.seq acc c,slots:=#[] })
  (q:∀(l:Addr)(vs:List V),H l=none->Hc H vs ks->Q (.ref l) (Gi H l (.lst vs))):EP X Fo σ Q (.ref P) { s with heap:=h',toks:=tk }:=by
 have e:acc.toList=es.toList.map (·.key):=by
  refine C9 λi=>?_
  rw[A0,Ag,A0]
  by_cases c:i<es.size
  ·have ci:i<acc.size:=by rw[it.1];exact c
   obtain⟨_,e⟩:=it.2 i acc[i] (AF ci)
   rw[AF ci,AF c,e]
   rfl
  ·rw[BU (by rw[it.1];lia),BU (by lia)]
   rfl
 have key:∀{l:List DictEntry}{d:List Pw},Paired (λ(e:DictEntry)(k:Pw)=>∃p,e.key=.ref p/\H p=some (.tup (k.map V.int))) l d->Ja (List Int) H (l.map (·.key)) d:=by
  intro l d h
  induction h with
  |nil=>exact .nil
  |cons r t ih =>
   obtain⟨p,e1,e2⟩:=r
   exact .cons ⟨.ref p,e1,Jx e2⟩ ih
 have hb:=key ent
 rw[<-e]at hb
 obtain⟨vs,v1,v2⟩:=P4 hb
 have lz:vs.length<=sizeLine:=by rw[v1.length,e,AB,AT,sz];exact z
 exact⟨.ref P,Gi H P (.lst vs),I.laid (a:=P) (o:=.lst vs) (t':=tk) kp hP ⟨lz,acc.toList,c,v1,by rw[hS]⟩,rfl,q P vs (I.hok.fresh hP) v2⟩
theorem WX{eo:Expr}{te:TE}{p pos apos ppos:Pos}(hc:X.calm=true)(hg:Gl X "list")(hm:X.mg "list" = none)(ho:PE X eo te)(hbase:attributeBase eo "keys" X.env (eval eo X.env)=eval eo X.env:=by rfl)(hline:(apos.endLine==ppos.line)=true:=by rfl)
  (he:starEach [.Call (.Attribute eo "keys" apos) [] [] ppos] X.env=(false,eval (.Call (.Attribute eo "keys" apos) [] [] ppos) X.env)::starEach [] X.env:=by rfl) (hpl:(backTo pos (starEach [] X.env)).any (·.1)=false:=by rfl) (hnil:backTo pos (starEach [] X.env)=[]:=by rfl) :
  PE X (.Call (.Name "list" p) [.Call (.Attribute eo "keys" apos) [] [] ppos] [] pos) (Yu te):=by
 intro Fo s σ H Q I h
 refine BK (Jj I hg hm Cv ?_)
 refine BM ?_ he hpl
 rw[he]
 show wpAny _ _ (spliced ((false,eval (.Call (.Attribute eo "keys" apos) [] [] ppos) X.env)::backTo pos (starEach [] X.env))) _ _ s
 rw[hnil]
 refine Cy (FU hbase hline (HY (ho Fo s σ H _ I h) λv s1 ⟨x,H1,I1,r1,q1⟩=>?_))
 obtain⟨a,ks,rfl,hd,q⟩:=q1
 cases r1
 obtain⟨z,lo,es,ep,raw,sz,ent⟩:=mT I1 (.inl hd)
 obtain⟨o,ho',hx,hdat⟩:=id raw
 refine⟨"dict", "dict.keys",D0,Fi,Fj,raw.type,λb e=>?_,Cs rfl (Gv (Ta lo raw ?_))⟩
 ·cases e
  exact⟨o,ho',hx.2.1⟩
 have kp1:∀b u,s1.heap.get? b=some u->(s1.heap.push { cls:=.type "dict_keys",data:=.fields #[.ref a] }).get? b=some u:=λb u e=>AC _ e
 refine AD ?_
 refine W.kdl_call (s:={ s1 with heap:=s1.heap.push { cls:=.type "dict_keys",data:=.fields #[.ref a] } }) (SR (r:=s1.heap.objs.size) (d:=a) (es:=es) (ep:=ep)) (I1.ok.hd hc) ⟨⟨_,AQ _ rfl,rfl,rfl⟩,raw.keep λo e=>kp1 _ _ e⟩ (by rw[sz];exact z) λh' tk acc c kp hS it=>?_
 have I2:Inv X Fo σ H1 { s1 with heap:=s1.heap.push { cls:=.type "dict_keys",data:=.fields #[.ref a] } }:=I1.kept (t':=s1.toks) kp1
 exact lO I2 z sz ent it kp (AG _) hS q
end
end L2.Ev
namespace L2.Rw
open PySem PySem.W PySem.Calls PyProof.Rows PySem.Spec
open PySem.SeqAt
open PySem.AutoSeq1 (wpAny_loadPart')
open PySem.MeetsSeq PySem.MeetsSeq2 PySem.MeetsSeq3
section
variable{prog:Program}{w:World}{A:Around}{E:Value->Shared->Prop}
theorem YN{s:Shared}{r:Addr}{its:List Value}{Q:List Value->Shared->Prop}(ht:IsTup s.heap r its.toArray)(hz:its.length<=sizeLine)
  (hQ:∀h',(∀b o,s.heap.get? b=some o->h'.get? b=some o)->s.heap.objs.size<=h'.objs.size->Q its { s with heap:=h' }):wpAny (model prog w) A (collect (.ref r)) Q E s:=by
 obtain⟨⟨cls,dd,data,sl⟩,ho,hc,n,hd⟩:=ht
 simp only at hc hd
 subst hc hd
 obtain⟨hp,g,d,tk,os⟩:=s
 simp only at ho hQ
 unfold collect
 refine AA (wpAny_runValue (B4 Em ?_))
 rw[Ba En _]
 show wpAny _ A.in1 (newList []>>=λl=>again (.builtin "list.__iadd__" ⟨[l,.ref r],[]⟩)) _ _ _
 refine AA (BC (AD ⟨CU DK _,B4 FS ?_⟩))
 rw[Ba DK _]
 have hN:(hp.push { cls:=.type "list",data:=.seq ([]:List Value).toArray }).get? hp.objs.size=some { cls:=.type "list",dict:=none,data:=.seq ([]:List Value).toArray 0,slots:=#[] }:=AQ _ rfl
 have hT:(hp.push { cls:=.type "list",data:=.seq ([]:List Value).toArray }).get? r=some { cls:=.type "tuple",dict:=dd,data:=.seq its.toArray n,slots:=sl }:=AC _ ho
 have ne:hp.objs.size≠r:=CG (AR ho)
 unfold Builtin.«list.__iadd__»
 wp_walk using CQ hT,CQ hN
 have hl:(Obj.mapSeq (λx=>x++its.toArray) { cls:=.type "list",data:=.seq (#[]:Array Value) }).data.pastItsLine=none:=by
  simp [Obj.mapSeq,Data.pastItsLine,sizeOk]
  lia
 rw[hl]
 refine AD ?_
 refine AD ?_
 have hU:=BF (h:=hp.push { cls:=.type "list",data:=.seq (#[]:Array Value) }) (f:=Obj.mapSeq λx=>x++its.toArray) hN rfl
 refine AA (wpAny_load hU ?_)
 show wpAny _ _ (pure (#[]++its.toArray).toList) _ _ _
 rw[Array.empty_append,List.toList_toArray]
 refine AD (hQ _ (λb o e=>?_) ?_)
 ·exact(An _ _ (CG (AR e))).trans (AC _ e)
 ·rw[EE,size_push'];exact D9 _
end
end L2.Rw
namespace L2.Ev
open PySem PySem.Spec PyProof.Rows
open L2.Ts L2.Pl L2.Rw
theorem SC:Pt (λa b:Int=>decide (a<b)) where
 irr:=λa=>AN (by lia)
 trans:=λ{a b c} h q=>AX (by have:=BD h;have:=BD q;lia)
 tri:=λ{a b} h q=>by have:=C2 h;have:=C2 q;lia
section
variable{X:Cx}
def PD(l:List Int)(p:Keyed):Nat:=match p.1 with
 |.int x _=>Kw (λa b:Int=>decide (a<b)) l x
 |_=>0
abbrev Ka(u:Value)(n:Int):Prop:=∃t,u=.int n t
theorem Xc{its:List Value}{ns:List Int}(h:IntsAre its ns):Paired Ka its ns:=by
 induction h with
 |nil=>exact .nil
 |cons a t _ ih=>exact .cons ⟨t,rfl⟩ ih
theorem cZ{its:List Value}{ns:List Int}(h:Paired Ka its ns):IntsAre its ns/\Gy (ns.map V.int) its:=by
 induction h with
 |nil=>exact⟨.nil,.nil⟩
 |cons r _ ih =>
  obtain⟨t,rfl⟩:=r
  exact⟨.cons _ t ih.1,.cons ⟨t,rfl⟩ ih.2⟩
theorem jE{l0:List Int}{out:List Value}{m:List Int}(h:Paired Ka out m)(hm:∀a∈m,a∈l0)(o:out.Pairwise λx y=>PD l0 (y,y)<=PD l0 (x,x)):m.Pairwise λa b=>b<=a:=by
 induction h with
 |nil=>exact .nil
 |@cons x a xs m r t ih =>
  obtain⟨o1,o2⟩:=Ay.mp o
  refine Ay.mpr ⟨λb hb=>?_,ih (λb hb=>hm b (AK _ hb)) o2⟩
  obtain⟨y,hy,e⟩:∃y∈xs,Ka y b:=by
   have key:∀{xs:List Value}{m:List Int},Paired Ka xs m->b∈m->∃y∈xs,Ka y b:=by
    intro xs m t
    induction t with
    |nil=>intro z;cases z
    |cons r t ih =>
     intro z
     rcases AO.mp z with e|z
     ·subst e;exact⟨_,AJ ..,r⟩
     ·obtain⟨y,hy,f⟩:=ih z
      exact⟨y,AK _ hy,f⟩
   exact key t hb
  obtain⟨t1,rfl⟩:=r
  obtain⟨t2,rfl⟩:=e
  have q:Kw (λa b:Int=>decide (a<b)) l0 b<=Kw (λa b:Int=>decide (a<b)) l0 a:=o1 _ hy
  refine Int.not_lt.mp λz=>?_
  have:=(OC SC (hm a (AJ ..))).mp (AX z)
  lia
theorem aT:∀{its:List Value}{ns:List Int},IntsAre its ns->2<=its.length->keyKind' its.toArray=pure oneType'
 |[],_,_,h=>absurd h (by decide)
 |[_],_,_,h=>absurd h (by show ¬ 2<=1;decide)
 |_::_::_,_,ii,_=>keyKind_ints ii
def bJ(K:W.Frag)(ta:TA):TE:=λσ H Q=>ta σ H λvs H1=>∃(a:Addr)(ns:List Int),vs=[.ref a]/\HL K H1 a (ns.map V.int) /\
 ∀(p:Addr)(l:List Int),H1 p=none->l.Perm ns->(l.Pairwise λa b=>b<=a)->Q (.ref p) (Gi H1 p (.lst (l.map V.int)))
theorem aZ{e:Expr}{ta:TA}{p pos kp kq:Pos}{j}(hc:X.calm=true)(hu:X.A.units+8<cLine)(hg:Gl X "sorted")(hm:X.mg "sorted" = none)(ha:PA X [e] ta)
  (h1:backTo pos (starEach [e] X.env)=(false,eval e X.env)::backTo pos (starEach [] X.env):=by rfl) (h2:(backTo pos (starEach [e] X.env)).any (·.1)=false:=by rfl) :
  PE X (.Call (.Name "sorted" p) [e] [⟨some (Str.ofString "reverse"),.Constant (.bool true) j kq,kp⟩] pos) (bJ X.K ta):=by
 intro Fo s σ H Q I h
 refine BK (Jj I hg hm Eg ?_)
 refine EB (HY (ha pos Fo s σ H _ I h) λus s1 ⟨vs,H1,I1,r1,q1⟩=>?_) h1 h2
 obtain⟨a,ns,rfl,hq,q⟩:=q1
 obtain⟨u,rfl,ru⟩:=KQ r1
 cases ru
 refine FM (Constant_bool (kws_nil ?_))
 obtain⟨its,rv,ht,hz⟩:=I1.tuple hq
 have ii:IntsAre its ns:=KI rv
 have pi:=Xc ii
 have lz:its.length<=sizeLine:=by rw[<-rv.length];exact hz
 refine VL (κ:=oneType') (M:=λp=>∃x∈ns,∃t,p.1=.int x t) (rk:=PD ns) lz (λv hv=>?_) (λQ' q'=>YN ht lz λh' kp sz=>q' h' s1.toks kp sz) (λh' tk kp l2=>⟨λQ' E' q'=>?_,λx y hx hy Q' q'=>?_⟩) λh' tk P c out pm o kp hP hg=>?_
 ·obtain⟨n,hn,t,e⟩:=Paired.mem pi hv
  exact⟨n,hn,t,e⟩
 ·rw[aT ii l2]
  exact AD q'
 ·obtain⟨n,hn,t,e⟩:=hx
  obtain⟨m,hm',t',e'⟩:=hy
  rw[e,e',keyLt'_oneType]
  refine oneLt_int ?_
  have z:decide (PD ns x<PD ns y)=decide (n<m):=by
   unfold PD
   rw[e,e']
   have:=OC SC hn (b:=m)
   by_cases c:n<m
   ·rw[AX c,AX (this.mp (AX c))]
   ·rw[AN c,AN λz=>c (BD (this.mpr z))]
  rw[z]at q'
  exact q'
 ·obtain⟨m,p1,bm⟩:=Paired.perm pm pi
  obtain⟨i2,v2⟩:=cZ bm
  have lo:(m.map V.int).length<=sizeLine:=by rw[v2.length,pm.length_eq];exact lz
  exact⟨.ref P,Gi H1 P (.lst (m.map V.int)),I1.laid (a:=P) (o:=.lst (m.map V.int)) (t':=tk) kp hP ⟨lo,out,c,v2,hg⟩,rfl,q P m (I1.hok.fresh hP) p1 (jE bm (λa ha=>p1.mem_iff.mp ha) o)⟩
end
end L2.Ev
namespace L2.Ev
open PySem PySem.Spec PyProof.Rows
open L2.Pl
end L2.Ev
namespace L2.Ev
open PySem PySem.Spec PyProof.Rows
open L2.Ts L2.Pl L2.Rw
section
variable{X:Cx}{α:Type}[D:Dat α][S:Io α]
theorem Zb{Fo:List (Addr×Obj)}{σ:St}{H:Hp}{s:Shared}{r:Addr}{its:List Value}{l:List α}{Q:VK}(hu:X.A.units+8<cLine)(I:Inv X Fo σ H s)(hb:Ja α H its l)(hz:its.length<=sizeLine)(hok:2<=l.length->∀a∈l,S.ok a)
  (Kr:∀(Q':List Value->Shared->Prop),(∀h' tk,(∀b o,s.heap.get? b=some o->h'.get? b=some o)->s.heap.objs.size<=h'.objs.size->Q' its { s with heap:=h',toks:=tk })->wpAny (model X.prog X.w) X.A.in1 (collect (.ref r)) Q' X.xe s)
  (q:∀(p:Addr)(vs:List V)(l':List α),H p=none->l'.Perm l->(l'.Pairwise λa b=>S.lt a b=false)->Hc H vs l'->Q (.ref p) (Gi H p (.lst vs))) :
  wpAny (model X.prog X.w) X.A (call (.builtin "sorted") [.ref r] [(Str.ofString "reverse",.bool true)]) (EP X Fo σ Q) X.xe s:=by
 refine VL (κ:=tuples' S.plain) (M:=λp=>∃a∈l,∃v,Gx v p.1/\D.is H v a) (rk:=Lb α H l) hz (λv hv=>?_) Kr (λh' tk kp l2=>?_) λh' tk P e out p o kp hP hg=>?_
 ·obtain⟨a,ha,d⟩:=Paired.mem hb hv
  exact⟨a,ha,d⟩
 ·exact SY (A:=X.A.in1.in1) (by show X.A.units+1+1+4<cLine;lia) hb (hok (by rw[<-AL hb];exact l2)) (I.kept (t':=tk) kp) l2
 ·exact kA I hb hz p o kp hP hg q
end
section
variable{X:Cx}
theorem TW:∀{a b:List Int},a.Perm b->(a.Pairwise λx y=>y<=x)->(b.Pairwise λx y=>y<=x)->a=b
 |[],b,h,_,_=>(List.nil_perm.mp h).symm
 |x::a,[],h,_,_=>absurd h.symm (by simp)
 |x::a,y::b,h,ha,hb=>by
  obtain⟨a1,a2⟩:=Ay.mp ha
  obtain⟨b1,b2⟩:=Ay.mp hb
  have e:x=y:=by
   have h1:x∈y::b:=h.mem_iff.mp (AJ ..)
   have h2:y∈x::a:=h.mem_iff.mpr (AJ ..)
   rcases AO.mp h1 with e|m1
   ·exact e
   ·rcases AO.mp h2 with e|m2
    ·exact e.symm
    ·have:=b1 x m1
     have:=a1 y m2
     lia
  subst e
  rw[TW (List.perm_cons x |>.mp h) a2 b2]
def PQ(x:Int):List Int->List Int
 |[]=>[x]
 |y::l=>if y<=x then x::y::l else y::PQ x l
def Iz(l:List Int):List Int:=l.foldr PQ []
theorem jV(x:Int):∀l,(PQ x l).Perm (x::l)
 |[]=>.refl _
 |y::l=>by
  unfold PQ
  split
  ·exact .refl _
  ·exact((jV x l).cons y).trans (.swap ..)
theorem oV(x:Int):∀{l:List Int},(l.Pairwise λa b=>b<=a)->((PQ x l).Pairwise λa b=>b<=a)
 |[],_=>D1 _ _
 |y::l,h=>by
  obtain⟨h1,h2⟩:=Ay.mp h
  unfold PQ
  split
  ·rename_i c
   exact Ay.mpr ⟨λz hz=>(AO.mp hz).elim (λe=>e▸c) λm=>by have:=h1 z m;lia,h⟩
  ·rename_i c
   refine Ay.mpr ⟨λz hz=>?_,oV x h2⟩
   rcases AO.mp ((jV x l).mem_iff.mp hz) with e|m
   ·lia
   ·exact h1 z m
theorem iH:∀l,(Iz l).Perm l
 |[]=>.refl _
 |x::l=>(jV x (Iz l)).trans ((iH l).cons x)
theorem Qy:∀l,(Iz l).Pairwise λa b=>b<=a
 |[]=>.nil
 |x::l=>oV x (Qy l)
theorem Yd{a l:List Int}(h:a.Perm l)(f:a.Pairwise λx y=>y<=x):a=Iz l:=TW (h.trans (iH l).symm) f (Qy l)
end
end L2.Ev
namespace L2.Ev
open PySem PySem.Spec PyProof.Rows L2 L2.Pl
end L2.Ev
namespace L2.Ev
open PySem PySem.Spec PyProof.Rows
open L2.Ts L2.Pl L2.Rw
section
variable{X:Cx}{Fo:List (Addr×Obj)}{σ:St}{H:Hp}{s:Shared}{A:Around}{E':Value->Shared->Prop}
theorem qR(I:Inv X Fo σ H s):∀{its:List Value}{l:List (List Int)},Ja (List Int) H its l->∀{Q:List (Option Value)->Shared->Prop},(∀fs:List (Option Value),fs.map (·.isSome)=l.map (λr=>!r.isEmpty)->Q fs s)->wpAny (model X.prog X.w) A (its.mapM firstOfTuple') Q E' s
 |[],[],.nil,Q,q=>by
  rw[List.mapM_nil]
  exact AD (q [] rfl)
 |u::its,r::l,.cons h t,Q,q=>by
  obtain⟨v,rv,dv⟩:=h
  obtain⟨p,rfl,hp⟩:=JE dv
  cases rv
  obtain⟨o,xs,n,ho,hc,hd,rvv⟩:=Mn I hp
  rw[List.mapM_cons]
  refine AA ?_
  rw[W.kas_first_eq]
  refine AA (W.Looks.here (show W.Looks (model X.prog X.w) s.heap (typeOf (.ref p)) o.cls from(ED ho).andThen .now) ?_)
  rw[hc,AE (by first|decide|simp)]
  refine AA (listItems_at ho hd (AD ?_))
  refine AA (qR I t (Q:=λbs s'=>wpAny (model X.prog X.w) A (pure (xs.toArray[0]?::bs)) Q E' s') λfs e=>AD (q _ ?_))
  rw[Ae,Ae,e]
  congr 1
  have l1:=rvv.length
  rw[AB]at l1
  cases r with
  |nil =>
   have:xs=[]:=DL.mp (by simpa using l1.symm)
   subst this
   rfl
  |cons x r =>
   cases xs with
   |nil=>simp at l1
   |cons y xs=>rfl
theorem WH(I:Inv X Fo σ H s){its:List Value}{l:List (List Int)}(hb:Ja (List Int) H its l)(hm:[]∈l){Q:SortKind->Shared->Prop}(q:Q (if (l.headD []).isEmpty=true then oneType' else general') s):wpAny (model X.prog X.w) A (keyKind' its.toArray) Q E' s:=by
 rw[PyProof.Rows.kat_kind_eq,List.mapM_toArray,map_eq_pure_bind]
 refine AA (AA (qR I hb λfs e=>AD ?_))
 have h1:(fs.toArray.all λx=>x.isSome)=false:=by
  rw[List.all_toArray]
  have:fs.all (λx=>x.isSome)=(fs.map (·.isSome)).all id:=by rw[EL];rfl
  rw[this,e]
  refine E4.mpr λz=>?_
  have:=Aj.mp z _ (AV.mpr ⟨[],hm,rfl⟩)
  cases this
 rw[AE (by rw[h1];decide)]
 cases l with
 |nil=>cases hm
 |cons r l =>
  cases hb with
  |@cons u _ its' _ h t =>
   cases fs with
   |nil=>simp at e
   |cons f fs =>
    rw[Ae,Ae]at e
    injection e with e1 e2
    show wpAny _ _ (if (f).isSome=true then pure general' else _) _ _ _
    rw[List.headD_cons]at q
    cases c:r.isEmpty with
    |false =>
     rw[c]at e1 q
     rw[AH (by rw[e1];rfl)]
     exact AD q
    |true =>
     rw[c]at e1 q
     rw[AE (by rw[e1];decide)]
     rw[oneTypeOnly'_eq,List.mapM_toArray,map_eq_pure_bind]
     have ty:∀v∈u::its',∀(Q':Value->Shared->Prop),Q' (.type "tuple") s->wpAny (model X.prog X.w) A (typeOf v) Q' E' s:=λv hv Q' hq=>by
      obtain⟨a,_,v',rv,dv⟩:=Paired.mem (Paired.cons h t) hv
      obtain⟨p,rfl,hp⟩:=JE dv
      cases rv
      obtain⟨o,xs,n,ho,hc,hd,rvv⟩:=Mn I hp
      exact W.Looks.here (show W.Looks (model X.prog X.w) s.heap (typeOf (.ref p)) (.type "tuple") from hc▸(ED ho).andThen .now) hq
     refine AA (AA (AA (W.kas_mapM (r:=Value.type "tuple") _ ty (AD ?_))))
     have hall2:((List.map (λ_=>Value.type "tuple") (u::its')).toArray.all λx=>x==Value.type "tuple")=true:=by
      simp only[List.all_toArray,EL,Aj]
      intro _ _
      show(Value.type "tuple" == Value.type "tuple")=true
      decide
     have h0:(List.map (λ_=>Value.type "tuple") (u::its')).toArray[0]?=some (Value.type "tuple"):=by simp
     rw[h0]
     refine AD ?_
     rw[AH hall2]
     exact AD q
theorem eF(I:Inv X Fo σ H s)(hu:A.units+1<cLine){p p':Addr}{a b:List Int}(h:H p=some (.tup (a.map V.int)))(h':H p'=some (.tup (b.map V.int))){Q:Bool->Shared->Prop}(q:Q (Hj a b) s):wpAny (model X.prog X.w) A (keyLt' general' (.ref p) (.ref p')) Q (λ_ _=>False) s:=by
 obtain⟨its,r1,p1,_⟩:=I.tuple (HL.of h)
 obtain⟨its2,r2,p2,_⟩:=I.tuple (HL.of h')
 show wpAny _ _ (oneLt' false (.ref p) (.ref p')) _ _ _
 refine EO _ _ (HT.lt_tupInts p1 p2 (KI r1) (KI r2) (by lia) ?_)
 rw[SO]
 exact q
theorem Wq(I:Inv X Fo σ H s)(hu:A.units+1<cLine){p p':Addr}{a b:List Int}(h:H p=some (.tup (a.map V.int)))(h':H p'=some (.tup (b.map V.int))){Q:Bool->Shared->Prop}(q:Q (Hj a b) s):wpAny (model X.prog X.w) A (keyLt' oneType' (.ref p) (.ref p')) Q (λ_ _=>False) s:=by
 obtain⟨its,r1,p1,_⟩:=I.tuple (HL.of h)
 obtain⟨its2,r2,p2,_⟩:=I.tuple (HL.of h')
 obtain⟨⟨cls,dd,data,sl⟩,ho,hc,n,hd⟩:=id p1
 obtain⟨⟨cls2,dd2,data2,sl2⟩,ho2,hc2,n2,hd2⟩:=id p2
 simp only at hc hd hc2 hd2
 subst hc hd hc2 hd2
 rw[keyLt'_oneType,oneLt'_eq]
 simp only[CA]
 refine AA (wpAny_cRoomFor (by lia) ?_)
 refine AA (wpAny_callSpecialIfBound?_slot ⟨_,ho,rfl⟩ EF (DO EF ⟨_,ho,rfl⟩ Fc (FN _ _) (HT.tuple_lt_ints p p' its.toArray its2.toArray n n2 dd dd2 sl sl2 a b (KI r1) (KI r2)) ⟨ho,ho2,?_⟩))
 show wpAny _ _ (truthOfDropped (.bool (HT.lexLt a b))) _ _ _
 rw[SO]
 exact CK q
end
section
variable{X:Cx}
theorem eN{Fo:List (Addr×Obj)}{σ:St}{H:Hp}{s:Shared}{r:Addr}{its:List Value}{l:List (List Int)}{Q:VK}(hu:X.A.units+8<cLine)(I:Inv X Fo σ H s)(hb:Ja (List Int) H its l)(hz:its.length<=sizeLine)
  (Kr:∀(Q':List Value->Shared->Prop),(∀h' tk,(∀b o,s.heap.get? b=some o->h'.get? b=some o)->s.heap.objs.size<=h'.objs.size->Q' its { s with heap:=h',toks:=tk })->wpAny (model X.prog X.w) X.A.in1 (collect (.ref r)) Q' X.xe s)
  (q:∀(p:Addr)(vs:List V)(l':List (List Int)),H p=none->l'.Perm l->(l'.Pairwise λa b=>Hj a b=false)->Hc H vs l'->Q (.ref p) (Gi H p (.lst vs))) :
  wpAny (model X.prog X.w) X.A (call (.builtin "sorted") [.ref r] [(Str.ofString "reverse",.bool true)]) (EP X Fo σ Q) X.xe s:=by
 by_cases c:[]∈l
 ·refine VL (κ:=if (l.headD []).isEmpty=true then oneType' else general') (M:=λp=>∃a∈l,∃v,Gx v p.1/\Dat.is H v a) (rk:=Lb (List Int) H l) hz (λv hv=>?_) Kr (λh' tk kp l2=>⟨λQ' E' q'=>WH (I.kept (t':=tk) kp) hb c q',?_⟩) λh' tk P e out p o kp hP hg=>?_
  ·obtain⟨a,ha,d⟩:=Paired.mem hb hv
   exact⟨a,ha,d⟩
  ·intro x y hx hy Q q
   have I2:=I.kept (t':=tk) kp
   obtain⟨a,ha,v,rv,dv⟩:=hx
   obtain⟨b,hb',v',rv',dv'⟩:=hy
   rw[PR rv dv,PR rv' dv']at q
   have e:decide (Kw (Io.lt (α:=List Int)) l a<Kw (Io.lt (α:=List Int)) l b)=Hj a b:=by
    show _=Io.lt (α:=List Int) a b
    cases c:Io.lt (α:=List Int) a b with
    |true=>exact AX ((OC Io.lin ha).mp c)
    |false=>exact AN λz=>by rw[(OC Io.lin ha).mpr z]at c;cases c
   rw[e]at q
   obtain⟨p1,rfl,hp1⟩:=JE dv
   obtain⟨p2,rfl,hp2⟩:=JE dv'
   obtain⟨x1,x2⟩:=x
   obtain⟨y1,y2⟩:=y
   cases rv
   cases rv'
   split
   ·exact Wq I2 (by show X.A.units+1+1+1<cLine;lia) hp1 hp2 q
   ·exact eF I2 (by show X.A.units+1+1+1<cLine;lia) hp1 hp2 q
  ·exact kA I hb hz p o kp hP hg q
 ·exact Zb hu I hb hz (λ_ a ha=>show a≠[] from λe=>c (by rw[<-e];exact ha)) Kr q
def Ye(ta:TA):TE:=λσ H Q=>ta σ H λvs H1=>∃(a:Addr)(d:List Gb),vs=[.ref a]/\Rd H1 a (.dT (II d)) /\
 ∀(p:Addr)(vs:List V)(ks:List Pw),H1 p=none->ks.Perm (d.map (·.1))->(ks.Pairwise λa b=>Hj a b=false)->Hc H1 vs ks->Q (.ref p) (Gi H1 p (.lst vs))
theorem XM{e:Expr}{ta:TA}{p pos kp kq:Pos}{j}(hc:X.calm=true)(hu:X.A.units+8<cLine)(hg:Gl X "sorted")(hm:X.mg "sorted" = none)(ha:PA X [e] ta)
  (h1:backTo pos (starEach [e] X.env)=(false,eval e X.env)::backTo pos (starEach [] X.env):=by rfl) (h2:(backTo pos (starEach [e] X.env)).any (·.1)=false:=by rfl) :
  PE X (.Call (.Name "sorted" p) [e] [⟨some (Str.ofString "reverse"),.Constant (.bool true) j kq,kp⟩] pos) (Ye ta):=by
 intro Fo s σ H Q I h
 refine BK (Jj I hg hm Eg ?_)
 refine EB (HY (ha pos Fo s σ H _ I h) λus s1 ⟨vs,H1,I1,r1,q1⟩=>?_) h1 h2
 obtain⟨a,d,rfl,hR,q⟩:=q1
 obtain⟨u,rfl,ru⟩:=KQ r1
 cases ru
 refine FM (Constant_bool (kws_nil ?_))
 obtain⟨z,lo,es,ep,raw,sz,ent⟩:=QF I1 hR
 have hb:Ja (List Int) H1 (es.toList.map (·.key)) (d.map (·.1)):=by
  have key:∀{l:List DictEntry}{d:List Gb},Paired (λ(e:DictEntry)(t:Gb)=>(∃p,e.key=.ref p/\H1 p=some (.tup (t.1.map V.int)))/\Gx (.int t.2) e.val) l d->Ja (List Int) H1 (l.map (·.key)) (d.map (·.1)):=by
   intro l d h
   induction h with
   |nil=>exact .nil
   |cons r t ih =>
    obtain⟨⟨p,e1,e2⟩,_⟩:=r
    exact .cons ⟨.ref p,e1,Jx e2⟩ ih
  exact key ent
 have ln:(es.toList.map (·.key)).length<=sizeLine:=by rw[AB,AT,sz];exact z
 refine eN hu I1 hb ln (λQ' q'=>aG (RR lo) (I1.ok.hd hc) raw (by rw[sz];exact z) λh' tk acc kp szz it=>?_) q
 ·have e:acc.toList=es.toList.map (·.key):=by
   refine C9 λi=>?_
   rw[A0,Ag,A0]
   by_cases c:i<es.size
   ·have ci:i<acc.size:=by rw[it.1];exact c
    obtain⟨_,e⟩:=it.2 i acc[i] (AF ci)
    rw[AF ci,AF c,e]
    rfl
   ·rw[BU (by rw[it.1];lia),BU (by lia)]
    rfl
  rw[e]
  exact q' h' tk kp szz
end
end L2.Ev
namespace L2.Ev
open PySem PySem.Spec PyProof.Rows
open PySem.W PySem.Calls Builtin Builtin.ObjectAttr
def Ur:Value->Bool
 |.ref _=>true
 |_=>false
def PU(l:List Value):Bool:=l.dropWhile Ur==[.type "ValueError",.type "Exception",.type "BaseException",.type "object"]
theorem qU(self:Value)(what:Str):∀l:List Value,refuseLoop self what l=refuseLoop self what (l.dropWhile Ur)
 |[]=>rfl
 |v::r=>by
  rw[List.dropWhile_cons]
  cases h:Ur v with
  |true =>
   obtain⟨c,rfl⟩:∃c,v=.ref c:=by
    cases v<;>first|exact⟨_,rfl⟩|cases h
   rw[AH rfl,refuseLoop_ref]
   exact qU self what r
  |false=>rw[AE (by decide)]
theorem Wn(self:Value){l:List Value}(h:PU l=true):refuseLoop self "__setattr__" l=pure ():=by
 rw[qU,show l.dropWhile Ur=_ from beq_iff_eq.mp h]
 exact PySem.F.store_ValueError.passes self
section
variable{prog:Program}{w:World}{K:Frag}{x C:Addr}{s:Shared}{A:Around}{R:Result->Shared->Prop}
theorem Rb{ox:Obj}{od:Option Obj}{cd:ClassData}{name:Str}{tk:Tok}{v:Value}(X:K.In s.heap)(I:InstAt s.heap x ox C od)(k:JS K C)(hc:clsIn K C=some cd)(hv:PU cd.mro=true)(hf:findIn K (.ref C) name=some none)
  (q:wpAny (model prog w) A.in1 (storeInOwnDict (.ref x) (.ref C) (.str name tk) name v false) (λfin s'=>match fin with|.done f=>R (.ok f) s'|.again c'=>c'.quiet=true/\codeAny (model prog w) A c' R s') (λe s'=>R (.error e) s') s) :
  codeAny (model prog w) A (.call (.builtin "object.__setattr__") ⟨[.ref x,.str name tk,v],[]⟩) R s:=by
 have SF:=PySem.F.store_object
 have isO:Looks (model prog w) s.heap (isInstance (.ref x) (.type "object")) true:=I.type.andThen (Fq X k.obj)
 have mro:Looks (model prog w) s.heap (mroOf (.ref C)) cd.mro:=(looks_clsIn X hc).andThen .now
 refine DB SF.slot.plain SF.entry (@check_slot (model prog w) _ _ s "object.__setattr__" "object" "__setattr__" (.ref x) [.str name tk,v] [] _ SF.kind SF.split isO (SF.args (.ref x) (.str name tk) v) ?_)
 rw[osa_eq,refuse_eq]
 refine AA (AA (I.type.here (AA (mro.here ?_))))
 rw[Wn _ hv]
 refine AD (AA (I.type.here (AA ((Dx X hf).here (AA (AD ?_))))))
 exact q
theorem dI{cd:ClassData}{name:Str}{tk:Tok}{v:Value}{b:Bool}{oda:Data}{osl:Array (Option Value)}{Q:Fin->Shared->Prop}{E:Value->Shared->Prop}(X:K.In s.heap)(hc:clsIn K C=some cd)(hd:cd.hasDict=true)(hx:s.heap.get? x=some { cls:=.ref C,dict:=none,data:=oda,slots:=osl })(hnc:∀c,oda≠.cls c)
  (q:∀h' tk',h'.get? x=some { cls:=.ref C,dict:=some s.heap.objs.size,data:=oda,slots:=osl }->h'.Ns1 s.heap.objs.size (λy=>if y=name then some v else none)->(∀b o,b≠x->s.heap.get? b=some o->h'.get? b=some o)->Q (.done (.ret .none)) { s with heap:=h',toks:=tk' }) :
  wpAny (model prog w) A (storeInOwnDict (.ref x) (.ref C) (.str name tk) name v b) Q E s:=by
 refine AA (AD (AA (AA (Gd hx (AA ((looks_clsIn X hc).here ?_))))))
 rw[hd,AE (by decide)]
 show wpAny _ _ (if (!true||!typeHasDict (.ref C))=true then pure none else _) _ _ _
 rw[AE (by show ¬ ((!true||!true)=true);decide)]
 have new:wpAny (model prog w) A (alloc { cls:=.type "dict",data:=.dict #[] }>>=λd=>update x (λo=>{ o with dict:=some d })>>=λ_=>dictMade (.ref C) x d) (λa s'=>wpAny (model prog w) A (match a with|some d=>storeInDict d (.str name tk) name v|none=>noDictFor (.ref x) (.ref C) name b) Q E s') E s:=by
  have hx1:=AC { cls:=.type "dict",data:=.dict #[] } hx
  have nx:x≠s.heap.objs.size:=As (AR hx)
  refine AA (wpAny_alloc' (AA (wpAny_update' hx1 (AD ?_))))
  have self':((s.heap.push { cls:=.type "dict",data:=.dict #[] }).update x λo=>{ o with dict:=some s.heap.objs.size }).get? x=some { cls:=.ref C,dict:=some s.heap.objs.size,data:=oda,slots:=osl }:=by
   refine BF _ hx1 ?_
   have hfr:=(Heap.get?_some_iff.mp hx).2
   cases oda<;>first|rfl|exact hfr
  have dct:((s.heap.push { cls:=.type "dict",data:=.dict #[] }).update x λo=>{ o with dict:=some s.heap.objs.size }).get? s.heap.objs.size=some { cls:=.type "dict",data:=.dict #[] }:=(Dj _ _ _ _ nx.symm).trans (Heap.get?_push_at rfl rfl)
  have emp:((s.heap.push { cls:=.type "dict",data:=.dict #[] }).update x λo=>{ o with dict:=some s.heap.objs.size }).Ns s.heap.objs.size (λ_=>none):=⟨_,#[],_,dct,rfl,λe he=>absurd he (by simp),λ_=>rfl⟩
  have oth:∀b o,b≠x->s.heap.get? b=some o->((s.heap.push { cls:=.type "dict",data:=.dict #[] }).update x λo=>{ o with dict:=some s.heap.objs.size }).get? b=some o:=λb o hb e=>(Dj _ _ _ _ hb).trans (AC _ e)
  show wpAny _ _ (storeInDict s.heap.objs.size (.str name tk) name v) _ _ _
  unfold storeInDict newKeyGuard
  refine AA (AD (AA (wpAny_nsSet1 (Heap.Ns1.of_empty emp) λh' hn2 hs2=>?_)))
  obtain⟨oD,esD,epD,hoD,hdD,hcD⟩:=hn2.count (E5 name v PySem.Within.nil)
  refine AA (wpAny_lookBehind hoD (by rw[hdD];exact pastItsLine_dict (BE hcD (by rw[Ai,CD,Fm];lia))) ?_)
  exact AD (q h' _ ((hs2.2 _ nx).trans self') hn2 λb' o' h1 h2=>(hs2.2 _ (As (AR h2))).trans (oth b' o' h1 h2))
 cases oda<;>first|exact new|exact absurd rfl (hnc _)
theorem mC{cd:ClassData}{mA:Str->Option Value}{ns:List Str}{name:Str}{tk:Tok}{v:Value}{b:Bool}{ob:Obj}{dx:Addr}{Q:Fin->Shared->Prop}{E:Value->Shared->Prop}(X:K.In s.heap)(hc:clsIn K C=some cd)(hd:cd.hasDict=true)(hx:s.heap.get? x=some ob)(hcl:ob.cls=.ref C)(hdx:ob.dict=some dx)(hns:s.heap.Ns1 dx mA)(wi:Within mA ns)(hz:ns.length<1000)
  (q:∀h' tk',h'.Ns1 dx (λy=>if y=name then some v else mA y)->(∀b o,b≠dx->s.heap.get? b=some o->h'.get? b=some o)->Q (.done (.ret .none)) { s with heap:=h',toks:=tk' }) :
  wpAny (model prog w) A (storeInOwnDict (.ref x) (.ref C) (.str name tk) name v b) Q E s:=by
 obtain⟨oc,odi,oda,osl⟩:=ob
 dsimp only at hcl hdx
 subst hcl hdx
 have line:ns.length+1<=sizeLine:=by rw[Fm];lia
 refine AA (AD (AA (AA (Gd hx (AA ((looks_clsIn X hc).here ?_))))))
 rw[hd]
 refine AD (a:=some dx) (AA (AD (AA ?_)))
 refine wpAny_nsSet1 hns λh' hn2 hs2=>?_
 obtain⟨oD,esD,epD,hoD,hdD,hcD⟩:=hn2.count (E5 name v wi)
 refine AA (wpAny_lookBehind hoD (by rw[hdD];exact pastItsLine_dict (BE hcD (by rw[Ai];lia))) ?_)
 exact AD (q _ _ hn2 λb' o' h1 h2=>(hs2.2 _ h1).trans h2)
end
def xI(a C:Addr)(d:Option Addr):HO:=.ext λh=>∃ob vs,h.get? a=some ob/\ob.cls=.ref C/\ob.data=.fields vs/\vs.size=6/\vs[1]?=some .none/\ob.dict=d
def xD(d:Addr)(fs:List (Str×V)):HO:=.ext λh=>∃mA,h.Ns1 d mA/\(∀f,IS (fs.lookup f) (mA f))/\Within mA (fs.map (·.1))
theorem Qq{h h':Heap}{d:Addr}{mA:Str->Option Value}(n:h.Ns1 d mA)(k:∀o,h.get? d=some o->h'.get? d=some o):h'.Ns1 d mA:=by
 obtain⟨o,es,ep,e,r⟩:=n
 exact⟨o,es,ep,k _ e,r⟩
section
variable{P:Program}{w:World}{H:Hp}{h:Heap}{a C d:Addr}
theorem OO{od:Option Addr}{ob:Obj}{vs:Array Value}(e:h.get? a=some ob)(c:ob.cls=.ref C)(f:ob.data=.fields vs)(z:vs.size=6)(n:vs[1]?=some .none)(dd:ob.dict=od):HM P w H h a (xI a C od) :=
 ⟨⟨ob,vs,e,c,f,z,n,dd⟩,⟨ob,e⟩,λh1 h2 ⟨ob,vs,e,r⟩ k=>⟨ob,vs,k _ e,r⟩⟩
theorem Sj{fs:List (Str×V)}{mA:Str->Option Value}(n:h.Ns1 d mA)(r:∀f,IS (fs.lookup f) (mA f))(wi:Within mA (fs.map (·.1))):HM P w H h d (xD d fs) :=
 ⟨⟨mA,n,r,wi⟩,let ⟨o,_,_,e,_⟩:=n;⟨o,e⟩,λh1 h2 ⟨mA,n,r⟩ k=>⟨mA,Qq n k,r⟩⟩
end
def Md(K:Frag)(C:Addr):Bool:=(clsIn K C).any λcd=>PU cd.mro&&cd.hasDict
structure KO(K:Frag)(C:Addr):Prop where
 k:JS K C
 st:Md K C=true
 sa:findIn K (.ref C) "__setattr__" = some (some (.builtin "object.__setattr__"))
theorem KO.cls{K:Frag}{C:Addr}(c:KO K C):∃cd,clsIn K C=some cd/\PU cd.mro=true/\cd.hasDict=true:=by
 have z:=c.st
 unfold Md at z
 cases e:clsIn K C with
 |none=>rw[e]at z;cases z
 |some cd =>
  rw[e]at z
  have z:(PU cd.mro&&cd.hasDict)=true:=z
  rw[AM]at z
  exact⟨cd,rfl,z.1,z.2⟩
section
variable{X:Cx}{Fo:List (Addr×Obj)}{σ:St}{H:Hp}{s:Shared}{a C dx:Addr}{f:Str}{y:V}{u:Value}{A:Around}{E:Value->Shared->Prop}{Q:Unit->Shared->Prop}
theorem ZN(I:Inv X Fo σ H s)(e:H a=some (xI a C none))(c:KO X.K C)(n:findIn X.K (.ref C) f=some none)(ry:Gx y u)
  (q:∀(d:Addr)(s':Shared),H d=none->d≠a->Inv X Fo σ (Gi (Gi H d (xD d [(f,y)])) a (xI a C (some d))) s'->Q () s'):wpAny (model X.prog X.w) A (setAttr (.ref a) f u) Q E s:=by
 obtain⟨⟨ob,vs,hx,hc,hdt,z6,h1,hdn⟩,_⟩:=(show HM X.prog X.w H s.heap a (xI a C none) from I.hok a _ e)
 obtain⟨oc,od,oda,osl⟩:=ob
 dsimp only at hc hdt hdn
 subst hc hdt hdn
 obtain⟨cd,hcd,hv,hd⟩:=c.cls
 have J:InstAt s.heap a ⟨.ref C,none,.fields vs,osl⟩ C none:=⟨hx,rfl,rfl,True.intro⟩
 refine set_plain I.kIn J c.sa (Rb (s:={ s with toks:=s.toks+1 }) I.kIn J c.k hcd hv n (dI (s:={ s with toks:=s.toks+1 }) I.kIn hcd hd hx (by intro _ z;cases z) λh' tk' g1 g2 g3=>?_))
 have na:s.heap.objs.size≠a:=CG (AR hx)
 have fr:=I.hok.fresh (AG s.heap.objs.size)
 have b1:(h'.update a λ_=>⟨.ref C,none,.fields vs,osl⟩).get? a=some ⟨.ref C,none,.fields vs,osl⟩:=BF _ g1 rfl
 have b2:∀b,b≠a->(h'.update a λ_=>⟨.ref C,none,.fields vs,osl⟩).get? b=h'.get? b:=λb hb=>Dj _ _ _ _ hb
 have I1:Inv X Fo σ (Gi H s.heap.objs.size (xD s.heap.objs.size [(f,y)])) { s with heap:=h'.update a λ_=>⟨.ref C,none,.fields vs,osl⟩,toks:=tk' }:=by
  refine I.laid (λb o z=>?_) (AG _) (Sj (Qq g2 λo z=>(b2 _ na).trans z) (λg=>?_) (E5 f u PySem.Within.nil))
  ·by_cases hb:b=a
   ·subst hb
    rw[b1,<-z,hx]
   ·rw[b2 b hb]
    exact g3 b o hb z
  ·show IS ([(f,y)].lookup g) (if g=f then some u else none)
   rw[B6]
   by_cases hg:g=f
   ·rw[AH hg,hg]
    simp
    exact ry
   ·rw[AE hg,show(g==f)=false from beq_eq_false_iff_ne.mpr hg]
    exact True.intro
 have I2:=I1.write (x:=a) (e:=a) (o:=xI a C (some s.heap.objs.size)) (h':=h') (t':=tk') (by rw[Ha (Bl na),e];exact True.intro) (.inl rfl) (λb o hb z=>by rw[<-b2 b hb];exact z) ⟨_,g1⟩ (OO g1 rfl rfl z6 h1 rfl)
 exact q _ _ fr na I2
theorem Xj{fs:List (Str×V)}(I:Inv X Fo σ H s)(e:H a=some (xI a C (some dx)))(ed:H dx=some (xD dx fs))(c:KO X.K C)(n:findIn X.K (.ref C) f=some none)(hl:fs.length<900)(ry:Gx y u)
  (q:∀s':Shared,Inv X Fo σ (Gi H dx (xD dx (K9 f y fs))) s'->Q () s'):wpAny (model X.prog X.w) A (setAttr (.ref a) f u) Q E s:=by
 obtain⟨⟨ob,vs,hx,hc,hdt,z6,h1,hdn⟩,_⟩:=(show HM X.prog X.w H s.heap a (xI a C (some dx)) from I.hok a _ e)
 obtain⟨⟨mA,hns,rl,wi⟩,⟨od,hod⟩,_⟩:=(show HM X.prog X.w H s.heap dx (xD dx fs) from I.hok dx _ ed)
 obtain⟨cd,hcd,hv,hd⟩:=c.cls
 have J:InstAt s.heap a ob C (some od):=⟨hx,hc,by unfold notCls;rw[hdt],by rw[hdn];exact hod⟩
 refine set_plain I.kIn J c.sa (Rb (s:={ s with toks:=s.toks+1 }) I.kIn J c.k hcd hv n (mC (s:={ s with toks:=s.toks+1 }) I.kIn hcd hd hx hc hdn hns wi (by rw[AB];lia) λh' tk' g1 g2=>?_))
 refine q _ (I.write (x:=dx) (e:=dx) (t':=tk') (by rw[ed];exact True.intro) (.inl rfl) g2 (let ⟨o,_,_,z,_⟩:=g1;⟨o,z⟩) (Sj g1 (λg=>?_) λg hg=>?_))
 ·show IS ((K9 f y fs).lookup g) (if g=f then some u else mA g)
  rw[pH]
  by_cases z:g=f
  ·rw[AH z,AH z];exact ry
  ·rw[AE z,AE z];exact rl g
 ·by_cases z:g=f
  ·rw[z];exact(bO f y fs).1
  ·refine(bO f y fs).2 g (wi g λz'=>hg ?_)
   show(if g=f then some u else mA g)=none
   rw[AE z];exact z'
def Z9(K:Frag)(ta tv:TE)(f:Str):TS:=λD σ H=>tv σ H λy H1=>ta σ H1 λx H2=>∃a C,x=.ref a/\KO K C/\findIn K (.ref C) f=some none /\
 ((H2 a=some (xI a C none)/\∀d,H2 d=none->d≠a->D.nx σ (Gi (Gi H2 d (xD d [(f,y)])) a (xI a C (some d)))) ∨
  (∃d fs,H2 a=some (xI a C (some d))/\H2 d=some (xD d fs)/\fs.length<900/\D.nx σ (Gi H2 d (xD d (K9 f y fs)))))
theorem Tq{o value:Expr}{ta tv:TE}{pos pos':Pos}(ha:PE X o ta)(hv:PE X value tv)(hs:swapsWith value (some (.Attribute o f pos')) pos.line X.env=pure false):PS X (.Assign [.Attribute o f pos'] value pos) (Z9 X.K ta tv f):=by
 intro Fo s σ H D I h
 refine plainObj_wpAny_Assign_Attribute (HY (hv Fo s σ H _ I h) λu s1 ⟨y,H1,I1,ry,q⟩=>HY (ha Fo s1 σ H1 _ I1 q) λov s2 ⟨x,H2,I2,rx,a,C,ex,c,n,q2⟩=>?_) hs
 subst ex
 obtain rfl:ov=Value.ref a:=rx
 rcases q2 with⟨e,q2⟩|⟨d,fs,e,ed,l,q2⟩
 ·exact ZN I2 e c n ry λd s3 h1 h2 I3=>⟨σ,_,I3,q2 d h1 h2⟩
 ·exact Xj I2 e ed c n l ry λs3 I3=>⟨σ,_,I3,q2⟩
end
theorem cM{K:Frag}{h:Heap}{N:Addr}{mN:Str->Option Value}{n:Str}{v:Value}(X:K.In h)(G:h.Ns N mN)(e:nsIn K N n=some (some v)):mN n=some v:=by
 obtain⟨o,es,ep,ho,hd,_,hf⟩:=G
 unfold nsIn at e
 split at e
 ·rename_i q
  rw[X _ _ q]at ho
  cases ho
  cases hd
  split at e
  ·rename_i he
   cases e
   rw[<-hf]
   unfold nsFind findBy
   rw[<-Array.find?_toList,he]
   rfl
  ·split at e<;>cases e
 ·cases e
def MU(K:Frag)(C fI:Addr):Bool:=match K.lookup C with
 |some ⟨.type "type",_,.cls cd,sl⟩=>cd.mro.head?==some (.ref C)&&tailIn K [.type "ValueError",.type "Exception",.type "BaseException",.type "object"] cd.mro.tail&&nsOkIn K cd.ns&&nsIn K cd.ns "__init__" == some (some (.ref fI))&&!cd.hasDel&&(sl.toList.length==6&&sl.toList[4]?==some (some (.builtin "ValueError.__new__")))
 |_=>false
abbrev OL:List Value:=[.type "ValueError",.type "Exception",.type "BaseException",.type "object"]
theorem VO{K:Frag}{h:Heap}{C fI:Addr}(X:K.In h)(q:MU K C fI=true) :
  ∃bm N nm qn bs hdct sn sub ab col dd k0 k1 k2 k3 k5 mN,h.get? C=some (excClassObj nm qn C N bs bm hdct sn sub ab col dd k0 k1 k2 k3 k5 "ValueError.__new__")/\h.Ns N mN/\mN "__init__" = some (.ref fI)/\OwnTail h OL bm:=by
 unfold MU at q
 split at q
 ·rename_i dd cd sl ho
  simp only[AM,E9,E3]at q
  obtain⟨⟨⟨⟨⟨hm,ht⟩,hok⟩,hni⟩,hdel⟩,hl,h4⟩:=q
  obtain⟨nm,bs,mro,ns,qn,hd,sn,sub,ab,col,del⟩:=cd
  dsimp only at hm ht hok hni hdel
  subst hdel
  obtain⟨bm,rfl⟩:∃bm,mro=.ref C::bm:=by
   cases mro with
   |nil=>cases hm
   |cons v r=>cases hm;exact⟨r,rfl⟩
  obtain⟨l⟩:=sl
  obtain⟨k0,k1,k2,k3,k4,k5,rfl⟩:∃k0 k1 k2 k3 k4 k5,l=[k0,k1,k2,k3,k4,k5]:=by
   match l,hl with
   |[k0,k1,k2,k3,k4,k5],_=>exact⟨_,_,_,_,_,_,rfl⟩
  have h4:k4=some (.builtin "ValueError.__new__"):=by simpa using h4
  subst h4
  exact⟨bm,ns,nm,qn,bs,hd,sn,sub,ab,col,dd,k0,k1,k2,k3,k5,_,X _ _ ho,.of_isNs (isNs_of_in X hok),cM X (.of_isNs (isNs_of_in X hok)) hni,tail_of_in X ht⟩
 ·cases q
section
variable{X:Cx}{Fo:List (Addr×Obj)}{σ:St}{H:Hp}{s:Shared}{a C dx:Addr}{u:Value}{A:Around}{E:Value->Shared->Prop}{Q:Value->Shared->Prop}
theorem WQ{od:Option Addr}{fI:Addr}(I:Inv X Fo σ H s)(e:H a=some (xI a C od))(hv:MU X.K C fI=true)
  (q:∀s':Shared,Inv X Fo σ H s'->Q .none s'):wpAny (model X.prog X.w) A (call (.builtin "ValueError.__init__") [.ref a,u]) Q E s:=by
 have F:=Bp
 obtain⟨⟨ob,vs,hx,hc,hdt,z6,h1,hdn⟩,_⟩:=(show HM X.prog X.w H s.heap a (xI a C od) from I.hok a _ e)
 obtain⟨bm,N,nm,qn,bs,hdct,sn,sub,ab,col,dd,k0,k1,k2,k3,k5,mN,hC,hN,hni,T⟩:=VO I.kIn hv
 refine E6 (DB F.init.plain F.initEntry ?_)
 have chk:∀{B:Around}{E':Value->Shared->Prop}{R:Unit->Shared->Prop},R () s->wpAny (model X.prog X.w) B (checkBuiltinCall "ValueError.__init__" ⟨[.ref a,u],[]⟩) R E' s:=by
  intro B E' R r
  obtain⟨hh,g,d,t,os⟩:=s
  exact wpAny_check_init_subT F T hC hx hc r
 refine chk ?_
 have hx1:=AC { cls:=.type "tuple",data:=.seq #[u] } hx
 have l0:0<vs.size:=by lia
 show wpAny _ _ (newTuple [u]>>=λt=>BaseException.bexcPut (.ref a) 0 t>>=λ_=>ret .none) _ _ _
 refine AA (Ga ?_)
 refine AA ?_
 unfold BaseException.bexcPut
 refine AA (BI hx1 hdt (x:=vs[0]) (AF l0) ?_)
 refine AA (Cr hx1 hdt l0 ?_)
 have go:∀{B:Around}{F':Value->Shared->Prop}{R:Unit->Shared->Prop}{s':Shared},R () s'->wpAny (model X.prog X.w) B (match vs[0]with|.ref _=>letGo [vs[0]] []|_=>pure ()) R F' s':=by
  intro B F' R s' r
  cases vs[0]<;>first|exact AD r|exact CT r
 have dd:=CY hdt (·.setIfInBounds 0 (Value.ref s.heap.objs.size))
 have sx:=BF (Obj.mapFields (·.setIfInBounds 0 (Value.ref s.heap.objs.size))) hx1 (C4 dd)
 refine go (AD (q _ ?_))
 have W:=I.write (x:=a) (e:=a) (o:=xI a C od) (h':=(s.heap.push { cls:=.type "tuple",data:=.seq #[u] }).update a (Obj.mapFields (·.setIfInBounds 0 (Value.ref s.heap.objs.size)))) (t':=s.toks) (by rw[e];exact True.intro) (.inl rfl) (λb o hb z=>(Dj _ _ _ _ hb).trans (AC _ z)) ⟨_,sx⟩ (OO sx ((D6 _ _).trans hc) dd (by rw[DD];exact z6) (by rw[DJ (by decide)];exact h1) (by rw[<-hdn];obtain⟨_,_,_,_⟩:=ob;cases hdt;rfl))
 have eq:Gi H a (xI a C od)=H:=by
  funext b
  unfold Gi
  split
  ·rename_i z
   rw[z,e]
  ·rfl
 rw[eq]at W
 exact W
end
section
variable{X:Cx}
structure NV(K:Frag)(C0:Addr):Prop where
 sp:specialIn K (.ref C0) "__getattribute__" = some (some (.builtin "type.__getattribute__"))
 rd:readsIn K C0 (.type "type")=true
 fd:findCls K (.ref C0) (.type "type") "__init__" = some (.val (.builtin "ValueError.__init__"))
def sV(K:Frag)(ta:TA):TE:=λσ H Q=>ta σ H λvs H1=>∃a C od fI v2,vs=[.ref a,v2]/\H1 a=some (xI a C od)/\MU K C fI=true/\Q .non H1
theorem fW{x:Str}{C0:Addr}{np apos pos:Pos}{e1 e2:Expr}{ta:TA}{pl:Sem Bool}(hg:Gl X x)(hm:X.mg x=some (.ref C0))(b:NV X.K C0)(ha:PA X [e1,e2] ta)(hdb:(x==("__debug__" : Str))=false:=by decide)
  (he:starEach [e1,e2] X.env=(false,eval e1 X.env)::starEach [e2] X.env:=by rfl) (hpl:(backTo pos (starEach [e1,e2] X.env)).any (·.1)=false:=by rfl)
  (ht:eval (.Call (.Attribute (.Name x np) "__init__" apos) [e1,e2] [] pos) X.env=(do
   let ov <-eval (.Name x np) X.env
   standAt apos.atName
   let (f,first) <-holding [ov] (getMethod ov "__init__" pl)
   callWith pos f first (backTo pos (starEach [e1,e2] X.env)) (backToKw pos (keywordEach [] X.env))):=by rfl) :
  PE X (.Call (.Attribute (.Name x np) "__init__" apos) [e1,e2] [] pos) (sV X.K ta):=by
 intro Fo s σ H Q I h
 refine W.methodCall_KW (pl:=pl) (NA I hg hm ?_ hdb) ht
 refine method_cls I.kIn b.sp (cls_value I.kIn b.rd b.fd (by decide) ?_)
 have I1:=I.tok (s.toks+1)
 show wpAny _ _ (callWith pos (.builtin "ValueError.__init__") [] (backTo pos (starEach [e1,e2] X.env)) []) _ _ _
 refine Cs hpl ?_
 have h0:=ha pos Fo _ σ H _ I1 h
 rw[he]at h0 ⊢
 refine DY (BL h0 (λus s2 ⟨vs,H1,I2,r,q⟩=>?_) λ_ _ y=>y)
 obtain⟨a,C,od,fI,v2,rfl,ea,j,q⟩:=q
 obtain⟨u1,u2,rfl,r1,r2⟩:=K0 r
 obtain rfl:u1=Value.ref a:=r1
 exact WQ I2 ea j λs3 I3=>⟨.non,H1,I3,rfl,q⟩
end
abbrev Mb(C:Addr)(h:Heap)(us:List Value):Heap:=(h.push { cls:=.type "tuple",data:=.seq us.toArray }).push { cls:=.ref C,data:=.fields #[.ref h.objs.size,.none,.none,.none,.bool false,.none] }
theorem RP{C:Addr}{h:Heap}{us:List Value}(b:Addr)(o:Obj)(e:h.get? b=some o):(Mb C h us).get? b=some o:=AC _ (AC _ e)
theorem To{C:Addr}{h:Heap}{us:List Value}:(Mb C h us).get? (h.objs.size+1)=some { cls:=.ref C,data:=.fields #[.ref h.objs.size,.none,.none,.none,.bool false,.none] }:=by heap_get
section
variable{X:Cx}{Fo:List (Addr×Obj)}{σ:St}{H:Hp}{s:Shared}{C fI:Addr}
theorem fB{us:List Value}(I:Inv X Fo σ H s):Inv X Fo σ (Gi H (s.heap.objs.size+1) (xI (s.heap.objs.size+1) C none)) { s with heap:=Mb C s.heap us } :=
 I.laid (t':=s.toks) RP (D9 _) (OO To rfl rfl rfl rfl rfl)
theorem dY{us:List Value}{A:Around}{E:Value->Shared->Prop}{Q:Fin->Shared->Prop}(K1:X.K.In s.heap)(j:MU X.K C fI=true)(fn:isFn X.K (.ref fI)=true)(hl:us.length<=sizeLine)
  (q:wpAny (model X.prog X.w) A (call (.ref fI) (.ref (s.heap.objs.size+1)::us)) (λr s'=>r=.none/\Q (.done (.ret (.ref (s.heap.objs.size+1)))) s') E { s with heap:=Mb C s.heap us }) :
  wpAny (model X.prog X.w) A (Builtin.«type.__call__» ⟨.ref C::us,[]⟩) Q E s:=by
 have F:=Bp
 obtain⟨bm,N,nm,qn,bs,hdct,sn,sub,ab,col,dd,k0,k1,k2,k3,k5,mN,hC,hN,hi,T⟩:=VO K1 j
 have K2:X.K.In (Mb C s.heap us):=λa o e=>RP _ _ (K1 a o e)
 have hC1:=RP (C:=C) (us:=us) _ _ hC
 have hN1:(Mb C s.heap us).Ns N mN:=hN.keeps RP
 have T1:=T.keeps (h':=Mb C s.heap us) RP
 have hcC:(Value.ref C::bm).contains (.ref C)=true:=by simp
 obtain⟨h,g,d,t,os⟩:=s
 repeat (first|with_reducible refine CM hC ?_|with_reducible refine wpAny_madeBy_exc hC ?_|wp_step)
 refine codeAny_call_builtin_code (Ep _ F.quiet) (wpAny_check_new_subT F T hC ?_)
 refine codeAny_exc_new_subT F T hC ?_ hl
 show wpAny _ _ _ _ _ _
 have hget:(Mb C h us).get? (h.objs.size+1)=some _:=To
 unfold isInstance
 repeat (first|with_reducible refine CM hget ?_|(with_reducible refine wpAny_isSubtype_exc hC1 ?_;rw[hcC])|wp_step)
 show wpAny _ _ (typeLookup (.ref C) _) _ _ _
 refine wpAny_typeLookup_tail hC1 hN1 T1 F.mroIs F.init.lookup ?_
 rw[hi]
 refine By (AA ((bind_fn K2 _ (beq_iff_eq.mp fn)).here ?_))
 refine AA (BL q (λr s' hr=>?_) λ_ _ x=>x)
 obtain⟨rfl,hQ⟩:=hr
 wp_walk
 exact hQ
theorem cR{us:List Value}{A:Around}{E:Value->Shared->Prop}{Q:Value->Shared->Prop}(K1:X.K.In s.heap)(j:MU X.K C fI=true)(fn:isFn X.K (.ref fI)=true)(hl:us.length<=sizeLine)
  (q:wpAny (model X.prog X.w) (A.under (.builtin "type.__call__" ⟨.ref C::us,[]⟩)) (call (.ref fI) (.ref (s.heap.objs.size+1)::us)) (λr s'=>r=.none/\Q (.ref (s.heap.objs.size+1)) s') E { s with heap:=Mb C s.heap us }) :
  wpAny (model X.prog X.w) A (call (.ref C) us) Q E s:=by
 obtain⟨bm,N,nm,qn,bs,hdct,sn,sub,ab,col,dd,k0,k1,k2,k3,k5,mN,hC,hN,hi,T⟩:=VO K1 j
 have f1:=tc_lookup
 have f2:=tc_bind (.ref C)
 have hT:s.TypeIs (.ref C) "type" := ⟨_,hC,rfl⟩
 obtain⟨h,g,d,t,os⟩:=s
 refine E6 (codeAny_of_tree ?_)
 show wpAny _ _ (callAny (.ref C) _) _ _ _
 repeat (any_goals (first|assumption|with_reducible refine CM hC ?_|wp_step))
 refine⟨rfl,?_⟩
 exact codeAny_call_builtin_at (Ep _ (by decide +kernel)) entry_typeCall (wpAny_check_type_call_sub hC (dY (s:=⟨h,g,d,t,os⟩) K1 j fn hl q))
variable{CX:Jl}{k:Nat}{fd:FuncData}{ps:List Str}{sp:Sp}{dvs:List V}{ds:List Value}{E:XK}{Q:VK}{us:List Value}{vs:List V}
end
end L2.Ev
namespace L2.Ev
open PySem PySem.Spec PyProof.Rows
open PySem.W PySem.Calls
section
variable{M:Model}{A:Around}{E:Value->Shared->Prop}{s:Shared}{env:Env}
variable{nm q:Str}{C N:Addr}{bs bm:List Value}{hdct:Bool}{sn:List Str}{sub:List Value}{ab:Bool}{col:Option Bool}{dd:Option Addr}{k0 k1 k2 k3 k5:Option Value}{newId:String}
theorem Yl{x:Sem Value}{Q:Flow->Shared->Prop}(hbase:bm.contains (.type "BaseException")=true)(hh:A.handled=none)
  (h:wpAny M A x (λv s1=>∃e ob vs,v=.ref e/\s1.heap.get? C=some (excClassObj nm q C N bs bm hdct sn sub ab col dd k0 k1 k2 k3 k5 newId)/\s1.heap.get? e=some ob/\ob.cls=.ref C/\ob.data=.fields vs/\vs[1]?=some .none/\E (.ref e) s1) E s) :
  wpAny M A (raiseStmt env (some x) none) Q E s:=by
 have hcB:(Value.ref C::bm).contains (.type "BaseException")=true:=by rw[List.contains_cons,hbase,Bool.or_true]
 unfold raiseStmt
 refine AA (BL h (λv s1 h1=>?_) λ_ _ x=>x)
 obtain⟨e,ob,vs,rfl,hC,he,hc,hd,h1,hE⟩:=h1
 obtain⟨oc,od,oda,osl⟩:=ob
 dsimp only at hc hd
 subst hc hd
 obtain⟨hp,g,d,tk,os⟩:=s1
 repeat (first|with_reducible refine BI he rfl h1 ?_|with_reducible refine CM he ?_|with_reducible refine CM hC ?_|(with_reducible refine wpAny_isSubtype_exc hC ?_;rw[hcB])|wp_step)
 exact wpAny_raiseNew_none hh hE
end
def ND(x:Addr)(H:Hp):Hp:=λb=>if b=x then none else H b
theorem Ls{x b:Addr}{H:Hp}(h:b≠x):ND x H b=H b:=AE h
theorem QH{x:Addr}{H:Hp}:ND x H x=none:=AH rfl
section
variable{P:Program}{w:World}{K:W.Frag}{mg:Str->Option Value}{base:Heap}{N:List Str}{qual:Str}{scope:Scope}{f:Addr}{HQ:Value}{A:Around}{outer:List Env}{s0:Shared}{H0:Hp}{E:XK}
def qN(X:Cx)(E:XK):Prop:=∀(Fo:List (Addr×Obj))(σ:St)(H:Hp)(s:Shared)(e C:Addr)(od:Option Addr),Inv X Fo σ H s->X.s₀.heap.objs.size<=e->H e=some (xI e C od)->E (.ref C) od (ND e H)->X.xe (.ref e) s
theorem sT:qN (Il (IB P w) P w K mg base N qual scope f HQ A outer s0 H0 E) E:=by
 intro Fo σ H s e C od I hsz He hE
 generalize hX:Il (IB P w) P w K mg base N qual scope f HQ A outer s0 H0 E=X at I hsz
 obtain⟨⟨ob,vs,hx,hc,hdt,z6,h1,hdn⟩,_⟩:=(show HM X.prog X.w H s.heap e (xI e C od) from I.hok e _ He)
 have notf:∀b,b∈IQ X.stack->b≠e:=λb hb z=>by have:=I.stkFree b hb;rw[z,He]at this;cases this
 have trk:∀b u,H b=some u->b≠e->∀o,s.heap.get? b=some o->(hideAll s.heap (e::IQ X.stack)).get? b=some o:=λb u hb ne o q =>
  Fs _ q λz=>by
   rcases AO.mp z with z|z
   ·exact ne z
   ·rw[I.stkFree b z]at hb;cases hb
 have st0:(hideAll s.heap (e::IQ X.stack)).StaysIn s.heap:=λb o q=>of_hideAll _ q
 have fr:∀b o,s.heap.get? b=some o->b∈IQ X.stack->∀vs,o.data≠.fields vs:=λb o e hb=>by
  obtain⟨_,o',e',d⟩:=I.stack.mem hb
  rw[e]at e';cases e'
  exact d
 have ne_own:∀c b u,H b=some u->b≠e->(c=b∨H c=some (.own b))->c≠e/\∃u',H c=some u':=λc b u hb ne hc=>by
  rcases hc with z|z
  ·subst z;exact⟨ne,u,hb⟩
  ·refine⟨λq=>?_,_,z⟩
   rw[q,He]at z;cases z
 have go:∀h',(hideAll s.heap (e::IQ X.stack)).StaysIn h'->s.heap.UpToSlots h'->Inv X Fo σ (ND e H) { s with heap:=h' }:=λh' st sm=>by
  refine I.call' (s':={ s with heap:=h' }) (ch:=[e]) rfl ⟨λb o q n hb hn=>?_,λb o q n hb hn=>?_,λb o q n hn=>?_,λb o q hn=>?_,λb xs q=>?_,λb o u q=>?_,λb ps q=>?_⟩ (λb u q=>?_) I.bare λb hb=>?_
  ·exact st _ _ (Fs _ q λz=>by
    rcases AO.mp z with z|z
    ·exact hn (by rw[z];exact .head _)
    ·exact hb z)
  ·exact sm b o q (fr b o q hb)
  ·rw[Ls λz=>hn (by rw[z];exact .head _)];exact n
  ·by_cases hb:b∈IQ X.stack
   ·obtain⟨sl,z⟩:=sm b o q (fr b o q hb)
    exact⟨_,z⟩
   ·exact⟨o,st _ _ (Fs _ q λz=>by
     rcases AO.mp z with z|z
     ·exact hn (by rw[z];exact .head _)
     ·exact hb z)⟩
  ·rw[Ls λz=>by rw[z,He]at q;cases q];exact q
  ·rw[Ls λz=>by rw[z,He]at q;cases q];exact q
  ·exact⟨#[],by rw[Ls λz=>by rw[z,He]at q;cases q];simpa using q⟩
  ·by_cases ne:b=e
   ·rw[ne,QH]at q;cases q
   rw[Ls ne]at q
   refine(I.hok b u q).stay (λc v hc z=>?_) (λc z=>?_) λc xs z=>?_
   ·obtain⟨n1,u',n2⟩:=ne_own c b u q ne hc
    exact st _ _ (trk c u' n2 n1 v z)
   ·rw[Ls (ne_own c b u q ne (.inr z)).1];exact z
   ·rw[Ls λy=>by rw[y,He]at z;cases z];exact z
  ·obtain rfl:b=e:=by simpa using hb
   refine⟨.inr hsz,λz=>?_,λx c q z=>?_,λp hp z=>?_⟩
   ·have:=I.free;rw[<-z,He]at this;cases this
   ·have:=I.freeC x c q;rw[z,He]at this;cases this
   ·have:=(I.pin p hp).2.1;rw[z,He]at this;cases this
 have hin:∀env∈X.stack,∀b,env.frame=some b->b∈e::IQ X.stack:=λenv he b hb=>.tail _ (Dp.mpr ⟨env,he,hb⟩)
 have ff:=funFrames_hide I.stack hin
 have hen:(hideAll s.heap (e::IQ X.stack)).get? e=none:=hideAll_none _ (.head _)
 subst hX
 show wpAny _ _ (leaving _ (.ref e)) _ _ _
 refine Ud (outer:=outer) (a0:=vs[0]'(by lia)) I.ok.frames ff rfl hx st0 hen hdt h1 (AF (by lia)) λh' fl sm=>?_
 have I':=go h' fl.1.1 sm
 rw[hc,hdn]at fl
 refine⟨e,.ref C,_,od,ND e H,rfl,⟨I'.os,I'.bare,I'.base,I'.hok,_,⟨λb o q hb=>?_,λb u q=>?_⟩,fl⟩,hE⟩
 ·obtain⟨o1,e1⟩:=I.base.there b o q (by show b∉([]:List Addr);simp)
  have lt:=AR q
  have hL:b∉e::IQ (Il (IB P w) P w K mg base N qual scope f HQ A outer s0 H0 E).stack:=λz=>by
   rcases AO.mp z with z|z
   ·exact absurd (Ao lt hsz) (by rw[z];exact B7 _)
   ·rcases AO.mp (I.stkSub b z) with z|z
    ·rw[z]at lt
     exact absurd (Ao lt I.ok.above) (B7 _)
    ·exact hb z
  refine⟨o1,Fs _ e1 hL,λn=>?_⟩
  have k:=I.base.keep b o q n hb (by show b∉([]:List Addr);simp)
  rw[e1]at k
  cases k
  rfl
 ·by_cases ne:b=e
  ·rw[ne,QH]at q;cases q
  rw[Ls ne]at q
  obtain⟨o,z⟩:=HM.got (I.hok b u q)
  exact⟨o,trk b u q ne o z⟩
end
structure X9(K:Frag)(C fI:Addr):Prop where
 j:MU K C fI=true
 fn:isFn K (.ref fI)=true
 kp:keepIn K (.ref C)=true
section
variable{X:Cx}{Fo:List (Addr×Obj)}{σ:St}{H:Hp}{s:Shared}{C fI:Addr}
variable{CX:Jl}{k:Nat}{fd:FuncData}{ps:List Str}{sp:Sp}{dvs:List V}{ds:List Value}{E Ei:XK}{Q:Addr->Hp->Prop}{us:List Value}{vs:List V}
theorem Zn(M:X9 X.K C fI)(F:Gw X.prog X.w X.K X.mg X.base CX k fI fd ps sp)(hr:Hf (k+1) X.A)(hb:Ho X.K fd ps ds)(hd:Gy dvs ds)(hx:Od CX X Ei)(I:Inv X Fo σ H s)(r:Gy vs us)(hl:us.length<=sizeLine)
  (h:∀x,H x=none->sp (.ref x::(vs++dvs)) (Gi H x (xI x C none)) (λv H2=>v=.non/\Q x H2) Ei) :
  wpAny (model X.prog X.w) X.A (call (.ref C) us) (λu s'=>∃x H',u=.ref x/\X.s₀.heap.objs.size<=x/\Inv X Fo σ H' s'/\Q x H') X.xe s:=by
 have hq:=h (s.heap.objs.size+1) (I.hok.fresh (D9 _))
 have I2:=fB (C:=C) (us:=us) I
 have r2:Gy (V.ref (s.heap.objs.size+1)::(vs++dvs)) (Value.ref (s.heap.objs.size+1)::(us++ds)):=.cons rfl (r.append hd)
 have hl2:(Value.ref (s.heap.objs.size+1)::us++ds).length=ps.length:=by
  have e:=r2.length
  rw[F.len _ _ _ _ hq]at e
  exact e.symm
 refine cR I.kIn M.j M.fn hl (E6 (DX (F.run _ X.stack _ _ ⟨Value.ref (s.heap.objs.size+1)::us,[]⟩ (Value.ref (s.heap.objs.size+1)::(us++ds)) _ _ Ei (hr.make C us [])
  (I2.env0.make C us []) (hb _ (Value.ref (s.heap.objs.size+1)::us) I2.kIn hl2) r2 hq) λr s' hq'=>?_))
 cases r with
 |error e=>exact hx Fo σ _ _ e s' I2 hq'
 |ok fl =>
  cases fl with
  |ret u =>
   obtain⟨v,H',I3,rv,ev,q3⟩:=I2.after hq'
   subst ev
   exact⟨rv,_,H',rfl,BE I.sz (D9 _),I3,q3⟩
  |next=>exact False.elim hq'
  |brk=>exact False.elim hq'
  |cont=>exact False.elim hq'
def ZI(C:Addr)(sp:Sp)(dvs:List V)(E Ei:XK)(ta:TA):TS:=λ_ σ H=>ta σ H λvs H1=>vs.length<=sizeLine/\∀x,H1 x=none->sp (.ref x::(vs++dvs)) (Gi H1 x (xI x C none)) (λv H2=>v=.non/\∃od,H2 x=some (xI x C od)/\E (.ref C) od (ND x H2)) Ei
theorem Y8{x:Str}{np cpos pos:Pos}{e:Expr}{es:List Expr}{ta:TA}(hc:X.calm=true)(R:qN X E)(M:X9 X.K C fI)(F:Gw X.prog X.w X.K X.mg X.base CX k fI fd ps sp)(hr:Hf (k+1) X.A)(hb:Ho X.K fd ps ds)(hd:Gy dvs ds)(hx:Od CX X Ei)(hg:Gl X x)(hm:X.mg x=some (.ref C))
  (ha:PA X (e::es) ta) (hdb:(x==("__debug__" : Str))=false:=by decide) (he:starEach (e::es) X.env=(false,eval e X.env)::starEach es X.env:=by rfl) (hpl:(backTo cpos (starEach es X.env)).any (·.1)=false:=by rfl) :
  PS X (.Raise (some (.Call (.Name x np) (e::es) [] cpos)) none pos) (ZI C sp dvs E Ei ta):=by
 intro Fo s σ H D I h
 obtain⟨bm,N,nm,qn,bs,hdct,sn,sub,ab,col,dd,k0,k1,k2,k3,k5,mN,hC,hN,hni,T⟩:=VO I.ok.mod.kin M.j
 rw[arm_exec_Raise]
 refine AA (DM (Yl (C:=C) (nm:=nm) (q:=qn) (N:=N) (bs:=bs) (bm:=bm) (hdct:=hdct) (sn:=sn) (sub:=sub) (ab:=ab) (col:=col) (dd:=dd) (k0:=k0) (k1:=k1) (k2:=k2) (k3:=k3) (k5:=k5) (newId := "ValueError.__new__") (T.hasType Bp.hasBase) (I.ok.hd hc) ?_))
 refine AA (BK (NA I hg hm ?_ hdb))
 refine Ej (h₀:=X.base) I.ok.mod.kin M.kp (HY (ha cpos Fo s σ H _ I h) λus s1 ⟨vs,H1,I1,r,hl,q⟩=>⟨I1.kIn,?_⟩) he hpl
 refine BL (Zn (Q:=λx H2=>∃od,H2 x=some (xI x C od)/\E (.ref C) od (ND x H2)) (us:=us) M F hr hb hd hx I1 r (by rw[<-r.length];exact hl) q) (λu s2 ⟨a,H2,eu,hsz,I2,od,q1,q2⟩=>?_) λ_ _ y=>y
 subst eu
 obtain⟨⟨ob,ws,hx',hcl,hdt,_,h1,_⟩,_⟩:=(show HM X.prog X.w H2 s2.heap a (xI a C od) from I2.hok a _ q1)
 exact AA (DM (AD ⟨a,ob,ws,rfl,I2.bk _ _ hC,hx',hcl,hdt,h1,R Fo σ H2 s2 a C od I2 hsz q1 q2⟩))
end
set_option maxHeartbeats 1000000
end L2.Ev
namespace L2.Ev
open PySem PySem.Spec PyProof.Rows
open PySem.W PySem.Calls Builtin Builtin.ObjectAttr
section
variable{prog:Program}{w:World}{A:Around}{E:Value->Shared->Prop}{K:Frag}{h:Heap}{g:Array GenState}{d:Drawn}{t:Nat}{os:OsState}{a C:Addr}{o:Obj}{od:Option Obj}{name:Str}{v:Value}
theorem ZJ{tk:Tok}{Q:Fin->Shared->Prop}(X:K.In h)(I:InstAt h a o C od)(hf:findObj K C od name=some (.value v))(hq:Q (.done (.ret v)) ⟨h,g,d,t,os⟩) :
  wpAny (model prog w) A (Builtin.«object.__getattribute__» ⟨[.ref a,.str name tk],[]⟩) Q E ⟨h,g,d,t,os⟩:=by
 have L0:=I.type (M:=model prog w)
 have L1:=looks_find (M:=model prog w) X I hf
 refine AA (AD (AA (AD (AA (L0.at (AA (L1.at ?_)))))))
 exact AD hq
theorem bV{tk:Tok}{R:Result->Shared->Prop}(X:K.In h)(I:InstAt h a o C od)(hb:mroIn K C (.type "BaseException")=some true)(hf:findObj K C od name=some (.value v))(hq:R (.ok (.ret v)) ⟨h,g,d,t,os⟩) :
  codeAny (model prog w) A (.call (.builtin "BaseException.__getattribute__") ⟨[.ref a,.str name tk],[]⟩) R ⟨h,g,d,t,os⟩ :=
 DB Db.ga.plain F.entry_bexc_ga (Rl I.type (Fq X hb) (ZJ X I hf hq))
theorem Xs{tk:Tok}{b b2:Bool}{Q:Value->Shared->Prop}(X:K.In h)(I:InstAt h a o C od)(k:JS K C)(hf:findObj K C od name=some (.value v))(hv:handedIn v=true)(hq:Q v ⟨h,g,d,t,os⟩) :
  wpAny (model prog w) A (getAttrBy (.ref a) (.str name tk) b b2) Q E ⟨h,g,d,t,os⟩:=by
 have f3:=Db.ga.bind (.ref a)
 have hx:=I.at_
 have hc:=I.cls
 have hx2:(Value.builtin "BaseException.__getattribute__" == Value.builtin "object.__getattribute__")=false:=by decide +kernel
 have hx1:(onTheHeap (Value.ref C)&&Value.builtin "BaseException.__getattribute__" == Value.builtin "object.__getattribute__")=false:=by rw[hx2];rfl
 have L1:=Dx (M:=model prog w) X k.ga
 have L2:=Dx (M:=model prog w) X k.gt
 have hh:=handedOut_of hv
 cases b<;>cases b2 <;>
 (repeat (any_goals (first|assumption|(with_reducible refine CM hx ?_;rw[hc])|with_reducible refine L1.at ?_|with_reducible refine L2.at ?_|wp_step))
  refine bV X I k.exc hf ?_
  repeat (any_goals (first|assumption|wp_step)))
end
section
variable{X:Cx}{Fo:List (Addr×Obj)}{σ:St}{H:Hp}{s:Shared}{a C dx:Addr}{f:Str}{y:V}{A:Around}{E:Value->Shared->Prop}{Q:Value->Shared->Prop}{fs:List (Str×V)}{b:Bool}
theorem dR(I:Inv X Fo σ H s)(e:H a=some (xE a (.ref C) (some dx)))(ed:H dx=some (xD dx fs))(k:JS X.K C)(hh:hasDictIn X.K C=true)(n:findIn X.K (.ref C) f=some none)(l:fs.lookup f=some y)
  (h:∀u s',Inv X Fo σ H s'->Gx y u->Q u s'):wpAny (model X.prog X.w) A (getAttr (.ref a) f b) Q E s:=by
 obtain⟨⟨ob,vs,hx,hc,hdt,hdn⟩,_⟩:=(show HM X.prog X.w H s.heap a (xE a (.ref C) (some dx)) from I.hok a _ e)
 obtain⟨⟨mA,hns,rl,wi⟩,_⟩:=(show HM X.prog X.w H s.heap dx (xD dx fs) from I.hok dx _ ed)
 obtain⟨od,ho,hl⟩:=Q4 hns
 obtain⟨u,hu,ru⟩:=IS.some_of (v:=y) (o:=mA f) (by rw[<-l];exact rl f)
 have J:InstAt s.heap a ob C (some od):=⟨hx,hc,by unfold notCls;rw[hdt],by rw[hdn];exact ho⟩
 have hf:findObj X.K C (some od) f=some (.value u):=findObj_own hh n rfl (by rw[hl,hu])
 have I1:=I.tok (s.toks+1)
 have K1:=I.kIn
 obtain⟨hp,g,d,t,os⟩:=s
 unfold getAttr
 exact AA (wpAny_mkText (Xs K1 J k hf (fZ ru) (h u _ I1 ru)))
def Oo(K:Frag)(ta:TE)(f:Str):TE:=λσ H Q=>ta σ H λx H1=>∃a C d fs v,x=.ref a/\H1 a=some (xE a (.ref C) (some d))/\H1 d=some (xD d fs)/\JS K C/\hasDictIn K C=true/\findIn K (.ref C) f=some none/\fs.lookup f=some v/\Q v H1
theorem S1{e:Expr}{ta:TE}{pos:Pos}(he:PE X e ta)(hb:attributeBase e f X.env (eval e X.env)=eval e X.env):PE X (.Attribute e f pos) (Oo X.K ta f):=by
 intro Fo s σ H Q I h
 refine mO hb (HY (he Fo s σ H _ I h) λu s1 ⟨x,H1,I1,rx,a,C,d,fs,v,ex,ea,ed,k,hh,n,l,q⟩=>?_)
 subst ex
 obtain rfl:u=Value.ref a:=rx
 exact dR I1 ea ed k hh n l λu' s2 I2 ru=>⟨v,H1,I2,ru,q⟩
end
set_option maxHeartbeats 4000000
end L2.Ev
namespace L2.Ev
open PySem PySem.Spec PyProof.Rows
open L2.Pl
def ZE(K:W.Frag)(C0:Addr)(i:Nat)(th:TS)(D:Iq)(σ:St):XK:=λcls od H'=>∃C:Addr,cls=.ref C/\W.kitCls K (.ref C) (.ref C0)=some true /\
 ∀a,H' a=none->th { nx:=λσ8 H8=>D.nx (σ8.set i none) H8,rt:=λ_ _=>False } (σ.set i (some (.ref a))) (Gi H' a (xE a cls od))
theorem gF{X:Cx}{x n:Str}{C0:Addr}{body HU:List Stmt}{st:Stmt}{np hp pos:Pos}{i:Nat}{th:TS}{tb:St->XK->TS}(hst:X.stack=X.env::X.outer)(hfr:X.env.frame=some X.env.locals)
  (hN:X.N.Nodup) (hi:X.N[i]?=some n) (li:X.env.scope.names.lookup n=some .local) (hg:Gl X x) (hm:X.mg x=some (.ref C0)) (kC:W.kitCls X.K (.ref C0) (.type "BaseException")=some true)
  (hh:∀e:Value,Ii (Cx.mk1 X e) (st::HU) th) (hb:∀(pn':List (Addr×Obj))(T:Value->Shared->Prop)(σ0:St)(E:XK),Pc (Cx.pin1 X pn' T) σ0 E->Ii (Cx.pin1 X pn' T) body (tb σ0 E)) (hd3:(x==("__debug__" : Str))=false:=by decide) :
  PS X (.Try body [.ExceptHandler (some (.Name x np)) (some n) (st::HU) hp] [] [] pos) (λD σ H=>tb σ (ZE X.K C0 i th D σ) D σ H):=by
 intro Fo s σ H D I h
 rw[arm_exec_Try]
 refine AA (DM (wpAny_tryStmt_except ?_))
 have hP:Pc (Cx.pin1 X (X.pn++Fo) λe s₁=>wpAny (model X.prog X.w) X.A (noteFrame e X.env) (λ_ s₂=>wpAny (model X.prog X.w) X.A (setFlight e none) (λ_ s₃ =>
   wpAny (model X.prog X.w) X.A (handleBy e X.env [.ExceptHandler (some (.Name x np)) (some n) (st::HU) hp]) (SP X Fo D) X.xe s₃) X.xe s₂) X.xe s₁) σ (ZE X.K C0 i th D σ):=by
  rintro pins' H1 s1 e s' J ⟨a,cls,a0,od,H',rfl,F,C,rfl,kC',hE⟩
  have I1:Inv X Fo σ H1 s1:=Lz I.ok J
  obtain⟨os,bare,un,hok,B,bs,fl⟩:=F
  have bs:Bs X.stack H1 s1.heap H' B:=bs
  have fl:Ln B X.stack a (.ref C) a0 od s'.heap:=fl
  have fl':=fl
  rw[hst]at fl'
  show wpAny _ X.A (noteFrame (.ref a) X.env) _ _ s'
  refine Nh (outer:=X.outer) (by rw[I1.ok.frames,hst]) hfr fl' λh4 ⟨m1,m2,m3,m4⟩ md sm4=>?_
  refine PV (s:={ s' with heap:=h4 }) m1 m2 m3 m4 md λh5 fly5 sm5=>?_
  have sm45:=sm4.trans sm5
  have I5:=O1 I1 os bare un hok bs fl.1.1 fly5.1.1 sm45
  obtain⟨ob,hob,hobc⟩:=fly5.1.there
  refine wpAny_handleBy_cons (Gc (NA (X:=Cx.mk1 X (.ref a)) (Vj I5 (.ref a)) hg hm (oU I5.kIn hob hobc kC' kC ?_) hd3)) (by intro q;cases q)
  refine FA ?_
  obtain⟨⟨n1,n2,n3,n4⟩,nd⟩:=fly5
  refine PV (s:={ s' with heap:=h5 }) n1 n2 n3 n4.at nd λh6 fly6 sm6=>?_
  have I6:=O1 I1 os bare un hok bs fl.1.1 fly6.1.1 (sm45.trans sm6)
  obtain⟨I6',hn⟩:=Tj I1 I6 bs (by rw[hst];exact fly6)
  refine Vt (X:=X) I6' hN hi (Or.inl li) (v:=.ref a) rfl (λs7 I7=>?_) (.inr li)
  refine BL (hh (.ref a) Fo s7 (σ.set i (some (.ref a))) (Gi H' a (xE a (.ref C) od)) { nx:=λσ8 H8=>D.nx (σ8.set i none) H8,rt:=λ_ _=>False } (Vj I7 (.ref a)) (hE a hn)) (λfw s8 q=>?_) (λ_ _ z=>False.elim z)
  cases fw with
  |next =>
   obtain⟨σ8,H8,J8,q8⟩:=q
   exact Ub (SB I.ok J8) hN hi li λs9 I9=>⟨_,_,I9,q8⟩
  |brk=>obtain⟨_,_,_,z⟩:=q;exact z.elim
  |cont=>obtain⟨_,_,_,z⟩:=q;exact z.elim
  |ret u=>obtain⟨_,_,_,_,_,z⟩:=q;exact z.elim
 refine BL (hb _ _ σ _ hP [] s σ H D (QU I _) h) (λfw s₁ q=>?_) λe s₁ q=>q
 cases fw with
 |next=>obtain⟨σ',H',J,q⟩:=q;exact DN ⟨σ',H',Lz I.ok J,q⟩
 |brk=>obtain⟨σ',H',J,q⟩:=q;exact⟨σ',H',Lz I.ok J,q⟩
 |cont=>obtain⟨σ',H',J,q⟩:=q;exact⟨σ',H',Lz I.ok J,q⟩
 |ret u=>obtain⟨v,σ',H',J,r,q⟩:=q;exact⟨v,σ',H',Lz I.ok J,r,q⟩
theorem WF{X:Cx}{x n y f1 f2:Str}{C0:Addr}{body:List Stmt}{np hp pos py ap p1 p2 p3 p4 tp:Pos}{kt i j:Nat}{tb:St->XK->TS}(hst:X.stack=X.env::X.outer)(hfr:X.env.frame=some X.env.locals)
  (hN:X.N.Nodup) (hi:X.N[i]?=some n) (li:X.env.scope.names.lookup n=some .local) (hj:X.N[j]?=some y) (lj:X.env.scope.names.lookup y=some .local) (hg:Gl X x) (hm:X.mg x=some (.ref C0)) (kC:W.kitCls X.K (.ref C0) (.type "BaseException")=some true)
  (hb:∀(pn':List (Addr×Obj))(T:Value->Shared->Prop)(σ0:St)(E:XK),Pc (Cx.pin1 X pn' T) σ0 E->Ii (Cx.pin1 X pn' T) body (tb σ0 E)) (hd1:(n==("__debug__" : Str))=false:=by decide) (hd2:(n==("__classdict__" : Str))=false:=by decide) (hd3:(x==("__debug__" : Str))=false:=by decide) :
  PS X (.Try body [.ExceptHandler (some (.Name x np)) (some n) [.Assign [.Name y py] (.Tuple [.Attribute (.Name n p1) f1 p2,.Attribute (.Name n p3) f2 p4] kt tp) ap] hp] [] [] pos) (λD σ H=>tb σ (ZE X.K C0 i (O7 (Ro (MW (Oo X.K (MF i) f1) (MW (Oo X.K (MF i) f2) RM))) (JA j)) D σ) D σ H) :=
 gF hst hfr hN hi li hg hm kC (λe=>HN (Hi (X:=Cx.mk1 X e) (pos:=ap) (pos':=py) hN hj (Or.inl lj) (Hz (Ge (S1 (Vm (pos:=p1) hi (Or.inl li) hd1 hd2) rfl) (Ge (S1 (Vm (pos:=p3) hi (Or.inl li) hd1 hd2) rfl) Gq))) rfl (.inr lj))) hb hd3
end L2.Ev
namespace L2.Ev
open PySem PySem.Spec PyProof.Rows
open L2.Pl
theorem Hx{N P:List Str}{sc:Scope}(a:sc.kind=.function:=by rfl)(b:sc.isCoroutine=false:=by rfl)(c:sc.isGenerator=false:=by rfl)(d:N.Nodup:=by decide +kernel)(e:N.take P.length=P:=by rfl)(f:∀x∈P,sc.names.lookup x=some .local∨sc.names.lookup x=some .cell:=by decide +kernel)(g:∀y∈sc.names,y.2≠.free:=by decide +kernel):Gj N P sc:=⟨a,b,c,d,e,f,g⟩
theorem Ik:0<=sizeLine:=by decide
theorem IH:1<=sizeLine:=by decide
theorem IV:2<=sizeLine:=by decide
theorem V2:3<=sizeLine:=by decide
theorem qY:4<=sizeLine:=by decide
theorem sW:5<=sizeLine:=by decide
theorem Z6:11<=sizeLine:=by decide
section
variable{P:Program}{w:World}{K:W.Frag}{mg:Str->Option Value}{base:Heap}{x qual:Str}{st:Stmt}{f:Addr}{fd:FuncData}{N ps:List Str}{k:Nat}{sp:Sp}
theorem IJ(F:Hg K x qual st f fd)(S:Gj N ps (HW st))
  (Ie:∀(HQ:Value)(A:Around)(outer:List Env)(s:Shared)(H:Hp)(vs:List V)(Q:VK)(E:XK),Hf k (A.deeper (envOfC qual (HW st) s.heap.objs.size f HQ))->sp vs H Q E ->
   ∃t,Ii (Il Hk P w K mg base N qual (HW st) f HQ A outer s H E).nox (Kz st) t/\t { nx:=λ_ H'=>Q .non H',rt:=Q } (start N vs) H)
  (len:∀vs H Q E,sp vs H Q E->vs.length=ps.length:=by intro vs H Q E h;first|(obtain⟨rfl,_⟩:=h;rfl)|(obtain⟨_,rfl,_⟩:=h;rfl)|(obtain⟨_,_,rfl,_⟩:=h;rfl)|(obtain⟨_,_,_,rfl,_⟩:=h;rfl)|(obtain⟨_,_,_,_,rfl,_⟩:=h;rfl)|(obtain⟨_,_,_,_,_,rfl,_⟩:=h;rfl)|(obtain⟨_,_,_,_,_,_,rfl,_⟩:=h;rfl)|(obtain⟨_,_,_,_,_,_,_,rfl,_⟩:=h;rfl)|(obtain⟨_,_,_,_,_,_,_,_,rfl,_⟩:=h;rfl)|(obtain⟨_,_,_,_,_,_,_,_,_,rfl,_⟩:=h;rfl)):Gw P w K mg base Hk (k+1) f fd ps sp:=Hg.ok F S len Ie
theorem LR(F:Hg K x qual st f fd)(S:Gj N ps (HW st))
  (Ie:∀(HQ:Value)(A:Around)(outer:List Env)(s:Shared)(H:Hp)(vs:List V)(Q:VK)(E:XK),Hf k (A.deeper (envOfC qual (HW st) s.heap.objs.size f HQ))->sp vs H Q E ->
   ∃t,Ii (Il (IB P w) P w K mg base N qual (HW st) f HQ A outer s H E) (Kz st) t/\t { nx:=λ_ H'=>Q .non H',rt:=Q } (start N vs) H)
  (len:∀vs H Q E,sp vs H Q E->vs.length=ps.length:=by intro vs H Q E h;first|(obtain⟨rfl,_⟩:=h;rfl)|(obtain⟨_,rfl,_⟩:=h;rfl)|(obtain⟨_,_,rfl,_⟩:=h;rfl)|(obtain⟨_,_,_,rfl,_⟩:=h;rfl)|(obtain⟨_,_,_,_,rfl,_⟩:=h;rfl)|(obtain⟨_,_,_,_,_,rfl,_⟩:=h;rfl)|(obtain⟨_,_,_,_,_,_,rfl,_⟩:=h;rfl)|(obtain⟨_,_,_,_,_,_,_,rfl,_⟩:=h;rfl)|(obtain⟨_,_,_,_,_,_,_,_,rfl,_⟩:=h;rfl)|(obtain⟨_,_,_,_,_,_,_,_,_,rfl,_⟩:=h;rfl)):Gw P w K mg base (IB P w) (k+1) f fd ps sp:=Hg.okx F S len Ie
end
end L2.Ev
set_option maxHeartbeats 4000000
namespace L2.K43
open PySem
open L2.Pl L2.Ev
def top(i:Nat):Stmt:=PySem.Challenge.pw_evenform_k43_refused_tellings.main.body.getD i (.Pass ⟨0,0,0,0⟩)
abbrev cX:Stmt:=top 13
abbrev iR:Stmt:=top 18
abbrev N9:Stmt:=top 19
abbrev N2:Stmt:=top 20
abbrev MS:Stmt:=top 21
abbrev MJ:Stmt:=top 22
abbrev OW:Stmt:=top 23
abbrev MY:Stmt:=top 24
abbrev LO:Stmt:=top 26
abbrev U5:Stmt:=top 27
abbrev jL:Stmt:=top 28
abbrev U7:Stmt:=top 29
abbrev Vd:Stmt:=top 30
abbrev gL:Stmt:=top 32
abbrev Xq:Stmt:=top 33
abbrev VM:Stmt:=top 34
abbrev V0:Stmt:=top 35
abbrev YW:Stmt:=top 37
abbrev XA:Stmt:=top 38
abbrev V7:Stmt:=top 39
abbrev Ww:Stmt:=top 40
abbrev kJ:Stmt:=top 41
abbrev Vv:Stmt:=top 42
abbrev VC:Stmt:=top 43
abbrev Wy:Stmt:=top 44
abbrev Xh:Stmt:=top 45
abbrev jX:Stmt:=top 46
abbrev XG:Stmt:=top 47
abbrev Yt:Stmt:=top 48
abbrev VH:Stmt:=top 50
abbrev YC:Stmt:=top 51
abbrev Wz:Stmt:=top 52
abbrev Xx:Stmt:=top 53
abbrev U3:Stmt:=top 54
abbrev Pg:Stmt:=top 55
abbrev P0:Stmt:=top 57
abbrev OM:Stmt:=top 58
abbrev MQ:Stmt:=top 59
abbrev Vu:Stmt:=top 60
abbrev Ml:Stmt:=top 61
abbrev Nu:Stmt:=top 63
abbrev Mt:Stmt:=top 64
abbrev OV:Stmt:=top 67
abbrev N8:Stmt:=top 68
abbrev OB:Stmt:=top 69
abbrev OA:Stmt:=top 70
abbrev MZ:Stmt:=top 71
section
variable{P:Program}{w:World}{K:W.Frag}{mg:Str->Option Value}{base:Heap}{f g:Addr}{fd gd:FuncData}
theorem RN{P:Program}{w:World}{K:W.Frag}{mg:Str->Option Value}{base:Heap}{N:List Str}{qual:Str}{scope:Scope}{f:Addr}{HQ:Value}{A:Around}{outer:List Env}{s0:Shared}{H0:Hp}{E:XK}:PassesOwn (model P w) (A.deeper (PyProof.Rows.envOfC qual scope s0.heap.objs.size f HQ)) (PyProof.Rows.envOfC qual scope s0.heap.objs.size f HQ) (Il (IB P w) P w K mg base N qual scope f HQ A outer s0 H0 E).xe:=PassesOwn.leaving
structure Hr(P:Program)(w:World)(K:W.Frag)(mg:Str->Option Value)(base:Heap)(k:Nat)(x:Str)(ps:List Str)(sp:Sp) where
 f:Addr
 fd:FuncData
 ok:Gw P w K mg base (IB P w) k f fd ps sp
 bd:Ho K fd ps []
 kp:W.keepIn K (.ref f)=true
 at_:mg x=some (.ref f)
theorem Jk{X:Cx}{k:Nat}{x:Str}{ps:List Str}{sp:Sp}{p pos:Pos}{e:Expr}{es:List Expr}{t:TA}{E:XK}(G:Hr X.prog X.w X.K X.mg X.base k x ps sp)(hr:Hf k X.A)(hg:Gl X x)(hx:Od (IB X.prog X.w) X E)
  (ha:PA X (e::es) t) (hdb:(x==("__debug__" : Str))=false:=by decide) (he:starEach (e::es) X.env=(false,eval e X.env)::starEach es X.env:=by rfl) (hpl:(backTo pos (starEach es X.env)).any (·.1)=false:=by rfl) :
  PE X (.Call (.Name x p) (e::es) [] pos) (OG sp [] E t):=NI G.ok hr hg G.at_ G.kp G.bd .nil hx ha hdb he hpl
abbrev hJ:List Value:=[.type "ValueError",.type "Exception",.type "BaseException",.type "object"]
structure Q5(K:W.Frag)(mg:Str->Option Value)(x:Str)(C:Addr):Prop where
 at_:mg x=some (.ref C)
 is:W.excIn K C hJ "ValueError.__new__" = true
theorem pV{K:W.Frag}{C:Addr}{bm:List Value}{n:String}(q:W.excIn K C bm n=true):(W.clsIn K C).isSome=true:=by
 unfold W.excIn at q
 split at q
 ·rename_i dd cd sl ho
  unfold W.clsIn
  rw[ho]
  rfl
 ·cases q
theorem qA{K:W.Frag}{C C0:Addr}{b:Bool}(h:W.kitOne K (.ref C) (.ref C0)=some b)(ne:C≠C0):W.kitCls K (.ref C) (.ref C0)=some b:=by
 unfold W.kitOne at h
 rwa [AE (λz=>ne (by injection (beq_iff_eq.mp z)))]at h
theorem qP{K:W.Frag}{C:Addr}{T:String}{b:Bool}(h:W.kitOne K (.ref C) (.type T)=some b):W.kitCls K (.ref C) (.type T)=some b:=by
 unfold W.kitOne at h
 rwa [AE (λz=>by cases beq_iff_eq.mp z)]at h
theorem TF{k:Nat}{ps:List Str}{sp sp':Sp}(F:Gw P w K mg base (IB P w) k f fd ps sp)(h:∀vs H Q E,sp' vs H Q E->sp vs H Q E0):Gw P w K mg base Hk k f fd ps sp' :=
 ⟨λvs H Q E q=>F.len vs H Q E0 (h _ _ _ _ q),λA outer s H args us vs Q E hr he hb hv hs=>DX (F.run A outer s H args us vs Q E0 hr he hb hv (h _ _ _ _ hs)) λr s' z=>by
  cases r with
  |ok fl=>cases fl<;>exact z
  |error e=>obtain⟨_,_,_,_,_,_,_,y⟩:=z;exact y.elim⟩
abbrev rC:List Str:=["many"]
theorem eC:Gj rC ["many"] (HW iR):=Hx
def Pi(cBC:Addr):Sp:=λvs H Q E=>∃n:Int,vs=[.int n]/\(1<=n/\n<=4->Q .non H)/\(¬ (1<=n/\n<=4)->E (.ref cBC) none H)
theorem UT{tk:Tok}{cBC:Addr}(F:Hg K "refuse_bad_count" "refuse_bad_count" iR f fd)(gU:mg "MOST_UNKNOWNS" = some (.int 4 tk))(X1:Q5 K mg "BadCount" cBC):Gw P w K mg base (IB P w) 2 f fd ["many"] (Pi cBC):=by
 refine LR F eC λHQ A outer s H vs Q E hr h=>?_
 obtain⟨n,rfl,q,e⟩:=h
 refine⟨_,HN (Ia (PW.pt (UF (ID Nn (pv 0) HR (IA _)) (S5 (ID PN (pv 0) (J0 (v:=.int 4) rfl gU ⟨_,rfl⟩) (IA _))))) (HN (VD rfl Vs Bp rfl X1.at_ X1.is (Ge Km Gq))) Ip),?_⟩
 refine⟨_,rfl,_,_,rfl,rfl,_,rfl,?_⟩
 by_cases c1:n<1
 ·exact Jt c1 (Jr ⟨IH,e (by lia)⟩)
 ·refine Ij c1 ⟨_,rfl,_,_,rfl,rfl,_,rfl,?_⟩
  by_cases c2:4<n
  ·exact Jt c2 ⟨IH,e (by lia)⟩
  ·exact Ij c2 (q (by lia))
def Rt:Sp:=λvs H Q _=>∃n:Int,vs=[.int n]/\1<=n/\n<=4/\Q .non H
theorem dG{cBC:Addr}{k:Nat}(F:Gw P w K mg base (IB P w) k f fd ["many"] (Pi cBC)):Gw P w K mg base Hk k f fd ["many"] Rt:=TF F λvs H Q E ⟨n,e,a,b,q⟩=>⟨n,e,λ_=>q,λz=>absurd ⟨a,b⟩ z⟩
abbrev nG:List Str:=["terms", "numbers", "powers", "number"]
abbrev bG:List Str:=["powers", "numbers"]
theorem rJ:bG.Nodup:=by decide +kernel
theorem WA:Gj nG ["terms"] (HW N9):=Hx
def U2:Sp:=λvs H Q _=>∃(a:Addr)(ts:List Gb),vs=[.ref a]/\Gh H a ts/\(∀t∈ts,t.1≠[])/\ts.length<=100000/\∀(l:Addr)(H':Hp),H l=none->Gf H H'->Gh H' l (norm ts)->Q (.ref l) H'
theorem Z5(F:Hg K "gathered" "gathered" N9 f fd)(ms:mg "sorted" = none):Gw P w K mg base Hk 2 f fd ["terms"] U2:=by
 refine IJ F WA λHQ A outer s H vs Q E hr h=>?_
 obtain⟨a,ts,rfl,hL,hne,HX,q⟩:=h
 have hu:=Ra hr
 have h8:=Pb hr
 refine⟨_,HP (Hi (i:=1) WA.nd rfl (Or.inr rfl) PF)
  (HP (IX Ar rfl (Ig (pv 0)) (JX rfl (IE (Hb (i:=2) WA.nd rfl (Or.inl rfl)) (IE (Hb (i:=3) WA.nd rfl (Or.inl rfl)) JZ)))
   (HN (QN hu (pv 1) (pv 2) (HV JW (Vc hu (pv 1) (pv 2) HR ⟨rfl,rfl,rfl,rfl⟩) (pv 3)) rfl)))
  (HN (Hs (JO (N':=bG) (src:=[none,some 1]) rfl (Ig (iN rfl h8 rfl ms (Ge (pv 1) Gq)))
   (I0 (HW N9) nG (by decide +kernel))
   (λb=>Hb (i:=0) rJ rfl (Or.inl rfl))
   (λb=>Pq (ID S8 (N1 hu (pv 1) (pv 0) (λ_ _=>rfl)) HR (IA _)))
   (λb=>Hz (Ge (pv 0) (Ge (N1 hu (pv 1) (pv 0) (λ_ _=>rfl)) Gq))))))),?_⟩
 intro d hd
 obtain⟨vs,eL,iL⟩:=hL
 have lv:=AL iL
 have s0:Gf H (Gi H d (.dT [])):=HH hd _
 refine⟨_,rfl,a,rfl,⟨vs,HK.of (s0 _ _ eL)⟩,?_⟩
 refine Jd (xs:=vs) (λi σ H'=>(∃c2 c3,σ=[some (.ref a),some (.ref d),c2,c3])/\H' d=some (.dT (II (Hu (ts.take i))))/\Gf H H') ?_ ?_ ?_ ?_
 ·exact⟨⟨_,_,rfl⟩,Gu,s0⟩
 ·rintro i σ H1 _ ⟨_,_,s1⟩
  exact HK.of (s1 _ _ eL)
 ·rintro i x σ H1 hx ⟨⟨c2,c3,rfl⟩,h1,s1⟩
  obtain⟨t,ht,hi⟩:=Im iL hx
  obtain⟨p,k,rfl,hp,hk⟩:=Jf hi
  have hk1:=s1 _ _ hk
  refine⟨p,_,rfl,HL.of (s1 _ _ hp),rfl,_,_,rfl,_,_,rfl,rfl,?_⟩
  have g:=IR.t (k:=t.1.map Sum.inl) h1 (by rw[J7];exact hk1)
  rw[Ng]at g
  refine⟨_,rfl,d,rfl,.inr ⟨_,.inl h1⟩,_,rfl,_,g,_,rfl,(IU (Hu (ts.take i)) t.1).getD 0,t.2,?_,rfl,_,rfl,_,rfl,d,_,rfl,Ix.t (k:=t.1.map Sum.inl) h1 (by rw[J7];exact hk1) ?_,?_⟩
  ·cases IU (Hu (ts.take i)) t.1<;>rfl
  ·rw[Qn]
   have:=ON (ts.take i)
   rw[Ah]at this
   exact Kl (by lia)
  ·refine⟨⟨_,_,rfl⟩,?_,λb o e=>?_⟩
   ·rw[JF ht,NG,<-V9]
    exact Gu
   ·rw[Ha (Iv e hd)]
    exact s1 b o e
 ·rintro σ H1 ⟨⟨c2,c3,rfl⟩,h1,s1⟩
  rw[Af (by lia)]at h1
  have hnd:∀t∈Hu ts,t.1≠[]:=λt ht=>by
   obtain⟨u,hu,e⟩:=AV.mp (XZ ts (AV.mpr ⟨t,ht,rfl⟩))
   rw[<-e]
   exact hne u hu
  refine⟨_,rfl,d,Hu ts,rfl,.inl h1,hnd,λp vs' ks hp pm so it=>?_⟩
  have s2:Gf H1 (Gi H1 p (.lst vs')):=HH hp _
  refine⟨p,rfl,⟨_,HK.of Gu⟩,λb D hD=>?_⟩
  have lk:=AL it
  have ln:vs'.length<=100000:=by
   have:=pm.length_eq
   rw[AB]at this
   have:=ON ts
   lia
  refine LF (α:=Gb) hD (HK.of Gu) (λσ=>∃c,σ=[c,some (.ref d)]) (λi=>(ks[i]?).bind λk=>if (IU (Hu ts) k).getD 0≠0 then some (k,(IU (Hu ts) k).getD 0) else none) (small ln) ⟨_,rfl⟩ ?_ ?_
  ·rintro i x σ H2 Yes No hx ⟨c,rfl⟩ s3 yes no
   obtain⟨k,hk,hi⟩:=Im it hx
   obtain⟨pk,rfl,hpk⟩:=JE hi
   have hpk3:=s3 _ _ (s2 _ _ hpk)
   have hd3:=s3 _ _ (s2 _ _ h1)
   obtain⟨n,hn⟩:=gI (pm.mem_iff.mp (Ad hk))
   have g:=IR.t (k:=k.map Sum.inl) hd3 (by rw[J7];exact hpk3)
   rw[Ng,hn]at g
   refine⟨_,rfl,_,rfl,d,.int n,rfl,g,rfl,_,rfl,?_⟩
   by_cases c0:n=0
   ·subst c0
    refine KW ?_
    exact no _ _ ⟨_,rfl⟩ (Gf.refl _) (by rw[hk,Co,hn,AE (by simp)])
   ·have e0:(!decide (V.int n=V.int 0))=true:=by
     rw[AN (λz=>c0 (by injection z))]
     rfl
    rw[e0]
    refine Jr ⟨_,rfl,_,rfl,_,rfl,d,.int n,rfl,g,IV,λr hr=>?_⟩
    exact yes _ _ _ (k,n) ⟨_,rfl⟩ (HH hr _) (by rw[hk,Co,hn,AH (by simpa using c0)];rfl) (JY Gu (HH hr _ _ _ hpk3))
  ·intro H2 s3 hL
   refine q D H2 (s1.free (s2.free hD)) (s1.trans (s2.trans s3)) ?_
   have e:=Qe pm so
   rw[<-VB,<-KC,<-lk]at e
   rw[<-e]
   exact hL
theorem mF{n d b:Nat}{ts:List Gb}(h:Deg n d b ts)(n1:1<=n):∀t∈ts,t.1≠[]:=λt ht e=>by
 have:=h.len t ht
 rw[e]at this
 simp at this
 lia
abbrev LV:List Str:=["one", "other"]
def TL(g:List Gb->List Gb->List Gb):Sp:=λvs H Q _=>∃(a b:Addr)(ts us:List Gb),vs=[.ref a,.ref b]/\Gh H a ts/\Gh H b us/\(∀t∈ts,t.1≠[])/\(∀t∈us,t.1≠[])/\ts.length+us.length<=100000/\∀(l:Addr)(H':Hp),H l=none->Gf H H'->Gh H' l (norm (g ts us))->Q (.ref l) H'
abbrev pB:List Str:=["powers", "number"]
theorem S6:pB.Nodup:=by decide +kernel
theorem jP:Gj LV LV (HW MS):=Hx
theorem YA(F:Hg K "less" "less" MS f fd)(GG:Hd P w K mg base 2 "gathered" ["terms"] U2):Gw P w K mg base Hk 3 f fd LV (TL λts us=>ts++ngt us):=by
 refine IJ F jP λHQ A outer s H vs Q E hr h=>?_
 obtain⟨a,b,ts,us,rfl,⟨vs,eA,iA⟩,⟨ws,eB,iB⟩,ne1,ne2,HX,q⟩:=h
 refine⟨_,HN (Hs (Hq GG hr rfl (Ge (HV Lm (pv 0) (JO (N':=pB) (src:=[none,none]) rfl (Ig (pv 1)) (I0 (HW MS) LV (by decide +kernel))
   (λb=>JX rfl (IE (Hb (i:=0) S6 rfl (Or.inl rfl)) (IE (Hb (i:=1) S6 rfl (Or.inl rfl)) JZ)))
   (λb=>Jh)
   (λb=>Hz (Ge (pv 0) (Ge (Na Nb (pv 1)) Gq))))) Gq))),?_⟩
 have la:=AL iA
 have lb:=AL iB
 refine⟨_,rfl,_,rfl,b,rfl,⟨_,HK.of eB⟩,λbk D hD=>?_⟩
 refine LF (α:=Gb) hD (HK.of eB) (λσ=>∃c d,σ=[c,d]) (λi=>(us[i]?).bind λt=>some (t.1,-t.2)) (small (by lia)) ?_ ?_ ?_
 ·exact⟨_,_,rfl⟩
 ·rintro i x σ H2 Yes No hx ⟨c,d,rfl⟩ s3 yes no
  obtain⟨t,ht,hi⟩:=Im iB hx
  obtain⟨p,kk,rfl,hp,hkk⟩:=Jf hi
  refine⟨p,_,rfl,HL.of (s3 _ _ hp),rfl,_,_,rfl,_,_,rfl,rfl,?_⟩
  refine Mi ?_
  refine⟨_,rfl,_,rfl,_,rfl,IV,λp3 h3=>?_⟩
  have s5:=HH h3 (.tup [.ref kk,.int (-t.2)])
  exact yes _ _ _ (t.1,-t.2) ⟨_,_,rfl⟩ s5 (by rw[ht];rfl) (JY Gu (s5 _ _ (s3 _ _ hkk)))
 rintro H2 s3 ⟨zs,eZ,iZ⟩
 have e:(List.range ws.length).filterMap (λi=>(us[i]?).bind λt=>some (t.1,-t.2))=ngt us:=by
  rw[lb,KC,A7]
  rfl
 rw[e]at iZ
 have lz:=AL iZ
 rw[OY]at lz
 refine⟨a,D,vs,zs,rfl,rfl,s3 _ _ eA,eZ,small (by lia),λp hp=>?_⟩
 have s1:=HH hp (.lst (vs++zs))
 refine⟨p,ts++ngt us,rfl,⟨_,Gu,Paired.app (Hc.mono (HZ.same (s3.trans s1)) iA) (Hc.mono (HZ.same s1) iZ)⟩,λt ht=>(Aq.mp ht).elim (ne1 t) λht=>?_,by rw[AI,OY];exact HX,λl H' hl s2 h2=>?_⟩
 ·obtain⟨u,hu,rfl⟩:=AV.mp ht
  exact ne2 u hu
 ·exact q l H' (s3.free (s1.free hl)) (s3.trans (s1.trans s2)) h2
abbrev nS:List Str:=["powers", "place"]
theorem rY:Gj nS ["powers", "place"] (HW OW):=Hx
def RG:Sp:=λvs H Q _=>∃(a:Addr)(ps:List Int)(k:Nat),vs=[.ref a,.int k]/\H a=some (.tup (ps.map V.int))/\k+1<ps.length/\ps.length<=100/\∀p H',Gf H H'->H' p=some (.tup ((swp ps k).map V.int))->Q (.ref p) H'
theorem Xw(ps:List Int)(k:Nat)(h:k<=ps.length):KR (ps.map V.int) none (some (k:Int))=(ps.take k).map V.int:=by
 unfold KR
 rw[HT.sIx_none,HT.sIx_nat,AB,DW,HA,Cf h,Go]
theorem YY(ps:List Int)(k:Nat):KR (ps.map V.int) (some (k:Int)) none=(ps.drop k).map V.int:=by
 unfold KR
 rw[HT.sIx_none,HT.sIx_nat,AB,Af (by rw[BH,AB];lia),Gn]
 by_cases c:k<=ps.length
 ·rw[Cf c]
 ·rw[FJ (by lia),Ct (by simp),Ct (by simp;lia)]
theorem Ry{ps:List Int}{k:Nat}(h:k<ps.length):Jn (ps.map V.int) (k:Int)=some (.int (ps.getD k 0)):=by
 refine LN ?_
 rw[Ag,AW h]
 simp [h]
theorem Xd(F:Hg K "swapped" "swapped" OW f fd):Gw P w K mg base Hk 2 f fd ["powers", "place"] RG:=by
 refine IJ F rY λHQ A outer s H vs Q E hr h=>?_
 obtain⟨a,ps,k,rfl,ha,hk,hl,q⟩:=h
 refine⟨_,HN (Hs (HV L3 (HV L3 (Mz UD (pv 0) My (NR (pv 1)))
   (Hz (Ge (JH Mq (pv 0) (HV JW (pv 1) HR) (λ_ _=>rfl)) (Ge (JH Mq (pv 0) (pv 1) (λ_ _=>rfl)) Gq))))
   (Mz UD (pv 0) (NR (HV JW (pv 1) HR)) My))),?_⟩
 have e1:((k:Int)+1)=((k+1:Nat):Int):=by lia
 have e2:((k:Int)+2)=((k+2:Nat):Int):=by lia
 refine⟨_,rfl,_,rfl,_,rfl,a,_,rfl,HL.of ha,?_,λp1 h1=>?_⟩
 ·rintro⟨_,z⟩
  rw[HT.sIx_nat,AB]at z
  lia
 rw[Xw ps k (by lia)]
 have s1:=HH h1 (.tup ((ps.take k).map V.int))
 have ha1:=s1 _ _ ha
 refine⟨_,rfl,_,rfl,_,_,rfl,rfl,a,_,_,_,rfl,rfl,HL.of ha1,by rw[e1];exact Ry hk,_,rfl,_,rfl,a,_,_,_,rfl,rfl,HL.of ha1,Ry (by lia),IV,λp2 h2=>?_⟩
 have s2:=HH h2 (.tup [.int (ps.getD (k+1) 0),.int (ps.getD k 0)])
 have hp1:=s2 _ _ (Gu (H:=H) (a:=p1) (o:=.tup ((ps.take k).map V.int)))
 refine Mr (r:=ps.take k) (r':=[ps.getD (k+1) 0,ps.getD k 0]) hp1 Gu (small (by rw[Ah];show min k ps.length+2<=100000;lia)) λp3 H3 s3 h3=>?_
 have ha3:=s3 _ _ (s2 _ _ ha1)
 refine⟨_,rfl,_,rfl,_,_,rfl,rfl,_,rfl,a,_,rfl,HL.of ha3,?_,λp4 h4=>?_⟩
 ·rintro⟨z,_⟩
  rw[e2,HT.sIx_nat,AB]at z
  lia
 rw[e2,YY]
 have s4:=HH h4 (.tup ((ps.drop (k+2)).map V.int))
 refine Mr (s4 _ _ h3) Gu (small (by rw[AI,Ah,BH];show min k ps.length+2+(ps.length-(k+2))<=100000;lia)) λp5 H5 s5 h5=>?_
 exact q p5 H5 (s1.trans (s2.trans (s3.trans (s4.trans s5)))) h5
abbrev nE:List Str:=["some", "place"]
abbrev bE:List Str:=["powers", "number", "place"]
theorem pC:bE.Nodup:=by decide +kernel
theorem rL:Gj nE ["some", "place"] (HW MY):=Hx
def Sc:Sp:=λvs H Q _=>∃(a:Addr)(n k:Nat)(ts:List Gb),vs=[.ref a,.int k]/\Gh H a ts/\(∀t∈ts,t.1.length=n)/\k+1<n/\n<=100/\ts.length<=100000/\∀(l:Addr)(H':Hp),H l=none->Gf H H'->Gh H' l (JL ts k)->Q (.ref l) H'
theorem eS{h':Addr}{hd':FuncData}(F:Hg K "exchanged" "exchanged" MY f fd)(G:Gw P w K mg base Hk 2 g gd ["terms"] U2)(bG':Ho K gd ["terms"] [])(kG:W.keepIn K (.ref g)=true)(mG:mg "gathered" = some (.ref g))
  (GS:Gw P w K mg base Hk 2 h' hd' ["powers", "place"] RG) (bS:Ho K hd' ["powers", "place"] []) (kS:W.keepIn K (.ref h')=true) (mS:mg "swapped" = some (.ref h')):Gw P w K mg base Hk 3 f fd ["some", "place"] Sc:=by
 refine IJ F rL λHQ A outer s H vs Q E hr h=>?_
 obtain⟨a,n,k,ts,rfl,⟨vs,eL,iL⟩,hln,hk,hn,hl,q⟩:=h
 refine⟨_,HN (Hs (NI G hr rfl mG kG bG' .nil Mw (Ge (JO (N':=bE) (src:=[none,none,some 1]) rfl (Ig (pv 0)) (I0 (HW MY) nE (by decide +kernel))
   (λb=>JX rfl (IE (Hb (i:=0) pC rfl (Or.inl rfl)) (IE (Hb (i:=1) pC rfl (Or.inl rfl)) JZ)))
   (λb=>Jh)
   (λb=>Hz (Ge (NI GS hr rfl mS kS bS .nil Mw (Ge (pv 0) (Ge (pv 2) Gq))) (Ge (pv 1) Gq)))) Gq))),?_⟩
 refine⟨_,rfl,a,rfl,⟨_,HK.of eL⟩,λbk D hD=>?_⟩
 have lv:=AL iL
 refine LF (α:=Gb) hD (HK.of eL) (λσ=>∃c d,σ=[c,d,some (.int k)]) (λi=>(ts[i]?).bind λt=>some (swp t.1 k,t.2)) (small (by lia)) ?_ ?_ ?_
 ·exact⟨_,_,rfl⟩
 ·rintro i x σ H2 Yes No hx ⟨c,d,rfl⟩ s3 yes no
  obtain⟨t,ht,hi⟩:=Im iL hx
  obtain⟨p,kk,rfl,hp,hkk⟩:=Jf hi
  have hm:=Ad ht
  have pl:=hln t hm
  refine⟨p,_,rfl,HL.of (s3 _ _ hp),rfl,_,_,rfl,_,_,rfl,rfl,?_⟩
  refine Mi ?_
  refine⟨_,rfl,_,rfl,kk,t.1,k,rfl,s3 _ _ hkk,by lia,by lia,λp2 H4 s4 h4=>?_⟩
  refine⟨_,rfl,IV,λp3 h3=>?_⟩
  have s5:=HH h3 (.tup [.ref p2,.int t.2])
  exact yes _ _ _ (swp t.1 k,t.2) ⟨_,_,rfl⟩ (s4.trans s5) (by rw[ht];rfl) (JY Gu (s5 _ _ h4))
 ·rintro H2 s3 hL
  have e:(List.range vs.length).filterMap (λi=>(ts[i]?).bind λt=>some (swp t.1 k,t.2))=ts.map λt=>(swp t.1 k,t.2):=by
   rw[lv,KC,A7]
  rw[e]at hL
  refine⟨D,_,rfl,hL,λt ht e=>?_,by rw[AB];lia,λl H4 hl4 s4 h4=>?_⟩
  ·obtain⟨u,hu,rfl⟩:=AV.mp ht
   have z:(swp u.1 k).length=n:=by rw[O4 (by rw[hln u hu];exact hk),hln u hu]
   have e':swp u.1 k=[]:=e
   rw[e']at z
   simp at z
   lia
  ·exact q l H4 (s3.free hl4) (s3.trans s4) h4
end
section
variable{P:Program}{w:World}{K:W.Frag}{mg:Str->Option Value}{base:Heap}{f g:Addr}{fd gd:FuncData}
def JB(ts:List Gb)(k:Nat):List Gb:=norm (ts++ngt (JL ts k))
def Jv(ts:List Gb)(m:Nat):Option (Nat×Pw)->Prop
 |none=>∀k,k<m->JB ts k=[]
 |some (k,p)=>k<m/\(∀j,j<k->JB ts j=[])/\∃t r,JB ts k=t::r/\t.1=p
theorem Jv.one{ts:List Gb}{m:Nat}:∀{a b:Option (Nat×Pw)},Jv ts m a->Jv ts m b->a=b
 |none,none,_,_=>rfl
 |none,some (k,p),h,⟨hk,_,t,r,e,_⟩=>by rw[h k hk]at e;cases e
 |some (k,p),none,⟨hk,_,t,r,e,_⟩,h=>by rw[h k hk]at e;cases e
 |some (k,p),some (j,q),⟨hk,hk',t,r,e,ep⟩,⟨hj,hj',t',r',e',ep'⟩=>by
  have:k=j:=by
   rcases Nat.lt_trichotomy k j with c|c|c
   ·rw[hj' k c]at e;cases e
   ·exact c
   ·rw[hk' j c]at e';cases e'
  subst this
  rw[e]at e'
  cases e'
  rw[<-ep,ep']
def YF(H:Hp)(v:V):Option (Nat×Pw)->Prop
 |none=>v=.non
 |some (k,p)=>∃t kk,v=.ref t/\H t=some (.tup [.int k,.ref kk])/\H kk=some (.tup (p.map V.int))
theorem fK(ts:List Gb)(k:Nat):(JB ts k).length<=2*ts.length:=by
 unfold JB
 refine BE (NF _) ?_
 rw[AI]
 have:=NF (ts.map λt=>(swp t.1 k,t.2))
 rw[AB]at this
 unfold ngt JL
 rw[AB]
 lia
theorem fV{ts:List Gb}{k n:Nat}(hk:k+1<n)(hl:∀t∈ts,t.1.length=n):∀t∈JL ts k,t.1.length=n:=λt ht=>by
 obtain⟨u,hu,e⟩:=J1 ht
 obtain⟨x,hx,rfl⟩:=AV.mp hu
 rw[<-e]
 show(swp x.1 k).length=n
 rw[O4 (by rw[hl x hx];exact hk),hl x hx]
theorem Sh{n:Nat}(n1:1<=n){ts:List Gb}(h:∀t∈ts,t.1.length=n):∀t∈ts,t.1≠[]:=λt ht e=>by
 have:=h t ht
 rw[e]at this
 simp at this
 lia
abbrev rX:List Str:=["many", "some", "place", "unlike"]
abbrev PJ:List Str:=["many", "some"]
theorem Ni:Gj rX PJ (HW gL):=Hx
def TZ(cBC:Addr):Sp:=λvs H Q E=>∃(n:Int)(a:Addr)(ts:List Gb),vs=[.int n,.ref a]/\Gh H a ts/\ts.length<=1000/\(¬ (1<=n/\n<=4)->E (.ref cBC) none H) /\
 (1<=n/\n<=4->(∀t∈ts,t.1.length=n.toNat)/\∀(v:V)(o:Option (Nat×Pw))(H':Hp),Gf H H'->Jv ts (n.toNat-1) o->YF H' v o->Q v H')
theorem YR{cBC:Addr}(F:Hg K "uneven" "uneven" gL f fd)(GC:Hr P w K mg base 3 "refuse_bad_count" ["many"] (Pi cBC))(GL:Hd P w K mg base 3 "less" LV (TL λts us=>ts++ngt us))(GE:Hd P w K mg base 3 "exchanged" ["some", "place"] Sc)(mr:mg "range" = none):Gw P w K mg base (IB P w) 4 f fd PJ (TZ cBC):=by
 refine LR F Ni λHQ A outer s H vs Q E hr h=>?_
 obtain⟨n,a,ts,rfl,hL,hl,e1,q⟩:=h
 have hM:=BG (Bt (by decide:Dat.dep Gb+1<=64) _) hr.units
 refine⟨_,HP (IZ (Jk GC hr rfl Jp (Ge (pv 0) Gq)))
  (HP (IX RN rfl (NO rfl mr (Ge (HV Kn (pv 0) HR) Gq)) (Hb (i:=2) Ni.nd rfl (Or.inl rfl))
   (HP (Hi (i:=3) Ni.nd rfl (Or.inl rfl) (Hq GL hr rfl (Ge (pv 1) (Ge (Hq GE hr rfl (Ge (pv 1) (Ge (pv 2) Gq))) Gq))))
   (HN (Ia (ID (Lx (α:=Gb) hM) (pv 3) (Hy Gq) (IA _)) (HN (Hs (Hz (Ge (pv 2) (Ge (JH Mq (JH KU (pv 3) HR (λ_ _=>rfl)) HR (λ_ _=>rfl)) Gq))))) Ip))))
  (HN (Hs Nj))),?_⟩
 refine⟨_,rfl,n,rfl,λhn=>?_,e1⟩
 obtain⟨n,rfl,n1,n4⟩:∃k:Nat,n=k/\1<=k/\k<=4:=⟨n.toNat,by lia,by lia,by lia⟩
 obtain⟨lens,q⟩:=q hn
 rw[Aw]at lens q
 refine⟨_,rfl,_,_,rfl,rfl,_,rfl,by lia,by lia,?_⟩
 rw[show((n:Int)-1).toNat=n-1 by lia]
 refine ME (lo:=0) (n:=n-1) (λi σ H'=>(∃c2 c3,σ=[some (.int n),some (.ref a),c2,c3])/\Gf H H'/\∀k,k<i->JB ts k=[]) ?_ ?_ ?_
 ·exact⟨⟨_,_,rfl⟩,Gf.refl _,λk hk=>absurd hk (FY _)⟩
 ·rintro i σ H1 hi ⟨⟨c2,c3,rfl⟩,s1,hz⟩
  rw[Dt]
  refine⟨_,rfl,_,rfl,_,rfl,a,n,i,ts,rfl,hL.mono s1,lens,by lia,by lia,by lia,λl2 H2 hl2 s2 h2=>?_⟩
  have el:=NF (ts.map λt=>(swp t.1 i,t.2))
  rw[AB]at el
  refine⟨a,l2,ts,JL ts i,rfl,hL.mono (s1.trans s2),h2,Sh n1 lens,Sh n1 (fV (by lia) lens),by unfold JL;lia,λl3 H3 hl3 s3 h3=>?_⟩
  have h3:Gh H3 l3 (JB ts i):=h3
  have ul:=fK ts i
  refine⟨_,rfl,Ik,λl4 hl4=>?_⟩
  have s4:=HH hl4 (.lst [])
  have sH:=s1.trans (s2.trans (s3.trans s4))
  refine⟨l3,l4,JB ts i,[],rfl,rfl,h3.mono s4,⟨[],Gu,.nil⟩,_,rfl,?_⟩
  cases eu:JB ts i with
  |nil=>exact KW ⟨⟨_,_,rfl⟩,sH,λk hk=>by
    rcases Nat.lt_succ_iff_lt_or_eq.mp hk with c|c
    ·exact hz k c
    ·rw[c];exact eu⟩
  |cons t r =>
   rw[eu]at h3
   refine Jr ?_
   obtain⟨vs,eL,iL⟩:=h3.mono s4
   obtain⟨v0,vr,rfl⟩:∃v0 vr,vs=v0::vr:=by
    cases vs with
    |nil=>cases iL
    |cons x y=>exact⟨x,y,rfl⟩
   obtain⟨x,hx,hi0⟩:=Im (i:=0) iL rfl
   cases hx
   obtain⟨p,kk,rfl,hp,hkk⟩:=Jf hi0
   refine⟨_,rfl,_,rfl,l3,_,_,.ref p,rfl,rfl,HK.of eL,LN (j:=0) rfl,p,_,_,.ref kk,rfl,rfl,HL.of hp,LN (j:=0) rfl,IV,λt5 h5=>?_⟩
   have s5:=HH h5 (.tup [.int i,.ref kk])
   exact q _ (some (i,t.1)) _ (sH.trans s5) ⟨hi,hz,t,r,eu,rfl⟩ ⟨t5,kk,rfl,Gu,s5 _ _ hkk⟩
 ·rintro σ H1 ⟨⟨c2,c3,rfl⟩,s1,hz⟩
  exact q _ none _ s1 hz rfl
theorem Uf(f:Pw->Int)(k:Nat):∀ts:List Gb,sm f (ts.map λt=>(swp t.1 k,0-t.2))=- sm f (ts.map λt=>(swp t.1 k,t.2))
 |[]=>rfl
 |t::r=>by
  rw[Ae,Ae]
  show(0-t.2)*f (swp t.1 k)+sm f (r.map λt=>(swp t.1 k,0-t.2))=- (t.2*f (swp t.1 k)+sm f (r.map λt=>(swp t.1 k,t.2)))
  rw[Uf f k r,Int.sub_mul,Int.zero_mul]
  lia
theorem YQ(ts:List Gb)(k:Nat):norm (ts++ts.map λt=>(swp t.1 k,0-t.2))=JB ts k:=by
 unfold JB
 refine NC λf=>?_
 rw[Kp,Kp,O0,Uf]
 unfold JL
 rw[JV]
theorem Tg{n k:Nat}(hk:k+1<n){q:Pw}(hq:q.length=n):∀{ts:List Gb},(∀t∈ts,t.1.length=n)->cf (ts.map λt=>(swp t.1 k,0-t.2)) q=- cf ts (swp q k)
 |[],_=>rfl
 |t::r,h=>by
  have ih:=Tg hk hq (ts:=r) λu hu=>h u (AK _ hu)
  have ht:=h t (AJ ..)
  rw[Ae]
  show(if swp t.1 k=q then 0-t.2 else 0)+cf (r.map λt=>(swp t.1 k,0-t.2)) q=- ((if t.1=swp q k then t.2 else 0)+cf r (swp q k))
  rw[ih]
  by_cases c:t.1=swp q k
  ·rw[AH c,AH (by rw[c];exact Lp (by lia))]
   lia
  ·rw[AE c,AE (λz=>c (by rw[<-z];exact(Lp (by lia)).symm))]
   lia
theorem QA{n k:Nat}(hk:k+1<n){q:Pw}(hq:q.length=n){ts:List Gb}(h:∀t∈ts,t.1.length=n):cf (JB ts k) q=cf ts q-cf ts (swp q k):=by
 rw[<-YQ,Jo,Pp,Tg hk hq h]
 lia
theorem TN{q:Pw}:∀{l:List Gb},(∀t∈l,t.1≠q)->cf l q=0
 |[],_=>rfl
 |t::r,h=>by
  show(if t.1=q then t.2 else 0)+cf r q=0
  rw[AE (h t (AJ ..)),TN λu hu=>h u (AK _ hu)]
  rfl
theorem Ux{q:Pw}{l:List Gb}(h:cf l q≠0):∃t∈l,t.1=q:=by
 cases c:l.find? (λt=>decide (t.1=q)) with
 |some t=>exact⟨t,List.mem_of_find?_eq_some c,by have:=List.find?_some c;simpa using this⟩
 |none =>
  refine absurd (TN λt ht z=>?_) h
  have:=List.find?_eq_none.mp c t ht
  exact this (AX z)
theorem TV{n k:Nat}(hk:k+1<n){ts:List Gb}(h:∀t∈ts,t.1.length=n):∀t∈JB ts k,t.1.length=n:=λt ht=>by
 rw[<-YQ]at ht
 obtain⟨u,hu,e⟩:=J1 ht
 rw[<-e]
 rcases Aq.mp hu with hu|hu
 ·exact h u hu
 ·obtain⟨v,hv,rfl⟩:=AV.mp hu
  have:=h v hv
  exact(O4 (by lia)).trans this
theorem Qs(ts:List Gb)(k:Nat):HS (JB ts k):=by
 rw[<-YQ]
 exact JI _
theorem T5{n k:Nat}(hk:k+1<n){ts:List Gb}(h:∀t∈ts,t.1.length=n)(hd:∀q∈ts.map (·.1),cf ts (swp q k)=cf ts q):JB ts k=[]:=by
 cases e:JB ts k with
 |nil=>rfl
 |cons t r =>
  have ht:t∈JB ts k:=by rw[e];exact AJ ..
  have l:=TV hk h t ht
  have c:=O9 (Qs ts k) ht
  have n0:=(Qs ts k).num t ht
  rw[QA hk l h]at c
  by_cases z:cf ts t.1=0
  ·have z2:cf ts (swp t.1 k)≠0:=by lia
   obtain⟨u,hu,eu⟩:=Ux z2
   have:=hd u.1 (AV.mpr ⟨u,hu,rfl⟩)
   rw[eu,Lp (by lia)]at this
   lia
  ·obtain⟨u,hu,eu⟩:=Ux z
   have:=hd u.1 (AV.mpr ⟨u,hu,rfl⟩)
   rw[eu]at this
   lia
theorem oC{n k:Nat}(hk:k+1<n){ts:List Gb}(h:∀t∈ts,t.1.length=n){p q:Pw}(hq:q.length=n)(hd:cf ts (swp q k)≠cf ts q)(only:∀r:Pw,r.length=n->cf ts r≠cf ts (swp r k)->r=p∨r=swp p k) :
  ∃t r,JB ts k=t::r/\t.1=if Hj q (swp q k)=true then swp q k else q:=by
 have lq:(swp q k).length=n:=(O4 (by lia)).trans hq
 have ss:swp (swp q k) k=q:=Lp (by lia)
 have k1:∃t∈JB ts k,t.1=q:=Ux (by rw[QA hk hq h];lia)
 have k2:∃t∈JB ts k,t.1=swp q k:=Ux (by rw[QA hk lq h,ss];lia)
 have ne:q≠swp q k:=λz=>hd (by rw[<-z])
 have o1:=only q hq (λz=>hd z.symm)
 have o2:=only (swp q k) lq (by rw[ss];exact hd)
 have all:∀t∈JB ts k,t.1=q∨t.1=swp q k:=λt ht=>by
  have l:=TV hk h t ht
  have c:=O9 (Qs ts k) ht
  have n0:=(Qs ts k).num t ht
  rw[QA hk l h]at c
  have o3:=only t.1 l (by lia)
  rcases o1 with a|a<;>rcases o2 with b|b<;>rcases o3 with d|d
  ·exact .inl (d.trans a.symm)
  ·exact absurd (a.trans b.symm) ne
  ·exact .inl (d.trans a.symm)
  ·exact .inr (d.trans b.symm)
  ·exact .inr (d.trans b.symm)
  ·exact .inl (d.trans a.symm)
  ·exact absurd (a.trans b.symm) ne
  ·exact absurd (a.trans b.symm) ne
 have ord:=(Qs ts k).ord
 cases e:JB ts k with
 |nil=>rw[e]at k1;obtain⟨t,ht,_⟩:=k1;cases ht
 |cons t r =>
  rw[e]at k1 k2 all ord
  refine⟨t,r,rfl,?_⟩
  have hd':=(Ay.mp ord).1
  by_cases c:Hj q (swp q k)=true
  ·rw[AH c]
   rcases all t (AJ ..) with z|z
   ·obtain⟨u,hu,eu⟩:=k2
    rcases AO.mp hu with rfl|hu
    ·exact eu
    ·have:=hd' u hu
     rw[eu,z]at this
     have:=Lv c this
     rw[Jb]at this
     cases this
   ·exact z
  ·rw[AE c]
   rcases all t (AJ ..) with z|z
   ·exact z
   ·obtain⟨u,hu,eu⟩:=k1
    rcases AO.mp hu with rfl|hu
    ·exact eu
    ·have:=hd' u hu
     rw[eu,z]at this
     exact absurd this c
end
section
variable{P:Program}{w:World}{K:W.Frag}{mg:Str->Option Value}{base:Heap}{f g:Addr}{fd gd:FuncData}
def Wp:Stmt->List Stmt
 |.ClassDef _ _ _ b _ _ _ _ _ _ _=>b
 |_=>[]
abbrev Kv:Stmt:=(Wp cX).getD 0 (.Pass ⟨0,0,0,0⟩)
abbrev KZ:List Str:=["self", "place", "powers"]
theorem W9:Gj KZ KZ (HW Kv):=Hx
structure Nz(K:W.Frag)(C fI:Addr):Prop where
 s:KO K C
 m:X9 K C fI
 p1:W.findIn K (.ref C) "place" = some none
 p2:W.findIn K (.ref C) "powers" = some none
def S9(C:Addr):Sp:=λvs H Q E=>∃(x:Addr)(v1 v2:V),vs=[.ref x,v1,v2]/\H x=some (xI x C none)/\∀d,H d=none->d≠x->Q .non (Gi (Gi (Gi H d (xD d [("place",v1)])) x (xI x C (some d))) d (xD d [("place",v1),("powers",v2)]))
theorem Zz{C C0 fI:Addr}(F:Hg K "__init__" "Uneven.__init__" Kv f fd)(M0:mg "EvenError" = some (.ref C0))(B:NV K C0)(c:Nz K C fI):Gw P w K mg base Hk 2 f fd KZ (S9 C):=by
 refine IJ F W9 λHQ A outer s H vs Q E hr h=>?_
 obtain⟨x,v1,v2,rfl,hx,q⟩:=h
 refine⟨_,HP (IZ (fW rfl M0 B (Ge (pv 0) (Ge Km Gq)))) (HP (Tq (pv 0) (pv 1) rfl) (HN (Tq (pv 0) (pv 2) rfl))),?_⟩
 refine⟨_,rfl,x,C,none,fI,_,rfl,hx,c.m.j,?_⟩
 refine⟨_,rfl,_,rfl,x,C,rfl,c.s,c.p1,.inl ⟨hx,λd hd dne=>?_⟩⟩
 refine⟨_,rfl,_,rfl,x,C,rfl,c.s,c.p2,.inr ⟨d,[("place",v1)],by rw[Gu],?_,(by decide:1<900),?_⟩⟩
 ·rw[Ha dne,Gu]
 ·exact q d hd dne
end
section
variable{P:Program}{w:World}{K:W.Frag}{mg:Str->Option Value}{base:Heap}{f g:Addr}{fd gd:FuncData}
abbrev rG:List Str:=["many", "some", "found"]
theorem R3:Gj rG PJ (HW Xq):=Hx
def R8(cBC C:Addr):Sp:=λvs H Q E=>∃(n:Int)(a:Addr)(ts:List Gb),vs=[.int n,.ref a]/\Gh H a ts/\ts.length<=1000/\(¬ (1<=n/\n<=4)->E (.ref cBC) none H) /\
 (1<=n/\n<=4->(∀t∈ts,t.1.length=n.toNat)/\(Jv ts (n.toNat-1) none->∀H',Gf H H'->Q .non H') /\
  ∀k p,Jv ts (n.toNat-1) (some (k,p))->∀H' d kk,Gf H H'->H d=none->H' d=some (xD d [("place",.int k),("powers",.ref kk)])->H' kk=some (.tup (p.map V.int))->E (.ref C) (some d) H')
theorem ZK{cBC C fI:Addr}{fdI:FuncData}(F:Hg K "refuse_uneven" "refuse_uneven" Xq f fd)(GU:Hr P w K mg base 5 "uneven" PJ (TZ cBC))(OI:Gw P w K mg base Hk 4 fI fdI KZ (S9 C))(bI:Ho K fdI KZ [])(c:Nz K C fI)(M6:mg "Uneven" = some (.ref C)):Gw P w K mg base (IB P w) 6 f fd PJ (R8 cBC C):=by
 refine LR F R3 λHQ A outer s H vs Q E hr h=>?_
 obtain⟨n,a,ts,rfl,hL,hl,e1,q⟩:=h
 refine⟨_,HP (Hi (i:=2) R3.nd rfl (Or.inl rfl) (Jk GU hr rfl Jp (Ge (pv 0) (Ge (pv 1) Gq))))
  (HN (Ia (ID bX (pv 2) Nj (IA _)) (HN (Y8 rfl sT c.m OI hr bI .nil Mw rfl M6 (Ge (JH Mq (pv 2) HR (λ_ _=>rfl)) (Ge (JH Mq (pv 2) HR (λ_ _=>rfl)) Gq)))) Ip)),?_⟩
 refine⟨_,rfl,_,rfl,n,a,ts,rfl,hL,hl,e1,λhn=>?_⟩
 obtain⟨lens,q0,q1⟩:=q hn
 refine⟨lens,λv o H' sH hU hI=>?_⟩
 refine⟨_,rfl,rfl,_,rfl,?_⟩
 cases o with
 |none =>
  obtain rfl:v=.non:=hI
  exact KW (q0 hU H' sH)
 |some kp =>
  obtain⟨k,p⟩:=kp
  obtain⟨t,kk,rfl,ht,hk⟩:=hI
  refine Jr ?_
  refine⟨_,rfl,t,_,_,_,rfl,rfl,HL.of ht,rfl,_,rfl,t,_,_,_,rfl,rfl,HL.of ht,rfl,IV,λx hx=>?_⟩
  refine⟨x,_,_,rfl,Gu,λd hd dne=>⟨rfl,some d,?_,?_⟩⟩
  ·rw[Ha (Bl dne),Gu]
  ·have hd':H' d=none:=by rw[Ha dne]at hd;exact hd
   have key:∀b u,H' b=some u->ND x (Gi (Gi (Gi (Gi H' x (xI x C none)) d (xD d [("place",.int k)])) x (xI x C (some d))) d (xD d [("place",.int k),("powers",.ref kk)])) b=some u:=λb u hb=>by
    have n1:b≠x:=λz=>by rw[z,hx]at hb;cases hb
    have n2:b≠d:=λz=>by rw[z,hd']at hb;cases hb
    rw[Ls n1,Ha n2,Ha n1,Ha n2,Ha n1]
    exact hb
   refine q1 k p hU _ d kk (sH.trans key) (sH.free hd') ?_ (key _ _ hk)
   rw[Ls dne,Gu]
end
section
variable{P:Program}{w:World}{K:W.Frag}{mg:Str->Option Value}{base:Heap}{f g:Addr}{fd gd:FuncData}
abbrev pS:List Str:=["terms", "numbers", "powers", "number"]
abbrev oR:List Str:=["powers", "numbers"]
theorem Wr:oR.Nodup:=by decide +kernel
theorem L7:Gj pS ["terms"] (HW N9):=Hx
def U4:Sp:=λvs H Q _=>∃(a:Addr)(ts:List Gb),vs=[.ref a]/\Gh H a ts/\ts.length<=100000/\∀(l:Addr)(H':Hp),H l=none->Gf H H'->Gh H' l (norm ts)->Q (.ref l) H'
theorem YM(F:Hg K "gathered" "gathered" N9 f fd)(ms:mg "sorted" = none):Gw P w K mg base Hk 2 f fd ["terms"] U4:=by
 refine IJ F L7 λHQ A outer s H vs Q E hr h=>?_
 obtain⟨a,ts,rfl,hL,HX,q⟩:=h
 have hu:=Ra hr
 have h8:=Pb hr
 refine⟨_,HP (Hi (i:=1) L7.nd rfl (Or.inr rfl) PF)
  (HP (IX Ar rfl (Ig (pv 0)) (JX rfl (IE (Hb (i:=2) L7.nd rfl (Or.inl rfl)) (IE (Hb (i:=3) L7.nd rfl (Or.inl rfl)) JZ)))
   (HN (QN hu (pv 1) (pv 2) (HV JW (Vc hu (pv 1) (pv 2) HR ⟨rfl,rfl,rfl,rfl⟩) (pv 3)) rfl)))
  (HN (Hs (JO (N':=oR) (src:=[none,some 1]) rfl (Ig (XM rfl h8 rfl ms (Ge (pv 1) Gq)))
   (I0 (HW N9) pS (by decide +kernel))
   (λb=>Hb (i:=0) Wr rfl (Or.inl rfl))
   (λb=>Pq (ID S8 (N1 hu (pv 1) (pv 0) (λ_ _=>rfl)) HR (IA _)))
   (λb=>Hz (Ge (pv 0) (Ge (N1 hu (pv 1) (pv 0) (λ_ _=>rfl)) Gq))))))),?_⟩
 intro d hd
 obtain⟨vs,eL,iL⟩:=hL
 have lv:=AL iL
 have s0:Gf H (Gi H d (.dT [])):=HH hd _
 refine⟨_,rfl,a,rfl,⟨vs,HK.of (s0 _ _ eL)⟩,?_⟩
 refine Jd (xs:=vs) (λi σ H'=>(∃c2 c3,σ=[some (.ref a),some (.ref d),c2,c3])/\H' d=some (.dT (II (Hu (ts.take i))))/\Gf H H') ?_ ?_ ?_ ?_
 ·exact⟨⟨_,_,rfl⟩,Gu,s0⟩
 ·rintro i σ H1 _ ⟨_,_,s1⟩
  exact HK.of (s1 _ _ eL)
 ·rintro i x σ H1 hx ⟨⟨c2,c3,rfl⟩,h1,s1⟩
  obtain⟨t,ht,hi⟩:=Im iL hx
  obtain⟨p,k,rfl,hp,hk⟩:=Jf hi
  have hk1:=s1 _ _ hk
  refine⟨p,_,rfl,HL.of (s1 _ _ hp),rfl,_,_,rfl,_,_,rfl,rfl,?_⟩
  have g:=IR.t (k:=t.1.map Sum.inl) h1 (by rw[J7];exact hk1)
  rw[Ng]at g
  refine⟨_,rfl,d,rfl,.inr ⟨_,.inl h1⟩,_,rfl,_,g,_,rfl,(IU (Hu (ts.take i)) t.1).getD 0,t.2,?_,rfl,_,rfl,_,rfl,d,_,rfl,Ix.t (k:=t.1.map Sum.inl) h1 (by rw[J7];exact hk1) ?_,?_⟩
  ·cases IU (Hu (ts.take i)) t.1<;>rfl
  ·rw[Qn]
   have:=ON (ts.take i)
   rw[Ah]at this
   exact Kl (by lia)
  ·refine⟨⟨_,_,rfl⟩,?_,λb o e=>?_⟩
   ·rw[JF ht,NG,<-V9]
    exact Gu
   ·rw[Ha (Iv e hd)]
    exact s1 b o e
 ·rintro σ H1 ⟨⟨c2,c3,rfl⟩,h1,s1⟩
  rw[Af (by lia)]at h1
  refine⟨_,rfl,d,Hu ts,rfl,.inl h1,λp vs' ks hp pm so it=>?_⟩
  have s2:Gf H1 (Gi H1 p (.lst vs')):=HH hp _
  refine⟨p,rfl,⟨_,HK.of Gu⟩,λb D hD=>?_⟩
  have lk:=AL it
  have ln:vs'.length<=100000:=by
   have:=pm.length_eq
   rw[AB]at this
   have:=ON ts
   lia
  refine LF (α:=Gb) hD (HK.of Gu) (λσ=>∃c,σ=[c,some (.ref d)]) (λi=>(ks[i]?).bind λk=>if (IU (Hu ts) k).getD 0≠0 then some (k,(IU (Hu ts) k).getD 0) else none) (small ln) ⟨_,rfl⟩ ?_ ?_
  ·rintro i x σ H2 Yes No hx ⟨c,rfl⟩ s3 yes no
   obtain⟨k,hk,hi⟩:=Im it hx
   obtain⟨pk,rfl,hpk⟩:=JE hi
   have hpk3:=s3 _ _ (s2 _ _ hpk)
   have hd3:=s3 _ _ (s2 _ _ h1)
   obtain⟨n,hn⟩:=gI (pm.mem_iff.mp (Ad hk))
   have g:=IR.t (k:=k.map Sum.inl) hd3 (by rw[J7];exact hpk3)
   rw[Ng,hn]at g
   refine⟨_,rfl,_,rfl,d,.int n,rfl,g,rfl,_,rfl,?_⟩
   by_cases c0:n=0
   ·subst c0
    refine KW ?_
    exact no _ _ ⟨_,rfl⟩ (Gf.refl _) (by rw[hk,Co,hn,AE (by simp)])
   ·have e0:(!decide (V.int n=V.int 0))=true:=by
     rw[AN (λz=>c0 (by injection z))]
     rfl
    rw[e0]
    refine Jr ⟨_,rfl,_,rfl,_,rfl,d,.int n,rfl,g,IV,λr hr=>?_⟩
    exact yes _ _ _ (k,n) ⟨_,rfl⟩ (HH hr _) (by rw[hk,Co,hn,AH (by simpa using c0)];rfl) (JY Gu (HH hr _ _ _ hpk3))
  ·intro H2 s3 hL
   refine q D H2 (s1.free (s2.free hD)) (s1.trans (s2.trans s3)) ?_
   have e:=Qe pm so
   rw[<-VB,<-KC,<-lk]at e
   rw[<-e]
   exact hL
def NZ:Sp:=λvs H Q _=>∃(a b:Addr)(S T:List Gb),vs=[.ref a,.ref b]/\Gh H a S/\Gh H b T/\S.length*T.length<=10000/\(∀t∈S,t.1.length<=100/\t.2.natAbs<2^100000)/\(∀t∈T,t.1.length<=100/\t.2.natAbs<2^100000)/\∀(l:Addr)(H':Hp),H l=none->Gf H H'->Gh H' l (norm (JD Iz S T))->Q (.ref l) H'
abbrev rO:List Str:=["one", "other", "terms", "row", "number", "more", "often"]
theorem Kh:Gj rO ["one", "other"] (HW Wy):=Hx
theorem Kc{H H':Hp}{l:Addr}(h:H l=none)(e:Gf H H')(o:HO):Gf H (Gi H' l o):=λb u q=>by rw[Ha (Iv q h)];exact e b u q
theorem ML{H:Hp}{l:Addr}{xs:List V}(h:H l=some (.lst xs))(o:HO):HZ H (Gi H l o):=λp ys q=>by
 rw[Ha (KL q h (by intro z;cases z))];exact q
theorem Xe(d:List Int->List Int)(S T:List Gb)(t:Gb):JD d (S++[t]) T=JD d S T++T.map λu=>(d (t.1++u.1),t.2*u.2):=by
 unfold JD
 rw[Bu,B9]
theorem Rj(d:List Int->List Int)(T:List Gb):∀S:List Gb,(JD d S T).length=S.length*T.length
 |[]=>by simp [JD]
 |t::S=>by
  have:=Rj d T S
  unfold JD at this ⊢
  rw[BZ,AI,AB,this,Ai,DC]
  lia
theorem jF(F:Hg K "joined" "joined" Wy f fd)(GG:Hd P w K mg base 2 "gathered" ["terms"] U4)(mt:mg "tuple" = none)(ms:mg "sorted" = none):Gw P w K mg base Hk 3 f fd ["one", "other"] NZ:=by
 refine IJ F Kh λHQ A outer s H vs Q E hr h=>?_
 obtain⟨a,b,S,T,rfl,⟨vs,eA,iA⟩,⟨ws,eB,iB⟩,hl,hS,hT,q⟩:=h
 have h8:=Pb hr
 refine⟨_,HP (Hi (i:=2) Kh.nd rfl (Or.inl rfl) (Hy Gq))
  (HP (IX Ar rfl (Ig (pv 0)) (JX rfl (IE (Hb (i:=3) Kh.nd rfl (Or.inl rfl)) (IE (Hb (i:=4) Kh.nd rfl (Or.inl rfl)) JZ)))
   (HN (IX Ar rfl (Ig (pv 1)) (JX rfl (IE (Hb (i:=5) Kh.nd rfl (Or.inl rfl)) (IE (Hb (i:=6) Kh.nd rfl (Or.inl rfl)) JZ)))
    (HN (IZ (Lc BQ BV BW Lu (pv 2) (Ge (Hz (Ge (Mh Pj rfl mt CJ (Ge (aZ rfl h8 rfl ms (Ge (HV L3 (pv 3) (pv 5)) Gq)) Gq)) (Ge (HV Nk (pv 4) (pv 6)) Gq))) Gq)))))))
  (HN (Hs (Hq GG hr rfl (Ge (pv 2) Gq))))),?_⟩
 have lA:=AL iA
 have lB:=AL iB
 refine⟨Ik,λl hl0=>?_⟩
 have s0:=HH hl0 (.lst [])
 refine⟨_,rfl,a,rfl,⟨vs,HK.of (s0 _ _ eA)⟩,?_⟩
 refine Jd (xs:=vs) (λi σ H'=>(∃c3 c4 c5 c6,σ=[some (.ref a),some (.ref b),some (.ref l),c3,c4,c5,c6])/\Gh H' l (JD Iz (S.take i) T)/\Gf H H') ?_ ?_ ?_ ?_
 ·exact⟨⟨_,_,_,_,rfl⟩,⟨[],Gu,.nil⟩,s0⟩
 ·rintro i σ H1 _ ⟨_,_,s1⟩
  exact HK.of (s1 _ _ eA)
 ·rintro i x σ H1 hx ⟨⟨c3,c4,c5,c6,rfl⟩,hW,s1⟩
  obtain⟨t,ht,hi⟩:=Im iA hx
  obtain⟨p,kk,rfl,hp,hkk⟩:=Jf hi
  have li:i<S.length:=(Ab.mp ht).1
  have tb:=hS t (Ad ht)
  refine⟨p,_,rfl,HL.of (s1 _ _ hp),rfl,_,_,rfl,_,_,rfl,rfl,?_⟩
  refine⟨_,rfl,b,rfl,⟨ws,HK.of (s1 _ _ eB)⟩,?_⟩
  rw[JF ht,Xe]
  have jl:=Rj Iz T (S.take i)
  have jm:(S.take i).length*T.length+T.length<=10000:=by
   have:((S.take i).length+1)*T.length<=S.length*T.length:=ES _ (by rw[Ah];lia)
   rw[DC]at this
   lia
  generalize JD Iz (S.take i) T=pre at hW jl
  refine Jd (xs:=ws) (λj σ H'=>(∃c5 c6,σ=[some (.ref a),some (.ref b),some (.ref l),some (.ref kk),some (.int t.2),c5,c6])/\Gh H' l (pre++(T.take j).map λu=>(Iz (t.1++u.1),t.2*u.2))/\Gf H H') ?_ ?_ ?_ ?_
  ·refine⟨⟨_,_,rfl⟩,?_,s1⟩
   rw[DV,Dr,BN]
   exact hW
  ·rintro j σ H2 _ ⟨_,_,s2⟩
   exact HK.of (s2 _ _ eB)
  ·rintro j y σ H2 hy ⟨⟨c5,c6,rfl⟩,⟨us,eU,iU⟩,s2⟩
   obtain⟨u,hu,hi2⟩:=Im iB hy
   obtain⟨p2,k2,rfl,hp2,hk2⟩:=Jf hi2
   have ub:=hT u (Ad hu)
   have lu:=AL iU
   have lj:j<T.length:=(Ab.mp hu).1
   refine⟨p2,_,rfl,HL.of (s2 _ _ hp2),rfl,_,_,rfl,_,_,rfl,rfl,?_⟩
   refine⟨_,rfl,.inl ⟨rfl,_,HK.of eU⟩,?_⟩
   refine⟨_,rfl,_,rfl,?_⟩
   refine Mr (r:=t.1) (r':=u.1) (s2 _ _ hkk) (s2 _ _ hk2) (small (by lia)) λt3 H3 s3 h3=>?_
   refine⟨t3,t.1++u.1,rfl,HL.of h3,λp4 m h4 pm so=>?_⟩
   rw[Yd pm so]
   have s4:=HH h4 (.lst ((Iz (t.1++u.1)).map V.int))
   refine⟨p4,_,rfl,.inl ⟨HK.of Gu,λt5 h5=>?_⟩⟩
   have s5:=HH h5 (.tup ((Iz (t.1++u.1)).map V.int))
   refine⟨_,rfl,_,rfl,_,_,rfl,rfl,⟨tb.2,ub.2⟩,IV,λp6 h6=>?_⟩
   have s6:=HH h6 (.tup [.ref t5,.int (t.2*u.2)])
   have all:=s3.trans (s4.trans (s5.trans s6))
   have eU6:=all _ _ eU
   refine⟨l,us,_,rfl,rfl,eU6,Kl (by rw[AI,AB,Ah]at lu;lia),⟨_,_,rfl⟩,⟨us++[.ref p6],Gu,?_⟩,Kc hl0 (s2.trans all) _⟩
   rw[JF hu,Au,<-Ac]
   exact Paired.app (Hc.mono ((HZ.same all).trans (ML eU6 _)) iU) (.cons (Dat.mono (ML eU6 _) (JY (t:=(Iz (t.1++u.1),t.2*u.2)) Gu (s6 _ _ Gu))) .nil)
  ·rintro σ H2 ⟨⟨c5,c6,rfl⟩,h2,s2⟩
   rw[Af (by lia)]at h2
   exact⟨⟨_,_,_,_,rfl⟩,h2,s2⟩
 ·rintro σ H1 ⟨⟨c3,c4,c5,c6,rfl⟩,hL,s1⟩
  rw[Af (by lia)]at hL
  have jl:=Rj Iz T S
  exact⟨_,rfl,l,_,rfl,hL,by lia,λl3 H2 hl3 s2 h2=>q l3 H2 (s1.free hl3) (s1.trans s2) h2⟩
end
section
variable{P:Program}{w:World}{K:W.Frag}{mg:Str->Option Value}{base:Heap}{f g:Addr}{fd gd:FuncData}
theorem W1:Gj LV LV (HW N2):=Hx
def TR:Sp:=λvs H Q _=>∃(a b:Addr)(S T:List Gb),vs=[.ref a,.ref b]/\Gh H a S/\Gh H b T/\S.length+T.length<=100000/\∀(l:Addr)(H':Hp),H l=none->Gf H H'->Gh H' l (norm (S++T))->Q (.ref l) H'
theorem Q9(F:Hg K "plus" "plus" N2 f fd)(GG:Hd P w K mg base 2 "gathered" ["terms"] U4):Gw P w K mg base Hk 3 f fd LV TR:=by
 refine IJ F W1 λHQ A outer s H vs Q E hr h=>?_
 obtain⟨a,b,ts,us,rfl,⟨vs,eA,iA⟩,⟨ws,eB,iB⟩,HX,q⟩:=h
 refine⟨_,HN (Hs (Hq GG hr rfl (Ge (HV Lm (pv 0) (pv 1)) Gq))),?_⟩
 have la:=AL iA
 have lb:=AL iB
 refine⟨_,rfl,_,rfl,a,b,vs,ws,rfl,rfl,eA,eB,small (by lia),λp hp=>?_⟩
 have s1:=HH hp (.lst (vs++ws))
 refine⟨p,ts++us,rfl,⟨_,Gu,Paired.app (Hc.mono (HZ.same s1) iA) (Hc.mono (HZ.same s1) iB)⟩,by rw[AI];exact HX,λl H' hl s2 h2=>?_⟩
 exact q l H' (s1.free hl) (s1.trans s2) h2
abbrev J9(H:Hp)(vs:List V)(Ps:List (List Gb)):Prop:=Paired (λv T=>∃b,v=.ref b/\Gh H b T) vs Ps
theorem J9.mono{H H':Hp}{vs:List V}{Ps:List (List Gb)}(s:Gf H H')(h:J9 H vs Ps):J9 H' vs Ps:=DS (λ_ _ q=>let ⟨b,e,hb⟩:=q;⟨b,e,hb.mono s⟩) h
def PX(k:Nat):Int:=if (k:Int)%2=1 then 1 else -1
def Ju(Ps:List (List Gb)):Nat->List Gb
 |0=>[]
 |k+1=>norm (Ju Ps k++norm (JD Iz [([((k+1:Nat):Int)],PX (k+1))] (Ps.getD (Ps.length-(k+1)) [])))
def NY(T:List Gb):Bool:=decide (T.length<=100)&&T.all λt=>decide (t.1.length<=100)&&decide (t.2.natAbs<2^64)
def LU(Ps:List (List Gb)):Bool:=decide (Ps.length<=8)&&Ps.all NY&&(List.range (Ps.length+1)).all λk=>NY (Ju Ps k)
theorem WB{T:List Gb}(h:NY T=true):T.length<=100/\∀t∈T,t.1.length<=100/\t.2.natAbs<2^100000:=by
 unfold NY at h
 rw[AM,AZ,Aj]at h
 refine⟨h.1,λt ht=>?_⟩
 have:=h.2 t ht
 rw[AM,AZ,AZ]at this
 exact⟨this.1,Ds this.2 (Cg (by decide) (by decide))⟩
abbrev rS:List Str:=["lesser", "total", "number", "sign"]
theorem LP:Gj rS ["lesser"] (HW Xh):=Hx
def Oc:Sp:=λvs H Q _=>∃(a:Addr)(us:List V)(Ps:List (List Gb)),vs=[.ref a]/\H a=some (.lst us)/\J9 H us Ps/\LU Ps=true/\∀(l:Addr)(H':Hp),H l=none->Gf H H'->Gh H' l (Ju Ps Ps.length)->Q (.ref l) H'
theorem mW{us:List V}{k:Nat}(h:k<us.length):Jn us (-((k:Int)+1))=us[us.length-(k+1)]?:=by
 unfold Jn Lr
 rw[AE (by lia)]
 rw[AH (by lia)]
 rw[Co]
 congr 1
 lia
theorem jS(F:Hg K "alternating" "alternating" Xh f fd)(GP:Hd P w K mg base 3 "plus" LV TR)(GJ:Hd P w K mg base 3 "joined" ["one", "other"] NZ)(mr:mg "range" = none)(mn:mg "len" = none):Gw P w K mg base Hk 4 f fd ["lesser"] Oc:=by
 refine IJ F LP λHQ A outer s H vs Q E hr h=>?_
 obtain⟨a,us,Ps,rfl,ha,hT,hB,q⟩:=h
 refine⟨_,HP (Hi (i:=1) LP.nd rfl (Or.inl rfl) (Hy Gq))
  (HP (IX Ar rfl (VX rfl mr (Ge HR (Ge (HV JW (IT K6 rfl mn B2 (Ge (pv 0) Gq)) HR) Gq))) (Hb (i:=2) LP.nd rfl (Or.inl rfl))
   (HP (Hi (i:=3) LP.nd rfl (Or.inl rfl) (aL (ID MP (HV KM (pv 2) HR) HR (IA _)) HR (Na Nb HR)))
   (HN (Hi (i:=1) LP.nd rfl (Or.inl rfl) (Hq GP hr rfl (Ge (pv 1) (Ge (Hq GJ hr rfl (Ge (Hy (Ge (Hz (Ge (Hz (Ge (pv 2) Gq)) (Ge (pv 3) Gq))) Gq)) (Ge (JH KU (pv 0) (Na Nb (pv 2)) (λ_ _=>rfl)) Gq))) Gq)))))))
  (HN (Hs (pv 1)))),?_⟩
 unfold LU at hB
 rw[AM,AM,AZ,Aj,Aj]at hB
 obtain⟨⟨l8,hP⟩,hK⟩:=hB
 have lu:=AL hT
 refine⟨Ik,λl0 hl0=>?_⟩
 have s0:=HH hl0 (.lst [])
 refine⟨_,rfl,a,_,rfl,.inl (HK.of (s0 _ _ ha)),_,_,rfl,rfl,1,_,rfl,⟨by lia,by lia,by lia,by lia⟩,?_⟩
 refine ME (lo:=1) (n:=((us.length:Int)+1-1).toNat) (λk σ H'=>(∃(l:Addr)(c2 c3:Option V),σ=[some (.ref a),some (.ref l),c2,c3]/\Gh H' l (Ju Ps k)/\H l=none)/\Gf H H') ?_ ?_ ?_
 ·exact⟨⟨l0,_,_,rfl,⟨[],Gu,.nil⟩,hl0⟩,s0⟩
 ·rintro k σ H1 hk ⟨⟨l,c2,c3,rfl,hL,fl⟩,s1⟩
  have kl:k<us.length:=by lia
  obtain⟨Pk,hPk,b,hb',hb⟩:∃Pk,Pk=Ps.getD (Ps.length-(k+1)) []/\∃b,us[us.length-(k+1)]?=some (.ref b)/\Gh H b Pk:=by
   obtain⟨T,hT',b,eb,hb⟩:=Paired.get hT (AW (show us.length-(k+1)<us.length by lia))
   refine⟨T,?_,b,by rw[AW (show us.length-(k+1)<us.length by lia),eb],hb⟩
   rw[<-lu,Av,hT']
   rfl
  have pm:Pk∈Ps:=by
   rw[hPk,Av,AW (show Ps.length-(k+1)<Ps.length by lia)]
   exact Da _
  obtain⟨b1,b2⟩:=WB (hP Pk pm)
  obtain⟨a1,a2⟩:=WB (hK k (At.mpr (by lia)))
  have at1:Jn us (-(1+(k:Int)))=some (.ref b):=by
   rw[show -(1+(k:Int))=-((k:Int)+1) by lia,mW kl]
   exact hb'
  have par:(1+(k:Int))%2=1/\PX (k+1)=1∨¬ (1+(k:Int))%2=1/\PX (k+1)=-1:=by
   unfold PX
   rw[show((k+1:Nat):Int)=1+(k:Int) by lia]
   by_cases c:(1+(k:Int))%2=1
   ·exact .inl ⟨c,AH c⟩
   ·exact .inr ⟨c,AE c⟩
  refine⟨_,rfl,_,_,rfl,rfl,(by show(0:Int)<2;decide),rfl,_,rfl,?_⟩
  rcases par with⟨c1,e1⟩|⟨c1,e1⟩
  ·refine Jt (show V.int ((1+(k:Int))%2)=V.int 1 by rw[c1]) ?_
   refine⟨_,rfl,_,rfl,IH,λt1 h1=>⟨_,rfl,IV,λt2 h2=>⟨IH,λl3 h3=>?_⟩⟩⟩
   have z1:=HH h1 (.tup [.int (1+(k:Int))])
   have z2:=HH h2 (.tup [.ref t1,.int (1)])
   have z3:=HH h3 (.lst [.ref t2])
   have z:=z1.trans (z2.trans z3)
   have sz:=s1.trans z
   refine⟨_,rfl,_,rfl,_,rfl,a,us,_,.ref b,rfl,rfl,HK.of (sz _ _ ha),at1,?_⟩
   refine⟨l3,b,[([1+(k:Int)],1)],Pk,rfl,⟨[.ref t2],Gu,.cons (JY (t:=([1+(k:Int)],1)) (z3 _ _ Gu) (z3 _ _ (z2 _ _ Gu))) .nil⟩,hb.mono sz,by show 1*_<=10000;lia,λt ht=>by rw[AS.mp ht];exact⟨by show 1<=100;decide,by show(1:Int).natAbs<_;exact Ds (show(1:Int).natAbs<2^64 by decide) (Cg (by decide) (by decide))⟩,b2,λl4 H4 hl4 s4 h4=>?_⟩
   have jl:=Rj Iz Pk [([1+(k:Int)],1)]
   have nl:=NF (JD Iz [([1+(k:Int)],1)] Pk)
   have j1:[([1+(k:Int)],(1:Int))].length=1:=rfl
   rw[j1,Nat.one_mul]at jl
   refine⟨l,l4,Ju Ps k,_,rfl,hL.mono (z.trans s4),h4,by lia,λl5 H5 hl5 s5 h5=>?_⟩
   refine⟨⟨l5,_,_,rfl,?_,(sz.trans s4).free hl5⟩,(sz.trans s4).trans s5⟩
   show Gh H5 l5 (norm (Ju Ps k++norm (JD Iz [([((k+1:Nat):Int)],PX (k+1))] (Ps.getD (Ps.length-(k+1)) []))))
   rw[e1,<-hPk,show((k+1:Nat):Int)=1+(k:Int) by lia]
   exact h5
  ·refine Ij (λz=>c1 (by injection z)) ⟨_,rfl,?_⟩
   refine⟨_,rfl,_,rfl,IH,λt1 h1=>⟨_,rfl,IV,λt2 h2=>⟨IH,λl3 h3=>?_⟩⟩⟩
   have z1:=HH h1 (.tup [.int (1+(k:Int))])
   have z2:=HH h2 (.tup [.ref t1,.int (-1)])
   have z3:=HH h3 (.lst [.ref t2])
   have z:=z1.trans (z2.trans z3)
   have sz:=s1.trans z
   refine⟨_,rfl,_,rfl,_,rfl,a,us,_,.ref b,rfl,rfl,HK.of (sz _ _ ha),at1,?_⟩
   refine⟨l3,b,[([1+(k:Int)],-1)],Pk,rfl,⟨[.ref t2],Gu,.cons (JY (t:=([1+(k:Int)],-1)) (z3 _ _ Gu) (z3 _ _ (z2 _ _ Gu))) .nil⟩,hb.mono sz,by show 1*_<=10000;lia,λt ht=>by rw[AS.mp ht];exact⟨by show 1<=100;decide,by show(-1:Int).natAbs<_;exact Ds (show(-1:Int).natAbs<2^64 by decide) (Cg (by decide) (by decide))⟩,b2,λl4 H4 hl4 s4 h4=>?_⟩
   have jl:=Rj Iz Pk [([1+(k:Int)],-1)]
   have nl:=NF (JD Iz [([1+(k:Int)],-1)] Pk)
   have j1:[([1+(k:Int)],(-1:Int))].length=1:=rfl
   rw[j1,Nat.one_mul]at jl
   refine⟨l,l4,Ju Ps k,_,rfl,hL.mono (z.trans s4),h4,by lia,λl5 H5 hl5 s5 h5=>?_⟩
   refine⟨⟨l5,_,_,rfl,?_,(sz.trans s4).free hl5⟩,(sz.trans s4).trans s5⟩
   show Gh H5 l5 (norm (Ju Ps k++norm (JD Iz [([((k+1:Nat):Int)],PX (k+1))] (Ps.getD (Ps.length-(k+1)) []))))
   rw[e1,<-hPk,show((k+1:Nat):Int)=1+(k:Int) by lia]
   exact h5
 ·rintro σ H1 ⟨⟨l,c2,c3,rfl,hL,fl⟩,s1⟩
  rw[show((us.length:Int)+1-1).toNat=Ps.length by lia]at hL
  exact⟨_,rfl,q l _ fl s1 hL⟩
end
section
variable{P:Program}{w:World}{K:W.Frag}{mg:Str->Option Value}{base:Heap}{f g:Addr}{fd gd:FuncData}
def JQ:Nat->List (List Gb)
 |0=>[[([],1)]]
 |k+1=>JQ k++[Ju (JQ k) (JQ k).length]
theorem UV:∀k,(JQ k).length=k+1
 |0=>rfl
 |k+1=>by
  show(JQ k++[Ju (JQ k) (JQ k).length]).length=_
  rw[AI,UV k]
  rfl
theorem lZ:∀k∈List.range 5,LU (JQ k)=true:=by decide +kernel
theorem V4{H:Hp}{b p:Addr}{T:List Gb}{xs:List V}(nb:b≠p)(hp:H p=some (.lst xs))(o:HO)(h:Gh H b T):Gh (Gi H p o) b T:=by
 obtain⟨vs,e,i⟩:=h
 exact⟨vs,by rw[Ha nb];exact e,Hc.mono (ML hp o) i⟩
theorem UJ:Gj ["many", "parts"] ["many"] (HW XG):=Hx
def TB:Sp:=λvs H Q _=>∃n:Nat,vs=[.int n]/\n<=4/\∀(a:Addr)(us:List V)(H':Hp),H a=none->Gf H H'->H' a=some (.lst us)->J9 H' us (JQ n)->Q (.ref a) H'
theorem cU(F:Hg K "elementaries_by_whole" "elementaries_by_whole" XG f fd)(GA:Hd P w K mg base 4 "alternating" ["lesser"] Oc)(mn:mg "len" = none):Gw P w K mg base Hk 5 f fd ["many"] TB:=by
 refine IJ F UJ λHQ A outer s H vs Q E hr h=>?_
 obtain⟨n,rfl,n4,q⟩:=h
 refine⟨_,HP (Hi (i:=1) UJ.nd rfl (Or.inl rfl) (Hy (Ge (Hy (Ge (Hz (Ge (Hz Gq) (Ge HR Gq))) Gq)) Gq)))
  (HP (WW Ar (ID Q6 (IT K6 rfl mn B2 (Ge (pv 1) Gq)) (pv 0) (IA _))
   (HN (IZ (Lc BQ BV BW Lu (pv 1) (Ge (Hq GA hr rfl (Ge (pv 1) Gq)) Gq)))))
  (HN (Hs (pv 1)))),?_⟩
 refine⟨Ik,λt0 h0=>⟨IV,λt1 h1=>⟨IH,λl2 h2=>⟨IH,λp hp=>?_⟩⟩⟩⟩
 have s0:=HH h0 (.tup [])
 have s1:=HH h1 (.tup [.ref t0,.int 1])
 have s2:=HH h2 (.lst [.ref t1])
 have s3:=HH hp (.lst [.ref l2])
 have z:=s0.trans (s1.trans (s2.trans s3))
 have np:l2≠p:=λe=>by rw[<-e,Gu]at hp;cases hp
 have fp:H p=none:=s0.free (s1.free (s2.free hp))
 refine⟨λm σ H'=>∃(k:Nat)(us:List V),m=n+1-k/\k<=n/\σ=[some (.int n),some (.ref p)]/\H' p=some (.lst us)/\Paired (λv T=>∃b,v=.ref b/\b≠p/\Gh H' b T) us (JQ k)/\Gf H H',⟨n+1,0,[.ref l2],rfl,by lia,rfl,Gu,.cons ⟨l2,rfl,np,s3 _ _ Gu |> λe=>⟨[.ref t1],e,.cons (JY (t:=([],1)) (s3 _ _ (s2 _ _ Gu)) (s3 _ _ (s2 _ _ (s1 _ _ Gu)))) .nil⟩⟩ .nil,z⟩,?_⟩
 rintro m σ H1 ⟨k,us,rfl,kn,rfl,h1',hT,sH⟩
 have lu:=AL hT
 rw[UV]at lu
 refine⟨_,rfl,p,_,rfl,.inl (HK.of h1'),_,rfl,_,_,rfl,rfl,_,rfl,?_⟩
 by_cases c:((us.length:Int))<=(n:Int)
 ·refine Jt c ⟨λσ' H'=>∃us',σ'=[some (.int n),some (.ref p)]/\H' p=some (.lst us')/\Paired (λv T=>∃b,v=.ref b/\b≠p/\Gh H' b T) us' (JQ (k+1))/\Gf H H',λσ' H' ⟨us',e1,e2,e3,e4⟩=>⟨n+1-(k+1),by lia,k+1,us',rfl,by lia,e1,e2,e3,e4⟩,?_⟩
  refine⟨_,rfl,.inl ⟨rfl,_,HK.of h1'⟩,_,rfl,p,us,JQ k,rfl,h1',DS (λ_ _ q=>let ⟨b,e,_,hb⟩:=q;⟨b,e,hb⟩) hT,lZ k (At.mpr (by lia)),λl H2 hl s4 hL=>?_⟩
  have h2p:=s4 _ _ h1'
  have nl:l≠p:=λe=>by rw[e,h1']at hl;cases hl
  refine⟨p,us,_,rfl,rfl,h2p,Kl (by lia),us++[.ref l],rfl,Gu,?_,Kc fp (sH.trans s4) _⟩
  show Paired _ _ (JQ k++[Ju (JQ k) (JQ k).length])
  refine Paired.app (DS (λv T q=>?_) hT) (.cons ?_ .nil)
  ·obtain⟨b,e,nb,hb⟩:=q
   exact⟨b,e,nb,V4 nb h2p _ (hb.mono s4)⟩
  ·exact⟨l,rfl,nl,V4 nl h2p _ hL⟩
 ·refine Ij c ?_
  have:k=n:=by lia
  subst this
  exact⟨_,rfl,q p us _ fp sH h1' (DS (λ_ _ q=>let ⟨b,e,_,hb⟩:=q;⟨b,e,hb⟩) hT)⟩
end
section
variable{P:Program}{w:World}{K:W.Frag}{mg:Str->Option Value}{base:Heap}{f g:Addr}{fd gd:FuncData}
theorem jO(c:Int)(p:Pw):∀a:List Gb,cf (scl c a) p=c*cf a p
 |[]=>by simp [scl,cf]
 |t::r=>by
  have:=jO c p r
  unfold scl at this ⊢
  rw[Ae]
  show(if t.1=p then c*t.2 else 0)+cf _ p=c*((if t.1=p then t.2 else 0)+cf r p)
  rw[this,Fg]
  split
  ·rfl
  ·rw[Int.mul_zero]
theorem YZ{c:Int}(h:c≠0){a:List Gb}(k:HS a):HS (scl c a):=by
 refine⟨?_,λt ht=>?_⟩
 ·have:=k.ord
  unfold scl
  rw[Bw]
  exact this
 ·obtain⟨u,hu,rfl⟩:=AV.mp ht
  exact Int.mul_ne_zero h (k.num u hu)
theorem oM{c:Int}(h:c≠0)(a:List Gb):norm (scl c a)=scl c (norm a):=V3 (JI _) (YZ h (JI a)) λp=>by rw[Jo,jO,jO,Jo]
theorem Qp(d:List Int->List Int)(c:Int)(P:List Gb):∀S:List Gb,JD d (scl c S) P=scl c (JD d S P)
 |[]=>rfl
 |t::S=>by
  have:=Qp d c P S
  unfold JD scl at this ⊢
  rw[Ae,BZ,BZ,Au,this]
  congr 1
  rw[C1]
  refine Cn λu _=>?_
  show(_,c*t.2*u.2)=(_,c*(t.2*u.2))
  rw[Dd]
def Ib(Ps:List (List Gb))(r:List Int):List Gb:=r.foldl (λres k=>norm (JD Iz res (Ps.getD k.toNat []))) [([],1)]
theorem QJ(Ps:List (List Gb))(r:List Int)(k:Int):Ib Ps (r++[k])=norm (JD Iz (Ib Ps r) (Ps.getD k.toNat [])):=by
 unfold Ib
 rw[CB]
 rfl
def Oh(Ps:List (List Gb))(r:List Int):Bool:=decide (r.length<=8)&&r.all (λk=>decide (0<=k)&&decide (k<(Ps.length:Int)))&&(List.range (r.length+1)).all λj=>decide ((Ib Ps (r.take j)).length<=50)&&(Ib Ps (r.take j)).all λt=>decide (t.1.length<=50)&&decide (t.2.natAbs<2^64)
structure PB(Ps:List (List Gb))(r:List Int):Prop where
 l8:r.length<=8
 num:∀k∈r,0<=k/\k<(Ps.length:Int)
 few:∀j,j<=r.length->(Ib Ps (r.take j)).length<=50
 all:∀j,j<=r.length->∀t∈Ib Ps (r.take j),t.1.length<=50/\t.2.natAbs<2^64
theorem aK{Ps:List (List Gb)}{r:List Int}(h:Oh Ps r=true):PB Ps r:=by
 unfold Oh at h
 rw[AM,AM,AZ,Aj,Aj]at h
 obtain⟨⟨h1,h2⟩,h3⟩:=h
 have k3:∀j,j<=r.length->(Ib Ps (r.take j)).length<=50/\∀t∈Ib Ps (r.take j),t.1.length<=50/\t.2.natAbs<2^64:=λj hj=>by
  have:=h3 j (At.mpr (by lia))
  rw[AM,AZ,Aj]at this
  refine⟨this.1,λt ht=>?_⟩
  have:=this.2 t ht
  rw[AM,AZ,AZ]at this
  exact this
 refine⟨h1,λk hk=>?_,λj hj=>(k3 j hj).1,λj hj=>(k3 j hj).2⟩
 have:=h2 k hk
 rw[AM,AZ,AZ]at this
 exact this
theorem Zx{a b:Int}(ha:a.natAbs<2^20000)(hb:b.natAbs<2^64):(a*b).natAbs<2^100000:=by
 rw[Int.natAbs_mul]
 have h1:a.natAbs*b.natAbs<=2^20000*2^64:=Ec (Bf ha) (Bf hb)
 rw[<-EA]at h1
 exact BG h1 (Cg (by decide) (by decide))
def Mu(Ps:List (List Gb))(t:Gb):List Gb:=scl t.2 (Ib Ps t.1)
abbrev sG:List Str:=["telling", "parts", "terms", "row", "often", "result", "number"]
theorem Jy:Gj sG ["telling", "parts"] (HW jX):=Hx
def Nt:Sp:=λvs H Q _=>∃(a b:Addr)(T:List Gb)(us:List V)(Ps:List (List Gb)),vs=[.ref a,.ref b]/\Gh H a T/\H b=some (.lst us)/\J9 H us Ps/\T.length<=100/\(∀t∈T,Oh Ps t.1=true/\t.2≠0/\t.2.natAbs<2^20000)/\(∀P∈Ps,NY P=true)/\∀(l:Addr)(H':Hp),H l=none->Gf H H'->Gh H' l (norm (T.flatMap (Mu Ps)))->Q (.ref l) H'
theorem Vg(Ps:List (List Gb)):∀(T:List Gb),(∀t∈T,(Ib Ps t.1).length<=50)->(T.flatMap (Mu Ps)).length<=T.length*50
 |[],_=>by simp
 |t::T,h=>by
  have h1:=h t (AJ ..)
  have h2:=Vg Ps T λu hu=>h u (AK _ hu)
  rw[BZ,AI,Ai,DC]
  unfold Mu at h2 ⊢
  rw[Ly]
  lia
theorem XD(F:Hg K "put_in" "put_in" jX f fd)(GG:Hd P w K mg base 3 "gathered" ["terms"] U4)(GJ:Hd P w K mg base 3 "joined" ["one", "other"] NZ):Gw P w K mg base Hk 4 f fd ["telling", "parts"] Nt:=by
 refine IJ F Jy λHQ A outer s H vs Q E hr h=>?_
 obtain⟨a,b,T,us,Ps,rfl,⟨vs,eA,iA⟩,eB,hT,lT,bT,bP,q⟩:=h
 refine⟨_,HP (Hi (i:=2) Jy.nd rfl (Or.inl rfl) (Hy Gq))
  (HP (IX Ar rfl (Ig (pv 0)) (JX rfl (IE (Hb (i:=3) Jy.nd rfl (Or.inl rfl)) (IE (Hb (i:=4) Jy.nd rfl (Or.inl rfl)) JZ)))
   (HP (Hi (i:=5) Jy.nd rfl (Or.inl rfl) (Hy (Ge (Hz (Ge (Hz Gq) (Ge (pv 4) Gq))) Gq)))
   (HP (IX Ar rfl (O3 (pv 3)) (Hb (i:=6) Jy.nd rfl (Or.inl rfl))
    (HN (Hi (i:=5) Jy.nd rfl (Or.inl rfl) (Hq GJ hr rfl (Ge (pv 5) (Ge (JH KU (pv 1) (pv 6) (λ_ _=>rfl)) Gq))))))
   (HN (IZ (Lc BQ PySem.F.slot_list_extend PySem.F.type_list_extend nM (pv 2) (Ge (pv 5) Gq)))))))
  (HN (Hs (Hq GG hr rfl (Ge (pv 2) Gq))))),?_⟩
 have lA:=AL iA
 have lu:=AL hT
 have pr:∀t∈T,(Ib Ps t.1).length<=50:=λt ht=>by
  have:=(aK (bT t ht).1).few t.1.length (AG _)
  rwa [Af (AG _)]at this
 refine⟨Ik,λl hl0=>?_⟩
 have s0:=HH hl0 (.lst [])
 refine⟨_,rfl,a,rfl,⟨vs,HK.of (s0 _ _ eA)⟩,?_⟩
 refine Jd (xs:=vs) (λi σ H'=>(∃c3 c4 c5 c6,σ=[some (.ref a),some (.ref b),some (.ref l),c3,c4,c5,c6])/\Gh H' l ((T.take i).flatMap (Mu Ps))/\Gf H H') ?_ ?_ ?_ ?_
 ·exact⟨⟨_,_,_,_,rfl⟩,⟨[],Gu,.nil⟩,s0⟩
 ·rintro i σ H1 _ ⟨_,_,s1⟩
  exact HK.of (s1 _ _ eA)
 ·rintro i x σ H1 hx ⟨⟨c3,c4,c5,c6,rfl⟩,hW,s1⟩
  obtain⟨t,ht,hi⟩:=Im iA hx
  obtain⟨p,kk,rfl,hp,hkk⟩:=Jf hi
  have tm:=Ad ht
  obtain⟨t1,t2,t3⟩:=bT t tm
  have pb:=aK t1
  have fl:=Vg Ps (T.take i) λu hu=>pr u (B5 hu)
  rw[Ah]at fl
  refine⟨p,_,rfl,HL.of (s1 _ _ hp),rfl,_,_,rfl,_,_,rfl,rfl,?_⟩
  refine⟨Ik,λt0 h0=>⟨_,rfl,IV,λt4 h4=>⟨IH,λl3 h3=>?_⟩⟩⟩
  have z1:=HH h0 (.tup [])
  have z2:=HH h4 (.tup [.ref t0,.int t.2])
  have z3:=HH h3 (.lst [.ref t4])
  have z:=z1.trans (z2.trans z3)
  have hL3:Gh (Gi (Gi (Gi H1 t0 (.tup [])) t4 (.tup [.ref t0,.int t.2])) l3 (.lst [.ref t4])) l3 (scl t.2 [([],1)]):=⟨[.ref t4],Gu,.cons (JY (t:=([],t.2*1)) (by rw[FZ];exact z3 _ _ Gu) (z3 _ _ (z2 _ _ Gu))) .nil⟩
  have n3:l3≠l:=λe=>by
   obtain⟨ys,ey,_⟩:=hW.mono (z1.trans z2)
   rw[e,ey]at h3
   cases h3
  have hW3:=hW.mono z
  have s3:=s1.trans z
  show JA 5 (.ref l3) _ (Gi (Gi (Gi H1 t0 (.tup [])) t4 (.tup [.ref t0,.int t.2])) l3 (.lst [.ref t4])) _
  generalize Gi (Gi (Gi H1 t0 (.tup [])) t4 (.tup [.ref t0,.int t.2])) l3 (.lst [.ref t4])=H2 at *
  refine⟨_,rfl,kk,rfl,⟨_,HL.of (s3 _ _ hkk)⟩,?_⟩
  refine WK (xs:=t.1.map V.int) (λj σ H'=>(∃(lr:Addr)(c6:Option V),σ=[some (.ref a),some (.ref b),some (.ref l),some (.ref kk),some (.int t.2),some (.ref lr),c6]/\Gh H' lr (scl t.2 (Ib Ps (t.1.take j)))/\lr≠l)/\Gf H2 H') ?_ ?_ ?_ ?_
  ·exact⟨⟨l3,_,rfl,hL3,n3⟩,Gf.refl _⟩
  ·rintro j σ H3 _ ⟨_,s4⟩
   exact HL.of (s4 _ _ (s3 _ _ hkk))
  ·rintro j v σ H3 hv ⟨⟨lr,c6,rfl,hR,nr⟩,s4⟩
   obtain⟨k,hk,rfl⟩:∃k,t.1[j]?=some k/\V.int k=v:=by
    rw[Ag]at hv
    cases e:t.1[j]? with
    |none=>rw[e]at hv;cases hv
    |some y=>rw[e]at hv;exact⟨y,rfl,Al hv⟩
   have jl:j<t.1.length:=(Ab.mp hk).1
   obtain⟨k0,k1⟩:=pb.num k (Ad hk)
   obtain⟨m,rfl⟩:∃m:Nat,k=m:=⟨k.toNat,by lia⟩
   obtain⟨Pk,hPk,bk,ebk,hbk⟩:=Paired.get hT (AW (show m<us.length by lia))
   have s34:=s3.trans s4
   have gP:Ps.getD (m:Int).toNat []=Pk:=by
    rw[Aw,Av,hPk]
    rfl
   obtain⟨b1,b2⟩:=WB (bP Pk (Ad hPk))
   have fw:=pb.few j (by lia)
   have al:=pb.all j (by lia)
   have e1:norm (JD Iz (scl t.2 (Ib Ps (t.1.take j))) Pk)=scl t.2 (Ib Ps (t.1.take (j+1))):=by
    rw[Qp,oM t2,JF hk,QJ,gP]
   generalize Ib Ps (t.1.take j)=R at hR fw al e1
   refine⟨_,rfl,_,rfl,_,rfl,b,us,_,.ref bk,rfl,rfl,HK.of (s34 _ _ eB),LN (by rw[AW (show m<us.length by lia),ebk]),?_⟩
   refine⟨lr,bk,scl t.2 R,Pk,rfl,hR,hbk.mono s34,?_,λu hu=>?_,b2,λl5 H5 hl5 s5 h5=>?_⟩
   ·rw[Ly]
    have:=Ec fw b1
    lia
   ·obtain⟨y,hy,rfl⟩:=AV.mp hu
    obtain⟨y1,y2⟩:=al y hy
    exact⟨by show y.1.length<=100;lia,Zx t3 y2⟩
   ·rw[e1]at h5
    refine⟨⟨l5,_,rfl,h5,λe=>?_⟩,s4.trans s5⟩
    obtain⟨ys,ey,_⟩:=hW3.mono s4
    rw[e,ey]at hl5
    cases hl5
  ·rintro σ H3 ⟨⟨lr,c6,rfl,hR,nr⟩,s4⟩
   rw[AB,Af (AG _)]at hR
   obtain⟨xs,ex,ix⟩:=hW3.mono s4
   obtain⟨zs,ez,iz⟩:=hR
   have lx:=AL ix
   have lz:=AL iz
   rw[Ly]at lz
   have p50:=pr t tm
   refine⟨_,rfl,.inl ⟨rfl,_,HK.of ex⟩,_,rfl,l,lr,xs,zs,rfl,rfl,ex,ez,small (by lia),⟨_,_,_,_,rfl⟩,⟨xs++zs,Gu,?_⟩,Kc hl0 (s3.trans s4) _⟩
   rw[JF ht,Bu,B9]
   exact Paired.app (Hc.mono (ML ex _) ix) (Hc.mono (ML ex _) iz)
 ·rintro σ H1 ⟨⟨c3,c4,c5,c6,rfl⟩,hL,s1⟩
  rw[Af (by lia)]at hL
  have fl:=Vg Ps T pr
  exact⟨_,rfl,l,_,rfl,hL,by lia,λl3 H2 hl3 s2 h2=>q l3 H2 (s1.free hl3) (s1.trans s2) h2⟩
end
section
variable{P:Program}{w:World}{K:W.Frag}{mg:Str->Option Value}{base:Heap}{f g:Addr}{fd gd:FuncData}
def Lo(f:List Int->List (List Int))(l:List Int)(i:Nat):List (List Int):=if l.getD i 0∈l.take i then [] else (f (l.take i++l.drop (i+1))).map (l.getD i 0 :: ·)
def JR:Nat->List Int->List (List Int)
 |0,_=>[]
 |n+1,l=>if l=[] then [[]] else (List.range l.length).flatMap (Lo (JR n) l)
theorem iC(n:Nat):JR (n+1) []=[[]]:=by simp [JR]
theorem mQ(n:Nat)(l:List Int)(h:l≠[]):JR (n+1) l=(List.range l.length).flatMap (Lo (JR n) l):=by simp [JR,h]
theorem hG:∀(n:Nat)(l:List Int),∀r∈JR n l,r.length=l.length
 |0,_,r,h=>by simp [JR]at h
 |n+1,l,r,h=>by
  by_cases c:l=[]
  ·subst c
   rw[iC,AS]at h
   rw[h]
  ·rw[mQ n l c,BO]at h
   obtain⟨i,hi,h⟩:=h
   have hi:=At.mp hi
   unfold Lo at h
   split at h
   ·simp at h
   ·obtain⟨q,hq,rfl⟩:=AV.mp h
    have:=hG n _ q hq
    rw[AI,Ah,BH]at this
    rw[Ai]
    lia
def Li:Nat->Nat
 |0=>1
 |n+1=>(n+1)*Li n
theorem VG{α β:Type}(g:α->List β)(B:Nat):∀l:List α,(∀a∈l,(g a).length<=B)->(l.flatMap g).length<=l.length*B
 |[],_=>by simp
 |a::l,h=>by
  have h1:=h a (AJ ..)
  have h2:=VG g B l λb hb=>h b (AK _ hb)
  rw[BZ,AI,Ai,DC]
  lia
theorem Us:∀(n:Nat)(l:List Int),(JR n l).length<=Li l.length
 |0,l=>by simp [JR]
 |n+1,l=>by
  by_cases c:l=[]
  ·subst c
   rw[iC]
   exact AG _
  ·rw[mQ n l c]
   obtain⟨k,hk⟩:∃k,l.length=k+1:=⟨l.length-1,by have:=List.length_pos_iff.mpr c;lia⟩
   refine BE (VG _ (Li k) _ λi hi=>?_) ?_
   ·have hi:=At.mp hi
    unfold Lo
    split
    ·exact Az _
    ·rw[AB]
     have:=Us n (l.take i++l.drop (i+1))
     rwa [AI,Ah,BH,show min i l.length+(l.length-(i+1))=k by lia]at this
   ·rw[Bx,hk]
    exact AG _
theorem dU{α β:Type}(g:α->List β):∀{l:List α}{i:Nat}{a:α},l[i]?=some a->(l.take (i+1)).flatMap g=(l.take i).flatMap g++g a:=λ{l i a} h=>by
 rw[JF h,Bu,B9]
theorem aU{α β:Type}(g:α->List β)(l:List α)(i:Nat):((l.take i).flatMap g).length<=(l.flatMap g).length:=by
 have:l.flatMap g=(l.take i).flatMap g++(l.drop i).flatMap g:=by rw[<-Bu,Bm]
 rw[this,AI]
 lia
theorem iJ{r:List Int}{i:Nat}{v:V}(h:(r.map V.int)[i]?=some v):v=.int (r.getD i 0)/\i<r.length:=by
 rw[Ag]at h
 rw[Av]
 cases e:r[i]? with
 |none=>rw[e]at h;cases h
 |some c=>rw[e]at h;exact⟨(Al h).symm,(Ab.mp e).1⟩
abbrev rF:List Str:=["numbers", "found", "place", "number", "rest"]
theorem LH:Gj rF ["numbers"] (HW VM):=Hx
def O2(n:Nat):Sp:=λvs H Q _=>∃(p:Addr)(l:List Int),vs=[.ref p]/\H p=some (.tup (l.map V.int))/\l.length<n/\l.length<=4 /\
 ∀(a:Addr)(H':Hp),H a=none->Gf H H'->Gh H' a (JR n l)->Q (.ref a) H'
theorem jK{n:Nat}(F:Hg K "orders" "orders" VM f fd)(G:Gw P w K mg base Hk n f fd ["numbers"] (O2 n))(bF:Ho K fd ["numbers"] [])(mU:mg "orders" = some (.ref f))(me:mg "enumerate" = none) :
  Gw P w K mg base Hk (n+1) f fd ["numbers"] (O2 (n+1)):=by
 refine IJ F LH λHQ A outer s H vs Q E hr h=>?_
 obtain⟨p,l,rfl,hp,hn,h4,q⟩:=h
 have hI:=BG (Bt (by decide:Dat.dep Int+1<=64) _) hr.units
 refine⟨_,HP (Ia (ID (iP (α:=Int) hI) (pv 0) (Hz Gq) (IA _)) (HN (Hs (Hy (Ge (Hz Gq) Gq)))) Ip)
  (HP (Hi (i:=1) LH.nd rfl (Or.inl rfl) (Hy Gq))
  (HP (IX Ar rfl (YI .tup rfl me (Ge (pv 0) Gq)) (JX rfl (IE (Hb (i:=2) LH.nd rfl (Or.inl rfl)) (IE (Hb (i:=3) LH.nd rfl (Or.inl rfl)) JZ)))
   (HN (Ia (ID kL (pv 3) (Mz Oi (pv 0) My (NR (pv 2))) rfl)
    (HN (IX Ar rfl (Ig (NI G hr rfl mU F.kp bF .nil Mw (Ge (HV L3 (Mz Oi (pv 0) My (NR (pv 2))) (Mz Sg (pv 0) (NR (HV JW (pv 2) HR)) My)) Gq))) (Hb (i:=4) LH.nd rfl (Or.inl rfl))
     (HN (IZ (Lc BQ BV BW Lu (pv 1) (Ge (HV L3 (Hz (Ge (pv 3) Gq)) (pv 4)) Gq)))))) Ip)))
  (HN (Hs (pv 1))))),?_⟩
 refine⟨_,rfl,Ik,λt0 h0=>?_⟩
 have s0:=HH h0 (.tup [])
 refine⟨l,[],Jx (s0 _ _ hp),Jx Gu,_,rfl,?_⟩
 by_cases c:l=[]
 ·subst c
  rw[LD]
  refine Jr ?_
  refine⟨Ik,λt1 h1=>⟨IH,λa ha=>?_⟩⟩
  have s1:=HH h1 (.tup [])
  have s2:=HH ha (.lst [.ref t1])
  refine q a _ (s0.free (s1.free ha)) (s0.trans (s1.trans s2)) ⟨[.ref t1],Gu,?_⟩
  rw[iC]
  exact .cons (Jx (r:=[]) (s2 _ _ Gu)) .nil
 have ne:JG (Dat.eqb (α:=Int)) l []=false:=E4.mpr λz=>c ((UP Dat.eqb_iff _ _).mp z)
 rw[ne]
 refine KW ?_
 refine⟨Ik,λa ha=>?_⟩
 have s1:=s0.trans (HH ha (.lst []))
 have fa:H a=none:=s0.free ha
 have tot:=mQ n l c
 have tl:=Us (n+1) l
 have b4:Li l.length<=24:=by
  have:l.length=0∨l.length=1∨l.length=2∨l.length=3∨l.length=4:=by lia
  rcases this with e|e|e|e|e<;>rw[e]<;>decide
 rw[tot]at tl
 refine⟨_,rfl,p,rfl,⟨_,HL.of (s1 _ _ hp)⟩,?_⟩
 refine ZG (k:=.tup) (xs:=l.map V.int) (λi σ H'=>(∃c2 c3 c4,σ=[some (.ref p),some (.ref a),c2,c3,c4])/\Gf H H'/\Gh H' a (((List.range l.length).take i).flatMap (Lo (JR n) l))) ?_ ?_ ?_ ?_
 ·exact⟨⟨_,_,_,rfl⟩,s1,[],Gu,by simpa using Paired.nil⟩
 ·rintro i σ H1 ⟨_,sH,_⟩
  exact HL.of (sH _ _ hp)
 ·rintro i x t σ H1 hx ht ⟨⟨c2,c3,c4,rfl⟩,sH,hL⟩
  obtain⟨rfl,hi⟩:=iJ hx
  have s2:=HH ht (.tup [.int i,.int (l.getD i 0)])
  refine⟨t,_,rfl,HL.of Gu,rfl,_,_,rfl,_,_,rfl,rfl,?_⟩
  have hL:=hL.mono s2
  have sH:=sH.trans s2
  generalize Gi H1 t (.tup [.int i,.int (l.getD i 0)])=G1 at hL sH
  have nx:=dU (Lo (JR n) l) (EZ hi)
  have nle:=aU (Lo (JR n) l) (List.range l.length) (i+1)
  rw[nx]at nle
  refine⟨_,rfl,_,rfl,_,rfl,_,rfl,p,l,i,rfl,rfl,rfl,sH _ _ hp,λt2 H2 s2 h2=>⟨_,t2,_,rfl,rfl,h2,_,rfl,?_⟩⟩
  by_cases cm:l.getD i 0∈l.take i
  ·rw[AX cm]
   refine KW ⟨⟨_,_,_,rfl⟩,sH.trans s2,?_⟩
   rw[nx,show Lo (JR n) l i=[] from AH cm,BN]
   exact hL.mono s2
  rw[AN cm]
  refine Jr ?_
  have eO:Lo (JR n) l i=(JR n (l.take i++l.drop (i+1))).map (l.getD i 0 :: ·):=AE cm
  rw[eO]at nx nle
  have sH2:=sH.trans s2
  refine⟨_,rfl,_,rfl,_,rfl,p,l,i,rfl,rfl,rfl,sH2 _ _ hp,λt3 H3 s3 h3=>?_⟩
  refine⟨_,rfl,_,rfl,_,_,rfl,rfl,_,rfl,p,l,i+1,rfl,by rw[Int.natCast_add];rfl,rfl,s3 _ _ (sH2 _ _ hp),λt4 H4 s4 h4'=>?_⟩
  refine Mr (r:=l.take i) (r':=l.drop (i+1)) (s4 _ _ h3) h4' (small (by rw[Ah,BH];lia)) λt5 H5 s5 h5=>?_
  have s25:=s3.trans (s4.trans s5)
  have sH5:=sH2.trans s25
  have lr:(l.take i++l.drop (i+1)).length=l.length-1:=by rw[AI,Ah,BH];lia
  refine⟨t5,_,rfl,h5,by lia,by lia,λr H6 fr s6 e6=>?_⟩
  have rl:=hG n (l.take i++l.drop (i+1))
  generalize JR n (l.take i++l.drop (i+1))=HU at e6 nx nle rl
  obtain⟨vs2,e2,i2⟩:=e6
  have l2:=AL i2
  have hL6:=(hL.mono s2).mono (s25.trans s6)
  generalize ((List.range l.length).take i).flatMap (Lo (JR n) l)=pre at hL6 nx nle
  have hra:r≠a:=λz=>by
   obtain⟨zs,ez,_⟩:=(hL.mono s2).mono s25
   rw[z]at fr
   rw[ez]at fr
   cases fr
  refine⟨r,rfl,⟨_,HK.of e2⟩,?_⟩
  refine Jd (xs:=vs2) (λj σ H'=>(∃c4,σ=[some (.ref p),some (.ref a),some (.int i),some (.int (l.getD i 0)),c4])/\Gf H H'/\H' r=some (.lst vs2)/\Hc H' vs2 HU/\Gh H' a (pre++(HU.take j).map (l.getD i 0 :: ·))) ?_ ?_ ?_ ?_
  ·exact⟨⟨_,rfl⟩,sH5.trans s6,e2,i2,by simpa using hL6⟩
  ·rintro j σ H7 _ ⟨_,_,e3,_⟩
   exact HK.of e3
  ·rintro j x σ H7 hx ⟨⟨c4,rfl⟩,s7,e3,i3,pv2,eL3,iL3⟩
   obtain⟨row,hrow,hx2⟩:=Paired.get i3 hx
   obtain⟨px,rfl,hpx⟩:=JE hx2
   have jl:j<HU.length:=(Ab.mp hrow).1
   have len3:pv2.length<sizeLine:=by
    have z:=AL iL3
    rw[AI,AB,Ah]at z
    rw[AI,AB]at nle
    exact Kl (by lia)
   have rw4:=rl row (Ad hrow)
   refine⟨_,rfl,.inl ⟨rfl,_,HK.of eL3⟩,_,rfl,IH,λp8 h8=>⟨_,rfl,?_⟩⟩
   have s8:=HH h8 (.tup [.int (l.getD i 0)])
   refine Mr (r:=[l.getD i 0]) (r':=row) Gu (s8 _ _ hpx) (small (by show 1+row.length<=100000;lia)) λp9 H9 s9 h9=>?_
   have s89:=s8.trans s9
   have eL4:=s89 _ _ eL3
   have t4:HZ H9 (Gi H9 a (.lst (pv2++[.ref p9]))):=ML eL4 _
   refine⟨a,pv2,.ref p9,rfl,rfl,eL4,len3,⟨_,rfl⟩,Kc fa (s7.trans s89) _,?_,Hc.mono ((HZ.same s89).trans t4) i3,pv2++[.ref p9],Gu,?_⟩
   ·rw[Ha hra];exact s89 _ _ e3
   ·rw[JF hrow,Au,<-Ac]
    exact Cc (Hc.mono ((HZ.same s89).trans t4) iL3) (Dat.mono t4 (Jx h9))
  ·rintro σ H7 ⟨⟨c4,rfl⟩,s7,e3,i3,hL3⟩
   refine⟨⟨_,_,_,rfl⟩,s7,?_⟩
   rw[nx]
   rw[l2,Bh]at hL3
   exact hL3
 ·rintro σ H1 ⟨⟨c2,c3,c4,rfl⟩,sH,hL⟩
  refine⟨_,rfl,q a H1 fa sH ?_⟩
  rw[tot]
  rw[AB,Af (by rw[Bx];exact AG _)]at hL
  exact hL
theorem fD:Gw P w K mg base Hk 0 f fd ["numbers"] (O2 0):=by
 have no:∀vs H Q E,¬ O2 0 vs H Q E:=λvs H Q E h=>by
  obtain⟨p,l,_,_,h1,_⟩:=h
  lia
 exact⟨λvs H Q E h=>absurd h (no vs H Q E),λA outer s H args us vs Q E _ _ _ _ h=>absurd h (no vs H Q E)⟩
theorem Rv(F:Hg K "orders" "orders" VM f fd)(bF:Ho K fd ["numbers"] [])(mU:mg "orders" = some (.ref f))(me:mg "enumerate" = none):∀n,Gw P w K mg base Hk n f fd ["numbers"] (O2 n)
 |0=>fD
 |n+1=>jK F (Rv F bF mU me n) bF mU me
def Ic(r:List Int):Bool:=r.all (λx=>decide (1<=x))&&((List.range (r.length-1)).all λi=>decide (r.getD (i+1) 0<=r.getD i 0))&&decide (r.sum<=8)
abbrev LY:List Str:=["row"]
abbrev pK:List Str:=["number"]
abbrev Re:List Str:=["number", "later"]
theorem Zo:pK.Nodup:=by decide +kernel
theorem S3:Re.Nodup:=by decide +kernel
theorem dB:Gj LY LY (HW LO):=Hx
def SJ(cBR:Addr):Sp:=λvs H Q E=>∃(p:Addr)(r:List Int),vs=[.ref p]/\H p=some (.tup (r.map V.int))/\r.length<=1000/\(Ic r=true->∀H',Gf H H'->Q .non H')/\(Ic r=false->∀H',Gf H H'->E (.ref cBR) none H')
theorem jD(r:List Int):(r.map λx=>decide (x<1)).any id=!(r.all λx=>decide (1<=x)):=by
 induction r with
 |nil=>rfl
 |cons x r ih =>
  rw[Ae,B8,C7,ih,Bool.not_and]
  have:id (decide (x<1))=!decide (1<=x):=by
   by_cases c:x<1
   ·simp [c]
   ·simp [c,show 1<=x by lia]
  rw[this]
theorem Xu(l:List Nat)(r:List Int):(l.map λi=>decide (r.getD i 0<r.getD (i+1) 0)).any id=!(l.all λi=>decide (r.getD (i+1) 0<=r.getD i 0)):=by
 induction l with
 |nil=>rfl
 |cons i l ih =>
  rw[Ae,B8,C7,ih,Bool.not_and]
  have:id (decide (r.getD i 0<r.getD (i+1) 0))=!decide (r.getD (i+1) 0<=r.getD i 0):=by
   by_cases c:r.getD i 0<r.getD (i+1) 0
   ·rw[AX c,AN (by lia)];rfl
   ·rw[AN c,AX (by lia)];rfl
  rw[this]
theorem Tr{r:List Int}{i:Nat}{v:V}(h:(r.map V.int)[i]?=some v):v=.int (r.getD i 0)/\i<r.length:=by
 rw[Ag]at h
 rw[Av]
 cases e:r[i]? with
 |none=>rw[e]at h;cases h
 |some c=>rw[e]at h;exact⟨(Al h).symm,(Ab.mp e).1⟩
theorem P9{tk:Tok}{cBR:Addr}(F:Hg K "refuse_bad_row" "refuse_bad_row" LO f fd)(gU:mg "MOST_TOGETHER" = some (.int 8 tk))(X1:Q5 K mg "BadRow" cBR)(ma:mg "any" = none)(mz:mg "zip" = none)(ms:mg "sum" = none):Gw P w K mg base (IB P w) 2 f fd LY (SJ cBR):=by
 refine LR F dB λHQ A outer s H vs Q E hr h=>?_
 obtain⟨p,r,rfl,hp,hl,q,e⟩:=h
 refine⟨_,HP (Ia (WC (IT (RV rfl) rfl ma GH (Ge (JO (N':=pK) (src:=[none]) rfl (O3 (pv 0)) (I0 (HW LO) LY (by decide +kernel))
    (λb=>Hb (i:=0) Zo rfl (Or.inl rfl)) (λb=>Jh) (λb=>YG Nn (pv 0) HR (IA _))) Gq))) (HN (VD rfl Vs Bp rfl X1.at_ X1.is (Ge Km Gq))) Ip)
  (HP (Ia (WC (IT (RV rfl) rfl ma GH (Ge (JO (N':=Re) (src:=[none,none]) rfl (OE .tup .tup rfl mz (Ge (pv 0) (Ge (Mz nA (pv 0) (NR HR) My) Gq))) (I0 (HW LO) LY (by decide +kernel))
    (λb=>JX rfl (IE (Hb (i:=0) S3 rfl (Or.inl rfl)) (IE (Hb (i:=1) S3 rfl (Or.inl rfl)) JZ))) (λb=>Jh) (λb=>YG PN (pv 1) (pv 0) (IA _))) Gq))) (HN (VD rfl Vs Bp rfl X1.at_ X1.is (Ge Km Gq))) Ip)
  (HN (Ia (ID PN (IT (YL rfl) rfl ms PyProof.Rows.boot_sum (Ge (pv 0) Gq)) (J0 (v:=.int 8) rfl gU ⟨_,rfl⟩) (IA _)) (HN (VD rfl Vs Bp rfl X1.at_ X1.is (Ge Km Gq))) Ip))),?_⟩
 have sz:1<=sizeLine:=by decide
 refine⟨_,rfl,p,rfl,⟨_,HL.of hp⟩,λbk D hD=>?_⟩
 refine TM (α:=Bool) hD (HL.of hp) (λσ=>∃c,σ=[c]) (λi=>(r[i]?).bind λx=>some (decide (x<1))) (small (by rw[AB];lia)) ?_ ?_ ?_
 ·exact⟨_,rfl⟩
 ·rintro i v σ H2 Yes No hv ⟨c,rfl⟩ s3 yes no
  obtain⟨x,hx,rfl⟩:∃x,r[i]?=some x/\V.int x=v:=by
   rw[Ag]at hv
   cases e:r[i]? with
   |none=>rw[e]at hv;cases hv
   |some y=>rw[e]at hv;exact⟨y,rfl,Al hv⟩
  refine L6 ?_
  refine⟨_,rfl,_,_,rfl,rfl,?_⟩
  exact yes _ _ _ _ ⟨_,rfl⟩ (λ_ _ e=>e) (by rw[hx];rfl) rfl
 rintro H1 s1 ⟨ws,eD,iD⟩
 have e0:(List.range (r.map V.int).length).filterMap (λi=>(r[i]?).bind λx=>some (decide (x<1)))=r.map λx=>decide (x<1):=by
  rw[AB,KC,A7]
 rw[R6 iD,e0]at eD
 refine⟨D,_,rfl,HK.of eD,_,rfl,?_⟩
 rw[jD]
 cases c1:r.all λx=>decide (1<=x) with
 |false=>exact Jr ⟨sz,e (by unfold Ic;rw[c1];rfl) _ s1⟩
 |true =>
 refine KW ?_
 have hp1:=s1 _ _ hp
 refine⟨_,rfl,_,rfl,1,rfl,p,r,rfl,rfl,rfl,hp1,λt H2 s2 ht=>⟨p,t,rfl,⟨_,HL.of (s2 _ _ hp1)⟩,⟨_,HL.of ht⟩,λbk2 D2 hD2=>?_⟩⟩
 refine jR (α:=Bool) (k1:=.tup) (k2:=.tup) hD2 (HL.of (s2 _ _ hp1)) (HL.of ht) (λσ=>∃c d,σ=[c,d]) (λi=>some (decide (r.getD i 0<r.getD (i+1) 0))) (small (by rw[AB,AB];lia)) ?_ ?_ ?_
 ·exact⟨_,_,rfl⟩
 ·rintro i x y p2 σ H3 Yes No hx hy h2 ⟨c,d,rfl⟩ s3 yes no
  obtain⟨rfl,_⟩:=Tr hx
  obtain⟨rfl,_⟩:=Tr hy
  refine⟨p2,_,rfl,HL.of Gu,rfl,_,_,rfl,_,_,rfl,rfl,?_⟩
  refine Mi ?_
  refine⟨_,rfl,_,rfl,_,_,rfl,rfl,?_⟩
  refine yes _ _ _ _ ⟨_,_,rfl⟩ (HH h2 _) rfl ?_
  show V.bl (decide (r.getD i 0<(r.drop 1).getD i 0))=V.bl (decide (r.getD i 0<r.getD (i+1) 0))
  rw[show(r.drop 1).getD i 0=r.getD (i+1) 0 by rw[Av,List.getElem?_drop,Av,Gz 1 i]]
 rintro H4 s4 ⟨ws2,eD2,iD2⟩
 have e1:(List.range (min (r.map V.int).length ((r.drop 1).map V.int).length)).filterMap (λi=>some (decide (r.getD i 0<r.getD (i+1) 0)))=(List.range (r.length-1)).map λi=>decide (r.getD i 0<r.getD (i+1) 0):=by
  rw[AB,AB,BH,FJ (by lia),A7]
 rw[R6 iD2,e1]at eD2
 have s14:=s1.trans (s2.trans s4)
 refine⟨D2,_,rfl,HK.of eD2,_,rfl,?_⟩
 rw[Xu]
 cases c2:(List.range (r.length-1)).all λi=>decide (r.getD (i+1) 0<=r.getD i 0) with
 |false=>exact Jr ⟨sz,e (by unfold Ic;rw[c1,c2];rfl) _ s14⟩
 |true =>
 refine KW ?_
 refine⟨_,rfl,p,r,rfl,HL.of (s14 _ _ hp),_,_,rfl,rfl,_,rfl,?_⟩
 by_cases c3:8<r.sum
 ·exact Jt c3 ⟨sz,e (by unfold Ic;rw[c1,c2,AN (by lia)];rfl) _ s14⟩
 ·exact Ij c3 (q (by unfold Ic;rw[c1,c2,AX (by lia)];rfl) _ s14)
def Px:Sp:=λvs H Q _=>∃(p:Addr)(r:List Int),vs=[.ref p]/\H p=some (.tup (r.map V.int))/\r.length<=1000/\Ic r=true/\∀H',Gf H H'->Q .non H'
theorem ZF{cBR:Addr}{k:Nat}(F:Gw P w K mg base (IB P w) k f fd LY (SJ cBR)):Gw P w K mg base Hk k f fd LY Px:=TF F λvs H Q E ⟨p,r,e,h,l,b,q⟩=>⟨p,r,e,h,l,λ_=>q,λz=>by rw[b]at z;cases z⟩
abbrev OF:List Str:=["many", "row"]
abbrev oZ:List Str:=["powers"]
theorem gW:oZ.Nodup:=by decide +kernel
theorem Xa:Gj OF OF (HW V0):=Hx
def JL(n:Nat)(r:List Int):List Gb:=(JR 5 (r++List.replicate (n-r.length) 0)).map λq=>(q,1)
def Mo:Sp:=λvs H Q _=>∃(n:Nat)(p:Addr)(r:List Int),vs=[.int n,.ref p]/\1<=n/\n<=4/\H p=some (.tup (r.map V.int))/\r.length<=n/\Ic r=true/\∀(a:Addr)(H':Hp),H a=none->Gf H H'->Gh H' a (JL n r)->Q (.ref a) H'
theorem nO(k:Nat):(List.replicate k [(0:Int)]).flatten=List.replicate k 0:=by
 induction k with
 |zero=>rfl
 |succ k ih=>rw[A4,Bv,ih,A4];rfl
theorem fS(F:Hg K "exchange_sum" "exchange_sum" V0 f fd)(GR:Hd P w K mg base 5 "refuse_bad_row" LY Px)(GC:Hd P w K mg base 5 "refuse_bad_count" ["many"] Rt)(GO:Hd P w K mg base 5 "orders" ["numbers"] (O2 5))(mn:mg "len" = none):Gw P w K mg base Hk 6 f fd OF Mo:=by
 refine IJ F Xa λHQ A outer s H vs Q E hr h=>?_
 obtain⟨n,p,r,rfl,n1,n4,hp,hl,hB,q⟩:=h
 refine⟨_,HP (IZ (Hq GR hr rfl (Ge (pv 1) Gq))) (HP (IZ (Hq GC hr rfl (Ge (pv 0) Gq)))
  (HP (Ia (ID PN (IT K6 rfl mn B2 (Ge (pv 1) Gq)) (pv 0) (IA _)) (HN P2) Ip)
  (HN (Hs (JO (N':=oZ) (src:=[none]) rfl (Ig (Hq GO hr rfl (Ge (HV L3 (pv 1) (HV WD (Hz (Ge HR Gq)) (HV Kn (pv 0) (IT K6 rfl mn B2 (Ge (pv 1) Gq))))) Gq))) (I0 (HW V0) OF (by decide +kernel))
   (λb=>Hb (i:=0) gW rfl (Or.inl rfl)) (λb=>Jh) (λb=>Hz (Ge (pv 0) (Ge HR Gq)))))))),?_⟩
 refine⟨_,rfl,p,r,rfl,hp,by lia,hB,λH1 s1=>?_⟩
 refine⟨_,rfl,n,rfl,by lia,by lia,?_⟩
 have hp1:=s1 _ _ hp
 refine⟨_,rfl,p,_,rfl,.inr (HL.of hp1),_,rfl,_,_,rfl,rfl,_,rfl,Ij (by rw[AB];lia) ?_⟩
 refine⟨_,rfl,IH,λt0 h0=>?_⟩
 have s0:=HH h0 (.tup [.int 0])
 refine⟨_,rfl,_,rfl,p,_,rfl,.inr (HL.of (s0 _ _ hp1)),_,_,rfl,rfl,t0,[0],_,rfl,rfl,Gu,by simp,by rw[AB];lia,by rw[AB];lia,small (by rw[AB];show 1*_<=100000;lia),λt2 H2 s2 h2=>?_⟩
 rw[nO,AB,show((n:Int)-(r.length:Int)).toNat=n-r.length by lia]at h2
 refine Mr (r:=r) (r':=List.replicate (n-r.length) 0) (s2 _ _ (s0 _ _ hp1)) h2 (small (by rw[BA];lia)) λt3 H3 s3 h3=>?_
 have l4:(r++List.replicate (n-r.length) (0:Int)).length=n:=by rw[AI,BA];lia
 refine⟨t3,_,rfl,h3,by lia,by lia,λa H4 ha s4 hL=>?_⟩
 have sH:=s1.trans (s0.trans (s2.trans (s3.trans s4)))
 have ol:=Us 5 (r++List.replicate (n-r.length) 0)
 rw[l4]at ol
 have b4:Li n<=24:=by
  have:n=1∨n=2∨n=3∨n=4:=by lia
  rcases this with e|e|e|e<;>rw[e]<;>decide
 unfold JL at q
 generalize JR 5 (r++List.replicate (n-r.length) 0)=os at hL q ol
 obtain⟨vs,eL,iL⟩:=hL
 have lv:=AL iL
 refine⟨a,rfl,⟨_,HK.of eL⟩,λbk D hD=>?_⟩
 refine LF (α:=Gb) hD (HK.of eL) (λσ=>∃c,σ=[c]) (λi=>(os[i]?).bind λx=>some (x,1)) (small (by lia)) ?_ ?_ ?_
 ·exact⟨_,rfl⟩
 ·rintro i v σ H5 Yes No hv ⟨c,rfl⟩ s5 yes no
  obtain⟨x,hx,hi⟩:=Im iL hv
  obtain⟨px,rfl,hpx⟩:=JE hi
  refine L6 ?_
  refine⟨_,rfl,IV,λt6 h6=>?_⟩
  have s6:=HH h6 (.tup [.ref px,.int 1])
  exact yes _ _ _ (x,1) ⟨_,rfl⟩ s6 (by rw[hx];rfl) (JY (t:=(x,1)) Gu (s6 _ _ (s5 _ _ hpx)))
 intro H7 s7 h7
 have e:(List.range vs.length).filterMap (λi=>(os[i]?).bind λx=>some (x,(1:Int)))=os.map λq=>(q,1):=by
  rw[lv,KC,A7]
 rw[e]at h7
 exact q D H7 (sH.free hD) (sH.trans s7) h7
end
section
variable{P:Program}{w:World}{K:W.Frag}{mg:Str->Option Value}{base:Heap}{f g:Addr}{fd gd:FuncData}
abbrev pG:List Str:=["one", "other", "terms", "powers", "number", "more", "often"]
abbrev qK:List Str:=["power", "added"]
theorem Uh:qK.Nodup:=by decide +kernel
theorem Ko:Gj pG ["one", "other"] (HW MJ):=Hx
def Tp:Sp:=λvs H Q _=>∃(a b:Addr)(n d e x y:Nat)(ts us:List Gb),vs=[.ref a,.ref b]/\Gh H a ts/\Gh H b us/\Deg n d x ts/\Deg n e y us/\1<=n/\n<=4/\x<=100000/\y<=100000/\ts.length*us.length<=40000 /\
 ∀(l:Addr)(H':Hp),H l=none->Gf H H'->Gh H' l (norm (prd ts us))->Q (.ref l) H'
theorem nT(p q:Pw)(h:p.length=q.length):(List.range (min (p.map V.int).length (q.map V.int).length)).filterMap (λi=>some (p.getD i 0+q.getD i 0))=Hv p q:=by
 rw[A7,AB,AB,<-h,FF]
 refine C9 λi=>?_
 unfold Hv
 rw[Ag,List.getElem?_zipWith]
 by_cases c:i<p.length
 ·rw[EZ c,AW c,AW (by lia:i<q.length)]
  simp [c,(by lia:i<q.length)]
 ·rw[GI (by rw[Bx];lia),GI (by lia:p.length<=i)]
  rfl
theorem Yy(a b:List Gb)(t:Gb):prd (a++[t]) b=prd a b++b.map λu=>(Hv t.1 u.1,t.2*u.2):=by
 unfold prd
 rw[Bu,B9]
theorem Yx(F:Hg K "multiplied" "multiplied" MJ f fd)(GG:Hd P w K mg base 2 "gathered" ["terms"] U2)(mt:mg "tuple" = none)(mz:mg "zip" = none):Gw P w K mg base Hk 3 f fd ["one", "other"] Tp:=by
 refine IJ F Ko λHQ A outer s H vs Q E hr h=>?_
 obtain⟨a,b,n,d,e,x,y,ts,us,rfl,hA,hB,ga,gb,n1,n4,hx1,hy1,hml,q⟩:=h
 refine⟨_,HP (Hi (i:=2) Ko.nd rfl (Or.inl rfl) (Hy Gq))
  (HP (IX Ar rfl (Ig (pv 0)) (JX rfl (IE (Hb (i:=3) Ko.nd rfl (Or.inl rfl)) (IE (Hb (i:=4) Ko.nd rfl (Or.inl rfl)) JZ)))
   (HN (IX Ar rfl (Ig (pv 1)) (JX rfl (IE (Hb (i:=5) Ko.nd rfl (Or.inl rfl)) (IE (Hb (i:=6) Ko.nd rfl (Or.inl rfl)) JZ)))
    (HN (IZ (Lc BQ BV BW Lu (pv 2) (Ge (Hz (Ge
     (Mh Pj rfl mt CJ (Ge (JO (N':=qK) (src:=[none,none]) rfl
      (OE .tup .tup rfl mz (Ge (pv 3) (Ge (pv 5) Gq))) (I0 (HW MJ) pG (by decide +kernel))
      (λb=>JX rfl (IE (Hb (i:=0) Uh rfl (Or.inl rfl)) (IE (Hb (i:=1) Uh rfl (Or.inl rfl)) JZ)))
      (λb=>Jh)
      (λb=>HV JW (pv 0) (pv 1))) Gq))
     (Ge (HV Nk (pv 4) (pv 6)) Gq))) Gq)))))))
  (HN (Hs (Hq GG hr rfl (Ge (pv 2) Gq))))),?_⟩
 obtain⟨vs,eA,iA⟩:=id hA
 obtain⟨ws,eB,iB⟩:=id hB
 have lva:=AL iA
 have lvb:=AL iB
 refine⟨Ik,λl hl0=>?_⟩
 have s0:=HH hl0 (.lst [])
 refine⟨_,rfl,a,rfl,⟨vs,HK.of (s0 _ _ eA)⟩,?_⟩
 refine Jd (xs:=vs) (λi σ H'=>(∃c3 c4 c5 c6,σ=[some (.ref a),some (.ref b),some (.ref l),c3,c4,c5,c6])/\Gh H' l (prd (ts.take i) us)/\Gf H H') ?_ ?_ ?_ ?_
 ·exact⟨⟨_,_,_,_,rfl⟩,⟨[],Gu,.nil⟩,s0⟩
 ·rintro i σ H1 _ ⟨_,_,s1⟩
  exact HK.of (s1 _ _ eA)
 ·rintro i v σ H1 hv ⟨⟨c3,c4,c5,c6,rfl⟩,hL,s1⟩
  obtain⟨t,ht,hi⟩:=Im iA hv
  have hmt:=Ad ht
  have lti:i<ts.length:=(Ab.mp ht).1
  obtain⟨p,k1,rfl,hp,hk1⟩:=Jf hi
  refine⟨p,_,rfl,HL.of (s1 _ _ hp),rfl,_,_,rfl,_,_,rfl,rfl,?_⟩
  refine⟨_,rfl,b,rfl,⟨ws,HK.of (s1 _ _ eB)⟩,?_⟩
  refine Jd (xs:=ws) (λj σ H'=>(∃c5 c6,σ=[some (.ref a),some (.ref b),some (.ref l),some (.ref k1),some (.int t.2),c5,c6])/\Gh H' l (prd (ts.take i) us++(us.take j).map λu=>(Hv t.1 u.1,t.2*u.2))/\Gf H H') ?_ ?_ ?_ ?_
  ·refine⟨⟨_,_,rfl⟩,?_,s1⟩
   rw[DV,Dr,BN]
   exact hL
  ·rintro j σ H2 _ ⟨_,_,s2⟩
   exact HK.of (s2 _ _ eB)
  ·rintro j w2 σ H2 hw ⟨⟨c5,c6,rfl⟩,⟨zs,eZ,iZ⟩,s2⟩
   obtain⟨u,hu,hj⟩:=Im iB hw
   have hmu:=Ad hu
   have luj:j<us.length:=(Ab.mp hu).1
   have lz:=AL iZ
   rw[AI,Z8,AB,Ah,Ah,Cf (by lia),Cf (by lia)]at lz
   have lz2:zs.length<=40000:=by
    have z1:i*us.length+j<(i+1)*us.length:=by rw[DC];lia
    have z2:(i+1)*us.length<=ts.length*us.length:=ES _ lti
    lia
   have hlu:t.1.length=u.1.length:=by rw[ga.len t hmt,gb.len u hmu]
   obtain⟨p',k2,rfl,hp',hk2⟩:=Jf hj
   refine⟨p',_,rfl,HL.of (s2 _ _ hp'),rfl,_,_,rfl,_,_,rfl,rfl,?_⟩
   refine⟨_,rfl,.inl ⟨rfl,_,HK.of eZ⟩,?_⟩
   refine⟨_,rfl,_,rfl,k1,k2,rfl,⟨_,HL.of (s2 _ _ hk1)⟩,⟨_,HL.of (s2 _ _ hk2)⟩,λbk D hD=>?_⟩
   refine jR (α:=Int) (k1:=.tup) (k2:=.tup) hD (HL.of (s2 _ _ hk1)) (HL.of (s2 _ _ hk2)) (λσ=>∃c d,σ=[c,d]) (λi=>some (t.1.getD i 0+u.1.getD i 0)) (small (by rw[AB,ga.len t hmt];lia)) ?_ ?_ ?_
   ·exact⟨_,_,rfl⟩
   ·rintro i x y p2 σ H2 Yes No hx hy h2 ⟨c,d,rfl⟩ s3 yes no
    obtain rfl:V.int (t.1.getD i 0)=x:=by
     rw[Ag]at hx
     rw[Av]
     cases e:t.1[i]? with
     |none=>rw[e]at hx;cases hx
     |some c=>rw[e]at hx;exact Al hx
    obtain rfl:V.int (u.1.getD i 0)=y:=by
     rw[Ag]at hy
     rw[Av]
     cases e:u.1[i]? with
     |none=>rw[e]at hy;cases hy
     |some c=>rw[e]at hy;exact Al hy
    refine⟨p2,_,rfl,HL.of Gu,rfl,_,_,rfl,_,_,rfl,rfl,?_⟩
    refine Mi ?_
    refine⟨_,rfl,_,rfl,_,_,rfl,rfl,?_⟩
    exact yes _ _ _ _ ⟨_,_,rfl⟩ (HH h2 _) rfl rfl
   rintro H3 s3 ⟨ys,eD,iD⟩
   rw[Qg iD,nT _ _ hlu]at eD
   refine⟨D,_,rfl,.inl ⟨HK.of eD,λr hr2=>?_⟩⟩
   have s4:=HH hr2 (.tup ((Hv t.1 u.1).map V.int))
   refine⟨_,rfl,_,rfl,_,_,rfl,rfl,⟨JM (ga.num t hmt) hx1,JM (gb.num u hmu) hy1⟩,IV,λr2 h5=>?_⟩
   have s5:=HH h5 (.tup [.ref r,.int (t.2*u.2)])
   have s345:=s3.trans (s4.trans s5)
   have eZ3:=s345 _ _ eZ
   refine⟨l,zs,_,rfl,rfl,eZ3,Kl (by lia),⟨_,_,rfl⟩,⟨zs++[.ref r2],Gu,?_⟩,λb' o e'=>?_⟩
   ·rw[JF hu,Au,<-Ac]
    have t6:∀o,HZ _ (Gi _ l o):=λo r' ys e'=>by
     rw[Ha (KL e' eZ3 (by intro z;cases z))];exact e'
    exact Cc (Hc.mono ((HZ.same s345).trans (t6 _)) iZ) (Dat.mono (t6 _) (JY (t:=(Hv t.1 u.1,t.2*u.2)) Gu (s5 _ _ Gu)))
   ·rw[Ha (Iv e' hl0)]
    exact s345 _ _ (s2 b' o e')
  ·rintro σ H2 ⟨⟨c5,c6,rfl⟩,hL2,s2⟩
   rw[Af (show us.length<=ws.length by lia)]at hL2
   refine⟨⟨_,_,_,_,rfl⟩,?_,s2⟩
   rw[JF ht,Yy]
   exact hL2
 ·rintro σ H1 ⟨⟨c3,c4,c5,c6,rfl⟩,hL,s1⟩
  rw[Af (by lia)]at hL
  refine⟨_,rfl,l,_,rfl,hL,mF (ga.prd gb) n1,by rw[Z8];lia,λr H2 hr s2 h2=>?_⟩
  exact q r H2 (s1.free hr) (s1.trans s2) h2
theorem kX{l r:List Int}(h:r.Perm l):r.sum=l.sum:=by
 induction h with
 |nil=>rfl
 |cons x _ ih=>rw[BX,BX,ih]
 |swap x y l=>rw[BX,BX,BX,BX];lia
 |trans _ _ i1 i2=>rw[i1,i2]
theorem R7(m:Nat):(List.replicate m (0:Int)).sum=0:=by
 induction m with
 |zero=>rfl
 |succ m ih=>rw[A4,BX,ih];rfl
def wv:Nat->Nat->List (List Int)
 |0,w=>if w=0 then [[]] else []
 |n+1,w=>(List.range (w+1)).flatMap λ(x:Nat)=>(wv n (w-x)).map ((x:Int) :: ·)
theorem U1:∀{l:List Int},(∀y∈l,0<=y)->0<=l.sum
 |[],_=>Df _
 |x::l,h=>by
  have h1:=h x (AJ ..)
  have h2:=U1 (l:=l) λy hy=>h y (AK _ hy)
  rw[BX]
  lia
theorem Uv:∀(n w:Nat)(l:List Int),l.length=n->(∀x∈l,0<=x)->l.sum=(w:Int)->l∈wv n w
 |0,w,l,h,_,hs=>by
  rw[DL.mp h]at hs ⊢
  have e:w=0:=by
   have:(0:Int)=(w:Int):=hs
   lia
  rw[e]
  exact AS.mpr rfl
 |n+1,w,[],h,_,_=>by simp at h
 |n+1,w,x::l,h,hx,hs=>by
  have h1:=hx x (AJ ..)
  have h2:=U1 (l:=l) λy hy=>hx y (AK _ hy)
  rw[BX]at hs
  refine BO.mpr ⟨x.toNat,At.mpr (by lia),AV.mpr ⟨l,Uv n (w-x.toNat) l (by simpa using h) (λy hy=>hx y (AK _ hy)) (by lia),?_⟩⟩
  rw[DI h1]
theorem gN:∀n∈List.range 5,∀w∈List.range 9,(wv n w).length<=165:=by decide +kernel
structure Mj(n k:Nat)(f:List Gb):Prop where
 deg:Deg n k 1 f
 one:∀t∈f,t.1.sum=(k:Int)
 len:f.length<=165
theorem WN{k:Int}{ts:List Gb}(h:∀t∈ts,t.1.sum=k):∀t∈norm ts,t.1.sum=k:=λt ht=>by
 obtain⟨u,hu,e⟩:=J1 ht
 rw[<-e]
 exact h u hu
theorem Xr{n k b:Nat}{ts:List Gb}(h:Deg n k b ts)(h1:∀t∈ts,t.1.sum=(k:Int))(n4:n<=4)(k8:k<=8):(norm ts).length<=165:=by
 have nd:((norm ts).map (·.1)).Nodup:=by
  rw[List.Nodup,Bw]
  refine(JI ts).ord.imp λ{x y} z e=>?_
  rw[e,Jb]at z
  cases z
 have sub:∀p∈(norm ts).map (·.1),p∈wv n k:=λp hp=>by
  obtain⟨t,ht,rfl⟩:=AV.mp hp
  obtain⟨u,hu,e⟩:=J1 ht
  rw[<-e]
  exact Uv n k _ (h.len u hu) (h.nn u hu) (h1 u hu)
 have:=Ch nd sub
 rw[AB]at this
 have:=gN n (At.mpr (by lia)) k (At.mpr (by lia))
 lia
theorem lM{n x y:Nat}{k l:Int}{b c:Nat}{ts us:List Gb}(ga:Deg n x b ts)(gb:Deg n y c us)(h:∀t∈ts,t.1.sum=k)(h':∀t∈us,t.1.sum=l):∀t∈prd ts us,t.1.sum=k+l:=λt ht=>by
 obtain⟨a,ha,ht⟩:=BO.mp ht
 obtain⟨b,hb,rfl⟩:=AV.mp ht
 rw[OD (by rw[ga.len a ha,gb.len b hb]),h a ha,h' b hb]
def Om(ff:Nat->List Gb)(acc:List Gb)(k:Nat):List Gb:=norm (prd acc (ff k))
def JJ(ff:Nat->List Gb)(n:Nat)(ks:List Nat):List Gb:=ks.foldl (Om ff) [(List.replicate n 0,1)]
theorem Mc(ff:Nat->List Gb)(n:Nat)(ks:List Nat)(k:Nat):JJ ff n (ks++[k])=Om ff (JJ ff n ks) k:=by
 unfold JJ
 rw[CB]
 rfl
theorem X6{ff:Nat->List Gb}{n:Nat}(n1:1<=n)(n4:n<=4)(hf:∀k,1<=k->k<=8->Mj n k (ff k)):∀ks:List Nat,ks.sum<=8->(∀k∈ks,1<=k)->Deg n ks.sum (1+19*ks.length) (JJ ff n ks)/\(∀t∈JJ ff n ks,t.1.sum=(ks.sum:Int))/\(JJ ff n ks).length<=165:=by
 refine J4 (λ_ _=>⟨⟨λt ht=>?_,λt ht x hx=>?_,λt ht=>?_,λt ht=>?_⟩,λt ht=>?_,by show 1<=165;decide⟩) λks k ih hs h1=>?_
 ·rw[AS.mp ht];exact BA
 ·rw[AS.mp ht]at hx
  rw[(List.mem_replicate.mp hx).2];exact Df _
 ·rw[AS.mp ht]
  show(List.replicate n (0:Int)).sum<=_
  rw[R7];exact Df _
 ·rw[AS.mp ht]
  show(1:Int).natAbs<2^1
  decide
 ·rw[AS.mp ht]
  exact R7 n
 ·rw[Ci,CZ]at hs
  obtain⟨d,o,l⟩:=ih (by lia) λx hx=>h1 x (A6 _ hx)
  have k1:=h1 k (Ap _ (AS.mpr rfl))
  have fk:=hf k k1 (by lia)
  rw[Mc]
  have dp:=d.prd fk.deg
  have op:=lM d fk.deg o fk.one
  have e:(((ks++[k]).sum:Nat):Int)=(ks.sum:Int)+(k:Int):=by rw[Ci,CZ];lia
  have lp:(prd (JJ ff n ks) (ff k)).length<2^18:=by
   rw[Z8]
   have:=Ec l fk.len
   exact BG this (by decide)
  refine⟨(dp.norm lp).mono (by rw[Ci,CZ];exact AG _) ?_,?_,?_⟩
  ·rw[AI,BB]
   lia
  ·rw[e]
   exact WN op
  ·refine Xr (k:=ks.sum+k) dp (λt ht=>?_) n4 hs
   rw[op t ht]
   lia
abbrev rK:List Str:=["many", "factors", "result", "factor"]
theorem L9:Gj rK ["many", "factors"] (HW YW):=Hx
def MT:Sp:=λvs H Q _=>∃(ff:Nat->List Gb)(n:Nat)(a:Addr)(xs:List Addr)(ks:List Nat),vs=[.int n,.ref a]/\1<=n/\n<=4/\(∀k,1<=k->k<=8->Mj n k (ff k))/\H a=some (.lst (xs.map V.ref))/\Paired (λx k=>Gh H x (ff k)) xs ks/\ks.sum<=8/\ks.length<=8/\(∀k∈ks,1<=k) /\
 ∀(l:Addr)(H':Hp),H l=none->Gf H H'->Gh H' l (JJ ff n ks)->Q (.ref l) H'
theorem Zq(F:Hg K "product" "product" YW f fd)(GM:Hd P w K mg base 3 "multiplied" ["one", "other"] Tp):Gw P w K mg base Hk 4 f fd ["many", "factors"] MT:=by
 refine IJ F L9 λHQ A outer s H vs Q E hr h=>?_
 obtain⟨ff,n,a,xs,ks,rfl,n1,n4,hf,ha,hx,hs,hk8,hk1,q⟩:=h
 refine⟨_,HP (Hi (i:=2) L9.nd rfl (Or.inl rfl) (Hy (Ge (Hz (Ge (HV WD (Hz (Ge HR Gq)) (pv 0)) (Ge HR Gq))) Gq)))
  (HP (IX Ar rfl (Ig (pv 1)) (Hb (i:=3) L9.nd rfl (Or.inl rfl)) (HN (Hi (i:=2) L9.nd rfl (Or.inl rfl) (Hq GM hr rfl (Ge (pv 2) (Ge (pv 3) Gq))))))
  (HN (Hs (pv 2)))),?_⟩
 have lx:=AL hx
 refine⟨IH,λt0 h0=>?_⟩
 have s0:=HH h0 (.tup [.int 0])
 refine⟨_,rfl,t0,[0],_,rfl,rfl,Gu,by simp,by lia,by lia,small (by show 1*_<=100000;lia),λt1 H1 s1 h1=>?_⟩
 rw[nO,Aw]at h1
 refine⟨IV,λt2 h2=>⟨IH,λl0 h3=>?_⟩⟩
 have s2:=HH h2 (.tup [.ref t1,.int 1])
 have s3:=HH h3 (.lst [.ref t2])
 have sA:=s0.trans (s1.trans (s2.trans s3))
 refine⟨_,rfl,a,rfl,⟨_,HK.of (sA _ _ ha)⟩,?_⟩
 refine Jd (xs:=xs.map V.ref) (λi σ H'=>(∃(l:Addr)(c3:Option V),σ=[some (.int n),some (.ref a),some (.ref l),c3]/\Gh H' l (JJ ff n (ks.take i))/\H l=none)/\Gf H H') ?_ ?_ ?_ ?_
 ·refine⟨⟨l0,_,rfl,⟨[.ref t2],Gu,.cons (JY (t:=(List.replicate n 0,1)) (s3 _ _ Gu) (s3 _ _ (s2 _ _ h1))) .nil⟩,s0.free (s1.free (s2.free h3))⟩,sA⟩
 ·rintro i σ H4 _ ⟨_,sH⟩
  exact HK.of (sH _ _ ha)
 ·rintro i v σ H4 hv ⟨⟨l,c3,rfl,hL,fl⟩,sH⟩
  obtain⟨x,hxi,rfl⟩:∃x,xs[i]?=some x/\V.ref x=v:=by
   rw[Ag]at hv
   cases e:xs[i]? with
   |none=>rw[e]at hv;cases hv
   |some y=>rw[e]at hv;exact⟨y,rfl,Al hv⟩
  obtain⟨k,hk,hLx⟩:=Paired.get hx hxi
  have et:=JF hk
  have st:(ks.take (i+1)).sum<=8:=by
   have e:ks.sum=(ks.take (i+1)).sum+(ks.drop (i+1)).sum:=by rw[<-Ci,Bm]
   lia
  have st':=st
  rw[et,Ci,CZ]at st'
  obtain⟨d,_,ln⟩:=X6 n1 n4 hf (ks.take i) (by lia) λx hx=>hk1 x (B5 hx)
  have lt:(ks.take i).length<=8:=by rw[Ah];lia
  have fk:=hf k (hk1 k (Ad hk)) (by lia)
  refine⟨_,rfl,_,rfl,l,x,n,_,_,_,_,_,_,rfl,hL,hLx.mono sH,d,fk.deg,n1,n4,by lia,by decide,?_,λl5 H5 hl5 s5 h5=>?_⟩
  ·exact BE (Ec ln fk.len) (by decide)
  ·refine⟨⟨l5,_,rfl,?_,sH.free hl5⟩,sH.trans s5⟩
   rw[et,Mc]
   exact h5
 ·rintro σ H4 ⟨⟨l,c3,rfl,hL,fl⟩,sH⟩
  rw[AB,Af (by lia)]at hL
  exact⟨_,rfl,q l H4 fl sH hL⟩
end
section
variable{P:Program}{w:World}{K:W.Frag}{mg:Str->Option Value}{base:Heap}{f g:Addr}{fd gd:FuncData}
abbrev nC:List Str:=["_law_script", "_law_k"]
theorem sS:Gj nC nC (HW OM):=Hx
def P5(K:W.Frag):Sp:=λvs H Q _=>∃(a:Addr)(ns:List Int)(k:Nat),vs=[.ref a,.int k]/\HK K H a (ns.map V.int)/\Q (.int (Ky ns k)) H
theorem kD(F:Hg K "_law_cell" "_law_cell" OM f fd)(ml:mg "len" = none):Gw P w K mg base Hk 2 f fd nC (P5 K):=by
 refine IJ F sS λHQ A outer s H vs Q E hr h=>?_
 obtain⟨a,ns,k,rfl,hS,q⟩:=h
 refine⟨_,HP (Ia (ID Nn (pv 1) (IT K6 rfl ml B2 (Ge (pv 0) Gq)) (IA _)) (HN (Hs (HV KM (JH KU (pv 0) (pv 1) (λ_ _=>rfl)) HR))) Ip)
  (HN (Hs HR)),?_⟩
 refine⟨_,rfl,_,rfl,a,_,rfl,.inl hS,_,_,rfl,rfl,_,rfl,?_⟩
 unfold Ky at q
 rw[AB]
 by_cases c:k<ns.length
 ·rw[AH c]at q
  refine Jt (by lia) ⟨_,rfl,_,rfl,a,_,_,.int (ns.getD k 0),rfl,rfl,hS,?_,_,_,rfl,rfl,(by show(0:Int)<2147483647;decide),q⟩
  refine LN ?_
  rw[Ag,AW c]
  simp [c]
 ·rw[AE c]at q
  exact Ij (by lia) q
def JU(k:Int):List Int:=(List.range k.toNat).map λ(i:Nat)=>k-(i:Int)
def up:Nat->Int->Int->Int->List (List Int)
 |0,_,_,_=>[]
 |n+1,top,w,m=>if w=0 then [[]] else if m<=0 then [] else (JU (if w<top then w else top)).flatMap λf=>(up n f (w-f) (m-1)).map (f :: ·)
theorem Vy(n:Nat)(top m:Int):up (n+1) top 0 m=[[]]:=by simp [up]
theorem VS(n:Nat)(top w m:Int)(h:w≠0)(hm:m<=0):up (n+1) top w m=[]:=by simp [up,h,hm]
theorem V5(n:Nat)(top w m:Int)(h:w≠0)(hm:¬ m<=0):up (n+1) top w m=(JU (if w<top then w else top)).flatMap λf=>(up n f (w-f) (m-1)).map (f :: ·):=by simp [up,h,hm]
theorem pW(f:Nat->Nat)(c:Nat):∀k,(∀i,i<k->f i<=2^(c+i))->((List.range k).map f).sum+2^c<=2^(c+k)
 |0,_=>by simp
 |k+1,h=>by
  have ih:=pW f c k λi hi=>h i (by lia)
  have hk:=h k (by lia)
  rw[CO,Au,Ci,Ca,CZ]
  have e:2^(c+(k+1))=2^(c+k)+2^(c+k):=by rw[<-Nat.add_assoc,Nat.pow_succ];lia
  lia
theorem P7:∀(n:Nat)(top w m:Int),0<=w->(up n top w m).length<=2^w.toNat
 |0,_,_,_,_=>by simp [up]
 |n+1,top,w,m,h0=>by
  by_cases h:w=0
  ·subst h;rw[Vy];simp
  by_cases hm:m<=0
  ·rw[VS n top w m h hm];simp
  rw[V5 n top w m h hm]
  have hk:∀k:Int,k<=w->((JU k).flatMap λf=>(up n f (w-f) (m-1)).map (f :: ·)).length<=2^w.toNat:=by
   intro k hk
   rw[List.length_flatMap]
   unfold JU
   rw[C1]
   have e:(List.map ((λf=>((up n f (w-f) (m-1)).map (f :: ·)).length) ∘ λ(i:Nat)=>k-(i:Int)) (List.range k.toNat))=(List.range k.toNat).map λ(i:Nat)=>(up n (k-(i:Int)) (w-(k-(i:Int))) (m-1)).length:=by
    apply Cn;intro i _;simp
   rw[e]
   have q:=pW (λi=>(up n (k-(i:Int)) (w-(k-(i:Int))) (m-1)).length) (w-k).toNat k.toNat (λi hi=>by
    have ih:=P7 n (k-(i:Int)) (w-(k-(i:Int))) (m-1) (by lia)
    have e2:(w-(k-(i:Int))).toNat=(w-k).toNat+i:=by lia
    rw[e2]at ih
    exact ih)
   by_cases hk0:0<=k
   ·have e3:(w-k).toNat+k.toNat=w.toNat:=by lia
    rw[e3]at q
    exact BE (CV _ _) q
   ·have e4:k.toNat=0:=by lia
    rw[e4];simp
  apply hk
  split<;>lia
theorem Xp{k f:Int}(h:f∈JU k):1<=f/\f<=k:=by
 unfold JU at h
 obtain⟨i,hi,e⟩:=AV.mp h
 have:=At.mp hi
 lia
theorem Np:∀(n:Nat)(top w m:Int),0<=w->∀r∈up n top w m,(r.length:Int)<=w
 |0,_,_,_,_,r,h=>by simp [up]at h
 |n+1,top,w,m,h0,r,hr=>by
  by_cases h:w=0
  ·subst h;rw[Vy]at hr;simp at hr;subst hr;simp
  by_cases hm:m<=0
  ·rw[VS n top w m h hm]at hr;simp at hr
  rw[V5 n top w m h hm]at hr
  obtain⟨f,hf,hr⟩:=BO.mp hr
  obtain⟨r',hr',rfl⟩:=AV.mp hr
  have z:=Xp hf
  have zw:f<=w:=by
   have:(if w<top then w else top)<=w:=by split<;>lia
   lia
  have ih:=Np n f (w-f) (m-1) (by lia) r' hr'
  rw[Ai]
  lia
theorem NX{α β:Type}(g:α->List β):∀{l:List α}{i:Nat}{a:α},l[i]?=some a->(l.take (i+1)).flatMap g=(l.take i).flatMap g++g a
 |[],i,a,e=>by simp at e
 |x::l,0,a,e=>by simp at e;subst e;simp
 |x::l,i+1,a,e=>by
  have ih:=NX g (l:=l) (i:=i) (a:=a) (by simpa using e)
  rw[Dg,BZ,ih,Dg,BZ,Ac]
theorem Xz{α β:Type}(g:α->List β):∀(l:List α)(i:Nat),((l.take i).flatMap g).length<=(l.flatMap g).length
 |[],i=>by simp
 |x::l,0=>by simp
 |x::l,i+1=>by
  have ih:=Xz g l i
  rw[Dg,BZ,BZ,AI,AI]
  lia
theorem Qt{k:Int}{i:Nat}(h:i<k.toNat):(JU k)[i]?=some (k-(i:Int)):=by
 unfold JU
 rw[Ag,EZ h]
 rfl
theorem UL(k:Int):(JU k).length=k.toNat:=by unfold JU;simp
theorem UW{n:Nat}{t w m:Int}(h0:0<=w)(h8:w<=8):(up n t w m).length<=256:=by
 have q:=P7 n t w m h0
 have z:2^w.toNat<=2^8:=ER (by decide) (by lia)
 exact BE q z
abbrev pU:List Str:=["_law_weight", "_law_most", "_law_top"]
def Pn(n:Nat):Sp:=λvs H Q _=>∃t w m:Int,vs=[.int w,.int m,.int t]/\0<=t/\0<=w/\w<=8/\w<n /\
 ∀(l:Addr)(H':Hp),H l=none->Gf H H'->Gh H' l (up n t w m)->Q (.ref l) H'
abbrev nU:List Str:=["_law_weight", "_law_most", "_law_top", "_law_found", "_law_first", "_law_rest"]
theorem VZ:Gj nU pU (HW MQ):=Hx
theorem Tv{n:Nat}(h:n<=1000):n<sizeLine:=Kl (by lia)
theorem mX{n:Nat}(F:Hg K "_law_rows" "_law_rows" MQ f fd)(G:Gw P w K mg base Hk n f fd pU (Pn n))(bF:Ho K fd pU [])(mU:mg "_law_rows" = some (.ref f))(mr:mg "range" = none)(mm:mg "min" = none) :
  Gw P w K mg base Hk (n+1) f fd pU (Pn (n+1)):=by
 refine IJ F VZ λHQ A outer s H vs Q E hr h=>?_
 obtain⟨t,w,m,rfl,ht,h0,h8,hn,q⟩:=h
 refine⟨_,HP (Ia (ID MP (pv 0) HR (IA _)) (HN (Hs (Hy (Ge (Hz Gq) Gq)))) Ip)
  (HP (Hi (i:=3) VZ.nd rfl (Or.inl rfl) (Hy Gq))
  (HP (Ia (ID PN (pv 1) HR (IA _)) (HN (IX Ar rfl (Qj rfl mr (Ge (IT (Y0 rfl) rfl mm EI (Ge (pv 0) (Ge (pv 2) Gq))) (Ge HR (Ge (Na Nb HR) Gq)))) (Hb (i:=4) VZ.nd rfl (Or.inl rfl))
   (HN (IX Ar rfl (Ig (NI G hr rfl mU F.kp bF .nil Mw (Ge (HV Kn (pv 0) (pv 4)) (Ge (HV Kn (pv 1) HR) (Ge (pv 4) Gq))))) (Hb (i:=5) VZ.nd rfl (Or.inl rfl))
    (HN (IZ (Lc BQ BV BW Lu (pv 3) (Ge (HV lW (Hz (Ge (pv 4) Gq)) (pv 5)) Gq)))))))) Ip)
  (HN (Hs (pv 3))))),?_⟩
 refine⟨_,rfl,rfl,_,rfl,?_⟩
 refine Nf (λc=>?_) (λc=>?_)
 ·have c':V.int w=V.int 0:=BD c
  have cw:w=0:=by injection c'
  subst cw
  refine⟨Ik,λp hp=>⟨IH,λl hl=>?_⟩⟩
  have s1:Gf H (Gi H p (.tup [])):=HH hp _
  have s2:=HH hl (.lst [.ref p])
  refine q l _ (s1.free hl) (s1.trans s2) ⟨[.ref p],Gu,?_⟩
  rw[Vy]
  exact .cons ⟨p,[],rfl,s2 _ _ Gu,.nil⟩ .nil
 have cw:w≠0:=λz=>c (AX (congrArg V.int z))
 refine⟨Ik,λl hl=>?_⟩
 have s0:Gf H (Gi H l (.lst [])):=HH hl _
 refine⟨_,rfl,_,_,rfl,rfl,_,rfl,?_⟩
 by_cases c2:¬ 0<m
 ·have cm:m<=0:=by lia
  refine Ij c2 ⟨_,rfl,?_⟩
  refine q l _ hl s0 ⟨[],Gu,?_⟩
  rw[VS n t w m cw cm]
  exact .nil
 have cm:¬ m<=0:=by lia
 refine Jt (by lia) ?_
 have tot:=V5 n t w m cw cm
 have tl:(up (n+1) t w m).length<=256:=UW h0 h8
 have hmin:(if t<w then t else w)=(if w<t then w else t):=by split<;>split<;>lia
 have hk0:0<=(if w<t then w else t):=by split<;>lia
 have hkw:(if w<t then w else t)<=w:=by split<;>lia
 generalize hk:(if w<t then w else t)=k at hk0 hkw tot
 rw[tot]at tl
 refine⟨_,rfl,_,rfl,_,_,rfl,_,rfl,_,_,rfl,⟨by rw[hmin,hk];lia,by rw[hmin,hk];lia,by decide,by decide⟩,?_⟩
 rw[hmin,hk]
 have ek:(k-0).toNat=k.toNat:=by rw[Int.sub_zero]
 rw[ek]
 refine QI (hi:=k) (n:=k.toNat) (λi σ H'=>(∃a b,σ=[some (.int w),some (.int m),some (.int t),some (.ref l),a,b])/\Gf H H'/\Gh H' l (((JU k).take i).flatMap λf=>(up n f (w-f) (m-1)).map (f :: ·))) ?_ ?_ ?_
 ·exact⟨⟨_,_,rfl⟩,s0,[],Gu,by simpa using Paired.nil⟩
 ·rintro i σ H1 hi ⟨⟨a,b,rfl⟩,sH,hL⟩
  have hd:=Qt hi
  have nx:=NX (λf=>(up n f (w-f) (m-1)).map (f :: ·)) hd
  have nle:=Xz (λf=>(up n f (w-f) (m-1)).map (f :: ·)) (JU k) (i+1)
  rw[nx]at nle
  generalize hpre:((JU k).take i).flatMap (λf=>(up n f (w-f) (m-1)).map (f :: ·))=pre at hL nx nle
  obtain⟨pv1,eL,iL⟩:=hL
  refine⟨_,rfl,_,rfl,_,_,rfl,rfl,_,rfl,_,_,rfl,rfl,_,rfl,k-(i:Int),w-(k-(i:Int)),m-1,rfl,by lia,by lia,by lia,by lia,λr H2 fr g1 e1=>?_⟩
  have rl:=Np n (k-(i:Int)) (w-(k-(i:Int))) (m-1) (by lia)
  generalize up n (k-(i:Int)) (w-(k-(i:Int))) (m-1)=HU at e1 nx nle rl
  obtain⟨vs2,e2,i2⟩:=e1
  refine⟨r,rfl,⟨_,HK.of e2⟩,?_⟩
  have hrl:r≠l:=(Iv eL fr).symm
  have l2:=AL i2
  refine Jd (xs:=vs2) (λj σ H'=>(∃b,σ=[some (.int w),some (.int m),some (.int t),some (.ref l),some (.int (k-(i:Int))),b])/\Gf H H'/\H' r=some (.lst vs2)/\Hc H' vs2 HU/\Gh H' l (pre++(HU.take j).map ((k-(i:Int)) :: ·))) ?_ ?_ ?_ ?_
  ·exact⟨⟨_,rfl⟩,sH.trans g1,e2,i2,pv1,g1 _ _ eL,by simpa using Hc.mono (HZ.same g1) iL⟩
  ·rintro j σ H3 _ ⟨_,_,e3,_⟩
   exact HK.of e3
  ·rintro j x σ H3 hx ⟨⟨b,rfl⟩,s3,e3,i3,pv2,eL3,iL3⟩
   obtain⟨row,hrow,hx2⟩:=Paired.get i3 hx
   obtain⟨px,rfl,hpx⟩:=JE hx2
   have len3:pv2.length<sizeLine:=by
    have z:=AL iL3
    have jl:j<HU.length:=by
     have:=(Ab.mp hrow).1
     exact this
    rw[AI,AB,Ah]at z
    rw[AI,AB]at nle
    exact Tv (by lia)
   have fin:∀(p:Addr)(H4:Hp),Gf H3 H4->H4 p=some (.tup (((k-(i:Int))::row).map V.int)) ->
     Yf (.ref l) [.ref p] H4 λ_ H5=>(∃b',[some (V.int w),some (.int m),some (.int t),some (.ref l),some (.int (k-(i:Int))),some (.ref px)]=[some (.int w),some (.int m),some (.int t),some (.ref l),some (.int (k-(i:Int))),b'])/\Gf H H5/\H5 r=some (.lst vs2)/\Hc H5 vs2 HU/\Gh H5 l (pre++(HU.take (j+1)).map ((k-(i:Int)) :: ·)):=by
    intro p H4 s4 hp
    have eL4:=s4 _ _ eL3
    have t4:HZ H4 (Gi H4 l (.lst (pv2++[.ref p]))):=ML eL4 _
    refine⟨l,pv2,.ref p,rfl,rfl,eL4,len3,⟨_,rfl⟩,Kc hl (s3.trans s4) _,?_,Hc.mono ((HZ.same s4).trans t4) i3,pv2++[.ref p],Gu,?_⟩
    ·rw[Ha hrl];exact s4 _ _ e3
    ·have q1:(HU.take (j+1)).map ((k-(i:Int)) :: ·)=(HU.take j).map ((k-(i:Int)) :: ·)++[(k-(i:Int))::row]:=by
      rw[List.take_add_one,hrow];simp
     rw[q1,<-Ac]
     exact Cc (Hc.mono ((HZ.same s4).trans t4) iL3) (Dat.mono t4 (Jx hp))
   refine⟨_,rfl,.inl ⟨rfl,_,HK.of eL3⟩,_,rfl,IH,λp hp=>⟨_,rfl,p,px,[.int (k-(i:Int))],row.map V.int,rfl,rfl,HL.of Gu,HL.of (HH hp _ _ _ hpx),(by simp),?_,λz=>?_,λz p2 hp2=>?_⟩⟩
   ·have zr:=rl row (Ad hrow)
    rw[AB]
    exact small (by show 1+row.length<=100000;lia)
   ·have zr:row=[]:=by simpa using z
    subst zr
    exact fin p _ (HH hp _) Gu
   ·exact fin p2 _ ((HH hp _).trans (HH hp2 _)) Gu
  ·rintro σ H3 ⟨⟨b,rfl⟩,s3,e3,i3,hL3⟩
   refine⟨⟨_,_,rfl⟩,s3,?_⟩
   rw[nx]
   rw[l2,Bh]at hL3
   exact hL3
 ·rintro σ H1 ⟨⟨a,b,rfl⟩,sH,hL⟩
  refine⟨_,rfl,q l H1 hl sH ?_⟩
  rw[tot]
  have z:(JU k).take k.toNat=JU k:=by rw[<-UL k,Bh]
  rw[z]at hL
  exact hL
theorem nI:Gw P w K mg base Hk 0 f fd pU (Pn 0):=by
 have no:∀vs H Q E,¬ Pn 0 vs H Q E:=λvs H Q E h=>by
  obtain⟨t,w,m,_,_,h0,_,h1,_⟩:=h
  lia
 exact⟨λvs H Q E h=>absurd h (no vs H Q E),λA outer s H args us vs Q E _ _ _ _ h=>absurd h (no vs H Q E)⟩
theorem Sf(F:Hg K "_law_rows" "_law_rows" MQ f fd)(bF:Ho K fd pU [])(mU:mg "_law_rows" = some (.ref f))(mr:mg "range" = none)(mm:mg "min" = none):∀n,Gw P w K mg base Hk n f fd pU (Pn n)
 |0=>nI
 |n+1=>mX F (Sf F bF mU mr mm n) bF mU mr mm
abbrev MC:List Str:=["top", "weight", "most"]
def PP(n:Nat):Sp:=λvs H Q _=>∃t w m:Int,vs=[.int t,.int w,.int m]/\0<=t/\0<=w/\w<=8/\w<n /\
 ∀(l:Addr)(H':Hp),H l=none->Gf H H'->Gh H' l (up n t w m)->Q (.ref l) H'
def Tw:Sp:=λvs H Q _=>∃w m:Int,vs=[.int w,.int m]/\0<=w/\w<=8 /\
 ∀(l:Addr)(H':Hp),H l=none->Gf H H'->Gh H' l (up 9 w w m)->Q (.ref l) H'
abbrev sP:List Str:=["top", "weight", "most", "found", "first", "rest"]
theorem MA:Gj sP MC (HW U5):=Hx
theorem nK{n:Nat}(F:Hg K "rows_up_to" "rows_up_to" U5 f fd)(G:Gw P w K mg base Hk n f fd MC (PP n))(bF:Ho K fd MC [])(mU:mg "rows_up_to" = some (.ref f))(mr:mg "range" = none)(mm:mg "min" = none) :
  Gw P w K mg base Hk (n+1) f fd MC (PP (n+1)):=by
 refine IJ F MA λHQ A outer s H vs Q E hr h=>?_
 obtain⟨t,w,m,rfl,ht,h0,h8,hn,q⟩:=h
 refine⟨_,HP (Ia (ID MP (pv 1) HR (IA _)) (HN (Hs (Hy (Ge (Hz Gq) Gq)))) Ip)
  (HP (Ia (ID Q6 (pv 2) HR (IA _)) (HN (Hs (Hy Gq))) Ip)
  (HP (Hi (i:=3) MA.nd rfl (Or.inl rfl) (Hy Gq))
  (HP (IX Ar rfl (Qj rfl mr (Ge (IT (Y0 rfl) rfl mm EI (Ge (pv 0) (Ge (pv 1) Gq))) (Ge HR (Ge (Na Nb HR) Gq)))) (Hb (i:=4) MA.nd rfl (Or.inl rfl))
   (HN (IX Ar rfl (Ig (NI G hr rfl mU F.kp bF .nil Mw (Ge (pv 4) (Ge (HV Kn (pv 1) (pv 4)) (Ge (HV Kn (pv 2) HR) Gq))))) (Hb (i:=5) MA.nd rfl (Or.inl rfl))
    (HN (IZ (Lc BQ BV BW Lu (pv 3) (Ge (HV lW (Hz (Ge (pv 4) Gq)) (pv 5)) Gq)))))))
  (HN (Hs (pv 3)))))),?_⟩
 refine⟨_,rfl,rfl,_,rfl,?_⟩
 refine Nf (λc=>?_) (λc=>?_)
 ·have c':V.int w=V.int 0:=BD c
  have cw:w=0:=by injection c'
  subst cw
  refine⟨Ik,λp hp=>⟨IH,λl hl=>?_⟩⟩
  have s1:Gf H (Gi H p (.tup [])):=HH hp _
  have s2:=HH hl (.lst [.ref p])
  refine q l _ (s1.free hl) (s1.trans s2) ⟨[.ref p],Gu,?_⟩
  rw[Vy]
  exact .cons ⟨p,[],rfl,s2 _ _ Gu,.nil⟩ .nil
 have cw:w≠0:=λz=>c (AX (congrArg V.int z))
 refine⟨_,rfl,_,_,rfl,rfl,_,rfl,?_⟩
 refine Nf (λc2=>?_) (λc2=>?_)
 ·have cm:m<=0:=BD c2
  refine⟨Ik,λl hl=>?_⟩
  refine q l _ hl (HH hl _) ⟨[],Gu,?_⟩
  rw[VS n t w m cw cm]
  exact .nil
 have cm:¬ m<=0:=λz=>c2 (AX z)
 refine⟨Ik,λl hl=>?_⟩
 have s0:Gf H (Gi H l (.lst [])):=HH hl _
 have tot:=V5 n t w m cw cm
 have tl:(up (n+1) t w m).length<=256:=UW h0 h8
 have hk0:0<=(if w<t then w else t):=by split<;>lia
 have hkw:(if w<t then w else t)<=w:=by split<;>lia
 generalize hk:(if w<t then w else t)=k at hk0 hkw tot
 rw[tot]at tl
 refine⟨_,rfl,_,rfl,_,_,rfl,_,rfl,_,_,rfl,⟨by rw[hk];lia,by rw[hk];lia,by decide,by decide⟩,?_⟩
 rw[hk]
 have ek:(k-0).toNat=k.toNat:=by rw[Int.sub_zero]
 rw[ek]
 refine QI (hi:=k) (n:=k.toNat) (λi σ H'=>(∃a b,σ=[some (.int t),some (.int w),some (.int m),some (.ref l),a,b])/\Gf H H'/\Gh H' l (((JU k).take i).flatMap λf=>(up n f (w-f) (m-1)).map (f :: ·))) ?_ ?_ ?_
 ·exact⟨⟨_,_,rfl⟩,s0,[],Gu,by simpa using Paired.nil⟩
 ·rintro i σ H1 hi ⟨⟨a,b,rfl⟩,sH,hL⟩
  have hd:=Qt hi
  have nx:=NX (λf=>(up n f (w-f) (m-1)).map (f :: ·)) hd
  have nle:=Xz (λf=>(up n f (w-f) (m-1)).map (f :: ·)) (JU k) (i+1)
  rw[nx]at nle
  generalize hpre:((JU k).take i).flatMap (λf=>(up n f (w-f) (m-1)).map (f :: ·))=pre at hL nx nle
  obtain⟨pv1,eL,iL⟩:=hL
  refine⟨_,rfl,_,rfl,_,rfl,_,_,rfl,rfl,_,rfl,_,_,rfl,rfl,k-(i:Int),w-(k-(i:Int)),m-1,rfl,by lia,by lia,by lia,by lia,λr H2 fr g1 e1=>?_⟩
  have rl:=Np n (k-(i:Int)) (w-(k-(i:Int))) (m-1) (by lia)
  generalize up n (k-(i:Int)) (w-(k-(i:Int))) (m-1)=HU at e1 nx nle rl
  obtain⟨vs2,e2,i2⟩:=e1
  refine⟨r,rfl,⟨_,HK.of e2⟩,?_⟩
  have hrl:r≠l:=(Iv eL fr).symm
  have l2:=AL i2
  refine Jd (xs:=vs2) (λj σ H'=>(∃b,σ=[some (.int t),some (.int w),some (.int m),some (.ref l),some (.int (k-(i:Int))),b])/\Gf H H'/\H' r=some (.lst vs2)/\Hc H' vs2 HU/\Gh H' l (pre++(HU.take j).map ((k-(i:Int)) :: ·))) ?_ ?_ ?_ ?_
  ·exact⟨⟨_,rfl⟩,sH.trans g1,e2,i2,pv1,g1 _ _ eL,by simpa using Hc.mono (HZ.same g1) iL⟩
  ·rintro j σ H3 _ ⟨_,_,e3,_⟩
   exact HK.of e3
  ·rintro j x σ H3 hx ⟨⟨b,rfl⟩,s3,e3,i3,pv2,eL3,iL3⟩
   obtain⟨row,hrow,hx2⟩:=Paired.get i3 hx
   obtain⟨px,rfl,hpx⟩:=JE hx2
   have len3:pv2.length<sizeLine:=by
    have z:=AL iL3
    have jl:j<HU.length:=by
     have:=(Ab.mp hrow).1
     exact this
    rw[AI,AB,Ah]at z
    rw[AI,AB]at nle
    exact Tv (by lia)
   have fin:∀(p:Addr)(H4:Hp),Gf H3 H4->H4 p=some (.tup (((k-(i:Int))::row).map V.int)) ->
     Yf (.ref l) [.ref p] H4 λ_ H5=>(∃b',[some (V.int t),some (.int w),some (.int m),some (.ref l),some (.int (k-(i:Int))),some (.ref px)]=[some (.int t),some (.int w),some (.int m),some (.ref l),some (.int (k-(i:Int))),b'])/\Gf H H5/\H5 r=some (.lst vs2)/\Hc H5 vs2 HU/\Gh H5 l (pre++(HU.take (j+1)).map ((k-(i:Int)) :: ·)):=by
    intro p H4 s4 hp
    have eL4:=s4 _ _ eL3
    have t4:HZ H4 (Gi H4 l (.lst (pv2++[.ref p]))):=ML eL4 _
    refine⟨l,pv2,.ref p,rfl,rfl,eL4,len3,⟨_,rfl⟩,Kc hl (s3.trans s4) _,?_,Hc.mono ((HZ.same s4).trans t4) i3,pv2++[.ref p],Gu,?_⟩
    ·rw[Ha hrl];exact s4 _ _ e3
    ·have q1:(HU.take (j+1)).map ((k-(i:Int)) :: ·)=(HU.take j).map ((k-(i:Int)) :: ·)++[(k-(i:Int))::row]:=by
      rw[List.take_add_one,hrow];simp
     rw[q1,<-Ac]
     exact Cc (Hc.mono ((HZ.same s4).trans t4) iL3) (Dat.mono t4 (Jx hp))
   refine⟨_,rfl,.inl ⟨rfl,_,HK.of eL3⟩,_,rfl,IH,λp hp=>⟨_,rfl,p,px,[.int (k-(i:Int))],row.map V.int,rfl,rfl,HL.of Gu,HL.of (HH hp _ _ _ hpx),(by simp),?_,λz=>?_,λz p2 hp2=>?_⟩⟩
   ·have zr:=rl row (Ad hrow)
    rw[AB]
    exact small (by show 1+row.length<=100000;lia)
   ·have zr:row=[]:=by simpa using z
    subst zr
    exact fin p _ (HH hp _) Gu
   ·exact fin p2 _ ((HH hp _).trans (HH hp2 _)) Gu
  ·rintro σ H3 ⟨⟨b,rfl⟩,s3,e3,i3,hL3⟩
   refine⟨⟨_,_,rfl⟩,s3,?_⟩
   rw[nx]
   rw[l2,Bh]at hL3
   exact hL3
 ·rintro σ H1 ⟨⟨a,b,rfl⟩,sH,hL⟩
  refine⟨_,rfl,q l H1 hl sH ?_⟩
  rw[tot]
  have z:(JU k).take k.toNat=JU k:=by rw[<-UL k,Bh]
  rw[z]at hL
  exact hL
theorem mJ:Gw P w K mg base Hk 0 f fd MC (PP 0):=by
 have no:∀vs H Q E,¬ PP 0 vs H Q E:=λvs H Q E h=>by
  obtain⟨t,w,m,_,_,h0,_,h1,_⟩:=h
  lia
 exact⟨λvs H Q E h=>absurd h (no vs H Q E),λA outer s H args us vs Q E _ _ _ _ h=>absurd h (no vs H Q E)⟩
theorem Uc(F:Hg K "rows_up_to" "rows_up_to" U5 f fd)(bF:Ho K fd MC [])(mU:mg "rows_up_to" = some (.ref f))(mr:mg "range" = none)(mm:mg "min" = none):∀n,Gw P w K mg base Hk n f fd MC (PP n)
 |0=>mJ
 |n+1=>nK F (Uc F bF mU mr mm n) bF mU mr mm
theorem gJ:Gj ["weight", "most"] ["weight", "most"] (HW jL):=Hx
theorem fO(F:Hg K "rows" "rows" jL g gd)(G:Gw P w K mg base Hk 9 f fd MC (PP 9))(bF:Ho K fd MC [])(kF:W.keepIn K (.ref f)=true)(mU:mg "rows_up_to" = some (.ref f)) :
  Gw P w K mg base Hk 10 g gd ["weight", "most"] Tw:=by
 refine IJ F gJ λHQ A outer s H vs Q E hr h=>?_
 obtain⟨w,m,rfl,h0,h8,q⟩:=h
 refine⟨_,HN (Hs (NI G hr rfl mU kF bF .nil Mw (Ge (pv 0) (Ge (pv 0) (Ge (pv 1) Gq))))),?_⟩
 exact⟨_,rfl,_,rfl,_,rfl,w,w,m,rfl,h0,h0,h8,by lia,q⟩
end
section
variable{P:Program}{w:World}{K:W.Frag}{mg:Str->Option Value}{base:Heap}{f g:Addr}{fd gd:FuncData}
theorem RC:∀{d:List Gb},Nd d->∀{t:Gb},t∈d->IU d t.1=some t.2
 |[],_,t,h=>by simp at h
 |u::r,h,t,ht=>by
  obtain⟨h1,h2⟩:=Cd.mp (show(u.1::r.map (·.1)).Nodup from h)
  rcases AO.mp ht with rfl|ht
  ·simp [IU,Bq]
  ·have e:¬ u.1=t.1:=λz=>h1 (z▸AV.mpr ⟨t,ht,rfl⟩)
   have ih:=RC h2 ht
   unfold IU at ih ⊢
   rw[Bq,AN e]
   exact ih
abbrev qD:List Str:=["_law_powers", "_law_total"]
theorem gG:qD.Nodup:=by decide +kernel
theorem dX:Gj ["_law_total"] ["_law_total"] (HW Vu):=Hx
def N5:Sp:=λvs H Q _=>∃(a:Addr)(ts:List Gb),vs=[.ref a]/\H a=some (.dT (II (Hu ts)))/\ts.length<=100000/\∀(l:Addr)(H':Hp),H l=none->(∀b u,b≠a->H b=some u->H' b=some u)->Gh H' l (norm ts)->Q (.ref l) H'
theorem Wu(F:Hg K "_law_plain" "_law_plain" Vu f fd)(ms:mg "sorted" = none):Gw P w K mg base Hk 2 f fd ["_law_total"] N5:=by
 refine IJ F dX λHQ A outer s H vs Q E hr h=>?_
 obtain⟨d,ts,rfl,h1,HX,q⟩:=h
 have hu:=Ra hr
 have h8:=Pb hr
 refine⟨_,HN (Hs (pJ (α:=Gb) rfl h8 rfl ms (Ge (JO (N':=qD) (src:=[none,some 0]) rfl (XS (pv 0)) (I0 (HW Vu) ["_law_total"] (by decide +kernel))
   (λb=>Hb (i:=0) gG rfl (Or.inl rfl))
   (λb=>Pq (ID S8 (N1 hu (pv 1) (pv 0) (λ_ _=>rfl)) HR (IA _)))
   (λb=>Hz (Ge (pv 0) (Ge (N1 hu (pv 1) (pv 0) (λ_ _=>rfl)) Gq)))) Gq))),?_⟩
 have dl:=ON ts
 refine⟨_,rfl,d,Hu ts,rfl,h1,λo b D hD=>?_⟩
 have hd1:(Gi H d (.frz o (.dT (II (Hu ts))))) d=some (.frz o (.dT (II (Hu ts)))):=Gu
 have dD:D≠d:=λz=>by rw[z,hd1]at hD;cases hD
 refine dH (α:=Gb) hD hd1 (λσ=>∃c,σ=[c,some (.ref d)]) (λi=>((Hu ts)[i]?).bind λt=>if t.2≠0 then some t else none) (small (by lia)) ⟨_,rfl⟩ ?_ ?_
 ·rintro i t k σ H2 Yes No ht hk ⟨c,rfl⟩ s3 yes no
  have hd3:=s3 _ _ hd1
  have g:IR H2 d (.ref k) (KJ (II (Hu ts)) (t.1.map Sum.inl)):=.inr ⟨_,_,k,.inr ⟨o,hd3⟩,rfl,by rw[J7];exact hk,rfl⟩
  rw[Ng,RC (Pe ts) (Ad ht)]at g
  refine⟨_,rfl,_,rfl,d,.int t.2,rfl,g,rfl,_,rfl,?_⟩
  by_cases c0:t.2=0
  ·have e0:(!decide (V.int t.2=V.int 0))=false:=by rw[AX (congrArg V.int c0)];rfl
   rw[e0]
   refine KW ?_
   exact no _ _ ⟨_,rfl⟩ (Gf.refl _) (by rw[ht,Co,AE (by simpa using c0)])
  ·have e0:(!decide (V.int t.2=V.int 0))=true:=by
    rw[AN (λz=>c0 (by injection z))]
    rfl
   rw[e0]
   refine Jr ⟨_,rfl,_,rfl,_,rfl,d,.int t.2,rfl,g,IV,λr hr=>?_⟩
   exact yes _ _ _ t ⟨_,rfl⟩ (HH hr _) (by rw[ht,Co,AH (by simpa using c0)]) (JY Gu (HH hr _ _ _ hk))
 ·intro H2 s3 hL
  refine⟨D,_,rfl,hL,λ_ _=>True.intro,λp vs' l' hp pm so it=>?_⟩
  have s4:=s3.trans (HH hp (.lst vs'))
  have fp:=s3.free hp
  have pd:p≠d:=λz=>by rw[z,hd1]at fp;cases fp
  refine q p _ (by rw[Ha pd]at fp;exact fp) (λb u hb e=>s4 b u (by rw[Ha hb];exact e)) ⟨vs',Gu,?_⟩
  have e:l'=norm ts:=by
   refine ZA ?_ so
   rw[KC,VB (λt:Gb=>t.2≠0) (λt=>t),List.map_id']at pm
   exact pm
  rw[<-e]
  exact Hc.mono (S4 hp _) it
end
section
variable{P:Program}{w:World}{K:W.Frag}{mg:Str->Option Value}{base:Heap}{f g:Addr}{fd gd:FuncData}
theorem dA{K:W.Frag}{a:Addr}{xs:List V}{σ0:St}{H1:Hp}{D:Addr}{R:Hp->Prop}{g:TG}{tc:TT}{te:TE}(Pv:Nat->List V->St->Hp->Prop)(hn:xs.length<=sizeLine)(h0:Pv 0 [] σ0 (Gi H1 D (.lst [])))(hs:∀i ys σ H,Pv i ys σ H->HL K H a xs)
  (IC:∀(i:Nat)(x:V)(ys:List V)(σ':St)(H':Hp)(Yes:V->St->Hp->Prop)(No:St->Hp->Prop),xs[i]?=some x->H' D=some (.lst ys)->Pv i ys σ' H'->(∀y σ2 H4,H4 D=some (.lst ys)->Pv (i+1) (ys++[y]) σ2 (Gi H4 D (.lst (ys++[y])))->Yes y σ2 H4) ->
   g x σ' H' λσ2 H2=>tc σ2 H2 λok H3=>if ok=true then te σ2 H3 λy H4=>Yes y σ2 H4 else No σ2 H3)
  (hend:∀ys σ' H',H' D=some (.lst ys)->Pv xs.length ys σ' H'->R H') :
  ∃W:Nat->Nat->St->Hp->Prop,(∃m,W 0 m σ0 (Gi H1 D (.lst [])))/\∀i m σ' H',W i m σ' H' ->
  ((La K a).stop i H'/\R H')∨((La K a).go i H'/\∃N:St->Hp->Prop,(∀σ'' H'',N σ'' H''->∃m',m'<m/\W (i+1) m' σ'' H'') /\
   ∀x H'',(La K a).yld i H' x H''->g x σ' H'' λσ2 H2=>tc σ2 H2 λok H3=>if ok=true then te σ2 H3 λy H4=>∃ys,H4 D=some (.lst ys)/\ys.length<sizeLine/\N σ2 (Gi H4 D (.lst (ys++[y]))) else N σ2 H3):=by
 refine⟨λi m σ' H'=>m=xs.length-i/\i<=xs.length/\∃ys,ys.length<=i/\H' D=some (.lst ys)/\Pv i ys σ' H',⟨xs.length,by simp,Az _,[],AG _,Gu,h0⟩,?_⟩
 rintro i m σ' H' ⟨rfl,hi,ys,ly,eD,pv⟩
 have l1:=hs i ys σ' H' pv
 by_cases hlt:i<xs.length
 ·refine .inr ⟨⟨xs,xs[i],l1,AW hlt⟩,λσ2 H2=>∃ys,ys.length<=i+1/\H2 D=some (.lst ys)/\Pv (i+1) ys σ2 H2,λσ2 H2 c=>⟨xs.length-(i+1),by lia,rfl,hlt,c⟩,?_⟩
  rintro x H'' ⟨rfl,hx⟩
  exact IC i x ys σ' H'' _ _ (hx xs l1) eD pv (λy σ2 H4 e4 p4=>⟨ys,e4,by lia,ys++[y],by simp;exact ly,Gu,p4⟩)
 ·obtain rfl:i=xs.length:=by lia
  exact .inl ⟨⟨xs,l1,AG _⟩,hend ys σ' H' eD pv⟩
theorem Ow{r:List Int}(h:Ic r=true):(∀x∈r,1<=x)/\r.sum<=8:=by
 unfold Ic at h
 rw[AM,AM,Aj,AZ]at h
 exact⟨λx hx=>BD (h.1.1 x hx),h.2⟩
theorem NW:∀(r:List Int),(∀x∈r,1<=x)->((r.map Int.toNat).sum:Int)=r.sum/\(r.length:Int)<=r.sum
 |[],_=>⟨rfl,Df _⟩
 |x::r,h=>by
  obtain⟨a,b⟩:=NW r λy hy=>h y (AK _ hy)
  have:=h x (AJ ..)
  rw[Ae,BX,BX,Ai]
  lia
theorem XJ{x:Int}(h1:1<=x)(h8:x<=8):Ic [x]=true:=by
 unfold Ic
 rw[C7,AX h1]
 simp
 exact h8
theorem WE:∀{r:List Int},(∀x∈r,1<=x)->∀x∈r,x<=r.sum
 |[],_,x,hx=>by simp at hx
 |y::r,h,x,hx=>by
  have h0:=(NW r λz hz=>h z (AK _ hz)).2
  have h1:=h y (AJ ..)
  rw[BX]
  rcases AO.mp hx with rfl|hx
  ·lia
  ·have:=WE (λz hz=>h z (AK _ hz)) x hx
   lia
theorem X0(x:Int)(k:Nat):(List.replicate k [x]).flatten=List.replicate k x:=by
 induction k with
 |zero=>rfl
 |succ k ih=>rw[A4,Bv,ih,A4];rfl
abbrev PK:List Str:=["many", "number"]
theorem iF:Gj PK PK (HW XA):=Hx
def Ih(n k:Nat):List Gb:=if n<k then [] else JL n (List.replicate k 1)
def L5(ff:Nat->Nat->List Gb):Sp:=λvs H Q _=>∃n k:Nat,vs=[.int n,.int k]/\1<=n/\n<=4/\k<=8/\∀(a:Addr)(H':Hp),H a=none->Gf H H'->Gh H' a (ff n k)->Q (.ref a) H'
theorem fX:∀k∈List.range 5,Ic (List.replicate k 1)=true:=by decide +kernel
theorem Yw(F:Hg K "elementary" "elementary" XA f fd)(GE:Hd P w K mg base 6 "exchange_sum" OF Mo):Gw P w K mg base Hk 7 f fd PK (L5 Ih):=by
 refine IJ F iF λHQ A outer s H vs Q E hr h=>?_
 obtain⟨n,k,rfl,n1,n4,k8,q⟩:=h
 refine⟨_,HP (Ia (ID PN (pv 1) (pv 0) (IA _)) (HN (Hs (Hy Gq))) Ip)
  (HN (Hs (Hq GE hr rfl (Ge (pv 0) (Ge (HV WD (Hz (Ge HR Gq)) (pv 1)) Gq))))),?_⟩
 refine⟨_,rfl,_,rfl,_,_,rfl,rfl,_,rfl,?_⟩
 by_cases c:n<k
 ·refine Jt (by lia) ?_
  refine⟨Ik,λl hl=>q l _ hl (HH hl _) ⟨[],Gu,?_⟩⟩
  rw[Ih,AH c]
  exact .nil
 ·refine Ij (by lia) ?_
  refine⟨_,rfl,IH,λt0 h0=>?_⟩
  have s0:=HH h0 (.tup [.int 1])
  refine⟨_,rfl,t0,[1],_,rfl,rfl,Gu,by simp,by lia,by lia,small (by show 1*_<=100000;lia),λt1 H1 s1 h1=>?_⟩
  rw[X0,Aw]at h1
  refine⟨n,t1,List.replicate k 1,rfl,n1,n4,h1,by rw[BA];lia,fX k (At.mpr (by lia)),λa H2 ha s2 hL=>?_⟩
  refine q a H2 (s0.free (s1.free ha)) (s0.trans (s1.trans s2)) ?_
  rw[Ih,AE c]
  exact hL
def Ol(ff:Nat->Nat->List Gb):Sp:=λvs H Q _=>∃(n:Nat)(p:Addr)(r:List Int),vs=[.int n,.ref p]/\1<=n/\n<=4/\H p=some (.tup (r.map V.int))/\Ic r=true/\∀(a:Addr)(H':Hp),H a=none->Gf H H'->Gh H' a (JJ (ff n) n (r.map Int.toNat))->Q (.ref a) H'
abbrev PH:List Str:=["many", "row"]
abbrev oP:List Str:=["number", "many"]
theorem cH:oP.Nodup:=by decide +kernel
theorem fM:Gj PH PH (HW V7):=Hx
theorem Zu(F:Hg K "elementary_product" "elementary_product" V7 f fd)(GE:Hd P w K mg base 7 "elementary" PK (L5 Ih))(GP:Hd P w K mg base 7 "product" ["many", "factors"] MT)(hF:∀n k:Nat,1<=n->n<=4->1<=k->k<=8->Mj n k (Ih n k)):Gw P w K mg base Hk 8 f fd PH (Ol Ih):=by
 refine IJ F fM λHQ A outer s H vs Q E hr h=>?_
 obtain⟨n,p,r,rfl,n1,n4,hp,hB,q⟩:=h
 refine⟨_,(HN (Hs (Hq GP hr rfl (Ge (pv 0) (Ge (JO (N':=oP) (src:=[none,some 0]) rfl (O3 (pv 1)) (I0 (HW V7) PH (by decide +kernel))
   (λb=>Hb (i:=0) cH rfl (Or.inl rfl)) (λb=>Jh) (λb=>Hq GE hr rfl (Ge (pv 1) (Ge (pv 0) Gq)))) Gq))))),?_⟩
 obtain⟨low,s8⟩:=Ow hB
 obtain⟨e8,l8⟩:=NW r low
 obtain⟨H1,eH1⟩:∃H1,H1=H:=⟨_,rfl⟩
 have s1:Gf H H1:=by rw[eH1];exact λ_ _ e=>e
 rw[<-eH1]
 have hp1:=s1 _ _ hp
 refine⟨_,rfl,_,rfl,p,rfl,⟨_,HL.of hp1⟩,λbk D hD=>?_⟩
 refine dA (xs:=r.map V.int) (λi ys σ H'=>(∃c,σ=[c,some (.int n)])/\(∀b o,H1 b=some o->H' b=some o)/\∃as:List Addr,ys=as.map V.ref/\Paired (λx k=>Gh H' x (Ih n k)/\x≠D) as ((r.map Int.toNat).take i)) (small (by rw[AB];lia)) ?_ ?_ ?_ ?_
 ·exact⟨⟨_,rfl⟩,HH hD _,[],rfl,.nil⟩
 ·rintro i ys σ H' ⟨_,sm,_⟩
  exact HL.of (sm _ _ hp1)
 ·rintro i v ys σ H2 Yes No hv eD ⟨⟨c,rfl⟩,sm,as,rfl,hP⟩ yes
  obtain⟨x,hx,rfl⟩:∃x,r[i]?=some x/\V.int x=v:=by
   rw[Ag]at hv
   cases e:r[i]? with
   |none=>rw[e]at hv;cases hv
   |some y=>rw[e]at hv;exact⟨y,rfl,Al hv⟩
  have xm:=Ad hx
  have x1:=low x xm
  have x8:=WE low x xm
  refine L6 ?_
  refine⟨_,rfl,_,rfl,n,x.toNat,by rw[DI (by lia)];rfl,n1,n4,by lia,λa3 H3 h3 s3 hL=>?_⟩
  have eD3:=s3 _ _ eD
  have na:a3≠D:=λz=>by
   rw[z,eD]at h3
   cases h3
  have tD:∀o,∀{y:Addr}{f:List Gb},y≠D->Gh H3 y f->Gh (Gi H3 D o) y f:=λo {y f} hy ⟨ws,ew,iw⟩=>⟨ws,by rw[Ha hy];exact ew,Hc.mono (λq ys' e'=>by rw[Ha (KL e' eD3 (by intro z;cases z))];exact e') iw⟩
  refine yes _ _ _ eD3 ⟨⟨_,rfl⟩,λb o e=>?_,as++[a3],by rw[Au];rfl,?_⟩
  ·rw[Ha (Iv e hD)]
   exact s3 _ _ (sm b o e)
  ·have ht':((r.map Int.toNat))[i]?=some x.toNat:=by rw[Ag,hx];rfl
   rw[JF ht']
   exact Cc (Paired.mapP hP λy k hk=>⟨tD _ hk.2 (hk.1.mono s3),hk.2⟩) ⟨tD _ na hL,na⟩
 ·rintro ys σ H2 eD ⟨_,sm,as,rfl,hP⟩
  rw[AB,<-AB (f:=Int.toNat),Bh]at hP
  refine⟨Ih n,n,D,as,r.map Int.toNat,rfl,n1,n4,λk k1 k8=>hF n k n1 n4 k1 k8,eD,(Paired.mapP hP λy k hk=>hk.1),by lia,by rw[AB];lia,λk hk=>?_,λl H3 hl s3 hL=>?_⟩
  ·obtain⟨x,hx,rfl⟩:=AV.mp hk
   have:=low x hx
   lia
  ·have sA:Gf H1 H2:=sm
   exact q l H3 (s1.free (sA.free hl)) (s1.trans (sA.trans s3)) hL
abbrev QG:List Str:=["row", "least"]
abbrev qC:List Str:=["number", "least"]
theorem YX:qC.Nodup:=by decide +kernel
theorem kO:Gj QG QG (HW U7):=Hx
def iO(r:List Int)(k:Int):Int:=((r.filter λx=>decide (k<=x)).length:Int)
def UI:Sp:=λvs H Q _=>∃(p:Addr)(r:List Int)(k:Int),vs=[.ref p,.int k]/\H p=some (.tup (r.map V.int))/\r.length<=1000/\∀H',Gf H H'->Q (.int (iO r k)) H'
theorem Zc(r:List Int)(c:Int->Prop)[DecidablePred c](n:Nat)(h:n=r.length):(List.range n).filterMap (λi=>(r[i]?).bind λx=>if c x then some x else none)=r.filter λx=>decide (c x):=by
 rw[h,KC,VB]
 exact List.map_id _
theorem bY(F:Hg K "count_from" "count_from" U7 f fd)(ml:mg "len" = none):Gw P w K mg base Hk 2 f fd QG UI:=by
 refine IJ F kO λHQ A outer s H vs Q E hr h=>?_
 obtain⟨p,r,k,rfl,hp,hl,q⟩:=h
 refine⟨_,HN (Hs (IT K6 rfl ml B2 (Ge (JO (N':=qC) (src:=[none,some 1]) rfl (O3 (pv 0)) (I0 (HW U7) QG (by decide +kernel))
   (λb=>Hb (i:=0) YX rfl (Or.inl rfl)) (λb=>Pq (ID gZ (pv 0) (pv 1) (IA _))) (λb=>pv 0)) Gq))),?_⟩
 refine⟨_,rfl,p,rfl,⟨_,HL.of hp⟩,λbk D hD=>?_⟩
 refine TM (α:=Int) hD (HL.of hp) (λσ=>∃c,σ=[c,some (.int k)]) (λi=>(r[i]?).bind λx=>if k<=x then some x else none) (small (by rw[AB];lia)) ?_ ?_ ?_
 ·exact⟨_,rfl⟩
 ·rintro i v σ H2 Yes No hv ⟨c,rfl⟩ s3 yes no
  obtain⟨x,hx,rfl⟩:∃x,r[i]?=some x/\V.int x=v:=by
   rw[Ag]at hv
   cases e:r[i]? with
   |none=>rw[e]at hv;cases hv
   |some y=>rw[e]at hv;exact⟨y,rfl,Al hv⟩
  refine⟨_,rfl,_,rfl,_,_,rfl,rfl,_,rfl,?_⟩
  by_cases c:k<=x
  ·refine Jt c ⟨_,rfl,?_⟩
   exact yes _ _ _ x ⟨_,rfl⟩ (λ_ _ e=>e) (by rw[hx];exact AH c) rfl
  ·exact Ij c (no _ _ ⟨_,rfl⟩ (λ_ _ e=>e) (by rw[hx];exact AE c))
 rintro H1 s1 ⟨ws,eD,iD⟩
 have lw:=AL iD
 rw[Zc r (λx=>k<=x) _ (by rw[AB])]at lw
 refine⟨D,_,rfl,.inl (HK.of eD),?_⟩
 rw[lw]
 exact q H1 s1
abbrev R5:List Str:=["row"]
abbrev pI:List Str:=["place", "row"]
theorem Zm:pI.Nodup:=by decide +kernel
theorem nN:Gj R5 R5 (HW Vd):=Hx
def Nr(r:List Int):Int:=r.foldl max 0
def IY(r:List Int):List Int:=(List.range (Nr r).toNat).map λ(i:Nat)=>iO r ((i:Int)+1)
theorem Td{r:List Int}{M:Int}(nn:∀x∈r,0<=x)(h:(r=[]/\M=0)∨(M∈r/\∀x∈r,x<=M)):M=Nr r:=by
 have key:∀(l:List Int)(a:Int),(a<=l.foldl max a/\(∀x∈l,x<=l.foldl max a)/\(l.foldl max a=a∨l.foldl max a∈l)):=by
  intro l
  induction l with
  |nil=>intro a;exact⟨Df _,by simp,.inl rfl⟩
  |cons y l ih =>
   intro a
   obtain⟨h1,h2,h3⟩:=ih (max a y)
   rw[B3]
   refine⟨by lia,λx hx=>?_,?_⟩
   ·rcases AO.mp hx with rfl|hx
    ·lia
    ·exact h2 x hx
   ·rcases h3 with h3|h3
    ·rw[h3]
     by_cases c:a<=y
     ·exact .inr (by rw[Int.max_eq_right c];exact AJ ..)
     ·exact .inl (by rw[Int.max_eq_left (by lia)])
    ·exact .inr (AK _ h3)
 obtain⟨h1,h2,h3⟩:=key r 0
 unfold Nr
 rcases h with⟨rfl,rfl⟩|⟨hm,hM⟩
 ·rfl
 ·have a1:=h2 M hm
  rcases h3 with h3|h3
  ·have:=nn M hm
   lia
  ·have:=hM _ h3
   lia
def Rh:Sp:=λvs H Q _=>∃(p:Addr)(r:List Int),vs=[.ref p]/\H p=some (.tup (r.map V.int))/\r.length<=1000/\(∀x∈r,0<=x)/\Nr r<=1000/\∀(t:Addr)(H':Hp),Gf H H'->H' t=some (.tup ((IY r).map V.int))->Q (.ref t) H'
theorem bZ(F:Hg K "turned_over" "turned_over" Vd f fd)(G:Hd P w K mg base 2 "count_from" QG UI)(mx:mg "max" = none)(mr:mg "range" = none)(mt:mg "tuple" = none):Gw P w K mg base Hk 3 f fd R5 Rh:=by
 refine IJ F nN λHQ A outer s H vs Q E hr h=>?_
 obtain⟨p,r,rfl,hp,hl,nn,hm,q⟩:=h
 refine⟨_,HN (Hs (Mh Pj rfl mt CJ (Ge (JO (N':=pI) (src:=[none,some 0]) rfl
   (NO rfl mr (Ge (T9 rfl rfl mx (Ge (pv 0) Gq)) Gq)) (I0 (HW Vd) R5 (by decide +kernel))
   (λb=>Hb (i:=0) Zm rfl (Or.inl rfl)) (λb=>Jh) (λb=>Hq G hr rfl (Ge (pv 1) (Ge (HV JW (pv 0) HR) Gq)))) Gq))),?_⟩
 refine⟨_,rfl,p,r,rfl,.inr (HL.of hp),λM hM=>?_⟩
 rw[Td nn hM]
 have m0:0<=Nr r:=by
  rw[<-Td nn hM]
  rcases hM with⟨_,rfl⟩|⟨hm,_⟩
  ·exact Df _
  ·exact nn M hm
 refine⟨_,rfl,by lia,by lia,λbk D hD=>?_⟩
 refine nW (α:=Int) hD (λσ=>∃c,σ=[c,some (.ref p)]) (λ(i:Nat)=>some (iO r ((i:Int)+1))) (small (by lia)) ?_ ?_ ?_
 ·exact⟨_,rfl⟩
 ·rintro i σ H2 Yes No hi ⟨c,rfl⟩ s3 yes no
  refine L6 ?_
  refine⟨_,rfl,_,rfl,_,_,rfl,rfl,p,r,_,rfl,s3 _ _ hp,hl,λH4 s4=>?_⟩
  rw[Dt]
  exact yes _ _ _ _ ⟨_,rfl⟩ s4 rfl rfl
 rintro H1 s1 ⟨ws,eD,iD⟩
 rw[Qg iD,A7]at eD
 refine⟨D,_,rfl,.inl ⟨HK.of eD,λt ht=>?_⟩⟩
 exact q t _ (s1.trans (HH ht _)) Gu
end
section
variable{P:Program}{w:World}{K:W.Frag}{mg:Str->Option Value}{base:Heap}{f g:Addr}{fd gd:FuncData}
def Ks(n k:Nat)(f:List Gb):Bool:=f.all (λt=>decide (t.1.length=n)&&t.1.all (λx=>decide (0<=x))&&decide (t.1.sum=(k:Int))&&decide (t.2=1))&&decide (f.length<=165)
theorem Vh{n k:Nat}{f:List Gb}(h:Ks n k f=true):Mj n k f:=by
 unfold Ks at h
 rw[AM,Aj,AZ]at h
 have key:∀t∈f,((t.1.length=n/\∀x∈t.1,0<=x)/\t.1.sum=(k:Int))/\t.2=1:=λt ht=>by
  have:=h.1 t ht
  rw[AM,AM,AM,AZ,AZ,AZ,Aj]at this
  exact⟨⟨⟨this.1.1.1,λx hx=>BD (this.1.1.2 x hx)⟩,this.1.2⟩,this.2⟩
 exact⟨⟨λt ht=>(key t ht).1.1.1,λt ht=>(key t ht).1.1.2,λt ht=>by rw[(key t ht).1.2];exact Df _,λt ht=>by rw[(key t ht).2];decide⟩,λt ht=>(key t ht).1.2,h.2⟩
theorem eJ:∀n∈[1,2,3,4],∀k∈[1,2,3,4,5,6,7,8],Ks n k (Ih n k)=true:=by decide +kernel
theorem LG(n k:Nat)(n1:1<=n)(n4:n<=4)(k1:1<=k)(k8:k<=8):Mj n k (Ih n k):=by
 have hn:n∈[1,2,3,4]:=by
  have:n=1∨n=2∨n=3∨n=4:=by lia
  rcases this with rfl|rfl|rfl|rfl<;>simp
 have hk:k∈[1,2,3,4,5,6,7,8]:=by
  have:k=1∨k=2∨k=3∨k=4∨k=5∨k=6∨k=7∨k=8:=by lia
  rcases this with rfl|rfl|rfl|rfl|rfl|rfl|rfl|rfl<;>simp
 exact Vh (eJ n hn k hk)
theorem ZT{r:List Int}(hB:Ic r=true):(r.map Int.toNat).sum<=8/\∀k∈r.map Int.toNat,1<=k:=by
 obtain⟨low,s8⟩:=Ow hB
 obtain⟨e8,l8⟩:=NW r low
 refine⟨by lia,λk hk=>?_⟩
 obtain⟨y,hy,rfl⟩:=AV.mp hk
 have:=low y hy
 lia
def NB(n k:Nat):Pw:=List.replicate k 1++List.replicate (n-k) 0
def Pa:Pw->Bool
 |x::y::r=>decide (y<=x)&&Pa (y::r)
 |_=>true
def fl(n:Nat):List Pw:=((List.range 9).flatMap (wv n)).filter Pa
def OQ(n:Nat)(ks:List Nat):Pw:=ks.foldl (λacc k=>Hv acc (NB n k)) (List.replicate n 0)
def Le(n:Nat)(r:List Int):Bool:=r.all (λx=>decide (1<=x)&&decide (x<=(n:Int)))&&Pa r&&decide (r.length<=8)
def SA(n:Nat)(p:Pw):Bool:=Le n (IY p)&&decide ((IY p).sum=p.sum)&&decide (OQ n ((IY p).map Int.toNat)=p)&&decide (Nr p<=1000)&&Ic (IY p)
theorem U6:∀n∈[1,2,3,4],(fl n).length<=53/\((List.range 9).flatMap (wv n)).length<=495/\(fl n).all (SA n)=true:=by decide +kernel
def pY(n k:Nat):Bool:=decide (cf (Ih n k) (NB n k)=1)&&(Ih n k).all (λt=>decide (t.1=NB n k)||Hj t.1 (NB n k))&&(List.range (n-1)).all (λj=>decide (norm (Jg (Ih n k) j)=norm (Ih n k)))&&decide ((NB n k).length=n)
theorem dF:∀n∈[1,2,3,4],∀k∈List.range (n+1),pY n k=true:=by decide +kernel
theorem KH{n:Nat}(n1:1<=n)(n4:n<=4):n∈[1,2,3,4]:=by
 have:n=1∨n=2∨n=3∨n=4:=by lia
 rcases this with rfl|rfl|rfl|rfl<;>simp
theorem TJ:∀{p:Pw},(∀k,k+1<p.length->p.getD (k+1) 0<=p.getD k 0)->Pa p=true
 |[],_=>rfl
 |[_],_=>rfl
 |x::y::r,h=>by
  unfold Pa
  rw[AM,AZ]
  refine⟨by simpa using h 0 (by simp),TJ λk hk=>?_⟩
  have:=h (k+1) (by simpa using hk)
  simpa using this
theorem ZZ{n:Nat}{p:Pw}(l:p.length=n)(nn:∀x∈p,0<=x)(s:p.sum<=8)(f:Pa p=true):p∈fl n:=by
 have s0:=U1 nn
 refine Dk.mpr ⟨BO.mpr ⟨p.sum.toNat,At.mpr (by lia),Uv n _ p l nn (by lia)⟩,f⟩
theorem Os{n:Nat}{p:Pw}(n1:1<=n)(n4:n<=4)(h:p∈fl n):(((Le n (IY p)=true/\(IY p).sum=p.sum)/\OQ n ((IY p).map Int.toNat)=p)/\Nr p<=1000)/\Ic (IY p)=true:=by
 have:=Aj.mp (U6 n (KH n1 n4)).2.2 p h
 unfold SA at this
 rw[AM,AM,AM,AM,AZ,AZ,AZ]at this
 exact this
theorem lY{n k:Nat}(n1:1<=n)(n4:n<=4)(hk:k<=n):Top (Ih n k) (NB n k) 1/\Hm n (Ih n k)/\(NB n k).length=n:=by
 have:=dF n (KH n1 n4) k (At.mpr (by lia))
 unfold pY at this
 rw[AM,AM,AM,AZ,AZ,Aj,Aj]at this
 obtain⟨⟨⟨a,b⟩,c⟩,d⟩:=this
 refine⟨⟨a,λt ht=>?_⟩,λj hj=>BD (c j (At.mpr (by lia))),d⟩
 have:=b t ht
 rw[Dm,AZ]at this
 exact this
theorem dW{n:Nat}(n1:1<=n)(n4:n<=4):∀ks:List Nat,ks.sum<=8->(∀k∈ks,1<=k/\k<=n)->Top (JJ (Ih n) n ks) (OQ n ks) 1/\Hm n (JJ (Ih n) n ks)/\(OQ n ks).length=n:=by
 refine J4 (λ_ _=>⟨⟨?_,λt ht=>.inl ?_⟩,λk hk=>?_,BA⟩) λks k ih hs hk=>?_
 ·show cf [(List.replicate n 0,1)] (List.replicate n 0)=1
  simp [cf]
 ·rw[AS.mp ht];rfl
 ·have e:Jg [(List.replicate n (0:Int),(1:Int))] k=[(List.replicate n 0,1)]:=by
   show [(swp (List.replicate n (0:Int)) k,(1:Int))]=_
   have:swp (List.replicate n (0:Int)) k=List.replicate n 0:=by
    have:n=1∨n=2∨n=3∨n=4:=by lia
    rcases this with rfl|rfl|rfl|rfl
    ·lia
    ·obtain rfl:k=0:=by lia
     rfl
    ·have:k=0∨k=1:=by lia
     rcases this with rfl|rfl<;>rfl
    ·have:k=0∨k=1∨k=2:=by lia
     rcases this with rfl|rfl|rfl<;>rfl
   rw[this]
  show norm (Jg [(List.replicate n (0:Int),(1:Int))] k)=norm [(List.replicate n (0:Int),(1:Int))]
  rw[e]
 ·rw[Ci,CZ]at hs
  have hk':=hk k (Ap _ (AS.mpr rfl))
  obtain⟨a,b,c⟩:=ih (by lia) λx hx=>hk x (A6 _ hx)
  obtain⟨d,_,_⟩:=X6 n1 n4 (λk k1 k8=>LG n k n1 n4 k1 k8) ks (by lia) λx hx=>(hk x (A6 _ hx)).1
  obtain⟨t,e,l⟩:=lY n1 n4 hk'.2
  have fk:=LG n k n1 n4 hk'.1 (by lia)
  rw[Mc]
  have es:OQ n (ks++[k])=Hv (OQ n ks) (NB n k):=by
   unfold OQ
   rw[CB]
   rfl
  rw[es]
  have tp:=(Top.prd a t d.len fk.deg.len c l).norm
  rw[FZ]at tp
  exact⟨tp,(YT b e d.len fk.deg.len).norm,Vf c l⟩
def LQ(n:Nat)(F:Pw->Int)(T:List Gb):Int:=(T.map λt=>t.2*sm F (JJ (Ih n) n (t.1.map Int.toNat))).sum
theorem Wj(n:Nat)(F:Pw->Int)(T:List Gb)(t:Gb):LQ n F (T++[t])=LQ n F T+t.2*sm F (JJ (Ih n) n (t.1.map Int.toNat)):=by
 unfold LQ
 rw[Au,Ci,Ca,CZ]
structure K3(n b:Nat)(all:List Gb)(ps:List Pw)(T L:List Gb):Prop where
 can:HS L
 even:Hm n L
 deg:Deg n 8 (b+200*T.length) L
 few:L.length<=495
 rows:T.map (·.1)=ps.map IY
 below:∀t∈L,∀p∈ps,Hj t.1 p=true
 nd:ps.Nodup
 mem:∀p∈ps,p∈fl n
 num:∀t∈T,t.2≠0
 bits:∀t∈T,t.2.natAbs<2^(b+200*T.length)
 sum:∀F,sm F all=sm F L+LQ n F T
theorem Vk{n b:Nat}{L:List Gb}(c:HS L)(d:Deg n 8 b L)(n1:1<=n)(n4:n<=4):L.length<=495:=by
 have nd:(L.map (·.1)).Nodup:=by
  rw[List.Nodup,Bw]
  refine c.ord.imp λ{x y} z e=>?_
  rw[e,Jb]at z
  cases z
 have sub:∀p∈L.map (·.1),p∈(List.range 9).flatMap (wv n):=λp hp=>by
  obtain⟨t,ht,rfl⟩:=AV.mp hp
  have s0:=U1 (d.nn t ht)
  have s8:=d.sum t ht
  exact BO.mpr ⟨t.1.sum.toNat,At.mpr (by lia),Uv n _ t.1 (d.len t ht) (d.nn t ht) (by lia)⟩
 have:=Ch nd sub
 rw[AB]at this
 have:=(U6 n (KH n1 n4)).2.1
 lia
theorem K3.start{n b:Nat}{all:List Gb}(c:HS all)(e:Hm n all)(d:Deg n 8 b all)(n1:1<=n)(n4:n<=4):K3 n b all [] [] all :=
 ⟨c,e,d,Vk c d n1 n4,rfl,λ_ _ _ h=>by simp at h,List.nodup_nil,λ_ h=>by simp at h,λ_ h=>by simp at h,λ_ h=>by simp at h,λF=>by simp [LQ]⟩
theorem K3.few'{n b:Nat}{all L T:List Gb}{ps:List Pw}(h:K3 n b all ps T L)(n1:1<=n)(n4:n<=4):T.length<=53:=by
 have e:=congrArg List.length h.rows
 rw[AB,AB]at e
 have:=Ch h.nd h.mem
 have:=(U6 n (KH n1 n4)).1
 lia
theorem K3.lead{n b:Nat}{all L T:List Gb}{ps:List Pw}{t:Gb}(h:K3 n b all ps T (t::L)):t.1∈fl n:=by
 have ht:=AJ (a:=t) (l:=L)
 refine ZZ (h.deg.len t ht) (h.deg.nn t ht) (h.deg.sum t ht) (TJ λk hk=>aF h.can h.even h.deg.len ?_)
 rw[h.deg.len t ht]at hk
 exact hk
def KN(n:Nat)(p:Pw):List Gb:=JJ (Ih n) n ((IY p).map Int.toNat)
theorem gE{n:Nat}{p:Pw}(n1:1<=n)(n4:n<=4)(h:p∈fl n):((IY p).map Int.toNat).sum<=8/\∀k∈(IY p).map Int.toNat,1<=k/\k<=n:=by
 obtain⟨⟨⟨⟨r,_⟩,_⟩,_⟩,hB⟩:=Os n1 n4 h
 refine⟨(ZT hB).1,λk hk=>?_⟩
 obtain⟨x,hx,rfl⟩:=AV.mp hk
 unfold Le at r
 rw[AM,AM,Aj]at r
 have:=r.1.1 x hx
 rw[AM,AZ,AZ]at this
 lia
theorem RI{n:Nat}{p:Pw}(n1:1<=n)(n4:n<=4)(h:p∈fl n):Top (KN n p) p 1/\Hm n (KN n p)/\Deg n 8 153 (KN n p)/\(KN n p).length<=165:=by
 obtain⟨s8,hk⟩:=gE n1 n4 h
 obtain⟨a,b,_⟩:=dW n1 n4 _ s8 hk
 obtain⟨d,_,l⟩:=X6 n1 n4 (λk k1 k8=>LG n k n1 n4 k1 k8) _ s8 λx hx=>(hk x hx).1
 obtain⟨⟨⟨_,e⟩,_⟩,hB⟩:=Os n1 n4 h
 rw[e]at a
 have:=(NW (IY p) (Ow hB).1).2
 have:=(Ow hB).2
 exact⟨a,b,d.mono s8 (by rw[AB];lia),l⟩
theorem Deg.scl{n d b c:Nat}{x:Int}{ts:List Gb}(h:Deg n d b ts)(hx:x.natAbs<2^c):Deg n d (c+b) (scl x ts):=by
 refine⟨λt ht=>?_,λt ht=>?_,λt ht=>?_,λt ht=>?_⟩
 all_goals
  obtain⟨u,hu,rfl⟩:=AV.mp ht
 ·exact h.len u hu
 ·exact h.nn u hu
 ·exact h.sum u hu
 ·exact aJ hx (h.num u hu)
theorem K3.step{n b:Nat}{all L T:List Gb}{ps:List Pw}{t:Gb}(h:K3 n b all ps T (t::L))(n1:1<=n)(n4:n<=4):K3 n b all (ps++[t.1]) (T++[(IY t.1,t.2)]) (norm ((t::L)++ngt (scl t.2 (KN n t.1)))):=by
 have ht:=AJ (a:=t) (l:=L)
 have hl:=h.lead
 obtain⟨tp,ev,dg,ln⟩:=RI n1 n4 hl
 have d1:=(L2.Pl.Deg.ngt (Deg.scl dg (h.deg.num t ht)))
 have d2:=Deg.app (h.deg.mono (AG 8) (CV _ 153)) d1
 have lz:((t::L)++ngt (scl t.2 (KN n t.1))).length<2^10:=by
  rw[AI,OY,Ly]
  have:=h.few
  have:(2:Nat)^10=1024:=by decide
  lia
 have d3:=Deg.norm d2 lz
 have d4:Deg n 8 (b+200*(T++[(IY t.1,t.2)]).length) (norm ((t::L)++ngt (scl t.2 (KN n t.1)))):=d3.mono (AG 8) (by rw[AI,BB];lia)
 have sb:=eY (QO h.can) tp
 refine⟨JI _,lJ h.even ev,d4,Vk (JI _) d4 n1 n4,?_,λu hu p hp=>?_,?_,λp hp=>?_,λu hu=>?_,λu hu=>?_,λF=>?_⟩
 ·rw[Au,Au,h.rows];rfl
 ·have u1:=sb u hu
  rcases Aq.mp hp with hp|hp
  ·exact Lv u1 (h.below t ht p hp)
  ·rw[AS.mp hp];exact u1
 ·rw[Ez]
  refine⟨h.nd,by simp,λa ha b hb e=>?_⟩
  rw[AS.mp hb]at e
  have:=h.below t ht a ha
  rw[e,Jb]at this
  cases this
 ·rcases Aq.mp hp with hp|hp
  ·exact h.mem p hp
  ·rw[AS.mp hp];exact hl
 ·rcases Aq.mp hu with hu|hu
  ·exact h.num u hu
  ·rw[AS.mp hu];exact h.can.num t ht
 ·have lt:b+200*T.length<=b+200*(T++[(IY t.1,t.2)]).length:=by rw[AI,BB];lia
  rcases Aq.mp hu with hu|hu
  ·exact JM (h.bits u hu) lt
  ·rw[AS.mp hu];exact JM (h.deg.num t ht) lt
 ·rw[h.sum F,Wj,JV,Kp,O0,Jz]
  show _=_+(_+t.2*sm F (KN n t.1))
  lia
end
section
variable{P:Program}{w:World}{K:W.Frag}{mg:Str->Option Value}{base:Heap}{f g:Addr}{fd gd:FuncData}
abbrev sN:List Str:=["_law_total", "_law_some", "_law_number", "_law_powers", "_law_count"]
abbrev VN:List Str:=["_law_total", "_law_some", "_law_number"]
theorem OH:Gj sN VN (HW Nu):=Hx
def W6(d:Addr)(H H':Hp):Prop:=∀b o,b≠d->H b=some o->H' b=some o
def N4:Sp:=λvs H Q _=>∃(d a:Addr)(x:Int)(acc us:List Gb),vs=[.ref d,.ref a,.int x]/\H d=some (.dT (II (Hu acc)))/\Gh H a us/\(Hu acc).length+us.length<=100000/\x.natAbs<2^100000/\(∀t∈us,t.2.natAbs<2^100000) /\
 ∀H',W6 d H H'->H' d=some (.dT (II (Hu (acc++scl x us))))->Q (.ref d) H'
theorem XU(acc us:List Gb):(Hu (acc++us)).length<=(Hu acc).length+us.length:=by
 revert us
 refine J4 ?_ λus t ih=>?_
 ·rw[BN];exact AG _
 ·rw[<-Ac,NG,AI,BB]
  have:=Ue (Hu (acc++us)) t.1 ((IU (Hu (acc++us)) t.1).getD 0+t.2)
  lia
theorem fF(x:Int)(us:List Gb)(t:Gb):scl x (us++[t])=scl x us++[(t.1,x*t.2)]:=by
 unfold scl
 rw[Au]
 rfl
theorem cC(F:Hg K "_law_put" "_law_put" Nu f fd):Gw P w K mg base Hk 2 f fd VN N4:=by
 refine IJ F OH λHQ A outer s H vs Q E hr h=>?_
 obtain⟨d,a,x,acc,us,rfl,hd,hA,hz,hx,hn,q⟩:=h
 have hu:=Ra hr
 refine⟨_,HP (IX Ar rfl (Ig (pv 1)) (JX rfl (IE (Hb (i:=3) OH.nd rfl (Or.inl rfl)) (IE (Hb (i:=4) OH.nd rfl (Or.inl rfl)) JZ)))
   (HN (QN hu (pv 0) (pv 3) (HV JW (Vc hu (pv 0) (pv 3) HR ⟨rfl,rfl,rfl,rfl⟩) (HV Nk (pv 2) (pv 4))) rfl)))
  (HN (Hs (pv 0))),?_⟩
 obtain⟨vs,eA,iA⟩:=id hA
 have lv:=AL iA
 have na:a≠d:=KL eA hd (by intro z;cases z)
 refine⟨_,rfl,a,rfl,⟨vs,HK.of eA⟩,?_⟩
 refine Jd (xs:=vs) (λi σ H'=>(∃c3 c4,σ=[some (.ref d),some (.ref a),some (.int x),c3,c4])/\H' d=some (.dT (II (Hu (acc++scl x (us.take i)))))/\W6 d H H') ?_ ?_ ?_ ?_
 ·refine⟨⟨_,_,rfl⟩,?_,λ_ _ _ e=>e⟩
  rw[DV,show scl x []=[] from rfl,BN]
  exact hd
 ·rintro i σ H1 _ ⟨_,_,s1⟩
  exact HK.of (s1 _ _ na eA)
 ·rintro i v σ H1 hv ⟨⟨c3,c4,rfl⟩,h1,s1⟩
  obtain⟨t,ht,hi⟩:=Im iA hv
  have hmt:=Ad ht
  have lti:i<us.length:=(Ab.mp ht).1
  obtain⟨p,k1,rfl,hp,hk1⟩:=Jf hi
  have hp1:=s1 _ _ (KL hp hd (by intro z;cases z)) hp
  have hk:=s1 _ _ (KL hk1 hd (by intro z;cases z)) hk1
  refine⟨p,_,rfl,HL.of hp1,rfl,_,_,rfl,_,_,rfl,rfl,?_⟩
  have g:=IR.t (k:=t.1.map Sum.inl) h1 (by rw[J7];exact hk)
  rw[Ng]at g
  have ls:=XU acc (scl x (us.take i))
  rw[Ly,Ah]at ls
  refine⟨_,rfl,d,rfl,.inr ⟨_,.inl h1⟩,_,rfl,_,g,_,rfl,_,rfl,_,_,rfl,rfl,⟨hx,hn t hmt⟩,(IU (Hu (acc++scl x (us.take i))) t.1).getD 0,x*t.2,?_,rfl,_,rfl,_,rfl,d,_,rfl,Ix.t (k:=t.1.map Sum.inl) h1 (by rw[J7];exact hk) ?_,?_⟩
  ·cases IU (Hu (acc++scl x (us.take i))) t.1<;>rfl
  ·rw[Qn]
   exact Kl (by lia)
  ·refine⟨⟨_,_,rfl⟩,?_,λb' o nb e'=>?_⟩
   ·rw[JF ht,fF,<-Ac]
    show _=some (HO.dT (II (Hu (_++[(t.1,x*t.2)]))))
    rw[NG,<-V9]
    exact Gu
   ·rw[Ha nb]
    exact s1 b' o nb e'
 ·rintro σ H1 ⟨⟨c3,c4,rfl⟩,h1,s1⟩
  rw[Af (by lia)]at h1
  exact⟨_,rfl,q H1 s1 h1⟩
end
section
variable{P:Program}{w:World}{K:W.Frag}{mg:Str->Option Value}{base:Heap}{f g:Addr}{fd gd:FuncData}
def K7(x:Int)(s:List Int):List (List Int):=(List.range (s.length+1)).map λk=>s.take k++[x]++s.drop k
def Oe(ks:List Pw)(k:Pw):List Pw:=if k∈ks then ks else ks++[k]
def K5(ks l:List Pw):List Pw:=l.foldl Oe ks
theorem Wv(ks l:List Pw)(k:Pw):K5 ks (l++[k])=Oe (K5 ks l) k:=by
 unfold K5
 rw[CB]
 rfl
theorem cN(ks:List Pw)(k:Pw):(Oe ks k).length<=ks.length+1:=by
 unfold Oe
 split
 ·lia
 ·rw[AI,BB];lia
theorem pL(ks:List Pw):∀l:List Pw,(K5 ks l).length<=ks.length+l.length:=by
 refine J4 (AG _) λl k ih=>?_
 rw[Wv,AI,BB]
 have:=cN (K5 ks l) k
 lia
def KG(found:List Pw)(x:Int):List Pw:=K5 [] (found.flatMap (K7 x))
def Oz(n:Nat)(r:List Int):List Pw:=(r++List.replicate (n-r.length) 0).foldl KG [[]]
theorem mZ{k:Pw}:∀l:List Pw,k∈K5 [] l->k∈l:=by
 refine J4 (λh=>by simp [K5]at h) λl x ih h=>?_
 rw[Wv]at h
 unfold Oe at h
 split at h
 ·exact A6 _ (ih h)
 ·rcases Aq.mp h with h|h
  ·exact A6 _ (ih h)
  ·exact Ap _ h
theorem Za:∀zs:List Int,(zs.foldl KG [[]]).length<=Li zs.length/\∀s∈zs.foldl KG [[]],s.length=zs.length:=by
 refine J4 ⟨AG _,λs hs=>by rw[AS.mp hs]⟩ λzs x ih=>?_
 obtain⟨a,b⟩:=ih
 rw[CB,AI,BB]
 show(KG (zs.foldl KG [[]]) x).length<=_/\∀s∈KG (zs.foldl KG [[]]) x,_
 refine⟨?_,λs hs=>?_⟩
 ·have h1:=pL [] ((zs.foldl KG [[]]).flatMap (K7 x))
  have h2:=VG (K7 x) (zs.length+1) (zs.foldl KG [[]]) λs hs=>by
   unfold K7
   rw[AB,Bx,b s hs]
   exact AG _
  have h3:=ES (zs.length+1) a
  have h4:Li (zs.length+1)=(zs.length+1)*Li zs.length:=rfl
  show(K5 [] ((zs.foldl KG [[]]).flatMap (K7 x))).length<=_
  rw[h4,DU]
  simp only[CD]at h1
  lia
 ·obtain⟨u,hu,hs⟩:=BO.mp (mZ _ hs)
  obtain⟨k,hk,rfl⟩:=AV.mp hs
  have hk:=At.mp hk
  rw[AI,AI,Ah,BH,BB,<-b u hu]
  lia
theorem gM(ks:List Pw)(k:Pw):Je (Kk ks) (k.map Sum.inl) (V.bl true)=Kk (Oe ks k):=by
 have ea:((Kk ks).any λkv=>decide (kv.1=k.map Sum.inl))=decide (k∈ks):=by
  unfold Kk
  rw[HC]
  induction ks with
  |nil=>rfl
  |cons x r ih =>
   rw[B8,ih]
   show(decide ((x.map Sum.inl:List Hl)=k.map Sum.inl)||_)=_
   by_cases e:x=k
   ·subst e
    rw[AX rfl,AX (AJ ..)]
    rfl
   ·rw[AN λz=>e (SD z)]
    by_cases c:k∈r
    ·rw[AX c,AX (AK _ c)];rfl
    ·rw[AN c,AN λz=>(AO.mp z).elim (λz=>e z.symm) c];rfl
 unfold Je Oe
 rw[ea]
 by_cases c:k∈ks
 ·rw[AH (AX c),AH c]
  unfold Kk
  rw[C1]
  apply Cn
  intro t _
  simp only[Function.comp]
  split<;>rfl
 ·rw[AE (by rw[AN c];decide),AE c]
  unfold Kk
  rw[Au]
  rfl
abbrev pP:List Str:=["_law_many", "_law_row", "_law_found", "_law_number", "_law_more", "_law_powers", "_law_place"]
abbrev pX:List Str:=["_law_many", "_law_row"]
abbrev qW:List Str:=["_law_k"]
theorem Y2:qW.Nodup:=by decide +kernel
theorem J5:Gj pP pX (HW Ml):=Hx
def QY:Sp:=λvs H Q _=>∃(n:Nat)(p:Addr)(r:List Int),vs=[.int n,.ref p]/\1<=n/\n<=4/\H p=some (.tup (r.map V.int))/\r.length<=n/\∀(a:Addr)(H':Hp),H a=none->Gf H H'->Gh H' a (Oz n r)->Q (.ref a) H'
theorem mV(k:Nat)(x:Int):((List.range k).filterMap λ(i:Nat)=>some x)=List.replicate k x:=by
 rw[A7,List.map_const',Bx]
theorem WY(F:Hg K "_law_arranged" "_law_arranged" Ml f fd)(ml:mg "list" = none)(mr:mg "range" = none)(mn:mg "len" = none):Gw P w K mg base Hk 2 f fd pX QY:=by
 refine IJ F J5 λHQ A outer s H vs Q E hr h=>?_
 obtain⟨n,p,r,rfl,n1,n4,hp,hl,q⟩:=h
 have hu:=Ra hr
 refine⟨_,HP (Hi (i:=2) J5.nd rfl (Or.inl rfl) (Hy (Ge (Hz Gq) Gq)))
  (HP (IX Ar rfl (Ig (HV Lm (Mh kU rfl ml Cv (Ge (pv 1) Gq)) (JO (N':=qW) (src:=[none]) rfl (NO rfl mr (Ge (HV Kn (pv 0) (IT K6 rfl mn B2 (Ge (pv 1) Gq))) Gq)) (I0 (HW Ml) pP (by decide +kernel)) (λb=>Hb (i:=0) Y2 rfl (Or.inl rfl)) (λb=>Jh) (λb=>HR)))) (Hb (i:=3) J5.nd rfl (Or.inl rfl))
   (HP (Hi (i:=4) J5.nd rfl (Or.inl rfl) PF)
   (HP (IX Ar rfl (Ig (pv 2)) (Hb (i:=5) J5.nd rfl (Or.inl rfl))
    (HN (IX Ar rfl (NO rfl mr (Ge (HV JW (IT K6 rfl mn B2 (Ge (pv 5) Gq)) HR) Gq)) (Hb (i:=6) J5.nd rfl (Or.inl rfl))
     (HN (QN hu (pv 4) (HV L3 (HV L3 (Mz Oi (pv 5) My (NR (pv 6))) (Hz (Ge (pv 3) Gq))) (Mz Sg (pv 5) (NR (pv 6)) My)) O6 rfl)))))
   (HN (Hi (i:=2) J5.nd rfl (Or.inl rfl) (WX rfl rfl ml (pv 4)))))))
  (HN (Hs (pv 2)))),?_⟩
 refine⟨Ik,λe0 h0=>⟨IH,λl0 h1=>?_⟩⟩
 have s0:=HH h0 (.tup [])
 have s1:=HH h1 (.lst [.ref e0])
 have s01:=s0.trans s1
 refine⟨_,rfl,p,_,rfl,.inr (HL.of (s01 _ _ hp)),λq0 h2=>?_⟩
 have s2:=HH h2 (.lst (r.map V.int))
 refine⟨_,rfl,_,rfl,p,_,rfl,.inr (HL.of (s2 _ _ (s01 _ _ hp))),_,_,rfl,rfl,_,rfl,by rw[AB];lia,by rw[AB];lia,λbk D hD=>?_⟩
 rw[AB,show((n:Int)-(r.length:Int)).toNat=n-r.length by lia]
 refine nW (α:=Int) hD (λσ=>∃c,σ=[c]) (λ(i:Nat)=>some (0:Int)) (small (by lia)) ?_ ?_ ?_
 ·exact⟨_,rfl⟩
 ·rintro i σ H2 Yes No hi ⟨c,rfl⟩ s3 yes no
  refine L6 ?_
  exact yes _ _ _ _ ⟨_,rfl⟩ (λ_ _ e=>e) rfl rfl
 rintro H3 s3 ⟨ws,eD,iD⟩
 rw[Qg iD,mV]at eD
 refine⟨q0,D,_,_,rfl,rfl,s3 _ _ Gu,eD,small (by rw[AB,AB,BA];lia),λl1 h4=>?_⟩
 rw[<-Au]
 have s4:=HH h4 (.lst ((r++List.replicate (n-r.length) 0).map V.int))
 have hz4:Gi H3 l1 (.lst ((r++List.replicate (n-r.length) 0).map V.int)) l1=some (.lst ((r++List.replicate (n-r.length) 0).map V.int)):=Gu
 have sA:=s01.trans (s2.trans (s3.trans s4))
 have hl0:Gi H3 l1 (.lst ((r++List.replicate (n-r.length) 0).map V.int)) l0=some (.lst [.ref e0]):=s4 _ _ (s3 _ _ (s2 _ _ Gu))
 have he0:Gi H3 l1 (.lst ((r++List.replicate (n-r.length) 0).map V.int)) e0=some (.tup []):=s4 _ _ (s3 _ _ (s2 _ _ (s1 _ _ Gu)))
 have fl0:H l0=none:=s0.free h1
 unfold Oz at q
 have zn:(r++List.replicate (n-r.length) (0:Int)).length=n:=by rw[AI,BA];lia
 generalize Gi H3 l1 (.lst ((r++List.replicate (n-r.length) 0).map V.int))=G at *
 generalize r++List.replicate (n-r.length) (0:Int)=zs at *
 refine⟨l1,rfl,⟨_,HK.of hz4⟩,?_⟩
 refine Jd (xs:=zs.map V.int) (λi σ H'=>(∃(l:Addr)(c3 c4 c5 c6:Option V),σ=[some (.int n),some (.ref p),some (.ref l),c3,c4,c5,c6]/\Gh H' l ((zs.take i).foldl KG [[]])/\H l=none)/\Gf G H') ?_ ?_ ?_ ?_
 ·exact⟨⟨l0,_,_,_,_,rfl,⟨[.ref e0],hl0,.cons (Jx (r:=[]) he0) .nil⟩,fl0⟩,λ_ _ e=>e⟩
 ·rintro i σ H5 _ ⟨_,s5⟩
  exact HK.of (s5 _ _ hz4)
 ·rintro i v σ H5 hv ⟨⟨l,c3,c4,c5,c6,rfl,⟨vs,eL,iL⟩,fl⟩,s5⟩
  obtain⟨x,hx,rfl⟩:∃x,zs[i]?=some x/\V.int x=v:=by
   rw[Ag]at hv
   cases e:zs[i]? with
   |none=>rw[e]at hv;cases hv
   |some y=>rw[e]at hv;exact⟨y,rfl,Al hv⟩
  have hi:i<zs.length:=(Ab.mp hx).1
  obtain⟨al,am⟩:=Za (zs.take i)
  rw[Ah,Cf (by lia)]at al am
  have b4:Li i<=24:=by
   have:i=0∨i=1∨i=2∨i=3:=by lia
   rcases this with e|e|e|e<;>rw[e]<;>decide
  have nx:(zs.take (i+1)).foldl KG [[]]=K5 [] (((zs.take i).foldl KG [[]]).flatMap (K7 x)):=by
   rw[JF hx,CB]
   rfl
  rw[nx]
  generalize (zs.take i).foldl KG [[]]=fs at al am iL
  have lv:=AL iL
  intro d hd
  have s6:Gf H5 (Gi H5 d (.dT [])):=HH hd _
  refine⟨_,rfl,l,rfl,⟨_,HK.of (s6 _ _ eL)⟩,?_⟩
  refine Jd (xs:=vs) (λj σ H'=>(∃c5 c6,σ=[some (.int n),some (.ref p),some (.ref l),some (.int x),some (.ref d),c5,c6])/\H' d=some (.dT (Kk (K5 [] ((fs.take j).flatMap (K7 x)))))/\Gf H5 H') ?_ ?_ ?_ ?_
  ·exact⟨⟨_,_,rfl⟩,Gu,s6⟩
  ·rintro j σ H6 _ ⟨_,_,s7⟩
   exact HK.of (s7 _ _ eL)
  ·rintro j v σ H6 hv ⟨⟨c5,c6,rfl⟩,hd6,s7⟩
   obtain⟨u,hu',hi2⟩:=Im iL hv
   obtain⟨pu,rfl,hpu⟩:=JE hi2
   have lu:=am u (Ad hu')
   have ln1:=VG (K7 x) 4 (fs.take j) λs hs=>by
    unfold K7
    rw[AB,Bx,am s (B5 hs)]
    lia
   rw[Ah]at ln1
   refine⟨_,rfl,pu,_,rfl,.inr (HL.of (s7 _ _ hpu)),_,_,rfl,rfl,_,rfl,by rw[AB];lia,by rw[AB];lia,?_⟩
   rw[AB,show((u.length:Int)+1).toNat=u.length+1 by lia]
   refine ME (lo:=0) (n:=u.length+1) (λe σ H'=>(∃c6,σ=[some (.int n),some (.ref p),some (.ref l),some (.int x),some (.ref d),some (.ref pu),c6])/\H' d=some (.dT (Kk (K5 [] ((fs.take j).flatMap (K7 x)++(List.range e).map λk=>u.take k++[x]++u.drop k))))/\Gf H5 H') ?_ ?_ ?_
   ·refine⟨⟨_,rfl⟩,?_,s7⟩
    rw[List.range_zero,Dr,BN]
    exact hd6
   ·rintro e σ H7 he ⟨⟨c6,rfl⟩,hd7,s8⟩
    rw[Dt]
    have hpu7:=s8 _ _ hpu
    refine⟨_,rfl,_,rfl,_,rfl,_,rfl,pu,u,e,rfl,rfl,rfl,hpu7,λt1 G1 g1 e1=>?_⟩
    refine⟨_,rfl,IH,λt2 h2'=>?_⟩
    have g2:=HH h2' (.tup [.int x])
    refine Mr (r:=u.take e) (r':=[x]) (g2 _ _ e1) Gu (small (by rw[Ah];show _+1<=100000;lia)) λt3 G3 g3 e3=>?_
    have g13:=g1.trans (g2.trans g3)
    refine⟨_,rfl,_,rfl,_,rfl,pu,u,e,rfl,rfl,rfl,g13 _ _ hpu7,λt4 G4 g4 e4=>?_⟩
    refine Mr (r:=u.take e++[x]) (r':=u.drop e) (g4 _ _ e3) e4 (small (by rw[AI,Ah,BH,BB];lia)) λt5 G5 g5 e5=>?_
    have gA:=g13.trans (g4.trans g5)
    have hd8:=gA _ _ hd7
    have la:=pL [] ((fs.take j).flatMap (K7 x)++(List.range e).map λk=>u.take k++[x]++u.drop k)
    rw[AI,AB,Bx,CD]at la
    refine⟨d,_,rfl,Ix.t (k:=(u.take e++[x]++u.drop e).map Sum.inl) hd8 (by rw[J7];exact e5) ?_,?_⟩
    ·rw[UE]
     exact Kl (by lia)
    ·refine⟨⟨_,rfl⟩,?_,λb o e'=>?_⟩
     ·have er:(List.range (e+1)).map (λk=>u.take k++[x]++u.drop k)=(List.range e).map (λk=>u.take k++[x]++u.drop k)++[u.take e++[x]++u.drop e]:=by
       rw[CO,Au]
       rfl
      rw[er,<-Ac ((fs.take j).flatMap (K7 x)),Wv,<-gM]
      exact Gu
     ·rw[Ha (Iv e' hd)]
      exact gA _ _ (s8 b o e')
   ·rintro σ H7 ⟨⟨c6,rfl⟩,hd7,s8⟩
    refine⟨⟨_,_,rfl⟩,?_,s8⟩
    rw[JF hu',Bu,B9]
    exact hd7
  ·rintro σ H6 ⟨⟨c5,c6,rfl⟩,hd6,s7⟩
   rw[Af (show fs.length<=vs.length by lia)]at hd6
   refine⟨_,rfl,d,_,rfl,hd6,λl7 vs7 h7 i7=>?_⟩
   have s8:=HH h7 (.lst vs7)
   exact⟨⟨l7,_,_,_,_,rfl,⟨vs7,Gu,Hc.mono (HZ.same s8) i7⟩,sA.free (s5.free (s7.free h7))⟩,s5.trans (s7.trans s8)⟩
 ·rintro σ H5 ⟨⟨l,c3,c4,c5,c6,rfl,hL,fl⟩,s5⟩
  rw[AB,Bh]at hL
  exact⟨_,rfl,q l H5 fl (sA.trans s5) hL⟩
end
section
variable{P:Program}{w:World}{K:W.Frag}{mg:Str->Option Value}{base:Heap}{f g:Addr}{fd gd:FuncData}
theorem lG{H:Hp}{vs:List V}{rs:List (List Int)}(iL:Hc H vs rs)(h:0<rs.length)(x:Int):∃(j:Nat)(r:List Int)(p:Addr),x%(vs.length:Int)=j/\Jn vs (x%(vs.length:Int))=some (.ref p)/\r∈rs/\H p=some (.tup (r.map V.int)):=by
 have lv:=AL iL
 have m0:=CF x (show(vs.length:Int)≠0 by lia)
 have m1:=CI x (show(0:Int)<(vs.length:Int) by lia)
 obtain⟨j,hj⟩:∃j:Nat,x%(vs.length:Int)=j:=⟨(x%(vs.length:Int)).toNat,by lia⟩
 have jl:j<vs.length:=by lia
 obtain⟨r,hr',hi⟩:=Im iL (AW jl)
 obtain⟨pr,e1,hpr⟩:=JE hi
 exact⟨j,r,pr,hj,by rw[hj];exact LN (by rw[AW jl,e1]),Ad hr',hpr⟩
theorem Wc{c:Prop}[Decidable c]{A:Prop}{v:Int}(u:Int)(R:Int->Prop)(hA:R u->A)(h:∀w,w=u∨w=v->R w):if decide c=true then A else R v:=by
 by_cases e:c
 ·exact Jt e (hA (h u (.inl rfl)))
 ·exact Ij e (h v (.inr rfl))
def K8(n:Nat)(r:List Int):List Gb:=(Oz n r).map λq=>(q,1)
def Og(n:Nat)(r:List Int):Bool:=decide (r.length<=n)&&(List.range (n-1)).all (λj=>decide (norm (Jg (K8 n r) j)=norm (K8 n r)))&&(Oz n r).all (λq=>decide (q.length=n)&&q.all (λx=>decide (0<=x))&&decide (q.sum<=8))&&decide ((Oz n r).length<=24)
theorem jB:∀n∈([1,2,3,4]:List Nat),∀w∈List.range 9,(up 9 (w:Int) (w:Int) (n:Int)).all (Og n)=true:=by decide +kernel
structure NE(n:Nat)(r:List Int):Prop where
 len:r.length<=n
 even:Hm n (K8 n r)
 deg:Deg n 8 1 (K8 n r)
 few:(K8 n r).length<=24
theorem ZV{n:Nat}{r:List Int}(h:Og n r=true):NE n r:=by
 unfold Og at h
 rw[AM,AM,AM,AZ,AZ,Aj,Aj]at h
 obtain⟨⟨⟨a,b⟩,c⟩,d⟩:=h
 have key:∀t∈K8 n r,(t.1.length=n/\(∀x∈t.1,0<=x))/\t.1.sum<=8/\t.2=1:=λt ht=>by
  obtain⟨q,hq,rfl⟩:=AV.mp ht
  have:=c q hq
  rw[AM,AM,AZ,AZ,Aj]at this
  exact⟨⟨this.1.1,λx hx=>BD (this.1.2 x hx)⟩,this.2,rfl⟩
 refine⟨a,λj hj=>BD (b j (At.mpr (by lia))),⟨λt ht=>(key t ht).1.1,λt ht=>(key t ht).1.2,λt ht=>(key t ht).2.1,λt ht=>?_⟩,by unfold K8;rw[AB];exact d⟩
 rw[(key t ht).2.2];decide
def Ki(n wt:Nat):List (List Int):=(List.range wt).flatMap λ(k:Nat)=>up 9 (k:Int) (k:Int) (n:Int)
theorem ZB{n wt:Nat}(n1:1<=n)(n4:n<=4)(h:wt<=9):∀r∈Ki n wt,NE n r:=λr hr=>by
 obtain⟨k,hk,hr⟩:=BO.mp hr
 have hk:=At.mp hk
 exact ZV (Aj.mp (jB n (KH n1 n4) k (At.mpr (by lia))) r hr)
theorem eR(n:Nat):∀wt,wt<=9->(Ki n wt).length<=256*wt
 |0,_=>by simp [Ki]
 |wt+1,h=>by
  have ih:=eR n wt (by lia)
  have e:Ki n (wt+1)=Ki n wt++up 9 (wt:Int) (wt:Int) (n:Int):=by
   unfold Ki
   rw[CO,Bu,B9]
  have l1:(up 9 (wt:Int) (wt:Int) (n:Int)).length<=256:=UW (by lia) (by lia)
  rw[e,AI]
  lia
abbrev oX:List Str:=["_law_script", "_law_start", "_law_many", "_law_weight", "_law_size", "_law_total", "_law_menu", "_law_k", "_law_row", "_law_number"]
abbrev WV:List Str:=["_law_script", "_law_start", "_law_many", "_law_weight", "_law_size"]
abbrev oW:List Str:=["_law_powers"]
theorem gS:oW.Nodup:=by decide +kernel
theorem Jc:Gj oX WV (HW Mt):=Hx
def RW(K:W.Frag):Sp:=λvs H Q _=>∃(a:Addr)(ns:List Int)(n wt:Nat)(sz:Int),vs=[.ref a,.int 1,.int n,.int wt,.int sz]/\HK K H a (ns.map V.int)/\ns.length<=63/\1<=n/\n<=4/\wt<=8/\1<=sz/\sz.natAbs<2^250 /\
 ∀(l:Addr)(H':Hp)(ts:List Gb),H l=none->Gf H H'->Gh H' l ts->HS ts->Hm n ts->Deg n 8 300 ts->Q (.ref l) H'
theorem XV{x sz:Int}(h:1<=sz)(hs:sz.natAbs<2^250):(x%(2*sz)-sz).natAbs<2^252:=by
 have h0:=CF x (show(2*sz)≠0 by lia)
 have h1:=CI x (show 0<2*sz by lia)
 have h2:(2:Nat)^252=4*2^250:=by rw[show(252:Nat)=250+2 from rfl,EA,DU]
 generalize (2:Nat)^250=B at *
 lia
theorem cD(F:Hg K "_law_even" "_law_even" Mt f fd)(GR:Hd P w K mg base 9 "_law_rows" pU (Pn 9))(GA:Hd P w K mg base 9 "_law_arranged" ["_law_many", "_law_row"] QY)(GP:Hd P w K mg base 9 "_law_put" VN N4)(GL:Hd P w K mg base 9 "_law_plain" ["_law_total"] N5)(mr:mg "range" = none)(mm:mg "min" = none)(mn:mg "len" = none):Gw P w K mg base Hk 10 f fd WV (RW K):=by
 refine IJ F Jc λHQ A outer s H vs Q E hr h=>?_
 obtain⟨a,ns,n,wt,sz,rfl,hS,h63,n1,n4,w8,z1,z2,q⟩:=h
 refine⟨_,HP (Hi (i:=5) Jc.nd rfl (Or.inl rfl) PF)
  (HP (Hi (i:=6) Jc.nd rfl (Or.inl rfl) (Hy Gq))
  (HP (IX Ar rfl (NO rfl mr (Ge (HV JW (pv 3) HR) Gq)) (Hb (i:=7) Jc.nd rfl (Or.inl rfl))
   (HN (Hi (i:=6) Jc.nd rfl (Or.inl rfl) (HV Lm (pv 6) (Hq GR hr rfl (Ge (pv 7) (Ge (pv 2) (Ge (pv 7) Gq))))))))
  (HP (IX Ar rfl (VX rfl mr (Ge (pv 1) (Ge (IT (Y0 rfl) rfl mm EI (Ge (IT K6 rfl mn B2 (Ge (pv 0) Gq)) (Ge (HV JW (pv 1) HR) Gq))) Gq))) (Hb (i:=7) Jc.nd rfl (Or.inl rfl))
   (HP (Hi (i:=8) Jc.nd rfl (Or.inl rfl) (JH KU (pv 6) (HV KM (JH KU (pv 0) (pv 7) (λ_ _=>rfl)) (IT K6 rfl mn B2 (Ge (pv 6) Gq))) (λ_ _=>rfl)))
   (HP (Hi (i:=9) Jc.nd rfl (Or.inl rfl) (HV Kn (HV KM (HV Mx (JH KU (pv 0) (pv 7) (λ_ _=>rfl)) HR) HR) HR))
   (HP (Ia (ID MP (HV KM (HV Mx (JH KU (pv 0) (pv 7) (λ_ _=>rfl)) HR) HR) HR (IA _))
    (HN (Hi (i:=9) Jc.nd rfl (Or.inl rfl) (HV Kn (HV KM (HV Mx (JH KU (pv 0) (pv 7) (λ_ _=>rfl)) HR) (HV Nk HR (pv 4))) (pv 4)))) Ip)
   (HN (IZ (Hq GP hr rfl (Ge (pv 5) (Ge (JO (N':=oW) (src:=[none]) rfl (Ig (Hq GA hr rfl (Ge (pv 2) (Ge (pv 8) Gq)))) (I0 (HW Mt) oX (by decide +kernel)) (λb=>Hb (i:=0) gS rfl (Or.inl rfl)) (λb=>Jh) (λb=>Hz (Ge (pv 0) (Ge HR Gq)))) (Ge (pv 9) Gq))))))))))
  (HN (Hs (Hq GL hr rfl (Ge (pv 5) Gq))))))),?_⟩
 intro d hd
 have s0:Gf H (Gi H d (.dT [])):=HH hd _
 refine⟨Ik,λm0 h0=>?_⟩
 have s1:=HH h0 (.lst [])
 have nd0:m0≠d:=λz=>by
  rw[z,Gu]at h0
  cases h0
 refine⟨_,rfl,_,_,rfl,rfl,_,rfl,by lia,by lia,?_⟩
 rw[show((wt:Int)+1).toNat=wt+1 by lia]
 refine ME (lo:=0) (n:=wt+1) (λi σ H'=>(∃(m:Addr)(c7 c8 c9:Option V),σ=[some (.ref a),some (.int 1),some (.int n),some (.int wt),some (.int sz),some (.ref d),some (.ref m),c7,c8,c9]/\Gh H' m (Ki n i))/\H' d=some (.dT (II (Hu [])))/\Gf H H') ?_ ?_ ?_
 ·exact⟨⟨m0,_,_,_,rfl,⟨[],Gu,.nil⟩⟩,s1 _ _ Gu,s0.trans s1⟩
 ·rintro i σ H2 hi ⟨⟨m,c7,c8,c9,rfl,⟨vs,eM,iM⟩⟩,hd2,sH⟩
  rw[Dt]
  refine⟨_,rfl,_,rfl,_,rfl,_,rfl,(i:Int),(i:Int),(n:Int),rfl,by lia,by lia,by lia,by lia,λl3 H3 h3 s3 hL3=>?_⟩
  have l1:(up 9 (i:Int) (i:Int) (n:Int)).length<=256:=UW (by lia) (by lia)
  have l2:=eR n i (by lia)
  obtain⟨ws,eW,iW⟩:=hL3
  have lv:=AL iM
  have lw:=AL iW
  refine⟨m,l3,vs,ws,rfl,rfl,s3 _ _ eM,eW,small (by lia),λm4 h4=>?_⟩
  have s4:=HH h4 (.lst (vs++ws))
  refine⟨⟨m4,_,_,_,rfl,⟨vs++ws,Gu,?_⟩⟩,s4 _ _ (s3 _ _ hd2),sH.trans (s3.trans s4)⟩
  have e:Ki n (i+1)=Ki n i++up 9 (i:Int) (i:Int) (n:Int):=by
   unfold Ki
   rw[CO,Bu,B9]
  rw[e]
  exact Paired.app (Hc.mono (HZ.same (s3.trans s4)) iM) (Hc.mono (HZ.same s4) iW)
 ·rintro σ H2 ⟨⟨m,c7,c8,c9,rfl,⟨vs,eM,iM⟩⟩,hd2,sH⟩
  have mo:=ZB n1 n4 (show wt+1<=9 by lia)
  have ml:=eR n (wt+1) (by lia)
  have m0':0<(Ki n (wt+1)).length:=by
   have:([]:List Int)∈Ki n (wt+1):=BO.mpr ⟨0,At.mpr (by lia),by simp [up]⟩
   exact List.length_pos_of_mem this
  have lv:=AL iM
  generalize Ki n (wt+1)=rs at mo ml m0' lv iM
  have eM':=eM
  refine⟨_,rfl,_,rfl,a,_,rfl,.inl (sH.seq hS),_,rfl,_,_,rfl,rfl,_,_,rfl,1,_,rfl,⟨by decide,by decide,?_,?_⟩,?_⟩
  ·rw[AB];split<;>lia
  ·rw[AB];split<;>lia
  rw[AB]
  have hj:∀i:Nat,i<((if (1:Int)+8<(ns.length:Int) then (1:Int)+8 else (ns.length:Int))-1).toNat->i+1<ns.length/\i<8:=λi hi=>by split at hi<;>lia
  have hj8:((if (1:Int)+8<(ns.length:Int) then (1:Int)+8 else (ns.length:Int))-1).toNat<=8:=by split<;>lia
  generalize ((if (1:Int)+8<(ns.length:Int) then (1:Int)+8 else (ns.length:Int))-1).toNat=J at hj hj8
  refine ME (lo:=1) (n:=J) (λi σ H'=>(∃(c7 c8 c9:Option V)(acc:List Gb),σ=[some (.ref a),some (.int 1),some (.int n),some (.int wt),some (.int sz),some (.ref d),some (.ref m),c7,c8,c9]/\H' d=some (.dT (II (Hu acc)))/\Hm n acc/\Deg n 8 253 acc/\acc.length<=24*i)/\Gf H H'/\W6 d H2 H') ?_ ?_ ?_
  ·refine⟨⟨_,_,_,[],rfl,hd2,λ_ _=>rfl,⟨λt ht=>by simp at ht,λt ht=>by simp at ht,λt ht=>by simp at ht,λt ht=>by simp at ht⟩,by simp⟩,sH,λ_ _ _ e=>e⟩
  ·rintro i σ H3 hi ⟨⟨c7,c8,c9,acc,rfl,h3,hE,hD,hz⟩,sH3,bt⟩
   obtain⟨i1,i8⟩:=hj i hi
   have nmd:m≠d:=KL eM hd2 (by intro z;cases z)
   have eM3:=bt _ _ nmd eM
   have hS3:=sH3.seq hS
   have atC:Jn (ns.map V.int) (1+(i:Int))=some (.int (ns.getD (i+1) 0)):=by
    rw[show(1:Int)+(i:Int)=((i+1:Nat):Int) by lia]
    refine LN ?_
    rw[Ag,AW i1]
    simp [i1]
   generalize ns.getD (i+1) 0=c at atC
   obtain⟨j1,r,pr,_,at1,rm,hpr⟩:=lG iM m0' c
   have ao:=mo r rm
   refine⟨_,rfl,_,rfl,_,rfl,a,_,_,.int c,rfl,rfl,hS3,atC,_,rfl,m,_,rfl,.inl (HK.of eM3),_,_,rfl,rfl,(by lia),m,_,_,.ref pr,rfl,rfl,HK.of eM3,at1,?_⟩
   refine⟨_,rfl,_,rfl,a,_,_,.int c,rfl,rfl,hS3,atC,_,_,rfl,rfl,⟨by decide,by decide⟩,_,_,rfl,rfl,(by show(0:Int)<19;decide),_,_,rfl,rfl,?_⟩
   show JA 9 (V.int (c / 90%19-9)) _ _ _
   have u0:=CF (c / 90) (show(19:Int)≠0 by decide)
   have u1:=CI (c / 90) (show(0:Int)<19 by decide)
   have vb:(c / 90%19-9).natAbs<2^252:=Ao (show _<2^5 by lia) (ER (by decide) (by decide))
   have ub:=XV (x:=c / 90) z1 z2
   generalize c / 90%19-9=v at *
   refine⟨_,rfl,_,rfl,a,_,_,.int c,rfl,rfl,hS3,atC,_,_,rfl,rfl,⟨by decide,by decide⟩,_,_,rfl,rfl,(by show(0:Int)<3;decide),rfl,_,rfl,?_⟩
   change if decide _=true then _ else _
   apply Wc (v:=v) (c / 90%(2*sz)-sz)
   ·intro h
    exact⟨_,rfl,_,rfl,a,_,_,.int c,rfl,rfl,hS3,atC,_,_,rfl,rfl,⟨by decide,by decide⟩,_,rfl,_,_,rfl,rfl,⟨JM (show(2:Int).natAbs<2^2 by decide) (show 2<=100000 by lia),JM z2 (show 250<=100000 by lia)⟩,_,_,rfl,rfl,(by show(0:Int)<2*sz;lia),_,rfl,_,_,rfl,rfl,h⟩
   intro x hx
   have xb:x.natAbs<2^252:=by rcases hx with e|e<;>rw[e]<;>assumption
   refine⟨_,rfl,_,rfl,_,rfl,n,pr,r,rfl,n1,n4,?_,ao.len,λlA H4 h4 s4 hA4=>?_⟩
   ·exact bt _ _ (KL hpr hd2 (by intro z;cases z)) hpr
   obtain⟨wsA,eA,iA⟩:=hA4
   have lA':=AL iA
   have few:=ao.few
   have eM2:K8 n r=(Oz n r).map λq=>(q,1):=rfl
   refine⟨lA,rfl,⟨_,HK.of eA⟩,λbk D hD'=>?_⟩
   rw[eM2,AB]at few
   refine LF (α:=Gb) hD' (HK.of eA) (λσ=>∃c,σ=[c]) (λi=>((Oz n r)[i]?).bind λx=>some (x,1)) (small (by lia)) ?_ ?_ ?_
   ·exact⟨_,rfl⟩
   ·rintro i v σ H5 Yes No hv ⟨c,rfl⟩ s5 yes no
    obtain⟨y,hy,hi⟩:=Im iA hv
    obtain⟨px,rfl,hpx⟩:=JE hi
    refine L6 ?_
    refine⟨_,rfl,IV,λt6 h6=>?_⟩
    have s6:=HH h6 (.tup [.ref px,.int 1])
    exact yes _ _ _ (y,1) ⟨_,rfl⟩ s6 (by rw[hy];rfl) (JY (t:=(y,1)) Gu (s6 _ _ (s5 _ _ hpx)))
   intro H5 s5 h5
   rw[lA',KC,A7]at h5
   change Gh H5 D (K8 n r) at h5
   have z5:=s4.trans s5
   have dl:=ON acc
   refine⟨_,rfl,d,D,x,acc,K8 n r,rfl,z5 _ _ h3,h5,?_,JM xb (show 252<=100000 by lia),λt ht=>JM (ao.deg.num t ht) (show 1<=100000 by lia),λH6 b6 h6=>?_⟩
   ·have:=ao.few
    lia
   refine⟨⟨_,_,_,acc++scl x (K8 n r),rfl,h6,RO hE (QC x ao.even),Deg.app hD ((Deg.scl ao.deg xb).mono (AG 8) (by decide)),?_⟩,λb o e=>?_,λb o nb e=>?_⟩
   ·rw[AI,Ly]
    have:=ao.few
    lia
   ·exact b6 b o (Iv e hd) (z5 _ _ (sH3 b o e))
   ·exact b6 b o nb (z5 _ _ (bt b o nb e))
  ·rintro σ H3 ⟨⟨c7,c8,c9,acc,rfl,h3,hE,hD,hz⟩,sH3,bt⟩
   refine⟨_,rfl,d,acc,rfl,h3,by lia,λl4 H4 h4 b4 hL4=>?_⟩
   refine q l4 H4 (norm acc) (sH3.free h4) (λb o e=>b4 b o (Iv e hd) (sH3 b o e)) hL4 (JI acc) hE.norm ((Deg.norm hD (k:=10) ?_).mono (AG 8) (by decide))
   have:(2:Nat)^10=1024:=by decide
   lia
end
end L2.K43
namespace L2.Ev
open PySem PySem.Spec PyProof.Rows
open L2.Ts L2.Pl L2.Rw
section
variable{X:Cx}
theorem QR:IK X (binaryOp .FloorDiv) (rI (λ_ j=>0<j/\j<1152921504606846976) λi j=>.int (i / j)):=Pd λi j _ _ _ _ _ hc q=>by
 have h1:(0:Int)<j:=hc.1
 have h2:j<1152921504606846976:=hc.2
 exact floordiv_int (by lia) (by rw[Et i (by lia)];exact q) (.inl (PyProof.noPylong_of_log2 (by
  have:j.natAbs.log2<60:=(Nat.log2_lt (by lia)).mpr (by
   have:(2:Nat)^60=1152921504606846976:=by decide
   lia)
  lia)))
def Wo(ta:TA):TE:=λσ H Q=>ta σ H λvs H1=>∃i j:Int,vs=[.int i,.int j]/\(-(2^62)<=i/\i<2^62/\-(2^62)<=j/\j<2^62)/\(j-i).toNat<=1000/\∀l,H1 l=none->Q (.ref l) (Gi H1 l (.lst ((List.range (j-i).toNat).map λ(k:Nat)=>V.int (i+k))))
theorem YS{i:Int}{n:Nat}{acc:Array Value}(h:ItemsOf (λk v=>∃t,v=.int (i+k*1) t) acc n):Gy ((List.range n).map λ(k:Nat)=>V.int (i+k)) acc.toList:=by
 have key:∀m,m<=n->Gy ((List.range m).map λ(k:Nat)=>V.int (i+k)) (acc.toList.take m):=by
  intro m
  induction m with
  |zero=>intro _;exact .nil
  |succ m ih =>
   intro hm
   have lm:m<acc.size:=by rw[h.1];lia
   rw[CO,Au,JF (x:=acc[m]) (by rw[A0,AF lm])]
   obtain⟨t,e⟩:=h.2 m acc[m] (AF lm)
   refine(ih (by lia)).append (.cons ⟨t,?_⟩ .nil)
   rw[e,FZ]
 have:=key n (AG _)
 rwa [Af (by rw[AT,h.1];exact AG _)]at this
theorem Ze{a b:Expr}{ta:TA}{p pos p2 pos2:Pos}(hc:X.calm=true)(hg:Gl X "list")(hm:X.mg "list" = none)(hg2:Gl X "range")(hm2:X.mg "range" = none)(ha:PA X [a,b] ta)
  (hs:starEach [a,b] X.env=[(false,eval a X.env),(false,eval b X.env)]:=by rfl) (hs2:starEach [b] X.env=[(false,eval b X.env)]:=by rfl)
  (he:starEach [.Call (.Name "range" p2) [a,b] [] pos2] X.env=(false,eval (.Call (.Name "range" p2) [a,b] [] pos2) X.env)::starEach [] X.env:=by rfl) (hpl:(backTo pos (starEach [] X.env)).any (·.1)=false:=by rfl) (hnil:backTo pos (starEach [] X.env)=[]:=by rfl) :
  PE X (.Call (.Name "list" p) [.Call (.Name "range" p2) [a,b] [] pos2] [] pos) (Wo ta):=by
 intro Fo s σ H Q I h
 refine BK (Jj I hg hm Cv ?_)
 refine BM ?_ he hpl
 rw[he]
 show wpAny _ _ (spliced ((false,eval (.Call (.Name "range" p2) [a,b] [] pos2) X.env)::backTo pos (starEach [] X.env))) _ _ s
 rw[hnil]
 refine Cy (BK (Jj I hg2 hm2 boot_range (BM (HY (ha pos2 Fo s σ H _ I h) λus s1 ⟨vs,H1,I1,r1,q1⟩=>?_) (by rw[hs,hs2]) (by rw[hs2];rfl))))
 obtain⟨i,j,e,⟨q1,q2,q3,q4⟩,hz,q⟩:=q1
 subst e
 cases r1 with
 |cons r rr =>
  cases rr with
  |cons r' rr =>
   cases rr
   obtain⟨t,rfl⟩:=r
   obtain⟨t',rfl⟩:=r'
   refine call_range_2 ?_
   refine AD ?_
   have e2:Builtin.Range.rangeSize i j 1=(((j-i).toNat:Nat):Int):=by rw[rangeSize_one];split<;>lia
   refine call_list_range (n:=(j-i).toNat) (I1.ok.hd hc) (IsRange.new ..) (small_one q1 q2 q3 q4) e2 (BE hz (by decide)) λh' tk acc c kp hS it=>?_
   have kp':∀b o,s1.heap.get? b=some o->h'.get? b=some o:=λb o e=>kp b o (AC _ e)
   have sz:s1.heap.objs.size<=(s1.heap.push { cls:=.type "range",data:=.fields #[.int i t,.int j t',.int 1 s1.toks] }).objs.size:=by rw[Bz];lia
   have vv:=YS it
   refine⟨.ref _,_,I1.laid (t':=tk) kp' sz (show HM X.prog X.w _ h' _ (.lst _) from⟨?_,acc.toList,c,vv,by rw[Array.toArray_toList];exact hS⟩),rfl,q _ (I1.hok.fresh sz)⟩
   rw[AB,Bx]
   exact BE hz (by decide)
end
end L2.Ev
namespace L2.K43
open PySem
open L2.Pl L2.Ev
section
variable{P:Program}{w:World}{K:W.Frag}{mg:Str->Option Value}{base:Heap}{f g:Addr}{fd gd:FuncData}
abbrev rV:List Str:=["one", "other", "rest"]
theorem MM:Gj rV ["one", "other"] (HW YC):=Hx
def TY:Sp:=λvs H Q _=>∃a b:Nat,vs=[.int a,.int b]/\Q (.int ((Nat.gcd a b:Nat):Int)) H
theorem YU{y:Nat}(h:y≠0):(!decide (V.int (y:Int)=V.int 0))=true:=by
 rw[AN (λz=>h (by injection z;lia))]
 rfl
theorem eX(F:Hg K "common_divisor" "common_divisor" YC f fd):Gw P w K mg base Hk 2 f fd ["one", "other"] TY:=by
 refine IJ F MM λHQ A outer s H vs Q E hr h=>?_
 obtain⟨a,b,rfl,q⟩:=h
 refine⟨_,HP (WW Ar (ID S8 (pv 1) HR (IA _))
   (HP (Hi (i:=2) MM.nd rfl (Or.inl rfl) (HV KM (pv 0) (pv 1)))
   (HP (Hi (i:=0) MM.nd rfl (Or.inl rfl) (pv 1))
   (HN (Hi (i:=1) MM.nd rfl (Or.inl rfl) (pv 2))))))
  (HN (Hs (pv 0))),?_⟩
 refine⟨λm σ H'=>∃(x y:Nat)(c:Option V),m=y/\σ=[some (.int x),some (.int y),c]/\Nat.gcd x y=Nat.gcd a b/\H'=H,⟨b,a,b,_,rfl,rfl,rfl,rfl⟩,?_⟩
 rintro m σ H1 ⟨x,y,c,rfl,rfl,e,rfl⟩
 refine⟨_,rfl,rfl,_,rfl,?_⟩
 by_cases c0:m=0
 ·subst c0
  refine KW ⟨_,rfl,?_⟩
  rw[Nat.gcd_zero_right]at e
  rw[e]
  exact q
 ·rw[YU c0]
  refine Jr ⟨λσ' H'=>σ'=[some (.int m),some (.int ((x:Int)%(m:Int))),some (.int ((x:Int)%(m:Int)))]/\H'=H1,λσ' H' ⟨e1,e2⟩=>⟨x%m,Nat.mod_lt _ (by lia),m,x%m,_,rfl,e1,?_,e2⟩,?_⟩
  ·rw[<-e,Nat.gcd_comm x m,Nat.gcd_rec m x,Nat.gcd_comm]
  ·exact⟨_,rfl,_,rfl,_,_,rfl,rfl,(by show(0:Int)<(m:Int);lia),_,rfl,_,rfl,rfl,rfl⟩
abbrev rR:List Str:=["top", "bottom", "divisor"]
theorem Ti:Gj rR ["top", "bottom"] (HW Wz):=Hx
def QK(t:Int)(b:Nat):List Int:=[t / ((Nat.gcd t.natAbs b:Nat):Int),(b:Int) / ((Nat.gcd t.natAbs b:Nat):Int)]
def Pu:Sp:=λvs H Q _=>∃(t:Int)(b:Nat),vs=[.int t,.int b]/\1<=b/\b<1152921504606846976/\∀(p:Addr)(H':Hp),H p=none->Gf H H'->H' p=some (.tup ((QK t b).map V.int))->Q (.ref p) H'
theorem mD(t:Int):(if t<0 then -t else t)=(t.natAbs:Int):=by split<;>lia
theorem Zf(F:Hg K "fraction" "fraction" Wz f fd)(GC:Hd P w K mg base 2 "common_divisor" ["one", "other"] TY)(ma:mg "abs" = none):Gw P w K mg base Hk 3 f fd ["top", "bottom"] Pu:=by
 refine IJ F Ti λHQ A outer s H vs Q E hr h=>?_
 obtain⟨t,b,rfl,b1,b2,q⟩:=h
 refine⟨_,HP (Hi (i:=2) Ti.nd rfl (Or.inl rfl) (Hq GC hr rfl (Ge (IT Wg rfl ma PyProof.Rows.boot_abs (Ge (pv 0) Gq)) (Ge (pv 1) Gq))))
  (HN (Hs (Hz (Ge (HV QR (pv 0) (pv 2)) (Ge (HV QR (pv 1) (pv 2)) Gq))))),?_⟩
 have g0:0<Nat.gcd t.natAbs b:=Nat.gcd_pos_of_pos_right _ (by lia)
 have g1:Nat.gcd t.natAbs b<=b:=Nat.gcd_le_right _ (by lia)
 refine⟨_,rfl,t,rfl,_,rfl,t.natAbs,b,by rw[mD];rfl,?_⟩
 unfold QK at q
 generalize Nat.gcd t.natAbs b=g at *
 refine⟨_,rfl,_,rfl,_,_,rfl,rfl,⟨by lia,by lia⟩,_,rfl,_,rfl,_,_,rfl,rfl,⟨by lia,by lia⟩,IV,λp hp=>?_⟩
 exact q p _ hp (HH hp _) Gu
abbrev rZ:List Str:=["numbers", "result", "number"]
theorem Mp:Gj rZ ["numbers"] (HW Xx):=Hx
def K4(ns:List Int):Int:=ns.foldl (λr x=>r*x) 1
theorem Zi(ns:List Int)(x:Int):K4 (ns++[x])=K4 ns*x:=by
 unfold K4
 rw[CB]
 rfl
def Rx:Sp:=λvs H Q _=>∃(a:Addr)(ns:List Int),vs=[.ref a]/\H a=some (.lst (ns.map V.int))/\(∀i,(K4 (ns.take i)).natAbs<2^100000)/\(∀x∈ns,x.natAbs<2^100000)/\Q (.int (K4 ns)) H
theorem Ya(F:Hg K "multiplied_up" "multiplied_up" Xx f fd):Gw P w K mg base Hk 2 f fd ["numbers"] Rx:=by
 refine IJ F Mp λHQ A outer s H vs Q E hr h=>?_
 obtain⟨a,ns,rfl,hA,hP,hN,q⟩:=h
 refine⟨_,HP (Hi (i:=1) Mp.nd rfl (Or.inl rfl) HR)
  (HP (IX Ar rfl (Ig (pv 0)) (Hb (i:=2) Mp.nd rfl (Or.inl rfl))
   (HN (Hi (i:=1) Mp.nd rfl (Or.inl rfl) (HV Nk (pv 1) (pv 2)))))
  (HN (Hs (pv 1)))),?_⟩
 refine⟨_,rfl,a,rfl,⟨_,HK.of hA⟩,?_⟩
 refine Jd (xs:=ns.map V.int) (λi σ H'=>(∃c,σ=[some (.ref a),some (.int (K4 (ns.take i))),c])/\H'=H) ?_ ?_ ?_ ?_
 ·exact⟨⟨_,rfl⟩,rfl⟩
 ·rintro i σ H1 _ ⟨_,rfl⟩
  exact HK.of hA
 ·rintro i v σ H1 hv ⟨⟨c,rfl⟩,rfl⟩
  obtain⟨x,hx,rfl⟩:∃x,ns[i]?=some x/\V.int x=v:=by
   rw[Ag]at hv
   cases e:ns[i]? with
   |none=>rw[e]at hv;cases hv
   |some y=>rw[e]at hv;exact⟨y,rfl,Al hv⟩
  refine⟨_,rfl,_,rfl,_,_,rfl,rfl,⟨hP i,hN x (Ad hx)⟩,⟨some (.int x),?_⟩,rfl⟩
  rw[JF hx,Zi]
  rfl
 ·rintro σ H1 ⟨⟨c,rfl⟩,rfl⟩
  rw[AB,Bh]
  exact⟨_,rfl,q⟩
end
section
variable{P:Program}{w:World}{K:W.Frag}{mg:Str->Option Value}{base:Heap}{f g:Addr}{fd gd:FuncData}
def Yq(k:Int)(T:List Gb):List Gb:=T.map λt=>(t.1,t.2 / k)
def IF(c:Int):Nat->List (List Gb)
 |0=>[[([],c)]]
 |k+1=>IF c k++[Yq ((k:Int)+1) (Ju (IF c k) (IF c k).length)]
theorem RB(c:Int):∀k,(IF c k).length=k+1
 |0=>rfl
 |k+1=>by
  show(IF c k++[Yq ((k:Int)+1) (Ju (IF c k) (IF c k).length)]).length=_
  rw[AI,RB c k]
  rfl
def IM:Nat->Int
 |0=>1
 |n+1=>IM n*((n:Int)+1)
theorem XI:∀n∈[1,2,3,4],∀k∈List.range n,LU (IF (IM n) k)=true:=by decide +kernel
abbrev qF:List Str:=["many", "scale", "parts", "number"]
abbrev pA:List Str:=["row", "top", "number"]
theorem Ss:pA.Nodup:=by decide +kernel
theorem OJ:Gj qF ["many", "scale"] (HW U3):=Hx
def QX:Sp:=λvs H Q _=>∃n:Nat,vs=[.int n,.int (IM n)]/\n∈[1,2,3,4]/\∀(a:Addr)(us:List V)(H':Hp),H a=none->Gf H H'->H' a=some (.lst us)->J9 H' us (IF (IM n) n)->Q (.ref a) H'
theorem hV(F:Hg K "elementaries_by_power" "elementaries_by_power" U3 f fd)(GA:Hd P w K mg base 4 "alternating" ["lesser"] Oc)(mr:mg "range" = none):Gw P w K mg base Hk 5 f fd ["many", "scale"] QX:=by
 refine IJ F OJ λHQ A outer s H vs Q E hr h=>?_
 obtain⟨n,rfl,hn,q⟩:=h
 have n4:n<=4:=by
  simp at hn
  lia
 refine⟨_,HP (Hi (i:=2) OJ.nd rfl (Or.inl rfl) (Hy (Ge (Hy (Ge (Hz (Ge (Hz Gq) (Ge (pv 1) Gq))) Gq)) Gq)))
  (HP (IX Ar rfl (VX rfl mr (Ge HR (Ge (HV JW (pv 0) HR) Gq))) (Hb (i:=3) OJ.nd rfl (Or.inr rfl))
   (HN (IZ (Lc BQ BV BW Lu (pv 2) (Ge (JO (N':=pA) (src:=[none,none,some 3]) rfl (Ig (Hq GA hr rfl (Ge (pv 2) Gq))) (I0 (HW U3) qF (by decide +kernel))
    (λb=>JX rfl (IE (Hb (i:=0) Ss rfl (Or.inl rfl)) (IE (Hb (i:=1) Ss rfl (Or.inl rfl)) JZ))) (λb=>Jh)
    (λb=>Hz (Ge (pv 0) (Ge (HV Mx (pv 1) (pv 2)) Gq)))) Gq)))))
  (HN (Hs (pv 2)))),?_⟩
 generalize hc:IM n=c at *
 refine⟨Ik,λt0 h0=>⟨_,rfl,IV,λt1 h1=>⟨IH,λl2 h2=>⟨IH,λp hp=>?_⟩⟩⟩⟩
 have s0:=HH h0 (.tup [])
 have s1:=HH h1 (.tup [.ref t0,.int c])
 have s2:=HH h2 (.lst [.ref t1])
 have s3:=HH hp (.lst [.ref l2])
 have z:=s0.trans (s1.trans (s2.trans s3))
 have np:l2≠p:=λe=>by rw[<-e,Gu]at hp;cases hp
 have fp:H p=none:=s0.free (s1.free (s2.free hp))
 refine⟨_,rfl,_,_,rfl,rfl,1,_,rfl,⟨by lia,by lia,by lia,by lia⟩,?_⟩
 rw[show((n:Int)+1-1).toNat=n by lia]
 refine ME (lo:=1) (n:=n) (λk σ H'=>∃(us:List V)(c3:Option V),σ=[some (.int n),some (.int c),some (.ref p),c3]/\H' p=some (.lst us)/\Paired (λv T=>∃b,v=.ref b/\b≠p/\Gh H' b T) us (IF c k)/\Gf H H') ?_ ?_ ?_
 ·exact⟨[.ref l2],_,rfl,Gu,.cons ⟨l2,rfl,np,⟨[.ref t1],s3 _ _ Gu,.cons (JY (t:=([],c)) (s3 _ _ (s2 _ _ Gu)) (s3 _ _ (s2 _ _ (s1 _ _ Gu)))) .nil⟩⟩ .nil,z⟩
 ·rintro k σ H1 hk ⟨us,c3,rfl,h1',hT,sH⟩
  have lu:=AL hT
  rw[RB]at lu
  have aB:=XI n hn k (At.mpr hk)
  rw[hc]at aB
  refine⟨_,rfl,.inl ⟨rfl,_,HK.of h1'⟩,_,rfl,p,us,IF c k,rfl,h1',DS (λ_ _ q=>let ⟨b,e,_,hb⟩:=q;⟨b,e,hb⟩) hT,aB,λl H2 hl s4 hL=>?_⟩
  have tb:(Ju (IF c k) (IF c k).length).length<=100:=by
   unfold LU at aB
   rw[AM,Aj]at aB
   exact(WB (aB.2 (IF c k).length (At.mpr (EC _)))).1
  have e1:IF c (k+1)=IF c k++[Yq ((k:Int)+1) (Ju (IF c k) (IF c k).length)]:=rfl
  rw[e1]
  generalize Ju (IF c k) (IF c k).length=A at hL tb
  obtain⟨ws,eL,iL⟩:=hL
  have lw:=AL iL
  refine⟨l,rfl,⟨_,HK.of eL⟩,λbk D hD=>?_⟩
  refine LF (α:=Gb) hD (HK.of eL) (λσ=>∃c1 c2,σ=[c1,c2,some (.int (1+(k:Int)))]) (λi=>(A[i]?).bind λt=>some (t.1,t.2 / ((k:Int)+1))) (small (by lia)) ⟨_,_,rfl⟩ ?_ ?_
  ·rintro i v σ H3 Yes No hv ⟨c1,c2,rfl⟩ s5 yes no
   obtain⟨t,ht,hi⟩:=Im iL hv
   obtain⟨pt,kk,rfl,hpt,hkk⟩:=Jf hi
   refine⟨pt,_,rfl,HL.of (s5 _ _ hpt),rfl,_,_,rfl,_,_,rfl,rfl,?_⟩
   refine Mi ?_
   refine⟨_,rfl,_,rfl,_,rfl,_,_,rfl,rfl,⟨(by show(0:Int)<1+(k:Int);lia),(by show 1+(k:Int)<1073741824;lia)⟩,IV,λr hr2=>?_⟩
   have s6:=HH hr2 (.tup [.ref kk,.int (t.2 / (1+(k:Int)))])
   refine yes _ _ _ (t.1,t.2 / ((k:Int)+1)) ⟨_,_,rfl⟩ s6 (by rw[ht];rfl) (JY (t:=(t.1,t.2 / ((k:Int)+1))) (by rw[HD (k:Int) 1];exact Gu) (s6 _ _ (s5 _ _ hkk)))
  intro H3 s5 hD3
  rw[lw,KC,A7]at hD3
  have h3p:=s5 _ _ (s4 _ _ h1')
  have nD:D≠p:=λe=>by rw[e,s4 _ _ h1']at hD;cases hD
  refine⟨p,us,_,rfl,rfl,h3p,Kl (by lia),us++[.ref D],_,rfl,Gu,?_,Kc fp (sH.trans (s4.trans s5)) _⟩
  refine Paired.app (DS (λv T q=>?_) hT) (.cons ?_ .nil)
  ·obtain⟨b,e,nb,hb⟩:=q
   exact⟨b,e,nb,V4 nb h3p _ (hb.mono (s4.trans s5))⟩
  ·exact⟨D,rfl,nD,V4 nD h3p _ hD3⟩
 ·rintro σ H1 ⟨us,c3,rfl,h1',hT,sH⟩
  exact⟨_,rfl,q p us _ fp sH h1' (DS (λ_ _ q=>let ⟨b,e,_,hb⟩:=q;⟨b,e,hb⟩) hT)⟩
end
section
variable{P:Program}{w:World}{K:W.Frag}{mg:Str->Option Value}{base:Heap}{f g:Addr}{fd gd:FuncData}
def YV(n:Nat)(s:List Gb×List Gb):List Gb×List Gb:=match s.2 with
 |[]=>s
 |t::r=>(s.1++[(IY t.1,t.2)],norm ((t::r)++ngt (scl t.2 (KN n t.1))))
def On(n:Nat):Nat->List Gb×List Gb->List Gb×List Gb
 |0,s=>s
 |k+1,s=>On n k (YV n s)
theorem pM(n:Nat)(T:List Gb):∀k,On n k (T,[])=(T,[])
 |0=>rfl
 |k+1=>pM n T k
def LC(n:Nat)(ts:List Gb):List Gb:=norm (On n 53 ([],ts)).1
structure LJ(n b:Nat)(all T:List Gb):Prop where
 row:∀t∈T,Le n t.1=true/\Ic t.1=true
 can:HS T
 sum:∀F,sm F all=LQ n F T
 few:T.length<=53
 bits:∀t∈T,t.2.natAbs<2^(b+10600)
 own:∀t∈T,t.1∈(fl n).map IY
theorem gR{n:Nat}{F:Pw->Int}{T T':List Gb}(h:T'.Perm T):LQ n F T'=LQ n F T:=by
 unfold LQ
 exact kX (h.map _)
theorem ZS{T l:List Gb}(pm:l.Perm T)(so:l.Pairwise λa b=>LS a b=false)(nd:(T.map (·.1)).Nodup)(num:∀t∈T,t.2≠0):l=norm T:=by
 have nd':(l.map (·.1)).Nodup:=(pm.map (·.1)).nodup_iff.mpr nd
 refine Vw ⟨?_,λt ht=>num t (pm.mem_iff.mp ht)⟩ λp=>Rz pm p
 rw[List.Nodup,Bw]at nd'
 refine(so.and nd').imp λ{a b} z=>?_
 have z1:=z.1
 unfold LS at z1
 rw[AE z.2]at z1
 cases c:Hj b.1 a.1 with
 |true=>rfl
 |false=>exact absurd (NN z1 c) z.2
theorem XH{n b:Nat}{all T l:List Gb}{ps:List Pw}(h:K3 n b all ps T [])(hR:On n (53-T.length) (T,[])=On n 53 ([],all))(n1:1<=n)(n4:n<=4)(pm:l.Perm T)(so:l.Pairwise λa b=>LS a b=false):l=LC n all/\LJ n b all (LC n all):=by
 have inj:(T.map (·.1)).Nodup:=by
  rw[h.rows,List.Nodup,Bw]
  have nd:=h.nd
  have mm:=h.mem
  refine List.Pairwise.imp_of_mem (λ{a b} ha hb z e=>z ?_) nd
  have e1:=(Os n1 n4 (mm a ha)).1.1.2
  have e2:=(Os n1 n4 (mm b hb)).1.1.2
  rw[<-e1,<-e2,e]
 have e:=ZS pm so inj h.num
 have eB:LC n all=norm T:=by
  unfold LC
  rw[<-hR,pM]
 rw[eB]
 refine⟨e,λt ht=>?_,JI T,λF=>?_,?_,λt ht=>?_,λt ht=>?_⟩
 ·rw[<-e]at ht
  have hm:=Ea (f:=(·.1)) (pm.mem_iff.mp ht)
  rw[h.rows]at hm
  obtain⟨p,hp,ep⟩:=AV.mp hm
  obtain⟨⟨⟨⟨r1,_⟩,_⟩,_⟩,r2⟩:=Os n1 n4 (h.mem p hp)
  rw[<-show IY p=t.1 from ep]
  exact⟨r1,r2⟩
 ·rw[h.sum F,<-e,gR pm]
  simp [sm]
 ·rw[<-e,pm.length_eq]
  exact h.few' n1 n4
 ·rw[<-e]at ht
  have:=h.few' n1 n4
  exact JM (h.bits t (pm.mem_iff.mp ht)) (by lia)
 ·rw[<-e]at ht
  have hm:=Ea (f:=(·.1)) (pm.mem_iff.mp ht)
  rw[h.rows]at hm
  obtain⟨p,hp,ep⟩:=AV.mp hm
  rw[<-show IY p=t.1 from ep]
  exact Ea (h.mem p hp)
abbrev oO:List Str:=["many", "some", "telling", "left", "row", "often"]
abbrev pF:List Str:=["powers", "number", "often"]
theorem Sv:pF.Nodup:=by decide +kernel
theorem Kb:Gj oO ["many", "some"] (HW VC):=Hx
def J6(cBC C:Addr)(good:Nat->List Gb->Hp->VK->Prop):Sp:=λvs H Q E=>∃(n:Int)(a:Addr)(ts:List Gb),vs=[.int n,.ref a]/\Gh H a ts/\ts.length<=1000/\(¬ (1<=n/\n<=4)->E (.ref cBC) none H) /\
 (1<=n/\n<=4->(∀t∈ts,t.1.length=n.toNat)/\(Jv ts (n.toNat-1) none->good n.toNat ts H Q) /\
  ∀k p,Jv ts (n.toNat-1) (some (k,p))->∀H' d kk,Gf H H'->H d=none->H' d=some (xD d [("place",.int k),("powers",.ref kk)])->H' kk=some (.tup (p.map V.int))->E (.ref C) (some d) H')
def RL(cBC C:Addr):Sp:=J6 cBC C λn ts H Q=>∃b,HS ts/\Hm n ts/\Deg n 8 b ts/\b<=1000/\∀(l:Addr)(H':Hp),H l=none->Gf H H'->Gh H' l (LC n ts)->LJ n b ts (LC n ts)->Q (.ref l) H'
def NM(cBC C:Addr):Sp:=J6 cBC C λn ts H Q=>∃b,HS ts/\Hm n ts/\Deg n 8 b ts/\b<=1000/\∀(v:V)(H':Hp),Gf H H'->Q v H'
def qL(n b:Nat)(a:Addr)(ts:List Gb)(H:Hp)(m:Nat)(σ:St)(H':Hp):Prop:=∃(ps:List Pw)(T L:List Gb)(lT lL:Addr)(c4 c5:Option V),m=53-T.length/\K3 n b ts ps T L/\On n (53-T.length) (T,L)=On n 53 ([],ts)/\σ=[some (.int n),some (.ref a),some (.ref lT),some (.ref lL),c4,c5]/\Gh H' lT T/\Gh H' lL L/\lT≠lL/\H lT=none/\Gf H H'
theorem dP{cBC C:Addr}(F:Hg K "by_elementary" "by_elementary" VC f fd)(GU:Hr P w K mg base 8 "refuse_uneven" PJ (R8 cBC C))(GT:Hd P w K mg base 8 "turned_over" R5 Rh)(GE:Hd P w K mg base 8 "elementary_product" PH (Ol Ih))(GL:Hd P w K mg base 8 "less" LV (TL λts us=>ts++ngt us))(ms:mg "sorted" = none):Gw P w K mg base (IB P w) 9 f fd ["many", "some"] (RL cBC C):=by
 refine LR F Kb λHQ A outer s H vs Q E hr h=>?_
 obtain⟨n0,a,ts,rfl,hA,hl,e1,q0⟩:=h
 have hM:=BG (Bt (by decide:Dat.dep Gb+1<=64) _) hr.units
 have h8:=Pb hr
 refine⟨_,HP (IZ (Jk GU hr rfl Jp (Ge (pv 0) (Ge (pv 1) Gq))))
  (HP (Hi (i:=2) Kb.nd rfl (Or.inl rfl) (Hy Gq))
  (HP (Hi (i:=3) Kb.nd rfl (Or.inl rfl) (pv 1))
  (HP (WW RN (ID (Lx (α:=Gb) hM) (pv 3) (Hy Gq) (IA _))
   (HP (Hi (i:=4) Kb.nd rfl (Or.inl rfl) (Hq GT hr rfl (Ge (JH Mq (JH KU (pv 3) HR (λ_ _=>rfl)) HR (λ_ _=>rfl)) Gq)))
   (HP (Hi (i:=5) Kb.nd rfl (Or.inr rfl) (JH Mq (JH KU (pv 3) HR (λ_ _=>rfl)) HR (λ_ _=>rfl)))
   (HP (IZ (Lc BQ BV BW Lu (pv 2) (Ge (Hz (Ge (pv 4) (Ge (pv 5) Gq))) Gq)))
   (HN (Hi (i:=3) Kb.nd rfl (Or.inl rfl) (Hq GL hr rfl (Ge (pv 3) (Ge (JO (N':=pF) (src:=[none,none,some 5]) rfl (Ig (Hq GE hr rfl (Ge (pv 0) (Ge (pv 4) Gq)))) (I0 (HW VC) oO (by decide +kernel))
    (λb=>JX rfl (IE (Hb (i:=0) Sv rfl (Or.inl rfl)) (IE (Hb (i:=1) Sv rfl (Or.inl rfl)) JZ))) (λb=>Jh)
    (λb=>Hz (Ge (pv 0) (Ge (HV Nk (pv 2) (pv 1)) Gq)))) Gq)))))))))
  (HN (Hs (pJ (α:=Gb) rfl h8 rfl ms (Ge (pv 2) Gq))))))),?_⟩
 refine⟨_,rfl,_,rfl,n0,a,ts,rfl,hA,hl,e1,λhm=>?_⟩
 obtain⟨n,rfl⟩:∃n:Nat,n0=n:=⟨n0.toNat,by lia⟩
 obtain⟨q1,q2,q3⟩:=q0 hm
 rw[Aw]at q1 q2 q3
 refine⟨q1,λun H1 s1=>?_,q3⟩
 obtain⟨b,hC,hE,hD,hb,q⟩:=q2 un
 have n1:1<=n:=by lia
 have n4:n<=4:=by lia
 have few:=Vk hC hD n1 n4
 refine⟨Ik,λl0 h0=>?_⟩
 have s0:=HH h0 (.lst [])
 have hA1:Gh (Gi H1 l0 (.lst [])) a ts:=hA.mono (s1.trans s0)
 have na:l0≠a:=λz=>by
  obtain⟨vs,eA,_⟩:=hA.mono s1
  rw[z,eA]at h0
  cases h0
 refine⟨_,rfl,?_⟩
 refine⟨qL n b a ts H,⟨53,[],[],ts,l0,a,none,none,rfl,K3.start hC hE hD n1 n4,rfl,rfl,⟨[],Gu,.nil⟩,hA1,na,s1.free h0,s1.trans s0⟩,?_⟩
 rintro m σ H3 ⟨ps,T,L,lT,lL,c4,c5,rfl,hB,hR,rfl,hT,hL,nTL,fT,sH⟩
 refine⟨_,rfl,Ik,λe0 h3=>?_⟩
 have s3:=HH h3 (.lst [])
 refine⟨lL,e0,L,[],rfl,rfl,hL.mono s3,⟨[],Gu,.nil⟩,_,rfl,?_⟩
 have hT3:=hT.mono s3
 have hL3:=hL.mono s3
 have sH3:=sH.trans s3
 generalize Gi H3 e0 (.lst [])=G at *
 cases L with
 |nil =>
  rw[LD]
  refine KW ?_
  refine⟨_,rfl,lT,T,rfl,hT3,λ_ _=>trivial,λp vs l' hp pm so it=>?_⟩
  obtain⟨e1,e2⟩:=XH hB hR n1 n4 pm so
  rw[e1]at it
  exact q p _ (sH3.free hp) (sH3.trans (HH hp _)) ⟨vs,Gu,Hc.mono (S4 hp _) it⟩ e2
 |cons t r =>
  rw[show JG (Dat.eqb (α:=Gb)) (t::r) []=false from rfl]
  refine Jr ⟨λσ' H'=>∃m',m'<53-T.length/\qL n b a ts H m' σ' H',λ_ _ z=>z,?_⟩
  have ht:=AJ (a:=t) (l:=r)
  have hl:=hB.lead
  obtain⟨⟨⟨⟨_,_⟩,_⟩,mx⟩,rB⟩:=Os n1 n4 hl
  have bs:=hB.step n1 n4
  have few':=bs.few' n1 n4
  rw[AI,BB]at few'
  obtain⟨_,_,dgE,lnE⟩:=RI n1 n4 hl
  obtain⟨vsL,eL,iL⟩:=id hL3
  obtain⟨vsT,eT,iT⟩:=hT3
  have lT':=AL iT
  have lL':=AL iL
  obtain⟨u,hu,hi⟩:=Im iL (AW (show 0<vsL.length by rw[lL',Ai];lia))
  cases hu
  obtain⟨p0,k0,ev,hp0,hk0⟩:=Jf hi
  have at0:Jn vsL (0:Int)=some (.ref p0):=LN (j:=0) (by rw[AW (show 0<vsL.length by rw[lL',Ai];lia),ev])
  refine⟨_,rfl,lL,_,_,.ref p0,rfl,rfl,HK.of eL,at0,p0,_,_,.ref k0,rfl,rfl,HL.of hp0,LN (j:=0) rfl,k0,t.1,rfl,hk0,by rw[hB.deg.len t ht];lia,hB.deg.nn t ht,mx,λtr H4 s4 h4=>?_⟩
  refine⟨_,rfl,lL,_,_,.ref p0,rfl,rfl,HK.of (s4 _ _ eL),at0,p0,_,_,.int t.2,rfl,rfl,HL.of (s4 _ _ hp0),LN (j:=1) rfl,?_⟩
  have eT4:=s4 _ _ eT
  refine⟨_,rfl,.inl ⟨rfl,_,HK.of eT4⟩,_,rfl,_,rfl,IV,λpr h5=>?_⟩
  have s5:=HH h5 (.tup [.ref tr,.int t.2])
  have eT5:=s5 _ _ eT4
  have hP:Gi H4 pr (.tup [.ref tr,.int t.2]) pr=some (.tup [.ref tr,.int t.2]):=Gu
  have z5:=s4.trans s5
  have h45:=s5 _ _ h4
  refine⟨lT,vsT,_,rfl,rfl,eT5,Kl (by lia),?_⟩
  generalize Gi H4 pr (.tup [.ref tr,.int t.2])=G5 at *
  have t5:∀o,HZ G5 (Gi G5 lT o):=λo=>ML eT5 o
  have hT6:Gh (Gi G5 lT (.lst (vsT++[.ref pr]))) lT (T++[(IY t.1,t.2)]):=⟨_,Gu,Cc (Hc.mono ((HZ.same z5).trans (t5 _)) iT) (Dat.mono (t5 _) (JY (t:=(IY t.1,t.2)) hP h45))⟩
  have hL6:Gh (Gi G5 lT (.lst (vsT++[.ref pr]))) lL (t::r):=⟨vsL,by rw[Ha (λz=>nTL z.symm)];exact z5 _ _ eL,Hc.mono ((HZ.same z5).trans (t5 _)) iL⟩
  have htr:Gi G5 lT (.lst (vsT++[.ref pr])) tr=some (.tup ((IY t.1).map V.int)):=t5 _ _ _ h45
  have sH6:Gf H (Gi G5 lT (.lst (vsT++[.ref pr]))):=Kc fT (sH3.trans z5) _
  generalize Gi G5 lT (.lst (vsT++[.ref pr]))=G6 at *
  refine⟨_,rfl,_,rfl,_,rfl,n,tr,IY t.1,rfl,n1,n4,htr,rB,λlE H7 h7 s7 hE7=>?_⟩
  change Gh H7 lE (KN n t.1) at hE7
  obtain⟨vsE,eE,iE⟩:=hE7
  have lE':=AL iE
  refine⟨lE,rfl,⟨_,HK.of eE⟩,λbk D hD'=>?_⟩
  refine LF (α:=Gb) hD' (HK.of eE) (λσ=>∃c d,σ=[c,d,some (.int t.2)]) (λi=>((KN n t.1)[i]?).bind λu=>some (u.1,t.2*u.2)) (small (by lia)) ?_ ?_ ?_
  ·exact⟨_,_,rfl⟩
  ·rintro i x σ H8 Yes No hx ⟨c,d,rfl⟩ s8 yes no
   obtain⟨u,hu,hi⟩:=Im iE hx
   obtain⟨pu,ku,rfl,hpu,hku⟩:=Jf hi
   refine⟨pu,_,rfl,HL.of (s8 _ _ hpu),rfl,_,_,rfl,_,_,rfl,rfl,?_⟩
   refine Mi ?_
   refine⟨_,rfl,_,rfl,_,rfl,_,_,rfl,rfl,⟨JM (hB.deg.num t ht) (by lia),JM (dgE.num u (Ad hu)) (by lia)⟩,IV,λp9 h9=>?_⟩
   have s9:=HH h9 (.tup [.ref ku,.int (t.2*u.2)])
   exact yes _ _ _ (u.1,t.2*u.2) ⟨_,_,rfl⟩ s9 (by rw[hu];rfl) (JY (t:=(u.1,t.2*u.2)) Gu (s9 _ _ (s8 _ _ hku)))
  rintro H8 s8 hS8
  rw[lE',KC,A7]at hS8
  change Gh H8 D (scl t.2 (KN n t.1)) at hS8
  have ne:∀{u:Gb},u.1.length=n->u.1≠[]:=λ{u} h e=>by
   rw[e]at h
   simp at h
   lia
  refine⟨lL,D,t::r,scl t.2 (KN n t.1),rfl,hL6.mono (s7.trans s8),hS8,λu hu=>ne (hB.deg.len u hu),λu hu=>?_,?_,λl9 H9 h9 s9 hL9=>?_⟩
  ·obtain⟨v,hv,rfl⟩:=AV.mp hu
   exact ne (dgE.len v hv)
  ·have:=hB.few
   rw[Ly]
   lia
  have z9:=s7.trans (s8.trans s9)
  have hT9:=hT6.mono z9
  refine⟨53-(T.length+1),by lia,ps++[t.1],T++[(IY t.1,t.2)],_,lT,l9,_,_,?_,bs,?_,rfl,hT9,hL9,λz=>?_,fT,sH6.trans z9⟩
  ·rw[AI,BB]
  ·rw[<-hR,AI,BB,show 53-T.length=(53-(T.length+1))+1 by lia]
   rfl
  ·obtain⟨ws,ew,_⟩:=hT6.mono (s7.trans s8)
   rw[z]at ew
   rw[ew]at h9
   cases h9
end
section
variable{P:Program}{w:World}{K:W.Frag}{mg:Str->Option Value}{base:Heap}{f g:Addr}{fd gd:FuncData}
def oN(n:Nat)(k:Int)(j:Nat):List Int:=(List.range n).map λi=>if i=j then k else 0
def Ou(n k:Nat):List Gb:=(List.range n).map λj=>(oN n (k:Int) j,1)
def KP(n:Nat)(k:Int):List Gb:=if decide (1<=k)&&decide (k<=8) then Ou n k.toNat else []
theorem lK:∀n∈[1,2,3,4],∀k∈[1,2,3,4,5,6,7,8],Ks n k (Ou n k)=true:=by decide +kernel
theorem ZH(n k:Nat)(n1:1<=n)(n4:n<=4)(k1:1<=k)(k8:k<=8):Mj n k (Ou n k):=by
 have hk:k∈[1,2,3,4,5,6,7,8]:=by
  have:k=1∨k=2∨k=3∨k=4∨k=5∨k=6∨k=7∨k=8:=by lia
  rcases this with rfl|rfl|rfl|rfl|rfl|rfl|rfl|rfl<;>simp
 exact Vh (lK n (KH n1 n4) k hk)
theorem fH{n:Nat}{k:Int}(k1:1<=k)(k8:k<=8):KP n k=Ou n k.toNat:=by
 unfold KP
 rw[AX k1,AX k8]
 rfl
theorem Ox{n:Nat}(n1:1<=n)(n4:n<=4)(k:Int):∀t∈KP n k,t.1.length=n:=λt ht=>by
 unfold KP at ht
 split at ht
 ·rename_i c
  rw[AM,AZ,AZ]at c
  exact(ZH n k.toNat n1 n4 (by lia) (by lia)).deg.len t ht
 ·simp at ht
theorem gC{n:Nat}(n1:1<=n)(n4:n<=4):∀r:List Int,(∀k∈r,1<=k/\k<=8)->Ak (Iw (KP n) n r) (JJ (Ou n) n (r.map Int.toNat)):=by
 refine J4 (λ_=>Ak.refl _) λr k ih h=>?_
 have hk:=h k (Ap _ (AS.mpr rfl))
 have ih:=ih λx hx=>h x (A6 _ hx)
 rw[Au,Ca,Mc]
 have e:Ak (Iw (KP n) n [k]) (Ou n k.toNat):=by
  rw[<-fH hk.1 hk.2]
  exact(NH _ _).trans (OP (Ox n1 n4 k))
 exact(aQ (Ox n1 n4) r [k]).trans ((ih.prd e).trans (Ak.norm _).symm)
def qH(n:Nat)(F:Pw->Int)(T:List Gb):Int:=sm (λr=>sm F (JJ (Ou n) n (r.map Int.toNat))) T
theorem gB{n:Nat}(n1:1<=n)(n4:n<=4)(F:Pw->Int)(T:List Gb)(h:∀t∈T,∀k∈t.1,1<=k/\k<=8):sm F (hv (KP n) n T)=qH n F T:=by
 rw[Ph]
 exact LW λt ht=>gC n1 n4 t.1 (h t ht) F
def OU(n k:Nat):List Gb:=if k=0 then Of n else Ih n k
theorem bR:∀n∈[1,2,3,4],∀k∈List.range (n+1),norm (hv (KP n) n ((IF (IM n) n).getD k []))=norm (scl (IM n) (OU n k)):=by decide +kernel
theorem dC:∀n∈[1,2,3,4],(IF (IM n) n).all NY=true:=by decide +kernel
def OZ(n:Nat):List (List Int):=(fl n).map IY
def Jw(L:Nat)(r:List Int):List Int:=r++List.replicate (L-r.length) 0
theorem X2:∀n∈[1,2,3,4],(OZ n).all (λr=>(List.range 9).all λL=>decide (L<r.length)||(Oh (IF (IM n) n) (Jw L r)&&(Ib (IF (IM n) n) (Jw L r)).all λt=>(OZ n).contains t.1))=true:=by decide +kernel
theorem jW{n L:Nat}(n1:1<=n)(n4:n<=4){r:List Int}(h:r∈OZ n)(hL:L<=8)(hr:r.length<=L):Oh (IF (IM n) n) (Jw L r)=true/\∀t∈Ib (IF (IM n) n) (Jw L r),t.1∈OZ n:=by
 have:=Aj.mp (Aj.mp (X2 n (KH n1 n4)) r h) L (At.mpr (by lia))
 rw[AN (by lia),Gk,AM,Aj]at this
 exact⟨this.1,λt ht=>GK.mp (this.2 t ht)⟩
def KA(n:Nat)(r:List Int):List Gb:=JJ (OU n) n (r.map Int.toNat)
theorem WJ{n:Nat}(n1:1<=n)(n4:n<=4):∀r:List Int,(∀k∈r,0<=k/\k<=(n:Int))->Ak (hv (KP n) n (Ib (IF (IM n) n) r)) (scl (IM n^r.length) (KA n r)):=by
 refine J4 (λ_=>?_) λr k ih h=>?_
 ·have e:hv (KP n) n (Ib (IF (IM n) n) [])=scl 1 (Of n)++[]:=rfl
  rw[e,BN]
  show Ak (scl 1 (Of n)) (scl (IM n^0) (Of n))
  rw[Int.pow_zero]
  exact Ak.refl _
 ·have hk:=h k (Ap _ (AS.mpr rfl))
  have ih:=ih λx hx=>h x (A6 _ hx)
  have e:=Ak.of_norm (bR n (KH n1 n4) k.toNat (At.mpr (by lia)))
  have z:KA n (r++[k])=norm (prd (KA n r) (OU n k.toNat)):=by
   unfold KA
   rw[Au,Ca,Mc]
   rfl
  rw[QJ,z]
  refine(lC (Ak.norm _)).trans ((T4 (Ox n1 n4) iH _ _).trans ((ih.prd e).trans ?_))
  rw[AI,BB,Int.pow_succ]
  exact(cA _ _ _).trans (((Tl _ _ _).scl _).trans ((Qw _ _ _).trans ((Ak.norm _).symm.scl _)))
theorem oG{n:Nat}(n1:1<=n)(n4:n<=4):∀r:List Int,(∀k∈r,0<=k/\k<=(n:Int))->∀t∈KA n r,t.1.length=n:=by
 refine J4 (λ_ t ht=>?_) λr k ih h t ht=>?_
 ·have:t∈[(List.replicate n (0:Int),(1:Int))]:=ht
  rw[AS.mp this]
  exact BA
 ·have hk:=h k (Ap _ (AS.mpr rfl))
  have ih:=ih λx hx=>h x (A6 _ hx)
  have z:KA n (r++[k])=norm (prd (KA n r) (OU n k.toNat)):=by
   unfold KA
   rw[Au,Ca,Mc]
   rfl
  rw[z]at ht
  obtain⟨u,hu,e⟩:=J1 ht
  rw[<-e]
  obtain⟨x,hx,hm⟩:=BO.mp hu
  obtain⟨y,hy,rfl⟩:=AV.mp hm
  refine Vf (ih x hx) ?_
  unfold OU at hy
  split at hy
  ·rw[AS.mp hy]
   exact BA
  ·exact(LG n k.toNat n1 n4 (by lia) (by lia)).deg.len y hy
theorem Qb{n:Nat}(n1:1<=n)(n4:n<=4){r:List Int}(h:∀k∈r,1<=k/\k<=(n:Int)):∀m,Ak (KA n (r++List.replicate m 0)) (JJ (Ih n) n (r.map Int.toNat))
 |0=>by
  rw[List.replicate_zero,BN]
  have key:∀r:List Int,(∀k∈r,1<=k/\k<=(n:Int))->KA n r=JJ (Ih n) n (r.map Int.toNat):=by
   refine J4 (λ_=>rfl) λr k ih h=>?_
   have hk:=h k (Ap _ (AS.mpr rfl))
   have ih:=ih λx hx=>h x (A6 _ hx)
   unfold KA at ih ⊢
   rw[Au,Ca,Mc,Mc,ih]
   have:OU n k.toNat=Ih n k.toNat:=by
    unfold OU
    rw[AE (by lia)]
   unfold Om
   rw[this]
  rw[key r h]
  exact Ak.refl _
 |m+1=>by
  have ih:=Qb n1 n4 h m
  have z:KA n (r++List.replicate (m+1) 0)=norm (prd (KA n (r++List.replicate m 0)) (Of n)):=by
   unfold KA
   rw[List.replicate_succ',<-Ac,Au,Ca,Mc]
   rfl
  rw[z]
  refine(Ak.norm _).trans ((NH _ _).trans ((OP ?_).trans ih))
  exact oG n1 n4 _ λk hk=>by
   rcases Aq.mp hk with hk|hk
   ·have:=h k hk
    lia
   ·rw[Dw hk]
    lia
def NL(T:List Gb):Nat:=T.foldl (λm t=>max m t.1.length) 0
theorem Si(T:List Gb):∀t∈T,t.1.length<=NL T:=by
 have key:∀(T:List Gb)(a:Nat),a<=T.foldl (λm t=>max m t.1.length) a/\∀t∈T,t.1.length<=T.foldl (λm t=>max m t.1.length) a:=by
  intro T
  induction T with
  |nil=>intro a;exact⟨AG _,λt ht=>by simp at ht⟩
  |cons u T ih =>
   intro a
   obtain⟨h1,h2⟩:=ih (max a u.1.length)
   rw[B3]
   refine⟨by lia,λt ht=>?_⟩
   rcases AO.mp ht with rfl|ht
   ·lia
   ·exact h2 t ht
 exact(key T 0).2
def LK(L:Nat)(T:List Gb):List Gb:=T.map λt=>(Jw L t.1,t.2)
def MX(n L:Nat)(T:List Gb):List Gb:=norm ((LK L T).flatMap (Mu (IF (IM n) n)))
structure eP(n b L:Nat)(all U:List Gb):Prop where
 row:∀t∈U,Le n t.1=true/\Ic t.1=true
 can:HS U
 sum:∀F,qH n F U=IM n^L*sm F all
 few:U.length<=53
 bits:∀t∈U,t.2.natAbs<2^(b+10700)
theorem Ru(f:Pw->Int)(Ps:List (List Gb)):∀T:List Gb,sm f (T.flatMap (Mu Ps))=sm (λr=>sm f (Ib Ps r)) T
 |[]=>rfl
 |t::T=>by
  rw[BZ,Kp,Ru f Ps T]
  show sm f (scl t.2 (Ib Ps t.1))+_=t.2*sm f (Ib Ps t.1)+_
  rw[Jz]
theorem Qx(F:Pw->Int)(v:List Int->Pw):∀T:List Gb,sm F (T.map λt=>(v t.1,t.2))=sm (λr=>F (v r)) T
 |[]=>rfl
 |t::T=>by
  rw[Ae]
  show t.2*F (v t.1)+sm F (T.map λt=>(v t.1,t.2))=t.2*F (v t.1)+sm (λr=>F (v r)) T
  rw[Qx F v T]
theorem Qm(n:Nat)(F:Pw->Int):∀T:List Gb,LQ n F T=sm (λr=>sm F (JJ (Ih n) n (r.map Int.toNat))) T
 |[]=>rfl
 |t::T=>by
  have:=Qm n F T
  unfold LQ at this ⊢
  rw[Ae,BX,this]
  rfl
theorem kW{b k:Nat}{ts:List Gb}(h:∀t∈ts,t.2.natAbs<2^b)(hk:ts.length<2^k):∀t∈norm ts,t.2.natAbs<2^(b+k):=λt ht=>by
 have e:=O9 (JI ts) ht
 rw[Jo]at e
 rw[<-e]
 refine BG (Uu t.1 h) ?_
 rw[EA,DU]
 exact Dc hk (HI (by decide))
theorem bU{n:Nat}(n1:1<=n)(n4:n<=4){r:List Int}(h:r∈OZ n):Le n r=true/\Ic r=true:=by
 obtain⟨p,hp,rfl⟩:=AV.mp h
 obtain⟨⟨⟨⟨r1,_⟩,_⟩,_⟩,r2⟩:=Os n1 n4 hp
 exact⟨r1,r2⟩
theorem lQ{n:Nat}{r:List Int}(h:Le n r=true):r.length<=8/\∀k∈r,1<=k/\k<=(n:Int):=by
 unfold Le at h
 rw[AM,AM,Aj,AZ]at h
 refine⟨h.2,λk hk=>?_⟩
 have:=h.1.1 k hk
 rw[AM,AZ,AZ]at this
 exact this
theorem XY{n b:Nat}{all T:List Gb}(n1:1<=n)(n4:n<=4)(h:LJ n b all T){L:Nat}(hL:L<=8)(hl:∀t∈T,t.1.length<=L):eP n b L all (MX n L T):=by
 have own:∀t∈MX n L T,t.1∈OZ n:=λt ht=>by
  obtain⟨u,hu,e⟩:=J1 ht
  obtain⟨x,hx,hux⟩:=BO.mp hu
  obtain⟨y,hy,rfl⟩:=AV.mp hux
  obtain⟨z,hz,rfl⟩:=AV.mp hx
  rw[<-e]
  exact(jW n1 n4 (h.own z hz) hL (hl z hz)).2 y hy
 have row:∀t∈MX n L T,Le n t.1=true/\Ic t.1=true:=λt ht=>bU n1 n4 (own t ht)
 have fw:∀t∈LK L T,(Ib (IF (IM n) n) t.1).length<=50/\∀u∈Ib (IF (IM n) n) t.1,u.2.natAbs<2^64:=λt ht=>by
  obtain⟨z,hz,rfl⟩:=AV.mp ht
  have pb:=aK (jW n1 n4 (h.own z hz) hL (hl z hz)).1
  have f1:=pb.few (Jw L z.1).length (AG _)
  have f2:=pb.all (Jw L z.1).length (AG _)
  rw[Af (AG _)]at f1 f2
  exact⟨f1,λu hu=>(f2 u hu).2⟩
 refine⟨row,JI _,λF=>?_,?_,?_⟩
 ·have k8:∀t∈MX n L T,∀k∈t.1,1<=k/\k<=8:=λt ht k hk=>by
   have:=(lQ (row t ht).1).2 k hk
   lia
  rw[<-gB n1 n4 F _ k8,Ph,h.sum F,Qm]
  unfold MX
  rw[JV,Ru]
  unfold LK
  rw[Qx,<-Nm]
  refine LW λt ht=>?_
  have rk:=lQ (h.row t ht).1
  have w:=WJ n1 n4 (Jw L t.1) λk hk=>by
   rcases Aq.mp hk with hk|hk
   ·have:=rk.2 k hk
    lia
   ·rw[Dw hk]
    lia
  have e1:sm (λr=>sm F (Iw (KP n) n r)) (Ib (IF (IM n) n) (Jw L t.1))=sm F (hv (KP n) n (Ib (IF (IM n) n) (Jw L t.1))):=(Ph _ _ _ _).symm
  show sm (λr=>sm F (Iw (KP n) n r)) (Ib (IF (IM n) n) (Jw L t.1))=_
  rw[e1,w F,Jz]
  have el:(Jw L t.1).length=L:=by
   unfold Jw
   rw[AI,BA]
   have:=hl t ht
   lia
  rw[el]
  congr 1
  exact Qb n1 n4 rk.2 _ F
 ·have c:=JI ((LK L T).flatMap (Mu (IF (IM n) n)))
  have nd:((MX n L T).map (·.1)).Nodup:=by
   rw[List.Nodup,Bw]
   refine c.ord.imp λ{x y} z e=>?_
   rw[e,Jb]at z
   cases z
  have:=Ch nd (λp hp=>by
   obtain⟨t,ht,rfl⟩:=AV.mp hp
   exact own t ht)
  unfold OZ at this
  rw[AB,AB]at this
  have:=(U6 n (KH n1 n4)).1
  lia
 ·have fl:=Vg (IF (IM n) n) (LK L T) λt ht=>(fw t ht).1
  have f53:=h.few
  have lp:(LK L T).length=T.length:=AB _
  have:=kW (b:=b+10600+64) (k:=12) (ts:=(LK L T).flatMap (Mu (IF (IM n) n))) (λt ht=>?_) (by
   have:(2:Nat)^12=4096:=by decide
   lia)
  ·exact λt ht=>JM (this t ht) (by lia)
  ·obtain⟨x,hx,hux⟩:=BO.mp ht
   obtain⟨y,hy,rfl⟩:=AV.mp hux
   obtain⟨z,hz,e⟩:=AV.mp hx
   have:=h.bits z hz
   refine aJ ?_ ((fw x hx).2 y hy)
   rw[<-e]
   exact this
end
section
variable{P:Program}{w:World}{K:W.Frag}{mg:Str->Option Value}{base:Heap}{f g:Addr}{fd gd:FuncData}
def sE(n k:Nat):List Gb:=(up 9 (k:Int) (k:Int) (n:Int)).flatMap (K8 n)
theorem nZ:∀n∈[1,2,3,4],((fl n).map IY).all (λr=>Oh (JQ n) r&&(Ib (JQ n) r).all λt=>((fl n).map IY).contains t.1)=true:=by decide +kernel
theorem aP:∀n∈[1,2,3,4],(JQ n).all NY=true:=by decide +kernel
structure sK(n b:Nat)(all T:List Gb):Prop where
 row:∀t∈T,Le n t.1=true/\Ic t.1=true
 can:HS T
 sum:∀F,sm F all=(T.map λt=>t.2*sm F (JJ (sE n) n (t.1.map Int.toNat))).sum
 few:T.length<=53
 bits:∀t∈T,t.2.natAbs<2^(b+10700)
theorem Y7{n:Nat}(n1:1<=n)(n4:n<=4){r:List Int}(h:r∈(fl n).map IY):Oh (JQ n) r=true/\∀t∈Ib (JQ n) r,t.1∈(fl n).map IY:=by
 have:=Aj.mp (nZ n (KH n1 n4)) r h
 rw[AM,Aj]at this
 exact⟨this.1,λt ht=>GK.mp (this.2 t ht)⟩
end
section
variable{P:Program}{w:World}{K:W.Frag}{mg:Str->Option Value}{base:Heap}{f g:Addr}{fd gd:FuncData}
theorem W0:Gj ["many", "some"] ["many", "some"] (HW Yt):=Hx
theorem kK{cBC C:Addr}(F:Hg K "by_whole" "by_whole" Yt f fd)(GB:Hr P w K mg base 9 "by_elementary" ["many", "some"] (RL cBC C))(GE:Hd P w K mg base 9 "elementaries_by_whole" ["many"] TB)(GP:Hd P w K mg base 9 "put_in" ["telling", "parts"] Nt):Gw P w K mg base (IB P w) 10 f fd ["many", "some"] (NM cBC C):=by
 refine LR F W0 λHQ A outer s H vs Q E hr h=>?_
 obtain⟨n0,a,ts,rfl,hL,hl,e1,q0⟩:=h
 refine⟨_,HN (Hs (Hq GP hr rfl (Ge (Jk GB hr rfl Jp (Ge (pv 0) (Ge (pv 1) Gq))) (Ge (Hq GE hr rfl (Ge (pv 0) Gq)) Gq)))),?_⟩
 refine⟨_,rfl,_,rfl,n0,a,ts,rfl,hL,hl,e1,λhm=>?_⟩
 obtain⟨n,rfl⟩:∃n:Nat,n0=n:=⟨n0.toNat,by lia⟩
 obtain⟨q1,q2,q3⟩:=q0 hm
 rw[Aw]at q1 q2 q3
 refine⟨q1,λun=>?_,q3⟩
 obtain⟨b,hC,hE,hD,hb,q⟩:=q2 un
 have n1:1<=n:=by lia
 have n4:n<=4:=by lia
 rw[Aw]
 refine⟨b,hC,hE,hD,hb,λl1 H1 h1 s1 hT tk=>?_⟩
 refine⟨_,rfl,n,rfl,n4,λl2 us H2 h2 s2 e2 hP=>?_⟩
 refine⟨l1,l2,LC n ts,us,JQ n,rfl,hT.mono s2,e2,hP,by have:=tk.few;lia,λt ht=>⟨(Y7 n1 n4 (tk.own t ht)).1,tk.can.num t ht,JM (tk.bits t ht) (by lia)⟩,Aj.mp (aP n (KH n1 n4)),λl3 H3 h3 s3 hL3=>?_⟩
 exact q (.ref l3) H3 (s1.trans (s2.trans s3))
end
section
variable{P:Program}{w:World}{K:W.Frag}{mg:Str->Option Value}{base:Heap}{f g:Addr}{fd gd:FuncData}
abbrev oY:=List Int×List Int
theorem jY{T:List Gb}{M:Int}(h:(T.map (λt=>(t.1.length:Int))=[]/\M=0)∨(M∈T.map (λt=>(t.1.length:Int))/\∀x∈T.map (λt=>(t.1.length:Int)),x<=M)):M=(NL T:Int):=by
 have key:∀(T:List Gb)(a:Nat),T.foldl (λm t=>max m t.1.length) a=a∨∃t∈T,T.foldl (λm t=>max m t.1.length) a=t.1.length:=by
  intro T
  induction T with
  |nil=>intro a;exact .inl rfl
  |cons u T ih =>
   intro a
   rw[B3]
   rcases ih (max a u.1.length) with e|⟨t,ht,e⟩
   ·rw[e]
    by_cases c:a<=u.1.length
    ·exact .inr ⟨u,AJ ..,by lia⟩
    ·exact .inl (by lia)
   ·exact .inr ⟨t,AK _ ht,e⟩
 have ge:=Si T
 rcases h with⟨h,rfl⟩|⟨h,hM⟩
 ·have:T=[]:=List.map_eq_nil_iff.mp h
  subst this
  rfl
 ·obtain⟨u,hu,e⟩:=AV.mp h
  have g:=ge u hu
  rcases key T 0 with e1|⟨t,ht,e1⟩
  ·have:NL T=0:=e1
   lia
  ·have:NL T=t.1.length:=e1
   have:=hM _ (AV.mpr ⟨t,ht,rfl⟩)
   lia
theorem qB{x:Int}(h:x.natAbs<18446744073709551616):x.natAbs<2^100000:=by
 have e:(2:Nat)^64=18446744073709551616:=by decide
 exact Ds (by rw[e];exact h) (Cg (by decide) (show 64<100000 by decide))
def LL(n L:Nat):Nat:=(IM n^L).toNat
theorem Qc{ns:List Int}(h:(List.range (ns.length+1)).all (λi=>decide ((K4 (ns.take i)).natAbs<2^64))=true)(i:Nat):(K4 (ns.take i)).natAbs<2^100000:=by
 have k:∀j,j<=ns.length->(K4 (ns.take j)).natAbs<2^64:=λj hj=>BD (Aj.mp h j (At.mpr (by lia)))
 refine Ds (m:=2^64) ?_ (Cg (by decide) (by decide))
 by_cases c:i<=ns.length
 ·exact k i c
 ·rw[Af (by lia),<-Bh (l:=ns)]
  exact k _ (AG _)
def PM(n:Nat):List Int:=(List.range n).map λ(k:Nat)=>1+(k:Int)
def oS(ns:List Int):Bool:=(List.range (ns.length+1)).all λi=>decide ((K4 (ns.take i)).natAbs<2^64)
theorem YH:∀n∈[1,2,3,4],K4 (PM n)=IM n/\oS (PM n)=true/\∀L∈List.range 9,K4 (List.replicate L (IM n))=IM n^L/\oS (List.replicate L (IM n))=true/\1<=IM n^L/\IM n^L<1152921504606846976/\1<=IM n/\IM n<=24:=by decide +kernel
theorem fC(c:Int)(k:Nat):(List.replicate k [V.int c]).flatten=(List.replicate k c).map V.int:=by
 induction k with
 |zero=>rfl
 |succ k ih=>rw[A4,Bv,ih,A4];rfl
theorem oH{H:Hp}{p k q:Addr}{t:oY}(h:H p=some (.tup [.ref k,.ref q]))(h1:H k=some (.tup (t.1.map V.int)))(h2:H q=some (.tup (t.2.map V.int))):Dat.is H (.ref p) t:=⟨p,.ref k,.ref q,rfl,h,Jx h1,Jx h2⟩
abbrev Va:List Str:=["many", "some", "telling", "length", "filled_up", "scale", "bottom"]
abbrev pD:List Str:=["row", "often"]
abbrev qX:List Str:=["row", "often", "length"]
abbrev oQ:List Str:=["row", "top", "bottom"]
theorem TD:pD.Nodup:=by decide +kernel
theorem QP:qX.Nodup:=by decide +kernel
theorem TH:oQ.Nodup:=by decide +kernel
theorem Ku:Gj Va ["many", "some"] (HW Pg):=Hx
theorem eQ{cBC C:Addr}(F:Hg K "by_power" "by_power" Pg f fd)(GB:Hr P w K mg base 9 "by_elementary" ["many", "some"] (RL cBC C))(GM:Hd P w K mg base 9 "multiplied_up" ["numbers"] Rx)(GP:Hd P w K mg base 9 "put_in" ["telling", "parts"] Nt)(GE:Hd P w K mg base 9 "elementaries_by_power" ["many", "scale"] QX)(GF:Hd P w K mg base 9 "fraction" ["top", "bottom"] Pu)(mx:mg "max" = none)(mn:mg "len" = none)(ml:mg "list" = none)(mr:mg "range" = none):Gw P w K mg base (IB P w) 10 f fd ["many", "some"] (NM cBC C):=by
 refine LR F Ku λHQ A outer s H vs Q E hr h=>?_
 obtain⟨n0,a,ts,rfl,hL,hl,e1,q0⟩:=h
 refine⟨_,HP (Hi (i:=2) Ku.nd rfl (Or.inl rfl) (Jk GB hr rfl Jp (Ge (pv 0) (Ge (pv 1) Gq))))
  (HP (Hi (i:=3) Ku.nd rfl (Or.inr rfl) (T9 rfl rfl mx (Ge (JO (N':=pD) (src:=[none,none]) rfl (Ig (pv 2)) (I0 (HW Pg) Va (by decide +kernel))
   (λb=>JX rfl (IE (Hb (i:=0) TD rfl (Or.inl rfl)) (IE (Hb (i:=1) TD rfl (Or.inl rfl)) JZ))) (λb=>Jh) (λb=>IT K6 rfl mn B2 (Ge (pv 0) Gq))) Gq)))
  (HP (QW (i:=4) (N':=qX) (src:=[none,none,some 3]) Ku.nd rfl (Or.inl rfl) rfl rfl (Ig (pv 2)) (I0 (HW Pg) Va (by decide +kernel))
   (λb=>JX rfl (IE (Hb (i:=0) QP rfl (Or.inl rfl)) (IE (Hb (i:=1) QP rfl (Or.inl rfl)) JZ))) (λb=>Jh)
   (λb=>Hz (Ge (HV L3 (pv 0) (HV WD (Hz (Ge HR Gq)) (HV Kn (pv 2) (IT K6 rfl mn B2 (Ge (pv 0) Gq))))) (Ge (pv 1) Gq))))
  (HP (Hi (i:=5) Ku.nd rfl (Or.inl rfl) (Hq GM hr rfl (Ge (Ze rfl rfl ml rfl mr (Ge HR (Ge (HV JW (pv 0) HR) Gq))) Gq)))
  (HP (Hi (i:=6) Ku.nd rfl (Or.inr rfl) (Hq GM hr rfl (Ge (HV kQ (Hy (Ge (pv 5) Gq)) (pv 3)) Gq)))
  (HN (Hs (JO (N':=oQ) (src:=[none,none,some 6]) rfl (Ig (Hq GP hr rfl (Ge (pv 4) (Ge (Hq GE hr rfl (Ge (pv 0) (Ge (pv 5) Gq))) Gq)))) (I0 (HW Pg) Va (by decide +kernel))
   (λb=>JX rfl (IE (Hb (i:=0) TH rfl (Or.inl rfl)) (IE (Hb (i:=1) TH rfl (Or.inl rfl)) JZ))) (λb=>Jh)
   (λb=>Hz (Ge (pv 0) (Ge (Hq GF hr rfl (Ge (pv 1) (Ge (pv 2) Gq))) Gq)))))))))),?_⟩
 refine⟨_,rfl,_,rfl,n0,a,ts,rfl,hL,hl,e1,λhm=>?_⟩
 obtain⟨n,rfl⟩:∃n:Nat,n0=n:=⟨n0.toNat,by lia⟩
 obtain⟨q1,q2,q3⟩:=q0 hm
 rw[Aw]at q1 q2 q3
 refine⟨q1,λun=>?_,q3⟩
 obtain⟨b,hC,hE,hD,hb,q⟩:=q2 un
 have n1:1<=n:=by lia
 have n4:n<=4:=by lia
 rw[Aw]
 refine⟨b,hC,hE,hD,hb,λl1 H1 h1 s1 hT tk=>?_⟩
 have few:=tk.few
 have rl:∀t∈LC n ts,t.1.length<=8:=λt ht=>(lQ (tk.row t ht).1).1
 have ge:=Si (LC n ts)
 have nn:=λt ht=>tk.can.num t ht
 have bt:=tk.bits
 have own:=tk.own
 have bpk:=λhL=>XY n1 n4 tk (L:=NL (LC n ts)) hL ge
 generalize hTt:LC n ts=T at *
 obtain⟨vs,eT,iT⟩:=hT
 have lv:=AL iT
 refine⟨_,rfl,l1,rfl,⟨_,HK.of eT⟩,λbk D hD'=>?_⟩
 refine LF (α:=Int) hD' (HK.of eT) (λσ=>∃c d,σ=[c,d]) (λi=>(T[i]?).bind λt=>some (t.1.length:Int)) (small (by lia)) ⟨_,_,rfl⟩ ?_ ?_
 ·rintro i v σ H2 Yes No hv ⟨c,d,rfl⟩ s2 yes no
  obtain⟨t,ht,hi⟩:=Im iT hv
  obtain⟨p,kk,rfl,hp,hkk⟩:=Jf hi
  refine⟨p,_,rfl,HL.of (s2 _ _ hp),rfl,_,_,rfl,_,_,rfl,rfl,?_⟩
  refine Mi ?_
  refine⟨_,rfl,kk,_,rfl,.inr (HL.of (s2 _ _ hkk)),?_⟩
  rw[AB]
  exact yes _ _ _ (t.1.length:Int) ⟨_,_,rfl⟩ (Gf.refl _) (by rw[ht];rfl) rfl
 rintro H2 s2 ⟨ws,eD,iD⟩
 rw[Qg iD,lv,KC,A7]at eD
 refine⟨D,_,rfl,.inl (HK.of eD),λM hM=>?_⟩
 have eM:=jY hM
 subst eM
 have L8:NL T<=8:=by
  rcases hM with⟨e,hz⟩|⟨hm,_⟩
  ·lia
  ·obtain⟨t,ht,e⟩:=AV.mp hm
   have:=rl t ht
   lia
 have bpk:=bpk L8
 clear hM eD iD
 show JA 3 (V.int ((NL T:Nat):Int)) _ _ _
 generalize hLL:NL T=L at *
 refine⟨_,rfl,l1,rfl,⟨_,HK.of (s2 _ _ eT)⟩,λbk2 D2 hD2=>?_⟩
 have iT2:=Hc.mono (HZ.same s2) iT
 refine LF (α:=Gb) hD2 (HK.of (s2 _ _ eT)) (λσ=>∃c d,σ=[c,d,some (.int (L:Int))]) (λi=>(T[i]?).bind λt=>some (Jw L t.1,t.2)) (small (by lia)) ⟨_,_,rfl⟩ ?_ ?_
 ·rintro i v σ H3 Yes No hv ⟨c,d,rfl⟩ s3 yes no
  obtain⟨t,ht,hi⟩:=Im iT2 hv
  have tm:=Ad ht
  have tl:=ge t tm
  obtain⟨p,kk,rfl,hp,hkk⟩:=Jf hi
  have hk3:=s3 _ _ hkk
  refine⟨p,_,rfl,HL.of (s3 _ _ hp),rfl,_,_,rfl,_,_,rfl,rfl,?_⟩
  refine Mi ?_
  refine⟨_,rfl,IH,λt0 h0=>?_⟩
  have s0:=HH h0 (.tup [.int 0])
  refine⟨_,rfl,_,rfl,kk,_,rfl,.inr (HL.of (s0 _ _ hk3)),_,_,rfl,rfl,t0,[0],_,rfl,rfl,Gu,by simp,by rw[AB];lia,by rw[AB];lia,small (by rw[AB];show 1*_<=100000;lia),λt2 H4 s4 h4=>?_⟩
  rw[nO,AB,show((L:Int)-(t.1.length:Int)).toNat=L-t.1.length by lia]at h4
  refine Mr (r:=t.1) (r':=List.replicate (L-t.1.length) 0) (s4 _ _ (s0 _ _ hk3)) h4 (small (by rw[BA];lia)) λt3 H5 s5 h5=>?_
  refine⟨_,rfl,IV,λt6 h6=>?_⟩
  have s6:=HH h6 (.tup [.ref t3,.int t.2])
  exact yes _ _ _ (Jw L t.1,t.2) ⟨_,_,rfl⟩ (s0.trans (s4.trans (s5.trans s6))) (by rw[ht];rfl) (JY (t:=(Jw L t.1,t.2)) Gu (s6 _ _ h5))
 intro H3 s3 hD3
 rw[lv,KC,A7]at hD3
 change Gh H3 D2 (LK L T) at hD3
 obtain⟨u1,u2,u3⟩:=YH n (KH n1 n4)
 obtain⟨u4,u5,u6,u7,u8,u9⟩:=u3 L (At.mpr (by lia))
 refine⟨_,rfl,_,_,rfl,rfl,1,_,rfl,⟨by lia,by lia,by lia,by lia⟩,by lia,λl5 h5=>?_⟩
 have e5:((List.range ((n:Int)+1-1).toNat).map λ(k:Nat)=>V.int (1+(k:Int)))=(PM n).map V.int:=by
  unfold PM
  rw[show((n:Int)+1-1).toNat=n by lia,C1]
  rfl
 rw[e5]
 have s5:=HH h5 (.lst ((PM n).map V.int))
 refine⟨l5,PM n,rfl,Gu,Qc u2,λx hx=>?_,?_⟩
 ·obtain⟨k,hk,rfl⟩:=AV.mp hx
  have:=At.mp hk
  exact qB (by lia)
 rw[u1]
 generalize hc:IM n=c at *
 refine⟨_,rfl,IH,λl6 h6=>?_⟩
 have s6:=HH h6 (.lst [.int c])
 refine⟨_,rfl,l6,_,_,rfl,rfl,Gu,by lia,by lia,small (by show 1*_<=100000;lia),λl7 h7=>?_⟩
 rw[fC,Aw]
 have s7:=HH h7 (.lst ((List.replicate L c).map V.int))
 refine⟨l7,List.replicate L c,rfl,Gu,Qc u5,λx hx=>?_,?_⟩
 ·rw[Dw hx]
  exact qB (by lia)
 rw[u4]
 have z57:=s5.trans (s6.trans s7)
 have eb:((LL n L:Nat):Int)=c^L:=by
  unfold LL
  rw[hc]
  lia
 have hbot:1<=LL n L/\LL n L<1152921504606846976:=by lia
 show JA 6 (V.int (c^L)) _ _ _
 rw[<-eb]
 generalize LL n L=B at *
 refine⟨_,rfl,_,rfl,_,rfl,n,by rw[hc];rfl,KH n1 n4,λl8 us H8 h8 s8 e8 hP8=>?_⟩
 refine⟨D2,l8,LK L T,us,IF c n,rfl,hD3.mono (z57.trans s8),e8,by rw[<-hc];exact hP8,by rw[show(LK L T).length=T.length from AB _];lia,λt ht=>?_,by rw[<-hc];exact Aj.mp (dC n (KH n1 n4)),λl9 H9 h9 s9 hL9=>?_⟩
 ·obtain⟨z,hz,rfl⟩:=AV.mp ht
  refine⟨?_,nn z hz,JM (bt z hz) (by lia)⟩
  rw[<-hc]
  exact(jW n1 n4 (own z hz) L8 (ge z hz)).1
 have zz:=s1.trans (s2.trans (s3.trans (z57.trans (s8.trans s9))))
 have eU:norm ((LK L T).flatMap (Mu (IF c n)))=MX n L T:=by
  unfold MX
  rw[hc]
 rw[eU]at hL9
 have fU:=bpk.few
 generalize MX n L T=U at *
 obtain⟨ws9,e9,i9⟩:=hL9
 have lv9:=AL i9
 refine⟨l9,rfl,⟨_,HK.of e9⟩,λbk3 D3 hD3'=>?_⟩
 refine LF (α:=oY) hD3' (HK.of e9) (λσ=>∃c d,σ=[c,d,some (.int (B:Int))]) (λi=>(U[i]?).bind λt=>some (t.1,QK t.2 B)) (small (by lia)) ⟨_,_,rfl⟩ ?_ ?_
 ·rintro i v σ H10 Yes No hv ⟨c,d,rfl⟩ s10 yes no
  obtain⟨t,ht,hi⟩:=Im i9 hv
  obtain⟨p,kk,rfl,hp,hkk⟩:=Jf hi
  refine⟨p,_,rfl,HL.of (s10 _ _ hp),rfl,_,_,rfl,_,_,rfl,rfl,?_⟩
  refine Mi ?_
  refine⟨_,rfl,_,rfl,_,rfl,t.2,B,rfl,hbot.1,hbot.2,λp11 H11 h11 s11 e11=>?_⟩
  refine⟨IV,λt12 h12=>?_⟩
  have s12:=HH h12 (.tup [.ref kk,.ref p11])
  exact yes _ _ _ (t.1,QK t.2 B) ⟨_,_,rfl⟩ (s11.trans s12) (by rw[ht];rfl) (oH (t:=(t.1,QK t.2 B)) Gu (s12 _ _ (s11 _ _ (s10 _ _ hkk))) (s12 _ _ e11))
 intro H10 s10 hL10
 rw[lv9,KC,A7]at hL10
 exact q (.ref D3) H10 (zz.trans s10)
end
section
variable{P:Program}{w:World}{K:W.Frag}{mg:Str->Option Value}{base:Heap}{f g:Addr}{fd gd:FuncData}
def Me(cBR cBC:Addr):Sp:=λvs H Q E=>∃(n:Int)(p:Addr)(r:List Int),vs=[.int n,.ref p]/\H p=some (.tup (r.map V.int))/\r.length<=1000/\(Ic r=false->∀H',Gf H H'->E (.ref cBR) none H')/\(Ic r=true->¬ (1<=n/\n<=4)->∀H',Gf H H'->E (.ref cBC) none H') /\
 (Ic r=true->1<=n/\n<=4->∀(v:V)(H':Hp),Gf H H'->Q v H')
abbrev VP:List Str:=["many", "row"]
theorem eI:Gj VP VP (HW Ww):=Hx
theorem cP{cBR cBC:Addr}(F:Hg K "elementary_sum" "elementary_sum" Ww f fd)(GR:Hr P w K mg base 8 "refuse_bad_row" LY (SJ cBR))(GC:Hr P w K mg base 8 "refuse_bad_count" ["many"] (Pi cBC))(GE:Hd P w K mg base 8 "elementary_product" PH (Ol Ih)):Gw P w K mg base (IB P w) 9 f fd VP (Me cBR cBC):=by
 refine LR F eI λHQ A outer s H vs Q E hr h=>?_
 obtain⟨n0,p,r,rfl,hp,hl,e1,e2,q0⟩:=h
 refine⟨_,HP (IZ (Jk GR hr rfl Jp (Ge (pv 1) Gq))) (HP (IZ (Jk GC hr rfl Jp (Ge (pv 0) Gq)))
  (HN (Hs (Hq GE hr rfl (Ge (pv 0) (Ge (pv 1) Gq)))))),?_⟩
 refine⟨_,rfl,p,r,rfl,hp,hl,λhB H1 s1=>?_,e1⟩
 refine⟨_,rfl,n0,rfl,λhm=>?_,λhm=>e2 hB hm _ s1⟩
 obtain⟨n,rfl⟩:∃n:Nat,n0=n:=⟨n0.toNat,by lia⟩
 obtain⟨low,s8⟩:=Ow hB
 obtain⟨e8,l8⟩:=NW r low
 have n1:1<=n:=by lia
 have n4:n<=4:=by lia
 have q:=q0 hB hm
 exact⟨_,rfl,_,rfl,n,p,r,rfl,n1,n4,s1 _ _ hp,hB,λa H2 ha s2 hL=>q (.ref a) H2 (s1.trans s2)⟩
abbrev sD:List Str:=["many", "number", "total", "row"]
theorem Ms:Gj sD ["many", "number"] (HW kJ):=Hx
def Mm(n:Nat)(rs:List (List Int)):List Gb:=rs.foldl (λacc r=>norm (acc++JL n r)) []
def Mv(n k:Nat):List Gb:=Mm n (up 9 (k:Int) (k:Int) (n:Int))
theorem Tz(n:Nat)(rs:List (List Int))(r:List Int):Mm n (rs++[r])=norm (Mm n rs++JL n r):=by
 unfold Mm
 rw[CB]
 rfl
theorem Sz{n:Nat}{r:List Int}(h:r.length<=n):∀t∈JL n r,t.1.length=n:=λt ht=>by
 unfold JL at ht
 obtain⟨q,hq,rfl⟩:=AV.mp ht
 rw[hG _ _ q hq,AI,BA]
 lia
theorem Uk{n:Nat}{r:List Int}(n1:1<=n)(n4:n<=4)(h:r.length<=n):(JL n r).length<=24:=by
 unfold JL
 rw[AB]
 have ol:=Us 5 (r++List.replicate (n-r.length) 0)
 rw[AI,BA,show r.length+(n-r.length)=n by lia]at ol
 have b4:Li n<=24:=by
  have:n=1∨n=2∨n=3∨n=4:=by lia
  rcases this with e|e|e|e<;>rw[e]<;>decide
 lia
theorem W2{n:Nat}(n1:1<=n)(n4:n<=4):∀rs:List (List Int),(∀r∈rs,r.length<=n)->(∀t∈Mm n rs,t.1.length=n)/\(Mm n rs).length<=24*rs.length:=by
 refine J4 (λ_=>⟨λt ht=>by simp [Mm]at ht,AG _⟩) λrs r ih h=>?_
 obtain⟨a,b⟩:=ih λx hx=>h x (A6 _ hx)
 have hr:=h r (Ap _ (AS.mpr rfl))
 rw[Tz]
 refine⟨λt ht=>?_,?_⟩
 ·obtain⟨u,hu,e⟩:=J1 ht
  rw[<-e]
  exact(Aq.mp hu).elim (a u) (Sz hr u)
 ·have l1:=NF (Mm n rs++JL n r)
  have l2:=Uk n1 n4 hr
  rw[AI]at l1
  rw[AI,BB]
  lia
theorem kM:∀n∈List.range 5,∀k∈List.range 9,(up 9 (k:Int) (k:Int) (n:Int)).all (λr=>Ic r&&decide (r.length<=n))=true:=by decide +kernel
theorem bN(F:Hg K "whole" "whole" kJ f fd)(GR:Hd P w K mg base 10 "rows" ["weight", "most"] Tw)(GE:Hd P w K mg base 10 "exchange_sum" OF Mo)(GP:Hd P w K mg base 10 "plus" LV (TL λts us=>ts++us)):Gw P w K mg base Hk 11 f fd PK (L5 Mv):=by
 refine IJ F Ms λHQ A outer s H vs Q E hr h=>?_
 obtain⟨n,k,rfl,n1,n4,k8,q⟩:=h
 refine⟨_,HP (Hi (i:=2) Ms.nd rfl (Or.inl rfl) (Hy Gq))
  (HP (IX Ar rfl (Ig (Hq GR hr rfl (Ge (pv 1) (Ge (pv 0) Gq)))) (Hb (i:=3) Ms.nd rfl (Or.inl rfl))
   (HN (Hi (i:=2) Ms.nd rfl (Or.inl rfl) (Hq GP hr rfl (Ge (pv 2) (Ge (Hq GE hr rfl (Ge (pv 0) (Ge (pv 3) Gq))) Gq))))))
  (HN (Hs (pv 2)))),?_⟩
 refine⟨Ik,λl0 h0=>?_⟩
 have s0:=HH h0 (.lst [])
 refine⟨_,rfl,_,rfl,(k:Int),(n:Int),rfl,by lia,by lia,λa H1 ha s1 hL=>?_⟩
 have ur:∀r∈up 9 (k:Int) (k:Int) (n:Int),Ic r=true/\r.length<=n:=λr hr=>by
  have:=Aj.mp (kM n (At.mpr (by lia)) k (At.mpr (by lia))) r hr
  rw[AM,AZ]at this
  exact this
 have ul:(up 9 (k:Int) (k:Int) (n:Int)).length<=256:=UW (by lia) (by lia)
 unfold Mv at q
 generalize up 9 (k:Int) (k:Int) (n:Int)=rs at q ur ul hL
 obtain⟨vs,eL,iL⟩:=hL
 have lv:=AL iL
 refine⟨a,rfl,⟨_,HK.of eL⟩,?_⟩
 refine Jd (xs:=vs) (λi σ H'=>(∃(l:Addr)(c3:Option V),σ=[some (.int n),some (.int k),some (.ref l),c3]/\Gh H' l (Mm n (rs.take i))/\H l=none)/\Gf H1 H') ?_ ?_ ?_ ?_
 ·exact⟨⟨l0,_,rfl,⟨[],s1 _ _ Gu,.nil⟩,h0⟩,λ_ _ e=>e⟩
 ·rintro i σ H2 _ ⟨_,s2⟩
  exact HK.of (s2 _ _ eL)
 ·rintro i v σ H2 hv ⟨⟨l,c3,rfl,hl,fl⟩,s2⟩
  obtain⟨r,hr',hi⟩:=Im iL hv
  obtain⟨pr,rfl,hpr⟩:=JE hi
  obtain⟨rB,rl⟩:=ur r (Ad hr')
  refine⟨_,rfl,_,rfl,_,rfl,n,pr,r,rfl,n1,n4,s2 _ _ hpr,rl,rB,λa3 H3 h3 s3 hL3=>?_⟩
  obtain⟨w1,w2⟩:=W2 n1 n4 (rs.take i) λx hx=>(ur x (B5 hx)).2
  rw[Ah]at w2
  have e1:=Sz rl
  have e2:=Uk n1 n4 rl
  have ne:∀{t:Gb},t.1.length=n->t.1≠[]:=λ{t} h e=>by
   rw[e]at h
   simp at h
   lia
  refine⟨l,a3,_,_,rfl,hl.mono s3,hL3,λt ht=>ne (w1 t ht),λt ht=>ne (e1 t ht),by lia,λl4 H4 h4 s4 hL4=>?_⟩
  refine⟨⟨l4,_,rfl,?_,(s0.trans (s1.trans (s2.trans s3))).free h4⟩,s2.trans (s3.trans s4)⟩
  rw[JF hr',Tz]
  exact hL4
 ·rintro σ H2 ⟨⟨l,c3,rfl,hl,fl⟩,s2⟩
  rw[lv,Bh]at hl
  exact⟨_,rfl,q l H2 fl (s0.trans (s1.trans s2)) hl⟩
abbrev UU:List Str:=["many", "row"]
abbrev qI:List Str:=["number", "many"]
theorem oB:qI.Nodup:=by decide +kernel
theorem gQ:Gj UU UU (HW Vv):=Hx
theorem WP{cBR cBC:Addr}(F:Hg K "whole_sum" "whole_sum" Vv f fd)(GR:Hr P w K mg base 11 "refuse_bad_row" LY (SJ cBR))(GC:Hr P w K mg base 11 "refuse_bad_count" ["many"] (Pi cBC))(GE:Hd P w K mg base 11 "whole" PK (L5 Mv))(GP:Hd P w K mg base 11 "product" ["many", "factors"] MT)(hF:∀n k:Nat,1<=n->n<=4->1<=k->k<=8->Mj n k (Mv n k)):Gw P w K mg base (IB P w) 12 f fd UU (Me cBR cBC):=by
 refine LR F gQ λHQ A outer s H vs Q E hr h=>?_
 obtain⟨n0,p,r,rfl,hp,hl,e1,e2,q0⟩:=h
 refine⟨_,HP (IZ (Jk GR hr rfl Jp (Ge (pv 1) Gq))) (HP (IZ (Jk GC hr rfl Jp (Ge (pv 0) Gq)))
  (HN (Hs (Hq GP hr rfl (Ge (pv 0) (Ge (JO (N':=qI) (src:=[none,some 0]) rfl (O3 (pv 1)) (I0 (HW Vv) UU (by decide +kernel))
   (λb=>Hb (i:=0) oB rfl (Or.inl rfl)) (λb=>Jh) (λb=>Hq GE hr rfl (Ge (pv 1) (Ge (pv 0) Gq)))) Gq)))))),?_⟩
 refine⟨_,rfl,p,r,rfl,hp,hl,λhB H1 s1=>?_,e1⟩
 refine⟨_,rfl,n0,rfl,λhm=>?_,λhm=>e2 hB hm _ s1⟩
 obtain⟨n,rfl⟩:∃n:Nat,n0=n:=⟨n0.toNat,by lia⟩
 obtain⟨low,s8⟩:=Ow hB
 obtain⟨e8,l8⟩:=NW r low
 have n1:1<=n:=by lia
 have n4:n<=4:=by lia
 have q:=q0 hB hm
 have hp1:=s1 _ _ hp
 refine⟨_,rfl,_,rfl,p,rfl,⟨_,HL.of hp1⟩,λbk D hD=>?_⟩
 refine dA (xs:=r.map V.int) (λi ys σ H'=>(∃c,σ=[c,some (.int n)])/\(∀b o,H1 b=some o->H' b=some o)/\∃as:List Addr,ys=as.map V.ref/\Paired (λx k=>Gh H' x (Mv n k)/\x≠D) as ((r.map Int.toNat).take i)) (small (by rw[AB];lia)) ?_ ?_ ?_ ?_
 ·exact⟨⟨_,rfl⟩,HH hD _,[],rfl,.nil⟩
 ·rintro i ys σ H' ⟨_,sm,_⟩
  exact HL.of (sm _ _ hp1)
 ·rintro i v ys σ H2 Yes No hv eD ⟨⟨c,rfl⟩,sm,as,rfl,hP⟩ yes
  obtain⟨x,hx,rfl⟩:∃x,r[i]?=some x/\V.int x=v:=by
   rw[Ag]at hv
   cases e:r[i]? with
   |none=>rw[e]at hv;cases hv
   |some y=>rw[e]at hv;exact⟨y,rfl,Al hv⟩
  have xm:=Ad hx
  have x1:=low x xm
  have x8:=WE low x xm
  refine L6 ?_
  refine⟨_,rfl,_,rfl,n,x.toNat,by rw[DI (by lia)];rfl,n1,n4,by lia,λa3 H3 h3 s3 hL=>?_⟩
  have eD3:=s3 _ _ eD
  have na:a3≠D:=λz=>by
   rw[z,eD]at h3
   cases h3
  have tD:∀o,∀{y:Addr}{f:List Gb},y≠D->Gh H3 y f->Gh (Gi H3 D o) y f:=λo {y f} hy ⟨ws,ew,iw⟩=>⟨ws,by rw[Ha hy];exact ew,Hc.mono (λq ys' e'=>by rw[Ha (KL e' eD3 (by intro z;cases z))];exact e') iw⟩
  refine yes _ _ _ eD3 ⟨⟨_,rfl⟩,λb o e=>?_,as++[a3],by rw[Au];rfl,?_⟩
  ·rw[Ha (Iv e hD)]
   exact s3 _ _ (sm b o e)
  ·have ht':((r.map Int.toNat))[i]?=some x.toNat:=by rw[Ag,hx];rfl
   rw[JF ht']
   exact Cc (Paired.mapP hP λy k hk=>⟨tD _ hk.2 (hk.1.mono s3),hk.2⟩) ⟨tD _ na hL,na⟩
 ·rintro ys σ H2 eD ⟨_,sm,as,rfl,hP⟩
  rw[AB,<-AB (f:=Int.toNat),Bh]at hP
  refine⟨Mv n,n,D,as,r.map Int.toNat,rfl,n1,n4,λk k1 k8=>hF n k n1 n4 k1 k8,eD,(Paired.mapP hP λy k hk=>hk.1),by lia,by rw[AB];lia,λk hk=>?_,λl H3 hl s3 hL=>?_⟩
  ·obtain⟨x,hx,rfl⟩:=AV.mp hk
   have:=low x hx
   lia
  ·have sA:Gf H1 H2:=sm
   exact q (.ref l) H3 (s1.trans (sA.trans s3))
theorem kY:∀n∈[1,2,3,4],∀k∈[1,2,3,4,5,6,7,8],Ks n k (Mv n k)=true:=by decide +kernel
theorem Tc{n:Nat}(n1:1<=n)(n4:n<=4):n∈[1,2,3,4]:=by
 have:n=1∨n=2∨n=3∨n=4:=by lia
 rcases this with rfl|rfl|rfl|rfl<;>simp
theorem Tu{k:Nat}(k1:1<=k)(k8:k<=8):k∈[1,2,3,4,5,6,7,8]:=by
 have:k=1∨k=2∨k=3∨k=4∨k=5∨k=6∨k=7∨k=8:=by lia
 rcases this with rfl|rfl|rfl|rfl|rfl|rfl|rfl|rfl<;>simp
theorem Zw(n k:Nat)(n1:1<=n)(n4:n<=4)(k1:1<=k)(k8:k<=8):Mj n k (Mv n k):=Vh (kY n (Tc n1 n4) k (Tu k1 k8))
theorem W7:∀n∈[1,2,3,4],∀k∈[1,2,3,4,5,6,7,8],Ks n k (JL n [((k:Nat):Int)])=true:=by decide +kernel
theorem XT(n k:Nat)(n1:1<=n)(n4:n<=4)(k1:1<=k)(k8:k<=8):Mj n k (JL n [((k:Nat):Int)]):=Vh (W7 n (Tc n1 n4) k (Tu k1 k8))
end
section
variable{P:Program}{w:World}{K:W.Frag}{mg:Str->Option Value}{base:Heap}{f g:Addr}{fd gd:FuncData}
abbrev TK:List Str:=["many", "row"]
abbrev pT:List Str:=["number", "many"]
theorem mR:pT.Nodup:=by decide +kernel
theorem mK:Gj TK TK (HW VH):=Hx
theorem Wh{cBR cBC:Addr}(F:Hg K "power_sum" "power_sum" VH f fd)(GR:Hr P w K mg base 6 "refuse_bad_row" LY (SJ cBR))(GC:Hr P w K mg base 6 "refuse_bad_count" ["many"] (Pi cBC))(GE:Hd P w K mg base 6 "exchange_sum" OF Mo)(GP:Hd P w K mg base 6 "product" ["many", "factors"] MT):Gw P w K mg base (IB P w) 7 f fd TK (Me cBR cBC):=by
 refine LR F mK λHQ A outer s H vs Q E hr h=>?_
 obtain⟨n0,p,r,rfl,hp,hl,e1,e2,q0⟩:=h
 refine⟨_,HP (IZ (Jk GR hr rfl Jp (Ge (pv 1) Gq))) (HP (IZ (Jk GC hr rfl Jp (Ge (pv 0) Gq)))
  (HN (Hs (Hq GP hr rfl (Ge (pv 0) (Ge (JO (N':=pT) (src:=[none,some 0]) rfl (O3 (pv 1)) (I0 (HW VH) TK (by decide +kernel))
   (λb=>Hb (i:=0) mR rfl (Or.inl rfl)) (λb=>Jh) (λb=>Hq GE hr rfl (Ge (pv 1) (Ge (Hz (Ge (pv 0) Gq)) Gq)))) Gq)))))),?_⟩
 refine⟨_,rfl,p,r,rfl,hp,hl,λhB H1 s1=>?_,e1⟩
 refine⟨_,rfl,n0,rfl,λhm=>?_,λhm=>e2 hB hm _ s1⟩
 obtain⟨n,rfl⟩:∃n:Nat,n0=n:=⟨n0.toNat,by lia⟩
 obtain⟨low,s8⟩:=Ow hB
 obtain⟨e8,l8⟩:=NW r low
 have n1:1<=n:=by lia
 have n4:n<=4:=by lia
 have q:=q0 hB hm
 have hp1:=s1 _ _ hp
 refine⟨_,rfl,_,rfl,p,rfl,⟨_,HL.of hp1⟩,λbk D hD=>?_⟩
 refine dA (xs:=r.map V.int) (λi ys σ H'=>(∃c,σ=[c,some (.int n)])/\(∀b o,H1 b=some o->H' b=some o)/\∃as:List Addr,ys=as.map V.ref/\Paired (λx k=>Gh H' x (JL n [((k:Nat):Int)])/\x≠D) as ((r.map Int.toNat).take i)) (small (by rw[AB];lia)) ?_ ?_ ?_ ?_
 ·exact⟨⟨_,rfl⟩,HH hD _,[],rfl,.nil⟩
 ·rintro i ys σ H' ⟨_,sm,_⟩
  exact HL.of (sm _ _ hp1)
 ·rintro i v ys σ H2 Yes No hv eD ⟨⟨c,rfl⟩,sm,as,rfl,hP⟩ yes
  obtain⟨x,hx,rfl⟩:∃x,r[i]?=some x/\V.int x=v:=by
   rw[Ag]at hv
   cases e:r[i]? with
   |none=>rw[e]at hv;cases hv
   |some y=>rw[e]at hv;exact⟨y,rfl,Al hv⟩
  have xm:=Ad hx
  have x1:=low x xm
  have x8:=WE low x xm
  refine L6 ?_
  refine⟨_,rfl,_,rfl,IH,λt ht=>?_⟩
  have s2:=HH ht (.tup [.int x])
  refine⟨n,t,[x],rfl,n1,n4,Gu,n1,XJ x1 (by lia),λa3 H3 h3 s3 hL=>?_⟩
  have s23:=s2.trans s3
  have eD3:=s23 _ _ eD
  have na:a3≠D:=λz=>by
   rw[z]at h3
   rw[s2 _ _ eD]at h3
   cases h3
  have tD:∀o,∀{y:Addr}{f:List Gb},y≠D->Gh H3 y f->Gh (Gi H3 D o) y f:=λo {y f} hy ⟨ws,ew,iw⟩=>⟨ws,by rw[Ha hy];exact ew,Hc.mono (λq ys' e'=>by rw[Ha (KL e' eD3 (by intro z;cases z))];exact e') iw⟩
  refine yes _ _ _ eD3 ⟨⟨_,rfl⟩,λb o e=>?_,as++[a3],by rw[Au];rfl,?_⟩
  ·rw[Ha (Iv e hD)]
   exact s23 _ _ (sm b o e)
  ·have ht':((r.map Int.toNat))[i]?=some x.toNat:=by rw[Ag,hx];rfl
   rw[JF ht']
   refine Cc (Paired.mapP hP λy k hk=>⟨tD _ hk.2 (hk.1.mono s23),hk.2⟩) ⟨tD _ na ?_,na⟩
   rw[DI (by lia)]
   exact hL
 ·rintro ys σ H2 eD ⟨_,sm,as,rfl,hP⟩
  rw[AB,<-AB (f:=Int.toNat),Bh]at hP
  refine⟨λk=>JL n [((k:Nat):Int)],n,D,as,r.map Int.toNat,rfl,n1,n4,λk k1 k8=>XT n k n1 n4 k1 k8,eD,(Paired.mapP hP λy k hk=>hk.1),by lia,by rw[AB];lia,λk hk=>?_,λl H3 hl s3 hL=>?_⟩
  ·obtain⟨x,hx,rfl⟩:=AV.mp hk
   have:=low x hx
   lia
  ·have sA:Gf H1 H2:=sm
   exact q (.ref l) H3 (s1.trans (sA.trans s3))
end
section
variable{P:Program}{w:World}{K:W.Frag}{mg:Str->Option Value}{base:Heap}{f g:Addr}{fd gd:FuncData}
theorem Ua{X:Cx}{x:Str}{j}{pos:Pos}{es:List Expr}{t:TA}(hr:PA X es t):PA X (.Constant (.str x) j pos::es) (MW (tC (.str x)) t):=Ge Km hr rfl
theorem SH{X:Cx}:∀xs:List (Str×Nat×Pos),PA X (xs.map λq=>Expr.Constant (.str q.1) q.2.1 q.2.2) (λσ H Q=>Q (xs.map λq=>V.str q.1) H)
 |[]=>Gq
 |q::r=>λpos Fo s σ H Q I h=>(Ge (X:=X) (e:=Expr.Constant (.str q.1) q.2.1 q.2.2) Km (SH r) rfl) pos Fo s σ H Q I h
def Rn(xs:List Str):TE:=λ_ H Q=>xs.length<=sizeLine/\∀p,H p=none->Q (.ref p) (Gi H p (.lst (xs.map V.str)))
theorem bM{X:Cx}{pl:Pos}(xs:List (Str×Nat×Pos)):PE X (.List (xs.map λq=>Expr.Constant (.str q.1) q.2.1 q.2.2) pl) (Rn (xs.map λq=>q.1)):=λFo s σ H Q I h=>(Hy (pos:=pl) (SH xs)) Fo s σ H Q I ⟨by rw[AB];have:=h.1;rwa [AB]at this,λp hp=>by have:=h.2 p hp;rwa [C1]at this⟩
@[irreducible] def Kf (p:Prop):Prop:=p
theorem eV{X:Cx}{i:Nat}{x:Str}{pos' pl pos:Pos}(xs:List (Str×Nat×Pos))(hN:X.N.Nodup)(hi:X.N[i]?=some x)(hx:Loc X.env.scope x)(hf:X.fn x=true∨X.env.scope.names.lookup x=some .local) :
  Kf (PS X (.Assign [.Name x pos'] (.List (xs.map λq=>Expr.Constant (.str q.1) q.2.1 q.2.2) pl) pos) (O7 (Rn (xs.map λq=>q.1)) (JA i))):=by
 unfold Kf
 exact Hi hN hi hx (bM xs) rfl hf
theorem QT{X:Cx}{st:Stmt}{HU:List Stmt}{t u:TS}(h1:Kf (PS X st t))(h2:Ii X HU u):Kf (Ii X (st::HU) (MR t u)):=by
 unfold Kf at h1 ⊢
 exact HP h1 h2
theorem QM{X:Cx}{st:Stmt}{HU:List Stmt}{t u:TS}(h1:PS X st t)(h2:Kf (Ii X HU u)):Ii X (st::HU) (MR t u):=by
 unfold Kf at h2
 exact HP h1 h2
def Nq(K:W.Frag)(C:Addr)(ds:List Addr)(bs:List Bool):Prop:=ds.length=bs.length/\∀(i:Nat)(d:Addr)(b:Bool),ds[i]?=some d->bs[i]?=some b->W.kitOne K (.ref C) (.ref d)=some b
abbrev nF:List Str:=["_law_caught", "_law_some", "_law_names", "_law_found"]
abbrev bF:List Str:=["_law_name", "_law_truth"]
theorem pN:bF.Nodup:=by decide +kernel
theorem MN:Gj nF ["_law_caught"] (HW P0):=Hx
def Lk:List Str:=["count", "powers", "great", "row", "weights", "long", "uneven", "kind", "by", "text", "line", "badname", "name"]
def MD(bs:List Bool):List Str:=(List.range 13).filterMap λi=>if bs.getD i false=true then some (Lk.getD i "") else none
theorem aR{bs:List Bool}{i:Nat}{v:V}(h:(bs.map V.bl)[i]?=some v):v=.bl (bs.getD i false):=by
 rw[Ag]at h
 rw[Av]
 cases e:bs[i]? with
 |none=>rw[e]at h;cases h
 |some c=>rw[e]at h;exact(Al h).symm
theorem gX{xs:List Str}{i:Nat}{v:V}(h:(xs.map V.str)[i]?=some v):v=.str (xs.getD i ""):=by
 rw[Ag]at h
 rw[Av]
 cases e:xs[i]? with
 |none=>rw[e]at h;cases h
 |some c=>rw[e]at h;exact(Al h).symm
def Sd(K:W.Frag)(ds:List Addr):Sp:=λvs H Q _=>∃(od:Option Addr)(c C:Addr)(bs:List Bool),vs=[.ref c]/\H c=some (xE c (.ref C) od)/\JS K C/\W.kitOne K (.ref C) (.type "ValueError")=some true/\Nq K C ds bs/\∀(l:Addr)(H':Hp),H l=none->Gf H H'->Gh H' l (MD bs)->Q (.ref l) H'
theorem Xi{d0 d1 d2 d3 d4 d5 d6 d7 d8 d9 d10 d11 d12:Addr}(F:Hg K "_law_called" "_law_called" P0 f fd)(mi:mg "isinstance" = none)(mz:mg "zip" = none)(mv:mg "ValueError" = none)(m0:mg "BadCount" = some (.ref d0))(m1:mg "BadPowers" = some (.ref d1))(m2:mg "TooGreat" = some (.ref d2))(m3:mg "BadRow" = some (.ref d3))(m4:mg "UnlikeWeights" = some (.ref d4))(m5:mg "TooLong" = some (.ref d5))(m6:mg "Uneven" = some (.ref d6))(m7:mg "NoKind" = some (.ref d7))(m8:mg "NotBy" = some (.ref d8))(m9:mg "NoText" = some (.ref d9))(m10:mg "NoLine" = some (.ref d10))(m11:mg "BadName" = some (.ref d11))(m12:mg "NoName" = some (.ref d12)):Gw P w K mg base Hk 2 f fd ["_law_caught"] (Sd K [d0,d1,d2,d3,d4,d5,d6,d7,d8,d9,d10,d11,d12]):=by
 refine IJ F MN λHQ A outer s H vs Q E hr h=>?_
 obtain⟨od,c,C,bs,rfl,hc,hk,hv,⟨hl,hs⟩,q⟩:=h
 match bs,hl,hs,q with
 |[b0,b1,b2,b3,b4,b5,b6,b7,b8,b9,b10,b11,b12],_,hs,q =>
 have k0:=hs 0 _ _ rfl rfl
 have k1:=hs 1 _ _ rfl rfl
 have k2:=hs 2 _ _ rfl rfl
 have k3:=hs 3 _ _ rfl rfl
 have k4:=hs 4 _ _ rfl rfl
 have k5:=hs 5 _ _ rfl rfl
 have k6:=hs 6 _ _ rfl rfl
 have k7:=hs 7 _ _ rfl rfl
 have k8:=hs 8 _ _ rfl rfl
 have k9:=hs 9 _ _ rfl rfl
 have k10:=hs 10 _ _ rfl rfl
 have k11:=hs 11 _ _ rfl rfl
 have k12:=hs 12 _ _ rfl rfl
 refine⟨_,HP (Ia (ID RH (pv 0) Nj (IA _)) (HN (Hs (Hy Gq))) Ip)
  (HP (Hi (i:=1) MN.nd rfl (Or.inl rfl) (Hy (Ge (IT KB rfl mi Ax (Ge (pv 0) (Ge (J0 (v:=.ref d0) rfl m0 rfl) Gq))) (Ge (IT KB rfl mi Ax (Ge (pv 0) (Ge (J0 (v:=.ref d1) rfl m1 rfl) Gq))) (Ge (IT KB rfl mi Ax (Ge (pv 0) (Ge (J0 (v:=.ref d2) rfl m2 rfl) Gq))) Gq)))))
  (HP (Hi (i:=1) MN.nd rfl (Or.inl rfl) (HV Lm (pv 1) (Hy (Ge (IT KB rfl mi Ax (Ge (pv 0) (Ge (J0 (v:=.ref d3) rfl m3 rfl) Gq))) (Ge (IT KB rfl mi Ax (Ge (pv 0) (Ge (J0 (v:=.ref d4) rfl m4 rfl) Gq))) (Ge (IT KB rfl mi Ax (Ge (pv 0) (Ge (J0 (v:=.ref d5) rfl m5 rfl) Gq))) Gq))))))
  (HP (Hi (i:=1) MN.nd rfl (Or.inl rfl) (HV Lm (pv 1) (Hy (Ge (IT KB rfl mi Ax (Ge (pv 0) (Ge (J0 (v:=.ref d6) rfl m6 rfl) Gq))) (Ge (IT KB rfl mi Ax (Ge (pv 0) (Ge (J0 (v:=.ref d7) rfl m7 rfl) Gq))) (Ge (IT KB rfl mi Ax (Ge (pv 0) (Ge (J0 (v:=.ref d8) rfl m8 rfl) Gq))) Gq))))))
  (HP (Hi (i:=1) MN.nd rfl (Or.inl rfl) (HV Lm (pv 1) (Hy (Ge (IT KB rfl mi Ax (Ge (pv 0) (Ge (J0 (v:=.ref d9) rfl m9 rfl) Gq))) (Ge (IT KB rfl mi Ax (Ge (pv 0) (Ge (J0 (v:=.ref d10) rfl m10 rfl) Gq))) (Ge (IT KB rfl mi Ax (Ge (pv 0) (Ge (J0 (v:=.ref d11) rfl m11 rfl) Gq))) Gq))))))
  (QM (IZ (Lc BQ BV BW Lu (pv 1) (Ge (IT KB rfl mi Ax (Ge (pv 0) (Ge (J0 (v:=.ref d12) rfl m12 rfl) Gq))) Gq)))
  (QT (eV (i:=2) [(_,_,_),(_,_,_),(_,_,_),(_,_,_),(_,_,_),(_,_,_),(_,_,_),(_,_,_),(_,_,_),(_,_,_),(_,_,_)] MN.nd rfl (Or.inl rfl) (Or.inr rfl))
  (HP (Hi (i:=2) MN.nd rfl (Or.inl rfl) (HV Lm (pv 2) (Hy (Ua (Ua Gq)))))
  (HP (QW (i:=3) (N':=bF) (src:=[none,none]) MN.nd rfl (Or.inl rfl) rfl rfl (OE .lst .lst rfl mz (Ge (pv 2) (Ge (pv 1) Gq))) (I0 (HW P0) nF (by decide +kernel))
   (λb=>JX rfl (IE (Hb (i:=0) pN rfl (Or.inl rfl)) (IE (Hb (i:=1) pN rfl (Or.inl rfl)) JZ))) (λb=>Pq (WC (pv 1))) (λb=>pv 0))
  (HP (Ia (WC (IT KB rfl mi Ax (Ge (pv 0) (Ge (fE (v:=.ty "ValueError") rfl mv PyProof.Rows.Boot.«ValueError» rfl) Gq)))) (HN (Hs (pv 3))) Ip)
  (HN P2)))))))))),?_⟩
 refine⟨_,rfl,rfl,_,rfl,Ij (by intro z;cases z) ?_⟩
 refine⟨_,rfl,od,c,C,_,_,_,rfl,hc,hk,rfl,λ_ z=>z,k0,_,rfl,od,c,C,_,_,_,rfl,hc,hk,rfl,λ_ z=>z,k1,_,rfl,od,c,C,_,_,_,rfl,hc,hk,rfl,λ_ z=>z,k2,V2,λp0 h0=>?_⟩
 have s0:=HH h0 (.lst [.bl b0,.bl b1,.bl b2])
 have hc0:=s0 _ _ hc
 have e0:Gi H p0 (.lst [.bl b0,.bl b1,.bl b2]) p0=some (.lst [.bl b0,.bl b1,.bl b2]):=Gu
 have z0:Gf H (Gi H p0 (.lst [.bl b0,.bl b1,.bl b2])):=s0
 generalize Gi H p0 (.lst [.bl b0,.bl b1,.bl b2])=G0 at *
 refine⟨_,rfl,_,rfl,od,c,C,_,_,_,rfl,hc0,hk,rfl,λ_ z=>z,k3,_,rfl,od,c,C,_,_,_,rfl,hc0,hk,rfl,λ_ z=>z,k4,_,rfl,od,c,C,_,_,_,rfl,hc0,hk,rfl,λ_ z=>z,k5,V2,λr1 hr1=>?_⟩
 have u1:=HH hr1 (.lst [.bl b3,.bl b4,.bl b5])
 refine⟨p0,r1,_,_,rfl,rfl,u1 _ _ e0,Gu,small (by show 6<=100000;decide),λp1 hp1=>?_⟩
 have v1:=u1.trans (HH hp1 (.lst [.bl b0,.bl b1,.bl b2,.bl b3,.bl b4,.bl b5]))
 have hc1:=v1 _ _ hc0
 have z1:Gf H (Gi (Gi G0 r1 (.lst [.bl b3,.bl b4,.bl b5])) p1 (.lst [.bl b0,.bl b1,.bl b2,.bl b3,.bl b4,.bl b5])):=z0.trans v1
 have e1:Gi (Gi G0 r1 (.lst [.bl b3,.bl b4,.bl b5])) p1 (.lst [.bl b0,.bl b1,.bl b2,.bl b3,.bl b4,.bl b5]) p1=some (.lst [.bl b0,.bl b1,.bl b2,.bl b3,.bl b4,.bl b5]):=Gu
 generalize hG1:Gi (Gi G0 r1 (.lst [.bl b3,.bl b4,.bl b5])) p1 (.lst [.bl b0,.bl b1,.bl b2,.bl b3,.bl b4,.bl b5])=G1 at *
 show JA 1 (.ref p1) _ (Gi (Gi G0 r1 (.lst [.bl b3,.bl b4,.bl b5])) p1 (.lst [.bl b0,.bl b1,.bl b2,.bl b3,.bl b4,.bl b5])) _
 rw[hG1]
 refine⟨_,rfl,_,rfl,od,c,C,_,_,_,rfl,hc1,hk,rfl,λ_ z=>z,k6,_,rfl,od,c,C,_,_,_,rfl,hc1,hk,rfl,λ_ z=>z,k7,_,rfl,od,c,C,_,_,_,rfl,hc1,hk,rfl,λ_ z=>z,k8,V2,λr2 hr2=>?_⟩
 have u2:=HH hr2 (.lst [.bl b6,.bl b7,.bl b8])
 refine⟨p1,r2,_,_,rfl,rfl,u2 _ _ e1,Gu,small (by show 9<=100000;decide),λp2 hp2=>?_⟩
 have v2:=u2.trans (HH hp2 (.lst [.bl b0,.bl b1,.bl b2,.bl b3,.bl b4,.bl b5,.bl b6,.bl b7,.bl b8]))
 have hc2:=v2 _ _ hc1
 have z2:Gf H (Gi (Gi G1 r2 (.lst [.bl b6,.bl b7,.bl b8])) p2 (.lst [.bl b0,.bl b1,.bl b2,.bl b3,.bl b4,.bl b5,.bl b6,.bl b7,.bl b8])):=z1.trans v2
 have e2:Gi (Gi G1 r2 (.lst [.bl b6,.bl b7,.bl b8])) p2 (.lst [.bl b0,.bl b1,.bl b2,.bl b3,.bl b4,.bl b5,.bl b6,.bl b7,.bl b8]) p2=some (.lst [.bl b0,.bl b1,.bl b2,.bl b3,.bl b4,.bl b5,.bl b6,.bl b7,.bl b8]):=Gu
 generalize hG2:Gi (Gi G1 r2 (.lst [.bl b6,.bl b7,.bl b8])) p2 (.lst [.bl b0,.bl b1,.bl b2,.bl b3,.bl b4,.bl b5,.bl b6,.bl b7,.bl b8])=G2 at *
 show JA 1 (.ref p2) _ (Gi (Gi G1 r2 (.lst [.bl b6,.bl b7,.bl b8])) p2 (.lst [.bl b0,.bl b1,.bl b2,.bl b3,.bl b4,.bl b5,.bl b6,.bl b7,.bl b8])) _
 rw[hG2]
 refine⟨_,rfl,_,rfl,od,c,C,_,_,_,rfl,hc2,hk,rfl,λ_ z=>z,k9,_,rfl,od,c,C,_,_,_,rfl,hc2,hk,rfl,λ_ z=>z,k10,_,rfl,od,c,C,_,_,_,rfl,hc2,hk,rfl,λ_ z=>z,k11,V2,λr3 hr3=>?_⟩
 have u3:=HH hr3 (.lst [.bl b9,.bl b10,.bl b11])
 refine⟨p2,r3,_,_,rfl,rfl,u3 _ _ e2,Gu,small (by show 12<=100000;decide),λp3 hp3=>?_⟩
 have v3:=u3.trans (HH hp3 (.lst [.bl b0,.bl b1,.bl b2,.bl b3,.bl b4,.bl b5,.bl b6,.bl b7,.bl b8,.bl b9,.bl b10,.bl b11]))
 have fp3:H p3=none:=z2.free (u3.free hp3)
 have hc3:=v3 _ _ hc2
 have z3:Gf H (Gi (Gi G2 r3 (.lst [.bl b9,.bl b10,.bl b11])) p3 (.lst [.bl b0,.bl b1,.bl b2,.bl b3,.bl b4,.bl b5,.bl b6,.bl b7,.bl b8,.bl b9,.bl b10,.bl b11])):=z2.trans v3
 have e3:Gi (Gi G2 r3 (.lst [.bl b9,.bl b10,.bl b11])) p3 (.lst [.bl b0,.bl b1,.bl b2,.bl b3,.bl b4,.bl b5,.bl b6,.bl b7,.bl b8,.bl b9,.bl b10,.bl b11]) p3=some (.lst [.bl b0,.bl b1,.bl b2,.bl b3,.bl b4,.bl b5,.bl b6,.bl b7,.bl b8,.bl b9,.bl b10,.bl b11]):=Gu
 generalize hG3:Gi (Gi G2 r3 (.lst [.bl b9,.bl b10,.bl b11])) p3 (.lst [.bl b0,.bl b1,.bl b2,.bl b3,.bl b4,.bl b5,.bl b6,.bl b7,.bl b8,.bl b9,.bl b10,.bl b11])=G3 at *
 show JA 1 (.ref p3) _ (Gi (Gi G2 r3 (.lst [.bl b9,.bl b10,.bl b11])) p3 (.lst [.bl b0,.bl b1,.bl b2,.bl b3,.bl b4,.bl b5,.bl b6,.bl b7,.bl b8,.bl b9,.bl b10,.bl b11])) _
 rw[hG3]
 refine⟨_,rfl,.inl ⟨rfl,_,HK.of e3⟩,_,rfl,od,c,C,_,_,_,rfl,hc3,hk,rfl,λ_ z=>z,k12,p3,_,_,rfl,rfl,e3,Kl (by show 12<=100000;decide),?_⟩
 have z4:Gf H (Gi G3 p3 (.lst ([.bl b0,.bl b1,.bl b2,.bl b3,.bl b4,.bl b5,.bl b6,.bl b7,.bl b8,.bl b9,.bl b10,.bl b11]++[.bl b12]))):=Kc fp3 z3 _
 have e4:Gi G3 p3 (.lst ([.bl b0,.bl b1,.bl b2,.bl b3,.bl b4,.bl b5,.bl b6,.bl b7,.bl b8,.bl b9,.bl b10,.bl b11]++[.bl b12])) p3=some (.lst ([.bl b0,.bl b1,.bl b2,.bl b3,.bl b4,.bl b5,.bl b6,.bl b7,.bl b8,.bl b9,.bl b10,.bl b11]++[.bl b12])):=Gu
 have hc4:=z4 _ _ hc
 generalize Gi G3 p3 (.lst ([.bl b0,.bl b1,.bl b2,.bl b3,.bl b4,.bl b5,.bl b6,.bl b7,.bl b8,.bl b9,.bl b10,.bl b11]++[.bl b12]))=G4 at *
 refine⟨Z6,λp5 h5=>?_⟩
 have s5:=HH h5 (.lst [.str "count",.str "powers",.str "great",.str "row",.str "weights",.str "long",.str "uneven",.str "kind",.str "by",.str "text",.str "line"])
 have e5:Gi G4 p5 (.lst [.str "count",.str "powers",.str "great",.str "row",.str "weights",.str "long",.str "uneven",.str "kind",.str "by",.str "text",.str "line"]) p5=some (.lst [.str "count",.str "powers",.str "great",.str "row",.str "weights",.str "long",.str "uneven",.str "kind",.str "by",.str "text",.str "line"]):=Gu
 have z5:=z4.trans s5
 have f4:=s5 _ _ e4
 have hc5:=s5 _ _ hc4
 show JA 2 (.ref p5) _ (Gi G4 p5 (.lst [.str "count",.str "powers",.str "great",.str "row",.str "weights",.str "long",.str "uneven",.str "kind",.str "by",.str "text",.str "line"])) _
 generalize Gi G4 p5 (.lst [.str "count",.str "powers",.str "great",.str "row",.str "weights",.str "long",.str "uneven",.str "kind",.str "by",.str "text",.str "line"])=G5 at *
 refine⟨_,rfl,IV,λp6 h6=>?_⟩
 have s6:=HH h6 (.lst [.str "badname",.str "name"])
 refine⟨p5,p6,_,_,rfl,rfl,s6 _ _ e5,Gu,small (by show 13<=100000;decide),λp7 h7=>?_⟩
 have s7:=s6.trans (HH h7 (.lst (Lk.map V.str)))
 have e7:Gi (Gi G5 p6 (.lst [.str "badname",.str "name"])) p7 (.lst (Lk.map V.str)) p7=some (.lst (Lk.map V.str)):=Gu
 have z7:=z5.trans s7
 have f7:=s7 _ _ f4
 have hc7:=s7 _ _ hc5
 show JA 2 (.ref p7) _ (Gi (Gi G5 p6 (.lst [.str "badname",.str "name"])) p7 (.lst (Lk.map V.str))) _
 generalize Gi (Gi G5 p6 (.lst [.str "badname",.str "name"])) p7 (.lst (Lk.map V.str))=G7 at *
 have f7':G7 p3=some (.lst ([b0,b1,b2,b3,b4,b5,b6,b7,b8,b9,b10,b11,b12].map V.bl)):=f7
 generalize hbs:[b0,b1,b2,b3,b4,b5,b6,b7,b8,b9,b10,b11,b12]=bs at *
 have lbs:bs.length=13:=by rw[<-hbs];rfl
 refine⟨_,rfl,_,rfl,p7,p3,rfl,⟨_,HK.of e7⟩,⟨_,HK.of f7'⟩,λbk D hD=>?_⟩
 refine jR (α:=Str) (k1:=.lst) (k2:=.lst) hD (HK.of e7) (HK.of f7') (λσ=>∃c d,σ=[c,d]) (λi=>if bs.getD i false=true then some (Lk.getD i "") else none) (small (by rw[AB,AB];lia)) ?_ ?_ ?_
 ·exact⟨_,_,rfl⟩
 ·rintro i x y p2 σ H2 Yes No hx hy h2 ⟨c,d,rfl⟩ s3 yes no
  obtain rfl:=gX hx
  obtain rfl:=aR hy
  refine⟨p2,_,rfl,HL.of Gu,rfl,_,_,rfl,_,_,rfl,rfl,?_⟩
  refine⟨_,rfl,_,rfl,?_⟩
  cases cb:bs.getD i false with
  |true=>exact Jr ⟨_,rfl,yes _ _ _ (Lk.getD i "") ⟨_,_,rfl⟩ (HH h2 _) (by rw[AH cb]) rfl⟩
  |false=>exact KW (no _ _ ⟨_,_,rfl⟩ (HH h2 _) (by rw[cb];rfl))
 rintro H8 s8 h8
 have en:(List.range (min (Lk.map V.str).length (bs.map V.bl).length)).filterMap (λi=>if bs.getD i false=true then some (Lk.getD i "") else none)=MD bs:=by
  rw[AB,AB,lbs]
  rfl
 rw[en]at h8
 refine⟨_,rfl,od,c,C,.ty "ValueError",.type "ValueError",_,rfl,s8 _ _ hc7,hk,rfl,λ_ z=>z,hv,_,rfl,Jr ⟨_,rfl,?_⟩⟩
 exact q D H8 (z7.free hD) (z7.trans s8) h8
theorem Gw.or{CX:Jl}{k:Nat}{ps:List Str}{sp sp':Sp}(A:Gw P w K mg base CX k f fd ps sp)(B:Gw P w K mg base CX k f fd ps sp'):Gw P w K mg base CX k f fd ps (λvs H Q E=>sp vs H Q E∨sp' vs H Q E) :=
 ⟨λvs H Q E q=>q.elim (A.len vs H Q E) (B.len vs H Q E),λA' outer s H args us vs Q E hr he hb hv hs=>hs.elim (A.run A' outer s H args us vs Q E hr he hb hv) (B.run A' outer s H args us vs Q E hr he hb hv)⟩
theorem gK{X:Cx}{ss:List Stmt}:Ii X ss (λ_ _ _=>False):=λ_ _ _ _ _ _ h=>h.elim
def Pr:Sp:=λvs H Q _=>vs=[.non]/\∀(l:Addr)(H':Hp),H l=none->Gf H H'->Gh H' l ([]:List Str)->Q (.ref l) H'
theorem WR(F:Hg K "_law_called" "_law_called" P0 f fd):Gw P w K mg base Hk 2 f fd ["_law_caught"] Pr:=by
 refine IJ F MN λHQ A outer s H vs Q E hr h=>?_
 obtain⟨rfl,q⟩:=h
 refine⟨_,HP (Ia (ID RH (pv 0) Nj (IA _)) (HN (Hs (Hy Gq))) Ip) gK,?_⟩
 exact⟨_,rfl,rfl,_,rfl,Jt rfl ⟨Ik,λl hl=>q l _ hl (HH hl _) ⟨[],Gu,.nil⟩⟩⟩
end
section
variable{P:Program}{w:World}{K:W.Frag}{mg:Str->Option Value}{base:Heap}{f g:Addr}{fd gd:FuncData}
theorem J6.mono{cBC C:Addr}{g1 g2:Nat->List Gb->Hp->VK->Prop}{vs:List V}{H:Hp}{Q Q2:VK}{E E2:XK}(h:J6 cBC C g1 vs H Q E)(hg:∀n ts,g1 n ts H Q->g2 n ts H Q2)(hE:∀c d H',E c d H'->E2 c d H'):J6 cBC C g2 vs H Q2 E2:=by
 obtain⟨n,a,ts,e,hL,hl,e1,q⟩:=h
 exact⟨n,a,ts,e,hL,hl,λz=>hE _ _ _ (e1 z),λz=>⟨(q z).1,λu=>hg _ _ ((q z).2.1 u),λk p u H' d kk x1 x2 x3 x4=>hE _ _ _ ((q z).2.2 k p u H' d kk x1 x2 x3 x4)⟩⟩
theorem nQ{cBC C:Addr}{vs:List V}{H:Hp}{Q Q2:VK}{E E2:XK}(h:NM cBC C vs H Q E)(hQ:∀v H',Q v H'->Q2 v H')(hE:∀c d H',E c d H'->E2 c d H'):NM cBC C vs H Q2 E2 :=
 J6.mono h (λn ts ⟨b,x1,x2,x3,x4,q⟩=>⟨b,x1,x2,x3,x4,λv H' s'=>hQ _ _ (q v H' s')⟩) hE
theorem jH{cBC C:Addr}{vs:List V}{H:Hp}{Q:VK}{E:XK}(h:NM cBC C vs H Q E):RL cBC C vs H Q E :=
 J6.mono h (λn ts ⟨b,x1,x2,x3,x4,q⟩=>⟨b,x1,x2,x3,x4,λl H' _ s' _ _=>q _ H' s'⟩) λ_ _ _ z=>z
theorem Xy{cBR cBC:Addr}{vs:List V}{H:Hp}{Q Q2:VK}{E E2:XK}(h:Me cBR cBC vs H Q E)(hQ:∀v H',Q v H'->Q2 v H')(hE:∀c d H',E c d H'->E2 c d H'):Me cBR cBC vs H Q2 E2:=by
 obtain⟨n,p,r,e,hp,hl,e1,e2,q⟩:=h
 exact⟨n,p,r,e,hp,hl,λz H' s'=>hE _ _ _ (e1 z H' s'),λz y H' s'=>hE _ _ _ (e2 z y H' s'),λz y v H' s'=>hQ _ _ (q z y v H' s')⟩
def MI(cBR cBC C:Addr):Sp:=λvs H Q E=>∃(wh:Int)(v1 v2:V),vs=[.int wh,v1,v2]/\(((wh=0∨wh=1∨wh=2)/\NM cBC C [v1,v2] H (λ_ H'=>Q .non H') E)∨((wh=3∨wh=4∨wh=5)/\Me cBR cBC [v1,v2] H (λ_ H'=>Q .non H') E))
abbrev LX:List Str:=["_law_which", "_law_many", "_law_thing"]
theorem aX:Gj LX LX (HW OV):=Hx
theorem Xf{cBR cBC C:Addr}(F:Hg K "_law_call" "_law_call" OV f fd)(G0:Hr P w K mg base 12 "by_elementary" ["many", "some"] (RL cBC C))(G1:Hr P w K mg base 12 "by_whole" ["many", "some"] (NM cBC C))(G2:Hr P w K mg base 12 "by_power" ["many", "some"] (NM cBC C))(G3:Hr P w K mg base 12 "elementary_sum" VP (Me cBR cBC))(G4:Hr P w K mg base 12 "whole_sum" UU (Me cBR cBC))(G5:Hr P w K mg base 12 "power_sum" TK (Me cBR cBC)):Gw P w K mg base (IB P w) 13 f fd LX (MI cBR cBC C):=by
 refine LR F aX λHQ A outer s H vs Q E hr h=>?_
 obtain⟨wh,v1,v2,rfl,h⟩:=h
 refine⟨_,(HN (Ia (ID MP (pv 0) HR (IA _)) (HN (IZ (Jk G0 hr rfl Jp (Ge (pv 1) (Ge (pv 2) Gq)))))
  (HN (Ia (ID MP (pv 0) HR (IA _)) (HN (IZ (Jk G1 hr rfl Jp (Ge (pv 1) (Ge (pv 2) Gq)))))
  (HN (Ia (ID MP (pv 0) HR (IA _)) (HN (IZ (Jk G2 hr rfl Jp (Ge (pv 1) (Ge (pv 2) Gq)))))
  (HN (Ia (ID MP (pv 0) HR (IA _)) (HN (IZ (Jk G3 hr rfl Jp (Ge (pv 1) (Ge (pv 2) Gq)))))
  (HN (Ia (ID MP (pv 0) HR (IA _)) (HN (IZ (Jk G4 hr rfl Jp (Ge (pv 1) (Ge (pv 2) Gq)))))
  (HN (IZ (Jk G5 hr rfl Jp (Ge (pv 1) (Ge (pv 2) Gq))))))))))))))),?_⟩
 have no:∀{i j:Int},i≠j->¬ (V.int i=V.int j):=λh z=>h (by injection z)
 rcases h with⟨hw,h⟩|⟨hw,h⟩
 ·rcases hw with rfl|rfl|rfl
  ·refine⟨_,rfl,rfl,_,rfl,Jt rfl ?_⟩
   exact⟨_,rfl,_,rfl,jH h⟩
  ·refine⟨_,rfl,rfl,_,rfl,Ij (no (by decide)) ?_⟩
   refine⟨_,rfl,rfl,_,rfl,Jt rfl ?_⟩
   exact⟨_,rfl,_,rfl,h⟩
  ·refine⟨_,rfl,rfl,_,rfl,Ij (no (by decide)) ?_⟩
   refine⟨_,rfl,rfl,_,rfl,Ij (no (by decide)) ?_⟩
   refine⟨_,rfl,rfl,_,rfl,Jt rfl ?_⟩
   exact⟨_,rfl,_,rfl,h⟩
 ·rcases hw with rfl|rfl|rfl
  ·refine⟨_,rfl,rfl,_,rfl,Ij (no (by decide)) ?_⟩
   refine⟨_,rfl,rfl,_,rfl,Ij (no (by decide)) ?_⟩
   refine⟨_,rfl,rfl,_,rfl,Ij (no (by decide)) ?_⟩
   refine⟨_,rfl,rfl,_,rfl,Jt rfl ?_⟩
   exact⟨_,rfl,_,rfl,h⟩
  ·refine⟨_,rfl,rfl,_,rfl,Ij (no (by decide)) ?_⟩
   refine⟨_,rfl,rfl,_,rfl,Ij (no (by decide)) ?_⟩
   refine⟨_,rfl,rfl,_,rfl,Ij (no (by decide)) ?_⟩
   refine⟨_,rfl,rfl,_,rfl,Ij (no (by decide)) ?_⟩
   refine⟨_,rfl,rfl,_,rfl,Jt rfl ?_⟩
   exact⟨_,rfl,_,rfl,h⟩
  ·refine⟨_,rfl,rfl,_,rfl,Ij (no (by decide)) ?_⟩
   refine⟨_,rfl,rfl,_,rfl,Ij (no (by decide)) ?_⟩
   refine⟨_,rfl,rfl,_,rfl,Ij (no (by decide)) ?_⟩
   refine⟨_,rfl,rfl,_,rfl,Ij (no (by decide)) ?_⟩
   refine⟨_,rfl,rfl,_,rfl,Ij (no (by decide)) ?_⟩
   exact⟨_,rfl,_,rfl,h⟩
end
section
variable{P:Program}{w:World}{K:W.Frag}{mg:Str->Option Value}{base:Heap}{f g:Addr}{fd gd:FuncData}
structure Ji(K:W.Frag)(ds:List Addr)(C0 C:Addr)(nm:List Str):Prop where
 k:JS K C
 v:W.kitOne K (.ref C) (.type "ValueError")=some true
 s:∃bs,Nq K C ds bs/\MD bs=nm
 w:W.kitOne K (.ref C) (.ref C0)=some true
 n:C≠C0
abbrev rN:List Str:=["_law_which", "_law_many", "_law_thing", "_law_caught", "e"]
theorem Op:Gj rN LX (HW N8):=Hx
def UH(K:W.Frag)(ds:List Addr)(C0 cBR cBC C:Addr):Sp:=λvs H Q _=>∃o:Option (Addr×List Str),MI cBR cBC C vs H (λ_ H'=>o=none/\Gf H H') (λcls od H'=>(∃x,o=some x/\cls=.ref x.1)/\Gf H H')/\(∀x,o=some x->Ji K ds C0 x.1 x.2) /\
 ∀(l:Addr)(H':Hp),H l=none->Gf H H'->Gh H' l ((o.map (·.2)).getD [])->Q (.ref l) H'
theorem gH{C0 cBR cBC C:Addr}{ds:List Addr}(F:Hg K "_law_flags" "_law_flags" N8 f fd)(GC:Hr P w K mg base 13 "_law_call" LX (MI cBR cBC C))(GD:Hd P w K mg base 13 "_law_called" ["_law_caught"] (λvs H Q E=>Sd K ds vs H Q E∨Pr vs H Q E))(mE:mg "EvenError" = some (.ref C0))(kE:W.kitOne K (.ref C0) (.type "BaseException")=some true):Gw P w K mg base Hk 14 f fd LX (UH K ds C0 cBR cBC C):=by
 refine F.ok Op (λvs H Q E h=>?_) (λHQ A outer s H vs Q E hr h=>?_)
 ·obtain⟨o,⟨wh,v1,v2,rfl,_⟩,_⟩:=h
  rfl
 obtain⟨o,hc,ht,q⟩:=h
 obtain⟨wh,v1,v2,e,hcc0⟩:=id hc
 subst e
 refine⟨_,HP (Hi (i:=3) Op.nd rfl (Or.inl rfl) Nj)
  (HP (Xk (i:=4) (j:=3) rfl rfl Op.nd rfl rfl rfl rfl rfl mE (qP kE) (λpn' T σ0 E' hx =>
   HN (IZ (R1 GC.ok hr rfl GC.at_ GC.kp GC.bd hx (Ge (pv 0) (Ge (pv 1) (Ge (pv 2) Gq)))))))
  (HN (Hs (Hq GD hr rfl (Ge (pv 3) Gq))))),?_⟩
 refine⟨rfl,_,rfl,_,rfl,_,rfl,wh,v1,v2,rfl,?_⟩
 rcases hcc0 with⟨hw,h⟩|⟨hw,h⟩
 ·refine .inl ⟨hw,nQ h (λ_ H' ⟨ho,s'⟩=>?_) λcls od H' ⟨⟨x,ho,hcls⟩,s'⟩=>?_⟩
  ·subst ho
   exact⟨_,rfl,.inr ⟨rfl,λl H2 hl s2 hL=>q l H2 (s'.free hl) (s'.trans s2) hL⟩⟩
  ·subst ho hcls
   obtain⟨k,v,⟨bs,sy,nb⟩,w,n⟩:=ht x rfl
   refine⟨x.1,rfl,qA w n,λcc hcc=>?_⟩
   have v1':=HH hcc (xE cc (.ref x.1) od)
   refine⟨_,rfl,.inl ⟨od,cc,x.1,bs,rfl,Gu,k,v,sy,λl H2 hl s2 hL=>?_⟩⟩
   refine q l H2 (s'.free (v1'.free hl)) (s'.trans (v1'.trans s2)) ?_
   rw[nb]at hL
   exact hL
 ·refine .inr ⟨hw,Xy h (λ_ H' ⟨ho,s'⟩=>?_) λcls od H' ⟨⟨x,ho,hcls⟩,s'⟩=>?_⟩
  ·subst ho
   exact⟨_,rfl,.inr ⟨rfl,λl H2 hl s2 hL=>q l H2 (s'.free hl) (s'.trans s2) hL⟩⟩
  ·subst ho hcls
   obtain⟨k,v,⟨bs,sy,nb⟩,w,n⟩:=ht x rfl
   refine⟨x.1,rfl,qA w n,λcc hcc=>?_⟩
   have v1':=HH hcc (xE cc (.ref x.1) od)
   refine⟨_,rfl,.inl ⟨od,cc,x.1,bs,rfl,Gu,k,v,sy,λl H2 hl s2 hL=>?_⟩⟩
   refine q l H2 (s'.free (v1'.free hl)) (s'.trans (v1'.trans s2)) ?_
   rw[nb]at hL
   exact hL
abbrev rM:List Str:=["_law_which", "_law_many", "_law_thing", "_law_found", "e"]
theorem Nl:Gj rM LX (HW OB):=Hx
def RS:Sp:=λvs H Q _=>∃(wh:Int)(n:Nat)(a:Addr)(ts:List Gb)(k:Nat)(p:Pw),vs=[.int wh,.int n,.ref a]/\(wh=0∨wh=1∨wh=2)/\1<=n/\n<=4/\Gh H a ts/\ts.length<=1000/\(∀t∈ts,t.1.length=n)/\Jv ts (n-1) (some (k,p)) /\
 ∀(v:V)(H':Hp),Gf H H'->YF H' v (some (k,p))->Q v H'
theorem XE{cBR cBC C:Addr}(F:Hg K "_law_fields" "_law_fields" OB f fd)(GC:Hr P w K mg base 13 "_law_call" LX (MI cBR cBC C))(M6:mg "Uneven" = some (.ref C))(kB:W.kitOne K (.ref C) (.type "BaseException")=some true)(kS:W.kitCls K (.ref C) (.ref C)=some true)(kC:JS K C)(hd:W.hasDictIn K C=true)(p1:W.findIn K (.ref C) "place" = some none)(p2:W.findIn K (.ref C) "powers" = some none):Gw P w K mg base Hk 14 f fd LX RS:=by
 refine IJ F Nl λHQ A outer s H vs Q E hr h=>?_
 obtain⟨wh,n,a,ts,k,p,rfl,hw,n1,n4,hL,hl,lens,hu,q⟩:=h
 refine⟨_,HP (Hi (i:=3) Nl.nd rfl (Or.inl rfl) Nj)
  (HP (WF (i:=4) (j:=3) rfl rfl Nl.nd rfl rfl rfl rfl rfl M6 (qP kB) (λpn' T σ0 E' hx =>
   HN (IZ (R1 GC.ok hr rfl GC.at_ GC.kp GC.bd hx (Ge (pv 0) (Ge (pv 1) (Ge (pv 2) Gq)))))))
  (HN (Hs (pv 3)))),?_⟩
 refine⟨rfl,_,rfl,_,rfl,_,rfl,wh,_,_,rfl,.inl ⟨hw,n,a,ts,rfl,hL,hl,λz=>absurd ⟨by lia,by lia⟩ z,λ_=>⟨?_,λz=>?_,λk' p' hu' H1 d kk s1 hd0 ed ek=>?_⟩⟩⟩
 ·rw[Aw];exact lens
 ·rw[Aw]at z
  have:=z.one hu
  cases this
 ·rw[Aw]at hu'
  have:=hu'.one hu
  cases this
  refine⟨C,rfl,kS,λx hx=>?_⟩
  have v1:=HH hx (xE x (.ref C) (some d))
  refine⟨_,rfl,x,C,d,_,_,rfl,Gu,v1 _ _ ed,kC,hd,p1,rfl,_,rfl,x,C,d,_,_,rfl,Gu,v1 _ _ ed,kC,hd,p2,rfl,IV,λt ht=>?_⟩
  have v2:=HH ht (.tup [.int k,.ref kk])
  exact⟨_,rfl,q (.ref t) _ (s1.trans (v1.trans v2)) ⟨t,kk,rfl,Gu,v2 _ _ (v1 _ _ ek)⟩⟩
end
end L2.K43
namespace L2.Ev
open PySem PySem.Spec PyProof.Rows
open L2.Ts L2.Pl L2.Rw
section
variable{X:Cx}
def dZ(te:TE):TE:=λσ H Q=>te σ H λx H1=>∃(a:Addr)(d:List Gb),x=.ref a/\Rd H1 a (.dT (II d))/\(∀t∈d,t.1≠[])/\∀(p:Addr)(vs:List V)(l':List Pw),H1 p=none->l'.Perm (d.map (·.1))->(l'.Pairwise λa b=>Hj a b=false)->Hc H1 vs l'->Q (.ref p) (Gi H1 p (.lst vs))
theorem mL{eo:Expr}{te:TE}{p pos kp kq apos ppos:Pos}{j}(hc:X.calm=true)(hu:X.A.units+8<cLine)(hg:Gl X "sorted")(hm:X.mg "sorted" = none)(ho:PE X eo te)(hbase:attributeBase eo "keys" X.env (eval eo X.env)=eval eo X.env:=by rfl)(hline:(apos.endLine==ppos.line)=true:=by rfl)
  (h1:backTo pos (starEach [.Call (.Attribute eo "keys" apos) [] [] ppos] X.env)=(false,eval (.Call (.Attribute eo "keys" apos) [] [] ppos) X.env)::backTo pos (starEach [] X.env):=by rfl) (h2:(backTo pos (starEach [.Call (.Attribute eo "keys" apos) [] [] ppos] X.env)).any (·.1)=false:=by rfl) (hnil:backTo pos (starEach [] X.env)=[]:=by rfl) :
  PE X (.Call (.Name "sorted" p) [.Call (.Attribute eo "keys" apos) [] [] ppos] [⟨some (Str.ofString "reverse"),.Constant (.bool true) j kq,kp⟩] pos) (dZ te):=by
 intro Fo s σ H Q I h
 refine BK (Jj I hg hm Eg ?_)
 refine EB ?_ h1 h2
 rw[h1,hnil]
 refine Cy (FU hbase hline (HY (ho Fo s σ H _ I h) λv s1 ⟨x,H1,I1,r1,q1⟩=>?_))
 obtain⟨a,d,rfl,hR,hne,q⟩:=q1
 cases r1
 obtain⟨z,lo,es,ep,raw,sz,ent⟩:=QF I1 hR
 obtain⟨o,ho',hx,hdat⟩:=id raw
 refine⟨"dict", "dict.keys",D0,Fi,Fj,raw.type,λb e=>?_,Cs rfl (Gv (Ta lo raw ?_))⟩
 ·cases e
  exact⟨o,ho',hx.2.1⟩
 have kp1:∀b u,s1.heap.get? b=some u->(s1.heap.push { cls:=.type "dict_keys",data:=.fields #[.ref a] }).get? b=some u:=λb u e=>AC _ e
 have I2:Inv X Fo σ H1 { s1 with heap:=s1.heap.push { cls:=.type "dict_keys",data:=.fields #[.ref a] } }:=I1.kept (t':=s1.toks) kp1
 refine AD ?_
 refine FM (Constant_bool (kws_nil ?_))
 have hb:Ja (List Int) H1 (es.toList.map (·.key)) (d.map (·.1)):=by
  have key:∀{l:List DictEntry}{d:List Gb},Paired (λ(e:DictEntry)(t:Gb)=>(∃p,e.key=.ref p/\H1 p=some (.tup (t.1.map V.int)))/\Gx (.int t.2) e.val) l d->Ja (List Int) H1 (l.map (·.key)) (d.map (·.1)):=by
   intro l d h
   induction h with
   |nil=>exact .nil
   |cons r t ih =>
    obtain⟨⟨p,e1,e2⟩,_⟩:=r
    exact .cons ⟨.ref p,e1,Jx e2⟩ ih
  exact key ent
 have ln:(es.toList.map (·.key)).length<=sizeLine:=by rw[AB,AT,sz];exact z
 refine iS hu I2 hb ln (λk hk=>?_) (λQ' q'=>aG (SR (r:=s1.heap.objs.size) (d:=a) (es:=es) (ep:=ep)) (I2.ok.hd hc) ⟨⟨_,AQ _ rfl,rfl,rfl⟩,raw.keep λo e=>kp1 _ _ e⟩ (by rw[sz];exact z) λh' tk acc kp szz it=>?_) q
 ·obtain⟨t,ht,rfl⟩:=AV.mp hk
  exact hne t ht
 ·have e:acc.toList=es.toList.map (·.key):=by
   refine C9 λi=>?_
   rw[A0,Ag,A0]
   by_cases c:i<es.size
   ·have ci:i<acc.size:=by rw[it.1];exact c
    obtain⟨_,e⟩:=it.2 i acc[i] (AF ci)
    rw[AF ci,AF c,e]
    rfl
   ·rw[BU (by rw[it.1];lia),BU (by lia)]
    rfl
  rw[e]
  exact q' h' tk kp szz
end
end L2.Ev
namespace L2.Ev
open PySem PySem.Spec PyProof.Rows
open L2.Pl
section
variable{prog:Program}{w:World}{A:Around}{R:Result->Shared->Prop}{I:Addr}{fp wr:List Addr}{n:Nat}{P:Nat->Value->Prop}{St:Nat->Heap->Prop}{OK:Heap->Prop}
abbrev SW(I S:Addr):Code:=.builtin "max.loop" ⟨[.ref I,.none,.ref S],[]⟩
theorem jZ(W:Walks prog w A.in1 I fp wr n P St)(bt:Nat->Nat->Bool)(S:Addr)(hSf:S∉fp)(keep:∀h h':Heap,(∀b o,b∉wr->b≠S->h.get? b=some o->h'.get? b=some o)->OK h->OK h')
  (hcmp:∀i j vi vj (s:Shared) (Q:Value->Shared->Prop) (E:Value->Shared->Prop),OK s.heap->P i vi->P j vj->Q (.bool (bt i j)) s->wpAny (model prog w) A.in1 (richCompare .Gt vi vj) Q E s) :
  ∀(k j:Nat)(s:Shared)(vb:Value)(c:Nat),n-(j+1)=k->j+1<=n->OK s.heap->St (j+1) s.heap->P (argBest bt j) vb->s.heap.get? S=some (Uz #[vb,vb] c) ->
  (∀v h' tk,P (argBest bt (n-1)) v->(∀b o,b∉wr->b≠S->s.heap.get? b=some o->h'.get? b=some o)->R (.ok (.ret v)) { s with heap:=h',toks:=tk })->codeAny (model prog w) A (SW I S) R s
 |0,j,s,vb,c,hk,hj,ok,hst,hPb,hS,hR=>by
  have hSw:S∉wr:=λh=>hSf (W.sub _ h)
  have hin:j+1=n:=by lia
  refine B4 DE ?_
  rw[Ba BS _]
  show wpAny _ A.in1 (seqItems? (.ref S)>>=_) _ _ s
  refine AA (Be hS rfl ?_)
  show wpAny _ A.in1 (tryCatch (pyNext (.ref I)) _>>=_) _ _ s
  refine AA (Cb (W.done s _ _ (hin▸hst) λh' tk hk'=>?_))
  have hS':=hk' S _ hSw hS
  show wpAny _ A.in1 (updateSeq S (λ_=>#[])>>=_) _ _ _
  exact AA (DP hS' rfl (AA (CT (AD (hR vb _ tk (by rw[<-hin];exact hPb) λb o hbw hbS e=>(An _ _ (Bl hbS)).trans (hk' b o hbw e))))))
 |k+1,j,s,vb,c,hk,hj,ok,hst,hPb,hS,hR=>by
  have hSw:S∉wr:=λh=>hSf (W.sub _ h)
  have hlt:j+1<n:=by lia
  refine B4 DE ?_
  rw[Ba BS _]
  show wpAny _ A.in1 (seqItems? (.ref S)>>=_) _ _ s
  refine AA (Be hS rfl ?_)
  show wpAny _ A.in1 (tryCatch (pyNext (.ref I)) _>>=_) _ _ s
  refine AA (Cb (W.item (j+1) s _ _ hlt hst λv h' tk hP hst' hk'=>?_))
  have hS':=hk' S _ hSw hS
  have ok':OK h':=keep _ _ (λb o hw _ e=>hk' b o hw e) ok
  show wpAny _ A.in1 (tryCatch (holding [v,v] (richCompare .Gt v vb>>=_)) _>>=_) _ _ _
  refine AA (Cb (By (AA (hcmp (j+1) (argBest bt j) v vb _ _ _ ok' hP hPb (AA (By (CK (AA (CT (AD ?_))))))))))
  cases hb:bt (j+1) (argBest bt j) with
  |true =>
   simp only[CA]
   refine AA (DP hS' rfl (AA (CT ?_)))
   rw[NJ]
   refine AD ⟨CU BS _,jZ W bt S hSf keep hcmp k (j+1) _ v _ (by lia) hlt (keep _ _ (λb o _ hbS e=>(An _ _ (Bl hbS)).trans e) ok') (W.frame _ _ _ hst' λb hbf o e=>?_) (by simp only[argBest,hb,CA];exact hP) (BF _ hS' rfl) λv' h'' tk'' hP' hk''=>?_⟩
   ·exact(An _ _ (λh:S=b=>hSf (by rw[h];exact hbf))).trans e
   ·exact hR v' h'' tk'' hP' λb o hbw hbS e=>hk'' b o hbw hbS ((An _ _ (Bl hbS)).trans (hk' b o hbw e))
  |false =>
   simp only[A5,Bb]
   refine AA (CT ?_)
   rw[NJ]
   exact AD ⟨CU BS _,jZ W bt S hSf keep hcmp k (j+1) _ vb c (by lia) hlt ok' hst' (by simp only[argBest,hb,A5,Bb];exact hPb) hS' λv' h'' tk'' hP' hk''=>hR v' h'' tk'' hP' λb o hbw hbS e=>hk'' b o hbw hbS (hk' b o hbw e)⟩
theorem X3(W:Walks prog w A.in1 I fp wr n P St)(bt:Nat->Nat->Bool)(S:Addr)(hSf:S∉fp)(keep:∀h h':Heap,(∀b o,b∉wr->b≠S->h.get? b=some o->h'.get? b=some o)->OK h->OK h')
  (hcmp:∀i j vi vj (s:Shared) (Q:Value->Shared->Prop) (E:Value->Shared->Prop),OK s.heap->P i vi->P j vj->Q (.bool (bt i j)) s->wpAny (model prog w) A.in1 (richCompare .Gt vi vj) Q E s)
  {s:Shared} {c:Nat} (hn:0<n) (ok:OK s.heap) (hst:St 0 s.heap) (hS:s.heap.get? S=some (Uz #[] c))
  (hR:∀v h' tk,P (argBest bt (n-1)) v->(∀b o,b∉wr->b≠S->s.heap.get? b=some o->h'.get? b=some o)->R (.ok (.ret v)) { s with heap:=h',toks:=tk }):codeAny (model prog w) A (SW I S) R s:=by
 have hSw:S∉wr:=λh=>hSf (W.sub _ h)
 refine B4 DE ?_
 rw[Ba BS _]
 show wpAny _ A.in1 (seqItems? (.ref S)>>=_) _ _ s
 refine AA (Be hS rfl ?_)
 show wpAny _ A.in1 (tryCatch (pyNext (.ref I)) _>>=_) _ _ s
 refine AA (Cb (W.item 0 s _ _ hn hst λv h' tk hP hst' hk'=>?_))
 have hS':=hk' S _ hSw hS
 have ok':OK h':=keep _ _ (λb o hw _ e=>hk' b o hw e) ok
 show wpAny _ A.in1 (updateSeq S (λ_=>#[v,v])>>=_) _ _ _
 refine AA (DP hS' rfl ?_)
 rw[NJ]
 refine AD ⟨CU BS _,jZ W bt S hSf keep hcmp _ 0 _ v _ rfl hn (keep _ _ (λb o _ hbS e=>(An _ _ (Bl hbS)).trans e) ok') (W.frame _ _ _ hst' λb hbf o e=>?_) hP (BF _ hS' rfl) λv' h'' tk'' hP' hk''=>?_⟩
 ·exact(An _ _ (λh:S=b=>hSf (by rw[h];exact hbf))).trans e
 ·exact hR v' h'' tk'' hP' λb o hbw hbS e=>hk'' b o hbw hbS ((An _ _ (Bl hbS)).trans (hk' b o hbw e))
end
section
variable{prog:Program}{w:World}{A:Around}{E:Value->Shared->Prop}{Q:Value->Shared->Prop}{s:Shared}
theorem XX{a b:Addr}{xs ys:Array Value}{ns ms:List Int}(hh:A.handled=none)(hu:A.units+1<cLine)(ha:IsTup s.heap a xs)(hb:IsTup s.heap b ys)(hi:IntsAre xs.toList ns)(hj:IntsAre ys.toList ms)
  (h:∀h' tk,(∀c o,s.heap.get? c=some o->h'.get? c=some o)->Q (if HT.lexLt ns ms=true then .ref b else .ref a) { s with heap:=h',toks:=tk }) :
  wpAny (model prog w) A (call (.builtin "max") [.ref a,.ref b]) Q E s:=by
 refine call_function_tree F.kind_max F.plain_max F.entry_max (F.args_max2 _ _) ?_
 show wpAny _ A.in1 (Builtin.Builtins.bindParams "max" ["key", "default"] 0 ⟨[],[]⟩>>=_) _ _ s
 refine AA (Ef (show Builtin.Builtins.bindParams "max" ["key", "default"] 0 ⟨[],[]⟩=pure [none,none] from rfl) ?_)
 show wpAny _ A.in1 (newTuple [.ref a,.ref b]>>=_) _ _ s
 refine AA (BC ?_)
 have hT:(s.heap.push { cls:=.type "tuple",data:=.seq #[.ref a,.ref b] }).IsTuple s.heap.objs.size #[.ref a,.ref b]:=⟨_,AQ _ rfl,rfl,0,rfl⟩
 have k1:∀c o,s.heap.get? c=some o->(s.heap.push { cls:=.type "tuple",data:=.seq #[Value.ref a,.ref b] }).get? c=some o:=λc o e=>AC _ e
 have hsz:(s.heap.push { cls:=.type "tuple",data:=.seq #[Value.ref a,.ref b] }).objs.size=s.heap.objs.size+1:=Bz ..
 refine AA (Br hT ?_)
 refine AA (BC ?_)
 rw[NJ]
 have la:a<s.heap.objs.size:=by obtain⟨o,e,_⟩:=ha;exact AR e
 have lb:b<s.heap.objs.size:=by obtain⟨o,e,_⟩:=hb;exact AR e
 have W:=Walks.tuple (prog:=prog) (w:=w) (A:=A.in1) hh (s.heap.push { cls:=.type "tuple",data:=.seq #[Value.ref a,.ref b] }).objs.size s.heap.objs.size (by rw[hsz];exact As (EC _)) #[Value.ref a,.ref b]
 have hz2:((s.heap.push { cls:=.type "tuple",data:=.seq #[Value.ref a,.ref b] }).push { cls:=.type "tuple_iterator",data:=.fields #[.ref s.heap.objs.size,.int 0 0] }).objs.size=s.heap.objs.size+2:=by rw[Bz,hsz]
 have kk:∀{h h':Heap}{c:Addr}{zs:Array Value},IsTup h c zs->(∀o,h.get? c=some o->h'.get? c=some o)->IsTup h' c zs:=λ{h h' c zs} ⟨o,e,r⟩ k=>⟨o,k o e,r⟩
 refine AD ⟨CU BS _,X3 (OK:=λh=>IsTup h a xs/\IsTup h b ys) W (λi j=>HT.lexLt (if j=0 then ns else ms) (if i=0 then ns else ms)) _ ?_ ?_ ?_ (by show 0<2;decide) ?_ (W.frame _ _ _ ⟨⟨_,AQ _ rfl,rfl,rfl⟩,hT.push _⟩ λb _ o e=>AC _ e) (AQ _ rfl) λv h' tk hP hk=>?_⟩
 ·intro hm
  have hm2:((s.heap.push { cls:=.type "tuple",data:=.seq #[Value.ref a,.ref b] }).push { cls:=.type "tuple_iterator",data:=.fields #[.ref s.heap.objs.size,.int 0 0] }).objs.size∈[(s.heap.push { cls:=.type "tuple",data:=.seq #[Value.ref a,.ref b] }).objs.size,s.heap.objs.size]:=hm
  rw[hz2,hsz]at hm2
  simp at hm2
 ·intro h h' k ⟨x,y⟩
  have nw:∀c,c<s.heap.objs.size->c∉[(s.heap.push { cls:=.type "tuple",data:=.seq #[Value.ref a,.ref b] }).objs.size]:=λc hc z=>by
   have:=AS.mp z
   rw[hsz]at this
   lia
  have nS:∀c,c<s.heap.objs.size->c≠((s.heap.push { cls:=.type "tuple",data:=.seq #[Value.ref a,.ref b] }).push { cls:=.type "tuple_iterator",data:=.fields #[.ref s.heap.objs.size,.int 0 0] }).objs.size:=λc hc z=>by
   rw[hz2]at z
   lia
  exact⟨kk x λo e=>k a o (nw a la) (nS a la) e,kk y λo e=>k b o (nw b lb) (nS b lb) e⟩
 ·intro i j vi vj s' Q' E' ⟨x,y⟩ hvi hvj q
  have one:∀{i:Nat}{v:Value},(#[Value.ref a,.ref b]:Array Value)[i]?=some v->(i=0/\v=.ref a)∨(i≠0/\v=.ref b):=λ{i v} e=>by
   match i,e with
   |0,e=>exact .inl ⟨rfl,(Al e).symm⟩
   |1,e=>exact .inr ⟨by decide,(Al e).symm⟩
   |n+2,e=>simp at e
  have hu':A.in1.units<cLine:=hu
  show wpAny _ _ (compareOp .Gt vi vj) _ _ _
  rcases one hvi with⟨rfl,rfl⟩|⟨hi0,rfl⟩
  ·rcases one hvj with⟨rfl,rfl⟩|⟨hj0,rfl⟩
   ·exact Vn x x hi hi hu' (by simpa using q)
   ·exact Vn x y hi hj hu' (by rw[AE hj0]at q;simpa using q)
  ·rcases one hvj with⟨rfl,rfl⟩|⟨hj0,rfl⟩
   ·exact Vn y x hj hi hu' (by rw[AE hi0]at q;simpa using q)
   ·exact Vn y y hj hj hu' (by rw[AE hi0,AE hj0]at q;exact q)
 ·exact⟨kk ha λo e=>AC _ (AC _ (k1 a o e)),kk hb λo e=>AC _ (AC _ (k1 b o e))⟩
 ·have hold:∀c o,s.heap.get? c=some o->h'.get? c=some o:=λc o e=>by
   have lc:=AR e
   refine hk c o (λz=>?_) (λz=>?_) (AC _ (AC _ (k1 c o e)))
   ·have:=AS.mp z
    rw[hsz]at this
    exact absurd this (As (E1 lc))
   ·have z2:c=((s.heap.push { cls:=.type "tuple",data:=.seq #[Value.ref a,.ref b] }).push { cls:=.type "tuple_iterator",data:=.fields #[.ref s.heap.objs.size,.int 0 0] }).objs.size:=z
    rw[hz2]at z2
    exact absurd z2 (As (Ao lc (CV _ 2)))
  have hq:=h h' tk hold
  have hP':(#[Value.ref a,.ref b]:Array Value)[argBest (λi j=>HT.lexLt (if j=0 then ns else ms) (if i=0 then ns else ms)) 1]?=some v:=hP
  have e:v=if HT.lexLt ns ms=true then .ref b else .ref a:=by
   by_cases c:HT.lexLt ns ms=true
   ·have e1:argBest (λi j=>HT.lexLt (if j=0 then ns else ms) (if i=0 then ns else ms)) 1=1:=by simp [argBest,c]
    rw[e1]at hP'
    rw[AH c]
    exact(Al hP').symm
   ·have e1:argBest (λi j=>HT.lexLt (if j=0 then ns else ms) (if i=0 then ns else ms)) 1=0:=by simp [argBest,c]
    rw[e1]at hP'
    rw[AE c]
    exact(Al hP').symm
  rw[e]
  exact hq
end
section
variable{X:Cx}
theorem ZR(hc:X.calm=true)(hu:X.A.units+1<cLine):Hw X (.builtin "max") (λxs H Q=>∃(a b:Addr)(ns ms:List Int),xs=[.ref a,.ref b]/\HL X.K H a (ns.map V.int)/\HL X.K H b (ms.map V.int)/\Q (if HT.lexLt ns ms=true then .ref b else .ref a) H):=by
 intro Fo s σ H xs us Q I r h
 obtain⟨a,b,ns,ms,rfl,h1,h2,q⟩:=h
 obtain⟨u,w',rfl,r1,r2⟩:=K0 r
 cases r1
 cases r2
 obtain⟨i1,v1,t1,z1⟩:=I.tuple h1
 obtain⟨i2,v2,t2,z2⟩:=I.tuple h2
 refine XX (I.ok.hd hc) hu t1 t2 (KI v1) (KI v2) λh' tk k=>⟨_,H,I.kept k,?_,q⟩
 split<;>rfl
end
end L2.Ev
namespace L2.K43
open PySem
open L2.Pl L2.Ev
section
variable{P:Program}{w:World}{K:W.Frag}{mg:Str->Option Value}{base:Heap}{f g:Addr}{fd gd:FuncData}
theorem Ld{b:Bool}{A B:Prop}(h:b=false)(x:B):if b=true then A else B:=by rw[h];exact x
theorem Z0{b:Bool}{A B:Prop}(h:b=true)(x:A):if b=true then A else B:=by rw[h];exact x
theorem Xv{d:List Gb}{p:Pw}{n:Int}(h:p∉d.map (·.1)):Ke d p n=d++[(p,n)]:=by
 unfold Ke
 rw[AE]
 intro z
 obtain⟨t,ht,e⟩:=List.any_eq_true.mp z
 exact h (AV.mpr ⟨t,ht,BD e⟩)
theorem gY{ts:List Gb}(c:HS ts):Nd ts:=Bw.mpr (c.ord.imp λh z=>by rw[z,Jb]at h;cases h)
theorem cJ{ts:List Gb}(h:Nd ts){j:Nat}{t:Gb}(e:ts[j]?=some t):t.1∉(ts.take j).map (·.1):=λhm=>by
 have e2:=JF e
 have h2:((ts.take (j+1)).map (·.1)).Nodup:=by
  rw[Go]
  exact h.sublist (Ex _ _)
 rw[e2,Au]at h2
 exact(Ez.mp h2).2.2 _ hm t.1 (by simp) rfl
theorem Q3{q:List Int}{i:Nat}(h:i<q.length):Jn (q.map V.int) (i:Int)=some (.int (q.getD i 0)):=LN (by rw[Ag,AW h,Av,AW h];rfl)
theorem TU{n i:Nat}(h:i<n):Lr n (i:Int)=some i:=by
 unfold Lr
 rw[AH (by lia),AH (by lia)]
 rfl
theorem UY:∀{k:Nat}{q:List Int},k+1<q.length->((q.map V.int).set k (.int (q.getD (k+1) 0))).set (k+1) (.int (q.getD k 0))=(swp q k).map V.int
 |0,x::y::r,_=>by rw[Lj];rfl
 |k+1,x::q,h=>by
  have ih:=UY (k:=k) (q:=q) (by simpa using h)
  rw[Ll]
  show V.int x::(((q.map V.int).set k (.int (q.getD (k+1) 0))).set (k+1) (.int (q.getD k 0)))=V.int x::(swp q k).map V.int
  rw[ih]
abbrev sC:List Str:=["_law_many", "_law_some", "_law_place", "_law_total", "_law_powers", "_law_number", "_law_ends"]
abbrev Z2:List Str:=["_law_many", "_law_some"]
theorem J3:Gj sC Z2 (HW OA):=Hx
def QZ:Sp:=λvs H Q _=>∃(n:Nat)(a:Addr)(ts:List Gb)(p:Pw),vs=[.int n,.ref a]/\1<=n/\n<=4/\Gh H a ts/\ts.length<=1000/\HS ts/\(∀t∈ts,t.1.length=n)/\(∀k,k+1<n->∀r:Pw,r.length=n->cf ts r≠cf ts (swp r k)->r=p∨r=swp p k) /\
 ∀(v:V)(o:Option (Nat×Pw))(H':Hp),Gf H H'->Jv ts (n-1) o->YF H' v o->Q v H'
theorem lD(F:Hg K "_law_due" "_law_due" OA f fd)(mr:mg "range" = none)(mS:mg "sorted" = none)(ml:mg "list" = none)(mt:mg "tuple" = none)(mx:mg "max" = none):Gw P w K mg base Hk 2 f fd Z2 QZ:=by
 refine IJ F J3 λHQ A outer s H vs Q E hr h=>?_
 obtain⟨n,a,ts,p,rfl,n1,n4,⟨vs,eL,iL⟩,hl,hC,lens,only,q⟩:=h
 have sz:sizeLine=16777216:=rfl
 have h8:=Pb hr
 have hu:=BG (Bt (by decide:1<=64) _) hr.units
 have nd:=gY hC
 refine⟨_,(HP (IX Ar rfl (NO rfl mr (Ge (HV Kn (pv 0) HR) Gq)) (Hb (i:=2) J3.nd rfl (Or.inl rfl)) (HP (Hi (i:=3) J3.nd rfl (Or.inl rfl) PF)
  (HP (IX Ar rfl (Ig (pv 1)) (JX rfl (IE (Hb (i:=4) J3.nd rfl (Or.inl rfl)) (IE (Hb (i:=5) J3.nd rfl (Or.inl rfl)) JZ))) (HN (QN hu (pv 3) (pv 4) (pv 5) rfl)))
  (HN (IX Ar rfl (Ig (mL rfl h8 rfl mS (pv 3))) (Hb (i:=4) J3.nd rfl (Or.inl rfl)) (HP (Hi (i:=6) J3.nd rfl (Or.inl rfl) (Mh kU rfl ml Cv (Ge (pv 4) Gq)))
  (HP (UG (JH Mq (pv 4) (HV JW (pv 2) HR) (λ_ _=>rfl)) (SV (pv 6) (pv 2) Tx))
  (HP (UG (JH Mq (pv 4) (pv 2) (λ_ _=>rfl)) (SV (pv 6) (HV JW (pv 2) HR) Tx))
  (HN (Ia (ID S8 (Vc hu (pv 3) (Mh Pj rfl mt CJ (Ge (pv 6) Gq)) HR ⟨rfl,rfl,rfl,rfl⟩) (N1 hu (pv 3) (pv 4) (λ_ _=>rfl)) (IA _)) (HN (Hs (Hz (Ge (pv 2) (Ge (IT (ZR rfl hu) rfl mx PyProof.Rows.boot_max (Ge (pv 4) (Ge (Mh Pj rfl mt CJ (Ge (pv 6) Gq)) Gq))) Gq))))) Ip))))))))))
  (HN (Hs Nj))),?_⟩
 refine⟨_,rfl,_,_,rfl,rfl,_,rfl,by lia,by lia,?_⟩
 rw[show((n:Int)-1).toNat=n-1 by lia]
 have lv:=AL iL
 refine ME (lo:=0) (n:=n-1) (λi σ H'=>(∃c2 c3 c4 c5 c6,σ=[some (.int n),some (.ref a),c2,c3,c4,c5,c6])/\Gf H H'/\∀k,k<i->JB ts k=[]) ?_ ?_ ?_
 ·exact⟨⟨_,_,_,_,_,rfl⟩,Gf.refl _,λk hk=>absurd hk (FY _)⟩
 ·rintro k σ H0 hk ⟨⟨c2,c3,c4,c5,c6,rfl⟩,sA,hz⟩
  rw[Dt]
  have kn:k+1<n:=by lia
  refine λd hd=>?_
  have v0:=HH hd (.dT [])
  refine⟨_,rfl,a,rfl,⟨_,HK.of (v0 _ _ (sA _ _ eL))⟩,?_⟩
  refine Jd (xs:=vs) (λj σ H'=>(∃c4 c5,σ=[some (.int n),some (.ref a),some (.int k),some (.ref d),c4,c5,c6])/\Gf H0 H'/\H' d=some (.dT (II (ts.take j)))) ?_ ?_ ?_ ?_
  ·exact⟨⟨_,_,rfl⟩,v0,Gu⟩
  ·rintro j σ H1 _ ⟨_,s1,_⟩
   exact HK.of (s1 _ _ (sA _ _ eL))
  ·rintro j v σ H1 hv ⟨⟨c4,c5,rfl⟩,s1,h1⟩
   obtain⟨t,ht,hi⟩:=Im iL hv
   obtain⟨pt,kt,rfl,hp,hk1⟩:=Jf hi
   have hp1:=s1 _ _ (sA _ _ hp)
   have hkt:=s1 _ _ (sA _ _ hk1)
   have jl:j<ts.length:=(Ab.mp ht).1
   refine⟨pt,_,rfl,HL.of hp1,rfl,_,_,rfl,_,_,rfl,rfl,?_⟩
   refine⟨_,rfl,_,rfl,_,rfl,d,_,rfl,Ix.t (k:=t.1.map Sum.inl) h1 (by rw[J7];exact hkt) ?_,⟨_,_,rfl⟩,Kc hd s1 _,?_⟩
   ·rw[Qn,Ah]
    lia
   ·rw[Gu,V9,Xv (cJ nd ht),JF ht]
  rintro σ H1 ⟨⟨c4',c5',rfl⟩,s1,h1⟩
  rw[Af (by lia)]at h1
  refine⟨_,rfl,d,ts,rfl,.inl h1,λt ht z=>?_,λps us l' hps pm so it=>?_⟩
  ·have:=lens t ht
   rw[z]at this
   simp at this
   lia
  have v2:=HH hps (.lst us)
  have lu:=AL it
  refine⟨ps,rfl,⟨_,HK.of Gu⟩,?_⟩
  have z2:Gf H (Gi H1 ps (.lst us)):=sA.trans (s1.trans v2)
  have hps2:Gi H1 ps (.lst us) ps=some (.lst us):=Gu
  have h2:=v2 _ _ h1
  have it2:Hc (Gi H1 ps (.lst us)) us l':=Hc.mono (HZ.same v2) it
  generalize Gi H1 ps (.lst us)=H2 at *
  refine Jd (xs:=us) (λj σ H'=>(∃c4 c6,σ=[some (.int n),some (.ref a),some (.int k),some (.ref d),c4,c5',c6])/\Gf H2 H'/\∀m q,m<j->l'[m]?=some q->cf ts (swp q k)=cf ts q) ?_ ?_ ?_ ?_
  ·exact⟨⟨_,_,rfl⟩,Gf.refl _,λm q hm=>absurd hm (FY _)⟩
  ·rintro j σ H3 _ ⟨_,s3,_⟩
   exact HK.of (s3 _ _ hps2)
  ·rintro j v σ H3 hv ⟨⟨c4,c6',rfl⟩,s3,hm⟩
   obtain⟨r,hr1,hi⟩:=Im it2 hv
   obtain⟨kq,rfl,hkq⟩:=JE hi
   have hkq:=s3 _ _ hkq
   have h3:=s3 _ _ h2
   obtain⟨t,ht,et⟩:=AV.mp (pm.mem_iff.mp (Ad hr1))
   have lr:r.length=n:=by rw[<-et];exact lens t ht
   have lsw:(swp r k).length=n:=(O4 (by lia)).trans lr
   have e1:(k:Int)+1=((k+1:Nat):Int):=by lia
   refine⟨_,rfl,kq,_,rfl,.inr (HL.of hkq),λlh gh=>?_⟩
   have v4:=HH gh (.lst (r.map V.int))
   refine⟨_,rfl,_,rfl,_,_,rfl,rfl,kq,_,_,.int (r.getD (k+1) 0),rfl,rfl,HL.of (v4 _ _ hkq),by rw[e1];exact Q3 (by lia),?_⟩
   refine⟨_,rfl,_,rfl,lh,_,_,k,rfl,rfl,Gu,TU (by rw[AB];lia),?_⟩
   have hkq4:Gi (Gi H3 lh (.lst (r.map V.int))) lh (.lst ((r.map V.int).set k (.int (r.getD (k+1) 0)))) kq=some (.tup (r.map V.int)):=Kc gh (Gf.refl _ |>.trans v4) _ _ _ hkq
   refine⟨_,rfl,_,rfl,kq,_,_,.int (r.getD k 0),rfl,rfl,HL.of hkq4,Q3 (by lia),?_⟩
   refine⟨_,rfl,_,rfl,_,_,rfl,rfl,lh,_,_,k+1,rfl,(by show V.int ((k:Int)+1)=V.int ((k+1:Nat):Int);rw[e1]),Gu,TU (by rw[List.length_set,AB];lia),?_⟩
   rw[UY (by lia)]
   have v5:Gf H3 (Gi (Gi (Gi H3 lh (.lst (r.map V.int))) lh (.lst ((r.map V.int).set k (.int (r.getD (k+1) 0))))) lh (.lst ((swp r k).map V.int))):=Kc gh (Kc gh v4 _) _
   have hlh:Gi (Gi (Gi H3 lh (.lst (r.map V.int))) lh (.lst ((r.map V.int).set k (.int (r.getD (k+1) 0))))) lh (.lst ((swp r k).map V.int)) lh=some (.lst ((swp r k).map V.int)):=Gu
   generalize Gi (Gi (Gi H3 lh (.lst (r.map V.int))) lh (.lst ((r.map V.int).set k (.int (r.getD (k+1) 0))))) lh (.lst ((swp r k).map V.int))=H5 at *
   have h5:=v5 _ _ h3
   refine⟨_,rfl,d,rfl,.inr ⟨_,.inl h5⟩,_,rfl,lh,_,rfl,.inl ⟨HK.of hlh,λt2 g2=>?_⟩⟩
   have v6:=HH g2 (.tup ((swp r k).map V.int))
   have h6:=v6 _ _ h5
   have ga:=IR.t (b:=t2) (k:=(swp r k).map Sum.inl) h6 (by rw[J7];exact Gu)
   have gb:=IR.t (b:=kq) (k:=r.map Sum.inl) h6 (by rw[J7];exact v6 _ _ (v5 _ _ hkq))
   rw[Ng]at ga gb
   have cr:IU ts r=some (cf ts r):=by
    have hc:=Sx nd r
    obtain⟨m,hm'⟩:=gI (d:=ts) (p:=r) (AV.mpr ⟨t,ht,et⟩)
    rw[hm']at hc ⊢
    rw[<-hc]
    rfl
   rw[cr]at gb
   have ev:((IU ts (swp r k)).map V.int).getD (.int 0)=.int (cf ts (swp r k)):=by
    rw[<-Sx nd (swp r k)]
    cases IU ts (swp r k)<;>rfl
   refine⟨_,ga,_,rfl,_,rfl,d,.int (cf ts r),rfl,gb,by rw[ev];rfl,_,rfl,?_⟩
   rw[ev]
   by_cases ce:cf ts (swp r k)=cf ts r
   ·refine Ld (by rw[ce,AX rfl];rfl) ?_
    refine⟨⟨_,_,rfl⟩,s3.trans (v5.trans v6),λm q' hm' hq'=>?_⟩
    by_cases em:m=j
    ·subst em
     rw[hr1]at hq'
     cases hq'
     exact ce
    ·exact hm m q' (by lia) hq'
   ·refine Z0 (by rw[AN (λz=>ce (by injection z))];rfl) ?_
    have v56:=v5.trans v6
    refine⟨_,rfl,_,rfl,_,rfl,lh,_,rfl,.inl ⟨HK.of (v6 _ _ hlh),λt3 g3=>?_⟩⟩
    have v7:=HH g3 (.tup ((swp r k).map V.int))
    have hkq7:=v7 _ _ (v56 _ _ hkq)
    refine⟨kq,t3,r,swp r k,rfl,HL.of hkq7,HL.of Gu,IV,λt4 g4=>?_⟩
    have v8:=HH g4 (.tup [.int k,if HT.lexLt r (swp r k)=true then .ref t3 else .ref kq])
    obtain⟨t,rr,eu,ek⟩:=oC kn lens lr ce (only k kn)
    refine q (.ref t4) (some (k,t.1)) _ (z2.trans (s3.trans (v56.trans (v7.trans v8)))) ⟨by lia,hz,t,rr,eu,rfl⟩ ?_
    rw[ek,<-SO]
    by_cases cl:HT.lexLt r (swp r k)=true
    ·simp only[AH cl]at v8 ⊢
     exact⟨t4,t3,rfl,Gu,v8 _ _ Gu⟩
    ·simp only[AE cl]at v8 ⊢
     exact⟨t4,kq,rfl,Gu,v8 _ _ hkq7⟩
  ·rintro σ H3 ⟨⟨c4,c6',rfl⟩,s3,hm⟩
   refine⟨⟨_,_,_,_,_,rfl⟩,z2.trans s3,λj hj=>?_⟩
   by_cases ej:j=k
   ·subst ej
    refine T5 kn lens λr hr=>?_
    obtain⟨i,hi⟩:=List.getElem?_of_mem (pm.mem_iff.mpr hr)
    exact hm i r (by have:=(Ab.mp hi).1;lia) hi
   ·exact hz j (by lia)
 ·rintro σ H1 ⟨⟨c2,c3,c4,c5,c6,rfl⟩,s1,hz⟩
  exact q .non none H1 s1 hz rfl
end
section
variable{P:Program}{w:World}{K:W.Frag}{mg:Str->Option Value}{base:Heap}{f g:Addr}{fd gd:FuncData}
theorem T8{n k:Nat}(hk:k+1<n){q:Pw}(hq:q.length=n):∀{ts:List Gb},(∀t∈ts,t.1.length=n)->cf (Jg ts k) q=cf ts (swp q k)
 |[],_=>rfl
 |t::r,h=>by
  have ih:=T8 hk hq (ts:=r) λu hu=>h u (AK _ hu)
  have ht:=h t (AJ ..)
  show(if swp t.1 k=q then t.2 else 0)+cf (Jg r k) q=(if t.1=swp q k then t.2 else 0)+cf r (swp q k)
  rw[ih]
  by_cases c:t.1=swp q k
  ·rw[AH c,AH (by rw[c];exact Lp (by lia))]
  ·rw[AE c,AE (λz=>c (by rw[<-z];exact(Lp (by lia)).symm))]
theorem OT{n k:Nat}{ts:List Gb}(h:Hm n ts)(l:∀t∈ts,t.1.length=n)(hk:k+1<n){q:Pw}(hq:q.length=n):cf ts (swp q k)=cf ts q:=by
 have e:=congrArg (λf=>cf f q) (h k hk)
 simp only[Jo]at e
 rw[T8 hk hq l]at e
 exact e
theorem Kt(f:List Gb):scl 1 f=f:=by
 unfold scl
 induction f with
 |nil=>rfl
 |cons t f ih =>
  rw[Ae,ih,Fh]
abbrev Lh(ts:List Gb)(p:Pw):List Gb:=norm (([]++scl 1 ts)++scl 1 [(p,1)])
theorem VI(ts:List Gb)(p q:Pw):cf (Lh ts p) q=cf ts q+if p=q then 1 else 0:=by
 rw[Jo,Pp,CN,Kt,Kt]
 show cf ts q+((if p=q then 1 else 0)+0)=_
 lia
theorem Tf{n:Nat}{ts:List Gb}{p:Pw}(l:∀t∈ts,t.1.length=n)(hp:p.length=n):∀t∈Lh ts p,t.1.length=n:=λt ht=>by
 obtain⟨u,hu,e⟩:=J1 ht
 rw[<-e]
 rw[CN,Kt,Kt]at hu
 rcases Aq.mp hu with hu|hu
 ·exact l u hu
 ·rw[AS.mp hu];exact hp
theorem Zh(ts:List Gb)(p:Pw):(Lh ts p).length<=ts.length+1:=by
 refine BE (NF _) ?_
 rw[CN,Kt,Kt,AI]
 exact AG _
theorem ZX{n:Nat}{ts:List Gb}{p:Pw}(h:Hm n ts)(l:∀t∈ts,t.1.length=n):∀k,k+1<n->∀r:Pw,r.length=n->cf (Lh ts p) r≠cf (Lh ts p) (swp r k)->r=p∨r=swp p k:=λk hk r hr hd=>by
 rw[VI,VI,OT h l hk hr]at hd
 by_cases c:p=r
 ·exact .inl c.symm
 ·by_cases c2:p=swp r k
  ·right
   rw[c2]
   exact(Lp (by lia)).symm
  ·rw[AE c,AE c2]at hd
   exact absurd rfl hd
theorem SI:∀{k:Nat}{p:List Int},k+1<p.length->(swp p k).getD k 0=p.getD (k+1) 0
 |0,x::y::r,_=>by rw[Lj];rfl
 |k+1,x::p,h=>by
  rw[Ll]
  exact SI (k:=k) (p:=p) (by simpa using h)
theorem RF{p:List Int}(h:∀k,k+1<p.length->swp p k=p):∀j,j<p.length->p.getD j 0=p.getD 0 0
 |0,_=>rfl
 |j+1,hj=>by
  rw[<-RF h j (by lia),<-SI hj,h j hj]
theorem cB{n:Nat}{ts:List Gb}{p:Pw}(h:Hm n ts)(l:∀t∈ts,t.1.length=n)(hp:p.length=n)(n2:2<=n)(h0:p.getD 0 0≠p.getD (n-1) 0):¬ Jv (Lh ts p) (n-1) none:=λz=>by
 refine h0 (RF (p:=p) (λk hk=>?_) (n-1) (by lia)).symm
 have e:=QA (ts:=Lh ts p) (by lia) hp (Tf l hp) (k:=k)
 rw[z k (by lia),VI,VI,AH rfl,OT h l (by lia) hp]at e
 by_cases c:p=swp p k
 ·exact c.symm
 ·rw[AE c]at e
  have e':(0:Int)=cf ts p+1-(cf ts p+0):=e
  lia
theorem W5{n:Nat}{ts:List Gb}(h:Hm n ts)(l:∀t∈ts,t.1.length=n):Jv ts (n-1) none:=λk hk=>T5 (n:=n) (by lia) l λq hq=>by
 obtain⟨t,ht,rfl⟩:=AV.mp hq
 exact OT h l (by lia) (l t ht)
end
section
variable{P:Program}{w:World}{K:W.Frag}{mg:Str->Option Value}{base:Heap}{f g:Addr}{fd gd:FuncData}
abbrev CE:=Bool×Int×Nat×Pos×Pos
def Pm:CE->Expr
 |(false,n,j,p,_)=>.Constant (.int n) j p
 |(true,n,j,p,p')=>.UnaryOp .USub (.Constant (.int n) j p) p'
def U8:CE->Int
 |(false,n,_)=>n
 |(true,n,_)=>-n
theorem fY{X:Cx}:∀q:CE,PE X (Pm q) (λσ H Q=>Q (.int (U8 q)) H)
 |(false,n,j,p,p')=>HR
 |(true,n,j,p,p')=>λFo s σ H Q I h=>(Na Nb HR) Fo s σ H Q I ⟨n,rfl,h⟩
theorem Z3{env:Env}{es:List Expr}:∀q:CE,starEach (Pm q::es) env=(false,eval (Pm q) env)::starEach es env
 |(false,n,j,p,p')=>rfl
 |(true,n,j,p,p')=>rfl
theorem QQ{X:Cx}:∀qs:List CE,PA X (qs.map Pm) (λσ H Q=>Q (qs.map λq=>V.int (U8 q)) H)
 |[]=>Gq
 |q::r=>λpos Fo s σ H Q I h=>(Ge (X:=X) (e:=Pm q) (fY q) (QQ r) (Z3 q)) pos Fo s σ H Q I h
def Wf:List (List V)->TA
 |[],_,H,Q=>Q [] H
 |vs::r,σ,H,Q=>vs.length<=sizeLine/\∀p,H p=none->Wf r σ (Gi H p (.tup vs)) λus H2=>Q (.ref p::us) H2
abbrev ZC:=List CE×Nat×Pos
def WG(x:ZC):Expr:=.Tuple (x.1.map Pm) x.2.1 x.2.2
theorem Rp{X:Cx}:∀xs:List ZC,PA X (xs.map WG) (Wf (xs.map λx=>x.1.map λq=>V.int (U8 q)))
 |[]=>Gq
 |x::r=>λpos Fo s σ H Q I h=>(Ge (X:=X) (e:=WG x) (Hz (QQ x.1)) (Rp r) rfl) pos Fo s σ H Q I h
theorem SS{X:Cx}{i:Nat}{x:Str}{pos' pl pos p2:Pos}{ix:Expr}{tix:TE}(xs:List ZC)(hN:X.N.Nodup)(hi:X.N[i]?=some x)(hx:Loc X.env.scope x)(hf:X.fn x=true∨X.env.scope.names.lookup x=some .local)(hix:PE X ix tix)(hp:Qo ix) :
  Kf (PS X (.Assign [.Name x pos'] (.Subscript (.List (xs.map WG) pl) ix p2) pos) (O7 (SU (T7 X.K) (RK (Wf (xs.map λx=>x.1.map λq=>V.int (U8 q)))) tix) (JA i))):=by
 unfold Kf
 exact Hi hN hi hx (JH KU (Hy (Rp xs)) hix hp) rfl hf
theorem jN{X:Cx}{st:Stmt}{HU:List Stmt}{t u:TS}(h1:Kf (PS X st t))(h2:Kf (Ii X HU u)):Kf (Ii X (st::HU) (MR t u)):=by
 unfold Kf at h1 h2 ⊢
 exact HP h1 h2
theorem Yn{H0 H H':Hp}{d:Addr}(hd:H0 d=none)(s:Gf H0 H)(bt:∀b o,b≠d->H b=some o->H' b=some o):Gf H0 H':=λb o e=>bt b o (λz=>by rw[z,hd]at e;cases e) (s b o e)
abbrev nL:List Str:=["_law_script", "_law_many", "_law_some", "_law_cell_here", "_law_powers", "_law_bent", "_law_due_here", "_law_count", "_law_row", "_law_none", "_law_handed", "_law_which"]
abbrev bL:List Str:=["_law_k", "_law_cell_here"]
theorem rH:bL.Nodup:=by decide +kernel
theorem Kq:Gj nL ["_law_script"] (HW MZ):=Hx
def MH(K:W.Frag):Sp:=λvs H Q _=>∃(a:Addr)(ns:List Int),vs=[.ref a]/\HK K H a (ns.map V.int)/\ns.length<=63/\∀H',Q (.bl true) H'
theorem nX{C0 cBR cBC C:Addr}{ds:List Addr}(F:Hg K "law" "law" MZ f fd)(GC:Hd P w K mg base 14 "_law_cell" nC (P5 K))(GV:Hd P w K mg base 14 "_law_even" WV (RW K))(GP:Hd P w K mg base 14 "_law_put" VN N4)(GN:Hd P w K mg base 14 "_law_plain" ["_law_total"] N5)(GD:Hd P w K mg base 14 "_law_due" Z2 QZ)(GF:Hd P w K mg base 14 "_law_flags" LX (UH K ds C0 cBR cBC C))(GX:Hd P w K mg base 14 "_law_fields" LX RS)
  (tR:Ji K ds C0 cBR ["row"]) (tC:Ji K ds C0 cBC ["count"]) (tU:Ji K ds C0 C ["uneven"]) (mt:mg "tuple" = none) (ml:mg "list" = none) (mr:mg "range" = none):Gw P w K mg base Hk 15 f fd ["_law_script"] (MH K):=by
 refine IJ F Kq λHQ A outer s H vs Q E hr h=>?_
 obtain⟨a0,ns,rfl,hS,h63,q⟩:=h
 have sz:sizeLine=16777216:=rfl
 have hM:=BG (Bt (by decide:Dat.dep Gb+1<=64) _) hr.units
 have hX:=BG (Bt (by decide:Dat.dep Str+1<=64) _) hr.units
 have hP:=BG (Bt (by decide:max (Dat.dep Int) (Dat.dep (List Int))+1<=64) _) hr.units
 refine⟨_,(HP (Hi (i:=1) Kq.nd rfl (Or.inl rfl) (HV JW HR (HV KM (Hq GC hr rfl (Ge (pv 0) (Ge HR Gq))) HR)))
  (HP (Hi (i:=2) Kq.nd rfl (Or.inl rfl) (Hq GV hr rfl (Ge (pv 0) (Ge HR (Ge (pv 1) (Ge HR (Ge (HV Rf HR HR) Gq)))))))
  (HP (Hi (i:=3) Kq.nd rfl (Or.inr rfl) (Hq GC hr rfl (Ge (pv 0) (Ge HR Gq))))
  (HP (Hi (i:=4) Kq.nd rfl (Or.inl rfl) (Mh Pj rfl mt CJ (Ge (HV Lm (HV Lm (Hy (Ge (HV JW HR (HV KM (pv 3) HR)) Gq)) (JO (N':=bL) (src:=[none,some 3]) rfl (NO rfl mr (Ge (HV Kn (pv 1) HR) Gq)) (I0 (HW MZ) nL (by decide +kernel)) (λb=>Hb (i:=0) rH rfl (Or.inl rfl)) (λb=>Jh) (λb=>(HV KM (HV Mx (pv 1) (HV JW HR (HV jU HR (pv 0)))) HR)))) (Hy (Ge HR Gq))) Gq)))
  (HP (Hi (i:=5) Kq.nd rfl (Or.inl rfl) (Hq GN hr rfl (Ge (Hq GP hr rfl (Ge (Hq GP hr rfl (Ge PF (Ge (pv 2) (Ge HR Gq)))) (Ge (Hy (Ge (Hz (Ge (pv 4) (Ge HR Gq))) Gq)) (Ge HR Gq)))) Gq)))
  (HP (Hi (i:=6) Kq.nd rfl (Or.inl rfl) (Hq GD hr rfl (Ge (pv 1) (Ge (pv 5) Gq))))
  (QM (Hi (i:=7) Kq.nd rfl (Or.inl rfl) (JH KU (Hy (Ge HR (Ge HR (Ge (HV Kn (Na Nb HR) (HV KM (pv 3) HR)) (Ge (HV JW HR (HV Nk (pv 3) (HV Rf HR HR))) Gq))))) (HV KM (HV Mx (pv 3) HR) HR) (λ_ _=>rfl))) (jN (SS (i:=8) [([(false,_,_,_,⟨0,0,0,0⟩),(false,_,_,_,⟨0,0,0,0⟩)],_,_),([(false,_,_,_,⟨0,0,0,0⟩)],_,_),([],_,_),([(false,_,_,_,⟨0,0,0,0⟩),(false,_,_,_,⟨0,0,0,0⟩)],_,_)] Kq.nd rfl (Or.inl rfl) (Or.inr rfl) (HV KM (HV Mx (pv 3) HR) HR) (λ_ _=>rfl)) (QT (SS (i:=9) [([(false,_,_,_,⟨0,0,0,0⟩),(false,_,_,_,⟨0,0,0,0⟩)],_,_),([(false,_,_,_,⟨0,0,0,0⟩)],_,_),([(false,_,_,_,⟨0,0,0,0⟩)],_,_),([(false,_,_,_,⟨0,0,0,0⟩),(true,_,_,_,_)],_,_),([(false,_,_,_,⟨0,0,0,0⟩),(false,_,_,_,⟨0,0,0,0⟩)],_,_)] Kq.nd rfl (Or.inl rfl) (Or.inr rfl) (HV KM (HV Mx (pv 3) HR) HR) (λ_ _=>rfl)) (HP (Hi (i:=10) Kq.nd rfl (Or.inl rfl) (Mh kU rfl ml Cv (Ge (pv 5) Gq)))
  (HP (IX Ar rfl (NO rfl mr (Ge HR Gq)) (Hb (i:=11) Kq.nd rfl (Or.inl rfl)) (HP (Ia (PW.pt (UF (ID (Lx (α:=Str) hX) (Hq GF hr rfl (Ge (pv 11) (Ge (pv 1) (Ge (pv 10) Gq)))) (Hy (Ge Km Gq)) (IA _)) (S5 (ID (aY (α:=Int) (β:=List Int) hP) (Hq GX hr rfl (Ge (pv 11) (Ge (pv 1) (Ge (pv 10) Gq)))) (pv 6) (IA _))))) (HN (Hs O6)) Ip)
  (HP (Ia (PW.pt (UF (ID (Lx (α:=Str) hX) (Hq GF hr rfl (Ge (pv 11) (Ge (pv 7) (Ge (pv 10) Gq)))) (Hy (Ge Km Gq)) (IA _)) (S5 (ID (Lx (α:=Str) hX) (Hq GF hr rfl (Ge (pv 11) (Ge (pv 7) (Ge (Hy Gq) Gq)))) (Hy (Ge Km Gq)) (IA _))))) (HN (Hs O6)) Ip)
  (HN (Ia (ID (Lx (α:=Str) hX) (Hq GF hr rfl (Ge (pv 11) (Ge (pv 1) (Ge (pv 2) Gq)))) (Hy Gq) (IA _)) (HN (Hs O6)) Ip)))))
  (HP (IX Ar rfl (VX rfl mr (Ge HR (Ge HR Gq))) (Hb (i:=11) Kq.nd rfl (Or.inl rfl)) (HP (Ia (PW.pt (UF (ID (Lx (α:=Str) hX) (Hq GF hr rfl (Ge (pv 11) (Ge (pv 1) (Ge (pv 9) Gq)))) (Hy (Ge Km Gq)) (IA _)) (S5 (ID (Lx (α:=Str) hX) (Hq GF hr rfl (Ge (pv 11) (Ge (pv 7) (Ge (pv 9) Gq)))) (Hy (Ge Km Gq)) (IA _))))) (HN (Hs O6)) Ip)
  (HN (Ia (PW.pt (UF (ID (Lx (α:=Str) hX) (Hq GF hr rfl (Ge (pv 11) (Ge (pv 7) (Ge (pv 8) Gq)))) (Hy (Ge Km Gq)) (IA _)) (S5 (ID (Lx (α:=Str) hX) (Hq GF hr rfl (Ge (pv 11) (Ge (pv 1) (Ge (pv 8) Gq)))) (Hy Gq) (IA _))))) (HN (Hs O6)) Ip))))
  (HN (Hs (YG (Zp (α:=Gb) hM) (pv 10) (pv 5) (IA _)))))))))))))))),?_⟩
 have cn:∀k,0<=Ky ns k/\Ky ns k<2147483647:=λk=>by
  unfold Ky
  split
  ·exact⟨CF _ (by decide),CI _ (by decide)⟩
  ·decide
 obtain⟨n,hn,n2,n4⟩:∃n:Nat,2+Ky ns 0%3=n/\2<=n/\n<=4:=by
  have h0:=CF (Ky ns 0) (show(3:Int)≠0 by decide)
  have h1:=CI (Ky ns 0) (show(0:Int)<3 by decide)
  exact⟨(2+Ky ns 0%3).toNat,by lia,by lia,by lia⟩
 refine⟨_,rfl,a0,ns,0,rfl,hS,_,_,rfl,rfl,(by show(0:Int)<3;decide),_,_,rfl,rfl,?_⟩
 show JA 1 (V.int (2+Ky ns 0%3)) _ _ _
 rw[hn]
 refine⟨_,rfl,_,rfl,_,_,rfl,rfl,⟨by decide,by decide,by decide⟩,a0,ns,n,3,_,rfl,hS,h63,by lia,n4,by decide,by decide,by decide,λls H1 ts f1 s1 hL hC hE hD=>?_⟩
 have few:=Vk hC hD (by lia) n4
 refine⟨_,rfl,a0,ns,9,rfl,s1.seq hS,?_⟩
 obtain⟨c0,c1⟩:=cn 9
 show JA 3 (V.int (Ky ns 9)) _ _ _
 generalize Ky ns 9=c at *
 refine⟨_,rfl,_,_,rfl,rfl,(by show(0:Int)<3;decide),_,_,rfl,rfl,IH,λq1 g1=>?_⟩
 have v1:=HH g1 (.lst [V.int (1+c%3)])
 refine⟨_,rfl,_,_,rfl,rfl,_,rfl,by lia,by lia,λbk D hD2=>?_⟩
 rw[show((n:Int)-2).toNat=n-2 by lia]
 refine nW (α:=Int) hD2 (λσ=>∃e,σ=[e,some (.int c)]) (λi=>some (c / (3+2*(0+(i:Int)))%2)) (small (by lia)) ⟨_,rfl⟩ ?_ ?_
 ·rintro i σ H2 Yes No hi ⟨e,rfl⟩ s2 yes no
  refine L6 ?_
  refine⟨_,rfl,_,rfl,_,_,rfl,rfl,?_,_,_,rfl,rfl,_,_,rfl,rfl,⟨by lia,by lia⟩,_,_,rfl,rfl,(by show(0:Int)<2;decide),?_⟩
  ·exact .inl ⟨by decide,by decide⟩
  ·exact yes _ _ _ _ ⟨_,rfl⟩ (Gf.refl _) rfl rfl
 rintro H2 s2 ⟨bv,eB,iB⟩
 rw[Qg iB]at eB
 have lb:((List.range (n-2)).filterMap λ(i:Nat)=>some (c / (3+2*(0+(i:Int)))%2)).length=n-2:=by rw[A7,AB,Bx]
 generalize ((List.range (n-2)).filterMap λ(i:Nat)=>some (c / (3+2*(0+(i:Int)))%2))=bits at *
 clear iB
 refine⟨q1,D,_,_,rfl,rfl,s2 _ _ Gu,eB,by rw[AB];show 1+_<=_;lia,λq2 g2=>?_⟩
 have v2:=HH g2 (.lst ([V.int (1+c%3)]++bits.map V.int))
 refine⟨IH,λq3 g3=>?_⟩
 have v3:=HH g3 (.lst [V.int 0])
 refine⟨q2,q3,_,_,rfl,rfl,v3 _ _ Gu,Gu,by rw[AI,AB];show 1+_+1<=_;lia,λq4 g4=>?_⟩
 have v4:=HH g4 (.lst ([V.int (1+c%3)]++bits.map V.int++[V.int 0]))
 refine⟨q4,_,rfl,.inl ⟨HK.of Gu,λt0 g0=>?_⟩⟩
 have v5:=HH g0 (.tup ([V.int (1+c%3)]++bits.map V.int++[V.int 0]))
 obtain⟨p,hp⟩:∃p:List Int,p=(1+c%3)::(bits++[0]):=⟨_,rfl⟩
 have ep:[V.int (1+c%3)]++bits.map V.int++[V.int 0]=p.map V.int:=by
  rw[hp]
  simp
 have lp:p.length=n:=by
  rw[hp]
  simp
  lia
 have p0:p.getD 0 0≠p.getD (n-1) 0:=by
  have e1:p.getD (n-1) 0=0:=by
   rw[hp,Av,show n-1=bits.length+1 by lia,FR,C6 (AG _),HB]
   rfl
  have e2:p.getD 0 0=1+c%3:=by rw[hp];rfl
  have:=CF c (show(3:Int)≠0 by decide)
  lia
 have z5:Gf H1 (Gi (Gi (Gi (Gi H2 q2 (.lst ([V.int (1+c%3)]++bits.map V.int))) q3 (.lst [V.int 0])) q4 (.lst ([V.int (1+c%3)]++bits.map V.int++[V.int 0]))) t0 (.tup ([V.int (1+c%3)]++bits.map V.int++[V.int 0]))):=v1.trans (s2.trans (v2.trans (v3.trans (v4.trans v5))))
 have h5:Gi (Gi (Gi (Gi H2 q2 (.lst ([V.int (1+c%3)]++bits.map V.int))) q3 (.lst [V.int 0])) q4 (.lst ([V.int (1+c%3)]++bits.map V.int++[V.int 0]))) t0 (.tup ([V.int (1+c%3)]++bits.map V.int++[V.int 0])) t0=some (.tup (p.map V.int)):=by rw[<-ep];exact Gu
 show JA 4 (.ref t0) _ (Gi (Gi (Gi (Gi H2 q2 (.lst ([V.int (1+c%3)]++bits.map V.int))) q3 (.lst [V.int 0])) q4 (.lst ([V.int (1+c%3)]++bits.map V.int++[V.int 0]))) t0 (.tup ([V.int (1+c%3)]++bits.map V.int++[V.int 0]))) _
 generalize Gi (Gi (Gi (Gi H2 q2 (.lst ([V.int (1+c%3)]++bits.map V.int))) q3 (.lst [V.int 0])) q4 (.lst ([V.int (1+c%3)]++bits.map V.int++[V.int 0]))) t0 (.tup ([V.int (1+c%3)]++bits.map V.int++[V.int 0]))=H5 at *
 clear v1 v2 v3 v4 v5 s2 eB g0 g1 g2 g3 g4 hp ep lb
 have lens:=hD.len
 refine λd gd=>⟨_,rfl,d,ls,1,[],ts,rfl,Gu,(hL.mono z5).mono (HH gd _),?_,(JM (show(1:Int).natAbs<2^1 by decide) (by decide)),λt ht=>?_,λH6 b6 h6=>?_⟩
 ·show 0+ts.length<=100000
  lia
 ·exact JM (hD.num t ht) (by decide)
 have z6:Gf H5 H6:=Yn gd (HH gd (.dT [])) b6
 refine⟨_,rfl,IV,λtq gq=>⟨IH,λlq glq=>?_⟩⟩
 have v7:=HH gq (.tup [.ref t0,.int 1])
 have v8:=HH glq (.lst [.ref tq])
 have lds:=ON ([]++scl 1 ts)
 rw[CN,Ly]at lds
 refine⟨d,lq,1,[]++scl 1 ts,[(p,1)],rfl,(v7.trans v8) _ _ h6,⟨[.ref tq],Gu,.cons (JY (t:=(p,1)) (v8 _ _ Gu) ((v7.trans v8) _ _ (z6 _ _ h5))) .nil⟩,?_,(JM (show(1:Int).natAbs<2^1 by decide) (by decide)),λt ht=>?_,λH9 b9 h9=>?_⟩
 ·rw[CN]
  show _+1<=100000
  lia
 ·rw[AS.mp ht]
  exact(JM (show(1:Int).natAbs<2^1 by decide) (by decide))
 have z9:Gf H5 H9:=Yn gd (z6.trans (v7.trans v8)) b9
 refine⟨d,_,rfl,h9,?_,λlb H10 f10 b10 hB=>?_⟩
 ·rw[AI,CN,Ly,Ly]
  show _+1<=100000
  lia
 have z10:Gf H5 H10:=Yn gd z9 b10
 have blen:=Tf lens lp (ts:=ts)
 have bfew:=Zh ts p
 have bodd:=cB hE lens lp n2 p0
 have bonly:=ZX (p:=p) hE lens
 have bcan:HS (Lh ts p):=JI _
 have hB:Gh H10 lb (Lh ts p):=hB
 generalize Lh ts p=bs at *
 have hL10:Gh H10 ls ts:=(hL.mono z5).mono z10
 have zz:Gf H1 H10:=z5.trans z10
 clear z5 z6 z9 z10 b6 b9 b10 h6 h9 v7 v8 h5 gd glq gq
 refine⟨_,rfl,_,rfl,n,lb,bs,p,rfl,by lia,n4,hB,by lia,bcan,blen,bonly,λdv o H11 s11 hu hi=>?_⟩
 match o,hu,hi with
 |none,hu,hi=>exact absurd hu bodd
 |some (k,pp),hu,hi =>
 obtain⟨tv,kv,rfl,htv,hkv⟩:=hi
 have hB11:=hB.mono s11
 have hL11:=hL10.mono s11
 clear hL10 zz
 obtain⟨cnt,aC,hcnt⟩:∃cnt:Int,Jn [V.int 0,V.int 5,V.int (-1-c%9),V.int (5+c*10^(48:Int).toNat)] (c / 100%4)=some (.int cnt)/\¬ (1<=cnt/\cnt<=4):=by
  have h0:=CF (c / 100) (show(4:Int)≠0 by decide)
  have h1:=CI (c / 100) (show(0:Int)<4 by decide)
  have h9:=CF c (show(9:Int)≠0 by decide)
  have hm:0<=c*10^(48:Int).toNat:=Int.mul_nonneg c0 (by decide)
  have:c / 100%4=0∨c / 100%4=1∨c / 100%4=2∨c / 100%4=3:=by lia
  rcases this with e|e|e|e
  ·exact⟨0,by rw[e];rfl,by lia⟩
  ·exact⟨5,by rw[e];rfl,by lia⟩
  ·exact⟨-1-c%9,by rw[e];rfl,by lia⟩
  ·exact⟨5+c*10^(48:Int).toNat,by rw[e];rfl,by lia⟩
 refine⟨_,rfl,_,rfl,_,_,rfl,rfl,(by show(0:Int)<9;decide),_,_,rfl,rfl,_,rfl,_,_,rfl,rfl,⟨by decide,by decide,by decide⟩,_,_,rfl,rfl,⟨?_,?_⟩,_,_,rfl,rfl,qY,λq7 g7=>?_⟩
 ·exact JM (show c.natAbs<2^32 by lia) (by decide)
 ·exact JM (show((10:Int)^(48:Int).toNat).natAbs<2^200 by decide) (by decide)
 have v12:=HH g7 (.lst [V.int 0,V.int 5,V.int (-1-c%9),V.int (5+c*10^(48:Int).toNat)])
 refine⟨_,rfl,_,_,rfl,rfl,⟨by decide,by decide⟩,_,_,rfl,rfl,(by show(0:Int)<4;decide),q7,_,_,.int cnt,rfl,rfl,HK.of Gu,aC,?_⟩
 show JA 7 (.int cnt) _ (Gi H11 q7 (.lst [V.int 0,V.int 5,V.int (-1-c%9),V.int (5+c*10^(48:Int).toNat)])) _
 generalize (Gi H11 q7 (.lst [V.int 0,V.int 5,V.int (-1-c%9),V.int (5+c*10^(48:Int).toNat)]))=H12 at *
 refine⟨IV,λat0 ag0=>⟨IH,λat1 ag1=>⟨Ik,λat2 ag2=>⟨IV,λat3 ag3=>⟨qY,λal agl=>?_⟩⟩⟩⟩⟩
 have aw0:=HH ag0 (.tup [V.int (2),V.int (1)])
 have aw1:=HH ag1 (.tup [V.int (1)])
 have aw2:=HH ag2 (.tup [])
 have aw3:=HH ag3 (.tup [V.int (4),V.int (4)])
 have awl:=HH agl (.lst [.ref at0,.ref at1,.ref at2,.ref at3])
 obtain⟨atr,ar,aat,ahr,arow⟩:∃(tr:Addr)(r:List Int),Jn [V.ref at0,V.ref at1,V.ref at2,V.ref at3] (c / 7%4)=some (.ref tr)/\(Gi (Gi (Gi (Gi (Gi H12 at0 (.tup [V.int (2),V.int (1)])) at1 (.tup [V.int (1)])) at2 (.tup [])) at3 (.tup [V.int (4),V.int (4)])) al (.lst [.ref at0,.ref at1,.ref at2,.ref at3])) tr=some (.tup (r.map V.int))/\Ic r=true/\r.length<=1000:=by
  have h0:=CF (c / 7) (show(4:Int)≠0 by decide)
  have h1:=CI (c / 7) (show(0:Int)<4 by decide)
  have:c / 7%4=0∨c / 7%4=1∨c / 7%4=2∨c / 7%4=3:=by lia
  rcases this with e|e|e|e
  ·exact⟨at0,[2,1],by rw[e];rfl,(aw1.trans (aw2.trans (aw3.trans awl))) _ _ Gu,by decide +kernel,by decide⟩
  ·exact⟨at1,[1],by rw[e];rfl,(aw2.trans (aw3.trans awl)) _ _ Gu,by decide +kernel,by decide⟩
  ·exact⟨at2,[],by rw[e];rfl,(aw3.trans awl) _ _ Gu,by decide +kernel,by decide⟩
  ·exact⟨at3,[4,4],by rw[e];rfl,awl _ _ Gu,by decide +kernel,by decide⟩
 have az:Gf H12 (Gi (Gi (Gi (Gi (Gi H12 at0 (.tup [V.int (2),V.int (1)])) at1 (.tup [V.int (1)])) at2 (.tup [])) at3 (.tup [V.int (4),V.int (4)])) al (.lst [.ref at0,.ref at1,.ref at2,.ref at3])):=(aw0.trans (aw1.trans (aw2.trans (aw3.trans awl))))
 refine⟨_,rfl,_,_,rfl,rfl,⟨by decide,by decide⟩,_,_,rfl,rfl,(by show(0:Int)<4;decide),al,_,_,.ref atr,rfl,rfl,HK.of Gu,aat,?_⟩
 show JA 8 (.ref atr) _ (Gi (Gi (Gi (Gi (Gi H12 at0 (.tup [V.int (2),V.int (1)])) at1 (.tup [V.int (1)])) at2 (.tup [])) at3 (.tup [V.int (4),V.int (4)])) al (.lst [.ref at0,.ref at1,.ref at2,.ref at3])) _
 generalize (Gi (Gi (Gi (Gi (Gi H12 at0 (.tup [V.int (2),V.int (1)])) at1 (.tup [V.int (1)])) at2 (.tup [])) at3 (.tup [V.int (4),V.int (4)])) al (.lst [.ref at0,.ref at1,.ref at2,.ref at3]))=aH at *
 refine⟨IV,λbt0 bg0=>⟨IH,λbt1 bg1=>⟨IH,λbt2 bg2=>⟨IV,λbt3 bg3=>⟨IV,λbt4 bg4=>⟨sW,λbl bgl=>?_⟩⟩⟩⟩⟩⟩
 have bw0:=HH bg0 (.tup [V.int (1),V.int (2)])
 have bw1:=HH bg1 (.tup [V.int (0)])
 have bw2:=HH bg2 (.tup [V.int (9)])
 have bw3:=HH bg3 (.tup [V.int (3),V.int (-1)])
 have bw4:=HH bg4 (.tup [V.int (5),V.int (4)])
 have bwl:=HH bgl (.lst [.ref bt0,.ref bt1,.ref bt2,.ref bt3,.ref bt4])
 obtain⟨btr,br,bat,bhr,brow⟩:∃(tr:Addr)(r:List Int),Jn [V.ref bt0,V.ref bt1,V.ref bt2,V.ref bt3,V.ref bt4] (c / 11%5)=some (.ref tr)/\(Gi (Gi (Gi (Gi (Gi (Gi aH bt0 (.tup [V.int (1),V.int (2)])) bt1 (.tup [V.int (0)])) bt2 (.tup [V.int (9)])) bt3 (.tup [V.int (3),V.int (-1)])) bt4 (.tup [V.int (5),V.int (4)])) bl (.lst [.ref bt0,.ref bt1,.ref bt2,.ref bt3,.ref bt4])) tr=some (.tup (r.map V.int))/\Ic r=false/\r.length<=1000:=by
  have h0:=CF (c / 11) (show(5:Int)≠0 by decide)
  have h1:=CI (c / 11) (show(0:Int)<5 by decide)
  have:c / 11%5=0∨c / 11%5=1∨c / 11%5=2∨c / 11%5=3∨c / 11%5=4:=by lia
  rcases this with e|e|e|e|e
  ·exact⟨bt0,[1,2],by rw[e];rfl,(bw1.trans (bw2.trans (bw3.trans (bw4.trans bwl)))) _ _ Gu,by decide +kernel,by decide⟩
  ·exact⟨bt1,[0],by rw[e];rfl,(bw2.trans (bw3.trans (bw4.trans bwl))) _ _ Gu,by decide +kernel,by decide⟩
  ·exact⟨bt2,[9],by rw[e];rfl,(bw3.trans (bw4.trans bwl)) _ _ Gu,by decide +kernel,by decide⟩
  ·exact⟨bt3,[3,-1],by rw[e];rfl,(bw4.trans bwl) _ _ Gu,by decide +kernel,by decide⟩
  ·exact⟨bt4,[5,4],by rw[e];rfl,bwl _ _ Gu,by decide +kernel,by decide⟩
 have bz:Gf aH (Gi (Gi (Gi (Gi (Gi (Gi aH bt0 (.tup [V.int (1),V.int (2)])) bt1 (.tup [V.int (0)])) bt2 (.tup [V.int (9)])) bt3 (.tup [V.int (3),V.int (-1)])) bt4 (.tup [V.int (5),V.int (4)])) bl (.lst [.ref bt0,.ref bt1,.ref bt2,.ref bt3,.ref bt4])):=(bw0.trans (bw1.trans (bw2.trans (bw3.trans (bw4.trans bwl)))))
 refine⟨_,rfl,_,_,rfl,rfl,⟨by decide,by decide⟩,_,_,rfl,rfl,(by show(0:Int)<5;decide),bl,_,_,.ref btr,rfl,rfl,HK.of Gu,bat,?_⟩
 show JA 9 (.ref btr) _ (Gi (Gi (Gi (Gi (Gi (Gi aH bt0 (.tup [V.int (1),V.int (2)])) bt1 (.tup [V.int (0)])) bt2 (.tup [V.int (9)])) bt3 (.tup [V.int (3),V.int (-1)])) bt4 (.tup [V.int (5),V.int (4)])) bl (.lst [.ref bt0,.ref bt1,.ref bt2,.ref bt3,.ref bt4])) _
 generalize (Gi (Gi (Gi (Gi (Gi (Gi aH bt0 (.tup [V.int (1),V.int (2)])) bt1 (.tup [V.int (0)])) bt2 (.tup [V.int (9)])) bt3 (.tup [V.int (3),V.int (-1)])) bt4 (.tup [V.int (5),V.int (4)])) bl (.lst [.ref bt0,.ref bt1,.ref bt2,.ref bt3,.ref bt4]))=bH at *
 have z14:=v12.trans (az.trans bz)
 have hB14:=hB11.mono z14
 have hL14:=hL11.mono z14
 have htv14:=z14 _ _ htv
 have hkv14:=z14 _ _ hkv
 have har:=bz _ _ ahr
 obtain⟨bvs,eB,iB⟩:=hB14
 refine⟨_,rfl,lb,bvs,rfl,.inl (HK.of eB),λlh gh=>?_⟩
 have v15:=HH gh (.lst bvs)
 have hH:Gh (Gi bH lh (.lst bvs)) lh bs:=⟨bvs,Gu,Hc.mono (HZ.same v15) iB⟩
 have hB15:Gh (Gi bH lh (.lst bvs)) lb bs:=(show Gh bH lb bs from⟨bvs,eB,iB⟩).mono v15
 have hL15:=hL14.mono v15
 have htv15:=v15 _ _ htv14
 have hkv15:=v15 _ _ hkv14
 have har15:=v15 _ _ har
 have hbr15:=v15 _ _ bhr
 show JA 10 (.ref lh) _ (Gi bH lh (.lst bvs)) _
 generalize Gi bH lh (.lst bvs)=H15 at *
 clear v15 hL14 htv14 hkv14 har bhr eB iB z14 az bz v12 hB11 hL11 htv hkv ahr hB
 refine⟨_,rfl,by decide,by decide,?_⟩
 refine ME (lo:=0) (n:=3) (λi σ H'=>(∃c11,σ=[some (.ref a0),some (.int n),some (.ref ls),some (.int c),some (.ref t0),some (.ref lb),some (.ref tv),some (.int cnt),some (.ref atr),some (.ref btr),some (.ref lh),c11])/\Gf H15 H') ?_ ?_ ?_
 ·exact⟨⟨_,rfl⟩,Gf.refl _⟩
 ·rintro i σ H16 hi ⟨⟨c11,rfl⟩,z⟩
  refine⟨_,rfl,_,rfl,_,rfl,some (C,["uneven"]),⟨_,_,_,rfl,.inl ⟨by lia,n,lh,bs,rfl,hH.mono z,by lia,(λw=>absurd ⟨by lia,by lia⟩ w),λ_=>⟨by rw[Aw];exact blen,(λu=>absurd (by rw[Aw]at u;exact u) bodd),λk1 p1 u1 H1 d1 kk1 x1 _ _ _=>⟨⟨_,rfl,rfl⟩,x1⟩⟩⟩⟩,(λx hx=>by cases hx;exact tU),λl0 G0 fl0 sl0 hl0=>?_⟩
  refine⟨IH,λm0 gm0=>?_⟩
  have wm0:=HH gm0 (.lst [V.str (Str.ofString "uneven")])
  refine⟨l0,m0,(["uneven"]:List Str),(["uneven"]:List Str),rfl,rfl,(show Gh G0 l0 (["uneven"]:List Str) from hl0).mono wm0,⟨_,Gu,.cons rfl .nil⟩,_,rfl,Ld (by rw[LD];rfl) ?_⟩
  have zz0:=z.trans (sl0.trans wm0)
  refine⟨_,rfl,_,rfl,_,rfl,_,n,lh,bs,k,pp,rfl,by lia,by lia,n4,hH.mono zz0,by lia,blen,hu,λfv G20 s20 hf=>?_⟩
  obtain⟨ft,fk,rfl,hft,hfk⟩:=hf
  have z20:=zz0.trans s20
  refine⟨_,rfl,((k:Int),pp),((k:Int),pp),⟨ft,_,_,rfl,hft,rfl,Jx hfk⟩,⟨tv,_,_,rfl,z20 _ _ htv15,rfl,Jx (z20 _ _ hkv15)⟩,_,rfl,Ld (by rw[(Dat.eqb_iff ((k:Int),pp) ((k:Int),pp)).mpr rfl];rfl) ?_⟩
  refine⟨_,rfl,_,rfl,_,rfl,some (cBC,["count"]),⟨_,_,_,rfl,.inl ⟨by lia,cnt,lh,bs,rfl,hH.mono z20,by lia,(λ_=>⟨⟨_,rfl,rfl⟩,Gf.refl _⟩),λw=>absurd w hcnt⟩⟩,(λx hx=>by cases hx;exact tC),λl1 G1 fl1 sl1 hl1=>?_⟩
  refine⟨IH,λm1 gm1=>?_⟩
  have wm1:=HH gm1 (.lst [V.str (Str.ofString "count")])
  refine⟨l1,m1,(["count"]:List Str),(["count"]:List Str),rfl,rfl,(show Gh G1 l1 (["count"]:List Str) from hl1).mono wm1,⟨_,Gu,.cons rfl .nil⟩,_,rfl,Ld (by rw[LD];rfl) ?_⟩
  have zz1:=z20.trans (sl1.trans wm1)
  refine⟨_,rfl,_,rfl,Ik,λl0 g0=>?_⟩
  have zl0:=zz1.trans (HH g0 (.lst []))
  refine⟨some (cBC,["count"]),⟨_,_,_,rfl,.inl ⟨by lia,cnt,l0,[],rfl,⟨[],Gu,.nil⟩,by decide,(λ_=>⟨⟨_,rfl,rfl⟩,Gf.refl _⟩),λw=>absurd w hcnt⟩⟩,(λx hx=>by cases hx;exact tC),λl2 G2 fl2 sl2 hl2=>?_⟩
  refine⟨IH,λm2 gm2=>?_⟩
  have wm2:=HH gm2 (.lst [V.str (Str.ofString "count")])
  refine⟨l2,m2,(["count"]:List Str),(["count"]:List Str),rfl,rfl,(show Gh G2 l2 (["count"]:List Str) from hl2).mono wm2,⟨_,Gu,.cons rfl .nil⟩,_,rfl,Ld (by rw[LD];rfl) ?_⟩
  have zz2:=zl0.trans (sl2.trans wm2)
  refine⟨_,rfl,_,rfl,_,rfl,none,⟨_,_,_,rfl,.inl ⟨by lia,n,ls,ts,rfl,hL15.mono zz2,by lia,(λw=>absurd ⟨by lia,by lia⟩ w),λ_=>⟨by rw[Aw];exact lens,(λu=>⟨300,hC,by rw[Aw];exact hE,by rw[Aw];exact hD,by decide,λv H1 x1=>⟨rfl,x1⟩⟩),λk1 p1 u1=>by rw[Aw]at u1;have e1:=(W5 hE lens).one u1;cases e1⟩⟩⟩,(λx hx=>by cases hx),λl3 G3 fl3 sl3 hl3=>?_⟩
  refine⟨Ik,λm3 gm3=>?_⟩
  have wm3:=HH gm3 (.lst [])
  refine⟨l3,m3,([]:List Str),([]:List Str),rfl,rfl,(show Gh G3 l3 ([]:List Str) from hl3).mono wm3,⟨_,Gu,.nil⟩,_,rfl,Ld (by rw[LD];rfl) ?_⟩
  have zz3:=zz2.trans (sl3.trans wm3)
  exact⟨⟨_,rfl⟩,zz3⟩
 rintro σ H17 ⟨⟨c11,rfl⟩,z⟩
 refine⟨_,_,rfl,⟨by decide,by decide,by decide,by decide⟩,?_⟩
 refine ME (lo:=3) (n:=3) (λi σ H'=>(∃c11,σ=[some (.ref a0),some (.int n),some (.ref ls),some (.int c),some (.ref t0),some (.ref lb),some (.ref tv),some (.int cnt),some (.ref atr),some (.ref btr),some (.ref lh),c11])/\Gf H15 H') ?_ ?_ ?_
 ·exact⟨⟨_,rfl⟩,z⟩
 ·rintro i σ H16 hi ⟨⟨c11,rfl⟩,z⟩
  refine⟨_,rfl,_,rfl,_,rfl,some (cBR,["row"]),⟨_,_,_,rfl,.inr ⟨by lia,n,btr,br,rfl,z _ _ hbr15,brow.2,(λ_ H1 x1=>⟨⟨_,rfl,rfl⟩,x1⟩),(λw=>by rw[brow.1]at w;cases w),λw=>by rw[brow.1]at w;cases w⟩⟩,(λx hx=>by cases hx;exact tR),λl4 G4 fl4 sl4 hl4=>?_⟩
  refine⟨IH,λm4 gm4=>?_⟩
  have wm4:=HH gm4 (.lst [V.str (Str.ofString "row")])
  refine⟨l4,m4,(["row"]:List Str),(["row"]:List Str),rfl,rfl,(show Gh G4 l4 (["row"]:List Str) from hl4).mono wm4,⟨_,Gu,.cons rfl .nil⟩,_,rfl,Ld (by rw[LD];rfl) ?_⟩
  have zz4:=z.trans (sl4.trans wm4)
  refine⟨_,rfl,_,rfl,_,rfl,some (cBR,["row"]),⟨_,_,_,rfl,.inr ⟨by lia,cnt,btr,br,rfl,zz4 _ _ hbr15,brow.2,(λ_ H1 x1=>⟨⟨_,rfl,rfl⟩,x1⟩),(λw=>by rw[brow.1]at w;cases w),λw=>by rw[brow.1]at w;cases w⟩⟩,(λx hx=>by cases hx;exact tR),λl5 G5 fl5 sl5 hl5=>?_⟩
  refine⟨IH,λm5 gm5=>?_⟩
  have wm5:=HH gm5 (.lst [V.str (Str.ofString "row")])
  refine⟨l5,m5,(["row"]:List Str),(["row"]:List Str),rfl,rfl,(show Gh G5 l5 (["row"]:List Str) from hl5).mono wm5,⟨_,Gu,.cons rfl .nil⟩,_,rfl,Ld (by rw[LD];rfl) ?_⟩
  have zz5:=zz4.trans (sl5.trans wm5)
  refine⟨_,rfl,_,rfl,_,rfl,some (cBC,["count"]),⟨_,_,_,rfl,.inr ⟨by lia,cnt,atr,ar,rfl,zz5 _ _ har15,arow.2,(λw=>by rw[arow.1]at w;cases w),(λ_ _ H1 x1=>⟨⟨_,rfl,rfl⟩,x1⟩),λ_ w=>absurd w hcnt⟩⟩,(λx hx=>by cases hx;exact tC),λl6 G6 fl6 sl6 hl6=>?_⟩
  refine⟨IH,λm6 gm6=>?_⟩
  have wm6:=HH gm6 (.lst [V.str (Str.ofString "count")])
  refine⟨l6,m6,(["count"]:List Str),(["count"]:List Str),rfl,rfl,(show Gh G6 l6 (["count"]:List Str) from hl6).mono wm6,⟨_,Gu,.cons rfl .nil⟩,_,rfl,Ld (by rw[LD];rfl) ?_⟩
  have zz6:=zz5.trans (sl6.trans wm6)
  refine⟨_,rfl,_,rfl,_,rfl,none,⟨_,_,_,rfl,.inr ⟨by lia,n,atr,ar,rfl,zz6 _ _ har15,arow.2,(λw=>by rw[arow.1]at w;cases w),(λ_ w=>absurd ⟨by lia,by lia⟩ w),λ_ _ v H1 x1=>⟨rfl,x1⟩⟩⟩,(λx hx=>by cases hx),λl7 G7 fl7 sl7 hl7=>?_⟩
  refine⟨Ik,λm7 gm7=>?_⟩
  have wm7:=HH gm7 (.lst [])
  refine⟨l7,m7,([]:List Str),([]:List Str),rfl,rfl,(show Gh G7 l7 ([]:List Str) from hl7).mono wm7,⟨_,Gu,.nil⟩,_,rfl,Ld (by rw[LD];rfl) ?_⟩
  have zz7:=zz6.trans (sl7.trans wm7)
  exact⟨⟨_,rfl⟩,zz7⟩
 rintro σ H18 ⟨⟨c11',rfl⟩,z'⟩
 refine⟨_,rfl,_,rfl,lh,lb,bs,bs,rfl,rfl,hH.mono z',hB15.mono z',?_⟩
 rw[LD]
 exact q _
end
section
variable{P:Program}{w:World}{K:W.Frag}{mg:Str->Option Value}{base:Heap}{f g:Addr}{fd gd:FuncData}
def FQ(K:W.Frag)(n:Str)(st:Stmt):Prop:=∃(f:Addr)(fd:FuncData),W.nsIn K mainGlobals n=some (some (.ref f))/\Hg K n n st f fd
theorem fq_mk{n:Str}{st:Stmt}{f:Addr}{oc:Value}{od an:Option Addr}{osl:Array (Option Value)}{kV doc pm HQ ct:Value}(a:W.nsIn K mainGlobals n=some (some (.ref f)))(l:K.lookup f=some ⟨oc,od,.func (W.fnOf n n (NQ st) (Kz st) (HW st) .none kV doc pm an HQ ct),osl⟩)
  (c:W.codeIn K HQ n=true) (k:W.keepIn K (.ref f)=true):FQ K n st:=⟨f,_,a,Su l c k⟩
theorem FQ.x{n:Str}{st:Stmt}{h:Heap}(q:FQ K n st)(X:K.In h)(G:h.Ns mainGlobals mg):∃f fd,Hg K n n st f fd/\W.keepIn K (.ref f)=true/\mg n=some (.ref f):=by
 obtain⟨f,fd,a,F⟩:=q
 exact⟨f,fd,F,F.kp,BP X G a⟩
def Hr.lift{j k:Nat}{x:Str}{ps:List Str}{sp:Sp}(G:Hr P w K mg base j x ps sp)(h:j<=k):Hr P w K mg base k x ps sp:=⟨G.f,G.fd,G.ok.mono h,G.bd,G.kp,G.at_⟩
def Hr.ql{P:Program}{w:World}{K:W.Frag}{mg:Str->Option Value}{base:Heap}{j k:Nat}{x:Str}{ps:List Str}{sp:Sp}(G:Hr P w K mg base j x ps sp)(h:j<=k:=by decide):Hr P w K mg base k x ps sp:=G.lift h
theorem nV{K:W.Frag}{C:Addr}{ds:List Addr}{bs:List Bool}(h:Paired (λd b=>W.kitOne K (.ref C) (.ref d)=some b) ds bs):Nq K C ds bs:=⟨AL h,λi d b h1 h2=>by
 obtain⟨b',e,q⟩:=Paired.get h h1
 rw[h2]at e
 cases e
 exact q⟩
structure TQ(K:W.Frag)(ds:List Addr)(C C0:Addr)(fl:List Bool):Prop where
 a:W.mroIn K C (.type "object")=some true
 b:W.mroIn K C (.type "BaseException")=some true
 c:W.findIn K (.ref C) "__class__" = some (some (.builtin "object.__class__"))
 d:W.findIn K (.ref C) "__getattribute__" = some (some (.builtin "BaseException.__getattribute__"))
 e:W.findIn K (.ref C) "__getattr__" = some none
 v:W.kitOne K (.ref C) (.type "ValueError")=some true
 w:W.kitOne K (.ref C) (.ref C0)=some true
 n:C≠C0
 s:Paired (λd b=>W.kitOne K (.ref C) (.ref d)=some b) ds fl
theorem TQ.told{ds:List Addr}{C C0:Addr}{fl:List Bool}{nm:List Str}(t:TQ K ds C C0 fl)(e:MD fl=nm)(i:(W.clsIn K C).isSome=true):Ji K ds C0 C nm:=⟨⟨t.a,t.b,t.c,t.d,t.e,i⟩,t.v,⟨fl,nV t.s,e⟩,t.w,t.n⟩
theorem mY{K:W.Frag}{C:Addr}(a:(W.clsIn K C).isSome=true)(b:W.typeIn K (.ref C)=some (.type "type"))(c:W.mroIn K C (.ref C)=some true):W.kitCls K (.ref C) (.ref C)=some true:=by
 unfold W.kitCls
 simp
 exact⟨⟨a,b⟩,c⟩
end
set_option maxHeartbeats 1000000
end L2.K43
namespace L2.Ev
open PySem PySem.Spec PyProof.Rows
open PySem.W PySem.Calls Builtin Builtin.ObjectAttr
section
structure IG(K:Frag)(C C0 fI:Addr)(dd:Option Addr)(cd:ClassData)(sl:Array (Option Value))(o1:Value)(o2:Option Addr)(es:Array DictEntry)(n:Nat)(o3:Array (Option Value)):Prop where
 l:K.lookup C=some ⟨.type "type",dd,.cls cd,sl⟩
 m:cd.mro=[.ref C,.ref C0,.type "ValueError",.type "Exception",.type "BaseException",.type "object"]
 g:cd.hasDel=false/\cd.hasDict=true
 s:(sl.toList.length==6&&sl.toList[4]?==some (some (.builtin "ValueError.__new__")))=true
 d:K.lookup cd.ns=some ⟨o1,o2,.dict es n,o3⟩
 k:(es.toList.all λe=>match e.key with|.str _ _=>true|_=>false)=true
 i:nsIn K cd.ns "__init__" = some (some (.ref fI))
 b:excIn K C0 OL "ValueError.__new__" = true
variable{K:Frag}{C C0 fI:Addr}{dd:Option Addr}{cd:ClassData}{sl:Array (Option Value)}{o1:Value}{o2:Option Addr}{es:Array DictEntry}{n:Nat}{o3:Array (Option Value)}
theorem jG(b:excIn K C0 OL "ValueError.__new__" = true):tailIn K OL (.ref C0::OL)=true:=by
 unfold excIn at b
 unfold tailIn
 rw[Dm]
 right
 split at b
 ·rename_i cd sl ho
  split at b
  ·simp only[AM,E9]at b
   dsimp only
   rw[ho]
   dsimp only
   obtain⟨⟨⟨⟨⟨_,_⟩,_⟩,_⟩,h1⟩,h2⟩:=b
   rw[h1,h2]
   have e:tailIn K OL OL=true:=by
    unfold tailIn
    rw[Dm]
    left
    decide
   rw[e]
   decide
  ·cases b
 ·cases b
theorem IG.cls(p:IG K C C0 fI dd cd sl o1 o2 es n o3):clsIn K C=some cd:=by
 unfold clsIn
 rw[p.l]
theorem IG.some(p:IG K C C0 fI dd cd sl o1 o2 es n o3):(clsIn K C).isSome=true:=by
 rw[p.cls]
 rfl
theorem IG.st(p:IG K C C0 fI dd cd sl o1 o2 es n o3):Md K C=true:=by
 unfold Md
 rw[p.cls]
 show(PU cd.mro&&cd.hasDict)=true
 rw[p.m,p.g.2]
 rfl
theorem IG.j(p:IG K C C0 fI dd cd sl o1 o2 es n o3):MU K C fI=true:=by
 unfold MU
 rw[p.l]
 have hn:nsOkIn K cd.ns=true:=by
  unfold nsOkIn
  rw[p.d]
  show(es.all λe=>match e.key with|.str _ _=>true|_=>false)=true
  rw[<-Array.all_toList]
  exact p.k
 have ht:tailIn K [.type "ValueError",.type "Exception",.type "BaseException",.type "object"] cd.mro.tail=true:=by
  rw[p.m]
  exact jG p.b
 have hm:(cd.mro.head?==Option.some (.ref C))=true:=by
  rw[p.m]
  exact Cp _
 have hi:(nsIn K cd.ns "__init__" == Option.some (Option.some (.ref fI)))=true:=by
  rw[p.i]
  exact Cp _
 show(cd.mro.head?==Option.some (.ref C)&&tailIn K [.type "ValueError",.type "Exception",.type "BaseException",.type "object"] cd.mro.tail&&nsOkIn K cd.ns&&nsIn K cd.ns "__init__" == Option.some (Option.some (.ref fI))&&!cd.hasDel&&(sl.toList.length==6&&sl.toList[4]?==Option.some (Option.some (.builtin "ValueError.__new__"))))=true
 rw[hm,ht,hn,hi,p.g.1,p.s]
 rfl
end
set_option maxHeartbeats 4000000
end L2.Ev
namespace L2.K43
open PySem
open L2.Pl L2.Ev
theorem Lw{α:Type}{C:List α->Prop}(h:∀a0,C [a0]):∀us:List α,us.length=1->C us
 |[a0],_=>h a0
theorem Vq{α:Type}{C:List α->Prop}(h:∀a0 a1,C [a0,a1]):∀us:List α,us.length=2->C us
 |[a0,a1],_=>h a0 a1
theorem Oy{α:Type}{C:List α->Prop}(h:∀a0 a1 a2,C [a0,a1,a2]):∀us:List α,us.length=3->C us
 |[a0,a1,a2],_=>h a0 a1 a2
theorem qE{α:Type}{C:List α->Prop}(h:∀a0 a1 a2 a3 a4,C [a0,a1,a2,a3,a4]):∀us:List α,us.length=5->C us
 |[a0,a1,a2,a3,a4],_=>h a0 a1 a2 a3 a4
theorem FQ.g{P:Program}{w:World}{K:W.Frag}{mg:Str->Option Value}{base:Heap}{n:Str}{st:Stmt}{ps:List Str}{sp:Sp}{k:Nat}{h:Heap}(q:FQ K n st)(X:K.In h)(G:h.Ns mainGlobals mg)(ok:∀f fd,Hg K n n st f fd->Gw P w K mg base Hk k f fd ps sp)(b:∀(kV doc pm:Value)(an:Option Addr)(HQ ct:Value)(us:List Value),us.length=ps.length->bindArgs (W.fnOf n n (NQ st) (Kz st) (HW st) .none kV doc pm an HQ ct) ⟨us,[]⟩=pure (ps.zip us):=by first|exact λ_ _ _ _ _ _=>Lw λ_=>rfl|exact λ_ _ _ _ _ _=>Vq λ_ _=>rfl|exact λ_ _ _ _ _ _=>Oy λ_ _ _=>rfl|exact λ_ _ _ _ _ _=>qE λ_ _ _ _ _=>rfl):Nonempty (Hd P w K mg base k n ps sp):=by
 obtain⟨f,fd,F,kp,A⟩:=q.x X G
 exact⟨⟨f,fd,ok f fd F,F.binds b,kp,A⟩⟩
theorem FQ.gx{P:Program}{w:World}{K:W.Frag}{mg:Str->Option Value}{base:Heap}{n:Str}{st:Stmt}{ps:List Str}{sp:Sp}{k:Nat}{h:Heap}(q:FQ K n st)(X:K.In h)(G:h.Ns mainGlobals mg)(ok:∀f fd,Hg K n n st f fd->Gw P w K mg base (IB P w) k f fd ps sp)(b:∀(kV doc pm:Value)(an:Option Addr)(HQ ct:Value)(us:List Value),us.length=ps.length->bindArgs (W.fnOf n n (NQ st) (Kz st) (HW st) .none kV doc pm an HQ ct) ⟨us,[]⟩=pure (ps.zip us):=by first|exact λ_ _ _ _ _ _=>Lw λ_=>rfl|exact λ_ _ _ _ _ _=>Vq λ_ _=>rfl|exact λ_ _ _ _ _ _=>Oy λ_ _ _=>rfl|exact λ_ _ _ _ _ _=>qE λ_ _ _ _ _=>rfl):Nonempty (Hr P w K mg base k n ps sp):=by
 obtain⟨f,fd,F,kp,A⟩:=q.x X G
 exact⟨⟨f,fd,ok f fd F,F.binds b,kp,A⟩⟩
theorem all_mk{l:W.OpenLaw}{w:World}{K:W.Frag}{h:Heap}{mg:Str->Option Value}{fa:Addr}(X:K.In h)(G:h.Ns mainGlobals mg)(hfa:mg "law" = some (.ref fa))
  (q1:FQ K "refuse_bad_count" iR)
  (q2:FQ K "gathered" N9)
  (q3:FQ K "plus" N2)
  (q4:FQ K "less" MS)
  (q5:FQ K "multiplied" MJ)
  (q6:FQ K "swapped" OW)
  (q7:FQ K "exchanged" MY)
  (q8:FQ K "refuse_bad_row" LO)
  (q9:FQ K "rows_up_to" U5)
  (q10:FQ K "rows" jL)
  (q11:FQ K "count_from" U7)
  (q12:FQ K "turned_over" Vd)
  (q13:FQ K "uneven" gL)
  (q14:FQ K "refuse_uneven" Xq)
  (q15:FQ K "orders" VM)
  (q16:FQ K "exchange_sum" V0)
  (q17:FQ K "product" YW)
  (q18:FQ K "elementary" XA)
  (q19:FQ K "elementary_product" V7)
  (q20:FQ K "elementary_sum" Ww)
  (q21:FQ K "whole" kJ)
  (q22:FQ K "whole_sum" Vv)
  (q23:FQ K "by_elementary" VC)
  (q24:FQ K "joined" Wy)
  (q25:FQ K "alternating" Xh)
  (q26:FQ K "put_in" jX)
  (q27:FQ K "elementaries_by_whole" XG)
  (q28:FQ K "by_whole" Yt)
  (q29:FQ K "power_sum" VH)
  (q30:FQ K "common_divisor" YC)
  (q31:FQ K "fraction" Wz)
  (q32:FQ K "multiplied_up" Xx)
  (q33:FQ K "elementaries_by_power" U3)
  (q34:FQ K "by_power" Pg)
  (q35:FQ K "_law_called" P0)
  (q36:FQ K "_law_cell" OM)
  (q37:FQ K "_law_rows" MQ)
  (q38:FQ K "_law_plain" Vu)
  (q39:FQ K "_law_arranged" Ml)
  (q40:FQ K "_law_put" Nu)
  (q41:FQ K "_law_even" Mt)
  (q42:FQ K "_law_call" OV)
  (q43:FQ K "_law_flags" N8)
  (q44:FQ K "_law_fields" OB)
  (q45:FQ K "_law_due" OA)
  (q46:FQ K "law" MZ)
  {tk1:Tok} (g1:W.nsIn K mainGlobals "MOST_UNKNOWNS" = some (some (.int 4 tk1)))
  {tk2:Tok} (g2:W.nsIn K mainGlobals "MOST_TOGETHER" = some (some (.int 8 tk2)))
  {d0 d1 d2 d3 d4 d5 d6 d7 d8 d9 d10 d11 d12 d13:Addr} {fI:Addr} {odI anI ddC o2C:Option Addr} {slI slC o3C:Array (Option Value)} {ocI kVI dcI pmI cdI ctI o1C:Value} {cdC:ClassData} {esC:Array DictEntry} {nnC:Nat}
  (y0:W.nsIn K mainGlobals "BadCount" = some (some (.ref d0)))
  (y1:W.nsIn K mainGlobals "BadPowers" = some (some (.ref d1)))
  (y2:W.nsIn K mainGlobals "TooGreat" = some (some (.ref d2)))
  (y3:W.nsIn K mainGlobals "BadRow" = some (some (.ref d3)))
  (y4:W.nsIn K mainGlobals "UnlikeWeights" = some (some (.ref d4)))
  (y5:W.nsIn K mainGlobals "TooLong" = some (some (.ref d5)))
  (y6:W.nsIn K mainGlobals "Uneven" = some (some (.ref d6)))
  (y7:W.nsIn K mainGlobals "NoKind" = some (some (.ref d7)))
  (y8:W.nsIn K mainGlobals "NotBy" = some (some (.ref d8)))
  (y9:W.nsIn K mainGlobals "NoText" = some (some (.ref d9)))
  (y10:W.nsIn K mainGlobals "NoLine" = some (some (.ref d10)))
  (y11:W.nsIn K mainGlobals "BadName" = some (some (.ref d11)))
  (y12:W.nsIn K mainGlobals "NoName" = some (some (.ref d12)))
  (y13:W.nsIn K mainGlobals "EvenError" = some (some (.ref d13)))
  (x0:W.excIn K d0 hJ "ValueError.__new__" = true)
  (x3:W.excIn K d3 hJ "ValueError.__new__" = true)
  (t0:TQ K [d0,d1,d2,d3,d4,d5,d6,d7,d8,d9,d10,d11,d12] d0 d13 [true,false,false,false,false,false,false,false,false,false,false,false,false])
  (t3:TQ K [d0,d1,d2,d3,d4,d5,d6,d7,d8,d9,d10,d11,d12] d3 d13 [false,false,false,true,false,false,false,false,false,false,false,false,false])
  (t6:TQ K [d0,d1,d2,d3,d4,d5,d6,d7,d8,d9,d10,d11,d12] d6 d13 [false,false,false,false,false,false,true,false,false,false,false,false,false])
  (wE:W.kitOne K (.ref d13) (.type "BaseException")=some true)
  (aI:W.findIn K (.ref d6) "__init__" = some (some (.ref fI)))
  (lI:K.lookup fI=some ⟨ocI,odI,.func (W.fnOf "__init__" "Uneven.__init__" (NQ Kv) (Kz Kv) (HW Kv) .none kVI dcI pmI anI cdI ctI),slI⟩)
  (cI:W.codeIn K cdI "Uneven.__init__" = true)
  (kI:W.keepIn K (.ref fI)=true)
  (CP:IG K d6 d13 fI ddC cdC slC o1C o2C esC nnC o3C)
  (fI1:W.isFn K (.ref fI)=true)
  (kC6:W.keepIn K (.ref d6)=true)
  (sa6:W.findIn K (.ref d6) "__setattr__" = some (some (.builtin "object.__setattr__")))
  (p1:W.findIn K (.ref d6) "place" = some none)
  (p2:W.findIn K (.ref d6) "powers" = some none)
  (hd6:W.hasDictIn K d6=true)
  (bi1:W.specialIn K (.ref d13) "__getattribute__" = some (some (.builtin "type.__getattribute__")))
  (bi2:W.readsIn K d13 (.type "type")=true)
  (bi3:W.findCls K (.ref d13) (.type "type") "__init__" = some (.val (.builtin "ValueError.__init__")))
  (tyC:W.typeIn K (.ref d6)=some (.type "type"))
  (mrC:W.mroIn K d6 (.ref d6)=some true)
  (kB6:W.kitOne K (.ref d6) (.type "BaseException")=some true)
  (z1:W.nsIn K mainGlobals "sorted" = some none)
  (z2:W.nsIn K mainGlobals "range" = some none)
  (z3:W.nsIn K mainGlobals "isinstance" = some none)
  (z4:W.nsIn K mainGlobals "abs" = some none)
  (z5:W.nsIn K mainGlobals "len" = some none)
  (z6:W.nsIn K mainGlobals "tuple" = some none)
  (z7:W.nsIn K mainGlobals "list" = some none)
  (z8:W.nsIn K mainGlobals "any" = some none)
  (z9:W.nsIn K mainGlobals "zip" = some none)
  (z10:W.nsIn K mainGlobals "sum" = some none)
  (z11:W.nsIn K mainGlobals "enumerate" = some none)
  (z12:W.nsIn K mainGlobals "min" = some none)
  (z13:W.nsIn K mainGlobals "max" = some none)
  (z14:W.nsIn K mainGlobals "ValueError" = some none)
  : ∃fd:FuncData,(∀(s:Shared)(v:Value),BindsTo s fd ⟨[v],[]⟩ [("_law_script",v)])/\∀base:Heap,K.In base->base.Ns mainGlobals mg->Gw l.prog w K mg base Hk 15 fa fd ["_law_script"] (MH K):=by
 obtain⟨f1,e1,F1,k1,A1⟩:=q1.x X G
 obtain⟨f2,e2,F2,k2,A2⟩:=q2.x X G
 obtain⟨f3,e3,F3,k3,A3⟩:=q3.x X G
 obtain⟨f8,e8,F8,k8,A8⟩:=q8.x X G
 obtain⟨f9,e9,F9,k9,A9⟩:=q9.x X G
 obtain⟨f15,e15,F15,k15,A15⟩:=q15.x X G
 obtain⟨f37,e37,F37,k37,A37⟩:=q37.x X G
 obtain⟨f46,fd,a46,F46⟩:=q46
 have e:=hfa.symm.trans (BP X G a46)
 cases e
 have c_MOST_UNKNOWNS:=BP X G g1
 have c_MOST_TOGETHER:=BP X G g2
 have m_sorted:=BJ X G z1
 have m_range:=BJ X G z2
 have m_isinstance:=BJ X G z3
 have m_abs:=BJ X G z4
 have m_len:=BJ X G z5
 have m_tuple:=BJ X G z6
 have m_list:=BJ X G z7
 have m_any:=BJ X G z8
 have m_zip:=BJ X G z9
 have m_sum:=BJ X G z10
 have m_enumerate:=BJ X G z11
 have m_min:=BJ X G z12
 have m_max:=BJ X G z13
 have m_ValueError:=BJ X G z14
 refine⟨fd,λs v=>?_,λbase _ _=>?_⟩
 ·obtain⟨_,_,_,_,_,_,_,_,_,rfl,_,_⟩:=F46.ex
  exact .of_eq rfl
 have T0:=t0.told (nm:=["count"]) (by decide +kernel) (pV x0)
 have T3:=t3.told (nm:=["row"]) (by decide +kernel) (pV x3)
 have M0:=BP X G y0
 have M1:=BP X G y1
 have M2:=BP X G y2
 have M3:=BP X G y3
 have M4:=BP X G y4
 have M5:=BP X G y5
 have M6:=BP X G y6
 have M7:=BP X G y7
 have M8:=BP X G y8
 have M9:=BP X G y9
 have M10:=BP X G y10
 have M11:=BP X G y11
 have M12:=BP X G y12
 have M13:=BP X G y13
 have T6:=t6.told (nm:=["uneven"]) (by decide +kernel) CP.some
 have XC6:Nz K d6 fI:=⟨⟨T6.k,CP.st,sa6⟩,⟨CP.j,fI1,kC6⟩,p1,p2⟩
 have FI:=Su (st:=Kv) lI cI kI
 have bI:=FI.binds (ps:=KZ) λ_ _ _ _ _ _=>Oy λ_ _ _=>rfl
 have OI:=Zz (P:=l.prog) (w:=w) (base:=base) FI M13 ⟨bi1,bi2,bi3⟩ XC6
 have XC:=Hr.mk f1 e1 (UT (P:=l.prog) (w:=w) (base:=base) F1 c_MOST_UNKNOWNS ⟨M0,x0⟩) (F1.binds λ_ _ _ _ _ _=>Lw λ_=>rfl) k1 A1
 have G1:=Hd.mk f1 e1 (dG (UT (P:=l.prog) (w:=w) (base:=base) F1 c_MOST_UNKNOWNS ⟨M0,x0⟩)) (F1.binds λ_ _ _ _ _ _=>Lw λ_=>rfl) k1 A1
 have G2:=Hd.mk f2 e2 (Z5 (P:=l.prog) (w:=w) (base:=base) F2 m_sorted) (F2.binds λ_ _ _ _ _ _=>Lw λ_=>rfl) k2 A2
 have GGF:=Hd.mk f2 e2 (YM (P:=l.prog) (w:=w) (base:=base) F2 m_sorted) (F2.binds λ_ _ _ _ _ _=>Lw λ_=>rfl) k2 A2
 have GPF:=Hd.mk f3 e3 (Q9 F3 GGF.ql) (F3.binds λ_ _ _ _ _ _=>Vq λ_ _=>rfl) k3 A3
 have G3:=Hd.mk f3 e3 (Gw.imp (sp':=TL λts us=>ts++us) (Q9 F3 GGF.ql) λvs H Q E h=>by obtain⟨a,b,ts,us,e,h1,h2,_,_,hl,q⟩:=h;exact⟨a,b,ts,us,e,h1,h2,hl,q⟩) (F3.binds λ_ _ _ _ _ _=>Vq λ_ _=>rfl) k3 A3
 obtain⟨G4⟩:=q4.g X G λ_ _ F4=>YA F4 G2.ql
 obtain⟨G5⟩:=q5.g X G λ_ _ F5=>Yx F5 G2.ql m_tuple m_zip
 obtain⟨G6⟩:=q6.g X G λ_ _ F6=>Xd (P:=l.prog) (w:=w) (mg:=mg) (base:=base) F6
 obtain⟨G7⟩:=q7.g X G λ_ _ F7=>eS F7 (G2.ok) G2.bd G2.kp G2.at_ (G6.ok) G6.bd G6.kp G6.at_
 have XB:=Hr.mk f8 e8 (P9 (P:=l.prog) (w:=w) (base:=base) F8 c_MOST_TOGETHER ⟨M3,x3⟩ m_any m_zip m_sum) (F8.binds λ_ _ _ _ _ _=>Lw λ_=>rfl) k8 A8
 have G8:=Hd.mk f8 e8 (ZF (P9 (P:=l.prog) (w:=w) (base:=base) F8 c_MOST_TOGETHER ⟨M3,x3⟩ m_any m_zip m_sum)) (F8.binds λ_ _ _ _ _ _=>Lw λ_=>rfl) k8 A8
 have G9:=Hd.mk f9 e9 (Uc (P:=l.prog) (w:=w) (base:=base) F9 (F9.binds λ_ _ _ _ _ _=>Oy λ_ _ _=>rfl) A9 m_range m_min 9) (F9.binds λ_ _ _ _ _ _=>Oy λ_ _ _=>rfl) k9 A9
 obtain⟨G10⟩:=q10.g X G λ_ _ F10=>fO F10 (G9.ok) G9.bd G9.kp G9.at_
 obtain⟨G11⟩:=q11.g X G λ_ _ F11=>bY (P:=l.prog) (w:=w) (base:=base) F11 m_len
 obtain⟨G12⟩:=q12.g X G λ_ _ F12=>bZ F12 G11.ql m_max m_range m_tuple
 obtain⟨G13⟩:=q13.gx X G λ_ _ F13=>YR F13 XC.ql G4.ql G7.ql m_range
 obtain⟨G14⟩:=q14.gx X G λ_ _ F14=>ZK F14 G13.ql (OI.mono (by decide)) bI XC6 M6
 have G15:=Hd.mk f15 e15 (Rv (P:=l.prog) (w:=w) (base:=base) F15 (F15.binds λ_ _ _ _ _ _=>Lw λ_=>rfl) A15 m_enumerate 5) (F15.binds λ_ _ _ _ _ _=>Lw λ_=>rfl) k15 A15
 obtain⟨G16⟩:=q16.g X G λ_ _ F16=>fS F16 G8.ql G1.ql G15.ql m_len
 obtain⟨G17⟩:=q17.g X G λ_ _ F17=>Zq F17 G5.ql
 obtain⟨G18⟩:=q18.g X G λ_ _ F18=>Yw F18 G16.ql
 obtain⟨G19⟩:=q19.g X G λ_ _ F19=>Zu F19 G18.ql G17.ql LG
 obtain⟨G20⟩:=q20.gx X G λ_ _ F20=>cP F20 XB.ql XC.ql G19.ql
 obtain⟨G21⟩:=q21.g X G λ_ _ F21=>bN F21 G10.ql G16.ql G3.ql
 obtain⟨G22⟩:=q22.gx X G λ_ _ F22=>WP F22 XB.ql XC.ql G21.ql G17.ql Zw
 obtain⟨G23⟩:=q23.gx X G λ_ _ F23=>dP F23 G14.ql G12.ql G19.ql G4.ql m_sorted
 obtain⟨G24⟩:=q24.g X G λ_ _ F24=>jF F24 GGF.ql m_tuple m_sorted
 obtain⟨G25⟩:=q25.g X G λ_ _ F25=>jS F25 GPF.ql G24.ql m_range m_len
 obtain⟨G26⟩:=q26.g X G λ_ _ F26=>XD F26 GGF.ql G24.ql
 obtain⟨G27⟩:=q27.g X G λ_ _ F27=>cU F27 G25.ql m_len
 obtain⟨G28⟩:=q28.gx X G λ_ _ F28=>kK F28 G23.ql G27.ql G26.ql
 obtain⟨G29⟩:=q29.gx X G λ_ _ F29=>Wh F29 XB.ql XC.ql G16.ql G17.ql
 obtain⟨G30⟩:=q30.g X G λ_ _ F30=>eX (P:=l.prog) (w:=w) (mg:=mg) (base:=base) F30
 obtain⟨G31⟩:=q31.g X G λ_ _ F31=>Zf F31 G30.ql m_abs
 obtain⟨G32⟩:=q32.g X G λ_ _ F32=>Ya (P:=l.prog) (w:=w) (mg:=mg) (base:=base) F32
 obtain⟨G33⟩:=q33.g X G λ_ _ F33=>hV F33 G25.ql m_range
 obtain⟨G34⟩:=q34.gx X G λ_ _ F34=>eQ F34 G23.ql G32.ql G26.ql G33.ql G31.ql m_max m_len m_list m_range
 obtain⟨G35⟩:=q35.g X G λ_ _ F35=>Gw.or (Xi (P:=l.prog) (w:=w) (base:=base) F35 m_isinstance m_zip m_ValueError M0 M1 M2 M3 M4 M5 M6 M7 M8 M9 M10 M11 M12) (WR F35)
 obtain⟨G36⟩:=q36.g X G λ_ _ F36=>kD (P:=l.prog) (w:=w) (base:=base) F36 m_len
 have G37:=Hd.mk f37 e37 (Sf (P:=l.prog) (w:=w) (base:=base) F37 (F37.binds λ_ _ _ _ _ _=>Oy λ_ _ _=>rfl) A37 m_range m_min 9) (F37.binds λ_ _ _ _ _ _=>Oy λ_ _ _=>rfl) k37 A37
 obtain⟨G38⟩:=q38.g X G λ_ _ F38=>Wu (P:=l.prog) (w:=w) (base:=base) F38 m_sorted
 obtain⟨G39⟩:=q39.g X G λ_ _ F39=>WY (P:=l.prog) (w:=w) (base:=base) F39 m_list m_range m_len
 obtain⟨G40⟩:=q40.g X G λ_ _ F40=>cC (P:=l.prog) (w:=w) (mg:=mg) (base:=base) F40
 obtain⟨G41⟩:=q41.g X G λ_ _ F41=>cD F41 G37.ql G39.ql G40.ql G38.ql m_range m_min m_len
 obtain⟨G42⟩:=q42.gx X G λ_ _ F42=>Xf F42 G23.ql G28.ql G34.ql G20.ql G22.ql G29.ql
 obtain⟨G43⟩:=q43.g X G λ_ _ F43=>gH F43 G42.ql G35.ql M13 wE
 obtain⟨G44⟩:=q44.g X G λ_ _ F44=>XE F44 G42.ql M6 kB6 (mY CP.some tyC mrC) T6.k hd6 p1 p2
 obtain⟨G45⟩:=q45.g X G λ_ _ F45=>lD (P:=l.prog) (w:=w) (base:=base) F45 m_range m_sorted m_list m_tuple m_max
 exact nX F46 G36.ql G41.ql G40.ql G38.ql G45.ql G43.ql G44.ql T3 T0 T6 m_tuple m_list m_range
theorem walk{l:W.OpenLaw}{q:Program}{loose:List Str}{XP:(Str->Option Value)->Heap->Prop}{YP:World->Heap->Prop}{d:DefRec}{K:Params->W.Frag}(hn:l.most=some 63)(hdf:d.params.defaults=[])
  (hY:∀(w:World)(h:Heap),YP w h->(K w.params).In h)
  (F:∀(w:World)(mg:Str->Option Value)(fa:Addr)(h:Heap),(K w.params).In h->h.Ns mainGlobals mg->mg d.name=some (.ref fa) ->
   ∃fd:FuncData,(∀(s:Shared)(u:Value),BindsTo s fd ⟨[u],[]⟩ [("_law_script",u)])/\∀base:Heap,(K w.params).In base->base.Ns mainGlobals mg->Gw l.prog w (K w.params) mg base Hk 15 fa fd ["_law_script"] (MH (K w.params))) :
  W.WalkO q loose XP YP l.row.toRowW d [] (λf vs=>PySem.call f vs) :=
 L2.walk_of (n:=63) (k:=15) (x := "_law_script") (CX:=λ_=>Hk) (sp:=λw=>MH (K w.params)) hn (by decide) hdf ⟨rfl,by decide,by decide⟩ hY F (λ_ _ a ns hl _ hS=>⟨a,ns,rfl,hS,hl,λ_=>rfl⟩) λ_ _ _ _ _ z=>z
end L2.K43
namespace PySem.W.Fast
def tw10041693142093546469:=0
def tw10169512916993069686:=0
def tw10181434047083002491:=0
def tw10201784048744344820:=0
def tw10220571027236023249:=0
def tw10259791999756552164:=0
def tw10280846182761935233:=0
def tw10396341971868865212:=0
def tw10530402459949565988:=0
def tw10535462762938243992:=0
def tw10551454568360177263:=0
def tw10587199806642092290:=0
def tw10588036786091713240:=0
def tw10594500513930392283:=0
def tw10724581821772313792:=0
def tw10734456792308660628:=0
def tw10784694725165886340:=0
def tw10828295246959479080:=0
def tw10840678233890275374:=0
def tw1086044413175052855:=0
def tw10865390285503404598:=0
def tw10918269733411629883:=0
def tw10939958500867850611:=0
def tw10997562519012493283:=0
def tw11001129882934717165:=0
def tw1101325041072549146:=0
def tw11013731868904379847:=0
def tw11022192434189811036:=0
def tw11155416006977698910:=0
def tw11174168090330251864:=0
def tw11182266801105218226:=0
def tw11205587046837078731:=0
def tw11261526734178944461:=0
def tw1128226854965352356:=0
def tw11282554167544025497:=0
def tw11293323804440552373:=0
def tw11302527833197480758:=0
def tw1135579434191969060:=0
def tw11372053995277539577:=0
def tw11726342890592438602:=0
def tw11822887422476862354:=0
def tw1191786420132638244:=0
def tw11930733655220371251:=0
def tw11965604183376713255:=0
def tw11969301607073487522:=0
def tw11993745917332495666:=0
def tw12049465331100575661:=0
def tw12074034895420740605:=0
def tw12101723877952737900:=0
def tw12109439856303635683:=0
def tw12299094946495249361:=0
def tw12420586199511975805:=0
def tw12534024912858384920:=0
def tw12560830780733452576:=0
def tw12598782066208610106:=0
def tw12612743544874818914:=0
def tw12647799591925921897:=0
def tw12658504154579081075:=0
def tw12683879324953388361:=0
def tw12685869642051610085:=0
def tw12690828538701969892:=0
def tw12728359787579830212:=0
def tw13005334591698011815:=0
def tw13065955987336149639:=0
def tw13096810750262199743:=0
def tw1310723903246757994:=0
def tw13133954188467245029:=0
def tw13223418411173833539:=0
def tw13403903269362370915:=0
def tw13428939329929089155:=0
def tw13457967542140610563:=0
def tw13461830625550465149:=0
def tw13467437946752427292:=0
def tw13536455220327004030:=0
def tw13587239848999259933:=0
def tw13617932752868309861:=0
def tw1365158034418450622:=0
def tw13693181367899312115:=0
def tw1370310734740858117:=0
def tw13717956018602915961:=0
def tw13744549380485975255:=0
def tw13765043672428260492:=0
def tw13782168161776917433:=0
def tw1386779630128946027:=0
def tw13872686413492699791:=0
def tw13937085508703358762:=0
def tw14010748452049470680:=0
def tw14015371950323239612:=0
def tw14074472765364570797:=0
def tw14113732885065802628:=0
def tw14151768379439806898:=0
def tw14159865482317307183:=0
def tw14168540517631116030:=0
def tw14237460695051993770:=0
def tw14352075114897899530:=0
def tw14360690924476594202:=0
def tw14389531351518983453:=0
def tw14415011616433321496:=0
def tw14462078778201830716:=0
def tw14537438155275210142:=0
def tw14594160667251611202:=0
def tw1463352811762419124:=0
def tw14640828114827280702:=0
def tw14661667276547602202:=0
def tw14726704178451456553:=0
def tw14803881994456234653:=0
def tw14885142627166239841:=0
def tw14920912712349683321:=0
def tw14948823932686460285:=0
def tw14959965958584221074:=0
def tw14979882843935090191:=0
def tw15040654529951545852:=0
def tw15096472691888294073:=0
def tw15103308034142450962:=0
def tw15141734032065330149:=0
def tw15227242003679450175:=0
def tw15250287906049866925:=0
def tw15285709862774783383:=0
def tw1528903261431279138:=0
def tw1529763697407344565:=0
def tw15331943577899956207:=0
def tw15332027558981309390:=0
def tw15373830765076859567:=0
def tw15461577810728860426:=0
def tw15463785838068541860:=0
def tw15501904207410517615:=0
def tw1553729611888173896:=0
def tw15578749105387762840:=0
def tw15595236175462088578:=0
def tw15632413743955420459:=0
def tw15632593852080282274:=0
def tw15704219324264576212:=0
def tw15726110624860400969:=0
def tw15967062354059847727:=0
def tw16023117495235022668:=0
def tw16052633279060115625:=0
def tw161128133510458378:=0
def tw16170626164311320296:=0
def tw16178350244590954795:=0
def tw16227596498777652965:=0
def tw16292318981249291329:=0
def tw16339479995545073190:=0
def tw16450111065436293436:=0
def tw16476690127780186725:=0
def tw16545342573027678857:=0
def tw16547973762401875624:=0
def tw1658952645315922773:=0
def tw16609235379738463998:=0
def tw16737074942213992069:=0
def tw16842909086618479946:=0
def tw16865573568333056112:=0
def tw16890336497557415202:=0
def tw16985243059158415602:=0
def tw17136802774745937020:=0
def tw17141821787970486910:=0
def tw1714623048832809759:=0
def tw17259549120699196831:=0
def tw17267625764589890895:=0
def tw17342696579568228076:=0
def tw17351828150204523966:=0
def tw1738119682350561887:=0
def tw17402313462238843061:=0
def tw17529812330084749341:=0
def tw1758155923121916167:=0
def tw17590294909190909365:=0
def tw17603040920189719515:=0
def tw17608144144675216036:=0
def tw17759479127658326229:=0
def tw17863569745887676802:=0
def tw17915956087162328391:=0
def tw17939385614430683640:=0
def tw17992409569714262618:=0
def tw18148972532497551017:=0
def tw18150470031534335725:=0
def tw18163987480877981723:=0
def tw18202946158361371360:=0
def tw18317178485763726582:=0
def tw18337365344699851824:=0
def tw18409892226790457038:=0
def tw18436325768583390495:=0
def tw190119203582146627:=0
def tw1949471432005906196:=0
def tw1959626180286985238:=0
def tw2095140860734658794:=0
def tw2242780956045980068:=0
def tw2411115010632125170:=0
def tw2450097711349175199:=0
def tw2464118051757929709:=0
def tw2636177464251971115:=0
def tw263822613497819383:=0
def tw272771660816982186:=0
def tw2745828626223399846:=0
def tw2756883211029854178:=0
def tw2758684147835190859:=0
def tw2759199928753126451:=0
def tw2780487652949013020:=0
def tw2864638068659459379:=0
def tw2872581621446715936:=0
def tw2959950711694911959:=0
def tw3119042547331276796:=0
def tw3173040578171243690:=0
def tw3202073320046674727:=0
def tw3210684997221359030:=0
def tw327228097972789759:=0
def tw3316333068929350595:=0
def tw332077353055639232:=0
def tw3580937023740339723:=0
def tw360605907067453677:=0
def tw36136507150070563:=0
def tw3626791881998917732:=0
def tw3707039246279618893:=0
def tw371080109354766548:=0
def tw3793438446937358933:=0
def tw3810741146748099300:=0
def tw3831743071221236692:=0
def tw3880460429674668344:=0
def tw3903837264537297855:=0
def tw3915670950984326916:=0
def tw3937806343622398280:=0
def tw3972597079523634912:=0
def tw4015501949505359761:=0
def tw4026603903635894812:=0
def tw4045251931337797640:=0
def tw4056744918463611959:=0
def tw4058308002709570880:=0
def tw4123373506448854467:=0
def tw413928643286280754:=0
def tw4161024183985143296:=0
def tw4174036049046205145:=0
def tw4197268167006241813:=0
def tw4422778186207367281:=0
def tw4480166786332866293:=0
def tw450898889240274575:=0
def tw4577607953551662912:=0
def tw4622453655461116698:=0
def tw4633405352182767375:=0
def tw469533217289780650:=0
def tw4725174971966964970:=0
def tw4751505057952276233:=0
def tw4833353778682617132:=0
def tw485228491254874257:=0
def tw4870139333134823649:=0
def tw4930791693767994966:=0
def tw493982456658725636:=0
def tw4981305975034304956:=0
def tw5030611559170588111:=0
def tw5042292660023063169:=0
def tw522379600252900362:=0
def tw5299645184824563646:=0
def tw5435871524421500378:=0
def tw5493999560658061556:=0
def tw5497457835955700318:=0
def tw5518362601445322659:=0
def tw5518442647982709794:=0
def tw552724583264494928:=0
def tw5540817311136602713:=0
def tw5568027462315162942:=0
def tw5582045093776754716:=0
def tw5582254611401707565:=0
def tw5603621101759229359:=0
def tw5624798382252983375:=0
def tw5701556133029054923:=0
def tw574605774229334098:=0
def tw5844323647419622785:=0
def tw6005549230257202018:=0
def tw6006247835773047341:=0
def tw600765572521634821:=0
def tw603683852267601177:=0
def tw6043562825588529484:=0
def tw6048603930206920783:=0
def tw6067918152257582684:=0
def tw6108955080533735073:=0
def tw6169030502800663594:=0
def tw6241880657268188026:=0
def tw625004207207654495:=0
def tw625917542175541954:=0
def tw6396457324404770842:=0
def tw6420054416255922579:=0
def tw6430405935796812358:=0
def tw6500507345348674516:=0
def tw6586229049668778920:=0
def tw6606248736644115638:=0
def tw6651623893353349418:=0
def tw6677762979724691936:=0
def tw6702670839529220337:=0
def tw6757338341557363252:=0
def tw6824626120222749586:=0
def tw6841923052727777449:=0
def tw701362750854292538:=0
def tw7020641963215696073:=0
def tw7030850252016496216:=0
def tw7094312094065455604:=0
def tw7134238860653059492:=0
def tw7140195950114802091:=0
def tw716183647510700671:=0
def tw7264846949555282550:=0
def tw7363558550782528460:=0
def tw7406052136748808629:=0
def tw7449280300999274785:=0
def tw7473022024199339864:=0
def tw7530414343939119907:=0
def tw755378788013547598:=0
def tw7648942274275344927:=0
def tw7673878472043698465:=0
def tw7826728418837560687:=0
def tw7845740242038979436:=0
def tw7908055172409580834:=0
def tw8124645812664238843:=0
def tw8184988381510240148:=0
def tw8203346206558419736:=0
def tw821863860712925438:=0
def tw8265041257659767241:=0
def tw845163584255966281:=0
def tw8478180703855767095:=0
def tw8488892242615798372:=0
def tw865825471238403195:=0
def tw8697473327055961982:=0
def tw8703698191651059482:=0
def tw8722351009752183730:=0
def tw8900326131738338932:=0
def tw8972715748334041901:=0
def tw8988428207419577022:=0
def tw9003184941021671069:=0
def tw9016941474579644991:=0
def tw9066353290419661507:=0
def tw9079399817641215111:=0
def tw9092672503139242505:=0
def tw9135528616037398421:=0
def tw9196695910970896831:=0
def tw929323260586248057:=0
def tw9371644470160662904:=0
def tw9380036207112042144:=0
def tw9387874851598966580:=0
def tw9466502217402222026:=0
def tw9469755839134983307:=0
def tw9505126382584106154:=0
def tw9548157695756932913:=0
def tw9628321392091454506:=0
def tw9669114793681766160:=0
def tw968564149822833772:=0
def tw9692804009815354024:=0
def tw9726332239180604179:=0
def tw9771149818828360425:=0
def tw9794316873697501986:=0
def tw9828318690881578365:=0
def tw984940456332219301:=0
def tw9853691140210041984:=0
def tw9897235407673564793:=0
def tw9904264049423264100:=0
def tw9924963575103849303:=0
def tw9937713682990924490:=0
def tw995497242273049715:=0
def tw9968326608715484782:=0
end PySem.W.Fast
open PySem PySem.W PyProof.Rows
set_option maxRecDepth 100000 in
set_option maxHeartbeats 0 in
theorem PySem.Challenge.cw_evenform_k43_refused_tellings_holds : PySem.Challenge.rw_evenform_k43_refused_tellings.Holds := by
  w_on; o_law; k_head; (case hw => w_witness2)
  k_fill
  refine L2.K43.walk (l := PySem.Challenge.rw_evenform_k43_refused_tellings) rfl rfl (fun w h Y => PySem.W.kIn_of Y) ?F
  case F =>
    intro w mg fa h KX G hmg
    refine' L2.K43.all_mk KX G hmg ?q1 ?q2 ?q3 ?q4 ?q5 ?q6 ?q7 ?q8 ?q9 ?q10 ?q11 ?q12 ?q13 ?q14 ?q15 ?q16 ?q17 ?q18 ?q19 ?q20 ?q21 ?q22 ?q23 ?q24 ?q25 ?q26 ?q27 ?q28 ?q29 ?q30 ?q31 ?q32 ?q33 ?q34 ?q35 ?q36 ?q37 ?q38 ?q39 ?q40 ?q41 ?q42 ?q43 ?q44 ?q45 ?q46 ?g1 ?g2 ?y0 ?y1 ?y2 ?y3 ?y4 ?y5 ?y6 ?y7 ?y8 ?y9 ?y10 ?y11 ?y12 ?y13 ?x0 ?x3 ?t0 ?t3 ?t6 ?wE ?aI ?lI ?cI ?kI ?CP ?fI1 ?kC6 ?sa6 ?p1 ?p2 ?hd6 ?bi1 ?bi2 ?bi3 ?tyC ?mrC ?kB6 ?z1 ?z2 ?z3 ?z4 ?z5 ?z6 ?z7 ?z8 ?z9 ?z10 ?z11 ?z12 ?z13 ?z14
    all_goals try (refine' L2.K43.fq_mk ?a ?l ?c ?k; (case a => k_is); (case l => k_is); (case c => k_is); (case k => k_is))
    (case g1 => k_is)
    (case g2 => k_is)
    (case y0 => k_is)
    (case y1 => k_is)
    (case y2 => k_is)
    (case y3 => k_is)
    (case y4 => k_is)
    (case y5 => k_is)
    (case y6 => k_is)
    (case y7 => k_is)
    (case y8 => k_is)
    (case y9 => k_is)
    (case y10 => k_is)
    (case y11 => k_is)
    (case y12 => k_is)
    (case y13 => k_is)
    (case x0 => k_exc)
    (case x3 => k_exc)
    (case t0 => constructor; (case a => k_is); (case b => k_is); (case c => k_is); (case d => k_is); (case e => k_is); (case v => kit_is); (case w => kit_is); (case n => decide); (case s => (repeat (refine .cons (by kit_is) ?_)); exact .nil))
    (case t3 => constructor; (case a => k_is); (case b => k_is); (case c => k_is); (case d => k_is); (case e => k_is); (case v => kit_is); (case w => kit_is); (case n => decide); (case s => (repeat (refine .cons (by kit_is) ?_)); exact .nil))
    (case t6 => constructor; (case a => k_is); (case b => k_is); (case c => k_is); (case d => k_is); (case e => k_is); (case v => kit_is); (case w => kit_is); (case n => decide); (case s => (repeat (refine .cons (by kit_is) ?_)); exact .nil))
    (case wE => kit_is)
    (case aI => k_is)
    (case lI => k_is)
    (case cI => k_is)
    (case kI => k_is)
    (case CP => constructor; (case l => k_is); (case m => rfl); (case g => exact ⟨rfl, rfl⟩); (case s => first | decide | rfl); (case d => k_is); (case k => rfl); (case i => k_is); (case b => k_exc))
    (case fI1 => k_is)
    (case kC6 => k_is)
    (case sa6 => k_is)
    (case p1 => k_is)
    (case p2 => k_is)
    (case hd6 => k_is)
    (case bi1 => k_is)
    (case bi2 => k_is)
    (case bi3 => k_is)
    (case tyC => k_is)
    (case mrC => k_is)
    (case kB6 => kit_is)
    all_goals k_is
