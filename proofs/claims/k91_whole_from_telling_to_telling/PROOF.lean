import PyProof.Rows.All
import Wide.All
import OpenK.AllK
import Wide.FinOn
import Lean
import PyProof.EqAt
import PyProof.EqKinds
import PyProof.TupleCall
import PyProof.Rows.SortRuns
import PyProof.DictItems
import PyProof.DictWalks
import PyProof.CollectIter
import PyProof.Rows.SortRev
import KE.KSortTup
import KE.KDictList
import OpenK.KOwn
import PyProof.NsDelKeeps
import PyProof.RulesAs
import KE.KIsAll
import PyProof.ExcArgsOwn
import KE.KMinBuiltin
import PyProof.Draws
import PyProof.EnumMake
import PyProof.Rows.EnumRows
import PyProof.ListMulRoad
import KE.KItemsList
import PySem.Challenge.RW_evenform_k91_whole_from_telling_to_telli
set_option Elab.async false
set_option linter.all false
def AA:=@PySem.wpAny_bind
def AB:=@List.length_map
def AC:=@PySem.Heap.get?_push_of_some
def AD:=@if_neg
def AE:=@List.mem_cons_of_mem
def AF:=@if_pos
def AG:=@List.mem_cons_self
def AH:=@Nat.le_refl
def AI:=@Bool.and_eq_true
def AJ:=@List.length_append
def AK:=@PySem.wpAny_pure
def AL:=@List.getElem?_eq_getElem
def AM:=@PySem.Paired.length
def AN:=@List.mem_map
def AO:=@Array.getElem?_eq_getElem
def AQ:=@decide_eq_true_eq
def AR:=@List.all_eq_true
def AS:=@List.mem_singleton
def AT:=@List.mem_of_getElem?
def AU:=@PySem.Heap.lt_size
def AV:=@Array.length_toList
def AW:=@PySem.Heap.get?_push_size
def AX:=@PyProof.Rows.wpS_bind
def AY:=@List.mem_cons
def AZ:=@List.getElem?_eq_some_iff
def Aa:=@decide_eq_false
def Ab:=@List.take_of_length_le
def Ac:=@decide_eq_true
def Ad:=@List.getD_eq_getElem?_getD
def Ae:=@Bool.false_ne_true
def Af:=@PySem.PassesOwn.never
def Ag:=@List.getElem?_map
def Ah:=@PyProof.Rows.wpS_pure
def Ai:=@List.map_cons
def Aj:=@List.mem_append_right
def Al:=@List.mem_range
def Am:=@List.length_cons
def An:=@List.append_assoc
def Ao:=@List.mem_append
def Ap:=@List.length_take
def Aq:=@Option.some.inj
def Ar:=@List.map_append
def As:=@Nat.le_trans
def At:=@List.size_toArray
def Au:=@Nat.ne_of_lt
def Av:=@List.pairwise_cons
def Aw:=@List.filterMap_eq_map'
def Ax:=@Nat.lt_of_lt_of_le
def Ay:=@of_decide_eq_true
def Az:=@Nat.zero_le
def A0:=@List.mem_append_left
def A1:=@List.replicate_succ
def A4:=@Int.mul_assoc
def A5:=@List.mem_flatMap
def A6:=@PySem.F.plainAttrs_list
def A7:=@Nat.lt_of_le_of_lt
def A8:=@List.length_replicate
def A9:=@PySem.F.slot_list_append
def BA:=@PySem.F.type_list_append
def BB:=@Int.toNat_natCast
def BC:=@List.length_singleton
def BD:=@List.flatMap_cons
def BE:=@Array.getElem?_toList
def BF:=@List.sum_cons
def BG:=@List.length_drop
def BH:=@Bool.false_eq_true
def BI:=@PySem.W.mg_none_of
def BJ:=@List.mem_of_mem_take
def BK:=@PySem.wpAny_newObj_type
def BL:=@PyProof.Rows.boot_tuple
def BM:=@List.flatMap_append
def BN:=@PySem.Heap.get?_update_other
def BO:=@List.filter_cons
def BP:=@List.lookup_cons
def BQ:=@List.pairwise_map
def BR:=@PySem.boot_len
def BS:=@Array.toList_append
def BU:=@List.mem_filter
def BV:=@List.append_nil
def BW:=@Int.natCast_mul
def BX:=@List.flatMap_singleton
def BY:=@PyProof.Rows.callWith_type1
def BZ:=@List.take_append_drop
def Ba:=@List.take_length
def Bb:=@PySem.wpAny_callSpecial?_slot
def Bc:=@List.Perm.append_right
def Be:=@Int.natAbs_natCast
def Bf:=@Nat.le_of_lt
def Bg:=@List.not_mem_nil
def Bh:=@Int.mul_comm
def Bi:=@PyProof.Rows.wpS_forRange
def Bj:=@List.filterMap_cons
def Bl:=@List.flatten_cons
def Bm:=@List.length_range
def Bn:=@PyProof.Rows.slot_tuple_getitem
def Bo:=@PySem.Heap.size_push
def Bp:=@List.map_map
def Bq:=@Nat.pow_lt_pow_right
def Br:=@List.Nodup.length_le_of_subset
def Bt:=@List.map_singleton
def Bu:=@PySem.wpAny_pyIter_tuple
def Bv:=@PySem.wpAny_Call_Name_kw
def Bw:=@PySem.wpAny_field
def Bx:=@List.pairwise_iff_getElem
def By:=@PySem.wpAny_pyIter_list
def Bz:=@Nat.lt_irrefl
def B0:=@List.Perm.append_left
def B1:=@Nat.mul_le_mul
def B2:=@PyProof.Rows.boot_isinstance
def B3:=@if_false
def B4:=@PySem.W.kia_one
def B5:=@List.foldl_cons
def B6:=@Int.emod_lt_of_pos
def B7:=@List.length_eq_zero_iff
def B8:=@PySem.wpAny_mono
def B9:=@PySem.wpAny_call_entry
def CA:=@Int.natAbs_mul
def CB:=@PySem.wpAny_seqItems
def CC:=@List.foldl_append
def CD:=@PySem.wpAny_truthy_bool
def CF:=@List.map_congr_left
def CG:=@List.find?_cons
def CH:=@List.range_succ
def CI:=@Int.eq_of_mul_eq_mul_left
def CJ:=@Int.emod_nonneg
def CK:=@PySem.wpAny_loadPart'
def CL:=@Int.mul_ediv_cancel_left
def CM:=@List.any_cons
def CN:=@PySem.F.slot_dict_keyiterator_next
def CO:=@PySem.Around.under_plainId
def CP:=@Nat.add_le_add_left
def CQ:=@if_true
def CS:=@Nat.ne_of_gt
def CT:=@List.range_succ_eq_map
def CU:=@Array.getElem?_eq_none
def CV:=@List.zipWith_cons_cons
def CW:=@PySem.wpAny_rule
def CY:=@beq_self_eq_true
def CZ:=@List.perm_append_comm
def Ca:=@List.sum_singleton
def Cb:=@List.contains_iff_mem
def Cc:=@PySem.Paired.snoc
def Cd:=@Nat.le_succ
def Ce:=@List.nodup_cons
def Cf:=@Array.toList_reverse
def Cg:=@Nat.pow_le_pow_right
def Ch:=@List.sum_append
def Ci:=@Nat.gcd_pos_of_pos_right
def Cj:=@PySem.wpAny_ite_false
def Ck:=@PySem.wpAny_typeNameOfWhole_keyiter
def Cm:=@List.getElem_mem
def Cn:=@Nat.le_add_right
def Co:=@PySem.F.plain_max_loop
def Cp:=@List.dropLast_concat_getLast
def Cq:=@Option.bind_some
def Cr:=@PyProof.Rows.wpS_mono
def Cs:=@PySem.Paired.mono
def Ct:=@List.drop_of_length_le
def Cu:=@PySem.F.slot_tuple_mul
def Cv:=@PyProof.Rows.boot_list
def Cw:=@PyProof.Rows.wpS_modify
def Cy:=@List.zip_cons_cons
def Cz:=@Nat.succ_mul
def C0:=@Nat.mul_comm
def C1:=@of_decide_eq_false
def C2:=@PySem.wpAny_setField_rec
def C3:=@Ne.symm
def C4:=@Bool.eq_iff_iff
def C5:=@List.length_nil
def C6:=@PySem.Heap.get?_update_self
def C7:=@Nat.min_eq_left
def C8:=@List.length_filter_le
def C9:=@PySem.wpAny_passesOwn
def DA:=@PySem.codeAny_builtin
def DB:=@List.all_cons
def DC:=@PySem.F.slot_tuple_iterator_next
def DD:=@List.pairwise_append
def DE:=@PySem.call_meets
def DF:=@Int.mul_add
def DG:=@Int.le_refl
def DH:=@List.take_zero
def DI:=@List.map_nil
def DJ:=@Nat.lt_trans
def DK:=@Int.zero_add
def DL:=@PySem.wpAny_typeNameOf_keyiter
def DM:=@or_false
def DN:=@PySem.mem_of_lookup
def DO:=@Int.toNat_of_nonneg
def DP:=@List.getElem?_range
def DQ:=@PySem.F.plain_list_iadd
def DR:=@PySem.wpAny_holding
def DS:=@List.mem_filterMap
def DT:=@Bool.or_eq_true
def DU:=@PySem.W.kat_one
def DV:=@Nat.eq_zero_or_pos
def DW:=@Nat.mul_pos
def DX:=@Array.toList_push
def DY:=@List.drop_zero
def DZ:=@List.reverse_reverse
def Da:=@PySem.W.kat_cons
def Db:=@Nat.mul_le_mul_right
def Dc:=@List.getElem?_append_right
def Dd:=@Array.getElem?_eq_some_iff
def De:=@Nat.mul_lt_mul_of_pos_left
def Df:=@PySem.wpAny_attempt
def Dg:=@PySem.plainId_quiet
def Dh:=@Int.one_mul
def Di:=@PySem.wpAny_letGo
def Dj:=@PySem.intItems_at
def Dk:=@List.take_succ_cons
def Dl:=@List.reverse_append
def Dm:=@PySem.Heap.SameBut.update
def Dn:=@List.mem_map_of_mem
def Do:=@List.getElem?_append_left
def Dp:=@PySem.W.kat_nil
def Dq:=@PySem.W.kat_yes
def Dr:=@PySem.Calls.spliced_cons
def Ds:=@PySem.SeqAt.EqAt.int_int
def Dt:=@PySem.F.args_tuple_add_2
def Du:=@List.all_map
def Dv:=@Array.size_setIfInBounds
def Dw:=@PySem.Obj.data_mapFields
def Dx:=@PySem.AutoSeq1.wpAny_loadPart'
def Dy:=@PySem.F.args_tuple_mul_2
def Dz:=@List.eq_of_mem_replicate
def D0:=@PySem.W.kat_no
def D1:=@PyProof.Rows.wpS_get
def D4:=@PySem.wpAny_tryCatch
def D5:=@PySem.F.entry_tuple_add
def D6:=@List.pairwise_singleton
def D7:=@PySem.F.entry_tuple_mul
def D8:=@List.ext_getElem?
def D9:=@PySem.F.slot_tuple_add
def EA:=@PySem.Calls.callWith_builtin
def EB:=@Nat.pow_add
def EC:=@Array.size_eq_zero_iff
def ED:=@Nat.le_mul_of_pos_left
def EE:=@List.map_drop
def EF:=@PySem.W.mg_of
def EG:=@PySem.nums_intItems
def EH:=@Prod.ext
def EI:=@PySem.W.Looks.ld
def EJ:=@PySem.Heap.size_update
def EK:=@Eq.trans
def EL:=@PySem.F.slot_tuple_lt
def EM:=@PySem.F.slot_dict_get
def EN:=@List.filterMap_append
def EO:=@Nat.Coprime.dvd_of_dvd_mul_left
def EQ:=@PySem.Calls.evalArgs_plain
def ER:=@PySem.F.args_dict_keyiterator_next_1
def ES:=@List.forIn_cons
def ET:=@PySem.F.slot_zip_next
def EU:=@PySem.wpAny_execs_nil
def EV:=@decide_false
def EW:=@PySem.wpAny_updateSeq_pair
def EX:=@PySem.F.entry_dict_keyiterator_next
def EY:=@PyProof.Rows.lt_int
def EZ:=@List.map_eq_nil_iff
def Ea:=@PySem.F.args_tuple_iterator_next_1
def Eb:=@PyProof.Rows.wpS_lift
def Ec:=@PySem.wpAny_setField
def Ed:=@decide_true
def Ee:=@PyProof.Rows.callWith_kw
def Ef:=@Array.size_extract
def Eg:=@PySem.F.entry_proto_collect
def Eh:=@PySem.F.plain_proto_collect
def Ei:=@PySem.F.entry_tuple_iterator_next
def Ej:=@PyProof.Rows.assignInOrder_cons
def Ek:=@PySem.tupleKind_room_in1
def El:=@PySem.Calls.Name_function_global
def Em:=@Int.fdiv_eq_ediv_of_nonneg
def En:=@Array.perm_iff_toList_perm
def Eo:=@Nat.le_of_dvd
def Ep:=@PySem.wpAny_onRaise
def Er:=@List.reverse_cons
def Es:=@PySem.SeqAt.RcAt.tuples
def Et:=@List.nodup_append
def Eu:=@Bool.eq_false_iff
def Ew:=@PySem.wpAny_dictEntries
def Ex:=@PySem.Walks.list
def Ey:=@PySem.typeIs_int
def Ez:=@PySem.wpAny_binaryOp_repeat_ref
def E1:=@Nat.lt_succ_self
def E3:=@List.getElem?_take_of_lt
def E4:=@PySem.AutoSeq1.sub_tuple_tuple
def E5:=@Nat.min_self
def E6:=@List.zipIdx_cons
def E7:=@List.any_eq_true
def E8:=@Option.getD_some
def E9:=@List.length_filterMap_le
def FA:=@PySem.F.entry_max_loop
def FB:=@Nat.min_eq_right
def FC:=@PySem.F.slot_tuple_count
def FD:=@PySem.F.slot_list_extend
def FE:=@PySem.F.type_list_extend
def FG:=@Nat.gcd_le_right
def FH:=@Int.natCast_ediv
def FI:=@PySem.codeAny_mono
def FJ:=@PySem.noFill_tuple_add
def FK:=@PySem.wpAny_isInstance
def FL:=@PySem.wpAny_comprehension_free
def FM:=@PySem.numAt_eq
def FN:=@List.getElem?_replicate
def FO:=@PySem.F.args_tuple_lt_2
def FP:=@PySem.F.args_dict_get_3
def FR:=@Nat.add_sub_cancel_left
def FS:=@PySem.F.entry_list_iadd
def FT:=@Array.toList_eq_nil_iff
def FU:=@PySem.F.slot_tuple_rmul
def FV:=@List.getLast?_singleton
def FW:=@Nat.mul_div_cancel_left
def FX:=@Int.mul_ediv_mul_of_pos
def FY:=@decide_eq_false_iff_not
def FZ:=@List.of_mem_zip
def Fa:=@PySem.SeqAt.EqAt.same
def Fb:=@List.nil_append
def Fc:=@PySem.wpAny_dictEpoch
def Fd:=@PySem.wpAny_updateSeq
def Fe:=@List.getElem?_set_self
def Ff:=@Int.mul_one
def Fg:=@PyProof.noPylong_small
def Fh:=@PySem.W.cellsFrom_some
def Fi:=@PySem.F.entry_tuple_lt
def Fj:=@PySem.F.entry_dict_get
def Fk:=@Array.getElem?_extract
def Fl:=@List.getElem_cons_drop
def Fm:=@Int.add_mul
def Fn:=@PySem.wpAny_pyNext_range_end
def Fo:=@PySem.wpAny_pyIter_rangeiter
def Fp:=@PySem.richCompare_meets_room
def Fs:=@PySem.wpAny_Call_method_late
def Ft:=@PyProof.Rows.wpS_reverse
def Fu:=@PySem.codeAny_compStart_list
def Fv:=@PyProof.Rows.boot_sorted
def Fw:=@Bool.and_false
def Fx:=@Array.mem_of_getElem?
def Fy:=@PySem.Obj.isFreed_of_fields
def Fz:=@PySem.W.kat_lt
def F0:=@List.forIn_nil
def GI:=@PySem.F.slot_enumerate_next
def GQ:=@PySem.F.slot_int_rmul
def GV:=@PyProof.Rows.boot_any
def GY:=@PyProof.Rows.boot_sum
def GZ:=@List.getElem?_eq_none
def Ga:=@PyProof.Rows.boot_min
def Gb:=@PyProof.Rows.boot_abs
def Gc:=@PyProof.Rows.boot_max
def Gd:=@PySem.wpAny_isTrue_Compare1
def Ge:=@PySem.wpAny_isOneOf_keyiter
def Gf:=@PySem.isSubtype_stop
def Gh:=@List.getElem?_set_ne
def Gj:=@Nat.not_lt
def Gk:=@List.mem_of_mem_drop
def Gm:=@List.mem_of_getLast?
def Gn:=@List.getLast?_append
def Gr:=@Bool.false_or
def Gu:=@List.map_take
def Gv:=@PySem.CmpOf.ints_gt
def Gw:=@PySem.wpAny_standAt
def Gx:=@PySem.seq_tuple_add
def Gz:=@List.getElem_of_mem
def HA:=@List.filter_sublist
def HB:=@Nat.mul_le_mul_left
def HD:=@Nat.add_comm
def HE:=@Nat.sub_zero
def HF:=@List.any_map
def HG:=@Int.add_comm
def HH:=@Int.le_trans
def HI:=@Int.sub_zero
def HJ:=@Nat.gcd_comm
def HK:=@PySem.concat_meets
def HL:=@PySem.wpAny_typeOf
def HP:=@List.map_id
def HQ:=@Nat.pow_pos
set_option maxRecDepth 100000
noncomputable section
abbrev xX:=List Int
abbrev xY:=List PySem.Value
abbrev xZ:=PySem.Value→PySem.Shared→Prop
abbrev yA:=List (PySem.Addr×PySem.Obj)
abbrev yB:=List PySem.Str
abbrev yC:=List PySem.Addr
abbrev yD:=Option PySem.Value
abbrev yE:=List PySem.Expr
abbrev yF:=Array PySem.Value
abbrev yG:=PySem.W.Frag
abbrev yH:=PySem.Shared
abbrev yI:=PySem.Value
abbrev yJ:=PySem.Addr
abbrev yL:=PySem.Program
abbrev yM:=PySem.World
abbrev yN:=PySem.FuncData
abbrev yO:=PySem.NameKind
abbrev yP:=PySem.DictEntry
namespace L2
open PySem PySem.Spec PyProof.Rows
noncomputable abbrev IB:=Sum Int Str
noncomputable def RM:IB->yI->Bool
 |.inl k,v=>Value.isInt k v
 |.inr x,v=>Value.isStrOf x v
noncomputable def iV(w:yM):IB->Int
 |.inl k=>hashInt k
 |.inr x=>hashStr w x
theorem NI:∀{k:IB}{v:yI},RM k v=true->(∃i t,k=Sum.inl i/\v=Value.int i t)∨(∃x t,k=Sum.inr x/\v=Value.str x t)
 |.inl i,v,h=>by
  obtain⟨t,e⟩:=Value.isInt_shape (k:=i) (v:=v) h
  exact .inl ⟨i,t,rfl,e⟩
 |.inr x,v,h=>by
  obtain⟨t,e⟩:=Value.isStrOf_shape (x:=x) (v:=v) h
  exact .inr ⟨x,t,rfl,e⟩
theorem dC(i:Int)(t:Tok):RM (.inl i) (.int i t)=true:=by simp [RM,Value.isInt]
theorem gA(x:Str)(t:Tok):RM (.inr x) (.str x t)=true:=by simp [RM,Value.isStrOf]
theorem Yk(a b:Int):decide ((Sum.inl a:IB)=Sum.inl b)=(a==b):=by
 by_cases e:a=b
 ·subst e;simp
 ·have h:¬ (Sum.inl a:IB)=Sum.inl b:=λq=>e (Sum.inl.inj q)
  rw[Aa h]
  exact(beq_eq_false_iff_ne.mpr e).symm
theorem YW(a b:Str):decide ((Sum.inr a:IB)=Sum.inr b)=decide (a=b):=by
 by_cases e:a=b
 ·subst e;simp
 ·have h:¬ (Sum.inr a:IB)=Sum.inr b:=λq=>e (Sum.inr.inj q)
  rw[Aa h,Aa e]
theorem gY(a:Int)(b:Str):decide ((Sum.inl a:IB)=Sum.inr b)=false:=Aa (λq=>nomatch q)
theorem hV(a:Str)(b:Int):decide ((Sum.inr a:IB)=Sum.inl b)=false:=Aa (λq=>nomatch q)
noncomputable def KU(prog:yL)(w:yM):PySem.KeyKind prog w IB where
 is:=RM
 hash:=iV w
 inj:=λv a b ha hb=>by
  rcases NI ha with⟨i,t,rfl,rfl⟩|⟨x,t,rfl,rfl⟩
  ·rcases NI hb with⟨j,u,rfl,e⟩|⟨y,u,rfl,e⟩
   ·injection e with e1 _;rw[e1]
   ·exact nomatch e
  ·rcases NI hb with⟨j,u,rfl,e⟩|⟨y,u,rfl,e⟩
   ·exact nomatch e
   ·injection e with e1 _;rw[e1]
 byValue:=λk v h=>by
  rcases NI h with⟨i,t,rfl,rfl⟩|⟨x,t,rfl,rfl⟩<;>rfl
 pyHash:=λhv h=>by
  rcases NI hv with⟨i,t,rfl,rfl⟩|⟨x,t,rfl,rfl⟩
  ·exact wpAny_pyHash_int h
  ·exact wpAny_pyHash_str h
 eqBool:=λhu hv h=>by
  rcases NI hu with⟨i,t,rfl,rfl⟩|⟨x,t,rfl,rfl⟩
  ·rcases NI hv with⟨j,u,rfl,rfl⟩|⟨y,u,rfl,rfl⟩
   ·rw[Yk]at h;exact wpAny_eqBool_int h
   ·rw[gY]at h;exact SeqAt.EqAt.int_str i t y u _ _ _ _ h
  ·rcases NI hv with⟨j,u,rfl,rfl⟩|⟨y,u,rfl,rfl⟩
   ·rw[hV]at h;exact SeqAt.EqAt.str_int x t j u _ _ _ _ h
   ·rw[YW]at h;exact wpAny_eqBool_str h
 «strs»:=λk x t v h=>by
  rcases NI h with⟨i,u,rfl,e⟩|⟨y,u,rfl,e⟩
  ·exact nomatch e
  ·injection e with e1 _
   subst e1
   cases v<;>rfl
theorem dP(prog:yL)(w:yM)(i:Int)(t:Tok):(KU prog w).is (.inl i) (.int i t)=true:=dC i t
theorem pW(prog:yL)(w:yM)(x:Str)(t:Tok):(KU prog w).is (.inr x) (.str x t)=true:=gA x t
inductive V where
 |non|bl (b:Bool)|int (i:Int)|str (x:Str)|byt (b:Array UInt8)|flt (b:UInt64)|ref (a:yJ)|ty (n:String)
 deriving DecidableEq
noncomputable def HN:V->yI->Prop
 |.non,u=>u=Value.none
 |.bl b,u=>u=Value.bool b
 |.int i,u=>∃t,u=Value.int i t
 |.str x,u=>∃t,u=Value.str x t
 |.byt b,u=>∃t,u=Value.bytes b t
 |.flt b,u=>∃t,u=Value.float b t
 |.ref a,u=>u=Value.ref a
 |.ty n,u=>u=Value.type n
noncomputable abbrev HS:List V->xY->Prop:=Paired HN
theorem HS.length{xs:List V}{us:xY}(r:HS xs us):xs.length=us.length:=AM r
theorem HS.get:∀{xs:List V}{us:xY}{i:Nat}{x:V},HS xs us->xs[i]?=some x->∃u,us[i]?=some u/\HN x u
 |_,_,_,_,.nil,e=>by simp at e
 |_,_,0,_,.cons r _,e=>by simp at e;subst e;exact⟨_,rfl,r⟩
 |_,_,i+1,x,.cons _ t,e=>by
  obtain⟨u,h1,h2⟩:=HS.get (i:=i) (x:=x) t (by simpa using e)
  exact⟨u,by simpa using h1,h2⟩
theorem HS.set{x:V}{u:yI}(r:HN x u):∀{xs:List V}{us:xY}(i:Nat),HS xs us->HS (xs.set i x) (us.set i u)
 |_,_,_,.nil=>.nil
 |_,_,0,.cons _ t=>.cons r t
 |_,_,i+1,.cons q t=>.cons q (HS.set r i t)
theorem HS.append:∀{xs ys:List V}{us ws:xY},HS xs us->HS ys ws->HS (xs++ys) (us++ws)
 |_,_,_,_,.nil,s=>s
 |_,_,_,_,.cons r t,s=>.cons r (HS.append t s)
theorem HS.take:∀{xs:List V}{us:xY}(n:Nat),HS xs us->HS (xs.take n) (us.take n)
 |_,_,0,_=>.nil
 |_,_,_+1,.nil=>.nil
 |_,_,n+1,.cons r t=>.cons r (HS.take n t)
theorem HS.drop:∀{xs:List V}{us:xY}(n:Nat),HS xs us->HS (xs.drop n) (us.drop n)
 |_,_,0,r=>r
 |_,_,_+1,.nil=>.nil
 |_,_,n+1,.cons _ t=>HS.drop n t
noncomputable def JT:Option V->yD->Prop
 |some v,some u=>HN v u
 |none,none=>True
 |_,_=>False
noncomputable def KV{κ:Type}:List (κ×V)->List (κ×yI)->Prop:=Paired λ(p:κ×V)(q:κ×yI)=>p.1=q.1/\HN p.2 q.2
noncomputable def kV:IB->V
 |.inl i=>.int i
 |.inr x=>.str x
inductive HO where
 |lst (xs:List V)
 |tup (xs:List V)
 |dK (kvs:List (IB×V))|dT (kvs:List (List IB×V))
 |set (S:Int->Bool) (n:Nat)
 |ins (C dx:yJ) (fs:List (Str×V))
 |own (x:yJ)
 |xd (fs:List (Str×V))
 |met (f x:yJ)
 |rng (lo hi:Int)
 |frz (o:Obj) (u:HO)
 |tbl (ps:yF)
 |ext (φ:Heap->Prop)
noncomputable abbrev Hp:=yJ->Option HO
noncomputable def HV(H:Hp)(a:yJ)(o:HO):Hp:=λb=>if b=a then some o else H b
theorem HR{H:Hp}{a:yJ}{o:HO}:HV H a o a=some o:=by unfold HV;rw[AF rfl]
theorem Hw{H:Hp}{a b:yJ}{o:HO}(h:b≠a):HV H a o b=H b:=by unfold HV;rw[AD h]
theorem Jw{H:Hp}{a b:yJ}{o u:HO}(h:H a=some o)(h':H b=some u)(d:o≠u):a≠b:=by
 intro e;subst e;rw[h]at h';exact d (Aq h')
theorem Jd{H:Hp}{a b:yJ}{o:HO}(h:H a=some o)(h':H b=none):a≠b:=by
 intro e;subst e;rw[h]at h';cases h'
noncomputable def Jv(h:Heap)(a:yJ)(items:yF):Prop:=∃o,h.get? a=some o/\o.cls=.type "tuple" /\ ∃n,o.data=.seq items n/\o.dict=none
theorem Jv.tup{h:Heap}{a:yJ}{items:yF}(x:Jv h a items):IsTup h a items:=let ⟨o,e,c,n,d,_⟩:=x;⟨o,e,c,n,d⟩
theorem Jv.new(h:Heap)(items:yF):Jv (h.push { cls:=.type "tuple",data:=.seq items }) h.objs.size items:=⟨_,AW _ rfl,rfl,0,rfl,rfl⟩
section
variable(P:yL)(w:yM)
noncomputable def Hg(H:Hp)(h:Heap)(a:yJ):HO->Prop
 |.lst xs=>xs.length<=sizeLine/\∃(its:xY)(n:Nat),HS xs its/\h.get? a=some { cls:=.type "list",data:=.seq its.toArray n }
 |.tup xs=>xs.length<=sizeLine/\∃its:xY,HS xs its/\Jv h a its.toArray
 |.dK kvs=>kvs.length<=sizeLine/\(a==sysModules)=false/\∃vs,KV kvs vs/\h.DictOf (KU P w) a vs
 |.dT kvs=>kvs.length<=sizeLine/\(a==sysModules)=false/\∃xs:List (List IB×yJ×yI),
   Paired (λ(p:List IB×V)(q:List IB×yJ×yI)=>p.1=q.1/\H q.2.1=some (.tup (p.1.map kV))/\HN p.2 q.2.2) kvs xs /\
   ∃o es ep,h.get? a=some o/\o.ExactDict/\o.data=.dict es ep/\es.toList=xs.map (entryOfKey (tupleKind (KU P w)))/\(xs.map (·.1)).Nodup
 |.set S n=>h.SetOf (intKind P w) a S n
 |.ins C dx fs=>H dx=some (.own a)/\fs.length<=1000/\dx≠a/\h.get? a=some (W.instObj C dx) /\
   ∃mA,h.Ns1 dx mA/\(∀f,JT (fs.lookup f) (mA f))/\PySem.Within mA (fs.map (·.1))
 |.own _=>∃o,h.get? a=some o
 |.xd fs=>∃mA,h.Ns1 a mA/\∀f,JT (fs.lookup f) (mA f)
 |.rng lo hi=>∃t u v,h.get? a=some { cls:=.type "range",data:=.fields #[.int lo t,.int hi u,.int 1 v] }
 |.frz o u=>h.get? a=some o/\Hg H h a u
 |.tbl ps=>h.get? a=some { cls:=.none,data:=.fields ps }
 |.met f x=>h.get? a=some (W.methodObj (.ref f) (.ref x))
 |.ext φ=>φ h/\(∃o,h.get? a=some o)/\∀h1 h2:Heap,φ h1->(∀o,h1.get? a=some o->h2.get? a=some o)->φ h2
noncomputable def Ii(H:Hp)(h:Heap):Prop:=∀a o,H a=some o->Hg P w H h a o
end
section
variable{P:yL}{w:yM}{H H':Hp}{h h':Heap}{a:yJ}{o:HO}
theorem Hg.lt(x:Hg P w H h a o):a<h.objs.size:=by
 cases o with
 |lst xs=>obtain⟨_,_,_,_,e⟩:=x;exact AU e
 |tup xs=>obtain⟨_,_,_,p⟩:=x;exact p.tup.lt
 |dK kvs=>obtain⟨_,_,_,_,o,_,_,e,_⟩:=x;exact AU e
 |dT kvs=>obtain⟨_,_,_,_,o,_,_,e,_⟩:=x;exact AU e
 |set S n=>obtain⟨o,_,_,_,e,_⟩:=x;exact AU e
 |ins C dx fs=>obtain⟨_,_,_,e,_⟩:=x;exact AU e
 |own y=>obtain⟨_,e⟩:=x;exact AU e
 |xd fs=>obtain⟨_,⟨_,_,_,e,_⟩,_⟩:=x;exact AU e
 |rng lo hi=>obtain⟨_,_,_,e⟩:=x;exact AU e
 |frz ob u=>obtain⟨e,_⟩:=x;exact AU e
 |tbl ps=>exact AU (show h.get? a=some _ from x)
 |met f y=>exact AU (show h.get? a=some _ from x)
 |ext φ=>obtain⟨_,⟨_,e⟩,_⟩:=x;exact AU e
theorem Paired.mapP{α β:Type}{F G:α->β->Prop}:∀{l₁:List α}{l₂:List β},Paired F l₁ l₂->(∀a b,F a b->G a b)->Paired G l₁ l₂
 |_,_,.nil,_=>.nil
 |_,_,.cons r t,f=>.cons (f _ _ r) (Paired.mapP t f)
theorem Hg.stay(x:Hg P w H h a o)(k:∀b u,(b=a∨H b=some (.own a))->h.get? b=some u->h'.get? b=some u)
  (ho:∀b,H b=some (.own a)->H' b=some (.own a)) (ht:∀b xs,H b=some (.tup xs)->H' b=some (.tup xs)):Hg P w H' h' a o:=by
 induction o with
 |lst xs=>obtain⟨z,its,n,r,e⟩:=x;exact⟨z,its,n,r,k _ _ (.inl rfl) e⟩
 |tup xs=>obtain⟨z,its,r,ob,e,c⟩:=x;exact⟨z,its,r,ob,k _ _ (.inl rfl) e,c⟩
 |dK kvs=>obtain⟨z,y,vs,r,ob,es,ep,e,c⟩:=x;exact⟨z,y,vs,r,ob,es,ep,k _ _ (.inl rfl) e,c⟩
 |dT kvs =>
  obtain⟨z,y,xs,r,ob,es,ep,e,c⟩:=x
  exact⟨z,y,xs,Paired.mapP r λp q z=>⟨z.1,ht _ _ z.2.1,z.2.2⟩,ob,es,ep,k _ _ (.inl rfl) e,c⟩
 |set S n=>obtain⟨ob,es,ep,t,e,c⟩:=x;exact⟨ob,es,ep,t,k _ _ (.inl rfl) e,c⟩
 |ins C dx fs =>
  obtain⟨d,z,ne,e,mA,⟨od,es,ep,e2,c⟩,r⟩:=x
  exact⟨ho _ d,z,ne,k _ _ (.inl rfl) e,mA,⟨od,es,ep,k _ _ (.inr d) e2,c⟩,r⟩
 |own y=>obtain⟨ob,e⟩:=x;exact⟨ob,k _ _ (.inl rfl) e⟩
 |xd fs=>obtain⟨mA,⟨od,es,ep,e,c⟩,r⟩:=x;exact⟨mA,⟨od,es,ep,k _ _ (.inl rfl) e,c⟩,r⟩
 |rng lo hi=>obtain⟨t,u,v,e⟩:=x;exact⟨t,u,v,k _ _ (.inl rfl) e⟩
 |frz ob u ih=>obtain⟨e,q⟩:=x;exact⟨k _ _ (.inl rfl) e,ih q⟩
 |tbl ps =>
  have e:h.get? a=some { cls:=.none,data:=.fields ps }:=x
  show h'.get? a=some { cls:=.none,data:=.fields ps }
  exact k a _ (.inl rfl) e
 |met f y =>
  have e:h.get? a=some (W.methodObj (.ref f) (.ref y)):=x
  show h'.get? a=some (W.methodObj (.ref f) (.ref y))
  exact k a _ (.inl rfl) e
 |ext φ=>obtain⟨p,⟨o,e⟩,st⟩:=x;exact⟨st _ _ p λo q=>k _ _ (.inl rfl) q,⟨o,k _ _ (.inl rfl) e⟩,st⟩
theorem Ii.lt(x:Ii P w H h)(e:H a=some o):a<h.objs.size:=(x a o e).lt
theorem Ii.fresh(x:Ii P w H h)(e:h.objs.size<=a):H a=none:=by
 cases q:H a with
 |none=>rfl
 |some u=>exact absurd (Ax (x.lt q) e) (Bz _)
theorem Ii.kept(x:Ii P w H h)(k:∀b u,h.get? b=some u->h'.get? b=some u):Ii P w H h':=λa o e =>
 (x a o e).stay (λb u _ q=>k b u q) (λ_ q=>q) λ_ _ q=>q
theorem Ii.laid(x:Ii P w H h)(k:∀b u,h.get? b=some u->h'.get? b=some u)(hp:h.objs.size<=a)(new:Hg P w (HV H a o) h' a o):Ii P w (HV H a o) h':=λb u e=>by
 have hn:=x.fresh hp
 by_cases hb:b=a
 ·subst hb;rw[HR]at e;cases e;exact new
 ·rw[Hw hb]at e
  exact(x b u e).stay (λc v _ q=>k c v q) (λc q=>by rw[Hw (Jd q hn)];exact q) λc xs q=>by rw[Hw (Jd q hn)];exact q
end
noncomputable def Rd(H:Hp)(a:yJ)(u:HO):Prop:=H a=some u∨∃o,H a=some (.frz o u)
theorem Rd.of{H:Hp}{a:yJ}{u:HO}(h:H a=some u):Rd H a u:=.inl h
theorem Rd.ok{P:yL}{w:yM}{H:Hp}{h:Heap}{a:yJ}{u:HO}(r:Rd H a u)(x:Ii P w H h):Hg P w H h a u:=by
 rcases r with r|⟨o,r⟩
 ·exact x a u r
 ·obtain⟨_,q⟩:=x a _ r
  exact q
noncomputable def RW:Option HO->Prop
 |some (.lst _)=>True
 |some (.dK _)=>True
 |some (.dT _)=>True
 |some (.set _ _)=>True
 |some (.ins _ _ _)=>True
 |some (.ext _)=>True
 |_=>False
section
variable{P:yL}{w:yM}{H:Hp}{h h':Heap}{x e:yJ}{o':HO}
theorem Ii.write(ok:Ii P w H h)(mu:RW (H x))(he:e=x∨H e=some (.own x))(k:∀b u,b≠e->h.get? b=some u->h'.get? b=some u)(heo:∃u,h'.get? e=some u)
  (new:Hg P w (HV H x o') h' x o'):Ii P w (HV H x o') h':=λb u q=>by
 have nown:∀c y,H c=some (.own y)->c≠x:=λc y r z=>by subst z;rw[r]at mu;exact mu
 have ntup:∀c xs,H c=some (.tup xs)->c≠x:=λc xs r z=>by subst z;rw[r]at mu;exact mu
 by_cases hb:b=x
 ·subst hb;rw[HR]at q;cases q;exact new
 ·rw[Hw hb]at q
  by_cases hbe:b=e
  ·have q':H b=some (.own x):=by
    rcases he with z|z
    ·exact absurd (hbe.trans z) hb
    ·rw[hbe];exact z
   rw[q]at q';cases q'
   obtain⟨v,hv⟩:=heo
   exact⟨v,by rw[hbe];exact hv⟩
  ·refine(ok b u q).stay (λc v hc r=>k c v ?_ r) (λc r=>by rw[Hw (nown c b r)];exact r) λc xs r=>by rw[Hw (ntup c xs r)];exact r
   rcases hc with rfl|hc
   ·exact hbe
   ·rintro rfl
    rcases he with z|z
    ·exact nown c b hc z
    ·rw[hc]at z;cases z;exact hb rfl
end
structure Un(fs ex:yC)(H H':Hp)(h h':Heap):Prop where
 keep:∀b o,h.get? b=some o->H b=none->b∉fs->b∉ex->h'.get? b=some o
 slot:∀b o,h.get? b=some o->H b=none->b∈fs->b∉ex->∃sl,h'.get? b=some { o with slots:=sl }
 free:∀b o,h.get? b=some o->H b=none->b∉ex->H' b=none
 there:∀b o,h.get? b=some o->b∉ex->∃o',h'.get? b=some o'
 tups:∀b xs,H b=some (.tup xs)->H' b=some (.tup xs)
 frzs:∀b o u,H b=some (.frz o u)->H' b=some (.frz o u)
 tbls:∀b ps,H b=some (.tbl ps)->∃more,H' b=some (.tbl (ps++more))
section
variable{fs fs' ex ex':yC}{H H1 H2:Hp}{h h1 h2 h':Heap}{a x e:yJ}{o:HO}
theorem Un.any(u:Un fs ex H H1 h h1){b:yJ}{ob:Obj}(q:h.get? b=some ob)(n:H b=none)(hx:b∉ex):∃sl,h1.get? b=some { ob with slots:=sl }:=by
 by_cases hb:b∈fs
 ·exact u.slot b ob q n hb hx
 ·exact⟨ob.slots,u.keep b ob q n hb hx⟩
theorem Un.trans(a:Un fs ex H H1 h h1)(b:Un fs ex H1 H2 h1 h2):Un fs ex H H2 h h2 where
 keep:=λc ob q n hc hx=>b.keep c ob (a.keep c ob q n hc hx) (a.free c ob q n hx) hc hx
 slot:=λc ob q n hc hx=>by
  obtain⟨sl,e1⟩:=a.slot c ob q n hc hx
  obtain⟨sl',e2⟩:=b.slot c _ e1 (a.free c ob q n hx) hc hx
  exact⟨sl',e2⟩
 free:=λc ob q n hx=>by
  obtain⟨o',e1⟩:=a.there c ob q hx
  exact b.free c o' e1 (a.free c ob q n hx) hx
 there:=λc ob q hx=>by
  obtain⟨o',e1⟩:=a.there c ob q hx
  exact b.there c o' e1 hx
 tups:=λc xs q=>b.tups c xs (a.tups c xs q)
 frzs:=λc ob xs q=>b.frzs c ob xs (a.frzs c ob xs q)
 tbls:=λc ps q=>by
  obtain⟨m1,e1⟩:=a.tbls c ps q
  obtain⟨m2,e2⟩:=b.tbls c _ e1
  exact⟨m1++m2,by rw[e2,Array.append_assoc]⟩
theorem Un.kept(k:∀b u,h.get? b=some u->h'.get? b=some u):Un fs ex H H h h' :=
 ⟨λb ob q _ _ _=>k b ob q,λb ob q _ _ _=>⟨ob.slots,k b ob q⟩,λ_ _ _ n _=>n,λb ob q _=>⟨ob,k b ob q⟩,λ_ _ q=>q,λ_ _ _ q=>q,λ_ ps q=>⟨#[],by rw[q];simp⟩⟩
theorem Un.refl:Un fs ex H H h h:=Un.kept λ_ _ q=>q
theorem Un.laid(k:∀b u,h.get? b=some u->h'.get? b=some u)(hp:h.objs.size<=a)(hn:H a=none):Un fs ex H (HV H a o) h h' where
 keep:=λb u q _ _ _=>k b u q
 slot:=λb u q _ _ _=>⟨u.slots,k b u q⟩
 free:=λb u q n _=>by rw[Hw (Au (Ax (AU q) hp))];exact n
 there:=λb u q _=>⟨u,k b u q⟩
 tups:=λb xs q=>by rw[Hw (Jd q hn)];exact q
 frzs:=λb u xs q=>by rw[Hw (Jd q hn)];exact q
 tbls:=λb ps q=>⟨#[],by rw[Hw (Jd q hn),q];simp⟩
theorem Un.write(mu:RW (H x))(he:e=x∨H e=some (.own x))(k:∀b u,b≠e->h.get? b=some u->h'.get? b=some u)(heo:∃u,h'.get? e=some u):Un fs ex H (HV H x o) h h':=by
 have hx:∀b,H b=none->b≠x:=λb n z=>by subst z;rw[n]at mu;exact mu
 have hb:∀b,H b=none->b≠e:=λb n z=>by
  subst z
  rcases he with r|r
  ·exact hx b n r
  ·rw[n]at r;cases r
 have hm:∀b u,H b=some u->¬ RW (some u)->b≠x:=λb u q nm z=>by subst z;rw[q]at mu;exact nm mu
 refine⟨λb u q n _ _=>k b u (hb b n) q,λb u q n _ _=>⟨u.slots,k b u (hb b n) q⟩,λb u q n _=>by rw[Hw (hx b n)];exact n,λb u q _=>?_,
  λb xs q=>by rw[Hw (hm b _ q λz=>z)];exact q,λb u xs q=>by rw[Hw (hm b _ q λz=>z)];exact q,λb ps q=>⟨#[],by rw[Hw (hm b _ q λz=>z),q];simp⟩⟩
 by_cases hbe:b=e
 ·subst hbe;exact heo
 ·exact⟨u,k b u hbe q⟩
theorem Un.mono(u:Un fs ex H H1 h h1)(hs:∀b∈fs,b∈fs')(hx:∀b∈ex,b∈ex'):Un fs' ex' H H1 h h1 :=
 ⟨λb ob q n hb he=>u.keep b ob q n (λz=>hb (hs b z)) λz=>he (hx b z),λ_ _ q n _ he=>u.any q n λz=>he (hx _ z),λb ob q n he=>u.free b ob q n λz=>he (hx b z),λb ob q he=>u.there b ob q λz=>he (hx b z),u.tups,u.frzs,u.tbls⟩
end
noncomputable def V8(h:Heap)(H:Hp):yC:=(List.range h.objs.size).filter λa=>(H a).isSome
noncomputable def Ni(h:Heap)(H:Hp):Heap:=W.hideAll h (V8 h H)
theorem Yt(h:Heap)(H:Hp):(Ni h H).objs.size=h.objs.size:=W.hideAll_size _ _
theorem bV{h:Heap}{H:Hp}{b:yJ}{o:Obj}(e:h.get? b=some o)(n:H b=none):(Ni h H).get? b=some o :=
 W.hideAll_get _ e λhm=>by
  have q:(H b).isSome=true:=(BU.mp hm).2
  rw[n]at q;simp at q
theorem fZ{h:Heap}{H:Hp}{b:yJ}{o:Obj}(e:(Ni h H).get? b=some o):h.get? b=some o/\H b=none:=by
 have e':h.get? b=some o:=W.of_hideAll (V8 h H) e
 refine⟨e',?_⟩
 cases q:H b with
 |none=>rfl
 |some x =>
  have hm:b∈V8 h H:=BU.mpr ⟨Al.mpr (AU e'),by simp [q]⟩
  have z:(Ni h H).get? b=none:=W.hideAll_none (V8 h H) hm
  rw[z]at e;cases e
noncomputable def cN(g h:Heap)(L:yJ):yA:=(List.range h.objs.size).filterMap λa=>if a=L∨(g.get? a).isSome=true then none else (h.get? a).map λo=>(a,o)
noncomputable def Hl(g h:Heap)(L d:yJ):yA:=(cN g h L).filter λp=>decide (p.1≠d)
structure Mod(K:yG)(mg:Str->yD)(base:Heap):Prop where
 kin:K.In base
 glob:base.Ns mainGlobals mg
 blt:∃mb,base.Ns builtinsNs mb/\∀x:Str,x ≠ "__name__" -> mb x=bootBuiltins x
 nolimit:base.NoLimit
structure Cx where
 prog:yL
 w:yM
 K:yG
 mg:Str->yD
 base:Heap
 A:Around
 N:yB
 s₀:yH
 H₀:Hp
 env:Env
 outer:List Env
 stack:List Env
 ex:yC
 fn:Str->Bool
 calm:Bool
 pn:yA
 xe:xZ
noncomputable def Kc(l:List Env):yC:=l.filterMap (·.frame)
noncomputable abbrev Cx.fs(X:Cx):yC:=Kc X.outer
noncomputable def Ui(sc:Scope)(x:Str):Prop:=sc.names.lookup x=some .local∨sc.names.lookup x=some .cell∨sc.names.lookup x=some .free
noncomputable def Loc(sc:Scope)(x:Str):Prop:=sc.names.lookup x=some .local∨sc.names.lookup x=some .cell
noncomputable def YB(env:Env)(h:Heap)(m:Str->yD)(x:Str)(u:yI):Prop :=
 (env.kindOf x=some .local/\m x=some u)∨((env.kindOf x=some .cell∨env.kindOf x=some .free)/\∃c,env.cells.lookup x=some c/\h.IsCell c (some u))
structure Cx.Ok(X:Cx):Prop where
 mod:Mod X.K X.mg X.base
 kind:X.env.scope.kind=.function
 glob:X.env.globals=mainGlobals
 blt:X.env.builtins=builtinsNs
 above:X.s₀.heap.objs.size<=X.env.locals
 inj:∀x y c,X.env.cells.lookup x=some c->X.env.cells.lookup y=some c->x=y
 has:∀x,(X.env.kindOf x=some .cell∨X.env.kindOf x=some .free)->∃c,X.env.cells.lookup x=some c
 cab:∀x c,X.fn x=true->X.env.cells.lookup x=some c->X.s₀.heap.objs.size<=c
 hd:X.calm=true->X.A.handled=none
 frames:X.A.frames=some X.stack
 stk:X.stack=X.outer∨(X.stack=X.env::X.outer/\X.env.frame=some X.env.locals)
 exf:∀b∈X.ex,b≠X.env.locals/\∀x c,X.env.cells.lookup x=some c->c≠b
 bs:∀b o,X.base.get? b=some o->X.s₀.heap.get? b=some o/\X.H₀ b=none
 bsz:X.base.objs.size<=X.s₀.heap.objs.size
 noex:∀b o,X.base.get? b=some o->b∉X.ex
 exfs:∀b∈X.ex,b∉X.fs
 funs:X.s₀.heap.FunFrames X.base X.outer
 frf:∀b∈X.fs,X.H₀ b=none
structure Inv(X:Cx)(Fq:yA)(σ:List (Option V))(H:Hp)(s:yH):Prop where
 ok:X.Ok
 os:s.os=X.s₀.os
 bare:AllBare s.gens
 base:Un X.fs X.ex X.H₀ H X.s₀.heap s.heap
 loc:∃m,s.heap.Ns X.env.locals m/\∀(i:Nat)(x:Str)(v:V),X.N[i]?=some x->σ[i]?=some (some v)->Ui X.env.scope x->∃u,HN v u/\YB X.env s.heap m x u
 cell:∀x c,X.env.cells.lookup x=some c->∃v,s.heap.IsCell c v
 free:H X.env.locals=none
 freeC:∀x c,X.env.cells.lookup x=some c->H c=none
 pin:∀p∈X.pn++Fq,s.heap.get? p.1=some p.2/\H p.1=none/\p.1≠X.env.locals/\p.1∉X.fs/\∀v,p.2.data≠.cell v
 hok:Ii X.prog X.w H s.heap
 len:σ.length=X.N.length
section
variable{X:Cx}{Fq:yA}{σ:List (Option V)}{H H':Hp}{s:yH}{h':Heap}
theorem Cx.Ok.nofr(ok:X.Ok){b:yJ}{o:Obj}(e:X.base.get? b=some o):b∉X.fs:=λhb=>by
 have:=(ok.funs.mem hb).1
 rw[e]at this;cases this
theorem Inv.bs(I:Inv X Fq σ H s):∀b o,X.base.get? b=some o->s.heap.get? b=some o/\H b=none:=λb o e =>
 ⟨I.base.keep b o (I.ok.bs b o e).1 (I.ok.bs b o e).2 (I.ok.nofr e) (I.ok.noex b o e),I.base.free b o (I.ok.bs b o e).1 (I.ok.bs b o e).2 (I.ok.noex b o e)⟩
theorem Inv.bk(I:Inv X Fq σ H s):∀b o,X.base.get? b=some o->s.heap.get? b=some o:=λb o e=>(I.bs b o e).1
theorem Inv.mod(I:Inv X Fq σ H s):Mod X.K X.mg X.base:=I.ok.mod
theorem Inv.kIn(I:Inv X Fq σ H s):X.K.In s.heap:=I.ok.mod.kin.keeps I.bk
theorem Inv.nolimit(I:Inv X Fq σ H s):s.heap.NoLimit:=I.ok.mod.nolimit.keeps I.bk
theorem Inv.fr(I:Inv X Fq σ H s):∃m,Fr X.base X.env.locals s.heap m :=
 let ⟨m,hn,_⟩:=I.loc
 ⟨m,hn,I.bk,As I.ok.bsz I.ok.above⟩
theorem Inv.lt(I:Inv X Fq σ H s):X.env.locals<s.heap.objs.size:=let ⟨_,hn,_⟩:=I.loc;hn.lt
theorem Inv.sz(I:Inv X Fq σ H s):X.s₀.heap.objs.size<=s.heap.objs.size:=As I.ok.above (Bf I.lt)
theorem Inv.nofs(I:Inv X Fq σ H s){a:yJ}(h:s.heap.objs.size<=a):a∉X.fs:=λhb=>by
 obtain⟨_,o,ho,_⟩:=I.ok.funs.mem hb
 exact absurd (Ax (AU ho) (As I.sz h)) (Bz _)
theorem Inv.cne(I:Inv X Fq σ H s):∀x c,X.env.cells.lookup x=some c->c≠X.env.locals:=λx c e z=>by
 obtain⟨v,o,ho,hd⟩:=I.cell x c e
 obtain⟨m,⟨o',es,ep,ho',hd',_⟩,_⟩:=I.loc
 rw[z,ho']at ho;cases ho;rw[hd']at hd;cases hd
theorem Inv.funs(I:Inv X Fq σ H s):s.heap.FunFrames X.base X.outer:=by
 have all:∀(l:List Env),(∀b∈Kc l,b∈X.fs)->X.s₀.heap.FunFrames X.base l->s.heap.FunFrames X.base l:=by
  intro l
  induction l with
  |nil=>intro _ _;trivial
  |cons env r ih =>
   intro hs hl
   obtain⟨hk,⟨L,o,hf,hn,ho,hd⟩,hr⟩:=hl
   have hL:L∈X.fs:=hs L (by unfold Kc;rw[Bj,hf];exact AG)
   obtain⟨sl,e⟩:=I.base.slot L o ho (I.ok.frf L hL) hL λz=>I.ok.exfs L z hL
   exact⟨hk,⟨L,_,hf,hn,e,hd⟩,ih (λb hb=>hs b (by unfold Kc;rw[Bj,hf];exact AE _ hb)) hr⟩
 exact all X.outer (λ_ hb=>hb) I.ok.funs
theorem Inv.stack(I:Inv X Fq σ H s):s.heap.FunFrames X.base X.stack:=by
 rcases I.ok.stk with e|⟨e,hf⟩
 ·rw[e];exact I.funs
 ·rw[e]
  obtain⟨m,hn,_⟩:=I.loc
  refine .cons (by rw[I.ok.kind];decide) hf hn ?_ I.funs
  exact Heap.get?_none_of_le (As I.ok.bsz I.ok.above)
theorem Inv.stkSub(I:Inv X Fq σ H s):∀b∈Kc X.stack,b∈X.env.locals::X.fs:=λb hb=>by
 rcases I.ok.stk with e|⟨e,hf⟩
 ·rw[e]at hb;exact AE _ hb
 ·rw[e]at hb
  unfold Kc at hb
  rw[Bj,hf]at hb
  exact hb
theorem Inv.stkFree(I:Inv X Fq σ H s):∀b∈Kc X.stack,H b=none:=λb hb=>by
 rcases AY.mp (I.stkSub b hb) with e|hb
 ·rw[e];exact I.free
 ·obtain⟨_,o,ho,_⟩:=I.ok.funs.mem hb
  exact I.base.free b o ho (I.ok.frf b hb) λz=>I.ok.exfs b z hb
theorem Inv.step{g':Array GenState}{t':Nat}{d':Drawn}{ch:yC}(I:Inv X Fq σ H s)
  (hch:∀b∈ch,(b∈X.ex∨X.s₀.heap.objs.size<=b)/\b≠X.env.locals/\(∀x c,X.env.cells.lookup x=some c->c≠b)/\∀p∈X.pn++Fq,p.1≠b)
  (keep:∀b o,b≠X.env.locals->b∉X.fs->b∉ch->s.heap.get? b=some o->H b=none->h'.get? b=some o)
  (slot:∀b o,b≠X.env.locals->b∈X.fs->b∉ch->s.heap.get? b=some o->H b=none->∃sl,h'.get? b=some { o with slots:=sl }) (free:∀b o,b∉ch->s.heap.get? b=some o->H b=none->H' b=none)
  (there:∀b o,b∉ch->s.heap.get? b=some o->∃o',h'.get? b=some o')
  (tups:∀b xs,H b=some (.tup xs)->H' b=some (.tup xs)) (frzs:∀b o u,H b=some (.frz o u)->H' b=some (.frz o u)) (tbls:∀b ps,H b=some (.tbl ps)->∃more,H' b=some (.tbl (ps++more)))
  (ns:∀m,s.heap.Ns X.env.locals m->h'.Ns X.env.locals m) (hok:Ii X.prog X.w H' h') (hg:AllBare g') :
  Inv X Fq σ H' { s with heap:=h',gens:=g',drawn:=d',toks:=t' }:=by
 have neL:∀b o,X.s₀.heap.get? b=some o->b≠X.env.locals:=λb o e=>Au (Ax (AU e) I.ok.above)
 have neC:∀b o,X.s₀.heap.get? b=some o->b∉X.ex->b∉ch:=λb o e hx hb=>by
  rcases (hch b hb).1 with z|z
  ·exact hx z
  ·exact absurd (Ax (AU e) z) (Bz _)
 have cellK:∀x c,X.env.cells.lookup x=some c->∀v,s.heap.IsCell c v->h'.IsCell c v:=λx c e v ⟨o,ho,hd⟩=>by
  have nch:c∉ch:=λz=>(hch c z).2.2.1 x c e rfl
  by_cases hc:c∈X.fs
  ·obtain⟨sl,q⟩:=slot c o (I.cne x c e) hc nch ho (I.freeC x c e)
   exact⟨_,q,hd⟩
  ·exact⟨o,keep c o (I.cne x c e) hc nch ho (I.freeC x c e),hd⟩
 refine⟨I.ok,I.os,hg,⟨λb o e n hb hx=>?_,λb o e n hb hx=>?_,λb o e n hx=>?_,λb o e hx=>?_,λb xs e=>tups b xs (I.base.tups b xs e),λb o xs e=>frzs b o xs (I.base.frzs b o xs e),λb ps e=>?_⟩,?_,λx c e=>?_,?_,λx c e=>?_,λp hp=>?_,hok,I.len⟩
 ·exact keep b o (neL b o e) hb (neC b o e hx) (I.base.keep b o e n hb hx) (I.base.free b o e n hx)
 ·obtain⟨sl,e1⟩:=I.base.slot b o e n hb hx
  obtain⟨sl',e2⟩:=slot b _ (neL b o e) hb (neC b o e hx) e1 (I.base.free b o e n hx)
  exact⟨sl',e2⟩
 ·obtain⟨o',e1⟩:=I.base.there b o e hx
  exact free b o' (neC b o e hx) e1 (I.base.free b o e n hx)
 ·obtain⟨o',e1⟩:=I.base.there b o e hx
  exact there b o' (neC b o e hx) e1
 ·obtain⟨m1,e1⟩:=I.base.tbls b ps e
  obtain⟨m2,e2⟩:=tbls b _ e1
  exact⟨m1++m2,by rw[e2,Array.append_assoc]⟩
 ·obtain⟨m,hn,hl⟩:=I.loc
  refine⟨m,ns m hn,λi x v e1 e2 e3=>?_⟩
  obtain⟨u,r,l⟩:=hl i x v e1 e2 e3
  refine⟨u,r,?_⟩
  rcases l with l|⟨k,c,e,z⟩
  ·exact .inl l
  ·exact .inr ⟨k,c,e,cellK x c e _ z⟩
 ·obtain⟨v,z⟩:=I.cell x c e
  exact⟨v,cellK x c e v z⟩
 ·obtain⟨m,⟨o,_,_,ho,_⟩,_⟩:=I.loc
  exact free _ o (λz=>(hch _ z).2.1 rfl) ho I.free
 ·obtain⟨v,o,ho,hd⟩:=I.cell x c e
  exact free c o (λz=>(hch c z).2.2.1 x c e rfl) ho (I.freeC x c e)
 ·obtain⟨e,n,ne,nf,d⟩:=I.pin p hp
  have nch:p.1∉ch:=λz=>(hch p.1 z).2.2.2 p hp rfl
  exact⟨keep p.1 p.2 ne nf nch e n,free p.1 p.2 nch e n,ne,nf,d⟩
theorem Inv.un{t':Nat}(I:Inv X Fq σ H s)(u:Un X.fs [] H H' s.heap h')(hok:Ii X.prog X.w H' h'):Inv X Fq σ H' { s with heap:=h',toks:=t' }:=by
 obtain⟨m,⟨o,es,ep,ho,r⟩,_⟩:=id I.loc
 obtain⟨sl,hL⟩:=u.any ho I.free (by simp)
 exact I.step (g':=s.gens) (d':=s.drawn) (ch:=[]) (λ_ z=>nomatch z) (λb o _ hb _ e n=>u.keep b o e n hb (by simp)) (λb o _ hb _ e n=>u.slot b o e n hb (by simp)) (λb o _ e n=>u.free b o e n (by simp)) (λb o _ e=>u.there b o e (by simp)) u.tups u.frzs u.tbls (λm' hm=>by
  obtain⟨o',es',ep',ho',r'⟩:=hm
  rw[ho]at ho';cases ho'
  exact⟨_,es',ep',hL,r'⟩) hok I.bare
theorem Inv.call{g':Array GenState}{t':Nat}{d':Drawn}{ch:yC}(I:Inv X Fq σ H s)(u:Un (Kc X.stack) ch H H' s.heap h')(hok:Ii X.prog X.w H' h')(hg:AllBare g')
  (hch:∀b∈ch,(b∈X.ex∨X.s₀.heap.objs.size<=b)/\b≠X.env.locals/\(∀x c,X.env.cells.lookup x=some c->c≠b)/\∀p∈X.pn++Fq,p.1≠b) :
  Inv X Fq σ H' { s with heap:=h',gens:=g',drawn:=d',toks:=t' }:=by
 obtain⟨m,⟨o,es,ep,ho,r⟩,_⟩:=id I.loc
 obtain⟨sl,hL⟩:=u.any ho I.free λz=>(hch _ z).2.1 rfl
 exact I.step (ch:=ch) hch (λb o hL hb hc e n=>u.keep b o e n (λz=>(AY.mp (I.stkSub b z)).elim hL hb) hc) (λb o _ _ hc e n=>u.any e n hc) (λb o hc e n=>u.free b o e n hc) (λb o hc e=>u.there b o e hc) u.tups u.frzs u.tbls (λm' hm=>by
  obtain⟨o',es',ep',ho',r'⟩:=hm
  rw[ho]at ho';cases ho'
  exact⟨_,es',ep',hL,r'⟩) hok hg
theorem Inv.turned{t':Nat}{it:yJ}(I:Inv X Fq σ H s)(k:∀b o,b≠it->s.heap.get? b=some o->h'.get? b=some o)(hn:H it=none)(hL:it≠X.env.locals)
  (h1:it∈X.ex∨X.s₀.heap.objs.size<=it) (h2:∀x c,X.env.cells.lookup x=some c->c≠it) (h3:∀p∈X.pn++Fq,p.1≠it):Inv X Fq σ H { s with heap:=h',toks:=t' }:=by
 have nit:∀b u,H b=some u->b≠it:=λb u e z=>by rw[z,hn]at e;cases e
 refine I.step (g':=s.gens) (d':=s.drawn) (ch:=[it]) (λb hb=>?_) (λb o _ _ hc e _=>k b o (λz=>hc (by simp [z])) e) (λb o _ _ hc e _=>⟨o.slots,k b o (λz=>hc (by simp [z])) e⟩) (λ_ _ _ _ n=>n)
  (λb o hc e=>⟨o,k b o (λz=>hc (by simp [z])) e⟩) (λ_ _ e=>e) (λ_ _ _ e=>e) (λb ps e=>⟨#[],by rw[e];simp⟩) (λm hm=>?_) (λb u e=>?_) I.bare
 ·have e:b=it:=by simpa using hb
  subst e
  exact⟨h1,hL,h2,h3⟩
 ·obtain⟨o,es,ep,ho,r⟩:=hm
  exact⟨o,es,ep,k _ o (C3 hL) ho,r⟩
 ·refine(I.hok b u e).stay (λc v hc q=>k c v ?_ q) (λ_ q=>q) λ_ _ q=>q
  rcases hc with z|z
  ·rw[z];exact nit b u e
  ·exact nit c _ z
theorem Inv.tok(I:Inv X Fq σ H s)(t:Nat):Inv X Fq σ H { s with toks:=t }:=I.un (h':=s.heap) (t':=t) Un.refl I.hok
theorem Inv.kept{t':Nat}(I:Inv X Fq σ H s)(k:∀b u,s.heap.get? b=some u->h'.get? b=some u):Inv X Fq σ H { s with heap:=h',toks:=t' }:=I.un (Un.kept k) (I.hok.kept k)
theorem Inv.laid{a:yJ}{o:HO}{t':Nat}(I:Inv X Fq σ H s)(k:∀b u,s.heap.get? b=some u->h'.get? b=some u)(hp:s.heap.objs.size<=a)(new:Hg X.prog X.w (HV H a o) h' a o) :
  Inv X Fq σ (HV H a o) { s with heap:=h',toks:=t' }:=I.un (Un.laid k hp (I.hok.fresh hp)) (I.hok.laid k hp new)
theorem Inv.write{x e:yJ}{o:HO}{t':Nat}(I:Inv X Fq σ H s)(mu:RW (H x))(he:e=x∨H e=some (.own x))(k:∀b u,b≠e->s.heap.get? b=some u->h'.get? b=some u)(heo:∃u,h'.get? e=some u)
  (new:Hg X.prog X.w (HV H x o) h' x o):Inv X Fq σ (HV H x o) { s with heap:=h',toks:=t' }:=I.un (Un.write mu he k heo) (I.hok.write mu he k heo new)
theorem Inv.pins_of{pins':yA}(I:Inv X Fq σ H s)(h:∀p∈pins',s.heap.get? p.1=some p.2/\H p.1=none/\p.1≠X.env.locals/\p.1∉X.fs/\∀v,p.2.data≠.cell v):Inv X pins' σ H s :=
 ⟨I.ok,I.os,I.bare,I.base,I.loc,I.cell,I.free,I.freeC,λp hp=>(Ao.mp hp).elim (λz=>I.pin p (A0 _ z)) (h p),I.hok,I.len⟩
theorem Sb{N:yB}(hN:N.Nodup){i j:Nat}{x:Str}(a:N[i]?=some x)(b:N[j]?=some x):i=j:=by
 obtain⟨h1,e1⟩:=AZ.mp a
 obtain⟨h2,e2⟩:=AZ.mp b
 exact(List.getElem_inj hN).mp (e1.trans e2.symm)
theorem V5{M:Model}{A:Around}{E:xZ}{i:Nat}{x:Str}{v:V}{u:yI}{Q:Unit->yH->Prop}(I:Inv X Fq σ H s)(hN:X.N.Nodup)(hi:X.N[i]?=some x)(hx:Loc X.env.scope x)(r:HN v u)
  (h:∀s',Inv X Fq (σ.set i (some v)) H s'->(∃a,Heap.SameBut a s.heap s'.heap/\(a=X.env.locals∨X.env.cells.lookup x=some a))->Q () s') (hf:X.fn x=true∨X.env.scope.names.lookup x=some .local:=by first|exact .inl rfl|exact .inr rfl|assumption):wpAny M A (storeName X.env x u) Q E s:=by
 obtain⟨m,hn,hl⟩:=id I.loc
 have hcls:(X.env.scope.kind==.class||(X.env.scope.kind==.module&&X.env.locals != X.env.globals))=false:=by rw[I.ok.kind];rfl
 have hiσ:i<σ.length:=by rw[I.len];exact(AZ.mp hi).1
 have cne:=I.cne
 have tracked:∀{a:yJ}{h':Heap},(∃o,s.heap.get? a=some o/\H a=none)->Heap.SameBut a s.heap h'->Ii X.prog X.w H h':=λ{a h'} ha hs b ob e=>by
  obtain⟨_,_,hfree⟩:=ha
  refine(I.hok b ob e).stay (λc w' hc q=>(hs.2 c ?_).trans q) (λ_ q=>q) λ_ _ q=>q
  rintro rfl
  rcases hc with rfl|hc
  ·rw[hfree]at e;cases e
  ·rw[hfree]at hc;cases hc
 rcases hx with hk|hk
 ·refine wpAny_storeName_local hk hn (λh' hn' hs=>?_) hcls
  obtain⟨oL,_,_,hoL,_⟩:=id hn
  refine h _ ⟨I.ok,I.os,I.bare,⟨λb o e n hb hx=>?_,λb o e n hb hx=>?_,I.base.free,λb o e hx=>?_,I.base.tups,I.base.frzs,I.base.tbls⟩,⟨_,hn',λj y v' e1 e2 e3=>?_⟩,λy c e=>?_,I.free,I.freeC,λp hp=>?_,tracked ⟨oL,hoL,I.free⟩ hs,by simpa using I.len⟩ ⟨_,hs,.inl rfl⟩
  ·exact(hs.2 b (Au (Ax (AU e) I.ok.above))).trans (I.base.keep b o e n hb hx)
  ·obtain⟨sl,e1⟩:=I.base.slot b o e n hb hx
   exact⟨sl,(hs.2 b (Au (Ax (AU e) I.ok.above))).trans e1⟩
  ·obtain⟨o',e1⟩:=I.base.there b o e hx
   exact⟨o',(hs.2 b (Au (Ax (AU e) I.ok.above))).trans e1⟩
  ·by_cases hj:j=i
   ·subst hj
    rw[hi]at e1;cases e1
    rw[Fe hiσ]at e2
    cases e2
    exact⟨u,r,.inl ⟨hk,by simp⟩⟩
   ·rw[Gh (C3 hj)]at e2
    obtain⟨u',r',q⟩:=hl j y v' e1 e2 e3
    refine⟨u',r',?_⟩
    rcases q with⟨k,e⟩|⟨k,c,e,z⟩
    ·refine .inl ⟨k,?_⟩
     have:y≠x:=λe=>hj (Sb hN e1 (e▸hi))
     simp [this,e]
    ·exact .inr ⟨k,c,e,z.sameBut hs (cne y c e)⟩
  ·obtain⟨w',z⟩:=I.cell y c e
   exact⟨w',z.sameBut hs (cne y c e)⟩
  ·obtain⟨e,n,ne,nf,d⟩:=I.pin p hp
   exact⟨(hs.2 p.1 ne).trans e,n,ne,nf,d⟩
 ·have hfn:X.fn x=true:=by
   rcases hf with z|z
   ·exact z
   ·rw[z]at hk;cases hk
  obtain⟨c,hc⟩:=I.ok.has x (.inl hk)
  obtain⟨w',z⟩:=I.cell x c hc
  refine wpAny_storeName_cell I.ok.kind hk hc z (λh' hc' hs=>?_)
  obtain⟨oc,hoc,hocd⟩:=id z
  refine h { s with heap:=h' } ⟨I.ok,I.os,I.bare,⟨λb o e n hb hx=>?_,λb o e n hb hx=>?_,I.base.free,λb o e hx=>?_,I.base.tups,I.base.frzs,I.base.tbls⟩,⟨m,hn.sameBut hs (C3 (cne x c hc)),λj y v' e1 e2 e3=>?_⟩,λy c' e=>?_,I.free,I.freeC,λp hp=>?_,tracked ⟨oc,hoc,I.freeC x c hc⟩ hs,by simpa using I.len⟩ ⟨c,hs,.inr hc⟩
  ·exact(hs.2 b (Au (Ax (AU e) (I.ok.cab x c hfn hc)))).trans (I.base.keep b o e n hb hx)
  ·obtain⟨sl,e1⟩:=I.base.slot b o e n hb hx
   exact⟨sl,(hs.2 b (Au (Ax (AU e) (I.ok.cab x c hfn hc)))).trans e1⟩
  ·obtain⟨o',e1⟩:=I.base.there b o e hx
   exact⟨o',(hs.2 b (Au (Ax (AU e) (I.ok.cab x c hfn hc)))).trans e1⟩
  ·by_cases hj:j=i
   ·subst hj
    rw[hi]at e1;cases e1
    rw[Fe hiσ]at e2
    cases e2
    exact⟨u,r,.inr ⟨.inl hk,c,hc,hc'⟩⟩
   ·rw[Gh (C3 hj)]at e2
    obtain⟨u',r',q⟩:=hl j y v' e1 e2 e3
    refine⟨u',r',?_⟩
    rcases q with q|⟨k,c',e,z'⟩
    ·exact .inl q
    ·refine .inr ⟨k,c',e,z'.sameBut hs ?_⟩
     rintro rfl
     exact hj (Sb hN e1 (I.ok.inj _ _ _ e hc▸hi))
  ·by_cases hcc:c'=c
   ·subst hcc;exact⟨_,hc'⟩
   ·obtain⟨w2,z2⟩:=I.cell y c' e
    exact⟨w2,z2.sameBut hs hcc⟩
  ·obtain⟨e,n,ne,nf,d⟩:=I.pin p hp
   refine⟨(hs.2 p.1 ?_).trans e,n,ne,nf,d⟩
   intro q
   rw[q,hoc]at e
   have q':oc=p.2:=Aq e
   exact d w' (by rw[<-q'];exact hocd)
theorem Wf{M:Model}{A:Around}{E:xZ}{i:Nat}{x:Str}{v:V}{u:yI}{Q:Unit->yH->Prop}(I:Inv X Fq σ H s)(hN:X.N.Nodup)(hi:X.N[i]?=some x)(hx:Loc X.env.scope x)(r:HN v u)
  (h:∀s',Inv X Fq (σ.set i (some v)) H s'->Q () s') (hf:X.fn x=true∨X.env.scope.names.lookup x=some .local:=by first|exact .inl rfl|exact .inr rfl|assumption):wpAny M A (storeName X.env x u) Q E s :=
 V5 I hN hi hx r (λs' I' _=>h s' I') hf
theorem Inv.call'{s':yH}{ch:yC}(I:Inv X Fq σ H s)(ho:s'.os=s.os)(u:Un (Kc X.stack) ch H H' s.heap s'.heap)(hok:Ii X.prog X.w H' s'.heap)(hg:AllBare s'.gens)
  (hch:∀b∈ch,(b∈X.ex∨X.s₀.heap.objs.size<=b)/\b≠X.env.locals/\(∀x c,X.env.cells.lookup x=some c->c≠b)/\∀p∈X.pn++Fq,p.1≠b):Inv X Fq σ H' s':=by
 obtain⟨h',g',d',t',o'⟩:=s'
 have e:o'=s.os:=ho
 subst e
 exact I.call (g':=g') (t':=t') (d':=d') u hok hg hch
end
noncomputable abbrev XK:=yI->Option yJ->Hp->Prop
noncomputable abbrev St:=List (Option V)
noncomputable abbrev VK:=V->Hp->Prop
noncomputable abbrev TE:=St->Hp->VK->Prop
noncomputable abbrev TT:=St->Hp->(Bool->Hp->Prop)->Prop
noncomputable abbrev TA:=St->Hp->(List V->Hp->Prop)->Prop
structure Jx where
 nx:St->Hp->Prop
 rt:VK
 bk:St->Hp->Prop:=λ_ _=>False
 ct:St->Hp->Prop:=λ_ _=>False
noncomputable abbrev TS:=Jx->St->Hp->Prop
noncomputable def EP(X:Cx)(Fq:yA)(σ:St)(Q:VK)(u:yI)(s':yH):Prop:=∃v H',Inv X Fq σ H' s'/\HN v u/\Q v H'
noncomputable def TP(X:Cx)(Fq:yA)(σ:St)(Q:Bool->Hp->Prop)(b:Bool)(s':yH):Prop:=∃H',Inv X Fq σ H' s'/\Q b H'
noncomputable def AP(X:Cx)(Fq:yA)(σ:St)(Q:List V->Hp->Prop)(us:xY)(s':yH):Prop:=∃vs H',Inv X Fq σ H' s'/\HS vs us/\Q vs H'
noncomputable def SP(X:Cx)(Fq:yA)(D:Jx)(f:Flow)(s':yH):Prop :=
 match f with
 |.next=>∃σ' H',Inv X Fq σ' H' s'/\D.nx σ' H'
 |.brk=>∃σ' H',Inv X Fq σ' H' s'/\D.bk σ' H'
 |.cont=>∃σ' H',Inv X Fq σ' H' s'/\D.ct σ' H'
 |.ret u=>∃v σ' H',Inv X Fq σ' H' s'/\HN v u/\D.rt v H'
noncomputable def PE(X:Cx)(e:Expr)(t:TE):Prop :=
 ∀(Fq:yA)(s:yH)(σ:St)(H:Hp)(Q:VK),Inv X Fq σ H s->t σ H Q->wpAny (model X.prog X.w) X.A (eval e X.env) (EP X Fq σ Q) X.xe s
noncomputable def PT(X:Cx)(e:Expr)(t:TT):Prop :=
 ∀(Fq:yA)(s:yH)(σ:St)(H:Hp)(Q:Bool->Hp->Prop),Inv X Fq σ H s->t σ H Q->wpAny (model X.prog X.w) X.A (isTrue e X.env (eval e X.env)) (TP X Fq σ Q) X.xe s
noncomputable def PW(X:Cx)(e:Expr)(t:TT):Prop :=
 ∀(whole:Sem yI)(Fq:yA)(s:yH)(σ:St)(H:Hp)(Q:Bool->Hp->Prop),Inv X Fq σ H s->t σ H Q->wpAny (model X.prog X.w) X.A (isTrue e X.env whole) (TP X Fq σ Q) X.xe s
theorem PW.pt{X:Cx}{e:Expr}{t:TT}(h:PW X e t):PT X e t:=h _
noncomputable def PA(X:Cx)(es:yE)(t:TA):Prop :=
 ∀(pos:Pos)(Fq:yA)(s:yH)(σ:St)(H:Hp)(Q:List V->Hp->Prop),Inv X Fq σ H s->t σ H Q->wpAny (model X.prog X.w) X.A (spliced (backTo pos (starEach es X.env))) (AP X Fq σ Q) X.xe s
noncomputable def PS(X:Cx)(st:Stmt)(t:TS):Prop :=
 ∀(Fq:yA)(s:yH)(σ:St)(H:Hp)(D:Jx),Inv X Fq σ H s->t D σ H->wpAny (model X.prog X.w) X.A (exec st X.env) (SP X Fq D) X.xe s
noncomputable def KA(X:Cx)(st:List Stmt)(t:TS):Prop :=
 ∀(Fq:yA)(s:yH)(σ:St)(H:Hp)(D:Jx),Inv X Fq σ H s->t D σ H->wpAny (model X.prog X.w) X.A (execs st X.env) (SP X Fq D) X.xe s
theorem Hk{α:Type}{t:Sem α}{Q Q':α->yH->Prop}{M:Model}{A:Around}{E:xZ}{s:yH}(h:wpAny M A t Q E s)(hQ:∀a s,Q a s->Q' a s):wpAny M A t Q' E s:=B8 h hQ λ_ _ x=>x
section
variable{X:Cx}
theorem bin{a b:Expr}{ta tb:TE}(ha:PE X a ta)(hb:PE X b tb){Fq:yA}{s:yH}{σ:St}{H:Hp}{R:V->V->Hp->Prop}(I:Inv X Fq σ H s)(h:ta σ H λx H1=>tb σ H1 λy H2=>R x y H2)
  {α:Type} {Q:α->yH->Prop} {f:yI->yI->Sem α}
  (hf:∀v u s2 x y H2,Inv X Fq σ H2 s2->HN x v->HN y u->R x y H2->wpAny (model X.prog X.w) X.A (f v u) Q X.xe s2) :
  wpAny (model X.prog X.w) X.A (eval a X.env) (λv s₁=>wpAny (model X.prog X.w) X.A (eval b X.env) (λu s₂=>wpAny (model X.prog X.w) X.A (f v u) Q X.xe s₂) X.xe s₁) X.xe s:=by
 refine Hk (ha Fq s σ H _ I h) λv s1 ⟨x,H1,I1,r1,q1⟩=>?_
 refine Hk (hb Fq s1 σ H1 _ I1 q1) λu s2 ⟨y,H2,I2,r2,q2⟩=>?_
 exact hf v u s2 x y H2 I2 r1 r2 q2
noncomputable def WC(i:Nat):TE:=λσ H Q=>∃v,σ[i]?=some (some v)/\Q v H
noncomputable def tC(v:V):TE:=λ_ H Q=>Q v H
theorem kE{i:Nat}{x:Str}{pos:Pos}(hN:X.N[i]?=some x)(hv:Ui X.env.scope x)(hd:(x==("__debug__" : Str))=false:=by decide)(hcd:(x==("__classdict__" : Str))=false:=by decide):PE X (.Name x pos) (WC i):=by
 intro Fq s σ H Q I h
 obtain⟨v,e,h⟩:=h
 obtain⟨m,hn,hl⟩:=I.loc
 obtain⟨u,r,l⟩:=hl i x v hN e hv
 have fin:EP X Fq σ Q u s:=⟨v,H,I,r,h⟩
 rcases l with⟨hk,hm⟩|⟨hk,c,hc,hcell⟩
 ·exact wpAny_Name (wpAny_loadName_local I.ok.kind hk hn hm fin) hd
 ·rcases hk with hk|hk
  ·exact wpAny_Name (wpAny_loadName_cell I.ok.kind hk hc hcell fin) hd
  ·exact wpAny_Name (wpAny_loadName_free I.ok.kind hk hc hcell fin hcd) hd
theorem Ha{i j pos}:PE X (.Constant (.int i) j pos) (tC (.int i)):=λ_ _ _ H _ I h=>wpAny_Constant_int ⟨.int i,H,I.tok _,⟨_,rfl⟩,h⟩
theorem Ms{b j pos}:PE X (.Constant (.bool b) j pos) (tC (.bl b)):=λ_ _ _ H _ I h=>Constant_bool ⟨.bl b,H,I,rfl,h⟩
theorem Ul{j pos}:PE X (.Constant .none j pos) (tC .non):=λ_ _ _ H _ I h=>Constant_none ⟨.non,H,I,rfl,h⟩
theorem LV{x j pos}:PE X (.Constant (.str x) j pos) (tC (.str x)):=λ_ _ _ H _ I h=>Calls.Constant_str ⟨.str x,H,I.tok _,⟨_,rfl⟩,h⟩
noncomputable def Gl(X:Cx)(x:Str):Prop:=X.env.kindOf x=some .globalImplicit
theorem SX{E:xZ}{Fq:yA}{s:yH}{σ:St}{H:Hp}{x:Str}{u:yI}{pos:Pos}{Q:xZ}(I:Inv X Fq σ H s)(hg:Gl X x)(hm:X.mg x=some u)(h:Q u s)
  (hd:(x==("__debug__" : Str))=false:=by decide):wpAny (model X.prog X.w) X.A (eval (.Name x pos) X.env) Q E s :=
 El I.ok.kind hg (Calls.loadGlobal_global (by rw[I.ok.glob];exact I.mod.glob.keeps I.bk) hm h) hd
theorem Ks{E:xZ}{Fq:yA}{s:yH}{σ:St}{H:Hp}{x:Str}{u:yI}{pos:Pos}{Q:xZ}(I:Inv X Fq σ H s)(hg:Gl X x)(hm:X.mg x=none)(hv:bootBuiltins x=some u)(h:Q u s)
  (hn:x ≠ "__name__" := by decide) (hd:(x==("__debug__" : Str))=false:=by decide):wpAny (model X.prog X.w) X.A (eval (.Name x pos) X.env) Q E s:=by
 obtain⟨mb,h1,h2⟩:=I.mod.blt
 exact El I.ok.kind hg (Calls.loadGlobal_builtin (by rw[I.ok.glob];exact I.mod.glob.keeps I.bk) hm (by rw[I.ok.blt];exact h1.keeps I.bk) ((h2 x hn).trans hv) h) hd
theorem OZ{x:Str}{v:V}{u:yI}{pos:Pos}(hg:Gl X x)(hm:X.mg x=some u)(r:HN v u)(hd:(x==("__debug__" : Str))=false:=by decide):PE X (.Name x pos) (tC v) :=
 λ_ _ _ H _ I h=>SX I hg hm ⟨v,H,I,r,h⟩ hd
theorem Qr{x:Str}{v:V}{u:yI}{pos:Pos}(hg:Gl X x)(hm:X.mg x=none)(hv:bootBuiltins x=some u)(r:HN v u)(hn:x ≠ "__name__" := by decide)(hd:(x==("__debug__" : Str))=false:=by decide):PE X (.Name x pos) (tC v) :=
 λ_ _ _ H _ I h=>Ks I hg hm hv ⟨v,H,I,r,h⟩ hn hd
variable{a b:Expr}{ta tb:TE}{pos:Pos}
noncomputable def PC(X:Cx)(op:CmpOp)(a b:Expr)(t:TE):Prop :=
 ∀(Fq:yA)(s:yH)(σ:St)(H:Hp)(Q:VK),Inv X Fq σ H s->t σ H Q ->
  wpAny (model X.prog X.w) X.A (eval a X.env) (λv s₁=>wpAny (model X.prog X.w) X.A (eval b X.env) (λu s₂=>wpAny (model X.prog X.w) X.A (compareOp op v u) (EP X Fq σ Q) X.xe s₂) X.xe s₁) X.xe s
theorem Zf(b:Expr){op:CmpOp}(h:op≠.In)(h2:op≠.NotIn):behindInMarks op b=false:=by
 have e1:(op==CmpOp.In)=false:=by cases op<;>first|rfl|exact absurd rfl h
 have e2:(op==CmpOp.NotIn)=false:=by cases op<;>first|rfl|exact absurd rfl h2
 cases b<;>simp [behindInMarks,e1,e2]
noncomputable def tB(t:TE):TT:=λσ H Q=>t σ H λx H1=>∃c,x=.bl c/\Q c H1
theorem xB{op:CmpOp}{t:TE}(h:PC X op a b t)(h1:behindInMarks op b=false:=by first|exact Zf _ (by decide) (by decide)|rfl):PT X (.Compare a [op] [b] pos) (tB t):=by
 intro Fq s σ H Q I hw
 refine Gd (Hk (h Fq s σ H _ I hw) λv s1 h1=>Hk h1 λu s2 h2=>Hk h2 λc s3 ⟨x,H1,I1,r1,q1⟩=>?_) h1
 obtain⟨d,rfl,q⟩:=q1
 cases r1
 exact CD ⟨H1,I1,q⟩
theorem Ku{e:Expr}{t:TE}(h:PE X e t)(he:∀whole,isTrue e X.env whole=(do let v <-whole;standAt e.pos;holding [v] (truthy v)):=by intro _;rfl):PT X e (tB t):=by
 intro Fq s σ H Q I hw
 refine isTrue_plain (Hk (h Fq s σ H _ I hw) λv s1 ⟨x,H1,I1,r1,q1⟩=>?_) (he _)
 obtain⟨d,rfl,q⟩:=q1
 cases r1
 exact CD ⟨H1,I1,q⟩
variable{tA tB':TT}{Hl:yE}
noncomputable def bZ(t u:TT):TT:=λσ H Q=>t σ H λc H1=>if c=true then u σ H1 Q else Q false H1
noncomputable def wZ(t u:TT):TT:=λσ H Q=>t σ H λc H1=>if c=true then Q true H1 else u σ H1 Q
noncomputable def YC(t:TT):TT:=λσ H Q=>t σ H λc H1=>Q (!c) H1
theorem PL(ha:PT X a tA):PW X (.BoolOp .And [a] pos) tA:=by
 intro wh Fq s σ H Q I h
 refine isTrue_and (Hk (ha Fq s σ H Q I h) λc s1 e=>?_)
 cases c with
 |true=>exact isTrue_and_nil e
 |false=>exact e
theorem Nu(ha:PT X a tA):PW X (.BoolOp .Or [a] pos) tA:=by
 intro wh Fq s σ H Q I h
 refine isTrue_or (Hk (ha Fq s σ H Q I h) λc s1 e=>?_)
 cases c with
 |false=>exact isTrue_or_nil e
 |true=>exact e
theorem PJ(ha:PT X a tA)(hb:PW X (.BoolOp .And (b::Hl) pos) tB'):PW X (.BoolOp .And (a::b::Hl) pos) (bZ tA tB'):=by
 intro wh Fq s σ H Q I h
 refine isTrue_and (Hk (ha Fq s σ H _ I h) λc s1 ⟨H1,I1,q1⟩=>?_)
 cases c with
 |true=>exact hb wh Fq s1 σ H1 Q I1 q1
 |false=>exact⟨H1,I1,q1⟩
theorem K7(ha:PT X a tA)(hb:PW X (.BoolOp .Or (b::Hl) pos) tB'):PW X (.BoolOp .Or (a::b::Hl) pos) (wZ tA tB'):=by
 intro wh Fq s σ H Q I h
 refine isTrue_or (Hk (ha Fq s σ H _ I h) λc s1 ⟨H1,I1,q1⟩=>?_)
 cases c with
 |true=>exact⟨H1,I1,q1⟩
 |false=>exact hb wh Fq s1 σ H1 Q I1 q1
theorem Mq(ha:PT X a tA):PT X (.UnaryOp .Not a pos) (YC tA):=by
 intro Fq s σ H Q I h
 exact isTrue_not (ha Fq s σ H (λc H1=>Q (!c) H1) I h)
noncomputable def gN(ta tb:TE):TE:=λσ H Q=>ta σ H λx H1=>∃c,x=.bl c/\if c=true then tb σ H1 Q else Q (.bl false) H1
noncomputable def hJ(ta:TE):TE:=λσ H Q=>ta σ H λx H1=>∃c,x=.bl c/\Q (.bl (!c)) H1
theorem Uj{op}{t:TE}(h:PE X a t):PE X (.BoolOp op [a] pos) t:=λFq s σ H Q I hw=>BoolOp_one (h Fq s σ H Q I hw)
theorem To(ha:PE X a ta)(hb:PE X (.BoolOp .And (b::Hl) pos) tb):PE X (.BoolOp .And (a::b::Hl) pos) (gN ta tb):=by
 intro Fq s σ H Q I h
 refine BoolOp_and (Hk (ha Fq s σ H _ I h) λv s1 ⟨x,H1,I1,r1,q1⟩=>?_)
 obtain⟨c,rfl,q1⟩:=q1
 cases r1
 refine CD ?_
 cases c with
 |true=>exact hb Fq s1 σ H1 Q I1 q1
 |false=>exact⟨.bl false,H1,I1,rfl,q1⟩
theorem dQ(ha:PE X a ta):PE X (.UnaryOp .Not a pos) (hJ ta):=by
 intro Fq s σ H Q I h
 refine UnaryOp_ (Hk (ha Fq s σ H _ I h) λv s1 ⟨x,H1,I1,r1,q1⟩=>?_)
 obtain⟨c,rfl,q1⟩:=q1
 cases r1
 exact not_of (CD ⟨.bl (!c),H1,I1,rfl,q1⟩)
noncomputable def xA(t:TT)(ta tb:TE):TE:=λσ H Q=>t σ H λc H1=>if c=true then ta σ H1 Q else tb σ H1 Q
theorem oE{c:Expr}(hc:PT X c tA)(ha:PE X a ta)(hb:PE X b tb):PE X (.IfExp c a b pos) (xA tA ta tb):=by
 intro Fq s σ H Q I h
 refine wpAny_IfExp (Hk (hc Fq s σ H _ I h) λd s1 ⟨H1,I1,q1⟩=>?_)
 cases d with
 |true=>exact ha Fq s1 σ H1 Q I1 q1
 |false=>exact hb Fq s1 σ H1 Q I1 q1
end
noncomputable def HU(K:yG)(H:Hp)(a:yJ)(xs:List V):Prop :=
 Rd H a (.lst xs) ∨
  ∃(o:Obj)(its:yF)(n:Nat),K.lookup a=some o/\o.cls=.type "list" /\ o.dict=none/\o.data=.seq its n/\its.size<=sizeLine/\HS xs its.toList
noncomputable def HM(K:yG)(H:Hp)(a:yJ)(xs:List V):Prop :=
 Rd H a (.tup xs) ∨
  ∃(o:Obj)(its:yF)(n:Nat),K.lookup a=some o/\o.cls=.type "tuple" /\ o.data=.seq its n/\its.size<=sizeLine/\HS xs its.toList
noncomputable def gJ:yI->Option V
 |.none=>some .non
 |.bool b=>some (.bl b)
 |.int i _=>some (.int i)
 |.str x _=>some (.str x)
 |.bytes b _=>some (.byt b)
 |.float b _=>some (.flt b)
 |.ref a=>some (.ref a)
 |.type n=>some (.ty n)
 |_=>none
theorem HN.abs{x:V}{u:yI}(r:HN x u):gJ u=some x:=by
 cases x with
 |non=>cases r;rfl
 |bl _=>cases r;rfl
 |int _=>obtain⟨t,rfl⟩:=r;rfl
 |str _=>obtain⟨t,rfl⟩:=r;rfl
 |byt _=>obtain⟨t,rfl⟩:=r;rfl
 |flt _=>obtain⟨t,rfl⟩:=r;rfl
 |ref _=>cases r;rfl
 |ty _=>cases r;rfl
theorem HN.inj{x y:V}{u:yI}(r:HN x u)(q:HN y u):x=y:=Aq (r.abs.symm.trans q.abs)
theorem HS.inj:∀{xs ys:List V}{us:xY},HS xs us->HS ys us->xs=ys
 |_,_,_,.nil,.nil=>rfl
 |_,_,_,.cons r t,.cons r' t'=>by rw[r.inj r',HS.inj t t']
section
variable{X:Cx}{Fq:yA}{σ:St}{H:Hp}{s:yH}{a:yJ}{xs ys:List V}
theorem HU.of{K:yG}(h:H a=some (.lst xs)):HU K H a xs:=.inl (.inl h)
theorem HM.of{K:yG}(h:H a=some (.tup xs)):HM K H a xs:=.inl (.inl h)
theorem Inv.list(I:Inv X Fq σ H s)(h:HU X.K H a xs):∃its:xY,HS xs its/\PlainL s.heap a its.toArray/\xs.length<=sizeLine:=by
 rcases h with h|⟨o,its,n,hk,hc,hd,hs,hz,r⟩
 ·obtain⟨z,its,n,r,e⟩:=h.ok I.hok
  exact⟨its,r,⟨_,n,e,rfl,rfl,rfl⟩,z⟩
 ·refine⟨its.toList,r,⟨o,n,I.kIn a o hk,hc,hd,by simpa using hs⟩,?_⟩
  have e:=r.length
  simp only[AV]at e
  lia
theorem Inv.tuple(I:Inv X Fq σ H s)(h:HM X.K H a xs):∃its:xY,HS xs its/\IsTup s.heap a its.toArray/\xs.length<=sizeLine:=by
 rcases h with h|⟨o,its,n,hk,hc,hs,hz,r⟩
 ·obtain⟨z,its,r,p⟩:=h.ok I.hok
  exact⟨its,r,p.tup,z⟩
 ·refine⟨its.toList,r,⟨o,I.kIn a o hk,hc,n,by simpa using hs⟩,?_⟩
  have e:=r.length
  simp only[AV]at e
  lia
theorem Inv.list_inj(I:Inv X Fq σ H s)(h:HU X.K H a xs)(h':HU X.K H a ys):xs=ys:=by
 obtain⟨its,r,⟨o,n,e,_,_,d⟩,_⟩:=I.list h
 obtain⟨its',r',⟨o',n',e',_,_,d'⟩,_⟩:=I.list h'
 rw[e]at e';cases e'
 rw[d]at d'
 injection d' with d1 _
 have:its=its':=by simpa using congrArg Array.toList d1
 subst this
 exact r.inj r'
theorem Inv.tuple_inj(I:Inv X Fq σ H s)(h:HM X.K H a xs)(h':HM X.K H a ys):xs=ys:=by
 obtain⟨its,r,⟨o,e,_,n,d⟩,_⟩:=I.tuple h
 obtain⟨its',r',⟨o',e',_,n',d'⟩,_⟩:=I.tuple h'
 rw[e]at e';cases e'
 rw[d]at d'
 injection d' with d1 _
 have:its=its':=by simpa using congrArg Array.toList d1
 subst this
 exact r.inj r'
end
noncomputable abbrev Cx.wish(X:Cx)(E:xZ):Cx:={ X with xe:=E }
noncomputable abbrev Cx.nox(X:Cx):Cx:=X.wish λ_ _=>False
theorem Cx.Ok.wish{X:Cx}(ok:X.Ok)(E:xZ):(X.wish E).Ok :=
 ⟨ok.mod,ok.kind,ok.glob,ok.blt,ok.above,ok.inj,ok.has,ok.cab,ok.hd,ok.frames,ok.stk,ok.exf,ok.bs,ok.bsz,ok.noex,ok.exfs,ok.funs,ok.frf⟩
theorem Cx.Ok.unwish{X:Cx}{E:xZ}(ok:(X.wish E).Ok):X.Ok :=
 ⟨ok.mod,ok.kind,ok.glob,ok.blt,ok.above,ok.inj,ok.has,ok.cab,ok.hd,ok.frames,ok.stk,ok.exf,ok.bs,ok.bsz,ok.noex,ok.exfs,ok.funs,ok.frf⟩
section
variable{X:Cx}{Fq:yA}{σ:St}{H:Hp}{s:yH}{E:xZ}
theorem Inv.wish(I:Inv X Fq σ H s)(E:xZ):Inv (X.wish E) Fq σ H s:=⟨I.ok.wish E,I.os,I.bare,I.base,I.loc,I.cell,I.free,I.freeC,I.pin,I.hok,I.len⟩
theorem Inv.unwish(I:Inv (X.wish E) Fq σ H s):Inv X Fq σ H s:=⟨I.ok.unwish,I.os,I.bare,I.base,I.loc,I.cell,I.free,I.freeC,I.pin,I.hok,I.len⟩
theorem SP.unwish{D:Jx}{f:Flow}{s':yH}(h:SP (X.wish E) Fq D f s'):SP X Fq D f s':=by
 cases f with
 |next=>obtain⟨σ',H',I,q⟩:=h;exact⟨σ',H',I.unwish,q⟩
 |brk=>obtain⟨σ',H',I,q⟩:=h;exact⟨σ',H',I.unwish,q⟩
 |cont=>obtain⟨σ',H',I,q⟩:=h;exact⟨σ',H',I.unwish,q⟩
 |ret u=>obtain⟨v,σ',H',I,r,q⟩:=h;exact⟨v,σ',H',I.unwish,r,q⟩
theorem KA.nox{st:List Stmt}{t:TS}(h:KA X.nox st t):KA X st t:=λFq s σ H D I hw =>
 B8 (h Fq s σ H D (I.wish _) hw) (λ_ _ q=>q.unwish) λ_ _ z=>False.elim z
end
section
variable{X:Cx}{st:Stmt}{Hl:List Stmt}{t u:TS}{e:Expr}{te:TE}{pos:Pos}
noncomputable def pB:TS:=λD σ H=>D.nx σ H
noncomputable def P6(t u:TS):TS:=λD σ H=>t { D with nx:=u D } σ H
theorem IX:KA X [] pB:=λ_ _ σ H _ I h=>EU ⟨σ,H,I,h⟩
theorem HY(h1:PS X st t)(h2:KA X Hl u):KA X (st::Hl) (P6 t u):=by
 intro Fq s σ H D I h
 refine wpAny_execs_cons (Hk (h1 Fq s σ H { D with nx:=u D } I h) λf s1 q=>?_)
 cases f with
 |next =>
  obtain⟨σ',H',I',q⟩:=q
  exact h2 Fq s1 σ' H' D I' q
 |ret v=>exact q
 |brk=>exact q
 |cont=>exact q
theorem HX(h1:PS X st t):KA X [st] t:=by
 intro Fq s σ H D I h
 refine wpAny_execs_cons (Hk (h1 Fq s σ H D I h) λf s1 q=>?_)
 cases f with
 |next=>exact EU q
 |ret v=>exact q
 |brk=>exact q
 |cont=>exact q
theorem Inv.quiet{Fq:yA}{σ:St}{H:Hp}{s:yH}(I:Inv X Fq σ H s):interactive X.env=false:=by simp [interactive,I.ok.kind]
noncomputable def aF(te:TE):TS:=λD σ H=>te σ H λ_ H1=>D.nx σ H1
theorem Ir(he:PE X e te)(hs:swapsWith e none pos.line X.env=pure false:=by rfl):PS X (.Expr e pos) (aF te):=by
 intro Fq s σ H D I h
 exact wpAny_Expr_any (Hk (he Fq s σ H _ I h) λv s1 ⟨x,H1,I1,r1,q1⟩=>⟨σ,H1,I1,q1⟩) I.quiet hs
noncomputable def qG(te:TE):TS:=λD σ H=>te σ H D.rt
theorem Hq(he:PE X e te):PS X (.Return (some e) pos) (qG te):=by
 intro Fq s σ H D I h
 exact wpAny_Return_some (Hk (he Fq s σ H _ I h) λv s1 ⟨x,H1,I1,r1,q1⟩=>⟨x,σ,H1,I1,r1,q1⟩)
noncomputable def eX(c:TT)(t u:TS):TS:=λD σ H=>c σ H λb H1=>if b=true then t D σ H1 else u D σ H1
theorem IW{c:Expr}{a b:List Stmt}{tc:TT}(hc:PT X c tc)(ha:KA X a t)(hb:KA X b u):PS X (.If c a b pos) (eX tc t u):=by
 intro Fq s σ H D I h
 refine wpAny_If (Hk (hc Fq s σ H _ I h) λd s1 ⟨H1,I1,q1⟩=>?_)
 cases d with
 |true=>exact ha Fq s1 σ H1 D I1 q1
 |false=>exact hb Fq s1 σ H1 D I1 q1
noncomputable def jL:TS:=λ_ _ _=>False
theorem QI:PS X st jL:=λ_ _ _ _ _ _ h=>h.elim
end
noncomputable abbrev TG:=V->St->Hp->(St->Hp->Prop)->Prop
noncomputable abbrev PX:=List V->St->Hp->(St->Hp->Prop)->Prop
noncomputable def PG(X:Cx)(target:Expr)(t:TG):Prop :=
 ∀(Fq:yA)(s:yH)(σ:St)(H:Hp)(v:V)(u:yI)(Q:St->Hp->Prop),Inv X Fq σ H s->HN v u->t v σ H Q ->
  wpAny (model X.prog X.w) X.A (assign target X.env u) (λ_ s'=>∃σ' H',Inv X Fq σ' H' s'/\Q σ' H') X.xe s
noncomputable def XH(X:Cx)(ts:yE)(t:PX):Prop :=
 ∀(Fq:yA)(s:yH)(σ:St)(H:Hp)(vs:List V)(us:xY)(Q:St->Hp->Prop),Inv X Fq σ H s->HS vs us->t vs σ H Q ->
  wpAny (model X.prog X.w) X.A (assignInOrder ((assignEach ts X.env).map (·.2)) us) (λ_ s'=>∃σ' H',Inv X Fq σ' H' s'/\Q σ' H') X.xe s
section
variable{X:Cx}{pos:Pos}
noncomputable def J4(i:Nat):TG:=λv σ H Q=>Q (σ.set i (some v)) H
theorem Hi{i:Nat}{x:Str}(hN:X.N.Nodup)(hi:X.N[i]?=some x)(hx:Loc X.env.scope x)(hf:X.fn x=true∨X.env.scope.names.lookup x=some .local:=by first|exact .inl rfl|exact .inr rfl|assumption):PG X (.Name x pos) (J4 i):=by
 intro Fq s σ H v u Q I r h
 exact wpAny_assign_Name (Wf I hN hi hx r (λs' I'=>⟨_,H,I',h⟩) hf)
noncomputable def kJ:PX:=λvs σ H Q=>vs=[]/\Q σ H
noncomputable def lS(t:TG)(u:PX):PX:=λvs σ H Q=>∃v r,vs=v::r/\t v σ H λσ' H'=>u r σ' H' Q
theorem JQ:XH X [] kJ:=by
 intro Fq s σ H vs us Q I r h
 obtain⟨e,h⟩:=h
 subst e
 cases r
 exact assignInOrder_nil ⟨σ,H,I,h⟩
theorem IH{e:Expr}{es:yE}{t:TG}{u:PX}(h1:PG X e t)(h2:XH X es u)
  (hs:(assignEach (e::es) X.env).map (·.2)=assign e X.env::(assignEach es X.env).map (·.2):=by rfl):XH X (e::es) (lS t u):=by
 intro Fq s σ H vs us Q I r h
 obtain⟨v,vr,e1,h⟩:=h
 subst e1
 cases r with
 |cons r rr =>
  rw[hs]
  refine Ej (Hk (h1 Fq s σ H _ _ _ I r h) λ_ s1 ⟨σ1,H1,I1,q1⟩=>?_)
  exact h2 Fq s1 σ1 H1 _ _ Q I1 rr q1
noncomputable def cD(K:yG)(n:Nat)(t:PX):TG:=λv σ H Q=>∃a xs,v=.ref a/\HM K H a xs/\xs.length=n/\t xs σ H Q
theorem JM{es:yE}{k:Nat}{t:PX}{n:Nat}(hc:X.calm=true)(h:XH X es t)
  (hn:(assignEach es X.env).length=n:=by rfl) (hst:(assignEach es X.env).findIdx? (·.1)=none:=by rfl):PG X (.Tuple es k pos) (cD X.K n t):=by
 intro Fq s σ H v u Q I r hw
 obtain⟨a,xs,e1,hq,hl,hw⟩:=hw
 subst e1
 cases r
 obtain⟨its,rv,ht,hz⟩:=I.tuple hq
 refine assign_Tuple_tuple (I.ok.hd hc) ht (by simp [hn,<-hl,rv.length]) hst λh' hx=>?_
 have I1:Inv X Fq σ H { s with heap:=h' }:=I.kept (t':=s.toks) λb o e=>hx b o (Au (AU e)) e
 exact h Fq _ σ H xs _ Q I1 (by simpa using rv) hw
noncomputable def Mw(te:TE)(g:TG):TS:=λD σ H=>te σ H λx H1=>g x σ H1 D.nx
theorem Y5{tg e:Expr}{te:TE}{g:TG}(he:PE X e te)(hg:PG X tg g)(hs:swapsWithSole [tg] e pos.line X.env=pure false:=by rfl)(hw:swappedStores [tg] e X.env=pure none:=by rfl)
  (h1:(assignEach [tg] X.env).map (·.2)=[assign tg X.env]:=by rfl):PS X (.Assign [tg] e pos) (Mw te g):=by
 intro Fq s σ H D I h
 refine wpAny_Assign_stores (Hk (he Fq s σ H _ I h) λv s1 ⟨x,H1,I1,r1,q1⟩=>?_) hs hw
 rw[h1]
 exact Hk (hg Fq s1 σ H1 x v _ I1 r1 q1) λ_ s2 q=>q
theorem Hv{i:Nat}{x:Str}{e:Expr}{te:TE}{pos':Pos}(hN:X.N.Nodup)(hi:X.N[i]?=some x)(hx:Loc X.env.scope x)(he:PE X e te)(hs:swapsWith e (some (.Name x pos')) pos.line X.env=pure false:=by rfl)(hf:X.fn x=true∨X.env.scope.names.lookup x=some .local:=by first|exact .inl rfl|exact .inr rfl|assumption) :
  PS X (.Assign [.Name x pos'] e pos) (Mw te (J4 i)):=by
 intro Fq s σ H D I h
 refine wpAny_Assign_Name (Hk (he Fq s σ H _ I h) λv s1 ⟨y,H1,I1,r1,q1⟩=>?_) hs
 exact Wf I1 hN hi hx r1 (λs2 I2=>⟨_,H1,I2,q1⟩) hf
noncomputable def gL(i j:Nat)(ta:TA):TS:=λD σ H=>ta σ H λvs H1=>∃v w,vs=[v,w]/\D.nx ((σ.set i (some v)).set j (some w)) H1
theorem bN{i j:Nat}{x y:Str}{a b:Expr}{ta:TA}{px py pt:Pos}{kt k2 pt2}(hc:X.calm=true)(hN:X.N.Nodup)(hi:X.N[i]?=some x)(hj:X.N[j]?=some y)(hij:i≠j)
  (hx:X.env.scope.names.lookup x=some .local) (hy:X.env.scope.names.lookup y=some .local) (ha:PA X [a,b] ta)
  (hw:swappedStores [.Tuple [.Name x px,.Name y py] kt pt] (.Tuple [a,b] k2 pt2) X.env=pure (some [x,y]))
  (hs:swapsWithSole [.Tuple [.Name x px,.Name y py] kt pt] (.Tuple [a,b] k2 pt2) pos.line X.env=pure false:=by rfl) :
  PS X (.Assign [.Tuple [.Name x px,.Name y py] kt pt] (.Tuple [a,b] k2 pt2) pos) (gL i j ta):=by
 intro Fq s σ H D I h
 rw[exec_Assign_arm]
 refine AA (Gw ?_)
 rw[hs]
 refine AA (AK ?_)
 rw[AD (by decide)]
 refine AA (Tuple_ (Hk (ha _ Fq s σ H _ I h) λus s1 ⟨vs,H1,I1,r1,q1⟩=>?_))
 obtain⟨v,w,e1,q1⟩:=q1
 subst e1
 obtain⟨u1,u2,rfl,rv,rw'⟩:∃u1 u2,us=[u1,u2]/\HN v u1/\HN w u2:=by
  cases r1 with
  |cons p q =>
   cases q with
   |cons p' q' =>
    cases q'
    exact⟨_,_,rfl,p,p'⟩
 refine BK ?_ (by show 2<=sizeLine;decide)
 have I2:Inv X Fq σ H1 { s1 with heap:=s1.heap.push { cls:=.type "tuple",data:=.seq [u1,u2].toArray } }:=I1.kept (t':=s1.toks) λb o e=>AC _ e
 rw[hw]
 refine AA (AK ?_)
 show wpAny (model X.prog X.w) X.A (do rule "assign.swapped-stores";let items <-unpackItems (.ref s1.heap.objs.size) 2 none;assignInOrder [λv=>bindName X.env y v,λv=>bindName X.env x v] items.reverse;pure Flow.next) _ _ _
 refine AA (CW (AA (unpackItems_tuple (items:=#[u1,u2]) (I.ok.hd hc) (IsTup.new s1.heap _) λh' hx'=>?_)))
 have I3:=I2.kept (h':=h') (t':=s1.toks) λb o e=>hx' b o (Au (AU e)) e
 show wpAny _ _ (assignInOrder [λv=>bindName X.env y v,λv=>bindName X.env x v] [u2,u1]>>=λ_=>pure Flow.next) _ _ _
 refine AA (Ej (wpAny_bindName (Wf I3 hN hj (.inl hy) rw' (λs2 I4=>?_) (.inr hy))))
 refine Ej (wpAny_bindName (Wf I4 hN hi (.inl hx) rv (λs3 I5=>assignInOrder_nil (AK ?_)) (.inr hx)))
 rw[List.set_comm _ _ (C3 hij)]at I5
 exact⟨_,H1,I5,q1⟩
end
section
variable{X:Cx}{pos:Pos}
noncomputable def cY(c:TT)(tb:TS):TS:=λD σ H=>∃W:Nat->St->Hp->Prop,(∃m,W m σ H)/\∀m σ H,W m σ H ->
 c σ H λb H1=>if b=true then ∃N:St->Hp->Prop,(∀σ' H',N σ' H'->∃m',m'<m/\W m' σ' H')/\tb { D with nx:=N,ct:=N,bk:=D.nx } σ H1 else D.nx σ H1
theorem Wb{c:Expr}{body:List Stmt}{tc:TT}{tb:TS}(hp:PassesOwn (model X.prog X.w) X.A X.env X.xe)(hc:PT X c tc)(hb:KA X body tb):PS X (.While c body [] pos) (cY tc tb):=by
 intro Fq s σ H D I h
 obtain⟨W,⟨m0,w0⟩,turn⟩:=h
 refine wpAny_While (codeAny_whileLoop (λn s'=>∃σ' H',Inv X Fq σ' H' s'/\W n σ' H') ?_ m0 ⟨σ,H,I,w0⟩)
 rintro n s1 ⟨σ1,H1,I1,w1⟩
 refine C9 hp (Hk (hc Fq s1 σ1 H1 _ I1 (turn n σ1 H1 w1)) λb s2 ⟨H2,I2,q2⟩=>?_)
 cases b with
 |true =>
  obtain⟨N,hN,q2⟩:=q2
  rw[AF rfl]
  refine C9 hp (Hk (hb Fq s2 σ1 H2 _ I2 q2) λf s3 q3=>?_)
  cases f with
  |next =>
   obtain⟨σ3,H3,I3,n3⟩:=q3
   obtain⟨m',hm,w3⟩:=hN σ3 H3 n3
   exact⟨m',hm,σ3,H3,I3,w3⟩
  |cont =>
   obtain⟨σ3,H3,I3,n3⟩:=q3
   obtain⟨m',hm,w3⟩:=hN σ3 H3 n3
   exact⟨m',hm,σ3,H3,I3,w3⟩
  |brk=>exact q3
  |ret v=>exact q3
 |false =>
  rw[AD Ae]
  exact EU ⟨σ1,H2,I2,q2⟩
end
structure It where
 go:Nat->Hp->Prop
 yld:Nat->Hp->V->Hp->Prop
 stop:Nat->Hp->Prop
noncomputable def Kz(X:Cx)(Fq:yA)(H:Hp)(b:yJ):Prop :=
 H b=none/\b≠X.env.locals/\b∉X.fs/\(b∈X.ex∨X.s₀.heap.objs.size<=b)/\(∀x c,X.env.cells.lookup x=some c->c≠b)/\∀p∈X.pn++Fq,p.1≠b
theorem Inv.fpOk{X:Cx}{Fq:yA}{σ:St}{H H':Hp}{s:yH}{b:yJ}(I:Inv X Fq σ H s)(hb:s.heap.objs.size<=b)(hn:H' b=none):Kz X Fq H' b:=by
 refine⟨hn,CS (Ax I.lt hb),I.nofs hb,.inr (As I.sz hb),λx c e z=>?_,λp hp z=>?_⟩
 ·obtain⟨v,q⟩:=I.cell x c e
  exact absurd (Ax q.lt (by rw[z];exact hb)) (Bz _)
 ·exact absurd (Ax (AU (I.pin p hp).1) (by rw[z];exact hb)) (Bz _)
structure KY(P:yL)(w:yM)(K:yG)(tg:Expr)(J:It)(fp:yC)(it:yJ)(tn:Nat->Heap->Prop):Prop where
 mem:it∈fp
 obj:∀i h,tn i h->∀b∈fp,∃o,h.get? b=some o/\∀v,o.data≠.cell v
 keep:∀i h h',tn i h->(∀b∈fp,∀o,h.get? b=some o->h'.get? b=some o)->tn i h'
 item:∀(X:Cx),X.prog=P->X.w=w->X.K=K->X.calm=true->∀(i:Nat)(Fq:yA)(s:yH)(σ:St)(H:Hp)(E:xZ),Inv X Fq σ H s->(∀b∈fp,Kz X Fq H b)->tn i s.heap->J.go i H ->
  wpAny (model P w) X.A (pyNext (.ref it)) (λr s1=>∃u,r=some u /\
   wpAny (model P w) X.A (letOwnedTupleGo tg (.ref it) u) (λ_ s2=>∃x H',Inv X Fq σ H' s2/\HN x u/\J.yld i H x H'/\tn (i+1) s2.heap/\∀b∈fp,H' b=none) E s1) E s
 done:∀(X:Cx),X.prog=P->X.w=w->X.K=K->X.calm=true->∀(i:Nat)(Fq:yA)(s:yH)(σ:St)(H:Hp)(E:xZ),Inv X Fq σ H s->(∀b∈fp,Kz X Fq H b)->tn i s.heap->J.stop i H ->
  wpAny (model P w) X.A (pyNext (.ref it)) (λr s1=>r=none/\Inv X Fq σ H s1) E s
 self:∀(A:Around)(i:Nat)(s:yH)(Q:xZ)(E:xZ),tn i s.heap->Q (.ref it) s->wpAny (model P w) A (pyIter (.ref it)) Q E s
noncomputable abbrev TI:=St->Hp->(It->Hp->Prop)->Prop
noncomputable def Zw(X:Cx)(Fq:yA)(σ:St)(tg:Expr)(R:It->Hp->Prop)(itv:yI)(s2:yH):Prop :=
 ∃(it:yJ)(fp:yC)(tn:Nat->Heap->Prop)(J:It)(H':Hp),itv=.ref it/\Inv X Fq σ H' s2/\KY X.prog X.w X.K tg J fp it tn/\tn 0 s2.heap/\(∀b∈fp,Kz X Fq H' b)/\R J H'
noncomputable def PI(X:Cx)(tg iter:Expr)(wi:TI):Prop :=
 ∀(Fq:yA)(s:yH)(σ:St)(H:Hp)(R:It->Hp->Prop),Inv X Fq σ H s->wi σ H R ->
  wpAny (model X.prog X.w) X.A (eval iter X.env) (λv s1=>wpAny (model X.prog X.w) X.A (pyIter v) (Zw X Fq σ tg R) X.xe s1) X.xe s
theorem Tf{M:Model}{A:Around}{E:xZ}{s:yH}{tg:Expr}{it:yJ}{u:yI}{o:Obj}{n:String}{vs:yF}{Q:Unit->yH->Prop}(ho:s.heap.get? it=some o)(hc:o.cls=.type n)(hd:o.data=.fields vs)
  (hn:["enumerate", "zip", "dict_itemiterator", "dict_reverseitemiterator", "odict_iterator", "itertools.zip_longest", "itertools.pairwise"].contains n=false) (hQ:Q () s):wpAny M A (letOwnedTupleGo tg (.ref it) u) Q E s:=by
 unfold letOwnedTupleGo
 cases tg<;>first
  |exact AK hQ
  | (cases u<;>first
    |exact AK hQ
    | (refine AA (wpAny_load ho ?_)
       rw[hc,hd]
       show wpAny M A (if (["enumerate", "zip", "dict_itemiterator", "dict_reverseitemiterator", "odict_iterator", "itertools.zip_longest", "itertools.pairwise"].contains n&&vs[0]?==some (rawInt _))=true then _ else _) Q E s
       rw[AD (by intro h;rw[hn,Bool.false_and]at h;cases h)]
       exact AK hQ))
noncomputable def Nv(K:yG)(a:yJ):It :=
 ⟨λi H=>∃xs x,HU K H a xs/\xs[i]?=some x,λi H x H'=>H'=H/\∀xs,HU K H a xs->xs[i]?=some x,λi H=>∃xs,HU K H a xs/\xs.length<=i⟩
noncomputable def L3(K:yG)(a:yJ):It :=
 ⟨λi H=>∃xs x,HM K H a xs/\xs[i]?=some x,λi H x H'=>H'=H/\∀xs,HM K H a xs->xs[i]?=some x,λi H=>∃xs,HM K H a xs/\xs.length<=i⟩
noncomputable def Mp(lo:Int)(n:Nat):It:=⟨λi _=>i<n,λi H x H'=>H'=H/\x=.int (lo+i),λi _=>n<=i⟩
theorem nN{P:yL}{w:yM}{K:yG}{tg:Expr}(a it:yJ):KY P w K tg (Nv K a) [it] it (λi h=>h.IsListIter it a i) where
 mem:=by simp
 obj:=λi h st b hb=>by
  have e:b=it:=by simpa using hb
  subst e
  obtain⟨o,e,c,d⟩:=st
  exact⟨o,e,λv z=>by rw[d]at z;cases z⟩
 keep:=λi h h' st k=>st.at λo e=>k it (by simp) o e
 item:=by
  intro X hP hw hK hc i Fq s σ H E I hf st hg
  subst hP hw hK
  obtain⟨xs,x,hq,hx⟩:=hg
  obtain⟨its,rv,p,hz⟩:=I.list hq
  obtain⟨u,hu,ru⟩:=rv.get hx
  obtain⟨f0,f1,f2,f3,f4,f5⟩:=hf it (by simp)
  refine wpAny_pyNext_list_item st p.isList (x:=u) (by simpa using hu) λh' st' sb=>?_
  have I1:Inv X Fq σ H { s with heap:=h' }:=I.turned (t':=s.toks) (λb o hb e=>(sb.2 b hb).trans e) f0 f1 f3 f4 f5
  obtain⟨o,e,c,d⟩:=id st'
  exact⟨u,rfl,Tf (s:={ s with heap:=h' }) e c d (by decide) ⟨x,H,I1,ru,⟨rfl,λys hy=>by rw[I.list_inj hy hq];exact hx⟩,st',λb hb=>(hf b hb).1⟩⟩
 done:=by
  intro X hP hw hK hc i Fq s σ H E I hf st hg
  subst hP hw hK
  obtain⟨xs,hq,hx⟩:=hg
  obtain⟨its,rv,p,hz⟩:=I.list hq
  obtain⟨f0,f1,f2,f3,f4,f5⟩:=hf it (by simp)
  have hl:=rv.length
  exact wpAny_pyNext_list_end (I.ok.hd hc) st p.isList (by simp;lia) λh' eb=>⟨rfl,I.turned (t':=s.toks) (λb o hb e=>eb b o hb e) f0 f1 f3 f4 f5⟩
 self:=λ_ _ _ _ _ st h=>wpAny_pyIter_listiter st h
theorem rL{P:yL}{w:yM}{K:yG}{tg:Expr}(a it:yJ):KY P w K tg (L3 K a) [it] it (λi h=>h.IsTupleIter it a i) where
 mem:=by simp
 obj:=λi h st b hb=>by
  have e:b=it:=by simpa using hb
  subst e
  obtain⟨o,e,c,d⟩:=st
  exact⟨o,e,λv z=>by rw[d]at z;cases z⟩
 keep:=λi h h' st k=>st.at λo e=>k it (by simp) o e
 item:=by
  intro X hP hw hK hc i Fq s σ H E I hf st hg
  subst hP hw hK
  obtain⟨xs,x,hq,hx⟩:=hg
  obtain⟨its,rv,p,hz⟩:=I.tuple hq
  obtain⟨u,hu,ru⟩:=rv.get hx
  obtain⟨f0,f1,f2,f3,f4,f5⟩:=hf it (by simp)
  refine wpAny_pyNext_tuple_item st (show s.heap.IsTuple a its.toArray from p) (x:=u) (by simpa using hu) λh' st' sb=>?_
  have I1:Inv X Fq σ H { s with heap:=h' }:=I.turned (t':=s.toks) (λb o hb e=>(sb.2 b hb).trans e) f0 f1 f3 f4 f5
  obtain⟨o,e,c,d⟩:=id st'
  exact⟨u,rfl,Tf (s:={ s with heap:=h' }) e c d (by decide) ⟨x,H,I1,ru,⟨rfl,λys hy=>by rw[I.tuple_inj hy hq];exact hx⟩,st',λb hb=>(hf b hb).1⟩⟩
 done:=by
  intro X hP hw hK hc i Fq s σ H E I hf st hg
  subst hP hw hK
  obtain⟨xs,hq,hx⟩:=hg
  obtain⟨its,rv,p,hz⟩:=I.tuple hq
  obtain⟨f0,f1,f2,f3,f4,f5⟩:=hf it (by simp)
  have hl:=rv.length
  exact wpAny_pyNext_tuple_end (I.ok.hd hc) st (show s.heap.IsTuple a its.toArray from p) (by simp;lia) λh' eb=>⟨rfl,I.turned (t':=s.toks) (λb o hb e=>eb b o hb e) f0 f1 f3 f4 f5⟩
 self:=λ_ _ _ _ _ st h=>wpAny_pyIter_tupleiter st h
theorem eK{P:yL}{w:yM}{K:yG}{tg:Expr}(it:yJ)(lo:Int)(n:Nat):KY P w K tg (Mp lo n) [it] it (λi h=>IsRangeIter h it (lo+(i:Nat)*1) ((n:Int)-(i:Nat)) 1) where
 mem:=by simp
 obj:=λi h st b hb=>by
  have e:b=it:=by simpa using hb
  subst e
  exact⟨_,st,λv z=>by
   have z':Data.fields _=Data.cell v:=z
   cases z'⟩
 keep:=λi h h' st k=>k it (by simp) _ st
 item:=by
  intro X hP hw hK hc i Fq s σ H E I hf st hg
  subst hP hw hK
  obtain⟨f0,f1,f2,f3,f4,f5⟩:=hf it (by simp)
  have W:=Walks.range (prog:=X.prog) (w:=X.w) (I.ok.hd hc) it lo 1 n
  refine W.item i s _ _ hg st λv h' tk hv st' kk=>?_
  obtain⟨t,rfl⟩:=hv
  have I1:Inv X Fq σ H { s with heap:=h',toks:=tk }:=I.turned (λb o hb e=>kk b o (by simpa using hb) e) f0 f1 f3 f4 f5
  refine⟨_,rfl,Tf (s:={ s with heap:=h',toks:=tk }) (n := "range_iterator") st' rfl rfl (by decide) ⟨.int (lo+i),H,I1,⟨t,?_⟩,⟨rfl,rfl⟩,st',λb hb=>(hf b hb).1⟩⟩
  rw[Ff]
 done:=by
  intro X hP hw hK hc i Fq s σ H E I hf st hg
  subst hP hw hK
  obtain⟨f0,f1,f2,f3,f4,f5⟩:=hf it (by simp)
  exact Fn (I.ok.hd hc) st (by have:n<=i:=hg;lia) λh' eb=>⟨rfl,I.turned (t':=s.toks) (λb o hb e=>eb b o hb e) f0 f1 f3 f4 f5⟩
 self:=λ_ _ _ _ _ st h=>Fo st h
section
variable{X:Cx}{tg:Expr}
noncomputable def qV(K:yG)(tl:TE):TI:=λσ H R=>tl σ H λx H1=>∃a,x=.ref a/\(∃xs,HU K H1 a xs)/\R (Nv K a) H1
noncomputable def iK(K:yG)(tl:TE):TI:=λσ H R=>tl σ H λx H1=>∃a,x=.ref a/\(∃xs,HM K H1 a xs)/\R (L3 K a) H1
theorem Ic{l:Expr}{tl:TE}(hl:PE X l tl):PI X tg l (qV X.K tl):=by
 intro Fq s σ H R I h
 refine Hk (hl Fq s σ H _ I h) λv s1 ⟨x,H1,I1,r1,q1⟩=>?_
 obtain⟨a,e,⟨xs,hq⟩,q⟩:=q1
 subst e
 cases r1
 obtain⟨its,rv,p,hz⟩:=I1.list hq
 refine By p.isList ?_
 refine⟨s1.heap.objs.size,[s1.heap.objs.size],_,_,H1,rfl,I1.kept (t':=s1.toks) λb o e=>AC _ e,nN a _,⟨_,AW _ rfl,rfl,rfl⟩,λb hb=>?_,q⟩
 have e:b=s1.heap.objs.size:=by simpa using hb
 subst e
 exact I1.fpOk (AH _) (I1.hok.fresh (AH _))
theorem MC{l:Expr}{tl:TE}(hl:PE X l tl):PI X tg l (iK X.K tl):=by
 intro Fq s σ H R I h
 refine Hk (hl Fq s σ H _ I h) λv s1 ⟨x,H1,I1,r1,q1⟩=>?_
 obtain⟨a,e,⟨xs,hq⟩,q⟩:=q1
 subst e
 cases r1
 obtain⟨its,rv,p,hz⟩:=I1.tuple hq
 refine Bu (show s1.heap.IsTuple a its.toArray from p) ?_
 refine⟨s1.heap.objs.size,[s1.heap.objs.size],_,_,H1,rfl,I1.kept (t':=s1.toks) λb o e=>AC _ e,rL a _,⟨_,AW _ rfl,rfl,rfl⟩,λb hb=>?_,q⟩
 have e:b=s1.heap.objs.size:=by simpa using hb
 subst e
 exact I1.fpOk (AH _) (I1.hok.fresh (AH _))
theorem Tr{Fq:yA}{σ:St}{H:Hp}{s:yH}{R:It->Hp->Prop}{E:xZ}{lo hi:Int}{t u v:Tok}{tk:Nat}(I:Inv X Fq σ H s)(h1:-(2^62)<=lo)(h2:lo<2^62)(h3:-(2^62)<=hi)(h4:hi<2^62)
  (q:R (Mp lo (hi-lo).toNat) H):wpAny (model X.prog X.w) X.A (pyIter (.ref s.heap.objs.size)) (Zw X Fq σ tg R) E { s with heap:=s.heap.push { cls:=.type "range",data:=.fields #[.int lo t,.int hi u,.int 1 v] },toks:=tk }:=by
 refine wpAny_pyIter_range (IsRange.new ..) (small_one h1 h2 h3 h4) ?_
 have I1:Inv X Fq σ H { s with heap:=s.heap.push { cls:=.type "range",data:=.fields #[.int lo t,.int hi u,.int 1 v] },toks:=tk }:=I.kept λb o e=>AC _ e
 refine⟨(s.heap.push { cls:=.type "range",data:=.fields #[.int lo t,.int hi u,.int 1 v] }).objs.size,[(s.heap.push { cls:=.type "range",data:=.fields #[.int lo t,.int hi u,.int 1 v] }).objs.size],_,_,H,rfl,
  I1.kept (t':=tk) λb o e=>AC _ e,eK _ lo (hi-lo).toNat,?_,λb hb=>?_,q⟩
 ·have e1:lo+((0:Nat):Int)*1=lo:=by simp
  have e2:(((hi-lo).toNat:Nat):Int)-((0:Nat):Int)=Builtin.Range.rangeSize lo hi 1:=by rw[rangeSize_one];split<;>lia
  show IsRangeIter _ _ (lo+((0:Nat):Int)*1) ((((hi-lo).toNat:Nat):Int)-((0:Nat):Int)) 1
  rw[e1,e2]
  exact AW _ rfl
 ·have e:b=(s.heap.push { cls:=.type "range",data:=.fields #[.int lo t,.int hi u,.int 1 v] }).objs.size:=by simpa using hb
  subst e
  exact I1.fpOk (AH _) (I1.hok.fresh (AH _))
noncomputable def Yq(ta:TA):TI:=λσ H R=>ta σ H λvs H1=>∃j:Int,vs=[.int j]/\-(2^62)<=j/\j<2^62/\R (Mp 0 j.toNat) H1
noncomputable def rM(ta:TA):TI:=λσ H R=>ta σ H λvs H1=>∃i j:Int,vs=[.int i,.int j]/\(-(2^62)<=i/\i<2^62/\-(2^62)<=j/\j<2^62)/\R (Mp i (j-i).toNat) H1
theorem N9{a:Expr}{ta:TA}{p pos:Pos}(hg:Gl X "range")(hm:X.mg "range" = none)(ha:PA X [a] ta)(hs:starEach [a] X.env=[(false,eval a X.env)]:=by rfl):PI X tg (.Call (.Name "range" p) [a] [] pos) (Yq ta):=by
 intro Fq s σ H R I h
 refine Call_ (Ks I hg hm boot_range (BY (Hk (ha pos Fq s σ H _ I h) λus s1 ⟨vs,H1,I1,r1,q1⟩=>?_) hs rfl))
 obtain⟨j,e,q1,q2,q⟩:=q1
 subst e
 cases r1 with
 |cons r rr =>
  cases rr
  obtain⟨t,rfl⟩:=r
  exact call_range_1 (Tr I1 (by lia) (by lia) q1 q2 (by simpa using q))
theorem lG{a b:Expr}{ta:TA}{p pos:Pos}(hg:Gl X "range")(hm:X.mg "range" = none)(ha:PA X [a,b] ta)(hs:starEach [a,b] X.env=[(false,eval a X.env),(false,eval b X.env)]:=by rfl)(hs2:starEach [b] X.env=[(false,eval b X.env)]:=by rfl) :
  PI X tg (.Call (.Name "range" p) [a,b] [] pos) (rM ta):=by
 intro Fq s σ H R I h
 refine Call_ (Ks I hg hm boot_range (BY (Hk (ha pos Fq s σ H _ I h) λus s1 ⟨vs,H1,I1,r1,q1⟩=>?_) (by rw[hs,hs2]) (by rw[hs2];rfl)))
 obtain⟨i,j,e,⟨q1,q2,q3,q4⟩,q⟩:=q1
 subst e
 cases r1 with
 |cons r rr =>
  cases rr with
  |cons r' rr =>
   cases rr
   obtain⟨t,rfl⟩:=r
   obtain⟨t',rfl⟩:=r'
   exact call_range_2 (Tr I1 q1 q2 q3 q4 q)
noncomputable def mL(wi:TI)(g:TG)(tb:TS):TS:=λD σ H=>wi σ H λJ H1=>∃W:Nat->Nat->St->Hp->Prop,(∃m,W 0 m σ H1)/\∀i m σ H,W i m σ H ->
 (J.stop i H/\D.nx σ H)∨(J.go i H/\∃N:St->Hp->Prop,(∀σ' H',N σ' H'->∃m',m'<m/\W (i+1) m' σ' H')/\∀x H',J.yld i H x H'->g x σ H' λσ2 H2=>tb { D with nx:=N,ct:=N,bk:=D.nx } σ2 H2)
noncomputable def QW(fp:yC)(h:Heap):yA:=fp.filterMap λb=>(h.get? b).map λo=>(b,o)
theorem Qf{fp:yC}{h:Heap}{b:yJ}{o:Obj}(hb:b∈fp)(e:h.get? b=some o):(b,o)∈QW fp h:=DS.mpr ⟨b,hb,by rw[e];rfl⟩
theorem mY{fp:yC}{h:Heap}{p:yJ×Obj}(hp:p∈QW fp h):p.1∈fp/\h.get? p.1=some p.2:=by
 obtain⟨b,hb,e⟩:=DS.mp hp
 cases q:h.get? b with
 |none=>rw[q]at e;cases e
 |some o =>
  rw[q]at e
  have e':(b,o)=p:=Aq e
  subst e'
  exact⟨hb,q⟩
theorem Inv.pinned{Fq:yA}{σ:St}{H:Hp}{s:yH}{fp:yC}(I:Inv X Fq σ H s)(hf:∀b∈fp,Kz X Fq H b)(ho:∀b∈fp,∃o,s.heap.get? b=some o/\∀v,o.data≠.cell v):Inv X (Fq++QW fp s.heap) σ H s :=
 I.pins_of λp hp=>(Ao.mp hp).elim (λz=>I.pin p (Aj _ z)) λz=>by
  obtain⟨hb,e⟩:=mY z
  obtain⟨f0,f1,f2,_⟩:=hf p.1 hb
  obtain⟨o,e',d⟩:=ho p.1 hb
  rw[e]at e';cases e'
  exact⟨e,f0,f1,f2,d⟩
theorem Inv.unpinned{Fq pl:yA}{σ:St}{H:Hp}{s:yH}(I:Inv X (Fq++pl) σ H s):Inv X Fq σ H s:=I.pins_of λp hp=>I.pin p (Aj _ (A0 _ hp))
theorem Ie{iter:Expr}{body:List Stmt}{wi:TI}{g:TG}{tb:TS}{pos:Pos}(hp:PassesOwn (model X.prog X.w) X.A X.env X.xe)(hc:X.calm=true)(hi:PI X tg iter wi)(hg:PG X tg g)(hb:KA X body tb)
  (hs:∀x,foldedSetIterable iter X.env x=pure x:=by intro _;rfl):PS X (.For tg iter body [] pos) (mL wi g tb):=by
 intro Fq s σ H D I h
 refine wpAny_For (Hk (hi Fq s σ H _ I h) λv s1 h1=>Hk h1 λitv s2 h2=>?_) hs
 obtain⟨it,fp,tn,J,H2,e,I2,T,st2,f2,W,⟨m0,w0⟩,turn⟩:=h2
 subst e
 have stat:∀{H':Hp},(∀b∈fp,H' b=none)->∀b∈fp,Kz X Fq H' b:=λhn b hb=>⟨hn b hb,(f2 b hb).2⟩
 refine codeAny_forLoop_any (λn s'=>∃i σ' H',Inv X Fq σ' H' s'/\tn i s'.heap/\(∀b∈fp,H' b=none)/\W i n σ' H') ?_ m0 ⟨0,σ,H2,I2,st2,λb hb=>(f2 b hb).1,w0⟩
 rintro n s3 ⟨i,σ3,H3,I3,st3,fr3,w3⟩
 rcases turn i n σ3 H3 w3 with⟨stop,qn⟩|⟨go,N,hN,step⟩
 ·refine C9 hp (Hk (T.done X rfl rfl rfl hc i Fq s3 σ3 H3 X.xe I3 (stat fr3) st3 stop) λr s4 ⟨hr,I4⟩=>?_)
  subst hr
  exact EU ⟨σ3,H3,I4,qn⟩
 ·refine C9 hp (Hk (T.item X rfl rfl rfl hc i Fq s3 σ3 H3 X.xe I3 (stat fr3) st3 go) λr s4 ⟨u,hr,h4⟩=>?_)
  subst hr
  refine C9 hp (Hk h4 λ_ s5 ⟨x,H5,I5,r5,y5,st5,fr5⟩=>?_)
  have I5':=I5.pinned (stat fr5) (T.obj _ _ st5)
  refine C9 hp (Hk (hg _ s5 σ3 H5 x u _ I5' r5 (step x H5 y5)) λ_ s6 ⟨σ6,H6,I6,q6⟩=>?_)
  refine C9 hp (Hk (hb _ s6 σ6 H6 _ I6 q6) λf s7 q7=>?_)
  have again:∀{σ7:St}{H7:Hp},Inv X (Fq++QW fp s5.heap) σ7 H7 s7->N σ7 H7->∃m,m<n/\∃i σ' H',Inv X Fq σ' H' s7/\tn i s7.heap/\(∀b∈fp,H' b=none)/\W i m σ' H':=λ{σ7 H7} I7 n7=>by
   obtain⟨m',hm,w7⟩:=hN σ7 H7 n7
   refine⟨m',hm,i+1,σ7,H7,I7.unpinned,T.keep _ _ _ st5 λb hb o e=>(I7.pin (b,o) (Aj _ (Aj _ (Qf hb e)))).1,λb hb=>?_,w7⟩
   obtain⟨o,e,d⟩:=T.obj _ _ st5 b hb
   exact(I7.pin (b,o) (Aj _ (Aj _ (Qf hb e)))).2.1
  cases f with
  |next=>obtain⟨σ7,H7,I7,n7⟩:=q7;exact again I7 n7
  |cont=>obtain⟨σ7,H7,I7,n7⟩:=q7;exact again I7 n7
  |brk=>obtain⟨σ7,H7,I7,q7⟩:=q7;exact⟨σ7,H7,I7.unpinned,q7⟩
  |ret v=>obtain⟨x7,σ7,H7,I7,r7,q7⟩:=q7;exact⟨x7,σ7,H7,I7.unpinned,r7,q7⟩
end
theorem Jr{K:yG}{a:yJ}{xs:List V}{g:TG}{tb:TS}{D:Jx}{σ:St}{H:Hp}(Pv:Nat->St->Hp->Prop)(h0:Pv 0 σ H)(hl:∀i σ H,i<=xs.length->Pv i σ H->HU K H a xs)
  (hs:∀i x σ H,xs[i]?=some x->Pv i σ H->g x σ H λσ2 H2=>tb { D with nx:=Pv (i+1),ct:=Pv (i+1),bk:=D.nx } σ2 H2) (hd:∀σ H,Pv xs.length σ H->D.nx σ H) :
  ∃W:Nat->Nat->St->Hp->Prop,(∃m,W 0 m σ H)/\∀i m σ H,W i m σ H ->
   ((Nv K a).stop i H/\D.nx σ H)∨((Nv K a).go i H/\∃N:St->Hp->Prop,(∀σ' H',N σ' H'->∃m',m'<m/\W (i+1) m' σ' H')/\∀x H',(Nv K a).yld i H x H'->g x σ H' λσ2 H2=>tb { D with nx:=N,ct:=N,bk:=D.nx } σ2 H2):=by
 refine⟨λi m σ H=>m=xs.length-i/\i<=xs.length/\Pv i σ H,⟨xs.length,by simp,Az _,h0⟩,?_⟩
 rintro i m σ H ⟨rfl,hi,p⟩
 have q:=hl i σ H hi p
 by_cases hlt:i<xs.length
 ·refine .inr ⟨⟨xs,xs[i],q,by simp [hlt]⟩,Pv (i+1),λσ' H' p'=>⟨xs.length-(i+1),by lia,rfl,hlt,p'⟩,λx H' y=>?_⟩
  obtain⟨e,y⟩:=y
  subst e
  exact hs i x σ _ (y xs q) p
 ·have e:i=xs.length:=by lia
  subst e
  exact .inl ⟨⟨xs,q,AH _⟩,hd σ H p⟩
theorem O7{K:yG}{a:yJ}{xs:List V}{g:TG}{tb:TS}{D:Jx}{σ:St}{H:Hp}(Pv:Nat->St->Hp->Prop)(h0:Pv 0 σ H)(hl:∀i σ H,i<=xs.length->Pv i σ H->HM K H a xs)
  (hs:∀i x σ H,xs[i]?=some x->Pv i σ H->g x σ H λσ2 H2=>tb { D with nx:=Pv (i+1),ct:=Pv (i+1),bk:=D.nx } σ2 H2) (hd:∀σ H,Pv xs.length σ H->D.nx σ H) :
  ∃W:Nat->Nat->St->Hp->Prop,(∃m,W 0 m σ H)/\∀i m σ H,W i m σ H ->
   ((L3 K a).stop i H/\D.nx σ H)∨((L3 K a).go i H/\∃N:St->Hp->Prop,(∀σ' H',N σ' H'->∃m',m'<m/\W (i+1) m' σ' H')/\∀x H',(L3 K a).yld i H x H'->g x σ H' λσ2 H2=>tb { D with nx:=N,ct:=N,bk:=D.nx } σ2 H2):=by
 refine⟨λi m σ H=>m=xs.length-i/\i<=xs.length/\Pv i σ H,⟨xs.length,by simp,Az _,h0⟩,?_⟩
 rintro i m σ H ⟨rfl,hi,p⟩
 have q:=hl i σ H hi p
 by_cases hlt:i<xs.length
 ·refine .inr ⟨⟨xs,xs[i],q,by simp [hlt]⟩,Pv (i+1),λσ' H' p'=>⟨xs.length-(i+1),by lia,rfl,hlt,p'⟩,λx H' y=>?_⟩
  obtain⟨e,y⟩:=y
  subst e
  exact hs i x σ _ (y xs q) p
 ·have e:i=xs.length:=by lia
  subst e
  exact .inl ⟨⟨xs,q,AH _⟩,hd σ H p⟩
theorem NU{lo:Int}{n:Nat}{g:TG}{tb:TS}{D:Jx}{σ:St}{H:Hp}(Pv:Nat->St->Hp->Prop)(h0:Pv 0 σ H)
  (hs:∀i σ H,i<n->Pv i σ H->g (.int (lo+i)) σ H λσ2 H2=>tb { D with nx:=Pv (i+1),ct:=Pv (i+1),bk:=D.nx } σ2 H2) (hd:∀σ H,Pv n σ H->D.nx σ H) :
  ∃W:Nat->Nat->St->Hp->Prop,(∃m,W 0 m σ H)/\∀i m σ H,W i m σ H ->
   ((Mp lo n).stop i H/\D.nx σ H)∨((Mp lo n).go i H/\∃N:St->Hp->Prop,(∀σ' H',N σ' H'->∃m',m'<m/\W (i+1) m' σ' H')/\∀x H',(Mp lo n).yld i H x H'->g x σ H' λσ2 H2=>tb { D with nx:=N,ct:=N,bk:=D.nx } σ2 H2):=by
 refine⟨λi m σ H=>m=n-i/\i<=n/\Pv i σ H,⟨n,by simp,Az _,h0⟩,?_⟩
 rintro i m σ H ⟨rfl,hi,p⟩
 by_cases hlt:i<n
 ·refine .inr ⟨hlt,Pv (i+1),λσ' H' p'=>⟨n-(i+1),by lia,rfl,hlt,p'⟩,λx H' y=>?_⟩
  obtain⟨e,y⟩:=y
  subst e y
  exact hs i σ _ hlt p
 ·have e:i=n:=by lia
  subst e
  exact .inl ⟨AH _,hd σ H p⟩
noncomputable abbrev R2:=V->V->Hp->VK->Prop
noncomputable def Iq(X:Cx)(f:yI->yI->Sem yI)(r:R2):Prop :=
 ∀(Fq:yA)(s:yH)(σ:St)(H:Hp)(x y:V)(v u:yI)(Q:VK),Inv X Fq σ H s->HN x v->HN y u->r x y H Q ->
  wpAny (model X.prog X.w) X.A (f v u) (EP X Fq σ Q) X.xe s
noncomputable def X5(X:Cx)(f:yI->Sem yI)(r:V->Hp->VK->Prop):Prop :=
 ∀(Fq:yA)(s:yH)(σ:St)(H:Hp)(x:V)(v:yI)(Q:VK),Inv X Fq σ H s->HN x v->r x H Q ->
  wpAny (model X.prog X.w) X.A (f v) (EP X Fq σ Q) X.xe s
noncomputable def IF(X:Cx)(f:yI)(r:List V->Hp->VK->Prop):Prop :=
 ∀(Fq:yA)(s:yH)(σ:St)(H:Hp)(xs:List V)(us:xY)(Q:VK),Inv X Fq σ H s->HS xs us->r xs H Q ->
  wpAny (model X.prog X.w) X.A (call f us) (EP X Fq σ Q) X.xe s
noncomputable def Ww(r:R2)(ta tb:TE):TE:=λσ H Q=>ta σ H λx H1=>tb σ H1 λy H2=>r x y H2 Q
noncomputable def wO(r:V->Hp->VK->Prop)(ta:TE):TE:=λσ H Q=>ta σ H λx H1=>r x H1 Q
noncomputable def rI(C:Int->Int->Prop)(g:Int->Int->V):R2:=λx y H Q=>∃i j,x=.int i/\y=.int j/\C i j/\Q (g i j) H
noncomputable def OA(g:Int->Int->V):R2:=λx y H Q=>∃i j,x=.int i/\y=.int j/\Q (g i j) H
noncomputable def rU(g:Int->V):V->Hp->VK->Prop:=λx H Q=>∃i,x=.int i/\Q (g i) H
section
variable{X:Cx}{a b c:Expr}{ta tb tc:TE}{pos:Pos}
theorem P9(ha:PE X a ta)(hb:PE X b tb){Fq:yA}{s:yH}{σ:St}{H:Hp}{R:V->V->Hp->Prop}(I:Inv X Fq σ H s)
  (h:ta σ H λx H1=>tb σ H1 λy H2=>R x y H2) {Q:xZ} {f:yI->yI->Sem yI}
  (hf:∀v u s2 x y H2,Inv X Fq σ H2 s2->HN x v->HN y u->R x y H2->wpAny (model X.prog X.w) X.A (f v u) Q X.xe s2) :
  wpAny (model X.prog X.w) X.A (eval a X.env) (λv s₁=>wpAny (model X.prog X.w) X.A (eval b X.env) (λu s₂=>wpAny (model X.prog X.w) X.A (f v u) Q X.xe s₂) X.xe s₁) X.xe s:=by
 refine Hk (ha Fq s σ H _ I h) λv s1 ⟨x,H1,I1,r1,q1⟩=>?_
 refine Hk (hb Fq s1 σ H1 _ I1 q1) λu s2 ⟨y,H2,I2,r2,q2⟩=>?_
 exact hf v u s2 x y H2 I2 r1 r2 q2
theorem Hf{op:Operator}{r:R2}(ho:Iq X (binaryOp op) r)(ha:PE X a ta)(hb:PE X b tb):PE X (.BinOp a op b pos) (Ww r ta tb):=by
 intro Fq s σ H Q I h
 exact wpAny_BinOp (P9 ha hb I h λv u s2 x y H2 I2 rx ry q=>ho Fq s2 σ H2 x y v u Q I2 rx ry q)
theorem N4{op:UnaryOp}{r:V->Hp->VK->Prop}(ho:X5 X (unaryOp op) r)(ha:PE X a ta):PE X (.UnaryOp op a pos) (wO r ta):=by
 intro Fq s σ H Q I h
 exact UnaryOp_ (Hk (ha Fq s σ H _ I h) λv s1 ⟨x,H1,I1,r1,q1⟩=>ho Fq s1 σ H1 x v Q I1 r1 q1)
theorem RZ{f:yI->yI->Sem yI}{C:Int->Int->Prop}{g:Int->Int->Int}
  (rule:∀(i j:Int)(t u:Tok)(s:yH)(Q:xZ)(E:xZ),C i j->Q (.int (g i j) s.toks) { s with toks:=s.toks+1 }->wpAny (model X.prog X.w) X.A (f (.int i t) (.int j u)) Q E s) :
  Iq X f (rI C λi j=>.int (g i j)):=by
 intro Fq s σ H x y v u Q I rx ry h
 obtain⟨i,j,rfl,rfl,hc,q⟩:=h
 obtain⟨t,rfl⟩:=rx
 obtain⟨t',rfl⟩:=ry
 exact rule i j t t' s _ _ hc ⟨.int (g i j),H,I.tok _,⟨_,rfl⟩,q⟩
theorem Rt{f:yI->yI->Sem yI}{g:Int->Int->Int}
  (rule:∀(i j:Int)(t u:Tok)(s:yH)(Q:xZ)(E:xZ),Q (.int (g i j) s.toks) { s with toks:=s.toks+1 }->wpAny (model X.prog X.w) X.A (f (.int i t) (.int j u)) Q E s) :
  Iq X f (OA λi j=>.int (g i j)):=by
 intro Fq s σ H x y v u Q I rx ry h
 obtain⟨i,j,rfl,rfl,q⟩:=h
 obtain⟨t,rfl⟩:=rx
 obtain⟨t',rfl⟩:=ry
 exact rule i j t t' s _ _ ⟨.int (g i j),H,I.tok _,⟨_,rfl⟩,q⟩
theorem Nc{f:yI->yI->Sem yI}{g:Int->Int->Bool}
  (rule:∀(i j:Int)(t u:Tok)(s:yH)(Q:xZ)(E:xZ),Q (.bool (g i j)) s->wpAny (model X.prog X.w) X.A (f (.int i t) (.int j u)) Q E s) :
  Iq X f (OA λi j=>.bl (g i j)):=by
 intro Fq s σ H x y v u Q I rx ry h
 obtain⟨i,j,rfl,rfl,q⟩:=h
 obtain⟨t,rfl⟩:=rx
 obtain⟨t',rfl⟩:=ry
 exact rule i j t t' s _ _ ⟨.bl (g i j),H,I,rfl,q⟩
noncomputable def fA(i j:Int):Prop:=0<j/\j<1073741824
noncomputable def oT(i j:Int):Prop:=0<=j/\j<=1000000/\i.natAbs<2^64
noncomputable def UZ(i j:Int):Prop:=(-(2^64)<i/\i<2^64)∨(-(2^64)<j/\j<2^64)
theorem UZ.ok{i j:Int}(h:UZ i j):IntMulOk i j:=by
 rcases h with⟨h1,h2⟩|⟨h1,h2⟩
 ·exact .of_left (intBits_le_64 h1 h2)
 ·exact .of_right (intBits_le_64 h1 h2)
theorem Kn:Iq X (binaryOp .Add) (OA λi j=>.int (i+j)):=Rt λ_ _ _ _ _ _ _ q=>add_int q
theorem Kb:Iq X (binaryOp .Sub) (OA λi j=>.int (i-j)):=Rt λ_ _ _ _ _ _ _ q=>sub_int q
theorem Ml:Iq X (binaryOp .FloorDiv) (rI fA λi j=>.int (i / j)):=RZ λi j _ _ _ _ _ hc q=>by
 have h1:(0:Int)<j:=hc.1
 have h2:j<1073741824:=hc.2
 exact floordiv_int (by lia) (by rw[Em i (by lia)];exact q) (.inl (Fg (by lia)))
theorem Kt:Iq X (binaryOp .Mod) (rI (λ_ j=>0<j) λi j=>.int (i%j)):=RZ λi j _ _ _ _ _ hc q=>by
 have h1:(0:Int)<j:=hc
 exact mod_int' (by lia) (by rw[Int.fmod_eq_emod_of_nonneg i (by lia)];exact q)
theorem R3:Iq X (binaryOp .Pow) (rI oT λi j=>.int (i^j.toNat)):=RZ λ_ _ _ _ _ _ _ hc q=>pow_int_small hc.1 hc.2.1 hc.2.2 q
theorem wX{f:yI->Sem yI}{g:Int->Int}
  (rule:∀(i:Int)(t:Tok)(s:yH)(Q:xZ)(E:xZ),Q (.int (g i) s.toks) { s with toks:=s.toks+1 }->wpAny (model X.prog X.w) X.A (f (.int i t)) Q E s) :
  X5 X f (rU λi=>.int (g i)):=by
 intro Fq s σ H x v Q I rx h
 obtain⟨i,rfl,q⟩:=h
 obtain⟨t,rfl⟩:=rx
 exact rule i t s _ _ ⟨.int (g i),H,I.tok _,⟨_,rfl⟩,q⟩
theorem N7:X5 X (unaryOp .USub) (rU λi=>.int (-i)):=wX λ_ _ _ _ _ q=>neg_int q
end
noncomputable def UY:V->V->Bool
 |.non,.non=>true|.non,.int _=>true|.int _,.non=>true|.non,.bl _=>true|.bl _,.non=>true|.non,.str _=>true|.str _,.non=>true
 |.int _,.int _=>true|.bl _,.bl _=>true|.str _,.str _=>true|.byt _,.byt _=>true
 |.int _,.str _=>true|.str _,.int _=>true|.bl _,.str _=>true|.str _,.bl _=>true
 |_,_=>false
noncomputable def xS:R2:=λx y H Q=>UY x y=true/\Q (.bl (decide (x=y))) H
noncomputable def xQ:R2:=λx y H Q=>UY x y=true/\Q (.bl (!decide (x=y))) H
theorem Tk{i j:Int}:decide (V.int i=V.int j)=(i==j):=by
 rw[C4]
 simp
theorem TY{i j:Bool}:decide (V.bl i=V.bl j)=(i==j):=by
 rw[C4]
 simp
theorem SE{i j:Str}:decide (V.str i=V.str j)=(i==j):=by
 rw[C4]
 simp
theorem Ug{i j:Array UInt8}:decide (V.byt i=V.byt j)=(i.toList==j.toList):=by
 rw[C4]
 cases i
 cases j
 simp
section
variable{X:Cx}{a b c:Expr}{ta tb tc:TE}{pos:Pos}
theorem JC{Fq:yA}{σ:St}{H:Hp}{s:yH}{Q:VK}{k k':Bool}(I:Inv X Fq σ H s)(q:Q (.bl k) H)(e:k=k'):EP X Fq σ Q (.bool k') s:=by
 subst e
 exact⟨.bl k,H,I,rfl,q⟩
theorem Ke:Iq X (compareOp .Eq) xS:=by
 intro Fq s σ H x y v u Q I rx ry h
 obtain⟨hs,q⟩:=h
 cases x with
 |non =>
  cases rx
  cases y with
  |non=>cases ry;exact PySem.EqNone.eq_none_none (JC I q (by simp))
  |bl j=>cases ry;exact PySem.EqNone.eq_none_bool (JC I q (by simp))
  |int j=>obtain⟨t',rfl⟩:=ry;exact PySem.EqNone.eq_none_int (JC I q (by simp))
  |str j=>obtain⟨t',rfl⟩:=ry;exact PySem.EqNone.eq_none_str (JC I q (by simp))
  |_=>exact absurd (show false=true from hs) Ae
 |bl i =>
  cases rx
  cases y with
  |non=>cases ry;exact PySem.EqNone.eq_bool_none (JC I q (by simp))
  |bl j=>cases ry;exact eq_bool (JC I q TY)
  |str j=>obtain⟨t',rfl⟩:=ry;exact PySem.EqMixed.eq_bool_str (JC I q (by simp))
  |_=>exact absurd (show false=true from hs) Ae
 |int i =>
  obtain⟨t,rfl⟩:=rx
  cases y with
  |non=>cases ry;exact PySem.EqNone.eq_int_none (JC I q (by simp))
  |int j=>obtain⟨t',rfl⟩:=ry;exact eq_int (JC I q Tk)
  |str j=>obtain⟨t',rfl⟩:=ry;exact PySem.EqMixed.eq_int_str (JC I q (by simp))
  |_=>exact absurd (show false=true from hs) Ae
 |str i =>
  obtain⟨t,rfl⟩:=rx
  cases y with
  |non=>cases ry;exact PySem.EqNone.eq_str_none (JC I q (by simp))
  |bl j=>cases ry;exact PySem.EqMixed.eq_str_bool (JC I q (by simp))
  |int j=>obtain⟨t',rfl⟩:=ry;exact PySem.EqMixed.eq_str_int (JC I q (by simp))
  |str j=>obtain⟨t',rfl⟩:=ry;exact eq_str (JC I q SE)
  |_=>exact absurd (show false=true from hs) Ae
 |byt i =>
  obtain⟨t,rfl⟩:=rx
  cases y with
  |byt j=>obtain⟨t',rfl⟩:=ry;exact W.eq_bytes (JC I q Ug)
  |_=>exact absurd (show false=true from hs) Ae
 |_=>cases y<;>exact absurd (show false=true from hs) Ae
theorem OE:Iq X (compareOp .NotEq) xQ:=by
 intro Fq s σ H x y v u Q I rx ry h
 obtain⟨hs,q⟩:=h
 cases x with
 |non =>
  cases rx
  cases y with
  |non=>cases ry;exact PySem.EqNone.ne_none_none (JC I q (by simp))
  |bl j=>cases ry;exact PySem.EqNone.ne_none_bool (JC I q (by simp))
  |int j=>obtain⟨t',rfl⟩:=ry;exact PySem.EqNone.ne_none_int (JC I q (by simp))
  |str j=>obtain⟨t',rfl⟩:=ry;exact PySem.EqNone.ne_none_str (JC I q (by simp))
  |_=>exact absurd (show false=true from hs) Ae
 |bl i =>
  cases rx
  cases y with
  |non=>cases ry;exact PySem.EqNone.ne_bool_none (JC I q (by simp))
  |bl j=>cases ry;exact ne_bool (JC I q (congrArg not TY))
  |str j=>obtain⟨t',rfl⟩:=ry;exact PySem.EqMixed.ne_bool_str (JC I q (by simp))
  |_=>exact absurd (show false=true from hs) Ae
 |int i =>
  obtain⟨t,rfl⟩:=rx
  cases y with
  |non=>cases ry;exact PySem.EqNone.ne_int_none (JC I q (by simp))
  |int j=>obtain⟨t',rfl⟩:=ry;exact ne_int (JC I q (congrArg not Tk))
  |str j=>obtain⟨t',rfl⟩:=ry;exact PySem.EqMixed.ne_int_str (JC I q (by simp))
  |_=>exact absurd (show false=true from hs) Ae
 |str i =>
  obtain⟨t,rfl⟩:=rx
  cases y with
  |non=>cases ry;exact PySem.EqNone.ne_str_none (JC I q (by simp))
  |bl j=>cases ry;exact PySem.EqMixed.ne_str_bool (JC I q (by simp))
  |int j=>obtain⟨t',rfl⟩:=ry;exact PySem.EqMixed.ne_str_int (JC I q (by simp))
  |str j=>obtain⟨t',rfl⟩:=ry;exact ne_str (JC I q (congrArg not SE))
  |_=>exact absurd (show false=true from hs) Ae
 |byt i =>
  obtain⟨t,rfl⟩:=rx
  cases y with
  |byt j=>obtain⟨t',rfl⟩:=ry;exact W.ne_bytes (JC I q (congrArg not Ug))
  |_=>exact absurd (show false=true from hs) Ae
 |_=>cases y<;>exact absurd (show false=true from hs) Ae
theorem QX:Iq X (compareOp .Lt) (OA λi j=>.bl (decide (i<j))):=Nc λ_ _ _ _ _ _ _ q=>lt_int q
theorem Qt:Iq X (compareOp .LtE) (OA λi j=>.bl (decide (i<=j))):=Nc λ_ _ _ _ _ _ _ q=>le_int q
theorem Mg:Iq X (compareOp .Gt) (OA λi j=>.bl (decide (j<i))):=Nc λ_ _ _ _ _ _ _ q=>gt_int q
theorem ZY:Iq X (compareOp .GtE) (OA λi j=>.bl (decide (j<=i))):=Nc λ_ _ _ _ _ _ _ q=>ge_int q
theorem cZ:Iq X (compareOp .IsNot) (λx y H Q=>y=.non/\Q (.bl (!decide (x=.non))) H):=by
 intro Fq s σ H x y v u Q I rx ry h
 obtain⟨rfl,q⟩:=h
 cases ry
 refine isnot_none_gen (JC I q ?_)
 cases x<;>first
  |(cases rx;rfl)
  |(obtain⟨t,rfl⟩:=rx;rfl)
theorem Iq.or{f:yI->yI->Sem yI}{r r':R2}(h:Iq X f r)(h':Iq X f r'):Iq X f (λx y H Q=>r x y H Q∨r' x y H Q):=by
 intro Fq s σ H x y v u Q I rx ry q
 rcases q with q|q
 ·exact h Fq s σ H x y v u Q I rx ry q
 ·exact h' Fq s σ H x y v u Q I rx ry q
theorem ID(b:Expr){op:CmpOp}(h:op≠.In:=by decide)(h2:op≠.NotIn:=by decide):behindInMarks op b=false:=by
 have e1:(op==CmpOp.In)=false:=by cases op<;>first|rfl|exact absurd rfl h
 have e2:(op==CmpOp.NotIn)=false:=by cases op<;>first|rfl|exact absurd rfl h2
 cases b<;>simp [behindInMarks,e1,e2]
theorem NF{op:CmpOp}{r:R2}(ho:Iq X (compareOp op) r)(ha:PE X a ta)(hb:PE X b tb)(hm:behindInMarks op b=false):PE X (.Compare a [op] [b] pos) (Ww r ta tb):=by
 intro Fq s σ H Q I h
 exact wpAny_Compare1 (P9 ha hb I h λv u s2 x y H2 I2 rx ry q=>ho Fq s2 σ H2 x y v u Q I2 rx ry q) hm
noncomputable def kH(t:TE):TT:=λσ H Q=>t σ H λx H'=>∃k,x=.bl k/\Q k H'
theorem IJ{op:CmpOp}{r:R2}(ho:Iq X (compareOp op) r)(ha:PE X a ta)(hb:PE X b tb)(hm:behindInMarks op b=false):PT X (.Compare a [op] [b] pos) (kH (Ww r ta tb)):=by
 intro Fq s σ H Q I h
 refine Gd (Hk (ha Fq s σ H _ I h) λv s1 ⟨x,H1,I1,r1,q1⟩=>Hk (hb Fq s1 σ H1 _ I1 q1) λu s2 ⟨y,H2,I2,r2,q2⟩ =>
  Hk (ho Fq s2 σ H2 x y v u _ I2 r1 r2 q2) λc s3 ⟨z,H3,I3,r3,k,e,q3⟩=>?_) hm
 subst e
 cases r3
 exact CD ⟨H3,I3,q3⟩
theorem Pm:(sizeLine:Nat)<2^63:=by rw[sizeLine_eq];decide
theorem KN{x:V}{us:xY}(r:HS [x] us):∃u,us=[u]/\HN x u:=by
 cases r with
 |cons r1 r2=>cases r2;exact⟨_,rfl,r1⟩
theorem MF{x y:V}{us:xY}(r:HS [x,y] us):∃u w',us=[u,w']/\HN x u/\HN y w':=by
 cases r with
 |cons r1 r2 =>
  cases r2 with
  |cons r3 r4=>cases r4;exact⟨_,_,rfl,r1,r3⟩
theorem R9:IF X (.builtin "abs") (λxs H Q=>∃i,xs=[.int i]/\Q (.int (if i<0 then -i else i)) H):=by
 intro Fq s σ H xs us Q I r h
 obtain⟨i,rfl,q⟩:=h
 obtain⟨u,rfl,t,rfl⟩:=KN r
 exact call_abs_int λu tk=>⟨.int (if i<0 then -i else i),H,I.tok _,⟨_,rfl⟩,q⟩
theorem TU(hc:X.calm=true):IF X (.builtin "min") (λxs H Q=>∃i j,xs=[.int i,.int j]/\Q (.int (if j<i then j else i)) H):=by
 intro Fq s σ H xs us Q I r h
 obtain⟨i,j,rfl,q⟩:=h
 obtain⟨u,w',rfl,⟨t,rfl⟩,⟨t',rfl⟩⟩:=MF r
 refine min_two_ints (I.ok.hd hc) λh' tk k=>⟨_,H,I.kept k,?_,q⟩
 by_cases hj:j<i
 ·rw[AF hj,AF hj];exact⟨_,rfl⟩
 ·rw[AD hj,AD hj];exact⟨_,rfl⟩
end
structure On(h:Heap)(x dx C:yJ)(mA:Str->yD):Prop where
 obj:h.get? x=some (W.instObj C dx)
 ns:h.Ns1 dx mA
 ne:dx≠x
theorem eV{h:Heap}{dx:yJ}{mA:Str->yD}(n:h.Ns1 dx mA):∃od,h.get? dx=some od/\∀name,W.lookIn name od=some (mA name):=by
 obtain⟨o,es,ep,ho,hd,hk,_,hm⟩:=n
 refine⟨o,ho,λname=>?_⟩
 have e:=hm name
 unfold nsFind findBy at e
 rw[<-Array.find?_toList]at e
 unfold W.lookIn
 rw[hd]
 dsimp only
 split
 ·rename_i y q
  rw[q]at e
  exact congrArg some e
 ·rename_i q
  rw[q]at e
  have a:es.toList.any (·.refKey)=false:=by
   rw[List.any_eq_false]
   intro y hy
   obtain⟨z,t,hkey⟩:=hk y (Array.mem_toList_iff.mp hy)
   simp [DictEntry.refKey,hkey]
  have a':¬ es.toList.any (·.refKey)=true:=by rw[a];exact Ae
  rw[AD a']
  exact congrArg some e
theorem On.look{h:Heap}{x dx C:yJ}{mA:Str->yD}(I:On h x dx C mA):∃od,W.InstAt h x (W.instObj C dx) C (some od)/\∀name,W.lookIn name od=some (mA name) :=
 let ⟨od,ho,hl⟩:=eV I.ns
 ⟨od,⟨I.obj,rfl,rfl,ho⟩,hl⟩
theorem JT.some_of{v:V}{o:yD}(r:JT (some v) o):∃u,o=some u/\HN v u:=by
 cases o with
 |none=>exact(show False from r).elim
 |some u=>exact⟨u,rfl,r⟩
section
variable{P:yL}{w:yM}{H H':Hp}{h h':Heap}{a C dx:yJ}{fs fs':List (Str×V)}
theorem aE(hok:Ii P w H h)(e:H a=some (.ins C dx fs)):∃mA,On h a dx C mA/\(∀f,JT (fs.lookup f) (mA f))/\PySem.Within mA (fs.map (·.1))/\fs.length<=1000/\H dx=some (.own a):=by
 obtain⟨d,z,ne,ob,mA,n,r,q⟩:=(show Hg P w H h a (.ins C dx fs) from hok a _ e)
 exact⟨mA,⟨ob,n,ne⟩,r,q,z,d⟩
end
structure bK(K:yG)(C:yJ):Prop where
 pg:W.plainGet K C Str.empty=true
 hd:W.hasDictIn K C=true
 po:W.plainOver K C=true
 sa:W.findIn K (.ref C) "__setattr__" = some (some (.builtin "object.__setattr__"))
theorem bK.get{K:yG}{C:yJ}(c:bK K C)(f:Str):W.plainGet K C f=true:=c.pg
structure xV(K:yG)(C:yJ)(f:Str)(v:V)(u:yI):Prop where
 at_:W.findIn K (.ref C) f=some (some u)
 rel:HN v u
 get:W.specialIn K u "__get__" = some none
 cp:W.copiedNames.contains f=false
structure wY(K:yG)(C:yJ)(m:Str)(f:yJ):Prop where
 at_:W.findIn K (.ref C) m=some (some (.ref f))
 fn:W.isFn K (.ref f)=true
 kp:W.keepIn K (.ref f)=true
section
variable{X:Cx}{Fq:yA}{σ:St}{H:Hp}{s:yH}{a C dx:yJ}{fs:List (Str×V)}{f:Str}{v:V}{A:Around}{E:xZ}
theorem Inv.made(I:Inv X Fq σ H s):Inv X Fq σ (HV (HV H s.heap.objs.size (.own (s.heap.objs.size+1))) (s.heap.objs.size+1) (.ins C s.heap.objs.size []))
  { s with heap:=(s.heap.push W.emptyDict).push (W.instObj C s.heap.objs.size) }:=by
 have e1:(s.heap.push W.emptyDict).get? s.heap.objs.size=some W.emptyDict:=AW s.heap rfl
 have e2:((s.heap.push W.emptyDict).push (W.instObj C s.heap.objs.size)).get? (s.heap.objs.size+1)=some (W.instObj C s.heap.objs.size):=by
  have:=AW (s.heap.push W.emptyDict) (o:=W.instObj C s.heap.objs.size) rfl
  rwa [Bo]at this
 have e3:(s.heap.push W.emptyDict).Ns s.heap.objs.size (λ_=>none):=⟨W.emptyDict,#[],_,e1,rfl,(λe he=>absurd he (by simp)),λ_=>rfl⟩
 have I1:=I.laid (a:=s.heap.objs.size) (o:=.own (s.heap.objs.size+1)) (h':=s.heap.push W.emptyDict) (t':=s.toks) (λb u q=>AC _ q) (AH _) ⟨_,e1⟩
 refine I1.laid (a:=s.heap.objs.size+1) (o:=.ins C s.heap.objs.size []) (t':=s.toks) (λb u q=>AC _ q) (Nat.le_of_eq (Bo _ _)) ?_
 have ne:s.heap.objs.size≠s.heap.objs.size+1:=Au (E1 _)
 refine⟨by rw[Hw ne,HR],Az _,ne,e2,λ_=>none,(Heap.Ns1.of_empty e3).at λo q=>AC _ q,λ_=>True.intro,λy hy=>absurd rfl hy⟩
end
section
variable{X:Cx}{Fq:yA}{σ:St}{H:Hp}{s:yH}{A:Around}{E:xZ}{Q:xZ}{c:yI}{b:Bool}
inductive Ib (K:yG) (H:Hp):V->yI->Prop where
 |non:Ib K H .non (.type "NoneType")
 |bl (x:Bool):Ib K H (.bl x) (.type "bool")
 |int (i:Int):Ib K H (.int i) (.type "int")
 |str (x:Str):Ib K H (.str x) (.type "str")
 |flt (x:UInt64):Ib K H (.flt x) (.type "float")
 |lst {a:yJ} {xs:List V} (e:H a=some (.lst xs)):Ib K H (.ref a) (.type "list")
 |frz {a:yJ} {o:Obj} {xs:List V} (e:H a=some (.frz o (.lst xs))):Ib K H (.ref a) (.type "list")
 |tup {a:yJ} {xs:List V} (e:H a=some (.tup xs)):Ib K H (.ref a) (.type "tuple")
 |dK {a:yJ} {kvs:List (IB×V)} (e:H a=some (.dK kvs)):Ib K H (.ref a) (.type "dict")
 |dT {a:yJ} {kvs:List (List IB×V)} (e:H a=some (.dT kvs)):Ib K H (.ref a) (.type "dict")
 |ins {a C dx:yJ} {fs:List (Str×V)} (e:H a=some (.ins C dx fs)) (cl:bK K C) (ha:W.findIn K (.ref C) "__class__" = some (some (.builtin "object.__class__")))
   (hn:W.specialIn K (.builtin "object.__class__") "__get__" = some (some (.builtin "getset_descriptor.__get__"))) (htk:W.takesIn K (.builtin "object.__class__")=some true)
   (hm:W.mroIn K C (.type "object")=some true):Ib K H (.ref a) (.ref C)
theorem lH{x:V}{u t:yI}(I:Inv X Fq σ H s)(rx:HN x u)(ty:Ib X.K H x t)(e:W.kitOne X.K t c=some b)(h:∀tk,Q (.bool b) { s with toks:=tk }) :
  wpAny (model X.prog X.w) A (call (.builtin "isinstance") [u,c]) Q E s:=by
 cases ty with
 |non=>cases(show u=Value.none from rx);exact B4 W.kitx_none I.kIn True.intro e (λz=>nomatch z) h
 |bl y=>cases(show u=Value.bool y from rx);exact B4 W.kitx_bool I.kIn True.intro e (λz=>nomatch z) h
 |int i=>obtain⟨t,q⟩:=(show ∃t,u=Value.int i t from rx);cases q;exact B4 W.kitx_int I.kIn True.intro e (λz=>nomatch z) h
 |str y=>obtain⟨t,q⟩:=(show ∃t,u=Value.str y t from rx);cases q;exact B4 W.kitx_str I.kIn True.intro e (λz=>nomatch z) h
 |flt y=>obtain⟨t,q⟩:=(show ∃t,u=Value.float y t from rx);cases q;exact B4 W.kitx_float I.kIn True.intro e (λz=>nomatch z) h
 |@lst a xs ea =>
  cases(show u=Value.ref a from rx)
  obtain⟨_,_,n,_,h1⟩:=(show Hg X.prog X.w H s.heap a (.lst xs) from I.hok a _ ea)
  exact B4 W.kitx_list I.kIn ⟨_,h1,rfl⟩ e (λz=>nomatch z) h
 |@frz a ob xs ea =>
  cases(show u=Value.ref a from rx)
  obtain⟨_,_,_,n,_,h1⟩:=(show Hg X.prog X.w H s.heap a (.frz ob (.lst xs)) from I.hok a _ ea)
  exact B4 W.kitx_list I.kIn ⟨_,h1,rfl⟩ e (λz=>nomatch z) h
 |@tup a xs ea =>
  cases(show u=Value.ref a from rx)
  obtain⟨_,_,_,p⟩:=(show Hg X.prog X.w H s.heap a (.tup xs) from I.hok a _ ea)
  obtain⟨o,h1,h2,_⟩:=p
  exact B4 W.kitx_tuple I.kIn ⟨o,h1,h2⟩ e (λz=>nomatch z) h
 |@dK a kvs ea =>
  cases(show u=Value.ref a from rx)
  obtain⟨_,_,vs,_,p⟩:=(show Hg X.prog X.w H s.heap a (.dK kvs) from I.hok a _ ea)
  obtain⟨o,es,ep,h1,h2,_⟩:=p
  exact B4 W.kitx_dict I.kIn ⟨o,h1,h2.1⟩ e (λz=>nomatch z) h
 |@dT a kvs ea =>
  cases(show u=Value.ref a from rx)
  obtain⟨_,_,xs,_,o,es,ep,h1,h2,_⟩:=(show Hg X.prog X.w H s.heap a (.dT kvs) from I.hok a _ ea)
  exact B4 W.kitx_dict I.kIn ⟨o,h1,h2.1⟩ e (λz=>nomatch z) h
 |@ins a C dx fs ea cl ha hn htk hm =>
  cases(show u=Value.ref a from rx)
  obtain⟨mA,O,_⟩:=aE I.hok ea
  obtain⟨od,J,_⟩:=O.look
  exact B4 (W.kitx_own (cl.get _) cl.hd ha hn htk hm) I.kIn J e (λz=>nomatch z) h
end
structure IN(k:Nat)(A:Around):Prop where
 hd:A.handled=none
 dp:A.depth+3*k+5<recursionLimit
 un:A.units+16*k+200<cLine
theorem IN.mono{j k:Nat}{A:Around}(r:IN k A)(h:j<=k):IN j A:=⟨r.hd,by have:=r.dp;lia,by have:=r.un;lia⟩
theorem IN.deeper{k:Nat}{A:Around}(r:IN (k+1) A)(env:Env):IN k (A.deeper env) :=
 ⟨r.hd,by have:=r.dp;show A.depth+1+3*k+5<_;lia,by have:=r.un;show A.units+3+16*k+200<_;lia⟩
theorem IN.in1{k:Nat}{A:Around}(r:IN (k+1) A):IN k A.in1 :=
 ⟨r.hd,by have:=r.dp;show A.depth+3*k+5<_;lia,by have:=r.un;show A.units+1+16*k+200<_;lia⟩
theorem IN.depth{k:Nat}{A:Around}(r:IN k A):A.depth<recursionLimit:=by have:=r.dp;lia
theorem IN.units{k:Nat}{A:Around}(r:IN k A):A.units+64<cLine:=by have:=r.un;lia
theorem IN.units0{k:Nat}{A:Around}(r:IN k A):A.units<cLine:=by have:=r.un;lia
noncomputable def mW:TA:=λ_ H Q=>Q [] H
noncomputable def iN(ta:TE)(tr:TA):TA:=λσ H Q=>ta σ H λx H1=>tr σ H1 λxs H2=>Q (x::xs) H2
section
variable{X:Cx}{e:Expr}{es:yE}{te:TE}{t:TA}{pos:Pos}
theorem Gy:PA X [] mW:=λ_ _ _ _ H Q I h=>Calls.spliced_nil ⟨[],H,I,.nil,h⟩
theorem Gi(ha:PE X e te)(hr:PA X es t)(hs:starEach (e::es) X.env=(false,eval e X.env)::starEach es X.env:=by rfl):PA X (e::es) (iN te t):=by
 intro pos Fq s σ H Q I h
 rw[hs]
 show wpAny _ _ (spliced ((false,eval e X.env)::backTo pos (starEach es X.env))) _ _ s
 refine Dr (Hk (ha Fq s σ H _ I h) λu s1 ⟨x,H1,I1,r1,q1⟩=>?_)
 exact Hk (hr pos Fq s1 σ H1 _ I1 q1) λus s2 ⟨xs,H2,I2,r2,q2⟩=>⟨x::xs,H2,I2,.cons r1 r2,q2⟩
noncomputable def ZI(t:TA):TE:=λσ H Q=>t σ H λxs H1=>xs.length<=sizeLine/\∀p,H1 p=none->Q (.ref p) (HV H1 p (.tup xs))
noncomputable def eS(t:TA):TE:=λσ H Q=>t σ H λxs H1=>xs.length<=sizeLine/\∀p,H1 p=none->Q (.ref p) (HV H1 p (.lst xs))
theorem IE{x1}(h:PA X es t):PE X (.Tuple es x1 pos) (ZI t):=by
 intro Fq s σ H Q I hq
 refine wpAny_Tuple_spliced (Hk (h pos Fq s σ H _ I hq) λus s1 ⟨xs,H1,I1,r,z,q⟩=>⟨by rw[<-r.length];exact z,?_⟩)
 have hf:H1 s1.heap.objs.size=none:=I1.hok.fresh (AH _)
 refine⟨.ref s1.heap.objs.size,HV H1 s1.heap.objs.size (.tup xs),I1.laid (t':=s1.toks) (λb u e=>AC _ e) (AH _) ?_,rfl,q _ hf⟩
 exact⟨z,us,r,⟨_,AW _ rfl,rfl,_,rfl,rfl⟩⟩
theorem Ik(h:PA X es t):PE X (.List es pos) (eS t):=by
 intro Fq s σ H Q I hq
 refine wpAny_List_spliced (Hk (h pos Fq s σ H _ I hq) λus s1 ⟨xs,H1,I1,r,z,q⟩=>⟨by rw[<-r.length];exact z,?_⟩)
 have hf:H1 s1.heap.objs.size=none:=I1.hok.fresh (AH _)
 refine⟨.ref s1.heap.objs.size,HV H1 s1.heap.objs.size (.lst xs),I1.laid (t':=s1.toks) (λb u e=>AC _ e) (AH _) ?_,rfl,q _ hf⟩
 exact⟨z,us,0,r,AW _ rfl⟩
end
noncomputable abbrev Sp:=List V->Hp->VK->XK->Prop
noncomputable abbrev LF:=List Env->Hp->yH->XK->yI->yH->Prop
structure Kx(P:yL)(w:yM)(K:yG)(mg:Str->yD)(base:Heap)(A:Around)(outer:List Env)(s:yH)(H:Hp):Prop where
 frames:A.frames=some outer
 mod:Mod K mg base
 bs:∀b o,base.get? b=some o->s.heap.get? b=some o/\H b=none
 bsz:base.objs.size<=s.heap.objs.size
 funs:s.heap.FunFrames base outer
 frf:∀b∈Kc outer,H b=none
 hok:Ii P w H s.heap
 bare:AllBare s.gens
noncomputable def CE(outer:List Env)(P:yL)(w:yM)(H:Hp)(s:yH)(Q:VK)(u:yI)(s':yH):Prop :=
 ∃v H',s'.os=s.os/\AllBare s'.gens/\Un (Kc outer) [] H H' s.heap s'.heap/\Ii P w H' s'.heap/\HN v u/\Q v H'
noncomputable def CR(CX:LF)(outer:List Env)(P:yL)(w:yM)(H:Hp)(s:yH)(Q:VK)(E:XK)(r:Result)(s':yH):Prop :=
 match r with
 |.ok (.ret u)=>CE outer P w H s Q u s'
 |.ok _=>False
 |.error e=>CX outer H s E e s'
structure HC(P:yL)(w:yM)(K:yG)(mg:Str->yD)(base:Heap)(CX:LF)(k:Nat)(f:yJ)(fd:yN)(ps:yB)(sp:Sp):Prop where
 len:∀vs H Q E,sp vs H Q E->vs.length=ps.length
 run:∀(A:Around)(outer:List Env)(s:yH)(H:Hp)(args:Args)(us:xY)(vs:List V)(Q:VK)(E:XK),IN k A->Kx P w K mg base A outer s H->BindsTo s fd args (ps.zip us)->HS vs us->sp vs H Q E ->
  codeAny (model P w) A (.call (.ref f) args) (CR CX outer P w H s Q E) s
theorem HC.mono{P:yL}{w:yM}{K:yG}{mg:Str->yD}{base:Heap}{CX:LF}{j k:Nat}{f:yJ}{fd:yN}{ps:yB}{sp:Sp}(F:HC P w K mg base CX j f fd ps sp)(h:j<=k) :
  HC P w K mg base CX k f fd ps sp:=⟨F.len,λA outer s H args us vs Q E hr=>F.run A outer s H args us vs Q E (hr.mono h)⟩
theorem HC.imp{P:yL}{w:yM}{K:yG}{mg:Str->yD}{base:Heap}{CX:LF}{k:Nat}{f:yJ}{fd:yN}{ps:yB}{sp sp':Sp}(F:HC P w K mg base CX k f fd ps sp)
  (h:∀vs H Q E,sp' vs H Q E->sp vs H Q E):HC P w K mg base CX k f fd ps sp' :=
 ⟨λvs H Q E q=>F.len vs H Q E (h _ _ _ _ q),λA outer s H args us vs Q E hr he hb hv hs=>F.run A outer s H args us vs Q E hr he hb hv (h _ _ _ _ hs)⟩
theorem Kx.in1{P:yL}{w:yM}{K:yG}{mg:Str->yD}{base:Heap}{A:Around}{outer:List Env}{s:yH}{H:Hp}(e:Kx P w K mg base A outer s H) :
  Kx P w K mg base A.in1 outer s H:=⟨e.frames,e.mod,e.bs,e.bsz,e.funs,e.frf,e.hok,e.bare⟩
section
variable{X:Cx}{Fq:yA}{σ:St}{H:Hp}{s s':yH}
theorem Inv.env0(I:Inv X Fq σ H s):Kx X.prog X.w X.K X.mg X.base X.A X.stack s H :=
 ⟨I.ok.frames,I.ok.mod,I.bs,As I.ok.bsz I.sz,I.stack,I.stkFree,I.hok,I.bare⟩
theorem Inv.after{Q:VK}{u:yI}(I:Inv X Fq σ H s)(h:CE X.stack X.prog X.w H s Q u s'):EP X Fq σ Q u s':=by
 obtain⟨v,H',os,bare,un,hok,r,q⟩:=h
 obtain⟨hh,g,d,t,os'⟩:=s'
 obtain rfl:os'=s.os:=os
 exact⟨v,H',I.call (h':=hh) (g':=g) (d':=d) (t':=t) (ch:=[]) un hok bare (λb z=>absurd z (by simp)),r,q⟩
end
noncomputable def T6(sp:Sp)(dvs:List V)(E:XK)(t:TA):TE:=λσ H Q=>t σ H λvs H1=>sp (vs++dvs) H1 Q E
noncomputable def IT(K:yG)(fd:yN)(ps:yB)(ds:xY):Prop :=
 ∀(s:yH)(us:xY),K.In s.heap->(us++ds).length=ps.length->BindsTo s fd ⟨us,[]⟩ (ps.zip (us++ds))
theorem IT.all{K:yG}{fd:yN}{ps:yB}(h:∀us:xY,us.length=ps.length->bindArgs fd ⟨us,[]⟩=pure (ps.zip us)):IT K fd ps []:=λs us _ hl=>by
 rw[BV]at hl ⊢
 exact .of_eq (h us hl)
noncomputable def QS(CX:LF)(X:Cx)(E:XK):Prop:=∀(Fq:yA)(σ:St)(H:Hp)(s:yH)(e:yI)(s':yH),Inv X Fq σ H s->CX X.stack H s E e s'->X.xe e s'
section
variable{X:Cx}{CX:LF}{k:Nat}{f C:yJ}{fd:yN}{ps:yB}{sp:Sp}{dvs:List V}{ds:xY}{E:XK}{x m:Str}{p pos apos:Pos}{e o:Expr}{es:yE}{ta:TE}{t:TA}
theorem pX{Fq:yA}{σ:St}{H:Hp}{s:yH}{Q:VK}{us:xY}{vs:List V}(F:HC X.prog X.w X.K X.mg X.base CX k f fd ps sp)(hr:IN k X.A)(hb:IT X.K fd ps ds)(hd:HS dvs ds)(hx:QS CX X E)
  (I:Inv X Fq σ H s) (r:HS vs us) (h:sp (vs++dvs) H Q E):wpAny (model X.prog X.w) X.A (call (.ref f) us) (EP X Fq σ Q) X.xe s:=by
 have r2:HS (vs++dvs) (us++ds):=r.append hd
 have hl:(us++ds).length=ps.length:=by rw[<-r2.length];exact F.len _ _ _ _ h
 refine wpAny_call (FI (F.run X.A X.stack s H ⟨us,[]⟩ (us++ds) (vs++dvs) Q E hr I.env0 (hb s us I.kIn hl) r2 h) λr s' hq=>?_)
 cases r with
 |error e=>exact hx Fq σ H s e s' I hq
 |ok fl =>
  cases fl with
  |ret u=>exact I.after hq
  |next=>exact False.elim hq
  |brk=>exact False.elim hq
  |cont=>exact False.elim hq
theorem O0(F:HC X.prog X.w X.K X.mg X.base CX k f fd ps sp)(hr:IN k X.A)(hg:Gl X x)(hm:X.mg x=some (.ref f))(hk:W.keepIn X.K (.ref f)=true)(hb:IT X.K fd ps ds)(hd:HS dvs ds)(hx:QS CX X E)
  (ha:PA X (e::es) t) (hdb:(x==("__debug__" : Str))=false:=by decide) (he:starEach (e::es) X.env=(false,eval e X.env)::starEach es X.env:=by rfl) (hpl:(backTo pos (starEach es X.env)).any (·.1)=false:=by rfl) :
  PE X (.Call (.Name x p) (e::es) [] pos) (T6 sp dvs E t):=by
 intro Fq s σ H Q I h
 refine Bv (SX I hg hm ?_ hdb)
 refine W.callWith_K (h₀:=X.base) I.ok.mod.kin hk (Hk (ha pos Fq s σ H _ I h) λus s1 ⟨vs,H1,I1,r,q⟩=>⟨I1.kIn,?_⟩) he hpl
 exact pX F hr hb hd hx I1 r q
structure Mk(K:yG)(C f:yJ):Prop where
 makes:W.makesIn K C=true
 init:W.findIn K (.ref C) "__init__" = some (some (.ref f))
 fn:W.isFn K (.ref f)=true
 kp:W.keepIn K (.ref C)=true
end
section
variable{X:Cx}{CX:LF}{k:Nat}{f C:yJ}{fd:yN}{ps ks:yB}{sp:Sp}{E:XK}{x m:Str}{p pos apos kpos:Pos}{e o:Expr}{es:yE}{kws:List Keyword}{te ta:TE}{t tk:TA}{nm:Option Str}
structure Xj(K:yG)(fd:yN)(ps ks:yB)(g:xY->xY->xY)(gV:List V->List V->List V):Prop where
 to:∀(s:yH)(us ws:xY),K.In s.heap->(g us ws).length=ps.length->BindsTo s fd ⟨us,ks.zip ws⟩ (ps.zip (g us ws))
 rel:∀{vs:List V}{us:xY}{zs:List V}{ws:xY},HS vs us->HS zs ws->HS (gV vs zs) (g us ws)
variable{g:xY->xY->xY}{gV:List V->List V->List V}
end
structure Gq(N P:yB)(sc:Scope):Prop where
 kind:sc.kind=.function
 co:sc.isCoroutine=false
 gen:sc.isGenerator=false
 nd:N.Nodup
 pre:N.take P.length=P
 par:∀x∈P,sc.names.lookup x=some .local∨sc.names.lookup x=some .cell
 nofree:∀y∈sc.names,y.2≠.free
theorem Re{kindOf:Str->Option yO}{x:Str}:∀{binds:List (Str×yI)}{m:Str->yD},(∀v,(x,v)∉binds)->bindL kindOf binds m x=m x
 |[],_,_=>rfl
 |(n,v)::r,m,h=>by
  unfold bindL
  rw[Re λw hw=>h w (AE _ hw)]
  split
  ·have:x≠n:=by rintro rfl;exact h v AG
   simp [this]
  ·rfl
theorem SN{kindOf:Str->Option yO}{x:Str}:∀{binds:List (Str×yI)}{m:Str->yD},(∀v,(x,v)∉binds)->bindC kindOf binds m x=m x
 |[],_,_=>rfl
 |(n,v)::r,m,h=>by
  unfold bindC
  rw[SN λw hw=>h w (AE _ hw)]
  split
  ·rfl
  ·have:x≠n:=by rintro rfl;exact h v AG
   simp [this]
theorem SY{kindOf:Str->Option yO}{x:Str}{v:yI}:∀{P:yB}{vs:xY}{i:Nat}{m:Str->yD},P.Nodup->P[i]?=some x->vs[i]?=some v->kindOf x=some .local ->
  bindL kindOf (P.zip vs) m x=some v
 |[],_,_,_,_,h,_,_=>by simp at h
 |_::_,[],_,_,_,_,h,_=>by simp at h
 |p::P,w::vs,0,m,nd,h1,h2,hk=>by
  simp at h1 h2;subst h1;subst h2
  show bindL kindOf ((p,w)::P.zip vs) m p=_
  unfold bindL
  rw[Re λv hv=>(Ce.mp nd).1 (FZ hv).1,AF hk]
  simp
 |p::P,w::vs,i+1,m,nd,h1,h2,hk=>by
  show bindL kindOf ((p,w)::P.zip vs) m x=_
  unfold bindL
  exact SY (i:=i) (Ce.mp nd).2 (by simpa using h1) (by simpa using h2) hk
theorem Sw{kindOf:Str->Option yO}{x:Str}{v:yI}:∀{P:yB}{vs:xY}{i:Nat}{m:Str->yD},P.Nodup->P[i]?=some x->vs[i]?=some v->kindOf x≠some .local ->
  bindC kindOf (P.zip vs) m x=some v
 |[],_,_,_,_,h,_,_=>by simp at h
 |_::_,[],_,_,_,_,h,_=>by simp at h
 |p::P,w::vs,0,m,nd,h1,h2,hk=>by
  simp at h1 h2;subst h1;subst h2
  show bindC kindOf ((p,w)::P.zip vs) m p=_
  unfold bindC
  rw[SN λv hv=>(Ce.mp nd).1 (FZ hv).1,AD hk]
  simp
 |p::P,w::vs,i+1,m,nd,h1,h2,hk=>by
  show bindC kindOf ((p,w)::P.zip vs) m x=_
  unfold bindC
  exact Sw (i:=i) (Ce.mp nd).2 (by simpa using h1) (by simpa using h2) hk
noncomputable def start(N:yB)(vs:List V):St:=vs.map some++List.replicate (N.length-vs.length) none
noncomputable def Po(CX:LF)(P:yL)(w:yM)(K:yG)(mg:Str->yD)(base:Heap)(N:yB)(qual:Str)(scope:Scope)(f:yJ)(cd:yI)(A:Around)(outer:List Env)(s:yH)(H:Hp)(E:XK):Cx where
 prog:=P
 w:=w
 K:=K
 mg:=mg
 base:=base
 A:=A.deeper (envOfC qual scope s.heap.objs.size f cd)
 N:=N
 s₀:=s
 H₀:=H
 env:=envOfC qual scope s.heap.objs.size f cd
 outer:=outer
 stack:=envOfC qual scope s.heap.objs.size f cd::outer
 ex:=[]
 calm:=true
 fn:=λ_=>true
 pn:=[]
 xe:=λe s'=>wpAny (model P w) (A.deeper (envOfC qual scope s.heap.objs.size f cd)) (leaving (envOfC qual scope s.heap.objs.size f cd) e) (λ_ s''=>CX outer H s E e s'') (λe' s''=>CX outer H s E e' s'') s'
theorem Vk{sc:Scope}{n:Nat}{x:Str}(h:sc.names.lookup x=some .cell):∃c,(cellsFrom n sc.names []).lookup x=some c:=by
 have q:=Fh sc.names n [] (.inl h)
 exact Option.isSome_iff_exists.mp q
theorem Y2{CX:LF}{P:yL}{w:yM}{K:yG}{mg:Str->yD}{base:Heap}{N ps:yB}{qual:Str}{scope:Scope}{f:yJ}{cd:yI}{A:Around}{outer:List Env}{s s1:yH}{H:Hp}{E:XK}{us:xY}{vs:List V}
  (S:Gq N ps scope) (hd:A.handled=none) (e0:Kx P w K mg base A outer s H) (hl:vs.length=ps.length) (r:HS vs us)
  (x:InCallC s s.heap.objs.size (bindL (envOfC qual scope s.heap.objs.size f cd).kindOf (ps.zip us) λ_=>none) (cellsFrom (s.heap.objs.size+1) scope.names []) (bindC (envOfC qual scope s.heap.objs.size f cd).kindOf (ps.zip us) λ_=>none) s1) :
  Inv (Po CX P w K mg base N qual scope f cd A outer s H E) [] (start N vs) H s1:=by
 have hpl:ps.length<=N.length:=by have:=congrArg List.length S.pre;rw[Ap]at this;lia
 obtain⟨h1,tk,rfl,hk⟩:=x.done
 have noA:∀b:yJ,b∉(Po CX P w K mg base N qual scope f cd A outer s H E).ex:=λb z=>absurd (show b∈([]:yC) from z) (by simp)
 refine⟨⟨e0.mod,S.kind,rfl,rfl,AH _,λy z c h1 h2=>?_,λy hy=>?_,λy c _ h=>?_,λ_=>hd,Around.frames_deeper e0.frames,.inr ⟨rfl,rfl⟩,λb z=>absurd z (noA b),e0.bs,e0.bsz,λb _ _=>noA b,λb z=>absurd z (noA b),e0.funs,e0.frf⟩,
  rfl,e0.bare,Un.kept hk,⟨_,x.toInCall.ns,λi y v h1 h2 h3=>?_⟩,λy c h=>⟨_,x.cell y c h⟩,e0.hok.fresh (AH _),λy c h=>?_,λp hp=>absurd (show p∈([]:yA) from hp) (by simp),e0.hok.kept hk,?_⟩
 ·exact name_of_addr x.apart (DN h1) (DN h2)
 ·have hy:scope.names.lookup y=some .cell∨scope.names.lookup y=some .free:=hy
  rcases hy with hy|hy
  ·exact Vk hy
  ·exact absurd rfl (S.nofree _ (DN hy))
 ·exact Bf (x.above y c (DN h))
 ·have hi:i<vs.length:=by
   unfold start at h2
   by_cases hi:i<vs.length
   ·exact hi
   ·rw[Dc (by simpa using hi)]at h2
    rw[FN]at h2
    split at h2<;>cases h2
  have ha:vs[i]?=some v:=by
   unfold start at h2
   rw[Do (by simpa using hi),Ag]at h2
   cases e:vs[i]? with
   |none=>rw[e]at h2;cases h2
   |some a=>rw[e]at h2;cases h2;rfl
  obtain⟨u,hu,rv⟩:=r.get ha
  have hp:ps[i]?=some y:=by
   rw[<-S.pre,E3 (by lia)];exact h1
  have ndP:ps.Nodup:=by rw[<-S.pre];exact S.nd.sublist (List.take_sublist _ _)
  refine⟨u,rv,?_⟩
  rcases S.par y (AT hp) with k|k
  ·exact .inl ⟨k,SY ndP hp hu k⟩
  ·obtain⟨c,e⟩:=Vk (n:=s.heap.objs.size+1) k
   refine .inr ⟨.inl k,c,e,?_⟩
   have q:=x.cell y c e
   rw[Sw ndP hp hu (by show scope.names.lookup y≠_;rw[k];decide)]at q
   exact q
 ·exact e0.hok.fresh (Bf (x.above y c (DN h)))
 ·unfold start
  show _=N.length
  rw[AJ,AB,A8]
  lia
theorem ZD{CX:LF}{P:yL}{w:yM}{K:yG}{mg:Str->yD}{base:Heap}{k:Nat}{f:yJ}{name qual:Str}{params:Arguments}{body:List Stmt}{scope:Scope}{dV kV doc pm Hh ct oc:yI}{an od:Option yJ}
  {osl:Array yD} {N ps:yB} {sp:Sp} (lk:K.lookup f=some ⟨oc,od,.func (W.fnOf name qual params body scope dV kV doc pm an Hh ct),osl⟩) (hcd:W.codeIn K Hh qual=true) (S:Gq N ps scope)
  (len:∀vs H Q E,sp vs H Q E->vs.length=ps.length)
  (KO:∀(A:Around)(outer:List Env)(s:yH)(H:Hp)(vs:List V)(Q:VK)(E:XK),IN k (A.deeper (envOfC qual scope s.heap.objs.size f Hh))->sp vs H Q E ->
   ∃t,KA (Po CX P w K mg base N qual scope f Hh A outer s H E) body t/\t { nx:=λ_ H'=>Q .non H',rt:=Q } (start N vs) H) :
  HC P w K mg base CX (k+1) f (W.fnOf name qual params body scope dV kV doc pm an Hh ct) ps sp:=by
 refine⟨len,λA outer s H args us vs Q E hr e0 hb r hsp=>?_⟩
 have hl:=len _ _ _ _ hsp
 have KX:K.In s.heap:=e0.mod.kin.keeps λb o e=>(e0.bs b o e).1
 have lim:s.heap.NoLimit:=e0.mod.nolimit.keeps λb o e=>(e0.bs b o e).1
 have hkind:∀y∈ps.zip us,scope.names.lookup y.1=some .local∨(scope.names.lookup y.1=some .cell/\((cellsFrom (s.heap.objs.size+1) scope.names []).lookup y.1).isSome=true):=λ⟨n,v⟩ hy=>by
  rcases S.par n (FZ hy).1 with q|q
  ·exact .inl q
  ·exact .inr ⟨q,Fh _ _ _ (.inl q)⟩
 refine codeAny_call_function hr.depth (KX _ _ lk) rfl S.co S.gen rfl (W.codeRec_of KX hcd) (hb _ _ _ _ ?_)
 refine wpAny_newFunctionEnv_cells S.kind hkind λenv he s1 x=>?_
 subst he
 refine⟨lim.keeps x.toInCall.keep,codeAny_func ?_⟩
 obtain⟨t,ht,hq⟩:=KO A outer s H vs Q E (hr.deeper _) hsp
 have I:Inv (Po CX P w K mg base N qual scope f Hh A outer s H E) [] (start N vs) H s1:=Y2 S hr.hd e0 hl r x
 refine B8 (ht [] s1 (start N vs) H _ I hq) (λfl s' hs=>?_) λe s' hs=>hs
 have fin:∀{σ':St}{H':Hp}{v:V}{u:yI},Inv (Po CX P w K mg base N qual scope f Hh A outer s H E) [] σ' H' s'->HN v u->Q v H'->CE outer P w H s Q u s' :=
  λ{σ' H' v u} J rv q=>⟨v,H',J.os,J.bare,J.base,J.hok,rv,q⟩
 cases fl with
 |ret u =>
  obtain⟨v,σ',H',J,rv,q⟩:=hs
  exact fin J rv q
 |next =>
  obtain⟨σ',H',J,q⟩:=hs
  exact fin (v:=V.non) (u:=Value.none) J rfl q
 |brk =>
  obtain⟨_,_,_,q⟩:=hs
  exact False.elim q
 |cont =>
  obtain⟨_,_,_,q⟩:=hs
  exact False.elim q
section
variable{X:Cx}{x:Str}{p pos:Pos}{e:Expr}{es:yE}{t:TA}{id T:String}{r:List V->Hp->VK->Prop}
noncomputable def uM(r:List V->Hp->VK->Prop)(t:TA):TE:=λσ H Q=>t σ H λvs H1=>r vs H1 Q
theorem Iz(hc:IF X (.builtin id) r)(hg:Gl X x)(hm:X.mg x=none)(hv:bootBuiltins x=some (.builtin id))(ha:PA X (e::es) t)(hn:x ≠ "__name__" := by decide)(hdb:(x==("__debug__" : Str))=false:=by decide)
  (he:starEach (e::es) X.env=(false,eval e X.env)::starEach es X.env:=by rfl) (hpl:(backTo pos (starEach es X.env)).any (·.1)=false:=by rfl):PE X (.Call (.Name x p) (e::es) [] pos) (uM r t):=by
 intro Fq s σ H Q I h
 refine Bv (Ks I hg hm hv ?_ hn hdb)
 exact PyProof.Rows.callWith_builtin1 (Hk (ha pos Fq s σ H _ I h) λus s1 ⟨vs,H1,I1,r1,q1⟩=>hc Fq s1 σ H1 vs us Q I1 r1 q1) he hpl
theorem MJ(hc:IF X (.type T) r)(hg:Gl X x)(hm:X.mg x=none)(hv:bootBuiltins x=some (.type T))(ha:PA X (e::es) t)(hn:x ≠ "__name__" := by decide)(hdb:(x==("__debug__" : Str))=false:=by decide)
  (he:starEach (e::es) X.env=(false,eval e X.env)::starEach es X.env:=by rfl) (hpl:(backTo pos (starEach es X.env)).any (·.1)=false:=by rfl):PE X (.Call (.Name x p) (e::es) [] pos) (uM r t):=by
 intro Fq s σ H Q I h
 refine Bv (Ks I hg hm hv ?_ hn hdb)
 exact BY (Hk (ha pos Fq s σ H _ I h) λus s1 ⟨vs,H1,I1,r1,q1⟩=>hc Fq s1 σ H1 vs us Q I1 r1 q1) he hpl
end
end L2
namespace HT
open PySem PyProof.Rows
section
noncomputable def lexLt:xX->xX->Bool
 |[],[]=>false
 |[],_::_=>true
 |_::_,[]=>false
 |x::xs,y::ys=>if x=y then lexLt xs ys else decide (x<y)
theorem lexLt_cons(x y:Int)(xs ys:xX):lexLt (x::xs) (y::ys)=if x=y then lexLt xs ys else decide (x<y):=rfl
theorem lexLt_nil_nil:lexLt [] []=false:=rfl
theorem lexLt_nil_cons(y:Int)(ys:xX):lexLt [] (y::ys)=true:=rfl
theorem lexLt_cons_nil(x:Int)(xs:xX):lexLt (x::xs) []=false:=rfl
theorem eqAt_int(A:Around)(s:yH)(a:Int)(t:Tok)(c:Int)(u:Tok):∃e,SeqAt.EqAt A s (.int a t) (.int c u) e/\(e=true↔a=c) :=
 ⟨(a==c),Ds a t c u,by simp⟩
theorem oN(A:Around)(s:yH)(a:Int)(t:Tok)(c:Int)(u:Tok)(prog:yL)(w:yM)(E:xZ)(Q:xZ)(h:Q (.bool (decide (a<c))) s) :
  wpAny (model prog w) A (richCompare .Lt (.int a t) (.int c u)) Q E s :=
 (EY h:wpAny (model prog w) A (compareOp .Lt (.int a t) (.int c u)) Q E s)
section
open PySem.SeqAt
open PySem.AutoSeq1 (wpAny_loadPart')
open PySem.MeetsSeq PySem.MeetsSeq2 PySem.MeetsSeq3
theorem tuple_lt_ints(l b:yJ)(items items2:yF)(n n2:Nat)(dd dd2:Option yJ)(sl sl2:Array yD)(ns ms:xX)(hi:IntsAre items.toList ns)(hj:IntsAre items2.toList ms) :
  Meets (Builtin.«tuple.__lt__» ⟨[.ref l,.ref b],[]⟩)
   (λ_ R s=>s.heap.get? l=some { cls:=.type "tuple",dict:=dd,data:=.seq items n,slots:=sl }/\s.heap.get? b=some { cls:=.type "tuple",dict:=dd2,data:=.seq items2 n2,slots:=sl2 } /\
    R (.ok (.ret (.bool (lexLt ns ms)))) s) :=
 .of_wp λprog w A R s h=>by
  obtain⟨hp,g,d,tk,os⟩:=s;obtain⟨hl,hb,h⟩:=h
  have f2:=E4
  have z1:items.size=ns.length:=by rw[<-hi.length];simp
  have z2:items2.size=ms.length:=by rw[<-hj.length];simp
  wp_walk using CK hl,CK hb,wpAny_forIn_list _ (λHl b s'=>b.1=none/\s'=⟨hp,g,d,tk,os⟩/\∃(vs ws:xY)(ns' ms':xX),Hl=vs.zip ws /\
   IntsAre vs ns'/\IntsAre ws ms'/\ns'.length+items2.size=ms'.length+items.size/\R (.ok (.ret (.bool (lexLt ns' ms')))) ⟨hp,g,d,tk,os⟩) _
  case turn =>
   rintro⟨y,x⟩ Hl b s' ⟨hb',rfl,vs,ws,ns',ms',hz,hvi,hwi,Hm,hR⟩
   cases hvi with
   |nil=>rw[List.zip_nil_left]at hz;cases hz
   |cons a t hvi' =>
    cases hwi with
    |nil=>rw[List.zip_nil_right]at hz;cases hz
    |cons c u hwi' =>
     rw[Cy]at hz
     injection hz with hyx hrest
     injection hyx with hy hx
     subst hy hx
     rw[lexLt_cons]at hR
     simp only[Am]at Hm
     obtain⟨e,he,hiff⟩:=eqAt_int A.in1 ⟨hp,g,d,tk,os⟩ a t c u
     refine AA (he prog w _ _ ?_)
     cases e with
     |true =>
      rw[AF (hiff.mp rfl)]at hR
      wp_walk
      exact⟨rfl,rfl,_,_,_,_,hrest,hvi',hwi',by lia,hR⟩
     |false =>
      rw[AD (λq=>absurd (hiff.mpr q) Ae)]at hR
      have hri:=oN A.in1 ⟨hp,g,d,tk,os⟩ a t c u prog w
      wp_walk using hri
      exact⟨_,rfl,by simpa using hR⟩
  case fin =>
   rintro⟨b1,b2⟩ s' ⟨hb',rfl,vs,ws,ns',ms',hz,hvi,hwi,Hm,hR⟩
   simp only at hb'
   subst hb'
   have hv:lexLt ns' ms'=decide (items.size<items2.size):=by
    cases hvi with
    |nil =>
     cases hwi with
     |nil =>
      simp only[C5]at Hm
      rw[lexLt_nil_nil]
      exact(Aa (by lia)).symm
     |cons c u hw =>
      simp only[C5,Am]at Hm
      rw[lexLt_nil_cons]
      exact(Ac (by lia)).symm
    |cons a t hv =>
     cases hwi with
     |nil =>
      simp only[C5,Am]at Hm
      rw[lexLt_cons_nil]
      exact(Aa (by lia)).symm
     |cons c u hw =>
      rw[Cy]at hz
      cases hz
   rw[hv]at hR
   wp_walk
   exact⟨_,rfl,by simpa [Builtin.Tuple.tupleCompareSizes]using hR⟩
  case h =>
   exact⟨rfl,rfl,items.toList,items2.toList,ns,ms,rfl,hi,hj,by lia,h⟩
end
section
variable{prog:yL}{w:yM}{A:Around}{E:xZ}{s:yH}
theorem lt_tupInts{l b:yJ}{items items2:yF}{ns ms:xX}{Q:xZ}(hl:IsTup s.heap l items)(hb:IsTup s.heap b items2)(hi:IntsAre items.toList ns)(hj:IntsAre items2.toList ms)
  (hu:A.units<cLine) (h:Q (.bool (lexLt ns ms)) s):wpAny (model prog w) A (compareOp .Lt (.ref l) (.ref b)) Q E s:=by
 obtain⟨⟨cls,dd,data,sl⟩,ho,hc,n,hd⟩:=id hl
 obtain⟨⟨cls2,dd2,data2,sl2⟩,ho2,hc2,n2,hd2⟩:=id hb
 simp only at hc hd hc2 hd2
 subst hc hd hc2 hd2
 exact Fp (op:=.Lt) ⟨_,ho,rfl⟩ ⟨_,ho2,rfl⟩ EL Fi (FO _ _) (tuple_lt_ints l b items items2 n n2 dd dd2 sl sl2 ns ms hi hj)
  ⟨ho,ho2,show Value.bool (lexLt ns ms)≠Value.notImplemented/\Q (.bool (lexLt ns ms)) s from⟨(λx=>nomatch x),h⟩⟩ hu
theorem cat_tup{t b:yJ}{vs ws:xY}{Q:xZ}(ht:IsTup s.heap t vs.toArray)(hb:IsTup s.heap b ws.toArray)(hv:vs≠[])
  (h1:ws=[]->Q (.ref t) s) (h2:ws≠[]->Q (.ref s.heap.objs.size) { s with heap:=s.heap.push { cls:=.type "tuple",data:=.seq (vs++ws).toArray } })
  (hsz:vs.length+ws.length<=sizeLine):wpAny (model prog w) A (binaryOp .Add (.ref t) (.ref b)) Q E s:=by
 obtain⟨⟨cls,dd,data,sl⟩,ho,hc,n,hd⟩:=id ht
 obtain⟨⟨cls2,dd2,data2,sl2⟩,ho2,hc2,n2,hd2⟩:=id hb
 simp only at hc hd hc2 hd2
 subst hc hd hc2 hd2
 have e:vs.toArray++ws.toArray=(vs++ws).toArray:=by simp
 by_cases hw:ws=[]
 ·exact HK ⟨_,ho,rfl⟩ ⟨_,ho2,rfl⟩ FJ Gx D9 D5 (Dt _ _)
   (tuple_addW1 t b vs.toArray ws.toArray n n2 dd dd2 sl sl2 (by simpa using hv) (by simp [hw])) ⟨ho,ho2,h1 hw⟩
 ·refine HK ⟨_,ho,rfl⟩ ⟨_,ho2,rfl⟩ FJ Gx D9 D5 (Dt _ _)
   (tuple_addW2 t b vs.toArray ws.toArray n n2 dd dd2 sl sl2 (by simpa using hv) (by simpa using hw) (by rw[At,At];exact hsz)) ⟨ho,ho2,?_⟩
  rw[e]
  exact h2 hw
noncomputable def sIx(n d:Nat):Option Int->Nat
 |none=>d
 |some v=>if v<0 then (v+(n:Int)).toNat else min v.toNat n
theorem sIx_none(n d:Nat):sIx n d none=d:=rfl
theorem sIx_nat(n d k:Nat):sIx n d (some (k:Int))=min k n:=by
 show(if (k:Int)<0 then ((k:Int)+(n:Int)).toNat else min (k:Int).toNat n)=min k n
 rw[AD (by lia),BB]
theorem jP(n d:Nat)(hd:d<=n)(o:Option Int):sIx n d o<=n:=by
 cases o with
 |none=>exact hd
 |some v =>
  show(if v<0 then (v+(n:Int)).toNat else min v.toNat n)<=n
  by_cases hv:v<0
  ·rw[AF hv];lia
  ·rw[AD hv];exact Nat.min_le_right _ _
theorem UA(v:Int)(n d:Nat):(if v<0 then max (v+(n:Int)) 0 else min v (n:Int))=((sIx n d (some v):Nat):Int):=by
 show(if v<0 then max (v+(n:Int)) 0 else min v (n:Int))=(((if v<0 then (v+(n:Int)).toNat else min v.toNat n):Nat):Int)
 by_cases hv:v<0
 ·simp only[AF hv];lia
 ·simp only[AD hv];lia
theorem oK(lo hi:Option Int)(n:Nat):Builtin.Slice.sliceAdjust lo hi 1 (n:Int)=(((sIx n 0 lo:Nat):Int),((sIx n n hi:Nat):Int)):=by
 have h1:¬ ((1:Int)<0):=by lia
 unfold Builtin.Slice.sliceAdjust
 simp only[h1,B3]
 refine EH ?_ ?_
 ·cases lo with
  |none=>rfl
  |some v=>exact UA v n 0
 ·cases hi with
  |none=>rfl
  |some v=>exact UA v n n
theorem Z6(i j:Nat):Builtin.Slice.slicePlaces (i:Int) (j:Int) 1=j-i:=by
 unfold Builtin.Slice.slicePlaces
 have h1:(1:Int)>0:=by lia
 simp only[h1,CQ,Int.ediv_one]
 split<;>lia
theorem tT{v:yI}{o:Option Int}{Q:Option Int->yH->Prop}(p:IsPart v o)(h:Q o s):wpAny (model prog w) A (Builtin.Slice.slicePartIndex v) Q E s:=by
 cases p with
 |none=>exact slicePart_none h
 |int i t=>exact slicePart_int h
theorem sliceApplied_gen{sl:yJ}{vl vu:yI}{lo hi:Option Int}{n:Nat}{Q:Int×Int×Nat->yH->Prop}(hs:s.heap.IsSliceOf sl vl vu .none)(pl:IsPart vl lo)(pu:IsPart vu hi)
  (h:Q (((sIx n 0 lo:Nat):Int),1,sIx n n hi-sIx n 0 lo) s):wpAny (model prog w) A (Builtin.Slice.sliceApplied (.ref sl) (pure (n:Int))) Q E s:=by
 obtain⟨os,hos,hcs,hds⟩:=id hs
 unfold Builtin.Slice.sliceApplied Builtin.Slice.sliceFields
 refine AA (AA (Bw hos hds (x:=vl) rfl (AA (Bw hos hds (x:=vu) rfl (AA (Bw hos hds (x:=.none) rfl (AK ?_)))))))
 refine AA (slicePart_none ?_)
 show wpAny _ _ (if ((1:Int)==0)=true then _ else _) _ _ s
 rw[AD (by decide)]
 refine AA (tT pl (AA (tT pu (AA (AK ?_)))))
 show wpAny _ _ (match Builtin.Slice.sliceAdjust lo hi 1 (n:Int) with|(lo,hi)=>pure (lo,(1:Int),Builtin.Slice.slicePlaces lo hi 1)) _ _ s
 rw[oK lo hi n]
 show wpAny _ _ (pure (((sIx n 0 lo:Nat):Int),(1:Int),Builtin.Slice.slicePlaces ((sIx n 0 lo:Nat):Int) ((sIx n n hi:Nat):Int) 1)) _ _ s
 rw[Z6]
 exact AK h
theorem X3(xs:yF)(i k:Nat):((List.range k).filterMap λ(m:Nat)=>xs[((i:Int)+(m:Int)*1).toNat]?).toArray=((xs.toList.drop i).take k).toArray:=by
 have e:(λ(m:Nat)=>xs[((i:Int)+(m:Int)*1).toNat]?)=λm=>xs[i+m]?:=by
  funext m
  have:((i:Int)+(m:Int)*1).toNat=i+m:=by lia
  rw[this]
 rw[e]
 have:=pick_run xs i k
 rw[List.filterMap_map]at this
 have e2:((λx=>xs[x]?) ∘ λx=>i+x)=λm=>xs[i+m]?:=rfl
 rw[e2]at this
 rw[this]
theorem getItem_tuple_cut{t sl:yJ}{items:yF}{vl vu:yI}{lo hi:Option Int}{Q:xZ}(ht:IsTup s.heap t items)(hs:s.heap.IsSliceOf sl vl vu .none)(pl:IsPart vl lo)(pu:IsPart vu hi)
  (hw:¬ (sIx items.size 0 lo=0/\sIx items.size items.size hi=items.size))
  (h:Q (.ref s.heap.objs.size) { s with heap:=s.heap.push { cls:=.type "tuple",data:=.seq ((items.toList.drop (sIx items.size 0 lo)).take (sIx items.size items.size hi-sIx items.size 0 lo)).toArray } })
  (hsz:items.size<=sizeLine):wpAny (model prog w) A (getItem (.ref t) (.ref sl)) Q E s:=by
 have htake:sizeOk (.seq ((items.toList.drop (sIx items.size 0 lo)).take (sIx items.size items.size hi-sIx items.size 0 lo)).toArray):=by
  show((items.toList.drop (sIx items.size 0 lo)).take (sIx items.size items.size hi-sIx items.size 0 lo)).toArray.size<=sizeLine
  rw[At,Ap,BG,AV]
  lia
 have hj:sIx items.size items.size hi<=items.size:=jP _ _ (AH _) hi
 obtain⟨os,hos,hcs,hds⟩:=id hs
 have hTs:s.TypeIs (.ref sl) "slice" := ⟨os,hos,hcs⟩
 unfold getItem
 try with_reducible refine DR ?_
 first|refine AA (AK ?_)|skip
 refine AA (wpAny_sequenceKey ht.typeIs (by decide) ?_)
 refine AA (Bb (name:=Str.ofString "__getitem__") ht.typeIs Bn
  (B9 Bn ht.typeIs entry_tuple_getitem ?_ (args_tuple_getitem _ _)))
 show wpAny _ _ (Builtin.Tuple.tupleItemsOf (.ref t)>>=_) _ _ s
 refine AA (tupleItemsOf_ ht ?_)
 refine AA (HL hTs ?_)
 rw[AF (by decide)]
 refine AA (sliceApplied_gen hs pl pu ?_)
 have hno:¬ ((((sIx items.size 0 lo:Nat):Int)==0&&(1:Int)==1&&(sIx items.size items.size hi-sIx items.size 0 lo)==items.size)=true):=by
  intro q
  rw[AI,AI]at q
  have q1:((sIx items.size 0 lo:Nat):Int)=0:=eq_of_beq q.1.1
  have q2:sIx items.size items.size hi-sIx items.size 0 lo=items.size:=eq_of_beq q.2
  exact hw ⟨by lia,by lia⟩
 show wpAny _ _ (if (((sIx items.size 0 lo:Nat):Int)==0&&(1:Int)==1&&(sIx items.size items.size hi-sIx items.size 0 lo)==items.size)=true then _ else _) _ _ s
 rw[AD hno,X3]
 first
  |exact AA (m:=Builtin.Tuple.tupleExact _) (BK (AK ⟨_,rfl,AK h⟩) htake)
  |exact AA (m:=Builtin.Tuple.tupleExact _) (BK (AA (AK (AK ⟨_,rfl,AK h⟩))) htake)
  |exact AA (AA (m:=Builtin.Tuple.tupleExact _) (BK (AK (AK ⟨_,rfl,AK h⟩)) htake))
  |exact AA (AA (m:=Builtin.Tuple.tupleExact _) (BK (AK ⟨_,rfl,AK h⟩) htake))
end
end
end HT
namespace L2
open PySem PySem.Spec PyProof.Rows
noncomputable abbrev TO:=St->Hp->(Option Int->Hp->Prop)->Prop
noncomputable def PO(X:Cx)(e:Option Expr)(t:TO):Prop :=
 ∀(Fq:yA)(s:yH)(σ:St)(H:Hp)(Q:Option Int->Hp->Prop),Inv X Fq σ H s->t σ H Q ->
  wpAny (model X.prog X.w) X.A (evalPart e X.env) (λu s'=>∃o H',Inv X Fq σ H' s'/\IsPart u o/\Q o H') X.xe s
noncomputable def bO:TO:=λ_ H Q=>Q none H
noncomputable def rV(t:TE):TO:=λσ H Q=>t σ H λx H1=>∃i,x=.int i/\Q (some i) H1
theorem J3{ns:xX}:∀{us:xY},HS (ns.map V.int) us->IntsAre us ns:=by
 induction ns with
 |nil=>intro us r;rw[DI]at r;cases r;exact .nil
 |cons n ns ih =>
  intro us r
  rw[Ai]at r
  cases r with
  |cons r1 r2 =>
   obtain⟨t,e⟩:=r1
   subst e
   exact .cons n t (ih r2)
section
variable{X:Cx}{e:Expr}{te:TE}{lo hi:Option Expr}{tl th:TO}{pos p2:Pos}
theorem OL:PO X none bO:=by
 intro Fq s σ H Q I h
 rw[evalPart_none]
 exact AK ⟨none,H,I,.none,h⟩
theorem Mn(h:PE X e te):PO X (some e) (rV te):=by
 intro Fq s σ H Q I hw
 rw[evalPart_some]
 refine Hk (h Fq s σ H _ I hw) λu s1 ⟨x,H1,I1,r1,q1⟩=>?_
 obtain⟨i,rfl,q⟩:=q1
 obtain⟨t,rfl⟩:=r1
 exact⟨some i,H1,I1,.int i t,q⟩
noncomputable def Lr(X:Cx)(r:V->Option Int->Option Int->Hp->VK->Prop):Prop :=
 ∀(Fq:yA)(s:yH)(σ:St)(H:Hp)(x:V)(v vl vu:yI)(lo hi:Option Int)(sl:yJ)(Q:VK),Inv X Fq σ H s->HN x v->s.heap.IsSliceOf sl vl vu .none->IsPart vl lo->IsPart vu hi->r x lo hi H Q ->
  ∃T id,typeLookup (.type T) "__getitem__" = pure (some (.builtin id))/\s.TypeIs v T/\wpAny (model X.prog X.w) X.A (getItem v (.ref sl)) (EP X Fq σ Q) X.xe s
theorem Lr.or{r r':V->Option Int->Option Int->Hp->VK->Prop}(h:Lr X r)(h':Lr X r'):Lr X (λx lo hi H Q=>r x lo hi H Q∨r' x lo hi H Q):=by
 intro Fq s σ H x v vl vu lo hi sl Q I rx hs pl pu q
 rcases q with q|q
 ·exact h Fq s σ H x v vl vu lo hi sl Q I rx hs pl pu q
 ·exact h' Fq s σ H x v vl vu lo hi sl Q I rx hs pl pu q
noncomputable def xU(r:V->Option Int->Option Int->Hp->VK->Prop)(te:TE)(tl th:TO):TE:=λσ H Q=>te σ H λx H1=>tl σ H1 λl H2=>th σ H2 λu H3=>r x l u H3 Q
theorem Mx{r:V->Option Int->Option Int->Hp->VK->Prop}(hr:Lr X r)(he:PE X e te)(hl:PO X lo tl)(hu:PO X hi th):PE X (.Subscript e (.Slice lo hi none p2) pos) (xU r te tl th):=by
 intro Fq s σ H Q I h
 refine Subscript_ (Hk (he Fq s σ H _ I h) λv s1 ⟨x,H1,I1,r1,q1⟩=>?_)
 refine wpAny_Slice (Hk (hl Fq s1 σ H1 _ I1 q1) λvl s2 ⟨l,H2,I2,pl,q2⟩=>Hk (hu Fq s2 σ H2 _ I2 q2) λvu s3 ⟨u,H3,I3,pu,q3⟩=>?_)
 rw[evalPart_none]
 refine AK ?_
 have I4:Inv X Fq σ H3 { s3 with heap:=s3.heap.push { cls:=.type "slice",data:=.fields #[vl,vu,.none] } }:=I3.kept (t':=s3.toks) λb ob q=>AC _ q
 obtain⟨T,id,hT,ht,hg⟩:=hr Fq { s3 with heap:=s3.heap.push { cls:=.type "slice",data:=.fields #[vl,vu,.none] } } σ H3 x v vl vu l u s3.heap.objs.size Q I4 r1 (Heap.IsSliceOf.new ..) pl pu q3
 show wpAny (model X.prog X.w) X.A (subscriptTail e (.Slice lo hi none p2) v (.ref s3.heap.objs.size)) (EP X Fq σ Q) X.xe { s3 with heap:=s3.heap.push { cls:=.type "slice",data:=.fields #[vl,vu,.none] } }
 exact tail_any (ops:=[.ref s3.heap.objs.size,v]) ht hT hg (by with_unfolding_all rfl)
noncomputable def KQ(xs:List V)(lo hi:Option Int):List V:=(xs.drop (HT.sIx xs.length 0 lo)).take (HT.sIx xs.length xs.length hi-HT.sIx xs.length 0 lo)
theorem vI(xs:List V)(lo hi:Option Int):(KQ xs lo hi).length<=xs.length:=by
 unfold KQ
 rw[Ap,BG]
 lia
noncomputable def rA(K:yG):V->Option Int->Option Int->Hp->VK->Prop:=λx lo hi H Q=>∃a xs,x=.ref a/\HM K H a xs /\
 ¬ (HT.sIx xs.length 0 lo=0/\HT.sIx xs.length xs.length hi=xs.length)/\∀p,H p=none->Q (.ref p) (HV H p (.tup (KQ xs lo hi)))
theorem RK:Lr X (rA X.K):=by
 intro Fq s σ H x v vl vu lo hi sl Q I rx hs pl pu h
 obtain⟨a,xs,rfl,hx,hw,q⟩:=h
 cases rx
 obtain⟨its,r,ht,hz⟩:=I.tuple hx
 have Hm:its.toArray.size=xs.length:=by rw[At];exact r.length.symm
 refine⟨"tuple",_,Bn.lookup,ht.typeIs,?_⟩
 refine HT.getItem_tuple_cut ht hs pl pu (by rw[Hm];exact hw) ?_ (by rw[Hm];exact hz)
 rw[Hm]
 refine⟨.ref s.heap.objs.size,_,I.laid (t':=s.toks) (o:=.tup (KQ xs lo hi)) (λb ob q=>AC _ q) (AH _) ?_,rfl,q _ (I.hok.fresh (AH _))⟩
 exact⟨As (vI xs lo hi) hz,_,(r.drop (HT.sIx xs.length 0 lo)).take (HT.sIx xs.length xs.length hi-HT.sIx xs.length 0 lo),Jv.new _ _⟩
noncomputable def nB(K:yG):R2:=λx y H Q=>∃a b xs ys,x=.ref a/\y=.ref b/\HM K H a xs/\HM K H b ys/\xs≠[]/\xs.length+ys.length<=sizeLine /\
 (ys=[]->Q (.ref a) H)/\(ys≠[]->∀p,H p=none->Q (.ref p) (HV H p (.tup (xs++ys))))
theorem HS.nil_iff{xs:List V}{us:xY}(r:HS xs us):us=[]↔xs=[]:=by
 cases r with
 |nil=>simp
 |cons _ _=>simp
theorem ON:Iq X (binaryOp .Add) (nB X.K):=by
 intro Fq s σ H x y v u Q I rx ry h
 obtain⟨a,b,xs,ys,rfl,rfl,ha,hb,hx,hz,q1,q2⟩:=h
 cases rx
 cases ry
 obtain⟨its,r1,p1,_⟩:=I.tuple ha
 obtain⟨its2,r2,p2,_⟩:=I.tuple hb
 refine HT.cat_tup p1 p2 (λz=>hx (r1.nil_iff.mp z)) (λz=>⟨.ref a,H,I,rfl,q1 (r2.nil_iff.mp z)⟩) (λz=>?_) (by rw[<-r1.length,<-r2.length];exact hz)
 refine⟨.ref s.heap.objs.size,_,I.laid (t':=s.toks) (o:=.tup (xs++ys)) (λb ob q=>AC _ q) (AH _) ?_,rfl,q2 (λw=>z (r2.nil_iff.mpr w)) _ (I.hok.fresh (AH _))⟩
 exact⟨by rw[AJ];exact hz,_,r1.append r2,Jv.new _ _⟩
end
noncomputable def Mv(n:Nat)(i:Int):Option Nat:=if 0<=i then (if i<n then some i.toNat else none) else if -(n:Int)<=i then some (i+n).toNat else none
noncomputable def J1{α:Type}(xs:List α)(i:Int):Option α:=(Mv xs.length i).bind λj=>xs[j]?
theorem kW{n:Nat}{i:Int}{j:Nat}(h:Mv n i=some j):seqIndex? i n=some j/\j<n/\-(n:Int)<=i/\i<n:=by
 unfold Mv at h
 by_cases h0:0<=i
 ·rw[AF h0]at h
  by_cases h1:i<n
  ·rw[AF h1]at h
   have e:i.toNat=j:=Aq h
   exact⟨by rw[seqIndex_of h0 h1,e],by lia,by lia,h1⟩
  ·rw[AD h1]at h;cases h
 ·rw[AD h0]at h
  by_cases h1:-(n:Int)<=i
  ·rw[AF h1]at h
   have e:(i+n).toNat=j:=Aq h
   exact⟨by rw[seqIndex_neg (by lia) h1,e],by lia,h1,by lia⟩
  ·rw[AD h1]at h;cases h
theorem SH{α:Type}{xs:List α}{i:Int}{v:α}(h:J1 xs i=some v):∃j,seqIndex? i xs.length=some j/\xs[j]?=some v/\j<xs.length/\-(xs.length:Int)<=i/\i<xs.length:=by
 unfold J1 at h
 cases e:Mv xs.length i with
 |none=>rw[e]at h;cases h
 |some j =>
  rw[e]at h
  obtain⟨h1,h2,h3,h4⟩:=kW e
  exact⟨j,h1,h,h2,h3,h4⟩
theorem JY{α:Type}{xs:List α}{j:Nat}{v:α}(h:xs[j]?=some v):J1 xs (j:Int)=some v:=by
 have hj:j<xs.length:=(AZ.mp h).1
 have e:Mv xs.length (j:Int)=some j:=by
  unfold Mv
  rw[AF (by lia),AF (by lia)];simp
 unfold J1;rw[e];exact h
noncomputable def bB(b:Expr):Prop:=∀o i,subscripted b false o i=operate [o,i] (getItem o i)
noncomputable def PD(X:Cx)(r:R2):Prop :=
 ∀(value slice:Expr)(Fq:yA)(s:yH)(σ:St)(H:Hp)(x y:V)(v u:yI)(Q:VK),Inv X Fq σ H s->HN x v->HN y u->r x y H Q ->
  subscripted slice false v u=operate [v,u] (getItem v u)->wpAny (model X.prog X.w) X.A (subscriptTail value slice v u) (EP X Fq σ Q) X.xe s
noncomputable def RT(X:Cx)(id:String)(r:V->List V->Hp->VK->Prop):Prop :=
 ∀(Fq:yA)(s:yH)(σ:St)(H:Hp)(x:V)(xs:List V)(v:yI)(us:xY)(Q:VK),Inv X Fq σ H s->HN x v->HS xs us->r x xs H Q ->
  wpAny (model X.prog X.w) X.A (call (.builtin id) (v::us)) (EP X Fq σ Q) X.xe s
section
variable{X:Cx}{a b:Expr}{ta tb:TE}{pos:Pos}
theorem PD.or{r r':R2}(h:PD X r)(h':PD X r'):PD X (λx y H Q=>r x y H Q∨r' x y H Q):=by
 intro value slice Fq s σ H x y v u Q I rx ry q hs
 rcases q with q|q
 ·exact h value slice Fq s σ H x y v u Q I rx ry q hs
 ·exact h' value slice Fq s σ H x y v u Q I rx ry q hs
theorem RT.or{id:String}{r r':V->List V->Hp->VK->Prop}(h:RT X id r)(h':RT X id r'):RT X id (λx xs H Q=>r x xs H Q∨r' x xs H Q):=by
 intro Fq s σ H x xs v us Q I rx rs q
 rcases q with q|q
 ·exact h Fq s σ H x xs v us Q I rx rs q
 ·exact h' Fq s σ H x xs v us Q I rx rs q
theorem IY{r:R2}(hr:PD X r)(ha:PE X a ta)(hb:PE X b tb)(hs:bB b):PE X (.Subscript a b pos) (Ww r ta tb):=by
 intro Fq s σ H Q I h
 exact Subscript_ (P9 ha hb I h λv u s2 x y H2 I2 rx ry q=>hr a b Fq s2 σ H2 x y v u Q I2 rx ry q (hs _ _))
noncomputable def oF(K:yG):R2:=λx y H Q=>∃p xs i v,x=.ref p/\y=.int i/\HU K H p xs/\J1 xs i=some v/\Q v H
noncomputable def gO(K:yG):R2:=λx y H Q=>∃p xs i v,x=.ref p/\y=.int i/\HM K H p xs/\J1 xs i=some v/\Q v H
theorem K4:PD X (oF X.K):=by
 intro value slice Fq s σ H x y v u Q I rx ry h hs
 obtain⟨p,xs,i,z,rfl,rfl,hq,he,q⟩:=h
 cases rx
 obtain⟨t,rfl⟩:=ry
 obtain⟨its,r,pl,hz⟩:=I.list hq
 obtain⟨j,h1,h2,h3,h4,h5⟩:=SH he
 obtain⟨w,ew,rw'⟩:=r.get h2
 have hl:=r.length
 have hn:=Pm
 have fin:EP X Fq σ Q w s:=⟨z,H,I,rw',q⟩
 by_cases h0:0<=i
 ·have hj:i.toNat=j:=by
   rw[seqIndex_of h0 h5]at h1
   exact Aq h1
  exact item_listR pl.isList h0 (by lia) (by rw[hj];simpa using ew) fin hs
 ·have hj:(i+(its.toArray.size:Int)).toNat=j:=by
   rw[seqIndex_neg (by lia) h4]at h1
   rw[At,<-hl]
   exact Aq h1
  exact subscriptTail_builtinR (x:=w) pl.isList.typeIs slot_list_getitem.lookup
   (wpAny_getItem_list_neg (Q:=λr s'=>r=w/\EP X Fq σ Q r s') pl.isList (by lia) (by rw[At]<;>lia) (by lia) (by rw[hj];simpa using ew) ⟨rfl,fin⟩) hs
theorem JU:PD X (gO X.K):=by
 intro value slice Fq s σ H x y v u Q I rx ry h hs
 obtain⟨p,xs,i,z,rfl,rfl,hq,he,q⟩:=h
 cases rx
 obtain⟨t,rfl⟩:=ry
 obtain⟨its,r,pl,hz⟩:=I.tuple hq
 obtain⟨j,h1,h2,h3,h4,h5⟩:=SH he
 obtain⟨w,ew,rw'⟩:=r.get h2
 have hl:=r.length
 have hn:=Pm
 have fin:EP X Fq σ Q w s:=⟨z,H,I,rw',q⟩
 exact subscriptTail_builtinR (x:=w) pl.typeIs slot_tuple_getitem.lookup
  (getItem_tuple (j:=j) (Q:=λr s'=>r=w/\EP X Fq σ Q r s') pl (by lia) (by lia) (by rw[At,<-hl];exact h1) (by simpa using ew) ⟨rfl,fin⟩) hs
theorem Inv.lst{Fq:yA}{σ:St}{H:Hp}{s:yH}{p:yJ}{xs:List V}(I:Inv X Fq σ H s)(h:H p=some (.lst xs)) :
  ∃(its:xY)(n:Nat),HS xs its/\s.heap.get? p=some { cls:=.type "list",data:=.seq its.toArray n }/\xs.length<=sizeLine:=by
 obtain⟨z,its,n,r,e⟩:=I.hok p _ h
 exact⟨its,n,r,e,z⟩
theorem qZ(lo hi:Option Int)(n:Nat):(sliceBounds lo hi none n).1=((HT.sIx n 0 lo:Nat):Int)/\(sliceBounds lo hi none n).2.1=((HT.sIx n n hi:Nat):Int)/\(sliceBounds lo hi none n).2.2=1:=by
 refine⟨?_,?_,rfl⟩
 ·cases lo with
  |none=>simp [sliceBounds,HT.sIx]
  |some i =>
   simp only[sliceBounds,HT.sIx,Option.getD_none,show(1:Int)>0 by decide,CQ]
   by_cases h:i<0
   ·simp only[h,CQ]<;>lia
   ·simp only[h,B3]<;>lia
 ·cases hi with
  |none=>simp [sliceBounds,HT.sIx]
  |some i =>
   simp only[sliceBounds,HT.sIx,Option.getD_none,show(1:Int)>0 by decide,CQ]
   by_cases h:i<0
   ·simp only[h,CQ]<;>lia
   ·simp only[h,B3]<;>lia
theorem qE(its:xY)(lo hi:Option Int):slicePick its.toArray lo hi none=((its.drop (HT.sIx its.length 0 lo)).take (HT.sIx its.length its.length hi-HT.sIx its.length 0 lo)).toArray:=by
 obtain⟨h1,h2,h3⟩:=qZ lo hi its.toArray.size
 unfold slicePick
 rw[h1,h2,h3]
 simp only[sliceRange_one,pick_run,At]<;>rfl
noncomputable def kQ(K:yG):V->Option Int->Option Int->Hp->VK->Prop:=λx lo hi H Q=>∃a xs,x=.ref a/\HU K H a xs/\∀p,H p=none->Q (.ref p) (HV H p (.lst (KQ xs lo hi)))
theorem oM:Lr X (kQ X.K):=by
 intro Fq s σ H x v vl vu lo hi sl Q I rx hs pl pu h
 obtain⟨a,xs,rfl,hx,q⟩:=h
 cases rx
 obtain⟨its,r,ht,hz⟩:=I.list hx
 have Hm:=r.length
 refine⟨"list",_,slot_list_getitem.lookup,ht.isList.typeIs,?_⟩
 refine wpAny_getItem_list_slice ht.isList hs pl pu .none (by simp) ?_ (by rw[At]<;>lia)
 rw[qE,<-Hm]
 refine⟨.ref s.heap.objs.size,_,I.laid (t':=s.toks) (o:=.lst (KQ xs lo hi)) (λb ob q=>AC _ q) (AH _) ?_,rfl,q _ (I.hok.fresh (AH _))⟩
 exact⟨As (vI xs lo hi) hz,_,0,(r.drop (HT.sIx xs.length 0 lo)).take (HT.sIx xs.length xs.length hi-HT.sIx xs.length 0 lo),AW _ rfl⟩
noncomputable def Nj:V->Bool
 |.non=>true
 |.bl _=>true
 |.int _=>true
 |.str _=>true
 |_=>false
noncomputable def Mo:V->V->Bool
 |.non,.non=>true
 |.bl a,.bl b=>a==b
 |.bl a,.int b=>(if a then 1 else 0)==b
 |.int a,.bl b=>a==(if b then 1 else 0)
 |.int a,.int b=>a==b
 |.str a,.str b=>a==b
 |_,_=>false
theorem pQ{A:Around}{s:yH}{y x:V}{u v:yI}(ry:HN y u)(rx:HN x v)(fy:Nj y=true)(fx:Nj x=true):SeqAt.EqAt A s u v (Mo y x):=by
 cases y with
 |non =>
  cases ry
  cases x with
  |non=>cases rx;exact Fa _
  |bl b=>cases rx;exact SeqAt.EqAt.none_bool b
  |int b=>obtain⟨t,rfl⟩:=rx;exact SeqAt.EqAt.none_int b t
  |str b=>obtain⟨t,rfl⟩:=rx;exact SeqAt.EqAt.none_str b t
  |_=>exact absurd (show false=true from fx) Ae
 |bl a =>
  cases ry
  cases x with
  |non=>cases rx;exact SeqAt.EqAt.bool_none a
  |bl b=>cases rx;exact SeqAt.EqAt.bool_bool a b
  |int b=>obtain⟨t,rfl⟩:=rx;exact SeqAt.EqAt.bool_int a b t
  |str b=>obtain⟨t,rfl⟩:=rx;exact SeqAt.EqAt.bool_str a b t
  |_=>exact absurd (show false=true from fx) Ae
 |int a =>
  obtain⟨t',rfl⟩:=ry
  cases x with
  |non=>cases rx;exact SeqAt.EqAt.int_none a t'
  |bl b=>cases rx;exact SeqAt.EqAt.int_bool a t' b
  |int b=>obtain⟨t,rfl⟩:=rx;exact Ds a t' b t
  |str b=>obtain⟨t,rfl⟩:=rx;exact SeqAt.EqAt.int_str a t' b t
  |_=>exact absurd (show false=true from fx) Ae
 |str a =>
  obtain⟨t',rfl⟩:=ry
  cases x with
  |non=>cases rx;exact SeqAt.EqAt.str_none a t'
  |bl b=>cases rx;exact SeqAt.EqAt.str_bool a t' b
  |int b=>obtain⟨t,rfl⟩:=rx;exact SeqAt.EqAt.str_int a t' b t
  |str b=>obtain⟨t,rfl⟩:=rx;exact SeqAt.EqAt.str_str a t' b t
  |_=>exact absurd (show false=true from fx) Ae
 |_=>exact absurd (show false=true from fy) Ae
noncomputable def K0(x:V)(u:yI):Bool:=match u with
 |.none=>Mo .non x
 |.bool b=>Mo (.bl b) x
 |.int i _=>Mo (.int i) x
 |.str z _=>Mo (.str z) x
 |_=>false
theorem Rb{x y:V}{u:yI}(r:HN y u)(f:Nj y=true):K0 x u=Mo y x:=by
 cases y with
 |non=>cases r;rfl
 |bl b=>cases r;rfl
 |int i=>obtain⟨t,rfl⟩:=r;rfl
 |str z=>obtain⟨t,rfl⟩:=r;rfl
 |_=>exact absurd (show false=true from f) Ae
theorem Sl{x:V}:∀{xs:List V}{us:xY},HS xs us->xs.all Nj=true->us.any (K0 x)=xs.any λy=>Mo y x
 |_,_,.nil,_=>rfl
 |y::xs,u::us,.cons r t,f=>by
  rw[DB,AI]at f
  rw[CM,CM,Rb r f.1,Sl t f.2]
theorem Td{A:Around}{s:yH}{x:V}{v:yI}(rx:HN x v)(fx:Nj x=true):∀{xs:List V}{us:xY},HS xs us->xs.all Nj=true->∀u∈us,SeqAt.EqAt A s u v (K0 x u)
 |_,_,.nil,_=>λu hu=>by cases hu
 |y::xs,u::us,.cons r t,f=>λu' hu=>by
  rw[DB,AI]at f
  rcases AY.mp hu with rfl|hu
  ·rw[Rb r f.1];exact pQ r rx f.1 fx
  ·exact Td rx fx t f.2 u' hu
noncomputable def Qc(x:V)(xs:List V):Bool:=xs.any λy=>Mo y x
noncomputable def uD(K:yG)(neg:Bool):R2:=λx y H Q=>∃p xs,y=.ref p/\(HU K H p xs∨HM K H p xs)/\Nj x=true/\xs.all Nj=true/\Q (.bl (if neg then !Qc x xs else Qc x xs)) H
theorem dJ:Iq X (compareOp .In) (uD X.K false):=by
 intro Fq s σ H x y v u Q I rx ry h
 obtain⟨p,xs,rfl,hq,fx,fs,q⟩:=h
 cases ry
 rcases hq with hq|hq
 ·obtain⟨its,r,pl,hz⟩:=I.list hq
  refine SeqAt.in_listAt (K0 x) pl.isList (λw hw=>Td rx fx r fs w (by simpa using hw)) ⟨.bl _,H,I,rfl,?_⟩
  rw[show its.toArray.any (K0 x)=its.any (K0 x) by simp,Sl r fs]
  exact q
 ·obtain⟨its,r,pl,hz⟩:=I.tuple hq
  refine SeqAt.in_tupleAt (K0 x) pl (λw hw=>Td rx fx r fs w (by simpa using hw)) ⟨.bl _,H,I,rfl,?_⟩
  rw[show its.toArray.any (K0 x)=its.any (K0 x) by simp,Sl r fs]
  exact q
theorem tQ:Iq X (compareOp .NotIn) (uD X.K true):=by
 intro Fq s σ H x y v u Q I rx ry h
 obtain⟨p,xs,rfl,hq,fx,fs,q⟩:=h
 cases ry
 rcases hq with hq|hq
 ·obtain⟨its,r,pl,hz⟩:=I.list hq
  refine SeqAt.notIn_listAt (K0 x) pl.isList (λw hw=>Td rx fx r fs w (by simpa using hw)) ⟨.bl _,H,I,rfl,?_⟩
  rw[show its.toArray.any (K0 x)=its.any (K0 x) by simp,Sl r fs]
  exact q
 ·obtain⟨its,r,pl,hz⟩:=I.tuple hq
  refine SeqAt.notIn_tupleAt (K0 x) pl (λw hw=>Td rx fx r fs w (by simpa using hw)) ⟨.bl _,H,I,rfl,?_⟩
  rw[show its.toArray.any (K0 x)=its.any (K0 x) by simp,Sl r fs]
  exact q
theorem KS:IF X (.builtin "len") (λxs H Q=>∃p ys,xs=[.ref p]/\(HU X.K H p ys∨HM X.K H p ys)/\Q (.int ys.length) H):=by
 intro Fq s σ H xs us Q I r h
 obtain⟨p,ys,rfl,hq,q⟩:=h
 obtain⟨u,rfl,rx⟩:=KN r
 cases rx
 have hn:=Pm
 rcases hq with hq|hq
 ·obtain⟨its,r',pl,hz⟩:=I.list hq
  have Hm:=r'.length
  exact Calls.call_len_list pl.isList (by simp only[At]<;>lia) ⟨.int ys.length,H,I.tok _,⟨s.toks+1,by rw[At,Hm]⟩,q⟩
 ·obtain⟨its,r',pl,hz⟩:=I.tuple hq
  have Hm:=r'.length
  exact len_tuple pl (by simp only[At]<;>lia) ⟨.int ys.length,H,I.tok _,⟨s.toks+1,by rw[At,Hm]⟩,q⟩
theorem IF.or{f:yI}{r r':List V->Hp->VK->Prop}(h:IF X f r)(h':IF X f r'):IF X f (λxs H Q=>r xs H Q∨r' xs H Q):=by
 intro Fq s σ H xs us Q I rs q
 rcases q with q|q
 ·exact h Fq s σ H xs us Q I rs q
 ·exact h' Fq s σ H xs us Q I rs q
theorem dR:IF X (.type "list") (λxs H Q=>∃p ys,xs=[.ref p]/\(HU X.K H p ys∨HM X.K H p ys)/\∀l,H l=none->Q (.ref l) (HV H l (.lst ys))):=by
 intro Fq s σ H xs us Q I r h
 obtain⟨p,ys,rfl,hq,q⟩:=h
 obtain⟨u,rfl,rx⟩:=KN r
 cases rx
 have fin:∀(its:xY),HS ys its->ys.length<=sizeLine->∀(h':Heap)(c':Nat),(∀b o',s.heap.get? b=some o'->h'.get? b=some o') ->
   h'.get? s.heap.objs.size=some { cls:=.type "list",dict:=none,data:=.seq its.toArray c',slots:=#[] }->EP X Fq σ Q (.ref s.heap.objs.size) { s with heap:=h' }:=λits r' hz h' c' kp e =>
  ⟨.ref s.heap.objs.size,_,I.laid (t':=s.toks) kp (AH _) (show Hg X.prog X.w _ h' _ (.lst ys) from⟨hz,its,c',r',e⟩),rfl,q _ (I.hok.fresh (AH _))⟩
 rcases hq with hq|hq
 ·obtain⟨its,r',pl,hz⟩:=I.list hq
  have Hm:=r'.length
  obtain⟨o,ho,hc,n,hd⟩:=pl.isList
  exact call_list_seq p (.inl rfl) ho hc hd (λh' c' kp e=>fin its r' hz h' c' kp e) (by simp only[At]<;>lia)
 ·obtain⟨its,r',pl,hz⟩:=I.tuple hq
  have Hm:=r'.length
  obtain⟨o,ho,hc,n,hd⟩:=pl
  exact call_list_seq p (.inr rfl) ho hc hd (λh' c' kp e=>fin its r' hz h' c' kp e) (by simp only[At]<;>lia)
theorem OH:IF X (.type "tuple") (λxs H Q=>∃p ys,xs=[.ref p]/\((HU X.K H p ys/\∀l,H l=none->Q (.ref l) (HV H l (.tup ys)))∨(HM X.K H p ys/\Q (.ref p) H))):=by
 intro Fq s σ H xs us Q I r h
 obtain⟨p,ys,rfl,h⟩:=h
 obtain⟨u,rfl,rx⟩:=KN r
 cases rx
 rcases h with⟨hq,q⟩|⟨hq,q⟩
 ·obtain⟨its,r',pl,hz⟩:=I.list hq
  have Hm:=r'.length
  refine call_tuple_list pl.isList (λh' kp=>?_) (by simp only[At]<;>lia)
  have I1:Inv X Fq σ H { s with heap:=h' }:=I.kept (t':=s.toks) kp
  have I2:Inv X Fq σ (HV H h'.objs.size (.tup ys)) { s with heap:=h'.push { cls:=.type "tuple",data:=.seq its.toArray } } :=
   I1.laid (t':=s.toks) (λb o e=>AC _ e) (AH _) (show Hg X.prog X.w _ _ _ (.tup ys) from⟨hz,its,r',Jv.new _ _⟩)
  exact⟨.ref h'.objs.size,_,I2,rfl,q _ (I1.hok.fresh (AH _))⟩
 ·obtain⟨its,r',pl,hz⟩:=I.tuple hq
  exact call_tuple_same pl ⟨.ref p,H,I,rfl,q⟩
noncomputable def vJ(K:yG)(T:String)(x:V)(H:Hp):Prop:=match x with
 |.str _=>T = "str"
 |.int _=>T = "int"
 |.ref p=>(T = "list" /\ ∃xs,HU K H p xs)∨(T = "tuple" /\ ∃o,K.lookup p=some o/\o.cls=.type "tuple" /\ o.dict=none) ∨
   (T = "dict" /\ ((∃kvs,H p=some (.dK kvs))∨∃kvs,H p=some (.dT kvs)))∨(T = "set" /\ ∃S n,H p=some (.set S n))
 |_=>False
theorem Zm{Fq:yA}{σ:St}{H:Hp}{s:yH}{T:String}{x:V}{v:yI}(I:Inv X Fq σ H s)(r:HN x v)(ty:vJ X.K T x H) :
  s.TypeIs v T/\∀a,v=.ref a->∃ob,s.heap.get? a=some ob/\ob.dict=none:=by
 cases x with
 |str z =>
  obtain⟨t,rfl⟩:=r
  cases(show T = "str" from ty)
  exact⟨typeIs_str s z t,λ_ e=>nomatch e⟩
 |int i =>
  obtain⟨t,rfl⟩:=r
  cases(show T = "int" from ty)
  exact⟨Ey s i t,λ_ e=>nomatch e⟩
 |ref p =>
  cases r
  rcases ty with⟨rfl,xs,hq⟩|⟨rfl,o,hk,hc,hd⟩|⟨rfl,hk⟩|⟨rfl,S,n,hk⟩
  ·obtain⟨its,_,pl,_⟩:=I.list hq
   refine⟨pl.isList.typeIs,λa e=>?_⟩
   cases e
   obtain⟨o,n,e,c,hd,_⟩:=pl
   exact⟨o,e,hd⟩
  ·refine⟨⟨o,I.kIn p o hk,hc⟩,λa e=>?_⟩
   cases e
   exact⟨o,I.kIn _ o hk,hd⟩
  ·have z:∃o,s.heap.get? p=some o/\o.ExactDict:=by
    rcases hk with⟨kvs,hk⟩|⟨kvs,hk⟩
    ·obtain⟨_,_,_,_,o,_,_,e,ex,_⟩:=I.hok p _ hk
     exact⟨o,e,ex⟩
    ·obtain⟨_,_,_,_,o,_,_,e,ex,_⟩:=I.hok p _ hk
     exact⟨o,e,ex⟩
   obtain⟨o,e,ex⟩:=z
   refine⟨⟨o,e,ex.1⟩,λa e2=>?_⟩
   cases e2
   exact⟨o,e,ex.2.1⟩
  ·obtain⟨o,_,_,_,e,ex,_⟩:=I.hok p _ hk
   refine⟨⟨o,e,ex.1⟩,λa e2=>?_⟩
   cases e2
   exact⟨o,e,ex.2.1⟩
 |_=>exact False.elim ty
noncomputable def xK(K:yG)(T:String)(r:V->List V->Hp->VK->Prop)(to:TE)(t:TA):TE:=λσ H Q=>to σ H λx H1=>vJ K T x H1/\t σ H1 λxs H2=>r x xs H2 Q
variable{o e:Expr}{es:yE}{to:TE}{t:TA}{name:Str}{apos cpos:Pos}{T id:String}{r:V->List V->Hp->VK->Prop}
theorem Kr(pa:PlainAttrs T)(slot:Slot T name id)(hty:typeOf (.builtin id)=pure (.type "method_descriptor"))(hm:RT X id r)(ho:PE X o to)(ha:PA X (e::es) t)
  (hbase:attributeBase o name X.env (eval o X.env)=eval o X.env:=by rfl)
  (hfew:((backTo cpos (starEach (e::es) X.env)).all (λx=>!x.1)&&(backToKw cpos (keywordEach [] X.env)).all (λx=>x.1.isSome)
   && decide ((e::es).length+([]:List Keyword).length+(if ([]:List Keyword).isEmpty then 0 else 1)<30))=true:=by rfl)
  (hline:(apos.endLine==cpos.line)=true:=by rfl) (hs:starEach (e::es) X.env=(false,eval e X.env)::starEach es X.env:=by rfl) (hplain:(backTo cpos (starEach es X.env)).any (·.1)=false:=by rfl) :
  PE X (.Call (.Attribute o name apos) (e::es) [] cpos) (xK X.K T r to t):=by
 intro Fq s σ H Q I h
 refine Fs hbase hfew hline rfl (Hk (ho Fq s σ H _ I h) λv s1 ⟨x,H1,I1,r1,ty,q1⟩=>?_)
 obtain⟨h1,h2⟩:=Zm I1 r1 ty
 refine⟨T,id,pa,slot,hty,h1,h2,?_⟩
 have hA:=ha cpos Fq s1 σ H1 _ I1 q1
 rw[hs]at hA ⊢
 refine EA (by show(false||(backTo cpos (starEach es X.env)).any (·.1))=false;rw[hplain]<;>rfl) (EQ ?_)
 exact Hk hA λus s2 ⟨vs,H2,I2,r2,q2⟩=>hm Fq s2 σ H2 x vs v us Q I2 r1 r2 q2
end
noncomputable def vA(X:Cx)(id:String)(r:V->List V->Hp->VK->Prop):Prop :=
 ∀(Fq:yA)(s:yH)(σ:St)(H:Hp)(x:V)(xs:List V)(v:yI)(us:xY)(Q:VK),Inv X Fq σ H s->HN x v->HS xs us->r x xs H Q ->
  wpAny (model X.prog X.w) X.A (call (.builtin id) (v::us)) (EP X Fq σ Q) X.xe s
theorem HS.one:∀{x:V}{us:xY},HS [x] us->∃u,us=[u]/\HN x u
 |_,_,.cons r .nil=>⟨_,rfl,r⟩
theorem HS.two:∀{x y:V}{us:xY},HS [x,y] us->∃u v,us=[u,v]/\HN x u/\HN y v
 |_,_,_,.cons r (.cons q .nil)=>⟨_,_,rfl,r,q⟩
theorem HS.reverse{xs:List V}{us:xY}(h:HS xs us):HS xs.reverse us.reverse:=by
 induction h with
 |nil=>exact .nil
 |cons r t ih=>rw[Er,Er];exact HS.append ih (.cons r .nil)
theorem HS.rep{xs:List V}{us:xY}(h:HS xs us):∀k:Nat,HS (List.replicate k xs).flatten (List.replicate k us).flatten
 |0=>.nil
 |k+1=>by
  rw[A1,A1,Bl,Bl]
  exact HS.append h (HS.rep h k)
theorem Vm(its:xY):∀(k:Nat)(acc:xY),
  List.foldl (λx1 x2=>x1++x2) acc.toArray (List.replicate k its.toArray)=(acc++(List.replicate k its).flatten).toArray
 |0,acc=>by simp
 |k+1,acc=>by
  have e:acc.toArray++its.toArray=(acc++its).toArray:=by simp
  have e2:(acc++its)++(List.replicate k its).flatten=acc++(List.replicate (k+1) its).flatten:=by
   rw[A1,Bl,An]
  rw[<-e2,<-Vm its k (acc++its),<-e,A1,B5]
section
variable{X:Cx}{Fq:yA}{σ:St}{H:Hp}{s:yH}{l b:yJ}{xs ys zs:List V}
theorem Inv.lset{its its':xY}{n:Nat}{f:yF->yF}{t':Nat}(I:Inv X Fq σ H s)(hH:H l=some (.lst xs))
  (e:s.heap.get? l=some { cls:=.type "list",data:=.seq its.toArray n }) (hf:f its.toArray=its'.toArray) (hv:HS ys its') (hz:ys.length<=sizeLine) :
  Inv X Fq σ (HV H l (.lst ys)) { s with heap:=s.heap.update l (Obj.mapSeq f),toks:=t' }:=by
 have q:=PySem.IsL.update e f
 rw[hf]at q
 refine I.write (x:=l) (e:=l) (by rw[hH];exact trivial) (.inl rfl) (λb' u hb hu=>(BN s.heap (Obj.mapSeq f) (C3 hb)).trans hu) ⟨_,q⟩ ?_
 exact⟨hz,its',_,hv,q⟩
theorem Inv.lnew{its:xY}{t':Nat}(I:Inv X Fq σ H s)(hv:HS ys its)(hz:ys.length<=sizeLine) :
  Inv X Fq σ (HV H s.heap.objs.size (.lst ys)) { s with heap:=s.heap.push { cls:=.type "list",data:=.seq its.toArray },toks:=t' } :=
 I.laid (λ_ _ q=>AC _ q) (AH _) ⟨hz,its,0,hv,AW _ rfl⟩
theorem Inv.fresh(I:Inv X Fq σ H s):H s.heap.objs.size=none:=I.hok.fresh (AH _)
theorem Inv.lstM(I:Inv X Fq σ H s)(hH:H l=some (.lst xs)):xs.length<=sizeLine/\∃(its:xY)(n:Nat),HS xs its/\xs.length=its.length/\s.heap.get? l=some { cls:=.type "list",data:=.seq its.toArray n }:=by
 obtain⟨z,its,n,r,e⟩:=I.hok l _ hH
 exact⟨z,its,n,r,r.length,e⟩
theorem Sv{n:Nat}(h:n<=sizeLine):Builtin.List.listTooLong n=false:=by
 unfold Builtin.List.listTooLong
 exact Aa (by lia)
end
section
variable{X:Cx}
noncomputable def QE:V->List V->Hp->VK->Prop:=λx vs H Q=>∃l xs y,x=.ref l/\vs=[y]/\H l=some (.lst xs)/\xs.length<sizeLine/\Q .non (HV H l (.lst (xs++[y])))
theorem Kv:vA X "list.append" QE:=by
 intro Fq s σ H x vs v us Q I rx rv h
 obtain⟨l,xs,y,rfl,rfl,hH,hz,q⟩:=h
 cases rx
 obtain⟨u,rfl,ru⟩:=rv.one
 obtain⟨z,its,n,r,hl,e⟩:=I.lstM hH
 refine DE F.slot_list_append ⟨_,e,rfl⟩ F.entry_list_append (F.args_list_append_2 _ _) (PySem.list_append l its.toArray n u (by rw[At];lia)) ⟨e,?_⟩
 refine⟨.non,_,I.lset (its':=its++[u]) hH e (by simp) (r.append (.cons ru .nil)) ?_,rfl,q⟩
 rw[AJ,BC]
 lia
noncomputable def jV:V->List V->Hp->VK->Prop:=λx vs H Q=>∃l b xs zs,x=.ref l/\vs=[.ref b]/\H l=some (.lst xs)/\H b=some (.lst zs)/\xs.length+zs.length<=sizeLine/\Q .non (HV H l (.lst (xs++zs)))
theorem S1:vA X "list.extend" jV:=by
 intro Fq s σ H x vs v us Q I rx rv h
 obtain⟨l,b,xs,zs,rfl,rfl,hH,hB,hz,q⟩:=h
 cases rx
 obtain⟨u,rfl,ru⟩:=rv.one
 cases ru
 obtain⟨z,its,n,r,hl,e⟩:=I.lstM hH
 obtain⟨z2,its2,n2,r2,hl2,e2⟩:=I.lstM hB
 have hsz:its.toArray.size+its2.toArray.size<=sizeLine:=by rw[At,At];lia
 have hlong:¬ (!its.toArray.isEmpty&&Builtin.List.listTooLong (its.toArray.size+its2.toArray.size))=true:=by
  rw[Sv hsz,Fw]
  exact Ae
 refine DE F.slot_list_extend ⟨_,e,rfl⟩ F.entry_list_extend (F.args_list_extend_2 _ _)
  (AutoSeq1.list_extend_list_list_0 l its.toArray n b its2.toArray n2 hlong (by rw[At];lia) (by lia)) ⟨e,e2,?_⟩
 refine⟨.non,_,I.lset (its':=its++its2) hH e (by simp) (r.append r2) ?_,rfl,q⟩
 rw[AJ]
 lia
noncomputable def pC:R2:=λx y H Q=>∃l b xs zs,x=.ref l/\y=.ref b/\H l=some (.lst xs)/\H b=some (.lst zs)/\xs.length+zs.length<=sizeLine/\∀p,H p=none->Q (.ref p) (HV H p (.lst (xs++zs)))
theorem Wt:Iq X (binaryOp .Add) pC:=by
 intro Fq s σ H x y v u Q I rx ry h
 obtain⟨l,b,xs,zs,rfl,rfl,hH,hB,hz,q⟩:=h
 cases rx
 cases ry
 obtain⟨z,its,n,r,hl,e⟩:=I.lstM hH
 obtain⟨z2,its2,n2,r2,hl2,e2⟩:=I.lstM hB
 refine PySem.P.add_list e e2 ?_ (by rw[At,At];lia)
 have ea:its.toArray++its2.toArray=(its++its2).toArray:=by simp
 rw[ea]
 exact⟨.ref _,_,I.lnew (t':=s.toks) (r.append r2) (by rw[AJ];lia),rfl,q _ I.fresh⟩
noncomputable def iI:R2:=λx y H Q=>∃l k xs,x=.ref l/\y=.int k/\H l=some (.lst xs)/\-(2^63)<=k/\k<2^63/\xs.length*k.toNat<=sizeLine /\
 ∀p,H p=none->Q (.ref p) (HV H p (.lst (List.replicate k.toNat xs).flatten))
theorem Sg{α:Type}(xs:List α)(k:Nat):(List.replicate k xs).flatten.length=k*xs.length:=by
 induction k with
 |zero=>simp
 |succ k ih=>rw[A1,Bl,AJ,ih,Cz,HD]
theorem gD:Iq X (binaryOp .Mult) iI:=by
 intro Fq s σ H x y v u Q I rx ry h
 obtain⟨l,k,xs,rfl,rfl,hH,h1,h2,hz,q⟩:=h
 cases rx
 obtain⟨t,rfl⟩:=ry
 obtain⟨z,its,n,r,hl,e⟩:=I.lstM hH
 have Hm:its.toArray.size*k.toNat<=sizeLine:=by rw[At,<-hl];exact hz
 have hcap:¬ its.toArray.size*k.toNat>(2^63-1) / 8:=by
  have:(sizeLine:Nat)<=(2^63-1) / 8:=by decide
  lia
 have hfit:¬ (!Builtin.List.listFitsIndex k)=true:=by
  rw[fitsIndex_both h1 h2]
  exact Ae
 have hlong:¬ Builtin.List.listTooLong (its.toArray.size*k.toNat)=true:=by
  rw[Sv Hm]
  exact Ae
 have hnew:List.foldl (λx1 x2=>x1++x2) #[] (List.replicate (if its.toArray.isEmpty=true then 0 else k.toNat) its.toArray)=(List.replicate k.toNat its).flatten.toArray:=by
  have f0:∀m:Nat,List.foldl (λx1 x2=>x1++x2) #[] (List.replicate m its.toArray)=(List.replicate m its).flatten.toArray:=λm=>by
   have:=Vm its m []
   rw[Fb]at this
   exact this
  rw[f0]
  cases its with
  |nil=>simp
  |cons a r'=>rw[AD (by simp)]
 refine Ez (T := "list") (U := "int") (by decide) ⟨_,e,rfl⟩ (λs'=>Ey s' k t) noFill_list_mul F.fills_int_mul F.slot_int_rmul repeat_list F.slot_int_index.lookup
  (DE F.slot_int_rmul (Ey s k t) F.entry_int_rmul (F.args_int_rmul_2 _ _) (int___rmul___int_list k t l its.toArray n)
   ⟨e,rfl,⟨_,e,rfl⟩,DE F.slot_list_mul ⟨_,e,rfl⟩ F.entry_list_mul (F.args_list_mul_2 _ _) (AutoListH.list___mul___list_int_3 l its.toArray n k t hfit hcap hlong) ⟨e,?_⟩⟩)
 rw[hnew]
 exact⟨.ref _,_,I.lnew (t':=s.toks) (r.rep k.toNat) (by rw[Sg,C0];exact hz),rfl,q _ I.fresh⟩
end
end L2
namespace Att
open PySem PySem.W PySem.Calls PyProof.Rows
theorem xO{P:Params}{h:Heap}:∀(ns:xX)(vs:xY),WellAll P h vs (ns.map WData.int)->IntsAre vs ns:=by
 intro ns
 induction ns with
 |nil =>
  intro vs w
  rw[DI]at w
  cases w
  exact .nil
 |cons n ns ih =>
  intro vs w
  rw[Ai]at w
  cases w with
  |cons a b =>
   cases a
   exact .cons _ _ (ih _ b)
theorem dX{l:OpenLaw}{n:Nat}(hn:l.most=some n){P:Params}{h:Heap}{args:List WData}{vals:xY}
  (hpre:l.row.toRowW.claim.pre args=true) (hwl:WellAll P h vals args) :
  ∃a vs ns,vals=[Value.ref a]/\args=[WData.list (ns.map WData.int)]/\h.get? a=some { cls:=.type "list",data:=.seq vs.toArray }/\IntsAre vs ns/\ns.length<=n:=by
 have hsh:WShape.hasAll [] args [.list .int]=true:=(pre_splitW hpre).1
 have hc:l.pre.holds [] { args:=args }=true:=(pre_splitW hpre).2
 obtain⟨d,r,rfl,h1,h2⟩:=hasAllW_cons hsh
 obtain rfl:=hasAllW_nil h2
 obtain⟨xs,rfl,h3⟩:=hasW_list h1
 obtain⟨ns,rfl⟩:=items_int h3
 have Hm:ns.length<=n:=by
  unfold OpenLaw.pre at hc
  have h4:(WTm.not (.lt (.lit (.int (n:Int))) (.len (.arg 0)))).holds [] { args:=[.list (ns.map .int)] }=true:=by
   have h4:=(holds_andW hc).1
   rw[hn]at h4
   exact h4
  have h5:=condW_of h4 (w_not (w_lt w_lit (w_len_list (w_arg rfl))))
  rw[AB]at h5
  refine Nat.le_of_not_lt λq=>?_
  have q':(n:Int)<((ns.length:Nat):Int):=by lia
  first
   |(rw[Ac q']at h5;exact absurd h5 (by decide))
   |(simp at h5;lia)
 cases hwl with
 |cons w1 w2 =>
  cases w2
  cases w1 with
  |list ho hall=>exact⟨_,_,ns,rfl,rfl,ho,xO ns _ hall,Hm⟩
theorem Xu(l:OpenLaw)(args:List WData):l.row.toRowW.claim.post args (.bool true) args=true :=
 postW_of (r:=l.row.toRowW) (X:=(true==true))
  (show WShape.has [] (.bool true) .bool=true by first|rfl|decide|simp [WShape.has,WShape.arms,WShape.armsAll])
  (show(WTm.eq .res (.lit (.bool true))).value [] { args:=args,res:=some (.bool true),after:=args }=some (.bool (true==true)) from w_eq_bool (w_res rfl) w_lit) rfl
theorem attach_call{l:OpenLaw}{n:Nat}{q:yL}{loose:yB}{XP:(Str->yD)->Heap->Prop}{YP:yM->Heap->Prop}{d:DefRec}
  (hn:l.most=some n) (hdf:d.params.defaults=[])
  (call:∀(w:yM)(s₀ s₁:yH)(mg mb:Str->yD)(fa:yJ)(o:Obj)(pm cd doc:yI)(a:yJ)(vs:xY)(ns:xX),
   Ground q loose [] XP w s₀ mg mb s₁.heap->YP w s₁.heap ->
   s₁.heap.get? fa=some o->o.data=.func (docDef d.name d.params d.body d.scope pm cd doc)->s₁.heap.CodeRec cd d.name->mg d.name=some (.ref fa) ->
   s₁.heap.get? a=some { cls:=.type "list",data:=.seq vs.toArray }->IntsAre vs ns->ns.length<=n->s₁.gens=#[] ->
   codeAny (model l.prog w) callerA (.call (.ref fa) ⟨[.ref a],[]⟩) (λr s'=>r=.ok (.ret (.bool true))/\OldK s₁.heap s'.heap/\s'.os=s₁.os/\AllBare s'.gens) s₁) :
  WalkO q loose XP YP l.row.toRowW d [] (λf vs=>PySem.call f vs):=by
 intro w s₀ s₁ mg mb G Y fa o pm cd doc dV kV ho hd hcd hD hmg hg args vals as hpre hlay hrd hwl hlo
 obtain rfl:dV=.none:=Dflts.none hD hdf
 obtain rfl:kV=.none:=Dflts.noKw hD
 obtain⟨a,vs,ns,rfl,rfl,hobj,hints,Hm⟩:=dX hn hpre hwl
 refine enter_call (FI (call w s₀ s₁ mg mb fa o pm cd doc a vs ns G Y ho (fd_plain hd) hcd hmg hobj hints Hm hg) λr s' hq=>?_)
 obtain⟨rfl,h2,h3,h4⟩:=hq
 exact⟨.inl ⟨.bool true,.bool true,[],rfl,λ_=>rfl,.bool true,Xu l _,λ_=>⟨List.Pairwise.nil,λ_ hm=>(nomatch hm)⟩⟩,h2,h3,h4⟩
section
variable{prog:yL}{w:yM}{A:Around}{E:xZ}{s:yH}{K:Frag}
noncomputable def xC(h:Heap)(L d:yJ):yA:=(List.range h.objs.size).filterMap λa=>if a=L∨a=d then none else (h.get? a).map λo=>(a,o)
end
end Att
namespace L2
open PySem PySem.Spec PyProof.Rows
theorem U0:∀{vs:xY}{ns:xX},IntsAre vs ns->HS (ns.map V.int) vs
 |_,_,.nil=>.nil
 |_,_,.cons n t h=>.cons ⟨t,rfl⟩ (U0 h)
noncomputable def O9(H:Hp):Prop:=∀b,H b=none∨∃o xs,H b=some (.frz o (.lst xs))
theorem oZ{P:yL}{w:yM}{K:yG}{mg mb:Str->yD}{CX:LF}{k:Nat}{fa a:yJ}{fd:yN}{x:Str}{sp:Sp}{s₁:yH}{vs:xY}{ns:xX}
  (KX:K.In s₁.heap) (hns:s₁.heap.Ns mainGlobals mg) (hb:s₁.heap.Ns builtinsNs mb) (hbb:∀x:Str,x ≠ "__name__" -> mb x=bootBuiltins x) (hlim:s₁.heap.NoLimit) (hg:s₁.gens=#[])
  (ha:s₁.heap.get? a=some { cls:=.type "list",data:=.seq vs.toArray }) (hi:IntsAre vs ns) (hl:ns.length<=sizeLine) (hr:IN k callerA)
  (F:∀base:Heap,K.In base->base.Ns mainGlobals mg->HC P w K mg base CX k fa fd [x] sp) (hbind:∀(s:yH)(u:yI),BindsTo s fd ⟨[u],[]⟩ [(x,u)])
  (hsp:∀H:Hp,O9 H->HU K H a (ns.map V.int)->sp [.ref a] H (λv _=>v=.bl true) λ_ _ _=>False)
  (hCX:∀H e s',CX [] H s₁ (λ_ _ _=>False) e s'->False) :
  codeAny (model P w) callerA (.call (.ref fa) ⟨[.ref a],[]⟩) (λr s'=>r=.ok (.ret (.bool true))/\OldK s₁.heap s'.heap/\s'.os=s₁.os/\AllBare s'.gens) s₁:=by
 have rv:=U0 hi
 have lenV:=hi.length
 have core:∀H:Hp,O9 H->HU K H a (ns.map V.int)->Ii P w H s₁.heap->(∀b,H b≠none->b=a)->(H a≠none->K.lookup a=none) ->
   codeAny (model P w) callerA (.call (.ref fa) ⟨[.ref a],[]⟩) (λr s'=>r=.ok (.ret (.bool true))/\OldK s₁.heap s'.heap/\s'.os=s₁.os/\AllBare s'.gens) s₁:=by
  intro H hO hS hok hA hK
  have base_of:∀{b:yJ}{o:Obj},s₁.heap.get? b=some o->H b=none->(Ni s₁.heap H).get? b=some o:=λe n=>bV e n
  have noA:∀{b:yJ}{o:Obj}{es:Array yP}{ep:Nat},s₁.heap.get? b=some o->o.data=.dict es ep->H b=none:=λ{b o es ep} e d=>by
   cases q:H b with
   |none=>rfl
   |some u =>
    have e':b=a:=hA b (by rw[q];simp)
    subst e'
    rw[ha]at e;cases e
    have d':Data.seq vs.toArray _=Data.dict es ep:=d
    cases d'
  have nsK:∀{b:yJ}{m:Str->yD},s₁.heap.Ns b m->(Ni s₁.heap H).Ns b m:=λ{b m} ⟨o,es,ep,e,d,r⟩=>⟨o,es,ep,base_of e (noA e d),d,r⟩
  have hKb:K.In (Ni s₁.heap H):=λb o e=>base_of (KX b o e) (by
   cases q:H b with
   |none=>rfl
   |some u =>
    have e':b=a:=hA b (by rw[q];simp)
    subst e'
    rw[hK (by rw[q];simp)]at e;cases e)
  have hM:Mod K mg (Ni s₁.heap H):=⟨hKb,nsK hns,⟨mb,nsK hb,hbb⟩,let ⟨mc,h1,h2⟩:=hlim;⟨mc,nsK h1,h2⟩⟩
  have e0:Kx P w K mg (Ni s₁.heap H) callerA [] s₁ H:=⟨rfl,hM,λb o e=>fZ e,Nat.le_of_eq (Yt _ _),trivial,λb hb=>absurd (show b∈([]:yC) from hb) (by simp),hok,.of_eq hg⟩
  refine FI ((F _ hKb (nsK hns)).run callerA [] s₁ H ⟨[.ref a],[]⟩ [.ref a] [.ref a] _ _ hr e0 (hbind s₁ (.ref a)) (.cons rfl .nil) (hsp H hO hS)) λr s' h=>?_
  cases r with
  |error e=>exact(hCX H e s' h).elim
  |ok fl =>
   cases fl with
   |next=>exact False.elim h
   |brk=>exact False.elim h
   |cont=>exact False.elim h
   |ret u =>
    obtain⟨v,H',os,bare,un,hok',r',q⟩:=h
    have q':v=.bl true:=q
    subst q'
    obtain rfl:u=Value.bool true:=r'
    refine⟨rfl,OldK.of_keep λb o e=>?_,os,bare⟩
    cases q:H b with
    |none=>exact un.keep b o e q (by intro z;exact absurd (show b∈([]:yC) from z) (by simp)) (by simp)
    |some u =>
     rcases hO b with z|⟨ob,xs,z⟩
     ·rw[q]at z;cases z
     ·have z2:=un.frzs b ob _ z
      obtain⟨e1,_⟩:=hok b _ z
      obtain⟨e2,_⟩:=hok' b _ z2
      rw[e]at e1;cases e1
      exact e2
 cases hk:K.lookup a with
 |some o =>
  have e:=KX a o hk
  rw[ha]at e
  cases e
  refine core (λ_=>none) (λ_=>.inl rfl) (.inr ⟨_,vs.toArray,_,hk,rfl,rfl,rfl,by rw[At,lenV];exact hl,by simpa using rv⟩) (λb u z=>by have z':(none:Option HO)=some u:=z;cases z') (λb z=>absurd rfl z) λz=>absurd rfl z
 |none =>
  refine core (λb=>if b=a then some (.frz { cls:=.type "list",data:=.seq vs.toArray } (.lst (ns.map V.int))) else none) (λb=>?_) (.inl (.inr ⟨{ cls:=.type "list",data:=.seq vs.toArray },AF rfl⟩)) (λb u z=>?_) (λb z=>?_) λ_=>hk
  ·by_cases hb:b=a
   ·exact .inr ⟨_,_,AF hb⟩
   ·exact .inl (AD hb)
  ·by_cases hb:b=a
   ·have z':=(AF hb).symm.trans z
    cases z'
    subst hb
    exact⟨ha,by rw[AB];exact hl,vs,_,rv,ha⟩
   ·have z':=(AD hb).symm.trans z
    cases z'
  ·by_cases hb:b=a
   ·exact hb
   ·exact absurd (AD hb) z
theorem walk_of{l:W.OpenLaw}{n k:Nat}{q:yL}{loose:yB}{XP:(Str->yD)->Heap->Prop}{YP:yM->Heap->Prop}{d:DefRec}{K:Params->yG}{CX:yM->LF}{sp:yM->Sp}{x:Str}
  (hn:l.most=some n) (hn2:n<=sizeLine) (hdf:d.params.defaults=[]) (hr:IN k callerA)
  (hY:∀(w:yM)(h:Heap),YP w h->(K w.params).In h)
  (F:∀(w:yM)(mg:Str->yD)(fa:yJ)(h:Heap),(K w.params).In h->h.Ns mainGlobals mg->mg d.name=some (.ref fa) ->
   ∃fd:yN,(∀(s:yH)(u:yI),BindsTo s fd ⟨[u],[]⟩ [(x,u)]) /\
    ∀base:Heap,(K w.params).In base->base.Ns mainGlobals mg->HC l.prog w (K w.params) mg base (CX w) k fa fd [x] (sp w))
  (hsp:∀(w:yM)(H:Hp)(a:yJ)(ns:xX),ns.length<=n->O9 H->HU (K w.params) H a (ns.map V.int)->sp w [.ref a] H (λv _=>v=.bl true) λ_ _ _=>False)
  (hCX:∀(w:yM)(H:Hp)(s:yH)(e:yI)(s':yH),CX w [] H s (λ_ _ _=>False) e s'->False) :
  W.WalkO q loose XP YP l.row.toRowW d [] (λf vs=>PySem.call f vs):=by
 refine Att.attach_call hn hdf λw s₀ s₁ mg mb fa o pm cd doc a vs ns G Y ho hd hcd hmg hobj hints Hm hg=>?_
 have KX:=hY w _ Y
 obtain⟨fd,hb,hF⟩:=F w mg fa _ KX G.T.g hmg
 exact oZ KX G.T.g G.T.b G.T.builtins G.T.nolimit hg hobj hints (As Hm hn2) hr hF hb (λH hO hS=>hsp w H a ns Hm hO hS) λH e s'=>hCX w H s₁ e s'
end L2
namespace L2
open PySem PySem.Spec PyProof.Rows
noncomputable def RJ(s:Stmt):Arguments:=match s with
 |.FunctionDef _ a _ _ _ _ _ _ _ _=>a
 |_=>{ posonlyargs:=[],args:=[],vararg:=none,kwonlyargs:=[],kw_defaults:=[],kwarg:=none,defaults:=[] }
noncomputable def OI(s:Stmt):List Stmt:=match s with
 |.FunctionDef _ _ b _ _ _ _ _ _ _=>b
 |_=>[]
noncomputable def He(s:Stmt):Scope:=match s with
 |.FunctionDef _ _ _ _ _ _ sc _ _ _=>sc
 |_=>{ kind:=.function,names:=[],isGenerator:=false,isCoroutine:=false }
noncomputable abbrev Hn:LF:=λ_ _ _ _ _ _=>False
noncomputable abbrev E0:XK:=λ_ _ _=>False
theorem O4{X:Cx}:QS Hn X E0:=λ_ _ _ _ _ _ _ h=>h.elim
structure Hu(K:yG)(x qual:Str)(st:Stmt)(f:yJ)(fd:yN):Prop where
 ex:∃(oc:yI)(od:Option yJ)(kV doc pm:yI)(an:Option yJ)(Hh ct:yI)(osl:Array yD),
  fd=W.fnOf x qual (RJ st) (OI st) (He st) .none kV doc pm an Hh ct/\K.lookup f=some ⟨oc,od,.func fd,osl⟩/\W.codeIn K Hh qual=true
 kp:W.keepIn K (.ref f)=true
section
variable{P:yL}{w:yM}{K:yG}{mg:Str->yD}{base:Heap}
theorem Hu.ok{x qual:Str}{st:Stmt}{f:yJ}{fd:yN}{N ps:yB}{k:Nat}{sp:Sp}(F:Hu K x qual st f fd)(S:Gq N ps (He st))(len:∀vs H Q E,sp vs H Q E->vs.length=ps.length)
  (KO:∀(Hh:yI)(A:Around)(outer:List Env)(s:yH)(H:Hp)(vs:List V)(Q:VK)(E:XK),IN k (A.deeper (envOfC qual (He st) s.heap.objs.size f Hh))->sp vs H Q E ->
   ∃t,KA (Po Hn P w K mg base N qual (He st) f Hh A outer s H E).nox (OI st) t/\t { nx:=λ_ H'=>Q .non H',rt:=Q } (start N vs) H):HC P w K mg base Hn (k+1) f fd ps sp:=by
 obtain⟨oc,od,kV,doc,pm,an,Hh,ct,osl,rfl,lk,hcd⟩:=F.ex
 refine ZD lk hcd S len λA outer s H vs Q E hr hsp=>?_
 obtain⟨t,h,q⟩:=KO Hh A outer s H vs Q E hr hsp
 exact⟨t,h.nox,q⟩
theorem Hu.binds{x qual:Str}{st:Stmt}{f:yJ}{fd:yN}{ps:yB}(F:Hu K x qual st f fd)
  (h:∀(kV doc pm:yI)(an:Option yJ)(Hh ct:yI)(us:xY),us.length=ps.length->bindArgs (W.fnOf x qual (RJ st) (OI st) (He st) .none kV doc pm an Hh ct) ⟨us,[]⟩=pure (ps.zip us)):IT K fd ps []:=by
 obtain⟨oc,od,kV,doc,pm,an,Hh,ct,osl,rfl,lk,hcd⟩:=F.ex
 exact .all (h kV doc pm an Hh ct)
theorem Xz{x qual:Str}{st:Stmt}{f:yJ}{oc:yI}{od an:Option yJ}{osl:Array yD}{kV doc pm Hh ct:yI}(l:K.lookup f=some ⟨oc,od,.func (W.fnOf x qual (RJ st) (OI st) (He st) .none kV doc pm an Hh ct),osl⟩)
  (c:W.codeIn K Hh qual=true) (k:W.keepIn K (.ref f)=true):Hu K x qual st f (W.fnOf x qual (RJ st) (OI st) (He st) .none kV doc pm an Hh ct):=⟨⟨oc,od,kV,doc,pm,an,Hh,ct,osl,rfl,l,c⟩,k⟩
end
theorem Os{A:Around}{k:Nat}(hr:IN k A):A.units+1<cLine:=A7 (CP (by decide:1<=64) _) hr.units
section
variable{X:Cx}
theorem pv(i:Nat){x:Str}{pos:Pos}(hN:X.N[i]?=some x:=by rfl)(hv:Ui X.env.scope x:=by first|exact Or.inl rfl|exact Or.inr (Or.inl rfl)|exact Or.inr (Or.inr rfl))(hd:(x==("__debug__" : Str))=false:=by decide)
  (hcd:(x==("__classdict__" : Str))=false:=by decide):PE X (.Name x pos) (WC i):=kE hN hv hd hcd
end
theorem JD{A B:Prop}(h:B):if false=true then A else B:=by
 rw[AD Ae]
 exact h
theorem KC{A B:Prop}(h:A):if true=true then A else B:=by
 rw[AF rfl]
 exact h
theorem Pt{c A B:Prop}[Decidable c](h1:c->A)(h2:¬ c->B):if c then A else B:=by
 by_cases h:c
 ·rw[AF h]
  exact h1 h
 ·rw[AD h]
  exact h2 h
noncomputable def Gp(H H':Hp):Prop:=∀b o,H b=some o->H' b=some o
theorem Gp.refl(H:Hp):Gp H H:=λ_ _ h=>h
theorem Gp.trans{H H1 H2:Hp}(a:Gp H H1)(b:Gp H1 H2):Gp H H2:=λc o h=>b c o (a c o h)
theorem Gp.free{H H':Hp}(e:Gp H H'){l:yJ}(h:H' l=Option.none):H l=Option.none:=by
 cases q:H l with
 |none=>rfl
 |some o =>
  rw[e l o q]at h
  cases h
theorem Gp.seq{K:yG}{H H':Hp}{a:yJ}{xs:List V}(e:Gp H H')(h:HU K H a xs):HU K H' a xs:=by
 rcases h with(h|⟨o,h⟩)|h
 ·exact .inl (.inl (e _ _ h))
 ·exact .inl (.inr ⟨o,e _ _ h⟩)
 ·exact .inr h
section
variable{κ:Type}[DecidableEq κ]
noncomputable def Kl(kvs:List (κ×V))(k:κ):Option V:=(kvs.find? λkv=>decide (kv.1=k)).map (·.2)
noncomputable def KI(kvs:List (κ×V))(k:κ)(v:V):List (κ×V) :=
 if (kvs.any λkv=>decide (kv.1=k))=true then kvs.map (λkv=>if kv.1=k then (kv.1,v) else kv) else kvs++[(k,v)]
noncomputable def Uy(kvs:List (κ×V))(k:κ):List (κ×V):=kvs.filter λkv=>decide (kv.1≠k)
theorem TH{p:κ×V}{r:List (κ×V)}{k:κ}(e:p.1=k):Kl (p::r) k=some p.2:=by simp [Kl,CG,e]
theorem Sa{p:κ×V}{r:List (κ×V)}{k:κ}(e:¬ p.1=k):Kl (p::r) k=Kl r k:=by simp [Kl,CG,e]
theorem VV(k:κ):∀kvs:List (κ×V),(kvs.any λkv=>decide (kv.1=k))=(Kl kvs k).isSome
 |[]=>rfl
 |p::r=>by
  rw[CM]
  by_cases e:p.1=k
  ·simp only[TH e,Ac e,Bool.true_or,Option.isSome_some]
  ·rw[Sa e,Aa e,Gr];exact VV k r
theorem vW(kvs:List (κ×V))(k:κ)(v:V):(KI kvs k v).length<=kvs.length+1:=by
 unfold KI
 split
 ·rw[AB];lia
 ·rw[AJ,Am,C5];lia
theorem JT.isSome_eq{o:Option V}{u:yD}(r:JT o u):o.isSome=u.isSome:=by
 cases o with
 |none=>cases u with
  |none=>rfl
  |some _=>exact(show False from r).elim
 |some _=>cases u with
  |none=>exact(show False from r).elim
  |some _=>rfl
theorem JT.getD{o:Option V}{u:yD}{d:V}{d':yI}(r:JT o u)(rd:HN d d'):HN (o.getD d) (u.getD d'):=by
 cases o with
 |none=>cases u with
  |none=>exact rd
  |some _=>exact(show False from r).elim
 |some _=>cases u with
  |none=>exact(show False from r).elim
  |some _=>exact r
theorem KV.val{kvs:List (κ×V)}{vs:List (κ×yI)}(r:KV kvs vs)(k:κ):JT (Kl kvs k) (valueAt vs k):=by
 unfold KV at r
 induction r with
 |nil=>exact True.intro
 |@cons p q ps qs h t ih =>
  obtain⟨h1,h2⟩:=h
  by_cases e:p.1=k
  ·have e':q.1=k:=h1.symm.trans e
   have b:valueAt (q::qs) k=some q.2:=by simp [valueAt,CG,e']
   rw[TH e,b];exact h2
  ·have e':¬ q.1=k:=λz=>e (h1.trans z)
   have b:valueAt (q::qs) k=valueAt qs k:=by simp [valueAt,CG,e']
   rw[Sa e,b];exact ih
theorem KV.any{kvs:List (κ×V)}{vs:List (κ×yI)}(r:KV kvs vs)(k:κ):(kvs.any λkv=>decide (kv.1=k))=vs.any λkv=>decide (kv.1=k):=by
 unfold KV at r
 induction r with
 |nil=>rfl
 |cons h t ih=>rw[CM,CM,ih,h.1]
theorem KV.repl{kvs:List (κ×V)}{vs:List (κ×yI)}(r:KV kvs vs)(k:κ){y:V}{u:yI}(ry:HN y u) :
  KV (kvs.map λkv=>if kv.1=k then (kv.1,y) else kv) (vs.map λkv=>if kv.1=k then (kv.1,u) else kv):=by
 unfold KV at r ⊢
 induction r with
 |nil=>exact .nil
 |@cons p q ps qs h t ih =>
  rw[Ai,Ai]
  refine .cons ?_ ih
  obtain⟨h1,h2⟩:=h
  by_cases e:p.1=k
  ·rw[AF e,AF (h1.symm.trans e)];exact⟨h1,ry⟩
  ·rw[AD e,AD (λz=>e (h1.trans z))];exact⟨h1,h2⟩
theorem KV.put{kvs:List (κ×V)}{vs:List (κ×yI)}(r:KV kvs vs)(k:κ){y:V}{u:yI}(ry:HN y u):KV (KI kvs k y) (stored vs k u):=by
 unfold KI stored
 rw[r.any k]
 by_cases e:(vs.any λkv=>decide (kv.1=k))=true
 ·rw[AF e,AF e];exact r.repl k ry
 ·rw[AD e,AD e];exact Cc r ⟨rfl,ry⟩
theorem KV.drop{kvs:List (κ×V)}{vs:List (κ×yI)}(r:KV kvs vs)(k:κ):KV (Uy kvs k) (without vs k):=by
 unfold KV at r ⊢
 unfold Uy without
 induction r with
 |nil=>exact .nil
 |@cons p q ps qs h t ih =>
  obtain⟨h1,h2⟩:=h
  rw[BO,BO]
  by_cases e:p.1=k
  ·have a:¬ decide (p.1≠k)=true:=by simp [e]
   have b:¬ decide (q.1≠k)=true:=by simp [h1.symm.trans e]
   rw[AD a,AD b];exact ih
  ·have e':¬ q.1=k:=λz=>e (h1.trans z)
   have a:decide (p.1≠k)=true:=by simp [e]
   have b:decide (q.1≠k)=true:=by simp [e']
   rw[AF a,AF b];exact .cons ⟨h1,h2⟩ ih
theorem KV.keys{kvs:List (κ×V)}{vs:List (κ×yI)}(r:KV kvs vs):kvs.map (·.1)=vs.map (·.1):=by
 unfold KV at r
 induction r with
 |nil=>rfl
 |cons h t ih=>rw[Ai,Ai,ih,h.1]
theorem KV.length{kvs:List (κ×V)}{vs:List (κ×yI)}(r:KV kvs vs):kvs.length=vs.length:=AM r
end
theorem M6{P:yL}{w:yM}{k:IB}{u:yI}(r:HN (kV k) u):(KU P w).is k u=true:=by
 cases k with
 |inl i=>obtain⟨t,e⟩:=(show ∃t,u=Value.int i t from r);subst e;exact dP P w i t
 |inr x=>obtain⟨t,e⟩:=(show ∃t,u=Value.str x t from r);subst e;exact pW P w x t
theorem Sh{P:yL}{w:yM}:∀{ks:List IB}{us:xY},HS (ks.map kV) us->ItemsAre (KU P w) ks us
 |[],_,r=>by rw[DI]at r;cases r;exact .nil
 |k::ks,_,r=>by
  rw[Ai]at r
  cases r with
  |cons h t=>exact .cons (M6 h) (Sh t)
noncomputable abbrev KT(H:Hp):List (List IB×V)->List (List IB×yJ×yI)->Prop:=Paired λp q=>p.1=q.1/\H q.2.1=some (.tup (p.1.map kV))/\HN p.2 q.2.2
theorem KT.val{H:Hp}{kvs:List (List IB×V)}{xs:List (List IB×yJ×yI)}(r:KT H kvs xs)(k:List IB):JT (Kl kvs k) ((atKey xs k).map (·.2)):=by
 induction r with
 |nil=>exact True.intro
 |@cons p q ps qs h t ih =>
  obtain⟨h1,_,h2⟩:=h
  by_cases e:p.1=k
  ·have e':q.1=k:=h1.symm.trans e
   have b:atKey (q::qs) k=some q.2:=by simp [atKey,CG,e']
   rw[TH e,b];exact h2
  ·have e':¬ q.1=k:=λz=>e (h1.trans z)
   have b:atKey (q::qs) k=atKey qs k:=by simp [atKey,CG,e']
   rw[Sa e,b];exact ih
theorem KT.repl{H:Hp}{kvs:List (List IB×V)}{xs:List (List IB×yJ×yI)}(r:KT H kvs xs)(k:List IB){y:V}{u:yI}(ry:HN y u) :
  KT H (kvs.map λkv=>if kv.1=k then (kv.1,y) else kv) (xs.map (putAt k u)):=by
 induction r with
 |nil=>exact .nil
 |@cons p q ps qs h t ih =>
  rw[Ai,Ai]
  refine .cons ?_ ih
  obtain⟨h1,h2,h3⟩:=h
  unfold putAt
  by_cases e:p.1=k
  ·rw[AF e,AF (h1.symm.trans e)];exact⟨h1,h2,ry⟩
  ·rw[AD e,AD (λz=>e (h1.trans z))];exact⟨h1,h2,h3⟩
theorem KT.put{H:Hp}{kvs:List (List IB×V)}{xs:List (List IB×yJ×yI)}(r:KT H kvs xs)(k:List IB){b:yJ}{y:V}{u:yI}(hb:H b=some (.tup (k.map kV)))(ry:HN y u) :
  KT H (KI kvs k y) (storedH xs k b u):=by
 have e:(kvs.any λkv=>decide (kv.1=k))=(atKey xs k).isSome:=by
  rw[VV,(r.val k).isSome_eq,Option.isSome_map]
 unfold KI storedH
 rw[e]
 by_cases q:(atKey xs k).isSome=true
 ·rw[AF q,AF q];exact r.repl k ry
 ·rw[AD q,AD q];exact Cc r ⟨rfl,hb,ry⟩
theorem KT.keeps{H H':Hp}{kvs:List (List IB×V)}{xs:List (List IB×yJ×yI)}(r:KT H kvs xs)(ht:∀b ys,H b=some (.tup ys)->H' b=some (.tup ys)):KT H' kvs xs :=
 Paired.mapP r λ_ _ z=>⟨z.1,ht _ _ z.2.1,z.2.2⟩
section
variable{P:yL}{w:yM}{H:Hp}{h:Heap}{a:yJ}
theorem NJ{u:HO}(ok:Ii P w H h)(e:Rd H a u):Hg P w H h a u:=e.ok ok
theorem UV{kvs:List (IB×V)}(ok:Ii P w H h)(e:Rd H a (.dK kvs)):kvs.length<=sizeLine/\(a==sysModules)=false/\∃vs,KV kvs vs/\h.DictOf (KU P w) a vs :=
 show Hg P w H h a (.dK kvs) from NJ ok e
theorem kL{kvs:List (IB×V)}(ok:Ii P w H h)(e:H a=some (.dK kvs)):kvs.length<=sizeLine/\(a==sysModules)=false/\∃vs,KV kvs vs/\h.DictOf (KU P w) a vs:=UV ok (.inl e)
theorem XD{ks:List IB}(ok:Ii P w H h)(e:H a=some (.tup (ks.map kV))):(tupleKind (KU P w)).is h ks a:=by
 obtain⟨_,its,r,o,h1,h2,n,h3⟩:=(show Hg P w H h a (.tup (ks.map kV)) from ok a _ e)
 exact⟨o,its.toArray,n,h1,h2,h3.1,by simpa using Sh r⟩
theorem UF{kvs:List (List IB×V)}(ok:Ii P w H h)(e:Rd H a (.dT kvs)):kvs.length<=sizeLine/\(a==sysModules)=false /\
  ∃xs,KT H kvs xs/\h.DictOfH (tupleKind (KU P w)) a xs:=by
 obtain⟨z,y,xs,r,o,es,ep,h1,h2,h3,h4,h5⟩:=(show Hg P w H h a (.dT kvs) from NJ ok e)
 refine⟨z,y,xs,r,o,es,ep,h1,h2,h3,h4,λx hx=>?_,h5⟩
 have all:∀{l:List (List IB×V)}{m:List (List IB×yJ×yI)},KT H l m->∀x∈m,(tupleKind (KU P w)).is h x.1 x.2.1:=by
  intro l m q
  induction q with
  |nil=>intro x hx;exact nomatch hx
  |@cons p q ps qs hq t ih =>
   intro x hx
   rcases AY.mp hx with e|hx
   ·subst e
    exact XD ok (by rw[<-hq.1];exact hq.2.1)
   ·exact ih x hx
 exact all r x hx
theorem Xq{kvs:List (List IB×V)}(ok:Ii P w H h)(e:H a=some (.dT kvs)):kvs.length<=sizeLine/\(a==sysModules)=false /\
  ∃xs,KT H kvs xs/\h.DictOfH (tupleKind (KU P w)) a xs:=UF ok (.inl e)
end
noncomputable def JH(H:Hp)(a:yJ)(y:V)(r:Option V):Prop :=
 (∃kvs k,Rd H a (.dK kvs)/\y=kV k/\r=Kl kvs k)∨∃kvs k b,Rd H a (.dT kvs)/\y=.ref b/\H b=some (.tup (k.map kV))/\r=Kl kvs k
noncomputable def KG(H:Hp)(a:yJ)(y v:V)(H':Hp):Prop :=
 (∃kvs k,H a=some (.dK kvs)/\y=kV k/\kvs.length<sizeLine/\H'=HV H a (.dK (KI kvs k v))) ∨
 ∃kvs k b,H a=some (.dT kvs)/\y=.ref b/\H b=some (.tup (k.map kV))/\kvs.length<sizeLine/\H'=HV H a (.dT (KI kvs k v))
theorem JH.k{H:Hp}{a:yJ}{kvs:List (IB×V)}{k:IB}(e:H a=some (.dK kvs)):JH H a (kV k) (Kl kvs k):=.inl ⟨kvs,k,.inl e,rfl,rfl⟩
theorem JH.t{H:Hp}{a b:yJ}{kvs:List (List IB×V)}{k:List IB}(e:H a=some (.dT kvs))(eb:H b=some (.tup (k.map kV))):JH H a (.ref b) (Kl kvs k):=.inr ⟨kvs,k,b,.inl e,rfl,eb,rfl⟩
theorem KG.k{H:Hp}{a:yJ}{kvs:List (IB×V)}{k:IB}{v:V}(e:H a=some (.dK kvs))(hl:kvs.length<sizeLine):KG H a (kV k) v (HV H a (.dK (KI kvs k v))):=.inl ⟨kvs,k,e,rfl,hl,rfl⟩
theorem KG.t{H:Hp}{a b:yJ}{kvs:List (List IB×V)}{k:List IB}{v:V}(e:H a=some (.dT kvs))(eb:H b=some (.tup (k.map kV)))(hl:kvs.length<sizeLine) :
  KG H a (.ref b) v (HV H a (.dT (KI kvs k v))):=.inr ⟨kvs,k,b,e,rfl,eb,hl,rfl⟩
section
variable{X:Cx}{Fq:yA}{σ:St}{H:Hp}{s:yH}{a:yJ}{y v:V}{u r:yI}{o:Option V}{A:Around}{E:xZ}
theorem Inv.big(I:Inv X Fq σ H s):sysModules<s.heap.objs.size:=by
 have h:mainGlobals<s.heap.objs.size:=(I.mod.glob.keeps I.bk).lt
 exact DJ (by decide) h
theorem nI{Q:xZ}(hu:A.units+1<cLine)(I:Inv X Fq σ H s)(g:JH H a y (some v))(ry:HN y u)(h:∀w' s',Inv X Fq σ H s'->HN v w'->Q w' s') :
  wpAny (model X.prog X.w) A (getItem (.ref a) u) Q E s:=by
 rcases g with⟨kvs,k,e,ey,l⟩|⟨kvs,k,b,e,ey,eb,l⟩
 ·subst ey
  obtain⟨z,hd,vs,rel,dd⟩:=UV I.hok e
  obtain⟨w',hw,rw'⟩:=JT.some_of (v:=v) (o:=valueAt vs k) (by rw[l];exact rel.val k)
  exact wpAny_getItem_of (M6 ry) dd.mapOf hw (h w' _ (I.tok _) rw')
 ·subst ey
  cases(show u=Value.ref b from ry)
  obtain⟨z,hd,xs,rel,dd⟩:=UF I.hok e
  obtain⟨w',hw,rw'⟩:=JT.some_of (v:=v) (o:=(atKey xs k).map (·.2)) (by rw[l];exact rel.val k)
  obtain⟨p,hp,hp2⟩:=Option.map_eq_some_iff.mp hw
  refine wpAny_getItem_heap (Ek hu) (XD I.hok eb) dd hp ?_
  rw[hp2]
  exact h w' _ (I.tok _) rw'
theorem Ux{h':Heap}{t':Nat}{ob:HO}(I:Inv X Fq σ H s)(mu:RW (H a))(hs:Heap.SameBut a s.heap h')(he:∃q,h'.get? a=some q)(new:Hg X.prog X.w (HV H a ob) h' a ob) :
  Inv X Fq σ (HV H a ob) { s with heap:=h',toks:=t' } :=
 I.write (x:=a) (e:=a) mu (.inl rfl) (λb q hb z=>(hs.2 b hb).trans z) he new
theorem kK{P:yL}{w:yM}{H':Hp}{h':Heap}{kvs:List (IB×V)}{vs:List (IB×yI)}(z:kvs.length<=sizeLine)(hd:(a==sysModules)=false)(rel:KV kvs vs)(dd:h'.DictOf (KU P w) a vs) :
  Hg P w H' h' a (.dK kvs):=⟨z,hd,vs,rel,dd⟩
theorem Yi{H':Hp}{Q:Unit->yH->Prop}(hu:A.units+1<cLine)(I:Inv X Fq σ H s)(g:KG H a y v H')(ry:HN y u)(rv:HN v r)(h:∀s',Inv X Fq σ H' s'->Q () s') :
  wpAny (model X.prog X.w) A (setItem (.ref a) u r) Q E s:=by
 rcases g with⟨kvs,k,e,ey,l,eH⟩|⟨kvs,k,b,e,ey,eb,l,eH⟩
 ·subst ey eH
  obtain⟨z,hd,vs,rel,dd⟩:=kL I.hok e
  have hz:vs.length<=sizeLine:=by rw[<-rel.length];exact z
  have hl:(KI kvs k v).length<=sizeLine:=by have:=vW kvs k v;lia
  refine wpAny_setItem_pairs (hsz:=hz) (M6 ry) dd λh' dd' hs=>h _ ?_
  have he:∃q,h'.get? a=some q:=let ⟨q,_,_,hq,_⟩:=dd';⟨q,hq⟩
  exact Ux I (by rw[e];exact True.intro) hs he (kK hl hd (rel.put k rv) dd')
 ·subst ey eH
  cases(show u=Value.ref b from ry)
  obtain⟨z,hd,xs,rel,dd⟩:=Xq I.hok e
  have hz:xs.length<=sizeLine:=by rw[<-AM rel];exact z
  have hl:(KI kvs k v).length<=sizeLine:=by have:=vW kvs k v;lia
  refine wpAny_setItem_heap (hsz:=hz) (Ek hu) (XD I.hok eb) dd λh' dd' hs=>h _ ?_
  obtain⟨q,es,ep,hq,h2,h3,h4,_,h5⟩:=dd'
  refine Ux I (by rw[e];exact True.intro) hs ⟨q,hq⟩ ⟨hl,hd,_,(rel.put k eb rv).keeps λc ys ec=>?_,q,es,ep,hq,h2,h3,h4,h5⟩
  rw[Hw (Jw ec e (λz=>nomatch z))]
  exact ec
end
noncomputable def T7(i:Expr):Prop:=∀ov iv,subscripted i false ov iv=operate [ov,iv] (getItem ov iv)
theorem Z4{prog:yL}{w:yM}{A:Around}{E:xZ}{s:yH}{env:Env}{value slice:Expr}{pos:Pos}{T id:String}{Q:xZ}
  (hl:typeLookup (.type T) "__getitem__" = pure (some (.builtin id))) (hs:T7 slice)
  (h:wpAny (model prog w) A (eval value env) (λo s₁=>wpAny (model prog w) A (eval slice env) (λi s₂=>s₂.TypeIs o T/\wpAny (model prog w) A (getItem o i) Q E s₂) E s₁) E s) :
  wpAny (model prog w) A (eval (.Subscript value slice pos) env) Q E s:=by
 refine Subscript_ (B8 h (λo s₁ h₁=>B8 h₁ (λi s₂ h₂=>?_) λ_ _ x=>x) λ_ _ x=>x)
 obtain⟨hT,h₂⟩:=h₂
 unfold subscriptTail
 refine AA ?_
 rw[getitemInPython_of_ne hT.not_modules]
 refine AA (wpAny_specialOf hT hl ?_)
 have fin:wpAny (model prog w) A (subscripted slice false o i) (λr s₃=>wpAny (model prog w) A (letTemporaryGo value o r>>=λ_=>pure r) Q E s₃) E s₂:=by
  rw[hs o i]
  exact wpAny_operating (B8 h₂ (λr s₃ h₃=>AA (wpAny_letTemporaryGo (AK h₃))) λ_ _ x=>x)
 first
  |exact AK (AA fin)
  |exact AA (AK (AA fin))
  |exact AA fin
theorem aQ{X:Cx}{Fq:yA}{σ:St}{H:Hp}{s:yH}{a:yJ}{y:V}{o:Option V}(I:Inv X Fq σ H s)(g:JH H a y o):s.TypeIs (.ref a) "dict" := by
 rcases g with⟨kvs,k,e,_,_⟩|⟨kvs,k,b,e,_,_,_⟩
 ·obtain⟨_,_,vs,_,dd⟩:=UV I.hok e
  exact dd.typeIs
 ·obtain⟨_,_,xs,_,dd⟩:=UF I.hok e
  exact dd.typeIs
noncomputable def pA(td ty:TE):TE:=λσ H Q=>td σ H λx H1=>ty σ H1 λy H2=>∃a v,x=.ref a/\JH H2 a y (some v)/\Q v H2
noncomputable def iQ(td ty tv:TE):TS:=λD σ H=>tv σ H λv H1=>td σ H1 λx H2=>ty σ H2 λy H3=>∃a H4,x=.ref a/\KG H3 a y v H4/\D.nx σ H4
section
variable{X:Cx}{o i e value:Expr}{pos pos' tpos:Pos}{td ty tv:TE}
theorem RY(hu:X.A.units+1<cLine)(ho:PE X o td)(hi:PE X i ty)(hs:T7 i):PE X (.Subscript o i pos) (pA td ty):=by
 intro Fq s σ H Q I h
 refine Z4 PySem.F.slot_dict_getitem.lookup hs (Hk (ho Fq s σ H _ I h) λu s1 ⟨x,H1,I1,rx,q1⟩=>Hk (hi Fq s1 σ H1 _ I1 q1) λiv s2 ⟨y,H2,I2,ry,a,v,ex,g,q2⟩=>?_)
 subst ex
 obtain rfl:u=Value.ref a:=rx
 exact⟨aQ I2 g,nI hu I2 g ry λw' s3 I3 rw'=>⟨v,H2,I3,rw',q2⟩⟩
theorem OV(hu:X.A.units+1<cLine)(ho:PE X o td)(hi:PE X i ty)(hv:PE X value tv)(hs:swapsWith value (some (.Subscript o i pos')) pos.line X.env=pure false) :
  PS X (.Assign [.Subscript o i pos'] value pos) (iQ td ty tv):=by
 intro Fq s σ H D I h
 refine wpAny_Assign_Subscript (Hk (hv Fq s σ H _ I h) λr s1 ⟨v,H1,I1,rv,q1⟩=>Hk (ho Fq s1 σ H1 _ I1 q1) λu s2 ⟨x,H2,I2,rx,q2⟩=>Hk (hi Fq s2 σ H2 _ I2 q2) λiv s3 ⟨y,H3,I3,ry,a,H4,ex,g,q3⟩=>?_) hs
 subst ex
 obtain rfl:u=Value.ref a:=rx
 exact Yi hu I3 g ry rv λs4 I4=>⟨σ,H4,I4,q3⟩
end
theorem fY{P:yL}{w:yM}{H:Hp}(h:Heap)(hb:sysModules<h.objs.size):Hg P w H (h.push { cls:=.type "dict",data:=.dict #[] }) h.objs.size (.dT []) :=
 ⟨Az _,beq_eq_false_iff_ne.mpr (C3 (Au hb)),[],.nil,_,#[],0,AW _ rfl,⟨rfl,rfl,rfl⟩,rfl,rfl,List.nodup_nil⟩
noncomputable def nO:TE:=λ_ H Q=>∀p,H p=none->Q (.ref p) (HV H p (.dT []))
section
variable{X:Cx}{pos:Pos}
theorem jO:PE X (.Dict [] [] pos) nO:=λFq s σ H Q I h =>
 wpAny_Dict_empty ⟨.ref s.heap.objs.size,_,I.laid (a:=s.heap.objs.size) (o:=.dT []) (t':=s.toks) (λ_ _ q=>AC _ q) (AH _) (fY s.heap I.big),rfl,h _ (I.hok.fresh (AH _))⟩
end
noncomputable def aP(kvs more:List (IB×V)):List (IB×V):=more.foldl (λacc kv=>KI acc kv.1 kv.2) kvs
theorem KV.merge:∀{more:List (IB×V)}{rs:List (IB×yI)}{kvs:List (IB×V)}{vs:List (IB×yI)},KV more rs->KV kvs vs->KV (aP kvs more) (merged vs rs):=by
 intro more rs kvs vs r
 unfold KV at r
 induction r generalizing kvs vs with
 |nil=>intro q;exact q
 |@cons p q ps qs h t ih =>
  intro r0
  have e:KV (KI kvs p.1 p.2) (stored vs q.1 q.2):=by
   have:=r0.put p.1 h.2
   rw[<-h.1];exact this
  exact ih e
structure M1(X:Cx)(o:Expr)(m:Str)(apos:Pos)(e:Expr)(cpos:Pos):Prop where
 base:attributeBase o m X.env (eval o X.env)=eval o X.env
 few:((backTo cpos (starEach [e] X.env)).all (λx=>!x.1)&&(backToKw cpos (keywordEach [] X.env)).all (λx=>x.1.isSome)
  && decide (([e]:yE).length+([]:List Keyword).length+(if ([]:List Keyword).isEmpty then 0 else 1)<30))=true
 line:(apos.endLine==cpos.line)=true
 trees:backTo cpos (starEach [e] X.env)=[(false,eval e X.env)]
structure M2(X:Cx)(o:Expr)(m:Str)(apos:Pos)(e f:Expr)(cpos:Pos):Prop where
 base:attributeBase o m X.env (eval o X.env)=eval o X.env
 few:((backTo cpos (starEach [e,f] X.env)).all (λx=>!x.1)&&(backToKw cpos (keywordEach [] X.env)).all (λx=>x.1.isSome)
  && decide (([e,f]:yE).length+([]:List Keyword).length+(if ([]:List Keyword).isEmpty then 0 else 1)<30))=true
 line:(apos.endLine==cpos.line)=true
 trees:backTo cpos (starEach [e,f] X.env)=[(false,eval e X.env),(false,eval f X.env)]
noncomputable def uV(H:Hp)(a:yJ):Prop:=(∃kvs,Rd H a (.dK kvs))∨∃kvs,Rd H a (.dT kvs)
theorem rH{X:Cx}{Fq:yA}{σ:St}{H:Hp}{s:yH}{a:yJ}(I:Inv X Fq σ H s)(d:uV H a) :
  s.TypeIs (.ref a) "dict" /\ (∀b,Value.ref a=.ref b->∃ob,s.heap.get? b=some ob/\ob.dict=none)/\(a==sysModules)=false:=by
 rcases d with⟨kvs,e⟩|⟨kvs,e⟩
 ·obtain⟨_,hd,vs,_,dd⟩:=UV I.hok e
  refine⟨dd.typeIs,λb q=>?_,hd⟩
  cases q
  obtain⟨ob,_,_,h1,h2,_⟩:=dd
  exact⟨ob,h1,h2.2.1⟩
 ·obtain⟨_,hd,xs,_,dd⟩:=UF I.hok e
  refine⟨dd.typeIs,λb q=>?_,hd⟩
  cases q
  obtain⟨ob,_,_,h1,h2,_⟩:=dd
  exact⟨ob,h1,h2.2.1⟩
section
variable{X:Cx}{Fq:yA}{σ:St}{H:Hp}{s:yH}{a:yJ}{y d:V}{u r:yI}{o:Option V}{A:Around}{E:xZ}
theorem Xp{Q:xZ}(hu:A.units+1<cLine)(I:Inv X Fq σ H s)(g:JH H a y o)(ry:HN y u)(rd:HN d r)(h:∀w' s',Inv X Fq σ H s'->HN (o.getD d) w'->Q w' s') :
  wpAny (model X.prog X.w) A (call (.builtin "dict.get") [.ref a,u,r]) Q E s:=by
 rcases g with⟨kvs,k,e,ey,l⟩|⟨kvs,k,b,e,ey,eb,l⟩
 ·subst ey
  obtain⟨z,hd,vs,rel,dd⟩:=UV I.hok e
  refine call_meetsIn EM dd.typeIs Fj (FP _ _ _) (meets_dict_get_default (KU X.prog X.w) a (M6 ry) hd r) ⟨_,dd.mapOf,h _ _ (I.tok _) ?_⟩
  rw[l]
  exact(rel.val k).getD rd
 ·subst ey
  cases(show u=Value.ref b from ry)
  obtain⟨z,hd,xs,rel,dd⟩:=UF I.hok e
  refine call_meetsIn EM dd.typeIs Fj (FP _ _ _) (meetsH_dict_get_default (tupleKind (KU X.prog X.w)) a b hd r) ⟨Ek hu,k,xs,XD I.hok eb,dd,h _ _ (I.tok _) ?_⟩
  rw[l]
  exact(rel.val k).getD rd
end
noncomputable def jX(td ty tx:TE):TE:=λσ H Q=>td σ H λx H1=>∃a,x=.ref a/\uV H1 a/\ty σ H1 λy H2=>tx σ H2 λz H3=>∃o,JH H3 a y o/\Q (o.getD z) H3
section
variable{X:Cx}{o e f:Expr}{apos cpos:Pos}{td ty tx:TE}
theorem Sf(hu:X.A.units+1<cLine)(ho:PE X o td)(he:PE X e ty)(hf:PE X f tx)(m:M2 X o "get" apos e f cpos):PE X (.Call (.Attribute o "get" apos) [e,f] [] cpos) (jX td ty tx):=by
 intro Fq s σ H Q I h
 refine wpAny_Call_method m.base m.few m.line PySem.F.plainAttrs_dict EM PySem.F.type_dict_get (Hk (ho Fq s σ H _ I h) λu s1 ⟨x,H1,I1,rx,a,ex,d,q1⟩=>?_)
 subst ex
 obtain rfl:u=Value.ref a:=rx
 obtain⟨t1,t2,_⟩:=rH I1 d
 refine⟨t1,t2,?_⟩
 rw[m.trees]
 refine EA rfl (EQ (Dr (Hk (he Fq s1 σ H1 _ I1 q1) λiv s2 ⟨y,H2,I2,ry,q2⟩ =>
  Dr (Hk (hf Fq s2 σ H2 _ I2 q2) λfv s3 ⟨z,H3,I3,rz,ov,g,q3⟩=>Calls.spliced_nil ?_))))
 exact Xp hu I3 g ry rz λw' s4 I4 rw'=>⟨_,H3,I4,rw',q3⟩
end
end L2
namespace L2.Ev
open PySem PySem.Spec PyProof.Rows
section
theorem vV(a b:Int):Builtin.Range.rangeSize a b (-1)=if b<a then a-b else 0:=by
 unfold Builtin.Range.rangeSize
 rw[AD (by decide)]
 by_cases h:a>b
 ·rw[AF h,AF (show b<a from h)]
  have e:-(-1:Int)=1:=rfl
  rw[e,Int.ediv_one]
  lia
 ·rw[AD h,AD (show ¬ b<a from h)]
theorem dM{a b:Int}(ha:-(2^62)<=a)(ha':a<2^62)(hb:-(2^62)<=b)(hb':b<2^62):Builtin.Range.small a b (-1)=true:=by
 unfold Builtin.Range.small
 rw[vV]
 simp only[Builtin.Range.rangeFitsLong,AI,DT,AQ,beq_iff_eq,show ¬ ((-1:Int)>0) by decide,B3]
 split<;>lia
noncomputable def QZ(hi:Int)(n:Nat):It:=⟨λi _=>i<n,λi H x H'=>H'=H/\x=.int (hi-i),λi _=>n<=i⟩
theorem ZQ{P:yL}{w:yM}{K:yG}{tg:Expr}(it:yJ)(hi:Int)(n:Nat):KY P w K tg (QZ hi n) [it] it (λi h=>IsRangeIter h it (hi+(i:Nat)*(-1)) ((n:Int)-(i:Nat)) (-1)) where
 mem:=by simp
 obj:=λi h st b hb=>by
  have e:b=it:=by simpa using hb
  subst e
  exact⟨_,st,λv z=>by
   have z':Data.fields _=Data.cell v:=z
   cases z'⟩
 keep:=λi h h' st k=>k it (by simp) _ st
 item:=by
  intro X hP hw hK hc i Fq s σ H E I hf st hg
  subst hP hw hK
  obtain⟨f0,f1,f2,f3,f4,f5⟩:=hf it (by simp)
  have W:=Walks.range (prog:=X.prog) (w:=X.w) (I.ok.hd hc) it hi (-1) n
  refine W.item i s _ _ hg st λv h' tk hv st' kk=>?_
  obtain⟨t,rfl⟩:=hv
  have I1:Inv X Fq σ H { s with heap:=h',toks:=tk }:=I.turned (λb o hb e=>kk b o (by simpa using hb) e) f0 f1 f3 f4 f5
  refine⟨_,rfl,Tf (s:={ s with heap:=h',toks:=tk }) (n := "range_iterator") st' rfl rfl (by decide) ⟨.int (hi-i),H,I1,⟨t,?_⟩,⟨rfl,rfl⟩,st',λb hb=>(hf b hb).1⟩⟩
  have e:hi+(i:Int)*(-1)=hi-(i:Int):=by lia
  rw[e]
 done:=by
  intro X hP hw hK hc i Fq s σ H E I hf st hg
  subst hP hw hK
  obtain⟨f0,f1,f2,f3,f4,f5⟩:=hf it (by simp)
  exact Fn (I.ok.hd hc) st (by have:n<=i:=hg;lia) λh' eb=>⟨rfl,I.turned (t':=s.toks) (λb o hb e=>eb b o hb e) f0 f1 f3 f4 f5⟩
 self:=λ_ _ _ _ _ st h=>Fo st h
section
variable{X:Cx}{tg:Expr}
theorem oG{Fq:yA}{σ:St}{H:Hp}{s:yH}{R:It->Hp->Prop}{E:xZ}{hi lo:Int}{t u v:Tok}{tk:Nat}(I:Inv X Fq σ H s)(h1:-(2^62)<=hi)(h2:hi<2^62)(h3:-(2^62)<=lo)(h4:lo<2^62)
  (q:R (QZ hi (hi-lo).toNat) H):wpAny (model X.prog X.w) X.A (pyIter (.ref s.heap.objs.size)) (Zw X Fq σ tg R) E { s with heap:=s.heap.push { cls:=.type "range",data:=.fields #[.int hi t,.int lo u,.int (-1) v] },toks:=tk }:=by
 refine wpAny_pyIter_range (IsRange.new ..) (dM h1 h2 h3 h4) ?_
 have I1:Inv X Fq σ H { s with heap:=s.heap.push { cls:=.type "range",data:=.fields #[.int hi t,.int lo u,.int (-1) v] },toks:=tk }:=I.kept λb o e=>AC _ e
 refine⟨(s.heap.push { cls:=.type "range",data:=.fields #[.int hi t,.int lo u,.int (-1) v] }).objs.size,[(s.heap.push { cls:=.type "range",data:=.fields #[.int hi t,.int lo u,.int (-1) v] }).objs.size],_,_,H,rfl,
  I1.kept (t':=tk) λb o e=>AC _ e,ZQ _ hi (hi-lo).toNat,?_,λb hb=>?_,q⟩
 ·have e1:hi+((0:Nat):Int)*(-1)=hi:=by simp
  have e2:(((hi-lo).toNat:Nat):Int)-((0:Nat):Int)=Builtin.Range.rangeSize hi lo (-1):=by rw[vV];split<;>lia
  show IsRangeIter _ _ (hi+((0:Nat):Int)*(-1)) ((((hi-lo).toNat:Nat):Int)-((0:Nat):Int)) (-1)
  rw[e1,e2]
  exact AW _ rfl
 ·have e:b=(s.heap.push { cls:=.type "range",data:=.fields #[.int hi t,.int lo u,.int (-1) v] }).objs.size:=by simpa using hb
  subst e
  exact I1.fpOk (AH _) (I1.hok.fresh (AH _))
noncomputable def Z9(ta:TA):TI:=λσ H R=>ta σ H λvs H1=>∃i j:Int,vs=[.int i,.int j,.int (-1)]/\(-(2^62)<=i/\i<2^62/\-(2^62)<=j/\j<2^62)/\R (QZ i (i-j).toNat) H1
theorem Ut{a b c:Expr}{ta:TA}{p pos:Pos}(hg:Gl X "range")(hm:X.mg "range" = none)(ha:PA X [a,b,c] ta)(hs:starEach [a,b,c] X.env=(false,eval a X.env)::starEach [b,c] X.env:=by rfl)(hs2:(backTo pos (starEach [b,c] X.env)).any (·.1)=false:=by rfl) :
  PI X tg (.Call (.Name "range" p) [a,b,c] [] pos) (Z9 ta):=by
 intro Fq s σ H R I h
 refine Call_ (Ks I hg hm boot_range (BY (Hk (ha pos Fq s σ H _ I h) λus s1 ⟨vs,H1,I1,r1,q1⟩=>?_) hs hs2))
 obtain⟨i,j,e,⟨q1,q2,q3,q4⟩,q⟩:=q1
 subst e
 cases r1 with
 |cons r rr =>
  cases rr with
  |cons r' rr =>
   cases rr with
   |cons r'' rr =>
    cases rr
    obtain⟨t,rfl⟩:=r
    obtain⟨t',rfl⟩:=r'
    obtain⟨t'',rfl⟩:=r''
    exact call_range_3 (by decide) (oG I1 q1 q2 q3 q4 q) (Or.inl (Fg (by decide)))
end
theorem R6{hi:Int}{n:Nat}{g:TG}{tb:TS}{D:Jx}{σ:St}{H:Hp}(Pv:Nat->St->Hp->Prop)(h0:Pv 0 σ H)
  (hs:∀i σ H,i<n->Pv i σ H->g (.int (hi-i)) σ H λσ2 H2=>tb { D with nx:=Pv (i+1),ct:=Pv (i+1),bk:=D.nx } σ2 H2) (hd:∀σ H,Pv n σ H->D.nx σ H) :
  ∃W:Nat->Nat->St->Hp->Prop,(∃m,W 0 m σ H)/\∀i m σ H,W i m σ H ->
   ((QZ hi n).stop i H/\D.nx σ H)∨((QZ hi n).go i H/\∃N:St->Hp->Prop,(∀σ' H',N σ' H'->∃m',m'<m/\W (i+1) m' σ' H')/\∀x H',(QZ hi n).yld i H x H'->g x σ H' λσ2 H2=>tb { D with nx:=N,ct:=N,bk:=D.nx } σ2 H2):=by
 refine⟨λi m σ H=>m=n-i/\i<=n/\Pv i σ H,⟨n,by simp,Az _,h0⟩,?_⟩
 rintro i m σ H ⟨rfl,hi,p⟩
 by_cases hlt:i<n
 ·refine .inr ⟨hlt,Pv (i+1),λσ' H' p'=>⟨n-(i+1),by lia,rfl,hlt,p'⟩,λx H' y=>?_⟩
  obtain⟨e,y⟩:=y
  subst e y
  exact hs i σ _ hlt p
 ·have e:i=n:=by lia
  subst e
  exact .inl ⟨AH _,hd σ H p⟩
section
variable{X:Cx}
theorem QU:IF X (.builtin "isinstance") (λxs H Q=>∃x t T b,xs=[x,.ty T]/\Ib X.K H x t/\W.kitOne X.K t (.type T)=some b/\Q (.bl b) H):=by
 intro Fq s σ H xs us Q I r h
 obtain⟨x,t,T,b,rfl,ty,e,q⟩:=h
 obtain⟨u,v,rfl,r1,r2⟩:=MF r
 obtain rfl:v=Value.type T:=r2
 exact lH I r1 ty e λtk=>⟨.bl b,H,I.tok tk,rfl,q⟩
theorem kT{t:yJ}{vs:xY}{ns:xX}{s:yH}{prog:yL}{w:yM}{A:Around}{E:xZ}{Q:xZ}(hh:A.handled=none)(hl:s.heap.IsTuple t vs.toArray)(hi:IntsAre vs ns)
  (h:∀h' tk t',(∀b o,s.heap.get? b=some o->h'.get? b=some o)->Q (.int ns.sum t') { s with heap:=h',toks:=tk }) :
  wpAny (model prog w) A (call (.builtin "sum") [.ref t]) Q E s:=by
 obtain⟨xs,hx⟩:=hi.allInts.items
 have hn:numsOf vs.toArray.toList=ns:=by rw[show vs.toArray.toList=vs from rfl,hi.numsOf]
 rw[hx]at hl hn
 rw[EG]at hn
 refine W.ktm_sumG hh hl λh' tk t' hk=>?_
 have:=h h' tk t' hk
 rw[preSum_eq,Ab (by simp),hn]
 exact this
theorem iH(hc:X.calm=true):IF X (.builtin "sum") (λxs H Q=>∃(p:yJ)(ns:xX),xs=[.ref p]/\HM X.K H p (ns.map V.int)/\Q (.int ns.sum) H):=by
 intro Fq s σ H xs us Q I r h
 obtain⟨p,ns,rfl,hq,q⟩:=h
 obtain⟨u,rfl,ru⟩:=KN r
 cases ru
 obtain⟨its,rv,ht,_⟩:=I.tuple hq
 exact kT (I.ok.hd hc) (show s.heap.IsTuple p its.toArray from ht) (J3 rv) λh' tk t' hk=>⟨.int ns.sum,H,I.kept (t':=tk) hk,⟨t',rfl⟩,q⟩
end
noncomputable def Hb(H H':Hp):Prop:=∀p xs,H p=some (.tup xs)->H' p=some (.tup xs)
theorem Hb.refl(H:Hp):Hb H H:=λ_ _ h=>h
theorem Hb.trans{H H1 H2:Hp}(a:Hb H H1)(b:Hb H1 H2):Hb H H2:=λp xs h=>b p xs (a p xs h)
theorem Hb.same{H H':Hp}(a:Gp H H'):Hb H H':=λp xs h=>a p _ h
class Dat (α:Type) where
 is:Hp->V->α->Prop
 mono:∀{H H':Hp}{v:V}{a:α},Hb H H'->is H v a->is H' v a
 inj:∀{H:Hp}{v:V}{a b:α},is H v a->is H v b->a=b
 dep:Nat
 eqb:α->α->Bool
 eqb_iff:∀a b,eqb a b=true↔a=b
 eqAt:∀{X:Cx}{Fq:yA}{σ:St}{H:Hp}{s:yH}{A:Around}{v v':V}{u u':yI}{a b:α},Inv X Fq σ H s->A.units+dep<cLine->is H v a->is H v' b->HN v u->HN v' u'->SeqAt.EqAt A s u u' (eqb a b)
instance:Dat Int where
 is:=λ_ v n=>v=.int n
 mono:=λ_ h=>h
 inj:=λh h'=>by rw[h]at h';cases h';rfl
 dep:=0
 eqb:=λa b=>a==b
 eqb_iff:=λa b=>by simp
 eqAt:=λI hu h h' r r'=>by
  subst h h'
  obtain⟨t,rfl⟩:=r
  obtain⟨t',rfl⟩:=r'
  exact Ds _ _ _ _
theorem Paired.get{α β:Type}{F:α->β->Prop}:∀{l:List α}{m:List β}(r:Paired F l m){i:Nat}{a:α},l[i]?=some a->∃b,m[i]?=some b/\F a b
 |_,_,.nil,_,_,e=>by simp at e
 |_,_,.cons r t,0,_,e=>by simp at e;subst e;exact⟨_,rfl,r⟩
 |_,_,.cons r t,i+1,a,e=>by
  obtain⟨b,h1,h2⟩:=Paired.get t (i:=i) (a:=a) (by simpa using e)
  exact⟨b,by simpa using h1,h2⟩
theorem Paired.getR{α β:Type}{F:α->β->Prop}:∀{l:List α}{m:List β}(r:Paired F l m){i:Nat}{b:β},m[i]?=some b->∃a,l[i]?=some a/\F a b
 |_,_,.nil,_,_,e=>by simp at e
 |_,_,.cons r t,0,_,e=>by simp at e;subst e;exact⟨_,rfl,r⟩
 |_,_,.cons r t,i+1,b,e=>by
  obtain⟨a,h1,h2⟩:=Paired.getR t (i:=i) (b:=b) (by simpa using e)
  exact⟨a,by simpa using h1,h2⟩
theorem Paired.injR{α β:Type}{F:α->β->Prop}(hf:∀a b b',F a b->F a b'->b=b'):∀{l:List α}{m m':List β},Paired F l m->Paired F l m'->m=m'
 |_,_,_,.nil,.nil=>rfl
 |_,_,_,.cons r t,.cons r' t'=>by rw[hf _ _ _ r r',Paired.injR hf t t']
theorem Paired.app{α β:Type}{F:α->β->Prop}:∀{l l':List α}{m m':List β},Paired F l m->Paired F l' m'->Paired F (l++l') (m++m')
 |_,_,_,_,.nil,h=>h
 |_,_,_,_,.cons r t,h=>.cons r (Paired.app t h)
noncomputable def Jo{α:Type}(e:α->α->Bool):List α->List α->Bool
 |[],[]=>true
 |a::l,b::m=>e a b&&Jo e l m
 |_,_=>false
theorem QV{α:Type}{e:α->α->Bool}(h:∀a b,e a b=true↔a=b):∀l m,Jo e l m=true↔l=m
 |[],[]=>by simp [Jo]
 |[],_::_=>by simp [Jo]
 |_::_,[]=>by simp [Jo]
 |a::l,b::m=>by simp [Jo,h a b,QV h l m]
noncomputable def LL{α:Type}(e:α->α->Bool)(l m:List α)(j:Nat):Bool:=match l[j]?,m[j]? with
 |some a,some b=>e a b
 |_,_=>false
theorem UD{α:Type}(e:α->α->Bool):∀l m:List α,((List.range (min l.length m.length)).all (LL e l m)&&l.length==m.length)=Jo e l m
 |[],[]=>by simp [Jo]
 |[],_::_=>by simp [Jo]
 |_::_,[]=>by simp [Jo]
 |a::l,b::m=>by
  have ih:=UD e l m
  show((List.range (min (l.length+1) (m.length+1))).all (LL e (a::l) (b::m))&&(l.length+1==m.length+1))=(e a b&&Jo e l m)
  rw[<-ih,Nat.add_min_add_right,CT,DB,Du]
  have e0:LL e (a::l) (b::m) 0=e a b:=rfl
  have e1:(LL e (a::l) (b::m) ∘ Nat.succ)=LL e l m:=by funext j;rfl
  have e2:(l.length+1==m.length+1)=(l.length==m.length):=by simp
  rw[e0,e1,e2,Bool.and_assoc]
section
variable{α:Type}[D:Dat α]
noncomputable abbrev Hr(H:Hp)(vs:List V)(l:List α):Prop:=Paired (λv a=>D.is H v a) vs l
theorem Hr.mono{H H':Hp}{vs:List V}{l:List α}(t:Hb H H')(h:Hr H vs l):Hr H' vs l:=Cs (λ_ _ q=>D.mono t q) h
theorem Hr.inj{H:Hp}{vs:List V}{l m:List α}(h:Hr H vs l)(h':Hr H vs m):l=m:=Paired.injR (F:=λv a=>D.is H v a) (λ_ _ _ q q'=>D.inj q q') h h'
theorem Te{X:Cx}{Fq:yA}{σ:St}{H:Hp}{s:yH}{A:Around}{vs vs':List V}{its its':xY}{l m:List α}(I:Inv X Fq σ H s)(hu:A.units+D.dep<cLine)(h:Hr H vs l)(h':Hr H vs' m)(r:HS vs its)(r':HS vs' its') :
  ∀j (h1:j<its.toArray.size) (h2:j<its'.toArray.size),SeqAt.EqAt A s its.toArray[j] its'.toArray[j] (LL D.eqb l m j):=by
 intro j h1 h2
 have l1:=r.length
 have l2:=r'.length
 have k1:j<its.length:=by simpa using h1
 have k2:j<its'.length:=by simpa using h2
 have g1:vs[j]?=some vs[j]:=AL (by lia)
 have g2:vs'[j]?=some vs'[j]:=AL (by lia)
 obtain⟨u,e1,ru⟩:=r.get g1
 obtain⟨u',e2,ru'⟩:=r'.get g2
 obtain⟨a,f1,ra⟩:=Paired.get h g1
 obtain⟨b,f2,rb⟩:=Paired.get h' g2
 have q1:its.toArray[j]=u:=by
  have:its[j]=u:=by rw[AL k1]at e1;exact Aq e1
  simpa using this
 have q2:its'.toArray[j]=u':=by
  have:its'[j]=u':=by rw[AL k2]at e2;exact Aq e2
  simpa using this
 have q3:LL D.eqb l m j=D.eqb a b:=by unfold LL;rw[f1,f2]
 rw[q1,q2,q3]
 exact D.eqAt I hu ra rb ru ru'
instance W4:Dat (List α) where
 is:=λH v l=>∃p vs,v=.ref p/\H p=some (.tup vs)/\Hr H vs l
 mono:=λt ⟨p,vs,e,h,i⟩=>⟨p,vs,e,t p vs h,Hr.mono t i⟩
 inj:=λ⟨p,vs,e,h,i⟩ ⟨p',vs',e',h',i'⟩=>by
  subst e
  cases e'
  rw[h]at h'
  cases h'
  exact Hr.inj i i'
 dep:=D.dep+1
 eqb:=Jo D.eqb
 eqb_iff:=QV D.eqb_iff
 eqAt:=λ{X Fq σ H s A v v' u u' l m} I hu h h' r r'=>by
  obtain⟨p,vs,rfl,h,i⟩:=h
  obtain⟨p',vs',rfl,h',i'⟩:=h'
  cases r
  cases r'
  by_cases e:p=p'
  ·subst e
   rw[h]at h'
   cases h'
   have q:l=m:=Hr.inj i i'
   rw[(QV D.eqb_iff l m).mpr q]
   exact Fa _
  ·obtain⟨its,rv,ht,_⟩:=I.tuple (HM.of h)
   obtain⟨its',rv',ht',_⟩:=I.tuple (HM.of h')
   have hl:its.toArray.size=l.length:=by have:=rv.length;have:=AM i;simp;lia
   have hm:its'.toArray.size=m.length:=by have:=rv'.length;have:=AM i';simp;lia
   have q:=Es (A:=A) (s:=s) (e:=LL D.eqb l m) (show s.heap.IsTuple p its.toArray from ht) (show s.heap.IsTuple p' its'.toArray from ht') (by lia)
    (Te I (A:=A.in1) (by show A.units+1+D.dep<cLine;lia) i i' rv rv')
   rw[hl,hm,UD]at q
   exact SeqAt.EqAt.of_refs e q
noncomputable def Gg(H:Hp)(a:yJ)(l:List α):Prop:=∃vs,H a=some (.lst vs)/\Hr H vs l
theorem Gg.mono{H H':Hp}{a:yJ}{l:List α}(e:Gp H H')(h:Gg H a l):Gg H' a l:=by
 obtain⟨vs,q,i⟩:=h
 exact⟨vs,e _ _ q,Hr.mono (Hb.same e) i⟩
end
section
variable{α β:Type}[D:Dat α][D2:Dat β]
instance XC:Dat (α×β) where
 is:=λH v x=>∃p a b,v=.ref p/\H p=some (.tup [a,b])/\D.is H a x.1/\D2.is H b x.2
 mono:=λt ⟨p,a,b,e,h,i,j⟩=>⟨p,a,b,e,t _ _ h,D.mono t i,D2.mono t j⟩
 inj:=λ⟨p,a,b,e,h,i,j⟩ ⟨p',a',b',e',h',i',j'⟩=>by
  subst e
  cases e'
  rw[h]at h'
  cases h'
  exact EH (D.inj i i') (D2.inj j j')
 dep:=max D.dep D2.dep+1
 eqb:=λx y=>D.eqb x.1 y.1&&D2.eqb x.2 y.2
 eqb_iff:=λx y=>by rw[AI,D.eqb_iff,D2.eqb_iff,Prod.ext_iff]
 eqAt:=λ{X Fq σ H s A v v' u u' l m} I hu h h' r r'=>by
  obtain⟨p,a,b,rfl,h,i,j⟩:=h
  obtain⟨p',a',b',rfl,h',i',j'⟩:=h'
  cases r
  cases r'
  by_cases e:p=p'
  ·subst e
   rw[h]at h'
   cases h'
   rw[(D.eqb_iff _ _).mpr (D.inj i i'),(D2.eqb_iff _ _).mpr (D2.inj j j')]
   exact Fa _
  ·obtain⟨its,rv,ht,_⟩:=I.tuple (HM.of h)
   obtain⟨its',rv',ht',_⟩:=I.tuple (HM.of h')
   obtain⟨w1,w2,rfl,r1,r2⟩:=MF rv
   obtain⟨z1,z2,rfl,t1,t2⟩:=MF rv'
   have q:=Es (A:=A) (s:=s) (e:=λk=>if k=0 then D.eqb l.1 m.1 else D2.eqb l.2 m.2) (show s.heap.IsTuple p _ from ht) (show s.heap.IsTuple p' _ from ht') (by lia)
    (λk h1 h2=>by
     have hk:k=0∨k=1:=by
      have:k<2:=h1
      lia
     rcases hk with rfl|rfl
     ·exact D.eqAt (A:=A.in1) I (by show A.units+1+D.dep<cLine;lia) i i' r1 t1
     ·exact D2.eqAt (A:=A.in1) I (by show A.units+1+D2.dep<cLine;lia) j j' r2 t2)
   have e2:((List.range (min [w1,w2].toArray.size [z1,z2].toArray.size)).all (λk=>if k=0 then D.eqb l.1 m.1 else D2.eqb l.2 m.2)&&[w1,w2].toArray.size==[z1,z2].toArray.size)=(D.eqb l.1 m.1&&D2.eqb l.2 m.2):=by
    simp [CH]
   rw[e2]at q
   exact SeqAt.EqAt.of_refs e q
end
section
variable{X:Cx}{α:Type}[D:Dat α]
theorem Zs{Fq:yA}{σ:St}{H:Hp}{s:yH}{A:Around}{a b:yJ}{l m:List α}(I:Inv X Fq σ H s)(hu:A.units+(D.dep+1)<cLine)(ha:Gg H a l)(hb:Gg H b m) :
  SeqAt.RcAt A s (.ref a) (.ref b) (Jo D.eqb l m):=by
 obtain⟨vs,ha,i⟩:=ha
 obtain⟨vs',hb,i'⟩:=hb
 obtain⟨its,rv,ht,_⟩:=I.list (HU.of ha)
 obtain⟨its',rv',ht',_⟩:=I.list (HU.of hb)
 have hl:its.toArray.size=l.length:=by have:=rv.length;have:=AM i;simp;lia
 have hm:its'.toArray.size=m.length:=by have:=rv'.length;have:=AM i';simp;lia
 have all:=UD D.eqb l m
 by_cases e:l.length=m.length
 ·have q:=SeqAt.RcAt.lists (A:=A) (s:=s) (e:=LL D.eqb l m) ht.isList ht'.isList (by lia) (by lia) (Te I (A:=A.in1) (by show A.units+1+D.dep<cLine;lia) i i' rv rv')
  rw[hl]at q
  rw[e,E5,CY,Bool.and_true,<-e]at all
  rw[all]at q
  exact q
 ·have q:=SeqAt.RcAt.lists_lengths (A:=A) (s:=s) ht.isList ht'.isList (by rw[hl,hm];simpa using e) (by lia)
  rw[show(l.length==m.length)=false by simpa using e,Fw]at all
  rw[<-all]
  exact q
theorem pS{Fq:yA}{σ:St}{H:Hp}{s:yH}{A:Around}{a b:yJ}{l m:List α}(I:Inv X Fq σ H s)(hu:A.units+(D.dep+1)<cLine)(ha:Gg H a l)(hb:Gg H b m) :
  SeqAt.RcNeAt A s (.ref a) (.ref b) (!Jo D.eqb l m):=by
 obtain⟨vs,ha,i⟩:=ha
 obtain⟨vs',hb,i'⟩:=hb
 obtain⟨its,rv,ht,_⟩:=I.list (HU.of ha)
 obtain⟨its',rv',ht',_⟩:=I.list (HU.of hb)
 have hl:its.toArray.size=l.length:=by have:=rv.length;have:=AM i;simp;lia
 have hm:its'.toArray.size=m.length:=by have:=rv'.length;have:=AM i';simp;lia
 have all:=UD D.eqb l m
 by_cases e:l.length=m.length
 ·have q:=SeqAt.RcNeAt.lists (A:=A) (s:=s) (e:=LL D.eqb l m) ht.isList ht'.isList (by lia) (by lia) (Te I (A:=A.in1) (by show A.units+1+D.dep<cLine;lia) i i' rv rv')
  rw[hl]at q
  rw[e,E5,CY,Bool.and_true,<-e]at all
  rw[all]at q
  exact q
 ·have q:=SeqAt.RcNeAt.lists_lengths (A:=A) (s:=s) ht.isList ht'.isList (by rw[hl,hm];simpa using e) (by lia)
  rw[show(l.length==m.length)=false by simpa using e,Fw]at all
  rw[<-all]
  exact q
noncomputable def lU(α:Type)[Dat α]:R2:=λx y H Q=>∃(a b:yJ)(l m:List α),x=.ref a/\y=.ref b/\Gg H a l/\Gg H b m/\Q (.bl (Jo (Dat.eqb (α:=α)) l m)) H
noncomputable def Zd(α:Type)[Dat α]:R2:=λx y H Q=>∃(a b:yJ)(l m:List α),x=.ref a/\y=.ref b/\Gg H a l/\Gg H b m/\Q (.bl (!Jo (Dat.eqb (α:=α)) l m)) H
theorem VT(hu:X.A.units+(D.dep+1)<cLine):Iq X (compareOp .Eq) (lU α):=by
 intro Fq s σ H x y v u Q I rx ry h
 obtain⟨a,b,l,m,rfl,rfl,ha,hb,q⟩:=h
 cases rx
 cases ry
 exact(Zs I hu ha hb) X.prog X.w X.xe _ ⟨.bl _,H,I,rfl,q⟩
theorem Qo(hu:X.A.units+(D.dep+1)<cLine):Iq X (compareOp .NotEq) (Zd α):=by
 intro Fq s σ H x y v u Q I rx ry h
 obtain⟨a,b,l,m,rfl,rfl,ha,hb,q⟩:=h
 cases rx
 cases ry
 exact(pS I hu ha hb) X.prog X.w X.xe _ ⟨.bl _,H,I,rfl,q⟩
end
end
end L2.Ev
namespace L2.Ts
open PySem PyProof.Rows
noncomputable def kv(rk:Keyed->Nat)(xs:Array Keyed)(i:Nat):Nat:=match xs[i]? with
 |some p=>rk p
 |none=>0
noncomputable def JZ(rk:Keyed->Nat)(xs:Array Keyed)(a b:Nat):Prop:=∀i j,a<=i->i<=j->j<b->kv rk xs i<=kv rk xs j
noncomputable def Tv(rk:Keyed->Nat)(xs:Array Keyed)(a b:Nat):Prop:=∀i j,a<=i->i<=j->j<b->kv rk xs j<=kv rk xs i
theorem Im{rk:Keyed->Nat}{xs:Array Keyed}{i:Nat}{p:Keyed}(h:xs[i]?=some p):kv rk xs i=rk p:=by unfold kv;rw[h]
theorem LJ{rk:Keyed->Nat}{xs ys:Array Keyed}{i j:Nat}(h:xs[i]?=ys[j]?):kv rk xs i=kv rk ys j:=by unfold kv;rw[h]
structure Nx(lo:Nat)(st st':SortSt):Prop where
 kind:kindOf st'=kindOf st
 failed:failedOf st'=failedOf st
 pend:pendingOf st'=pendingOf st
 perm:(arrOf st').Perm (arrOf st)
 below:∀k:Nat,k<lo->(arrOf st')[k]?=(arrOf st)[k]?
theorem Nx.refl(lo:Nat)(st:SortSt):Nx lo st st:=⟨rfl,rfl,rfl,Array.Perm.refl _,λ_ _=>rfl⟩
theorem Nx.trans{lo:Nat}{a b c:SortSt}(h:Nx lo a b)(q:Nx lo b c):Nx lo a c:=⟨q.kind.trans h.kind,q.failed.trans h.failed,q.pend.trans h.pend,q.perm.trans h.perm,λk hk=>(q.below k hk).trans (h.below k hk)⟩
theorem Nx.size{lo:Nat}{a b:SortSt}(h:Nx lo a b):(arrOf b).size=(arrOf a).size:=h.perm.size_eq
theorem SD{rk:Keyed->Nat}{xs:Array Keyed}{i j:Nat}(hj:j<=xs.size)(k:Nat):kv rk (mirror xs i j ((j-i) / 2)) k=if i<=k/\k<j then kv rk xs (i+j-1-k) else kv rk xs k:=by
 have e:=getElem?_mirror_all (i:=i) hj k
 split
 ·rename_i h;rw[AF h]at e;exact LJ e
 ·rename_i h;rw[AD h]at e;exact LJ e
theorem U6{rk:Keyed->Nat}{xs:Array Keyed}{src d:Nat}(hs:src<xs.size)(hd:d<=src)(k:Nat) :
  kv rk (bubble xs src d) k=if k=src-d then kv rk xs src else if src-d<k/\k<=src then kv rk xs (k-1) else kv rk xs k:=by
 have e:=getElem?_bubble hs d hd k
 split
 ·rename_i h;rw[AF h]at e;exact LJ e
 ·rename_i h
  rw[AD h]at e
  split
  ·rename_i h2;rw[AF h2]at e;exact LJ e
  ·rename_i h2;rw[AD h2]at e;exact LJ e
theorem W6{lo i j:Nat}{st:SortSt}(hi:lo<=i)(hj:j<=(arrOf st).size):Nx lo st (setArr st (mirror (arrOf st) i j ((j-i) / 2))) :=
 ⟨rfl,rfl,rfl,mirror_perm _ _ _ _,λk hk=>by
  have e:=getElem?_mirror_all (xs:=arrOf st) (i:=i) hj k
  rw[AD (by lia)]at e
  exact e⟩
theorem pM{lo src d:Nat}{st:SortSt}(hi:lo<=src-d)(hs:src<(arrOf st).size)(hd:d<=src):Nx lo st (setArr st (bubble (arrOf st) src d)) :=
 ⟨rfl,rfl,rfl,bubble_perm _ _ _,λk hk=>by
  have e:=getElem?_bubble (xs:=arrOf st) hs d hd k
  rw[AD (by lia),AD (by lia)]at e
  exact e⟩
section
variable{prog:yL}{w:yM}{A:Around}{E:xZ}{s:yH}{κ:SortKind}{M:Keyed->Prop}{rk:Keyed->Nat}
noncomputable def Kd(prog:yL)(w:yM)(A:Around)(s:yH)(κ:SortKind)(M:Keyed->Prop)(rk:Keyed->Nat):Prop :=
 ∀x y,M x->M y->∀Q:Bool->yH->Prop,Q (decide (rk x<rk y)) s->wpAny (model prog w) A (keyLt' κ x.1 y.1) Q (λ_ _=>False) s
theorem Vs(h:Kd prog w A s κ M rk){x y:Keyed}{st:SortSt}{Q:Option Bool->SortSt->Prop}(hk:kindOf st=κ)(hx:M x)(hy:M y)(q:Q (some (decide (rk x<rk y))) st) :
  wpS (model prog w) A E s (lt' x y) Q st:=by
 rw[lt'_eq]
 refine AX (D1 ?_)
 rw[hk]
 refine AX (Eb (Df (B8 (h x y hx hy (λb s'=>s'=s/\b=decide (rk x<rk y)) ⟨rfl,rfl⟩) (λb s' hb=>?_) λ_ _ z=>z.elim)))
 obtain⟨h1,rfl⟩:=hb
 exact⟨h1,Ah q⟩
theorem Jm{arr:Array Keyed}{i:Nat}{p:Keyed}{st:SortSt}{Q:Keyed->SortSt->Prop}(h:arr[i]?=some p)(q:Q p st):wpS (model prog w) A E s (elem' arr i) Q st:=by
 rw[elem'_eq,h]
 exact Ah q
noncomputable def All(M:Keyed->Prop)(xs:Array Keyed):Prop:=∀(i:Nat) p,xs[i]?=some p->M p
theorem All.perm{xs ys:Array Keyed}(h:All M xs)(p:ys.Perm xs):All M ys:=λi x e=>by
 have hm:x∈xs:=p.mem_iff.mp (Fx e)
 obtain⟨j,hj,ej⟩:=Array.getElem_of_mem hm
 exact h j x (by rw[AO hj,ej])
theorem Sk(h:Kd prog w A s κ M rk){i j:Nat}{st:SortSt}{Q:Option Bool->SortSt->Prop}(hk:kindOf st=κ)(ha:All M (arrOf st))(hi:i<(arrOf st).size)(hj:j<(arrOf st).size)
  (q:Q (some (decide (kv rk (arrOf st) i<kv rk (arrOf st) j))) st):wpS (model prog w) A E s (ltAt' i j) Q st:=by
 have ei:(arrOf st)[i]?=some (arrOf st)[i]:=AO hi
 have ej:(arrOf st)[j]?=some (arrOf st)[j]:=AO hj
 rw[ltAt'_eq]
 refine AX (D1 ?_)
 refine AX (Jm ei (AX (Jm ej (Vs h hk (ha _ _ ei) (ha _ _ ej) ?_))))
 rw[Im ei,Im ej]at q
 exact q
theorem nT(h:Kd prog w A s κ M rk){lo nrem:Nat}{st:SortSt}{Q:Option Nat->SortSt->Prop}(hk:kindOf st=κ)(ha:All M (arrOf st))(hn:1<=nrem)(hz:lo+nrem<=(arrOf st).size)
  (q:∀n st',Nx lo st st'->1<=n->n<=nrem->JZ rk (arrOf st') lo (lo+n)->Q (some n) st'):wpS (model prog w) A E s (countRun' lo nrem) Q st:=by
 rw[countRun'_eq]
 have asc:∀(st1:SortSt)(a:Nat)(R:Option (Option Nat)×Nat->SortSt->Prop),Nx lo st st1->1<=a->a<=nrem->JZ rk (arrOf st1) lo (lo+a) ->
   (∀n,a<=n->n<=nrem->JZ rk (arrOf st1) lo (lo+n)->(n=nrem∨kv rk (arrOf st1) (lo+n)<kv rk (arrOf st1) (lo+n-1))->R (none,n) st1) ->
   wpS (model prog w) A E s (forIn [a:nrem] ((none,a):Option (Option Nat)×Nat) λ_ r=>do
    let x <-ltAt' (lo+r.2) (lo+r.2-1)
    match x with
    |some c=>if c=true then pure (ForInStep.done (none,r.2)) else pure (ForInStep.yield (none,r.2+1))
    |_=>pure (ForInStep.done (some none,r.2))) R st1:=by
  intro st1 a R n1 ha1 han hs hR
  refine Bi (I:=λx c st'=>st'=st1/\c=(none,x)/\JZ rk (arrOf st1) lo (lo+x)) ?step ?fin ⟨rfl,rfl,hs⟩
  case fin =>
   rintro c st' ⟨rfl,rfl,hs'⟩
   rw[show max a nrem=nrem by lia]at hs' ⊢
   exact hR nrem han (AH _) hs' (.inl rfl)
  case step =>
   rintro x c st' hax hxn ⟨rfl,rfl,hs'⟩
   dsimp only
   have hsz:=n1.size
   refine AX (Sk h (n1.kind.trans hk) (ha.perm n1.perm) (by lia) (by lia) ?_)
   by_cases hl:kv rk (arrOf st') (lo+x)<kv rk (arrOf st') (lo+x-1)
   ·simp only[hl,Ed,CQ]
    exact Ah (hR x hax (by lia) hs' (.inr hl))
   ·simp only[hl,EV,BH,B3]
    refine Ah ⟨rfl,rfl,λi j hi hij hj=>?_⟩
    by_cases hjx:j<lo+x
    ·exact hs' i j hi hij hjx
    ·have ej:j=lo+x:=by lia
     subst ej
     by_cases hi':i=lo+x
     ·subst hi';exact AH _
     ·have:=hs' i (lo+x-1) hi (by lia) (by lia)
      lia
 have one:JZ rk (arrOf st) lo (lo+1):=λi j h1 h2 h3=>by
  have e:i=j:=by lia
  subst e
  exact AH _
 refine AX (asc st 1 _ (Nx.refl _ _) (AH _) hn one λn hn1 hn2 hs hnd=>?_)
 dsimp only
 by_cases hnn:n=nrem
 ·subst hnn
  rw[AF (by simp)]
  exact Ah (q n st (Nx.refl _ _) hn1 (AH _) hs)
 rw[AD (by simpa using hnn)]
 have hlt:kv rk (arrOf st) (lo+n)<kv rk (arrOf st) (lo+n-1):=hnd.resolve_left hnn
 have key:∀K:StateT SortSt Sem (Option Nat),(∀st1,Nx lo st st1->Tv rk (arrOf st1) lo (lo+n+1)->wpS (model prog w) A E s K Q st1) ->
   wpS (model prog w) A E s (if n>1 then do
    let x <-ltAt' lo (lo+n-1)
    match x with
    |some c=>if c=true then pure (some n) else do
     reverseSlice' lo (lo+n)
     K
    |_=>pure none
   else K) Q st:=by
  intro K hK
  by_cases h1:n>1
  ·rw[AF h1]
   refine AX (Sk h hk ha (by lia) (by lia) ?_)
   by_cases hl:kv rk (arrOf st) lo<kv rk (arrOf st) (lo+n-1)
   ·simp only[hl,Ed,CQ]
    exact Ah (q n st (Nx.refl _ _) hn1 hn2 hs)
   ·simp only[hl,EV,BH,B3]
    refine AX (Ft (hK _ (W6 (AH _) (by lia)) ?_))
    have alike:∀k,lo<=k->k<lo+n->kv rk (arrOf st) k=kv rk (arrOf st) lo:=λk h2 h3=>by
     have e1:=hs lo k (AH _) h2 h3
     have e2:=hs k (lo+n-1) h2 (by lia) (by lia)
     lia
    have same:∀k,kv rk (mirror (arrOf st) lo (lo+n) ((lo+n-lo) / 2)) k=kv rk (arrOf st) k:=λk=>by
     rw[SD (by lia)]
     split
     ·rw[alike _ (by lia) (by lia),alike k (by lia) (by lia)]
     ·rfl
    intro i j hi hij hj
    show kv rk (mirror (arrOf st) lo (lo+n) ((lo+n-lo) / 2)) j<=kv rk (mirror (arrOf st) lo (lo+n) ((lo+n-lo) / 2)) i
    rw[same,same]
    by_cases hj':j<lo+n
    ·rw[alike j (by lia) hj',alike i hi (by lia)];exact AH _
    ·have ej:j=lo+n:=by lia
     subst ej
     by_cases hi':i<lo+n
     ·have e1:=alike i hi hi'
      have e2:=alike (lo+n-1) (by lia) (by lia)
      lia
     ·have ei:i=lo+n:=by lia
      subst ei;exact AH _
  ·rw[AD h1]
   have en:n=1:=by lia
   subst en
   refine hK st (Nx.refl _ _) λi j hi hij hj=>?_
   by_cases e:i=j
   ·subst e;exact AH _
   ·have e1:i=lo:=by lia
    have e2:j=lo+1:=by lia
    subst e1 e2
    exact Bf hlt
 refine key _ λst1 n1 hd=>?_
 have sz1:=n1.size
 refine AX (Eb (CW ⟨rfl,?_⟩))
 refine AX (Cr (Bi (I:=λx c st'=>∃neq,c=(none,x,neq)/\Nx lo st st'/\Tv rk (arrOf st') lo (lo+x)/\neq+1<=x/\(∀i,lo+x-(neq+1)<=i->i<lo+x->kv rk (arrOf st') i=kv rk (arrOf st') (lo+x-1)))
  (Q:=λc st'=>∃x neq,c=(none,x,neq)/\n+1<=x/\x<=nrem/\Nx lo st st'/\Tv rk (arrOf st') lo (lo+x)/\neq+1<=x/\(∀i,lo+x-(neq+1)<=i->i<lo+x->kv rk (arrOf st') i=kv rk (arrOf st') (lo+x-1)))
  ?step ?fin ⟨0,rfl,n1,hd,by lia,λi h1 h2=>by congr 1;lia⟩) ?post)
 case fin =>
  rintro c st' ⟨neq,rfl,n',hd',hq,he⟩
  rw[show max (n+1) nrem=nrem by lia]at hd' hq he ⊢
  exact⟨nrem,neq,rfl,by lia,AH _,n',hd',hq,he⟩
 case step =>
  rintro x c st' hax hxn ⟨neq,rfl,n',hd',hq,he⟩
  dsimp only
  have sz':=n'.size
  have grow:∀st2,Nx lo st st2->(∀k,kv rk (arrOf st2) k=kv rk (arrOf st') k)->kv rk (arrOf st') (lo+x)<=kv rk (arrOf st') (lo+x-1)->Tv rk (arrOf st2) lo (lo+(x+1)):=by
   intro st2 _ e hle i j hi hij hj
   rw[e,e]
   by_cases hjx:j<lo+x
   ·exact hd' i j hi hij hjx
   ·have ej:j=lo+x:=by lia
    subst ej
    by_cases hi':i=lo+x
    ·subst hi';exact AH _
    ·have:=hd' i (lo+x-1) hi (by lia) (by lia)
     lia
  refine AX (Sk h (n'.kind.trans hk) (ha.perm n'.perm) (by lia) (by lia) ?_)
  by_cases hl:kv rk (arrOf st') (lo+x)<kv rk (arrOf st') (lo+x-1)
  ·simp only[hl,Ed,CQ]
   by_cases hq0:neq>0
   ·rw[AF hq0]
    have n2:Nx lo st' (setArr st' (mirror (arrOf st') (lo+x-(neq+1)) (lo+x) ((lo+x-(lo+x-(neq+1))) / 2))):=W6 (by lia) (by lia)
    have same:∀k,kv rk (mirror (arrOf st') (lo+x-(neq+1)) (lo+x) ((lo+x-(lo+x-(neq+1))) / 2)) k=kv rk (arrOf st') k:=λk=>by
     rw[SD (by lia)]
     split
     ·rw[he _ (by lia) (by lia),he k (by lia) (by lia)]
     ·rfl
    refine AX (Ft (Ah ⟨0,rfl,n'.trans n2,grow _ (n'.trans n2) same (Bf hl),by lia,λi h1 h2=>by congr 1;lia⟩))
   ·rw[AD hq0]
    exact Ah ⟨0,rfl,n',grow _ n' (λ_=>rfl) (Bf hl),by lia,λi h1 h2=>by congr 1;lia⟩
  ·simp only[hl,EV,BH,B3]
   refine AX (Sk h (n'.kind.trans hk) (ha.perm n'.perm) (by lia) (by lia) ?_)
   by_cases hl2:kv rk (arrOf st') (lo+x-1)<kv rk (arrOf st') (lo+x)
   ·simp only[hl2,Ed,CQ]
    exact Ah ⟨x,neq,rfl,hax,by lia,n',hd',hq,he⟩
   ·simp only[hl2,EV,BH,B3]
    refine Ah ⟨neq+1,rfl,n',grow _ n' (λ_=>rfl) (by lia),by lia,λi h1 h2=>?_⟩
    rw[show lo+(x+1)-1=lo+x by lia]
    by_cases hi':i=lo+x
    ·subst hi';rfl
    ·rw[he i (by lia) (by lia)];lia
 case post =>
  rintro c st' ⟨x,neq,rfl,hx1,hx2,n',hd',hq,he⟩
  dsimp only
  have sz':=n'.size
  have last:∀(K:Option (Option Nat)×Nat->StateT SortSt Sem (Option Nat)),(∀m,K (none,m)=pure (some m))->∀st2,Nx lo st st2->Tv rk (arrOf st2) lo (lo+x)->wpS (model prog w) A E s (do
    reverseSlice' lo (lo+x)
    let r <-forIn [x:nrem] ((none,x):Option (Option Nat)×Nat) λ_ r=>do
     let x <-ltAt' (lo+r.2) (lo+r.2-1)
     match x with
     |some c=>if c=true then pure (ForInStep.done (none,r.2)) else pure (ForInStep.yield (none,r.2+1))
     |_=>pure (ForInStep.done (some none,r.2))
    K r) Q st2:=by
   intro K hK st2 n2 hd2
   have sz2:=n2.size
   refine AX (Ft ?_)
   have n3:Nx lo st2 (setArr st2 (mirror (arrOf st2) lo (lo+x) ((lo+x-lo) / 2))):=W6 (AH _) (by lia)
   refine AX (asc _ x _ (n2.trans n3) (by lia) hx2 ?_ λm hm1 hm2 hs _=>?_)
   ·intro i j hi hij hj
    show kv rk (mirror (arrOf st2) lo (lo+x) ((lo+x-lo) / 2)) i<=kv rk (mirror (arrOf st2) lo (lo+x) ((lo+x-lo) / 2)) j
    rw[SD (by lia),SD (by lia),AF (by lia),AF (by lia)]
    exact hd2 _ _ (by lia) (by lia) (by lia)
   ·rw[hK];exact Ah (q m _ (n2.trans n3) (by lia) hm2 hs)
  by_cases hq0:neq>0
  ·rw[AF hq0]
   have n2:Nx lo st' (setArr st' (mirror (arrOf st') (lo+x-(neq+1)) (lo+x) ((lo+x-(lo+x-(neq+1))) / 2))):=W6 (by lia) (by lia)
   have same:∀k,kv rk (mirror (arrOf st') (lo+x-(neq+1)) (lo+x) ((lo+x-(lo+x-(neq+1))) / 2)) k=kv rk (arrOf st') k:=λk=>by
    rw[SD (by lia)]
    split
    ·rw[he _ (by lia) (by lia),he k (by lia) (by lia)]
    ·rfl
   refine AX (Ft (last _ (λ_=>rfl) _ (n'.trans n2) λi j hi hij hj=>?_))
   show kv rk (mirror _ _ _ _) j<=kv rk (mirror _ _ _ _) i
   rw[same,same]
   exact hd' i j hi hij hj
  ·rw[AD hq0]
   exact last _ (λ_=>rfl) st' n' hd'
theorem qC(h:Kd prog w A s κ M rk){lo n ok:Nat}{st:SortSt}{Q:Bool->SortSt->Prop}(hk:kindOf st=κ)(ha:All M (arrOf st))(hn:lo+n<=(arrOf st).size)(hok:ok<=n)(hs:JZ rk (arrOf st) lo (lo+ok))
  (q:∀st',Nx lo st st'->JZ rk (arrOf st') lo (lo+n)->Q true st'):wpS (model prog w) A E s (binarySort' lo n ok) Q st:=by
 rw[binarySort'_eq]
 refine AX (Cr (Bi (I:=λk c st'=>c=(none,())/\Nx lo st st'/\JZ rk (arrOf st') lo (lo+min k n))
  (Q:=λc st'=>c=(none,())/\Nx lo st st'/\JZ rk (arrOf st') lo (lo+n)) ?step ?fin ?init) ?post)
 case post =>
  rintro c st' ⟨rfl,n',hs'⟩
  exact Ah (q st' n' hs')
 case init =>
  refine⟨rfl,Nx.refl _ _,λi j hi hij hj=>?_⟩
  by_cases h1:ok=0
  ·have e:i=j:=by lia
   subst e;exact AH _
  ·exact hs i j hi hij (by lia)
 case fin =>
  rintro c st' ⟨hc,n',hs'⟩
  refine⟨hc,n',?_⟩
  rwa [show min (max (max ok 1) n) n=n by lia]at hs'
 case step =>
  rintro k c st' hak hkn ⟨rfl,n',hs'⟩
  rw[show min k n=k by lia]at hs'
  have sz':=n'.size
  refine AX (Cr (Bi (I:=λx c st''=>st''=st'/\∃l r,c=(none,l,r)/\l<=r/\r<=k/\r-l<=k-x /\
    (∀i,i<l->kv rk (arrOf st') (lo+i)<=kv rk (arrOf st') (lo+k))/\(∀i,r<=i->i<k->kv rk (arrOf st') (lo+k)<kv rk (arrOf st') (lo+i)))
   (Q:=λc st''=>st''=st'/\∃l r,c=(none,l,r)/\l<=k /\
    (∀i,i<l->kv rk (arrOf st') (lo+i)<=kv rk (arrOf st') (lo+k))/\(∀i,l<=i->i<k->kv rk (arrOf st') (lo+k)<kv rk (arrOf st') (lo+i))) ?istep ?ifin ?iinit) ?ipost)
  case iinit=>exact⟨rfl,0,k,rfl,by lia,by lia,by lia,λi hi=>by lia,λi h1 h2=>by lia⟩
  case ifin =>
   rintro c st'' ⟨rfl,l,r,rfl,hlr,hrk,hm,hlo,hhi⟩
   have e:l=r:=by lia
   subst e
   exact⟨rfl,l,l,rfl,hrk,hlo,hhi⟩
  case istep =>
   rintro x c st'' _ hxk ⟨rfl,l,r,rfl,hlr,hrk,hm,hlo,hhi⟩
   dsimp only
   by_cases hge:l ≥ r
   ·rw[AF hge]
    have e:l=r:=by lia
    subst e
    exact Ah ⟨rfl,l,l,rfl,hrk,hlo,hhi⟩
   ·rw[AD hge]
    refine AX (Sk h (n'.kind.trans hk) (ha.perm n'.perm) (by lia) (by lia) ?_)
    by_cases hl:kv rk (arrOf st'') (lo+k)<kv rk (arrOf st'') (lo+(l+r) / 2)
    ·simp only[hl,Ed,CQ]
     refine Ah ⟨rfl,l,(l+r) / 2,rfl,by lia,by lia,by lia,hlo,λi h1 h2=>?_⟩
     exact Ax hl (hs' _ _ (by lia) (by lia) (by lia))
    ·simp only[hl,EV,BH,B3]
     refine Ah ⟨rfl,(l+r) / 2+1,r,rfl,by lia,by lia,by lia,λi h1=>?_,hhi⟩
     exact As (hs' (lo+i) (lo+(l+r) / 2) (by lia) (by lia) (by lia)) (Gj.mp hl)
  case ipost =>
   rintro c st'' ⟨rfl,l,r,rfl,hlk,hlo,hhi⟩
   show wpS _ _ _ _ (do moveDown' (lo+k) (lo+l);pure (ForInStep.yield (none,()))) _ _
   rw[moveDown'_eq]
   refine AX (Cw (Ah ⟨rfl,n'.trans (pM (by lia) (by lia) (by lia)),?_⟩))
   rw[show min (k+1) n=k+1 by lia]
   intro i j hi hij hj
   show kv rk (bubble (arrOf st'') (lo+k) (lo+k-(lo+l))) i<=kv rk (bubble (arrOf st'') (lo+k) (lo+k-(lo+l))) j
   rw[U6 (by lia) (by lia),U6 (by lia) (by lia),show lo+k-(lo+k-(lo+l))=lo+l by lia]
   have hlo':∀z,lo<=z->z<lo+l->kv rk (arrOf st'') z<=kv rk (arrOf st'') (lo+k):=λz h1 h2=>by
    have:=hlo (z-lo) (by lia)
    rwa [show lo+(z-lo)=z by lia]at this
   have hhi':∀z,lo+l<=z->z<lo+k->kv rk (arrOf st'') (lo+k)<kv rk (arrOf st'') z:=λz h1 h2=>by
    have:=hhi (z-lo) (by lia) (by lia)
    rwa [show lo+(z-lo)=z by lia]at this
   repeat' split
   all_goals first
    |(exfalso;lia)
    |exact AH _
    |exact hlo' _ (by lia) (by lia)
    |exact Bf (hhi' _ (by lia) (by lia))
    |exact hs' _ _ (by lia) (by lia) (by lia)
end
noncomputable def UW:Bool->Keyed->Array Keyed->Nat->Nat->Nat->StateT SortSt Sem (Option Nat):=sortPriv% PySem.Builtin.gallop
section
variable{prog:yL}{w:yM}{A:Around}{E:xZ}{s:yH}{κ:SortKind}{M:Keyed->Prop}{rk:Keyed->Nat}
noncomputable def Bd(rk:Keyed->Nat)(left:Bool)(key:Keyed)(arr:Array Keyed)(i:Nat):Prop:=if left=true then kv rk arr i<rk key else kv rk arr i<=rk key
theorem Qd(h:Kd prog w A s κ M rk){left:Bool}{key:Keyed}{arr:Array Keyed}{base n hint:Nat}{st:SortSt}{Q:Option Nat->SortSt->Prop}(hk:kindOf st=κ)(hM:M key)(ha:All M arr)(hz:base+n<=arr.size)(hh:hint<n)
  (hs:JZ rk arr base (base+n)) (q:∀p,p<=n->(∀i,base<=i->i<base+p->Bd rk left key arr i)->(∀i,base+p<=i->i<base+n->¬ Bd rk left key arr i)->Q (some p) st) :
  wpS (model prog w) A E s (UW left key arr base n hint) Q st:=by
 have mono:∀i j,base<=i->i<=j->j<base+n->Bd rk left key arr j->Bd rk left key arr i:=λi j h1 h2 h3 b=>by
  have:=hs i j h1 h2 h3
  unfold Bd at b ⊢
  cases left
  ·simp only[BH,B3]at b ⊢;lia
  ·simp only[CQ]at b ⊢;lia
 have asks:∀(i:Nat)(R:Option Bool->SortSt->Prop),i<n->(Bd rk left key arr (base+i)->R (some true) st)->(¬ Bd rk left key arr (base+i)->R (some false) st) ->
   wpS (model prog w) A E s (do
    let x <-elem' arr (base+i)
    if left=true then lt' x key else do
     let r <-lt' key x
     pure (r.map λb=>!b)) R st:=by
  intro i R hi r1 r2
  have ei:arr[base+i]?=some arr[base+i]:=AO (by lia)
  refine AX (Jm ei ?_)
  have ev:=Im (rk:=rk) ei
  cases left
  ·rw[AD (by decide)]
   refine AX (Vs h hk hM (ha _ _ ei) (Ah ?_))
   by_cases c:rk key<rk arr[base+i]
   ·rw[Ac c]
    refine r2 λb=>?_
    unfold Bd at b
    rw[AD (by decide),ev]at b
    lia
   ·rw[Aa c]
    refine r1 ?_
    unfold Bd
    rw[AD (by decide),ev]
    lia
  ·rw[AF rfl]
   refine Vs h hk (ha _ _ ei) hM ?_
   by_cases c:rk arr[base+i]<rk key
   ·rw[Ac c]
    refine r1 ?_
    unfold Bd
    rw[AF rfl,ev]
    exact c
   ·rw[Aa c]
    refine r2 λb=>?_
    unfold Bd at b
    rw[AF rfl,ev]at b
    exact c b
 have srch:∀(K:Option (Option Nat)×Nat×Nat->StateT SortSt Sem (Option Nat)),(∀l p,K (none,l,p)=pure (some p))->∀lo hi,lo<=hi->hi<=n->(∀i,base<=i->i<base+lo->Bd rk left key arr i)->(∀i,base+hi<=i->i<base+n->¬ Bd rk left key arr i) ->
   ∀body,(∀x l p,body x (none,l,p)=if l ≥ p then pure (ForInStep.done (none,l,p)) else do
    let c <-(do
     let x <-elem' arr (base+(l+(p-l) / 2))
     if left=true then lt' x key else do
      let r <-lt' key x
      pure (r.map λb=>!b))
    match c with
    |some more=>if more=true then pure (ForInStep.yield (none,l+(p-l) / 2+1,p)) else pure (ForInStep.yield (none,l,l+(p-l) / 2))
    |_=>pure (ForInStep.done (some none,l,p))) ->
   wpS (model prog w) A E s (do let r <-forIn [0:n] ((none,lo,hi):Option (Option Nat)×Nat×Nat) body;K r) Q st:=by
  intro K hK lo hi hlh hhn h1 h2 body hb
  refine AX (Bi (I:=λx c st'=>st'=st/\∃l p,c=(none,l,p)/\l<=p/\p<=n/\p-l<=n-x/\(∀i,base<=i->i<base+l->Bd rk left key arr i)/\(∀i,base+p<=i->i<base+n->¬ Bd rk left key arr i)) ?step ?fin ⟨rfl,lo,hi,rfl,hlh,hhn,by lia,h1,h2⟩)
  case fin =>
   rintro c st' ⟨rfl,l,p,rfl,a1,a2,a3,a4,a5⟩
   have e:l=p:=by lia
   subst e
   rw[hK]
   exact Ah (q l a2 a4 a5)
  case step =>
   rintro x c st' _ hx ⟨rfl,l,p,rfl,a1,a2,a3,a4,a5⟩
   rw[hb]
   by_cases c:l ≥ p
   ·rw[AF c]
    have e:l=p:=by lia
    subst e
    refine Ah ?_
    show wpS _ _ _ _ (K (none,l,l)) Q st'
    rw[hK]
    exact Ah (q l a2 a4 a5)
   ·rw[AD c]
    refine AX (asks _ _ (by lia) (λb=>?_) λb=>?_)
    ·refine Ah ⟨rfl,l+(p-l) / 2+1,p,rfl,by lia,a2,by lia,λi i1 i2=>?_,a5⟩
     exact mono i _ i1 (by lia) (by lia) b
    ·refine Ah ⟨rfl,l,l+(p-l) / 2,rfl,by lia,by lia,by lia,a4,λi i1 i2=>?_⟩
     exact λbi=>b (mono _ i (by lia) i1 i2 bi)
 refine AX (asks hint _ hh (λb=>?_) λb=>?_)
 ·dsimp only
  rw[AF rfl]
  refine AX (Cr (Bi (I:=λx c st'=>st'=st/\∃l p,c=(none,l,p)/\l<p/\x<p/\l<n-hint/\Bd rk left key arr (base+(hint+l)))
   (Q:=λc st'=>st'=st/\∃l p,c=(none,l,p)/\l<p/\l<n-hint/\Bd rk left key arr (base+(hint+l))/\(n-hint<=p∨(p<n-hint/\¬ Bd rk left key arr (base+(hint+p))))) ?step ?fin ⟨rfl,0,1,rfl,by lia,by lia,by lia,b⟩) ?post)
  case fin =>
   rintro c st' ⟨rfl,l,p,rfl,a1,a2,a3,a4⟩
   exact⟨rfl,l,p,rfl,a1,a3,a4,.inl (by lia)⟩
  case step =>
   rintro x c st' _ hx ⟨rfl,l,p,rfl,a1,a2,a3,a4⟩
   dsimp only
   by_cases c:p ≥ n-hint
   ·rw[AF c]
    exact Ah ⟨rfl,l,p,rfl,a1,a3,a4,.inl c⟩
   ·rw[AD c]
    refine AX (asks _ _ (by lia) (λb=>?_) λb=>?_)
    ·exact Ah ⟨rfl,p,2*p+1,rfl,by lia,by lia,by lia,b⟩
    ·exact Ah ⟨rfl,l,p,rfl,a1,a3,a4,.inr ⟨by lia,b⟩⟩
  case post =>
   rintro c st' ⟨rfl,l,p,rfl,a1,a2,a3,a4⟩
   dsimp only
   refine srch _ (λ_ _=>rfl) _ _ ?_ ?_ (λi i1 i2=>mono i _ i1 (by lia) (by lia) a3) (λi i1 i2 bi=>?_) _ λx l p=>rfl
   ·lia
   ·lia
   ·rcases a4 with a4|⟨a4,a5⟩
    ·lia
    ·exact a5 (mono _ i (by lia) (by lia) i2 bi)
 ·dsimp only
  rw[AD (by decide)]
  refine AX (Cr (Bi (I:=λx c st'=>st'=st/\∃l p,c=(none,l,p)/\l<p/\x<p/\l<hint+1/\¬ Bd rk left key arr (base+(hint-l)))
   (Q:=λc st'=>st'=st/\∃l p,c=(none,l,p)/\l<p/\l<hint+1/\¬ Bd rk left key arr (base+(hint-l))/\(hint+1<=p∨(p<hint+1/\Bd rk left key arr (base+(hint-p))))) ?step ?fin ⟨rfl,0,1,rfl,by lia,by lia,by lia,b⟩) ?post)
  case fin =>
   rintro c st' ⟨rfl,l,p,rfl,a1,a2,a3,a4⟩
   exact⟨rfl,l,p,rfl,a1,a3,a4,.inl (by lia)⟩
  case step =>
   rintro x c st' _ hx ⟨rfl,l,p,rfl,a1,a2,a3,a4⟩
   dsimp only
   by_cases c:p ≥ hint+1
   ·rw[AF c]
    exact Ah ⟨rfl,l,p,rfl,a1,a3,a4,.inl c⟩
   ·rw[AD c]
    refine AX (asks _ _ (by lia) (λb=>?_) λb=>?_)
    ·exact Ah ⟨rfl,l,p,rfl,a1,a3,a4,.inr ⟨by lia,b⟩⟩
    ·exact Ah ⟨rfl,p,2*p+1,rfl,by lia,by lia,by lia,b⟩
  case post =>
   rintro c st' ⟨rfl,l,p,rfl,a1,a2,a3,a4⟩
   dsimp only
   refine srch _ (λ_ _=>rfl) _ _ ?_ ?_ (λi i1 i2=>?_) (λi i1 i2 bi=>a3 (mono _ i (by lia) (by lia) i2 bi)) _ λx l p=>rfl
   ·lia
   ·lia
   ·rcases a4 with a4|⟨a4,a5⟩
    ·lia
    ·exact mono i _ i1 (by lia) (by lia) a5
end
section
noncomputable abbrev Up(rk:Keyed->Nat)(l:List Keyed):Prop:=l.Pairwise λx y=>rk x<=rk y
structure J(rk:Keyed->Nat)(la lb o:List Keyed)(ia ib:Nat):Prop where
 ha:ia<=la.length
 hb:ib<=lb.length
 perm:o.Perm (la.take ia++lb.take ib)
 srt:Up rk o
 ua:∀x∈o,∀y∈la.drop ia,rk x<=rk y
 ub:∀x∈o,∀y∈lb.drop ib,rk x<=rk y
noncomputable def IC(rk:Keyed->Nat)(la lb r:List Keyed):Prop:=r.Perm (la++lb)/\Up rk r
variable{rk:Keyed->Nat}{la lb o:List Keyed}{ia ib na nb k:Nat}
theorem Qm{α:Type}(l:List α)(i k:Nat):l.drop i=(l.drop i).take k++l.drop (i+k):=by
 rw[<-List.drop_drop]
 exact(BZ k (l.drop i)).symm
theorem Wx{α:Type}(l:List α)(i k:Nat):l.take (i+k)=l.take i++(l.drop i).take k:=List.take_add
theorem Up.drop{l:List Keyed}(h:Up rk l)(i:Nat):Up rk (l.drop i):=h.sublist (List.drop_sublist i l)
theorem Up.take{l:List Keyed}(h:Up rk l)(i:Nat):Up rk (l.take i):=h.sublist (List.take_sublist i l)
theorem Up.app{l m:List Keyed}(h:Up rk l)(q:Up rk m)(c:∀x∈l,∀y∈m,rk x<=rk y):Up rk (l++m):=DD.mpr ⟨h,q,c⟩
theorem J.a(j:J rk la lb o ia ib)(sa:Up rk la)(hk:ia+k<=la.length)(h:∀x∈(la.drop ia).take k,∀y∈lb.drop ib,rk x<=rk y):J rk la lb (o++(la.drop ia).take k) (ia+k) ib:=by
 have sd:=Qm la ia k
 have up:=sa.drop ia
 rw[sd]at up
 have cr:=(DD.mp up).2.2
 refine⟨hk,j.hb,?_,j.srt.app ((sa.drop ia).take k) λx hx y hy=>j.ua x hx y (BJ hy),λx hx y hy=>?_,λx hx y hy=>?_⟩
 ·rw[Wx,An]
  refine(Bc _ j.perm).trans ?_
  rw[An]
  exact B0 _ CZ
 ·rcases Ao.mp hx with hx|hx
  ·exact j.ua x hx y (by rw[sd];exact Aj _ hy)
  ·exact cr x hx y hy
 ·rcases Ao.mp hx with hx|hx
  ·exact j.ub x hx y hy
  ·exact h x hx y hy
theorem J.b(j:J rk la lb o ia ib)(sb:Up rk lb)(hk:ib+k<=lb.length)(h:∀x∈(lb.drop ib).take k,∀y∈la.drop ia,rk x<=rk y):J rk la lb (o++(lb.drop ib).take k) ia (ib+k):=by
 have sd:=Qm lb ib k
 have up:=sb.drop ib
 rw[sd]at up
 have cr:=(DD.mp up).2.2
 refine⟨j.ha,hk,?_,j.srt.app ((sb.drop ib).take k) λx hx y hy=>j.ub x hx y (BJ hy),λx hx y hy=>?_,λx hx y hy=>?_⟩
 ·rw[Wx,<-An]
  exact Bc _ j.perm
 ·rcases Ao.mp hx with hx|hx
  ·exact j.ua x hx y hy
  ·exact h x hx y hy
 ·rcases Ao.mp hx with hx|hx
  ·exact j.ub x hx y (by rw[sd];exact Aj _ hy)
  ·exact cr x hx y hy
theorem J.all(j:J rk la lb o ia ib):(o++la.drop ia++lb.drop ib).Perm (la++lb):=by
 have e:(la.take ia++lb.take ib++la.drop ia++lb.drop ib).Perm (la++lb):=by
  have e1:(la++lb)=(la.take ia++la.drop ia)++(lb.take ib++lb.drop ib):=by rw[BZ,BZ]
  rw[e1,An,An,An]
  refine B0 _ ?_
  rw[<-An,<-An]
  exact Bc _ CZ
 exact(Bc _ (Bc _ j.perm)).trans e
theorem J.done(j:J rk la lb o ia ib)(sa:Up rk la)(sb:Up rk lb)(h:ia=la.length∨ib=lb.length):IC rk la lb (o++la.drop ia++lb.drop ib):=by
 refine⟨j.all,?_⟩
 rcases h with h|h
 ·rw[h,List.drop_length,BV]
  exact j.srt.app (sb.drop ib) j.ub
 ·rw[h,List.drop_length,BV]
  exact j.srt.app (sa.drop ia) j.ua
theorem J.last(j:J rk la lb o ia ib)(sa:Up rk la)(sb:Up rk lb)(h:∀y∈lb,∀x∈la.drop ia,rk y<=rk x):IC rk la lb (o++lb.drop ib++la.drop ia):=by
 refine⟨?_,(j.srt.app (sb.drop ib) j.ub).app (sa.drop ia) λx hx y hy=>?_⟩
 ·refine List.Perm.trans ?_ j.all
  rw[An,An]
  exact B0 _ CZ
 ·rcases Ao.mp hx with hx|hx
  ·exact j.ua x hx y hy
  ·exact h x (Gk hx) y hy
structure J2(rk:Keyed->Nat)(la lb o:List Keyed)(na nb:Nat):Prop where
 ha:na<=la.length
 hb:nb<=lb.length
 perm:o.Perm (la.drop na++lb.drop nb)
 srt:Up rk o
 ua:∀x∈la.take na,∀y∈o,rk x<=rk y
 ub:∀x∈lb.take nb,∀y∈o,rk x<=rk y
theorem J2.a(j:J2 rk la lb o (na+k) nb)(sa:Up rk la)(h:∀x∈(la.drop na).take k,∀y∈lb.take nb,rk y<=rk x):J2 rk la lb ((la.drop na).take k++o) na nb:=by
 have sd:=Wx la na k
 have up:=sa.take (na+k)
 rw[sd]at up
 have cr:=(DD.mp up).2.2
 have j1:=j.ha
 refine⟨by lia,j.hb,?_,((sa.drop na).take k).app j.srt λx hx y hy=>j.ua x (by rw[sd];exact Aj _ hx) y hy,λx hx y hy=>?_,λx hx y hy=>?_⟩
 ·have e:la.drop na++lb.drop nb=(la.drop na).take k++(la.drop (na+k)++lb.drop nb):=by rw[<-An,<-Qm la na k]
  rw[e]
  exact B0 _ j.perm
 ·rcases Ao.mp hy with hy|hy
  ·exact cr x hx y hy
  ·exact j.ua x (by rw[sd];exact A0 _ hx) y hy
 ·rcases Ao.mp hy with hy|hy
  ·exact h y hy x hx
  ·exact j.ub x hx y hy
theorem J2.b(j:J2 rk la lb o na (nb+k))(sb:Up rk lb)(h:∀x∈(lb.drop nb).take k,∀y∈la.take na,rk y<=rk x):J2 rk la lb ((lb.drop nb).take k++o) na nb:=by
 have sd:=Wx lb nb k
 have up:=sb.take (nb+k)
 rw[sd]at up
 have cr:=(DD.mp up).2.2
 have j1:=j.hb
 refine⟨j.ha,by lia,?_,((sb.drop nb).take k).app j.srt λx hx y hy=>j.ub x (by rw[sd];exact Aj _ hx) y hy,λx hx y hy=>?_,λx hx y hy=>?_⟩
 ·have e:la.drop na++lb.drop nb=la.drop na++(lb.drop nb).take k++lb.drop (nb+k):=by rw[An,<-Qm lb nb k]
  rw[e]
  refine(B0 _ j.perm).trans ?_
  rw[<-An]
  exact Bc _ CZ
 ·rcases Ao.mp hy with hy|hy
  ·exact h y hy x hx
  ·exact j.ua x hx y hy
 ·rcases Ao.mp hy with hy|hy
  ·exact cr x hx y hy
  ·exact j.ub x (by rw[sd];exact A0 _ hx) y hy
theorem J2.all(j:J2 rk la lb o na nb):(la.take na++lb.take nb++o).Perm (la++lb):=by
 have e:(la.take na++lb.take nb++(la.drop na++lb.drop nb)).Perm (la++lb):=by
  have e1:(la++lb)=(la.take na++la.drop na)++(lb.take nb++lb.drop nb):=by rw[BZ,BZ]
  rw[e1,An,An]
  refine B0 _ ?_
  rw[<-An,<-An]
  exact Bc _ CZ
 exact(B0 _ j.perm).trans e
theorem J2.done(j:J2 rk la lb o na nb)(sa:Up rk la)(sb:Up rk lb)(h:na=0∨nb=0):IC rk la lb (la.take na++lb.take nb++o):=by
 refine⟨j.all,?_⟩
 rcases h with h|h
 ·rw[h,DH,Fb]
  exact(sb.take nb).app j.srt j.ub
 ·rw[h,DH,BV]
  exact(sa.take na).app j.srt j.ua
theorem J2.first(j:J2 rk la lb o na nb)(sa:Up rk la)(sb:Up rk lb)(h:∀y∈lb.take nb,∀x∈la,rk y<=rk x):IC rk la lb (lb.take nb++la.take na++o):=by
 refine⟨?_,((sb.take nb).app (sa.take na) λx hx y hy=>h x hx y (BJ hy)).app j.srt λx hx y hy=>?_⟩
 ·refine List.Perm.trans ?_ j.all
  exact Bc _ CZ
 ·rcases Ao.mp hx with hx|hx
  ·exact j.ub x hx y hy
  ·exact j.ua x hx y hy
noncomputable def lP:Array Keyed->Array Keyed->StateT SortSt Sem (Array Keyed):=sortPriv% PySem.Builtin.mergeLo
noncomputable def YH:Array Keyed->Array Keyed->StateT SortSt Sem (Array Keyed):=sortPriv% PySem.Builtin.mergeHi
structure Gs(st st':SortSt):Prop where
 kind:kindOf st'=kindOf st
 arr:arrOf st'=arrOf st
 pend:pendingOf st'=pendingOf st
 failed:failedOf st'=failedOf st
theorem Gs.refl(st:SortSt):Gs st st:=⟨rfl,rfl,rfl,rfl⟩
theorem Gs.trans{a b c:SortSt}(h:Gs a b)(q:Gs b c):Gs a c:=⟨q.kind.trans h.kind,q.arr.trans h.arr,q.pend.trans h.pend,q.failed.trans h.failed⟩
theorem RO(st:SortSt)(g:Nat):Gs st (SortSt.mk' (kindOf st) (arrOf st) (pendingOf st) g (failedOf st)):=⟨rfl,rfl,rfl,rfl⟩
theorem N0{xs:Array Keyed}{i k:Nat}{x:Keyed}(h:x∈(xs.toList.drop i).take k):∃j,i<=j/\j<i+k/\j<xs.size/\kv rk xs j=rk x/\xs[j]?=some x:=by
 obtain⟨m,hm,e⟩:=Gz h
 have l:=hm
 rw[Ap,BG,AV]at l
 have e2:xs[i+m]?=some x:=by
  rw[List.getElem_take,List.getElem_drop]at e
  rw[<-e,<-BE]
  exact AL (by rw[AV];lia)
 exact⟨i+m,by lia,by lia,by lia,Im e2,e2⟩
theorem PF{xs:Array Keyed}{i:Nat}{x:Keyed}(h:x∈xs.toList.drop i):∃j,i<=j/\j<xs.size/\kv rk xs j=rk x:=by
 have h':x∈(xs.toList.drop i).take xs.size:=by
  rw[Ab (by rw[BG,AV];lia)]
  exact h
 obtain⟨j,h1,_,h3,h4,_⟩:=N0 (rk:=rk) h'
 exact⟨j,h1,h3,h4⟩
theorem UH{xs:Array Keyed}{i:Nat}{x:Keyed}(h:x∈xs.toList.take i):∃j,j<i/\j<xs.size/\kv rk xs j=rk x:=by
 have h':x∈(xs.toList.drop 0).take i:=by rw[DY];exact h
 obtain⟨j,h1,h2,h3,h4,_⟩:=N0 (rk:=rk) h'
 exact⟨j,by lia,h3,h4⟩
theorem LB{xs:Array Keyed}(h:Up rk xs.toList):JZ rk xs 0 xs.size:=λi j _ hij hj=>by
 by_cases e:i=j
 ·subst e;exact AH _
 ·have q:=Bx.mp h i j (by rw[AV];lia) (by rw[AV];lia) (by lia)
  have ei:xs[i]?=some xs[i]:=AO (by lia)
  have ej:xs[j]?=some xs[j]:=AO (by lia)
  rw[Im ei,Im ej]
  simpa using q
theorem V6{xs:Array Keyed}{i k:Nat}(h:JZ rk xs i (i+k))(hz:i+k<=xs.size):Up rk (xs.toList.drop i |>.take k):=by
 refine Bx.mpr λp q hp hq hpq=>?_
 have l:=hq
 rw[Ap,BG,AV]at l
 have ep:xs[i+p]?=some xs[i+p]:=AO (by lia)
 have eq:xs[i+q]?=some xs[i+q]:=AO (by lia)
 have r:=h (i+p) (i+q) (by lia) (by lia) (by lia)
 rw[Im ep,Im eq]at r
 simpa [List.getElem_take,List.getElem_drop]using r
theorem N3{xs:Array Keyed}{i:Nat}{x:Keyed}(h:xs[i]?=some x):(xs.toList.drop i).take 1=[x]:=by
 obtain⟨hi,e⟩:=Dd.mp h
 have hl:i<xs.toList.length:=by rw[AV];exact hi
 rw[List.drop_eq_getElem_cons hl,Dk,DH]
 rw[Array.getElem_toList,e]
theorem Lx(xs:Array Keyed)(i j:Nat):(xs.extract i j).toList=(xs.toList.drop i).take (j-i):=by
 rw[Array.toList_extract,List.extract_eq_drop_take]
theorem WP(xs:Array Keyed)(i:Nat):(xs.extract i xs.size).toList=xs.toList.drop i:=by
 rw[Lx,Ab (by rw[BG,AV];lia)]
theorem Wz(xs:Array Keyed)(i:Nat):(xs.extract 0 i).toList=xs.toList.take i:=by
 rw[Lx,DY,HE]
section
variable{prog:yL}{w:yM}{A:Around}{E:xZ}{s:yH}{κ:SortKind}{M:Keyed->Prop}
theorem XT{σ α:Type}{c:Prop}[Decidable c]{x y:StateT σ Sem α}{Q:α->σ->Prop}{st:σ}(h1:c->wpS (model prog w) A E s x Q st)(h2:¬ c->wpS (model prog w) A E s y Q st):wpS (model prog w) A E s (if c then x else y) Q st:=by
 by_cases h:c
 ·rw[AF h];exact h1 h
 ·rw[AD h];exact h2 h
noncomputable abbrev Oa:=Option (Array Keyed)×Array Keyed×Nat×Nat×Nat×Nat×Nat
noncomputable def l3(a b:Array Keyed)(out:Array Keyed)(ia ib g ac bc:Nat):StateT SortSt Sem (ForInStep Oa):=do
 let x <-elem' a ia
 if (ia+1+1==a.size)=true then pure (.done (some (out.push x++b.extract ib b.size++a.extract (ia+1) a.size),out.push x,ia+1,ib,g,ac,bc))
 else if (decide (ac<7)&&decide (bc<7))=true then pure (.done (none,out.push x,ia+1,ib,g,ac,bc))
 else pure (.yield (none,out.push x,ia+1,ib,g,ac,bc))
noncomputable def l2(a b:Array Keyed)(out:Array Keyed)(ia ib g ac bc0:Nat):StateT SortSt Sem (ForInStep Oa):=do
 let x <-elem' b ib
 if (ib+1==b.size)=true then pure (.done (some (out.push x++a.extract ia a.size++b.extract (ib+1) b.size),out.push x,ia,ib+1,g,ac,bc0))
 else do
  let y <-elem' a ia
  let r <-UW true y b (ib+1) (b.size-(ib+1)) 0
  match r with
  |some k =>
   if k>0 then
    if (ib+1+k==b.size)=true then pure (.done (some (out.push x++b.extract (ib+1) (ib+1+k)++a.extract ia a.size++b.extract (ib+1+k) b.size),out.push x++b.extract (ib+1) (ib+1+k),ia,ib+1+k,g,ac,k))
    else l3 a b (out.push x++b.extract (ib+1) (ib+1+k)) ia (ib+1+k) g ac k
   else l3 a b (out.push x) ia (ib+1) g ac k
  |_=>pure (.done (some (out.push x++a.extract ia a.size++b.extract (ib+1) b.size),out.push x,ia,ib+1,g,ac,bc0))
noncomputable def l1(a b:Array Keyed)(out:Array Keyed)(ia ib g ac0 bc0:Nat):StateT SortSt Sem (ForInStep Oa):=do
 let y <-elem' b ib
 let r <-UW false y a ia (a.size-ia) 0
 match r with
 |some k =>
  if k>0 then
   if (ia+k+1==a.size)=true then pure (.done (some (out++a.extract ia (ia+k)++b.extract ib b.size++a.extract (ia+k) a.size),out++a.extract ia (ia+k),ia+k,ib,g,k,bc0))
   else if (ia+k==a.size)=true then pure (.done (some (out++a.extract ia (ia+k)++a.extract (ia+k) a.size++b.extract ib b.size),out++a.extract ia (ia+k),ia+k,ib,g,k,bc0))
   else l2 a b (out++a.extract ia (ia+k)) (ia+k) ib g k bc0
  else l2 a b out ia ib g k bc0
 |_=>pure (.done (some (out++a.extract ia a.size++b.extract ib b.size),out,ia,ib,g,ac0,bc0))
structure Hy(M:Keyed->Prop)(rk:Keyed->Nat)(a b:Array Keyed):Prop where
 ma:All M a
 mb:All M b
 sa:Up rk a.toList
 sb:Up rk b.toList
 za:0<a.size
 zb:0<b.size
 fst:kv rk b 0<kv rk a 0
 lst:∀i,i<b.size->kv rk b i<kv rk a (a.size-1)
variable{a b:Array Keyed}
theorem Hy.done(m:Hy M rk a b){out:Array Keyed}(j:J rk a.toList b.toList out.toList ia ib)(h:ia=a.size∨ib=b.size):IC rk a.toList b.toList (out++a.extract ia a.size++b.extract ib b.size).toList:=by
 rw[BS,BS,WP,WP]
 exact j.done m.sa m.sb (by rw[AV,AV];exact h)
theorem Hy.last(m:Hy M rk a b){out:Array Keyed}(j:J rk a.toList b.toList out.toList ia ib)(h:ia+1=a.size):IC rk a.toList b.toList (out++b.extract ib b.size++a.extract ia a.size).toList:=by
 rw[BS,BS,WP,WP]
 refine j.last m.sa m.sb λy hy x hx=>?_
 obtain⟨p,p1,p2,p3⟩:=PF (rk:=rk) (i:=0) (by rw[DY];exact hy)
 obtain⟨r,r1,r2,r3⟩:=PF (rk:=rk) hx
 have e:r=a.size-1:=by lia
 have:=m.lst p p2
 rw[e]at r3
 lia
theorem Hy.pushA(m:Hy M rk a b){out:Array Keyed}{x:Keyed}(j:J rk a.toList b.toList out.toList ia ib)(hx:a[ia]?=some x)(h:∀i,ib<=i->i<b.size->kv rk a ia<=kv rk b i):J rk a.toList b.toList (out.push x).toList (ia+1) ib:=by
 obtain⟨hi,_⟩:=Dd.mp hx
 have q:=j.a (k:=1) m.sa (by rw[AV];lia) (λz hz y hy=>by
  rw[N3 hx]at hz
  rw[AS.mp hz]
  obtain⟨r,r1,r2,r3⟩:=PF (rk:=rk) hy
  have:=h r r1 r2
  rw[Im hx]at this
  lia)
 rw[N3 hx]at q
 rw[DX]
 exact q
theorem Hy.pushB(m:Hy M rk a b){out:Array Keyed}{x:Keyed}(j:J rk a.toList b.toList out.toList ia ib)(hx:b[ib]?=some x)(h:∀i,ia<=i->i<a.size->kv rk b ib<=kv rk a i):J rk a.toList b.toList (out.push x).toList ia (ib+1):=by
 obtain⟨hi,_⟩:=Dd.mp hx
 have q:=j.b (k:=1) m.sb (by rw[AV];lia) (λz hz y hy=>by
  rw[N3 hx]at hz
  rw[AS.mp hz]
  obtain⟨r,r1,r2,r3⟩:=PF (rk:=rk) hy
  have:=h r r1 r2
  rw[Im hx]at this
  lia)
 rw[N3 hx]at q
 rw[DX]
 exact q
theorem Hy.appA(m:Hy M rk a b){out:Array Keyed}(j:J rk a.toList b.toList out.toList ia ib)(hk:ia+k<=a.size)(h:∀p,ia<=p->p<ia+k->∀i,ib<=i->i<b.size->kv rk a p<=kv rk b i):J rk a.toList b.toList (out++a.extract ia (ia+k)).toList (ia+k) ib:=by
 have q:=j.a (k:=k) m.sa (by rw[AV];lia) (λz hz y hy=>by
  obtain⟨p,p1,p2,p3,p4,_⟩:=N0 (rk:=rk) hz
  obtain⟨r,r1,r2,r3⟩:=PF (rk:=rk) hy
  have:=h p p1 p2 r r1 r2
  lia)
 rw[BS,Lx,FR]
 exact q
theorem Hy.appB(m:Hy M rk a b){out:Array Keyed}(j:J rk a.toList b.toList out.toList ia ib)(hk:ib+k<=b.size)(h:∀p,ib<=p->p<ib+k->∀i,ia<=i->i<a.size->kv rk b p<=kv rk a i):J rk a.toList b.toList (out++b.extract ib (ib+k)).toList ia (ib+k):=by
 have q:=j.b (k:=k) m.sb (by rw[AV];lia) (λz hz y hy=>by
  obtain⟨p,p1,p2,p3,p4,_⟩:=N0 (rk:=rk) hz
  obtain⟨r,r1,r2,r3⟩:=PF (rk:=rk) hy
  have:=h p p1 p2 r r1 r2
  lia)
 rw[BS,Lx,FR]
 exact q
noncomputable def NX(rk:Keyed->Nat)(a b:Array Keyed)(p:Nat)(st:SortSt)(c:Oa)(st':SortSt):Prop:=Gs st st' /\
 ((∃r,c.1=some r/\IC rk a.toList b.toList r.toList)∨(c.1=none/\J rk a.toList b.toList c.2.1.toList c.2.2.1 c.2.2.2.1/\c.2.2.1+1<a.size/\c.2.2.2.1<b.size/\p<=c.2.2.1+c.2.2.2.1))
theorem TN(m:Hy M rk a b){out:Array Keyed}{g ac bc p:Nat}{st st':SortSt}{R:ForInStep Oa->SortSt->Prop}(gs:Gs st st')(j:J rk a.toList b.toList out.toList ia ib)(h1:ia+1<a.size)(h2:ib<b.size)(hp:p<=ia+ib)
  (h:∀i,ib<=i->i<b.size->kv rk a ia<=kv rk b i) (d:∀c,NX rk a b p st c st'->R (.done c) st') (y:∀c,c.1=none->NX rk a b p st c st'->R (.yield c) st'):wpS (model prog w) A E s (l3 a b out ia ib g ac bc) R st':=by
 have ea:a[ia]?=some a[ia]:=AO (by lia)
 refine AX (Jm ea ?_)
 have j':=m.pushA j ea h
 by_cases c:ia+1+1=a.size
 ·rw[AF (by simpa using c)]
  exact Ah (d _ ⟨gs,.inl ⟨_,rfl,m.last j' c⟩⟩)
 ·rw[AD (by simpa using c)]
  have on:NX rk a b p st (none,out.push a[ia],ia+1,ib,g,ac,bc) st':=⟨gs,.inr ⟨rfl,j',(by show ia+1+1<a.size;lia),h2,(by show p<=ia+1+ib;lia)⟩⟩
  split
  ·exact Ah (d _ on)
  ·exact Ah (y _ rfl on)
theorem Uu(hA:Kd prog w A s κ M rk)(m:Hy M rk a b){out:Array Keyed}{g ac bc p:Nat}{st st':SortSt}{R:ForInStep Oa->SortSt->Prop}(hk:kindOf st=κ)(gs:Gs st st')(j:J rk a.toList b.toList out.toList ia ib)(h1:ia+1<a.size)(h2:ib<b.size)(hp:p<=ia+ib)
  (h:∀i,ia<=i->i<a.size->kv rk b ib<=kv rk a i) (d:∀c,NX rk a b p st c st'->R (.done c) st') (y:∀c,c.1=none->NX rk a b p st c st'->R (.yield c) st'):wpS (model prog w) A E s (l2 a b out ia ib g ac bc) R st':=by
 have eb:b[ib]?=some b[ib]:=AO h2
 have ea:a[ia]?=some a[ia]:=AO (by lia)
 refine AX (Jm eb ?_)
 have j':=m.pushB j eb h
 by_cases c:ib+1=b.size
 ·rw[AF (by simpa using c)]
  exact Ah (d _ ⟨gs,.inl ⟨_,rfl,m.done j' (.inr c)⟩⟩)
 ·rw[AD (by simpa using c)]
  refine AX (Jm ea (AX (Qd hA (gs.kind.trans hk) (m.ma _ _ ea) m.mb (by lia) (by lia) (λi k a1 a2 a3=>LB m.sb i k (Az _) a2 (by lia)) λk k1 k2 k3=>?_)))
  have sA:=LB m.sa
  have lt:∀i,ib+1<=i->i<ib+1+k->kv rk b i<kv rk a ia:=λi i1 i2=>by
   have:=k2 i i1 i2
   unfold Bd at this
   rw[AF rfl,<-Im (rk:=rk) ea]at this
   exact this
  have ge:∀i,ib+1+k<=i->i<b.size->kv rk a ia<=kv rk b i:=λi i1 i2=>by
   have:=k3 i i1 (by lia)
   unfold Bd at this
   rw[AF rfl,<-Im (rk:=rk) ea]at this
   lia
  dsimp only
  by_cases k0:k>0
  ·rw[AF k0]
   have j2:=m.appB (k:=k) j' (by lia) (λp p1 p2 i i1 i2=>by
    have q1:=lt p p1 p2
    have q2:=sA ia i (Az _) i1 i2
    lia)
   by_cases c2:ib+1+k=b.size
   ·rw[AF (by simpa using c2)]
    exact Ah (d _ ⟨gs,.inl ⟨_,rfl,m.done j2 (.inr c2)⟩⟩)
   ·rw[AD (by simpa using c2)]
    exact TN m gs j2 h1 (by lia) (by lia) ge d y
  ·rw[AD k0]
   exact TN m gs j' h1 (by lia) (by lia) (λi i1 i2=>ge i (by lia) i2) d y
theorem Tw(hA:Kd prog w A s κ M rk)(m:Hy M rk a b){out:Array Keyed}{g ac bc p:Nat}{st st':SortSt}{R:ForInStep Oa->SortSt->Prop}(hk:kindOf st=κ)(gs:Gs st st')(j:J rk a.toList b.toList out.toList ia ib)(h1:ia+1<a.size)(h2:ib<b.size)(hp:p<=ia+ib)
  (d:∀c,NX rk a b p st c st'->R (.done c) st') (y:∀c,c.1=none->NX rk a b p st c st'->R (.yield c) st'):wpS (model prog w) A E s (l1 a b out ia ib g ac bc) R st':=by
 have eb:b[ib]?=some b[ib]:=AO h2
 refine AX (Jm eb (AX (Qd hA (gs.kind.trans hk) (m.mb _ _ eb) m.ma (by lia) (by lia) (λi k a1 a2 a3=>LB m.sa i k (Az _) a2 (by lia)) λk k1 k2 k3=>?_)))
 have sB:=LB m.sb
 have le:∀i,ia<=i->i<ia+k->kv rk a i<=kv rk b ib:=λi i1 i2=>by
  have:=k2 i i1 i2
  unfold Bd at this
  rw[AD (by decide),<-Im (rk:=rk) eb]at this
  exact this
 have gt:∀i,ia+k<=i->i<a.size->kv rk b ib<=kv rk a i:=λi i1 i2=>by
  have:=k3 i i1 (by lia)
  unfold Bd at this
  rw[AD (by decide),<-Im (rk:=rk) eb]at this
  lia
 dsimp only
 by_cases k0:k>0
 ·rw[AF k0]
  have j2:=m.appA (k:=k) j (by lia) (λp p1 p2 i i1 i2=>by
   have q1:=le p p1 p2
   have q2:=sB ib i (Az _) i1 i2
   lia)
  by_cases c:ia+k+1=a.size
  ·rw[AF (by simpa using c)]
   exact Ah (d _ ⟨gs,.inl ⟨_,rfl,m.last j2 c⟩⟩)
  rw[AD (by simpa using c)]
  by_cases c2:ia+k=a.size
  ·rw[AF (by simpa using c2)]
   exact Ah (d _ ⟨gs,.inl ⟨_,rfl,m.done j2 (.inl c2)⟩⟩)
  ·rw[AD (by simpa using c2)]
   exact Uu hA m hk gs j2 (by lia) h2 (by lia) gt d y
 ·rw[AD k0]
  exact Uu hA m hk gs j h1 h2 hp (λi i1 i2=>gt i (by lia) i2) d y
theorem mB(hA:Kd prog w A s κ M rk){st:SortSt}{Q:Array Keyed->SortSt->Prop}(hk:kindOf st=κ)(m:Hy M rk a b)
  (q:∀r st',Gs st st'->IC rk a.toList b.toList r.toList->Q r st'):wpS (model prog w) A E s (lP a b) Q st:=by
 refine AX (Eb (CW ⟨rfl,?_⟩))
 have za:=m.za
 have zb:=m.zb
 have eb0:b[0]?=some b[0]:=AO zb
 have sA:=LB m.sa
 have sB:=LB m.sb
 have j0:J rk a.toList b.toList (#[]:Array Keyed).toList 0 0:=⟨Az _,Az _,by simp,List.Pairwise.nil,λx hx=>by simp at hx,λx hx=>by simp at hx⟩
 have j1:J rk a.toList b.toList (#[b[0]]:Array Keyed).toList 0 1:=m.pushB j0 eb0 λi i1 i2=>As (Bf m.fst) (sA 0 i (Az _) i1 i2)
 refine AX (Jm eb0 ?_)
 by_cases c1:1=b.size
 ·rw[AF (by simpa using c1)]
  exact Ah (q _ st (Gs.refl _) (m.done j1 (.inr c1)))
 rw[AD (by simpa using c1)]
 by_cases c2:0+1=a.size
 ·rw[AF (by simpa using c2)]
  exact Ah (q _ st (Gs.refl _) (m.last j1 c2))
 rw[AD (by simpa using c2)]
 refine AX (D1 ?_)
 refine AX (Cr (Bi (I:=λx c st'=>Gs st st'/\c.1=none/\J rk a.toList b.toList c.2.1.toList c.2.2.1 c.2.2.2.1/\c.2.2.1+1<a.size/\c.2.2.2.1<b.size/\x+1<=c.2.2.1+c.2.2.2.1)
  (Q:=λc st'=>Gs st st'/\∃r,c.1=some r/\IC rk a.toList b.toList r.toList) ?step ?fin ⟨Gs.refl _,rfl,j1,by show 0+1<a.size;lia,by show 1<b.size;lia,AH _⟩) ?post)
 case post =>
  rintro⟨c,Hl⟩ st' ⟨gs,r,e,g⟩
  have e':c=some r:=e
  subst e'
  exact Ah (q r st' gs g)
 case fin =>
  rintro⟨c,out,ia,ib,g⟩ st' ⟨gs,e,j,h1,h2,h3⟩
  exfalso
  dsimp only at h1 h2 h3
  lia
 case step =>
  rintro x ⟨c,out,ia,ib,g⟩ st' _ hx ⟨gs,e,j,h1,h2,h3⟩
  dsimp only at e j h1 h2 h3
  subst e
  refine AX (Cr (Bi (I:=λy c st''=>st''=st'/\c.1=none/\J rk a.toList b.toList c.2.1.toList c.2.2.1 c.2.2.2.1/\c.2.2.1+1<a.size/\c.2.2.2.1<b.size/\x+1+min y 1<=c.2.2.1+c.2.2.2.1)
   (Q:=λc st''=>st''=st'/\((∃r,c.1=some r/\IC rk a.toList b.toList r.toList)∨(c.1=none/\J rk a.toList b.toList c.2.1.toList c.2.2.1 c.2.2.2.1/\c.2.2.1+1<a.size/\c.2.2.2.1<b.size/\x+2<=c.2.2.1+c.2.2.2.1))) ?step1 ?fin1 ⟨rfl,rfl,j,h1,h2,by show x+1+min 0 1<=ia+ib;lia⟩) ?post1)
  case fin1 =>
   rintro⟨c,out,ia,ib,ac,bc⟩ st'' ⟨e1,e,j,h1,h2,h3⟩
   refine⟨e1,.inr ⟨e,j,h1,h2,?_⟩⟩
   dsimp only at h3 ⊢
   lia
  case step1 =>
   rintro y ⟨c,out,ia,ib,ac,bc⟩ st'' _ hy ⟨e1,e,j,h1,h2,h3⟩
   subst e1
   dsimp only at e j h1 h2 h3
   subst e
   have eb:b[ib]?=some b[ib]:=AO h2
   have ea:a[ia]?=some a[ia]:=AO (by lia)
   refine AX (Jm eb (AX (Jm ea (AX (Vs hA (gs.kind.trans hk) (m.mb _ _ eb) (m.ma _ _ ea) ?_)))))
   by_cases c:rk b[ib]<rk a[ia]
   ·rw[Ac c]
    dsimp only
    rw[AF rfl]
    refine AX (Jm eb ?_)
    have j':=m.pushB j eb λi i1 i2=>by
     have q1:=sA ia i (Az _) i1 i2
     rw[Im ea]at q1
     rw[Im eb]
     lia
    by_cases c3:ib+1=b.size
    ·rw[AF (by simpa using c3)]
     exact Ah ⟨rfl,.inl ⟨_,rfl,m.done j' (.inr c3)⟩⟩
    rw[AD (by simpa using c3)]
    split
    ·exact Ah ⟨rfl,.inr ⟨rfl,j',h1,by dsimp only;lia,by dsimp only;lia⟩⟩
    ·exact Ah ⟨rfl,rfl,j',h1,by dsimp only;lia,by dsimp only;lia⟩
   ·rw[Aa c]
    dsimp only
    rw[AD (by decide)]
    refine AX (Jm ea ?_)
    have j':=m.pushA j ea λi i1 i2=>by
     have q1:=sB ib i (Az _) i1 i2
     rw[Im eb]at q1
     rw[Im ea]
     lia
    by_cases c3:ia+1+1=a.size
    ·rw[AF (by simpa using c3)]
     exact Ah ⟨rfl,.inl ⟨_,rfl,m.last j' c3⟩⟩
    rw[AD (by simpa using c3)]
    split
    ·exact Ah ⟨rfl,.inr ⟨rfl,j',by dsimp only;lia,h2,by dsimp only;lia⟩⟩
    ·exact Ah ⟨rfl,rfl,j',by dsimp only;lia,h2,by dsimp only;lia⟩
  case post1 =>
   rintro⟨c,out,ia,ib,ac,bc⟩ st'' ⟨e1,h⟩
   subst e1
   rcases h with⟨r,e,g1⟩|⟨e,j,h1,h2,h3⟩
   ·have e':c=some r:=e
    subst e'
    exact Ah ⟨gs,r,rfl,g1⟩
   ·dsimp only at e j h1 h2 h3
    subst e
    refine AX (Eb (CW ⟨rfl,?_⟩))
    refine AX (Cr (Bi (I:=λ_ c st3=>c.1=none/\NX rk a b (x+2) st c st3) (Q:=λc st3=>NX rk a b (x+2) st c st3) ?step2 ?fin2 ⟨rfl,gs,.inr ⟨rfl,j,h1,h2,h3⟩⟩) ?post2)
    case fin2 =>
     rintro c st3 ⟨_,hc⟩
     exact hc
    case step2 =>
     rintro y ⟨c,out,ia,ib,g2,ac,bc⟩ st3 _ hy ⟨e,gs3,hc⟩
     have e':c=none:=e
     subst e'
     rcases hc with⟨r,er,_⟩|⟨_,j,h1,h2,h3⟩
     ·cases er
     dsimp only at j h1 h2 h3
     refine XT (λ_=>?_) (λ_=>?_)
     ·refine AX (Cw ?_)
      exact Tw hA m hk (gs3.trans (RO st3 (g2-1))) j h1 h2 h3 (λc hc=>hc) (λc e hc=>⟨e,hc⟩)
     ·refine AX (Cw ?_)
      exact Tw hA m hk (gs3.trans (RO st3 g2)) j h1 h2 h3 (λc hc=>hc) (λc e hc=>⟨e,hc⟩)
    case post2 =>
     rintro⟨c,out,ia,ib,g2,ac,bc⟩ st3 ⟨gs3,hc⟩
     rcases hc with⟨r,er,g3⟩|⟨er,j,h1,h2,h3⟩
     ·have e':c=some r:=er
      subst e'
      exact Ah ⟨gs3,r,rfl,g3⟩
     ·have e':c=none:=er
      subst e'
      dsimp only at j h1 h2 h3 ⊢
      refine AX (Cw (Ah ⟨gs3.trans (RO st3 (g2+1)),rfl,j,h1,h2,by dsimp only;lia⟩))
end
end
section
variable{rk:Keyed->Nat}{na nb k:Nat}{prog:yL}{w:yM}{A:Around}{E:xZ}{s:yH}{κ:SortKind}{M:Keyed->Prop}
noncomputable abbrev Oh:=Option (Array Keyed)×Nat×Nat×Array Keyed×Nat×Nat×Nat
noncomputable def r3(a b:Array Keyed)(out:Array Keyed)(na nb g ac bc:Nat):StateT SortSt Sem (ForInStep Oh):=do
 let x <-elem' a (na-1)
 if (na-1==0)=true then pure (.done (some (a.extract 0 (na-1)++b.extract 0 nb++(out.push x).reverse),na-1,nb,out.push x,g,ac,bc))
 else if (decide (ac<7)&&decide (bc<7))=true then pure (.done (none,na-1,nb,out.push x,g,ac,bc))
 else pure (.yield (none,na-1,nb,out.push x,g,ac,bc))
noncomputable def r2(a b:Array Keyed)(out:Array Keyed)(na nb g ac bc0:Nat):StateT SortSt Sem (ForInStep Oh):=do
 let x <-elem' b (nb-1)
 if (nb-1==1)=true then pure (.done (some (b.extract 0 (nb-1)++a.extract 0 na++(out.push x).reverse),na,nb-1,out.push x,g,ac,bc0))
 else do
  let y <-elem' a (na-1)
  let r <-UW true y b 0 (nb-1) (nb-1-1)
  match r with
  |some p =>
   if nb-1-p>0 then
    if (p==1)=true then pure (.done (some (b.extract 0 p++a.extract 0 na++(out.push x++(b.extract p (nb-1)).reverse).reverse),na,p,out.push x++(b.extract p (nb-1)).reverse,g,ac,nb-1-p))
    else if (p==0)=true then pure (.done (some (a.extract 0 na++b.extract 0 p++(out.push x++(b.extract p (nb-1)).reverse).reverse),na,p,out.push x++(b.extract p (nb-1)).reverse,g,ac,nb-1-p))
    else r3 a b (out.push x++(b.extract p (nb-1)).reverse) na p g ac (nb-1-p)
   else r3 a b (out.push x) na (nb-1) g ac (nb-1-p)
  |_=>pure (.done (some (a.extract 0 na++b.extract 0 (nb-1)++(out.push x).reverse),na,nb-1,out.push x,g,ac,bc0))
noncomputable def r1(a b:Array Keyed)(out:Array Keyed)(na nb g ac0 bc0:Nat):StateT SortSt Sem (ForInStep Oh):=do
 let y <-elem' b (nb-1)
 let r <-UW false y a 0 na (na-1)
 match r with
 |some p =>
  if na-p>0 then
   if (p==0)=true then pure (.done (some (a.extract 0 p++b.extract 0 nb++(out++(a.extract p na).reverse).reverse),p,nb,out++(a.extract p na).reverse,g,na-p,bc0))
   else r2 a b (out++(a.extract p na).reverse) p nb g (na-p) bc0
  else r2 a b out na nb g (na-p) bc0
 |_=>pure (.done (some (a.extract 0 na++b.extract 0 nb++out.reverse),na,nb,out,g,ac0,bc0))
variable{a b:Array Keyed}
theorem Hy.done2(m:Hy M rk a b){out:Array Keyed}(j:J2 rk a.toList b.toList out.toList.reverse na nb)(h:na=0∨nb=0):IC rk a.toList b.toList (a.extract 0 na++b.extract 0 nb++out.reverse).toList:=by
 rw[BS,BS,Wz,Wz,Cf]
 exact j.done m.sa m.sb h
theorem Hy.first2(m:Hy M rk a b){out:Array Keyed}(j:J2 rk a.toList b.toList out.toList.reverse na nb)(h:nb=1):IC rk a.toList b.toList (b.extract 0 nb++a.extract 0 na++out.reverse).toList:=by
 rw[BS,BS,Wz,Wz,Cf]
 refine j.first m.sa m.sb λy hy x hx=>?_
 obtain⟨p,p1,p2,p3⟩:=UH (rk:=rk) hy
 obtain⟨r,r1,r2,r3⟩:=PF (rk:=rk) (i:=0) (by rw[DY];exact hx)
 have e:p=0:=by lia
 have:=m.fst
 have:=LB m.sa 0 r (AH _) (Az _) r2
 rw[e]at p3
 lia
theorem Hy.pushA2(m:Hy M rk a b){out:Array Keyed}{x:Keyed}(j:J2 rk a.toList b.toList out.toList.reverse na nb)(h1:0<na)(hx:a[na-1]?=some x)(h:∀i,i<nb->i<b.size->kv rk b i<=kv rk a (na-1)):J2 rk a.toList b.toList (out.push x).toList.reverse (na-1) nb:=by
 have e:na-1+1=na:=by lia
 rw[<-e]at j
 have q:=j.a (k:=1) m.sa (λz hz y hy=>by
  rw[N3 hx]at hz
  rw[AS.mp hz]
  obtain⟨r,r1,r2,r3⟩:=UH (rk:=rk) hy
  have:=h r r1 r2
  rw[Im hx]at this
  lia)
 rw[N3 hx]at q
 rw[DX,Dl]
 exact q
theorem Hy.pushB2(m:Hy M rk a b){out:Array Keyed}{x:Keyed}(j:J2 rk a.toList b.toList out.toList.reverse na nb)(h1:0<nb)(hx:b[nb-1]?=some x)(h:∀i,i<na->i<a.size->kv rk a i<=kv rk b (nb-1)):J2 rk a.toList b.toList (out.push x).toList.reverse na (nb-1):=by
 have e:nb-1+1=nb:=by lia
 rw[<-e]at j
 have q:=j.b (k:=1) m.sb (λz hz y hy=>by
  rw[N3 hx]at hz
  rw[AS.mp hz]
  obtain⟨r,r1,r2,r3⟩:=UH (rk:=rk) hy
  have:=h r r1 r2
  rw[Im hx]at this
  lia)
 rw[N3 hx]at q
 rw[DX,Dl]
 exact q
theorem Hy.appA2(m:Hy M rk a b){out:Array Keyed}{p:Nat}(j:J2 rk a.toList b.toList out.toList.reverse na nb)(hp:p<=na)(h:∀r,p<=r->r<na->∀i,i<nb->i<b.size->kv rk b i<=kv rk a r):J2 rk a.toList b.toList (out++(a.extract p na).reverse).toList.reverse p nb:=by
 have e:p+(na-p)=na:=by lia
 rw[<-e]at j
 have q:=j.a (k:=na-p) m.sa (λz hz y hy=>by
  obtain⟨r,r1,r2,r3,r4,_⟩:=N0 (rk:=rk) hz
  obtain⟨i,i1,i2,i3⟩:=UH (rk:=rk) hy
  have:=h r r1 (by lia) i i1 i2
  lia)
 rw[BS,Cf,Dl,DZ,Lx]
 exact q
theorem Hy.appB2(m:Hy M rk a b){out:Array Keyed}{p:Nat}(j:J2 rk a.toList b.toList out.toList.reverse na nb)(hp:p<=nb)(h:∀r,p<=r->r<nb->∀i,i<na->i<a.size->kv rk a i<=kv rk b r):J2 rk a.toList b.toList (out++(b.extract p nb).reverse).toList.reverse na p:=by
 have e:p+(nb-p)=nb:=by lia
 rw[<-e]at j
 have q:=j.b (k:=nb-p) m.sb (λz hz y hy=>by
  obtain⟨r,r1,r2,r3,r4,_⟩:=N0 (rk:=rk) hz
  obtain⟨i,i1,i2,i3⟩:=UH (rk:=rk) hy
  have:=h r r1 (by lia) i i1 i2
  lia)
 rw[BS,Cf,Dl,DZ,Lx]
 exact q
noncomputable def NM(rk:Keyed->Nat)(a b:Array Keyed)(p:Nat)(st:SortSt)(c:Oh)(st':SortSt):Prop:=Gs st st' /\
 ((∃r,c.1=some r/\IC rk a.toList b.toList r.toList)∨(c.1=none/\J2 rk a.toList b.toList c.2.2.2.1.toList.reverse c.2.1 c.2.2.1/\1<=c.2.1/\2<=c.2.2.1/\p+c.2.1+c.2.2.1<=a.size+b.size))
theorem J2.za(j:J2 rk a.toList b.toList o na nb):na<=a.size:=by have:=j.ha;rwa [AV]at this
theorem J2.zb(j:J2 rk a.toList b.toList o na nb):nb<=b.size:=by have:=j.hb;rwa [AV]at this
theorem V0(m:Hy M rk a b){out:Array Keyed}{g ac bc p:Nat}{st st':SortSt}{R:ForInStep Oh->SortSt->Prop}(gs:Gs st st')(j:J2 rk a.toList b.toList out.toList.reverse na nb)(h1:1<=na)(h2:2<=nb)(hp:p+na+nb<=a.size+b.size)
  (h:∀i,i<nb->i<b.size->kv rk b i<=kv rk a (na-1)) (d:∀c,NM rk a b p st c st'->R (.done c) st') (y:∀c,c.1=none->NM rk a b p st c st'->R (.yield c) st'):wpS (model prog w) A E s (r3 a b out na nb g ac bc) R st':=by
 have z:=j.za
 have ea:a[na-1]?=some a[na-1]:=AO (by lia)
 refine AX (Jm ea ?_)
 have j':=m.pushA2 j h1 ea h
 by_cases c:na-1=0
 ·rw[AF (by simpa using c)]
  exact Ah (d _ ⟨gs,.inl ⟨_,rfl,m.done2 j' (.inl c)⟩⟩)
 ·rw[AD (by simpa using c)]
  have on:NM rk a b p st (none,na-1,nb,out.push a[na-1],g,ac,bc) st':=⟨gs,.inr ⟨rfl,j',(by show 1<=na-1;lia),h2,(by show p+(na-1)+nb<=a.size+b.size;lia)⟩⟩
  split
  ·exact Ah (d _ on)
  ·exact Ah (y _ rfl on)
theorem VP(hA:Kd prog w A s κ M rk)(m:Hy M rk a b){out:Array Keyed}{g ac bc p:Nat}{st st':SortSt}{R:ForInStep Oh->SortSt->Prop}(hk:kindOf st=κ)(gs:Gs st st')(j:J2 rk a.toList b.toList out.toList.reverse na nb)(h1:1<=na)(h2:2<=nb)(hp:p+na+nb<=a.size+b.size)
  (h:∀i,i<na->i<a.size->kv rk a i<=kv rk b (nb-1)) (d:∀c,NM rk a b p st c st'->R (.done c) st') (y:∀c,c.1=none->NM rk a b p st c st'->R (.yield c) st'):wpS (model prog w) A E s (r2 a b out na nb g ac bc) R st':=by
 have z:=j.za
 have z2:=j.zb
 have ea:a[na-1]?=some a[na-1]:=AO (by lia)
 have eb:b[nb-1]?=some b[nb-1]:=AO (by lia)
 refine AX (Jm eb ?_)
 have j':=m.pushB2 j (by lia) eb h
 by_cases c:nb-1=1
 ·rw[AF (by simpa using c)]
  exact Ah (d _ ⟨gs,.inl ⟨_,rfl,m.first2 j' c⟩⟩)
 ·rw[AD (by simpa using c)]
  refine AX (Jm ea (AX (Qd hA (gs.kind.trans hk) (m.ma _ _ ea) m.mb (by lia) (by lia) (λi k a1 a2 a3=>LB m.sb i k (Az _) a2 (by lia)) λr k1 k2 k3=>?_)))
  have sA:=LB m.sa
  have lt:∀i,i<r->kv rk b i<kv rk a (na-1):=λi i2=>by
   have:=k2 i (Az _) (by lia)
   unfold Bd at this
   rw[AF rfl,<-Im (rk:=rk) ea]at this
   exact this
  have ge:∀i,r<=i->i<nb-1->kv rk a (na-1)<=kv rk b i:=λi i1 i2=>by
   have:=k3 i (by lia) (by lia)
   unfold Bd at this
   rw[AF rfl,<-Im (rk:=rk) ea]at this
   lia
  dsimp only
  by_cases k0:nb-1-r>0
  ·rw[AF k0]
   have j2:=m.appB2 (p:=r) j' (by lia) (λq q1 q2 i i1 i2=>by
    have e1:=ge q q1 q2
    have e2:=sA i (na-1) (Az _) (by lia) (by lia)
    lia)
   by_cases c2:r=1
   ·rw[AF (by simpa using c2)]
    exact Ah (d _ ⟨gs,.inl ⟨_,rfl,m.first2 j2 c2⟩⟩)
   rw[AD (by simpa using c2)]
   by_cases c3:r=0
   ·rw[AF (by simpa using c3)]
    exact Ah (d _ ⟨gs,.inl ⟨_,rfl,m.done2 j2 (.inr c3)⟩⟩)
   ·rw[AD (by simpa using c3)]
    exact V0 m gs j2 h1 (by lia) (by lia) (λi i1 i2=>Bf (lt i i1)) d y
  ·rw[AD k0]
   exact V0 m gs j' h1 (by lia) (by lia) (λi i1 i2=>Bf (lt i (by lia))) d y
theorem U7(hA:Kd prog w A s κ M rk)(m:Hy M rk a b){out:Array Keyed}{g ac bc p:Nat}{st st':SortSt}{R:ForInStep Oh->SortSt->Prop}(hk:kindOf st=κ)(gs:Gs st st')(j:J2 rk a.toList b.toList out.toList.reverse na nb)(h1:1<=na)(h2:2<=nb)(hp:p+na+nb<=a.size+b.size)
  (d:∀c,NM rk a b p st c st'->R (.done c) st') (y:∀c,c.1=none->NM rk a b p st c st'->R (.yield c) st'):wpS (model prog w) A E s (r1 a b out na nb g ac bc) R st':=by
 have z:=j.za
 have z2:=j.zb
 have eb:b[nb-1]?=some b[nb-1]:=AO (by lia)
 refine AX (Jm eb (AX (Qd hA (gs.kind.trans hk) (m.mb _ _ eb) m.ma (by lia) (by lia) (λi k a1 a2 a3=>LB m.sa i k (Az _) a2 (by lia)) λr k1 k2 k3=>?_)))
 have sB:=LB m.sb
 have le:∀i,i<r->kv rk a i<=kv rk b (nb-1):=λi i2=>by
  have:=k2 i (Az _) (by lia)
  unfold Bd at this
  rw[AD (by decide),<-Im (rk:=rk) eb]at this
  exact this
 have gt:∀i,r<=i->i<na->kv rk b (nb-1)<=kv rk a i:=λi i1 i2=>by
  have:=k3 i (by lia) (by lia)
  unfold Bd at this
  rw[AD (by decide),<-Im (rk:=rk) eb]at this
  lia
 dsimp only
 by_cases k0:na-r>0
 ·rw[AF k0]
  have j2:=m.appA2 (p:=r) j (by lia) (λq q1 q2 i i1 i2=>by
   have e1:=gt q q1 q2
   have e2:=sB i (nb-1) (Az _) (by lia) (by lia)
   lia)
  by_cases c:r=0
  ·rw[AF (by simpa using c)]
   exact Ah (d _ ⟨gs,.inl ⟨_,rfl,m.done2 j2 (.inl c)⟩⟩)
  ·rw[AD (by simpa using c)]
   exact VP hA m hk gs j2 (by lia) h2 (by lia) (λi i1 i2=>le i i1) d y
 ·rw[AD k0]
  exact VP hA m hk gs j h1 h2 hp (λi i1 i2=>le i (by lia)) d y
theorem jK(hA:Kd prog w A s κ M rk){st:SortSt}{Q:Array Keyed->SortSt->Prop}(hk:kindOf st=κ)(m:Hy M rk a b)
  (q:∀r st',Gs st st'->IC rk a.toList b.toList r.toList->Q r st'):wpS (model prog w) A E s (YH a b) Q st:=by
 refine AX (Eb (CW ⟨rfl,?_⟩))
 have za:=m.za
 have zb:=m.zb
 have ea0:a[a.size-1]?=some a[a.size-1]:=AO (by lia)
 have sA:=LB m.sa
 have sB:=LB m.sb
 have j0:J2 rk a.toList b.toList (#[]:Array Keyed).toList.reverse a.size b.size:=⟨by rw[AV];exact AH _,by rw[AV];exact AH _,by simp [Ct],List.Pairwise.nil,λx hx y hy=>by simp at hy,λx hx y hy=>by simp at hy⟩
 have j1:J2 rk a.toList b.toList (#[a[a.size-1]]:Array Keyed).toList.reverse (a.size-1) b.size:=m.pushA2 j0 za ea0 λi i1 i2=>Bf (m.lst i i2)
 refine AX (Jm ea0 ?_)
 by_cases c1:a.size-1=0
 ·rw[AF (by simpa using c1)]
  exact Ah (q _ st (Gs.refl _) (m.done2 j1 (.inl c1)))
 rw[AD (by simpa using c1)]
 by_cases c2:b.size=1
 ·rw[AF (by simpa using c2)]
  exact Ah (q _ st (Gs.refl _) (m.first2 j1 c2))
 rw[AD (by simpa using c2)]
 refine AX (D1 ?_)
 refine AX (Cr (Bi (I:=λx c st'=>Gs st st'/\c.1=none/\J2 rk a.toList b.toList c.2.2.2.1.toList.reverse c.2.1 c.2.2.1/\1<=c.2.1/\2<=c.2.2.1/\x+1+c.2.1+c.2.2.1<=a.size+b.size)
  (Q:=λc st'=>Gs st st'/\∃r,c.1=some r/\IC rk a.toList b.toList r.toList) ?step ?fin ⟨Gs.refl _,rfl,j1,by show 1<=a.size-1;lia,by show 2<=b.size;lia,by show 0+1+(a.size-1)+b.size<=a.size+b.size;lia⟩) ?post)
 case post =>
  rintro⟨c,Hl⟩ st' ⟨gs,r,e,g⟩
  have e':c=some r:=e
  subst e'
  exact Ah (q r st' gs g)
 case fin =>
  rintro⟨c,na,nb,out,g⟩ st' ⟨gs,e,j,h1,h2,h3⟩
  exfalso
  dsimp only at h1 h2 h3
  lia
 case step =>
  rintro x ⟨c,na,nb,out,g⟩ st' _ hx ⟨gs,e,j,h1,h2,h3⟩
  dsimp only at e j h1 h2 h3
  subst e
  refine AX (Cr (Bi (I:=λy c st''=>st''=st'/\c.1=none/\J2 rk a.toList b.toList c.2.2.2.1.toList.reverse c.2.1 c.2.2.1/\1<=c.2.1/\2<=c.2.2.1/\x+1+min y 1+c.2.1+c.2.2.1<=a.size+b.size)
   (Q:=λc st''=>st''=st'/\((∃r,c.1=some r/\IC rk a.toList b.toList r.toList)∨(c.1=none/\J2 rk a.toList b.toList c.2.2.2.1.toList.reverse c.2.1 c.2.2.1/\1<=c.2.1/\2<=c.2.2.1/\x+2+c.2.1+c.2.2.1<=a.size+b.size))) ?step1 ?fin1 ⟨rfl,rfl,j,h1,h2,by show x+1+min 0 1+na+nb<=a.size+b.size;lia⟩) ?post1)
  case fin1 =>
   rintro⟨c,na,nb,out,ac,bc⟩ st'' ⟨e1,e,j,h1,h2,h3⟩
   refine⟨e1,.inr ⟨e,j,h1,h2,?_⟩⟩
   dsimp only at h3 ⊢
   lia
  case step1 =>
   rintro y ⟨c,na,nb,out,ac,bc⟩ st'' _ hy ⟨e1,e,j,h1,h2,h3⟩
   subst e1
   dsimp only at e j h1 h2 h3
   subst e
   have z:=j.za
   have z2:=j.zb
   have eb:b[nb-1]?=some b[nb-1]:=AO (by lia)
   have ea:a[na-1]?=some a[na-1]:=AO (by lia)
   refine AX (Jm eb (AX (Jm ea (AX (Vs hA (gs.kind.trans hk) (m.mb _ _ eb) (m.ma _ _ ea) ?_)))))
   by_cases c:rk b[nb-1]<rk a[na-1]
   ·rw[Ac c]
    dsimp only
    rw[AF rfl]
    refine AX (Jm ea ?_)
    have j':=m.pushA2 j h1 ea λi i1 i2=>by
     have q1:=sB i (nb-1) (Az _) (by lia) (by lia)
     rw[Im eb]at q1
     rw[Im ea]
     lia
    by_cases c3:na-1=0
    ·rw[AF (by simpa using c3)]
     exact Ah ⟨rfl,.inl ⟨_,rfl,m.done2 j' (.inl c3)⟩⟩
    rw[AD (by simpa using c3)]
    split
    ·exact Ah ⟨rfl,.inr ⟨rfl,j',by dsimp only;lia,h2,by dsimp only;lia⟩⟩
    ·exact Ah ⟨rfl,rfl,j',by dsimp only;lia,h2,by dsimp only;lia⟩
   ·rw[Aa c]
    dsimp only
    rw[AD (by decide)]
    refine AX (Jm eb ?_)
    have j':=m.pushB2 j (by lia) eb λi i1 i2=>by
     have q1:=sA i (na-1) (Az _) (by lia) (by lia)
     rw[Im ea]at q1
     rw[Im eb]
     lia
    by_cases c3:nb-1=1
    ·rw[AF (by simpa using c3)]
     exact Ah ⟨rfl,.inl ⟨_,rfl,m.first2 j' c3⟩⟩
    rw[AD (by simpa using c3)]
    split
    ·exact Ah ⟨rfl,.inr ⟨rfl,j',h1,by dsimp only;lia,by dsimp only;lia⟩⟩
    ·exact Ah ⟨rfl,rfl,j',h1,by dsimp only;lia,by dsimp only;lia⟩
  case post1 =>
   rintro⟨c,na,nb,out,ac,bc⟩ st'' ⟨e1,h⟩
   subst e1
   rcases h with⟨r,e,g1⟩|⟨e,j,h1,h2,h3⟩
   ·have e':c=some r:=e
    subst e'
    exact Ah ⟨gs,r,rfl,g1⟩
   ·dsimp only at e j h1 h2 h3
    subst e
    refine AX (Eb (CW ⟨rfl,?_⟩))
    refine AX (Cr (Bi (I:=λ_ c st3=>c.1=none/\NM rk a b (x+2) st c st3) (Q:=λc st3=>NM rk a b (x+2) st c st3) ?step2 ?fin2 ⟨rfl,gs,.inr ⟨rfl,j,h1,h2,h3⟩⟩) ?post2)
    case fin2 =>
     rintro c st3 ⟨_,hc⟩
     exact hc
    case step2 =>
     rintro y ⟨c,na,nb,out,g2,ac,bc⟩ st3 _ hy ⟨e,gs3,hc⟩
     have e':c=none:=e
     subst e'
     rcases hc with⟨r,er,_⟩|⟨_,j,h1,h2,h3⟩
     ·cases er
     dsimp only at j h1 h2 h3
     refine XT (λ_=>?_) (λ_=>?_)
     ·refine AX (Cw ?_)
      exact U7 hA m hk (gs3.trans (RO st3 (g2-1))) j h1 h2 h3 (λc hc=>hc) (λc e hc=>⟨e,hc⟩)
     ·refine AX (Cw ?_)
      exact U7 hA m hk (gs3.trans (RO st3 g2)) j h1 h2 h3 (λc hc=>hc) (λc e hc=>⟨e,hc⟩)
    case post2 =>
     rintro⟨c,na,nb,out,g2,ac,bc⟩ st3 ⟨gs3,hc⟩
     rcases hc with⟨r,er,g3⟩|⟨er,j,h1,h2,h3⟩
     ·have e':c=some r:=er
      subst e'
      exact Ah ⟨gs3,r,rfl,g3⟩
     ·have e':c=none:=er
      subst e'
      dsimp only at j h1 h2 h3 ⊢
      refine AX (Cw (Ah ⟨gs3.trans (RO st3 (g2+1)),rfl,j,h1,h2,by dsimp only;lia⟩))
end
noncomputable abbrev Run:=Nat×Nat×Nat
theorem cQ{α:Type}{L R:List α}{x y z:α}{p:Array α}(hp:p.toList=L++x::y::R):((p.setIfInBounds L.length z).eraseIdxIfInBounds (L.length+1)).toList=L++z::R:=by
 have hz:p.size=L.length+2+R.length:=by rw[<-AV,hp];simp;lia
 rw[Array.eraseIdxIfInBounds]
 rw[dif_pos (by rw[Dv];lia),Array.toList_eraseIdx,Array.toList_setIfInBounds,hp]
 rw[List.set_append_right _ _ (AH _),Nat.sub_self,List.set_cons_zero,List.eraseIdx_append_of_length_le (by lia),show L.length+1-L.length=1 by lia]
 rfl
theorem T5(o:Nat):∀(l:List Keyed)(n:Nat)(xs:Array Keyed),o+n+l.length<=xs.size->∀k:Nat,
  ((l.zipIdx n).foldl (λa (x:Keyed×Nat)=>a.setIfInBounds (o+x.2) x.1) xs)[k]?=if o+n<=k/\k<o+n+l.length then l[k-(o+n)]? else xs[k]?
 |[],n,xs,_,k=>by
  rw[AD (by simp)];rfl
 |x::l,n,xs,h,k=>by
  rw[Am]at h
  rw[E6,B5,T5 o l (n+1) _ (by rw[Dv];lia) k,Am]
  by_cases c:o+(n+1)<=k/\k<o+(n+1)+l.length
  ·rw[AF c,AF (by lia),show k-(o+n)=(k-(o+(n+1)))+1 by lia,List.getElem?_cons_succ]
  ·rw[AD c]
   by_cases c2:k=o+n
   ·subst c2
    rw[AF (by lia),Nat.sub_self,List.getElem?_cons_zero,Array.getElem?_setIfInBounds_self_of_lt (by lia)]
   ·rw[AD (by lia),Array.getElem?_setIfInBounds_ne (by lia)]
theorem Ws{rk:Keyed->Nat}{xs:Array Keyed}{i j m:Nat}(h:i+m<j):kv rk (xs.extract i j) m=kv rk xs (i+m):=by
 refine LJ ?_
 rw[Fk]
 by_cases c:m<min j xs.size-i
 ·rw[AF c]
 ·rw[AD c,CU (by lia)]
theorem Zo{σ:Type}{M:Model}{A:Around}{E:xZ}{s:yH}{x:σ}{Q:PUnit->σ->Prop}{st:σ}(h:Q ⟨⟩ x):wpS M A E s (set x:StateT σ Sem PUnit) Q st:=by
 unfold wpS
 rw[StateT.run_set]
 exact AK ⟨rfl,h⟩
section
variable{rk:Keyed->Nat}{prog:yL}{w:yM}{A:Around}{E:xZ}{s:yH}{κ:SortKind}{M:Keyed->Prop}
theorem eR(h:Kd prog w A s κ M rk){st:SortSt}{Q:Bool->SortSt->Prop}(hk:kindOf st=κ)(ha:All M (arrOf st))(hf:failedOf st=none){L R:List Run}{sa na pa sb nb pb:Nat}(hp:(pendingOf st).toList=L++(sa,na,pa)::(sb,nb,pb)::R)
  (e:sb=sa+na) (h1:1<=na) (h2:1<=nb) (hz:sb+nb<=(arrOf st).size) (s1:JZ rk (arrOf st) sa (sa+na)) (s2:JZ rk (arrOf st) sb (sb+nb))
  (q:∀st',kindOf st'=κ->failedOf st'=none->(pendingOf st').toList=L++(sa,na+nb,pa)::R->(arrOf st').Perm (arrOf st)->(∀k:Nat,k<sa∨sa+na+nb<=k->(arrOf st')[k]?=(arrOf st)[k]?)->JZ rk (arrOf st') sa (sa+(na+nb))->Q true st') :
  wpS (model prog w) A E s (mergeAt' L.length) Q st:=by
 subst e
 have g0:(pendingOf st)[L.length]?=some (sa,na,pa):=by rw[<-BE,hp];simp
 have g1:(pendingOf st)[L.length+1]?=some (sa+na,nb,pb):=by rw[<-BE,hp];simp
 have er:=cQ (z:=(sa,na+nb,pa)) hp
 refine AX (D1 ?_)
 rw[g0,g1]
 dsimp only
 refine AX (Zo ?_)
 have eb:(arrOf st)[sa+na]?=some (arrOf st)[sa+na]:=AO (by lia)
 refine AX (Jm eb (AX (Qd h (arr:=arrOf st) (st:=SortSt.mk' (kindOf st) (arrOf st) _ (gallopOf st) (failedOf st)) hk (ha _ _ eb) ha (by lia) (by lia) s1 λk k1 k2 k3=>?_)))
 have a1:∀i,sa<=i->i<sa+k->kv rk (arrOf st) i<=kv rk (arrOf st) (sa+na):=λi i1 i2=>by
  have:=k2 i i1 i2
  unfold Bd at this
  rw[AD (by decide),<-Im (rk:=rk) eb]at this
  exact this
 have a2:∀i,sa+k<=i->i<sa+na->kv rk (arrOf st) (sa+na)<kv rk (arrOf st) i:=λi i1 i2=>by
  have:=k3 i i1 (by lia)
  unfold Bd at this
  rw[AD (by decide),<-Im (rk:=rk) eb]at this
  lia
 dsimp only
 by_cases c1:na-k=0
 ·rw[AF (by simpa using c1)]
  refine Ah (q _ hk hf er (Array.Perm.refl _) (λ_ _=>rfl) λi j i1 ij j1=>?_)
  show kv rk (arrOf st) i<=kv rk (arrOf st) j
  by_cases cj:j<sa+na
  ·exact s1 i j i1 ij cj
  ·by_cases ci:i<sa+na
   ·have b1:=a1 i i1 (by lia)
    have b2:=s2 (sa+na) j (AH _) (by lia) (by lia)
    lia
   ·exact s2 i j (by lia) ij (by lia)
 rw[AD (by simpa using c1)]
 have el:(arrOf st)[sa+k+(na-k)-1]?=some (arrOf st)[sa+k+(na-k)-1]:=AO (by lia)
 refine AX (Jm el (AX (Qd h (arr:=arrOf st) (st:=SortSt.mk' (kindOf st) (arrOf st) _ (gallopOf st) (failedOf st)) hk (ha _ _ el) ha (by lia) (by lia) s2 λn n1 n2 n3=>?_)))
 have b1:∀i,sa+na<=i->i<sa+na+n->kv rk (arrOf st) i<kv rk (arrOf st) (sa+na-1):=λi i1 i2=>by
  have:=n2 i i1 i2
  unfold Bd at this
  rw[AF rfl,<-Im (rk:=rk) el,show sa+k+(na-k)-1=sa+na-1 by lia]at this
  exact this
 have b2:∀i,sa+na+n<=i->i<sa+na+nb->kv rk (arrOf st) (sa+na-1)<=kv rk (arrOf st) i:=λi i1 i2=>by
  have:=n3 i i1 i2
  unfold Bd at this
  rw[AF rfl,<-Im (rk:=rk) el,show sa+k+(na-k)-1=sa+na-1 by lia]at this
  lia
 dsimp only
 by_cases c2:n=0
 ·exfalso
  have d1:=a2 (sa+na-1) (by lia) (by lia)
  have d2:=b2 (sa+na) (by lia) (by lia)
  lia
 rw[AD (by simpa using c2)]
 have mp:Hy M rk ((arrOf st).extract (sa+k) (sa+na)) ((arrOf st).extract (sa+na) (sa+na+n)):=by
  have zx:((arrOf st).extract (sa+k) (sa+na)).size=na-k:=by rw[Ef];lia
  have zy:((arrOf st).extract (sa+na) (sa+na+n)).size=n:=by rw[Ef];lia
  have sub:∀i j,All M ((arrOf st).extract i j):=λi j m x hx=>by
   rw[Fk]at hx
   split at hx
   ·exact ha _ _ hx
   ·cases hx
  refine⟨sub _ _,sub _ _,?_,?_,by lia,by lia,?_,λi hi=>?_⟩
  ·rw[Lx,show sa+na-(sa+k)=na-k by lia]
   exact V6 (λi j i1 ij j1=>s1 i j (by lia) ij (by lia)) (by lia)
  ·rw[Lx,show sa+na+n-(sa+na)=n by lia]
   exact V6 (λi j i1 ij j1=>s2 i j i1 ij (by lia)) (by lia)
  ·rw[Ws (by lia),Ws (by lia)]
   exact a2 _ (by lia) (by lia)
  ·rw[zx,Ws (by lia),Ws (by lia),show sa+k+(na-k-1)=sa+na-1 by lia]
   exact b1 _ (by lia) (by lia)
 have fin:∀(r:Array Keyed)(st2:SortSt),Gs (SortSt.mk' (kindOf st) (arrOf st) (((pendingOf st).setIfInBounds L.length (sa,na+nb,pa)).eraseIdxIfInBounds (L.length+1)) (gallopOf st) (failedOf st)) st2 ->
   IC rk ((arrOf st).extract (sa+k) (sa+na)).toList ((arrOf st).extract (sa+na) (sa+na+n)).toList r.toList ->
   Q true (SortSt.mk' (kindOf st2) (r.toList.zipIdx.foldl (λa (x:Keyed×Nat)=>a.setIfInBounds (sa+k+x.2) x.1) (arrOf st2)) (pendingOf st2) (gallopOf st2) (failedOf st2))/\failedOf st2=none:=by
  intro r st2 gs gd
  have e1:arrOf st2=arrOf st:=gs.arr
  have e2:failedOf st2=none:=gs.failed.trans hf
  refine⟨?_,e2⟩
  rw[e1]
  have lr:r.toList.length=(na-k)+n:=by
   have:=gd.1.length_eq
   simp only[AJ,AV,Ef]at this
   rw[AV]
   lia
  have wr:=T5 (sa+k) r.toList 0 (arrOf st) (by lia)
  generalize hxs:r.toList.zipIdx.foldl (λa (x:Keyed×Nat)=>a.setIfInBounds (sa+k+x.2) x.1) (arrOf st)=xs' at wr ⊢
  have zs:xs'.size=(arrOf st).size:=by
   have key:∀(l:List (Keyed×Nat))(ys:Array Keyed),(l.foldl (λa (x:Keyed×Nat)=>a.setIfInBounds (sa+k+x.2) x.1) ys).size=ys.size:=by
    intro l
    induction l with
    |nil=>intro ys;rfl
    |cons z l ih=>intro ys;rw[B5,ih,Dv]
   rw[<-hxs]
   exact key _ _
  have whole:xs'.toList=(arrOf st).toList.take (sa+k)++r.toList++(arrOf st).toList.drop (sa+na+n):=by
   refine D8 λi=>?_
   rw[BE,wr i]
   have lt:((arrOf st).toList.take (sa+k)).length=sa+k:=by rw[Ap,AV];lia
   by_cases c:i<sa+k
   ·rw[AD (by lia),An,Do (by lia),E3 c,BE]
   ·by_cases c':i<sa+na+n
    ·rw[AF (by lia),Do (by rw[AJ,lt];lia),Dc (by lia),lt]
     rfl
    ·rw[AD (by lia),Dc (by rw[AJ,lt];lia),AJ,lt,List.getElem?_drop,BE]
     congr 1
     lia
  have old:(arrOf st).toList=(arrOf st).toList.take (sa+k)++(((arrOf st).extract (sa+k) (sa+na)).toList++((arrOf st).extract (sa+na) (sa+na+n)).toList)++(arrOf st).toList.drop (sa+na+n):=by
   have f1:(arrOf st).toList=(arrOf st).toList.take (sa+k)++(arrOf st).toList.drop (sa+k):=(BZ _ _).symm
   have f2:=Qm (arrOf st).toList (sa+k) (na-k)
   have f3:=Qm (arrOf st).toList (sa+na) n
   rw[show sa+k+(na-k)=sa+na by lia]at f2
   rw[Lx,Lx,show sa+na-(sa+k)=na-k by lia,show sa+na+n-(sa+na)=n by lia]
   rw[An,An,<-f3,<-f2]
   exact f1
  have pm:xs'.Perm (arrOf st):=by
   refine En.mpr ?_
   rw[whole]
   refine List.Perm.trans ?_ (List.Perm.of_eq old.symm)
   exact Bc _ (B0 _ gd.1)
  have kvw:∀i,kv rk xs' i=if sa+k<=i/\i<sa+na+n then kv rk r (i-(sa+k)) else kv rk (arrOf st) i:=λi=>by
   have q1:=wr i
   by_cases c:sa+k<=i/\i<sa+na+n
   ·rw[AF c]
    rw[AF (by lia)]at q1
    exact LJ (by rw[q1,BE];rfl)
   ·rw[AD c]
    rw[AD (by lia)]at q1
    exact LJ q1
  have src:∀m,m<(na-k)+n->∃j,sa+k<=j/\j<sa+na+n/\kv rk r m=kv rk (arrOf st) j:=λm hm=>by
   have hm':m<r.size:=by rw[<-AV];lia
   have em:r[m]?=some r[m]:=AO hm'
   have mem:r[m]∈r.toList:=by simp
   rcases Ao.mp (gd.1.mem_iff.mp mem) with hm1|hm1
   ·rw[Lx]at hm1
    obtain⟨j,j1,j2,j3,j4,_⟩:=N0 (rk:=rk) hm1
    exact⟨j,j1,by lia,by rw[Im em,j4]⟩
   ·rw[Lx]at hm1
    obtain⟨j,j1,j2,j3,j4,_⟩:=N0 (rk:=rk) hm1
    exact⟨j,by lia,by lia,by rw[Im em,j4]⟩
  have sr:=LB gd.2
  refine q _ (gs.kind.trans hk) e2 ((congrArg Array.toList gs.pend).trans er) pm (λi hi=>?_) λi j i1 ij j1=>?_
  ·have q1:=wr i
   rw[AD (by lia)]at q1
   exact q1
  ·show kv rk xs' i<=kv rk xs' j
   have left:∀z y,sa<=z->z<sa+k->sa+k<=y->y<sa+na+nb->kv rk (arrOf st) z<=kv rk (arrOf st) y:=λz y z1 z2 y1 y2=>by
    by_cases c:y<sa+na
    ·exact s1 z y z1 (by lia) c
    ·have d1:=a1 z z1 z2
     have d2:=s2 (sa+na) y (AH _) (by lia) y2
     lia
   have right:∀z y,sa+k<=z->z<sa+na+n->sa+na+n<=y->y<sa+na+nb->kv rk (arrOf st) z<=kv rk (arrOf st) y:=λz y z1 z2 y1 y2=>by
    by_cases c:z<sa+na
    ·have d1:=s1 z (sa+na-1) (by lia) (by lia) (by lia)
     have d2:=b2 y y1 y2
     lia
    ·exact s2 z y (by lia) (by lia) y2
   rw[kvw i,kvw j]
   by_cases ci:sa+k<=i/\i<sa+na+n
   ·rw[AF ci]
    by_cases cj:sa+k<=j/\j<sa+na+n
    ·rw[AF cj]
     exact sr _ _ (Az _) (by lia) (by rw[<-AV];lia)
    ·rw[AD cj]
     obtain⟨z,z1,z2,z3⟩:=src (i-(sa+k)) (by lia)
     rw[z3]
     exact right z j z1 z2 (by lia) (by lia)
   ·rw[AD ci]
    by_cases cj:sa+k<=j/\j<sa+na+n
    ·rw[AF cj]
     obtain⟨z,z1,z2,z3⟩:=src (j-(sa+k)) (by lia)
     rw[z3]
     exact left i z i1 (by lia) z1 (by lia)
    ·rw[AD cj]
     by_cases c5:i<sa+k
     ·by_cases c6:j<sa+k
      ·exact s1 i j i1 ij (by lia)
      ·exact left i j i1 c5 (by lia) (by lia)
     ·exact s2 i j (by lia) ij (by lia)
 have go:∀(r:Array Keyed)(st2:SortSt),Gs (SortSt.mk' (kindOf st) (arrOf st) (((pendingOf st).setIfInBounds L.length (sa,na+nb,pa)).eraseIdxIfInBounds (L.length+1)) (gallopOf st) (failedOf st)) st2 ->
   IC rk ((arrOf st).extract (sa+k) (sa+na)).toList ((arrOf st).extract (sa+na) (sa+na+n)).toList r.toList ->
   wpS (model prog w) A E s (do
    modify λt=>SortSt.mk' (kindOf t) (r.toList.zipIdx.foldl (λa (x:Keyed×Nat)=>a.setIfInBounds (sa+k+x.2) x.1) (arrOf t)) (pendingOf t) (gallopOf t) (failedOf t)
    let t <-get
    pure (failedOf t).isNone) Q st2:=by
  intro r st2 gs gd
  obtain⟨f1,f2⟩:=fin r st2 gs gd
  refine AX (Cw (AX (D1 (Ah ?_))))
  have e3:(failedOf st2).isNone=true:=by rw[f2];rfl
  show Q (failedOf st2).isNone _
  rw[e3]
  exact f1
 refine XT (λ_=>?_) (λ_=>?_)
 ·exact AX (mB h hk mp λr st2 gs gd=>go r st2 gs gd)
 ·exact AX (jK h hk mp λr st2 gs gd=>go r st2 gs gd)
noncomputable def II(rk:Keyed->Nat)(xs:Array Keyed):List Run->Nat->Nat->Prop
 |[],a,e=>a=e
 |r::l,a,e=>r.1=a/\1<=r.2.1/\JZ rk xs a (a+r.2.1)/\II rk xs l (a+r.2.1) e
theorem II.le{xs:Array Keyed}:∀{l:List Run}{a e:Nat},II rk xs l a e->a+l.length<=e
 |[],a,e,h=>by have:a=e:=h;simp;lia
 |r::l,a,e,⟨h1,h2,h3,h4⟩=>by
  have:=II.le h4
  rw[Am]
  lia
theorem II.app{xs:Array Keyed}:∀{l m:List Run}{a e:Nat},II rk xs (l++m) a e->∃z,II rk xs l a z/\II rk xs m z e
 |[],m,a,e,h=>⟨a,rfl,h⟩
 |r::l,m,a,e,⟨h1,h2,h3,h4⟩=>by
  obtain⟨z,z1,z2⟩:=II.app h4
  exact⟨z,⟨h1,h2,h3,z1⟩,z2⟩
theorem II.join{xs:Array Keyed}:∀{l m:List Run}{a z e:Nat},II rk xs l a z->II rk xs m z e->II rk xs (l++m) a e
 |[],m,a,z,e,h,q=>by have:a=z:=h;subst this;exact q
 |r::l,m,a,z,e,⟨h1,h2,h3,h4⟩,q=>⟨h1,h2,h3,II.join h4 q⟩
theorem II.same{xs ys:Array Keyed}:∀{l:List Run}{a e:Nat},II rk xs l a e->(∀k,a<=k->k<e->kv rk ys k=kv rk xs k)->II rk ys l a e
 |[],a,e,h,_=>h
 |r::l,a,e,⟨h1,h2,h3,h4⟩,q=>by
  have le:=II.le h4
  refine⟨h1,h2,λi j i1 ij j1=>?_,II.same h4 λk k1 k2=>q k (by lia) k2⟩
  rw[q i i1 (by lia),q j (by lia) (by lia)]
  exact h3 i j i1 ij j1
theorem II.modify{xs:Array Keyed}{f:Run->Run}(hf:∀r,(f r).1=r.1/\(f r).2.1=r.2.1):∀{l:List Run}{a e:Nat},II rk xs l a e->∀i,II rk xs (l.modify i f) a e
 |[],a,e,h,i=>by cases i<;>exact h
 |r::l,a,e,⟨h1,h2,h3,h4⟩,0=>by
  obtain⟨f1,f2⟩:=hf r
  show II rk xs (f r::l) a e
  exact⟨f1.trans h1,by lia,by rw[f2];exact h3,by rw[f2];exact h4⟩
 |r::l,a,e,⟨h1,h2,h3,h4⟩,i+1=>⟨h1,h2,h3,II.modify hf h4 i⟩
structure Tb(rk:Keyed->Nat)(κ:SortKind)(a₀:Array Keyed)(lo:Nat)(st:SortSt):Prop where
 kind:kindOf st=κ
 failed:failedOf st=none
 perm:(arrOf st).Perm a₀
 runs:II rk (arrOf st) (pendingOf st).toList 0 lo
theorem Tb.size{a₀:Array Keyed}{lo:Nat}{st:SortSt}(t:Tb rk κ a₀ lo st):(arrOf st).size=a₀.size:=t.perm.size_eq
theorem S2(h:Kd prog w A s κ M rk){a₀:Array Keyed}{lo i:Nat}{st:SortSt}{Q:Bool->SortSt->Prop}(hM:All M a₀)(t:Tb rk κ a₀ lo st)(hlo:lo<=a₀.size)(hi:i+1<(pendingOf st).size)
  (q:∀st',Tb rk κ a₀ lo st'->(pendingOf st').size+1=(pendingOf st).size->(∀k:Nat,lo<=k->(arrOf st')[k]?=(arrOf st)[k]?)->Q true st'):wpS (model prog w) A E s (mergeAt' i) Q st:=by
 obtain⟨L,x,y,R,e,el⟩:∃L x y R,(pendingOf st).toList=L++x::y::R/\L.length=i:=by
  have hl:i+1<(pendingOf st).toList.length:=by rw[AV];exact hi
  refine⟨(pendingOf st).toList.take i,(pendingOf st).toList[i],(pendingOf st).toList[i+1],(pendingOf st).toList.drop (i+2),?_,by rw[Ap];lia⟩
  rw[Fl hl,Fl,BZ]
 subst el
 obtain⟨sa,na,pa⟩:=x
 obtain⟨sb,nb,pb⟩:=y
 have r:=t.runs
 rw[e]at r
 obtain⟨z,r1,r2⟩:=r.app
 obtain⟨x1,x2,x3,x4⟩:=r2
 obtain⟨y1,y2,y3,y4⟩:=x4
 dsimp only at x1 x2 x3 y1 y2 y3 y4
 subst x1
 have le:=y4.le
 have sz:=t.size
 refine eR h t.kind (hM.perm t.perm) t.failed e y1 x2 y2 (by lia) x3 (by rw[y1];exact y3) λst' k1 k2 k3 k4 k5 k6=>?_
 have sm:∀k,k<sa∨sa+na+nb<=k->kv rk (arrOf st') k=kv rk (arrOf st) k:=λk hk=>LJ (k5 k hk)
 refine q st' ⟨k1,k2,k4.trans t.perm,?_⟩ ?_ λk hk=>k5 k (.inr (by lia))
 ·rw[k3]
  refine(r1.same λk _ hk=>sm k (.inl hk)).join ⟨rfl,by dsimp only;lia,k6,?_⟩
  dsimp only
  rw[show sa+(na+nb)=sa+na+nb by lia]
  exact y4.same λk hk _=>sm k (.inr hk)
 ·rw[<-AV,<-AV,k3,e]
  simp
  lia
theorem qB(h:Kd prog w A s κ M rk){st:SortSt}{Q:Unit->SortSt->Prop}(hk:kindOf st=κ)(hM:All M (arrOf st))(hf:failedOf st=none)(hp:pendingOf st=#[])(h1:1<=(arrOf st).size)
  (q:∀st',(arrOf st').Perm (arrOf st)->failedOf st'=none->JZ rk (arrOf st') 0 (arrOf st).size->Q () st'):wpS (model prog w) A E s sortRuns' Q st:=by
 rw[sortRuns'_eq]
 refine AX (D1 ?_)
 generalize ha₀:arrOf st=a₀ at hM h1 q
 dsimp only
 have t0:Tb rk κ a₀ 0 st:=⟨hk,hf,by rw[ha₀],by rw[hp];rfl⟩
 refine AX (Cr (Bi (I:=λx c st'=>c.1=none/\Tb rk κ a₀ c.2 st'/\c.2<=a₀.size/\(x<=c.2∨c.2=a₀.size)) (Q:=λc st'=>c.1=none/\Tb rk κ a₀ a₀.size st') ?step ?fin ⟨rfl,t0,Az _,.inl (AH _)⟩) ?post)
 case fin =>
  rintro⟨c,lo⟩ st' ⟨e,t,hl,hx⟩
  dsimp only at e t hl hx
  have el:lo=a₀.size:=by lia
  subst el
  exact⟨e,t⟩
 case step =>
  rintro x ⟨c,lo⟩ st' _ hx ⟨e,t,hl,hxl⟩
  dsimp only at e t hl hxl ⊢
  subst e
  by_cases c1:lo ≥ a₀.size
  ·rw[AF c1]
   have el:lo=a₀.size:=by lia
   subst el
   exact Ah ⟨rfl,t⟩
  rw[AD c1]
  have sz:=t.size
  refine AX (nT h t.kind (hM.perm t.perm) (by lia) (by lia) λn st2 nx n1 n2 ns=>?_)
  have t2:Tb rk κ a₀ lo st2:=⟨nx.kind.trans t.kind,nx.failed.trans t.failed,nx.perm.trans t.perm,by rw[nx.pend];exact t.runs.same λk _ hk=>LJ (nx.below k hk)⟩
  dsimp only
  generalize hforce:min (a₀.size-lo) (minRun' a₀.size a₀.size 0)=force
  have Hl:∀(K1 K2:StateT SortSt Sem (ForInStep (Option Unit×Nat)))(Z:ForInStep (Option Unit×Nat)->SortSt->Prop),
    (∀st3,Tb rk κ a₀ lo st3->1<=force->lo+force<=a₀.size->JZ rk (arrOf st3) lo (lo+force)->wpS (model prog w) A E s K1 Z st3) ->
    (∀st3,Tb rk κ a₀ lo st3->1<=n->lo+n<=a₀.size->JZ rk (arrOf st3) lo (lo+n)->wpS (model prog w) A E s K2 Z st3) ->
    wpS (model prog w) A E s (if n<minRun' a₀.size a₀.size 0 then do
     liftM (rule "list.sort.binary-insertion")
     let r <-binarySort' lo force n
     if (!r)=true then pure (ForInStep.done (some (),lo)) else K1
    else K2) Z st2:=by
   intro K1 K2 Z hK1 hK2
   have sz2:=t2.size
   by_cases c2:n<minRun' a₀.size a₀.size 0
   ·rw[AF c2]
    refine AX (Eb (CW ⟨rfl,?_⟩))
    refine AX (qC h t2.kind (hM.perm t2.perm) (by lia) (by lia) ns λst3 nx3 ns3=>?_)
    simp only[Bool.not_true,BH,B3]
    exact hK1 st3 ⟨nx3.kind.trans t2.kind,nx3.failed.trans t2.failed,nx3.perm.trans t2.perm,by rw[nx3.pend];exact t2.runs.same λk _ hk=>LJ (nx3.below k hk)⟩ (by lia) (by lia) ns3
   ·rw[AD c2]
    exact hK2 st2 t2 n1 (by lia) ns
  have push:∀(m:Nat) st4,Tb rk κ a₀ lo st4->1<=m->JZ rk (arrOf st4) lo (lo+m)->Tb rk κ a₀ (lo+m) (setPending st4 ((pendingOf st4).push (lo,m,0))):=λm st4 t4 m1 ns4=>by
   refine⟨t4.kind,t4.failed,t4.perm,?_⟩
   show II rk (arrOf st4) ((pendingOf st4).push (lo,m,0)).toList 0 (lo+m)
   rw[DX]
   exact t4.runs.join ⟨rfl,m1,ns4,rfl⟩
  have relabel:∀(f:Run->Run) st4,(∀r,(f r).1=r.1/\(f r).2.1=r.2.1)->Tb rk κ a₀ lo st4->Tb rk κ a₀ lo (setPending st4 ((pendingOf st4).modify ((pendingOf st4).size-1) f)):=λf st4 hf t4=>by
   refine⟨t4.kind,t4.failed,t4.perm,?_⟩
   show II rk (arrOf st4) ((pendingOf st4).modify ((pendingOf st4).size-1) f).toList 0 lo
   rw[Array.toList_modify]
   exact t4.runs.modify hf _
  have inner:∀(m:Nat)(st3:SortSt)(pw:Nat)(K:Option Unit×Unit->StateT SortSt Sem (ForInStep (Option Unit×Nat)))(Z:ForInStep (Option Unit×Nat)->SortSt->Prop),Tb rk κ a₀ lo st3->JZ rk (arrOf st3) lo (lo+m) ->
    (∀st4,Tb rk κ a₀ lo st4->JZ rk (arrOf st4) lo (lo+m)->wpS (model prog w) A E s (K (none,())) Z st4) ->
    wpS (model prog w) A E s (do
     let r <-forIn [0:a₀.size] ((none,()):Option Unit×Unit) λ_ _=>do
      let z <-get
      match (if (pendingOf z).size>1 then (pendingOf z)[(pendingOf z).size-2]? else none) with
      |some (_,_,old)=>if old<=pw then pure (ForInStep.done (none,())) else do
       let ok <-mergeAt' ((pendingOf z).size-2)
       if (!ok)=true then pure (ForInStep.done (some (),())) else pure (ForInStep.yield (none,()))
      |_=>pure (ForInStep.done (none,()))
     K r) Z st3:=by
   intro m st3 pw K Z t3 ns hK
   refine AX (Cr (Bi (I:=λ_ c st'=>c.1=none/\Tb rk κ a₀ lo st'/\JZ rk (arrOf st') lo (lo+m)) (Q:=λc st'=>c.1=none/\Tb rk κ a₀ lo st'/\JZ rk (arrOf st') lo (lo+m)) ?step3 (λc st' hc=>hc) ⟨rfl,t3,ns⟩) ?post3)
   case step3 =>
    rintro y ⟨c,u⟩ st4 _ hy ⟨e,t4,ns4⟩
    have e':c=none:=e
    subst e'
    refine AX (D1 ?_)
    by_cases c4:(pendingOf st4).size>1
    ·rw[AF c4]
     have eg:(pendingOf st4)[(pendingOf st4).size-2]?=some (pendingOf st4)[(pendingOf st4).size-2]:=AO (by lia)
     rw[eg]
     generalize (pendingOf st4)[(pendingOf st4).size-2]=z
     obtain⟨z1,z2,z3⟩:=z
     dsimp only
     refine XT (λ_=>Ah ⟨rfl,t4,ns4⟩) λ_=>?_
     refine AX (S2 h hM t4 hl (by lia) λst5 t5 _ k5=>?_)
     simp only[Bool.not_true,BH,B3]
     refine Ah ⟨rfl,t5,λi j i1 ij j1=>?_⟩
     rw[LJ (rk:=rk) (k5 i i1),LJ (rk:=rk) (k5 j (by lia))]
     exact ns4 i j i1 ij j1
    ·rw[AD c4]
     exact Ah ⟨rfl,t4,ns4⟩
   case post3 =>
    rintro⟨c,u⟩ st4 ⟨e,t4,ns4⟩
    have e':c=none:=e
    subst e'
    exact hK st4 t4 ns4
  refine Hl _ _ _ (λst3 t3 n1 n2 ns=>?_) (λst3 t3 n1 n2 ns=>?_)
  all_goals
   refine AX (D1 ?_)
   cases hb:(pendingOf st3).back? with
   |none=>exact AX (Cw (Ah ⟨rfl,push _ st3 t3 n1 ns,n2,by dsimp only;lia⟩))
   |some z =>
    obtain⟨s1,n3,p3⟩:=z
    dsimp only
    refine inner _ st3 _ _ _ t3 ns λst4 t4 ns4=>?_
    exact AX (Cw (AX (Cw (Ah ⟨rfl,push _ _ (relabel _ st4 (λr=>⟨rfl,rfl⟩) t4) n1 ns4,n2,by dsimp only;lia⟩))))
 case post =>
  rintro⟨c,lo⟩ st' ⟨e,t⟩
  have e':c=none:=e
  subst e'
  dsimp only
  have sz:=t.size
  have r0:=t.runs.le
  rw[AV]at r0
  refine AX (Cr (Bi (I:=λx c st2=>c.1=none/\Tb rk κ a₀ a₀.size st2/\((pendingOf st2).size<=1∨(pendingOf st2).size+x<=a₀.size)) (Q:=λc st2=>c.1=none/\Tb rk κ a₀ a₀.size st2/\(pendingOf st2).size<=1) ?step4 ?fin4 ⟨rfl,t,.inr (by lia)⟩) ?post4)
  case fin4 =>
   rintro c st2 ⟨e,t,h3⟩
   exact⟨e,t,by lia⟩
  case step4 =>
   rintro x ⟨c,u⟩ st2 _ hx ⟨e,t2,h3⟩
   have e':c=none:=e
   subst e'
   refine AX (D1 ?_)
   by_cases c1:(pendingOf st2).size<=1
   ·rw[AF c1]
    exact Ah ⟨rfl,t2,c1⟩
   rw[AD c1]
   have fin:∀i,i+1<(pendingOf st2).size->∀(K:Bool->StateT SortSt Sem (ForInStep (Option Unit×Unit)))(Z:ForInStep (Option Unit×Unit)->SortSt->Prop),K true=pure (.yield (none,())) ->
     (∀st5,Tb rk κ a₀ a₀.size st5->((pendingOf st5).size<=1∨(pendingOf st5).size+(x+1)<=a₀.size)->Z (.yield (none,())) st5)->wpS (model prog w) A E s (do
     let r <-mergeAt' i
     K r) Z st2:=by
    intro i hi K Z hK hZ
    refine AX (S2 h hM t2 (AH _) hi λst5 t5 z5 _=>?_)
    rw[hK]
    exact Ah (hZ st5 t5 (by lia))
   have both:∀(c:Bool)(i:Nat),i+2=(pendingOf st2).size->(if c=true then i-1 else i)+1<(pendingOf st2).size:=λc i hi=>by
    split<;>lia
   refine fin _ (both _ _ ?_) (λr=>_) _ ?_ (λst5 t5 h5=>⟨rfl,t5,h5⟩)
   ·lia
   ·rfl
  case post4 =>
   rintro⟨c,u⟩ st2 ⟨e,t2,h3⟩
   have e':c=none:=e
   subst e'
   refine Ah (q st2 t2.perm t2.failed ?_)
   have r:=t2.runs
   rw[<-AV]at h3
   match hl:(pendingOf st2).toList,h3,r with
   |[],_,r=>have:0=a₀.size:=r;lia
   |[z],_,r =>
    obtain⟨r1,r2,r3,r4⟩:=r
    have r4':0+z.2.1=a₀.size:=r4
    rw[r4']at r3
    exact r3
   |_::_::_,h3,_=>simp at h3
end
end L2.Ts
namespace L2.Rw
open PySem
noncomputable def JE(h:Heap)(d:yJ)(es:Array yP)(ep:Nat):Prop:=∃o,h.get? d=some o/\o.ExactDict/\o.data=.dict es ep
theorem JE.keep{h h':Heap}{d:yJ}{es:Array yP}{ep:Nat}(x:JE h d es ep)(k:∀o,h.get? d=some o->h'.get? d=some o):JE h' d es ep:=let ⟨o,e,r⟩:=x;⟨o,k o e,r⟩
theorem JE.lt{h:Heap}{d:yJ}{es:Array yP}{ep:Nat}(x:JE h d es ep):d<h.objs.size:=let ⟨_,e,_⟩:=x;AU e
theorem JE.type{s:yH}{d:yJ}{es:Array yP}{ep:Nat}(x:JE s.heap d es ep):s.TypeIs (.ref d) "dict" := let ⟨o,e,c,_⟩:=x;⟨o,e,c.1⟩
section
variable{prog:yL}{w:yM}{A:Around}{E:xZ}{s:yH}{d it:yJ}{es:Array yP}{ep i:Nat}
theorem Us{Q:xZ}(hd:(d==sysModules)=false)(hm:JE s.heap d es ep)
  (hQ:Q (.ref s.heap.objs.size) { s with heap:=s.heap.push { cls:=.type "dict_keyiterator",data:=.fields #[.ref d,.int 0 0,.int es.size 0,.int ep 0] } }):wpAny (model prog w) A (pyIter (.ref d)) Q E s:=by
 have hT:=hm.type
 obtain⟨o,ho,_,hdat⟩:=hm
 refine wpAny_pyIter_slot hT F.slot_dict_iter (B9 F.slot_dict_iter hT F.entry_dict_iter ?_ (F.args_dict_iter_1 _))
 unfold Builtin.«dict.__iter__»
 refine AA ?_
 unfold Builtin.Dict.dictSlotNone
 refine AA (wpAny_notOrdered_dict hT (AK ?_))
 show wpAny _ _ (Builtin.Dict.showsAll d>>=_) _ _ s
 unfold Builtin.Dict.showsAll
 rw[AD (by rw[hd];decide)]
 refine AA (AK (AA (Ew ho hdat (AA (Fc ho hdat ?_)))))
 refine AA (BK (AK ⟨_,rfl, "dict_keyiterator",_,⟨_,AW _ rfl,rfl⟩,CN.lookup,?_⟩))
 simpa [rawInt]using hQ
theorem Uh{Q:yD->yH->Prop}(hit:s.heap.IsKeyIter it d i es.size ep)(hm:JE s.heap d es ep)(hi:i<es.size)
  (hQ:∀h',h'.IsKeyIter it d (i+1) es.size ep->Heap.SameBut it s.heap h'->Q (some es[i].key) { s with heap:=h' }):wpAny (model prog w) A (pyNext (.ref it)) Q E s:=by
 obtain⟨o,ho,hc,hd⟩:=id hit
 obtain⟨od,hod,_,hdd⟩:=hm
 have hT:=hit.typeIs
 unfold pyNext
 refine AA (Df (Bb (name:=Str.ofString "__next__") hT CN (B9 CN hT EX ?_ (ER _))))
 refine AA (AK (AA (AA ?_)))
 first|refine AA (Ck hT (AK ?_))|refine AA (DL hT (AK ?_))
 refine AA (wpAny_fieldsOf ho hd ?_)
 have own:Builtin.Dict_items.ownsTuple "dict_keyiterator" = false:=by decide
 simp only[own,BH,B3]
 show wpAny _ _ (if (Value.ref d==Value.none)=true then _ else _) _ _ s
 rw[AD (show ¬ ((Value.ref d==Value.none)=true) from Ae)]
 refine AA (AK (AA (Ew hod hdd ?_)))
 rw[AD (by simp)]
 refine AA (AK (AA (Fc hod hdd ?_)))
 rw[AD (by simp)]
 refine AK ?_
 simp only[show ¬ ((i:Int)<0) from by lia,B3,BB,AO hi]
 refine AA ?_
 first|refine AA (Ck hT (AK ?_))|refine AA (DL hT (AK ?_))
 refine AA (Ge hT ?_)
 show wpAny _ _ (setField (.ref it) 1 (rawInt ((i:Int)+1))>>=_) _ _ s
 refine AA (Ec ho hd (by simp) ?_)
 have on:(s.heap.update it (Obj.mapFields (·.setIfInBounds 1 (rawInt ((i:Int)+1))))).IsKeyIter it d (i+1) es.size ep :=
  ⟨_,C6 _ ho (Fy (Dw hd _)),(Obj.cls_mapFields ..).trans hc,by rw[Dw hd];simp [rawInt]⟩
 refine AA (DR (AA (Ge (s:={ s with heap:=s.heap.update it (Obj.mapFields (·.setIfInBounds 1 (rawInt ((i:Int)+1)))) }) on.typeIs ?_)))
 show wpAny _ _ (pure es[i].key) _ _ _
 exact AK (AK ⟨_,rfl,AK (hQ _ on (Dm ..))⟩)
theorem UN{Q:yD->yH->Prop}(hh:A.handled=none)(hit:s.heap.IsKeyIter it d i es.size ep)(hm:JE s.heap d es ep)(hi:es.size<=i)
  (hQ:∀h',Heap.ExtBut it s.heap h'->Q none { s with heap:=h' }):wpAny (model prog w) A (pyNext (.ref it)) Q E s:=by
 obtain⟨o,ho,hc,hd⟩:=id hit
 obtain⟨od,hod,_,hdd⟩:=hm
 have hT:=hit.typeIs
 unfold pyNext
 refine AA (Df (Bb (name:=Str.ofString "__next__") hT CN (B9 CN hT EX ?_ (ER _))))
 refine AA (AK (AA (AA ?_)))
 first|refine AA (Ck hT (AK ?_))|refine AA (DL hT (AK ?_))
 refine AA (wpAny_fieldsOf ho hd ?_)
 have own:Builtin.Dict_items.ownsTuple "dict_keyiterator" = false:=by decide
 simp only[own,BH,B3]
 show wpAny _ _ (if (Value.ref d==Value.none)=true then _ else _) _ _ s
 rw[AD (show ¬ ((Value.ref d==Value.none)=true) from Ae)]
 refine AA (AK (AA (Ew hod hdd ?_)))
 rw[AD (by simp)]
 refine AA (AK (AA (Fc hod hdd ?_)))
 rw[AD (by simp)]
 refine AK ?_
 simp only[show ¬ ((i:Int)<0) from by lia,B3,BB,CU hi]
 refine AA ?_
 first|refine AA (Ck hT (AK ?_))|refine AA (DL hT (AK ?_))
 show wpAny _ _ (setField (.ref it) 0 .none>>=_) _ _ s
 refine AA (Ec ho hd (by simp) ?_)
 show wpAny _ _ (newExc (.type "StopIteration") []>>=_) _ _ _
 refine AA ?_
 simp only[newExc,newTuple]
 refine AA (BK ?_ (by size_fits))
 refine AA (m:=firstArgMember _ _) (wpAny_of_eq (a:=Value.none) (by first|rfl|(simp only[firstArgMember];rfl)) ?_)
 refine BK ?_ (by size_fits)
 simp only[raiseNew]
 refine AA (wpAny_handled ?_)
 rw[show A.in1.handled=none from hh]
 refine AA (AK (wpAny_throw ?_))
 refine AA (FK (T := "StopIteration") (b:=true) ⟨_,AW _ rfl,rfl⟩ Gf ?_)
 exact AK (hQ _ (((Dm ..).extBut.push _).push _))
theorem kY(hh:A.handled=none)(I d:yJ)(hne:d≠I)(es:Array yP)(ep:Nat) :
  Walks prog w A I [I,d] [I] es.size (λi v=>∃h:i<es.size,v=es[i].key) (λi h=>h.IsKeyIter I d i es.size ep/\JE h d es ep) where
 sub:=λb hb=>by simp at hb;simp [hb]
 frame:=λ_ _ _ st hk=>⟨st.1.at λo e=>hk I (by simp) o e,st.2.keep λo e=>hk d (by simp) o e⟩
 item:=λi s Q E hi st hQ=>Uh st.1 st.2 hi λh' on hs=>hQ es[i].key h' s.toks ⟨hi,rfl⟩ ⟨on,st.2.keep λo e=>hs.extBut _ _ hne e⟩ λb o hb e=>hs.extBut b o (λz=>hb (by simp [z])) e
 done:=λs Q E st hQ=>UN hh st.1 st.2 (AH _) λh' he=>hQ h' s.toks λb o hb e=>he b o (λz=>hb (by simp [z])) e
 self:=λ_ _ _ _ st hQ=>wpAny_pyIter_keyiter st.1 hQ
end
end L2.Rw
namespace L2.Pl
noncomputable abbrev Pw:=xX
noncomputable abbrev Go:=xX×Int
noncomputable def Hs:Pw->Pw->Bool
 |[],[]=>false
 |[],_::_=>true
 |_::_,[]=>false
 |x::xs,y::ys=>if x=y then Hs xs ys else decide (x<y)
theorem Ji:∀a:Pw,Hs a a=false
 |[]=>rfl
 |x::xs=>by simp [Hs,Ji xs]
theorem Lu:∀{a b c:Pw},Hs a b=true->Hs b c=true->Hs a c=true
 |[],[],c,h,_=>by simp [Hs]at h
 |[],_::_,[],_,h=>by simp [Hs]at h
 |[],_::_,_::_,_,_=>rfl
 |_::_,[],_,h,_=>by simp [Hs]at h
 |_::_,_::_,[],_,h=>by simp [Hs]at h
 |x::xs,y::ys,z::zs,h,q=>by
  simp only[Hs]at h q ⊢
  split at h
  ·rename_i e
   subst e
   split at q
   ·rename_i e
    subst e
    rw[AF rfl]
    exact Lu h q
   ·rename_i e
    rw[AD e]
    exact q
  ·rename_i e
   have h':=Ay h
   split at q
   ·rename_i e2
    subst e2
    rw[AD e]
    exact h
   ·have q':=Ay q
    rw[AD (by lia)]
    exact Ac (by lia)
theorem MV:∀{a b:Pw},Hs a b=false->Hs b a=false->a=b
 |[],[],_,_=>rfl
 |[],_::_,h,_=>by simp [Hs]at h
 |_::_,[],_,h=>by simp [Hs]at h
 |x::xs,y::ys,h,q=>by
  simp only[Hs]at h q
  by_cases e:x=y
  ·subst e
   rw[AF rfl]at h q
   rw[MV h q]
  ·rw[AD e]at h
   rw[AD (λz=>e z.symm)]at q
   have h':=C1 h
   have q':=C1 q
   lia
structure RC{α:Type}(lt:α->α->Bool):Prop where
 irr:∀a,lt a a=false
 trans:∀{a b c},lt a b=true->lt b c=true->lt a c=true
 tri:∀{a b},lt a b=false->lt b a=false->a=b
theorem LC:RC Hs:=⟨Ji,Lu,MV⟩
noncomputable def NW(a b:Go):Bool:=if a.1=b.1 then decide (a.2<b.2) else Hs a.1 b.1
theorem cP:RC NW where
 irr:=λa=>by simp [NW]
 trans:=λ{a b c} h q=>by
  unfold NW at h q ⊢
  by_cases e1:a.1=b.1
  ·rw[AF e1]at h
   by_cases e2:b.1=c.1
   ·rw[AF e2]at q
    rw[AF (e1.trans e2)]
    have:=Ay h
    have:=Ay q
    exact Ac (by lia)
   ·rw[AD e2]at q
    rw[AD (λz=>e2 (e1.symm.trans z)),e1]
    exact q
  ·rw[AD e1]at h
   by_cases e2:b.1=c.1
   ·rw[<-e2,AD e1]
    exact h
   ·rw[AD e2]at q
    have t:=Lu h q
    rw[AD (λz=>by rw[z,Ji]at t;cases t)]
    exact t
 tri:=λ{a b} h q=>by
  unfold NW at h q
  by_cases e:a.1=b.1
  ·rw[AF e]at h
   rw[AF e.symm]at q
   have:=C1 h
   have:=C1 q
   exact EH e (by lia)
  ·rw[AD e]at h
   rw[AD (λz=>e z.symm)]at q
   exact absurd (MV h q) e
noncomputable def LN{α:Type}(lt:α->α->Bool)(l:List α)(a:α):Nat:=(l.filter (lt · a)).length
theorem Pe{α:Type}{lt:α->α->Bool}(L:RC lt){l:List α}{a b:α}(ha:a∈l):lt a b=true↔LN lt l a<LN lt l b:=by
 constructor
 ·intro h
  unfold LN
  have key:∀m:List α,(m.filter (lt · a)).length<=(m.filter (lt · b)).length/\(a∈m->(m.filter (lt · a)).length<(m.filter (lt · b)).length):=by
   intro m
   induction m with
   |nil=>simp
   |cons x m ih =>
    rw[BO,BO]
    by_cases c:lt x a=true
    ·rw[AF c,AF (L.trans c h)]
     simp only[Am]
     refine⟨by lia,λhm=>?_⟩
     rcases AY.mp hm with e|hm
     ·subst e;rw[L.irr]at c;cases c
     ·have:=ih.2 hm;lia
    ·rw[AD c]
     by_cases c2:lt x b=true
     ·rw[AF c2]
      simp only[Am]
      exact⟨by lia,λ_=>by lia⟩
     ·rw[AD c2]
      refine⟨ih.1,λhm=>?_⟩
      rcases AY.mp hm with e|hm
      ·subst e;exact absurd h c2
      ·exact ih.2 hm
  exact(key l).2 ha
 ·intro h
  cases c:lt a b with
  |true=>rfl
  |false =>
   exfalso
   have key:∀m:List α,(m.filter (lt · b)).length<=(m.filter (lt · a)).length:=by
    intro m
    induction m with
    |nil=>simp
    |cons x m ih =>
     rw[BO,BO]
     by_cases c1:lt x b=true
     ·have c2:lt x a=true:=by
       cases c3:lt x a with
       |true=>rfl
       |false =>
        cases c4:lt a x with
        |true =>
         rw[L.trans c4 c1]at c;cases c
        |false =>
         have e:=L.tri c3 c4
         subst e
         rw[c1]at c;cases c
      rw[AF c1,AF c2]
      simp only[Am]
      lia
     ·rw[AD c1]
      split
      ·simp only[Am];lia
      ·exact ih
   have:=key l
   unfold LN at h
   lia
noncomputable def cf:List Go->Pw->Int
 |[],_=>0
 |t::r,p=>(if t.1=p then t.2 else 0)+cf r p
theorem NT(p:Pw):∀a b:List Go,cf (a++b) p=cf a p+cf b p
 |[],b=>by simp [cf]
 |t::a,b=>by simp only[List.cons_append,cf,NT p a b];lia
theorem cR{a b:List Go}(h:a.Perm b)(p:Pw):cf a p=cf b p:=by
 induction h with
 |nil=>rfl
 |cons x _ ih=>simp only[cf,ih]
 |swap x y l=>simp only[cf];lia
 |trans _ _ i1 i2=>exact i1.trans i2
theorem Mh{p:Pw}:∀{l:List Go},(∀t∈l,t.1≠p)->cf l p=0
 |[],_=>rfl
 |t::r,h=>by
  simp only[cf]
  rw[AD (h t (AG ..)),Mh λx hx=>h x (AE _ hx)]
  rfl
structure HZ(l:List Go):Prop where
 ord:l.Pairwise λa b=>Hs b.1 a.1=true
 num:∀t∈l,t.2≠0
theorem HZ.tail{t:Go}{l:List Go}(h:HZ (t::l)):HZ l:=⟨(Av.mp h.ord).2,λx hx=>h.num x (AE _ hx)⟩
theorem HZ.head{t:Go}{l:List Go}(h:HZ (t::l)):cf (t::l) t.1=t.2:=by
 have o:=(Av.mp h.ord).1
 simp only[cf]
 rw[AF trivial,Mh λx hx e=>by have:=o x hx;rw[e,Ji]at this;cases this]
 lia
theorem HZ.above{l:List Go}(h:HZ l){p:Pw}(q:∀t∈l,Hs t.1 p=true):cf l p=0:=Mh λt ht e=>by
 have:=q t ht
 rw[e,Ji]at this
 cases this
theorem VH:∀{a b:List Go},HZ a->HZ b->(∀p,cf a p=cf b p)->a=b
 |[],[],_,_,_=>rfl
 |[],t::b,_,hb,e=>by
  have:=e t.1
  rw[hb.head]at this
  exact absurd this.symm (hb.num t (AG ..))
 |t::a,[],ha,_,e=>by
  have:=e t.1
  rw[ha.head]at this
  exact absurd this (ha.num t (AG ..))
 |t::a,u::b,ha,hb,e=>by
  have oa:=(Av.mp ha.ord).1
  have ob:=(Av.mp hb.ord).1
  have k1:Hs t.1 u.1=false:=by
   cases c:Hs t.1 u.1 with
   |false=>rfl
   |true =>
    have z:=e u.1
    rw[hb.head,ha.above λx hx=>by
     rcases AY.mp hx with rfl|hx
     ·exact c
     ·exact Lu (oa x hx) c]at z
    exact absurd z.symm (hb.num u (AG ..))
  have k2:Hs u.1 t.1=false:=by
   cases c:Hs u.1 t.1 with
   |false=>rfl
   |true =>
    have z:=e t.1
    rw[ha.head,hb.above λx hx=>by
     rcases AY.mp hx with rfl|hx
     ·exact c
     ·exact Lu (ob x hx) c]at z
    exact absurd z (ha.num t (AG ..))
  have e1:t.1=u.1:=MV k1 k2
  have e2:t.2=u.2:=by
   have z:=e t.1
   rw[ha.head,e1,hb.head]at z
   exact z
  have e3:t=u:=EH e1 e2
  subst e3
  rw[VH ha.tail hb.tail λp=>by
   have z:=e p
   simp only[cf]at z
   lia]
noncomputable def ins(t:Go):List Go->List Go
 |[]=>if t.2=0 then [] else [t]
 |u::r=>if t.1=u.1 then (if u.2+t.2=0 then r else (u.1,u.2+t.2)::r) else if Hs u.1 t.1=true then (if t.2=0 then u::r else t::u::r) else u::ins t r
theorem SM(t:Go)(p:Pw):∀l:List Go,cf (ins t l) p=(if t.1=p then t.2 else 0)+cf l p
 |[]=>by
  unfold ins
  split
  ·rename_i h;simp [cf,h]
  ·simp [cf]
 |u::r=>by
  unfold ins
  split
  ·rename_i h
   split
   ·rename_i z
    simp only[cf]
    by_cases e:u.1=p
    ·rw[AF e,AF (h.trans e)];lia
    ·rw[AD e,AD (λq=>e (h.symm.trans q))];lia
   ·simp only[cf]
    by_cases e:u.1=p
    ·rw[AF e,AF e,AF (h.trans e)];lia
    ·rw[AD e,AD e,AD (λq=>e (h.symm.trans q))];lia
  ·split
   ·split
    ·rename_i z;rw[z];simp only[cf];split<;>lia
    ·simp only[cf]
   ·simp only[cf,SM t p r];lia
theorem R5(t:Go){q:Pw}:∀{l:List Go},(∀x∈l,Hs x.1 q=true)->Hs t.1 q=true->∀x∈ins t l,Hs x.1 q=true
 |[],_,ht,x,hx=>by
  unfold ins at hx
  split at hx
  ·simp at hx
  ·rw[AS.mp hx];exact ht
 |u::r,h,ht,x,hx=>by
  have hr:∀x∈r,Hs x.1 q=true:=λy hy=>h y (AE _ hy)
  have hu:=h u (AG ..)
  unfold ins at hx
  split at hx
  ·split at hx
   ·exact hr x hx
   ·rcases AY.mp hx with rfl|hx
    ·exact hu
    ·exact hr x hx
  ·split at hx
   ·split at hx
    ·exact h x hx
    ·rcases AY.mp hx with rfl|hx
     ·exact ht
     ·exact h x hx
   ·rcases AY.mp hx with rfl|hx
    ·exact hu
    ·exact R5 t hr ht x hx
theorem Rn(t:Go):∀{l:List Go},HZ l->HZ (ins t l)
 |[],_=>by
  unfold ins
  split
  ·exact⟨.nil,λx hx=>by simp at hx⟩
  ·rename_i h
   exact⟨D6 _ _,λx hx=>by rw[AS.mp hx];exact h⟩
 |u::r,h=>by
  obtain⟨o1,o2⟩:=Av.mp h.ord
  have nr:∀x∈r,x.2≠0:=λx hx=>h.num x (AE _ hx)
  have nu:=h.num u (AG ..)
  unfold ins
  split
  ·split
   ·exact h.tail
   ·rename_i z
    refine⟨Av.mpr ⟨o1,o2⟩,λx hx=>?_⟩
    rcases AY.mp hx with rfl|hx
    ·exact z
    ·exact nr x hx
  ·rename_i ne
   split
   ·rename_i lt
    split
    ·exact h
    ·rename_i z
     refine⟨Av.mpr ⟨λx hx=>?_,h.ord⟩,λx hx=>?_⟩
     ·rcases AY.mp hx with rfl|hx
      ·exact lt
      ·exact Lu (o1 x hx) lt
     ·rcases AY.mp hx with rfl|hx
      ·exact z
      ·exact h.num x hx
   ·rename_i lt
    have c:=Rn t h.tail
    have tu:Hs t.1 u.1=true:=by
     cases k:Hs t.1 u.1 with
     |true=>rfl
     |false=>exact absurd (MV k (by simpa using lt)) ne
    refine⟨Av.mpr ⟨λx hx=>R5 t o1 tu x hx,c.ord⟩,λx hx=>?_⟩
    rcases AY.mp hx with rfl|hx
    ·exact nu
    ·exact c.num x hx
noncomputable def norm(ts:List Go):List Go:=ts.foldr ins []
theorem JV:∀ts:List Go,HZ (norm ts)
 |[]=>⟨.nil,λx hx=>by simp [norm]at hx⟩
 |t::r=>Rn t (JV r)
theorem J6(p:Pw):∀ts:List Go,cf (norm ts) p=cf ts p
 |[]=>rfl
 |t::r=>by
  show cf (ins t (norm r)) p=_
  rw[SM,J6 p r]
  rfl
theorem QR{l ts:List Go}(c:HZ l)(e:∀p,cf l p=cf ts p):l=norm ts:=VH c (JV ts) λp=>by rw[e,J6]
theorem wB{a b:List Go}(e:∀p,cf a p=cf b p):norm a=norm b:=VH (JV a) (JV b) λp=>by rw[J6,J6,e]
theorem fW{l:List Go}(c:HZ l):norm l=l:=(QR c λ_=>rfl).symm
theorem J7{ts:List Go}{t:Go}(h:t∈norm ts):∃u∈ts,u.1=t.1:=by
 have c:=JV ts
 have:cf (norm ts) t.1=t.2:=by
  have key:∀l:List Go,HZ l->t∈l->cf l t.1=t.2:=by
   intro l
   induction l with
   |nil=>intro _ hm;simp at hm
   |cons u l ih =>
    intro c hm
    rcases AY.mp hm with e|hm
    ·subst e;exact c.head
    ·have o:=(Av.mp c.ord).1 t hm
     simp only[cf]
     rw[AD (λe=>by rw[e,Ji]at o;cases o),ih c.tail hm]
     lia
  exact key _ c h
 rw[J6]at this
 false_or_by_contra
 rename_i n
 have z:cf ts t.1=0:=Mh λu hu e=>n ⟨u,hu,e⟩
 exact c.num t h (by lia)
theorem T0(t:Go):∀l:List Go,(ins t l).length<=l.length+1
 |[]=>by unfold ins;split<;>simp
 |u::r=>by
  unfold ins
  split
  ·split
   ·simp;lia
   ·simp
  ·split
   ·split<;>simp
   ·have:=T0 t r;simp;lia
theorem Pc:∀ts:List Go,(norm ts).length<=ts.length
 |[]=>AH _
 |t::r=>by
  have h1:=T0 t (norm r)
  have h2:=Pc r
  show(ins t (norm r)).length<=r.length+1
  lia
noncomputable def Jj(d:List Go)(p:Pw):Option Int:=(d.find? λkv=>decide (kv.1=p)).map (·.2)
noncomputable def MA(d:List Go)(p:Pw)(n:Int):List Go:=if (d.any λkv=>decide (kv.1=p))=true then d.map (λkv=>if kv.1=p then (kv.1,n) else kv) else d++[(p,n)]
noncomputable abbrev Nd(d:List Go):Prop:=(d.map (·.1)).Nodup
theorem Pz:∀{d:List Go},Nd d->∀p,(Jj d p).getD 0=cf d p
 |[],_,p=>rfl
 |t::r,h,p=>by
  obtain⟨h1,h2⟩:=Ce.mp (show(t.1::r.map (·.1)).Nodup from h)
  simp only[cf]
  by_cases e:t.1=p
  ·subst e
   have z:cf r t.1=0:=Mh λu hu e=>h1 (e▸AN.mpr ⟨u,hu,rfl⟩)
   simp [Jj,CG,z]
  ·have ih:=Pz h2 p
   rw[AD e,<-ih]
   simp [Jj,CG,e]
theorem Rz(d:List Go)(p:Pw)(n:Int):(MA d p n).map (·.1)=if p∈d.map (·.1) then d.map (·.1) else d.map (·.1)++[p]:=by
 unfold MA
 have ha:(d.any λkv=>decide (kv.1=p))=true↔p∈d.map (·.1):=by simp
 by_cases c:p∈d.map (·.1)
 ·rw[AF (ha.mpr c),AF c,Bp]
  apply CF
  intro x _
  simp only[Function.comp]
  split<;>rfl
 ·rw[AD (λz=>c (ha.mp z)),AD c,Ar]
  rfl
theorem YK{d:List Go}(h:Nd d)(p:Pw)(n:Int):Nd (MA d p n):=by
 unfold Nd
 rw[Rz]
 split
 ·exact h
 ·rename_i c
  exact Et.mpr ⟨h,by simp,λa ha b hb e=>by
   rw[AS.mp hb]at e
   exact c (e▸ha)⟩
theorem mC{d:List Go}(h:Nd d)(p:Pw)(n:Int)(q:Pw):cf (MA d p n) q=if p=q then n else cf d q:=by
 unfold MA
 by_cases c:(d.any λkv=>decide (kv.1=p))=true
 ·rw[AF c]
  have key:∀l:List Go,Nd l->(l.any λkv=>decide (kv.1=p))=true->cf (l.map λkv=>if kv.1=p then (kv.1,n) else kv) q=if p=q then n else cf l q:=by
   intro l
   induction l with
   |nil=>intro _ z;simp at z
   |cons t r ih =>
    intro hn ha
    obtain⟨h1,h2⟩:=Ce.mp (show(t.1::r.map (·.1)).Nodup from hn)
    rw[Ai]
    by_cases e:t.1=p
    ·subst e
     have same:(r.map λkv=>if kv.1=t.1 then (kv.1,n) else kv)=r:=by
      conv=>rhs;rw[<-HP r]
      apply CF
      intro x hx
      have ne:¬ x.1=t.1:=λe=>h1 (by rw[<-e];exact AN.mpr ⟨x,hx,rfl⟩)
      rw[AD ne]
      rfl
     rw[AF rfl,same]
     simp only[cf]
     by_cases e2:t.1=q
     ·rw[AF e2,AF e2]
      have z:cf r q=0:=Mh λu hu e=>h1 (by rw[e2,<-e];exact AN.mpr ⟨u,hu,rfl⟩)
      lia
     ·rw[AD e2,AD e2,AD e2]
    ·have ha':(r.any λkv=>decide (kv.1=p))=true:=by simpa [CM,e]using ha
     rw[AD e]
     simp only[cf]
     rw[ih h2 ha']
     by_cases e2:p=q
     ·rw[AF e2,AD (λz=>e (z.trans e2.symm)),AF e2];lia
     ·rw[AD e2,AD e2]
  exact key d h c
 ·rw[AD c,NT]
  simp only[cf]
  by_cases e:p=q
  ·subst e
   rw[AF rfl,AF rfl]
   have z:cf d p=0:=Mh λu hu e=>c (E7.mpr ⟨u,hu,Ac e⟩)
   lia
  ·rw[AD e,AD e];lia
noncomputable def JG(ts:List Go):List Go:=ts.foldl (λd t=>MA d t.1 ((Jj d t.1).getD 0+t.2)) []
theorem Qj(ts:List Go)(t:Go):JG (ts++[t])=MA (JG ts) t.1 ((Jj (JG ts) t.1).getD 0+t.2):=by
 unfold JG;rw[CC];rfl
theorem LU{α:Type}{P:List α->Prop}(h0:P [])(hs:∀l x,P l->P (l++[x])):∀l,P l:=by
 intro l
 rw[<-DZ l]
 induction l.reverse with
 |nil=>exact h0
 |cons x l ih=>rw[Er];exact hs _ _ ih
theorem Wr:∀ts:List Go,Nd (JG ts):=LU (by simp [JG,Nd]) λl t h=>by rw[Qj];exact YK h _ _
theorem U5(q:Pw):∀ts:List Go,cf (JG ts) q=cf ts q:=LU rfl λl t h=>by
 rw[Qj,mC (Wr l),NT,Pz (Wr l)]
 simp only[cf]
 by_cases e:t.1=q
 ·rw[AF e,AF e,e,h];lia
 ·rw[AD e,AD e,h];lia
theorem aZ(d:List Go)(p:Pw)(n:Int):(MA d p n).length<=d.length+1:=by
 unfold MA
 split<;>simp
theorem W8:∀ts:List Go,(JG ts).length<=ts.length:=LU (AH _) λl t h=>by
 rw[Qj]
 have:=aZ (JG l) t.1 ((Jj (JG l) t.1).getD 0+t.2)
 simp
 lia
theorem iX{p:Pw}:∀ts:List Go,p∈(JG ts).map (·.1)->p∈ts.map (·.1):=LU (by simp [JG]) λl t h hp=>by
 rw[Qj,Rz]at hp
 rw[Ar]
 split at hp
 ·exact A0 _ (h hp)
 ·rcases Ao.mp hp with z|z
  ·exact A0 _ (h z)
  ·exact Aj _ (by rw[AS.mp z];simp)
theorem VQ{d:List Go}{p:Pw}(h:p∈d.map (·.1)):∃n,Jj d p=some n:=by
 obtain⟨x,hx,e⟩:=AN.mp h
 unfold Jj
 cases c:d.find? λkv=>decide (kv.1=p) with
 |none=>exact absurd (Ac e) (by simpa using List.find?_eq_none.mp c x hx)
 |some y=>exact⟨y.2,rfl⟩
theorem Vw{ts:List Go}{ks:List Pw}(hp:ks.Perm ((JG ts).map (·.1)))(ho:ks.Pairwise λa b=>Hs a b=false) :
  (ks.filter λk=>decide ((Jj (JG ts) k).getD 0≠0)).map (λk=>(k,(Jj (JG ts) k).getD 0))=norm ts:=by
 have nd:ks.Nodup:=(hp.nodup_iff).mpr (Wr ts)
 have so:ks.Pairwise λa b=>Hs b a=true:=(List.pairwise_and_iff.mpr ⟨ho,nd⟩).imp λ{a b} h=>by
  cases c:Hs b a with
  |true=>rfl
  |false=>exact absurd (MV h.1 c) h.2
 have g:∀p,(Jj (JG ts) p).getD 0=cf ts p:=λp=>by rw[Pz (Wr ts),U5]
 have e:(ks.filter λk=>decide ((Jj (JG ts) k).getD 0≠0)).map (λk=>(k,(Jj (JG ts) k).getD 0))=(ks.filter λk=>decide (cf ts k≠0)).map λk=>(k,cf ts k):=by
  simp only[g]
 rw[e]
 refine QR ⟨?_,λt ht=>?_⟩ λp=>?_
 ·rw[BQ]
  exact so.sublist HA
 ·obtain⟨k,hk,rfl⟩:=AN.mp ht
  simpa using (BU.mp hk).2
 ·have key:∀l:List Pw,l.Nodup->cf ((l.filter λk=>decide (cf ts k≠0)).map λk=>(k,cf ts k)) p=if p∈l then cf ts p else 0:=by
   intro l
   induction l with
   |nil=>intro _;rfl
   |cons a l ih =>
    intro hn
    obtain⟨h1,h2⟩:=Ce.mp hn
    have ih':=ih h2
    rw[BO]
    by_cases c:cf ts a≠0
    ·rw[AF (Ac c),Ai]
     simp only[cf]
     rw[ih']
     by_cases e:a=p
     ·subst e
      rw[AF rfl,AD h1,AF (AG ..)];lia
     ·rw[AD e]
      by_cases m:p∈l
      ·rw[AF m,AF (AE _ m)];lia
      ·rw[AD m,AD (λz=>(AY.mp z).elim (λq=>e q.symm) m)];lia
    ·rw[AD (by simpa using c),ih']
     have c':cf ts a=0:=by lia
     by_cases e:a=p
     ·subst e
      rw[AD h1,AF (AG ..),c']
     ·by_cases m:p∈l
      ·rw[AF m,AF (AE _ m)]
      ·rw[AD m,AD (λz=>(AY.mp z).elim (λq=>e q.symm) m)]
  rw[key ks nd]
  by_cases m:p∈ks
  ·rw[AF m]
  ·rw[AD m,<-U5 p ts]
   exact(Mh λu hu e=>m (hp.mem_iff.mpr (AN.mpr ⟨u,hu,e⟩))).symm
end L2.Pl
namespace L2.Ev
open PySem PySem.Spec PyProof.Rows
open L2.Ts L2.Pl
theorem RP:∀a b:xX,HT.lexLt a b=Hs a b
 |[],[]=>by rw[HT.lexLt_nil_nil];rfl
 |[],_::_=>by rw[HT.lexLt_nil_cons];rfl
 |_::_,[]=>by rw[HT.lexLt_cons_nil];rfl
 |x::xs,y::ys=>by
  rw[HT.lexLt_cons]
  simp only[Hs]
  split
  ·exact RP xs ys
  ·rfl
section
variable{prog:yL}{w:yM}{A:Around}{E:xZ}{s:yH}{b fin:Bool}{Q:Bool->yH->Prop}
theorem SC:∀{vs ws:xY}{ns ms:xX}{i:Nat},IntsAre vs ns->IntsAre ws ms->(fin=decide (ns.length<ms.length))->Q (Hs ns ms) s->W.KatLex prog w A b fin Q (vs.zip ws) i s
 |[],[],_,_,i,.nil,.nil,e,q=>by
  subst e
  exact Dp q
 |[],_::_,_,_,i,.nil,.cons _ _ _,e,q=>by
  subst e
  refine Dp ?_
  simpa [Hs]using q
 |_::_,[],_,_,i,.cons _ _ _,.nil,e,q=>by
  subst e
  refine Dp ?_
  simpa [Hs]using q
 |_,_,_,_,i,.cons a t hv,.cons c u hw,e,q=>by
  rw[Cy]
  simp only[Hs]at q
  obtain⟨eq,he,hiff⟩:=HT.eqAt_int A s a t c u
  refine Da (he prog w _ _ ?_)
  cases eq with
  |true =>
   rw[AF (hiff.mp rfl)]at q
   refine Dq (SC hv hw ?_ q)
   rw[e]
   simp
  |false =>
   rw[AD (λz=>absurd (hiff.mpr z) Ae)]at q
   refine D0 ?_
   cases hb:(b&&i==0) with
   |true=>exact oneLt_int q
   |false =>
    refine DU _ _ ?_
    exact EY q
end
section
variable{X:Cx}{Fq:yA}{σ:St}{H:Hp}{s:yH}
class JR (α:Type) [D:Dat α] where
 lt:α->α->Bool
 lin:RC lt
 plain:Bool
 ok:α->Prop
 first:∀{X:Cx}{Fq:yA}{σ:St}{H:Hp}{s:yH}{v:V}{a:α},Inv X Fq σ H s->D.is H v a->ok a ->
  ∃(p:yJ)(o:Obj)(xs:yF)(n:Nat)(f:yI),HN v (.ref p)/\s.heap.get? p=some o/\o.cls=.type "tuple" /\ o.data=.seq xs n/\xs[0]?=some f/\W.Looks (model X.prog X.w) s.heap (typeOf f) (if plain=true then .type "int" else .type "tuple")
 asks:∀{X:Cx}{Fq:yA}{σ:St}{H:Hp}{s:yH}{A:Around}{v v':V}{u u':yI}{a b:α},Inv X Fq σ H s->A.units+4<cLine->D.is H v a->D.is H v' b->ok a->ok b->HN v u->HN v' u' ->
  ∀Q:Bool->yH->Prop,Q (lt a b) s->wpAny (model X.prog X.w) A (keyLt' (tuples' plain) u u') Q (λ_ _=>False) s
theorem JI{H:Hp}{v:V}{r:xX}(h:Dat.is H v r):∃p,v=.ref p/\H p=some (.tup (r.map V.int)):=by
 obtain⟨p,vs,e,q,i⟩:=h
 have ei:∀{vs:List V}{ns:xX},Hr H vs ns->vs=ns.map V.int:=by
  intro vs ns i
  induction i with
  |nil=>rfl
  |cons r t ih=>rw[Ai,<-ih];exact congrArg (· :: _) r
 rw[ei i]at q
 exact⟨p,e,q⟩
theorem J9{H:Hp}{p:yJ}{r:xX}(h:H p=some (.tup (r.map V.int))):Dat.is H (.ref p) r:=by
 have ei:∀ns:xX,Hr H (ns.map V.int) ns:=by
  intro ns
  induction ns with
  |nil=>exact .nil
  |cons n r ih=>exact .cons rfl ih
 exact⟨p,_,rfl,h,ei r⟩
theorem LD{a:yJ}{xs:List V}(I:Inv X Fq σ H s)(h:H a=some (.tup xs)):∃(o:Obj)(its:xY)(n:Nat),s.heap.get? a=some o/\o.cls=.type "tuple" /\ o.data=.seq its.toArray n/\HS xs its:=by
 obtain⟨its,rv,ht,_⟩:=I.tuple (HM.of h)
 obtain⟨o,ho,hc,n,hd⟩:=ht
 exact⟨o,its,n,ho,hc,hd,rv⟩
instance Wp:JR xX where
 lt:=Hs
 lin:=LC
 plain:=true
 ok:=λa=>a≠[]
 first:=λ{X Fq σ H s v a} I h ok=>by
  obtain⟨p,rfl,hp⟩:=JI h
  obtain⟨o,its,n,ho,hc,hd,rv⟩:=LD I hp
  cases a with
  |nil=>exact absurd rfl ok
  |cons x a =>
   rw[Ai]at rv
   cases rv with
   |cons r t =>
    obtain⟨tk,rfl⟩:=r
    exact⟨p,o,_,n,_,rfl,ho,hc,hd,rfl,W.Looks.of_pure rfl⟩
 asks:=λ{X Fq σ H s A v v' u u' a b} I hu h h' ok ok' r r' Q q=>by
  obtain⟨p,rfl,hp⟩:=JI h
  obtain⟨p',rfl,hp'⟩:=JI h'
  obtain⟨o,its,n,ho,hc,hd,rv⟩:=LD I hp
  obtain⟨o',its',n',ho',hc',hd',rv'⟩:=LD I hp'
  cases r
  cases r'
  refine Fz ho hd ho' hd' (SC (J3 rv) (J3 rv') ?_ q)
  have l1:=rv.length
  have l2:=rv'.length
  simp only[AB]at l1 l2
  simp only[At]
  rw[l1,l2]
instance vP:JR (xX×Int) where
 lt:=NW
 lin:=cP
 plain:=false
 ok:=λ_=>True
 first:=λ{X Fq σ H s v a} I h ok=>by
  obtain⟨p,x,y,rfl,hp,hx,hy⟩:=h
  obtain⟨o,its,n,ho,hc,hd,rv⟩:=LD I hp
  obtain⟨p2,rfl,hp2⟩:=JI hx
  obtain⟨o2,its2,n2,ho2,hc2,hd2,rv2⟩:=LD I hp2
  obtain⟨w1,w2,rfl,r1,r2⟩:=MF rv
  cases r1
  refine⟨p,o,_,n,_,rfl,ho,hc,hd,rfl,?_⟩
  rw[AD (by decide),<-hc2]
  exact(EI ho2).andThen .now
 asks:=λ{X Fq σ H s A v v' u u' a b} I hu h h' ok ok' r r' Q q=>by
  obtain⟨p,x,y,rfl,hp,hx,hy⟩:=h
  obtain⟨p',x',y',rfl,hp',hx',hy'⟩:=h'
  obtain⟨o,its,n,ho,hc,hd,rv⟩:=LD I hp
  obtain⟨o',its',n',ho',hc',hd',rv'⟩:=LD I hp'
  cases r
  cases r'
  obtain⟨w1,w2,rfl,r1,r2⟩:=MF rv
  obtain⟨z1,z2,rfl,t1,t2⟩:=MF rv'
  refine Fz ho hd ho' hd' ?_
  show W.KatLex _ _ _ _ _ _ [(w1,z1),(w2,z2)] 0 s
  have e1:=Dat.eqAt (A:=A) I (by show A.units+(0+1)<cLine;lia) hx hx' r1 t1
  refine Da (e1 _ _ _ _ ?_)
  unfold NW at q
  cases c:Dat.eqb a.1 b.1 with
  |true =>
   have e:=(Dat.eqb_iff a.1 b.1).mp c
   rw[AF e]at q
   refine Dq ?_
   have hy2:y=.int a.2:=hy
   have hy2':y'=.int b.2:=hy'
   subst hy2 hy2'
   obtain⟨k1,rfl⟩:=r2
   obtain⟨k2,rfl⟩:=t2
   obtain⟨eq,he,hiff⟩:=HT.eqAt_int A s a.2 k1 b.2 k2
   refine Da (he _ _ _ _ ?_)
   cases eq with
   |true =>
    have e2:=hiff.mp rfl
    rw[Aa (by lia)]at q
    refine Dq (Dp ?_)
    simpa using q
   |false =>
    refine D0 (DU _ _ ?_)
    exact EY q
  |false =>
   have e:¬ a.1=b.1:=λz=>by rw[(Dat.eqb_iff a.1 b.1).mpr z]at c;cases c
   rw[AD e]at q
   refine D0 (DU _ _ ?_)
   obtain⟨p2,rfl,hp2⟩:=JI hx
   obtain⟨p2',rfl,hp2'⟩:=JI hx'
   cases r1
   cases t1
   obtain⟨its,r1,q1,_⟩:=I.tuple (HM.of hp2)
   obtain⟨its2,r2,q2,_⟩:=I.tuple (HM.of hp2')
   have i1:IntsAre its.toArray.toList a.1:=J3 r1
   have i2:IntsAre its2.toArray.toList b.1:=J3 r2
   refine HT.lt_tupInts q1 q2 i1 i2 (by lia) ?_
   rw[RP]
   exact q
end
end L2.Ev
namespace L2.Ts
open PySem PyProof.Rows
section
variable{prog:yL}{w:yM}{A:Around}{E:xZ}{s:yH}{κ:SortKind}{M:Keyed->Prop}{rk:Keyed->Nat}
theorem US(vs:xY):(vs.zip vs).map (·.2)=vs:=List.map_snd_zip (AH _)
theorem qJ{a:yJ}{vs:xY}{n:Nat}{P:PySem.Fin->yH->Prop}(ho:s.heap.get? a=some (seqObj "list" vs.toArray n))(hz:vs.length<=sizeLine)(hM:∀v∈vs,M (v,v))
  (hk:∀h',(∀b o,b≠a->s.heap.get? b=some o->h'.get? b=some o)->2<=vs.length->(∀(Q:SortKind->yH->Prop)(E':xZ),Q κ { s with heap:=h' }->wpAny (model prog w) A (keyKind' vs.toArray) Q E' { s with heap:=h' })/\Kd prog w A { s with heap:=h' } κ M rk)
  (h:∀out:xY,out.Perm vs->(out.Pairwise λx y=>rk (y,y)<=rk (x,x))->P (.done (.ret .none)) { s with heap:=sortedHeap s.heap a vs out.toArray }) :
  wpAny (model prog w) A (Builtin.«list.sort» ⟨[.ref a],[(Str.ofString "reverse",.bool true)]⟩) P E s:=by
 rw[list_sort_rev]
 have ha:a<s.heap.objs.size:=AU ho
 have hsz:vs.toArray.size=vs.length:=by simp
 refine AA (listItems_at ho rfl (AA (listUpdate_at ho rfl ?_ (by rw[hsz];exact hz) (by simp))))
 obtain⟨e1,ho1⟩:∃e1,(s.heap.update a (Obj.mapSeq λ_=>#[])).get? a=some (seqObj "list" #[] e1):=⟨_,get?_update_seq ho (λ_=>#[])⟩
 refine AA (seqEpoch_at ho1 rfl (AA (wpAny_newTuple ?_ (by simpa using hz))))
 refine AA (wpAny_newList (DR ?_))
 have ho6:(((s.heap.update a (Obj.mapSeq λ_=>#[])).push (seqObj "tuple" vs.toArray 0)).push (seqObj "list" #[] 0)).get? a=some (seqObj "list" #[] e1):=by
  rw[Heap.get?_push_ne _ _ _ (by rw[size_push',EJ];exact Au (Nat.lt_succ_of_lt ha)),Heap.get?_push_ne _ _ _ (by rw[EJ];exact Au ha)]
  exact ho1
 have keep:∀b o,b≠a->s.heap.get? b=some o->(((s.heap.update a (Obj.mapSeq λ_=>#[])).push (seqObj "tuple" vs.toArray 0)).push (seqObj "list" #[] 0)).get? b=some o:=λb o hb e =>
  AC _ (AC _ ((BN _ _ (C3 hb)).trans e))
 show wpAny (model prog w) A _ P E { s with heap:=((s.heap.update a (Obj.mapSeq λ_=>#[])).push (seqObj "tuple" vs.toArray 0)).push (seqObj "list" #[] 0) }
 dsimp only
 simp only[CQ]
 refine AA (CW ?_)
 by_cases h2:vs.toArray.size<2
 ·rw[AF h2,AF h2]
  refine AA (AK ?_)
  rw[StateT.run_pure]
  refine AA (AK ?_)
  dsimp only
  have eo:((arrOf (SortSt.mk' general' (vs.toArray.zip vs.toArray).reverse #[] 7 none)).map (·.2)).reverse=vs.toArray:=by
   show((vs.toArray.zip vs.toArray).reverse.map (·.2)).reverse=vs.toArray
   apply Array.ext'
   simp only[Cf,Array.toList_map,Array.toList_zip,List.map_reverse,DZ]
   exact US vs
  refine AA (seqEpoch_at ho6 rfl (AA (listUpdate_at ho6 rfl ?_ (by simp) ?_)))
  ·simp only[bne_self_eq_false,BH,B3]
   refine AK ?_
   have q:=h vs (List.Perm.refl _) (by
    match vs,hsz,h2 with
    |[],_,_=>exact .nil
    |[x],_,_=>exact D6 _ _
    |_::_::_,_,h2=>exfalso;simp at h2;lia)
   unfold sortedHeap at q
   rw[eo]
   exact q
  ·rw[eo,hsz];lia
 ·rw[AD h2,AD h2]
  obtain⟨k1,k2⟩:=hk _ keep (by lia)
  refine AA (k1 _ _ ?_)
  have all:All M (arrOf (SortSt.mk' κ (vs.toArray.zip vs.toArray).reverse #[] 7 none)):=λi p hp=>by
   have hm:p∈(vs.toArray.zip vs.toArray).reverse:=Fx hp
   have hm2:p∈vs.zip vs:=by
    have:p∈(vs.toArray.zip vs.toArray).toList:=by simpa using Array.mem_reverse.mp hm
    simpa using this
   obtain⟨e,m⟩:=mem_zip_self hm2
   have:p=(p.1,p.1):=EH rfl e.symm
   rw[this]
   exact hM _ m
  have z0:(arrOf (SortSt.mk' κ (vs.toArray.zip vs.toArray).reverse #[] 7 none)).size=vs.length:=by
   show(vs.toArray.zip vs.toArray).reverse.size=vs.length
   simp
  refine AA (B8 (qB k2 (st:=SortSt.mk' κ (vs.toArray.zip vs.toArray).reverse #[] 7 none) (Q:=λ_ st'=>(arrOf st').Perm (vs.toArray.zip vs.toArray).reverse/\failedOf st'=none/\JZ rk (arrOf st') 0 vs.length) rfl all rfl rfl (by rw[z0];lia)
   λst' a1 a2 a3=>⟨a1,a2,by rw[z0]at a3;exact a3⟩) ?_ λ_ _ e=>e)
  rintro⟨⟨⟩,st'⟩ s' ⟨rfl,hp,hf,hs⟩
  dsimp only
  have zs:(arrOf st').size=vs.length:=by rw[hp.size_eq];exact z0
  have lp:(arrOf st').toList.Perm (vs.zip vs):=by
   have:=En.mp hp
   rw[Cf]at this
   exact this.trans ((List.reverse_perm _).trans (List.Perm.of_eq (by simp)))
  have eo:((arrOf st').map (·.2)).reverse=(((arrOf st').toList.map (·.2)).reverse).toArray:=by
   apply Array.ext'
   simp
  refine AA (seqEpoch_at ho6 rfl (AA (listUpdate_at ho6 rfl ?_ (by simp) ?_)))
  ·rw[hf]
   simp only[bne_self_eq_false,BH,B3]
   refine AK ?_
   have q:=h (((arrOf st').toList.map (·.2)).reverse) ?_ ?_
   ·unfold sortedHeap at q
    rw[eo]
    exact q
   ·have:=lp.map (·.2)
    rw[US]at this
    exact(List.reverse_perm _).trans this
   ·rw[List.pairwise_reverse,BQ]
    refine Bx.mpr λi j hi hj hij=>?_
    have li:i<(arrOf st').size:=by simpa using hi
    have lj:j<(arrOf st').size:=by simpa using hj
    have q:=hs i j (Az _) (Bf hij) (by lia)
    rw[Im (AO li),Im (AO lj)]at q
    have twin:∀p∈(arrOf st').toList,p=(p.2,p.2):=λp m=>EH (mem_zip_self (lp.mem_iff.mp m)).1 rfl
    have ei:=twin (arrOf st').toList[i] (Cm _)
    have ej:=twin (arrOf st').toList[j] (Cm _)
    rw[<-ei,<-ej]
    simpa using q
  ·rw[Array.size_reverse,Array.size_map,zs];lia
theorem XM{r:yJ}{vs:xY}{Q:xZ}(hz:vs.length<=sizeLine)(hM:∀v∈vs,M (v,v))
  (hc:∀(Q':xY->yH->Prop),(∀h' tk,(∀b o,s.heap.get? b=some o->h'.get? b=some o)->s.heap.objs.size<=h'.objs.size->Q' vs { s with heap:=h',toks:=tk })->wpAny (model prog w) A.in1 (collect (.ref r)) Q' E s)
  (hk:∀h' tk,(∀b o,s.heap.get? b=some o->h'.get? b=some o)->2<=vs.length->(∀(Q':SortKind->yH->Prop)(E':xZ),Q' κ { s with heap:=h',toks:=tk }->wpAny (model prog w) A.in1.in1 (keyKind' vs.toArray) Q' E' { s with heap:=h',toks:=tk })/\Kd prog w A.in1.in1 { s with heap:=h',toks:=tk } κ M rk)
  (h:∀h' tk D e (out:xY),out.Perm vs->(out.Pairwise λx y=>rk (y,y)<=rk (x,x))->(∀b o,s.heap.get? b=some o->h'.get? b=some o)->s.heap.objs.size<=D->h'.get? D=some (seqObj "list" out.toArray e)->Q (.ref D) { s with heap:=h',toks:=tk }) :
  wpAny (model prog w) A (call (.builtin "sorted") [.ref r] [(Str.ofString "reverse",.bool true)]) Q E s:=by
 refine call_function_entry_kw kind_sorted plain_sorted entry_sorted (args_sorted_rev _ _) ?_
 unfold Builtin.«sorted»
 refine AA (m:=checkCount "sorted" 1 1 _) (AK ?_)
 refine AA (hc _ λh' tk kp sz=>?_)
 refine AA (wpAny_newList ?_ hz)
 have hoL:(h'.push (seqObj "list" vs.toArray 0)).get? h'.objs.size=some (seqObj "list" vs.toArray 0):=AW _ rfl
 have lt:∀b o,s.heap.get? b=some o->b<h'.objs.size:=λb o e=>AU (kp b o e)
 refine AA (DR (wpAny_call_entry_kw slot_list_sort ⟨_,hoL,rfl⟩ entry_list_sort (qJ (s:={ s with heap:=h'.push (seqObj "list" vs.toArray 0),toks:=tk }) (κ:=κ) (M:=M) (rk:=rk) hoL hz hM (λh2 k2 l2=>?_) λout p o=>⟨_,rfl,?_⟩) (args_list_sort_rev _ _)))
 ·exact hk h2 tk (λb o e=>k2 b o (Au (lt b o e)) (AC _ (kp b o e))) l2
 ·obtain⟨c,hc'⟩:=sortedHeap_at (vs:=vs) (out:=out.toArray) hoL
  refine AK ⟨_,rfl,h _ tk h'.objs.size c out p o (λb o e=>?_) sz hc'⟩
  have ne:b≠h'.objs.size:=Au (lt b o e)
  unfold sortedHeap
  refine(BN _ _ (C3 ne)).trans (AC _ (AC _ ((BN _ _ (C3 ne)).trans (AC _ (kp b o e)))))
end
end L2.Ts
namespace L2.Rw
open PySem PySem.W PySem.Calls PyProof.Rows PySem.Spec
section
variable{prog:yL}{w:yM}{A:Around}{E:xZ}{s:yH}{d:yJ}{es:Array yP}{ep:Nat}
theorem Vu(lo:(d==sysModules)=false):KdlSrc prog w "dict" d d es.size (λi v=>∃h:i<es.size,v=es[i].key) (λh=>JE h d es ep) where
 type:=λ_ hm=>hm.type
 there:=λ_ hm=>⟨hm.lt,hm.lt⟩
 keep:=λ_ _ hm hk=>hm.keep λo e=>hk d (.inl rfl) o e
 notList:=by decide
 notTuple:=by decide
 hint:=λ_ _ _ _ hm hq=>kdl_hint_dict hm.type hq
 iter:=λ_ _ hh hm=>⟨_,_,(λ_ _ hq=>Us lo hm hq),kY hh _ d (Au hm.lt) es ep,⟨⟨_,AW _ rfl,rfl,rfl⟩,hm.keep λo e=>AC _ e⟩⟩
theorem wA{T:String}{r:yJ}{n:Nat}{P:Nat->yI->Prop}{OK:Heap->Prop}{Q:xY->yH->Prop}(K:KdlSrc prog w T r d n P OK)(hh:A.handled=none)(hok:OK s.heap)(hn:n<=sizeLine)
  (hQ:∀h' tk acc,(∀b o,s.heap.get? b=some o->h'.get? b=some o)->s.heap.objs.size<=h'.objs.size->ItemsOf P acc n->Q acc.toList { s with heap:=h',toks:=tk }):wpAny (model prog w) A (collect (.ref r)) Q E s:=by
 obtain⟨tr,td⟩:=K.there _ hok
 unfold collect
 refine AA (wpAny_runValue (DA Eg ?_))
 rw[CO Eh _]
 show wpAny _ A.in1 (newList []>>=λl=>again (.builtin "list.__iadd__" ⟨[l,.ref r],[]⟩)) _ _ s
 refine AA (BK (AK ⟨Dg DQ _,DA FS ?_⟩))
 rw[CO DQ _]
 have hok1:=K.keep _ (s.heap.push { cls:=.type "list",data:=.seq ([]:xY).toArray }) hok λb _ o e=>AC _ e
 have key:=kdl_extend (A:=A) (s:={ s with heap:=s.heap.push { cls:=.type "list",data:=.seq ([]:xY).toArray } })
  (R:=λ(q:Result)(s':yH)=>∃(h':Heap)(tk:Nat)(acc:yF)(c:Nat),q=.ok (.ret (.ref s.heap.objs.size))/\s'={ s with heap:=h',toks:=tk }/\(∀b o,s.heap.get? b=some o->h'.get? b=some o)/\h'.get? s.heap.objs.size=some { cls:=.type "list",dict:=none,data:=.seq acc c,slots:=#[] }/\ItemsOf P acc n)
  K hh hok1 s.heap.objs.size (CS tr) (CS td) (.ref s.heap.objs.size) 0 (AW _ rfl)
  (λh' tk acc c kp hS it=>⟨h',tk,acc,c,rfl,rfl,λb o e=>kp b o (Au (AU e)) (AC _ e),hS,it⟩) hn
 have fin:∀(q:Result)(s':yH),(∃(h':Heap)(tk:Nat)(acc:yF)(c:Nat),q=.ok (.ret (.ref s.heap.objs.size))/\s'={ s with heap:=h',toks:=tk }/\(∀b o,s.heap.get? b=some o->h'.get? b=some o)/\h'.get? s.heap.objs.size=some { cls:=.type "list",dict:=none,data:=.seq acc c,slots:=#[] }/\ItemsOf P acc n) ->
   q=.ok (.ret (.ref s.heap.objs.size))/\wpAny (model prog w) A (load s.heap.objs.size>>=λo=>match o.data with|.seq xs _=>pure xs.toList|_=>unsupported "internal:collect") Q E s':=by
  rintro q s' ⟨h',tk,acc,c,rfl,rfl,kp,hS,it⟩
  exact⟨rfl,AA (wpAny_load hS (AK (hQ h' tk acc kp (Bf (AU hS)) it)))⟩
 refine B8 key (λf s' x=>?_) λe s' x=>?_
 ·cases f with
  |done f =>
   obtain⟨e,q⟩:=fin _ _ x
   cases e
   exact q
  |again c₁ =>
   refine⟨x.1,FI x.2 λq s₂ y=>?_⟩
   obtain⟨e,q⟩:=fin _ _ y
   subst e
   exact q
 ·obtain⟨e',_⟩:=fin _ _ x
  cases e'
end
end L2.Rw
namespace L2.Ev
open PySem PySem.Spec PyProof.Rows
noncomputable def KJ(cells:List (Str×yJ)):List (Str×yO)->List (Str×yJ)->List (Str×yJ)
 |[],acc=>acc
 |(n,k)::r,acc=>if (k==NameKind.free)=true then KJ cells r ((n,(cells.lookup n).getD 0)::acc) else KJ cells r acc
theorem vT{env:Env}(names:List (Str×yO))(h:∀x∈names,x.2=.free->∃c,env.cells.lookup x.1=some c)(acc:List (Str×yJ)) :
  (do
   let mut cs:=acc
   for (name,kind) in names do
    if kind==.free then cs:=(name,<-cellOf env name)::cs
   return cs:Sem (List (Str×yJ)))=pure (KJ env.cells names acc):=by
 induction names generalizing acc with
 |nil=>simp [KJ]
 |cons x r ih =>
  obtain⟨n,k⟩:=x
  have hr:∀x∈r,x.2=.free->∃c,env.cells.lookup x.1=some c:=λx hx=>h x (AE _ hx)
  by_cases hk:k=.free
  ·subst hk
   obtain⟨c,hc⟩:=h (n,.free) AG rfl
   have ih':=ih hr ((n,c)::acc)
   simp only[ES,CY,CQ,cellOf,hc,KJ,E8,pure_bind]at ih' ⊢
   exact ih'
  ·have hb:(k==NameKind.free)=false:=by simpa using hk
   have ih':=ih hr acc
   simp only[ES,hb,BH,B3,KJ,pure_bind]at ih' ⊢
   exact ih'
theorem WI{cells:List (Str×yJ)}:∀{names:List (Str×yO)}{acc:List (Str×yJ)},(∀x∈names,x.2=.free->∃c,cells.lookup x.1=some c)->(∀x c,acc.lookup x=some c->cells.lookup x=some c) ->
  ∀x c,(KJ cells names acc).lookup x=some c->cells.lookup x=some c
 |[],acc,_,ha,x,c,e=>ha x c e
 |(n,k)::r,acc,h,ha,x,c,e=>by
  have hr:∀x∈r,x.2=.free->∃c,cells.lookup x.1=some c:=λx hx=>h x (AE _ hx)
  unfold KJ at e
  by_cases hk:(k==NameKind.free)=true
  ·rw[AF hk]at e
   refine WI hr (λy d e'=>?_) x c e
   obtain⟨c0,hc0⟩:=h (n,k) AG (by simpa using hk)
   rw[BP]at e'
   cases hy:y==n with
   |true =>
    rw[hy]at e'
    have e1:y=n:=by simpa using hy
    subst e1
    have e2:(cells.lookup y).getD 0=d:=by simpa using e'
    have hc1:cells.lookup y=some c0:=hc0
    rw[hc1]at e2 ⊢
    simpa using e2
   |false=>rw[hy]at e';exact ha y d e'
  ·rw[AD hk]at e
   exact WI hr ha x c e
theorem Qw{cells:List (Str×yJ)}:∀{names:List (Str×yO)}{acc:List (Str×yJ)}{x:Str},((∃c,acc.lookup x=some c)∨(x,NameKind.free)∈names)->∃c,(KJ cells names acc).lookup x=some c
 |[],acc,x,h=>by
  rcases h with h|h
  ·exact h
  ·simp at h
 |(n,k)::r,acc,x,h=>by
  unfold KJ
  by_cases hk:(k==NameKind.free)=true
  ·rw[AF hk]
   refine Qw ?_
   rw[BP]
   cases hy:x==n with
   |true=>exact .inl ⟨_,rfl⟩
   |false =>
    rcases h with h|h
    ·exact .inl h
    ·rcases AY.mp h with e|h
     ·injection e with e1 e2
      subst e1
      simp at hy
     ·exact .inr h
  ·rw[AD hk]
   refine Qw ?_
   rcases h with h|h
   ·exact .inl h
   ·rcases AY.mp h with e|h
    ·injection e with e1 e2
     subst e2
     simp at hk
    ·exact .inr h
theorem mem_of_lookup{α β:Type}[BEq α][LawfulBEq α]:∀{l:List (α×β)}{x:α}{k:β},l.lookup x=some k->(x,k)∈l
 |[],_,_,h=>by simp at h
 |(n,j)::r,x,k,h=>by
  rw[BP]at h
  cases hy:x==n with
  |true =>
   rw[hy]at h
   have e1:x=n:=by simpa using hy
   have e2:j=k:=by simpa using h
   subst e1 e2
   exact AG
  |false=>rw[hy]at h;exact AE _ (mem_of_lookup h)
theorem We{env:Env}:∀{names:List (Str×yO)}{x:Str}{k:yO},(∀y∈names,y.2≠.cell)->(k=.cell∨k=.free) ->
  (names.map λ(n,k)=>if (k==NameKind.free&&env.scope.kind==.function&&env.kindOf n==some .cell) then (n,NameKind.cell) else (n,k)).lookup x=some k->(x,NameKind.free)∈names
 |[],_,_,_,_,h=>by simp at h
 |(n,j)::r,x,k,hc,hk,h=>by
  have hr:∀y∈r,y.2≠.cell:=λy hy=>hc y (AE _ hy)
  have hj:j≠.cell:=hc (n,j) AG
  have h':List.lookup x ((if (j==NameKind.free&&env.scope.kind==.function&&env.kindOf n==some .cell)=true then (n,NameKind.cell) else (n,j))::r.map λ(n,k)=>if (k==NameKind.free&&env.scope.kind==.function&&env.kindOf n==some .cell) then (n,NameKind.cell) else (n,k))=some k:=h
  by_cases c:(j==NameKind.free&&env.scope.kind==.function&&env.kindOf n==some .cell)=true
  ·rw[AF c,BP]at h'
   simp only[AI]at c
   have ej:j=.free:=by simpa using c.1.1
   cases hy:x==n with
   |true =>
    have e1:x=n:=by simpa using hy
    subst e1 ej
    exact AG
   |false=>rw[hy]at h';exact AE _ (We hr hk h')
  ·rw[AD c,BP]at h'
   cases hy:x==n with
   |true =>
    rw[hy]at h'
    have e1:x=n:=by simpa using hy
    have e2:j=k:=by simpa using h'
    subst e1 e2
    rcases hk with hk|hk
    ·exact absurd hk hj
    ·subst hk;exact AG
   |false=>rw[hy]at h';exact AE _ (We hr hk h')
theorem pK{env:Env}:∀{names:List (Str×yO)}{x:Str},names.lookup x=some .free ->
  (names.map λ(n,k)=>if (k==NameKind.free&&env.scope.kind==.function&&env.kindOf n==some .cell) then (n,NameKind.cell) else (n,k)).lookup x=some .cell ∨
  (names.map λ(n,k)=>if (k==NameKind.free&&env.scope.kind==.function&&env.kindOf n==some .cell) then (n,NameKind.cell) else (n,k)).lookup x=some .free
 |[],_,h=>by simp at h
 |(n,j)::r,x,h=>by
  have key:∀(z:Str×yO),z=(if (j==NameKind.free&&env.scope.kind==.function&&env.kindOf n==some .cell)=true then (n,NameKind.cell) else (n,j)) ->
   (List.lookup x (z::r.map λ(n,k)=>if (k==NameKind.free&&env.scope.kind==.function&&env.kindOf n==some .cell) then (n,NameKind.cell) else (n,k))=some .cell ∨
    List.lookup x (z::r.map λ(n,k)=>if (k==NameKind.free&&env.scope.kind==.function&&env.kindOf n==some .cell) then (n,NameKind.cell) else (n,k))=some .free):=by
   intro z hz
   rw[BP]at h
   cases hy:x==n with
   |true =>
    rw[hy]at h
    have e2:j=.free:=by simpa using h
    subst e2
    by_cases c:(NameKind.free==NameKind.free&&env.scope.kind==.function&&env.kindOf n==some .cell)=true
    ·rw[AF c]at hz;subst hz;left;rw[BP,hy]
    ·rw[AD c]at hz;subst hz;right;rw[BP,hy]
   |false =>
    rw[hy]at h
    have ih:=pK (env:=env) h
    have hz1:z.1=n:=by rw[hz];split<;>rfl
    obtain⟨z1,z2⟩:=z
    simp only at hz1
    subst hz1
    rw[BP,hy]
    exact ih
  exact key _ rfl
structure Bk where
 C:yJ
 s:yH
 H:Hp
 ex:yC
noncomputable abbrev Jy(X:Cx)(N':yB)(scope:Scope)(b:Bk):Cx :=
 { X with N:=N',s₀:=b.s,H₀:=b.H,env:=compEnvC scope (KJ X.env.cells scope.names []) b.C X.env,outer:=X.stack,stack:=X.stack,ex:=b.ex,fn:=λ_=>false,pn:=[],xe:=λ_ _=>False }
structure Jl(X:Cx)(N':yB)(src:List (Option Nat))(scope:Scope):Prop where
 kind:scope.kind=.function
 nocell:∀y∈scope.names,y.2≠.cell
 names:∀y∈scope.names,y.2=.local->scope.names.lookup y.1=some .local
 frees:∀y∈scope.names,y.2=.free->X.env.kindOf y.1=some .cell∨X.env.kindOf y.1=some .free
 len:src.length=N'.length
 out:∀i j:Nat,src[i]?=some (some j)->∃x:Str,N'[i]?=some x/\X.N[j]?=some x/\scope.names.lookup x=some .free
noncomputable def Mz(src:List (Option Nat))(σ:St):St:=src.map λo=>o.bind λj=>(σ[j]?).bind id
noncomputable def Py(X:Cx)(ifs:yE)(t:TT):Prop :=
 ∀(Fq:yA)(s:yH)(σ:St)(H:Hp)(Q:Bool->Hp->Prop),Inv X Fq σ H s->t σ H Q ->
  wpAny (model X.prog X.w) X.A (forIn ifs true λc r=>if r=true then do let ok <-isTrue c X.env (eval c X.env);pure (ForInStep.yield ok) else pure (ForInStep.yield r)) (TP X Fq σ Q) X.xe s
noncomputable def Og:TT:=λ_ H Q=>Q true H
theorem Jh{X:Cx}:Py X [] Og:=λ_ _ _ H _ I h=>wpAny_tests_nil ⟨H,I,h⟩
theorem RI{X:Cx}{c:Expr}{t:TT}(h:PT X c t):Py X [c] t:=λFq s σ H Q I q=>wpAny_tests_one (h Fq s σ H Q I q)
noncomputable def VO(src:List (Option Nat))(wi:TI)(g:Bk->TG)(tc:Bk->TT)(te:Bk->TE):TE:=λσ H Q=>wi σ H λJ H1=>∀(b:Bk)(D:yJ),H1 D=none ->
 ∃W:Nat->Nat->St->Hp->Prop,(∃m,W 0 m (Mz src σ) (HV H1 D (.lst [])))/\∀i m σ' H',W i m σ' H' ->
  (J.stop i H'/\Q (.ref D) H')∨(J.go i H'/\∃N:St->Hp->Prop,(∀σ'' H'',N σ'' H''->∃m',m'<m/\W (i+1) m' σ'' H'') /\
   ∀x H'',J.yld i H' x H''->g b x σ' H'' λσ2 H2=>tc b σ2 H2 λok H3=>if ok=true then te b σ2 H3 λy H4=>∃ys,H4 D=some (.lst ys)/\ys.length<sizeLine/\N σ2 (HV H4 D (.lst (ys++[y]))) else N σ2 H3)
section
variable{prog:yL}{w:yM}{A:Around}{R:Result->yH->Prop}{s:yH}
theorem uX{elt target iter:Expr}{ifs:yE}{scope:Scope}{pos:Pos}{it acc:yI}{env:Env}(I:Nat->yH->Prop)
  (turn:∀n s,I n s->wpAny (model prog w) A (pyNext it) (λr s₁=>match r with
   |none=>R (.ok .next) s₁
   |some v=>wpAny (model prog w) A (letOwnedTupleGo target it v) (λ_ s₁'=>wpAny (model prog w) A (assign target env v) (λ_ s₂ =>
     wpAny (model prog w) A (forIn ifs true λc r=>if r=true then do let ok <-isTrue c env (eval c env);pure (ForInStep.yield ok) else pure (ForInStep.yield r)) (λok s₃ =>
      if ok=true then wpAny (model prog w) A (eval elt env) (λx s₄ =>
       wpAny (model prog w) A (call (.builtin "list.append") [acc,x]) (λ_ s₅=>∃m,m<n/\I m s₅) (λ_ _=>False) s₄) (λ_ _=>False) s₃
      else ∃m,m<n/\I m s₃) (λ_ _=>False) s₂) (λ_ _=>False) s₁') (λ_ _=>False) s₁) (λ_ _=>False) s)
  (n:Nat) (h:I n s) :
  codeAny (model prog w) A (.compLoop (.ListComp elt [⟨target,iter,ifs,0⟩] scope pos) 0 it acc env) R s:=by
 refine codeAny_loop rfl I (λn s hI=>?_) n h
 show wpAny _ A ((compTurn (.ListComp elt [⟨target,iter,ifs,0⟩] scope pos) 0 it acc env).onRaise (λx=>do noteFrame x env;theTreesLotGoes x)) _ _ s
 refine wpAny_noted ?_
 rw[compTurn_list]
 refine AA (Gw (AA (B8 (turn n s hI) (λr s₁ h₁=>?_) λ_ _ h'=>h'.elim)))
 cases r with
 |none=>exact AK h₁
 |some v =>
  refine AA (B8 h₁ (λ_ s₁' h₁'=>?_) λ_ _ h'=>h'.elim)
  refine AA (B8 h₁' (λ_ s₂ h₂=>AA (B8 h₂ (λok s₃ h₃=>?_) λ_ _ h'=>h'.elim)) λ_ _ h'=>h'.elim)
  cases ok with
  |false=>exact AK ⟨rfl,h₃⟩
  |true =>
   exact AA (AA (B8 h₃ (λx s₄ h₄=>AA (B8 h₄ (λ_ s₅ h₅=>AK (AK ⟨rfl,h₅⟩)) λ_ _ h'=>h'.elim)) λ_ _ h'=>h'.elim))
end
theorem Ur{X:Cx}{elt tg iter:Expr}{ifs:yE}{scope:Scope}{pos pos':Pos}{N':yB}{src:List (Option Nat)}{wi:TI}{g:Bk->TG}{tc:Bk->TT}{te:Bk->TE}(hc:X.calm=true)(hi:PI X tg iter wi)(S:Jl X N' src scope)
  (hg:∀b,PG (Jy X N' scope b) tg (g b)) (ht:∀b,Py (Jy X N' scope b) ifs (tc b)) (he:∀b,PE (Jy X N' scope b) elt (te b)) (hs:∀x,foldedSetIterable iter X.env x=pure x) (use:Option (yI->Sem Unit)) (R:xZ)
  {Fq:yA} {s:yH} {σ:St} {H:Hp} {Q:V->Hp->Prop} (I:Inv X Fq σ H s) (h:VO src wi g tc te σ H Q)
  (fin:∀(D C:yJ)(H5:Hp)(s6:yH)(m:Str->yD),s6.heap.Ns C m->Kz X Fq H5 C->(∀h',Heap.SameBut C s6.heap h'->Inv X Fq σ H5 { s6 with heap:=h' })->Q (.ref D) H5->compPost (model X.prog X.w) X.A X.xe use R (.ref D) C (.ok .next) s6) :
  wpAny (model X.prog X.w) X.A (comprehension (.ListComp elt [⟨tg,iter,ifs,0⟩] scope pos) scope X.env pos' (newList []) false (eval iter X.env) use) R X.xe s:=by
 have hfr:∀x∈scope.names,x.2=.free->∃c,X.env.cells.lookup x.1=some c:=λx hx hf=>I.ok.has x.1 (S.frees x hx hf)
 have clS:∀x c,(KJ X.env.cells scope.names []).lookup x=some c->X.env.cells.lookup x=some c:=WI hfr (λx c e=>by simp at e)
 refine FL (use:=use) rfl hs (vT scope.names hfr []) S.kind S.names ?_
 refine Hk (hi Fq s σ H _ I h) λv s1 h1=>Hk h1 λitv s2 h2=>?_
 obtain⟨it,fp,tn,J,H2,rfl,I2,T,st2,f2,h3⟩:=h2
 have hD:H2 s2.heap.objs.size=none:=I2.fresh
 refine BK ?_
 have I3:Inv X Fq σ (HV H2 s2.heap.objs.size (.lst [])) { s2 with heap:=s2.heap.push { cls:=.type "list",data:=.seq ([]:xY).toArray } } :=
  I2.laid (t':=s2.toks) (λb u e=>AC _ e) (AH _) ⟨Az _,[],0,.nil,AW _ rfl⟩
 have hfp:∀b∈fp,b<s2.heap.objs.size:=λb hb=>by
  obtain⟨o,e,_⟩:=T.obj _ _ st2 b hb
  exact AU e
 have st3:tn 0 (s2.heap.push { cls:=.type "list",data:=.seq ([]:xY).toArray }):=T.keep _ _ _ st2 λb _ o e=>AC _ e
 generalize hs3:({ s2 with heap:=s2.heap.push { cls:=.type "list",data:=.seq ([]:xY).toArray } }:yH)=s3 at I3 ⊢
 have st3':tn 0 s3.heap:=by rw[<-hs3];exact st3
 have hsz3:s3.heap.objs.size=s2.heap.objs.size+1:=by rw[<-hs3];exact Bo ..
 have fp3:∀b∈fp,(HV H2 s2.heap.objs.size (.lst [])) b=none:=λb hb=>by rw[Hw (Au (hfp b hb))];exact(f2 b hb).1
 generalize hDe:s2.heap.objs.size=D at *
 generalize hH3:HV H2 D (.lst [])=H3 at *
 refine wpAny_newFunctionEnv S.nocell (by intro y hy;simp at hy) (λh₁ hns₁ hsb₁=>?_) S.kind
 have old:∀b o,s3.heap.get? b=some o->h₁.get? b=some o:=λb o e=>hsb₁.extBut b o (Au (AU e)) (AC _ e)
 have Yok:(Jy X N' scope ⟨s3.heap.objs.size,s3,H3,fp⟩).Ok:=by
  refine⟨I.ok.mod,S.kind,I.ok.glob,I.ok.blt,AH _,λx y c e1 e2=>I.ok.inj x y c (clS x c e1) (clS y c e2),λx hx=>?_,λx c z=>(by cases z),I.ok.hd,I.ok.frames,.inl rfl,λb hb=>⟨?_,λx c e=>(f2 b hb).2.2.2.2.1 x c (clS x c e)⟩,I3.bs,?_,λb o e hb=>?_,λb hb z=>?_,I3.stack,I3.stkFree⟩
  ·have hx':(x,NameKind.free)∈scope.names:=by
    rcases hx with hx|hx
    ·exact We (env:=X.env) S.nocell (.inl rfl) hx
    ·exact We (env:=X.env) S.nocell (.inr rfl) hx
   exact Qw (.inr hx')
  ·exact Au (Ax (hfp b hb) (by rw[hsz3];exact Cd _))
  ·exact As I.ok.bsz I3.sz
  ·rcases (f2 b hb).2.2.2.1 with z|z
   ·exact I.ok.noex b o e z
   ·exact absurd (Ax (AU e) (As I.ok.bsz z)) (Bz _)
  ·rcases AY.mp (I3.stkSub b z) with e|e
   ·exact(f2 b hb).2.1 e
   ·exact(f2 b hb).2.2.1 e
 generalize hY:Jy X N' scope ⟨s3.heap.objs.size,s3,H3,fp⟩=Y at Yok
 have I4:Inv (Jy X N' scope ⟨s3.heap.objs.size,s3,H3,fp⟩) [] (Mz src σ) H3 { s3 with heap:=h₁,toks:=s3.toks+([]:List (Str×yI)).length }:=by
  subst hY
  refine⟨Yok,rfl,I3.bare,Un.kept old,⟨_,hns₁,λi x v e1 e2 e3=>?_⟩,λx c e=>?_,I3.fresh,λx c e=>I3.freeC x c (clS x c e),λp hp=>by simp at hp,I3.hok.kept old,?_⟩
  ·unfold Mz at e2
   rw[Ag]at e2
   cases hsrc:src[i]? with
   |none=>rw[hsrc]at e2;cases e2
   |some o =>
    rw[hsrc]at e2
    cases o with
    |none=>have e2':some (none:Option V)=some (some v):=e2;cases e2'
    |some j =>
     have e2':some ((σ[j]?).bind id)=some (some v):=e2
     have e2'':(σ[j]?).bind id=some v:=Aq e2'
     have hσ:σ[j]?=some (some v):=by
      cases q:σ[j]? with
      |none=>rw[q]at e2'';cases e2''
      |some z =>
       rw[q]at e2''
       have:z=some v:=e2''
       rw[this]
     obtain⟨x',n1,n2,n3⟩:=S.out i j hsrc
     have ex:x'=x:=Aq (n1.symm.trans e1)
     subst ex
     obtain⟨m0,_,hl⟩:=I3.loc
     have hk:=S.frees (x',.free) (mem_of_lookup n3) rfl
     have hvis:Ui X.env.scope x':=hk.elim (λz=>.inr (.inl z)) λz=>.inr (.inr z)
     obtain⟨u,r,l⟩:=hl j x' v n2 hσ hvis
     refine⟨u,r,.inr ?_⟩
     rcases l with⟨l1,_⟩|⟨_,c,l2,o,l3,l4⟩
     ·rcases hk with z|z
      ·rw[show X.env.kindOf x'=some .local from l1]at z;cases z
      ·rw[show X.env.kindOf x'=some .local from l1]at z;cases z
     ·obtain⟨c',hc'⟩:=Qw (cells:=X.env.cells) (names:=scope.names) (acc:=[]) (.inr (mem_of_lookup n3))
      have e4:=clS x' c' hc'
      rw[l2]at e4
      cases e4
      exact⟨pK (env:=X.env) n3,c,hc',o,old _ _ l3,l4⟩
  ·obtain⟨v,o,ho,hd⟩:=I3.cell x c (clS x c e)
   exact⟨v,o,old _ _ ho,hd⟩
  ·show(Mz src σ).length=N'.length
   unfold Mz
   rw[AB]
   exact S.len
 obtain⟨W,⟨m0,w0⟩,turn⟩:=h3 ⟨s3.heap.objs.size,s3,H3,fp⟩ D hD
 rw[hH3]at w0
 have loop:codeAny (model X.prog X.w) X.A (.compLoop (.ListComp elt [⟨tg,iter,ifs,0⟩] scope pos) 0 (.ref it) (.ref D) (Jy X N' scope ⟨s3.heap.objs.size,s3,H3,fp⟩).env)
   (compPost (model X.prog X.w) X.A X.xe use R (.ref D) s3.heap.objs.size) { s3 with heap:=h₁,toks:=s3.toks+([]:List (Str×yI)).length }:=by
  have stat:∀{H':Hp},(∀b∈fp,H' b=none)->∀b∈fp,Kz (Jy X N' scope ⟨s3.heap.objs.size,s3,H3,fp⟩) [] H' b:=λhn b hb =>
   ⟨hn b hb,(I4.ok.exf b hb).1,I4.ok.exfs b hb,.inl hb,(I4.ok.exf b hb).2,λp hp=>by simp at hp⟩
  refine uX (λn s'=>∃i σ' H',Inv (Jy X N' scope ⟨s3.heap.objs.size,s3,H3,fp⟩) [] σ' H' s'/\tn i s'.heap/\(∀b∈fp,H' b=none)/\W i n σ' H') ?_ m0
   ⟨0,_,H3,I4,T.keep _ _ _ st3' λb _ o e=>old b o e,fp3,w0⟩
  rintro n s5 ⟨i,σ5,H5,I5,st5,fr5,w5⟩
  rcases turn i n σ5 H5 w5 with⟨stop,qn⟩|⟨go,N,hN,step⟩
  ·refine Hk (T.done (Jy X N' scope ⟨s3.heap.objs.size,s3,H3,fp⟩) rfl rfl rfl hc i [] s5 σ5 H5 _ I5 (stat fr5) st5 stop) λr s6 ⟨hr,I6⟩=>?_
   subst hr
   obtain⟨m,hn,_⟩:=I6.loc
   have hC:H5 s3.heap.objs.size=none:=I6.free
   refine fin D s3.heap.objs.size H5 s6 m hn (I3.fpOk (AH _) hC) (λh' sb=>?_) qn
   have nC:∀b o,s3.heap.get? b=some o->b≠s3.heap.objs.size:=λb o e=>Au (AU e)
   have keep:∀b o,b≠s3.heap.objs.size->s6.heap.get? b=some o->h'.get? b=some o:=λb o hb e=>(sb.2 b hb).trans e
   have hok:Ii X.prog X.w H5 h':=λb u e=>(I6.hok b u e).stay (λc v hc q=>keep c v (by
    rcases hc with z|z
    ·rw[z];intro z2;rw[z2,hC]at e;cases e
    ·intro z2;rw[z2,hC]at z;cases z) q) (λ_ q=>q) λ_ _ q=>q
   have u6:Un (Kc X.stack) fp H3 H5 s3.heap s6.heap:=I6.base
   have un:Un (Kc X.stack) fp H3 H5 s3.heap h':=⟨λb o e n hb hx=>keep b o (nC b o e) (u6.keep b o e n hb hx),λb o e n hb hx=>by
     obtain⟨sl,q⟩:=u6.slot b o e n hb hx
     exact⟨sl,keep b _ (nC b o e) q⟩,u6.free,λb o e hx=>by
     obtain⟨o',q⟩:=u6.there b o e hx
     exact⟨o',keep b _ (nC b o e) q⟩,u6.tups,u6.frzs,u6.tbls⟩
   refine I3.call' (s':={ s6 with heap:=h' }) (ch:=fp) I6.os un hok I6.bare λb hb=>?_
   exact⟨(f2 b hb).2.2.2.1,(f2 b hb).2.1,(f2 b hb).2.2.2.2.1,(f2 b hb).2.2.2.2.2⟩
  ·refine Hk (T.item (Jy X N' scope ⟨s3.heap.objs.size,s3,H3,fp⟩) rfl rfl rfl hc i [] s5 σ5 H5 _ I5 (stat fr5) st5 go) λr s6 ⟨u,hr,h6⟩=>?_
   subst hr
   refine Hk h6 λ_ s7 ⟨x,H7,I7,r7,y7,st7,fr7⟩=>?_
   have I7':=I7.pinned (stat fr7) (T.obj _ _ st7)
   have again:∀{σ9:St}{H9:Hp}{s9:yH},Inv (Jy X N' scope ⟨s3.heap.objs.size,s3,H3,fp⟩) ([]++QW fp s7.heap) σ9 H9 s9->N σ9 H9->∃m,m<n/\∃i σ' H',Inv (Jy X N' scope ⟨s3.heap.objs.size,s3,H3,fp⟩) [] σ' H' s9/\tn i s9.heap/\(∀b∈fp,H' b=none)/\W i m σ' H':=λ{σ9 H9 s9} I9 n9=>by
    obtain⟨m',hm,w9⟩:=hN σ9 H9 n9
    refine⟨m',hm,i+1,σ9,H9,I9.unpinned,T.keep _ _ _ st7 λb hb o e=>(I9.pin (b,o) (Aj _ (Aj _ (Qf hb e)))).1,λb hb=>?_,w9⟩
    obtain⟨o,e,d⟩:=T.obj _ _ st7 b hb
    exact(I9.pin (b,o) (Aj _ (Aj _ (Qf hb e)))).2.1
   refine Hk (hg _ _ s7 σ5 H7 x u _ I7' r7 (step x H7 y7)) λ_ s8 ⟨σ8,H8,I8,q8⟩=>?_
   refine Hk (ht _ _ s8 σ8 H8 _ I8 q8) λok s9 ⟨H9,I9,q9⟩=>?_
   cases ok with
   |false=>exact again I9 q9
   |true =>
    refine Hk (he _ _ s9 σ8 H9 _ I9 q9) λyv s10 ⟨y,H10,I10,r10,ys,e10,l10,n10⟩=>?_
    refine Hk (Kv _ s10 σ8 H10 (.ref D) [y] (.ref D) [yv] (λ_ H11=>N σ8 H11) I10 rfl (.cons r10 .nil) ⟨D,ys,y,rfl,rfl,e10,l10,n10⟩) λ_ s11 ⟨_,H11,I11,_,n11⟩=>again I11 n11
 have self:=T.self X.A 0 { s3 with heap:=h₁,toks:=s3.toks+([]:List (Str×yI)).length } (λit' s'=>codeAny (model X.prog X.w) X.A (.compLoop (.ListComp elt [⟨tg,iter,ifs,0⟩] scope pos) 0 it' (.ref D) (Jy X N' scope ⟨s3.heap.objs.size,s3,H3,fp⟩).env)
   (compPost (model X.prog X.w) X.A X.xe use R (.ref D) s3.heap.objs.size) s') (notedBy (model X.prog X.w) X.A (Jy X N' scope ⟨s3.heap.objs.size,s3,H3,fp⟩).env λx s'=>compPost (model X.prog X.w) X.A X.xe use R (.ref D) s3.heap.objs.size (.error x) s')
   (T.keep _ _ _ st3' λb _ o e=>old b o e) loop
 exact Fu loop self
theorem JK{X:Cx}{elt tg iter:Expr}{ifs:yE}{scope:Scope}{pos:Pos}{N':yB}{src:List (Option Nat)}{wi:TI}{g:Bk->TG}{tc:Bk->TT}{te:Bk->TE}(hc:X.calm=true)(hi:PI X tg iter wi)(S:Jl X N' src scope)
  (hg:∀b,PG (Jy X N' scope b) tg (g b)) (ht:∀b,Py (Jy X N' scope b) ifs (tc b)) (he:∀b,PE (Jy X N' scope b) elt (te b)) (hs:∀x,foldedSetIterable iter X.env x=pure x:=by intro _;rfl) :
  PE X (.ListComp elt [⟨tg,iter,ifs,0⟩] scope pos) (VO src wi g tc te):=by
 intro Fq s σ H Q I h
 rw[eval_ListComp]
 exact Ur hc hi S hg ht he hs none (EP X Fq σ Q) I h λD C H5 s6 m hn _ k q=>⟨m,hn,λh' sb=>⟨.ref D,H5,k h' sb,rfl,q⟩⟩
theorem cW{X:Cx}{elt tg iter:Expr}{ifs:yE}{scope:Scope}{pos spos py:Pos}{N':yB}{src:List (Option Nat)}{wi:TI}{g:Bk->TG}{tc:Bk->TT}{te:Bk->TE}{i:Nat}{y:Str}(hN:X.N.Nodup)(hy:X.N[i]?=some y)(hx:Loc X.env.scope y)
  (hw:swapsWith (.ListComp elt [⟨tg,iter,ifs,0⟩] scope pos) (some (.Name y py)) spos.line X.env=pure true) (hc:X.calm=true) (hi:PI X tg iter wi) (S:Jl X N' src scope)
  (hg:∀b,PG (Jy X N' scope b) tg (g b)) (ht:∀b,Py (Jy X N' scope b) ifs (tc b)) (he:∀b,PE (Jy X N' scope b) elt (te b)) (hs:∀x,foldedSetIterable iter X.env x=pure x:=by intro _;rfl)
  (hf:X.fn y=true∨X.env.scope.names.lookup y=some .local:=by first|exact .inl rfl|exact .inr rfl|assumption) :
  PS X (.Assign [.Name y py] (.ListComp elt [⟨tg,iter,ifs,0⟩] scope pos) spos) (Mw (VO src wi g tc te) (J4 i)):=by
 intro Fq s σ H D I h
 rw[exec_Assign_Name_used _ _ _ _ hw]
 refine AA (Gw (AA ?_))
 show wpAny _ X.A (do let _ <-comprehension (.ListComp elt [⟨tg,iter,ifs,0⟩] scope pos) scope X.env _ (newList []) false (eval iter X.env) (some (assign (.Name y py) X.env))) _ _ s
 refine AA (B8 (Ur hc hi S hg ht he hs (some (assign (.Name y py) X.env)) (λ_ s'=>SP X Fq D .next s') I h ?_) (λ_ s' hq=>AK (AK hq)) λ_ _ e=>e)
 intro L C H5 s6 m hn fp k q
 show wpAny _ X.A (assign (.Name y py) X.env (.ref L)) _ _ _
 have I6:Inv X Fq σ H5 s6:=k s6.heap ⟨rfl,λ_ _=>rfl⟩
 refine wpAny_assign_Name (V5 I6 hN hy hx (v:=.ref L) rfl (λs7 I7 ⟨a,sb,ha⟩=>?_) hf)
 have hCa:C≠a:=by
  rcases ha with rfl|ha
  ·exact fp.2.1
  ·exact λz=>fp.2.2.2.2.1 _ _ ha z.symm
 refine⟨m,hn.sameBut sb hCa,λh' sb'=>⟨_,H5,?_,q⟩⟩
 have keep:∀b o,b≠C->s7.heap.get? b=some o->h'.get? b=some o:=λb o hb e=>(sb'.2 b hb).trans e
 have hok:Ii X.prog X.w H5 h':=λb u e=>(I7.hok b u e).stay (λc v hc' q'=>keep c v (by
  rcases hc' with z|z
  ·rw[z];intro z2;rw[z2,fp.1]at e;cases e
  ·intro z2;rw[z2,fp.1]at z;cases z) q') (λ_ q'=>q') λ_ _ q'=>q'
 refine I7.call' (s':={ s7 with heap:=h' }) (ch:=[C]) rfl ⟨λb o e n hb hx'=>keep b o (λz=>hx' (by rw[z];exact AG ..)) e,λb o e n hb hx'=>⟨o.slots,keep b o (λz=>hx' (by rw[z];exact AG ..)) e⟩,λb o e n hx'=>n,λb o e hx'=>⟨o,keep b o (λz=>hx' (by rw[z];exact AG ..)) e⟩,λ_ _ e=>e,λ_ _ _ e=>e,λ_ ps e=>⟨#[],by rw[Array.append_empty];exact e⟩⟩ hok I7.bare λb hb=>?_
 rw[AS.mp hb]
 exact⟨fp.2.2.2.1,fp.2.1,fp.2.2.2.2.1,fp.2.2.2.2.2⟩
theorem Q3{α:Type}[Dat α]{J:It}{n:Nat}{σ0:St}{H1:Hp}{D:yJ}{Q:V->Hp->Prop}{g:TG}{tc:TT}{te:TE}(hD:H1 D=none)(Sp:St->Prop)(out:Nat->Option α)(hn:n<=sizeLine)(h0:Sp σ0)
  (hstop:∀H',Gp H1 H'->J.stop n H') (hgo:∀i H',i<n->Gp H1 H'->J.go i H')
  (IU:∀(i:Nat)(σ':St)(H':Hp)(Yes:V->St->Hp->Prop)(No:St->Hp->Prop),i<n->Sp σ'->Gp H1 H'->(∀y σ2 H4 a,Sp σ2->Gp H' H4->out i=some a->Dat.is H4 y a->Yes y σ2 H4)->(∀σ2 H3,Sp σ2->Gp H' H3->out i=none->No σ2 H3) ->
   ∀x H'',J.yld i H' x H''->g x σ' H'' λσ2 H2=>tc σ2 H2 λok H3=>if ok=true then te σ2 H3 λy H4=>Yes y σ2 H4 else No σ2 H3)
  (hend:∀H',Gp H1 H'->Gg H' D ((List.range n).filterMap out)->Q (.ref D) H') :
  ∃W:Nat->Nat->St->Hp->Prop,(∃m,W 0 m σ0 (HV H1 D (.lst [])))/\∀i m σ' H',W i m σ' H' ->
  (J.stop i H'/\Q (.ref D) H')∨(J.go i H'/\∃N:St->Hp->Prop,(∀σ'' H'',N σ'' H''->∃m',m'<m/\W (i+1) m' σ'' H'') /\
   ∀x H'',J.yld i H' x H''->g x σ' H'' λσ2 H2=>tc σ2 H2 λok H3=>if ok=true then te σ2 H3 λy H4=>∃ys,H4 D=some (.lst ys)/\ys.length<sizeLine/\N σ2 (HV H4 D (.lst (ys++[y]))) else N σ2 H3):=by
 have s1:∀{H':Hp}(o:HO),Gp H1 H'->Gp H1 (HV H' D o):=λo e b u q=>by rw[Hw (Jd q hD)];exact e b u q
 refine⟨λi m σ' H'=>m=n-i/\i<=n/\Sp σ'/\Gp H1 H'/\Gg H' D ((List.range i).filterMap out),⟨n,by simp,Az _,h0,s1 _ (Gp.refl _),[],HR,.nil⟩,?_⟩
 rintro i m σ' H' ⟨rfl,hi,hS,hH,hL⟩
 by_cases hlt:i<n
 ·refine .inr ⟨hgo i H' hlt hH,λσ2 H2=>Sp σ2/\Gp H1 H2/\Gg H2 D ((List.range (i+1)).filterMap out),λσ2 H2 ⟨a,b,c⟩=>⟨n-(i+1),by lia,rfl,hlt,a,b,c⟩,?_⟩
  obtain⟨vs,eD,iD⟩:=hL
  have lv:vs.length<=i:=by
   have:=AM iD
   have:=E9 out (List.range i)
   rw[Bm]at this
   lia
  refine IU i σ' H' (λy σ2 H4=>∃ys,H4 D=some (.lst ys)/\ys.length<sizeLine/\(λσ2 H2=>Sp σ2/\Gp H1 H2/\Gg H2 D ((List.range (i+1)).filterMap out)) σ2 (HV H4 D (.lst (ys++[y])))) _ hlt hS hH (λy σ2 H4 a a1 a2 a3 a4=>?_) (λσ2 H3 a1 a2 a3=>?_)
  ·have e4:=a2 _ _ eD
   have t4:Hb H4 (HV H4 D (.lst (vs++[y]))):=λp ys q=>by rw[Hw (Jw q e4 (by intro z;cases z))];exact q
   refine⟨vs,e4,by lia,a1,s1 _ (hH.trans a2),vs++[y],HR,?_⟩
   rw[CH,EN,Bj,a3]
   exact Cc (Hr.mono ((Hb.same a2).trans t4) iD) (Dat.mono t4 a4)
  ·refine⟨a1,hH.trans a2,vs,a2 _ _ eD,?_⟩
   rw[CH,EN,Bj,a3]
   simpa using Hr.mono (Hb.same a2) iD
 ·have e:i=n:=by lia
  subst e
  exact .inl ⟨hstop H' hH,hend H' hH hL⟩
inductive SK
 |lst
 |tup
noncomputable def SK.iter:SK->Heap->yJ->yJ->Nat->Prop
 |.lst,h,i,l,k=>h.IsListIter i l k
 |.tup,h,i,l,k=>h.IsTupleIter i l k
noncomputable def SK.seq:SK->Heap->yJ->yF->Prop
 |.lst,h,l,xs=>h.IsList l xs
 |.tup,h,l,xs=>h.IsTuple l xs
noncomputable def SK.ob:SK->yJ->Obj
 |.lst,l=>{ cls:=.type "list_iterator",data:=.fields #[.ref l,.int 0 0] }
 |.tup,l=>{ cls:=.type "tuple_iterator",data:=.fields #[.ref l,.int 0 0] }
noncomputable def SK.is(K:yG)(H:Hp)(l:yJ)(xs:List V):SK->Prop
 |.lst=>HU K H l xs
 |.tup=>HM K H l xs
theorem SK.iter_keep{k:SK}{h h':Heap}{i l:yJ}{n:Nat}(x:k.iter h i l n)(e:∀o,h.get? i=some o->h'.get? i=some o):k.iter h' i l n:=by
 cases k with
 |lst=>obtain⟨o,a,b⟩:=x;exact⟨o,e o a,b⟩
 |tup=>obtain⟨o,a,b⟩:=x;exact⟨o,e o a,b⟩
theorem SK.seq_keep{k:SK}{h h':Heap}{l:yJ}{xs:yF}(x:k.seq h l xs)(e:∀o,h.get? l=some o->h'.get? l=some o):k.seq h' l xs:=by
 cases k with
 |lst=>obtain⟨o,a,b⟩:=x;exact⟨o,e o a,b⟩
 |tup=>obtain⟨o,a,b⟩:=x;exact⟨o,e o a,b⟩
theorem SK.iter_lt{k:SK}{h:Heap}{i l:yJ}{n:Nat}(x:k.iter h i l n):i<h.objs.size:=by
 cases k with
 |lst=>obtain⟨o,a,_⟩:=x;exact AU a
 |tup=>obtain⟨o,a,_⟩:=x;exact AU a
theorem SK.iter_new{k:SK}{h:Heap}{i l:yJ}(e:h.get? i=some (k.ob l)):k.iter h i l 0:=by
 cases k with
 |lst=>exact⟨_,e,rfl,rfl⟩
 |tup=>exact⟨_,e,rfl,rfl⟩
theorem SK.at{X:Cx}{Fq:yA}{σ:St}{H:Hp}{s:yH}{l:yJ}{xs:List V}{k:SK}(I:Inv X Fq σ H s)(h:k.is X.K H l xs):∃its:xY,HS xs its/\k.seq s.heap l its.toArray:=by
 cases k with
 |lst=>obtain⟨its,r,p,_⟩:=I.list h;exact⟨its,r,p.isList⟩
 |tup=>obtain⟨its,r,p,_⟩:=I.tuple h;exact⟨its,r,p⟩
theorem SK.inj{X:Cx}{Fq:yA}{σ:St}{H:Hp}{s:yH}{l:yJ}{xs ys:List V}{k:SK}(I:Inv X Fq σ H s)(h:k.is X.K H l xs)(h':k.is X.K H l ys):xs=ys:=by
 cases k with
 |lst=>exact I.list_inj h h'
 |tup=>exact I.tuple_inj h h'
section
variable{prog:yL}{w:yM}{A:Around}{E:xZ}{s:yH}
theorem lW{it t:yJ}{i:Nat}{items:yF}{x:yI}{Q:xZ}(hit:s.heap.IsTupleIter it t i)(ht:s.heap.IsTuple t items)(hx:items[i]?=some x)
  (hQ:∀h',h'.IsTupleIter it t (i+1)->Heap.SameBut it s.heap h'->Q x { s with heap:=h' }):wpAny (model prog w) A (Builtin.SmallTypes.nextOf (.ref it)) Q E s:=by
 obtain⟨ob,hob,hcl,hdt⟩:=id hit
 obtain⟨o2,ho2,_,n2,hd2⟩:=ht
 unfold Builtin.SmallTypes.nextOf
 refine AA (Bb (name:=Str.ofString "__next__") hit.typeIs DC (B9 DC hit.typeIs Ei ?_ (Ea _)))
 show wpAny _ _ (field (.ref it) 0>>=λ_=>_) _ _ s
 refine AA (Bw hob hdt (x:=Value.ref t) rfl ?_)
 show wpAny _ _ (if (Value.ref t==Value.none)=true then _ else (_:Sem _)) _ _ s
 rw[AD (show ¬ (Value.ref t==Value.none)=true from λz=>Ae z)]
 show wpAny _ _ (field (.ref it) 1>>=λ_=>_) _ _ s
 refine AA (Bw hob hdt (x:=Value.int i 0) rfl ?_)
 show wpAny _ _ (seqItems? (.ref t)>>=λ_=>_) _ _ s
 refine AA (CB ho2 hd2 ?_)
 simp only[BB,hx]
 refine AA (Ec hob hdt (by simp) (AK ⟨x,rfl,AK (hQ _ ⟨_,C6 _ hob (Fy (Dw hdt _)),(Obj.cls_mapFields ..).trans hcl,?_⟩ (Dm ..))⟩))
 rw[Dw hdt]
 simp [rawInt]
theorem YL{it t:yJ}{i:Nat}{items:yF}{Q:xZ}(hh:A.handled=none)(hit:s.heap.IsTupleIter it t i)(ht:s.heap.IsTuple t items)(hx:items[i]?=none)
  (hE:∀h' e,Heap.ExtBut it s.heap h'->(∃o,h'.get? e=some o/\o.cls=.type "StopIteration")->E (.ref e) { s with heap:=h' }):wpAny (model prog w) A (Builtin.SmallTypes.nextOf (.ref it)) Q E s:=by
 obtain⟨ob,hob,hcl,hdt⟩:=id hit
 obtain⟨o2,ho2,_,n2,hd2⟩:=ht
 unfold Builtin.SmallTypes.nextOf
 refine AA (Bb (name:=Str.ofString "__next__") hit.typeIs DC (B9 DC hit.typeIs Ei ?_ (Ea _)))
 show wpAny _ _ (field (.ref it) 0>>=λ_=>_) _ _ s
 refine AA (Bw hob hdt (x:=Value.ref t) rfl ?_)
 show wpAny _ _ (if (Value.ref t==Value.none)=true then _ else (_:Sem _)) _ _ s
 rw[AD (show ¬ (Value.ref t==Value.none)=true from λz=>Ae z)]
 show wpAny _ _ (field (.ref it) 1>>=λ_=>_) _ _ s
 refine AA (Bw hob hdt (x:=Value.int i 0) rfl ?_)
 show wpAny _ _ (seqItems? (.ref t)>>=λ_=>_) _ _ s
 refine AA (CB ho2 hd2 ?_)
 simp only[BB,hx]
 refine AA (CW (AA (Ec hob hdt (by simp) ?_)))
 show wpAny _ _ (newExc (.type "StopIteration") []>>=λ_=>_) _ _ _
 refine AA ?_
 simp only[newExc,newTuple]
 refine AA (BK ?_ (by size_fits))
 refine AA (m:=firstArgMember _ _) (wpAny_of_eq (a:=Value.none) (by first|rfl|(simp only[firstArgMember];rfl)) (BK ?_ (by size_fits)))
 simp only[raiseNew]
 refine AA (wpAny_handled ?_)
 first|rw[show A.in1.handled=none from hh]|rw[hh]
 refine AA (AK (wpAny_throw (hE _ _ (((Dm ..).extBut.push _).push _) ⟨_,AW _ rfl,rfl⟩)))
theorem SK.next{k:SK}{it l:yJ}{i:Nat}{items:yF}{x:yI}{Q:xZ}(hit:k.iter s.heap it l i)(hl:k.seq s.heap l items)(hx:items[i]?=some x)
  (hQ:∀h',k.iter h' it l (i+1)->Heap.SameBut it s.heap h'->Q x { s with heap:=h' }):wpAny (model prog w) A (Builtin.SmallTypes.nextOf (.ref it)) Q E s:=by
 cases k with
 |lst=>exact wpAny_nextOf_list_item hit hl hx hQ
 |tup=>exact lW hit hl hx hQ
theorem SK.stop{k:SK}{it l:yJ}{i:Nat}{items:yF}{Q:xZ}(hh:A.handled=none)(hit:k.iter s.heap it l i)(hl:k.seq s.heap l items)(hx:items[i]?=none)
  (hE:∀h' e,Heap.ExtBut it s.heap h'->(∃o,h'.get? e=some o/\o.cls=.type "StopIteration")->E (.ref e) { s with heap:=h' }):wpAny (model prog w) A (Builtin.SmallTypes.nextOf (.ref it)) Q E s:=by
 cases k with
 |lst=>exact wpAny_nextOf_list_end hh hit hl hx hE
 |tup=>exact YL hh hit hl hx hE
structure Xd(z TI TO i1 i2:yJ):Prop where
 a1:TI≠z
 a2:TO≠z
 a3:i1≠z
 a4:i2≠z
 a5:TI≠TO
 a6:TI≠i1
 a7:TI≠i2
 a8:TO≠i1
 a9:TO≠i2
 b1:i1≠i2
structure W2(k1 k2:SK)(z TI TO i1 i2 l1 l2:yJ)(i:Nat)(h:Heap):Prop where
 hz:IsZip h z TI TO .none
 hTI:IsPair h TI (.ref i1) (.ref i2)
 hTO:∃a b,IsPair h TO a b
 h1:k1.iter h i1 l1 i
 h2:k2.iter h i2 l2 i
theorem oQ{k1 k2:SK}{z TI TO i1 i2 l1 l2:yJ}{i:Nat}{xs ys:yF}{x y:yI}{Q:yD->yH->Prop}(D:Xd z TI TO i1 i2)(Z:W2 k1 k2 z TI TO i1 i2 l1 l2 i s.heap)(hl1:k1.seq s.heap l1 xs)(hl2:k2.seq s.heap l2 ys)
  (n1:l1≠z/\l1≠i1) (n2:l2≠z/\l2≠i1/\l2≠TO) (hx:xs[i]?=some x) (hy:ys[i]?=some y)
  (hQ:∀h',IsZip h' z TI TO (rawInt s.heap.objs.size)->IsPair h' TI (.ref i1) (.ref i2)->IsPair h' TO x y->k1.iter h' i1 l1 (i+1)->k2.iter h' i2 l2 (i+1)->IsPair h' s.heap.objs.size x y ->
   (∀c o,c≠z->c≠TO->c≠i1->c≠i2->s.heap.get? c=some o->h'.get? c=some o)->Q (some (.ref s.heap.objs.size)) { s with heap:=h' }):wpAny (model prog w) A (pyNext (.ref z)) Q E s:=by
 obtain⟨hz,hTI,⟨a,b,hTO⟩,h1,h2⟩:=Z
 have hT:s.TypeIs (.ref z) "zip" := ⟨_,hz,rfl⟩
 unfold pyNext
 refine AA (Df (Bb (name:=Str.ofString "__next__") hT ET (B9 ET hT F.entry_zip_next ?_ (F.args_zip_next_1 _))))
 show wpAny _ _ (field (.ref z) 2>>=λ_=>_) _ _ _
 refine AA (Bw hz rfl (x:=Value.bool false) rfl ?_)
 show wpAny _ _ (field (.ref z) 3>>=λ_=>_) _ _ _
 refine AA (Bw hz rfl (x:=Value.ref TI) rfl (AA (CB hTI rfl ?_)))
 show wpAny _ _ (Builtin.SmallTypes.ownedTupleIsFree (.ref z)>>=λ_=>_) _ _ _
 refine AA ?_
 unfold Builtin.SmallTypes.ownedTupleIsFree
 refine AA (Bw hz rfl (x:=Value.none) rfl (AK ?_))
 simp only[CQ]
 refine AA (CW (AA (Bw hz rfl (x:=Value.ref TO) rfl (AA (C2 hz (by simp) λh₁ hz₁ hs₁=>?_)))))
 have z1:IsZip h₁ z TI TO .ellipsis:=hz₁
 refine AA ?_
 simp only[E6,List.zipIdx_nil,ES,F0]
 refine AA (AA (Ep ?_))
 show wpAny _ _ (Builtin.SmallTypes.nextOf (.ref i1)>>=λ_=>_) _ _ _
 refine AA (SK.next (SK.iter_keep h1 λo e=>hs₁.extBut _ _ D.a3 e) (SK.seq_keep hl1 λo e=>hs₁.extBut _ _ n1.1 e) hx λh₂ p₂ hs₂=>AK ?_)
 have t2:IsPair h₂ TO a b:=hs₂.extBut _ _ D.a8 (hs₁.extBut _ _ D.a2 hTO)
 refine AA (CB t2 rfl (AA (EW t2 λh₃ q₃ hs₃=>?_)))
 have t3:IsPair h₃ TO x b:=q₃
 refine AA (Di (AK (AA (AA (Ep ?_)))))
 show wpAny _ _ (Builtin.SmallTypes.nextOf (.ref i2)>>=λ_=>_) _ _ _
 refine AA (SK.next (SK.iter_keep h2 λo e=>hs₃.extBut _ _ D.a9.symm (hs₂.extBut _ _ D.b1.symm (hs₁.extBut _ _ D.a4 e))) (SK.seq_keep hl2 λo e=>hs₃.extBut _ _ n2.2.2 (hs₂.extBut _ _ n2.2.1 (hs₁.extBut _ _ n2.1 e))) hy λh₄ p₄ hs₄=>AK ?_)
 have t4:IsPair h₄ TO x b:=hs₄.extBut _ _ D.a9 t3
 refine AA (CB t4 rfl (AA (EW t4 λh₅ q₅ hs₅=>?_)))
 have t5:IsPair h₅ TO x y:=q₅
 refine AA (Di (AK (AK (AA (CB t5 rfl (AA (wpAny_newTuple ?_)))))))
 have sz:h₅.objs.size=s.heap.objs.size:=by rw[hs₅.1,hs₄.1,hs₃.1,hs₂.1,hs₁.1]
 have z5:IsZip h₅ z TI TO .ellipsis:=hs₅.extBut _ _ D.a2.symm (hs₄.extBut _ _ D.a4.symm (hs₃.extBut _ _ D.a2.symm (hs₂.extBut _ _ D.a3.symm z1)))
 have k5:∀c o,c≠z->c≠TO->c≠i1->c≠i2->s.heap.get? c=some o->h₅.get? c=some o:=λc o c1 c2 c3 c4 e=>hs₅.extBut _ _ c2 (hs₄.extBut _ _ c4 (hs₃.extBut _ _ c2 (hs₂.extBut _ _ c3 (hs₁.extBut _ _ c1 e))))
 have r1:k1.iter h₅ i1 l1 (i+1):=SK.iter_keep p₂ λo e=>hs₅.extBut _ _ D.a8.symm (hs₄.extBut _ _ D.b1 (hs₃.extBut _ _ D.a8.symm e))
 have r2:k2.iter h₅ i2 l2 (i+1):=SK.iter_keep p₄ λo e=>hs₅.extBut _ _ D.a9.symm e
 show wpAny _ _ (Builtin.SmallTypes.ownedTupleHandOut (.ref z) (.ref h₅.objs.size)>>=λ_=>_) _ _ _
 refine AA ?_
 unfold Builtin.SmallTypes.ownedTupleHandOut
 have z6:IsZip (h₅.push { cls:=.type "tuple",data:=.seq #[x,y] }) z TI TO .ellipsis:=AC _ z5
 refine AA (C2 z6 (by simp) λh₇ q₇ hs₇=>?_)
 have z7:IsZip h₇ z TI TO (rawInt h₅.objs.size):=q₇
 refine C2 z7 (by simp) λh₈ q₈ hs₈=>?_
 have z8:IsZip h₈ z TI TO (rawInt h₅.objs.size):=q₈
 have zlt:z<h₅.objs.size:=AU z5
 have up:∀c o,c≠z->h₅.get? c=some o->h₈.get? c=some o:=λc o c1 e=>hs₈.extBut _ _ c1 (hs₇.extBut _ _ c1 (AC _ e))
 have t8:IsPair h₈ h₅.objs.size x y:=hs₈.extBut _ _ (CS zlt) (hs₇.extBut _ _ (CS zlt) (AW _ rfl))
 rw[sz]at z8 t8
 refine AK ⟨_,rfl,?_⟩
 show wpAny _ _ _ _ _ _
 refine AK ?_
 have fin:=hQ h₈ z8 (up _ _ D.a1 (k5 _ _ D.a1 D.a5 D.a6 D.a7 hTI)) (up _ _ D.a2 t5) (SK.iter_keep r1 λo e=>up _ o D.a3 e) (SK.iter_keep r2 λo e=>up _ o D.a4 e) t8 λc o c1 c2 c3 c4 e=>up c o c1 (k5 c o c1 c2 c3 c4 e)
 show Q (some (.ref h₅.objs.size)) _
 rw[sz]
 exact fin
theorem YI{k1 k2:SK}{z TI TO i1 i2 l1 l2:yJ}{i:Nat}{xs ys:yF}{Q:yD->yH->Prop}(hh:A.handled=none)(D:Xd z TI TO i1 i2)(Z:W2 k1 k2 z TI TO i1 i2 l1 l2 i s.heap)(hl1:k1.seq s.heap l1 xs)(hl2:k2.seq s.heap l2 ys)
  (n1:l1≠z/\l1≠i1) (n2:l2≠z/\l2≠i1/\l2≠TO) (hend:xs[i]?=none∨ys[i]?=none)
  (hQ:∀h',(∀c o,c≠z->c≠TO->c≠i1->c≠i2->s.heap.get? c=some o->h'.get? c=some o)->Q none { s with heap:=h' }):wpAny (model prog w) A (pyNext (.ref z)) Q E s:=by
 obtain⟨hz,hTI,⟨a,b,hTO⟩,h1,h2⟩:=Z
 have hT:s.TypeIs (.ref z) "zip" := ⟨_,hz,rfl⟩
 have stop:∀(h':Heap)(e:yJ),(∃o,h'.get? e=some o/\o.cls=.type "StopIteration")->(∀c o,c≠z->c≠TO->c≠i1->c≠i2->s.heap.get? c=some o->h'.get? c=some o) ->
   wpAny (model prog w) A (isInstance (.ref e) (.type "StopIteration")>>=λb=>if b=true then pure none else throw (.ref e)) Q E { s with heap:=h' }:=by
  rintro h' e ⟨o,ho,hc⟩ hk
  exact AA (FK (T := "StopIteration") (b:=true) ⟨o,ho,hc⟩ Gf (AK (hQ _ hk)))
 unfold pyNext
 refine AA (Df (Bb (name:=Str.ofString "__next__") hT ET (B9 ET hT F.entry_zip_next ?_ (F.args_zip_next_1 _))))
 show wpAny _ _ (field (.ref z) 2>>=λ_=>_) _ _ _
 refine AA (Bw hz rfl (x:=Value.bool false) rfl ?_)
 show wpAny _ _ (field (.ref z) 3>>=λ_=>_) _ _ _
 refine AA (Bw hz rfl (x:=Value.ref TI) rfl (AA (CB hTI rfl ?_)))
 show wpAny _ _ (Builtin.SmallTypes.ownedTupleIsFree (.ref z)>>=λ_=>_) _ _ _
 refine AA ?_
 unfold Builtin.SmallTypes.ownedTupleIsFree
 refine AA (Bw hz rfl (x:=Value.none) rfl (AK ?_))
 simp only[CQ]
 refine AA (CW (AA (Bw hz rfl (x:=Value.ref TO) rfl (AA (C2 hz (by simp) λh₁ hz₁ hs₁=>?_)))))
 have z1:IsZip h₁ z TI TO .ellipsis:=hz₁
 refine AA ?_
 simp only[E6,List.zipIdx_nil,ES,F0]
 refine AA (AA (Ep ?_))
 show wpAny _ _ (Builtin.SmallTypes.nextOf (.ref i1)>>=λ_=>_) _ _ _
 cases hx:xs[i]? with
 |none =>
  refine AA (SK.stop hh (SK.iter_keep h1 λo e=>hs₁.extBut _ _ D.a3 e) (SK.seq_keep hl1 λo e=>hs₁.extBut _ _ n1.1 e) hx λh₂ e hs₂ he=>?_)
  obtain⟨oe,hoe,hce⟩:=he
  have z2:IsZip h₂ z TI TO .ellipsis:=hs₂ _ _ D.a3.symm z1
  have ez:e≠z:=λq=>by subst q;rw[z2]at hoe;cases hoe;simp at hce
  refine C2 z2 (by simp) λh₃ _ hs₃=>?_
  exact stop h₃ e ⟨oe,hs₃.extBut _ _ ez hoe,hce⟩ λc o c1 _ c3 _ q=>hs₃.extBut _ _ c1 (hs₂ _ _ c3 (hs₁.extBut _ _ c1 q))
 |some x =>
  have hy:ys[i]?=none:=by
   rcases hend with h|h
   ·rw[hx]at h;cases h
   ·exact h
  refine AA (SK.next (SK.iter_keep h1 λo e=>hs₁.extBut _ _ D.a3 e) (SK.seq_keep hl1 λo e=>hs₁.extBut _ _ n1.1 e) hx λh₂ p₂ hs₂=>AK ?_)
  have t2:IsPair h₂ TO a b:=hs₂.extBut _ _ D.a8 (hs₁.extBut _ _ D.a2 hTO)
  refine AA (CB t2 rfl (AA (EW t2 λh₃ q₃ hs₃=>?_)))
  refine AA (Di (AK (AA (AA (Ep ?_)))))
  show wpAny _ _ (Builtin.SmallTypes.nextOf (.ref i2)>>=λ_=>_) _ _ _
  refine AA (SK.stop hh (SK.iter_keep h2 λo e=>hs₃.extBut _ _ D.a9.symm (hs₂.extBut _ _ D.b1.symm (hs₁.extBut _ _ D.a4 e))) (SK.seq_keep hl2 λo e=>hs₃.extBut _ _ n2.2.2 (hs₂.extBut _ _ n2.2.1 (hs₁.extBut _ _ n2.1 e))) hy λh₄ e hs₄ he=>?_)
  obtain⟨oe,hoe,hce⟩:=he
  have z4:IsZip h₄ z TI TO .ellipsis:=hs₄ _ _ D.a4.symm (hs₃.extBut _ _ D.a2.symm (hs₂.extBut _ _ D.a3.symm z1))
  have ez:e≠z:=λq=>by subst q;rw[z4]at hoe;cases hoe;simp at hce
  refine C2 z4 (by simp) λh₅ _ hs₅=>?_
  exact stop h₅ e ⟨oe,hs₅.extBut _ _ ez hoe,hce⟩ λc o c1 c2 c3 c4 q=>hs₅.extBut _ _ c1 (hs₄ _ _ c4 (hs₃.extBut _ _ c2 (hs₂.extBut _ _ c3 (hs₁.extBut _ _ c1 q))))
end
noncomputable abbrev WK(k1:SK)(h:Heap)(l1:yJ):Heap:=h.push (k1.ob l1)
noncomputable abbrev WW(k1 k2:SK)(h:Heap)(l1 l2:yJ):Heap:=(WK k1 h l1).push (k2.ob l2)
noncomputable abbrev XW(k1 k2:SK)(h:Heap)(l1 l2:yJ):Heap:=(WW k1 k2 h l1 l2).push { cls:=.type "tuple",data:=.seq #[.ref h.objs.size,.ref (WK k1 h l1).objs.size] }
noncomputable abbrev Wu(k1 k2:SK)(h:Heap)(l1 l2:yJ):Heap:=(XW k1 k2 h l1 l2).push { cls:=.type "tuple",data:=.seq #[.none,.none] }
noncomputable abbrev O3(k1 k2:SK)(h:Heap)(l1 l2:yJ):Heap:=(Wu k1 k2 h l1 l2).push { cls:=.type "zip",data:=.fields #[.none,.bool false,.bool false,.ref (WW k1 k2 h l1 l2).objs.size,.ref (XW k1 k2 h l1 l2).objs.size] }
theorem SK.seq_push{k:SK}{h:Heap}{l:yJ}{xs:yF}(x:k.seq h l xs)(o:Obj):k.seq (h.push o) l xs:=SK.seq_keep x λ_ e=>AC _ e
set_option maxHeartbeats 8000000 in
theorem rO(k1 k2:SK)(l1 l2:yJ)(xs ys:yF) :
  Meets (Builtin.«zip.__new__» ⟨[.type "zip",.ref l1,.ref l2],[]⟩) (λ_ R s=>k1.seq s.heap l1 xs/\k2.seq s.heap l2 ys/\R (.ok (.ret (.ref (Wu k1 k2 s.heap l1 l2).objs.size))) { s with heap:=O3 k1 k2 s.heap l1 l2 }) :=
 .of_wp λprog w A R s h=>by
  obtain⟨hp,g,d,tk,os⟩:=s
  obtain⟨hl1,hl2,h⟩:=h
  have hsub:=sub_zip
  have q1:k1.seq (Shared.heap ⟨hp,g,d,tk,os⟩) l1 xs:=hl1
  have q2:k2.seq (Shared.heap ⟨hp.push (k1.ob l1),g,d,tk,os⟩) l2 ys:=SK.seq_push hl2 _
  cases k1 with
  |lst =>
   cases k2 with
   |lst =>
    have w1:Heap.IsList (Shared.heap ⟨hp,g,d,tk,os⟩) l1 xs:=q1
    have w2:Heap.IsList (Shared.heap ⟨hp.push { cls:=.type "list_iterator",data:=.fields #[.ref l1,.int 0 0] },g,d,tk,os⟩) l2 ys:=q2
    wp_walk using By w1,By w2
    exact⟨_,rfl,h⟩
   |tup =>
    have w1:Heap.IsList (Shared.heap ⟨hp,g,d,tk,os⟩) l1 xs:=q1
    have w2:Heap.IsTuple (Shared.heap ⟨hp.push { cls:=.type "list_iterator",data:=.fields #[.ref l1,.int 0 0] },g,d,tk,os⟩) l2 ys:=q2
    wp_walk using By w1,Bu w2
    exact⟨_,rfl,h⟩
  |tup =>
   cases k2 with
   |lst =>
    have w1:Heap.IsTuple (Shared.heap ⟨hp,g,d,tk,os⟩) l1 xs:=q1
    have w2:Heap.IsList (Shared.heap ⟨hp.push { cls:=.type "tuple_iterator",data:=.fields #[.ref l1,.int 0 0] },g,d,tk,os⟩) l2 ys:=q2
    wp_walk using Bu w1,By w2
    exact⟨_,rfl,h⟩
   |tup =>
    have w1:Heap.IsTuple (Shared.heap ⟨hp,g,d,tk,os⟩) l1 xs:=q1
    have w2:Heap.IsTuple (Shared.heap ⟨hp.push { cls:=.type "tuple_iterator",data:=.fields #[.ref l1,.int 0 0] },g,d,tk,os⟩) l2 ys:=q2
    wp_walk using Bu w1,Bu w2
    exact⟨_,rfl,h⟩
theorem oR(n:Nat):Xd (n+4) (n+2) (n+3) n (n+1):=by
 constructor<;>(show(_:Nat)≠_)<;>lia
theorem kD{k1 k2:SK}{l1 l2:yJ}{xs ys:yF}{Q:xZ}{prog:yL}{w:yM}{A:Around}{E:xZ}{s:yH}(hl1:k1.seq s.heap l1 xs)(hl2:k2.seq s.heap l2 ys)
  (h:∀h',W2 k1 k2 (s.heap.objs.size+4) (s.heap.objs.size+2) (s.heap.objs.size+3) s.heap.objs.size (s.heap.objs.size+1) l1 l2 0 h'->(∀c o,s.heap.get? c=some o->h'.get? c=some o)->Q (.ref (s.heap.objs.size+4)) { s with heap:=h' }) :
  wpAny (model prog w) A (call (.type "zip") [.ref l1,.ref l2]) Q E s:=by
 refine callType_new F.called_zip (by decide) (F.typeCall_zip_2 _ _) (F.newCall_zip_2 _ _) (λobj=>F.args_object_init_3 obj _ _) F.entry_zip_new (rO k1 k2 l1 l2 xs ys) ⟨hl1,hl2,?_⟩
 have e1:(WK k1 s.heap l1).objs.size=s.heap.objs.size+1:=Bo ..
 have e2:(WW k1 k2 s.heap l1 l2).objs.size=s.heap.objs.size+2:=by rw[Bo,e1]
 have e3:(XW k1 k2 s.heap l1 l2).objs.size=s.heap.objs.size+3:=by rw[Bo,e2]
 have e4:(Wu k1 k2 s.heap l1 l2).objs.size=s.heap.objs.size+4:=by rw[Bo,e3]
 have g5:(O3 k1 k2 s.heap l1 l2).get? (Wu k1 k2 s.heap l1 l2).objs.size=some _:=AW _ rfl
 have g4:(O3 k1 k2 s.heap l1 l2).get? (XW k1 k2 s.heap l1 l2).objs.size=some _:=AC _ (AW _ rfl)
 have g3:(O3 k1 k2 s.heap l1 l2).get? (WW k1 k2 s.heap l1 l2).objs.size=some _:=AC _ (AC _ (AW _ rfl))
 have f2:(k2.ob l2).isFreed=false:=by cases k2<;>rfl
 have f1:(k1.ob l1).isFreed=false:=by cases k1<;>rfl
 have g2:(O3 k1 k2 s.heap l1 l2).get? (WK k1 s.heap l1).objs.size=some (k2.ob l2):=AC _ (AC _ (AC _ (AW _ f2)))
 have g1:(O3 k1 k2 s.heap l1 l2).get? s.heap.objs.size=some (k1.ob l1):=AC _ (AC _ (AC _ (AC _ (AW _ f1))))
 have fin:=h (O3 k1 k2 s.heap l1 l2) ⟨by rw[e2,e3,e4]at g5;exact g5,by rw[e1,e2]at g3;exact g3,⟨_,_,by rw[e3]at g4;exact g4⟩,SK.iter_new g1,SK.iter_new (by rw[e1]at g2;exact g2)⟩
  λc o e=>AC _ (AC _ (AC _ (AC _ (AC _ e))))
 rw[<-e4]at fin
 exact⟨⟨_,g5,rfl⟩,fin⟩
noncomputable def Ta(K:yG)(k1 k2:SK)(a b:yJ):It :=
 ⟨λi H=>∃xs ys x y,k1.is K H a xs/\k2.is K H b ys/\xs[i]?=some x/\ys[i]?=some y,
  λi H v H'=>∃p x y,v=.ref p/\H p=none/\H'=HV H p (.tup [x,y])/\(∀xs,k1.is K H a xs->xs[i]?=some x)/\∀ys,k2.is K H b ys->ys[i]?=some y,
  λi H=>∃xs ys,k1.is K H a xs/\k2.is K H b ys/\(xs.length<=i∨ys.length<=i)⟩
theorem Li{X:Cx}{Fq:yA}{σ:St}{H:Hp}{s:yH}{a c:yJ}{xs:List V}{k:SK}(I:Inv X Fq σ H s)(h:k.is X.K H a xs)(f:Kz X Fq H c):a≠c:=by
 intro e
 subst e
 have known:∀o,X.K.lookup a=some o->False:=λo q=>by
  have e:=I.ok.mod.kin a o q
  rcases f.2.2.2.1 with z|z
  ·exact I.ok.noex a o e z
  ·exact absurd (Ax (AU e) (As I.ok.bsz z)) (Bz _)
 cases k with
 |lst =>
  rcases h with(h|⟨o,h⟩)|⟨o,_,_,q,_⟩
  ·rw[f.1]at h;cases h
  ·rw[f.1]at h;cases h
  ·exact known o q
 |tup =>
  rcases h with(h|⟨o,h⟩)|⟨o,_,_,q,_⟩
  ·rw[f.1]at h;cases h
  ·rw[f.1]at h;cases h
  ·exact known o q
theorem W1{X:Cx}{Fq:yA}{σ:St}{H H':Hp}{s:yH}{h':Heap}{t':Nat}{ch:yC}(I:Inv X Fq σ H s)(hf:∀b∈ch,Kz X Fq H b)(k:∀b o,b∉ch->s.heap.get? b=some o->h'.get? b=some o)
  (new:∀b,b<s.heap.objs.size->H' b=H b) (hok:Ii X.prog X.w H' h'):Inv X Fq σ H' { s with heap:=h',toks:=t' }:=by
 have lt:∀{b u},H b=some u->b<s.heap.objs.size:=λe=>I.hok.lt e
 refine I.step (g':=s.gens) (d':=s.drawn) (ch:=ch) (λb hb=>⟨(hf b hb).2.2.2.1,(hf b hb).2.1,(hf b hb).2.2.2.2.1,(hf b hb).2.2.2.2.2⟩) (λb o _ _ hc e _=>k b o hc e) (λb o _ _ hc e _=>⟨o.slots,k b o hc e⟩) (λb o _ e n=>by rw[new b (AU e)];exact n)
  (λb o hc e=>⟨o,k b o hc e⟩) (λb xs e=>by rw[new b (lt e)];exact e) (λb o u e=>by rw[new b (lt e)];exact e) (λb ps e=>⟨#[],by rw[new b (lt e),e];simp⟩) (λm hm=>?_) hok I.bare
 obtain⟨o,es,ep,ho,r⟩:=hm
 exact⟨o,es,ep,k _ o (λz=>(hf _ z).2.1 rfl) ho,r⟩
theorem iG{P:yL}{w:yM}{K:yG}{elts:yE}{x1}{pos:Pos}(k1 k2:SK)(a b z TI TO i1 i2:yJ)(D:Xd z TI TO i1 i2) :
  KY P w K (.Tuple elts x1 pos) (Ta K k1 k2 a b) [z,TI,TO,i1,i2] z (λi h=>W2 k1 k2 z TI TO i1 i2 a b i h) where
 mem:=by simp
 obj:=λi h st c hc=>by
  obtain⟨hz,hTI,⟨u,v,hTO⟩,h1,h2⟩:=st
  have it:∀{k:SK}{i l:yJ}{n:Nat},k.iter h i l n->∃o,h.get? i=some o/\∀v,o.data≠.cell v:=λ{k i l n} x=>by
   cases k with
   |lst=>obtain⟨o,e,_,d⟩:=x;exact⟨o,e,λv q=>by rw[d]at q;cases q⟩
   |tup=>obtain⟨o,e,_,d⟩:=x;exact⟨o,e,λv q=>by rw[d]at q;cases q⟩
  simp only[AY,Bg,DM]at hc
  rcases hc with rfl|rfl|rfl|rfl|rfl
  ·exact⟨_,hz,λv q=>by cases(show Data.fields _=Data.cell v from q)⟩
  ·exact⟨_,hTI,λv q=>by cases(show Data.seq _ _=Data.cell v from q)⟩
  ·exact⟨_,hTO,λv q=>by cases(show Data.seq _ _=Data.cell v from q)⟩
  ·exact it h1
  ·exact it h2
 keep:=λi h h' st k=>by
  obtain⟨hz,hTI,⟨u,v,hTO⟩,h1,h2⟩:=st
  exact⟨k z (by simp) _ hz,k TI (by simp) _ hTI,⟨u,v,k TO (by simp) _ hTO⟩,SK.iter_keep h1 λo e=>k i1 (by simp) o e,SK.iter_keep h2 λo e=>k i2 (by simp) o e⟩
 item:=by
  intro X hP hw hK hc i Fq s σ H E I hf st hg
  subst hP hw hK
  obtain⟨xs,ys,x,y,q1,q2,hx,hy⟩:=hg
  obtain⟨its,r1,p1⟩:=SK.at I q1
  obtain⟨its',r2,p2⟩:=SK.at I q2
  obtain⟨u,hu,ru⟩:=r1.get hx
  obtain⟨v,hv,rv⟩:=r2.get hy
  have fz:=hf z (by simp)
  have fTO:=hf TO (by simp)
  have f1:=hf i1 (by simp)
  have f2:=hf i2 (by simp)
  refine oQ D st p1 p2 ⟨Li I q1 fz,Li I q1 f1⟩ ⟨Li I q2 fz,Li I q2 f1,Li I q2 fTO⟩ (x:=u) (y:=v) (by simpa using hu) (by simpa using hv) λh' a1 a2 a3 a4 a5 a6 a7=>?_
  refine⟨_,rfl,wpAny_letOwnedTupleGo_zip (s:={ s with heap:=h' }) a1 λh'' b1 b2=>?_⟩
  have kp:∀c o,c∉[z,TO,i1,i2]->s.heap.get? c=some o->h''.get? c=some o:=λc o hc e=>by
   simp only[AY,Bg,DM,not_or]at hc
   exact b2.extBut _ _ hc.1 (a7 c o hc.1 hc.2.1 hc.2.2.1 hc.2.2.2 e)
  have zlt:z<s.heap.objs.size:=AU st.hz
  have hT:IsPair h'' s.heap.objs.size u v:=b2.extBut _ _ (CS zlt) a6
  have hf4:∀c∈[z,TO,i1,i2],Kz X Fq H c:=λc hc=>by
   simp only[AY,Bg,DM]at hc
   rcases hc with rfl|rfl|rfl|rfl
   ·exact fz
   ·exact fTO
   ·exact f1
   ·exact f2
  have hn:H s.heap.objs.size=none:=I.fresh
  have hok:Ii X.prog X.w (HV H s.heap.objs.size (.tup [x,y])) h'':=λc o e=>by
   by_cases hc:c=s.heap.objs.size
   ·subst hc
    rw[HR]at e
    cases e
    exact⟨by show 2<=sizeLine;decide,[u,v],.cons ru (.cons rv .nil),⟨_,hT,rfl,_,rfl,rfl⟩⟩
   ·rw[Hw hc]at e
    refine(I.hok c o e).stay (λd v2 hd q=>kp d v2 (λm=>?_) q) (λd q=>by rw[Hw (Jd q hn)];exact q) λd xs q=>by rw[Hw (Jd q hn)];exact q
    have z:=(hf4 d m).1
    rcases hd with rfl|hd
    ·rw[e]at z;cases z
    ·rw[hd]at z;cases z
  have I9:Inv X Fq σ (HV H s.heap.objs.size (.tup [x,y])) { s with heap:=h'',toks:=s.toks }:=W1 (s:=s) I hf4 kp (λc hc=>Hw (Au hc)) hok
  refine⟨.ref s.heap.objs.size,HV H s.heap.objs.size (.tup [x,y]),I9,rfl,⟨s.heap.objs.size,x,y,rfl,hn,rfl,λzs hz=>by rw[SK.inj I hz q1];exact hx,λzs hz=>by rw[SK.inj I hz q2];exact hy⟩,?_,λc hc=>?_⟩
  ·exact⟨b1,b2.extBut _ _ D.a1 a2,⟨u,v,b2.extBut _ _ D.a2 a3⟩,SK.iter_keep a4 λo e=>b2.extBut _ _ D.a3 e,SK.iter_keep a5 λo e=>b2.extBut _ _ D.a4 e⟩
  ·obtain⟨o,e⟩:∃o,s.heap.get? c=some o:=by
    obtain⟨hz,hTI,⟨u,v,hTO⟩,h1,h2⟩:=st
    simp only[AY,Bg,DM]at hc
    rcases hc with rfl|rfl|rfl|rfl|rfl
    ·exact⟨_,hz⟩
    ·exact⟨_,hTI⟩
    ·exact⟨_,hTO⟩
    ·cases k1 with
     |lst=>obtain⟨o,e,_⟩:=h1;exact⟨o,e⟩
     |tup=>obtain⟨o,e,_⟩:=h1;exact⟨o,e⟩
    ·cases k2 with
     |lst=>obtain⟨o,e,_⟩:=h2;exact⟨o,e⟩
     |tup=>obtain⟨o,e,_⟩:=h2;exact⟨o,e⟩
   rw[Hw (Au (AU e))]
   exact(hf c hc).1
 done:=by
  intro X hP hw hK hc i Fq s σ H E I hf st hg
  subst hP hw hK
  obtain⟨xs,ys,q1,q2,hx⟩:=hg
  obtain⟨its,r1,p1⟩:=SK.at I q1
  obtain⟨its',r2,p2⟩:=SK.at I q2
  have fz:=hf z (by simp)
  have fTO:=hf TO (by simp)
  have f1:=hf i1 (by simp)
  have f2:=hf i2 (by simp)
  have l1:=r1.length
  have l2:=r2.length
  refine YI (I.ok.hd hc) D st p1 p2 ⟨Li I q1 fz,Li I q1 f1⟩ ⟨Li I q2 fz,Li I q2 f1,Li I q2 fTO⟩ (hx.imp (λq=>by simp;lia) λq=>by simp;lia) λh' a7=>⟨rfl,?_⟩
  have hf4:∀c∈[z,TO,i1,i2],Kz X Fq H c:=λc hc=>by
   simp only[AY,Bg,DM]at hc
   rcases hc with rfl|rfl|rfl|rfl
   ·exact fz
   ·exact fTO
   ·exact f1
   ·exact f2
  have kp:∀c o,c∉[z,TO,i1,i2]->s.heap.get? c=some o->h'.get? c=some o:=λc o hc e=>by
   simp only[AY,Bg,DM,not_or]at hc
   exact a7 c o hc.1 hc.2.1 hc.2.2.1 hc.2.2.2 e
  refine W1 (h':=h') (t':=s.toks) I hf4 kp (λc _=>rfl) λc o e=>?_
  refine(I.hok c o e).stay (λd v2 hd q=>kp d v2 (λm=>?_) q) (λd q=>q) λd xs q=>q
  have z:=(hf4 d m).1
  rcases hd with rfl|hd
  ·rw[e]at z;cases z
  ·rw[hd]at z;cases z
 self:=λ_ _ _ _ _ st h=>wpAny_pyIter_zip st.hz h
noncomputable def iR(K:yG)(k1 k2:SK)(ta:TA):TI:=λσ H R=>ta σ H λvs H1=>∃a b,vs=[.ref a,.ref b]/\(∃xs,k1.is K H1 a xs)/\(∃ys,k2.is K H1 b ys)/\R (Ta K k1 k2 a b) H1
theorem VB{X:Cx}{ea eb:Expr}{ta:TA}{p pos tp:Pos}{elts:yE}{x1}(k1 k2:SK)(hg:Gl X "zip")(hm:X.mg "zip" = none)(ha:PA X [ea,eb] ta)(hs:starEach [ea,eb] X.env=(false,eval ea X.env)::starEach [eb] X.env:=by rfl)(hs2:(backTo pos (starEach [eb] X.env)).any (·.1)=false:=by rfl) :
  PI X (.Tuple elts x1 tp) (.Call (.Name "zip" p) [ea,eb] [] pos) (iR X.K k1 k2 ta):=by
 intro Fq s σ H R I h
 refine Call_ (Ks I hg hm boot_zip (BY (Hk (ha pos Fq s σ H _ I h) λus s1 ⟨vs,H1,I1,r1,q1⟩=>?_) hs hs2))
 obtain⟨a,b,rfl,⟨xs,ex⟩,⟨ys,ey⟩,q⟩:=q1
 obtain⟨u,v,rfl,ru,rv⟩:=MF r1
 cases ru
 cases rv
 obtain⟨its,r1,p1⟩:=SK.at I1 ex
 obtain⟨its',r2,p2⟩:=SK.at I1 ey
 refine kD p1 p2 λh' Z kp=>?_
 refine wpAny_pyIter_zip Z.hz ?_
 have I2:Inv X Fq σ H1 { s1 with heap:=h' }:=I1.kept (t':=s1.toks) kp
 refine⟨_,[s1.heap.objs.size+4,s1.heap.objs.size+2,s1.heap.objs.size+3,s1.heap.objs.size,s1.heap.objs.size+1],_,_,H1,rfl,I2,iG k1 k2 a b _ _ _ _ _ (oR _),Z,λc hc=>?_,q⟩
 have ge:s1.heap.objs.size<=c:=by
  simp only[AY,Bg,DM]at hc
  rcases hc with rfl|rfl|rfl|rfl|rfl
  ·exact Cn _ _
  ·exact Cn _ _
  ·exact Cn _ _
  ·exact AH _
  ·exact Cn _ _
 exact I1.fpOk ge (I1.hok.fresh ge)
end L2.Ev
namespace L2.Ev
open PySem PySem.Spec PyProof.Rows
open L2.Ts L2.Pl L2.Rw
section
variable{X:Cx}{α:Type}[D:Dat α][S:JR α]
noncomputable def MW(α:Type)[D:Dat α][S:JR α](H:Hp)(l:List α)(p:Keyed):Nat:=by
 classical exact if h:∃a:α,∃v,HN v p.1/\D.is H v a then LN S.lt l h.choose else 0
theorem RA{H:Hp}{l:List α}{p:Keyed}{v:V}{a:α}(r:HN v p.1)(h:D.is H v a):MW α H l p=LN S.lt l a:=by
 unfold MW
 have e:∃a:α,∃v,HN v p.1/\D.is H v a:=⟨a,v,r,h⟩
 rw[dif_pos e]
 obtain⟨v',r',h'⟩:=e.choose_spec
 have:v'=v:=HN.inj r' r
 subst this
 rw[D.inj h' h]
theorem Paired.perm{β γ:Type}{F:β->γ->Prop}{l l':List β}(p:l'.Perm l):∀{m:List γ},Paired F l m->∃m',m'.Perm m/\Paired F l' m':=by
 induction p with
 |nil=>intro m h;exact⟨m,List.Perm.refl _,h⟩
 |cons x _ ih =>
  intro m h
  cases h with
  |cons r t =>
   obtain⟨m',p',h'⟩:=ih t
   exact⟨_::m',p'.cons _,.cons r h'⟩
 |swap x y l =>
  intro m h
  cases h with
  |cons r t =>
   cases t with
   |cons r2 t2=>exact⟨_,List.Perm.swap _ _ _,.cons r2 (.cons r t2)⟩
 |trans _ _ i1 i2 =>
  intro m h
  obtain⟨m1,p1,h1⟩:=i2 h
  obtain⟨m2,p2,h2⟩:=i1 h1
  exact⟨m2,p2.trans p1,h2⟩
theorem Paired.mem{β γ:Type}{F:β->γ->Prop}{l:List β}{m:List γ}(h:Paired F l m){x:β}(hx:x∈l):∃y∈m,F x y:=by
 induction h with
 |nil=>cases hx
 |cons r t ih =>
  rcases AY.mp hx with e|hx
  ·subst e;exact⟨_,AG ..,r⟩
  ·obtain⟨y,hy,f⟩:=ih hx
   exact⟨y,AE _ hy,f⟩
noncomputable abbrev Kh(α:Type)[D:Dat α](H:Hp)(its:xY)(l:List α):Prop:=Paired (λu a=>∃v,HN v u/\D.is H v a) its l
theorem Ro{H:Hp}:∀{vs:List V}{its:xY}{l:List α},HS vs its->Hr H vs l->Kh α H its l
 |_,_,_,.nil,.nil=>.nil
 |_,_,_,.cons r t,.cons q u=>.cons ⟨_,r,q⟩ (Ro t u)
theorem gS{H:Hp}{its:xY}{l:List α}(h:Kh α H its l):∃vs,HS vs its/\Hr H vs l:=by
 induction h with
 |nil=>exact⟨[],.nil,.nil⟩
 |cons r t ih =>
  obtain⟨v,rv,d⟩:=r
  obtain⟨vs,a,b⟩:=ih
  exact⟨v::vs,.cons rv a,.cons d b⟩
theorem mT{H:Hp}{l0:List α}{out:xY}{m:List α}(h:Kh α H out m)(hm:∀a∈m,a∈l0)(o:out.Pairwise λx y=>MW α H l0 (y,y)<=MW α H l0 (x,x)):m.Pairwise λa b=>S.lt a b=false:=by
 induction h with
 |nil=>exact .nil
 |@cons x a xs m r t ih =>
  obtain⟨o1,o2⟩:=Av.mp o
  refine Av.mpr ⟨λb hb=>?_,ih (λb hb=>hm b (AE _ hb)) o2⟩
  obtain⟨y,hy,e⟩:∃y∈xs,∃v,HN v y/\D.is H v b:=by
   have key:∀{xs:xY}{m:List α},Kh α H xs m->b∈m->∃y∈xs,∃v,HN v y/\D.is H v b:=by
    intro xs m t
    induction t with
    |nil=>intro z;cases z
    |cons r t ih =>
     intro z
     rcases AY.mp z with e|z
     ·subst e;exact⟨_,AG ..,r⟩
     ·obtain⟨y,hy,f⟩:=ih z
      exact⟨y,AE _ hy,f⟩
   exact key t hb
  obtain⟨v,rv,dv⟩:=r
  obtain⟨v2,rv2,dv2⟩:=e
  have q:=o1 y hy
  rw[RA (p:=(y,y)) rv2 dv2,RA (p:=(x,x)) rv dv]at q
  cases c:S.lt a b with
  |false=>rfl
  |true =>
   have:=(Pe S.lin (hm a (AG ..))).mp c
   lia
theorem Rr{Fq:yA}{σ:St}{H:Hp}{s:yH}{its:xY}{l:List α}{A:Around}(hu:A.units+4<cLine)(hb:Kh α H its l)(hok:∀a∈l,S.ok a)(I:Inv X Fq σ H s)(h2:2<=its.length) :
  (∀(Q:SortKind->yH->Prop)(E':xZ),Q (tuples' S.plain) s->wpAny (model X.prog X.w) A (keyKind' its.toArray) Q E' s) /\
  Kd X.prog X.w A s (tuples' S.plain) (λp=>∃a∈l,∃v,HN v p.1/\D.is H v a) (MW α H l):=by
 constructor
 ·intro Q E' q
  have fs:∀{its:xY}{l:List α},Kh α H its l->(∀a∈l,S.ok a)->∃fs:xY,fs.length=its.length/\W.KatTups s.heap its fs/\∀f∈fs,W.Looks (model X.prog X.w) s.heap (typeOf f) (if S.plain=true then .type "int" else .type "tuple"):=by
   intro its l hb
   induction hb with
   |nil=>intro _;exact⟨[],rfl,W.KatTups.nil,λf hf=>by cases hf⟩
   |@cons u0 a0 _ _ r t ih =>
    intro ok
    obtain⟨fs,f1,f2,f3⟩:=ih λa ha=>ok a (AE _ ha)
    obtain⟨v,rv,dv⟩:=r
    obtain⟨p,o,xs,n,f,rp,ho,hc,hd,hf,lk⟩:=S.first I dv (ok _ (AG ..))
    have e:u0=Value.ref p:=by
     cases v with
     |ref a =>
      have e1:Value.ref p=Value.ref a:=rp
      have e2:u0=Value.ref a:=rv
      rw[e2,e1]
     |_=>first|(obtain⟨_,e⟩:=rp;cases e)|cases rp
    subst e
    refine⟨f::fs,by simp [f1],W.KatTups.cons ho hc hd hf f2,λg hg=>?_⟩
    rcases AY.mp hg with e|hg
    ·subst e;exact lk
    ·exact f3 g hg
  obtain⟨fs,f1,f2,f3⟩:=fs hb hok
  refine W.kat_kind f2 (by lia) f3 (by split<;>decide) ?_
  cases c:S.plain with
  |true=>rw[c]at q;exact q
  |false=>rw[c]at q;exact q
 ·intro x y hx hy Q q
  obtain⟨a,ha,v,rv,dv⟩:=hx
  obtain⟨b,hb',v',rv',dv'⟩:=hy
  refine S.asks I hu dv dv' (hok a ha) (hok b hb') rv rv' Q ?_
  rw[RA rv dv,RA rv' dv']at q
  have e:decide (LN S.lt l a<LN S.lt l b)=S.lt a b:=by
   cases c:S.lt a b with
   |true=>exact Ac ((Pe S.lin ha).mp c)
   |false=>exact Aa λz=>by rw[(Pe S.lin ha).mpr z]at c;cases c
  rw[e]at q
  exact q
noncomputable def qW(α:Type)[D:Dat α][S:JR α](ta:TA):TE:=λσ H Q=>ta σ H λvs H1=>∃(a:yJ)(l:List α),vs=[.ref a]/\Gg H1 a l/\(∀b∈l,S.ok b) /\
 ∀(p:yJ)(vs:List V)(l':List α),H1 p=none->l'.Perm l->(l'.Pairwise λa b=>S.lt a b=false)->Hr H1 vs l'->Q (.ref p) (HV H1 p (.lst vs))
theorem fQ{Fq:yA}{σ:St}{H:Hp}{s:yH}{its out:xY}{l:List α}{Q:VK}{h':Heap}{tk:Nat}{P:yJ}{e:Nat}(I:Inv X Fq σ H s)(hb:Kh α H its l)(hz:its.length<=sizeLine)(p:out.Perm its)
  (o:out.Pairwise λx y=>MW α H l (y,y)<=MW α H l (x,x)) (kp:∀b o,s.heap.get? b=some o->h'.get? b=some o) (hP:s.heap.objs.size<=P) (hg:h'.get? P=some (seqObj "list" out.toArray e))
  (q:∀(p:yJ)(vs:List V)(l':List α),H p=none->l'.Perm l->(l'.Pairwise λa b=>S.lt a b=false)->Hr H vs l'->Q (.ref p) (HV H p (.lst vs))):EP X Fq σ Q (.ref P) { s with heap:=h',toks:=tk }:=by
 obtain⟨m,pm,bm⟩:=Paired.perm p hb
 obtain⟨vs,v1,v2⟩:=gS bm
 have lz:vs.length<=sizeLine:=by rw[v1.length,p.length_eq];exact hz
 refine⟨.ref P,HV H P (.lst vs),I.laid (a:=P) (o:=.lst vs) (t':=tk) kp hP ⟨lz,out,e,v1,hg⟩,rfl,q P vs m (I.hok.fresh hP) pm (mT bm (λa ha=>pm.mem_iff.mp ha) o) v2⟩
theorem tR{Fq:yA}{σ:St}{H:Hp}{s:yH}{r:yJ}{its:xY}{l:List α}{Q:VK}(hu:X.A.units+8<cLine)(I:Inv X Fq σ H s)(hb:Kh α H its l)(hz:its.length<=sizeLine)(hok:∀a∈l,S.ok a)
  (LI:∀(Q':xY->yH->Prop),(∀h' tk,(∀b o,s.heap.get? b=some o->h'.get? b=some o)->s.heap.objs.size<=h'.objs.size->Q' its { s with heap:=h',toks:=tk })->wpAny (model X.prog X.w) X.A.in1 (collect (.ref r)) Q' X.xe s)
  (q:∀(p:yJ)(vs:List V)(l':List α),H p=none->l'.Perm l->(l'.Pairwise λa b=>S.lt a b=false)->Hr H vs l'->Q (.ref p) (HV H p (.lst vs))) :
  wpAny (model X.prog X.w) X.A (call (.builtin "sorted") [.ref r] [(Str.ofString "reverse",.bool true)]) (EP X Fq σ Q) X.xe s:=by
 refine XM (κ:=tuples' S.plain) (M:=λp=>∃a∈l,∃v,HN v p.1/\D.is H v a) (rk:=MW α H l) hz (λv hv=>?_) LI (λh' tk kp l2=>?_) λh' tk P e out p o kp hP hg=>?_
 ·obtain⟨a,ha,d⟩:=Paired.mem hb hv
  exact⟨a,ha,d⟩
 ·exact Rr (A:=X.A.in1.in1) (by show X.A.units+1+1+4<cLine;lia) hb hok (I.kept (t':=tk) kp) l2
 ·exact fQ I hb hz p o kp hP hg q
theorem vL{e:Expr}{ta:TA}{p pos kp kq:Pos}{j}(hc:X.calm=true)(hu:X.A.units+8<cLine)(hg:Gl X "sorted")(hm:X.mg "sorted" = none)(ha:PA X [e] ta)
  (h1:backTo pos (starEach [e] X.env)=(false,eval e X.env)::backTo pos (starEach [] X.env):=by rfl) (h2:(backTo pos (starEach [e] X.env)).any (·.1)=false:=by rfl) :
  PE X (.Call (.Name "sorted" p) [e] [⟨some (Str.ofString "reverse"),.Constant (.bool true) j kq,kp⟩] pos) (qW α ta):=by
 intro Fq s σ H Q I h
 refine Bv (Ks I hg hm Fv ?_)
 refine Ee (Hk (ha pos Fq s σ H _ I h) λus s1 ⟨vs,H1,I1,r1,q1⟩=>?_) h1 h2
 obtain⟨a,l,rfl,⟨vs,hL,hI⟩,hok,q⟩:=q1
 obtain⟨u,rfl,ru⟩:=KN r1
 cases ru
 refine kws_cons (Constant_bool (kws_nil ?_))
 obtain⟨its,rv,ht,hz⟩:=I1.list (HU.of hL)
 refine tR hu I1 (Ro rv hI) (by rw[<-rv.length];exact hz) hok (λQ' q'=>collect_list ht.isList (q' _ _ (λb o e=>?_) ?_) (by rw[<-rv.length];exact hz)) q
 ·exact(BN _ _ (CS (AU e))).trans (AC _ e)
 ·rw[EJ,size_push'];exact Cd _
end
noncomputable def Ka(d:List Go):List (List IB×V):=d.map λt=>(t.1.map Sum.inl,V.int t.2)
theorem Qk:∀{a b:xX},(a.map Sum.inl:List IB)=b.map Sum.inl->a=b
 |[],[],_=>rfl
 |[],_::_,e=>by simp at e
 |_::_,[],e=>by simp at e
 |x::xs,y::ys,e=>by
  rw[Ai,Ai]at e
  injection e with e1 e2
  injection e1 with e1
  rw[e1,Qk e2]
theorem Ma(k:xX):(k.map Sum.inl:List IB).map kV=k.map V.int:=by rw[Bp];rfl
theorem WJ(d:List Go)(p:Pw):Kl (Ka d) (p.map Sum.inl)=(Jj d p).map V.int:=by
 induction d with
 |nil=>rfl
 |cons t r ih =>
  have e0:Ka (t::r)=(t.1.map Sum.inl,V.int t.2)::Ka r:=rfl
  rw[e0]
  by_cases e:t.1=p
  ·rw[TH (p:=(t.1.map Sum.inl,V.int t.2)) (by rw[e])]
   simp [Jj,CG,e]
  ·rw[Sa (p:=(t.1.map Sum.inl,V.int t.2)) (λz=>e (Qk z)),ih]
   simp [Jj,CG,e]
theorem U2(d:List Go)(p:Pw)(n:Int):KI (Ka d) (p.map Sum.inl) (V.int n)=Ka (MA d p n):=by
 have ea:((Ka d).any λkv=>decide (kv.1=p.map Sum.inl))=d.any λkv=>decide (kv.1=p):=by
  unfold Ka
  rw[HF]
  congr 1
  funext t
  show decide ((t.1.map Sum.inl:List IB)=p.map Sum.inl)=decide (t.1=p)
  by_cases e:t.1=p
  ·rw[Ac e,Ac (by rw[e])]
  ·rw[Aa e,Aa λz=>e (Qk z)]
 unfold KI MA
 rw[ea]
 split
 ·unfold Ka
  rw[Bp,Bp]
  apply CF
  intro t _
  simp only[Function.comp]
  by_cases e:t.1=p
  ·rw[AF (by rw[e]),AF e]
  ·rw[AD (λz=>e (Qk z)),AD e]
 ·unfold Ka
  rw[Ar]
  rfl
theorem OP(d:List Go):(Ka d).length=d.length:=AB _
theorem Vr{X:Cx}{Fq:yA}{σ:St}{H:Hp}{s:yH}{a:yJ}{d:List Go}(I:Inv X Fq σ H s)(h:Rd H a (.dT (Ka d))) :
  d.length<=sizeLine/\(a==sysModules)=false/\∃(es:Array yP)(ep:Nat),JE s.heap a es ep/\es.size=d.length /\
   Paired (λ(e:yP)(t:Go)=>(∃p,e.key=.ref p/\H p=some (.tup (t.1.map V.int)))/\HN (.int t.2) e.val) es.toList d:=by
 obtain⟨z,y,xs,r,o,es,ep,h1,h2,h3,h4,h5⟩:=(show Hg X.prog X.w H s.heap a (.dT (Ka d)) from NJ I.hok h)
 have key:∀{d:List Go}{xs:List (List IB×yJ×yI)},KT H (Ka d) xs->Paired (λ(e:yP)(t:Go)=>(∃p,e.key=.ref p/\H p=some (.tup (t.1.map V.int)))/\HN (.int t.2) e.val) (xs.map (entryOfKey (tupleKind (KU X.prog X.w)))) d:=by
  intro d
  induction d with
  |nil=>intro xs r;cases r;exact .nil
  |cons t d ih =>
   intro xs r
   cases r with
   |cons q qs =>
    refine .cons ⟨⟨_,rfl,?_⟩,q.2.2⟩ (ih qs)
    have:=q.2.1
    rw[<-Ma]
    exact this
 have kp:=key r
 rw[<-h4]at kp
 refine⟨by rw[<-OP];exact z,y,es,ep,⟨o,h1,h2,h3⟩,?_,kp⟩
 rw[<-AV]
 exact AM kp
section
variable{X:Cx}
noncomputable def oJ(ta:TA):TE:=λσ H Q=>ta σ H λvs H1=>∃(a:yJ)(d:List Go),vs=[.ref a]/\Rd H1 a (.dT (Ka d))/\(∀t∈d,t.1≠[]) /\
 ∀(p:yJ)(vs:List V)(ks:List Pw),H1 p=none->ks.Perm (d.map (·.1))->(ks.Pairwise λa b=>Hs a b=false)->Hr H1 vs ks->Q (.ref p) (HV H1 p (.lst vs))
theorem mE{e:Expr}{ta:TA}{p pos kp kq:Pos}{j}(hc:X.calm=true)(hu:X.A.units+8<cLine)(hg:Gl X "sorted")(hm:X.mg "sorted" = none)(ha:PA X [e] ta)
  (h1:backTo pos (starEach [e] X.env)=(false,eval e X.env)::backTo pos (starEach [] X.env):=by rfl) (h2:(backTo pos (starEach [e] X.env)).any (·.1)=false:=by rfl) :
  PE X (.Call (.Name "sorted" p) [e] [⟨some (Str.ofString "reverse"),.Constant (.bool true) j kq,kp⟩] pos) (oJ ta):=by
 intro Fq s σ H Q I h
 refine Bv (Ks I hg hm Fv ?_)
 refine Ee (Hk (ha pos Fq s σ H _ I h) λus s1 ⟨vs,H1,I1,r1,q1⟩=>?_) h1 h2
 obtain⟨a,d,rfl,hR,hne,q⟩:=q1
 obtain⟨u,rfl,ru⟩:=KN r1
 cases ru
 refine kws_cons (Constant_bool (kws_nil ?_))
 obtain⟨z,lo,es,ep,raw,sz,ent⟩:=Vr I1 hR
 have hb:Kh xX H1 (es.toList.map (·.key)) (d.map (·.1)):=by
  have key:∀{l:List yP}{d:List Go},Paired (λ(e:yP)(t:Go)=>(∃p,e.key=.ref p/\H1 p=some (.tup (t.1.map V.int)))/\HN (.int t.2) e.val) l d->Kh xX H1 (l.map (·.key)) (d.map (·.1)):=by
   intro l d h
   induction h with
   |nil=>exact .nil
   |cons r t ih =>
    obtain⟨⟨p,e1,e2⟩,_⟩:=r
    exact .cons ⟨.ref p,e1,J9 e2⟩ ih
  exact key ent
 have ln:(es.toList.map (·.key)).length<=sizeLine:=by rw[AB,AV,sz];exact z
 refine tR hu I1 hb ln (λk hk=>?_) (λQ' q'=>wA (Vu lo) (I1.ok.hd hc) raw (by rw[sz];exact z) λh' tk acc kp szz it=>?_) q
 ·obtain⟨t,ht,rfl⟩:=AN.mp hk
  exact hne t ht
 ·have e:acc.toList=es.toList.map (·.key):=by
   refine D8 λi=>?_
   rw[BE,Ag,BE]
   by_cases c:i<es.size
   ·have ci:i<acc.size:=by rw[it.1];exact c
    obtain⟨_,e⟩:=it.2 i acc[i] (AO ci)
    rw[AO ci,AO c,e]
    rfl
   ·rw[CU (by rw[it.1];lia),CU (by lia)]
    rfl
  rw[e]
  exact q' h' tk kp szz
end
end L2.Ev
namespace L2.Ev
open PySem
open L2.Pl
theorem HW{H:Hp}{p:yJ}(h:H p=none)(o:HO):Gp H (HV H p o):=λb u q=>by rw[Hw (Jd q h)];exact q
theorem Kw{n:Nat}(h:n<=100000):n<sizeLine:=A7 h (by decide)
theorem small{n:Nat}(h:n<=100000):n<=sizeLine:=Bf (Kw h)
theorem Q5{A:Around}{k:Nat}(hr:IN k A):A.units+8<cLine:=A7 (CP (by decide:8<=64) _) hr.units
noncomputable def Nm(scope:Scope)(N N':yB)(o:Option Nat)(i:Nat):Bool:=match o with
 |none=>true
 |some j=>match N'[i]? with
  |some x=>decide (N[j]?=some x)&&decide (scope.names.lookup x=some NameKind.free)
  |none=>false
noncomputable def SI(sc scope:Scope)(N N':yB)(src:List (Option Nat)):Bool :=
 decide (scope.kind=.function)&&scope.names.all (λy=>decide (y.2≠NameKind.cell))&&scope.names.all (λy=>!decide (y.2=NameKind.local)||decide (scope.names.lookup y.1=some NameKind.local)) &&
 scope.names.all (λy=>!decide (y.2=NameKind.free)||(decide (sc.names.lookup y.1=some NameKind.cell)||decide (sc.names.lookup y.1=some NameKind.free)))&&decide (src.length=N'.length) &&
 (List.range src.length).all λi=>Nm scope N N' (src.getD i none) i
theorem JJ{X:Cx}{N':yB}{src:List (Option Nat)}{scope:Scope}(sc:Scope)(N:yB)(h:SI sc scope N N' src=true)(e1:X.env.scope=sc:=by rfl)(e2:X.N=N:=by rfl):Jl X N' src scope:=by
 subst e1 e2
 unfold SI at h
 simp only[AI,AQ,AR,DT,Bool.not_eq_true',FY]at h
 obtain⟨⟨⟨⟨⟨h1,h2⟩,h3⟩,h4⟩,h5⟩,h6⟩:=h
 refine⟨h1,h2,λy hy e=>(h3 y hy).resolve_left λz=>z e,λy hy e=>(h4 y hy).resolve_left λz=>z e,h5,λi j e=>?_⟩
 obtain⟨hi,ei⟩:=AZ.mp e
 have q:=h6 i (Al.mpr hi)
 rw[Ad,e]at q
 unfold Nm at q
 simp only[E8]at q
 cases c:N'[i]? with
 |none=>rw[c]at q;cases q
 |some x =>
  rw[c]at q
  simp only[AI,AQ]at q
  exact⟨x,rfl,q.1,q.2⟩
theorem Gp.tseq{K:yG}{H H':Hp}{a:yJ}{xs:List V}(e:Gp H H')(h:HM K H a xs):HM K H' a xs:=by
 rcases h with(h|⟨o,h⟩)|h
 ·exact .inl (.inl (e _ _ h))
 ·exact .inl (.inr ⟨o,e _ _ h⟩)
 ·exact .inr h
theorem SK.same{K:yG}{H H':Hp}{a:yJ}{xs:List V}{k:SK}(e:Gp H H')(h:k.is K H a xs):k.is K H' a xs:=by
 cases k with
 |lst=>exact Gp.seq e h
 |tup=>exact Gp.tseq e h
theorem Km{α:Type}[Dat α]{K:yG}{a:yJ}{xs:List V}{σ0:St}{H1:Hp}{D:yJ}{R:Hp->Prop}{g:TG}{tc:TT}{te:TE}(hD:H1 D=none)(hl:HU K H1 a xs)(Sp:St->Prop)(out:Nat->Option α)(hn:xs.length<=sizeLine)(h0:Sp σ0)
  (IU:∀(i:Nat)(x:V)(σ':St)(H':Hp)(Yes:V->St->Hp->Prop)(No:St->Hp->Prop),xs[i]?=some x->Sp σ'->Gp H1 H'->(∀y σ2 H4 a,Sp σ2->Gp H' H4->out i=some a->Dat.is H4 y a->Yes y σ2 H4)->(∀σ2 H3,Sp σ2->Gp H' H3->out i=none->No σ2 H3) ->
   g x σ' H' λσ2 H2=>tc σ2 H2 λok H3=>if ok=true then te σ2 H3 λy H4=>Yes y σ2 H4 else No σ2 H3)
  (hend:∀H',Gp H1 H'->Gg H' D ((List.range xs.length).filterMap out)->R H') :
  ∃W:Nat->Nat->St->Hp->Prop,(∃m,W 0 m σ0 (HV H1 D (.lst [])))/\∀i m σ' H',W i m σ' H' ->
  ((Nv K a).stop i H'/\R H')∨((Nv K a).go i H'/\∃N:St->Hp->Prop,(∀σ'' H'',N σ'' H''->∃m',m'<m/\W (i+1) m' σ'' H'') /\
   ∀x H'',(Nv K a).yld i H' x H''->g x σ' H'' λσ2 H2=>tc σ2 H2 λok H3=>if ok=true then te σ2 H3 λy H4=>∃ys,H4 D=some (.lst ys)/\ys.length<sizeLine/\N σ2 (HV H4 D (.lst (ys++[y]))) else N σ2 H3):=by
 refine Q3 (Q:=λ_ H=>R H) (n:=xs.length) hD Sp out hn h0 (λH' e=>⟨xs,Gp.seq e hl,AH _⟩) (λi H' hi e=>⟨xs,xs[i],Gp.seq e hl,AL hi⟩) (λi σ' H' Yes No hi hS hH hy hn x H'' y=>?_) hend
 obtain⟨rfl,y⟩:=y
 exact IU i x σ' H'' Yes No (y xs (Gp.seq hH hl)) hS hH hy hn
theorem So{α:Type}[Dat α]{K:yG}{a:yJ}{xs:List V}{σ0:St}{H1:Hp}{D:yJ}{R:Hp->Prop}{g:TG}{tc:TT}{te:TE}(hD:H1 D=none)(hl:HM K H1 a xs)(Sp:St->Prop)(out:Nat->Option α)(hn:xs.length<=sizeLine)(h0:Sp σ0)
  (IU:∀(i:Nat)(x:V)(σ':St)(H':Hp)(Yes:V->St->Hp->Prop)(No:St->Hp->Prop),xs[i]?=some x->Sp σ'->Gp H1 H'->(∀y σ2 H4 a,Sp σ2->Gp H' H4->out i=some a->Dat.is H4 y a->Yes y σ2 H4)->(∀σ2 H3,Sp σ2->Gp H' H3->out i=none->No σ2 H3) ->
   g x σ' H' λσ2 H2=>tc σ2 H2 λok H3=>if ok=true then te σ2 H3 λy H4=>Yes y σ2 H4 else No σ2 H3)
  (hend:∀H',Gp H1 H'->Gg H' D ((List.range xs.length).filterMap out)->R H') :
  ∃W:Nat->Nat->St->Hp->Prop,(∃m,W 0 m σ0 (HV H1 D (.lst [])))/\∀i m σ' H',W i m σ' H' ->
  ((L3 K a).stop i H'/\R H')∨((L3 K a).go i H'/\∃N:St->Hp->Prop,(∀σ'' H'',N σ'' H''->∃m',m'<m/\W (i+1) m' σ'' H'') /\
   ∀x H'',(L3 K a).yld i H' x H''->g x σ' H'' λσ2 H2=>tc σ2 H2 λok H3=>if ok=true then te σ2 H3 λy H4=>∃ys,H4 D=some (.lst ys)/\ys.length<sizeLine/\N σ2 (HV H4 D (.lst (ys++[y]))) else N σ2 H3):=by
 refine Q3 (Q:=λ_ H=>R H) (n:=xs.length) hD Sp out hn h0 (λH' e=>⟨xs,Gp.tseq e hl,AH _⟩) (λi H' hi e=>⟨xs,xs[i],Gp.tseq e hl,AL hi⟩) (λi σ' H' Yes No hi hS hH hy hn x H'' y=>?_) hend
 obtain⟨rfl,y⟩:=y
 exact IU i x σ' H'' Yes No (y xs (Gp.tseq hH hl)) hS hH hy hn
theorem vM{α:Type}[Dat α]{lo:Int}{n:Nat}{σ0:St}{H1:Hp}{D:yJ}{R:Hp->Prop}{g:TG}{tc:TT}{te:TE}(hD:H1 D=none)(Sp:St->Prop)(out:Nat->Option α)(hn:n<=sizeLine)(h0:Sp σ0)
  (IU:∀(i:Nat)(σ':St)(H':Hp)(Yes:V->St->Hp->Prop)(No:St->Hp->Prop),i<n->Sp σ'->Gp H1 H'->(∀y σ2 H4 a,Sp σ2->Gp H' H4->out i=some a->Dat.is H4 y a->Yes y σ2 H4)->(∀σ2 H3,Sp σ2->Gp H' H3->out i=none->No σ2 H3) ->
   g (.int (lo+i)) σ' H' λσ2 H2=>tc σ2 H2 λok H3=>if ok=true then te σ2 H3 λy H4=>Yes y σ2 H4 else No σ2 H3)
  (hend:∀H',Gp H1 H'->Gg H' D ((List.range n).filterMap out)->R H') :
  ∃W:Nat->Nat->St->Hp->Prop,(∃m,W 0 m σ0 (HV H1 D (.lst [])))/\∀i m σ' H',W i m σ' H' ->
  ((Mp lo n).stop i H'/\R H')∨((Mp lo n).go i H'/\∃N:St->Hp->Prop,(∀σ'' H'',N σ'' H''->∃m',m'<m/\W (i+1) m' σ'' H'') /\
   ∀x H'',(Mp lo n).yld i H' x H''->g x σ' H'' λσ2 H2=>tc σ2 H2 λok H3=>if ok=true then te σ2 H3 λy H4=>∃ys,H4 D=some (.lst ys)/\ys.length<sizeLine/\N σ2 (HV H4 D (.lst (ys++[y]))) else N σ2 H3):=by
 refine Q3 (Q:=λ_ H=>R H) (n:=n) hD Sp out hn h0 (λH' e=>AH _) (λi H' hi e=>hi) (λi σ' H' Yes No hi hS hH hy hn x H'' y=>?_) hend
 obtain⟨rfl,rfl⟩:=y
 exact IU i σ' H'' Yes No hi hS hH hy hn
theorem Vf{α:Type}[Dat α]{K:yG}{k1 k2:SK}{a b:yJ}{xs ys:List V}{σ0:St}{H1:Hp}{D:yJ}{R:Hp->Prop}{g:TG}{tc:TT}{te:TE}(hD:H1 D=none)(hl:k1.is K H1 a xs)(hl2:k2.is K H1 b ys)(Sp:St->Prop)(out:Nat->Option α)(hn:min xs.length ys.length<=sizeLine)(h0:Sp σ0)
  (IU:∀(i:Nat)(x y:V)(p:yJ)(σ':St)(H':Hp)(Yes:V->St->Hp->Prop)(No:St->Hp->Prop),xs[i]?=some x->ys[i]?=some y->H' p=none->Sp σ'->Gp H1 H'->(∀y σ2 H4 a,Sp σ2->Gp H' H4->out i=some a->Dat.is H4 y a->Yes y σ2 H4)->(∀σ2 H3,Sp σ2->Gp H' H3->out i=none->No σ2 H3) ->
   g (.ref p) σ' (HV H' p (.tup [x,y])) λσ2 H2=>tc σ2 H2 λok H3=>if ok=true then te σ2 H3 λy H4=>Yes y σ2 H4 else No σ2 H3)
  (hend:∀H',Gp H1 H'->Gg H' D ((List.range (min xs.length ys.length)).filterMap out)->R H') :
  ∃W:Nat->Nat->St->Hp->Prop,(∃m,W 0 m σ0 (HV H1 D (.lst [])))/\∀i m σ' H',W i m σ' H' ->
  ((Ta K k1 k2 a b).stop i H'/\R H')∨((Ta K k1 k2 a b).go i H'/\∃N:St->Hp->Prop,(∀σ'' H'',N σ'' H''->∃m',m'<m/\W (i+1) m' σ'' H'') /\
   ∀x H'',(Ta K k1 k2 a b).yld i H' x H''->g x σ' H'' λσ2 H2=>tc σ2 H2 λok H3=>if ok=true then te σ2 H3 λy H4=>∃ys,H4 D=some (.lst ys)/\ys.length<sizeLine/\N σ2 (HV H4 D (.lst (ys++[y]))) else N σ2 H3):=by
 refine Q3 (Q:=λ_ H=>R H) (n:=min xs.length ys.length) hD Sp out hn h0 (λH' e=>⟨xs,ys,SK.same e hl,SK.same e hl2,by lia⟩) (λi H' hi e=>⟨xs,ys,xs[i],ys[i],SK.same e hl,SK.same e hl2,AL (by lia),AL (by lia)⟩) (λi σ' H' Yes No hi hS hH hy hn x H'' y=>?_) hend
 obtain⟨p,x,y,rfl,hp,rfl,hx,hy2⟩:=y
 exact IU i x y p σ' H' Yes No (hx xs (SK.same hH hl)) (hy2 ys (SK.same hH hl2)) hp hS hH hy hn
theorem Js{α β:Type}(f:α->Option β)(l:List α):(List.range l.length).filterMap (λi=>(l[i]?).bind f)=l.filterMap f:=by
 induction l with
 |nil=>rfl
 |cons x l ih =>
  rw[Am,CT,Bj,List.filterMap_map,Bj]
  have e:((λi=>((x::l)[i]?).bind f) ∘ Nat.succ)=λi=>(l[i]?).bind f:=by funext i;simp
  rw[e,ih]
  simp
theorem Wc{α β:Type}(c:α->Prop)[DecidablePred c](g:α->β)(l:List α):l.filterMap (λk=>if c k then some (g k) else none)=(l.filter λk=>decide (c k)).map g:=by
 induction l with
 |nil=>rfl
 |cons x l ih =>
  rw[Bj,BO]
  by_cases h:c x
  ·rw[AF h,AF (Ac h),Ai,ih]
  ·rw[AD h,AD (by simpa using h),ih]
theorem Io{α:Type}[D:Dat α]{H:Hp}{vs:List V}{l:List α}(h:Hr H vs l){i:Nat}{x:V}(e:vs[i]?=some x):∃a,l[i]?=some a/\D.is H x a:=Paired.get h e
theorem JW{α:Type}{l:List α}{i:Nat}{x:α}(e:l[i]?=some x):l.take (i+1)=l.take i++[x]:=by
 obtain⟨h,rfl⟩:=AZ.mp e
 rw[List.take_succ_eq_append_getElem h]
theorem KF{H:Hp}{x:V}{t:Go}(h:Dat.is H x t):∃p q,x=.ref p/\H p=some (.tup [.ref q,.int t.2])/\H q=some (.tup (t.1.map V.int)):=by
 obtain⟨p,a,b,rfl,hp,ha,hb⟩:=h
 obtain⟨q,rfl,hq⟩:=JI ha
 have hb':b=.int t.2:=hb
 subst hb'
 exact⟨p,q,rfl,hp,hq⟩
theorem Jg{H:Hp}{p q:yJ}{t:Go}(hp:H p=some (.tup [.ref q,.int t.2]))(hq:H q=some (.tup (t.1.map V.int))):Dat.is H (.ref p) t:=⟨p,_,_,rfl,hp,J9 hq,rfl⟩
theorem Z1{H:Hp}{p:yJ}(h:H p=none)(o:HO):Hb H (HV H p o):=Hb.same (HW h o)
theorem LS{σ:St}{H:Hp}{A B:Hp->Prop}(h:A H):Og σ H (λok H3=>if ok=true then A H3 else B H3):=KC (A:=A H) (B:=B H) h
theorem L5{i:Nat}{v:V}{σ:St}{H:Hp}{A B:St->Hp->Prop}(h:A (σ.set i (some v)) H):J4 i v σ H (λσ2 H2=>Og σ2 H2 λok H3=>if ok=true then A σ2 H3 else B σ2 H3):=KC (A:=A (σ.set i (some v)) H) (B:=B (σ.set i (some v)) H) h
end L2.Ev
namespace L2.Ev
open PySem PySem.Spec PyProof.Rows
open L2.Pl
section
variable{X:Cx}
noncomputable def fR(i j:Int):Prop:=i.natAbs<2^100000/\j.natAbs<2^100000
theorem UI{x:Int}(h:x.natAbs<2^100000):Builtin.Int.intBits x<=2^20:=by
 unfold Builtin.Int.intBits
 split
 ·exact Az _
 ·rename_i c
  have hx:x.natAbs≠0:=by
   intro z
   exact c (by simpa using Int.natAbs_eq_zero.mp z)
  have:=(Nat.log2_lt hx).mpr h
  have e:(2:Nat)^20=1048576:=by decide
  lia
theorem Nh:Iq X (binaryOp .Mult) (rI fR λi j=>.int (i*j)):=RZ λ_ _ _ _ _ _ _ hc q=>mul_int q (.of_bits (UI hc.1) (UI hc.2))
noncomputable def QM(K:yG):R2:=λx y H Q=>∃a b xs ys,x=.ref a/\y=.ref b/\HM K H a xs/\HM K H b ys/\xs.length+ys.length<=sizeLine /\
 (xs=[]->Q (.ref b) H)/\(xs≠[]->ys=[]->Q (.ref a) H)/\(xs≠[]->ys≠[]->∀p,H p=none->Q (.ref p) (HV H p (.tup (xs++ys))))
theorem La:Iq X (binaryOp .Add) (QM X.K):=by
 intro Fq s σ H x y v u Q I rx ry h
 obtain⟨a,b,xs,ys,rfl,rfl,ha,hb,hz,q0,q1,q2⟩:=h
 by_cases hx:xs=[]
 ·cases rx
  cases ry
  obtain⟨its,r1,p1,_⟩:=I.tuple ha
  obtain⟨its2,r2,p2,_⟩:=I.tuple hb
  obtain⟨⟨cls,dd,data,sl⟩,ho,hc,n,hd⟩:=id p1
  obtain⟨⟨cls2,dd2,data2,sl2⟩,ho2,hc2,n2,hd2⟩:=id p2
  simp only at hc hd hc2 hd2
  subst hc hd hc2 hd2
  have e0:its=[]:=r1.nil_iff.mpr hx
  exact HK ⟨_,ho,rfl⟩ ⟨_,ho2,rfl⟩ FJ Gx D9 D5 (Dt _ _)
   (tuple_addW0 a b its.toArray its2.toArray n n2 dd dd2 sl sl2 (by rw[e0];rfl)) ⟨ho,ho2,⟨.ref b,H,I,rfl,q0 hx⟩⟩
 ·exact ON Fq s σ H (.ref a) (.ref b) v u Q I rx ry ⟨a,b,xs,ys,rfl,rfl,ha,hb,hx,hz,q1 hx,q2 hx⟩
theorem Lq{K:yG}{H:Hp}{a b:yJ}{r r':xX}{Q:VK}(ha:H a=some (.tup (r.map V.int)))(hb:H b=some (.tup (r'.map V.int)))(hz:r.length+r'.length<=sizeLine)
  (q:∀p H',Gp H H'->H' p=some (.tup ((r++r').map V.int))->Q (.ref p) H'):QM K (.ref a) (.ref b) H Q:=by
 refine⟨a,b,_,_,rfl,rfl,HM.of ha,HM.of hb,by simpa using hz,λe=>?_,λ_ e=>?_,λ_ _ p hp=>?_⟩
 ·have e':r=[]:=by simpa using e
  refine q b H (Gp.refl _) ?_
  rw[e',Fb]
  exact hb
 ·have e':r'=[]:=by simpa using e
  refine q a H (Gp.refl _) ?_
  rw[e',BV]
  exact ha
 ·refine q p _ (HW hp _) ?_
  rw[Ar]
  exact HR
theorem cO{l:yJ}{vs:xY}{ns:xX}{s:yH}{prog:yL}{w:yM}{A:Around}{E:xZ}{Q:xZ}(hh:A.handled=none)(hl:s.heap.IsList l vs.toArray)(hi:IntsAre vs ns)
  (h:∀h' tk t',(∀b o,s.heap.get? b=some o->h'.get? b=some o)->Q (.int ns.sum t') { s with heap:=h',toks:=tk }) :
  wpAny (model prog w) A (call (.builtin "sum") [.ref l]) Q E s:=by
 obtain⟨xs,hx⟩:=hi.allInts.items
 have hn:numsOf vs.toArray.toList=ns:=by rw[show vs.toArray.toList=vs from rfl,hi.numsOf]
 rw[hx]at hl hn
 rw[EG]at hn
 obtain⟨o,ho,hc,n,hd⟩:=id hl
 have hne:l≠s.heap.objs.size:=Au (AU ho)
 have hsz:(intItems xs).size=xs.size:=by simp [intItems]
 have W:=(Ex (prog:=prog) (w:=w) (A:=A.in1) hh s.heap.objs.size l hne (intItems xs)).toS
 rw[hsz]at W
 refine call_sum_walkAnyS (By hl ?_)
 refine⟨s.heap.objs.size,_,_,_,_,_,_,numAt xs,rfl,W,⟨⟨_,AW _ rfl,rfl,rfl⟩,hl.at λo e=>AC _ e⟩,λb hb=>?_,λi v hP=>Dj hP,λs' t' hm=>?_⟩
 ·rcases AY.mp hb with rfl|hb
  ·exact AU (AW _ rfl)
  ·obtain rfl:=AS.mp hb
   exact AU (AC _ ho)
 ·obtain⟨h',g',d',tk',os'⟩:=s'
  have e1:g'=s.gens:=hm.gens
  have e2:d'=s.drawn:=hm.drawn
  have e3:os'=s.os:=hm.os
  subst e1 e2 e3
  have q:=h h' tk' t' λb o e=>hm.heap b o (λhb=>absurd (AU e) ((AS.mp hb)▸Bz _)) (AC _ e)
  rw[preSum_eq,Ab (by simp),hn]
  exact q
theorem N6{H:Hp}{vs:List V}{ns:xX}(i:Hr H vs ns):vs=ns.map V.int:=by
 induction i with
 |nil=>rfl
 |cons r t ih=>rw[Ai,<-ih];exact congrArg (· :: _) r
theorem mO(hc:X.calm=true):IF X (.builtin "sum") (λxs H Q=>∃(p:yJ)(ns:xX),xs=[.ref p]/\HU X.K H p (ns.map V.int)/\Q (.int ns.sum) H):=by
 intro Fq s σ H xs us Q I r h
 obtain⟨p,ns,rfl,hq,q⟩:=h
 obtain⟨u,rfl,ru⟩:=KN r
 cases ru
 obtain⟨its,rv,ht,_⟩:=I.list hq
 exact cO (I.ok.hd hc) ht.isList (J3 rv) λh' tk t' hk=>⟨.int ns.sum,H,I.kept (t':=tk) hk,⟨t',rfl⟩,q⟩
theorem R8{bs:List Bool}{its:xY}(r:HS (bs.map V.bl) its){i:Nat}{v:yI}(h:its.toArray[i]?=some v):∃b,bs[i]?=some b/\v=.bool b:=by
 have h':its[i]?=some v:=by simpa using h
 have hi:i<its.length:=(AZ.mp h').1
 have hb:i<bs.length:=by have:=r.length;rw[AB]at this;lia
 have e:(bs.map V.bl)[i]?=some (V.bl bs[i]):=by rw[Ag,AL hb];rfl
 obtain⟨u,e1,r1⟩:=r.get e
 rw[h']at e1
 cases e1
 exact⟨bs[i],AL hb,r1⟩
theorem lI{bs:List Bool}(n:Nat)(hn:n=bs.length):(List.range n).all (λi=>bs.getD i false)=bs.all id:=by
 subst hn
 induction bs with
 |nil=>rfl
 |cons b bs ih =>
  rw[Am,CT,DB,Du,DB]
  have e:((λi=>(b::bs).getD i false) ∘ Nat.succ)=λi=>bs.getD i false:=by funext i;simp
  rw[e,ih]
  rfl
theorem rG{bs:List Bool}(n:Nat)(hn:n=bs.length):(List.range n).any (λi=>bs.getD i false)=bs.any id:=by
 subst hn
 induction bs with
 |nil=>rfl
 |cons b bs ih =>
  rw[Am,CT,CM,HF,CM]
  have e:((λi=>(b::bs).getD i false) ∘ Nat.succ)=λi=>bs.getD i false:=by funext i;simp
  rw[e,ih]
  rfl
theorem uA{Fq:yA}{σ:St}{H:Hp}{s:yH}{o:Obj}{s':yH}(I:Inv X Fq σ H s)(hm:Moved [s.heap.objs.size] (λa b=>b=a) { s with heap:=s.heap.push o } s'):Inv X Fq σ H s':=by
 obtain⟨h',g',d',tk',os'⟩:=s'
 have e1:g'=s.gens:=hm.gens
 have e2:d'=s.drawn:=hm.drawn
 have e3:os'=s.os:=hm.os
 subst e1 e2 e3
 exact I.kept (t':=tk') λb o e=>hm.heap b o (λhb=>absurd (AU e) ((AS.mp hb)▸Bz _)) (AC _ e)
theorem xT(hc:X.calm=true):IF X (.builtin "all") (λxs H Q=>∃(p:yJ)(bs:List Bool),xs=[.ref p]/\HU X.K H p (bs.map V.bl)/\Q (.bl (bs.all id)) H):=by
 intro Fq s σ H xs us Q I r h
 obtain⟨p,bs,rfl,hq,q⟩:=h
 obtain⟨u,rfl,ru⟩:=KN r
 cases ru
 obtain⟨its,rv,ht,_⟩:=I.list hq
 have hl:=ht.isList
 obtain⟨o,ho,_⟩:=id hl
 have W:=(Ex (prog:=X.prog) (w:=X.w) (A:=X.A.in1) (I.ok.hd hc) s.heap.objs.size p (Au (AU ho)) its.toArray).toS
 refine call_all_walkS (By hl ⟨s.heap.objs.size,_,_,_,_,_,_,λi=>bs.getD i false,rfl,W,⟨⟨_,AW _ rfl,rfl,rfl⟩,hl.at λo e=>AC _ e⟩,λi v s2 Q2 E2 hP q2=>?_,λs' hm=>?_⟩)
 ·obtain⟨b,hb,rfl⟩:=R8 rv hP
  refine CD ?_
  have e:bs.getD i false=b:=by rw[Ad,hb];rfl
  have q2:Q2 (bs.getD i false) s2:=q2
  rw[e]at q2
  exact q2
 ·refine⟨.bl (bs.all id),H,uA I hm,?_,q⟩
  have e:=lI (bs:=bs) its.toArray.size (by have:=rv.length;simp at this ⊢;lia)
  rw[e]
  rfl
theorem TX(hc:X.calm=true):IF X (.builtin "any") (λxs H Q=>∃(p:yJ)(bs:List Bool),xs=[.ref p]/\HU X.K H p (bs.map V.bl)/\Q (.bl (bs.any id)) H):=by
 intro Fq s σ H xs us Q I r h
 obtain⟨p,bs,rfl,hq,q⟩:=h
 obtain⟨u,rfl,ru⟩:=KN r
 cases ru
 obtain⟨its,rv,ht,_⟩:=I.list hq
 have hl:=ht.isList
 obtain⟨o,ho,_⟩:=id hl
 have W:=(Ex (prog:=X.prog) (w:=X.w) (A:=X.A.in1) (I.ok.hd hc) s.heap.objs.size p (Au (AU ho)) its.toArray).toS
 refine call_any_walkS (By hl ⟨s.heap.objs.size,_,_,_,_,_,_,λi=>bs.getD i false,rfl,W,⟨⟨_,AW _ rfl,rfl,rfl⟩,hl.at λo e=>AC _ e⟩,λi v s2 Q2 E2 hP q2=>?_,λs' hm=>?_⟩)
 ·obtain⟨b,hb,rfl⟩:=R8 rv hP
  refine CD ?_
  have e:bs.getD i false=b:=by rw[Ad,hb];rfl
  have q2:Q2 (bs.getD i false) s2:=q2
  rw[e]at q2
  exact q2
 ·refine⟨.bl (bs.any id),H,uA I hm,?_,q⟩
  have e:=rG (bs:=bs) its.toArray.size (by have:=rv.length;simp at this ⊢;lia)
  rw[e]
  rfl
instance WN:Dat Bool where
 is:=λ_ v b=>v=.bl b
 mono:=λ_ h=>h
 inj:=λh h'=>by rw[h]at h';cases h';rfl
 dep:=0
 eqb:=λa b=>a==b
 eqb_iff:=λa b=>by simp
 eqAt:=λ{X Fq σ H s A v v' u u' a b} I hu h h' r r'=>by
  subst h h'
  cases r
  cases r'
  exact SeqAt.EqAt.bool_bool _ _
theorem UU{H:Hp}{vs:List V}{bs:List Bool}(i:Hr H vs bs):vs=bs.map V.bl:=by
 induction i with
 |nil=>rfl
 |cons r t ih=>rw[Ai,<-ih];exact congrArg (· :: _) r
theorem jB{α:Type}[D:Dat α]{Fq:yA}{σ:St}{H:Hp}{s:yH}{A:Around}{a b:yJ}{l m:List α}(I:Inv X Fq σ H s)(hu:A.units+(D.dep+1)<cLine)(ha:Dat.is H (.ref a) l)(hb:Dat.is H (.ref b) m) :
  SeqAt.RcAt A s (.ref a) (.ref b) (Jo D.eqb l m)/\SeqAt.RcNeAt A s (.ref a) (.ref b) (!Jo D.eqb l m):=by
 obtain⟨p,vs,e,h,i⟩:=ha
 cases e
 obtain⟨p',vs',e',h',i'⟩:=hb
 cases e'
 obtain⟨its,rv,ht,_⟩:=I.tuple (HM.of h)
 obtain⟨its',rv',ht',_⟩:=I.tuple (HM.of h')
 have hl:its.toArray.size=l.length:=by have:=rv.length;have:=AM i;simp;lia
 have hm:its'.toArray.size=m.length:=by have:=rv'.length;have:=AM i';simp;lia
 have q:=Es (A:=A) (s:=s) (e:=LL D.eqb l m) (show s.heap.IsTuple a its.toArray from ht) (show s.heap.IsTuple b its'.toArray from ht') (by lia) (Te I (A:=A.in1) (by show A.units+1+D.dep<cLine;lia) i i' rv rv')
 have q2:=SeqAt.RcNeAt.tuples (A:=A) (s:=s) (e:=LL D.eqb l m) (show s.heap.IsTuple a its.toArray from ht) (show s.heap.IsTuple b its'.toArray from ht') (by lia) (Te I (A:=A.in1) (by show A.units+1+D.dep<cLine;lia) i i' rv rv')
 rw[hl,hm,UD]at q q2
 exact⟨q,q2⟩
noncomputable def sW(α:Type)[Dat α]:R2:=λx y H Q=>∃(l m:List α),Dat.is H x l/\Dat.is H y m/\Q (.bl (Jo (Dat.eqb (α:=α)) l m)) H
theorem Vd{α:Type}[D:Dat α](hu:X.A.units+(D.dep+1)<cLine):Iq X (compareOp .Eq) (sW α):=by
 intro Fq s σ H x y v u Q I rx ry h
 obtain⟨l,m,ha,hb,q⟩:=h
 obtain⟨p,_,rfl,_⟩:=id ha
 obtain⟨p',_,rfl,_⟩:=id hb
 cases rx
 cases ry
 exact(jB I hu ha hb).1 X.prog X.w X.xe _ ⟨.bl _,H,I,rfl,q⟩
end
end L2.Ev
namespace L2.Pl
noncomputable def L0(ps pt:xX):Int:=(ps.zip pt).foldl (λv x=>v*x.2^x.1.toNat) 1
theorem Xc{a b:Int}{x y:Nat}(ha:a.natAbs<2^x)(hb:b.natAbs<2^y):(a*b).natAbs<2^(x+y):=by
 rw[CA,EB]
 exact Nat.mul_lt_mul_of_lt_of_lt ha hb
theorem JS{a:Int}{x y:Nat}(h:a.natAbs<2^x)(hxy:x<=y):a.natAbs<2^y:=Ax h (Cg (by decide) hxy)
noncomputable def swp(p:xX)(k:Nat):xX:=p.take k++[p.getD (k+1) 0,p.getD k 0]++p.drop (k+2)
noncomputable def exch(ts:List Go)(k:Nat):List Go:=norm (ts.map λt=>(swp t.1 k,t.2))
theorem Uk{p:xX}{k:Nat}(h:k+1<p.length):(swp p k).length=p.length:=by
 unfold swp
 simp
 lia
theorem fF{p:xX}{k:Nat}(h:k+1<p.length){x:Int}(hx:x∈swp p k):x∈p:=by
 unfold swp at hx
 rcases Ao.mp hx with hx|hx
 ·rcases Ao.mp hx with hx|hx
  ·exact BJ hx
  ·have e1:p.getD (k+1) 0=p[k+1]:=by simp [h]
   have e2:p.getD k 0=p[k]:=by simp [show k<p.length by lia]
   rw[e1,e2]at hx
   rcases AY.mp hx with rfl|hx
   ·exact Cm _
   ·rw[AS.mp hx];exact Cm _
 ·exact Gk hx
structure IC(n b:Nat)(ts:List Go):Prop where
 len:∀t∈ts,t.1.length=n
 pow:∀t∈ts,∀x∈t.1,0<=x/\x<=8
 num:∀t∈ts,t.2.natAbs<2^b
theorem IC.ne{n b:Nat}{ts:List Go}(h:IC (n+1) b ts):∀t∈ts,t.1≠[]:=λt ht e=>by
 have:=h.len t ht
 rw[e]at this
 simp at this
theorem IC.mono{n b c:Nat}{ts:List Go}(h:IC n b ts)(hbc:b<=c):IC n c ts:=⟨h.len,h.pow,λt ht=>JS (h.num t ht) hbc⟩
theorem Tt{b:Nat}(p:Pw):∀{ts:List Go},(∀t∈ts,t.2.natAbs<2^b)->(cf ts p).natAbs<=ts.length*2^b
 |[],_=>by simp [cf]
 |t::r,h=>by
  have ih:=Tt p (ts:=r) λx hx=>h x (AE _ hx)
  have h1:=h t (AG ..)
  simp only[cf]
  have h2:=Int.natAbs_add_le (if t.1=p then t.2 else 0) (cf r p)
  have h3:(if t.1=p then t.2 else (0:Int)).natAbs<=2^b:=by
   split
   ·lia
   ·simp
  rw[Am,Cz]
  lia
theorem Ql{l:List Go}(c:HZ l){t:Go}(ht:t∈l):cf l t.1=t.2:=by
 induction l with
 |nil=>cases ht
 |cons u l ih =>
  rcases AY.mp ht with e|ht
  ·subst e;exact c.head
  ·have o:=(Av.mp c.ord).1 t ht
   simp only[cf]
   rw[AD (λe=>by rw[e,Ji]at o;cases o),ih c.tail ht]
   lia
theorem IC.norm{n b k:Nat}{ts:List Go}(h:IC n b ts)(hk:ts.length<2^k):IC n (b+k) (norm ts):=by
 refine⟨λt ht=>?_,λt ht=>?_,λt ht=>?_⟩
 ·obtain⟨u,hu,e⟩:=J7 ht
  rw[<-e];exact h.len u hu
 ·obtain⟨u,hu,e⟩:=J7 ht
  rw[<-e];exact h.pow u hu
 ·have e:=Ql (JV ts) ht
  rw[J6]at e
  rw[<-e]
  refine A7 (Tt t.1 h.num) ?_
  rw[EB,C0]
  exact De hk (HQ (by decide))
theorem IC.swp{n b k:Nat}{ts:List Go}(h:IC n b ts)(hk:k+1<n):IC n b (ts.map λt=>(swp t.1 k,t.2)):=by
 refine⟨λt ht=>?_,λt ht=>?_,λt ht=>?_⟩<;>obtain⟨u,hu,rfl⟩:=AN.mp ht
 ·show(Pl.swp u.1 k).length=n
  rw[Uk (by rw[h.len u hu];exact hk),h.len u hu]
 ·intro x hx
  exact h.pow u hu x (fF (by rw[h.len u hu];exact hk) hx)
 ·exact h.num u hu
noncomputable def xE(c k m:Int):Int:=(c%2147483647*48271+69621*k*k+7*k)%2147483629*((c%2147483647*48271+69621*k*k+7*k)%2147483629)%2147483587%m
theorem OR{x:Int}:∀{l:xX},(∀y∈l,0<=y)->x∈l->x<=l.sum/\0<=l.sum
 |[],_,h=>by cases h
 |y::l,hl,h=>by
  have hl':∀z∈l,0<=z:=λz hz=>hl z (AE _ hz)
  have hy:=hl y (AG ..)
  have s0:0<=l.sum:=by
   have key:∀m:xX,(∀z∈m,0<=z)->0<=m.sum:=by
    intro m
    induction m with
    |nil=>intro _;simp
    |cons a m ih =>
     intro hm
     have:=hm a (AG ..)
     have:=ih λz hz=>hm z (AE _ hz)
     rw[BF];lia
   exact key l hl'
  rw[BF]
  rcases AY.mp h with rfl|h
  ·lia
  ·have:=(OR hl' h).1
   lia
noncomputable def O6(ns:xX)(k:Nat):Int:=if k<ns.length then ns.getD k 0%2147483647 else 0
end L2.Pl
namespace L2.Ev
open PySem
open L2.Pl
theorem JF{c A B:Prop}[Decidable c](h:¬ c)(b:B):if decide c=true then A else B:=by
 rw[Aa h]
 exact JD b
theorem Jf{c A B:Prop}[Decidable c](h:c)(a:A):if decide c=true then A else B:=by
 rw[Ac h]
 exact KC a
theorem Pd{c A B:Prop}[Decidable c](h:c)(b:B):if (!decide c)=true then A else B:=by
 rw[Ac h]
 exact JD b
theorem dG{c A B:Prop}[Decidable c](h:¬ c)(a:A):if (!decide c)=true then A else B:=by
 rw[Aa h]
 exact KC a
theorem Rh(K:yG)(T:String):W.kitOne K (.type T) (.type T)=some true:=AF (CY _)
theorem Yn(K:yG):W.kitOne K (.type "int") (.type "bool")=some false:=by
 show(if (Value.type "int" == Value.type "bool")=true then some true else (if W.kitMeta "bool" = true then (fastBuiltinMro "int").map (·.contains (.type "bool")) else none))=some false
 decide +kernel
theorem Xn{n:Nat}(h:1<=n):Mv n (-1)=some (n-1):=by
 unfold Mv
 rw[AD (by decide),AF (by lia)]
 congr 1
 lia
end L2.Ev
namespace L2.Pl
noncomputable def sm(f:Pw->Int):List Go->Int
 |[]=>0
 |t::r=>t.2*f t.1+sm f r
theorem Kj(f:Pw->Int):∀a b:List Go,sm f (a++b)=sm f a+sm f b
 |[],b=>by simp [sm]
 |t::a,b=>by simp only[List.cons_append,sm];rw[Kj f a b];lia
theorem Vt(f:Pw->Int)(t:Go):∀l:List Go,sm f (ins t l)=t.2*f t.1+sm f l
 |[]=>by
  unfold ins
  split
  ·rename_i h
   simp [sm,h]
  ·simp [sm]
 |u::l=>by
  unfold ins
  split
  ·rename_i h
   split
   ·rename_i h2
    simp only[sm]
    rw[<-Int.add_assoc,h,<-Fm,HG t.2,h2]
    simp
   ·simp only[sm]
    rw[h,Fm]
    lia
  ·split
   ·split
    ·rename_i h
     simp only[sm];rw[h];lia
    ·simp only[sm]
   ·simp only[sm];rw[Vt f t l];lia
theorem Je(f:Pw->Int):∀ts:List Go,sm f (norm ts)=sm f ts
 |[]=>rfl
 |t::r=>by
  show sm f (ins t (norm r))=_
  rw[Vt,Je f r]
  rfl
theorem JA(p:Pw):∀ts:List Go,cf ts p=sm (λq=>if q=p then 1 else 0) ts
 |[]=>rfl
 |t::r=>by
  simp only[cf,sm]
  rw[JA p r]
  split<;>simp
theorem Mi{a b:List Go}(h:∀f,sm f a=sm f b):norm a=norm b:=wB λp=>by rw[JA,JA,h]
theorem Jb{f g:Pw->Int}:∀{ts:List Go},(∀t∈ts,f t.1=g t.1)->sm f ts=sm g ts
 |[],_=>rfl
 |t::r,h=>by
  simp only[sm]
  rw[h t (AG ..),Jb λx hx=>h x (AE _ hx)]
theorem Uc(f g:Pw->Int):∀ts:List Go,sm (λp=>f p+g p) ts=sm f ts+sm g ts
 |[]=>rfl
 |t::r=>by simp only[sm];rw[Uc f g r,DF];lia
theorem O5(f:Pw->Int)(c:Int):∀ts:List Go,sm (λp=>f p*c) ts=sm f ts*c
 |[]=>by simp [sm]
 |t::r=>by simp only[sm];rw[O5 f c r,Fm,A4]
theorem cC(f:Pw->Int)(c:Int)(ts:List Go):sm (λp=>c*f p) ts=c*sm f ts:=by
 rw[Bh,<-O5]
 exact Jb λt _=>Bh _ _
noncomputable def IQ(p q:Pw):Pw:=List.zipWith (· + ·) p q
noncomputable def prd(a b:List Go):List Go:=a.flatMap λt=>b.map λu=>(IQ t.1 u.1,t.2*u.2)
noncomputable def ngt(a:List Go):List Go:=a.map λt=>(t.1,-t.2)
noncomputable def KZ(a:List Go)(k:Nat):List Go:=a.map λt=>(swp t.1 k,t.2)
theorem NV(f:Pw->Int):∀a:List Go,sm f (ngt a)=- sm f a
 |[]=>rfl
 |t::r=>by
  have:=NV f r
  unfold ngt at this ⊢
  rw[Ai]
  simp only[sm]
  rw[this,Int.neg_mul]
  lia
theorem Ll(f:Pw->Int)(k:Nat):∀a:List Go,sm f (KZ a k)=sm (λp=>f (swp p k)) a
 |[]=>rfl
 |t::r=>by
  have:=Ll f k r
  unfold KZ at this ⊢
  rw[Ai]
  simp only[sm]
  rw[this]
theorem VS(f:Pw->Int)(t:Go):∀b:List Go,sm f (b.map λu=>(IQ t.1 u.1,t.2*u.2))=t.2*sm (λq=>f (IQ t.1 q)) b
 |[]=>by simp [sm]
 |u::r=>by
  rw[Ai]
  simp only[sm]
  rw[VS f t r,DF,A4]
theorem Jn(f:Pw->Int)(b:List Go):∀a:List Go,sm f (prd a b)=sm (λp=>sm (λq=>f (IQ p q)) b) a
 |[]=>rfl
 |t::r=>by
  have:=Jn f b r
  unfold prd at this ⊢
  rw[BD,Kj,this,VS]
  rfl
theorem UG:∀p q r:Pw,IQ (IQ p q) r=IQ p (IQ q r)
 |[],q,r=>by simp [IQ]
 |_::_,[],r=>by simp [IQ]
 |_::_,_::_,[]=>by simp [IQ]
 |x::p,y::q,z::r=>by
  have:=UG p q r
  unfold IQ at this ⊢
  simp only[CV]
  rw[this,Int.add_assoc]
theorem XX{p q:Pw}{n:Nat}(h:p.length=n)(g:q.length=n):(IQ p q).length=n:=by
 unfold IQ
 rw[List.length_zipWith,h,g,E5]
theorem QC:∀{p q:Pw},p.length=q.length->(IQ p q).sum=p.sum+q.sum
 |[],[],_=>rfl
 |x::p,y::q,h=>by
  have:=QC (p:=p) (q:=q) (by simpa using h)
  unfold IQ at this ⊢
  simp only[CV,BF]
  rw[this];lia
theorem S0:∀{p q:Pw},(∀x∈p,0<=x)->(∀x∈q,0<=x)->∀x∈IQ p q,0<=x
 |[],_,_,_,x,hx=>by simp [IQ]at hx
 |_::_,[],_,_,x,hx=>by simp [IQ]at hx
 |a::p,b::q,hp,hq,x,hx=>by
  unfold IQ at hx
  rw[CV]at hx
  rcases AY.mp hx with rfl|hx
  ·have:=hp a (AG ..)
   have:=hq b (AG ..)
   lia
  ·exact S0 (λy hy=>hp y (AE _ hy)) (λy hy=>hq y (AE _ hy)) x hx
theorem Zh(l:List (Int×Int)):∀v:Int,l.foldl (λv x=>v*x.2^x.1.toNat) v=v*l.foldl (λv x=>v*x.2^x.1.toNat) 1:=by
 induction l with
 |nil=>intro v;simp
 |cons x l ih =>
  intro v
  rw[B5,B5,ih,ih (1*_),Dh,A4]
theorem Qu(x y:Int)(p pt:xX):L0 (x::p) (y::pt)=y^x.toNat*L0 p pt:=by
 unfold L0
 rw[Cy,B5,Zh,Dh]
theorem Nt(x y:Int)(p:xX):swp (x::y::p) 0=y::x::p:=by simp [swp]
theorem OG(x:Int)(p:xX)(k:Nat):swp (x::p) (k+1)=x::swp p k:=by simp [swp]
theorem oY:∀{k:Nat}{p pt:xX},k+1<p.length->p.length=pt.length->L0 (swp p k) pt=L0 p (swp pt k)
 |0,x::y::p,a::b::pt,_,_=>by
  rw[Nt,Nt,Qu,Qu,Qu,Qu,Int.mul_left_comm]
 |k+1,x::p,a::pt,h1,h2=>by
  rw[OG,OG,Qu,Qu,oY (by simpa using h1) (by simpa using h2)]
theorem Px:∀{k:Nat}{p:xX},k+1<p.length->swp (swp p k) k=p
 |0,x::y::p,_=>by rw[Nt,Nt]
 |k+1,x::p,h=>by rw[OG,OG,Px (by simpa using h)]
theorem S4:∀{k:Nat}{p q:xX},k+1<p.length->p.length=q.length->swp (IQ p q) k=IQ (swp p k) (swp q k)
 |0,x::y::p,a::b::q,_,_=>by
  rw[Nt,Nt]
  show swp ((x+a)::(y+b)::IQ p q) 0=(y+b)::(x+a)::IQ p q
  rw[Nt]
 |k+1,x::p,a::q,h1,h2=>by
  rw[OG,OG]
  show swp ((x+a)::IQ p q) (k+1)=(x+a)::IQ (swp p k) (swp q k)
  rw[OG,S4 (by simpa using h1) (by simpa using h2)]
theorem Y4{a b:List Go}{n k:Nat}(ha:∀t∈a,t.1.length=n)(hb:∀t∈b,t.1.length=n)(hk:k+1<n):norm (KZ (norm (prd a b)) k)=norm (prd (norm (KZ a k)) (norm (KZ b k))):=by
 refine Mi λf=>?_
 rw[Ll,Je,Jn,Jn,Je,Ll]
 refine Jb λt ht=>?_
 rw[Je,Ll]
 refine Jb λu hu=>?_
 rw[S4 (by rw[ha t ht];exact hk) (by rw[ha t ht,hb u hu])]
theorem cH(a:List Go):norm (a++ngt a)=[]:=by
 have:norm (a++ngt a)=norm []:=Mi λf=>by rw[Kj,NV];show _=(0:Int);lia
 rw[this];rfl
structure Deg(n d b:Nat)(ts:List Go):Prop where
 len:∀t∈ts,t.1.length=n
 nn:∀t∈ts,∀x∈t.1,0<=x
 sum:∀t∈ts,t.1.sum<=d
 num:∀t∈ts,t.2.natAbs<2^b
theorem Deg.good{n d b:Nat}{ts:List Go}(h:Deg n d b ts)(hd:d<=8):IC n b ts:=by
 refine⟨h.len,λt ht x hx=>⟨h.nn t ht x hx,?_⟩,h.num⟩
 have:=(OR (h.nn t ht) hx).1
 have:=h.sum t ht
 lia
theorem Deg.mono{n d b d' b':Nat}{ts:List Go}(h:Deg n d b ts)(hd:d<=d')(hb:b<=b'):Deg n d' b' ts :=
 ⟨h.len,h.nn,λt ht=>by have:=h.sum t ht;lia,λt ht=>JS (h.num t ht) hb⟩
theorem Deg.app{n d b:Nat}{ts us:List Go}(h:Deg n d b ts)(q:Deg n d b us):Deg n d b (ts++us) :=
 ⟨λt ht=>(Ao.mp ht).elim (h.len t) (q.len t),λt ht=>(Ao.mp ht).elim (h.nn t) (q.nn t),λt ht=>(Ao.mp ht).elim (h.sum t) (q.sum t),λt ht=>(Ao.mp ht).elim (h.num t) (q.num t)⟩
theorem Deg.norm{n d b k:Nat}{ts:List Go}(h:Deg n d b ts)(hk:ts.length<2^k):Deg n d (b+k) (Pl.norm ts):=by
 refine⟨λt ht=>?_,λt ht=>?_,λt ht=>?_,λt ht=>?_⟩
 ·obtain⟨u,hu,e⟩:=J7 ht
  rw[<-e];exact h.len u hu
 ·obtain⟨u,hu,e⟩:=J7 ht
  rw[<-e];exact h.nn u hu
 ·obtain⟨u,hu,e⟩:=J7 ht
  rw[<-e];exact h.sum u hu
 ·have e:=Ql (JV ts) ht
  rw[J6]at e
  rw[<-e]
  refine A7 (Tt t.1 h.num) ?_
  rw[EB,C0]
  exact De hk (HQ (by decide))
theorem Deg.ngt{n d b:Nat}{ts:List Go}(h:Deg n d b ts):Deg n d b (Pl.ngt ts):=by
 refine⟨λt ht=>?_,λt ht=>?_,λt ht=>?_,λt ht=>?_⟩<;>obtain⟨u,hu,rfl⟩:=AN.mp ht
 ·exact h.len u hu
 ·exact h.nn u hu
 ·exact h.sum u hu
 ·show(-u.2).natAbs<_
  rw[Int.natAbs_neg];exact h.num u hu
theorem Deg.prd{n d b d' b':Nat}{ts us:List Go}(h:Deg n d b ts)(q:Deg n d' b' us):Deg n (d+d') (b+b') (Pl.prd ts us):=by
 have key:∀t∈Pl.prd ts us,∃x∈ts,∃y∈us,t=(IQ x.1 y.1,x.2*y.2):=λt ht=>by
  obtain⟨x,hx,ht⟩:=A5.mp ht
  obtain⟨y,hy,rfl⟩:=AN.mp ht
  exact⟨x,hx,y,hy,rfl⟩
 refine⟨λt ht=>?_,λt ht=>?_,λt ht=>?_,λt ht=>?_⟩<;>obtain⟨x,hx,y,hy,rfl⟩:=key t ht
 ·exact XX (h.len x hx) (q.len y hy)
 ·exact S0 (h.nn x hx) (q.nn y hy)
 ·show(IQ x.1 y.1).sum<=_
  rw[QC (by rw[h.len x hx,q.len y hy])]
  have:=h.sum x hx
  have:=q.sum y hy
  lia
 ·exact Xc (h.num x hx) (q.num y hy)
theorem Q0(a b:List Go):(prd a b).length=a.length*b.length:=by
 induction a with
 |nil=>simp [prd]
 |cons t r ih =>
  unfold prd at ih ⊢
  rw[BD,AJ,ih,AB,Am,Cz,HD]
theorem P4(a:List Go):(ngt a).length=a.length:=by unfold ngt;rw[AB]
theorem WF:∀{p a q:Pw}{n:Nat},p.length=n->a.length=n->q.length=n->Hs p a=true->Hs (IQ p q) (IQ a q)=true
 |[],[],_,_,_,_,_,h=>by simp [Hs]at h
 |[],_::_,_,_,h1,h2,_,_=>by simp at h1 h2;lia
 |_::_,[],_,_,h1,h2,_,_=>by simp at h1 h2;lia
 |_::_,_::_,[],_,h1,_,h3,_=>by simp at h1 h3;lia
 |x::p,y::a,z::q,n,h1,h2,h3,h=>by
  unfold IQ
  simp only[CV,Hs]at h ⊢
  simp only[Am]at h1 h2 h3
  by_cases e:x=y
  ·subst e
   rw[AF rfl]at h ⊢
   exact WF (n:=p.length) rfl (by lia) (by lia) h
  ·rw[AD e]at h
   have:=Ay h
   rw[AD (by lia)]
   exact Ac (by lia)
theorem Q4:∀p q:Pw,IQ p q=IQ q p
 |[],[]=>rfl
 |[],_::_=>rfl
 |_::_,[]=>rfl
 |x::p,y::q=>by
  have:=Q4 p q
  unfold IQ at this ⊢
  simp only[CV]
  rw[this,HG]
structure Top(f:List Go)(a:Pw)(x:Int):Prop where
 at_:cf f a=x
 top:∀t∈f,t.1=a∨Hs t.1 a=true
theorem Top.norm{f:List Go}{a:Pw}{x:Int}(h:Top f a x):Top (norm f) a x:=⟨by rw[J6];exact h.at_,λt ht=>by
 obtain⟨u,hu,e⟩:=J7 ht
 rw[<-e]
 exact h.top u hu⟩
theorem Tp{t:Go}{r:List Go}(c:HZ (t::r)):Top (t::r) t.1 t.2:=⟨c.head,λu hu=>by
 rcases AY.mp hu with rfl|hu
 ·exact .inl rfl
 ·exact .inr ((Av.mp c.ord).1 u hu)⟩
theorem Top.prd{f g:List Go}{a b:Pw}{x y:Int}{n:Nat}(hf:Top f a x)(hg:Top g b y)(lf:∀t∈f,t.1.length=n)(lg:∀t∈g,t.1.length=n)(la:a.length=n)(lb:b.length=n):Top (prd f g) (IQ a b) (x*y):=by
 have cmp:∀t∈f,∀u∈g,IQ t.1 u.1=IQ a b/\t.1=a/\u.1=b∨Hs (IQ t.1 u.1) (IQ a b)=true/\¬ (t.1=a/\u.1=b):=λt ht u hu=>by
  rcases hf.top t ht with e|e<;>rcases hg.top u hu with e'|e'
  ·exact .inl ⟨by rw[e,e'],e,e'⟩
  ·refine .inr ⟨?_,λz=>by rw[z.2,Ji]at e';cases e'⟩
   rw[e,Q4 a,Q4 a]
   exact WF (lg u hu) lb la e'
  ·refine .inr ⟨?_,λz=>by rw[z.1,Ji]at e;cases e⟩
   rw[e']
   exact WF (lf t ht) la lb e
  ·refine .inr ⟨?_,λz=>by rw[z.1,Ji]at e;cases e⟩
   refine Lu (WF (lf t ht) la (lg u hu) e) ?_
   rw[Q4 a,Q4 a]
   exact WF (lg u hu) lb la e'
 refine⟨?_,λt ht=>?_⟩
 ·rw[JA,Jn,<-hf.at_,<-hg.at_,JA a,JA b,<-O5]
  refine Jb λt ht=>?_
  rw[<-cC (λq=>if q=b then 1 else 0)]
  refine Jb λu hu=>?_
  rcases cmp t ht u hu with⟨e,e1,e2⟩|⟨e,e1⟩
  ·rw[AF e,AF e1,AF e2];rfl
  ·rw[AD (λz=>by rw[z,Ji]at e;cases e)]
   by_cases c:t.1=a
   ·rw[AF c,AD (λz=>e1 ⟨c,z⟩)];rfl
   ·rw[AD c];simp
 ·obtain⟨u,hu,ht⟩:=A5.mp ht
  obtain⟨v,hv,rfl⟩:=AN.mp ht
  rcases cmp u hu v hv with⟨e,_⟩|⟨e,_⟩
  ·exact .inl e
  ·exact .inr e
noncomputable def Ht(n:Nat)(f:List Go):Prop:=∀k,k+1<n->norm (KZ f k)=norm f
theorem Ht.norm{n:Nat}{f:List Go}(h:Ht n f):Ht n (norm f):=λk hk=>by
 rw[fW (JV f)]
 exact(Mi λF=>by rw[Ll,Je,Ll]).trans (h k hk)
theorem mP{n:Nat}{a b:List Go}(ha:Ht n a)(hb:Ht n b)(la:∀t∈a,t.1.length=n)(lb:∀t∈b,t.1.length=n):Ht n (prd a b):=λk hk=>by
 have h:=Y4 la lb hk
 rw[ha k hk,hb k hk]at h
 have e1:L2.Pl.norm (KZ (L2.Pl.norm (prd a b)) k)=L2.Pl.norm (KZ (prd a b) k):=Mi λF=>by rw[Ll,Je,Ll]
 have e2:L2.Pl.norm (prd (L2.Pl.norm a) (L2.Pl.norm b))=L2.Pl.norm (prd a b):=Mi λF=>by
  rw[Jn,Je,Jn]
  exact Jb λt _=>Je _ _
 rw[<-e1,h,e2]
noncomputable def scl(c:Int)(f:List Go):List Go:=f.map λt=>(t.1,c*t.2)
theorem Jk(F:Pw->Int)(c:Int):∀f:List Go,sm F (scl c f)=c*sm F f
 |[]=>by simp [scl,sm]
 |t::r=>by
  have:=Jk F c r
  unfold scl at this ⊢
  rw[Ai]
  simp only[sm]
  rw[this,DF,A4]
theorem OT(c:Int)(f:List Go):(scl c f).length=f.length:=AB _
theorem WQ{n:Nat}{f g:List Go}(hf:Ht n f)(hg:Ht n g):Ht n (f++g):=λk hk=>Mi λF=>by
 have h1:=congrArg (sm F) (hf k hk)
 have h2:=congrArg (sm F) (hg k hk)
 rw[Je,Je]at h1 h2
 have e:KZ (f++g) k=KZ f k++KZ g k:=Ar
 rw[e,Kj,Kj,h1,h2]
theorem aS{n:Nat}{f:List Go}(c:Int)(hf:Ht n f):Ht n (scl c f):=λk hk=>Mi λF=>by
 have h1:=congrArg (sm λp=>F p) (hf k hk)
 rw[Je,Je,Ll]at h1
 rw[Ll,Jk,Jk,h1]
theorem Ua{n:Nat}{f:List Go}(hf:Ht n f):Ht n (ngt f):=λk hk=>Mi λF=>by
 have h1:=congrArg (sm λp=>F p) (hf k hk)
 rw[Je,Je,Ll]at h1
 rw[Ll,NV,NV,h1]
theorem U4:∀{k:Nat}{a:Pw},k+1<a.length->a.getD k 0<a.getD (k+1) 0->Hs a (swp a k)=true
 |0,x::y::a,_,h=>by
  rw[Nt]
  simp at h
  simp only[Hs]
  rw[AD (by lia)]
  exact Ac h
 |k+1,x::a,hk,h=>by
  rw[OG]
  simp only[Hs]
  rw[AF trivial]
  exact U4 (by simpa using hk) (by simpa using h)
 |0,[],hk,_=>by simp at hk
 |0,[_],hk,_=>by simp at hk
 |k+1,[],hk,_=>by simp at hk
theorem vX{n k:Nat}{t:Go}{r:List Go}(c:HZ (t::r))(h:Ht n (t::r))(l:∀u∈t::r,u.1.length=n)(hk:k+1<n):t.1.getD (k+1) 0<=t.1.getD k 0:=by
 refine Int.not_lt.mp λz=>?_
 have lt:=l t (AG ..)
 have g:=U4 (a:=t.1) (k:=k) (by lia) z
 have e:cf (t::r) (swp t.1 k)=t.2:=by
  have h1:cf (norm (KZ (t::r) k)) (swp t.1 k)=cf (norm (t::r)) (swp t.1 k):=by rw[h k hk]
  rw[J6,J6]at h1
  rw[<-h1,JA,Ll,<-c.head,JA]
  refine Jb λu hu=>?_
  by_cases e:u.1=t.1
  ·rw[AF e,AF (by rw[e])]
  ·rw[AD e,AD λz=>e ?_]
   have:=congrArg (swp · k) z
   rwa [Px (by rw[l u hu];exact hk),Px (by lia)]at this
 have z2:cf (t::r) (swp t.1 k)=0:=Mh λu hu e2=>by
  rcases (Tp c).top u hu with e3|e3
  ·rw[<-e2,e3,Ji]at g;cases g
  ·rw[<-e2]at g
   have:=Lu e3 g
   rw[Ji]at this;cases this
 exact c.num t (AG ..) (by lia)
theorem lM{left E:List Go}{p:Pw}{x:Int}(h:Top left p x)(hE:Top E p 1):∀t∈norm (left++ngt (scl x E)),Hs t.1 p=true:=λt ht=>by
 obtain⟨u,hu,e⟩:=J7 ht
 have le:t.1=p∨Hs t.1 p=true:=by
  rw[<-e]
  rcases Ao.mp hu with hu|hu
  ·exact h.top u hu
  ·obtain⟨v,hv,rfl⟩:=AN.mp hu
   obtain⟨v',hv',rfl⟩:=AN.mp hv
   exact hE.top v' hv'
 rcases le with e1|e1
 ·have c0:cf (norm (left++ngt (scl x E))) p=0:=by
   rw[J6,NT,h.at_,JA p (ngt (scl x E)),NV,Jk,<-JA,hE.at_]
   lia
  have:=Ql (JV _) ht
  rw[e1,c0]at this
  exact absurd this.symm ((JV _).num t ht)
 ·exact e1
theorem mK{n:Nat}{left E:List Go}{x:Int}(h:Ht n left)(hE:Ht n E):Ht n (norm (left++ngt (scl x E))):=(WQ h (Ua (aS x hE))).norm
theorem Vh(G:Pw->Pw->Int)(A:List Go):∀F:List Go,sm (λp=>sm (λq=>G p q) A) F=sm (λq=>sm (λp=>G p q) F) A
 |[]=>by
  have key:∀A:List Go,sm (λ_=>(0:Int)) A=0:=by
   intro A
   induction A with
   |nil=>rfl
   |cons t r ih =>
    show t.2*0+sm (λ_=>(0:Int)) r=0
    rw[ih]
    lia
  exact(key A).symm
 |t::r=>by
  show t.2*sm (λq=>G t.1 q) A+sm (λp=>sm (λq=>G p q) A) r=sm (λq=>t.2*G t.1 q+sm (λp=>G p q) r) A
  rw[Uc,cC,Vh G A r]
noncomputable def Ak(a b:List Go):Prop:=∀f:Pw->Int,sm f a=sm f b
theorem Ak.refl(a:List Go):Ak a a:=λ_=>rfl
theorem Ak.symm{a b:List Go}(h:Ak a b):Ak b a:=λf=>(h f).symm
theorem Ak.trans{a b c:List Go}(h:Ak a b)(g:Ak b c):Ak a c:=λf=>(h f).trans (g f)
theorem Ak.norm(a:List Go):Ak (norm a) a:=λf=>Je f a
theorem Ak.of_norm{a b:List Go}(h:L2.Pl.norm a=L2.Pl.norm b):Ak a b:=λf=>by rw[<-Je f a,h,Je]
theorem Ak.norm_eq{a b:List Go}(h:Ak a b):L2.Pl.norm a=L2.Pl.norm b:=Mi h
theorem Ak.app{a b c d:List Go}(h:Ak a b)(g:Ak c d):Ak (a++c) (b++d):=λf=>by rw[Kj,Kj,h,g]
theorem Ak.scl{a b:List Go}(c:Int)(h:Ak a b):Ak (L2.Pl.scl c a) (L2.Pl.scl c b):=λf=>by rw[Jk,Jk,h]
theorem Ak.prd{a b c d:List Go}(h:Ak a b)(g:Ak c d):Ak (L2.Pl.prd a c) (L2.Pl.prd b d):=λf=>by
 rw[Jn,Jn,h]
 congr 1
 funext p
 exact g _
theorem M7(a b:List Go):Ak (prd a b) (prd b a):=λf=>by
 rw[Jn,Jn,Vh]
 congr 1
 funext q
 congr 1
 funext p
 rw[Q4]
theorem Pb(a b c:List Go):Ak (prd (prd a b) c) (prd a (prd b c)):=λf=>by
 rw[Jn,Jn,Jn]
 congr 1
 funext p
 rw[Jn]
 congr 1
 funext q
 congr 1
 funext r
 rw[UG]
theorem V1(a b c:List Go):Ak (prd (a++b) c) (prd a c++prd b c):=λf=>by rw[Kj,Jn,Jn,Jn,Kj]
theorem OS(x:Int)(a b:List Go):Ak (prd (scl x a) b) (scl x (prd a b)):=λf=>by rw[Jk,Jn,Jn,Jk]
theorem Tz(x:Int)(a b:List Go):Ak (prd a (scl x b)) (scl x (prd a b)):=(M7 a _).trans ((OS x b a).trans ((M7 b a).scl x))
theorem VZ(x y:Int)(a:List Go):Ak (scl x (scl y a)) (scl (x*y) a):=λf=>by rw[Jk,Jk,Jk,A4]
theorem YO(a:List Go):Ak (scl 1 a) a:=λf=>by rw[Jk,Dh]
noncomputable def OM(n:Nat):List Go:=[(List.replicate n 0,1)]
theorem WG:∀(n:Nat)(p:Pw),p.length=n->IQ (List.replicate n 0) p=p
 |0,[],_=>rfl
 |n+1,x::p,h=>by
  have:=WG n p (by simpa using h)
  unfold IQ at this ⊢
  rw[A1,CV,this,DK]
theorem W3{n:Nat}{a:List Go}(h:∀t∈a,t.1.length=n):Ak (prd (OM n) a) a:=λf=>by
 rw[Jn]
 show 1*sm (λq=>f (IQ (List.replicate n 0) q)) a+0=sm f a
 rw[Dh,Int.add_zero]
 exact Jb λt ht=>by rw[WG n t.1 (h t ht)]
noncomputable def Ja(h:Int->List Go)(n:Nat)(r:xX):List Go:=r.foldr (λk acc=>prd (h k) acc) (OM n)
theorem U1{h:Int->List Go}{n:Nat}(hl:∀k,∀t∈h k,t.1.length=n):∀r:xX,∀t∈Ja h n r,t.1.length=n
 |[],t,ht=>by rw[AS.mp ht];exact A8
 |k::r,t,ht=>by
  obtain⟨x,hx,hm⟩:=A5.mp ht
  obtain⟨y,hy,rfl⟩:=AN.mp hm
  exact XX (hl k x hx) (U1 hl r y hy)
theorem ZK(h:Int->List Go)(n:Nat){r s:xX}(p:r.Perm s):Ak (Ja h n r) (Ja h n s):=by
 induction p with
 |nil=>exact Ak.refl _
 |cons x _ ih=>exact(Ak.refl _).prd ih
 |swap x y l=>exact(Pb _ _ _).symm.trans (((M7 _ _).prd (Ak.refl _)).trans (Pb _ _ _))
 |trans _ _ ih1 ih2=>exact ih1.trans ih2
theorem XG{h:Int->List Go}{n:Nat}(hl:∀k,∀t∈h k,t.1.length=n):∀r s:xX,Ak (Ja h n (r++s)) (prd (Ja h n r) (Ja h n s))
 |[],s=>(W3 (U1 hl s)).symm
 |k::r,s=>((Ak.refl _).prd (XG hl r s)).trans (Pb _ _ _).symm
noncomputable def hv(h:Int->List Go)(n:Nat)(T:List Go):List Go:=T.flatMap λt=>scl t.2 (Ja h n t.1)
theorem V9(h:Int->List Go)(n:Nat)(S T:List Go):hv h n (S++T)=hv h n S++hv h n T:=BM
theorem M3(h:Int->List Go)(n:Nat)(f:Pw->Int):∀T:List Go,sm f (hv h n T)=sm (λr=>sm f (Ja h n r)) T
 |[]=>rfl
 |t::T=>by
  show sm f (scl t.2 (Ja h n t.1)++hv h n T)=t.2*sm f (Ja h n t.1)+sm (λr=>sm f (Ja h n r)) T
  rw[Kj,Jk,M3 h n f T]
theorem Oj{h:Int->List Go}{n:Nat}{S T:List Go}(e:Ak S T):Ak (hv h n S) (hv h n T):=λf=>by rw[M3,M3,e]
theorem dO(h:Int->List Go)(n:Nat)(x:Int)(T:List Go):Ak (hv h n (scl x T)) (scl x (hv h n T)):=λf=>by rw[M3,Jk,Jk,M3]
noncomputable def Jt(d:xX->xX)(S T:List Go):List Go:=S.flatMap λt=>T.map λu=>(d (t.1++u.1),t.2*u.2)
theorem RQ{h:Int->List Go}{n:Nat}(hl:∀k,∀t∈h k,t.1.length=n){d:xX->xX}(hd:∀r,(d r).Perm r)(t:Go):∀T:List Go,Ak (hv h n (T.map λu=>(d (t.1++u.1),t.2*u.2))) (prd (scl t.2 (Ja h n t.1)) (hv h n T))
 |[]=>λf=>by
  rw[Jn]
  show 0=sm (λp=>0) _
  have key:∀A:List Go,sm (λ_=>(0:Int)) A=0:=by
   intro A
   induction A with
   |nil=>rfl
   |cons t r ih =>
    show t.2*0+sm (λ_=>(0:Int)) r=0
    rw[ih]
    lia
  exact(key _).symm
 |u::T=>by
  rw[Ai]
  show Ak (scl (t.2*u.2) (Ja h n (d (t.1++u.1)))++hv h n (T.map λu=>(d (t.1++u.1),t.2*u.2))) (prd (scl t.2 (Ja h n t.1)) (scl u.2 (Ja h n u.1)++hv h n T))
  have e1:Ak (scl (t.2*u.2) (Ja h n (d (t.1++u.1)))) (prd (scl t.2 (Ja h n t.1)) (scl u.2 (Ja h n u.1))) :=
   (((ZK h n (hd _)).trans (XG hl _ _)).scl _).trans ((VZ _ _ _).symm.trans (((Tz _ _ _).symm.scl _).trans (OS _ _ _).symm))
  refine(e1.app (RQ hl hd t T)).trans ?_
  exact((M7 _ _).app (M7 _ _)).trans ((V1 _ _ _).symm.trans (M7 _ _))
theorem Pp{h:Int->List Go}{n:Nat}(hl:∀k,∀t∈h k,t.1.length=n){d:xX->xX}(hd:∀r,(d r).Perm r)(T:List Go):∀S:List Go,Ak (hv h n (Jt d S T)) (prd (hv h n S) (hv h n T))
 |[]=>λf=>by
  rw[Jn]
  rfl
 |t::S=>by
  show Ak (hv h n ((T.map λu=>(d (t.1++u.1),t.2*u.2))++Jt d S T)) (prd (scl t.2 (Ja h n t.1)++hv h n S) (hv h n T))
  rw[V9]
  exact((RQ hl hd t T).app (Pp hl hd T S)).trans (V1 _ _ _).symm
end L2.Pl
namespace L2.Ev
open PySem
open L2.Pl
structure Hc(P:yL)(w:yM)(K:yG)(mg:Str->yD)(base:Heap)(k:Nat)(x:Str)(ps:yB)(sp:Sp) where
 f:yJ
 fd:yN
 ok:HC P w K mg base Hn k f fd ps sp
 bd:IT K fd ps []
 kp:W.keepIn K (.ref f)=true
 at_:mg x=some (.ref f)
noncomputable def Hc.lift{P:yL}{w:yM}{K:yG}{mg:Str->yD}{base:Heap}{j k:Nat}{x:Str}{ps:yB}{sp:Sp}(G:Hc P w K mg base j x ps sp)(h:j<=k):Hc P w K mg base k x ps sp:=⟨G.f,G.fd,G.ok.mono h,G.bd,G.kp,G.at_⟩
noncomputable def Hc.ql{P:yL}{w:yM}{K:yG}{mg:Str->yD}{base:Heap}{j k:Nat}{x:Str}{ps:yB}{sp:Sp}(G:Hc P w K mg base j x ps sp)(h:j<=k:=by decide):Hc P w K mg base k x ps sp:=G.lift h
theorem Hd{X:Cx}{k:Nat}{x:Str}{ps:yB}{sp:Sp}{p pos:Pos}{e:Expr}{es:yE}{t:TA}(G:Hc X.prog X.w X.K X.mg X.base k x ps sp)(hr:IN k X.A)(hg:Gl X x)
  (ha:PA X (e::es) t) (hdb:(x==("__debug__" : Str))=false:=by decide) (he:starEach (e::es) X.env=(false,eval e X.env)::starEach es X.env:=by rfl) (hpl:(backTo pos (starEach es X.env)).any (·.1)=false:=by rfl) :
  PE X (.Call (.Name x p) (e::es) [] pos) (T6 sp [] E0 t):=O0 G.ok hr hg G.at_ G.kp G.bd .nil O4 ha hdb he hpl
theorem tG(ns:xX)(lo hi:Nat):∃cs:xX,KQ (ns.map V.int) (some (lo:Int)) (some (hi:Int))=cs.map V.int/\cs.length<=hi-lo:=by
 refine⟨(ns.drop (HT.sIx ns.length 0 (some (lo:Int)))).take (HT.sIx ns.length ns.length (some (hi:Int))-HT.sIx ns.length 0 (some (lo:Int))),?_,?_⟩
 ·unfold KQ
  rw[AB,Gu,EE]
 ·rw[Ap,BG,HT.sIx_nat,HT.sIx_nat];lia
theorem M8{α:Type}[D:Dat α](l:List α):Jo (Dat.eqb (α:=α)) l l=true:=(QV Dat.eqb_iff _ _).mpr rfl
end L2.Ev
namespace L2.Ev
open PySem PyProof.Rows
open L2.Pl
end L2.Ev
namespace L2.Ev
open PySem
open L2.Pl
set_option maxHeartbeats 4000000
end L2.Ev
namespace L2.Ev
open PySem PySem.Spec PyProof.Rows
open PySem.W PySem.Calls
noncomputable def cA(h:Heap)(e:yJ)(od:Option yJ):Prop:=∃ob,h.get? e=some ob/\ob.dict=od
noncomputable def sV(base:Heap)(l:List Env)(e:yJ)(cls a0:yI)(od:Option yJ)(h:Heap):Prop:=Heap.FlyingW base l e cls a0 h/\cA h e od
end L2.Ev
namespace L2.Ev
open PySem PySem.Spec PyProof.Rows
open L2.Pl
structure Bs(l:List Env)(H:Hp)(h:Heap)(H':Hp)(B:Heap):Prop where
 old:∀b o,h.get? b=some o->b∉Kc l->∃o',B.get? b=some o'/\(H b=none->o'=o)
 V8:∀b u,H' b=some u->∃o,B.get? b=some o
structure xW(P:yL)(w:yM)(l:List Env)(H:Hp)(s:yH)(a:yJ)(cls a0:yI)(od:Option yJ)(H':Hp)(s':yH):Prop where
 os:s'.os=s.os
 bare:AllBare s'.gens
 un:Un (Kc l) [] H H' s.heap s'.heap
 hok:Ii P w H' s'.heap
 fly:∃B,Bs l H s.heap H' B/\sV B l a cls a0 od s'.heap
end L2.Ev
namespace L2.Ev
open PySem PySem.Spec PyProof.Rows
open PySem.W
open PySem PySem.Calls PyProof.Rows Builtin Builtin.ObjectAttr Builtin.Getset_descriptor
structure wP(K:Frag)(C:yJ):Prop where
 obj:mroIn K C (.type "object")=some true
 exc:mroIn K C (.type "BaseException")=some true
 cls:findIn K (.ref C) "__class__" = some (some (.builtin "object.__class__"))
 ga:findIn K (.ref C) "__getattribute__" = some (some (.builtin "BaseException.__getattribute__"))
 gt:findIn K (.ref C) "__getattr__" = some none
 is:(clsIn K C).isSome=true
end L2.Ev
namespace L2.Ev
open PySem PySem.Spec PyProof.Rows
open L2.Pl
theorem dF(a v:yI):argsOk "max" ⟨[a],[(Str.ofString "default",v)]⟩:=by unfold argsOk;kernel_rfl
section
variable{prog:yL}{w:yM}{A:Around}{R:Result->yH->Prop}{I:yJ}{fp wr:yC}{n:Nat}{P:Nat->yI->Prop}{St:Nat->Heap->Prop}{dv:yI}
noncomputable abbrev SW(I S:yJ)(dv:yI):Code:=.builtin "max.loop" ⟨[.ref I,.none,.ref S],[(Str.ofString "default",dv)]⟩
noncomputable abbrev RR(vs:yF)(c:Nat):Obj:={ cls:=.type "list",dict:=none,data:=.seq vs c,slots:=#[] }
theorem Wa:(toString "max" ++ toString ".loop" : String) = "max.loop" := by decide
theorem QH(W:Walks prog w A.in1 I fp wr n P St)(bt:Nat->Nat->Bool)(hcmp:CmpOf prog w A.in1 .Gt P bt)(S:yJ)(hSf:S∉fp) :
  ∀(k j:Nat)(s:yH)(vb:yI)(c:Nat),n-(j+1)=k->j+1<=n->St (j+1) s.heap->P (argBest bt j) vb->s.heap.get? S=some (RR #[vb,vb] c) ->
  (∀v h' tk,P (argBest bt (n-1)) v->(∀b o,b∉wr->b≠S->s.heap.get? b=some o->h'.get? b=some o)->R (.ok (.ret v)) { s with heap:=h',toks:=tk })->codeAny (model prog w) A (SW I S dv) R s
 |0,j,s,vb,c,hk,hj,hst,hPb,hS,hR=>by
  have hSw:S∉wr:=λh=>hSf (W.sub _ h)
  have hin:j+1=n:=by lia
  refine DA FA ?_
  rw[CO Co _]
  show wpAny _ A.in1 (seqItems? (.ref S)>>=_) _ _ s
  refine AA (CB hS rfl ?_)
  show wpAny _ A.in1 (tryCatch (pyNext (.ref I)) _>>=_) _ _ s
  refine AA (D4 (W.done s _ _ (hin▸hst) λh' tk hk'=>?_))
  have hS':=hk' S _ hSw hS
  show wpAny _ A.in1 (updateSeq S (λ_=>#[])>>=_) _ _ _
  exact AA (Fd hS' rfl (AA (Di (AK (hR vb _ tk (by rw[<-hin];exact hPb) λb o hbw hbS e=>(BN _ _ (C3 hbS)).trans (hk' b o hbw e))))))
 |k+1,j,s,vb,c,hk,hj,hst,hPb,hS,hR=>by
  have hSw:S∉wr:=λh=>hSf (W.sub _ h)
  have hlt:j+1<n:=by lia
  refine DA FA ?_
  rw[CO Co _]
  show wpAny _ A.in1 (seqItems? (.ref S)>>=_) _ _ s
  refine AA (CB hS rfl ?_)
  show wpAny _ A.in1 (tryCatch (pyNext (.ref I)) _>>=_) _ _ s
  refine AA (D4 (W.item (j+1) s _ _ hlt hst λv h' tk hP hst' hk'=>?_))
  have hS':=hk' S _ hSw hS
  show wpAny _ A.in1 (tryCatch (holding [v,v] (richCompare .Gt v vb>>=_)) _>>=_) _ _ _
  refine AA (D4 (DR (AA (hcmp (j+1) (argBest bt j) v vb _ _ _ hP hPb (AA (DR (CD (AA (Di (AK ?_))))))))))
  cases hb:bt (j+1) (argBest bt j) with
  |true =>
   simp only[CQ]
   refine AA (Fd hS' rfl (AA (Di ?_)))
   rw[Wa]
   refine AK ⟨Dg Co _,QH W bt hcmp S hSf k (j+1) _ v _ (by lia) hlt (W.frame _ _ _ hst' λb hbf o e=>?_) (by simp only[argBest,hb,CQ];exact hP) (C6 _ hS' rfl) λv' h'' tk'' hP' hk''=>?_⟩
   ·exact(BN _ _ (λh:S=b=>hSf (by rw[h];exact hbf))).trans e
   ·exact hR v' h'' tk'' hP' λb o hbw hbS e=>hk'' b o hbw hbS ((BN _ _ (C3 hbS)).trans (hk' b o hbw e))
  |false =>
   simp only[BH,B3]
   refine AA (Di ?_)
   rw[Wa]
   exact AK ⟨Dg Co _,QH W bt hcmp S hSf k (j+1) _ vb c (by lia) hlt hst' (by simp only[argBest,hb,BH,B3];exact hPb) hS' λv' h'' tk'' hP' hk''=>hR v' h'' tk'' hP' λb o hbw hbS e=>hk'' b o hbw hbS (hk' b o hbw e)⟩
theorem pE(W:Walks prog w A.in1 I fp wr n P St)(bt:Nat->Nat->Bool)(hcmp:CmpOf prog w A.in1 .Gt P bt)(S:yJ)(hSf:S∉fp){s:yH}{c:Nat}(hst:St 0 s.heap)(hS:s.heap.get? S=some (RR #[] c))
  (hR:∀v h' tk,((0<n/\P (argBest bt (n-1)) v)∨(n=0/\v=dv))->(∀b o,b∉wr->b≠S->s.heap.get? b=some o->h'.get? b=some o)->R (.ok (.ret v)) { s with heap:=h',toks:=tk }):codeAny (model prog w) A (SW I S dv) R s:=by
 have hSw:S∉wr:=λh=>hSf (W.sub _ h)
 refine DA FA ?_
 rw[CO Co _]
 show wpAny _ A.in1 (seqItems? (.ref S)>>=_) _ _ s
 refine AA (CB hS rfl ?_)
 show wpAny _ A.in1 (tryCatch (pyNext (.ref I)) _>>=_) _ _ s
 rcases DV n with z|hn
 ·refine AA (D4 (W.done s _ _ (z▸hst) λh' tk hk'=>?_))
  exact AA (CW (AK (hR dv h' tk (.inr ⟨z,rfl⟩) λb o hbw _ e=>hk' b o hbw e)))
 ·refine AA (D4 (W.item 0 s _ _ hn hst λv h' tk hP hst' hk'=>?_))
  have hS':=hk' S _ hSw hS
  show wpAny _ A.in1 (updateSeq S (λ_=>#[v,v])>>=_) _ _ _
  refine AA (Fd hS' rfl ?_)
  rw[Wa]
  refine AK ⟨Dg Co _,QH W bt hcmp S hSf _ 0 _ v _ rfl hn (W.frame _ _ _ hst' λb hbf o e=>?_) hP (C6 _ hS' rfl) λv' h'' tk'' hP' hk''=>?_⟩
  ·exact(BN _ _ (λh:S=b=>hSf (by rw[h];exact hbf))).trans e
  ·exact hR v' h'' tk'' (.inl ⟨hn,hP'⟩) λb o hbw hbS e=>hk'' b o hbw hbS ((BN _ _ (C3 hbS)).trans (hk' b o hbw e))
end
section
variable{prog:yL}{w:yM}{A:Around}{E:xZ}{Q:xZ}{s:yH}
theorem jZ{a:yJ}{xs:Array (Int×Tok)}{d:Int}{td:Tok}(hh:A.handled=none)(hl:s.heap.IsList a (intItems xs)∨s.heap.IsTuple a (intItems xs))
  (h:∀h' tk M t',(∀b o,s.heap.get? b=some o->h'.get? b=some o)->((xs.size=0/\M=d)∨(M∈xs.toList.map (·.1)/\∀x∈xs.toList.map (·.1),x<=M))->Q (.int M t') { s with heap:=h',toks:=tk }) :
  wpAny (model prog w) A (call (.builtin "max") [.ref a] [(Str.ofString "default",.int d td)]) Q E s:=by
 have fin:∀(v:yI)(s2:yH)(h':Heap)(tk:Nat),s2={ s with heap:=s2.heap }->(∀b o,s.heap.get? b=some o->h'.get? b=some o)->((0<(intItems xs).size/\(intItems xs)[argBest (λi j=>decide (numAt xs i>numAt xs j)) ((intItems xs).size-1)]?=some v)∨((intItems xs).size=0/\v=.int d td))->Q v { s2 with heap:=h',toks:=tk }:=by
  intro v s2 h' tk e2 hk hv
  rw[e2]
  have sz:(intItems xs).size=xs.size:=by simp [intItems]
  rw[sz]at hv
  rcases hv with⟨hn,hv⟩|⟨z,rfl⟩
  ·obtain⟨t',rfl⟩:=Dj hv
   obtain⟨h1,h2⟩:=argBest_gt (numAt xs) (xs.size-1)
   refine h h' tk _ t' hk (.inr ⟨?_,λx hx=>?_⟩)
   ·rw[FM];exact getD_mem (by rw[AB,AV];lia)
   ·obtain⟨j,hj,rfl⟩:=mem_getD hx
    rw[AB,AV]at hj
    rw[<-FM];exact h2 j (by lia)
  ·exact h h' tk d td hk (.inl ⟨z,rfl⟩)
 have go:∀(fp wr:yC)(St:Nat->Heap->Prop)(s2:yH),s2={ s with heap:=s2.heap }->(∀b o,s.heap.get? b=some o->s2.heap.get? b=some o)->Walks prog w A.in1 s.heap.objs.size fp wr (intItems xs).size (λi v=>(intItems xs)[i]?=some v) St->St 0 s2.heap->(∀b∈fp,b<s2.heap.objs.size)->(∀b∈wr,s.heap.get? b=none) ->
   wpAny (model prog w) A.in1 (newList []>>=λl=>(again (.builtin (toString "max" ++ toString ".loop") ⟨[.ref s.heap.objs.size,.none,l],[(Str.ofString "default",.int d td)]⟩):Sem Fin)) (λfin s'=>match fin with
    |.done f=>(match (Except.ok f:Result) with|.ok (.ret v)=>Q v s'|.ok _=>False|.error e=>E e s')
    |.again c'=>c'.quiet=true/\codeAny (model prog w) A c' (λr s'=>match r with|.ok (.ret v)=>Q v s'|.ok _=>False|.error e=>E e s') s') E s2:=by
  intro fp wr St s2 e2 k2 W st hfp hwr
  refine AA (BK ?_)
  have hSf:s2.heap.objs.size∉fp:=λz=>Bz _ (hfp _ z)
  rw[Wa]
  refine AK ⟨Dg Co _,pE W _ (Gv (numAt xs) (λ_ _=>Dj)) s2.heap.objs.size hSf (W.frame _ _ _ st λb _ o e=>AC _ e) (AW _ rfl) λv h' tk hv hk=>?_⟩
  exact fin v s2 h' tk e2 (λb o e=>hk b o (λz=>by rw[hwr b z]at e;cases e) (Au (AU (k2 b o e))) (AC _ (k2 b o e))) hv
 have new:∀b∈[s.heap.objs.size],s.heap.get? b=none:=λb hb=>by rw[AS.mp hb];exact Heap.get?_none_of_le (AH _)
 refine PyProof.Rows.kmb_tree F.kind_max F.plain_max F.entry_max (dF _ _) ?_
 show wpAny _ A.in1 (Builtin.Builtins.bindParams "max" ["key", "default"] 0 ⟨[],[(Str.ofString "default",.int d td)]⟩>>=_) _ _ s
 refine AA (wpAny_of_eq (show Builtin.Builtins.bindParams "max" ["key", "default"] 0 ⟨[],[(Str.ofString "default",.int d td)]⟩=pure [none,some (.int d td)] from rfl) ?_)
 refine AA (AK (AA ?_))
 have pairs:∀{b:yJ},b<s.heap.objs.size->∀(o:Obj),∀c∈[s.heap.objs.size,b],c<(s.heap.push o).objs.size:=λ{b} hb o c hc=>by
  rw[Bo]
  rcases AY.mp hc with rfl|hc
  ·exact E1 _
  ·rw[AS.mp hc];exact Nat.lt_succ_of_lt hb
 rcases hl with hl|hl
 ·obtain⟨o,ho,_⟩:=id hl
  refine By hl ?_
  exact go _ _ _ _ rfl (λb o e=>AC _ e) (Ex (A:=A.in1) hh s.heap.objs.size a (Au (AU ho)) (intItems xs)) ⟨⟨_,AW _ rfl,rfl,rfl⟩,hl.at λo e=>AC _ e⟩ (pairs (AU ho) _) new
 ·obtain⟨o,ho,_⟩:=id hl
  refine Bu hl ?_
  exact go _ _ _ _ rfl (λb o e=>AC _ e) (Walks.tuple (A:=A.in1) hh s.heap.objs.size a (Au (AU ho)) (intItems xs)) ⟨⟨_,AW _ rfl,rfl,rfl⟩,hl.at λo e=>AC _ e⟩ (pairs (AU ho) _) new
end
section
variable{X:Cx}
noncomputable def kP(K:yG)(d:Int)(ta:TA):TE:=λσ H Q=>ta σ H λvs H1=>∃(a:yJ)(ns:xX),vs=[.ref a]/\(HU K H1 a (ns.map V.int)∨HM K H1 a (ns.map V.int))/\∀M:Int,((ns=[]/\M=d)∨(M∈ns/\∀x∈ns,x<=M))->Q (.int M) H1
theorem PU{e:Expr}{ta:TA}{p pos kp kq:Pos}{j}{d:Int}(hc:X.calm=true)(hg:Gl X "max")(hm:X.mg "max" = none)(ha:PA X [e] ta)
  (h1:backTo pos (starEach [e] X.env)=(false,eval e X.env)::backTo pos (starEach [] X.env):=by rfl) (h2:(backTo pos (starEach [e] X.env)).any (·.1)=false:=by rfl) :
  PE X (.Call (.Name "max" p) [e] [⟨some (Str.ofString "default"),.Constant (.int d) j kq,kp⟩] pos) (kP X.K d ta):=by
 intro Fq s σ H Q I h
 refine Bv (Ks I hg hm boot_max ?_)
 refine Ee (Hk (ha pos Fq s σ H _ I h) λus s1 ⟨vs,H1,I1,r1,q1⟩=>?_) h1 h2
 obtain⟨a,ns,rfl,hq,q⟩:=q1
 obtain⟨u,rfl,ru⟩:=KN r1
 cases ru
 refine kws_cons (wpAny_Constant_int (kws_nil ?_))
 have I2:=I1.tok (s1.toks+1)
 have key:∀(its:xY),HS (ns.map V.int) its->(s1.heap.IsList a its.toArray∨s1.heap.IsTuple a its.toArray)->wpAny (model X.prog X.w) X.A (call (.builtin "max") [.ref a] [(Str.ofString "default",.int d s1.toks)]) (EP X Fq σ Q) X.xe { s1 with toks:=s1.toks+1 }:=by
  intro its rv hl
  obtain⟨xs,hx⟩:=(J3 rv).allInts.items
  have hn:xs.toList.map (·.1)=ns:=by
   have e1:numsOf its.toArray.toList=ns:=by rw[show its.toArray.toList=its from rfl,(J3 rv).numsOf]
   rw[hx,EG]at e1
   exact e1
  rw[hx]at hl
  refine jZ (I.ok.hd hc) hl λh' tk M t' hk hM=>⟨.int M,H1,I2.kept (t':=tk) hk,⟨t',rfl⟩,q M ?_⟩
  rw[hn]at hM
  rcases hM with⟨z,e⟩|hM
  ·refine .inl ⟨?_,e⟩
   rw[<-hn]
   have:xs=#[]:=EC.mp z
   rw[this];rfl
  ·exact .inr hM
 rcases hq with hq|hq
 ·obtain⟨its,rv,ht,_⟩:=I1.list hq
  exact key its rv (.inl ht.isList)
 ·obtain⟨its,rv,ht,_⟩:=I1.tuple hq
  exact key its rv (.inr ht)
end
end L2.Ev
namespace L2.Ev
open PySem PyProof.Rows
open L2.Pl
section
variable{X:Cx}
theorem X7{t:yJ}{vs:xY}{ns:xX}{s:yH}{prog:yL}{w:yM}{A:Around}{E:xZ}{Q:xZ}(hh:A.handled=none)(hl:s.heap.IsList t vs.toArray)(hi:IntsAre vs ns)(hne:ns≠[])
  (h:∀h' tk M t',(∀b o,s.heap.get? b=some o->h'.get? b=some o)->M∈ns->(∀a∈ns,a<=M)->Q (.int M t') { s with heap:=h',toks:=tk }) :
  wpAny (model prog w) A (call (.builtin "max") [.ref t]) Q E s:=by
 obtain⟨xs,hx⟩:=hi.allInts.items
 have hn:numsOf vs.toArray.toList=ns:=by rw[show vs.toArray.toList=vs from rfl,hi.numsOf]
 rw[hx]at hl hn
 rw[EG]at hn
 have hsz:0<xs.size:=by
  rw[<-hn]at hne
  rcases DV xs.size with z|z
  ·exact absurd (by rw[EZ,FT,<-EC];exact z) hne
  ·exact z
 obtain⟨o,ho,_⟩:=id hl
 have hne':t≠s.heap.objs.size:=Au (AU ho)
 refine call_max_walk (By hl ?_)
 refine⟨s.heap.objs.size,_,_,_,_,_,_,rfl,Ex (A:=A.in1) hh s.heap.objs.size t hne' (intItems xs),⟨⟨_,AW _ rfl,rfl,rfl⟩,hl.at λo e=>AC _ e⟩,λb hb=>?_,by simpa [intItems]using hsz,Gv (numAt xs) (λ_ _=>Dj),λv h' tk hP hk=>?_⟩
 ·rcases AY.mp hb with rfl|hb
  ·exact AU (AW _ rfl)
  ·obtain rfl:=AS.mp hb
   exact AU (AC _ ho)
 ·have hP:(intItems xs)[argBest (λi j=>decide (numAt xs i>numAt xs j)) (xs.size-1)]?=some v:=by simpa [intItems]using hP
  obtain⟨t',rfl⟩:=Dj hP
  obtain⟨h1,h2⟩:=argBest_gt (numAt xs) (xs.size-1)
  refine h h' tk _ t' (λb o e=>hk b o (λhb=>absurd (AU e) ((AS.mp hb)▸Bz _)) (AC _ e)) ?_ λa ha=>?_
  ·rw[<-hn,FM];exact getD_mem (by rw[AB,AV];lia)
  ·rw[<-hn]at ha
   obtain⟨j,hj,rfl⟩:=mem_getD ha
   rw[AB,AV]at hj
   rw[<-FM];exact h2 j (by lia)
theorem YR(hc:X.calm=true):IF X (.builtin "max") (λxs H Q=>∃(p:yJ)(ns:xX),xs=[.ref p]/\HU X.K H p (ns.map V.int)/\ns≠[]/\∀M,M∈ns->(∀a∈ns,a<=M)->Q (.int M) H):=by
 intro Fq s σ H xs us Q I r h
 obtain⟨p,ns,rfl,hq,hne,q⟩:=h
 obtain⟨u,rfl,ru⟩:=KN r
 cases ru
 obtain⟨its,rv,ht,_⟩:=I.list hq
 exact X7 (I.ok.hd hc) (show s.heap.IsList p its.toArray from ht.isList) (J3 rv) hne λh' tk M t' hk m1 m2=>⟨.int M,H,I.kept (t':=tk) hk,⟨t',rfl⟩,q M m1 m2⟩
end
end L2.Ev
namespace L2.Ev
open PySem PySem.Spec PyProof.Rows
open L2.Pl
theorem Ze{prog:yL}{w:yM}{A:Around}(hh:A.handled=none)(k:SK)(it l:yJ)(ne:l≠it)(xs:yF) :
  Draws prog w A it [it,l] xs.size (λi x=>xs[i]?=some x) (λi h=>k.iter h it l i/\k.seq h l xs) where
 live:=λi h st=>by
  cases k with
  |lst=>obtain⟨⟨o,e,_⟩,_⟩:=st;exact⟨o,e⟩
  |tup=>obtain⟨⟨o,e,_⟩,_⟩:=st;exact⟨o,e⟩
 frame:=λi h h' st q=>⟨SK.iter_keep st.1 λo e=>q it (by simp) o e,SK.seq_keep st.2 λo e=>q l (by simp) o e⟩
 item:=λi s Q E hi st q=>SK.next st.1 st.2 (AO hi) λh' p sb=>q xs[i] h' s.toks (AO hi) ⟨p,SK.seq_keep st.2 λo e=>sb.extBut _ _ ne e⟩ sb
 done:=λs Q E st q=>SK.stop hh st.1 st.2 (by simp) q
structure tM(k:SK)(e it l:yJ)(i:Nat)(h:Heap):Prop where
 he:∃old,IsEnum h e it (i:Int) old
 hi:k.iter h it l i
theorem YQ(l:yJ)(xs:yF) :
  Meets (Builtin.«enumerate.__new__» ⟨[.type "enumerate",.ref l],[]⟩) (λ_ R s=>s.heap.IsTuple l xs/\R (.ok (.ret (.ref (s.heap.push (SK.tup.ob l)).objs.size))) { s with heap:=(s.heap.push (SK.tup.ob l)).push { cls:=.type "enumerate",data:=.fields #[.none,.bool false,.ref s.heap.objs.size,rawInt 0,.none,.none] } }) :=
 .of_wp λprog w A R s h=>by
  obtain⟨hp,g,d,tk,os⟩:=s
  obtain⟨w1,h⟩:=h
  have hsub:=sub_enumerate
  have w1:Heap.IsTuple (Shared.heap ⟨hp,g,d,tk,os⟩) l xs:=w1
  obtain⟨o,ho,_⟩:=id w1
  wp_walk using Dx ho,Bu w1
  refine wpAny_stack_any λst=>AK ?_
  split
  ·rename_i c _ _ _ _ _
   cases(c==Value.type "enumerate")<;>(wp_walk using Dx ho,Bu w1;exact⟨_,rfl,h⟩)
  ·wp_walk using Dx ho,Bu w1
   exact⟨_,rfl,h⟩
theorem ZS{k:SK}{l:yJ}{xs:yF}{Q:xZ}{prog:yL}{w:yM}{A:Around}{E:xZ}{s:yH}(hl:k.seq s.heap l xs)
  (h:∀h',tM k (s.heap.objs.size+1) s.heap.objs.size l 0 h'->(∀c o,s.heap.get? c=some o->h'.get? c=some o)->Q (.ref (s.heap.objs.size+1)) { s with heap:=h' }) :
  wpAny (model prog w) A (call (.type "enumerate") [.ref l]) Q E s:=by
 cases k with
 |lst=>exact call_enumerate_list hl λh' a b _ q=>h h' ⟨⟨_,a⟩,b⟩ q
 |tup =>
  refine callType_new F.called_enumerate (by decide) (F.typeCall_enumerate_1 _) (F.newCall_enumerate_1 _) (λobj=>F.args_object_init_2 obj _) F.entry_enumerate_new (YQ l xs) ⟨hl,?_⟩
  have e1:(s.heap.push (SK.tup.ob l)).objs.size=s.heap.objs.size+1:=Bo ..
  have g2:((s.heap.push (SK.tup.ob l)).push { cls:=.type "enumerate",data:=.fields #[.none,.bool false,.ref s.heap.objs.size,rawInt 0,.none,.none] }).get? (s.heap.push (SK.tup.ob l)).objs.size=some _:=AW _ rfl
  have fin:=h _ ⟨⟨.none,by rw[e1]at g2;exact g2⟩,SK.iter_new (k:=.tup) (AC _ (AW _ rfl))⟩ λc o e=>AC _ (AC _ e)
  rw[<-e1]at fin
  exact⟨⟨_,g2,rfl⟩,fin⟩
noncomputable def OC(K:yG)(k:SK)(a:yJ):It :=
 ⟨λi H=>∃xs x,k.is K H a xs/\xs[i]?=some x,
  λi H v H'=>∃p x,v=.ref p/\H p=none/\H'=HV H p (.tup [.int i,x])/\∀xs,k.is K H a xs->xs[i]?=some x,
  λi H=>∃xs,k.is K H a xs/\xs.length<=i⟩
theorem jU{P:yL}{w:yM}{K:yG}{elts:yE}{x1}{pos:Pos}(k:SK)(a e it:yJ)(ne:e≠it) :
  KY P w K (.Tuple elts x1 pos) (OC K k a) [e,it] e (λi h=>tM k e it a i h) where
 mem:=by simp
 obj:=λi h st c hc=>by
  obtain⟨⟨old,he⟩,h1⟩:=st
  simp only[AY,Bg,DM]at hc
  rcases hc with rfl|rfl
  ·exact⟨_,he,λv q=>by cases(show Data.fields _=Data.cell v from q)⟩
  ·cases k with
   |lst=>obtain⟨o,e,_,d⟩:=h1;exact⟨o,e,λv q=>by rw[d]at q;cases q⟩
   |tup=>obtain⟨o,e,_,d⟩:=h1;exact⟨o,e,λv q=>by rw[d]at q;cases q⟩
 keep:=λi h h' st q=>by
  obtain⟨⟨old,he⟩,h1⟩:=st
  exact⟨⟨old,q e (by simp) _ he⟩,SK.iter_keep h1 λo x=>q it (by simp) o x⟩
 item:=by
  intro X hP hw hK hc i Fq s σ H E I hf st hg
  subst hP hw hK
  obtain⟨xs,x,q1,hx⟩:=hg
  obtain⟨its,r1,p1⟩:=SK.at I q1
  obtain⟨u,hu,ru⟩:=r1.get hx
  have fe:=hf e (by simp)
  have fi:=hf it (by simp)
  have ae:a≠e:=Li I q1 fe
  have ai:a≠it:=Li I q1 fi
  obtain⟨⟨old,he⟩,h1⟩:=id st
  have lt:i<its.toArray.size:=by
   have:=(AZ.mp hu).1
   simpa using this
  refine wpAny_pyNext_enum_itemD (Ze (A:=X.A.in1) (I.ok.hd hc) k it a ai its.toArray) he ⟨h1,p1⟩ lt ne (by simp only[AY,Bg,DM,not_or];exact⟨ne,ae.symm⟩) λv h' tk hv a1 a2 a3 _ a4=>?_
  have hv':u=v:=by
   have:its[i]?=some v:=by simpa using hv
   rw[hu]at this
   exact Aq this
  subst hv'
  refine⟨_,rfl,wpAny_letOwnedTupleGo_enum (s:={ s with heap:=h',toks:=tk+1 }) a1 λh'' b1 b2=>?_⟩
  have kp:∀c o,c∉[e,it]->s.heap.get? c=some o->h''.get? c=some o:=λc o hc x=>by
   simp only[AY,Bg,DM,not_or]at hc
   exact b2.extBut _ _ hc.1 (a4 c o hc.1 hc.2 x)
  have elt:e<s.heap.objs.size:=AU he
  have hT:=b2.extBut _ _ (CS elt) a3
  have hn:H s.heap.objs.size=none:=I.fresh
  have hok:Ii X.prog X.w (HV H s.heap.objs.size (.tup [.int i,x])) h'':=λc o z=>by
   by_cases hc:c=s.heap.objs.size
   ·subst hc
    rw[HR]at z
    cases z
    exact⟨by show 2<=sizeLine;decide,[.int i tk,u],.cons ⟨tk,rfl⟩ (.cons ru .nil),⟨_,hT,rfl,_,rfl,rfl⟩⟩
   ·rw[Hw hc]at z
    refine(I.hok c o z).stay (λd v2 hd q=>kp d v2 (λm=>?_) q) (λd q=>by rw[Hw (Jd q hn)];exact q) λd xs q=>by rw[Hw (Jd q hn)];exact q
    have z2:=(hf d m).1
    rcases hd with rfl|hd
    ·rw[z]at z2;cases z2
    ·rw[hd]at z2;cases z2
  have I9:Inv X Fq σ (HV H s.heap.objs.size (.tup [.int i,x])) { s with heap:=h'',toks:=tk+1 }:=W1 (s:=s) I hf kp (λc hc=>Hw (Au hc)) hok
  refine⟨.ref s.heap.objs.size,HV H s.heap.objs.size (.tup [.int i,x]),I9,rfl,⟨s.heap.objs.size,x,rfl,hn,rfl,λzs hz=>by rw[SK.inj I hz q1];exact hx⟩,?_,λc hc=>?_⟩
  ·refine⟨⟨u,?_⟩,SK.iter_keep a2.1 λo x=>b2.extBut _ _ ne.symm x⟩
   rw[Int.natCast_add]
   exact b1
  ·have hlt:c<s.heap.objs.size:=by
    simp only[AY,Bg,DM]at hc
    rcases hc with rfl|rfl
    ·exact elt
    ·exact SK.iter_lt h1
   rw[Hw (Au hlt)]
   exact(hf c hc).1
 done:=by
  intro X hP hw hK hc i Fq s σ H E I hf st hg
  subst hP hw hK
  obtain⟨xs,q1,hx⟩:=hg
  obtain⟨its,r1,p1⟩:=SK.at I q1
  have fe:=hf e (by simp)
  have fi:=hf it (by simp)
  have ai:a≠it:=Li I q1 fi
  have l1:=r1.length
  obtain⟨⟨old,he⟩,h1⟩:=id st
  have hT:s.TypeIs (.ref e) "enumerate" := ⟨_,he,rfl⟩
  unfold pyNext
  refine AA (Df (Bb (name:=Str.ofString "__next__") hT GI (B9 GI hT F.entry_enumerate_next ?_ (F.args_enumerate_next_1 _))))
  show wpAny _ _ (field (.ref e) 2>>=λ_=>_) _ _ _
  refine AA (Bw he rfl (x:=Value.ref it) rfl (AA (SK.stop (show X.A.in1.handled=none from I.ok.hd hc) h1 p1 (by simp;lia) λh' z q hz=>?_)))
  obtain⟨o,ho,hcl⟩:=hz
  refine AA (FK (T := "StopIteration") (b:=true) ⟨o,ho,hcl⟩ Gf (AK ⟨rfl,?_⟩))
  have kp:∀c o,c∉[it]->s.heap.get? c=some o->h'.get? c=some o:=λc o hc x=>q c o (by simpa using hc) x
  have hf1:∀c∈[it],Kz X Fq H c:=λc hc=>by rw[AS.mp hc];exact fi
  refine W1 (h':=h') (t':=s.toks) I hf1 kp (λc _=>rfl) λc o z=>?_
  refine(I.hok c o z).stay (λd v2 hd q=>kp d v2 (λm=>?_) q) (λd q=>q) λd xs q=>q
  have z2:=(hf1 d m).1
  rcases hd with rfl|hd
  ·rw[z]at z2;cases z2
  ·rw[hd]at z2;cases z2
 self:=λ_ _ _ _ _ st h=>by
  obtain⟨⟨old,he⟩,_⟩:=st
  exact wpAny_pyIter_enum he h
noncomputable def Xo(K:yG)(k:SK)(ta:TA):TI:=λσ H R=>ta σ H λvs H1=>∃a,vs=[.ref a]/\(∃xs,k.is K H1 a xs)/\R (OC K k a) H1
theorem WE{X:Cx}{ea:Expr}{ta:TA}{p pos tp:Pos}{elts:yE}{x1}(k:SK)(hg:Gl X "enumerate")(hm:X.mg "enumerate" = none)(ha:PA X [ea] ta)(hs:starEach [ea] X.env=(false,eval ea X.env)::starEach [] X.env:=by rfl)(hs2:(backTo pos (starEach [] X.env)).any (·.1)=false:=by rfl) :
  PI X (.Tuple elts x1 tp) (.Call (.Name "enumerate" p) [ea] [] pos) (Xo X.K k ta):=by
 intro Fq s σ H R I h
 refine Call_ (Ks I hg hm boot_enumerate (BY (Hk (ha pos Fq s σ H _ I h) λus s1 ⟨vs,H1,I1,r1,q1⟩=>?_) hs hs2))
 obtain⟨a,rfl,⟨xs,ex⟩,q⟩:=q1
 obtain⟨u,rfl,ru⟩:=KN r1
 cases ru
 obtain⟨its,r1,p1⟩:=SK.at I1 ex
 refine ZS p1 λh' Z kp=>?_
 obtain⟨⟨old,he⟩,_⟩:=id Z
 refine wpAny_pyIter_enum he ?_
 have I2:Inv X Fq σ H1 { s1 with heap:=h' }:=I1.kept (t':=s1.toks) kp
 refine⟨_,[s1.heap.objs.size+1,s1.heap.objs.size],_,_,H1,rfl,I2,jU k a _ _ (Nat.succ_ne_self _),Z,λc hc=>?_,q⟩
 have ge:s1.heap.objs.size<=c:=by
  simp only[AY,Bg,DM]at hc
  rcases hc with rfl|rfl
  ·exact Cn _ _
  ·exact AH _
 exact I1.fpOk ge (I1.hok.fresh ge)
theorem rP{K:yG}{k:SK}{a:yJ}{xs:List V}{g:TG}{tb:TS}{D:Jx}{σ:St}{H:Hp}(Pv:Nat->St->Hp->Prop)(h0:Pv 0 σ H)(hl:∀i σ H,Pv i σ H->k.is K H a xs)
  (hs:∀i x p σ H,xs[i]?=some x->H p=none->Pv i σ H->g (.ref p) σ (HV H p (.tup [.int i,x])) λσ2 H2=>tb { D with nx:=Pv (i+1),ct:=Pv (i+1),bk:=D.nx } σ2 H2) (hd:∀σ H,Pv xs.length σ H->D.nx σ H) :
  ∃W:Nat->Nat->St->Hp->Prop,(∃m,W 0 m σ H)/\∀i m σ H,W i m σ H ->
   ((OC K k a).stop i H/\D.nx σ H)∨((OC K k a).go i H/\∃N:St->Hp->Prop,(∀σ' H',N σ' H'->∃m',m'<m/\W (i+1) m' σ' H')/\∀x H',(OC K k a).yld i H x H'->g x σ H' λσ2 H2=>tb { D with nx:=N,ct:=N,bk:=D.nx } σ2 H2):=by
 refine⟨λi m σ H=>m=xs.length-i/\i<=xs.length/\Pv i σ H,⟨xs.length,by simp,Az _,h0⟩,?_⟩
 rintro i m σ H ⟨rfl,hi,p⟩
 have l1:=hl i σ H p
 by_cases hlt:i<xs.length
 ·refine .inr ⟨⟨xs,xs[i],l1,AL (by lia)⟩,Pv (i+1),λσ' H' p'=>⟨xs.length-(i+1),by lia,rfl,hlt,p'⟩,λx H' y=>?_⟩
  obtain⟨q,x,rfl,hq,rfl,hx⟩:=y
  exact hs i x q σ H (hx xs l1) hq p
 ·have e:i=xs.length:=by lia
  subst e
  exact .inl ⟨⟨xs,l1,AH _⟩,hd σ H p⟩
instance Z7:Dat Str where
 is:=λ_ v b=>v=.str b
 mono:=λ_ h=>h
 inj:=λh h'=>by rw[h]at h';cases h';rfl
 dep:=0
 eqb:=λa b=>a==b
 eqb_iff:=λa b=>beq_iff_eq
 eqAt:=λ{X Fq σ H s A v v' u u' a b} I hu h h' r r'=>by
  subst h h'
  obtain⟨t,rfl⟩:=r
  obtain⟨t',rfl⟩:=r'
  exact SeqAt.EqAt.str_str _ _ _ _
section
variable{prog:yL}{w:yM}{A:Around}{E:xZ}{s:yH}
theorem mX{t sl:yJ}{items:yF}{vl vu:yI}{lo hi:Option Int}{Q:xZ}(ht:IsTup s.heap t items)(hs:s.heap.IsSliceOf sl vl vu .none)(pl:IsPart vl lo)(pu:IsPart vu hi)
  (w1:HT.sIx items.size 0 lo=0) (w2:HT.sIx items.size items.size hi=items.size) (h:Q (.ref t) s):wpAny (model prog w) A (getItem (.ref t) (.ref sl)) Q E s:=by
 obtain⟨os,hos,hcs,hds⟩:=id hs
 have hTs:s.TypeIs (.ref sl) "slice" := ⟨os,hos,hcs⟩
 unfold getItem
 try with_reducible refine DR ?_
 first|refine AA (AK ?_)|skip
 refine AA (wpAny_sequenceKey ht.typeIs (by decide) (AA (Bb (name:=Str.ofString "__getitem__") ht.typeIs Bn (B9 Bn ht.typeIs entry_tuple_getitem ?_ (args_tuple_getitem _ _)))))
 show wpAny _ _ (Builtin.Tuple.tupleItemsOf (.ref t)>>=λ_=>_) _ _ s
 refine AA (tupleItemsOf_ ht (AA (HL hTs ?_)))
 rw[AF (by decide)]
 refine AA (HT.sliceApplied_gen hs pl pu ?_)
 rw[w1,w2]
 show wpAny _ _ (if (((0:Nat):Int)==0&&(1:Int)==1&&(items.size-0)==items.size)=true then _ else _) _ _ s
 rw[AF (by simp)]
 refine AA ?_
 refine AA (m:=Builtin.Tuple.tupleIsExact (.ref t)) ?_
 unfold Builtin.Tuple.tupleIsExact
 refine AA (HL ht.typeIs (AK (AK ?_)))
 rw[AF (by decide)]
 exact AA (CW (AK ⟨_,rfl,AK h⟩))
end
section
variable{X:Cx}
noncomputable def kM(K:yG):V->Option Int->Option Int->Hp->VK->Prop:=λx lo hi H Q=>∃a xs,x=.ref a/\HM K H a xs/\HT.sIx xs.length 0 lo=0/\HT.sIx xs.length xs.length hi=xs.length/\Q (.ref a) H
theorem Xa:Lr X (kM X.K):=by
 intro Fq s σ H x v vl vu lo hi sl Q I rx hs pl pu h
 obtain⟨a,xs,rfl,hx,w1,w2,q⟩:=h
 cases rx
 obtain⟨its,r,ht,hz⟩:=I.tuple hx
 have Hm:its.toArray.size=xs.length:=by rw[At];exact r.length.symm
 exact⟨"tuple",_,Bn.lookup,ht.typeIs,mX ht hs pl pu (by rw[Hm];exact w1) (by rw[Hm];exact w2) ⟨.ref a,H,I,rfl,q⟩⟩
theorem rN:Lr X (λx lo hi H Q=>∃(a:yJ)(r:xX),x=.ref a/\lo=some 1/\hi=none/\H a=some (.tup (r.map V.int))/\∀(p:yJ)(H':Hp),Gp H H'->H' p=some (.tup ((r.drop 1).map V.int))->Q (.ref p) H'):=by
 intro Fq s σ H x v vl vu lo hi sl Q I rx hs pl pu h
 obtain⟨a,r,rfl,rfl,rfl,ha,q⟩:=h
 cases r with
 |nil=>exact Xa Fq s σ H _ v vl vu _ _ sl Q I rx hs pl pu ⟨a,[],rfl,HM.of ha,rfl,rfl,q a H (λ_ _ e=>e) ha⟩
 |cons n r =>
  refine RK Fq s σ H _ v vl vu _ _ sl Q I rx hs pl pu ⟨a,_,rfl,HM.of ha,λz=>?_,λp hp=>?_⟩
  ·have z1:=z.1
   rw[show(1:Int)=((1:Nat):Int) from rfl,HT.sIx_nat,AB,Am]at z1
   lia
  ·refine q p _ (HW hp _) ?_
   rw[HR]
   unfold KQ
   rw[show(1:Int)=((1:Nat):Int) from rfl,HT.sIx_nat,HT.sIx_none,AB,Am,C7 (by lia),Ab (by simp),EE]
theorem Om:Lr X (λx lo hi H Q=>∃(a:yJ)(r:xX)(k:Nat),x=.ref a/\lo=none/\hi=some (k:Int)/\H a=some (.tup (r.map V.int))/\∀(p:yJ)(H':Hp),Gp H H'->H' p=some (.tup ((r.take k).map V.int))->Q (.ref p) H'):=by
 intro Fq s σ H x v vl vu lo hi sl Q I rx hs pl pu h
 obtain⟨a,r,k,rfl,rfl,rfl,ha,q⟩:=h
 by_cases c:r.length<=k
 ·refine Xa Fq s σ H _ v vl vu _ _ sl Q I rx hs pl pu ⟨a,_,rfl,HM.of ha,HT.sIx_none _ _,?_,q a H (λ_ _ e=>e) (by rw[Ab c];exact ha)⟩
  rw[HT.sIx_nat,AB]
  lia
 ·refine RK Fq s σ H _ v vl vu _ _ sl Q I rx hs pl pu ⟨a,_,rfl,HM.of ha,λz=>?_,λp hp=>?_⟩
  ·have z2:=z.2
   rw[HT.sIx_nat,AB]at z2
   lia
  ·refine q p _ (HW hp _) ?_
   rw[HR]
   unfold KQ
   rw[HT.sIx_nat,HT.sIx_none,AB,DY,HE,C7 (by lia),Gu]
end
section
variable{X:Cx}
theorem Xt:Lr X (λx lo hi H Q=>∃(a:yJ)(r:xX)(k:Nat),x=.ref a/\lo=some (k:Int)/\hi=none/\H a=some (.tup (r.map V.int))/\∀(p:yJ)(H':Hp),Gp H H'->H' p=some (.tup ((r.drop k).map V.int))->Q (.ref p) H'):=by
 intro Fq s σ H x v vl vu lo hi sl Q I rx hs pl pu h
 obtain⟨a,r,k,rfl,rfl,rfl,ha,q⟩:=h
 by_cases c:min k r.length=0
 ·have e:r.drop k=r:=by
   rcases Nat.min_eq_zero_iff.mp c with z|z
   ·rw[z];rfl
   ·rw[B7.mp z,List.drop_nil]
  exact Xa Fq s σ H _ v vl vu _ _ sl Q I rx hs pl pu ⟨a,_,rfl,HM.of ha,by rw[HT.sIx_nat,AB];exact c,HT.sIx_none _ _,q a H (λ_ _ e=>e) (by rw[e];exact ha)⟩
 ·refine RK Fq s σ H _ v vl vu _ _ sl Q I rx hs pl pu ⟨a,_,rfl,HM.of ha,λz=>?_,λp hp=>?_⟩
  ·have z1:=z.1
   rw[HT.sIx_nat,AB]at z1
   exact c z1
  ·refine q p _ (HW hp _) ?_
   rw[HR]
   unfold KQ
   rw[HT.sIx_nat,HT.sIx_none,AB,Ab (by rw[BG,AB];lia),EE]
   by_cases c2:k<=r.length
   ·rw[C7 c2]
   ·rw[FB (by lia),Ct (by rw[AB];lia),Ct (by rw[AB];lia)]
theorem sQ:Iq X (compareOp .NotIn) (λx y H Q=>∃(n:Int)(p:yJ)(r:xX),x=.int n/\y=.ref p/\H p=some (.tup (r.map V.int))/\Q (.bl (!decide (n∈r))) H):=by
 intro Fq s σ H x y v u Q I rx ry h
 obtain⟨n,p,r,rfl,rfl,hp,q⟩:=h
 have e:Qc (.int n) (r.map V.int)=decide (n∈r):=by
  unfold Qc
  clear hp q
  induction r with
  |nil=>rfl
  |cons y r ih =>
   rw[Ai,CM,ih]
   by_cases c:y=n
   ·subst c
    rw[show Mo (.int y) (.int y)=true from CY y,Ac (AG ..)]
    rfl
   ·rw[show Mo (.int y) (.int n)=false from beq_eq_false_iff_ne.mpr c,Gr]
    by_cases d:n∈r
    ·rw[Ac d,Ac (AE _ d)]
    ·rw[Aa d,Aa (λz=>(AY.mp z).elim (λz=>c z.symm) d)]
 refine tQ Fq s σ H _ _ v u Q I rx ry ⟨p,_,rfl,.inr (HM.of hp),rfl,?_,?_⟩
 ·rw[Du];exact AR.mpr λ_ _=>rfl
 ·rw[AF rfl,e];exact q
end
theorem wT:fillsNumberSlot (.type "tuple") "mul" = pure false :=
 PySem.fillsNumberSlot_seq (id := "tuple.__mul__") (r:=some (.builtin "tuple.__rmul__")) Cu.lookup (by decide +kernel) FU.lookup (by decide +kernel)
theorem cI:seqRepeat? (.type "tuple")=pure (some (.builtin "tuple.__mul__")):=by
 unfold seqRepeat?
 rw[PySem.seqSlot_of (T := "tuple") (name := "__mul__") (id := "tuple.__mul__") Cu.lookup (by decide +kernel),PySem.seqSlot_of (T := "tuple") (name := "__rmul__") (id := "tuple.__rmul__") FU.lookup (by decide +kernel)]
 rfl
theorem pN(a:Int)(t:Tok)(l:yJ)(items:yF)(n:Nat)(dd:Option yJ)(sl:Array yD) :
  Meets (Builtin.«int.__rmul__» ⟨[.int a t,.ref l],[]⟩) (λ_ R s=>s.heap.get? l=some ⟨.type "tuple",dd,.seq items n,sl⟩/\R (.ok (.ret Value.notImplemented)) s) :=
 .of_wp λprog w A R s h=>by
  obtain⟨hp,g,d,tk,os⟩:=s
  obtain⟨hl,h⟩:=h
  wp_walk
  exact⟨_,rfl,h⟩
theorem X4(l:yJ)(items:yF)(n:Nat)(dd:Option yJ)(sl:Array yD)(u:Tok) :
  Meets (Builtin.«tuple.__mul__» ⟨[.ref l,.int 1 u],[]⟩) (λ_ R s=>s.heap.get? l=some ⟨.type "tuple",dd,.seq items n,sl⟩/\R (.ok (.ret (.ref l))) s) :=
 .of_wp λprog w A R s h=>by
  obtain⟨hp,g,d,tk,os⟩:=s
  obtain⟨hl,h⟩:=h
  have hc:(items.isEmpty||(1:Int)==1)=true:=by rw[CY,Bool.or_true]
  wp_walk
  exact⟨_,rfl,h⟩
theorem cU(l:yJ)(items:yF)(n:Nat)(dd:Option yJ)(sl:Array yD)(k:Int)(u:Tok)(hi:items.isEmpty=false)(h0:k<=0)(h1:-(2^63)<=k) :
  Meets (Builtin.«tuple.__mul__» ⟨[.ref l,.int k u],[]⟩) (λ_ R s=>s.heap.get? l=some ⟨.type "tuple",dd,.seq items n,sl⟩/\R (.ok (.ret (.ref s.heap.objs.size))) { s with heap:=s.heap.push { cls:=.type "tuple",data:=.seq #[] } }) :=
 .of_wp λprog w A R s h=>by
  obtain⟨hp,g,d,tk,os⟩:=s
  obtain⟨hl,h⟩:=h
  have hf:¬ (decide (k < -(2^63))||decide (k ≥ 2^63))=true:=by rw[Aa (by lia),Aa (by lia)];exact Ae
  have hc:¬ (items.isEmpty||k==1)=true:=by rw[hi,show(k==1)=false from beq_eq_false_iff_ne.mpr (by lia)];exact Ae
  have hz:(decide (k<=0)||items.isEmpty)=true:=by rw[Ac h0];rfl
  wp_walk
  refine Cj (Aa hf) ?_
  wp_walk
  refine Cj (Aa hc) ?_
  wp_walk
  exact⟨_,rfl,h⟩
theorem Xv(l:yJ)(items:yF)(n:Nat)(dd:Option yJ)(sl:Array yD)(k:Int)(u:Tok)(hi:items.isEmpty=false)(h0:2<=k)(h1:k<2^63)(hz:items.size*k.toNat<=sizeLine) :
  Meets (Builtin.«tuple.__mul__» ⟨[.ref l,.int k u],[]⟩) (λ_ R s=>s.heap.get? l=some ⟨.type "tuple",dd,.seq items n,sl⟩/\R (.ok (.ret (.ref s.heap.objs.size))) { s with heap:=s.heap.push { cls:=.type "tuple",data:=.seq ((List.replicate k.toNat items).foldl (λx1 x2=>x1++x2) #[]) } }) :=
 .of_wp λprog w A R s h=>by
  obtain⟨hp,g,d,tk,os⟩:=s
  obtain⟨hl,h⟩:=h
  have e:(items.size:Int)*k=((items.size*k.toNat:Nat):Int):=by rw[BW,DO (by lia)]
  have hs:(sizeLine:Nat)<=(2^63-1) / 8:=by decide
  have hf:¬ (decide (k < -(2^63))||decide (k ≥ 2^63))=true:=by rw[Aa (by lia),Aa (by lia)];exact Ae
  have hc:¬ (items.isEmpty||k==1)=true:=by rw[hi,show(k==1)=false from beq_eq_false_iff_ne.mpr (by lia)];exact Ae
  have hz1:¬ (decide (k<=0)||items.isEmpty)=true:=by rw[Aa (by lia),hi];exact Ae
  have hm:¬ (items.size:Int)*k>(2^63-1) / 8:=by rw[e];lia
  have ht:¬ Builtin.Tuple.tupleTooMany ((items.size:Int)*k)=true:=by
   unfold Builtin.Tuple.tupleTooMany
   rw[e,Aa (by lia)]
   exact Ae
  have hsz:sizeOk (.seq ((List.replicate k.toNat items).foldl (λx1 x2=>x1++x2) #[])):=by
   show((List.replicate k.toNat items).foldl (λx1 x2=>x1++x2) #[]).size<=sizeLine
   have:∀(m:Nat)(acc:yF),((List.replicate m items).foldl (λx1 x2=>x1++x2) acc).size=acc.size+items.size*m:=by
    intro m
    induction m with
    |zero=>intro acc;simp
    |succ m ih=>intro acc;rw[A1,B5,ih,Array.size_append,Nat.mul_succ];lia
   rw[this]
   simpa using hz
  wp_walk
  refine Cj (Aa hf) ?_
  wp_walk
  refine Cj (Aa hc) ?_
  wp_walk
  refine Cj (Aa hz1) ?_
  wp_walk
  refine Cj (Aa hm) ?_
  wp_walk
  refine Cj (Aa ht) ?_
  wp_walk
  refine Cj (Aa (Gj.mpr hsz)) ?_
  wp_walk
  exact⟨_,rfl,h⟩
theorem kA(r:xX)(k:Nat):(List.replicate k (r.map V.int)).flatten=((List.replicate k r).flatten).map V.int:=by
 induction k with
 |zero=>rfl
 |succ k ih=>rw[A1,A1,Bl,Bl,Ar,ih]
theorem oB(l:xY):∀m:Nat,(List.replicate m l.toArray).foldl (λx1 x2=>x1++x2) #[]=(List.replicate m l).flatten.toArray:=λm=>by
 have:∀(m:Nat)(acc:xY),(List.replicate m l.toArray).foldl (λx1 x2=>x1++x2) acc.toArray=(acc++(List.replicate m l).flatten).toArray:=by
  intro m
  induction m with
  |zero=>intro acc;simp
  |succ m ih =>
   intro acc
   rw[A1,B5,List.append_toArray,ih,A1,Bl,An]
 exact this m []
section
variable{X:Cx}
theorem Md:Iq X (binaryOp .Mult) (λx y H Q=>∃(p:yJ)(r:xX)(k:Int),x=.ref p/\y=.int k/\H p=some (.tup (r.map V.int))/\r≠[]/\-(2^63)<=k/\k<2^63/\r.length*k.toNat<=sizeLine /\
  ∀(t:yJ)(H':Hp),Gp H H'->H' t=some (.tup (((List.replicate k.toNat r).flatten).map V.int))->Q (.ref t) H'):=by
 intro Fq s σ H x y v u Q I rx ry h
 obtain⟨p,r,k,rfl,rfl,hp,hne,h1,h2,hz,q⟩:=h
 cases rx
 obtain⟨t,rfl⟩:=ry
 obtain⟨its,rv,p1,_⟩:=I.tuple (HM.of hp)
 obtain⟨⟨cls,dd,data,sl⟩,ho,hc,n,hd⟩:=id p1
 simp only at hc hd
 subst hc hd
 have hl:=rv.length
 rw[AB]at hl
 have hi:its.toArray.isEmpty=false:=by
  cases its with
  |nil=>exact absurd (B7.mp (by rw[hl];rfl)) hne
  |cons a b=>rfl
 refine Ez (T := "tuple") (U := "int") (by decide) ⟨_,ho,rfl⟩ (λs'=>Ey s' k t) wT PySem.F.fills_int_mul GQ cI PySem.F.slot_int_index.lookup
  (DE GQ (Ey s k t) PySem.F.entry_int_rmul (PySem.F.args_int_rmul_2 _ _) (pN k t p its.toArray n dd sl) ⟨ho,rfl,⟨_,ho,rfl⟩,?_⟩)
 by_cases c1:k=1
 ·subst c1
  refine DE Cu ⟨_,ho,rfl⟩ D7 (Dy _ _) (X4 p its.toArray n dd sl t) ⟨ho,?_⟩
  exact⟨.ref p,H,I,rfl,q p H (λ_ _ e=>e) (by rw[hp];simp)⟩
 ·by_cases c0:k<=0
  ·refine DE Cu ⟨_,ho,rfl⟩ D7 (Dy _ _) (cU p its.toArray n dd sl k t hi c0 h1) ⟨ho,?_⟩
   refine⟨.ref s.heap.objs.size,HV H s.heap.objs.size (.tup []),I.laid (t':=s.toks) (o:=.tup []) (λb ob q=>AC _ q) (AH _) ⟨Az _,[],.nil,Jv.new _ _⟩,rfl,q _ _ (HW I.fresh _) ?_⟩
   rw[HR,show k.toNat=0 by lia]
   rfl
  ·refine DE Cu ⟨_,ho,rfl⟩ D7 (Dy _ _) (Xv p its.toArray n dd sl k t hi (by lia) h2 (by rw[At,<-hl];exact hz)) ⟨ho,?_⟩
   rw[oB]
   refine⟨.ref s.heap.objs.size,HV H s.heap.objs.size (.tup ((List.replicate k.toNat (r.map V.int)).flatten)),I.laid (t':=s.toks) (o:=.tup ((List.replicate k.toNat (r.map V.int)).flatten)) (λb ob q=>AC _ q) (AH _) ⟨?_,_,rv.rep k.toNat,Jv.new _ _⟩,rfl,q _ _ (HW I.fresh _) ?_⟩
   ·rw[Sg,AB,C0];exact hz
   ·rw[HR,kA]
end
end L2.Ev
namespace L2.Ev
open PySem PySem.Spec PyProof.Rows
open L2.Ts L2.Pl L2.Rw
end L2.Ev
namespace L2.Ev
open PySem PySem.Spec PyProof.Rows
theorem XY{env:Env}:∀{names:List (Str×yO)}{x:Str}{k:yO},(k=.cell∨k=.free) ->
  (names.map λ(n,k)=>if (k==NameKind.free&&env.scope.kind==.function&&env.kindOf n==some .cell) then (n,NameKind.cell) else (n,k)).lookup x=some k->(x,NameKind.free)∈names∨(x,NameKind.cell)∈names
 |[],_,_,_,h=>by simp at h
 |(n,j)::r,x,k,hk,h=>by
  have h':List.lookup x ((if (j==NameKind.free&&env.scope.kind==.function&&env.kindOf n==some .cell)=true then (n,NameKind.cell) else (n,j))::r.map λ(n,k)=>if (k==NameKind.free&&env.scope.kind==.function&&env.kindOf n==some .cell) then (n,NameKind.cell) else (n,k))=some k:=h
  by_cases c:(j==NameKind.free&&env.scope.kind==.function&&env.kindOf n==some .cell)=true
  ·rw[AF c,BP]at h'
   simp only[AI]at c
   have ej:j=.free:=by simpa using c.1.1
   cases hy:x==n with
   |true =>
    have e1:x=n:=by simpa using hy
    subst e1 ej
    exact .inl AG
   |false=>rw[hy]at h';exact(XY hk h').imp (AE _) (AE _)
  ·rw[AD c,BP]at h'
   cases hy:x==n with
   |true =>
    rw[hy]at h'
    have e1:x=n:=by simpa using hy
    have e2:j=k:=by simpa using h'
    subst e1 e2
    rcases hk with hk|hk
    ·subst hk;exact .inr AG
    ·subst hk;exact .inl AG
   |false=>rw[hy]at h';exact(XY hk h').imp (AE _) (AE _)
noncomputable abbrev KL(X:Cx)(N':yB)(z:Str)(scope:Scope)(b:Bk):Cx :=
 { X with N:=N',s₀:=b.s,H₀:=b.H,env:=compEnvC scope ((z,b.C+1)::KJ X.env.cells scope.names []) b.C X.env,outer:=X.stack,stack:=X.stack,ex:=b.ex,fn:=λx=>x==z,pn:=[],xe:=λ_ _=>False }
structure Jq(X:Cx)(N':yB)(src:List (Option Nat))(z:Str)(scope:Scope):Prop where
 kind:scope.kind=.function
 cells:∀n acc,cellsFrom n scope.names acc=(z,n)::acc
 push:∀h:Heap,pushCells h scope.names=h.push { cls:=.type "cell",data:=.cell none }
 own:∀y∈scope.names,y.2=.cell->y.1=z
 isz:scope.names.lookup z=some .cell
 names:∀y∈scope.names,y.2=.local->scope.names.lookup y.1=some .local
 frees:∀y∈scope.names,y.2=.free->X.env.kindOf y.1=some .cell∨X.env.kindOf y.1=some .free
 len:src.length=N'.length
 out:∀i j:Nat,src[i]?=some (some j)->∃x:Str,N'[i]?=some x/\X.N[j]?=some x/\scope.names.lookup x=some .free
theorem Xk{M:Model}{A:Around}{E:xZ}{s:yH}{scope:Scope}{globals:yJ}{closure:List (Str×yJ)}{qual:Str}{func:Option yJ}{O1:yI}{outer:Env}{builtins:yJ}{Q:Env->yH->Prop}{z:Str}
  (hc:∀n acc,cellsFrom n scope.names acc=(z,n)::acc) (hp:∀h:Heap,pushCells h scope.names=h.push { cls:=.type "cell",data:=.cell none })
  (hQ:Q (newEnv scope s.heap.objs.size globals ((z,s.heap.objs.size+1)::closure) qual func O1 (some outer) builtins) { s with heap:=(s.heap.push { cls:=.type "dict",data:=.dict #[] }).push { cls:=.type "cell",data:=.cell none } }) :
  wpAny M A (newFunctionEnv scope globals closure [] qual func O1 (some outer) builtins) Q E s:=by
 simp only[newFunctionEnv,Option.isSome_some,CQ]
 refine AA (wpAny_alloc ?_)
 refine AA (wpAny_layCells _ (λname kind cells=>by cases hkc:kind==NameKind.cell<;>simp [hkc]) _ _ _ _ ?_)
 rw[hc,hp,show({ s with heap:=s.heap.push { cls:=.type "dict",data:=.dict #[] } }:yH).heap.objs.size=s.heap.objs.size+1 from Bo ..]
 rw[F0]
 exact AA (AK (AK hQ))
theorem qU{X:Cx}{elt tg iter:Expr}{ifs:yE}{scope:Scope}{pos pos':Pos}{N':yB}{z:Str}{src:List (Option Nat)}{wi:TI}{g:Bk->TG}{tc:Bk->TT}{te:Bk->TE}(hc:X.calm=true)(hi:PI X tg iter wi)(S:Jq X N' src z scope)
  (hg:∀b,PG (KL X N' z scope b) tg (g b)) (ht:∀b,Py (KL X N' z scope b) ifs (tc b)) (he:∀b,PE (KL X N' z scope b) elt (te b)) (hs:∀x,foldedSetIterable iter X.env x=pure x) (use:Option (yI->Sem Unit)) (R:xZ)
  {Fq:yA} {s:yH} {σ:St} {H:Hp} {Q:V->Hp->Prop} (I:Inv X Fq σ H s) (h:VO src wi g tc te σ H Q)
  (fin:∀(D C:yJ)(H5:Hp)(s6:yH)(m:Str->yD),s6.heap.Ns C m->Kz X Fq H5 C->(∀h',Heap.SameBut C s6.heap h'->Inv X Fq σ H5 { s6 with heap:=h' })->Q (.ref D) H5->compPost (model X.prog X.w) X.A X.xe use R (.ref D) C (.ok .next) s6) :
  wpAny (model X.prog X.w) X.A (comprehension (.ListComp elt [⟨tg,iter,ifs,0⟩] scope pos) scope X.env pos' (newList []) false (eval iter X.env) use) R X.xe s:=by
 have hfr:∀x∈scope.names,x.2=.free->∃c,X.env.cells.lookup x.1=some c:=λx hx hf=>I.ok.has x.1 (S.frees x hx hf)
 have clS:∀x c,(KJ X.env.cells scope.names []).lookup x=some c->X.env.cells.lookup x=some c:=WI hfr (λx c e=>by simp at e)
 refine FL (use:=use) rfl hs (vT scope.names hfr []) S.kind S.names ?_
 refine Hk (hi Fq s σ H _ I h) λv s1 h1=>Hk h1 λitv s2 h2=>?_
 obtain⟨it,fp,tn,J,H2,rfl,I2,T,st2,f2,h3⟩:=h2
 have hD:H2 s2.heap.objs.size=none:=I2.fresh
 refine BK ?_
 have I3:Inv X Fq σ (HV H2 s2.heap.objs.size (.lst [])) { s2 with heap:=s2.heap.push { cls:=.type "list",data:=.seq ([]:xY).toArray } } :=
  I2.laid (t':=s2.toks) (λb u e=>AC _ e) (AH _) ⟨Az _,[],0,.nil,AW _ rfl⟩
 have hfp:∀b∈fp,b<s2.heap.objs.size:=λb hb=>by
  obtain⟨o,e,_⟩:=T.obj _ _ st2 b hb
  exact AU e
 have st3:tn 0 (s2.heap.push { cls:=.type "list",data:=.seq ([]:xY).toArray }):=T.keep _ _ _ st2 λb _ o e=>AC _ e
 generalize hs3:({ s2 with heap:=s2.heap.push { cls:=.type "list",data:=.seq ([]:xY).toArray } }:yH)=s3 at I3 ⊢
 have st3':tn 0 s3.heap:=by rw[<-hs3];exact st3
 have hsz3:s3.heap.objs.size=s2.heap.objs.size+1:=by rw[<-hs3];exact Bo ..
 have fp3:∀b∈fp,(HV H2 s2.heap.objs.size (.lst [])) b=none:=λb hb=>by rw[Hw (Au (hfp b hb))];exact(f2 b hb).1
 generalize hDe:s2.heap.objs.size=D at *
 generalize hH3:HV H2 D (.lst [])=H3 at *
 refine Xk S.cells S.push ?_
 generalize hh1:(s3.heap.push { cls:=.type "dict",data:=.dict #[] }).push { cls:=.type "cell",data:=.cell none }=h₁
 have hns₁:h₁.Ns s3.heap.objs.size (λ_=>none):=by rw[<-hh1];exact(Heap.Ns.new s3.heap (.type "dict")).keeps λb o e=>AC _ e
 have old:∀b o,s3.heap.get? b=some o->h₁.get? b=some o:=λb o e=>by rw[<-hh1];exact AC _ (AC _ e)
 have hz1:h₁.get? (s3.heap.objs.size+1)=some { cls:=.type "cell",data:=.cell none }:=by
  rw[<-hh1,<-Bo s3.heap { cls:=.type "dict",data:=.dict #[] }];exact AW _ rfl
 have lk:∀x c,((z,s3.heap.objs.size+1)::KJ X.env.cells scope.names []).lookup x=some c->(x=z/\c=s3.heap.objs.size+1)∨X.env.cells.lookup x=some c:=λx c e=>by
  rw[BP]at e
  cases hy:x==z with
  |true=>rw[hy]at e;exact .inl ⟨by simpa using hy,(Aq e).symm⟩
  |false=>rw[hy]at e;exact .inr (clS x c e)
 have low:∀x c,X.env.cells.lookup x=some c->c<s3.heap.objs.size:=λx c e=>by
  obtain⟨v,o,ho,hd⟩:=I3.cell x c e
  exact AU ho
 have Yok:(KL X N' z scope ⟨s3.heap.objs.size,s3,H3,fp⟩).Ok:=by
  refine⟨I.ok.mod,S.kind,I.ok.glob,I.ok.blt,AH _,λx y c e1 e2=>?_,λx hx=>?_,λx c q e=>?_,I.ok.hd,I.ok.frames,.inl rfl,λb hb=>⟨?_,λx c e=>?_⟩,I3.bs,?_,λb o e hb=>?_,λb hb z=>?_,I3.stack,I3.stkFree⟩
  ·rcases lk x c e1 with⟨q1,q2⟩|q1<;>rcases lk y c e2 with⟨q3,q4⟩|q3
   ·rw[q1,q3]
   ·exact absurd (low y c q3) (by rw[q2];exact Gj.mpr (Cd _))
   ·exact absurd (low x c q1) (by rw[q4];exact Gj.mpr (Cd _))
   ·exact I.ok.inj x y c q1 q3
  ·have hx':(x,NameKind.free)∈scope.names∨(x,NameKind.cell)∈scope.names:=by
    rcases hx with hx|hx
    ·exact XY (env:=X.env) (.inl rfl) hx
    ·exact XY (env:=X.env) (.inr rfl) hx
   show ∃c,((z,s3.heap.objs.size+1)::KJ X.env.cells scope.names []).lookup x=some c
   rw[BP]
   cases hy:x==z with
   |true=>exact⟨_,rfl⟩
   |false =>
    rcases hx' with hx'|hx'
    ·exact Qw (.inr hx')
    ·have:=S.own _ hx' rfl
     simp at hy
     exact absurd this hy
  ·rcases lk x c e with⟨_,q2⟩|q1
   ·rw[q2];exact Cd _
   ·have q':x=z:=by simpa using q
    have e':((z,s3.heap.objs.size+1)::KJ X.env.cells scope.names []).lookup x=some c:=e
    rw[q',BP,CY]at e'
    have e'':s3.heap.objs.size+1=c:=Aq e'
    rw[<-e''];exact Cd _
  ·exact Au (Ax (hfp b hb) (by rw[hsz3];exact Cd _))
  ·rcases lk x c e with⟨_,q2⟩|q1
   ·rw[q2];exact CS (Ax (hfp b hb) (by rw[hsz3];exact As (Cd _) (Cd _)))
   ·exact(f2 b hb).2.2.2.2.1 x c q1
  ·exact As I.ok.bsz I3.sz
  ·rcases (f2 b hb).2.2.2.1 with z|z
   ·exact I.ok.noex b o e z
   ·exact absurd (Ax (AU e) (As I.ok.bsz z)) (Bz _)
  ·rcases AY.mp (I3.stkSub b z) with e|e
   ·exact(f2 b hb).2.1 e
   ·exact(f2 b hb).2.2.1 e
 generalize hY:KL X N' z scope ⟨s3.heap.objs.size,s3,H3,fp⟩=Y at Yok
 have I4:Inv (KL X N' z scope ⟨s3.heap.objs.size,s3,H3,fp⟩) [] (Mz src σ) H3 { s3 with heap:=h₁ }:=by
  subst hY
  refine⟨Yok,rfl,I3.bare,Un.kept old,⟨_,hns₁,λi x v e1 e2 e3=>?_⟩,λx c e=>?_,I3.fresh,λx c e=>?_,λp hp=>by simp at hp,I3.hok.kept old,?_⟩
  ·unfold Mz at e2
   rw[Ag]at e2
   cases hsrc:src[i]? with
   |none=>rw[hsrc]at e2;cases e2
   |some o =>
    rw[hsrc]at e2
    cases o with
    |none=>have e2':some (none:Option V)=some (some v):=e2;cases e2'
    |some j =>
     have e2':some ((σ[j]?).bind id)=some (some v):=e2
     have e2'':(σ[j]?).bind id=some v:=Aq e2'
     have hσ:σ[j]?=some (some v):=by
      cases q:σ[j]? with
      |none=>rw[q]at e2'';cases e2''
      |some z =>
       rw[q]at e2''
       have:z=some v:=e2''
       rw[this]
     obtain⟨x',n1,n2,n3⟩:=S.out i j hsrc
     have ex:x'=x:=Aq (n1.symm.trans e1)
     subst ex
     obtain⟨m0,_,hl⟩:=I3.loc
     have hk:=S.frees (x',.free) (mem_of_lookup n3) rfl
     have hvis:Ui X.env.scope x':=hk.elim (λz=>.inr (.inl z)) λz=>.inr (.inr z)
     obtain⟨u,r,l⟩:=hl j x' v n2 hσ hvis
     refine⟨u,r,.inr ?_⟩
     rcases l with⟨l1,_⟩|⟨_,c,l2,o,l3,l4⟩
     ·rcases hk with z|z
      ·rw[show X.env.kindOf x'=some .local from l1]at z;cases z
      ·rw[show X.env.kindOf x'=some .local from l1]at z;cases z
     ·obtain⟨c',hc'⟩:=Qw (cells:=X.env.cells) (names:=scope.names) (acc:=[]) (.inr (mem_of_lookup n3))
      have e4:=clS x' c' hc'
      rw[l2]at e4
      cases e4
      have xz:(x'==z)=false:=by
       cases hy:x'==z with
       |false=>rfl
       |true =>
        have q:x'=z:=by simpa using hy
        rw[q,S.isz]at n3
        cases n3
      exact⟨pK (env:=X.env) n3,c,by show((z,s3.heap.objs.size+1)::KJ X.env.cells scope.names []).lookup x'=some c;rw[BP,xz];exact hc',o,old _ _ l3,l4⟩
  ·rcases lk x c e with⟨_,q2⟩|q1
   ·rw[q2];exact⟨none,_,hz1,rfl⟩
   ·obtain⟨v,o,ho,hd⟩:=I3.cell x c q1
    exact⟨v,o,old _ _ ho,hd⟩
  ·rcases lk x c e with⟨_,q2⟩|q1
   ·rw[q2];exact I3.hok.fresh (Cd _)
   ·exact I3.freeC x c q1
  ·show(Mz src σ).length=N'.length
   unfold Mz
   rw[AB]
   exact S.len
 obtain⟨W,⟨m0,w0⟩,turn⟩:=h3 ⟨s3.heap.objs.size,s3,H3,fp⟩ D hD
 rw[hH3]at w0
 have loop:codeAny (model X.prog X.w) X.A (.compLoop (.ListComp elt [⟨tg,iter,ifs,0⟩] scope pos) 0 (.ref it) (.ref D) (KL X N' z scope ⟨s3.heap.objs.size,s3,H3,fp⟩).env)
   (compPost (model X.prog X.w) X.A X.xe use R (.ref D) s3.heap.objs.size) { s3 with heap:=h₁ }:=by
  have stat:∀{H':Hp},(∀b∈fp,H' b=none)->∀b∈fp,Kz (KL X N' z scope ⟨s3.heap.objs.size,s3,H3,fp⟩) [] H' b:=λhn b hb =>
   ⟨hn b hb,(I4.ok.exf b hb).1,I4.ok.exfs b hb,.inl hb,(I4.ok.exf b hb).2,λp hp=>by simp at hp⟩
  refine uX (λn s'=>∃i σ' H',Inv (KL X N' z scope ⟨s3.heap.objs.size,s3,H3,fp⟩) [] σ' H' s'/\tn i s'.heap/\(∀b∈fp,H' b=none)/\W i n σ' H') ?_ m0
   ⟨0,_,H3,I4,T.keep _ _ _ st3' λb _ o e=>old b o e,fp3,w0⟩
  rintro n s5 ⟨i,σ5,H5,I5,st5,fr5,w5⟩
  rcases turn i n σ5 H5 w5 with⟨stop,qn⟩|⟨go,N,hN,step⟩
  ·refine Hk (T.done (KL X N' z scope ⟨s3.heap.objs.size,s3,H3,fp⟩) rfl rfl rfl hc i [] s5 σ5 H5 _ I5 (stat fr5) st5 stop) λr s6 ⟨hr,I6⟩=>?_
   subst hr
   obtain⟨m,hn,_⟩:=I6.loc
   have hC:H5 s3.heap.objs.size=none:=I6.free
   refine fin D s3.heap.objs.size H5 s6 m hn (I3.fpOk (AH _) hC) (λh' sb=>?_) qn
   have nC:∀b o,s3.heap.get? b=some o->b≠s3.heap.objs.size:=λb o e=>Au (AU e)
   have keep:∀b o,b≠s3.heap.objs.size->s6.heap.get? b=some o->h'.get? b=some o:=λb o hb e=>(sb.2 b hb).trans e
   have hok:Ii X.prog X.w H5 h':=λb u e=>(I6.hok b u e).stay (λc v hc q=>keep c v (by
    rcases hc with z|z
    ·rw[z];intro z2;rw[z2,hC]at e;cases e
    ·intro z2;rw[z2,hC]at z;cases z) q) (λ_ q=>q) λ_ _ q=>q
   have u6:Un (Kc X.stack) fp H3 H5 s3.heap s6.heap:=I6.base
   have un:Un (Kc X.stack) fp H3 H5 s3.heap h':=⟨λb o e n hb hx=>keep b o (nC b o e) (u6.keep b o e n hb hx),λb o e n hb hx=>by
     obtain⟨sl,q⟩:=u6.slot b o e n hb hx
     exact⟨sl,keep b _ (nC b o e) q⟩,u6.free,λb o e hx=>by
     obtain⟨o',q⟩:=u6.there b o e hx
     exact⟨o',keep b _ (nC b o e) q⟩,u6.tups,u6.frzs,u6.tbls⟩
   refine I3.call' (s':={ s6 with heap:=h' }) (ch:=fp) I6.os un hok I6.bare λb hb=>?_
   exact⟨(f2 b hb).2.2.2.1,(f2 b hb).2.1,(f2 b hb).2.2.2.2.1,(f2 b hb).2.2.2.2.2⟩
  ·refine Hk (T.item (KL X N' z scope ⟨s3.heap.objs.size,s3,H3,fp⟩) rfl rfl rfl hc i [] s5 σ5 H5 _ I5 (stat fr5) st5 go) λr s6 ⟨u,hr,h6⟩=>?_
   subst hr
   refine Hk h6 λ_ s7 ⟨x,H7,I7,r7,y7,st7,fr7⟩=>?_
   have I7':=I7.pinned (stat fr7) (T.obj _ _ st7)
   have again:∀{σ9:St}{H9:Hp}{s9:yH},Inv (KL X N' z scope ⟨s3.heap.objs.size,s3,H3,fp⟩) ([]++QW fp s7.heap) σ9 H9 s9->N σ9 H9->∃m,m<n/\∃i σ' H',Inv (KL X N' z scope ⟨s3.heap.objs.size,s3,H3,fp⟩) [] σ' H' s9/\tn i s9.heap/\(∀b∈fp,H' b=none)/\W i m σ' H':=λ{σ9 H9 s9} I9 n9=>by
    obtain⟨m',hm,w9⟩:=hN σ9 H9 n9
    refine⟨m',hm,i+1,σ9,H9,I9.unpinned,T.keep _ _ _ st7 λb hb o e=>(I9.pin (b,o) (Aj _ (Aj _ (Qf hb e)))).1,λb hb=>?_,w9⟩
    obtain⟨o,e,d⟩:=T.obj _ _ st7 b hb
    exact(I9.pin (b,o) (Aj _ (Aj _ (Qf hb e)))).2.1
   refine Hk (hg _ _ s7 σ5 H7 x u _ I7' r7 (step x H7 y7)) λ_ s8 ⟨σ8,H8,I8,q8⟩=>?_
   refine Hk (ht _ _ s8 σ8 H8 _ I8 q8) λok s9 ⟨H9,I9,q9⟩=>?_
   cases ok with
   |false=>exact again I9 q9
   |true =>
    refine Hk (he _ _ s9 σ8 H9 _ I9 q9) λyv s10 ⟨y,H10,I10,r10,ys,e10,l10,n10⟩=>?_
    refine Hk (Kv _ s10 σ8 H10 (.ref D) [y] (.ref D) [yv] (λ_ H11=>N σ8 H11) I10 rfl (.cons r10 .nil) ⟨D,ys,y,rfl,rfl,e10,l10,n10⟩) λ_ s11 ⟨_,H11,I11,_,n11⟩=>again I11 n11
 have self:=T.self X.A 0 { s3 with heap:=h₁ } (λit' s'=>codeAny (model X.prog X.w) X.A (.compLoop (.ListComp elt [⟨tg,iter,ifs,0⟩] scope pos) 0 it' (.ref D) (KL X N' z scope ⟨s3.heap.objs.size,s3,H3,fp⟩).env)
   (compPost (model X.prog X.w) X.A X.xe use R (.ref D) s3.heap.objs.size) s') (notedBy (model X.prog X.w) X.A (KL X N' z scope ⟨s3.heap.objs.size,s3,H3,fp⟩).env λx s'=>compPost (model X.prog X.w) X.A X.xe use R (.ref D) s3.heap.objs.size (.error x) s')
   (T.keep _ _ _ st3' λb _ o e=>old b o e) loop
 exact Fu loop self
theorem dY{X:Cx}{elt tg iter:Expr}{ifs:yE}{scope:Scope}{pos:Pos}{N':yB}{z:Str}{src:List (Option Nat)}{wi:TI}{g:Bk->TG}{tc:Bk->TT}{te:Bk->TE}(hc:X.calm=true)(hi:PI X tg iter wi)(S:Jq X N' src z scope)
  (hg:∀b,PG (KL X N' z scope b) tg (g b)) (ht:∀b,Py (KL X N' z scope b) ifs (tc b)) (he:∀b,PE (KL X N' z scope b) elt (te b)) (hs:∀x,foldedSetIterable iter X.env x=pure x:=by intro _;rfl) :
  PE X (.ListComp elt [⟨tg,iter,ifs,0⟩] scope pos) (VO src wi g tc te):=by
 intro Fq s σ H Q I h
 rw[eval_ListComp]
 exact qU hc hi S hg ht he hs none (EP X Fq σ Q) I h λD C H5 s6 m hn _ k q=>⟨m,hn,λh' sb=>⟨.ref D,H5,k h' sb,rfl,q⟩⟩
noncomputable def S5(sc scope:Scope)(N N':yB)(src:List (Option Nat))(z:Str):Bool :=
 decide (scope.kind=.function)&&scope.names.all (λy=>!decide (y.2=NameKind.cell)||decide (y.1=z))&&decide (scope.names.lookup z=some NameKind.cell)&&scope.names.all (λy=>!decide (y.2=NameKind.local)||decide (scope.names.lookup y.1=some NameKind.local)) &&
 scope.names.all (λy=>!decide (y.2=NameKind.free)||(decide (sc.names.lookup y.1=some NameKind.cell)||decide (sc.names.lookup y.1=some NameKind.free)))&&decide (src.length=N'.length) &&
 (List.range src.length).all λi=>Nm scope N N' (src.getD i none) i
theorem oD{X:Cx}{N':yB}{src:List (Option Nat)}{scope:Scope}{z:Str}(sc:Scope)(N:yB)(h:S5 sc scope N N' src z=true)(hc:∀n acc,cellsFrom n scope.names acc=(z,n)::acc)(hp:∀h:Heap,pushCells h scope.names=h.push { cls:=.type "cell",data:=.cell none })
  (e1:X.env.scope=sc:=by rfl) (e2:X.N=N:=by rfl):Jq X N' src z scope:=by
 subst e1 e2
 unfold S5 at h
 simp only[AI,AQ,AR,DT,Bool.not_eq_true',FY]at h
 obtain⟨⟨⟨⟨⟨⟨h1,h2⟩,h0⟩,h3⟩,h4⟩,h5⟩,h6⟩:=h
 refine⟨h1,hc,hp,λy hy e=>(h2 y hy).resolve_left λq=>q e,h0,λy hy e=>(h3 y hy).resolve_left λz=>z e,λy hy e=>(h4 y hy).resolve_left λz=>z e,h5,λi j e=>?_⟩
 obtain⟨hi,ei⟩:=AZ.mp e
 have q:=h6 i (Al.mpr hi)
 rw[Ad,e]at q
 unfold Nm at q
 simp only[E8]at q
 cases c:N'[i]? with
 |none=>rw[c]at q;cases q
 |some x =>
  rw[c]at q
  simp only[AI,AQ]at q
  exact⟨x,rfl,q.1,q.2⟩
end L2.Ev
namespace L2.Rw
open PySem PySem.W PySem.Calls PyProof.Rows PySem.Spec
end L2.Rw
namespace L2.Ev
open PySem PySem.Spec PyProof.Rows
open L2.Ts L2.Pl L2.Rw
end L2.Ev
namespace L2.Rw
open PySem PySem.W PySem.Calls PyProof.Rows PySem.Spec
open PySem.SeqAt
open PySem.AutoSeq1 (wpAny_loadPart')
open PySem.MeetsSeq PySem.MeetsSeq2 PySem.MeetsSeq3
section
variable{prog:yL}{w:yM}{A:Around}{E:xZ}
theorem dH{s:yH}{r:yJ}{its:xY}{Q:xY->yH->Prop}(ht:IsTup s.heap r its.toArray)(hz:its.length<=sizeLine)
  (hQ:∀h',(∀b o,s.heap.get? b=some o->h'.get? b=some o)->s.heap.objs.size<=h'.objs.size->Q its { s with heap:=h' }):wpAny (model prog w) A (collect (.ref r)) Q E s:=by
 obtain⟨⟨cls,dd,data,sl⟩,ho,hc,n,hd⟩:=ht
 simp only at hc hd
 subst hc hd
 obtain⟨hp,g,d,tk,os⟩:=s
 simp only at ho hQ
 unfold collect
 refine AA (wpAny_runValue (DA Eg ?_))
 rw[CO Eh _]
 show wpAny _ A.in1 (newList []>>=λl=>again (.builtin "list.__iadd__" ⟨[l,.ref r],[]⟩)) _ _ _
 refine AA (BK (AK ⟨Dg DQ _,DA FS ?_⟩))
 rw[CO DQ _]
 have hN:(hp.push { cls:=.type "list",data:=.seq ([]:xY).toArray }).get? hp.objs.size=some { cls:=.type "list",dict:=none,data:=.seq ([]:xY).toArray 0,slots:=#[] }:=AW _ rfl
 have hT:(hp.push { cls:=.type "list",data:=.seq ([]:xY).toArray }).get? r=some { cls:=.type "tuple",dict:=dd,data:=.seq its.toArray n,slots:=sl }:=AC _ ho
 have ne:hp.objs.size≠r:=CS (AU ho)
 unfold Builtin.«list.__iadd__»
 wp_walk using CK hT,CK hN
 have hl:(Obj.mapSeq (λx=>x++its.toArray) { cls:=.type "list",data:=.seq (#[]:yF) }).data.pastItsLine=none:=by
  simp [Obj.mapSeq,Data.pastItsLine,sizeOk]
  lia
 rw[hl]
 refine AK ?_
 refine AK ?_
 have hU:=C6 (h:=hp.push { cls:=.type "list",data:=.seq (#[]:yF) }) (f:=Obj.mapSeq λx=>x++its.toArray) hN rfl
 refine AA (wpAny_load hU ?_)
 show wpAny _ _ (pure (#[]++its.toArray).toList) _ _ _
 rw[Array.empty_append,List.toList_toArray]
 refine AK (hQ _ (λb o e=>?_) ?_)
 ·exact(BN _ _ (CS (AU e))).trans (AC _ e)
 ·rw[EJ,size_push'];exact Cd _
end
end L2.Rw
namespace L2.Ev
open PySem PySem.Spec PyProof.Rows
open L2.Ts L2.Pl L2.Rw
theorem Ub:RC (λa b:Int=>decide (a<b)) where
 irr:=λa=>Aa (by lia)
 trans:=λ{a b c} h q=>Ac (by have:=Ay h;have:=Ay q;lia)
 tri:=λ{a b} h q=>by have:=C1 h;have:=C1 q;lia
section
variable{X:Cx}
noncomputable def Qa(l:xX)(p:Keyed):Nat:=match p.1 with
 |.int x _=>LN (λa b:Int=>decide (a<b)) l x
 |_=>0
noncomputable abbrev LQ(u:yI)(n:Int):Prop:=∃t,u=.int n t
theorem YD{its:xY}{ns:xX}(h:IntsAre its ns):Paired LQ its ns:=by
 induction h with
 |nil=>exact .nil
 |cons a t _ ih=>exact .cons ⟨t,rfl⟩ ih
theorem dU{its:xY}{ns:xX}(h:Paired LQ its ns):IntsAre its ns/\HS (ns.map V.int) its:=by
 induction h with
 |nil=>exact⟨.nil,.nil⟩
 |cons r _ ih =>
  obtain⟨t,rfl⟩:=r
  exact⟨.cons _ t ih.1,.cons ⟨t,rfl⟩ ih.2⟩
theorem fL{l0:xX}{out:xY}{m:xX}(h:Paired LQ out m)(hm:∀a∈m,a∈l0)(o:out.Pairwise λx y=>Qa l0 (y,y)<=Qa l0 (x,x)):m.Pairwise λa b=>b<=a:=by
 induction h with
 |nil=>exact .nil
 |@cons x a xs m r t ih =>
  obtain⟨o1,o2⟩:=Av.mp o
  refine Av.mpr ⟨λb hb=>?_,ih (λb hb=>hm b (AE _ hb)) o2⟩
  obtain⟨y,hy,e⟩:∃y∈xs,LQ y b:=by
   have key:∀{xs:xY}{m:xX},Paired LQ xs m->b∈m->∃y∈xs,LQ y b:=by
    intro xs m t
    induction t with
    |nil=>intro z;cases z
    |cons r t ih =>
     intro z
     rcases AY.mp z with e|z
     ·subst e;exact⟨_,AG ..,r⟩
     ·obtain⟨y,hy,f⟩:=ih z
      exact⟨y,AE _ hy,f⟩
   exact key t hb
  obtain⟨t1,rfl⟩:=r
  obtain⟨t2,rfl⟩:=e
  have q:LN (λa b:Int=>decide (a<b)) l0 b<=LN (λa b:Int=>decide (a<b)) l0 a:=o1 _ hy
  refine Int.not_lt.mp λz=>?_
  have:=(Pe Ub (hm a (AG ..))).mp (Ac z)
  lia
theorem dS:∀{its:xY}{ns:xX},IntsAre its ns->2<=its.length->keyKind' its.toArray=pure oneType'
 |[],_,_,h=>absurd h (by decide)
 |[_],_,_,h=>absurd h (by show ¬ 2<=1;decide)
 |_::_::_,_,ii,_=>keyKind_ints ii
noncomputable def qQ(K:yG)(ta:TA):TE:=λσ H Q=>ta σ H λvs H1=>∃(a:yJ)(ns:xX),vs=[.ref a]/\HM K H1 a (ns.map V.int) /\
 ∀(p:yJ)(l:xX),H1 p=none->l.Perm ns->(l.Pairwise λa b=>b<=a)->Q (.ref p) (HV H1 p (.lst (l.map V.int)))
theorem vB{e:Expr}{ta:TA}{p pos kp kq:Pos}{j}(hc:X.calm=true)(hu:X.A.units+8<cLine)(hg:Gl X "sorted")(hm:X.mg "sorted" = none)(ha:PA X [e] ta)
  (h1:backTo pos (starEach [e] X.env)=(false,eval e X.env)::backTo pos (starEach [] X.env):=by rfl) (h2:(backTo pos (starEach [e] X.env)).any (·.1)=false:=by rfl) :
  PE X (.Call (.Name "sorted" p) [e] [⟨some (Str.ofString "reverse"),.Constant (.bool true) j kq,kp⟩] pos) (qQ X.K ta):=by
 intro Fq s σ H Q I h
 refine Bv (Ks I hg hm Fv ?_)
 refine Ee (Hk (ha pos Fq s σ H _ I h) λus s1 ⟨vs,H1,I1,r1,q1⟩=>?_) h1 h2
 obtain⟨a,ns,rfl,hq,q⟩:=q1
 obtain⟨u,rfl,ru⟩:=KN r1
 cases ru
 refine kws_cons (Constant_bool (kws_nil ?_))
 obtain⟨its,rv,ht,hz⟩:=I1.tuple hq
 have ii:IntsAre its ns:=J3 rv
 have pi:=YD ii
 have lz:its.length<=sizeLine:=by rw[<-rv.length];exact hz
 refine XM (κ:=oneType') (M:=λp=>∃x∈ns,∃t,p.1=.int x t) (rk:=Qa ns) lz (λv hv=>?_) (λQ' q'=>dH ht lz λh' kp sz=>q' h' s1.toks kp sz) (λh' tk kp l2=>⟨λQ' E' q'=>?_,λx y hx hy Q' q'=>?_⟩) λh' tk P c out pm o kp hP hg=>?_
 ·obtain⟨n,hn,t,e⟩:=Paired.mem pi hv
  exact⟨n,hn,t,e⟩
 ·rw[dS ii l2]
  exact AK q'
 ·obtain⟨n,hn,t,e⟩:=hx
  obtain⟨m,hm',t',e'⟩:=hy
  rw[e,e',keyLt'_oneType]
  refine oneLt_int ?_
  have z:decide (Qa ns x<Qa ns y)=decide (n<m):=by
   unfold Qa
   rw[e,e']
   have:=Pe Ub hn (b:=m)
   by_cases c:n<m
   ·rw[Ac c,Ac (this.mp (Ac c))]
   ·rw[Aa c,Aa λz=>c (Ay (this.mpr z))]
  rw[z]at q'
  exact q'
 ·obtain⟨m,p1,bm⟩:=Paired.perm pm pi
  obtain⟨i2,v2⟩:=dU bm
  have lo:(m.map V.int).length<=sizeLine:=by rw[v2.length,pm.length_eq];exact lz
  exact⟨.ref P,HV H1 P (.lst (m.map V.int)),I1.laid (a:=P) (o:=.lst (m.map V.int)) (t':=tk) kp hP ⟨lo,out,c,v2,hg⟩,rfl,q P m (I1.hok.fresh hP) p1 (fL bm (λa ha=>p1.mem_iff.mp ha) o)⟩
end
end L2.Ev
namespace L2.Ev
open PySem PySem.Spec PyProof.Rows
open L2.Pl
section
variable{X:Cx}
theorem kZ{t:yJ}{vs:xY}{ns:xX}{s:yH}{prog:yL}{w:yM}{A:Around}{E:xZ}{Q:xZ}(hh:A.handled=none)(hl:s.heap.IsTuple t vs.toArray)(hi:IntsAre vs ns)(hne:ns≠[])
  (h:∀h' tk M t',(∀b o,s.heap.get? b=some o->h'.get? b=some o)->M∈ns->(∀a∈ns,a<=M)->Q (.int M t') { s with heap:=h',toks:=tk }) :
  wpAny (model prog w) A (call (.builtin "max") [.ref t]) Q E s:=by
 obtain⟨xs,hx⟩:=hi.allInts.items
 have hn:numsOf vs.toArray.toList=ns:=by rw[show vs.toArray.toList=vs from rfl,hi.numsOf]
 rw[hx]at hl hn
 rw[EG]at hn
 have hsz:0<xs.size:=by
  rw[<-hn]at hne
  rcases DV xs.size with z|z
  ·exact absurd (by rw[EZ,FT,<-EC];exact z) hne
  ·exact z
 obtain⟨o,ho,_⟩:=id hl
 have hne':t≠s.heap.objs.size:=Au (AU ho)
 refine call_max_walk (Bu hl ?_)
 refine⟨s.heap.objs.size,_,_,_,_,_,_,rfl,Walks.tuple (A:=A.in1) hh s.heap.objs.size t hne' (intItems xs),⟨⟨_,AW _ rfl,rfl,rfl⟩,hl.at λo e=>AC _ e⟩,λb hb=>?_,by simpa [intItems]using hsz,Gv (numAt xs) (λ_ _=>Dj),λv h' tk hP hk=>?_⟩
 ·rcases AY.mp hb with rfl|hb
  ·exact AU (AW _ rfl)
  ·obtain rfl:=AS.mp hb
   exact AU (AC _ ho)
 ·have hP:(intItems xs)[argBest (λi j=>decide (numAt xs i>numAt xs j)) (xs.size-1)]?=some v:=by simpa [intItems]using hP
  obtain⟨t',rfl⟩:=Dj hP
  obtain⟨h1,h2⟩:=argBest_gt (numAt xs) (xs.size-1)
  refine h h' tk _ t' (λb o e=>hk b o (λhb=>absurd (AU e) ((AS.mp hb)▸Bz _)) (AC _ e)) ?_ λa ha=>?_
  ·rw[<-hn,FM];exact getD_mem (by rw[AB,AV];lia)
  ·rw[<-hn]at ha
   obtain⟨j,hj,rfl⟩:=mem_getD ha
   rw[AB,AV]at hj
   rw[<-FM];exact h2 j (by lia)
theorem pZ(hc:X.calm=true):IF X (.builtin "max") (λxs H Q=>∃(p:yJ)(ns:xX),xs=[.ref p]/\HM X.K H p (ns.map V.int)/\ns≠[]/\∀M,M∈ns->(∀a∈ns,a<=M)->Q (.int M) H):=by
 intro Fq s σ H xs us Q I r h
 obtain⟨p,ns,rfl,hq,hne,q⟩:=h
 obtain⟨u,rfl,ru⟩:=KN r
 cases ru
 obtain⟨its,rv,ht,_⟩:=I.tuple hq
 exact kZ (I.ok.hd hc) (show s.heap.IsTuple p its.toArray from ht) (J3 rv) hne λh' tk M t' hk m1 m2=>⟨.int M,H,I.kept (t':=tk) hk,⟨t',rfl⟩,q M m1 m2⟩
theorem kU:Lr X (λx lo hi H Q=>∃(a:yJ)(r:xX),x=.ref a/\lo=some (-1)/\hi=none/\H a=some (.tup (r.map V.int))/\∀(p:yJ)(H':Hp),Gp H H'->H' p=some (.tup ((r.drop (r.length-1)).map V.int))->Q (.ref p) H'):=by
 intro Fq s σ H x v vl vu lo hi sl Q I rx hs pl pu h
 obtain⟨a,r,rfl,rfl,rfl,ha,q⟩:=h
 have e:HT.sIx (r.map V.int).length 0 (some (-1))=r.length-1:=by
  rw[AB]
  show(if (-1:Int)<0 then ((-1:Int)+(r.length:Int)).toNat else min (-1:Int).toNat r.length)=_
  rw[AF (by decide)]
  lia
 by_cases c:r.length-1=0
 ·exact Xa Fq s σ H _ v vl vu _ _ sl Q I rx hs pl pu ⟨a,_,rfl,HM.of ha,by rw[e];exact c,HT.sIx_none _ _,q a H (λ_ _ e=>e) (by rw[c];exact ha)⟩
 ·refine RK Fq s σ H _ v vl vu _ _ sl Q I rx hs pl pu ⟨a,_,rfl,HM.of ha,λz=>?_,λp hp=>?_⟩
  ·have z1:=z.1
   rw[e]at z1
   exact c z1
  ·refine q p _ (HW hp _) ?_
   rw[HR]
   unfold KQ
   rw[e,HT.sIx_none,Ab (by rw[BG];lia),EE]
theorem fM{its:xY}{r:xX}{n:Int}(h:IntsAre its r):its.countP (λy=>match y with|.int x _=>x==n|_=>false)=r.count n:=by
 induction h with
 |nil=>rfl
 |cons x t _ ih=>rw[List.countP_cons,List.count_cons,ih]
theorem Zp{A:Around}{s:yH}{its:xY}{r:xX}{n:Int}{t:Tok}(h:IntsAre its r):∀y,y∈its.toArray->SeqAt.EqAt A s y (.int n t) (match y with|.int x _=>x==n|_=>false):=by
 have key:∀y∈its,SeqAt.EqAt A s y (.int n t) (match y with|.int x _=>x==n|_=>false):=by
  induction h with
  |nil=>intro y hy;cases hy
  |cons x tk _ ih =>
   intro y hy
   rcases AY.mp hy with e|hy
   ·subst e;exact Ds _ _ _ _
   ·exact ih y hy
 exact λy hy=>key y (by simpa using hy)
noncomputable def Zb(to:TE)(t:TA):TE:=λσ H Q=>to σ H λx H1=>∃(p:yJ)(r:xX),x=.ref p/\H1 p=some (.tup (r.map V.int))/\t σ H1 λvs H2=>∃n:Int,vs=[.int n]/\H2 p=some (.tup (r.map V.int))/\Q (.int (r.count n:Nat)) H2
theorem dZ{o e:Expr}{to:TE}{t:TA}{apos cpos:Pos}(ho:PE X o to)(he:PA X [e] t)
  (hbase:attributeBase o "count" X.env (eval o X.env)=eval o X.env:=by rfl)
  (hfew:((backTo cpos (starEach [e] X.env)).all (λx=>!x.1)&&(backToKw cpos (keywordEach [] X.env)).all (λx=>x.1.isSome)
   && decide ([e].length+([]:List Keyword).length+(if ([]:List Keyword).isEmpty then 0 else 1)<30))=true:=by rfl)
  (hline:(apos.endLine==cpos.line)=true:=by rfl) (hs:starEach [e] X.env=(false,eval e X.env)::starEach [] X.env:=by rfl) (hplain:(backTo cpos (starEach [] X.env)).any (·.1)=false:=by rfl) :
  PE X (.Call (.Attribute o "count" apos) [e] [] cpos) (Zb to t):=by
 intro Fq s σ H Q I h
 refine Fs hbase hfew hline rfl (Hk (ho Fq s σ H _ I h) λv s1 ⟨x,H1,I1,r1,p,r,e1,hp,q1⟩=>?_)
 subst e1
 cases r1
 obtain⟨_,its,rv,o1,g1,c1,n1,d1,dn⟩:=(show Hg X.prog X.w H1 s1.heap p (.tup (r.map V.int)) from I1.hok p _ hp)
 refine⟨"tuple", "tuple.count",PySem.F.plainAttrs_tuple,FC,PySem.F.type_tuple_count,⟨o1,g1,c1⟩,λb eb=>?_,?_⟩
 ·cases eb
  exact⟨o1,g1,dn⟩
 have hA:=he cpos Fq s1 σ H1 _ I1 q1
 rw[hs]at hA ⊢
 refine EA (by show(false||(backTo cpos (starEach [] X.env)).any (·.1))=false;rw[hplain]<;>rfl) (EQ ?_)
 refine Hk hA λus s2 ⟨vs,H2,I2,r2,n,e2,hp2,q2⟩=>?_
 subst e2
 obtain⟨u,rfl,ru⟩:=KN r2
 obtain⟨tk,rfl⟩:=ru
 obtain⟨_,its2,rv2,o2,g2,c2,n2,d2,dn2⟩:=(show Hg X.prog X.w H2 s2.heap p (.tup (r.map V.int)) from I2.hok p _ hp2)
 have ii:IntsAre its2 r:=J3 rv2
 obtain⟨cls,dd,data,sl⟩:=o2
 simp only at c2 d2 dn2
 subst c2 d2 dn2
 refine DE FC ⟨_,g2,rfl⟩ PySem.F.entry_tuple_count (PySem.F.args_tuple_count_2 _ _) (SeqAt.tuple_countAt p its2.toArray n2 none sl (.int n tk) _) ⟨g2,Zp ii,?_⟩
 exact⟨.int (r.count n:Nat),H2,I2.tok _,⟨s2.toks,by rw[<-fM ii]⟩,q2⟩
end
end L2.Ev
namespace L2.Ev
open PySem PySem.Spec PyProof.Rows
open L2.Ts L2.Pl L2.Rw
section
variable{X:Cx}{α:Type}[D:Dat α][S:JR α]
theorem rS{Fq:yA}{σ:St}{H:Hp}{s:yH}{r:yJ}{its:xY}{l:List α}{Q:VK}(hu:X.A.units+8<cLine)(I:Inv X Fq σ H s)(hb:Kh α H its l)(hz:its.length<=sizeLine)(hok:2<=l.length->∀a∈l,S.ok a)
  (LI:∀(Q':xY->yH->Prop),(∀h' tk,(∀b o,s.heap.get? b=some o->h'.get? b=some o)->s.heap.objs.size<=h'.objs.size->Q' its { s with heap:=h',toks:=tk })->wpAny (model X.prog X.w) X.A.in1 (collect (.ref r)) Q' X.xe s)
  (q:∀(p:yJ)(vs:List V)(l':List α),H p=none->l'.Perm l->(l'.Pairwise λa b=>S.lt a b=false)->Hr H vs l'->Q (.ref p) (HV H p (.lst vs))) :
  wpAny (model X.prog X.w) X.A (call (.builtin "sorted") [.ref r] [(Str.ofString "reverse",.bool true)]) (EP X Fq σ Q) X.xe s:=by
 refine XM (κ:=tuples' S.plain) (M:=λp=>∃a∈l,∃v,HN v p.1/\D.is H v a) (rk:=MW α H l) hz (λv hv=>?_) LI (λh' tk kp l2=>?_) λh' tk P e out p o kp hP hg=>?_
 ·obtain⟨a,ha,d⟩:=Paired.mem hb hv
  exact⟨a,ha,d⟩
 ·exact Rr (A:=X.A.in1.in1) (by show X.A.units+1+1+4<cLine;lia) hb (hok (by rw[<-AM hb];exact l2)) (I.kept (t':=tk) kp) l2
 ·exact fQ I hb hz p o kp hP hg q
end
section
variable{X:Cx}
theorem RU:∀{a b:xX},a.Perm b->(a.Pairwise λx y=>y<=x)->(b.Pairwise λx y=>y<=x)->a=b
 |[],b,h,_,_=>(List.nil_perm.mp h).symm
 |x::a,[],h,_,_=>absurd h.symm (by simp)
 |x::a,y::b,h,ha,hb=>by
  obtain⟨a1,a2⟩:=Av.mp ha
  obtain⟨b1,b2⟩:=Av.mp hb
  have e:x=y:=by
   have h1:x∈y::b:=h.mem_iff.mp (AG ..)
   have h2:y∈x::a:=h.mem_iff.mpr (AG ..)
   rcases AY.mp h1 with e|m1
   ·exact e
   ·rcases AY.mp h2 with e|m2
    ·exact e.symm
    ·have:=b1 x m1
     have:=a1 y m2
     lia
  subst e
  rw[RU (List.perm_cons x |>.mp h) a2 b2]
noncomputable def Ld(x:Int):xX->xX
 |[]=>[x]
 |y::l=>if y<=x then x::y::l else y::Ld x l
noncomputable def JL(l:xX):xX:=l.foldr Ld []
theorem oW(x:Int):∀l,(Ld x l).Perm (x::l)
 |[]=>.refl _
 |y::l=>by
  unfold Ld
  split
  ·exact .refl _
  ·exact((oW x l).cons y).trans (.swap ..)
theorem vK(x:Int):∀{l:xX},(l.Pairwise λa b=>b<=a)->((Ld x l).Pairwise λa b=>b<=a)
 |[],_=>D6 _ _
 |y::l,h=>by
  obtain⟨h1,h2⟩:=Av.mp h
  unfold Ld
  split
  ·rename_i c
   exact Av.mpr ⟨λz hz=>(AY.mp hz).elim (λe=>e▸c) λm=>by have:=h1 z m;lia,h⟩
  ·rename_i c
   refine Av.mpr ⟨λz hz=>?_,vK x h2⟩
   rcases AY.mp ((oW x l).mem_iff.mp hz) with e|m
   ·lia
   ·exact h1 z m
theorem W7:∀l,(JL l).Perm l
 |[]=>.refl _
 |x::l=>(oW x (JL l)).trans ((W7 l).cons x)
theorem Wh:∀l,(JL l).Pairwise λa b=>b<=a
 |[]=>.nil
 |x::l=>vK x (Wh l)
theorem Tx{a l:xX}(h:a.Perm l)(f:a.Pairwise λx y=>y<=x):a=JL l:=RU (h.trans (W7 l).symm) f (Wh l)
end
end L2.Ev
namespace L2.Ev
open PySem PySem.Spec PyProof.Rows L2 L2.Pl
end L2.Ev
namespace L2.Ev
open PySem PySem.Spec PyProof.Rows
open L2.Ts L2.Pl L2.Rw
section
variable{X:Cx}{Fq:yA}{σ:St}{H:Hp}{s:yH}{A:Around}{E':xZ}
theorem tY(I:Inv X Fq σ H s):∀{its:xY}{l:List xX},Kh xX H its l->∀{Q:List yD->yH->Prop},(∀fs:List yD,fs.map (·.isSome)=l.map (λr=>!r.isEmpty)->Q fs s)->wpAny (model X.prog X.w) A (its.mapM firstOfTuple') Q E' s
 |[],[],.nil,Q,q=>by
  rw[List.mapM_nil]
  exact AK (q [] rfl)
 |u::its,r::l,.cons h t,Q,q=>by
  obtain⟨v,rv,dv⟩:=h
  obtain⟨p,rfl,hp⟩:=JI dv
  cases rv
  obtain⟨o,xs,n,ho,hc,hd,rvv⟩:=LD I hp
  rw[List.mapM_cons]
  refine AA ?_
  rw[W.kas_first_eq]
  refine AA (W.Looks.here (show W.Looks (model X.prog X.w) s.heap (typeOf (.ref p)) o.cls from(EI ho).andThen .now) ?_)
  rw[hc,AD (by first|decide|simp)]
  refine AA (listItems_at ho hd (AK ?_))
  refine AA (tY I t (Q:=λbs s'=>wpAny (model X.prog X.w) A (pure (xs.toArray[0]?::bs)) Q E' s') λfs e=>AK (q _ ?_))
  rw[Ai,Ai,e]
  congr 1
  have l1:=rvv.length
  rw[AB]at l1
  cases r with
  |nil =>
   have:xs=[]:=B7.mp (by simpa using l1.symm)
   subst this
   rfl
  |cons x r =>
   cases xs with
   |nil=>simp at l1
   |cons y xs=>rfl
theorem pO(I:Inv X Fq σ H s){its:xY}{l:List xX}(hb:Kh xX H its l)(hm:[]∈l){Q:SortKind->yH->Prop}(q:Q (if (l.headD []).isEmpty=true then oneType' else general') s):wpAny (model X.prog X.w) A (keyKind' its.toArray) Q E' s:=by
 rw[PyProof.Rows.kat_kind_eq,List.mapM_toArray,map_eq_pure_bind]
 refine AA (AA (tY I hb λfs e=>AK ?_))
 have h1:(fs.toArray.all λx=>x.isSome)=false:=by
  rw[List.all_toArray]
  have:fs.all (λx=>x.isSome)=(fs.map (·.isSome)).all id:=by rw[Du];rfl
  rw[this,e]
  refine Eu.mpr λz=>?_
  have:=AR.mp z _ (AN.mpr ⟨[],hm,rfl⟩)
  cases this
 rw[AD (by rw[h1];decide)]
 cases l with
 |nil=>cases hm
 |cons r l =>
  cases hb with
  |@cons u _ its' _ h t =>
   cases fs with
   |nil=>simp at e
   |cons f fs =>
    rw[Ai,Ai]at e
    injection e with e1 e2
    show wpAny _ _ (if (f).isSome=true then pure general' else _) _ _ _
    rw[List.headD_cons]at q
    cases c:r.isEmpty with
    |false =>
     rw[c]at e1 q
     rw[AF (by rw[e1];rfl)]
     exact AK q
    |true =>
     rw[c]at e1 q
     rw[AD (by rw[e1];decide)]
     rw[oneTypeOnly'_eq,List.mapM_toArray,map_eq_pure_bind]
     have ty:∀v∈u::its',∀(Q':xZ),Q' (.type "tuple") s->wpAny (model X.prog X.w) A (typeOf v) Q' E' s:=λv hv Q' hq=>by
      obtain⟨a,_,v',rv,dv⟩:=Paired.mem (Paired.cons h t) hv
      obtain⟨p,rfl,hp⟩:=JI dv
      cases rv
      obtain⟨o,xs,n,ho,hc,hd,rvv⟩:=LD I hp
      exact W.Looks.here (show W.Looks (model X.prog X.w) s.heap (typeOf (.ref p)) (.type "tuple") from hc▸(EI ho).andThen .now) hq
     refine AA (AA (AA (W.kas_mapM (r:=Value.type "tuple") _ ty (AK ?_))))
     have hall2:((List.map (λ_=>Value.type "tuple") (u::its')).toArray.all λx=>x==Value.type "tuple")=true:=by
      simp only[List.all_toArray,Du,AR]
      intro _ _
      show(Value.type "tuple" == Value.type "tuple")=true
      decide
     have h0:(List.map (λ_=>Value.type "tuple") (u::its')).toArray[0]?=some (Value.type "tuple"):=by simp
     rw[h0]
     refine AK ?_
     rw[AF hall2]
     exact AK q
theorem tH(I:Inv X Fq σ H s)(hu:A.units+1<cLine){p p':yJ}{a b:xX}(h:H p=some (.tup (a.map V.int)))(h':H p'=some (.tup (b.map V.int))){Q:Bool->yH->Prop}(q:Q (Hs a b) s):wpAny (model X.prog X.w) A (keyLt' general' (.ref p) (.ref p')) Q (λ_ _=>False) s:=by
 obtain⟨its,r1,p1,_⟩:=I.tuple (HM.of h)
 obtain⟨its2,r2,p2,_⟩:=I.tuple (HM.of h')
 show wpAny _ _ (oneLt' false (.ref p) (.ref p')) _ _ _
 refine DU _ _ (HT.lt_tupInts p1 p2 (J3 r1) (J3 r2) (by lia) ?_)
 rw[RP]
 exact q
theorem bU(I:Inv X Fq σ H s)(hu:A.units+1<cLine){p p':yJ}{a b:xX}(h:H p=some (.tup (a.map V.int)))(h':H p'=some (.tup (b.map V.int))){Q:Bool->yH->Prop}(q:Q (Hs a b) s):wpAny (model X.prog X.w) A (keyLt' oneType' (.ref p) (.ref p')) Q (λ_ _=>False) s:=by
 obtain⟨its,r1,p1,_⟩:=I.tuple (HM.of h)
 obtain⟨its2,r2,p2,_⟩:=I.tuple (HM.of h')
 obtain⟨⟨cls,dd,data,sl⟩,ho,hc,n,hd⟩:=id p1
 obtain⟨⟨cls2,dd2,data2,sl2⟩,ho2,hc2,n2,hd2⟩:=id p2
 simp only at hc hd hc2 hd2
 subst hc hd hc2 hd2
 rw[keyLt'_oneType,oneLt'_eq]
 simp only[CQ]
 refine AA (wpAny_cRoomFor (by lia) ?_)
 refine AA (wpAny_callSpecialIfBound?_slot ⟨_,ho,rfl⟩ EL (DE EL ⟨_,ho,rfl⟩ Fi (FO _ _) (HT.tuple_lt_ints p p' its.toArray its2.toArray n n2 dd dd2 sl sl2 a b (J3 r1) (J3 r2)) ⟨ho,ho2,?_⟩))
 show wpAny _ _ (truthOfDropped (.bool (HT.lexLt a b))) _ _ _
 rw[RP]
 exact CD q
end
section
variable{X:Cx}
theorem rX{Fq:yA}{σ:St}{H:Hp}{s:yH}{r:yJ}{its:xY}{l:List xX}{Q:VK}(hu:X.A.units+8<cLine)(I:Inv X Fq σ H s)(hb:Kh xX H its l)(hz:its.length<=sizeLine)
  (LI:∀(Q':xY->yH->Prop),(∀h' tk,(∀b o,s.heap.get? b=some o->h'.get? b=some o)->s.heap.objs.size<=h'.objs.size->Q' its { s with heap:=h',toks:=tk })->wpAny (model X.prog X.w) X.A.in1 (collect (.ref r)) Q' X.xe s)
  (q:∀(p:yJ)(vs:List V)(l':List xX),H p=none->l'.Perm l->(l'.Pairwise λa b=>Hs a b=false)->Hr H vs l'->Q (.ref p) (HV H p (.lst vs))) :
  wpAny (model X.prog X.w) X.A (call (.builtin "sorted") [.ref r] [(Str.ofString "reverse",.bool true)]) (EP X Fq σ Q) X.xe s:=by
 by_cases c:[]∈l
 ·refine XM (κ:=if (l.headD []).isEmpty=true then oneType' else general') (M:=λp=>∃a∈l,∃v,HN v p.1/\Dat.is H v a) (rk:=MW xX H l) hz (λv hv=>?_) LI (λh' tk kp l2=>⟨λQ' E' q'=>pO (I.kept (t':=tk) kp) hb c q',?_⟩) λh' tk P e out p o kp hP hg=>?_
  ·obtain⟨a,ha,d⟩:=Paired.mem hb hv
   exact⟨a,ha,d⟩
  ·intro x y hx hy Q q
   have I2:=I.kept (t':=tk) kp
   obtain⟨a,ha,v,rv,dv⟩:=hx
   obtain⟨b,hb',v',rv',dv'⟩:=hy
   rw[RA rv dv,RA rv' dv']at q
   have e:decide (LN (JR.lt (α:=xX)) l a<LN (JR.lt (α:=xX)) l b)=Hs a b:=by
    show _=JR.lt (α:=xX) a b
    cases c:JR.lt (α:=xX) a b with
    |true=>exact Ac ((Pe JR.lin ha).mp c)
    |false=>exact Aa λz=>by rw[(Pe JR.lin ha).mpr z]at c;cases c
   rw[e]at q
   obtain⟨p1,rfl,hp1⟩:=JI dv
   obtain⟨p2,rfl,hp2⟩:=JI dv'
   obtain⟨x1,x2⟩:=x
   obtain⟨y1,y2⟩:=y
   cases rv
   cases rv'
   split
   ·exact bU I2 (by show X.A.units+1+1+1<cLine;lia) hp1 hp2 q
   ·exact tH I2 (by show X.A.units+1+1+1<cLine;lia) hp1 hp2 q
  ·exact fQ I hb hz p o kp hP hg q
 ·exact rS hu I hb hz (λ_ a ha=>show a≠[] from λe=>c (by rw[<-e];exact ha)) LI q
noncomputable def bQ(ta:TA):TE:=λσ H Q=>ta σ H λvs H1=>∃(a:yJ)(d:List Go),vs=[.ref a]/\Rd H1 a (.dT (Ka d)) /\
 ∀(p:yJ)(vs:List V)(ks:List Pw),H1 p=none->ks.Perm (d.map (·.1))->(ks.Pairwise λa b=>Hs a b=false)->Hr H1 vs ks->Q (.ref p) (HV H1 p (.lst vs))
theorem pR{e:Expr}{ta:TA}{p pos kp kq:Pos}{j}(hc:X.calm=true)(hu:X.A.units+8<cLine)(hg:Gl X "sorted")(hm:X.mg "sorted" = none)(ha:PA X [e] ta)
  (h1:backTo pos (starEach [e] X.env)=(false,eval e X.env)::backTo pos (starEach [] X.env):=by rfl) (h2:(backTo pos (starEach [e] X.env)).any (·.1)=false:=by rfl) :
  PE X (.Call (.Name "sorted" p) [e] [⟨some (Str.ofString "reverse"),.Constant (.bool true) j kq,kp⟩] pos) (bQ ta):=by
 intro Fq s σ H Q I h
 refine Bv (Ks I hg hm Fv ?_)
 refine Ee (Hk (ha pos Fq s σ H _ I h) λus s1 ⟨vs,H1,I1,r1,q1⟩=>?_) h1 h2
 obtain⟨a,d,rfl,hR,q⟩:=q1
 obtain⟨u,rfl,ru⟩:=KN r1
 cases ru
 refine kws_cons (Constant_bool (kws_nil ?_))
 obtain⟨z,lo,es,ep,raw,sz,ent⟩:=Vr I1 hR
 have hb:Kh xX H1 (es.toList.map (·.key)) (d.map (·.1)):=by
  have key:∀{l:List yP}{d:List Go},Paired (λ(e:yP)(t:Go)=>(∃p,e.key=.ref p/\H1 p=some (.tup (t.1.map V.int)))/\HN (.int t.2) e.val) l d->Kh xX H1 (l.map (·.key)) (d.map (·.1)):=by
   intro l d h
   induction h with
   |nil=>exact .nil
   |cons r t ih =>
    obtain⟨⟨p,e1,e2⟩,_⟩:=r
    exact .cons ⟨.ref p,e1,J9 e2⟩ ih
  exact key ent
 have ln:(es.toList.map (·.key)).length<=sizeLine:=by rw[AB,AV,sz];exact z
 refine rX hu I1 hb ln (λQ' q'=>wA (Vu lo) (I1.ok.hd hc) raw (by rw[sz];exact z) λh' tk acc kp szz it=>?_) q
 ·have e:acc.toList=es.toList.map (·.key):=by
   refine D8 λi=>?_
   rw[BE,Ag,BE]
   by_cases c:i<es.size
   ·have ci:i<acc.size:=by rw[it.1];exact c
    obtain⟨_,e⟩:=it.2 i acc[i] (AO ci)
    rw[AO ci,AO c,e]
    rfl
   ·rw[CU (by rw[it.1];lia),CU (by lia)]
    rfl
  rw[e]
  exact q' h' tk kp szz
end
end L2.Ev
namespace L2.Ev
open L2.Pl
noncomputable def K8(a:Int)(n:Nat):xX:=(List.range ((n:Int)-a).toNat).map λ(i:Nat)=>a+(i:Int)
noncomputable def QY(line:xX)(least:Int):Int:=match line.getLast? with
 |some x=>if x<least then least else x
 |none=>least
noncomputable def K6(n:Nat)(least:Int)(line:xX):List xX:=(K8 (QY line least) n).map λk=>line++[k]
noncomputable def Q6(n:Nat)(found:List xX)(least:Int):List xX:=found.flatMap (K6 n least)
noncomputable def lf(n:Nat)(ls:xX):List xX:=ls.foldl (Q6 n) [[]]
noncomputable def Lp(r:xX)(lines:List xX):xX:=match lines.getLast? with
 |none=>List.replicate (r.getD 0 0).toNat 0
 |some l=>(l.map (· + 1)).take (r.getD lines.length 0).toNat
noncomputable def My(n:Nat)(r:xX)(lines:List xX):List (List xX):=(lf n (Lp r lines)).map λl=>lines++[l]
noncomputable def WH(n:Nat)(r:xX)(fs:List (List xX)):List (List xX):=fs.flatMap (My n r)
noncomputable def MH(n:Nat)(r:xX):Nat->List (List xX)
 |0=>[[]]
 |j+1=>WH n r (MH n r j)
noncomputable def Q7(n:Nat)(r:xX):List (List xX):=MH n r r.length
noncomputable def Nk(n:Nat)(f:List xX):xX:=(List.range n).map λ(k:Nat)=>((f.map λl=>((l.count (k:Int):Nat):Int)).sum)
noncomputable def NC(n:Nat)(r:xX):List Go:=(Q7 n r).map λf=>(Nk n f,1)
theorem Oz(line:xX)(least:Int):least<=QY line least:=by
 unfold QY
 split
 ·split<;>lia
 ·exact DG _
theorem oI{a:Int}{n:Nat}(h:0<=a):(K8 a n).length<=n:=by
 unfold K8
 rw[AB,Bm]
 lia
theorem VJ{n:Nat}{least:Int}(h:0<=least)(line:xX):(K6 n least line).length<=n:=by
 unfold K6
 rw[AB]
 exact oI (HH h (Oz _ _))
theorem RE{α β:Type}(g:α->List β)(B:Nat):∀l:List α,(∀x∈l,(g x).length<=B)->(l.flatMap g).length<=l.length*B
 |[],_=>by simp
 |x::l,h=>by
  have h1:=h x (AG ..)
  have h2:=RE g B l λy hy=>h y (AE _ hy)
  rw[BD,AJ,Am,Cz]
  lia
theorem T3{α β:Type}(g:α->List β)(l:List α)(i:Nat):((l.take i).flatMap g).length<=(l.flatMap g).length:=by
 have e:l.flatMap g=(l.take i).flatMap g++(l.drop i).flatMap g:=by rw[<-BM,BZ]
 rw[e,AJ]
 lia
theorem eQ(n:Nat)(ls:xX)(x:Int):lf n (ls++[x])=Q6 n (lf n ls) x:=by
 unfold lf
 rw[CC]
 rfl
theorem Pi{n:Nat}(hn:n<=4):∀{m:Nat}{ls:xX},ls.length=m->(∀x∈ls,0<=x)->(lf n ls).length<=4^m
 |0,ls,h,_=>by
  rw[B7.mp h]
  exact AH _
 |m+1,ls,h,nn=>by
  have ne:ls≠[]:=by intro z;rw[z]at h;simp at h
  obtain⟨as,x,e⟩:∃as x,ls=as++[x]:=⟨_,_,(Cp ne).symm⟩
  subst e
  rw[AJ,BC]at h
  have ih:=Pi hn (m:=m) (ls:=as) (by lia) λy hy=>nn y (A0 _ hy)
  rw[eQ]
  have:=RE (K6 n x) 4 (lf n as) λy _=>As (VJ (nn x (by simp)) y) hn
  rw[Nat.pow_succ]
  unfold Q6
  lia
theorem Ot{n:Nat}{ls:xX}(nn:∀x∈ls,0<=x):∀l∈lf n ls,l.length=ls.length/\∀x∈l,0<=x/\x<(n:Int):=by
 have key:∀m (ls:xX),ls.length=m->(∀x∈ls,0<=x)->∀l∈lf n ls,l.length=ls.length/\∀x∈l,0<=x/\x<(n:Int):=by
  intro m
  induction m with
  |zero =>
   intro ls h _ l hl
   rw[B7.mp h]at hl ⊢
   have e:l=[]:=by simpa [lf]using hl
   rw[e]
   exact⟨rfl,λx hx=>by cases hx⟩
  |succ m ih =>
   intro ls h nn l hl
   have ne:ls≠[]:=by intro z;rw[z]at h;simp at h
   obtain⟨as,x,e⟩:∃as x,ls=as++[x]:=⟨_,_,(Cp ne).symm⟩
   subst e
   rw[AJ,BC]at h
   rw[eQ]at hl
   unfold Q6 at hl
   obtain⟨y,hy,hl⟩:=A5.mp hl
   obtain⟨i1,i2⟩:=ih as (by lia) (λy hy=>nn y (A0 _ hy)) y hy
   unfold K6 K8 at hl
   obtain⟨k,hk,rfl⟩:=AN.mp hl
   obtain⟨j,hj,rfl⟩:=AN.mp hk
   have hj:=Al.mp hj
   refine⟨by simp [i1],λz hz=>?_⟩
   rcases Ao.mp hz with hz|hz
   ·exact i2 z hz
   ·have:=Oz y x
    have:=nn x (by simp)
    rw[AS.mp hz]
    lia
 exact key ls.length ls rfl nn
noncomputable def Xl(l:xX):Prop:=l.length<=8/\∀x∈l,0<=x/\x<=4
noncomputable def vY(r:xX)(j:Nat)(fs:List (List xX)):Prop:=∀lines∈fs,lines.length=j/\∀l∈lines,Xl l
theorem Ss{r:xX}(h8:∀x∈r,0<=x/\x<=8){lines:List xX}(hl:∀l∈lines,Xl l):(Lp r lines).length<=8/\∀x∈Lp r lines,0<=x/\x<=1000:=by
 have g8:∀k,(r.getD k 0).toNat<=8:=λk=>by
  rw[Ad]
  cases e:r[k]? with
  |none=>decide
  |some x =>
   have:=h8 x (AT e)
   simp
   lia
 unfold Lp
 cases e:lines.getLast? with
 |none=>exact⟨by simpa using g8 0,λx hx=>by have:=(List.mem_replicate.mp hx).2;lia⟩
 |some l =>
  have hm:=Gm e
  refine⟨by rw[Ap];have:=g8 lines.length;lia,λx hx=>?_⟩
  obtain⟨y,hy,rfl⟩:=AN.mp (BJ hx)
  have:=(hl l hm).2 y hy
  lia
theorem jY{n:Nat}{r:xX}(hn:n<=4)(h8:∀x∈r,0<=x/\x<=8):∀j,vY r j (MH n r j)
 |0=>λlines hl=>by
  have e:lines=[]:=by simpa [MH]using hl
  rw[e]
  exact⟨rfl,λl hl=>by cases hl⟩
 |j+1=>λlines hl=>by
  have ih:=jY hn h8 j
  unfold MH WH at hl
  obtain⟨fs,hf,hl⟩:=A5.mp hl
  obtain⟨a1,a2⟩:=ih fs hf
  unfold My at hl
  obtain⟨l,hll,rfl⟩:=AN.mp hl
  obtain⟨b1,b2⟩:=Ss h8 a2
  obtain⟨c1,c2⟩:=Ot (λx hx=>(b2 x hx).1) l hll
  refine⟨by simp [a1],λz hz=>?_⟩
  rcases Ao.mp hz with hz|hz
  ·exact a2 z hz
  ·rw[AS.mp hz]
   exact⟨by lia,λx hx=>by have:=c2 x hx;lia⟩
theorem Z3(n:Nat)(f:List xX):(Nk n f).length=n:=by unfold Nk;rw[AB,Bm]
noncomputable def gen:Nat->Nat->Nat->List xX
 |0,_,_=>[[]]
 |k+1,top,w=>[]::(List.range top).flatMap λi=>if i+1<=w then (gen k (i+1) (w-(i+1))).map (λr=>((i:Int)+1)::r) else []
noncomputable def O1(p:xX):Nat:=p.foldl (λa x=>16*a+x.toNat) 0
end L2.Ev
namespace L2.Ev
open PySem PySem.Spec PyProof.Rows
open L2.Pl
theorem IA{N P:yB}{sc:Scope}(a:sc.kind=.function:=by rfl)(b:sc.isCoroutine=false:=by rfl)(c:sc.isGenerator=false:=by rfl)(d:N.Nodup:=by decide +kernel)(e:N.take P.length=P:=by rfl)(f:∀x∈P,sc.names.lookup x=some .local∨sc.names.lookup x=some .cell:=by decide +kernel)(g:∀y∈sc.names,y.2≠.free:=by decide +kernel):Gq N P sc:=⟨a,b,c,d,e,f,g⟩
theorem JP:0<=sizeLine:=by decide
theorem Il:1<=sizeLine:=by decide
theorem Iv:2<=sizeLine:=by decide
theorem uQ:5<=sizeLine:=by decide
section
variable{P:yL}{w:yM}{K:yG}{mg:Str->yD}{base:Heap}{x qual:Str}{st:Stmt}{f:yJ}{fd:yN}{N ps:yB}{k:Nat}{sp:Sp}
theorem Hz(F:Hu K x qual st f fd)(S:Gq N ps (He st))
  (KO:∀(Hh:yI)(A:Around)(outer:List Env)(s:yH)(H:Hp)(vs:List V)(Q:VK)(E:XK),IN k (A.deeper (envOfC qual (He st) s.heap.objs.size f Hh))->sp vs H Q E ->
   ∃t,KA (Po Hn P w K mg base N qual (He st) f Hh A outer s H E).nox (OI st) t/\t { nx:=λ_ H'=>Q .non H',rt:=Q } (start N vs) H)
  (len:∀vs H Q E,sp vs H Q E->vs.length=ps.length:=by intro vs H Q E h;repeat (first|(obtain⟨rfl,_⟩:=h;rfl)|(obtain⟨_,h⟩:=h))):HC P w K mg base Hn (k+1) f fd ps sp:=Hu.ok F S len KO
end
end L2.Ev
set_option maxHeartbeats 4000000
namespace L2.K91
open PySem
open L2.Pl L2.Ev
noncomputable def top(i:Nat):Stmt:=PySem.Challenge.pw_evenform_k91_whole_from_telling_to_telli.main.body.getD i (.Pass ⟨0,0,0,0⟩)
noncomputable abbrev kX:Stmt:=top 11
noncomputable abbrev Pf:Stmt:=top 12
noncomputable abbrev PV:Stmt:=top 13
noncomputable abbrev M5:Stmt:=top 14
noncomputable abbrev Ng:Stmt:=top 15
noncomputable abbrev PP:Stmt:=top 16
noncomputable abbrev Nn:Stmt:=top 17
noncomputable abbrev MN:Stmt:=top 19
noncomputable abbrev QJ:Stmt:=top 20
noncomputable abbrev Wj:Stmt:=top 21
noncomputable abbrev ZZ:Stmt:=top 22
noncomputable abbrev WY:Stmt:=top 23
noncomputable abbrev XS:Stmt:=top 24
noncomputable abbrev sE:Stmt:=top 26
noncomputable abbrev sG:Stmt:=top 27
noncomputable abbrev XO:Stmt:=top 28
noncomputable abbrev XQ:Stmt:=top 29
noncomputable abbrev ZW:Stmt:=top 30
noncomputable abbrev Wg:Stmt:=top 31
noncomputable abbrev Wd:Stmt:=top 32
noncomputable abbrev WL:Stmt:=top 34
noncomputable abbrev Yc:Stmt:=top 35
noncomputable abbrev XJ:Stmt:=top 36
noncomputable abbrev oV:Stmt:=top 37
noncomputable abbrev gI:Stmt:=top 38
noncomputable abbrev Wv:Stmt:=top 39
noncomputable abbrev XF:Stmt:=top 40
noncomputable abbrev Zn:Stmt:=top 41
noncomputable abbrev oO:Stmt:=top 42
noncomputable abbrev rK:Stmt:=top 43
noncomputable abbrev aG:Stmt:=top 44
noncomputable abbrev Xw:Stmt:=top 45
noncomputable abbrev aL:Stmt:=top 47
noncomputable abbrev WV:Stmt:=top 48
noncomputable abbrev X6:Stmt:=top 49
noncomputable abbrev OU:Stmt:=top 50
noncomputable abbrev Qy:Stmt:=top 51
noncomputable abbrev Wq:Stmt:=top 52
noncomputable abbrev nM:Stmt:=top 53
noncomputable abbrev X8:Stmt:=top 54
noncomputable abbrev XR:Stmt:=top 55
noncomputable abbrev Xf:Stmt:=top 57
noncomputable abbrev aU:Stmt:=top 58
noncomputable abbrev X1:Stmt:=top 59
noncomputable abbrev gB:Stmt:=top 60
noncomputable abbrev WU:Stmt:=top 61
noncomputable abbrev Qi:Stmt:=top 62
noncomputable abbrev Zt:Stmt:=top 65
noncomputable abbrev Ov:Stmt:=top 66
noncomputable abbrev aY:Stmt:=top 67
noncomputable abbrev sF:Stmt:=top 68
noncomputable abbrev sR:Stmt:=top 69
noncomputable abbrev Wk:Stmt:=top 70
noncomputable abbrev Xm:Stmt:=top 71
noncomputable abbrev Wl:Stmt:=top 72
noncomputable abbrev Np:Stmt:=top 73
noncomputable abbrev Op:Stmt:=top 75
noncomputable abbrev Nf:Stmt:=top 76
noncomputable abbrev P2:Stmt:=top 81
noncomputable abbrev P8:Stmt:=top 82
noncomputable abbrev QL:Stmt:=top 83
noncomputable abbrev Pg:Stmt:=top 84
noncomputable abbrev MQ:Stmt:=top 85
noncomputable abbrev Oq:Stmt:=top 86
section
variable{P:yL}{w:yM}{K:yG}{mg:Str->yD}{base:Heap}{f g:yJ}{fd gd:yN}
noncomputable abbrev nG:yB:=["terms", "numbers", "powers", "number"]
noncomputable abbrev bG:yB:=["powers", "numbers"]
theorem wM:bG.Nodup:=by decide +kernel
theorem XZ:Gq nG ["terms"] (He Pf):=IA
noncomputable def RH:Sp:=λvs H Q _=>∃(a:yJ)(ts:List Go),vs=[.ref a]/\Gg H a ts/\(∀t∈ts,t.1≠[])/\ts.length<=100000/\∀(l:yJ)(H':Hp),H l=none->Gp H H'->Gg H' l (norm ts)->Q (.ref l) H'
theorem aX(F:Hu K "gathered" "gathered" Pf f fd)(ms:mg "sorted" = none):HC P w K mg base Hn 2 f fd ["terms"] RH:=by
 refine Hz F XZ λHh A outer s H vs Q E hr h=>?_
 obtain⟨a,ts,rfl,hL,hne,Hm,q⟩:=h
 have hu:=Os hr
 have h8:=Q5 hr
 refine⟨_,HY (Hv (i:=1) XZ.nd rfl (Or.inr rfl) jO)
  (HY (Ie Af rfl (Ic (pv 0)) (JM rfl (IH (Hi (i:=2) XZ.nd rfl (Or.inl rfl)) (IH (Hi (i:=3) XZ.nd rfl (Or.inl rfl)) JQ)))
   (HX (OV hu (pv 1) (pv 2) (Hf Kn (Sf hu (pv 1) (pv 2) Ha ⟨rfl,rfl,rfl,rfl⟩) (pv 3)) rfl)))
  (HX (Hq (JK (N':=bG) (src:=[none,some 1]) rfl (Ic (mE rfl h8 rfl ms (Gi (pv 1) Gy)))
   (JJ (He Pf) nG (by decide +kernel))
   (λb=>Hi (i:=0) wM rfl (Or.inl rfl))
   (λb=>RI (IJ OE (RY hu (pv 1) (pv 0) (λ_ _=>rfl)) Ha (ID _)))
   (λb=>IE (Gi (pv 0) (Gi (RY hu (pv 1) (pv 0) (λ_ _=>rfl)) Gy))))))),?_⟩
 intro d hd
 obtain⟨vs,eL,iL⟩:=hL
 have lv:=AM iL
 have s0:Gp H (HV H d (.dT [])):=HW hd _
 refine⟨_,rfl,a,rfl,⟨vs,HU.of (s0 _ _ eL)⟩,?_⟩
 refine Jr (xs:=vs) (λi σ H'=>(∃c2 c3,σ=[some (.ref a),some (.ref d),c2,c3])/\H' d=some (.dT (Ka (JG (ts.take i))))/\Gp H H') ?_ ?_ ?_ ?_
 ·exact⟨⟨_,_,rfl⟩,HR,s0⟩
 ·rintro i σ H1 _ ⟨_,_,s1⟩
  exact HU.of (s1 _ _ eL)
 ·rintro i x σ H1 hx ⟨⟨c2,c3,rfl⟩,h1,s1⟩
  obtain⟨t,ht,hi⟩:=Io iL hx
  obtain⟨p,k,rfl,hp,hk⟩:=KF hi
  have hk1:=s1 _ _ hk
  refine⟨p,_,rfl,HM.of (s1 _ _ hp),rfl,_,_,rfl,_,_,rfl,rfl,?_⟩
  have g:=JH.t (k:=t.1.map Sum.inl) h1 (by rw[Ma];exact hk1)
  rw[WJ]at g
  refine⟨_,rfl,d,rfl,.inr ⟨_,.inl h1⟩,_,rfl,_,g,_,rfl,(Jj (JG (ts.take i)) t.1).getD 0,t.2,?_,rfl,_,rfl,_,rfl,d,_,rfl,KG.t (k:=t.1.map Sum.inl) h1 (by rw[Ma];exact hk1) ?_,?_⟩
  ·cases Jj (JG (ts.take i)) t.1<;>rfl
  ·rw[OP]
   have:=W8 (ts.take i)
   rw[Ap]at this
   exact Kw (by lia)
  ·refine⟨⟨_,_,rfl⟩,?_,λb o e=>?_⟩
   ·rw[JW ht,Qj,<-U2]
    exact HR
   ·rw[Hw (Jd e hd)]
    exact s1 b o e
 ·rintro σ H1 ⟨⟨c2,c3,rfl⟩,h1,s1⟩
  rw[Ab (by lia)]at h1
  have hnd:∀t∈JG ts,t.1≠[]:=λt ht=>by
   obtain⟨u,hu,e⟩:=AN.mp (iX ts (AN.mpr ⟨t,ht,rfl⟩))
   rw[<-e]
   exact hne u hu
  refine⟨_,rfl,d,JG ts,rfl,.inl h1,hnd,λp vs' ks hp pm so it=>?_⟩
  have s2:Gp H1 (HV H1 p (.lst vs')):=HW hp _
  refine⟨p,rfl,⟨_,HU.of HR⟩,λb D hD=>?_⟩
  have lk:=AM it
  have ln:vs'.length<=100000:=by
   have:=pm.length_eq
   rw[AB]at this
   have:=W8 ts
   lia
  refine Km (α:=Go) hD (HU.of HR) (λσ=>∃c,σ=[c,some (.ref d)]) (λi=>(ks[i]?).bind λk=>if (Jj (JG ts) k).getD 0≠0 then some (k,(Jj (JG ts) k).getD 0) else none) (small ln) ⟨_,rfl⟩ ?_ ?_
  ·rintro i x σ H2 Yes No hx ⟨c,rfl⟩ s3 yes no
   obtain⟨k,hk,hi⟩:=Io it hx
   obtain⟨pk,rfl,hpk⟩:=JI hi
   have hpk3:=s3 _ _ (s2 _ _ hpk)
   have hd3:=s3 _ _ (s2 _ _ h1)
   obtain⟨n,hn⟩:=VQ (pm.mem_iff.mp (AT hk))
   have g:=JH.t (k:=k.map Sum.inl) hd3 (by rw[Ma];exact hpk3)
   rw[WJ,hn]at g
   refine⟨_,rfl,_,rfl,d,.int n,rfl,g,rfl,_,rfl,?_⟩
   by_cases c0:n=0
   ·subst c0
    refine JD ?_
    exact no _ _ ⟨_,rfl⟩ (Gp.refl _) (by rw[hk,Cq,hn,AD (by simp)])
   ·have e0:(!decide (V.int n=V.int 0))=true:=by
     rw[Aa (λz=>c0 (by injection z))]
     rfl
    rw[e0]
    refine KC ⟨_,rfl,_,rfl,_,rfl,d,.int n,rfl,g,Iv,λr hr=>?_⟩
    exact yes _ _ _ (k,n) ⟨_,rfl⟩ (HW hr _) (by rw[hk,Cq,hn,AF (by simpa using c0)];rfl) (Jg HR (HW hr _ _ _ hpk3))
  ·intro H2 s3 hL
   refine q D H2 (s1.free (s2.free hD)) (s1.trans (s2.trans s3)) ?_
   have e:=Vw pm so
   rw[<-Wc,<-Js,<-lk]at e
   rw[<-e]
   exact hL
theorem sM{n d b:Nat}{ts:List Go}(h:Deg n d b ts)(n1:1<=n):∀t∈ts,t.1≠[]:=λt ht e=>by
 have:=h.len t ht
 rw[e]at this
 simp at this
 lia
noncomputable abbrev MR:yB:=["one", "other"]
noncomputable def Uq(g:List Go->List Go->List Go):Sp:=λvs H Q _=>∃(a b:yJ)(ts us:List Go),vs=[.ref a,.ref b]/\Gg H a ts/\Gg H b us/\(∀t∈ts,t.1≠[])/\(∀t∈us,t.1≠[])/\ts.length+us.length<=100000/\∀(l:yJ)(H':Hp),H l=none->Gp H H'->Gg H' l (norm (g ts us))->Q (.ref l) H'
noncomputable abbrev vO:yB:=["powers", "number"]
theorem Uo:vO.Nodup:=by decide +kernel
theorem jR:Gq MR MR (He M5):=IA
theorem jS(F:Hu K "less" "less" M5 f fd)(GG:Hc P w K mg base 2 "gathered" ["terms"] RH):HC P w K mg base Hn 3 f fd MR (Uq λts us=>ts++ngt us):=by
 refine Hz F jR λHh A outer s H vs Q E hr h=>?_
 obtain⟨a,b,ts,us,rfl,⟨vs,eA,iA⟩,⟨ws,eB,iB⟩,ne1,ne2,Hm,q⟩:=h
 refine⟨_,HX (Hq (Hd GG hr rfl (Gi (Hf Wt (pv 0) (JK (N':=vO) (src:=[none,none]) rfl (Ic (pv 1)) (JJ (He M5) MR (by decide +kernel))
   (λb=>JM rfl (IH (Hi (i:=0) Uo rfl (Or.inl rfl)) (IH (Hi (i:=1) Uo rfl (Or.inl rfl)) JQ)))
   (λb=>Jh)
   (λb=>IE (Gi (pv 0) (Gi (N4 N7 (pv 1)) Gy))))) Gy))),?_⟩
 have la:=AM iA
 have lb:=AM iB
 refine⟨_,rfl,_,rfl,b,rfl,⟨_,HU.of eB⟩,λbk D hD=>?_⟩
 refine Km (α:=Go) hD (HU.of eB) (λσ=>∃c d,σ=[c,d]) (λi=>(us[i]?).bind λt=>some (t.1,-t.2)) (small (by lia)) ?_ ?_ ?_
 ·exact⟨_,_,rfl⟩
 ·rintro i x σ H2 Yes No hx ⟨c,d,rfl⟩ s3 yes no
  obtain⟨t,ht,hi⟩:=Io iB hx
  obtain⟨p,kk,rfl,hp,hkk⟩:=KF hi
  refine⟨p,_,rfl,HM.of (s3 _ _ hp),rfl,_,_,rfl,_,_,rfl,rfl,?_⟩
  refine LS ?_
  refine⟨_,rfl,_,rfl,_,rfl,Iv,λp3 h3=>?_⟩
  have s5:=HW h3 (.tup [.ref kk,.int (-t.2)])
  exact yes _ _ _ (t.1,-t.2) ⟨_,_,rfl⟩ s5 (by rw[ht];rfl) (Jg HR (s5 _ _ (s3 _ _ hkk)))
 rintro H2 s3 ⟨zs,eZ,iZ⟩
 have e:(List.range ws.length).filterMap (λi=>(us[i]?).bind λt=>some (t.1,-t.2))=ngt us:=by
  rw[lb,Js,Aw]
  rfl
 rw[e]at iZ
 have lz:=AM iZ
 rw[P4]at lz
 refine⟨a,D,vs,zs,rfl,rfl,s3 _ _ eA,eZ,small (by lia),λp hp=>?_⟩
 have s1:=HW hp (.lst (vs++zs))
 refine⟨p,ts++ngt us,rfl,⟨_,HR,Paired.app (Hr.mono (Hb.same (s3.trans s1)) iA) (Hr.mono (Hb.same s1) iZ)⟩,λt ht=>(Ao.mp ht).elim (ne1 t) λht=>?_,by rw[AJ,P4];exact Hm,λl H' hl s2 h2=>?_⟩
 ·obtain⟨u,hu,rfl⟩:=AN.mp ht
  exact ne2 u hu
 ·exact q l H' (s3.free (s1.free hl)) (s3.trans (s1.trans s2)) h2
noncomputable abbrev nS:yB:=["powers", "place"]
theorem wF:Gq nS ["powers", "place"] (He PP):=IA
noncomputable def Rg:Sp:=λvs H Q _=>∃(a:yJ)(ps:xX)(k:Nat),vs=[.ref a,.int k]/\H a=some (.tup (ps.map V.int))/\k+1<ps.length/\ps.length<=100/\∀p H',Gp H H'->H' p=some (.tup ((swp ps k).map V.int))->Q (.ref p) H'
theorem oP(ps:xX)(k:Nat)(h:k<=ps.length):KQ (ps.map V.int) none (some (k:Int))=(ps.take k).map V.int:=by
 unfold KQ
 rw[HT.sIx_none,HT.sIx_nat,AB,DY,HE,C7 h,Gu]
theorem sI(ps:xX)(k:Nat):KQ (ps.map V.int) (some (k:Int)) none=(ps.drop k).map V.int:=by
 unfold KQ
 rw[HT.sIx_none,HT.sIx_nat,AB,Ab (by rw[BG,AB];lia),EE]
 by_cases c:k<=ps.length
 ·rw[C7 c]
 ·rw[FB (by lia),Ct (by simp),Ct (by simp;lia)]
theorem Uv{ps:xX}{k:Nat}(h:k<ps.length):J1 (ps.map V.int) (k:Int)=some (.int (ps.getD k 0)):=by
 refine JY ?_
 rw[Ag,AL h]
 simp [h]
theorem bW(F:Hu K "swapped" "swapped" PP f fd):HC P w K mg base Hn 2 f fd ["powers", "place"] Rg:=by
 refine Hz F wF λHh A outer s H vs Q E hr h=>?_
 obtain⟨a,ps,k,rfl,ha,hk,hl,q⟩:=h
 refine⟨_,HX (Hq (Hf La (Hf La (Mx RK (pv 0) OL (Mn (pv 1)))
   (IE (Gi (IY JU (pv 0) (Hf Kn (pv 1) Ha) (λ_ _=>rfl)) (Gi (IY JU (pv 0) (pv 1) (λ_ _=>rfl)) Gy))))
   (Mx RK (pv 0) (Mn (Hf Kn (pv 1) Ha)) OL))),?_⟩
 have e1:((k:Int)+1)=((k+1:Nat):Int):=by lia
 have e2:((k:Int)+2)=((k+2:Nat):Int):=by lia
 refine⟨_,rfl,_,rfl,_,rfl,a,_,rfl,HM.of ha,?_,λp1 h1=>?_⟩
 ·rintro⟨_,z⟩
  rw[HT.sIx_nat,AB]at z
  lia
 rw[oP ps k (by lia)]
 have s1:=HW h1 (.tup ((ps.take k).map V.int))
 have ha1:=s1 _ _ ha
 refine⟨_,rfl,_,rfl,_,_,rfl,rfl,a,_,_,_,rfl,rfl,HM.of ha1,by rw[e1];exact Uv hk,_,rfl,_,rfl,a,_,_,_,rfl,rfl,HM.of ha1,Uv (by lia),Iv,λp2 h2=>?_⟩
 have s2:=HW h2 (.tup [.int (ps.getD (k+1) 0),.int (ps.getD k 0)])
 have hp1:=s2 _ _ (HR (H:=H) (a:=p1) (o:=.tup ((ps.take k).map V.int)))
 refine Lq (r:=ps.take k) (r':=[ps.getD (k+1) 0,ps.getD k 0]) hp1 HR (small (by rw[Ap];show min k ps.length+2<=100000;lia)) λp3 H3 s3 h3=>?_
 have ha3:=s3 _ _ (s2 _ _ ha1)
 refine⟨_,rfl,_,rfl,_,_,rfl,rfl,_,rfl,a,_,rfl,HM.of ha3,?_,λp4 h4=>?_⟩
 ·rintro⟨z,_⟩
  rw[e2,HT.sIx_nat,AB]at z
  lia
 rw[e2,sI]
 have s4:=HW h4 (.tup ((ps.drop (k+2)).map V.int))
 refine Lq (s4 _ _ h3) HR (small (by rw[AJ,Ap,BG];show min k ps.length+2+(ps.length-(k+2))<=100000;lia)) λp5 H5 s5 h5=>?_
 exact q p5 H5 (s1.trans (s2.trans (s3.trans (s4.trans s5)))) h5
noncomputable abbrev nE:yB:=["some", "place"]
noncomputable abbrev bE:yB:=["powers", "number", "place"]
theorem tW:bE.Nodup:=by decide +kernel
theorem wI:Gq nE ["some", "place"] (He Nn):=IA
noncomputable def Ra:Sp:=λvs H Q _=>∃(a:yJ)(n k:Nat)(ts:List Go),vs=[.ref a,.int k]/\Gg H a ts/\(∀t∈ts,t.1.length=n)/\k+1<n/\n<=100/\ts.length<=100000/\∀(l:yJ)(H':Hp),H l=none->Gp H H'->Gg H' l (exch ts k)->Q (.ref l) H'
theorem bD{h':yJ}{hd':yN}(F:Hu K "exchanged" "exchanged" Nn f fd)(G:HC P w K mg base Hn 2 g gd ["terms"] RH)(bG':IT K gd ["terms"] [])(kG:W.keepIn K (.ref g)=true)(mG:mg "gathered" = some (.ref g))
  (GS:HC P w K mg base Hn 2 h' hd' ["powers", "place"] Rg) (bS:IT K hd' ["powers", "place"] []) (kS:W.keepIn K (.ref h')=true) (mS:mg "swapped" = some (.ref h')):HC P w K mg base Hn 3 f fd ["some", "place"] Ra:=by
 refine Hz F wI λHh A outer s H vs Q E hr h=>?_
 obtain⟨a,n,k,ts,rfl,⟨vs,eL,iL⟩,hln,hk,hn,hl,q⟩:=h
 refine⟨_,HX (Hq (O0 G hr rfl mG kG bG' .nil O4 (Gi (JK (N':=bE) (src:=[none,none,some 1]) rfl (Ic (pv 0)) (JJ (He Nn) nE (by decide +kernel))
   (λb=>JM rfl (IH (Hi (i:=0) tW rfl (Or.inl rfl)) (IH (Hi (i:=1) tW rfl (Or.inl rfl)) JQ)))
   (λb=>Jh)
   (λb=>IE (Gi (O0 GS hr rfl mS kS bS .nil O4 (Gi (pv 0) (Gi (pv 2) Gy))) (Gi (pv 1) Gy)))) Gy))),?_⟩
 refine⟨_,rfl,a,rfl,⟨_,HU.of eL⟩,λbk D hD=>?_⟩
 have lv:=AM iL
 refine Km (α:=Go) hD (HU.of eL) (λσ=>∃c d,σ=[c,d,some (.int k)]) (λi=>(ts[i]?).bind λt=>some (swp t.1 k,t.2)) (small (by lia)) ?_ ?_ ?_
 ·exact⟨_,_,rfl⟩
 ·rintro i x σ H2 Yes No hx ⟨c,d,rfl⟩ s3 yes no
  obtain⟨t,ht,hi⟩:=Io iL hx
  obtain⟨p,kk,rfl,hp,hkk⟩:=KF hi
  have hm:=AT ht
  have pl:=hln t hm
  refine⟨p,_,rfl,HM.of (s3 _ _ hp),rfl,_,_,rfl,_,_,rfl,rfl,?_⟩
  refine LS ?_
  refine⟨_,rfl,_,rfl,kk,t.1,k,rfl,s3 _ _ hkk,by lia,by lia,λp2 H4 s4 h4=>?_⟩
  refine⟨_,rfl,Iv,λp3 h3=>?_⟩
  have s5:=HW h3 (.tup [.ref p2,.int t.2])
  exact yes _ _ _ (swp t.1 k,t.2) ⟨_,_,rfl⟩ (s4.trans s5) (by rw[ht];rfl) (Jg HR (s5 _ _ h4))
 ·rintro H2 s3 hL
  have e:(List.range vs.length).filterMap (λi=>(ts[i]?).bind λt=>some (swp t.1 k,t.2))=ts.map λt=>(swp t.1 k,t.2):=by
   rw[lv,Js,Aw]
  rw[e]at hL
  refine⟨D,_,rfl,hL,λt ht e=>?_,by rw[AB];lia,λl H4 hl4 s4 h4=>?_⟩
  ·obtain⟨u,hu,rfl⟩:=AN.mp ht
   have z:(swp u.1 k).length=n:=by rw[Uk (by rw[hln u hu];exact hk),hln u hu]
   have e':swp u.1 k=[]:=e
   rw[e']at z
   simp at z
   lia
  ·exact q l H4 (s3.free hl4) (s3.trans s4) h4
noncomputable abbrev xM:yB:=["many"]
theorem nV:Gq xM ["many"] (He kX):=IA
noncomputable def Nz:Sp:=λvs H Q _=>∃n:Int,vs=[.int n]/\1<=n/\n<=4/\Q .non H
theorem sS{tk:Tok}(F:Hu K "refuse_bad_count" "refuse_bad_count" kX f fd)(gU:mg "MOST_UNKNOWNS" = some (.int 4 tk)):HC P w K mg base Hn 2 f fd ["many"] Nz:=by
 refine Hz F nV λHh A outer s H vs Q E hr h=>?_
 obtain⟨n,rfl,n1,n4,q⟩:=h
 refine⟨_,HX (IW (PW.pt (K7 (IJ QX (pv 0) Ha (ID _)) (Nu (IJ Mg (pv 0) (OZ (v:=.int 4) rfl gU ⟨_,rfl⟩) (ID _))))) (HX QI) IX),?_⟩
 exact⟨_,rfl,_,_,rfl,rfl,_,rfl,JF (by lia) ⟨_,rfl,_,_,rfl,rfl,_,rfl,JF (by lia) q⟩⟩
end
section
variable{P:yL}{w:yM}{K:yG}{mg:Str->yD}{base:Heap}{f g:yJ}{fd gd:yN}
noncomputable abbrev wU:yB:=["many", "some", "place", "unlike"]
theorem Pr:Gq wU ["many", "some"] (He sE):=IA
noncomputable def Lh:Sp:=λvs H Q _=>∃(n:Nat)(a:yJ)(ts:List Go),vs=[.int n,.ref a]/\1<=n/\n<=4/\Gg H a ts/\(∀t∈ts,t.1.length=n)/\ts.length<=1000/\Ht n ts/\∀H',Gp H H'->Q .non H'
theorem cJ(ts:List Go):norm (ts++ngt (norm ts))=[]:=by
 rw[<-cH ts]
 exact Mi λF=>by rw[Kj,Kj,NV,NV,Je]
theorem Yz(F:Hu K "uneven" "uneven" sE f fd)(GC:Hc P w K mg base 3 "refuse_bad_count" ["many"] Nz)(GL:Hc P w K mg base 3 "less" MR (Uq λts us=>ts++ngt us))(GX:Hc P w K mg base 3 "exchanged" ["some", "place"] Ra)(mr:mg "range" = none):HC P w K mg base Hn 4 f fd ["many", "some"] Lh:=by
 refine Hz F Pr λHh A outer s H vs Q E hr h=>?_
 obtain⟨n,a,ts,rfl,n1,n4,hA,hl,hz,hE,q⟩:=h
 have hM:=A7 (CP (by decide:Dat.dep Go+1<=64) _) hr.units
 refine⟨_,HY (Ir (Hd GC hr rfl (Gi (pv 0) Gy)))
  (HY (Ie Af rfl (N9 rfl mr (Gi (Hf Kb (pv 0) Ha) Gy)) (Hi (i:=2) Pr.nd rfl (Or.inl rfl))
   (HY (Hv (i:=3) Pr.nd rfl (Or.inl rfl) (Hd GL hr rfl (Gi (pv 1) (Gi (Hd GX hr rfl (Gi (pv 1) (Gi (pv 2) Gy))) Gy))))
   (HX (IW (IJ (Qo (α:=Go) hM) (pv 3) (Ik Gy) (ID _)) (HX QI) IX))))
  (HX (Hq Ul))),?_⟩
 refine⟨_,rfl,n,rfl,by lia,by lia,?_⟩
 refine⟨_,rfl,_,_,rfl,rfl,_,rfl,by lia,by lia,?_⟩
 rw[show((n:Int)-1).toNat=n-1 by lia]
 have ne:∀{t:Go},t.1.length=n->t.1≠[]:=λ{t} h e=>by
  rw[e]at h
  simp at h
  lia
 refine NU (lo:=0) (n:=n-1) (λi σ H'=>(∃c2 c3,σ=[some (.int n),some (.ref a),c2,c3])/\Gp H H') ?_ ?_ ?_
 ·exact⟨⟨_,_,rfl⟩,λ_ _ e=>e⟩
 ·rintro i σ H1 hi ⟨⟨c2,c3,rfl⟩,s1⟩
  rw[DK]
  refine⟨_,rfl,_,rfl,_,rfl,a,n,i,ts,rfl,hA.mono s1,hl,by lia,by lia,by lia,λl2 H2 h2 s2 hL2=>?_⟩
  have e:L2.Pl.exch ts i=norm ts:=hE i (by lia)
  rw[e]at hL2
  have nl:=Pc ts
  refine⟨a,l2,ts,norm ts,rfl,hA.mono (s1.trans s2),hL2,λt ht=>ne (hl t ht),λt ht=>?_,by lia,λl3 H3 h3 s3 hL3=>?_⟩
  ·obtain⟨u,hu,e⟩:=J7 ht
   rw[<-e]
   exact ne (hl u hu)
  have e0:=cJ ts
  show J4 3 (.ref l3) _ H3 _
  rw[show norm ((λts us=>ts++ngt us) ts (norm ts))=[] from e0]at hL3
  refine⟨_,rfl,JP,λl4 h4=>?_⟩
  have s4:=HW h4 (.lst [])
  refine⟨l3,l4,[],[],rfl,rfl,hL3.mono s4,⟨[],HR,.nil⟩,_,rfl,?_⟩
  rw[M8]
  exact JD ⟨⟨_,_,rfl⟩,s1.trans (s2.trans (s3.trans s4))⟩
 ·rintro σ H1 ⟨_,s1⟩
  exact q H1 s1
noncomputable abbrev wW:yB:=["many", "some", "found"]
theorem SO:Gq wW ["many", "some"] (He sG):=IA
theorem Yd(F:Hu K "refuse_uneven" "refuse_uneven" sG f fd)(GU:Hc P w K mg base 4 "uneven" ["many", "some"] Lh):HC P w K mg base Hn 5 f fd ["many", "some"] Lh:=by
 refine Hz F SO λHh A outer s H vs Q E hr h=>?_
 obtain⟨n,a,ts,rfl,n1,n4,hA,hl,hz,hE,q⟩:=h
 refine⟨_,HY (Hv (i:=2) SO.nd rfl (Or.inl rfl) (Hd GU hr rfl (Gi (pv 0) (Gi (pv 1) Gy)))) (HX (IW (IJ cZ (pv 2) Ul (ID _)) (HX QI) IX)),?_⟩
 refine⟨_,rfl,_,rfl,n,a,ts,rfl,n1,n4,hA,hl,hz,hE,λH1 s1=>?_⟩
 exact⟨_,rfl,rfl,_,rfl,JD (q H1 s1)⟩
end
section
variable{P:yL}{w:yM}{K:yG}{mg:Str->yD}{base:Heap}{f g:yJ}{fd gd:yN}
noncomputable abbrev tV:yB:=["terms", "numbers", "powers", "number"]
noncomputable abbrev tZ:yB:=["powers", "numbers"]
theorem rQ:tZ.Nodup:=by decide +kernel
theorem Nb:Gq tV ["terms"] (He Pf):=IA
noncomputable def WO:Sp:=λvs H Q _=>∃(a:yJ)(ts:List Go),vs=[.ref a]/\Gg H a ts/\ts.length<=100000/\∀(l:yJ)(H':Hp),H l=none->Gp H H'->Gg H' l (norm ts)->Q (.ref l) H'
theorem bC(F:Hu K "gathered" "gathered" Pf f fd)(ms:mg "sorted" = none):HC P w K mg base Hn 2 f fd ["terms"] WO:=by
 refine Hz F Nb λHh A outer s H vs Q E hr h=>?_
 obtain⟨a,ts,rfl,hL,Hm,q⟩:=h
 have hu:=Os hr
 have h8:=Q5 hr
 refine⟨_,HY (Hv (i:=1) Nb.nd rfl (Or.inr rfl) jO)
  (HY (Ie Af rfl (Ic (pv 0)) (JM rfl (IH (Hi (i:=2) Nb.nd rfl (Or.inl rfl)) (IH (Hi (i:=3) Nb.nd rfl (Or.inl rfl)) JQ)))
   (HX (OV hu (pv 1) (pv 2) (Hf Kn (Sf hu (pv 1) (pv 2) Ha ⟨rfl,rfl,rfl,rfl⟩) (pv 3)) rfl)))
  (HX (Hq (JK (N':=tZ) (src:=[none,some 1]) rfl (Ic (pR rfl h8 rfl ms (Gi (pv 1) Gy)))
   (JJ (He Pf) tV (by decide +kernel))
   (λb=>Hi (i:=0) rQ rfl (Or.inl rfl))
   (λb=>RI (IJ OE (RY hu (pv 1) (pv 0) (λ_ _=>rfl)) Ha (ID _)))
   (λb=>IE (Gi (pv 0) (Gi (RY hu (pv 1) (pv 0) (λ_ _=>rfl)) Gy))))))),?_⟩
 intro d hd
 obtain⟨vs,eL,iL⟩:=hL
 have lv:=AM iL
 have s0:Gp H (HV H d (.dT [])):=HW hd _
 refine⟨_,rfl,a,rfl,⟨vs,HU.of (s0 _ _ eL)⟩,?_⟩
 refine Jr (xs:=vs) (λi σ H'=>(∃c2 c3,σ=[some (.ref a),some (.ref d),c2,c3])/\H' d=some (.dT (Ka (JG (ts.take i))))/\Gp H H') ?_ ?_ ?_ ?_
 ·exact⟨⟨_,_,rfl⟩,HR,s0⟩
 ·rintro i σ H1 _ ⟨_,_,s1⟩
  exact HU.of (s1 _ _ eL)
 ·rintro i x σ H1 hx ⟨⟨c2,c3,rfl⟩,h1,s1⟩
  obtain⟨t,ht,hi⟩:=Io iL hx
  obtain⟨p,k,rfl,hp,hk⟩:=KF hi
  have hk1:=s1 _ _ hk
  refine⟨p,_,rfl,HM.of (s1 _ _ hp),rfl,_,_,rfl,_,_,rfl,rfl,?_⟩
  have g:=JH.t (k:=t.1.map Sum.inl) h1 (by rw[Ma];exact hk1)
  rw[WJ]at g
  refine⟨_,rfl,d,rfl,.inr ⟨_,.inl h1⟩,_,rfl,_,g,_,rfl,(Jj (JG (ts.take i)) t.1).getD 0,t.2,?_,rfl,_,rfl,_,rfl,d,_,rfl,KG.t (k:=t.1.map Sum.inl) h1 (by rw[Ma];exact hk1) ?_,?_⟩
  ·cases Jj (JG (ts.take i)) t.1<;>rfl
  ·rw[OP]
   have:=W8 (ts.take i)
   rw[Ap]at this
   exact Kw (by lia)
  ·refine⟨⟨_,_,rfl⟩,?_,λb o e=>?_⟩
   ·rw[JW ht,Qj,<-U2]
    exact HR
   ·rw[Hw (Jd e hd)]
    exact s1 b o e
 ·rintro σ H1 ⟨⟨c2,c3,rfl⟩,h1,s1⟩
  rw[Ab (by lia)]at h1
  refine⟨_,rfl,d,JG ts,rfl,.inl h1,λp vs' ks hp pm so it=>?_⟩
  have s2:Gp H1 (HV H1 p (.lst vs')):=HW hp _
  refine⟨p,rfl,⟨_,HU.of HR⟩,λb D hD=>?_⟩
  have lk:=AM it
  have ln:vs'.length<=100000:=by
   have:=pm.length_eq
   rw[AB]at this
   have:=W8 ts
   lia
  refine Km (α:=Go) hD (HU.of HR) (λσ=>∃c,σ=[c,some (.ref d)]) (λi=>(ks[i]?).bind λk=>if (Jj (JG ts) k).getD 0≠0 then some (k,(Jj (JG ts) k).getD 0) else none) (small ln) ⟨_,rfl⟩ ?_ ?_
  ·rintro i x σ H2 Yes No hx ⟨c,rfl⟩ s3 yes no
   obtain⟨k,hk,hi⟩:=Io it hx
   obtain⟨pk,rfl,hpk⟩:=JI hi
   have hpk3:=s3 _ _ (s2 _ _ hpk)
   have hd3:=s3 _ _ (s2 _ _ h1)
   obtain⟨n,hn⟩:=VQ (pm.mem_iff.mp (AT hk))
   have g:=JH.t (k:=k.map Sum.inl) hd3 (by rw[Ma];exact hpk3)
   rw[WJ,hn]at g
   refine⟨_,rfl,_,rfl,d,.int n,rfl,g,rfl,_,rfl,?_⟩
   by_cases c0:n=0
   ·subst c0
    refine JD ?_
    exact no _ _ ⟨_,rfl⟩ (Gp.refl _) (by rw[hk,Cq,hn,AD (by simp)])
   ·have e0:(!decide (V.int n=V.int 0))=true:=by
     rw[Aa (λz=>c0 (by injection z))]
     rfl
    rw[e0]
    refine KC ⟨_,rfl,_,rfl,_,rfl,d,.int n,rfl,g,Iv,λr hr=>?_⟩
    exact yes _ _ _ (k,n) ⟨_,rfl⟩ (HW hr _) (by rw[hk,Cq,hn,AF (by simpa using c0)];rfl) (Jg HR (HW hr _ _ _ hpk3))
  ·intro H2 s3 hL
   refine q D H2 (s1.free (s2.free hD)) (s1.trans (s2.trans s3)) ?_
   have e:=Vw pm so
   rw[<-Wc,<-Js,<-lk]at e
   rw[<-e]
   exact hL
noncomputable def PM:Sp:=λvs H Q _=>∃(a b:yJ)(S T:List Go),vs=[.ref a,.ref b]/\Gg H a S/\Gg H b T/\S.length*T.length<=10000/\(∀t∈S,t.1.length<=100/\t.2.natAbs<2^100000)/\(∀t∈T,t.1.length<=100/\t.2.natAbs<2^100000)/\∀(l:yJ)(H':Hp),H l=none->Gp H H'->Gg H' l (norm (Jt JL S T))->Q (.ref l) H'
noncomputable abbrev wL:yB:=["one", "other", "terms", "row", "number", "more", "often"]
theorem Lf:Gq wL ["one", "other"] (He Zn):=IA
theorem Lo{H H':Hp}{l:yJ}(h:H l=none)(e:Gp H H')(o:HO):Gp H (HV H' l o):=λb u q=>by rw[Hw (Jd q h)];exact e b u q
theorem Ky{H:Hp}{l:yJ}{xs:List V}(h:H l=some (.lst xs))(o:HO):Hb H (HV H l o):=λp ys q=>by
 rw[Hw (Jw q h (by intro z;cases z))];exact q
theorem Xs(d:xX->xX)(S T:List Go)(t:Go):Jt d (S++[t]) T=Jt d S T++T.map λu=>(d (t.1++u.1),t.2*u.2):=by
 unfold Jt
 rw[BM,BX]
theorem VU(d:xX->xX)(T:List Go):∀S:List Go,(Jt d S T).length=S.length*T.length
 |[]=>by simp [Jt]
 |t::S=>by
  have:=VU d T S
  unfold Jt at this ⊢
  rw[BD,AJ,AB,this,Am,Cz]
  lia
theorem mR(F:Hu K "joined" "joined" Zn f fd)(GG:Hc P w K mg base 2 "gathered" ["terms"] WO)(mt:mg "tuple" = none)(ms:mg "sorted" = none):HC P w K mg base Hn 3 f fd ["one", "other"] PM:=by
 refine Hz F Lf λHh A outer s H vs Q E hr h=>?_
 obtain⟨a,b,S,T,rfl,⟨vs,eA,iA⟩,⟨ws,eB,iB⟩,hl,hS,hT,q⟩:=h
 have h8:=Q5 hr
 refine⟨_,HY (Hv (i:=2) Lf.nd rfl (Or.inl rfl) (Ik Gy))
  (HY (Ie Af rfl (Ic (pv 0)) (JM rfl (IH (Hi (i:=3) Lf.nd rfl (Or.inl rfl)) (IH (Hi (i:=4) Lf.nd rfl (Or.inl rfl)) JQ)))
   (HX (Ie Af rfl (Ic (pv 1)) (JM rfl (IH (Hi (i:=5) Lf.nd rfl (Or.inl rfl)) (IH (Hi (i:=6) Lf.nd rfl (Or.inl rfl)) JQ)))
    (HX (Ir (Kr A6 A9 BA Kv (pv 2) (Gi (IE (Gi (MJ OH rfl mt BL (Gi (vB rfl h8 rfl ms (Gi (Hf La (pv 3) (pv 5)) Gy)) Gy)) (Gi (Hf Nh (pv 4) (pv 6)) Gy))) Gy)))))))
  (HX (Hq (Hd GG hr rfl (Gi (pv 2) Gy))))),?_⟩
 have lA:=AM iA
 have lB:=AM iB
 refine⟨JP,λl hl0=>?_⟩
 have s0:=HW hl0 (.lst [])
 refine⟨_,rfl,a,rfl,⟨vs,HU.of (s0 _ _ eA)⟩,?_⟩
 refine Jr (xs:=vs) (λi σ H'=>(∃c3 c4 c5 c6,σ=[some (.ref a),some (.ref b),some (.ref l),c3,c4,c5,c6])/\Gg H' l (Jt JL (S.take i) T)/\Gp H H') ?_ ?_ ?_ ?_
 ·exact⟨⟨_,_,_,_,rfl⟩,⟨[],HR,.nil⟩,s0⟩
 ·rintro i σ H1 _ ⟨_,_,s1⟩
  exact HU.of (s1 _ _ eA)
 ·rintro i x σ H1 hx ⟨⟨c3,c4,c5,c6,rfl⟩,hW,s1⟩
  obtain⟨t,ht,hi⟩:=Io iA hx
  obtain⟨p,kk,rfl,hp,hkk⟩:=KF hi
  have li:i<S.length:=(AZ.mp ht).1
  have tb:=hS t (AT ht)
  refine⟨p,_,rfl,HM.of (s1 _ _ hp),rfl,_,_,rfl,_,_,rfl,rfl,?_⟩
  refine⟨_,rfl,b,rfl,⟨ws,HU.of (s1 _ _ eB)⟩,?_⟩
  rw[JW ht,Xs]
  have jl:=VU JL T (S.take i)
  have jm:(S.take i).length*T.length+T.length<=10000:=by
   have:((S.take i).length+1)*T.length<=S.length*T.length:=Db _ (by rw[Ap];lia)
   rw[Cz]at this
   lia
  generalize Jt JL (S.take i) T=pre at hW jl
  refine Jr (xs:=ws) (λj σ H'=>(∃c5 c6,σ=[some (.ref a),some (.ref b),some (.ref l),some (.ref kk),some (.int t.2),c5,c6])/\Gg H' l (pre++(T.take j).map λu=>(JL (t.1++u.1),t.2*u.2))/\Gp H H') ?_ ?_ ?_ ?_
  ·refine⟨⟨_,_,rfl⟩,?_,s1⟩
   rw[DH,DI,BV]
   exact hW
  ·rintro j σ H2 _ ⟨_,_,s2⟩
   exact HU.of (s2 _ _ eB)
  ·rintro j y σ H2 hy ⟨⟨c5,c6,rfl⟩,⟨us,eU,iU⟩,s2⟩
   obtain⟨u,hu,hi2⟩:=Io iB hy
   obtain⟨p2,k2,rfl,hp2,hk2⟩:=KF hi2
   have ub:=hT u (AT hu)
   have lu:=AM iU
   have lj:j<T.length:=(AZ.mp hu).1
   refine⟨p2,_,rfl,HM.of (s2 _ _ hp2),rfl,_,_,rfl,_,_,rfl,rfl,?_⟩
   refine⟨_,rfl,.inl ⟨rfl,_,HU.of eU⟩,?_⟩
   refine⟨_,rfl,_,rfl,?_⟩
   refine Lq (r:=t.1) (r':=u.1) (s2 _ _ hkk) (s2 _ _ hk2) (small (by lia)) λt3 H3 s3 h3=>?_
   refine⟨t3,t.1++u.1,rfl,HM.of h3,λp4 m h4 pm so=>?_⟩
   rw[Tx pm so]
   have s4:=HW h4 (.lst ((JL (t.1++u.1)).map V.int))
   refine⟨p4,_,rfl,.inl ⟨HU.of HR,λt5 h5=>?_⟩⟩
   have s5:=HW h5 (.tup ((JL (t.1++u.1)).map V.int))
   refine⟨_,rfl,_,rfl,_,_,rfl,rfl,⟨tb.2,ub.2⟩,Iv,λp6 h6=>?_⟩
   have s6:=HW h6 (.tup [.ref t5,.int (t.2*u.2)])
   have all:=s3.trans (s4.trans (s5.trans s6))
   have eU6:=all _ _ eU
   refine⟨l,us,_,rfl,rfl,eU6,Kw (by rw[AJ,AB,Ap]at lu;lia),⟨_,_,rfl⟩,⟨us++[.ref p6],HR,?_⟩,Lo hl0 (s2.trans all) _⟩
   rw[JW hu,Ar,<-An]
   exact Paired.app (Hr.mono ((Hb.same all).trans (Ky eU6 _)) iU) (.cons (Dat.mono (Ky eU6 _) (Jg (t:=(JL (t.1++u.1),t.2*u.2)) HR (s6 _ _ HR))) .nil)
  ·rintro σ H2 ⟨⟨c5,c6,rfl⟩,h2,s2⟩
   rw[Ab (by lia)]at h2
   exact⟨⟨_,_,_,_,rfl⟩,h2,s2⟩
 ·rintro σ H1 ⟨⟨c3,c4,c5,c6,rfl⟩,hL,s1⟩
  rw[Ab (by lia)]at hL
  have jl:=VU JL T S
  exact⟨_,rfl,l,_,rfl,hL,by lia,λl3 H2 hl3 s2 h2=>q l3 H2 (s1.free hl3) (s1.trans s2) h2⟩
end
section
variable{P:yL}{w:yM}{K:yG}{mg:Str->yD}{base:Heap}{f g:yJ}{fd gd:yN}
theorem pD:Gq MR MR (He PV):=IA
noncomputable def TF:Sp:=λvs H Q _=>∃(a b:yJ)(S T:List Go),vs=[.ref a,.ref b]/\Gg H a S/\Gg H b T/\S.length+T.length<=100000/\∀(l:yJ)(H':Hp),H l=none->Gp H H'->Gg H' l (norm (S++T))->Q (.ref l) H'
theorem UX(F:Hu K "plus" "plus" PV f fd)(GG:Hc P w K mg base 2 "gathered" ["terms"] WO):HC P w K mg base Hn 3 f fd MR TF:=by
 refine Hz F pD λHh A outer s H vs Q E hr h=>?_
 obtain⟨a,b,ts,us,rfl,⟨vs,eA,iA⟩,⟨ws,eB,iB⟩,Hm,q⟩:=h
 refine⟨_,HX (Hq (Hd GG hr rfl (Gi (Hf Wt (pv 0) (pv 1)) Gy))),?_⟩
 have la:=AM iA
 have lb:=AM iB
 refine⟨_,rfl,_,rfl,a,b,vs,ws,rfl,rfl,eA,eB,small (by lia),λp hp=>?_⟩
 have s1:=HW hp (.lst (vs++ws))
 refine⟨p,ts++us,rfl,⟨_,HR,Paired.app (Hr.mono (Hb.same s1) iA) (Hr.mono (Hb.same s1) iB)⟩,by rw[AJ];exact Hm,λl H' hl s2 h2=>?_⟩
 exact q l H' (s1.free hl) (s1.trans s2) h2
noncomputable abbrev K3(H:Hp)(vs:List V)(Ps:List (List Go)):Prop:=Paired (λv T=>∃b,v=.ref b/\Gg H b T) vs Ps
theorem K3.mono{H H':Hp}{vs:List V}{Ps:List (List Go)}(s:Gp H H')(h:K3 H vs Ps):K3 H' vs Ps:=Cs (λ_ _ q=>let ⟨b,e,hb⟩:=q;⟨b,e,hb.mono s⟩) h
noncomputable def Q8(k:Nat):Int:=if (k:Int)%2=1 then 1 else -1
noncomputable def Kg(Ps:List (List Go)):Nat->List Go
 |0=>[]
 |k+1=>norm (Kg Ps k++norm (Jt JL [([((k+1:Nat):Int)],Q8 (k+1))] (Ps.getD (Ps.length-(k+1)) [])))
noncomputable def QD(T:List Go):Bool:=decide (T.length<=100)&&T.all λt=>decide (t.1.length<=100)&&decide (t.2.natAbs<2^64)
noncomputable def L1(Ps:List (List Go)):Bool:=decide (Ps.length<=8)&&Ps.all QD&&(List.range (Ps.length+1)).all λk=>QD (Kg Ps k)
theorem XB{T:List Go}(h:QD T=true):T.length<=100/\∀t∈T,t.1.length<=100/\t.2.natAbs<2^100000:=by
 unfold QD at h
 rw[AI,AQ,AR]at h
 refine⟨h.1,λt ht=>?_⟩
 have:=h.2 t ht
 rw[AI,AQ,AQ]at this
 exact⟨this.1,DJ this.2 (Bq (by decide) (by decide))⟩
noncomputable abbrev xN:yB:=["lesser", "total", "number", "sign"]
theorem MM:Gq xN ["lesser"] (He oO):=IA
noncomputable def PN:Sp:=λvs H Q _=>∃(a:yJ)(us:List V)(Ps:List (List Go)),vs=[.ref a]/\H a=some (.lst us)/\K3 H us Ps/\L1 Ps=true/\∀(l:yJ)(H':Hp),H l=none->Gp H H'->Gg H' l (Kg Ps Ps.length)->Q (.ref l) H'
theorem Yu{us:List V}{k:Nat}(h:k<us.length):J1 us (-((k:Int)+1))=us[us.length-(k+1)]?:=by
 unfold J1 Mv
 rw[AD (by lia)]
 rw[AF (by lia)]
 rw[Cq]
 congr 1
 lia
theorem fO(F:Hu K "alternating" "alternating" oO f fd)(GP:Hc P w K mg base 3 "plus" MR TF)(GJ:Hc P w K mg base 3 "joined" ["one", "other"] PM)(mr:mg "range" = none)(mn:mg "len" = none):HC P w K mg base Hn 4 f fd ["lesser"] PN:=by
 refine Hz F MM λHh A outer s H vs Q E hr h=>?_
 obtain⟨a,us,Ps,rfl,ha,hT,hB,q⟩:=h
 refine⟨_,HY (Hv (i:=1) MM.nd rfl (Or.inl rfl) (Ik Gy))
  (HY (Ie Af rfl (lG rfl mr (Gi Ha (Gi (Hf Kn (Iz KS rfl mn BR (Gi (pv 0) Gy)) Ha) Gy))) (Hi (i:=2) MM.nd rfl (Or.inl rfl))
   (HY (Hv (i:=3) MM.nd rfl (Or.inl rfl) (oE (IJ Ke (Hf Kt (pv 2) Ha) Ha (ID _)) Ha (N4 N7 Ha)))
   (HX (Hv (i:=1) MM.nd rfl (Or.inl rfl) (Hd GP hr rfl (Gi (pv 1) (Gi (Hd GJ hr rfl (Gi (Ik (Gi (IE (Gi (IE (Gi (pv 2) Gy)) (Gi (pv 3) Gy))) Gy)) (Gi (IY K4 (pv 0) (N4 N7 (pv 2)) (λ_ _=>rfl)) Gy))) Gy)))))))
  (HX (Hq (pv 1)))),?_⟩
 unfold L1 at hB
 rw[AI,AI,AQ,AR,AR]at hB
 obtain⟨⟨l8,hP⟩,hK⟩:=hB
 have lu:=AM hT
 refine⟨JP,λl0 hl0=>?_⟩
 have s0:=HW hl0 (.lst [])
 refine⟨_,rfl,a,_,rfl,.inl (HU.of (s0 _ _ ha)),_,_,rfl,rfl,1,_,rfl,⟨by lia,by lia,by lia,by lia⟩,?_⟩
 refine NU (lo:=1) (n:=((us.length:Int)+1-1).toNat) (λk σ H'=>(∃(l:yJ)(c2 c3:Option V),σ=[some (.ref a),some (.ref l),c2,c3]/\Gg H' l (Kg Ps k)/\H l=none)/\Gp H H') ?_ ?_ ?_
 ·exact⟨⟨l0,_,_,rfl,⟨[],HR,.nil⟩,hl0⟩,s0⟩
 ·rintro k σ H1 hk ⟨⟨l,c2,c3,rfl,hL,fl⟩,s1⟩
  have kl:k<us.length:=by lia
  obtain⟨Pk,hPk,b,hb',hb⟩:∃Pk,Pk=Ps.getD (Ps.length-(k+1)) []/\∃b,us[us.length-(k+1)]?=some (.ref b)/\Gg H b Pk:=by
   obtain⟨T,hT',b,eb,hb⟩:=Paired.get hT (AL (show us.length-(k+1)<us.length by lia))
   refine⟨T,?_,b,by rw[AL (show us.length-(k+1)<us.length by lia),eb],hb⟩
   rw[<-lu,Ad,hT']
   rfl
  have pm:Pk∈Ps:=by
   rw[hPk,Ad,AL (show Ps.length-(k+1)<Ps.length by lia)]
   exact Cm _
  obtain⟨b1,b2⟩:=XB (hP Pk pm)
  obtain⟨a1,a2⟩:=XB (hK k (Al.mpr (by lia)))
  have at1:J1 us (-(1+(k:Int)))=some (.ref b):=by
   rw[show -(1+(k:Int))=-((k:Int)+1) by lia,Yu kl]
   exact hb'
  have par:(1+(k:Int))%2=1/\Q8 (k+1)=1∨¬ (1+(k:Int))%2=1/\Q8 (k+1)=-1:=by
   unfold Q8
   rw[show((k+1:Nat):Int)=1+(k:Int) by lia]
   by_cases c:(1+(k:Int))%2=1
   ·exact .inl ⟨c,AF c⟩
   ·exact .inr ⟨c,AD c⟩
  refine⟨_,rfl,_,_,rfl,rfl,(by show(0:Int)<2;decide),rfl,_,rfl,?_⟩
  rcases par with⟨c1,e1⟩|⟨c1,e1⟩
  ·refine Jf (show V.int ((1+(k:Int))%2)=V.int 1 by rw[c1]) ?_
   refine⟨_,rfl,_,rfl,Il,λt1 h1=>⟨_,rfl,Iv,λt2 h2=>⟨Il,λl3 h3=>?_⟩⟩⟩
   have z1:=HW h1 (.tup [.int (1+(k:Int))])
   have z2:=HW h2 (.tup [.ref t1,.int (1)])
   have z3:=HW h3 (.lst [.ref t2])
   have z:=z1.trans (z2.trans z3)
   have sz:=s1.trans z
   refine⟨_,rfl,_,rfl,_,rfl,a,us,_,.ref b,rfl,rfl,HU.of (sz _ _ ha),at1,?_⟩
   refine⟨l3,b,[([1+(k:Int)],1)],Pk,rfl,⟨[.ref t2],HR,.cons (Jg (t:=([1+(k:Int)],1)) (z3 _ _ HR) (z3 _ _ (z2 _ _ HR))) .nil⟩,hb.mono sz,by show 1*_<=10000;lia,λt ht=>by rw[AS.mp ht];exact⟨by show 1<=100;decide,by show(1:Int).natAbs<_;exact DJ (show(1:Int).natAbs<2^64 by decide) (Bq (by decide) (by decide))⟩,b2,λl4 H4 hl4 s4 h4=>?_⟩
   have jl:=VU JL Pk [([1+(k:Int)],1)]
   have nl:=Pc (Jt JL [([1+(k:Int)],1)] Pk)
   have j1:[([1+(k:Int)],(1:Int))].length=1:=rfl
   rw[j1,Nat.one_mul]at jl
   refine⟨l,l4,Kg Ps k,_,rfl,hL.mono (z.trans s4),h4,by lia,λl5 H5 hl5 s5 h5=>?_⟩
   refine⟨⟨l5,_,_,rfl,?_,(sz.trans s4).free hl5⟩,(sz.trans s4).trans s5⟩
   show Gg H5 l5 (norm (Kg Ps k++norm (Jt JL [([((k+1:Nat):Int)],Q8 (k+1))] (Ps.getD (Ps.length-(k+1)) []))))
   rw[e1,<-hPk,show((k+1:Nat):Int)=1+(k:Int) by lia]
   exact h5
  ·refine JF (λz=>c1 (by injection z)) ⟨_,rfl,?_⟩
   refine⟨_,rfl,_,rfl,Il,λt1 h1=>⟨_,rfl,Iv,λt2 h2=>⟨Il,λl3 h3=>?_⟩⟩⟩
   have z1:=HW h1 (.tup [.int (1+(k:Int))])
   have z2:=HW h2 (.tup [.ref t1,.int (-1)])
   have z3:=HW h3 (.lst [.ref t2])
   have z:=z1.trans (z2.trans z3)
   have sz:=s1.trans z
   refine⟨_,rfl,_,rfl,_,rfl,a,us,_,.ref b,rfl,rfl,HU.of (sz _ _ ha),at1,?_⟩
   refine⟨l3,b,[([1+(k:Int)],-1)],Pk,rfl,⟨[.ref t2],HR,.cons (Jg (t:=([1+(k:Int)],-1)) (z3 _ _ HR) (z3 _ _ (z2 _ _ HR))) .nil⟩,hb.mono sz,by show 1*_<=10000;lia,λt ht=>by rw[AS.mp ht];exact⟨by show 1<=100;decide,by show(-1:Int).natAbs<_;exact DJ (show(-1:Int).natAbs<2^64 by decide) (Bq (by decide) (by decide))⟩,b2,λl4 H4 hl4 s4 h4=>?_⟩
   have jl:=VU JL Pk [([1+(k:Int)],-1)]
   have nl:=Pc (Jt JL [([1+(k:Int)],-1)] Pk)
   have j1:[([1+(k:Int)],(-1:Int))].length=1:=rfl
   rw[j1,Nat.one_mul]at jl
   refine⟨l,l4,Kg Ps k,_,rfl,hL.mono (z.trans s4),h4,by lia,λl5 H5 hl5 s5 h5=>?_⟩
   refine⟨⟨l5,_,_,rfl,?_,(sz.trans s4).free hl5⟩,(sz.trans s4).trans s5⟩
   show Gg H5 l5 (norm (Kg Ps k++norm (Jt JL [([((k+1:Nat):Int)],Q8 (k+1))] (Ps.getD (Ps.length-(k+1)) []))))
   rw[e1,<-hPk,show((k+1:Nat):Int)=1+(k:Int) by lia]
   exact h5
 ·rintro σ H1 ⟨⟨l,c2,c3,rfl,hL,fl⟩,s1⟩
  rw[show((us.length:Int)+1-1).toNat=Ps.length by lia]at hL
  exact⟨_,rfl,q l _ fl s1 hL⟩
end
section
variable{P:yL}{w:yM}{K:yG}{mg:Str->yD}{base:Heap}{f g:yJ}{fd gd:yN}
noncomputable def Iy:Nat->List (List Go)
 |0=>[[([],1)]]
 |k+1=>Iy k++[Kg (Iy k) (Iy k).length]
theorem Th:∀k,(Iy k).length=k+1
 |0=>rfl
 |k+1=>by
  show(Iy k++[Kg (Iy k) (Iy k).length]).length=_
  rw[AJ,Th k]
  rfl
theorem tF:∀k∈List.range 5,L1 (Iy k)=true:=by decide +kernel
theorem W5{H:Hp}{b p:yJ}{T:List Go}{xs:List V}(nb:b≠p)(hp:H p=some (.lst xs))(o:HO)(h:Gg H b T):Gg (HV H p o) b T:=by
 obtain⟨vs,e,i⟩:=h
 exact⟨vs,by rw[Hw nb];exact e,Hr.mono (Ky hp o) i⟩
theorem VF:Gq ["many", "parts"] ["many"] (He aG):=IA
noncomputable def TC:Sp:=λvs H Q _=>∃n:Nat,vs=[.int n]/\n<=4/\∀(a:yJ)(us:List V)(H':Hp),H a=none->Gp H H'->H' a=some (.lst us)->K3 H' us (Iy n)->Q (.ref a) H'
theorem Y9(F:Hu K "elementaries_by_whole" "elementaries_by_whole" aG f fd)(GA:Hc P w K mg base 4 "alternating" ["lesser"] PN)(mn:mg "len" = none):HC P w K mg base Hn 5 f fd ["many"] TC:=by
 refine Hz F VF λHh A outer s H vs Q E hr h=>?_
 obtain⟨n,rfl,n4,q⟩:=h
 refine⟨_,HY (Hv (i:=1) VF.nd rfl (Or.inl rfl) (Ik (Gi (Ik (Gi (IE (Gi (IE Gy) (Gi Ha Gy))) Gy)) Gy)))
  (HY (Wb Af (IJ Qt (Iz KS rfl mn BR (Gi (pv 1) Gy)) (pv 0) (ID _))
   (HX (Ir (Kr A6 A9 BA Kv (pv 1) (Gi (Hd GA hr rfl (Gi (pv 1) Gy)) Gy)))))
  (HX (Hq (pv 1)))),?_⟩
 refine⟨JP,λt0 h0=>⟨Iv,λt1 h1=>⟨Il,λl2 h2=>⟨Il,λp hp=>?_⟩⟩⟩⟩
 have s0:=HW h0 (.tup [])
 have s1:=HW h1 (.tup [.ref t0,.int 1])
 have s2:=HW h2 (.lst [.ref t1])
 have s3:=HW hp (.lst [.ref l2])
 have z:=s0.trans (s1.trans (s2.trans s3))
 have np:l2≠p:=λe=>by rw[<-e,HR]at hp;cases hp
 have fp:H p=none:=s0.free (s1.free (s2.free hp))
 refine⟨λm σ H'=>∃(k:Nat)(us:List V),m=n+1-k/\k<=n/\σ=[some (.int n),some (.ref p)]/\H' p=some (.lst us)/\Paired (λv T=>∃b,v=.ref b/\b≠p/\Gg H' b T) us (Iy k)/\Gp H H',⟨n+1,0,[.ref l2],rfl,by lia,rfl,HR,.cons ⟨l2,rfl,np,s3 _ _ HR |> λe=>⟨[.ref t1],e,.cons (Jg (t:=([],1)) (s3 _ _ (s2 _ _ HR)) (s3 _ _ (s2 _ _ (s1 _ _ HR)))) .nil⟩⟩ .nil,z⟩,?_⟩
 rintro m σ H1 ⟨k,us,rfl,kn,rfl,h1',hT,sH⟩
 have lu:=AM hT
 rw[Th]at lu
 refine⟨_,rfl,p,_,rfl,.inl (HU.of h1'),_,rfl,_,_,rfl,rfl,_,rfl,?_⟩
 by_cases c:((us.length:Int))<=(n:Int)
 ·refine Jf c ⟨λσ' H'=>∃us',σ'=[some (.int n),some (.ref p)]/\H' p=some (.lst us')/\Paired (λv T=>∃b,v=.ref b/\b≠p/\Gg H' b T) us' (Iy (k+1))/\Gp H H',λσ' H' ⟨us',e1,e2,e3,e4⟩=>⟨n+1-(k+1),by lia,k+1,us',rfl,by lia,e1,e2,e3,e4⟩,?_⟩
  refine⟨_,rfl,.inl ⟨rfl,_,HU.of h1'⟩,_,rfl,p,us,Iy k,rfl,h1',Cs (λ_ _ q=>let ⟨b,e,_,hb⟩:=q;⟨b,e,hb⟩) hT,tF k (Al.mpr (by lia)),λl H2 hl s4 hL=>?_⟩
  have h2p:=s4 _ _ h1'
  have nl:l≠p:=λe=>by rw[e,h1']at hl;cases hl
  refine⟨p,us,_,rfl,rfl,h2p,Kw (by lia),us++[.ref l],rfl,HR,?_,Lo fp (sH.trans s4) _⟩
  show Paired _ _ (Iy k++[Kg (Iy k) (Iy k).length])
  refine Paired.app (Cs (λv T q=>?_) hT) (.cons ?_ .nil)
  ·obtain⟨b,e,nb,hb⟩:=q
   exact⟨b,e,nb,W5 nb h2p _ (hb.mono s4)⟩
  ·exact⟨l,rfl,nl,W5 nl h2p _ hL⟩
 ·refine JF c ?_
  have:k=n:=by lia
  subst this
  exact⟨_,rfl,q p us _ fp sH h1' (Cs (λ_ _ q=>let ⟨b,e,_,hb⟩:=q;⟨b,e,hb⟩) hT)⟩
end
section
variable{P:yL}{w:yM}{K:yG}{mg:Str->yD}{base:Heap}{f g:yJ}{fd gd:yN}
theorem PY(c:Int)(p:Pw):∀a:List Go,cf (scl c a) p=c*cf a p
 |[]=>by simp [scl,cf]
 |t::r=>by
  have:=PY c p r
  unfold scl at this ⊢
  rw[Ai]
  show(if t.1=p then c*t.2 else 0)+cf _ p=c*((if t.1=p then t.2 else 0)+cf r p)
  rw[this,DF]
  split
  ·rfl
  ·rw[Int.mul_zero]
theorem Yh{c:Int}(h:c≠0){a:List Go}(k:HZ a):HZ (scl c a):=by
 refine⟨?_,λt ht=>?_⟩
 ·have:=k.ord
  unfold scl
  rw[BQ]
  exact this
 ·obtain⟨u,hu,rfl⟩:=AN.mp ht
  exact Int.mul_ne_zero h (k.num u hu)
theorem lV{c:Int}(h:c≠0)(a:List Go):norm (scl c a)=scl c (norm a):=VH (JV _) (Yh h (JV a)) λp=>by rw[J6,PY,PY,J6]
theorem SJ(d:xX->xX)(c:Int)(P:List Go):∀S:List Go,Jt d (scl c S) P=scl c (Jt d S P)
 |[]=>rfl
 |t::S=>by
  have:=SJ d c P S
  unfold Jt scl at this ⊢
  rw[Ai,BD,BD,Ar,this]
  congr 1
  rw[Bp]
  refine CF λu _=>?_
  show(_,c*t.2*u.2)=(_,c*(t.2*u.2))
  rw[A4]
noncomputable def Ig(Ps:List (List Go))(r:xX):List Go:=r.foldl (λres k=>norm (Jt JL res (Ps.getD k.toNat []))) [([],1)]
theorem Zy(Ps:List (List Go))(r:xX)(k:Int):Ig Ps (r++[k])=norm (Jt JL (Ig Ps r) (Ps.getD k.toNat [])):=by
 unfold Ig
 rw[CC]
 rfl
noncomputable def P3(Ps:List (List Go))(r:xX):Bool:=decide (r.length<=8)&&r.all (λk=>decide (0<=k)&&decide (k<(Ps.length:Int)))&&(List.range (r.length+1)).all λj=>decide ((Ig Ps (r.take j)).length<=50)&&(Ig Ps (r.take j)).all λt=>decide (t.1.length<=50)&&decide (t.2.natAbs<2^64)
structure PB(Ps:List (List Go))(r:xX):Prop where
 l8:r.length<=8
 num:∀k∈r,0<=k/\k<(Ps.length:Int)
 few:∀j,j<=r.length->(Ig Ps (r.take j)).length<=50
 all:∀j,j<=r.length->∀t∈Ig Ps (r.take j),t.1.length<=50/\t.2.natAbs<2^64
theorem W0{Ps:List (List Go)}{r:xX}(h:P3 Ps r=true):PB Ps r:=by
 unfold P3 at h
 rw[AI,AI,AQ,AR,AR]at h
 obtain⟨⟨h1,h2⟩,h3⟩:=h
 have k3:∀j,j<=r.length->(Ig Ps (r.take j)).length<=50/\∀t∈Ig Ps (r.take j),t.1.length<=50/\t.2.natAbs<2^64:=λj hj=>by
  have:=h3 j (Al.mpr (by lia))
  rw[AI,AQ,AR]at this
  refine⟨this.1,λt ht=>?_⟩
  have:=this.2 t ht
  rw[AI,AQ,AQ]at this
  exact this
 refine⟨h1,λk hk=>?_,λj hj=>(k3 j hj).1,λj hj=>(k3 j hj).2⟩
 have:=h2 k hk
 rw[AI,AQ,AQ]at this
 exact this
theorem Zl{a b:Int}(ha:a.natAbs<2^20000)(hb:b.natAbs<2^64):(a*b).natAbs<2^100000:=by
 rw[CA]
 have h1:a.natAbs*b.natAbs<=2^20000*2^64:=B1 (Bf ha) (Bf hb)
 rw[<-EB]at h1
 exact A7 h1 (Bq (by decide) (by decide))
noncomputable def LH(Ps:List (List Go))(t:Go):List Go:=scl t.2 (Ig Ps t.1)
noncomputable abbrev xP:yB:=["telling", "parts", "terms", "row", "often", "result", "number"]
theorem Kq:Gq xP ["telling", "parts"] (He rK):=IA
noncomputable def Ow:Sp:=λvs H Q _=>∃(a b:yJ)(T:List Go)(us:List V)(Ps:List (List Go)),vs=[.ref a,.ref b]/\Gg H a T/\H b=some (.lst us)/\K3 H us Ps/\T.length<=100/\(∀t∈T,P3 Ps t.1=true/\t.2≠0/\t.2.natAbs<2^20000)/\(∀P∈Ps,QD P=true)/\∀(l:yJ)(H':Hp),H l=none->Gp H H'->Gg H' l (norm (T.flatMap (LH Ps)))->Q (.ref l) H'
theorem S9(Ps:List (List Go)):∀(T:List Go),(∀t∈T,(Ig Ps t.1).length<=50)->(T.flatMap (LH Ps)).length<=T.length*50
 |[],_=>by simp
 |t::T,h=>by
  have h1:=h t (AG ..)
  have h2:=S9 Ps T λu hu=>h u (AE _ hu)
  rw[BD,AJ,Am,Cz]
  unfold LH at h2 ⊢
  rw[OT]
  lia
theorem fC(F:Hu K "put_in" "put_in" rK f fd)(GG:Hc P w K mg base 3 "gathered" ["terms"] WO)(GJ:Hc P w K mg base 3 "joined" ["one", "other"] PM):HC P w K mg base Hn 4 f fd ["telling", "parts"] Ow:=by
 refine Hz F Kq λHh A outer s H vs Q E hr h=>?_
 obtain⟨a,b,T,us,Ps,rfl,⟨vs,eA,iA⟩,eB,hT,lT,bT,bP,q⟩:=h
 refine⟨_,HY (Hv (i:=2) Kq.nd rfl (Or.inl rfl) (Ik Gy))
  (HY (Ie Af rfl (Ic (pv 0)) (JM rfl (IH (Hi (i:=3) Kq.nd rfl (Or.inl rfl)) (IH (Hi (i:=4) Kq.nd rfl (Or.inl rfl)) JQ)))
   (HY (Hv (i:=5) Kq.nd rfl (Or.inl rfl) (Ik (Gi (IE (Gi (IE Gy) (Gi (pv 4) Gy))) Gy)))
   (HY (Ie Af rfl (MC (pv 3)) (Hi (i:=6) Kq.nd rfl (Or.inl rfl))
    (HX (Hv (i:=5) Kq.nd rfl (Or.inl rfl) (Hd GJ hr rfl (Gi (pv 5) (Gi (IY K4 (pv 1) (pv 6) (λ_ _=>rfl)) Gy))))))
   (HX (Ir (Kr A6 FD FE S1 (pv 2) (Gi (pv 5) Gy)))))))
  (HX (Hq (Hd GG hr rfl (Gi (pv 2) Gy))))),?_⟩
 have lA:=AM iA
 have lu:=AM hT
 have pr:∀t∈T,(Ig Ps t.1).length<=50:=λt ht=>by
  have:=(W0 (bT t ht).1).few t.1.length (AH _)
  rwa [Ab (AH _)]at this
 refine⟨JP,λl hl0=>?_⟩
 have s0:=HW hl0 (.lst [])
 refine⟨_,rfl,a,rfl,⟨vs,HU.of (s0 _ _ eA)⟩,?_⟩
 refine Jr (xs:=vs) (λi σ H'=>(∃c3 c4 c5 c6,σ=[some (.ref a),some (.ref b),some (.ref l),c3,c4,c5,c6])/\Gg H' l ((T.take i).flatMap (LH Ps))/\Gp H H') ?_ ?_ ?_ ?_
 ·exact⟨⟨_,_,_,_,rfl⟩,⟨[],HR,.nil⟩,s0⟩
 ·rintro i σ H1 _ ⟨_,_,s1⟩
  exact HU.of (s1 _ _ eA)
 ·rintro i x σ H1 hx ⟨⟨c3,c4,c5,c6,rfl⟩,hW,s1⟩
  obtain⟨t,ht,hi⟩:=Io iA hx
  obtain⟨p,kk,rfl,hp,hkk⟩:=KF hi
  have tm:=AT ht
  obtain⟨t1,t2,t3⟩:=bT t tm
  have pb:=W0 t1
  have fl:=S9 Ps (T.take i) λu hu=>pr u (BJ hu)
  rw[Ap]at fl
  refine⟨p,_,rfl,HM.of (s1 _ _ hp),rfl,_,_,rfl,_,_,rfl,rfl,?_⟩
  refine⟨JP,λt0 h0=>⟨_,rfl,Iv,λt4 h4=>⟨Il,λl3 h3=>?_⟩⟩⟩
  have z1:=HW h0 (.tup [])
  have z2:=HW h4 (.tup [.ref t0,.int t.2])
  have z3:=HW h3 (.lst [.ref t4])
  have z:=z1.trans (z2.trans z3)
  have hL3:Gg (HV (HV (HV H1 t0 (.tup [])) t4 (.tup [.ref t0,.int t.2])) l3 (.lst [.ref t4])) l3 (scl t.2 [([],1)]):=⟨[.ref t4],HR,.cons (Jg (t:=([],t.2*1)) (by rw[Ff];exact z3 _ _ HR) (z3 _ _ (z2 _ _ HR))) .nil⟩
  have n3:l3≠l:=λe=>by
   obtain⟨ys,ey,_⟩:=hW.mono (z1.trans z2)
   rw[e,ey]at h3
   cases h3
  have hW3:=hW.mono z
  have s3:=s1.trans z
  show J4 5 (.ref l3) _ (HV (HV (HV H1 t0 (.tup [])) t4 (.tup [.ref t0,.int t.2])) l3 (.lst [.ref t4])) _
  generalize HV (HV (HV H1 t0 (.tup [])) t4 (.tup [.ref t0,.int t.2])) l3 (.lst [.ref t4])=H2 at *
  refine⟨_,rfl,kk,rfl,⟨_,HM.of (s3 _ _ hkk)⟩,?_⟩
  refine O7 (xs:=t.1.map V.int) (λj σ H'=>(∃(lr:yJ)(c6:Option V),σ=[some (.ref a),some (.ref b),some (.ref l),some (.ref kk),some (.int t.2),some (.ref lr),c6]/\Gg H' lr (scl t.2 (Ig Ps (t.1.take j)))/\lr≠l)/\Gp H2 H') ?_ ?_ ?_ ?_
  ·exact⟨⟨l3,_,rfl,hL3,n3⟩,Gp.refl _⟩
  ·rintro j σ H3 _ ⟨_,s4⟩
   exact HM.of (s4 _ _ (s3 _ _ hkk))
  ·rintro j v σ H3 hv ⟨⟨lr,c6,rfl,hR,nr⟩,s4⟩
   obtain⟨k,hk,rfl⟩:∃k,t.1[j]?=some k/\V.int k=v:=by
    rw[Ag]at hv
    cases e:t.1[j]? with
    |none=>rw[e]at hv;cases hv
    |some y=>rw[e]at hv;exact⟨y,rfl,Aq hv⟩
   have jl:j<t.1.length:=(AZ.mp hk).1
   obtain⟨k0,k1⟩:=pb.num k (AT hk)
   obtain⟨m,rfl⟩:∃m:Nat,k=m:=⟨k.toNat,by lia⟩
   obtain⟨Pk,hPk,bk,ebk,hbk⟩:=Paired.get hT (AL (show m<us.length by lia))
   have s34:=s3.trans s4
   have gP:Ps.getD (m:Int).toNat []=Pk:=by
    rw[BB,Ad,hPk]
    rfl
   obtain⟨b1,b2⟩:=XB (bP Pk (AT hPk))
   have fw:=pb.few j (by lia)
   have al:=pb.all j (by lia)
   have e1:norm (Jt JL (scl t.2 (Ig Ps (t.1.take j))) Pk)=scl t.2 (Ig Ps (t.1.take (j+1))):=by
    rw[SJ,lV t2,JW hk,Zy,gP]
   generalize Ig Ps (t.1.take j)=R at hR fw al e1
   refine⟨_,rfl,_,rfl,_,rfl,b,us,_,.ref bk,rfl,rfl,HU.of (s34 _ _ eB),JY (by rw[AL (show m<us.length by lia),ebk]),?_⟩
   refine⟨lr,bk,scl t.2 R,Pk,rfl,hR,hbk.mono s34,?_,λu hu=>?_,b2,λl5 H5 hl5 s5 h5=>?_⟩
   ·rw[OT]
    have:=B1 fw b1
    lia
   ·obtain⟨y,hy,rfl⟩:=AN.mp hu
    obtain⟨y1,y2⟩:=al y hy
    exact⟨by show y.1.length<=100;lia,Zl t3 y2⟩
   ·rw[e1]at h5
    refine⟨⟨l5,_,rfl,h5,λe=>?_⟩,s4.trans s5⟩
    obtain⟨ys,ey,_⟩:=hW3.mono s4
    rw[e,ey]at hl5
    cases hl5
  ·rintro σ H3 ⟨⟨lr,c6,rfl,hR,nr⟩,s4⟩
   rw[AB,Ab (AH _)]at hR
   obtain⟨xs,ex,ix⟩:=hW3.mono s4
   obtain⟨zs,ez,iz⟩:=hR
   have lx:=AM ix
   have lz:=AM iz
   rw[OT]at lz
   have p50:=pr t tm
   refine⟨_,rfl,.inl ⟨rfl,_,HU.of ex⟩,_,rfl,l,lr,xs,zs,rfl,rfl,ex,ez,small (by lia),⟨_,_,_,_,rfl⟩,⟨xs++zs,HR,?_⟩,Lo hl0 (s3.trans s4) _⟩
   rw[JW ht,BM,BX]
   exact Paired.app (Hr.mono (Ky ex _) ix) (Hr.mono (Ky ex _) iz)
 ·rintro σ H1 ⟨⟨c3,c4,c5,c6,rfl⟩,hL,s1⟩
  rw[Ab (by lia)]at hL
  have fl:=S9 Ps T pr
  exact⟨_,rfl,l,_,rfl,hL,by lia,λl3 H2 hl3 s2 h2=>q l3 H2 (s1.free hl3) (s1.trans s2) h2⟩
end
section
variable{P:yL}{w:yM}{K:yG}{mg:Str->yD}{base:Heap}{f g:yJ}{fd gd:yN}
noncomputable def Mc(f:xX->List xX)(l:xX)(i:Nat):List xX:=if l.getD i 0∈l.take i then [] else (f (l.take i++l.drop (i+1))).map (l.getD i 0 :: ·)
noncomputable def J0:Nat->xX->List xX
 |0,_=>[]
 |n+1,l=>if l=[] then [[]] else (List.range l.length).flatMap (Mc (J0 n) l)
theorem Y7(n:Nat):J0 (n+1) []=[[]]:=by simp [J0]
theorem rF(n:Nat)(l:xX)(h:l≠[]):J0 (n+1) l=(List.range l.length).flatMap (Mc (J0 n) l):=by simp [J0,h]
theorem rC:∀(n:Nat)(l:xX),∀r∈J0 n l,r.length=l.length
 |0,_,r,h=>by simp [J0]at h
 |n+1,l,r,h=>by
  by_cases c:l=[]
  ·subst c
   rw[Y7,AS]at h
   rw[h]
  ·rw[rF n l c,A5]at h
   obtain⟨i,hi,h⟩:=h
   have hi:=Al.mp hi
   unfold Mc at h
   split at h
   ·simp at h
   ·obtain⟨q,hq,rfl⟩:=AN.mp h
    have:=rC n _ q hq
    rw[AJ,Ap,BG]at this
    rw[Am]
    lia
noncomputable def Qs:Nat->Nat
 |0=>1
 |n+1=>(n+1)*Qs n
theorem RE{α β:Type}(g:α->List β)(B:Nat):∀l:List α,(∀a∈l,(g a).length<=B)->(l.flatMap g).length<=l.length*B
 |[],_=>by simp
 |a::l,h=>by
  have h1:=h a (AG ..)
  have h2:=RE g B l λb hb=>h b (AE _ hb)
  rw[BD,AJ,Am,Cz]
  lia
theorem Xe:∀(n:Nat)(l:xX),(J0 n l).length<=Qs l.length
 |0,l=>by simp [J0]
 |n+1,l=>by
  by_cases c:l=[]
  ·subst c
   rw[Y7]
   exact AH _
  ·rw[rF n l c]
   obtain⟨k,hk⟩:∃k,l.length=k+1:=⟨l.length-1,by have:=List.length_pos_iff.mpr c;lia⟩
   refine As (RE _ (Qs k) _ λi hi=>?_) ?_
   ·have hi:=Al.mp hi
    unfold Mc
    split
    ·exact Az _
    ·rw[AB]
     have:=Xe n (l.take i++l.drop (i+1))
     rwa [AJ,Ap,BG,show min i l.length+(l.length-(i+1))=k by lia]at this
   ·rw[Bm,hk]
    exact AH _
theorem cG{α β:Type}(g:α->List β):∀{l:List α}{i:Nat}{a:α},l[i]?=some a->(l.take (i+1)).flatMap g=(l.take i).flatMap g++g a:=λ{l i a} h=>by
 rw[JW h,BM,BX]
theorem gX{α β:Type}(g:α->List β)(l:List α)(i:Nat):((l.take i).flatMap g).length<=(l.flatMap g).length:=by
 have:l.flatMap g=(l.take i).flatMap g++(l.drop i).flatMap g:=by rw[<-BM,BZ]
 rw[this,AJ]
 lia
theorem Zu{r:xX}{i:Nat}{v:V}(h:(r.map V.int)[i]?=some v):v=.int (r.getD i 0)/\i<r.length:=by
 rw[Ag]at h
 rw[Ad]
 cases e:r[i]? with
 |none=>rw[e]at h;cases h
 |some c=>rw[e]at h;exact⟨(Aq h).symm,(AZ.mp e).1⟩
noncomputable abbrev wS:yB:=["numbers", "found", "place", "number", "rest"]
theorem L7:Gq wS ["numbers"] (He XO):=IA
noncomputable def Lc(n:Nat):Sp:=λvs H Q _=>∃(p:yJ)(l:xX),vs=[.ref p]/\H p=some (.tup (l.map V.int))/\l.length<n/\l.length<=4 /\
 ∀(a:yJ)(H':Hp),H a=none->Gp H H'->Gg H' a (J0 n l)->Q (.ref a) H'
theorem oS{n:Nat}(F:Hu K "orders" "orders" XO f fd)(G:HC P w K mg base Hn n f fd ["numbers"] (Lc n))(bF:IT K fd ["numbers"] [])(mU:mg "orders" = some (.ref f))(me:mg "enumerate" = none) :
  HC P w K mg base Hn (n+1) f fd ["numbers"] (Lc (n+1)):=by
 refine Hz F L7 λHh A outer s H vs Q E hr h=>?_
 obtain⟨p,l,rfl,hp,hn,h4,q⟩:=h
 have hI:=A7 (CP (by decide:Dat.dep Int+1<=64) _) hr.units
 refine⟨_,HY (IW (IJ (Vd (α:=Int) hI) (pv 0) (IE Gy) (ID _)) (HX (Hq (Ik (Gi (IE Gy) Gy)))) IX)
  (HY (Hv (i:=1) L7.nd rfl (Or.inl rfl) (Ik Gy))
  (HY (Ie Af rfl (WE .tup rfl me (Gi (pv 0) Gy)) (JM rfl (IH (Hi (i:=2) L7.nd rfl (Or.inl rfl)) (IH (Hi (i:=3) L7.nd rfl (Or.inl rfl)) JQ)))
   (HX (IW (IJ sQ (pv 3) (Mx Om (pv 0) OL (Mn (pv 2))) rfl)
    (HX (Ie Af rfl (Ic (O0 G hr rfl mU F.kp bF .nil O4 (Gi (Hf La (Mx Om (pv 0) OL (Mn (pv 2))) (Mx Xt (pv 0) (Mn (Hf Kn (pv 2) Ha)) OL)) Gy))) (Hi (i:=4) L7.nd rfl (Or.inl rfl))
     (HX (Ir (Kr A6 A9 BA Kv (pv 1) (Gi (Hf La (IE (Gi (pv 3) Gy)) (pv 4)) Gy)))))) IX)))
  (HX (Hq (pv 1))))),?_⟩
 refine⟨_,rfl,JP,λt0 h0=>?_⟩
 have s0:=HW h0 (.tup [])
 refine⟨l,[],J9 (s0 _ _ hp),J9 HR,_,rfl,?_⟩
 by_cases c:l=[]
 ·subst c
  rw[M8]
  refine KC ?_
  refine⟨JP,λt1 h1=>⟨Il,λa ha=>?_⟩⟩
  have s1:=HW h1 (.tup [])
  have s2:=HW ha (.lst [.ref t1])
  refine q a _ (s0.free (s1.free ha)) (s0.trans (s1.trans s2)) ⟨[.ref t1],HR,?_⟩
  rw[Y7]
  exact .cons (J9 (r:=[]) (s2 _ _ HR)) .nil
 have ne:Jo (Dat.eqb (α:=Int)) l []=false:=Eu.mpr λz=>c ((QV Dat.eqb_iff _ _).mp z)
 rw[ne]
 refine JD ?_
 refine⟨JP,λa ha=>?_⟩
 have s1:=s0.trans (HW ha (.lst []))
 have fa:H a=none:=s0.free ha
 have tot:=rF n l c
 have tl:=Xe (n+1) l
 have b4:Qs l.length<=24:=by
  have:l.length=0∨l.length=1∨l.length=2∨l.length=3∨l.length=4:=by lia
  rcases this with e|e|e|e|e<;>rw[e]<;>decide
 rw[tot]at tl
 refine⟨_,rfl,p,rfl,⟨_,HM.of (s1 _ _ hp)⟩,?_⟩
 refine rP (k:=.tup) (xs:=l.map V.int) (λi σ H'=>(∃c2 c3 c4,σ=[some (.ref p),some (.ref a),c2,c3,c4])/\Gp H H'/\Gg H' a (((List.range l.length).take i).flatMap (Mc (J0 n) l))) ?_ ?_ ?_ ?_
 ·exact⟨⟨_,_,_,rfl⟩,s1,[],HR,by simpa using Paired.nil⟩
 ·rintro i σ H1 ⟨_,sH,_⟩
  exact HM.of (sH _ _ hp)
 ·rintro i x t σ H1 hx ht ⟨⟨c2,c3,c4,rfl⟩,sH,hL⟩
  obtain⟨rfl,hi⟩:=Zu hx
  have s2:=HW ht (.tup [.int i,.int (l.getD i 0)])
  refine⟨t,_,rfl,HM.of HR,rfl,_,_,rfl,_,_,rfl,rfl,?_⟩
  have hL:=hL.mono s2
  have sH:=sH.trans s2
  generalize HV H1 t (.tup [.int i,.int (l.getD i 0)])=G1 at hL sH
  have nx:=cG (Mc (J0 n) l) (DP hi)
  have nle:=gX (Mc (J0 n) l) (List.range l.length) (i+1)
  rw[nx]at nle
  refine⟨_,rfl,_,rfl,_,rfl,_,rfl,p,l,i,rfl,rfl,rfl,sH _ _ hp,λt2 H2 s2 h2=>⟨_,t2,_,rfl,rfl,h2,_,rfl,?_⟩⟩
  by_cases cm:l.getD i 0∈l.take i
  ·rw[Ac cm]
   refine JD ⟨⟨_,_,_,rfl⟩,sH.trans s2,?_⟩
   rw[nx,show Mc (J0 n) l i=[] from AF cm,BV]
   exact hL.mono s2
  rw[Aa cm]
  refine KC ?_
  have eO:Mc (J0 n) l i=(J0 n (l.take i++l.drop (i+1))).map (l.getD i 0 :: ·):=AD cm
  rw[eO]at nx nle
  have sH2:=sH.trans s2
  refine⟨_,rfl,_,rfl,_,rfl,p,l,i,rfl,rfl,rfl,sH2 _ _ hp,λt3 H3 s3 h3=>?_⟩
  refine⟨_,rfl,_,rfl,_,_,rfl,rfl,_,rfl,p,l,i+1,rfl,by rw[Int.natCast_add];rfl,rfl,s3 _ _ (sH2 _ _ hp),λt4 H4 s4 h4'=>?_⟩
  refine Lq (r:=l.take i) (r':=l.drop (i+1)) (s4 _ _ h3) h4' (small (by rw[Ap,BG];lia)) λt5 H5 s5 h5=>?_
  have s25:=s3.trans (s4.trans s5)
  have sH5:=sH2.trans s25
  have lr:(l.take i++l.drop (i+1)).length=l.length-1:=by rw[AJ,Ap,BG];lia
  refine⟨t5,_,rfl,h5,by lia,by lia,λr H6 fr s6 e6=>?_⟩
  have rl:=rC n (l.take i++l.drop (i+1))
  generalize J0 n (l.take i++l.drop (i+1))=Hl at e6 nx nle rl
  obtain⟨vs2,e2,i2⟩:=e6
  have l2:=AM i2
  have hL6:=(hL.mono s2).mono (s25.trans s6)
  generalize ((List.range l.length).take i).flatMap (Mc (J0 n) l)=pre at hL6 nx nle
  have hra:r≠a:=λz=>by
   obtain⟨zs,ez,_⟩:=(hL.mono s2).mono s25
   rw[z]at fr
   rw[ez]at fr
   cases fr
  refine⟨r,rfl,⟨_,HU.of e2⟩,?_⟩
  refine Jr (xs:=vs2) (λj σ H'=>(∃c4,σ=[some (.ref p),some (.ref a),some (.int i),some (.int (l.getD i 0)),c4])/\Gp H H'/\H' r=some (.lst vs2)/\Hr H' vs2 Hl/\Gg H' a (pre++(Hl.take j).map (l.getD i 0 :: ·))) ?_ ?_ ?_ ?_
  ·exact⟨⟨_,rfl⟩,sH5.trans s6,e2,i2,by simpa using hL6⟩
  ·rintro j σ H7 _ ⟨_,_,e3,_⟩
   exact HU.of e3
  ·rintro j x σ H7 hx ⟨⟨c4,rfl⟩,s7,e3,i3,pv2,eL3,iL3⟩
   obtain⟨row,hrow,hx2⟩:=Paired.get i3 hx
   obtain⟨px,rfl,hpx⟩:=JI hx2
   have jl:j<Hl.length:=(AZ.mp hrow).1
   have len3:pv2.length<sizeLine:=by
    have z:=AM iL3
    rw[AJ,AB,Ap]at z
    rw[AJ,AB]at nle
    exact Kw (by lia)
   have rw4:=rl row (AT hrow)
   refine⟨_,rfl,.inl ⟨rfl,_,HU.of eL3⟩,_,rfl,Il,λp8 h8=>⟨_,rfl,?_⟩⟩
   have s8:=HW h8 (.tup [.int (l.getD i 0)])
   refine Lq (r:=[l.getD i 0]) (r':=row) HR (s8 _ _ hpx) (small (by show 1+row.length<=100000;lia)) λp9 H9 s9 h9=>?_
   have s89:=s8.trans s9
   have eL4:=s89 _ _ eL3
   have t4:Hb H9 (HV H9 a (.lst (pv2++[.ref p9]))):=Ky eL4 _
   refine⟨a,pv2,.ref p9,rfl,rfl,eL4,len3,⟨_,rfl⟩,Lo fa (s7.trans s89) _,?_,Hr.mono ((Hb.same s89).trans t4) i3,pv2++[.ref p9],HR,?_⟩
   ·rw[Hw hra];exact s89 _ _ e3
   ·rw[JW hrow,Ar,<-An]
    exact Cc (Hr.mono ((Hb.same s89).trans t4) iL3) (Dat.mono t4 (J9 h9))
  ·rintro σ H7 ⟨⟨c4,rfl⟩,s7,e3,i3,hL3⟩
   refine⟨⟨_,_,_,rfl⟩,s7,?_⟩
   rw[nx]
   rw[l2,Ba]at hL3
   exact hL3
 ·rintro σ H1 ⟨⟨c2,c3,c4,rfl⟩,sH,hL⟩
  refine⟨_,rfl,q a H1 fa sH ?_⟩
  rw[tot]
  rw[AB,Ab (by rw[Bm];exact AH _)]at hL
  exact hL
theorem qT:HC P w K mg base Hn 0 f fd ["numbers"] (Lc 0):=by
 have no:∀vs H Q E,¬ Lc 0 vs H Q E:=λvs H Q E h=>by
  obtain⟨p,l,_,_,h1,_⟩:=h
  lia
 exact⟨λvs H Q E h=>absurd h (no vs H Q E),λA outer s H args us vs Q E _ _ _ _ h=>absurd h (no vs H Q E)⟩
theorem T4(F:Hu K "orders" "orders" XO f fd)(bF:IT K fd ["numbers"] [])(mU:mg "orders" = some (.ref f))(me:mg "enumerate" = none):∀n,HC P w K mg base Hn n f fd ["numbers"] (Lc n)
 |0=>qT
 |n+1=>oS F (T4 F bF mU me n) bF mU me
noncomputable def Iu(r:xX):Bool:=r.all (λx=>decide (1<=x))&&((List.range (r.length-1)).all λi=>decide (r.getD (i+1) 0<=r.getD i 0))&&decide (r.sum<=8)
noncomputable abbrev MG:yB:=["row"]
noncomputable abbrev uO:yB:=["number"]
noncomputable abbrev SS:yB:=["number", "later"]
theorem bH:uO.Nodup:=by decide +kernel
theorem VW:SS.Nodup:=by decide +kernel
theorem Ya:Gq MG MG (He MN):=IA
noncomputable def OY:Sp:=λvs H Q _=>∃(p:yJ)(r:xX),vs=[.ref p]/\H p=some (.tup (r.map V.int))/\r.length<=1000/\Iu r=true/\∀H',Gp H H'->Q .non H'
theorem YG(r:xX):(r.map λx=>decide (x<1)).any id=!(r.all λx=>decide (1<=x)):=by
 induction r with
 |nil=>rfl
 |cons x r ih =>
  rw[Ai,CM,DB,ih,Bool.not_and]
  have:id (decide (x<1))=!decide (1<=x):=by
   by_cases c:x<1
   ·simp [c]
   ·simp [c,show 1<=x by lia]
  rw[this]
theorem ZL(l:List Nat)(r:xX):(l.map λi=>decide (r.getD i 0<r.getD (i+1) 0)).any id=!(l.all λi=>decide (r.getD (i+1) 0<=r.getD i 0)):=by
 induction l with
 |nil=>rfl
 |cons i l ih =>
  rw[Ai,CM,DB,ih,Bool.not_and]
  have:id (decide (r.getD i 0<r.getD (i+1) 0))=!decide (r.getD (i+1) 0<=r.getD i 0):=by
   by_cases c:r.getD i 0<r.getD (i+1) 0
   ·rw[Ac c,Aa (by lia)];rfl
   ·rw[Aa c,Ac (by lia)];rfl
  rw[this]
theorem Sm{r:xX}{i:Nat}{v:V}(h:(r.map V.int)[i]?=some v):v=.int (r.getD i 0)/\i<r.length:=by
 rw[Ag]at h
 rw[Ad]
 cases e:r[i]? with
 |none=>rw[e]at h;cases h
 |some c=>rw[e]at h;exact⟨(Aq h).symm,(AZ.mp e).1⟩
theorem X0{tk:Tok}(F:Hu K "refuse_bad_row" "refuse_bad_row" MN f fd)(gU:mg "MOST_TOGETHER" = some (.int 8 tk))(ma:mg "any" = none)(mz:mg "zip" = none)(ms:mg "sum" = none):HC P w K mg base Hn 2 f fd MG OY:=by
 refine Hz F Ya λHh A outer s H vs Q E hr h=>?_
 obtain⟨p,r,rfl,hp,hl,hB,q⟩:=h
 have e:Iu r=false->False:=λz=>by rw[hB]at z;cases z
 refine⟨_,HY (IW (Ku (Iz (TX rfl) rfl ma GV (Gi (JK (N':=uO) (src:=[none]) rfl (MC (pv 0)) (JJ (He MN) MG (by decide +kernel))
    (λb=>Hi (i:=0) bH rfl (Or.inl rfl)) (λb=>Jh) (λb=>NF QX (pv 0) Ha (ID _))) Gy))) (HX QI) IX)
  (HY (IW (Ku (Iz (TX rfl) rfl ma GV (Gi (JK (N':=SS) (src:=[none,none]) rfl (VB .tup .tup rfl mz (Gi (pv 0) (Gi (Mx rN (pv 0) (Mn Ha) OL) Gy))) (JJ (He MN) MG (by decide +kernel))
    (λb=>JM rfl (IH (Hi (i:=0) VW rfl (Or.inl rfl)) (IH (Hi (i:=1) VW rfl (Or.inl rfl)) JQ))) (λb=>Jh) (λb=>NF Mg (pv 1) (pv 0) (ID _))) Gy))) (HX QI) IX)
  (HX (IW (IJ Mg (Iz (iH rfl) rfl ms GY (Gi (pv 0) Gy)) (OZ (v:=.int 8) rfl gU ⟨_,rfl⟩) (ID _)) (HX QI) IX))),?_⟩
 refine⟨_,rfl,p,rfl,⟨_,HM.of hp⟩,λbk D hD=>?_⟩
 refine So (α:=Bool) hD (HM.of hp) (λσ=>∃c,σ=[c]) (λi=>(r[i]?).bind λx=>some (decide (x<1))) (small (by rw[AB];lia)) ?_ ?_ ?_
 ·exact⟨_,rfl⟩
 ·rintro i v σ H2 Yes No hv ⟨c,rfl⟩ s3 yes no
  obtain⟨x,hx,rfl⟩:∃x,r[i]?=some x/\V.int x=v:=by
   rw[Ag]at hv
   cases e:r[i]? with
   |none=>rw[e]at hv;cases hv
   |some y=>rw[e]at hv;exact⟨y,rfl,Aq hv⟩
  refine L5 ?_
  refine⟨_,rfl,_,_,rfl,rfl,?_⟩
  exact yes _ _ _ _ ⟨_,rfl⟩ (λ_ _ e=>e) (by rw[hx];rfl) rfl
 rintro H1 s1 ⟨ws,eD,iD⟩
 have e0:(List.range (r.map V.int).length).filterMap (λi=>(r[i]?).bind λx=>some (decide (x<1)))=r.map λx=>decide (x<1):=by
  rw[AB,Js,Aw]
 rw[UU iD,e0]at eD
 refine⟨D,_,rfl,HU.of eD,_,rfl,?_⟩
 rw[YG]
 cases c1:r.all λx=>decide (1<=x) with
 |false=>exact KC (e (by unfold Iu;rw[c1];rfl))
 |true =>
 refine JD ?_
 have hp1:=s1 _ _ hp
 refine⟨_,rfl,_,rfl,1,rfl,p,r,rfl,rfl,rfl,hp1,λt H2 s2 ht=>⟨p,t,rfl,⟨_,HM.of (s2 _ _ hp1)⟩,⟨_,HM.of ht⟩,λbk2 D2 hD2=>?_⟩⟩
 refine Vf (α:=Bool) (k1:=.tup) (k2:=.tup) hD2 (HM.of (s2 _ _ hp1)) (HM.of ht) (λσ=>∃c d,σ=[c,d]) (λi=>some (decide (r.getD i 0<r.getD (i+1) 0))) (small (by rw[AB,AB];lia)) ?_ ?_ ?_
 ·exact⟨_,_,rfl⟩
 ·rintro i x y p2 σ H3 Yes No hx hy h2 ⟨c,d,rfl⟩ s3 yes no
  obtain⟨rfl,_⟩:=Sm hx
  obtain⟨rfl,_⟩:=Sm hy
  refine⟨p2,_,rfl,HM.of HR,rfl,_,_,rfl,_,_,rfl,rfl,?_⟩
  refine LS ?_
  refine⟨_,rfl,_,rfl,_,_,rfl,rfl,?_⟩
  refine yes _ _ _ _ ⟨_,_,rfl⟩ (HW h2 _) rfl ?_
  show V.bl (decide (r.getD i 0<(r.drop 1).getD i 0))=V.bl (decide (r.getD i 0<r.getD (i+1) 0))
  rw[show(r.drop 1).getD i 0=r.getD (i+1) 0 by rw[Ad,List.getElem?_drop,Ad,HD 1 i]]
 rintro H4 s4 ⟨ws2,eD2,iD2⟩
 have e1:(List.range (min (r.map V.int).length ((r.drop 1).map V.int).length)).filterMap (λi=>some (decide (r.getD i 0<r.getD (i+1) 0)))=(List.range (r.length-1)).map λi=>decide (r.getD i 0<r.getD (i+1) 0):=by
  rw[AB,AB,BG,FB (by lia),Aw]
 rw[UU iD2,e1]at eD2
 have s14:=s1.trans (s2.trans s4)
 refine⟨D2,_,rfl,HU.of eD2,_,rfl,?_⟩
 rw[ZL]
 cases c2:(List.range (r.length-1)).all λi=>decide (r.getD (i+1) 0<=r.getD i 0) with
 |false=>exact KC (e (by unfold Iu;rw[c1,c2];rfl))
 |true =>
 refine JD ?_
 refine⟨_,rfl,p,r,rfl,HM.of (s14 _ _ hp),_,_,rfl,rfl,_,rfl,?_⟩
 by_cases c3:8<r.sum
 ·exact Jf c3 (e (by unfold Iu;rw[c1,c2,Aa (by lia)];rfl))
 ·exact JF c3 (q _ s14)
noncomputable abbrev OB:yB:=["many", "row"]
noncomputable abbrev tU:yB:=["powers"]
theorem jD:tU.Nodup:=by decide +kernel
theorem aH:Gq OB OB (He XQ):=IA
noncomputable def exch(n:Nat)(r:xX):List Go:=(J0 5 (r++List.replicate (n-r.length) 0)).map λq=>(q,1)
noncomputable def MP:Sp:=λvs H Q _=>∃(n:Nat)(p:yJ)(r:xX),vs=[.int n,.ref p]/\1<=n/\n<=4/\H p=some (.tup (r.map V.int))/\r.length<=n/\Iu r=true/\∀(a:yJ)(H':Hp),H a=none->Gp H H'->Gg H' a (exch n r)->Q (.ref a) H'
theorem RF(k:Nat):(List.replicate k [(0:Int)]).flatten=List.replicate k 0:=by
 induction k with
 |zero=>rfl
 |succ k ih=>rw[A1,Bl,ih,A1];rfl
theorem Ys(F:Hu K "exchange_sum" "exchange_sum" XQ f fd)(GR:Hc P w K mg base 5 "refuse_bad_row" MG OY)(GC:Hc P w K mg base 5 "refuse_bad_count" ["many"] Nz)(GO:Hc P w K mg base 5 "orders" ["numbers"] (Lc 5))(mn:mg "len" = none):HC P w K mg base Hn 6 f fd OB MP:=by
 refine Hz F aH λHh A outer s H vs Q E hr h=>?_
 obtain⟨n,p,r,rfl,n1,n4,hp,hl,hB,q⟩:=h
 refine⟨_,HY (Ir (Hd GR hr rfl (Gi (pv 1) Gy))) (HY (Ir (Hd GC hr rfl (Gi (pv 0) Gy)))
  (HY (IW (IJ Mg (Iz KS rfl mn BR (Gi (pv 1) Gy)) (pv 0) (ID _)) (HX QI) IX)
  (HX (Hq (JK (N':=tU) (src:=[none]) rfl (Ic (Hd GO hr rfl (Gi (Hf La (pv 1) (Hf Md (IE (Gi Ha Gy)) (Hf Kb (pv 0) (Iz KS rfl mn BR (Gi (pv 1) Gy))))) Gy))) (JJ (He XQ) OB (by decide +kernel))
   (λb=>Hi (i:=0) jD rfl (Or.inl rfl)) (λb=>Jh) (λb=>IE (Gi (pv 0) (Gi Ha Gy)))))))),?_⟩
 refine⟨_,rfl,p,r,rfl,hp,by lia,hB,λH1 s1=>?_⟩
 refine⟨_,rfl,n,rfl,by lia,by lia,?_⟩
 have hp1:=s1 _ _ hp
 refine⟨_,rfl,p,_,rfl,.inr (HM.of hp1),_,rfl,_,_,rfl,rfl,_,rfl,JF (by rw[AB];lia) ?_⟩
 refine⟨_,rfl,Il,λt0 h0=>?_⟩
 have s0:=HW h0 (.tup [.int 0])
 refine⟨_,rfl,_,rfl,p,_,rfl,.inr (HM.of (s0 _ _ hp1)),_,_,rfl,rfl,t0,[0],_,rfl,rfl,HR,by simp,by rw[AB];lia,by rw[AB];lia,small (by rw[AB];show 1*_<=100000;lia),λt2 H2 s2 h2=>?_⟩
 rw[RF,AB,show((n:Int)-(r.length:Int)).toNat=n-r.length by lia]at h2
 refine Lq (r:=r) (r':=List.replicate (n-r.length) 0) (s2 _ _ (s0 _ _ hp1)) h2 (small (by rw[A8];lia)) λt3 H3 s3 h3=>?_
 have l4:(r++List.replicate (n-r.length) (0:Int)).length=n:=by rw[AJ,A8];lia
 refine⟨t3,_,rfl,h3,by lia,by lia,λa H4 ha s4 hL=>?_⟩
 have sH:=s1.trans (s0.trans (s2.trans (s3.trans s4)))
 have ol:=Xe 5 (r++List.replicate (n-r.length) 0)
 rw[l4]at ol
 have b4:Qs n<=24:=by
  have:n=1∨n=2∨n=3∨n=4:=by lia
  rcases this with e|e|e|e<;>rw[e]<;>decide
 unfold exch at q
 generalize J0 5 (r++List.replicate (n-r.length) 0)=os at hL q ol
 obtain⟨vs,eL,iL⟩:=hL
 have lv:=AM iL
 refine⟨a,rfl,⟨_,HU.of eL⟩,λbk D hD=>?_⟩
 refine Km (α:=Go) hD (HU.of eL) (λσ=>∃c,σ=[c]) (λi=>(os[i]?).bind λx=>some (x,1)) (small (by lia)) ?_ ?_ ?_
 ·exact⟨_,rfl⟩
 ·rintro i v σ H5 Yes No hv ⟨c,rfl⟩ s5 yes no
  obtain⟨x,hx,hi⟩:=Io iL hv
  obtain⟨px,rfl,hpx⟩:=JI hi
  refine L5 ?_
  refine⟨_,rfl,Iv,λt6 h6=>?_⟩
  have s6:=HW h6 (.tup [.ref px,.int 1])
  exact yes _ _ _ (x,1) ⟨_,rfl⟩ s6 (by rw[hx];rfl) (Jg (t:=(x,1)) HR (s6 _ _ (s5 _ _ hpx)))
 intro H7 s7 h7
 have e:(List.range vs.length).filterMap (λi=>(os[i]?).bind λx=>some (x,(1:Int)))=os.map λq=>(q,1):=by
  rw[lv,Js,Aw]
 rw[e]at h7
 exact q D H7 (sH.free hD) (sH.trans s7) h7
end
section
variable{P:yL}{w:yM}{K:yG}{mg:Str->yD}{base:Heap}{f g:yJ}{fd gd:yN}
noncomputable abbrev uG:yB:=["one", "other", "terms", "powers", "number", "more", "often"]
noncomputable abbrev uC:yB:=["power", "added"]
theorem S8:uC.Nodup:=by decide +kernel
theorem LM:Gq uG ["one", "other"] (He Ng):=IA
noncomputable def NE:Sp:=λvs H Q _=>∃(a b:yJ)(n d e x y:Nat)(ts us:List Go),vs=[.ref a,.ref b]/\Gg H a ts/\Gg H b us/\Deg n d x ts/\Deg n e y us/\1<=n/\n<=4/\x<=100000/\y<=100000/\ts.length*us.length<=40000 /\
 ∀(l:yJ)(H':Hp),H l=none->Gp H H'->Gg H' l (norm (prd ts us))->Q (.ref l) H'
theorem aM(p q:Pw)(h:p.length=q.length):(List.range (min (p.map V.int).length (q.map V.int).length)).filterMap (λi=>some (p.getD i 0+q.getD i 0))=IQ p q:=by
 rw[Aw,AB,AB,<-h,E5]
 refine D8 λi=>?_
 unfold IQ
 rw[Ag,List.getElem?_zipWith]
 by_cases c:i<p.length
 ·rw[DP c,AL c,AL (by lia:i<q.length)]
  simp [c,(by lia:i<q.length)]
 ·rw[GZ (by rw[Bm];lia),GZ (by lia:p.length<=i)]
  rfl
theorem aC(a b:List Go)(t:Go):prd (a++[t]) b=prd a b++b.map λu=>(IQ t.1 u.1,t.2*u.2):=by
 unfold prd
 rw[BM,BX]
theorem gZ(F:Hu K "multiplied" "multiplied" Ng f fd)(GG:Hc P w K mg base 2 "gathered" ["terms"] RH)(mt:mg "tuple" = none)(mz:mg "zip" = none):HC P w K mg base Hn 3 f fd ["one", "other"] NE:=by
 refine Hz F LM λHh A outer s H vs Q E hr h=>?_
 obtain⟨a,b,n,d,e,x,y,ts,us,rfl,hA,hB,ga,gb,n1,n4,hx1,hy1,hml,q⟩:=h
 refine⟨_,HY (Hv (i:=2) LM.nd rfl (Or.inl rfl) (Ik Gy))
  (HY (Ie Af rfl (Ic (pv 0)) (JM rfl (IH (Hi (i:=3) LM.nd rfl (Or.inl rfl)) (IH (Hi (i:=4) LM.nd rfl (Or.inl rfl)) JQ)))
   (HX (Ie Af rfl (Ic (pv 1)) (JM rfl (IH (Hi (i:=5) LM.nd rfl (Or.inl rfl)) (IH (Hi (i:=6) LM.nd rfl (Or.inl rfl)) JQ)))
    (HX (Ir (Kr A6 A9 BA Kv (pv 2) (Gi (IE (Gi
     (MJ OH rfl mt BL (Gi (JK (N':=uC) (src:=[none,none]) rfl
      (VB .tup .tup rfl mz (Gi (pv 3) (Gi (pv 5) Gy))) (JJ (He Ng) uG (by decide +kernel))
      (λb=>JM rfl (IH (Hi (i:=0) S8 rfl (Or.inl rfl)) (IH (Hi (i:=1) S8 rfl (Or.inl rfl)) JQ)))
      (λb=>Jh)
      (λb=>Hf Kn (pv 0) (pv 1))) Gy))
     (Gi (Hf Nh (pv 4) (pv 6)) Gy))) Gy)))))))
  (HX (Hq (Hd GG hr rfl (Gi (pv 2) Gy))))),?_⟩
 obtain⟨vs,eA,iA⟩:=id hA
 obtain⟨ws,eB,iB⟩:=id hB
 have lva:=AM iA
 have lvb:=AM iB
 refine⟨JP,λl hl0=>?_⟩
 have s0:=HW hl0 (.lst [])
 refine⟨_,rfl,a,rfl,⟨vs,HU.of (s0 _ _ eA)⟩,?_⟩
 refine Jr (xs:=vs) (λi σ H'=>(∃c3 c4 c5 c6,σ=[some (.ref a),some (.ref b),some (.ref l),c3,c4,c5,c6])/\Gg H' l (prd (ts.take i) us)/\Gp H H') ?_ ?_ ?_ ?_
 ·exact⟨⟨_,_,_,_,rfl⟩,⟨[],HR,.nil⟩,s0⟩
 ·rintro i σ H1 _ ⟨_,_,s1⟩
  exact HU.of (s1 _ _ eA)
 ·rintro i v σ H1 hv ⟨⟨c3,c4,c5,c6,rfl⟩,hL,s1⟩
  obtain⟨t,ht,hi⟩:=Io iA hv
  have hmt:=AT ht
  have lti:i<ts.length:=(AZ.mp ht).1
  obtain⟨p,k1,rfl,hp,hk1⟩:=KF hi
  refine⟨p,_,rfl,HM.of (s1 _ _ hp),rfl,_,_,rfl,_,_,rfl,rfl,?_⟩
  refine⟨_,rfl,b,rfl,⟨ws,HU.of (s1 _ _ eB)⟩,?_⟩
  refine Jr (xs:=ws) (λj σ H'=>(∃c5 c6,σ=[some (.ref a),some (.ref b),some (.ref l),some (.ref k1),some (.int t.2),c5,c6])/\Gg H' l (prd (ts.take i) us++(us.take j).map λu=>(IQ t.1 u.1,t.2*u.2))/\Gp H H') ?_ ?_ ?_ ?_
  ·refine⟨⟨_,_,rfl⟩,?_,s1⟩
   rw[DH,DI,BV]
   exact hL
  ·rintro j σ H2 _ ⟨_,_,s2⟩
   exact HU.of (s2 _ _ eB)
  ·rintro j w2 σ H2 hw ⟨⟨c5,c6,rfl⟩,⟨zs,eZ,iZ⟩,s2⟩
   obtain⟨u,hu,hj⟩:=Io iB hw
   have hmu:=AT hu
   have luj:j<us.length:=(AZ.mp hu).1
   have lz:=AM iZ
   rw[AJ,Q0,AB,Ap,Ap,C7 (by lia),C7 (by lia)]at lz
   have lz2:zs.length<=40000:=by
    have z1:i*us.length+j<(i+1)*us.length:=by rw[Cz];lia
    have z2:(i+1)*us.length<=ts.length*us.length:=Db _ lti
    lia
   have hlu:t.1.length=u.1.length:=by rw[ga.len t hmt,gb.len u hmu]
   obtain⟨p',k2,rfl,hp',hk2⟩:=KF hj
   refine⟨p',_,rfl,HM.of (s2 _ _ hp'),rfl,_,_,rfl,_,_,rfl,rfl,?_⟩
   refine⟨_,rfl,.inl ⟨rfl,_,HU.of eZ⟩,?_⟩
   refine⟨_,rfl,_,rfl,k1,k2,rfl,⟨_,HM.of (s2 _ _ hk1)⟩,⟨_,HM.of (s2 _ _ hk2)⟩,λbk D hD=>?_⟩
   refine Vf (α:=Int) (k1:=.tup) (k2:=.tup) hD (HM.of (s2 _ _ hk1)) (HM.of (s2 _ _ hk2)) (λσ=>∃c d,σ=[c,d]) (λi=>some (t.1.getD i 0+u.1.getD i 0)) (small (by rw[AB,ga.len t hmt];lia)) ?_ ?_ ?_
   ·exact⟨_,_,rfl⟩
   ·rintro i x y p2 σ H2 Yes No hx hy h2 ⟨c,d,rfl⟩ s3 yes no
    obtain rfl:V.int (t.1.getD i 0)=x:=by
     rw[Ag]at hx
     rw[Ad]
     cases e:t.1[i]? with
     |none=>rw[e]at hx;cases hx
     |some c=>rw[e]at hx;exact Aq hx
    obtain rfl:V.int (u.1.getD i 0)=y:=by
     rw[Ag]at hy
     rw[Ad]
     cases e:u.1[i]? with
     |none=>rw[e]at hy;cases hy
     |some c=>rw[e]at hy;exact Aq hy
    refine⟨p2,_,rfl,HM.of HR,rfl,_,_,rfl,_,_,rfl,rfl,?_⟩
    refine LS ?_
    refine⟨_,rfl,_,rfl,_,_,rfl,rfl,?_⟩
    exact yes _ _ _ _ ⟨_,_,rfl⟩ (HW h2 _) rfl rfl
   rintro H3 s3 ⟨ys,eD,iD⟩
   rw[N6 iD,aM _ _ hlu]at eD
   refine⟨D,_,rfl,.inl ⟨HU.of eD,λr hr2=>?_⟩⟩
   have s4:=HW hr2 (.tup ((IQ t.1 u.1).map V.int))
   refine⟨_,rfl,_,rfl,_,_,rfl,rfl,⟨JS (ga.num t hmt) hx1,JS (gb.num u hmu) hy1⟩,Iv,λr2 h5=>?_⟩
   have s5:=HW h5 (.tup [.ref r,.int (t.2*u.2)])
   have s345:=s3.trans (s4.trans s5)
   have eZ3:=s345 _ _ eZ
   refine⟨l,zs,_,rfl,rfl,eZ3,Kw (by lia),⟨_,_,rfl⟩,⟨zs++[.ref r2],HR,?_⟩,λb' o e'=>?_⟩
   ·rw[JW hu,Ar,<-An]
    have t6:∀o,Hb _ (HV _ l o):=λo r' ys e'=>by
     rw[Hw (Jw e' eZ3 (by intro z;cases z))];exact e'
    exact Cc (Hr.mono ((Hb.same s345).trans (t6 _)) iZ) (Dat.mono (t6 _) (Jg (t:=(IQ t.1 u.1,t.2*u.2)) HR (s5 _ _ HR)))
   ·rw[Hw (Jd e' hl0)]
    exact s345 _ _ (s2 b' o e')
  ·rintro σ H2 ⟨⟨c5,c6,rfl⟩,hL2,s2⟩
   rw[Ab (show us.length<=ws.length by lia)]at hL2
   refine⟨⟨_,_,_,_,rfl⟩,?_,s2⟩
   rw[JW ht,aC]
   exact hL2
 ·rintro σ H1 ⟨⟨c3,c4,c5,c6,rfl⟩,hL,s1⟩
  rw[Ab (by lia)]at hL
  refine⟨_,rfl,l,_,rfl,hL,sM (ga.prd gb) n1,by rw[Q0];lia,λr H2 hr s2 h2=>?_⟩
  exact q r H2 (s1.free hr) (s1.trans s2) h2
theorem ZO{l r:xX}(h:r.Perm l):r.sum=l.sum:=by
 induction h with
 |nil=>rfl
 |cons x _ ih=>rw[BF,BF,ih]
 |swap x y l=>rw[BF,BF,BF,BF];lia
 |trans _ _ i1 i2=>rw[i1,i2]
theorem Tg(m:Nat):(List.replicate m (0:Int)).sum=0:=by
 induction m with
 |zero=>rfl
 |succ m ih=>rw[A1,BF,ih];rfl
noncomputable def wv:Nat->Nat->List xX
 |0,w=>if w=0 then [[]] else []
 |n+1,w=>(List.range (w+1)).flatMap λ(x:Nat)=>(wv n (w-x)).map ((x:Int) :: ·)
theorem XI:∀{l:xX},(∀y∈l,0<=y)->0<=l.sum
 |[],_=>DG _
 |x::l,h=>by
  have h1:=h x (AG ..)
  have h2:=XI (l:=l) λy hy=>h y (AE _ hy)
  rw[BF]
  lia
theorem XA:∀(n w:Nat)(l:xX),l.length=n->(∀x∈l,0<=x)->l.sum=(w:Int)->l∈wv n w
 |0,w,l,h,_,hs=>by
  rw[B7.mp h]at hs ⊢
  have e:w=0:=by
   have:(0:Int)=(w:Int):=hs
   lia
  rw[e]
  exact AS.mpr rfl
 |n+1,w,[],h,_,_=>by simp at h
 |n+1,w,x::l,h,hx,hs=>by
  have h1:=hx x (AG ..)
  have h2:=XI (l:=l) λy hy=>hx y (AE _ hy)
  rw[BF]at hs
  refine A5.mpr ⟨x.toNat,Al.mpr (by lia),AN.mpr ⟨l,XA n (w-x.toNat) l (by simpa using h) (λy hy=>hx y (AE _ hy)) (by lia),?_⟩⟩
  rw[DO h1]
theorem Y6:∀n∈List.range 5,∀w∈List.range 9,(wv n w).length<=165:=by decide +kernel
structure OJ(n k:Nat)(f:List Go):Prop where
 deg:Deg n k 1 f
 one:∀t∈f,t.1.sum=(k:Int)
 len:f.length<=165
theorem mJ{k:Int}{ts:List Go}(h:∀t∈ts,t.1.sum=k):∀t∈norm ts,t.1.sum=k:=λt ht=>by
 obtain⟨u,hu,e⟩:=J7 ht
 rw[<-e]
 exact h u hu
theorem Zq{n k b:Nat}{ts:List Go}(h:Deg n k b ts)(h1:∀t∈ts,t.1.sum=(k:Int))(n4:n<=4)(k8:k<=8):(norm ts).length<=165:=by
 have nd:((norm ts).map (·.1)).Nodup:=by
  rw[List.Nodup,BQ]
  refine(JV ts).ord.imp λ{x y} z e=>?_
  rw[e,Ji]at z
  cases z
 have sub:∀p∈(norm ts).map (·.1),p∈wv n k:=λp hp=>by
  obtain⟨t,ht,rfl⟩:=AN.mp hp
  obtain⟨u,hu,e⟩:=J7 ht
  rw[<-e]
  exact XA n k _ (h.len u hu) (h.nn u hu) (h1 u hu)
 have:=Br nd sub
 rw[AB]at this
 have:=Y6 n (Al.mpr (by lia)) k (Al.mpr (by lia))
 lia
theorem aR{n x y:Nat}{k l:Int}{b c:Nat}{ts us:List Go}(ga:Deg n x b ts)(gb:Deg n y c us)(h:∀t∈ts,t.1.sum=k)(h':∀t∈us,t.1.sum=l):∀t∈prd ts us,t.1.sum=k+l:=λt ht=>by
 obtain⟨a,ha,ht⟩:=A5.mp ht
 obtain⟨b,hb,rfl⟩:=AN.mp ht
 rw[QC (by rw[ga.len a ha,gb.len b hb]),h a ha,h' b hb]
noncomputable def Pj(ff:Nat->List Go)(acc:List Go)(k:Nat):List Go:=norm (prd acc (ff k))
noncomputable def Ip(ff:Nat->List Go)(n:Nat)(ks:List Nat):List Go:=ks.foldl (Pj ff) [(List.replicate n 0,1)]
theorem Lz(ff:Nat->List Go)(n:Nat)(ks:List Nat)(k:Nat):Ip ff n (ks++[k])=Pj ff (Ip ff n ks) k:=by
 unfold Ip
 rw[CC]
 rfl
theorem XN{ff:Nat->List Go}{n:Nat}(n1:1<=n)(n4:n<=4)(hf:∀k,1<=k->k<=8->OJ n k (ff k)):∀ks:List Nat,ks.sum<=8->(∀k∈ks,1<=k)->Deg n ks.sum (1+19*ks.length) (Ip ff n ks)/\(∀t∈Ip ff n ks,t.1.sum=(ks.sum:Int))/\(Ip ff n ks).length<=165:=by
 refine LU (λ_ _=>⟨⟨λt ht=>?_,λt ht x hx=>?_,λt ht=>?_,λt ht=>?_⟩,λt ht=>?_,by show 1<=165;decide⟩) λks k ih hs h1=>?_
 ·rw[AS.mp ht];exact A8
 ·rw[AS.mp ht]at hx
  rw[(List.mem_replicate.mp hx).2];exact DG _
 ·rw[AS.mp ht]
  show(List.replicate n (0:Int)).sum<=_
  rw[Tg];exact DG _
 ·rw[AS.mp ht]
  show(1:Int).natAbs<2^1
  decide
 ·rw[AS.mp ht]
  exact Tg n
 ·rw[Ch,Ca]at hs
  obtain⟨d,o,l⟩:=ih (by lia) λx hx=>h1 x (A0 _ hx)
  have k1:=h1 k (Aj _ (AS.mpr rfl))
  have fk:=hf k k1 (by lia)
  rw[Lz]
  have dp:=d.prd fk.deg
  have op:=aR d fk.deg o fk.one
  have e:(((ks++[k]).sum:Nat):Int)=(ks.sum:Int)+(k:Int):=by rw[Ch,Ca];lia
  have lp:(prd (Ip ff n ks) (ff k)).length<2^18:=by
   rw[Q0]
   have:=B1 l fk.len
   exact A7 this (by decide)
  refine⟨(dp.norm lp).mono (by rw[Ch,Ca];exact AH _) ?_,?_,?_⟩
  ·rw[AJ,BC]
   lia
  ·rw[e]
   exact mJ op
  ·refine Zq (k:=ks.sum+k) dp (λt ht=>?_) n4 hs
   rw[op t ht]
   lia
noncomputable abbrev xR:yB:=["many", "factors", "result", "factor"]
theorem KW:Gq xR ["many", "factors"] (He WL):=IA
noncomputable def NZ:Sp:=λvs H Q _=>∃(ff:Nat->List Go)(n:Nat)(a:yJ)(xs:yC)(ks:List Nat),vs=[.int n,.ref a]/\1<=n/\n<=4/\(∀k,1<=k->k<=8->OJ n k (ff k))/\H a=some (.lst (xs.map V.ref))/\Paired (λx k=>Gg H x (ff k)) xs ks/\ks.sum<=8/\ks.length<=8/\(∀k∈ks,1<=k) /\
 ∀(l:yJ)(H':Hp),H l=none->Gp H H'->Gg H' l (Ip ff n ks)->Q (.ref l) H'
theorem ZX(F:Hu K "product" "product" WL f fd)(GM:Hc P w K mg base 3 "multiplied" ["one", "other"] NE):HC P w K mg base Hn 4 f fd ["many", "factors"] NZ:=by
 refine Hz F KW λHh A outer s H vs Q E hr h=>?_
 obtain⟨ff,n,a,xs,ks,rfl,n1,n4,hf,ha,hx,hs,hk8,hk1,q⟩:=h
 refine⟨_,HY (Hv (i:=2) KW.nd rfl (Or.inl rfl) (Ik (Gi (IE (Gi (Hf Md (IE (Gi Ha Gy)) (pv 0)) (Gi Ha Gy))) Gy)))
  (HY (Ie Af rfl (Ic (pv 1)) (Hi (i:=3) KW.nd rfl (Or.inl rfl)) (HX (Hv (i:=2) KW.nd rfl (Or.inl rfl) (Hd GM hr rfl (Gi (pv 2) (Gi (pv 3) Gy))))))
  (HX (Hq (pv 2)))),?_⟩
 have lx:=AM hx
 refine⟨Il,λt0 h0=>?_⟩
 have s0:=HW h0 (.tup [.int 0])
 refine⟨_,rfl,t0,[0],_,rfl,rfl,HR,by simp,by lia,by lia,small (by show 1*_<=100000;lia),λt1 H1 s1 h1=>?_⟩
 rw[RF,BB]at h1
 refine⟨Iv,λt2 h2=>⟨Il,λl0 h3=>?_⟩⟩
 have s2:=HW h2 (.tup [.ref t1,.int 1])
 have s3:=HW h3 (.lst [.ref t2])
 have sA:=s0.trans (s1.trans (s2.trans s3))
 refine⟨_,rfl,a,rfl,⟨_,HU.of (sA _ _ ha)⟩,?_⟩
 refine Jr (xs:=xs.map V.ref) (λi σ H'=>(∃(l:yJ)(c3:Option V),σ=[some (.int n),some (.ref a),some (.ref l),c3]/\Gg H' l (Ip ff n (ks.take i))/\H l=none)/\Gp H H') ?_ ?_ ?_ ?_
 ·refine⟨⟨l0,_,rfl,⟨[.ref t2],HR,.cons (Jg (t:=(List.replicate n 0,1)) (s3 _ _ HR) (s3 _ _ (s2 _ _ h1))) .nil⟩,s0.free (s1.free (s2.free h3))⟩,sA⟩
 ·rintro i σ H4 _ ⟨_,sH⟩
  exact HU.of (sH _ _ ha)
 ·rintro i v σ H4 hv ⟨⟨l,c3,rfl,hL,fl⟩,sH⟩
  obtain⟨x,hxi,rfl⟩:∃x,xs[i]?=some x/\V.ref x=v:=by
   rw[Ag]at hv
   cases e:xs[i]? with
   |none=>rw[e]at hv;cases hv
   |some y=>rw[e]at hv;exact⟨y,rfl,Aq hv⟩
  obtain⟨k,hk,hLx⟩:=Paired.get hx hxi
  have et:=JW hk
  have st:(ks.take (i+1)).sum<=8:=by
   have e:ks.sum=(ks.take (i+1)).sum+(ks.drop (i+1)).sum:=by rw[<-Ch,BZ]
   lia
  have st':=st
  rw[et,Ch,Ca]at st'
  obtain⟨d,_,ln⟩:=XN n1 n4 hf (ks.take i) (by lia) λx hx=>hk1 x (BJ hx)
  have lt:(ks.take i).length<=8:=by rw[Ap];lia
  have fk:=hf k (hk1 k (AT hk)) (by lia)
  refine⟨_,rfl,_,rfl,l,x,n,_,_,_,_,_,_,rfl,hL,hLx.mono sH,d,fk.deg,n1,n4,by lia,by decide,?_,λl5 H5 hl5 s5 h5=>?_⟩
  ·exact As (B1 ln fk.len) (by decide)
  ·refine⟨⟨l5,_,rfl,?_,sH.free hl5⟩,sH.trans s5⟩
   rw[et,Lz]
   exact h5
 ·rintro σ H4 ⟨⟨l,c3,rfl,hL,fl⟩,sH⟩
  rw[AB,Ab (by lia)]at hL
  exact⟨_,rfl,q l H4 fl sH hL⟩
end
section
variable{P:yL}{w:yM}{K:yG}{mg:Str->yD}{base:Heap}{f g:yJ}{fd gd:yN}
noncomputable abbrev nC:yB:=["_law_script", "_law_k"]
theorem wK:Gq nC nC (He Op):=IA
noncomputable def UM(K:yG):Sp:=λvs H Q _=>∃(a:yJ)(ns:xX)(k:Nat),vs=[.ref a,.int k]/\HU K H a (ns.map V.int)/\Q (.int (O6 ns k)) H
theorem fD(F:Hu K "_law_cell" "_law_cell" Op f fd)(ml:mg "len" = none):HC P w K mg base Hn 2 f fd nC (UM K):=by
 refine Hz F wK λHh A outer s H vs Q E hr h=>?_
 obtain⟨a,ns,k,rfl,hS,q⟩:=h
 refine⟨_,HY (IW (IJ QX (pv 1) (Iz KS rfl ml BR (Gi (pv 0) Gy)) (ID _)) (HX (Hq (Hf Kt (IY K4 (pv 0) (pv 1) (λ_ _=>rfl)) Ha))) IX)
  (HX (Hq Ha)),?_⟩
 refine⟨_,rfl,_,rfl,a,_,rfl,.inl hS,_,_,rfl,rfl,_,rfl,?_⟩
 unfold O6 at q
 rw[AB]
 by_cases c:k<ns.length
 ·rw[AF c]at q
  refine Jf (by lia) ⟨_,rfl,_,rfl,a,_,_,.int (ns.getD k 0),rfl,rfl,hS,?_,_,_,rfl,rfl,(by show(0:Int)<2147483647;decide),q⟩
  refine JY ?_
  rw[Ag,AL c]
  simp [c]
 ·rw[AD c]at q
  exact JF (by lia) q
noncomputable def J5(k:Int):xX:=(List.range k.toNat).map λ(i:Nat)=>k-(i:Int)
noncomputable def up:Nat->Int->Int->Int->List xX
 |0,_,_,_=>[]
 |n+1,top,w,m=>if w=0 then [[]] else if m<=0 then [] else (J5 (if w<top then w else top)).flatMap λf=>(up n f (w-f) (m-1)).map (f :: ·)
theorem XV(n:Nat)(top m:Int):up (n+1) top 0 m=[[]]:=by simp [up]
theorem WX(n:Nat)(top w m:Int)(h:w≠0)(hm:m<=0):up (n+1) top w m=[]:=by simp [up,h,hm]
theorem Xb(n:Nat)(top w m:Int)(h:w≠0)(hm:¬ m<=0):up (n+1) top w m=(J5 (if w<top then w else top)).flatMap λf=>(up n f (w-f) (m-1)).map (f :: ·):=by simp [up,h,hm]
theorem uS(f:Nat->Nat)(c:Nat):∀k,(∀i,i<k->f i<=2^(c+i))->((List.range k).map f).sum+2^c<=2^(c+k)
 |0,_=>by simp
 |k+1,h=>by
  have ih:=uS f c k λi hi=>h i (by lia)
  have hk:=h k (by lia)
  rw[CH,Ar,Ch,Bt,Ca]
  have e:2^(c+(k+1))=2^(c+k)+2^(c+k):=by rw[<-Nat.add_assoc,Nat.pow_succ];lia
  lia
theorem VI:∀(n:Nat)(top w m:Int),0<=w->(up n top w m).length<=2^w.toNat
 |0,_,_,_,_=>by simp [up]
 |n+1,top,w,m,h0=>by
  by_cases h:w=0
  ·subst h;rw[XV];simp
  by_cases hm:m<=0
  ·rw[WX n top w m h hm];simp
  rw[Xb n top w m h hm]
  have hk:∀k:Int,k<=w->((J5 k).flatMap λf=>(up n f (w-f) (m-1)).map (f :: ·)).length<=2^w.toNat:=by
   intro k hk
   rw[List.length_flatMap]
   unfold J5
   rw[Bp]
   have e:(List.map ((λf=>((up n f (w-f) (m-1)).map (f :: ·)).length) ∘ λ(i:Nat)=>k-(i:Int)) (List.range k.toNat))=(List.range k.toNat).map λ(i:Nat)=>(up n (k-(i:Int)) (w-(k-(i:Int))) (m-1)).length:=by
    apply CF;intro i _;simp
   rw[e]
   have q:=uS (λi=>(up n (k-(i:Int)) (w-(k-(i:Int))) (m-1)).length) (w-k).toNat k.toNat (λi hi=>by
    have ih:=VI n (k-(i:Int)) (w-(k-(i:Int))) (m-1) (by lia)
    have e2:(w-(k-(i:Int))).toNat=(w-k).toNat+i:=by lia
    rw[e2]at ih
    exact ih)
   by_cases hk0:0<=k
   ·have e3:(w-k).toNat+k.toNat=w.toNat:=by lia
    rw[e3]at q
    exact As (Cn _ _) q
   ·have e4:k.toNat=0:=by lia
    rw[e4];simp
  apply hk
  split<;>lia
theorem rR{k f:Int}(h:f∈J5 k):1<=f/\f<=k:=by
 unfold J5 at h
 obtain⟨i,hi,e⟩:=AN.mp h
 have:=Al.mp hi
 lia
theorem W9:∀(n:Nat)(top w m:Int),0<=w->∀r∈up n top w m,(r.length:Int)<=w
 |0,_,_,_,_,r,h=>by simp [up]at h
 |n+1,top,w,m,h0,r,hr=>by
  by_cases h:w=0
  ·subst h;rw[XV]at hr;simp at hr;subst hr;simp
  by_cases hm:m<=0
  ·rw[WX n top w m h hm]at hr;simp at hr
  rw[Xb n top w m h hm]at hr
  obtain⟨f,hf,hr⟩:=A5.mp hr
  obtain⟨r',hr',rfl⟩:=AN.mp hr
  have z:=rR hf
  have zw:f<=w:=by
   have:(if w<top then w else top)<=w:=by split<;>lia
   lia
  have ih:=W9 n f (w-f) (m-1) (by lia) r' hr'
  rw[Am]
  lia
theorem Pa{α β:Type}(g:α->List β):∀{l:List α}{i:Nat}{a:α},l[i]?=some a->(l.take (i+1)).flatMap g=(l.take i).flatMap g++g a
 |[],i,a,e=>by simp at e
 |x::l,0,a,e=>by simp at e;subst e;simp
 |x::l,i+1,a,e=>by
  have ih:=Pa g (l:=l) (i:=i) (a:=a) (by simpa using e)
  rw[Dk,BD,ih,Dk,BD,An]
theorem OX{α β:Type}(g:α->List β):∀(l:List α)(i:Nat),((l.take i).flatMap g).length<=(l.flatMap g).length
 |[],i=>by simp
 |x::l,0=>by simp
 |x::l,i+1=>by
  have ih:=OX g l i
  rw[Dk,BD,BD,AJ,AJ]
  lia
theorem Uw{k:Int}{i:Nat}(h:i<k.toNat):(J5 k)[i]?=some (k-(i:Int)):=by
 unfold J5
 rw[Ag,DP h]
 rfl
theorem Rj(k:Int):(J5 k).length=k.toNat:=by unfold J5;simp
theorem Um{n:Nat}{t w m:Int}(h0:0<=w)(h8:w<=8):(up n t w m).length<=256:=by
 have q:=VI n t w m h0
 have z:2^w.toNat<=2^8:=Cg (by decide) (by lia)
 exact As q z
noncomputable abbrev pU:yB:=["_law_weight", "_law_most", "_law_top"]
noncomputable def LZ(n:Nat):Sp:=λvs H Q _=>∃t w m:Int,vs=[.int w,.int m,.int t]/\0<=t/\0<=w/\w<=8/\w<n /\
 ∀(l:yJ)(H':Hp),H l=none->Gp H H'->Gg H' l (up n t w m)->Q (.ref l) H'
noncomputable abbrev nU:yB:=["_law_weight", "_law_most", "_law_top", "_law_found", "_law_first", "_law_rest"]
theorem XU:Gq nU pU (He Nf):=IA
theorem S3{n:Nat}(h:n<=1000):n<sizeLine:=Kw (by lia)
theorem iO{n:Nat}(F:Hu K "_law_rows" "_law_rows" Nf f fd)(G:HC P w K mg base Hn n f fd pU (LZ n))(bF:IT K fd pU [])(mU:mg "_law_rows" = some (.ref f))(mr:mg "range" = none)(mm:mg "min" = none) :
  HC P w K mg base Hn (n+1) f fd pU (LZ (n+1)):=by
 refine Hz F XU λHh A outer s H vs Q E hr h=>?_
 obtain⟨t,w,m,rfl,ht,h0,h8,hn,q⟩:=h
 refine⟨_,HY (IW (IJ Ke (pv 0) Ha (ID _)) (HX (Hq (Ik (Gi (IE Gy) Gy)))) IX)
  (HY (Hv (i:=3) XU.nd rfl (Or.inl rfl) (Ik Gy))
  (HY (IW (IJ Mg (pv 1) Ha (ID _)) (HX (Ie Af rfl (Ut rfl mr (Gi (Iz (TU rfl) rfl mm Ga (Gi (pv 0) (Gi (pv 2) Gy))) (Gi Ha (Gi (N4 N7 Ha) Gy)))) (Hi (i:=4) XU.nd rfl (Or.inl rfl))
   (HX (Ie Af rfl (Ic (O0 G hr rfl mU F.kp bF .nil O4 (Gi (Hf Kb (pv 0) (pv 4)) (Gi (Hf Kb (pv 1) Ha) (Gi (pv 4) Gy))))) (Hi (i:=5) XU.nd rfl (Or.inl rfl))
    (HX (Ir (Kr A6 A9 BA Kv (pv 3) (Gi (Hf ON (IE (Gi (pv 4) Gy)) (pv 5)) Gy)))))))) IX)
  (HX (Hq (pv 3))))),?_⟩
 refine⟨_,rfl,rfl,_,rfl,?_⟩
 refine Pt (λc=>?_) (λc=>?_)
 ·have c':V.int w=V.int 0:=Ay c
  have cw:w=0:=by injection c'
  subst cw
  refine⟨JP,λp hp=>⟨Il,λl hl=>?_⟩⟩
  have s1:Gp H (HV H p (.tup [])):=HW hp _
  have s2:=HW hl (.lst [.ref p])
  refine q l _ (s1.free hl) (s1.trans s2) ⟨[.ref p],HR,?_⟩
  rw[XV]
  exact .cons ⟨p,[],rfl,s2 _ _ HR,.nil⟩ .nil
 have cw:w≠0:=λz=>c (Ac (congrArg V.int z))
 refine⟨JP,λl hl=>?_⟩
 have s0:Gp H (HV H l (.lst [])):=HW hl _
 refine⟨_,rfl,_,_,rfl,rfl,_,rfl,?_⟩
 by_cases c2:¬ 0<m
 ·have cm:m<=0:=by lia
  refine JF c2 ⟨_,rfl,?_⟩
  refine q l _ hl s0 ⟨[],HR,?_⟩
  rw[WX n t w m cw cm]
  exact .nil
 have cm:¬ m<=0:=by lia
 refine Jf (by lia) ?_
 have tot:=Xb n t w m cw cm
 have tl:(up (n+1) t w m).length<=256:=Um h0 h8
 have hmin:(if t<w then t else w)=(if w<t then w else t):=by split<;>split<;>lia
 have hk0:0<=(if w<t then w else t):=by split<;>lia
 have hkw:(if w<t then w else t)<=w:=by split<;>lia
 generalize hk:(if w<t then w else t)=k at hk0 hkw tot
 rw[tot]at tl
 refine⟨_,rfl,_,rfl,_,_,rfl,_,rfl,_,_,rfl,⟨by rw[hmin,hk];lia,by rw[hmin,hk];lia,by decide,by decide⟩,?_⟩
 rw[hmin,hk]
 have ek:(k-0).toNat=k.toNat:=by rw[HI]
 rw[ek]
 refine R6 (hi:=k) (n:=k.toNat) (λi σ H'=>(∃a b,σ=[some (.int w),some (.int m),some (.int t),some (.ref l),a,b])/\Gp H H'/\Gg H' l (((J5 k).take i).flatMap λf=>(up n f (w-f) (m-1)).map (f :: ·))) ?_ ?_ ?_
 ·exact⟨⟨_,_,rfl⟩,s0,[],HR,by simpa using Paired.nil⟩
 ·rintro i σ H1 hi ⟨⟨a,b,rfl⟩,sH,hL⟩
  have hd:=Uw hi
  have nx:=Pa (λf=>(up n f (w-f) (m-1)).map (f :: ·)) hd
  have nle:=OX (λf=>(up n f (w-f) (m-1)).map (f :: ·)) (J5 k) (i+1)
  rw[nx]at nle
  generalize hpre:((J5 k).take i).flatMap (λf=>(up n f (w-f) (m-1)).map (f :: ·))=pre at hL nx nle
  obtain⟨pv1,eL,iL⟩:=hL
  refine⟨_,rfl,_,rfl,_,_,rfl,rfl,_,rfl,_,_,rfl,rfl,_,rfl,k-(i:Int),w-(k-(i:Int)),m-1,rfl,by lia,by lia,by lia,by lia,λr H2 fr g1 e1=>?_⟩
  have rl:=W9 n (k-(i:Int)) (w-(k-(i:Int))) (m-1) (by lia)
  generalize up n (k-(i:Int)) (w-(k-(i:Int))) (m-1)=Hl at e1 nx nle rl
  obtain⟨vs2,e2,i2⟩:=e1
  refine⟨r,rfl,⟨_,HU.of e2⟩,?_⟩
  have hrl:r≠l:=(Jd eL fr).symm
  have l2:=AM i2
  refine Jr (xs:=vs2) (λj σ H'=>(∃b,σ=[some (.int w),some (.int m),some (.int t),some (.ref l),some (.int (k-(i:Int))),b])/\Gp H H'/\H' r=some (.lst vs2)/\Hr H' vs2 Hl/\Gg H' l (pre++(Hl.take j).map ((k-(i:Int)) :: ·))) ?_ ?_ ?_ ?_
  ·exact⟨⟨_,rfl⟩,sH.trans g1,e2,i2,pv1,g1 _ _ eL,by simpa using Hr.mono (Hb.same g1) iL⟩
  ·rintro j σ H3 _ ⟨_,_,e3,_⟩
   exact HU.of e3
  ·rintro j x σ H3 hx ⟨⟨b,rfl⟩,s3,e3,i3,pv2,eL3,iL3⟩
   obtain⟨row,hrow,hx2⟩:=Paired.get i3 hx
   obtain⟨px,rfl,hpx⟩:=JI hx2
   have len3:pv2.length<sizeLine:=by
    have z:=AM iL3
    have jl:j<Hl.length:=by
     have:=(AZ.mp hrow).1
     exact this
    rw[AJ,AB,Ap]at z
    rw[AJ,AB]at nle
    exact S3 (by lia)
   have fin:∀(p:yJ)(H4:Hp),Gp H3 H4->H4 p=some (.tup (((k-(i:Int))::row).map V.int)) ->
     QE (.ref l) [.ref p] H4 λ_ H5=>(∃b',[some (V.int w),some (.int m),some (.int t),some (.ref l),some (.int (k-(i:Int))),some (.ref px)]=[some (.int w),some (.int m),some (.int t),some (.ref l),some (.int (k-(i:Int))),b'])/\Gp H H5/\H5 r=some (.lst vs2)/\Hr H5 vs2 Hl/\Gg H5 l (pre++(Hl.take (j+1)).map ((k-(i:Int)) :: ·)):=by
    intro p H4 s4 hp
    have eL4:=s4 _ _ eL3
    have t4:Hb H4 (HV H4 l (.lst (pv2++[.ref p]))):=Ky eL4 _
    refine⟨l,pv2,.ref p,rfl,rfl,eL4,len3,⟨_,rfl⟩,Lo hl (s3.trans s4) _,?_,Hr.mono ((Hb.same s4).trans t4) i3,pv2++[.ref p],HR,?_⟩
    ·rw[Hw hrl];exact s4 _ _ e3
    ·have q1:(Hl.take (j+1)).map ((k-(i:Int)) :: ·)=(Hl.take j).map ((k-(i:Int)) :: ·)++[(k-(i:Int))::row]:=by
      rw[List.take_add_one,hrow];simp
     rw[q1,<-An]
     exact Cc (Hr.mono ((Hb.same s4).trans t4) iL3) (Dat.mono t4 (J9 hp))
   refine⟨_,rfl,.inl ⟨rfl,_,HU.of eL3⟩,_,rfl,Il,λp hp=>⟨_,rfl,p,px,[.int (k-(i:Int))],row.map V.int,rfl,rfl,HM.of HR,HM.of (HW hp _ _ _ hpx),(by simp),?_,λz=>?_,λz p2 hp2=>?_⟩⟩
   ·have zr:=rl row (AT hrow)
    rw[AB]
    exact small (by show 1+row.length<=100000;lia)
   ·have zr:row=[]:=by simpa using z
    subst zr
    exact fin p _ (HW hp _) HR
   ·exact fin p2 _ ((HW hp _).trans (HW hp2 _)) HR
  ·rintro σ H3 ⟨⟨b,rfl⟩,s3,e3,i3,hL3⟩
   refine⟨⟨_,_,rfl⟩,s3,?_⟩
   rw[nx]
   rw[l2,Ba]at hL3
   exact hL3
 ·rintro σ H1 ⟨⟨a,b,rfl⟩,sH,hL⟩
  refine⟨_,rfl,q l H1 hl sH ?_⟩
  rw[tot]
  have z:(J5 k).take k.toNat=J5 k:=by rw[<-Rj k,Ba]
  rw[z]at hL
  exact hL
theorem YJ:HC P w K mg base Hn 0 f fd pU (LZ 0):=by
 have no:∀vs H Q E,¬ LZ 0 vs H Q E:=λvs H Q E h=>by
  obtain⟨t,w,m,_,_,h0,_,h1,_⟩:=h
  lia
 exact⟨λvs H Q E h=>absurd h (no vs H Q E),λA outer s H args us vs Q E _ _ _ _ h=>absurd h (no vs H Q E)⟩
theorem U8(F:Hu K "_law_rows" "_law_rows" Nf f fd)(bF:IT K fd pU [])(mU:mg "_law_rows" = some (.ref f))(mr:mg "range" = none)(mm:mg "min" = none):∀n,HC P w K mg base Hn n f fd pU (LZ n)
 |0=>YJ
 |n+1=>iO F (U8 F bF mU mr mm n) bF mU mr mm
noncomputable abbrev NH:yB:=["top", "weight", "most"]
noncomputable def LY(n:Nat):Sp:=λvs H Q _=>∃t w m:Int,vs=[.int t,.int w,.int m]/\0<=t/\0<=w/\w<=8/\w<n /\
 ∀(l:yJ)(H':Hp),H l=none->Gp H H'->Gg H' l (up n t w m)->Q (.ref l) H'
noncomputable def Ud:Sp:=λvs H Q _=>∃w m:Int,vs=[.int w,.int m]/\0<=w/\w<=8 /\
 ∀(l:yJ)(H':Hp),H l=none->Gp H H'->Gg H' l (up 9 w w m)->Q (.ref l) H'
noncomputable abbrev wV:yB:=["top", "weight", "most", "found", "first", "rest"]
theorem NY:Gq wV NH (He Wj):=IA
theorem YV{n:Nat}(F:Hu K "rows_up_to" "rows_up_to" Wj f fd)(G:HC P w K mg base Hn n f fd NH (LY n))(bF:IT K fd NH [])(mU:mg "rows_up_to" = some (.ref f))(mr:mg "range" = none)(mm:mg "min" = none) :
  HC P w K mg base Hn (n+1) f fd NH (LY (n+1)):=by
 refine Hz F NY λHh A outer s H vs Q E hr h=>?_
 obtain⟨t,w,m,rfl,ht,h0,h8,hn,q⟩:=h
 refine⟨_,HY (IW (IJ Ke (pv 1) Ha (ID _)) (HX (Hq (Ik (Gi (IE Gy) Gy)))) IX)
  (HY (IW (IJ Qt (pv 2) Ha (ID _)) (HX (Hq (Ik Gy))) IX)
  (HY (Hv (i:=3) NY.nd rfl (Or.inl rfl) (Ik Gy))
  (HY (Ie Af rfl (Ut rfl mr (Gi (Iz (TU rfl) rfl mm Ga (Gi (pv 0) (Gi (pv 1) Gy))) (Gi Ha (Gi (N4 N7 Ha) Gy)))) (Hi (i:=4) NY.nd rfl (Or.inl rfl))
   (HX (Ie Af rfl (Ic (O0 G hr rfl mU F.kp bF .nil O4 (Gi (pv 4) (Gi (Hf Kb (pv 1) (pv 4)) (Gi (Hf Kb (pv 2) Ha) Gy))))) (Hi (i:=5) NY.nd rfl (Or.inl rfl))
    (HX (Ir (Kr A6 A9 BA Kv (pv 3) (Gi (Hf ON (IE (Gi (pv 4) Gy)) (pv 5)) Gy)))))))
  (HX (Hq (pv 3)))))),?_⟩
 refine⟨_,rfl,rfl,_,rfl,?_⟩
 refine Pt (λc=>?_) (λc=>?_)
 ·have c':V.int w=V.int 0:=Ay c
  have cw:w=0:=by injection c'
  subst cw
  refine⟨JP,λp hp=>⟨Il,λl hl=>?_⟩⟩
  have s1:Gp H (HV H p (.tup [])):=HW hp _
  have s2:=HW hl (.lst [.ref p])
  refine q l _ (s1.free hl) (s1.trans s2) ⟨[.ref p],HR,?_⟩
  rw[XV]
  exact .cons ⟨p,[],rfl,s2 _ _ HR,.nil⟩ .nil
 have cw:w≠0:=λz=>c (Ac (congrArg V.int z))
 refine⟨_,rfl,_,_,rfl,rfl,_,rfl,?_⟩
 refine Pt (λc2=>?_) (λc2=>?_)
 ·have cm:m<=0:=Ay c2
  refine⟨JP,λl hl=>?_⟩
  refine q l _ hl (HW hl _) ⟨[],HR,?_⟩
  rw[WX n t w m cw cm]
  exact .nil
 have cm:¬ m<=0:=λz=>c2 (Ac z)
 refine⟨JP,λl hl=>?_⟩
 have s0:Gp H (HV H l (.lst [])):=HW hl _
 have tot:=Xb n t w m cw cm
 have tl:(up (n+1) t w m).length<=256:=Um h0 h8
 have hk0:0<=(if w<t then w else t):=by split<;>lia
 have hkw:(if w<t then w else t)<=w:=by split<;>lia
 generalize hk:(if w<t then w else t)=k at hk0 hkw tot
 rw[tot]at tl
 refine⟨_,rfl,_,rfl,_,_,rfl,_,rfl,_,_,rfl,⟨by rw[hk];lia,by rw[hk];lia,by decide,by decide⟩,?_⟩
 rw[hk]
 have ek:(k-0).toNat=k.toNat:=by rw[HI]
 rw[ek]
 refine R6 (hi:=k) (n:=k.toNat) (λi σ H'=>(∃a b,σ=[some (.int t),some (.int w),some (.int m),some (.ref l),a,b])/\Gp H H'/\Gg H' l (((J5 k).take i).flatMap λf=>(up n f (w-f) (m-1)).map (f :: ·))) ?_ ?_ ?_
 ·exact⟨⟨_,_,rfl⟩,s0,[],HR,by simpa using Paired.nil⟩
 ·rintro i σ H1 hi ⟨⟨a,b,rfl⟩,sH,hL⟩
  have hd:=Uw hi
  have nx:=Pa (λf=>(up n f (w-f) (m-1)).map (f :: ·)) hd
  have nle:=OX (λf=>(up n f (w-f) (m-1)).map (f :: ·)) (J5 k) (i+1)
  rw[nx]at nle
  generalize hpre:((J5 k).take i).flatMap (λf=>(up n f (w-f) (m-1)).map (f :: ·))=pre at hL nx nle
  obtain⟨pv1,eL,iL⟩:=hL
  refine⟨_,rfl,_,rfl,_,rfl,_,_,rfl,rfl,_,rfl,_,_,rfl,rfl,k-(i:Int),w-(k-(i:Int)),m-1,rfl,by lia,by lia,by lia,by lia,λr H2 fr g1 e1=>?_⟩
  have rl:=W9 n (k-(i:Int)) (w-(k-(i:Int))) (m-1) (by lia)
  generalize up n (k-(i:Int)) (w-(k-(i:Int))) (m-1)=Hl at e1 nx nle rl
  obtain⟨vs2,e2,i2⟩:=e1
  refine⟨r,rfl,⟨_,HU.of e2⟩,?_⟩
  have hrl:r≠l:=(Jd eL fr).symm
  have l2:=AM i2
  refine Jr (xs:=vs2) (λj σ H'=>(∃b,σ=[some (.int t),some (.int w),some (.int m),some (.ref l),some (.int (k-(i:Int))),b])/\Gp H H'/\H' r=some (.lst vs2)/\Hr H' vs2 Hl/\Gg H' l (pre++(Hl.take j).map ((k-(i:Int)) :: ·))) ?_ ?_ ?_ ?_
  ·exact⟨⟨_,rfl⟩,sH.trans g1,e2,i2,pv1,g1 _ _ eL,by simpa using Hr.mono (Hb.same g1) iL⟩
  ·rintro j σ H3 _ ⟨_,_,e3,_⟩
   exact HU.of e3
  ·rintro j x σ H3 hx ⟨⟨b,rfl⟩,s3,e3,i3,pv2,eL3,iL3⟩
   obtain⟨row,hrow,hx2⟩:=Paired.get i3 hx
   obtain⟨px,rfl,hpx⟩:=JI hx2
   have len3:pv2.length<sizeLine:=by
    have z:=AM iL3
    have jl:j<Hl.length:=by
     have:=(AZ.mp hrow).1
     exact this
    rw[AJ,AB,Ap]at z
    rw[AJ,AB]at nle
    exact S3 (by lia)
   have fin:∀(p:yJ)(H4:Hp),Gp H3 H4->H4 p=some (.tup (((k-(i:Int))::row).map V.int)) ->
     QE (.ref l) [.ref p] H4 λ_ H5=>(∃b',[some (V.int t),some (.int w),some (.int m),some (.ref l),some (.int (k-(i:Int))),some (.ref px)]=[some (.int t),some (.int w),some (.int m),some (.ref l),some (.int (k-(i:Int))),b'])/\Gp H H5/\H5 r=some (.lst vs2)/\Hr H5 vs2 Hl/\Gg H5 l (pre++(Hl.take (j+1)).map ((k-(i:Int)) :: ·)):=by
    intro p H4 s4 hp
    have eL4:=s4 _ _ eL3
    have t4:Hb H4 (HV H4 l (.lst (pv2++[.ref p]))):=Ky eL4 _
    refine⟨l,pv2,.ref p,rfl,rfl,eL4,len3,⟨_,rfl⟩,Lo hl (s3.trans s4) _,?_,Hr.mono ((Hb.same s4).trans t4) i3,pv2++[.ref p],HR,?_⟩
    ·rw[Hw hrl];exact s4 _ _ e3
    ·have q1:(Hl.take (j+1)).map ((k-(i:Int)) :: ·)=(Hl.take j).map ((k-(i:Int)) :: ·)++[(k-(i:Int))::row]:=by
      rw[List.take_add_one,hrow];simp
     rw[q1,<-An]
     exact Cc (Hr.mono ((Hb.same s4).trans t4) iL3) (Dat.mono t4 (J9 hp))
   refine⟨_,rfl,.inl ⟨rfl,_,HU.of eL3⟩,_,rfl,Il,λp hp=>⟨_,rfl,p,px,[.int (k-(i:Int))],row.map V.int,rfl,rfl,HM.of HR,HM.of (HW hp _ _ _ hpx),(by simp),?_,λz=>?_,λz p2 hp2=>?_⟩⟩
   ·have zr:=rl row (AT hrow)
    rw[AB]
    exact small (by show 1+row.length<=100000;lia)
   ·have zr:row=[]:=by simpa using z
    subst zr
    exact fin p _ (HW hp _) HR
   ·exact fin p2 _ ((HW hp _).trans (HW hp2 _)) HR
  ·rintro σ H3 ⟨⟨b,rfl⟩,s3,e3,i3,hL3⟩
   refine⟨⟨_,_,rfl⟩,s3,?_⟩
   rw[nx]
   rw[l2,Ba]at hL3
   exact hL3
 ·rintro σ H1 ⟨⟨a,b,rfl⟩,sH,hL⟩
  refine⟨_,rfl,q l H1 hl sH ?_⟩
  rw[tot]
  have z:(J5 k).take k.toNat=J5 k:=by rw[<-Rj k,Ba]
  rw[z]at hL
  exact hL
theorem Xh:HC P w K mg base Hn 0 f fd NH (LY 0):=by
 have no:∀vs H Q E,¬ LY 0 vs H Q E:=λvs H Q E h=>by
  obtain⟨t,w,m,_,_,h0,_,h1,_⟩:=h
  lia
 exact⟨λvs H Q E h=>absurd h (no vs H Q E),λA outer s H args us vs Q E _ _ _ _ h=>absurd h (no vs H Q E)⟩
theorem Sc(F:Hu K "rows_up_to" "rows_up_to" Wj f fd)(bF:IT K fd NH [])(mU:mg "rows_up_to" = some (.ref f))(mr:mg "range" = none)(mm:mg "min" = none):∀n,HC P w K mg base Hn n f fd NH (LY n)
 |0=>Xh
 |n+1=>YV F (Sc F bF mU mr mm n) bF mU mr mm
theorem fB:Gq ["weight", "most"] ["weight", "most"] (He ZZ):=IA
theorem qX(F:Hu K "rows" "rows" ZZ g gd)(G:HC P w K mg base Hn 9 f fd NH (LY 9))(bF:IT K fd NH [])(kF:W.keepIn K (.ref f)=true)(mU:mg "rows_up_to" = some (.ref f)) :
  HC P w K mg base Hn 10 g gd ["weight", "most"] Ud:=by
 refine Hz F fB λHh A outer s H vs Q E hr h=>?_
 obtain⟨w,m,rfl,h0,h8,q⟩:=h
 refine⟨_,HX (Hq (O0 G hr rfl mU kF bF .nil O4 (Gi (pv 0) (Gi (pv 0) (Gi (pv 1) Gy))))),?_⟩
 exact⟨_,rfl,_,rfl,_,rfl,w,w,m,rfl,h0,h0,h8,by lia,q⟩
end
section
variable{P:yL}{w:yM}{K:yG}{mg:Str->yD}{base:Heap}{f g:yJ}{fd gd:yN}
theorem qH{K:yG}{a:yJ}{xs:List V}{σ0:St}{H1:Hp}{D:yJ}{R:Hp->Prop}{g:TG}{tc:TT}{te:TE}(Pv:Nat->List V->St->Hp->Prop)(hn:xs.length<=sizeLine)(h0:Pv 0 [] σ0 (HV H1 D (.lst [])))(hs:∀i ys σ H,Pv i ys σ H->HM K H a xs)
  (IU:∀(i:Nat)(x:V)(ys:List V)(σ':St)(H':Hp)(Yes:V->St->Hp->Prop)(No:St->Hp->Prop),xs[i]?=some x->H' D=some (.lst ys)->Pv i ys σ' H'->(∀y σ2 H4,H4 D=some (.lst ys)->Pv (i+1) (ys++[y]) σ2 (HV H4 D (.lst (ys++[y])))->Yes y σ2 H4) ->
   g x σ' H' λσ2 H2=>tc σ2 H2 λok H3=>if ok=true then te σ2 H3 λy H4=>Yes y σ2 H4 else No σ2 H3)
  (hend:∀ys σ' H',H' D=some (.lst ys)->Pv xs.length ys σ' H'->R H') :
  ∃W:Nat->Nat->St->Hp->Prop,(∃m,W 0 m σ0 (HV H1 D (.lst [])))/\∀i m σ' H',W i m σ' H' ->
  ((L3 K a).stop i H'/\R H')∨((L3 K a).go i H'/\∃N:St->Hp->Prop,(∀σ'' H'',N σ'' H''->∃m',m'<m/\W (i+1) m' σ'' H'') /\
   ∀x H'',(L3 K a).yld i H' x H''->g x σ' H'' λσ2 H2=>tc σ2 H2 λok H3=>if ok=true then te σ2 H3 λy H4=>∃ys,H4 D=some (.lst ys)/\ys.length<sizeLine/\N σ2 (HV H4 D (.lst (ys++[y]))) else N σ2 H3):=by
 refine⟨λi m σ' H'=>m=xs.length-i/\i<=xs.length/\∃ys,ys.length<=i/\H' D=some (.lst ys)/\Pv i ys σ' H',⟨xs.length,by simp,Az _,[],AH _,HR,h0⟩,?_⟩
 rintro i m σ' H' ⟨rfl,hi,ys,ly,eD,pv⟩
 have l1:=hs i ys σ' H' pv
 by_cases hlt:i<xs.length
 ·refine .inr ⟨⟨xs,xs[i],l1,AL hlt⟩,λσ2 H2=>∃ys,ys.length<=i+1/\H2 D=some (.lst ys)/\Pv (i+1) ys σ2 H2,λσ2 H2 c=>⟨xs.length-(i+1),by lia,rfl,hlt,c⟩,?_⟩
  rintro x H'' ⟨rfl,hx⟩
  exact IU i x ys σ' H'' _ _ (hx xs l1) eD pv (λy σ2 H4 e4 p4=>⟨ys,e4,by lia,ys++[y],by simp;exact ly,HR,p4⟩)
 ·obtain rfl:i=xs.length:=by lia
  exact .inl ⟨⟨xs,l1,AH _⟩,hend ys σ' H' eD pv⟩
theorem Lv{r:xX}(h:Iu r=true):(∀x∈r,1<=x)/\r.sum<=8:=by
 unfold Iu at h
 rw[AI,AI,AR,AQ]at h
 exact⟨λx hx=>Ay (h.1.1 x hx),h.2⟩
theorem MX:∀(r:xX),(∀x∈r,1<=x)->((r.map Int.toNat).sum:Int)=r.sum/\(r.length:Int)<=r.sum
 |[],_=>⟨rfl,DG _⟩
 |x::r,h=>by
  obtain⟨a,b⟩:=MX r λy hy=>h y (AE _ hy)
  have:=h x (AG ..)
  rw[Ai,BF,BF,Am]
  lia
theorem iS{x:Int}(h1:1<=x)(h8:x<=8):Iu [x]=true:=by
 unfold Iu
 rw[DB,Ac h1]
 simp
 exact h8
theorem UL:∀{r:xX},(∀x∈r,1<=x)->∀x∈r,x<=r.sum
 |[],_,x,hx=>by simp at hx
 |y::r,h,x,hx=>by
  have h0:=(MX r λz hz=>h z (AE _ hz)).2
  have h1:=h y (AG ..)
  rw[BF]
  rcases AY.mp hx with rfl|hx
  ·lia
  ·have:=UL (λz hz=>h z (AE _ hz)) x hx
   lia
theorem sL(x:Int)(k:Nat):(List.replicate k [x]).flatten=List.replicate k x:=by
 induction k with
 |zero=>rfl
 |succ k ih=>rw[A1,Bl,ih,A1];rfl
noncomputable abbrev RN:yB:=["many", "number"]
theorem nP:Gq RN RN (He Yc):=IA
noncomputable def Ih(n k:Nat):List Go:=if n<k then [] else exch n (List.replicate k 1)
noncomputable def NO(ff:Nat->Nat->List Go):Sp:=λvs H Q _=>∃n k:Nat,vs=[.int n,.int k]/\1<=n/\n<=4/\k<=8/\∀(a:yJ)(H':Hp),H a=none->Gp H H'->Gg H' a (ff n k)->Q (.ref a) H'
theorem YZ:∀k∈List.range 5,Iu (List.replicate k 1)=true:=by decide +kernel
theorem Y3(F:Hu K "elementary" "elementary" Yc f fd)(GE:Hc P w K mg base 6 "exchange_sum" OB MP):HC P w K mg base Hn 7 f fd RN (NO Ih):=by
 refine Hz F nP λHh A outer s H vs Q E hr h=>?_
 obtain⟨n,k,rfl,n1,n4,k8,q⟩:=h
 refine⟨_,HY (IW (IJ Mg (pv 1) (pv 0) (ID _)) (HX (Hq (Ik Gy))) IX)
  (HX (Hq (Hd GE hr rfl (Gi (pv 0) (Gi (Hf Md (IE (Gi Ha Gy)) (pv 1)) Gy))))),?_⟩
 refine⟨_,rfl,_,rfl,_,_,rfl,rfl,_,rfl,?_⟩
 by_cases c:n<k
 ·refine Jf (by lia) ?_
  refine⟨JP,λl hl=>q l _ hl (HW hl _) ⟨[],HR,?_⟩⟩
  rw[Ih,AF c]
  exact .nil
 ·refine JF (by lia) ?_
  refine⟨_,rfl,Il,λt0 h0=>?_⟩
  have s0:=HW h0 (.tup [.int 1])
  refine⟨_,rfl,t0,[1],_,rfl,rfl,HR,by simp,by lia,by lia,small (by show 1*_<=100000;lia),λt1 H1 s1 h1=>?_⟩
  rw[sL,BB]at h1
  refine⟨n,t1,List.replicate k 1,rfl,n1,n4,h1,by rw[A8];lia,YZ k (Al.mpr (by lia)),λa H2 ha s2 hL=>?_⟩
  refine q a H2 (s0.free (s1.free ha)) (s0.trans (s1.trans s2)) ?_
  rw[Ih,AD c]
  exact hL
noncomputable def NP(ff:Nat->Nat->List Go):Sp:=λvs H Q _=>∃(n:Nat)(p:yJ)(r:xX),vs=[.int n,.ref p]/\1<=n/\n<=4/\H p=some (.tup (r.map V.int))/\Iu r=true/\∀(a:yJ)(H':Hp),H a=none->Gp H H'->Gg H' a (Ip (ff n) n (r.map Int.toNat))->Q (.ref a) H'
noncomputable abbrev Qp:yB:=["many", "row"]
noncomputable abbrev vR:yB:=["number", "many"]
theorem lJ:vR.Nodup:=by decide +kernel
theorem rZ:Gq Qp Qp (He XJ):=IA
theorem iP(F:Hu K "elementary_product" "elementary_product" XJ f fd)(GE:Hc P w K mg base 7 "elementary" RN (NO Ih))(GP:Hc P w K mg base 7 "product" ["many", "factors"] NZ)(hF:∀n k:Nat,1<=n->n<=4->1<=k->k<=8->OJ n k (Ih n k)):HC P w K mg base Hn 8 f fd Qp (NP Ih):=by
 refine Hz F rZ λHh A outer s H vs Q E hr h=>?_
 obtain⟨n,p,r,rfl,n1,n4,hp,hB,q⟩:=h
 refine⟨_,(HX (Hq (Hd GP hr rfl (Gi (pv 0) (Gi (JK (N':=vR) (src:=[none,some 0]) rfl (MC (pv 1)) (JJ (He XJ) Qp (by decide +kernel))
   (λb=>Hi (i:=0) lJ rfl (Or.inl rfl)) (λb=>Jh) (λb=>Hd GE hr rfl (Gi (pv 1) (Gi (pv 0) Gy)))) Gy))))),?_⟩
 obtain⟨low,s8⟩:=Lv hB
 obtain⟨e8,l8⟩:=MX r low
 obtain⟨H1,eH1⟩:∃H1,H1=H:=⟨_,rfl⟩
 have s1:Gp H H1:=by rw[eH1];exact λ_ _ e=>e
 rw[<-eH1]
 have hp1:=s1 _ _ hp
 refine⟨_,rfl,_,rfl,p,rfl,⟨_,HM.of hp1⟩,λbk D hD=>?_⟩
 refine qH (xs:=r.map V.int) (λi ys σ H'=>(∃c,σ=[c,some (.int n)])/\(∀b o,H1 b=some o->H' b=some o)/\∃as:yC,ys=as.map V.ref/\Paired (λx k=>Gg H' x (Ih n k)/\x≠D) as ((r.map Int.toNat).take i)) (small (by rw[AB];lia)) ?_ ?_ ?_ ?_
 ·exact⟨⟨_,rfl⟩,HW hD _,[],rfl,.nil⟩
 ·rintro i ys σ H' ⟨_,sm,_⟩
  exact HM.of (sm _ _ hp1)
 ·rintro i v ys σ H2 Yes No hv eD ⟨⟨c,rfl⟩,sm,as,rfl,hP⟩ yes
  obtain⟨x,hx,rfl⟩:∃x,r[i]?=some x/\V.int x=v:=by
   rw[Ag]at hv
   cases e:r[i]? with
   |none=>rw[e]at hv;cases hv
   |some y=>rw[e]at hv;exact⟨y,rfl,Aq hv⟩
  have xm:=AT hx
  have x1:=low x xm
  have x8:=UL low x xm
  refine L5 ?_
  refine⟨_,rfl,_,rfl,n,x.toNat,by rw[DO (by lia)];rfl,n1,n4,by lia,λa3 H3 h3 s3 hL=>?_⟩
  have eD3:=s3 _ _ eD
  have na:a3≠D:=λz=>by
   rw[z,eD]at h3
   cases h3
  have tD:∀o,∀{y:yJ}{f:List Go},y≠D->Gg H3 y f->Gg (HV H3 D o) y f:=λo {y f} hy ⟨ws,ew,iw⟩=>⟨ws,by rw[Hw hy];exact ew,Hr.mono (λq ys' e'=>by rw[Hw (Jw e' eD3 (by intro z;cases z))];exact e') iw⟩
  refine yes _ _ _ eD3 ⟨⟨_,rfl⟩,λb o e=>?_,as++[a3],by rw[Ar];rfl,?_⟩
  ·rw[Hw (Jd e hD)]
   exact s3 _ _ (sm b o e)
  ·have ht':((r.map Int.toNat))[i]?=some x.toNat:=by rw[Ag,hx];rfl
   rw[JW ht']
   exact Cc (Paired.mapP hP λy k hk=>⟨tD _ hk.2 (hk.1.mono s3),hk.2⟩) ⟨tD _ na hL,na⟩
 ·rintro ys σ H2 eD ⟨_,sm,as,rfl,hP⟩
  rw[AB,<-AB (f:=Int.toNat),Ba]at hP
  refine⟨Ih n,n,D,as,r.map Int.toNat,rfl,n1,n4,λk k1 k8=>hF n k n1 n4 k1 k8,eD,(Paired.mapP hP λy k hk=>hk.1),by lia,by rw[AB];lia,λk hk=>?_,λl H3 hl s3 hL=>?_⟩
  ·obtain⟨x,hx,rfl⟩:=AN.mp hk
   have:=low x hx
   lia
  ·have sA:Gp H1 H2:=sm
   exact q l H3 (s1.free (sA.free hl)) (s1.trans (sA.trans s3)) hL
noncomputable abbrev Wo:yB:=["many", "row"]
theorem kR:Gq Wo Wo (He oV):=IA
theorem Za(F:Hu K "elementary_sum" "elementary_sum" oV f fd)(GR:Hc P w K mg base 8 "refuse_bad_row" MG OY)(GC:Hc P w K mg base 8 "refuse_bad_count" ["many"] Nz)(GE:Hc P w K mg base 8 "elementary_product" Qp (NP Ih)):HC P w K mg base Hn 9 f fd Wo (NP Ih):=by
 refine Hz F kR λHh A outer s H vs Q E hr h=>?_
 obtain⟨n,p,r,rfl,n1,n4,hp,hB,q⟩:=h
 refine⟨_,HY (Ir (Hd GR hr rfl (Gi (pv 1) Gy))) (HY (Ir (Hd GC hr rfl (Gi (pv 0) Gy)))
  (HX (Hq (Hd GE hr rfl (Gi (pv 0) (Gi (pv 1) Gy)))))),?_⟩
 obtain⟨low,s8⟩:=Lv hB
 obtain⟨e8,l8⟩:=MX r low
 refine⟨_,rfl,p,r,rfl,hp,by lia,hB,λH1 s1=>?_⟩
 refine⟨_,rfl,n,rfl,by lia,by lia,?_⟩
 exact⟨_,rfl,_,rfl,n,p,r,rfl,n1,n4,s1 _ _ hp,hB,λa H2 ha s2 hL=>q a H2 (s1.free ha) (s1.trans s2) hL⟩
noncomputable abbrev UO:yB:=["row", "least"]
noncomputable abbrev uJ:yB:=["number", "least"]
theorem cL:uJ.Nodup:=by decide +kernel
theorem rW:Gq UO UO (He WY):=IA
noncomputable def pJ(r:xX)(k:Int):Int:=((r.filter λx=>decide (k<=x)).length:Int)
noncomputable def Rk:Sp:=λvs H Q _=>∃(p:yJ)(r:xX)(k:Int),vs=[.ref p,.int k]/\H p=some (.tup (r.map V.int))/\r.length<=1000/\∀H',Gp H H'->Q (.int (pJ r k)) H'
theorem kI(r:xX)(c:Int->Prop)[DecidablePred c](n:Nat)(h:n=r.length):(List.range n).filterMap (λi=>(r[i]?).bind λx=>if c x then some x else none)=r.filter λx=>decide (c x):=by
 rw[h,Js,Wc]
 exact HP _
theorem ZP(F:Hu K "count_from" "count_from" WY f fd)(ml:mg "len" = none):HC P w K mg base Hn 2 f fd UO Rk:=by
 refine Hz F rW λHh A outer s H vs Q E hr h=>?_
 obtain⟨p,r,k,rfl,hp,hl,q⟩:=h
 refine⟨_,HX (Hq (Iz KS rfl ml BR (Gi (JK (N':=uJ) (src:=[none,some 1]) rfl (MC (pv 0)) (JJ (He WY) UO (by decide +kernel))
   (λb=>Hi (i:=0) cL rfl (Or.inl rfl)) (λb=>RI (IJ ZY (pv 0) (pv 1) (ID _))) (λb=>pv 0)) Gy))),?_⟩
 refine⟨_,rfl,p,rfl,⟨_,HM.of hp⟩,λbk D hD=>?_⟩
 refine So (α:=Int) hD (HM.of hp) (λσ=>∃c,σ=[c,some (.int k)]) (λi=>(r[i]?).bind λx=>if k<=x then some x else none) (small (by rw[AB];lia)) ?_ ?_ ?_
 ·exact⟨_,rfl⟩
 ·rintro i v σ H2 Yes No hv ⟨c,rfl⟩ s3 yes no
  obtain⟨x,hx,rfl⟩:∃x,r[i]?=some x/\V.int x=v:=by
   rw[Ag]at hv
   cases e:r[i]? with
   |none=>rw[e]at hv;cases hv
   |some y=>rw[e]at hv;exact⟨y,rfl,Aq hv⟩
  refine⟨_,rfl,_,rfl,_,_,rfl,rfl,_,rfl,?_⟩
  by_cases c:k<=x
  ·refine Jf c ⟨_,rfl,?_⟩
   exact yes _ _ _ x ⟨_,rfl⟩ (λ_ _ e=>e) (by rw[hx];exact AF c) rfl
  ·exact JF c (no _ _ ⟨_,rfl⟩ (λ_ _ e=>e) (by rw[hx];exact AD c))
 rintro H1 s1 ⟨ws,eD,iD⟩
 have lw:=AM iD
 rw[kI r (λx=>k<=x) _ (by rw[AB])]at lw
 refine⟨D,_,rfl,.inl (HU.of eD),?_⟩
 rw[lw]
 exact q H1 s1
noncomputable abbrev WA:yB:=["row"]
noncomputable abbrev vG:yB:=["place", "row"]
theorem sU:vG.Nodup:=by decide +kernel
theorem lC:Gq WA WA (He XS):=IA
noncomputable def Pu(r:xX):Int:=r.foldl max 0
noncomputable def IV(r:xX):xX:=(List.range (Pu r).toNat).map λ(i:Nat)=>pJ r ((i:Int)+1)
theorem TW{r:xX}{M:Int}(nn:∀x∈r,0<=x)(h:(r=[]/\M=0)∨(M∈r/\∀x∈r,x<=M)):M=Pu r:=by
 have key:∀(l:xX)(a:Int),(a<=l.foldl max a/\(∀x∈l,x<=l.foldl max a)/\(l.foldl max a=a∨l.foldl max a∈l)):=by
  intro l
  induction l with
  |nil=>intro a;exact⟨DG _,by simp,.inl rfl⟩
  |cons y l ih =>
   intro a
   obtain⟨h1,h2,h3⟩:=ih (max a y)
   rw[B5]
   refine⟨by lia,λx hx=>?_,?_⟩
   ·rcases AY.mp hx with rfl|hx
    ·lia
    ·exact h2 x hx
   ·rcases h3 with h3|h3
    ·rw[h3]
     by_cases c:a<=y
     ·exact .inr (by rw[Int.max_eq_right c];exact AG ..)
     ·exact .inl (by rw[Int.max_eq_left (by lia)])
    ·exact .inr (AE _ h3)
 obtain⟨h1,h2,h3⟩:=key r 0
 unfold Pu
 rcases h with⟨rfl,rfl⟩|⟨hm,hM⟩
 ·rfl
 ·have a1:=h2 M hm
  rcases h3 with h3|h3
  ·have:=nn M hm
   lia
  ·have:=hM _ h3
   lia
noncomputable def Se:Sp:=λvs H Q _=>∃(p:yJ)(r:xX),vs=[.ref p]/\H p=some (.tup (r.map V.int))/\r.length<=1000/\(∀x∈r,0<=x)/\Pu r<=1000/\∀(t:yJ)(H':Hp),Gp H H'->H' t=some (.tup ((IV r).map V.int))->Q (.ref t) H'
theorem Zz(F:Hu K "turned_over" "turned_over" XS f fd)(G:Hc P w K mg base 2 "count_from" UO Rk)(mx:mg "max" = none)(mr:mg "range" = none)(mt:mg "tuple" = none):HC P w K mg base Hn 3 f fd WA Se:=by
 refine Hz F lC λHh A outer s H vs Q E hr h=>?_
 obtain⟨p,r,rfl,hp,hl,nn,hm,q⟩:=h
 refine⟨_,HX (Hq (MJ OH rfl mt BL (Gi (JK (N':=vG) (src:=[none,some 0]) rfl
   (N9 rfl mr (Gi (PU rfl rfl mx (Gi (pv 0) Gy)) Gy)) (JJ (He XS) WA (by decide +kernel))
   (λb=>Hi (i:=0) sU rfl (Or.inl rfl)) (λb=>Jh) (λb=>Hd G hr rfl (Gi (pv 1) (Gi (Hf Kn (pv 0) Ha) Gy)))) Gy))),?_⟩
 refine⟨_,rfl,p,r,rfl,.inr (HM.of hp),λM hM=>?_⟩
 rw[TW nn hM]
 have m0:0<=Pu r:=by
  rw[<-TW nn hM]
  rcases hM with⟨_,rfl⟩|⟨hm,_⟩
  ·exact DG _
  ·exact nn M hm
 refine⟨_,rfl,by lia,by lia,λbk D hD=>?_⟩
 refine vM (α:=Int) hD (λσ=>∃c,σ=[c,some (.ref p)]) (λ(i:Nat)=>some (pJ r ((i:Int)+1))) (small (by lia)) ?_ ?_ ?_
 ·exact⟨_,rfl⟩
 ·rintro i σ H2 Yes No hi ⟨c,rfl⟩ s3 yes no
  refine L5 ?_
  refine⟨_,rfl,_,rfl,_,_,rfl,rfl,p,r,_,rfl,s3 _ _ hp,hl,λH4 s4=>?_⟩
  rw[DK]
  exact yes _ _ _ _ ⟨_,rfl⟩ s4 rfl rfl
 rintro H1 s1 ⟨ws,eD,iD⟩
 rw[N6 iD,Aw]at eD
 refine⟨D,_,rfl,.inl ⟨HU.of eD,λt ht=>?_⟩⟩
 exact q t _ (s1.trans (HW ht _)) HR
end
section
variable{P:yL}{w:yM}{K:yG}{mg:Str->yD}{base:Heap}{f g:yJ}{fd gd:yN}
noncomputable abbrev xF:yB:=["many", "number", "total", "row"]
theorem NG:Gq xF ["many", "number"] (He gI):=IA
noncomputable def M4(n:Nat)(rs:List xX):List Go:=rs.foldl (λacc r=>norm (acc++exch n r)) []
noncomputable def MY(n k:Nat):List Go:=M4 n (up 9 (k:Int) (k:Int) (n:Int))
theorem T1(n:Nat)(rs:List xX)(r:xX):M4 n (rs++[r])=norm (M4 n rs++exch n r):=by
 unfold M4
 rw[CC]
 rfl
theorem Vv{n:Nat}{r:xX}(h:r.length<=n):∀t∈exch n r,t.1.length=n:=λt ht=>by
 unfold exch at ht
 obtain⟨q,hq,rfl⟩:=AN.mp ht
 rw[rC _ _ q hq,AJ,A8]
 lia
theorem Rq{n:Nat}{r:xX}(n1:1<=n)(n4:n<=4)(h:r.length<=n):(exch n r).length<=24:=by
 unfold exch
 rw[AB]
 have ol:=Xe 5 (r++List.replicate (n-r.length) 0)
 rw[AJ,A8,show r.length+(n-r.length)=n by lia]at ol
 have b4:Qs n<=24:=by
  have:n=1∨n=2∨n=3∨n=4:=by lia
  rcases this with e|e|e|e<;>rw[e]<;>decide
 lia
theorem bX{n:Nat}(n1:1<=n)(n4:n<=4):∀rs:List xX,(∀r∈rs,r.length<=n)->(∀t∈M4 n rs,t.1.length=n)/\(M4 n rs).length<=24*rs.length:=by
 refine LU (λ_=>⟨λt ht=>by simp [M4]at ht,AH _⟩) λrs r ih h=>?_
 obtain⟨a,b⟩:=ih λx hx=>h x (A0 _ hx)
 have hr:=h r (Aj _ (AS.mpr rfl))
 rw[T1]
 refine⟨λt ht=>?_,?_⟩
 ·obtain⟨u,hu,e⟩:=J7 ht
  rw[<-e]
  exact(Ao.mp hu).elim (a u) (Vv hr u)
 ·have l1:=Pc (M4 n rs++exch n r)
  have l2:=Rq n1 n4 hr
  rw[AJ]at l1
  rw[AJ,BC]
  lia
theorem ZV:∀n∈List.range 5,∀k∈List.range 9,(up 9 (k:Int) (k:Int) (n:Int)).all (λr=>Iu r&&decide (r.length<=n))=true:=by decide +kernel
theorem nY(F:Hu K "whole" "whole" gI f fd)(GR:Hc P w K mg base 10 "rows" ["weight", "most"] Ud)(GE:Hc P w K mg base 10 "exchange_sum" OB MP)(GP:Hc P w K mg base 10 "plus" MR (Uq λts us=>ts++us)):HC P w K mg base Hn 11 f fd RN (NO MY):=by
 refine Hz F NG λHh A outer s H vs Q E hr h=>?_
 obtain⟨n,k,rfl,n1,n4,k8,q⟩:=h
 refine⟨_,HY (Hv (i:=2) NG.nd rfl (Or.inl rfl) (Ik Gy))
  (HY (Ie Af rfl (Ic (Hd GR hr rfl (Gi (pv 1) (Gi (pv 0) Gy)))) (Hi (i:=3) NG.nd rfl (Or.inl rfl))
   (HX (Hv (i:=2) NG.nd rfl (Or.inl rfl) (Hd GP hr rfl (Gi (pv 2) (Gi (Hd GE hr rfl (Gi (pv 0) (Gi (pv 3) Gy))) Gy))))))
  (HX (Hq (pv 2)))),?_⟩
 refine⟨JP,λl0 h0=>?_⟩
 have s0:=HW h0 (.lst [])
 refine⟨_,rfl,_,rfl,(k:Int),(n:Int),rfl,by lia,by lia,λa H1 ha s1 hL=>?_⟩
 have ur:∀r∈up 9 (k:Int) (k:Int) (n:Int),Iu r=true/\r.length<=n:=λr hr=>by
  have:=AR.mp (ZV n (Al.mpr (by lia)) k (Al.mpr (by lia))) r hr
  rw[AI,AQ]at this
  exact this
 have ul:(up 9 (k:Int) (k:Int) (n:Int)).length<=256:=Um (by lia) (by lia)
 unfold MY at q
 generalize up 9 (k:Int) (k:Int) (n:Int)=rs at q ur ul hL
 obtain⟨vs,eL,iL⟩:=hL
 have lv:=AM iL
 refine⟨a,rfl,⟨_,HU.of eL⟩,?_⟩
 refine Jr (xs:=vs) (λi σ H'=>(∃(l:yJ)(c3:Option V),σ=[some (.int n),some (.int k),some (.ref l),c3]/\Gg H' l (M4 n (rs.take i))/\H l=none)/\Gp H1 H') ?_ ?_ ?_ ?_
 ·exact⟨⟨l0,_,rfl,⟨[],s1 _ _ HR,.nil⟩,h0⟩,λ_ _ e=>e⟩
 ·rintro i σ H2 _ ⟨_,s2⟩
  exact HU.of (s2 _ _ eL)
 ·rintro i v σ H2 hv ⟨⟨l,c3,rfl,hl,fl⟩,s2⟩
  obtain⟨r,hr',hi⟩:=Io iL hv
  obtain⟨pr,rfl,hpr⟩:=JI hi
  obtain⟨rB,rl⟩:=ur r (AT hr')
  refine⟨_,rfl,_,rfl,_,rfl,n,pr,r,rfl,n1,n4,s2 _ _ hpr,rl,rB,λa3 H3 h3 s3 hL3=>?_⟩
  obtain⟨w1,w2⟩:=bX n1 n4 (rs.take i) λx hx=>(ur x (BJ hx)).2
  rw[Ap]at w2
  have e1:=Vv rl
  have e2:=Rq n1 n4 rl
  have ne:∀{t:Go},t.1.length=n->t.1≠[]:=λ{t} h e=>by
   rw[e]at h
   simp at h
   lia
  refine⟨l,a3,_,_,rfl,hl.mono s3,hL3,λt ht=>ne (w1 t ht),λt ht=>ne (e1 t ht),by lia,λl4 H4 h4 s4 hL4=>?_⟩
  refine⟨⟨l4,_,rfl,?_,(s0.trans (s1.trans (s2.trans s3))).free h4⟩,s2.trans (s3.trans s4)⟩
  rw[JW hr',T1]
  exact hL4
 ·rintro σ H2 ⟨⟨l,c3,rfl,hl,fl⟩,s2⟩
  rw[lv,Ba]at hl
  exact⟨_,rfl,q l H2 fl (s0.trans (s1.trans s2)) hl⟩
noncomputable abbrev Tn:yB:=["many", "row"]
noncomputable abbrev wC:yB:=["number", "many"]
theorem dI:wC.Nodup:=by decide +kernel
theorem YA:Gq Tn Tn (He Wv):=IA
theorem qO(F:Hu K "whole_sum" "whole_sum" Wv f fd)(GR:Hc P w K mg base 11 "refuse_bad_row" MG OY)(GC:Hc P w K mg base 11 "refuse_bad_count" ["many"] Nz)(GE:Hc P w K mg base 11 "whole" RN (NO MY))(GP:Hc P w K mg base 11 "product" ["many", "factors"] NZ)(hF:∀n k:Nat,1<=n->n<=4->1<=k->k<=8->OJ n k (MY n k)):HC P w K mg base Hn 12 f fd Tn (NP MY):=by
 refine Hz F YA λHh A outer s H vs Q E hr h=>?_
 obtain⟨n,p,r,rfl,n1,n4,hp,hB,q⟩:=h
 refine⟨_,HY (Ir (Hd GR hr rfl (Gi (pv 1) Gy))) (HY (Ir (Hd GC hr rfl (Gi (pv 0) Gy)))
  (HX (Hq (Hd GP hr rfl (Gi (pv 0) (Gi (JK (N':=wC) (src:=[none,some 0]) rfl (MC (pv 1)) (JJ (He Wv) Tn (by decide +kernel))
   (λb=>Hi (i:=0) dI rfl (Or.inl rfl)) (λb=>Jh) (λb=>Hd GE hr rfl (Gi (pv 1) (Gi (pv 0) Gy)))) Gy)))))),?_⟩
 obtain⟨low,s8⟩:=Lv hB
 obtain⟨e8,l8⟩:=MX r low
 refine⟨_,rfl,p,r,rfl,hp,by lia,hB,λH1 s1=>?_⟩
 refine⟨_,rfl,n,rfl,by lia,by lia,?_⟩
 have hp1:=s1 _ _ hp
 refine⟨_,rfl,_,rfl,p,rfl,⟨_,HM.of hp1⟩,λbk D hD=>?_⟩
 refine qH (xs:=r.map V.int) (λi ys σ H'=>(∃c,σ=[c,some (.int n)])/\(∀b o,H1 b=some o->H' b=some o)/\∃as:yC,ys=as.map V.ref/\Paired (λx k=>Gg H' x (MY n k)/\x≠D) as ((r.map Int.toNat).take i)) (small (by rw[AB];lia)) ?_ ?_ ?_ ?_
 ·exact⟨⟨_,rfl⟩,HW hD _,[],rfl,.nil⟩
 ·rintro i ys σ H' ⟨_,sm,_⟩
  exact HM.of (sm _ _ hp1)
 ·rintro i v ys σ H2 Yes No hv eD ⟨⟨c,rfl⟩,sm,as,rfl,hP⟩ yes
  obtain⟨x,hx,rfl⟩:∃x,r[i]?=some x/\V.int x=v:=by
   rw[Ag]at hv
   cases e:r[i]? with
   |none=>rw[e]at hv;cases hv
   |some y=>rw[e]at hv;exact⟨y,rfl,Aq hv⟩
  have xm:=AT hx
  have x1:=low x xm
  have x8:=UL low x xm
  refine L5 ?_
  refine⟨_,rfl,_,rfl,n,x.toNat,by rw[DO (by lia)];rfl,n1,n4,by lia,λa3 H3 h3 s3 hL=>?_⟩
  have eD3:=s3 _ _ eD
  have na:a3≠D:=λz=>by
   rw[z,eD]at h3
   cases h3
  have tD:∀o,∀{y:yJ}{f:List Go},y≠D->Gg H3 y f->Gg (HV H3 D o) y f:=λo {y f} hy ⟨ws,ew,iw⟩=>⟨ws,by rw[Hw hy];exact ew,Hr.mono (λq ys' e'=>by rw[Hw (Jw e' eD3 (by intro z;cases z))];exact e') iw⟩
  refine yes _ _ _ eD3 ⟨⟨_,rfl⟩,λb o e=>?_,as++[a3],by rw[Ar];rfl,?_⟩
  ·rw[Hw (Jd e hD)]
   exact s3 _ _ (sm b o e)
  ·have ht':((r.map Int.toNat))[i]?=some x.toNat:=by rw[Ag,hx];rfl
   rw[JW ht']
   exact Cc (Paired.mapP hP λy k hk=>⟨tD _ hk.2 (hk.1.mono s3),hk.2⟩) ⟨tD _ na hL,na⟩
 ·rintro ys σ H2 eD ⟨_,sm,as,rfl,hP⟩
  rw[AB,<-AB (f:=Int.toNat),Ba]at hP
  refine⟨MY n,n,D,as,r.map Int.toNat,rfl,n1,n4,λk k1 k8=>hF n k n1 n4 k1 k8,eD,(Paired.mapP hP λy k hk=>hk.1),by lia,by rw[AB];lia,λk hk=>?_,λl H3 hl s3 hL=>?_⟩
  ·obtain⟨x,hx,rfl⟩:=AN.mp hk
   have:=low x hx
   lia
  ·have sA:Gp H1 H2:=sm
   exact q l H3 (s1.free (sA.free hl)) (s1.trans (sA.trans s3)) hL
end
section
variable{P:yL}{w:yM}{K:yG}{mg:Str->yD}{base:Heap}{f g:yJ}{fd gd:yN}
noncomputable def MD(n k:Nat)(f:List Go):Bool:=f.all (λt=>decide (t.1.length=n)&&t.1.all (λx=>decide (0<=x))&&decide (t.1.sum=(k:Int))&&decide (t.2=1))&&decide (f.length<=165)
theorem P1{n k:Nat}{f:List Go}(h:MD n k f=true):OJ n k f:=by
 unfold MD at h
 rw[AI,AR,AQ]at h
 have key:∀t∈f,((t.1.length=n/\∀x∈t.1,0<=x)/\t.1.sum=(k:Int))/\t.2=1:=λt ht=>by
  have:=h.1 t ht
  rw[AI,AI,AI,AQ,AQ,AQ,AR]at this
  exact⟨⟨⟨this.1.1.1,λx hx=>Ay (this.1.1.2 x hx)⟩,this.1.2⟩,this.2⟩
 exact⟨⟨λt ht=>(key t ht).1.1.1,λt ht=>(key t ht).1.1.2,λt ht=>by rw[(key t ht).1.2];exact DG _,λt ht=>by rw[(key t ht).2];decide⟩,λt ht=>(key t ht).1.2,h.2⟩
theorem pI:∀n∈[1,2,3,4],∀k∈[1,2,3,4,5,6,7,8],MD n k (Ih n k)=true:=by decide +kernel
theorem LK(n k:Nat)(n1:1<=n)(n4:n<=4)(k1:1<=k)(k8:k<=8):OJ n k (Ih n k):=by
 have hn:n∈[1,2,3,4]:=by
  have:n=1∨n=2∨n=3∨n=4:=by lia
  rcases this with rfl|rfl|rfl|rfl<;>simp
 have hk:k∈[1,2,3,4,5,6,7,8]:=by
  have:k=1∨k=2∨k=3∨k=4∨k=5∨k=6∨k=7∨k=8:=by lia
  rcases this with rfl|rfl|rfl|rfl|rfl|rfl|rfl|rfl<;>simp
 exact P1 (pI n hn k hk)
theorem ZH{r:xX}(hB:Iu r=true):(r.map Int.toNat).sum<=8/\∀k∈r.map Int.toNat,1<=k:=by
 obtain⟨low,s8⟩:=Lv hB
 obtain⟨e8,l8⟩:=MX r low
 refine⟨by lia,λk hk=>?_⟩
 obtain⟨y,hy,rfl⟩:=AN.mp hk
 have:=low y hy
 lia
noncomputable def OF(n k:Nat):Pw:=List.replicate k 1++List.replicate (n-k) 0
noncomputable def QT:Pw->Bool
 |x::y::r=>decide (y<=x)&&QT (y::r)
 |_=>true
noncomputable def fl(n:Nat):List Pw:=((List.range 9).flatMap (wv n)).filter QT
noncomputable def Nw(n:Nat)(ks:List Nat):Pw:=ks.foldl (λacc k=>IQ acc (OF n k)) (List.replicate n 0)
noncomputable def LR(n:Nat)(r:xX):Bool:=r.all (λx=>decide (1<=x)&&decide (x<=(n:Int)))&&QT r&&decide (r.length<=8)
noncomputable def Vp(n:Nat)(p:Pw):Bool:=LR n (IV p)&&decide ((IV p).sum=p.sum)&&decide (Nw n ((IV p).map Int.toNat)=p)&&decide (Pu p<=1000)&&Iu (IV p)
theorem Qv:∀n∈[1,2,3,4],(fl n).length<=53/\((List.range 9).flatMap (wv n)).length<=495/\(fl n).all (Vp n)=true:=by decide +kernel
noncomputable def uF(n k:Nat):Bool:=decide (cf (Ih n k) (OF n k)=1)&&(Ih n k).all (λt=>decide (t.1=OF n k)||Hs t.1 (OF n k))&&(List.range (n-1)).all (λj=>decide (norm (KZ (Ih n k) j)=norm (Ih n k)))&&decide ((OF n k).length=n)
theorem fJ:∀n∈[1,2,3,4],∀k∈List.range (n+1),uF n k=true:=by decide +kernel
theorem Jp{n:Nat}(n1:1<=n)(n4:n<=4):n∈[1,2,3,4]:=by
 have:n=1∨n=2∨n=3∨n=4:=by lia
 rcases this with rfl|rfl|rfl|rfl<;>simp
theorem Ob:∀{p:Pw},(∀k,k+1<p.length->p.getD (k+1) 0<=p.getD k 0)->QT p=true
 |[],_=>rfl
 |[_],_=>rfl
 |x::y::r,h=>by
  unfold QT
  rw[AI,AQ]
  refine⟨by simpa using h 0 (by simp),Ob λk hk=>?_⟩
  have:=h (k+1) (by simpa using hk)
  simpa using this
theorem Q1{n:Nat}{p:Pw}(l:p.length=n)(nn:∀x∈p,0<=x)(s:p.sum<=8)(f:QT p=true):p∈fl n:=by
 have s0:=XI nn
 refine BU.mpr ⟨A5.mpr ⟨p.sum.toNat,Al.mpr (by lia),XA n _ p l nn (by lia)⟩,f⟩
theorem Mm{n:Nat}{p:Pw}(n1:1<=n)(n4:n<=4)(h:p∈fl n):(((LR n (IV p)=true/\(IV p).sum=p.sum)/\Nw n ((IV p).map Int.toNat)=p)/\Pu p<=1000)/\Iu (IV p)=true:=by
 have:=AR.mp (Qv n (Jp n1 n4)).2.2 p h
 unfold Vp at this
 rw[AI,AI,AI,AI,AQ,AQ,AQ]at this
 exact this
theorem Yw{n k:Nat}(n1:1<=n)(n4:n<=4)(hk:k<=n):Top (Ih n k) (OF n k) 1/\Ht n (Ih n k)/\(OF n k).length=n:=by
 have:=fJ n (Jp n1 n4) k (Al.mpr (by lia))
 unfold uF at this
 rw[AI,AI,AI,AQ,AQ,AR,AR]at this
 obtain⟨⟨⟨a,b⟩,c⟩,d⟩:=this
 refine⟨⟨a,λt ht=>?_⟩,λj hj=>Ay (c j (Al.mpr (by lia))),d⟩
 have:=b t ht
 rw[DT,AQ]at this
 exact this
theorem dL{n:Nat}(n1:1<=n)(n4:n<=4):∀ks:List Nat,ks.sum<=8->(∀k∈ks,1<=k/\k<=n)->Top (Ip (Ih n) n ks) (Nw n ks) 1/\Ht n (Ip (Ih n) n ks)/\(Nw n ks).length=n:=by
 refine LU (λ_ _=>⟨⟨?_,λt ht=>.inl ?_⟩,λk hk=>?_,A8⟩) λks k ih hs hk=>?_
 ·show cf [(List.replicate n 0,1)] (List.replicate n 0)=1
  simp [cf]
 ·rw[AS.mp ht];rfl
 ·have e:KZ [(List.replicate n (0:Int),(1:Int))] k=[(List.replicate n 0,1)]:=by
   show [(swp (List.replicate n (0:Int)) k,(1:Int))]=_
   have:swp (List.replicate n (0:Int)) k=List.replicate n 0:=by
    have:n=1∨n=2∨n=3∨n=4:=by lia
    rcases this with rfl|rfl|rfl|rfl
    ·lia
    ·obtain rfl:k=0:=by lia
     rfl
    ·have:k=0∨k=1:=by lia
     rcases this with rfl|rfl<;>rfl
    ·have:k=0∨k=1∨k=2:=by lia
     rcases this with rfl|rfl|rfl<;>rfl
   rw[this]
  show norm (KZ [(List.replicate n (0:Int),(1:Int))] k)=norm [(List.replicate n (0:Int),(1:Int))]
  rw[e]
 ·rw[Ch,Ca]at hs
  have hk':=hk k (Aj _ (AS.mpr rfl))
  obtain⟨a,b,c⟩:=ih (by lia) λx hx=>hk x (A0 _ hx)
  obtain⟨d,_,_⟩:=XN n1 n4 (λk k1 k8=>LK n k n1 n4 k1 k8) ks (by lia) λx hx=>(hk x (A0 _ hx)).1
  obtain⟨t,e,l⟩:=Yw n1 n4 hk'.2
  have fk:=LK n k n1 n4 hk'.1 (by lia)
  rw[Lz]
  have es:Nw n (ks++[k])=IQ (Nw n ks) (OF n k):=by
   unfold Nw
   rw[CC]
   rfl
  rw[es]
  have tp:=(Top.prd a t d.len fk.deg.len c l).norm
  rw[Ff]at tp
  exact⟨tp,(mP b e d.len fk.deg.len).norm,XX c l⟩
noncomputable def Lg(n:Nat)(F:Pw->Int)(T:List Go):Int:=(T.map λt=>t.2*sm F (Ip (Ih n) n (t.1.map Int.toNat))).sum
theorem lZ(n:Nat)(F:Pw->Int)(T:List Go)(t:Go):Lg n F (T++[t])=Lg n F T+t.2*sm F (Ip (Ih n) n (t.1.map Int.toNat)):=by
 unfold Lg
 rw[Ar,Ch,Bt,Ca]
structure Lm(n b:Nat)(all:List Go)(ps:List Pw)(T L:List Go):Prop where
 can:HZ L
 even:Ht n L
 deg:Deg n 8 (b+200*T.length) L
 few:L.length<=495
 rows:T.map (·.1)=ps.map IV
 below:∀t∈L,∀p∈ps,Hs t.1 p=true
 nd:ps.Nodup
 mem:∀p∈ps,p∈fl n
 num:∀t∈T,t.2≠0
 bits:∀t∈T,t.2.natAbs<2^(b+200*T.length)
 sum:∀F,sm F all=sm F L+Lg n F T
theorem Wn{n b:Nat}{L:List Go}(c:HZ L)(d:Deg n 8 b L)(n1:1<=n)(n4:n<=4):L.length<=495:=by
 have nd:(L.map (·.1)).Nodup:=by
  rw[List.Nodup,BQ]
  refine c.ord.imp λ{x y} z e=>?_
  rw[e,Ji]at z
  cases z
 have sub:∀p∈L.map (·.1),p∈(List.range 9).flatMap (wv n):=λp hp=>by
  obtain⟨t,ht,rfl⟩:=AN.mp hp
  have s0:=XI (d.nn t ht)
  have s8:=d.sum t ht
  exact A5.mpr ⟨t.1.sum.toNat,Al.mpr (by lia),XA n _ t.1 (d.len t ht) (d.nn t ht) (by lia)⟩
 have:=Br nd sub
 rw[AB]at this
 have:=(Qv n (Jp n1 n4)).2.1
 lia
theorem Lm.start{n b:Nat}{all:List Go}(c:HZ all)(e:Ht n all)(d:Deg n 8 b all)(n1:1<=n)(n4:n<=4):Lm n b all [] [] all :=
 ⟨c,e,d,Wn c d n1 n4,rfl,λ_ _ _ h=>by simp at h,List.nodup_nil,λ_ h=>by simp at h,λ_ h=>by simp at h,λ_ h=>by simp at h,λF=>by simp [Lg]⟩
theorem Lm.few'{n b:Nat}{all L T:List Go}{ps:List Pw}(h:Lm n b all ps T L)(n1:1<=n)(n4:n<=4):T.length<=53:=by
 have e:=congrArg List.length h.rows
 rw[AB,AB]at e
 have:=Br h.nd h.mem
 have:=(Qv n (Jp n1 n4)).1
 lia
theorem Lm.lead{n b:Nat}{all L T:List Go}{ps:List Pw}{t:Go}(h:Lm n b all ps T (t::L)):t.1∈fl n:=by
 have ht:=AG (a:=t) (l:=L)
 refine Q1 (h.deg.len t ht) (h.deg.nn t ht) (h.deg.sum t ht) (Ob λk hk=>vX h.can h.even h.deg.len ?_)
 rw[h.deg.len t ht]at hk
 exact hk
noncomputable def KD(n:Nat)(p:Pw):List Go:=Ip (Ih n) n ((IV p).map Int.toNat)
theorem mQ{n:Nat}{p:Pw}(n1:1<=n)(n4:n<=4)(h:p∈fl n):((IV p).map Int.toNat).sum<=8/\∀k∈(IV p).map Int.toNat,1<=k/\k<=n:=by
 obtain⟨⟨⟨⟨r,_⟩,_⟩,_⟩,hB⟩:=Mm n1 n4 h
 refine⟨(ZH hB).1,λk hk=>?_⟩
 obtain⟨x,hx,rfl⟩:=AN.mp hk
 unfold LR at r
 rw[AI,AI,AR]at r
 have:=r.1.1 x hx
 rw[AI,AQ,AQ]at this
 lia
theorem QK{n:Nat}{p:Pw}(n1:1<=n)(n4:n<=4)(h:p∈fl n):Top (KD n p) p 1/\Ht n (KD n p)/\Deg n 8 153 (KD n p)/\(KD n p).length<=165:=by
 obtain⟨s8,hk⟩:=mQ n1 n4 h
 obtain⟨a,b,_⟩:=dL n1 n4 _ s8 hk
 obtain⟨d,_,l⟩:=XN n1 n4 (λk k1 k8=>LK n k n1 n4 k1 k8) _ s8 λx hx=>(hk x hx).1
 obtain⟨⟨⟨_,e⟩,_⟩,hB⟩:=Mm n1 n4 h
 rw[e]at a
 have:=(MX (IV p) (Lv hB).1).2
 have:=(Lv hB).2
 exact⟨a,b,d.mono s8 (by rw[AB];lia),l⟩
theorem Deg.scl{n d b c:Nat}{x:Int}{ts:List Go}(h:Deg n d b ts)(hx:x.natAbs<2^c):Deg n d (c+b) (scl x ts):=by
 refine⟨λt ht=>?_,λt ht=>?_,λt ht=>?_,λt ht=>?_⟩
 all_goals
  obtain⟨u,hu,rfl⟩:=AN.mp ht
 ·exact h.len u hu
 ·exact h.nn u hu
 ·exact h.sum u hu
 ·exact Xc hx (h.num u hu)
theorem Lm.step{n b:Nat}{all L T:List Go}{ps:List Pw}{t:Go}(h:Lm n b all ps T (t::L))(n1:1<=n)(n4:n<=4):Lm n b all (ps++[t.1]) (T++[(IV t.1,t.2)]) (norm ((t::L)++ngt (scl t.2 (KD n t.1)))):=by
 have ht:=AG (a:=t) (l:=L)
 have hl:=h.lead
 obtain⟨tp,ev,dg,ln⟩:=QK n1 n4 hl
 have d1:=(L2.Pl.Deg.ngt (Deg.scl dg (h.deg.num t ht)))
 have d2:=Deg.app (h.deg.mono (AH 8) (Cn _ 153)) d1
 have lz:((t::L)++ngt (scl t.2 (KD n t.1))).length<2^10:=by
  rw[AJ,P4,OT]
  have:=h.few
  have:(2:Nat)^10=1024:=by decide
  lia
 have d3:=Deg.norm d2 lz
 have d4:Deg n 8 (b+200*(T++[(IV t.1,t.2)]).length) (norm ((t::L)++ngt (scl t.2 (KD n t.1)))):=d3.mono (AH 8) (by rw[AJ,BC];lia)
 have sb:=lM (Tp h.can) tp
 refine⟨JV _,mK h.even ev,d4,Wn (JV _) d4 n1 n4,?_,λu hu p hp=>?_,?_,λp hp=>?_,λu hu=>?_,λu hu=>?_,λF=>?_⟩
 ·rw[Ar,Ar,h.rows];rfl
 ·have u1:=sb u hu
  rcases Ao.mp hp with hp|hp
  ·exact Lu u1 (h.below t ht p hp)
  ·rw[AS.mp hp];exact u1
 ·rw[Et]
  refine⟨h.nd,by simp,λa ha b hb e=>?_⟩
  rw[AS.mp hb]at e
  have:=h.below t ht a ha
  rw[e,Ji]at this
  cases this
 ·rcases Ao.mp hp with hp|hp
  ·exact h.mem p hp
  ·rw[AS.mp hp];exact hl
 ·rcases Ao.mp hu with hu|hu
  ·exact h.num u hu
  ·rw[AS.mp hu];exact h.can.num t ht
 ·have lt:b+200*T.length<=b+200*(T++[(IV t.1,t.2)]).length:=by rw[AJ,BC];lia
  rcases Ao.mp hu with hu|hu
  ·exact JS (h.bits u hu) lt
  ·rw[AS.mp hu];exact JS (h.deg.num t ht) lt
 ·rw[h.sum F,lZ,Je,Kj,NV,Jk]
  show _=_+(_+t.2*sm F (KD n t.1))
  lia
end
end L2.K91
namespace L2.Ev
open PySem PySem.Spec PyProof.Rows
open L2.Ts L2.Pl L2.Rw
section
variable{X:Cx}
theorem RL:Iq X (binaryOp .FloorDiv) (rI (λ_ j=>0<j/\j<1152921504606846976) λi j=>.int (i / j)):=RZ λi j _ _ _ _ _ hc q=>by
 have h1:(0:Int)<j:=hc.1
 have h2:j<1152921504606846976:=hc.2
 exact floordiv_int (by lia) (by rw[Em i (by lia)];exact q) (.inl (PyProof.noPylong_of_log2 (by
  have:j.natAbs.log2<60:=(Nat.log2_lt (by lia)).mpr (by
   have:(2:Nat)^60=1152921504606846976:=by decide
   lia)
  lia)))
noncomputable def sP(ta:TA):TE:=λσ H Q=>ta σ H λvs H1=>∃i j:Int,vs=[.int i,.int j]/\(-(2^62)<=i/\i<2^62/\-(2^62)<=j/\j<2^62)/\(j-i).toNat<=1000/\∀l,H1 l=none->Q (.ref l) (HV H1 l (.lst ((List.range (j-i).toNat).map λ(k:Nat)=>V.int (i+k))))
theorem Yx{i:Int}{n:Nat}{acc:yF}(h:ItemsOf (λk v=>∃t,v=.int (i+k*1) t) acc n):HS ((List.range n).map λ(k:Nat)=>V.int (i+k)) acc.toList:=by
 have key:∀m,m<=n->HS ((List.range m).map λ(k:Nat)=>V.int (i+k)) (acc.toList.take m):=by
  intro m
  induction m with
  |zero=>intro _;exact .nil
  |succ m ih =>
   intro hm
   have lm:m<acc.size:=by rw[h.1];lia
   rw[CH,Ar,JW (x:=acc[m]) (by rw[BE,AO lm])]
   obtain⟨t,e⟩:=h.2 m acc[m] (AO lm)
   refine(ih (by lia)).append (.cons ⟨t,?_⟩ .nil)
   rw[e,Ff]
 have:=key n (AH _)
 rwa [Ab (by rw[AV,h.1];exact AH _)]at this
theorem gR{a b:Expr}{ta:TA}{p pos p2 pos2:Pos}(hc:X.calm=true)(hg:Gl X "list")(hm:X.mg "list" = none)(hg2:Gl X "range")(hm2:X.mg "range" = none)(ha:PA X [a,b] ta)
  (hs:starEach [a,b] X.env=[(false,eval a X.env),(false,eval b X.env)]:=by rfl) (hs2:starEach [b] X.env=[(false,eval b X.env)]:=by rfl)
  (he:starEach [.Call (.Name "range" p2) [a,b] [] pos2] X.env=(false,eval (.Call (.Name "range" p2) [a,b] [] pos2) X.env)::starEach [] X.env:=by rfl) (hpl:(backTo pos (starEach [] X.env)).any (·.1)=false:=by rfl) (hnil:backTo pos (starEach [] X.env)=[]:=by rfl) :
  PE X (.Call (.Name "list" p) [.Call (.Name "range" p2) [a,b] [] pos2] [] pos) (sP ta):=by
 intro Fq s σ H Q I h
 refine Bv (Ks I hg hm Cv ?_)
 refine BY ?_ he hpl
 rw[he]
 show wpAny _ _ (spliced ((false,eval (.Call (.Name "range" p2) [a,b] [] pos2) X.env)::backTo pos (starEach [] X.env))) _ _ s
 rw[hnil]
 refine Dr (Bv (Ks I hg2 hm2 boot_range (BY (Hk (ha pos2 Fq s σ H _ I h) λus s1 ⟨vs,H1,I1,r1,q1⟩=>?_) (by rw[hs,hs2]) (by rw[hs2];rfl))))
 obtain⟨i,j,e,⟨q1,q2,q3,q4⟩,hz,q⟩:=q1
 subst e
 cases r1 with
 |cons r rr =>
  cases rr with
  |cons r' rr =>
   cases rr
   obtain⟨t,rfl⟩:=r
   obtain⟨t',rfl⟩:=r'
   refine call_range_2 ?_
   refine AK ?_
   have e2:Builtin.Range.rangeSize i j 1=(((j-i).toNat:Nat):Int):=by rw[rangeSize_one];split<;>lia
   refine call_list_range (n:=(j-i).toNat) (I1.ok.hd hc) (IsRange.new ..) (small_one q1 q2 q3 q4) e2 (As hz (by decide)) λh' tk acc c kp hS it=>?_
   have kp':∀b o,s1.heap.get? b=some o->h'.get? b=some o:=λb o e=>kp b o (AC _ e)
   have sz:s1.heap.objs.size<=(s1.heap.push { cls:=.type "range",data:=.fields #[.int i t,.int j t',.int 1 s1.toks] }).objs.size:=by rw[Bo];lia
   have vv:=Yx it
   refine⟨.ref _,_,I1.laid (t':=tk) kp' sz (show Hg X.prog X.w _ h' _ (.lst _) from⟨?_,acc.toList,c,vv,by rw[Array.toArray_toList];exact hS⟩),rfl,q _ (I1.hok.fresh sz)⟩
   rw[AB,Bm]
   exact As hz (by decide)
end
end L2.Ev
namespace L2.K91
open PySem
open L2.Pl L2.Ev
section
variable{P:yL}{w:yM}{K:yG}{mg:Str->yD}{base:Heap}{f g:yJ}{fd gd:yN}
noncomputable abbrev wH:yB:=["one", "other", "rest"]
theorem NB:Gq wH ["one", "other"] (He aU):=IA
noncomputable def PH:Sp:=λvs H Q _=>∃a b:Nat,vs=[.int a,.int b]/\Q (.int ((Nat.gcd a b:Nat):Int)) H
theorem TQ{y:Nat}(h:y≠0):(!decide (V.int (y:Int)=V.int 0))=true:=by
 rw[Aa (λz=>h (by injection z;lia))]
 rfl
theorem dA(F:Hu K "common_divisor" "common_divisor" aU f fd):HC P w K mg base Hn 2 f fd ["one", "other"] PH:=by
 refine Hz F NB λHh A outer s H vs Q E hr h=>?_
 obtain⟨a,b,rfl,q⟩:=h
 refine⟨_,HY (Wb Af (IJ OE (pv 1) Ha (ID _))
   (HY (Hv (i:=2) NB.nd rfl (Or.inl rfl) (Hf Kt (pv 0) (pv 1)))
   (HY (Hv (i:=0) NB.nd rfl (Or.inl rfl) (pv 1))
   (HX (Hv (i:=1) NB.nd rfl (Or.inl rfl) (pv 2))))))
  (HX (Hq (pv 0))),?_⟩
 refine⟨λm σ H'=>∃(x y:Nat)(c:Option V),m=y/\σ=[some (.int x),some (.int y),c]/\Nat.gcd x y=Nat.gcd a b/\H'=H,⟨b,a,b,_,rfl,rfl,rfl,rfl⟩,?_⟩
 rintro m σ H1 ⟨x,y,c,rfl,rfl,e,rfl⟩
 refine⟨_,rfl,rfl,_,rfl,?_⟩
 by_cases c0:m=0
 ·subst c0
  refine JD ⟨_,rfl,?_⟩
  rw[Nat.gcd_zero_right]at e
  rw[e]
  exact q
 ·rw[TQ c0]
  refine KC ⟨λσ' H'=>σ'=[some (.int m),some (.int ((x:Int)%(m:Int))),some (.int ((x:Int)%(m:Int)))]/\H'=H1,λσ' H' ⟨e1,e2⟩=>⟨x%m,Nat.mod_lt _ (by lia),m,x%m,_,rfl,e1,?_,e2⟩,?_⟩
  ·rw[<-e,HJ x m,Nat.gcd_rec m x,HJ]
  ·exact⟨_,rfl,_,rfl,_,_,rfl,rfl,(by show(0:Int)<(m:Int);lia),_,rfl,_,rfl,rfl,rfl⟩
noncomputable abbrev xH:yB:=["top", "bottom", "divisor"]
theorem U9:Gq xH ["top", "bottom"] (He X1):=IA
noncomputable def JN(t:Int)(b:Nat):xX:=[t / ((Nat.gcd t.natAbs b:Nat):Int),(b:Int) / ((Nat.gcd t.natAbs b:Nat):Int)]
noncomputable def Oy:Sp:=λvs H Q _=>∃(t:Int)(b:Nat),vs=[.int t,.int b]/\1<=b/\b<1152921504606846976/\∀(p:yJ)(H':Hp),H p=none->Gp H H'->H' p=some (.tup ((JN t b).map V.int))->Q (.ref p) H'
theorem Si(t:Int):(if t<0 then -t else t)=(t.natAbs:Int):=by split<;>lia
theorem ZU(F:Hu K "fraction" "fraction" X1 f fd)(GC:Hc P w K mg base 2 "common_divisor" ["one", "other"] PH)(ma:mg "abs" = none):HC P w K mg base Hn 3 f fd ["top", "bottom"] Oy:=by
 refine Hz F U9 λHh A outer s H vs Q E hr h=>?_
 obtain⟨t,b,rfl,b1,b2,q⟩:=h
 refine⟨_,HY (Hv (i:=2) U9.nd rfl (Or.inl rfl) (Hd GC hr rfl (Gi (Iz R9 rfl ma Gb (Gi (pv 0) Gy)) (Gi (pv 1) Gy))))
  (HX (Hq (IE (Gi (Hf RL (pv 0) (pv 2)) (Gi (Hf RL (pv 1) (pv 2)) Gy))))),?_⟩
 have g0:0<Nat.gcd t.natAbs b:=Ci _ (by lia)
 have g1:Nat.gcd t.natAbs b<=b:=FG _ (by lia)
 refine⟨_,rfl,t,rfl,_,rfl,t.natAbs,b,by rw[Si];rfl,?_⟩
 unfold JN at q
 generalize Nat.gcd t.natAbs b=g at *
 refine⟨_,rfl,_,rfl,_,_,rfl,rfl,⟨by lia,by lia⟩,_,rfl,_,rfl,_,_,rfl,rfl,⟨by lia,by lia⟩,Iv,λp hp=>?_⟩
 exact q p _ hp (HW hp _) HR
noncomputable abbrev xD:yB:=["numbers", "result", "number"]
theorem NA:Gq xD ["numbers"] (He gB):=IA
noncomputable def Ls(ns:xX):Int:=ns.foldl (λr x=>r*x) 1
theorem ZN(ns:xX)(x:Int):Ls (ns++[x])=Ls ns*x:=by
 unfold Ls
 rw[CC]
 rfl
noncomputable def SF:Sp:=λvs H Q _=>∃(a:yJ)(ns:xX),vs=[.ref a]/\H a=some (.lst (ns.map V.int))/\(∀i,(Ls (ns.take i)).natAbs<2^100000)/\(∀x∈ns,x.natAbs<2^100000)/\Q (.int (Ls ns)) H
theorem qK(F:Hu K "multiplied_up" "multiplied_up" gB f fd):HC P w K mg base Hn 2 f fd ["numbers"] SF:=by
 refine Hz F NA λHh A outer s H vs Q E hr h=>?_
 obtain⟨a,ns,rfl,hA,hP,hN,q⟩:=h
 refine⟨_,HY (Hv (i:=1) NA.nd rfl (Or.inl rfl) Ha)
  (HY (Ie Af rfl (Ic (pv 0)) (Hi (i:=2) NA.nd rfl (Or.inl rfl))
   (HX (Hv (i:=1) NA.nd rfl (Or.inl rfl) (Hf Nh (pv 1) (pv 2)))))
  (HX (Hq (pv 1)))),?_⟩
 refine⟨_,rfl,a,rfl,⟨_,HU.of hA⟩,?_⟩
 refine Jr (xs:=ns.map V.int) (λi σ H'=>(∃c,σ=[some (.ref a),some (.int (Ls (ns.take i))),c])/\H'=H) ?_ ?_ ?_ ?_
 ·exact⟨⟨_,rfl⟩,rfl⟩
 ·rintro i σ H1 _ ⟨_,rfl⟩
  exact HU.of hA
 ·rintro i v σ H1 hv ⟨⟨c,rfl⟩,rfl⟩
  obtain⟨x,hx,rfl⟩:∃x,ns[i]?=some x/\V.int x=v:=by
   rw[Ag]at hv
   cases e:ns[i]? with
   |none=>rw[e]at hv;cases hv
   |some y=>rw[e]at hv;exact⟨y,rfl,Aq hv⟩
  refine⟨_,rfl,_,rfl,_,_,rfl,rfl,⟨hP i,hN x (AT hx)⟩,⟨some (.int x),?_⟩,rfl⟩
  rw[JW hx,ZN]
  rfl
 ·rintro σ H1 ⟨⟨c,rfl⟩,rfl⟩
  rw[AB,Ba]
  exact⟨_,rfl,q⟩
end
section
variable{P:yL}{w:yM}{K:yG}{mg:Str->yD}{base:Heap}{f g:yJ}{fd gd:yN}
noncomputable def mI(k:Int)(T:List Go):List Go:=T.map λt=>(t.1,t.2 / k)
noncomputable def IZ(c:Int):Nat->List (List Go)
 |0=>[[([],c)]]
 |k+1=>IZ c k++[mI ((k:Int)+1) (Kg (IZ c k) (IZ c k).length)]
theorem TV(c:Int):∀k,(IZ c k).length=k+1
 |0=>rfl
 |k+1=>by
  show(IZ c k++[mI ((k:Int)+1) (Kg (IZ c k) (IZ c k).length)]).length=_
  rw[AJ,TV c k]
  rfl
noncomputable def Ia:Nat->Int
 |0=>1
 |n+1=>Ia n*((n:Int)+1)
theorem qL:∀n∈[1,2,3,4],∀k∈List.range n,L1 (IZ (Ia n) k)=true:=by decide +kernel
noncomputable abbrev vC:yB:=["many", "scale", "parts", "number"]
noncomputable abbrev tP:yB:=["row", "top", "number"]
theorem SU:tP.Nodup:=by decide +kernel
theorem Pn:Gq vC ["many", "scale"] (He WU):=IA
noncomputable def Vn:Sp:=λvs H Q _=>∃n:Nat,vs=[.int n,.int (Ia n)]/\n∈[1,2,3,4]/\∀(a:yJ)(us:List V)(H':Hp),H a=none->Gp H H'->H' a=some (.lst us)->K3 H' us (IZ (Ia n) n)->Q (.ref a) H'
theorem bY(F:Hu K "elementaries_by_power" "elementaries_by_power" WU f fd)(GA:Hc P w K mg base 4 "alternating" ["lesser"] PN)(mr:mg "range" = none):HC P w K mg base Hn 5 f fd ["many", "scale"] Vn:=by
 refine Hz F Pn λHh A outer s H vs Q E hr h=>?_
 obtain⟨n,rfl,hn,q⟩:=h
 have n4:n<=4:=by
  simp at hn
  lia
 refine⟨_,HY (Hv (i:=2) Pn.nd rfl (Or.inl rfl) (Ik (Gi (Ik (Gi (IE (Gi (IE Gy) (Gi (pv 1) Gy))) Gy)) Gy)))
  (HY (Ie Af rfl (lG rfl mr (Gi Ha (Gi (Hf Kn (pv 0) Ha) Gy))) (Hi (i:=3) Pn.nd rfl (Or.inr rfl))
   (HX (Ir (Kr A6 A9 BA Kv (pv 2) (Gi (JK (N':=tP) (src:=[none,none,some 3]) rfl (Ic (Hd GA hr rfl (Gi (pv 2) Gy))) (JJ (He WU) vC (by decide +kernel))
    (λb=>JM rfl (IH (Hi (i:=0) SU rfl (Or.inl rfl)) (IH (Hi (i:=1) SU rfl (Or.inl rfl)) JQ))) (λb=>Jh)
    (λb=>IE (Gi (pv 0) (Gi (Hf Ml (pv 1) (pv 2)) Gy)))) Gy)))))
  (HX (Hq (pv 2)))),?_⟩
 generalize hc:Ia n=c at *
 refine⟨JP,λt0 h0=>⟨_,rfl,Iv,λt1 h1=>⟨Il,λl2 h2=>⟨Il,λp hp=>?_⟩⟩⟩⟩
 have s0:=HW h0 (.tup [])
 have s1:=HW h1 (.tup [.ref t0,.int c])
 have s2:=HW h2 (.lst [.ref t1])
 have s3:=HW hp (.lst [.ref l2])
 have z:=s0.trans (s1.trans (s2.trans s3))
 have np:l2≠p:=λe=>by rw[<-e,HR]at hp;cases hp
 have fp:H p=none:=s0.free (s1.free (s2.free hp))
 refine⟨_,rfl,_,_,rfl,rfl,1,_,rfl,⟨by lia,by lia,by lia,by lia⟩,?_⟩
 rw[show((n:Int)+1-1).toNat=n by lia]
 refine NU (lo:=1) (n:=n) (λk σ H'=>∃(us:List V)(c3:Option V),σ=[some (.int n),some (.int c),some (.ref p),c3]/\H' p=some (.lst us)/\Paired (λv T=>∃b,v=.ref b/\b≠p/\Gg H' b T) us (IZ c k)/\Gp H H') ?_ ?_ ?_
 ·exact⟨[.ref l2],_,rfl,HR,.cons ⟨l2,rfl,np,⟨[.ref t1],s3 _ _ HR,.cons (Jg (t:=([],c)) (s3 _ _ (s2 _ _ HR)) (s3 _ _ (s2 _ _ (s1 _ _ HR)))) .nil⟩⟩ .nil,z⟩
 ·rintro k σ H1 hk ⟨us,c3,rfl,h1',hT,sH⟩
  have lu:=AM hT
  rw[TV]at lu
  have aB:=qL n hn k (Al.mpr hk)
  rw[hc]at aB
  refine⟨_,rfl,.inl ⟨rfl,_,HU.of h1'⟩,_,rfl,p,us,IZ c k,rfl,h1',Cs (λ_ _ q=>let ⟨b,e,_,hb⟩:=q;⟨b,e,hb⟩) hT,aB,λl H2 hl s4 hL=>?_⟩
  have tb:(Kg (IZ c k) (IZ c k).length).length<=100:=by
   unfold L1 at aB
   rw[AI,AR]at aB
   exact(XB (aB.2 (IZ c k).length (Al.mpr (E1 _)))).1
  have e1:IZ c (k+1)=IZ c k++[mI ((k:Int)+1) (Kg (IZ c k) (IZ c k).length)]:=rfl
  rw[e1]
  generalize Kg (IZ c k) (IZ c k).length=A at hL tb
  obtain⟨ws,eL,iL⟩:=hL
  have lw:=AM iL
  refine⟨l,rfl,⟨_,HU.of eL⟩,λbk D hD=>?_⟩
  refine Km (α:=Go) hD (HU.of eL) (λσ=>∃c1 c2,σ=[c1,c2,some (.int (1+(k:Int)))]) (λi=>(A[i]?).bind λt=>some (t.1,t.2 / ((k:Int)+1))) (small (by lia)) ⟨_,_,rfl⟩ ?_ ?_
  ·rintro i v σ H3 Yes No hv ⟨c1,c2,rfl⟩ s5 yes no
   obtain⟨t,ht,hi⟩:=Io iL hv
   obtain⟨pt,kk,rfl,hpt,hkk⟩:=KF hi
   refine⟨pt,_,rfl,HM.of (s5 _ _ hpt),rfl,_,_,rfl,_,_,rfl,rfl,?_⟩
   refine LS ?_
   refine⟨_,rfl,_,rfl,_,rfl,_,_,rfl,rfl,⟨(by show(0:Int)<1+(k:Int);lia),(by show 1+(k:Int)<1073741824;lia)⟩,Iv,λr hr2=>?_⟩
   have s6:=HW hr2 (.tup [.ref kk,.int (t.2 / (1+(k:Int)))])
   refine yes _ _ _ (t.1,t.2 / ((k:Int)+1)) ⟨_,_,rfl⟩ s6 (by rw[ht];rfl) (Jg (t:=(t.1,t.2 / ((k:Int)+1))) (by rw[HG (k:Int) 1];exact HR) (s6 _ _ (s5 _ _ hkk)))
  intro H3 s5 hD3
  rw[lw,Js,Aw]at hD3
  have h3p:=s5 _ _ (s4 _ _ h1')
  have nD:D≠p:=λe=>by rw[e,s4 _ _ h1']at hD;cases hD
  refine⟨p,us,_,rfl,rfl,h3p,Kw (by lia),us++[.ref D],_,rfl,HR,?_,Lo fp (sH.trans (s4.trans s5)) _⟩
  refine Paired.app (Cs (λv T q=>?_) hT) (.cons ?_ .nil)
  ·obtain⟨b,e,nb,hb⟩:=q
   exact⟨b,e,nb,W5 nb h3p _ (hb.mono (s4.trans s5))⟩
  ·exact⟨D,rfl,nD,W5 nD h3p _ hD3⟩
 ·rintro σ H1 ⟨us,c3,rfl,h1',hT,sH⟩
  exact⟨_,rfl,q p us _ fp sH h1' (Cs (λ_ _ q=>let ⟨b,e,_,hb⟩:=q;⟨b,e,hb⟩) hT)⟩
end
section
variable{P:yL}{w:yM}{K:yG}{mg:Str->yD}{base:Heap}{f g:yJ}{fd gd:yN}
noncomputable def Yp(n:Nat)(s:List Go×List Go):List Go×List Go:=match s.2 with
 |[]=>s
 |t::r=>(s.1++[(IV t.1,t.2)],norm ((t::r)++ngt (scl t.2 (KD n t.1))))
noncomputable def QO(n:Nat):Nat->List Go×List Go->List Go×List Go
 |0,s=>s
 |k+1,s=>QO n k (Yp n s)
theorem vD(n:Nat)(T:List Go):∀k,QO n k (T,[])=(T,[])
 |0=>rfl
 |k+1=>vD n T k
noncomputable def IP(n:Nat)(ts:List Go):List Go:=norm (QO n 53 ([],ts)).1
structure Is(n b:Nat)(all T:List Go):Prop where
 row:∀t∈T,LR n t.1=true/\Iu t.1=true
 can:HZ T
 sum:∀F,sm F all=Lg n F T
 few:T.length<=53
 bits:∀t∈T,t.2.natAbs<2^(b+10600)
 own:∀t∈T,t.1∈(fl n).map IV
theorem nX{n:Nat}{F:Pw->Int}{T T':List Go}(h:T'.Perm T):Lg n F T'=Lg n F T:=by
 unfold Lg
 exact ZO (h.map _)
theorem qP{T l:List Go}(pm:l.Perm T)(so:l.Pairwise λa b=>NW a b=false)(nd:(T.map (·.1)).Nodup)(num:∀t∈T,t.2≠0):l=norm T:=by
 have nd':(l.map (·.1)).Nodup:=(pm.map (·.1)).nodup_iff.mpr nd
 refine QR ⟨?_,λt ht=>num t (pm.mem_iff.mp ht)⟩ λp=>cR pm p
 rw[List.Nodup,BQ]at nd'
 refine(so.and nd').imp λ{a b} z=>?_
 have z1:=z.1
 unfold NW at z1
 rw[AD z.2]at z1
 cases c:Hs b.1 a.1 with
 |true=>rfl
 |false=>exact absurd (MV z1 c) z.2
theorem Yb{n b:Nat}{all T l:List Go}{ps:List Pw}(h:Lm n b all ps T [])(hR:QO n (53-T.length) (T,[])=QO n 53 ([],all))(n1:1<=n)(n4:n<=4)(pm:l.Perm T)(so:l.Pairwise λa b=>NW a b=false):l=IP n all/\Is n b all (IP n all):=by
 have inj:(T.map (·.1)).Nodup:=by
  rw[h.rows,List.Nodup,BQ]
  have nd:=h.nd
  have mm:=h.mem
  refine List.Pairwise.imp_of_mem (λ{a b} ha hb z e=>z ?_) nd
  have e1:=(Mm n1 n4 (mm a ha)).1.1.2
  have e2:=(Mm n1 n4 (mm b hb)).1.1.2
  rw[<-e1,<-e2,e]
 have e:=qP pm so inj h.num
 have eB:IP n all=norm T:=by
  unfold IP
  rw[<-hR,vD]
 rw[eB]
 refine⟨e,λt ht=>?_,JV T,λF=>?_,?_,λt ht=>?_,λt ht=>?_⟩
 ·rw[<-e]at ht
  have hm:=Dn (f:=(·.1)) (pm.mem_iff.mp ht)
  rw[h.rows]at hm
  obtain⟨p,hp,ep⟩:=AN.mp hm
  obtain⟨⟨⟨⟨r1,_⟩,_⟩,_⟩,r2⟩:=Mm n1 n4 (h.mem p hp)
  rw[<-show IV p=t.1 from ep]
  exact⟨r1,r2⟩
 ·rw[h.sum F,<-e,nX pm]
  simp [sm]
 ·rw[<-e,pm.length_eq]
  exact h.few' n1 n4
 ·rw[<-e]at ht
  have:=h.few' n1 n4
  exact JS (h.bits t (pm.mem_iff.mp ht)) (by lia)
 ·rw[<-e]at ht
  have hm:=Dn (f:=(·.1)) (pm.mem_iff.mp ht)
  rw[h.rows]at hm
  obtain⟨p,hp,ep⟩:=AN.mp hm
  rw[<-show IV p=t.1 from ep]
  exact Dn (h.mem p hp)
noncomputable abbrev uI:yB:=["many", "some", "telling", "left", "row", "often"]
noncomputable abbrev vH:yB:=["powers", "number", "often"]
theorem UT:vH.Nodup:=by decide +kernel
theorem LO:Gq uI ["many", "some"] (He XF):=IA
noncomputable def Mt:Sp:=λvs H Q _=>∃(n b:Nat)(a:yJ)(ts:List Go),vs=[.int n,.ref a]/\1<=n/\n<=4/\Gg H a ts/\HZ ts/\Ht n ts/\Deg n 8 b ts/\b<=1000/\∀(l:yJ)(H':Hp),H l=none->Gp H H'->Gg H' l (IP n ts)->Is n b ts (IP n ts)->Q (.ref l) H'
noncomputable def uP(n b:Nat)(a:yJ)(ts:List Go)(H:Hp)(m:Nat)(σ:St)(H':Hp):Prop:=∃(ps:List Pw)(T L:List Go)(lT lL:yJ)(c4 c5:Option V),m=53-T.length/\Lm n b ts ps T L/\QO n (53-T.length) (T,L)=QO n 53 ([],ts)/\σ=[some (.int n),some (.ref a),some (.ref lT),some (.ref lL),c4,c5]/\Gg H' lT T/\Gg H' lL L/\lT≠lL/\H lT=none/\Gp H H'
theorem ZT(F:Hu K "by_elementary" "by_elementary" XF f fd)(GU:Hc P w K mg base 8 "refuse_uneven" ["many", "some"] Lh)(GT:Hc P w K mg base 8 "turned_over" WA Se)(GE:Hc P w K mg base 8 "elementary_product" Qp (NP Ih))(GL:Hc P w K mg base 8 "less" MR (Uq λts us=>ts++ngt us))(ms:mg "sorted" = none):HC P w K mg base Hn 9 f fd ["many", "some"] Mt:=by
 refine Hz F LO λHh A outer s H vs Q E hr h=>?_
 obtain⟨n,b,a,ts,rfl,n1,n4,hA,hC,hE,hD,hb,q⟩:=h
 have hM:=A7 (CP (by decide:Dat.dep Go+1<=64) _) hr.units
 have h8:=Q5 hr
 refine⟨_,HY (Ir (Hd GU hr rfl (Gi (pv 0) (Gi (pv 1) Gy))))
  (HY (Hv (i:=2) LO.nd rfl (Or.inl rfl) (Ik Gy))
  (HY (Hv (i:=3) LO.nd rfl (Or.inl rfl) (pv 1))
  (HY (Wb Af (IJ (Qo (α:=Go) hM) (pv 3) (Ik Gy) (ID _))
   (HY (Hv (i:=4) LO.nd rfl (Or.inl rfl) (Hd GT hr rfl (Gi (IY JU (IY K4 (pv 3) Ha (λ_ _=>rfl)) Ha (λ_ _=>rfl)) Gy)))
   (HY (Hv (i:=5) LO.nd rfl (Or.inr rfl) (IY JU (IY K4 (pv 3) Ha (λ_ _=>rfl)) Ha (λ_ _=>rfl)))
   (HY (Ir (Kr A6 A9 BA Kv (pv 2) (Gi (IE (Gi (pv 4) (Gi (pv 5) Gy))) Gy)))
   (HX (Hv (i:=3) LO.nd rfl (Or.inl rfl) (Hd GL hr rfl (Gi (pv 3) (Gi (JK (N':=vH) (src:=[none,none,some 5]) rfl (Ic (Hd GE hr rfl (Gi (pv 0) (Gi (pv 4) Gy)))) (JJ (He XF) uI (by decide +kernel))
    (λb=>JM rfl (IH (Hi (i:=0) UT rfl (Or.inl rfl)) (IH (Hi (i:=1) UT rfl (Or.inl rfl)) JQ))) (λb=>Jh)
    (λb=>IE (Gi (pv 0) (Gi (Hf Nh (pv 2) (pv 1)) Gy)))) Gy)))))))))
  (HX (Hq (vL (α:=Go) rfl h8 rfl ms (Gi (pv 2) Gy))))))),?_⟩
 have few:=Wn hC hD n1 n4
 refine⟨_,rfl,_,rfl,n,a,ts,rfl,n1,n4,hA,hD.len,by lia,hE,λH1 s1=>?_⟩
 refine⟨JP,λl0 h0=>?_⟩
 have s0:=HW h0 (.lst [])
 have hA1:Gg (HV H1 l0 (.lst [])) a ts:=hA.mono (s1.trans s0)
 have na:l0≠a:=λz=>by
  obtain⟨vs,eA,_⟩:=hA.mono s1
  rw[z,eA]at h0
  cases h0
 refine⟨_,rfl,?_⟩
 refine⟨uP n b a ts H,⟨53,[],[],ts,l0,a,none,none,rfl,Lm.start hC hE hD n1 n4,rfl,rfl,⟨[],HR,.nil⟩,hA1,na,s1.free h0,s1.trans s0⟩,?_⟩
 rintro m σ H3 ⟨ps,T,L,lT,lL,c4,c5,rfl,hB,hR,rfl,hT,hL,nTL,fT,sH⟩
 refine⟨_,rfl,JP,λe0 h3=>?_⟩
 have s3:=HW h3 (.lst [])
 refine⟨lL,e0,L,[],rfl,rfl,hL.mono s3,⟨[],HR,.nil⟩,_,rfl,?_⟩
 have hT3:=hT.mono s3
 have hL3:=hL.mono s3
 have sH3:=sH.trans s3
 generalize HV H3 e0 (.lst [])=G at *
 cases L with
 |nil =>
  rw[M8]
  refine JD ?_
  refine⟨_,rfl,lT,T,rfl,hT3,λ_ _=>trivial,λp vs l' hp pm so it=>?_⟩
  obtain⟨e1,e2⟩:=Yb hB hR n1 n4 pm so
  rw[e1]at it
  exact q p _ (sH3.free hp) (sH3.trans (HW hp _)) ⟨vs,HR,Hr.mono (Z1 hp _) it⟩ e2
 |cons t r =>
  rw[show Jo (Dat.eqb (α:=Go)) (t::r) []=false from rfl]
  refine KC ⟨λσ' H'=>∃m',m'<53-T.length/\uP n b a ts H m' σ' H',λ_ _ z=>z,?_⟩
  have ht:=AG (a:=t) (l:=r)
  have hl:=hB.lead
  obtain⟨⟨⟨⟨_,_⟩,_⟩,mx⟩,rB⟩:=Mm n1 n4 hl
  have bs:=hB.step n1 n4
  have few':=bs.few' n1 n4
  rw[AJ,BC]at few'
  obtain⟨_,_,dgE,lnE⟩:=QK n1 n4 hl
  obtain⟨vsL,eL,iL⟩:=id hL3
  obtain⟨vsT,eT,iT⟩:=hT3
  have lT':=AM iT
  have lL':=AM iL
  obtain⟨u,hu,hi⟩:=Io iL (AL (show 0<vsL.length by rw[lL',Am];lia))
  cases hu
  obtain⟨p0,k0,ev,hp0,hk0⟩:=KF hi
  have at0:J1 vsL (0:Int)=some (.ref p0):=JY (j:=0) (by rw[AL (show 0<vsL.length by rw[lL',Am];lia),ev])
  refine⟨_,rfl,lL,_,_,.ref p0,rfl,rfl,HU.of eL,at0,p0,_,_,.ref k0,rfl,rfl,HM.of hp0,JY (j:=0) rfl,k0,t.1,rfl,hk0,by rw[hB.deg.len t ht];lia,hB.deg.nn t ht,mx,λtr H4 s4 h4=>?_⟩
  refine⟨_,rfl,lL,_,_,.ref p0,rfl,rfl,HU.of (s4 _ _ eL),at0,p0,_,_,.int t.2,rfl,rfl,HM.of (s4 _ _ hp0),JY (j:=1) rfl,?_⟩
  have eT4:=s4 _ _ eT
  refine⟨_,rfl,.inl ⟨rfl,_,HU.of eT4⟩,_,rfl,_,rfl,Iv,λpr h5=>?_⟩
  have s5:=HW h5 (.tup [.ref tr,.int t.2])
  have eT5:=s5 _ _ eT4
  have hP:HV H4 pr (.tup [.ref tr,.int t.2]) pr=some (.tup [.ref tr,.int t.2]):=HR
  have z5:=s4.trans s5
  have h45:=s5 _ _ h4
  refine⟨lT,vsT,_,rfl,rfl,eT5,Kw (by lia),?_⟩
  generalize HV H4 pr (.tup [.ref tr,.int t.2])=G5 at *
  have t5:∀o,Hb G5 (HV G5 lT o):=λo=>Ky eT5 o
  have hT6:Gg (HV G5 lT (.lst (vsT++[.ref pr]))) lT (T++[(IV t.1,t.2)]):=⟨_,HR,Cc (Hr.mono ((Hb.same z5).trans (t5 _)) iT) (Dat.mono (t5 _) (Jg (t:=(IV t.1,t.2)) hP h45))⟩
  have hL6:Gg (HV G5 lT (.lst (vsT++[.ref pr]))) lL (t::r):=⟨vsL,by rw[Hw (λz=>nTL z.symm)];exact z5 _ _ eL,Hr.mono ((Hb.same z5).trans (t5 _)) iL⟩
  have htr:HV G5 lT (.lst (vsT++[.ref pr])) tr=some (.tup ((IV t.1).map V.int)):=t5 _ _ _ h45
  have sH6:Gp H (HV G5 lT (.lst (vsT++[.ref pr]))):=Lo fT (sH3.trans z5) _
  generalize HV G5 lT (.lst (vsT++[.ref pr]))=G6 at *
  refine⟨_,rfl,_,rfl,_,rfl,n,tr,IV t.1,rfl,n1,n4,htr,rB,λlE H7 h7 s7 hE7=>?_⟩
  change Gg H7 lE (KD n t.1) at hE7
  obtain⟨vsE,eE,iE⟩:=hE7
  have lE':=AM iE
  refine⟨lE,rfl,⟨_,HU.of eE⟩,λbk D hD'=>?_⟩
  refine Km (α:=Go) hD' (HU.of eE) (λσ=>∃c d,σ=[c,d,some (.int t.2)]) (λi=>((KD n t.1)[i]?).bind λu=>some (u.1,t.2*u.2)) (small (by lia)) ?_ ?_ ?_
  ·exact⟨_,_,rfl⟩
  ·rintro i x σ H8 Yes No hx ⟨c,d,rfl⟩ s8 yes no
   obtain⟨u,hu,hi⟩:=Io iE hx
   obtain⟨pu,ku,rfl,hpu,hku⟩:=KF hi
   refine⟨pu,_,rfl,HM.of (s8 _ _ hpu),rfl,_,_,rfl,_,_,rfl,rfl,?_⟩
   refine LS ?_
   refine⟨_,rfl,_,rfl,_,rfl,_,_,rfl,rfl,⟨JS (hB.deg.num t ht) (by lia),JS (dgE.num u (AT hu)) (by lia)⟩,Iv,λp9 h9=>?_⟩
   have s9:=HW h9 (.tup [.ref ku,.int (t.2*u.2)])
   exact yes _ _ _ (u.1,t.2*u.2) ⟨_,_,rfl⟩ s9 (by rw[hu];rfl) (Jg (t:=(u.1,t.2*u.2)) HR (s9 _ _ (s8 _ _ hku)))
  rintro H8 s8 hS8
  rw[lE',Js,Aw]at hS8
  change Gg H8 D (scl t.2 (KD n t.1)) at hS8
  have ne:∀{u:Go},u.1.length=n->u.1≠[]:=λ{u} h e=>by
   rw[e]at h
   simp at h
   lia
  refine⟨lL,D,t::r,scl t.2 (KD n t.1),rfl,hL6.mono (s7.trans s8),hS8,λu hu=>ne (hB.deg.len u hu),λu hu=>?_,?_,λl9 H9 h9 s9 hL9=>?_⟩
  ·obtain⟨v,hv,rfl⟩:=AN.mp hu
   exact ne (dgE.len v hv)
  ·have:=hB.few
   rw[OT]
   lia
  have z9:=s7.trans (s8.trans s9)
  have hT9:=hT6.mono z9
  refine⟨53-(T.length+1),by lia,ps++[t.1],T++[(IV t.1,t.2)],_,lT,l9,_,_,?_,bs,?_,rfl,hT9,hL9,λz=>?_,fT,sH6.trans z9⟩
  ·rw[AJ,BC]
  ·rw[<-hR,AJ,BC,show 53-T.length=(53-(T.length+1))+1 by lia]
   rfl
  ·obtain⟨ws,ew,_⟩:=hT6.mono (s7.trans s8)
   rw[z]at ew
   rw[ew]at h9
   cases h9
end
section
variable{P:yL}{w:yM}{K:yG}{mg:Str->yD}{base:Heap}{f g:yJ}{fd gd:yN}
noncomputable abbrev Ln(n k:Nat):List Go:=exch n [((k:Nat):Int)]
noncomputable def Lj(n:Nat)(k:Int):List Go:=if decide (1<=k)&&decide (k<=8) then Ln n k.toNat else []
theorem qN:∀n∈[1,2,3,4],∀k∈[1,2,3,4,5,6,7,8],MD n k (Ln n k)=true:=by decide +kernel
theorem SR(n k:Nat)(n1:1<=n)(n4:n<=4)(k1:1<=k)(k8:k<=8):OJ n k (Ln n k):=by
 have hk:k∈[1,2,3,4,5,6,7,8]:=by
  have:k=1∨k=2∨k=3∨k=4∨k=5∨k=6∨k=7∨k=8:=by lia
  rcases this with rfl|rfl|rfl|rfl|rfl|rfl|rfl|rfl<;>simp
 exact P1 (qN n (Jp n1 n4) k hk)
theorem Xx{n:Nat}{k:Int}(k1:1<=k)(k8:k<=8):Lj n k=Ln n k.toNat:=by
 unfold Lj
 rw[Ac k1,Ac k8]
 rfl
theorem Ph{n:Nat}(n1:1<=n)(n4:n<=4)(k:Int):∀t∈Lj n k,t.1.length=n:=λt ht=>by
 unfold Lj at ht
 split at ht
 ·rename_i c
  rw[AI,AQ,AQ]at c
  exact(SR n k.toNat n1 n4 (by lia) (by lia)).deg.len t ht
 ·simp at ht
theorem fP{n:Nat}(n1:1<=n)(n4:n<=4):∀r:xX,(∀k∈r,1<=k/\k<=8)->Ak (Ja (Lj n) n r) (Ip (Ln n) n (r.map Int.toNat)):=by
 refine LU (λ_=>Ak.refl _) λr k ih h=>?_
 have hk:=h k (Aj _ (AS.mpr rfl))
 have ih:=ih λx hx=>h x (A0 _ hx)
 rw[Ar,Bt,Lz]
 have e:Ak (Ja (Lj n) n [k]) (Ln n k.toNat):=by
  rw[<-Xx hk.1 hk.2]
  exact(M7 _ _).trans (W3 (Ph n1 n4 k))
 exact(XG (Ph n1 n4) r [k]).trans ((ih.prd e).trans (Ak.norm _).symm)
noncomputable def tX(n:Nat)(F:Pw->Int)(T:List Go):Int:=sm (λr=>sm F (Ip (Ln n) n (r.map Int.toNat))) T
theorem Xi{n:Nat}(n1:1<=n)(n4:n<=4)(F:Pw->Int)(T:List Go)(h:∀t∈T,∀k∈t.1,1<=k/\k<=8):sm F (hv (Lj n) n T)=tX n F T:=by
 rw[M3]
 exact Jb λt ht=>fP n1 n4 t.1 (h t ht) F
noncomputable def O8(n k:Nat):List Go:=if k=0 then OM n else Ih n k
theorem aN:∀n∈[1,2,3,4],∀k∈List.range (n+1),norm (hv (Lj n) n ((IZ (Ia n) n).getD k []))=norm (scl (Ia n) (O8 n k)):=by decide +kernel
theorem jG:∀n∈[1,2,3,4],(IZ (Ia n) n).all QD=true:=by decide +kernel
noncomputable def MS(n:Nat):List xX:=(fl n).map IV
noncomputable def KM(L:Nat)(r:xX):xX:=r++List.replicate (L-r.length) 0
theorem jW:∀n∈[1,2,3,4],(MS n).all (λr=>(List.range 9).all λL=>decide (L<r.length)||(P3 (IZ (Ia n) n) (KM L r)&&(Ig (IZ (Ia n) n) (KM L r)).all λt=>(MS n).contains t.1))=true:=by decide +kernel
theorem pV{n L:Nat}(n1:1<=n)(n4:n<=4){r:xX}(h:r∈MS n)(hL:L<=8)(hr:r.length<=L):P3 (IZ (Ia n) n) (KM L r)=true/\∀t∈Ig (IZ (Ia n) n) (KM L r),t.1∈MS n:=by
 have:=AR.mp (AR.mp (jW n (Jp n1 n4)) r h) L (Al.mpr (by lia))
 rw[Aa (by lia),Gr,AI,AR]at this
 exact⟨this.1,λt ht=>Cb.mp (this.2 t ht)⟩
noncomputable def K9(n:Nat)(r:xX):List Go:=Ip (O8 n) n (r.map Int.toNat)
theorem Zi{n:Nat}(n1:1<=n)(n4:n<=4):∀r:xX,(∀k∈r,0<=k/\k<=(n:Int))->Ak (hv (Lj n) n (Ig (IZ (Ia n) n) r)) (scl (Ia n^r.length) (K9 n r)):=by
 refine LU (λ_=>?_) λr k ih h=>?_
 ·have e:hv (Lj n) n (Ig (IZ (Ia n) n) [])=scl 1 (OM n)++[]:=rfl
  rw[e,BV]
  show Ak (scl 1 (OM n)) (scl (Ia n^0) (OM n))
  rw[Int.pow_zero]
  exact Ak.refl _
 ·have hk:=h k (Aj _ (AS.mpr rfl))
  have ih:=ih λx hx=>h x (A0 _ hx)
  have e:=Ak.of_norm (aN n (Jp n1 n4) k.toNat (Al.mpr (by lia)))
  have z:K9 n (r++[k])=norm (prd (K9 n r) (O8 n k.toNat)):=by
   unfold K9
   rw[Ar,Bt,Lz]
   rfl
  rw[Zy,z]
  refine(Oj (Ak.norm _)).trans ((Pp (Ph n1 n4) W7 _ _).trans ((ih.prd e).trans ?_))
  rw[AJ,BC,Int.pow_succ]
  exact(OS _ _ _).trans (((Tz _ _ _).scl _).trans ((VZ _ _ _).trans ((Ak.norm _).symm.scl _)))
theorem dE{n:Nat}(n1:1<=n)(n4:n<=4):∀r:xX,(∀k∈r,0<=k/\k<=(n:Int))->∀t∈K9 n r,t.1.length=n:=by
 refine LU (λ_ t ht=>?_) λr k ih h t ht=>?_
 ·have:t∈[(List.replicate n (0:Int),(1:Int))]:=ht
  rw[AS.mp this]
  exact A8
 ·have hk:=h k (Aj _ (AS.mpr rfl))
  have ih:=ih λx hx=>h x (A0 _ hx)
  have z:K9 n (r++[k])=norm (prd (K9 n r) (O8 n k.toNat)):=by
   unfold K9
   rw[Ar,Bt,Lz]
   rfl
  rw[z]at ht
  obtain⟨u,hu,e⟩:=J7 ht
  rw[<-e]
  obtain⟨x,hx,hm⟩:=A5.mp hu
  obtain⟨y,hy,rfl⟩:=AN.mp hm
  refine XX (ih x hx) ?_
  unfold O8 at hy
  split at hy
  ·rw[AS.mp hy]
   exact A8
  ·exact(LK n k.toNat n1 n4 (by lia) (by lia)).deg.len y hy
theorem UQ{n:Nat}(n1:1<=n)(n4:n<=4){r:xX}(h:∀k∈r,1<=k/\k<=(n:Int)):∀m,Ak (K9 n (r++List.replicate m 0)) (Ip (Ih n) n (r.map Int.toNat))
 |0=>by
  rw[List.replicate_zero,BV]
  have key:∀r:xX,(∀k∈r,1<=k/\k<=(n:Int))->K9 n r=Ip (Ih n) n (r.map Int.toNat):=by
   refine LU (λ_=>rfl) λr k ih h=>?_
   have hk:=h k (Aj _ (AS.mpr rfl))
   have ih:=ih λx hx=>h x (A0 _ hx)
   unfold K9 at ih ⊢
   rw[Ar,Bt,Lz,Lz,ih]
   have:O8 n k.toNat=Ih n k.toNat:=by
    unfold O8
    rw[AD (by lia)]
   unfold Pj
   rw[this]
  rw[key r h]
  exact Ak.refl _
 |m+1=>by
  have ih:=UQ n1 n4 h m
  have z:K9 n (r++List.replicate (m+1) 0)=norm (prd (K9 n (r++List.replicate m 0)) (OM n)):=by
   unfold K9
   rw[List.replicate_succ',<-An,Ar,Bt,Lz]
   rfl
  rw[z]
  refine(Ak.norm _).trans ((M7 _ _).trans ((W3 ?_).trans ih))
  exact dE n1 n4 _ λk hk=>by
   rcases Ao.mp hk with hk|hk
   ·have:=h k hk
    lia
   ·rw[Dz hk]
    lia
noncomputable def Jc(T:List Go):Nat:=T.foldl (λm t=>max m t.1.length) 0
theorem QQ(T:List Go):∀t∈T,t.1.length<=Jc T:=by
 have key:∀(T:List Go)(a:Nat),a<=T.foldl (λm t=>max m t.1.length) a/\∀t∈T,t.1.length<=T.foldl (λm t=>max m t.1.length) a:=by
  intro T
  induction T with
  |nil=>intro a;exact⟨AH _,λt ht=>by simp at ht⟩
  |cons u T ih =>
   intro a
   obtain⟨h1,h2⟩:=ih (max a u.1.length)
   rw[B5]
   refine⟨by lia,λt ht=>?_⟩
   rcases AY.mp ht with rfl|ht
   ·lia
   ·exact h2 t ht
 exact(key T 0).2
noncomputable def MU(L:Nat)(T:List Go):List Go:=T.map λt=>(KM L t.1,t.2)
noncomputable def Ko(n L:Nat)(T:List Go):List Go:=norm ((MU L T).flatMap (LH (IZ (Ia n) n)))
structure TL(n b L:Nat)(all U:List Go):Prop where
 row:∀t∈U,LR n t.1=true/\Iu t.1=true
 can:HZ U
 sum:∀F,tX n F U=Ia n^L*sm F all
 few:U.length<=53
 bits:∀t∈U,t.2.natAbs<2^(b+10700)
theorem TD(f:Pw->Int)(Ps:List (List Go)):∀T:List Go,sm f (T.flatMap (LH Ps))=sm (λr=>sm f (Ig Ps r)) T
 |[]=>rfl
 |t::T=>by
  rw[BD,Kj,TD f Ps T]
  show sm f (scl t.2 (Ig Ps t.1))+_=t.2*sm f (Ig Ps t.1)+_
  rw[Jk]
theorem Wy(F:Pw->Int)(v:xX->Pw):∀T:List Go,sm F (T.map λt=>(v t.1,t.2))=sm (λr=>F (v r)) T
 |[]=>rfl
 |t::T=>by
  rw[Ai]
  show t.2*F (v t.1)+sm F (T.map λt=>(v t.1,t.2))=t.2*F (v t.1)+sm (λr=>F (v r)) T
  rw[Wy F v T]
theorem Qh(n:Nat)(F:Pw->Int):∀T:List Go,Lg n F T=sm (λr=>sm F (Ip (Ih n) n (r.map Int.toNat))) T
 |[]=>rfl
 |t::T=>by
  have:=Qh n F T
  unfold Lg at this ⊢
  rw[Ai,BF,this]
  rfl
theorem R0{b k:Nat}{ts:List Go}(h:∀t∈ts,t.2.natAbs<2^b)(hk:ts.length<2^k):∀t∈norm ts,t.2.natAbs<2^(b+k):=λt ht=>by
 have e:=Ql (JV ts) ht
 rw[J6]at e
 rw[<-e]
 refine A7 (Tt t.1 h) ?_
 rw[EB,C0]
 exact De hk (HQ (by decide))
theorem UE{n:Nat}(n1:1<=n)(n4:n<=4){r:xX}(h:r∈MS n):LR n r=true/\Iu r=true:=by
 obtain⟨p,hp,rfl⟩:=AN.mp h
 obtain⟨⟨⟨⟨r1,_⟩,_⟩,_⟩,r2⟩:=Mm n1 n4 hp
 exact⟨r1,r2⟩
theorem eG{n:Nat}{r:xX}(h:LR n r=true):r.length<=8/\∀k∈r,1<=k/\k<=(n:Int):=by
 unfold LR at h
 rw[AI,AI,AR,AQ]at h
 refine⟨h.2,λk hk=>?_⟩
 have:=h.1.1 k hk
 rw[AI,AQ,AQ]at this
 exact this
theorem UJ{n b:Nat}{all T:List Go}(n1:1<=n)(n4:n<=4)(h:Is n b all T){L:Nat}(hL:L<=8)(hl:∀t∈T,t.1.length<=L):TL n b L all (Ko n L T):=by
 have own:∀t∈Ko n L T,t.1∈MS n:=λt ht=>by
  obtain⟨u,hu,e⟩:=J7 ht
  obtain⟨x,hx,hux⟩:=A5.mp hu
  obtain⟨y,hy,rfl⟩:=AN.mp hux
  obtain⟨z,hz,rfl⟩:=AN.mp hx
  rw[<-e]
  exact(pV n1 n4 (h.own z hz) hL (hl z hz)).2 y hy
 have row:∀t∈Ko n L T,LR n t.1=true/\Iu t.1=true:=λt ht=>UE n1 n4 (own t ht)
 have fw:∀t∈MU L T,(Ig (IZ (Ia n) n) t.1).length<=50/\∀u∈Ig (IZ (Ia n) n) t.1,u.2.natAbs<2^64:=λt ht=>by
  obtain⟨z,hz,rfl⟩:=AN.mp ht
  have pb:=W0 (pV n1 n4 (h.own z hz) hL (hl z hz)).1
  have f1:=pb.few (KM L z.1).length (AH _)
  have f2:=pb.all (KM L z.1).length (AH _)
  rw[Ab (AH _)]at f1 f2
  exact⟨f1,λu hu=>(f2 u hu).2⟩
 refine⟨row,JV _,λF=>?_,?_,?_⟩
 ·have k8:∀t∈Ko n L T,∀k∈t.1,1<=k/\k<=8:=λt ht k hk=>by
   have:=(eG (row t ht).1).2 k hk
   lia
  rw[<-Xi n1 n4 F _ k8,M3,h.sum F,Qh]
  unfold Ko
  rw[Je,TD]
  unfold MU
  rw[Wy,<-cC]
  refine Jb λt ht=>?_
  have rk:=eG (h.row t ht).1
  have w:=Zi n1 n4 (KM L t.1) λk hk=>by
   rcases Ao.mp hk with hk|hk
   ·have:=rk.2 k hk
    lia
   ·rw[Dz hk]
    lia
  have e1:sm (λr=>sm F (Ja (Lj n) n r)) (Ig (IZ (Ia n) n) (KM L t.1))=sm F (hv (Lj n) n (Ig (IZ (Ia n) n) (KM L t.1))):=(M3 _ _ _ _).symm
  show sm (λr=>sm F (Ja (Lj n) n r)) (Ig (IZ (Ia n) n) (KM L t.1))=_
  rw[e1,w F,Jk]
  have el:(KM L t.1).length=L:=by
   unfold KM
   rw[AJ,A8]
   have:=hl t ht
   lia
  rw[el]
  congr 1
  exact UQ n1 n4 rk.2 _ F
 ·have c:=JV ((MU L T).flatMap (LH (IZ (Ia n) n)))
  have nd:((Ko n L T).map (·.1)).Nodup:=by
   rw[List.Nodup,BQ]
   refine c.ord.imp λ{x y} z e=>?_
   rw[e,Ji]at z
   cases z
  have:=Br nd (λp hp=>by
   obtain⟨t,ht,rfl⟩:=AN.mp hp
   exact own t ht)
  unfold MS at this
  rw[AB,AB]at this
  have:=(Qv n (Jp n1 n4)).1
  lia
 ·have fl:=S9 (IZ (Ia n) n) (MU L T) λt ht=>(fw t ht).1
  have f53:=h.few
  have lp:(MU L T).length=T.length:=AB _
  have:=R0 (b:=b+10600+64) (k:=12) (ts:=(MU L T).flatMap (LH (IZ (Ia n) n))) (λt ht=>?_) (by
   have:(2:Nat)^12=4096:=by decide
   lia)
  ·exact λt ht=>JS (this t ht) (by lia)
  ·obtain⟨x,hx,hux⟩:=A5.mp ht
   obtain⟨y,hy,rfl⟩:=AN.mp hux
   obtain⟨z,hz,e⟩:=AN.mp hx
   have:=h.bits z hz
   refine Xc ?_ ((fw x hx).2 y hy)
   rw[<-e]
   exact this
end
section
variable{P:yL}{w:yM}{K:yG}{mg:Str->yD}{base:Heap}{f g:yJ}{fd gd:yN}
noncomputable abbrev ND(n k:Nat):List Go:=MY n k
noncomputable def Lw(n:Nat)(k:Int):List Go:=if decide (1<=k)&&decide (k<=8) then ND n k.toNat else []
theorem Y0:∀n∈[1,2,3,4],∀k∈[1,2,3,4,5,6,7,8],MD n k (ND n k)=true:=by decide +kernel
theorem Su(n k:Nat)(n1:1<=n)(n4:n<=4)(k1:1<=k)(k8:k<=8):OJ n k (ND n k):=by
 have hk:k∈[1,2,3,4,5,6,7,8]:=by
  have:k=1∨k=2∨k=3∨k=4∨k=5∨k=6∨k=7∨k=8:=by lia
  rcases this with rfl|rfl|rfl|rfl|rfl|rfl|rfl|rfl<;>simp
 exact P1 (Y0 n (Jp n1 n4) k hk)
theorem jH{n:Nat}{k:Int}(k1:1<=k)(k8:k<=8):Lw n k=ND n k.toNat:=by
 unfold Lw
 rw[Ac k1,Ac k8]
 rfl
theorem P0{n:Nat}(n1:1<=n)(n4:n<=4)(k:Int):∀t∈Lw n k,t.1.length=n:=λt ht=>by
 unfold Lw at ht
 split at ht
 ·rename_i c
  rw[AI,AQ,AQ]at c
  exact(Su n k.toNat n1 n4 (by lia) (by lia)).deg.len t ht
 ·simp at ht
theorem qF:∀n∈[1,2,3,4],∀k∈List.range (n+1),norm (hv (Lw n) n ((Iy n).getD k []))=norm (Ih n k):=by decide +kernel
theorem tI:∀n∈[1,2,3,4],((fl n).map IV).all (λr=>P3 (Iy n) r&&(Ig (Iy n) r).all λt=>((fl n).map IV).contains t.1)=true:=by decide +kernel
theorem Z5:∀n∈[1,2,3,4],(Iy n).all QD=true:=by decide +kernel
theorem ZM{n:Nat}(n1:1<=n)(n4:n<=4):∀r:xX,(∀k∈r,1<=k/\k<=(n:Int))->Ak (hv (Lw n) n (Ig (Iy n) r)) (Ip (Ih n) n (r.map Int.toNat)):=by
 refine LU (λ_=>?_) λr k ih h=>?_
 ·have e:hv (Lw n) n (Ig (Iy n) [])=scl 1 (OM n)++[]:=rfl
  rw[e,BV]
  exact YO _
 ·have hk:=h k (Aj _ (AS.mpr rfl))
  have ih:=ih λx hx=>h x (A0 _ hx)
  rw[Zy,Ar,Bt,Lz]
  have e:=Ak.of_norm (qF n (Jp n1 n4) k.toNat (Al.mpr (by lia)))
  exact(Oj (Ak.norm _)).trans ((Pp (P0 n1 n4) W7 _ _).trans ((ih.prd e).trans (Ak.norm _).symm))
theorem sO{n:Nat}(n1:1<=n)(n4:n<=4):∀r:xX,(∀k∈r,1<=k/\k<=8)->Ak (Ja (Lw n) n r) (Ip (ND n) n (r.map Int.toNat)):=by
 refine LU (λ_=>Ak.refl _) λr k ih h=>?_
 have hk:=h k (Aj _ (AS.mpr rfl))
 have ih:=ih λx hx=>h x (A0 _ hx)
 rw[Ar,Bt,Lz]
 have e:Ak (Ja (Lw n) n [k]) (ND n k.toNat):=by
  rw[<-jH hk.1 hk.2]
  exact(M7 _ _).trans (W3 (P0 n1 n4 k))
 exact(XG (P0 n1 n4) r [k]).trans ((ih.prd e).trans (Ak.norm _).symm)
noncomputable def Mu(n:Nat)(ts:List Go):List Go:=norm ((IP n ts).flatMap (LH (Iy n)))
structure VX(n b:Nat)(all T:List Go):Prop where
 row:∀t∈T,LR n t.1=true/\Iu t.1=true
 can:HZ T
 sum:∀F,sm F all=(T.map λt=>t.2*sm F (Ip (ND n) n (t.1.map Int.toNat))).sum
 few:T.length<=53
 bits:∀t∈T,t.2.natAbs<2^(b+10700)
theorem TM(h:Int->List Go)(n:Nat)(Ps:List (List Go)):∀T:List Go,Ak (hv h n (T.flatMap (LH Ps))) (T.flatMap λt=>scl t.2 (hv h n (Ig Ps t.1)))
 |[]=>Ak.refl _
 |t::T=>by
  rw[BD,BD,V9]
  exact(dO h n t.2 _).app (TM h n Ps T)
theorem vZ{n:Nat}(n1:1<=n)(n4:n<=4)(F:Pw->Int):∀T:List Go,(∀t∈T,LR n t.1=true)->sm F (T.flatMap λt=>scl t.2 (hv (Lw n) n (Ig (Iy n) t.1)))=Lg n F T
 |[],_=>rfl
 |t::T,h=>by
  have ih:=vZ n1 n4 F T λu hu=>h u (AE _ hu)
  have ht:=h t (AG ..)
  unfold LR at ht
  rw[AI,AI,AR]at ht
  have hk:∀k∈t.1,1<=k/\k<=(n:Int):=λk hk=>by
   have:=ht.1.1 k hk
   rw[AI,AQ,AQ]at this
   exact this
  rw[BD,Kj,Jk,ZM n1 n4 t.1 hk F,ih]
  rfl
theorem Ve{n:Nat}(n1:1<=n)(n4:n<=4)(F:Pw->Int):∀T:List Go,(∀t∈T,∀k∈t.1,1<=k/\k<=8)->sm F (hv (Lw n) n T)=(T.map λt=>t.2*sm F (Ip (ND n) n (t.1.map Int.toNat))).sum
 |[],_=>rfl
 |t::T,h=>by
  have ih:=Ve n1 n4 F T λu hu=>h u (AE _ hu)
  rw[M3]at ih ⊢
  rw[Ai,BF,<-ih,<-sO n1 n4 t.1 (h t (AG ..)) F]
  rfl
theorem PQ{n:Nat}(n1:1<=n)(n4:n<=4){r:xX}(h:r∈(fl n).map IV):P3 (Iy n) r=true/\∀t∈Ig (Iy n) r,t.1∈(fl n).map IV:=by
 have:=AR.mp (tI n (Jp n1 n4)) r h
 rw[AI,AR]at this
 exact⟨this.1,λt ht=>Cb.mp (this.2 t ht)⟩
theorem Vi{n b:Nat}{all:List Go}(n1:1<=n)(n4:n<=4)(h:Is n b all (IP n all)):VX n b all (Mu n all):=by
 have own:∀t∈Mu n all,t.1∈(fl n).map IV:=λt ht=>by
  obtain⟨u,hu,e⟩:=J7 ht
  obtain⟨x,hx,hux⟩:=A5.mp hu
  obtain⟨y,hy,rfl⟩:=AN.mp hux
  rw[<-e]
  exact(PQ n1 n4 (h.own x hx)).2 y hy
 have row:∀t∈Mu n all,LR n t.1=true/\Iu t.1=true:=λt ht=>by
  obtain⟨p,hp,e⟩:=AN.mp (own t ht)
  obtain⟨⟨⟨⟨r1,_⟩,_⟩,_⟩,r2⟩:=Mm n1 n4 hp
  rw[<-e]
  exact⟨r1,r2⟩
 have fw:∀t∈IP n all,(Ig (Iy n) t.1).length<=50/\∀u∈Ig (Iy n) t.1,u.2.natAbs<2^64:=λt ht=>by
  have pb:=W0 (PQ n1 n4 (h.own t ht)).1
  have f1:=pb.few t.1.length (AH _)
  have f2:=pb.all t.1.length (AH _)
  rw[Ab (AH _)]at f1 f2
  exact⟨f1,λu hu=>(f2 u hu).2⟩
 refine⟨row,JV _,λF=>?_,?_,?_⟩
 ·rw[h.sum F,<-vZ n1 n4 F _ λt ht=>(h.row t ht).1,<-TM (Lw n) n (Iy n) (IP n all) F,<-Ve n1 n4 F _ λt ht k hk=>?_]
  ·exact(Oj (Ak.norm _) F).symm
  ·have hB:=(row t ht).2
   exact⟨(Lv hB).1 k hk,HH (UL (Lv hB).1 k hk) (Lv hB).2⟩
 ·have c:=JV ((IP n all).flatMap (LH (Iy n)))
  have nd:((Mu n all).map (·.1)).Nodup:=by
   rw[List.Nodup,BQ]
   refine c.ord.imp λ{x y} z e=>?_
   rw[e,Ji]at z
   cases z
  have:=Br nd (λp hp=>by
   obtain⟨t,ht,rfl⟩:=AN.mp hp
   exact own t ht)
  rw[AB,AB]at this
  have:=(Qv n (Jp n1 n4)).1
  lia
 ·have fl:=S9 (Iy n) (IP n all) λt ht=>(fw t ht).1
  have f53:=h.few
  have:=R0 (b:=b+10600+64) (k:=12) (ts:=(IP n all).flatMap (LH (Iy n))) (λt ht=>?_) (by
   have:(2:Nat)^12=4096:=by decide
   lia)
  ·exact λt ht=>JS (this t ht) (by lia)
  ·obtain⟨x,hx,hux⟩:=A5.mp ht
   obtain⟨y,hy,rfl⟩:=AN.mp hux
   exact Xc (h.bits x hx) ((fw x hx).2 y hy)
end
section
variable{P:yL}{w:yM}{K:yG}{mg:Str->yD}{base:Heap}{f g:yJ}{fd gd:yN}
noncomputable abbrev Ru:yB:=["many", "row"]
noncomputable abbrev uE:yB:=["number", "many"]
theorem YM:uE.Nodup:=by decide +kernel
theorem Ye:Gq Ru Ru (He Xf):=IA
theorem jI(F:Hu K "power_sum" "power_sum" Xf f fd)(GR:Hc P w K mg base 6 "refuse_bad_row" MG OY)(GC:Hc P w K mg base 6 "refuse_bad_count" ["many"] Nz)(GE:Hc P w K mg base 6 "exchange_sum" OB MP)(GP:Hc P w K mg base 6 "product" ["many", "factors"] NZ):HC P w K mg base Hn 7 f fd Ru (NP Ln):=by
 refine Hz F Ye λHh A outer s H vs Q E hr h=>?_
 obtain⟨n,p,r,rfl,n1,n4,hp,hB,q⟩:=h
 refine⟨_,HY (Ir (Hd GR hr rfl (Gi (pv 1) Gy))) (HY (Ir (Hd GC hr rfl (Gi (pv 0) Gy)))
  (HX (Hq (Hd GP hr rfl (Gi (pv 0) (Gi (JK (N':=uE) (src:=[none,some 0]) rfl (MC (pv 1)) (JJ (He Xf) Ru (by decide +kernel))
   (λb=>Hi (i:=0) YM rfl (Or.inl rfl)) (λb=>Jh) (λb=>Hd GE hr rfl (Gi (pv 1) (Gi (IE (Gi (pv 0) Gy)) Gy)))) Gy)))))),?_⟩
 obtain⟨low,s8⟩:=Lv hB
 obtain⟨e8,l8⟩:=MX r low
 refine⟨_,rfl,p,r,rfl,hp,by lia,hB,λH1 s1=>?_⟩
 refine⟨_,rfl,n,rfl,by lia,by lia,?_⟩
 have hp1:=s1 _ _ hp
 refine⟨_,rfl,_,rfl,p,rfl,⟨_,HM.of hp1⟩,λbk D hD=>?_⟩
 refine qH (xs:=r.map V.int) (λi ys σ H'=>(∃c,σ=[c,some (.int n)])/\(∀b o,H1 b=some o->H' b=some o)/\∃as:yC,ys=as.map V.ref/\Paired (λx k=>Gg H' x (exch n [((k:Nat):Int)])/\x≠D) as ((r.map Int.toNat).take i)) (small (by rw[AB];lia)) ?_ ?_ ?_ ?_
 ·exact⟨⟨_,rfl⟩,HW hD _,[],rfl,.nil⟩
 ·rintro i ys σ H' ⟨_,sm,_⟩
  exact HM.of (sm _ _ hp1)
 ·rintro i v ys σ H2 Yes No hv eD ⟨⟨c,rfl⟩,sm,as,rfl,hP⟩ yes
  obtain⟨x,hx,rfl⟩:∃x,r[i]?=some x/\V.int x=v:=by
   rw[Ag]at hv
   cases e:r[i]? with
   |none=>rw[e]at hv;cases hv
   |some y=>rw[e]at hv;exact⟨y,rfl,Aq hv⟩
  have xm:=AT hx
  have x1:=low x xm
  have x8:=UL low x xm
  refine L5 ?_
  refine⟨_,rfl,_,rfl,Il,λt ht=>?_⟩
  have s2:=HW ht (.tup [.int x])
  refine⟨n,t,[x],rfl,n1,n4,HR,n1,iS x1 (by lia),λa3 H3 h3 s3 hL=>?_⟩
  have s23:=s2.trans s3
  have eD3:=s23 _ _ eD
  have na:a3≠D:=λz=>by
   rw[z]at h3
   rw[s2 _ _ eD]at h3
   cases h3
  have tD:∀o,∀{y:yJ}{f:List Go},y≠D->Gg H3 y f->Gg (HV H3 D o) y f:=λo {y f} hy ⟨ws,ew,iw⟩=>⟨ws,by rw[Hw hy];exact ew,Hr.mono (λq ys' e'=>by rw[Hw (Jw e' eD3 (by intro z;cases z))];exact e') iw⟩
  refine yes _ _ _ eD3 ⟨⟨_,rfl⟩,λb o e=>?_,as++[a3],by rw[Ar];rfl,?_⟩
  ·rw[Hw (Jd e hD)]
   exact s23 _ _ (sm b o e)
  ·have ht':((r.map Int.toNat))[i]?=some x.toNat:=by rw[Ag,hx];rfl
   rw[JW ht']
   refine Cc (Paired.mapP hP λy k hk=>⟨tD _ hk.2 (hk.1.mono s23),hk.2⟩) ⟨tD _ na ?_,na⟩
   rw[DO (by lia)]
   exact hL
 ·rintro ys σ H2 eD ⟨_,sm,as,rfl,hP⟩
  rw[AB,<-AB (f:=Int.toNat),Ba]at hP
  refine⟨λk=>exch n [((k:Nat):Int)],n,D,as,r.map Int.toNat,rfl,n1,n4,λk k1 k8=>SR n k n1 n4 k1 k8,eD,(Paired.mapP hP λy k hk=>hk.1),by lia,by rw[AB];lia,λk hk=>?_,λl H3 hl s3 hL=>?_⟩
  ·obtain⟨x,hx,rfl⟩:=AN.mp hk
   have:=low x hx
   lia
  ·have sA:Gp H1 H2:=sm
   exact q l H3 (s1.free (sA.free hl)) (s1.trans (sA.trans s3)) hL
end
section
variable{P:yL}{w:yM}{K:yG}{mg:Str->yD}{base:Heap}{f g:yJ}{fd gd:yN}
noncomputable def vS(d:yJ)(H H':Hp):Prop:=∀b o,b≠d->H b=some o->H' b=some o
theorem sC{α:Type}[Dat α]{K:yG}{k1:SK}{a:yJ}{xs:List V}{σ0:St}{H1:Hp}{D:yJ}{R:Hp->Prop}{g:TG}{tc:TT}{te:TE}(hD:H1 D=none)(hl:k1.is K H1 a xs)(Sp:St->Prop)(out:Nat->Option α)(hn:xs.length<=sizeLine)(h0:Sp σ0)
  (IU:∀(i:Nat)(x:V)(p:yJ)(σ':St)(H':Hp)(Yes:V->St->Hp->Prop)(No:St->Hp->Prop),xs[i]?=some x->H' p=none->Sp σ'->Gp H1 H'->(∀y σ2 H4 a,Sp σ2->Gp H' H4->out i=some a->Dat.is H4 y a->Yes y σ2 H4)->(∀σ2 H3,Sp σ2->Gp H' H3->out i=none->No σ2 H3) ->
   g (.ref p) σ' (HV H' p (.tup [.int i,x])) λσ2 H2=>tc σ2 H2 λok H3=>if ok=true then te σ2 H3 λy H4=>Yes y σ2 H4 else No σ2 H3)
  (hend:∀H',Gp H1 H'->Gg H' D ((List.range xs.length).filterMap out)->R H') :
  ∃W:Nat->Nat->St->Hp->Prop,(∃m,W 0 m σ0 (HV H1 D (.lst [])))/\∀i m σ' H',W i m σ' H' ->
  ((OC K k1 a).stop i H'/\R H')∨((OC K k1 a).go i H'/\∃N:St->Hp->Prop,(∀σ'' H'',N σ'' H''->∃m',m'<m/\W (i+1) m' σ'' H'') /\
   ∀x H'',(OC K k1 a).yld i H' x H''->g x σ' H'' λσ2 H2=>tc σ2 H2 λok H3=>if ok=true then te σ2 H3 λy H4=>∃ys,H4 D=some (.lst ys)/\ys.length<sizeLine/\N σ2 (HV H4 D (.lst (ys++[y]))) else N σ2 H3):=by
 refine Q3 (Q:=λ_ H=>R H) (n:=xs.length) hD Sp out hn h0 (λH' e=>⟨xs,SK.same e hl,AH _⟩) (λi H' hi e=>⟨xs,xs[i],SK.same e hl,AL hi⟩) (λi σ' H' Yes No hi hS hH hy hn x H'' y=>?_) hend
 obtain⟨p,x,rfl,hp,rfl,hx⟩:=y
 exact IU i x p σ' H' Yes No (hx xs (SK.same hH hl)) hp hS hH hy hn
noncomputable def Mb(n:Nat)(fs:List (List Go)):List Go:=fs.foldl (λacc f=>norm (prd acc f)) [(List.replicate n 0,1)]
theorem kB(n:Nat)(fs:List (List Go))(f:List Go):Mb n (fs++[f])=norm (prd (Mb n fs) f):=by
 unfold Mb
 rw[CC]
 rfl
noncomputable def Sz:Sp:=λvs H Q _=>∃(n:Nat)(a:yJ)(xs:yC)(fs:List (List Go)),vs=[.int n,.ref a]/\1<=n/\n<=4/\H a=some (.lst (xs.map V.ref))/\Paired (λx f=>Gg H x f) xs fs/\(∀i f,fs[i]?=some f->Deg n 100 1000 (Mb n (fs.take i))/\Deg n 100 1000 f/\(Mb n (fs.take i)).length*f.length<=40000) /\
 ∀(l:yJ)(H':Hp),H l=none->Gp H H'->Gg H' l (Mb n fs)->Q (.ref l) H'
theorem Yg(F:Hu K "product" "product" WL f fd)(GM:Hc P w K mg base 3 "multiplied" ["one", "other"] NE):HC P w K mg base Hn 4 f fd ["many", "factors"] Sz:=by
 refine Hz F KW λHh A outer s H vs Q E hr h=>?_
 obtain⟨n,a,xs,fs,rfl,n1,n4,ha,hx,hb,q⟩:=h
 refine⟨_,HY (Hv (i:=2) KW.nd rfl (Or.inl rfl) (Ik (Gi (IE (Gi (Hf Md (IE (Gi Ha Gy)) (pv 0)) (Gi Ha Gy))) Gy)))
  (HY (Ie Af rfl (Ic (pv 1)) (Hi (i:=3) KW.nd rfl (Or.inl rfl)) (HX (Hv (i:=2) KW.nd rfl (Or.inl rfl) (Hd GM hr rfl (Gi (pv 2) (Gi (pv 3) Gy))))))
  (HX (Hq (pv 2)))),?_⟩
 have lx:=AM hx
 refine⟨Il,λt0 h0=>?_⟩
 have s0:=HW h0 (.tup [.int 0])
 refine⟨_,rfl,t0,[0],_,rfl,rfl,HR,by simp,by lia,by lia,small (by show 1*_<=100000;lia),λt1 H1 s1 h1=>?_⟩
 rw[RF,BB]at h1
 refine⟨Iv,λt2 h2=>⟨Il,λl0 h3=>?_⟩⟩
 have s2:=HW h2 (.tup [.ref t1,.int 1])
 have s3:=HW h3 (.lst [.ref t2])
 have sA:=s0.trans (s1.trans (s2.trans s3))
 refine⟨_,rfl,a,rfl,⟨_,HU.of (sA _ _ ha)⟩,?_⟩
 refine Jr (xs:=xs.map V.ref) (λi σ H'=>(∃(l:yJ)(c3:Option V),σ=[some (.int n),some (.ref a),some (.ref l),c3]/\Gg H' l (Mb n (fs.take i))/\H l=none)/\Gp H H') ?_ ?_ ?_ ?_
 ·refine⟨⟨l0,_,rfl,⟨[.ref t2],HR,.cons (Jg (t:=(List.replicate n 0,1)) (s3 _ _ HR) (s3 _ _ (s2 _ _ h1))) .nil⟩,s0.free (s1.free (s2.free h3))⟩,sA⟩
 ·rintro i σ H4 _ ⟨_,sH⟩
  exact HU.of (sH _ _ ha)
 ·rintro i v σ H4 hv ⟨⟨l,c3,rfl,hL,fl⟩,sH⟩
  obtain⟨x,hxi,rfl⟩:∃x,xs[i]?=some x/\V.ref x=v:=by
   rw[Ag]at hv
   cases e:xs[i]? with
   |none=>rw[e]at hv;cases hv
   |some y=>rw[e]at hv;exact⟨y,rfl,Aq hv⟩
  obtain⟨k,hk,hLx⟩:=Paired.get hx hxi
  obtain⟨b1,b2,b3⟩:=hb i k hk
  refine⟨_,rfl,_,rfl,l,x,n,_,_,_,_,_,_,rfl,hL,hLx.mono sH,b1,b2,n1,n4,by decide,by decide,b3,λl5 H5 hl5 s5 h5=>?_⟩
  refine⟨⟨l5,_,rfl,?_,sH.free hl5⟩,sH.trans s5⟩
  rw[JW hk,kB]
  exact h5
 ·rintro σ H4 ⟨⟨l,c3,rfl,hL,fl⟩,sH⟩
  rw[AB,Ab (by lia)]at hL
  exact⟨_,rfl,q l H4 fl sH hL⟩
theorem oA:Gq ["powers"] ["powers"] (He ZW):=IA
noncomputable def JB(r:xX):Bool:=Jo (Dat.eqb (α:=Int)) r (JL r)
theorem V2(r:xX):JB r=true↔r=JL r:=QV Dat.eqb_iff _ _
noncomputable def OW:Sp:=λvs H Q _=>∃(p:yJ)(r:xX),vs=[.ref p]/\H p=some (.tup (r.map V.int))/\∀H',Gp H H'->Q (.bl (JB r)) H'
theorem Xg(F:Hu K "falls" "falls" ZW f fd)(mt:mg "tuple" = none)(ms:mg "sorted" = none):HC P w K mg base Hn 2 f fd ["powers"] OW:=by
 refine Hz F oA λHh A outer s H vs Q E hr h=>?_
 obtain⟨p,r,rfl,hp,q⟩:=h
 have hI:=A7 (CP (by decide:Dat.dep Int+1<=64) _) hr.units
 have h8:=Q5 hr
 refine⟨_,HX (Hq (NF (Vd (α:=Int) hI) (pv 0) (MJ OH rfl mt BL (Gi (vB rfl h8 rfl ms (Gi (pv 0) Gy)) Gy)) (ID _))),?_⟩
 refine⟨_,rfl,_,rfl,p,r,rfl,HM.of hp,λp4 m h4 pm so=>?_⟩
 rw[Tx pm so]
 have s4:=HW h4 (.lst ((JL r).map V.int))
 refine⟨p4,_,rfl,.inl ⟨HU.of HR,λt5 h5=>?_⟩⟩
 have s5:=HW h5 (.tup ((JL r).map V.int))
 exact⟨r,JL r,J9 (s5 _ _ (s4 _ _ hp)),J9 HR,q _ (s4.trans s5)⟩
noncomputable abbrev wE:yB:=["power"]
theorem X9:wE.Nodup:=by decide +kernel
theorem jN:Gq ["powers"] ["powers"] (He Wg):=IA
noncomputable def IK(r:xX):xX:=r.filter λx=>decide (0<x)
noncomputable def Oc:Sp:=λvs H Q _=>∃(p:yJ)(r:xX),vs=[.ref p]/\H p=some (.tup (r.map V.int))/\r.length<=1000/\∀(t:yJ)(H':Hp),Gp H H'->H' t=some (.tup ((IK r).map V.int))->Q (.ref t) H'
theorem YN(F:Hu K "row_of" "row_of" Wg f fd)(mt:mg "tuple" = none):HC P w K mg base Hn 2 f fd ["powers"] Oc:=by
 refine Hz F jN λHh A outer s H vs Q E hr h=>?_
 obtain⟨p,r,rfl,hp,hl,q⟩:=h
 refine⟨_,HX (Hq (MJ OH rfl mt BL (Gi (JK (N':=wE) (src:=[none]) rfl (MC (pv 0)) (JJ (He Wg) ["powers"] (by decide +kernel))
   (λb=>Hi (i:=0) X9 rfl (Or.inl rfl)) (λb=>RI (IJ Mg (pv 0) Ha (ID _))) (λb=>pv 0)) Gy))),?_⟩
 refine⟨_,rfl,p,rfl,⟨_,HM.of hp⟩,λbk D hD=>?_⟩
 refine So (α:=Int) hD (HM.of hp) (λσ=>∃c,σ=[c]) (λi=>(r[i]?).bind λx=>if 0<x then some x else none) (small (by rw[AB];lia)) ⟨_,rfl⟩ ?_ ?_
 ·rintro i v σ H2 Yes No hv ⟨c,rfl⟩ s3 yes no
  obtain⟨x,hx,rfl⟩:∃x,r[i]?=some x/\V.int x=v:=by
   rw[Ag]at hv
   cases e:r[i]? with
   |none=>rw[e]at hv;cases hv
   |some y=>rw[e]at hv;exact⟨y,rfl,Aq hv⟩
  refine⟨_,rfl,_,_,rfl,rfl,_,rfl,?_⟩
  by_cases c0:0<x
  ·exact Jf c0 ⟨_,rfl,yes _ _ _ x ⟨_,rfl⟩ (Gp.refl _) (by rw[hx];exact AF c0) rfl⟩
  ·exact JF c0 (no _ _ ⟨_,rfl⟩ (Gp.refl _) (by rw[hx];exact AD c0))
 rintro H1 s1 ⟨ws,eD,iD⟩
 have e0:(List.range (r.map V.int).length).filterMap (λi=>(r[i]?).bind λx=>if 0<x then some x else none)=IK r:=by
  unfold IK
  rw[AB,Js,Wc]
  exact HP _
 rw[N6 iD,e0]at eD
 refine⟨D,_,rfl,.inl ⟨HU.of eD,λt ht=>?_⟩⟩
 exact q t _ (s1.trans (HW ht _)) HR
theorem fS:Gq ["many", "place"] ["many", "place"] (He nM):=IA
noncomputable def Va(n k:Nat):xX:=List.replicate k 0++[1]++List.replicate (n-k-1) 0
noncomputable def TJ:Sp:=λvs H Q _=>∃(n k:Nat),vs=[.int n,.int k]/\k<n/\n<=4/\∀(t:yJ)(H':Hp),Gp H H'->H' t=some (.tup ((Va n k).map V.int))->Q (.ref t) H'
theorem fI(F:Hu K "unknown_alone" "unknown_alone" nM f fd):HC P w K mg base Hn 2 f fd ["many", "place"] TJ:=by
 refine Hz F fS λHh A outer s H vs Q E hr h=>?_
 obtain⟨n,k,rfl,hk,n4,q⟩:=h
 refine⟨_,HX (Hq (Hf La (Hf La (Hf Md (IE (Gi Ha Gy)) (pv 1)) (IE (Gi Ha Gy))) (Hf Md (IE (Gi Ha Gy)) (Hf Kb (Hf Kb (pv 0) (pv 1)) Ha)))),?_⟩
 refine⟨Il,λt0 h0=>?_⟩
 have s0:=HW h0 (.tup [.int 0])
 refine⟨_,rfl,t0,[0],_,rfl,rfl,HR,by simp,by lia,by lia,small (by show 1*_<=100000;lia),λt1 H1 s1 h1=>?_⟩
 rw[RF,BB]at h1
 refine⟨Il,λt2 h2=>?_⟩
 have s2:=HW h2 (.tup [.int 1])
 refine Lq (r:=List.replicate k 0) (r':=[1]) (s2 _ _ h1) HR (small (by rw[A8];show k+1<=100000;lia)) λt3 H3 s3 h3=>?_
 refine⟨Il,λt4 h4=>?_⟩
 have s4:=HW h4 (.tup [.int 0])
 refine⟨_,rfl,_,rfl,_,_,rfl,rfl,_,_,rfl,rfl,t4,[0],_,rfl,rfl,HR,by simp,by lia,by lia,small (by show 1*_<=100000;lia),λt5 H5 s5 h5=>?_⟩
 rw[RF,show((n:Int)-(k:Int)-1).toNat=n-k-1 by lia]at h5
 refine Lq (r:=List.replicate k 0++[1]) (r':=List.replicate (n-k-1) 0) (s5 _ _ (s4 _ _ h3)) h5 (small (by rw[AJ,A8,A8];show k+1+_<=100000;lia)) λt6 H6 s6 h6=>?_
 exact q t6 H6 (s0.trans (s1.trans (s2.trans (s3.trans (s4.trans (s5.trans s6)))))) h6
noncomputable def Rm(n l e:Nat):List Go:=[(Va n e,1),(Va n l,-1)]
noncomputable def Pq(n l:Nat):List (List Go):=(List.range l).map (Rm n l)
noncomputable def QP(n:Nat):List (List Go):=(List.range n).flatMap (Pq n)
noncomputable def K5(n:Nat):List Go:=Mb n (QP n)
noncomputable def Lb(n d b:Nat)(ts:List Go):Bool:=ts.all λt=>decide (t.1.length=n)&&t.1.all (λx=>decide (0<=x))&&decide (t.1.sum<=(d:Int))&&decide (t.2.natAbs<2^b)
theorem WD{n d b:Nat}{ts:List Go}(h:Lb n d b ts=true):Deg n d b ts:=by
 unfold Lb at h
 rw[AR]at h
 have k:∀t∈ts,((t.1.length=n/\∀x∈t.1,0<=x)/\t.1.sum<=(d:Int))/\t.2.natAbs<2^b:=λt ht=>by
  have:=h t ht
  rw[AI,AI,AI,AQ,AQ,AQ,AR]at this
  exact⟨⟨⟨this.1.1.1,λx hx=>Ay (this.1.1.2 x hx)⟩,this.1.2⟩,this.2⟩
 exact⟨λt ht=>(k t ht).1.1.1,λt ht=>(k t ht).1.1.2,λt ht=>(k t ht).1.2,λt ht=>(k t ht).2⟩
theorem WM:∀n∈[1,2,3,4],((List.range (QP n).length).all (λi=>Lb n 6 10 (Mb n ((QP n).take i))&&Lb n 1 1 ((QP n).getD i [])&&decide ((Mb n ((QP n).take i)).length*((QP n).getD i []).length<=100))&&Lb n 6 10 (K5 n)&&decide ((K5 n).length<=24))=true:=by decide +kernel
noncomputable abbrev wG:yB:=["many", "factors", "later", "earlier"]
theorem Na:Gq wG ["many"] (He X8):=IA
noncomputable def Rp:Sp:=λvs H Q _=>∃n:Nat,vs=[.int n]/\n∈[1,2,3,4]/\∀(l:yJ)(H':Hp),H l=none->Gp H H'->Gg H' l (K5 n)->Q (.ref l) H'
theorem Yf(F:Hu K "differences" "differences" X8 f fd)(GU:Hc P w K mg base 4 "unknown_alone" ["many", "place"] TJ)(GP:Hc P w K mg base 4 "product" ["many", "factors"] Sz)(mr:mg "range" = none):HC P w K mg base Hn 5 f fd ["many"] Rp:=by
 refine Hz F Na λHh A outer s H vs Q E hr h=>?_
 obtain⟨n,rfl,hn,q⟩:=h
 have n14:1<=n/\n<=4:=by
  simp at hn
  lia
 obtain⟨n1,n4⟩:=n14
 refine⟨_,HY (Hv (i:=1) Na.nd rfl (Or.inl rfl) (Ik Gy))
  (HY (Ie Af rfl (N9 rfl mr (Gi (pv 0) Gy)) (Hi (i:=2) Na.nd rfl (Or.inl rfl))
   (HX (Ie Af rfl (N9 rfl mr (Gi (pv 2) Gy)) (Hi (i:=3) Na.nd rfl (Or.inl rfl))
    (HX (Ir (Kr A6 A9 BA Kv (pv 1) (Gi (Ik (Gi (IE (Gi (Hd GU hr rfl (Gi (pv 0) (Gi (pv 3) Gy))) (Gi Ha Gy))) (Gi (IE (Gi (Hd GU hr rfl (Gi (pv 0) (Gi (pv 2) Gy))) (Gi (N4 N7 Ha) Gy))) Gy))) Gy)))))))
  (HX (Hq (Hd GP hr rfl (Gi (pv 0) (Gi (pv 1) Gy)))))),?_⟩
 refine⟨JP,λp hp=>?_⟩
 have s0:=HW hp (.lst [])
 refine⟨_,rfl,(n:Int),rfl,by lia,by lia,?_⟩
 rw[BB]
 refine NU (lo:=0) (n:=n) (λi σ H'=>∃(xs:yC)(c2 c3:Option V),σ=[some (.int n),some (.ref p),c2,c3]/\H' p=some (.lst (xs.map V.ref))/\Paired (λx f=>x≠p/\Gg H' x f) xs ((List.range i).flatMap (Pq n))/\xs.length<=4*i/\Gp H H') ?_ ?_ ?_
 ·exact⟨[],_,_,rfl,HR,.nil,by simp,s0⟩
 ·rintro i σ H1 hi ⟨xs,c2,c3,rfl,h1,hP,lx,s1⟩
  rw[DK]
  refine⟨_,rfl,(i:Int),rfl,by lia,by lia,?_⟩
  rw[BB,CH,BM,BX]
  generalize (List.range i).flatMap (Pq n)=pre at hP
  refine NU (lo:=0) (n:=i) (λj σ H'=>∃(xs:yC)(c3:Option V),σ=[some (.int n),some (.ref p),some (.int (i:Int)),c3]/\H' p=some (.lst (xs.map V.ref))/\Paired (λx f=>x≠p/\Gg H' x f) xs (pre++(List.range j).map (Rm n i))/\xs.length<=4*i+j/\Gp H H') ?_ ?_ ?_
  ·exact⟨xs,_,rfl,h1,by rw[List.range_zero,DI,BV];exact hP,by lia,s1⟩
  ·rintro j σ H2 hj ⟨ys,c3',rfl,h2,hQ,ly,s2⟩
   rw[DK]
   refine⟨_,rfl,.inl ⟨rfl,_,HU.of h2⟩,_,rfl,_,rfl,n,j,rfl,by lia,n4,λt3 H3 s3 h3=>?_⟩
   refine⟨Iv,λt4 h4=>?_⟩
   have s4:=HW h4 (.tup [.ref t3,.int 1])
   refine⟨_,rfl,_,rfl,n,i,rfl,hi,n4,λt5 H5 s5 h5=>?_⟩
   refine⟨_,rfl,Iv,λt6 h6=>⟨Iv,λl7 h7=>?_⟩⟩
   have s6:=HW h6 (.tup [.ref t5,.int (-1)])
   have s7:=HW h7 (.lst [.ref t4,.ref t6])
   have z:=s3.trans (s4.trans (s5.trans (s6.trans s7)))
   have h2z:=z _ _ h2
   have n7:l7≠p:=λe=>by
    have:=s6 _ _ (s5 _ _ (s4 _ _ (s3 _ _ h2)))
    rw[e,this]at h7
    cases h7
   have keep:∀{x:yJ}{f:List Go}{G:Hp}{us:List V}(o:HO),x≠p->G p=some (.lst us)->Gg G x f->Gg (HV G p o) x f:=λ{x f G us} o nx hG ⟨ws,ew,iw⟩=>⟨ws,by rw[Hw nx];exact ew,Hr.mono (λq ys' e'=>by rw[Hw (Jw e' hG (by intro z;cases z))];exact e') iw⟩
   refine⟨p,_,_,rfl,rfl,h2z,Kw (by rw[AB];lia),ys++[l7],_,rfl,?_,?_,by rw[AJ,BC];lia,Lo hp (s2.trans z) _⟩
   ·rw[Ar]
    exact HR
   ·rw[CH,Ar,<-An]
    refine Paired.app (Cs (λx f q=>⟨q.1,keep _ q.1 h2z (q.2.mono z)⟩) hQ) (.cons ⟨n7,keep _ n7 h2z ⟨[.ref t4,.ref t6],HR,.cons (Jg (t:=(Va n j,1)) (s7 _ _ (s6 _ _ (s5 _ _ HR))) (s7 _ _ (s6 _ _ (s5 _ _ (s4 _ _ h3))))) (.cons (Jg (t:=(Va n i,-1)) (s7 _ _ HR) (s7 _ _ (s6 _ _ h5))) .nil)⟩⟩ .nil)
  ·rintro σ H2 ⟨ys,c3',rfl,h2,hQ,ly,s2⟩
   exact⟨ys,_,_,rfl,h2,hQ,by lia,s2⟩
 ·rintro σ H1 ⟨xs,c2,c3,rfl,h1,hP,lx,s1⟩
  have dk:=WM n hn
  rw[AI,AI,AR]at dk
  refine⟨_,rfl,_,rfl,n,p,xs,QP n,rfl,n1,n4,h1,Cs (λ_ _ q=>q.2) hP,λi g hg=>?_,λl H2 hl s2 hL=>q l H2 (s1.free hl) (s1.trans s2) hL⟩
  have:=dk.1.1 i (Al.mpr (AZ.mp hg).1)
  rw[AI,AI,AQ,Ad,hg]at this
  exact⟨(WD this.1.1).mono (by decide) (by decide),(WD this.1.2).mono (by decide) (by decide),As this.2 (by decide)⟩
noncomputable def Ix(n:Nat)(p:xX):xX:=(List.range p.length).map λ(i:Nat)=>p.getD i 0-(n:Int)+1+(i:Int)
noncomputable def Ly(n:Nat)(D:List Go):List Go:=(D.filter λt=>JB (Ix n t.1)).map λt=>(IK (Ix n t.1),t.2)
theorem mV(n:Nat)(D:List Go)(t:Go):Ly n (D++[t])=Ly n D++if JB (Ix n t.1)=true then [(IK (Ix n t.1),t.2)] else []:=by
 unfold Ly
 rw[List.filter_append,Ar]
 congr 1
 cases c:JB (Ix n t.1)<;>simp [c]
noncomputable def KR(n:Nat)(ts:List Go):List Go:=Ly n (norm (prd ts (K5 n)))
theorem cV(n:Nat)(p:xX):(List.range (p.map V.int).length).filterMap (λ(i:Nat)=>(p[i]?).bind λx=>some (x-(n:Int)+1+(i:Int)))=Ix n p:=by
 rw[AB]
 unfold Ix
 have key:∀m,m<=p.length->(List.range m).filterMap (λ(i:Nat)=>(p[i]?).bind λx=>some (x-(n:Int)+1+(i:Int)))=(List.range m).map λ(i:Nat)=>p.getD i 0-(n:Int)+1+(i:Int):=by
  intro m
  induction m with
  |zero=>intro _;rfl
  |succ m ih =>
   intro hm
   rw[CH,EN,Ar,ih (by lia)]
   congr 1
   have:p[m]?=some p[m]:=AL (by lia)
   simp [this]
 exact key _ (AH _)
noncomputable abbrev uU:yB:=["many", "some", "telling", "powers", "number", "lowered"]
noncomputable abbrev uR:yB:=["place", "power", "many"]
theorem Rc:uR.Nodup:=by decide +kernel
theorem L4:Gq uU ["many", "some"] (He XR):=IA
noncomputable def T2:Sp:=λvs H Q _=>∃(n b:Nat)(a:yJ)(ts:List Go),vs=[.int n,.ref a]/\1<=n/\n<=4/\Gg H a ts/\Ht n ts/\Deg n 8 b ts/\b<=90000/\ts.length<=1000/\∀(l:yJ)(H':Hp),H l=none->Gp H H'->Gg H' l (KR n ts)->Q (.ref l) H'
theorem rT(F:Hu K "by_fillings" "by_fillings" XR f fd)(GU:Hc P w K mg base 8 "refuse_uneven" ["many", "some"] Lh)(GM:Hc P w K mg base 8 "multiplied" ["one", "other"] NE)(GD:Hc P w K mg base 8 "differences" ["many"] Rp)(GF:Hc P w K mg base 8 "falls" ["powers"] OW)(GR:Hc P w K mg base 8 "row_of" ["powers"] Oc)(mt:mg "tuple" = none)(me:mg "enumerate" = none):HC P w K mg base Hn 9 f fd ["many", "some"] T2:=by
 refine Hz F L4 λHh A outer s H vs Q E hr h=>?_
 obtain⟨n,b,a,ts,rfl,n1,n4,hA,hE,hD,hb,hl,q⟩:=h
 have hn:n∈[1,2,3,4]:=by
  have:n=1∨n=2∨n=3∨n=4:=by lia
  rcases this with rfl|rfl|rfl|rfl<;>simp
 refine⟨_,HY (Ir (Hd GU hr rfl (Gi (pv 0) (Gi (pv 1) Gy))))
  (HY (Hv (i:=2) L4.nd rfl (Or.inl rfl) (Ik Gy))
  (HY (Ie Af rfl (Ic (Hd GM hr rfl (Gi (pv 1) (Gi (Hd GD hr rfl (Gi (pv 0) Gy)) Gy)))) (JM rfl (IH (Hi (i:=3) L4.nd rfl (Or.inl rfl)) (IH (Hi (i:=4) L4.nd rfl (Or.inl rfl)) JQ)))
   (HY (Hv (i:=5) L4.nd rfl (Or.inl rfl) (MJ OH rfl mt BL (Gi (JK (N':=uR) (src:=[none,none,some 0]) rfl (WE .tup rfl me (Gi (pv 3) Gy)) (JJ (He XR) uU (by decide +kernel))
    (λb=>JM rfl (IH (Hi (i:=0) Rc rfl (Or.inl rfl)) (IH (Hi (i:=1) Rc rfl (Or.inl rfl)) JQ))) (λb=>Jh) (λb=>Hf Kn (Hf Kn (Hf Kb (pv 1) (pv 2)) Ha) (pv 0))) Gy)))
   (HX (IW (Ku (Hd GF hr rfl (Gi (pv 5) Gy))) (HX (Ir (Kr A6 A9 BA Kv (pv 2) (Gi (IE (Gi (Hd GR hr rfl (Gi (pv 5) Gy)) (Gi (pv 4) Gy))) Gy)))) IX))))
  (HX (Hq (pv 2))))),?_⟩
 have dk:=WM n hn
 rw[AI,AI,AQ]at dk
 have dD:=WD dk.1.2
 have lD:=dk.2
 refine⟨_,rfl,_,rfl,n,a,ts,rfl,n1,n4,hA,hD.len,by lia,hE,λH1 s1=>?_⟩
 refine⟨JP,λlT hT=>?_⟩
 have s2:=HW hT (.lst [])
 refine⟨_,rfl,_,rfl,n,rfl,hn,λl3 H3 h3 s3 hL3=>?_⟩
 have hm:ts.length*(K5 n).length<=1000*24:=B1 hl lD
 refine⟨a,l3,n,8,6,b,10,ts,K5 n,rfl,hA.mono (s1.trans (s2.trans s3)),hL3,hD,dD,n1,n4,by lia,by decide,by lia,λl4 H4 h4 s4 hL4=>?_⟩
 have Hm:∀t∈norm (prd ts (K5 n)),t.1.length=n:=λt ht=>by
  obtain⟨u,hu,e⟩:=J7 ht
  rw[<-e]
  exact(hD.prd dD).len u hu
 have few:(norm (prd ts (K5 n))).length<=24000:=by
  have:=Pc (prd ts (K5 n))
  rw[Q0]at this
  lia
 unfold KR at q
 generalize norm (prd ts (K5 n))=W at hL4 Hm few q
 obtain⟨vs,eW,iW⟩:=hL4
 have lv:=AM iW
 have sA:=s1.trans (s2.trans (s3.trans s4))
 have fT:H lT=none:=s1.free hT
 have z34:=s3.trans s4
 have n4T:l4≠lT:=λe=>by
  have:=s3 _ _ (HR (H:=H1) (a:=lT) (o:=.lst []))
  rw[e,this]at h4
  cases h4
 refine⟨l4,rfl,⟨_,HU.of eW⟩,?_⟩
 refine Jr (xs:=vs) (λi σ H'=>(∃c3 c4 c5,σ=[some (.int n),some (.ref a),some (.ref lT),c3,c4,c5])/\Gg H' lT (Ly n (W.take i))/\vS lT H4 H'/\Hb H4 H'/\Gp H H') ?_ ?_ ?_ ?_
 ·exact⟨⟨_,_,_,rfl⟩,⟨[],z34 _ _ HR,.nil⟩,λ_ _ _ e=>e,Hb.refl _,sA⟩
 ·rintro i σ H5 _ ⟨_,_,b5,_,_⟩
  exact HU.of (b5 _ _ n4T eW)
 ·rintro i v σ H5 hv ⟨⟨c3,c4,c5,rfl⟩,hL5,b5,t5,s5⟩
  obtain⟨t,ht,hi⟩:=Io iW hv
  obtain⟨p,kk,rfl,hp,hkk⟩:=KF hi
  have li:i<W.length:=(AZ.mp ht).1
  have tl:=Hm t (AT ht)
  have hk5:=t5 _ _ hkk
  obtain⟨us,eU,iU⟩:=id hL5
  have lu:=AM iU
  have lu2:(Ly n (W.take i)).length<=i:=by
   unfold Ly
   rw[AB]
   have:=C8 (λt:Go=>JB (Ix n t.1)) (W.take i)
   rw[Ap]at this
   lia
  refine⟨p,_,rfl,HM.of (t5 _ _ hp),rfl,_,_,rfl,_,_,rfl,rfl,?_⟩
  refine⟨_,rfl,kk,rfl,⟨_,HM.of hk5⟩,λbk D hD'=>?_⟩
  refine sC (α:=Int) (k1:=.tup) (xs:=t.1.map V.int) hD' (HM.of hk5) (λσ=>∃c d,σ=[c,d,some (.int n)]) (λi=>(t.1[i]?).bind λx=>some (x-(n:Int)+1+(i:Int))) (small (by rw[AB];lia)) ?_ ?_ ?_
  ·exact⟨_,_,rfl⟩
  ·rintro i v p2 σ H6 Yes No hv hp2 ⟨c,d,rfl⟩ s6 yes no
   obtain⟨x,hx,rfl⟩:∃x,t.1[i]?=some x/\V.int x=v:=by
    rw[Ag]at hv
    cases e:t.1[i]? with
    |none=>rw[e]at hv;cases hv
    |some y=>rw[e]at hv;exact⟨y,rfl,Aq hv⟩
   refine⟨p2,_,rfl,HM.of HR,rfl,_,_,rfl,_,_,rfl,rfl,?_⟩
   refine LS ?_
   refine⟨_,rfl,_,rfl,_,_,rfl,rfl,_,_,rfl,rfl,_,rfl,_,_,rfl,rfl,?_⟩
   exact yes _ _ _ (x-(n:Int)+1+(i:Int)) ⟨_,_,rfl⟩ (HW hp2 _) (by rw[hx];rfl) rfl
  rintro H6 s6 ⟨ws,eD,iD⟩
  rw[N6 iD,cV]at eD
  refine⟨D,_,rfl,.inl ⟨HU.of eD,λt7 h7=>?_⟩⟩
  have s7:=HW h7 (.tup ((Ix n t.1).map V.int))
  have z67:=s6.trans s7
  refine⟨_,rfl,t7,Ix n t.1,rfl,HR,λH8 s8=>?_⟩
  have z68:=z67.trans s8
  have h78:=s8 _ _ (HR (H:=H6) (a:=t7) (o:=.tup ((Ix n t.1).map V.int)))
  have ll:(Ix n t.1).length<=1000:=by
   unfold Ix
   rw[AB,Bm]
   lia
  rw[JW ht,mV]
  generalize JB (Ix n t.1)=c
  cases c with
  |false =>
   refine⟨_,rfl,JD ⟨⟨_,_,_,rfl⟩,?_,λb o nb e=>z68 _ _ (b5 b o nb e),t5.trans (Hb.same z68),s5.trans z68⟩⟩
   rw[AD (by decide),BV]
   exact hL5.mono z68
  |true =>
   have eU8:=z68 _ _ eU
   refine⟨_,rfl,KC ⟨_,rfl,.inl ⟨rfl,_,HU.of eU8⟩,_,rfl,t7,Ix n t.1,rfl,h78,ll,λt9 H9 s9 h9=>?_⟩⟩
   refine⟨_,rfl,Iv,λt10 h10=>?_⟩
   have s10:=HW h10 (.tup [.ref t9,.int t.2])
   have zz:=z68.trans (s9.trans s10)
   have eU10:=zz _ _ eU
   refine⟨lT,us,_,rfl,rfl,eU10,Kw (by lia),⟨_,_,_,rfl⟩,?_,λb o nb e=>?_,t5.trans ((Hb.same zz).trans (Ky eU10 _)),λb o e=>?_⟩
   ·rw[AF rfl]
    exact⟨us++[.ref t10],HR,Paired.app (Hr.mono ((Hb.same zz).trans (Ky eU10 _)) iU) (.cons (Dat.mono (Ky eU10 _) (Jg (t:=(IK (Ix n t.1),t.2)) HR (s10 _ _ h9))) .nil)⟩
   ·rw[Hw nb]
    exact zz _ _ (b5 b o nb e)
   ·rw[Hw (Jd e fT)]
    exact zz _ _ (s5 b o e)
 ·rintro σ H5 ⟨⟨c3,c4,c5,rfl⟩,hL5,b5,t5,s5⟩
  rw[Ab (by lia)]at hL5
  exact⟨_,rfl,q lT H5 fT s5 hL5⟩
end
section
variable{P:yL}{w:yM}{K:yG}{mg:Str->yD}{base:Heap}{f g:yJ}{fd gd:yN}
noncomputable abbrev uK:yB:=["powers", "number"]
theorem VG:uK.Nodup:=by decide +kernel
theorem Xy:Gq ["many", "some"] ["many", "some"] (He Wd):=IA
noncomputable def LX(t:Go):Option Go:=if JB t.1=true then some (IK t.1,t.2) else none
noncomputable def Kk(ts:List Go):List Go:=ts.filterMap LX
noncomputable def Sd:Sp:=λvs H Q _=>∃(n:Nat)(a:yJ)(ts:List Go),vs=[.int n,.ref a]/\1<=n/\n<=4/\Gg H a ts/\(∀t∈ts,t.1.length=n)/\ts.length<=1000/\Ht n ts/\∀(l:yJ)(H':Hp),H l=none->Gp H H'->Gg H' l (Kk ts)->Q (.ref l) H'
theorem sD(F:Hu K "by_exchange" "by_exchange" Wd f fd)(GR:Hc P w K mg base 7 "refuse_uneven" ["many", "some"] Lh)(GF:Hc P w K mg base 7 "falls" ["powers"] OW)(GW:Hc P w K mg base 7 "row_of" ["powers"] Oc):HC P w K mg base Hn 8 f fd ["many", "some"] Sd:=by
 refine Hz F Xy λHh A outer s H vs Q E hr h=>?_
 obtain⟨n,a,ts,rfl,n1,n4,hL,lens,hl,hE,q⟩:=h
 refine⟨_,HY (Ir (Hd GR hr rfl (Gi (pv 0) (Gi (pv 1) Gy))))
  (HX (Hq (JK (N':=uK) (src:=[none,none]) rfl (Ic (pv 1)) (JJ (He Wd) ["many", "some"] (by decide +kernel))
   (λb=>JM rfl (IH (Hi (i:=0) VG rfl (Or.inl rfl)) (IH (Hi (i:=1) VG rfl (Or.inl rfl)) JQ)))
   (λb=>RI (Ku (Hd GF hr rfl (Gi (pv 0) Gy))))
   (λb=>IE (Gi (Hd GW hr rfl (Gi (pv 0) Gy)) (Gi (pv 1) Gy)))))),?_⟩
 refine⟨_,rfl,_,rfl,n,a,ts,rfl,n1,n4,hL,lens,hl,hE,λH1 s1=>?_⟩
 obtain⟨ws,eB,iB⟩:=hL.mono s1
 have lb:=AM iB
 refine⟨_,rfl,a,rfl,⟨_,HU.of eB⟩,λbk D hD=>?_⟩
 refine Km (α:=Go) hD (HU.of eB) (λσ=>∃c d,σ=[c,d]) (λi=>(ts[i]?).bind LX) (small (by lia)) ⟨_,_,rfl⟩ ?_ ?_
 ·rintro i x σ H2 Yes No hx ⟨c,d,rfl⟩ s3 yes no
  obtain⟨t,ht,hi⟩:=Io iB hx
  obtain⟨p,kk,rfl,hp,hkk⟩:=KF hi
  have lt:=lens t (AT ht)
  refine⟨p,_,rfl,HM.of (s3 _ _ hp),rfl,_,_,rfl,_,_,rfl,rfl,?_⟩
  refine⟨_,rfl,kk,t.1,rfl,s3 _ _ hkk,λH4 s4=>⟨_,rfl,?_⟩⟩
  by_cases cF:JB t.1=true
  ·rw[cF]
   refine KC ⟨_,rfl,kk,t.1,rfl,s4 _ _ (s3 _ _ hkk),by lia,λt5 H5 s5 h5=>⟨_,rfl,Iv,λp6 h6=>?_⟩⟩
   have s6:=HW h6 (.tup [.ref t5,.int t.2])
   exact yes _ _ _ (IK t.1,t.2) ⟨_,_,rfl⟩ (s4.trans (s5.trans s6)) (by rw[ht];exact AF cF) (Jg HR (s6 _ _ h5))
  ·rw[Eu.mpr cF]
   exact JD (no _ _ ⟨_,_,rfl⟩ s4 (by rw[ht];exact AD cF))
 ·rintro H2 s3 h2
  rw[lb,Js]at h2
  exact q D H2 (s1.free hD) (s1.trans s3) h2
end
section
variable{P:yL}{w:yM}{K:yG}{mg:Str->yD}{base:Heap}{f g:yJ}{fd gd:yN}
theorem fN:Gq ["many", "some"] ["many", "some"] (He Xw):=IA
noncomputable def Vg:Sp:=λvs H Q _=>∃(n b:Nat)(a:yJ)(ts:List Go),vs=[.int n,.ref a]/\1<=n/\n<=4/\Gg H a ts/\HZ ts/\Ht n ts/\Deg n 8 b ts/\b<=1000/\∀(l:yJ)(H':Hp),H l=none->Gp H H'->Gg H' l (Mu n ts)->Is n b ts (IP n ts)->VX n b ts (Mu n ts)->Q (.ref l) H'
theorem gW(F:Hu K "by_whole" "by_whole" Xw f fd)(GB:Hc P w K mg base 9 "by_elementary" ["many", "some"] Mt)(GE:Hc P w K mg base 9 "elementaries_by_whole" ["many"] TC)(GP:Hc P w K mg base 9 "put_in" ["telling", "parts"] Ow):HC P w K mg base Hn 10 f fd ["many", "some"] Vg:=by
 refine Hz F fN λHh A outer s H vs Q E hr h=>?_
 obtain⟨n,b,a,ts,rfl,n1,n4,hL,hC,hE,hD,hb,q⟩:=h
 refine⟨_,HX (Hq (Hd GP hr rfl (Gi (Hd GB hr rfl (Gi (pv 0) (Gi (pv 1) Gy))) (Gi (Hd GE hr rfl (Gi (pv 0) Gy)) Gy)))),?_⟩
 refine⟨_,rfl,_,rfl,n,b,a,ts,rfl,n1,n4,hL,hC,hE,hD,hb,λl1 H1 h1 s1 hT tk=>?_⟩
 refine⟨_,rfl,n,rfl,n4,λl2 us H2 h2 s2 e2 hP=>?_⟩
 refine⟨l1,l2,IP n ts,us,Iy n,rfl,hT.mono s2,e2,hP,by have:=tk.few;lia,λt ht=>⟨(PQ n1 n4 (tk.own t ht)).1,tk.can.num t ht,JS (tk.bits t ht) (by lia)⟩,AR.mp (Z5 n (Jp n1 n4)),λl3 H3 h3 s3 hL3=>?_⟩
 exact q l3 H3 (s1.free (s2.free h3)) (s1.trans (s2.trans s3)) hL3 tk (Vi n1 n4 tk)
end
section
variable{P:yL}{w:yM}{K:yG}{mg:Str->yD}{base:Heap}{f g:yJ}{fd gd:yN}
noncomputable abbrev Ho:=xX×xX
theorem oC{T:List Go}{M:Int}(h:(T.map (λt=>(t.1.length:Int))=[]/\M=0)∨(M∈T.map (λt=>(t.1.length:Int))/\∀x∈T.map (λt=>(t.1.length:Int)),x<=M)):M=(Jc T:Int):=by
 have key:∀(T:List Go)(a:Nat),T.foldl (λm t=>max m t.1.length) a=a∨∃t∈T,T.foldl (λm t=>max m t.1.length) a=t.1.length:=by
  intro T
  induction T with
  |nil=>intro a;exact .inl rfl
  |cons u T ih =>
   intro a
   rw[B5]
   rcases ih (max a u.1.length) with e|⟨t,ht,e⟩
   ·rw[e]
    by_cases c:a<=u.1.length
    ·exact .inr ⟨u,AG ..,by lia⟩
    ·exact .inl (by lia)
   ·exact .inr ⟨t,AE _ ht,e⟩
 have ge:=QQ T
 rcases h with⟨h,rfl⟩|⟨h,hM⟩
 ·have:T=[]:=EZ.mp h
  subst this
  rfl
 ·obtain⟨u,hu,e⟩:=AN.mp h
  have g:=ge u hu
  rcases key T 0 with e1|⟨t,ht,e1⟩
  ·have:Jc T=0:=e1
   lia
  ·have:Jc T=t.1.length:=e1
   have:=hM _ (AN.mpr ⟨t,ht,rfl⟩)
   lia
theorem TZ{x:Int}(h:x.natAbs<18446744073709551616):x.natAbs<2^100000:=by
 have e:(2:Nat)^64=18446744073709551616:=by decide
 exact DJ (by rw[e];exact h) (Bq (by decide) (show 64<100000 by decide))
noncomputable def LA(n L:Nat):Nat:=(Ia n^L).toNat
theorem Vz{ns:xX}(h:(List.range (ns.length+1)).all (λi=>decide ((Ls (ns.take i)).natAbs<2^64))=true)(i:Nat):(Ls (ns.take i)).natAbs<2^100000:=by
 have k:∀j,j<=ns.length->(Ls (ns.take j)).natAbs<2^64:=λj hj=>Ay (AR.mp h j (Al.mpr (by lia)))
 refine DJ (m:=2^64) ?_ (Bq (by decide) (by decide))
 by_cases c:i<=ns.length
 ·exact k i c
 ·rw[Ab (by lia),<-Ba (l:=ns)]
  exact k _ (AH _)
noncomputable def Qq(n:Nat):xX:=(List.range n).map λ(k:Nat)=>1+(k:Int)
noncomputable def vN(ns:xX):Bool:=(List.range (ns.length+1)).all λi=>decide ((Ls (ns.take i)).natAbs<2^64)
theorem eN:∀n∈[1,2,3,4],Ls (Qq n)=Ia n/\vN (Qq n)=true/\∀L∈List.range 9,Ls (List.replicate L (Ia n))=Ia n^L/\vN (List.replicate L (Ia n))=true/\1<=Ia n^L/\Ia n^L<1152921504606846976/\1<=Ia n/\Ia n<=24:=by decide +kernel
theorem YT(c:Int)(k:Nat):(List.replicate k [V.int c]).flatten=(List.replicate k c).map V.int:=by
 induction k with
 |zero=>rfl
 |succ k ih=>rw[A1,Bl,ih,A1];rfl
noncomputable def TB(n:Nat)(ts:List Go):List Ho:=(Ko n (Jc (IP n ts)) (IP n ts)).map λt=>(t.1,JN t.2 (LA n (Jc (IP n ts))))
theorem PR{H:Hp}{p k q:yJ}{t:Ho}(h:H p=some (.tup [.ref k,.ref q]))(h1:H k=some (.tup (t.1.map V.int)))(h2:H q=some (.tup (t.2.map V.int))):Dat.is H (.ref p) t:=⟨p,.ref k,.ref q,rfl,h,J9 h1,J9 h2⟩
theorem RG{H:Hp}{v:V}{t:Ho}(h:Dat.is H v t):∃p k q,v=.ref p/\H p=some (.tup [.ref k,.ref q])/\H k=some (.tup (t.1.map V.int))/\H q=some (.tup (t.2.map V.int)):=by
 obtain⟨p,x,y,rfl,h,hx,hy⟩:=h
 obtain⟨k,rfl,hk⟩:=JI hx
 obtain⟨q,rfl,hq⟩:=JI hy
 exact⟨p,k,q,rfl,h,hk,hq⟩
noncomputable abbrev WR:yB:=["many", "some", "telling", "length", "filled_up", "scale", "bottom"]
noncomputable abbrev tK:yB:=["row", "often"]
noncomputable abbrev uL:yB:=["row", "often", "length"]
noncomputable abbrev vU:yB:=["row", "top", "bottom"]
theorem Rs:tK.Nodup:=by decide +kernel
theorem Rx:uL.Nodup:=by decide +kernel
theorem R7:vU.Nodup:=by decide +kernel
theorem Le:Gq WR ["many", "some"] (He Qi):=IA
noncomputable def WB:Sp:=λvs H Q _=>∃(n b:Nat)(a:yJ)(ts:List Go),vs=[.int n,.ref a]/\1<=n/\n<=4/\Gg H a ts/\HZ ts/\Ht n ts/\Deg n 8 b ts/\b<=1000/\∀(l:yJ)(H':Hp),H l=none->Gp H H'->Gg H' l (TB n ts)->Jc (IP n ts)<=8->Is n b ts (IP n ts)->TL n b (Jc (IP n ts)) ts (Ko n (Jc (IP n ts)) (IP n ts))->Q (.ref l) H'
theorem oU(F:Hu K "by_power" "by_power" Qi f fd)(GB:Hc P w K mg base 9 "by_elementary" ["many", "some"] Mt)(GM:Hc P w K mg base 9 "multiplied_up" ["numbers"] SF)(GP:Hc P w K mg base 9 "put_in" ["telling", "parts"] Ow)(GE:Hc P w K mg base 9 "elementaries_by_power" ["many", "scale"] Vn)(GF:Hc P w K mg base 9 "fraction" ["top", "bottom"] Oy)(mx:mg "max" = none)(mn:mg "len" = none)(ml:mg "list" = none)(mr:mg "range" = none):HC P w K mg base Hn 10 f fd ["many", "some"] WB:=by
 refine Hz F Le λHh A outer s H vs Q E hr h=>?_
 obtain⟨n,b,a,ts,rfl,n1,n4,hL,hC,hE,hD,hb,q⟩:=h
 refine⟨_,HY (Hv (i:=2) Le.nd rfl (Or.inl rfl) (Hd GB hr rfl (Gi (pv 0) (Gi (pv 1) Gy))))
  (HY (Hv (i:=3) Le.nd rfl (Or.inr rfl) (PU rfl rfl mx (Gi (JK (N':=tK) (src:=[none,none]) rfl (Ic (pv 2)) (JJ (He Qi) WR (by decide +kernel))
   (λb=>JM rfl (IH (Hi (i:=0) Rs rfl (Or.inl rfl)) (IH (Hi (i:=1) Rs rfl (Or.inl rfl)) JQ))) (λb=>Jh) (λb=>Iz KS rfl mn BR (Gi (pv 0) Gy))) Gy)))
  (HY (cW (i:=4) (N':=uL) (src:=[none,none,some 3]) Le.nd rfl (Or.inl rfl) rfl rfl (Ic (pv 2)) (JJ (He Qi) WR (by decide +kernel))
   (λb=>JM rfl (IH (Hi (i:=0) Rx rfl (Or.inl rfl)) (IH (Hi (i:=1) Rx rfl (Or.inl rfl)) JQ))) (λb=>Jh)
   (λb=>IE (Gi (Hf La (pv 0) (Hf Md (IE (Gi Ha Gy)) (Hf Kb (pv 2) (Iz KS rfl mn BR (Gi (pv 0) Gy))))) (Gi (pv 1) Gy))))
  (HY (Hv (i:=5) Le.nd rfl (Or.inl rfl) (Hd GM hr rfl (Gi (gR rfl rfl ml rfl mr (Gi Ha (Gi (Hf Kn (pv 0) Ha) Gy))) Gy)))
  (HY (Hv (i:=6) Le.nd rfl (Or.inr rfl) (Hd GM hr rfl (Gi (Hf gD (Ik (Gi (pv 5) Gy)) (pv 3)) Gy)))
  (HX (Hq (JK (N':=vU) (src:=[none,none,some 6]) rfl (Ic (Hd GP hr rfl (Gi (pv 4) (Gi (Hd GE hr rfl (Gi (pv 0) (Gi (pv 5) Gy))) Gy)))) (JJ (He Qi) WR (by decide +kernel))
   (λb=>JM rfl (IH (Hi (i:=0) R7 rfl (Or.inl rfl)) (IH (Hi (i:=1) R7 rfl (Or.inl rfl)) JQ))) (λb=>Jh)
   (λb=>IE (Gi (pv 0) (Gi (Hd GF hr rfl (Gi (pv 1) (Gi (pv 2) Gy))) Gy)))))))))),?_⟩
 refine⟨_,rfl,_,rfl,n,b,a,ts,rfl,n1,n4,hL,hC,hE,hD,hb,λl1 H1 h1 s1 hT tk=>?_⟩
 unfold TB at q
 have few:=tk.few
 have rl:∀t∈IP n ts,t.1.length<=8:=λt ht=>(eG (tk.row t ht).1).1
 have ge:=QQ (IP n ts)
 have nn:=λt ht=>tk.can.num t ht
 have bt:=tk.bits
 have own:=tk.own
 have bpk:=λhL=>UJ n1 n4 tk (L:=Jc (IP n ts)) hL ge
 generalize hTt:IP n ts=T at *
 obtain⟨vs,eT,iT⟩:=hT
 have lv:=AM iT
 refine⟨_,rfl,l1,rfl,⟨_,HU.of eT⟩,λbk D hD'=>?_⟩
 refine Km (α:=Int) hD' (HU.of eT) (λσ=>∃c d,σ=[c,d]) (λi=>(T[i]?).bind λt=>some (t.1.length:Int)) (small (by lia)) ⟨_,_,rfl⟩ ?_ ?_
 ·rintro i v σ H2 Yes No hv ⟨c,d,rfl⟩ s2 yes no
  obtain⟨t,ht,hi⟩:=Io iT hv
  obtain⟨p,kk,rfl,hp,hkk⟩:=KF hi
  refine⟨p,_,rfl,HM.of (s2 _ _ hp),rfl,_,_,rfl,_,_,rfl,rfl,?_⟩
  refine LS ?_
  refine⟨_,rfl,kk,_,rfl,.inr (HM.of (s2 _ _ hkk)),?_⟩
  rw[AB]
  exact yes _ _ _ (t.1.length:Int) ⟨_,_,rfl⟩ (Gp.refl _) (by rw[ht];rfl) rfl
 rintro H2 s2 ⟨ws,eD,iD⟩
 rw[N6 iD,lv,Js,Aw]at eD
 refine⟨D,_,rfl,.inl (HU.of eD),λM hM=>?_⟩
 have eM:=oC hM
 subst eM
 have L8:Jc T<=8:=by
  rcases hM with⟨e,hz⟩|⟨hm,_⟩
  ·lia
  ·obtain⟨t,ht,e⟩:=AN.mp hm
   have:=rl t ht
   lia
 have bpk:=bpk L8
 clear hM eD iD
 show J4 3 (V.int ((Jc T:Nat):Int)) _ _ _
 generalize hLL:Jc T=L at *
 refine⟨_,rfl,l1,rfl,⟨_,HU.of (s2 _ _ eT)⟩,λbk2 D2 hD2=>?_⟩
 have iT2:=Hr.mono (Hb.same s2) iT
 refine Km (α:=Go) hD2 (HU.of (s2 _ _ eT)) (λσ=>∃c d,σ=[c,d,some (.int (L:Int))]) (λi=>(T[i]?).bind λt=>some (KM L t.1,t.2)) (small (by lia)) ⟨_,_,rfl⟩ ?_ ?_
 ·rintro i v σ H3 Yes No hv ⟨c,d,rfl⟩ s3 yes no
  obtain⟨t,ht,hi⟩:=Io iT2 hv
  have tm:=AT ht
  have tl:=ge t tm
  obtain⟨p,kk,rfl,hp,hkk⟩:=KF hi
  have hk3:=s3 _ _ hkk
  refine⟨p,_,rfl,HM.of (s3 _ _ hp),rfl,_,_,rfl,_,_,rfl,rfl,?_⟩
  refine LS ?_
  refine⟨_,rfl,Il,λt0 h0=>?_⟩
  have s0:=HW h0 (.tup [.int 0])
  refine⟨_,rfl,_,rfl,kk,_,rfl,.inr (HM.of (s0 _ _ hk3)),_,_,rfl,rfl,t0,[0],_,rfl,rfl,HR,by simp,by rw[AB];lia,by rw[AB];lia,small (by rw[AB];show 1*_<=100000;lia),λt2 H4 s4 h4=>?_⟩
  rw[RF,AB,show((L:Int)-(t.1.length:Int)).toNat=L-t.1.length by lia]at h4
  refine Lq (r:=t.1) (r':=List.replicate (L-t.1.length) 0) (s4 _ _ (s0 _ _ hk3)) h4 (small (by rw[A8];lia)) λt3 H5 s5 h5=>?_
  refine⟨_,rfl,Iv,λt6 h6=>?_⟩
  have s6:=HW h6 (.tup [.ref t3,.int t.2])
  exact yes _ _ _ (KM L t.1,t.2) ⟨_,_,rfl⟩ (s0.trans (s4.trans (s5.trans s6))) (by rw[ht];rfl) (Jg (t:=(KM L t.1,t.2)) HR (s6 _ _ h5))
 intro H3 s3 hD3
 rw[lv,Js,Aw]at hD3
 change Gg H3 D2 (MU L T) at hD3
 obtain⟨u1,u2,u3⟩:=eN n (Jp n1 n4)
 obtain⟨u4,u5,u6,u7,u8,u9⟩:=u3 L (Al.mpr (by lia))
 refine⟨_,rfl,_,_,rfl,rfl,1,_,rfl,⟨by lia,by lia,by lia,by lia⟩,by lia,λl5 h5=>?_⟩
 have e5:((List.range ((n:Int)+1-1).toNat).map λ(k:Nat)=>V.int (1+(k:Int)))=(Qq n).map V.int:=by
  unfold Qq
  rw[show((n:Int)+1-1).toNat=n by lia,Bp]
  rfl
 rw[e5]
 have s5:=HW h5 (.lst ((Qq n).map V.int))
 refine⟨l5,Qq n,rfl,HR,Vz u2,λx hx=>?_,?_⟩
 ·obtain⟨k,hk,rfl⟩:=AN.mp hx
  have:=Al.mp hk
  exact TZ (by lia)
 rw[u1]
 generalize hc:Ia n=c at *
 refine⟨_,rfl,Il,λl6 h6=>?_⟩
 have s6:=HW h6 (.lst [.int c])
 refine⟨_,rfl,l6,_,_,rfl,rfl,HR,by lia,by lia,small (by show 1*_<=100000;lia),λl7 h7=>?_⟩
 rw[YT,BB]
 have s7:=HW h7 (.lst ((List.replicate L c).map V.int))
 refine⟨l7,List.replicate L c,rfl,HR,Vz u5,λx hx=>?_,?_⟩
 ·rw[Dz hx]
  exact TZ (by lia)
 rw[u4]
 have z57:=s5.trans (s6.trans s7)
 have eb:((LA n L:Nat):Int)=c^L:=by
  unfold LA
  rw[hc]
  lia
 have hbot:1<=LA n L/\LA n L<1152921504606846976:=by lia
 show J4 6 (V.int (c^L)) _ _ _
 rw[<-eb]
 generalize LA n L=B at *
 refine⟨_,rfl,_,rfl,_,rfl,n,by rw[hc];rfl,Jp n1 n4,λl8 us H8 h8 s8 e8 hP8=>?_⟩
 refine⟨D2,l8,MU L T,us,IZ c n,rfl,hD3.mono (z57.trans s8),e8,by rw[<-hc];exact hP8,by rw[show(MU L T).length=T.length from AB _];lia,λt ht=>?_,by rw[<-hc];exact AR.mp (jG n (Jp n1 n4)),λl9 H9 h9 s9 hL9=>?_⟩
 ·obtain⟨z,hz,rfl⟩:=AN.mp ht
  refine⟨?_,nn z hz,JS (bt z hz) (by lia)⟩
  rw[<-hc]
  exact(pV n1 n4 (own z hz) L8 (ge z hz)).1
 have zz:=s1.trans (s2.trans (s3.trans (z57.trans (s8.trans s9))))
 have eU:norm ((MU L T).flatMap (LH (IZ c n)))=Ko n L T:=by
  unfold Ko
  rw[hc]
 rw[eU]at hL9
 have fU:=bpk.few
 generalize Ko n L T=U at *
 obtain⟨ws9,e9,i9⟩:=hL9
 have lv9:=AM i9
 refine⟨l9,rfl,⟨_,HU.of e9⟩,λbk3 D3 hD3'=>?_⟩
 refine Km (α:=Ho) hD3' (HU.of e9) (λσ=>∃c d,σ=[c,d,some (.int (B:Int))]) (λi=>(U[i]?).bind λt=>some (t.1,JN t.2 B)) (small (by lia)) ⟨_,_,rfl⟩ ?_ ?_
 ·rintro i v σ H10 Yes No hv ⟨c,d,rfl⟩ s10 yes no
  obtain⟨t,ht,hi⟩:=Io i9 hv
  obtain⟨p,kk,rfl,hp,hkk⟩:=KF hi
  refine⟨p,_,rfl,HM.of (s10 _ _ hp),rfl,_,_,rfl,_,_,rfl,rfl,?_⟩
  refine LS ?_
  refine⟨_,rfl,_,rfl,_,rfl,t.2,B,rfl,hbot.1,hbot.2,λp11 H11 h11 s11 e11=>?_⟩
  refine⟨Iv,λt12 h12=>?_⟩
  have s12:=HW h12 (.tup [.ref kk,.ref p11])
  exact yes _ _ _ (t.1,JN t.2 B) ⟨_,_,rfl⟩ (s11.trans s12) (by rw[ht];rfl) (PR (t:=(t.1,JN t.2 B)) HR (s12 _ _ (s11 _ _ (s10 _ _ hkk))) (s12 _ _ e11))
 intro H10 s10 hL10
 rw[lv9,Js,Aw]at hL10
 exact q D3 H10 (zz.free hD3') (zz.trans s10) hL10 L8 tk bpk
end
section
variable{P:yL}{w:yM}{K:yG}{mg:Str->yD}{base:Heap}{f g:yJ}{fd gd:yN}
noncomputable abbrev wN:yB:=["least_numbers", "many", "found", "least", "longer", "line", "number"]
theorem Kp:Gq wN ["least_numbers", "many"] (He aL):=IA
noncomputable def VN:Sp:=λvs H Q _=>∃(p:yJ)(n:Nat)(ls:xX),vs=[.ref p,.int n]/\H p=some (.tup (ls.map V.int))/\n<=4/\ls.length<=8/\(∀x∈ls,0<=x/\x<=1000)/\∀(l:yJ)(H':Hp),H l=none->Gp H H'->Gg H' l (lf n ls)->Q (.ref l) H'
theorem YE{line:xX}{x M:Int}(h1:M∈line.drop (line.length-1)++[x])(h2:∀a∈line.drop (line.length-1)++[x],a<=M):M=QY line x:=by
 by_cases c:line=[]
 ·subst c
  simp at h1
  rw[h1]
  rfl
 ·obtain⟨as,y,e⟩:∃as y,line=as++[y]:=⟨_,_,(Cp c).symm⟩
  subst e
  have ed:(as++[y]).drop ((as++[y]).length-1)=[y]:=by
   rw[AJ,BC,Nat.add_sub_cancel,List.drop_left]
  rw[ed]at h1 h2
  unfold QY
  rw[Gn,FV]
  have b1:=h2 y (by simp)
  have b2:=h2 x (by simp)
  simp at h1
  simp only[Option.some_or]
  split<;>lia
theorem iC{a:Int}{n j:Nat}(h:j<((n:Int)-a).toNat):(K8 a n)[j]?=some (a+(j:Int)):=by
 unfold K8
 rw[Ag,DP h]
 rfl
theorem YS{H H':Hp}{l p:yJ}{ys:List V}{rs:List xX}{r:xX}(t:Hb H H')(i:Hr H ys rs)(hp:H' p=some (.tup (r.map V.int)))(hl:H' l=some (.lst (ys++[.ref p]))):Gg H' l (rs++[r]) :=
 ⟨_,hl,Paired.app (Hr.mono t i) (.cons (J9 hp) .nil)⟩
theorem X2(F:Hu K "lines_from" "lines_from" aL f fd)(mr:mg "range" = none)(mx:mg "max" = none):HC P w K mg base Hn 2 f fd ["least_numbers", "many"] VN:=by
 refine Hz F Kp λHh A outer s H vs Q E hr h=>?_
 obtain⟨p,n,ls,rfl,hp,n4,l8,nn',q⟩:=h
 have nn:∀x∈ls,0<=x:=λx hx=>(nn' x hx).1
 refine⟨_,HY (Hv (i:=2) Kp.nd rfl (Or.inl rfl) (Ik (Gi (IE Gy) Gy)))
  (HY (Ie Af rfl (MC (pv 0)) (Hi (i:=3) Kp.nd rfl (Or.inl rfl))
   (HY (Hv (i:=4) Kp.nd rfl (Or.inl rfl) (Ik Gy))
   (HY (Ie Af rfl (Ic (pv 2)) (Hi (i:=5) Kp.nd rfl (Or.inl rfl))
    (HX (Ie Af rfl (lG rfl mr (Gi (Iz (pZ rfl) rfl mx Gc (Gi (Hf La (Mx kU (pv 5) (Mn (N4 N7 Ha)) OL) (IE (Gi (pv 3) Gy))) Gy)) (Gi (pv 1) Gy))) (Hi (i:=6) Kp.nd rfl (Or.inl rfl))
     (HX (Ir (Kr A6 A9 BA Kv (pv 4) (Gi (Hf La (pv 5) (IE (Gi (pv 6) Gy))) Gy)))))))
   (HX (Hv (i:=2) Kp.nd rfl (Or.inl rfl) (pv 4))))))
  (HX (Hq (pv 2)))),?_⟩
 refine⟨JP,λt0 h0=>⟨Il,λl0 hl0=>?_⟩⟩
 have s0:=HW h0 (.tup [])
 have s1:=HW hl0 (.lst [.ref t0])
 refine⟨_,rfl,p,rfl,⟨_,HM.of (s1 _ _ (s0 _ _ hp))⟩,?_⟩
 refine O7 (xs:=ls.map V.int) (λi σ H'=>(∃(l:yJ)(c3 c4 c5 c6:Option V),σ=[some (.ref p),some (.int n),some (.ref l),c3,c4,c5,c6]/\Gg H' l (lf n (ls.take i))/\H l=none)/\Gp H H') ?_ ?_ ?_ ?_
 ·exact⟨⟨l0,_,_,_,_,rfl,⟨[.ref t0],HR,.cons (J9 (r:=[]) (s1 _ _ HR)) .nil⟩,s0.free hl0⟩,s0.trans s1⟩
 ·rintro i σ H1 _ ⟨_,sH⟩
  exact HM.of (sH _ _ hp)
 ·rintro i v σ H1 hv ⟨⟨l,c3,c4,c5,c6,rfl,⟨us,eL,iL⟩,fl⟩,sH⟩
  obtain⟨x,hx,rfl⟩:∃x,ls[i]?=some x/\V.int x=v:=by
   rw[Ag]at hv
   cases e:ls[i]? with
   |none=>rw[e]at hv;cases hv
   |some y=>rw[e]at hv;exact⟨y,rfl,Aq hv⟩
  have x0:=nn x (AT hx)
  have il:i<ls.length:=(AZ.mp hx).1
  have fl4:(lf n (ls.take i)).length<=4^8:=As (Pi n4 rfl λy hy=>nn y (BJ hy)) (Cg (by decide) (by rw[Ap];lia))
  have st:lf n (ls.take (i+1))=Q6 n (lf n (ls.take i)) x:=by rw[JW hx,eQ]
  have s4:(Q6 n (lf n (ls.take i)) x).length<=4^8*4:=As (RE (K6 n x) 4 _ λy _=>As (VJ x0 y) n4) (Db 4 fl4)
  have e48:(4:Nat)^8*4<=1000000:=by decide
  have nnl:=Ot (n:=n) (ls:=ls.take i) λy hy=>nn y (BJ hy)
  generalize lf n (ls.take i)=fs at iL fl4 st s4 nnl
  have lu:=AM iL
  refine⟨JP,λl2 hl2=>?_⟩
  have s2:=HW hl2 (.lst [])
  refine⟨_,rfl,l,rfl,⟨_,HU.of (s2 _ _ eL)⟩,?_⟩
  refine Jr (xs:=us) (λj σ H'=>(∃c5 c6,σ=[some (.ref p),some (.int n),some (.ref l),some (.int x),some (.ref l2),c5,c6])/\Gp H1 H'/\Gg H' l2 ((fs.take j).flatMap (K6 n x))) ?_ ?_ ?_ ?_
  ·exact⟨⟨_,_,rfl⟩,s2,⟨[],HR,.nil⟩⟩
  ·rintro j σ H2 _ ⟨_,s3,_⟩
   exact HU.of (s3 _ _ eL)
  ·rintro j v σ H2 hv ⟨⟨c5,c6,rfl⟩,s3,hY⟩
   obtain⟨line,hline,hi⟩:=Io iL hv
   obtain⟨a,rfl,ha⟩:=JI hi
   have ha2:=s3 _ _ ha
   have jl:j<fs.length:=(AZ.mp hline).1
   have ln:=nnl line (AT hline)
   rw[Ap]at ln
   have tk:(fs.take (j+1)).flatMap (K6 n x)=(fs.take j).flatMap (K6 n x)++K6 n x line:=by rw[JW hline,BM,BX]
   have tl:((fs.take (j+1)).flatMap (K6 n x)).length<=1000000:=As (T3 _ _ _) (As s4 e48)
   refine⟨_,rfl,_,rfl,-1,rfl,a,line,rfl,rfl,rfl,ha2,λt1 H3 s4' ht1=>?_⟩
   refine⟨_,rfl,Il,λt2 ht2=>?_⟩
   have s5:=HW ht2 (.tup [.int x])
   refine Lq (r:=line.drop (line.length-1)) (r':=[x]) (s5 _ _ ht1) HR (small (by rw[BG];show _+1<=_;lia)) λt3 H4 s6 ht3=>?_
   refine⟨t3,line.drop (line.length-1)++[x],rfl,HM.of ht3,by simp,λM m1 m2=>?_⟩
   have hM:=YE m1 m2
   have M0:0<=M:=by have:=Oz line x;lia
   have M9:M<=1000:=by
    rw[hM]
    unfold QY
    have x9:=(nn' x (AT hx)).2
    cases e:line.getLast? with
    |none=>exact x9
    |some y =>
     have:=(ln.2 y (Gm e)).2
     show(if y<x then x else y)<=1000
     split<;>lia
   have s14:Gp H1 H4:=s3.trans (s4'.trans (s5.trans s6))
   have hY4:=hY.mono (s4'.trans (s5.trans s6))
   refine⟨_,rfl,M,n,rfl,⟨by lia,by lia,by lia,by lia⟩,?_⟩
   refine NU (lo:=M) (n:=((n:Int)-M).toNat) (λk σ H'=>(∃c6,σ=[some (.ref p),some (.int n),some (.ref l),some (.int x),some (.ref l2),some (.ref a),c6])/\Gp H1 H'/\Gg H' l2 ((fs.take j).flatMap (K6 n x)++((K8 M n).take k).map λk=>line++[k])) ?_ ?_ ?_
   ·refine⟨⟨_,rfl⟩,s14,?_⟩
    rw[DH,DI,BV]
    exact hY4
   ·rintro k σ H5 hk ⟨⟨c6,rfl⟩,s7,⟨ys,eY,iY⟩⟩
    have ly:=AM iY
    have lr:(K8 M n).length=((n:Int)-M).toNat:=by unfold K8;rw[AB,Bm]
    have e1:K6 n x line=(K8 M n).map λk=>line++[k]:=by rw[hM];rfl
    have l9:ys.length<=1000000:=by
     rw[ly]
     refine As ?_ tl
     rw[tk,e1,AJ,AJ,AB,AB,Ap]
     lia
    refine⟨_,rfl,.inl ⟨rfl,_,HU.of eY⟩,_,rfl,_,rfl,Il,λt4 h4=>?_⟩
    have s8:=HW h4 (.tup [.int (M+(k:Int))])
    refine Lq (r:=line) (r':=[M+(k:Int)]) (s8 _ _ (s7 _ _ ha)) HR (small (by show line.length+1<=_;lia)) λt5 H6 s9 ht5=>?_
    have eY6:=s9 _ _ (s8 _ _ eY)
    have s56:=s8.trans s9
    refine⟨l2,ys,.ref t5,rfl,rfl,eY6,A7 l9 (by decide),⟨_,rfl⟩,λc o z=>?_,?_⟩
    ·rw[Hw (Jd z hl2)]
     exact s56 _ _ (s7 _ _ z)
    ·rw[JW (iC hk),Ar,<-An]
     refine YS (H:=H5) (p:=t5) (λc xs z=>?_) iY ?_ HR
     ·have z6:=s56 _ _ z
      rw[Hw (Jw z6 eY6 (by intro z;cases z))]
      exact z6
     ·rw[Hw (Jw ht5 eY6 (by intro z;cases z))]
      exact ht5
   ·rintro σ H5 ⟨⟨c6,rfl⟩,s7,hY5⟩
    refine⟨⟨_,_,rfl⟩,s7,?_⟩
    have lr:(K8 M n).length=((n:Int)-M).toNat:=by unfold K8;rw[AB,Bm]
    rw[Ab (l:=K8 M n) (by rw[lr];exact AH _)]at hY5
    have e1:K6 n x line=(K8 M n).map λk=>line++[k]:=by rw[hM];rfl
    rw[tk,e1]
    exact hY5
  ·rintro σ H2 ⟨⟨c5,c6,rfl⟩,s3,hY⟩
   rw[Ab (by lia)]at hY
   refine⟨_,rfl,⟨l2,_,_,_,_,rfl,?_,sH.free hl2⟩,sH.trans s3⟩
   rw[st]
   exact hY
 ·rintro σ H1 ⟨⟨l,c3,c4,c5,c6,rfl,hL,fl⟩,sH⟩
  rw[AB,Ba]at hL
  exact⟨_,rfl,q l _ fl sH hL⟩
end
section
variable{P:yL}{w:yM}{K:yG}{mg:Str->yD}{base:Heap}{f g:yJ}{fd gd:yN}
noncomputable abbrev uZ:yB:=["lines", "inner", "outer", "place", "length", "above"]
noncomputable abbrev uY:yB:=["number"]
theorem kC:uY.Nodup:=by decide +kernel
theorem Nr:Gq uZ ["lines", "inner", "outer"] (He WV):=IA
noncomputable def Sj:Sp:=λvs H Q _=>∃(a b c:yJ)(ls:List xX)(r:xX),vs=[.ref a,.ref b,.ref c]/\Dat.is H (.ref a) ls/\H b=some (.tup ((List.replicate r.length (0:Int)).map V.int))/\H c=some (.tup (r.map V.int))/\ls.length<r.length/\r.length<=8/\(∀x∈r,0<=x/\x<=8)/\(∀l∈ls,Xl l) /\
 ∀(p:yJ)(H':Hp),Gp H H'->H' p=some (.tup ((Lp r ls).map V.int))->Q (.ref p) H'
theorem O2{m k:Nat}(h:k<m):J1 ((List.replicate m (0:Int)).map V.int) (k:Int)=some (.int 0):=by
 refine JY ?_
 rw[Ag,FN,AF h]
 rfl
theorem bL{r:xX}{k:Nat}(h:k<r.length):J1 (r.map V.int) (k:Int)=some (.int (r.getD k 0)):=by
 refine JY ?_
 rw[Ag,AL h,Ad,AL h]
 rfl
theorem tJ:∀k:Nat,(List.replicate k [(0:Int)]).flatten=List.replicate k 0
 |0=>rfl
 |k+1=>by rw[A1,Bl,tJ k,A1];rfl
theorem jC{α:Type}[D:Dat α]{H:Hp}{us:List V}{as:List α}{l:α}(h:Hr H us (as++[l])):∃v,J1 us (-1)=some v/\D.is H v l:=by
 have lu:=AM h
 rw[AJ,BC]at lu
 obtain⟨v,e,hv⟩:=Paired.getR h (i:=as.length) (b:=l) (by simp)
 refine⟨v,?_,hv⟩
 unfold J1
 rw[Xn (by lia)]
 show us[us.length-1]?=some v
 rw[show us.length-1=as.length by lia]
 exact e
theorem gG(F:Hu K "least_for_next" "least_for_next" WV f fd)(ml:mg "len" = none)(mt:mg "tuple" = none):HC P w K mg base Hn 2 f fd ["lines", "inner", "outer"] Sj:=by
 refine Hz F Nr λHh A outer s H vs Q E hr h=>?_
 obtain⟨a,b,c,ls,r,rfl,⟨a',us,ea,ha,iA⟩,hb,hc,lt,r8,h8,hL,q⟩:=h
 cases ea
 refine⟨_,HY (Hv (i:=3) Nr.nd rfl (Or.inl rfl) (Iz KS rfl ml BR (Gi (pv 0) Gy)))
  (HY (Hv (i:=4) Nr.nd rfl (Or.inl rfl) (Hf Kb (IY JU (pv 2) (pv 3) (λ_ _=>rfl)) (IY JU (pv 1) (pv 3) (λ_ _=>rfl))))
  (HY (IW (IJ Ke (pv 3) Ha (ID _)) (HX (Hq (Hf Md (IE (Gi Ha Gy)) (pv 4)))) IX)
  (HY (Hv (i:=5) Nr.nd rfl (Or.inl rfl) (Hf La (Hf Md (IE (Gi Ha Gy)) (Hf Kb (IY JU (pv 1) (Hf Kb (pv 3) Ha) (λ_ _=>rfl)) (IY JU (pv 1) (pv 3) (λ_ _=>rfl))))
   (MJ OH rfl mt BL (Gi (JK (N':=uY) (src:=[none]) rfl (MC (IY JU (pv 0) (N4 N7 Ha) (λ_ _=>rfl))) (JJ (He WV) uZ (by decide +kernel))
    (λb=>Hi (i:=0) kC rfl (Or.inl rfl)) (λb=>Jh) (λb=>Hf Kn (pv 0) Ha)) Gy))))
  (HX (Hq (Mx Om (pv 5) OL (Mn (pv 4)))))))),?_⟩
 have lu:=AM iA
 refine⟨_,rfl,a,us,rfl,.inr (HM.of ha),?_⟩
 rw[lu]
 obtain⟨k,hk,k8⟩:∃k:Nat,r.getD ls.length 0=k/\k<=8:=by
  have g:r.getD ls.length 0=r[ls.length]:=by rw[Ad,AL lt];rfl
  have:=h8 r[ls.length] (Cm _)
  exact⟨(r.getD ls.length 0).toNat,by lia,by lia⟩
 refine⟨_,rfl,_,rfl,c,_,_,.int (r.getD ls.length 0),rfl,rfl,HM.of hc,bL lt,_,rfl,_,rfl,b,_,_,.int 0,rfl,rfl,HM.of hb,O2 lt,_,_,rfl,rfl,?_⟩
 show J4 4 (V.int (r.getD ls.length 0-0)) _ _ _
 rw[HI,hk]
 refine⟨_,rfl,rfl,_,rfl,?_⟩
 by_cases e0:ls=[]
 ·subst e0
  refine Jf rfl ?_
  refine⟨Il,λt0 h0=>⟨_,rfl,t0,[0],k,rfl,rfl,HR,by simp,by lia,by lia,small (by show 1*(k:Int).toNat<=_;lia),λt1 H1 s1 h1=>?_⟩⟩
  refine q t1 _ ((HW h0 _).trans s1) ?_
  rw[h1]
  unfold Lp
  have hk':r.getD 0 0=(k:Int):=hk
  show _=some (HO.tup ((List.replicate (r.getD 0 0).toNat (0:Int)).map V.int))
  rw[hk',BB]
  rw[tJ]
 ·refine JF (λz=>e0 ?_) ?_
  ·injection z with z
   exact B7.mp (by lia)
  obtain⟨as,l,e⟩:∃as l,ls=as++[l]:=⟨_,_,(Cp e0).symm⟩
  have ll:ls.length=as.length+1:=by rw[e];simp
  obtain⟨hl8,hl0⟩:=hL l (by rw[e];simp)
  have iA':=iA
  rw[e]at iA'
  obtain⟨v,atv,hv⟩:=jC iA'
  obtain⟨pl,rfl,hpl⟩:=JI hv
  have z1:J1 ((List.replicate r.length (0:Int)).map V.int) ((ls.length:Int)-1)=some (.int 0):=by
   rw[show(ls.length:Int)-1=((as.length:Nat):Int) by lia]
   exact O2 (by lia)
  refine⟨Il,λt0 h0=>?_⟩
  have s0:=HW h0 (.tup [.int 0])
  refine⟨_,rfl,_,rfl,_,_,rfl,rfl,b,_,_,.int 0,rfl,rfl,HM.of (s0 _ _ hb),z1,_,rfl,_,rfl,b,_,_,.int 0,rfl,rfl,HM.of (s0 _ _ hb),O2 lt,_,_,rfl,rfl,?_⟩
  refine⟨t0,[0],0,rfl,rfl,HR,by simp,by decide,by decide,small (by decide),λt1 H1 s1 h1=>?_⟩
  have s01:=s0.trans s1
  refine⟨_,rfl,_,rfl,a,us,-1,.ref pl,rfl,rfl,HM.of (s01 _ _ ha),atv,pl,rfl,⟨_,HM.of (s01 _ _ hpl)⟩,λbk D hD=>?_⟩
  refine So (α:=Int) hD (HM.of (s01 _ _ hpl)) (λσ=>∃c,σ=[c]) (λi=>(l[i]?).bind λx=>some (x+1)) (small (by rw[AB];lia)) ?_ ?_ ?_
  ·exact⟨_,rfl⟩
  ·rintro i v σ H2 Yes No hv ⟨c,rfl⟩ s3 yes no
   obtain⟨x,hx,rfl⟩:∃x,l[i]?=some x/\V.int x=v:=by
    rw[Ag]at hv
    cases e:l[i]? with
    |none=>rw[e]at hv;cases hv
    |some y=>rw[e]at hv;exact⟨y,rfl,Aq hv⟩
   refine L5 ?_
   exact⟨_,rfl,_,_,rfl,rfl,yes _ _ _ (x+1) ⟨_,rfl⟩ (Gp.refl _) (by rw[hx];rfl) rfl⟩
  rintro H2 s2 ⟨ws,eD,iD⟩
  have ez:(List.range (l.map V.int).length).filterMap (λi=>(l[i]?).bind λx=>some (x+1))=l.map (· + 1):=by
   rw[AB,Js,Aw]
  rw[N6 iD,ez]at eD
  refine⟨D,_,rfl,.inl ⟨HU.of eD,λt4 h4=>?_⟩⟩
  have s4:=HW h4 (.tup ((l.map (· + 1)).map V.int))
  have h1':H1 t1=some (.tup (([]:xX).map V.int)):=h1
  refine Lq (r:=[]) (r':=l.map (· + 1)) (s4 _ _ (s2 _ _ h1')) HR (small (by rw[AB];show 0+_<=_;lia)) λt5 H5 s5 ht5=>?_
  refine⟨_,rfl,_,rfl,(k:Int),rfl,t5,l.map (· + 1),k,rfl,rfl,rfl,ht5,λt6 H6 s6 ht6=>?_⟩
  refine q t6 _ (s01.trans (s2.trans (s4.trans (s5.trans s6)))) ?_
  rw[ht6]
  have ef:Lp r ls=(l.map (· + 1)).take (r.getD ls.length 0).toNat:=by
   unfold Lp
   rw[e,Gn,FV]
   rfl
  rw[ef,hk,BB]
noncomputable abbrev xG:yB:=["many", "found", "inner", "outer", "longer", "lines", "line"]
theorem NK:Gq xG ["many", "found", "inner", "outer"] (He X6):=IA
noncomputable def Rv:Sp:=λvs H Q _=>∃(a b c:yJ)(n j:Nat)(fs:List (List xX))(r:xX),vs=[.int n,.ref a,.ref b,.ref c]/\Gg H a fs/\H b=some (.tup ((List.replicate r.length (0:Int)).map V.int))/\H c=some (.tup (r.map V.int))/\n<=4/\j<r.length/\r.length<=8/\(∀x∈r,0<=x/\x<=8)/\vY r j fs/\(WH n r fs).length<=1000 /\
 ∀(l:yJ)(H':Hp),H l=none->Gp H H'->Gg H' l (WH n r fs)->Q (.ref l) H'
theorem fE{K:yG}{H:Hp}{a b:yJ}{us:List V}{ls:List xX}{l:xX}{q:yJ}{Q:VK}(ha:H a=some (.tup us))(ia:Hr H us ls)(hq:H q=some (.tup (l.map V.int)))(hb:H b=some (.tup [.ref q]))(hz:ls.length<=100)
  (g:∀p H',Gp H H'->Dat.is H' (.ref p) (ls++[l])->Q (.ref p) H'):QM K (.ref a) (.ref b) H Q:=by
 have lu:=AM ia
 refine⟨a,b,us,[.ref q],rfl,rfl,HM.of ha,HM.of hb,small (by show us.length+1<=_;lia),λe=>?_,(λ_ e=>by cases e),λ_ _ p hp=>?_⟩
 ·subst e
  cases ia
  exact g b H (Gp.refl _) ⟨b,[.ref q],rfl,hb,.cons (J9 hq) .nil⟩
 ·refine g p _ (HW hp _) ⟨p,us++[.ref q],rfl,HR,?_⟩
  exact Paired.app (Hr.mono (Z1 hp _) ia) (.cons (J9 (HW hp _ _ _ hq)) .nil)
theorem tE(F:Hu K "with_next_line" "with_next_line" X6 f fd)(GL:Hc P w K mg base 2 "lines_from" ["least_numbers", "many"] VN)(GN:Hc P w K mg base 2 "least_for_next" ["lines", "inner", "outer"] Sj):HC P w K mg base Hn 3 f fd ["many", "found", "inner", "outer"] Rv:=by
 refine Hz F NK λHh A outer s H vs Q E hr h=>?_
 obtain⟨a,b,c,n,j,fs,r,rfl,⟨us,eL,iL⟩,hb,hc,n4,jr,r8,h8,hF,hw,q⟩:=h
 refine⟨_,HY (Hv (i:=4) NK.nd rfl (Or.inl rfl) (Ik Gy))
  (HY (Ie Af rfl (Ic (pv 1)) (Hi (i:=5) NK.nd rfl (Or.inl rfl))
   (HX (Ie Af rfl (Ic (Hd GL hr rfl (Gi (Hd GN hr rfl (Gi (pv 5) (Gi (pv 2) (Gi (pv 3) Gy)))) (Gi (pv 0) Gy)))) (Hi (i:=6) NK.nd rfl (Or.inl rfl))
    (HX (Ir (Kr A6 A9 BA Kv (pv 4) (Gi (Hf La (pv 5) (IE (Gi (pv 6) Gy))) Gy)))))))
  (HX (Hq (pv 4)))),?_⟩
 have lu:=AM iL
 refine⟨JP,λl2 hl2=>?_⟩
 have s0:=HW hl2 (.lst [])
 refine⟨_,rfl,a,rfl,⟨_,HU.of (s0 _ _ eL)⟩,?_⟩
 refine Jr (xs:=us) (λi σ H'=>(∃c5 c6,σ=[some (.int n),some (.ref a),some (.ref b),some (.ref c),some (.ref l2),c5,c6])/\Gp H H'/\Gg H' l2 ((fs.take i).flatMap (My n r))) ?_ ?_ ?_ ?_
 ·exact⟨⟨_,_,rfl⟩,s0,⟨[],HR,.nil⟩⟩
 ·rintro i σ H1 _ ⟨_,s1,_⟩
  exact HU.of (s1 _ _ eL)
 ·rintro i v σ H1 hv ⟨⟨c5,c6,rfl⟩,s1,hY⟩
  obtain⟨ls,hls,hi⟩:=Io iL hv
  obtain⟨p,ws,rfl,hp,ip⟩:=hi
  have hm:=AT hls
  obtain⟨fl,fo⟩:=hF ls hm
  obtain⟨n1,n2⟩:=Ss h8 fo
  have ll:(lf n (Lp r ls)).length<=4^8:=As (Pi n4 rfl λy hy=>(n2 y hy).1) (Cg (by decide) n1)
  have tk:(fs.take (i+1)).flatMap (My n r)=(fs.take i).flatMap (My n r)++My n r ls:=by rw[JW hls,BM,BX]
  have tl:((fs.take (i+1)).flatMap (My n r)).length<=1000:=As (T3 _ _ _) hw
  refine⟨_,rfl,_,rfl,_,rfl,p,b,c,ls,r,rfl,⟨p,ws,rfl,s1 _ _ hp,Hr.mono (Hb.same s1) ip⟩,s1 _ _ hb,s1 _ _ hc,by lia,r8,h8,fo,λt1 H2 s2 ht1=>?_⟩
  refine⟨_,rfl,t1,n,Lp r ls,rfl,ht1,n4,n1,n2,λl3 H3 fl3 s3 hL3=>?_⟩
  obtain⟨zs,eZ,iZ⟩:=hL3
  have lz:=AM iZ
  have ew:My n r ls=(lf n (Lp r ls)).map λl=>ls++[l]:=rfl
  have nnl:=Ot (n:=n) λy hy=>(n2 y hy).1
  generalize lf n (Lp r ls)=ms at iZ ll lz ew nnl
  have s13:Gp H1 H3:=s2.trans s3
  refine⟨l3,rfl,⟨_,HU.of eZ⟩,?_⟩
  have hY3:=hY.mono s13
  have nl:l3≠l2:=by
   obtain⟨y1,e1,_⟩:=id hY
   exact(Jd (s2 _ _ e1) fl3).symm
  refine Jr (xs:=zs) (λk σ H'=>(∃c6,σ=[some (.int n),some (.ref a),some (.ref b),some (.ref c),some (.ref l2),some (.ref p),c6])/\Gp H H'/\H' l3=some (.lst zs)/\Hb H3 H'/\Gg H' l2 ((fs.take i).flatMap (My n r)++(ms.take k).map λl=>ls++[l])) ?_ ?_ ?_ ?_
  ·refine⟨⟨_,rfl⟩,s1.trans s13,eZ,Hb.refl _,?_⟩
   rw[DH,DI,BV]
   exact hY3
  ·rintro k σ H4 _ ⟨_,_,h3,_⟩
   exact HU.of h3
  ·rintro k v σ H4 hv ⟨⟨c6,rfl⟩,s4,h3,tp,⟨ys,eY,iY⟩⟩
   obtain⟨l,hl,hi⟩:=Io iZ hv
   obtain⟨pq,rfl,hpq⟩:=JI hi
   have ly:=AM iY
   have l9:ys.length<=1000:=by
    rw[ly]
    refine As ?_ tl
    rw[tk,ew,AJ,AJ,AB,AB,Ap]
    lia
   refine⟨_,rfl,.inl ⟨rfl,_,HU.of eY⟩,_,rfl,_,rfl,Il,λt4 h4=>?_⟩
   have s5:=HW h4 (.tup [.ref pq])
   refine fE (us:=ws) (ls:=ls) (l:=l) (q:=pq) (s5 _ _ (s4 _ _ hp)) (Hr.mono (Hb.same (s4.trans s5)) ip) (s5 _ _ (tp _ _ hpq)) HR (by lia) λt5 H6 s6 ht5=>?_
   have s46:=s5.trans s6
   have eY6:=s46 _ _ eY
   refine⟨l2,ys,.ref t5,rfl,rfl,eY6,Kw (by lia),⟨_,rfl⟩,λc o z=>?_,?_,λc xs z=>?_,?_⟩
   ·rw[Hw (Jd z hl2)]
    exact s46 _ _ (s4 _ _ z)
   ·rw[Hw nl]
    exact s46 _ _ h3
   ·have z6:=s46 _ _ (tp _ _ z)
    rw[Hw (Jw z6 eY6 (by intro z;cases z))]
    exact z6
   ·rw[JW hl,Ar,<-An]
    refine⟨ys++[.ref t5],HR,Paired.app (Hr.mono (λc xs z=>?_) iY) (.cons (Dat.mono (λc xs z=>?_) ht5) .nil)⟩
    ·have z6:=s46 _ _ z
     rw[Hw (Jw z6 eY6 (by intro z;cases z))]
     exact z6
    ·rw[Hw (Jw z eY6 (by intro z;cases z))]
     exact z
  ·rintro σ H4 ⟨⟨c6,rfl⟩,s4,h3,tp,hY4⟩
   refine⟨⟨_,_,rfl⟩,s4,?_⟩
   rw[Ab (l:=ms) (by lia)]at hY4
   rw[tk,ew]
   exact hY4
 ·rintro σ H1 ⟨⟨c5,c6,rfl⟩,s1,hY⟩
  rw[Ab (by lia)]at hY
  exact⟨_,rfl,q l2 _ hl2 s1 hY⟩
noncomputable abbrev qD:yB:=["many", "row", "inner", "found", "again"]
theorem KP:Gq qD ["many", "row"] (He OU):=IA
theorem Sn{r:xX}(h:Iu r=true):(∀x∈r,1<=x/\x<=8)/\(r.Pairwise λa b=>b<=a)/\r.sum<=8:=by
 unfold Iu at h
 rw[AI,AI,AR,AR,AQ]at h
 obtain⟨⟨h1,h2⟩,h3⟩:=h
 have p:∀x∈r,0<=x:=λx hx=>by have:=Ay (h1 x hx);lia
 refine⟨λx hx=>⟨Ay (h1 x hx),by have:=(OR p hx).1;lia⟩,?_,h3⟩
 have step:∀i,i+1<r.length->r.getD (i+1) 0<=r.getD i 0:=λi hi=>Ay (h2 i (Al.mpr (by lia)))
 have all:∀k i,i+k<r.length->r.getD (i+k) 0<=r.getD i 0:=by
  intro k
  induction k with
  |zero=>intro i _;exact DG _
  |succ k ih =>
   intro i hi
   have:=ih i (by lia)
   have:=step (i+k) (by lia)
   rw[show i+(k+1)=i+k+1 by lia]
   lia
 refine Bx.mpr λi j hi hj hij=>?_
 have:=all (j-i) i (by lia)
 rw[show i+(j-i)=j by lia,Ad,Ad,AL hi,AL hj]at this
 exact this
structure NR(n:Nat)(r:xX):Prop where
 n1:1<=n
 n4:n<=4
 row:Iu r=true
 len:r.length<=n+1
 few:∀j,j<=r.length->(MH n r j).length<=1000
noncomputable def UB:Sp:=λvs H Q _=>∃(p:yJ)(n:Nat)(r:xX),vs=[.int n,.ref p]/\H p=some (.tup (r.map V.int))/\NR n r/\∀(l:yJ)(H':Hp),H l=none->Gp H H'->Gg H' l (Q7 n r)->Q (.ref l) H'
theorem Y8(F:Hu K "fillings" "fillings" OU f fd)(GB:Hc P w K mg base 3 "refuse_bad_row" MG OY)(GC:Hc P w K mg base 3 "refuse_bad_count" ["many"] Nz)(GW:Hc P w K mg base 3 "with_next_line" ["many", "found", "inner", "outer"] Rv)(ml:mg "len" = none):HC P w K mg base Hn 4 f fd ["many", "row"] UB:=by
 refine Hz F KP λHh A outer s H vs Q E hr h=>?_
 obtain⟨p,n,r,rfl,hp,nr,q⟩:=h
 obtain⟨n1,n4,hB,hl,few⟩:=nr
 refine⟨_,HY (Ir (Hd GB hr rfl (Gi (pv 1) Gy)))
  (HY (Ir (Hd GC hr rfl (Gi (pv 0) Gy)))
  (HY (Hv (i:=2) KP.nd rfl (Or.inl rfl) (Hf Md (IE (Gi Ha Gy)) (Iz KS rfl ml BR (Gi (pv 1) Gy))))
  (HY (Hv (i:=3) KP.nd rfl (Or.inl rfl) (Ik (Gi (IE Gy) Gy)))
  (HY (Ie Af rfl (MC (pv 1)) (Hi (i:=4) KP.nd rfl (Or.inl rfl))
   (HX (Hv (i:=3) KP.nd rfl (Or.inl rfl) (Hd GW hr rfl (Gi (pv 0) (Gi (pv 3) (Gi (pv 2) (Gi (pv 1) Gy))))))))
  (HX (Hq (pv 3))))))),?_⟩
 obtain⟨r1,r2,r3⟩:=Sn hB
 have h8:∀x∈r,0<=x/\x<=8:=λx hx=>by have:=r1 x hx;lia
 refine⟨_,rfl,p,r,rfl,hp,by lia,hB,λH1 s1=>?_⟩
 refine⟨_,rfl,n,rfl,by lia,by lia,?_⟩
 refine⟨Il,λt0 h0=>?_⟩
 have s2:=HW h0 (.tup [.int 0])
 refine⟨_,rfl,p,_,rfl,.inr (HM.of (s2 _ _ (s1 _ _ hp))),?_⟩
 rw[AB]
 refine⟨t0,[0],(r.length:Int),rfl,rfl,HR,by simp,by lia,by lia,small (by show 1*_<=_;lia),λt1 H2 s3 h1=>?_⟩
 rw[BB,tJ]at h1
 refine⟨JP,λt2 h2=>⟨Il,λl0 hl0=>?_⟩⟩
 have s4:=HW h2 (.tup [])
 have s5:=HW hl0 (.lst [.ref t2])
 have sA:=s1.trans (s2.trans (s3.trans (s4.trans s5)))
 refine⟨_,rfl,p,rfl,⟨_,HM.of (sA _ _ hp)⟩,?_⟩
 refine O7 (xs:=r.map V.int) (λi σ H'=>(∃(l:yJ)(c4:Option V),σ=[some (.int n),some (.ref p),some (.ref t1),some (.ref l),c4]/\Gg H' l (MH n r i)/\H l=none)/\Gp H H'/\H' t1=some (.tup ((List.replicate r.length (0:Int)).map V.int))) ?_ ?_ ?_ ?_
 ·exact⟨⟨l0,_,rfl,⟨[.ref t2],HR,.cons ⟨t2,[],rfl,s5 _ _ HR,.nil⟩ .nil⟩,s1.free (s2.free (s3.free (s4.free hl0)))⟩,sA,s5 _ _ (s4 _ _ h1)⟩
 ·rintro i σ H3 _ ⟨_,sH,_⟩
  exact HM.of (sH _ _ hp)
 ·rintro i v σ H3 hv ⟨⟨l,c4,rfl,hL,fl⟩,sH,ht1⟩
  have il:i<r.length:=by
   have:=(AZ.mp hv).1
   rwa [AB]at this
  refine⟨_,rfl,_,rfl,_,rfl,_,rfl,l,t1,p,n,i,MH n r i,r,rfl,hL,ht1,sH _ _ hp,n4,il,by lia,h8,jY n4 h8 i,few (i+1) il,λl' H4 fl' s6 hL'=>?_⟩
  exact⟨⟨l',_,rfl,hL',sH.free fl'⟩,sH.trans s6,s6 _ _ ht1⟩
 ·rintro σ H3 ⟨⟨l,c4,rfl,hL,fl⟩,sH,ht1⟩
  rw[AB]at hL
  exact⟨_,rfl,q l _ fl sH hL⟩
end
section
variable{P:yL}{w:yM}{K:yG}{mg:Str->yD}{base:Heap}{f g:yJ}{fd gd:yN}
noncomputable abbrev Sx:yB:=["many", "filling"]
noncomputable abbrev mN:yB:=["number", "filling"]
noncomputable abbrev wD:yB:=["line", "number"]
theorem pL:mN.Nodup:=by decide +kernel
theorem aJ:wD.Nodup:=by decide +kernel
theorem bR:Gq Sx Sx (He Qy):=IA
noncomputable def aW:Stmt->Scope
 |.FunctionDef _ _ (.Return (some (.Call _ (.ListComp _ _ sc _::_) _ _)) _::_) _ _ _ _ _ _ _=>sc
 |_=>{ kind:=.function,names:=[],isGenerator:=false,isCoroutine:=false }
noncomputable def Vo:Sp:=λvs H Q _=>∃(a:yJ)(n:Nat)(fl:List xX),vs=[.int n,.ref a]/\Dat.is H (.ref a) fl/\n<=4/\fl.length<=100/\∀(p:yJ)(H':Hp),Gp H H'->H' p=some (.tup ((Nk n fl).map V.int))->Q (.ref p) H'
theorem gH(F:Hu K "powers_of" "powers_of" Qy f fd)(mt:mg "tuple" = none)(ms:mg "sum" = none)(mr:mg "range" = none):HC P w K mg base Hn 2 f fd Sx Vo:=by
 refine Hz F bR λHh A outer s H vs Q E hr h=>?_
 obtain⟨a,n,fl,rfl,hA,n4,l9,q⟩:=h
 obtain⟨a',us,ea,ha,iA⟩:=hA
 cases ea
 refine⟨_,HX (Hq (MJ OH rfl mt BL (Gi (dY (N':=mN) (z := "number") (src:=[none,some 1]) rfl (N9 rfl mr (Gi (pv 0) Gy)) (oD (He Qy) Sx (by decide +kernel) (λ_ _=>rfl) (λ_=>rfl))
   (λb=>Hi (i:=0) pL rfl (Or.inr rfl)) (λb=>Jh)
   (λb=>Iz (mO rfl) rfl ms GY (Gi (JK (N':=wD) (src:=[none,some 0]) rfl (MC (pv 1)) (JJ (relabel (aW Qy) { (default:Env) with scope:=He Qy }) mN (by decide +kernel))
    (λb2=>Hi (i:=0) aJ rfl (Or.inl rfl)) (λb2=>Jh) (λb2=>dZ (pv 0) (Gi (pv 1) Gy))) Gy))) Gy))),?_⟩
 have en:(n:Int).toNat=n:=by lia
 have lu:=AM iA
 refine⟨_,rfl,(n:Int),rfl,by lia,by lia,λbk D hD=>?_⟩
 refine vM (α:=Int) hD (λσ=>∃c,σ=[c,some (.ref a)]) (λ(i:Nat)=>some ((fl.map λl=>((l.count (i:Int):Nat):Int)).sum)) (small (by lia)) ?_ ?_ ?_
 ·exact⟨_,rfl⟩
 ·rintro i σ H2 Yes No hi ⟨c,rfl⟩ s2 yes no
  refine L5 ?_
  have e0:(0:Int)+(i:Int)=(i:Int):=by lia
  rw[e0]
  refine⟨_,rfl,a,rfl,⟨_,HM.of (s2 _ _ ha)⟩,λbk2 D2 hD2=>?_⟩
  refine So (α:=Int) hD2 (HM.of (s2 _ _ ha)) (λσ=>∃c,σ=[c,some (.int (i:Int))]) (λj=>(fl[j]?).bind λl=>some ((l.count (i:Int):Nat):Int)) (small (by lia)) ?_ ?_ ?_
  ·exact⟨_,rfl⟩
  ·rintro j v σ H3 Yes2 No2 hv ⟨c2,rfl⟩ s3 yes2 no2
   obtain⟨l,hl,hi2⟩:=Io iA hv
   obtain⟨p,rfl,hp⟩:=JI hi2
   have hp3:=s3 _ _ (s2 _ _ hp)
   refine L5 ?_
   exact⟨_,rfl,p,l,rfl,hp3,_,rfl,(i:Int),rfl,hp3,yes2 _ _ _ _ ⟨_,rfl⟩ (Gp.refl _) (by rw[hl];rfl) rfl⟩
  ·rintro H3 s3 ⟨ws,eD,iD⟩
   have ez:(List.range us.length).filterMap (λj=>(fl[j]?).bind λl=>some ((l.count (i:Int):Nat):Int))=fl.map λl=>((l.count (i:Int):Nat):Int):=by
    rw[lu,Js,Aw]
   rw[N6 iD,ez]at eD
   exact⟨D2,_,rfl,HU.of eD,yes _ _ _ _ ⟨_,rfl⟩ s3 rfl rfl⟩
 ·rintro H2 s2 ⟨ws,eD,iD⟩
  have ez:((List.range (n:Int).toNat).filterMap λ(i:Nat)=>some ((fl.map λl=>((l.count (i:Int):Nat):Int)).sum))=Nk n fl:=by
   rw[en,Aw]
   rfl
  rw[N6 iD,ez]at eD
  refine⟨D,_,rfl,.inl ⟨HU.of eD,λt h=>?_⟩⟩
  exact q t _ (s2.trans (HW h _)) HR
noncomputable abbrev Wi:yB:=["many", "row"]
noncomputable abbrev vE:yB:=["filling", "many"]
theorem fH:vE.Nodup:=by decide +kernel
theorem ZG:Gq Wi Wi (He Wq):=IA
noncomputable def Sy:Sp:=λvs H Q _=>∃(p:yJ)(n:Nat)(r:xX),vs=[.int n,.ref p]/\H p=some (.tup (r.map V.int))/\NR n r/\∀(l:yJ)(H':Hp),H l=none->Gp H H'->Gg H' l (norm (NC n r))->Q (.ref l) H'
theorem dB{n:Nat}{r:xX}(nr:NR n r):∀f∈Q7 n r,f.length<=8:=λf hf=>by
 have h8:∀x∈r,0<=x/\x<=8:=λx hx=>by have:=(Sn nr.row).1 x hx;lia
 have:=(jY nr.n4 h8 r.length f hf).1
 have:=nr.len
 have:=nr.n4
 lia
theorem lO(F:Hu K "filled_sum" "filled_sum" Wq f fd)(GG:Hc P w K mg base 4 "gathered" ["terms"] RH)(GP:Hc P w K mg base 4 "powers_of" Sx Vo)(GF:Hc P w K mg base 4 "fillings" ["many", "row"] UB):HC P w K mg base Hn 5 f fd Wi Sy:=by
 refine Hz F ZG λHh A outer s H vs Q E hr h=>?_
 obtain⟨p,n,r,rfl,hp,nr,q⟩:=h
 refine⟨_,HX (Hq (Hd GG hr rfl (Gi (JK (N':=vE) (src:=[none,some 0]) rfl (Ic (Hd GF hr rfl (Gi (pv 0) (Gi (pv 1) Gy)))) (JJ (He Wq) Wi (by decide +kernel))
   (λb=>Hi (i:=0) fH rfl (Or.inl rfl)) (λb=>Jh) (λb=>IE (Gi (Hd GP hr rfl (Gi (pv 1) (Gi (pv 0) Gy))) (Gi Ha Gy)))) Gy))),?_⟩
 have fo:=dB nr
 have few:=nr.few r.length (AH _)
 have n1:=nr.n1
 refine⟨_,rfl,_,rfl,p,n,r,rfl,hp,nr,λl H1 hl s1 hL=>?_⟩
 obtain⟨us,eL,iL⟩:=id hL
 have lu:=AM iL
 have few':(Q7 n r).length<=1000:=few
 refine⟨l,rfl,⟨_,HU.of eL⟩,λbk D hD=>?_⟩
 refine Km (α:=Go) hD (HU.of eL) (λσ=>∃c,σ=[c,some (.int n)]) (λi=>((Q7 n r)[i]?).bind λf=>some (Nk n f,(1:Int))) (small (by lia)) ?_ ?_ ?_
 ·exact⟨_,rfl⟩
 ·rintro i v σ H2 Yes No hv ⟨c,rfl⟩ s2 yes no
  obtain⟨fl,hf,hi⟩:=Io iL hv
  have f8:=fo fl (AT hf)
  obtain⟨pf,ws,rfl,hpf,ip⟩:=hi
  refine L5 ?_
  refine⟨_,rfl,_,rfl,pf,n,fl,rfl,⟨pf,ws,rfl,s2 _ _ hpf,Hr.mono (Hb.same s2) ip⟩,nr.n4,by lia,λt H3 s3 ht=>?_⟩
  refine⟨Iv,λt2 h2=>?_⟩
  exact yes _ _ _ (Nk n fl,1) ⟨_,rfl⟩ (s3.trans (HW h2 _)) (by rw[hf];rfl) (Jg HR (HW h2 _ _ _ ht))
 ·rintro H2 s2 hD2
  have ez:(List.range us.length).filterMap (λi=>((Q7 n r)[i]?).bind λf=>some (Nk n f,(1:Int)))=NC n r:=by
   rw[lu,Js,Aw]
   rfl
  rw[ez]at hD2
  have lt:(NC n r).length<=1000:=by unfold NC;rw[AB];exact few'
  refine⟨D,NC n r,rfl,hD2,λt ht=>?_,by lia,λl2 H3 fl2 s3 hL3=>q l2 _ (s1.free (s2.free fl2)) (s1.trans (s2.trans s3)) hL3⟩
  unfold NC at ht
  obtain⟨f,_,rfl⟩:=AN.mp ht
  intro z
  have:=Z3 n f
  have z':Nk n f=[]:=z
  rw[z']at this
  simp at this
  lia
end
section
variable{P:yL}{w:yM}{K:yG}{mg:Str->yD}{base:Heap}{f g:yJ}{fd gd:yN}
theorem Tl{X:Cx}{ss:List Stmt}:KA X ss (λ_ _ _=>False):=λ_ _ _ _ _ _ h=>h.elim
noncomputable def Hj:yB:=["exchange", "elementary", "whole", "power", "filling"]
theorem VD(k:Str)(xs:yB):Qc (.str k) (xs.map V.str)=decide (k∈xs):=by
 rw[C4,AQ]
 unfold Qc
 rw[HF,E7]
 constructor
 ·rintro⟨y,hy,e⟩
  have e:(y==k)=true:=e
  rw[<-eq_of_beq e]
  exact hy
 ·intro h
  exact⟨k,h,CY k⟩
theorem V3(xs:yB):(xs.map V.str).all Nj=true:=by
 rw[Du,AR]
 intro x _
 rfl
theorem Y1:Gq ["kind"] ["kind"] (He Zt):=IA
noncomputable def Sr:Sp:=λvs H Q _=>∃k:Str,vs=[.str k]/\k∈Hj/\Q .non H
theorem fK{dK:yJ}(F:Hu K "refuse_no_kind" "refuse_no_kind" Zt f fd)(gK:mg "KINDS" = some (.ref dK))(sK:∀H,HM K H dK (Hj.map V.str)):HC P w K mg base Hn 2 f fd ["kind"] Sr:=by
 refine Hz F Y1 λHh A outer s H vs Q E hr h=>?_
 obtain⟨k,rfl,hk,q⟩:=h
 refine⟨_,HX (IW (IJ tQ (pv 0) (OZ (v:=.ref dK) rfl gK rfl) (by with_unfolding_all rfl)) Tl IX),?_⟩
 refine⟨_,rfl,dK,_,rfl,.inr (sK _),rfl,V3 _,_,rfl,?_⟩
 rw[AF rfl,VD]
 exact Pd hk q
noncomputable abbrev OD:yB:=["kind", "many", "row"]
theorem eI:Gq OD OD (He Ov):=IA
noncomputable def JX(k:Str)(n:Nat)(r:xX):Bool:=if k∈(["exchange", "filling"]:yB) then decide ((r.length:Int)<=(n:Int)) else r.all λx=>decide (x<=(n:Int))
noncomputable def RX:Sp:=λvs H Q _=>∃(k:Str)(n:Nat)(p:yJ)(r:xX),vs=[.str k,.int n,.ref p]/\H p=some (.tup (r.map V.int))/\∀H',Gp H H'->Q (.bl (JX k n r)) H'
theorem pH(F:Hu K "lets_in" "lets_in" Ov f fd)(mn:mg "len" = none)(mx:mg "max" = none):HC P w K mg base Hn 2 f fd OD RX:=by
 refine Hz F eI λHh A outer s H vs Q E hr h=>?_
 obtain⟨k,n,p,r,rfl,hp,q⟩:=h
 refine⟨_,HY (IW (IJ dJ (pv 0) (IE (Gi LV (Gi LV Gy))) (by with_unfolding_all rfl)) (HX (Hq (NF Qt (Iz KS rfl mn BR (Gi (pv 2) Gy)) (pv 1) (ID _)))) IX)
  (HX (Hq (NF Qt (PU rfl rfl mx (Gi (pv 2) Gy)) (pv 1) (ID _)))),?_⟩
 refine⟨_,rfl,Iv,λt ht=>?_⟩
 have s0:=HW ht (.tup [V.str "exchange",V.str "filling"])
 have hp0:=s0 _ _ hp
 refine⟨t,(["exchange", "filling"]:yB).map V.str,rfl,.inr (HM.of HR),rfl,V3 _,_,rfl,?_⟩
 rw[AD (by decide),VD]
 by_cases c:k∈(["exchange", "filling"]:yB)
 ·refine Jf c ⟨_,rfl,p,_,rfl,.inr (HM.of hp0),_,rfl,_,_,rfl,rfl,?_⟩
  have:=q _ s0
  unfold JX at this
  rw[AF c]at this
  rw[AB]
  exact this
 ·refine JF c ⟨_,rfl,p,r,rfl,.inr (HM.of hp0),λM hM=>⟨_,rfl,_,_,rfl,rfl,?_⟩⟩
  have:=q _ s0
  unfold JX at this
  rw[AD c]at this
  have e:decide (M<=(n:Int))=r.all λx=>decide (x<=(n:Int)):=by
   rw[C4,AQ,AR]
   rcases hM with⟨rfl,rfl⟩|⟨h1,h2⟩
   ·exact⟨λ_ x hx=>(by cases hx),λ_=>(by lia)⟩
   ·exact⟨λh x hx=>Ac (by have:=h2 x hx;lia),λh=>Ay (h M h1)⟩
  show Q (V.bl (decide (M<=(n:Int)))) _
  rw[e]
  exact this
noncomputable abbrev xL:yB:=["telling", "row", "share"]
theorem P7:Gq xL ["telling"] (He QJ):=IA
noncomputable def SA:Sp:=λvs H Q _=>∃(l:yJ)(T:List Ho),vs=[.ref l]/\Gg H l T/\(∀t∈T,Iu t.1=true/\t.1.length<=1000)/\∀H',Gp H H'->Q .non H'
theorem sN(F:Hu K "refuse_bad_rows" "refuse_bad_rows" QJ f fd)(G:Hc P w K mg base 2 "refuse_bad_row" MG OY):HC P w K mg base Hn 3 f fd ["telling"] SA:=by
 refine Hz F P7 λHh A outer s H vs Q E hr h=>?_
 obtain⟨l,T,rfl,⟨us,eL,iL⟩,hT,q⟩:=h
 refine⟨_,HX (Ie Af rfl (Ic (pv 0)) (JM rfl (IH (Hi (i:=1) P7.nd rfl (Or.inl rfl)) (IH (Hi (i:=2) P7.nd rfl (Or.inl rfl)) JQ)))
   (HX (Ir (Hd G hr rfl (Gi (pv 1) Gy))))),?_⟩
 refine⟨_,rfl,l,rfl,⟨us,HU.of eL⟩,?_⟩
 refine Jr (xs:=us) (λi σ H'=>(∃c1 c2,σ=[some (.ref l),c1,c2])/\Gp H H') ?_ ?_ ?_ ?_
 ·exact⟨⟨_,_,rfl⟩,Gp.refl _⟩
 ·rintro i σ H1 _ ⟨_,s1⟩
  exact HU.of (s1 _ _ eL)
 ·rintro i x σ H1 hx ⟨⟨c1,c2,rfl⟩,s1⟩
  obtain⟨t,ht,hi⟩:=Io iL hx
  obtain⟨p,k,q',rfl,hp,hk,hq⟩:=RG hi
  obtain⟨h1,h2⟩:=hT t (AT ht)
  refine⟨p,_,rfl,HM.of (s1 _ _ hp),rfl,_,_,rfl,_,_,rfl,rfl,?_⟩
  exact⟨_,rfl,k,t.1,rfl,s1 _ _ hk,h2,h1,λH2 s2=>⟨⟨_,_,rfl⟩,s1.trans s2⟩⟩
 ·rintro σ H1 ⟨_,s1⟩
  exact q _ s1
noncomputable abbrev wJ:yB:=["kind", "many", "telling", "row", "share"]
noncomputable abbrev kN:yB:=["kind", "many", "telling"]
theorem QB:Gq wJ kN (He aY):=IA
noncomputable def Vc:Sp:=λvs H Q _=>∃(k:Str)(n:Nat)(l:yJ)(T:List Ho),vs=[.str k,.int n,.ref l]/\Gg H l T/\(∀t∈T,JX k n t.1=true)/\∀H',Gp H H'->Q .non H'
theorem pY(F:Hu K "refuse_not_by" "refuse_not_by" aY f fd)(GL:Hc P w K mg base 2 "lets_in" OD RX):HC P w K mg base Hn 3 f fd kN Vc:=by
 refine Hz F QB λHh A outer s H vs Q E hr h=>?_
 obtain⟨k,n,l,T,rfl,⟨us,eL,iL⟩,hT,q⟩:=h
 refine⟨_,HX (Ie Af rfl (Ic (pv 2)) (JM rfl (IH (Hi (i:=3) QB.nd rfl (Or.inl rfl)) (IH (Hi (i:=4) QB.nd rfl (Or.inl rfl)) JQ)))
   (HX (IW (Mq (Ku (Hd GL hr rfl (Gi (pv 0) (Gi (pv 1) (Gi (pv 3) Gy)))))) Tl IX))),?_⟩
 refine⟨_,rfl,l,rfl,⟨us,HU.of eL⟩,?_⟩
 refine Jr (xs:=us) (λi σ H'=>(∃c1 c2,σ=[some (.str k),some (.int n),some (.ref l),c1,c2])/\Gp H H') ?_ ?_ ?_ ?_
 ·exact⟨⟨_,_,rfl⟩,Gp.refl _⟩
 ·rintro i σ H1 _ ⟨_,s1⟩
  exact HU.of (s1 _ _ eL)
 ·rintro i x σ H1 hx ⟨⟨c1,c2,rfl⟩,s1⟩
  obtain⟨t,ht,hi⟩:=Io iL hx
  obtain⟨p,kk,q',rfl,hp,hk,hq⟩:=RG hi
  refine⟨p,_,rfl,HM.of (s1 _ _ hp),rfl,_,_,rfl,_,_,rfl,rfl,?_⟩
  refine⟨_,rfl,_,rfl,_,rfl,k,n,kk,t.1,rfl,s1 _ _ hk,λH2 s2=>⟨_,rfl,?_⟩⟩
  rw[hT t (AT ht)]
  exact JD ⟨⟨_,_,rfl⟩,s1.trans s2⟩
 ·rintro σ H1 ⟨_,s1⟩
  exact q _ s1
theorem Mj{i j:Str}(h:i≠j):¬ (V.str i=V.str j):=λz=>h (by injection z)
theorem Mr{i j:Str}(h:i=j):V.str i=V.str j:=by rw[h]
theorem Z0:Gq OD OD (He sF):=IA
noncomputable def Iw(k:Str)(n:Nat)(r:xX):List Go:=if k = "exchange" then exch n r else if k = "elementary" then Ip (Ih n) n (r.map Int.toNat) else if k = "whole" then Ip (MY n) n (r.map Int.toNat) else if k = "power" then Ip (Ln n) n (r.map Int.toNat) else norm (NC n r)
noncomputable def R1:Sp:=λvs H Q E=>∃(k:Str)(n:Nat)(p:yJ)(r:xX),vs=[.str k,.int n,.ref p]/\1<=n/\n<=4/\H p=some (.tup (r.map V.int))/\Iu r=true/\(k = "exchange" -> r.length<=n)/\(¬ k = "exchange" -> ¬ k = "elementary" -> ¬ k = "whole" -> ¬ k = "power" -> NR n r)/\∀(a:yJ)(H':Hp),H a=none->Gp H H'->Gg H' a (Iw k n r)->Q (.ref a) H'
theorem lY(F:Hu K "sum_by" "sum_by" sF f fd)(G0:Hc P w K mg base 14 "exchange_sum" OB MP)(G1:Hc P w K mg base 14 "elementary_sum" Wo (NP Ih))(G2:Hc P w K mg base 14 "whole_sum" Tn (NP MY))(G3:Hc P w K mg base 14 "power_sum" Ru (NP Ln))(G4:Hc P w K mg base 14 "filled_sum" ["many", "row"] Sy):HC P w K mg base Hn 15 f fd OD R1:=by
 refine Hz F Z0 λHh A outer s H vs Q E hr h=>?_
 obtain⟨k,n,p,r,rfl,n1,n4,hp,hB,hx,hf,q⟩:=h
 refine⟨_,HY (IW (IJ Ke (pv 0) LV (ID _)) (HX (Hq (Hd G0 hr rfl (Gi (pv 1) (Gi (pv 2) Gy))))) IX)
  (HY (IW (IJ Ke (pv 0) LV (ID _)) (HX (Hq (Hd G1 hr rfl (Gi (pv 1) (Gi (pv 2) Gy))))) IX)
  (HY (IW (IJ Ke (pv 0) LV (ID _)) (HX (Hq (Hd G2 hr rfl (Gi (pv 1) (Gi (pv 2) Gy))))) IX)
  (HY (IW (IJ Ke (pv 0) LV (ID _)) (HX (Hq (Hd G3 hr rfl (Gi (pv 1) (Gi (pv 2) Gy))))) IX)
  (HX (Hq (Hd G4 hr rfl (Gi (pv 1) (Gi (pv 2) Gy)))))))),?_⟩
 unfold Iw at q
 refine⟨_,rfl,rfl,_,rfl,?_⟩
 by_cases c0:k = "exchange"
 ·rw[AF c0]at q
  exact Jf (Mr c0) ⟨_,rfl,_,rfl,n,p,r,rfl,n1,n4,hp,hx c0,hB,q⟩
 rw[AD c0]at q
 refine JF (Mj c0) ⟨_,rfl,rfl,_,rfl,?_⟩
 by_cases c1:k = "elementary"
 ·rw[AF c1]at q
  exact Jf (Mr c1) ⟨_,rfl,_,rfl,n,p,r,rfl,n1,n4,hp,hB,q⟩
 rw[AD c1]at q
 refine JF (Mj c1) ⟨_,rfl,rfl,_,rfl,?_⟩
 by_cases c2:k = "whole"
 ·rw[AF c2]at q
  exact Jf (Mr c2) ⟨_,rfl,_,rfl,n,p,r,rfl,n1,n4,hp,hB,q⟩
 rw[AD c2]at q
 refine JF (Mj c2) ⟨_,rfl,rfl,_,rfl,?_⟩
 by_cases c3:k = "power"
 ·rw[AF c3]at q
  exact Jf (Mr c3) ⟨_,rfl,_,rfl,n,p,r,rfl,n1,n4,hp,hB,q⟩
 rw[AD c3]at q
 exact JF (Mj c3) ⟨_,rfl,_,rfl,p,n,r,rfl,hp,hf c0 c1 c2 c3,q⟩
structure PK(n b:Nat)(ts:List Go):Prop where
 n1:1<=n
 n4:n<=4
 can:HZ ts
 ev:Ht n ts
 deg:Deg n 8 b ts
 b1:b<=1000
theorem PK.few{n b:Nat}{ts:List Go}(h:PK n b ts):ts.length<=495:=Wn h.can h.deg h.n1 h.n4
noncomputable def Q9(k:Str)(n:Nat)(ts:List Go):List Go:=if k = "exchange" then Kk ts else if k = "elementary" then IP n ts else if k = "whole" then Mu n ts else KR n ts
structure KB(k:Str)(n b:Nat)(ts:List Go):Prop where
 el:k = "elementary" -> Is n b ts (IP n ts)
 wh:k = "whole" -> Is n b ts (IP n ts)
 po:k = "power" -> Jc (IP n ts)<=8/\Is n b ts (IP n ts)
noncomputable abbrev Nl:yB:=["kind", "many", "some"]
theorem qR:Gq Nl Nl (He sR):=IA
noncomputable def T9:Sp:=λvs H Q E=>∃(k:Str)(n b:Nat)(a:yJ)(ts:List Go),vs=[.str k,.int n,.ref a]/\Gg H a ts/\PK n b ts/\∀(l:yJ)(H':Hp),H l=none->Gp H H'->Gg H' l (Q9 k n ts)->(Q9 k n ts).length<=100000->(k = "power" ∨ KB k n b ts)->Q (.ref l) H'
theorem aI(F:Hu K "whole_telling" "whole_telling" sR f fd)(G0:Hc P w K mg base 14 "by_exchange" ["many", "some"] Sd)(G1:Hc P w K mg base 14 "by_elementary" ["many", "some"] Mt)(G2:Hc P w K mg base 14 "by_whole" ["many", "some"] Vg)(G3:Hc P w K mg base 14 "by_fillings" ["many", "some"] T2):HC P w K mg base Hn 15 f fd Nl T9:=by
 refine Hz F qR λHh A outer s H vs Q E hr h=>?_
 obtain⟨k,n,b,a,ts,rfl,hL,hP,q⟩:=h
 refine⟨_,HY (IW (IJ Ke (pv 0) LV (ID _)) (HX (Hq (Hd G0 hr rfl (Gi (pv 1) (Gi (pv 2) Gy))))) IX)
  (HY (IW (IJ Ke (pv 0) LV (ID _)) (HX (Hq (Hd G1 hr rfl (Gi (pv 1) (Gi (pv 2) Gy))))) IX)
  (HY (IW (IJ Ke (pv 0) LV (ID _)) (HX (Hq (Hd G2 hr rfl (Gi (pv 1) (Gi (pv 2) Gy))))) IX)
  (HX (Hq (Hd G3 hr rfl (Gi (pv 1) (Gi (pv 2) Gy))))))),?_⟩
 have few:=hP.few
 unfold Q9 at q
 refine⟨_,rfl,rfl,_,rfl,?_⟩
 by_cases c0:k = "exchange"
 ·rw[AF c0]at q
  refine Jf (Mr c0) ⟨_,rfl,_,rfl,n,a,ts,rfl,hP.n1,hP.n4,hL,hP.deg.len,by lia,hP.ev,λl H' h1 h2 h3=>q l H' h1 h2 h3 ?_ (.inr ⟨λz=>?_,λz=>?_,λz=>?_⟩)⟩
  ·have:=E9 LX ts
   show(ts.filterMap LX).length<=100000
   lia
  all_goals rw[c0]at z;exact absurd z (by decide)
 rw[AD c0]at q
 refine JF (Mj c0) ⟨_,rfl,rfl,_,rfl,?_⟩
 by_cases c1:k = "elementary"
 ·rw[AF c1]at q
  refine Jf (Mr c1) ⟨_,rfl,_,rfl,n,b,a,ts,rfl,hP.n1,hP.n4,hL,hP.can,hP.ev,hP.deg,hP.b1,λl H' h1 h2 h3 tk=>q l H' h1 h2 h3 (by have:=tk.few;lia) (.inr ⟨λz=>tk,λz=>tk,λz=>?_⟩)⟩
  rw[c1]at z;exact absurd z (by decide)
 rw[AD c1]at q
 refine JF (Mj c1) ⟨_,rfl,rfl,_,rfl,?_⟩
 by_cases c2:k = "whole"
 ·rw[AF c2]at q
  refine Jf (Mr c2) ⟨_,rfl,_,rfl,n,b,a,ts,rfl,hP.n1,hP.n4,hL,hP.can,hP.ev,hP.deg,hP.b1,λl H' h1 h2 h3 tk tw=>q l H' h1 h2 h3 (by have:=tw.few;lia) (.inr ⟨λz=>tk,λz=>tk,λz=>?_⟩)⟩
  rw[c2]at z;exact absurd z (by decide)
 rw[AD c2]at q
 refine JF (Mj c2) ⟨_,rfl,_,rfl,n,b,a,ts,rfl,hP.n1,hP.n4,hL,hP.ev,hP.deg,by have:=hP.b1;lia,by lia,λl H' h1 h2 h3=>q l H' h1 h2 h3 ?_ ?_⟩
 ·unfold KR Ly
  rw[AB]
  have a1:=C8 (λt:Go=>JB (Ix n t.1)) (norm (prd ts (K5 n)))
  have a2:=Pc (prd ts (K5 n))
  have dk:=WM n (Jp hP.n1 hP.n4)
  rw[AI,AI,AQ]at dk
  rw[Q0]at a2
  have:=B1 (show ts.length<=1000 by lia) dk.2
  lia
 ·by_cases c3:k = "power"
  ·exact .inl c3
  ·exact .inr ⟨λz=>absurd z c1,λz=>absurd z c2,λz=>absurd z c3⟩
noncomputable abbrev uW:yB:=["row", "number"]
theorem Ue:uW.Nodup:=by decide +kernel
theorem ZF:Gq Nl Nl (He Wk):=IA
noncomputable def MO(t:Go):Ho:=(t.1,[t.2,1])
noncomputable def Ny(k:Str)(n:Nat)(ts:List Go):List Ho:=if k = "power" then TB n ts else (Q9 k n ts).map MO
noncomputable def V4:Sp:=λvs H Q E=>∃(k:Str)(n b:Nat)(a:yJ)(ts:List Go),vs=[.str k,.int n,.ref a]/\Gg H a ts/\PK n b ts/\∀(l:yJ)(H':Hp),H l=none->Gp H H'->Gg H' l (Ny k n ts)->(Ny k n ts).length<=100000->KB k n b ts->Q (.ref l) H'
theorem oX(F:Hu K "shared_telling" "shared_telling" Wk f fd)(G0:Hc P w K mg base 15 "by_power" ["many", "some"] WB)(G1:Hc P w K mg base 15 "whole_telling" Nl T9):HC P w K mg base Hn 16 f fd Nl V4:=by
 refine Hz F ZF λHh A outer s H vs Q E hr h=>?_
 obtain⟨k,n,b,a,ts,rfl,hL,hP,q⟩:=h
 refine⟨_,HY (IW (IJ Ke (pv 0) LV (ID _)) (HX (Hq (Hd G0 hr rfl (Gi (pv 1) (Gi (pv 2) Gy))))) IX)
  (HX (Hq (JK (N':=uW) (src:=[none,none]) rfl (Ic (Hd G1 hr rfl (Gi (pv 0) (Gi (pv 1) (Gi (pv 2) Gy))))) (JJ (He Wk) Nl (by decide +kernel))
   (λb=>JM rfl (IH (Hi (i:=0) Ue rfl (Or.inl rfl)) (IH (Hi (i:=1) Ue rfl (Or.inl rfl)) JQ))) (λb=>Jh)
   (λb=>IE (Gi (pv 0) (Gi (IE (Gi (pv 1) (Gi Ha Gy))) Gy)))))),?_⟩
 refine⟨_,rfl,rfl,_,rfl,?_⟩
 unfold Ny at q
 by_cases c0:k = "power"
 ·rw[AF c0]at q
  refine Jf (Mr c0) ⟨_,rfl,_,rfl,n,b,a,ts,rfl,hP.n1,hP.n4,hL,hP.can,hP.ev,hP.deg,hP.b1,λl H' h1 h2 h3 mx tk bk=>q l H' h1 h2 h3 ?_ ⟨λz=>?_,λz=>?_,λz=>⟨mx,tk⟩⟩⟩
  ·unfold TB
   rw[AB]
   have:=bk.few
   lia
  all_goals rw[c0]at z;exact absurd z (by decide)
 rw[AD c0]at q
 refine JF (Mj c0) ⟨_,rfl,_,rfl,_,rfl,k,n,b,a,ts,rfl,hL,hP,λl H1 h1 s1 hL few ok=>?_⟩
 have q:=λl H' h1 h2 h3 h4=>q l H' h1 h2 h3 h4 (ok.resolve_left c0)
 generalize Q9 k n ts=W at *
 obtain⟨ws,eW,iW⟩:=hL
 have lw:=AM iW
 refine⟨l,rfl,⟨_,HU.of eW⟩,λbk D hD=>?_⟩
 refine Km (α:=Ho) hD (HU.of eW) (λσ=>∃c d,σ=[c,d]) (λi=>(W[i]?).bind λt=>some (MO t)) (small (by lia)) ⟨_,_,rfl⟩ ?_ ?_
 ·rintro i x σ H2 Yes No hx ⟨c,d,rfl⟩ s2 yes no
  obtain⟨t,ht,hi⟩:=Io iW hx
  obtain⟨p,kk,rfl,hp,hkk⟩:=KF hi
  refine⟨p,_,rfl,HM.of (s2 _ _ hp),rfl,_,_,rfl,_,_,rfl,rfl,?_⟩
  refine LS ?_
  refine⟨_,rfl,_,rfl,Iv,λt3 h3=>⟨Iv,λt4 h4=>?_⟩⟩
  have s3:=HW h3 (.tup [.int t.2,.int 1])
  have s4:=HW h4 (.tup [.ref kk,.ref t3])
  exact yes _ _ _ (MO t) ⟨_,_,rfl⟩ (s3.trans s4) (by rw[ht];rfl) (PR (t:=MO t) HR (s4 _ _ (s3 _ _ (s2 _ _ hkk))) (s4 _ _ HR))
 rintro H2 s2 h2
 rw[lw,Js,Aw]at h2
 exact q D H2 (s1.free hD) (s1.trans s2) h2 (by rw[AB];lia)
end
section
variable{P:yL}{w:yM}{K:yG}{mg:Str->yD}{base:Heap}{f g:yJ}{fd gd:yN}
noncomputable def Hx(x:Ho):Nat:=(x.2.getD 1 0).toNat
noncomputable def IL(x:Ho):Int:=x.2.getD 0 0
structure NQ(x:Ho):Prop where
 is_:x.2=[IL x,(Hx x:Int)]
 pos:1<=Hx x
 low:Hx x<1152921504606846976
noncomputable def IS(X:List Ho):Nat:=X.foldl (λs x=>Nat.lcm s (Hx x)) 1
theorem Zk(X:List Ho)(x:Ho):IS (X++[x])=Nat.lcm (IS X) (Hx x):=by
 unfold IS
 rw[CC]
 rfl
theorem OO:∀X:List Ho,(∀x∈X,1<=Hx x)->1<=IS X:=by
 have key:∀(X:List Ho)(s:Nat),1<=s->(∀x∈X,1<=Hx x)->1<=X.foldl (λs x=>Nat.lcm s (Hx x)) s:=by
  intro X
  induction X with
  |nil=>intro s h _;exact h
  |cons x X ih =>
   intro s h hx
   exact ih _ (Nat.lcm_pos h (hx x (AG ..))) λy hy=>hx y (AE _ hy)
 exact λX h=>key X 1 (AH _) h
noncomputable abbrev wR:yB:=["telling", "common", "row", "share"]
theorem MT:Gq wR ["telling"] (He Xm):=IA
noncomputable def VM:Sp:=λvs H Q _=>∃(l:yJ)(T:List Ho),vs=[.ref l]/\Gg H l T/\(∀t∈T,NQ t)/\(∀i,IS (T.take i)<2^100)/\Q (.int (IS T:Int)) H
theorem sZ(F:Hu K "common_bottom" "common_bottom" Xm f fd)(GC:Hc P w K mg base 3 "common_divisor" ["one", "other"] PH):HC P w K mg base Hn 4 f fd ["telling"] VM:=by
 refine Hz F MT λHh A outer s H vs Q E hr h=>?_
 obtain⟨l,T,rfl,⟨us,eL,iL⟩,hT,hB,q⟩:=h
 refine⟨_,HY (Hv (i:=1) MT.nd rfl (Or.inl rfl) Ha)
  (HY (Ie Af rfl (Ic (pv 0)) (JM rfl (IH (Hi (i:=2) MT.nd rfl (Or.inl rfl)) (IH (Hi (i:=3) MT.nd rfl (Or.inl rfl)) JQ)))
   (HX (Hv (i:=1) MT.nd rfl (Or.inl rfl) (Hf RL (Hf Nh (pv 1) (IY JU (pv 3) Ha (λ_ _=>rfl))) (Hd GC hr rfl (Gi (pv 1) (Gi (IY JU (pv 3) Ha (λ_ _=>rfl)) Gy)))))))
  (HX (Hq (pv 1)))),?_⟩
 have lu:=AM iL
 refine⟨_,rfl,l,rfl,⟨us,HU.of eL⟩,?_⟩
 refine Jr (xs:=us) (λi σ H'=>(∃c2 c3,σ=[some (.ref l),some (.int (IS (T.take i):Int)),c2,c3])/\H'=H) ?_ ?_ ?_ ?_
 ·exact⟨⟨_,_,rfl⟩,rfl⟩
 ·rintro i σ H1 _ ⟨_,rfl⟩
  exact HU.of eL
 ·rintro i x σ H1 hx ⟨⟨c2,c3,rfl⟩,rfl⟩
  obtain⟨t,ht,hi⟩:=Io iL hx
  obtain⟨p,k,q',rfl,hp,hk,hq⟩:=RG hi
  have tm:=AT ht
  have fp:=hT t tm
  rw[fp.is_]at hq
  have lp:=OO (T.take i) λx hx=>(hT x (BJ hx)).pos
  have lb:=hB i
  rw[JW ht,Zk]
  generalize IS (T.take i)=m at *
  have fl:=fp.low
  have fpos:=fp.pos
  generalize Hx t=b at *
  refine⟨p,_,rfl,HM.of hp,rfl,_,_,rfl,_,_,rfl,rfl,?_⟩
  have g0:0<Nat.gcd m b:=Ci _ fpos
  have g1:Nat.gcd m b<=b:=FG _ fpos
  refine⟨_,rfl,_,rfl,q',_,_,.int (b:Int),rfl,rfl,HM.of hq,JY (j:=1) rfl,_,_,rfl,rfl,⟨?_,?_⟩,_,rfl,_,rfl,q',_,_,.int (b:Int),rfl,rfl,HM.of hq,JY (j:=1) rfl,m,b,rfl,_,_,rfl,rfl,⟨?_,?_⟩,?_⟩
  ·rw[Be];exact DJ lb (Bq (by decide) (by decide))
  ·exact TZ (by lia)
  ·show(0:Int)<((Nat.gcd m b:Nat):Int);lia
  ·show((Nat.gcd m b:Nat):Int)<1152921504606846976;lia
  ·have eL:((Nat.lcm m b:Nat):Int)=(m:Int)*(b:Int) / ((Nat.gcd m b:Nat):Int):=by unfold Nat.lcm;rw[FH,BW]
   rw[eL]
   exact⟨⟨_,_,rfl⟩,rfl⟩
 ·rintro σ H1 ⟨⟨c2,c3,rfl⟩,rfl⟩
  rw[Ab (by lia)]
  exact⟨_,rfl,q⟩
noncomputable abbrev vQ:yB:=["kind", "many", "telling", "often", "terms", "row", "share", "top"]
noncomputable abbrev pP:yB:=["kind", "many", "telling", "often"]
noncomputable abbrev tO:yB:=["powers", "number", "top"]
theorem VC:tO.Nodup:=by decide +kernel
theorem ML:Gq vQ pP (He Wl):=IA
noncomputable def J8(k:Str)(n o:Nat)(T:List Ho):List Go:=T.flatMap λt=>scl (IL t*((o:Int) / (Hx t:Int))) (Iw k n t.1)
theorem kO(k:Str)(n o:Nat)(T:List Ho)(t:Ho):J8 k n o (T++[t])=J8 k n o T++scl (IL t*((o:Int) / (Hx t:Int))) (Iw k n t.1):=by
 unfold J8
 rw[BM,BX]
theorem WS{k:Str}{n o:Nat}:∀T:List Ho,(∀t∈T,(Iw k n t.1).length<=500)->(J8 k n o T).length<=500*T.length
 |[],_=>by simp [J8]
 |t::T,h=>by
  have ih:=WS (o:=o) T λu hu=>h u (AE _ hu)
  have:=h t (AG ..)
  show(scl _ (Iw k n t.1)++J8 k n o T).length<=_
  rw[AJ,OT,Am]
  lia
structure eJ(k:Str)(n:Nat)(t:Ho):Prop where
 fr:NQ t
 top:(IL t).natAbs<2^20000
 row:Iu t.1=true
 ex:k = "exchange" -> t.1.length<=n
 fi:¬ k = "exchange" -> ¬ k = "elementary" -> ¬ k = "whole" -> ¬ k = "power" -> NR n t.1
 few:(Iw k n t.1).length<=500
 num:∀u∈Iw k n t.1,u.1.length=n/\u.2.natAbs<2^1000
noncomputable def Vl:Sp:=λvs H Q _=>∃(k:Str)(n o:Nat)(l:yJ)(T:List Ho),vs=[.str k,.int n,.ref l,.int o]/\1<=n/\n<=4/\Gg H l T/\T.length<=100/\o<2^100/\(∀t∈T,eJ k n t) /\
 ∀(a:yJ)(H':Hp),H a=none->Gp H H'->Gg H' a (norm (J8 k n o T))->Q (.ref a) H'
theorem Yr(F:Hu K "summed_up" "summed_up" Wl f fd)(GS:Hc P w K mg base 15 "sum_by" OD R1)(GG:Hc P w K mg base 15 "gathered" ["terms"] RH):HC P w K mg base Hn 16 f fd pP Vl:=by
 refine Hz F ML λHh A outer s H vs Q E hr h=>?_
 obtain⟨k,n,o,l,T,rfl,n1,n4,⟨us,eL,iL⟩,lT,ho,hT,q⟩:=h
 refine⟨_,HY (Hv (i:=4) ML.nd rfl (Or.inl rfl) (Ik Gy))
  (HY (Ie Af rfl (Ic (pv 2)) (JM rfl (IH (Hi (i:=5) ML.nd rfl (Or.inl rfl)) (IH (Hi (i:=6) ML.nd rfl (Or.inl rfl)) JQ)))
   (HY (Hv (i:=7) ML.nd rfl (Or.inr rfl) (Hf Nh (IY JU (pv 6) Ha (λ_ _=>rfl)) (Hf RL (pv 3) (IY JU (pv 6) Ha (λ_ _=>rfl)))))
   (HX (Ir (Kr A6 FD FE S1 (pv 4) (Gi (JK (N':=tO) (src:=[none,none,some 7]) rfl (Ic (Hd GS hr rfl (Gi (pv 0) (Gi (pv 1) (Gi (pv 5) Gy))))) (JJ (He Wl) vQ (by decide +kernel))
    (λb=>JM rfl (IH (Hi (i:=0) VC rfl (Or.inl rfl)) (IH (Hi (i:=1) VC rfl (Or.inl rfl)) JQ))) (λb=>Jh)
    (λb=>IE (Gi (pv 0) (Gi (Hf Nh (pv 2) (pv 1)) Gy)))) Gy))))))
  (HX (Hq (Hd GG hr rfl (Gi (pv 4) Gy))))),?_⟩
 have lu:=AM iL
 refine⟨JP,λlR hR=>?_⟩
 have s0:=HW hR (.lst [])
 refine⟨_,rfl,l,rfl,⟨us,HU.of (s0 _ _ eL)⟩,?_⟩
 refine Jr (xs:=us) (λi σ H'=>(∃c5 c6 c7,σ=[some (.str k),some (.int n),some (.ref l),some (.int o),some (.ref lR),c5,c6,c7])/\Gg H' lR (J8 k n o (T.take i))/\Gp H H') ?_ ?_ ?_ ?_
 ·exact⟨⟨_,_,_,rfl⟩,⟨[],HR,.nil⟩,s0⟩
 ·rintro i σ H1 _ ⟨_,_,s1⟩
  exact HU.of (s1 _ _ eL)
 ·rintro i x σ H1 hx ⟨⟨c5,c6,c7,rfl⟩,hW,s1⟩
  obtain⟨t,ht,hi⟩:=Io iL hx
  obtain⟨p,kk,q',rfl,hp,hk,hq⟩:=RG hi
  have tm:=AT ht
  have sr:=hT t tm
  have fp:=sr.fr
  have tb:=sr.top
  have il:i<T.length:=(AZ.mp ht).1
  have fw:=WS (k:=k) (n:=n) (o:=o) (T.take i) λu hu=>(hT u (BJ hu)).few
  rw[Ap]at fw
  have ex:=sr.few
  rw[fp.is_]at hq
  rw[JW ht,kO]
  have b0:=fp.pos
  have b1:=fp.low
  have hq1:=s1 _ _ hq
  refine⟨p,_,rfl,HM.of (s1 _ _ hp),rfl,_,_,rfl,_,_,rfl,rfl,?_⟩
  have ob:(((o:Int) / (Hx t:Int))).natAbs<2^100:=by
   rw[<-FH,Be]
   exact A7 (Nat.div_le_self _ _) ho
  refine⟨_,rfl,q',_,_,.int (IL t),rfl,rfl,HM.of hq1,JY (j:=0) rfl,_,rfl,_,rfl,q',_,_,.int (Hx t:Int),rfl,rfl,HM.of hq1,JY (j:=1) rfl,_,_,rfl,rfl,⟨by lia,by lia⟩,_,_,rfl,rfl,⟨JS tb (by decide),JS ob (by decide)⟩,?_⟩
  have mb:(IL t*((o:Int) / (Hx t:Int))).natAbs<2^21000:=by
   rw[CA]
   refine Ax (Nat.mul_lt_mul'' tb ob) ?_
   rw[<-EB]
   exact Cg (by decide) (by decide)
  show J4 7 (V.int (IL t*((o:Int) / (Hx t:Int)))) _ _ _
  generalize IL t*((o:Int) / (Hx t:Int))=c at *
  obtain⟨ws,eW,iW⟩:=id hW
  have lw:=AM iW
  refine⟨_,rfl,.inl ⟨rfl,_,HU.of eW⟩,_,rfl,_,rfl,_,rfl,k,n,kk,t.1,rfl,n1,n4,s1 _ _ hk,sr.row,sr.ex,sr.fi,λl2 H2 h2 s2 hE=>?_⟩
  obtain⟨vs,eE,iE⟩:=hE
  have lE:=AM iE
  refine⟨l2,rfl,⟨_,HU.of eE⟩,λbk D hD=>?_⟩
  refine Km (α:=Go) hD (HU.of eE) (λσ=>∃a b,σ=[a,b,some (.int c)]) (λi=>((Iw k n t.1)[i]?).bind λu=>some (u.1,c*u.2)) (small (by lia)) ⟨_,_,rfl⟩ ?_ ?_
  ·rintro j x σ H3 Yes No hx ⟨a,b,rfl⟩ s3 yes no
   obtain⟨u,hu,hi⟩:=Io iE hx
   obtain⟨pu,ku,rfl,hpu,hku⟩:=KF hi
   have u2:=(sr.num u (AT hu)).2
   refine⟨pu,_,rfl,HM.of (s3 _ _ hpu),rfl,_,_,rfl,_,_,rfl,rfl,?_⟩
   refine LS ?_
   refine⟨_,rfl,_,rfl,_,rfl,_,_,rfl,rfl,⟨JS mb (by decide),JS u2 (by decide)⟩,Iv,λp4 h4=>?_⟩
   have s4:=HW h4 (.tup [.ref ku,.int (c*u.2)])
   exact yes _ _ _ (u.1,c*u.2) ⟨_,_,rfl⟩ s4 (by rw[hu];rfl) (Jg (t:=(u.1,c*u.2)) HR (s4 _ _ (s3 _ _ hku)))
  rintro H3 s3 hS
  rw[lE,Js,Aw]at hS
  obtain⟨zs,eZ,iZ⟩:=hS
  have iZ:Hr H3 zs (scl c (Iw k n t.1)):=iZ
  have lz:=AM iZ
  rw[OT]at lz
  have z:=s2.trans s3
  have eW3:=z _ _ eW
  refine⟨lR,D,ws,zs,rfl,rfl,eW3,eZ,small (by lia),⟨_,_,_,rfl⟩,⟨ws++zs,HR,Paired.app (Hr.mono ((Hb.same z).trans (Ky eW3 _)) iW) (Hr.mono (Ky eW3 _) iZ)⟩,Lo hR (s1.trans z) _⟩
 ·rintro σ H1 ⟨⟨c5,c6,c7,rfl⟩,hW,s1⟩
  rw[Ab (by lia)]at hW
  have fw:=WS (k:=k) (n:=n) (o:=o) T λu hu=>(hT u hu).few
  refine⟨_,rfl,lR,J8 k n o T,rfl,hW,λt ht=>?_,by lia,λa H2 h2 s2 hL=>q a H2 (s1.free h2) (s1.trans s2) hL⟩
  obtain⟨u,hu,hm⟩:=A5.mp ht
  obtain⟨y,hy,rfl⟩:=AN.mp hm
  have:=((hT u hu).num y hy).1
  intro e
  rw[e]at this
  simp at this
  lia
end
section
variable{P:yL}{w:yM}{K:yG}{mg:Str->yD}{base:Heap}{f g:yJ}{fd gd:yN}
noncomputable abbrev uH:yB:=["many", "telling", "kind", "other", "often", "some"]
noncomputable abbrev Z2:yB:=["many", "telling", "kind", "other"]
noncomputable abbrev uN:yB:=["row", "share", "often"]
theorem VY:uN.Nodup:=by decide +kernel
theorem Oo:Gq uH Z2 (He Np):=IA
noncomputable def Nq(m:Nat)(t:Ho):Ho:=(t.1,JN (IL t) (Hx t*m))
noncomputable def Ij(k:Str)(n:Nat)(T:List Ho):List Go:=norm (J8 k n (IS T) T)
noncomputable def LP(k o:Str)(n:Nat)(T:List Ho):List Ho:=(Ny o n (Ij k n T)).map (Nq (IS T))
structure L9(k o:Str)(n b:Nat)(T:List Ho):Prop where
 su:∀t∈T,eJ k n t
 len:∀t∈T,t.1.length<=1000
 few:T.length<=100
 lk:∀t∈T,JX k n t.1=true
 hk:k∈Hj
 ho:o∈Hj
 lcm:∀i,IS (T.take i)<2^100
 ev:PK n b (Ij k n T)
 fr:KB o n b (Ij k n T)->∀t∈Ny o n (Ij k n T),NQ t/\Hx t*IS T<1152921504606846976
@[irreducible] noncomputable def Qg:Sp:=λvs H Q E=>∃(k o:Str)(n b:Nat)(l:yJ)(T:List Ho),vs=[.int n,.ref l,.str k,.str o]/\Gg H l T/\L9 k o n b T/\∀(l':yJ)(H':Hp),H l'=none->Gp H H'->Gg H' l' (LP k o n T)->KB o n b (Ij k n T)->Q (.ref l') H'
theorem Qe{k o:Str}{n b:Nat}{l:yJ}{T:List Ho}{H:Hp}{Q:VK}{E:XK}(hL:Gg H l T)(ok:L9 k o n b T)(q:∀(l':yJ)(H':Hp),H l'=none->Gp H H'->Gg H' l' (LP k o n T)->KB o n b (Ij k n T)->Q (.ref l') H'):Qg [.int n,.ref l,.str k,.str o] H Q E:=by
 unfold Qg
 exact⟨k,o,n,b,l,T,rfl,hL,ok,q⟩
theorem nR(F:Hu K "carried" "carried" Np f fd)(GR:Hc P w K mg base 17 "refuse_bad_rows" ["telling"] SA)(GC:Hc P w K mg base 17 "refuse_bad_count" ["many"] Nz)(GK:Hc P w K mg base 17 "refuse_no_kind" ["kind"] Sr)(GN:Hc P w K mg base 17 "refuse_not_by" kN Vc)(GB:Hc P w K mg base 17 "common_bottom" ["telling"] VM)(GS:Hc P w K mg base 17 "summed_up" pP Vl)(GH:Hc P w K mg base 17 "shared_telling" Nl V4)(GF:Hc P w K mg base 17 "fraction" ["top", "bottom"] Oy):HC P w K mg base Hn 18 f fd Z2 Qg:=by
 refine F.ok Oo (λvs H Q E h=>?_) (λHh A outer s H vs Q E hr h=>?_)
 ·unfold Qg at h
  obtain⟨k,o,n,b,l,T,rfl,_⟩:=h
  rfl
 unfold Qg at h
 obtain⟨k,o,n,b,l,T,rfl,hL,ok,q⟩:=h
 refine⟨_,HY (Ir (Hd GR hr rfl (Gi (pv 1) Gy)))
  (HY (Ir (Hd GC hr rfl (Gi (pv 0) Gy)))
  (HY (Ir (Hd GK hr rfl (Gi (pv 2) Gy)))
  (HY (Ir (Hd GK hr rfl (Gi (pv 3) Gy)))
  (HY (Ir (Hd GN hr rfl (Gi (pv 2) (Gi (pv 0) (Gi (pv 1) Gy)))))
  (HY (Hv (i:=4) Oo.nd rfl (Or.inr rfl) (Hd GB hr rfl (Gi (pv 1) Gy)))
  (HY (Hv (i:=5) Oo.nd rfl (Or.inl rfl) (Hd GS hr rfl (Gi (pv 2) (Gi (pv 0) (Gi (pv 1) (Gi (pv 4) Gy))))))
  (HX (Hq (JK (N':=uN) (src:=[none,none,some 4]) rfl (Ic (Hd GH hr rfl (Gi (pv 3) (Gi (pv 0) (Gi (pv 5) Gy))))) (JJ (He Np) uH (by decide +kernel))
   (λb=>JM rfl (IH (Hi (i:=0) VY rfl (Or.inl rfl)) (IH (Hi (i:=1) VY rfl (Or.inl rfl)) JQ))) (λb=>Jh)
   (λb=>IE (Gi (pv 0) (Gi (Hd GF hr rfl (Gi (IY JU (pv 1) Ha (λ_ _=>rfl)) (Gi (Hf Nh (IY JU (pv 1) Ha (λ_ _=>rfl)) (pv 2)) Gy))) Gy)))))))))))),?_⟩
 have n1:=ok.ev.n1
 have n4:=ok.ev.n4
 refine⟨_,rfl,l,T,rfl,hL,λt ht=>⟨(ok.su t ht).row,ok.len t ht⟩,λH1 s1=>?_⟩
 refine⟨_,rfl,n,rfl,by lia,by lia,?_⟩
 refine⟨_,rfl,k,rfl,ok.hk,?_⟩
 refine⟨_,rfl,o,rfl,ok.ho,?_⟩
 refine⟨_,rfl,_,rfl,_,rfl,k,n,l,T,rfl,hL.mono s1,ok.lk,λH2 s2=>?_⟩
 have s12:=s1.trans s2
 have hL2:=hL.mono s12
 refine⟨_,rfl,l,_,rfl,hL2,λt ht=>(ok.su t ht).fr,ok.lcm,?_⟩
 have lt:=ok.lcm T.length
 rw[Ba]at lt
 have lp:=OO T λx hx=>(ok.su x hx).fr.pos
 have fr:=ok.fr
 have ev:=ok.ev
 unfold LP at q
 have eP:Ij k n T=norm (J8 k n (IS T) T):=rfl
 generalize Ij k n T=p at *
 generalize IS T=m at *
 refine⟨_,rfl,_,rfl,_,rfl,_,rfl,k,n,m,l,_,rfl,n1,n4,hL2,ok.few,lt,ok.su,λa H3 h3 s3 hS=>?_⟩
 rw[<-eP]at hS
 refine⟨_,rfl,_,rfl,_,rfl,o,n,b,a,p,rfl,hS,ev,λl4 H4 h4 s4 hL4 f4 g4=>?_⟩
 have q:=λl' H' x1 x2 x3=>q l' H' x1 x2 x3 g4
 have fr:=fr g4
 generalize Ny o n p=W at *
 obtain⟨ws,eW,iW⟩:=hL4
 have lw:=AM iW
 refine⟨l4,rfl,⟨_,HU.of eW⟩,λbk D hD'=>?_⟩
 have z:=s12.trans (s3.trans s4)
 refine Km (α:=Ho) hD' (HU.of eW) (λσ=>∃c d,σ=[c,d,some (.int (m:Int))]) (λi=>(W[i]?).bind λt=>some (Nq m t)) (small (by lia)) ⟨_,_,rfl⟩ ?_ ?_
 ·rintro i x σ H5 Yes No hx ⟨c,d,rfl⟩ s5 yes no
  obtain⟨t,ht,hi⟩:=Io iW hx
  obtain⟨p',kk,q',rfl,hp,hkk,hq⟩:=RG hi
  obtain⟨fp,fb⟩:=fr t (AT ht)
  rw[fp.is_]at hq
  have hq5:=s5 _ _ hq
  have b0:=fp.pos
  have b1:=fp.low
  refine⟨p',_,rfl,HM.of (s5 _ _ hp),rfl,_,_,rfl,_,_,rfl,rfl,?_⟩
  refine LS ?_
  refine⟨_,rfl,_,rfl,q',_,_,.int (IL t),rfl,rfl,HM.of hq5,JY (j:=0) rfl,_,rfl,q',_,_,.int (Hx t:Int),rfl,rfl,HM.of hq5,JY (j:=1) rfl,_,rfl,_,_,rfl,rfl,⟨TZ (by lia),?_⟩,IL t,Hx t*m,(by show [V.int (IL t),V.int ((Hx t:Int)*(m:Int))]=_;rw[BW]),DW b0 lp,fb,λp6 H6 h6 s6 e6=>⟨Iv,λt7 h7=>?_⟩⟩
  ·rw[Be]
   exact DJ lt (Bq (by decide) (by decide))
  have s7:=HW h7 (.tup [.ref kk,.ref p6])
  exact yes _ _ _ (Nq m t) ⟨_,_,rfl⟩ (s6.trans s7) (by rw[ht];rfl) (PR (t:=Nq m t) HR (s7 _ _ (s6 _ _ (s5 _ _ hkk))) (s7 _ _ e6))
 rintro H5 s5 h5
 rw[lw,Js,Aw]at h5
 exact q D H5 (z.free hD') (z.trans s5) h5
end
section
variable{P:yL}{w:yM}{K:yG}{mg:Str->yD}{base:Heap}{f g:yJ}{fd gd:yN}
theorem sX{n:Nat}{f g:List Go}(hf:Ht n f)(hg:Ht n g)(lf:∀t∈f,t.1.length=n)(lg:∀t∈g,t.1.length=n)(h:∀p:Pw,((∃t∈f,t.1=p)∨∃t∈g,t.1=p)->(∀k,k+1<p.length->p.getD (k+1) 0<=p.getD k 0)->cf f p=cf g p):norm f=norm g:=by
 have eD:Ht n (norm (f++ngt g)):=(WQ hf (Ua hg)).norm
 have mD:∀t∈norm (f++ngt g),(∃u∈f,u.1=t.1)∨∃u∈g,u.1=t.1:=λt ht=>by
  obtain⟨u,hu,e⟩:=J7 ht
  rcases Ao.mp hu with hu|hu
  ·exact .inl ⟨u,hu,e⟩
  ·obtain⟨v,hv,rfl⟩:=AN.mp hu
   exact .inr ⟨v,hv,e⟩
 have lD:∀t∈norm (f++ngt g),t.1.length=n:=λt ht=>by
  rcases mD t ht with⟨u,hu,e⟩|⟨u,hu,e⟩
  ·rw[<-e];exact lf u hu
  ·rw[<-e];exact lg u hu
 have c:=JV (f++ngt g)
 have k0:∀p,cf (norm (f++ngt g)) p=cf f p-cf g p:=λp=>by
  rw[J6,NT,JA p (ngt g),NV,<-JA]
  lia
 generalize norm (f++ngt g)=D at *
 cases D with
 |nil =>
  refine wB λp=>?_
  have:=k0 p
  have e0:cf ([]:List Go) p=0:=rfl
  lia
 |cons t r =>
  exfalso
  have tm:=AG (a:=t) (l:=r)
  have t0:=c.num t tm
  have e:=c.head
  have l:=lD t tm
  have:=h t.1 (mD t tm) λk hk=>vX c eD lD (by rw[l]at hk;exact hk)
  have:=k0 t.1
  lia
noncomputable def tL(n:Nat)(p:Pw):Bool:=decide ((IK p).length<=n)&&Iu (IK p)&&JB p&&(List.range (n-1)).all (λj=>decide (norm (KZ (exch n (IK p)) j)=norm (exch n (IK p))))&&(exch n (IK p)).all (λt=>decide (t.1.length=n)&&t.1.all (λx=>decide (0<=x))&&decide (t.1.sum<=8))&&(fl n).all (λq=>decide (cf (exch n (IK p)) q=if p=q then 1 else 0))
theorem Zx:∀n∈[1,2,3,4],(fl n).all (tL n)=true:=by decide +kernel
structure bM(n:Nat)(p:Pw):Prop where
 len:(IK p).length<=n
 row:Iu (IK p)=true
 fal:JB p=true
 ev:Ht n (exch n (IK p))
 ter:∀t∈exch n (IK p),t.1.length=n/\(∀x∈t.1,0<=x)/\t.1.sum<=8
 at_:∀q∈fl n,cf (exch n (IK p)) q=if p=q then 1 else 0
theorem QF{n:Nat}{p:Pw}(n1:1<=n)(n4:n<=4)(h:p∈fl n):bM n p:=by
 have:=AR.mp (Zx n (Jp n1 n4)) p h
 unfold tL at this
 simp only[AI,AQ,AR]at this
 obtain⟨⟨⟨⟨⟨h1,h2⟩,h3⟩,h4⟩,h5⟩,h6⟩:=this
 exact⟨h1,h2,h3,λk hk=>h4 k (Al.mpr (by lia)),λt ht=>⟨(h5 t ht).1.1,(h5 t ht).1.2,(h5 t ht).2⟩,h6⟩
theorem qS{p:Pw}(h:JB p=true):∀k,k+1<p.length->p.getD (k+1) 0<=p.getD k 0:=λk hk=>by
 have e:=(V2 p).mp h
 have f:p.Pairwise λa b=>b<=a:=by rw[e];exact Wh p
 have:=Bx.mp f k (k+1) (by lia) hk (by lia)
 rw[Ad,Ad,AL hk,AL (show k<p.length by lia)]
 exact this
theorem RV(G:Pw->Int):∀ts:List Go,sm G (Kk ts)=sm (λp=>if JB p=true then G (IK p) else 0) ts
 |[]=>rfl
 |t::ts=>by
  have ih:sm G (ts.filterMap LX)=sm (λp=>if JB p=true then G (IK p) else 0) ts:=RV G ts
  show sm G ((t::ts).filterMap LX)=t.2*(if JB t.1=true then G (IK t.1) else 0)+sm (λp=>if JB p=true then G (IK p) else 0) ts
  rw[Bj]
  by_cases h:JB t.1=true
  ·rw[show LX t=some (IK t.1,t.2) from AF h,AF h,<-ih]
   rfl
  ·rw[show LX t=none from AD h,AD h,<-ih]
   show sm G (ts.filterMap LX)=_
   lia
noncomputable def NN(n:Nat)(T:List Go):List Go:=T.flatMap λt=>scl t.2 (exch n t.1)
theorem Vx(n:Nat)(q:Pw):∀T:List Go,cf (NN n T) q=sm (λr=>cf (exch n r) q) T
 |[]=>rfl
 |t::T=>by
  have ih:=Vx n q T
  show cf (scl t.2 (exch n t.1)++NN n T) q=t.2*cf (exch n t.1) q+sm (λr=>cf (exch n r) q) T
  rw[NT,ih,JA q (scl _ _),Jk,<-JA]
theorem mF{n b:Nat}{ts:List Go}(d:Deg n 8 b ts):∀t∈Kk ts,∃p∈fl n,t.1=IK p/\t.2.natAbs<2^b:=λt ht=>by
 obtain⟨u,hu,e⟩:=DS.mp ht
 unfold LX at e
 by_cases h1:JB u.1=true
 ·rw[AF h1]at e
  cases e
  exact⟨u.1,Q1 (d.len u hu) (d.nn u hu) (d.sum u hu) (Ob (qS h1)),rfl,d.num u hu⟩
 ·rw[AD h1]at e;cases e
theorem Rl{n:Nat}(n1:1<=n)(n4:n<=4):∀T:List Go,(∀t∈T,∃p∈fl n,t.1=IK p)->Ht n (NN n T)/\∀t∈NN n T,t.1.length=n/\(∀x∈t.1,0<=x)/\t.1.sum<=8
 |[],_=>⟨λk hk=>rfl,λt ht=>by cases ht⟩
 |t::T,h=>by
  obtain⟨i1,i2⟩:=Rl n1 n4 T λu hu=>h u (AE _ hu)
  obtain⟨p,hp,e⟩:=h t (AG ..)
  have ok:=QF n1 n4 hp
  have ev:=ok.ev
  have te:=ok.ter
  rw[<-e]at ev te
  refine⟨WQ (aS t.2 ev) i1,λu hu=>?_⟩
  rcases Ao.mp hu with hu|hu
  ·obtain⟨v,hv,rfl⟩:=AN.mp hu
   exact te v hv
  ·exact i2 u hu
theorem Tq{n b:Nat}{ts:List Go}(n1:1<=n)(n4:n<=4)(c:HZ ts)(e:Ht n ts)(d:Deg n 8 b ts):norm (NN n (Kk ts))=ts:=by
 obtain⟨ev,te⟩:=Rl n1 n4 (Kk ts) λt ht=>by obtain⟨p,h1,h2,_⟩:=mF d t ht;exact⟨p,h1,h2⟩
 refine EK (sX ev e (λt ht=>(te t ht).1) d.len λq hq fq=>?_) (fW c)
 have qm:q∈fl n:=by
  rcases hq with⟨t,ht,rfl⟩|⟨t,ht,rfl⟩
  ·exact Q1 (te t ht).1 (te t ht).2.1 (te t ht).2.2 (Ob fq)
  ·exact Q1 (d.len t ht) (d.nn t ht) (d.sum t ht) (Ob fq)
 rw[Vx,RV,JA q ts]
 refine Jb λt ht=>?_
 by_cases h1:JB t.1=true
 ·rw[AF h1]
  exact(QF n1 n4 (Q1 (d.len t ht) (d.nn t ht) (d.sum t ht) (Ob (qS h1)))).at_ q qm
 ·rw[AD h1,AD]
  intro z
  rw[z]at h1
  exact h1 (QF n1 n4 qm).fal
end
section
variable{P:yL}{w:yM}{K:yG}{mg:Str->yD}{base:Heap}{f g:yJ}{fd gd:yN}
noncomputable def I0(n:Nat):Nat:=if n=4 then 4 else 6
noncomputable def fw(n:Nat):List Pw:=(fl n).filter λp=>decide (p.sum<=(I0 n:Int))
noncomputable def Ju(k:Str)(n:Nat):List xX:=if k∈(["exchange", "filling"]:yB) then (fw n).map IK else (fw n).map IV
noncomputable def WT(n:Nat)(q:Pw):List Go:=norm (exch n (IK q))
noncomputable def ME(k:Str)(n:Nat)(q:Pw):List Go:=if k = "exchange" then [(IK q,1)] else if k = "elementary" then IP n (WT n q) else if k = "whole" then Mu n (WT n q) else if k = "power" then Ko n (I0 n) (IP n (WT n q)) else KR n (WT n q)
noncomputable def cK(k:Str)(n:Nat):Int:=if k = "power" then Ia n^I0 n else 1
noncomputable def QG(k:Str)(n:Nat)(r:xX):Bool:=Iu r&&JX k n r&&decide ((Iw k n r).length<=500)&&Lb n (I0 n) 64 (Iw k n r)&&(List.range (n-1)).all (λj=>decide (norm (KZ (Iw k n r) j)=norm (Iw k n r)))&&decide (r.length<=6)&&decide (r.sum<=(I0 n:Int))
noncomputable def Ol(k:Str)(n:Nat)(r:xX):Bool:=decide (norm ((fw n).flatMap λq=>scl (cf (Iw k n r) q) (ME k n q))=[(r,cK k n)])
theorem cE:∀n∈[1,2,3,4],(Ju "exchange" n).all (λr=>QG "exchange" n r&&Ol "exchange" n r&&decide (r.length<=n))=true:=by decide +kernel
theorem oH:∀n∈[1,2,3,4],(Ju "elementary" n).all (λr=>QG "elementary" n r&&Ol "elementary" n r)=true:=by decide +kernel
theorem Yl:∀n∈[1,2,3,4],(Ju "whole" n).all (λr=>QG "whole" n r&&Ol "whole" n r)=true:=by decide +kernel
theorem rJ:∀n∈[1,2,3,4],(Ju "power" n).all (λr=>QG "power" n r&&Ol "power" n r)=true:=by decide +kernel
theorem YU:∀n∈[1,2,3,4],(Ju "filling" n).all (λr=>QG "filling" n r&&Ol "filling" n r&&decide (r.length<=n+1)&&(List.range (r.length+1)).all λj=>decide ((MH n r j).length<=1000))=true:=by decide +kernel
theorem Zc:∀n∈[1,2,3,4],(fw n).all (λq=>decide (norm ((KR n (exch n (IK q))).flatMap λt=>scl t.2 (norm (NC n t.1)))=norm (exch n (IK q)))&&(KR n (exch n (IK q))).all λt=>(Ju "filling" n).contains t.1)=true:=by decide +kernel
theorem qM:∀n∈[1,2,3,4],((fw n).map IV).all (λr=>(Ig (Iy n) r).all λt=>((fw n).map IV).contains t.1)=true:=by decide +kernel
theorem YY:∀n∈[1,2,3,4],((fw n).map IV).all (λr=>(List.range 7).all λL=>decide (L<r.length)||(Ig (IZ (Ia n) n) (KM L r)).all λt=>((fw n).map IV).contains t.1)=true:=by decide +kernel
theorem Uf:∀n∈[1,2,3,4],(List.range (I0 n+1)).all (λL=>decide (1<=LA n L)&&decide (LA n L<=331776)&&decide (((LA n L:Nat):Int)=Ia n^L))=true/\cK "power" n≠0/\I0 n<=6:=by decide +kernel
theorem qI:∀n∈[1,2,3,4],∀k∈Hj,(List.range (I0 n+1)).all (λj=>(up 9 ((j:Nat):Int) ((j:Nat):Int) ((j:Nat):Int)).all λr=>!JX k n r||(Ju k n).contains r)=true:=by decide +kernel
end
section
variable{P:yL}{w:yM}{K:yG}{mg:Str->yD}{base:Heap}{f g:yJ}{fd gd:yN}
theorem P5:∀p q:xX,p.length=q.length->(p.Pairwise λa b=>b<=a)->(q.Pairwise λa b=>b<=a)->(∀x∈p,0<=x)->(∀x∈q,0<=x)->Hs q p=true->Hs (IK q) (IK p)=true
 |[],[],_,_,_,_,_,h=>by simp [Hs]at h
 |[],_::_,h,_,_,_,_,_=>by simp at h
 |_::_,[],h,_,_,_,_,_=>by simp at h
 |a::p,b::q,hl,fp,fq,np,nq,h=>by
  obtain⟨p1,p2⟩:=Av.mp fp
  obtain⟨q1,q2⟩:=Av.mp fq
  have a0:=np a (AG ..)
  have b0:=nq b (AG ..)
  have zero:∀l:xX,(∀x∈l,x<=0)->IK l=[]:=λl hl=>by
   unfold IK
   rw[List.filter_eq_nil_iff]
   intro x hx
   have:=hl x hx
   simp
   lia
  by_cases e:b=a
  ·subst e
   have h':Hs q p=true:=by simpa [Hs]using h
   by_cases z:0<b
   ·have e1:IK (b::p)=b::IK p:=by unfold IK;rw[BO];simp [z]
    have e2:IK (b::q)=b::IK q:=by unfold IK;rw[BO];simp [z]
    rw[e1,e2]
    have ih:=P5 p q (by simpa using hl) p2 q2 (λx hx=>np x (AE _ hx)) (λx hx=>nq x (AE _ hx)) h'
    simpa [Hs]using ih
   ·exfalso
    have ep:p=q:=by
     have r1:∀l:xX,(∀x∈l,x<=b)->(∀x∈l,0<=x)->l=List.replicate l.length 0:=λl h1 h2=>List.eq_replicate_iff.mpr ⟨rfl,λx hx=>by have:=h1 x hx;have:=h2 x hx;lia⟩
     rw[r1 p p1 λx hx=>np x (AE _ hx),r1 q q1 λx hx=>nq x (AE _ hx)]
     rw[show p.length=q.length by simpa using hl]
    rw[ep]at h'
    have:=LC.irr q
    rw[this]at h'
    cases h'
  ·have h':b<a:=by simpa [Hs,e]using h
   have e1:IK (a::p)=a::IK p:=by unfold IK;rw[BO];simp [show 0<a by lia]
   rw[e1]
   by_cases z:0<b
   ·have e2:IK (b::q)=b::IK q:=by unfold IK;rw[BO];simp [z]
    rw[e2]
    simpa [Hs,e]using h'
   ·rw[zero (b::q) λx hx=>by
     rcases AY.mp hx with rfl|hx
     ·lia
     ·have:=q1 x hx;lia]
    rfl
theorem S6{p:Pw}(h:JB p=true):p.Pairwise λa b=>b<=a:=by
 rw[(V2 p).mp h]
 exact Wh p
theorem RB(n:Nat)(p:Pw):(Ix n p).length=p.length:=by unfold Ix;rw[AB,Bm]
theorem nQ{n:Nat}{p:Pw}{i:Nat}(h:i<p.length):(Ix n p).getD i 0=p.getD i 0-(n:Int)+1+(i:Int):=by
 unfold Ix
 rw[Ad,Ag,DP h]
 rfl
theorem UP{n:Nat}{p:Pw}(hl:p.length=n)(hp:∀x∈p,0<=x)(f:JB (Ix n p)=true):∀x∈Ix n p,0<=x:=by
 intro x hx
 obtain⟨i,hi,e⟩:=Gz hx
 rw[RB]at hi
 have fl:=S6 f
 have last:(0:Int)<=(Ix n p).getD (n-1) 0:=by
  rw[nQ (by lia)]
  have:0<=p.getD (n-1) 0:=by
   rw[Ad,AL (by lia:n-1<p.length)]
   exact hp _ (Cm _)
  lia
 rw[Ad,AL (by rw[RB];lia)]at last
 by_cases c:i=n-1
 ·subst c
  rw[<-e]
  exact last
 ·have:=Bx.mp fl i (n-1) (by rw[RB];lia) (by rw[RB];lia) (by lia)
  rw[e]at this
  exact HH last this
theorem dW{n:Nat}{W:List Go}(c:HZ W)(hl:∀t∈W,t.1.length=n)(hn:∀t∈W,∀x∈t.1,0<=x):HZ (Ly n W):=by
 unfold Ly
 refine⟨?_,λu hu=>?_⟩
 ·rw[BQ]
  refine((c.ord.filter _).imp_of_mem λ{a b} ha hb h=>?_)
  obtain⟨a1,a2⟩:=BU.mp ha
  obtain⟨b1,b2⟩:=BU.mp hb
  have key:∀(p q:Pw)(k:Int),p.length=q.length->Hs q p=true->Hs ((List.range q.length).map λ(i:Nat)=>q.getD i 0-(n:Int)+k+(i:Int)) ((List.range p.length).map λ(i:Nat)=>p.getD i 0-(n:Int)+k+(i:Int))=true:=by
   intro p
   induction p with
   |nil=>intro q k h1 h2;cases q with
    |nil=>simp [Hs]at h2
    |cons=>simp at h1
   |cons x p ih =>
    intro q k h1 h2
    cases q with
    |nil=>simp at h1
    |cons y q =>
     rw[Am,Am,CT,CT,Ai,Ai,Bp,Bp]
     have e1:∀z:xX,∀w:Int,((λ(i:Nat)=>(w::z).getD i 0-(n:Int)+k+(i:Int)) ∘ Nat.succ)=λ(i:Nat)=>z.getD i 0-(n:Int)+(k+1)+(i:Int):=λz w=>by
      funext i
      show z.getD i 0-(n:Int)+k+((i+1:Nat):Int)=_
      lia
     rw[e1,e1]
     by_cases e:y=x
     ·subst e
      have h2':Hs q p=true:=by simpa [Hs]using h2
      have:=ih q (k+1) (by simpa using h1) h2'
      simpa [Hs]using this
     ·have h2':y<x:=by simpa [Hs,e]using h2
      have e3:¬ (y-(n:Int)+k=x-(n:Int)+k):=by lia
      have e4:y-(n:Int)+k<x-(n:Int)+k:=by lia
      simp only[Hs,List.getD_cons_zero]
      simp [e]
      lia
  exact P5 _ _ (by rw[RB,RB,hl a a1,hl b b1]) (S6 a2) (S6 b2) (UP (hl a a1) (hn a a1) a2) (UP (hl b b1) (hn b b1) b2) (key a.1 b.1 1 ((hl a a1).trans (hl b b1).symm) h)
 ·obtain⟨t,ht,rfl⟩:=AN.mp hu
  exact c.num t (BU.mp ht).1
theorem Qn:∀A:List Go,sm (λ_=>(0:Int)) A=0
 |[]=>rfl
 |t::r=>by
  show t.2*0+sm (λ_=>(0:Int)) r=0
  rw[Qn r]
  lia
theorem aA{n:Nat}(n1:1<=n)(n4:n<=4){D:List Go}(hD:∀t∈D,t.1∈fl n)(z:∀F,sm (λp=>sm F (KD n p)) D=0):norm D=[]:=by
 cases h:norm D with
 |nil=>rfl
 |cons t r =>
  exfalso
  have c:=JV D
  rw[h]at c
  have mm:∀u∈t::r,u.1∈fl n:=λu hu=>by
   rw[<-h]at hu
   obtain⟨x,hx,e⟩:=J7 hu
   rw[<-e]
   exact hD x hx
  have z1:=z λq=>if q=t.1 then 1 else 0
  rw[<-Je,h]at z1
  have tp:∀u∈t::r,Top (KD n u.1) u.1 1:=λu hu=>(QK n1 n4 (mm u hu)).1
  have e2:sm (λp=>sm (λq=>if q=t.1 then (1:Int) else 0) (KD n p)) r=0:=by
   refine EK (Jb (g:=λ_=>0) λu hu=>?_) (Qn r)
   show sm (λq=>if q=t.1 then (1:Int) else 0) (KD n u.1)=0
   rw[<-JA]
   have lt:=(Av.mp c.ord).1 u hu
   refine Mh λv hv e=>?_
   rcases (tp u (AE _ hu)).top v hv with e3|e3
   ·rw[<-e3,e,Ji]at lt
    cases lt
   ·have:=Lu e3 lt
    rw[e,Ji]at this
    cases this
  have e1:t.2*sm (λq=>if q=t.1 then (1:Int) else 0) (KD n t.1)+sm (λp=>sm (λq=>if q=t.1 then (1:Int) else 0) (KD n p)) r=0:=z1
  rw[<-JA,(tp t (AG ..)).at_,e2]at e1
  exact c.num t (AG ..) (by lia)
noncomputable def Qz(n:Nat)(r:xX):Pw:=Nw n (r.map Int.toNat)
theorem qY{n:Nat}{r:xX}(n1:1<=n)(n4:n<=4)(h:r∈MS n):Qz n r∈fl n/\IV (Qz n r)=r:=by
 obtain⟨p,hp,rfl⟩:=AN.mp h
 have e:Qz n (IV p)=p:=(Mm n1 n4 hp).1.1.2
 rw[e]
 exact⟨hp,rfl⟩
theorem rD{n:Nat}(n1:1<=n)(n4:n<=4){D:List Go}(hD:∀t∈D,t.1∈MS n)(z:∀F,Lg n F D=0):Ak D []:=by
 have h0:=aA n1 n4 (D:=D.map λt=>(Qz n t.1,t.2)) (λt ht=>by
  obtain⟨u,hu,rfl⟩:=AN.mp ht
  exact(qY n1 n4 (hD u hu)).1) (λF=>by
  rw[Wy,<-z F,Qh]
  refine Jb λt ht=>?_
  show sm F (Ip (Ih n) n ((IV (Qz n t.1)).map Int.toNat))=_
  rw[(qY n1 n4 (hD t ht)).2])
 intro f
 have h1:=Je (λp=>f (IV p)) (D.map λt=>(Qz n t.1,t.2))
 rw[h0,Wy]at h1
 refine EK ?_ h1.symm
 exact Jb λt ht=>by rw[(qY n1 n4 (hD t ht)).2]
theorem Vb(f:Pw->Int)(c:Pw->Bool):∀T:List Go,sm f (T.filter λt=>c t.1)=sm (λr=>if c r=true then f r else 0) T
 |[]=>rfl
 |t::T=>by
  have ih:=Vb f c T
  rw[BO]
  show _=t.2*(if c t.1=true then f t.1 else 0)+sm (λr=>if c r=true then f r else 0) T
  by_cases h:c t.1=true
  ·rw[AF h,AF h,<-ih]
   rfl
  ·rw[AD h,AD h,ih]
   lia
theorem nA{n:Nat}(n1:1<=n)(n4:n<=4){r:xX}(h:r∈MS n):∀t∈Ip (Ih n) n (r.map Int.toNat),t.1.sum=r.sum:=λt ht=>by
 obtain⟨_,hB⟩:=UE n1 n4 h
 obtain⟨_,e,_⟩:=XN n1 n4 (λk k1 k8=>LK n k n1 n4 k1 k8) (r.map Int.toNat) (ZH hB).1 (ZH hB).2
 rw[e t ht]
 exact(MX r (Lv hB).1).1
theorem jA{n b b' wt:Nat}(n1:1<=n)(n4:n<=4){all T:List Go}(h:Is n b all T)(d:Deg n wt b' all):∀t∈T,t.1.sum<=wt:=by
 have z:=rD n1 n4 (D:=T.filter λt=>decide ((wt:Int)<t.1.sum)) (λt ht=>h.own t (BU.mp ht).1) (λF=>by
  rw[Qh,Vb (λr=>sm F (Ip (Ih n) n (r.map Int.toNat))) (λr=>decide ((wt:Int)<r.sum))]
  have e:=h.sum λp=>if (wt:Int)<p.sum then F p else 0
  rw[Qh]at e
  have e0:sm (λp:Pw=>if (wt:Int)<p.sum then F p else 0) all=0:=by
   refine EK (Jb (g:=λ_=>0) λt ht=>AD ?_) (Qn all)
   have:=d.sum t ht
   lia
  rw[e0]at e
  refine EK (Jb λt ht=>?_) e.symm
  have hs:=nA n1 n4 (h.own t ht)
  by_cases c:(wt:Int)<t.1.sum
  ·rw[AF (Ac c)]
   exact Jb λu hu=>by rw[AF (by rw[hs u hu];exact c)]
  ·rw[AD (by rw[Aa c];decide)]
   exact(EK (Jb (g:=λ_=>0) λu hu=>AD (by rw[hs u hu];exact c)) (Qn (Ip (Ih n) n (t.1.map Int.toNat)))).symm)
 intro t ht
 refine Int.not_lt.mp λc=>?_
 have hm:t∈T.filter λt=>decide ((wt:Int)<t.1.sum):=BU.mpr ⟨ht,Ac c⟩
 have cn:HZ (T.filter λt=>decide ((wt:Int)<t.1.sum)):=⟨h.can.ord.sublist HA,λu hu=>h.can.num u (BU.mp hu).1⟩
 have e:=z.norm_eq
 rw[fW cn]at e
 rw[e]at hm
 exact absurd hm (by simp [norm])
structure L6(t:Int)(b:Nat)(t':Int)(b':Nat):Prop where
 is_:JN t b=[t',(b':Int)]
 pos:1<=b'
 le:b'<=b
 dvd:b' ∣ b
 one:Nat.gcd t'.natAbs b'=1
 ne:t≠0->t'≠0
 bits:t'.natAbs<=t.natAbs
 cross:t'*(b:Int)=t*(b':Int)
theorem XE(t:Int){b:Nat}(hb:1<=b):∃t' b',L6 t b t' b':=by
 have g0:0<Nat.gcd t.natAbs b:=Ci _ (by lia)
 have d1:Nat.gcd t.natAbs b ∣ t.natAbs:=Nat.gcd_dvd_left _ _
 have d2:Nat.gcd t.natAbs b ∣ b:=Nat.gcd_dvd_right _ _
 have cp:=Nat.gcd_div_gcd_div_gcd_of_pos_right (n:=t.natAbs) (m:=b) (by lia)
 have hf:JN t b=[t / ((Nat.gcd t.natAbs b:Nat):Int),(b:Int) / ((Nat.gcd t.natAbs b:Nat):Int)]:=rfl
 generalize Nat.gcd t.natAbs b=g at *
 obtain⟨b',rfl⟩:=d2
 obtain⟨t',ht⟩:=Int.ofNat_dvd_left.mpr d1
 subst ht
 have e1:(g:Int)*t' / (g:Int)=t':=CL _ (by lia)
 have e2:((g*b':Nat):Int) / (g:Int)=(b':Int):=by
  rw[BW]
  exact CL _ (by lia)
 have e3:((g:Int)*t').natAbs / g=t'.natAbs:=by
  rw[CA,Be]
  exact FW _ g0
 have e4:g*b' / g=b':=FW _ g0
 rw[e1,e2]at hf
 rw[e3,e4]at cp
 have b1:1<=b':=by
  rcases DV b' with e|e
  ·rw[e]at hb
   simp at hb
  ·exact e
 refine⟨t',b',hf,b1,ED _ g0,⟨g,C0 _ _⟩,cp,λh e=>h ?_,?_,?_⟩
 ·rw[e,Int.mul_zero]
 ·rw[CA,Be]
  exact ED _ g0
 ·rw[BW,<-A4,Bh t' (g:Int),A4]
theorem YF{t:Int}{b m:Nat}(hb:1<=b)(hm:1<=m){t':Int}{b':Nat}(ok:L6 t b t' b'):JN t' (b'*m)=JN t (b*m):=by
 have key:∀(u:Int)(c g:Nat),1<=g->1<=c->JN ((g:Int)*u) (g*c)=JN u c:=λu c g hg hc=>by
  unfold JN
  rw[CA,Be,Nat.gcd_mul_left]
  have g0:0<Nat.gcd u.natAbs c:=Ci _ hc
  rw[BW g c,BW g (Nat.gcd u.natAbs c),FX _ _ (by lia),FX _ _ (by lia)]
 obtain⟨g,hg⟩:=ok.dvd
 have p':=ok.pos
 have g1:1<=g:=by
  rcases DV g with e|e
  ·rw[e]at hg;simp at hg;lia
  ·exact e
 have et:t=(g:Int)*t':=by
  have c:=ok.cross
  rw[hg,BW]at c
  have:(b':Int)*((g:Int)*t')=(b':Int)*t:=by
   rw[<-A4,Bh _ t',c,Bh]
  exact(CI (by lia) this).symm
 rw[et,hg,show b'*g*m=g*(b'*m) by rw[C0 b' g,Nat.mul_assoc]]
 exact(key t' (b'*m) g g1 (DW p' hm)).symm
end
section
variable{P:yL}{w:yM}{K:yG}{mg:Str->yD}{base:Heap}{f g:yJ}{fd gd:yN}
noncomputable def Ki(k:Str)(n:Nat)(S:List Go):List Go:=S.flatMap λt=>scl t.2 (Iw k n t.1)
theorem Me(k:Str)(n:Nat)(q:Pw):∀S:List Go,cf (Ki k n S) q=sm (λr=>cf (Iw k n r) q) S
 |[]=>rfl
 |t::S=>by
  have ih:=Me k n q S
  show cf (scl t.2 (Iw k n t.1)++Ki k n S) q=t.2*cf (Iw k n t.1) q+sm (λr=>cf (Iw k n r) q) S
  rw[NT,ih,JA q (scl _ _),Jk,<-JA]
structure LG(k:Str)(n:Nat)(r:xX):Prop where
 row:Iu r=true
 lets:JX k n r=true
 few:(Iw k n r).length<=500
 deg:Deg n (I0 n) 64 (Iw k n r)
 ev:Ht n (Iw k n r)
 len:r.length<=6
 sum:r.sum<=(I0 n:Int)
 li:norm ((fw n).flatMap λq=>scl (cf (Iw k n r) q) (ME k n q))=[(r,cK k n)]
 ex:k = "exchange" -> r.length<=n
 fi:k = "filling" -> r.length<=n+1/\∀j,j<=r.length->(MH n r j).length<=1000
theorem gQ{k:Str}(h:k∈Hj):k = "exchange" ∨ k = "elementary" ∨ k = "whole" ∨ k = "power" ∨ k = "filling" := by
 unfold Hj at h
 simpa using h
theorem VR{k:Str}{n:Nat}{r:xX}(h:QG k n r=true)(l:Ol k n r=true)(ex:k = "exchange" -> r.length<=n)(fi:k = "filling" -> r.length<=n+1/\∀j,j<=r.length->(MH n r j).length<=1000):LG k n r:=by
 unfold QG at h
 unfold Ol at l
 simp only[AI,AQ,AR]at h
 obtain⟨⟨⟨⟨⟨⟨h1,h2⟩,h3⟩,h4⟩,h5⟩,h6⟩,h7⟩:=h
 exact⟨h1,h2,h3,WD h4,λk hk=>h5 k (Al.mpr (by lia)),h6,h7,Ay l,ex,fi⟩
theorem Mf{k:Str}{n:Nat}{r:xX}(n1:1<=n)(n4:n<=4)(hk:k∈Hj)(h:r∈Ju k n):LG k n r:=by
 have m:=Jp n1 n4
 have no:∀{a b:Str}{P:Prop},a≠b->a=b->P:=λh e=>absurd e h
 rcases gQ hk with rfl|rfl|rfl|rfl|rfl
 ·have:=AR.mp (cE n m) r h
  simp only[AI,AQ]at this
  exact VR this.1.1 this.1.2 (λ_=>this.2) (no (by decide))
 ·have:=AR.mp (oH n m) r h
  simp only[AI]at this
  exact VR this.1 this.2 (no (by decide)) (no (by decide))
 ·have:=AR.mp (Yl n m) r h
  simp only[AI]at this
  exact VR this.1 this.2 (no (by decide)) (no (by decide))
 ·have:=AR.mp (rJ n m) r h
  simp only[AI]at this
  exact VR this.1 this.2 (no (by decide)) (no (by decide))
 ·have:=AR.mp (YU n m) r h
  simp only[AI,AQ,AR]at this
  exact VR this.1.1.1 this.1.1.2 (no (by decide)) λ_=>⟨this.1.2,λj hj=>this.2 j (Al.mpr (by lia))⟩
theorem bJ{k:Str}{n:Nat}(n1:1<=n)(n4:n<=4):cK k n≠0:=by
 by_cases c:k = "power"
 ·rw[c]
  exact(Uf n (Jp n1 n4)).2.1
 ·unfold cK
  rw[AD c]
  decide
noncomputable def MZ(k:Str)(n:Nat)(r:xX)(p:Pw->Int):Int:=((fw n).map λq=>p q*cf (ME k n q) r).sum
theorem mZ(k:Str)(n:Nat)(r:xX)(p p':Pw->Int):MZ k n r (λq=>p q+p' q)=MZ k n r p+MZ k n r p':=by
 unfold MZ
 induction fw n with
 |nil=>rfl
 |cons q l ih =>
  simp only[Ai,BF]
  rw[ih,Fm]
  lia
theorem UK(k:Str)(n:Nat)(r:xX)(c:Int)(p:Pw->Int):MZ k n r (λq=>c*p q)=c*MZ k n r p:=by
 unfold MZ
 induction fw n with
 |nil=>simp
 |cons q l ih =>
  simp only[Ai,BF]
  rw[ih,DF,A4]
theorem nH{k:Str}{n:Nat}{r':xX}(h:LG k n r')(r:xX):MZ k n r (cf (Iw k n r'))=if r'=r then cK k n else 0:=by
 have e:=congrArg (λf=>cf f r) h.li
 simp only[J6]at e
 have key:∀l:List Pw,cf (l.flatMap λq=>scl (cf (Iw k n r') q) (ME k n q)) r=(l.map λq=>cf (Iw k n r') q*cf (ME k n q) r).sum:=by
  intro l
  induction l with
  |nil=>rfl
  |cons q l ih=>rw[BD,NT,ih,JA r (scl _ _),Jk,<-JA,Ai,BF]
 rw[key]at e
 unfold MZ
 rw[e]
 show(if r'=r then cK k n else 0)+0=_
 lia
theorem OQ{k:Str}{n:Nat}(r:xX):∀S:List Go,(∀t∈S,LG k n t.1)->MZ k n r (cf (Ki k n S))=cK k n*cf S r
 |[],_=>by
  have:(cf (Ki k n []):Pw->Int)=λq=>0*(0:Int):=by funext q;rfl
  rw[this,UK]
  show 0*_=cK k n*0
  lia
 |t::S,h=>by
  have ih:=OQ r S λu hu=>h u (AE _ hu)
  have e:(cf (Ki k n (t::S)):Pw->Int)=λq=>t.2*cf (Iw k n t.1) q+cf (Ki k n S) q:=by
   funext q
   show cf (scl t.2 (Iw k n t.1)++Ki k n S) q=_
   rw[NT,JA q (scl _ _),Jk,<-JA]
  rw[e,mZ k n r (λq=>t.2*cf (Iw k n t.1) q),UK,ih,nH (h t (AG ..))]
  show _=cK k n*((if t.1=r then t.2 else 0)+cf S r)
  rw[DF]
  congr 1
  by_cases c:t.1=r
  ·rw[AF c,AF c,Bh]
  ·rw[AD c,AD c];lia
theorem cX{k:Str}{n:Nat}(n1:1<=n)(n4:n<=4){S T:List Go}(cS:HZ S)(cT:HZ T)(hS:∀t∈S,LG k n t.1)(hT:∀t∈T,LG k n t.1)(e:∀q,cf (Ki k n S) q=cf (Ki k n T) q):S=T:=by
 refine VH cS cT λr=>?_
 have a:=OQ r S hS
 have b:=OQ r T hT
 rw[show(cf (Ki k n S):Pw->Int)=cf (Ki k n T) from funext e,b]at a
 exact(CI (bJ n1 n4) a).symm
noncomputable def uT(o:Str)(n:Nat)(p:List Go):List Go:=if o = "power" then Ko n (Jc (IP n p)) (IP n p) else Q9 o n p
noncomputable def uB(o:Str)(n:Nat)(p:List Go):Nat:=if o = "power" then LA n (Jc (IP n p)) else 1
structure QA(o:Str)(n:Nat)(p U:List Go)(B:Nat):Prop where
 can:HZ U
 row:∀t∈U,t.1∈Ju o n
 sum:∀q,cf (Ki o n U) q=(B:Int)*cf p q
 pos:1<=B
 low:B<=331776
 bits:∀t∈U,t.2.natAbs<2^15000
theorem R4{n b:Nat}{p:List Go}(n1:1<=n)(n4:n<=4)(c:HZ p)(e:Ht n p)(d:Deg n 8 b p)(H:Pw->Int):sm H p=sm (λr=>sm H (exch n r)) (Kk p):=by
 have key:∀T:List Go,sm H (NN n T)=sm (λr=>sm H (exch n r)) T:=by
  intro T
  induction T with
  |nil=>rfl
  |cons t T ih =>
   show sm H (scl t.2 (exch n t.1)++NN n T)=t.2*sm H (exch n t.1)+sm (λr=>sm H (exch n r)) T
   rw[Kj,ih,Jk]
 rw[<-key,<-Je H (NN n (Kk p)),Tq n1 n4 c e d]
theorem Ry(G:Pw->Int)(n:Nat):∀D:List Go,sm G (Ly n D)=sm (λx=>if JB (Ix n x)=true then G (IK (Ix n x)) else 0) D
 |[]=>rfl
 |t::D=>by
  have ih:=Ry G n D
  show sm G (((t::D).filter λt=>JB (Ix n t.1)).map λt=>(IK (Ix n t.1),t.2))=t.2*(if JB (Ix n t.1)=true then G (IK (Ix n t.1)) else 0)+_
  rw[<-ih,BO]
  by_cases h:JB (Ix n t.1)=true
  ·rw[AF h,AF h]
   rfl
  ·rw[AD h,AD h]
   show sm G (Ly n D)=_
   lia
theorem Rf{n b:Nat}{p:List Go}(n1:1<=n)(n4:n<=4)(c:HZ p)(e:Ht n p)(d:Deg n 8 b p)(G:Pw->Int):sm G (KR n p)=sm (λr=>sm G (KR n (exch n r))) (Kk p):=by
 have key:∀ts:List Go,sm G (KR n ts)=sm (λx=>sm (λy=>if JB (Ix n (IQ x y))=true then G (IK (Ix n (IQ x y))) else 0) (K5 n)) ts:=λts=>by
  unfold KR
  rw[Ry,Je,Jn]
 rw[key,R4 n1 n4 c e d]
 refine Jb λt _=>?_
 rw[key]
theorem Ou{n b:Nat}{p:List Go}(d:Deg n (I0 n) b p)(hw:I0 n<=8):∀t∈Kk p,∃q∈fw n,t.1=IK q/\t.2.natAbs<2^b:=λt ht=>by
 obtain⟨u,hu,e⟩:=DS.mp ht
 unfold LX at e
 by_cases h1:JB u.1=true
 ·rw[AF h1]at e
  cases e
  have s:=d.sum u hu
  exact⟨u.1,BU.mpr ⟨Q1 (d.len u hu) (d.nn u hu) (by lia) (Ob (qS h1)),Ac s⟩,rfl,d.num u hu⟩
 ·rw[AD h1]at e;cases e
theorem ZJ{n b d:Nat}{p:List Go}(c:HZ p)(dg:Deg n d b p):HZ (Kk p):=by
 refine⟨?_,λu hu=>?_⟩
 ·unfold Kk
  rw[List.pairwise_filterMap]
  refine c.ord.imp_of_mem λ{a b} ha hb h u hu v hv=>?_
  unfold LX at hu hv
  by_cases h1:JB a.1=true
  ·rw[AF h1]at hu
   cases hu
   by_cases h2:JB b.1=true
   ·rw[AF h2]at hv
    cases hv
    exact P5 a.1 b.1 ((dg.len a ha).trans (dg.len b hb).symm) (S6 h1) (S6 h2) (dg.nn a ha) (dg.nn b hb) h
   ·rw[AD h2]at hv;cases hv
  ·rw[AD h1]at hu;cases hu
 ·obtain⟨t,ht,e⟩:=DS.mp hu
  unfold LX at e
  by_cases h1:JB t.1=true
  ·rw[AF h1]at e
   cases e
   exact c.num t ht
  ·rw[AD h1]at e;cases e
theorem nJ{n:Nat}(n1:1<=n)(n4:n<=4){r:xX}(h:r∈MS n)(s:r.sum<=(I0 n:Int)):r∈(fw n).map IV:=by
 obtain⟨p,hp,rfl⟩:=AN.mp h
 have e:=(Mm n1 n4 hp).1.1.1.2
 exact AN.mpr ⟨p,BU.mpr ⟨hp,Ac (by lia)⟩,rfl⟩
theorem Oi(n:Nat):I0 n<=6:=by
 unfold I0
 split<;>lia
theorem Od{n b:Nat}{p:List Go}(n1:1<=n)(n4:n<=4)(d:Deg n (I0 n) b p)(tk:Is n b p (IP n p)):∀t∈IP n p,t.1∈(fw n).map IV:=λt ht=>nJ n1 n4 (tk.own t ht) (jA n1 n4 tk d t ht)
theorem WZ{k:Str}(n:Nat)(h:¬ k∈(["exchange", "filling"]:yB)):Ju k n=(fw n).map IV:=by unfold Ju;rw[AD h]
theorem nZ{k:Str}(n:Nat)(h:k∈(["exchange", "filling"]:yB)):Ju k n=(fw n).map IK:=by unfold Ju;rw[AF h]
theorem YX{o:Str}{n b:Nat}{p:List Go}(ho:o∈Hj)(hP:PK n b p)(hb:b<=500)(d:Deg n (I0 n) b p)(ok:KB o n b p):QA o n p (uT o n p) (uB o n p):=by
 have n1:=hP.n1
 have n4:=hP.n4
 have m:=Jp n1 n4
 have hw:=Oi n
 rcases gQ ho with rfl|rfl|rfl|rfl|rfl
 ·rw[show uT "exchange" n p=Kk p from rfl,show uB "exchange" n p=1 from rfl]
  refine⟨ZJ hP.can d,λt ht=>?_,λq=>?_,by decide,by decide,λt ht=>?_⟩
  ·obtain⟨q,hq,e,_⟩:=Ou d (by lia) t ht
   rw[nZ n (by decide),e]
   exact Dn hq
  ·show cf (NN n (Kk p)) q=_
   rw[<-J6,Tq n1 n4 hP.can hP.ev hP.deg]
   show _=1*_
   lia
  ·obtain⟨q,hq,e,z⟩:=Ou d (by lia) t ht
   exact JS z (by lia)
 ·rw[show uT "elementary" n p=IP n p from rfl,show uB "elementary" n p=1 from rfl]
  have tk:=ok.el rfl
  refine⟨tk.can,λt ht=>?_,λq=>?_,by decide,by decide,λt ht=>JS (tk.bits t ht) (by lia)⟩
  ·rw[WZ n (by decide)]
   exact Od n1 n4 d tk t ht
  ·rw[Me,JA q p,tk.sum,Qh]
   show _=1*_
   rw[Dh]
   refine Jb λt _=>?_
   show cf (Ip (Ih n) n (t.1.map Int.toNat)) q=_
   rw[JA]
 ·rw[show uT "whole" n p=Mu n p from rfl,show uB "whole" n p=1 from rfl]
  have tk:=ok.wh rfl
  have bk:=Vi n1 n4 tk
  refine⟨bk.can,λt ht=>?_,λq=>?_,by decide,by decide,λt ht=>JS (bk.bits t ht) (by lia)⟩
  ·rw[WZ n (by decide)]
   obtain⟨u,hu,e⟩:=J7 ht
   obtain⟨x,hx,hux⟩:=A5.mp hu
   obtain⟨y,hy,rfl⟩:=AN.mp hux
   rw[<-e]
   exact Cb.mp (AR.mp (AR.mp (qM n m) x.1 (Od n1 n4 d tk x hx)) y hy)
  ·rw[Me,JA q p,bk.sum]
   show _=1*_
   rw[Dh]
   have key:∀T:List Go,sm (λr=>cf (Iw "whole" n r) q) T=(T.map λt=>t.2*sm (λx=>if x=q then 1 else 0) (Ip (ND n) n (t.1.map Int.toNat))).sum:=by
    intro T
    induction T with
    |nil=>rfl
    |cons t T ih =>
     rw[Ai,BF,<-ih,<-JA]
     rfl
   exact key _
 ·rw[show uT "power" n p=Ko n (Jc (IP n p)) (IP n p) from rfl,show uB "power" n p=LA n (Jc (IP n p)) from rfl]
  obtain⟨mx,tk⟩:=ok.po rfl
  have ge:=QQ (IP n p)
  have bk:=UJ n1 n4 tk mx ge
  have rl:=Od n1 n4 d tk
  have ml:Jc (IP n p)<=I0 n:=by
   have key:∀(T:List Go)(a:Nat),a<=I0 n->(∀t∈T,t.1.length<=I0 n)->T.foldl (λm t=>max m t.1.length) a<=I0 n:=by
    intro T
    induction T with
    |nil=>intro a h _;exact h
    |cons t T ih =>
     intro a h ht
     exact ih _ (Nat.max_le.mpr ⟨h,ht t (AG ..)⟩) λu hu=>ht u (AE _ hu)
   refine key _ 0 (Az _) λt ht=>?_
   have rk:=Mf (k := "elementary") n1 n4 (by decide) (by rw[WZ n (by decide)];exact rl t ht)
   have:=(MX t.1 (Lv rk.row).1).2
   have:=rk.sum
   lia
  have bw:=AR.mp (Uf n m).1 (Jc (IP n p)) (Al.mpr (by lia))
  simp only[AI,AQ]at bw
  refine⟨bk.can,λt ht=>?_,λq=>?_,bw.1.1,bw.1.2,λt ht=>JS (bk.bits t ht) (by lia)⟩
  ·rw[WZ n (by decide)]
   obtain⟨u,hu,e⟩:=J7 ht
   obtain⟨x,hx,hux⟩:=A5.mp hu
   obtain⟨z,hz,rfl⟩:=AN.mp hx
   obtain⟨y,hy,rfl⟩:=AN.mp hux
   rw[<-e]
   have h1:=AR.mp (YY n m) z.1 (rl z hz)
   have h2:=AR.mp h1 (Jc (IP n p)) (Al.mpr (by lia))
   rw[DT,AQ]at h2
   rcases h2 with h2|h2
   ·have:=ge z hz
    lia
   ·exact Cb.mp (AR.mp h2 y hy)
  ·rw[bw.2,Me,JA q p,<-bk.sum]
   show _=sm (λr=>sm (λx=>if x=q then 1 else 0) (Ip (Ln n) n (r.map Int.toNat))) _
   refine Jb λt _=>?_
   show cf (Ip (Ln n) n (t.1.map Int.toNat)) q=_
   rw[JA]
 ·rw[show uT "filling" n p=KR n p from rfl,show uB "filling" n p=1 from rfl]
  have dk:=WM n m
  rw[AI,AI,AQ]at dk
  have dD:=WD dk.1.2
  have few:=hP.few
  have dn:Deg n 14 (b+10+14) (norm (prd p (K5 n))):=Deg.norm (hP.deg.prd dD) (by
   rw[Q0]
   have:=B1 few dk.2
   have e:(2:Nat)^14=16384:=by decide
   lia)
  have can:HZ (KR n p):=dW (JV _) dn.len dn.nn
  have fo:∀t∈Kk p,norm ((KR n (exch n t.1)).flatMap λt=>scl t.2 (norm (NC n t.1)))=norm (exch n t.1)/\∀u∈KR n (exch n t.1),u.1∈Ju "filling" n:=λt ht=>by
   obtain⟨q,hq,e,_⟩:=Ou d (by lia) t ht
   have:=AR.mp (Zc n m) q hq
   simp only[AI,AQ,AR]at this
   rw[e]
   exact⟨this.1,λu hu=>Cb.mp (this.2 u hu)⟩
  refine⟨can,λt ht=>?_,λq=>?_,by decide,by decide,λt ht=>?_⟩
  ·refine Classical.byContradiction λno=>?_
   have e1:=Ql can ht
   rw[JA,Rf n1 n4 hP.can hP.ev hP.deg]at e1
   have e0:sm (λr=>sm (λq=>if q=t.1 then (1:Int) else 0) (KR n (exch n r))) (Kk p)=0:=by
    refine EK (Jb (g:=λ_=>0) λu hu=>?_) (Qn _)
    refine EK (Jb (g:=λ_=>0) λv hv=>AD λe=>no ?_) (Qn _)
    rw[<-e]
    exact(fo u hu).2 v hv
   rw[e0]at e1
   exact can.num t ht e1.symm
  ·rw[Me,Rf n1 n4 hP.can hP.ev hP.deg]
   show _=1*_
   rw[Dh,JA q p,R4 n1 n4 hP.can hP.ev hP.deg]
   refine Jb λt ht=>?_
   have e:=congrArg (λf=>cf f q) (fo t ht).1
   simp only[J6]at e
   rw[<-JA,<-e]
   exact(Me "filling" n q (KR n (exch n t.1))).symm
  ·obtain⟨u,hu,rfl⟩:=AN.mp ht
   exact JS (dn.num u (BU.mp hu).1) (by lia)
end
section
variable{P:yL}{w:yM}{K:yG}{mg:Str->yD}{base:Heap}{f g:yJ}{fd gd:yN}
theorem lF{t t':Int}{b b' S:Nat}(h:t'*(b:Int)=t*(b':Int))(h1:1<=b')(hd:b' ∣ S):(b:Int)*(t'*((S:Int) / (b':Int)))=(S:Int)*t:=by
 obtain⟨m,rfl⟩:=hd
 have e:((b'*m:Nat):Int) / (b':Int)=(m:Int):=by
  rw[BW]
  exact CL _ (by lia)
 rw[e,BW,<-A4,Bh (b:Int) t',h,A4,Bh t]
noncomputable def IM(M:Nat)(T:List Ho):List Go:=T.map λt=>(t.1,IL t*((M:Int) / (Hx t:Int)))
theorem Qx(k:Str)(n M:Nat)(T:List Ho):J8 k n M T=Ki k n (IM M T):=by
 unfold J8 Ki IM
 rw[List.flatMap_map]
noncomputable def IR(M:Nat)(T:List Ho):Prop:=∀t∈T,Hx t ∣ M
structure IG(k:Str)(n:Nat)(T:List Ho):Prop where
 ord:T.Pairwise λa b=>Hs b.1 a.1=true
 row:∀t∈T,t.1∈Ju k n
 fr:∀t∈T,NQ t
 ne:∀t∈T,IL t≠0
 one:∀t∈T,Nat.gcd (IL t).natAbs (Hx t)=1
theorem IG.tail{k:Str}{n:Nat}{t:Ho}{T:List Ho}(h:IG k n (t::T)):IG k n T :=
 ⟨(Av.mp h.ord).2,λu hu=>h.row u (AE _ hu),λu hu=>h.fr u (AE _ hu),λu hu=>h.ne u (AE _ hu),λu hu=>h.one u (AE _ hu)⟩
theorem Of{M b:Nat}(h:b ∣ M)(hb:1<=b):(b:Int)*((M:Int) / (b:Int))=(M:Int):=by
 obtain⟨x,rfl⟩:=h
 rw[BW,CL _ (by lia)]
theorem Tu(G:Pw->Int){M c:Nat}:∀T:List Ho,IR M T->(∀t∈T,1<=Hx t)->sm G (IM (M*c) T)=(c:Int)*sm G (IM M T)
 |[],_,_=>by
  show(0:Int)=c*0
  lia
 |t::T,h,hp=>by
  have ih:=Tu G (M:=M) (c:=c) T (λu hu=>h u (AE _ hu)) λu hu=>hp u (AE _ hu)
  show IL t*(((M*c:Nat):Int) / (Hx t:Int))*G t.1+sm G (IM (M*c) T)=c*(IL t*((M:Int) / (Hx t:Int))*G t.1+sm G (IM M T))
  have e:((M*c:Nat):Int) / (Hx t:Int)=c*((M:Int) / (Hx t:Int)):=by
   have b0:=hp t (AG ..)
   obtain⟨x,rfl⟩:=h t (AG ..)
   rw[BW,BW,A4,CL _ (by lia),CL _ (by lia),Bh]
  rw[ih,e,DF]
  congr 1
  rw[<-A4,Bh (IL t),A4,A4,A4]
theorem cM{k:Str}{n M c:Nat}{T:List Ho}(h:IR M T)(hp:∀t∈T,1<=Hx t)(q:Pw):cf (J8 k n (M*c) T) q=(c:Int)*cf (J8 k n M T) q:=by
 rw[Qx,Qx,Me,Me,Tu _ T h hp]
theorem aD:∀(T:List Ho)(s:Nat),s ∣ T.foldl (λs x=>Nat.lcm s (Hx x)) s/\IR (T.foldl (λs x=>Nat.lcm s (Hx x)) s) T/\∀N,s ∣ N->IR N T->T.foldl (λs x=>Nat.lcm s (Hx x)) s ∣ N
 |[],s=>⟨Nat.dvd_refl _,λt ht=>(by cases ht),λN h _=>h⟩
 |t::T,s=>by
  obtain⟨a,b,c⟩:=aD T (Nat.lcm s (Hx t))
  refine⟨Nat.dvd_trans (Nat.dvd_lcm_left _ _) a,λu hu=>?_,λN h hN=>c N (Nat.lcm_dvd h (hN t (AG ..))) λu hu=>hN u (AE _ hu)⟩
  rcases AY.mp hu with rfl|hu
  ·exact Nat.dvd_trans (Nat.dvd_lcm_right _ _) a
  ·exact b u hu
theorem RD(T:List Ho):IR (IS T) T:=(aD T 1).2.1
theorem Tc{T:List Ho}{N:Nat}(h:IR N T):IS T ∣ N:=(aD T 1).2.2 N (Nat.one_dvd _) h
theorem IR.mul{M:Nat}{T:List Ho}(h:IR M T)(c:Nat):IR (M*c) T:=λt ht=>Nat.dvd_mul_right_of_dvd (h t ht) c
theorem IR.mul'{M:Nat}{T:List Ho}(h:IR M T)(c:Nat):IR (c*M) T:=λt ht=>Nat.dvd_mul_left_of_dvd (h t ht) c
noncomputable def Vq(n:Nat)(k:Str)(T:List Ho)(o:Str)(F:List Ho):Prop:=∀M,IR M T->IR M F->∀q,cf (J8 k n M T) q=cf (J8 o n M F) q
theorem Vq.symm{n:Nat}{k o:Str}{T F:List Ho}(h:Vq n k T o F):Vq n o F k T:=λM a b q=>(h M b a q).symm
theorem Vq.trans{n:Nat}{k o j:Str}{T F G:List Ho}(h:Vq n k T o F)(h':Vq n o F j G)(pT:∀t∈T,1<=Hx t)(pF:∀t∈F,1<=Hx t)(pG:∀t∈G,1<=Hx t):Vq n k T j G:=λM a b q=>by
 have e1:=h (M*IS F) (a.mul _) ((RD F).mul' _) q
 have e2:=h' (M*IS F) ((RD F).mul' _) (b.mul _) q
 rw[e2,cM a pT,cM b pG]at e1
 have:=OO F pF
 exact CI (by lia) e1
theorem fX{a b:Int}{c d M:Nat}(hc:1<=c)(hd:1<=d)(ca:Nat.gcd a.natAbs c=1)(cb:Nat.gcd b.natAbs d=1)(dc:c ∣ M)(dd:d ∣ M)(hM:1<=M)(e:a*((M:Int) / (c:Int))=b*((M:Int) / (d:Int))):a=b/\c=d:=by
 have e1:=Of dc hc
 have e2:=Of dd hd
 generalize (M:Int) / (c:Int)=x at *
 generalize (M:Int) / (d:Int)=y at *
 have e3:a*(d:Int)=b*(c:Int):=by
  refine CI (a:=(M:Int)) (by lia) ?_
  calc (M:Int)*(a*d)=(c:Int)*x*(a*d):=by rw[e1]
   _=(c*d)*(a*x):=by rw[Bh a x,A4,A4,<-A4 x,Bh (x*a)]
   _=(c*d)*(b*y):=by rw[e]
   _=(d:Int)*y*(b*c):=by rw[Bh b y,Bh (c:Int) d,A4,A4,<-A4 y,Bh (y*b)]
   _=M*(b*c):=by rw[e2]
 have e4:a.natAbs*d=b.natAbs*c:=by
  have:=congrArg Int.natAbs e3
  rwa [CA,CA,Be,Be]at this
 have k1:c ∣ d:=EO (Nat.Coprime.symm ca) ⟨b.natAbs,by rw[e4,C0]⟩
 have k2:d ∣ c:=EO (Nat.Coprime.symm cb) ⟨a.natAbs,by rw[<-e4,C0]⟩
 have k3:=Nat.dvd_antisymm k1 k2
 subst k3
 exact⟨Int.eq_of_mul_eq_mul_right (by lia) e3,rfl⟩
theorem Ri{k:Str}{n M:Nat}(hM:1<=M):∀T T':List Ho,IG k n T->IG k n T'->IR M T->IR M T'->IM M T=IM M T'->T=T'
 |[],[],_,_,_,_,_=>rfl
 |[],_::_,_,_,_,_,h=>by cases h
 |_::_,[],_,_,_,_,h=>by cases h
 |t::T,t'::T',g,g',d,d',h=>by
  unfold IM at h
  rw[Ai,Ai,List.cons.injEq,Prod.mk.injEq]at h
  have m:=AG (a:=t) (l:=T)
  have m':=AG (a:=t') (l:=T')
  obtain⟨e1,e2⟩:=fX (g.fr t m).pos (g'.fr t' m').pos (g.one t m) (g'.one t' m') (d t m) (d' t' m') hM h.1.2
  have e3:t=t':=by
   have a:=(g.fr t m).is_
   have b:=(g'.fr t' m').is_
   rw[e1,e2,<-b]at a
   exact EH h.1.1 a
  rw[e3,Ri hM T T' g.tail g'.tail (λu hu=>d u (AE _ hu)) (λu hu=>d' u (AE _ hu)) h.2]
theorem Uz{k:Str}{n M:Nat}(hM:1<=M){T:List Ho}(g:IG k n T)(d:IR M T):HZ (IM M T):=by
 refine⟨?_,λu hu=>?_⟩
 ·unfold IM
  rw[BQ]
  exact g.ord
 ·obtain⟨t,ht,rfl⟩:=AN.mp hu
  have e:=Of (d t ht) (g.fr t ht).pos
  refine Int.mul_ne_zero (g.ne t ht) λz=>?_
  rw[z]at e
  lia
theorem PZ{k:Str}{n:Nat}(n1:1<=n)(n4:n<=4)(hk:k∈Hj){T T':List Ho}(g:IG k n T)(g':IG k n T')(v:Vq n k T k T'):T=T':=by
 have p:=OO T λt ht=>(g.fr t ht).pos
 have p':=OO T' λt ht=>(g'.fr t ht).pos
 have hM:1<=IS T*IS T':=DW p p'
 have d:IR (IS T*IS T') T:=(RD T).mul _
 have d':IR (IS T*IS T') T':=(RD T').mul' _
 refine Ri hM T T' g g' d d' (cX (k:=k) n1 n4 (Uz hM g d) (Uz hM g' d') (λu hu=>?_) (λu hu=>?_) λq=>?_)
 ·obtain⟨t,ht,rfl⟩:=AN.mp hu
  exact Mf n1 n4 hk (g.row t ht)
 ·obtain⟨t,ht,rfl⟩:=AN.mp hu
  exact Mf n1 n4 hk (g'.row t ht)
 ·rw[<-Qx,<-Qx]
  exact v _ d d' q
noncomputable def Kf(U:List Go)(N:Nat):List Ho:=U.map λt=>(t.1,JN t.2 N)
theorem SG{k o:Str}{n b:Nat}{T:List Ho}(ok:QA o n (Ij k n T) (uT o n (Ij k n T)) (uB o n (Ij k n T)))(hm:1<=IS T):LP k o n T=Kf (uT o n (Ij k n T)) (uB o n (Ij k n T)*IS T):=by
 have pos:=ok.pos
 unfold LP Kf
 generalize Ij k n T=p at *
 generalize IS T=m at *
 unfold Ny uT uB at *
 by_cases c:o = "power"
 ·rw[AF c,AF c,AF c]
  rw[AF c]at pos
  unfold TB
  rw[Bp]
  refine CF λt _=>?_
  obtain⟨t',b',fo⟩:=XE t.2 pos
  show(t.1,JN (IL (t.1,JN t.2 _)) (Hx (t.1,JN t.2 _)*m))=_
  have e1:IL (t.1,JN t.2 (LA n (Jc (IP n p))))=t':=by unfold IL;rw[fo.is_];rfl
  have e2:Hx (t.1,JN t.2 (LA n (Jc (IP n p))))=b':=by unfold Hx;rw[fo.is_];show((b':Int)).toNat=b';lia
  rw[e1,e2,YF pos hm fo]
 ·rw[AD c,AD c,AD c,Bp]
  exact CF λt _=>rfl
theorem SB{U:List Go}{N:Nat}(hN:1<=N){f:Ho}(h:f∈Kf U N):∃t∈U,f.1=t.1/\L6 t.2 N (IL f) (Hx f)/\f.2=[IL f,(Hx f:Int)]:=by
 obtain⟨t,ht,rfl⟩:=AN.mp h
 obtain⟨t',b',fo⟩:=XE t.2 hN
 have e1:IL (t.1,JN t.2 N)=t':=by unfold IL;rw[fo.is_];rfl
 have e2:Hx (t.1,JN t.2 N)=b':=by unfold Hx;rw[fo.is_];show((b':Int)).toNat=b';lia
 refine⟨t,ht,rfl,?_,?_⟩
 ·rw[e1,e2];exact fo
 ·rw[e1,e2];exact fo.is_
theorem Ti{o:Str}{n B N:Nat}{p U:List Go}(ok:QA o n p U B)(hN:1<=N)(hN2:N<1152921504606846976):IG o n (Kf U N)/\IR N (Kf U N)/\∀f∈Kf U N,(IL f).natAbs<2^15000:=by
 refine⟨⟨?_,λf hf=>?_,λf hf=>?_,λf hf=>?_,λf hf=>?_⟩,λf hf=>?_,λf hf=>?_⟩
 ·unfold Kf
  rw[BQ]
  exact ok.can.ord
 all_goals obtain⟨t,ht,e,fo,is⟩:=SB hN hf
 ·rw[e];exact ok.row t ht
 ·exact⟨is,fo.pos,A7 fo.le hN2⟩
 ·exact fo.ne (ok.can.num t ht)
 ·exact fo.one
 ·exact fo.dvd
 ·exact A7 fo.bits (ok.bits t ht)
theorem T8(G:Pw->Int){N M:Nat}(hN:1<=N):∀U:List Go,IR M (Kf U N)->(N:Int)*sm G (IM M (Kf U N))=(M:Int)*sm G U
 |[],_=>by
  show(N:Int)*0=M*0
  lia
 |t::U,d=>by
  have ih:=T8 G (M:=M) hN U λf hf=>d f (AE _ hf)
  have hm:((t.1,JN t.2 N):Ho)∈Kf (t::U) N:=AG ..
  obtain⟨t',b',fo⟩:=XE t.2 hN
  have e1:IL (t.1,JN t.2 N)=t':=by unfold IL;rw[fo.is_];rfl
  have e2:Hx (t.1,JN t.2 N)=b':=by unfold Hx;rw[fo.is_];show((b':Int)).toNat=b';lia
  have dv:=d _ hm
  rw[e2]at dv
  have bm:=lF fo.cross fo.pos dv
  show(N:Int)*(IL (t.1,JN t.2 N)*((M:Int) / (Hx (t.1,JN t.2 N):Int))*G t.1+sm G (IM M (Kf U N)))=M*(t.2*G t.1+sm G U)
  rw[e1,e2,DF,ih,<-A4,bm,DF,A4]
theorem Vy{k o:Str}{n B m M:Nat}{p U:List Go}(ok:QA o n p U B)(hm:1<=m)(d:IR M (Kf U (B*m)))(q:Pw):(m:Int)*cf (J8 o n M (Kf U (B*m))) q=(M:Int)*cf p q:=by
 have hN:1<=B*m:=DW ok.pos hm
 have e:=T8 (λr=>cf (Iw o n r) q) hN U d
 rw[<-Me,<-Me,<-Qx,ok.sum,BW]at e
 have b0:=ok.pos
 refine CI (a:=(B:Int)) (by lia) ?_
 rw[<-A4,e,<-A4,<-A4,Bh (M:Int)]
theorem jQ{k o:Str}{n B:Nat}{T:List Ho}{U:List Go}(gT:IG k n T)(ok:QA o n (Ij k n T) U B):Vq n k T o (Kf U (B*IS T)):=λM a c q=>by
 have pT:=λt ht=>(gT.fr t ht).pos
 have hm:=OO T pT
 have e:=Vy (k:=k) ok hm c q
 obtain⟨x,rfl⟩:=Tc a
 rw[cM (RD T) pT]
 unfold Ij at e
 rw[J6,BW,A4]at e
 exact(CI (by lia) e).symm
end
end L2.K91
namespace L2.Ev
open PySem PySem.Spec PyProof.Rows
open L2.Pl
section
theorem Yv(A:Around)(s:yH)(a:Int)(t:Tok)(c:Int)(u:Tok)(prog:yL)(w:yM)(E:xZ)(Q:xZ)(h:Q (.bool (decide (a<=c))) s) :
  wpAny (model prog w) A (richCompare .LtE (.int a t) (.int c u)) Q E s :=
 (PyProof.Rows.le_int h:wpAny (model prog w) A (compareOp .LtE (.int a t) (.int c u)) Q E s)
section
open PySem.SeqAt
open PySem.AutoSeq1 (wpAny_loadPart')
open PySem.MeetsSeq PySem.MeetsSeq2 PySem.MeetsSeq3
open HT
theorem rE(l b:yJ)(items items2:yF)(n n2:Nat)(dd dd2:Option yJ)(sl sl2:Array yD)(ns ms:xX)(hi:IntsAre items.toList ns)(hj:IntsAre items2.toList ms) :
  Meets (Builtin.«tuple.__le__» ⟨[.ref l,.ref b],[]⟩)
   (λ_ R s=>s.heap.get? l=some { cls:=.type "tuple",dict:=dd,data:=.seq items n,slots:=sl }/\s.heap.get? b=some { cls:=.type "tuple",dict:=dd2,data:=.seq items2 n2,slots:=sl2 } /\
    R (.ok (.ret (.bool (!lexLt ms ns)))) s) :=
 .of_wp λprog w A R s h=>by
  obtain⟨hp,g,d,tk,os⟩:=s;obtain⟨hl,hb,h⟩:=h
  have f2:=E4
  have z1:items.size=ns.length:=by rw[<-hi.length];simp
  have z2:items2.size=ms.length:=by rw[<-hj.length];simp
  wp_walk using CK hl,CK hb,wpAny_forIn_list _ (λHl b s'=>b.1=none/\s'=⟨hp,g,d,tk,os⟩/\∃(vs ws:xY)(ns' ms':xX),Hl=vs.zip ws /\
   IntsAre vs ns'/\IntsAre ws ms'/\ns'.length+items2.size=ms'.length+items.size/\R (.ok (.ret (.bool (!lexLt ms' ns')))) ⟨hp,g,d,tk,os⟩) _
  case turn =>
   rintro⟨y,x⟩ Hl b s' ⟨hb',rfl,vs,ws,ns',ms',hz,hvi,hwi,Hm,hR⟩
   cases hvi with
   |nil=>rw[List.zip_nil_left]at hz;cases hz
   |cons a t hvi' =>
    cases hwi with
    |nil=>rw[List.zip_nil_right]at hz;cases hz
    |cons c u hwi' =>
     rw[Cy]at hz
     injection hz with hyx hrest
     injection hyx with hy hx
     subst hy hx
     rw[lexLt_cons]at hR
     simp only[Am]at Hm
     obtain⟨e,he,hiff⟩:=eqAt_int A.in1 ⟨hp,g,d,tk,os⟩ a t c u
     refine AA (he prog w _ _ ?_)
     cases e with
     |true =>
      rw[AF (hiff.mp rfl).symm]at hR
      wp_walk
      exact⟨rfl,rfl,_,_,_,_,hrest,hvi',hwi',by lia,hR⟩
     |false =>
      rw[AD (λq=>absurd (hiff.mpr (Eq.symm q)) Ae)]at hR
      have hri:=Yv A.in1 ⟨hp,g,d,tk,os⟩ a t c u prog w
      wp_walk using hri
      rw[show(!decide (c<a))=decide (a<=c) by by_cases z:c<a<;>simp [z]<;>lia]at hR
      exact⟨_,rfl,by simpa using hR⟩
  case fin =>
   rintro⟨b1,b2⟩ s' ⟨hb',rfl,vs,ws,ns',ms',hz,hvi,hwi,Hm,hR⟩
   simp only at hb'
   subst hb'
   have hv:(!lexLt ms' ns')=decide (items.size<=items2.size):=by
    cases hvi with
    |nil =>
     cases hwi with
     |nil =>
      simp only[C5]at Hm
      rw[lexLt_nil_nil]
      exact(Ac (by lia)).symm
     |cons c u hw =>
      simp only[C5,Am]at Hm
      rw[lexLt_cons_nil]
      exact(Ac (by lia)).symm
    |cons a t hv =>
     cases hwi with
     |nil =>
      simp only[C5,Am]at Hm
      rw[lexLt_nil_cons]
      exact(Aa (by lia)).symm
     |cons c u hw =>
      rw[Cy]at hz
      cases hz
   rw[hv]at hR
   wp_walk
   exact⟨_,rfl,by simpa [Builtin.Tuple.tupleCompareSizes]using hR⟩
  case h =>
   exact⟨rfl,rfl,items.toList,items2.toList,ns,ms,rfl,hi,hj,by lia,h⟩
end
section
variable{prog:yL}{w:yM}{A:Around}{E:xZ}{s:yH}
theorem jJ{l b:yJ}{items items2:yF}{ns ms:xX}{Q:xZ}(hl:IsTup s.heap l items)(hb:IsTup s.heap b items2)(hi:IntsAre items.toList ns)(hj:IntsAre items2.toList ms)
  (hu:A.units<cLine) (h:Q (.bool (!HT.lexLt ms ns)) s):wpAny (model prog w) A (compareOp .LtE (.ref l) (.ref b)) Q E s:=by
 obtain⟨⟨cls,dd,data,sl⟩,ho,hc,n,hd⟩:=id hl
 obtain⟨⟨cls2,dd2,data2,sl2⟩,ho2,hc2,n2,hd2⟩:=id hb
 simp only at hc hd hc2 hd2
 subst hc hd hc2 hd2
 exact Fp (op:=.LtE) ⟨_,ho,rfl⟩ ⟨_,ho2,rfl⟩ PySem.F.slot_tuple_le PySem.F.entry_tuple_le (PySem.F.args_tuple_le_2 _ _) (rE l b items items2 n n2 dd dd2 sl sl2 ns ms hi hj)
  ⟨ho,ho2,show Value.bool (!HT.lexLt ms ns)≠Value.notImplemented/\Q (.bool (!HT.lexLt ms ns)) s from⟨(λx=>nomatch x),h⟩⟩ hu
end
section
variable{X:Cx}
noncomputable def fV(K:yG):R2:=λx y H Q=>∃a b ns ms,x=.ref a/\y=.ref b/\HM K H a (ns.map V.int)/\HM K H b (ms.map V.int)/\Q (.bl (!HT.lexLt ms ns)) H
theorem bA(hu:X.A.units<cLine):Iq X (compareOp .LtE) (fV X.K):=by
 intro Fq s σ H x y v u Q I rx ry h
 obtain⟨a,b,ns,ms,rfl,rfl,ha,hb,q⟩:=h
 cases rx
 cases ry
 obtain⟨its,r1,p1,_⟩:=I.tuple ha
 obtain⟨its2,r2,p2,_⟩:=I.tuple hb
 have i1:IntsAre its.toArray.toList ns:=J3 r1
 have i2:IntsAre its2.toArray.toList ms:=J3 r2
 exact jJ p1 p2 i1 i2 hu ⟨.bl (!HT.lexLt ms ns),H,I,rfl,q⟩
end
end
end L2.Ev
namespace L2.K91
open PySem
open L2.Pl L2.Ev
section
variable{P:yL}{w:yM}{K:yG}{mg:Str->yD}{base:Heap}{f g:yJ}{fd gd:yN}
noncomputable abbrev nW:yB:=["_law_found"]
theorem xJ:Gq nW ["_law_found"] (He P2):=IA
noncomputable def Tj:Sp:=λvs H Q _=>∃n:Int,vs=[.int n]/\Q (.bl true) H
theorem ZB(F:Hu K "_law_whole" "_law_whole" P2 f fd)(mi:mg "isinstance" = none)(m1:mg "int" = none)(m2:mg "bool" = none):HC P w K mg base Hn 2 f fd ["_law_found"] Tj:=by
 refine Hz F xJ λHh A outer s H vs Q E hr h=>?_
 obtain⟨n,rfl,q⟩:=h
 refine⟨_,HX (Hq (To (Iz QU rfl mi B2 (Gi (pv 0) (Gi (Qr (v:=.ty "int") rfl m1 PyProof.Rows.boot_int rfl) Gy)))
  (Uj (dQ (Iz QU rfl mi B2 (Gi (pv 0) (Gi (Qr (v:=.ty "bool") rfl m2 PyProof.Rows.boot_bool rfl) Gy))))))),?_⟩
 exact⟨_,rfl,_,_,_,_,rfl,Ib.int _,Rh _ _,_,rfl,KC ⟨_,rfl,_,_,_,_,rfl,Ib.int _,Yn _,_,rfl,q⟩⟩
theorem rY(x:Int)(y:Nat):Nat.gcd y (x%(y:Int)).natAbs=Nat.gcd x.natAbs y:=by
 have h:=Int.gcd_add_mul_left_right (y:Int) (x%y) (x / y)
 rw[Int.emod_add_mul_ediv]at h
 have h1:Int.gcd (y:Int) x=Nat.gcd y x.natAbs:=rfl
 have h2:Int.gcd (y:Int) (x%y)=Nat.gcd y (x%(y:Int)).natAbs:=rfl
 rw[<-h2,<-h,h1,HJ]
theorem VA:Gq ["_law_one", "_law_other"] ["_law_one", "_law_other"] (He P8):=IA
noncomputable def QN:Sp:=λvs H Q _=>∃(a:Int)(b:Nat),vs=[.int a,.int b]/\∀H',Gp H H'->Q (.int ((Nat.gcd a.natAbs b:Nat):Int)) H'
theorem mM(F:Hu K "_law_shared" "_law_shared" P8 f fd)(ma:mg "abs" = none):HC P w K mg base Hn 2 f fd ["_law_one", "_law_other"] QN:=by
 refine Hz F VA λHh A outer s H vs Q E hr h=>?_
 obtain⟨a,b,rfl,q⟩:=h
 refine⟨_,HY (Wb Af (IJ OE (pv 1) Ha (ID _))
   (HX (bN (i:=0) (j:=1) rfl VA.nd rfl rfl (by decide) rfl rfl (Gi (pv 1) (Gi (Hf Kt (pv 0) (pv 1)) Gy)) rfl)))
  (HX (Hq (Iz R9 rfl ma Gb (Gi (pv 0) Gy)))),?_⟩
 refine⟨λm σ H'=>∃(x:Int)(y:Nat),m=y/\σ=[some (.int x),some (.int y)]/\Nat.gcd x.natAbs y=Nat.gcd a.natAbs b/\Gp H H',⟨b,a,b,rfl,rfl,rfl,Gp.refl _⟩,?_⟩
 rintro m σ H1 ⟨x,y,rfl,rfl,e,s1⟩
 refine⟨_,rfl,rfl,_,rfl,?_⟩
 by_cases c0:m=0
 ·subst c0
  refine JD ⟨_,rfl,x,rfl,?_⟩
  rw[Nat.gcd_zero_right]at e
  rw[Si,e]
  exact q H1 s1
 ·rw[TQ c0]
  refine KC ⟨λσ' H'=>σ'=[some (.int m),some (.int (x%(m:Int)))]/\Gp H H',λσ' H' ⟨e1,e2⟩=>⟨(x%(m:Int)).natAbs,?_,m,(x%(m:Int)).natAbs,rfl,?_,?_,e2⟩,?_⟩
  ·have:=B6 x (show(0:Int)<(m:Int) by lia)
   have:=CJ x (show(m:Int)≠0 by lia)
   lia
  ·rw[e1]
   have:=CJ x (show(m:Int)≠0 by lia)
   rw[show(((x%(m:Int)).natAbs:Nat):Int)=x%(m:Int) by lia]
  ·rw[<-e]
   exact rY x m
  ·exact⟨_,rfl,_,rfl,_,rfl,_,_,rfl,rfl,(by show(0:Int)<(m:Int);lia),_,_,rfl,rfl,s1⟩
noncomputable abbrev Vj:yB:=["_law_row", "_law_many", "_law_kind"]
theorem ZR:Gq Vj Vj (He QL):=IA
noncomputable def Ox:Sp:=λvs H Q _=>∃(k:Str)(n:Nat)(p:yJ)(r:xX),vs=[.ref p,.int n,.str k]/\H p=some (.tup (r.map V.int))/\r.length<=1000/\∀H',Gp H H'->Q (.bl (JX k n r)) H'
theorem Xr(F:Hu K "_law_let_in" "_law_let_in" QL f fd)(mn:mg "len" = none)(mx:mg "max" = none)(ml:mg "list" = none):HC P w K mg base Hn 2 f fd Vj Ox:=by
 refine Hz F ZR λHh A outer s H vs Q E hr h=>?_
 obtain⟨k,n,p,r,rfl,hp,hl,q⟩:=h
 refine⟨_,HY (IW (PW.pt (K7 (IJ Ke (pv 2) LV (ID _)) (Nu (IJ Ke (pv 2) LV (ID _))))) (HX (Hq (NF Qt (Iz KS rfl mn BR (Gi (pv 0) Gy)) (pv 1) (ID _)))) IX)
  (HX (Hq (NF Qt (Iz (YR rfl) rfl mx Gc (Gi (Hf Wt (MJ dR rfl ml Cv (Gi (pv 0) Gy)) (Ik (Gi Ha Gy))) Gy)) (pv 1) (ID _)))),?_⟩
 have el:k∈(["exchange", "filling"]:yB)->JX k n r=decide ((r.length:Int)<=(n:Int)):=λc=>by unfold JX;rw[AF c]
 refine⟨_,rfl,rfl,_,rfl,?_⟩
 by_cases c1:k = "exchange"
 ·refine Jf (Mr c1) (KC ⟨_,rfl,p,_,rfl,.inr (HM.of hp),_,rfl,_,_,rfl,rfl,?_⟩)
  have:=q _ (Gp.refl H)
  rw[el (by rw[c1];decide)]at this
  rw[AB]
  exact this
 refine JF (Mj c1) ⟨_,rfl,rfl,_,rfl,?_⟩
 by_cases c2:k = "filling"
 ·refine Jf (Mr c2) ⟨_,rfl,p,_,rfl,.inr (HM.of hp),_,rfl,_,_,rfl,rfl,?_⟩
  have:=q _ (Gp.refl H)
  rw[el (by rw[c2];decide)]at this
  rw[AB]
  exact this
 refine JF (Mj c2) ?_
 refine⟨_,rfl,p,r.map V.int,rfl,.inr (HM.of hp),λl1 h1=>?_⟩
 have s1:=HW h1 (.lst (r.map V.int))
 refine⟨Il,λl2 h2=>?_⟩
 have s2:=HW h2 (.lst [V.int 0])
 refine⟨l1,l2,_,_,rfl,rfl,s2 _ _ HR,HR,by rw[AB];show _+1<=_;have:sizeLine=16777216:=rfl;lia,λl3 h3=>?_⟩
 have s3:=HW h3 (.lst (r.map V.int++[V.int 0]))
 refine⟨l3,r++[0],rfl,HU.of (by rw[Ar];exact HR),by simp,λM hM hA=>⟨_,rfl,_,_,rfl,rfl,?_⟩⟩
 have:=q _ (s1.trans (s2.trans s3))
 have e:decide (M<=(n:Int))=JX k n r:=by
  unfold JX
  rw[AD (by simp;exact⟨c1,c2⟩),C4,AQ,AR]
  constructor
  ·intro h x hx
   have:=hA x (A0 _ hx)
   exact Ac (by lia)
  ·intro h
   rcases Ao.mp hM with hm|hm
   ·exact Ay (h M hm)
   ·rw[AS.mp hm];lia
 show Q (V.bl (decide (M<=(n:Int)))) _
 rw[e]
 exact this
end
section
variable{P:yL}{w:yM}{K:yG}{mg:Str->yD}{base:Heap}{f g:yJ}{fd gd:yN}
noncomputable abbrev wQ:yB:=["_law_found", "_law_many", "_law_kind", "_law_k", "_law_row", "_law_share", "_law_j"]
noncomputable abbrev qA:yB:=["_law_found", "_law_many", "_law_kind"]
theorem MI:Gq wQ qA (He Pg):=IA
noncomputable def SZ:Sp:=λvs H Q _=>∃(l:yJ)(T:List Ho)(n:Nat)(k:Str),vs=[.ref l,.int n,.str k]/\1<=n/\n<=4/\k∈Hj/\Gg H l T/\IG k n T/\T.length<=1000/\∀H',Gp H H'->Q (.bl true) H'
theorem V7{c A R:Prop}[Decidable c](hA:c->R->A)(r:R):if decide c=true then A else R:=by
 by_cases e:c
 ·exact Jf e (hA e r)
 ·exact JF e r
theorem ZE{r:xX}(h:Iu r=true):(∀x∈r,1<=x)/\∀i,i+1<r.length->r.getD (i+1) 0<=r.getD i 0:=by
 unfold Iu at h
 rw[AI,AI,AR,AR]at h
 exact⟨λx hx=>Ay (h.1.1 x hx),λi hi=>Ay (h.1.2 i (Al.mpr (by lia)))⟩
theorem jE(F:Hu K "_law_good" "_law_good" Pg f fd)(GW:Hc P w K mg base 3 "_law_whole" ["_law_found"] Tj)(GS:Hc P w K mg base 3 "_law_shared" ["_law_one", "_law_other"] QN)(GL:Hc P w K mg base 3 "_law_let_in" Vj Ox)(mi:mg "isinstance" = none)(ml:mg "list" = none)(mt:mg "tuple" = none)(mn:mg "len" = none)(mr:mg "range" = none):HC P w K mg base Hn 4 f fd qA SZ:=by
 refine Hz F MI λHh A outer s H vs Q E hr h=>?_
 obtain⟨l,T,n,kd,rfl,n1,n4,hkd,⟨vs,eL,iL⟩,gT,hz,q⟩:=h
 refine⟨_,HY (IW (Mq (Ku (Iz QU rfl mi B2 (Gi (pv 0) (Gi (Qr (v:=.ty "list") rfl ml Cv rfl) Gy))))) (HX (Hq Ms)) IX)
  (HY (Ie Af rfl (N9 rfl mr (Gi (Iz KS rfl mn BR (Gi (pv 0) Gy)) Gy)) (Hi (i:=3) MI.nd rfl (Or.inl rfl))
   (HY (IW (PW.pt (K7 (Mq (Ku (Iz QU rfl mi B2 (Gi (IY K4 (pv 0) (pv 3) (λ_ _=>rfl)) (Gi (Qr (v:=.ty "tuple") rfl mt BL rfl) Gy))))) (K7 (IJ OE (Iz KS rfl mn BR (Gi (IY K4 (pv 0) (pv 3) (λ_ _=>rfl)) Gy)) Ha (ID _)) (Nu (Mq (Ku (Iz QU rfl mi B2 (Gi (IY JU (IY K4 (pv 0) (pv 3) (λ_ _=>rfl)) Ha (λ_ _=>rfl)) (Gi (Qr (v:=.ty "tuple") rfl mt BL rfl) Gy))))))))) (HX (Hq Ms)) IX)
   (HY (Y5 (IY K4 (pv 0) (pv 3) (λ_ _=>rfl)) (JM rfl (IH (Hi (i:=4) MI.nd rfl (Or.inl rfl)) (IH (Hi (i:=5) MI.nd rfl (Or.inl rfl)) JQ))))
   (HY (IW (PW.pt (K7 (Mq (Ku (Iz QU rfl mi B2 (Gi (pv 5) (Gi (Qr (v:=.ty "tuple") rfl mt BL rfl) Gy))))) (K7 (IJ OE (Iz KS rfl mn BR (Gi (pv 5) Gy)) Ha (ID _)) (K7 (Mq (Ku (Hd GW hr rfl (Gi (IY JU (pv 5) Ha (λ_ _=>rfl)) Gy)))) (Nu (Mq (Ku (Hd GW hr rfl (Gi (IY JU (pv 5) Ha (λ_ _=>rfl)) Gy))))))))) (HX (Hq Ms)) IX)
   (HY (IW (PW.pt (K7 (IJ Ke (IY JU (pv 5) Ha (λ_ _=>rfl)) Ha (ID _)) (K7 (IJ QX (IY JU (pv 5) Ha (λ_ _=>rfl)) Ha (ID _)) (Nu (IJ OE (Hd GS hr rfl (Gi (IY JU (pv 5) Ha (λ_ _=>rfl)) (Gi (IY JU (pv 5) Ha (λ_ _=>rfl)) Gy))) Ha (ID _)))))) (HX (Hq Ms)) IX)
   (HY (IW (PW.pt (K7 (Mq (Ku (Hd GL hr rfl (Gi (pv 4) (Gi (pv 1) (Gi (pv 2) Gy)))))) (Nu (PW.pt (PJ (IJ Mg (pv 3) Ha (ID _)) (PL (IJ (bA hr.units0) (IY JU (IY K4 (pv 0) (Hf Kb (pv 3) Ha) (λ_ _=>rfl)) Ha (λ_ _=>rfl)) (pv 4) (ID _)))))))) (HX (Hq Ms)) IX)
   (HX (Ie Af rfl (N9 rfl mr (Gi (Iz KS rfl mn BR (Gi (pv 4) Gy)) Gy)) (Hi (i:=6) MI.nd rfl (Or.inl rfl))
    (HX (IW (PW.pt (K7 (Mq (Ku (Hd GW hr rfl (Gi (IY JU (pv 4) (pv 6) (λ_ _=>rfl)) Gy)))) (K7 (IJ QX (IY JU (pv 4) (pv 6) (λ_ _=>rfl)) Ha (ID _)) (Nu (PW.pt (PJ (IJ Mg (pv 6) Ha (ID _)) (PL (IJ Mg (IY JU (pv 4) (pv 6) (λ_ _=>rfl)) (IY JU (pv 4) (Hf Kb (pv 6) Ha) (λ_ _=>rfl)) (ID _))))))))) (HX (Hq Ms)) IX))))))))))
  (HX (Hq Ms))),?_⟩
 have lv:=AM iL
 have at_:∀{k:Nat}{t:Ho},T[k]?=some t->∃p kk q,J1 vs (k:Int)=some (.ref p)/\H p=some (.tup [.ref kk,.ref q])/\H kk=some (.tup (t.1.map V.int))/\H q=some (.tup [.int (IL t),.int (Hx t:Int)]):=λ{k t} hx=>by
  have hk:k<vs.length:=by have:=(AZ.mp hx).1;lia
  obtain⟨y,hy,hi⟩:=Io iL (AL hk)
  rw[hx]at hy
  cases hy
  obtain⟨p,kk,q,ex,hp,hkk,hq⟩:=RG hi
  rw[(gT.fr t (AT hx)).is_]at hq
  exact⟨p,kk,q,JY (by rw[AL hk,ex]),hp,hkk,hq⟩
 refine⟨_,rfl,_,_,_,_,rfl,Ib.lst eL,Rh _ _,_,rfl,JD ?_⟩
 refine⟨_,rfl,l,_,rfl,.inl (HU.of eL),_,rfl,by lia,by lia,?_⟩
 rw[BB]
 refine NU (lo:=0) (n:=vs.length) (λi σ H'=>(∃c3 c4 c5 c6,σ=[some (.ref l),some (.int n),some (.str kd),c3,c4,c5,c6])/\Gp H H') ?_ ?_ ?_
 ·exact⟨⟨_,_,_,_,rfl⟩,λ_ _ e=>e⟩
 ·rintro i σ H1 hi ⟨⟨c3,c4,c5,c6,rfl⟩,s1⟩
  rw[DK]
  have hT:=AL (show i<T.length by lia)
  obtain⟨p,kk,qq,ax,hp,hkk,hq⟩:=at_ hT
  have tm:=AT hT
  have num:=gT.ne _ tm
  have one:=gT.one _ tm
  have bp:=(gT.fr _ tm).pos
  have rk:=Mf n1 n4 hkd (gT.row _ tm)
  have ord:∀j u,j+1=i->T[j]?=some u->Hs (T[i]).1 u.1=true:=λj u e hu=>by
   have:=Bx.mp gT.ord j i (by have:=(AZ.mp hu).1;lia) (by lia) (by lia)
   rw[(AZ.mp hu).2]at this
   exact this
  generalize T[i]=t at *
  obtain⟨r1,r2⟩:=ZE rk.row
  have rl:=rk.len
  have eL1:=s1 _ _ eL
  have hp1:=s1 _ _ hp
  have hk1:=s1 _ _ hkk
  have hq1:=s1 _ _ hq
  refine⟨_,rfl,_,rfl,l,_,_,.ref p,rfl,rfl,HU.of eL1,ax,_,_,_,_,rfl,Ib.tup hp1,Rh _ _,_,rfl,JD ?_⟩
  refine⟨_,rfl,_,rfl,l,_,_,.ref p,rfl,rfl,HU.of eL1,ax,p,_,rfl,.inr (HM.of hp1),rfl,_,rfl,JD ?_⟩
  refine⟨_,rfl,_,rfl,l,_,_,.ref p,rfl,rfl,HU.of eL1,ax,p,_,_,.ref kk,rfl,rfl,HM.of hp1,JY (j:=0) rfl,_,_,_,_,rfl,Ib.tup hk1,Rh _ _,_,rfl,JD ?_⟩
  refine⟨_,rfl,_,rfl,l,_,_,.ref p,rfl,rfl,HU.of eL1,ax,p,_,rfl,HM.of hp1,rfl,_,_,rfl,_,_,rfl,rfl,?_⟩
  refine⟨_,rfl,_,_,_,_,rfl,Ib.tup hq1,Rh _ _,_,rfl,JD ?_⟩
  refine⟨_,rfl,qq,_,rfl,.inr (HM.of hq1),rfl,_,rfl,JD ?_⟩
  refine⟨_,rfl,qq,_,_,.int (IL t),rfl,rfl,HM.of hq1,JY (j:=0) rfl,IL t,rfl,_,rfl,JD ?_⟩
  refine⟨_,rfl,qq,_,_,.int (Hx t:Int),rfl,rfl,HM.of hq1,JY (j:=1) rfl,(Hx t:Int),rfl,_,rfl,JD ?_⟩
  refine⟨_,rfl,qq,_,_,.int (IL t),rfl,rfl,HM.of hq1,JY (j:=0) rfl,rfl,_,rfl,JF (λz=>num (by injection z)) ?_⟩
  refine⟨_,rfl,qq,_,_,.int (Hx t:Int),rfl,rfl,HM.of hq1,JY (j:=1) rfl,_,_,rfl,rfl,_,rfl,JF (by lia) ?_⟩
  refine⟨_,rfl,qq,_,_,.int (IL t),rfl,rfl,HM.of hq1,JY (j:=0) rfl,_,rfl,qq,_,_,.int (Hx t:Int),rfl,rfl,HM.of hq1,JY (j:=1) rfl,IL t,Hx t,rfl,λH2 s2=>⟨rfl,_,rfl,Pd (by rw[one];rfl) ?_⟩⟩
  have s12:=s1.trans s2
  have hk2:=s2 _ _ hk1
  refine⟨_,rfl,_,rfl,_,rfl,kd,n,kk,t.1,rfl,hk2,by lia,λH3 s3=>⟨_,rfl,?_⟩⟩
  rw[rk.lets]
  refine JD ?_
  have s13:=s12.trans s3
  have hk3:=s3 _ _ hk2
  have eL3:=s13 _ _ eL
  refine⟨_,rfl,_,_,rfl,rfl,_,rfl,?_⟩
  refine V7 (λci hG=>?_) (JD ?_)
  ·obtain⟨j,rfl⟩:∃j,i=j+1:=⟨i-1,by lia⟩
   have hT':=AL (show j<T.length by lia)
   obtain⟨p',kk',q',ax',hp',hkk',_⟩:=at_ hT'
   have o:=ord j _ rfl hT'
   refine⟨_,rfl,_,rfl,_,_,rfl,rfl,l,_,_,.ref p',rfl,rfl,HU.of eL3,(by rw[show((j+1:Nat):Int)-1=(j:Int) by lia];exact ax'),p',_,_,.ref kk',rfl,rfl,HM.of (s13 _ _ hp'),JY (j:=0) rfl,_,rfl,kk',kk,_,_,rfl,rfl,HM.of (s13 _ _ hkk'),HM.of hk3,_,rfl,?_⟩
   rw[RP,o]
   exact hG
  ·refine⟨_,rfl,kk,_,rfl,.inr (HM.of hk3),_,rfl,by lia,by rw[AB];lia,?_⟩
   rw[BB,AB]
   refine NU (lo:=0) (n:=t.1.length) (λj σ H'=>(∃c6,σ=[some (.ref l),some (.int n),some (.str kd),some (.int (i:Int)),some (.ref kk),some (.ref qq),c6])/\H'=H3) ?_ ?_ ?_
   ·exact⟨⟨_,rfl⟩,rfl⟩
   ·rintro j σ H4 hj ⟨⟨c6,rfl⟩,rfl⟩
    rw[DK]
    have hx:t.1[j]?=some (t.1.getD j 0):=by rw[Ad,AL hj];rfl
    have axj:J1 (t.1.map V.int) (j:Int)=some (.int (t.1.getD j 0)):=JY (by rw[Ag,hx];rfl)
    have x1:=r1 _ (AT hx)
    refine⟨_,rfl,_,rfl,kk,_,_,_,rfl,rfl,HM.of hk3,axj,_,rfl,_,rfl,JD ?_⟩
    refine⟨_,rfl,_,rfl,kk,_,_,_,rfl,rfl,HM.of hk3,axj,_,_,rfl,rfl,_,rfl,JF (by lia) ?_⟩
    refine⟨_,rfl,_,_,rfl,rfl,_,rfl,?_⟩
    refine V7 (λci hG=>?_) (JD ⟨⟨_,rfl⟩,rfl⟩)
    obtain⟨m,rfl⟩:∃m,j=m+1:=⟨j-1,by lia⟩
    have hx':t.1[m]?=some (t.1.getD m 0):=by rw[Ad,AL (by lia)];rfl
    have axm:J1 (t.1.map V.int) (((m+1:Nat):Int)-1)=some (.int (t.1.getD m 0)):=by
     rw[show((m+1:Nat):Int)-1=(m:Int) by lia]
     exact JY (by rw[Ag,hx'];rfl)
    have:=r2 m hj
    exact⟨_,rfl,_,rfl,kk,_,_,_,rfl,rfl,HM.of hk3,axj,_,rfl,_,rfl,_,_,rfl,rfl,kk,_,_,_,rfl,rfl,HM.of hk3,axm,_,_,rfl,rfl,_,rfl,JF (by lia) hG⟩
   ·rintro σ H4 ⟨⟨c6,rfl⟩,rfl⟩
    exact⟨⟨_,_,_,_,rfl⟩,s13⟩
 ·rintro σ H1 ⟨⟨c3,c4,c5,c6,rfl⟩,s1⟩
  exact q _ s1
end
end L2.K91
namespace L2.Ev
open PySem PySem.Spec PyProof.Rows
open L2.Ts L2.Pl L2.Rw
noncomputable def JO(d:List (Pw×V)):List (List IB×V):=d.map λt=>(t.1.map Sum.inl,t.2)
theorem S7(d:List (Pw×V)):(JO d).length=d.length:=AB _
theorem RS{X:Cx}{Fq:yA}{σ:St}{H:Hp}{s:yH}{a:yJ}{d:List (Pw×V)}(I:Inv X Fq σ H s)(h:Rd H a (.dT (JO d))) :
  d.length<=sizeLine/\(a==sysModules)=false/\∃(es:Array yP)(ep:Nat),JE s.heap a es ep/\es.size=d.length /\
   Paired (λ(e:yP)(t:Pw×V)=>(∃p,e.key=.ref p/\H p=some (.tup (t.1.map V.int)))/\HN t.2 e.val) es.toList d:=by
 obtain⟨z,y,xs,r,o,es,ep,h1,h2,h3,h4,h5⟩:=(show Hg X.prog X.w H s.heap a (.dT (JO d)) from NJ I.hok h)
 have key:∀{d:List (Pw×V)}{xs:List (List IB×yJ×yI)},KT H (JO d) xs->Paired (λ(e:yP)(t:Pw×V)=>(∃p,e.key=.ref p/\H p=some (.tup (t.1.map V.int)))/\HN t.2 e.val) (xs.map (entryOfKey (tupleKind (KU X.prog X.w)))) d:=by
  intro d
  induction d with
  |nil=>intro xs r;cases r;exact .nil
  |cons t d ih =>
   intro xs r
   cases r with
   |cons q qs =>
    refine .cons ⟨⟨_,rfl,?_⟩,q.2.2⟩ (ih qs)
    have:=q.2.1
    rw[<-Ma]
    exact this
 have kp:=key r
 rw[<-h4]at kp
 refine⟨by rw[<-S7];exact z,y,es,ep,⟨o,h1,h2,h3⟩,?_,kp⟩
 rw[<-AV]
 exact AM kp
noncomputable abbrev Wm:=xX×xX
noncomputable def N5(a b:Wm):Bool:=if a.1=b.1 then Hs a.2 b.2 else Hs a.1 b.1
theorem Yj:RC N5 where
 irr:=λa=>by unfold N5;rw[AF rfl];exact Ji _
 trans:=λ{a b c} h q=>by
  unfold N5 at h q ⊢
  by_cases e1:a.1=b.1
  ·rw[AF e1]at h
   by_cases e2:b.1=c.1
   ·rw[AF e2]at q
    rw[AF (e1.trans e2)]
    exact Lu h q
   ·rw[AD e2]at q
    rw[AD (λz=>e2 (e1.symm.trans z)),e1]
    exact q
  ·rw[AD e1]at h
   by_cases e2:b.1=c.1
   ·rw[AD (λz=>e1 (z.trans e2.symm)),<-e2]
    exact h
   ·rw[AD e2]at q
    have t:=Lu h q
    rw[AD (λz=>by rw[z,Ji]at t;cases t)]
    exact t
 tri:=λ{a b} h q=>by
  unfold N5 at h q
  by_cases e:a.1=b.1
  ·rw[AF e]at h
   rw[AF e.symm]at q
   exact EH e (MV h q)
  ·rw[AD e]at h
   rw[AD (λz=>e z.symm)]at q
   exact absurd (MV h q) e
instance Zv:JR Wm where
 lt:=N5
 lin:=Yj
 plain:=false
 ok:=λ_=>True
 first:=λ{X Fq σ H s v a} I h ok=>by
  obtain⟨p,x,y,rfl,hp,hx,hy⟩:=h
  obtain⟨o,its,n,ho,hc,hd,rv⟩:=LD I hp
  obtain⟨p2,rfl,hp2⟩:=JI hx
  obtain⟨o2,its2,n2,ho2,hc2,hd2,rv2⟩:=LD I hp2
  obtain⟨w1,w2,rfl,r1,r2⟩:=MF rv
  cases r1
  refine⟨p,o,_,n,_,rfl,ho,hc,hd,rfl,?_⟩
  rw[AD (by decide),<-hc2]
  exact(EI ho2).andThen .now
 asks:=λ{X Fq σ H s A v v' u u' a b} I hu h h' ok ok' r r' Q q=>by
  obtain⟨p,x,y,rfl,hp,hx,hy⟩:=h
  obtain⟨p',x',y',rfl,hp',hx',hy'⟩:=h'
  obtain⟨o,its,n,ho,hc,hd,rv⟩:=LD I hp
  obtain⟨o',its',n',ho',hc',hd',rv'⟩:=LD I hp'
  cases r
  cases r'
  obtain⟨w1,w2,rfl,r1,r2⟩:=MF rv
  obtain⟨z1,z2,rfl,t1,t2⟩:=MF rv'
  refine Fz ho hd ho' hd' ?_
  show W.KatLex _ _ _ _ _ _ [(w1,z1),(w2,z2)] 0 s
  have e1:=Dat.eqAt (A:=A) I (by show A.units+(0+1)<cLine;lia) hx hx' r1 t1
  refine Da (e1 _ _ _ _ ?_)
  unfold N5 at q
  have less:∀{x x':V}{w1 z1:yI}{m m':xX},Dat.is H x m->Dat.is H x' m'->HN x w1->HN x' z1->∀Q':xZ,∀E':xZ,Q' (.bool (Hs m m')) s->wpAny (model X.prog X.w) A (compareOp .Lt w1 z1) Q' E' s:=by
   intro x x' w1 z1 m m' hx hx' r1 t1 Q' E' q'
   obtain⟨p2,rfl,hp2⟩:=JI hx
   obtain⟨p2',rfl,hp2'⟩:=JI hx'
   cases r1
   cases t1
   obtain⟨its,r1,q1,_⟩:=I.tuple (HM.of hp2)
   obtain⟨its2,r2,q2,_⟩:=I.tuple (HM.of hp2')
   have i1:IntsAre its.toArray.toList m:=J3 r1
   have i2:IntsAre its2.toArray.toList m':=J3 r2
   refine HT.lt_tupInts q1 q2 i1 i2 (by lia) ?_
   rw[RP]
   exact q'
  cases c:Dat.eqb a.1 b.1 with
  |true =>
   have e:=(Dat.eqb_iff a.1 b.1).mp c
   rw[AF e]at q
   refine Dq ?_
   have e2:=Dat.eqAt (A:=A) I (by show A.units+(0+1)<cLine;lia) hy hy' r2 t2
   refine Da (e2 _ _ _ _ ?_)
   cases c2:Dat.eqb a.2 b.2 with
   |true =>
    have e3:=(Dat.eqb_iff a.2 b.2).mp c2
    rw[e3,Ji]at q
    refine Dq (Dp ?_)
    simpa using q
   |false=>exact D0 (DU _ _ (less hy hy' r2 t2 _ _ q))
  |false =>
   have e:¬ a.1=b.1:=λz=>by rw[(Dat.eqb_iff a.1 b.1).mpr z]at c;cases c
   rw[AD e]at q
   exact D0 (DU _ _ (less hx hx' r1 t1 _ _ q))
theorem Sq{H:Hp}{X:Cx}{Fq:yA}{σ:St}{s:yH}{a:yJ}{o:Obj}{d:List (Pw×V)}{es:Array yP}{ep:Nat}(hd:o.data=.dict es ep)(I:Inv X Fq σ H s)(h:H a=some (.frz o (.dT (JO d)))) :
  JE s.heap a es ep/\es.size=d.length/\Paired (λ(e:yP)(t:Pw×V)=>(∃p,e.key=.ref p/\H p=some (.tup (t.1.map V.int)))/\HN t.2 e.val) es.toList d:=by
 obtain⟨_,_,es',ep',⟨o',h1,h2,h3⟩,h4,h5⟩:=RS I (.inr ⟨o,h⟩)
 obtain⟨h0,_⟩:=(show Hg X.prog X.w H s.heap a (.frz o (.dT (JO d))) from I.hok a _ h)
 rw[h0]at h1
 cases h1
 rw[hd]at h3
 cases h3
 exact⟨⟨o,h0,h2,hd⟩,h4,h5⟩
noncomputable def MB(a:yJ)(o:Obj)(d:List (Pw×V)):It :=
 ⟨λi H=>H a=some (.frz o (.dT (JO d)))/\i<d.length,
  λi H v H'=>∃q t,v=.ref q/\d[i]?=some t/\H q=some (.tup (t.1.map V.int))/\H'=H,
  λi H=>H a=some (.frz o (.dT (JO d)))/\d.length<=i⟩
theorem ZA{P:yL}{w:yM}{K:yG}{tg:Expr}(a it:yJ)(o:Obj)(d:List (Pw×V))(es:Array yP)(ep:Nat)(hd:o.data=.dict es ep) :
  KY P w K tg (MB a o d) [it] it (λi h=>h.IsKeyIter it a i es.size ep) where
 mem:=by simp
 obj:=λi h st b hb=>by
  obtain⟨o',e1,e2,e3⟩:=st
  have e:b=it:=by simpa using hb
  subst e
  exact⟨o',e1,λv z=>by rw[e3]at z;cases z⟩
 keep:=λi h h' st k=>st.at λo e=>k it (by simp) o e
 item:=by
  intro X hP hw hK hc i Fq s σ H E I hf st hg
  subst hP hw hK
  obtain⟨hg,hi⟩:=hg
  obtain⟨raw,sz,ent⟩:=Sq hd I hg
  obtain⟨f0,f1,f2,f3,f4,f5⟩:=hf it (by simp)
  have hi':i<es.size:=by lia
  have ei:es.toList[i]?=some es[i]:=by rw[BE,AO hi']
  obtain⟨t,et,⟨q,eq1,eq2⟩,rt⟩:=Paired.get ent ei
  refine Uh st raw hi' λh' on sb=>?_
  have I1:Inv X Fq σ H { s with heap:=h' }:=I.turned (t':=s.toks) (λb o hb e=>(sb.2 b hb).trans e) f0 f1 f3 f4 f5
  obtain⟨o',e1,e2,e3⟩:=id on
  exact⟨_,rfl,Tf (s:={ s with heap:=h' }) e1 e2 e3 (by decide) ⟨.ref q,H,I1,by rw[eq1];rfl,⟨q,t,rfl,et,eq2,rfl⟩,on,λb hb=>(hf b hb).1⟩⟩
 done:=by
  intro X hP hw hK hc i Fq s σ H E I hf st hg
  subst hP hw hK
  obtain⟨hg,hi⟩:=hg
  obtain⟨raw,sz,ent⟩:=Sq hd I hg
  obtain⟨f0,f1,f2,f3,f4,f5⟩:=hf it (by simp)
  exact UN (I.ok.hd hc) st raw (by lia) λh' eb=>⟨rfl,I.turned (t':=s.toks) (λb o hb e=>eb b o hb e) f0 f1 f3 f4 f5⟩
 self:=λ_ _ _ _ _ st h=>wpAny_pyIter_keyiter st h
noncomputable def sJ(te:TE):TI:=λσ H R=>te σ H λx H1=>∃(a:yJ)(d:List (Pw×V)),x=.ref a/\H1 a=some (.dT (JO d))/\∀o:Obj,R (MB a o d) (HV H1 a (.frz o (.dT (JO d))))
theorem eC{X:Cx}{tg eo:Expr}{te:TE}(ho:PE X eo te):PI X tg eo (sJ te):=by
 intro Fq s σ H R I h
 refine Hk (ho Fq s σ H _ I h) λv s1 ⟨x,H1,I1,r1,q1⟩=>?_
 obtain⟨a,d,rfl,hd,q⟩:=q1
 cases r1
 obtain⟨z,lo,es,ep,raw,sz,ent⟩:=RS I1 (.inl hd)
 obtain⟨o,ho,hx,hdat⟩:=id raw
 refine Us lo raw ?_
 have I2:Inv X Fq σ H1 { s1 with heap:=s1.heap.push { cls:=.type "dict_keyiterator",data:=.fields #[.ref a,.int 0 0,.int es.size 0,.int ep 0] } }:=I1.kept (t':=s1.toks) λb u e=>AC _ e
 have hn:H1 s1.heap.objs.size=none:=I1.hok.fresh (AH _)
 have ho2:(s1.heap.push { cls:=.type "dict_keyiterator",data:=.fields #[.ref a,.int 0 0,.int es.size 0,.int ep 0] }).get? a=some o:=AC _ ho
 have I3:Inv X Fq σ (HV H1 a (.frz o (.dT (JO d)))) { s1 with heap:=s1.heap.push { cls:=.type "dict_keyiterator",data:=.fields #[.ref a,.int 0 0,.int es.size 0,.int ep 0] } }:=by
  refine I2.write (x:=a) (e:=a) (o:=.frz o (.dT (JO d))) (t':=s1.toks) (by rw[hd];exact True.intro) (.inl rfl) (λb u _ e=>e) ⟨o,ho2⟩ ⟨ho2,?_⟩
  refine(I2.hok a _ hd).stay (λb u _ e=>e) (λb e=>?_) λb xs e=>?_
  ·rw[Hw (Jw e hd (by intro z;cases z))];exact e
  ·rw[Hw (Jw e hd (by intro z;cases z))];exact e
 refine⟨_,[s1.heap.objs.size],_,_,_,rfl,I3,ZA a s1.heap.objs.size o d es ep hdat,⟨_,AW _ rfl,rfl,rfl⟩,λb hb=>?_,q o⟩
 have eb:b=s1.heap.objs.size:=by simpa using hb
 subst eb
 refine I1.fpOk (AH _) ?_
 rw[Hw (Jd hd hn).symm]
 exact hn
theorem cB{α:Type}[Dat α]{a:yJ}{o:Obj}{d:List (Pw×V)}{σ0:St}{H1:Hp}{D:yJ}{R:Hp->Prop}{g:TG}{tc:TT}{te:TE}(hD:H1 D=none)(hl:H1 a=some (.frz o (.dT (JO d))))(Sp:St->Prop)(out:Nat->Option α)(hn:d.length<=sizeLine)(h0:Sp σ0)
  (IU:∀(i:Nat)(t:Pw×V)(q:yJ)(σ':St)(H':Hp)(Yes:V->St->Hp->Prop)(No:St->Hp->Prop),d[i]?=some t->H' q=some (.tup (t.1.map V.int))->Sp σ'->Gp H1 H'->(∀y σ2 H4 a,Sp σ2->Gp H' H4->out i=some a->Dat.is H4 y a->Yes y σ2 H4)->(∀σ2 H3,Sp σ2->Gp H' H3->out i=none->No σ2 H3) ->
   g (.ref q) σ' H' λσ2 H2=>tc σ2 H2 λok H3=>if ok=true then te σ2 H3 λy H4=>Yes y σ2 H4 else No σ2 H3)
  (hend:∀H',Gp H1 H'->Gg H' D ((List.range d.length).filterMap out)->R H') :
  ∃W:Nat->Nat->St->Hp->Prop,(∃m,W 0 m σ0 (HV H1 D (.lst [])))/\∀i m σ' H',W i m σ' H' ->
  ((MB a o d).stop i H'/\R H')∨((MB a o d).go i H'/\∃N:St->Hp->Prop,(∀σ'' H'',N σ'' H''->∃m',m'<m/\W (i+1) m' σ'' H'') /\
   ∀x H'',(MB a o d).yld i H' x H''->g x σ' H'' λσ2 H2=>tc σ2 H2 λok H3=>if ok=true then te σ2 H3 λy H4=>∃ys,H4 D=some (.lst ys)/\ys.length<sizeLine/\N σ2 (HV H4 D (.lst (ys++[y]))) else N σ2 H3):=by
 refine Q3 (Q:=λ_ H=>R H) (n:=d.length) hD Sp out hn h0 (λH' e=>⟨e _ _ hl,AH _⟩) (λi H' hi e=>⟨e _ _ hl,hi⟩) (λi σ' H' Yes No hi hS hH hy hn x H'' y=>?_) hend
 obtain⟨q,t,rfl,ht,hq,rfl⟩:=y
 exact IU i t q σ' H'' Yes No ht hq hS hH hy hn
end L2.Ev
namespace L2.K91
open PySem
open L2.Pl L2.Ev
section
variable{P:yL}{w:yM}{K:yG}{mg:Str->yD}{base:Heap}{f g:yJ}{fd gd:yN}
theorem Yy{H:Hp}{vs:List V}{rs:List xX}(iL:Hr H vs rs)(h:0<rs.length)(x:Int):∃(j:Nat)(r:xX)(p:yJ),x%(vs.length:Int)=j/\J1 vs (x%(vs.length:Int))=some (.ref p)/\r∈rs/\H p=some (.tup (r.map V.int)):=by
 have lv:=AM iL
 have m0:=CJ x (show(vs.length:Int)≠0 by lia)
 have m1:=B6 x (show(0:Int)<(vs.length:Int) by lia)
 obtain⟨j,hj⟩:∃j:Nat,x%(vs.length:Int)=j:=⟨(x%(vs.length:Int)).toNat,by lia⟩
 have jl:j<vs.length:=by lia
 obtain⟨r,hr',hi⟩:=Io iL (AL jl)
 obtain⟨pr,e1,hpr⟩:=JI hi
 exact⟨j,r,pr,hj,by rw[hj];exact JY (by rw[AL jl,e1]),AT hr',hpr⟩
theorem UC{X:Cx}{st:Stmt}{t:TS}(h:PS X st t):PS X st (λD σ H=>∃I:St->Hp->Prop,t { D with nx:=I } σ H/\∀σ' H',I σ' H'->D.nx σ' H'):=by
 intro Fq s σ H D inv ⟨I,q1,q2⟩
 refine Hk (h Fq s σ H { D with nx:=I } inv q1) λfl s' e=>?_
 cases fl with
 |next=>obtain⟨σ',H',i,n⟩:=e;exact⟨σ',H',i,q2 _ _ n⟩
 |brk=>exact e
 |cont=>exact e
 |ret u=>exact e
theorem lN(d:List (Pw×V))(p:Pw)(v:V)(nd:(d.map (·.1)).Nodup):∃d',KI (JO d) (p.map Sum.inl) v=JO d'/\d'.length<=d.length+1/\(∀t∈d',t∈d∨t=(p,v))/\(d'.map (·.1)).Nodup:=by
 unfold KI
 by_cases c:((JO d).any λkv=>decide (kv.1=p.map Sum.inl))=true
 ·refine⟨d.map λt=>if t.1=p then (t.1,v) else t,?_,by simp,λt ht=>?_,?_⟩
  ·rw[AF c]
   unfold JO
   rw[Bp,Bp]
   apply CF
   intro t _
   simp only[Function.comp]
   by_cases e:t.1=p
   ·rw[AF (by rw[e]),AF e]
   ·rw[AD (λz=>e (Qk z)),AD e]
  ·obtain⟨u,hu,e⟩:=AN.mp ht
   by_cases q:u.1=p
   ·rw[AF q]at e
    right
    rw[<-e,q]
   ·rw[AD q]at e
    left
    rw[<-e]
    exact hu
  ·rw[Bp,show((λt:Pw×V=>t.1) ∘ λt=>if t.1=p then (t.1,v) else t)=λt=>t.1 from funext λt=>by simp only[Function.comp];split<;>rfl]
   exact nd
 ·refine⟨d++[(p,v)],?_,by simp,λt ht=>?_,?_⟩
  ·rw[AD c]
   unfold JO
   rw[Ar]
   rfl
  ·rcases Ao.mp ht with h|h
   ·exact .inl h
   ·exact .inr (AS.mp h)
  ·rw[Ar,Et]
   refine⟨nd,by simp,λa ha b hb e=>c ?_⟩
   rw[Bt,AS]at hb
   obtain⟨t,ht,rfl⟩:=AN.mp ha
   refine E7.mpr ⟨(t.1.map Sum.inl,t.2),AN.mpr ⟨t,ht,rfl⟩,Ac ?_⟩
   show t.1.map Sum.inl=p.map Sum.inl
   rw[e,hb]
theorem SV:∀{d:List (Pw×V)},(d.map (·.1)).Nodup->∀{t:Pw×V},t∈d->Kl (JO d) (t.1.map Sum.inl)=some t.2
 |[],_,t,h=>by cases h
 |u::r,nd,t,h=>by
  rw[Ai,Ce]at nd
  show Kl ((u.1.map Sum.inl,u.2)::JO r) _=_
  rcases AY.mp h with rfl|h
  ·exact TH (p:=(t.1.map Sum.inl,t.2)) rfl
  ·rw[Sa (p:=(u.1.map Sum.inl,u.2)) (λz=>nd.1 (by rw[Qk z];exact AN.mpr ⟨t,h,rfl⟩))]
   exact SV nd.2 h
noncomputable def Lk(k:Str)(n m:Nat):List xX:=(List.range m).flatMap λ(j:Nat)=>(up 9 (j:Int) (j:Int) (j:Int)).filter λr=>JX k n r
theorem gM{k:Str}{n w:Nat}(n1:1<=n)(n4:n<=4)(hk:k∈Hj)(hw:w<=I0 n):∀r∈Lk k n (w+1),r∈Ju k n:=λr hr=>by
 obtain⟨j,hj,h⟩:=A5.mp hr
 have:=Al.mp hj
 obtain⟨h1,h2⟩:=BU.mp h
 have e:=AR.mp (AR.mp (qI n (Jp n1 n4) k hk) j (Al.mpr (by lia))) r h1
 rw[DT,h2]at e
 rcases e with e|e
 ·cases e
 ·exact Cb.mp e
theorem lQ{k:Str}{n w:Nat}(hk:k∈Hj):0<(Lk k n (w+1)).length:=by
 have:([]:xX)∈Lk k n (w+1):=A5.mpr ⟨0,Al.mpr (by lia),BU.mpr ⟨by simp [up],by unfold JX;split<;>simp⟩⟩
 exact List.length_pos_of_mem this
theorem mH(k:Str)(n:Nat):∀m,m<=9->(Lk k n m).length<=256*m
 |0,_=>by simp [Lk]
 |m+1,h=>by
  have ih:=mH k n m (by lia)
  have e:Lk k n (m+1)=Lk k n m++(up 9 (m:Int) (m:Int) (m:Int)).filter λr=>JX k n r:=by
   unfold Lk
   rw[CH,BM,BX]
  have l1:(up 9 (m:Int) (m:Int) (m:Int)).length<=256:=Um (by lia) (by lia)
  have:=C8 (λr=>JX k n r) (up 9 (m:Int) (m:Int) (m:Int))
  rw[e,AJ]
  lia
noncomputable def Qb(k:Str)(n:Nat)(H:Hp)(t:Pw×V):Prop:=t.1∈Ju k n/\∃(q:yJ)(c:Int)(b:Nat),t.2=.ref q/\H q=some (.tup [.int c,.int (b:Int)])/\c≠0/\1<=b/\b<=12/\Nat.gcd c.natAbs b=1/\c.natAbs<=10^30
theorem Qb.keep{k:Str}{n:Nat}{H H':Hp}{t:Pw×V}(h:Qb k n H t)(kp:∀q xs,H q=some (.tup xs)->H' q=some (.tup xs)):Qb k n H' t:=by
 obtain⟨a,q,c,b,e,hq,r⟩:=h
 exact⟨a,q,c,b,e,kp _ _ hq,r⟩
noncomputable abbrev bI:yB:=["_law_script", "_law_many", "_law_weight", "_law_kind", "_law_menu", "_law_k", "_law_shares", "_law_cell_here", "_law_top", "_law_bottom", "_law_by"]
noncomputable abbrev Zr:yB:=["_law_script", "_law_many", "_law_weight", "_law_kind"]
noncomputable abbrev tS:yB:=["_law_row", "_law_many", "_law_kind"]
noncomputable abbrev tN:yB:=["_law_row", "_law_shares"]
theorem sY:tS.Nodup:=by decide +kernel
theorem Ym:tN.Nodup:=by decide +kernel
theorem Jz:Gq bI Zr (He MQ):=IA
noncomputable def TR(K:yG):Sp:=λvs H Q _=>∃(a:yJ)(ns:xX)(n w:Nat)(k:Str),vs=[.ref a,.int n,.int w,.str k]/\HU K H a (ns.map V.int)/\1<=n/\n<=4/\w<=I0 n/\k∈Hj /\
 ∀(l:yJ)(H':Hp)(T:List Ho),H l=none->Gp H H'->Gg H' l T->IG k n T->(∀t∈T,(IL t).natAbs<=10^30/\Hx t<=12)->T.length<=6->Q (.ref l) H'
theorem Zg(F:Hu K "_law_telling" "_law_telling" MQ f fd)(GR:Hc P w K mg base 9 "_law_rows" pU (LZ 9))(GL:Hc P w K mg base 9 "_law_let_in" Vj Ox)(GS:Hc P w K mg base 9 "_law_shared" ["_law_one", "_law_other"] QN)(mr:mg "range" = none)(mn:mg "len" = none)(ms:mg "sorted" = none):HC P w K mg base Hn 10 f fd Zr (TR K):=by
 refine Hz F Jz λHh A outer s H vs Q E hr h=>?_
 obtain⟨a,ns,n,wt,kd,rfl,hS,n1,n4,hw,hkd,q⟩:=h
 have hu:=Os hr
 have h8:=Q5 hr
 have hw6:=Oi n
 refine⟨_,HY (Hv (i:=4) Jz.nd rfl (Or.inl rfl) (Ik Gy))
  (HY (Ie Af rfl (N9 rfl mr (Gi (Hf Kn (pv 2) Ha) Gy)) (Hi (i:=5) Jz.nd rfl (Or.inl rfl))
   (HX (Hv (i:=4) Jz.nd rfl (Or.inl rfl) (Hf Wt (pv 4) (JK (N':=tS) (src:=[none,some 1,some 3]) rfl (Ic (Hd GR hr rfl (Gi (pv 5) (Gi (pv 5) (Gi (pv 5) Gy))))) (JJ (He MQ) bI (by decide +kernel))
    (λb=>Hi (i:=0) sY rfl (Or.inl rfl)) (λb=>RI (Ku (Hd GL hr rfl (Gi (pv 0) (Gi (pv 1) (Gi (pv 2) Gy)))))) (λb=>pv 0))))))
  (HY (Hv (i:=6) Jz.nd rfl (Or.inr rfl) jO)
  (HY (Ie Af rfl (Ic (Mx oM (pv 0) (Mn Ha) (Mn Ha))) (Hi (i:=7) Jz.nd rfl (Or.inl rfl))
   (HY (Hv (i:=8) Jz.nd rfl (Or.inl rfl) (Hf Kb (Hf Kt (Hf Ml (pv 7) Ha) Ha) Ha))
   (HY (UC (IW (IJ Ke (Hf Kt (Hf Ml (pv 7) Ha) Ha) Ha (ID _)) (HX (Hv (i:=8) Jz.nd rfl (Or.inl rfl) (Hf Kb (Hf Kt (Hf Ml (pv 7) Ha) (Hf Nh Ha (Hf R3 Ha Ha))) (Hf R3 Ha Ha)))) IX))
   (HY (Hv (i:=9) Jz.nd rfl (Or.inl rfl) (Hf Kn Ha (Hf Kt (Hf Ml (pv 7) Ha) Ha)))
   (HY (Hv (i:=10) Jz.nd rfl (Or.inl rfl) (Hd GS hr rfl (Gi (pv 8) (Gi (pv 9) Gy))))
   (HX (IW (IJ OE (pv 8) Ha (ID _)) (HX (OV hu (pv 6) (IY K4 (pv 4) (Hf Kt (pv 7) (Iz KS rfl mn BR (Gi (pv 4) Gy))) (λ_ _=>rfl)) (IE (Gi (Hf RL (pv 8) (pv 10)) (Gi (Hf RL (pv 9) (pv 10)) Gy))) rfl)) IX)))))))
  (HX (Hq (vL (α:=Wm) rfl h8 rfl ms (Gi (JK (N':=tN) (src:=[none,some 6]) rfl (eC (pv 6)) (JJ (He MQ) bI (by decide +kernel))
   (λb=>Hi (i:=0) Ym rfl (Or.inl rfl)) (λb=>Jh) (λb=>IE (Gi (pv 0) (Gi (RY hu (pv 1) (pv 0) (λ_ _=>rfl)) Gy)))) Gy))))))),?_⟩
 refine⟨JP,λm0 h0=>?_⟩
 have s1:=HW h0 (.lst [])
 refine⟨_,rfl,_,_,rfl,rfl,_,rfl,by lia,by lia,?_⟩
 rw[show((wt:Int)+1).toNat=wt+1 by lia]
 refine NU (lo:=0) (n:=wt+1) (λi σ H'=>(∃(m:yJ)(c5 c6 c7 c8 c9 c10:Option V),σ=[some (.ref a),some (.int n),some (.int wt),some (.str kd),some (.ref m),c5,c6,c7,c8,c9,c10]/\Gg H' m (Lk kd n i))/\Gp H H') ?_ ?_ ?_
 ·exact⟨⟨m0,_,_,_,_,_,_,rfl,⟨[],HR,.nil⟩⟩,s1⟩
 ·rintro i σ H2 hi ⟨⟨m,c5,c6,c7,c8,c9,c10,rfl,⟨vs,eM,iM⟩⟩,sH⟩
  rw[DK]
  refine⟨_,rfl,_,rfl,_,rfl,_,rfl,(i:Int),(i:Int),(i:Int),rfl,by lia,by lia,by lia,by lia,λl3 H3 h3 s3 hL3=>?_⟩
  have l1:(up 9 (i:Int) (i:Int) (i:Int)).length<=256:=Um (by lia) (by lia)
  have l2:=mH kd n i (by lia)
  have e:Lk kd n (i+1)=Lk kd n i++(up 9 (i:Int) (i:Int) (i:Int)).filter λr=>JX kd n r:=by
   unfold Lk
   rw[CH,BM,BX]
  have rl:∀r∈up 9 (i:Int) (i:Int) (i:Int),r.length<=1000:=λr hr=>by have:=W9 9 _ _ _ (show(0:Int)<=(i:Int) by lia) r hr;lia
  rw[e]
  generalize up 9 (i:Int) (i:Int) (i:Int)=R at *
  obtain⟨ws,eW,iW⟩:=hL3
  have lv:=AM iM
  have lw:=AM iW
  refine⟨l3,rfl,⟨_,HU.of eW⟩,λbk D hD=>?_⟩
  refine Km (α:=xX) hD (HU.of eW) (λσ=>∃c,σ=[c,some (.int n),some (.str kd)]) (λj=>(R[j]?).bind λr=>if JX kd n r=true then some r else none) (small (by lia)) ⟨_,rfl⟩ ?_ ?_
  ·rintro j v σ H4 Yes No hv ⟨c,rfl⟩ s4 yes no
   obtain⟨r,hr0,hi0⟩:=Io iW hv
   obtain⟨pr,rfl,hpr⟩:=JI hi0
   refine⟨_,rfl,_,rfl,_,rfl,kd,n,pr,r,rfl,s4 _ _ hpr,rl r (AT hr0),λH5 s5=>⟨_,rfl,?_⟩⟩
   cases cl:JX kd n r with
   |true=>exact KC ⟨_,rfl,yes _ _ _ r ⟨_,rfl⟩ s5 (by rw[hr0,Cq,AF cl]) (J9 (s5 _ _ (s4 _ _ hpr)))⟩
   |false=>exact JD (no _ _ ⟨_,rfl⟩ s5 (by rw[hr0,Cq,AD (by rw[cl];decide)]))
  rintro H4 s4 ⟨zs,eZ,iZ⟩
  have ez:(List.range ws.length).filterMap (λj=>(R[j]?).bind λr=>if JX kd n r=true then some r else none)=R.filter λr=>JX kd n r:=by
   rw[lw,Js]
   have key:∀L:List xX,L.filterMap (λr=>if JX kd n r=true then some r else none)=L.filter λr=>JX kd n r:=by
    intro L
    induction L with
    |nil=>rfl
    |cons x L ih =>
     rw[Bj,BO]
     by_cases c:JX kd n x=true
     ·rw[AF c,AF c,ih]
     ·rw[AD c,AD c];exact ih
   exact key R
  rw[ez]at iZ
  have lz:=AM iZ
  have:=C8 (λr=>JX kd n r) R
  have z34:=s3.trans s4
  refine⟨m,D,vs,zs,rfl,rfl,z34 _ _ eM,eZ,small (by lia),λm5 h5=>?_⟩
  have s5:=HW h5 (.lst (vs++zs))
  exact⟨⟨m5,_,_,_,_,_,_,rfl,⟨vs++zs,HR,Paired.app (Hr.mono (Hb.same (z34.trans s5)) iM) (Hr.mono (Hb.same s5) iZ)⟩⟩,sH.trans (z34.trans s5)⟩
 rintro σ H2 ⟨⟨m,c5,c6,c7,c8,c9,c10,rfl,⟨vs,eM,iM⟩⟩,sH⟩
 have mo:=gM n1 n4 hkd hw
 have ml:=mH kd n (wt+1) (by lia)
 have mz:=lQ (n:=n) (w:=wt) hkd
 have lv:=AM iM
 generalize Lk kd n (wt+1)=rs at mo ml mz lv iM
 intro d hd
 have s2:=HW hd (.dT [])
 have eM2:=s2 _ _ eM
 have iM2:=Hr.mono (Hb.same s2) iM
 have hd2:HV H2 d (.dT []) d=some (.dT (JO [])):=HR
 have fd0:H d=none:=sH.free hd
 have sH2:=sH.trans s2
 show J4 6 (.ref d) _ (HV H2 d (.dT [])) _
 generalize HV H2 d (.dT [])=H3 at *
 refine⟨_,rfl,_,rfl,_,rfl,a,_,rfl,sH2.seq hS,λp hp=>?_⟩
 obtain⟨cs,ecs,lcs⟩:=tG ns 1 7
 have ecs':KQ (ns.map V.int) (some 1) (some 7)=cs.map V.int:=ecs
 rw[ecs']
 have s3:=HW hp (.lst (cs.map V.int))
 have hp3:HV H3 p (.lst (cs.map V.int)) p=some (.lst (cs.map V.int)):=HR
 have eM3:=s3 _ _ eM2
 have iM3:=Hr.mono (Hb.same s3) iM2
 have hd3:=s3 _ _ hd2
 have sH3:=sH2.trans s3
 generalize HV H3 p (.lst (cs.map V.int))=H4 at *
 have nmd:m≠d:=Jw eM3 hd3 (by intro z;cases z)
 have npd:p≠d:=Jw hp3 hd3 (by intro z;cases z)
 refine⟨p,rfl,⟨_,HU.of hp3⟩,?_⟩
 refine Jr (xs:=cs.map V.int) (λi σ H'=>(∃(c5 c7 c8 c9 c10:Option V)(dd:List (Pw×V)),σ=[some (.ref a),some (.int n),some (.int wt),some (.str kd),some (.ref m),c5,some (.ref d),c7,c8,c9,c10]/\H' d=some (.dT (JO dd))/\dd.length<=i/\(dd.map (·.1)).Nodup/\∀t∈dd,Qb kd n H' t)/\Gp H H'/\vS d H4 H'/\Hb H4 H') ?_ ?_ ?_ ?_
 ·exact⟨⟨_,_,_,_,_,[],rfl,hd3,by simp,by simp,λt ht=>by cases ht⟩,sH3,λ_ _ _ e=>e,Hb.refl _⟩
 ·rintro i σ H5 _ ⟨_,_,bt,_⟩
  exact HU.of (bt _ _ npd hp3)
 ·rintro i v σ H5 hv ⟨⟨c5,c7,c8,c9,c10,dd,rfl,hdd,ld,nd,ed⟩,sH5,bt,tp⟩
  obtain⟨c,hc,rfl⟩:∃c,cs[i]?=some c/\V.int c=v:=by
   rw[Ag]at hv
   cases e:cs[i]? with
   |none=>rw[e]at hv;cases hv
   |some y=>rw[e]at hv;exact⟨y,rfl,Aq hv⟩
  have i6:i<6:=by have:=(AZ.mp hc).1;lia
  have eM5:=bt _ _ nmd eM3
  have iM5:=Hr.mono tp iM3
  refine⟨_,rfl,_,_,rfl,rfl,⟨by decide,by decide⟩,_,_,rfl,rfl,(by show(0:Int)<19;decide),_,_,rfl,rfl,?_⟩
  show J4 8 (V.int (c / 200%19-9)) _ _ _
  refine⟨λσ' H'=>∃v:Int,σ'=[some (.ref a),some (.int n),some (.int wt),some (.str kd),some (.ref m),c5,some (.ref d),some (.int c),some (.int v),c9,c10]/\v.natAbs<=10^30/\H'=H5,?_,?_⟩
  ·refine⟨_,rfl,_,_,rfl,rfl,⟨by decide,by decide⟩,_,_,rfl,rfl,(by show(0:Int)<4;decide),rfl,_,rfl,?_⟩
   by_cases e1:c / 50%4=1
   ·refine Jf (congrArg V.int e1) ⟨_,rfl,_,_,rfl,rfl,⟨by decide,by decide⟩,_,_,rfl,rfl,⟨by decide,by decide,by decide⟩,_,_,rfl,rfl,⟨TZ (by decide),?_⟩,_,_,rfl,rfl,?_,_,_,rfl,rfl,⟨by decide,by decide,by decide⟩,_,_,rfl,rfl,?_⟩
    ·exact JS (show((10:Int)^(30:Int).toNat).natAbs<2^200 by decide) (by decide)
    ·show(0:Int)<2*10^(30:Int).toNat
     decide
    ·refine⟨c / 200%(2*10^(30:Int).toNat)-10^(30:Int).toNat,rfl,?_,rfl⟩
     have h0:=CJ (c / 200) (show(2*10^(30:Int).toNat:Int)≠0 by decide)
     have h1:=B6 (c / 200) (show(0:Int)<2*10^(30:Int).toNat by decide)
     have e30:(10:Int)^(30:Int).toNat=1000000000000000000000000000000:=by decide
     have f30:(10:Nat)^30=1000000000000000000000000000000:=by decide
     rw[e30]at h0 h1 ⊢
     rw[f30]
     lia
   ·refine JF (λz=>e1 (by injection z)) ⟨c / 200%19-9,rfl,?_,rfl⟩
    have h0:=CJ (c / 200) (show(19:Int)≠0 by decide)
    have h1:=B6 (c / 200) (show(0:Int)<19 by decide)
    have f30:(10:Nat)^30=1000000000000000000000000000000:=by decide
    rw[f30]
    lia
  rintro σ' H6 ⟨v,rfl,hv30,rfl⟩
  have b0:=CJ (c / 4) (show(12:Int)≠0 by decide)
  have b1:=B6 (c / 4) (show(0:Int)<12 by decide)
  obtain⟨b,hb⟩:∃b:Nat,1+c / 4%12=b:=⟨(1+c / 4%12).toNat,by lia⟩
  refine⟨_,rfl,_,_,rfl,rfl,⟨by decide,by decide⟩,_,_,rfl,rfl,(by show(0:Int)<12;decide),_,_,rfl,rfl,?_⟩
  show J4 9 (V.int (1+c / 4%12)) _ _ _
  rw[hb]
  refine⟨_,rfl,_,rfl,v,b,rfl,λH7 s7=>?_⟩
  have bb:1<=b/\b<=12:=by lia
  have g0:0<Nat.gcd v.natAbs b:=Ci _ bb.1
  have g1:Nat.gcd v.natAbs b<=b:=FG _ bb.1
  have hdd7:=s7 _ _ hdd
  refine⟨_,rfl,rfl,_,rfl,?_⟩
  by_cases v0:v=0
  ·exact Pd (congrArg V.int v0) ⟨⟨_,_,_,_,_,dd,rfl,hdd7,by lia,nd,λt ht=>(ed t ht).keep λq xs e=>s7 _ _ e⟩,sH5.trans s7,λb o nb e=>s7 _ _ (bt b o nb e),tp.trans (Hb.same s7)⟩
  refine dG (λz=>v0 (by injection z)) ?_
  obtain⟨t',b',fo⟩:=XE v bb.1
  have ef:JN v b=[v / ((Nat.gcd v.natAbs b:Nat):Int),(b:Int) / ((Nat.gcd v.natAbs b:Nat):Int)]:=rfl
  rw[fo.is_]at ef
  have e1:v / ((Nat.gcd v.natAbs b:Nat):Int)=t':=by have:=congrArg (λl=>l.getD 0 0) ef;exact this.symm
  have e2:(b:Int) / ((Nat.gcd v.natAbs b:Nat):Int)=(b':Int):=by have:=congrArg (λl=>l.getD 1 0) ef;exact this.symm
  refine⟨_,rfl,_,rfl,_,_,rfl,rfl,⟨by lia,by lia⟩,_,rfl,_,rfl,_,_,rfl,rfl,⟨by lia,by lia⟩,Iv,λq8 g8=>?_⟩
  have s8:=HW g8 (.tup [V.int (v / ((Nat.gcd v.natAbs b:Nat):Int)),V.int ((b:Int) / ((Nat.gcd v.natAbs b:Nat):Int))])
  have hq8:HV H7 q8 (.tup [V.int (v / ((Nat.gcd v.natAbs b:Nat):Int)),V.int ((b:Int) / ((Nat.gcd v.natAbs b:Nat):Int))]) q8=some (.tup [.int t',.int (b':Int)]):=by rw[HR,e1,e2]
  have z78:=s7.trans s8
  have eM8:=z78 _ _ eM5
  have hdd8:=z78 _ _ hdd
  obtain⟨j1,r,pr,_,at1,rm,hpr⟩:=Yy iM5 mz c
  have hpr8:=z78 _ _ hpr
  obtain⟨d',k1,k2,k3,k4⟩:=lN dd r (.ref q8) nd
  refine⟨_,rfl,_,rfl,_,rfl,_,rfl,m,_,rfl,.inl (HU.of eM8),_,_,rfl,rfl,(by show(0:Int)<(vs.length:Int);lia),m,_,_,.ref pr,rfl,rfl,HU.of eM8,at1,?_⟩
  refine⟨d,_,rfl,KG.t (k:=r.map Sum.inl) hdd8 (by rw[Ma];exact hpr8) (by rw[S7];exact Kw (by lia)),?_⟩
  rw[k1]
  exact⟨⟨_,_,_,_,_,d',rfl,HR,by lia,k4,λt ht=>by
   rcases k3 t ht with z|z
   ·exact(ed t z).keep λq xs e=>by rw[Hw (Jw (z78 _ _ e) hdd8 (by intro z;cases z))];exact z78 _ _ e
   ·rw[z]
    refine⟨mo r rm,q8,t',b',rfl,?_,fo.ne v0,fo.pos,As fo.le bb.2,fo.one,As fo.bits hv30⟩
    rw[Hw (Jw hq8 hdd8 (by intro z;cases z))]
    exact hq8⟩,Lo fd0 (sH5.trans z78) _,λb o nb e=>by
   rw[Hw nb]
   exact z78 _ _ (bt b o nb e),tp.trans ((Hb.same z78).trans λq xs e=>by rw[Hw (Jw e hdd8 (by intro z;cases z))];exact e)⟩
 rintro σ H5 ⟨⟨c5,c7,c8,c9,c10,dd,rfl,hdd,ld,nd,ed⟩,sH5,bt,tp⟩
 rw[AB]at ld
 refine⟨_,rfl,d,dd,rfl,hdd,λo bk D hD=>?_⟩
 have hd6:(HV H5 d (.frz o (.dT (JO dd)))) d=some (.frz o (.dT (JO dd))):=HR
 have dD:D≠d:=λz=>by rw[z,hd6]at hD;cases hD
 have sfz:Gp H (HV H5 d (.frz o (.dT (JO dd)))):=Lo fd0 sH5 _
 have ed6:∀t∈dd,Qb kd n (HV H5 d (.frz o (.dT (JO dd)))) t:=λt ht=>(ed t ht).keep λq xs e=>by rw[Hw (Jw e hdd (by intro z;cases z))];exact e
 generalize HV H5 d (.frz o (.dT (JO dd)))=H6 at *
 have all:∃X:List Ho,Paired (λ(x:Ho)(t:Pw×V)=>x.1=t.1/\Dat.is H6 t.2 x.2/\NQ x/\IL x≠0/\Nat.gcd (IL x).natAbs (Hx x)=1/\(IL x).natAbs<=10^30/\Hx x<=12) X dd:=by
  have key:∀L:List (Pw×V),(∀t∈L,Qb kd n H6 t)->∃X:List Ho,Paired (λ(x:Ho)(t:Pw×V)=>x.1=t.1/\Dat.is H6 t.2 x.2/\NQ x/\IL x≠0/\Nat.gcd (IL x).natAbs (Hx x)=1/\(IL x).natAbs<=10^30/\Hx x<=12) X L:=by
   intro L
   induction L with
   |nil=>intro _;exact⟨[],.nil⟩
   |cons t L ih =>
    intro h
    obtain⟨X,hX⟩:=ih λu hu=>h u (AE _ hu)
    obtain⟨_,q,c,b,e,hq,x1,x2,x3,x4,x5⟩:=h t (AG ..)
    have eb:Hx (t.1,[c,(b:Int)])=b:=by show((b:Int)).toNat=b;lia
    refine⟨(t.1,[c,(b:Int)])::X,.cons ⟨rfl,?_,⟨?_,by rw[eb];exact x2,by rw[eb];lia⟩,x1,by rw[eb];exact x4,x5,by rw[eb];exact x3⟩ hX⟩
    ·rw[e]
     exact J9 (r:=[c,(b:Int)]) hq
    ·rw[eb];rfl
  exact key dd ed6
 obtain⟨X,hX⟩:=all
 have lX:=AM hX
 refine cB (α:=Wm) hD hd6 (λσ=>∃c,σ=[c,some (.ref d)]) (λi=>X[i]?) (small (by lia)) ⟨_,rfl⟩ ?_ ?_
 ·rintro i t kk σ H7 Yes No ht hk ⟨c,rfl⟩ s7 yes no
  have g:JH H7 d (.ref kk) (Kl (JO dd) (t.1.map Sum.inl)):=.inr ⟨_,_,kk,.inr ⟨o,s7 _ _ hd6⟩,rfl,by rw[Ma];exact hk,rfl⟩
  rw[SV nd (AT ht)]at g
  have il:i<X.length:=by have:=(AZ.mp ht).1;lia
  obtain⟨t2,ht2,x1,x2,_⟩:=Paired.get hX (AL il)
  rw[ht]at ht2
  cases ht2
  refine L5 ?_
  refine⟨_,rfl,_,rfl,_,rfl,d,t.2,rfl,g,Iv,λt8 h8=>?_⟩
  have s8:=HW h8 (.tup [.ref kk,t.2])
  exact yes _ _ _ X[i] ⟨_,rfl⟩ s8 (AL il) ⟨t8,.ref kk,t.2,rfl,HR,by rw[x1];exact J9 (s8 _ _ hk),Dat.mono (Hb.same (s7.trans s8)) x2⟩
 rintro H7 s7 hL7
 rw[show(List.range dd.length).filterMap (λi=>X[i]?)=X by
  rw[<-lX]
  have:=Js (l:=X) (f:=λx=>some x)
  simpa using this]at hL7
 refine⟨D,X,rfl,hL7,λ_ _=>trivial,λpl ws l' hpl pm so it=>?_⟩
 have mem:∀x∈l',∃t∈dd,x.1=t.1/\NQ x/\IL x≠0/\Nat.gcd (IL x).natAbs (Hx x)=1/\(IL x).natAbs<=10^30/\Hx x<=12:=λx hx=>by
  obtain⟨j,hj⟩:=List.mem_iff_getElem?.mp (pm.mem_iff.mp hx)
  obtain⟨t,ht,x1,_,r⟩:=Paired.get hX hj
  exact⟨t,AT ht,x1,r⟩
 have keys:X.map (·.1)=dd.map (·.1):=by
  have key:∀{X:List Ho}{L:List (Pw×V)},Paired (λ(x:Ho)(t:Pw×V)=>x.1=t.1/\Dat.is H6 t.2 x.2/\NQ x/\IL x≠0/\Nat.gcd (IL x).natAbs (Hx x)=1/\(IL x).natAbs<=10^30/\Hx x<=12) X L->X.map (·.1)=L.map (·.1):=by
   intro X L h
   induction h with
   |nil=>rfl
   |cons a _ ih=>rw[Ai,Ai,ih,a.1]
  exact key hX
 have nl:(l'.map (·.1)).Nodup:=by
  rw[(pm.map (·.1)).nodup_iff,keys]
  exact nd
 have z7:=sfz.trans s7
 refine q pl _ l' (z7.free hpl) (z7.trans (HW hpl _)) ⟨ws,HR,Hr.mono (Z1 hpl _) it⟩ ⟨?_,λx hx=>?_,λx hx=>?_,λx hx=>?_,λx hx=>?_⟩ (λx hx=>?_) (by rw[pm.length_eq];lia)
 ·rw[List.Nodup,BQ]at nl
  refine(so.and nl).imp λ{x y} z=>?_
  have z1:N5 x y=false:=z.1
  unfold N5 at z1
  rw[AD z.2]at z1
  cases c:Hs y.1 x.1 with
  |true=>rfl
  |false=>exact absurd (MV z1 c) z.2
 ·obtain⟨t,ht,e,_⟩:=mem x hx
  rw[e]
  exact(ed6 t ht).1
 ·exact(mem x hx).choose_spec.2.2.1
 ·exact(mem x hx).choose_spec.2.2.2.1
 ·exact(mem x hx).choose_spec.2.2.2.2.1
 ·exact(mem x hx).choose_spec.2.2.2.2.2
end
section
variable{P:yL}{w:yM}{K:yG}{mg:Str->yD}{base:Heap}{f g:yJ}{fd gd:yN}
theorem gC{k:Str}{n:Nat}{T:List Ho}(n1:1<=n)(n4:n<=4)(hk:k∈Hj)(g:IG k n T)(tops:∀t∈T,(IL t).natAbs<2^20000):∀t∈T,eJ k n t:=λt ht=>by
 have rk:=Mf n1 n4 hk (g.row t ht)
 refine⟨g.fr t ht,tops t ht,rk.row,rk.ex,λa b c d=>?_,rk.few,λu hu=>⟨rk.deg.len u hu,JS (rk.deg.num u hu) (by decide)⟩⟩
 have e:k = "filling" := by
  rcases gQ hk with e|e|e|e|e
  ·exact absurd e a
  ·exact absurd e b
  ·exact absurd e c
  ·exact absurd e d
  ·exact e
 exact⟨n1,n4,rk.row,(rk.fi e).1,(rk.fi e).2⟩
theorem UR{k:Str}{n:Nat}(n1:1<=n)(n4:n<=4)(hk:k∈Hj):∀S:List Go,(∀t∈S,t.1∈Ju k n)->Ht n (Ki k n S)/\∀t∈Ki k n S,t.1.length=n/\(∀x∈t.1,0<=x)/\t.1.sum<=(I0 n:Int)
 |[],_=>⟨λ_ _=>rfl,λt ht=>by cases ht⟩
 |t::S,h=>by
  obtain⟨i1,i2⟩:=UR n1 n4 hk S λu hu=>h u (AE _ hu)
  have rk:=Mf n1 n4 hk (h t (AG ..))
  refine⟨WQ (aS t.2 rk.ev) i1,λu hu=>?_⟩
  rcases Ao.mp hu with hu|hu
  ·obtain⟨v,hv,rfl⟩:=AN.mp hu
   exact⟨rk.deg.len v hv,rk.deg.nn v hv,rk.deg.sum v hv⟩
  ·exact i2 u hu
theorem jM{k:Str}{n M:Nat}{T:List Ho}(g:IG k n T):∀t∈IM M T,t.1∈Ju k n:=λu hu=>by
 obtain⟨t,ht,rfl⟩:=AN.mp hu
 exact g.row t ht
theorem SQ{k:Str}{n b:Nat}{T:List Ho}(n1:1<=n)(n4:n<=4)(hk:k∈Hj)(g:IG k n T)(bits:∀t∈Ij k n T,t.2.natAbs<2^b):Ht n (Ij k n T)/\Deg n (I0 n) b (Ij k n T):=by
 obtain⟨a1,a2⟩:=UR n1 n4 hk (IM (IS T) T) (jM g)
 rw[<-Qx]at a1 a2
 have m:∀t∈Ij k n T,t.1.length=n/\(∀x∈t.1,0<=x)/\t.1.sum<=(I0 n:Int):=λt ht=>by
  obtain⟨u,hu,e⟩:=J7 ht
  rw[<-e]
  exact a2 u hu
 exact⟨a1.norm,λt ht=>(m t ht).1,λt ht=>(m t ht).2.1,λt ht=>(m t ht).2.2,bits⟩
theorem Z8:∀n∈[1,2,3,4],(fw n).length<=53:=λn hn=>As (C8 _ _) (Qv n hn).1
theorem gE{o:Str}{n B:Nat}{p U:List Go}(n1:1<=n)(n4:n<=4)(ok:QA o n p U B):U.length<=53:=by
 have nd:(U.map (·.1)).Nodup:=by
  rw[List.Nodup,BQ]
  refine ok.can.ord.imp λ{x y} z e=>?_
  rw[e,Ji]at z
  cases z
 have:=Br nd (l₂:=Ju o n) λr hr=>by
  obtain⟨t,ht,rfl⟩:=AN.mp hr
  exact ok.row t ht
 have h:=Z8 n (Jp n1 n4)
 have e:(Ju o n).length=(fw n).length:=by unfold Ju;split<;>exact AB _
 rw[AB,e]at this
 lia
structure KH(k:Str)(n b N:Nat)(T:List Ho):Prop where
 n1:1<=n
 n4:n<=4
 hk:k∈Hj
 g:IG k n T
 tops:∀t∈T,(IL t).natAbs<2^20000
 few:T.length<=100
 dN:IR N T
 N1:1<=N
 N2:N<=9196830720
 hb:b<=500
 bits:∀t∈Ij k n T,t.2.natAbs<2^b
theorem KH.ev{k:Str}{n b N:Nat}{T:List Ho}(h:KH k n b N T):PK n b (Ij k n T):=by
 obtain⟨a,d⟩:=SQ h.n1 h.n4 h.hk h.g h.bits
 have:=Oi n
 exact⟨h.n1,h.n4,JV _,a,d.mono (by lia) (AH _),by have:=h.hb;lia⟩
theorem KH.lcm{k:Str}{n b N:Nat}{T:List Ho}(h:KH k n b N T)(i:Nat):IS (T.take i)<=N:=Eo h.N1 (Tc λt ht=>h.dN t (BJ ht))
theorem KH.lcm'{k:Str}{n b N:Nat}{T:List Ho}(h:KH k n b N T):IS T<=N/\1<=IS T:=⟨Eo h.N1 (Tc h.dN),OO T λt ht=>(h.g.fr t ht).pos⟩
theorem KH.u{k o:Str}{n b N:Nat}{T:List Ho}(h:KH k n b N T)(ho:o∈Hj)(ok:KB o n b (Ij k n T)):QA o n (Ij k n T) (uT o n (Ij k n T)) (uB o n (Ij k n T)):=YX ho h.ev h.hb (SQ h.n1 h.n4 h.hk h.g h.bits).2 ok
theorem KH.car{k o:Str}{n b N:Nat}{T:List Ho}(h:KH k n b N T)(ho:o∈Hj):L9 k o n b T:=by
 have l:=h.lcm'
 refine⟨gC h.n1 h.n4 h.hk h.g h.tops,λt ht=>?_,h.few,λt ht=>(Mf h.n1 h.n4 h.hk (h.g.row t ht)).lets,h.hk,ho,λi=>?_,h.ev,λok t ht=>?_⟩
 ·have:=(Mf h.n1 h.n4 h.hk (h.g.row t ht)).len
  lia
 ·have:=h.lcm i
  have:=h.N2
  have e:(2:Nat)^40<2^100:=Bq (by decide) (by decide)
  have e2:(2:Nat)^40=1099511627776:=by decide
  lia
 ·have uo:=h.u ho ok
  have bl:=uo.low
  have bp:=uo.pos
  have N2:=h.N2
  have key:Hx t<=331776/\NQ t:=by
   unfold Ny at ht
   by_cases c:o = "power"
   ·rw[AF c]at ht
    unfold uB at bl bp
    rw[AF c]at bl bp
    obtain⟨u,hu,e,fo,is⟩:=SB (U:=Ko n (Jc (IP n (Ij k n T))) (IP n (Ij k n T))) bp (show t∈Kf _ (LA n (Jc (IP n (Ij k n T)))) from ht)
    have:=fo.le
    exact⟨by lia,is,fo.pos,by lia⟩
   ·rw[AD c]at ht
    obtain⟨u,hu,rfl⟩:=AN.mp ht
    have e:Hx (MO u)=1:=rfl
    exact⟨by rw[e];decide,rfl,by rw[e];decide,by rw[e];decide⟩
  refine⟨key.2,?_⟩
  have:=B1 key.1 (show IS T<=9196830720 by lia)
  lia
theorem KH.out{k o:Str}{n b N:Nat}{T:List Ho}(h:KH k n b N T)(ho:o∈Hj)(ok:KB o n b (Ij k n T)):IG o n (LP k o n T)/\Vq n k T o (LP k o n T)/\(LP k o n T).length<=53:=by
 have l:=h.lcm'
 have uo:=h.u ho ok
 have bl:=uo.low
 have bp:=uo.pos
 have N2:=h.N2
 have hN:uB o n (Ij k n T)*IS T<1152921504606846976:=by
  have:=B1 bl (show IS T<=9196830720 by lia)
  lia
 rw[SG (b:=b) uo l.2]
 refine⟨(Ti uo (DW bp l.2) hN).1,jQ h.g uo,?_⟩
 unfold Kf
 rw[AB]
 exact gE h.n1 h.n4 uo
theorem KH.next{k o:Str}{n b:Nat}{T:List Ho}(h:KH k n b 27720 T)(hb:b<=200)(ho:o∈Hj)(ok:KB o n b (Ij k n T)):∃N,KH o n 300 N (LP k o n T):=by
 have l:=h.lcm'
 have uo:=h.u ho ok
 have bl:=uo.low
 have bp:=uo.pos
 have o3:=(h.out ho ok).2.2
 have hNm:=B1 bl l.1
 have hN:uB o n (Ij k n T)*IS T<1152921504606846976:=by lia
 have e:=SG (b:=b) uo l.2
 obtain⟨g,dv,tp⟩:=Ti uo (DW bp l.2) hN
 refine⟨uB o n (Ij k n T)*IS T,h.n1,h.n4,ho,by rw[e];exact g,λt ht=>?_,by lia,by rw[e];exact dv,DW bp l.2,by lia,by decide,λt ht=>?_⟩
 ·rw[e]at ht
  exact JS (tp t ht) (by decide)
 ·have c1:=Ql (JV _) ht
  unfold Ij at c1
  rw[J6]at c1
  have v:=Vy (k:=k) uo l.2 (RD _) t.1
  rw[<-e,c1]at v
  have cb:=Tt t.1 h.bits
  have few:=h.ev.few
  have m1:IS (LP k o n T)<=9196830720:=by
   have:=Eo (DW bp l.2) (Tc (T:=LP k o n T) (by rw[e];exact dv))
   lia
  have v2:=congrArg Int.natAbs v
  rw[CA,CA,Be,Be]at v2
  have t1:t.2.natAbs<=IS T*t.2.natAbs:=ED _ l.2
  have t2:(cf (Ij k n T) t.1).natAbs<=495*2^b:=As cb (Db _ few)
  have t3:=B1 m1 t2
  have t4:2^b<=2^200:=Cg (by decide) hb
  have t5:9196830720*(495*2^b)<=9196830720*(495*2^200):=HB _ (HB _ t4)
  have t6:9196830720*(495*2^200)<2^300:=by decide +kernel
  generalize IS T*t.2.natAbs=A at *
  generalize IS (LP k o n T)*(cf (Ij k n T) t.1).natAbs=B at *
  generalize 9196830720*(495*2^b)=C at *
  generalize 9196830720*(495*2^200)=D at *
  generalize 2^300=E at *
  lia
theorem fG:∀b∈List.range 13,b=0∨b ∣ 27720:=by decide +kernel
theorem KH.first{k:Str}{n:Nat}{T:List Ho}(n1:1<=n)(n4:n<=4)(hk:k∈Hj)(g:IG k n T)(sm:∀t∈T,(IL t).natAbs<=10^30/\Hx t<=12)(few:T.length<=6):KH k n 200 27720 T:=by
 have e100:(10:Nat)^30<2^100:=by decide
 have dv:IR 27720 T:=λt ht=>by
  have:=(g.fr t ht).pos
  have hb:=(sm t ht).2
  rcases fG (Hx t) (Al.mpr (by lia)) with e|e
  ·lia
  ·exact e
 have l:IS T<=27720:=Eo (by decide) (Tc dv)
 refine⟨n1,n4,hk,g,λt ht=>JS (A7 (sm t ht).1 e100) (by decide),by lia,dv,by decide,by decide,by decide,?_⟩
 have d:Deg n (I0 n) (120+64) (J8 k n (IS T) T):=by
  have key:∀u∈J8 k n (IS T) T,∃t∈T,u∈scl (IL t*((IS T:Int) / (Hx t:Int))) (Iw k n t.1):=λu hu=>A5.mp hu
  have ds:∀t∈T,Deg n (I0 n) (120+64) (scl (IL t*((IS T:Int) / (Hx t:Int))) (Iw k n t.1)):=λt ht=>Deg.scl (Mf n1 n4 hk (g.row t ht)).deg (by
   rw[CA,<-FH,Be]
   have a:=(sm t ht).1
   have b:=Nat.div_le_self (IS T) (Hx t)
   have c:=B1 a (As b l)
   have d:(10:Nat)^30*27720<2^120:=by decide
   exact A7 c d)
  refine⟨λu hu=>?_,λu hu=>?_,λu hu=>?_,λu hu=>?_⟩
  all_goals obtain⟨t,ht,hm⟩:=key u hu
  ·exact(ds t ht).len u hm
  ·exact(ds t ht).nn u hm
  ·exact(ds t ht).sum u hm
  ·exact(ds t ht).num u hm
 have ln:=WS (k:=k) (n:=n) (o:=IS T) T λt ht=>(Mf n1 n4 hk (g.row t ht)).few
 have dn:=Deg.norm (k:=12) d (by have e:(2:Nat)^12=4096:=(by decide);lia)
 exact λt ht=>JS (dn.num t ht) (by decide)
end
section
variable{P:yL}{w:yM}{K:yG}{mg:Str->yD}{base:Heap}{f g:yJ}{fd gd:yN}
theorem NL{b:Bool}{A B:Prop}(h:b=false)(x:B):if b=true then A else B:=by rw[h];exact x
theorem SL{X:Cx}:∀xs:List (Str×Nat×Pos),PA X (xs.map λq=>Expr.Constant (.str q.1) q.2.1 q.2.2) (λσ H Q=>Q (xs.map λq=>V.str q.1) H)
 |[]=>Gy
 |q::r=>λpos Fq s σ H Q I h=>(Gi (X:=X) (e:=Expr.Constant (.str q.1) q.2.1 q.2.2) LV (SL r) rfl) pos Fq s σ H Q I h
noncomputable def VL(xs:yB):TE:=λ_ H Q=>xs.length<=sizeLine/\∀p,H p=none->Q (.ref p) (HV H p (.lst (xs.map V.str)))
theorem Zj{X:Cx}{pl:Pos}(xs:List (Str×Nat×Pos)):PE X (.List (xs.map λq=>Expr.Constant (.str q.1) q.2.1 q.2.2) pl) (VL (xs.map λq=>q.1)):=λFq s σ H Q I h=>(Ik (pos:=pl) (SL xs)) Fq s σ H Q I ⟨by rw[AB];have:=h.1;rwa [AB]at this,λp hp=>by have:=h.2 p hp;rwa [Bp]at this⟩
@[irreducible] noncomputable def Oe (p:Prop):Prop:=p
theorem ZC{X:Cx}{i:Nat}{x:Str}{pos' pl pos:Pos}(xs:List (Str×Nat×Pos))(hN:X.N.Nodup)(hi:X.N[i]?=some x)(hx:Loc X.env.scope x)(hf:X.fn x=true∨X.env.scope.names.lookup x=some .local) :
  Oe (PS X (.Assign [.Name x pos'] (.List (xs.map λq=>Expr.Constant (.str q.1) q.2.1 q.2.2) pl) pos) (Mw (VL (xs.map λq=>q.1)) (J4 i))):=by
 unfold Oe
 exact Hv hN hi hx (Zj xs) rfl hf
theorem aV{X:Cx}{st:Stmt}{Hl:List Stmt}{t u:TS}(h1:Oe (PS X st t))(h2:KA X Hl u):Oe (KA X (st::Hl) (P6 t u)):=by
 unfold Oe at h1 ⊢
 exact HY h1 h2
theorem iJ{X:Cx}{st:Stmt}{Hl:List Stmt}{t u:TS}(h1:PS X st t)(h2:Oe (KA X Hl u)):KA X (st::Hl) (P6 t u):=by
 unfold Oe at h2
 exact HY h1 h2
noncomputable abbrev nL:yB:=["_law_script", "_law_cell_here", "_law_many", "_law_weight", "_law_kinds", "_law_kind", "_law_other", "_law_telling_here", "_law_handed", "_law_found", "_law_third", "_law_kept"]
theorem LW:Gq nL ["_law_script"] (He Oq):=IA
noncomputable def NS(K:yG):Sp:=λvs H Q _=>∃(a:yJ)(ns:xX),vs=[.ref a]/\HU K H a (ns.map V.int)/\ns.length<=63/\∀H',Q (.bl true) H'
theorem nF(c:Int):∃kd∈Hj,J1 (Hj.map V.str) (c%5)=some (.str kd):=by
 have h0:=CJ c (show(5:Int)≠0 by decide)
 have h1:=B6 c (show(0:Int)<5 by decide)
 have:c%5=0∨c%5=1∨c%5=2∨c%5=3∨c%5=4:=by lia
 rcases this with e|e|e|e|e
 ·exact⟨"exchange",by decide,by rw[e];rfl⟩
 ·exact⟨"elementary",by decide,by rw[e];rfl⟩
 ·exact⟨"whole",by decide,by rw[e];rfl⟩
 ·exact⟨"power",by decide,by rw[e];rfl⟩
 ·exact⟨"filling",by decide,by rw[e];rfl⟩
theorem Yo(F:Hu K "law" "law" Oq f fd)(GCe:Hc P w K mg base 18 "_law_cell" nC (UM K))(GT:Hc P w K mg base 18 "_law_telling" Zr (TR K))(GC:Hc P w K mg base 18 "carried" Z2 Qg)(GG:Hc P w K mg base 18 "_law_good" qA SZ)(ml:mg "list" = none):HC P w K mg base Hn 19 f fd ["_law_script"] (NS K):=by
 refine Hz F LW λHh A outer s H vs Q E hr h=>?_
 obtain⟨a0,ns,rfl,hS,h63,q⟩:=h
 have hF:=A7 (CP (by decide:Dat.dep Ho+1<=64) _) hr.units
 refine⟨_,(HY (Hv (i:=1) LW.nd rfl (Or.inl rfl) (Hd GCe hr rfl (Gi (pv 0) (Gi Ha Gy))))
  (HY (Hv (i:=2) LW.nd rfl (Or.inl rfl) (Hf Kn Ha (Hf Kt (pv 1) Ha)))
  (HY (Hv (i:=3) LW.nd rfl (Or.inl rfl) (Hf Kt (Hf Ml (pv 1) Ha) Ha))
  (iJ (UC (IW (PW.pt (PJ (IJ QX (pv 2) Ha (ID _)) (PL (IJ Ke (Hf Kt (Hf Ml (pv 1) Ha) Ha) Ha (ID _))))) (HX (Hv (i:=3) LW.nd rfl (Or.inl rfl) Ha)) IX))
  (aV (ZC (i:=4) [(_,_,_),(_,_,_),(_,_,_),(_,_,_),(_,_,_)] LW.nd rfl (Or.inl rfl) (Or.inr rfl))
  (HY (Hv (i:=5) LW.nd rfl (Or.inl rfl) (IY K4 (pv 4) (Hf Kt (Hf Ml (pv 1) Ha) Ha) (λ_ _=>rfl)))
  (HY (Hv (i:=6) LW.nd rfl (Or.inl rfl) (IY K4 (pv 4) (Hf Kt (Hf Ml (pv 1) Ha) Ha) (λ_ _=>rfl)))
  (HY (Hv (i:=7) LW.nd rfl (Or.inl rfl) (Hd GT hr rfl (Gi (pv 0) (Gi (pv 2) (Gi (pv 3) (Gi (pv 5) Gy))))))
  (HY (Hv (i:=8) LW.nd rfl (Or.inl rfl) (MJ dR rfl ml Cv (Gi (pv 7) Gy)))
  (HY (Hv (i:=9) LW.nd rfl (Or.inl rfl) (Hd GC hr rfl (Gi (pv 2) (Gi (pv 8) (Gi (pv 5) (Gi (pv 6) Gy))))))
  (HY (IW (PW.pt (K7 (IJ (Qo (α:=Ho) hF) (pv 8) (pv 7) (ID _)) (K7 (Mq (Ku (Hd GG hr rfl (Gi (pv 9) (Gi (pv 2) (Gi (pv 6) Gy)))))) (Nu (IJ (Qo (α:=Ho) hF) (Hd GC hr rfl (Gi (pv 2) (Gi (pv 8) (Gi (pv 5) (Gi (pv 5) Gy))))) (pv 7) (ID _)))))) (HX (Hq Ms)) IX)
  (HY (IW (IJ (Qo (α:=Ho) hF) (Hd GC hr rfl (Gi (pv 2) (Gi (pv 9) (Gi (pv 6) (Gi (pv 5) Gy))))) (pv 7) (ID _)) (HX (Hq Ms)) IX)
  (HY (Hv (i:=10) LW.nd rfl (Or.inl rfl) (IY K4 (pv 4) (Hf Kt (Hf Ml (pv 1) Ha) Ha) (λ_ _=>rfl)))
  (HY (IW (IJ (Qo (α:=Ho) hF) (Hd GC hr rfl (Gi (pv 2) (Gi (Hd GC hr rfl (Gi (pv 2) (Gi (pv 8) (Gi (pv 5) (Gi (pv 10) Gy))))) (Gi (pv 10) (Gi (pv 6) Gy))))) (pv 9) (ID _)) (HX (Hq Ms)) IX)
  (HY (Hv (i:=11) LW.nd rfl (Or.inl rfl) (MJ dR rfl ml Cv (Gi (pv 9) Gy)))
  (HY (Ir (Kr A6 A9 BA Kv (pv 9) (Gi Ha Gy)))
  (HX (Hq (To (NF (VT (α:=Ho) hF) (Hd GC hr rfl (Gi (pv 2) (Gi (pv 8) (Gi (pv 5) (Gi (pv 6) Gy))))) (pv 11) (ID _)) (Uj (NF (VT (α:=Ho) hF) (pv 8) (pv 7) (ID _)))))))))))))))))))))),?_⟩
 have c0:0<=O6 ns 0/\O6 ns 0<2147483647:=by
  unfold O6
  split
  ·exact⟨CJ _ (by decide),B6 _ (by decide)⟩
  ·decide
 refine⟨_,rfl,a0,ns,0,rfl,hS,?_⟩
 show J4 1 (V.int (O6 ns 0)) _ _ _
 generalize O6 ns 0=c at *
 obtain⟨n,hn,n1,n4⟩:∃n:Nat,1+c%4=n/\1<=n/\n<=4:=by
  have h0:=CJ c (show(4:Int)≠0 by decide)
  have h1:=B6 c (show(0:Int)<4 by decide)
  exact⟨(1+c%4).toNat,by lia,by lia,by lia⟩
 refine⟨_,rfl,_,_,rfl,rfl,(by show(0:Int)<4;decide),_,_,rfl,rfl,?_⟩
 show J4 2 (V.int (1+c%4)) _ _ _
 rw[hn]
 refine⟨_,rfl,_,_,rfl,rfl,⟨by decide,by decide⟩,_,_,rfl,rfl,(by show(0:Int)<5;decide),?_⟩
 obtain⟨w0,hw0,w4⟩:∃w0:Nat,c / 4%5=w0/\w0<=4:=by
  have h0:=CJ (c / 4) (show(5:Int)≠0 by decide)
  have h1:=B6 (c / 4) (show(0:Int)<5 by decide)
  exact⟨(c / 4%5).toNat,by lia,by lia⟩
 show J4 3 (V.int (c / 4%5)) _ _ _
 rw[hw0]
 refine⟨λσ' H'=>∃wt:Nat,σ'=[some (.ref a0),some (.int c),some (.int n),some (.int wt),none,none,none,none,none,none,none,none]/\wt<=I0 n/\H'=H,?_,?_⟩
 ·have k0:w0<=I0 n:=by unfold I0;split<;>lia
  refine⟨_,rfl,_,_,rfl,rfl,_,rfl,?_⟩
  by_cases e1:(n:Int)<4
  ·refine Jf e1 ⟨_,rfl,_,_,rfl,rfl,⟨by decide,by decide⟩,_,_,rfl,rfl,(by show(0:Int)<8;decide),rfl,_,rfl,?_⟩
   by_cases e2:c / 20%8=5
   ·refine Jf (congrArg V.int e2) ⟨6,rfl,?_,rfl⟩
    unfold I0
    rw[AD (by lia)]
    exact AH _
   ·exact JF (λz=>e2 (by injection z)) ⟨w0,rfl,k0,rfl⟩
  ·exact JF e1 (JD ⟨w0,rfl,k0,rfl⟩)
 rintro σ' H0 ⟨wt,rfl,hwt,rfl⟩
 refine⟨uQ,λlk gk=>?_⟩
 have s0:=HW gk (.lst (Hj.map V.str))
 obtain⟨kd,hkd,aK⟩:=nF (c / 160)
 obtain⟨ot,hot,aO⟩:=nF (c / 800)
 obtain⟨th,hth,aT⟩:=nF (c / 4000)
 show J4 4 (.ref lk) _ (HV H0 lk (.lst (Hj.map V.str))) _
 have hK:HV H0 lk (.lst (Hj.map V.str)) lk=some (.lst (Hj.map V.str)):=HR
 generalize HV H0 lk (.lst (Hj.map V.str))=H1 at *
 refine⟨_,rfl,_,rfl,_,_,rfl,rfl,⟨by decide,by decide⟩,_,_,rfl,rfl,(by show(0:Int)<5;decide),lk,_,_,.str kd,rfl,rfl,HU.of hK,aK,?_⟩
 refine⟨_,rfl,_,rfl,_,_,rfl,rfl,⟨by decide,by decide⟩,_,_,rfl,rfl,(by show(0:Int)<5;decide),lk,_,_,.str ot,rfl,rfl,HU.of hK,aO,?_⟩
 refine⟨_,rfl,_,rfl,_,rfl,_,rfl,a0,ns,n,wt,kd,rfl,s0.seq hS,n1,n4,hwt,hkd,λlt H2 T f2 s2 hT gT sT lT=>?_⟩
 have iT:=KH.first n1 n4 hkd gT sT lT
 obtain⟨vt,eT,jT⟩:=id hT
 refine⟨_,rfl,lt,vt,rfl,.inl (HU.of eT),λlh gh=>?_⟩
 have s3:=HW gh (.lst vt)
 have hH:Gg (HV H2 lh (.lst vt)) lh T:=⟨vt,HR,Hr.mono (Hb.same s3) jT⟩
 have hT3:=hT.mono s3
 have hK3:=s3 _ _ (s2 _ _ hK)
 show J4 8 (.ref lh) _ (HV H2 lh (.lst vt)) _
 generalize HV H2 lh (.lst vt)=H3 at *
 refine⟨_,rfl,_,rfl,_,rfl,_,rfl,?_⟩
 refine Qe hH (iT.car hot) λlf H4 f4 s4 hF4 ok4=>?_
 obtain⟨gF,vF,fewF⟩:=iT.out hot ok4
 obtain⟨N,iF⟩:=iT.next (by decide) hot ok4
 have pT:=λt ht=>(gT.fr t ht).pos
 have pF:=λt ht=>(gF.fr t ht).pos
 generalize eFF:LP kd ot n T=FF at *
 have nfh:lf≠lh:=λz=>by
  obtain⟨ws,ew,_⟩:=hH
  rw[z,ew]at f4;cases f4
 have nft:lf≠lt:=λz=>by
  obtain⟨ws,ew,_⟩:=hT3
  rw[z,ew]at f4;cases f4
 refine⟨_,rfl,_,rfl,lh,lt,T,T,rfl,rfl,hH.mono s4,hT3.mono s4,_,rfl,NL (by rw[M8];rfl) ?_⟩
 refine⟨_,rfl,_,rfl,_,rfl,lf,FF,n,ot,rfl,n1,n4,hot,hF4,gF,by lia,λH5 s5=>⟨_,rfl,JD ?_⟩⟩
 have z5:=s4.trans s5
 refine⟨_,rfl,_,rfl,_,rfl,_,rfl,?_⟩
 refine Qe (hH.mono z5) (iT.car hkd) λl6 H6 f6 s6 hL6 ok6=>?_
 obtain⟨g6,v6,_⟩:=iT.out hkd ok6
 rw[<-PZ n1 n4 hkd gT g6 v6]at hL6
 have z6:=z5.trans s6
 refine⟨_,rfl,l6,lt,T,T,rfl,rfl,hL6,hT3.mono z6,_,rfl,NL (by rw[M8];rfl) ?_⟩
 have hF6:=hF4.mono (s5.trans s6)
 refine⟨_,rfl,_,rfl,_,rfl,_,rfl,?_⟩
 refine Qe hF6 (iF.car hkd) λl7 H7 f7 s7 hL7 ok7=>?_
 obtain⟨g7,v7,_⟩:=iF.out hkd ok7
 rw[<-PZ n1 n4 hkd gT g7 (vF.trans v7 pT pF λt ht=>(g7.fr t ht).pos)]at hL7
 have z7:=z6.trans s7
 refine⟨_,rfl,l7,lt,T,T,rfl,rfl,hL7,hT3.mono z7,_,rfl,NL (by rw[M8];rfl) ?_⟩
 refine⟨_,rfl,_,rfl,_,_,rfl,rfl,⟨by decide,by decide⟩,_,_,rfl,rfl,(by show(0:Int)<5;decide),lk,_,_,.str th,rfl,rfl,HU.of (z7 _ _ hK3),aT,?_⟩
 refine⟨_,rfl,_,rfl,_,rfl,_,rfl,_,rfl,?_⟩
 refine Qe (hH.mono z7) (iT.car hth) λl8 H8 f8 s8 hL8 ok8=>?_
 obtain⟨g8,v8,_⟩:=iT.out hth ok8
 obtain⟨N8,i8⟩:=iT.next (by decide) hth ok8
 refine⟨_,rfl,_,rfl,?_⟩
 refine Qe hL8 (i8.car hot) λl9 H9 f9 s9 hL9 ok9=>?_
 obtain⟨g9,v9,_⟩:=i8.out hot ok9
 have p9:=λt ht=>(g9.fr t ht).pos
 rw[<-PZ n1 n4 hot gF g9 (vF.symm.trans (v8.trans v9 pT (λt ht=>(g8.fr t ht).pos) p9) pF pT p9)]at hL9
 have z9:=z7.trans (s8.trans s9)
 have hF9:=hF6.mono (s7.trans (s8.trans s9))
 refine⟨_,rfl,l9,lf,FF,FF,rfl,rfl,hL9,hF9,_,rfl,NL (by rw[M8];rfl) ?_⟩
 obtain⟨vf,eF,jF⟩:=hF9
 have lvf:=AM jF
 refine⟨_,rfl,lf,vf,rfl,.inl (HU.of eF),λlp gp=>?_⟩
 have s10:=HW gp (.lst vf)
 have hP:Gg (HV H9 lp (.lst vf)) lp FF:=⟨vf,HR,Hr.mono (Hb.same s10) jF⟩
 have eF10:=s10 _ _ eF
 have z10:=z9.trans s10
 have npf:lp≠lf:=λz=>by rw[z,eF]at gp;cases gp
 show J4 11 (.ref lp) _ (HV H9 lp (.lst vf)) _
 generalize HV H9 lp (.lst vf)=H10 at *
 refine⟨_,rfl,.inl ⟨rfl,_,HU.of eF10⟩,lf,vf,_,rfl,rfl,eF10,Kw (by lia),?_⟩
 have kp:∀{y:yJ}{L:List Ho},y≠lf->Gg H10 y L->Gg (HV H10 lf (.lst (vf++[.int 0]))) y L:=λ{y L} ny ⟨ws,ew,iw⟩=>⟨ws,by rw[Hw ny];exact ew,Hr.mono (Ky eF10 _) iw⟩
 have hH11:=kp (C3 nfh) (hH.mono z10)
 have hT11:=kp (C3 nft) (hT3.mono z10)
 have hP11:=kp npf hP
 generalize HV H10 lf (.lst (vf++[.int 0]))=H11 at *
 refine⟨_,rfl,_,rfl,_,rfl,_,rfl,?_⟩
 refine Qe hH11 (iT.car hot) λl12 H12 f12 s12 hL12 _=>?_
 rw[eFF]at hL12
 refine⟨_,rfl,l12,lp,FF,FF,rfl,rfl,hL12,hP11.mono s12,_,rfl,?_⟩
 rw[M8]
 refine KC ⟨_,rfl,_,rfl,lh,lt,T,T,rfl,rfl,hH11.mono s12,hT11.mono s12,?_⟩
 rw[M8]
 exact q _
end
section
variable{P:yL}{w:yM}{K:yG}{mg:Str->yD}{base:Heap}{f g:yJ}{fd gd:yN}
noncomputable def FQ(K:yG)(n:Str)(st:Stmt):Prop:=∃(f:yJ)(fd:yN),W.nsIn K mainGlobals n=some (some (.ref f))/\Hu K n n st f fd
theorem fq_mk{n:Str}{st:Stmt}{f:yJ}{oc:yI}{od an:Option yJ}{osl:Array yD}{kV doc pm Hh ct:yI}(a:W.nsIn K mainGlobals n=some (some (.ref f)))(l:K.lookup f=some ⟨oc,od,.func (W.fnOf n n (RJ st) (OI st) (He st) .none kV doc pm an Hh ct),osl⟩)
  (c:W.codeIn K Hh n=true) (k:W.keepIn K (.ref f)=true):FQ K n st:=⟨f,_,a,Xz l c k⟩
theorem FQ.x{n:Str}{st:Stmt}{h:Heap}(q:FQ K n st)(X:K.In h)(G:h.Ns mainGlobals mg):∃f fd,Hu K n n st f fd/\W.keepIn K (.ref f)=true/\mg n=some (.ref f):=by
 obtain⟨f,fd,a,F⟩:=q
 exact⟨f,fd,F,F.kp,EF X G a⟩
end
theorem VE{α:Type}{C:List α->Prop}(h:∀a0,C [a0]):∀us:List α,us.length=1->C us
 |[a0],_=>h a0
theorem TK{α:Type}{C:List α->Prop}(h:∀a0 a1,C [a0,a1]):∀us:List α,us.length=2->C us
 |[a0,a1],_=>h a0 a1
theorem U3{α:Type}{C:List α->Prop}(h:∀a0 a1 a2,C [a0,a1,a2]):∀us:List α,us.length=3->C us
 |[a0,a1,a2],_=>h a0 a1 a2
theorem xI{α:Type}{C:List α->Prop}(h:∀a0 a1 a2 a3,C [a0,a1,a2,a3]):∀us:List α,us.length=4->C us
 |[a0,a1,a2,a3],_=>h a0 a1 a2 a3
theorem FQ.g{P:yL}{w:yM}{K:yG}{mg:Str->yD}{base:Heap}{n:Str}{st:Stmt}{ps:yB}{sp:Sp}{k:Nat}{h:Heap}(q:FQ K n st)(X:K.In h)(G:h.Ns mainGlobals mg)(ok:∀f fd,Hu K n n st f fd->HC P w K mg base Hn k f fd ps sp)(b:∀(kV doc pm:yI)(an:Option yJ)(Hh ct:yI)(us:xY),us.length=ps.length->bindArgs (W.fnOf n n (RJ st) (OI st) (He st) .none kV doc pm an Hh ct) ⟨us,[]⟩=pure (ps.zip us):=by intro _ _ _ _ _ _;first|exact VE λ_=>rfl|exact TK λ_ _=>rfl|exact U3 λ_ _ _=>rfl|exact xI λ_ _ _ _=>rfl):Nonempty (Hc P w K mg base k n ps sp):=by
 obtain⟨f,fd,F,kp,A⟩:=q.x X G
 exact⟨⟨f,fd,ok f fd F,F.binds b,kp,A⟩⟩
theorem all_mk{l:W.OpenLaw}{w:yM}{K:yG}{h:Heap}{mg:Str->yD}{fa:yJ}(X:K.In h)(G:h.Ns mainGlobals mg)(hfa:mg "law" = some (.ref fa))
  (q1:FQ K "refuse_bad_count" kX)
  (q2:FQ K "gathered" Pf)
  (q3:FQ K "plus" PV)
  (q4:FQ K "less" M5)
  (q5:FQ K "multiplied" Ng)
  (q6:FQ K "swapped" PP)
  (q7:FQ K "exchanged" Nn)
  (q8:FQ K "refuse_bad_row" MN)
  (q9:FQ K "refuse_bad_rows" QJ)
  (q10:FQ K "rows_up_to" Wj)
  (q11:FQ K "rows" ZZ)
  (q12:FQ K "count_from" WY)
  (q13:FQ K "turned_over" XS)
  (q14:FQ K "uneven" sE)
  (q15:FQ K "refuse_uneven" sG)
  (q16:FQ K "orders" XO)
  (q17:FQ K "exchange_sum" XQ)
  (q18:FQ K "falls" ZW)
  (q19:FQ K "row_of" Wg)
  (q20:FQ K "by_exchange" Wd)
  (q21:FQ K "product" WL)
  (q22:FQ K "elementary" Yc)
  (q23:FQ K "elementary_product" XJ)
  (q24:FQ K "elementary_sum" oV)
  (q25:FQ K "whole" gI)
  (q26:FQ K "whole_sum" Wv)
  (q27:FQ K "by_elementary" XF)
  (q28:FQ K "joined" Zn)
  (q29:FQ K "alternating" oO)
  (q30:FQ K "put_in" rK)
  (q31:FQ K "elementaries_by_whole" aG)
  (q32:FQ K "by_whole" Xw)
  (q33:FQ K "lines_from" aL)
  (q34:FQ K "least_for_next" WV)
  (q35:FQ K "with_next_line" X6)
  (q36:FQ K "fillings" OU)
  (q37:FQ K "powers_of" Qy)
  (q38:FQ K "filled_sum" Wq)
  (q39:FQ K "unknown_alone" nM)
  (q40:FQ K "differences" X8)
  (q41:FQ K "by_fillings" XR)
  (q42:FQ K "power_sum" Xf)
  (q43:FQ K "common_divisor" aU)
  (q44:FQ K "fraction" X1)
  (q45:FQ K "multiplied_up" gB)
  (q46:FQ K "elementaries_by_power" WU)
  (q47:FQ K "by_power" Qi)
  (q48:FQ K "refuse_no_kind" Zt)
  (q49:FQ K "lets_in" Ov)
  (q50:FQ K "refuse_not_by" aY)
  (q51:FQ K "sum_by" sF)
  (q52:FQ K "whole_telling" sR)
  (q53:FQ K "shared_telling" Wk)
  (q54:FQ K "common_bottom" Xm)
  (q55:FQ K "summed_up" Wl)
  (q56:FQ K "carried" Np)
  (q57:FQ K "_law_cell" Op)
  (q58:FQ K "_law_rows" Nf)
  (q59:FQ K "_law_whole" P2)
  (q60:FQ K "_law_shared" P8)
  (q61:FQ K "_law_let_in" QL)
  (q62:FQ K "_law_good" Pg)
  (q63:FQ K "_law_telling" MQ)
  (q64:FQ K "law" Oq)
  {tk1:Tok} (g1:W.nsIn K mainGlobals "MOST_UNKNOWNS" = some (some (.int 4 tk1)))
  {tk2:Tok} (g2:W.nsIn K mainGlobals "MOST_TOGETHER" = some (some (.int 8 tk2)))
  {dK:yJ} {odK:Option yJ} {slK:Array yD} {nK:Nat} {tk0 tk1 tk2 tk3 tk4:Tok}
  (yK:W.nsIn K mainGlobals "KINDS" = some (some (.ref dK)))
  (lK:K.lookup dK=some ⟨.type "tuple",odK,.seq #[.str "exchange" tk0,.str "elementary" tk1,.str "whole" tk2,.str "power" tk3,.str "filling" tk4] nK,slK⟩)
  (z1:W.nsIn K mainGlobals "sorted" = some none)
  (z2:W.nsIn K mainGlobals "range" = some none)
  (z3:W.nsIn K mainGlobals "isinstance" = some none)
  (z4:W.nsIn K mainGlobals "abs" = some none)
  (z5:W.nsIn K mainGlobals "len" = some none)
  (z6:W.nsIn K mainGlobals "tuple" = some none)
  (z7:W.nsIn K mainGlobals "list" = some none)
  (z8:W.nsIn K mainGlobals "any" = some none)
  (z9:W.nsIn K mainGlobals "zip" = some none)
  (z10:W.nsIn K mainGlobals "sum" = some none)
  (z11:W.nsIn K mainGlobals "enumerate" = some none)
  (z12:W.nsIn K mainGlobals "min" = some none)
  (z13:W.nsIn K mainGlobals "max" = some none)
  (z14:W.nsIn K mainGlobals "int" = some none)
  (z15:W.nsIn K mainGlobals "bool" = some none)
  : ∃fd:yN,(∀(s:yH)(v:yI),BindsTo s fd ⟨[v],[]⟩ [("_law_script",v)])/\∀base:Heap,K.In base->base.Ns mainGlobals mg->HC l.prog w K mg base Hn 19 fa fd ["_law_script"] (NS K):=by
 obtain⟨f2,e2,F2,k2,A2⟩:=q2.x X G
 obtain⟨f3,e3,F3,k3,A3⟩:=q3.x X G
 obtain⟨f10,e10,F10,k10,A10⟩:=q10.x X G
 obtain⟨f16,e16,F16,k16,A16⟩:=q16.x X G
 obtain⟨f21,e21,F21,k21,A21⟩:=q21.x X G
 obtain⟨f58,e58,F58,k58,A58⟩:=q58.x X G
 obtain⟨f64,fd,a64,F64⟩:=q64
 have e:=hfa.symm.trans (EF X G a64)
 cases e
 have c_MOST_UNKNOWNS:=EF X G g1
 have c_MOST_TOGETHER:=EF X G g2
 have m_sorted:=BI X G z1
 have m_range:=BI X G z2
 have m_isinstance:=BI X G z3
 have m_abs:=BI X G z4
 have m_len:=BI X G z5
 have m_tuple:=BI X G z6
 have m_list:=BI X G z7
 have m_any:=BI X G z8
 have m_zip:=BI X G z9
 have m_sum:=BI X G z10
 have m_enumerate:=BI X G z11
 have m_min:=BI X G z12
 have m_max:=BI X G z13
 have m_int:=BI X G z14
 have m_bool:=BI X G z15
 refine⟨fd,λs v=>?_,λbase _ _=>?_⟩
 ·obtain⟨_,_,_,_,_,_,_,_,_,rfl,_,_⟩:=F64.ex
  exact .of_eq rfl
 have MK:=EF X G yK
 have SK:∀H,HM K H dK (Hj.map V.str):=λH=>.inr ⟨_,_,_,lK,rfl,rfl,uQ,.cons ⟨_,rfl⟩ (.cons ⟨_,rfl⟩ (.cons ⟨_,rfl⟩ (.cons ⟨_,rfl⟩ (.cons ⟨_,rfl⟩ .nil))))⟩
 obtain⟨G1⟩:=q1.g X G λ_ _ F1=>sS (P:=l.prog) (w:=w) (base:=base) F1 c_MOST_UNKNOWNS
 have G2:=Hc.mk f2 e2 (aX (P:=l.prog) (w:=w) (base:=base) F2 m_sorted) (F2.binds λ_ _ _ _ _ _=>VE λ_=>rfl) k2 A2
 have GGF:=Hc.mk f2 e2 (bC (P:=l.prog) (w:=w) (base:=base) F2 m_sorted) (F2.binds λ_ _ _ _ _ _=>VE λ_=>rfl) k2 A2
 have GPF:=Hc.mk f3 e3 (UX F3 GGF.ql) (F3.binds λ_ _ _ _ _ _=>TK λ_ _=>rfl) k3 A3
 have G3:=Hc.mk f3 e3 (HC.imp (sp':=Uq λts us=>ts++us) (UX F3 GGF.ql) λvs H Q E h=>by obtain⟨a,b,ts,us,e,h1,h2,_,_,hl,q⟩:=h;exact⟨a,b,ts,us,e,h1,h2,hl,q⟩) (F3.binds λ_ _ _ _ _ _=>TK λ_ _=>rfl) k3 A3
 obtain⟨G4⟩:=q4.g X G λ_ _ F4=>jS F4 G2.ql
 obtain⟨G5⟩:=q5.g X G λ_ _ F5=>gZ F5 G2.ql m_tuple m_zip
 obtain⟨G6⟩:=q6.g X G λ_ _ F6=>bW (P:=l.prog) (w:=w) (mg:=mg) (base:=base) F6
 obtain⟨G7⟩:=q7.g X G λ_ _ F7=>bD F7 (G2.ok) G2.bd G2.kp G2.at_ (G6.ok) G6.bd G6.kp G6.at_
 obtain⟨G8⟩:=q8.g X G λ_ _ F8=>X0 (P:=l.prog) (w:=w) (base:=base) F8 c_MOST_TOGETHER m_any m_zip m_sum
 obtain⟨G9⟩:=q9.g X G λ_ _ F9=>sN F9 G8.ql
 have G10:=Hc.mk f10 e10 (Sc (P:=l.prog) (w:=w) (base:=base) F10 (F10.binds λ_ _ _ _ _ _=>U3 λ_ _ _=>rfl) A10 m_range m_min 9) (F10.binds λ_ _ _ _ _ _=>U3 λ_ _ _=>rfl) k10 A10
 obtain⟨G11⟩:=q11.g X G λ_ _ F11=>qX F11 (G10.ok) G10.bd G10.kp G10.at_
 obtain⟨G12⟩:=q12.g X G λ_ _ F12=>ZP (P:=l.prog) (w:=w) (base:=base) F12 m_len
 obtain⟨G13⟩:=q13.g X G λ_ _ F13=>Zz F13 G12.ql m_max m_range m_tuple
 obtain⟨G14⟩:=q14.g X G λ_ _ F14=>Yz F14 G1.ql G4.ql G7.ql m_range
 obtain⟨G15⟩:=q15.g X G λ_ _ F15=>Yd F15 G14.ql
 have G16:=Hc.mk f16 e16 (T4 (P:=l.prog) (w:=w) (base:=base) F16 (F16.binds λ_ _ _ _ _ _=>VE λ_=>rfl) A16 m_enumerate 5) (F16.binds λ_ _ _ _ _ _=>VE λ_=>rfl) k16 A16
 obtain⟨G17⟩:=q17.g X G λ_ _ F17=>Ys F17 G8.ql G1.ql G16.ql m_len
 obtain⟨G18⟩:=q18.g X G λ_ _ F18=>Xg (P:=l.prog) (w:=w) (base:=base) F18 m_tuple m_sorted
 obtain⟨G19⟩:=q19.g X G λ_ _ F19=>YN (P:=l.prog) (w:=w) (base:=base) F19 m_tuple
 obtain⟨G20⟩:=q20.g X G λ_ _ F20=>sD F20 G15.ql G18.ql G19.ql
 have G21:=Hc.mk f21 e21 (ZX F21 G5.ql) (F21.binds λ_ _ _ _ _ _=>TK λ_ _=>rfl) k21 A21
 have GPL:=Hc.mk f21 e21 (Yg F21 G5.ql) (F21.binds λ_ _ _ _ _ _=>TK λ_ _=>rfl) k21 A21
 obtain⟨G22⟩:=q22.g X G λ_ _ F22=>Y3 F22 G17.ql
 obtain⟨G23⟩:=q23.g X G λ_ _ F23=>iP F23 G22.ql G21.ql LK
 obtain⟨G24⟩:=q24.g X G λ_ _ F24=>Za F24 G8.ql G1.ql G23.ql
 obtain⟨G25⟩:=q25.g X G λ_ _ F25=>nY F25 G11.ql G17.ql G3.ql
 obtain⟨G26⟩:=q26.g X G λ_ _ F26=>qO F26 G8.ql G1.ql G25.ql G21.ql Su
 obtain⟨G27⟩:=q27.g X G λ_ _ F27=>ZT F27 G15.ql G13.ql G23.ql G4.ql m_sorted
 obtain⟨G28⟩:=q28.g X G λ_ _ F28=>mR F28 GGF.ql m_tuple m_sorted
 obtain⟨G29⟩:=q29.g X G λ_ _ F29=>fO F29 GPF.ql G28.ql m_range m_len
 obtain⟨G30⟩:=q30.g X G λ_ _ F30=>fC F30 GGF.ql G28.ql
 obtain⟨G31⟩:=q31.g X G λ_ _ F31=>Y9 F31 G29.ql m_len
 obtain⟨G32⟩:=q32.g X G λ_ _ F32=>gW F32 G27.ql G31.ql G30.ql
 obtain⟨G33⟩:=q33.g X G λ_ _ F33=>X2 (P:=l.prog) (w:=w) (base:=base) F33 m_range m_max
 obtain⟨G34⟩:=q34.g X G λ_ _ F34=>gG (P:=l.prog) (w:=w) (base:=base) F34 m_len m_tuple
 obtain⟨G35⟩:=q35.g X G λ_ _ F35=>tE F35 G33.ql G34.ql
 obtain⟨G36⟩:=q36.g X G λ_ _ F36=>Y8 F36 G8.ql G1.ql G35.ql m_len
 obtain⟨G37⟩:=q37.g X G λ_ _ F37=>gH (P:=l.prog) (w:=w) (base:=base) F37 m_tuple m_sum m_range
 obtain⟨G38⟩:=q38.g X G λ_ _ F38=>lO F38 G2.ql G37.ql G36.ql
 obtain⟨G39⟩:=q39.g X G λ_ _ F39=>fI (P:=l.prog) (w:=w) (mg:=mg) (base:=base) F39
 obtain⟨G40⟩:=q40.g X G λ_ _ F40=>Yf F40 G39.ql GPL.ql m_range
 obtain⟨G41⟩:=q41.g X G λ_ _ F41=>rT F41 G15.ql G5.ql G40.ql G18.ql G19.ql m_tuple m_enumerate
 obtain⟨G42⟩:=q42.g X G λ_ _ F42=>jI F42 G8.ql G1.ql G17.ql G21.ql
 obtain⟨G43⟩:=q43.g X G λ_ _ F43=>dA (P:=l.prog) (w:=w) (mg:=mg) (base:=base) F43
 obtain⟨G44⟩:=q44.g X G λ_ _ F44=>ZU F44 G43.ql m_abs
 obtain⟨G45⟩:=q45.g X G λ_ _ F45=>qK (P:=l.prog) (w:=w) (mg:=mg) (base:=base) F45
 obtain⟨G46⟩:=q46.g X G λ_ _ F46=>bY F46 G29.ql m_range
 obtain⟨G47⟩:=q47.g X G λ_ _ F47=>oU F47 G27.ql G45.ql G30.ql G46.ql G44.ql m_max m_len m_list m_range
 obtain⟨G48⟩:=q48.g X G λ_ _ F48=>fK (P:=l.prog) (w:=w) (base:=base) F48 MK SK
 obtain⟨G49⟩:=q49.g X G λ_ _ F49=>pH (P:=l.prog) (w:=w) (base:=base) F49 m_len m_max
 obtain⟨G50⟩:=q50.g X G λ_ _ F50=>pY F50 G49.ql
 obtain⟨G51⟩:=q51.g X G λ_ _ F51=>lY F51 G17.ql G24.ql G26.ql G42.ql G38.ql
 obtain⟨G52⟩:=q52.g X G λ_ _ F52=>aI F52 G20.ql G27.ql G32.ql G41.ql
 obtain⟨G53⟩:=q53.g X G λ_ _ F53=>oX F53 G47.ql G52.ql
 obtain⟨G54⟩:=q54.g X G λ_ _ F54=>sZ F54 G43.ql
 obtain⟨G55⟩:=q55.g X G λ_ _ F55=>Yr F55 G51.ql G2.ql
 obtain⟨G56⟩:=q56.g X G λ_ _ F56=>nR F56 G9.ql G1.ql G48.ql G50.ql G54.ql G55.ql G53.ql G44.ql
 obtain⟨G57⟩:=q57.g X G λ_ _ F57=>fD (P:=l.prog) (w:=w) (base:=base) F57 m_len
 have G58:=Hc.mk f58 e58 (U8 (P:=l.prog) (w:=w) (base:=base) F58 (F58.binds λ_ _ _ _ _ _=>U3 λ_ _ _=>rfl) A58 m_range m_min 9) (F58.binds λ_ _ _ _ _ _=>U3 λ_ _ _=>rfl) k58 A58
 obtain⟨G59⟩:=q59.g X G λ_ _ F59=>ZB (P:=l.prog) (w:=w) (base:=base) F59 m_isinstance m_int m_bool
 obtain⟨G60⟩:=q60.g X G λ_ _ F60=>mM (P:=l.prog) (w:=w) (base:=base) F60 m_abs
 obtain⟨G61⟩:=q61.g X G λ_ _ F61=>Xr (P:=l.prog) (w:=w) (base:=base) F61 m_len m_max m_list
 obtain⟨G62⟩:=q62.g X G λ_ _ F62=>jE F62 G59.ql G60.ql G61.ql m_isinstance m_list m_tuple m_len m_range
 obtain⟨G63⟩:=q63.g X G λ_ _ F63=>Zg F63 G58.ql G61.ql G60.ql m_range m_len m_sorted
 exact Yo F64 G57.ql G63.ql G56.ql G62.ql m_list
theorem walk{l:W.OpenLaw}{q:yL}{loose:yB}{XP:(Str->yD)->Heap->Prop}{YP:yM->Heap->Prop}{d:DefRec}{K:Params->yG}(hn:l.most=some 63)(hdf:d.params.defaults=[])
  (hY:∀(w:yM)(h:Heap),YP w h->(K w.params).In h)
  (F:∀(w:yM)(mg:Str->yD)(fa:yJ)(h:Heap),(K w.params).In h->h.Ns mainGlobals mg->mg d.name=some (.ref fa) ->
   ∃fd:yN,(∀(s:yH)(u:yI),BindsTo s fd ⟨[u],[]⟩ [("_law_script",u)])/\∀base:Heap,(K w.params).In base->base.Ns mainGlobals mg->HC l.prog w (K w.params) mg base Hn 19 fa fd ["_law_script"] (NS (K w.params))) :
  W.WalkO q loose XP YP l.row.toRowW d [] (λf vs=>PySem.call f vs) :=
 L2.walk_of (n:=63) (k:=19) (x := "_law_script") (CX:=λ_=>Hn) (sp:=λw=>NS (K w.params)) hn (by decide) hdf ⟨rfl,by decide,by decide⟩ hY F (λ_ _ a ns hl _ hS=>⟨a,ns,rfl,hS,hl,λ_=>rfl⟩) λ_ _ _ _ _ z=>z
end L2.K91
end
namespace PySem.W.Fast
def tw10053941389409421682:=0
def tw10090720286375816664:=0
def tw10194842032492400815:=0
def tw10296967898907755872:=0
def tw10299110006311232453:=0
def tw10323400326289154386:=0
def tw10354371866454150591:=0
def tw10369010504370167554:=0
def tw10475376594829700150:=0
def tw10491280957631170927:=0
def tw10510005901178460213:=0
def tw10670141353787129702:=0
def tw10678773110023163314:=0
def tw10732249730477595599:=0
def tw10775412273885684996:=0
def tw10871979024984552462:=0
def tw10877044009262290796:=0
def tw10934825684629694559:=0
def tw10972776985880310698:=0
def tw11019879121621069975:=0
def tw11215859572588015014:=0
def tw11343252138506065028:=0
def tw11459963408102121429:=0
def tw1146975338515317636:=0
def tw11480774420886482857:=0
def tw11525997649277226652:=0
def tw11589370514740979888:=0
def tw11590868182853143928:=0
def tw11607209751192930531:=0
def tw11634247602721793438:=0
def tw11716148424027540066:=0
def tw11730394852160825350:=0
def tw11771434766932957568:=0
def tw11812384301371335166:=0
def tw11823259614909191269:=0
def tw11916649605484413079:=0
def tw11922068698343478593:=0
def tw11939646549867355667:=0
def tw11952196873064234349:=0
def tw11987195194978258014:=0
def tw12070372538408988968:=0
def tw12086643061223768520:=0
def tw12102341291933104338:=0
def tw12125976773012110:=0
def tw12166810090967702900:=0
def tw12168769663641213620:=0
def tw12259809690747348569:=0
def tw12270485024792839447:=0
def tw12281139040633853620:=0
def tw12311327162021955520:=0
def tw12339790695915256367:=0
def tw12344760215713044271:=0
def tw12355272191442685068:=0
def tw12383150191390709412:=0
def tw12428048342847711785:=0
def tw12429887869242761802:=0
def tw124598713192617665:=0
def tw12475947363961993819:=0
def tw1259060874327300335:=0
def tw12593656964378566155:=0
def tw12598439689228621309:=0
def tw12599724399568843391:=0
def tw12600580034945509384:=0
def tw12657286107773857437:=0
def tw12680978957862657707:=0
def tw12693604966398503850:=0
def tw12694714809627978801:=0
def tw12703266892889943183:=0
def tw12705127485028360346:=0
def tw12764656329196631355:=0
def tw12920688070255601715:=0
def tw12958433211868641691:=0
def tw12960858472581654912:=0
def tw12971805185234466420:=0
def tw1299373515310636873:=0
def tw13036038646709728193:=0
def tw13062550967295137295:=0
def tw13066946692016022601:=0
def tw13081711695809913656:=0
def tw13174881740371786567:=0
def tw13249127071685713681:=0
def tw13270345613903187421:=0
def tw13306335590765445574:=0
def tw1338779196162742815:=0
def tw13403448520580004071:=0
def tw13518620746558679990:=0
def tw13527209091322481589:=0
def tw13530447805560496907:=0
def tw13647893476414010984:=0
def tw13654239120822776788:=0
def tw13696626751327533719:=0
def tw13801658443235294265:=0
def tw13805187527145866852:=0
def tw13809401787819119456:=0
def tw1382047816080716418:=0
def tw13834754047381438767:=0
def tw13843356719733355153:=0
def tw13872391064846583534:=0
def tw13910683592997519165:=0
def tw13931882736505432483:=0
def tw14000721781928432585:=0
def tw14037172218014106755:=0
def tw14066154247536518217:=0
def tw14071489878977622712:=0
def tw14075745995211398186:=0
def tw1415191754585671710:=0
def tw14177692389904639215:=0
def tw14278327305749706752:=0
def tw14298259860761381241:=0
def tw14319447454915033739:=0
def tw14322821212635304127:=0
def tw14350291395370125144:=0
def tw14369195571884360447:=0
def tw1440514558196611563:=0
def tw14428214927161579764:=0
def tw14529682675614627578:=0
def tw14536973310602081229:=0
def tw1459484860302988696:=0
def tw14688153020232443217:=0
def tw14696975101036341934:=0
def tw14797680616815067638:=0
def tw14807146086474730552:=0
def tw14814377545573297839:=0
def tw14830910579792389522:=0
def tw14835536247340835483:=0
def tw1484927920631538772:=0
def tw14855950825089617593:=0
def tw14863072886098239690:=0
def tw14889573589901623392:=0
def tw14955288526896588224:=0
def tw14984607118929278658:=0
def tw15112701140379452326:=0
def tw15121105957696939821:=0
def tw15174269077387315378:=0
def tw15178578801922354635:=0
def tw15212888979444371366:=0
def tw15218470990580124255:=0
def tw15329404930907657680:=0
def tw15426463340008534737:=0
def tw15436169688647431009:=0
def tw15469719087897227931:=0
def tw15610708139763709896:=0
def tw15614114797191970991:=0
def tw15823260755451206321:=0
def tw15860219650424348600:=0
def tw15927006382187046841:=0
def tw15978976118589027862:=0
def tw16069680537278303155:=0
def tw16180415777815551290:=0
def tw16344553678302592950:=0
def tw16347211786201153574:=0
def tw16367877115004164681:=0
def tw16376068658797743830:=0
def tw16420883392162316777:=0
def tw16425091337688460972:=0
def tw16427913155078281144:=0
def tw1643036463715271094:=0
def tw16475716007412637897:=0
def tw16590173904144244292:=0
def tw1659957060628030971:=0
def tw16624302144673024881:=0
def tw16636059130378008636:=0
def tw16642934148081081623:=0
def tw16664338853808516501:=0
def tw1673230692309623468:=0
def tw16794647232426880683:=0
def tw16806343417271999802:=0
def tw16853198964234082364:=0
def tw16867131510107753044:=0
def tw16884292866035804004:=0
def tw16925839543087086730:=0
def tw16929458258854451194:=0
def tw17246801676490294026:=0
def tw17283343482280217424:=0
def tw17380698588945038242:=0
def tw17404716606443128725:=0
def tw17528015002451330910:=0
def tw1757563091096068158:=0
def tw17653239574197443561:=0
def tw17685790571138833753:=0
def tw17694597034890466812:=0
def tw17716604010329501244:=0
def tw17752627367868099046:=0
def tw17761679905433976319:=0
def tw1786325783126143962:=0
def tw17954055414276656170:=0
def tw18082365814772020924:=0
def tw18107793751483941180:=0
def tw18134239720098541154:=0
def tw18148564273607315460:=0
def tw18320094141013412981:=0
def tw18332642681786100505:=0
def tw18378361938401173642:=0
def tw190133464888509036:=0
def tw1912160809314550313:=0
def tw1914731412491239031:=0
def tw1943487305486216025:=0
def tw2005716735768645582:=0
def tw203855100899413225:=0
def tw2057696635882457585:=0
def tw2062055421699765020:=0
def tw2220102358258517421:=0
def tw2269441789590337887:=0
def tw2278658405368481696:=0
def tw2280259663457824903:=0
def tw229709749985352243:=0
def tw2359792840094624552:=0
def tw2372305257513816110:=0
def tw2387138571566760825:=0
def tw2405322042279731890:=0
def tw2456889283062430606:=0
def tw2534776443638602288:=0
def tw2535412663280963781:=0
def tw2552942980933172127:=0
def tw2613757083586729684:=0
def tw2682168533039714106:=0
def tw2704739347443871566:=0
def tw2713144332642420916:=0
def tw2774335232329136949:=0
def tw2775117327614868400:=0
def tw2777899715557104559:=0
def tw2829063332133800977:=0
def tw2846396193198297872:=0
def tw2893898131427226048:=0
def tw2987681509040769005:=0
def tw3004826992580398154:=0
def tw3009663772991114668:=0
def tw3053880723783121162:=0
def tw3068456979555530020:=0
def tw3217138694866555819:=0
def tw3328152230713426816:=0
def tw3350539927154472501:=0
def tw3352054758903054518:=0
def tw3358690358409437680:=0
def tw3384232624908030504:=0
def tw346009172172235269:=0
def tw3557588106952139731:=0
def tw3699955689155066406:=0
def tw373495056034022456:=0
def tw3788284495394542465:=0
def tw3826188140994880921:=0
def tw3880405019154043233:=0
def tw3929728781833917981:=0
def tw3954052590199421246:=0
def tw4075625546061347070:=0
def tw4149569073143193281:=0
def tw4241430760985719528:=0
def tw4270148930608164641:=0
def tw4291474737466587447:=0
def tw4411439544689538037:=0
def tw4478527523284618126:=0
def tw4505866149480480411:=0
def tw4534741152184283859:=0
def tw4548022295316889975:=0
def tw4553116309315635841:=0
def tw4597102374132647138:=0
def tw4601135533604835270:=0
def tw4610235472411120227:=0
def tw4631224192765416849:=0
def tw4644721074245973095:=0
def tw4697415962004089301:=0
def tw4702727048336772477:=0
def tw4730360329111510722:=0
def tw4746034653665766773:=0
def tw4777588034675886828:=0
def tw4826178484878757830:=0
def tw486750854501154744:=0
def tw489155298437033531:=0
def tw4929814590771468169:=0
def tw4994405588512286154:=0
def tw5153923973298178966:=0
def tw5163817135861160604:=0
def tw5230874554288824265:=0
def tw5257283660072760409:=0
def tw5364820330358127248:=0
def tw5391547402319579666:=0
def tw5416874158708209716:=0
def tw5457919866098201374:=0
def tw5509283914077883017:=0
def tw551141791128758292:=0
def tw5604999207399082730:=0
def tw5608447678964097928:=0
def tw574972127493730608:=0
def tw5752855807882383606:=0
def tw575539136567371641:=0
def tw5786445378253832962:=0
def tw5803751655201648822:=0
def tw5830268037987200275:=0
def tw5864446980123147587:=0
def tw5870443124994095443:=0
def tw5985839683425316555:=0
def tw5999930254493145654:=0
def tw6032695293572874604:=0
def tw6106512625103494069:=0
def tw6180856737452453107:=0
def tw6181556876495368907:=0
def tw6285297355140262425:=0
def tw6304130311152617973:=0
def tw6398199700105779780:=0
def tw6444814947964299568:=0
def tw6450439352115411304:=0
def tw6465369765315228796:=0
def tw651898769629242567:=0
def tw6576065270159656025:=0
def tw6650481486014105328:=0
def tw6754837713739356180:=0
def tw6798204997308444913:=0
def tw6866413803319367299:=0
def tw6874533734288917801:=0
def tw7003862898619798815:=0
def tw7194811734718481482:=0
def tw719826330382554385:=0
def tw7328372473548912399:=0
def tw73781253264048958:=0
def tw7447504792712212444:=0
def tw7501163021470664476:=0
def tw7519331979886556826:=0
def tw7613357287370123375:=0
def tw7682094923395532631:=0
def tw7687452218573689:=0
def tw7724846058172883799:=0
def tw7752027195122075470:=0
def tw7787109128846188350:=0
def tw7831394829752999964:=0
def tw7842609878823439331:=0
def tw7923482544797643334:=0
def tw7930314437604955674:=0
def tw7936333479541658576:=0
def tw8038600048642588950:=0
def tw8097069898219193601:=0
def tw8120469494400387264:=0
def tw8206502415237848925:=0
def tw821493777030089673:=0
def tw8299705677666757031:=0
def tw8301081599579321096:=0
def tw8384906342684956220:=0
def tw838854052008512868:=0
def tw8522531761287367525:=0
def tw8525193741465402865:=0
def tw8531755957196452395:=0
def tw8668706055797314209:=0
def tw8777699317220395693:=0
def tw886765436373028528:=0
def tw9129501533843404776:=0
def tw9142170100695272171:=0
def tw9147680643367562791:=0
def tw9195117710545761480:=0
def tw9202620038944979263:=0
def tw922111286607788429:=0
def tw9244845508651034599:=0
def tw9293908090084239924:=0
def tw9371770663032005614:=0
def tw9446254920414479027:=0
def tw9493148054126072457:=0
def tw9561881804449955252:=0
def tw9583325413564922808:=0
def tw9673382837746708003:=0
def tw9714327347757570527:=0
def tw9799256630921732215:=0
def tw9923002135126553369:=0
def tw9936448285312540935:=0
def tw994496843246340901:=0
end PySem.W.Fast
open PySem PySem.W PyProof.Rows
set_option maxRecDepth 100000 in
set_option maxHeartbeats 0 in
theorem PySem.Challenge.cw_evenform_k91_whole_from_telling_to_telli_holds : PySem.Challenge.rw_evenform_k91_whole_from_telling_to_telli.Holds := by
  w_on; o_law; k_head; (case hw => w_witness2)
  k_fill
  refine L2.K91.walk (l := PySem.Challenge.rw_evenform_k91_whole_from_telling_to_telli) rfl rfl (fun w h Y => PySem.W.kIn_of Y) ?F
  case F =>
    intro w mg fa h KX G hmg
    refine' L2.K91.all_mk KX G hmg ?q1 ?q2 ?q3 ?q4 ?q5 ?q6 ?q7 ?q8 ?q9 ?q10 ?q11 ?q12 ?q13 ?q14 ?q15 ?q16 ?q17 ?q18 ?q19 ?q20 ?q21 ?q22 ?q23 ?q24 ?q25 ?q26 ?q27 ?q28 ?q29 ?q30 ?q31 ?q32 ?q33 ?q34 ?q35 ?q36 ?q37 ?q38 ?q39 ?q40 ?q41 ?q42 ?q43 ?q44 ?q45 ?q46 ?q47 ?q48 ?q49 ?q50 ?q51 ?q52 ?q53 ?q54 ?q55 ?q56 ?q57 ?q58 ?q59 ?q60 ?q61 ?q62 ?q63 ?q64 ?g1 ?g2 ?yK ?lK ?z1 ?z2 ?z3 ?z4 ?z5 ?z6 ?z7 ?z8 ?z9 ?z10 ?z11 ?z12 ?z13 ?z14 ?z15
    all_goals try (refine' L2.K91.fq_mk ?a ?l ?c ?k; (case a => k_is); (case l => k_is); (case c => k_is); (case k => k_is))
    (case g1 => k_is)
    (case g2 => k_is)
    (case yK => k_is)
    (case lK => k_is)
    all_goals k_is
