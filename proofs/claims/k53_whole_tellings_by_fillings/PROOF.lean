import PyProof.Rows.All
import Wide.All
import OpenK.AllK
import Wide.FinOn
import Lean
import PyProof.EqAt
import PyProof.EqKinds
import PyProof.TupleCall
import PyProof.Rows.SortRuns
import PyProof.DictItems
import PyProof.DictWalks
import PyProof.CollectIter
import PyProof.Rows.SortRev
import KE.KSortTup
import KE.KDictList
import OpenK.KOwn
import PyProof.NsDelKeeps
import PyProof.RulesAs
import KE.KIsAll
import PyProof.ExcArgsOwn
import KE.KMinBuiltin
import PyProof.Draws
import PyProof.EnumMake
import PyProof.Rows.EnumRows
import PyProof.ListMulRoad
import PyProof.ExcInit
import PyProof.ExcClass2
import OpenK.KMake
import PyProof.InstStoreFacts
import OpenK.KCls
import OpenK.KMore
import PyProof.EqAt
import KE.KSortTup
import KE.KDictList
import KE.KItemsList
import PyProof.Rows.SortRev
import PyProof.DictItems
import PyProof.DictWalks
import PyProof.CollectIter
import PySem.Challenge.RW_evenform_k53_whole_tellings_by_fillings
set_option Elab.async false
set_option linter.all false
def AA:=@List.length_map
def AB:=@PySem.Heap.get?_push_of_some
def AC:=@List.mem_cons_of_mem
def AD:=@List.mem_cons_self
def AE:=@List.length_append
def AF:=@Array.getElem?_eq_getElem
def AG:=@Nat.le_refl
def AH:=@List.getElem?_eq_getElem
def AI:=@PySem.Heap.lt_size
def AJ:=@List.mem_cons
def AK:=@List.getD_eq_getElem?_getD
def AL:=@PySem.Paired.length
def AM:=@PySem.Heap.get?_push_size
def AN:=@List.take_of_length_le
def AO:=@Array.length_toList
def AQ:=@Bool.and_eq_true
def AR:=@List.getElem?_eq_some_iff
def AS:=@List.length_take
def AT:=@List.getElem?_map
def AU:=@PyProof.Rows.boot_isinstance
def AV:=@Bool.false_ne_true
def AW:=@Option.some.inj
def AX:=@List.append_assoc
def AY:=@List.mem_of_getElem?
def AZ:=@List.size_toArray
def Aa:=@List.map_cons
def Ab:=@List.sum_cons
def Ac:=@Nat.lt_of_lt_of_le
def Ad:=@List.all_eq_true
def Ae:=@List.mem_map
def Af:=@List.mem_singleton
def Ag:=@Nat.ne_of_lt
def Ah:=@PySem.PassesOwn.never
def Ai:=@List.pairwise_cons
def Aj:=@Nat.le_trans
def Ak:=@List.mem_append
def Al:=@List.mem_append_right
def Am:=@List.length_cons
def An:=@Int.toNat_natCast
def Ao:=@List.map_append
def Ap:=@Nat.zero_le
def Aq:=@List.filterMap_eq_map'
def Ar:=@List.replicate_succ
def As:=@PySem.F.slot_list_append
def At:=@PySem.F.type_list_append
def Au:=@PySem.F.plainAttrs_list
def Av:=@PyProof.Rows.boot_tuple
def Aw:=@List.mem_append_left
def Ax:=@List.append_nil
def Ay:=@List.length_singleton
def Az:=@List.filter_cons
def A0:=@List.length_drop
def BA:=@Bool.false_eq_true
def BB:=@PySem.W.mg_none_of
def BC:=@List.lookup_cons
def BD:=@Nat.lt_of_le_of_lt
def BE:=@Array.getElem?_toList
def BF:=@List.dropLast_concat_getLast
def BG:=@PySem.Heap.get?_update_other
def BH:=@List.mem_range
def BI:=@List.length_range
def BJ:=@PySem.W.mg_of
def BK:=@Array.toList_append
def BL:=@List.mem_of_mem_take
def BM:=@List.length_replicate
def BN:=@List.length_eq_zero_iff
def BO:=@List.Perm.append_right
def BP:=@PySem.Heap.size_push
def BQ:=@Nat.min_eq_left
def BR:=@List.not_mem_nil
def BS:=@List.mem_flatMap
def BT:=@PySem.Heap.get?_update_self
def BU:=@List.take_append_drop
def BV:=@List.flatten_cons
def BW:=@PyProof.Rows.slot_tuple_getitem
def BX:=@Nat.lt_irrefl
def BY:=@Array.getElem?_eq_some_iff
def BZ:=@PySem.boot_len
def Ba:=@Nat.ne_of_gt
def Bb:=@List.range_succ
def Bc:=@Nat.le_succ
def Be:=@List.flatMap_singleton
def Bf:=@List.pairwise_iff_getElem
def Bg:=@List.filterMap_cons
def Bh:=@Nat.add_le_add_left
def Bi:=@List.flatMap_append
def Bj:=@Nat.le_of_lt
def Bl:=@List.Perm.append_left
def Bm:=@PySem.W.kia_one
def Bn:=@List.take_zero
def Bo:=@List.drop_of_length_le
def Bp:=@Array.getElem?_eq_none
def Bq:=@List.mem_filter
def Br:=@List.foldl_cons
def Bt:=@List.find?_cons
def Bu:=@List.perm_append_comm
def Bv:=@PySem.F.slot_dict_itemiterator_next
def Bw:=@List.map_nil
def Bx:=@Int.emod_lt_of_pos
def By:=@PySem.F.slot_dict_keyiterator_next
def Bz:=@Nat.mul_le_mul_right
def B0:=@PyProof.Rows.callWith_type1
def B1:=@Int.emod_nonneg
def B2:=@Ne.symm
def B3:=@List.map_congr_left
def B4:=@List.range_succ_eq_map
def B5:=@PyProof.Rows.boot_list
def B6:=@PySem.Obj.data_mapFields
def B7:=@List.length_nil
def B8:=@Array.toList_reverse
def B9:=@List.foldl_append
def CA:=@List.pairwise_map
def CB:=@List.flatMap_cons
def CC:=@List.any_cons
def CD:=@PySem.Calls.callWith_builtin
def CF:=@PySem.Paired.snoc
def CG:=@PySem.F.slot_tuple_mul
def CH:=@List.nodup_cons
def CI:=@PySem.Obj.isFreed_of_fields
def CJ:=@List.getElem?_eq_none
def CK:=@PySem.F.slot_tuple_iterator_next
def CL:=@PySem.F.excBase_ValueError
def CM:=@PySem.Calls.evalArgs_plain
def CN:=@List.pairwise_append
def CO:=@List.drop_zero
def CQ:=@Array.size_setIfInBounds
def CS:=@List.map_map
def CT:=@List.getElem_mem
def CU:=@Option.bind_some
def CV:=@PySem.mem_of_lookup
def CW:=@PySem.Heap.SameBut.update
def CY:=@List.getElem?_range
def CZ:=@Array.getElem?_setIfInBounds_ne
def Ca:=@List.getElem?_replicate
def Cb:=@PySem.F.plain_list_iadd
def Cc:=@List.getElem?_set_self
def Cd:=@List.zipWith_cons_cons
def Ce:=@Array.toList_push
def Cf:=@List.ext_getElem?
def Cg:=@Nat.succ_mul
def Ch:=@Int.zero_add
def Ci:=@List.length_filter_le
def Cj:=@List.reverse_reverse
def Ck:=@PySem.Around.under_plainId
def Cl:=@Nat.le_add_right
def Cm:=@Nat.pow_le_pow_right
def Cn:=@Nat.min_eq_right
def Co:=@PySem.F.excAttr_ValueError
def Cp:=@List.getElem?_append_right
def Cq:=@Int.mul_assoc
def Cr:=@List.map_drop
def Cs:=@Int.le_refl
def Ct:=@List.reverse_append
def Cu:=@PySem.Heap.get?_update_ne
def Cv:=@List.getElem?_append_left
def Cw:=@List.forIn_cons
def Cy:=@List.mem_filterMap
def Cz:=@List.zip_cons_cons
def C1:=@PySem.F.args_tuple_add_2
def C2:=@Nat.mul_comm
def C3:=@PySem.AutoSeq1.wpAny_loadPart'
def C4:=@PySem.F.args_tuple_mul_2
def C5:=@PySem.F.entry_tuple_add
def C6:=@List.pairwise_singleton
def C7:=@PySem.F.entry_tuple_mul
def C8:=@PySem.SeqAt.RcAt.tuples
def C9:=@PySem.Obj.cls_mapFields
def DA:=@Bool.not_eq_true'
def DB:=@PySem.F.slot_tuple_add
def DC:=@Option.map_eq_some_iff
def DD:=@Int.add_mul
def DE:=@List.all_cons
def DF:=@PySem.Heap.size_update
def DG:=@List.take_length
def DH:=@PySem.F.slot_dict_get
def DI:=@List.filterMap_append
def DJ:=@PyProof.Rows.boot_all
def DK:=@PySem.F.args_dict_itemiterator_next_1
def DL:=@List.getElem?_set_ne
def DM:=@Bool.eq_iff_iff
def DN:=@PySem.F.args_dict_keyiterator_next_1
def DO:=@PySem.F.entry_dict_itemiterator_next
def DP:=@PySem.W.kat_nil
def DQ:=@PySem.F.slot_zip_next
def DR:=@Bool.or_eq_true
def DS:=@PySem.F.entry_dict_keyiterator_next
def DT:=@PySem.W.hideAll_get
def DU:=@PyProof.Rows.lt_int
def DV:=@List.mergeSort_perm
def DW:=@PySem.F.args_tuple_iterator_next_1
def DX:=@List.forIn_nil
def DY:=@PySem.W.of_hideAll
def DZ:=@PySem.Calls.spliced_cons
def Da:=@PySem.W.callWith_K
def Db:=@PySem.SeqAt.EqAt.int_int
def Dc:=@Array.size_extract
def Dd:=@List.getElem?_drop
def De:=@PySem.F.entry_proto_collect
def Df:=@PySem.F.plain_proto_collect
def Dg:=@PySem.F.entry_tuple_iterator_next
def Dh:=@List.sum_singleton
def Di:=@PySem.Code.quiet_builtin
def Dj:=@PySem.Calls.Name_function_global
def Dk:=@Array.perm_iff_toList_perm
def Dl:=@Nat.mul_lt_mul_of_pos_left
def Dm:=@List.map_take
def Dn:=@List.take_sublist
def Do:=@List.reverse_cons
def Dp:=@PySem.Within.cons
def Dq:=@List.getElem?_take_of_lt
def Dr:=@Prod.ext
def Ds:=@Nat.min_self
def Dt:=@Nat.sub_zero
def Du:=@List.zipIdx_cons
def Dv:=@List.cons_append
def Dw:=@PySem.W.kat_cons
def Dx:=@Option.getD_some
def Dy:=@Int.mul_comm
def Dz:=@Bool.or_true
def D0:=@PySem.F.slot_tuple_count
def D1:=@Nat.lt_succ_iff_lt_or_eq
def D4:=@PySem.F.args_dict_get_3
def D5:=@PySem.F.plainAttrs_dict
def D6:=@Nat.add_sub_cancel_left
def D7:=@PySem.F.entry_list_iadd
def D8:=@PySem.F.slot_tuple_rmul
def D9:=@List.getLast?_singleton
def EA:=@List.pairwise_mergeSort
def EB:=@List.of_mem_zip
def EC:=@List.nil_append
def ED:=@PySem.W.kat_yes
def EE:=@PySem.W.kat_one
def EF:=@List.sum_append
def EG:=@PySem.W.cellsFrom_some
def EI:=@PySem.F.entry_dict_get
def EJ:=@Array.getElem?_extract
def EK:=@List.getElem_cons_drop
def EL:=@PySem.F.slot_dict_items_iter
def EM:=@List.map_id
def EN:=@List.filter_eq_nil_iff
def EO:=@Bool.and_false
def EQ:=@Array.mem_of_getElem?
def ER:=@List.set_append_right
def ES:=@List.pairwise_and_iff
def ET:=@PySem.W.kat_no
def EU:=@PySem.F.slot_enumerate_next
def EV:=@PySem.F.slot_int_rmul
def EW:=@PyProof.Rows.boot_any
def EX:=@PyProof.Rows.boot_sum
def EY:=@PyProof.Rows.boot_int
def EZ:=@Nat.mul_le_mul
def Ea:=@List.mem_iff_getElem?
def Eb:=@List.eq_replicate_iff
def Ec:=@Nat.not_lt
def Ed:=@List.mem_of_mem_drop
def Ee:=@List.dropLast_concat
def Ef:=@List.getLastD_concat
def Eg:=@List.mem_of_getLast?
def Eh:=@List.getLast?_append
def Ej:=@Bool.not_true
def Ek:=@List.getElem_of_mem
def El:=@List.take_succ_cons
def Em:=@List.filter_sublist
def Eo:=@Int.toNat_of_nonneg
def Ep:=@Nat.add_comm
def Er:=@Bool.true_or
def Es:=@List.all_map
def Et:=@Nat.sub_self
def Eu:=@List.any_map
def Ex:=@Nat.pow_add
def Ey:=@Int.mul_add
set_option maxRecDepth 100000
namespace L2
open PySem PySem.Spec PyProof.Rows
abbrev Key:=Sum Int Str
def yr_:Key->Value->Bool
 |.inl k,v=>Value.isInt k v
 |.inr x,v=>Value.isStrOf x v
def keyH(w:World):Key->Int
 |.inl k=>hashInt k
 |.inr x=>hashStr w x
theorem zk_:∀{k:Key}{v:Value},yr_ k v=true->(∃i t,k=Sum.inl i/\v=Value.int i t)∨(∃x t,k=Sum.inr x/\v=Value.str x t)
 |.inl i,v,h=>by
  obtain⟨t,e⟩:=Value.isInt_shape (k:=i) (v:=v) h
  exact .inl ⟨i,t,rfl,e⟩
 |.inr x,v,h=>by
  obtain⟨t,e⟩:=Value.isStrOf_shape (x:=x) (v:=v) h
  exact .inr ⟨x,t,rfl,e⟩
theorem af1_(i:Int)(t:Tok):yr_ (.inl i) (.int i t)=true:=by simp [yr_,Value.isInt]
theorem agk_(x:Str)(t:Tok):yr_ (.inr x) (.str x t)=true:=by simp [yr_,Value.isStrOf]
theorem al5_(a b:Int):decide ((Sum.inl a:Key)=Sum.inl b)=(a==b):=by
 by_cases e:a=b
 ·subst e;simp
 ·have h:¬ (Sum.inl a:Key)=Sum.inl b:=λq=>e (Sum.inl.inj q)
  rw[decide_eq_false h]
  exact(beq_eq_false_iff_ne.mpr e).symm
theorem aof_(a b:Str):decide ((Sum.inr a:Key)=Sum.inr b)=decide (a=b):=by
 by_cases e:a=b
 ·subst e;simp
 ·have h:¬ (Sum.inr a:Key)=Sum.inr b:=λq=>e (Sum.inr.inj q)
  rw[decide_eq_false h,decide_eq_false e]
theorem am4_(a:Int)(b:Str):decide ((Sum.inl a:Key)=Sum.inr b)=false:=decide_eq_false (λq=>nomatch q)
theorem anp_(a:Str)(b:Int):decide ((Sum.inr a:Key)=Sum.inl b)=false:=decide_eq_false (λq=>nomatch q)
def q6_(prog:Program)(w:World):PySem.KeyKind prog w Key where
 is:=yr_
 hash:=keyH w
 inj:=λv a b ha hb=>by
  rcases zk_ ha with⟨i,t,rfl,rfl⟩|⟨x,t,rfl,rfl⟩
  ·rcases zk_ hb with⟨j,u,rfl,e⟩|⟨y,u,rfl,e⟩
   ·injection e with e1 _;rw[e1]
   ·exact nomatch e
  ·rcases zk_ hb with⟨j,u,rfl,e⟩|⟨y,u,rfl,e⟩
   ·exact nomatch e
   ·injection e with e1 _;rw[e1]
 byValue:=λk v h=>by
  rcases zk_ h with⟨i,t,rfl,rfl⟩|⟨x,t,rfl,rfl⟩<;>rfl
 pyHash:=λhv h=>by
  rcases zk_ hv with⟨i,t,rfl,rfl⟩|⟨x,t,rfl,rfl⟩
  ·exact wpAny_pyHash_int h
  ·exact wpAny_pyHash_str h
 eqBool:=λhu hv h=>by
  rcases zk_ hu with⟨i,t,rfl,rfl⟩|⟨x,t,rfl,rfl⟩
  ·rcases zk_ hv with⟨j,u,rfl,rfl⟩|⟨y,u,rfl,rfl⟩
   ·rw[al5_]at h;exact wpAny_eqBool_int h
   ·rw[am4_]at h;exact SeqAt.EqAt.int_str i t y u _ _ _ _ h
  ·rcases zk_ hv with⟨j,u,rfl,rfl⟩|⟨y,u,rfl,rfl⟩
   ·rw[anp_]at h;exact SeqAt.EqAt.str_int x t j u _ _ _ _ h
   ·rw[aof_]at h;exact wpAny_eqBool_str h
 «strs»:=λk x t v h=>by
  rcases zk_ h with⟨i,u,rfl,e⟩|⟨y,u,rfl,e⟩
  ·exact nomatch e
  ·injection e with e1 _
   subst e1
   cases v<;>rfl
theorem ach_(prog:Program)(w:World)(i:Int)(t:Tok):(q6_ prog w).is (.inl i) (.int i t)=true:=af1_ i t
theorem acl_(prog:Program)(w:World)(x:Str)(t:Tok):(q6_ prog w).is (.inr x) (.str x t)=true:=agk_ x t
end L2
namespace L2
open PySem PySem.Spec PyProof.Rows
inductive V where
 |non|bl (b:Bool)|int (i:Int)|str (x:Str)|byt (b:Array UInt8)|flt (b:UInt64)|ref (a:Addr)|ty (n:String)
 deriving DecidableEq
def RelV:V->Value->Prop
 |.non,u=>u=Value.none
 |.bl b,u=>u=Value.bool b
 |.int i,u=>∃t,u=Value.int i t
 |.str x,u=>∃t,u=Value.str x t
 |.byt b,u=>∃t,u=Value.bytes b t
 |.flt b,u=>∃t,u=Value.float b t
 |.ref a,u=>u=Value.ref a
 |.ty n,u=>u=Value.type n
abbrev Vals:List V->List Value->Prop:=Paired RelV
theorem Vals.length{xs:List V}{us:List Value}(r:Vals xs us):xs.length=us.length:=AL r
theorem Vals.get:∀{xs:List V}{us:List Value}{i:Nat}{x:V},Vals xs us->xs[i]?=some x->∃u,us[i]?=some u/\RelV x u
 |_,_,_,_,.nil,e=>by simp at e
 |_,_,0,_,.cons r _,e=>by simp at e;subst e;exact⟨_,rfl,r⟩
 |_,_,i+1,x,.cons _ t,e=>by
  obtain⟨u,h1,h2⟩:=Vals.get (i:=i) (x:=x) t (by simpa using e)
  exact⟨u,by simpa using h1,h2⟩
theorem Vals.set{x:V}{u:Value}(r:RelV x u):∀{xs:List V}{us:List Value}(i:Nat),Vals xs us->Vals (xs.set i x) (us.set i u)
 |_,_,_,.nil=>.nil
 |_,_,0,.cons _ t=>.cons r t
 |_,_,i+1,.cons q t=>.cons q (Vals.set r i t)
theorem Vals.append:∀{xs ys:List V}{us ws:List Value},Vals xs us->Vals ys ws->Vals (xs++ys) (us++ws)
 |_,_,_,_,.nil,s=>s
 |_,_,_,_,.cons r t,s=>.cons r (Vals.append t s)
theorem Vals.take:∀{xs:List V}{us:List Value}(n:Nat),Vals xs us->Vals (xs.take n) (us.take n)
 |_,_,0,_=>.nil
 |_,_,_+1,.nil=>.nil
 |_,_,n+1,.cons r t=>.cons r (Vals.take n t)
theorem Vals.drop:∀{xs:List V}{us:List Value}(n:Nat),Vals xs us->Vals (xs.drop n) (us.drop n)
 |_,_,0,r=>r
 |_,_,_+1,.nil=>.nil
 |_,_,n+1,.cons _ t=>Vals.drop n t
def RelO:Option V->Option Value->Prop
 |some v,some u=>RelV v u
 |none,none=>True
 |_,_=>False
def KV{κ:Type}:List (κ×V)->List (κ×Value)->Prop:=Paired λ(p:κ×V)(q:κ×Value)=>p.1=q.1/\RelV p.2 q.2
def kV:Key->V
 |.inl i=>.int i
 |.inr x=>.str x
inductive HO where
 |lst (xs:List V)
 |tup (xs:List V)
 |dK (kvs:List (Key×V))|dT (kvs:List (List Key×V))
 |set (S:Int->Bool) (n:Nat)
 |ins (C dx:Addr) (fs:List (Str×V))
 |own (x:Addr)
 |xd (fs:List (Str×V))
 |met (f x:Addr)
 |rng (lo hi:Int)
 |frz (o:Obj) (u:HO)
 |tbl (ps:Array Value)
 |ext (φ:Heap->Prop)
abbrev Hp:=Addr->Option HO
def upd(H:Hp)(a:Addr)(o:HO):Hp:=λb=>if b=a then some o else H b
theorem qc_{H:Hp}{a:Addr}{o:HO}:upd H a o a=some o:=by unfold upd;rw[if_pos rfl]
theorem qk_{H:Hp}{a b:Addr}{o:HO}(h:b≠a):upd H a o b=H b:=by unfold upd;rw[if_neg h]
theorem zA_{H:Hp}{a b:Addr}{o u:HO}(h:H a=some o)(h':H b=some u)(d:o≠u):a≠b:=by
 intro e;subst e;rw[h]at h';exact d (AW h')
theorem qq_{H:Hp}{a b:Addr}{o:HO}(h:H a=some o)(h':H b=none):a≠b:=by
 intro e;subst e;rw[h]at h';cases h'
def TupN(h:Heap)(a:Addr)(items:Array Value):Prop:=∃o,h.get? a=some o/\o.cls=.type "tuple" /\ ∃n,o.data=.seq items n/\o.dict=none
theorem TupN.tup{h:Heap}{a:Addr}{items:Array Value}(x:TupN h a items):IsTup h a items:=let ⟨o,e,c,n,d,_⟩:=x;⟨o,e,c,n,d⟩
theorem TupN.new(h:Heap)(items:Array Value):TupN (h.push { cls:=.type "tuple",data:=.seq items }) h.objs.size items:=⟨_,AM _ rfl,rfl,0,rfl,rfl⟩
section
variable(P:Program)(w:World)
def ObjOk(H:Hp)(h:Heap)(a:Addr):HO->Prop
 |.lst xs=>xs.length<=sizeLine/\∃(its:List Value)(n:Nat),Vals xs its/\h.get? a=some { cls:=.type "list",data:=.seq its.toArray n }
 |.tup xs=>xs.length<=sizeLine/\∃its:List Value,Vals xs its/\TupN h a its.toArray
 |.dK kvs=>kvs.length<=sizeLine/\(a==sysModules)=false/\∃vs,KV kvs vs/\h.DictOf (q6_ P w) a vs
 |.dT kvs=>kvs.length<=sizeLine/\(a==sysModules)=false/\∃xs:List (List Key×Addr×Value),
   Paired (λ(p:List Key×V)(q:List Key×Addr×Value)=>p.1=q.1/\H q.2.1=some (.tup (p.1.map kV))/\RelV p.2 q.2.2) kvs xs /\
   ∃o es ep,h.get? a=some o/\o.ExactDict/\o.data=.dict es ep/\es.toList=xs.map (entryOfKey (tupleKind (q6_ P w)))/\(xs.map (·.1)).Nodup
 |.set S n=>h.SetOf (intKind P w) a S n
 |.ins C dx fs=>H dx=some (.own a)/\fs.length<=1000/\dx≠a/\h.get? a=some (PySem.W.instObj C dx) /\
   ∃mA,h.Ns1 dx mA/\(∀f,RelO (fs.lookup f) (mA f))/\PySem.Within mA (fs.map (·.1))
 |.own _=>∃o,h.get? a=some o
 |.xd fs=>∃mA,h.Ns1 a mA/\∀f,RelO (fs.lookup f) (mA f)
 |.rng lo hi=>∃t u v,h.get? a=some { cls:=.type "range",data:=.fields #[.int lo t,.int hi u,.int 1 v] }
 |.frz o u=>h.get? a=some o/\ObjOk H h a u
 |.tbl ps=>h.get? a=some { cls:=.none,data:=.fields ps }
 |.met f x=>h.get? a=some (PySem.W.methodObj (.ref f) (.ref x))
 |.ext φ=>φ h/\(∃o,h.get? a=some o)/\∀h1 h2:Heap,φ h1->(∀o,h1.get? a=some o->h2.get? a=some o)->φ h2
def HOk(H:Hp)(h:Heap):Prop:=∀a o,H a=some o->ObjOk P w H h a o
end
section
variable{P:Program}{w:World}{H H':Hp}{h h':Heap}{a:Addr}{o:HO}
theorem ObjOk.lt(x:ObjOk P w H h a o):a<h.objs.size:=by
 cases o with
 |lst xs=>obtain⟨_,_,_,_,e⟩:=x;exact AI e
 |tup xs=>obtain⟨_,_,_,p⟩:=x;exact p.tup.lt
 |dK kvs=>obtain⟨_,_,_,_,o,_,_,e,_⟩:=x;exact AI e
 |dT kvs=>obtain⟨_,_,_,_,o,_,_,e,_⟩:=x;exact AI e
 |set S n=>obtain⟨o,_,_,_,e,_⟩:=x;exact AI e
 |ins C dx fs=>obtain⟨_,_,_,e,_⟩:=x;exact AI e
 |own y=>obtain⟨_,e⟩:=x;exact AI e
 |xd fs=>obtain⟨_,⟨_,_,_,e,_⟩,_⟩:=x;exact AI e
 |rng lo hi=>obtain⟨_,_,_,e⟩:=x;exact AI e
 |frz ob u=>obtain⟨e,_⟩:=x;exact AI e
 |tbl ps=>exact AI (show h.get? a=some _ from x)
 |met f y=>exact AI (show h.get? a=some _ from x)
 |ext φ=>obtain⟨_,⟨_,e⟩,_⟩:=x;exact AI e
theorem Paired.mapP{α β:Type}{F G:α->β->Prop}:∀{l₁:List α}{l₂:List β},Paired F l₁ l₂->(∀a b,F a b->G a b)->Paired G l₁ l₂
 |_,_,.nil,_=>.nil
 |_,_,.cons r t,f=>.cons (f _ _ r) (Paired.mapP t f)
theorem ObjOk.stay(x:ObjOk P w H h a o)(k:∀b u,(b=a∨H b=some (.own a))->h.get? b=some u->h'.get? b=some u)
  (ho:∀b,H b=some (.own a)->H' b=some (.own a)) (ht:∀b xs,H b=some (.tup xs)->H' b=some (.tup xs)):ObjOk P w H' h' a o:=by
 induction o with
 |lst xs=>obtain⟨z,its,n,r,e⟩:=x;exact⟨z,its,n,r,k _ _ (.inl rfl) e⟩
 |tup xs=>obtain⟨z,its,r,ob,e,c⟩:=x;exact⟨z,its,r,ob,k _ _ (.inl rfl) e,c⟩
 |dK kvs=>obtain⟨z,y,vs,r,ob,es,ep,e,c⟩:=x;exact⟨z,y,vs,r,ob,es,ep,k _ _ (.inl rfl) e,c⟩
 |dT kvs =>
  obtain⟨z,y,xs,r,ob,es,ep,e,c⟩:=x
  exact⟨z,y,xs,Paired.mapP r λp q z=>⟨z.1,ht _ _ z.2.1,z.2.2⟩,ob,es,ep,k _ _ (.inl rfl) e,c⟩
 |set S n=>obtain⟨ob,es,ep,t,e,c⟩:=x;exact⟨ob,es,ep,t,k _ _ (.inl rfl) e,c⟩
 |ins C dx fs =>
  obtain⟨d,z,ne,e,mA,⟨od,es,ep,e2,c⟩,r⟩:=x
  exact⟨ho _ d,z,ne,k _ _ (.inl rfl) e,mA,⟨od,es,ep,k _ _ (.inr d) e2,c⟩,r⟩
 |own y=>obtain⟨ob,e⟩:=x;exact⟨ob,k _ _ (.inl rfl) e⟩
 |xd fs=>obtain⟨mA,⟨od,es,ep,e,c⟩,r⟩:=x;exact⟨mA,⟨od,es,ep,k _ _ (.inl rfl) e,c⟩,r⟩
 |rng lo hi=>obtain⟨t,u,v,e⟩:=x;exact⟨t,u,v,k _ _ (.inl rfl) e⟩
 |frz ob u ih=>obtain⟨e,q⟩:=x;exact⟨k _ _ (.inl rfl) e,ih q⟩
 |tbl ps =>
  have e:h.get? a=some { cls:=.none,data:=.fields ps }:=x
  show h'.get? a=some { cls:=.none,data:=.fields ps }
  exact k a _ (.inl rfl) e
 |met f y =>
  have e:h.get? a=some (PySem.W.methodObj (.ref f) (.ref y)):=x
  show h'.get? a=some (PySem.W.methodObj (.ref f) (.ref y))
  exact k a _ (.inl rfl) e
 |ext φ=>obtain⟨p,⟨o,e⟩,st⟩:=x;exact⟨st _ _ p λo q=>k _ _ (.inl rfl) q,⟨o,k _ _ (.inl rfl) e⟩,st⟩
theorem HOk.lt(x:HOk P w H h)(e:H a=some o):a<h.objs.size:=(x a o e).lt
theorem HOk.fresh(x:HOk P w H h)(e:h.objs.size<=a):H a=none:=by
 cases q:H a with
 |none=>rfl
 |some u=>exact absurd (Ac (x.lt q) e) (BX _)
theorem HOk.kept(x:HOk P w H h)(k:∀b u,h.get? b=some u->h'.get? b=some u):HOk P w H h':=λa o e =>
 (x a o e).stay (λb u _ q=>k b u q) (λ_ q=>q) λ_ _ q=>q
theorem HOk.laid(x:HOk P w H h)(k:∀b u,h.get? b=some u->h'.get? b=some u)(hp:h.objs.size<=a)(new:ObjOk P w (upd H a o) h' a o):HOk P w (upd H a o) h':=λb u e=>by
 have hn:=x.fresh hp
 by_cases hb:b=a
 ·subst hb;rw[qc_]at e;cases e;exact new
 ·rw[qk_ hb]at e
  exact(x b u e).stay (λc v _ q=>k c v q) (λc q=>by rw[qk_ (qq_ q hn)];exact q) λc xs q=>by rw[qk_ (qq_ q hn)];exact q
end
def Rd(H:Hp)(a:Addr)(u:HO):Prop:=H a=some u∨∃o,H a=some (.frz o u)
theorem Rd.of{H:Hp}{a:Addr}{u:HO}(h:H a=some u):Rd H a u:=.inl h
theorem Rd.ok{P:Program}{w:World}{H:Hp}{h:Heap}{a:Addr}{u:HO}(r:Rd H a u)(x:HOk P w H h):ObjOk P w H h a u:=by
 rcases r with r|⟨o,r⟩
 ·exact x a u r
 ·obtain⟨_,q⟩:=x a _ r
  exact q
def Mut:Option HO->Prop
 |some (.lst _)=>True
 |some (.dK _)=>True
 |some (.dT _)=>True
 |some (.set _ _)=>True
 |some (.ins _ _ _)=>True
 |some (.ext _)=>True
 |_=>False
section
variable{P:Program}{w:World}{H:Hp}{h h':Heap}{x e:Addr}{o':HO}
theorem HOk.write(ok:HOk P w H h)(mu:Mut (H x))(he:e=x∨H e=some (.own x))(k:∀b u,b≠e->h.get? b=some u->h'.get? b=some u)(heo:∃u,h'.get? e=some u)
  (new:ObjOk P w (upd H x o') h' x o'):HOk P w (upd H x o') h':=λb u q=>by
 have nown:∀c y,H c=some (.own y)->c≠x:=λc y r z=>by subst z;rw[r]at mu;exact mu
 have ntup:∀c xs,H c=some (.tup xs)->c≠x:=λc xs r z=>by subst z;rw[r]at mu;exact mu
 by_cases hb:b=x
 ·subst hb;rw[qc_]at q;cases q;exact new
 ·rw[qk_ hb]at q
  by_cases hbe:b=e
  ·have q':H b=some (.own x):=by
    rcases he with z|z
    ·exact absurd (hbe.trans z) hb
    ·rw[hbe];exact z
   rw[q]at q';cases q'
   obtain⟨v,hv⟩:=heo
   exact⟨v,by rw[hbe];exact hv⟩
  ·refine(ok b u q).stay (λc v hc r=>k c v ?_ r) (λc r=>by rw[qk_ (nown c b r)];exact r) λc xs r=>by rw[qk_ (ntup c xs r)];exact r
   rcases hc with rfl|hc
   ·exact hbe
   ·rintro rfl
    rcases he with z|z
    ·exact nown c b hc z
    ·rw[hc]at z;cases z;exact hb rfl
end
structure Un(fs ex:List Addr)(H H':Hp)(h h':Heap):Prop where
 keep:∀b o,h.get? b=some o->H b=none->b∉fs->b∉ex->h'.get? b=some o
 slot:∀b o,h.get? b=some o->H b=none->b∈fs->b∉ex->∃sl,h'.get? b=some { o with slots:=sl }
 free:∀b o,h.get? b=some o->H b=none->b∉ex->H' b=none
 there:∀b o,h.get? b=some o->b∉ex->∃o',h'.get? b=some o'
 tups:∀b xs,H b=some (.tup xs)->H' b=some (.tup xs)
 frzs:∀b o u,H b=some (.frz o u)->H' b=some (.frz o u)
 tbls:∀b ps,H b=some (.tbl ps)->∃more,H' b=some (.tbl (ps++more))
section
variable{fs fs' ex ex':List Addr}{H H1 H2:Hp}{h h1 h2 h':Heap}{a x e:Addr}{o:HO}
theorem Un.any(u:Un fs ex H H1 h h1){b:Addr}{ob:Obj}(q:h.get? b=some ob)(n:H b=none)(hx:b∉ex):∃sl,h1.get? b=some { ob with slots:=sl }:=by
 by_cases hb:b∈fs
 ·exact u.slot b ob q n hb hx
 ·exact⟨ob.slots,u.keep b ob q n hb hx⟩
theorem Un.trans(a:Un fs ex H H1 h h1)(b:Un fs ex H1 H2 h1 h2):Un fs ex H H2 h h2 where
 keep:=λc ob q n hc hx=>b.keep c ob (a.keep c ob q n hc hx) (a.free c ob q n hx) hc hx
 slot:=λc ob q n hc hx=>by
  obtain⟨sl,e1⟩:=a.slot c ob q n hc hx
  obtain⟨sl',e2⟩:=b.slot c _ e1 (a.free c ob q n hx) hc hx
  exact⟨sl',e2⟩
 free:=λc ob q n hx=>by
  obtain⟨o',e1⟩:=a.there c ob q hx
  exact b.free c o' e1 (a.free c ob q n hx) hx
 there:=λc ob q hx=>by
  obtain⟨o',e1⟩:=a.there c ob q hx
  exact b.there c o' e1 hx
 tups:=λc xs q=>b.tups c xs (a.tups c xs q)
 frzs:=λc ob xs q=>b.frzs c ob xs (a.frzs c ob xs q)
 tbls:=λc ps q=>by
  obtain⟨m1,e1⟩:=a.tbls c ps q
  obtain⟨m2,e2⟩:=b.tbls c _ e1
  exact⟨m1++m2,by rw[e2,Array.append_assoc]⟩
theorem Un.kept(k:∀b u,h.get? b=some u->h'.get? b=some u):Un fs ex H H h h' :=
 ⟨λb ob q _ _ _=>k b ob q,λb ob q _ _ _=>⟨ob.slots,k b ob q⟩,λ_ _ _ n _=>n,λb ob q _=>⟨ob,k b ob q⟩,λ_ _ q=>q,λ_ _ _ q=>q,λ_ ps q=>⟨#[],by rw[q];simp⟩⟩
theorem Un.refl:Un fs ex H H h h:=Un.kept λ_ _ q=>q
theorem Un.laid(k:∀b u,h.get? b=some u->h'.get? b=some u)(hp:h.objs.size<=a)(hn:H a=none):Un fs ex H (upd H a o) h h' where
 keep:=λb u q _ _ _=>k b u q
 slot:=λb u q _ _ _=>⟨u.slots,k b u q⟩
 free:=λb u q n _=>by rw[qk_ (Ag (Ac (AI q) hp))];exact n
 there:=λb u q _=>⟨u,k b u q⟩
 tups:=λb xs q=>by rw[qk_ (qq_ q hn)];exact q
 frzs:=λb u xs q=>by rw[qk_ (qq_ q hn)];exact q
 tbls:=λb ps q=>⟨#[],by rw[qk_ (qq_ q hn),q];simp⟩
theorem Un.write(mu:Mut (H x))(he:e=x∨H e=some (.own x))(k:∀b u,b≠e->h.get? b=some u->h'.get? b=some u)(heo:∃u,h'.get? e=some u):Un fs ex H (upd H x o) h h':=by
 have hx:∀b,H b=none->b≠x:=λb n z=>by subst z;rw[n]at mu;exact mu
 have hb:∀b,H b=none->b≠e:=λb n z=>by
  subst z
  rcases he with r|r
  ·exact hx b n r
  ·rw[n]at r;cases r
 have hm:∀b u,H b=some u->¬ Mut (some u)->b≠x:=λb u q nm z=>by subst z;rw[q]at mu;exact nm mu
 refine⟨λb u q n _ _=>k b u (hb b n) q,λb u q n _ _=>⟨u.slots,k b u (hb b n) q⟩,λb u q n _=>by rw[qk_ (hx b n)];exact n,λb u q _=>?_,
  λb xs q=>by rw[qk_ (hm b _ q λz=>z)];exact q,λb u xs q=>by rw[qk_ (hm b _ q λz=>z)];exact q,λb ps q=>⟨#[],by rw[qk_ (hm b _ q λz=>z),q];simp⟩⟩
 by_cases hbe:b=e
 ·subst hbe;exact heo
 ·exact⟨u,k b u hbe q⟩
theorem Un.mono(u:Un fs ex H H1 h h1)(hs:∀b∈fs,b∈fs')(hx:∀b∈ex,b∈ex'):Un fs' ex' H H1 h h1 :=
 ⟨λb ob q n hb he=>u.keep b ob q n (λz=>hb (hs b z)) λz=>he (hx b z),λ_ _ q n _ he=>u.any q n λz=>he (hx _ z),λb ob q n he=>u.free b ob q n λz=>he (hx b z),λb ob q he=>u.there b ob q λz=>he (hx b z),u.tups,u.frzs,u.tbls⟩
end
def trk(h:Heap)(H:Hp):List Addr:=(List.range h.objs.size).filter λa=>(H a).isSome
def x9_(h:Heap)(H:Hp):Heap:=PySem.W.hideAll h (trk h H)
theorem afs_(h:Heap)(H:Hp):(x9_ h H).objs.size=h.objs.size:=PySem.W.hideAll_size _ _
theorem aix_{h:Heap}{H:Hp}{b:Addr}{o:Obj}(e:h.get? b=some o)(n:H b=none):(x9_ h H).get? b=some o :=
 DT _ e λhm=>by
  have q:(H b).isSome=true:=(Bq.mp hm).2
  rw[n]at q;simp at q
theorem akn_{h:Heap}{H:Hp}{b:Addr}{o:Obj}(e:(x9_ h H).get? b=some o):h.get? b=some o/\H b=none:=by
 have e':h.get? b=some o:=DY (trk h H) e
 refine⟨e',?_⟩
 cases q:H b with
 |none=>rfl
 |some x =>
  have hm:b∈trk h H:=Bq.mpr ⟨BH.mpr (AI e'),by simp [q]⟩
  have z:(x9_ h H).get? b=none:=PySem.W.hideAll_none (trk h H) hm
  rw[z]at e;cases e
def alk_(g h:Heap)(L:Addr):List (Addr×Obj):=(List.range h.objs.size).filterMap λa=>if a=L∨(g.get? a).isSome=true then none else (h.get? a).map λo=>(a,o)
def z6_(g h:Heap)(L d:Addr):List (Addr×Obj):=(alk_ g h L).filter λp=>decide (p.1≠d)
end L2
namespace L2
open PySem PySem.Spec PyProof.Rows
structure Mod(K:PySem.W.Frag)(mg:Str->Option Value)(base:Heap):Prop where
 kin:K.In base
 glob:base.Ns mainGlobals mg
 blt:∃mb,base.Ns builtinsNs mb/\∀x:Str,x ≠ "__name__" -> mb x=bootBuiltins x
 nolimit:base.NoLimit
structure Cx where
 prog:Program
 w:World
 K:PySem.W.Frag
 mg:Str->Option Value
 base:Heap
 A:Around
 N:List Str
 s₀:Shared
 H₀:Hp
 env:Env
 outer:List Env
 stack:List Env
 ex:List Addr
 fn:Str->Bool
 calm:Bool
 pn:List (Addr×Obj)
 xe:Value->Shared->Prop
def frs(l:List Env):List Addr:=l.filterMap (·.frame)
abbrev Cx.fs(X:Cx):List Addr:=frs X.outer
def Vis(sc:Scope)(x:Str):Prop:=sc.names.lookup x=some .local∨sc.names.lookup x=some .cell∨sc.names.lookup x=some .free
def Loc(sc:Scope)(x:Str):Prop:=sc.names.lookup x=some .local∨sc.names.lookup x=some .cell
def Look(env:Env)(h:Heap)(m:Str->Option Value)(x:Str)(u:Value):Prop :=
 (env.kindOf x=some .local/\m x=some u)∨((env.kindOf x=some .cell∨env.kindOf x=some .free)/\∃c,env.cells.lookup x=some c/\h.IsCell c (some u))
structure Cx.Ok(X:Cx):Prop where
 mod:Mod X.K X.mg X.base
 kind:X.env.scope.kind=.function
 glob:X.env.globals=mainGlobals
 blt:X.env.builtins=builtinsNs
 above:X.s₀.heap.objs.size<=X.env.locals
 inj:∀x y c,X.env.cells.lookup x=some c->X.env.cells.lookup y=some c->x=y
 has:∀x,(X.env.kindOf x=some .cell∨X.env.kindOf x=some .free)->∃c,X.env.cells.lookup x=some c
 cab:∀x c,X.fn x=true->X.env.cells.lookup x=some c->X.s₀.heap.objs.size<=c
 hd:X.calm=true->X.A.handled=none
 frames:X.A.frames=some X.stack
 stk:X.stack=X.outer∨(X.stack=X.env::X.outer/\X.env.frame=some X.env.locals)
 exf:∀b∈X.ex,b≠X.env.locals/\∀x c,X.env.cells.lookup x=some c->c≠b
 bs:∀b o,X.base.get? b=some o->X.s₀.heap.get? b=some o/\X.H₀ b=none
 bsz:X.base.objs.size<=X.s₀.heap.objs.size
 noex:∀b o,X.base.get? b=some o->b∉X.ex
 exfs:∀b∈X.ex,b∉X.fs
 funs:X.s₀.heap.FunFrames X.base X.outer
 frf:∀b∈X.fs,X.H₀ b=none
structure Inv(X:Cx)(pins:List (Addr×Obj))(σ:List (Option V))(H:Hp)(s:Shared):Prop where
 ok:X.Ok
 os:s.os=X.s₀.os
 bare:AllBare s.gens
 base:Un X.fs X.ex X.H₀ H X.s₀.heap s.heap
 loc:∃m,s.heap.Ns X.env.locals m/\∀(i:Nat)(x:Str)(v:V),X.N[i]?=some x->σ[i]?=some (some v)->Vis X.env.scope x->∃u,RelV v u/\Look X.env s.heap m x u
 cell:∀x c,X.env.cells.lookup x=some c->∃v,s.heap.IsCell c v
 free:H X.env.locals=none
 freeC:∀x c,X.env.cells.lookup x=some c->H c=none
 pin:∀p∈X.pn++pins,s.heap.get? p.1=some p.2/\H p.1=none/\p.1≠X.env.locals/\p.1∉X.fs/\∀v,p.2.data≠.cell v
 hok:HOk X.prog X.w H s.heap
 len:σ.length=X.N.length
section
variable{X:Cx}{pins:List (Addr×Obj)}{σ:List (Option V)}{H H':Hp}{s:Shared}{h':Heap}
theorem Cx.Ok.nofr(ok:X.Ok){b:Addr}{o:Obj}(e:X.base.get? b=some o):b∉X.fs:=λhb=>by
 have:=(ok.funs.mem hb).1
 rw[e]at this;cases this
theorem Inv.bs(I:Inv X pins σ H s):∀b o,X.base.get? b=some o->s.heap.get? b=some o/\H b=none:=λb o e =>
 ⟨I.base.keep b o (I.ok.bs b o e).1 (I.ok.bs b o e).2 (I.ok.nofr e) (I.ok.noex b o e),I.base.free b o (I.ok.bs b o e).1 (I.ok.bs b o e).2 (I.ok.noex b o e)⟩
theorem Inv.bk(I:Inv X pins σ H s):∀b o,X.base.get? b=some o->s.heap.get? b=some o:=λb o e=>(I.bs b o e).1
theorem Inv.mod(I:Inv X pins σ H s):Mod X.K X.mg X.base:=I.ok.mod
theorem Inv.kIn(I:Inv X pins σ H s):X.K.In s.heap:=I.ok.mod.kin.keeps I.bk
theorem Inv.nolimit(I:Inv X pins σ H s):s.heap.NoLimit:=I.ok.mod.nolimit.keeps I.bk
theorem Inv.lt(I:Inv X pins σ H s):X.env.locals<s.heap.objs.size:=let ⟨_,hn,_⟩:=I.loc;hn.lt
theorem Inv.sz(I:Inv X pins σ H s):X.s₀.heap.objs.size<=s.heap.objs.size:=Aj I.ok.above (Bj I.lt)
theorem Inv.nofs(I:Inv X pins σ H s){a:Addr}(h:s.heap.objs.size<=a):a∉X.fs:=λhb=>by
 obtain⟨_,o,ho,_⟩:=I.ok.funs.mem hb
 exact absurd (Ac (AI ho) (Aj I.sz h)) (BX _)
theorem Inv.cne(I:Inv X pins σ H s):∀x c,X.env.cells.lookup x=some c->c≠X.env.locals:=λx c e z=>by
 obtain⟨v,o,ho,hd⟩:=I.cell x c e
 obtain⟨m,⟨o',es,ep,ho',hd',_⟩,_⟩:=I.loc
 rw[z,ho']at ho;cases ho;rw[hd']at hd;cases hd
theorem Inv.funs(I:Inv X pins σ H s):s.heap.FunFrames X.base X.outer:=by
 have all:∀(l:List Env),(∀b∈frs l,b∈X.fs)->X.s₀.heap.FunFrames X.base l->s.heap.FunFrames X.base l:=by
  intro l
  induction l with
  |nil=>intro _ _;trivial
  |cons env r ih =>
   intro hs hl
   obtain⟨hk,⟨L,o,hf,hn,ho,hd⟩,hr⟩:=hl
   have hL:L∈X.fs:=hs L (by unfold frs;rw[Bg,hf];exact AD)
   obtain⟨sl,e⟩:=I.base.slot L o ho (I.ok.frf L hL) hL λz=>I.ok.exfs L z hL
   exact⟨hk,⟨L,_,hf,hn,e,hd⟩,ih (λb hb=>hs b (by unfold frs;rw[Bg,hf];exact AC _ hb)) hr⟩
 exact all X.outer (λ_ hb=>hb) I.ok.funs
theorem Inv.stack(I:Inv X pins σ H s):s.heap.FunFrames X.base X.stack:=by
 rcases I.ok.stk with e|⟨e,hf⟩
 ·rw[e];exact I.funs
 ·rw[e]
  obtain⟨m,hn,_⟩:=I.loc
  refine .cons (by rw[I.ok.kind];decide) hf hn ?_ I.funs
  exact Heap.get?_none_of_le (Aj I.ok.bsz I.ok.above)
theorem Inv.stkSub(I:Inv X pins σ H s):∀b∈frs X.stack,b∈X.env.locals::X.fs:=λb hb=>by
 rcases I.ok.stk with e|⟨e,hf⟩
 ·rw[e]at hb;exact AC _ hb
 ·rw[e]at hb
  unfold frs at hb
  rw[Bg,hf]at hb
  exact hb
theorem Inv.stkFree(I:Inv X pins σ H s):∀b∈frs X.stack,H b=none:=λb hb=>by
 rcases AJ.mp (I.stkSub b hb) with e|hb
 ·rw[e];exact I.free
 ·obtain⟨_,o,ho,_⟩:=I.ok.funs.mem hb
  exact I.base.free b o ho (I.ok.frf b hb) λz=>I.ok.exfs b z hb
theorem Inv.step{g':Array GenState}{t':Nat}{d':Drawn}{ch:List Addr}(I:Inv X pins σ H s)
  (hch:∀b∈ch,(b∈X.ex∨X.s₀.heap.objs.size<=b)/\b≠X.env.locals/\(∀x c,X.env.cells.lookup x=some c->c≠b)/\∀p∈X.pn++pins,p.1≠b)
  (keep:∀b o,b≠X.env.locals->b∉X.fs->b∉ch->s.heap.get? b=some o->H b=none->h'.get? b=some o)
  (slot:∀b o,b≠X.env.locals->b∈X.fs->b∉ch->s.heap.get? b=some o->H b=none->∃sl,h'.get? b=some { o with slots:=sl }) (free:∀b o,b∉ch->s.heap.get? b=some o->H b=none->H' b=none)
  (there:∀b o,b∉ch->s.heap.get? b=some o->∃o',h'.get? b=some o')
  (tups:∀b xs,H b=some (.tup xs)->H' b=some (.tup xs)) (frzs:∀b o u,H b=some (.frz o u)->H' b=some (.frz o u)) (tbls:∀b ps,H b=some (.tbl ps)->∃more,H' b=some (.tbl (ps++more)))
  (ns:∀m,s.heap.Ns X.env.locals m->h'.Ns X.env.locals m) (hok:HOk X.prog X.w H' h') (hg:AllBare g') :
  Inv X pins σ H' { s with heap:=h',gens:=g',drawn:=d',toks:=t' }:=by
 have neL:∀b o,X.s₀.heap.get? b=some o->b≠X.env.locals:=λb o e=>Ag (Ac (AI e) I.ok.above)
 have neC:∀b o,X.s₀.heap.get? b=some o->b∉X.ex->b∉ch:=λb o e hx hb=>by
  rcases (hch b hb).1 with z|z
  ·exact hx z
  ·exact absurd (Ac (AI e) z) (BX _)
 have cellK:∀x c,X.env.cells.lookup x=some c->∀v,s.heap.IsCell c v->h'.IsCell c v:=λx c e v ⟨o,ho,hd⟩=>by
  have nch:c∉ch:=λz=>(hch c z).2.2.1 x c e rfl
  by_cases hc:c∈X.fs
  ·obtain⟨sl,q⟩:=slot c o (I.cne x c e) hc nch ho (I.freeC x c e)
   exact⟨_,q,hd⟩
  ·exact⟨o,keep c o (I.cne x c e) hc nch ho (I.freeC x c e),hd⟩
 refine⟨I.ok,I.os,hg,⟨λb o e n hb hx=>?_,λb o e n hb hx=>?_,λb o e n hx=>?_,λb o e hx=>?_,λb xs e=>tups b xs (I.base.tups b xs e),λb o xs e=>frzs b o xs (I.base.frzs b o xs e),λb ps e=>?_⟩,?_,λx c e=>?_,?_,λx c e=>?_,λp hp=>?_,hok,I.len⟩
 ·exact keep b o (neL b o e) hb (neC b o e hx) (I.base.keep b o e n hb hx) (I.base.free b o e n hx)
 ·obtain⟨sl,e1⟩:=I.base.slot b o e n hb hx
  obtain⟨sl',e2⟩:=slot b _ (neL b o e) hb (neC b o e hx) e1 (I.base.free b o e n hx)
  exact⟨sl',e2⟩
 ·obtain⟨o',e1⟩:=I.base.there b o e hx
  exact free b o' (neC b o e hx) e1 (I.base.free b o e n hx)
 ·obtain⟨o',e1⟩:=I.base.there b o e hx
  exact there b o' (neC b o e hx) e1
 ·obtain⟨m1,e1⟩:=I.base.tbls b ps e
  obtain⟨m2,e2⟩:=tbls b _ e1
  exact⟨m1++m2,by rw[e2,Array.append_assoc]⟩
 ·obtain⟨m,hn,hl⟩:=I.loc
  refine⟨m,ns m hn,λi x v e1 e2 e3=>?_⟩
  obtain⟨u,r,l⟩:=hl i x v e1 e2 e3
  refine⟨u,r,?_⟩
  rcases l with l|⟨k,c,e,z⟩
  ·exact .inl l
  ·exact .inr ⟨k,c,e,cellK x c e _ z⟩
 ·obtain⟨v,z⟩:=I.cell x c e
  exact⟨v,cellK x c e v z⟩
 ·obtain⟨m,⟨o,_,_,ho,_⟩,_⟩:=I.loc
  exact free _ o (λz=>(hch _ z).2.1 rfl) ho I.free
 ·obtain⟨v,o,ho,hd⟩:=I.cell x c e
  exact free c o (λz=>(hch c z).2.2.1 x c e rfl) ho (I.freeC x c e)
 ·obtain⟨e,n,ne,nf,d⟩:=I.pin p hp
  have nch:p.1∉ch:=λz=>(hch p.1 z).2.2.2 p hp rfl
  exact⟨keep p.1 p.2 ne nf nch e n,free p.1 p.2 nch e n,ne,nf,d⟩
theorem Inv.un{t':Nat}(I:Inv X pins σ H s)(u:Un X.fs [] H H' s.heap h')(hok:HOk X.prog X.w H' h'):Inv X pins σ H' { s with heap:=h',toks:=t' }:=by
 obtain⟨m,⟨o,es,ep,ho,r⟩,_⟩:=id I.loc
 obtain⟨sl,hL⟩:=u.any ho I.free (by simp)
 exact I.step (g':=s.gens) (d':=s.drawn) (ch:=[]) (λ_ z=>nomatch z) (λb o _ hb _ e n=>u.keep b o e n hb (by simp)) (λb o _ hb _ e n=>u.slot b o e n hb (by simp)) (λb o _ e n=>u.free b o e n (by simp)) (λb o _ e=>u.there b o e (by simp)) u.tups u.frzs u.tbls (λm' hm=>by
  obtain⟨o',es',ep',ho',r'⟩:=hm
  rw[ho]at ho';cases ho'
  exact⟨_,es',ep',hL,r'⟩) hok I.bare
theorem Inv.call{g':Array GenState}{t':Nat}{d':Drawn}{ch:List Addr}(I:Inv X pins σ H s)(u:Un (frs X.stack) ch H H' s.heap h')(hok:HOk X.prog X.w H' h')(hg:AllBare g')
  (hch:∀b∈ch,(b∈X.ex∨X.s₀.heap.objs.size<=b)/\b≠X.env.locals/\(∀x c,X.env.cells.lookup x=some c->c≠b)/\∀p∈X.pn++pins,p.1≠b) :
  Inv X pins σ H' { s with heap:=h',gens:=g',drawn:=d',toks:=t' }:=by
 obtain⟨m,⟨o,es,ep,ho,r⟩,_⟩:=id I.loc
 obtain⟨sl,hL⟩:=u.any ho I.free λz=>(hch _ z).2.1 rfl
 exact I.step (ch:=ch) hch (λb o hL hb hc e n=>u.keep b o e n (λz=>(AJ.mp (I.stkSub b z)).elim hL hb) hc) (λb o _ _ hc e n=>u.any e n hc) (λb o hc e n=>u.free b o e n hc) (λb o hc e=>u.there b o e hc) u.tups u.frzs u.tbls (λm' hm=>by
  obtain⟨o',es',ep',ho',r'⟩:=hm
  rw[ho]at ho';cases ho'
  exact⟨_,es',ep',hL,r'⟩) hok hg
theorem Inv.turned{t':Nat}{it:Addr}(I:Inv X pins σ H s)(k:∀b o,b≠it->s.heap.get? b=some o->h'.get? b=some o)(hn:H it=none)(hL:it≠X.env.locals)
  (h1:it∈X.ex∨X.s₀.heap.objs.size<=it) (h2:∀x c,X.env.cells.lookup x=some c->c≠it) (h3:∀p∈X.pn++pins,p.1≠it):Inv X pins σ H { s with heap:=h',toks:=t' }:=by
 have nit:∀b u,H b=some u->b≠it:=λb u e z=>by rw[z,hn]at e;cases e
 refine I.step (g':=s.gens) (d':=s.drawn) (ch:=[it]) (λb hb=>?_) (λb o _ _ hc e _=>k b o (λz=>hc (by simp [z])) e) (λb o _ _ hc e _=>⟨o.slots,k b o (λz=>hc (by simp [z])) e⟩) (λ_ _ _ _ n=>n)
  (λb o hc e=>⟨o,k b o (λz=>hc (by simp [z])) e⟩) (λ_ _ e=>e) (λ_ _ _ e=>e) (λb ps e=>⟨#[],by rw[e];simp⟩) (λm hm=>?_) (λb u e=>?_) I.bare
 ·have e:b=it:=by simpa using hb
  subst e
  exact⟨h1,hL,h2,h3⟩
 ·obtain⟨o,es,ep,ho,r⟩:=hm
  exact⟨o,es,ep,k _ o (B2 hL) ho,r⟩
 ·refine(I.hok b u e).stay (λc v hc q=>k c v ?_ q) (λ_ q=>q) λ_ _ q=>q
  rcases hc with z|z
  ·rw[z];exact nit b u e
  ·exact nit c _ z
theorem Inv.tok(I:Inv X pins σ H s)(t:Nat):Inv X pins σ H { s with toks:=t }:=I.un (h':=s.heap) (t':=t) Un.refl I.hok
theorem Inv.kept{t':Nat}(I:Inv X pins σ H s)(k:∀b u,s.heap.get? b=some u->h'.get? b=some u):Inv X pins σ H { s with heap:=h',toks:=t' }:=I.un (Un.kept k) (I.hok.kept k)
theorem Inv.laid{a:Addr}{o:HO}{t':Nat}(I:Inv X pins σ H s)(k:∀b u,s.heap.get? b=some u->h'.get? b=some u)(hp:s.heap.objs.size<=a)(new:ObjOk X.prog X.w (upd H a o) h' a o) :
  Inv X pins σ (upd H a o) { s with heap:=h',toks:=t' }:=I.un (Un.laid k hp (I.hok.fresh hp)) (I.hok.laid k hp new)
theorem Inv.write{x e:Addr}{o:HO}{t':Nat}(I:Inv X pins σ H s)(mu:Mut (H x))(he:e=x∨H e=some (.own x))(k:∀b u,b≠e->s.heap.get? b=some u->h'.get? b=some u)(heo:∃u,h'.get? e=some u)
  (new:ObjOk X.prog X.w (upd H x o) h' x o):Inv X pins σ (upd H x o) { s with heap:=h',toks:=t' }:=I.un (Un.write mu he k heo) (I.hok.write mu he k heo new)
theorem Inv.pins_of{pins':List (Addr×Obj)}(I:Inv X pins σ H s)(h:∀p∈pins',s.heap.get? p.1=some p.2/\H p.1=none/\p.1≠X.env.locals/\p.1∉X.fs/\∀v,p.2.data≠.cell v):Inv X pins' σ H s :=
 ⟨I.ok,I.os,I.bare,I.base,I.loc,I.cell,I.free,I.freeC,λp hp=>(Ak.mp hp).elim (λz=>I.pin p (Aw _ z)) (h p),I.hok,I.len⟩
theorem yP_{N:List Str}(hN:N.Nodup){i j:Nat}{x:Str}(a:N[i]?=some x)(b:N[j]?=some x):i=j:=by
 obtain⟨h1,e1⟩:=AR.mp a
 obtain⟨h2,e2⟩:=AR.mp b
 exact(List.getElem_inj hN).mp (e1.trans e2.symm)
theorem vT_{M:Model}{A:Around}{E:Value->Shared->Prop}{i:Nat}{x:Str}{v:V}{u:Value}{Q:Unit->Shared->Prop}(I:Inv X pins σ H s)(hN:X.N.Nodup)(hi:X.N[i]?=some x)(hx:Loc X.env.scope x)(r:RelV v u)
  (h:∀s',Inv X pins (σ.set i (some v)) H s'->(∃a,Heap.SameBut a s.heap s'.heap/\(a=X.env.locals∨X.env.cells.lookup x=some a))->Q () s') (hf:X.fn x=true∨X.env.scope.names.lookup x=some .local:=by first|exact .inl rfl|exact .inr rfl|assumption):wpAny M A (storeName X.env x u) Q E s:=by
 obtain⟨m,hn,hl⟩:=id I.loc
 have hcls:(X.env.scope.kind==.class||(X.env.scope.kind==.module&&X.env.locals != X.env.globals))=false:=by rw[I.ok.kind];rfl
 have hiσ:i<σ.length:=by rw[I.len];exact(AR.mp hi).1
 have cne:=I.cne
 have tracked:∀{a:Addr}{h':Heap},(∃o,s.heap.get? a=some o/\H a=none)->Heap.SameBut a s.heap h'->HOk X.prog X.w H h':=λ{a h'} ha hs b ob e=>by
  obtain⟨_,_,hfree⟩:=ha
  refine(I.hok b ob e).stay (λc w' hc q=>(hs.2 c ?_).trans q) (λ_ q=>q) λ_ _ q=>q
  rintro rfl
  rcases hc with rfl|hc
  ·rw[hfree]at e;cases e
  ·rw[hfree]at hc;cases hc
 rcases hx with hk|hk
 ·refine wpAny_storeName_local hk hn (λh' hn' hs=>?_) hcls
  obtain⟨oL,_,_,hoL,_⟩:=id hn
  refine h _ ⟨I.ok,I.os,I.bare,⟨λb o e n hb hx=>?_,λb o e n hb hx=>?_,I.base.free,λb o e hx=>?_,I.base.tups,I.base.frzs,I.base.tbls⟩,⟨_,hn',λj y v' e1 e2 e3=>?_⟩,λy c e=>?_,I.free,I.freeC,λp hp=>?_,tracked ⟨oL,hoL,I.free⟩ hs,by simpa using I.len⟩ ⟨_,hs,.inl rfl⟩
  ·exact(hs.2 b (Ag (Ac (AI e) I.ok.above))).trans (I.base.keep b o e n hb hx)
  ·obtain⟨sl,e1⟩:=I.base.slot b o e n hb hx
   exact⟨sl,(hs.2 b (Ag (Ac (AI e) I.ok.above))).trans e1⟩
  ·obtain⟨o',e1⟩:=I.base.there b o e hx
   exact⟨o',(hs.2 b (Ag (Ac (AI e) I.ok.above))).trans e1⟩
  ·by_cases hj:j=i
   ·subst hj
    rw[hi]at e1;cases e1
    rw[Cc hiσ]at e2
    cases e2
    exact⟨u,r,.inl ⟨hk,by simp⟩⟩
   ·rw[DL (B2 hj)]at e2
    obtain⟨u',r',q⟩:=hl j y v' e1 e2 e3
    refine⟨u',r',?_⟩
    rcases q with⟨k,e⟩|⟨k,c,e,z⟩
    ·refine .inl ⟨k,?_⟩
     have:y≠x:=λe=>hj (yP_ hN e1 (e▸hi))
     simp [this,e]
    ·exact .inr ⟨k,c,e,z.sameBut hs (cne y c e)⟩
  ·obtain⟨w',z⟩:=I.cell y c e
   exact⟨w',z.sameBut hs (cne y c e)⟩
  ·obtain⟨e,n,ne,nf,d⟩:=I.pin p hp
   exact⟨(hs.2 p.1 ne).trans e,n,ne,nf,d⟩
 ·have hfn:X.fn x=true:=by
   rcases hf with z|z
   ·exact z
   ·rw[z]at hk;cases hk
  obtain⟨c,hc⟩:=I.ok.has x (.inl hk)
  obtain⟨w',z⟩:=I.cell x c hc
  refine wpAny_storeName_cell I.ok.kind hk hc z (λh' hc' hs=>?_)
  obtain⟨oc,hoc,hocd⟩:=id z
  refine h { s with heap:=h' } ⟨I.ok,I.os,I.bare,⟨λb o e n hb hx=>?_,λb o e n hb hx=>?_,I.base.free,λb o e hx=>?_,I.base.tups,I.base.frzs,I.base.tbls⟩,⟨m,hn.sameBut hs (B2 (cne x c hc)),λj y v' e1 e2 e3=>?_⟩,λy c' e=>?_,I.free,I.freeC,λp hp=>?_,tracked ⟨oc,hoc,I.freeC x c hc⟩ hs,by simpa using I.len⟩ ⟨c,hs,.inr hc⟩
  ·exact(hs.2 b (Ag (Ac (AI e) (I.ok.cab x c hfn hc)))).trans (I.base.keep b o e n hb hx)
  ·obtain⟨sl,e1⟩:=I.base.slot b o e n hb hx
   exact⟨sl,(hs.2 b (Ag (Ac (AI e) (I.ok.cab x c hfn hc)))).trans e1⟩
  ·obtain⟨o',e1⟩:=I.base.there b o e hx
   exact⟨o',(hs.2 b (Ag (Ac (AI e) (I.ok.cab x c hfn hc)))).trans e1⟩
  ·by_cases hj:j=i
   ·subst hj
    rw[hi]at e1;cases e1
    rw[Cc hiσ]at e2
    cases e2
    exact⟨u,r,.inr ⟨.inl hk,c,hc,hc'⟩⟩
   ·rw[DL (B2 hj)]at e2
    obtain⟨u',r',q⟩:=hl j y v' e1 e2 e3
    refine⟨u',r',?_⟩
    rcases q with q|⟨k,c',e,z'⟩
    ·exact .inl q
    ·refine .inr ⟨k,c',e,z'.sameBut hs ?_⟩
     rintro rfl
     exact hj (yP_ hN e1 (I.ok.inj _ _ _ e hc▸hi))
  ·by_cases hcc:c'=c
   ·subst hcc;exact⟨_,hc'⟩
   ·obtain⟨w2,z2⟩:=I.cell y c' e
    exact⟨w2,z2.sameBut hs hcc⟩
  ·obtain⟨e,n,ne,nf,d⟩:=I.pin p hp
   refine⟨(hs.2 p.1 ?_).trans e,n,ne,nf,d⟩
   intro q
   rw[q,hoc]at e
   have q':oc=p.2:=AW e
   exact d w' (by rw[<-q'];exact hocd)
theorem yJ_{M:Model}{A:Around}{E:Value->Shared->Prop}{i:Nat}{x:Str}{v:V}{u:Value}{Q:Unit->Shared->Prop}(I:Inv X pins σ H s)(hN:X.N.Nodup)(hi:X.N[i]?=some x)(hx:Loc X.env.scope x)(r:RelV v u)
  (h:∀s',Inv X pins (σ.set i (some v)) H s'->Q () s') (hf:X.fn x=true∨X.env.scope.names.lookup x=some .local:=by first|exact .inl rfl|exact .inr rfl|assumption):wpAny M A (storeName X.env x u) Q E s :=
 vT_ I hN hi hx r (λs' I' _=>h s' I') hf
theorem Inv.call'{s':Shared}{ch:List Addr}(I:Inv X pins σ H s)(ho:s'.os=s.os)(u:Un (frs X.stack) ch H H' s.heap s'.heap)(hok:HOk X.prog X.w H' s'.heap)(hg:AllBare s'.gens)
  (hch:∀b∈ch,(b∈X.ex∨X.s₀.heap.objs.size<=b)/\b≠X.env.locals/\(∀x c,X.env.cells.lookup x=some c->c≠b)/\∀p∈X.pn++pins,p.1≠b):Inv X pins σ H' s':=by
 obtain⟨h',g',d',t',o'⟩:=s'
 have e:o'=s.os:=ho
 subst e
 exact I.call (g':=g') (t':=t') (d':=d') u hok hg hch
end
abbrev XK:=Value->Option Addr->Hp->Prop
abbrev St:=List (Option V)
abbrev VK:=V->Hp->Prop
abbrev TE:=St->Hp->VK->Prop
abbrev TT:=St->Hp->(Bool->Hp->Prop)->Prop
abbrev TA:=St->Hp->(List V->Hp->Prop)->Prop
structure Ends where
 nx:St->Hp->Prop
 rt:VK
 bk:St->Hp->Prop:=λ_ _=>False
 ct:St->Hp->Prop:=λ_ _=>False
abbrev TS:=Ends->St->Hp->Prop
def EP(X:Cx)(pins:List (Addr×Obj))(σ:St)(Q:VK)(u:Value)(s':Shared):Prop:=∃v H',Inv X pins σ H' s'/\RelV v u/\Q v H'
def TP(X:Cx)(pins:List (Addr×Obj))(σ:St)(Q:Bool->Hp->Prop)(b:Bool)(s':Shared):Prop:=∃H',Inv X pins σ H' s'/\Q b H'
def AP(X:Cx)(pins:List (Addr×Obj))(σ:St)(Q:List V->Hp->Prop)(us:List Value)(s':Shared):Prop:=∃vs H',Inv X pins σ H' s'/\Vals vs us/\Q vs H'
def SP(X:Cx)(pins:List (Addr×Obj))(D:Ends)(f:Flow)(s':Shared):Prop :=
 match f with
 |.next=>∃σ' H',Inv X pins σ' H' s'/\D.nx σ' H'
 |.brk=>∃σ' H',Inv X pins σ' H' s'/\D.bk σ' H'
 |.cont=>∃σ' H',Inv X pins σ' H' s'/\D.ct σ' H'
 |.ret u=>∃v σ' H',Inv X pins σ' H' s'/\RelV v u/\D.rt v H'
def PE(X:Cx)(e:Expr)(t:TE):Prop :=
 ∀(pins:List (Addr×Obj))(s:Shared)(σ:St)(H:Hp)(Q:VK),Inv X pins σ H s->t σ H Q->wpAny (model X.prog X.w) X.A (eval e X.env) (EP X pins σ Q) X.xe s
def PT(X:Cx)(e:Expr)(t:TT):Prop :=
 ∀(pins:List (Addr×Obj))(s:Shared)(σ:St)(H:Hp)(Q:Bool->Hp->Prop),Inv X pins σ H s->t σ H Q->wpAny (model X.prog X.w) X.A (isTrue e X.env (eval e X.env)) (TP X pins σ Q) X.xe s
def PW(X:Cx)(e:Expr)(t:TT):Prop :=
 ∀(whole:Sem Value)(pins:List (Addr×Obj))(s:Shared)(σ:St)(H:Hp)(Q:Bool->Hp->Prop),Inv X pins σ H s->t σ H Q->wpAny (model X.prog X.w) X.A (isTrue e X.env whole) (TP X pins σ Q) X.xe s
theorem PW.pt{X:Cx}{e:Expr}{t:TT}(h:PW X e t):PT X e t:=h _
def PA(X:Cx)(es:List Expr)(t:TA):Prop :=
 ∀(pos:Pos)(pins:List (Addr×Obj))(s:Shared)(σ:St)(H:Hp)(Q:List V->Hp->Prop),Inv X pins σ H s->t σ H Q->wpAny (model X.prog X.w) X.A (spliced (backTo pos (starEach es X.env))) (AP X pins σ Q) X.xe s
def PS(X:Cx)(st:Stmt)(t:TS):Prop :=
 ∀(pins:List (Addr×Obj))(s:Shared)(σ:St)(H:Hp)(D:Ends),Inv X pins σ H s->t D σ H->wpAny (model X.prog X.w) X.A (exec st X.env) (SP X pins D) X.xe s
def PSs(X:Cx)(st:List Stmt)(t:TS):Prop :=
 ∀(pins:List (Addr×Obj))(s:Shared)(σ:St)(H:Hp)(D:Ends),Inv X pins σ H s->t D σ H->wpAny (model X.prog X.w) X.A (execs st X.env) (SP X pins D) X.xe s
theorem thn{α:Type}{t:Sem α}{Q Q':α->Shared->Prop}{M:Model}{A:Around}{E:Value->Shared->Prop}{s:Shared}(h:wpAny M A t Q E s)(hQ:∀a s,Q a s->Q' a s):wpAny M A t Q' E s:=wpAny_mono h hQ λ_ _ x=>x
end L2
namespace L2
open PySem PySem.Spec PyProof.Rows
section
variable{X:Cx}
theorem bin{a b:Expr}{ta tb:TE}(ha:PE X a ta)(hb:PE X b tb){pins:List (Addr×Obj)}{s:Shared}{σ:St}{H:Hp}{R:V->V->Hp->Prop}(I:Inv X pins σ H s)(h:ta σ H λx H1=>tb σ H1 λy H2=>R x y H2)
  {α:Type} {Q:α->Shared->Prop} {f:Value->Value->Sem α}
  (hf:∀v u s2 x y H2,Inv X pins σ H2 s2->RelV x v->RelV y u->R x y H2->wpAny (model X.prog X.w) X.A (f v u) Q X.xe s2) :
  wpAny (model X.prog X.w) X.A (eval a X.env) (λv s₁=>wpAny (model X.prog X.w) X.A (eval b X.env) (λu s₂=>wpAny (model X.prog X.w) X.A (f v u) Q X.xe s₂) X.xe s₁) X.xe s:=by
 refine thn (ha pins s σ H _ I h) λv s1 ⟨x,H1,I1,r1,q1⟩=>?_
 refine thn (hb pins s1 σ H1 _ I1 q1) λu s2 ⟨y,H2,I2,r2,q2⟩=>?_
 exact hf v u s2 x y H2 I2 r1 r2 q2
def x0_(i:Nat):TE:=λσ H Q=>∃v,σ[i]?=some (some v)/\Q v H
def tC(v:V):TE:=λ_ H Q=>Q v H
theorem afu_{i:Nat}{x:Str}{pos:Pos}(hN:X.N[i]?=some x)(hv:Vis X.env.scope x)(hd:(x==("__debug__" : Str))=false:=by decide)(hcd:(x==("__classdict__" : Str))=false:=by decide):PE X (.Name x pos) (x0_ i):=by
 intro pins s σ H Q I h
 obtain⟨v,e,h⟩:=h
 obtain⟨m,hn,hl⟩:=I.loc
 obtain⟨u,r,l⟩:=hl i x v hN e hv
 have fin:EP X pins σ Q u s:=⟨v,H,I,r,h⟩
 rcases l with⟨hk,hm⟩|⟨hk,c,hc,hcell⟩
 ·exact wpAny_Name (wpAny_loadName_local I.ok.kind hk hn hm fin) hd
 ·rcases hk with hk|hk
  ·exact wpAny_Name (wpAny_loadName_cell I.ok.kind hk hc hcell fin) hd
  ·exact wpAny_Name (wpAny_loadName_free I.ok.kind hk hc hcell fin hcd) hd
theorem qg_{i j pos}:PE X (.Constant (.int i) j pos) (tC (.int i)):=λ_ _ _ H _ I h=>wpAny_Constant_int ⟨.int i,H,I.tok _,⟨_,rfl⟩,h⟩
theorem jn_{b j pos}:PE X (.Constant (.bool b) j pos) (tC (.bl b)):=λ_ _ _ H _ I h=>Constant_bool ⟨.bl b,H,I,rfl,h⟩
theorem xq_{j pos}:PE X (.Constant .none j pos) (tC .non):=λ_ _ _ H _ I h=>Constant_none ⟨.non,H,I,rfl,h⟩
theorem zg_{x j pos}:PE X (.Constant (.str x) j pos) (tC (.str x)):=λ_ _ _ H _ I h=>Calls.Constant_str ⟨.str x,H,I.tok _,⟨_,rfl⟩,h⟩
def Gl(X:Cx)(x:Str):Prop:=X.env.kindOf x=some .globalImplicit
theorem jN_{E:Value->Shared->Prop}{pins:List (Addr×Obj)}{s:Shared}{σ:St}{H:Hp}{x:Str}{u:Value}{pos:Pos}{Q:Value->Shared->Prop}(I:Inv X pins σ H s)(hg:Gl X x)(hm:X.mg x=some u)(h:Q u s)
  (hd:(x==("__debug__" : Str))=false:=by decide):wpAny (model X.prog X.w) X.A (eval (.Name x pos) X.env) Q E s :=
 Dj I.ok.kind hg (Calls.loadGlobal_global (by rw[I.ok.glob];exact I.mod.glob.keeps I.bk) hm h) hd
theorem jl_{E:Value->Shared->Prop}{pins:List (Addr×Obj)}{s:Shared}{σ:St}{H:Hp}{x:Str}{u:Value}{pos:Pos}{Q:Value->Shared->Prop}(I:Inv X pins σ H s)(hg:Gl X x)(hm:X.mg x=none)(hv:bootBuiltins x=some u)(h:Q u s)
  (hn:x ≠ "__name__" := by decide) (hd:(x==("__debug__" : Str))=false:=by decide):wpAny (model X.prog X.w) X.A (eval (.Name x pos) X.env) Q E s:=by
 obtain⟨mb,h1,h2⟩:=I.mod.blt
 exact Dj I.ok.kind hg (Calls.loadGlobal_builtin (by rw[I.ok.glob];exact I.mod.glob.keeps I.bk) hm (by rw[I.ok.blt];exact h1.keeps I.bk) ((h2 x hn).trans hv) h) hd
theorem zf_{x:Str}{v:V}{u:Value}{pos:Pos}(hg:Gl X x)(hm:X.mg x=some u)(r:RelV v u)(hd:(x==("__debug__" : Str))=false:=by decide):PE X (.Name x pos) (tC v) :=
 λ_ _ _ H _ I h=>jN_ I hg hm ⟨v,H,I,r,h⟩ hd
theorem jS_{x:Str}{v:V}{u:Value}{pos:Pos}(hg:Gl X x)(hm:X.mg x=none)(hv:bootBuiltins x=some u)(r:RelV v u)(hn:x ≠ "__name__" := by decide)(hd:(x==("__debug__" : Str))=false:=by decide):PE X (.Name x pos) (tC v) :=
 λ_ _ _ H _ I h=>jl_ I hg hm hv ⟨v,H,I,r,h⟩ hn hd
variable{a b:Expr}{ta tb:TE}{pos:Pos}
def PC(X:Cx)(op:CmpOp)(a b:Expr)(t:TE):Prop :=
 ∀(pins:List (Addr×Obj))(s:Shared)(σ:St)(H:Hp)(Q:VK),Inv X pins σ H s->t σ H Q ->
  wpAny (model X.prog X.w) X.A (eval a X.env) (λv s₁=>wpAny (model X.prog X.w) X.A (eval b X.env) (λu s₂=>wpAny (model X.prog X.w) X.A (compareOp op v u) (EP X pins σ Q) X.xe s₂) X.xe s₁) X.xe s
theorem ahm_(b:Expr){op:CmpOp}(h:op≠.In)(h2:op≠.NotIn):behindInMarks op b=false:=by
 have e1:(op==CmpOp.In)=false:=by cases op<;>first|rfl|exact absurd rfl h
 have e2:(op==CmpOp.NotIn)=false:=by cases op<;>first|rfl|exact absurd rfl h2
 cases b<;>simp [behindInMarks,e1,e2]
def tB(t:TE):TT:=λσ H Q=>t σ H λx H1=>∃c,x=.bl c/\Q c H1
theorem as0_{op:CmpOp}{t:TE}(h:PC X op a b t)(h1:behindInMarks op b=false:=by first|exact ahm_ _ (by decide) (by decide)|rfl):PT X (.Compare a [op] [b] pos) (tB t):=by
 intro pins s σ H Q I hw
 refine wpAny_isTrue_Compare1 (thn (h pins s σ H _ I hw) λv s1 h1=>thn h1 λu s2 h2=>thn h2 λc s3 ⟨x,H1,I1,r1,q1⟩=>?_) h1
 obtain⟨d,rfl,q⟩:=q1
 cases r1
 exact wpAny_truthy_bool ⟨H1,I1,q⟩
theorem zz_{e:Expr}{t:TE}(h:PE X e t)(he:∀whole,isTrue e X.env whole=(do let v <-whole;standAt e.pos;holding [v] (truthy v)):=by intro _;rfl):PT X e (tB t):=by
 intro pins s σ H Q I hw
 refine isTrue_plain (thn (h pins s σ H _ I hw) λv s1 ⟨x,H1,I1,r1,q1⟩=>?_) (he _)
 obtain⟨d,rfl,q⟩:=q1
 cases r1
 exact wpAny_truthy_bool ⟨H1,I1,q⟩
variable{tA tB':TT}{z6_:List Expr}
def tAnd(t u:TT):TT:=λσ H Q=>t σ H λc H1=>if c=true then u σ H1 Q else Q false H1
def tOr(t u:TT):TT:=λσ H Q=>t σ H λc H1=>if c=true then Q true H1 else u σ H1 Q
def tNot(t:TT):TT:=λσ H Q=>t σ H λc H1=>Q (!c) H1
theorem alp_(ha:PT X a tA):PW X (.BoolOp .And [a] pos) tA:=by
 intro wh pins s σ H Q I h
 refine isTrue_and (thn (ha pins s σ H Q I h) λc s1 e=>?_)
 cases c with
 |true=>exact isTrue_and_nil e
 |false=>exact e
theorem jV_(ha:PT X a tA):PW X (.BoolOp .Or [a] pos) tA:=by
 intro wh pins s σ H Q I h
 refine isTrue_or (thn (ha pins s σ H Q I h) λc s1 e=>?_)
 cases c with
 |false=>exact isTrue_or_nil e
 |true=>exact e
theorem am0_(ha:PT X a tA)(hb:PW X (.BoolOp .And (b::z6_) pos) tB'):PW X (.BoolOp .And (a::b::z6_) pos) (tAnd tA tB'):=by
 intro wh pins s σ H Q I h
 refine isTrue_and (thn (ha pins s σ H _ I h) λc s1 ⟨H1,I1,q1⟩=>?_)
 cases c with
 |true=>exact hb wh pins s1 σ H1 Q I1 q1
 |false=>exact⟨H1,I1,q1⟩
theorem j7_(ha:PT X a tA)(hb:PW X (.BoolOp .Or (b::z6_) pos) tB'):PW X (.BoolOp .Or (a::b::z6_) pos) (tOr tA tB'):=by
 intro wh pins s σ H Q I h
 refine isTrue_or (thn (ha pins s σ H _ I h) λc s1 ⟨H1,I1,q1⟩=>?_)
 cases c with
 |true=>exact⟨H1,I1,q1⟩
 |false=>exact hb wh pins s1 σ H1 Q I1 q1
theorem ja_(ha:PT X a tA):PT X (.UnaryOp .Not a pos) (tNot tA):=by
 intro pins s σ H Q I h
 exact isTrue_not (ha pins s σ H (λc H1=>Q (!c) H1) I h)
def ap1_(ta tb:TE):TE:=λσ H Q=>ta σ H λx H1=>∃c,x=.bl c/\if c=true then tb σ H1 Q else Q (.bl false) H1
def ao9_(ta:TE):TE:=λσ H Q=>ta σ H λx H1=>∃c,x=.bl c/\Q (.bl (!c)) H1
theorem ab7_{op}{t:TE}(h:PE X a t):PE X (.BoolOp op [a] pos) t:=λpins s σ H Q I hw=>BoolOp_one (h pins s σ H Q I hw)
theorem ab3_(ha:PE X a ta)(hb:PE X (.BoolOp .And (b::z6_) pos) tb):PE X (.BoolOp .And (a::b::z6_) pos) (ap1_ ta tb):=by
 intro pins s σ H Q I h
 refine BoolOp_and (thn (ha pins s σ H _ I h) λv s1 ⟨x,H1,I1,r1,q1⟩=>?_)
 obtain⟨c,rfl,q1⟩:=q1
 cases r1
 refine wpAny_truthy_bool ?_
 cases c with
 |true=>exact hb pins s1 σ H1 Q I1 q1
 |false=>exact⟨.bl false,H1,I1,rfl,q1⟩
theorem amg_(ha:PE X a ta):PE X (.UnaryOp .Not a pos) (ao9_ ta):=by
 intro pins s σ H Q I h
 refine UnaryOp_ (thn (ha pins s σ H _ I h) λv s1 ⟨x,H1,I1,r1,q1⟩=>?_)
 obtain⟨c,rfl,q1⟩:=q1
 cases r1
 exact not_of (wpAny_truthy_bool ⟨.bl (!c),H1,I1,rfl,q1⟩)
end
end L2
namespace L2
open PySem PySem.Spec PyProof.Rows
def SqL(K:PySem.W.Frag)(H:Hp)(a:Addr)(xs:List V):Prop :=
 Rd H a (.lst xs) ∨
  ∃(o:Obj)(its:Array Value)(n:Nat),K.lookup a=some o/\o.cls=.type "list" /\ o.dict=none/\o.data=.seq its n/\its.size<=sizeLine/\Vals xs its.toList
def SqT(K:PySem.W.Frag)(H:Hp)(a:Addr)(xs:List V):Prop :=
 Rd H a (.tup xs) ∨
  ∃(o:Obj)(its:Array Value)(n:Nat),K.lookup a=some o/\o.cls=.type "tuple" /\ o.data=.seq its n/\its.size<=sizeLine/\Vals xs its.toList
def absV:Value->Option V
 |.none=>some .non
 |.bool b=>some (.bl b)
 |.int i _=>some (.int i)
 |.str x _=>some (.str x)
 |.bytes b _=>some (.byt b)
 |.float b _=>some (.flt b)
 |.ref a=>some (.ref a)
 |.type n=>some (.ty n)
 |_=>none
theorem RelV.abs{x:V}{u:Value}(r:RelV x u):absV u=some x:=by
 cases x with
 |non=>cases r;rfl
 |bl _=>cases r;rfl
 |int _=>obtain⟨t,rfl⟩:=r;rfl
 |str _=>obtain⟨t,rfl⟩:=r;rfl
 |byt _=>obtain⟨t,rfl⟩:=r;rfl
 |flt _=>obtain⟨t,rfl⟩:=r;rfl
 |ref _=>cases r;rfl
 |ty _=>cases r;rfl
theorem RelV.inj{x y:V}{u:Value}(r:RelV x u)(q:RelV y u):x=y:=AW (r.abs.symm.trans q.abs)
theorem Vals.inj:∀{xs ys:List V}{us:List Value},Vals xs us->Vals ys us->xs=ys
 |_,_,_,.nil,.nil=>rfl
 |_,_,_,.cons r t,.cons r' t'=>by rw[r.inj r',Vals.inj t t']
section
variable{X:Cx}{pins:List (Addr×Obj)}{σ:St}{H:Hp}{s:Shared}{a:Addr}{xs ys:List V}
theorem SqL.of{K:PySem.W.Frag}(h:H a=some (.lst xs)):SqL K H a xs:=.inl (.inl h)
theorem SqT.of{K:PySem.W.Frag}(h:H a=some (.tup xs)):SqT K H a xs:=.inl (.inl h)
theorem Inv.list(I:Inv X pins σ H s)(h:SqL X.K H a xs):∃its:List Value,Vals xs its/\PlainL s.heap a its.toArray/\xs.length<=sizeLine:=by
 rcases h with h|⟨o,its,n,hk,hc,hd,hs,hz,r⟩
 ·obtain⟨z,its,n,r,e⟩:=h.ok I.hok
  exact⟨its,r,⟨_,n,e,rfl,rfl,rfl⟩,z⟩
 ·refine⟨its.toList,r,⟨o,n,I.kIn a o hk,hc,hd,by simpa using hs⟩,?_⟩
  have e:=r.length
  simp only[AO]at e
  omega
theorem Inv.tuple(I:Inv X pins σ H s)(h:SqT X.K H a xs):∃its:List Value,Vals xs its/\IsTup s.heap a its.toArray/\xs.length<=sizeLine:=by
 rcases h with h|⟨o,its,n,hk,hc,hs,hz,r⟩
 ·obtain⟨z,its,r,p⟩:=h.ok I.hok
  exact⟨its,r,p.tup,z⟩
 ·refine⟨its.toList,r,⟨o,I.kIn a o hk,hc,n,by simpa using hs⟩,?_⟩
  have e:=r.length
  simp only[AO]at e
  omega
theorem Inv.list_inj(I:Inv X pins σ H s)(h:SqL X.K H a xs)(h':SqL X.K H a ys):xs=ys:=by
 obtain⟨its,r,⟨o,n,e,_,_,d⟩,_⟩:=I.list h
 obtain⟨its',r',⟨o',n',e',_,_,d'⟩,_⟩:=I.list h'
 rw[e]at e';cases e'
 rw[d]at d'
 injection d' with d1 _
 have:its=its':=by simpa using congrArg Array.toList d1
 subst this
 exact r.inj r'
theorem Inv.tuple_inj(I:Inv X pins σ H s)(h:SqT X.K H a xs)(h':SqT X.K H a ys):xs=ys:=by
 obtain⟨its,r,⟨o,e,_,n,d⟩,_⟩:=I.tuple h
 obtain⟨its',r',⟨o',e',_,n',d'⟩,_⟩:=I.tuple h'
 rw[e]at e';cases e'
 rw[d]at d'
 injection d' with d1 _
 have:its=its':=by simpa using congrArg Array.toList d1
 subst this
 exact r.inj r'
end
abbrev Cx.wish(X:Cx)(E:Value->Shared->Prop):Cx:={ X with xe:=E }
abbrev Cx.nox(X:Cx):Cx:=X.wish λ_ _=>False
theorem Cx.Ok.wish{X:Cx}(ok:X.Ok)(E:Value->Shared->Prop):(X.wish E).Ok :=
 ⟨ok.mod,ok.kind,ok.glob,ok.blt,ok.above,ok.inj,ok.has,ok.cab,ok.hd,ok.frames,ok.stk,ok.exf,ok.bs,ok.bsz,ok.noex,ok.exfs,ok.funs,ok.frf⟩
theorem Cx.Ok.unwish{X:Cx}{E:Value->Shared->Prop}(ok:(X.wish E).Ok):X.Ok :=
 ⟨ok.mod,ok.kind,ok.glob,ok.blt,ok.above,ok.inj,ok.has,ok.cab,ok.hd,ok.frames,ok.stk,ok.exf,ok.bs,ok.bsz,ok.noex,ok.exfs,ok.funs,ok.frf⟩
section
variable{X:Cx}{pins:List (Addr×Obj)}{σ:St}{H:Hp}{s:Shared}{E:Value->Shared->Prop}
theorem Inv.wish(I:Inv X pins σ H s)(E:Value->Shared->Prop):Inv (X.wish E) pins σ H s:=⟨I.ok.wish E,I.os,I.bare,I.base,I.loc,I.cell,I.free,I.freeC,I.pin,I.hok,I.len⟩
theorem Inv.unwish(I:Inv (X.wish E) pins σ H s):Inv X pins σ H s:=⟨I.ok.unwish,I.os,I.bare,I.base,I.loc,I.cell,I.free,I.freeC,I.pin,I.hok,I.len⟩
theorem SP.unwish{D:Ends}{f:Flow}{s':Shared}(h:SP (X.wish E) pins D f s'):SP X pins D f s':=by
 cases f with
 |next=>obtain⟨σ',H',I,q⟩:=h;exact⟨σ',H',I.unwish,q⟩
 |brk=>obtain⟨σ',H',I,q⟩:=h;exact⟨σ',H',I.unwish,q⟩
 |cont=>obtain⟨σ',H',I,q⟩:=h;exact⟨σ',H',I.unwish,q⟩
 |ret u=>obtain⟨v,σ',H',I,r,q⟩:=h;exact⟨v,σ',H',I.unwish,r,q⟩
theorem PSs.nox{st:List Stmt}{t:TS}(h:PSs X.nox st t):PSs X st t:=λpins s σ H D I hw =>
 wpAny_mono (h pins s σ H D (I.wish _) hw) (λ_ _ q=>q.unwish) λ_ _ z=>False.elim z
end
section
variable{X:Cx}{st:Stmt}{z6_:List Stmt}{t u:TS}{e:Expr}{te:TE}{pos:Pos}
def aoy_:TS:=λD σ H=>D.nx σ H
def tSeq(t u:TS):TS:=λD σ H=>t { D with nx:=u D } σ H
theorem qz_:PSs X [] aoy_:=λ_ _ σ H _ I h=>wpAny_execs_nil ⟨σ,H,I,h⟩
theorem qe_(h1:PS X st t)(h2:PSs X z6_ u):PSs X (st::z6_) (tSeq t u):=by
 intro pins s σ H D I h
 refine wpAny_execs_cons (thn (h1 pins s σ H { D with nx:=u D } I h) λf s1 q=>?_)
 cases f with
 |next =>
  obtain⟨σ',H',I',q⟩:=q
  exact h2 pins s1 σ' H' D I' q
 |ret v=>exact q
 |brk=>exact q
 |cont=>exact q
theorem qf_(h1:PS X st t):PSs X [st] t:=by
 intro pins s σ H D I h
 refine wpAny_execs_cons (thn (h1 pins s σ H D I h) λf s1 q=>?_)
 cases f with
 |next=>exact wpAny_execs_nil q
 |ret v=>exact q
 |brk=>exact q
 |cont=>exact q
theorem Inv.quiet{pins:List (Addr×Obj)}{σ:St}{H:Hp}{s:Shared}(I:Inv X pins σ H s):interactive X.env=false:=by simp [interactive,I.ok.kind]
def apc_(te:TE):TS:=λD σ H=>te σ H λ_ H1=>D.nx σ H1
theorem q2_(he:PE X e te)(hs:swapsWith e none pos.line X.env=pure false:=by rfl):PS X (.Expr e pos) (apc_ te):=by
 intro pins s σ H D I h
 exact wpAny_Expr_any (thn (he pins s σ H _ I h) λv s1 ⟨x,H1,I1,r1,q1⟩=>⟨σ,H1,I1,q1⟩) I.quiet hs
def tRet(te:TE):TS:=λD σ H=>te σ H D.rt
theorem qn_(he:PE X e te):PS X (.Return (some e) pos) (tRet te):=by
 intro pins s σ H D I h
 exact wpAny_Return_some (thn (he pins s σ H _ I h) λv s1 ⟨x,H1,I1,r1,q1⟩=>⟨x,σ,H1,I1,r1,q1⟩)
def tIfS(c:TT)(t u:TS):TS:=λD σ H=>c σ H λb H1=>if b=true then t D σ H1 else u D σ H1
theorem qX_{c:Expr}{a b:List Stmt}{tc:TT}(hc:PT X c tc)(ha:PSs X a t)(hb:PSs X b u):PS X (.If c a b pos) (tIfS tc t u):=by
 intro pins s σ H D I h
 refine wpAny_If (thn (hc pins s σ H _ I h) λd s1 ⟨H1,I1,q1⟩=>?_)
 cases d with
 |true=>exact ha pins s1 σ H1 D I1 q1
 |false=>exact hb pins s1 σ H1 D I1 q1
def aop_:TS:=λ_ _ _=>False
theorem x3_:PS X st aop_:=λ_ _ _ _ _ _ h=>h.elim
end
abbrev TG:=V->St->Hp->(St->Hp->Prop)->Prop
abbrev TGs:=List V->St->Hp->(St->Hp->Prop)->Prop
def PG(X:Cx)(target:Expr)(t:TG):Prop :=
 ∀(pins:List (Addr×Obj))(s:Shared)(σ:St)(H:Hp)(v:V)(u:Value)(Q:St->Hp->Prop),Inv X pins σ H s->RelV v u->t v σ H Q ->
  wpAny (model X.prog X.w) X.A (assign target X.env u) (λ_ s'=>∃σ' H',Inv X pins σ' H' s'/\Q σ' H') X.xe s
def PGs(X:Cx)(ts:List Expr)(t:TGs):Prop :=
 ∀(pins:List (Addr×Obj))(s:Shared)(σ:St)(H:Hp)(vs:List V)(us:List Value)(Q:St->Hp->Prop),Inv X pins σ H s->Vals vs us->t vs σ H Q ->
  wpAny (model X.prog X.w) X.A (assignInOrder ((assignEach ts X.env).map (·.2)) us) (λ_ s'=>∃σ' H',Inv X pins σ' H' s'/\Q σ' H') X.xe s
abbrev TSet:=V->V->V->Hp->(Hp->Prop)->Prop
def PSet(X:Cx)(t:TSet):Prop :=
 ∀(pins:List (Addr×Obj))(s:Shared)(σ:St)(H:Hp)(o i v:V)(ov iv u:Value)(Q:Hp->Prop),Inv X pins σ H s->RelV o ov->RelV i iv->RelV v u->t o i v H Q ->
  wpAny (model X.prog X.w) X.A (setItem ov iv u) (λ_ s'=>∃H',Inv X pins σ H' s'/\Q H') X.xe s
section
variable{X:Cx}{pos:Pos}
def zN_(i:Nat):TG:=λv σ H Q=>Q (σ.set i (some v)) H
theorem qj_{i:Nat}{x:Str}(hN:X.N.Nodup)(hi:X.N[i]?=some x)(hx:Loc X.env.scope x)(hf:X.fn x=true∨X.env.scope.names.lookup x=some .local:=by first|exact .inl rfl|exact .inr rfl|assumption):PG X (.Name x pos) (zN_ i):=by
 intro pins s σ H v u Q I r h
 exact wpAny_assign_Name (yJ_ I hN hi hx r (λs' I'=>⟨_,H,I',h⟩) hf)
def gNil:TGs:=λvs σ H Q=>vs=[]/\Q σ H
def aou_(t:TG)(u:TGs):TGs:=λvs σ H Q=>∃v r,vs=v::r/\t v σ H λσ' H'=>u r σ' H' Q
theorem qF_:PGs X [] gNil:=by
 intro pins s σ H vs us Q I r h
 obtain⟨e,h⟩:=h
 subst e
 cases r
 exact assignInOrder_nil ⟨σ,H,I,h⟩
theorem ql_{e:Expr}{es:List Expr}{t:TG}{u:TGs}(h1:PG X e t)(h2:PGs X es u)
  (hs:(assignEach (e::es) X.env).map (·.2)=assign e X.env::(assignEach es X.env).map (·.2):=by rfl):PGs X (e::es) (aou_ t u):=by
 intro pins s σ H vs us Q I r h
 obtain⟨v,vr,e1,h⟩:=h
 subst e1
 cases r with
 |cons r rr =>
  rw[hs]
  refine assignInOrder_cons (thn (h1 pins s σ H _ _ _ I r h) λ_ s1 ⟨σ1,H1,I1,q1⟩=>?_)
  exact h2 pins s1 σ1 H1 _ _ Q I1 rr q1
def gTup(K:PySem.W.Frag)(n:Nat)(t:TGs):TG:=λv σ H Q=>∃a xs,v=.ref a/\SqT K H a xs/\xs.length=n/\t xs σ H Q
theorem qU_{es:List Expr}{k:Nat}{t:TGs}{n:Nat}(hc:X.calm=true)(h:PGs X es t)
  (hn:(assignEach es X.env).length=n:=by rfl) (hst:(assignEach es X.env).findIdx? (·.1)=none:=by rfl):PG X (.Tuple es k pos) (gTup X.K n t):=by
 intro pins s σ H v u Q I r hw
 obtain⟨a,xs,e1,hq,hl,hw⟩:=hw
 subst e1
 cases r
 obtain⟨its,rv,ht,hz⟩:=I.tuple hq
 refine assign_Tuple_tuple (I.ok.hd hc) ht (by simp [hn,<-hl,rv.length]) hst λh' hx=>?_
 have I1:Inv X pins σ H { s with heap:=h' }:=I.kept (t':=s.toks) λb o e=>hx b o (Ag (AI e)) e
 exact h pins _ σ H xs _ Q I1 (by simpa using rv) hw
def gSub(to ti:TE)(t:TSet):TG:=λv σ H Q=>to σ H λo H1=>ti σ H1 λi H2=>t o i v H2 λH3=>Q σ H3
theorem anl_{o i:Expr}{to ti:TE}{t:TSet}(ho:PE X o to)(hi:PE X i ti)(hs:PSet X t)
  (ha:∀v,assign (.Subscript o i pos) X.env v=(do
   let ov <-holding [v] (eval o X.env)
   let iv <-holding [v,ov] (eval i X.env)
   standAt pos
   holding [v,ov,iv] (setItem ov iv v)
   release [v,ov,iv] []):=by intro _;rfl):PG X (.Subscript o i pos) (gSub to ti t):=by
 intro pins s σ H v u Q I r h
 rw[ha]
 refine wpAny_bind (wpAny_holding (thn (ho pins s σ H _ I h) λov s1 ⟨x,H1,I1,r1,q1⟩=>?_))
 refine wpAny_bind (wpAny_holding (thn (hi pins s1 σ H1 _ I1 q1) λiv s2 ⟨y,H2,I2,r2,q2⟩=>?_))
 refine wpAny_bind (wpAny_standAt (wpAny_bind (wpAny_holding (thn (hs pins s2 σ H2 x y v ov iv u _ I2 r1 r2 r q2) λ_ s3 ⟨H3,I3,q3⟩=>?_))))
 exact wpAny_release ⟨σ,H3,I3,q3⟩
def tAsg(te:TE)(g:TG):TS:=λD σ H=>te σ H λx H1=>g x σ H1 D.nx
theorem ago_{tg e:Expr}{te:TE}{g:TG}(he:PE X e te)(hg:PG X tg g)(hs:swapsWithSole [tg] e pos.line X.env=pure false:=by rfl)(hw:swappedStores [tg] e X.env=pure none:=by rfl)
  (h1:(assignEach [tg] X.env).map (·.2)=[assign tg X.env]:=by rfl):PS X (.Assign [tg] e pos) (tAsg te g):=by
 intro pins s σ H D I h
 refine wpAny_Assign_stores (thn (he pins s σ H _ I h) λv s1 ⟨x,H1,I1,r1,q1⟩=>?_) hs hw
 rw[h1]
 exact thn (hg pins s1 σ H1 x v _ I1 r1 q1) λ_ s2 q=>q
theorem qm_{i:Nat}{x:Str}{e:Expr}{te:TE}{pos':Pos}(hN:X.N.Nodup)(hi:X.N[i]?=some x)(hx:Loc X.env.scope x)(he:PE X e te)(hs:swapsWith e (some (.Name x pos')) pos.line X.env=pure false:=by rfl)(hf:X.fn x=true∨X.env.scope.names.lookup x=some .local:=by first|exact .inl rfl|exact .inr rfl|assumption) :
  PS X (.Assign [.Name x pos'] e pos) (tAsg te (zN_ i)):=by
 intro pins s σ H D I h
 refine wpAny_Assign_Name (thn (he pins s σ H _ I h) λv s1 ⟨y,H1,I1,r1,q1⟩=>?_) hs
 exact yJ_ I1 hN hi hx r1 (λs2 I2=>⟨_,H1,I2,q1⟩) hf
end
structure It where
 go:Nat->Hp->Prop
 yld:Nat->Hp->V->Hp->Prop
 stop:Nat->Hp->Prop
def js_(X:Cx)(pins:List (Addr×Obj))(H:Hp)(b:Addr):Prop :=
 H b=none/\b≠X.env.locals/\b∉X.fs/\(b∈X.ex∨X.s₀.heap.objs.size<=b)/\(∀x c,X.env.cells.lookup x=some c->c≠b)/\∀p∈X.pn++pins,p.1≠b
theorem Inv.fpOk{X:Cx}{pins:List (Addr×Obj)}{σ:St}{H H':Hp}{s:Shared}{b:Addr}(I:Inv X pins σ H s)(hb:s.heap.objs.size<=b)(hn:H' b=none):js_ X pins H' b:=by
 refine⟨hn,Ba (Ac I.lt hb),I.nofs hb,.inr (Aj I.sz hb),λx c e z=>?_,λp hp z=>?_⟩
 ·obtain⟨v,q⟩:=I.cell x c e
  exact absurd (Ac q.lt (by rw[z];exact hb)) (BX _)
 ·exact absurd (Ac (AI (I.pin p hp).1) (by rw[z];exact hb)) (BX _)
structure Turn(P:Program)(w:World)(K:PySem.W.Frag)(tg:Expr)(J:It)(fp:List Addr)(it:Addr)(tn:Nat->Heap->Prop):Prop where
 mem:it∈fp
 obj:∀i h,tn i h->∀b∈fp,∃o,h.get? b=some o/\∀v,o.data≠.cell v
 keep:∀i h h',tn i h->(∀b∈fp,∀o,h.get? b=some o->h'.get? b=some o)->tn i h'
 item:∀(X:Cx),X.prog=P->X.w=w->X.K=K->X.calm=true->∀(i:Nat)(pins:List (Addr×Obj))(s:Shared)(σ:St)(H:Hp)(E:Value->Shared->Prop),Inv X pins σ H s->(∀b∈fp,js_ X pins H b)->tn i s.heap->J.go i H ->
  wpAny (model P w) X.A (pyNext (.ref it)) (λr s1=>∃u,r=some u /\
   wpAny (model P w) X.A (letOwnedTupleGo tg (.ref it) u) (λ_ s2=>∃x H',Inv X pins σ H' s2/\RelV x u/\J.yld i H x H'/\tn (i+1) s2.heap/\∀b∈fp,H' b=none) E s1) E s
 done:∀(X:Cx),X.prog=P->X.w=w->X.K=K->X.calm=true->∀(i:Nat)(pins:List (Addr×Obj))(s:Shared)(σ:St)(H:Hp)(E:Value->Shared->Prop),Inv X pins σ H s->(∀b∈fp,js_ X pins H b)->tn i s.heap->J.stop i H ->
  wpAny (model P w) X.A (pyNext (.ref it)) (λr s1=>r=none/\Inv X pins σ H s1) E s
 self:∀(A:Around)(i:Nat)(s:Shared)(Q:Value->Shared->Prop)(E:Value->Shared->Prop),tn i s.heap->Q (.ref it) s->wpAny (model P w) A (pyIter (.ref it)) Q E s
abbrev TI:=St->Hp->(It->Hp->Prop)->Prop
def PIE(X:Cx)(pins:List (Addr×Obj))(σ:St)(tg:Expr)(R:It->Hp->Prop)(itv:Value)(s2:Shared):Prop :=
 ∃(it:Addr)(fp:List Addr)(tn:Nat->Heap->Prop)(J:It)(H':Hp),itv=.ref it/\Inv X pins σ H' s2/\Turn X.prog X.w X.K tg J fp it tn/\tn 0 s2.heap/\(∀b∈fp,js_ X pins H' b)/\R J H'
def PI(X:Cx)(tg iter:Expr)(wi:TI):Prop :=
 ∀(pins:List (Addr×Obj))(s:Shared)(σ:St)(H:Hp)(R:It->Hp->Prop),Inv X pins σ H s->wi σ H R ->
  wpAny (model X.prog X.w) X.A (eval iter X.env) (λv s1=>wpAny (model X.prog X.w) X.A (pyIter v) (PIE X pins σ tg R) X.xe s1) X.xe s
theorem ady_{M:Model}{A:Around}{E:Value->Shared->Prop}{s:Shared}{tg:Expr}{it:Addr}{u:Value}{o:Obj}{n:String}{vs:Array Value}{Q:Unit->Shared->Prop}(ho:s.heap.get? it=some o)(hc:o.cls=.type n)(hd:o.data=.fields vs)
  (hn:["enumerate", "zip", "dict_itemiterator", "dict_reverseitemiterator", "odict_iterator", "itertools.zip_longest", "itertools.pairwise"].contains n=false) (hQ:Q () s):wpAny M A (letOwnedTupleGo tg (.ref it) u) Q E s:=by
 unfold letOwnedTupleGo
 cases tg<;>first
  |exact wpAny_pure hQ
  | (cases u<;>first
    |exact wpAny_pure hQ
    | (refine wpAny_bind (wpAny_load ho ?_)
       rw[hc,hd]
       show wpAny M A (if (["enumerate", "zip", "dict_itemiterator", "dict_reverseitemiterator", "odict_iterator", "itertools.zip_longest", "itertools.pairwise"].contains n&&vs[0]?==some (rawInt _))=true then _ else _) Q E s
       rw[if_neg (by intro h;rw[hn,Bool.false_and]at h;cases h)]
       exact wpAny_pure hQ))
def Itl(K:PySem.W.Frag)(a:Addr):It :=
 ⟨λi H=>∃xs x,SqL K H a xs/\xs[i]?=some x,λi H x H'=>H'=H/\∀xs,SqL K H a xs->xs[i]?=some x,λi H=>∃xs,SqL K H a xs/\xs.length<=i⟩
def Itt(K:PySem.W.Frag)(a:Addr):It :=
 ⟨λi H=>∃xs x,SqT K H a xs/\xs[i]?=some x,λi H x H'=>H'=H/\∀xs,SqT K H a xs->xs[i]?=some x,λi H=>∃xs,SqT K H a xs/\xs.length<=i⟩
def Itr(lo:Int)(n:Nat):It:=⟨λi _=>i<n,λi H x H'=>H'=H/\x=.int (lo+i),λi _=>n<=i⟩
theorem ag0_{P:Program}{w:World}{K:PySem.W.Frag}{tg:Expr}(a it:Addr):Turn P w K tg (Itl K a) [it] it (λi h=>h.IsListIter it a i) where
 mem:=by simp
 obj:=λi h st b hb=>by
  have e:b=it:=by simpa using hb
  subst e
  obtain⟨o,e,c,d⟩:=st
  exact⟨o,e,λv z=>by rw[d]at z;cases z⟩
 keep:=λi h h' st k=>st.at λo e=>k it (by simp) o e
 item:=by
  intro X hP hw hK hc i pins s σ H E I hf st hg
  subst hP hw hK
  obtain⟨xs,x,hq,hx⟩:=hg
  obtain⟨its,rv,p,hz⟩:=I.list hq
  obtain⟨u,hu,ru⟩:=rv.get hx
  obtain⟨f0,f1,f2,f3,f4,f5⟩:=hf it (by simp)
  refine wpAny_pyNext_list_item st p.isList (x:=u) (by simpa using hu) λh' st' sb=>?_
  have I1:Inv X pins σ H { s with heap:=h' }:=I.turned (t':=s.toks) (λb o hb e=>(sb.2 b hb).trans e) f0 f1 f3 f4 f5
  obtain⟨o,e,c,d⟩:=id st'
  exact⟨u,rfl,ady_ (s:={ s with heap:=h' }) e c d (by decide) ⟨x,H,I1,ru,⟨rfl,λys hy=>by rw[I.list_inj hy hq];exact hx⟩,st',λb hb=>(hf b hb).1⟩⟩
 done:=by
  intro X hP hw hK hc i pins s σ H E I hf st hg
  subst hP hw hK
  obtain⟨xs,hq,hx⟩:=hg
  obtain⟨its,rv,p,hz⟩:=I.list hq
  obtain⟨f0,f1,f2,f3,f4,f5⟩:=hf it (by simp)
  have hl:=rv.length
  exact wpAny_pyNext_list_end (I.ok.hd hc) st p.isList (by simp;omega) λh' eb=>⟨rfl,I.turned (t':=s.toks) (λb o hb e=>eb b o hb e) f0 f1 f3 f4 f5⟩
 self:=λ_ _ _ _ _ st h=>wpAny_pyIter_listiter st h
theorem ad4_{P:Program}{w:World}{K:PySem.W.Frag}{tg:Expr}(a it:Addr):Turn P w K tg (Itt K a) [it] it (λi h=>h.IsTupleIter it a i) where
 mem:=by simp
 obj:=λi h st b hb=>by
  have e:b=it:=by simpa using hb
  subst e
  obtain⟨o,e,c,d⟩:=st
  exact⟨o,e,λv z=>by rw[d]at z;cases z⟩
 keep:=λi h h' st k=>st.at λo e=>k it (by simp) o e
 item:=by
  intro X hP hw hK hc i pins s σ H E I hf st hg
  subst hP hw hK
  obtain⟨xs,x,hq,hx⟩:=hg
  obtain⟨its,rv,p,hz⟩:=I.tuple hq
  obtain⟨u,hu,ru⟩:=rv.get hx
  obtain⟨f0,f1,f2,f3,f4,f5⟩:=hf it (by simp)
  refine wpAny_pyNext_tuple_item st (show s.heap.IsTuple a its.toArray from p) (x:=u) (by simpa using hu) λh' st' sb=>?_
  have I1:Inv X pins σ H { s with heap:=h' }:=I.turned (t':=s.toks) (λb o hb e=>(sb.2 b hb).trans e) f0 f1 f3 f4 f5
  obtain⟨o,e,c,d⟩:=id st'
  exact⟨u,rfl,ady_ (s:={ s with heap:=h' }) e c d (by decide) ⟨x,H,I1,ru,⟨rfl,λys hy=>by rw[I.tuple_inj hy hq];exact hx⟩,st',λb hb=>(hf b hb).1⟩⟩
 done:=by
  intro X hP hw hK hc i pins s σ H E I hf st hg
  subst hP hw hK
  obtain⟨xs,hq,hx⟩:=hg
  obtain⟨its,rv,p,hz⟩:=I.tuple hq
  obtain⟨f0,f1,f2,f3,f4,f5⟩:=hf it (by simp)
  have hl:=rv.length
  exact wpAny_pyNext_tuple_end (I.ok.hd hc) st (show s.heap.IsTuple a its.toArray from p) (by simp;omega) λh' eb=>⟨rfl,I.turned (t':=s.toks) (λb o hb e=>eb b o hb e) f0 f1 f3 f4 f5⟩
 self:=λ_ _ _ _ _ st h=>wpAny_pyIter_tupleiter st h
theorem aek_{P:Program}{w:World}{K:PySem.W.Frag}{tg:Expr}(it:Addr)(lo:Int)(n:Nat):Turn P w K tg (Itr lo n) [it] it (λi h=>IsRangeIter h it (lo+(i:Nat)*1) ((n:Int)-(i:Nat)) 1) where
 mem:=by simp
 obj:=λi h st b hb=>by
  have e:b=it:=by simpa using hb
  subst e
  exact⟨_,st,λv z=>by
   have z':Data.fields _=Data.cell v:=z
   cases z'⟩
 keep:=λi h h' st k=>k it (by simp) _ st
 item:=by
  intro X hP hw hK hc i pins s σ H E I hf st hg
  subst hP hw hK
  obtain⟨f0,f1,f2,f3,f4,f5⟩:=hf it (by simp)
  have W:=Walks.range (prog:=X.prog) (w:=X.w) (I.ok.hd hc) it lo 1 n
  refine W.item i s _ _ hg st λv h' tk hv st' kk=>?_
  obtain⟨t,rfl⟩:=hv
  have I1:Inv X pins σ H { s with heap:=h',toks:=tk }:=I.turned (λb o hb e=>kk b o (by simpa using hb) e) f0 f1 f3 f4 f5
  refine⟨_,rfl,ady_ (s:={ s with heap:=h',toks:=tk }) (n := "range_iterator") st' rfl rfl (by decide) ⟨.int (lo+i),H,I1,⟨t,?_⟩,⟨rfl,rfl⟩,st',λb hb=>(hf b hb).1⟩⟩
  rw[Int.mul_one]
 done:=by
  intro X hP hw hK hc i pins s σ H E I hf st hg
  subst hP hw hK
  obtain⟨f0,f1,f2,f3,f4,f5⟩:=hf it (by simp)
  exact wpAny_pyNext_range_end (I.ok.hd hc) st (by have:n<=i:=hg;omega) λh' eb=>⟨rfl,I.turned (t':=s.toks) (λb o hb e=>eb b o hb e) f0 f1 f3 f4 f5⟩
 self:=λ_ _ _ _ _ st h=>wpAny_pyIter_rangeiter st h
end L2
namespace L2
open PySem PySem.Spec PyProof.Rows
section
variable{X:Cx}{tg:Expr}
def apw_(K:PySem.W.Frag)(tl:TE):TI:=λσ H R=>tl σ H λx H1=>∃a,x=.ref a/\(∃xs,SqL K H1 a xs)/\R (Itl K a) H1
def iTup(K:PySem.W.Frag)(tl:TE):TI:=λσ H R=>tl σ H λx H1=>∃a,x=.ref a/\(∃xs,SqT K H1 a xs)/\R (Itt K a) H1
theorem qu_{l:Expr}{tl:TE}(hl:PE X l tl):PI X tg l (apw_ X.K tl):=by
 intro pins s σ H R I h
 refine thn (hl pins s σ H _ I h) λv s1 ⟨x,H1,I1,r1,q1⟩=>?_
 obtain⟨a,e,⟨xs,hq⟩,q⟩:=q1
 subst e
 cases r1
 obtain⟨its,rv,p,hz⟩:=I1.list hq
 refine wpAny_pyIter_list p.isList ?_
 refine⟨s1.heap.objs.size,[s1.heap.objs.size],_,_,H1,rfl,I1.kept (t':=s1.toks) λb o e=>AB _ e,ag0_ a _,⟨_,AM _ rfl,rfl,rfl⟩,λb hb=>?_,q⟩
 have e:b=s1.heap.objs.size:=by simpa using hb
 subst e
 exact I1.fpOk (AG _) (I1.hok.fresh (AG _))
theorem jF_{l:Expr}{tl:TE}(hl:PE X l tl):PI X tg l (iTup X.K tl):=by
 intro pins s σ H R I h
 refine thn (hl pins s σ H _ I h) λv s1 ⟨x,H1,I1,r1,q1⟩=>?_
 obtain⟨a,e,⟨xs,hq⟩,q⟩:=q1
 subst e
 cases r1
 obtain⟨its,rv,p,hz⟩:=I1.tuple hq
 refine wpAny_pyIter_tuple (show s1.heap.IsTuple a its.toArray from p) ?_
 refine⟨s1.heap.objs.size,[s1.heap.objs.size],_,_,H1,rfl,I1.kept (t':=s1.toks) λb o e=>AB _ e,ad4_ a _,⟨_,AM _ rfl,rfl,rfl⟩,λb hb=>?_,q⟩
 have e:b=s1.heap.objs.size:=by simpa using hb
 subst e
 exact I1.fpOk (AG _) (I1.hok.fresh (AG _))
theorem aa3_{pins:List (Addr×Obj)}{σ:St}{H:Hp}{s:Shared}{R:It->Hp->Prop}{E:Value->Shared->Prop}{lo hi:Int}{t u v:Tok}{tk:Nat}(I:Inv X pins σ H s)(h1:-(2^62)<=lo)(h2:lo<2^62)(h3:-(2^62)<=hi)(h4:hi<2^62)
  (q:R (Itr lo (hi-lo).toNat) H):wpAny (model X.prog X.w) X.A (pyIter (.ref s.heap.objs.size)) (PIE X pins σ tg R) E { s with heap:=s.heap.push { cls:=.type "range",data:=.fields #[.int lo t,.int hi u,.int 1 v] },toks:=tk }:=by
 refine wpAny_pyIter_range (IsRange.new ..) (small_one h1 h2 h3 h4) ?_
 have I1:Inv X pins σ H { s with heap:=s.heap.push { cls:=.type "range",data:=.fields #[.int lo t,.int hi u,.int 1 v] },toks:=tk }:=I.kept λb o e=>AB _ e
 refine⟨(s.heap.push { cls:=.type "range",data:=.fields #[.int lo t,.int hi u,.int 1 v] }).objs.size,[(s.heap.push { cls:=.type "range",data:=.fields #[.int lo t,.int hi u,.int 1 v] }).objs.size],_,_,H,rfl,
  I1.kept (t':=tk) λb o e=>AB _ e,aek_ _ lo (hi-lo).toNat,?_,λb hb=>?_,q⟩
 ·have e1:lo+((0:Nat):Int)*1=lo:=by simp
  have e2:(((hi-lo).toNat:Nat):Int)-((0:Nat):Int)=Builtin.Range.rangeSize lo hi 1:=by rw[rangeSize_one];split<;>omega
  show IsRangeIter _ _ (lo+((0:Nat):Int)*1) ((((hi-lo).toNat:Nat):Int)-((0:Nat):Int)) 1
  rw[e1,e2]
  exact AM _ rfl
 ·have e:b=(s.heap.push { cls:=.type "range",data:=.fields #[.int lo t,.int hi u,.int 1 v] }).objs.size:=by simpa using hb
  subst e
  exact I1.fpOk (AG _) (I1.hok.fresh (AG _))
def aqr_(ta:TA):TI:=λσ H R=>ta σ H λvs H1=>∃j:Int,vs=[.int j]/\-(2^62)<=j/\j<2^62/\R (Itr 0 j.toNat) H1
def ap7_(ta:TA):TI:=λσ H R=>ta σ H λvs H1=>∃i j:Int,vs=[.int i,.int j]/\(-(2^62)<=i/\i<2^62/\-(2^62)<=j/\j<2^62)/\R (Itr i (j-i).toNat) H1
theorem zm_{a:Expr}{ta:TA}{p pos:Pos}(hg:Gl X "range")(hm:X.mg "range" = none)(ha:PA X [a] ta)(hs:starEach [a] X.env=[(false,eval a X.env)]:=by rfl):PI X tg (.Call (.Name "range" p) [a] [] pos) (aqr_ ta):=by
 intro pins s σ H R I h
 refine Call_ (jl_ I hg hm boot_range (B0 (thn (ha pos pins s σ H _ I h) λus s1 ⟨vs,H1,I1,r1,q1⟩=>?_) hs rfl))
 obtain⟨j,e,q1,q2,q⟩:=q1
 subst e
 cases r1 with
 |cons r rr =>
  cases rr
  obtain⟨t,rfl⟩:=r
  exact call_range_1 (aa3_ I1 (by omega) (by omega) q1 q2 (by simpa using q))
theorem agt_{a b:Expr}{ta:TA}{p pos:Pos}(hg:Gl X "range")(hm:X.mg "range" = none)(ha:PA X [a,b] ta)(hs:starEach [a,b] X.env=[(false,eval a X.env),(false,eval b X.env)]:=by rfl)(hs2:starEach [b] X.env=[(false,eval b X.env)]:=by rfl) :
  PI X tg (.Call (.Name "range" p) [a,b] [] pos) (ap7_ ta):=by
 intro pins s σ H R I h
 refine Call_ (jl_ I hg hm boot_range (B0 (thn (ha pos pins s σ H _ I h) λus s1 ⟨vs,H1,I1,r1,q1⟩=>?_) (by rw[hs,hs2]) (by rw[hs2];rfl)))
 obtain⟨i,j,e,⟨q1,q2,q3,q4⟩,q⟩:=q1
 subst e
 cases r1 with
 |cons r rr =>
  cases rr with
  |cons r' rr =>
   cases rr
   obtain⟨t,rfl⟩:=r
   obtain⟨t',rfl⟩:=r'
   exact call_range_2 (aa3_ I1 q1 q2 q3 q4 q)
def tFor(wi:TI)(g:TG)(tb:TS):TS:=λD σ H=>wi σ H λJ H1=>∃W:Nat->Nat->St->Hp->Prop,(∃m,W 0 m σ H1)/\∀i m σ H,W i m σ H ->
 (J.stop i H/\D.nx σ H)∨(J.go i H/\∃N:St->Hp->Prop,(∀σ' H',N σ' H'->∃m',m'<m/\W (i+1) m' σ' H')/\∀x H',J.yld i H x H'->g x σ H' λσ2 H2=>tb { D with nx:=N,ct:=N,bk:=D.nx } σ2 H2)
def xJ_(fp:List Addr)(h:Heap):List (Addr×Obj):=fp.filterMap λb=>(h.get? b).map λo=>(b,o)
theorem jh_{fp:List Addr}{h:Heap}{b:Addr}{o:Obj}(hb:b∈fp)(e:h.get? b=some o):(b,o)∈xJ_ fp h:=Cy.mpr ⟨b,hb,by rw[e];rfl⟩
theorem aft_{fp:List Addr}{h:Heap}{p:Addr×Obj}(hp:p∈xJ_ fp h):p.1∈fp/\h.get? p.1=some p.2:=by
 obtain⟨b,hb,e⟩:=Cy.mp hp
 cases q:h.get? b with
 |none=>rw[q]at e;cases e
 |some o =>
  rw[q]at e
  have e':(b,o)=p:=AW e
  subst e'
  exact⟨hb,q⟩
theorem Inv.pinned{pins:List (Addr×Obj)}{σ:St}{H:Hp}{s:Shared}{fp:List Addr}(I:Inv X pins σ H s)(hf:∀b∈fp,js_ X pins H b)(ho:∀b∈fp,∃o,s.heap.get? b=some o/\∀v,o.data≠.cell v):Inv X (pins++xJ_ fp s.heap) σ H s :=
 I.pins_of λp hp=>(Ak.mp hp).elim (λz=>I.pin p (Al _ z)) λz=>by
  obtain⟨hb,e⟩:=aft_ z
  obtain⟨f0,f1,f2,_⟩:=hf p.1 hb
  obtain⟨o,e',d⟩:=ho p.1 hb
  rw[e]at e';cases e'
  exact⟨e,f0,f1,f2,d⟩
theorem Inv.unpinned{pins pl:List (Addr×Obj)}{σ:St}{H:Hp}{s:Shared}(I:Inv X (pins++pl) σ H s):Inv X pins σ H s:=I.pins_of λp hp=>I.pin p (Al _ (Aw _ hp))
theorem qw_{iter:Expr}{body:List Stmt}{wi:TI}{g:TG}{tb:TS}{pos:Pos}(hp:PassesOwn (model X.prog X.w) X.A X.env X.xe)(hc:X.calm=true)(hi:PI X tg iter wi)(hg:PG X tg g)(hb:PSs X body tb)
  (hs:∀x,foldedSetIterable iter X.env x=pure x:=by intro _;rfl):PS X (.For tg iter body [] pos) (tFor wi g tb):=by
 intro pins s σ H D I h
 refine wpAny_For (thn (hi pins s σ H _ I h) λv s1 h1=>thn h1 λitv s2 h2=>?_) hs
 obtain⟨it,fp,tn,J,H2,e,I2,T,st2,f2,W,⟨m0,w0⟩,turn⟩:=h2
 subst e
 have stat:∀{H':Hp},(∀b∈fp,H' b=none)->∀b∈fp,js_ X pins H' b:=λhn b hb=>⟨hn b hb,(f2 b hb).2⟩
 refine codeAny_forLoop_any (λn s'=>∃i σ' H',Inv X pins σ' H' s'/\tn i s'.heap/\(∀b∈fp,H' b=none)/\W i n σ' H') ?_ m0 ⟨0,σ,H2,I2,st2,λb hb=>(f2 b hb).1,w0⟩
 rintro n s3 ⟨i,σ3,H3,I3,st3,fr3,w3⟩
 rcases turn i n σ3 H3 w3 with⟨stop,qn⟩|⟨go,N,hN,step⟩
 ·refine wpAny_passesOwn hp (thn (T.done X rfl rfl rfl hc i pins s3 σ3 H3 X.xe I3 (stat fr3) st3 stop) λr s4 ⟨hr,I4⟩=>?_)
  subst hr
  exact wpAny_execs_nil ⟨σ3,H3,I4,qn⟩
 ·refine wpAny_passesOwn hp (thn (T.item X rfl rfl rfl hc i pins s3 σ3 H3 X.xe I3 (stat fr3) st3 go) λr s4 ⟨u,hr,h4⟩=>?_)
  subst hr
  refine wpAny_passesOwn hp (thn h4 λ_ s5 ⟨x,H5,I5,r5,y5,st5,fr5⟩=>?_)
  have I5':=I5.pinned (stat fr5) (T.obj _ _ st5)
  refine wpAny_passesOwn hp (thn (hg _ s5 σ3 H5 x u _ I5' r5 (step x H5 y5)) λ_ s6 ⟨σ6,H6,I6,q6⟩=>?_)
  refine wpAny_passesOwn hp (thn (hb _ s6 σ6 H6 _ I6 q6) λf s7 q7=>?_)
  have again:∀{σ7:St}{H7:Hp},Inv X (pins++xJ_ fp s5.heap) σ7 H7 s7->N σ7 H7->∃m,m<n/\∃i σ' H',Inv X pins σ' H' s7/\tn i s7.heap/\(∀b∈fp,H' b=none)/\W i m σ' H':=λ{σ7 H7} I7 n7=>by
   obtain⟨m',hm,w7⟩:=hN σ7 H7 n7
   refine⟨m',hm,i+1,σ7,H7,I7.unpinned,T.keep _ _ _ st5 λb hb o e=>(I7.pin (b,o) (Al _ (Al _ (jh_ hb e)))).1,λb hb=>?_,w7⟩
   obtain⟨o,e,d⟩:=T.obj _ _ st5 b hb
   exact(I7.pin (b,o) (Al _ (Al _ (jh_ hb e)))).2.1
  cases f with
  |next=>obtain⟨σ7,H7,I7,n7⟩:=q7;exact again I7 n7
  |cont=>obtain⟨σ7,H7,I7,n7⟩:=q7;exact again I7 n7
  |brk=>obtain⟨σ7,H7,I7,q7⟩:=q7;exact⟨σ7,H7,I7.unpinned,q7⟩
  |ret v=>obtain⟨x7,σ7,H7,I7,r7,q7⟩:=q7;exact⟨x7,σ7,H7,I7.unpinned,r7,q7⟩
end
theorem qE_{K:PySem.W.Frag}{a:Addr}{xs:List V}{g:TG}{tb:TS}{D:Ends}{σ:St}{H:Hp}(Pv:Nat->St->Hp->Prop)(h0:Pv 0 σ H)(hl:∀i σ H,i<=xs.length->Pv i σ H->SqL K H a xs)
  (hs:∀i x σ H,xs[i]?=some x->Pv i σ H->g x σ H λσ2 H2=>tb { D with nx:=Pv (i+1),ct:=Pv (i+1),bk:=D.nx } σ2 H2) (hd:∀σ H,Pv xs.length σ H->D.nx σ H) :
  ∃W:Nat->Nat->St->Hp->Prop,(∃m,W 0 m σ H)/\∀i m σ H,W i m σ H ->
   ((Itl K a).stop i H/\D.nx σ H)∨((Itl K a).go i H/\∃N:St->Hp->Prop,(∀σ' H',N σ' H'->∃m',m'<m/\W (i+1) m' σ' H')/\∀x H',(Itl K a).yld i H x H'->g x σ H' λσ2 H2=>tb { D with nx:=N,ct:=N,bk:=D.nx } σ2 H2):=by
 refine⟨λi m σ H=>m=xs.length-i/\i<=xs.length/\Pv i σ H,⟨xs.length,by simp,Ap _,h0⟩,?_⟩
 rintro i m σ H ⟨rfl,hi,p⟩
 have q:=hl i σ H hi p
 by_cases hlt:i<xs.length
 ·refine .inr ⟨⟨xs,xs[i],q,by simp [hlt]⟩,Pv (i+1),λσ' H' p'=>⟨xs.length-(i+1),by omega,rfl,hlt,p'⟩,λx H' y=>?_⟩
  obtain⟨e,y⟩:=y
  subst e
  exact hs i x σ _ (y xs q) p
 ·have e:i=xs.length:=by omega
  subst e
  exact .inl ⟨⟨xs,q,AG _⟩,hd σ H p⟩
theorem adk_{K:PySem.W.Frag}{a:Addr}{xs:List V}{g:TG}{tb:TS}{D:Ends}{σ:St}{H:Hp}(Pv:Nat->St->Hp->Prop)(h0:Pv 0 σ H)(hl:∀i σ H,i<=xs.length->Pv i σ H->SqT K H a xs)
  (hs:∀i x σ H,xs[i]?=some x->Pv i σ H->g x σ H λσ2 H2=>tb { D with nx:=Pv (i+1),ct:=Pv (i+1),bk:=D.nx } σ2 H2) (hd:∀σ H,Pv xs.length σ H->D.nx σ H) :
  ∃W:Nat->Nat->St->Hp->Prop,(∃m,W 0 m σ H)/\∀i m σ H,W i m σ H ->
   ((Itt K a).stop i H/\D.nx σ H)∨((Itt K a).go i H/\∃N:St->Hp->Prop,(∀σ' H',N σ' H'->∃m',m'<m/\W (i+1) m' σ' H')/\∀x H',(Itt K a).yld i H x H'->g x σ H' λσ2 H2=>tb { D with nx:=N,ct:=N,bk:=D.nx } σ2 H2):=by
 refine⟨λi m σ H=>m=xs.length-i/\i<=xs.length/\Pv i σ H,⟨xs.length,by simp,Ap _,h0⟩,?_⟩
 rintro i m σ H ⟨rfl,hi,p⟩
 have q:=hl i σ H hi p
 by_cases hlt:i<xs.length
 ·refine .inr ⟨⟨xs,xs[i],q,by simp [hlt]⟩,Pv (i+1),λσ' H' p'=>⟨xs.length-(i+1),by lia,rfl,hlt,p'⟩,λx H' y=>?_⟩
  obtain⟨e,y⟩:=y
  subst e
  exact hs i x σ _ (y xs q) p
 ·have e:i=xs.length:=by lia
  subst e
  exact .inl ⟨⟨xs,q,AG _⟩,hd σ H p⟩
theorem zI_{lo:Int}{n:Nat}{g:TG}{tb:TS}{D:Ends}{σ:St}{H:Hp}(Pv:Nat->St->Hp->Prop)(h0:Pv 0 σ H)
  (hs:∀i σ H,i<n->Pv i σ H->g (.int (lo+i)) σ H λσ2 H2=>tb { D with nx:=Pv (i+1),ct:=Pv (i+1),bk:=D.nx } σ2 H2) (hd:∀σ H,Pv n σ H->D.nx σ H) :
  ∃W:Nat->Nat->St->Hp->Prop,(∃m,W 0 m σ H)/\∀i m σ H,W i m σ H ->
   ((Itr lo n).stop i H/\D.nx σ H)∨((Itr lo n).go i H/\∃N:St->Hp->Prop,(∀σ' H',N σ' H'->∃m',m'<m/\W (i+1) m' σ' H')/\∀x H',(Itr lo n).yld i H x H'->g x σ H' λσ2 H2=>tb { D with nx:=N,ct:=N,bk:=D.nx } σ2 H2):=by
 refine⟨λi m σ H=>m=n-i/\i<=n/\Pv i σ H,⟨n,by simp,Ap _,h0⟩,?_⟩
 rintro i m σ H ⟨rfl,hi,p⟩
 by_cases hlt:i<n
 ·refine .inr ⟨hlt,Pv (i+1),λσ' H' p'=>⟨n-(i+1),by omega,rfl,hlt,p'⟩,λx H' y=>?_⟩
  obtain⟨e,y⟩:=y
  subst e y
  exact hs i σ _ hlt p
 ·have e:i=n:=by omega
  subst e
  exact .inl ⟨AG _,hd σ H p⟩
end L2
namespace L2
open PySem PySem.Spec PyProof.Rows
abbrev R2:=V->V->Hp->VK->Prop
def OpR(X:Cx)(f:Value->Value->Sem Value)(r:R2):Prop :=
 ∀(pins:List (Addr×Obj))(s:Shared)(σ:St)(H:Hp)(x y:V)(v u:Value)(Q:VK),Inv X pins σ H s->RelV x v->RelV y u->r x y H Q ->
  wpAny (model X.prog X.w) X.A (f v u) (EP X pins σ Q) X.xe s
def UnR(X:Cx)(f:Value->Sem Value)(r:V->Hp->VK->Prop):Prop :=
 ∀(pins:List (Addr×Obj))(s:Shared)(σ:St)(H:Hp)(x:V)(v:Value)(Q:VK),Inv X pins σ H s->RelV x v->r x H Q ->
  wpAny (model X.prog X.w) X.A (f v) (EP X pins σ Q) X.xe s
def CallR(X:Cx)(f:Value)(r:List V->Hp->VK->Prop):Prop :=
 ∀(pins:List (Addr×Obj))(s:Shared)(σ:St)(H:Hp)(xs:List V)(us:List Value)(Q:VK),Inv X pins σ H s->Vals xs us->r xs H Q ->
  wpAny (model X.prog X.w) X.A (call f us) (EP X pins σ Q) X.xe s
def tOp(r:R2)(ta tb:TE):TE:=λσ H Q=>ta σ H λx H1=>tb σ H1 λy H2=>r x y H2 Q
def tUn(r:V->Hp->VK->Prop)(ta:TE):TE:=λσ H Q=>ta σ H λx H1=>r x H1 Q
def rI(C:Int->Int->Prop)(g:Int->Int->V):R2:=λx y H Q=>∃i j,x=.int i/\y=.int j/\C i j/\Q (g i j) H
def rI0(g:Int->Int->V):R2:=λx y H Q=>∃i j,x=.int i/\y=.int j/\Q (g i j) H
def rU(g:Int->V):V->Hp->VK->Prop:=λx H Q=>∃i,x=.int i/\Q (g i) H
section
variable{X:Cx}{a b c:Expr}{ta tb tc:TE}{pos:Pos}
theorem binT(ha:PE X a ta)(hb:PE X b tb){pins:List (Addr×Obj)}{s:Shared}{σ:St}{H:Hp}{R:V->V->Hp->Prop}(I:Inv X pins σ H s)
  (h:ta σ H λx H1=>tb σ H1 λy H2=>R x y H2) {Q:Value->Shared->Prop} {f:Value->Value->Sem Value}
  (hf:∀v u s2 x y H2,Inv X pins σ H2 s2->RelV x v->RelV y u->R x y H2->wpAny (model X.prog X.w) X.A (f v u) Q X.xe s2) :
  wpAny (model X.prog X.w) X.A (eval a X.env) (λv s₁=>wpAny (model X.prog X.w) X.A (eval b X.env) (λu s₂=>wpAny (model X.prog X.w) X.A (f v u) Q X.xe s₂) X.xe s₁) X.xe s:=by
 refine thn (ha pins s σ H _ I h) λv s1 ⟨x,H1,I1,r1,q1⟩=>?_
 refine thn (hb pins s1 σ H1 _ I1 q1) λu s2 ⟨y,H2,I2,r2,q2⟩=>?_
 exact hf v u s2 x y H2 I2 r1 r2 q2
theorem qi_{op:Operator}{r:R2}(ho:OpR X (binaryOp op) r)(ha:PE X a ta)(hb:PE X b tb):PE X (.BinOp a op b pos) (tOp r ta tb):=by
 intro pins s σ H Q I h
 exact wpAny_BinOp (binT ha hb I h λv u s2 x y H2 I2 rx ry q=>ho pins s2 σ H2 x y v u Q I2 rx ry q)
theorem yd_{op:UnaryOp}{r:V->Hp->VK->Prop}(ho:UnR X (unaryOp op) r)(ha:PE X a ta):PE X (.UnaryOp op a pos) (tUn r ta):=by
 intro pins s σ H Q I h
 exact UnaryOp_ (thn (ha pins s σ H _ I h) λv s1 ⟨x,H1,I1,r1,q1⟩=>ho pins s1 σ H1 x v Q I1 r1 q1)
theorem opI{f:Value->Value->Sem Value}{C:Int->Int->Prop}{g:Int->Int->Int}
  (rule:∀(i j:Int)(t u:Tok)(s:Shared)(Q:Value->Shared->Prop)(E:Value->Shared->Prop),C i j->Q (.int (g i j) s.toks) { s with toks:=s.toks+1 }->wpAny (model X.prog X.w) X.A (f (.int i t) (.int j u)) Q E s) :
  OpR X f (rI C λi j=>.int (g i j)):=by
 intro pins s σ H x y v u Q I rx ry h
 obtain⟨i,j,rfl,rfl,hc,q⟩:=h
 obtain⟨t,rfl⟩:=rx
 obtain⟨t',rfl⟩:=ry
 exact rule i j t t' s _ _ hc ⟨.int (g i j),H,I.tok _,⟨_,rfl⟩,q⟩
theorem opI0{f:Value->Value->Sem Value}{g:Int->Int->Int}
  (rule:∀(i j:Int)(t u:Tok)(s:Shared)(Q:Value->Shared->Prop)(E:Value->Shared->Prop),Q (.int (g i j) s.toks) { s with toks:=s.toks+1 }->wpAny (model X.prog X.w) X.A (f (.int i t) (.int j u)) Q E s) :
  OpR X f (rI0 λi j=>.int (g i j)):=by
 intro pins s σ H x y v u Q I rx ry h
 obtain⟨i,j,rfl,rfl,q⟩:=h
 obtain⟨t,rfl⟩:=rx
 obtain⟨t',rfl⟩:=ry
 exact rule i j t t' s _ _ ⟨.int (g i j),H,I.tok _,⟨_,rfl⟩,q⟩
theorem opB0{f:Value->Value->Sem Value}{g:Int->Int->Bool}
  (rule:∀(i j:Int)(t u:Tok)(s:Shared)(Q:Value->Shared->Prop)(E:Value->Shared->Prop),Q (.bool (g i j)) s->wpAny (model X.prog X.w) X.A (f (.int i t) (.int j u)) Q E s) :
  OpR X f (rI0 λi j=>.bl (g i j)):=by
 intro pins s σ H x y v u Q I rx ry h
 obtain⟨i,j,rfl,rfl,q⟩:=h
 obtain⟨t,rfl⟩:=rx
 obtain⟨t',rfl⟩:=ry
 exact rule i j t t' s _ _ ⟨.bl (g i j),H,I,rfl,q⟩
def CDiv(i j:Int):Prop:=0<j/\j<1073741824
def CPow(i j:Int):Prop:=0<=j/\j<=1000000/\i.natAbs<2^64
def CMul(i j:Int):Prop:=(-(2^64)<i/\i<2^64)∨(-(2^64)<j/\j<2^64)
theorem CMul.ok{i j:Int}(h:CMul i j):IntMulOk i j:=by
 rcases h with⟨h1,h2⟩|⟨h1,h2⟩
 ·exact .of_left (intBits_le_64 h1 h2)
 ·exact .of_right (intBits_le_64 h1 h2)
theorem qM_:OpR X (binaryOp .Add) (rI0 λi j=>.int (i+j)):=opI0 λ_ _ _ _ _ _ _ q=>add_int q
theorem qZ_:OpR X (binaryOp .Sub) (rI0 λi j=>.int (i-j)):=opI0 λ_ _ _ _ _ _ _ q=>sub_int q
theorem jY_:OpR X (binaryOp .Mult) (rI CMul λi j=>.int (i*j)):=opI λ_ _ _ _ _ _ _ hc q=>mul_int q hc.ok
theorem xc_:OpR X (binaryOp .FloorDiv) (rI CDiv λi j=>.int (i / j)):=opI λi j _ _ _ _ _ hc q=>by
 have h1:(0:Int)<j:=hc.1
 have h2:j<1073741824:=hc.2
 exact floordiv_int (by omega) (by rw[Int.fdiv_eq_ediv_of_nonneg i (by omega)];exact q) (.inl (PyProof.noPylong_small (by omega)))
theorem zq_:OpR X (binaryOp .Mod) (rI (λ_ j=>0<j) λi j=>.int (i%j)):=opI λi j _ _ _ _ _ hc q=>by
 have h1:(0:Int)<j:=hc
 exact mod_int' (by omega) (by rw[Int.fmod_eq_emod_of_nonneg i (by omega)];exact q)
theorem am7_:OpR X (binaryOp .Pow) (rI CPow λi j=>.int (i^j.toNat)):=opI λ_ _ _ _ _ _ _ hc q=>pow_int_small hc.1 hc.2.1 hc.2.2 q
theorem unI{f:Value->Sem Value}{g:Int->Int}
  (rule:∀(i:Int)(t:Tok)(s:Shared)(Q:Value->Shared->Prop)(E:Value->Shared->Prop),Q (.int (g i) s.toks) { s with toks:=s.toks+1 }->wpAny (model X.prog X.w) X.A (f (.int i t)) Q E s) :
  UnR X f (rU λi=>.int (g i)):=by
 intro pins s σ H x v Q I rx h
 obtain⟨i,rfl,q⟩:=h
 obtain⟨t,rfl⟩:=rx
 exact rule i t s _ _ ⟨.int (g i),H,I.tok _,⟨_,rfl⟩,q⟩
theorem xk_:UnR X (unaryOp .USub) (rU λi=>.int (-i)):=unI λ_ _ _ _ _ q=>neg_int q
end
def scal:V->V->Bool
 |.non,.non=>true|.non,.int _=>true|.int _,.non=>true|.non,.bl _=>true|.bl _,.non=>true|.non,.str _=>true|.str _,.non=>true
 |.int _,.int _=>true|.bl _,.bl _=>true|.str _,.str _=>true|.byt _,.byt _=>true
 |.int _,.str _=>true|.str _,.int _=>true|.bl _,.str _=>true|.str _,.bl _=>true
 |_,_=>false
def rEq:R2:=λx y H Q=>scal x y=true/\Q (.bl (decide (x=y))) H
def rNe:R2:=λx y H Q=>scal x y=true/\Q (.bl (!decide (x=y))) H
theorem ada_{i j:Int}:decide (V.int i=V.int j)=(i==j):=by
 rw[DM]
 simp
theorem afr_{i j:Bool}:decide (V.bl i=V.bl j)=(i==j):=by
 rw[DM]
 simp
theorem ado_{i j:Str}:decide (V.str i=V.str j)=(i==j):=by
 rw[DM]
 simp
theorem acu_{i j:Array UInt8}:decide (V.byt i=V.byt j)=(i.toList==j.toList):=by
 rw[DM]
 cases i
 cases j
 simp
section
variable{X:Cx}{a b c:Expr}{ta tb tc:TE}{pos:Pos}
theorem qB_{pins:List (Addr×Obj)}{σ:St}{H:Hp}{s:Shared}{Q:VK}{k k':Bool}(I:Inv X pins σ H s)(q:Q (.bl k) H)(e:k=k'):EP X pins σ Q (.bool k') s:=by
 subst e
 exact⟨.bl k,H,I,rfl,q⟩
theorem xB_:OpR X (compareOp .Eq) rEq:=by
 intro pins s σ H x y v u Q I rx ry h
 obtain⟨hs,q⟩:=h
 cases x with
 |non =>
  cases rx
  cases y with
  |non=>cases ry;exact PySem.EqNone.eq_none_none (qB_ I q (by simp))
  |bl j=>cases ry;exact PySem.EqNone.eq_none_bool (qB_ I q (by simp))
  |int j=>obtain⟨t',rfl⟩:=ry;exact PySem.EqNone.eq_none_int (qB_ I q (by simp))
  |str j=>obtain⟨t',rfl⟩:=ry;exact PySem.EqNone.eq_none_str (qB_ I q (by simp))
  |_=>exact absurd (show false=true from hs) AV
 |bl i =>
  cases rx
  cases y with
  |non=>cases ry;exact PySem.EqNone.eq_bool_none (qB_ I q (by simp))
  |bl j=>cases ry;exact eq_bool (qB_ I q afr_)
  |str j=>obtain⟨t',rfl⟩:=ry;exact PySem.EqMixed.eq_bool_str (qB_ I q (by simp))
  |_=>exact absurd (show false=true from hs) AV
 |int i =>
  obtain⟨t,rfl⟩:=rx
  cases y with
  |non=>cases ry;exact PySem.EqNone.eq_int_none (qB_ I q (by simp))
  |int j=>obtain⟨t',rfl⟩:=ry;exact eq_int (qB_ I q ada_)
  |str j=>obtain⟨t',rfl⟩:=ry;exact PySem.EqMixed.eq_int_str (qB_ I q (by simp))
  |_=>exact absurd (show false=true from hs) AV
 |str i =>
  obtain⟨t,rfl⟩:=rx
  cases y with
  |non=>cases ry;exact PySem.EqNone.eq_str_none (qB_ I q (by simp))
  |bl j=>cases ry;exact PySem.EqMixed.eq_str_bool (qB_ I q (by simp))
  |int j=>obtain⟨t',rfl⟩:=ry;exact PySem.EqMixed.eq_str_int (qB_ I q (by simp))
  |str j=>obtain⟨t',rfl⟩:=ry;exact eq_str (qB_ I q ado_)
  |_=>exact absurd (show false=true from hs) AV
 |byt i =>
  obtain⟨t,rfl⟩:=rx
  cases y with
  |byt j=>obtain⟨t',rfl⟩:=ry;exact PySem.W.eq_bytes (qB_ I q acu_)
  |_=>exact absurd (show false=true from hs) AV
 |_=>cases y<;>exact absurd (show false=true from hs) AV
theorem aar_:OpR X (compareOp .NotEq) rNe:=by
 intro pins s σ H x y v u Q I rx ry h
 obtain⟨hs,q⟩:=h
 cases x with
 |non =>
  cases rx
  cases y with
  |non=>cases ry;exact PySem.EqNone.ne_none_none (qB_ I q (by simp))
  |bl j=>cases ry;exact PySem.EqNone.ne_none_bool (qB_ I q (by simp))
  |int j=>obtain⟨t',rfl⟩:=ry;exact PySem.EqNone.ne_none_int (qB_ I q (by simp))
  |str j=>obtain⟨t',rfl⟩:=ry;exact PySem.EqNone.ne_none_str (qB_ I q (by simp))
  |_=>exact absurd (show false=true from hs) AV
 |bl i =>
  cases rx
  cases y with
  |non=>cases ry;exact PySem.EqNone.ne_bool_none (qB_ I q (by simp))
  |bl j=>cases ry;exact ne_bool (qB_ I q (congrArg not afr_))
  |str j=>obtain⟨t',rfl⟩:=ry;exact PySem.EqMixed.ne_bool_str (qB_ I q (by simp))
  |_=>exact absurd (show false=true from hs) AV
 |int i =>
  obtain⟨t,rfl⟩:=rx
  cases y with
  |non=>cases ry;exact PySem.EqNone.ne_int_none (qB_ I q (by simp))
  |int j=>obtain⟨t',rfl⟩:=ry;exact ne_int (qB_ I q (congrArg not ada_))
  |str j=>obtain⟨t',rfl⟩:=ry;exact PySem.EqMixed.ne_int_str (qB_ I q (by simp))
  |_=>exact absurd (show false=true from hs) AV
 |str i =>
  obtain⟨t,rfl⟩:=rx
  cases y with
  |non=>cases ry;exact PySem.EqNone.ne_str_none (qB_ I q (by simp))
  |bl j=>cases ry;exact PySem.EqMixed.ne_str_bool (qB_ I q (by simp))
  |int j=>obtain⟨t',rfl⟩:=ry;exact PySem.EqMixed.ne_str_int (qB_ I q (by simp))
  |str j=>obtain⟨t',rfl⟩:=ry;exact ne_str (qB_ I q (congrArg not ado_))
  |_=>exact absurd (show false=true from hs) AV
 |byt i =>
  obtain⟨t,rfl⟩:=rx
  cases y with
  |byt j=>obtain⟨t',rfl⟩:=ry;exact PySem.W.ne_bytes (qB_ I q (congrArg not acu_))
  |_=>exact absurd (show false=true from hs) AV
 |_=>cases y<;>exact absurd (show false=true from hs) AV
theorem aaj_:OpR X (compareOp .Lt) (rI0 λi j=>.bl (decide (i<j))):=opB0 λ_ _ _ _ _ _ _ q=>lt_int q
theorem j9_:OpR X (compareOp .Gt) (rI0 λi j=>.bl (decide (j<i))):=opB0 λ_ _ _ _ _ _ _ q=>gt_int q
theorem vN_:OpR X (compareOp .IsNot) (λx y H Q=>y=.non/\Q (.bl (!decide (x=.non))) H):=by
 intro pins s σ H x y v u Q I rx ry h
 obtain⟨rfl,q⟩:=h
 cases ry
 refine isnot_none_gen (qB_ I q ?_)
 cases x<;>first
  |(cases rx;rfl)
  |(obtain⟨t,rfl⟩:=rx;rfl)
theorem OpR.or{f:Value->Value->Sem Value}{r r':R2}(h:OpR X f r)(h':OpR X f r'):OpR X f (λx y H Q=>r x y H Q∨r' x y H Q):=by
 intro pins s σ H x y v u Q I rx ry q
 rcases q with q|q
 ·exact h pins s σ H x y v u Q I rx ry q
 ·exact h' pins s σ H x y v u Q I rx ry q
theorem qt_(b:Expr){op:CmpOp}(h:op≠.In:=by decide)(h2:op≠.NotIn:=by decide):behindInMarks op b=false:=by
 have e1:(op==CmpOp.In)=false:=by cases op<;>first|rfl|exact absurd rfl h
 have e2:(op==CmpOp.NotIn)=false:=by cases op<;>first|rfl|exact absurd rfl h2
 cases b<;>simp [behindInMarks,e1,e2]
theorem ji_{op:CmpOp}{r:R2}(ho:OpR X (compareOp op) r)(ha:PE X a ta)(hb:PE X b tb)(hm:behindInMarks op b=false):PE X (.Compare a [op] [b] pos) (tOp r ta tb):=by
 intro pins s σ H Q I h
 exact wpAny_Compare1 (binT ha hb I h λv u s2 x y H2 I2 rx ry q=>ho pins s2 σ H2 x y v u Q I2 rx ry q) hm
def apj_(t:TE):TT:=λσ H Q=>t σ H λx H'=>∃k,x=.bl k/\Q k H'
theorem qy_{op:CmpOp}{r:R2}(ho:OpR X (compareOp op) r)(ha:PE X a ta)(hb:PE X b tb)(hm:behindInMarks op b=false):PT X (.Compare a [op] [b] pos) (apj_ (tOp r ta tb)):=by
 intro pins s σ H Q I h
 refine wpAny_isTrue_Compare1 (thn (ha pins s σ H _ I h) λv s1 ⟨x,H1,I1,r1,q1⟩=>thn (hb pins s1 σ H1 _ I1 q1) λu s2 ⟨y,H2,I2,r2,q2⟩ =>
  thn (ho pins s2 σ H2 x y v u _ I2 r1 r2 q2) λc s3 ⟨z,H3,I3,r3,k,e,q3⟩=>?_) hm
 subst e
 cases r3
 exact wpAny_truthy_bool ⟨H3,I3,q3⟩
theorem vk_:(sizeLine:Nat)<2^63:=by rw[sizeLine_eq];decide
theorem zT_{x:V}{us:List Value}(r:Vals [x] us):∃u,us=[u]/\RelV x u:=by
 cases r with
 |cons r1 r2=>cases r2;exact⟨_,rfl,r1⟩
theorem jE_{x y:V}{us:List Value}(r:Vals [x,y] us):∃u w',us=[u,w']/\RelV x u/\RelV y w':=by
 cases r with
 |cons r1 r2 =>
  cases r2 with
  |cons r3 r4=>cases r4;exact⟨_,_,rfl,r1,r3⟩
end
end L2
namespace L2
open PySem PySem.Spec PyProof.Rows
structure ObjM(h:Heap)(x dx C:Addr)(mA:Str->Option Value):Prop where
 obj:h.get? x=some (PySem.W.instObj C dx)
 ns:h.Ns1 dx mA
 ne:dx≠x
theorem v7_{h:Heap}{dx:Addr}{mA:Str->Option Value}(n:h.Ns1 dx mA):∃od,h.get? dx=some od/\∀name,PySem.W.lookIn name od=some (mA name):=by
 obtain⟨o,es,ep,ho,hd,hk,_,hm⟩:=n
 refine⟨o,ho,λname=>?_⟩
 have e:=hm name
 unfold nsFind findBy at e
 rw[<-Array.find?_toList]at e
 unfold PySem.W.lookIn
 rw[hd]
 dsimp only
 split
 ·rename_i y q
  rw[q]at e
  exact congrArg some e
 ·rename_i q
  rw[q]at e
  have a:es.toList.any (·.refKey)=false:=by
   rw[List.any_eq_false]
   intro y hy
   obtain⟨z,t,hkey⟩:=hk y (Array.mem_toList_iff.mp hy)
   simp [DictEntry.refKey,hkey]
  have a':¬ es.toList.any (·.refKey)=true:=by rw[a];exact AV
  rw[if_neg a']
  exact congrArg some e
theorem ObjM.look{h:Heap}{x dx C:Addr}{mA:Str->Option Value}(I:ObjM h x dx C mA):∃od,PySem.W.InstAt h x (PySem.W.instObj C dx) C (some od)/\∀name,PySem.W.lookIn name od=some (mA name) :=
 let ⟨od,ho,hl⟩:=v7_ I.ns
 ⟨od,⟨I.obj,rfl,rfl,ho⟩,hl⟩
def j3_(f:Str)(v:V):List (Str×V)->List (Str×V)
 |[]=>[(f,v)]
 |(g,x)::r=>if g=f then (g,v)::r else (g,x)::j3_ f v r
theorem yI_(f g:Str)(v:V):∀fs:List (Str×V),(j3_ f v fs).lookup g=if g=f then some v else fs.lookup g
 |[]=>by
  show List.lookup g [(f,v)]=_
  by_cases h:g=f
  ·have hb:(g==f)=true:=beq_iff_eq.mpr h
   simp only[List.lookup,hb,if_pos h]
  ·have hb:(g==f)=false:=beq_eq_false_iff_ne.mpr h
   simp only[List.lookup,hb,if_neg h]
 |(k,x)::r=>by
  have ih:=yI_ f g v r
  rw[show j3_ f v ((k,x)::r)=(if k=f then (k,v)::r else (k,x)::j3_ f v r) from rfl]
  by_cases hk:k=f
  ·rw[if_pos hk]
   by_cases h:g=k
   ·have hb:(g==k)=true:=beq_iff_eq.mpr h
    simp only[List.lookup,hb,if_pos (h.trans hk)]
   ·have hb:(g==k)=false:=beq_eq_false_iff_ne.mpr h
    simp only[List.lookup,hb,if_neg (λe:g=f=>h (e.trans hk.symm))]
  ·rw[if_neg hk]
   by_cases h:g=k
   ·have hb:(g==k)=true:=beq_iff_eq.mpr h
    simp only[List.lookup,hb,if_neg (λe:g=f=>hk (h.symm.trans e))]
   ·have hb:(g==k)=false:=beq_eq_false_iff_ne.mpr h
    simp only[List.lookup,hb]
    exact ih
theorem yl_(f:Str)(v:V):∀fs:List (Str×V),f∈(j3_ f v fs).map (·.1)/\∀g,g∈fs.map (·.1)->g∈(j3_ f v fs).map (·.1)
 |[]=>⟨by simp [j3_],λg h=>by simp at h⟩
 |(k,x)::r=>by
  obtain⟨i1,i2⟩:=yl_ f v r
  rw[show j3_ f v ((k,x)::r)=(if k=f then (k,v)::r else (k,x)::j3_ f v r) from rfl]
  by_cases hk:k=f
  ·rw[if_pos hk]
   subst hk
   exact⟨by simp,λg h=>by simpa using h⟩
  ·rw[if_neg hk]
   refine⟨?_,λg h=>?_⟩
   ·rw[Aa]
    exact AC _ i1
   ·rw[Aa]at h ⊢
    rcases AJ.mp h with e|e
    ·exact AJ.mpr (.inl e)
    ·exact AC _ (i2 g e)
theorem RelO.some_of{v:V}{o:Option Value}(r:RelO (some v) o):∃u,o=some u/\RelV v u:=by
 cases o with
 |none=>exact(show False from r).elim
 |some u=>exact⟨u,rfl,r⟩
theorem agv_{v:V}{u:Value}(r:RelV v u):PySem.W.handedIn u=true:=by
 cases v with
 |non=>cases(show u=Value.none from r);rfl
 |bl b=>cases(show u=Value.bool b from r);rfl
 |int i=>obtain⟨t,e⟩:=(show ∃t,u=Value.int i t from r);cases e;rfl
 |str x=>obtain⟨t,e⟩:=(show ∃t,u=Value.str x t from r);cases e;rfl
 |byt b=>obtain⟨t,e⟩:=(show ∃t,u=Value.bytes b t from r);cases e;rfl
 |flt b=>obtain⟨t,e⟩:=(show ∃t,u=Value.float b t from r);cases e;rfl
 |ref a=>cases(show u=Value.ref a from r);rfl
 |ty n=>cases(show u=Value.type n from r);rfl
section
variable{P:Program}{w:World}{H H':Hp}{h h':Heap}{a C dx:Addr}{fs fs':List (Str×V)}
theorem als_(hok:HOk P w H h)(e:H a=some (.ins C dx fs)):∃mA,ObjM h a dx C mA/\(∀f,RelO (fs.lookup f) (mA f))/\PySem.Within mA (fs.map (·.1))/\fs.length<=1000/\H dx=some (.own a):=by
 obtain⟨d,z,ne,ob,mA,n,r,q⟩:=(show ObjOk P w H h a (.ins C dx fs) from hok a _ e)
 exact⟨mA,⟨ob,n,ne⟩,r,q,z,d⟩
end
structure Cls(K:PySem.W.Frag)(C:Addr):Prop where
 pg:PySem.W.plainGet K C Str.empty=true
 hd:PySem.W.hasDictIn K C=true
 po:PySem.W.plainOver K C=true
 sa:PySem.W.findIn K (.ref C) "__setattr__" = some (some (.builtin "object.__setattr__"))
theorem Cls.get{K:PySem.W.Frag}{C:Addr}(c:Cls K C)(f:Str):PySem.W.plainGet K C f=true:=c.pg
structure Con(K:PySem.W.Frag)(C:Addr)(f:Str)(v:V)(u:Value):Prop where
 at_:PySem.W.findIn K (.ref C) f=some (some u)
 rel:RelV v u
 get:PySem.W.specialIn K u "__get__" = some none
 cp:PySem.W.copiedNames.contains f=false
structure Meth(K:PySem.W.Frag)(C:Addr)(m:Str)(f:Addr):Prop where
 at_:PySem.W.findIn K (.ref C) m=some (some (.ref f))
 fn:PySem.W.isFn K (.ref f)=true
 kp:PySem.W.keepIn K (.ref f)=true
section
variable{X:Cx}{pins:List (Addr×Obj)}{σ:St}{H:Hp}{s:Shared}{a C dx:Addr}{fs:List (Str×V)}{f:Str}{v:V}{A:Around}{E:Value->Shared->Prop}
theorem Inv.made(I:Inv X pins σ H s):Inv X pins σ (upd (upd H s.heap.objs.size (.own (s.heap.objs.size+1))) (s.heap.objs.size+1) (.ins C s.heap.objs.size []))
  { s with heap:=(s.heap.push PySem.W.emptyDict).push (PySem.W.instObj C s.heap.objs.size) }:=by
 have e1:(s.heap.push PySem.W.emptyDict).get? s.heap.objs.size=some PySem.W.emptyDict:=AM s.heap rfl
 have e2:((s.heap.push PySem.W.emptyDict).push (PySem.W.instObj C s.heap.objs.size)).get? (s.heap.objs.size+1)=some (PySem.W.instObj C s.heap.objs.size):=by
  have:=AM (s.heap.push PySem.W.emptyDict) (o:=PySem.W.instObj C s.heap.objs.size) rfl
  rwa [BP]at this
 have e3:(s.heap.push PySem.W.emptyDict).Ns s.heap.objs.size (λ_=>none):=⟨PySem.W.emptyDict,#[],_,e1,rfl,(λe he=>absurd he (by simp)),λ_=>rfl⟩
 have I1:=I.laid (a:=s.heap.objs.size) (o:=.own (s.heap.objs.size+1)) (h':=s.heap.push PySem.W.emptyDict) (t':=s.toks) (λb u q=>AB _ q) (AG _) ⟨_,e1⟩
 refine I1.laid (a:=s.heap.objs.size+1) (o:=.ins C s.heap.objs.size []) (t':=s.toks) (λb u q=>AB _ q) (Nat.le_of_eq (BP _ _)) ?_
 have ne:s.heap.objs.size≠s.heap.objs.size+1:=Ag (Nat.lt_succ_self _)
 refine⟨by rw[qk_ ne,qc_],Ap _,ne,e2,λ_=>none,(Heap.Ns1.of_empty e3).at λo q=>AB _ q,λ_=>True.intro,λy hy=>absurd rfl hy⟩
theorem aka_{prog:Program}{w:World}{env:Env}{e:Expr}{f:Str}{pos:Pos}{s:Shared}{Q:Value->Shared->Prop}(hb:attributeBase e f env (eval e env)=eval e env)
  (h:wpAny (model prog w) A (eval e env) (λo s₁=>wpAny (model prog w) A (getAttr o f true) Q E s₁) E s):wpAny (model prog w) A (eval (.Attribute e f pos) env) Q E s :=
 Attribute_any_ h (by rw[arm_eval_Attribute,hb])
end
section
variable{X:Cx}{pins:List (Addr×Obj)}{σ:St}{H:Hp}{s:Shared}{A:Around}{E:Value->Shared->Prop}{Q:Value->Shared->Prop}{c:Value}{b:Bool}
inductive TyOf (K:PySem.W.Frag) (H:Hp):V->Value->Prop where
 |non:TyOf K H .non (.type "NoneType")
 |bl (x:Bool):TyOf K H (.bl x) (.type "bool")
 |int (i:Int):TyOf K H (.int i) (.type "int")
 |str (x:Str):TyOf K H (.str x) (.type "str")
 |flt (x:UInt64):TyOf K H (.flt x) (.type "float")
 |lst {a:Addr} {xs:List V} (e:H a=some (.lst xs)):TyOf K H (.ref a) (.type "list")
 |frz {a:Addr} {o:Obj} {xs:List V} (e:H a=some (.frz o (.lst xs))):TyOf K H (.ref a) (.type "list")
 |tup {a:Addr} {xs:List V} (e:H a=some (.tup xs)):TyOf K H (.ref a) (.type "tuple")
 |dK {a:Addr} {kvs:List (Key×V)} (e:H a=some (.dK kvs)):TyOf K H (.ref a) (.type "dict")
 |dT {a:Addr} {kvs:List (List Key×V)} (e:H a=some (.dT kvs)):TyOf K H (.ref a) (.type "dict")
 |ins {a C dx:Addr} {fs:List (Str×V)} (e:H a=some (.ins C dx fs)) (cl:Cls K C) (ha:PySem.W.findIn K (.ref C) "__class__" = some (some (.builtin "object.__class__")))
   (hn:PySem.W.specialIn K (.builtin "object.__class__") "__get__" = some (some (.builtin "getset_descriptor.__get__"))) (htk:PySem.W.takesIn K (.builtin "object.__class__")=some true)
   (hm:PySem.W.mroIn K C (.type "object")=some true):TyOf K H (.ref a) (.ref C)
theorem aga_{x:V}{u t:Value}(I:Inv X pins σ H s)(rx:RelV x u)(ty:TyOf X.K H x t)(e:PySem.W.kitOne X.K t c=some b)(h:∀tk,Q (.bool b) { s with toks:=tk }) :
  wpAny (model X.prog X.w) A (call (.builtin "isinstance") [u,c]) Q E s:=by
 cases ty with
 |non=>cases(show u=Value.none from rx);exact Bm PySem.W.kitx_none I.kIn True.intro e (λz=>nomatch z) h
 |bl y=>cases(show u=Value.bool y from rx);exact Bm PySem.W.kitx_bool I.kIn True.intro e (λz=>nomatch z) h
 |int i=>obtain⟨t,q⟩:=(show ∃t,u=Value.int i t from rx);cases q;exact Bm PySem.W.kitx_int I.kIn True.intro e (λz=>nomatch z) h
 |str y=>obtain⟨t,q⟩:=(show ∃t,u=Value.str y t from rx);cases q;exact Bm PySem.W.kitx_str I.kIn True.intro e (λz=>nomatch z) h
 |flt y=>obtain⟨t,q⟩:=(show ∃t,u=Value.float y t from rx);cases q;exact Bm PySem.W.kitx_float I.kIn True.intro e (λz=>nomatch z) h
 |@lst a xs ea =>
  cases(show u=Value.ref a from rx)
  obtain⟨_,_,n,_,h1⟩:=(show ObjOk X.prog X.w H s.heap a (.lst xs) from I.hok a _ ea)
  exact Bm PySem.W.kitx_list I.kIn ⟨_,h1,rfl⟩ e (λz=>nomatch z) h
 |@frz a ob xs ea =>
  cases(show u=Value.ref a from rx)
  obtain⟨_,_,_,n,_,h1⟩:=(show ObjOk X.prog X.w H s.heap a (.frz ob (.lst xs)) from I.hok a _ ea)
  exact Bm PySem.W.kitx_list I.kIn ⟨_,h1,rfl⟩ e (λz=>nomatch z) h
 |@tup a xs ea =>
  cases(show u=Value.ref a from rx)
  obtain⟨_,_,_,p⟩:=(show ObjOk X.prog X.w H s.heap a (.tup xs) from I.hok a _ ea)
  obtain⟨o,h1,h2,_⟩:=p
  exact Bm PySem.W.kitx_tuple I.kIn ⟨o,h1,h2⟩ e (λz=>nomatch z) h
 |@dK a kvs ea =>
  cases(show u=Value.ref a from rx)
  obtain⟨_,_,vs,_,p⟩:=(show ObjOk X.prog X.w H s.heap a (.dK kvs) from I.hok a _ ea)
  obtain⟨o,es,ep,h1,h2,_⟩:=p
  exact Bm PySem.W.kitx_dict I.kIn ⟨o,h1,h2.1⟩ e (λz=>nomatch z) h
 |@dT a kvs ea =>
  cases(show u=Value.ref a from rx)
  obtain⟨_,_,xs,_,o,es,ep,h1,h2,_⟩:=(show ObjOk X.prog X.w H s.heap a (.dT kvs) from I.hok a _ ea)
  exact Bm PySem.W.kitx_dict I.kIn ⟨o,h1,h2.1⟩ e (λz=>nomatch z) h
 |@ins a C dx fs ea cl ha hn htk hm =>
  cases(show u=Value.ref a from rx)
  obtain⟨mA,O,_⟩:=als_ I.hok ea
  obtain⟨od,J,_⟩:=O.look
  exact Bm (PySem.W.kitx_own (cl.get _) cl.hd ha hn htk hm) I.kIn J e (λz=>nomatch z) h
end
end L2
namespace L2
open PySem PySem.Spec PyProof.Rows
structure Room(k:Nat)(A:Around):Prop where
 hd:A.handled=none
 dp:A.depth+3*k+5<recursionLimit
 un:A.units+16*k+200<cLine
theorem Room.mono{j k:Nat}{A:Around}(r:Room k A)(h:j<=k):Room j A:=⟨r.hd,by have:=r.dp;omega,by have:=r.un;omega⟩
theorem Room.deeper{k:Nat}{A:Around}(r:Room (k+1) A)(env:Env):Room k (A.deeper env) :=
 ⟨r.hd,by have:=r.dp;show A.depth+1+3*k+5<_;omega,by have:=r.un;show A.units+3+16*k+200<_;omega⟩
theorem Room.in1{k:Nat}{A:Around}(r:Room (k+1) A):Room k A.in1 :=
 ⟨r.hd,by have:=r.dp;show A.depth+3*k+5<_;omega,by have:=r.un;show A.units+1+16*k+200<_;omega⟩
theorem aeb_{A:Around}{C:Addr}{us:List Value}{kw:List (Str×Value)}:(A.under (.builtin "type.__call__" ⟨.ref C::us,kw⟩)).depth=A.depth+1:=by
 first|rfl|simp [Around.under,Code.weight,Code.isCreation,Code.isGuard,Code.isCaller,Code.frames,Code.isFrame,guardIds]
theorem ad1_{A:Around}{C:Addr}{us:List Value}{kw:List (Str×Value)}:(A.under (.builtin "type.__call__" ⟨.ref C::us,kw⟩)).units=A.units+1:=by
 first|rfl|simp [Around.under,Code.cUnits,Code.frames,Code.isFrame]
theorem Room.make{k:Nat}{A:Around}(r:Room (k+1) A)(C:Addr)(us:List Value)(kw:List (Str×Value)):Room k (A.under (.builtin "type.__call__" ⟨.ref C::us,kw⟩)) :=
 ⟨r.hd,by have:=r.dp;rw[aeb_];omega,by have:=r.un;rw[ad1_];omega⟩
theorem Room.depth{k:Nat}{A:Around}(r:Room k A):A.depth<recursionLimit:=by have:=r.dp;omega
theorem Room.units{k:Nat}{A:Around}(r:Room k A):A.units+64<cLine:=by have:=r.un;omega
def tNil:TA:=λ_ H Q=>Q [] H
def vg_(ta:TE)(tr:TA):TA:=λσ H Q=>ta σ H λx H1=>tr σ H1 λxs H2=>Q (x::xs) H2
section
variable{X:Cx}{e:Expr}{es:List Expr}{te:TE}{t:TA}{pos:Pos}
theorem qb_:PA X [] tNil:=λ_ _ _ _ H Q I h=>Calls.spliced_nil ⟨[],H,I,.nil,h⟩
theorem qa_(ha:PE X e te)(hr:PA X es t)(hs:starEach (e::es) X.env=(false,eval e X.env)::starEach es X.env:=by rfl):PA X (e::es) (vg_ te t):=by
 intro pos pins s σ H Q I h
 rw[hs]
 show wpAny _ _ (spliced ((false,eval e X.env)::backTo pos (starEach es X.env))) _ _ s
 refine DZ (thn (ha pins s σ H _ I h) λu s1 ⟨x,H1,I1,r1,q1⟩=>?_)
 exact thn (hr pos pins s1 σ H1 _ I1 q1) λus s2 ⟨xs,H2,I2,r2,q2⟩=>⟨x::xs,H2,I2,.cons r1 r2,q2⟩
def tTup(t:TA):TE:=λσ H Q=>t σ H λxs H1=>xs.length<=sizeLine/\∀p,H1 p=none->Q (.ref p) (upd H1 p (.tup xs))
def tLst(t:TA):TE:=λσ H Q=>t σ H λxs H1=>xs.length<=sizeLine/\∀p,H1 p=none->Q (.ref p) (upd H1 p (.lst xs))
theorem qs_{x1}(h:PA X es t):PE X (.Tuple es x1 pos) (tTup t):=by
 intro pins s σ H Q I hq
 refine wpAny_Tuple_spliced (thn (h pos pins s σ H _ I hq) λus s1 ⟨xs,H1,I1,r,z,q⟩=>⟨by rw[<-r.length];exact z,?_⟩)
 have hf:H1 s1.heap.objs.size=none:=I1.hok.fresh (AG _)
 refine⟨.ref s1.heap.objs.size,upd H1 s1.heap.objs.size (.tup xs),I1.laid (t':=s1.toks) (λb u e=>AB _ e) (AG _) ?_,rfl,q _ hf⟩
 exact⟨z,us,r,⟨_,AM _ rfl,rfl,_,rfl,rfl⟩⟩
theorem qv_(h:PA X es t):PE X (.List es pos) (tLst t):=by
 intro pins s σ H Q I hq
 refine wpAny_List_spliced (thn (h pos pins s σ H _ I hq) λus s1 ⟨xs,H1,I1,r,z,q⟩=>⟨by rw[<-r.length];exact z,?_⟩)
 have hf:H1 s1.heap.objs.size=none:=I1.hok.fresh (AG _)
 refine⟨.ref s1.heap.objs.size,upd H1 s1.heap.objs.size (.lst xs),I1.laid (t':=s1.toks) (λb u e=>AB _ e) (AG _) ?_,rfl,q _ hf⟩
 exact⟨z,us,0,r,AM _ rfl⟩
end
abbrev Sp:=List V->Hp->VK->XK->Prop
abbrev CXT:=List Env->Hp->Shared->XK->Value->Shared->Prop
structure Env0(P:Program)(w:World)(K:PySem.W.Frag)(mg:Str->Option Value)(base:Heap)(A:Around)(outer:List Env)(s:Shared)(H:Hp):Prop where
 frames:A.frames=some outer
 mod:Mod K mg base
 bs:∀b o,base.get? b=some o->s.heap.get? b=some o/\H b=none
 bsz:base.objs.size<=s.heap.objs.size
 funs:s.heap.FunFrames base outer
 frf:∀b∈frs outer,H b=none
 hok:HOk P w H s.heap
 bare:AllBare s.gens
def CE(outer:List Env)(P:Program)(w:World)(H:Hp)(s:Shared)(Q:VK)(u:Value)(s':Shared):Prop :=
 ∃v H',s'.os=s.os/\AllBare s'.gens/\Un (frs outer) [] H H' s.heap s'.heap/\HOk P w H' s'.heap/\RelV v u/\Q v H'
def CR(CX:CXT)(outer:List Env)(P:Program)(w:World)(H:Hp)(s:Shared)(Q:VK)(E:XK)(r:Result)(s':Shared):Prop :=
 match r with
 |.ok (.ret u)=>CE outer P w H s Q u s'
 |.ok _=>False
 |.error e=>CX outer H s E e s'
structure FnOk(P:Program)(w:World)(K:PySem.W.Frag)(mg:Str->Option Value)(base:Heap)(CX:CXT)(k:Nat)(f:Addr)(fd:FuncData)(ps:List Str)(sp:Sp):Prop where
 len:∀vs H Q E,sp vs H Q E->vs.length=ps.length
 run:∀(A:Around)(outer:List Env)(s:Shared)(H:Hp)(args:Args)(us:List Value)(vs:List V)(Q:VK)(E:XK),Room k A->Env0 P w K mg base A outer s H->BindsTo s fd args (ps.zip us)->Vals vs us->sp vs H Q E ->
  codeAny (model P w) A (.call (.ref f) args) (CR CX outer P w H s Q E) s
theorem FnOk.mono{P:Program}{w:World}{K:PySem.W.Frag}{mg:Str->Option Value}{base:Heap}{CX:CXT}{j k:Nat}{f:Addr}{fd:FuncData}{ps:List Str}{sp:Sp}(F:FnOk P w K mg base CX j f fd ps sp)(h:j<=k) :
  FnOk P w K mg base CX k f fd ps sp:=⟨F.len,λA outer s H args us vs Q E hr=>F.run A outer s H args us vs Q E (hr.mono h)⟩
theorem Env0.make{P:Program}{w:World}{K:PySem.W.Frag}{mg:Str->Option Value}{base:Heap}{A:Around}{outer:List Env}{s:Shared}{H:Hp}(e:Env0 P w K mg base A outer s H)(C:Addr)(us:List Value)(kw:List (Str×Value)) :
  Env0 P w K mg base (A.under (.builtin "type.__call__" ⟨.ref C::us,kw⟩)) outer s H:=⟨by first|exact e.frames|(simpa [Around.under,Code.envs,Code.isFrame,pushEnvs]using e.frames),e.mod,e.bs,e.bsz,e.funs,e.frf,e.hok,e.bare⟩
theorem Env0.in1{P:Program}{w:World}{K:PySem.W.Frag}{mg:Str->Option Value}{base:Heap}{A:Around}{outer:List Env}{s:Shared}{H:Hp}(e:Env0 P w K mg base A outer s H) :
  Env0 P w K mg base A.in1 outer s H:=⟨e.frames,e.mod,e.bs,e.bsz,e.funs,e.frf,e.hok,e.bare⟩
section
variable{X:Cx}{pins:List (Addr×Obj)}{σ:St}{H:Hp}{s s':Shared}
theorem Inv.env0(I:Inv X pins σ H s):Env0 X.prog X.w X.K X.mg X.base X.A X.stack s H :=
 ⟨I.ok.frames,I.ok.mod,I.bs,Aj I.ok.bsz I.sz,I.stack,I.stkFree,I.hok,I.bare⟩
theorem Inv.after{Q:VK}{u:Value}(I:Inv X pins σ H s)(h:CE X.stack X.prog X.w H s Q u s'):EP X pins σ Q u s':=by
 obtain⟨v,H',os,bare,un,hok,r,q⟩:=h
 obtain⟨hh,g,d,t,os'⟩:=s'
 obtain rfl:os'=s.os:=os
 exact⟨v,H',I.call (h':=hh) (g':=g) (d':=d) (t':=t) (ch:=[]) un hok bare (λb z=>absurd z (by simp)),r,q⟩
end
def ae3_(sp:Sp)(dvs:List V)(E:XK)(t:TA):TE:=λσ H Q=>t σ H λvs H1=>sp (vs++dvs) H1 Q E
def Binds(K:PySem.W.Frag)(fd:FuncData)(ps:List Str)(ds:List Value):Prop :=
 ∀(s:Shared)(us:List Value),K.In s.heap->(us++ds).length=ps.length->BindsTo s fd ⟨us,[]⟩ (ps.zip (us++ds))
theorem Binds.all{K:PySem.W.Frag}{fd:FuncData}{ps:List Str}(h:∀us:List Value,us.length=ps.length->bindArgs fd ⟨us,[]⟩=pure (ps.zip us)):Binds K fd ps []:=λs us _ hl=>by
 rw[Ax]at hl ⊢
 exact .of_eq (h us hl)
def xv_(CX:CXT)(X:Cx)(E:XK):Prop:=∀(pins:List (Addr×Obj))(σ:St)(H:Hp)(s:Shared)(e:Value)(s':Shared),Inv X pins σ H s->CX X.stack H s E e s'->X.xe e s'
section
variable{X:Cx}{CX:CXT}{k:Nat}{f C:Addr}{fd:FuncData}{ps:List Str}{sp:Sp}{dvs:List V}{ds:List Value}{E:XK}{x m:Str}{p pos apos:Pos}{e o:Expr}{es:List Expr}{ta:TE}{t:TA}
theorem am9_{pins:List (Addr×Obj)}{σ:St}{H:Hp}{s:Shared}{Q:VK}{us:List Value}{vs:List V}(F:FnOk X.prog X.w X.K X.mg X.base CX k f fd ps sp)(hr:Room k X.A)(hb:Binds X.K fd ps ds)(hd:Vals dvs ds)(hx:xv_ CX X E)
  (I:Inv X pins σ H s) (r:Vals vs us) (h:sp (vs++dvs) H Q E):wpAny (model X.prog X.w) X.A (call (.ref f) us) (EP X pins σ Q) X.xe s:=by
 have r2:Vals (vs++dvs) (us++ds):=r.append hd
 have hl:(us++ds).length=ps.length:=by rw[<-r2.length];exact F.len _ _ _ _ h
 refine wpAny_call (codeAny_mono (F.run X.A X.stack s H ⟨us,[]⟩ (us++ds) (vs++dvs) Q E hr I.env0 (hb s us I.kIn hl) r2 h) λr s' hq=>?_)
 cases r with
 |error e=>exact hx pins σ H s e s' I hq
 |ok fl =>
  cases fl with
  |ret u=>exact I.after hq
  |next=>exact False.elim hq
  |brk=>exact False.elim hq
  |cont=>exact False.elim hq
theorem zF_(F:FnOk X.prog X.w X.K X.mg X.base CX k f fd ps sp)(hr:Room k X.A)(hg:Gl X x)(hm:X.mg x=some (.ref f))(hk:PySem.W.keepIn X.K (.ref f)=true)(hb:Binds X.K fd ps ds)(hd:Vals dvs ds)(hx:xv_ CX X E)
  (ha:PA X (e::es) t) (hdb:(x==("__debug__" : Str))=false:=by decide) (he:starEach (e::es) X.env=(false,eval e X.env)::starEach es X.env:=by rfl) (hpl:(backTo pos (starEach es X.env)).any (·.1)=false:=by rfl) :
  PE X (.Call (.Name x p) (e::es) [] pos) (ae3_ sp dvs E t):=by
 intro pins s σ H Q I h
 refine wpAny_Call_Name_kw (jN_ I hg hm ?_ hdb)
 refine Da (h₀:=X.base) I.ok.mod.kin hk (thn (ha pos pins s σ H _ I h) λus s1 ⟨vs,H1,I1,r,q⟩=>⟨I1.kIn,?_⟩) he hpl
 exact am9_ F hr hb hd hx I1 r q
structure Mk(K:PySem.W.Frag)(C f:Addr):Prop where
 makes:PySem.W.makesIn K C=true
 init:PySem.W.findIn K (.ref C) "__init__" = some (some (.ref f))
 fn:PySem.W.isFn K (.ref f)=true
 kp:PySem.W.keepIn K (.ref C)=true
end
section
variable{X:Cx}{CX:CXT}{k:Nat}{f C:Addr}{fd:FuncData}{ps ks:List Str}{sp:Sp}{E:XK}{x m:Str}{p pos apos kpos:Pos}{e o:Expr}{es:List Expr}{kws:List Keyword}{te ta:TE}{t tk:TA}{nm:Option Str}
structure KBinds(K:PySem.W.Frag)(fd:FuncData)(ps ks:List Str)(g:List Value->List Value->List Value)(gV:List V->List V->List V):Prop where
 to:∀(s:Shared)(us ws:List Value),K.In s.heap->(g us ws).length=ps.length->BindsTo s fd ⟨us,ks.zip ws⟩ (ps.zip (g us ws))
 rel:∀{vs:List V}{us:List Value}{zs:List V}{ws:List Value},Vals vs us->Vals zs ws->Vals (gV vs zs) (g us ws)
variable{g:List Value->List Value->List Value}{gV:List V->List V->List V}
end
structure FnScope(N P:List Str)(sc:Scope):Prop where
 kind:sc.kind=.function
 co:sc.isCoroutine=false
 gen:sc.isGenerator=false
 nd:N.Nodup
 pre:N.take P.length=P
 par:∀x∈P,sc.names.lookup x=some .local∨sc.names.lookup x=some .cell
 nofree:∀y∈sc.names,y.2≠.free
theorem v4_{kindOf:Str->Option NameKind}{x:Str}:∀{binds:List (Str×Value)}{m:Str->Option Value},(∀v,(x,v)∉binds)->bindL kindOf binds m x=m x
 |[],_,_=>rfl
 |(n,v)::r,m,h=>by
  unfold bindL
  rw[v4_ λw hw=>h w (AC _ hw)]
  split
  ·have:x≠n:=by rintro rfl;exact h v AD
   simp [this]
  ·rfl
theorem aaa_{kindOf:Str->Option NameKind}{x:Str}:∀{binds:List (Str×Value)}{m:Str->Option Value},(∀v,(x,v)∉binds)->bindC kindOf binds m x=m x
 |[],_,_=>rfl
 |(n,v)::r,m,h=>by
  unfold bindC
  rw[aaa_ λw hw=>h w (AC _ hw)]
  split
  ·rfl
  ·have:x≠n:=by rintro rfl;exact h v AD
   simp [this]
theorem v1_{kindOf:Str->Option NameKind}{x:Str}{v:Value}:∀{P:List Str}{vs:List Value}{i:Nat}{m:Str->Option Value},P.Nodup->P[i]?=some x->vs[i]?=some v->kindOf x=some .local ->
  bindL kindOf (P.zip vs) m x=some v
 |[],_,_,_,_,h,_,_=>by simp at h
 |_::_,[],_,_,_,_,h,_=>by simp at h
 |p::P,w::vs,0,m,nd,h1,h2,hk=>by
  simp at h1 h2;subst h1;subst h2
  show bindL kindOf ((p,w)::P.zip vs) m p=_
  unfold bindL
  rw[v4_ λv hv=>(CH.mp nd).1 (EB hv).1,if_pos hk]
  simp
 |p::P,w::vs,i+1,m,nd,h1,h2,hk=>by
  show bindL kindOf ((p,w)::P.zip vs) m x=_
  unfold bindL
  exact v1_ (i:=i) (CH.mp nd).2 (by simpa using h1) (by simpa using h2) hk
theorem vX_{kindOf:Str->Option NameKind}{x:Str}{v:Value}:∀{P:List Str}{vs:List Value}{i:Nat}{m:Str->Option Value},P.Nodup->P[i]?=some x->vs[i]?=some v->kindOf x≠some .local ->
  bindC kindOf (P.zip vs) m x=some v
 |[],_,_,_,_,h,_,_=>by simp at h
 |_::_,[],_,_,_,_,h,_=>by simp at h
 |p::P,w::vs,0,m,nd,h1,h2,hk=>by
  simp at h1 h2;subst h1;subst h2
  show bindC kindOf ((p,w)::P.zip vs) m p=_
  unfold bindC
  rw[aaa_ λv hv=>(CH.mp nd).1 (EB hv).1,if_neg hk]
  simp
 |p::P,w::vs,i+1,m,nd,h1,h2,hk=>by
  show bindC kindOf ((p,w)::P.zip vs) m x=_
  unfold bindC
  exact vX_ (i:=i) (CH.mp nd).2 (by simpa using h1) (by simpa using h2) hk
def j5_(N:List Str)(vs:List V):St:=vs.map some++List.replicate (N.length-vs.length) none
def zt_(CX:CXT)(P:Program)(w:World)(K:PySem.W.Frag)(mg:Str->Option Value)(base:Heap)(N:List Str)(qual:Str)(scope:Scope)(f:Addr)(cd:Value)(A:Around)(outer:List Env)(s:Shared)(H:Hp)(E:XK):Cx where
 prog:=P
 w:=w
 K:=K
 mg:=mg
 base:=base
 A:=A.deeper (envOfC qual scope s.heap.objs.size f cd)
 N:=N
 s₀:=s
 H₀:=H
 env:=envOfC qual scope s.heap.objs.size f cd
 outer:=outer
 stack:=envOfC qual scope s.heap.objs.size f cd::outer
 ex:=[]
 calm:=true
 fn:=λ_=>true
 pn:=[]
 xe:=λe s'=>wpAny (model P w) (A.deeper (envOfC qual scope s.heap.objs.size f cd)) (leaving (envOfC qual scope s.heap.objs.size f cd) e) (λ_ s''=>CX outer H s E e s'') (λe' s''=>CX outer H s E e' s'') s'
theorem abi_{sc:Scope}{n:Nat}{x:Str}(h:sc.names.lookup x=some .cell):∃c,(cellsFrom n sc.names []).lookup x=some c:=by
 have q:=EG sc.names n [] (.inl h)
 exact Option.isSome_iff_exists.mp q
theorem afy_{CX:CXT}{P:Program}{w:World}{K:PySem.W.Frag}{mg:Str->Option Value}{base:Heap}{N ps:List Str}{qual:Str}{scope:Scope}{f:Addr}{cd:Value}{A:Around}{outer:List Env}{s s1:Shared}{H:Hp}{E:XK}{us:List Value}{vs:List V}
  (S:FnScope N ps scope) (hd:A.handled=none) (e0:Env0 P w K mg base A outer s H) (hl:vs.length=ps.length) (r:Vals vs us)
  (x:InCallC s s.heap.objs.size (bindL (envOfC qual scope s.heap.objs.size f cd).kindOf (ps.zip us) λ_=>none) (cellsFrom (s.heap.objs.size+1) scope.names []) (bindC (envOfC qual scope s.heap.objs.size f cd).kindOf (ps.zip us) λ_=>none) s1) :
  Inv (zt_ CX P w K mg base N qual scope f cd A outer s H E) [] (j5_ N vs) H s1:=by
 have hpl:ps.length<=N.length:=by have:=congrArg List.length S.pre;rw[AS]at this;omega
 obtain⟨h1,tk,rfl,hk⟩:=x.done
 have noA:∀b:Addr,b∉(zt_ CX P w K mg base N qual scope f cd A outer s H E).ex:=λb z=>absurd (show b∈([]:List Addr) from z) (by simp)
 refine⟨⟨e0.mod,S.kind,rfl,rfl,AG _,λy z c h1 h2=>?_,λy hy=>?_,λy c _ h=>?_,λ_=>hd,Around.frames_deeper e0.frames,.inr ⟨rfl,rfl⟩,λb z=>absurd z (noA b),e0.bs,e0.bsz,λb _ _=>noA b,λb z=>absurd z (noA b),e0.funs,e0.frf⟩,
  rfl,e0.bare,Un.kept hk,⟨_,x.toInCall.ns,λi y v h1 h2 h3=>?_⟩,λy c h=>⟨_,x.cell y c h⟩,e0.hok.fresh (AG _),λy c h=>?_,λp hp=>absurd (show p∈([]:List (Addr×Obj)) from hp) (by simp),e0.hok.kept hk,?_⟩
 ·exact name_of_addr x.apart (CV h1) (CV h2)
 ·have hy:scope.names.lookup y=some .cell∨scope.names.lookup y=some .free:=hy
  rcases hy with hy|hy
  ·exact abi_ hy
  ·exact absurd rfl (S.nofree _ (CV hy))
 ·exact Bj (x.above y c (CV h))
 ·have hi:i<vs.length:=by
   unfold j5_ at h2
   by_cases hi:i<vs.length
   ·exact hi
   ·rw[Cp (by simpa using hi)]at h2
    rw[Ca]at h2
    split at h2<;>cases h2
  have ha:vs[i]?=some v:=by
   unfold j5_ at h2
   rw[Cv (by simpa using hi),AT]at h2
   cases e:vs[i]? with
   |none=>rw[e]at h2;cases h2
   |some a=>rw[e]at h2;cases h2;rfl
  obtain⟨u,hu,rv⟩:=r.get ha
  have hp:ps[i]?=some y:=by
   rw[<-S.pre,Dq (by omega)];exact h1
  have ndP:ps.Nodup:=by rw[<-S.pre];exact S.nd.sublist (Dn _ _)
  refine⟨u,rv,?_⟩
  rcases S.par y (AY hp) with k|k
  ·exact .inl ⟨k,v1_ ndP hp hu k⟩
  ·obtain⟨c,e⟩:=abi_ (n:=s.heap.objs.size+1) k
   refine .inr ⟨.inl k,c,e,?_⟩
   have q:=x.cell y c e
   rw[vX_ ndP hp hu (by show scope.names.lookup y≠_;rw[k];decide)]at q
   exact q
 ·exact e0.hok.fresh (Bj (x.above y c (CV h)))
 ·unfold j5_
  show _=N.length
  rw[AE,AA,BM]
  omega
theorem ajr_{CX:CXT}{P:Program}{w:World}{K:PySem.W.Frag}{mg:Str->Option Value}{base:Heap}{k:Nat}{f:Addr}{name qual:Str}{params:Arguments}{body:List Stmt}{scope:Scope}{dV kV doc pm cdv ct oc:Value}{an od:Option Addr}
  {osl:Array (Option Value)} {N ps:List Str} {sp:Sp} (lk:K.lookup f=some ⟨oc,od,.func (PySem.W.fnOf name qual params body scope dV kV doc pm an cdv ct),osl⟩) (hcd:PySem.W.codeIn K cdv qual=true) (S:FnScope N ps scope)
  (len:∀vs H Q E,sp vs H Q E->vs.length=ps.length)
  (hbody:∀(A:Around)(outer:List Env)(s:Shared)(H:Hp)(vs:List V)(Q:VK)(E:XK),Room k (A.deeper (envOfC qual scope s.heap.objs.size f cdv))->sp vs H Q E ->
   ∃t,PSs (zt_ CX P w K mg base N qual scope f cdv A outer s H E) body t/\t { nx:=λ_ H'=>Q .non H',rt:=Q } (j5_ N vs) H) :
  FnOk P w K mg base CX (k+1) f (PySem.W.fnOf name qual params body scope dV kV doc pm an cdv ct) ps sp:=by
 refine⟨len,λA outer s H args us vs Q E hr e0 hb r hsp=>?_⟩
 have hl:=len _ _ _ _ hsp
 have KX:K.In s.heap:=e0.mod.kin.keeps λb o e=>(e0.bs b o e).1
 have lim:s.heap.NoLimit:=e0.mod.nolimit.keeps λb o e=>(e0.bs b o e).1
 have hkind:∀y∈ps.zip us,scope.names.lookup y.1=some .local∨(scope.names.lookup y.1=some .cell/\((cellsFrom (s.heap.objs.size+1) scope.names []).lookup y.1).isSome=true):=λ⟨n,v⟩ hy=>by
  rcases S.par n (EB hy).1 with q|q
  ·exact .inl q
  ·exact .inr ⟨q,EG _ _ _ (.inl q)⟩
 refine codeAny_call_function hr.depth (KX _ _ lk) rfl S.co S.gen rfl (PySem.W.codeRec_of KX hcd) (hb _ _ _ _ ?_)
 refine wpAny_newFunctionEnv_cells S.kind hkind λenv he s1 x=>?_
 subst he
 refine⟨lim.keeps x.toInCall.keep,codeAny_func ?_⟩
 obtain⟨t,ht,hq⟩:=hbody A outer s H vs Q E (hr.deeper _) hsp
 have I:Inv (zt_ CX P w K mg base N qual scope f cdv A outer s H E) [] (j5_ N vs) H s1:=afy_ S hr.hd e0 hl r x
 refine wpAny_mono (ht [] s1 (j5_ N vs) H _ I hq) (λfl s' hs=>?_) λe s' hs=>hs
 have fin:∀{σ':St}{H':Hp}{v:V}{u:Value},Inv (zt_ CX P w K mg base N qual scope f cdv A outer s H E) [] σ' H' s'->RelV v u->Q v H'->CE outer P w H s Q u s' :=
  λ{σ' H' v u} J rv q=>⟨v,H',J.os,J.bare,J.base,J.hok,rv,q⟩
 cases fl with
 |ret u =>
  obtain⟨v,σ',H',J,rv,q⟩:=hs
  exact fin J rv q
 |next =>
  obtain⟨σ',H',J,q⟩:=hs
  exact fin (v:=V.non) (u:=Value.none) J rfl q
 |brk =>
  obtain⟨_,_,_,q⟩:=hs
  exact False.elim q
 |cont =>
  obtain⟨_,_,_,q⟩:=hs
  exact False.elim q
end L2
namespace L2
open PySem PySem.Spec PyProof.Rows
section
variable{X:Cx}{x:Str}{p pos:Pos}{e:Expr}{es:List Expr}{t:TA}{id T:String}{r:List V->Hp->VK->Prop}
def tCB(r:List V->Hp->VK->Prop)(t:TA):TE:=λσ H Q=>t σ H λvs H1=>r vs H1 Q
theorem qp_(hc:CallR X (.builtin id) r)(hg:Gl X x)(hm:X.mg x=none)(hv:bootBuiltins x=some (.builtin id))(ha:PA X (e::es) t)(hn:x ≠ "__name__" := by decide)(hdb:(x==("__debug__" : Str))=false:=by decide)
  (he:starEach (e::es) X.env=(false,eval e X.env)::starEach es X.env:=by rfl) (hpl:(backTo pos (starEach es X.env)).any (·.1)=false:=by rfl):PE X (.Call (.Name x p) (e::es) [] pos) (tCB r t):=by
 intro pins s σ H Q I h
 refine wpAny_Call_Name_kw (jl_ I hg hm hv ?_ hn hdb)
 exact PyProof.Rows.callWith_builtin1 (thn (ha pos pins s σ H _ I h) λus s1 ⟨vs,H1,I1,r1,q1⟩=>hc pins s1 σ H1 vs us Q I1 r1 q1) he hpl
theorem qN_(hc:CallR X (.type T) r)(hg:Gl X x)(hm:X.mg x=none)(hv:bootBuiltins x=some (.type T))(ha:PA X (e::es) t)(hn:x ≠ "__name__" := by decide)(hdb:(x==("__debug__" : Str))=false:=by decide)
  (he:starEach (e::es) X.env=(false,eval e X.env)::starEach es X.env:=by rfl) (hpl:(backTo pos (starEach es X.env)).any (·.1)=false:=by rfl):PE X (.Call (.Name x p) (e::es) [] pos) (tCB r t):=by
 intro pins s σ H Q I h
 refine wpAny_Call_Name_kw (jl_ I hg hm hv ?_ hn hdb)
 exact B0 (thn (ha pos pins s σ H _ I h) λus s1 ⟨vs,H1,I1,r1,q1⟩=>hc pins s1 σ H1 vs us Q I1 r1 q1) he hpl
end
end L2
namespace HT
open PySem PyProof.Rows
def lexLt:List Int->List Int->Bool
 |[],[]=>false
 |[],_::_=>true
 |_::_,[]=>false
 |x::xs,y::ys=>if x=y then lexLt xs ys else decide (x<y)
theorem lexLt_cons(x y:Int)(xs ys:List Int):lexLt (x::xs) (y::ys)=if x=y then lexLt xs ys else decide (x<y):=rfl
theorem lexLt_nil_nil:lexLt [] []=false:=rfl
theorem lexLt_nil_cons(y:Int)(ys:List Int):lexLt [] (y::ys)=true:=rfl
theorem lexLt_cons_nil(x:Int)(xs:List Int):lexLt (x::xs) []=false:=rfl
theorem eqAt_int(A:Around)(s:Shared)(a:Int)(t:Tok)(c:Int)(u:Tok):∃e,SeqAt.EqAt A s (.int a t) (.int c u) e/\(e=true↔a=c) :=
 ⟨(a==c),Db a t c u,by simp⟩
theorem aik_(A:Around)(s:Shared)(a:Int)(t:Tok)(c:Int)(u:Tok)(prog:Program)(w:World)(E:Value->Shared->Prop)(Q:Value->Shared->Prop)(h:Q (.bool (decide (a<c))) s) :
  wpAny (model prog w) A (richCompare .Lt (.int a t) (.int c u)) Q E s :=
 (DU h:wpAny (model prog w) A (compareOp .Lt (.int a t) (.int c u)) Q E s)
section
open PySem.SeqAt
open PySem.AutoSeq1 (wpAny_loadPart')
open PySem.MeetsSeq PySem.MeetsSeq2 PySem.MeetsSeq3
theorem aah_(l b:Addr)(items items2:Array Value)(n n2:Nat)(dd dd2:Option Addr)(sl sl2:Array (Option Value))(ns ms:List Int)(hi:IntsAre items.toList ns)(hj:IntsAre items2.toList ms) :
  Meets (Builtin.«tuple.__lt__» ⟨[.ref l,.ref b],[]⟩)
   (λ_ R s=>s.heap.get? l=some { cls:=.type "tuple",dict:=dd,data:=.seq items n,slots:=sl }/\s.heap.get? b=some { cls:=.type "tuple",dict:=dd2,data:=.seq items2 n2,slots:=sl2 } /\
    R (.ok (.ret (.bool (lexLt ns ms)))) s) :=
 .of_wp λprog w A R s h=>by
  obtain⟨hp,g,d,tk,os⟩:=s;obtain⟨hl,hb,h⟩:=h
  have f2:=AutoSeq1.sub_tuple_tuple
  have z1:items.size=ns.length:=by rw[<-hi.length];simp
  have z2:items2.size=ms.length:=by rw[<-hj.length];simp
  wp_walk using wpAny_loadPart' hl,wpAny_loadPart' hb,wpAny_forIn_list _ (λz6_ b s'=>b.1=none/\s'=⟨hp,g,d,tk,os⟩/\∃(vs ws:List Value)(ns' ms':List Int),z6_=vs.zip ws /\
   IntsAre vs ns'/\IntsAre ws ms'/\ns'.length+items2.size=ms'.length+items.size/\R (.ok (.ret (.bool (lexLt ns' ms')))) ⟨hp,g,d,tk,os⟩) _
  case turn =>
   rintro⟨y,x⟩ z6_ b s' ⟨hb',rfl,vs,ws,ns',ms',hz,hvi,hwi,hlen,hR⟩
   cases hvi with
   |nil=>rw[List.zip_nil_left]at hz;cases hz
   |cons a t hvi' =>
    cases hwi with
    |nil=>rw[List.zip_nil_right]at hz;cases hz
    |cons c u hwi' =>
     rw[Cz]at hz
     injection hz with hyx hrest
     injection hyx with hy hx
     subst hy hx
     rw[lexLt_cons]at hR
     simp only[Am]at hlen
     obtain⟨e,he,hiff⟩:=eqAt_int A.in1 ⟨hp,g,d,tk,os⟩ a t c u
     refine wpAny_bind (he prog w _ _ ?_)
     cases e with
     |true =>
      rw[if_pos (hiff.mp rfl)]at hR
      wp_walk
      exact⟨rfl,rfl,_,_,_,_,hrest,hvi',hwi',by omega,hR⟩
     |false =>
      rw[if_neg (λq=>absurd (hiff.mpr q) AV)]at hR
      have hri:=aik_ A.in1 ⟨hp,g,d,tk,os⟩ a t c u prog w
      wp_walk using hri
      exact⟨_,rfl,by simpa using hR⟩
  case fin =>
   rintro⟨b1,b2⟩ s' ⟨hb',rfl,vs,ws,ns',ms',hz,hvi,hwi,hlen,hR⟩
   simp only at hb'
   subst hb'
   have hv:lexLt ns' ms'=decide (items.size<items2.size):=by
    cases hvi with
    |nil =>
     cases hwi with
     |nil =>
      simp only[B7]at hlen
      rw[lexLt_nil_nil]
      exact(decide_eq_false (by omega)).symm
     |cons c u hw =>
      simp only[B7,Am]at hlen
      rw[lexLt_nil_cons]
      exact(decide_eq_true (by omega)).symm
    |cons a t hv =>
     cases hwi with
     |nil =>
      simp only[B7,Am]at hlen
      rw[lexLt_cons_nil]
      exact(decide_eq_false (by omega)).symm
     |cons c u hw =>
      rw[Cz]at hz
      cases hz
   rw[hv]at hR
   wp_walk
   exact⟨_,rfl,by simpa [Builtin.Tuple.tupleCompareSizes]using hR⟩
  case h =>
   exact⟨rfl,rfl,items.toList,items2.toList,ns,ms,rfl,hi,hj,by omega,h⟩
end
section
variable{prog:Program}{w:World}{A:Around}{E:Value->Shared->Prop}{s:Shared}
theorem lt_tupInts{l b:Addr}{items items2:Array Value}{ns ms:List Int}{Q:Value->Shared->Prop}(hl:IsTup s.heap l items)(hb:IsTup s.heap b items2)(hi:IntsAre items.toList ns)(hj:IntsAre items2.toList ms)
  (hu:A.units<cLine) (h:Q (.bool (lexLt ns ms)) s):wpAny (model prog w) A (compareOp .Lt (.ref l) (.ref b)) Q E s:=by
 obtain⟨⟨cls,dd,data,sl⟩,ho,hc,n,hd⟩:=id hl
 obtain⟨⟨cls2,dd2,data2,sl2⟩,ho2,hc2,n2,hd2⟩:=id hb
 simp only at hc hd hc2 hd2
 subst hc hd hc2 hd2
 exact richCompare_meets_room (op:=.Lt) ⟨_,ho,rfl⟩ ⟨_,ho2,rfl⟩ PySem.F.slot_tuple_lt PySem.F.entry_tuple_lt (PySem.F.args_tuple_lt_2 _ _) (aah_ l b items items2 n n2 dd dd2 sl sl2 ns ms hi hj)
  ⟨ho,ho2,show Value.bool (lexLt ns ms)≠Value.notImplemented/\Q (.bool (lexLt ns ms)) s from⟨(λx=>nomatch x),h⟩⟩ hu
theorem cat_tup{t b:Addr}{vs ws:List Value}{Q:Value->Shared->Prop}(ht:IsTup s.heap t vs.toArray)(hb:IsTup s.heap b ws.toArray)(hv:vs≠[])
  (h1:ws=[]->Q (.ref t) s) (h2:ws≠[]->Q (.ref s.heap.objs.size) { s with heap:=s.heap.push { cls:=.type "tuple",data:=.seq (vs++ws).toArray } })
  (hsz:vs.length+ws.length<=sizeLine):wpAny (model prog w) A (binaryOp .Add (.ref t) (.ref b)) Q E s:=by
 obtain⟨⟨cls,dd,data,sl⟩,ho,hc,n,hd⟩:=id ht
 obtain⟨⟨cls2,dd2,data2,sl2⟩,ho2,hc2,n2,hd2⟩:=id hb
 simp only at hc hd hc2 hd2
 subst hc hd hc2 hd2
 have e:vs.toArray++ws.toArray=(vs++ws).toArray:=by simp
 by_cases hw:ws=[]
 ·exact concat_meets ⟨_,ho,rfl⟩ ⟨_,ho2,rfl⟩ noFill_tuple_add seq_tuple_add DB C5 (C1 _ _)
   (tuple_addW1 t b vs.toArray ws.toArray n n2 dd dd2 sl sl2 (by simpa using hv) (by simp [hw])) ⟨ho,ho2,h1 hw⟩
 ·refine concat_meets ⟨_,ho,rfl⟩ ⟨_,ho2,rfl⟩ noFill_tuple_add seq_tuple_add DB C5 (C1 _ _)
   (tuple_addW2 t b vs.toArray ws.toArray n n2 dd dd2 sl sl2 (by simpa using hv) (by simpa using hw) (by rw[AZ,AZ];exact hsz)) ⟨ho,ho2,?_⟩
  rw[e]
  exact h2 hw
def sIx(n d:Nat):Option Int->Nat
 |none=>d
 |some v=>if v<0 then (v+(n:Int)).toNat else min v.toNat n
theorem sIx_none(n d:Nat):sIx n d none=d:=rfl
theorem sIx_nat(n d k:Nat):sIx n d (some (k:Int))=min k n:=by
 show(if (k:Int)<0 then ((k:Int)+(n:Int)).toNat else min (k:Int).toNat n)=min k n
 rw[if_neg (by omega),An]
theorem ami_(n d:Nat)(hd:d<=n)(o:Option Int):sIx n d o<=n:=by
 cases o with
 |none=>exact hd
 |some v =>
  show(if v<0 then (v+(n:Int)).toNat else min v.toNat n)<=n
  by_cases hv:v<0
  ·rw[if_pos hv];omega
  ·rw[if_neg hv];exact Nat.min_le_right _ _
theorem ac9_(v:Int)(n d:Nat):(if v<0 then max (v+(n:Int)) 0 else min v (n:Int))=((sIx n d (some v):Nat):Int):=by
 show(if v<0 then max (v+(n:Int)) 0 else min v (n:Int))=(((if v<0 then (v+(n:Int)).toNat else min v.toNat n):Nat):Int)
 by_cases hv:v<0
 ·simp only[if_pos hv];omega
 ·simp only[if_neg hv];omega
theorem ad5_(lo hi:Option Int)(n:Nat):Builtin.Slice.sliceAdjust lo hi 1 (n:Int)=(((sIx n 0 lo:Nat):Int),((sIx n n hi:Nat):Int)):=by
 have h1:¬ ((1:Int)<0):=by omega
 unfold Builtin.Slice.sliceAdjust
 simp only[h1,if_false]
 refine Dr ?_ ?_
 ·cases lo with
  |none=>rfl
  |some v=>exact ac9_ v n 0
 ·cases hi with
  |none=>rfl
  |some v=>exact ac9_ v n n
theorem aex_(i j:Nat):Builtin.Slice.slicePlaces (i:Int) (j:Int) 1=j-i:=by
 unfold Builtin.Slice.slicePlaces
 have h1:(1:Int)>0:=by omega
 simp only[h1,if_true,Int.ediv_one]
 split<;>omega
theorem y5_{v:Value}{o:Option Int}{Q:Option Int->Shared->Prop}(p:IsPart v o)(h:Q o s):wpAny (model prog w) A (Builtin.Slice.slicePartIndex v) Q E s:=by
 cases p with
 |none=>exact slicePart_none h
 |int i t=>exact slicePart_int h
theorem sliceApplied_gen{sl:Addr}{vl vu:Value}{lo hi:Option Int}{n:Nat}{Q:Int×Int×Nat->Shared->Prop}(hs:s.heap.IsSliceOf sl vl vu .none)(pl:IsPart vl lo)(pu:IsPart vu hi)
  (h:Q (((sIx n 0 lo:Nat):Int),1,sIx n n hi-sIx n 0 lo) s):wpAny (model prog w) A (Builtin.Slice.sliceApplied (.ref sl) (pure (n:Int))) Q E s:=by
 obtain⟨os,hos,hcs,hds⟩:=id hs
 unfold Builtin.Slice.sliceApplied Builtin.Slice.sliceFields
 refine wpAny_bind (wpAny_bind (wpAny_field hos hds (x:=vl) rfl (wpAny_bind (wpAny_field hos hds (x:=vu) rfl (wpAny_bind (wpAny_field hos hds (x:=.none) rfl (wpAny_pure ?_)))))))
 refine wpAny_bind (slicePart_none ?_)
 show wpAny _ _ (if ((1:Int)==0)=true then _ else _) _ _ s
 rw[if_neg (by decide)]
 refine wpAny_bind (y5_ pl (wpAny_bind (y5_ pu (wpAny_bind (wpAny_pure ?_)))))
 show wpAny _ _ (match Builtin.Slice.sliceAdjust lo hi 1 (n:Int) with|(lo,hi)=>pure (lo,(1:Int),Builtin.Slice.slicePlaces lo hi 1)) _ _ s
 rw[ad5_ lo hi n]
 show wpAny _ _ (pure (((sIx n 0 lo:Nat):Int),(1:Int),Builtin.Slice.slicePlaces ((sIx n 0 lo:Nat):Int) ((sIx n n hi:Nat):Int) 1)) _ _ s
 rw[aex_]
 exact wpAny_pure h
theorem aia_(xs:Array Value)(i k:Nat):((List.range k).filterMap λ(m:Nat)=>xs[((i:Int)+(m:Int)*1).toNat]?).toArray=((xs.toList.drop i).take k).toArray:=by
 have e:(λ(m:Nat)=>xs[((i:Int)+(m:Int)*1).toNat]?)=λm=>xs[i+m]?:=by
  funext m
  have:((i:Int)+(m:Int)*1).toNat=i+m:=by omega
  rw[this]
 rw[e]
 have:=pick_run xs i k
 rw[List.filterMap_map]at this
 have e2:((λx=>xs[x]?) ∘ λx=>i+x)=λm=>xs[i+m]?:=rfl
 rw[e2]at this
 rw[this]
theorem getItem_tuple_cut{t sl:Addr}{items:Array Value}{vl vu:Value}{lo hi:Option Int}{Q:Value->Shared->Prop}(ht:IsTup s.heap t items)(hs:s.heap.IsSliceOf sl vl vu .none)(pl:IsPart vl lo)(pu:IsPart vu hi)
  (hw:¬ (sIx items.size 0 lo=0/\sIx items.size items.size hi=items.size))
  (h:Q (.ref s.heap.objs.size) { s with heap:=s.heap.push { cls:=.type "tuple",data:=.seq ((items.toList.drop (sIx items.size 0 lo)).take (sIx items.size items.size hi-sIx items.size 0 lo)).toArray } })
  (hsz:items.size<=sizeLine):wpAny (model prog w) A (getItem (.ref t) (.ref sl)) Q E s:=by
 have htake:sizeOk (.seq ((items.toList.drop (sIx items.size 0 lo)).take (sIx items.size items.size hi-sIx items.size 0 lo)).toArray):=by
  show((items.toList.drop (sIx items.size 0 lo)).take (sIx items.size items.size hi-sIx items.size 0 lo)).toArray.size<=sizeLine
  rw[AZ,AS,A0,AO]
  omega
 have hj:sIx items.size items.size hi<=items.size:=ami_ _ _ (AG _) hi
 obtain⟨os,hos,hcs,hds⟩:=id hs
 have hTs:s.TypeIs (.ref sl) "slice" := ⟨os,hos,hcs⟩
 unfold getItem
 try with_reducible refine wpAny_holding ?_
 first|refine wpAny_bind (wpAny_pure ?_)|skip
 refine wpAny_bind (wpAny_sequenceKey ht.typeIs (by decide) ?_)
 refine wpAny_bind (wpAny_callSpecial?_slot (name:=Str.ofString "__getitem__") ht.typeIs BW
  (wpAny_call_entry BW ht.typeIs entry_tuple_getitem ?_ (args_tuple_getitem _ _)))
 show wpAny _ _ (Builtin.Tuple.tupleItemsOf (.ref t)>>=_) _ _ s
 refine wpAny_bind (tupleItemsOf_ ht ?_)
 refine wpAny_bind (wpAny_typeOf hTs ?_)
 rw[if_pos (by decide)]
 refine wpAny_bind (sliceApplied_gen hs pl pu ?_)
 have hno:¬ ((((sIx items.size 0 lo:Nat):Int)==0&&(1:Int)==1&&(sIx items.size items.size hi-sIx items.size 0 lo)==items.size)=true):=by
  intro q
  rw[AQ,AQ]at q
  have q1:((sIx items.size 0 lo:Nat):Int)=0:=eq_of_beq q.1.1
  have q2:sIx items.size items.size hi-sIx items.size 0 lo=items.size:=eq_of_beq q.2
  exact hw ⟨by omega,by omega⟩
 show wpAny _ _ (if (((sIx items.size 0 lo:Nat):Int)==0&&(1:Int)==1&&(sIx items.size items.size hi-sIx items.size 0 lo)==items.size)=true then _ else _) _ _ s
 rw[if_neg hno,aia_]
 first
  |exact wpAny_bind (m:=Builtin.Tuple.tupleExact _) (wpAny_newObj_type (wpAny_pure ⟨_,rfl,wpAny_pure h⟩) htake)
  |exact wpAny_bind (m:=Builtin.Tuple.tupleExact _) (wpAny_newObj_type (wpAny_bind (wpAny_pure (wpAny_pure ⟨_,rfl,wpAny_pure h⟩))) htake)
  |exact wpAny_bind (wpAny_bind (m:=Builtin.Tuple.tupleExact _) (wpAny_newObj_type (wpAny_pure (wpAny_pure ⟨_,rfl,wpAny_pure h⟩)) htake))
  |exact wpAny_bind (wpAny_bind (m:=Builtin.Tuple.tupleExact _) (wpAny_newObj_type (wpAny_pure ⟨_,rfl,wpAny_pure h⟩) htake))
end
end HT
namespace L2
open PySem PySem.Spec PyProof.Rows
abbrev TO:=St->Hp->(Option Int->Hp->Prop)->Prop
def PO(X:Cx)(e:Option Expr)(t:TO):Prop :=
 ∀(pins:List (Addr×Obj))(s:Shared)(σ:St)(H:Hp)(Q:Option Int->Hp->Prop),Inv X pins σ H s->t σ H Q ->
  wpAny (model X.prog X.w) X.A (evalPart e X.env) (λu s'=>∃o H',Inv X pins σ H' s'/\IsPart u o/\Q o H') X.xe s
def vC_:TO:=λ_ H Q=>Q none H
def aea_(t:TE):TO:=λσ H Q=>t σ H λx H1=>∃i,x=.int i/\Q (some i) H1
theorem zr_{ns:List Int}:∀{us:List Value},Vals (ns.map V.int) us->IntsAre us ns:=by
 induction ns with
 |nil=>intro us r;rw[Bw]at r;cases r;exact .nil
 |cons n ns ih =>
  intro us r
  rw[Aa]at r
  cases r with
  |cons r1 r2 =>
   obtain⟨t,e⟩:=r1
   subst e
   exact .cons n t (ih r2)
section
variable{X:Cx}{e:Expr}{te:TE}{lo hi:Option Expr}{tl th:TO}{pos p2:Pos}
theorem zw_:PO X none vC_:=by
 intro pins s σ H Q I h
 rw[evalPart_none]
 exact wpAny_pure ⟨none,H,I,.none,h⟩
theorem zj_(h:PE X e te):PO X (some e) (aea_ te):=by
 intro pins s σ H Q I hw
 rw[evalPart_some]
 refine thn (h pins s σ H _ I hw) λu s1 ⟨x,H1,I1,r1,q1⟩=>?_
 obtain⟨i,rfl,q⟩:=q1
 obtain⟨t,rfl⟩:=r1
 exact⟨some i,H1,I1,.int i t,q⟩
def SlR(X:Cx)(r:V->Option Int->Option Int->Hp->VK->Prop):Prop :=
 ∀(pins:List (Addr×Obj))(s:Shared)(σ:St)(H:Hp)(x:V)(v vl vu:Value)(lo hi:Option Int)(sl:Addr)(Q:VK),Inv X pins σ H s->RelV x v->s.heap.IsSliceOf sl vl vu .none->IsPart vl lo->IsPart vu hi->r x lo hi H Q ->
  ∃T id,typeLookup (.type T) "__getitem__" = pure (some (.builtin id))/\s.TypeIs v T/\wpAny (model X.prog X.w) X.A (getItem v (.ref sl)) (EP X pins σ Q) X.xe s
theorem SlR.or{r r':V->Option Int->Option Int->Hp->VK->Prop}(h:SlR X r)(h':SlR X r'):SlR X (λx lo hi H Q=>r x lo hi H Q∨r' x lo hi H Q):=by
 intro pins s σ H x v vl vu lo hi sl Q I rx hs pl pu q
 rcases q with q|q
 ·exact h pins s σ H x v vl vu lo hi sl Q I rx hs pl pu q
 ·exact h' pins s σ H x v vl vu lo hi sl Q I rx hs pl pu q
def tSl(r:V->Option Int->Option Int->Hp->VK->Prop)(te:TE)(tl th:TO):TE:=λσ H Q=>te σ H λx H1=>tl σ H1 λl H2=>th σ H2 λu H3=>r x l u H3 Q
theorem za_{r:V->Option Int->Option Int->Hp->VK->Prop}(hr:SlR X r)(he:PE X e te)(hl:PO X lo tl)(hu:PO X hi th):PE X (.Subscript e (.Slice lo hi none p2) pos) (tSl r te tl th):=by
 intro pins s σ H Q I h
 refine Subscript_ (thn (he pins s σ H _ I h) λv s1 ⟨x,H1,I1,r1,q1⟩=>?_)
 refine wpAny_Slice (thn (hl pins s1 σ H1 _ I1 q1) λvl s2 ⟨l,H2,I2,pl,q2⟩=>thn (hu pins s2 σ H2 _ I2 q2) λvu s3 ⟨u,H3,I3,pu,q3⟩=>?_)
 rw[evalPart_none]
 refine wpAny_pure ?_
 have I4:Inv X pins σ H3 { s3 with heap:=s3.heap.push { cls:=.type "slice",data:=.fields #[vl,vu,.none] } }:=I3.kept (t':=s3.toks) λb ob q=>AB _ q
 obtain⟨T,id,hT,ht,hg⟩:=hr pins { s3 with heap:=s3.heap.push { cls:=.type "slice",data:=.fields #[vl,vu,.none] } } σ H3 x v vl vu l u s3.heap.objs.size Q I4 r1 (Heap.IsSliceOf.new ..) pl pu q3
 show wpAny (model X.prog X.w) X.A (subscriptTail e (.Slice lo hi none p2) v (.ref s3.heap.objs.size)) (EP X pins σ Q) X.xe { s3 with heap:=s3.heap.push { cls:=.type "slice",data:=.fields #[vl,vu,.none] } }
 exact tail_any (ops:=[.ref s3.heap.objs.size,v]) ht hT hg (by with_unfolding_all rfl)
def zl_(xs:List V)(lo hi:Option Int):List V:=(xs.drop (HT.sIx xs.length 0 lo)).take (HT.sIx xs.length xs.length hi-HT.sIx xs.length 0 lo)
theorem jU_(xs:List V)(lo hi:Option Int):(zl_ xs lo hi).length<=xs.length:=by
 unfold zl_
 rw[AS,A0]
 omega
def rSlT(K:PySem.W.Frag):V->Option Int->Option Int->Hp->VK->Prop:=λx lo hi H Q=>∃a xs,x=.ref a/\SqT K H a xs /\
 ¬ (HT.sIx xs.length 0 lo=0/\HT.sIx xs.length xs.length hi=xs.length)/\∀p,H p=none->Q (.ref p) (upd H p (.tup (zl_ xs lo hi)))
theorem j2_:SlR X (rSlT X.K):=by
 intro pins s σ H x v vl vu lo hi sl Q I rx hs pl pu h
 obtain⟨a,xs,rfl,hx,hw,q⟩:=h
 cases rx
 obtain⟨its,r,ht,hz⟩:=I.tuple hx
 have hlen:its.toArray.size=xs.length:=by rw[AZ];exact r.length.symm
 refine⟨"tuple",_,BW.lookup,ht.typeIs,?_⟩
 refine HT.getItem_tuple_cut ht hs pl pu (by rw[hlen];exact hw) ?_ (by rw[hlen];exact hz)
 rw[hlen]
 refine⟨.ref s.heap.objs.size,_,I.laid (t':=s.toks) (o:=.tup (zl_ xs lo hi)) (λb ob q=>AB _ q) (AG _) ?_,rfl,q _ (I.hok.fresh (AG _))⟩
 exact⟨Aj (jU_ xs lo hi) hz,_,(r.drop (HT.sIx xs.length 0 lo)).take (HT.sIx xs.length xs.length hi-HT.sIx xs.length 0 lo),TupN.new _ _⟩
def apr_(K:PySem.W.Frag):R2:=λx y H Q=>∃a b xs ys,x=.ref a/\y=.ref b/\SqT K H a xs/\SqT K H b ys/\xs≠[]/\xs.length+ys.length<=sizeLine /\
 (ys=[]->Q (.ref a) H)/\(ys≠[]->∀p,H p=none->Q (.ref p) (upd H p (.tup (xs++ys))))
theorem Vals.nil_iff{xs:List V}{us:List Value}(r:Vals xs us):us=[]↔xs=[]:=by
 cases r with
 |nil=>simp
 |cons _ _=>simp
theorem ala_:OpR X (binaryOp .Add) (apr_ X.K):=by
 intro pins s σ H x y v u Q I rx ry h
 obtain⟨a,b,xs,ys,rfl,rfl,ha,hb,hx,hz,q1,q2⟩:=h
 cases rx
 cases ry
 obtain⟨its,r1,p1,_⟩:=I.tuple ha
 obtain⟨its2,r2,p2,_⟩:=I.tuple hb
 refine HT.cat_tup p1 p2 (λz=>hx (r1.nil_iff.mp z)) (λz=>⟨.ref a,H,I,rfl,q1 (r2.nil_iff.mp z)⟩) (λz=>?_) (by rw[<-r1.length,<-r2.length];exact hz)
 refine⟨.ref s.heap.objs.size,_,I.laid (t':=s.toks) (o:=.tup (xs++ys)) (λb ob q=>AB _ q) (AG _) ?_,rfl,q2 (λw=>z (r2.nil_iff.mpr w)) _ (I.hok.fresh (AG _))⟩
 exact⟨by rw[AE];exact hz,_,r1.append r2,TupN.new _ _⟩
end
end L2
namespace L2
open PySem PySem.Spec PyProof.Rows
def ixN(n:Nat)(i:Int):Option Nat:=if 0<=i then (if i<n then some i.toNat else none) else if -(n:Int)<=i then some (i+n).toNat else none
def atI{α:Type}(xs:List α)(i:Int):Option α:=(ixN xs.length i).bind λj=>xs[j]?
theorem ac6_{n:Nat}{i:Int}{j:Nat}(h:ixN n i=some j):seqIndex? i n=some j/\j<n/\-(n:Int)<=i/\i<n:=by
 unfold ixN at h
 by_cases h0:0<=i
 ·rw[if_pos h0]at h
  by_cases h1:i<n
  ·rw[if_pos h1]at h
   have e:i.toNat=j:=AW h
   exact⟨by rw[seqIndex_of h0 h1,e],by omega,by omega,h1⟩
  ·rw[if_neg h1]at h;cases h
 ·rw[if_neg h0]at h
  by_cases h1:-(n:Int)<=i
  ·rw[if_pos h1]at h
   have e:(i+n).toNat=j:=AW h
   exact⟨by rw[seqIndex_neg (by omega) h1,e],by omega,h1,by omega⟩
  ·rw[if_neg h1]at h;cases h
theorem acz_{α:Type}{xs:List α}{i:Int}{v:α}(h:atI xs i=some v):∃j,seqIndex? i xs.length=some j/\xs[j]?=some v/\j<xs.length/\-(xs.length:Int)<=i/\i<xs.length:=by
 unfold atI at h
 cases e:ixN xs.length i with
 |none=>rw[e]at h;cases h
 |some j =>
  rw[e]at h
  obtain⟨h1,h2,h3,h4⟩:=ac6_ e
  exact⟨j,h1,h,h2,h3,h4⟩
theorem q8_{α:Type}{xs:List α}{j:Nat}{v:α}(h:xs[j]?=some v):atI xs (j:Int)=some v:=by
 have hj:j<xs.length:=(AR.mp h).1
 have e:ixN xs.length (j:Int)=some j:=by
  unfold ixN
  rw[if_pos (by omega),if_pos (by omega)];simp
 unfold atI;rw[e];exact h
theorem ab8_{α:Type}(xs:List α)(v:α):atI (xs++[v]) (-1)=some v:=by
 have hl:(xs++[v]).length=xs.length+1:=by simp
 have e:ixN (xs++[v]).length (-1)=some xs.length:=by
  unfold ixN
  rw[hl,if_neg (by decide),if_pos (by omega)]
  congr 1
  omega
 unfold atI
 rw[e]
 show(xs++[v])[xs.length]?=some v
 simp
def akp_(b:Expr):Prop:=∀o i,subscripted b false o i=operate [o,i] (getItem o i)
def IxR(X:Cx)(r:R2):Prop :=
 ∀(value slice:Expr)(pins:List (Addr×Obj))(s:Shared)(σ:St)(H:Hp)(x y:V)(v u:Value)(Q:VK),Inv X pins σ H s->RelV x v->RelV y u->r x y H Q ->
  subscripted slice false v u=operate [v,u] (getItem v u)->wpAny (model X.prog X.w) X.A (subscriptTail value slice v u) (EP X pins σ Q) X.xe s
def MtR(X:Cx)(id:String)(r:V->List V->Hp->VK->Prop):Prop :=
 ∀(pins:List (Addr×Obj))(s:Shared)(σ:St)(H:Hp)(x:V)(xs:List V)(v:Value)(us:List Value)(Q:VK),Inv X pins σ H s->RelV x v->Vals xs us->r x xs H Q ->
  wpAny (model X.prog X.w) X.A (call (.builtin id) (v::us)) (EP X pins σ Q) X.xe s
section
variable{X:Cx}{a b:Expr}{ta tb:TE}{pos:Pos}
theorem IxR.or{r r':R2}(h:IxR X r)(h':IxR X r'):IxR X (λx y H Q=>r x y H Q∨r' x y H Q):=by
 intro value slice pins s σ H x y v u Q I rx ry q hs
 rcases q with q|q
 ·exact h value slice pins s σ H x y v u Q I rx ry q hs
 ·exact h' value slice pins s σ H x y v u Q I rx ry q hs
theorem MtR.or{id:String}{r r':V->List V->Hp->VK->Prop}(h:MtR X id r)(h':MtR X id r'):MtR X id (λx xs H Q=>r x xs H Q∨r' x xs H Q):=by
 intro pins s σ H x xs v us Q I rx rs q
 rcases q with q|q
 ·exact h pins s σ H x xs v us Q I rx rs q
 ·exact h' pins s σ H x xs v us Q I rx rs q
theorem qG_{r:R2}(hr:IxR X r)(ha:PE X a ta)(hb:PE X b tb)(hs:akp_ b):PE X (.Subscript a b pos) (tOp r ta tb):=by
 intro pins s σ H Q I h
 exact Subscript_ (binT ha hb I h λv u s2 x y H2 I2 rx ry q=>hr a b pins s2 σ H2 x y v u Q I2 rx ry q (hs _ _))
def rIxL(K:PySem.W.Frag):R2:=λx y H Q=>∃p xs i v,x=.ref p/\y=.int i/\SqL K H p xs/\atI xs i=some v/\Q v H
def rIxT(K:PySem.W.Frag):R2:=λx y H Q=>∃p xs i v,x=.ref p/\y=.int i/\SqT K H p xs/\atI xs i=some v/\Q v H
theorem zO_:IxR X (rIxL X.K):=by
 intro value slice pins s σ H x y v u Q I rx ry h hs
 obtain⟨p,xs,i,z,rfl,rfl,hq,he,q⟩:=h
 cases rx
 obtain⟨t,rfl⟩:=ry
 obtain⟨its,r,pl,hz⟩:=I.list hq
 obtain⟨j,h1,h2,h3,h4,h5⟩:=acz_ he
 obtain⟨w,ew,rw'⟩:=r.get h2
 have hl:=r.length
 have hn:=vk_
 have fin:EP X pins σ Q w s:=⟨z,H,I,rw',q⟩
 by_cases h0:0<=i
 ·have hj:i.toNat=j:=by
   rw[seqIndex_of h0 h5]at h1
   exact AW h1
  exact item_listR pl.isList h0 (by omega) (by rw[hj];simpa using ew) fin hs
 ·have hj:(i+(its.toArray.size:Int)).toNat=j:=by
   rw[seqIndex_neg (by omega) h4]at h1
   rw[AZ,<-hl]
   exact AW h1
  exact subscriptTail_builtinR (x:=w) pl.isList.typeIs slot_list_getitem.lookup
   (wpAny_getItem_list_neg (Q:=λr s'=>r=w/\EP X pins σ Q r s') pl.isList (by omega) (by rw[AZ]<;>omega) (by omega) (by rw[hj];simpa using ew) ⟨rfl,fin⟩) hs
theorem q0_:IxR X (rIxT X.K):=by
 intro value slice pins s σ H x y v u Q I rx ry h hs
 obtain⟨p,xs,i,z,rfl,rfl,hq,he,q⟩:=h
 cases rx
 obtain⟨t,rfl⟩:=ry
 obtain⟨its,r,pl,hz⟩:=I.tuple hq
 obtain⟨j,h1,h2,h3,h4,h5⟩:=acz_ he
 obtain⟨w,ew,rw'⟩:=r.get h2
 have hl:=r.length
 have hn:=vk_
 have fin:EP X pins σ Q w s:=⟨z,H,I,rw',q⟩
 exact subscriptTail_builtinR (x:=w) pl.typeIs slot_tuple_getitem.lookup
  (getItem_tuple (j:=j) (Q:=λr s'=>r=w/\EP X pins σ Q r s') pl (by omega) (by omega) (by rw[AZ,<-hl];exact h1) (by simpa using ew) ⟨rfl,fin⟩) hs
theorem aeh_(its:List Value)(n j:Nat)(u:Value):Obj.mapSeq (·.setIfInBounds j u) { cls:=.type "list",data:=.seq its.toArray n }={ cls:=.type "list",data:=.seq (its.set j u).toArray n }:=by
 simp [Obj.mapSeq]
theorem Inv.lst{pins:List (Addr×Obj)}{σ:St}{H:Hp}{s:Shared}{p:Addr}{xs:List V}(I:Inv X pins σ H s)(h:H p=some (.lst xs)) :
  ∃(its:List Value)(n:Nat),Vals xs its/\s.heap.get? p=some { cls:=.type "list",data:=.seq its.toArray n }/\xs.length<=sizeLine:=by
 obtain⟨z,its,n,r,e⟩:=I.hok p _ h
 exact⟨its,n,r,e,z⟩
theorem Inv.lstUpd{pins:List (Addr×Obj)}{σ:St}{H:Hp}{s:Shared}{p:Addr}{xs ys:List V}{its its':List Value}{n n':Nat}{f:Obj->Obj}(I:Inv X pins σ H s)(h:H p=some (.lst xs))
  (ho:s.heap.get? p=some { cls:=.type "list",data:=.seq its.toArray n }) (hf:f { cls:=.type "list",data:=.seq its.toArray n }={ cls:=.type "list",data:=.seq its'.toArray n' }) (r:Vals ys its') (hz:ys.length<=sizeLine) (t:Nat) :
  Inv X pins σ (upd H p (.lst ys)) { s with heap:=s.heap.update p f,toks:=t }:=by
 have e:(s.heap.update p f).get? p=some { cls:=.type "list",data:=.seq its'.toArray n' }:=by
  rw[BT f ho (by rw[hf]<;>rfl),hf]
 refine I.write (x:=p) (e:=p) (by rw[h];trivial) (.inl rfl) (λb u hb q=>(BG _ _ (B2 hb)).trans q) ⟨_,e⟩ ?_
 exact⟨hz,its',n',r,e⟩
def apl_:V->V->V->Hp->(Hp->Prop)->Prop:=λo i v H Q=>∃p xs k j,o=.ref p/\i=.int k/\H p=some (.lst xs)/\ixN xs.length k=some j/\Q (upd H p (.lst (xs.set j v)))
theorem ahn_:PSet X apl_:=by
 intro pins s σ H o i v ov iv u Q I ro ri rv h
 obtain⟨p,xs,k,j,rfl,rfl,hp,hj,q⟩:=h
 cases ro
 obtain⟨t,rfl⟩:=ri
 obtain⟨its,n,r,ho,hz⟩:=I.lst hp
 obtain⟨h1,h2,h3,h4⟩:=ac6_ hj
 have hl:=r.length
 have hn:=vk_
 have I':Inv X pins σ (upd H p (.lst (xs.set j v))) { s with heap:=s.heap.update p (Obj.mapSeq (·.setIfInBounds j u)) } :=
  I.lstUpd hp ho (aeh_ its n j u) (r.set rv j) (by rw[List.length_set];exact hz) s.toks
 by_cases h0:0<=k
 ·have hk:k.toNat=j:=by
   rw[seqIndex_of h0 h4]at h1
   exact AW h1
  exact PySem.W.ki_setAt ho h0 (by omega) (by rw[AZ,<-hl];exact h4) (by rw[hk];exact⟨_,I',q⟩)
 ·have hk:(k+(its.toArray.size:Int)).toNat=j:=by
   rw[seqIndex_neg (by omega) h3]at h1
   rw[AZ,<-hl]
   exact AW h1
  exact PySem.W.ki_setBack ho (by omega) (by rw[AZ,<-hl];exact h3) (by omega) (by rw[hk];exact⟨_,I',q⟩)
theorem abb_(lo hi:Option Int)(n:Nat):(sliceBounds lo hi none n).1=((HT.sIx n 0 lo:Nat):Int)/\(sliceBounds lo hi none n).2.1=((HT.sIx n n hi:Nat):Int)/\(sliceBounds lo hi none n).2.2=1:=by
 refine⟨?_,?_,rfl⟩
 ·cases lo with
  |none=>simp [sliceBounds,HT.sIx]
  |some i =>
   simp only[sliceBounds,HT.sIx,Option.getD_none,show(1:Int)>0 by decide,if_true]
   by_cases h:i<0
   ·simp only[h,if_true]<;>omega
   ·simp only[h,if_false]<;>omega
 ·cases hi with
  |none=>simp [sliceBounds,HT.sIx]
  |some i =>
   simp only[sliceBounds,HT.sIx,Option.getD_none,show(1:Int)>0 by decide,if_true]
   by_cases h:i<0
   ·simp only[h,if_true]<;>omega
   ·simp only[h,if_false]<;>omega
theorem aag_(its:List Value)(lo hi:Option Int):slicePick its.toArray lo hi none=((its.drop (HT.sIx its.length 0 lo)).take (HT.sIx its.length its.length hi-HT.sIx its.length 0 lo)).toArray:=by
 obtain⟨h1,h2,h3⟩:=abb_ lo hi its.toArray.size
 unfold slicePick
 rw[h1,h2,h3]
 simp only[sliceRange_one,pick_run,AZ]<;>rfl
def rSlL(K:PySem.W.Frag):V->Option Int->Option Int->Hp->VK->Prop:=λx lo hi H Q=>∃a xs,x=.ref a/\SqL K H a xs/\∀p,H p=none->Q (.ref p) (upd H p (.lst (zl_ xs lo hi)))
theorem vv_:SlR X (rSlL X.K):=by
 intro pins s σ H x v vl vu lo hi sl Q I rx hs pl pu h
 obtain⟨a,xs,rfl,hx,q⟩:=h
 cases rx
 obtain⟨its,r,ht,hz⟩:=I.list hx
 have hlen:=r.length
 refine⟨"list",_,slot_list_getitem.lookup,ht.isList.typeIs,?_⟩
 refine wpAny_getItem_list_slice ht.isList hs pl pu .none (by simp) ?_ (by rw[AZ]<;>omega)
 rw[aag_,<-hlen]
 refine⟨.ref s.heap.objs.size,_,I.laid (t':=s.toks) (o:=.lst (zl_ xs lo hi)) (λb ob q=>AB _ q) (AG _) ?_,rfl,q _ (I.hok.fresh (AG _))⟩
 exact⟨Aj (jU_ xs lo hi) hz,_,0,(r.drop (HT.sIx xs.length 0 lo)).take (HT.sIx xs.length xs.length hi-HT.sIx xs.length 0 lo),AM _ rfl⟩
theorem qI_:CallR X (.builtin "len") (λxs H Q=>∃p ys,xs=[.ref p]/\(SqL X.K H p ys∨SqT X.K H p ys)/\Q (.int ys.length) H):=by
 intro pins s σ H xs us Q I r h
 obtain⟨p,ys,rfl,hq,q⟩:=h
 obtain⟨u,rfl,rx⟩:=zT_ r
 cases rx
 have hn:=vk_
 rcases hq with hq|hq
 ·obtain⟨its,r',pl,hz⟩:=I.list hq
  have hlen:=r'.length
  exact Calls.call_len_list pl.isList (by simp only[AZ]<;>omega) ⟨.int ys.length,H,I.tok _,⟨s.toks+1,by rw[AZ,hlen]⟩,q⟩
 ·obtain⟨its,r',pl,hz⟩:=I.tuple hq
  have hlen:=r'.length
  exact len_tuple pl (by simp only[AZ]<;>omega) ⟨.int ys.length,H,I.tok _,⟨s.toks+1,by rw[AZ,hlen]⟩,q⟩
theorem CallR.or{f:Value}{r r':List V->Hp->VK->Prop}(h:CallR X f r)(h':CallR X f r'):CallR X f (λxs H Q=>r xs H Q∨r' xs H Q):=by
 intro pins s σ H xs us Q I rs q
 rcases q with q|q
 ·exact h pins s σ H xs us Q I rs q
 ·exact h' pins s σ H xs us Q I rs q
theorem jG_:CallR X (.type "list") (λxs H Q=>∃p ys,xs=[.ref p]/\(SqL X.K H p ys∨SqT X.K H p ys)/\∀l,H l=none->Q (.ref l) (upd H l (.lst ys))):=by
 intro pins s σ H xs us Q I r h
 obtain⟨p,ys,rfl,hq,q⟩:=h
 obtain⟨u,rfl,rx⟩:=zT_ r
 cases rx
 have fin:∀(its:List Value),Vals ys its->ys.length<=sizeLine->∀(h':Heap)(c':Nat),(∀b o',s.heap.get? b=some o'->h'.get? b=some o') ->
   h'.get? s.heap.objs.size=some { cls:=.type "list",dict:=none,data:=.seq its.toArray c',slots:=#[] }->EP X pins σ Q (.ref s.heap.objs.size) { s with heap:=h' }:=λits r' hz h' c' kp e =>
  ⟨.ref s.heap.objs.size,_,I.laid (t':=s.toks) kp (AG _) (show ObjOk X.prog X.w _ h' _ (.lst ys) from⟨hz,its,c',r',e⟩),rfl,q _ (I.hok.fresh (AG _))⟩
 rcases hq with hq|hq
 ·obtain⟨its,r',pl,hz⟩:=I.list hq
  have hlen:=r'.length
  obtain⟨o,ho,hc,n,hd⟩:=pl.isList
  exact call_list_seq p (.inl rfl) ho hc hd (λh' c' kp e=>fin its r' hz h' c' kp e) (by simp only[AZ]<;>omega)
 ·obtain⟨its,r',pl,hz⟩:=I.tuple hq
  have hlen:=r'.length
  obtain⟨o,ho,hc,n,hd⟩:=pl
  exact call_list_seq p (.inr rfl) ho hc hd (λh' c' kp e=>fin its r' hz h' c' kp e) (by simp only[AZ]<;>omega)
theorem qQ_:CallR X (.type "tuple") (λxs H Q=>∃p ys,xs=[.ref p]/\((SqL X.K H p ys/\∀l,H l=none->Q (.ref l) (upd H l (.tup ys)))∨(SqT X.K H p ys/\Q (.ref p) H))):=by
 intro pins s σ H xs us Q I r h
 obtain⟨p,ys,rfl,h⟩:=h
 obtain⟨u,rfl,rx⟩:=zT_ r
 cases rx
 rcases h with⟨hq,q⟩|⟨hq,q⟩
 ·obtain⟨its,r',pl,hz⟩:=I.list hq
  have hlen:=r'.length
  refine call_tuple_list pl.isList (λh' kp=>?_) (by simp only[AZ]<;>omega)
  have I1:Inv X pins σ H { s with heap:=h' }:=I.kept (t':=s.toks) kp
  have I2:Inv X pins σ (upd H h'.objs.size (.tup ys)) { s with heap:=h'.push { cls:=.type "tuple",data:=.seq its.toArray } } :=
   I1.laid (t':=s.toks) (λb o e=>AB _ e) (AG _) (show ObjOk X.prog X.w _ _ _ (.tup ys) from⟨hz,its,r',TupN.new _ _⟩)
  exact⟨.ref h'.objs.size,_,I2,rfl,q _ (I1.hok.fresh (AG _))⟩
 ·obtain⟨its,r',pl,hz⟩:=I.tuple hq
  exact call_tuple_same pl ⟨.ref p,H,I,rfl,q⟩
def tyV(K:PySem.W.Frag)(T:String)(x:V)(H:Hp):Prop:=match x with
 |.str _=>T = "str"
 |.int _=>T = "int"
 |.ref p=>(T = "list" /\ ∃xs,SqL K H p xs)∨(T = "tuple" /\ ∃o,K.lookup p=some o/\o.cls=.type "tuple" /\ o.dict=none) ∨
   (T = "dict" /\ ((∃kvs,H p=some (.dK kvs))∨∃kvs,H p=some (.dT kvs)))∨(T = "set" /\ ∃S n,H p=some (.set S n))
 |_=>False
theorem al1_{pins:List (Addr×Obj)}{σ:St}{H:Hp}{s:Shared}{T:String}{x:V}{v:Value}(I:Inv X pins σ H s)(r:RelV x v)(ty:tyV X.K T x H) :
  s.TypeIs v T/\∀a,v=.ref a->∃ob,s.heap.get? a=some ob/\ob.dict=none:=by
 cases x with
 |str z =>
  obtain⟨t,rfl⟩:=r
  cases(show T = "str" from ty)
  exact⟨typeIs_str s z t,λ_ e=>nomatch e⟩
 |int i =>
  obtain⟨t,rfl⟩:=r
  cases(show T = "int" from ty)
  exact⟨typeIs_int s i t,λ_ e=>nomatch e⟩
 |ref p =>
  cases r
  rcases ty with⟨rfl,xs,hq⟩|⟨rfl,o,hk,hc,hd⟩|⟨rfl,hk⟩|⟨rfl,S,n,hk⟩
  ·obtain⟨its,_,pl,_⟩:=I.list hq
   refine⟨pl.isList.typeIs,λa e=>?_⟩
   cases e
   obtain⟨o,n,e,c,hd,_⟩:=pl
   exact⟨o,e,hd⟩
  ·refine⟨⟨o,I.kIn p o hk,hc⟩,λa e=>?_⟩
   cases e
   exact⟨o,I.kIn _ o hk,hd⟩
  ·have z:∃o,s.heap.get? p=some o/\o.ExactDict:=by
    rcases hk with⟨kvs,hk⟩|⟨kvs,hk⟩
    ·obtain⟨_,_,_,_,o,_,_,e,ex,_⟩:=I.hok p _ hk
     exact⟨o,e,ex⟩
    ·obtain⟨_,_,_,_,o,_,_,e,ex,_⟩:=I.hok p _ hk
     exact⟨o,e,ex⟩
   obtain⟨o,e,ex⟩:=z
   refine⟨⟨o,e,ex.1⟩,λa e2=>?_⟩
   cases e2
   exact⟨o,e,ex.2.1⟩
  ·obtain⟨o,_,_,_,e,ex,_⟩:=I.hok p _ hk
   refine⟨⟨o,e,ex.1⟩,λa e2=>?_⟩
   cases e2
   exact⟨o,e,ex.2.1⟩
 |_=>exact False.elim ty
def tBM(K:PySem.W.Frag)(T:String)(r:V->List V->Hp->VK->Prop)(to:TE)(t:TA):TE:=λσ H Q=>to σ H λx H1=>tyV K T x H1/\t σ H1 λxs H2=>r x xs H2 Q
variable{o e:Expr}{es:List Expr}{to:TE}{t:TA}{name:Str}{apos cpos:Pos}{T id:String}{r:V->List V->Hp->VK->Prop}
theorem z5_(pa:PlainAttrs T)(slot:Slot T name id)(hty:typeOf (.builtin id)=pure (.type "method_descriptor"))(hm:MtR X id r)(ho:PE X o to)(ha:PA X (e::es) t)
  (hbase:attributeBase o name X.env (eval o X.env)=eval o X.env:=by rfl)
  (hfew:((backTo cpos (starEach (e::es) X.env)).all (λx=>!x.1)&&(backToKw cpos (keywordEach [] X.env)).all (λx=>x.1.isSome)
   && decide ((e::es).length+([]:List Keyword).length+(if ([]:List Keyword).isEmpty then 0 else 1)<30))=true:=by rfl)
  (hline:(apos.endLine==cpos.line)=true:=by rfl) (hs:starEach (e::es) X.env=(false,eval e X.env)::starEach es X.env:=by rfl) (hplain:(backTo cpos (starEach es X.env)).any (·.1)=false:=by rfl) :
  PE X (.Call (.Attribute o name apos) (e::es) [] cpos) (tBM X.K T r to t):=by
 intro pins s σ H Q I h
 refine wpAny_Call_method_late hbase hfew hline rfl (thn (ho pins s σ H _ I h) λv s1 ⟨x,H1,I1,r1,ty,q1⟩=>?_)
 obtain⟨h1,h2⟩:=al1_ I1 r1 ty
 refine⟨T,id,pa,slot,hty,h1,h2,?_⟩
 have hA:=ha cpos pins s1 σ H1 _ I1 q1
 rw[hs]at hA ⊢
 refine CD (by show(false||(backTo cpos (starEach es X.env)).any (·.1))=false;rw[hplain]<;>rfl) (CM ?_)
 exact thn hA λus s2 ⟨vs,H2,I2,r2,q2⟩=>hm pins s2 σ H2 x vs v us Q I2 r1 r2 q2
end
end L2
namespace L2
open PySem PySem.Spec PyProof.Rows
def MtM(X:Cx)(id:String)(r:V->List V->Hp->VK->Prop):Prop :=
 ∀(pins:List (Addr×Obj))(s:Shared)(σ:St)(H:Hp)(x:V)(xs:List V)(v:Value)(us:List Value)(Q:VK),Inv X pins σ H s->RelV x v->Vals xs us->r x xs H Q ->
  wpAny (model X.prog X.w) X.A (call (.builtin id) (v::us)) (EP X pins σ Q) X.xe s
theorem Vals.one:∀{x:V}{us:List Value},Vals [x] us->∃u,us=[u]/\RelV x u
 |_,_,.cons r .nil=>⟨_,rfl,r⟩
theorem Vals.two:∀{x y:V}{us:List Value},Vals [x,y] us->∃u v,us=[u,v]/\RelV x u/\RelV y v
 |_,_,_,.cons r (.cons q .nil)=>⟨_,_,rfl,r,q⟩
theorem Vals.reverse{xs:List V}{us:List Value}(h:Vals xs us):Vals xs.reverse us.reverse:=by
 induction h with
 |nil=>exact .nil
 |cons r t ih=>rw[Do,Do];exact Vals.append ih (.cons r .nil)
theorem Vals.rep{xs:List V}{us:List Value}(h:Vals xs us):∀k:Nat,Vals (List.replicate k xs).flatten (List.replicate k us).flatten
 |0=>.nil
 |k+1=>by
  rw[Ar,Ar,BV,BV]
  exact Vals.append h (Vals.rep h k)
theorem vV_(its:List Value):∀(k:Nat)(acc:List Value),
  List.foldl (λx1 x2=>x1++x2) acc.toArray (List.replicate k its.toArray)=(acc++(List.replicate k its).flatten).toArray
 |0,acc=>by simp
 |k+1,acc=>by
  have e:acc.toArray++its.toArray=(acc++its).toArray:=by simp
  have e2:(acc++its)++(List.replicate k its).flatten=acc++(List.replicate (k+1) its).flatten:=by
   rw[Ar,BV,AX]
  rw[<-e2,<-vV_ its k (acc++its),<-e,Ar,Br]
section
variable{X:Cx}{pins:List (Addr×Obj)}{σ:St}{H:Hp}{s:Shared}{l b:Addr}{xs ys zs:List V}
theorem Inv.lset{its its':List Value}{n:Nat}{f:Array Value->Array Value}{t':Nat}(I:Inv X pins σ H s)(hH:H l=some (.lst xs))
  (e:s.heap.get? l=some { cls:=.type "list",data:=.seq its.toArray n }) (hf:f its.toArray=its'.toArray) (hv:Vals ys its') (hz:ys.length<=sizeLine) :
  Inv X pins σ (upd H l (.lst ys)) { s with heap:=s.heap.update l (Obj.mapSeq f),toks:=t' }:=by
 have q:=PySem.IsL.update e f
 rw[hf]at q
 refine I.write (x:=l) (e:=l) (by rw[hH];exact trivial) (.inl rfl) (λb' u hb hu=>(BG s.heap (Obj.mapSeq f) (B2 hb)).trans hu) ⟨_,q⟩ ?_
 exact⟨hz,its',_,hv,q⟩
theorem Inv.lnew{its:List Value}{t':Nat}(I:Inv X pins σ H s)(hv:Vals ys its)(hz:ys.length<=sizeLine) :
  Inv X pins σ (upd H s.heap.objs.size (.lst ys)) { s with heap:=s.heap.push { cls:=.type "list",data:=.seq its.toArray },toks:=t' } :=
 I.laid (λ_ _ q=>AB _ q) (AG _) ⟨hz,its,0,hv,AM _ rfl⟩
theorem Inv.fresh(I:Inv X pins σ H s):H s.heap.objs.size=none:=I.hok.fresh (AG _)
theorem Inv.lstM(I:Inv X pins σ H s)(hH:H l=some (.lst xs)):xs.length<=sizeLine/\∃(its:List Value)(n:Nat),Vals xs its/\xs.length=its.length/\s.heap.get? l=some { cls:=.type "list",data:=.seq its.toArray n }:=by
 obtain⟨z,its,n,r,e⟩:=I.hok l _ hH
 exact⟨z,its,n,r,r.length,e⟩
theorem aa9_{n:Nat}(h:n<=sizeLine):Builtin.List.listTooLong n=false:=by
 unfold Builtin.List.listTooLong
 exact decide_eq_false (by omega)
end
section
variable{X:Cx}
def alw_:V->List V->Hp->VK->Prop:=λx vs H Q=>∃l xs y,x=.ref l/\vs=[y]/\H l=some (.lst xs)/\xs.length<sizeLine/\Q .non (upd H l (.lst (xs++[y])))
theorem qS_:MtM X "list.append" alw_:=by
 intro pins s σ H x vs v us Q I rx rv h
 obtain⟨l,xs,y,rfl,rfl,hH,hz,q⟩:=h
 cases rx
 obtain⟨u,rfl,ru⟩:=rv.one
 obtain⟨z,its,n,r,hl,e⟩:=I.lstM hH
 refine call_meets F.slot_list_append ⟨_,e,rfl⟩ F.entry_list_append (F.args_list_append_2 _ _) (PySem.list_append l its.toArray n u (by rw[AZ];omega)) ⟨e,?_⟩
 refine⟨.non,_,I.lset (its':=its++[u]) hH e (by simp) (r.append (.cons ru .nil)) ?_,rfl,q⟩
 rw[AE,Ay]
 omega
def aku_:V->List V->Hp->VK->Prop:=λx vs H Q=>∃l b xs zs,x=.ref l/\vs=[.ref b]/\H l=some (.lst xs)/\H b=some (.lst zs)/\xs.length+zs.length<=sizeLine/\Q .non (upd H l (.lst (xs++zs)))
theorem aqz_:MtM X "list.extend" aku_:=by
 intro pins s σ H x vs v us Q I rx rv h
 obtain⟨l,b,xs,zs,rfl,rfl,hH,hB,hz,q⟩:=h
 cases rx
 obtain⟨u,rfl,ru⟩:=rv.one
 cases ru
 obtain⟨z,its,n,r,hl,e⟩:=I.lstM hH
 obtain⟨z2,its2,n2,r2,hl2,e2⟩:=I.lstM hB
 have hsz:its.toArray.size+its2.toArray.size<=sizeLine:=by rw[AZ,AZ];omega
 have hlong:¬ (!its.toArray.isEmpty&&Builtin.List.listTooLong (its.toArray.size+its2.toArray.size))=true:=by
  rw[aa9_ hsz,EO]
  exact AV
 refine call_meets F.slot_list_extend ⟨_,e,rfl⟩ F.entry_list_extend (F.args_list_extend_2 _ _)
  (AutoSeq1.list_extend_list_list_0 l its.toArray n b its2.toArray n2 hlong (by rw[AZ];omega) (by omega)) ⟨e,e2,?_⟩
 refine⟨.non,_,I.lset (its':=its++its2) hH e (by simp) (r.append r2) ?_,rfl,q⟩
 rw[AE]
 omega
def rCat:R2:=λx y H Q=>∃l b xs zs,x=.ref l/\y=.ref b/\H l=some (.lst xs)/\H b=some (.lst zs)/\xs.length+zs.length<=sizeLine/\∀p,H p=none->Q (.ref p) (upd H p (.lst (xs++zs)))
theorem jb_:OpR X (binaryOp .Add) rCat:=by
 intro pins s σ H x y v u Q I rx ry h
 obtain⟨l,b,xs,zs,rfl,rfl,hH,hB,hz,q⟩:=h
 cases rx
 cases ry
 obtain⟨z,its,n,r,hl,e⟩:=I.lstM hH
 obtain⟨z2,its2,n2,r2,hl2,e2⟩:=I.lstM hB
 refine PySem.P.add_list e e2 ?_ (by rw[AZ,AZ];omega)
 have ea:its.toArray++its2.toArray=(its++its2).toArray:=by simp
 rw[ea]
 exact⟨.ref _,_,I.lnew (t':=s.toks) (r.append r2) (by rw[AE];omega),rfl,q _ I.fresh⟩
def rRep:R2:=λx y H Q=>∃l k xs,x=.ref l/\y=.int k/\H l=some (.lst xs)/\-(2^63)<=k/\k<2^63/\xs.length*k.toNat<=sizeLine /\
 ∀p,H p=none->Q (.ref p) (upd H p (.lst (List.replicate k.toNat xs).flatten))
theorem adj_{α:Type}(xs:List α)(k:Nat):(List.replicate k xs).flatten.length=k*xs.length:=by
 induction k with
 |zero=>simp
 |succ k ih=>rw[Ar,BV,AE,ih,Cg,Ep]
theorem afg_:OpR X (binaryOp .Mult) rRep:=by
 intro pins s σ H x y v u Q I rx ry h
 obtain⟨l,k,xs,rfl,rfl,hH,h1,h2,hz,q⟩:=h
 cases rx
 obtain⟨t,rfl⟩:=ry
 obtain⟨z,its,n,r,hl,e⟩:=I.lstM hH
 have hlen:its.toArray.size*k.toNat<=sizeLine:=by rw[AZ,<-hl];exact hz
 have hcap:¬ its.toArray.size*k.toNat>(2^63-1) / 8:=by
  have:(sizeLine:Nat)<=(2^63-1) / 8:=by decide
  omega
 have hfit:¬ (!Builtin.List.listFitsIndex k)=true:=by
  rw[fitsIndex_both h1 h2]
  exact AV
 have hlong:¬ Builtin.List.listTooLong (its.toArray.size*k.toNat)=true:=by
  rw[aa9_ hlen]
  exact AV
 have hnew:List.foldl (λx1 x2=>x1++x2) #[] (List.replicate (if its.toArray.isEmpty=true then 0 else k.toNat) its.toArray)=(List.replicate k.toNat its).flatten.toArray:=by
  have f0:∀m:Nat,List.foldl (λx1 x2=>x1++x2) #[] (List.replicate m its.toArray)=(List.replicate m its).flatten.toArray:=λm=>by
   have:=vV_ its m []
   rw[EC]at this
   exact this
  rw[f0]
  cases its with
  |nil=>simp
  |cons a r'=>rw[if_neg (by simp)]
 refine wpAny_binaryOp_repeat_ref (T := "list") (U := "int") (by decide) ⟨_,e,rfl⟩ (λs'=>typeIs_int s' k t) noFill_list_mul F.fills_int_mul F.slot_int_rmul repeat_list F.slot_int_index.lookup
  (call_meets F.slot_int_rmul (typeIs_int s k t) F.entry_int_rmul (F.args_int_rmul_2 _ _) (int___rmul___int_list k t l its.toArray n)
   ⟨e,rfl,⟨_,e,rfl⟩,call_meets F.slot_list_mul ⟨_,e,rfl⟩ F.entry_list_mul (F.args_list_mul_2 _ _) (AutoListH.list___mul___list_int_3 l its.toArray n k t hfit hcap hlong) ⟨e,?_⟩⟩)
 rw[hnew]
 exact⟨.ref _,_,I.lnew (t':=s.toks) (r.rep k.toNat) (by rw[adj_,C2];exact hz),rfl,q _ I.fresh⟩
end
end L2
namespace Att
open PySem PySem.W PySem.Calls PyProof.Rows
theorem vq_{P:Params}{h:Heap}:∀(ns:List Int)(vs:List Value),WellAll P h vs (ns.map WData.int)->IntsAre vs ns:=by
 intro ns
 induction ns with
 |nil =>
  intro vs w
  rw[Bw]at w
  cases w
  exact .nil
 |cons n ns ih =>
  intro vs w
  rw[Aa]at w
  cases w with
  |cons a b =>
   cases a
   exact .cons _ _ (ih _ b)
theorem aha_{l:OpenLaw}{n:Nat}(hn:l.most=some n){P:Params}{h:Heap}{args:List WData}{vals:List Value}
  (hpre:l.row.toRowW.claim.pre args=true) (hwl:WellAll P h vals args) :
  ∃a vs ns,vals=[Value.ref a]/\args=[WData.list (ns.map WData.int)]/\h.get? a=some { cls:=.type "list",data:=.seq vs.toArray }/\IntsAre vs ns/\ns.length<=n:=by
 have hsh:WShape.hasAll [] args [.list .int]=true:=(pre_splitW hpre).1
 have hc:l.pre.holds [] { args:=args }=true:=(pre_splitW hpre).2
 obtain⟨d,r,rfl,h1,h2⟩:=hasAllW_cons hsh
 obtain rfl:=hasAllW_nil h2
 obtain⟨xs,rfl,h3⟩:=hasW_list h1
 obtain⟨ns,rfl⟩:=items_int h3
 have hlen:ns.length<=n:=by
  unfold OpenLaw.pre at hc
  have h4:(WTm.not (.lt (.lit (.int (n:Int))) (.len (.arg 0)))).holds [] { args:=[.list (ns.map .int)] }=true:=by
   have h4:=(holds_andW hc).1
   rw[hn]at h4
   exact h4
  have h5:=condW_of h4 (w_not (w_lt w_lit (w_len_list (w_arg rfl))))
  rw[AA]at h5
  refine Nat.le_of_not_lt λq=>?_
  have q':(n:Int)<((ns.length:Nat):Int):=by omega
  first
   |(rw[decide_eq_true q']at h5;exact absurd h5 (by decide))
   |(simp at h5;omega)
 cases hwl with
 |cons w1 w2 =>
  cases w2
  cases w1 with
  |list ho hall=>exact⟨_,_,ns,rfl,rfl,ho,vq_ ns _ hall,hlen⟩
theorem ag5_(l:OpenLaw)(args:List WData):l.row.toRowW.claim.post args (.bool true) args=true :=
 postW_of (r:=l.row.toRowW) (X:=(true==true))
  (show WShape.has [] (.bool true) .bool=true by first|rfl|decide|simp [WShape.has,WShape.arms,WShape.armsAll])
  (show(WTm.eq .res (.lit (.bool true))).value [] { args:=args,res:=some (.bool true),after:=args }=some (.bool (true==true)) from w_eq_bool (w_res rfl) w_lit) rfl
theorem attach_call{l:OpenLaw}{n:Nat}{q:Program}{loose:List Str}{XP:(Str->Option Value)->Heap->Prop}{YP:World->Heap->Prop}{d:DefRec}
  (hn:l.most=some n) (hdf:d.params.defaults=[])
  (call:∀(w:World)(s₀ s₁:Shared)(mg mb:Str->Option Value)(fa:Addr)(o:Obj)(pm cd doc:Value)(a:Addr)(vs:List Value)(ns:List Int),
   Ground q loose [] XP w s₀ mg mb s₁.heap->YP w s₁.heap ->
   s₁.heap.get? fa=some o->o.data=.func (docDef d.name d.params d.body d.scope pm cd doc)->s₁.heap.CodeRec cd d.name->mg d.name=some (.ref fa) ->
   s₁.heap.get? a=some { cls:=.type "list",data:=.seq vs.toArray }->IntsAre vs ns->ns.length<=n->s₁.gens=#[] ->
   codeAny (model l.prog w) callerA (.call (.ref fa) ⟨[.ref a],[]⟩) (λr s'=>r=.ok (.ret (.bool true))/\OldK s₁.heap s'.heap/\s'.os=s₁.os/\AllBare s'.gens) s₁) :
  WalkO q loose XP YP l.row.toRowW d [] (λf vs=>PySem.call f vs):=by
 intro w s₀ s₁ mg mb G Y fa o pm cd doc dV kV ho hd hcd hD hmg hg args vals as hpre hlay hrd hwl hlo
 obtain rfl:dV=.none:=Dflts.none hD hdf
 obtain rfl:kV=.none:=Dflts.noKw hD
 obtain⟨a,vs,ns,rfl,rfl,hobj,hints,hlen⟩:=aha_ hn hpre hwl
 refine enter_call (codeAny_mono (call w s₀ s₁ mg mb fa o pm cd doc a vs ns G Y ho (fd_plain hd) hcd hmg hobj hints hlen hg) λr s' hq=>?_)
 obtain⟨rfl,h2,h3,h4⟩:=hq
 exact⟨.inl ⟨.bool true,.bool true,[],rfl,λ_=>rfl,.bool true,ag5_ l _,λ_=>⟨List.Pairwise.nil,λ_ hm=>(nomatch hm)⟩⟩,h2,h3,h4⟩
section
variable{prog:Program}{w:World}{A:Around}{E:Value->Shared->Prop}{s:Shared}{K:Frag}
def asz_(h:Heap)(L d:Addr):List (Addr×Obj):=(List.range h.objs.size).filterMap λa=>if a=L∨a=d then none else (h.get? a).map λo=>(a,o)
end
end Att
namespace L2
open PySem PySem.Spec PyProof.Rows
theorem vZ_:∀{vs:List Value}{ns:List Int},IntsAre vs ns->Vals (ns.map V.int) vs
 |_,_,.nil=>.nil
 |_,_,.cons n t h=>.cons ⟨t,rfl⟩ (vZ_ h)
def Only(H:Hp):Prop:=∀b,H b=none∨∃o xs,H b=some (.frz o (.lst xs))
theorem aid_{P:Program}{w:World}{K:PySem.W.Frag}{mg mb:Str->Option Value}{CX:CXT}{k:Nat}{fa a:Addr}{fd:FuncData}{x:Str}{sp:Sp}{s₁:Shared}{vs:List Value}{ns:List Int}
  (KX:K.In s₁.heap) (hns:s₁.heap.Ns mainGlobals mg) (hb:s₁.heap.Ns builtinsNs mb) (hbb:∀x:Str,x ≠ "__name__" -> mb x=bootBuiltins x) (hlim:s₁.heap.NoLimit) (hg:s₁.gens=#[])
  (ha:s₁.heap.get? a=some { cls:=.type "list",data:=.seq vs.toArray }) (hi:IntsAre vs ns) (hl:ns.length<=sizeLine) (hr:Room k callerA)
  (F:∀base:Heap,K.In base->base.Ns mainGlobals mg->FnOk P w K mg base CX k fa fd [x] sp) (hbind:∀(s:Shared)(u:Value),BindsTo s fd ⟨[u],[]⟩ [(x,u)])
  (hsp:∀H:Hp,Only H->SqL K H a (ns.map V.int)->sp [.ref a] H (λv _=>v=.bl true) λ_ _ _=>False)
  (hCX:∀H e s',CX [] H s₁ (λ_ _ _=>False) e s'->False) :
  codeAny (model P w) callerA (.call (.ref fa) ⟨[.ref a],[]⟩) (λr s'=>r=.ok (.ret (.bool true))/\OldK s₁.heap s'.heap/\s'.os=s₁.os/\AllBare s'.gens) s₁:=by
 have rv:=vZ_ hi
 have lenV:=hi.length
 have core:∀H:Hp,Only H->SqL K H a (ns.map V.int)->HOk P w H s₁.heap->(∀b,H b≠none->b=a)->(H a≠none->K.lookup a=none) ->
   codeAny (model P w) callerA (.call (.ref fa) ⟨[.ref a],[]⟩) (λr s'=>r=.ok (.ret (.bool true))/\OldK s₁.heap s'.heap/\s'.os=s₁.os/\AllBare s'.gens) s₁:=by
  intro H hO hS hok hA hK
  have base_of:∀{b:Addr}{o:Obj},s₁.heap.get? b=some o->H b=none->(x9_ s₁.heap H).get? b=some o:=λe n=>aix_ e n
  have noA:∀{b:Addr}{o:Obj}{es:Array DictEntry}{ep:Nat},s₁.heap.get? b=some o->o.data=.dict es ep->H b=none:=λ{b o es ep} e d=>by
   cases q:H b with
   |none=>rfl
   |some u =>
    have e':b=a:=hA b (by rw[q];simp)
    subst e'
    rw[ha]at e;cases e
    have d':Data.seq vs.toArray _=Data.dict es ep:=d
    cases d'
  have nsK:∀{b:Addr}{m:Str->Option Value},s₁.heap.Ns b m->(x9_ s₁.heap H).Ns b m:=λ{b m} ⟨o,es,ep,e,d,r⟩=>⟨o,es,ep,base_of e (noA e d),d,r⟩
  have hKb:K.In (x9_ s₁.heap H):=λb o e=>base_of (KX b o e) (by
   cases q:H b with
   |none=>rfl
   |some u =>
    have e':b=a:=hA b (by rw[q];simp)
    subst e'
    rw[hK (by rw[q];simp)]at e;cases e)
  have hM:Mod K mg (x9_ s₁.heap H):=⟨hKb,nsK hns,⟨mb,nsK hb,hbb⟩,let ⟨mc,h1,h2⟩:=hlim;⟨mc,nsK h1,h2⟩⟩
  have e0:Env0 P w K mg (x9_ s₁.heap H) callerA [] s₁ H:=⟨rfl,hM,λb o e=>akn_ e,Nat.le_of_eq (afs_ _ _),trivial,λb hb=>absurd (show b∈([]:List Addr) from hb) (by simp),hok,.of_eq hg⟩
  refine codeAny_mono ((F _ hKb (nsK hns)).run callerA [] s₁ H ⟨[.ref a],[]⟩ [.ref a] [.ref a] _ _ hr e0 (hbind s₁ (.ref a)) (.cons rfl .nil) (hsp H hO hS)) λr s' h=>?_
  cases r with
  |error e=>exact(hCX H e s' h).elim
  |ok fl =>
   cases fl with
   |next=>exact False.elim h
   |brk=>exact False.elim h
   |cont=>exact False.elim h
   |ret u =>
    obtain⟨v,H',os,bare,un,hok',r',q⟩:=h
    have q':v=.bl true:=q
    subst q'
    obtain rfl:u=Value.bool true:=r'
    refine⟨rfl,OldK.of_keep λb o e=>?_,os,bare⟩
    cases q:H b with
    |none=>exact un.keep b o e q (by intro z;exact absurd (show b∈([]:List Addr) from z) (by simp)) (by simp)
    |some u =>
     rcases hO b with z|⟨ob,xs,z⟩
     ·rw[q]at z;cases z
     ·have z2:=un.frzs b ob _ z
      obtain⟨e1,_⟩:=hok b _ z
      obtain⟨e2,_⟩:=hok' b _ z2
      rw[e]at e1;cases e1
      exact e2
 cases hk:K.lookup a with
 |some o =>
  have e:=KX a o hk
  rw[ha]at e
  cases e
  refine core (λ_=>none) (λ_=>.inl rfl) (.inr ⟨_,vs.toArray,_,hk,rfl,rfl,rfl,by rw[AZ,lenV];exact hl,by simpa using rv⟩) (λb u z=>by have z':(none:Option HO)=some u:=z;cases z') (λb z=>absurd rfl z) λz=>absurd rfl z
 |none =>
  refine core (λb=>if b=a then some (.frz { cls:=.type "list",data:=.seq vs.toArray } (.lst (ns.map V.int))) else none) (λb=>?_) (.inl (.inr ⟨{ cls:=.type "list",data:=.seq vs.toArray },if_pos rfl⟩)) (λb u z=>?_) (λb z=>?_) λ_=>hk
  ·by_cases hb:b=a
   ·exact .inr ⟨_,_,if_pos hb⟩
   ·exact .inl (if_neg hb)
  ·by_cases hb:b=a
   ·have z':=(if_pos hb).symm.trans z
    cases z'
    subst hb
    exact⟨ha,by rw[AA];exact hl,vs,_,rv,ha⟩
   ·have z':=(if_neg hb).symm.trans z
    cases z'
  ·by_cases hb:b=a
   ·exact hb
   ·exact absurd (if_neg hb) z
end L2
namespace L2
open PySem PySem.Spec PyProof.Rows
theorem walk_of{l:PySem.W.OpenLaw}{n k:Nat}{q:Program}{loose:List Str}{XP:(Str->Option Value)->Heap->Prop}{YP:World->Heap->Prop}{d:DefRec}{K:Params->PySem.W.Frag}{CX:World->CXT}{sp:World->Sp}{x:Str}
  (hn:l.most=some n) (hn2:n<=sizeLine) (hdf:d.params.defaults=[]) (hr:Room k callerA)
  (hY:∀(w:World)(h:Heap),YP w h->(K w.params).In h)
  (F:∀(w:World)(mg:Str->Option Value)(fa:Addr)(h:Heap),(K w.params).In h->h.Ns mainGlobals mg->mg d.name=some (.ref fa) ->
   ∃fd:FuncData,(∀(s:Shared)(u:Value),BindsTo s fd ⟨[u],[]⟩ [(x,u)]) /\
    ∀base:Heap,(K w.params).In base->base.Ns mainGlobals mg->FnOk l.prog w (K w.params) mg base (CX w) k fa fd [x] (sp w))
  (hsp:∀(w:World)(H:Hp)(a:Addr)(ns:List Int),ns.length<=n->Only H->SqL (K w.params) H a (ns.map V.int)->sp w [.ref a] H (λv _=>v=.bl true) λ_ _ _=>False)
  (hCX:∀(w:World)(H:Hp)(s:Shared)(e:Value)(s':Shared),CX w [] H s (λ_ _ _=>False) e s'->False) :
  PySem.W.WalkO q loose XP YP l.row.toRowW d [] (λf vs=>PySem.call f vs):=by
 refine Att.attach_call hn hdf λw s₀ s₁ mg mb fa o pm cd doc a vs ns G Y ho hd hcd hmg hobj hints hlen hg=>?_
 have KX:=hY w _ Y
 obtain⟨fd,hb,hF⟩:=F w mg fa _ KX G.T.g hmg
 exact aid_ KX G.T.g G.T.b G.T.builtins G.T.nolimit hg hobj hints (Aj hlen hn2) hr hF hb (λH hO hS=>hsp w H a ns hlen hO hS) λH e s'=>hCX w H s₁ e s'
end L2
namespace L2
open PySem PySem.Spec PyProof.Rows
def xh_(s:Stmt):Arguments:=match s with
 |.FunctionDef _ a _ _ _ _ _ _ _ _=>a
 |_=>{ posonlyargs:=[],args:=[],vararg:=none,kwonlyargs:=[],kw_defaults:=[],kwarg:=none,defaults:=[] }
def jt_(s:Stmt):List Stmt:=match s with
 |.FunctionDef _ _ b _ _ _ _ _ _ _=>b
 |_=>[]
def qh_(s:Stmt):Scope:=match s with
 |.FunctionDef _ _ _ _ _ _ sc _ _ _=>sc
 |_=>{ kind:=.function,names:=[],isGenerator:=false,isCoroutine:=false }
abbrev CX0:CXT:=λ_ _ _ _ _ _=>False
abbrev E0:XK:=λ_ _ _=>False
theorem xa_{X:Cx}:xv_ CX0 X E0:=λ_ _ _ _ _ _ _ h=>h.elim
structure Fun(K:PySem.W.Frag)(x qual:Str)(st:Stmt)(f:Addr)(fd:FuncData):Prop where
 ex:∃(oc:Value)(od:Option Addr)(kV doc pm:Value)(an:Option Addr)(cdv ct:Value)(osl:Array (Option Value)),
  fd=PySem.W.fnOf x qual (xh_ st) (jt_ st) (qh_ st) .none kV doc pm an cdv ct/\K.lookup f=some ⟨oc,od,.func fd,osl⟩/\PySem.W.codeIn K cdv qual=true
 kp:PySem.W.keepIn K (.ref f)=true
section
variable{P:Program}{w:World}{K:PySem.W.Frag}{mg:Str->Option Value}{base:Heap}
theorem Fun.ok{x qual:Str}{st:Stmt}{f:Addr}{fd:FuncData}{N ps:List Str}{k:Nat}{sp:Sp}(F:Fun K x qual st f fd)(S:FnScope N ps (qh_ st))(len:∀vs H Q E,sp vs H Q E->vs.length=ps.length)
  (hbody:∀(cdv:Value)(A:Around)(outer:List Env)(s:Shared)(H:Hp)(vs:List V)(Q:VK)(E:XK),Room k (A.deeper (envOfC qual (qh_ st) s.heap.objs.size f cdv))->sp vs H Q E ->
   ∃t,PSs (zt_ CX0 P w K mg base N qual (qh_ st) f cdv A outer s H E).nox (jt_ st) t/\t { nx:=λ_ H'=>Q .non H',rt:=Q } (j5_ N vs) H):FnOk P w K mg base CX0 (k+1) f fd ps sp:=by
 obtain⟨oc,od,kV,doc,pm,an,cdv,ct,osl,rfl,lk,hcd⟩:=F.ex
 refine ajr_ lk hcd S len λA outer s H vs Q E hr hsp=>?_
 obtain⟨t,h,q⟩:=hbody cdv A outer s H vs Q E hr hsp
 exact⟨t,h.nox,q⟩
theorem Fun.binds{x qual:Str}{st:Stmt}{f:Addr}{fd:FuncData}{ps:List Str}(F:Fun K x qual st f fd)
  (h:∀(kV doc pm:Value)(an:Option Addr)(cdv ct:Value)(us:List Value),us.length=ps.length->bindArgs (PySem.W.fnOf x qual (xh_ st) (jt_ st) (qh_ st) .none kV doc pm an cdv ct) ⟨us,[]⟩=pure (ps.zip us)):Binds K fd ps []:=by
 obtain⟨oc,od,kV,doc,pm,an,cdv,ct,osl,rfl,lk,hcd⟩:=F.ex
 exact .all (h kV doc pm an cdv ct)
theorem afo_{x qual:Str}{st:Stmt}{f:Addr}{oc:Value}{od an:Option Addr}{osl:Array (Option Value)}{kV doc pm cdv ct:Value}(l:K.lookup f=some ⟨oc,od,.func (PySem.W.fnOf x qual (xh_ st) (jt_ st) (qh_ st) .none kV doc pm an cdv ct),osl⟩)
  (c:PySem.W.codeIn K cdv qual=true) (k:PySem.W.keepIn K (.ref f)=true):Fun K x qual st f (PySem.W.fnOf x qual (xh_ st) (jt_ st) (qh_ st) .none kV doc pm an cdv ct):=⟨⟨oc,od,kV,doc,pm,an,cdv,ct,osl,rfl,l,c⟩,k⟩
end
theorem aee_{A:Around}{k:Nat}(hr:Room k A):A.units+1<cLine:=BD (Bh (by decide:1<=64) _) hr.units
section
variable{X:Cx}
theorem pv(i:Nat){x:Str}{pos:Pos}(hN:X.N[i]?=some x:=by rfl)(hv:Vis X.env.scope x:=by first|exact Or.inl rfl|exact Or.inr (Or.inl rfl)|exact Or.inr (Or.inr rfl))(hd:(x==("__debug__" : Str))=false:=by decide)
  (hcd:(x==("__classdict__" : Str))=false:=by decide):PE X (.Name x pos) (x0_ i):=afu_ hN hv hd hcd
end
theorem zb_{A B:Prop}(h:B):if false=true then A else B:=by
 rw[if_neg AV]
 exact h
theorem z9_{A B:Prop}(h:A):if true=true then A else B:=by
 rw[if_pos rfl]
 exact h
theorem ite2{c A B:Prop}[Decidable c](h1:c->A)(h2:¬ c->B):if c then A else B:=by
 by_cases h:c
 ·rw[if_pos h]
  exact h1 h
 ·rw[if_neg h]
  exact h2 h
def Same(H H':Hp):Prop:=∀b o,H b=some o->H' b=some o
theorem Same.refl(H:Hp):Same H H:=λ_ _ h=>h
theorem Same.trans{H H1 H2:Hp}(a:Same H H1)(b:Same H1 H2):Same H H2:=λc o h=>b c o (a c o h)
theorem Same.free{H H':Hp}(e:Same H H'){l:Addr}(h:H' l=Option.none):H l=Option.none:=by
 cases q:H l with
 |none=>rfl
 |some o =>
  rw[e l o q]at h
  cases h
theorem Same.seq{K:PySem.W.Frag}{H H':Hp}{a:Addr}{xs:List V}(e:Same H H')(h:SqL K H a xs):SqL K H' a xs:=by
 rcases h with(h|⟨o,h⟩)|h
 ·exact .inl (.inl (e _ _ h))
 ·exact .inl (.inr ⟨o,e _ _ h⟩)
 ·exact .inr h
end L2
namespace L2
open PySem PySem.Spec PyProof.Rows
section
variable{κ:Type}[DecidableEq κ]
def jR_(kvs:List (κ×V))(k:κ):Option V:=(kvs.find? λkv=>decide (kv.1=k)).map (·.2)
def z2_(kvs:List (κ×V))(k:κ)(v:V):List (κ×V) :=
 if (kvs.any λkv=>decide (kv.1=k))=true then kvs.map (λkv=>if kv.1=k then (kv.1,v) else kv) else kvs++[(k,v)]
def ajx_(kvs:List (κ×V))(k:κ):List (κ×V):=kvs.filter λkv=>decide (kv.1≠k)
theorem xT_{p:κ×V}{r:List (κ×V)}{k:κ}(e:p.1=k):jR_ (p::r) k=some p.2:=by simp [jR_,Bt,e]
theorem ya_{p:κ×V}{r:List (κ×V)}{k:κ}(e:¬ p.1=k):jR_ (p::r) k=jR_ r k:=by simp [jR_,Bt,e]
theorem abl_(k:κ):∀kvs:List (κ×V),(kvs.any λkv=>decide (kv.1=k))=(jR_ kvs k).isSome
 |[]=>rfl
 |p::r=>by
  rw[CC]
  by_cases e:p.1=k
  ·simp only[xT_ e,decide_eq_true e,Er,Option.isSome_some]
  ·rw[ya_ e,decide_eq_false e,Bool.false_or];exact abl_ k r
theorem yH_(kvs:List (κ×V))(k:κ)(v:V):(z2_ kvs k v).length<=kvs.length+1:=by
 unfold z2_
 split
 ·rw[AA];omega
 ·rw[AE,Am,B7];omega
theorem RelO.isSome_eq{o:Option V}{u:Option Value}(r:RelO o u):o.isSome=u.isSome:=by
 cases o with
 |none=>cases u with
  |none=>rfl
  |some _=>exact(show False from r).elim
 |some _=>cases u with
  |none=>exact(show False from r).elim
  |some _=>rfl
theorem RelO.getD{o:Option V}{u:Option Value}{d:V}{d':Value}(r:RelO o u)(rd:RelV d d'):RelV (o.getD d) (u.getD d'):=by
 cases o with
 |none=>cases u with
  |none=>exact rd
  |some _=>exact(show False from r).elim
 |some _=>cases u with
  |none=>exact(show False from r).elim
  |some _=>exact r
theorem KV.val{kvs:List (κ×V)}{vs:List (κ×Value)}(r:KV kvs vs)(k:κ):RelO (jR_ kvs k) (valueAt vs k):=by
 unfold KV at r
 induction r with
 |nil=>exact True.intro
 |@cons p q ps qs h t ih =>
  obtain⟨h1,h2⟩:=h
  by_cases e:p.1=k
  ·have e':q.1=k:=h1.symm.trans e
   have b:valueAt (q::qs) k=some q.2:=by simp [valueAt,Bt,e']
   rw[xT_ e,b];exact h2
  ·have e':¬ q.1=k:=λz=>e (h1.trans z)
   have b:valueAt (q::qs) k=valueAt qs k:=by simp [valueAt,Bt,e']
   rw[ya_ e,b];exact ih
theorem KV.any{kvs:List (κ×V)}{vs:List (κ×Value)}(r:KV kvs vs)(k:κ):(kvs.any λkv=>decide (kv.1=k))=vs.any λkv=>decide (kv.1=k):=by
 unfold KV at r
 induction r with
 |nil=>rfl
 |cons h t ih=>rw[CC,CC,ih,h.1]
theorem KV.repl{kvs:List (κ×V)}{vs:List (κ×Value)}(r:KV kvs vs)(k:κ){y:V}{u:Value}(ry:RelV y u) :
  KV (kvs.map λkv=>if kv.1=k then (kv.1,y) else kv) (vs.map λkv=>if kv.1=k then (kv.1,u) else kv):=by
 unfold KV at r ⊢
 induction r with
 |nil=>exact .nil
 |@cons p q ps qs h t ih =>
  rw[Aa,Aa]
  refine .cons ?_ ih
  obtain⟨h1,h2⟩:=h
  by_cases e:p.1=k
  ·rw[if_pos e,if_pos (h1.symm.trans e)];exact⟨h1,ry⟩
  ·rw[if_neg e,if_neg (λz=>e (h1.trans z))];exact⟨h1,h2⟩
theorem KV.put{kvs:List (κ×V)}{vs:List (κ×Value)}(r:KV kvs vs)(k:κ){y:V}{u:Value}(ry:RelV y u):KV (z2_ kvs k y) (stored vs k u):=by
 unfold z2_ stored
 rw[r.any k]
 by_cases e:(vs.any λkv=>decide (kv.1=k))=true
 ·rw[if_pos e,if_pos e];exact r.repl k ry
 ·rw[if_neg e,if_neg e];exact CF r ⟨rfl,ry⟩
theorem KV.drop{kvs:List (κ×V)}{vs:List (κ×Value)}(r:KV kvs vs)(k:κ):KV (ajx_ kvs k) (without vs k):=by
 unfold KV at r ⊢
 unfold ajx_ without
 induction r with
 |nil=>exact .nil
 |@cons p q ps qs h t ih =>
  obtain⟨h1,h2⟩:=h
  rw[Az,Az]
  by_cases e:p.1=k
  ·have a:¬ decide (p.1≠k)=true:=by simp [e]
   have b:¬ decide (q.1≠k)=true:=by simp [h1.symm.trans e]
   rw[if_neg a,if_neg b];exact ih
  ·have e':¬ q.1=k:=λz=>e (h1.trans z)
   have a:decide (p.1≠k)=true:=by simp [e]
   have b:decide (q.1≠k)=true:=by simp [e']
   rw[if_pos a,if_pos b];exact .cons ⟨h1,h2⟩ ih
theorem KV.keys{kvs:List (κ×V)}{vs:List (κ×Value)}(r:KV kvs vs):kvs.map (·.1)=vs.map (·.1):=by
 unfold KV at r
 induction r with
 |nil=>rfl
 |cons h t ih=>rw[Aa,Aa,ih,h.1]
theorem KV.length{kvs:List (κ×V)}{vs:List (κ×Value)}(r:KV kvs vs):kvs.length=vs.length:=AL r
end
theorem aas_{P:Program}{w:World}{k:Key}{u:Value}(r:RelV (kV k) u):(q6_ P w).is k u=true:=by
 cases k with
 |inl i=>obtain⟨t,e⟩:=(show ∃t,u=Value.int i t from r);subst e;exact ach_ P w i t
 |inr x=>obtain⟨t,e⟩:=(show ∃t,u=Value.str x t from r);subst e;exact acl_ P w x t
theorem aab_{P:Program}{w:World}:∀{ks:List Key}{us:List Value},Vals (ks.map kV) us->ItemsAre (q6_ P w) ks us
 |[],_,r=>by rw[Bw]at r;cases r;exact .nil
 |k::ks,_,r=>by
  rw[Aa]at r
  cases r with
  |cons h t=>exact .cons (aas_ h) (aab_ t)
abbrev KT(H:Hp):List (List Key×V)->List (List Key×Addr×Value)->Prop:=Paired λp q=>p.1=q.1/\H q.2.1=some (.tup (p.1.map kV))/\RelV p.2 q.2.2
theorem KT.val{H:Hp}{kvs:List (List Key×V)}{xs:List (List Key×Addr×Value)}(r:KT H kvs xs)(k:List Key):RelO (jR_ kvs k) ((atKey xs k).map (·.2)):=by
 induction r with
 |nil=>exact True.intro
 |@cons p q ps qs h t ih =>
  obtain⟨h1,_,h2⟩:=h
  by_cases e:p.1=k
  ·have e':q.1=k:=h1.symm.trans e
   have b:atKey (q::qs) k=some q.2:=by simp [atKey,Bt,e']
   rw[xT_ e,b];exact h2
  ·have e':¬ q.1=k:=λz=>e (h1.trans z)
   have b:atKey (q::qs) k=atKey qs k:=by simp [atKey,Bt,e']
   rw[ya_ e,b];exact ih
theorem KT.repl{H:Hp}{kvs:List (List Key×V)}{xs:List (List Key×Addr×Value)}(r:KT H kvs xs)(k:List Key){y:V}{u:Value}(ry:RelV y u) :
  KT H (kvs.map λkv=>if kv.1=k then (kv.1,y) else kv) (xs.map (putAt k u)):=by
 induction r with
 |nil=>exact .nil
 |@cons p q ps qs h t ih =>
  rw[Aa,Aa]
  refine .cons ?_ ih
  obtain⟨h1,h2,h3⟩:=h
  unfold putAt
  by_cases e:p.1=k
  ·rw[if_pos e,if_pos (h1.symm.trans e)];exact⟨h1,h2,ry⟩
  ·rw[if_neg e,if_neg (λz=>e (h1.trans z))];exact⟨h1,h2,h3⟩
theorem KT.put{H:Hp}{kvs:List (List Key×V)}{xs:List (List Key×Addr×Value)}(r:KT H kvs xs)(k:List Key){b:Addr}{y:V}{u:Value}(hb:H b=some (.tup (k.map kV)))(ry:RelV y u) :
  KT H (z2_ kvs k y) (storedH xs k b u):=by
 have e:(kvs.any λkv=>decide (kv.1=k))=(atKey xs k).isSome:=by
  rw[abl_,(r.val k).isSome_eq,Option.isSome_map]
 unfold z2_ storedH
 rw[e]
 by_cases q:(atKey xs k).isSome=true
 ·rw[if_pos q,if_pos q];exact r.repl k ry
 ·rw[if_neg q,if_neg q];exact CF r ⟨rfl,hb,ry⟩
theorem KT.keeps{H H':Hp}{kvs:List (List Key×V)}{xs:List (List Key×Addr×Value)}(r:KT H kvs xs)(ht:∀b ys,H b=some (.tup ys)->H' b=some (.tup ys)):KT H' kvs xs :=
 Paired.mapP r λ_ _ z=>⟨z.1,ht _ _ z.2.1,z.2.2⟩
section
variable{P:Program}{w:World}{H:Hp}{h:Heap}{a:Addr}
theorem aay_{u:HO}(ok:HOk P w H h)(e:Rd H a u):ObjOk P w H h a u:=e.ok ok
theorem vn_{kvs:List (Key×V)}(ok:HOk P w H h)(e:Rd H a (.dK kvs)):kvs.length<=sizeLine/\(a==sysModules)=false/\∃vs,KV kvs vs/\h.DictOf (q6_ P w) a vs :=
 show ObjOk P w H h a (.dK kvs) from aay_ ok e
theorem ap6_{kvs:List (Key×V)}(ok:HOk P w H h)(e:H a=some (.dK kvs)):kvs.length<=sizeLine/\(a==sysModules)=false/\∃vs,KV kvs vs/\h.DictOf (q6_ P w) a vs:=vn_ ok (.inl e)
theorem vo_{ks:List Key}(ok:HOk P w H h)(e:H a=some (.tup (ks.map kV))):(tupleKind (q6_ P w)).is h ks a:=by
 obtain⟨_,its,r,o,h1,h2,n,h3⟩:=(show ObjOk P w H h a (.tup (ks.map kV)) from ok a _ e)
 exact⟨o,its.toArray,n,h1,h2,h3.1,by simpa using aab_ r⟩
theorem y7_{kvs:List (List Key×V)}(ok:HOk P w H h)(e:Rd H a (.dT kvs)):kvs.length<=sizeLine/\(a==sysModules)=false /\
  ∃xs,KT H kvs xs/\h.DictOfH (tupleKind (q6_ P w)) a xs:=by
 obtain⟨z,y,xs,r,o,es,ep,h1,h2,h3,h4,h5⟩:=(show ObjOk P w H h a (.dT kvs) from aay_ ok e)
 refine⟨z,y,xs,r,o,es,ep,h1,h2,h3,h4,λx hx=>?_,h5⟩
 have all:∀{l:List (List Key×V)}{m:List (List Key×Addr×Value)},KT H l m->∀x∈m,(tupleKind (q6_ P w)).is h x.1 x.2.1:=by
  intro l m q
  induction q with
  |nil=>intro x hx;exact nomatch hx
  |@cons p q ps qs hq t ih =>
   intro x hx
   rcases AJ.mp hx with e|hx
   ·subst e
    exact vo_ ok (by rw[<-hq.1];exact hq.2.1)
   ·exact ih x hx
 exact all r x hx
theorem ap2_{kvs:List (List Key×V)}(ok:HOk P w H h)(e:H a=some (.dT kvs)):kvs.length<=sizeLine/\(a==sysModules)=false /\
  ∃xs,KT H kvs xs/\h.DictOfH (tupleKind (q6_ P w)) a xs:=y7_ ok (.inl e)
end
def DGet(H:Hp)(a:Addr)(y:V)(r:Option V):Prop :=
 (∃kvs k,Rd H a (.dK kvs)/\y=kV k/\r=jR_ kvs k)∨∃kvs k b,Rd H a (.dT kvs)/\y=.ref b/\H b=some (.tup (k.map kV))/\r=jR_ kvs k
def DPut(H:Hp)(a:Addr)(y v:V)(H':Hp):Prop :=
 (∃kvs k,H a=some (.dK kvs)/\y=kV k/\kvs.length<sizeLine/\H'=upd H a (.dK (z2_ kvs k v))) ∨
 ∃kvs k b,H a=some (.dT kvs)/\y=.ref b/\H b=some (.tup (k.map kV))/\kvs.length<sizeLine/\H'=upd H a (.dT (z2_ kvs k v))
theorem DGet.k{H:Hp}{a:Addr}{kvs:List (Key×V)}{k:Key}(e:H a=some (.dK kvs)):DGet H a (kV k) (jR_ kvs k):=.inl ⟨kvs,k,.inl e,rfl,rfl⟩
theorem DGet.t{H:Hp}{a b:Addr}{kvs:List (List Key×V)}{k:List Key}(e:H a=some (.dT kvs))(eb:H b=some (.tup (k.map kV))):DGet H a (.ref b) (jR_ kvs k):=.inr ⟨kvs,k,b,.inl e,rfl,eb,rfl⟩
theorem DPut.k{H:Hp}{a:Addr}{kvs:List (Key×V)}{k:Key}{v:V}(e:H a=some (.dK kvs))(hl:kvs.length<sizeLine):DPut H a (kV k) v (upd H a (.dK (z2_ kvs k v))):=.inl ⟨kvs,k,e,rfl,hl,rfl⟩
theorem DPut.t{H:Hp}{a b:Addr}{kvs:List (List Key×V)}{k:List Key}{v:V}(e:H a=some (.dT kvs))(eb:H b=some (.tup (k.map kV)))(hl:kvs.length<sizeLine) :
  DPut H a (.ref b) v (upd H a (.dT (z2_ kvs k v))):=.inr ⟨kvs,k,b,e,rfl,eb,hl,rfl⟩
section
variable{X:Cx}{pins:List (Addr×Obj)}{σ:St}{H:Hp}{s:Shared}{a:Addr}{y v:V}{u r:Value}{o:Option V}{A:Around}{E:Value->Shared->Prop}
theorem Inv.big(I:Inv X pins σ H s):sysModules<s.heap.objs.size:=by
 have h:mainGlobals<s.heap.objs.size:=(I.mod.glob.keeps I.bk).lt
 exact Nat.lt_trans (by decide) h
theorem ag8_{Q:Value->Shared->Prop}(hu:A.units+1<cLine)(I:Inv X pins σ H s)(g:DGet H a y (some v))(ry:RelV y u)(h:∀w' s',Inv X pins σ H s'->RelV v w'->Q w' s') :
  wpAny (model X.prog X.w) A (getItem (.ref a) u) Q E s:=by
 rcases g with⟨kvs,k,e,ey,l⟩|⟨kvs,k,b,e,ey,eb,l⟩
 ·subst ey
  obtain⟨z,hd,vs,rel,dd⟩:=vn_ I.hok e
  obtain⟨w',hw,rw'⟩:=RelO.some_of (v:=v) (o:=valueAt vs k) (by rw[l];exact rel.val k)
  exact wpAny_getItem_of (aas_ ry) dd.mapOf hw (h w' _ (I.tok _) rw')
 ·subst ey
  cases(show u=Value.ref b from ry)
  obtain⟨z,hd,xs,rel,dd⟩:=y7_ I.hok e
  obtain⟨w',hw,rw'⟩:=RelO.some_of (v:=v) (o:=(atKey xs k).map (·.2)) (by rw[l];exact rel.val k)
  obtain⟨p,hp,hp2⟩:=DC.mp hw
  refine wpAny_getItem_heap (tupleKind_room_in1 hu) (vo_ I.hok eb) dd hp ?_
  rw[hp2]
  exact h w' _ (I.tok _) rw'
theorem acw_{h':Heap}{t':Nat}{ob:HO}(I:Inv X pins σ H s)(mu:Mut (H a))(hs:Heap.SameBut a s.heap h')(he:∃q,h'.get? a=some q)(new:ObjOk X.prog X.w (upd H a ob) h' a ob) :
  Inv X pins σ (upd H a ob) { s with heap:=h',toks:=t' } :=
 I.write (x:=a) (e:=a) mu (.inl rfl) (λb q hb z=>(hs.2 b hb).trans z) he new
theorem amf_{P:Program}{w:World}{H':Hp}{h':Heap}{kvs:List (Key×V)}{vs:List (Key×Value)}(z:kvs.length<=sizeLine)(hd:(a==sysModules)=false)(rel:KV kvs vs)(dd:h'.DictOf (q6_ P w) a vs) :
  ObjOk P w H' h' a (.dK kvs):=⟨z,hd,vs,rel,dd⟩
theorem afw_{H':Hp}{Q:Unit->Shared->Prop}(hu:A.units+1<cLine)(I:Inv X pins σ H s)(g:DPut H a y v H')(ry:RelV y u)(rv:RelV v r)(h:∀s',Inv X pins σ H' s'->Q () s') :
  wpAny (model X.prog X.w) A (setItem (.ref a) u r) Q E s:=by
 rcases g with⟨kvs,k,e,ey,l,eH⟩|⟨kvs,k,b,e,ey,eb,l,eH⟩
 ·subst ey eH
  obtain⟨z,hd,vs,rel,dd⟩:=ap6_ I.hok e
  have hz:vs.length<=sizeLine:=by rw[<-rel.length];exact z
  have hl:(z2_ kvs k v).length<=sizeLine:=by have:=yH_ kvs k v;omega
  refine wpAny_setItem_pairs (hsz:=hz) (aas_ ry) dd λh' dd' hs=>h _ ?_
  have he:∃q,h'.get? a=some q:=let ⟨q,_,_,hq,_⟩:=dd';⟨q,hq⟩
  exact acw_ I (by rw[e];exact True.intro) hs he (amf_ hl hd (rel.put k rv) dd')
 ·subst ey eH
  cases(show u=Value.ref b from ry)
  obtain⟨z,hd,xs,rel,dd⟩:=ap2_ I.hok e
  have hz:xs.length<=sizeLine:=by rw[<-AL rel];exact z
  have hl:(z2_ kvs k v).length<=sizeLine:=by have:=yH_ kvs k v;omega
  refine wpAny_setItem_heap (hsz:=hz) (tupleKind_room_in1 hu) (vo_ I.hok eb) dd λh' dd' hs=>h _ ?_
  obtain⟨q,es,ep,hq,h2,h3,h4,_,h5⟩:=dd'
  refine acw_ I (by rw[e];exact True.intro) hs ⟨q,hq⟩ ⟨hl,hd,_,(rel.put k eb rv).keeps λc ys ec=>?_,q,es,ep,hq,h2,h3,h4,h5⟩
  rw[qk_ (zA_ ec e (λz=>nomatch z))]
  exact ec
end
def NoSl(i:Expr):Prop:=∀ov iv,subscripted i false ov iv=operate [ov,iv] (getItem ov iv)
theorem aln_{prog:Program}{w:World}{A:Around}{E:Value->Shared->Prop}{s:Shared}{env:Env}{value slice:Expr}{pos:Pos}{T id:String}{Q:Value->Shared->Prop}
  (hl:typeLookup (.type T) "__getitem__" = pure (some (.builtin id))) (hs:NoSl slice)
  (h:wpAny (model prog w) A (eval value env) (λo s₁=>wpAny (model prog w) A (eval slice env) (λi s₂=>s₂.TypeIs o T/\wpAny (model prog w) A (getItem o i) Q E s₂) E s₁) E s) :
  wpAny (model prog w) A (eval (.Subscript value slice pos) env) Q E s:=by
 refine Subscript_ (wpAny_mono h (λo s₁ h₁=>wpAny_mono h₁ (λi s₂ h₂=>?_) λ_ _ x=>x) λ_ _ x=>x)
 obtain⟨hT,h₂⟩:=h₂
 unfold subscriptTail
 refine wpAny_bind ?_
 rw[getitemInPython_of_ne hT.not_modules]
 refine wpAny_bind (wpAny_specialOf hT hl ?_)
 have fin:wpAny (model prog w) A (subscripted slice false o i) (λr s₃=>wpAny (model prog w) A (letTemporaryGo value o r>>=λ_=>pure r) Q E s₃) E s₂:=by
  rw[hs o i]
  exact wpAny_operating (wpAny_mono h₂ (λr s₃ h₃=>wpAny_bind (wpAny_letTemporaryGo (wpAny_pure h₃))) λ_ _ x=>x)
 first
  |exact wpAny_pure (wpAny_bind fin)
  |exact wpAny_bind (wpAny_pure (wpAny_bind fin))
  |exact wpAny_bind fin
theorem acd_{X:Cx}{pins:List (Addr×Obj)}{σ:St}{H:Hp}{s:Shared}{a:Addr}{y:V}{o:Option V}(I:Inv X pins σ H s)(g:DGet H a y o):s.TypeIs (.ref a) "dict" := by
 rcases g with⟨kvs,k,e,_,_⟩|⟨kvs,k,b,e,_,_,_⟩
 ·obtain⟨_,_,vs,_,dd⟩:=vn_ I.hok e
  exact dd.typeIs
 ·obtain⟨_,_,xs,_,dd⟩:=y7_ I.hok e
  exact dd.typeIs
def aqn_(td ty:TE):TE:=λσ H Q=>td σ H λx H1=>ty σ H1 λy H2=>∃a v,x=.ref a/\DGet H2 a y (some v)/\Q v H2
def apb_(td ty tv:TE):TS:=λD σ H=>tv σ H λv H1=>td σ H1 λx H2=>ty σ H2 λy H3=>∃a H4,x=.ref a/\DPut H3 a y v H4/\D.nx σ H4
section
variable{X:Cx}{o i e value:Expr}{pos pos' tpos:Pos}{td ty tv:TE}
theorem ads_(hu:X.A.units+1<cLine)(ho:PE X o td)(hi:PE X i ty)(hs:NoSl i):PE X (.Subscript o i pos) (aqn_ td ty):=by
 intro pins s σ H Q I h
 refine aln_ PySem.F.slot_dict_getitem.lookup hs (thn (ho pins s σ H _ I h) λu s1 ⟨x,H1,I1,rx,q1⟩=>thn (hi pins s1 σ H1 _ I1 q1) λiv s2 ⟨y,H2,I2,ry,a,v,ex,g,q2⟩=>?_)
 subst ex
 obtain rfl:u=Value.ref a:=rx
 exact⟨acd_ I2 g,ag8_ hu I2 g ry λw' s3 I3 rw'=>⟨v,H2,I3,rw',q2⟩⟩
theorem vQ_(hu:X.A.units+1<cLine)(ho:PE X o td)(hi:PE X i ty)(hv:PE X value tv)(hs:swapsWith value (some (.Subscript o i pos')) pos.line X.env=pure false) :
  PS X (.Assign [.Subscript o i pos'] value pos) (apb_ td ty tv):=by
 intro pins s σ H D I h
 refine wpAny_Assign_Subscript (thn (hv pins s σ H _ I h) λr s1 ⟨v,H1,I1,rv,q1⟩=>thn (ho pins s1 σ H1 _ I1 q1) λu s2 ⟨x,H2,I2,rx,q2⟩=>thn (hi pins s2 σ H2 _ I2 q2) λiv s3 ⟨y,H3,I3,ry,a,H4,ex,g,q3⟩=>?_) hs
 subst ex
 obtain rfl:u=Value.ref a:=rx
 exact afw_ hu I3 g ry rv λs4 I4=>⟨σ,H4,I4,q3⟩
end
theorem aip_{P:Program}{w:World}{H:Hp}(h:Heap)(hb:sysModules<h.objs.size):ObjOk P w H (h.push { cls:=.type "dict",data:=.dict #[] }) h.objs.size (.dT []) :=
 ⟨Ap _,beq_eq_false_iff_ne.mpr (B2 (Ag hb)),[],.nil,_,#[],0,AM _ rfl,⟨rfl,rfl,rfl⟩,rfl,rfl,List.nodup_nil⟩
def aoe_:TE:=λ_ H Q=>∀p,H p=none->Q (.ref p) (upd H p (.dT []))
section
variable{X:Cx}{pos:Pos}
theorem yQ_:PE X (.Dict [] [] pos) aoe_:=λpins s σ H Q I h =>
 wpAny_Dict_empty ⟨.ref s.heap.objs.size,_,I.laid (a:=s.heap.objs.size) (o:=.dT []) (t':=s.toks) (λ_ _ q=>AB _ q) (AG _) (aip_ s.heap I.big),rfl,h _ (I.hok.fresh (AG _))⟩
end
def amr_(kvs more:List (Key×V)):List (Key×V):=more.foldl (λacc kv=>z2_ acc kv.1 kv.2) kvs
theorem KV.merge:∀{more:List (Key×V)}{rs:List (Key×Value)}{kvs:List (Key×V)}{vs:List (Key×Value)},KV more rs->KV kvs vs->KV (amr_ kvs more) (merged vs rs):=by
 intro more rs kvs vs r
 unfold KV at r
 induction r generalizing kvs vs with
 |nil=>intro q;exact q
 |@cons p q ps qs h t ih =>
  intro r0
  have e:KV (z2_ kvs p.1 p.2) (stored vs q.1 q.2):=by
   have:=r0.put p.1 h.2
   rw[<-h.1];exact this
  exact ih e
structure M1(X:Cx)(o:Expr)(m:Str)(apos:Pos)(e:Expr)(cpos:Pos):Prop where
 base:attributeBase o m X.env (eval o X.env)=eval o X.env
 few:((backTo cpos (starEach [e] X.env)).all (λx=>!x.1)&&(backToKw cpos (keywordEach [] X.env)).all (λx=>x.1.isSome)
  && decide (([e]:List Expr).length+([]:List Keyword).length+(if ([]:List Keyword).isEmpty then 0 else 1)<30))=true
 line:(apos.endLine==cpos.line)=true
 trees:backTo cpos (starEach [e] X.env)=[(false,eval e X.env)]
structure M2(X:Cx)(o:Expr)(m:Str)(apos:Pos)(e f:Expr)(cpos:Pos):Prop where
 base:attributeBase o m X.env (eval o X.env)=eval o X.env
 few:((backTo cpos (starEach [e,f] X.env)).all (λx=>!x.1)&&(backToKw cpos (keywordEach [] X.env)).all (λx=>x.1.isSome)
  && decide (([e,f]:List Expr).length+([]:List Keyword).length+(if ([]:List Keyword).isEmpty then 0 else 1)<30))=true
 line:(apos.endLine==cpos.line)=true
 trees:backTo cpos (starEach [e,f] X.env)=[(false,eval e X.env),(false,eval f X.env)]
def IsD(H:Hp)(a:Addr):Prop:=(∃kvs,Rd H a (.dK kvs))∨∃kvs,Rd H a (.dT kvs)
theorem aoo_{X:Cx}{pins:List (Addr×Obj)}{σ:St}{H:Hp}{s:Shared}{a:Addr}(I:Inv X pins σ H s)(d:IsD H a) :
  s.TypeIs (.ref a) "dict" /\ (∀b,Value.ref a=.ref b->∃ob,s.heap.get? b=some ob/\ob.dict=none)/\(a==sysModules)=false:=by
 rcases d with⟨kvs,e⟩|⟨kvs,e⟩
 ·obtain⟨_,hd,vs,_,dd⟩:=vn_ I.hok e
  refine⟨dd.typeIs,λb q=>?_,hd⟩
  cases q
  obtain⟨ob,_,_,h1,h2,_⟩:=dd
  exact⟨ob,h1,h2.2.1⟩
 ·obtain⟨_,hd,xs,_,dd⟩:=y7_ I.hok e
  refine⟨dd.typeIs,λb q=>?_,hd⟩
  cases q
  obtain⟨ob,_,_,h1,h2,_⟩:=dd
  exact⟨ob,h1,h2.2.1⟩
section
variable{X:Cx}{pins:List (Addr×Obj)}{σ:St}{H:Hp}{s:Shared}{a:Addr}{y d:V}{u r:Value}{o:Option V}{A:Around}{E:Value->Shared->Prop}
theorem am8_{Q:Value->Shared->Prop}(hu:A.units+1<cLine)(I:Inv X pins σ H s)(g:DGet H a y o)(ry:RelV y u)(rd:RelV d r)(h:∀w' s',Inv X pins σ H s'->RelV (o.getD d) w'->Q w' s') :
  wpAny (model X.prog X.w) A (call (.builtin "dict.get") [.ref a,u,r]) Q E s:=by
 rcases g with⟨kvs,k,e,ey,l⟩|⟨kvs,k,b,e,ey,eb,l⟩
 ·subst ey
  obtain⟨z,hd,vs,rel,dd⟩:=vn_ I.hok e
  refine call_meetsIn DH dd.typeIs EI (D4 _ _ _) (meets_dict_get_default (q6_ X.prog X.w) a (aas_ ry) hd r) ⟨_,dd.mapOf,h _ _ (I.tok _) ?_⟩
  rw[l]
  exact(rel.val k).getD rd
 ·subst ey
  cases(show u=Value.ref b from ry)
  obtain⟨z,hd,xs,rel,dd⟩:=y7_ I.hok e
  refine call_meetsIn DH dd.typeIs EI (D4 _ _ _) (meetsH_dict_get_default (tupleKind (q6_ X.prog X.w)) a b hd r) ⟨tupleKind_room_in1 hu,k,xs,vo_ I.hok eb,dd,h _ _ (I.tok _) ?_⟩
  rw[l]
  exact(rel.val k).getD rd
end
def ans_(td ty tx:TE):TE:=λσ H Q=>td σ H λx H1=>∃a,x=.ref a/\IsD H1 a/\ty σ H1 λy H2=>tx σ H2 λz H3=>∃o,DGet H3 a y o/\Q (o.getD z) H3
section
variable{X:Cx}{o e f:Expr}{apos cpos:Pos}{td ty tx:TE}
theorem aa2_(hu:X.A.units+1<cLine)(ho:PE X o td)(he:PE X e ty)(hf:PE X f tx)(m:M2 X o "get" apos e f cpos):PE X (.Call (.Attribute o "get" apos) [e,f] [] cpos) (ans_ td ty tx):=by
 intro pins s σ H Q I h
 refine wpAny_Call_method m.base m.few m.line D5 DH PySem.F.type_dict_get (thn (ho pins s σ H _ I h) λu s1 ⟨x,H1,I1,rx,a,ex,d,q1⟩=>?_)
 subst ex
 obtain rfl:u=Value.ref a:=rx
 obtain⟨t1,t2,_⟩:=aoo_ I1 d
 refine⟨t1,t2,?_⟩
 rw[m.trees]
 refine CD rfl (CM (DZ (thn (he pins s1 σ H1 _ I1 q1) λiv s2 ⟨y,H2,I2,ry,q2⟩ =>
  DZ (thn (hf pins s2 σ H2 _ I2 q2) λfv s3 ⟨z,H3,I3,rz,ov,g,q3⟩=>Calls.spliced_nil ?_))))
 exact am8_ hu I3 g ry rz λw' s4 I4 rw'=>⟨_,H3,I4,rw',q3⟩
end
end L2
namespace L2
open PySem PySem.Spec PyProof.Rows
end L2
namespace L2.Ev
open PySem PySem.Spec PyProof.Rows
section
variable{X:Cx}
theorem z0_:CallR X (.builtin "isinstance") (λxs H Q=>∃x t T b,xs=[x,.ty T]/\TyOf X.K H x t/\PySem.W.kitOne X.K t (.type T)=some b/\Q (.bl b) H):=by
 intro pins s σ H xs us Q I r h
 obtain⟨x,t,T,b,rfl,ty,e,q⟩:=h
 obtain⟨u,v,rfl,r1,r2⟩:=jE_ r
 obtain rfl:v=Value.type T:=r2
 exact aga_ I r1 ty e λtk=>⟨.bl b,H,I.tok tk,rfl,q⟩
theorem ajd_{t:Addr}{vs:List Value}{ns:List Int}{s:Shared}{prog:Program}{w:World}{A:Around}{E:Value->Shared->Prop}{Q:Value->Shared->Prop}(hh:A.handled=none)(hl:s.heap.IsTuple t vs.toArray)(hi:IntsAre vs ns)
  (h:∀h' tk t',(∀b o,s.heap.get? b=some o->h'.get? b=some o)->Q (.int ns.sum t') { s with heap:=h',toks:=tk }) :
  wpAny (model prog w) A (call (.builtin "sum") [.ref t]) Q E s:=by
 obtain⟨xs,hx⟩:=hi.allInts.items
 have hn:numsOf vs.toArray.toList=ns:=by rw[show vs.toArray.toList=vs from rfl,hi.numsOf]
 rw[hx]at hl hn
 rw[nums_intItems]at hn
 refine PySem.W.ktm_sumG hh hl λh' tk t' hk=>?_
 have:=h h' tk t' hk
 rw[preSum_eq,AN (by simp),hn]
 exact this
theorem afq_(hc:X.calm=true):CallR X (.builtin "sum") (λxs H Q=>∃(p:Addr)(ns:List Int),xs=[.ref p]/\SqT X.K H p (ns.map V.int)/\Q (.int ns.sum) H):=by
 intro pins s σ H xs us Q I r h
 obtain⟨p,ns,rfl,hq,q⟩:=h
 obtain⟨u,rfl,ru⟩:=zT_ r
 cases ru
 obtain⟨its,rv,ht,_⟩:=I.tuple hq
 exact ajd_ (I.ok.hd hc) (show s.heap.IsTuple p its.toArray from ht) (zr_ rv) λh' tk t' hk=>⟨.int ns.sum,H,I.kept (t':=tk) hk,⟨t',rfl⟩,q⟩
end
def Tups(H H':Hp):Prop:=∀p xs,H p=some (.tup xs)->H' p=some (.tup xs)
theorem Tups.refl(H:Hp):Tups H H:=λ_ _ h=>h
theorem Tups.trans{H H1 H2:Hp}(a:Tups H H1)(b:Tups H1 H2):Tups H H2:=λp xs h=>b p xs (a p xs h)
theorem Tups.same{H H':Hp}(a:Same H H'):Tups H H':=λp xs h=>a p _ h
class Dat (α:Type) where
 is:Hp->V->α->Prop
 mono:∀{H H':Hp}{v:V}{a:α},Tups H H'->is H v a->is H' v a
 inj:∀{H:Hp}{v:V}{a b:α},is H v a->is H v b->a=b
 dep:Nat
 eqb:α->α->Bool
 eqb_iff:∀a b,eqb a b=true↔a=b
 eqAt:∀{X:Cx}{pins:List (Addr×Obj)}{σ:St}{H:Hp}{s:Shared}{A:Around}{v v':V}{u u':Value}{a b:α},Inv X pins σ H s->A.units+dep<cLine->is H v a->is H v' b->RelV v u->RelV v' u'->SeqAt.EqAt A s u u' (eqb a b)
instance:Dat Int where
 is:=λ_ v n=>v=.int n
 mono:=λ_ h=>h
 inj:=λh h'=>by rw[h]at h';cases h';rfl
 dep:=0
 eqb:=λa b=>a==b
 eqb_iff:=λa b=>by simp
 eqAt:=λI hu h h' r r'=>by
  subst h h'
  obtain⟨t,rfl⟩:=r
  obtain⟨t',rfl⟩:=r'
  exact Db _ _ _ _
theorem Paired.get{α β:Type}{F:α->β->Prop}:∀{l:List α}{m:List β}(r:Paired F l m){i:Nat}{a:α},l[i]?=some a->∃b,m[i]?=some b/\F a b
 |_,_,.nil,_,_,e=>by simp at e
 |_,_,.cons r t,0,_,e=>by simp at e;subst e;exact⟨_,rfl,r⟩
 |_,_,.cons r t,i+1,a,e=>by
  obtain⟨b,h1,h2⟩:=Paired.get t (i:=i) (a:=a) (by simpa using e)
  exact⟨b,by simpa using h1,h2⟩
theorem Paired.getR{α β:Type}{F:α->β->Prop}:∀{l:List α}{m:List β}(r:Paired F l m){i:Nat}{b:β},m[i]?=some b->∃a,l[i]?=some a/\F a b
 |_,_,.nil,_,_,e=>by simp at e
 |_,_,.cons r t,0,_,e=>by simp at e;subst e;exact⟨_,rfl,r⟩
 |_,_,.cons r t,i+1,b,e=>by
  obtain⟨a,h1,h2⟩:=Paired.getR t (i:=i) (b:=b) (by simpa using e)
  exact⟨a,by simpa using h1,h2⟩
theorem Paired.injR{α β:Type}{F:α->β->Prop}(hf:∀a b b',F a b->F a b'->b=b'):∀{l:List α}{m m':List β},Paired F l m->Paired F l m'->m=m'
 |_,_,_,.nil,.nil=>rfl
 |_,_,_,.cons r t,.cons r' t'=>by rw[hf _ _ _ r r',Paired.injR hf t t']
theorem Paired.app{α β:Type}{F:α->β->Prop}:∀{l l':List α}{m m':List β},Paired F l m->Paired F l' m'->Paired F (l++l') (m++m')
 |_,_,_,_,.nil,h=>h
 |_,_,_,_,.cons r t,h=>.cons r (Paired.app t h)
def zL_{α:Type}(e:α->α->Bool):List α->List α->Bool
 |[],[]=>true
 |a::l,b::m=>e a b&&zL_ e l m
 |_,_=>false
theorem xr_{α:Type}{e:α->α->Bool}(h:∀a b,e a b=true↔a=b):∀l m,zL_ e l m=true↔l=m
 |[],[]=>by simp [zL_]
 |[],_::_=>by simp [zL_]
 |_::_,[]=>by simp [zL_]
 |a::l,b::m=>by simp [zL_,h a b,xr_ h l m]
def eAt{α:Type}(e:α->α->Bool)(l m:List α)(j:Nat):Bool:=match l[j]?,m[j]? with
 |some a,some b=>e a b
 |_,_=>false
theorem xs_{α:Type}(e:α->α->Bool):∀l m:List α,((List.range (min l.length m.length)).all (eAt e l m)&&l.length==m.length)=zL_ e l m
 |[],[]=>by simp [zL_]
 |[],_::_=>by simp [zL_]
 |_::_,[]=>by simp [zL_]
 |a::l,b::m=>by
  have ih:=xs_ e l m
  show((List.range (min (l.length+1) (m.length+1))).all (eAt e (a::l) (b::m))&&(l.length+1==m.length+1))=(e a b&&zL_ e l m)
  rw[<-ih,Nat.add_min_add_right,B4,DE,Es]
  have e0:eAt e (a::l) (b::m) 0=e a b:=rfl
  have e1:(eAt e (a::l) (b::m) ∘ Nat.succ)=eAt e l m:=by funext j;rfl
  have e2:(l.length+1==m.length+1)=(l.length==m.length):=by simp
  rw[e0,e1,e2,Bool.and_assoc]
section
variable{α:Type}[D:Dat α]
abbrev Its(H:Hp)(vs:List V)(l:List α):Prop:=Paired (λv a=>D.is H v a) vs l
theorem Its.mono{H H':Hp}{vs:List V}{l:List α}(t:Tups H H')(h:Its H vs l):Its H' vs l:=Paired.mono (λ_ _ q=>D.mono t q) h
theorem Its.inj{H:Hp}{vs:List V}{l m:List α}(h:Its H vs l)(h':Its H vs m):l=m:=Paired.injR (F:=λv a=>D.is H v a) (λ_ _ _ q q'=>D.inj q q') h h'
theorem xp_{X:Cx}{pins:List (Addr×Obj)}{σ:St}{H:Hp}{s:Shared}{A:Around}{vs vs':List V}{its its':List Value}{l m:List α}(I:Inv X pins σ H s)(hu:A.units+D.dep<cLine)(h:Its H vs l)(h':Its H vs' m)(r:Vals vs its)(r':Vals vs' its') :
  ∀j (h1:j<its.toArray.size) (h2:j<its'.toArray.size),SeqAt.EqAt A s its.toArray[j] its'.toArray[j] (eAt D.eqb l m j):=by
 intro j h1 h2
 have l1:=r.length
 have l2:=r'.length
 have k1:j<its.length:=by simpa using h1
 have k2:j<its'.length:=by simpa using h2
 have g1:vs[j]?=some vs[j]:=AH (by omega)
 have g2:vs'[j]?=some vs'[j]:=AH (by omega)
 obtain⟨u,e1,ru⟩:=r.get g1
 obtain⟨u',e2,ru'⟩:=r'.get g2
 obtain⟨a,f1,ra⟩:=Paired.get h g1
 obtain⟨b,f2,rb⟩:=Paired.get h' g2
 have q1:its.toArray[j]=u:=by
  have:its[j]=u:=by rw[AH k1]at e1;exact AW e1
  simpa using this
 have q2:its'.toArray[j]=u':=by
  have:its'[j]=u':=by rw[AH k2]at e2;exact AW e2
  simpa using this
 have q3:eAt D.eqb l m j=D.eqb a b:=by unfold eAt;rw[f1,f2]
 rw[q1,q2,q3]
 exact D.eqAt I hu ra rb ru ru'
instance datList:Dat (List α) where
 is:=λH v l=>∃p vs,v=.ref p/\H p=some (.tup vs)/\Its H vs l
 mono:=λt ⟨p,vs,e,h,i⟩=>⟨p,vs,e,t p vs h,Its.mono t i⟩
 inj:=λ⟨p,vs,e,h,i⟩ ⟨p',vs',e',h',i'⟩=>by
  subst e
  cases e'
  rw[h]at h'
  cases h'
  exact Its.inj i i'
 dep:=D.dep+1
 eqb:=zL_ D.eqb
 eqb_iff:=xr_ D.eqb_iff
 eqAt:=λ{X pins σ H s A v v' u u' l m} I hu h h' r r'=>by
  obtain⟨p,vs,rfl,h,i⟩:=h
  obtain⟨p',vs',rfl,h',i'⟩:=h'
  cases r
  cases r'
  by_cases e:p=p'
  ·subst e
   rw[h]at h'
   cases h'
   have q:l=m:=Its.inj i i'
   rw[(xr_ D.eqb_iff l m).mpr q]
   exact SeqAt.EqAt.same _
  ·obtain⟨its,rv,ht,_⟩:=I.tuple (SqT.of h)
   obtain⟨its',rv',ht',_⟩:=I.tuple (SqT.of h')
   have hl:its.toArray.size=l.length:=by have:=rv.length;have:=AL i;simp;omega
   have hm:its'.toArray.size=m.length:=by have:=rv'.length;have:=AL i';simp;omega
   have q:=C8 (A:=A) (s:=s) (e:=eAt D.eqb l m) (show s.heap.IsTuple p its.toArray from ht) (show s.heap.IsTuple p' its'.toArray from ht') (by omega)
    (xp_ I (A:=A.in1) (by show A.units+1+D.dep<cLine;omega) i i' rv rv')
   rw[hl,hm,xs_]at q
   exact SeqAt.EqAt.of_refs e q
def LstAt(H:Hp)(a:Addr)(l:List α):Prop:=∃vs,H a=some (.lst vs)/\Its H vs l
theorem LstAt.mono{H H':Hp}{a:Addr}{l:List α}(e:Same H H')(h:LstAt H a l):LstAt H' a l:=by
 obtain⟨vs,q,i⟩:=h
 exact⟨vs,e _ _ q,Its.mono (Tups.same e) i⟩
end
section
variable{α β:Type}[D:Dat α][D2:Dat β]
instance datPair:Dat (α×β) where
 is:=λH v x=>∃p a b,v=.ref p/\H p=some (.tup [a,b])/\D.is H a x.1/\D2.is H b x.2
 mono:=λt ⟨p,a,b,e,h,i,j⟩=>⟨p,a,b,e,t _ _ h,D.mono t i,D2.mono t j⟩
 inj:=λ⟨p,a,b,e,h,i,j⟩ ⟨p',a',b',e',h',i',j'⟩=>by
  subst e
  cases e'
  rw[h]at h'
  cases h'
  exact Dr (D.inj i i') (D2.inj j j')
 dep:=max D.dep D2.dep+1
 eqb:=λx y=>D.eqb x.1 y.1&&D2.eqb x.2 y.2
 eqb_iff:=λx y=>by rw[AQ,D.eqb_iff,D2.eqb_iff,Prod.ext_iff]
 eqAt:=λ{X pins σ H s A v v' u u' l m} I hu h h' r r'=>by
  obtain⟨p,a,b,rfl,h,i,j⟩:=h
  obtain⟨p',a',b',rfl,h',i',j'⟩:=h'
  cases r
  cases r'
  by_cases e:p=p'
  ·subst e
   rw[h]at h'
   cases h'
   rw[(D.eqb_iff _ _).mpr (D.inj i i'),(D2.eqb_iff _ _).mpr (D2.inj j j')]
   exact SeqAt.EqAt.same _
  ·obtain⟨its,rv,ht,_⟩:=I.tuple (SqT.of h)
   obtain⟨its',rv',ht',_⟩:=I.tuple (SqT.of h')
   obtain⟨w1,w2,rfl,r1,r2⟩:=jE_ rv
   obtain⟨z1,z2,rfl,t1,t2⟩:=jE_ rv'
   have q:=C8 (A:=A) (s:=s) (e:=λk=>if k=0 then D.eqb l.1 m.1 else D2.eqb l.2 m.2) (show s.heap.IsTuple p _ from ht) (show s.heap.IsTuple p' _ from ht') (by omega)
    (λk h1 h2=>by
     have hk:k=0∨k=1:=by
      have:k<2:=h1
      omega
     rcases hk with rfl|rfl
     ·exact D.eqAt (A:=A.in1) I (by show A.units+1+D.dep<cLine;omega) i i' r1 t1
     ·exact D2.eqAt (A:=A.in1) I (by show A.units+1+D2.dep<cLine;omega) j j' r2 t2)
   have e2:((List.range (min [w1,w2].toArray.size [z1,z2].toArray.size)).all (λk=>if k=0 then D.eqb l.1 m.1 else D2.eqb l.2 m.2)&&[w1,w2].toArray.size==[z1,z2].toArray.size)=(D.eqb l.1 m.1&&D2.eqb l.2 m.2):=by
    simp [Bb]
   rw[e2]at q
   exact SeqAt.EqAt.of_refs e q
end
section
variable{X:Cx}{α:Type}[D:Dat α]
theorem ah2_{pins:List (Addr×Obj)}{σ:St}{H:Hp}{s:Shared}{A:Around}{a b:Addr}{l m:List α}(I:Inv X pins σ H s)(hu:A.units+(D.dep+1)<cLine)(ha:LstAt H a l)(hb:LstAt H b m) :
  SeqAt.RcAt A s (.ref a) (.ref b) (zL_ D.eqb l m):=by
 obtain⟨vs,ha,i⟩:=ha
 obtain⟨vs',hb,i'⟩:=hb
 obtain⟨its,rv,ht,_⟩:=I.list (SqL.of ha)
 obtain⟨its',rv',ht',_⟩:=I.list (SqL.of hb)
 have hl:its.toArray.size=l.length:=by have:=rv.length;have:=AL i;simp;omega
 have hm:its'.toArray.size=m.length:=by have:=rv'.length;have:=AL i';simp;omega
 have all:=xs_ D.eqb l m
 by_cases e:l.length=m.length
 ·have q:=SeqAt.RcAt.lists (A:=A) (s:=s) (e:=eAt D.eqb l m) ht.isList ht'.isList (by omega) (by omega) (xp_ I (A:=A.in1) (by show A.units+1+D.dep<cLine;omega) i i' rv rv')
  rw[hl]at q
  rw[e,Ds,beq_self_eq_true,Bool.and_true,<-e]at all
  rw[all]at q
  exact q
 ·have q:=SeqAt.RcAt.lists_lengths (A:=A) (s:=s) ht.isList ht'.isList (by rw[hl,hm];simpa using e) (by omega)
  rw[show(l.length==m.length)=false by simpa using e,EO]at all
  rw[<-all]
  exact q
theorem aeo_{pins:List (Addr×Obj)}{σ:St}{H:Hp}{s:Shared}{A:Around}{a b:Addr}{l m:List α}(I:Inv X pins σ H s)(hu:A.units+(D.dep+1)<cLine)(ha:LstAt H a l)(hb:LstAt H b m) :
  SeqAt.RcNeAt A s (.ref a) (.ref b) (!zL_ D.eqb l m):=by
 obtain⟨vs,ha,i⟩:=ha
 obtain⟨vs',hb,i'⟩:=hb
 obtain⟨its,rv,ht,_⟩:=I.list (SqL.of ha)
 obtain⟨its',rv',ht',_⟩:=I.list (SqL.of hb)
 have hl:its.toArray.size=l.length:=by have:=rv.length;have:=AL i;simp;omega
 have hm:its'.toArray.size=m.length:=by have:=rv'.length;have:=AL i';simp;omega
 have all:=xs_ D.eqb l m
 by_cases e:l.length=m.length
 ·have q:=SeqAt.RcNeAt.lists (A:=A) (s:=s) (e:=eAt D.eqb l m) ht.isList ht'.isList (by omega) (by omega) (xp_ I (A:=A.in1) (by show A.units+1+D.dep<cLine;omega) i i' rv rv')
  rw[hl]at q
  rw[e,Ds,beq_self_eq_true,Bool.and_true,<-e]at all
  rw[all]at q
  exact q
 ·have q:=SeqAt.RcNeAt.lists_lengths (A:=A) (s:=s) ht.isList ht'.isList (by rw[hl,hm];simpa using e) (by omega)
  rw[show(l.length==m.length)=false by simpa using e,EO]at all
  rw[<-all]
  exact q
def rEqL(α:Type)[Dat α]:R2:=λx y H Q=>∃(a b:Addr)(l m:List α),x=.ref a/\y=.ref b/\LstAt H a l/\LstAt H b m/\Q (.bl (zL_ (Dat.eqb (α:=α)) l m)) H
def rNeL(α:Type)[Dat α]:R2:=λx y H Q=>∃(a b:Addr)(l m:List α),x=.ref a/\y=.ref b/\LstAt H a l/\LstAt H b m/\Q (.bl (!zL_ (Dat.eqb (α:=α)) l m)) H
theorem ae8_(hu:X.A.units+(D.dep+1)<cLine):OpR X (compareOp .Eq) (rEqL α):=by
 intro pins s σ H x y v u Q I rx ry h
 obtain⟨a,b,l,m,rfl,rfl,ha,hb,q⟩:=h
 cases rx
 cases ry
 exact(ah2_ I hu ha hb) X.prog X.w X.xe _ ⟨.bl _,H,I,rfl,q⟩
theorem y1_(hu:X.A.units+(D.dep+1)<cLine):OpR X (compareOp .NotEq) (rNeL α):=by
 intro pins s σ H x y v u Q I rx ry h
 obtain⟨a,b,l,m,rfl,rfl,ha,hb,q⟩:=h
 cases rx
 cases ry
 exact(aeo_ I hu ha hb) X.prog X.w X.xe _ ⟨.bl _,H,I,rfl,q⟩
end
end L2.Ev
namespace L2.Ts
open PySem PyProof.Rows
def kv(rk:Keyed->Nat)(xs:Array Keyed)(i:Nat):Nat:=match xs[i]? with
 |some p=>rk p
 |none=>0
def Srt(rk:Keyed->Nat)(xs:Array Keyed)(a b:Nat):Prop:=∀i j,a<=i->i<=j->j<b->kv rk xs i<=kv rk xs j
def Des(rk:Keyed->Nat)(xs:Array Keyed)(a b:Nat):Prop:=∀i j,a<=i->i<=j->j<b->kv rk xs j<=kv rk xs i
theorem qC_{rk:Keyed->Nat}{xs:Array Keyed}{i:Nat}{p:Keyed}(h:xs[i]?=some p):kv rk xs i=rk p:=by unfold kv;rw[h]
theorem zv_{rk:Keyed->Nat}{xs ys:Array Keyed}{i j:Nat}(h:xs[i]?=ys[j]?):kv rk xs i=kv rk ys j:=by unfold kv;rw[h]
structure Nx(lo:Nat)(st st':SortSt):Prop where
 kind:kindOf st'=kindOf st
 failed:failedOf st'=failedOf st
 pend:pendingOf st'=pendingOf st
 perm:(arrOf st').Perm (arrOf st)
 below:∀k:Nat,k<lo->(arrOf st')[k]?=(arrOf st)[k]?
theorem Nx.refl(lo:Nat)(st:SortSt):Nx lo st st:=⟨rfl,rfl,rfl,Array.Perm.refl _,λ_ _=>rfl⟩
theorem Nx.trans{lo:Nat}{a b c:SortSt}(h:Nx lo a b)(q:Nx lo b c):Nx lo a c:=⟨q.kind.trans h.kind,q.failed.trans h.failed,q.pend.trans h.pend,q.perm.trans h.perm,λk hk=>(q.below k hk).trans (h.below k hk)⟩
theorem Nx.size{lo:Nat}{a b:SortSt}(h:Nx lo a b):(arrOf b).size=(arrOf a).size:=h.perm.size_eq
theorem jZ_{rk:Keyed->Nat}{xs:Array Keyed}{i j:Nat}(hj:j<=xs.size)(k:Nat):kv rk (mirror xs i j ((j-i) / 2)) k=if i<=k/\k<j then kv rk xs (i+j-1-k) else kv rk xs k:=by
 have e:=getElem?_mirror_all (i:=i) hj k
 split
 ·rename_i h;rw[if_pos h]at e;exact zv_ e
 ·rename_i h;rw[if_neg h]at e;exact zv_ e
theorem vU_{rk:Keyed->Nat}{xs:Array Keyed}{src d:Nat}(hs:src<xs.size)(hd:d<=src)(k:Nat) :
  kv rk (bubble xs src d) k=if k=src-d then kv rk xs src else if src-d<k/\k<=src then kv rk xs (k-1) else kv rk xs k:=by
 have e:=getElem?_bubble hs d hd k
 split
 ·rename_i h;rw[if_pos h]at e;exact zv_ e
 ·rename_i h
  rw[if_neg h]at e
  split
  ·rename_i h2;rw[if_pos h2]at e;exact zv_ e
  ·rename_i h2;rw[if_neg h2]at e;exact zv_ e
theorem xD_{lo i j:Nat}{st:SortSt}(hi:lo<=i)(hj:j<=(arrOf st).size):Nx lo st (setArr st (mirror (arrOf st) i j ((j-i) / 2))) :=
 ⟨rfl,rfl,rfl,mirror_perm _ _ _ _,λk hk=>by
  have e:=getElem?_mirror_all (xs:=arrOf st) (i:=i) hj k
  rw[if_neg (by lia)]at e
  exact e⟩
theorem afk_{lo src d:Nat}{st:SortSt}(hi:lo<=src-d)(hs:src<(arrOf st).size)(hd:d<=src):Nx lo st (setArr st (bubble (arrOf st) src d)) :=
 ⟨rfl,rfl,rfl,bubble_perm _ _ _,λk hk=>by
  have e:=getElem?_bubble (xs:=arrOf st) hs d hd k
  rw[if_neg (by lia),if_neg (by lia)]at e
  exact e⟩
section
variable{prog:Program}{w:World}{A:Around}{E:Value->Shared->Prop}{s:Shared}{κ:SortKind}{M:Keyed->Prop}{rk:Keyed->Nat}
def Ask(prog:Program)(w:World)(A:Around)(s:Shared)(κ:SortKind)(M:Keyed->Prop)(rk:Keyed->Nat):Prop :=
 ∀x y,M x->M y->∀Q:Bool->Shared->Prop,Q (decide (rk x<rk y)) s->wpAny (model prog w) A (keyLt' κ x.1 y.1) Q (λ_ _=>False) s
theorem ym_(h:Ask prog w A s κ M rk){x y:Keyed}{st:SortSt}{Q:Option Bool->SortSt->Prop}(hk:kindOf st=κ)(hx:M x)(hy:M y)(q:Q (some (decide (rk x<rk y))) st) :
  wpS (model prog w) A E s (lt' x y) Q st:=by
 rw[lt'_eq]
 refine wpS_bind (wpS_get ?_)
 rw[hk]
 refine wpS_bind (wpS_lift (wpAny_attempt (wpAny_mono (h x y hx hy (λb s'=>s'=s/\b=decide (rk x<rk y)) ⟨rfl,rfl⟩) (λb s' hb=>?_) λ_ _ z=>z.elim)))
 obtain⟨h1,rfl⟩:=hb
 exact⟨h1,wpS_pure q⟩
theorem qJ_{arr:Array Keyed}{i:Nat}{p:Keyed}{st:SortSt}{Q:Keyed->SortSt->Prop}(h:arr[i]?=some p)(q:Q p st):wpS (model prog w) A E s (elem' arr i) Q st:=by
 rw[elem'_eq,h]
 exact wpS_pure q
def All(M:Keyed->Prop)(xs:Array Keyed):Prop:=∀(i:Nat) p,xs[i]?=some p->M p
theorem All.perm{xs ys:Array Keyed}(h:All M xs)(p:ys.Perm xs):All M ys:=λi x e=>by
 have hm:x∈xs:=p.mem_iff.mp (EQ e)
 obtain⟨j,hj,ej⟩:=Array.getElem_of_mem hm
 exact h j x (by rw[AF hj,ej])
theorem xj_(h:Ask prog w A s κ M rk){i j:Nat}{st:SortSt}{Q:Option Bool->SortSt->Prop}(hk:kindOf st=κ)(ha:All M (arrOf st))(hi:i<(arrOf st).size)(hj:j<(arrOf st).size)
  (q:Q (some (decide (kv rk (arrOf st) i<kv rk (arrOf st) j))) st):wpS (model prog w) A E s (ltAt' i j) Q st:=by
 have ei:(arrOf st)[i]?=some (arrOf st)[i]:=AF hi
 have ej:(arrOf st)[j]?=some (arrOf st)[j]:=AF hj
 rw[ltAt'_eq]
 refine wpS_bind (wpS_get ?_)
 refine wpS_bind (qJ_ ei (wpS_bind (qJ_ ej (ym_ h hk (ha _ _ ei) (ha _ _ ej) ?_))))
 rw[qC_ ei,qC_ ej]at q
 exact q
theorem am6_(h:Ask prog w A s κ M rk){lo nrem:Nat}{st:SortSt}{Q:Option Nat->SortSt->Prop}(hk:kindOf st=κ)(ha:All M (arrOf st))(hn:1<=nrem)(hz:lo+nrem<=(arrOf st).size)
  (q:∀n st',Nx lo st st'->1<=n->n<=nrem->Srt rk (arrOf st') lo (lo+n)->Q (some n) st'):wpS (model prog w) A E s (countRun' lo nrem) Q st:=by
 rw[countRun'_eq]
 have asc:∀(st1:SortSt)(a:Nat)(R:Option (Option Nat)×Nat->SortSt->Prop),Nx lo st st1->1<=a->a<=nrem->Srt rk (arrOf st1) lo (lo+a) ->
   (∀n,a<=n->n<=nrem->Srt rk (arrOf st1) lo (lo+n)->(n=nrem∨kv rk (arrOf st1) (lo+n)<kv rk (arrOf st1) (lo+n-1))->R (none,n) st1) ->
   wpS (model prog w) A E s (forIn [a:nrem] ((none,a):Option (Option Nat)×Nat) λ_ r=>do
    let x <-ltAt' (lo+r.2) (lo+r.2-1)
    match x with
    |some c=>if c=true then pure (ForInStep.done (none,r.2)) else pure (ForInStep.yield (none,r.2+1))
    |_=>pure (ForInStep.done (some none,r.2))) R st1:=by
  intro st1 a R n1 ha1 han hs hR
  refine wpS_forRange (I:=λx c st'=>st'=st1/\c=(none,x)/\Srt rk (arrOf st1) lo (lo+x)) ?step ?fin ⟨rfl,rfl,hs⟩
  case fin =>
   rintro c st' ⟨rfl,rfl,hs'⟩
   rw[show max a nrem=nrem by lia]at hs' ⊢
   exact hR nrem han (AG _) hs' (.inl rfl)
  case step =>
   rintro x c st' hax hxn ⟨rfl,rfl,hs'⟩
   dsimp only
   have hsz:=n1.size
   refine wpS_bind (xj_ h (n1.kind.trans hk) (ha.perm n1.perm) (by lia) (by lia) ?_)
   by_cases hl:kv rk (arrOf st') (lo+x)<kv rk (arrOf st') (lo+x-1)
   ·simp only[hl,decide_true,if_true]
    exact wpS_pure (hR x hax (by lia) hs' (.inr hl))
   ·simp only[hl,decide_false,BA,if_false]
    refine wpS_pure ⟨rfl,rfl,λi j hi hij hj=>?_⟩
    by_cases hjx:j<lo+x
    ·exact hs' i j hi hij hjx
    ·have ej:j=lo+x:=by lia
     subst ej
     by_cases hi':i=lo+x
     ·subst hi';exact AG _
     ·have:=hs' i (lo+x-1) hi (by lia) (by lia)
      lia
 have one:Srt rk (arrOf st) lo (lo+1):=λi j h1 h2 h3=>by
  have e:i=j:=by lia
  subst e
  exact AG _
 refine wpS_bind (asc st 1 _ (Nx.refl _ _) (AG _) hn one λn hn1 hn2 hs hnd=>?_)
 dsimp only
 by_cases hnn:n=nrem
 ·subst hnn
  rw[if_pos (by simp)]
  exact wpS_pure (q n st (Nx.refl _ _) hn1 (AG _) hs)
 rw[if_neg (by simpa using hnn)]
 have hlt:kv rk (arrOf st) (lo+n)<kv rk (arrOf st) (lo+n-1):=hnd.resolve_left hnn
 have key:∀K:StateT SortSt Sem (Option Nat),(∀st1,Nx lo st st1->Des rk (arrOf st1) lo (lo+n+1)->wpS (model prog w) A E s K Q st1) ->
   wpS (model prog w) A E s (if n>1 then do
    let x <-ltAt' lo (lo+n-1)
    match x with
    |some c=>if c=true then pure (some n) else do
     reverseSlice' lo (lo+n)
     K
    |_=>pure none
   else K) Q st:=by
  intro K hK
  by_cases h1:n>1
  ·rw[if_pos h1]
   refine wpS_bind (xj_ h hk ha (by lia) (by lia) ?_)
   by_cases hl:kv rk (arrOf st) lo<kv rk (arrOf st) (lo+n-1)
   ·simp only[hl,decide_true,if_true]
    exact wpS_pure (q n st (Nx.refl _ _) hn1 hn2 hs)
   ·simp only[hl,decide_false,BA,if_false]
    refine wpS_bind (wpS_reverse (hK _ (xD_ (AG _) (by lia)) ?_))
    have alike:∀k,lo<=k->k<lo+n->kv rk (arrOf st) k=kv rk (arrOf st) lo:=λk h2 h3=>by
     have e1:=hs lo k (AG _) h2 h3
     have e2:=hs k (lo+n-1) h2 (by lia) (by lia)
     lia
    have same:∀k,kv rk (mirror (arrOf st) lo (lo+n) ((lo+n-lo) / 2)) k=kv rk (arrOf st) k:=λk=>by
     rw[jZ_ (by lia)]
     split
     ·rw[alike _ (by lia) (by lia),alike k (by lia) (by lia)]
     ·rfl
    intro i j hi hij hj
    show kv rk (mirror (arrOf st) lo (lo+n) ((lo+n-lo) / 2)) j<=kv rk (mirror (arrOf st) lo (lo+n) ((lo+n-lo) / 2)) i
    rw[same,same]
    by_cases hj':j<lo+n
    ·rw[alike j (by lia) hj',alike i hi (by lia)];exact AG _
    ·have ej:j=lo+n:=by lia
     subst ej
     by_cases hi':i<lo+n
     ·have e1:=alike i hi hi'
      have e2:=alike (lo+n-1) (by lia) (by lia)
      lia
     ·have ei:i=lo+n:=by lia
      subst ei;exact AG _
  ·rw[if_neg h1]
   have en:n=1:=by lia
   subst en
   refine hK st (Nx.refl _ _) λi j hi hij hj=>?_
   by_cases e:i=j
   ·subst e;exact AG _
   ·have e1:i=lo:=by lia
    have e2:j=lo+1:=by lia
    subst e1 e2
    exact Bj hlt
 refine key _ λst1 n1 hd=>?_
 have sz1:=n1.size
 refine wpS_bind (wpS_lift (wpAny_rule ⟨rfl,?_⟩))
 refine wpS_bind (wpS_mono (wpS_forRange (I:=λx c st'=>∃neq,c=(none,x,neq)/\Nx lo st st'/\Des rk (arrOf st') lo (lo+x)/\neq+1<=x/\(∀i,lo+x-(neq+1)<=i->i<lo+x->kv rk (arrOf st') i=kv rk (arrOf st') (lo+x-1)))
  (Q:=λc st'=>∃x neq,c=(none,x,neq)/\n+1<=x/\x<=nrem/\Nx lo st st'/\Des rk (arrOf st') lo (lo+x)/\neq+1<=x/\(∀i,lo+x-(neq+1)<=i->i<lo+x->kv rk (arrOf st') i=kv rk (arrOf st') (lo+x-1)))
  ?step ?fin ⟨0,rfl,n1,hd,by lia,λi h1 h2=>by congr 1;lia⟩) ?post)
 case fin =>
  rintro c st' ⟨neq,rfl,n',hd',hq,he⟩
  rw[show max (n+1) nrem=nrem by lia]at hd' hq he ⊢
  exact⟨nrem,neq,rfl,by lia,AG _,n',hd',hq,he⟩
 case step =>
  rintro x c st' hax hxn ⟨neq,rfl,n',hd',hq,he⟩
  dsimp only
  have sz':=n'.size
  have grow:∀st2,Nx lo st st2->(∀k,kv rk (arrOf st2) k=kv rk (arrOf st') k)->kv rk (arrOf st') (lo+x)<=kv rk (arrOf st') (lo+x-1)->Des rk (arrOf st2) lo (lo+(x+1)):=by
   intro st2 _ e hle i j hi hij hj
   rw[e,e]
   by_cases hjx:j<lo+x
   ·exact hd' i j hi hij hjx
   ·have ej:j=lo+x:=by lia
    subst ej
    by_cases hi':i=lo+x
    ·subst hi';exact AG _
    ·have:=hd' i (lo+x-1) hi (by lia) (by lia)
     lia
  refine wpS_bind (xj_ h (n'.kind.trans hk) (ha.perm n'.perm) (by lia) (by lia) ?_)
  by_cases hl:kv rk (arrOf st') (lo+x)<kv rk (arrOf st') (lo+x-1)
  ·simp only[hl,decide_true,if_true]
   by_cases hq0:neq>0
   ·rw[if_pos hq0]
    have n2:Nx lo st' (setArr st' (mirror (arrOf st') (lo+x-(neq+1)) (lo+x) ((lo+x-(lo+x-(neq+1))) / 2))):=xD_ (by lia) (by lia)
    have same:∀k,kv rk (mirror (arrOf st') (lo+x-(neq+1)) (lo+x) ((lo+x-(lo+x-(neq+1))) / 2)) k=kv rk (arrOf st') k:=λk=>by
     rw[jZ_ (by lia)]
     split
     ·rw[he _ (by lia) (by lia),he k (by lia) (by lia)]
     ·rfl
    refine wpS_bind (wpS_reverse (wpS_pure ⟨0,rfl,n'.trans n2,grow _ (n'.trans n2) same (Bj hl),by lia,λi h1 h2=>by congr 1;lia⟩))
   ·rw[if_neg hq0]
    exact wpS_pure ⟨0,rfl,n',grow _ n' (λ_=>rfl) (Bj hl),by lia,λi h1 h2=>by congr 1;lia⟩
  ·simp only[hl,decide_false,BA,if_false]
   refine wpS_bind (xj_ h (n'.kind.trans hk) (ha.perm n'.perm) (by lia) (by lia) ?_)
   by_cases hl2:kv rk (arrOf st') (lo+x-1)<kv rk (arrOf st') (lo+x)
   ·simp only[hl2,decide_true,if_true]
    exact wpS_pure ⟨x,neq,rfl,hax,by lia,n',hd',hq,he⟩
   ·simp only[hl2,decide_false,BA,if_false]
    refine wpS_pure ⟨neq+1,rfl,n',grow _ n' (λ_=>rfl) (by lia),by lia,λi h1 h2=>?_⟩
    rw[show lo+(x+1)-1=lo+x by lia]
    by_cases hi':i=lo+x
    ·subst hi';rfl
    ·rw[he i (by lia) (by lia)];lia
 case post =>
  rintro c st' ⟨x,neq,rfl,hx1,hx2,n',hd',hq,he⟩
  dsimp only
  have sz':=n'.size
  have last:∀(K:Option (Option Nat)×Nat->StateT SortSt Sem (Option Nat)),(∀m,K (none,m)=pure (some m))->∀st2,Nx lo st st2->Des rk (arrOf st2) lo (lo+x)->wpS (model prog w) A E s (do
    reverseSlice' lo (lo+x)
    let r <-forIn [x:nrem] ((none,x):Option (Option Nat)×Nat) λ_ r=>do
     let x <-ltAt' (lo+r.2) (lo+r.2-1)
     match x with
     |some c=>if c=true then pure (ForInStep.done (none,r.2)) else pure (ForInStep.yield (none,r.2+1))
     |_=>pure (ForInStep.done (some none,r.2))
    K r) Q st2:=by
   intro K hK st2 n2 hd2
   have sz2:=n2.size
   refine wpS_bind (wpS_reverse ?_)
   have n3:Nx lo st2 (setArr st2 (mirror (arrOf st2) lo (lo+x) ((lo+x-lo) / 2))):=xD_ (AG _) (by lia)
   refine wpS_bind (asc _ x _ (n2.trans n3) (by lia) hx2 ?_ λm hm1 hm2 hs _=>?_)
   ·intro i j hi hij hj
    show kv rk (mirror (arrOf st2) lo (lo+x) ((lo+x-lo) / 2)) i<=kv rk (mirror (arrOf st2) lo (lo+x) ((lo+x-lo) / 2)) j
    rw[jZ_ (by lia),jZ_ (by lia),if_pos (by lia),if_pos (by lia)]
    exact hd2 _ _ (by lia) (by lia) (by lia)
   ·rw[hK];exact wpS_pure (q m _ (n2.trans n3) (by lia) hm2 hs)
  by_cases hq0:neq>0
  ·rw[if_pos hq0]
   have n2:Nx lo st' (setArr st' (mirror (arrOf st') (lo+x-(neq+1)) (lo+x) ((lo+x-(lo+x-(neq+1))) / 2))):=xD_ (by lia) (by lia)
   have same:∀k,kv rk (mirror (arrOf st') (lo+x-(neq+1)) (lo+x) ((lo+x-(lo+x-(neq+1))) / 2)) k=kv rk (arrOf st') k:=λk=>by
    rw[jZ_ (by lia)]
    split
    ·rw[he _ (by lia) (by lia),he k (by lia) (by lia)]
    ·rfl
   refine wpS_bind (wpS_reverse (last _ (λ_=>rfl) _ (n'.trans n2) λi j hi hij hj=>?_))
   show kv rk (mirror _ _ _ _) j<=kv rk (mirror _ _ _ _) i
   rw[same,same]
   exact hd' i j hi hij hj
  ·rw[if_neg hq0]
   exact last _ (λ_=>rfl) st' n' hd'
theorem alz_(h:Ask prog w A s κ M rk){lo n ok:Nat}{st:SortSt}{Q:Bool->SortSt->Prop}(hk:kindOf st=κ)(ha:All M (arrOf st))(hn:lo+n<=(arrOf st).size)(hok:ok<=n)(hs:Srt rk (arrOf st) lo (lo+ok))
  (q:∀st',Nx lo st st'->Srt rk (arrOf st') lo (lo+n)->Q true st'):wpS (model prog w) A E s (binarySort' lo n ok) Q st:=by
 rw[binarySort'_eq]
 refine wpS_bind (wpS_mono (wpS_forRange (I:=λk c st'=>c=(none,())/\Nx lo st st'/\Srt rk (arrOf st') lo (lo+min k n))
  (Q:=λc st'=>c=(none,())/\Nx lo st st'/\Srt rk (arrOf st') lo (lo+n)) ?step ?fin ?init) ?post)
 case post =>
  rintro c st' ⟨rfl,n',hs'⟩
  exact wpS_pure (q st' n' hs')
 case init =>
  refine⟨rfl,Nx.refl _ _,λi j hi hij hj=>?_⟩
  by_cases h1:ok=0
  ·have e:i=j:=by lia
   subst e;exact AG _
  ·exact hs i j hi hij (by lia)
 case fin =>
  rintro c st' ⟨hc,n',hs'⟩
  refine⟨hc,n',?_⟩
  rwa [show min (max (max ok 1) n) n=n by lia]at hs'
 case step =>
  rintro k c st' hak hkn ⟨rfl,n',hs'⟩
  rw[show min k n=k by lia]at hs'
  have sz':=n'.size
  refine wpS_bind (wpS_mono (wpS_forRange (I:=λx c st''=>st''=st'/\∃l r,c=(none,l,r)/\l<=r/\r<=k/\r-l<=k-x /\
    (∀i,i<l->kv rk (arrOf st') (lo+i)<=kv rk (arrOf st') (lo+k))/\(∀i,r<=i->i<k->kv rk (arrOf st') (lo+k)<kv rk (arrOf st') (lo+i)))
   (Q:=λc st''=>st''=st'/\∃l r,c=(none,l,r)/\l<=k /\
    (∀i,i<l->kv rk (arrOf st') (lo+i)<=kv rk (arrOf st') (lo+k))/\(∀i,l<=i->i<k->kv rk (arrOf st') (lo+k)<kv rk (arrOf st') (lo+i))) ?istep ?ifin ?iinit) ?ipost)
  case iinit=>exact⟨rfl,0,k,rfl,by lia,by lia,by lia,λi hi=>by lia,λi h1 h2=>by lia⟩
  case ifin =>
   rintro c st'' ⟨rfl,l,r,rfl,hlr,hrk,hm,hlo,hhi⟩
   have e:l=r:=by lia
   subst e
   exact⟨rfl,l,l,rfl,hrk,hlo,hhi⟩
  case istep =>
   rintro x c st'' _ hxk ⟨rfl,l,r,rfl,hlr,hrk,hm,hlo,hhi⟩
   dsimp only
   by_cases hge:l ≥ r
   ·rw[if_pos hge]
    have e:l=r:=by lia
    subst e
    exact wpS_pure ⟨rfl,l,l,rfl,hrk,hlo,hhi⟩
   ·rw[if_neg hge]
    refine wpS_bind (xj_ h (n'.kind.trans hk) (ha.perm n'.perm) (by lia) (by lia) ?_)
    by_cases hl:kv rk (arrOf st'') (lo+k)<kv rk (arrOf st'') (lo+(l+r) / 2)
    ·simp only[hl,decide_true,if_true]
     refine wpS_pure ⟨rfl,l,(l+r) / 2,rfl,by lia,by lia,by lia,hlo,λi h1 h2=>?_⟩
     exact Ac hl (hs' _ _ (by lia) (by lia) (by lia))
    ·simp only[hl,decide_false,BA,if_false]
     refine wpS_pure ⟨rfl,(l+r) / 2+1,r,rfl,by lia,by lia,by lia,λi h1=>?_,hhi⟩
     exact Aj (hs' (lo+i) (lo+(l+r) / 2) (by lia) (by lia) (by lia)) (Ec.mp hl)
  case ipost =>
   rintro c st'' ⟨rfl,l,r,rfl,hlk,hlo,hhi⟩
   show wpS _ _ _ _ (do moveDown' (lo+k) (lo+l);pure (ForInStep.yield (none,()))) _ _
   rw[moveDown'_eq]
   refine wpS_bind (wpS_modify (wpS_pure ⟨rfl,n'.trans (afk_ (by lia) (by lia) (by lia)),?_⟩))
   rw[show min (k+1) n=k+1 by lia]
   intro i j hi hij hj
   show kv rk (bubble (arrOf st'') (lo+k) (lo+k-(lo+l))) i<=kv rk (bubble (arrOf st'') (lo+k) (lo+k-(lo+l))) j
   rw[vU_ (by lia) (by lia),vU_ (by lia) (by lia),show lo+k-(lo+k-(lo+l))=lo+l by lia]
   have hlo':∀z,lo<=z->z<lo+l->kv rk (arrOf st'') z<=kv rk (arrOf st'') (lo+k):=λz h1 h2=>by
    have:=hlo (z-lo) (by lia)
    rwa [show lo+(z-lo)=z by lia]at this
   have hhi':∀z,lo+l<=z->z<lo+k->kv rk (arrOf st'') (lo+k)<kv rk (arrOf st'') z:=λz h1 h2=>by
    have:=hhi (z-lo) (by lia) (by lia)
    rwa [show lo+(z-lo)=z by lia]at this
   repeat' split
   all_goals first
    |(exfalso;lia)
    |exact AG _
    |exact hlo' _ (by lia) (by lia)
    |exact Bj (hhi' _ (by lia) (by lia))
    |exact hs' _ _ (by lia) (by lia) (by lia)
end
end L2.Ts
namespace L2.Ts
open PySem PyProof.Rows
def xN_:Bool->Keyed->Array Keyed->Nat->Nat->Nat->StateT SortSt Sem (Option Nat):=sortPriv% PySem.Builtin.gallop
section
variable{prog:Program}{w:World}{A:Around}{E:Value->Shared->Prop}{s:Shared}{κ:SortKind}{M:Keyed->Prop}{rk:Keyed->Nat}
def Bd(rk:Keyed->Nat)(left:Bool)(key:Keyed)(arr:Array Keyed)(i:Nat):Prop:=if left=true then kv rk arr i<rk key else kv rk arr i<=rk key
theorem jy_(h:Ask prog w A s κ M rk){left:Bool}{key:Keyed}{arr:Array Keyed}{base n hint:Nat}{st:SortSt}{Q:Option Nat->SortSt->Prop}(hk:kindOf st=κ)(hM:M key)(ha:All M arr)(hz:base+n<=arr.size)(hh:hint<n)
  (hs:Srt rk arr base (base+n)) (q:∀p,p<=n->(∀i,base<=i->i<base+p->Bd rk left key arr i)->(∀i,base+p<=i->i<base+n->¬ Bd rk left key arr i)->Q (some p) st) :
  wpS (model prog w) A E s (xN_ left key arr base n hint) Q st:=by
 have mono:∀i j,base<=i->i<=j->j<base+n->Bd rk left key arr j->Bd rk left key arr i:=λi j h1 h2 h3 b=>by
  have:=hs i j h1 h2 h3
  unfold Bd at b ⊢
  cases left
  ·simp only[BA,if_false]at b ⊢;lia
  ·simp only[if_true]at b ⊢;lia
 have asks:∀(i:Nat)(R:Option Bool->SortSt->Prop),i<n->(Bd rk left key arr (base+i)->R (some true) st)->(¬ Bd rk left key arr (base+i)->R (some false) st) ->
   wpS (model prog w) A E s (do
    let x <-elem' arr (base+i)
    if left=true then lt' x key else do
     let r <-lt' key x
     pure (r.map λb=>!b)) R st:=by
  intro i R hi r1 r2
  have ei:arr[base+i]?=some arr[base+i]:=AF (by lia)
  refine wpS_bind (qJ_ ei ?_)
  have ev:=qC_ (rk:=rk) ei
  cases left
  ·rw[if_neg (by decide)]
   refine wpS_bind (ym_ h hk hM (ha _ _ ei) (wpS_pure ?_))
   by_cases c:rk key<rk arr[base+i]
   ·rw[decide_eq_true c]
    refine r2 λb=>?_
    unfold Bd at b
    rw[if_neg (by decide),ev]at b
    lia
   ·rw[decide_eq_false c]
    refine r1 ?_
    unfold Bd
    rw[if_neg (by decide),ev]
    lia
  ·rw[if_pos rfl]
   refine ym_ h hk (ha _ _ ei) hM ?_
   by_cases c:rk arr[base+i]<rk key
   ·rw[decide_eq_true c]
    refine r1 ?_
    unfold Bd
    rw[if_pos rfl,ev]
    exact c
   ·rw[decide_eq_false c]
    refine r2 λb=>?_
    unfold Bd at b
    rw[if_pos rfl,ev]at b
    exact c b
 have srch:∀(K:Option (Option Nat)×Nat×Nat->StateT SortSt Sem (Option Nat)),(∀l p,K (none,l,p)=pure (some p))->∀lo hi,lo<=hi->hi<=n->(∀i,base<=i->i<base+lo->Bd rk left key arr i)->(∀i,base+hi<=i->i<base+n->¬ Bd rk left key arr i) ->
   ∀body,(∀x l p,body x (none,l,p)=if l ≥ p then pure (ForInStep.done (none,l,p)) else do
    let c <-(do
     let x <-elem' arr (base+(l+(p-l) / 2))
     if left=true then lt' x key else do
      let r <-lt' key x
      pure (r.map λb=>!b))
    match c with
    |some more=>if more=true then pure (ForInStep.yield (none,l+(p-l) / 2+1,p)) else pure (ForInStep.yield (none,l,l+(p-l) / 2))
    |_=>pure (ForInStep.done (some none,l,p))) ->
   wpS (model prog w) A E s (do let r <-forIn [0:n] ((none,lo,hi):Option (Option Nat)×Nat×Nat) body;K r) Q st:=by
  intro K hK lo hi hlh hhn h1 h2 body hb
  refine wpS_bind (wpS_forRange (I:=λx c st'=>st'=st/\∃l p,c=(none,l,p)/\l<=p/\p<=n/\p-l<=n-x/\(∀i,base<=i->i<base+l->Bd rk left key arr i)/\(∀i,base+p<=i->i<base+n->¬ Bd rk left key arr i)) ?step ?fin ⟨rfl,lo,hi,rfl,hlh,hhn,by lia,h1,h2⟩)
  case fin =>
   rintro c st' ⟨rfl,l,p,rfl,a1,a2,a3,a4,a5⟩
   have e:l=p:=by lia
   subst e
   rw[hK]
   exact wpS_pure (q l a2 a4 a5)
  case step =>
   rintro x c st' _ hx ⟨rfl,l,p,rfl,a1,a2,a3,a4,a5⟩
   rw[hb]
   by_cases c:l ≥ p
   ·rw[if_pos c]
    have e:l=p:=by lia
    subst e
    refine wpS_pure ?_
    show wpS _ _ _ _ (K (none,l,l)) Q st'
    rw[hK]
    exact wpS_pure (q l a2 a4 a5)
   ·rw[if_neg c]
    refine wpS_bind (asks _ _ (by lia) (λb=>?_) λb=>?_)
    ·refine wpS_pure ⟨rfl,l+(p-l) / 2+1,p,rfl,by lia,a2,by lia,λi i1 i2=>?_,a5⟩
     exact mono i _ i1 (by lia) (by lia) b
    ·refine wpS_pure ⟨rfl,l,l+(p-l) / 2,rfl,by lia,by lia,by lia,a4,λi i1 i2=>?_⟩
     exact λbi=>b (mono _ i (by lia) i1 i2 bi)
 refine wpS_bind (asks hint _ hh (λb=>?_) λb=>?_)
 ·dsimp only
  rw[if_pos rfl]
  refine wpS_bind (wpS_mono (wpS_forRange (I:=λx c st'=>st'=st/\∃l p,c=(none,l,p)/\l<p/\x<p/\l<n-hint/\Bd rk left key arr (base+(hint+l)))
   (Q:=λc st'=>st'=st/\∃l p,c=(none,l,p)/\l<p/\l<n-hint/\Bd rk left key arr (base+(hint+l))/\(n-hint<=p∨(p<n-hint/\¬ Bd rk left key arr (base+(hint+p))))) ?step ?fin ⟨rfl,0,1,rfl,by lia,by lia,by lia,b⟩) ?post)
  case fin =>
   rintro c st' ⟨rfl,l,p,rfl,a1,a2,a3,a4⟩
   exact⟨rfl,l,p,rfl,a1,a3,a4,.inl (by lia)⟩
  case step =>
   rintro x c st' _ hx ⟨rfl,l,p,rfl,a1,a2,a3,a4⟩
   dsimp only
   by_cases c:p ≥ n-hint
   ·rw[if_pos c]
    exact wpS_pure ⟨rfl,l,p,rfl,a1,a3,a4,.inl c⟩
   ·rw[if_neg c]
    refine wpS_bind (asks _ _ (by lia) (λb=>?_) λb=>?_)
    ·exact wpS_pure ⟨rfl,p,2*p+1,rfl,by lia,by lia,by lia,b⟩
    ·exact wpS_pure ⟨rfl,l,p,rfl,a1,a3,a4,.inr ⟨by lia,b⟩⟩
  case post =>
   rintro c st' ⟨rfl,l,p,rfl,a1,a2,a3,a4⟩
   dsimp only
   refine srch _ (λ_ _=>rfl) _ _ ?_ ?_ (λi i1 i2=>mono i _ i1 (by lia) (by lia) a3) (λi i1 i2 bi=>?_) _ λx l p=>rfl
   ·lia
   ·lia
   ·rcases a4 with a4|⟨a4,a5⟩
    ·lia
    ·exact a5 (mono _ i (by lia) (by lia) i2 bi)
 ·dsimp only
  rw[if_neg (by decide)]
  refine wpS_bind (wpS_mono (wpS_forRange (I:=λx c st'=>st'=st/\∃l p,c=(none,l,p)/\l<p/\x<p/\l<hint+1/\¬ Bd rk left key arr (base+(hint-l)))
   (Q:=λc st'=>st'=st/\∃l p,c=(none,l,p)/\l<p/\l<hint+1/\¬ Bd rk left key arr (base+(hint-l))/\(hint+1<=p∨(p<hint+1/\Bd rk left key arr (base+(hint-p))))) ?step ?fin ⟨rfl,0,1,rfl,by lia,by lia,by lia,b⟩) ?post)
  case fin =>
   rintro c st' ⟨rfl,l,p,rfl,a1,a2,a3,a4⟩
   exact⟨rfl,l,p,rfl,a1,a3,a4,.inl (by lia)⟩
  case step =>
   rintro x c st' _ hx ⟨rfl,l,p,rfl,a1,a2,a3,a4⟩
   dsimp only
   by_cases c:p ≥ hint+1
   ·rw[if_pos c]
    exact wpS_pure ⟨rfl,l,p,rfl,a1,a3,a4,.inl c⟩
   ·rw[if_neg c]
    refine wpS_bind (asks _ _ (by lia) (λb=>?_) λb=>?_)
    ·exact wpS_pure ⟨rfl,l,p,rfl,a1,a3,a4,.inr ⟨by lia,b⟩⟩
    ·exact wpS_pure ⟨rfl,p,2*p+1,rfl,by lia,by lia,by lia,b⟩
  case post =>
   rintro c st' ⟨rfl,l,p,rfl,a1,a2,a3,a4⟩
   dsimp only
   refine srch _ (λ_ _=>rfl) _ _ ?_ ?_ (λi i1 i2=>?_) (λi i1 i2 bi=>a3 (mono _ i (by lia) (by lia) i2 bi)) _ λx l p=>rfl
   ·lia
   ·lia
   ·rcases a4 with a4|⟨a4,a5⟩
    ·lia
    ·exact mono i _ i1 (by lia) (by lia) a5
end
end L2.Ts
namespace L2.Ts
open PySem PyProof.Rows
abbrev Up(rk:Keyed->Nat)(l:List Keyed):Prop:=l.Pairwise λx y=>rk x<=rk y
structure J(rk:Keyed->Nat)(la lb o:List Keyed)(ia ib:Nat):Prop where
 ha:ia<=la.length
 hb:ib<=lb.length
 perm:o.Perm (la.take ia++lb.take ib)
 srt:Up rk o
 ua:∀x∈o,∀y∈la.drop ia,rk x<=rk y
 ub:∀x∈o,∀y∈lb.drop ib,rk x<=rk y
def Good(rk:Keyed->Nat)(la lb r:List Keyed):Prop:=r.Perm (la++lb)/\Up rk r
variable{rk:Keyed->Nat}{la lb o:List Keyed}{ia ib na nb k:Nat}
theorem jd_{α:Type}(l:List α)(i k:Nat):l.drop i=(l.drop i).take k++l.drop (i+k):=by
 rw[<-List.drop_drop]
 exact(BU k (l.drop i)).symm
theorem j6_{α:Type}(l:List α)(i k:Nat):l.take (i+k)=l.take i++(l.drop i).take k:=List.take_add
theorem Up.drop{l:List Keyed}(h:Up rk l)(i:Nat):Up rk (l.drop i):=h.sublist (List.drop_sublist i l)
theorem Up.take{l:List Keyed}(h:Up rk l)(i:Nat):Up rk (l.take i):=h.sublist (Dn i l)
theorem Up.app{l m:List Keyed}(h:Up rk l)(q:Up rk m)(c:∀x∈l,∀y∈m,rk x<=rk y):Up rk (l++m):=CN.mpr ⟨h,q,c⟩
theorem J.a(j:J rk la lb o ia ib)(sa:Up rk la)(hk:ia+k<=la.length)(h:∀x∈(la.drop ia).take k,∀y∈lb.drop ib,rk x<=rk y):J rk la lb (o++(la.drop ia).take k) (ia+k) ib:=by
 have sd:=jd_ la ia k
 have up:=sa.drop ia
 rw[sd]at up
 have cr:=(CN.mp up).2.2
 refine⟨hk,j.hb,?_,j.srt.app ((sa.drop ia).take k) λx hx y hy=>j.ua x hx y (BL hy),λx hx y hy=>?_,λx hx y hy=>?_⟩
 ·rw[j6_,AX]
  refine(BO _ j.perm).trans ?_
  rw[AX]
  exact Bl _ Bu
 ·rcases Ak.mp hx with hx|hx
  ·exact j.ua x hx y (by rw[sd];exact Al _ hy)
  ·exact cr x hx y hy
 ·rcases Ak.mp hx with hx|hx
  ·exact j.ub x hx y hy
  ·exact h x hx y hy
theorem J.b(j:J rk la lb o ia ib)(sb:Up rk lb)(hk:ib+k<=lb.length)(h:∀x∈(lb.drop ib).take k,∀y∈la.drop ia,rk x<=rk y):J rk la lb (o++(lb.drop ib).take k) ia (ib+k):=by
 have sd:=jd_ lb ib k
 have up:=sb.drop ib
 rw[sd]at up
 have cr:=(CN.mp up).2.2
 refine⟨j.ha,hk,?_,j.srt.app ((sb.drop ib).take k) λx hx y hy=>j.ub x hx y (BL hy),λx hx y hy=>?_,λx hx y hy=>?_⟩
 ·rw[j6_,<-AX]
  exact BO _ j.perm
 ·rcases Ak.mp hx with hx|hx
  ·exact j.ua x hx y hy
  ·exact h x hx y hy
 ·rcases Ak.mp hx with hx|hx
  ·exact j.ub x hx y (by rw[sd];exact Al _ hy)
  ·exact cr x hx y hy
theorem J.all(j:J rk la lb o ia ib):(o++la.drop ia++lb.drop ib).Perm (la++lb):=by
 have e:(la.take ia++lb.take ib++la.drop ia++lb.drop ib).Perm (la++lb):=by
  have e1:(la++lb)=(la.take ia++la.drop ia)++(lb.take ib++lb.drop ib):=by rw[BU,BU]
  rw[e1,AX,AX,AX]
  refine Bl _ ?_
  rw[<-AX,<-AX]
  exact BO _ Bu
 exact(BO _ (BO _ j.perm)).trans e
theorem J.done(j:J rk la lb o ia ib)(sa:Up rk la)(sb:Up rk lb)(h:ia=la.length∨ib=lb.length):Good rk la lb (o++la.drop ia++lb.drop ib):=by
 refine⟨j.all,?_⟩
 rcases h with h|h
 ·rw[h,List.drop_length,Ax]
  exact j.srt.app (sb.drop ib) j.ub
 ·rw[h,List.drop_length,Ax]
  exact j.srt.app (sa.drop ia) j.ua
theorem J.last(j:J rk la lb o ia ib)(sa:Up rk la)(sb:Up rk lb)(h:∀y∈lb,∀x∈la.drop ia,rk y<=rk x):Good rk la lb (o++lb.drop ib++la.drop ia):=by
 refine⟨?_,(j.srt.app (sb.drop ib) j.ub).app (sa.drop ia) λx hx y hy=>?_⟩
 ·refine List.Perm.trans ?_ j.all
  rw[AX,AX]
  exact Bl _ Bu
 ·rcases Ak.mp hx with hx|hx
  ·exact j.ua x hx y hy
  ·exact h x (Ed hx) y hy
structure J2(rk:Keyed->Nat)(la lb o:List Keyed)(na nb:Nat):Prop where
 ha:na<=la.length
 hb:nb<=lb.length
 perm:o.Perm (la.drop na++lb.drop nb)
 srt:Up rk o
 ua:∀x∈la.take na,∀y∈o,rk x<=rk y
 ub:∀x∈lb.take nb,∀y∈o,rk x<=rk y
theorem J2.a(j:J2 rk la lb o (na+k) nb)(sa:Up rk la)(h:∀x∈(la.drop na).take k,∀y∈lb.take nb,rk y<=rk x):J2 rk la lb ((la.drop na).take k++o) na nb:=by
 have sd:=j6_ la na k
 have up:=sa.take (na+k)
 rw[sd]at up
 have cr:=(CN.mp up).2.2
 have j1:=j.ha
 refine⟨by lia,j.hb,?_,((sa.drop na).take k).app j.srt λx hx y hy=>j.ua x (by rw[sd];exact Al _ hx) y hy,λx hx y hy=>?_,λx hx y hy=>?_⟩
 ·have e:la.drop na++lb.drop nb=(la.drop na).take k++(la.drop (na+k)++lb.drop nb):=by rw[<-AX,<-jd_ la na k]
  rw[e]
  exact Bl _ j.perm
 ·rcases Ak.mp hy with hy|hy
  ·exact cr x hx y hy
  ·exact j.ua x (by rw[sd];exact Aw _ hx) y hy
 ·rcases Ak.mp hy with hy|hy
  ·exact h y hy x hx
  ·exact j.ub x hx y hy
theorem J2.b(j:J2 rk la lb o na (nb+k))(sb:Up rk lb)(h:∀x∈(lb.drop nb).take k,∀y∈la.take na,rk y<=rk x):J2 rk la lb ((lb.drop nb).take k++o) na nb:=by
 have sd:=j6_ lb nb k
 have up:=sb.take (nb+k)
 rw[sd]at up
 have cr:=(CN.mp up).2.2
 have j1:=j.hb
 refine⟨j.ha,by lia,?_,((sb.drop nb).take k).app j.srt λx hx y hy=>j.ub x (by rw[sd];exact Al _ hx) y hy,λx hx y hy=>?_,λx hx y hy=>?_⟩
 ·have e:la.drop na++lb.drop nb=la.drop na++(lb.drop nb).take k++lb.drop (nb+k):=by rw[AX,<-jd_ lb nb k]
  rw[e]
  refine(Bl _ j.perm).trans ?_
  rw[<-AX]
  exact BO _ Bu
 ·rcases Ak.mp hy with hy|hy
  ·exact h y hy x hx
  ·exact j.ua x hx y hy
 ·rcases Ak.mp hy with hy|hy
  ·exact cr x hx y hy
  ·exact j.ub x (by rw[sd];exact Aw _ hx) y hy
theorem J2.all(j:J2 rk la lb o na nb):(la.take na++lb.take nb++o).Perm (la++lb):=by
 have e:(la.take na++lb.take nb++(la.drop na++lb.drop nb)).Perm (la++lb):=by
  have e1:(la++lb)=(la.take na++la.drop na)++(lb.take nb++lb.drop nb):=by rw[BU,BU]
  rw[e1,AX,AX]
  refine Bl _ ?_
  rw[<-AX,<-AX]
  exact BO _ Bu
 exact(Bl _ j.perm).trans e
theorem J2.done(j:J2 rk la lb o na nb)(sa:Up rk la)(sb:Up rk lb)(h:na=0∨nb=0):Good rk la lb (la.take na++lb.take nb++o):=by
 refine⟨j.all,?_⟩
 rcases h with h|h
 ·rw[h,Bn,EC]
  exact(sb.take nb).app j.srt j.ub
 ·rw[h,Bn,Ax]
  exact(sa.take na).app j.srt j.ua
theorem J2.first(j:J2 rk la lb o na nb)(sa:Up rk la)(sb:Up rk lb)(h:∀y∈lb.take nb,∀x∈la,rk y<=rk x):Good rk la lb (lb.take nb++la.take na++o):=by
 refine⟨?_,((sb.take nb).app (sa.take na) λx hx y hy=>h x hx y (BL hy)).app j.srt λx hx y hy=>?_⟩
 ·refine List.Perm.trans ?_ j.all
  exact BO _ Bu
 ·rcases Ak.mp hx with hx|hx
  ·exact j.ub x hx y hy
  ·exact j.ua x hx y hy
def ah0_:Array Keyed->Array Keyed->StateT SortSt Sem (Array Keyed):=sortPriv% PySem.Builtin.mergeLo
def ahh_:Array Keyed->Array Keyed->StateT SortSt Sem (Array Keyed):=sortPriv% PySem.Builtin.mergeHi
structure Gs(st st':SortSt):Prop where
 kind:kindOf st'=kindOf st
 arr:arrOf st'=arrOf st
 pend:pendingOf st'=pendingOf st
 failed:failedOf st'=failedOf st
theorem Gs.refl(st:SortSt):Gs st st:=⟨rfl,rfl,rfl,rfl⟩
theorem Gs.trans{a b c:SortSt}(h:Gs a b)(q:Gs b c):Gs a c:=⟨q.kind.trans h.kind,q.arr.trans h.arr,q.pend.trans h.pend,q.failed.trans h.failed⟩
theorem xL_(st:SortSt)(g:Nat):Gs st (SortSt.mk' (kindOf st) (arrOf st) (pendingOf st) g (failedOf st)):=⟨rfl,rfl,rfl,rfl⟩
theorem jw_{xs:Array Keyed}{i k:Nat}{x:Keyed}(h:x∈(xs.toList.drop i).take k):∃j,i<=j/\j<i+k/\j<xs.size/\kv rk xs j=rk x/\xs[j]?=some x:=by
 obtain⟨m,hm,e⟩:=Ek h
 have l:=hm
 rw[AS,A0,AO]at l
 have e2:xs[i+m]?=some x:=by
  rw[List.getElem_take,List.getElem_drop]at e
  rw[<-e,<-BE]
  exact AH (by rw[AO];lia)
 exact⟨i+m,by lia,by lia,by lia,qC_ e2,e2⟩
theorem jr_{xs:Array Keyed}{i:Nat}{x:Keyed}(h:x∈xs.toList.drop i):∃j,i<=j/\j<xs.size/\kv rk xs j=rk x:=by
 have h':x∈(xs.toList.drop i).take xs.size:=by
  rw[AN (by rw[A0,AO];lia)]
  exact h
 obtain⟨j,h1,_,h3,h4,_⟩:=jw_ (rk:=rk) h'
 exact⟨j,h1,h3,h4⟩
theorem yk_{xs:Array Keyed}{i:Nat}{x:Keyed}(h:x∈xs.toList.take i):∃j,j<i/\j<xs.size/\kv rk xs j=rk x:=by
 have h':x∈(xs.toList.drop 0).take i:=by rw[CO];exact h
 obtain⟨j,h1,h2,h3,h4,_⟩:=jw_ (rk:=rk) h'
 exact⟨j,by lia,h3,h4⟩
theorem zH_{xs:Array Keyed}(h:Up rk xs.toList):Srt rk xs 0 xs.size:=λi j _ hij hj=>by
 by_cases e:i=j
 ·subst e;exact AG _
 ·have q:=Bf.mp h i j (by rw[AO];lia) (by rw[AO];lia) (by lia)
  have ei:xs[i]?=some xs[i]:=AF (by lia)
  have ej:xs[j]?=some xs[j]:=AF (by lia)
  rw[qC_ ei,qC_ ej]
  simpa using q
theorem agw_{xs:Array Keyed}{i k:Nat}(h:Srt rk xs i (i+k))(hz:i+k<=xs.size):Up rk (xs.toList.drop i |>.take k):=by
 refine Bf.mpr λp q hp hq hpq=>?_
 have l:=hq
 rw[AS,A0,AO]at l
 have ep:xs[i+p]?=some xs[i+p]:=AF (by lia)
 have eq:xs[i+q]?=some xs[i+q]:=AF (by lia)
 have r:=h (i+p) (i+q) (by lia) (by lia) (by lia)
 rw[qC_ ep,qC_ eq]at r
 simpa [List.getElem_take,List.getElem_drop]using r
theorem jA_{xs:Array Keyed}{i:Nat}{x:Keyed}(h:xs[i]?=some x):(xs.toList.drop i).take 1=[x]:=by
 obtain⟨hi,e⟩:=BY.mp h
 have hl:i<xs.toList.length:=by rw[AO];exact hi
 rw[List.drop_eq_getElem_cons hl,El,Bn]
 rw[Array.getElem_toList,e]
theorem zo_(xs:Array Keyed)(i j:Nat):(xs.extract i j).toList=(xs.toList.drop i).take (j-i):=by
 rw[Array.toList_extract,List.extract_eq_drop_take]
theorem yC_(xs:Array Keyed)(i:Nat):(xs.extract i xs.size).toList=xs.toList.drop i:=by
 rw[zo_,AN (by rw[A0,AO];lia)]
theorem y3_(xs:Array Keyed)(i:Nat):(xs.extract 0 i).toList=xs.toList.take i:=by
 rw[zo_,CO,Dt]
section
variable{prog:Program}{w:World}{A:Around}{E:Value->Shared->Prop}{s:Shared}{κ:SortKind}{M:Keyed->Prop}
theorem yz_{σ α:Type}{c:Prop}[Decidable c]{x y:StateT σ Sem α}{Q:α->σ->Prop}{st:σ}(h1:c->wpS (model prog w) A E s x Q st)(h2:¬ c->wpS (model prog w) A E s y Q st):wpS (model prog w) A E s (if c then x else y) Q st:=by
 by_cases h:c
 ·rw[if_pos h];exact h1 h
 ·rw[if_neg h];exact h2 h
abbrev LoC:=Option (Array Keyed)×Array Keyed×Nat×Nat×Nat×Nat×Nat
def l3(a b:Array Keyed)(out:Array Keyed)(ia ib g ac bc:Nat):StateT SortSt Sem (ForInStep LoC):=do
 let x <-elem' a ia
 if (ia+1+1==a.size)=true then pure (.done (some (out.push x++b.extract ib b.size++a.extract (ia+1) a.size),out.push x,ia+1,ib,g,ac,bc))
 else if (decide (ac<7)&&decide (bc<7))=true then pure (.done (none,out.push x,ia+1,ib,g,ac,bc))
 else pure (.yield (none,out.push x,ia+1,ib,g,ac,bc))
def l2(a b:Array Keyed)(out:Array Keyed)(ia ib g ac bc0:Nat):StateT SortSt Sem (ForInStep LoC):=do
 let x <-elem' b ib
 if (ib+1==b.size)=true then pure (.done (some (out.push x++a.extract ia a.size++b.extract (ib+1) b.size),out.push x,ia,ib+1,g,ac,bc0))
 else do
  let y <-elem' a ia
  let r <-xN_ true y b (ib+1) (b.size-(ib+1)) 0
  match r with
  |some k =>
   if k>0 then
    if (ib+1+k==b.size)=true then pure (.done (some (out.push x++b.extract (ib+1) (ib+1+k)++a.extract ia a.size++b.extract (ib+1+k) b.size),out.push x++b.extract (ib+1) (ib+1+k),ia,ib+1+k,g,ac,k))
    else l3 a b (out.push x++b.extract (ib+1) (ib+1+k)) ia (ib+1+k) g ac k
   else l3 a b (out.push x) ia (ib+1) g ac k
  |_=>pure (.done (some (out.push x++a.extract ia a.size++b.extract (ib+1) b.size),out.push x,ia,ib+1,g,ac,bc0))
def l1(a b:Array Keyed)(out:Array Keyed)(ia ib g ac0 bc0:Nat):StateT SortSt Sem (ForInStep LoC):=do
 let y <-elem' b ib
 let r <-xN_ false y a ia (a.size-ia) 0
 match r with
 |some k =>
  if k>0 then
   if (ia+k+1==a.size)=true then pure (.done (some (out++a.extract ia (ia+k)++b.extract ib b.size++a.extract (ia+k) a.size),out++a.extract ia (ia+k),ia+k,ib,g,k,bc0))
   else if (ia+k==a.size)=true then pure (.done (some (out++a.extract ia (ia+k)++a.extract (ia+k) a.size++b.extract ib b.size),out++a.extract ia (ia+k),ia+k,ib,g,k,bc0))
   else l2 a b (out++a.extract ia (ia+k)) (ia+k) ib g k bc0
  else l2 a b out ia ib g k bc0
 |_=>pure (.done (some (out++a.extract ia a.size++b.extract ib b.size),out,ia,ib,g,ac0,bc0))
structure MPre(M:Keyed->Prop)(rk:Keyed->Nat)(a b:Array Keyed):Prop where
 ma:All M a
 mb:All M b
 sa:Up rk a.toList
 sb:Up rk b.toList
 za:0<a.size
 zb:0<b.size
 fst:kv rk b 0<kv rk a 0
 lst:∀i,i<b.size->kv rk b i<kv rk a (a.size-1)
variable{a b:Array Keyed}
theorem MPre.done(m:MPre M rk a b){out:Array Keyed}(j:J rk a.toList b.toList out.toList ia ib)(h:ia=a.size∨ib=b.size):Good rk a.toList b.toList (out++a.extract ia a.size++b.extract ib b.size).toList:=by
 rw[BK,BK,yC_,yC_]
 exact j.done m.sa m.sb (by rw[AO,AO];exact h)
theorem MPre.last(m:MPre M rk a b){out:Array Keyed}(j:J rk a.toList b.toList out.toList ia ib)(h:ia+1=a.size):Good rk a.toList b.toList (out++b.extract ib b.size++a.extract ia a.size).toList:=by
 rw[BK,BK,yC_,yC_]
 refine j.last m.sa m.sb λy hy x hx=>?_
 obtain⟨p,p1,p2,p3⟩:=jr_ (rk:=rk) (i:=0) (by rw[CO];exact hy)
 obtain⟨r,r1,r2,r3⟩:=jr_ (rk:=rk) hx
 have e:r=a.size-1:=by lia
 have:=m.lst p p2
 rw[e]at r3
 lia
theorem MPre.pushA(m:MPre M rk a b){out:Array Keyed}{x:Keyed}(j:J rk a.toList b.toList out.toList ia ib)(hx:a[ia]?=some x)(h:∀i,ib<=i->i<b.size->kv rk a ia<=kv rk b i):J rk a.toList b.toList (out.push x).toList (ia+1) ib:=by
 obtain⟨hi,_⟩:=BY.mp hx
 have q:=j.a (k:=1) m.sa (by rw[AO];lia) (λz hz y hy=>by
  rw[jA_ hx]at hz
  rw[Af.mp hz]
  obtain⟨r,r1,r2,r3⟩:=jr_ (rk:=rk) hy
  have:=h r r1 r2
  rw[qC_ hx]at this
  lia)
 rw[jA_ hx]at q
 rw[Ce]
 exact q
theorem MPre.pushB(m:MPre M rk a b){out:Array Keyed}{x:Keyed}(j:J rk a.toList b.toList out.toList ia ib)(hx:b[ib]?=some x)(h:∀i,ia<=i->i<a.size->kv rk b ib<=kv rk a i):J rk a.toList b.toList (out.push x).toList ia (ib+1):=by
 obtain⟨hi,_⟩:=BY.mp hx
 have q:=j.b (k:=1) m.sb (by rw[AO];lia) (λz hz y hy=>by
  rw[jA_ hx]at hz
  rw[Af.mp hz]
  obtain⟨r,r1,r2,r3⟩:=jr_ (rk:=rk) hy
  have:=h r r1 r2
  rw[qC_ hx]at this
  lia)
 rw[jA_ hx]at q
 rw[Ce]
 exact q
theorem MPre.appA(m:MPre M rk a b){out:Array Keyed}(j:J rk a.toList b.toList out.toList ia ib)(hk:ia+k<=a.size)(h:∀p,ia<=p->p<ia+k->∀i,ib<=i->i<b.size->kv rk a p<=kv rk b i):J rk a.toList b.toList (out++a.extract ia (ia+k)).toList (ia+k) ib:=by
 have q:=j.a (k:=k) m.sa (by rw[AO];lia) (λz hz y hy=>by
  obtain⟨p,p1,p2,p3,p4,_⟩:=jw_ (rk:=rk) hz
  obtain⟨r,r1,r2,r3⟩:=jr_ (rk:=rk) hy
  have:=h p p1 p2 r r1 r2
  lia)
 rw[BK,zo_,D6]
 exact q
theorem MPre.appB(m:MPre M rk a b){out:Array Keyed}(j:J rk a.toList b.toList out.toList ia ib)(hk:ib+k<=b.size)(h:∀p,ib<=p->p<ib+k->∀i,ia<=i->i<a.size->kv rk b p<=kv rk a i):J rk a.toList b.toList (out++b.extract ib (ib+k)).toList ia (ib+k):=by
 have q:=j.b (k:=k) m.sb (by rw[AO];lia) (λz hz y hy=>by
  obtain⟨p,p1,p2,p3,p4,_⟩:=jw_ (rk:=rk) hz
  obtain⟨r,r1,r2,r3⟩:=jr_ (rk:=rk) hy
  have:=h p p1 p2 r r1 r2
  lia)
 rw[BK,zo_,D6]
 exact q
def LoR(rk:Keyed->Nat)(a b:Array Keyed)(p:Nat)(st:SortSt)(c:LoC)(st':SortSt):Prop:=Gs st st' /\
 ((∃r,c.1=some r/\Good rk a.toList b.toList r.toList)∨(c.1=none/\J rk a.toList b.toList c.2.1.toList c.2.2.1 c.2.2.2.1/\c.2.2.1+1<a.size/\c.2.2.2.1<b.size/\p<=c.2.2.1+c.2.2.2.1))
theorem ajl_(m:MPre M rk a b){out:Array Keyed}{g ac bc p:Nat}{st st':SortSt}{R:ForInStep LoC->SortSt->Prop}(gs:Gs st st')(j:J rk a.toList b.toList out.toList ia ib)(h1:ia+1<a.size)(h2:ib<b.size)(hp:p<=ia+ib)
  (h:∀i,ib<=i->i<b.size->kv rk a ia<=kv rk b i) (d:∀c,LoR rk a b p st c st'->R (.done c) st') (y:∀c,c.1=none->LoR rk a b p st c st'->R (.yield c) st'):wpS (model prog w) A E s (l3 a b out ia ib g ac bc) R st':=by
 have ea:a[ia]?=some a[ia]:=AF (by lia)
 refine wpS_bind (qJ_ ea ?_)
 have j':=m.pushA j ea h
 by_cases c:ia+1+1=a.size
 ·rw[if_pos (by simpa using c)]
  exact wpS_pure (d _ ⟨gs,.inl ⟨_,rfl,m.last j' c⟩⟩)
 ·rw[if_neg (by simpa using c)]
  have on:LoR rk a b p st (none,out.push a[ia],ia+1,ib,g,ac,bc) st':=⟨gs,.inr ⟨rfl,j',(by show ia+1+1<a.size;lia),h2,(by show p<=ia+1+ib;lia)⟩⟩
  split
  ·exact wpS_pure (d _ on)
  ·exact wpS_pure (y _ rfl on)
theorem ajv_(hA:Ask prog w A s κ M rk)(m:MPre M rk a b){out:Array Keyed}{g ac bc p:Nat}{st st':SortSt}{R:ForInStep LoC->SortSt->Prop}(hk:kindOf st=κ)(gs:Gs st st')(j:J rk a.toList b.toList out.toList ia ib)(h1:ia+1<a.size)(h2:ib<b.size)(hp:p<=ia+ib)
  (h:∀i,ia<=i->i<a.size->kv rk b ib<=kv rk a i) (d:∀c,LoR rk a b p st c st'->R (.done c) st') (y:∀c,c.1=none->LoR rk a b p st c st'->R (.yield c) st'):wpS (model prog w) A E s (l2 a b out ia ib g ac bc) R st':=by
 have eb:b[ib]?=some b[ib]:=AF h2
 have ea:a[ia]?=some a[ia]:=AF (by lia)
 refine wpS_bind (qJ_ eb ?_)
 have j':=m.pushB j eb h
 by_cases c:ib+1=b.size
 ·rw[if_pos (by simpa using c)]
  exact wpS_pure (d _ ⟨gs,.inl ⟨_,rfl,m.done j' (.inr c)⟩⟩)
 ·rw[if_neg (by simpa using c)]
  refine wpS_bind (qJ_ ea (wpS_bind (jy_ hA (gs.kind.trans hk) (m.ma _ _ ea) m.mb (by lia) (by lia) (λi k a1 a2 a3=>zH_ m.sb i k (Ap _) a2 (by lia)) λk k1 k2 k3=>?_)))
  have sA:=zH_ m.sa
  have lt:∀i,ib+1<=i->i<ib+1+k->kv rk b i<kv rk a ia:=λi i1 i2=>by
   have:=k2 i i1 i2
   unfold Bd at this
   rw[if_pos rfl,<-qC_ (rk:=rk) ea]at this
   exact this
  have ge:∀i,ib+1+k<=i->i<b.size->kv rk a ia<=kv rk b i:=λi i1 i2=>by
   have:=k3 i i1 (by lia)
   unfold Bd at this
   rw[if_pos rfl,<-qC_ (rk:=rk) ea]at this
   lia
  dsimp only
  by_cases k0:k>0
  ·rw[if_pos k0]
   have j2:=m.appB (k:=k) j' (by lia) (λp p1 p2 i i1 i2=>by
    have q1:=lt p p1 p2
    have q2:=sA ia i (Ap _) i1 i2
    lia)
   by_cases c2:ib+1+k=b.size
   ·rw[if_pos (by simpa using c2)]
    exact wpS_pure (d _ ⟨gs,.inl ⟨_,rfl,m.done j2 (.inr c2)⟩⟩)
   ·rw[if_neg (by simpa using c2)]
    exact ajl_ m gs j2 h1 (by lia) (by lia) ge d y
  ·rw[if_neg k0]
   exact ajl_ m gs j' h1 (by lia) (by lia) (λi i1 i2=>ge i (by lia) i2) d y
theorem ajf_(hA:Ask prog w A s κ M rk)(m:MPre M rk a b){out:Array Keyed}{g ac bc p:Nat}{st st':SortSt}{R:ForInStep LoC->SortSt->Prop}(hk:kindOf st=κ)(gs:Gs st st')(j:J rk a.toList b.toList out.toList ia ib)(h1:ia+1<a.size)(h2:ib<b.size)(hp:p<=ia+ib)
  (d:∀c,LoR rk a b p st c st'->R (.done c) st') (y:∀c,c.1=none->LoR rk a b p st c st'->R (.yield c) st'):wpS (model prog w) A E s (l1 a b out ia ib g ac bc) R st':=by
 have eb:b[ib]?=some b[ib]:=AF h2
 refine wpS_bind (qJ_ eb (wpS_bind (jy_ hA (gs.kind.trans hk) (m.mb _ _ eb) m.ma (by lia) (by lia) (λi k a1 a2 a3=>zH_ m.sa i k (Ap _) a2 (by lia)) λk k1 k2 k3=>?_)))
 have sB:=zH_ m.sb
 have le:∀i,ia<=i->i<ia+k->kv rk a i<=kv rk b ib:=λi i1 i2=>by
  have:=k2 i i1 i2
  unfold Bd at this
  rw[if_neg (by decide),<-qC_ (rk:=rk) eb]at this
  exact this
 have gt:∀i,ia+k<=i->i<a.size->kv rk b ib<=kv rk a i:=λi i1 i2=>by
  have:=k3 i i1 (by lia)
  unfold Bd at this
  rw[if_neg (by decide),<-qC_ (rk:=rk) eb]at this
  lia
 dsimp only
 by_cases k0:k>0
 ·rw[if_pos k0]
  have j2:=m.appA (k:=k) j (by lia) (λp p1 p2 i i1 i2=>by
   have q1:=le p p1 p2
   have q2:=sB ib i (Ap _) i1 i2
   lia)
  by_cases c:ia+k+1=a.size
  ·rw[if_pos (by simpa using c)]
   exact wpS_pure (d _ ⟨gs,.inl ⟨_,rfl,m.last j2 c⟩⟩)
  rw[if_neg (by simpa using c)]
  by_cases c2:ia+k=a.size
  ·rw[if_pos (by simpa using c2)]
   exact wpS_pure (d _ ⟨gs,.inl ⟨_,rfl,m.done j2 (.inl c2)⟩⟩)
  ·rw[if_neg (by simpa using c2)]
   exact ajv_ hA m hk gs j2 (by lia) h2 (by lia) gt d y
 ·rw[if_neg k0]
  exact ajv_ hA m hk gs j h1 h2 hp (λi i1 i2=>gt i (by lia) i2) d y
theorem ao1_(hA:Ask prog w A s κ M rk){st:SortSt}{Q:Array Keyed->SortSt->Prop}(hk:kindOf st=κ)(m:MPre M rk a b)
  (q:∀r st',Gs st st'->Good rk a.toList b.toList r.toList->Q r st'):wpS (model prog w) A E s (ah0_ a b) Q st:=by
 refine wpS_bind (wpS_lift (wpAny_rule ⟨rfl,?_⟩))
 have za:=m.za
 have zb:=m.zb
 have eb0:b[0]?=some b[0]:=AF zb
 have sA:=zH_ m.sa
 have sB:=zH_ m.sb
 have j0:J rk a.toList b.toList (#[]:Array Keyed).toList 0 0:=⟨Ap _,Ap _,by simp,List.Pairwise.nil,λx hx=>by simp at hx,λx hx=>by simp at hx⟩
 have j1:J rk a.toList b.toList (#[b[0]]:Array Keyed).toList 0 1:=m.pushB j0 eb0 λi i1 i2=>Aj (Bj m.fst) (sA 0 i (Ap _) i1 i2)
 refine wpS_bind (qJ_ eb0 ?_)
 by_cases c1:1=b.size
 ·rw[if_pos (by simpa using c1)]
  exact wpS_pure (q _ st (Gs.refl _) (m.done j1 (.inr c1)))
 rw[if_neg (by simpa using c1)]
 by_cases c2:0+1=a.size
 ·rw[if_pos (by simpa using c2)]
  exact wpS_pure (q _ st (Gs.refl _) (m.last j1 c2))
 rw[if_neg (by simpa using c2)]
 refine wpS_bind (wpS_get ?_)
 refine wpS_bind (wpS_mono (wpS_forRange (I:=λx c st'=>Gs st st'/\c.1=none/\J rk a.toList b.toList c.2.1.toList c.2.2.1 c.2.2.2.1/\c.2.2.1+1<a.size/\c.2.2.2.1<b.size/\x+1<=c.2.2.1+c.2.2.2.1)
  (Q:=λc st'=>Gs st st'/\∃r,c.1=some r/\Good rk a.toList b.toList r.toList) ?step ?fin ⟨Gs.refl _,rfl,j1,by show 0+1<a.size;lia,by show 1<b.size;lia,AG _⟩) ?post)
 case post =>
  rintro⟨c,z6_⟩ st' ⟨gs,r,e,g⟩
  have e':c=some r:=e
  subst e'
  exact wpS_pure (q r st' gs g)
 case fin =>
  rintro⟨c,out,ia,ib,g⟩ st' ⟨gs,e,j,h1,h2,h3⟩
  exfalso
  dsimp only at h1 h2 h3
  lia
 case step =>
  rintro x ⟨c,out,ia,ib,g⟩ st' _ hx ⟨gs,e,j,h1,h2,h3⟩
  dsimp only at e j h1 h2 h3
  subst e
  refine wpS_bind (wpS_mono (wpS_forRange (I:=λy c st''=>st''=st'/\c.1=none/\J rk a.toList b.toList c.2.1.toList c.2.2.1 c.2.2.2.1/\c.2.2.1+1<a.size/\c.2.2.2.1<b.size/\x+1+min y 1<=c.2.2.1+c.2.2.2.1)
   (Q:=λc st''=>st''=st'/\((∃r,c.1=some r/\Good rk a.toList b.toList r.toList)∨(c.1=none/\J rk a.toList b.toList c.2.1.toList c.2.2.1 c.2.2.2.1/\c.2.2.1+1<a.size/\c.2.2.2.1<b.size/\x+2<=c.2.2.1+c.2.2.2.1))) ?step1 ?fin1 ⟨rfl,rfl,j,h1,h2,by show x+1+min 0 1<=ia+ib;lia⟩) ?post1)
  case fin1 =>
   rintro⟨c,out,ia,ib,ac,bc⟩ st'' ⟨e1,e,j,h1,h2,h3⟩
   refine⟨e1,.inr ⟨e,j,h1,h2,?_⟩⟩
   dsimp only at h3 ⊢
   lia
  case step1 =>
   rintro y ⟨c,out,ia,ib,ac,bc⟩ st'' _ hy ⟨e1,e,j,h1,h2,h3⟩
   subst e1
   dsimp only at e j h1 h2 h3
   subst e
   have eb:b[ib]?=some b[ib]:=AF h2
   have ea:a[ia]?=some a[ia]:=AF (by lia)
   refine wpS_bind (qJ_ eb (wpS_bind (qJ_ ea (wpS_bind (ym_ hA (gs.kind.trans hk) (m.mb _ _ eb) (m.ma _ _ ea) ?_)))))
   by_cases c:rk b[ib]<rk a[ia]
   ·rw[decide_eq_true c]
    dsimp only
    rw[if_pos rfl]
    refine wpS_bind (qJ_ eb ?_)
    have j':=m.pushB j eb λi i1 i2=>by
     have q1:=sA ia i (Ap _) i1 i2
     rw[qC_ ea]at q1
     rw[qC_ eb]
     lia
    by_cases c3:ib+1=b.size
    ·rw[if_pos (by simpa using c3)]
     exact wpS_pure ⟨rfl,.inl ⟨_,rfl,m.done j' (.inr c3)⟩⟩
    rw[if_neg (by simpa using c3)]
    split
    ·exact wpS_pure ⟨rfl,.inr ⟨rfl,j',h1,by dsimp only;lia,by dsimp only;lia⟩⟩
    ·exact wpS_pure ⟨rfl,rfl,j',h1,by dsimp only;lia,by dsimp only;lia⟩
   ·rw[decide_eq_false c]
    dsimp only
    rw[if_neg (by decide)]
    refine wpS_bind (qJ_ ea ?_)
    have j':=m.pushA j ea λi i1 i2=>by
     have q1:=sB ib i (Ap _) i1 i2
     rw[qC_ eb]at q1
     rw[qC_ ea]
     lia
    by_cases c3:ia+1+1=a.size
    ·rw[if_pos (by simpa using c3)]
     exact wpS_pure ⟨rfl,.inl ⟨_,rfl,m.last j' c3⟩⟩
    rw[if_neg (by simpa using c3)]
    split
    ·exact wpS_pure ⟨rfl,.inr ⟨rfl,j',by dsimp only;lia,h2,by dsimp only;lia⟩⟩
    ·exact wpS_pure ⟨rfl,rfl,j',by dsimp only;lia,h2,by dsimp only;lia⟩
  case post1 =>
   rintro⟨c,out,ia,ib,ac,bc⟩ st'' ⟨e1,h⟩
   subst e1
   rcases h with⟨r,e,g1⟩|⟨e,j,h1,h2,h3⟩
   ·have e':c=some r:=e
    subst e'
    exact wpS_pure ⟨gs,r,rfl,g1⟩
   ·dsimp only at e j h1 h2 h3
    subst e
    refine wpS_bind (wpS_lift (wpAny_rule ⟨rfl,?_⟩))
    refine wpS_bind (wpS_mono (wpS_forRange (I:=λ_ c st3=>c.1=none/\LoR rk a b (x+2) st c st3) (Q:=λc st3=>LoR rk a b (x+2) st c st3) ?step2 ?fin2 ⟨rfl,gs,.inr ⟨rfl,j,h1,h2,h3⟩⟩) ?post2)
    case fin2 =>
     rintro c st3 ⟨_,hc⟩
     exact hc
    case step2 =>
     rintro y ⟨c,out,ia,ib,g2,ac,bc⟩ st3 _ hy ⟨e,gs3,hc⟩
     have e':c=none:=e
     subst e'
     rcases hc with⟨r,er,_⟩|⟨_,j,h1,h2,h3⟩
     ·cases er
     dsimp only at j h1 h2 h3
     refine yz_ (λ_=>?_) (λ_=>?_)
     ·refine wpS_bind (wpS_modify ?_)
      exact ajf_ hA m hk (gs3.trans (xL_ st3 (g2-1))) j h1 h2 h3 (λc hc=>hc) (λc e hc=>⟨e,hc⟩)
     ·refine wpS_bind (wpS_modify ?_)
      exact ajf_ hA m hk (gs3.trans (xL_ st3 g2)) j h1 h2 h3 (λc hc=>hc) (λc e hc=>⟨e,hc⟩)
    case post2 =>
     rintro⟨c,out,ia,ib,g2,ac,bc⟩ st3 ⟨gs3,hc⟩
     rcases hc with⟨r,er,g3⟩|⟨er,j,h1,h2,h3⟩
     ·have e':c=some r:=er
      subst e'
      exact wpS_pure ⟨gs3,r,rfl,g3⟩
     ·have e':c=none:=er
      subst e'
      dsimp only at j h1 h2 h3 ⊢
      refine wpS_bind (wpS_modify (wpS_pure ⟨gs3.trans (xL_ st3 (g2+1)),rfl,j,h1,h2,by dsimp only;lia⟩))
end
end L2.Ts
namespace L2.Ts
open PySem PyProof.Rows
section
variable{rk:Keyed->Nat}{na nb k:Nat}{prog:Program}{w:World}{A:Around}{E:Value->Shared->Prop}{s:Shared}{κ:SortKind}{M:Keyed->Prop}
abbrev HiC:=Option (Array Keyed)×Nat×Nat×Array Keyed×Nat×Nat×Nat
def r3(a b:Array Keyed)(out:Array Keyed)(na nb g ac bc:Nat):StateT SortSt Sem (ForInStep HiC):=do
 let x <-elem' a (na-1)
 if (na-1==0)=true then pure (.done (some (a.extract 0 (na-1)++b.extract 0 nb++(out.push x).reverse),na-1,nb,out.push x,g,ac,bc))
 else if (decide (ac<7)&&decide (bc<7))=true then pure (.done (none,na-1,nb,out.push x,g,ac,bc))
 else pure (.yield (none,na-1,nb,out.push x,g,ac,bc))
def r2(a b:Array Keyed)(out:Array Keyed)(na nb g ac bc0:Nat):StateT SortSt Sem (ForInStep HiC):=do
 let x <-elem' b (nb-1)
 if (nb-1==1)=true then pure (.done (some (b.extract 0 (nb-1)++a.extract 0 na++(out.push x).reverse),na,nb-1,out.push x,g,ac,bc0))
 else do
  let y <-elem' a (na-1)
  let r <-xN_ true y b 0 (nb-1) (nb-1-1)
  match r with
  |some p =>
   if nb-1-p>0 then
    if (p==1)=true then pure (.done (some (b.extract 0 p++a.extract 0 na++(out.push x++(b.extract p (nb-1)).reverse).reverse),na,p,out.push x++(b.extract p (nb-1)).reverse,g,ac,nb-1-p))
    else if (p==0)=true then pure (.done (some (a.extract 0 na++b.extract 0 p++(out.push x++(b.extract p (nb-1)).reverse).reverse),na,p,out.push x++(b.extract p (nb-1)).reverse,g,ac,nb-1-p))
    else r3 a b (out.push x++(b.extract p (nb-1)).reverse) na p g ac (nb-1-p)
   else r3 a b (out.push x) na (nb-1) g ac (nb-1-p)
  |_=>pure (.done (some (a.extract 0 na++b.extract 0 (nb-1)++(out.push x).reverse),na,nb-1,out.push x,g,ac,bc0))
def r1(a b:Array Keyed)(out:Array Keyed)(na nb g ac0 bc0:Nat):StateT SortSt Sem (ForInStep HiC):=do
 let y <-elem' b (nb-1)
 let r <-xN_ false y a 0 na (na-1)
 match r with
 |some p =>
  if na-p>0 then
   if (p==0)=true then pure (.done (some (a.extract 0 p++b.extract 0 nb++(out++(a.extract p na).reverse).reverse),p,nb,out++(a.extract p na).reverse,g,na-p,bc0))
   else r2 a b (out++(a.extract p na).reverse) p nb g (na-p) bc0
  else r2 a b out na nb g (na-p) bc0
 |_=>pure (.done (some (a.extract 0 na++b.extract 0 nb++out.reverse),na,nb,out,g,ac0,bc0))
variable{a b:Array Keyed}
theorem MPre.done2(m:MPre M rk a b){out:Array Keyed}(j:J2 rk a.toList b.toList out.toList.reverse na nb)(h:na=0∨nb=0):Good rk a.toList b.toList (a.extract 0 na++b.extract 0 nb++out.reverse).toList:=by
 rw[BK,BK,y3_,y3_,B8]
 exact j.done m.sa m.sb h
theorem MPre.first2(m:MPre M rk a b){out:Array Keyed}(j:J2 rk a.toList b.toList out.toList.reverse na nb)(h:nb=1):Good rk a.toList b.toList (b.extract 0 nb++a.extract 0 na++out.reverse).toList:=by
 rw[BK,BK,y3_,y3_,B8]
 refine j.first m.sa m.sb λy hy x hx=>?_
 obtain⟨p,p1,p2,p3⟩:=yk_ (rk:=rk) hy
 obtain⟨r,r1,r2,r3⟩:=jr_ (rk:=rk) (i:=0) (by rw[CO];exact hx)
 have e:p=0:=by lia
 have:=m.fst
 have:=zH_ m.sa 0 r (AG _) (Ap _) r2
 rw[e]at p3
 lia
theorem MPre.pushA2(m:MPre M rk a b){out:Array Keyed}{x:Keyed}(j:J2 rk a.toList b.toList out.toList.reverse na nb)(h1:0<na)(hx:a[na-1]?=some x)(h:∀i,i<nb->i<b.size->kv rk b i<=kv rk a (na-1)):J2 rk a.toList b.toList (out.push x).toList.reverse (na-1) nb:=by
 have e:na-1+1=na:=by lia
 rw[<-e]at j
 have q:=j.a (k:=1) m.sa (λz hz y hy=>by
  rw[jA_ hx]at hz
  rw[Af.mp hz]
  obtain⟨r,r1,r2,r3⟩:=yk_ (rk:=rk) hy
  have:=h r r1 r2
  rw[qC_ hx]at this
  lia)
 rw[jA_ hx]at q
 rw[Ce,Ct]
 exact q
theorem MPre.pushB2(m:MPre M rk a b){out:Array Keyed}{x:Keyed}(j:J2 rk a.toList b.toList out.toList.reverse na nb)(h1:0<nb)(hx:b[nb-1]?=some x)(h:∀i,i<na->i<a.size->kv rk a i<=kv rk b (nb-1)):J2 rk a.toList b.toList (out.push x).toList.reverse na (nb-1):=by
 have e:nb-1+1=nb:=by lia
 rw[<-e]at j
 have q:=j.b (k:=1) m.sb (λz hz y hy=>by
  rw[jA_ hx]at hz
  rw[Af.mp hz]
  obtain⟨r,r1,r2,r3⟩:=yk_ (rk:=rk) hy
  have:=h r r1 r2
  rw[qC_ hx]at this
  lia)
 rw[jA_ hx]at q
 rw[Ce,Ct]
 exact q
theorem MPre.appA2(m:MPre M rk a b){out:Array Keyed}{p:Nat}(j:J2 rk a.toList b.toList out.toList.reverse na nb)(hp:p<=na)(h:∀r,p<=r->r<na->∀i,i<nb->i<b.size->kv rk b i<=kv rk a r):J2 rk a.toList b.toList (out++(a.extract p na).reverse).toList.reverse p nb:=by
 have e:p+(na-p)=na:=by lia
 rw[<-e]at j
 have q:=j.a (k:=na-p) m.sa (λz hz y hy=>by
  obtain⟨r,r1,r2,r3,r4,_⟩:=jw_ (rk:=rk) hz
  obtain⟨i,i1,i2,i3⟩:=yk_ (rk:=rk) hy
  have:=h r r1 (by lia) i i1 i2
  lia)
 rw[BK,B8,Ct,Cj,zo_]
 exact q
theorem MPre.appB2(m:MPre M rk a b){out:Array Keyed}{p:Nat}(j:J2 rk a.toList b.toList out.toList.reverse na nb)(hp:p<=nb)(h:∀r,p<=r->r<nb->∀i,i<na->i<a.size->kv rk a i<=kv rk b r):J2 rk a.toList b.toList (out++(b.extract p nb).reverse).toList.reverse na p:=by
 have e:p+(nb-p)=nb:=by lia
 rw[<-e]at j
 have q:=j.b (k:=nb-p) m.sb (λz hz y hy=>by
  obtain⟨r,r1,r2,r3,r4,_⟩:=jw_ (rk:=rk) hz
  obtain⟨i,i1,i2,i3⟩:=yk_ (rk:=rk) hy
  have:=h r r1 (by lia) i i1 i2
  lia)
 rw[BK,B8,Ct,Cj,zo_]
 exact q
def HiR(rk:Keyed->Nat)(a b:Array Keyed)(p:Nat)(st:SortSt)(c:HiC)(st':SortSt):Prop:=Gs st st' /\
 ((∃r,c.1=some r/\Good rk a.toList b.toList r.toList)∨(c.1=none/\J2 rk a.toList b.toList c.2.2.2.1.toList.reverse c.2.1 c.2.2.1/\1<=c.2.1/\2<=c.2.2.1/\p+c.2.1+c.2.2.1<=a.size+b.size))
theorem J2.za(j:J2 rk a.toList b.toList o na nb):na<=a.size:=by have:=j.ha;rwa [AO]at this
theorem J2.zb(j:J2 rk a.toList b.toList o na nb):nb<=b.size:=by have:=j.hb;rwa [AO]at this
theorem aj0_(m:MPre M rk a b){out:Array Keyed}{g ac bc p:Nat}{st st':SortSt}{R:ForInStep HiC->SortSt->Prop}(gs:Gs st st')(j:J2 rk a.toList b.toList out.toList.reverse na nb)(h1:1<=na)(h2:2<=nb)(hp:p+na+nb<=a.size+b.size)
  (h:∀i,i<nb->i<b.size->kv rk b i<=kv rk a (na-1)) (d:∀c,HiR rk a b p st c st'->R (.done c) st') (y:∀c,c.1=none->HiR rk a b p st c st'->R (.yield c) st'):wpS (model prog w) A E s (r3 a b out na nb g ac bc) R st':=by
 have z:=j.za
 have ea:a[na-1]?=some a[na-1]:=AF (by lia)
 refine wpS_bind (qJ_ ea ?_)
 have j':=m.pushA2 j h1 ea h
 by_cases c:na-1=0
 ·rw[if_pos (by simpa using c)]
  exact wpS_pure (d _ ⟨gs,.inl ⟨_,rfl,m.done2 j' (.inl c)⟩⟩)
 ·rw[if_neg (by simpa using c)]
  have on:HiR rk a b p st (none,na-1,nb,out.push a[na-1],g,ac,bc) st':=⟨gs,.inr ⟨rfl,j',(by show 1<=na-1;lia),h2,(by show p+(na-1)+nb<=a.size+b.size;lia)⟩⟩
  split
  ·exact wpS_pure (d _ on)
  ·exact wpS_pure (y _ rfl on)
theorem ajq_(hA:Ask prog w A s κ M rk)(m:MPre M rk a b){out:Array Keyed}{g ac bc p:Nat}{st st':SortSt}{R:ForInStep HiC->SortSt->Prop}(hk:kindOf st=κ)(gs:Gs st st')(j:J2 rk a.toList b.toList out.toList.reverse na nb)(h1:1<=na)(h2:2<=nb)(hp:p+na+nb<=a.size+b.size)
  (h:∀i,i<na->i<a.size->kv rk a i<=kv rk b (nb-1)) (d:∀c,HiR rk a b p st c st'->R (.done c) st') (y:∀c,c.1=none->HiR rk a b p st c st'->R (.yield c) st'):wpS (model prog w) A E s (r2 a b out na nb g ac bc) R st':=by
 have z:=j.za
 have z2:=j.zb
 have ea:a[na-1]?=some a[na-1]:=AF (by lia)
 have eb:b[nb-1]?=some b[nb-1]:=AF (by lia)
 refine wpS_bind (qJ_ eb ?_)
 have j':=m.pushB2 j (by lia) eb h
 by_cases c:nb-1=1
 ·rw[if_pos (by simpa using c)]
  exact wpS_pure (d _ ⟨gs,.inl ⟨_,rfl,m.first2 j' c⟩⟩)
 ·rw[if_neg (by simpa using c)]
  refine wpS_bind (qJ_ ea (wpS_bind (jy_ hA (gs.kind.trans hk) (m.ma _ _ ea) m.mb (by lia) (by lia) (λi k a1 a2 a3=>zH_ m.sb i k (Ap _) a2 (by lia)) λr k1 k2 k3=>?_)))
  have sA:=zH_ m.sa
  have lt:∀i,i<r->kv rk b i<kv rk a (na-1):=λi i2=>by
   have:=k2 i (Ap _) (by lia)
   unfold Bd at this
   rw[if_pos rfl,<-qC_ (rk:=rk) ea]at this
   exact this
  have ge:∀i,r<=i->i<nb-1->kv rk a (na-1)<=kv rk b i:=λi i1 i2=>by
   have:=k3 i (by lia) (by lia)
   unfold Bd at this
   rw[if_pos rfl,<-qC_ (rk:=rk) ea]at this
   lia
  dsimp only
  by_cases k0:nb-1-r>0
  ·rw[if_pos k0]
   have j2:=m.appB2 (p:=r) j' (by lia) (λq q1 q2 i i1 i2=>by
    have e1:=ge q q1 q2
    have e2:=sA i (na-1) (Ap _) (by lia) (by lia)
    lia)
   by_cases c2:r=1
   ·rw[if_pos (by simpa using c2)]
    exact wpS_pure (d _ ⟨gs,.inl ⟨_,rfl,m.first2 j2 c2⟩⟩)
   rw[if_neg (by simpa using c2)]
   by_cases c3:r=0
   ·rw[if_pos (by simpa using c3)]
    exact wpS_pure (d _ ⟨gs,.inl ⟨_,rfl,m.done2 j2 (.inr c3)⟩⟩)
   ·rw[if_neg (by simpa using c3)]
    exact aj0_ m gs j2 h1 (by lia) (by lia) (λi i1 i2=>Bj (lt i i1)) d y
  ·rw[if_neg k0]
   exact aj0_ m gs j' h1 (by lia) (by lia) (λi i1 i2=>Bj (lt i (by lia))) d y
theorem ajg_(hA:Ask prog w A s κ M rk)(m:MPre M rk a b){out:Array Keyed}{g ac bc p:Nat}{st st':SortSt}{R:ForInStep HiC->SortSt->Prop}(hk:kindOf st=κ)(gs:Gs st st')(j:J2 rk a.toList b.toList out.toList.reverse na nb)(h1:1<=na)(h2:2<=nb)(hp:p+na+nb<=a.size+b.size)
  (d:∀c,HiR rk a b p st c st'->R (.done c) st') (y:∀c,c.1=none->HiR rk a b p st c st'->R (.yield c) st'):wpS (model prog w) A E s (r1 a b out na nb g ac bc) R st':=by
 have z:=j.za
 have z2:=j.zb
 have eb:b[nb-1]?=some b[nb-1]:=AF (by lia)
 refine wpS_bind (qJ_ eb (wpS_bind (jy_ hA (gs.kind.trans hk) (m.mb _ _ eb) m.ma (by lia) (by lia) (λi k a1 a2 a3=>zH_ m.sa i k (Ap _) a2 (by lia)) λr k1 k2 k3=>?_)))
 have sB:=zH_ m.sb
 have le:∀i,i<r->kv rk a i<=kv rk b (nb-1):=λi i2=>by
  have:=k2 i (Ap _) (by lia)
  unfold Bd at this
  rw[if_neg (by decide),<-qC_ (rk:=rk) eb]at this
  exact this
 have gt:∀i,r<=i->i<na->kv rk b (nb-1)<=kv rk a i:=λi i1 i2=>by
  have:=k3 i (by lia) (by lia)
  unfold Bd at this
  rw[if_neg (by decide),<-qC_ (rk:=rk) eb]at this
  lia
 dsimp only
 by_cases k0:na-r>0
 ·rw[if_pos k0]
  have j2:=m.appA2 (p:=r) j (by lia) (λq q1 q2 i i1 i2=>by
   have e1:=gt q q1 q2
   have e2:=sB i (nb-1) (Ap _) (by lia) (by lia)
   lia)
  by_cases c:r=0
  ·rw[if_pos (by simpa using c)]
   exact wpS_pure (d _ ⟨gs,.inl ⟨_,rfl,m.done2 j2 (.inl c)⟩⟩)
  ·rw[if_neg (by simpa using c)]
   exact ajq_ hA m hk gs j2 (by lia) h2 (by lia) (λi i1 i2=>le i i1) d y
 ·rw[if_neg k0]
  exact ajq_ hA m hk gs j h1 h2 hp (λi i1 i2=>le i (by lia)) d y
theorem apn_(hA:Ask prog w A s κ M rk){st:SortSt}{Q:Array Keyed->SortSt->Prop}(hk:kindOf st=κ)(m:MPre M rk a b)
  (q:∀r st',Gs st st'->Good rk a.toList b.toList r.toList->Q r st'):wpS (model prog w) A E s (ahh_ a b) Q st:=by
 refine wpS_bind (wpS_lift (wpAny_rule ⟨rfl,?_⟩))
 have za:=m.za
 have zb:=m.zb
 have ea0:a[a.size-1]?=some a[a.size-1]:=AF (by lia)
 have sA:=zH_ m.sa
 have sB:=zH_ m.sb
 have j0:J2 rk a.toList b.toList (#[]:Array Keyed).toList.reverse a.size b.size:=⟨by rw[AO];exact AG _,by rw[AO];exact AG _,by simp [Bo],List.Pairwise.nil,λx hx y hy=>by simp at hy,λx hx y hy=>by simp at hy⟩
 have j1:J2 rk a.toList b.toList (#[a[a.size-1]]:Array Keyed).toList.reverse (a.size-1) b.size:=m.pushA2 j0 za ea0 λi i1 i2=>Bj (m.lst i i2)
 refine wpS_bind (qJ_ ea0 ?_)
 by_cases c1:a.size-1=0
 ·rw[if_pos (by simpa using c1)]
  exact wpS_pure (q _ st (Gs.refl _) (m.done2 j1 (.inl c1)))
 rw[if_neg (by simpa using c1)]
 by_cases c2:b.size=1
 ·rw[if_pos (by simpa using c2)]
  exact wpS_pure (q _ st (Gs.refl _) (m.first2 j1 c2))
 rw[if_neg (by simpa using c2)]
 refine wpS_bind (wpS_get ?_)
 refine wpS_bind (wpS_mono (wpS_forRange (I:=λx c st'=>Gs st st'/\c.1=none/\J2 rk a.toList b.toList c.2.2.2.1.toList.reverse c.2.1 c.2.2.1/\1<=c.2.1/\2<=c.2.2.1/\x+1+c.2.1+c.2.2.1<=a.size+b.size)
  (Q:=λc st'=>Gs st st'/\∃r,c.1=some r/\Good rk a.toList b.toList r.toList) ?step ?fin ⟨Gs.refl _,rfl,j1,by show 1<=a.size-1;lia,by show 2<=b.size;lia,by show 0+1+(a.size-1)+b.size<=a.size+b.size;lia⟩) ?post)
 case post =>
  rintro⟨c,z6_⟩ st' ⟨gs,r,e,g⟩
  have e':c=some r:=e
  subst e'
  exact wpS_pure (q r st' gs g)
 case fin =>
  rintro⟨c,na,nb,out,g⟩ st' ⟨gs,e,j,h1,h2,h3⟩
  exfalso
  dsimp only at h1 h2 h3
  lia
 case step =>
  rintro x ⟨c,na,nb,out,g⟩ st' _ hx ⟨gs,e,j,h1,h2,h3⟩
  dsimp only at e j h1 h2 h3
  subst e
  refine wpS_bind (wpS_mono (wpS_forRange (I:=λy c st''=>st''=st'/\c.1=none/\J2 rk a.toList b.toList c.2.2.2.1.toList.reverse c.2.1 c.2.2.1/\1<=c.2.1/\2<=c.2.2.1/\x+1+min y 1+c.2.1+c.2.2.1<=a.size+b.size)
   (Q:=λc st''=>st''=st'/\((∃r,c.1=some r/\Good rk a.toList b.toList r.toList)∨(c.1=none/\J2 rk a.toList b.toList c.2.2.2.1.toList.reverse c.2.1 c.2.2.1/\1<=c.2.1/\2<=c.2.2.1/\x+2+c.2.1+c.2.2.1<=a.size+b.size))) ?step1 ?fin1 ⟨rfl,rfl,j,h1,h2,by show x+1+min 0 1+na+nb<=a.size+b.size;lia⟩) ?post1)
  case fin1 =>
   rintro⟨c,na,nb,out,ac,bc⟩ st'' ⟨e1,e,j,h1,h2,h3⟩
   refine⟨e1,.inr ⟨e,j,h1,h2,?_⟩⟩
   dsimp only at h3 ⊢
   lia
  case step1 =>
   rintro y ⟨c,na,nb,out,ac,bc⟩ st'' _ hy ⟨e1,e,j,h1,h2,h3⟩
   subst e1
   dsimp only at e j h1 h2 h3
   subst e
   have z:=j.za
   have z2:=j.zb
   have eb:b[nb-1]?=some b[nb-1]:=AF (by lia)
   have ea:a[na-1]?=some a[na-1]:=AF (by lia)
   refine wpS_bind (qJ_ eb (wpS_bind (qJ_ ea (wpS_bind (ym_ hA (gs.kind.trans hk) (m.mb _ _ eb) (m.ma _ _ ea) ?_)))))
   by_cases c:rk b[nb-1]<rk a[na-1]
   ·rw[decide_eq_true c]
    dsimp only
    rw[if_pos rfl]
    refine wpS_bind (qJ_ ea ?_)
    have j':=m.pushA2 j h1 ea λi i1 i2=>by
     have q1:=sB i (nb-1) (Ap _) (by lia) (by lia)
     rw[qC_ eb]at q1
     rw[qC_ ea]
     lia
    by_cases c3:na-1=0
    ·rw[if_pos (by simpa using c3)]
     exact wpS_pure ⟨rfl,.inl ⟨_,rfl,m.done2 j' (.inl c3)⟩⟩
    rw[if_neg (by simpa using c3)]
    split
    ·exact wpS_pure ⟨rfl,.inr ⟨rfl,j',by dsimp only;lia,h2,by dsimp only;lia⟩⟩
    ·exact wpS_pure ⟨rfl,rfl,j',by dsimp only;lia,h2,by dsimp only;lia⟩
   ·rw[decide_eq_false c]
    dsimp only
    rw[if_neg (by decide)]
    refine wpS_bind (qJ_ eb ?_)
    have j':=m.pushB2 j (by lia) eb λi i1 i2=>by
     have q1:=sA i (na-1) (Ap _) (by lia) (by lia)
     rw[qC_ ea]at q1
     rw[qC_ eb]
     lia
    by_cases c3:nb-1=1
    ·rw[if_pos (by simpa using c3)]
     exact wpS_pure ⟨rfl,.inl ⟨_,rfl,m.first2 j' c3⟩⟩
    rw[if_neg (by simpa using c3)]
    split
    ·exact wpS_pure ⟨rfl,.inr ⟨rfl,j',h1,by dsimp only;lia,by dsimp only;lia⟩⟩
    ·exact wpS_pure ⟨rfl,rfl,j',h1,by dsimp only;lia,by dsimp only;lia⟩
  case post1 =>
   rintro⟨c,na,nb,out,ac,bc⟩ st'' ⟨e1,h⟩
   subst e1
   rcases h with⟨r,e,g1⟩|⟨e,j,h1,h2,h3⟩
   ·have e':c=some r:=e
    subst e'
    exact wpS_pure ⟨gs,r,rfl,g1⟩
   ·dsimp only at e j h1 h2 h3
    subst e
    refine wpS_bind (wpS_lift (wpAny_rule ⟨rfl,?_⟩))
    refine wpS_bind (wpS_mono (wpS_forRange (I:=λ_ c st3=>c.1=none/\HiR rk a b (x+2) st c st3) (Q:=λc st3=>HiR rk a b (x+2) st c st3) ?step2 ?fin2 ⟨rfl,gs,.inr ⟨rfl,j,h1,h2,h3⟩⟩) ?post2)
    case fin2 =>
     rintro c st3 ⟨_,hc⟩
     exact hc
    case step2 =>
     rintro y ⟨c,na,nb,out,g2,ac,bc⟩ st3 _ hy ⟨e,gs3,hc⟩
     have e':c=none:=e
     subst e'
     rcases hc with⟨r,er,_⟩|⟨_,j,h1,h2,h3⟩
     ·cases er
     dsimp only at j h1 h2 h3
     refine yz_ (λ_=>?_) (λ_=>?_)
     ·refine wpS_bind (wpS_modify ?_)
      exact ajg_ hA m hk (gs3.trans (xL_ st3 (g2-1))) j h1 h2 h3 (λc hc=>hc) (λc e hc=>⟨e,hc⟩)
     ·refine wpS_bind (wpS_modify ?_)
      exact ajg_ hA m hk (gs3.trans (xL_ st3 g2)) j h1 h2 h3 (λc hc=>hc) (λc e hc=>⟨e,hc⟩)
    case post2 =>
     rintro⟨c,na,nb,out,g2,ac,bc⟩ st3 ⟨gs3,hc⟩
     rcases hc with⟨r,er,g3⟩|⟨er,j,h1,h2,h3⟩
     ·have e':c=some r:=er
      subst e'
      exact wpS_pure ⟨gs3,r,rfl,g3⟩
     ·have e':c=none:=er
      subst e'
      dsimp only at j h1 h2 h3 ⊢
      refine wpS_bind (wpS_modify (wpS_pure ⟨gs3.trans (xL_ st3 (g2+1)),rfl,j,h1,h2,by dsimp only;lia⟩))
end
end L2.Ts
namespace L2.Ts
open PySem PyProof.Rows
abbrev Run:=Nat×Nat×Nat
theorem ahb_{α:Type}{L R:List α}{x y z:α}{p:Array α}(hp:p.toList=L++x::y::R):((p.setIfInBounds L.length z).eraseIdxIfInBounds (L.length+1)).toList=L++z::R:=by
 have hz:p.size=L.length+2+R.length:=by rw[<-AO,hp];simp;lia
 rw[Array.eraseIdxIfInBounds]
 rw[dif_pos (by rw[CQ];lia),Array.toList_eraseIdx,Array.toList_setIfInBounds,hp]
 rw[ER _ _ (AG _),Et,List.set_cons_zero,List.eraseIdx_append_of_length_le (by lia),show L.length+1-L.length=1 by lia]
 rfl
theorem aa8_(o:Nat):∀(l:List Keyed)(n:Nat)(xs:Array Keyed),o+n+l.length<=xs.size->∀k:Nat,
  ((l.zipIdx n).foldl (λa (x:Keyed×Nat)=>a.setIfInBounds (o+x.2) x.1) xs)[k]?=if o+n<=k/\k<o+n+l.length then l[k-(o+n)]? else xs[k]?
 |[],n,xs,_,k=>by
  rw[if_neg (by simp)];rfl
 |x::l,n,xs,h,k=>by
  rw[Am]at h
  rw[Du,Br,aa8_ o l (n+1) _ (by rw[CQ];lia) k,Am]
  by_cases c:o+(n+1)<=k/\k<o+(n+1)+l.length
  ·rw[if_pos c,if_pos (by lia),show k-(o+n)=(k-(o+(n+1)))+1 by lia,List.getElem?_cons_succ]
  ·rw[if_neg c]
   by_cases c2:k=o+n
   ·subst c2
    rw[if_pos (by lia),Et,List.getElem?_cons_zero,Array.getElem?_setIfInBounds_self_of_lt (by lia)]
   ·rw[if_neg (by lia),CZ (by lia)]
theorem vl_{rk:Keyed->Nat}{xs:Array Keyed}{i j m:Nat}(h:i+m<j):kv rk (xs.extract i j) m=kv rk xs (i+m):=by
 refine zv_ ?_
 rw[EJ]
 by_cases c:m<min j xs.size-i
 ·rw[if_pos c]
 ·rw[if_neg c,Bp (by lia)]
theorem alm_{σ:Type}{M:Model}{A:Around}{E:Value->Shared->Prop}{s:Shared}{x:σ}{Q:PUnit->σ->Prop}{st:σ}(h:Q ⟨⟩ x):wpS M A E s (set x:StateT σ Sem PUnit) Q st:=by
 unfold wpS
 rw[StateT.run_set]
 exact wpAny_pure ⟨rfl,h⟩
section
variable{rk:Keyed->Nat}{prog:Program}{w:World}{A:Around}{E:Value->Shared->Prop}{s:Shared}{κ:SortKind}{M:Keyed->Prop}
theorem ao8_(h:Ask prog w A s κ M rk){st:SortSt}{Q:Bool->SortSt->Prop}(hk:kindOf st=κ)(ha:All M (arrOf st))(hf:failedOf st=none){L R:List Run}{sa na pa sb nb pb:Nat}(hp:(pendingOf st).toList=L++(sa,na,pa)::(sb,nb,pb)::R)
  (e:sb=sa+na) (h1:1<=na) (h2:1<=nb) (hz:sb+nb<=(arrOf st).size) (s1:Srt rk (arrOf st) sa (sa+na)) (s2:Srt rk (arrOf st) sb (sb+nb))
  (q:∀st',kindOf st'=κ->failedOf st'=none->(pendingOf st').toList=L++(sa,na+nb,pa)::R->(arrOf st').Perm (arrOf st)->(∀k:Nat,k<sa∨sa+na+nb<=k->(arrOf st')[k]?=(arrOf st)[k]?)->Srt rk (arrOf st') sa (sa+(na+nb))->Q true st') :
  wpS (model prog w) A E s (mergeAt' L.length) Q st:=by
 subst e
 have g0:(pendingOf st)[L.length]?=some (sa,na,pa):=by rw[<-BE,hp];simp
 have g1:(pendingOf st)[L.length+1]?=some (sa+na,nb,pb):=by rw[<-BE,hp];simp
 have er:=ahb_ (z:=(sa,na+nb,pa)) hp
 refine wpS_bind (wpS_get ?_)
 rw[g0,g1]
 dsimp only
 refine wpS_bind (alm_ ?_)
 have eb:(arrOf st)[sa+na]?=some (arrOf st)[sa+na]:=AF (by lia)
 refine wpS_bind (qJ_ eb (wpS_bind (jy_ h (arr:=arrOf st) (st:=SortSt.mk' (kindOf st) (arrOf st) _ (gallopOf st) (failedOf st)) hk (ha _ _ eb) ha (by lia) (by lia) s1 λk k1 k2 k3=>?_)))
 have a1:∀i,sa<=i->i<sa+k->kv rk (arrOf st) i<=kv rk (arrOf st) (sa+na):=λi i1 i2=>by
  have:=k2 i i1 i2
  unfold Bd at this
  rw[if_neg (by decide),<-qC_ (rk:=rk) eb]at this
  exact this
 have a2:∀i,sa+k<=i->i<sa+na->kv rk (arrOf st) (sa+na)<kv rk (arrOf st) i:=λi i1 i2=>by
  have:=k3 i i1 (by lia)
  unfold Bd at this
  rw[if_neg (by decide),<-qC_ (rk:=rk) eb]at this
  lia
 dsimp only
 by_cases c1:na-k=0
 ·rw[if_pos (by simpa using c1)]
  refine wpS_pure (q _ hk hf er (Array.Perm.refl _) (λ_ _=>rfl) λi j i1 ij j1=>?_)
  show kv rk (arrOf st) i<=kv rk (arrOf st) j
  by_cases cj:j<sa+na
  ·exact s1 i j i1 ij cj
  ·by_cases ci:i<sa+na
   ·have b1:=a1 i i1 (by lia)
    have b2:=s2 (sa+na) j (AG _) (by lia) (by lia)
    lia
   ·exact s2 i j (by lia) ij (by lia)
 rw[if_neg (by simpa using c1)]
 have el:(arrOf st)[sa+k+(na-k)-1]?=some (arrOf st)[sa+k+(na-k)-1]:=AF (by lia)
 refine wpS_bind (qJ_ el (wpS_bind (jy_ h (arr:=arrOf st) (st:=SortSt.mk' (kindOf st) (arrOf st) _ (gallopOf st) (failedOf st)) hk (ha _ _ el) ha (by lia) (by lia) s2 λn n1 n2 n3=>?_)))
 have b1:∀i,sa+na<=i->i<sa+na+n->kv rk (arrOf st) i<kv rk (arrOf st) (sa+na-1):=λi i1 i2=>by
  have:=n2 i i1 i2
  unfold Bd at this
  rw[if_pos rfl,<-qC_ (rk:=rk) el,show sa+k+(na-k)-1=sa+na-1 by lia]at this
  exact this
 have b2:∀i,sa+na+n<=i->i<sa+na+nb->kv rk (arrOf st) (sa+na-1)<=kv rk (arrOf st) i:=λi i1 i2=>by
  have:=n3 i i1 i2
  unfold Bd at this
  rw[if_pos rfl,<-qC_ (rk:=rk) el,show sa+k+(na-k)-1=sa+na-1 by lia]at this
  lia
 dsimp only
 by_cases c2:n=0
 ·exfalso
  have d1:=a2 (sa+na-1) (by lia) (by lia)
  have d2:=b2 (sa+na) (by lia) (by lia)
  lia
 rw[if_neg (by simpa using c2)]
 have mp:MPre M rk ((arrOf st).extract (sa+k) (sa+na)) ((arrOf st).extract (sa+na) (sa+na+n)):=by
  have zx:((arrOf st).extract (sa+k) (sa+na)).size=na-k:=by rw[Dc];lia
  have zy:((arrOf st).extract (sa+na) (sa+na+n)).size=n:=by rw[Dc];lia
  have sub:∀i j,All M ((arrOf st).extract i j):=λi j m x hx=>by
   rw[EJ]at hx
   split at hx
   ·exact ha _ _ hx
   ·cases hx
  refine⟨sub _ _,sub _ _,?_,?_,by lia,by lia,?_,λi hi=>?_⟩
  ·rw[zo_,show sa+na-(sa+k)=na-k by lia]
   exact agw_ (λi j i1 ij j1=>s1 i j (by lia) ij (by lia)) (by lia)
  ·rw[zo_,show sa+na+n-(sa+na)=n by lia]
   exact agw_ (λi j i1 ij j1=>s2 i j i1 ij (by lia)) (by lia)
  ·rw[vl_ (by lia),vl_ (by lia)]
   exact a2 _ (by lia) (by lia)
  ·rw[zx,vl_ (by lia),vl_ (by lia),show sa+k+(na-k-1)=sa+na-1 by lia]
   exact b1 _ (by lia) (by lia)
 have fin:∀(r:Array Keyed)(st2:SortSt),Gs (SortSt.mk' (kindOf st) (arrOf st) (((pendingOf st).setIfInBounds L.length (sa,na+nb,pa)).eraseIdxIfInBounds (L.length+1)) (gallopOf st) (failedOf st)) st2 ->
   Good rk ((arrOf st).extract (sa+k) (sa+na)).toList ((arrOf st).extract (sa+na) (sa+na+n)).toList r.toList ->
   Q true (SortSt.mk' (kindOf st2) (r.toList.zipIdx.foldl (λa (x:Keyed×Nat)=>a.setIfInBounds (sa+k+x.2) x.1) (arrOf st2)) (pendingOf st2) (gallopOf st2) (failedOf st2))/\failedOf st2=none:=by
  intro r st2 gs gd
  have e1:arrOf st2=arrOf st:=gs.arr
  have e2:failedOf st2=none:=gs.failed.trans hf
  refine⟨?_,e2⟩
  rw[e1]
  have lr:r.toList.length=(na-k)+n:=by
   have:=gd.1.length_eq
   simp only[AE,AO,Dc]at this
   rw[AO]
   lia
  have wr:=aa8_ (sa+k) r.toList 0 (arrOf st) (by lia)
  generalize hxs:r.toList.zipIdx.foldl (λa (x:Keyed×Nat)=>a.setIfInBounds (sa+k+x.2) x.1) (arrOf st)=xs' at wr ⊢
  have zs:xs'.size=(arrOf st).size:=by
   have key:∀(l:List (Keyed×Nat))(ys:Array Keyed),(l.foldl (λa (x:Keyed×Nat)=>a.setIfInBounds (sa+k+x.2) x.1) ys).size=ys.size:=by
    intro l
    induction l with
    |nil=>intro ys;rfl
    |cons z l ih=>intro ys;rw[Br,ih,CQ]
   rw[<-hxs]
   exact key _ _
  have whole:xs'.toList=(arrOf st).toList.take (sa+k)++r.toList++(arrOf st).toList.drop (sa+na+n):=by
   refine Cf λi=>?_
   rw[BE,wr i]
   have lt:((arrOf st).toList.take (sa+k)).length=sa+k:=by rw[AS,AO];lia
   by_cases c:i<sa+k
   ·rw[if_neg (by lia),AX,Cv (by lia),Dq c,BE]
   ·by_cases c':i<sa+na+n
    ·rw[if_pos (by lia),Cv (by rw[AE,lt];lia),Cp (by lia),lt]
     rfl
    ·rw[if_neg (by lia),Cp (by rw[AE,lt];lia),AE,lt,Dd,BE]
     congr 1
     lia
  have old:(arrOf st).toList=(arrOf st).toList.take (sa+k)++(((arrOf st).extract (sa+k) (sa+na)).toList++((arrOf st).extract (sa+na) (sa+na+n)).toList)++(arrOf st).toList.drop (sa+na+n):=by
   have f1:(arrOf st).toList=(arrOf st).toList.take (sa+k)++(arrOf st).toList.drop (sa+k):=(BU _ _).symm
   have f2:=jd_ (arrOf st).toList (sa+k) (na-k)
   have f3:=jd_ (arrOf st).toList (sa+na) n
   rw[show sa+k+(na-k)=sa+na by lia]at f2
   rw[zo_,zo_,show sa+na-(sa+k)=na-k by lia,show sa+na+n-(sa+na)=n by lia]
   rw[AX,AX,<-f3,<-f2]
   exact f1
  have pm:xs'.Perm (arrOf st):=by
   refine Dk.mpr ?_
   rw[whole]
   refine List.Perm.trans ?_ (List.Perm.of_eq old.symm)
   exact BO _ (Bl _ gd.1)
  have kvw:∀i,kv rk xs' i=if sa+k<=i/\i<sa+na+n then kv rk r (i-(sa+k)) else kv rk (arrOf st) i:=λi=>by
   have q1:=wr i
   by_cases c:sa+k<=i/\i<sa+na+n
   ·rw[if_pos c]
    rw[if_pos (by lia)]at q1
    exact zv_ (by rw[q1,BE];rfl)
   ·rw[if_neg c]
    rw[if_neg (by lia)]at q1
    exact zv_ q1
  have src:∀m,m<(na-k)+n->∃j,sa+k<=j/\j<sa+na+n/\kv rk r m=kv rk (arrOf st) j:=λm hm=>by
   have hm':m<r.size:=by rw[<-AO];lia
   have em:r[m]?=some r[m]:=AF hm'
   have mem:r[m]∈r.toList:=by simp
   rcases Ak.mp (gd.1.mem_iff.mp mem) with hm1|hm1
   ·rw[zo_]at hm1
    obtain⟨j,j1,j2,j3,j4,_⟩:=jw_ (rk:=rk) hm1
    exact⟨j,j1,by lia,by rw[qC_ em,j4]⟩
   ·rw[zo_]at hm1
    obtain⟨j,j1,j2,j3,j4,_⟩:=jw_ (rk:=rk) hm1
    exact⟨j,by lia,by lia,by rw[qC_ em,j4]⟩
  have sr:=zH_ gd.2
  refine q _ (gs.kind.trans hk) e2 ((congrArg Array.toList gs.pend).trans er) pm (λi hi=>?_) λi j i1 ij j1=>?_
  ·have q1:=wr i
   rw[if_neg (by lia)]at q1
   exact q1
  ·show kv rk xs' i<=kv rk xs' j
   have left:∀z y,sa<=z->z<sa+k->sa+k<=y->y<sa+na+nb->kv rk (arrOf st) z<=kv rk (arrOf st) y:=λz y z1 z2 y1 y2=>by
    by_cases c:y<sa+na
    ·exact s1 z y z1 (by lia) c
    ·have d1:=a1 z z1 z2
     have d2:=s2 (sa+na) y (AG _) (by lia) y2
     lia
   have right:∀z y,sa+k<=z->z<sa+na+n->sa+na+n<=y->y<sa+na+nb->kv rk (arrOf st) z<=kv rk (arrOf st) y:=λz y z1 z2 y1 y2=>by
    by_cases c:z<sa+na
    ·have d1:=s1 z (sa+na-1) (by lia) (by lia) (by lia)
     have d2:=b2 y y1 y2
     lia
    ·exact s2 z y (by lia) (by lia) y2
   rw[kvw i,kvw j]
   by_cases ci:sa+k<=i/\i<sa+na+n
   ·rw[if_pos ci]
    by_cases cj:sa+k<=j/\j<sa+na+n
    ·rw[if_pos cj]
     exact sr _ _ (Ap _) (by lia) (by rw[<-AO];lia)
    ·rw[if_neg cj]
     obtain⟨z,z1,z2,z3⟩:=src (i-(sa+k)) (by lia)
     rw[z3]
     exact right z j z1 z2 (by lia) (by lia)
   ·rw[if_neg ci]
    by_cases cj:sa+k<=j/\j<sa+na+n
    ·rw[if_pos cj]
     obtain⟨z,z1,z2,z3⟩:=src (j-(sa+k)) (by lia)
     rw[z3]
     exact left i z i1 (by lia) z1 (by lia)
    ·rw[if_neg cj]
     by_cases c5:i<sa+k
     ·by_cases c6:j<sa+k
      ·exact s1 i j i1 ij (by lia)
      ·exact left i j i1 c5 (by lia) (by lia)
     ·exact s2 i j (by lia) ij (by lia)
 have go:∀(r:Array Keyed)(st2:SortSt),Gs (SortSt.mk' (kindOf st) (arrOf st) (((pendingOf st).setIfInBounds L.length (sa,na+nb,pa)).eraseIdxIfInBounds (L.length+1)) (gallopOf st) (failedOf st)) st2 ->
   Good rk ((arrOf st).extract (sa+k) (sa+na)).toList ((arrOf st).extract (sa+na) (sa+na+n)).toList r.toList ->
   wpS (model prog w) A E s (do
    modify λt=>SortSt.mk' (kindOf t) (r.toList.zipIdx.foldl (λa (x:Keyed×Nat)=>a.setIfInBounds (sa+k+x.2) x.1) (arrOf t)) (pendingOf t) (gallopOf t) (failedOf t)
    let t <-get
    pure (failedOf t).isNone) Q st2:=by
  intro r st2 gs gd
  obtain⟨f1,f2⟩:=fin r st2 gs gd
  refine wpS_bind (wpS_modify (wpS_bind (wpS_get (wpS_pure ?_))))
  have e3:(failedOf st2).isNone=true:=by rw[f2];rfl
  show Q (failedOf st2).isNone _
  rw[e3]
  exact f1
 refine yz_ (λ_=>?_) (λ_=>?_)
 ·exact wpS_bind (ao1_ h hk mp λr st2 gs gd=>go r st2 gs gd)
 ·exact wpS_bind (apn_ h hk mp λr st2 gs gd=>go r st2 gs gd)
def Runs(rk:Keyed->Nat)(xs:Array Keyed):List Run->Nat->Nat->Prop
 |[],a,e=>a=e
 |r::l,a,e=>r.1=a/\1<=r.2.1/\Srt rk xs a (a+r.2.1)/\Runs rk xs l (a+r.2.1) e
theorem Runs.le{xs:Array Keyed}:∀{l:List Run}{a e:Nat},Runs rk xs l a e->a+l.length<=e
 |[],a,e,h=>by have:a=e:=h;simp;lia
 |r::l,a,e,⟨h1,h2,h3,h4⟩=>by
  have:=Runs.le h4
  rw[Am]
  lia
theorem Runs.app{xs:Array Keyed}:∀{l m:List Run}{a e:Nat},Runs rk xs (l++m) a e->∃z,Runs rk xs l a z/\Runs rk xs m z e
 |[],m,a,e,h=>⟨a,rfl,h⟩
 |r::l,m,a,e,⟨h1,h2,h3,h4⟩=>by
  obtain⟨z,z1,z2⟩:=Runs.app h4
  exact⟨z,⟨h1,h2,h3,z1⟩,z2⟩
theorem Runs.join{xs:Array Keyed}:∀{l m:List Run}{a z e:Nat},Runs rk xs l a z->Runs rk xs m z e->Runs rk xs (l++m) a e
 |[],m,a,z,e,h,q=>by have:a=z:=h;subst this;exact q
 |r::l,m,a,z,e,⟨h1,h2,h3,h4⟩,q=>⟨h1,h2,h3,Runs.join h4 q⟩
theorem Runs.same{xs ys:Array Keyed}:∀{l:List Run}{a e:Nat},Runs rk xs l a e->(∀k,a<=k->k<e->kv rk ys k=kv rk xs k)->Runs rk ys l a e
 |[],a,e,h,_=>h
 |r::l,a,e,⟨h1,h2,h3,h4⟩,q=>by
  have le:=Runs.le h4
  refine⟨h1,h2,λi j i1 ij j1=>?_,Runs.same h4 λk k1 k2=>q k (by lia) k2⟩
  rw[q i i1 (by lia),q j (by lia) (by lia)]
  exact h3 i j i1 ij j1
theorem Runs.modify{xs:Array Keyed}{f:Run->Run}(hf:∀r,(f r).1=r.1/\(f r).2.1=r.2.1):∀{l:List Run}{a e:Nat},Runs rk xs l a e->∀i,Runs rk xs (l.modify i f) a e
 |[],a,e,h,i=>by cases i<;>exact h
 |r::l,a,e,⟨h1,h2,h3,h4⟩,0=>by
  obtain⟨f1,f2⟩:=hf r
  show Runs rk xs (f r::l) a e
  exact⟨f1.trans h1,by lia,by rw[f2];exact h3,by rw[f2];exact h4⟩
 |r::l,a,e,⟨h1,h2,h3,h4⟩,i+1=>⟨h1,h2,h3,Runs.modify hf h4 i⟩
structure Tb(rk:Keyed->Nat)(κ:SortKind)(a₀:Array Keyed)(lo:Nat)(st:SortSt):Prop where
 kind:kindOf st=κ
 failed:failedOf st=none
 perm:(arrOf st).Perm a₀
 runs:Runs rk (arrOf st) (pendingOf st).toList 0 lo
theorem Tb.size{a₀:Array Keyed}{lo:Nat}{st:SortSt}(t:Tb rk κ a₀ lo st):(arrOf st).size=a₀.size:=t.perm.size_eq
theorem ab0_(h:Ask prog w A s κ M rk){a₀:Array Keyed}{lo i:Nat}{st:SortSt}{Q:Bool->SortSt->Prop}(hM:All M a₀)(t:Tb rk κ a₀ lo st)(hlo:lo<=a₀.size)(hi:i+1<(pendingOf st).size)
  (q:∀st',Tb rk κ a₀ lo st'->(pendingOf st').size+1=(pendingOf st).size->(∀k:Nat,lo<=k->(arrOf st')[k]?=(arrOf st)[k]?)->Q true st'):wpS (model prog w) A E s (mergeAt' i) Q st:=by
 obtain⟨L,x,y,R,e,el⟩:∃L x y R,(pendingOf st).toList=L++x::y::R/\L.length=i:=by
  have hl:i+1<(pendingOf st).toList.length:=by rw[AO];exact hi
  refine⟨(pendingOf st).toList.take i,(pendingOf st).toList[i],(pendingOf st).toList[i+1],(pendingOf st).toList.drop (i+2),?_,by rw[AS];lia⟩
  rw[EK hl,EK,BU]
 subst el
 obtain⟨sa,na,pa⟩:=x
 obtain⟨sb,nb,pb⟩:=y
 have r:=t.runs
 rw[e]at r
 obtain⟨z,r1,r2⟩:=r.app
 obtain⟨x1,x2,x3,x4⟩:=r2
 obtain⟨y1,y2,y3,y4⟩:=x4
 dsimp only at x1 x2 x3 y1 y2 y3 y4
 subst x1
 have le:=y4.le
 have sz:=t.size
 refine ao8_ h t.kind (hM.perm t.perm) t.failed e y1 x2 y2 (by lia) x3 (by rw[y1];exact y3) λst' k1 k2 k3 k4 k5 k6=>?_
 have sm:∀k,k<sa∨sa+na+nb<=k->kv rk (arrOf st') k=kv rk (arrOf st) k:=λk hk=>zv_ (k5 k hk)
 refine q st' ⟨k1,k2,k4.trans t.perm,?_⟩ ?_ λk hk=>k5 k (.inr (by lia))
 ·rw[k3]
  refine(r1.same λk _ hk=>sm k (.inl hk)).join ⟨rfl,by dsimp only;lia,k6,?_⟩
  dsimp only
  rw[show sa+(na+nb)=sa+na+nb by lia]
  exact y4.same λk hk _=>sm k (.inr hk)
 ·rw[<-AO,<-AO,k3,e]
  simp
  lia
theorem alc_(h:Ask prog w A s κ M rk){st:SortSt}{Q:Unit->SortSt->Prop}(hk:kindOf st=κ)(hM:All M (arrOf st))(hf:failedOf st=none)(hp:pendingOf st=#[])(h1:1<=(arrOf st).size)
  (q:∀st',(arrOf st').Perm (arrOf st)->failedOf st'=none->Srt rk (arrOf st') 0 (arrOf st).size->Q () st'):wpS (model prog w) A E s sortRuns' Q st:=by
 rw[sortRuns'_eq]
 refine wpS_bind (wpS_get ?_)
 generalize ha₀:arrOf st=a₀ at hM h1 q
 dsimp only
 have t0:Tb rk κ a₀ 0 st:=⟨hk,hf,by rw[ha₀],by rw[hp];rfl⟩
 refine wpS_bind (wpS_mono (wpS_forRange (I:=λx c st'=>c.1=none/\Tb rk κ a₀ c.2 st'/\c.2<=a₀.size/\(x<=c.2∨c.2=a₀.size)) (Q:=λc st'=>c.1=none/\Tb rk κ a₀ a₀.size st') ?step ?fin ⟨rfl,t0,Ap _,.inl (AG _)⟩) ?post)
 case fin =>
  rintro⟨c,lo⟩ st' ⟨e,t,hl,hx⟩
  dsimp only at e t hl hx
  have el:lo=a₀.size:=by lia
  subst el
  exact⟨e,t⟩
 case step =>
  rintro x ⟨c,lo⟩ st' _ hx ⟨e,t,hl,hxl⟩
  dsimp only at e t hl hxl ⊢
  subst e
  by_cases c1:lo ≥ a₀.size
  ·rw[if_pos c1]
   have el:lo=a₀.size:=by lia
   subst el
   exact wpS_pure ⟨rfl,t⟩
  rw[if_neg c1]
  have sz:=t.size
  refine wpS_bind (am6_ h t.kind (hM.perm t.perm) (by lia) (by lia) λn st2 nx n1 n2 ns=>?_)
  have t2:Tb rk κ a₀ lo st2:=⟨nx.kind.trans t.kind,nx.failed.trans t.failed,nx.perm.trans t.perm,by rw[nx.pend];exact t.runs.same λk _ hk=>zv_ (nx.below k hk)⟩
  dsimp only
  generalize hforce:min (a₀.size-lo) (minRun' a₀.size a₀.size 0)=force
  have z6_:∀(K1 K2:StateT SortSt Sem (ForInStep (Option Unit×Nat)))(Z:ForInStep (Option Unit×Nat)->SortSt->Prop),
    (∀st3,Tb rk κ a₀ lo st3->1<=force->lo+force<=a₀.size->Srt rk (arrOf st3) lo (lo+force)->wpS (model prog w) A E s K1 Z st3) ->
    (∀st3,Tb rk κ a₀ lo st3->1<=n->lo+n<=a₀.size->Srt rk (arrOf st3) lo (lo+n)->wpS (model prog w) A E s K2 Z st3) ->
    wpS (model prog w) A E s (if n<minRun' a₀.size a₀.size 0 then do
     liftM (rule "list.sort.binary-insertion")
     let r <-binarySort' lo force n
     if (!r)=true then pure (ForInStep.done (some (),lo)) else K1
    else K2) Z st2:=by
   intro K1 K2 Z hK1 hK2
   have sz2:=t2.size
   by_cases c2:n<minRun' a₀.size a₀.size 0
   ·rw[if_pos c2]
    refine wpS_bind (wpS_lift (wpAny_rule ⟨rfl,?_⟩))
    refine wpS_bind (alz_ h t2.kind (hM.perm t2.perm) (by lia) (by lia) ns λst3 nx3 ns3=>?_)
    simp only[Ej,BA,if_false]
    exact hK1 st3 ⟨nx3.kind.trans t2.kind,nx3.failed.trans t2.failed,nx3.perm.trans t2.perm,by rw[nx3.pend];exact t2.runs.same λk _ hk=>zv_ (nx3.below k hk)⟩ (by lia) (by lia) ns3
   ·rw[if_neg c2]
    exact hK2 st2 t2 n1 (by lia) ns
  have push:∀(m:Nat) st4,Tb rk κ a₀ lo st4->1<=m->Srt rk (arrOf st4) lo (lo+m)->Tb rk κ a₀ (lo+m) (setPending st4 ((pendingOf st4).push (lo,m,0))):=λm st4 t4 m1 ns4=>by
   refine⟨t4.kind,t4.failed,t4.perm,?_⟩
   show Runs rk (arrOf st4) ((pendingOf st4).push (lo,m,0)).toList 0 (lo+m)
   rw[Ce]
   exact t4.runs.join ⟨rfl,m1,ns4,rfl⟩
  have relabel:∀(f:Run->Run) st4,(∀r,(f r).1=r.1/\(f r).2.1=r.2.1)->Tb rk κ a₀ lo st4->Tb rk κ a₀ lo (setPending st4 ((pendingOf st4).modify ((pendingOf st4).size-1) f)):=λf st4 hf t4=>by
   refine⟨t4.kind,t4.failed,t4.perm,?_⟩
   show Runs rk (arrOf st4) ((pendingOf st4).modify ((pendingOf st4).size-1) f).toList 0 lo
   rw[Array.toList_modify]
   exact t4.runs.modify hf _
  have inner:∀(m:Nat)(st3:SortSt)(pw:Nat)(K:Option Unit×Unit->StateT SortSt Sem (ForInStep (Option Unit×Nat)))(Z:ForInStep (Option Unit×Nat)->SortSt->Prop),Tb rk κ a₀ lo st3->Srt rk (arrOf st3) lo (lo+m) ->
    (∀st4,Tb rk κ a₀ lo st4->Srt rk (arrOf st4) lo (lo+m)->wpS (model prog w) A E s (K (none,())) Z st4) ->
    wpS (model prog w) A E s (do
     let r <-forIn [0:a₀.size] ((none,()):Option Unit×Unit) λ_ _=>do
      let z <-get
      match (if (pendingOf z).size>1 then (pendingOf z)[(pendingOf z).size-2]? else none) with
      |some (_,_,old)=>if old<=pw then pure (ForInStep.done (none,())) else do
       let ok <-mergeAt' ((pendingOf z).size-2)
       if (!ok)=true then pure (ForInStep.done (some (),())) else pure (ForInStep.yield (none,()))
      |_=>pure (ForInStep.done (none,()))
     K r) Z st3:=by
   intro m st3 pw K Z t3 ns hK
   refine wpS_bind (wpS_mono (wpS_forRange (I:=λ_ c st'=>c.1=none/\Tb rk κ a₀ lo st'/\Srt rk (arrOf st') lo (lo+m)) (Q:=λc st'=>c.1=none/\Tb rk κ a₀ lo st'/\Srt rk (arrOf st') lo (lo+m)) ?step3 (λc st' hc=>hc) ⟨rfl,t3,ns⟩) ?post3)
   case step3 =>
    rintro y ⟨c,u⟩ st4 _ hy ⟨e,t4,ns4⟩
    have e':c=none:=e
    subst e'
    refine wpS_bind (wpS_get ?_)
    by_cases c4:(pendingOf st4).size>1
    ·rw[if_pos c4]
     have eg:(pendingOf st4)[(pendingOf st4).size-2]?=some (pendingOf st4)[(pendingOf st4).size-2]:=AF (by lia)
     rw[eg]
     generalize (pendingOf st4)[(pendingOf st4).size-2]=z
     obtain⟨z1,z2,z3⟩:=z
     dsimp only
     refine yz_ (λ_=>wpS_pure ⟨rfl,t4,ns4⟩) λ_=>?_
     refine wpS_bind (ab0_ h hM t4 hl (by lia) λst5 t5 _ k5=>?_)
     simp only[Ej,BA,if_false]
     refine wpS_pure ⟨rfl,t5,λi j i1 ij j1=>?_⟩
     rw[zv_ (rk:=rk) (k5 i i1),zv_ (rk:=rk) (k5 j (by lia))]
     exact ns4 i j i1 ij j1
    ·rw[if_neg c4]
     exact wpS_pure ⟨rfl,t4,ns4⟩
   case post3 =>
    rintro⟨c,u⟩ st4 ⟨e,t4,ns4⟩
    have e':c=none:=e
    subst e'
    exact hK st4 t4 ns4
  refine z6_ _ _ _ (λst3 t3 n1 n2 ns=>?_) (λst3 t3 n1 n2 ns=>?_)
  all_goals
   refine wpS_bind (wpS_get ?_)
   cases hb:(pendingOf st3).back? with
   |none=>exact wpS_bind (wpS_modify (wpS_pure ⟨rfl,push _ st3 t3 n1 ns,n2,by dsimp only;lia⟩))
   |some z =>
    obtain⟨s1,n3,p3⟩:=z
    dsimp only
    refine inner _ st3 _ _ _ t3 ns λst4 t4 ns4=>?_
    exact wpS_bind (wpS_modify (wpS_bind (wpS_modify (wpS_pure ⟨rfl,push _ _ (relabel _ st4 (λr=>⟨rfl,rfl⟩) t4) n1 ns4,n2,by dsimp only;lia⟩))))
 case post =>
  rintro⟨c,lo⟩ st' ⟨e,t⟩
  have e':c=none:=e
  subst e'
  dsimp only
  have sz:=t.size
  have r0:=t.runs.le
  rw[AO]at r0
  refine wpS_bind (wpS_mono (wpS_forRange (I:=λx c st2=>c.1=none/\Tb rk κ a₀ a₀.size st2/\((pendingOf st2).size<=1∨(pendingOf st2).size+x<=a₀.size)) (Q:=λc st2=>c.1=none/\Tb rk κ a₀ a₀.size st2/\(pendingOf st2).size<=1) ?step4 ?fin4 ⟨rfl,t,.inr (by lia)⟩) ?post4)
  case fin4 =>
   rintro c st2 ⟨e,t,h3⟩
   exact⟨e,t,by lia⟩
  case step4 =>
   rintro x ⟨c,u⟩ st2 _ hx ⟨e,t2,h3⟩
   have e':c=none:=e
   subst e'
   refine wpS_bind (wpS_get ?_)
   by_cases c1:(pendingOf st2).size<=1
   ·rw[if_pos c1]
    exact wpS_pure ⟨rfl,t2,c1⟩
   rw[if_neg c1]
   have fin:∀i,i+1<(pendingOf st2).size->∀(K:Bool->StateT SortSt Sem (ForInStep (Option Unit×Unit)))(Z:ForInStep (Option Unit×Unit)->SortSt->Prop),K true=pure (.yield (none,())) ->
     (∀st5,Tb rk κ a₀ a₀.size st5->((pendingOf st5).size<=1∨(pendingOf st5).size+(x+1)<=a₀.size)->Z (.yield (none,())) st5)->wpS (model prog w) A E s (do
     let r <-mergeAt' i
     K r) Z st2:=by
    intro i hi K Z hK hZ
    refine wpS_bind (ab0_ h hM t2 (AG _) hi λst5 t5 z5 _=>?_)
    rw[hK]
    exact wpS_pure (hZ st5 t5 (by lia))
   have both:∀(c:Bool)(i:Nat),i+2=(pendingOf st2).size->(if c=true then i-1 else i)+1<(pendingOf st2).size:=λc i hi=>by
    split<;>lia
   refine fin _ (both _ _ ?_) (λr=>_) _ ?_ (λst5 t5 h5=>⟨rfl,t5,h5⟩)
   ·lia
   ·rfl
  case post4 =>
   rintro⟨c,u⟩ st2 ⟨e,t2,h3⟩
   have e':c=none:=e
   subst e'
   refine wpS_pure (q st2 t2.perm t2.failed ?_)
   have r:=t2.runs
   rw[<-AO]at h3
   match hl:(pendingOf st2).toList,h3,r with
   |[],_,r=>have:0=a₀.size:=r;lia
   |[z],_,r =>
    obtain⟨r1,r2,r3,r4⟩:=r
    have r4':0+z.2.1=a₀.size:=r4
    rw[r4']at r3
    exact r3
   |_::_::_,h3,_=>simp at h3
end
end L2.Ts
namespace L2.Rw
open PySem
def RawD(h:Heap)(d:Addr)(es:Array DictEntry)(ep:Nat):Prop:=∃o,h.get? d=some o/\o.ExactDict/\o.data=.dict es ep
theorem RawD.keep{h h':Heap}{d:Addr}{es:Array DictEntry}{ep:Nat}(x:RawD h d es ep)(k:∀o,h.get? d=some o->h'.get? d=some o):RawD h' d es ep:=let ⟨o,e,r⟩:=x;⟨o,k o e,r⟩
theorem RawD.lt{h:Heap}{d:Addr}{es:Array DictEntry}{ep:Nat}(x:RawD h d es ep):d<h.objs.size:=let ⟨_,e,_⟩:=x;AI e
theorem RawD.type{s:Shared}{d:Addr}{es:Array DictEntry}{ep:Nat}(x:RawD s.heap d es ep):s.TypeIs (.ref d) "dict" := let ⟨o,e,c,_⟩:=x;⟨o,e,c.1⟩
section
variable{prog:Program}{w:World}{A:Around}{E:Value->Shared->Prop}{s:Shared}{d it:Addr}{es:Array DictEntry}{ep i:Nat}
theorem ai1_{Q:Value->Shared->Prop}(hd:(d==sysModules)=false)(hm:RawD s.heap d es ep)
  (hQ:Q (.ref s.heap.objs.size) { s with heap:=s.heap.push { cls:=.type "dict_keyiterator",data:=.fields #[.ref d,.int 0 0,.int es.size 0,.int ep 0] } }):wpAny (model prog w) A (pyIter (.ref d)) Q E s:=by
 have hT:=hm.type
 obtain⟨o,ho,_,hdat⟩:=hm
 refine wpAny_pyIter_slot hT F.slot_dict_iter (wpAny_call_entry F.slot_dict_iter hT F.entry_dict_iter ?_ (F.args_dict_iter_1 _))
 unfold Builtin.«dict.__iter__»
 refine wpAny_bind ?_
 unfold Builtin.Dict.dictSlotNone
 refine wpAny_bind (wpAny_notOrdered_dict hT (wpAny_pure ?_))
 show wpAny _ _ (Builtin.Dict.showsAll d>>=_) _ _ s
 unfold Builtin.Dict.showsAll
 rw[if_neg (by rw[hd];decide)]
 refine wpAny_bind (wpAny_pure (wpAny_bind (wpAny_dictEntries ho hdat (wpAny_bind (wpAny_dictEpoch ho hdat ?_)))))
 refine wpAny_bind (wpAny_newObj_type (wpAny_pure ⟨_,rfl, "dict_keyiterator",_,⟨_,AM _ rfl,rfl⟩,By.lookup,?_⟩))
 simpa [rawInt]using hQ
theorem ahp_{Q:Option Value->Shared->Prop}(hit:s.heap.IsKeyIter it d i es.size ep)(hm:RawD s.heap d es ep)(hi:i<es.size)
  (hQ:∀h',h'.IsKeyIter it d (i+1) es.size ep->Heap.SameBut it s.heap h'->Q (some es[i].key) { s with heap:=h' }):wpAny (model prog w) A (pyNext (.ref it)) Q E s:=by
 obtain⟨o,ho,hc,hd⟩:=id hit
 obtain⟨od,hod,_,hdd⟩:=hm
 have hT:=hit.typeIs
 unfold pyNext
 refine wpAny_bind (wpAny_attempt (wpAny_callSpecial?_slot (name:=Str.ofString "__next__") hT By (wpAny_call_entry By hT DS ?_ (DN _))))
 refine wpAny_bind (wpAny_pure (wpAny_bind (wpAny_bind ?_)))
 first|refine wpAny_bind (wpAny_typeNameOfWhole_keyiter hT (wpAny_pure ?_))|refine wpAny_bind (wpAny_typeNameOf_keyiter hT (wpAny_pure ?_))
 refine wpAny_bind (wpAny_fieldsOf ho hd ?_)
 have own:Builtin.Dict_items.ownsTuple "dict_keyiterator" = false:=by decide
 simp only[own,BA,if_false]
 show wpAny _ _ (if (Value.ref d==Value.none)=true then _ else _) _ _ s
 rw[if_neg (show ¬ ((Value.ref d==Value.none)=true) from AV)]
 refine wpAny_bind (wpAny_pure (wpAny_bind (wpAny_dictEntries hod hdd ?_)))
 rw[if_neg (by simp)]
 refine wpAny_bind (wpAny_pure (wpAny_bind (wpAny_dictEpoch hod hdd ?_)))
 rw[if_neg (by simp)]
 refine wpAny_pure ?_
 simp only[show ¬ ((i:Int)<0) from by lia,if_false,An,AF hi]
 refine wpAny_bind ?_
 first|refine wpAny_bind (wpAny_typeNameOfWhole_keyiter hT (wpAny_pure ?_))|refine wpAny_bind (wpAny_typeNameOf_keyiter hT (wpAny_pure ?_))
 refine wpAny_bind (wpAny_isOneOf_keyiter hT ?_)
 show wpAny _ _ (setField (.ref it) 1 (rawInt ((i:Int)+1))>>=_) _ _ s
 refine wpAny_bind (wpAny_setField ho hd (by simp) ?_)
 have on:(s.heap.update it (Obj.mapFields (·.setIfInBounds 1 (rawInt ((i:Int)+1))))).IsKeyIter it d (i+1) es.size ep :=
  ⟨_,BT _ ho (CI (B6 hd _)),(C9 ..).trans hc,by rw[B6 hd];simp [rawInt]⟩
 refine wpAny_bind (wpAny_holding (wpAny_bind (wpAny_isOneOf_keyiter (s:={ s with heap:=s.heap.update it (Obj.mapFields (·.setIfInBounds 1 (rawInt ((i:Int)+1)))) }) on.typeIs ?_)))
 show wpAny _ _ (pure es[i].key) _ _ _
 exact wpAny_pure (wpAny_pure ⟨_,rfl,wpAny_pure (hQ _ on (CW ..))⟩)
theorem alt_{Q:Option Value->Shared->Prop}(hh:A.handled=none)(hit:s.heap.IsKeyIter it d i es.size ep)(hm:RawD s.heap d es ep)(hi:es.size<=i)
  (hQ:∀h',Heap.ExtBut it s.heap h'->Q none { s with heap:=h' }):wpAny (model prog w) A (pyNext (.ref it)) Q E s:=by
 obtain⟨o,ho,hc,hd⟩:=id hit
 obtain⟨od,hod,_,hdd⟩:=hm
 have hT:=hit.typeIs
 unfold pyNext
 refine wpAny_bind (wpAny_attempt (wpAny_callSpecial?_slot (name:=Str.ofString "__next__") hT By (wpAny_call_entry By hT DS ?_ (DN _))))
 refine wpAny_bind (wpAny_pure (wpAny_bind (wpAny_bind ?_)))
 first|refine wpAny_bind (wpAny_typeNameOfWhole_keyiter hT (wpAny_pure ?_))|refine wpAny_bind (wpAny_typeNameOf_keyiter hT (wpAny_pure ?_))
 refine wpAny_bind (wpAny_fieldsOf ho hd ?_)
 have own:Builtin.Dict_items.ownsTuple "dict_keyiterator" = false:=by decide
 simp only[own,BA,if_false]
 show wpAny _ _ (if (Value.ref d==Value.none)=true then _ else _) _ _ s
 rw[if_neg (show ¬ ((Value.ref d==Value.none)=true) from AV)]
 refine wpAny_bind (wpAny_pure (wpAny_bind (wpAny_dictEntries hod hdd ?_)))
 rw[if_neg (by simp)]
 refine wpAny_bind (wpAny_pure (wpAny_bind (wpAny_dictEpoch hod hdd ?_)))
 rw[if_neg (by simp)]
 refine wpAny_pure ?_
 simp only[show ¬ ((i:Int)<0) from by lia,if_false,An,Bp hi]
 refine wpAny_bind ?_
 first|refine wpAny_bind (wpAny_typeNameOfWhole_keyiter hT (wpAny_pure ?_))|refine wpAny_bind (wpAny_typeNameOf_keyiter hT (wpAny_pure ?_))
 show wpAny _ _ (setField (.ref it) 0 .none>>=_) _ _ s
 refine wpAny_bind (wpAny_setField ho hd (by simp) ?_)
 show wpAny _ _ (newExc (.type "StopIteration") []>>=_) _ _ _
 refine wpAny_bind ?_
 simp only[newExc,newTuple]
 refine wpAny_bind (wpAny_newObj_type ?_ (by size_fits))
 refine wpAny_bind (m:=firstArgMember _ _) (wpAny_of_eq (a:=Value.none) (by first|rfl|(simp only[firstArgMember];rfl)) ?_)
 refine wpAny_newObj_type ?_ (by size_fits)
 simp only[raiseNew]
 refine wpAny_bind (wpAny_handled ?_)
 rw[show A.in1.handled=none from hh]
 refine wpAny_bind (wpAny_pure (wpAny_throw ?_))
 refine wpAny_bind (wpAny_isInstance (T := "StopIteration") (b:=true) ⟨_,AM _ rfl,rfl⟩ isSubtype_stop ?_)
 exact wpAny_pure (hQ _ (((CW ..).extBut.push _).push _))
theorem afh_(hh:A.handled=none)(I d:Addr)(hne:d≠I)(es:Array DictEntry)(ep:Nat) :
  Walks prog w A I [I,d] [I] es.size (λi v=>∃h:i<es.size,v=es[i].key) (λi h=>h.IsKeyIter I d i es.size ep/\RawD h d es ep) where
 sub:=λb hb=>by simp at hb;simp [hb]
 frame:=λ_ _ _ st hk=>⟨st.1.at λo e=>hk I (by simp) o e,st.2.keep λo e=>hk d (by simp) o e⟩
 item:=λi s Q E hi st hQ=>ahp_ st.1 st.2 hi λh' on hs=>hQ es[i].key h' s.toks ⟨hi,rfl⟩ ⟨on,st.2.keep λo e=>hs.extBut _ _ hne e⟩ λb o hb e=>hs.extBut b o (λz=>hb (by simp [z])) e
 done:=λs Q E st hQ=>alt_ hh st.1 st.2 (AG _) λh' he=>hQ h' s.toks λb o hb e=>he b o (λz=>hb (by simp [z])) e
 self:=λ_ _ _ _ st hQ=>wpAny_pyIter_keyiter st.1 hQ
theorem af3_{Q:Value->Shared->Prop}(hd:(d==sysModules)=false)(hm:RawD s.heap d es ep)
  (hQ:Q (.ref s.heap.objs.size) { s with heap:=s.heap.push { cls:=.type "dict_items",data:=.fields #[.ref d] } }):wpAny (model prog w) A (call (.builtin "dict.items") [.ref d]) Q E s:=by
 have hT:=hm.type
 refine wpAny_call_entry F.slot_dict_items hT F.entry_dict_items ?_ (F.args_dict_items_1 _)
 unfold Builtin.«dict.items»
 refine wpAny_bind ?_
 unfold Builtin.Dict.noArgs
 refine wpAny_bind (wpAny_notOrdered_dict hT (wpAny_pure ?_))
 show wpAny _ _ (Builtin.Dict.showsAll d>>=_) _ _ s
 unfold Builtin.Dict.showsAll
 rw[if_neg (by rw[hd];decide)]
 exact wpAny_bind (wpAny_pure (wpAny_bind (wpAny_newObj_type (wpAny_pure ⟨_,rfl,hQ⟩))))
theorem ad8_{v:Addr}{Q:Value->Shared->Prop}(hv:s.heap.IsItemsView v d)(hm:RawD s.heap d es ep)
  (hQ:Q (.ref s.heap.objs.size) { s with heap:=s.heap.push { cls:=.type "dict_itemiterator",data:=.fields #[.none,.bool false,.ref d,.int 0 0,.int es.size 0,.int ep 0,.none,.none] } }) :
  wpAny (model prog w) A (pyIter (.ref v)) Q E s:=by
 obtain⟨ov,hov,hcv,hdv⟩:=id hv
 obtain⟨o,ho,_,hdat⟩:=hm
 refine wpAny_pyIter_slot hv.typeIs EL (wpAny_call_entry EL hv.typeIs F.entry_dict_items_iter ?_ (F.args_dict_items_iter_1 _))
 unfold Builtin.«dict_items.__iter__»
 refine wpAny_bind (wpAny_pure (wpAny_bind ?_))
 unfold Builtin.Dict_items.dictOf
 refine wpAny_bind (wpAny_field hov hdv (x:=.ref d) rfl (wpAny_pure (wpAny_bind ?_)))
 unfold Builtin.Dict_items.newIterator
 refine wpAny_bind (wpAny_dictEntries ho hdat (wpAny_bind (wpAny_dictEpoch ho hdat ?_)))
 have own:Builtin.Dict_items.ownsTuple "dict_itemiterator" = true:=by decide
 simp only[own,if_true]
 refine wpAny_newObj_type (wpAny_pure ⟨_,rfl, "dict_itemiterator",_,⟨_,AM _ rfl,rfl⟩,Bv.lookup,?_⟩)
  (by simp only[sizeOk,Builtin.Dict_items.ownedTupleFields,AZ,AE,Am,B7,sizeLine_eq];lia)
 simpa [rawInt,Builtin.Dict_items.ownedTupleFields]using hQ
theorem afn_{ok ov:Value}{Q:Option Value->Shared->Prop}(hit:IsItemIter s.heap it d i es.size ep ok ov)(hm:RawD s.heap d es ep)(hi:i<es.size)
  (hQ:∀h',IsItemIterOut h' it d (i+1) es.size ep es[i].key es[i].val s.heap.objs.size->h'.get? s.heap.objs.size=some { cls:=.type "tuple",data:=.seq #[es[i].key,es[i].val] }->h'.objs.size=s.heap.objs.size+1 ->
   (∀b o,b≠it->s.heap.get? b=some o->h'.get? b=some o)->Q (some (.ref s.heap.objs.size)) { s with heap:=h' }):wpAny (model prog w) A (pyNext (.ref it)) Q E s:=by
 obtain⟨hp,g,dr,tk,os⟩:=s
 obtain⟨od,hod,_,hdd⟩:=hm
 have hT:Shared.TypeIs ⟨hp,g,dr,tk,os⟩ (.ref it) "dict_itemiterator" := ⟨_,hit,rfl⟩
 unfold pyNext
 refine wpAny_bind (wpAny_attempt (wpAny_callSpecial?_slot (name:=Str.ofString "__next__") hT Bv (wpAny_call_entry Bv hT DO ?_ (DK _))))
 refine wpAny_bind (wpAny_pure (wpAny_bind (wpAny_bind ?_)))
 first|refine wpAny_bind (wpAny_typeNameOfWhole_itemiter hT (wpAny_pure ?_))|refine wpAny_bind (wpAny_typeNameOf_itemiter hT (wpAny_pure ?_))
 refine wpAny_bind (wpAny_fieldsOf hit rfl ?_)
 have own:Builtin.Dict_items.ownsTuple "dict_itemiterator" = true:=by decide
 simp only[own,if_true]
 show wpAny _ _ (if (Value.ref d==Value.none)=true then _ else _) _ _ _
 rw[if_neg (show ¬ ((Value.ref d==Value.none)=true) from AV)]
 refine wpAny_bind (wpAny_pure (wpAny_bind (wpAny_dictEntries hod hdd ?_)))
 rw[if_neg (by simp)]
 refine wpAny_bind (wpAny_pure (wpAny_bind (wpAny_dictEpoch hod hdd ?_)))
 rw[if_neg (by simp)]
 refine wpAny_pure ?_
 simp only[show ¬ ((i:Int)<0) from by lia,if_false,An,AF hi]
 refine wpAny_bind ?_
 first|refine wpAny_bind (wpAny_typeNameOfWhole_itemiter hT (wpAny_pure ?_))|refine wpAny_bind (wpAny_typeNameOf_itemiter hT (wpAny_pure ?_))
 refine wpAny_bind (wpAny_isOneOf_itemiter hT ?_)
 show wpAny _ _ (setField (.ref it) 3 (rawInt ((i:Int)+1))>>=_) _ _ ⟨hp,g,dr,tk,os⟩
 refine wpAny_bind (wpAny_setField_rec hit (by simp) λh₁ he₁ hs₁=>?_)
 replace hs₁:Heap.SameBut it hp h₁:=hs₁
 replace he₁:IsItemIter h₁ it d (i+1) es.size ep ok ov:=by
  have e:((i+1:Nat):Int)=(i:Int)+1:=by lia
  unfold IsItemIter;rw[e];simpa [rawInt]using he₁
 have hT₁:Shared.TypeIs ⟨h₁,g,dr,tk,os⟩ (.ref it) "dict_itemiterator" := ⟨_,he₁,rfl⟩
 refine wpAny_bind (wpAny_holding (wpAny_bind (wpAny_isOneOf_itemiter hT₁ (wpAny_bind (wpAny_isOneOf_itemiter hT₁ ?_)))))
 show wpAny _ _ (Builtin.Dict_items.pairFromOwner (.ref it) 6 es[i].key es[i].val) _ _ ⟨h₁,g,dr,tk,os⟩
 unfold Builtin.Dict_items.pairFromOwner
 refine wpAny_bind (wpAny_newTuple ?_)
 have he₂:IsItemIter (h₁.push { cls:=.type "tuple",data:=.seq #[es[i].key,es[i].val] }) it d (i+1) es.size ep ok ov:=AB _ he₁
 generalize hh₂:h₁.push { cls:=.type "tuple",data:=.seq #[es[i].key,es[i].val] }=h₂ at he₂
 have hz₁:h₁.objs.size=hp.objs.size:=hs₁.1
 have hil:it<hp.objs.size:=AI hit
 have ht₂:h₂.get? hp.objs.size=some { cls:=.type "tuple",data:=.seq #[es[i].key,es[i].val] }:=by rw[<-hh₂,<-hz₁];exact AM _ rfl
 have hz₂:h₂.objs.size=hp.objs.size+1:=by rw[<-hh₂,BP,hz₁]
 have hk₂:∀b o,b≠it->hp.get? b=some o->h₂.get? b=some o:=λb o hb e=>by rw[<-hh₂];exact AB _ (hs₁.extBut b o hb e)
 show wpAny _ _ (Builtin.Dict_items.ownedTupleIsFree (.ref it)>>=_) _ _ ⟨h₂,g,dr,tk,os⟩
 rw[hz₁]
 clear hh₂ he₁ hs₁ hT₁ hz₁ h₁
 refine wpAny_bind ?_
 unfold Builtin.Dict_items.ownedTupleIsFree
 refine wpAny_bind (wpAny_field he₂ rfl (x:=.none) rfl (wpAny_pure ?_))
 simp only[if_true]
 refine wpAny_bind (wpAny_field he₂ rfl (x:=ok) rfl (wpAny_bind (wpAny_field he₂ rfl (x:=ov) rfl ?_)))
 refine wpAny_bind (wpAny_setField_rec he₂ (by simp) λh₃ he₃ hs₃=>?_)
 replace hs₃:Heap.SameBut it h₂ h₃:=hs₃
 replace he₃:IsItemIter h₃ it d (i+1) es.size ep es[i].key ov:=he₃
 refine wpAny_bind (wpAny_setField_rec he₃ (by simp) λh₄ he₄ hs₄=>?_)
 replace hs₄:Heap.SameBut it h₃ h₄:=hs₄
 replace he₄:IsItemIter h₄ it d (i+1) es.size ep es[i].key es[i].val:=he₄
 refine wpAny_bind (wpAny_setField_rec he₄ (by simp) λh₅ he₅ hs₅=>?_)
 replace hs₅:Heap.SameBut it h₄ h₅:=hs₅
 replace he₅:IsItemIterOut h₅ it d (i+1) es.size ep es[i].key es[i].val hp.objs.size:=he₅
 refine wpAny_bind (wpAny_setField_rec he₅ (by simp) λh₆ he₆ hs₆=>?_)
 replace hs₆:Heap.SameBut it h₅ h₆:=hs₆
 replace he₆:IsItemIterOut h₆ it d (i+1) es.size ep es[i].key es[i].val hp.objs.size:=he₆
 have up:∀b o,b≠it->h₂.get? b=some o->h₆.get? b=some o:=λb o hb e=>hs₆.extBut b o hb (hs₅.extBut b o hb (hs₄.extBut b o hb (hs₃.extBut b o hb e)))
 refine wpAny_bind (wpAny_letGo (wpAny_pure (wpAny_pure ⟨_,rfl,wpAny_pure (hQ h₆ he₆ (up _ _ (Ba hil) ht₂) ?_ λb o hb e=>up b o hb (hk₂ b o hb e))⟩)))
 show h₆.objs.size=hp.objs.size+1
 rw[hs₆.1,hs₅.1,hs₄.1,hs₃.1,hz₂]
theorem ail_{ok ov:Value}{Q:Option Value->Shared->Prop}(hh:A.handled=none)(hit:IsItemIter s.heap it d i es.size ep ok ov)(hm:RawD s.heap d es ep)(hi:es.size<=i)
  (hQ:∀h',Heap.ExtBut it s.heap h'->Q none { s with heap:=h' }):wpAny (model prog w) A (pyNext (.ref it)) Q E s:=by
 obtain⟨od,hod,_,hdd⟩:=hm
 have hT:s.TypeIs (.ref it) "dict_itemiterator" := ⟨_,hit,rfl⟩
 unfold pyNext
 refine wpAny_bind (wpAny_attempt (wpAny_callSpecial?_slot (name:=Str.ofString "__next__") hT Bv (wpAny_call_entry Bv hT DO ?_ (DK _))))
 refine wpAny_bind (wpAny_pure (wpAny_bind (wpAny_bind ?_)))
 first|refine wpAny_bind (wpAny_typeNameOfWhole_itemiter hT (wpAny_pure ?_))|refine wpAny_bind (wpAny_typeNameOf_itemiter hT (wpAny_pure ?_))
 refine wpAny_bind (wpAny_fieldsOf hit rfl ?_)
 have own:Builtin.Dict_items.ownsTuple "dict_itemiterator" = true:=by decide
 simp only[own,if_true]
 show wpAny _ _ (if (Value.ref d==Value.none)=true then _ else _) _ _ s
 rw[if_neg (show ¬ ((Value.ref d==Value.none)=true) from AV)]
 refine wpAny_bind (wpAny_pure (wpAny_bind (wpAny_dictEntries hod hdd ?_)))
 rw[if_neg (by simp)]
 refine wpAny_bind (wpAny_pure (wpAny_bind (wpAny_dictEpoch hod hdd ?_)))
 rw[if_neg (by simp)]
 refine wpAny_pure ?_
 simp only[show ¬ ((i:Int)<0) from by lia,if_false,An,Bp hi]
 refine wpAny_bind ?_
 first|refine wpAny_bind (wpAny_typeNameOfWhole_itemiter hT (wpAny_pure ?_))|refine wpAny_bind (wpAny_typeNameOf_itemiter hT (wpAny_pure ?_))
 show wpAny _ _ (setField (.ref it) 2 .none>>=_) _ _ s
 refine wpAny_bind (wpAny_setField hit rfl (by simp) ?_)
 show wpAny _ _ (newExc (.type "StopIteration") []>>=_) _ _ _
 refine wpAny_bind ?_
 simp only[newExc,newTuple]
 refine wpAny_bind (wpAny_newObj_type ?_ (by size_fits))
 refine wpAny_bind (m:=firstArgMember _ _) (wpAny_of_eq (a:=Value.none) (by first|rfl|(simp only[firstArgMember];rfl)) ?_)
 refine wpAny_newObj_type ?_ (by size_fits)
 simp only[raiseNew]
 refine wpAny_bind (wpAny_handled ?_)
 rw[show A.in1.handled=none from hh]
 refine wpAny_bind (wpAny_pure (wpAny_throw ?_))
 refine wpAny_bind (wpAny_isInstance (T := "StopIteration") (b:=true) ⟨_,AM _ rfl,rfl⟩ isSubtype_stop ?_)
 exact wpAny_pure (hQ _ (((CW ..).extBut.push _).push _))
end
end L2.Rw
namespace L2.Pl
abbrev Pw:=List Int
abbrev Mon:=List Int×Int
def lxl:Pw->Pw->Bool
 |[],[]=>false
 |[],_::_=>true
 |_::_,[]=>false
 |x::xs,y::ys=>if x=y then lxl xs ys else decide (x<y)
theorem zu_:∀a:Pw,lxl a a=false
 |[]=>rfl
 |x::xs=>by simp [lxl,zu_ xs]
theorem z8_:∀{a b c:Pw},lxl a b=true->lxl b c=true->lxl a c=true
 |[],[],c,h,_=>by simp [lxl]at h
 |[],_::_,[],_,h=>by simp [lxl]at h
 |[],_::_,_::_,_,_=>rfl
 |_::_,[],_,h,_=>by simp [lxl]at h
 |_::_,_::_,[],_,h=>by simp [lxl]at h
 |x::xs,y::ys,z::zs,h,q=>by
  simp only[lxl]at h q ⊢
  split at h
  ·rename_i e
   subst e
   split at q
   ·rename_i e
    subst e
    rw[if_pos rfl]
    exact z8_ h q
   ·rename_i e
    rw[if_neg e]
    exact q
  ·rename_i e
   have h':=of_decide_eq_true h
   split at q
   ·rename_i e2
    subst e2
    rw[if_neg e]
    exact h
   ·have q':=of_decide_eq_true q
    rw[if_neg (by lia)]
    exact decide_eq_true (by lia)
theorem jB_:∀{a b:Pw},lxl a b=false->lxl b a=false->a=b
 |[],[],_,_=>rfl
 |[],_::_,h,_=>by simp [lxl]at h
 |_::_,[],_,h=>by simp [lxl]at h
 |x::xs,y::ys,h,q=>by
  simp only[lxl]at h q
  by_cases e:x=y
  ·subst e
   rw[if_pos rfl]at h q
   rw[jB_ h q]
  ·rw[if_neg e]at h
   rw[if_neg (λz=>e z.symm)]at q
   have h':=of_decide_eq_false h
   have q':=of_decide_eq_false q
   lia
structure Lin{α:Type}(lt:α->α->Bool):Prop where
 irr:∀a,lt a a=false
 trans:∀{a b c},lt a b=true->lt b c=true->lt a c=true
 tri:∀{a b},lt a b=false->lt b a=false->a=b
theorem lin_lxl:Lin lxl:=⟨zu_,z8_,jB_⟩
def tlt(a b:Mon):Bool:=if a.1=b.1 then decide (a.2<b.2) else lxl a.1 b.1
theorem ak6_:Lin tlt where
 irr:=λa=>by simp [tlt]
 trans:=λ{a b c} h q=>by
  unfold tlt at h q ⊢
  by_cases e1:a.1=b.1
  ·rw[if_pos e1]at h
   by_cases e2:b.1=c.1
   ·rw[if_pos e2]at q
    rw[if_pos (e1.trans e2)]
    have:=of_decide_eq_true h
    have:=of_decide_eq_true q
    exact decide_eq_true (by lia)
   ·rw[if_neg e2]at q
    rw[if_neg (λz=>e2 (e1.symm.trans z)),e1]
    exact q
  ·rw[if_neg e1]at h
   by_cases e2:b.1=c.1
   ·rw[<-e2,if_neg e1]
    exact h
   ·rw[if_neg e2]at q
    have t:=z8_ h q
    rw[if_neg (λz=>by rw[z,zu_]at t;cases t)]
    exact t
 tri:=λ{a b} h q=>by
  unfold tlt at h q
  by_cases e:a.1=b.1
  ·rw[if_pos e]at h
   rw[if_pos e.symm]at q
   have:=of_decide_eq_false h
   have:=of_decide_eq_false q
   exact Dr e (by lia)
  ·rw[if_neg e]at h
   rw[if_neg (λz=>e z.symm)]at q
   exact absurd (jB_ h q) e
def xo_{α:Type}(lt:α->α->Bool)(l:List α)(a:α):Nat:=(l.filter (lt · a)).length
theorem xP_{α:Type}{lt:α->α->Bool}(L:Lin lt){l:List α}{a b:α}(ha:a∈l):lt a b=true↔xo_ lt l a<xo_ lt l b:=by
 constructor
 ·intro h
  unfold xo_
  have key:∀m:List α,(m.filter (lt · a)).length<=(m.filter (lt · b)).length/\(a∈m->(m.filter (lt · a)).length<(m.filter (lt · b)).length):=by
   intro m
   induction m with
   |nil=>simp
   |cons x m ih =>
    rw[Az,Az]
    by_cases c:lt x a=true
    ·rw[if_pos c,if_pos (L.trans c h)]
     simp only[Am]
     refine⟨by lia,λhm=>?_⟩
     rcases AJ.mp hm with e|hm
     ·subst e;rw[L.irr]at c;cases c
     ·have:=ih.2 hm;lia
    ·rw[if_neg c]
     by_cases c2:lt x b=true
     ·rw[if_pos c2]
      simp only[Am]
      exact⟨by lia,λ_=>by lia⟩
     ·rw[if_neg c2]
      refine⟨ih.1,λhm=>?_⟩
      rcases AJ.mp hm with e|hm
      ·subst e;exact absurd h c2
      ·exact ih.2 hm
  exact(key l).2 ha
 ·intro h
  cases c:lt a b with
  |true=>rfl
  |false =>
   exfalso
   have key:∀m:List α,(m.filter (lt · b)).length<=(m.filter (lt · a)).length:=by
    intro m
    induction m with
    |nil=>simp
    |cons x m ih =>
     rw[Az,Az]
     by_cases c1:lt x b=true
     ·have c2:lt x a=true:=by
       cases c3:lt x a with
       |true=>rfl
       |false =>
        cases c4:lt a x with
        |true =>
         rw[L.trans c4 c1]at c;cases c
        |false =>
         have e:=L.tri c3 c4
         subst e
         rw[c1]at c;cases c
      rw[if_pos c1,if_pos c2]
      simp only[Am]
      lia
     ·rw[if_neg c1]
      split
      ·simp only[Am];lia
      ·exact ih
   have:=key l
   unfold xo_ at h
   lia
def cf:List Mon->Pw->Int
 |[],_=>0
 |t::r,p=>(if t.1=p then t.2 else 0)+cf r p
theorem yf_(p:Pw):∀a b:List Mon,cf (a++b) p=cf a p+cf b p
 |[],b=>by simp [cf]
 |t::a,b=>by simp only[Dv,cf,yf_ p a b];lia
theorem adv_{a b:List Mon}(h:a.Perm b)(p:Pw):cf a p=cf b p:=by
 induction h with
 |nil=>rfl
 |cons x _ ih=>simp only[cf,ih]
 |swap x y l=>simp only[cf];lia
 |trans _ _ i1 i2=>exact i1.trans i2
theorem zZ_{p:Pw}:∀{l:List Mon},(∀t∈l,t.1≠p)->cf l p=0
 |[],_=>rfl
 |t::r,h=>by
  simp only[cf]
  rw[if_neg (h t (AD ..)),zZ_ λx hx=>h x (AC _ hx)]
  rfl
structure Canon(l:List Mon):Prop where
 ord:l.Pairwise λa b=>lxl b.1 a.1=true
 num:∀t∈l,t.2≠0
theorem Canon.tail{t:Mon}{l:List Mon}(h:Canon (t::l)):Canon l:=⟨(Ai.mp h.ord).2,λx hx=>h.num x (AC _ hx)⟩
theorem Canon.head{t:Mon}{l:List Mon}(h:Canon (t::l)):cf (t::l) t.1=t.2:=by
 have o:=(Ai.mp h.ord).1
 simp only[cf]
 rw[if_pos trivial,zZ_ λx hx e=>by have:=o x hx;rw[e,zu_]at this;cases this]
 lia
theorem Canon.above{l:List Mon}(h:Canon l){p:Pw}(q:∀t∈l,lxl t.1 p=true):cf l p=0:=zZ_ λt ht e=>by
 have:=q t ht
 rw[e,zu_]at this
 cases this
theorem yY_:∀{a b:List Mon},Canon a->Canon b->(∀p,cf a p=cf b p)->a=b
 |[],[],_,_,_=>rfl
 |[],t::b,_,hb,e=>by
  have:=e t.1
  rw[hb.head]at this
  exact absurd this.symm (hb.num t (AD ..))
 |t::a,[],ha,_,e=>by
  have:=e t.1
  rw[ha.head]at this
  exact absurd this (ha.num t (AD ..))
 |t::a,u::b,ha,hb,e=>by
  have oa:=(Ai.mp ha.ord).1
  have ob:=(Ai.mp hb.ord).1
  have k1:lxl t.1 u.1=false:=by
   cases c:lxl t.1 u.1 with
   |false=>rfl
   |true =>
    have z:=e u.1
    rw[hb.head,ha.above λx hx=>by
     rcases AJ.mp hx with rfl|hx
     ·exact c
     ·exact z8_ (oa x hx) c]at z
    exact absurd z.symm (hb.num u (AD ..))
  have k2:lxl u.1 t.1=false:=by
   cases c:lxl u.1 t.1 with
   |false=>rfl
   |true =>
    have z:=e t.1
    rw[ha.head,hb.above λx hx=>by
     rcases AJ.mp hx with rfl|hx
     ·exact c
     ·exact z8_ (ob x hx) c]at z
    exact absurd z (ha.num t (AD ..))
  have e1:t.1=u.1:=jB_ k1 k2
  have e2:t.2=u.2:=by
   have z:=e t.1
   rw[ha.head,e1,hb.head]at z
   exact z
  have e3:t=u:=Dr e1 e2
  subst e3
  rw[yY_ ha.tail hb.tail λp=>by
   have z:=e p
   simp only[cf]at z
   lia]
def ins(t:Mon):List Mon->List Mon
 |[]=>if t.2=0 then [] else [t]
 |u::r=>if t.1=u.1 then (if u.2+t.2=0 then r else (u.1,u.2+t.2)::r) else if lxl u.1 t.1=true then (if t.2=0 then u::r else t::u::r) else u::ins t r
theorem agl_(t:Mon)(p:Pw):∀l:List Mon,cf (ins t l) p=(if t.1=p then t.2 else 0)+cf l p
 |[]=>by
  unfold ins
  split
  ·rename_i h;simp [cf,h]
  ·simp [cf]
 |u::r=>by
  unfold ins
  split
  ·rename_i h
   split
   ·rename_i z
    simp only[cf]
    by_cases e:u.1=p
    ·rw[if_pos e,if_pos (h.trans e)];lia
    ·rw[if_neg e,if_neg (λq=>e (h.symm.trans q))];lia
   ·simp only[cf]
    by_cases e:u.1=p
    ·rw[if_pos e,if_pos e,if_pos (h.trans e)];lia
    ·rw[if_neg e,if_neg e,if_neg (λq=>e (h.symm.trans q))];lia
  ·split
   ·split
    ·rename_i z;rw[z];simp only[cf];split<;>lia
    ·simp only[cf]
   ·simp only[cf,agl_ t p r];lia
theorem vW_(t:Mon){q:Pw}:∀{l:List Mon},(∀x∈l,lxl x.1 q=true)->lxl t.1 q=true->∀x∈ins t l,lxl x.1 q=true
 |[],_,ht,x,hx=>by
  unfold ins at hx
  split at hx
  ·simp at hx
  ·rw[Af.mp hx];exact ht
 |u::r,h,ht,x,hx=>by
  have hr:∀x∈r,lxl x.1 q=true:=λy hy=>h y (AC _ hy)
  have hu:=h u (AD ..)
  unfold ins at hx
  split at hx
  ·split at hx
   ·exact hr x hx
   ·rcases AJ.mp hx with rfl|hx
    ·exact hu
    ·exact hr x hx
  ·split at hx
   ·split at hx
    ·exact h x hx
    ·rcases AJ.mp hx with rfl|hx
     ·exact ht
     ·exact h x hx
   ·rcases AJ.mp hx with rfl|hx
    ·exact hu
    ·exact vW_ t hr ht x hx
theorem aaf_(t:Mon):∀{l:List Mon},Canon l->Canon (ins t l)
 |[],_=>by
  unfold ins
  split
  ·exact⟨.nil,λx hx=>by simp at hx⟩
  ·rename_i h
   exact⟨C6 _ _,λx hx=>by rw[Af.mp hx];exact h⟩
 |u::r,h=>by
  obtain⟨o1,o2⟩:=Ai.mp h.ord
  have nr:∀x∈r,x.2≠0:=λx hx=>h.num x (AC _ hx)
  have nu:=h.num u (AD ..)
  unfold ins
  split
  ·split
   ·exact h.tail
   ·rename_i z
    refine⟨Ai.mpr ⟨o1,o2⟩,λx hx=>?_⟩
    rcases AJ.mp hx with rfl|hx
    ·exact z
    ·exact nr x hx
  ·rename_i ne
   split
   ·rename_i lt
    split
    ·exact h
    ·rename_i z
     refine⟨Ai.mpr ⟨λx hx=>?_,h.ord⟩,λx hx=>?_⟩
     ·rcases AJ.mp hx with rfl|hx
      ·exact lt
      ·exact z8_ (o1 x hx) lt
     ·rcases AJ.mp hx with rfl|hx
      ·exact z
      ·exact h.num x hx
   ·rename_i lt
    have c:=aaf_ t h.tail
    have tu:lxl t.1 u.1=true:=by
     cases k:lxl t.1 u.1 with
     |true=>rfl
     |false=>exact absurd (jB_ k (by simpa using lt)) ne
    refine⟨Ai.mpr ⟨λx hx=>vW_ t o1 tu x hx,c.ord⟩,λx hx=>?_⟩
    rcases AJ.mp hx with rfl|hx
    ·exact nu
    ·exact c.num x hx
def norm(ts:List Mon):List Mon:=ts.foldr ins []
theorem qP_:∀ts:List Mon,Canon (norm ts)
 |[]=>⟨.nil,λx hx=>by simp [norm]at hx⟩
 |t::r=>aaf_ t (qP_ r)
theorem zD_(p:Pw):∀ts:List Mon,cf (norm ts) p=cf ts p
 |[]=>rfl
 |t::r=>by
  show cf (ins t (norm r)) p=_
  rw[agl_,zD_ p r]
  rfl
theorem yt_{l ts:List Mon}(c:Canon l)(e:∀p,cf l p=cf ts p):l=norm ts:=yY_ c (qP_ ts) λp=>by rw[e,zD_]
theorem vd_{a b:List Mon}(e:∀p,cf a p=cf b p):norm a=norm b:=yY_ (qP_ a) (qP_ b) λp=>by rw[zD_,zD_,e]
theorem xF_{l:List Mon}(c:Canon l):norm l=l:=(yt_ c λ_=>rfl).symm
theorem qY_{ts:List Mon}{t:Mon}(h:t∈norm ts):∃u∈ts,u.1=t.1:=by
 have c:=qP_ ts
 have:cf (norm ts) t.1=t.2:=by
  have key:∀l:List Mon,Canon l->t∈l->cf l t.1=t.2:=by
   intro l
   induction l with
   |nil=>intro _ hm;simp at hm
   |cons u l ih =>
    intro c hm
    rcases AJ.mp hm with e|hm
    ·subst e;exact c.head
    ·have o:=(Ai.mp c.ord).1 t hm
     simp only[cf]
     rw[if_neg (λe=>by rw[e,zu_]at o;cases o),ih c.tail hm]
     lia
  exact key _ c h
 rw[zD_]at this
 false_or_by_contra
 rename_i n
 have z:cf ts t.1=0:=zZ_ λu hu e=>n ⟨u,hu,e⟩
 exact c.num t h (by lia)
theorem adn_(t:Mon):∀l:List Mon,(ins t l).length<=l.length+1
 |[]=>by unfold ins;split<;>simp
 |u::r=>by
  unfold ins
  split
  ·split
   ·simp;lia
   ·simp
  ·split
   ·split<;>simp
   ·have:=adn_ t r;simp;lia
theorem zy_:∀ts:List Mon,(norm ts).length<=ts.length
 |[]=>AG _
 |t::r=>by
  have h1:=adn_ t (norm r)
  have h2:=zy_ r
  show(ins t (norm r)).length<=r.length+1
  lia
def zC_(d:List Mon)(p:Pw):Option Int:=(d.find? λkv=>decide (kv.1=p)).map (·.2)
def xm_(d:List Mon)(p:Pw)(n:Int):List Mon:=if (d.any λkv=>decide (kv.1=p))=true then d.map (λkv=>if kv.1=p then (kv.1,n) else kv) else d++[(p,n)]
abbrev Nd(d:List Mon):Prop:=(d.map (·.1)).Nodup
theorem vs_:∀{d:List Mon},Nd d->∀p,(zC_ d p).getD 0=cf d p
 |[],_,p=>rfl
 |t::r,h,p=>by
  obtain⟨h1,h2⟩:=CH.mp (show(t.1::r.map (·.1)).Nodup from h)
  simp only[cf]
  by_cases e:t.1=p
  ·subst e
   have z:cf r t.1=0:=zZ_ λu hu e=>h1 (e▸Ae.mpr ⟨u,hu,rfl⟩)
   simp [zC_,Bt,z]
  ·have ih:=vs_ h2 p
   rw[if_neg e,<-ih]
   simp [zC_,Bt,e]
theorem aae_(d:List Mon)(p:Pw)(n:Int):(xm_ d p n).map (·.1)=if p∈d.map (·.1) then d.map (·.1) else d.map (·.1)++[p]:=by
 unfold xm_
 have ha:(d.any λkv=>decide (kv.1=p))=true↔p∈d.map (·.1):=by simp
 by_cases c:p∈d.map (·.1)
 ·rw[if_pos (ha.mpr c),if_pos c,CS]
  apply B3
  intro x _
  simp only[Function.comp]
  split<;>rfl
 ·rw[if_neg (λz=>c (ha.mp z)),if_neg c,Ao]
  rfl
theorem akz_{d:List Mon}(h:Nd d)(p:Pw)(n:Int):Nd (xm_ d p n):=by
 unfold Nd
 rw[aae_]
 split
 ·exact h
 ·rename_i c
  exact List.nodup_append.mpr ⟨h,by simp,λa ha b hb e=>by
   rw[Af.mp hb]at e
   exact c (e▸ha)⟩
theorem akl_{d:List Mon}(h:Nd d)(p:Pw)(n:Int)(q:Pw):cf (xm_ d p n) q=if p=q then n else cf d q:=by
 unfold xm_
 by_cases c:(d.any λkv=>decide (kv.1=p))=true
 ·rw[if_pos c]
  have key:∀l:List Mon,Nd l->(l.any λkv=>decide (kv.1=p))=true->cf (l.map λkv=>if kv.1=p then (kv.1,n) else kv) q=if p=q then n else cf l q:=by
   intro l
   induction l with
   |nil=>intro _ z;simp at z
   |cons t r ih =>
    intro hn ha
    obtain⟨h1,h2⟩:=CH.mp (show(t.1::r.map (·.1)).Nodup from hn)
    rw[Aa]
    by_cases e:t.1=p
    ·subst e
     have same:(r.map λkv=>if kv.1=t.1 then (kv.1,n) else kv)=r:=by
      conv=>rhs;rw[<-EM r]
      apply B3
      intro x hx
      have ne:¬ x.1=t.1:=λe=>h1 (by rw[<-e];exact Ae.mpr ⟨x,hx,rfl⟩)
      rw[if_neg ne]
      rfl
     rw[if_pos rfl,same]
     simp only[cf]
     by_cases e2:t.1=q
     ·rw[if_pos e2,if_pos e2]
      have z:cf r q=0:=zZ_ λu hu e=>h1 (by rw[e2,<-e];exact Ae.mpr ⟨u,hu,rfl⟩)
      lia
     ·rw[if_neg e2,if_neg e2,if_neg e2]
    ·have ha':(r.any λkv=>decide (kv.1=p))=true:=by simpa [CC,e]using ha
     rw[if_neg e]
     simp only[cf]
     rw[ih h2 ha']
     by_cases e2:p=q
     ·rw[if_pos e2,if_neg (λz=>e (z.trans e2.symm)),if_pos e2];lia
     ·rw[if_neg e2,if_neg e2]
  exact key d h c
 ·rw[if_neg c,yf_]
  simp only[cf]
  by_cases e:p=q
  ·subst e
   rw[if_pos rfl,if_pos rfl]
   have z:cf d p=0:=zZ_ λu hu e=>c (List.any_eq_true.mpr ⟨u,hu,decide_eq_true e⟩)
   lia
  ·rw[if_neg e,if_neg e];lia
def q1_(ts:List Mon):List Mon:=ts.foldl (λd t=>xm_ d t.1 ((zC_ d t.1).getD 0+t.2)) []
theorem jv_(ts:List Mon)(t:Mon):q1_ (ts++[t])=xm_ (q1_ ts) t.1 ((zC_ (q1_ ts) t.1).getD 0+t.2):=by
 unfold q1_;rw[B9];rfl
theorem jp_{α:Type}{P:List α->Prop}(h0:P [])(hs:∀l x,P l->P (l++[x])):∀l,P l:=by
 intro l
 rw[<-Cj l]
 induction l.reverse with
 |nil=>exact h0
 |cons x l ih=>rw[Do];exact hs _ _ ih
theorem xR_:∀ts:List Mon,Nd (q1_ ts):=jp_ (by simp [q1_,Nd]) λl t h=>by rw[jv_];exact akz_ h _ _
theorem vI_(q:Pw):∀ts:List Mon,cf (q1_ ts) q=cf ts q:=jp_ rfl λl t h=>by
 rw[jv_,akl_ (xR_ l),yf_,vs_ (xR_ l)]
 simp only[cf]
 by_cases e:t.1=q
 ·rw[if_pos e,if_pos e,e,h];lia
 ·rw[if_neg e,if_neg e,h];lia
theorem ahk_(d:List Mon)(p:Pw)(n:Int):(xm_ d p n).length<=d.length+1:=by
 unfold xm_
 split<;>simp
theorem x1_:∀ts:List Mon,(q1_ ts).length<=ts.length:=jp_ (AG _) λl t h=>by
 rw[jv_]
 have:=ahk_ (q1_ l) t.1 ((zC_ (q1_ l) t.1).getD 0+t.2)
 simp
 lia
theorem ai9_{p:Pw}:∀ts:List Mon,p∈(q1_ ts).map (·.1)->p∈ts.map (·.1):=jp_ (by simp [q1_]) λl t h hp=>by
 rw[jv_,aae_]at hp
 rw[Ao]
 split at hp
 ·exact Aw _ (h hp)
 ·rcases Ak.mp hp with z|z
  ·exact Aw _ (h z)
  ·exact Al _ (by rw[Af.mp z];simp)
theorem af5_{d:List Mon}{p:Pw}(h:p∈d.map (·.1)):∃n,zC_ d p=some n:=by
 obtain⟨x,hx,e⟩:=Ae.mp h
 unfold zC_
 cases c:d.find? λkv=>decide (kv.1=p) with
 |none=>exact absurd (decide_eq_true e) (by simpa using List.find?_eq_none.mp c x hx)
 |some y=>exact⟨y.2,rfl⟩
theorem xX_(p:Pw):∀l:List Mon,cf (l.filter λt=>decide (t.2≠0)) p=cf l p
 |[]=>rfl
 |t::r=>by
  rw[Az]
  by_cases c:t.2≠0
  ·rw[if_pos (decide_eq_true c)]
   simp only[cf,xX_ p r]
  ·rw[if_neg (by simpa using c)]
   simp only[cf,xX_ p r]
   split<;>lia
theorem ah1_{ts l:List Mon}(hp:l.Perm ((q1_ ts).filter λt=>decide (t.2≠0)))(ho:l.Pairwise λa b=>tlt a b=false):l=norm ts:=by
 refine yt_ ⟨?_,λt ht=>?_⟩ λp=>?_
 ·have nd:(l.map (·.1)).Nodup:=((hp.map (·.1)).nodup_iff).mpr ((xR_ ts).sublist (Em.map _))
  rw[List.Nodup,CA]at nd
  refine(ES.mpr ⟨ho,nd⟩).imp λ{a b} h=>?_
  obtain⟨h1,h2⟩:=h
  unfold tlt at h1
  rw[if_neg h2]at h1
  cases c:lxl b.1 a.1 with
  |true=>rfl
  |false=>exact absurd (jB_ h1 c) h2
 ·have:=(Bq.mp (hp.mem_iff.mp ht)).2
  simpa using this
 ·rw[adv_ hp,xX_,vI_]
theorem akc_{ts:List Mon}{ks:List Pw}(hp:ks.Perm ((q1_ ts).map (·.1)))(ho:ks.Pairwise λa b=>lxl a b=false) :
  (ks.filter λk=>decide ((zC_ (q1_ ts) k).getD 0≠0)).map (λk=>(k,(zC_ (q1_ ts) k).getD 0))=norm ts:=by
 have nd:ks.Nodup:=(hp.nodup_iff).mpr (xR_ ts)
 have so:ks.Pairwise λa b=>lxl b a=true:=(ES.mpr ⟨ho,nd⟩).imp λ{a b} h=>by
  cases c:lxl b a with
  |true=>rfl
  |false=>exact absurd (jB_ h.1 c) h.2
 have g:∀p,(zC_ (q1_ ts) p).getD 0=cf ts p:=λp=>by rw[vs_ (xR_ ts),vI_]
 have e:(ks.filter λk=>decide ((zC_ (q1_ ts) k).getD 0≠0)).map (λk=>(k,(zC_ (q1_ ts) k).getD 0))=(ks.filter λk=>decide (cf ts k≠0)).map λk=>(k,cf ts k):=by
  simp only[g]
 rw[e]
 refine yt_ ⟨?_,λt ht=>?_⟩ λp=>?_
 ·rw[CA]
  exact so.sublist Em
 ·obtain⟨k,hk,rfl⟩:=Ae.mp ht
  simpa using (Bq.mp hk).2
 ·have key:∀l:List Pw,l.Nodup->cf ((l.filter λk=>decide (cf ts k≠0)).map λk=>(k,cf ts k)) p=if p∈l then cf ts p else 0:=by
   intro l
   induction l with
   |nil=>intro _;rfl
   |cons a l ih =>
    intro hn
    obtain⟨h1,h2⟩:=CH.mp hn
    have ih':=ih h2
    rw[Az]
    by_cases c:cf ts a≠0
    ·rw[if_pos (decide_eq_true c),Aa]
     simp only[cf]
     rw[ih']
     by_cases e:a=p
     ·subst e
      rw[if_pos rfl,if_neg h1,if_pos (AD ..)];lia
     ·rw[if_neg e]
      by_cases m:p∈l
      ·rw[if_pos m,if_pos (AC _ m)];lia
      ·rw[if_neg m,if_neg (λz=>(AJ.mp z).elim (λq=>e q.symm) m)];lia
    ·rw[if_neg (by simpa using c),ih']
     have c':cf ts a=0:=by lia
     by_cases e:a=p
     ·subst e
      rw[if_neg h1,if_pos (AD ..),c']
     ·by_cases m:p∈l
      ·rw[if_pos m,if_pos (AC _ m)]
      ·rw[if_neg m,if_neg (λz=>(AJ.mp z).elim (λq=>e q.symm) m)]
  rw[key ks nd]
  by_cases m:p∈ks
  ·rw[if_pos m]
  ·rw[if_neg m,<-vI_ p ts]
   exact(zZ_ λu hu e=>m (hp.mem_iff.mpr (Ae.mpr ⟨u,hu,e⟩))).symm
end L2.Pl
namespace L2.Ev
open PySem PySem.Spec PyProof.Rows
open L2.Ts L2.Pl
theorem ajk_:∀a b:List Int,HT.lexLt a b=lxl a b
 |[],[]=>by rw[HT.lexLt_nil_nil];rfl
 |[],_::_=>by rw[HT.lexLt_nil_cons];rfl
 |_::_,[]=>by rw[HT.lexLt_cons_nil];rfl
 |x::xs,y::ys=>by
  rw[HT.lexLt_cons]
  simp only[lxl]
  split
  ·exact ajk_ xs ys
  ·rfl
section
variable{prog:Program}{w:World}{A:Around}{E:Value->Shared->Prop}{s:Shared}{b fin:Bool}{Q:Bool->Shared->Prop}
theorem abq_:∀{vs ws:List Value}{ns ms:List Int}{i:Nat},IntsAre vs ns->IntsAre ws ms->(fin=decide (ns.length<ms.length))->Q (lxl ns ms) s->PySem.W.KatLex prog w A b fin Q (vs.zip ws) i s
 |[],[],_,_,i,.nil,.nil,e,q=>by
  subst e
  exact DP q
 |[],_::_,_,_,i,.nil,.cons _ _ _,e,q=>by
  subst e
  refine DP ?_
  simpa [lxl]using q
 |_::_,[],_,_,i,.cons _ _ _,.nil,e,q=>by
  subst e
  refine DP ?_
  simpa [lxl]using q
 |_,_,_,_,i,.cons a t hv,.cons c u hw,e,q=>by
  rw[Cz]
  simp only[lxl]at q
  obtain⟨eq,he,hiff⟩:=HT.eqAt_int A s a t c u
  refine Dw (he prog w _ _ ?_)
  cases eq with
  |true =>
   rw[if_pos (hiff.mp rfl)]at q
   refine ED (abq_ hv hw ?_ q)
   rw[e]
   simp
  |false =>
   rw[if_neg (λz=>absurd (hiff.mpr z) AV)]at q
   refine ET ?_
   cases hb:(b&&i==0) with
   |true=>exact oneLt_int q
   |false =>
    refine EE _ _ ?_
    exact DU q
end
section
variable{X:Cx}{pins:List (Addr×Obj)}{σ:St}{H:Hp}{s:Shared}
class Srtd (α:Type) [D:Dat α] where
 lt:α->α->Bool
 lin:Lin lt
 plain:Bool
 ok:α->Prop
 first:∀{X:Cx}{pins:List (Addr×Obj)}{σ:St}{H:Hp}{s:Shared}{v:V}{a:α},Inv X pins σ H s->D.is H v a->ok a ->
  ∃(p:Addr)(o:Obj)(xs:Array Value)(n:Nat)(f:Value),RelV v (.ref p)/\s.heap.get? p=some o/\o.cls=.type "tuple" /\ o.data=.seq xs n/\xs[0]?=some f/\PySem.W.Looks (model X.prog X.w) s.heap (typeOf f) (if plain=true then .type "int" else .type "tuple")
 asks:∀{X:Cx}{pins:List (Addr×Obj)}{σ:St}{H:Hp}{s:Shared}{A:Around}{v v':V}{u u':Value}{a b:α},Inv X pins σ H s->A.units+4<cLine->D.is H v a->D.is H v' b->ok a->ok b->RelV v u->RelV v' u' ->
  ∀Q:Bool->Shared->Prop,Q (lt a b) s->wpAny (model X.prog X.w) A (keyLt' (tuples' plain) u u') Q (λ_ _=>False) s
theorem zG_{H:Hp}{v:V}{r:List Int}(h:Dat.is H v r):∃p,v=.ref p/\H p=some (.tup (r.map V.int)):=by
 obtain⟨p,vs,e,q,i⟩:=h
 have ei:∀{vs:List V}{ns:List Int},Its H vs ns->vs=ns.map V.int:=by
  intro vs ns i
  induction i with
  |nil=>rfl
  |cons r t ih=>rw[Aa,<-ih];exact congrArg (· :: _) r
 rw[ei i]at q
 exact⟨p,e,q⟩
theorem z7_{H:Hp}{p:Addr}{r:List Int}(h:H p=some (.tup (r.map V.int))):Dat.is H (.ref p) r:=by
 have ei:∀ns:List Int,Its H (ns.map V.int) ns:=by
  intro ns
  induction ns with
  |nil=>exact .nil
  |cons n r ih=>exact .cons rfl ih
 exact⟨p,_,rfl,h,ei r⟩
theorem jQ_{a:Addr}{xs:List V}(I:Inv X pins σ H s)(h:H a=some (.tup xs)):∃(o:Obj)(its:List Value)(n:Nat),s.heap.get? a=some o/\o.cls=.type "tuple" /\ o.data=.seq its.toArray n/\Vals xs its:=by
 obtain⟨its,rv,ht,_⟩:=I.tuple (SqT.of h)
 obtain⟨o,ho,hc,n,hd⟩:=ht
 exact⟨o,its,n,ho,hc,hd,rv⟩
instance srtList:Srtd (List Int) where
 lt:=lxl
 lin:=lin_lxl
 plain:=true
 ok:=λa=>a≠[]
 first:=λ{X pins σ H s v a} I h ok=>by
  obtain⟨p,rfl,hp⟩:=zG_ h
  obtain⟨o,its,n,ho,hc,hd,rv⟩:=jQ_ I hp
  cases a with
  |nil=>exact absurd rfl ok
  |cons x a =>
   rw[Aa]at rv
   cases rv with
   |cons r t =>
    obtain⟨tk,rfl⟩:=r
    exact⟨p,o,_,n,_,rfl,ho,hc,hd,rfl,PySem.W.Looks.of_pure rfl⟩
 asks:=λ{X pins σ H s A v v' u u' a b} I hu h h' ok ok' r r' Q q=>by
  obtain⟨p,rfl,hp⟩:=zG_ h
  obtain⟨p',rfl,hp'⟩:=zG_ h'
  obtain⟨o,its,n,ho,hc,hd,rv⟩:=jQ_ I hp
  obtain⟨o',its',n',ho',hc',hd',rv'⟩:=jQ_ I hp'
  cases r
  cases r'
  refine PySem.W.kat_lt ho hd ho' hd' (abq_ (zr_ rv) (zr_ rv') ?_ q)
  have l1:=rv.length
  have l2:=rv'.length
  simp only[AA]at l1 l2
  simp only[AZ]
  rw[l1,l2]
instance srtTm:Srtd (List Int×Int) where
 lt:=tlt
 lin:=ak6_
 plain:=false
 ok:=λ_=>True
 first:=λ{X pins σ H s v a} I h ok=>by
  obtain⟨p,x,y,rfl,hp,hx,hy⟩:=h
  obtain⟨o,its,n,ho,hc,hd,rv⟩:=jQ_ I hp
  obtain⟨p2,rfl,hp2⟩:=zG_ hx
  obtain⟨o2,its2,n2,ho2,hc2,hd2,rv2⟩:=jQ_ I hp2
  obtain⟨w1,w2,rfl,r1,r2⟩:=jE_ rv
  cases r1
  refine⟨p,o,_,n,_,rfl,ho,hc,hd,rfl,?_⟩
  rw[if_neg (by decide),<-hc2]
  exact(PySem.W.Looks.ld ho2).andThen .now
 asks:=λ{X pins σ H s A v v' u u' a b} I hu h h' ok ok' r r' Q q=>by
  obtain⟨p,x,y,rfl,hp,hx,hy⟩:=h
  obtain⟨p',x',y',rfl,hp',hx',hy'⟩:=h'
  obtain⟨o,its,n,ho,hc,hd,rv⟩:=jQ_ I hp
  obtain⟨o',its',n',ho',hc',hd',rv'⟩:=jQ_ I hp'
  cases r
  cases r'
  obtain⟨w1,w2,rfl,r1,r2⟩:=jE_ rv
  obtain⟨z1,z2,rfl,t1,t2⟩:=jE_ rv'
  refine PySem.W.kat_lt ho hd ho' hd' ?_
  show PySem.W.KatLex _ _ _ _ _ _ [(w1,z1),(w2,z2)] 0 s
  have e1:=Dat.eqAt (A:=A) I (by show A.units+(0+1)<cLine;omega) hx hx' r1 t1
  refine Dw (e1 _ _ _ _ ?_)
  unfold tlt at q
  cases c:Dat.eqb a.1 b.1 with
  |true =>
   have e:=(Dat.eqb_iff a.1 b.1).mp c
   rw[if_pos e]at q
   refine ED ?_
   have hy2:y=.int a.2:=hy
   have hy2':y'=.int b.2:=hy'
   subst hy2 hy2'
   obtain⟨k1,rfl⟩:=r2
   obtain⟨k2,rfl⟩:=t2
   obtain⟨eq,he,hiff⟩:=HT.eqAt_int A s a.2 k1 b.2 k2
   refine Dw (he _ _ _ _ ?_)
   cases eq with
   |true =>
    have e2:=hiff.mp rfl
    rw[decide_eq_false (by omega)]at q
    refine ED (DP ?_)
    simpa using q
   |false =>
    refine ET (EE _ _ ?_)
    exact DU q
  |false =>
   have e:¬ a.1=b.1:=λz=>by rw[(Dat.eqb_iff a.1 b.1).mpr z]at c;cases c
   rw[if_neg e]at q
   refine ET (EE _ _ ?_)
   obtain⟨p2,rfl,hp2⟩:=zG_ hx
   obtain⟨p2',rfl,hp2'⟩:=zG_ hx'
   cases r1
   cases t1
   obtain⟨its,r1,q1,_⟩:=I.tuple (SqT.of hp2)
   obtain⟨its2,r2,q2,_⟩:=I.tuple (SqT.of hp2')
   have i1:IntsAre its.toArray.toList a.1:=zr_ r1
   have i2:IntsAre its2.toArray.toList b.1:=zr_ r2
   refine HT.lt_tupInts q1 q2 i1 i2 (by omega) ?_
   rw[ajk_]
   exact q
end
end L2.Ev
namespace L2.Ts
open PySem PyProof.Rows
section
variable{prog:Program}{w:World}{A:Around}{E:Value->Shared->Prop}{s:Shared}{κ:SortKind}{M:Keyed->Prop}{rk:Keyed->Nat}
theorem aby_(vs:List Value):(vs.zip vs).map (·.2)=vs:=List.map_snd_zip (AG _)
theorem afv_{a:Addr}{vs:List Value}{n:Nat}{P:PySem.Fin->Shared->Prop}(ho:s.heap.get? a=some (seqObj "list" vs.toArray n))(hz:vs.length<=sizeLine)(hM:∀v∈vs,M (v,v))
  (hk:∀h',(∀b o,b≠a->s.heap.get? b=some o->h'.get? b=some o)->2<=vs.length->(∀(Q:SortKind->Shared->Prop)(E':Value->Shared->Prop),Q κ { s with heap:=h' }->wpAny (model prog w) A (keyKind' vs.toArray) Q E' { s with heap:=h' })/\Ask prog w A { s with heap:=h' } κ M rk)
  (h:∀out:List Value,out.Perm vs->(out.Pairwise λx y=>rk (y,y)<=rk (x,x))->P (.done (.ret .none)) { s with heap:=sortedHeap s.heap a vs out.toArray }) :
  wpAny (model prog w) A (Builtin.«list.sort» ⟨[.ref a],[(Str.ofString "reverse",.bool true)]⟩) P E s:=by
 rw[list_sort_rev]
 have ha:a<s.heap.objs.size:=AI ho
 have hsz:vs.toArray.size=vs.length:=by simp
 refine wpAny_bind (listItems_at ho rfl (wpAny_bind (listUpdate_at ho rfl ?_ (by rw[hsz];exact hz) (by simp))))
 obtain⟨e1,ho1⟩:∃e1,(s.heap.update a (Obj.mapSeq λ_=>#[])).get? a=some (seqObj "list" #[] e1):=⟨_,get?_update_seq ho (λ_=>#[])⟩
 refine wpAny_bind (seqEpoch_at ho1 rfl (wpAny_bind (wpAny_newTuple ?_ (by simpa using hz))))
 refine wpAny_bind (wpAny_newList (wpAny_holding ?_))
 have ho6:(((s.heap.update a (Obj.mapSeq λ_=>#[])).push (seqObj "tuple" vs.toArray 0)).push (seqObj "list" #[] 0)).get? a=some (seqObj "list" #[] e1):=by
  rw[Heap.get?_push_ne _ _ _ (by rw[size_push',DF];exact Ag (Nat.lt_succ_of_lt ha)),Heap.get?_push_ne _ _ _ (by rw[DF];exact Ag ha)]
  exact ho1
 have keep:∀b o,b≠a->s.heap.get? b=some o->(((s.heap.update a (Obj.mapSeq λ_=>#[])).push (seqObj "tuple" vs.toArray 0)).push (seqObj "list" #[] 0)).get? b=some o:=λb o hb e =>
  AB _ (AB _ ((BG _ _ (B2 hb)).trans e))
 show wpAny (model prog w) A _ P E { s with heap:=((s.heap.update a (Obj.mapSeq λ_=>#[])).push (seqObj "tuple" vs.toArray 0)).push (seqObj "list" #[] 0) }
 dsimp only
 simp only[if_true]
 refine wpAny_bind (wpAny_rule ?_)
 by_cases h2:vs.toArray.size<2
 ·rw[if_pos h2,if_pos h2]
  refine wpAny_bind (wpAny_pure ?_)
  rw[StateT.run_pure]
  refine wpAny_bind (wpAny_pure ?_)
  dsimp only
  have eo:((arrOf (SortSt.mk' general' (vs.toArray.zip vs.toArray).reverse #[] 7 none)).map (·.2)).reverse=vs.toArray:=by
   show((vs.toArray.zip vs.toArray).reverse.map (·.2)).reverse=vs.toArray
   apply Array.ext'
   simp only[B8,Array.toList_map,Array.toList_zip,List.map_reverse,Cj]
   exact aby_ vs
  refine wpAny_bind (seqEpoch_at ho6 rfl (wpAny_bind (listUpdate_at ho6 rfl ?_ (by simp) ?_)))
  ·simp only[bne_self_eq_false,BA,if_false]
   refine wpAny_pure ?_
   have q:=h vs (List.Perm.refl _) (by
    match vs,hsz,h2 with
    |[],_,_=>exact .nil
    |[x],_,_=>exact C6 _ _
    |_::_::_,_,h2=>exfalso;simp at h2;lia)
   unfold sortedHeap at q
   rw[eo]
   exact q
  ·rw[eo,hsz];lia
 ·rw[if_neg h2,if_neg h2]
  obtain⟨k1,k2⟩:=hk _ keep (by lia)
  refine wpAny_bind (k1 _ _ ?_)
  have all:All M (arrOf (SortSt.mk' κ (vs.toArray.zip vs.toArray).reverse #[] 7 none)):=λi p hp=>by
   have hm:p∈(vs.toArray.zip vs.toArray).reverse:=EQ hp
   have hm2:p∈vs.zip vs:=by
    have:p∈(vs.toArray.zip vs.toArray).toList:=by simpa using Array.mem_reverse.mp hm
    simpa using this
   obtain⟨e,m⟩:=mem_zip_self hm2
   have:p=(p.1,p.1):=Dr rfl e.symm
   rw[this]
   exact hM _ m
  have z0:(arrOf (SortSt.mk' κ (vs.toArray.zip vs.toArray).reverse #[] 7 none)).size=vs.length:=by
   show(vs.toArray.zip vs.toArray).reverse.size=vs.length
   simp
  refine wpAny_bind (wpAny_mono (alc_ k2 (st:=SortSt.mk' κ (vs.toArray.zip vs.toArray).reverse #[] 7 none) (Q:=λ_ st'=>(arrOf st').Perm (vs.toArray.zip vs.toArray).reverse/\failedOf st'=none/\Srt rk (arrOf st') 0 vs.length) rfl all rfl rfl (by rw[z0];lia)
   λst' a1 a2 a3=>⟨a1,a2,by rw[z0]at a3;exact a3⟩) ?_ λ_ _ e=>e)
  rintro⟨⟨⟩,st'⟩ s' ⟨rfl,hp,hf,hs⟩
  dsimp only
  have zs:(arrOf st').size=vs.length:=by rw[hp.size_eq];exact z0
  have lp:(arrOf st').toList.Perm (vs.zip vs):=by
   have:=Dk.mp hp
   rw[B8]at this
   exact this.trans ((List.reverse_perm _).trans (List.Perm.of_eq (by simp)))
  have eo:((arrOf st').map (·.2)).reverse=(((arrOf st').toList.map (·.2)).reverse).toArray:=by
   apply Array.ext'
   simp
  refine wpAny_bind (seqEpoch_at ho6 rfl (wpAny_bind (listUpdate_at ho6 rfl ?_ (by simp) ?_)))
  ·rw[hf]
   simp only[bne_self_eq_false,BA,if_false]
   refine wpAny_pure ?_
   have q:=h (((arrOf st').toList.map (·.2)).reverse) ?_ ?_
   ·unfold sortedHeap at q
    rw[eo]
    exact q
   ·have:=lp.map (·.2)
    rw[aby_]at this
    exact(List.reverse_perm _).trans this
   ·rw[List.pairwise_reverse,CA]
    refine Bf.mpr λi j hi hj hij=>?_
    have li:i<(arrOf st').size:=by simpa using hi
    have lj:j<(arrOf st').size:=by simpa using hj
    have q:=hs i j (Ap _) (Bj hij) (by lia)
    rw[qC_ (AF li),qC_ (AF lj)]at q
    have twin:∀p∈(arrOf st').toList,p=(p.2,p.2):=λp m=>Dr (mem_zip_self (lp.mem_iff.mp m)).1 rfl
    have ei:=twin (arrOf st').toList[i] (CT _)
    have ej:=twin (arrOf st').toList[j] (CT _)
    rw[<-ei,<-ej]
    simpa using q
  ·rw[Array.size_reverse,Array.size_map,zs];lia
theorem yF_{r:Addr}{vs:List Value}{Q:Value->Shared->Prop}(hz:vs.length<=sizeLine)(hM:∀v∈vs,M (v,v))
  (hc:∀(Q':List Value->Shared->Prop),(∀h' tk,(∀b o,s.heap.get? b=some o->h'.get? b=some o)->s.heap.objs.size<=h'.objs.size->Q' vs { s with heap:=h',toks:=tk })->wpAny (model prog w) A.in1 (collect (.ref r)) Q' E s)
  (hk:∀h' tk,(∀b o,s.heap.get? b=some o->h'.get? b=some o)->2<=vs.length->(∀(Q':SortKind->Shared->Prop)(E':Value->Shared->Prop),Q' κ { s with heap:=h',toks:=tk }->wpAny (model prog w) A.in1.in1 (keyKind' vs.toArray) Q' E' { s with heap:=h',toks:=tk })/\Ask prog w A.in1.in1 { s with heap:=h',toks:=tk } κ M rk)
  (h:∀h' tk D e (out:List Value),out.Perm vs->(out.Pairwise λx y=>rk (y,y)<=rk (x,x))->(∀b o,s.heap.get? b=some o->h'.get? b=some o)->s.heap.objs.size<=D->h'.get? D=some (seqObj "list" out.toArray e)->Q (.ref D) { s with heap:=h',toks:=tk }) :
  wpAny (model prog w) A (call (.builtin "sorted") [.ref r] [(Str.ofString "reverse",.bool true)]) Q E s:=by
 refine call_function_entry_kw kind_sorted plain_sorted entry_sorted (args_sorted_rev _ _) ?_
 unfold Builtin.«sorted»
 refine wpAny_bind (m:=checkCount "sorted" 1 1 _) (wpAny_pure ?_)
 refine wpAny_bind (hc _ λh' tk kp sz=>?_)
 refine wpAny_bind (wpAny_newList ?_ hz)
 have hoL:(h'.push (seqObj "list" vs.toArray 0)).get? h'.objs.size=some (seqObj "list" vs.toArray 0):=AM _ rfl
 have lt:∀b o,s.heap.get? b=some o->b<h'.objs.size:=λb o e=>AI (kp b o e)
 refine wpAny_bind (wpAny_holding (wpAny_call_entry_kw slot_list_sort ⟨_,hoL,rfl⟩ entry_list_sort (afv_ (s:={ s with heap:=h'.push (seqObj "list" vs.toArray 0),toks:=tk }) (κ:=κ) (M:=M) (rk:=rk) hoL hz hM (λh2 k2 l2=>?_) λout p o=>⟨_,rfl,?_⟩) (args_list_sort_rev _ _)))
 ·exact hk h2 tk (λb o e=>k2 b o (Ag (lt b o e)) (AB _ (kp b o e))) l2
 ·obtain⟨c,hc'⟩:=sortedHeap_at (vs:=vs) (out:=out.toArray) hoL
  refine wpAny_pure ⟨_,rfl,h _ tk h'.objs.size c out p o (λb o e=>?_) sz hc'⟩
  have ne:b≠h'.objs.size:=Ag (lt b o e)
  unfold sortedHeap
  refine(BG _ _ (B2 ne)).trans (AB _ (AB _ ((BG _ _ (B2 ne)).trans (AB _ (kp b o e)))))
end
end L2.Ts
namespace L2.Rw
open PySem PySem.W PySem.Calls PyProof.Rows PySem.Spec
section
variable{prog:Program}{w:World}{A:Around}{E:Value->Shared->Prop}{s:Shared}{d:Addr}{es:Array DictEntry}{ep:Nat}
theorem ac8_(lo:(d==sysModules)=false):KdlSrc prog w "dict" d d es.size (λi v=>∃h:i<es.size,v=es[i].key) (λh=>RawD h d es ep) where
 type:=λ_ hm=>hm.type
 there:=λ_ hm=>⟨hm.lt,hm.lt⟩
 keep:=λ_ _ hm hk=>hm.keep λo e=>hk d (.inl rfl) o e
 notList:=by decide
 notTuple:=by decide
 hint:=λ_ _ _ _ hm hq=>kdl_hint_dict hm.type hq
 iter:=λ_ _ hh hm=>⟨_,_,(λ_ _ hq=>ai1_ lo hm hq),afh_ hh _ d (Ag hm.lt) es ep,⟨⟨_,AM _ rfl,rfl,rfl⟩,hm.keep λo e=>AB _ e⟩⟩
theorem ace_{T:String}{r:Addr}{n:Nat}{P:Nat->Value->Prop}{OK:Heap->Prop}{Q:List Value->Shared->Prop}(K:KdlSrc prog w T r d n P OK)(hh:A.handled=none)(hok:OK s.heap)(hn:n<=sizeLine)
  (hQ:∀h' tk acc,(∀b o,s.heap.get? b=some o->h'.get? b=some o)->s.heap.objs.size<=h'.objs.size->ItemsOf P acc n->Q acc.toList { s with heap:=h',toks:=tk }):wpAny (model prog w) A (collect (.ref r)) Q E s:=by
 obtain⟨tr,td⟩:=K.there _ hok
 unfold collect
 refine wpAny_bind (wpAny_runValue (codeAny_builtin De ?_))
 rw[Ck Df _]
 show wpAny _ A.in1 (newList []>>=λl=>again (.builtin "list.__iadd__" ⟨[l,.ref r],[]⟩)) _ _ s
 refine wpAny_bind (wpAny_newObj_type (wpAny_pure ⟨plainId_quiet Cb _,codeAny_builtin D7 ?_⟩))
 rw[Ck Cb _]
 have hok1:=K.keep _ (s.heap.push { cls:=.type "list",data:=.seq ([]:List Value).toArray }) hok λb _ o e=>AB _ e
 have key:=kdl_extend (A:=A) (s:={ s with heap:=s.heap.push { cls:=.type "list",data:=.seq ([]:List Value).toArray } })
  (R:=λ(q:Result)(s':Shared)=>∃(h':Heap)(tk:Nat)(acc:Array Value)(c:Nat),q=.ok (.ret (.ref s.heap.objs.size))/\s'={ s with heap:=h',toks:=tk }/\(∀b o,s.heap.get? b=some o->h'.get? b=some o)/\h'.get? s.heap.objs.size=some { cls:=.type "list",dict:=none,data:=.seq acc c,slots:=#[] }/\ItemsOf P acc n)
  K hh hok1 s.heap.objs.size (Ba tr) (Ba td) (.ref s.heap.objs.size) 0 (AM _ rfl)
  (λh' tk acc c kp hS it=>⟨h',tk,acc,c,rfl,rfl,λb o e=>kp b o (Ag (AI e)) (AB _ e),hS,it⟩) hn
 have fin:∀(q:Result)(s':Shared),(∃(h':Heap)(tk:Nat)(acc:Array Value)(c:Nat),q=.ok (.ret (.ref s.heap.objs.size))/\s'={ s with heap:=h',toks:=tk }/\(∀b o,s.heap.get? b=some o->h'.get? b=some o)/\h'.get? s.heap.objs.size=some { cls:=.type "list",dict:=none,data:=.seq acc c,slots:=#[] }/\ItemsOf P acc n) ->
   q=.ok (.ret (.ref s.heap.objs.size))/\wpAny (model prog w) A (load s.heap.objs.size>>=λo=>match o.data with|.seq xs _=>pure xs.toList|_=>unsupported "internal:collect") Q E s':=by
  rintro q s' ⟨h',tk,acc,c,rfl,rfl,kp,hS,it⟩
  exact⟨rfl,wpAny_bind (wpAny_load hS (wpAny_pure (hQ h' tk acc kp (Bj (AI hS)) it)))⟩
 refine wpAny_mono key (λf s' x=>?_) λe s' x=>?_
 ·cases f with
  |done f =>
   obtain⟨e,q⟩:=fin _ _ x
   cases e
   exact q
  |again c₁ =>
   refine⟨x.1,codeAny_mono x.2 λq s₂ y=>?_⟩
   obtain⟨e,q⟩:=fin _ _ y
   subst e
   exact q
 ·obtain⟨e',_⟩:=fin _ _ x
  cases e'
end
end L2.Rw
namespace L2.Ev
open PySem PySem.Spec PyProof.Rows
def zB_(cells:List (Str×Addr)):List (Str×NameKind)->List (Str×Addr)->List (Str×Addr)
 |[],acc=>acc
 |(n,k)::r,acc=>if (k==NameKind.free)=true then zB_ cells r ((n,(cells.lookup n).getD 0)::acc) else zB_ cells r acc
theorem ye_{env:Env}(names:List (Str×NameKind))(h:∀x∈names,x.2=.free->∃c,env.cells.lookup x.1=some c)(acc:List (Str×Addr)) :
  (do
   let mut cs:=acc
   for (name,kind) in names do
    if kind==.free then cs:=(name,<-cellOf env name)::cs
   return cs:Sem (List (Str×Addr)))=pure (zB_ env.cells names acc):=by
 induction names generalizing acc with
 |nil=>simp [zB_]
 |cons x r ih =>
  obtain⟨n,k⟩:=x
  have hr:∀x∈r,x.2=.free->∃c,env.cells.lookup x.1=some c:=λx hx=>h x (AC _ hx)
  by_cases hk:k=.free
  ·subst hk
   obtain⟨c,hc⟩:=h (n,.free) AD rfl
   have ih':=ih hr ((n,c)::acc)
   simp only[Cw,beq_self_eq_true,if_true,cellOf,hc,zB_,Dx,pure_bind]at ih' ⊢
   exact ih'
  ·have hb:(k==NameKind.free)=false:=by simpa using hk
   have ih':=ih hr acc
   simp only[Cw,hb,BA,if_false,zB_,pure_bind]at ih' ⊢
   exact ih'
theorem j8_{cells:List (Str×Addr)}:∀{names:List (Str×NameKind)}{acc:List (Str×Addr)},(∀x∈names,x.2=.free->∃c,cells.lookup x.1=some c)->(∀x c,acc.lookup x=some c->cells.lookup x=some c) ->
  ∀x c,(zB_ cells names acc).lookup x=some c->cells.lookup x=some c
 |[],acc,_,ha,x,c,e=>ha x c e
 |(n,k)::r,acc,h,ha,x,c,e=>by
  have hr:∀x∈r,x.2=.free->∃c,cells.lookup x.1=some c:=λx hx=>h x (AC _ hx)
  unfold zB_ at e
  by_cases hk:(k==NameKind.free)=true
  ·rw[if_pos hk]at e
   refine j8_ hr (λy d e'=>?_) x c e
   obtain⟨c0,hc0⟩:=h (n,k) AD (by simpa using hk)
   rw[BC]at e'
   cases hy:y==n with
   |true =>
    rw[hy]at e'
    have e1:y=n:=by simpa using hy
    subst e1
    have e2:(cells.lookup y).getD 0=d:=by simpa using e'
    have hc1:cells.lookup y=some c0:=hc0
    rw[hc1]at e2 ⊢
    simpa using e2
   |false=>rw[hy]at e';exact ha y d e'
  ·rw[if_neg hk]at e
   exact j8_ hr ha x c e
theorem jz_{cells:List (Str×Addr)}:∀{names:List (Str×NameKind)}{acc:List (Str×Addr)}{x:Str},((∃c,acc.lookup x=some c)∨(x,NameKind.free)∈names)->∃c,(zB_ cells names acc).lookup x=some c
 |[],acc,x,h=>by
  rcases h with h|h
  ·exact h
  ·simp at h
 |(n,k)::r,acc,x,h=>by
  unfold zB_
  by_cases hk:(k==NameKind.free)=true
  ·rw[if_pos hk]
   refine jz_ ?_
   rw[BC]
   cases hy:x==n with
   |true=>exact .inl ⟨_,rfl⟩
   |false =>
    rcases h with h|h
    ·exact .inl h
    ·rcases AJ.mp h with e|h
     ·injection e with e1 e2
      subst e1
      simp at hy
     ·exact .inr h
  ·rw[if_neg hk]
   refine jz_ ?_
   rcases h with h|h
   ·exact .inl h
   ·rcases AJ.mp h with e|h
    ·injection e with e1 e2
     subst e2
     simp at hk
    ·exact .inr h
theorem mem_of_lookup{α β:Type}[BEq α][LawfulBEq α]:∀{l:List (α×β)}{x:α}{k:β},l.lookup x=some k->(x,k)∈l
 |[],_,_,h=>by simp at h
 |(n,j)::r,x,k,h=>by
  rw[BC]at h
  cases hy:x==n with
  |true =>
   rw[hy]at h
   have e1:x=n:=by simpa using hy
   have e2:j=k:=by simpa using h
   subst e1 e2
   exact AD
  |false=>rw[hy]at h;exact AC _ (mem_of_lookup h)
theorem zM_{env:Env}:∀{names:List (Str×NameKind)}{x:Str}{k:NameKind},(∀y∈names,y.2≠.cell)->(k=.cell∨k=.free) ->
  (names.map λ(n,k)=>if (k==NameKind.free&&env.scope.kind==.function&&env.kindOf n==some .cell) then (n,NameKind.cell) else (n,k)).lookup x=some k->(x,NameKind.free)∈names
 |[],_,_,_,_,h=>by simp at h
 |(n,j)::r,x,k,hc,hk,h=>by
  have hr:∀y∈r,y.2≠.cell:=λy hy=>hc y (AC _ hy)
  have hj:j≠.cell:=hc (n,j) AD
  have h':List.lookup x ((if (j==NameKind.free&&env.scope.kind==.function&&env.kindOf n==some .cell)=true then (n,NameKind.cell) else (n,j))::r.map λ(n,k)=>if (k==NameKind.free&&env.scope.kind==.function&&env.kindOf n==some .cell) then (n,NameKind.cell) else (n,k))=some k:=h
  by_cases c:(j==NameKind.free&&env.scope.kind==.function&&env.kindOf n==some .cell)=true
  ·rw[if_pos c,BC]at h'
   simp only[AQ]at c
   have ej:j=.free:=by simpa using c.1.1
   cases hy:x==n with
   |true =>
    have e1:x=n:=by simpa using hy
    subst e1 ej
    exact AD
   |false=>rw[hy]at h';exact AC _ (zM_ hr hk h')
  ·rw[if_neg c,BC]at h'
   cases hy:x==n with
   |true =>
    rw[hy]at h'
    have e1:x=n:=by simpa using hy
    have e2:j=k:=by simpa using h'
    subst e1 e2
    rcases hk with hk|hk
    ·exact absurd hk hj
    ·subst hk;exact AD
   |false=>rw[hy]at h';exact AC _ (zM_ hr hk h')
theorem xx_{env:Env}:∀{names:List (Str×NameKind)}{x:Str},names.lookup x=some .free ->
  (names.map λ(n,k)=>if (k==NameKind.free&&env.scope.kind==.function&&env.kindOf n==some .cell) then (n,NameKind.cell) else (n,k)).lookup x=some .cell ∨
  (names.map λ(n,k)=>if (k==NameKind.free&&env.scope.kind==.function&&env.kindOf n==some .cell) then (n,NameKind.cell) else (n,k)).lookup x=some .free
 |[],_,h=>by simp at h
 |(n,j)::r,x,h=>by
  have key:∀(z:Str×NameKind),z=(if (j==NameKind.free&&env.scope.kind==.function&&env.kindOf n==some .cell)=true then (n,NameKind.cell) else (n,j)) ->
   (List.lookup x (z::r.map λ(n,k)=>if (k==NameKind.free&&env.scope.kind==.function&&env.kindOf n==some .cell) then (n,NameKind.cell) else (n,k))=some .cell ∨
    List.lookup x (z::r.map λ(n,k)=>if (k==NameKind.free&&env.scope.kind==.function&&env.kindOf n==some .cell) then (n,NameKind.cell) else (n,k))=some .free):=by
   intro z hz
   rw[BC]at h
   cases hy:x==n with
   |true =>
    rw[hy]at h
    have e2:j=.free:=by simpa using h
    subst e2
    by_cases c:(NameKind.free==NameKind.free&&env.scope.kind==.function&&env.kindOf n==some .cell)=true
    ·rw[if_pos c]at hz;subst hz;left;rw[BC,hy]
    ·rw[if_neg c]at hz;subst hz;right;rw[BC,hy]
   |false =>
    rw[hy]at h
    have ih:=xx_ (env:=env) h
    have hz1:z.1=n:=by rw[hz];split<;>rfl
    obtain⟨z1,z2⟩:=z
    simp only at hz1
    subst hz1
    rw[BC,hy]
    exact ih
  exact key _ rfl
structure Bk where
 C:Addr
 s:Shared
 H:Hp
 ex:List Addr
abbrev blk(X:Cx)(N':List Str)(scope:Scope)(b:Bk):Cx :=
 { X with N:=N',s₀:=b.s,H₀:=b.H,env:=compEnvC scope (zB_ X.env.cells scope.names []) b.C X.env,outer:=X.stack,stack:=X.stack,ex:=b.ex,fn:=λ_=>false,pn:=[],xe:=λ_ _=>False }
structure BkScope(X:Cx)(N':List Str)(src:List (Option Nat))(scope:Scope):Prop where
 kind:scope.kind=.function
 nocell:∀y∈scope.names,y.2≠.cell
 names:∀y∈scope.names,y.2=.local->scope.names.lookup y.1=some .local
 frees:∀y∈scope.names,y.2=.free->X.env.kindOf y.1=some .cell∨X.env.kindOf y.1=some .free
 len:src.length=N'.length
 out:∀i j:Nat,src[i]?=some (some j)->∃x:Str,N'[i]?=some x/\X.N[j]?=some x/\scope.names.lookup x=some .free
def entry(src:List (Option Nat))(σ:St):St:=src.map λo=>o.bind λj=>(σ[j]?).bind id
def PTs(X:Cx)(ifs:List Expr)(t:TT):Prop :=
 ∀(pins:List (Addr×Obj))(s:Shared)(σ:St)(H:Hp)(Q:Bool->Hp->Prop),Inv X pins σ H s->t σ H Q ->
  wpAny (model X.prog X.w) X.A (forIn ifs true λc r=>if r=true then do let ok <-isTrue c X.env (eval c X.env);pure (ForInStep.yield ok) else pure (ForInStep.yield r)) (TP X pins σ Q) X.xe s
def tYes:TT:=λ_ H Q=>Q true H
theorem q4_{X:Cx}:PTs X [] tYes:=λ_ _ _ H _ I h=>wpAny_tests_nil ⟨H,I,h⟩
theorem xM_{X:Cx}{c:Expr}{t:TT}(h:PT X c t):PTs X [c] t:=λpins s σ H Q I q=>wpAny_tests_one (h pins s σ H Q I q)
def vf_(src:List (Option Nat))(wi:TI)(g:Bk->TG)(tc:Bk->TT)(te:Bk->TE):TE:=λσ H Q=>wi σ H λJ H1=>∀(b:Bk)(D:Addr),H1 D=none ->
 ∃W:Nat->Nat->St->Hp->Prop,(∃m,W 0 m (entry src σ) (upd H1 D (.lst [])))/\∀i m σ' H',W i m σ' H' ->
  (J.stop i H'/\Q (.ref D) H')∨(J.go i H'/\∃N:St->Hp->Prop,(∀σ'' H'',N σ'' H''->∃m',m'<m/\W (i+1) m' σ'' H'') /\
   ∀x H'',J.yld i H' x H''->g b x σ' H'' λσ2 H2=>tc b σ2 H2 λok H3=>if ok=true then te b σ2 H3 λy H4=>∃ys,H4 D=some (.lst ys)/\ys.length<sizeLine/\N σ2 (upd H4 D (.lst (ys++[y]))) else N σ2 H3)
section
variable{prog:Program}{w:World}{A:Around}{R:Result->Shared->Prop}{s:Shared}
theorem yp_{elt target iter:Expr}{ifs:List Expr}{scope:Scope}{pos:Pos}{it acc:Value}{env:Env}(I:Nat->Shared->Prop)
  (turn:∀n s,I n s->wpAny (model prog w) A (pyNext it) (λr s₁=>match r with
   |none=>R (.ok .next) s₁
   |some v=>wpAny (model prog w) A (letOwnedTupleGo target it v) (λ_ s₁'=>wpAny (model prog w) A (assign target env v) (λ_ s₂ =>
     wpAny (model prog w) A (forIn ifs true λc r=>if r=true then do let ok <-isTrue c env (eval c env);pure (ForInStep.yield ok) else pure (ForInStep.yield r)) (λok s₃ =>
      if ok=true then wpAny (model prog w) A (eval elt env) (λx s₄ =>
       wpAny (model prog w) A (call (.builtin "list.append") [acc,x]) (λ_ s₅=>∃m,m<n/\I m s₅) (λ_ _=>False) s₄) (λ_ _=>False) s₃
      else ∃m,m<n/\I m s₃) (λ_ _=>False) s₂) (λ_ _=>False) s₁') (λ_ _=>False) s₁) (λ_ _=>False) s)
  (n:Nat) (h:I n s) :
  codeAny (model prog w) A (.compLoop (.ListComp elt [⟨target,iter,ifs,0⟩] scope pos) 0 it acc env) R s:=by
 refine codeAny_loop rfl I (λn s hI=>?_) n h
 show wpAny _ A ((compTurn (.ListComp elt [⟨target,iter,ifs,0⟩] scope pos) 0 it acc env).onRaise (λx=>do noteFrame x env;theTreesLotGoes x)) _ _ s
 refine wpAny_noted ?_
 rw[compTurn_list]
 refine wpAny_bind (wpAny_standAt (wpAny_bind (wpAny_mono (turn n s hI) (λr s₁ h₁=>?_) λ_ _ h'=>h'.elim)))
 cases r with
 |none=>exact wpAny_pure h₁
 |some v =>
  refine wpAny_bind (wpAny_mono h₁ (λ_ s₁' h₁'=>?_) λ_ _ h'=>h'.elim)
  refine wpAny_bind (wpAny_mono h₁' (λ_ s₂ h₂=>wpAny_bind (wpAny_mono h₂ (λok s₃ h₃=>?_) λ_ _ h'=>h'.elim)) λ_ _ h'=>h'.elim)
  cases ok with
  |false=>exact wpAny_pure ⟨rfl,h₃⟩
  |true =>
   exact wpAny_bind (wpAny_bind (wpAny_mono h₃ (λx s₄ h₄=>wpAny_bind (wpAny_mono h₄ (λ_ s₅ h₅=>wpAny_pure (wpAny_pure ⟨rfl,h₅⟩)) λ_ _ h'=>h'.elim)) λ_ _ h'=>h'.elim))
end
theorem aac_{X:Cx}{elt tg iter:Expr}{ifs:List Expr}{scope:Scope}{pos pos':Pos}{N':List Str}{src:List (Option Nat)}{wi:TI}{g:Bk->TG}{tc:Bk->TT}{te:Bk->TE}(hc:X.calm=true)(hi:PI X tg iter wi)(S:BkScope X N' src scope)
  (hg:∀b,PG (blk X N' scope b) tg (g b)) (ht:∀b,PTs (blk X N' scope b) ifs (tc b)) (he:∀b,PE (blk X N' scope b) elt (te b)) (hs:∀x,foldedSetIterable iter X.env x=pure x) (use:Option (Value->Sem Unit)) (R:Value->Shared->Prop)
  {pins:List (Addr×Obj)} {s:Shared} {σ:St} {H:Hp} {Q:V->Hp->Prop} (I:Inv X pins σ H s) (h:vf_ src wi g tc te σ H Q)
  (fin:∀(D C:Addr)(H5:Hp)(s6:Shared)(m:Str->Option Value),s6.heap.Ns C m->js_ X pins H5 C->(∀h',Heap.SameBut C s6.heap h'->Inv X pins σ H5 { s6 with heap:=h' })->Q (.ref D) H5->compPost (model X.prog X.w) X.A X.xe use R (.ref D) C (.ok .next) s6) :
  wpAny (model X.prog X.w) X.A (comprehension (.ListComp elt [⟨tg,iter,ifs,0⟩] scope pos) scope X.env pos' (newList []) false (eval iter X.env) use) R X.xe s:=by
 have hfr:∀x∈scope.names,x.2=.free->∃c,X.env.cells.lookup x.1=some c:=λx hx hf=>I.ok.has x.1 (S.frees x hx hf)
 have clS:∀x c,(zB_ X.env.cells scope.names []).lookup x=some c->X.env.cells.lookup x=some c:=j8_ hfr (λx c e=>by simp at e)
 refine wpAny_comprehension_free (use:=use) rfl hs (ye_ scope.names hfr []) S.kind S.names ?_
 refine thn (hi pins s σ H _ I h) λv s1 h1=>thn h1 λitv s2 h2=>?_
 obtain⟨it,fp,tn,J,H2,rfl,I2,T,st2,f2,h3⟩:=h2
 have hD:H2 s2.heap.objs.size=none:=I2.fresh
 refine wpAny_newObj_type ?_
 have I3:Inv X pins σ (upd H2 s2.heap.objs.size (.lst [])) { s2 with heap:=s2.heap.push { cls:=.type "list",data:=.seq ([]:List Value).toArray } } :=
  I2.laid (t':=s2.toks) (λb u e=>AB _ e) (AG _) ⟨Ap _,[],0,.nil,AM _ rfl⟩
 have hfp:∀b∈fp,b<s2.heap.objs.size:=λb hb=>by
  obtain⟨o,e,_⟩:=T.obj _ _ st2 b hb
  exact AI e
 have st3:tn 0 (s2.heap.push { cls:=.type "list",data:=.seq ([]:List Value).toArray }):=T.keep _ _ _ st2 λb _ o e=>AB _ e
 generalize hs3:({ s2 with heap:=s2.heap.push { cls:=.type "list",data:=.seq ([]:List Value).toArray } }:Shared)=s3 at I3 ⊢
 have st3':tn 0 s3.heap:=by rw[<-hs3];exact st3
 have hsz3:s3.heap.objs.size=s2.heap.objs.size+1:=by rw[<-hs3];exact BP ..
 have fp3:∀b∈fp,(upd H2 s2.heap.objs.size (.lst [])) b=none:=λb hb=>by rw[qk_ (Ag (hfp b hb))];exact(f2 b hb).1
 generalize hDe:s2.heap.objs.size=D at *
 generalize hH3:upd H2 D (.lst [])=H3 at *
 refine wpAny_newFunctionEnv S.nocell (by intro y hy;simp at hy) (λh₁ hns₁ hsb₁=>?_) S.kind
 have old:∀b o,s3.heap.get? b=some o->h₁.get? b=some o:=λb o e=>hsb₁.extBut b o (Ag (AI e)) (AB _ e)
 have Yok:(blk X N' scope ⟨s3.heap.objs.size,s3,H3,fp⟩).Ok:=by
  refine⟨I.ok.mod,S.kind,I.ok.glob,I.ok.blt,AG _,λx y c e1 e2=>I.ok.inj x y c (clS x c e1) (clS y c e2),λx hx=>?_,λx c z=>(by cases z),I.ok.hd,I.ok.frames,.inl rfl,λb hb=>⟨?_,λx c e=>(f2 b hb).2.2.2.2.1 x c (clS x c e)⟩,I3.bs,?_,λb o e hb=>?_,λb hb z=>?_,I3.stack,I3.stkFree⟩
  ·have hx':(x,NameKind.free)∈scope.names:=by
    rcases hx with hx|hx
    ·exact zM_ (env:=X.env) S.nocell (.inl rfl) hx
    ·exact zM_ (env:=X.env) S.nocell (.inr rfl) hx
   exact jz_ (.inr hx')
  ·exact Ag (Ac (hfp b hb) (by rw[hsz3];exact Bc _))
  ·exact Aj I.ok.bsz I3.sz
  ·rcases (f2 b hb).2.2.2.1 with z|z
   ·exact I.ok.noex b o e z
   ·exact absurd (Ac (AI e) (Aj I.ok.bsz z)) (BX _)
  ·rcases AJ.mp (I3.stkSub b z) with e|e
   ·exact(f2 b hb).2.1 e
   ·exact(f2 b hb).2.2.1 e
 generalize hY:blk X N' scope ⟨s3.heap.objs.size,s3,H3,fp⟩=Y at Yok
 have I4:Inv (blk X N' scope ⟨s3.heap.objs.size,s3,H3,fp⟩) [] (entry src σ) H3 { s3 with heap:=h₁,toks:=s3.toks+([]:List (Str×Value)).length }:=by
  subst hY
  refine⟨Yok,rfl,I3.bare,Un.kept old,⟨_,hns₁,λi x v e1 e2 e3=>?_⟩,λx c e=>?_,I3.fresh,λx c e=>I3.freeC x c (clS x c e),λp hp=>by simp at hp,I3.hok.kept old,?_⟩
  ·unfold entry at e2
   rw[AT]at e2
   cases hsrc:src[i]? with
   |none=>rw[hsrc]at e2;cases e2
   |some o =>
    rw[hsrc]at e2
    cases o with
    |none=>have e2':some (none:Option V)=some (some v):=e2;cases e2'
    |some j =>
     have e2':some ((σ[j]?).bind id)=some (some v):=e2
     have e2'':(σ[j]?).bind id=some v:=AW e2'
     have hσ:σ[j]?=some (some v):=by
      cases q:σ[j]? with
      |none=>rw[q]at e2'';cases e2''
      |some z =>
       rw[q]at e2''
       have:z=some v:=e2''
       rw[this]
     obtain⟨x',n1,n2,n3⟩:=S.out i j hsrc
     have ex:x'=x:=AW (n1.symm.trans e1)
     subst ex
     obtain⟨m0,_,hl⟩:=I3.loc
     have hk:=S.frees (x',.free) (mem_of_lookup n3) rfl
     have hvis:Vis X.env.scope x':=hk.elim (λz=>.inr (.inl z)) λz=>.inr (.inr z)
     obtain⟨u,r,l⟩:=hl j x' v n2 hσ hvis
     refine⟨u,r,.inr ?_⟩
     rcases l with⟨l1,_⟩|⟨_,c,l2,o,l3,l4⟩
     ·rcases hk with z|z
      ·rw[show X.env.kindOf x'=some .local from l1]at z;cases z
      ·rw[show X.env.kindOf x'=some .local from l1]at z;cases z
     ·obtain⟨c',hc'⟩:=jz_ (cells:=X.env.cells) (names:=scope.names) (acc:=[]) (.inr (mem_of_lookup n3))
      have e4:=clS x' c' hc'
      rw[l2]at e4
      cases e4
      exact⟨xx_ (env:=X.env) n3,c,hc',o,old _ _ l3,l4⟩
  ·obtain⟨v,o,ho,hd⟩:=I3.cell x c (clS x c e)
   exact⟨v,o,old _ _ ho,hd⟩
  ·show(entry src σ).length=N'.length
   unfold entry
   rw[AA]
   exact S.len
 obtain⟨W,⟨m0,w0⟩,turn⟩:=h3 ⟨s3.heap.objs.size,s3,H3,fp⟩ D hD
 rw[hH3]at w0
 have loop:codeAny (model X.prog X.w) X.A (.compLoop (.ListComp elt [⟨tg,iter,ifs,0⟩] scope pos) 0 (.ref it) (.ref D) (blk X N' scope ⟨s3.heap.objs.size,s3,H3,fp⟩).env)
   (compPost (model X.prog X.w) X.A X.xe use R (.ref D) s3.heap.objs.size) { s3 with heap:=h₁,toks:=s3.toks+([]:List (Str×Value)).length }:=by
  have stat:∀{H':Hp},(∀b∈fp,H' b=none)->∀b∈fp,js_ (blk X N' scope ⟨s3.heap.objs.size,s3,H3,fp⟩) [] H' b:=λhn b hb =>
   ⟨hn b hb,(I4.ok.exf b hb).1,I4.ok.exfs b hb,.inl hb,(I4.ok.exf b hb).2,λp hp=>by simp at hp⟩
  refine yp_ (λn s'=>∃i σ' H',Inv (blk X N' scope ⟨s3.heap.objs.size,s3,H3,fp⟩) [] σ' H' s'/\tn i s'.heap/\(∀b∈fp,H' b=none)/\W i n σ' H') ?_ m0
   ⟨0,_,H3,I4,T.keep _ _ _ st3' λb _ o e=>old b o e,fp3,w0⟩
  rintro n s5 ⟨i,σ5,H5,I5,st5,fr5,w5⟩
  rcases turn i n σ5 H5 w5 with⟨stop,qn⟩|⟨go,N,hN,step⟩
  ·refine thn (T.done (blk X N' scope ⟨s3.heap.objs.size,s3,H3,fp⟩) rfl rfl rfl hc i [] s5 σ5 H5 _ I5 (stat fr5) st5 stop) λr s6 ⟨hr,I6⟩=>?_
   subst hr
   obtain⟨m,hn,_⟩:=I6.loc
   have hC:H5 s3.heap.objs.size=none:=I6.free
   refine fin D s3.heap.objs.size H5 s6 m hn (I3.fpOk (AG _) hC) (λh' sb=>?_) qn
   have nC:∀b o,s3.heap.get? b=some o->b≠s3.heap.objs.size:=λb o e=>Ag (AI e)
   have keep:∀b o,b≠s3.heap.objs.size->s6.heap.get? b=some o->h'.get? b=some o:=λb o hb e=>(sb.2 b hb).trans e
   have hok:HOk X.prog X.w H5 h':=λb u e=>(I6.hok b u e).stay (λc v hc q=>keep c v (by
    rcases hc with z|z
    ·rw[z];intro z2;rw[z2,hC]at e;cases e
    ·intro z2;rw[z2,hC]at z;cases z) q) (λ_ q=>q) λ_ _ q=>q
   have u6:Un (frs X.stack) fp H3 H5 s3.heap s6.heap:=I6.base
   have un:Un (frs X.stack) fp H3 H5 s3.heap h':=⟨λb o e n hb hx=>keep b o (nC b o e) (u6.keep b o e n hb hx),λb o e n hb hx=>by
     obtain⟨sl,q⟩:=u6.slot b o e n hb hx
     exact⟨sl,keep b _ (nC b o e) q⟩,u6.free,λb o e hx=>by
     obtain⟨o',q⟩:=u6.there b o e hx
     exact⟨o',keep b _ (nC b o e) q⟩,u6.tups,u6.frzs,u6.tbls⟩
   refine I3.call' (s':={ s6 with heap:=h' }) (ch:=fp) I6.os un hok I6.bare λb hb=>?_
   exact⟨(f2 b hb).2.2.2.1,(f2 b hb).2.1,(f2 b hb).2.2.2.2.1,(f2 b hb).2.2.2.2.2⟩
  ·refine thn (T.item (blk X N' scope ⟨s3.heap.objs.size,s3,H3,fp⟩) rfl rfl rfl hc i [] s5 σ5 H5 _ I5 (stat fr5) st5 go) λr s6 ⟨u,hr,h6⟩=>?_
   subst hr
   refine thn h6 λ_ s7 ⟨x,H7,I7,r7,y7,st7,fr7⟩=>?_
   have I7':=I7.pinned (stat fr7) (T.obj _ _ st7)
   have again:∀{σ9:St}{H9:Hp}{s9:Shared},Inv (blk X N' scope ⟨s3.heap.objs.size,s3,H3,fp⟩) ([]++xJ_ fp s7.heap) σ9 H9 s9->N σ9 H9->∃m,m<n/\∃i σ' H',Inv (blk X N' scope ⟨s3.heap.objs.size,s3,H3,fp⟩) [] σ' H' s9/\tn i s9.heap/\(∀b∈fp,H' b=none)/\W i m σ' H':=λ{σ9 H9 s9} I9 n9=>by
    obtain⟨m',hm,w9⟩:=hN σ9 H9 n9
    refine⟨m',hm,i+1,σ9,H9,I9.unpinned,T.keep _ _ _ st7 λb hb o e=>(I9.pin (b,o) (Al _ (Al _ (jh_ hb e)))).1,λb hb=>?_,w9⟩
    obtain⟨o,e,d⟩:=T.obj _ _ st7 b hb
    exact(I9.pin (b,o) (Al _ (Al _ (jh_ hb e)))).2.1
   refine thn (hg _ _ s7 σ5 H7 x u _ I7' r7 (step x H7 y7)) λ_ s8 ⟨σ8,H8,I8,q8⟩=>?_
   refine thn (ht _ _ s8 σ8 H8 _ I8 q8) λok s9 ⟨H9,I9,q9⟩=>?_
   cases ok with
   |false=>exact again I9 q9
   |true =>
    refine thn (he _ _ s9 σ8 H9 _ I9 q9) λyv s10 ⟨y,H10,I10,r10,ys,e10,l10,n10⟩=>?_
    refine thn (qS_ _ s10 σ8 H10 (.ref D) [y] (.ref D) [yv] (λ_ H11=>N σ8 H11) I10 rfl (.cons r10 .nil) ⟨D,ys,y,rfl,rfl,e10,l10,n10⟩) λ_ s11 ⟨_,H11,I11,_,n11⟩=>again I11 n11
 have self:=T.self X.A 0 { s3 with heap:=h₁,toks:=s3.toks+([]:List (Str×Value)).length } (λit' s'=>codeAny (model X.prog X.w) X.A (.compLoop (.ListComp elt [⟨tg,iter,ifs,0⟩] scope pos) 0 it' (.ref D) (blk X N' scope ⟨s3.heap.objs.size,s3,H3,fp⟩).env)
   (compPost (model X.prog X.w) X.A X.xe use R (.ref D) s3.heap.objs.size) s') (notedBy (model X.prog X.w) X.A (blk X N' scope ⟨s3.heap.objs.size,s3,H3,fp⟩).env λx s'=>compPost (model X.prog X.w) X.A X.xe use R (.ref D) s3.heap.objs.size (.error x) s')
   (T.keep _ _ _ st3' λb _ o e=>old b o e) loop
 exact codeAny_compStart_list loop self
theorem qO_{X:Cx}{elt tg iter:Expr}{ifs:List Expr}{scope:Scope}{pos:Pos}{N':List Str}{src:List (Option Nat)}{wi:TI}{g:Bk->TG}{tc:Bk->TT}{te:Bk->TE}(hc:X.calm=true)(hi:PI X tg iter wi)(S:BkScope X N' src scope)
  (hg:∀b,PG (blk X N' scope b) tg (g b)) (ht:∀b,PTs (blk X N' scope b) ifs (tc b)) (he:∀b,PE (blk X N' scope b) elt (te b)) (hs:∀x,foldedSetIterable iter X.env x=pure x:=by intro _;rfl) :
  PE X (.ListComp elt [⟨tg,iter,ifs,0⟩] scope pos) (vf_ src wi g tc te):=by
 intro pins s σ H Q I h
 rw[eval_ListComp]
 exact aac_ hc hi S hg ht he hs none (EP X pins σ Q) I h λD C H5 s6 m hn _ k q=>⟨m,hn,λh' sb=>⟨.ref D,H5,k h' sb,rfl,q⟩⟩
theorem akb_{X:Cx}{elt tg iter:Expr}{ifs:List Expr}{scope:Scope}{pos spos py:Pos}{N':List Str}{src:List (Option Nat)}{wi:TI}{g:Bk->TG}{tc:Bk->TT}{te:Bk->TE}{i:Nat}{y:Str}(hN:X.N.Nodup)(hy:X.N[i]?=some y)(hx:Loc X.env.scope y)
  (hw:swapsWith (.ListComp elt [⟨tg,iter,ifs,0⟩] scope pos) (some (.Name y py)) spos.line X.env=pure true) (hc:X.calm=true) (hi:PI X tg iter wi) (S:BkScope X N' src scope)
  (hg:∀b,PG (blk X N' scope b) tg (g b)) (ht:∀b,PTs (blk X N' scope b) ifs (tc b)) (he:∀b,PE (blk X N' scope b) elt (te b)) (hs:∀x,foldedSetIterable iter X.env x=pure x:=by intro _;rfl)
  (hf:X.fn y=true∨X.env.scope.names.lookup y=some .local:=by first|exact .inl rfl|exact .inr rfl|assumption) :
  PS X (.Assign [.Name y py] (.ListComp elt [⟨tg,iter,ifs,0⟩] scope pos) spos) (tAsg (vf_ src wi g tc te) (zN_ i)):=by
 intro pins s σ H D I h
 rw[exec_Assign_Name_used _ _ _ _ hw]
 refine wpAny_bind (wpAny_standAt (wpAny_bind ?_))
 show wpAny _ X.A (do let _ <-comprehension (.ListComp elt [⟨tg,iter,ifs,0⟩] scope pos) scope X.env _ (newList []) false (eval iter X.env) (some (assign (.Name y py) X.env))) _ _ s
 refine wpAny_bind (wpAny_mono (aac_ hc hi S hg ht he hs (some (assign (.Name y py) X.env)) (λ_ s'=>SP X pins D .next s') I h ?_) (λ_ s' hq=>wpAny_pure (wpAny_pure hq)) λ_ _ e=>e)
 intro L C H5 s6 m hn fp k q
 show wpAny _ X.A (assign (.Name y py) X.env (.ref L)) _ _ _
 have I6:Inv X pins σ H5 s6:=k s6.heap ⟨rfl,λ_ _=>rfl⟩
 refine wpAny_assign_Name (vT_ I6 hN hy hx (v:=.ref L) rfl (λs7 I7 ⟨a,sb,ha⟩=>?_) hf)
 have hCa:C≠a:=by
  rcases ha with rfl|ha
  ·exact fp.2.1
  ·exact λz=>fp.2.2.2.2.1 _ _ ha z.symm
 refine⟨m,hn.sameBut sb hCa,λh' sb'=>⟨_,H5,?_,q⟩⟩
 have keep:∀b o,b≠C->s7.heap.get? b=some o->h'.get? b=some o:=λb o hb e=>(sb'.2 b hb).trans e
 have hok:HOk X.prog X.w H5 h':=λb u e=>(I7.hok b u e).stay (λc v hc' q'=>keep c v (by
  rcases hc' with z|z
  ·rw[z];intro z2;rw[z2,fp.1]at e;cases e
  ·intro z2;rw[z2,fp.1]at z;cases z) q') (λ_ q'=>q') λ_ _ q'=>q'
 refine I7.call' (s':={ s7 with heap:=h' }) (ch:=[C]) rfl ⟨λb o e n hb hx'=>keep b o (λz=>hx' (by rw[z];exact AD ..)) e,λb o e n hb hx'=>⟨o.slots,keep b o (λz=>hx' (by rw[z];exact AD ..)) e⟩,λb o e n hx'=>n,λb o e hx'=>⟨o,keep b o (λz=>hx' (by rw[z];exact AD ..)) e⟩,λ_ _ e=>e,λ_ _ _ e=>e,λ_ ps e=>⟨#[],by rw[Array.append_empty];exact e⟩⟩ hok I7.bare λb hb=>?_
 rw[Af.mp hb]
 exact⟨fp.2.2.2.1,fp.2.1,fp.2.2.2.2.1,fp.2.2.2.2.2⟩
end L2.Ev
namespace L2.Ev
open PySem PySem.Spec PyProof.Rows
theorem ju_{α:Type}[Dat α]{J:It}{n:Nat}{σ0:St}{H1:Hp}{D:Addr}{Q:V->Hp->Prop}{g:TG}{tc:TT}{te:TE}(hD:H1 D=none)(Sp:St->Prop)(out:Nat->Option α)(hn:n<=sizeLine)(h0:Sp σ0)
  (hstop:∀H',Same H1 H'->J.stop n H') (hgo:∀i H',i<n->Same H1 H'->J.go i H')
  (hturn:∀(i:Nat)(σ':St)(H':Hp)(Yes:V->St->Hp->Prop)(No:St->Hp->Prop),i<n->Sp σ'->Same H1 H'->(∀y σ2 H4 a,Sp σ2->Same H' H4->out i=some a->Dat.is H4 y a->Yes y σ2 H4)->(∀σ2 H3,Sp σ2->Same H' H3->out i=none->No σ2 H3) ->
   ∀x H'',J.yld i H' x H''->g x σ' H'' λσ2 H2=>tc σ2 H2 λok H3=>if ok=true then te σ2 H3 λy H4=>Yes y σ2 H4 else No σ2 H3)
  (hend:∀H',Same H1 H'->LstAt H' D ((List.range n).filterMap out)->Q (.ref D) H') :
  ∃W:Nat->Nat->St->Hp->Prop,(∃m,W 0 m σ0 (upd H1 D (.lst [])))/\∀i m σ' H',W i m σ' H' ->
  (J.stop i H'/\Q (.ref D) H')∨(J.go i H'/\∃N:St->Hp->Prop,(∀σ'' H'',N σ'' H''->∃m',m'<m/\W (i+1) m' σ'' H'') /\
   ∀x H'',J.yld i H' x H''->g x σ' H'' λσ2 H2=>tc σ2 H2 λok H3=>if ok=true then te σ2 H3 λy H4=>∃ys,H4 D=some (.lst ys)/\ys.length<sizeLine/\N σ2 (upd H4 D (.lst (ys++[y]))) else N σ2 H3):=by
 have s1:∀{H':Hp}(o:HO),Same H1 H'->Same H1 (upd H' D o):=λo e b u q=>by rw[qk_ (qq_ q hD)];exact e b u q
 refine⟨λi m σ' H'=>m=n-i/\i<=n/\Sp σ'/\Same H1 H'/\LstAt H' D ((List.range i).filterMap out),⟨n,by simp,Ap _,h0,s1 _ (Same.refl _),[],qc_,.nil⟩,?_⟩
 rintro i m σ' H' ⟨rfl,hi,hS,hH,hL⟩
 by_cases hlt:i<n
 ·refine .inr ⟨hgo i H' hlt hH,λσ2 H2=>Sp σ2/\Same H1 H2/\LstAt H2 D ((List.range (i+1)).filterMap out),λσ2 H2 ⟨a,b,c⟩=>⟨n-(i+1),by omega,rfl,hlt,a,b,c⟩,?_⟩
  obtain⟨vs,eD,iD⟩:=hL
  have lv:vs.length<=i:=by
   have:=AL iD
   have:=List.length_filterMap_le out (List.range i)
   rw[BI]at this
   omega
  refine hturn i σ' H' (λy σ2 H4=>∃ys,H4 D=some (.lst ys)/\ys.length<sizeLine/\(λσ2 H2=>Sp σ2/\Same H1 H2/\LstAt H2 D ((List.range (i+1)).filterMap out)) σ2 (upd H4 D (.lst (ys++[y])))) _ hlt hS hH (λy σ2 H4 a a1 a2 a3 a4=>?_) (λσ2 H3 a1 a2 a3=>?_)
  ·have e4:=a2 _ _ eD
   have t4:Tups H4 (upd H4 D (.lst (vs++[y]))):=λp ys q=>by rw[qk_ (zA_ q e4 (by intro z;cases z))];exact q
   refine⟨vs,e4,by omega,a1,s1 _ (hH.trans a2),vs++[y],qc_,?_⟩
   rw[Bb,DI,Bg,a3]
   exact CF (Its.mono ((Tups.same a2).trans t4) iD) (Dat.mono t4 a4)
  ·refine⟨a1,hH.trans a2,vs,a2 _ _ eD,?_⟩
   rw[Bb,DI,Bg,a3]
   simpa using Its.mono (Tups.same a2) iD
 ·have e:i=n:=by omega
  subst e
  exact .inl ⟨hstop H' hH,hend H' hH hL⟩
inductive SK
 |lst
 |tup
def SK.iter:SK->Heap->Addr->Addr->Nat->Prop
 |.lst,h,i,l,k=>h.IsListIter i l k
 |.tup,h,i,l,k=>h.IsTupleIter i l k
def SK.seq:SK->Heap->Addr->Array Value->Prop
 |.lst,h,l,xs=>h.IsList l xs
 |.tup,h,l,xs=>h.IsTuple l xs
def SK.ob:SK->Addr->Obj
 |.lst,l=>{ cls:=.type "list_iterator",data:=.fields #[.ref l,.int 0 0] }
 |.tup,l=>{ cls:=.type "tuple_iterator",data:=.fields #[.ref l,.int 0 0] }
def SK.is(K:PySem.W.Frag)(H:Hp)(l:Addr)(xs:List V):SK->Prop
 |.lst=>SqL K H l xs
 |.tup=>SqT K H l xs
theorem SK.iter_keep{k:SK}{h h':Heap}{i l:Addr}{n:Nat}(x:k.iter h i l n)(e:∀o,h.get? i=some o->h'.get? i=some o):k.iter h' i l n:=by
 cases k with
 |lst=>obtain⟨o,a,b⟩:=x;exact⟨o,e o a,b⟩
 |tup=>obtain⟨o,a,b⟩:=x;exact⟨o,e o a,b⟩
theorem SK.seq_keep{k:SK}{h h':Heap}{l:Addr}{xs:Array Value}(x:k.seq h l xs)(e:∀o,h.get? l=some o->h'.get? l=some o):k.seq h' l xs:=by
 cases k with
 |lst=>obtain⟨o,a,b⟩:=x;exact⟨o,e o a,b⟩
 |tup=>obtain⟨o,a,b⟩:=x;exact⟨o,e o a,b⟩
theorem SK.iter_lt{k:SK}{h:Heap}{i l:Addr}{n:Nat}(x:k.iter h i l n):i<h.objs.size:=by
 cases k with
 |lst=>obtain⟨o,a,_⟩:=x;exact AI a
 |tup=>obtain⟨o,a,_⟩:=x;exact AI a
theorem SK.iter_new{k:SK}{h:Heap}{i l:Addr}(e:h.get? i=some (k.ob l)):k.iter h i l 0:=by
 cases k with
 |lst=>exact⟨_,e,rfl,rfl⟩
 |tup=>exact⟨_,e,rfl,rfl⟩
theorem SK.at{X:Cx}{pins:List (Addr×Obj)}{σ:St}{H:Hp}{s:Shared}{l:Addr}{xs:List V}{k:SK}(I:Inv X pins σ H s)(h:k.is X.K H l xs):∃its:List Value,Vals xs its/\k.seq s.heap l its.toArray:=by
 cases k with
 |lst=>obtain⟨its,r,p,_⟩:=I.list h;exact⟨its,r,p.isList⟩
 |tup=>obtain⟨its,r,p,_⟩:=I.tuple h;exact⟨its,r,p⟩
theorem SK.inj{X:Cx}{pins:List (Addr×Obj)}{σ:St}{H:Hp}{s:Shared}{l:Addr}{xs ys:List V}{k:SK}(I:Inv X pins σ H s)(h:k.is X.K H l xs)(h':k.is X.K H l ys):xs=ys:=by
 cases k with
 |lst=>exact I.list_inj h h'
 |tup=>exact I.tuple_inj h h'
section
variable{prog:Program}{w:World}{A:Around}{E:Value->Shared->Prop}{s:Shared}
theorem aio_{it t:Addr}{i:Nat}{items:Array Value}{x:Value}{Q:Value->Shared->Prop}(hit:s.heap.IsTupleIter it t i)(ht:s.heap.IsTuple t items)(hx:items[i]?=some x)
  (hQ:∀h',h'.IsTupleIter it t (i+1)->Heap.SameBut it s.heap h'->Q x { s with heap:=h' }):wpAny (model prog w) A (Builtin.SmallTypes.nextOf (.ref it)) Q E s:=by
 obtain⟨ob,hob,hcl,hdt⟩:=id hit
 obtain⟨o2,ho2,_,n2,hd2⟩:=ht
 unfold Builtin.SmallTypes.nextOf
 refine wpAny_bind (wpAny_callSpecial?_slot (name:=Str.ofString "__next__") hit.typeIs CK (wpAny_call_entry CK hit.typeIs Dg ?_ (DW _)))
 show wpAny _ _ (field (.ref it) 0>>=λ_=>_) _ _ s
 refine wpAny_bind (wpAny_field hob hdt (x:=Value.ref t) rfl ?_)
 show wpAny _ _ (if (Value.ref t==Value.none)=true then _ else (_:Sem _)) _ _ s
 rw[if_neg (show ¬ (Value.ref t==Value.none)=true from λz=>AV z)]
 show wpAny _ _ (field (.ref it) 1>>=λ_=>_) _ _ s
 refine wpAny_bind (wpAny_field hob hdt (x:=Value.int i 0) rfl ?_)
 show wpAny _ _ (seqItems? (.ref t)>>=λ_=>_) _ _ s
 refine wpAny_bind (wpAny_seqItems ho2 hd2 ?_)
 simp only[An,hx]
 refine wpAny_bind (wpAny_setField hob hdt (by simp) (wpAny_pure ⟨x,rfl,wpAny_pure (hQ _ ⟨_,BT _ hob (CI (B6 hdt _)),(C9 ..).trans hcl,?_⟩ (CW ..))⟩))
 rw[B6 hdt]
 simp [rawInt]
theorem ah5_{it t:Addr}{i:Nat}{items:Array Value}{Q:Value->Shared->Prop}(hh:A.handled=none)(hit:s.heap.IsTupleIter it t i)(ht:s.heap.IsTuple t items)(hx:items[i]?=none)
  (hE:∀h' e,Heap.ExtBut it s.heap h'->(∃o,h'.get? e=some o/\o.cls=.type "StopIteration")->E (.ref e) { s with heap:=h' }):wpAny (model prog w) A (Builtin.SmallTypes.nextOf (.ref it)) Q E s:=by
 obtain⟨ob,hob,hcl,hdt⟩:=id hit
 obtain⟨o2,ho2,_,n2,hd2⟩:=ht
 unfold Builtin.SmallTypes.nextOf
 refine wpAny_bind (wpAny_callSpecial?_slot (name:=Str.ofString "__next__") hit.typeIs CK (wpAny_call_entry CK hit.typeIs Dg ?_ (DW _)))
 show wpAny _ _ (field (.ref it) 0>>=λ_=>_) _ _ s
 refine wpAny_bind (wpAny_field hob hdt (x:=Value.ref t) rfl ?_)
 show wpAny _ _ (if (Value.ref t==Value.none)=true then _ else (_:Sem _)) _ _ s
 rw[if_neg (show ¬ (Value.ref t==Value.none)=true from λz=>AV z)]
 show wpAny _ _ (field (.ref it) 1>>=λ_=>_) _ _ s
 refine wpAny_bind (wpAny_field hob hdt (x:=Value.int i 0) rfl ?_)
 show wpAny _ _ (seqItems? (.ref t)>>=λ_=>_) _ _ s
 refine wpAny_bind (wpAny_seqItems ho2 hd2 ?_)
 simp only[An,hx]
 refine wpAny_bind (wpAny_rule (wpAny_bind (wpAny_setField hob hdt (by simp) ?_)))
 show wpAny _ _ (newExc (.type "StopIteration") []>>=λ_=>_) _ _ _
 refine wpAny_bind ?_
 simp only[newExc,newTuple]
 refine wpAny_bind (wpAny_newObj_type ?_ (by size_fits))
 refine wpAny_bind (m:=firstArgMember _ _) (wpAny_of_eq (a:=Value.none) (by first|rfl|(simp only[firstArgMember];rfl)) (wpAny_newObj_type ?_ (by size_fits)))
 simp only[raiseNew]
 refine wpAny_bind (wpAny_handled ?_)
 first|rw[show A.in1.handled=none from hh]|rw[hh]
 refine wpAny_bind (wpAny_pure (wpAny_throw (hE _ _ (((CW ..).extBut.push _).push _) ⟨_,AM _ rfl,rfl⟩)))
theorem SK.next{k:SK}{it l:Addr}{i:Nat}{items:Array Value}{x:Value}{Q:Value->Shared->Prop}(hit:k.iter s.heap it l i)(hl:k.seq s.heap l items)(hx:items[i]?=some x)
  (hQ:∀h',k.iter h' it l (i+1)->Heap.SameBut it s.heap h'->Q x { s with heap:=h' }):wpAny (model prog w) A (Builtin.SmallTypes.nextOf (.ref it)) Q E s:=by
 cases k with
 |lst=>exact wpAny_nextOf_list_item hit hl hx hQ
 |tup=>exact aio_ hit hl hx hQ
theorem SK.stop{k:SK}{it l:Addr}{i:Nat}{items:Array Value}{Q:Value->Shared->Prop}(hh:A.handled=none)(hit:k.iter s.heap it l i)(hl:k.seq s.heap l items)(hx:items[i]?=none)
  (hE:∀h' e,Heap.ExtBut it s.heap h'->(∃o,h'.get? e=some o/\o.cls=.type "StopIteration")->E (.ref e) { s with heap:=h' }):wpAny (model prog w) A (Builtin.SmallTypes.nextOf (.ref it)) Q E s:=by
 cases k with
 |lst=>exact wpAny_nextOf_list_end hh hit hl hx hE
 |tup=>exact ah5_ hh hit hl hx hE
structure ZAp(z TI TO i1 i2:Addr):Prop where
 a1:TI≠z
 a2:TO≠z
 a3:i1≠z
 a4:i2≠z
 a5:TI≠TO
 a6:TI≠i1
 a7:TI≠i2
 a8:TO≠i1
 a9:TO≠i2
 b1:i1≠i2
structure ZSt(k1 k2:SK)(z TI TO i1 i2 l1 l2:Addr)(i:Nat)(h:Heap):Prop where
 hz:IsZip h z TI TO .none
 hTI:IsPair h TI (.ref i1) (.ref i2)
 hTO:∃a b,IsPair h TO a b
 h1:k1.iter h i1 l1 i
 h2:k2.iter h i2 l2 i
theorem an6_{k1 k2:SK}{z TI TO i1 i2 l1 l2:Addr}{i:Nat}{xs ys:Array Value}{x y:Value}{Q:Option Value->Shared->Prop}(D:ZAp z TI TO i1 i2)(Z:ZSt k1 k2 z TI TO i1 i2 l1 l2 i s.heap)(hl1:k1.seq s.heap l1 xs)(hl2:k2.seq s.heap l2 ys)
  (n1:l1≠z/\l1≠i1) (n2:l2≠z/\l2≠i1/\l2≠TO) (hx:xs[i]?=some x) (hy:ys[i]?=some y)
  (hQ:∀h',IsZip h' z TI TO (rawInt s.heap.objs.size)->IsPair h' TI (.ref i1) (.ref i2)->IsPair h' TO x y->k1.iter h' i1 l1 (i+1)->k2.iter h' i2 l2 (i+1)->IsPair h' s.heap.objs.size x y ->
   (∀c o,c≠z->c≠TO->c≠i1->c≠i2->s.heap.get? c=some o->h'.get? c=some o)->Q (some (.ref s.heap.objs.size)) { s with heap:=h' }):wpAny (model prog w) A (pyNext (.ref z)) Q E s:=by
 obtain⟨hz,hTI,⟨a,b,hTO⟩,h1,h2⟩:=Z
 have hT:s.TypeIs (.ref z) "zip" := ⟨_,hz,rfl⟩
 unfold pyNext
 refine wpAny_bind (wpAny_attempt (wpAny_callSpecial?_slot (name:=Str.ofString "__next__") hT DQ (wpAny_call_entry DQ hT F.entry_zip_next ?_ (F.args_zip_next_1 _))))
 show wpAny _ _ (field (.ref z) 2>>=λ_=>_) _ _ _
 refine wpAny_bind (wpAny_field hz rfl (x:=Value.bool false) rfl ?_)
 show wpAny _ _ (field (.ref z) 3>>=λ_=>_) _ _ _
 refine wpAny_bind (wpAny_field hz rfl (x:=Value.ref TI) rfl (wpAny_bind (wpAny_seqItems hTI rfl ?_)))
 show wpAny _ _ (Builtin.SmallTypes.ownedTupleIsFree (.ref z)>>=λ_=>_) _ _ _
 refine wpAny_bind ?_
 unfold Builtin.SmallTypes.ownedTupleIsFree
 refine wpAny_bind (wpAny_field hz rfl (x:=Value.none) rfl (wpAny_pure ?_))
 simp only[if_true]
 refine wpAny_bind (wpAny_rule (wpAny_bind (wpAny_field hz rfl (x:=Value.ref TO) rfl (wpAny_bind (wpAny_setField_rec hz (by simp) λh₁ hz₁ hs₁=>?_)))))
 have z1:IsZip h₁ z TI TO .ellipsis:=hz₁
 refine wpAny_bind ?_
 simp only[Du,List.zipIdx_nil,Cw,DX]
 refine wpAny_bind (wpAny_bind (wpAny_onRaise ?_))
 show wpAny _ _ (Builtin.SmallTypes.nextOf (.ref i1)>>=λ_=>_) _ _ _
 refine wpAny_bind (SK.next (SK.iter_keep h1 λo e=>hs₁.extBut _ _ D.a3 e) (SK.seq_keep hl1 λo e=>hs₁.extBut _ _ n1.1 e) hx λh₂ p₂ hs₂=>wpAny_pure ?_)
 have t2:IsPair h₂ TO a b:=hs₂.extBut _ _ D.a8 (hs₁.extBut _ _ D.a2 hTO)
 refine wpAny_bind (wpAny_seqItems t2 rfl (wpAny_bind (wpAny_updateSeq_pair t2 λh₃ q₃ hs₃=>?_)))
 have t3:IsPair h₃ TO x b:=q₃
 refine wpAny_bind (wpAny_letGo (wpAny_pure (wpAny_bind (wpAny_bind (wpAny_onRaise ?_)))))
 show wpAny _ _ (Builtin.SmallTypes.nextOf (.ref i2)>>=λ_=>_) _ _ _
 refine wpAny_bind (SK.next (SK.iter_keep h2 λo e=>hs₃.extBut _ _ D.a9.symm (hs₂.extBut _ _ D.b1.symm (hs₁.extBut _ _ D.a4 e))) (SK.seq_keep hl2 λo e=>hs₃.extBut _ _ n2.2.2 (hs₂.extBut _ _ n2.2.1 (hs₁.extBut _ _ n2.1 e))) hy λh₄ p₄ hs₄=>wpAny_pure ?_)
 have t4:IsPair h₄ TO x b:=hs₄.extBut _ _ D.a9 t3
 refine wpAny_bind (wpAny_seqItems t4 rfl (wpAny_bind (wpAny_updateSeq_pair t4 λh₅ q₅ hs₅=>?_)))
 have t5:IsPair h₅ TO x y:=q₅
 refine wpAny_bind (wpAny_letGo (wpAny_pure (wpAny_pure (wpAny_bind (wpAny_seqItems t5 rfl (wpAny_bind (wpAny_newTuple ?_)))))))
 have sz:h₅.objs.size=s.heap.objs.size:=by rw[hs₅.1,hs₄.1,hs₃.1,hs₂.1,hs₁.1]
 have z5:IsZip h₅ z TI TO .ellipsis:=hs₅.extBut _ _ D.a2.symm (hs₄.extBut _ _ D.a4.symm (hs₃.extBut _ _ D.a2.symm (hs₂.extBut _ _ D.a3.symm z1)))
 have k5:∀c o,c≠z->c≠TO->c≠i1->c≠i2->s.heap.get? c=some o->h₅.get? c=some o:=λc o c1 c2 c3 c4 e=>hs₅.extBut _ _ c2 (hs₄.extBut _ _ c4 (hs₃.extBut _ _ c2 (hs₂.extBut _ _ c3 (hs₁.extBut _ _ c1 e))))
 have r1:k1.iter h₅ i1 l1 (i+1):=SK.iter_keep p₂ λo e=>hs₅.extBut _ _ D.a8.symm (hs₄.extBut _ _ D.b1 (hs₃.extBut _ _ D.a8.symm e))
 have r2:k2.iter h₅ i2 l2 (i+1):=SK.iter_keep p₄ λo e=>hs₅.extBut _ _ D.a9.symm e
 show wpAny _ _ (Builtin.SmallTypes.ownedTupleHandOut (.ref z) (.ref h₅.objs.size)>>=λ_=>_) _ _ _
 refine wpAny_bind ?_
 unfold Builtin.SmallTypes.ownedTupleHandOut
 have z6:IsZip (h₅.push { cls:=.type "tuple",data:=.seq #[x,y] }) z TI TO .ellipsis:=AB _ z5
 refine wpAny_bind (wpAny_setField_rec z6 (by simp) λh₇ q₇ hs₇=>?_)
 have z7:IsZip h₇ z TI TO (rawInt h₅.objs.size):=q₇
 refine wpAny_setField_rec z7 (by simp) λh₈ q₈ hs₈=>?_
 have z8:IsZip h₈ z TI TO (rawInt h₅.objs.size):=q₈
 have zlt:z<h₅.objs.size:=AI z5
 have up:∀c o,c≠z->h₅.get? c=some o->h₈.get? c=some o:=λc o c1 e=>hs₈.extBut _ _ c1 (hs₇.extBut _ _ c1 (AB _ e))
 have t8:IsPair h₈ h₅.objs.size x y:=hs₈.extBut _ _ (Ba zlt) (hs₇.extBut _ _ (Ba zlt) (AM _ rfl))
 rw[sz]at z8 t8
 refine wpAny_pure ⟨_,rfl,?_⟩
 show wpAny _ _ _ _ _ _
 refine wpAny_pure ?_
 have fin:=hQ h₈ z8 (up _ _ D.a1 (k5 _ _ D.a1 D.a5 D.a6 D.a7 hTI)) (up _ _ D.a2 t5) (SK.iter_keep r1 λo e=>up _ o D.a3 e) (SK.iter_keep r2 λo e=>up _ o D.a4 e) t8 λc o c1 c2 c3 c4 e=>up c o c1 (k5 c o c1 c2 c3 c4 e)
 show Q (some (.ref h₅.objs.size)) _
 rw[sz]
 exact fin
theorem apu_{k1 k2:SK}{z TI TO i1 i2 l1 l2:Addr}{i:Nat}{xs ys:Array Value}{Q:Option Value->Shared->Prop}(hh:A.handled=none)(D:ZAp z TI TO i1 i2)(Z:ZSt k1 k2 z TI TO i1 i2 l1 l2 i s.heap)(hl1:k1.seq s.heap l1 xs)(hl2:k2.seq s.heap l2 ys)
  (n1:l1≠z/\l1≠i1) (n2:l2≠z/\l2≠i1/\l2≠TO) (hend:xs[i]?=none∨ys[i]?=none)
  (hQ:∀h',(∀c o,c≠z->c≠TO->c≠i1->c≠i2->s.heap.get? c=some o->h'.get? c=some o)->Q none { s with heap:=h' }):wpAny (model prog w) A (pyNext (.ref z)) Q E s:=by
 obtain⟨hz,hTI,⟨a,b,hTO⟩,h1,h2⟩:=Z
 have hT:s.TypeIs (.ref z) "zip" := ⟨_,hz,rfl⟩
 have stop:∀(h':Heap)(e:Addr),(∃o,h'.get? e=some o/\o.cls=.type "StopIteration")->(∀c o,c≠z->c≠TO->c≠i1->c≠i2->s.heap.get? c=some o->h'.get? c=some o) ->
   wpAny (model prog w) A (isInstance (.ref e) (.type "StopIteration")>>=λb=>if b=true then pure none else throw (.ref e)) Q E { s with heap:=h' }:=by
  rintro h' e ⟨o,ho,hc⟩ hk
  exact wpAny_bind (wpAny_isInstance (T := "StopIteration") (b:=true) ⟨o,ho,hc⟩ isSubtype_stop (wpAny_pure (hQ _ hk)))
 unfold pyNext
 refine wpAny_bind (wpAny_attempt (wpAny_callSpecial?_slot (name:=Str.ofString "__next__") hT DQ (wpAny_call_entry DQ hT F.entry_zip_next ?_ (F.args_zip_next_1 _))))
 show wpAny _ _ (field (.ref z) 2>>=λ_=>_) _ _ _
 refine wpAny_bind (wpAny_field hz rfl (x:=Value.bool false) rfl ?_)
 show wpAny _ _ (field (.ref z) 3>>=λ_=>_) _ _ _
 refine wpAny_bind (wpAny_field hz rfl (x:=Value.ref TI) rfl (wpAny_bind (wpAny_seqItems hTI rfl ?_)))
 show wpAny _ _ (Builtin.SmallTypes.ownedTupleIsFree (.ref z)>>=λ_=>_) _ _ _
 refine wpAny_bind ?_
 unfold Builtin.SmallTypes.ownedTupleIsFree
 refine wpAny_bind (wpAny_field hz rfl (x:=Value.none) rfl (wpAny_pure ?_))
 simp only[if_true]
 refine wpAny_bind (wpAny_rule (wpAny_bind (wpAny_field hz rfl (x:=Value.ref TO) rfl (wpAny_bind (wpAny_setField_rec hz (by simp) λh₁ hz₁ hs₁=>?_)))))
 have z1:IsZip h₁ z TI TO .ellipsis:=hz₁
 refine wpAny_bind ?_
 simp only[Du,List.zipIdx_nil,Cw,DX]
 refine wpAny_bind (wpAny_bind (wpAny_onRaise ?_))
 show wpAny _ _ (Builtin.SmallTypes.nextOf (.ref i1)>>=λ_=>_) _ _ _
 cases hx:xs[i]? with
 |none =>
  refine wpAny_bind (SK.stop hh (SK.iter_keep h1 λo e=>hs₁.extBut _ _ D.a3 e) (SK.seq_keep hl1 λo e=>hs₁.extBut _ _ n1.1 e) hx λh₂ e hs₂ he=>?_)
  obtain⟨oe,hoe,hce⟩:=he
  have z2:IsZip h₂ z TI TO .ellipsis:=hs₂ _ _ D.a3.symm z1
  have ez:e≠z:=λq=>by subst q;rw[z2]at hoe;cases hoe;simp at hce
  refine wpAny_setField_rec z2 (by simp) λh₃ _ hs₃=>?_
  exact stop h₃ e ⟨oe,hs₃.extBut _ _ ez hoe,hce⟩ λc o c1 _ c3 _ q=>hs₃.extBut _ _ c1 (hs₂ _ _ c3 (hs₁.extBut _ _ c1 q))
 |some x =>
  have hy:ys[i]?=none:=by
   rcases hend with h|h
   ·rw[hx]at h;cases h
   ·exact h
  refine wpAny_bind (SK.next (SK.iter_keep h1 λo e=>hs₁.extBut _ _ D.a3 e) (SK.seq_keep hl1 λo e=>hs₁.extBut _ _ n1.1 e) hx λh₂ p₂ hs₂=>wpAny_pure ?_)
  have t2:IsPair h₂ TO a b:=hs₂.extBut _ _ D.a8 (hs₁.extBut _ _ D.a2 hTO)
  refine wpAny_bind (wpAny_seqItems t2 rfl (wpAny_bind (wpAny_updateSeq_pair t2 λh₃ q₃ hs₃=>?_)))
  refine wpAny_bind (wpAny_letGo (wpAny_pure (wpAny_bind (wpAny_bind (wpAny_onRaise ?_)))))
  show wpAny _ _ (Builtin.SmallTypes.nextOf (.ref i2)>>=λ_=>_) _ _ _
  refine wpAny_bind (SK.stop hh (SK.iter_keep h2 λo e=>hs₃.extBut _ _ D.a9.symm (hs₂.extBut _ _ D.b1.symm (hs₁.extBut _ _ D.a4 e))) (SK.seq_keep hl2 λo e=>hs₃.extBut _ _ n2.2.2 (hs₂.extBut _ _ n2.2.1 (hs₁.extBut _ _ n2.1 e))) hy λh₄ e hs₄ he=>?_)
  obtain⟨oe,hoe,hce⟩:=he
  have z4:IsZip h₄ z TI TO .ellipsis:=hs₄ _ _ D.a4.symm (hs₃.extBut _ _ D.a2.symm (hs₂.extBut _ _ D.a3.symm z1))
  have ez:e≠z:=λq=>by subst q;rw[z4]at hoe;cases hoe;simp at hce
  refine wpAny_setField_rec z4 (by simp) λh₅ _ hs₅=>?_
  exact stop h₅ e ⟨oe,hs₅.extBut _ _ ez hoe,hce⟩ λc o c1 c2 c3 c4 q=>hs₅.extBut _ _ c1 (hs₄ _ _ c4 (hs₃.extBut _ _ c2 (hs₂.extBut _ _ c3 (hs₁.extBut _ _ c1 q))))
end
end L2.Ev
namespace L2.Ev
open PySem PySem.Spec PyProof.Rows
abbrev zh1(k1:SK)(h:Heap)(l1:Addr):Heap:=h.push (k1.ob l1)
abbrev zh2(k1 k2:SK)(h:Heap)(l1 l2:Addr):Heap:=(zh1 k1 h l1).push (k2.ob l2)
abbrev zh3(k1 k2:SK)(h:Heap)(l1 l2:Addr):Heap:=(zh2 k1 k2 h l1 l2).push { cls:=.type "tuple",data:=.seq #[.ref h.objs.size,.ref (zh1 k1 h l1).objs.size] }
abbrev zh4(k1 k2:SK)(h:Heap)(l1 l2:Addr):Heap:=(zh3 k1 k2 h l1 l2).push { cls:=.type "tuple",data:=.seq #[.none,.none] }
abbrev zh5(k1 k2:SK)(h:Heap)(l1 l2:Addr):Heap:=(zh4 k1 k2 h l1 l2).push { cls:=.type "zip",data:=.fields #[.none,.bool false,.bool false,.ref (zh2 k1 k2 h l1 l2).objs.size,.ref (zh3 k1 k2 h l1 l2).objs.size] }
theorem SK.seq_push{k:SK}{h:Heap}{l:Addr}{xs:Array Value}(x:k.seq h l xs)(o:Obj):k.seq (h.push o) l xs:=SK.seq_keep x λ_ e=>AB _ e
set_option maxHeartbeats 8000000 in
theorem apv_(k1 k2:SK)(l1 l2:Addr)(xs ys:Array Value) :
  Meets (Builtin.«zip.__new__» ⟨[.type "zip",.ref l1,.ref l2],[]⟩) (λ_ R s=>k1.seq s.heap l1 xs/\k2.seq s.heap l2 ys/\R (.ok (.ret (.ref (zh4 k1 k2 s.heap l1 l2).objs.size))) { s with heap:=zh5 k1 k2 s.heap l1 l2 }) :=
 .of_wp λprog w A R s h=>by
  obtain⟨hp,g,d,tk,os⟩:=s
  obtain⟨hl1,hl2,h⟩:=h
  have hsub:=sub_zip
  have q1:k1.seq (Shared.heap ⟨hp,g,d,tk,os⟩) l1 xs:=hl1
  have q2:k2.seq (Shared.heap ⟨hp.push (k1.ob l1),g,d,tk,os⟩) l2 ys:=SK.seq_push hl2 _
  cases k1 with
  |lst =>
   cases k2 with
   |lst =>
    have w1:Heap.IsList (Shared.heap ⟨hp,g,d,tk,os⟩) l1 xs:=q1
    have w2:Heap.IsList (Shared.heap ⟨hp.push { cls:=.type "list_iterator",data:=.fields #[.ref l1,.int 0 0] },g,d,tk,os⟩) l2 ys:=q2
    wp_walk using wpAny_pyIter_list w1,wpAny_pyIter_list w2
    exact⟨_,rfl,h⟩
   |tup =>
    have w1:Heap.IsList (Shared.heap ⟨hp,g,d,tk,os⟩) l1 xs:=q1
    have w2:Heap.IsTuple (Shared.heap ⟨hp.push { cls:=.type "list_iterator",data:=.fields #[.ref l1,.int 0 0] },g,d,tk,os⟩) l2 ys:=q2
    wp_walk using wpAny_pyIter_list w1,wpAny_pyIter_tuple w2
    exact⟨_,rfl,h⟩
  |tup =>
   cases k2 with
   |lst =>
    have w1:Heap.IsTuple (Shared.heap ⟨hp,g,d,tk,os⟩) l1 xs:=q1
    have w2:Heap.IsList (Shared.heap ⟨hp.push { cls:=.type "tuple_iterator",data:=.fields #[.ref l1,.int 0 0] },g,d,tk,os⟩) l2 ys:=q2
    wp_walk using wpAny_pyIter_tuple w1,wpAny_pyIter_list w2
    exact⟨_,rfl,h⟩
   |tup =>
    have w1:Heap.IsTuple (Shared.heap ⟨hp,g,d,tk,os⟩) l1 xs:=q1
    have w2:Heap.IsTuple (Shared.heap ⟨hp.push { cls:=.type "tuple_iterator",data:=.fields #[.ref l1,.int 0 0] },g,d,tk,os⟩) l2 ys:=q2
    wp_walk using wpAny_pyIter_tuple w1,wpAny_pyIter_tuple w2
    exact⟨_,rfl,h⟩
theorem akh_(n:Nat):ZAp (n+4) (n+2) (n+3) n (n+1):=by
 constructor<;>(show(_:Nat)≠_)<;>omega
theorem an3_{k1 k2:SK}{l1 l2:Addr}{xs ys:Array Value}{Q:Value->Shared->Prop}{prog:Program}{w:World}{A:Around}{E:Value->Shared->Prop}{s:Shared}(hl1:k1.seq s.heap l1 xs)(hl2:k2.seq s.heap l2 ys)
  (h:∀h',ZSt k1 k2 (s.heap.objs.size+4) (s.heap.objs.size+2) (s.heap.objs.size+3) s.heap.objs.size (s.heap.objs.size+1) l1 l2 0 h'->(∀c o,s.heap.get? c=some o->h'.get? c=some o)->Q (.ref (s.heap.objs.size+4)) { s with heap:=h' }) :
  wpAny (model prog w) A (call (.type "zip") [.ref l1,.ref l2]) Q E s:=by
 refine callType_new F.called_zip (by decide) (F.typeCall_zip_2 _ _) (F.newCall_zip_2 _ _) (λobj=>F.args_object_init_3 obj _ _) F.entry_zip_new (apv_ k1 k2 l1 l2 xs ys) ⟨hl1,hl2,?_⟩
 have e1:(zh1 k1 s.heap l1).objs.size=s.heap.objs.size+1:=BP ..
 have e2:(zh2 k1 k2 s.heap l1 l2).objs.size=s.heap.objs.size+2:=by rw[BP,e1]
 have e3:(zh3 k1 k2 s.heap l1 l2).objs.size=s.heap.objs.size+3:=by rw[BP,e2]
 have e4:(zh4 k1 k2 s.heap l1 l2).objs.size=s.heap.objs.size+4:=by rw[BP,e3]
 have g5:(zh5 k1 k2 s.heap l1 l2).get? (zh4 k1 k2 s.heap l1 l2).objs.size=some _:=AM _ rfl
 have g4:(zh5 k1 k2 s.heap l1 l2).get? (zh3 k1 k2 s.heap l1 l2).objs.size=some _:=AB _ (AM _ rfl)
 have g3:(zh5 k1 k2 s.heap l1 l2).get? (zh2 k1 k2 s.heap l1 l2).objs.size=some _:=AB _ (AB _ (AM _ rfl))
 have f2:(k2.ob l2).isFreed=false:=by cases k2<;>rfl
 have f1:(k1.ob l1).isFreed=false:=by cases k1<;>rfl
 have g2:(zh5 k1 k2 s.heap l1 l2).get? (zh1 k1 s.heap l1).objs.size=some (k2.ob l2):=AB _ (AB _ (AB _ (AM _ f2)))
 have g1:(zh5 k1 k2 s.heap l1 l2).get? s.heap.objs.size=some (k1.ob l1):=AB _ (AB _ (AB _ (AB _ (AM _ f1))))
 have fin:=h (zh5 k1 k2 s.heap l1 l2) ⟨by rw[e2,e3,e4]at g5;exact g5,by rw[e1,e2]at g3;exact g3,⟨_,_,by rw[e3]at g4;exact g4⟩,SK.iter_new g1,SK.iter_new (by rw[e1]at g2;exact g2)⟩
  λc o e=>AB _ (AB _ (AB _ (AB _ (AB _ e))))
 rw[<-e4]at fin
 exact⟨⟨_,g5,rfl⟩,fin⟩
def Itz(K:PySem.W.Frag)(k1 k2:SK)(a b:Addr):It :=
 ⟨λi H=>∃xs ys x y,k1.is K H a xs/\k2.is K H b ys/\xs[i]?=some x/\ys[i]?=some y,
  λi H v H'=>∃p x y,v=.ref p/\H p=none/\H'=upd H p (.tup [x,y])/\(∀xs,k1.is K H a xs->xs[i]?=some x)/\∀ys,k2.is K H b ys->ys[i]?=some y,
  λi H=>∃xs ys,k1.is K H a xs/\k2.is K H b ys/\(xs.length<=i∨ys.length<=i)⟩
theorem jf_{X:Cx}{pins:List (Addr×Obj)}{σ:St}{H:Hp}{s:Shared}{a c:Addr}{xs:List V}{k:SK}(I:Inv X pins σ H s)(h:k.is X.K H a xs)(f:js_ X pins H c):a≠c:=by
 intro e
 subst e
 have known:∀o,X.K.lookup a=some o->False:=λo q=>by
  have e:=I.ok.mod.kin a o q
  rcases f.2.2.2.1 with z|z
  ·exact I.ok.noex a o e z
  ·exact absurd (Ac (AI e) (Aj I.ok.bsz z)) (BX _)
 cases k with
 |lst =>
  rcases h with(h|⟨o,h⟩)|⟨o,_,_,q,_⟩
  ·rw[f.1]at h;cases h
  ·rw[f.1]at h;cases h
  ·exact known o q
 |tup =>
  rcases h with(h|⟨o,h⟩)|⟨o,_,_,q,_⟩
  ·rw[f.1]at h;cases h
  ·rw[f.1]at h;cases h
  ·exact known o q
theorem xi_{X:Cx}{pins:List (Addr×Obj)}{σ:St}{H H':Hp}{s:Shared}{h':Heap}{t':Nat}{ch:List Addr}(I:Inv X pins σ H s)(hf:∀b∈ch,js_ X pins H b)(k:∀b o,b∉ch->s.heap.get? b=some o->h'.get? b=some o)
  (new:∀b,b<s.heap.objs.size->H' b=H b) (hok:HOk X.prog X.w H' h'):Inv X pins σ H' { s with heap:=h',toks:=t' }:=by
 have lt:∀{b u},H b=some u->b<s.heap.objs.size:=λe=>I.hok.lt e
 refine I.step (g':=s.gens) (d':=s.drawn) (ch:=ch) (λb hb=>⟨(hf b hb).2.2.2.1,(hf b hb).2.1,(hf b hb).2.2.2.2.1,(hf b hb).2.2.2.2.2⟩) (λb o _ _ hc e _=>k b o hc e) (λb o _ _ hc e _=>⟨o.slots,k b o hc e⟩) (λb o _ e n=>by rw[new b (AI e)];exact n)
  (λb o hc e=>⟨o,k b o hc e⟩) (λb xs e=>by rw[new b (lt e)];exact e) (λb o u e=>by rw[new b (lt e)];exact e) (λb ps e=>⟨#[],by rw[new b (lt e),e];simp⟩) (λm hm=>?_) hok I.bare
 obtain⟨o,es,ep,ho,r⟩:=hm
 exact⟨o,es,ep,k _ o (λz=>(hf _ z).2.1 rfl) ho,r⟩
theorem ai2_{P:Program}{w:World}{K:PySem.W.Frag}{elts:List Expr}{x1}{pos:Pos}(k1 k2:SK)(a b z TI TO i1 i2:Addr)(D:ZAp z TI TO i1 i2) :
  Turn P w K (.Tuple elts x1 pos) (Itz K k1 k2 a b) [z,TI,TO,i1,i2] z (λi h=>ZSt k1 k2 z TI TO i1 i2 a b i h) where
 mem:=by simp
 obj:=λi h st c hc=>by
  obtain⟨hz,hTI,⟨u,v,hTO⟩,h1,h2⟩:=st
  have it:∀{k:SK}{i l:Addr}{n:Nat},k.iter h i l n->∃o,h.get? i=some o/\∀v,o.data≠.cell v:=λ{k i l n} x=>by
   cases k with
   |lst=>obtain⟨o,e,_,d⟩:=x;exact⟨o,e,λv q=>by rw[d]at q;cases q⟩
   |tup=>obtain⟨o,e,_,d⟩:=x;exact⟨o,e,λv q=>by rw[d]at q;cases q⟩
  simp only[AJ,BR,or_false]at hc
  rcases hc with rfl|rfl|rfl|rfl|rfl
  ·exact⟨_,hz,λv q=>by cases(show Data.fields _=Data.cell v from q)⟩
  ·exact⟨_,hTI,λv q=>by cases(show Data.seq _ _=Data.cell v from q)⟩
  ·exact⟨_,hTO,λv q=>by cases(show Data.seq _ _=Data.cell v from q)⟩
  ·exact it h1
  ·exact it h2
 keep:=λi h h' st k=>by
  obtain⟨hz,hTI,⟨u,v,hTO⟩,h1,h2⟩:=st
  exact⟨k z (by simp) _ hz,k TI (by simp) _ hTI,⟨u,v,k TO (by simp) _ hTO⟩,SK.iter_keep h1 λo e=>k i1 (by simp) o e,SK.iter_keep h2 λo e=>k i2 (by simp) o e⟩
 item:=by
  intro X hP hw hK hc i pins s σ H E I hf st hg
  subst hP hw hK
  obtain⟨xs,ys,x,y,q1,q2,hx,hy⟩:=hg
  obtain⟨its,r1,p1⟩:=SK.at I q1
  obtain⟨its',r2,p2⟩:=SK.at I q2
  obtain⟨u,hu,ru⟩:=r1.get hx
  obtain⟨v,hv,rv⟩:=r2.get hy
  have fz:=hf z (by simp)
  have fTO:=hf TO (by simp)
  have f1:=hf i1 (by simp)
  have f2:=hf i2 (by simp)
  refine an6_ D st p1 p2 ⟨jf_ I q1 fz,jf_ I q1 f1⟩ ⟨jf_ I q2 fz,jf_ I q2 f1,jf_ I q2 fTO⟩ (x:=u) (y:=v) (by simpa using hu) (by simpa using hv) λh' a1 a2 a3 a4 a5 a6 a7=>?_
  refine⟨_,rfl,wpAny_letOwnedTupleGo_zip (s:={ s with heap:=h' }) a1 λh'' b1 b2=>?_⟩
  have kp:∀c o,c∉[z,TO,i1,i2]->s.heap.get? c=some o->h''.get? c=some o:=λc o hc e=>by
   simp only[AJ,BR,or_false,not_or]at hc
   exact b2.extBut _ _ hc.1 (a7 c o hc.1 hc.2.1 hc.2.2.1 hc.2.2.2 e)
  have zlt:z<s.heap.objs.size:=AI st.hz
  have hT:IsPair h'' s.heap.objs.size u v:=b2.extBut _ _ (Ba zlt) a6
  have hf4:∀c∈[z,TO,i1,i2],js_ X pins H c:=λc hc=>by
   simp only[AJ,BR,or_false]at hc
   rcases hc with rfl|rfl|rfl|rfl
   ·exact fz
   ·exact fTO
   ·exact f1
   ·exact f2
  have hn:H s.heap.objs.size=none:=I.fresh
  have hok:HOk X.prog X.w (upd H s.heap.objs.size (.tup [x,y])) h'':=λc o e=>by
   by_cases hc:c=s.heap.objs.size
   ·subst hc
    rw[qc_]at e
    cases e
    exact⟨by show 2<=sizeLine;decide,[u,v],.cons ru (.cons rv .nil),⟨_,hT,rfl,_,rfl,rfl⟩⟩
   ·rw[qk_ hc]at e
    refine(I.hok c o e).stay (λd v2 hd q=>kp d v2 (λm=>?_) q) (λd q=>by rw[qk_ (qq_ q hn)];exact q) λd xs q=>by rw[qk_ (qq_ q hn)];exact q
    have z:=(hf4 d m).1
    rcases hd with rfl|hd
    ·rw[e]at z;cases z
    ·rw[hd]at z;cases z
  have I9:Inv X pins σ (upd H s.heap.objs.size (.tup [x,y])) { s with heap:=h'',toks:=s.toks }:=xi_ (s:=s) I hf4 kp (λc hc=>qk_ (Ag hc)) hok
  refine⟨.ref s.heap.objs.size,upd H s.heap.objs.size (.tup [x,y]),I9,rfl,⟨s.heap.objs.size,x,y,rfl,hn,rfl,λzs hz=>by rw[SK.inj I hz q1];exact hx,λzs hz=>by rw[SK.inj I hz q2];exact hy⟩,?_,λc hc=>?_⟩
  ·exact⟨b1,b2.extBut _ _ D.a1 a2,⟨u,v,b2.extBut _ _ D.a2 a3⟩,SK.iter_keep a4 λo e=>b2.extBut _ _ D.a3 e,SK.iter_keep a5 λo e=>b2.extBut _ _ D.a4 e⟩
  ·obtain⟨o,e⟩:∃o,s.heap.get? c=some o:=by
    obtain⟨hz,hTI,⟨u,v,hTO⟩,h1,h2⟩:=st
    simp only[AJ,BR,or_false]at hc
    rcases hc with rfl|rfl|rfl|rfl|rfl
    ·exact⟨_,hz⟩
    ·exact⟨_,hTI⟩
    ·exact⟨_,hTO⟩
    ·cases k1 with
     |lst=>obtain⟨o,e,_⟩:=h1;exact⟨o,e⟩
     |tup=>obtain⟨o,e,_⟩:=h1;exact⟨o,e⟩
    ·cases k2 with
     |lst=>obtain⟨o,e,_⟩:=h2;exact⟨o,e⟩
     |tup=>obtain⟨o,e,_⟩:=h2;exact⟨o,e⟩
   rw[qk_ (Ag (AI e))]
   exact(hf c hc).1
 done:=by
  intro X hP hw hK hc i pins s σ H E I hf st hg
  subst hP hw hK
  obtain⟨xs,ys,q1,q2,hx⟩:=hg
  obtain⟨its,r1,p1⟩:=SK.at I q1
  obtain⟨its',r2,p2⟩:=SK.at I q2
  have fz:=hf z (by simp)
  have fTO:=hf TO (by simp)
  have f1:=hf i1 (by simp)
  have f2:=hf i2 (by simp)
  have l1:=r1.length
  have l2:=r2.length
  refine apu_ (I.ok.hd hc) D st p1 p2 ⟨jf_ I q1 fz,jf_ I q1 f1⟩ ⟨jf_ I q2 fz,jf_ I q2 f1,jf_ I q2 fTO⟩ (hx.imp (λq=>by simp;omega) λq=>by simp;omega) λh' a7=>⟨rfl,?_⟩
  have hf4:∀c∈[z,TO,i1,i2],js_ X pins H c:=λc hc=>by
   simp only[AJ,BR,or_false]at hc
   rcases hc with rfl|rfl|rfl|rfl
   ·exact fz
   ·exact fTO
   ·exact f1
   ·exact f2
  have kp:∀c o,c∉[z,TO,i1,i2]->s.heap.get? c=some o->h'.get? c=some o:=λc o hc e=>by
   simp only[AJ,BR,or_false,not_or]at hc
   exact a7 c o hc.1 hc.2.1 hc.2.2.1 hc.2.2.2 e
  refine xi_ (h':=h') (t':=s.toks) I hf4 kp (λc _=>rfl) λc o e=>?_
  refine(I.hok c o e).stay (λd v2 hd q=>kp d v2 (λm=>?_) q) (λd q=>q) λd xs q=>q
  have z:=(hf4 d m).1
  rcases hd with rfl|hd
  ·rw[e]at z;cases z
  ·rw[hd]at z;cases z
 self:=λ_ _ _ _ _ st h=>wpAny_pyIter_zip st.hz h
def iZip(K:PySem.W.Frag)(k1 k2:SK)(ta:TA):TI:=λσ H R=>ta σ H λvs H1=>∃a b,vs=[.ref a,.ref b]/\(∃xs,k1.is K H1 a xs)/\(∃ys,k2.is K H1 b ys)/\R (Itz K k1 k2 a b) H1
theorem vp_{X:Cx}{ea eb:Expr}{ta:TA}{p pos tp:Pos}{elts:List Expr}{x1}(k1 k2:SK)(hg:Gl X "zip")(hm:X.mg "zip" = none)(ha:PA X [ea,eb] ta)(hs:starEach [ea,eb] X.env=(false,eval ea X.env)::starEach [eb] X.env:=by rfl)(hs2:(backTo pos (starEach [eb] X.env)).any (·.1)=false:=by rfl) :
  PI X (.Tuple elts x1 tp) (.Call (.Name "zip" p) [ea,eb] [] pos) (iZip X.K k1 k2 ta):=by
 intro pins s σ H R I h
 refine Call_ (jl_ I hg hm boot_zip (B0 (thn (ha pos pins s σ H _ I h) λus s1 ⟨vs,H1,I1,r1,q1⟩=>?_) hs hs2))
 obtain⟨a,b,rfl,⟨xs,ex⟩,⟨ys,ey⟩,q⟩:=q1
 obtain⟨u,v,rfl,ru,rv⟩:=jE_ r1
 cases ru
 cases rv
 obtain⟨its,r1,p1⟩:=SK.at I1 ex
 obtain⟨its',r2,p2⟩:=SK.at I1 ey
 refine an3_ p1 p2 λh' Z kp=>?_
 refine wpAny_pyIter_zip Z.hz ?_
 have I2:Inv X pins σ H1 { s1 with heap:=h' }:=I1.kept (t':=s1.toks) kp
 refine⟨_,[s1.heap.objs.size+4,s1.heap.objs.size+2,s1.heap.objs.size+3,s1.heap.objs.size,s1.heap.objs.size+1],_,_,H1,rfl,I2,ai2_ k1 k2 a b _ _ _ _ _ (akh_ _),Z,λc hc=>?_,q⟩
 have ge:s1.heap.objs.size<=c:=by
  simp only[AJ,BR,or_false]at hc
  rcases hc with rfl|rfl|rfl|rfl|rfl
  ·exact Cl _ _
  ·exact Cl _ _
  ·exact Cl _ _
  ·exact AG _
  ·exact Cl _ _
 exact I1.fpOk ge (I1.hok.fresh ge)
end L2.Ev
namespace L2.Ev
open PySem PySem.Spec PyProof.Rows
open L2.Ts L2.Pl L2.Rw
section
variable{X:Cx}{α:Type}[D:Dat α][S:Srtd α]
noncomputable def yq_(α:Type)[D:Dat α][S:Srtd α](H:Hp)(l:List α)(p:Keyed):Nat:=by
 classical exact if h:∃a:α,∃v,RelV v p.1/\D.is H v a then xo_ S.lt l h.choose else 0
theorem yy_{H:Hp}{l:List α}{p:Keyed}{v:V}{a:α}(r:RelV v p.1)(h:D.is H v a):yq_ α H l p=xo_ S.lt l a:=by
 unfold yq_
 have e:∃a:α,∃v,RelV v p.1/\D.is H v a:=⟨a,v,r,h⟩
 rw[dif_pos e]
 obtain⟨v',r',h'⟩:=e.choose_spec
 have:v'=v:=RelV.inj r' r
 subst this
 rw[D.inj h' h]
theorem Paired.perm{β γ:Type}{F:β->γ->Prop}{l l':List β}(p:l'.Perm l):∀{m:List γ},Paired F l m->∃m',m'.Perm m/\Paired F l' m':=by
 induction p with
 |nil=>intro m h;exact⟨m,List.Perm.refl _,h⟩
 |cons x _ ih =>
  intro m h
  cases h with
  |cons r t =>
   obtain⟨m',p',h'⟩:=ih t
   exact⟨_::m',p'.cons _,.cons r h'⟩
 |swap x y l =>
  intro m h
  cases h with
  |cons r t =>
   cases t with
   |cons r2 t2=>exact⟨_,List.Perm.swap _ _ _,.cons r2 (.cons r t2)⟩
 |trans _ _ i1 i2 =>
  intro m h
  obtain⟨m1,p1,h1⟩:=i2 h
  obtain⟨m2,p2,h2⟩:=i1 h1
  exact⟨m2,p2.trans p1,h2⟩
theorem Paired.mem{β γ:Type}{F:β->γ->Prop}{l:List β}{m:List γ}(h:Paired F l m){x:β}(hx:x∈l):∃y∈m,F x y:=by
 induction h with
 |nil=>cases hx
 |cons r t ih =>
  rcases AJ.mp hx with e|hx
  ·subst e;exact⟨_,AD ..,r⟩
  ·obtain⟨y,hy,f⟩:=ih hx
   exact⟨y,AC _ hy,f⟩
abbrev xu_(α:Type)[D:Dat α](H:Hp)(its:List Value)(l:List α):Prop:=Paired (λu a=>∃v,RelV v u/\D.is H v a) its l
theorem adi_{H:Hp}:∀{vs:List V}{its:List Value}{l:List α},Vals vs its->Its H vs l->xu_ α H its l
 |_,_,_,.nil,.nil=>.nil
 |_,_,_,.cons r t,.cons q u=>.cons ⟨_,r,q⟩ (adi_ t u)
theorem ac0_{H:Hp}{its:List Value}{l:List α}(h:xu_ α H its l):∃vs,Vals vs its/\Its H vs l:=by
 induction h with
 |nil=>exact⟨[],.nil,.nil⟩
 |cons r t ih =>
  obtain⟨v,rv,d⟩:=r
  obtain⟨vs,a,b⟩:=ih
  exact⟨v::vs,.cons rv a,.cons d b⟩
theorem acj_{H:Hp}{l0:List α}{out:List Value}{m:List α}(h:xu_ α H out m)(hm:∀a∈m,a∈l0)(o:out.Pairwise λx y=>yq_ α H l0 (y,y)<=yq_ α H l0 (x,x)):m.Pairwise λa b=>S.lt a b=false:=by
 induction h with
 |nil=>exact .nil
 |@cons x a xs m r t ih =>
  obtain⟨o1,o2⟩:=Ai.mp o
  refine Ai.mpr ⟨λb hb=>?_,ih (λb hb=>hm b (AC _ hb)) o2⟩
  obtain⟨y,hy,e⟩:∃y∈xs,∃v,RelV v y/\D.is H v b:=by
   have key:∀{xs:List Value}{m:List α},xu_ α H xs m->b∈m->∃y∈xs,∃v,RelV v y/\D.is H v b:=by
    intro xs m t
    induction t with
    |nil=>intro z;cases z
    |cons r t ih =>
     intro z
     rcases AJ.mp z with e|z
     ·subst e;exact⟨_,AD ..,r⟩
     ·obtain⟨y,hy,f⟩:=ih z
      exact⟨y,AC _ hy,f⟩
   exact key t hb
  obtain⟨v,rv,dv⟩:=r
  obtain⟨v2,rv2,dv2⟩:=e
  have q:=o1 y hy
  rw[yy_ (p:=(y,y)) rv2 dv2,yy_ (p:=(x,x)) rv dv]at q
  cases c:S.lt a b with
  |false=>rfl
  |true =>
   have:=(xP_ S.lin (hm a (AD ..))).mp c
   lia
theorem af0_{pins:List (Addr×Obj)}{σ:St}{H:Hp}{s:Shared}{its:List Value}{l:List α}{A:Around}(hu:A.units+4<cLine)(hb:xu_ α H its l)(hok:∀a∈l,S.ok a)(I:Inv X pins σ H s)(h2:2<=its.length) :
  (∀(Q:SortKind->Shared->Prop)(E':Value->Shared->Prop),Q (tuples' S.plain) s->wpAny (model X.prog X.w) A (keyKind' its.toArray) Q E' s) /\
  Ask X.prog X.w A s (tuples' S.plain) (λp=>∃a∈l,∃v,RelV v p.1/\D.is H v a) (yq_ α H l):=by
 constructor
 ·intro Q E' q
  have fs:∀{its:List Value}{l:List α},xu_ α H its l->(∀a∈l,S.ok a)->∃fs:List Value,fs.length=its.length/\PySem.W.KatTups s.heap its fs/\∀f∈fs,PySem.W.Looks (model X.prog X.w) s.heap (typeOf f) (if S.plain=true then .type "int" else .type "tuple"):=by
   intro its l hb
   induction hb with
   |nil=>intro _;exact⟨[],rfl,PySem.W.KatTups.nil,λf hf=>by cases hf⟩
   |@cons u0 a0 _ _ r t ih =>
    intro ok
    obtain⟨fs,f1,f2,f3⟩:=ih λa ha=>ok a (AC _ ha)
    obtain⟨v,rv,dv⟩:=r
    obtain⟨p,o,xs,n,f,rp,ho,hc,hd,hf,lk⟩:=S.first I dv (ok _ (AD ..))
    have e:u0=Value.ref p:=by
     cases v with
     |ref a =>
      have e1:Value.ref p=Value.ref a:=rp
      have e2:u0=Value.ref a:=rv
      rw[e2,e1]
     |_=>first|(obtain⟨_,e⟩:=rp;cases e)|cases rp
    subst e
    refine⟨f::fs,by simp [f1],PySem.W.KatTups.cons ho hc hd hf f2,λg hg=>?_⟩
    rcases AJ.mp hg with e|hg
    ·subst e;exact lk
    ·exact f3 g hg
  obtain⟨fs,f1,f2,f3⟩:=fs hb hok
  refine PySem.W.kat_kind f2 (by lia) f3 (by split<;>decide) ?_
  cases c:S.plain with
  |true=>rw[c]at q;exact q
  |false=>rw[c]at q;exact q
 ·intro x y hx hy Q q
  obtain⟨a,ha,v,rv,dv⟩:=hx
  obtain⟨b,hb',v',rv',dv'⟩:=hy
  refine S.asks I hu dv dv' (hok a ha) (hok b hb') rv rv' Q ?_
  rw[yy_ rv dv,yy_ rv' dv']at q
  have e:decide (xo_ S.lt l a<xo_ S.lt l b)=S.lt a b:=by
   cases c:S.lt a b with
   |true=>exact decide_eq_true ((xP_ S.lin ha).mp c)
   |false=>exact decide_eq_false λz=>by rw[(xP_ S.lin ha).mpr z]at c;cases c
  rw[e]at q
  exact q
def aly_(α:Type)[D:Dat α][S:Srtd α](ta:TA):TE:=λσ H Q=>ta σ H λvs H1=>∃(a:Addr)(l:List α),vs=[.ref a]/\LstAt H1 a l/\(∀b∈l,S.ok b) /\
 ∀(p:Addr)(vs:List V)(l':List α),H1 p=none->l'.Perm l->(l'.Pairwise λa b=>S.lt a b=false)->Its H1 vs l'->Q (.ref p) (upd H1 p (.lst vs))
theorem aeg_{pins:List (Addr×Obj)}{σ:St}{H:Hp}{s:Shared}{its out:List Value}{l:List α}{Q:VK}{h':Heap}{tk:Nat}{P:Addr}{e:Nat}(I:Inv X pins σ H s)(hb:xu_ α H its l)(hz:its.length<=sizeLine)(p:out.Perm its)
  (o:out.Pairwise λx y=>yq_ α H l (y,y)<=yq_ α H l (x,x)) (kp:∀b o,s.heap.get? b=some o->h'.get? b=some o) (hP:s.heap.objs.size<=P) (hg:h'.get? P=some (seqObj "list" out.toArray e))
  (q:∀(p:Addr)(vs:List V)(l':List α),H p=none->l'.Perm l->(l'.Pairwise λa b=>S.lt a b=false)->Its H vs l'->Q (.ref p) (upd H p (.lst vs))):EP X pins σ Q (.ref P) { s with heap:=h',toks:=tk }:=by
 obtain⟨m,pm,bm⟩:=Paired.perm p hb
 obtain⟨vs,v1,v2⟩:=ac0_ bm
 have lz:vs.length<=sizeLine:=by rw[v1.length,p.length_eq];exact hz
 refine⟨.ref P,upd H P (.lst vs),I.laid (a:=P) (o:=.lst vs) (t':=tk) kp hP ⟨lz,out,e,v1,hg⟩,rfl,q P vs m (I.hok.fresh hP) pm (acj_ bm (λa ha=>pm.mem_iff.mp ha) o) v2⟩
theorem vj_{pins:List (Addr×Obj)}{σ:St}{H:Hp}{s:Shared}{r:Addr}{its:List Value}{l:List α}{Q:VK}(hu:X.A.units+8<cLine)(I:Inv X pins σ H s)(hb:xu_ α H its l)(hz:its.length<=sizeLine)(hok:∀a∈l,S.ok a)
  (hcol:∀(Q':List Value->Shared->Prop),(∀h' tk,(∀b o,s.heap.get? b=some o->h'.get? b=some o)->s.heap.objs.size<=h'.objs.size->Q' its { s with heap:=h',toks:=tk })->wpAny (model X.prog X.w) X.A.in1 (collect (.ref r)) Q' X.xe s)
  (q:∀(p:Addr)(vs:List V)(l':List α),H p=none->l'.Perm l->(l'.Pairwise λa b=>S.lt a b=false)->Its H vs l'->Q (.ref p) (upd H p (.lst vs))) :
  wpAny (model X.prog X.w) X.A (call (.builtin "sorted") [.ref r] [(Str.ofString "reverse",.bool true)]) (EP X pins σ Q) X.xe s:=by
 refine yF_ (κ:=tuples' S.plain) (M:=λp=>∃a∈l,∃v,RelV v p.1/\D.is H v a) (rk:=yq_ α H l) hz (λv hv=>?_) hcol (λh' tk kp l2=>?_) λh' tk P e out p o kp hP hg=>?_
 ·obtain⟨a,ha,d⟩:=Paired.mem hb hv
  exact⟨a,ha,d⟩
 ·exact af0_ (A:=X.A.in1.in1) (by show X.A.units+1+1+4<cLine;lia) hb hok (I.kept (t':=tk) kp) l2
 ·exact aeg_ I hb hz p o kp hP hg q
theorem vi_{e:Expr}{ta:TA}{p pos kp kq:Pos}{j}(hc:X.calm=true)(hu:X.A.units+8<cLine)(hg:Gl X "sorted")(hm:X.mg "sorted" = none)(ha:PA X [e] ta)
  (h1:backTo pos (starEach [e] X.env)=(false,eval e X.env)::backTo pos (starEach [] X.env):=by rfl) (h2:(backTo pos (starEach [e] X.env)).any (·.1)=false:=by rfl) :
  PE X (.Call (.Name "sorted" p) [e] [⟨some (Str.ofString "reverse"),.Constant (.bool true) j kq,kp⟩] pos) (aly_ α ta):=by
 intro pins s σ H Q I h
 refine wpAny_Call_Name_kw (jl_ I hg hm boot_sorted ?_)
 refine callWith_kw (thn (ha pos pins s σ H _ I h) λus s1 ⟨vs,H1,I1,r1,q1⟩=>?_) h1 h2
 obtain⟨a,l,rfl,⟨vs,hL,hI⟩,hok,q⟩:=q1
 obtain⟨u,rfl,ru⟩:=zT_ r1
 cases ru
 refine kws_cons (Constant_bool (kws_nil ?_))
 obtain⟨its,rv,ht,hz⟩:=I1.list (SqL.of hL)
 refine vj_ hu I1 (adi_ rv hI) (by rw[<-rv.length];exact hz) hok (λQ' q'=>collect_list ht.isList (q' _ _ (λb o e=>?_) ?_) (by rw[<-rv.length];exact hz)) q
 ·exact(BG _ _ (Ba (AI e))).trans (AB _ e)
 ·rw[DF,size_push'];exact Bc _
end
def toK(d:List Mon):List (List Key×V):=d.map λt=>(t.1.map Sum.inl,V.int t.2)
theorem xQ_:∀{a b:List Int},(a.map Sum.inl:List Key)=b.map Sum.inl->a=b
 |[],[],_=>rfl
 |[],_::_,e=>by simp at e
 |_::_,[],e=>by simp at e
 |x::xs,y::ys,e=>by
  rw[Aa,Aa]at e
  injection e with e1 e2
  injection e1 with e1
  rw[e1,xQ_ e2]
theorem j1_(k:List Int):(k.map Sum.inl:List Key).map kV=k.map V.int:=by rw[CS];rfl
theorem vB_(d:List Mon)(p:Pw):jR_ (toK d) (p.map Sum.inl)=(zC_ d p).map V.int:=by
 induction d with
 |nil=>rfl
 |cons t r ih =>
  have e0:toK (t::r)=(t.1.map Sum.inl,V.int t.2)::toK r:=rfl
  rw[e0]
  by_cases e:t.1=p
  ·rw[xT_ (p:=(t.1.map Sum.inl,V.int t.2)) (by rw[e])]
   simp [zC_,Bt,e]
  ·rw[ya_ (p:=(t.1.map Sum.inl,V.int t.2)) (λz=>e (xQ_ z)),ih]
   simp [zC_,Bt,e]
theorem adh_(d:List Mon)(p:Pw)(n:Int):z2_ (toK d) (p.map Sum.inl) (V.int n)=toK (xm_ d p n):=by
 have ea:((toK d).any λkv=>decide (kv.1=p.map Sum.inl))=d.any λkv=>decide (kv.1=p):=by
  unfold toK
  rw[Eu]
  congr 1
  funext t
  show decide ((t.1.map Sum.inl:List Key)=p.map Sum.inl)=decide (t.1=p)
  by_cases e:t.1=p
  ·rw[decide_eq_true e,decide_eq_true (by rw[e])]
  ·rw[decide_eq_false e,decide_eq_false λz=>e (xQ_ z)]
 unfold z2_ xm_
 rw[ea]
 split
 ·unfold toK
  rw[CS,CS]
  apply B3
  intro t _
  simp only[Function.comp]
  by_cases e:t.1=p
  ·rw[if_pos (by rw[e]),if_pos e]
  ·rw[if_neg (λz=>e (xQ_ z)),if_neg e]
 ·unfold toK
  rw[Ao]
  rfl
theorem vA_(d:List Mon):(toK d).length=d.length:=AA _
theorem abp_{X:Cx}{pins:List (Addr×Obj)}{σ:St}{H:Hp}{s:Shared}{a:Addr}{d:List Mon}(I:Inv X pins σ H s)(h:Rd H a (.dT (toK d))) :
  d.length<=sizeLine/\(a==sysModules)=false/\∃(es:Array DictEntry)(ep:Nat),RawD s.heap a es ep/\es.size=d.length /\
   Paired (λ(e:DictEntry)(t:Mon)=>(∃p,e.key=.ref p/\H p=some (.tup (t.1.map V.int)))/\RelV (.int t.2) e.val) es.toList d:=by
 obtain⟨z,y,xs,r,o,es,ep,h1,h2,h3,h4,h5⟩:=(show ObjOk X.prog X.w H s.heap a (.dT (toK d)) from aay_ I.hok h)
 have key:∀{d:List Mon}{xs:List (List Key×Addr×Value)},KT H (toK d) xs->Paired (λ(e:DictEntry)(t:Mon)=>(∃p,e.key=.ref p/\H p=some (.tup (t.1.map V.int)))/\RelV (.int t.2) e.val) (xs.map (entryOfKey (tupleKind (q6_ X.prog X.w)))) d:=by
  intro d
  induction d with
  |nil=>intro xs r;cases r;exact .nil
  |cons t d ih =>
   intro xs r
   cases r with
   |cons q qs =>
    refine .cons ⟨⟨_,rfl,?_⟩,q.2.2⟩ (ih qs)
    have:=q.2.1
    rw[<-j1_]
    exact this
 have kp:=key r
 rw[<-h4]at kp
 refine⟨by rw[<-vA_];exact z,y,es,ep,⟨o,h1,h2,h3⟩,?_,kp⟩
 rw[<-AO]
 exact AL kp
section
variable{X:Cx}
def anv_(ta:TA):TE:=λσ H Q=>ta σ H λvs H1=>∃(a:Addr)(d:List Mon),vs=[.ref a]/\Rd H1 a (.dT (toK d))/\(∀t∈d,t.1≠[]) /\
 ∀(p:Addr)(vs:List V)(ks:List Pw),H1 p=none->ks.Perm (d.map (·.1))->(ks.Pairwise λa b=>lxl a b=false)->Its H1 vs ks->Q (.ref p) (upd H1 p (.lst vs))
theorem ae4_{e:Expr}{ta:TA}{p pos kp kq:Pos}{j}(hc:X.calm=true)(hu:X.A.units+8<cLine)(hg:Gl X "sorted")(hm:X.mg "sorted" = none)(ha:PA X [e] ta)
  (h1:backTo pos (starEach [e] X.env)=(false,eval e X.env)::backTo pos (starEach [] X.env):=by rfl) (h2:(backTo pos (starEach [e] X.env)).any (·.1)=false:=by rfl) :
  PE X (.Call (.Name "sorted" p) [e] [⟨some (Str.ofString "reverse"),.Constant (.bool true) j kq,kp⟩] pos) (anv_ ta):=by
 intro pins s σ H Q I h
 refine wpAny_Call_Name_kw (jl_ I hg hm boot_sorted ?_)
 refine callWith_kw (thn (ha pos pins s σ H _ I h) λus s1 ⟨vs,H1,I1,r1,q1⟩=>?_) h1 h2
 obtain⟨a,d,rfl,hR,hne,q⟩:=q1
 obtain⟨u,rfl,ru⟩:=zT_ r1
 cases ru
 refine kws_cons (Constant_bool (kws_nil ?_))
 obtain⟨z,lo,es,ep,raw,sz,ent⟩:=abp_ I1 hR
 have hb:xu_ (List Int) H1 (es.toList.map (·.key)) (d.map (·.1)):=by
  have key:∀{l:List DictEntry}{d:List Mon},Paired (λ(e:DictEntry)(t:Mon)=>(∃p,e.key=.ref p/\H1 p=some (.tup (t.1.map V.int)))/\RelV (.int t.2) e.val) l d->xu_ (List Int) H1 (l.map (·.key)) (d.map (·.1)):=by
   intro l d h
   induction h with
   |nil=>exact .nil
   |cons r t ih =>
    obtain⟨⟨p,e1,e2⟩,_⟩:=r
    exact .cons ⟨.ref p,e1,z7_ e2⟩ ih
  exact key ent
 have ln:(es.toList.map (·.key)).length<=sizeLine:=by rw[AA,AO,sz];exact z
 refine vj_ hu I1 hb ln (λk hk=>?_) (λQ' q'=>ace_ (ac8_ lo) (I1.ok.hd hc) raw (by rw[sz];exact z) λh' tk acc kp szz it=>?_) q
 ·obtain⟨t,ht,rfl⟩:=Ae.mp hk
  exact hne t ht
 ·have e:acc.toList=es.toList.map (·.key):=by
   refine Cf λi=>?_
   rw[BE,AT,BE]
   by_cases c:i<es.size
   ·have ci:i<acc.size:=by rw[it.1];exact c
    obtain⟨_,e⟩:=it.2 i acc[i] (AF ci)
    rw[AF ci,AF c,e]
    rfl
   ·rw[Bp (by rw[it.1];lia),Bp (by lia)]
    rfl
  rw[e]
  exact q' h' tk kp szz
end
def Iti(a:Addr)(o:Obj)(d:List Mon):It :=
 ⟨λi H=>H a=some (.frz o (.dT (toK d)))/\i<d.length,
  λi H v H'=>∃p q t,v=.ref p/\H p=none/\d[i]?=some t/\H q=some (.tup (t.1.map V.int))/\H'=upd H p (.tup [.ref q,.int t.2]),
  λi H=>H a=some (.frz o (.dT (toK d)))/\d.length<=i⟩
theorem agy_{H:Hp}{X:Cx}{pins:List (Addr×Obj)}{σ:St}{s:Shared}{a:Addr}{o:Obj}{d:List Mon}{es:Array DictEntry}{ep:Nat}(hd:o.data=.dict es ep)(I:Inv X pins σ H s)(h:H a=some (.frz o (.dT (toK d)))) :
  RawD s.heap a es ep/\es.size=d.length/\Paired (λ(e:DictEntry)(t:Mon)=>(∃p,e.key=.ref p/\H p=some (.tup (t.1.map V.int)))/\RelV (.int t.2) e.val) es.toList d:=by
 obtain⟨_,_,es',ep',⟨o',h1,h2,h3⟩,h4,h5⟩:=abp_ I (.inr ⟨o,h⟩)
 obtain⟨h0,_⟩:=(show ObjOk X.prog X.w H s.heap a (.frz o (.dT (toK d))) from I.hok a _ h)
 rw[h0]at h1
 cases h1
 rw[hd]at h3
 cases h3
 exact⟨⟨o,h0,h2,hd⟩,h4,h5⟩
theorem aez_{P:Program}{w:World}{K:PySem.W.Frag}{elts:List Expr}{x1}{pos:Pos}(a it:Addr)(o:Obj)(d:List Mon)(es:Array DictEntry)(ep:Nat)(hd:o.data=.dict es ep) :
  Turn P w K (.Tuple elts x1 pos) (Iti a o d) [it] it (λi h=>∃ok ov,IsItemIter h it a i es.size ep ok ov) where
 mem:=by simp
 obj:=λi h st b hb=>by
  obtain⟨ok,ov,st⟩:=st
  have e:b=it:=by simpa using hb
  subst e
  exact⟨_,st,λv z=>by cases(show Data.fields _=Data.cell v from z)⟩
 keep:=λi h h' st k=>by
  obtain⟨ok,ov,st⟩:=st
  exact⟨ok,ov,k it (by simp) _ st⟩
 item:=by
  intro X hP hw hK hc i pins s σ H E I hf st hg
  subst hP hw hK
  obtain⟨ok,ov,st⟩:=st
  obtain⟨hg,hi⟩:=hg
  obtain⟨raw,sz,ent⟩:=agy_ hd I hg
  have f1:=hf it (by simp)
  have hi':i<es.size:=by lia
  have ei:es.toList[i]?=some es[i]:=by rw[BE,AF hi']
  obtain⟨t,et,⟨q,eq1,eq2⟩,rt⟩:=Paired.get ent ei
  refine afn_ st raw hi' λh' a1 a2 a3 a4=>?_
  refine⟨_,rfl,wpAny_letOwnedTupleGo_items (s:={ s with heap:=h' }) a1 λh'' b1 b2=>?_⟩
  have kp:∀c u,c∉[it]->s.heap.get? c=some u->h''.get? c=some u:=λc u hc e=>by
   have hc:c≠it:=by simpa using hc
   exact b2.extBut _ _ hc (a4 c u hc e)
  have ilt:it<s.heap.objs.size:=AI st
  have hT:h''.get? s.heap.objs.size=some { cls:=.type "tuple",data:=.seq #[es[i].key,es[i].val] }:=b2.extBut _ _ (Ba ilt) a2
  have hn:H s.heap.objs.size=none:=I.fresh
  have hok:HOk X.prog X.w (upd H s.heap.objs.size (.tup [.ref q,.int t.2])) h'':=λc u e=>by
   by_cases hc:c=s.heap.objs.size
   ·subst hc
    rw[qc_]at e
    cases e
    exact⟨by show 2<=sizeLine;decide,[es[i].key,es[i].val],.cons (by rw[eq1];rfl) (.cons rt .nil),⟨_,hT,rfl,_,rfl,rfl⟩⟩
   ·rw[qk_ hc]at e
    refine(I.hok c u e).stay (λd v2 hd q=>kp d v2 (λm=>?_) q) (λd q=>by rw[qk_ (qq_ q hn)];exact q) λd xs q=>by rw[qk_ (qq_ q hn)];exact q
    have ed:d=it:=by simpa using m
    have z:=f1.1
    rw[<-ed]at z
    rcases hd with rfl|hd
    ·rw[e]at z;cases z
    ·rw[hd]at z;cases z
  have I9:Inv X pins σ (upd H s.heap.objs.size (.tup [.ref q,.int t.2])) { s with heap:=h'',toks:=s.toks }:=xi_ (s:=s) I hf kp (λc hc=>qk_ (Ag hc)) hok
  refine⟨.ref s.heap.objs.size,_,I9,rfl,⟨s.heap.objs.size,q,t,rfl,hn,et,eq2,rfl⟩,⟨_,_,b1⟩,λc hc=>?_⟩
  have ec:c=it:=by simpa using hc
  subst ec
  rw[qk_ (Ag ilt)]
  exact f1.1
 done:=by
  intro X hP hw hK hc i pins s σ H E I hf st hg
  subst hP hw hK
  obtain⟨ok,ov,st⟩:=st
  obtain⟨hg,hi⟩:=hg
  obtain⟨raw,sz,ent⟩:=agy_ hd I hg
  have f1:=hf it (by simp)
  refine ail_ (I.ok.hd hc) st raw (by lia) λh' a7=>⟨rfl,?_⟩
  have kp:∀c u,c∉[it]->s.heap.get? c=some u->h'.get? c=some u:=λc u hc e=>a7 c u (by simpa using hc) e
  refine xi_ (h':=h') (t':=s.toks) I hf kp (λc _=>rfl) λc u e=>?_
  refine(I.hok c u e).stay (λd v2 hd q=>kp d v2 (λm=>?_) q) (λd q=>q) λd xs q=>q
  have ed:d=it:=by simpa using m
  have z:=f1.1
  rw[<-ed]at z
  rcases hd with rfl|hd
  ·rw[e]at z;cases z
  ·rw[hd]at z;cases z
 self:=λA i s Q E st h=>by
  obtain⟨ok,ov,st⟩:=st
  exact PySem.W.kcp_self st h
def anq_(te:TE):TI:=λσ H R=>te σ H λx H1=>∃(a:Addr)(d:List Mon),x=.ref a/\H1 a=some (.dT (toK d))/\∀o:Obj,R (Iti a o d) (upd H1 a (.frz o (.dT (toK d))))
theorem ahq_{X:Cx}{eo:Expr}{te:TE}{apos pos tp:Pos}{elts:List Expr}{x1}(ho:PE X eo te)(hbase:attributeBase eo "items" X.env (eval eo X.env)=eval eo X.env:=by rfl)(hline:(apos.endLine==pos.line)=true:=by rfl) :
  PI X (.Tuple elts x1 tp) (.Call (.Attribute eo "items" apos) [] [] pos) (anq_ te):=by
 intro pins s σ H R I h
 refine wpAny_Call_method0_late hbase hline (thn (ho pins s σ H _ I h) λv s1 ⟨x,H1,I1,r1,q1⟩=>?_)
 obtain⟨a,d,rfl,hd,q⟩:=q1
 cases r1
 obtain⟨z,lo,es,ep,raw,sz,ent⟩:=abp_ I1 (.inl hd)
 obtain⟨o,ho,hx,hdat⟩:=id raw
 refine⟨"dict", "dict.items",D5,PySem.F.slot_dict_items,PySem.F.type_dict_items,raw.type,λb e=>?_,CD rfl (PySem.evalArgs_none (af3_ lo raw ?_))⟩
 ·cases e
  exact⟨o,ho,hx.2.1⟩
 have kp1:∀b u,s1.heap.get? b=some u->(s1.heap.push { cls:=.type "dict_items",data:=.fields #[.ref a] }).get? b=some u:=λb u e=>AB _ e
 refine ad8_ (s:={ s1 with heap:=s1.heap.push { cls:=.type "dict_items",data:=.fields #[.ref a] } }) ⟨_,AM _ rfl,rfl,rfl⟩ (raw.keep λo e=>kp1 _ _ e) ?_
 generalize hh:s1.heap.push { cls:=.type "dict_items",data:=.fields #[.ref a] }=h1 at kp1
 have I2:Inv X pins σ H1 { s1 with heap:=h1.push { cls:=.type "dict_itemiterator",data:=.fields #[.none,.bool false,.ref a,.int 0 0,.int es.size 0,.int ep 0,.none,.none] } } :=
  I1.kept (t':=s1.toks) λb u e=>AB _ (kp1 b u e)
 have hn:H1 h1.objs.size=none:=I1.hok.fresh (by rw[<-hh,BP];exact Bc _)
 have ge:s1.heap.objs.size<=h1.objs.size:=by rw[<-hh,BP];exact Bc _
 have ho2:(h1.push { cls:=.type "dict_itemiterator",data:=.fields #[.none,.bool false,.ref a,.int 0 0,.int es.size 0,.int ep 0,.none,.none] }).get? a=some o:=AB _ (kp1 _ _ ho)
 have I3:Inv X pins σ (upd H1 a (.frz o (.dT (toK d)))) { s1 with heap:=h1.push { cls:=.type "dict_itemiterator",data:=.fields #[.none,.bool false,.ref a,.int 0 0,.int es.size 0,.int ep 0,.none,.none] } }:=by
  refine I2.write (x:=a) (e:=a) (o:=.frz o (.dT (toK d))) (t':=s1.toks) (by rw[hd];exact True.intro) (.inl rfl) (λb u _ e=>e) ⟨o,ho2⟩ ⟨ho2,?_⟩
  refine(I2.hok a _ hd).stay (λb u _ e=>e) (λb e=>?_) λb xs e=>?_
  ·rw[qk_ (zA_ e hd (by intro z;cases z))];exact e
  ·rw[qk_ (zA_ e hd (by intro z;cases z))];exact e
 refine⟨_,[h1.objs.size],_,_,_,rfl,I3,aez_ a h1.objs.size o d es ep hdat,⟨_,_,AM _ rfl⟩,λb hb=>?_,q o⟩
 have eb:b=h1.objs.size:=by simpa using hb
 subst eb
 refine I1.fpOk ge ?_
 rw[qk_ (qq_ hd hn).symm]
 exact hn
end L2.Ev
namespace L2.Ev
open PySem
open L2.Pl
theorem qd_{H:Hp}{p:Addr}(h:H p=none)(o:HO):Same H (upd H p o):=λb u q=>by rw[qk_ (qq_ q h)];exact q
theorem zn_{n:Nat}(h:n<=100000):n<sizeLine:=BD h (by decide)
theorem qr_{n:Nat}(h:n<=100000):n<=sizeLine:=Bj (zn_ h)
theorem hu8{A:Around}{k:Nat}(hr:Room k A):A.units+8<cLine:=BD (Bh (by decide:8<=64) _) hr.units
def aam_(scope:Scope)(N N':List Str)(o:Option Nat)(i:Nat):Bool:=match o with
 |none=>true
 |some j=>match N'[i]? with
  |some x=>decide (N[j]?=some x)&&decide (scope.names.lookup x=some NameKind.free)
  |none=>false
def agp_(sc scope:Scope)(N N':List Str)(src:List (Option Nat)):Bool :=
 decide (scope.kind=.function)&&scope.names.all (λy=>decide (y.2≠NameKind.cell))&&scope.names.all (λy=>!decide (y.2=NameKind.local)||decide (scope.names.lookup y.1=some NameKind.local)) &&
 scope.names.all (λy=>!decide (y.2=NameKind.free)||(decide (sc.names.lookup y.1=some NameKind.cell)||decide (sc.names.lookup y.1=some NameKind.free)))&&decide (src.length=N'.length) &&
 (List.range src.length).all λi=>aam_ scope N N' (src.getD i none) i
theorem ze_{X:Cx}{N':List Str}{src:List (Option Nat)}{scope:Scope}(sc:Scope)(N:List Str)(h:agp_ sc scope N N' src=true)(e1:X.env.scope=sc:=by rfl)(e2:X.N=N:=by rfl):BkScope X N' src scope:=by
 subst e1 e2
 unfold agp_ at h
 simp only[AQ,decide_eq_true_eq,Ad,DR,DA,decide_eq_false_iff_not]at h
 obtain⟨⟨⟨⟨⟨h1,h2⟩,h3⟩,h4⟩,h5⟩,h6⟩:=h
 refine⟨h1,h2,λy hy e=>(h3 y hy).resolve_left λz=>z e,λy hy e=>(h4 y hy).resolve_left λz=>z e,h5,λi j e=>?_⟩
 obtain⟨hi,ei⟩:=AR.mp e
 have q:=h6 i (BH.mpr hi)
 rw[AK,e]at q
 unfold aam_ at q
 simp only[Dx]at q
 cases c:N'[i]? with
 |none=>rw[c]at q;cases q
 |some x =>
  rw[c]at q
  simp only[AQ,decide_eq_true_eq]at q
  exact⟨x,rfl,q.1,q.2⟩
theorem Same.tseq{K:PySem.W.Frag}{H H':Hp}{a:Addr}{xs:List V}(e:Same H H')(h:SqT K H a xs):SqT K H' a xs:=by
 rcases h with(h|⟨o,h⟩)|h
 ·exact .inl (.inl (e _ _ h))
 ·exact .inl (.inr ⟨o,e _ _ h⟩)
 ·exact .inr h
theorem SK.same{K:PySem.W.Frag}{H H':Hp}{a:Addr}{xs:List V}{k:SK}(e:Same H H')(h:k.is K H a xs):k.is K H' a xs:=by
 cases k with
 |lst=>exact Same.seq e h
 |tup=>exact Same.tseq e h
theorem zP_{α:Type}[Dat α]{K:PySem.W.Frag}{a:Addr}{xs:List V}{σ0:St}{H1:Hp}{D:Addr}{R:Hp->Prop}{g:TG}{tc:TT}{te:TE}(hD:H1 D=none)(hl:SqL K H1 a xs)(Sp:St->Prop)(out:Nat->Option α)(hn:xs.length<=sizeLine)(h0:Sp σ0)
  (hturn:∀(i:Nat)(x:V)(σ':St)(H':Hp)(Yes:V->St->Hp->Prop)(No:St->Hp->Prop),xs[i]?=some x->Sp σ'->Same H1 H'->(∀y σ2 H4 a,Sp σ2->Same H' H4->out i=some a->Dat.is H4 y a->Yes y σ2 H4)->(∀σ2 H3,Sp σ2->Same H' H3->out i=none->No σ2 H3) ->
   g x σ' H' λσ2 H2=>tc σ2 H2 λok H3=>if ok=true then te σ2 H3 λy H4=>Yes y σ2 H4 else No σ2 H3)
  (hend:∀H',Same H1 H'->LstAt H' D ((List.range xs.length).filterMap out)->R H') :
  ∃W:Nat->Nat->St->Hp->Prop,(∃m,W 0 m σ0 (upd H1 D (.lst [])))/\∀i m σ' H',W i m σ' H' ->
  ((Itl K a).stop i H'/\R H')∨((Itl K a).go i H'/\∃N:St->Hp->Prop,(∀σ'' H'',N σ'' H''->∃m',m'<m/\W (i+1) m' σ'' H'') /\
   ∀x H'',(Itl K a).yld i H' x H''->g x σ' H'' λσ2 H2=>tc σ2 H2 λok H3=>if ok=true then te σ2 H3 λy H4=>∃ys,H4 D=some (.lst ys)/\ys.length<sizeLine/\N σ2 (upd H4 D (.lst (ys++[y]))) else N σ2 H3):=by
 refine ju_ (Q:=λ_ H=>R H) (n:=xs.length) hD Sp out hn h0 (λH' e=>⟨xs,Same.seq e hl,AG _⟩) (λi H' hi e=>⟨xs,xs[i],Same.seq e hl,AH hi⟩) (λi σ' H' Yes No hi hS hH hy hn x H'' y=>?_) hend
 obtain⟨rfl,y⟩:=y
 exact hturn i x σ' H'' Yes No (y xs (Same.seq hH hl)) hS hH hy hn
theorem jq_{α:Type}[Dat α]{K:PySem.W.Frag}{a:Addr}{xs:List V}{σ0:St}{H1:Hp}{D:Addr}{R:Hp->Prop}{g:TG}{tc:TT}{te:TE}(hD:H1 D=none)(hl:SqT K H1 a xs)(Sp:St->Prop)(out:Nat->Option α)(hn:xs.length<=sizeLine)(h0:Sp σ0)
  (hturn:∀(i:Nat)(x:V)(σ':St)(H':Hp)(Yes:V->St->Hp->Prop)(No:St->Hp->Prop),xs[i]?=some x->Sp σ'->Same H1 H'->(∀y σ2 H4 a,Sp σ2->Same H' H4->out i=some a->Dat.is H4 y a->Yes y σ2 H4)->(∀σ2 H3,Sp σ2->Same H' H3->out i=none->No σ2 H3) ->
   g x σ' H' λσ2 H2=>tc σ2 H2 λok H3=>if ok=true then te σ2 H3 λy H4=>Yes y σ2 H4 else No σ2 H3)
  (hend:∀H',Same H1 H'->LstAt H' D ((List.range xs.length).filterMap out)->R H') :
  ∃W:Nat->Nat->St->Hp->Prop,(∃m,W 0 m σ0 (upd H1 D (.lst [])))/\∀i m σ' H',W i m σ' H' ->
  ((Itt K a).stop i H'/\R H')∨((Itt K a).go i H'/\∃N:St->Hp->Prop,(∀σ'' H'',N σ'' H''->∃m',m'<m/\W (i+1) m' σ'' H'') /\
   ∀x H'',(Itt K a).yld i H' x H''->g x σ' H'' λσ2 H2=>tc σ2 H2 λok H3=>if ok=true then te σ2 H3 λy H4=>∃ys,H4 D=some (.lst ys)/\ys.length<sizeLine/\N σ2 (upd H4 D (.lst (ys++[y]))) else N σ2 H3):=by
 refine ju_ (Q:=λ_ H=>R H) (n:=xs.length) hD Sp out hn h0 (λH' e=>⟨xs,Same.tseq e hl,AG _⟩) (λi H' hi e=>⟨xs,xs[i],Same.tseq e hl,AH hi⟩) (λi σ' H' Yes No hi hS hH hy hn x H'' y=>?_) hend
 obtain⟨rfl,y⟩:=y
 exact hturn i x σ' H'' Yes No (y xs (Same.tseq hH hl)) hS hH hy hn
theorem x2_{α:Type}[Dat α]{lo:Int}{n:Nat}{σ0:St}{H1:Hp}{D:Addr}{R:Hp->Prop}{g:TG}{tc:TT}{te:TE}(hD:H1 D=none)(Sp:St->Prop)(out:Nat->Option α)(hn:n<=sizeLine)(h0:Sp σ0)
  (hturn:∀(i:Nat)(σ':St)(H':Hp)(Yes:V->St->Hp->Prop)(No:St->Hp->Prop),i<n->Sp σ'->Same H1 H'->(∀y σ2 H4 a,Sp σ2->Same H' H4->out i=some a->Dat.is H4 y a->Yes y σ2 H4)->(∀σ2 H3,Sp σ2->Same H' H3->out i=none->No σ2 H3) ->
   g (.int (lo+i)) σ' H' λσ2 H2=>tc σ2 H2 λok H3=>if ok=true then te σ2 H3 λy H4=>Yes y σ2 H4 else No σ2 H3)
  (hend:∀H',Same H1 H'->LstAt H' D ((List.range n).filterMap out)->R H') :
  ∃W:Nat->Nat->St->Hp->Prop,(∃m,W 0 m σ0 (upd H1 D (.lst [])))/\∀i m σ' H',W i m σ' H' ->
  ((Itr lo n).stop i H'/\R H')∨((Itr lo n).go i H'/\∃N:St->Hp->Prop,(∀σ'' H'',N σ'' H''->∃m',m'<m/\W (i+1) m' σ'' H'') /\
   ∀x H'',(Itr lo n).yld i H' x H''->g x σ' H'' λσ2 H2=>tc σ2 H2 λok H3=>if ok=true then te σ2 H3 λy H4=>∃ys,H4 D=some (.lst ys)/\ys.length<sizeLine/\N σ2 (upd H4 D (.lst (ys++[y]))) else N σ2 H3):=by
 refine ju_ (Q:=λ_ H=>R H) (n:=n) hD Sp out hn h0 (λH' e=>AG _) (λi H' hi e=>hi) (λi σ' H' Yes No hi hS hH hy hn x H'' y=>?_) hend
 obtain⟨rfl,rfl⟩:=y
 exact hturn i σ' H'' Yes No hi hS hH hy hn
theorem ae2_{α:Type}[Dat α]{a:Addr}{o:Obj}{d:List Mon}{σ0:St}{H1:Hp}{D:Addr}{R:Hp->Prop}{g:TG}{tc:TT}{te:TE}(hD:H1 D=none)(hl:H1 a=some (.frz o (.dT (toK d))))(Sp:St->Prop)(out:Nat->Option α)(hn:d.length<=sizeLine)(h0:Sp σ0)
  (hturn:∀(i:Nat)(t:Mon)(p q:Addr)(σ':St)(H':Hp)(Yes:V->St->Hp->Prop)(No:St->Hp->Prop),d[i]?=some t->H' p=none->H' q=some (.tup (t.1.map V.int))->Sp σ'->Same H1 H'->(∀y σ2 H4 a,Sp σ2->Same H' H4->out i=some a->Dat.is H4 y a->Yes y σ2 H4)->(∀σ2 H3,Sp σ2->Same H' H3->out i=none->No σ2 H3) ->
   g (.ref p) σ' (upd H' p (.tup [.ref q,.int t.2])) λσ2 H2=>tc σ2 H2 λok H3=>if ok=true then te σ2 H3 λy H4=>Yes y σ2 H4 else No σ2 H3)
  (hend:∀H',Same H1 H'->LstAt H' D ((List.range d.length).filterMap out)->R H') :
  ∃W:Nat->Nat->St->Hp->Prop,(∃m,W 0 m σ0 (upd H1 D (.lst [])))/\∀i m σ' H',W i m σ' H' ->
  ((Iti a o d).stop i H'/\R H')∨((Iti a o d).go i H'/\∃N:St->Hp->Prop,(∀σ'' H'',N σ'' H''->∃m',m'<m/\W (i+1) m' σ'' H'') /\
   ∀x H'',(Iti a o d).yld i H' x H''->g x σ' H'' λσ2 H2=>tc σ2 H2 λok H3=>if ok=true then te σ2 H3 λy H4=>∃ys,H4 D=some (.lst ys)/\ys.length<sizeLine/\N σ2 (upd H4 D (.lst (ys++[y]))) else N σ2 H3):=by
 refine ju_ (Q:=λ_ H=>R H) (n:=d.length) hD Sp out hn h0 (λH' e=>⟨e _ _ hl,AG _⟩) (λi H' hi e=>⟨e _ _ hl,hi⟩) (λi σ' H' Yes No hi hS hH hy hn x H'' y=>?_) hend
 obtain⟨p,q,t,rfl,hp,ht,hq,rfl⟩:=y
 exact hturn i t p q σ' H' Yes No ht hp hq hS hH hy hn
theorem yZ_{α:Type}[Dat α]{K:PySem.W.Frag}{k1 k2:SK}{a b:Addr}{xs ys:List V}{σ0:St}{H1:Hp}{D:Addr}{R:Hp->Prop}{g:TG}{tc:TT}{te:TE}(hD:H1 D=none)(hl:k1.is K H1 a xs)(hl2:k2.is K H1 b ys)(Sp:St->Prop)(out:Nat->Option α)(hn:min xs.length ys.length<=sizeLine)(h0:Sp σ0)
  (hturn:∀(i:Nat)(x y:V)(p:Addr)(σ':St)(H':Hp)(Yes:V->St->Hp->Prop)(No:St->Hp->Prop),xs[i]?=some x->ys[i]?=some y->H' p=none->Sp σ'->Same H1 H'->(∀y σ2 H4 a,Sp σ2->Same H' H4->out i=some a->Dat.is H4 y a->Yes y σ2 H4)->(∀σ2 H3,Sp σ2->Same H' H3->out i=none->No σ2 H3) ->
   g (.ref p) σ' (upd H' p (.tup [x,y])) λσ2 H2=>tc σ2 H2 λok H3=>if ok=true then te σ2 H3 λy H4=>Yes y σ2 H4 else No σ2 H3)
  (hend:∀H',Same H1 H'->LstAt H' D ((List.range (min xs.length ys.length)).filterMap out)->R H') :
  ∃W:Nat->Nat->St->Hp->Prop,(∃m,W 0 m σ0 (upd H1 D (.lst [])))/\∀i m σ' H',W i m σ' H' ->
  ((Itz K k1 k2 a b).stop i H'/\R H')∨((Itz K k1 k2 a b).go i H'/\∃N:St->Hp->Prop,(∀σ'' H'',N σ'' H''->∃m',m'<m/\W (i+1) m' σ'' H'') /\
   ∀x H'',(Itz K k1 k2 a b).yld i H' x H''->g x σ' H'' λσ2 H2=>tc σ2 H2 λok H3=>if ok=true then te σ2 H3 λy H4=>∃ys,H4 D=some (.lst ys)/\ys.length<sizeLine/\N σ2 (upd H4 D (.lst (ys++[y]))) else N σ2 H3):=by
 refine ju_ (Q:=λ_ H=>R H) (n:=min xs.length ys.length) hD Sp out hn h0 (λH' e=>⟨xs,ys,SK.same e hl,SK.same e hl2,by omega⟩) (λi H' hi e=>⟨xs,ys,xs[i],ys[i],SK.same e hl,SK.same e hl2,AH (by omega),AH (by omega)⟩) (λi σ' H' Yes No hi hS hH hy hn x H'' y=>?_) hend
 obtain⟨p,x,y,rfl,hp,rfl,hx,hy2⟩:=y
 exact hturn i x y p σ' H' Yes No (hx xs (SK.same hH hl)) (hy2 ys (SK.same hH hl2)) hp hS hH hy hn
theorem qT_{α β:Type}(f:α->Option β)(l:List α):(List.range l.length).filterMap (λi=>(l[i]?).bind f)=l.filterMap f:=by
 induction l with
 |nil=>rfl
 |cons x l ih =>
  rw[Am,B4,Bg,List.filterMap_map,Bg]
  have e:((λi=>((x::l)[i]?).bind f) ∘ Nat.succ)=λi=>(l[i]?).bind f:=by funext i;simp
  rw[e,ih]
  simp
theorem zW_{α β:Type}(c:α->Prop)[DecidablePred c](g:α->β)(l:List α):l.filterMap (λk=>if c k then some (g k) else none)=(l.filter λk=>decide (c k)).map g:=by
 induction l with
 |nil=>rfl
 |cons x l ih =>
  rw[Bg,Az]
  by_cases h:c x
  ·rw[if_pos h,if_pos (decide_eq_true h),Aa,ih]
  ·rw[if_neg h,if_neg (by simpa using h),ih]
theorem qD_{α:Type}[D:Dat α]{H:Hp}{vs:List V}{l:List α}(h:Its H vs l){i:Nat}{x:V}(e:vs[i]?=some x):∃a,l[i]?=some a/\D.is H x a:=Paired.get h e
theorem qH_{α:Type}{l:List α}{i:Nat}{x:α}(e:l[i]?=some x):l.take (i+1)=l.take i++[x]:=by
 obtain⟨h,rfl⟩:=AR.mp e
 rw[List.take_succ_eq_append_getElem h]
theorem q7_{H:Hp}{x:V}{t:Mon}(h:Dat.is H x t):∃p q,x=.ref p/\H p=some (.tup [.ref q,.int t.2])/\H q=some (.tup (t.1.map V.int)):=by
 obtain⟨p,a,b,rfl,hp,ha,hb⟩:=h
 obtain⟨q,rfl,hq⟩:=zG_ ha
 have hb':b=.int t.2:=hb
 subst hb'
 exact⟨p,q,rfl,hp,hq⟩
theorem q5_{H:Hp}{p q:Addr}{t:Mon}(hp:H p=some (.tup [.ref q,.int t.2]))(hq:H q=some (.tup (t.1.map V.int))):Dat.is H (.ref p) t:=⟨p,_,_,rfl,hp,z7_ hq,rfl⟩
theorem yR_{H:Hp}{p:Addr}(h:H p=none)(o:HO):Tups H (upd H p o):=Tups.same (qd_ h o)
theorem yN_{σ:St}{H:Hp}{A B:Hp->Prop}(h:A H):tYes σ H (λok H3=>if ok=true then A H3 else B H3):=z9_ (A:=A H) (B:=B H) h
theorem zE_{i:Nat}{v:V}{σ:St}{H:Hp}{A B:St->Hp->Prop}(h:A (σ.set i (some v)) H):zN_ i v σ H (λσ2 H2=>tYes σ2 H2 λok H3=>if ok=true then A σ2 H3 else B σ2 H3):=z9_ (A:=A (σ.set i (some v)) H) (B:=B (σ.set i (some v)) H) h
end L2.Ev
namespace L2.Ev
open PySem PySem.Spec PyProof.Rows
open L2.Pl
section
variable{X:Cx}
def CBig(i j:Int):Prop:=i.natAbs<2^100000/\j.natAbs<2^100000
theorem abo_{x:Int}(h:x.natAbs<2^100000):Builtin.Int.intBits x<=2^20:=by
 unfold Builtin.Int.intBits
 split
 ·exact Ap _
 ·rename_i c
  have hx:x.natAbs≠0:=by
   intro z
   exact c (by simpa using Int.natAbs_eq_zero.mp z)
  have:=(Nat.log2_lt hx).mpr h
  have e:(2:Nat)^20=1048576:=by decide
  lia
theorem adt_:OpR X (binaryOp .Mult) (rI CBig λi j=>.int (i*j)):=opI λ_ _ _ _ _ _ _ hc q=>mul_int q (.of_bits (abo_ hc.1) (abo_ hc.2))
def ad6_(K:PySem.W.Frag):R2:=λx y H Q=>∃a b xs ys,x=.ref a/\y=.ref b/\SqT K H a xs/\SqT K H b ys/\xs.length+ys.length<=sizeLine /\
 (xs=[]->Q (.ref b) H)/\(xs≠[]->ys=[]->Q (.ref a) H)/\(xs≠[]->ys≠[]->∀p,H p=none->Q (.ref p) (upd H p (.tup (xs++ys))))
theorem zi_:OpR X (binaryOp .Add) (ad6_ X.K):=by
 intro pins s σ H x y v u Q I rx ry h
 obtain⟨a,b,xs,ys,rfl,rfl,ha,hb,hz,q0,q1,q2⟩:=h
 by_cases hx:xs=[]
 ·cases rx
  cases ry
  obtain⟨its,r1,p1,_⟩:=I.tuple ha
  obtain⟨its2,r2,p2,_⟩:=I.tuple hb
  obtain⟨⟨cls,dd,data,sl⟩,ho,hc,n,hd⟩:=id p1
  obtain⟨⟨cls2,dd2,data2,sl2⟩,ho2,hc2,n2,hd2⟩:=id p2
  simp only at hc hd hc2 hd2
  subst hc hd hc2 hd2
  have e0:its=[]:=r1.nil_iff.mpr hx
  exact concat_meets ⟨_,ho,rfl⟩ ⟨_,ho2,rfl⟩ noFill_tuple_add seq_tuple_add DB C5 (C1 _ _)
   (tuple_addW0 a b its.toArray its2.toArray n n2 dd dd2 sl sl2 (by rw[e0];rfl)) ⟨ho,ho2,⟨.ref b,H,I,rfl,q0 hx⟩⟩
 ·exact ala_ pins s σ H (.ref a) (.ref b) v u Q I rx ry ⟨a,b,xs,ys,rfl,rfl,ha,hb,hx,hz,q1 hx,q2 hx⟩
theorem zd_{K:PySem.W.Frag}{H:Hp}{a b:Addr}{r r':List Int}{Q:VK}(ha:H a=some (.tup (r.map V.int)))(hb:H b=some (.tup (r'.map V.int)))(hz:r.length+r'.length<=sizeLine)
  (q:∀p H',Same H H'->H' p=some (.tup ((r++r').map V.int))->Q (.ref p) H'):ad6_ K (.ref a) (.ref b) H Q:=by
 refine⟨a,b,_,_,rfl,rfl,SqT.of ha,SqT.of hb,by simpa using hz,λe=>?_,λ_ e=>?_,λ_ _ p hp=>?_⟩
 ·have e':r=[]:=by simpa using e
  refine q b H (Same.refl _) ?_
  rw[e',EC]
  exact hb
 ·have e':r'=[]:=by simpa using e
  refine q a H (Same.refl _) ?_
  rw[e',Ax]
  exact ha
 ·refine q p _ (qd_ hp _) ?_
  rw[Ao]
  exact qc_
theorem afa_{l:Addr}{vs:List Value}{ns:List Int}{s:Shared}{prog:Program}{w:World}{A:Around}{E:Value->Shared->Prop}{Q:Value->Shared->Prop}(hh:A.handled=none)(hl:s.heap.IsList l vs.toArray)(hi:IntsAre vs ns)
  (h:∀h' tk t',(∀b o,s.heap.get? b=some o->h'.get? b=some o)->Q (.int ns.sum t') { s with heap:=h',toks:=tk }) :
  wpAny (model prog w) A (call (.builtin "sum") [.ref l]) Q E s:=by
 obtain⟨xs,hx⟩:=hi.allInts.items
 have hn:numsOf vs.toArray.toList=ns:=by rw[show vs.toArray.toList=vs from rfl,hi.numsOf]
 rw[hx]at hl hn
 rw[nums_intItems]at hn
 obtain⟨o,ho,hc,n,hd⟩:=id hl
 have hne:l≠s.heap.objs.size:=Ag (AI ho)
 have hsz:(intItems xs).size=xs.size:=by simp [intItems]
 have W:=(Walks.list (prog:=prog) (w:=w) (A:=A.in1) hh s.heap.objs.size l hne (intItems xs)).toS
 rw[hsz]at W
 refine call_sum_walkAnyS (wpAny_pyIter_list hl ?_)
 refine⟨s.heap.objs.size,_,_,_,_,_,_,numAt xs,rfl,W,⟨⟨_,AM _ rfl,rfl,rfl⟩,hl.at λo e=>AB _ e⟩,λb hb=>?_,λi v hP=>intItems_at hP,λs' t' hm=>?_⟩
 ·rcases AJ.mp hb with rfl|hb
  ·exact AI (AM _ rfl)
  ·obtain rfl:=Af.mp hb
   exact AI (AB _ ho)
 ·obtain⟨h',g',d',tk',os'⟩:=s'
  have e1:g'=s.gens:=hm.gens
  have e2:d'=s.drawn:=hm.drawn
  have e3:os'=s.os:=hm.os
  subst e1 e2 e3
  have q:=h h' tk' t' λb o e=>hm.heap b o (λhb=>absurd (AI e) ((Af.mp hb)▸BX _)) (AB _ e)
  rw[preSum_eq,AN (by simp),hn]
  exact q
theorem zp_{H:Hp}{vs:List V}{ns:List Int}(i:Its H vs ns):vs=ns.map V.int:=by
 induction i with
 |nil=>rfl
 |cons r t ih=>rw[Aa,<-ih];exact congrArg (· :: _) r
theorem af9_(hc:X.calm=true):CallR X (.builtin "sum") (λxs H Q=>∃(p:Addr)(ns:List Int),xs=[.ref p]/\SqL X.K H p (ns.map V.int)/\Q (.int ns.sum) H):=by
 intro pins s σ H xs us Q I r h
 obtain⟨p,ns,rfl,hq,q⟩:=h
 obtain⟨u,rfl,ru⟩:=zT_ r
 cases ru
 obtain⟨its,rv,ht,_⟩:=I.list hq
 exact afa_ (I.ok.hd hc) ht.isList (zr_ rv) λh' tk t' hk=>⟨.int ns.sum,H,I.kept (t':=tk) hk,⟨t',rfl⟩,q⟩
theorem ab9_{bs:List Bool}{its:List Value}(r:Vals (bs.map V.bl) its){i:Nat}{v:Value}(h:its.toArray[i]?=some v):∃b,bs[i]?=some b/\v=.bool b:=by
 have h':its[i]?=some v:=by simpa using h
 have hi:i<its.length:=(AR.mp h').1
 have hb:i<bs.length:=by have:=r.length;rw[AA]at this;lia
 have e:(bs.map V.bl)[i]?=some (V.bl bs[i]):=by rw[AT,AH hb];rfl
 obtain⟨u,e1,r1⟩:=r.get e
 rw[h']at e1
 cases e1
 exact⟨bs[i],AH hb,r1⟩
theorem ag9_{bs:List Bool}(n:Nat)(hn:n=bs.length):(List.range n).all (λi=>bs.getD i false)=bs.all id:=by
 subst hn
 induction bs with
 |nil=>rfl
 |cons b bs ih =>
  rw[Am,B4,DE,Es,DE]
  have e:((λi=>(b::bs).getD i false) ∘ Nat.succ)=λi=>bs.getD i false:=by funext i;simp
  rw[e,ih]
  rfl
theorem agb_{bs:List Bool}(n:Nat)(hn:n=bs.length):(List.range n).any (λi=>bs.getD i false)=bs.any id:=by
 subst hn
 induction bs with
 |nil=>rfl
 |cons b bs ih =>
  rw[Am,B4,CC,Eu,CC]
  have e:((λi=>(b::bs).getD i false) ∘ Nat.succ)=λi=>bs.getD i false:=by funext i;simp
  rw[e,ih]
  rfl
theorem va_{pins:List (Addr×Obj)}{σ:St}{H:Hp}{s:Shared}{o:Obj}{s':Shared}(I:Inv X pins σ H s)(hm:Moved [s.heap.objs.size] (λa b=>b=a) { s with heap:=s.heap.push o } s'):Inv X pins σ H s':=by
 obtain⟨h',g',d',tk',os'⟩:=s'
 have e1:g'=s.gens:=hm.gens
 have e2:d'=s.drawn:=hm.drawn
 have e3:os'=s.os:=hm.os
 subst e1 e2 e3
 exact I.kept (t':=tk') λb o e=>hm.heap b o (λhb=>absurd (AI e) ((Af.mp hb)▸BX _)) (AB _ e)
theorem yo_(hc:X.calm=true):CallR X (.builtin "all") (λxs H Q=>∃(p:Addr)(bs:List Bool),xs=[.ref p]/\SqL X.K H p (bs.map V.bl)/\Q (.bl (bs.all id)) H):=by
 intro pins s σ H xs us Q I r h
 obtain⟨p,bs,rfl,hq,q⟩:=h
 obtain⟨u,rfl,ru⟩:=zT_ r
 cases ru
 obtain⟨its,rv,ht,_⟩:=I.list hq
 have hl:=ht.isList
 obtain⟨o,ho,_⟩:=id hl
 have W:=(Walks.list (prog:=X.prog) (w:=X.w) (A:=X.A.in1) (I.ok.hd hc) s.heap.objs.size p (Ag (AI ho)) its.toArray).toS
 refine call_all_walkS (wpAny_pyIter_list hl ⟨s.heap.objs.size,_,_,_,_,_,_,λi=>bs.getD i false,rfl,W,⟨⟨_,AM _ rfl,rfl,rfl⟩,hl.at λo e=>AB _ e⟩,λi v s2 Q2 E2 hP q2=>?_,λs' hm=>?_⟩)
 ·obtain⟨b,hb,rfl⟩:=ab9_ rv hP
  refine wpAny_truthy_bool ?_
  have e:bs.getD i false=b:=by rw[AK,hb];rfl
  have q2:Q2 (bs.getD i false) s2:=q2
  rw[e]at q2
  exact q2
 ·refine⟨.bl (bs.all id),H,va_ I hm,?_,q⟩
  have e:=ag9_ (bs:=bs) its.toArray.size (by have:=rv.length;simp at this ⊢;lia)
  rw[e]
  rfl
theorem v2_(hc:X.calm=true):CallR X (.builtin "any") (λxs H Q=>∃(p:Addr)(bs:List Bool),xs=[.ref p]/\SqL X.K H p (bs.map V.bl)/\Q (.bl (bs.any id)) H):=by
 intro pins s σ H xs us Q I r h
 obtain⟨p,bs,rfl,hq,q⟩:=h
 obtain⟨u,rfl,ru⟩:=zT_ r
 cases ru
 obtain⟨its,rv,ht,_⟩:=I.list hq
 have hl:=ht.isList
 obtain⟨o,ho,_⟩:=id hl
 have W:=(Walks.list (prog:=X.prog) (w:=X.w) (A:=X.A.in1) (I.ok.hd hc) s.heap.objs.size p (Ag (AI ho)) its.toArray).toS
 refine call_any_walkS (wpAny_pyIter_list hl ⟨s.heap.objs.size,_,_,_,_,_,_,λi=>bs.getD i false,rfl,W,⟨⟨_,AM _ rfl,rfl,rfl⟩,hl.at λo e=>AB _ e⟩,λi v s2 Q2 E2 hP q2=>?_,λs' hm=>?_⟩)
 ·obtain⟨b,hb,rfl⟩:=ab9_ rv hP
  refine wpAny_truthy_bool ?_
  have e:bs.getD i false=b:=by rw[AK,hb];rfl
  have q2:Q2 (bs.getD i false) s2:=q2
  rw[e]at q2
  exact q2
 ·refine⟨.bl (bs.any id),H,va_ I hm,?_,q⟩
  have e:=agb_ (bs:=bs) its.toArray.size (by have:=rv.length;simp at this ⊢;lia)
  rw[e]
  rfl
instance datBool:Dat Bool where
 is:=λ_ v b=>v=.bl b
 mono:=λ_ h=>h
 inj:=λh h'=>by rw[h]at h';cases h';rfl
 dep:=0
 eqb:=λa b=>a==b
 eqb_iff:=λa b=>by simp
 eqAt:=λ{X pins σ H s A v v' u u' a b} I hu h h' r r'=>by
  subst h h'
  cases r
  cases r'
  exact SeqAt.EqAt.bool_bool _ _
theorem jX_{H:Hp}{vs:List V}{bs:List Bool}(i:Its H vs bs):vs=bs.map V.bl:=by
 induction i with
 |nil=>rfl
 |cons r t ih=>rw[Aa,<-ih];exact congrArg (· :: _) r
theorem ak9_{α:Type}[D:Dat α]{pins:List (Addr×Obj)}{σ:St}{H:Hp}{s:Shared}{A:Around}{a b:Addr}{l m:List α}(I:Inv X pins σ H s)(hu:A.units+(D.dep+1)<cLine)(ha:Dat.is H (.ref a) l)(hb:Dat.is H (.ref b) m) :
  SeqAt.RcAt A s (.ref a) (.ref b) (zL_ D.eqb l m)/\SeqAt.RcNeAt A s (.ref a) (.ref b) (!zL_ D.eqb l m):=by
 obtain⟨p,vs,e,h,i⟩:=ha
 cases e
 obtain⟨p',vs',e',h',i'⟩:=hb
 cases e'
 obtain⟨its,rv,ht,_⟩:=I.tuple (SqT.of h)
 obtain⟨its',rv',ht',_⟩:=I.tuple (SqT.of h')
 have hl:its.toArray.size=l.length:=by have:=rv.length;have:=AL i;simp;lia
 have hm:its'.toArray.size=m.length:=by have:=rv'.length;have:=AL i';simp;lia
 have q:=C8 (A:=A) (s:=s) (e:=eAt D.eqb l m) (show s.heap.IsTuple a its.toArray from ht) (show s.heap.IsTuple b its'.toArray from ht') (by lia) (xp_ I (A:=A.in1) (by show A.units+1+D.dep<cLine;lia) i i' rv rv')
 have q2:=SeqAt.RcNeAt.tuples (A:=A) (s:=s) (e:=eAt D.eqb l m) (show s.heap.IsTuple a its.toArray from ht) (show s.heap.IsTuple b its'.toArray from ht') (by lia) (xp_ I (A:=A.in1) (by show A.units+1+D.dep<cLine;lia) i i' rv rv')
 rw[hl,hm,xs_]at q q2
 exact⟨q,q2⟩
theorem act_{α β:Type}[D:Dat α][D2:Dat β]{pins:List (Addr×Obj)}{σ:St}{H:Hp}{s:Shared}{A:Around}{x y:V}{u v:Value}{l m:α×β}(I:Inv X pins σ H s)(hu:A.units+(max D.dep D2.dep+1)<cLine)(ha:Dat.is H x l)(hb:Dat.is H y m)(rx:RelV x u)(ry:RelV y v) :
  SeqAt.RcAt A s u v (Dat.eqb l m)/\SeqAt.RcNeAt A s u v (!Dat.eqb l m):=by
 obtain⟨p,a,b,rfl,h,i,j⟩:=ha
 obtain⟨p',a',b',rfl,h',i',j'⟩:=hb
 cases rx
 cases ry
 obtain⟨its,rv,ht,_⟩:=I.tuple (SqT.of h)
 obtain⟨its',rv',ht',_⟩:=I.tuple (SqT.of h')
 obtain⟨w1,w2,rfl,r1,r2⟩:=jE_ rv
 obtain⟨z1,z2,rfl,t1,t2⟩:=jE_ rv'
 have each:∀k (h1:k<[w1,w2].toArray.size) (h2:k<[z1,z2].toArray.size),SeqAt.EqAt A.in1 s [w1,w2].toArray[k] [z1,z2].toArray[k] (if k=0 then D.eqb l.1 m.1 else D2.eqb l.2 m.2):=λk h1 h2=>by
  have hk:k=0∨k=1:=by
   have:k<2:=h1
   lia
  rcases hk with rfl|rfl
  ·exact D.eqAt (A:=A.in1) I (by show A.units+1+D.dep<cLine;lia) i i' r1 t1
  ·exact D2.eqAt (A:=A.in1) I (by show A.units+1+D2.dep<cLine;lia) j j' r2 t2
 have q:=C8 (A:=A) (s:=s) (show s.heap.IsTuple p _ from ht) (show s.heap.IsTuple p' _ from ht') (by lia) each
 have q2:=SeqAt.RcNeAt.tuples (A:=A) (s:=s) (show s.heap.IsTuple p _ from ht) (show s.heap.IsTuple p' _ from ht') (by lia) each
 have e2:((List.range (min [w1,w2].toArray.size [z1,z2].toArray.size)).all (λk=>if k=0 then D.eqb l.1 m.1 else D2.eqb l.2 m.2)&&[w1,w2].toArray.size==[z1,z2].toArray.size)=(D.eqb l.1 m.1&&D2.eqb l.2 m.2):=by
  simp [Bb]
 rw[e2]at q q2
 exact⟨q,q2⟩
def rEqP(α β:Type)[Dat α][Dat β]:R2:=λx y H Q=>∃(l m:α×β),Dat.is H x l/\Dat.is H y m/\Q (.bl (Dat.eqb l m)) H
def rNeP(α β:Type)[Dat α][Dat β]:R2:=λx y H Q=>∃(l m:α×β),Dat.is H x l/\Dat.is H y m/\Q (.bl (!Dat.eqb l m)) H
theorem aod_{α β:Type}[D:Dat α][D2:Dat β](hu:X.A.units+(max D.dep D2.dep+1)<cLine):OpR X (compareOp .Eq) (rEqP α β):=by
 intro pins s σ H x y v u Q I rx ry h
 obtain⟨l,m,ha,hb,q⟩:=h
 exact(act_ I hu ha hb rx ry).1 X.prog X.w X.xe _ ⟨.bl _,H,I,rfl,q⟩
theorem aoj_{α β:Type}[D:Dat α][D2:Dat β](hu:X.A.units+(max D.dep D2.dep+1)<cLine):OpR X (compareOp .NotEq) (rNeP α β):=by
 intro pins s σ H x y v u Q I rx ry h
 obtain⟨l,m,ha,hb,q⟩:=h
 exact(act_ I hu ha hb rx ry).2 X.prog X.w X.xe _ ⟨.bl _,H,I,rfl,q⟩
def rEqT(α:Type)[Dat α]:R2:=λx y H Q=>∃(l m:List α),Dat.is H x l/\Dat.is H y m/\Q (.bl (zL_ (Dat.eqb (α:=α)) l m)) H
theorem an1_{α:Type}[D:Dat α](hu:X.A.units+(D.dep+1)<cLine):OpR X (compareOp .Eq) (rEqT α):=by
 intro pins s σ H x y v u Q I rx ry h
 obtain⟨l,m,ha,hb,q⟩:=h
 obtain⟨p,_,rfl,_⟩:=id ha
 obtain⟨p',_,rfl,_⟩:=id hb
 cases rx
 cases ry
 exact(ak9_ I hu ha hb).1 X.prog X.w X.xe _ ⟨.bl _,H,I,rfl,q⟩
end
theorem alf_{K:PySem.W.Frag}{k1 k2:SK}{a b:Addr}{xs ys:List V}{g:TG}{tb:TS}{D:Ends}{σ:St}{H:Hp}(Pv:Nat->St->Hp->Prop)(h0:Pv 0 σ H)(hl:∀i σ H,Pv i σ H->k1.is K H a xs/\k2.is K H b ys)
  (hs:∀i x y p σ H,xs[i]?=some x->ys[i]?=some y->H p=none->Pv i σ H->g (.ref p) σ (upd H p (.tup [x,y])) λσ2 H2=>tb { D with nx:=Pv (i+1),ct:=Pv (i+1),bk:=D.nx } σ2 H2) (hd:∀σ H,Pv (min xs.length ys.length) σ H->D.nx σ H) :
  ∃W:Nat->Nat->St->Hp->Prop,(∃m,W 0 m σ H)/\∀i m σ H,W i m σ H ->
   ((Itz K k1 k2 a b).stop i H/\D.nx σ H)∨((Itz K k1 k2 a b).go i H/\∃N:St->Hp->Prop,(∀σ' H',N σ' H'->∃m',m'<m/\W (i+1) m' σ' H')/\∀x H',(Itz K k1 k2 a b).yld i H x H'->g x σ H' λσ2 H2=>tb { D with nx:=N,ct:=N,bk:=D.nx } σ2 H2):=by
 refine⟨λi m σ H=>m=min xs.length ys.length-i/\i<=min xs.length ys.length/\Pv i σ H,⟨min xs.length ys.length,by simp,Ap _,h0⟩,?_⟩
 rintro i m σ H ⟨rfl,hi,p⟩
 obtain⟨l1,l2⟩:=hl i σ H p
 by_cases hlt:i<min xs.length ys.length
 ·refine .inr ⟨⟨xs,ys,xs[i],ys[i],l1,l2,AH (by lia),AH (by lia)⟩,Pv (i+1),λσ' H' p'=>⟨min xs.length ys.length-(i+1),by lia,rfl,hlt,p'⟩,λx H' y=>?_⟩
  obtain⟨q,x,y,rfl,hq,rfl,hx,hy⟩:=y
  exact hs i x y q σ H (hx xs l1) (hy ys l2) hq p
 ·have e:i=min xs.length ys.length:=by lia
  subst e
  exact .inl ⟨⟨xs,ys,l1,l2,by lia⟩,hd σ H p⟩
end L2.Ev
namespace L2.Pl
def mval(ps pt:List Int):Int:=(ps.zip pt).foldl (λv x=>v*x.2^x.1.toNat) 1
theorem aev_{a b:Int}{x y:Nat}(ha:a.natAbs<2^x)(hb:b.natAbs<2^y):(a*b).natAbs<2^(x+y):=by
 rw[Int.natAbs_mul,Ex]
 exact Nat.mul_lt_mul_of_lt_of_lt ha hb
theorem zY_{a:Int}{x y:Nat}(h:a.natAbs<2^x)(hxy:x<=y):a.natAbs<2^y:=Ac h (Cm (by decide) hxy)
def swp(p:List Int)(k:Nat):List Int:=p.take k++[p.getD (k+1) 0,p.getD k 0]++p.drop (k+2)
def x6_(ts:List Mon)(k:Nat):List Mon:=norm (ts.map λt=>(swp t.1 k,t.2))
theorem xI_{p:List Int}{k:Nat}(h:k+1<p.length):(swp p k).length=p.length:=by
 unfold swp
 simp
 omega
theorem xH_{p:List Int}{k:Nat}(h:k+1<p.length){x:Int}(hx:x∈swp p k):x∈p:=by
 unfold swp at hx
 rcases Ak.mp hx with hx|hx
 ·rcases Ak.mp hx with hx|hx
  ·exact BL hx
  ·have e1:p.getD (k+1) 0=p[k+1]:=by simp [h]
   have e2:p.getD k 0=p[k]:=by simp [show k<p.length by omega]
   rw[e1,e2]at hx
   rcases AJ.mp hx with rfl|hx
   ·exact CT _
   ·rw[Af.mp hx];exact CT _
 ·exact Ed hx
structure Good(n b:Nat)(ts:List Mon):Prop where
 len:∀t∈ts,t.1.length=n
 pow:∀t∈ts,∀x∈t.1,0<=x/\x<=8
 num:∀t∈ts,t.2.natAbs<2^b
theorem Good.ne{n b:Nat}{ts:List Mon}(h:Good (n+1) b ts):∀t∈ts,t.1≠[]:=λt ht e=>by
 have:=h.len t ht
 rw[e]at this
 simp at this
theorem Good.mono{n b c:Nat}{ts:List Mon}(h:Good n b ts)(hbc:b<=c):Good n c ts:=⟨h.len,h.pow,λt ht=>zY_ (h.num t ht) hbc⟩
theorem xn_{b:Nat}(p:Pw):∀{ts:List Mon},(∀t∈ts,t.2.natAbs<2^b)->(cf ts p).natAbs<=ts.length*2^b
 |[],_=>by simp [cf]
 |t::r,h=>by
  have ih:=xn_ p (ts:=r) λx hx=>h x (AC _ hx)
  have h1:=h t (AD ..)
  simp only[cf]
  have h2:=Int.natAbs_add_le (if t.1=p then t.2 else 0) (cf r p)
  have h3:(if t.1=p then t.2 else (0:Int)).natAbs<=2^b:=by
   split
   ·omega
   ·simp
  rw[Am,Cg]
  omega
theorem vb_{l:List Mon}(c:Canon l){t:Mon}(ht:t∈l):cf l t.1=t.2:=by
 induction l with
 |nil=>cases ht
 |cons u l ih =>
  rcases AJ.mp ht with e|ht
  ·subst e;exact c.head
  ·have o:=(Ai.mp c.ord).1 t ht
   simp only[cf]
   rw[if_neg (λe=>by rw[e,zu_]at o;cases o),ih c.tail ht]
   omega
theorem Good.norm{n b k:Nat}{ts:List Mon}(h:Good n b ts)(hk:ts.length<2^k):Good n (b+k) (norm ts):=by
 refine⟨λt ht=>?_,λt ht=>?_,λt ht=>?_⟩
 ·obtain⟨u,hu,e⟩:=qY_ ht
  rw[<-e];exact h.len u hu
 ·obtain⟨u,hu,e⟩:=qY_ ht
  rw[<-e];exact h.pow u hu
 ·have e:=vb_ (qP_ ts) ht
  rw[zD_]at e
  rw[<-e]
  refine BD (xn_ t.1 h.num) ?_
  rw[Ex,C2]
  exact Dl hk (Nat.pow_pos (by decide))
theorem Good.swp{n b k:Nat}{ts:List Mon}(h:Good n b ts)(hk:k+1<n):Good n b (ts.map λt=>(swp t.1 k,t.2)):=by
 refine⟨λt ht=>?_,λt ht=>?_,λt ht=>?_⟩<;>obtain⟨u,hu,rfl⟩:=Ae.mp ht
 ·show(Pl.swp u.1 k).length=n
  rw[xI_ (by rw[h.len u hu];exact hk),h.len u hu]
 ·intro x hx
  exact h.pow u hu x (xH_ (by rw[h.len u hu];exact hk) hx)
 ·exact h.num u hu
end L2.Pl
namespace L2.Pl
def zS_(c k m:Int):Int:=(c%2147483647*48271+69621*k*k+7*k)%2147483629*((c%2147483647*48271+69621*k*k+7*k)%2147483629)%2147483587%m
theorem yK_{c k m:Int}(h:0<m):0<=zS_ c k m:=B1 _ (by omega)
theorem yU_{c k m:Int}(h:0<m):zS_ c k m<m:=Bx _ h
def vR_(e:Nat)(c:Int):Int:=if c%4=0 then c / 4%10^e%5-2 else if c%4=1 then 0-c / 4%10^e else c / 4%10^e
theorem aej_{e:Nat}(he:e<=60)(c:Int):(vR_ e c).natAbs<2^200:=by
 have h0:(0:Int)<=c / 4%10^e:=B1 _ (by have:(0:Int)<10^e:=Int.pow_pos (by decide);omega)
 have h1:c / 4%10^e<10^e:=Bx _ (Int.pow_pos (by decide))
 have h2:(10:Int)^e<=10^60:=by
  have:=Cm (n:=10) (by decide) he
  exact_mod_cast this
 have h3:(10:Int)^60<2^200:=by decide
 have h4:((2:Int)^200)=((2^200:Nat):Int):=by norm_cast
 unfold vR_
 generalize c / 4%10^e=z at *
 split
 ·have q1:=B1 z (show(5:Int)≠0 by decide)
  have q2:=Bx z (show(0:Int)<5 by decide)
  have:(z%5-2).natAbs<=5:=by omega
  exact BD this (by decide)
 ·split<;>omega
def q9_(c far w:Int):Nat->List Int×Int
 |0=>([],w)
 |n+1=>((q9_ c far w n).1++[zS_ c (far+n) ((q9_ c far w n).2+1)],(q9_ c far w n).2-zS_ c (far+n) ((q9_ c far w n).2+1))
theorem yb_{c far w:Int}(hw:0<=w):∀n,(q9_ c far w n).1.length=n/\(∀x∈(q9_ c far w n).1,0<=x)/\(q9_ c far w n).1.sum+(q9_ c far w n).2=w/\0<=(q9_ c far w n).2
 |0=>by simp [q9_];exact hw
 |n+1=>by
  obtain⟨h1,h2,h3,h4⟩:=yb_ (c:=c) (far:=far) hw n
  have t0:=yK_ (c:=c) (k:=far+n) (show 0<(q9_ c far w n).2+1 by omega)
  have t1:=yU_ (c:=c) (k:=far+n) (show 0<(q9_ c far w n).2+1 by omega)
  simp only[q9_]
  refine⟨by simp [h1],λx hx=>?_,?_,by omega⟩
  ·rcases Ak.mp hx with hx|hx
   ·exact h2 x hx
   ·rw[Af.mp hx];exact t0
  ·rw[EF,Dh];omega
def padd(l:List Int)(x:Int):List Int:=l.dropLast++[l.getLastD 0+x]
def zs_(c far w:Int)(n:Nat):List Int:=if zS_ c (far+11) 3=0 then padd (q9_ c far w n).1 (q9_ c far w n).2 else (q9_ c far w n).1
def jj_(c far w:Int)(n:Nat):List Int:=(zs_ c far w n).drop (zS_ c (far+12) n).toNat++(zs_ c far w n).take (zS_ c (far+12) n).toNat
theorem y2_{x:Int}:∀{l:List Int},(∀y∈l,0<=y)->x∈l->x<=l.sum/\0<=l.sum
 |[],_,h=>by cases h
 |y::l,hl,h=>by
  have hl':∀z∈l,0<=z:=λz hz=>hl z (AC _ hz)
  have hy:=hl y (AD ..)
  have s0:0<=l.sum:=by
   have key:∀m:List Int,(∀z∈m,0<=z)->0<=m.sum:=by
    intro m
    induction m with
    |nil=>intro _;simp
    |cons a m ih =>
     intro hm
     have:=hm a (AD ..)
     have:=ih λz hz=>hm z (AC _ hz)
     rw[Ab];omega
   exact key l hl'
  rw[Ab]
  rcases AJ.mp h with rfl|h
  ·omega
  ·have:=(y2_ hl' h).1
   omega
theorem aa7_{c far w:Int}(hw:0<=w){n:Nat}(hn:1<=n):(zs_ c far w n).length=n/\(∀x∈zs_ c far w n,0<=x)/\(zs_ c far w n).sum<=w:=by
 obtain⟨h1,h2,h3,h4⟩:=yb_ (c:=c) (far:=far) hw n
 unfold zs_
 split
 ·unfold padd
  have ne:(q9_ c far w n).1≠[]:=by intro z;rw[z]at h1;simp at h1;omega
  obtain⟨l,x,e⟩:∃l x,(q9_ c far w n).1=l++[x]:=⟨_,_,(BF ne).symm⟩
  rw[e]at h1 h2 h3 ⊢
  rw[Ee,Ef]
  rw[EF,Dh]at h3
  refine⟨by simpa using h1,λy hy=>?_,?_⟩
  ·rcases Ak.mp hy with hy|hy
   ·exact h2 y (Aw _ hy)
   ·rw[Af.mp hy]
    have:=h2 x (by simp)
    omega
  ·rw[EF,Dh];omega
 ·exact⟨h1,h2,by omega⟩
theorem yM_{a b:List Int}(h:a.Perm b):a.sum=b.sum:=by
 induction h with
 |nil=>rfl
 |cons x _ ih=>rw[Ab,Ab,ih]
 |swap x y l=>rw[Ab,Ab,Ab,Ab];omega
 |trans _ _ a b=>exact a.trans b
theorem vK_{c far w:Int}(hw:0<=w){n:Nat}(hn:1<=n):(jj_ c far w n).length=n/\(∀x∈jj_ c far w n,0<=x/\x<=w)/\(jj_ c far w n).sum<=w:=by
 obtain⟨h1,h2,h3⟩:=aa7_ (c:=c) (far:=far) hw hn
 have pm:(jj_ c far w n).Perm (zs_ c far w n):=by
  unfold jj_
  exact Bu.trans (by rw[BU])
 have sm:(jj_ c far w n).sum=(zs_ c far w n).sum:=yM_ pm
 refine⟨by rw[pm.length_eq,h1],λx hx=>?_,by rw[sm];exact h3⟩
 have hx':=pm.mem_iff.mp hx
 exact⟨h2 x hx',by have:=(y2_ h2 hx').1;omega⟩
def jJ_(ns:List Int)(k:Nat):Int:=if k<ns.length then ns.getD k 0%2147483647 else 0
end L2.Pl
namespace L2.Ev
open PySem
open L2.Pl
theorem xw_{c A B:Prop}[Decidable c](h:¬ c)(b:B):if decide c=true then A else B:=by
 rw[decide_eq_false h]
 exact zb_ b
theorem x4_{c A B:Prop}[Decidable c](h:c)(a:A):if decide c=true then A else B:=by
 rw[decide_eq_true h]
 exact z9_ a
theorem ajh_{c A B:Prop}[Decidable c](h:c)(b:B):if (!decide c)=true then A else B:=by
 rw[decide_eq_true h]
 exact zb_ b
theorem xy_(K:PySem.W.Frag)(T:String):PySem.W.kitOne K (.type T) (.type T)=some true:=if_pos (beq_self_eq_true _)
theorem abf_(K:PySem.W.Frag):PySem.W.kitOne K (.type "int") (.type "bool")=some false:=by
 show(if (Value.type "int" == Value.type "bool")=true then some true else (if PySem.W.kitMeta "bool" = true then (fastBuiltinMro "int").map (·.contains (.type "bool")) else none))=some false
 decide +kernel
theorem abz_{n:Nat}(h:1<=n):ixN n (-1)=some (n-1):=by
 unfold ixN
 rw[if_neg (by decide),if_pos (by omega)]
 congr 1
 omega
theorem ah7_{α:Type}(l:List α)(x y:α):(l++[x]).set ((l++[x]).length-1) y=l++[y]:=by
 rw[AE,Ay,Nat.add_sub_cancel,ER _ _ (AG _),Et]
 rfl
theorem alq_(ps:List V)(k:Nat):zl_ ps (some (k:Int)) none=ps.drop k:=by
 unfold zl_
 rw[HT.sIx_none,HT.sIx_nat,AN (by rw[A0];omega)]
 by_cases c:k<=ps.length
 ·rw[BQ c]
 ·rw[Cn (by omega),Bo (AG _),Bo (by omega)]
theorem akv_(ps:List V)(k:Nat):zl_ ps none (some (k:Int))=ps.take k:=by
 unfold zl_
 rw[HT.sIx_none,HT.sIx_nat,CO,Dt]
 by_cases c:k<=ps.length
 ·rw[BQ c]
 ·rw[Cn (by omega),AN (AG _),AN (by omega)]
end L2.Ev
namespace L2.Pl
def sm(f:Pw->Int):List Mon->Int
 |[]=>0
 |t::r=>t.2*f t.1+sm f r
theorem j0_(f:Pw->Int):∀a b:List Mon,sm f (a++b)=sm f a+sm f b
 |[],b=>by simp [sm]
 |t::a,b=>by simp only[Dv,sm];rw[j0_ f a b];lia
theorem ag6_(f:Pw->Int)(t:Mon):∀l:List Mon,sm f (ins t l)=t.2*f t.1+sm f l
 |[]=>by
  unfold ins
  split
  ·rename_i h
   simp [sm,h]
  ·simp [sm]
 |u::l=>by
  unfold ins
  split
  ·rename_i h
   split
   ·rename_i h2
    simp only[sm]
    rw[<-Int.add_assoc,h,<-DD,Int.add_comm t.2,h2]
    simp
   ·simp only[sm]
    rw[h,DD]
    lia
  ·split
   ·split
    ·rename_i h
     simp only[sm];rw[h];lia
    ·simp only[sm]
   ·simp only[sm];rw[ag6_ f t l];lia
theorem qR_(f:Pw->Int):∀ts:List Mon,sm f (norm ts)=sm f ts
 |[]=>rfl
 |t::r=>by
  show sm f (ins t (norm r))=_
  rw[ag6_,qR_ f r]
  rfl
theorem zQ_(p:Pw):∀ts:List Mon,cf ts p=sm (λq=>if q=p then 1 else 0) ts
 |[]=>rfl
 |t::r=>by
  simp only[cf,sm]
  rw[zQ_ p r]
  split<;>simp
theorem je_{a b:List Mon}(h:∀f,sm f a=sm f b):norm a=norm b:=vd_ λp=>by rw[zQ_,zQ_,h]
theorem zx_{f g:Pw->Int}:∀{ts:List Mon},(∀t∈ts,f t.1=g t.1)->sm f ts=sm g ts
 |[],_=>rfl
 |t::r,h=>by
  simp only[sm]
  rw[h t (AD ..),zx_ λx hx=>h x (AC _ hx)]
theorem ag1_(f g:Pw->Int):∀ts:List Mon,sm (λp=>f p+g p) ts=sm f ts+sm g ts
 |[]=>rfl
 |t::r=>by simp only[sm];rw[ag1_ f g r,Ey];lia
theorem ab4_(f:Pw->Int)(c:Int):∀ts:List Mon,sm (λp=>f p*c) ts=sm f ts*c
 |[]=>by simp [sm]
 |t::r=>by simp only[sm];rw[ab4_ f c r,DD,Cq]
theorem vD_(f:Pw->Int)(c:Int)(ts:List Mon):sm (λp=>c*f p) ts=c*sm f ts:=by
 rw[Dy,<-ab4_]
 exact zx_ λt _=>Dy _ _
def pad(p q:Pw):Pw:=List.zipWith (· + ·) p q
def prd(a b:List Mon):List Mon:=a.flatMap λt=>b.map λu=>(pad t.1 u.1,t.2*u.2)
def ngt(a:List Mon):List Mon:=a.map λt=>(t.1,-t.2)
def sws(a:List Mon)(k:Nat):List Mon:=a.map λt=>(swp t.1 k,t.2)
theorem jm_(f:Pw->Int):∀a:List Mon,sm f (ngt a)=- sm f a
 |[]=>rfl
 |t::r=>by
  have:=jm_ f r
  unfold ngt at this ⊢
  rw[Aa]
  simp only[sm]
  rw[this,Int.neg_mul]
  lia
theorem jH_(f:Pw->Int)(k:Nat):∀a:List Mon,sm f (sws a k)=sm (λp=>f (swp p k)) a
 |[]=>rfl
 |t::r=>by
  have:=jH_ f k r
  unfold sws at this ⊢
  rw[Aa]
  simp only[sm]
  rw[this]
theorem afp_(f:Pw->Int)(t:Mon):∀b:List Mon,sm f (b.map λu=>(pad t.1 u.1,t.2*u.2))=t.2*sm (λq=>f (pad t.1 q)) b
 |[]=>by simp [sm]
 |u::r=>by
  rw[Aa]
  simp only[sm]
  rw[afp_ f t r,Ey,Cq]
theorem zX_(f:Pw->Int)(b:List Mon):∀a:List Mon,sm f (prd a b)=sm (λp=>sm (λq=>f (pad p q)) b) a
 |[]=>rfl
 |t::r=>by
  have:=zX_ f b r
  unfold prd at this ⊢
  rw[CB,j0_,this,afp_]
  rfl
theorem adm_{p q:Pw}{n:Nat}(h:p.length=n)(g:q.length=n):(pad p q).length=n:=by
 unfold pad
 rw[List.length_zipWith,h,g,Ds]
theorem ac3_:∀{p q:Pw},p.length=q.length->(pad p q).sum=p.sum+q.sum
 |[],[],_=>rfl
 |x::p,y::q,h=>by
  have:=ac3_ (p:=p) (q:=q) (by simpa using h)
  unfold pad at this ⊢
  simp only[Cd,Ab]
  rw[this];lia
theorem aff_:∀{p q:Pw},(∀x∈p,0<=x)->(∀x∈q,0<=x)->∀x∈pad p q,0<=x
 |[],_,_,_,x,hx=>by simp [pad]at hx
 |_::_,[],_,_,x,hx=>by simp [pad]at hx
 |a::p,b::q,hp,hq,x,hx=>by
  unfold pad at hx
  rw[Cd]at hx
  rcases AJ.mp hx with rfl|hx
  ·have:=hp a (AD ..)
   have:=hq b (AD ..)
   lia
  ·exact aff_ (λy hy=>hp y (AC _ hy)) (λy hy=>hq y (AC _ hy)) x hx
theorem ahl_(l:List (Int×Int)):∀v:Int,l.foldl (λv x=>v*x.2^x.1.toNat) v=v*l.foldl (λv x=>v*x.2^x.1.toNat) 1:=by
 induction l with
 |nil=>intro v;simp
 |cons x l ih =>
  intro v
  rw[Br,Br,ih,ih (1*_),Int.one_mul,Cq]
theorem jx_(x y:Int)(p pt:List Int):mval (x::p) (y::pt)=y^x.toNat*mval p pt:=by
 unfold mval
 rw[Cz,Br,ahl_,Int.one_mul]
theorem zJ_(x y:Int)(p:List Int):swp (x::y::p) 0=y::x::p:=by simp [swp]
theorem zK_(x:Int)(p:List Int)(k:Nat):swp (x::p) (k+1)=x::swp p k:=by simp [swp]
theorem aiu_:∀{k:Nat}{p pt:List Int},k+1<p.length->p.length=pt.length->mval (swp p k) pt=mval p (swp pt k)
 |0,x::y::p,a::b::pt,_,_=>by
  rw[zJ_,zJ_,jx_,jx_,jx_,jx_,Int.mul_left_comm]
 |k+1,x::p,a::pt,h1,h2=>by
  rw[zK_,zK_,jx_,jx_,aiu_ (by simpa using h1) (by simpa using h2)]
theorem vy_:∀{k:Nat}{p:List Int},k+1<p.length->swp (swp p k) k=p
 |0,x::y::p,_=>by rw[zJ_,zJ_]
 |k+1,x::p,h=>by rw[zK_,zK_,vy_ (by simpa using h)]
theorem acy_:∀{k:Nat}{p q:List Int},k+1<p.length->p.length=q.length->swp (pad p q) k=pad (swp p k) (swp q k)
 |0,x::y::p,a::b::q,_,_=>by
  rw[zJ_,zJ_]
  show swp ((x+a)::(y+b)::pad p q) 0=(y+b)::(x+a)::pad p q
  rw[zJ_]
 |k+1,x::p,a::q,h1,h2=>by
  rw[zK_,zK_]
  show swp ((x+a)::pad p q) (k+1)=(x+a)::pad (swp p k) (swp q k)
  rw[zK_,acy_ (by simpa using h1) (by simpa using h2)]
theorem af7_{a b:List Mon}{n k:Nat}(ha:∀t∈a,t.1.length=n)(hb:∀t∈b,t.1.length=n)(hk:k+1<n):norm (sws (norm (prd a b)) k)=norm (prd (norm (sws a k)) (norm (sws b k))):=by
 refine je_ λf=>?_
 rw[jH_,qR_,zX_,zX_,qR_,jH_]
 refine zx_ λt ht=>?_
 rw[qR_,jH_]
 refine zx_ λu hu=>?_
 rw[acy_ (by rw[ha t ht];exact hk) (by rw[ha t ht,hb u hu])]
structure Deg(n d b:Nat)(ts:List Mon):Prop where
 len:∀t∈ts,t.1.length=n
 nn:∀t∈ts,∀x∈t.1,0<=x
 sum:∀t∈ts,t.1.sum<=d
 num:∀t∈ts,t.2.natAbs<2^b
theorem Deg.good{n d b:Nat}{ts:List Mon}(h:Deg n d b ts)(hd:d<=8):Good n b ts:=by
 refine⟨h.len,λt ht x hx=>⟨h.nn t ht x hx,?_⟩,h.num⟩
 have:=(y2_ (h.nn t ht) hx).1
 have:=h.sum t ht
 lia
theorem Deg.mono{n d b d' b':Nat}{ts:List Mon}(h:Deg n d b ts)(hd:d<=d')(hb:b<=b'):Deg n d' b' ts :=
 ⟨h.len,h.nn,λt ht=>by have:=h.sum t ht;lia,λt ht=>zY_ (h.num t ht) hb⟩
theorem Deg.app{n d b:Nat}{ts us:List Mon}(h:Deg n d b ts)(q:Deg n d b us):Deg n d b (ts++us) :=
 ⟨λt ht=>(Ak.mp ht).elim (h.len t) (q.len t),λt ht=>(Ak.mp ht).elim (h.nn t) (q.nn t),λt ht=>(Ak.mp ht).elim (h.sum t) (q.sum t),λt ht=>(Ak.mp ht).elim (h.num t) (q.num t)⟩
theorem Deg.norm{n d b k:Nat}{ts:List Mon}(h:Deg n d b ts)(hk:ts.length<2^k):Deg n d (b+k) (Pl.norm ts):=by
 refine⟨λt ht=>?_,λt ht=>?_,λt ht=>?_,λt ht=>?_⟩
 ·obtain⟨u,hu,e⟩:=qY_ ht
  rw[<-e];exact h.len u hu
 ·obtain⟨u,hu,e⟩:=qY_ ht
  rw[<-e];exact h.nn u hu
 ·obtain⟨u,hu,e⟩:=qY_ ht
  rw[<-e];exact h.sum u hu
 ·have e:=vb_ (qP_ ts) ht
  rw[zD_]at e
  rw[<-e]
  refine BD (xn_ t.1 h.num) ?_
  rw[Ex,C2]
  exact Dl hk (Nat.pow_pos (by decide))
theorem Deg.ngt{n d b:Nat}{ts:List Mon}(h:Deg n d b ts):Deg n d b (Pl.ngt ts):=by
 refine⟨λt ht=>?_,λt ht=>?_,λt ht=>?_,λt ht=>?_⟩<;>obtain⟨u,hu,rfl⟩:=Ae.mp ht
 ·exact h.len u hu
 ·exact h.nn u hu
 ·exact h.sum u hu
 ·show(-u.2).natAbs<_
  rw[Int.natAbs_neg];exact h.num u hu
theorem vJ_:∀{k:Nat}{p:List Int},k+1<p.length->(swp p k).sum=p.sum
 |0,x::y::p,_=>by rw[zJ_];simp only[Ab];lia
 |k+1,x::p,h=>by rw[zK_];simp only[Ab];rw[vJ_ (by simpa using h)]
theorem Deg.sws{n d b k:Nat}{ts:List Mon}(h:Deg n d b ts)(hk:k+1<n):Deg n d b (Pl.sws ts k):=by
 refine⟨λt ht=>?_,λt ht=>?_,λt ht=>?_,λt ht=>?_⟩<;>obtain⟨u,hu,rfl⟩:=Ae.mp ht
 ·show(Pl.swp u.1 k).length=n
  rw[xI_ (by rw[h.len u hu];exact hk),h.len u hu]
 ·intro x hx
  exact h.nn u hu x (xH_ (by rw[h.len u hu];exact hk) hx)
 ·show(Pl.swp u.1 k).sum<=d
  rw[vJ_ (by rw[h.len u hu];exact hk)];exact h.sum u hu
 ·exact h.num u hu
theorem Deg.prd{n d b d' b':Nat}{ts us:List Mon}(h:Deg n d b ts)(q:Deg n d' b' us):Deg n (d+d') (b+b') (Pl.prd ts us):=by
 have key:∀t∈Pl.prd ts us,∃x∈ts,∃y∈us,t=(pad x.1 y.1,x.2*y.2):=λt ht=>by
  obtain⟨x,hx,ht⟩:=BS.mp ht
  obtain⟨y,hy,rfl⟩:=Ae.mp ht
  exact⟨x,hx,y,hy,rfl⟩
 refine⟨λt ht=>?_,λt ht=>?_,λt ht=>?_,λt ht=>?_⟩<;>obtain⟨x,hx,y,hy,rfl⟩:=key t ht
 ·exact adm_ (h.len x hx) (q.len y hy)
 ·exact aff_ (h.nn x hx) (q.nn y hy)
 ·show(pad x.1 y.1).sum<=_
  rw[ac3_ (by rw[h.len x hx,q.len y hy])]
  have:=h.sum x hx
  have:=q.sum y hy
  lia
 ·exact aev_ (h.num x hx) (q.num y hy)
theorem xg_(a b:List Mon):(prd a b).length=a.length*b.length:=by
 induction a with
 |nil=>simp [prd]
 |cons t r ih =>
  unfold prd at ih ⊢
  rw[CB,AE,ih,AA,Am,Cg,Ep]
theorem adu_(a:List Mon):(ngt a).length=a.length:=by unfold ngt;rw[AA]
end L2.Pl
namespace L2.Ev
open PySem
open L2.Pl
structure Has(P:Program)(w:World)(K:PySem.W.Frag)(mg:Str->Option Value)(base:Heap)(k:Nat)(x:Str)(ps:List Str)(sp:Sp) where
 f:Addr
 fd:FuncData
 ok:FnOk P w K mg base CX0 k f fd ps sp
 bd:Binds K fd ps []
 kp:PySem.W.keepIn K (.ref f)=true
 at_:mg x=some (.ref f)
def Has.lift{P:Program}{w:World}{K:PySem.W.Frag}{mg:Str->Option Value}{base:Heap}{j k:Nat}{x:Str}{ps:List Str}{sp:Sp}(G:Has P w K mg base j x ps sp)(h:j<=k):Has P w K mg base k x ps sp:=⟨G.f,G.fd,G.ok.mono h,G.bd,G.kp,G.at_⟩
theorem qo_{X:Cx}{k:Nat}{x:Str}{ps:List Str}{sp:Sp}{p pos:Pos}{e:Expr}{es:List Expr}{t:TA}(G:Has X.prog X.w X.K X.mg X.base k x ps sp)(hr:Room k X.A)(hg:Gl X x)
  (ha:PA X (e::es) t) (hdb:(x==("__debug__" : Str))=false:=by decide) (he:starEach (e::es) X.env=(false,eval e X.env)::starEach es X.env:=by rfl) (hpl:(backTo pos (starEach es X.env)).any (·.1)=false:=by rfl) :
  PE X (.Call (.Name x p) (e::es) [] pos) (ae3_ sp [] E0 t):=zF_ G.ok hr hg G.at_ G.kp G.bd .nil xa_ ha hdb he hpl
theorem jW_{α:Type}[D:Dat α](l:List α):zL_ (Dat.eqb (α:=α)) l l=true:=(xr_ Dat.eqb_iff _ _).mpr rfl
end L2.Ev
namespace L2.Ev
open PySem PyProof.Rows
open L2.Pl
end L2.Ev
namespace L2.Ev
open PySem
open L2.Pl
end L2.Ev
set_option maxHeartbeats 4000000
namespace L2.Ev
open PySem PySem.Spec PyProof.Rows
open PySem.W PySem.Calls
def y4_(h:Heap)(e:Addr)(od:Option Addr):Prop:=∃ob,h.get? e=some ob/\ob.dict=od
theorem aie_{o:Obj}{f:Array Value->Array Value}:(Obj.mapFields f o).dict=o.dict:=by
 obtain⟨_,_,da,_⟩:=o
 cases da<;>rfl
def x7_(base:Heap)(l:List Env)(e:Addr)(cls a0:Value)(od:Option Addr)(h:Heap):Prop:=Heap.FlyingW base l e cls a0 h/\y4_ h e od
section
variable{M:Model}{A:Around}{E:Value->Shared->Prop}{s:Shared}
theorem ahc_{base:Heap}{env:Env}{outer:List Env}{L e:Addr}{oe:Obj}{vs:Array Value}{head a0:Value}{hadNext:Bool}{Q:Unit->Shared->Prop}
  (hfr:A.frames=some (env::outer)) (hl:s.heap.FunFrames base (env::outer)) (hf:env.frame=some L)
  (he:s.heap.get? e=some oe) (hkb:base.StaysIn s.heap) (hen:base.get? e=none) (hd:oe.data=.fields vs) (hsz:1<vs.size) (h0:vs[0]?=some a0)
  (h:∀h',Heap.NotedW base (env::outer) e oe.cls a0 (rawInt L) s.heap h'->y4_ h' e oe.dict->Q () { s with heap:=h' }) :
  wpAny M A (do let a <-frameOf env;let pl <-entryPlaceOf L hadNext;let b <-EntryCells.newEntry head a .none (rawInt L) .none pl;setField (.ref e) 1 b) Q E s:=by
 have nfr:e∉(env::outer).filterMap (·.frame):=λhm=>by
  obtain⟨_,o,ho,hnf⟩:=hl.mem hm
  rw[he]at ho;cases ho;exact hnf vs hd
 refine wpAny_bind (wpAny_frameOf_fun hfr hl hf λh1 hs=>wpAny_bind (wpAny_entryPlaceOf λpl hpl=>?_))
 have e1:h1.get? e=some oe:=(hs.2.1 e nfr).trans he
 have k1:base.StaysIn h1:=λb o z=>(hs.2.1 b λhm=>by rw[(hl.mem hm).1]at z;cases z).trans (hkb b o z)
 have Te:h1.objs.size≠e:=Ba (AI e1)
 unfold EntryCells.newEntry newFields
 refine wpAny_bind (wpAny_newObj_type ?_ (hpl.sizeOk5 _ _ _ _ _))
 generalize hrec:([head,.ref L,.none,rawInt L,.none]++(if pl.isEmpty then List.replicate 6 Value.none else pl)).toArray=rec
 have r3:rec[3]?=some (rawInt L):=by
  rw[<-hrec]
  simp
 have e2:=AB (h:=h1) { cls:=.type "traceback",dict:=none,data:=.fields rec } e1
 have T2:(h1.push { cls:=.type "traceback",dict:=none,data:=.fields rec }).get? h1.objs.size=some { cls:=.type "traceback",dict:=none,data:=.fields rec }:=AM h1 rfl
 generalize hp2:h1.push { cls:=.type "traceback",dict:=none,data:=.fields rec }=h2 at e2 T2
 have old2:∀b o,h1.get? b=some o->h2.get? b=some o:=λb o z=>by rw[<-hp2];exact AB _ z
 have d3:=B6 hd (·.setIfInBounds 1 (Value.ref h1.objs.size))
 have e3:=BT (Obj.mapFields (·.setIfInBounds 1 (Value.ref h1.objs.size))) e2 (CI d3)
 have T3:=(BG h2 (Obj.mapFields (·.setIfInBounds 1 (Value.ref h1.objs.size))) (B2 Te)).trans T2
 have keep:∀b o,b≠e->h1.get? b=some o->(h2.update e (Obj.mapFields (·.setIfInBounds 1 (Value.ref h1.objs.size)))).get? b=some o:=λb o hb z=>(BG _ _ (B2 hb)).trans (old2 b o z)
 have nrec:∀b o,s.heap.get? b=some o->(∀vs,o.data≠.fields vs)->b≠e:=λb o z hnf q=>by
  rw[q,he]at z;cases z;exact hnf vs hd
 refine wpAny_setField e2 hd hsz (h _ ⟨λb o z=>keep b o (λq=>by rw[q,hen]at z;cases z) (k1 b o z),hl.of_keeps λb o z hnf=>?_,?_,λb o z hnf=>?_⟩ ⟨_,e3,aie_⟩)
 ·obtain⟨sl,q⟩:=hs.2.2 b o z
  exact⟨_,keep b _ (nrec b o z hnf) q,rfl⟩
 ·exact⟨_,_,h1.objs.size,_,_,e3,⟨C9 _ _,by rw[CZ (by decide)];exact h0⟩,d3,by simp [hsz],k1.fresh,Te,T3,rfl,r3⟩
 ·obtain⟨sl,q⟩:=hs.2.2 b o z
  exact⟨sl,keep b _ (nrec b o z hnf) q⟩
theorem aao_{base:Heap}{l:List Env}{e:Addr}{cls a0 fl:Value}{od:Option Addr}{Q:Unit->Shared->Prop}
  (hkb:base.StaysIn s.heap) (hen:base.get? e=none) (hl:s.heap.FunFrames base l) (ht:s.heap.TracedAtW base e cls a0 fl) (hd0:y4_ s.heap e od)
  (h:∀h',x7_ base l e cls a0 od h'->s.heap.UpToSlots h'->Q () { s with heap:=h' }):wpAny M A (setFlight (.ref e) none) Q E s:=by
 obtain⟨oe,vs,T,oT,ts,he,hcls,hd,h1,hnT,hTe,hT,hdT,h3⟩:=ht
 obtain⟨ob,hob,hod⟩:=hd0
 rw[he]at hob
 cases hob
 have z3:3<ts.size:=(BY.mp h3).1
 have dT:=B6 hdT (·.setIfInBounds 3 ((none:Option Addr).elim Value.none λf=>rawInt f))
 have oth:∀b,b≠T->(s.heap.update T (Obj.mapFields (·.setIfInBounds 3 ((none:Option Addr).elim Value.none λf=>rawInt f)))).get? b=s.heap.get? b:=λb hb=>BG _ _ (B2 hb)
 have nrec:∀b o,s.heap.get? b=some o->(∀vs,o.data≠.fields vs)->b≠T:=λb o hb hnf q=>by
  rw[q,hT]at hb;cases hb;exact hnf ts hdT
 have he':=(oth e (B2 hTe)).trans he
 unfold setFlight
 refine wpAny_bind (wpAny_field he hd h1 ?_)
 rw[if_pos (show(Value.ref T != Value.none)=true from by simp)]
 refine wpAny_setField hT hdT z3 (h _ ⟨⟨λb o z=>(oth b λq=>by rw[q,hnT]at z;cases z).trans (hkb b o z),hen,hl.of_keeps λb o hb hnf=>⟨o,(oth b (nrec b o hb hnf)).trans hb,rfl⟩,?_⟩,⟨oe,he',hod⟩⟩ λb o hb hnf=>⟨o.slots,(oth b (nrec b o hb hnf)).trans hb⟩)
 exact⟨oe,vs,T,_,_,he',hcls,hd,h1,hnT,hTe,BT _ hT (CI dT),dT,by simp [z3]⟩
theorem aju_{base:Heap}{env:Env}{outer:List Env}{L e:Addr}{cls a0:Value}{od:Option Addr}{Q:Unit->Shared->Prop}
  (hfr:A.frames=some (env::outer)) (hf:env.frame=some L) (hfl:x7_ base (env::outer) e cls a0 od s.heap)
  (h:∀h',Heap.HeldW base (env::outer) e cls a0 L h'->y4_ h' e od->s.heap.UpToSlots h'->Q () { s with heap:=h' }):wpAny M A (noteFrame (.ref e) env) Q E s:=by
 obtain⟨⟨f1,f2,f3,oe,vs,T,oT,ts,he,⟨hcls,h0⟩,hd,h1,hnT,hTe,hT,hdT,h3⟩,od',hod,hdd⟩:=hfl
 rw[he]at hod
 cases hod
 subst hcls hdd
 unfold noteFrame
 simp only[hf]
 refine wpAny_bind (wpAny_field he hd h1 ?_)
 rw[if_pos (show(Value.ref T != Value.none)=true from by simp)]
 refine wpAny_bind (wpAny_field hT hdT h3 ?_)
 rw[if_neg (show ¬ ((Value.none==rawInt L)=true) from by simp [rawInt])]
 refine wpAny_bind (wpAny_setField hT hdT (BY.mp h3).1 ?_)
 have oth:∀b,b≠T->(s.heap.update T (Obj.mapFields (·.setIfInBounds 3 Value.none))).get? b=s.heap.get? b:=λb hb=>BG _ _ (B2 hb)
 have nrec:∀b o,s.heap.get? b=some o->(∀vs,o.data≠.fields vs)->b≠T:=λb o hb hnf q=>by
  rw[q,hT]at hb;cases hb;exact hnf ts hdT
 refine ahc_ hfr (f3.of_keeps λb o hb hnf=>⟨o,(oth b (nrec b o hb hnf)).trans hb,rfl⟩) hf ((oth e (B2 hTe)).trans he)
  (λb o z=>(oth b λq=>by rw[q,hnT]at z;cases z).trans (f1 b o z)) f2 hd (BY.mp h1).1 h0 λh' ⟨x1,x2,x3,x4⟩ xd=>?_
 exact h h' ⟨x1,f2,x2,x3⟩ xd λb o hb hnf=>x4 b o ((oth b (nrec b o hb hnf)).trans hb) hnf
theorem ae0_{base:Heap}{env:Env}{outer:List Env}{L e:Addr}{cls a0:Value}{od:Option Addr}{Q:Unit->Shared->Prop}
  (hfr:A.frames=some (env::outer)) (hf:env.frame=some L) (hfl:x7_ base (env::outer) e cls a0 od s.heap)
  (hQ:∀h',x7_ base outer e cls a0 od h'->s.heap.UpToSlots h'->Q () { s with heap:=h' }):wpAny M A (leaving env (.ref e)) Q E s:=by
 unfold leaving
 refine wpAny_bind (aju_ hfr hf hfl λh1 ⟨k1,k2,k3,k4⟩ kd sm=>aao_ (s:={ s with heap:=h1 }) k1 k2 k3 k4 kd λh2 ⟨⟨x1,x2,⟨_,_,x3⟩,x4⟩,xd⟩ sm2=>?_)
 exact hQ h2 ⟨⟨x1,x2,x3,x4⟩,xd⟩ (sm.trans sm2)
theorem agi_{base:Heap}{env:Env}{outer:List Env}{L e:Addr}{oe:Obj}{vs:Array Value}{a0:Value}{Q:Unit->Shared->Prop}
  (hfr:A.frames=some (env::outer)) (hl:s.heap.FunFrames base (env::outer)) (hf:env.frame=some L)
  (he:s.heap.get? e=some oe) (hkb:base.StaysIn s.heap) (hen:base.get? e=none) (hd:oe.data=.fields vs) (h1:vs[1]?=some .none) (h0:vs[0]?=some a0)
  (hQ:∀h',x7_ base outer e oe.cls a0 oe.dict h'->s.heap.UpToSlots h'->Q () { s with heap:=h' }):wpAny M A (leaving env (.ref e)) Q E s:=by
 unfold leaving noteFrame
 simp only[hf]
 refine wpAny_bind (wpAny_bind (wpAny_field he hd h1 ?_))
 rw[if_neg (by decide)]
 refine ahc_ hfr hl hf he hkb hen hd (BY.mp h1).1 h0 λh1 ⟨k1,k3,k4,sm⟩ kd=>aao_ (s:={ s with heap:=h1 }) k1 hen k3 k4 kd λh2 ⟨⟨x1,x2,⟨_,_,x3⟩,x4⟩,xd⟩ sm2=>?_
 exact hQ h2 ⟨⟨x1,x2,x3,x4⟩,xd⟩ (Heap.UpToSlots.trans sm sm2)
end
end L2.Ev
namespace L2.Ev
open PySem PySem.Spec PyProof.Rows
open L2.Pl
theorem ObjOk.got{P:Program}{w:World}{H:Hp}{h:Heap}{a:Addr}{o:HO}(x:ObjOk P w H h a o):∃ob,h.get? a=some ob:=by
 cases o with
 |lst xs=>obtain⟨_,_,_,_,e⟩:=x;exact⟨_,e⟩
 |tup xs=>obtain⟨_,_,_,ob,e,_⟩:=x;exact⟨_,e⟩
 |dK kvs=>obtain⟨_,_,_,_,o,_,_,e,_⟩:=x;exact⟨_,e⟩
 |dT kvs=>obtain⟨_,_,_,_,o,_,_,e,_⟩:=x;exact⟨_,e⟩
 |set S n=>obtain⟨o,_,_,_,e,_⟩:=x;exact⟨_,e⟩
 |ins C dx fs=>obtain⟨_,_,_,e,_⟩:=x;exact⟨_,e⟩
 |own y=>exact x
 |xd fs=>obtain⟨_,⟨_,_,_,e,_⟩,_⟩:=x;exact⟨_,e⟩
 |rng lo hi=>obtain⟨_,_,_,e⟩:=x;exact⟨_,e⟩
 |frz ob u=>obtain⟨e,_⟩:=x;exact⟨_,e⟩
 |tbl ps=>exact⟨_,(show h.get? a=some _ from x)⟩
 |met f y=>exact⟨_,(show h.get? a=some _ from x)⟩
 |ext φ=>obtain⟨_,e,_⟩:=x;exact e
structure Bs(l:List Env)(H:Hp)(h:Heap)(H':Hp)(B:Heap):Prop where
 old:∀b o,h.get? b=some o->b∉frs l->∃o',B.get? b=some o'/\(H b=none->o'=o)
 trk:∀b u,H' b=some u->∃o,B.get? b=some o
structure Fly(P:Program)(w:World)(l:List Env)(H:Hp)(s:Shared)(a:Addr)(cls a0:Value)(od:Option Addr)(H':Hp)(s':Shared):Prop where
 os:s'.os=s.os
 bare:AllBare s'.gens
 un:Un (frs l) [] H H' s.heap s'.heap
 hok:HOk P w H' s'.heap
 fly:∃B,Bs l H s.heap H' B/\x7_ B l a cls a0 od s'.heap
def CX1(P:Program)(w:World):CXT:=λl H s E e s'=>∃a cls a0 od H',e=.ref a/\Fly P w l H s a cls a0 od H' s'/\E cls od H'
section
variable{X:Cx}{pins:List (Addr×Obj)}{σ:St}{H H':Hp}{s s':Shared}{B:Heap}
theorem yx_(I:Inv X pins σ H s)(os:s'.os=s.os)(bare:AllBare s'.gens)(un:Un (frs X.stack) [] H H' s.heap s'.heap)(hok:HOk X.prog X.w H' s'.heap)(bs:Bs X.stack H s.heap H' B)(st0:B.StaysIn s'.heap){h':Heap}(st:B.StaysIn h')(sm:s'.heap.UpToSlots h') :
  Inv X pins σ H' { s' with heap:=h' }:=by
 have fr:∀b o,s.heap.get? b=some o->b∈frs X.stack->∀vs,o.data≠.fields vs:=λb o e hb=>by
  obtain⟨_,o',e',d⟩:=I.stack.mem hb
  rw[e]at e';cases e'
  exact d
 have slot:∀b o,s.heap.get? b=some o->b∈frs X.stack->∃sl,h'.get? b=some { o with slots:=sl }:=λb o e hb=>by
  obtain⟨sl,e1⟩:=un.slot b o e (I.stkFree b hb) hb (by simp)
  obtain⟨sl2,e2⟩:=sm b _ e1 (fr b o e hb)
  exact⟨sl2,e2⟩
 refine I.call' (s':={ s' with heap:=h' }) (ch:=[]) os ⟨λb o e n hb _=>?_,λb o e n hb _=>slot b o e hb,un.free,λb o e _=>?_,un.tups,un.frzs,un.tbls⟩ (λb u e=>?_) bare λb hb=>by simp at hb
 ·obtain⟨o',e1,e2⟩:=bs.old b o e hb
  rw[e2 n]at e1
  exact st _ _ e1
 ·by_cases hb:b∈frs X.stack
  ·obtain⟨sl,e1⟩:=slot b o e hb
   exact⟨_,e1⟩
  ·obtain⟨o',e1,_⟩:=bs.old b o e hb
   exact⟨o',st _ _ e1⟩
 ·have key:∀c v u',H' c=some u'->s'.heap.get? c=some v->h'.get? c=some v:=λc v u' hc q=>by
   obtain⟨o,e1⟩:=bs.trk c u' hc
   have:=st0 _ _ e1
   rw[q]at this
   cases this
   exact st _ _ e1
  refine(hok b u e).stay (λc v hc q=>?_) (λ_ q=>q) λ_ _ q=>q
  rcases hc with z|z
  ·subst z;exact key c v u e q
  ·exact key c v _ z q
end
section
variable{P:Program}{w:World}{K:PySem.W.Frag}{mg:Str->Option Value}{base:Heap}{N:List Str}{qual:Str}{scope:Scope}{f:Addr}{cdv:Value}{A:Around}{outer:List Env}{s0:Shared}{H0:Hp}{E:XK}
theorem acx_{pins:List (Addr×Obj)}{σ:St}{H H':Hp}{s s':Shared}{B:Heap}{a:Addr}{cls a0:Value}{od:Option Addr}(I:Inv (zt_ (CX1 P w) P w K mg base N qual scope f cdv A outer s0 H0 E) pins σ H s)(I':Inv (zt_ (CX1 P w) P w K mg base N qual scope f cdv A outer s0 H0 E) pins σ H' s')
  (bs:Bs (zt_ (CX1 P w) P w K mg base N qual scope f cdv A outer s0 H0 E).stack H s.heap H' B) (fl:x7_ B outer a cls a0 od s'.heap):Fly P w outer H0 s0 a cls a0 od H' s':=by
 refine⟨I'.os,I'.bare,I'.base,I'.hok,B,⟨λb o e hb=>?_,bs.trk⟩,fl⟩
 obtain⟨o1,e1⟩:=I.base.there b o e (by show b∉([]:List Addr);simp)
 have hL:b∉frs (zt_ (CX1 P w) P w K mg base N qual scope f cdv A outer s0 H0 E).stack:=λz=>by
  rcases AJ.mp (I.stkSub b z) with z|z
  ·have:=I.ok.above
   have:=AI e
   rw[z]at this
   exact absurd (Ac this I.ok.above) (BX _)
  ·exact hb z
 obtain⟨o2,e2,e3⟩:=bs.old b o1 e1 hL
 refine⟨o2,e2,λn=>?_⟩
 have k:=I.base.keep b o e n hb (by show b∉([]:List Addr);simp)
 rw[e1]at k
 cases k
 exact e3 (I.base.free b o e n (by show b∉([]:List Addr);simp))
theorem ad2_:xv_ (CX1 P w) (zt_ (CX1 P w) P w K mg base N qual scope f cdv A outer s0 H0 E) E:=by
 rintro pins σ H s e s' I ⟨a,cls,a0,od,H',rfl,F,hE⟩
 obtain⟨os,bare,un,hok,B,bs,fl⟩:=F
 show wpAny _ _ (leaving _ (.ref a)) _ _ s'
 refine ae0_ (outer:=outer) I.ok.frames rfl fl λh' fl' sm=>?_
 have I':=yx_ I os bare un hok bs fl.1.1 fl'.1.1 sm
 exact⟨a,cls,a0,od,H',rfl,acx_ I I' bs fl',hE⟩
def Rs(X:Cx)(E:XK):Prop:=∀(pins:List (Addr×Obj))(σ:St)(H:Hp)(s:Shared)(h2:Heap)(e C:Addr)(vs:List Value),Inv X pins σ H s->Heap.MadeExcOf s.heap h2 e (.ref C) vs->E (.ref C) none H->X.xe (.ref e) { s with heap:=h2 }
theorem rs1:Rs (zt_ (CX1 P w) P w K mg base N qual scope f cdv A outer s0 H0 E) E:=by
 intro pins σ H s h2 e C vs I hx hE
 show wpAny _ _ (leaving _ (.ref e)) _ _ _
 have hin:∀env∈(zt_ (CX1 P w) P w K mg base N qual scope f cdv A outer s0 H0 E).stack,∀b,env.frame=some b->b∈frs (zt_ (CX1 P w) P w K mg base N qual scope f cdv A outer s0 H0 E).stack:=λenv he b hb=>Cy.mpr ⟨env,he,hb⟩
 have bs:Bs (zt_ (CX1 P w) P w K mg base N qual scope f cdv A outer s0 H0 E).stack H s.heap H (PySem.W.hideAll s.heap (frs (zt_ (CX1 P w) P w K mg base N qual scope f cdv A outer s0 H0 E).stack)):=by
  refine⟨λb o e hb=>⟨o,DT _ e hb,λ_=>rfl⟩,λb u e=>?_⟩
  obtain⟨o,q⟩:=ObjOk.got (I.hok b u e)
  exact⟨o,DT _ q λz=>by rw[I.stkFree b z]at e;cases e⟩
 have st0:(PySem.W.hideAll s.heap (frs (zt_ (CX1 P w) P w K mg base N qual scope f cdv A outer s0 H0 E).stack)).StaysIn h2:=λb o q=>hx.keeps b o (DY _ q)
 obtain⟨t,he,htn,ht⟩:=hx.there
 have hen:(PySem.W.hideAll s.heap (frs (zt_ (CX1 P w) P w K mg base N qual scope f cdv A outer s0 H0 E).stack)).get? e=none:=by
  cases hq:(PySem.W.hideAll s.heap (frs (zt_ (CX1 P w) P w K mg base N qual scope f cdv A outer s0 H0 E).stack)).get? e with
  |none=>rfl
  |some o'=>have:=DY _ hq;rw[hx.new]at this;cases this
 refine agi_ (s:={ s with heap:=h2 }) (outer:=outer) (a0:=.ref t) I.ok.frames ((PySem.W.funFrames_hide I.stack hin).of_keeps λb o hb _=>⟨o,hx.keeps b o hb,rfl⟩) rfl he st0 hen rfl rfl rfl λh' fl sm=>?_
 have I':=yx_ (s':={ s with heap:=h2 }) I rfl I.bare (Un.kept hx.keeps) (I.hok.kept hx.keeps) bs st0 fl.1.1 sm
 exact⟨e,.ref C,.ref t,none,H,rfl,acx_ I I' bs fl,hE⟩
theorem Fun.okx{x qual:Str}{st:Stmt}{f:Addr}{fd:FuncData}{N ps:List Str}{k:Nat}{sp:Sp}(F:Fun K x qual st f fd)(S:FnScope N ps (qh_ st))(len:∀vs H Q E,sp vs H Q E->vs.length=ps.length)
  (hbody:∀(cdv:Value)(A:Around)(outer:List Env)(s:Shared)(H:Hp)(vs:List V)(Q:VK)(E:XK),Room k (A.deeper (envOfC qual (qh_ st) s.heap.objs.size f cdv))->sp vs H Q E ->
   ∃t,PSs (zt_ (CX1 P w) P w K mg base N qual (qh_ st) f cdv A outer s H E) (jt_ st) t/\t { nx:=λ_ H'=>Q .non H',rt:=Q } (j5_ N vs) H):FnOk P w K mg base (CX1 P w) (k+1) f fd ps sp:=by
 obtain⟨oc,od,kV,doc,pm,an,cdv,ct,osl,rfl,lk,hcd⟩:=F.ex
 exact ajr_ lk hcd S len λA outer s H vs Q E hr hsp=>hbody cdv A outer s H vs Q E hr hsp
end
theorem afl_{K:PySem.W.Frag}{h:Heap}{C:Addr}{bmB:List Value}{newId:String}(X:K.In h)(q:PySem.W.excIn K C bmB newId=true) :
  ∃bm N nm qn bs hdct sn sub ab col dd k0 k1 k2 k3 k5 mN,h.get? C=some (excClassObj nm qn C N bs bm hdct sn sub ab col dd k0 k1 k2 k3 k5 newId)/\h.Ns N mN/\mN "__init__" = none/\OwnTail h bmB bm:=by
 unfold PySem.W.excIn at q
 split at q
 ·rename_i dd cd sl ho
  split at q
  ·rename_i C' bm k0 k1 k2 k3 n k5 hm hs
   simp only[AQ,beq_iff_eq,DA]at q
   obtain⟨⟨⟨⟨⟨rfl,rfl⟩,hdel⟩,ht⟩,hok⟩,hni⟩:=q
   obtain⟨nm,bs,mro,ns,qn,hd,sn,sub,ab,col,del⟩:=cd
   dsimp only at hm hdel hok hni
   subst hm hdel
   have hsl:sl=#[k0,k1,k2,k3,some (.builtin n),k5]:=by
    obtain⟨l⟩:=sl
    simp only at hs
    rw[hs]
   subst hsl
   exact⟨bm,ns,nm,qn,bs,hd,sn,sub,ab,col,dd,k0,k1,k2,k3,k5,_,X _ _ ho,.of_isNs (PySem.W.isNs_of_in X hok),PySem.W.nsMap_none_of_in X hok hni,PySem.W.tail_of_in X ht⟩
  ·cases q
 ·cases q
def aog_(C:Addr)(E:XK)(ta:TA):TS:=λ_ σ H=>ta σ H λvs H1=>vs.length<=sizeLine/\E (.ref C) none H1
theorem aht_{X:Cx}{E:XK}{x:Str}{C:Addr}{bmB:List Value}{B newId initId:String}{np cpos pos:Pos}{e:Expr}{es:List Expr}{ta:TA}(hc:X.calm=true)(R:Rs X E)(FB:ExcBaseFacts B newId initId bmB)(hg:Gl X x)(hm:X.mg x=some (.ref C))(q:PySem.W.excIn X.K C bmB newId=true)
  (ha:PA X (e::es) ta) (hdb:(x==("__debug__" : Str))=false:=by decide) (he:starEach (e::es) X.env=(false,eval e X.env)::starEach es X.env:=by rfl) (hpl:(backTo cpos (starEach es X.env)).any (·.1)=false:=by rfl) :
  PS X (.Raise (some (.Call (.Name x np) (e::es) [] cpos)) none pos) (aog_ C E ta):=by
 intro pins s σ H D I h
 obtain⟨bm,N,nm,qn,bs,hdct,sn,sub,ab,col,dd,k0,k1,k2,k3,k5,mN,hC,hN,hni,T⟩:=afl_ I.mod.kin q
 refine wpAny_Raise_call_subT (C:=C) (nm:=nm) (q:=qn) (N:=N) (bs:=bs) (bm:=bm) (hdct:=hdct) (sn:=sn) (sub:=sub) (ab:=ab) (col:=col) (dd:=dd) (k0:=k0) (k1:=k1) (k2:=k2) (k3:=k3) (k5:=k5)
  FB (mN:=mN) (T.hasType FB.hasBase) (I.ok.hd hc) (by rw[he];show(false||(backTo cpos (starEach es X.env)).any (·.1))=false;rw[hpl];rfl) hni (jN_ I hg hm ⟨rfl,?_⟩ hdb)
 have h0:=ha cpos pins s σ H _ I h
 rw[he]at h0 ⊢
 refine CM (wpAny_mono h0 (λus s2 ⟨vs,H1,I1,r,hl,hE⟩=>?_) λ_ _ y=>y)
 refine⟨rfl,by rw[<-r.length];exact hl,I1.bk _ _ hC,hN.keeps I1.bk,T.keeps I1.bk,λh' e' hx=>R pins σ H1 s2 h' e' C us I1 hx hE⟩
end L2.Ev
namespace L2.Ev
open PySem PySem.Spec PyProof.Rows
open L2.Pl
theorem ack_{K:PySem.W.Frag}{M:Model}{A:Around}{E:Value->Shared->Prop}{s:Shared}{e C C0:Addr}{oe:Obj}{Q:Bool->Shared->Prop}(X:K.In s.heap)(he:s.heap.get? e=some oe)(hc:oe.cls=.ref C)
  (k1:PySem.W.kitCls K (.ref C) (.ref C0)=some true) (k2:PySem.W.kitCls K (.ref C0) (.type "BaseException")=some true) (h:Q true s):wpAny M A (excMatches (.ref e) (.ref C0)) Q E s:=by
 obtain⟨t1,i1,s1⟩:=PySem.W.kit_cls (M:=M) X k1
 obtain⟨_,_,s2⟩:=PySem.W.kit_cls (M:=M) X k2
 have keep:∀b o,s.heap.get? b=some o->s.heap.get? b=some o:=λ_ _ q=>q
 unfold excMatches isInstance
 refine wpAny_bind (wpAny_bind (t1 A _ _ s keep (wpAny_of_eq tc_notTuple ?_)))
 simp only[BA,if_false]
 refine wpAny_bind (wpAny_pure ?_)
 simp only[Cw,DX]
 unfold isExcClass
 refine wpAny_bind (wpAny_bind (wpAny_bind (wpAny_bind (i1 A _ _ s keep ?_))))
 simp only[if_true]
 refine s2 A _ _ s keep ?_
 simp only[Ej,BA,if_false]
 refine wpAny_pure (wpAny_pure ?_)
 have ty:PySem.W.Looks M s.heap (typeOf (.ref e)) (.ref C):=hc▸(PySem.W.Looks.ld he).andThen .now
 refine wpAny_bind (ty A _ _ s keep ?_)
 refine wpAny_bind (wpAny_bind (wpAny_bind (s1 A _ _ s keep ?_)))
 simp only[if_true]
 refine wpAny_pure (wpAny_pure ?_)
 exact wpAny_pure h
def xE(a:Addr)(cls:Value)(od:Option Addr):HO:=.ext λh=>∃ob vs,h.get? a=some ob/\ob.cls=cls/\ob.data=.fields vs/\ob.dict=od
section
variable{X:Cx}{pins:List (Addr×Obj)}{σ:St}{H H':Hp}{s s':Shared}{B:Heap}{a:Addr}{cls a0:Value}{od:Option Addr}
theorem apf_(I:Inv X pins σ H s)(I':Inv X pins σ H' s')(bs:Bs X.stack H s.heap H' B)(fl:x7_ B X.stack a cls a0 od s'.heap):Inv X pins σ (upd H' a (xE a cls od)) s'/\H' a=none:=by
 obtain⟨⟨st,hB,ff,oe,vs,T,oT,ts,he,⟨hc,_⟩,hd,_⟩,ox,hox,hod⟩:=fl
 rw[he]at hox
 cases hox
 have hn:H' a=none:=by
  cases q:H' a with
  |none=>rfl
  |some u=>obtain⟨o,e⟩:=bs.trk a u q;rw[hB]at e;cases e
 have notfr:a∉frs X.stack:=λz=>by
  obtain⟨_,o,e,d⟩:=ff.mem z
  rw[he]at e;cases e
  exact d vs hd
 have notold:∀o,s.heap.get? a=some o->False:=λo e=>by
  obtain⟨o',e',_⟩:=bs.old a o e notfr
  rw[hB]at e';cases e'
 have s0n:∀o,X.s₀.heap.get? a=some o->a∉X.ex->False:=λo e hx=>by
  obtain⟨o',e'⟩:=I.base.there a o e hx
  exact notold o' e'
 have nL:X.env.locals≠a:=λz=>by
  obtain⟨m,⟨o,es,ep,ho,hd',_⟩,_⟩:=I'.loc
  rw[z,he]at ho;cases ho
  rw[hd]at hd';cases hd'
 have nC:∀x c,X.env.cells.lookup x=some c->c≠a:=λx c e z=>by
  obtain⟨v,o,ho,hd'⟩:=I'.cell x c e
  rw[z,he]at ho;cases ho
  rw[hd]at hd';cases hd'
 have nP:∀p∈X.pn++pins,p.1≠a:=λp hp z=>by
  obtain⟨e,_⟩:=I.pin p hp
  rw[z]at e
  exact notold _ e
 have neq:∀b u,H' b=some u->b≠a:=λb u e z=>by rw[z,hn]at e;cases e
 refine⟨⟨I'.ok,I'.os,I'.bare,⟨I'.base.keep,I'.base.slot,λb o e n hx=>?_,I'.base.there,λb xs e=>?_,λb o u e=>?_,λb ps e=>?_⟩,I'.loc,I'.cell,?_,λx c e=>?_,λp hp=>?_,λb u e=>?_,I'.len⟩,hn⟩
 ·have q:=I'.base.free b o e n hx
  by_cases z:b=a
  ·subst z;exact(s0n o e hx).elim
  ·rw[qk_ z];exact q
 ·have q:=I'.base.tups b xs e
  rw[qk_ (neq _ _ q)];exact q
 ·have q:=I'.base.frzs b o u e
  rw[qk_ (neq _ _ q)];exact q
 ·obtain⟨more,q⟩:=I'.base.tbls b ps e
  exact⟨more,by rw[qk_ (neq _ _ q)];exact q⟩
 ·rw[qk_ nL];exact I'.free
 ·rw[qk_ (nC x c e)];exact I'.freeC x c e
 ·obtain⟨q1,q2,q3⟩:=I'.pin p hp
  exact⟨q1,by rw[qk_ (nP p hp)];exact q2,q3⟩
 ·by_cases z:b=a
  ·subst z
   rw[qc_]at e
   cases e
   exact⟨⟨oe,vs,he,hc,hd,hod⟩,⟨oe,he⟩,λh1 h2 ⟨ob,ws,k1,k2,k3⟩ k=>⟨ob,ws,k _ k1,k2,k3⟩⟩
  ·rw[qk_ z]at e
   exact(I'.hok b u e).stay (λ_ _ _ q=>q) (λc q=>by rw[qk_ (neq _ _ q)];exact q) λc xs q=>by rw[qk_ (neq _ _ q)];exact q
theorem anx_{M:Model}{A:Around}{E:Value->Shared->Prop}{i:Nat}{x:Str}{pos:Pos}{Q:Unit->Shared->Prop}(I:Inv X pins σ H s)(hN:X.N.Nodup)(hi:X.N[i]?=some x)(hx:X.env.scope.names.lookup x=some .local)
  (h:∀s',Inv X pins (σ.set i none) H s'->Q () s'):wpAny M A (do bindName X.env x .none;unbindBehindTheSuite X.env x pos) Q E s:=by
 obtain⟨m,hn,hl⟩:=id I.loc
 have hcls:(X.env.scope.kind==.class||(X.env.scope.kind==.module&&X.env.locals != X.env.globals))=false:=by rw[I.ok.kind];rfl
 have hiσ:i<σ.length:=by rw[I.len];exact(AR.mp hi).1
 have cne:=I.cne
 refine wpAny_nameGoes_keeps hx hn hcls λh' v hn' hs=>?_
 obtain⟨oL,_,_,hoL,_⟩:=id hn
 refine h _ ⟨I.ok,I.os,I.bare,⟨λb o e n hb hx=>?_,λb o e n hb hx=>?_,I.base.free,λb o e hx=>?_,I.base.tups,I.base.frzs,I.base.tbls⟩,⟨_,hn',λj y v' e1 e2 e3=>?_⟩,λy c e=>?_,I.free,I.freeC,λp hp=>?_,λb ob e=>?_,by simpa using I.len⟩
 ·exact(hs.2 b (Ag (Ac (AI e) I.ok.above))).trans (I.base.keep b o e n hb hx)
 ·obtain⟨sl,e1⟩:=I.base.slot b o e n hb hx
  exact⟨sl,(hs.2 b (Ag (Ac (AI e) I.ok.above))).trans e1⟩
 ·obtain⟨o',e1⟩:=I.base.there b o e hx
  exact⟨o',(hs.2 b (Ag (Ac (AI e) I.ok.above))).trans e1⟩
 ·by_cases hj:j=i
  ·subst hj
   rw[Cc hiσ]at e2
   cases e2
  ·rw[DL (B2 hj)]at e2
   obtain⟨u',r',q⟩:=hl j y v' e1 e2 e3
   refine⟨u',r',?_⟩
   rcases q with⟨k,e⟩|⟨k,c,e,z⟩
   ·refine .inl ⟨k,?_⟩
    have:y≠x:=λe=>hj (yP_ hN e1 (e▸hi))
    simp [this,e]
   ·exact .inr ⟨k,c,e,z.sameBut hs (cne y c e)⟩
 ·obtain⟨w',z⟩:=I.cell y c e
  exact⟨w',z.sameBut hs (cne y c e)⟩
 ·obtain⟨e,n,ne,nf,d⟩:=I.pin p hp
  exact⟨(hs.2 p.1 ne).trans e,n,ne,nf,d⟩
 ·refine(I.hok b ob e).stay (λc w' hc q=>(hs.2 c ?_).trans q) (λ_ q=>q) λ_ _ q=>q
  intro z
  rcases hc with hc|hc
  ·rw[<-hc,z,I.free]at e;cases e
  ·rw[z,I.free]at hc;cases hc
end
abbrev Cx.mk1(X:Cx)(e:Value):Cx:={ X with A:=X.A.mark (some e),calm:=false,xe:=λ_ _=>False }
abbrev Cx.pin1(X:Cx)(pn:List (Addr×Obj))(T:Value->Shared->Prop):Cx:={ X with pn:=pn,xe:=T }
section
variable{X:Cx}{pins:List (Addr×Obj)}{σ:St}{H:Hp}{s:Shared}
theorem amv_(ok:X.Ok)(e:Value):(Cx.mk1 X e).Ok:=⟨ok.mod,ok.kind,ok.glob,ok.blt,ok.above,ok.inj,ok.has,ok.cab,λz=>(by cases z),ok.frames,ok.stk,ok.exf,ok.bs,ok.bsz,ok.noex,ok.exfs,ok.funs,ok.frf⟩
theorem adq_(I:Inv X pins σ H s)(e:Value):Inv (Cx.mk1 X e) pins σ H s:=⟨amv_ I.ok e,I.os,I.bare,I.base,I.loc,I.cell,I.free,I.freeC,I.pin,I.hok,I.len⟩
theorem alj_(ok:X.Ok){e:Value}(I:Inv (Cx.mk1 X e) pins σ H s):Inv X pins σ H s:=⟨ok,I.os,I.bare,I.base,I.loc,I.cell,I.free,I.freeC,I.pin,I.hok,I.len⟩
theorem ak0_(ok:X.Ok)(pn:List (Addr×Obj))(T:Value->Shared->Prop):(Cx.pin1 X pn T).Ok:=⟨ok.mod,ok.kind,ok.glob,ok.blt,ok.above,ok.inj,ok.has,ok.cab,ok.hd,ok.frames,ok.stk,ok.exf,ok.bs,ok.bsz,ok.noex,ok.exfs,ok.funs,ok.frf⟩
theorem ai8_(I:Inv X pins σ H s)(T:Value->Shared->Prop):Inv (Cx.pin1 X (X.pn++pins) T) [] σ H s:=⟨ak0_ I.ok _ T,I.os,I.bare,I.base,I.loc,I.cell,I.free,I.freeC,λp hp=>I.pin p (by rw[Ax]at hp;exact hp),I.hok,I.len⟩
theorem jI_(ok:X.Ok){T:Value->Shared->Prop}{pins':List (Addr×Obj)}(I:Inv (Cx.pin1 X (X.pn++pins) T) pins' σ H s):Inv X pins σ H s:=⟨ok,I.os,I.bare,I.base,I.loc,I.cell,I.free,I.freeC,λp hp=>I.pin p (Aw _ hp),I.hok,I.len⟩
end
def ae1_(X:Cx)(σ0:St)(E:XK):Prop:=∀(pins:List (Addr×Obj))(H:Hp)(s:Shared)(e:Value)(s':Shared),Inv X pins σ0 H s->CX1 X.prog X.w X.stack H s E e s'->X.xe e s'
def ame_(σ0:St)(sp:Sp)(E:XK)(t:TA):TE:=λσ H Q=>σ=σ0/\t σ H λvs H1=>sp vs H1 Q E
theorem ahu_{X:Cx}{k:Nat}{f:Addr}{fd:FuncData}{ps:List Str}{sp:Sp}{E:XK}{σ0:St}{x:Str}{p pos:Pos}{e:Expr}{es:List Expr}{t:TA}(F:FnOk X.prog X.w X.K X.mg X.base (CX1 X.prog X.w) k f fd ps sp)(hr:Room k X.A)(hg:Gl X x)(hm:X.mg x=some (.ref f))(hk:PySem.W.keepIn X.K (.ref f)=true)(hb:Binds X.K fd ps [])(hx:ae1_ X σ0 E)
  (ha:PA X (e::es) t) (hdb:(x==("__debug__" : Str))=false:=by decide) (he:starEach (e::es) X.env=(false,eval e X.env)::starEach es X.env:=by rfl) (hpl:(backTo pos (starEach es X.env)).any (·.1)=false:=by rfl) :
  PE X (.Call (.Name x p) (e::es) [] pos) (ame_ σ0 sp E t):=by
 intro pins s σ H Q I h
 obtain⟨rfl,h⟩:=h
 refine wpAny_Call_Name_kw (jN_ I hg hm ?_ hdb)
 refine Da (h₀:=X.base) I.ok.mod.kin hk (thn (ha pos pins s σ H _ I h) λus s1 ⟨vs,H1,I1,r,q⟩=>⟨I1.kIn,?_⟩) he hpl
 have hl:us.length=ps.length:=by rw[<-r.length];exact F.len _ _ _ _ q
 have hbd:=hb s1 us I1.kIn (by rw[Ax];exact hl)
 rw[Ax]at hbd
 refine wpAny_call (codeAny_mono (F.run X.A X.stack s1 H1 ⟨us,[]⟩ us vs Q E hr I1.env0 hbd r q) λr' s' hq=>?_)
 cases r' with
 |error e'=>exact hx pins H1 s1 e' s' I1 hq
 |ok fl =>
  cases fl with
  |ret u=>exact I1.after hq
  |next=>exact False.elim hq
  |brk=>exact False.elim hq
  |cont=>exact False.elim hq
def EH(K:PySem.W.Frag)(C0:Addr)(i j:Nat)(D:Ends)(σ:St):XK:=λcls od H'=>∃C:Addr,cls=.ref C/\PySem.W.kitCls K (.ref C) (.ref C0)=some true /\
 ∀a,H' a=none->D.nx (((σ.set i (some (.ref a))).set j (some (.ref a))).set i none) (upd H' a (xE a cls od))
theorem aoh_{X:Cx}{x n y:Str}{C0:Addr}{body:List Stmt}{np py pn ap hp pos:Pos}{i j:Nat}{tb:St->XK->TS}(hst:X.stack=X.env::X.outer)(hfr:X.env.frame=some X.env.locals)
  (hN:X.N.Nodup) (hi:X.N[i]?=some n) (li:X.env.scope.names.lookup n=some .local) (hj:X.N[j]?=some y) (lj:X.env.scope.names.lookup y=some .local) (hg:Gl X x) (hm:X.mg x=some (.ref C0)) (kC:PySem.W.kitCls X.K (.ref C0) (.type "BaseException")=some true)
  (hb:∀(pn':List (Addr×Obj))(T:Value->Shared->Prop)(σ0:St)(E:XK),ae1_ (Cx.pin1 X pn' T) σ0 E->PSs (Cx.pin1 X pn' T) body (tb σ0 E)) (hd1:(n==("__debug__" : Str))=false:=by decide) (hd2:(n==("__classdict__" : Str))=false:=by decide) (hd3:(x==("__debug__" : Str))=false:=by decide) :
  PS X (.Try body [.ExceptHandler (some (.Name x np)) (some n) [.Assign [.Name y py] (.Name n pn) ap] hp] [] [] pos) (λD σ H=>tb σ (EH X.K C0 i j D σ) D σ H):=by
 intro pins s σ H D I h
 rw[arm_exec_Try]
 refine wpAny_bind (wpAny_standAt (wpAny_tryStmt_except ?_))
 have hP:ae1_ (Cx.pin1 X (X.pn++pins) λe s₁=>wpAny (model X.prog X.w) X.A (noteFrame e X.env) (λ_ s₂=>wpAny (model X.prog X.w) X.A (setFlight e none) (λ_ s₃ =>
   wpAny (model X.prog X.w) X.A (handleBy e X.env [.ExceptHandler (some (.Name x np)) (some n) [.Assign [.Name y py] (.Name n pn) ap] hp]) (SP X pins D) X.xe s₃) X.xe s₂) X.xe s₁) σ (EH X.K C0 i j D σ):=by
  rintro pins' H1 s1 e s' J ⟨a,cls,a0,od,H',rfl,F,C,rfl,kC',hE⟩
  have I1:Inv X pins σ H1 s1:=jI_ I.ok J
  obtain⟨os,bare,un,hok,B,bs,fl⟩:=F
  have bs:Bs X.stack H1 s1.heap H' B:=bs
  have fl:x7_ B X.stack a (.ref C) a0 od s'.heap:=fl
  have fl':=fl
  rw[hst]at fl'
  show wpAny _ X.A (noteFrame (.ref a) X.env) _ _ s'
  refine aju_ (outer:=X.outer) (by rw[I1.ok.frames,hst]) hfr fl' λh4 ⟨m1,m2,m3,m4⟩ md sm4=>?_
  refine aao_ (s:={ s' with heap:=h4 }) m1 m2 m3 m4 md λh5 fly5 sm5=>?_
  have sm45:=sm4.trans sm5
  have I5:=yx_ I1 os bare un hok bs fl.1.1 fly5.1.1 sm45
  obtain⟨ob,hob,hobc⟩:=fly5.1.there
  refine wpAny_handleBy_cons (codeAny_handlers_test (jN_ (X:=Cx.mk1 X (.ref a)) (adq_ I5 (.ref a)) hg hm (ack_ I5.kIn hob hobc kC' kC ?_) hd3)) (by intro q;cases q)
  refine codeAny_handlers_suite_as ?_
  obtain⟨⟨n1,n2,n3,n4⟩,nd⟩:=fly5
  refine aao_ (s:={ s' with heap:=h5 }) n1 n2 n3 n4.at nd λh6 fly6 sm6=>?_
  have I6:=yx_ I1 os bare un hok bs fl.1.1 fly6.1.1 (sm45.trans sm6)
  obtain⟨I6',hn⟩:=apf_ I1 I6 bs (by rw[hst];exact fly6)
  refine yJ_ (X:=X) I6' hN hi (Or.inl li) (v:=.ref a) rfl (λs7 I7=>?_) (.inr li)
  have hlt:i<σ.length:=by rw[I1.len];exact(AR.mp hi).1
  have ps:=qf_ (qm_ (X:=Cx.mk1 X (.ref a)) (pos:=ap) (pos':=py) hN hj (Or.inl lj) (afu_ (pos:=pn) hi (Or.inl li) hd1 hd2) rfl (.inr lj))
  refine wpAny_mono (ps pins s7 (σ.set i (some (.ref a))) (upd H' a (xE a (.ref C) od)) { nx:=λσ8 H8=>σ8=(σ.set i (some (.ref a))).set j (some (.ref a))/\H8=upd H' a (xE a (.ref C) od),rt:=λ_ _=>False } (adq_ I7 (.ref a)) ⟨.ref a,Cc hlt,rfl,rfl⟩) (λfw s8 q=>?_) (λ_ _ z=>False.elim z)
  cases fw with
  |next =>
   obtain⟨σ8,H8,J8,rfl,rfl⟩:=q
   exact anx_ (alj_ I.ok J8) hN hi li λs9 I9=>⟨_,_,I9,hE a hn⟩
  |brk=>obtain⟨_,_,_,z⟩:=q;exact z.elim
  |cont=>obtain⟨_,_,_,z⟩:=q;exact z.elim
  |ret u=>obtain⟨_,_,_,_,_,z⟩:=q;exact z.elim
 refine wpAny_mono (hb _ _ σ _ hP [] s σ H D (ai8_ I _) h) (λfw s₁ q=>?_) λe s₁ q=>q
 cases fw with
 |next=>obtain⟨σ',H',J,q⟩:=q;exact wpAny_execs_nil ⟨σ',H',jI_ I.ok J,q⟩
 |brk=>obtain⟨σ',H',J,q⟩:=q;exact⟨σ',H',jI_ I.ok J,q⟩
 |cont=>obtain⟨σ',H',J,q⟩:=q;exact⟨σ',H',jI_ I.ok J,q⟩
 |ret u=>obtain⟨v,σ',H',J,r,q⟩:=q;exact⟨v,σ',H',jI_ I.ok J,r,q⟩
end L2.Ev
namespace L2.Ev
open PySem PySem.Spec PyProof.Rows
open PySem.W
open PySem PySem.Calls PyProof.Rows Builtin Builtin.ObjectAttr Builtin.Getset_descriptor
section
variable{prog:Program}{w:World}{A:Around}{E:Value->Shared->Prop}{K:Frag}{h:Heap}{g:Array GenState}{d:Drawn}{t:Nat}{os:OsState}{a C:Addr}{o:Obj}
theorem ad9_{tp:Value}{R:Result->Shared->Prop}(X:K.In h)(L0:Looks (model prog w) h (typeOf (.ref a)) (.ref C))(hm:mroIn K C (.type "object")=some true)
  (hq:R (.ok (.ret (.ref C))) ⟨h,g,d,t,os⟩):codeAny (model prog w) A (.call (.builtin "getset_descriptor.__get__") ⟨[.builtin "object.__class__",.ref a,tp],[]⟩) R ⟨h,g,d,t,os⟩:=by
 have L1:=looks_mroIn (M:=model prog w) X hm
 refine codeAny_call_builtin KF.slot_gs.plain KF.entry_gs (KF.slot_gs.check _ _ _ _ _ _ _ _ KF.type_class (KF.args_gs _ _ _) ?_)
 unfold Builtin.«getset_descriptor.__get__» descrGet
 rw[dga_obj]
 refine wpAny_bind (wpAny_pure ?_)
 unfold descrGetter descrCheckInstance descrNameAndClass isInstance
 simp only[KF.owner_class]
 repeat lk
 refine⟨Di _ (by decide +kernel),codeAny_builtin KF.entry_class ?_⟩
 unfold Builtin.«object.__class__» shownTypeOf
 repeat lk
 exact hq
theorem abn_{tk:Tok}{Q:Fin->Shared->Prop}(X:K.In h)(L0:Looks (model prog w) h (typeOf (.ref a)) (.ref C))(hm:mroIn K C (.type "object")=some true)(hcl:findIn K (.ref C) "__class__" = some (some (.builtin "object.__class__")))
  (hx:h.get? a=some o) (hc:o.cls=.ref C) (hq:Q (.done (.ret (.ref C))) ⟨h,g,d,t,os⟩) :
  wpAny (model prog w) A (Builtin.«object.__getattribute__» ⟨[.ref a,.str "__class__" tk],[]⟩) Q E ⟨h,g,d,t,os⟩:=by
 have L2:=looks_findIn (M:=model prog w) X hcl
 have f5:=KF.type_class
 have f6:=F.slot_gs_get.lookup
 have f7:=F.slot_gs_set.lookup
 repeat (any_goals (first|assumption|(with_reducible refine wpAny_loadPart_at hx ?_;rw[hc])|with_reducible refine L2.at ?_|wp_step))
 refine ad9_ X L0 hm ?_
 repeat (any_goals (first|assumption|wp_step))
theorem vS_{M:Model}{nameV:Value}{Q:Unit->Shared->Prop}(L0:Looks M h (typeOf (.ref a)) (.ref C))(LB:Looks M h (isSubtype (.ref C) (.type "BaseException")) true)
  (hq:Q () ⟨h,g,d,t,os⟩):wpAny M A (checkBuiltinCall "BaseException.__getattribute__" ⟨[.ref a,nameV],[]⟩) Q E ⟨h,g,d,t,os⟩:=by
 have hk:builtinKind "BaseException.__getattribute__" = some .slot:=by decide +kernel
 have hsplit:splitId "BaseException.__getattribute__" = some ("BaseException", "__getattribute__"):=by decide +kernel
 have ha:=F.args_bexc_ga (.ref a) nameV
 have LI:Looks M h (isInstance (.ref a) (.type "BaseException")) true:=L0.andThen LB
 simp only[checkBuiltinCall,hk,hsplit]
 refine wpAny_bind (LI.at ?_)
 repeat (first|assumption|wp_step)
theorem aci_{tk:Tok}{R:Result->Shared->Prop}(X:K.In h)(hm:mroIn K C (.type "object")=some true)(hb:mroIn K C (.type "BaseException")=some true)(hcl:findIn K (.ref C) "__class__" = some (some (.builtin "object.__class__")))
  (hx:h.get? a=some o) (hc:o.cls=.ref C) (hq:R (.ok (.ret (.ref C))) ⟨h,g,d,t,os⟩) :
  codeAny (model prog w) A (.call (.builtin "BaseException.__getattribute__") ⟨[.ref a,.str "__class__" tk],[]⟩) R ⟨h,g,d,t,os⟩:=by
 have L0:Looks (model prog w) h (typeOf (.ref a)) (.ref C):=hc▸(Looks.ld hx).andThen .now
 exact codeAny_call_builtin Co.ga.plain F.entry_bexc_ga (vS_ L0 (looks_mroIn X hb) (abn_ X L0 hm hcl hx hc hq))
theorem af4_{tk:Tok}{Q:Value->Shared->Prop}(X:K.In h)(hm:mroIn K C (.type "object")=some true)(hb:mroIn K C (.type "BaseException")=some true)(hcl:findIn K (.ref C) "__class__" = some (some (.builtin "object.__class__")))
  (hga:findIn K (.ref C) "__getattribute__" = some (some (.builtin "BaseException.__getattribute__"))) (hgt:findIn K (.ref C) "__getattr__" = some none)
  (hx:h.get? a=some o) (hc:o.cls=.ref C) (hq:Q (.ref C) ⟨h,g,d,t,os⟩):wpAny (model prog w) A (getAttrBy (.ref a) (.str "__class__" tk) false) Q E ⟨h,g,d,t,os⟩:=by
 have f3:=Co.ga.bind (.ref a)
 have hx2:(Value.builtin "BaseException.__getattribute__" == Value.builtin "object.__getattribute__")=false:=by decide +kernel
 have hx1:(onTheHeap (Value.ref C)&&Value.builtin "BaseException.__getattribute__" == Value.builtin "object.__getattribute__")=false:=by rw[hx2];rfl
 have L1:=looks_findIn (M:=model prog w) X hga
 have L2:=looks_findIn (M:=model prog w) X hgt
 repeat (any_goals (first|assumption|(with_reducible refine wpAny_loadPart_at hx ?_;rw[hc])|with_reducible refine L1.at ?_|with_reducible refine L2.at ?_|wp_step))
 refine aci_ X hm hb hcl hx hc ?_
 repeat (any_goals (first|assumption|wp_step))
theorem acg_{Q:Option Value->Shared->Prop}(X:K.In h)(hm:mroIn K C (.type "object")=some true)(hb:mroIn K C (.type "BaseException")=some true)(hcl:findIn K (.ref C) "__class__" = some (some (.builtin "object.__class__")))
  (hga:findIn K (.ref C) "__getattribute__" = some (some (.builtin "BaseException.__getattribute__"))) (hgt:findIn K (.ref C) "__getattr__" = some none)
  (hx:h.get? a=some o) (hc:o.cls=.ref C) (hq:Q (some (.ref C)) ⟨h,g,d,t+1,os⟩):wpAny (model prog w) A (getAttr? (.ref a) "__class__") Q E ⟨h,g,d,t,os⟩:=by
 unfold getAttr? getAttrBy?
 repeat (any_goals (first|assumption|with_reducible apply af4_ X hm hb hcl hga hgt hx hc|wp_step))
end
structure ExcK(K:Frag)(C:Addr):Prop where
 obj:mroIn K C (.type "object")=some true
 exc:mroIn K C (.type "BaseException")=some true
 cls:findIn K (.ref C) "__class__" = some (some (.builtin "object.__class__"))
 ga:findIn K (.ref C) "__getattribute__" = some (some (.builtin "BaseException.__getattribute__"))
 gt:findIn K (.ref C) "__getattr__" = some none
 is:(clsIn K C).isSome=true
theorem aho_{K:Frag}{a C:Addr}(k:ExcK K C):KitX K (.ref a) (.ref C) (λh=>∃o,h.get? a=some o/\o.cls=.ref C) where
 ty:=λM h _ ⟨o,hx,hc⟩=>hc▸(Looks.ld hx).andThen .now
 it:=λ_ _ X _=>by
  have z0:=k.is
  unfold clsIn at z0
  split at z0
  ·rename_i c' d' cd' sl' ho
   intro A' Q' E' s' kk q
   unfold isType loadHead
   exact wpAny_bind (wpAny_loadPart (kk _ _ (X _ _ ho)) (wpAny_pure q))
  ·cases z0
 ne:=λh tp dd its n sl X htp=>by
  refine Bool.eq_false_iff.mpr λq=>?_
  have e:C=tp:=Value.ref.inj (beq_iff_eq.mp q)
  subst e
  have z0:=k.is
  unfold clsIn at z0
  split at z0
  ·rename_i c' d' cd' sl' ho
   have:=X _ _ ho
   rw[htp]at this
   cases this
  ·cases z0
 ca:=λ{prog w A E Q s} X ⟨o,hx,hc⟩ q=>by
  obtain⟨hh,g,d,t,os⟩:=s
  exact acg_ X k.obj k.exc k.cls k.ga k.gt hx hc q
section
variable{X:Cx}
theorem qK_:CallR X (.builtin "isinstance") (λxs H Q=>∃od a C c u b,xs=[.ref a,c]/\H a=some (xE a (.ref C) od)/\ExcK X.K C/\RelV c u/\(∀u',RelV c u'->u'=u)/\kitOne X.K (.ref C) u=some b/\Q (.bl b) H):=by
 intro pins s σ H xs us Q I r h
 obtain⟨od,a,C,c,u,b,rfl,ha,k,_,uni,e,q⟩:=h
 obtain⟨u1,v,rfl,r1,r2⟩:=jE_ r
 cases r1
 have hv:=uni v r2
 subst hv
 obtain⟨⟨ob,vs,hx,hc,_⟩,_⟩:=(show ObjOk X.prog X.w H s.heap a (xE a (.ref C) od) from I.hok a _ ha)
 exact kia_one (aho_ k) I.kIn ⟨ob,hx,hc⟩ e (λz=>nomatch z) λtk=>⟨.bl b,H,I.tok tk,rfl,q⟩
end
end L2.Ev
namespace L2.Ev
open PySem PySem.Spec PyProof.Rows
open L2.Pl
section
variable{X:Cx}
theorem agj_:CallR X (.type "int") (λxs H Q=>∃b,xs=[.bl b]/\Q (.int (if b then 1 else 0)) H):=by
 intro pins s σ H xs us Q I r h
 obtain⟨b,rfl,q⟩:=h
 obtain⟨u,rfl,ru⟩:=zT_ r
 cases ru
 exact call_int_bool ⟨.int (if b then 1 else 0),H,I.tok _,⟨_,rfl⟩,q⟩
end
end L2.Ev
namespace L2.Ev
open PySem PySem.Spec PyProof.Rows
open L2.Pl
end L2.Ev
namespace L2.Ev
open PySem PyProof.Rows
open L2.Pl
end L2.Ev
namespace L2.Ev
open PySem PySem.Spec PyProof.Rows
open L2.Pl
theorem all_{prog:Program}{w:World}{A:Around}(hh:A.handled=none)(k:SK)(it l:Addr)(ne:l≠it)(xs:Array Value) :
  Draws prog w A it [it,l] xs.size (λi x=>xs[i]?=some x) (λi h=>k.iter h it l i/\k.seq h l xs) where
 live:=λi h st=>by
  cases k with
  |lst=>obtain⟨⟨o,e,_⟩,_⟩:=st;exact⟨o,e⟩
  |tup=>obtain⟨⟨o,e,_⟩,_⟩:=st;exact⟨o,e⟩
 frame:=λi h h' st q=>⟨SK.iter_keep st.1 λo e=>q it (by simp) o e,SK.seq_keep st.2 λo e=>q l (by simp) o e⟩
 item:=λi s Q E hi st q=>SK.next st.1 st.2 (AF hi) λh' p sb=>q xs[i] h' s.toks (AF hi) ⟨p,SK.seq_keep st.2 λo e=>sb.extBut _ _ ne e⟩ sb
 done:=λs Q E st q=>SK.stop hh st.1 st.2 (by simp) q
structure ESt(k:SK)(e it l:Addr)(i:Nat)(h:Heap):Prop where
 he:∃old,IsEnum h e it (i:Int) old
 hi:k.iter h it l i
theorem ank_(l:Addr)(xs:Array Value) :
  Meets (Builtin.«enumerate.__new__» ⟨[.type "enumerate",.ref l],[]⟩) (λ_ R s=>s.heap.IsTuple l xs/\R (.ok (.ret (.ref (s.heap.push (SK.tup.ob l)).objs.size))) { s with heap:=(s.heap.push (SK.tup.ob l)).push { cls:=.type "enumerate",data:=.fields #[.none,.bool false,.ref s.heap.objs.size,rawInt 0,.none,.none] } }) :=
 .of_wp λprog w A R s h=>by
  obtain⟨hp,g,d,tk,os⟩:=s
  obtain⟨w1,h⟩:=h
  have hsub:=sub_enumerate
  have w1:Heap.IsTuple (Shared.heap ⟨hp,g,d,tk,os⟩) l xs:=w1
  obtain⟨o,ho,_⟩:=id w1
  wp_walk using C3 ho,wpAny_pyIter_tuple w1
  refine wpAny_stack_any λst=>wpAny_pure ?_
  split
  ·rename_i c _ _ _ _ _
   cases(c==Value.type "enumerate")<;>(wp_walk using C3 ho,wpAny_pyIter_tuple w1;exact⟨_,rfl,h⟩)
  ·wp_walk using C3 ho,wpAny_pyIter_tuple w1
   exact⟨_,rfl,h⟩
theorem ant_{k:SK}{l:Addr}{xs:Array Value}{Q:Value->Shared->Prop}{prog:Program}{w:World}{A:Around}{E:Value->Shared->Prop}{s:Shared}(hl:k.seq s.heap l xs)
  (h:∀h',ESt k (s.heap.objs.size+1) s.heap.objs.size l 0 h'->(∀c o,s.heap.get? c=some o->h'.get? c=some o)->Q (.ref (s.heap.objs.size+1)) { s with heap:=h' }) :
  wpAny (model prog w) A (call (.type "enumerate") [.ref l]) Q E s:=by
 cases k with
 |lst=>exact call_enumerate_list hl λh' a b _ q=>h h' ⟨⟨_,a⟩,b⟩ q
 |tup =>
  refine callType_new F.called_enumerate (by decide) (F.typeCall_enumerate_1 _) (F.newCall_enumerate_1 _) (λobj=>F.args_object_init_2 obj _) F.entry_enumerate_new (ank_ l xs) ⟨hl,?_⟩
  have e1:(s.heap.push (SK.tup.ob l)).objs.size=s.heap.objs.size+1:=BP ..
  have g2:((s.heap.push (SK.tup.ob l)).push { cls:=.type "enumerate",data:=.fields #[.none,.bool false,.ref s.heap.objs.size,rawInt 0,.none,.none] }).get? (s.heap.push (SK.tup.ob l)).objs.size=some _:=AM _ rfl
  have fin:=h _ ⟨⟨.none,by rw[e1]at g2;exact g2⟩,SK.iter_new (k:=.tup) (AB _ (AM _ rfl))⟩ λc o e=>AB _ (AB _ e)
  rw[<-e1]at fin
  exact⟨⟨_,g2,rfl⟩,fin⟩
def Ite(K:PySem.W.Frag)(k:SK)(a:Addr):It :=
 ⟨λi H=>∃xs x,k.is K H a xs/\xs[i]?=some x,
  λi H v H'=>∃p x,v=.ref p/\H p=none/\H'=upd H p (.tup [.int i,x])/\∀xs,k.is K H a xs->xs[i]?=some x,
  λi H=>∃xs,k.is K H a xs/\xs.length<=i⟩
theorem agq_{P:Program}{w:World}{K:PySem.W.Frag}{elts:List Expr}{x1}{pos:Pos}(k:SK)(a e it:Addr)(ne:e≠it) :
  Turn P w K (.Tuple elts x1 pos) (Ite K k a) [e,it] e (λi h=>ESt k e it a i h) where
 mem:=by simp
 obj:=λi h st c hc=>by
  obtain⟨⟨old,he⟩,h1⟩:=st
  simp only[AJ,BR,or_false]at hc
  rcases hc with rfl|rfl
  ·exact⟨_,he,λv q=>by cases(show Data.fields _=Data.cell v from q)⟩
  ·cases k with
   |lst=>obtain⟨o,e,_,d⟩:=h1;exact⟨o,e,λv q=>by rw[d]at q;cases q⟩
   |tup=>obtain⟨o,e,_,d⟩:=h1;exact⟨o,e,λv q=>by rw[d]at q;cases q⟩
 keep:=λi h h' st q=>by
  obtain⟨⟨old,he⟩,h1⟩:=st
  exact⟨⟨old,q e (by simp) _ he⟩,SK.iter_keep h1 λo x=>q it (by simp) o x⟩
 item:=by
  intro X hP hw hK hc i pins s σ H E I hf st hg
  subst hP hw hK
  obtain⟨xs,x,q1,hx⟩:=hg
  obtain⟨its,r1,p1⟩:=SK.at I q1
  obtain⟨u,hu,ru⟩:=r1.get hx
  have fe:=hf e (by simp)
  have fi:=hf it (by simp)
  have ae:a≠e:=jf_ I q1 fe
  have ai:a≠it:=jf_ I q1 fi
  obtain⟨⟨old,he⟩,h1⟩:=id st
  have lt:i<its.toArray.size:=by
   have:=(AR.mp hu).1
   simpa using this
  refine wpAny_pyNext_enum_itemD (all_ (A:=X.A.in1) (I.ok.hd hc) k it a ai its.toArray) he ⟨h1,p1⟩ lt ne (by simp only[AJ,BR,or_false,not_or];exact⟨ne,ae.symm⟩) λv h' tk hv a1 a2 a3 _ a4=>?_
  have hv':u=v:=by
   have:its[i]?=some v:=by simpa using hv
   rw[hu]at this
   exact AW this
  subst hv'
  refine⟨_,rfl,wpAny_letOwnedTupleGo_enum (s:={ s with heap:=h',toks:=tk+1 }) a1 λh'' b1 b2=>?_⟩
  have kp:∀c o,c∉[e,it]->s.heap.get? c=some o->h''.get? c=some o:=λc o hc x=>by
   simp only[AJ,BR,or_false,not_or]at hc
   exact b2.extBut _ _ hc.1 (a4 c o hc.1 hc.2 x)
  have elt:e<s.heap.objs.size:=AI he
  have hT:=b2.extBut _ _ (Ba elt) a3
  have hn:H s.heap.objs.size=none:=I.fresh
  have hok:HOk X.prog X.w (upd H s.heap.objs.size (.tup [.int i,x])) h'':=λc o z=>by
   by_cases hc:c=s.heap.objs.size
   ·subst hc
    rw[qc_]at z
    cases z
    exact⟨by show 2<=sizeLine;decide,[.int i tk,u],.cons ⟨tk,rfl⟩ (.cons ru .nil),⟨_,hT,rfl,_,rfl,rfl⟩⟩
   ·rw[qk_ hc]at z
    refine(I.hok c o z).stay (λd v2 hd q=>kp d v2 (λm=>?_) q) (λd q=>by rw[qk_ (qq_ q hn)];exact q) λd xs q=>by rw[qk_ (qq_ q hn)];exact q
    have z2:=(hf d m).1
    rcases hd with rfl|hd
    ·rw[z]at z2;cases z2
    ·rw[hd]at z2;cases z2
  have I9:Inv X pins σ (upd H s.heap.objs.size (.tup [.int i,x])) { s with heap:=h'',toks:=tk+1 }:=xi_ (s:=s) I hf kp (λc hc=>qk_ (Ag hc)) hok
  refine⟨.ref s.heap.objs.size,upd H s.heap.objs.size (.tup [.int i,x]),I9,rfl,⟨s.heap.objs.size,x,rfl,hn,rfl,λzs hz=>by rw[SK.inj I hz q1];exact hx⟩,?_,λc hc=>?_⟩
  ·refine⟨⟨u,?_⟩,SK.iter_keep a2.1 λo x=>b2.extBut _ _ ne.symm x⟩
   rw[Int.natCast_add]
   exact b1
  ·have hlt:c<s.heap.objs.size:=by
    simp only[AJ,BR,or_false]at hc
    rcases hc with rfl|rfl
    ·exact elt
    ·exact SK.iter_lt h1
   rw[qk_ (Ag hlt)]
   exact(hf c hc).1
 done:=by
  intro X hP hw hK hc i pins s σ H E I hf st hg
  subst hP hw hK
  obtain⟨xs,q1,hx⟩:=hg
  obtain⟨its,r1,p1⟩:=SK.at I q1
  have fe:=hf e (by simp)
  have fi:=hf it (by simp)
  have ai:a≠it:=jf_ I q1 fi
  have l1:=r1.length
  obtain⟨⟨old,he⟩,h1⟩:=id st
  have hT:s.TypeIs (.ref e) "enumerate" := ⟨_,he,rfl⟩
  unfold pyNext
  refine wpAny_bind (wpAny_attempt (wpAny_callSpecial?_slot (name:=Str.ofString "__next__") hT EU (wpAny_call_entry EU hT F.entry_enumerate_next ?_ (F.args_enumerate_next_1 _))))
  show wpAny _ _ (field (.ref e) 2>>=λ_=>_) _ _ _
  refine wpAny_bind (wpAny_field he rfl (x:=Value.ref it) rfl (wpAny_bind (SK.stop (show X.A.in1.handled=none from I.ok.hd hc) h1 p1 (by simp;omega) λh' z q hz=>?_)))
  obtain⟨o,ho,hcl⟩:=hz
  refine wpAny_bind (wpAny_isInstance (T := "StopIteration") (b:=true) ⟨o,ho,hcl⟩ isSubtype_stop (wpAny_pure ⟨rfl,?_⟩))
  have kp:∀c o,c∉[it]->s.heap.get? c=some o->h'.get? c=some o:=λc o hc x=>q c o (by simpa using hc) x
  have hf1:∀c∈[it],js_ X pins H c:=λc hc=>by rw[Af.mp hc];exact fi
  refine xi_ (h':=h') (t':=s.toks) I hf1 kp (λc _=>rfl) λc o z=>?_
  refine(I.hok c o z).stay (λd v2 hd q=>kp d v2 (λm=>?_) q) (λd q=>q) λd xs q=>q
  have z2:=(hf1 d m).1
  rcases hd with rfl|hd
  ·rw[z]at z2;cases z2
  ·rw[hd]at z2;cases z2
 self:=λ_ _ _ _ _ st h=>by
  obtain⟨⟨old,he⟩,_⟩:=st
  exact wpAny_pyIter_enum he h
def ao4_(K:PySem.W.Frag)(k:SK)(ta:TA):TI:=λσ H R=>ta σ H λvs H1=>∃a,vs=[.ref a]/\(∃xs,k.is K H1 a xs)/\R (Ite K k a) H1
theorem ac2_{X:Cx}{ea:Expr}{ta:TA}{p pos tp:Pos}{elts:List Expr}{x1}(k:SK)(hg:Gl X "enumerate")(hm:X.mg "enumerate" = none)(ha:PA X [ea] ta)(hs:starEach [ea] X.env=(false,eval ea X.env)::starEach [] X.env:=by rfl)(hs2:(backTo pos (starEach [] X.env)).any (·.1)=false:=by rfl) :
  PI X (.Tuple elts x1 tp) (.Call (.Name "enumerate" p) [ea] [] pos) (ao4_ X.K k ta):=by
 intro pins s σ H R I h
 refine Call_ (jl_ I hg hm boot_enumerate (B0 (thn (ha pos pins s σ H _ I h) λus s1 ⟨vs,H1,I1,r1,q1⟩=>?_) hs hs2))
 obtain⟨a,rfl,⟨xs,ex⟩,q⟩:=q1
 obtain⟨u,rfl,ru⟩:=zT_ r1
 cases ru
 obtain⟨its,r1,p1⟩:=SK.at I1 ex
 refine ant_ p1 λh' Z kp=>?_
 obtain⟨⟨old,he⟩,_⟩:=id Z
 refine wpAny_pyIter_enum he ?_
 have I2:Inv X pins σ H1 { s1 with heap:=h' }:=I1.kept (t':=s1.toks) kp
 refine⟨_,[s1.heap.objs.size+1,s1.heap.objs.size],_,_,H1,rfl,I2,agq_ k a _ _ (Nat.succ_ne_self _),Z,λc hc=>?_,q⟩
 have ge:s1.heap.objs.size<=c:=by
  simp only[AJ,BR,or_false]at hc
  rcases hc with rfl|rfl
  ·exact Cl _ _
  ·exact AG _
 exact I1.fpOk ge (I1.hok.fresh ge)
end L2.Ev
namespace L2.Ev
open PySem PySem.Spec PyProof.Rows
open L2.Pl
instance datStr:Dat Str where
 is:=λ_ v b=>v=.str b
 mono:=λ_ h=>h
 inj:=λh h'=>by rw[h]at h';cases h';rfl
 dep:=0
 eqb:=λa b=>a==b
 eqb_iff:=λa b=>beq_iff_eq
 eqAt:=λ{X pins σ H s A v v' u u' a b} I hu h h' r r'=>by
  subst h h'
  obtain⟨t,rfl⟩:=r
  obtain⟨t',rfl⟩:=r'
  exact SeqAt.EqAt.str_str _ _ _ _
section
variable{prog:Program}{w:World}{A:Around}{E:Value->Shared->Prop}{s:Shared}
theorem acp_{t sl:Addr}{items:Array Value}{vl vu:Value}{lo hi:Option Int}{Q:Value->Shared->Prop}(ht:IsTup s.heap t items)(hs:s.heap.IsSliceOf sl vl vu .none)(pl:IsPart vl lo)(pu:IsPart vu hi)
  (w1:HT.sIx items.size 0 lo=0) (w2:HT.sIx items.size items.size hi=items.size) (h:Q (.ref t) s):wpAny (model prog w) A (getItem (.ref t) (.ref sl)) Q E s:=by
 obtain⟨os,hos,hcs,hds⟩:=id hs
 have hTs:s.TypeIs (.ref sl) "slice" := ⟨os,hos,hcs⟩
 unfold getItem
 try with_reducible refine wpAny_holding ?_
 first|refine wpAny_bind (wpAny_pure ?_)|skip
 refine wpAny_bind (wpAny_sequenceKey ht.typeIs (by decide) (wpAny_bind (wpAny_callSpecial?_slot (name:=Str.ofString "__getitem__") ht.typeIs BW (wpAny_call_entry BW ht.typeIs entry_tuple_getitem ?_ (args_tuple_getitem _ _)))))
 show wpAny _ _ (Builtin.Tuple.tupleItemsOf (.ref t)>>=λ_=>_) _ _ s
 refine wpAny_bind (tupleItemsOf_ ht (wpAny_bind (wpAny_typeOf hTs ?_)))
 rw[if_pos (by decide)]
 refine wpAny_bind (HT.sliceApplied_gen hs pl pu ?_)
 rw[w1,w2]
 show wpAny _ _ (if (((0:Nat):Int)==0&&(1:Int)==1&&(items.size-0)==items.size)=true then _ else _) _ _ s
 rw[if_pos (by simp)]
 refine wpAny_bind ?_
 refine wpAny_bind (m:=Builtin.Tuple.tupleIsExact (.ref t)) ?_
 unfold Builtin.Tuple.tupleIsExact
 refine wpAny_bind (wpAny_typeOf ht.typeIs (wpAny_pure (wpAny_pure ?_)))
 rw[if_pos (by decide)]
 exact wpAny_bind (wpAny_rule (wpAny_pure ⟨_,rfl,wpAny_pure h⟩))
end
section
variable{X:Cx}
def app_(K:PySem.W.Frag):V->Option Int->Option Int->Hp->VK->Prop:=λx lo hi H Q=>∃a xs,x=.ref a/\SqT K H a xs/\HT.sIx xs.length 0 lo=0/\HT.sIx xs.length xs.length hi=xs.length/\Q (.ref a) H
theorem yw_:SlR X (app_ X.K):=by
 intro pins s σ H x v vl vu lo hi sl Q I rx hs pl pu h
 obtain⟨a,xs,rfl,hx,w1,w2,q⟩:=h
 cases rx
 obtain⟨its,r,ht,hz⟩:=I.tuple hx
 have hlen:its.toArray.size=xs.length:=by rw[AZ];exact r.length.symm
 exact⟨"tuple",_,BW.lookup,ht.typeIs,acp_ ht hs pl pu (by rw[hlen];exact w1) (by rw[hlen];exact w2) ⟨.ref a,H,I,rfl,q⟩⟩
theorem akt_:SlR X (λx lo hi H Q=>∃(a:Addr)(r:List Int),x=.ref a/\lo=some 1/\hi=none/\H a=some (.tup (r.map V.int))/\∀(p:Addr)(H':Hp),Same H H'->H' p=some (.tup ((r.drop 1).map V.int))->Q (.ref p) H'):=by
 intro pins s σ H x v vl vu lo hi sl Q I rx hs pl pu h
 obtain⟨a,r,rfl,rfl,rfl,ha,q⟩:=h
 cases r with
 |nil=>exact yw_ pins s σ H _ v vl vu _ _ sl Q I rx hs pl pu ⟨a,[],rfl,SqT.of ha,rfl,rfl,q a H (λ_ _ e=>e) ha⟩
 |cons n r =>
  refine j2_ pins s σ H _ v vl vu _ _ sl Q I rx hs pl pu ⟨a,_,rfl,SqT.of ha,λz=>?_,λp hp=>?_⟩
  ·have z1:=z.1
   rw[show(1:Int)=((1:Nat):Int) from rfl,HT.sIx_nat,AA,Am]at z1
   omega
  ·refine q p _ (qd_ hp _) ?_
   rw[qc_]
   unfold zl_
   rw[show(1:Int)=((1:Nat):Int) from rfl,HT.sIx_nat,HT.sIx_none,AA,Am,BQ (by omega),AN (by simp),Cr]
theorem aca_:SlR X (λx lo hi H Q=>∃(a:Addr)(r:List Int)(k:Nat),x=.ref a/\lo=none/\hi=some (k:Int)/\H a=some (.tup (r.map V.int))/\∀(p:Addr)(H':Hp),Same H H'->H' p=some (.tup ((r.take k).map V.int))->Q (.ref p) H'):=by
 intro pins s σ H x v vl vu lo hi sl Q I rx hs pl pu h
 obtain⟨a,r,k,rfl,rfl,rfl,ha,q⟩:=h
 by_cases c:r.length<=k
 ·refine yw_ pins s σ H _ v vl vu _ _ sl Q I rx hs pl pu ⟨a,_,rfl,SqT.of ha,HT.sIx_none _ _,?_,q a H (λ_ _ e=>e) (by rw[AN c];exact ha)⟩
  rw[HT.sIx_nat,AA]
  omega
 ·refine j2_ pins s σ H _ v vl vu _ _ sl Q I rx hs pl pu ⟨a,_,rfl,SqT.of ha,λz=>?_,λp hp=>?_⟩
  ·have z2:=z.2
   rw[HT.sIx_nat,AA]at z2
   omega
  ·refine q p _ (qd_ hp _) ?_
   rw[qc_]
   unfold zl_
   rw[HT.sIx_nat,HT.sIx_none,AA,CO,Dt,BQ (by omega),Dm]
end
end L2.Ev
namespace L2.Ev
open PySem PySem.Spec PyProof.Rows
open L2.Pl
section
variable{X:Cx}
theorem afc_:SlR X (λx lo hi H Q=>∃(a:Addr)(r:List Int)(k:Nat),x=.ref a/\lo=some (k:Int)/\hi=none/\H a=some (.tup (r.map V.int))/\∀(p:Addr)(H':Hp),Same H H'->H' p=some (.tup ((r.drop k).map V.int))->Q (.ref p) H'):=by
 intro pins s σ H x v vl vu lo hi sl Q I rx hs pl pu h
 obtain⟨a,r,k,rfl,rfl,rfl,ha,q⟩:=h
 by_cases c:min k r.length=0
 ·have e:r.drop k=r:=by
   rcases Nat.min_eq_zero_iff.mp c with z|z
   ·rw[z];rfl
   ·rw[BN.mp z,List.drop_nil]
  exact yw_ pins s σ H _ v vl vu _ _ sl Q I rx hs pl pu ⟨a,_,rfl,SqT.of ha,by rw[HT.sIx_nat,AA];exact c,HT.sIx_none _ _,q a H (λ_ _ e=>e) (by rw[e];exact ha)⟩
 ·refine j2_ pins s σ H _ v vl vu _ _ sl Q I rx hs pl pu ⟨a,_,rfl,SqT.of ha,λz=>?_,λp hp=>?_⟩
  ·have z1:=z.1
   rw[HT.sIx_nat,AA]at z1
   exact c z1
  ·refine q p _ (qd_ hp _) ?_
   rw[qc_]
   unfold zl_
   rw[HT.sIx_nat,HT.sIx_none,AA,AN (by rw[A0,AA];omega),Cr]
   by_cases c2:k<=r.length
   ·rw[BQ c2]
   ·rw[Cn (by omega),Bo (by rw[AA];omega),Bo (by rw[AA];omega)]
end
end L2.Ev
namespace L2.Ev
open PySem PySem.Spec PyProof.Rows
open L2.Pl
theorem yX_:fillsNumberSlot (.type "tuple") "mul" = pure false :=
 PySem.fillsNumberSlot_seq (id := "tuple.__mul__") (r:=some (.builtin "tuple.__rmul__")) CG.lookup (by decide +kernel) D8.lookup (by decide +kernel)
theorem abd_:seqRepeat? (.type "tuple")=pure (some (.builtin "tuple.__mul__")):=by
 unfold seqRepeat?
 rw[PySem.seqSlot_of (T := "tuple") (name := "__mul__") (id := "tuple.__mul__") CG.lookup (by decide +kernel),PySem.seqSlot_of (T := "tuple") (name := "__rmul__") (id := "tuple.__rmul__") D8.lookup (by decide +kernel)]
 rfl
theorem aa0_(a:Int)(t:Tok)(l:Addr)(items:Array Value)(n:Nat)(dd:Option Addr)(sl:Array (Option Value)) :
  Meets (Builtin.«int.__rmul__» ⟨[.int a t,.ref l],[]⟩) (λ_ R s=>s.heap.get? l=some ⟨.type "tuple",dd,.seq items n,sl⟩/\R (.ok (.ret Value.notImplemented)) s) :=
 .of_wp λprog w A R s h=>by
  obtain⟨hp,g,d,tk,os⟩:=s
  obtain⟨hl,h⟩:=h
  wp_walk
  exact⟨_,rfl,h⟩
theorem ah4_(l:Addr)(items:Array Value)(n:Nat)(dd:Option Addr)(sl:Array (Option Value))(u:Tok) :
  Meets (Builtin.«tuple.__mul__» ⟨[.ref l,.int 1 u],[]⟩) (λ_ R s=>s.heap.get? l=some ⟨.type "tuple",dd,.seq items n,sl⟩/\R (.ok (.ret (.ref l))) s) :=
 .of_wp λprog w A R s h=>by
  obtain⟨hp,g,d,tk,os⟩:=s
  obtain⟨hl,h⟩:=h
  have hc:(items.isEmpty||(1:Int)==1)=true:=by rw[beq_self_eq_true,Dz]
  wp_walk
  exact⟨_,rfl,h⟩
theorem ai6_(l:Addr)(items:Array Value)(n:Nat)(dd:Option Addr)(sl:Array (Option Value))(k:Int)(u:Tok)(hi:items.isEmpty=false)(h0:k<=0)(h1:-(2^63)<=k) :
  Meets (Builtin.«tuple.__mul__» ⟨[.ref l,.int k u],[]⟩) (λ_ R s=>s.heap.get? l=some ⟨.type "tuple",dd,.seq items n,sl⟩/\R (.ok (.ret (.ref s.heap.objs.size))) { s with heap:=s.heap.push { cls:=.type "tuple",data:=.seq #[] } }) :=
 .of_wp λprog w A R s h=>by
  obtain⟨hp,g,d,tk,os⟩:=s
  obtain⟨hl,h⟩:=h
  have hf:¬ (decide (k < -(2^63))||decide (k ≥ 2^63))=true:=by rw[decide_eq_false (by omega),decide_eq_false (by omega)];exact AV
  have hc:¬ (items.isEmpty||k==1)=true:=by rw[hi,show(k==1)=false from beq_eq_false_iff_ne.mpr (by omega)];exact AV
  have hz:(decide (k<=0)||items.isEmpty)=true:=by rw[decide_eq_true h0];rfl
  wp_walk
  refine wpAny_ite_false (decide_eq_false hf) ?_
  wp_walk
  refine wpAny_ite_false (decide_eq_false hc) ?_
  wp_walk
  exact⟨_,rfl,h⟩
theorem ahx_(l:Addr)(items:Array Value)(n:Nat)(dd:Option Addr)(sl:Array (Option Value))(k:Int)(u:Tok)(hi:items.isEmpty=false)(h0:2<=k)(h1:k<2^63)(hz:items.size*k.toNat<=sizeLine) :
  Meets (Builtin.«tuple.__mul__» ⟨[.ref l,.int k u],[]⟩) (λ_ R s=>s.heap.get? l=some ⟨.type "tuple",dd,.seq items n,sl⟩/\R (.ok (.ret (.ref s.heap.objs.size))) { s with heap:=s.heap.push { cls:=.type "tuple",data:=.seq ((List.replicate k.toNat items).foldl (λx1 x2=>x1++x2) #[]) } }) :=
 .of_wp λprog w A R s h=>by
  obtain⟨hp,g,d,tk,os⟩:=s
  obtain⟨hl,h⟩:=h
  have e:(items.size:Int)*k=((items.size*k.toNat:Nat):Int):=by rw[Int.natCast_mul,Eo (by omega)]
  have hs:(sizeLine:Nat)<=(2^63-1) / 8:=by decide
  have hf:¬ (decide (k < -(2^63))||decide (k ≥ 2^63))=true:=by rw[decide_eq_false (by omega),decide_eq_false (by omega)];exact AV
  have hc:¬ (items.isEmpty||k==1)=true:=by rw[hi,show(k==1)=false from beq_eq_false_iff_ne.mpr (by omega)];exact AV
  have hz1:¬ (decide (k<=0)||items.isEmpty)=true:=by rw[decide_eq_false (by omega),hi];exact AV
  have hm:¬ (items.size:Int)*k>(2^63-1) / 8:=by rw[e];omega
  have ht:¬ Builtin.Tuple.tupleTooMany ((items.size:Int)*k)=true:=by
   unfold Builtin.Tuple.tupleTooMany
   rw[e,decide_eq_false (by omega)]
   exact AV
  have hsz:sizeOk (.seq ((List.replicate k.toNat items).foldl (λx1 x2=>x1++x2) #[])):=by
   show((List.replicate k.toNat items).foldl (λx1 x2=>x1++x2) #[]).size<=sizeLine
   have:∀(m:Nat)(acc:Array Value),((List.replicate m items).foldl (λx1 x2=>x1++x2) acc).size=acc.size+items.size*m:=by
    intro m
    induction m with
    |zero=>intro acc;simp
    |succ m ih=>intro acc;rw[Ar,Br,ih,Array.size_append,Nat.mul_succ];omega
   rw[this]
   simpa using hz
  wp_walk
  refine wpAny_ite_false (decide_eq_false hf) ?_
  wp_walk
  refine wpAny_ite_false (decide_eq_false hc) ?_
  wp_walk
  refine wpAny_ite_false (decide_eq_false hz1) ?_
  wp_walk
  refine wpAny_ite_false (decide_eq_false hm) ?_
  wp_walk
  refine wpAny_ite_false (decide_eq_false ht) ?_
  wp_walk
  refine wpAny_ite_false (decide_eq_false (Ec.mpr hsz)) ?_
  wp_walk
  exact⟨_,rfl,h⟩
theorem aiw_(r:List Int)(k:Nat):(List.replicate k (r.map V.int)).flatten=((List.replicate k r).flatten).map V.int:=by
 induction k with
 |zero=>rfl
 |succ k ih=>rw[Ar,Ar,BV,BV,Ao,ih]
theorem adx_(l:List Value):∀m:Nat,(List.replicate m l.toArray).foldl (λx1 x2=>x1++x2) #[]=(List.replicate m l).flatten.toArray:=λm=>by
 have:∀(m:Nat)(acc:List Value),(List.replicate m l.toArray).foldl (λx1 x2=>x1++x2) acc.toArray=(acc++(List.replicate m l).flatten).toArray:=by
  intro m
  induction m with
  |zero=>intro acc;simp
  |succ m ih =>
   intro acc
   rw[Ar,Br,List.append_toArray,ih,Ar,BV,AX]
 exact this m []
section
variable{X:Cx}
theorem jP_:OpR X (binaryOp .Mult) (λx y H Q=>∃(p:Addr)(r:List Int)(k:Int),x=.ref p/\y=.int k/\H p=some (.tup (r.map V.int))/\r≠[]/\-(2^63)<=k/\k<2^63/\r.length*k.toNat<=sizeLine /\
  ∀(t:Addr)(H':Hp),Same H H'->H' t=some (.tup (((List.replicate k.toNat r).flatten).map V.int))->Q (.ref t) H'):=by
 intro pins s σ H x y v u Q I rx ry h
 obtain⟨p,r,k,rfl,rfl,hp,hne,h1,h2,hz,q⟩:=h
 cases rx
 obtain⟨t,rfl⟩:=ry
 obtain⟨its,rv,p1,_⟩:=I.tuple (SqT.of hp)
 obtain⟨⟨cls,dd,data,sl⟩,ho,hc,n,hd⟩:=id p1
 simp only at hc hd
 subst hc hd
 have hl:=rv.length
 rw[AA]at hl
 have hi:its.toArray.isEmpty=false:=by
  cases its with
  |nil=>exact absurd (BN.mp (by rw[hl];rfl)) hne
  |cons a b=>rfl
 refine wpAny_binaryOp_repeat_ref (T := "tuple") (U := "int") (by decide) ⟨_,ho,rfl⟩ (λs'=>typeIs_int s' k t) yX_ PySem.F.fills_int_mul EV abd_ PySem.F.slot_int_index.lookup
  (call_meets EV (typeIs_int s k t) PySem.F.entry_int_rmul (PySem.F.args_int_rmul_2 _ _) (aa0_ k t p its.toArray n dd sl) ⟨ho,rfl,⟨_,ho,rfl⟩,?_⟩)
 by_cases c1:k=1
 ·subst c1
  refine call_meets CG ⟨_,ho,rfl⟩ C7 (C4 _ _) (ah4_ p its.toArray n dd sl t) ⟨ho,?_⟩
  exact⟨.ref p,H,I,rfl,q p H (λ_ _ e=>e) (by rw[hp];simp)⟩
 ·by_cases c0:k<=0
  ·refine call_meets CG ⟨_,ho,rfl⟩ C7 (C4 _ _) (ai6_ p its.toArray n dd sl k t hi c0 h1) ⟨ho,?_⟩
   refine⟨.ref s.heap.objs.size,upd H s.heap.objs.size (.tup []),I.laid (t':=s.toks) (o:=.tup []) (λb ob q=>AB _ q) (AG _) ⟨Ap _,[],.nil,TupN.new _ _⟩,rfl,q _ _ (qd_ I.fresh _) ?_⟩
   rw[qc_,show k.toNat=0 by omega]
   rfl
  ·refine call_meets CG ⟨_,ho,rfl⟩ C7 (C4 _ _) (ahx_ p its.toArray n dd sl k t hi (by omega) h2 (by rw[AZ,<-hl];exact hz)) ⟨ho,?_⟩
   rw[adx_]
   refine⟨.ref s.heap.objs.size,upd H s.heap.objs.size (.tup ((List.replicate k.toNat (r.map V.int)).flatten)),I.laid (t':=s.toks) (o:=.tup ((List.replicate k.toNat (r.map V.int)).flatten)) (λb ob q=>AB _ q) (AG _) ⟨?_,_,rv.rep k.toNat,TupN.new _ _⟩,rfl,q _ _ (qd_ I.fresh _) ?_⟩
   ·rw[adj_,AA,C2];exact hz
   ·rw[qc_,aiw_]
end
end L2.Ev
namespace L2.Ev
open PySem PySem.Spec PyProof.Rows
open L2.Ts L2.Pl L2.Rw
end L2.Ev
namespace L2.Ev
open PySem PySem.Spec PyProof.Rows
theorem jT_{env:Env}:∀{names:List (Str×NameKind)}{x:Str}{k:NameKind},(k=.cell∨k=.free) ->
  (names.map λ(n,k)=>if (k==NameKind.free&&env.scope.kind==.function&&env.kindOf n==some .cell) then (n,NameKind.cell) else (n,k)).lookup x=some k->(x,NameKind.free)∈names∨(x,NameKind.cell)∈names
 |[],_,_,_,h=>by simp at h
 |(n,j)::r,x,k,hk,h=>by
  have h':List.lookup x ((if (j==NameKind.free&&env.scope.kind==.function&&env.kindOf n==some .cell)=true then (n,NameKind.cell) else (n,j))::r.map λ(n,k)=>if (k==NameKind.free&&env.scope.kind==.function&&env.kindOf n==some .cell) then (n,NameKind.cell) else (n,k))=some k:=h
  by_cases c:(j==NameKind.free&&env.scope.kind==.function&&env.kindOf n==some .cell)=true
  ·rw[if_pos c,BC]at h'
   simp only[AQ]at c
   have ej:j=.free:=by simpa using c.1.1
   cases hy:x==n with
   |true =>
    have e1:x=n:=by simpa using hy
    subst e1 ej
    exact .inl AD
   |false=>rw[hy]at h';exact(jT_ hk h').imp (AC _) (AC _)
  ·rw[if_neg c,BC]at h'
   cases hy:x==n with
   |true =>
    rw[hy]at h'
    have e1:x=n:=by simpa using hy
    have e2:j=k:=by simpa using h'
    subst e1 e2
    rcases hk with hk|hk
    ·subst hk;exact .inr AD
    ·subst hk;exact .inl AD
   |false=>rw[hy]at h';exact(jT_ hk h').imp (AC _) (AC _)
abbrev z3_(X:Cx)(N':List Str)(z:Str)(scope:Scope)(b:Bk):Cx :=
 { X with N:=N',s₀:=b.s,H₀:=b.H,env:=compEnvC scope ((z,b.C+1)::zB_ X.env.cells scope.names []) b.C X.env,outer:=X.stack,stack:=X.stack,ex:=b.ex,fn:=λx=>x==z,pn:=[],xe:=λ_ _=>False }
structure BkScopeC(X:Cx)(N':List Str)(src:List (Option Nat))(z:Str)(scope:Scope):Prop where
 kind:scope.kind=.function
 cells:∀n acc,cellsFrom n scope.names acc=(z,n)::acc
 push:∀h:Heap,pushCells h scope.names=h.push { cls:=.type "cell",data:=.cell none }
 own:∀y∈scope.names,y.2=.cell->y.1=z
 isz:scope.names.lookup z=some .cell
 names:∀y∈scope.names,y.2=.local->scope.names.lookup y.1=some .local
 frees:∀y∈scope.names,y.2=.free->X.env.kindOf y.1=some .cell∨X.env.kindOf y.1=some .free
 len:src.length=N'.length
 out:∀i j:Nat,src[i]?=some (some j)->∃x:Str,N'[i]?=some x/\X.N[j]?=some x/\scope.names.lookup x=some .free
theorem acn_{M:Model}{A:Around}{E:Value->Shared->Prop}{s:Shared}{scope:Scope}{globals:Addr}{closure:List (Str×Addr)}{qual:Str}{func:Option Addr}{zc_:Value}{outer:Env}{builtins:Addr}{Q:Env->Shared->Prop}{z:Str}
  (hc:∀n acc,cellsFrom n scope.names acc=(z,n)::acc) (hp:∀h:Heap,pushCells h scope.names=h.push { cls:=.type "cell",data:=.cell none })
  (hQ:Q (newEnv scope s.heap.objs.size globals ((z,s.heap.objs.size+1)::closure) qual func zc_ (some outer) builtins) { s with heap:=(s.heap.push { cls:=.type "dict",data:=.dict #[] }).push { cls:=.type "cell",data:=.cell none } }) :
  wpAny M A (newFunctionEnv scope globals closure [] qual func zc_ (some outer) builtins) Q E s:=by
 simp only[newFunctionEnv,Option.isSome_some,if_true]
 refine wpAny_bind (wpAny_alloc ?_)
 refine wpAny_bind (wpAny_layCells _ (λname kind cells=>by cases hkc:kind==NameKind.cell<;>simp [hkc]) _ _ _ _ ?_)
 rw[hc,hp,show({ s with heap:=s.heap.push { cls:=.type "dict",data:=.dict #[] } }:Shared).heap.objs.size=s.heap.objs.size+1 from BP ..]
 rw[DX]
 exact wpAny_bind (wpAny_pure (wpAny_pure hQ))
theorem aer_{X:Cx}{elt tg iter:Expr}{ifs:List Expr}{scope:Scope}{pos pos':Pos}{N':List Str}{z:Str}{src:List (Option Nat)}{wi:TI}{g:Bk->TG}{tc:Bk->TT}{te:Bk->TE}(hc:X.calm=true)(hi:PI X tg iter wi)(S:BkScopeC X N' src z scope)
  (hg:∀b,PG (z3_ X N' z scope b) tg (g b)) (ht:∀b,PTs (z3_ X N' z scope b) ifs (tc b)) (he:∀b,PE (z3_ X N' z scope b) elt (te b)) (hs:∀x,foldedSetIterable iter X.env x=pure x) (use:Option (Value->Sem Unit)) (R:Value->Shared->Prop)
  {pins:List (Addr×Obj)} {s:Shared} {σ:St} {H:Hp} {Q:V->Hp->Prop} (I:Inv X pins σ H s) (h:vf_ src wi g tc te σ H Q)
  (fin:∀(D C:Addr)(H5:Hp)(s6:Shared)(m:Str->Option Value),s6.heap.Ns C m->js_ X pins H5 C->(∀h',Heap.SameBut C s6.heap h'->Inv X pins σ H5 { s6 with heap:=h' })->Q (.ref D) H5->compPost (model X.prog X.w) X.A X.xe use R (.ref D) C (.ok .next) s6) :
  wpAny (model X.prog X.w) X.A (comprehension (.ListComp elt [⟨tg,iter,ifs,0⟩] scope pos) scope X.env pos' (newList []) false (eval iter X.env) use) R X.xe s:=by
 have hfr:∀x∈scope.names,x.2=.free->∃c,X.env.cells.lookup x.1=some c:=λx hx hf=>I.ok.has x.1 (S.frees x hx hf)
 have clS:∀x c,(zB_ X.env.cells scope.names []).lookup x=some c->X.env.cells.lookup x=some c:=j8_ hfr (λx c e=>by simp at e)
 refine wpAny_comprehension_free (use:=use) rfl hs (ye_ scope.names hfr []) S.kind S.names ?_
 refine thn (hi pins s σ H _ I h) λv s1 h1=>thn h1 λitv s2 h2=>?_
 obtain⟨it,fp,tn,J,H2,rfl,I2,T,st2,f2,h3⟩:=h2
 have hD:H2 s2.heap.objs.size=none:=I2.fresh
 refine wpAny_newObj_type ?_
 have I3:Inv X pins σ (upd H2 s2.heap.objs.size (.lst [])) { s2 with heap:=s2.heap.push { cls:=.type "list",data:=.seq ([]:List Value).toArray } } :=
  I2.laid (t':=s2.toks) (λb u e=>AB _ e) (AG _) ⟨Ap _,[],0,.nil,AM _ rfl⟩
 have hfp:∀b∈fp,b<s2.heap.objs.size:=λb hb=>by
  obtain⟨o,e,_⟩:=T.obj _ _ st2 b hb
  exact AI e
 have st3:tn 0 (s2.heap.push { cls:=.type "list",data:=.seq ([]:List Value).toArray }):=T.keep _ _ _ st2 λb _ o e=>AB _ e
 generalize hs3:({ s2 with heap:=s2.heap.push { cls:=.type "list",data:=.seq ([]:List Value).toArray } }:Shared)=s3 at I3 ⊢
 have st3':tn 0 s3.heap:=by rw[<-hs3];exact st3
 have hsz3:s3.heap.objs.size=s2.heap.objs.size+1:=by rw[<-hs3];exact BP ..
 have fp3:∀b∈fp,(upd H2 s2.heap.objs.size (.lst [])) b=none:=λb hb=>by rw[qk_ (Ag (hfp b hb))];exact(f2 b hb).1
 generalize hDe:s2.heap.objs.size=D at *
 generalize hH3:upd H2 D (.lst [])=H3 at *
 refine acn_ S.cells S.push ?_
 generalize hh1:(s3.heap.push { cls:=.type "dict",data:=.dict #[] }).push { cls:=.type "cell",data:=.cell none }=h₁
 have hns₁:h₁.Ns s3.heap.objs.size (λ_=>none):=by rw[<-hh1];exact(Heap.Ns.new s3.heap (.type "dict")).keeps λb o e=>AB _ e
 have old:∀b o,s3.heap.get? b=some o->h₁.get? b=some o:=λb o e=>by rw[<-hh1];exact AB _ (AB _ e)
 have hz1:h₁.get? (s3.heap.objs.size+1)=some { cls:=.type "cell",data:=.cell none }:=by
  rw[<-hh1,<-BP s3.heap { cls:=.type "dict",data:=.dict #[] }];exact AM _ rfl
 have lk:∀x c,((z,s3.heap.objs.size+1)::zB_ X.env.cells scope.names []).lookup x=some c->(x=z/\c=s3.heap.objs.size+1)∨X.env.cells.lookup x=some c:=λx c e=>by
  rw[BC]at e
  cases hy:x==z with
  |true=>rw[hy]at e;exact .inl ⟨by simpa using hy,(AW e).symm⟩
  |false=>rw[hy]at e;exact .inr (clS x c e)
 have low:∀x c,X.env.cells.lookup x=some c->c<s3.heap.objs.size:=λx c e=>by
  obtain⟨v,o,ho,hd⟩:=I3.cell x c e
  exact AI ho
 have Yok:(z3_ X N' z scope ⟨s3.heap.objs.size,s3,H3,fp⟩).Ok:=by
  refine⟨I.ok.mod,S.kind,I.ok.glob,I.ok.blt,AG _,λx y c e1 e2=>?_,λx hx=>?_,λx c q e=>?_,I.ok.hd,I.ok.frames,.inl rfl,λb hb=>⟨?_,λx c e=>?_⟩,I3.bs,?_,λb o e hb=>?_,λb hb z=>?_,I3.stack,I3.stkFree⟩
  ·rcases lk x c e1 with⟨q1,q2⟩|q1<;>rcases lk y c e2 with⟨q3,q4⟩|q3
   ·rw[q1,q3]
   ·exact absurd (low y c q3) (by rw[q2];exact Ec.mpr (Bc _))
   ·exact absurd (low x c q1) (by rw[q4];exact Ec.mpr (Bc _))
   ·exact I.ok.inj x y c q1 q3
  ·have hx':(x,NameKind.free)∈scope.names∨(x,NameKind.cell)∈scope.names:=by
    rcases hx with hx|hx
    ·exact jT_ (env:=X.env) (.inl rfl) hx
    ·exact jT_ (env:=X.env) (.inr rfl) hx
   show ∃c,((z,s3.heap.objs.size+1)::zB_ X.env.cells scope.names []).lookup x=some c
   rw[BC]
   cases hy:x==z with
   |true=>exact⟨_,rfl⟩
   |false =>
    rcases hx' with hx'|hx'
    ·exact jz_ (.inr hx')
    ·have:=S.own _ hx' rfl
     simp at hy
     exact absurd this hy
  ·rcases lk x c e with⟨_,q2⟩|q1
   ·rw[q2];exact Bc _
   ·have q':x=z:=by simpa using q
    have e':((z,s3.heap.objs.size+1)::zB_ X.env.cells scope.names []).lookup x=some c:=e
    rw[q',BC,beq_self_eq_true]at e'
    have e'':s3.heap.objs.size+1=c:=AW e'
    rw[<-e''];exact Bc _
  ·exact Ag (Ac (hfp b hb) (by rw[hsz3];exact Bc _))
  ·rcases lk x c e with⟨_,q2⟩|q1
   ·rw[q2];exact Ba (Ac (hfp b hb) (by rw[hsz3];exact Aj (Bc _) (Bc _)))
   ·exact(f2 b hb).2.2.2.2.1 x c q1
  ·exact Aj I.ok.bsz I3.sz
  ·rcases (f2 b hb).2.2.2.1 with z|z
   ·exact I.ok.noex b o e z
   ·exact absurd (Ac (AI e) (Aj I.ok.bsz z)) (BX _)
  ·rcases AJ.mp (I3.stkSub b z) with e|e
   ·exact(f2 b hb).2.1 e
   ·exact(f2 b hb).2.2.1 e
 generalize hY:z3_ X N' z scope ⟨s3.heap.objs.size,s3,H3,fp⟩=Y at Yok
 have I4:Inv (z3_ X N' z scope ⟨s3.heap.objs.size,s3,H3,fp⟩) [] (entry src σ) H3 { s3 with heap:=h₁ }:=by
  subst hY
  refine⟨Yok,rfl,I3.bare,Un.kept old,⟨_,hns₁,λi x v e1 e2 e3=>?_⟩,λx c e=>?_,I3.fresh,λx c e=>?_,λp hp=>by simp at hp,I3.hok.kept old,?_⟩
  ·unfold entry at e2
   rw[AT]at e2
   cases hsrc:src[i]? with
   |none=>rw[hsrc]at e2;cases e2
   |some o =>
    rw[hsrc]at e2
    cases o with
    |none=>have e2':some (none:Option V)=some (some v):=e2;cases e2'
    |some j =>
     have e2':some ((σ[j]?).bind id)=some (some v):=e2
     have e2'':(σ[j]?).bind id=some v:=AW e2'
     have hσ:σ[j]?=some (some v):=by
      cases q:σ[j]? with
      |none=>rw[q]at e2'';cases e2''
      |some z =>
       rw[q]at e2''
       have:z=some v:=e2''
       rw[this]
     obtain⟨x',n1,n2,n3⟩:=S.out i j hsrc
     have ex:x'=x:=AW (n1.symm.trans e1)
     subst ex
     obtain⟨m0,_,hl⟩:=I3.loc
     have hk:=S.frees (x',.free) (mem_of_lookup n3) rfl
     have hvis:Vis X.env.scope x':=hk.elim (λz=>.inr (.inl z)) λz=>.inr (.inr z)
     obtain⟨u,r,l⟩:=hl j x' v n2 hσ hvis
     refine⟨u,r,.inr ?_⟩
     rcases l with⟨l1,_⟩|⟨_,c,l2,o,l3,l4⟩
     ·rcases hk with z|z
      ·rw[show X.env.kindOf x'=some .local from l1]at z;cases z
      ·rw[show X.env.kindOf x'=some .local from l1]at z;cases z
     ·obtain⟨c',hc'⟩:=jz_ (cells:=X.env.cells) (names:=scope.names) (acc:=[]) (.inr (mem_of_lookup n3))
      have e4:=clS x' c' hc'
      rw[l2]at e4
      cases e4
      have xz:(x'==z)=false:=by
       cases hy:x'==z with
       |false=>rfl
       |true =>
        have q:x'=z:=by simpa using hy
        rw[q,S.isz]at n3
        cases n3
      exact⟨xx_ (env:=X.env) n3,c,by show((z,s3.heap.objs.size+1)::zB_ X.env.cells scope.names []).lookup x'=some c;rw[BC,xz];exact hc',o,old _ _ l3,l4⟩
  ·rcases lk x c e with⟨_,q2⟩|q1
   ·rw[q2];exact⟨none,_,hz1,rfl⟩
   ·obtain⟨v,o,ho,hd⟩:=I3.cell x c q1
    exact⟨v,o,old _ _ ho,hd⟩
  ·rcases lk x c e with⟨_,q2⟩|q1
   ·rw[q2];exact I3.hok.fresh (Bc _)
   ·exact I3.freeC x c q1
  ·show(entry src σ).length=N'.length
   unfold entry
   rw[AA]
   exact S.len
 obtain⟨W,⟨m0,w0⟩,turn⟩:=h3 ⟨s3.heap.objs.size,s3,H3,fp⟩ D hD
 rw[hH3]at w0
 have loop:codeAny (model X.prog X.w) X.A (.compLoop (.ListComp elt [⟨tg,iter,ifs,0⟩] scope pos) 0 (.ref it) (.ref D) (z3_ X N' z scope ⟨s3.heap.objs.size,s3,H3,fp⟩).env)
   (compPost (model X.prog X.w) X.A X.xe use R (.ref D) s3.heap.objs.size) { s3 with heap:=h₁ }:=by
  have stat:∀{H':Hp},(∀b∈fp,H' b=none)->∀b∈fp,js_ (z3_ X N' z scope ⟨s3.heap.objs.size,s3,H3,fp⟩) [] H' b:=λhn b hb =>
   ⟨hn b hb,(I4.ok.exf b hb).1,I4.ok.exfs b hb,.inl hb,(I4.ok.exf b hb).2,λp hp=>by simp at hp⟩
  refine yp_ (λn s'=>∃i σ' H',Inv (z3_ X N' z scope ⟨s3.heap.objs.size,s3,H3,fp⟩) [] σ' H' s'/\tn i s'.heap/\(∀b∈fp,H' b=none)/\W i n σ' H') ?_ m0
   ⟨0,_,H3,I4,T.keep _ _ _ st3' λb _ o e=>old b o e,fp3,w0⟩
  rintro n s5 ⟨i,σ5,H5,I5,st5,fr5,w5⟩
  rcases turn i n σ5 H5 w5 with⟨stop,qn⟩|⟨go,N,hN,step⟩
  ·refine thn (T.done (z3_ X N' z scope ⟨s3.heap.objs.size,s3,H3,fp⟩) rfl rfl rfl hc i [] s5 σ5 H5 _ I5 (stat fr5) st5 stop) λr s6 ⟨hr,I6⟩=>?_
   subst hr
   obtain⟨m,hn,_⟩:=I6.loc
   have hC:H5 s3.heap.objs.size=none:=I6.free
   refine fin D s3.heap.objs.size H5 s6 m hn (I3.fpOk (AG _) hC) (λh' sb=>?_) qn
   have nC:∀b o,s3.heap.get? b=some o->b≠s3.heap.objs.size:=λb o e=>Ag (AI e)
   have keep:∀b o,b≠s3.heap.objs.size->s6.heap.get? b=some o->h'.get? b=some o:=λb o hb e=>(sb.2 b hb).trans e
   have hok:HOk X.prog X.w H5 h':=λb u e=>(I6.hok b u e).stay (λc v hc q=>keep c v (by
    rcases hc with z|z
    ·rw[z];intro z2;rw[z2,hC]at e;cases e
    ·intro z2;rw[z2,hC]at z;cases z) q) (λ_ q=>q) λ_ _ q=>q
   have u6:Un (frs X.stack) fp H3 H5 s3.heap s6.heap:=I6.base
   have un:Un (frs X.stack) fp H3 H5 s3.heap h':=⟨λb o e n hb hx=>keep b o (nC b o e) (u6.keep b o e n hb hx),λb o e n hb hx=>by
     obtain⟨sl,q⟩:=u6.slot b o e n hb hx
     exact⟨sl,keep b _ (nC b o e) q⟩,u6.free,λb o e hx=>by
     obtain⟨o',q⟩:=u6.there b o e hx
     exact⟨o',keep b _ (nC b o e) q⟩,u6.tups,u6.frzs,u6.tbls⟩
   refine I3.call' (s':={ s6 with heap:=h' }) (ch:=fp) I6.os un hok I6.bare λb hb=>?_
   exact⟨(f2 b hb).2.2.2.1,(f2 b hb).2.1,(f2 b hb).2.2.2.2.1,(f2 b hb).2.2.2.2.2⟩
  ·refine thn (T.item (z3_ X N' z scope ⟨s3.heap.objs.size,s3,H3,fp⟩) rfl rfl rfl hc i [] s5 σ5 H5 _ I5 (stat fr5) st5 go) λr s6 ⟨u,hr,h6⟩=>?_
   subst hr
   refine thn h6 λ_ s7 ⟨x,H7,I7,r7,y7,st7,fr7⟩=>?_
   have I7':=I7.pinned (stat fr7) (T.obj _ _ st7)
   have again:∀{σ9:St}{H9:Hp}{s9:Shared},Inv (z3_ X N' z scope ⟨s3.heap.objs.size,s3,H3,fp⟩) ([]++xJ_ fp s7.heap) σ9 H9 s9->N σ9 H9->∃m,m<n/\∃i σ' H',Inv (z3_ X N' z scope ⟨s3.heap.objs.size,s3,H3,fp⟩) [] σ' H' s9/\tn i s9.heap/\(∀b∈fp,H' b=none)/\W i m σ' H':=λ{σ9 H9 s9} I9 n9=>by
    obtain⟨m',hm,w9⟩:=hN σ9 H9 n9
    refine⟨m',hm,i+1,σ9,H9,I9.unpinned,T.keep _ _ _ st7 λb hb o e=>(I9.pin (b,o) (Al _ (Al _ (jh_ hb e)))).1,λb hb=>?_,w9⟩
    obtain⟨o,e,d⟩:=T.obj _ _ st7 b hb
    exact(I9.pin (b,o) (Al _ (Al _ (jh_ hb e)))).2.1
   refine thn (hg _ _ s7 σ5 H7 x u _ I7' r7 (step x H7 y7)) λ_ s8 ⟨σ8,H8,I8,q8⟩=>?_
   refine thn (ht _ _ s8 σ8 H8 _ I8 q8) λok s9 ⟨H9,I9,q9⟩=>?_
   cases ok with
   |false=>exact again I9 q9
   |true =>
    refine thn (he _ _ s9 σ8 H9 _ I9 q9) λyv s10 ⟨y,H10,I10,r10,ys,e10,l10,n10⟩=>?_
    refine thn (qS_ _ s10 σ8 H10 (.ref D) [y] (.ref D) [yv] (λ_ H11=>N σ8 H11) I10 rfl (.cons r10 .nil) ⟨D,ys,y,rfl,rfl,e10,l10,n10⟩) λ_ s11 ⟨_,H11,I11,_,n11⟩=>again I11 n11
 have self:=T.self X.A 0 { s3 with heap:=h₁ } (λit' s'=>codeAny (model X.prog X.w) X.A (.compLoop (.ListComp elt [⟨tg,iter,ifs,0⟩] scope pos) 0 it' (.ref D) (z3_ X N' z scope ⟨s3.heap.objs.size,s3,H3,fp⟩).env)
   (compPost (model X.prog X.w) X.A X.xe use R (.ref D) s3.heap.objs.size) s') (notedBy (model X.prog X.w) X.A (z3_ X N' z scope ⟨s3.heap.objs.size,s3,H3,fp⟩).env λx s'=>compPost (model X.prog X.w) X.A X.xe use R (.ref D) s3.heap.objs.size (.error x) s')
   (T.keep _ _ _ st3' λb _ o e=>old b o e) loop
 exact codeAny_compStart_list loop self
theorem aic_{X:Cx}{elt tg iter:Expr}{ifs:List Expr}{scope:Scope}{pos:Pos}{N':List Str}{z:Str}{src:List (Option Nat)}{wi:TI}{g:Bk->TG}{tc:Bk->TT}{te:Bk->TE}(hc:X.calm=true)(hi:PI X tg iter wi)(S:BkScopeC X N' src z scope)
  (hg:∀b,PG (z3_ X N' z scope b) tg (g b)) (ht:∀b,PTs (z3_ X N' z scope b) ifs (tc b)) (he:∀b,PE (z3_ X N' z scope b) elt (te b)) (hs:∀x,foldedSetIterable iter X.env x=pure x:=by intro _;rfl) :
  PE X (.ListComp elt [⟨tg,iter,ifs,0⟩] scope pos) (vf_ src wi g tc te):=by
 intro pins s σ H Q I h
 rw[eval_ListComp]
 exact aer_ hc hi S hg ht he hs none (EP X pins σ Q) I h λD C H5 s6 m hn _ k q=>⟨m,hn,λh' sb=>⟨.ref D,H5,k h' sb,rfl,q⟩⟩
def adb_(sc scope:Scope)(N N':List Str)(src:List (Option Nat))(z:Str):Bool :=
 decide (scope.kind=.function)&&scope.names.all (λy=>!decide (y.2=NameKind.cell)||decide (y.1=z))&&decide (scope.names.lookup z=some NameKind.cell)&&scope.names.all (λy=>!decide (y.2=NameKind.local)||decide (scope.names.lookup y.1=some NameKind.local)) &&
 scope.names.all (λy=>!decide (y.2=NameKind.free)||(decide (sc.names.lookup y.1=some NameKind.cell)||decide (sc.names.lookup y.1=some NameKind.free)))&&decide (src.length=N'.length) &&
 (List.range src.length).all λi=>aam_ scope N N' (src.getD i none) i
theorem ane_{X:Cx}{N':List Str}{src:List (Option Nat)}{scope:Scope}{z:Str}(sc:Scope)(N:List Str)(h:adb_ sc scope N N' src z=true)(hc:∀n acc,cellsFrom n scope.names acc=(z,n)::acc)(hp:∀h:Heap,pushCells h scope.names=h.push { cls:=.type "cell",data:=.cell none })
  (e1:X.env.scope=sc:=by rfl) (e2:X.N=N:=by rfl):BkScopeC X N' src z scope:=by
 subst e1 e2
 unfold adb_ at h
 simp only[AQ,decide_eq_true_eq,Ad,DR,DA,decide_eq_false_iff_not]at h
 obtain⟨⟨⟨⟨⟨⟨h1,h2⟩,h0⟩,h3⟩,h4⟩,h5⟩,h6⟩:=h
 refine⟨h1,hc,hp,λy hy e=>(h2 y hy).resolve_left λq=>q e,h0,λy hy e=>(h3 y hy).resolve_left λz=>z e,λy hy e=>(h4 y hy).resolve_left λz=>z e,h5,λi j e=>?_⟩
 obtain⟨hi,ei⟩:=AR.mp e
 have q:=h6 i (BH.mpr hi)
 rw[AK,e]at q
 unfold aam_ at q
 simp only[Dx]at q
 cases c:N'[i]? with
 |none=>rw[c]at q;cases q
 |some x =>
  rw[c]at q
  simp only[AQ,decide_eq_true_eq]at q
  exact⟨x,rfl,q.1,q.2⟩
end L2.Ev
namespace L2.Rw
open PySem PySem.W PySem.Calls PyProof.Rows PySem.Spec
end L2.Rw
namespace L2.Ev
open PySem PySem.Spec PyProof.Rows
open L2.Ts L2.Pl L2.Rw
def toB(ks:List Pw):List (List Key×V):=ks.map λk=>(k.map Sum.inl,V.bl true)
theorem ac5_(ks:List Pw):(toB ks).length=ks.length:=AA _
theorem alu_{X:Cx}{pins:List (Addr×Obj)}{σ:St}{H:Hp}{s:Shared}{a:Addr}{ks:List Pw}(I:Inv X pins σ H s)(h:Rd H a (.dT (toB ks))) :
  ks.length<=sizeLine/\(a==sysModules)=false/\∃(es:Array DictEntry)(ep:Nat),RawD s.heap a es ep/\es.size=ks.length /\
   Paired (λ(e:DictEntry)(k:Pw)=>∃p,e.key=.ref p/\H p=some (.tup (k.map V.int))) es.toList ks:=by
 obtain⟨z,y,xs,r,o,es,ep,h1,h2,h3,h4,h5⟩:=(show ObjOk X.prog X.w H s.heap a (.dT (toB ks)) from aay_ I.hok h)
 have key:∀{ks:List Pw}{xs:List (List Key×Addr×Value)},KT H (toB ks) xs->Paired (λ(e:DictEntry)(k:Pw)=>∃p,e.key=.ref p/\H p=some (.tup (k.map V.int))) (xs.map (entryOfKey (tupleKind (q6_ X.prog X.w)))) ks:=by
  intro ks
  induction ks with
  |nil=>intro xs r;cases r;exact .nil
  |cons t d ih =>
   intro xs r
   cases r with
   |cons q qs =>
    refine .cons ⟨_,rfl,?_⟩ (ih qs)
    have:=q.2.1
    rw[<-j1_]
    exact this
 have kp:=key r
 rw[<-h4]at kp
 refine⟨by rw[<-ac5_];exact z,y,es,ep,⟨o,h1,h2,h3⟩,?_,kp⟩
 rw[<-AO]
 exact AL kp
section
variable{X:Cx}
theorem aja_{pins:List (Addr×Obj)}{σ:St}{H:Hp}{s:Shared}{ks:List Pw}{es:Array DictEntry}{Q:VK}{h':Heap}{tk P c:Nat}{acc:Array Value}(I:Inv X pins σ H s)(z:ks.length<=sizeLine)(sz:es.size=ks.length)(ent:Paired (λ(e:DictEntry)(k:Pw)=>∃p,e.key=.ref p/\H p=some (.tup (k.map V.int))) es.toList ks)
  (it:ItemsOf (λi v=>∃h:i<es.size,v=es[i].key) acc es.size) (kp:∀b o,s.heap.get? b=some o->h'.get? b=some o) (hP:s.heap.objs.size<=P) (hS:h'.get? P=some { cls:=.type "list",dict:=none,data:=.seq acc c,slots:=#[] })
  (q:∀(l:Addr)(vs:List V),H l=none->Its H vs ks->Q (.ref l) (upd H l (.lst vs))):EP X pins σ Q (.ref P) { s with heap:=h',toks:=tk }:=by
 have e:acc.toList=es.toList.map (·.key):=by
  refine Cf λi=>?_
  rw[BE,AT,BE]
  by_cases c:i<es.size
  ·have ci:i<acc.size:=by rw[it.1];exact c
   obtain⟨_,e⟩:=it.2 i acc[i] (AF ci)
   rw[AF ci,AF c,e]
   rfl
  ·rw[Bp (by rw[it.1];omega),Bp (by omega)]
   rfl
 have key:∀{l:List DictEntry}{d:List Pw},Paired (λ(e:DictEntry)(k:Pw)=>∃p,e.key=.ref p/\H p=some (.tup (k.map V.int))) l d->xu_ (List Int) H (l.map (·.key)) d:=by
  intro l d h
  induction h with
  |nil=>exact .nil
  |cons r t ih =>
   obtain⟨p,e1,e2⟩:=r
   exact .cons ⟨.ref p,e1,z7_ e2⟩ ih
 have hb:=key ent
 rw[<-e]at hb
 obtain⟨vs,v1,v2⟩:=ac0_ hb
 have lz:vs.length<=sizeLine:=by rw[v1.length,e,AA,AO,sz];exact z
 exact⟨.ref P,upd H P (.lst vs),I.laid (a:=P) (o:=.lst vs) (t':=tk) kp hP ⟨lz,acc.toList,c,v1,by rw[hS]⟩,rfl,q P vs (I.hok.fresh hP) v2⟩
end
end L2.Ev
namespace L2.Rw
open PySem PySem.W PySem.Calls PyProof.Rows PySem.Spec
open PySem.SeqAt
open PySem.AutoSeq1 (wpAny_loadPart')
open PySem.MeetsSeq PySem.MeetsSeq2 PySem.MeetsSeq3
section
variable{prog:Program}{w:World}{A:Around}{E:Value->Shared->Prop}
theorem aco_{s:Shared}{r:Addr}{its:List Value}{Q:List Value->Shared->Prop}(ht:IsTup s.heap r its.toArray)(hz:its.length<=sizeLine)
  (hQ:∀h',(∀b o,s.heap.get? b=some o->h'.get? b=some o)->s.heap.objs.size<=h'.objs.size->Q its { s with heap:=h' }):wpAny (model prog w) A (collect (.ref r)) Q E s:=by
 obtain⟨⟨cls,dd,data,sl⟩,ho,hc,n,hd⟩:=ht
 simp only at hc hd
 subst hc hd
 obtain⟨hp,g,d,tk,os⟩:=s
 simp only at ho hQ
 unfold collect
 refine wpAny_bind (wpAny_runValue (codeAny_builtin De ?_))
 rw[Ck Df _]
 show wpAny _ A.in1 (newList []>>=λl=>again (.builtin "list.__iadd__" ⟨[l,.ref r],[]⟩)) _ _ _
 refine wpAny_bind (wpAny_newObj_type (wpAny_pure ⟨plainId_quiet Cb _,codeAny_builtin D7 ?_⟩))
 rw[Ck Cb _]
 have hN:(hp.push { cls:=.type "list",data:=.seq ([]:List Value).toArray }).get? hp.objs.size=some { cls:=.type "list",dict:=none,data:=.seq ([]:List Value).toArray 0,slots:=#[] }:=AM _ rfl
 have hT:(hp.push { cls:=.type "list",data:=.seq ([]:List Value).toArray }).get? r=some { cls:=.type "tuple",dict:=dd,data:=.seq its.toArray n,slots:=sl }:=AB _ ho
 have ne:hp.objs.size≠r:=Ba (AI ho)
 unfold Builtin.«list.__iadd__»
 wp_walk using wpAny_loadPart' hT,wpAny_loadPart' hN
 have hl:(Obj.mapSeq (λx=>x++its.toArray) { cls:=.type "list",data:=.seq (#[]:Array Value) }).data.pastItsLine=none:=by
  simp [Obj.mapSeq,Data.pastItsLine,sizeOk]
  omega
 rw[hl]
 refine wpAny_pure ?_
 refine wpAny_pure ?_
 have hU:=BT (h:=hp.push { cls:=.type "list",data:=.seq (#[]:Array Value) }) (f:=Obj.mapSeq λx=>x++its.toArray) hN rfl
 refine wpAny_bind (wpAny_load hU ?_)
 show wpAny _ _ (pure (#[]++its.toArray).toList) _ _ _
 rw[Array.empty_append,List.toList_toArray]
 refine wpAny_pure (hQ _ (λb o e=>?_) ?_)
 ·exact(BG _ _ (Ba (AI e))).trans (AB _ e)
 ·rw[DF,size_push'];exact Bc _
end
end L2.Rw
namespace L2.Ev
open PySem PySem.Spec PyProof.Rows
open L2.Ts L2.Pl L2.Rw
theorem acv_:Lin (λa b:Int=>decide (a<b)) where
 irr:=λa=>decide_eq_false (by omega)
 trans:=λ{a b c} h q=>decide_eq_true (by have:=of_decide_eq_true h;have:=of_decide_eq_true q;omega)
 tri:=λ{a b} h q=>by have:=of_decide_eq_false h;have:=of_decide_eq_false q;omega
section
variable{X:Cx}
def rkI(l:List Int)(p:Keyed):Nat:=match p.1 with
 |.int x _=>xo_ (λa b:Int=>decide (a<b)) l x
 |_=>0
abbrev vM_(u:Value)(n:Int):Prop:=∃t,u=.int n t
theorem akw_{its:List Value}{ns:List Int}(h:IntsAre its ns):Paired vM_ its ns:=by
 induction h with
 |nil=>exact .nil
 |cons a t _ ih=>exact .cons ⟨t,rfl⟩ ih
theorem akr_{its:List Value}{ns:List Int}(h:Paired vM_ its ns):IntsAre its ns/\Vals (ns.map V.int) its:=by
 induction h with
 |nil=>exact⟨.nil,.nil⟩
 |cons r _ ih =>
  obtain⟨t,rfl⟩:=r
  exact⟨.cons _ t ih.1,.cons ⟨t,rfl⟩ ih.2⟩
theorem acm_{l0:List Int}{out:List Value}{m:List Int}(h:Paired vM_ out m)(hm:∀a∈m,a∈l0)(o:out.Pairwise λx y=>rkI l0 (y,y)<=rkI l0 (x,x)):m.Pairwise λa b=>b<=a:=by
 induction h with
 |nil=>exact .nil
 |@cons x a xs m r t ih =>
  obtain⟨o1,o2⟩:=Ai.mp o
  refine Ai.mpr ⟨λb hb=>?_,ih (λb hb=>hm b (AC _ hb)) o2⟩
  obtain⟨y,hy,e⟩:∃y∈xs,vM_ y b:=by
   have key:∀{xs:List Value}{m:List Int},Paired vM_ xs m->b∈m->∃y∈xs,vM_ y b:=by
    intro xs m t
    induction t with
    |nil=>intro z;cases z
    |cons r t ih =>
     intro z
     rcases AJ.mp z with e|z
     ·subst e;exact⟨_,AD ..,r⟩
     ·obtain⟨y,hy,f⟩:=ih z
      exact⟨y,AC _ hy,f⟩
   exact key t hb
  obtain⟨t1,rfl⟩:=r
  obtain⟨t2,rfl⟩:=e
  have q:xo_ (λa b:Int=>decide (a<b)) l0 b<=xo_ (λa b:Int=>decide (a<b)) l0 a:=o1 _ hy
  refine Int.not_lt.mp λz=>?_
  have:=(xP_ acv_ (hm a (AD ..))).mp (decide_eq_true z)
  omega
theorem ag4_:∀{its:List Value}{ns:List Int},IntsAre its ns->2<=its.length->keyKind' its.toArray=pure oneType'
 |[],_,_,h=>absurd h (by decide)
 |[_],_,_,h=>absurd h (by show ¬ 2<=1;decide)
 |_::_::_,_,ii,_=>keyKind_ints ii
def amc_(K:PySem.W.Frag)(ta:TA):TE:=λσ H Q=>ta σ H λvs H1=>∃(a:Addr)(ns:List Int),vs=[.ref a]/\SqT K H1 a (ns.map V.int) /\
 ∀(p:Addr)(l:List Int),H1 p=none->l.Perm ns->(l.Pairwise λa b=>b<=a)->Q (.ref p) (upd H1 p (.lst (l.map V.int)))
theorem vh_{e:Expr}{ta:TA}{p pos kp kq:Pos}{j}(hc:X.calm=true)(hu:X.A.units+8<cLine)(hg:Gl X "sorted")(hm:X.mg "sorted" = none)(ha:PA X [e] ta)
  (h1:backTo pos (starEach [e] X.env)=(false,eval e X.env)::backTo pos (starEach [] X.env):=by rfl) (h2:(backTo pos (starEach [e] X.env)).any (·.1)=false:=by rfl) :
  PE X (.Call (.Name "sorted" p) [e] [⟨some (Str.ofString "reverse"),.Constant (.bool true) j kq,kp⟩] pos) (amc_ X.K ta):=by
 intro pins s σ H Q I h
 refine wpAny_Call_Name_kw (jl_ I hg hm boot_sorted ?_)
 refine callWith_kw (thn (ha pos pins s σ H _ I h) λus s1 ⟨vs,H1,I1,r1,q1⟩=>?_) h1 h2
 obtain⟨a,ns,rfl,hq,q⟩:=q1
 obtain⟨u,rfl,ru⟩:=zT_ r1
 cases ru
 refine kws_cons (Constant_bool (kws_nil ?_))
 obtain⟨its,rv,ht,hz⟩:=I1.tuple hq
 have ii:IntsAre its ns:=zr_ rv
 have pi:=akw_ ii
 have lz:its.length<=sizeLine:=by rw[<-rv.length];exact hz
 refine yF_ (κ:=oneType') (M:=λp=>∃x∈ns,∃t,p.1=.int x t) (rk:=rkI ns) lz (λv hv=>?_) (λQ' q'=>aco_ ht lz λh' kp sz=>q' h' s1.toks kp sz) (λh' tk kp l2=>⟨λQ' E' q'=>?_,λx y hx hy Q' q'=>?_⟩) λh' tk P c out pm o kp hP hg=>?_
 ·obtain⟨n,hn,t,e⟩:=Paired.mem pi hv
  exact⟨n,hn,t,e⟩
 ·rw[ag4_ ii l2]
  exact wpAny_pure q'
 ·obtain⟨n,hn,t,e⟩:=hx
  obtain⟨m,hm',t',e'⟩:=hy
  rw[e,e',keyLt'_oneType]
  refine oneLt_int ?_
  have z:decide (rkI ns x<rkI ns y)=decide (n<m):=by
   unfold rkI
   rw[e,e']
   have:=xP_ acv_ hn (b:=m)
   by_cases c:n<m
   ·rw[decide_eq_true c,decide_eq_true (this.mp (decide_eq_true c))]
   ·rw[decide_eq_false c,decide_eq_false λz=>c (of_decide_eq_true (this.mpr z))]
  rw[z]at q'
  exact q'
 ·obtain⟨m,p1,bm⟩:=Paired.perm pm pi
  obtain⟨i2,v2⟩:=akr_ bm
  have lo:(m.map V.int).length<=sizeLine:=by rw[v2.length,pm.length_eq];exact lz
  exact⟨.ref P,upd H1 P (.lst (m.map V.int)),I1.laid (a:=P) (o:=.lst (m.map V.int)) (t':=tk) kp hP ⟨lo,out,c,v2,hg⟩,rfl,q P m (I1.hok.fresh hP) p1 (acm_ bm (λa ha=>p1.mem_iff.mp ha) o)⟩
theorem aem_(hc:X.calm=true):CallR X (.type "list") (λxs H Q=>∃(a:Addr)(ks:List Pw),xs=[.ref a]/\H a=some (.dT (toB ks))/\∀(l:Addr)(vs:List V),H l=none->Its H vs ks->Q (.ref l) (upd H l (.lst vs))):=by
 intro pins s σ H xs us Q I r h
 obtain⟨a,ks,rfl,hd,q⟩:=h
 obtain⟨u,rfl,rx⟩:=zT_ r
 cases rx
 obtain⟨z,lo,es,ep,raw,sz,ent⟩:=alu_ I (.inl hd)
 exact PySem.W.kdl_call (ac8_ lo) (I.ok.hd hc) raw (by rw[sz];exact z) λh' tk acc c kp hS it=>aja_ I z sz ent it kp (AG _) hS q
end
end L2.Ev
set_option maxHeartbeats 4000000
namespace L2.Ev
open PySem PySem.Spec PyProof.Rows
open PySem.W PySem.Calls Builtin Builtin.ObjectAttr
def vc_:Value->Bool
 |.ref _=>true
 |_=>false
def xe_(l:List Value):Bool:=l.dropWhile vc_==[.type "ValueError",.type "Exception",.type "BaseException",.type "object"]
theorem yG_(self:Value)(what:Str):∀l:List Value,refuseLoop self what l=refuseLoop self what (l.dropWhile vc_)
 |[]=>rfl
 |v::r=>by
  rw[List.dropWhile_cons]
  cases h:vc_ v with
  |true =>
   obtain⟨c,rfl⟩:∃c,v=.ref c:=by
    cases v<;>first|exact⟨_,rfl⟩|cases h
   rw[if_pos rfl,refuseLoop_ref]
   exact yG_ self what r
  |false=>rw[if_neg (by decide)]
theorem aec_(self:Value){l:List Value}(h:xe_ l=true):refuseLoop self "__setattr__" l=pure ():=by
 rw[yG_,show l.dropWhile vc_=_ from beq_iff_eq.mp h]
 exact PySem.F.store_ValueError.passes self
section
variable{prog:Program}{w:World}{K:Frag}{x C:Addr}{s:Shared}{A:Around}{R:Result->Shared->Prop}
theorem aa4_{ox:Obj}{od:Option Obj}{cd:ClassData}{name:Str}{tk:Tok}{v:Value}(X:K.In s.heap)(I:InstAt s.heap x ox C od)(k:ExcK K C)(hc:clsIn K C=some cd)(hv:xe_ cd.mro=true)(hf:findIn K (.ref C) name=some none)
  (q:wpAny (model prog w) A.in1 (storeInOwnDict (.ref x) (.ref C) (.str name tk) name v false) (λfin s'=>match fin with|.done f=>R (.ok f) s'|.again c'=>c'.quiet=true/\codeAny (model prog w) A c' R s') (λe s'=>R (.error e) s') s) :
  codeAny (model prog w) A (.call (.builtin "object.__setattr__") ⟨[.ref x,.str name tk,v],[]⟩) R s:=by
 have SF:=PySem.F.store_object
 have isO:Looks (model prog w) s.heap (isInstance (.ref x) (.type "object")) true:=I.type.andThen (looks_mroIn X k.obj)
 have mro:Looks (model prog w) s.heap (mroOf (.ref C)) cd.mro:=(looks_clsIn X hc).andThen .now
 refine codeAny_call_builtin SF.slot.plain SF.entry (@check_slot (model prog w) _ _ s "object.__setattr__" "object" "__setattr__" (.ref x) [.str name tk,v] [] _ SF.kind SF.split isO (SF.args (.ref x) (.str name tk) v) ?_)
 rw[osa_eq,refuse_eq]
 refine wpAny_bind (wpAny_bind (I.type.here (wpAny_bind (mro.here ?_))))
 rw[aec_ _ hv]
 refine wpAny_pure (wpAny_bind (I.type.here (wpAny_bind ((looks_findIn X hf).here (wpAny_bind (wpAny_pure ?_))))))
 exact q
theorem agc_{cd:ClassData}{name:Str}{tk:Tok}{v:Value}{b:Bool}{oda:Data}{osl:Array (Option Value)}{Q:Fin->Shared->Prop}{E:Value->Shared->Prop}(X:K.In s.heap)(hc:clsIn K C=some cd)(hd:cd.hasDict=true)(hx:s.heap.get? x=some { cls:=.ref C,dict:=none,data:=oda,slots:=osl })(hnc:∀c,oda≠.cls c)
  (q:∀h' tk',h'.get? x=some { cls:=.ref C,dict:=some s.heap.objs.size,data:=oda,slots:=osl }->h'.Ns1 s.heap.objs.size (λy=>if y=name then some v else none)->(∀b o,b≠x->s.heap.get? b=some o->h'.get? b=some o)->Q (.done (.ret .none)) { s with heap:=h',toks:=tk' }) :
  wpAny (model prog w) A (storeInOwnDict (.ref x) (.ref C) (.str name tk) name v b) Q E s:=by
 refine wpAny_bind (wpAny_pure (wpAny_bind (wpAny_bind (wpAny_loadPart hx (wpAny_bind ((looks_clsIn X hc).here ?_))))))
 rw[hd,if_neg (by decide)]
 show wpAny _ _ (if (!true||!typeHasDict (.ref C))=true then pure none else _) _ _ _
 rw[if_neg (by show ¬ ((!true||!true)=true);decide)]
 have new:wpAny (model prog w) A (alloc { cls:=.type "dict",data:=.dict #[] }>>=λd=>update x (λo=>{ o with dict:=some d })>>=λ_=>dictMade (.ref C) x d) (λa s'=>wpAny (model prog w) A (match a with|some d=>storeInDict d (.str name tk) name v|none=>noDictFor (.ref x) (.ref C) name b) Q E s') E s:=by
  have hx1:=AB { cls:=.type "dict",data:=.dict #[] } hx
  have nx:x≠s.heap.objs.size:=Ag (AI hx)
  refine wpAny_bind (wpAny_alloc' (wpAny_bind (wpAny_update' hx1 (wpAny_pure ?_))))
  have self':((s.heap.push { cls:=.type "dict",data:=.dict #[] }).update x λo=>{ o with dict:=some s.heap.objs.size }).get? x=some { cls:=.ref C,dict:=some s.heap.objs.size,data:=oda,slots:=osl }:=by
   refine BT _ hx1 ?_
   have hfr:=(Heap.get?_some_iff.mp hx).2
   cases oda<;>first|rfl|exact hfr
  have dct:((s.heap.push { cls:=.type "dict",data:=.dict #[] }).update x λo=>{ o with dict:=some s.heap.objs.size }).get? s.heap.objs.size=some { cls:=.type "dict",data:=.dict #[] }:=(Cu _ _ _ _ nx.symm).trans (Heap.get?_push_at rfl rfl)
  have emp:((s.heap.push { cls:=.type "dict",data:=.dict #[] }).update x λo=>{ o with dict:=some s.heap.objs.size }).Ns s.heap.objs.size (λ_=>none):=⟨_,#[],_,dct,rfl,λe he=>absurd he (by simp),λ_=>rfl⟩
  have oth:∀b o,b≠x->s.heap.get? b=some o->((s.heap.push { cls:=.type "dict",data:=.dict #[] }).update x λo=>{ o with dict:=some s.heap.objs.size }).get? b=some o:=λb o hb e=>(Cu _ _ _ _ hb).trans (AB _ e)
  show wpAny _ _ (storeInDict s.heap.objs.size (.str name tk) name v) _ _ _
  unfold storeInDict newKeyGuard
  refine wpAny_bind (wpAny_pure (wpAny_bind (wpAny_nsSet1 (Heap.Ns1.of_empty emp) λh' hn2 hs2=>?_)))
  obtain⟨oD,esD,epD,hoD,hdD,hcD⟩:=hn2.count (Dp name v PySem.Within.nil)
  refine wpAny_bind (wpAny_lookBehind hoD (by rw[hdD];exact pastItsLine_dict (Aj hcD (by rw[Am,B7,sizeLine_eq];omega))) ?_)
  exact wpAny_pure (q h' _ ((hs2.2 _ nx).trans self') hn2 λb' o' h1 h2=>(hs2.2 _ (Ag (AI h2))).trans (oth b' o' h1 h2))
 cases oda<;>first|exact new|exact absurd rfl (hnc _)
theorem aiy_{cd:ClassData}{mA:Str->Option Value}{ns:List Str}{name:Str}{tk:Tok}{v:Value}{b:Bool}{ob:Obj}{dx:Addr}{Q:Fin->Shared->Prop}{E:Value->Shared->Prop}(X:K.In s.heap)(hc:clsIn K C=some cd)(hd:cd.hasDict=true)(hx:s.heap.get? x=some ob)(hcl:ob.cls=.ref C)(hdx:ob.dict=some dx)(hns:s.heap.Ns1 dx mA)(wi:Within mA ns)(hz:ns.length<1000)
  (q:∀h' tk',h'.Ns1 dx (λy=>if y=name then some v else mA y)->(∀b o,b≠dx->s.heap.get? b=some o->h'.get? b=some o)->Q (.done (.ret .none)) { s with heap:=h',toks:=tk' }) :
  wpAny (model prog w) A (storeInOwnDict (.ref x) (.ref C) (.str name tk) name v b) Q E s:=by
 obtain⟨oc,odi,oda,osl⟩:=ob
 dsimp only at hcl hdx
 subst hcl hdx
 have line:ns.length+1<=sizeLine:=by rw[sizeLine_eq];omega
 refine wpAny_bind (wpAny_pure (wpAny_bind (wpAny_bind (wpAny_loadPart hx (wpAny_bind ((looks_clsIn X hc).here ?_))))))
 rw[hd]
 refine wpAny_pure (a:=some dx) (wpAny_bind (wpAny_pure (wpAny_bind ?_)))
 refine wpAny_nsSet1 hns λh' hn2 hs2=>?_
 obtain⟨oD,esD,epD,hoD,hdD,hcD⟩:=hn2.count (Dp name v wi)
 refine wpAny_bind (wpAny_lookBehind hoD (by rw[hdD];exact pastItsLine_dict (Aj hcD (by rw[Am];omega))) ?_)
 exact wpAny_pure (q _ _ hn2 λb' o' h1 h2=>(hs2.2 _ h1).trans h2)
end
def xI(a C:Addr)(d:Option Addr):HO:=.ext λh=>∃ob vs,h.get? a=some ob/\ob.cls=.ref C/\ob.data=.fields vs/\vs.size=6/\vs[1]?=some .none/\ob.dict=d
def xD(d:Addr)(fs:List (Str×V)):HO:=.ext λh=>∃mA,h.Ns1 d mA/\(∀f,RelO (fs.lookup f) (mA f))/\Within mA (fs.map (·.1))
theorem ab6_{h h':Heap}{d:Addr}{mA:Str->Option Value}(n:h.Ns1 d mA)(k:∀o,h.get? d=some o->h'.get? d=some o):h'.Ns1 d mA:=by
 obtain⟨o,es,ep,e,r⟩:=n
 exact⟨o,es,ep,k _ e,r⟩
section
variable{P:Program}{w:World}{H:Hp}{h:Heap}{a C d:Addr}
theorem aep_{od:Option Addr}{ob:Obj}{vs:Array Value}(e:h.get? a=some ob)(c:ob.cls=.ref C)(f:ob.data=.fields vs)(z:vs.size=6)(n:vs[1]?=some .none)(dd:ob.dict=od):ObjOk P w H h a (xI a C od) :=
 ⟨⟨ob,vs,e,c,f,z,n,dd⟩,⟨ob,e⟩,λh1 h2 ⟨ob,vs,e,r⟩ k=>⟨ob,vs,k _ e,r⟩⟩
theorem ajp_{fs:List (Str×V)}{mA:Str->Option Value}(n:h.Ns1 d mA)(r:∀f,RelO (fs.lookup f) (mA f))(wi:Within mA (fs.map (·.1))):ObjOk P w H h d (xD d fs) :=
 ⟨⟨mA,n,r,wi⟩,let ⟨o,_,_,e,_⟩:=n;⟨o,e⟩,λh1 h2 ⟨mA,n,r⟩ k=>⟨mA,ab6_ n k,r⟩⟩
end
def aai_(K:Frag)(C:Addr):Bool:=(clsIn K C).any λcd=>xe_ cd.mro&&cd.hasDict
structure ExcS(K:Frag)(C:Addr):Prop where
 k:ExcK K C
 st:aai_ K C=true
 sa:findIn K (.ref C) "__setattr__" = some (some (.builtin "object.__setattr__"))
theorem ExcS.cls{K:Frag}{C:Addr}(c:ExcS K C):∃cd,clsIn K C=some cd/\xe_ cd.mro=true/\cd.hasDict=true:=by
 have z:=c.st
 unfold aai_ at z
 cases e:clsIn K C with
 |none=>rw[e]at z;cases z
 |some cd =>
  rw[e]at z
  have z:(xe_ cd.mro&&cd.hasDict)=true:=z
  rw[AQ]at z
  exact⟨cd,rfl,z.1,z.2⟩
section
variable{X:Cx}{pins:List (Addr×Obj)}{σ:St}{H:Hp}{s:Shared}{a C dx:Addr}{f:Str}{y:V}{u:Value}{A:Around}{E:Value->Shared->Prop}{Q:Unit->Shared->Prop}
theorem akg_(I:Inv X pins σ H s)(e:H a=some (xI a C none))(c:ExcS X.K C)(n:findIn X.K (.ref C) f=some none)(ry:RelV y u)
  (q:∀(d:Addr)(s':Shared),H d=none->d≠a->Inv X pins σ (upd (upd H d (xD d [(f,y)])) a (xI a C (some d))) s'->Q () s'):wpAny (model X.prog X.w) A (setAttr (.ref a) f u) Q E s:=by
 obtain⟨⟨ob,vs,hx,hc,hdt,z6,h1,hdn⟩,_⟩:=(show ObjOk X.prog X.w H s.heap a (xI a C none) from I.hok a _ e)
 obtain⟨oc,od,oda,osl⟩:=ob
 dsimp only at hc hdt hdn
 subst hc hdt hdn
 obtain⟨cd,hcd,hv,hd⟩:=c.cls
 have J:InstAt s.heap a ⟨.ref C,none,.fields vs,osl⟩ C none:=⟨hx,rfl,rfl,True.intro⟩
 refine set_plain I.kIn J c.sa (aa4_ (s:={ s with toks:=s.toks+1 }) I.kIn J c.k hcd hv n (agc_ (s:={ s with toks:=s.toks+1 }) I.kIn hcd hd hx (by intro _ z;cases z) λh' tk' g1 g2 g3=>?_))
 have na:s.heap.objs.size≠a:=Ba (AI hx)
 have fr:=I.hok.fresh (AG s.heap.objs.size)
 have b1:(h'.update a λ_=>⟨.ref C,none,.fields vs,osl⟩).get? a=some ⟨.ref C,none,.fields vs,osl⟩:=BT _ g1 rfl
 have b2:∀b,b≠a->(h'.update a λ_=>⟨.ref C,none,.fields vs,osl⟩).get? b=h'.get? b:=λb hb=>Cu _ _ _ _ hb
 have I1:Inv X pins σ (upd H s.heap.objs.size (xD s.heap.objs.size [(f,y)])) { s with heap:=h'.update a λ_=>⟨.ref C,none,.fields vs,osl⟩,toks:=tk' }:=by
  refine I.laid (λb o z=>?_) (AG _) (ajp_ (ab6_ g2 λo z=>(b2 _ na).trans z) (λg=>?_) (Dp f u PySem.Within.nil))
  ·by_cases hb:b=a
   ·subst hb
    rw[b1,<-z,hx]
   ·rw[b2 b hb]
    exact g3 b o hb z
  ·show RelO ([(f,y)].lookup g) (if g=f then some u else none)
   rw[BC]
   by_cases hg:g=f
   ·rw[if_pos hg,hg]
    simp
    exact ry
   ·rw[if_neg hg,show(g==f)=false from beq_eq_false_iff_ne.mpr hg]
    exact True.intro
 have I2:=I1.write (x:=a) (e:=a) (o:=xI a C (some s.heap.objs.size)) (h':=h') (t':=tk') (by rw[qk_ (B2 na),e];exact True.intro) (.inl rfl) (λb o hb z=>by rw[<-b2 b hb];exact z) ⟨_,g1⟩ (aep_ g1 rfl rfl z6 h1 rfl)
 exact q _ _ fr na I2
theorem amm_{fs:List (Str×V)}(I:Inv X pins σ H s)(e:H a=some (xI a C (some dx)))(ed:H dx=some (xD dx fs))(c:ExcS X.K C)(n:findIn X.K (.ref C) f=some none)(hl:fs.length<900)(ry:RelV y u)
  (q:∀s':Shared,Inv X pins σ (upd H dx (xD dx (j3_ f y fs))) s'->Q () s'):wpAny (model X.prog X.w) A (setAttr (.ref a) f u) Q E s:=by
 obtain⟨⟨ob,vs,hx,hc,hdt,z6,h1,hdn⟩,_⟩:=(show ObjOk X.prog X.w H s.heap a (xI a C (some dx)) from I.hok a _ e)
 obtain⟨⟨mA,hns,rl,wi⟩,⟨od,hod⟩,_⟩:=(show ObjOk X.prog X.w H s.heap dx (xD dx fs) from I.hok dx _ ed)
 obtain⟨cd,hcd,hv,hd⟩:=c.cls
 have J:InstAt s.heap a ob C (some od):=⟨hx,hc,by unfold notCls;rw[hdt],by rw[hdn];exact hod⟩
 refine set_plain I.kIn J c.sa (aa4_ (s:={ s with toks:=s.toks+1 }) I.kIn J c.k hcd hv n (aiy_ (s:={ s with toks:=s.toks+1 }) I.kIn hcd hd hx hc hdn hns wi (by rw[AA];omega) λh' tk' g1 g2=>?_))
 refine q _ (I.write (x:=dx) (e:=dx) (t':=tk') (by rw[ed];exact True.intro) (.inl rfl) g2 (let ⟨o,_,_,z,_⟩:=g1;⟨o,z⟩) (ajp_ g1 (λg=>?_) λg hg=>?_))
 ·show RelO ((j3_ f y fs).lookup g) (if g=f then some u else mA g)
  rw[yI_]
  by_cases z:g=f
  ·rw[if_pos z,if_pos z];exact ry
  ·rw[if_neg z,if_neg z];exact rl g
 ·by_cases z:g=f
  ·rw[z];exact(yl_ f y fs).1
  ·refine(yl_ f y fs).2 g (wi g λz'=>hg ?_)
   show(if g=f then some u else mA g)=none
   rw[if_neg z];exact z'
def apx_(K:Frag)(ta tv:TE)(f:Str):TS:=λD σ H=>tv σ H λy H1=>ta σ H1 λx H2=>∃a C,x=.ref a/\ExcS K C/\findIn K (.ref C) f=some none /\
 ((H2 a=some (xI a C none)/\∀d,H2 d=none->d≠a->D.nx σ (upd (upd H2 d (xD d [(f,y)])) a (xI a C (some d)))) ∨
  (∃d fs,H2 a=some (xI a C (some d))/\H2 d=some (xD d fs)/\fs.length<900/\D.nx σ (upd H2 d (xD d (j3_ f y fs)))))
theorem adw_{o value:Expr}{ta tv:TE}{pos pos':Pos}(ha:PE X o ta)(hv:PE X value tv)(hs:swapsWith value (some (.Attribute o f pos')) pos.line X.env=pure false):PS X (.Assign [.Attribute o f pos'] value pos) (apx_ X.K ta tv f):=by
 intro pins s σ H D I h
 refine plainObj_wpAny_Assign_Attribute (thn (hv pins s σ H _ I h) λu s1 ⟨y,H1,I1,ry,q⟩=>thn (ha pins s1 σ H1 _ I1 q) λov s2 ⟨x,H2,I2,rx,a,C,ex,c,n,q2⟩=>?_) hs
 subst ex
 obtain rfl:ov=Value.ref a:=rx
 rcases q2 with⟨e,q2⟩|⟨d,fs,e,ed,l,q2⟩
 ·exact akg_ I2 e c n ry λd s3 h1 h2 I3=>⟨σ,_,I3,q2 d h1 h2⟩
 ·exact amm_ I2 e ed c n l ry λs3 I3=>⟨σ,_,I3,q2⟩
end
end L2.Ev
set_option maxHeartbeats 4000000
namespace L2.Ev
open PySem PySem.Spec PyProof.Rows
open PySem.W PySem.Calls Builtin Builtin.ObjectAttr
theorem ali_{K:Frag}{h:Heap}{N:Addr}{mN:Str->Option Value}{n:Str}{v:Value}(X:K.In h)(G:h.Ns N mN)(e:nsIn K N n=some (some v)):mN n=some v:=by
 obtain⟨o,es,ep,ho,hd,_,hf⟩:=G
 unfold nsIn at e
 split at e
 ·rename_i q
  rw[X _ _ q]at ho
  cases ho
  cases hd
  split at e
  ·rename_i he
   cases e
   rw[<-hf]
   unfold nsFind findBy
   rw[<-Array.find?_toList,he]
   rfl
  ·split at e<;>cases e
 ·cases e
def xU_(K:Frag)(C fI:Addr):Bool:=match K.lookup C with
 |some ⟨.type "type",_,.cls cd,sl⟩=>cd.mro.head?==some (.ref C)&&tailIn K [.type "ValueError",.type "Exception",.type "BaseException",.type "object"] cd.mro.tail&&nsOkIn K cd.ns&&nsIn K cd.ns "__init__" == some (some (.ref fI))&&!cd.hasDel&&(sl.toList.length==6&&sl.toList[4]?==some (some (.builtin "ValueError.__new__")))
 |_=>false
abbrev xS_:List Value:=[.type "ValueError",.type "Exception",.type "BaseException",.type "object"]
theorem xY_{K:Frag}{h:Heap}{C fI:Addr}(X:K.In h)(q:xU_ K C fI=true) :
  ∃bm N nm qn bs hdct sn sub ab col dd k0 k1 k2 k3 k5 mN,h.get? C=some (excClassObj nm qn C N bs bm hdct sn sub ab col dd k0 k1 k2 k3 k5 "ValueError.__new__")/\h.Ns N mN/\mN "__init__" = some (.ref fI)/\OwnTail h xS_ bm:=by
 unfold xU_ at q
 split at q
 ·rename_i dd cd sl ho
  simp only[AQ,beq_iff_eq,DA]at q
  obtain⟨⟨⟨⟨⟨hm,ht⟩,hok⟩,hni⟩,hdel⟩,hl,h4⟩:=q
  obtain⟨nm,bs,mro,ns,qn,hd,sn,sub,ab,col,del⟩:=cd
  dsimp only at hm ht hok hni hdel
  subst hdel
  obtain⟨bm,rfl⟩:∃bm,mro=.ref C::bm:=by
   cases mro with
   |nil=>cases hm
   |cons v r=>cases hm;exact⟨r,rfl⟩
  obtain⟨l⟩:=sl
  obtain⟨k0,k1,k2,k3,k4,k5,rfl⟩:∃k0 k1 k2 k3 k4 k5,l=[k0,k1,k2,k3,k4,k5]:=by
   match l,hl with
   |[k0,k1,k2,k3,k4,k5],_=>exact⟨_,_,_,_,_,_,rfl⟩
  have h4:k4=some (.builtin "ValueError.__new__"):=by simpa using h4
  subst h4
  exact⟨bm,ns,nm,qn,bs,hd,sn,sub,ab,col,dd,k0,k1,k2,k3,k5,_,X _ _ ho,.of_isNs (isNs_of_in X hok),ali_ X (.of_isNs (isNs_of_in X hok)) hni,tail_of_in X ht⟩
 ·cases q
section
variable{X:Cx}{pins:List (Addr×Obj)}{σ:St}{H:Hp}{s:Shared}{a C dx:Addr}{u:Value}{A:Around}{E:Value->Shared->Prop}{Q:Value->Shared->Prop}
theorem aih_{od:Option Addr}{fI:Addr}(I:Inv X pins σ H s)(e:H a=some (xI a C od))(hv:xU_ X.K C fI=true)
  (q:∀s':Shared,Inv X pins σ H s'->Q .none s'):wpAny (model X.prog X.w) A (call (.builtin "ValueError.__init__") [.ref a,u]) Q E s:=by
 have F:=CL
 obtain⟨⟨ob,vs,hx,hc,hdt,z6,h1,hdn⟩,_⟩:=(show ObjOk X.prog X.w H s.heap a (xI a C od) from I.hok a _ e)
 obtain⟨bm,N,nm,qn,bs,hdct,sn,sub,ab,col,dd,k0,k1,k2,k3,k5,mN,hC,hN,hni,T⟩:=xY_ I.kIn hv
 refine wpAny_call (codeAny_call_builtin F.init.plain F.initEntry ?_)
 have chk:∀{B:Around}{E':Value->Shared->Prop}{R:Unit->Shared->Prop},R () s->wpAny (model X.prog X.w) B (checkBuiltinCall "ValueError.__init__" ⟨[.ref a,u],[]⟩) R E' s:=by
  intro B E' R r
  obtain⟨hh,g,d,t,os⟩:=s
  exact wpAny_check_init_subT F T hC hx hc r
 refine chk ?_
 have hx1:=AB { cls:=.type "tuple",data:=.seq #[u] } hx
 have l0:0<vs.size:=by omega
 show wpAny _ _ (newTuple [u]>>=λt=>BaseException.bexcPut (.ref a) 0 t>>=λ_=>ret .none) _ _ _
 refine wpAny_bind (wpAny_newTuple ?_)
 refine wpAny_bind ?_
 unfold BaseException.bexcPut
 refine wpAny_bind (wpAny_field hx1 hdt (x:=vs[0]) (AF l0) ?_)
 refine wpAny_bind (wpAny_setField hx1 hdt l0 ?_)
 have go:∀{B:Around}{F':Value->Shared->Prop}{R:Unit->Shared->Prop}{s':Shared},R () s'->wpAny (model X.prog X.w) B (match vs[0]with|.ref _=>letGo [vs[0]] []|_=>pure ()) R F' s':=by
  intro B F' R s' r
  cases vs[0]<;>first|exact wpAny_pure r|exact wpAny_letGo r
 have dd:=B6 hdt (·.setIfInBounds 0 (Value.ref s.heap.objs.size))
 have sx:=BT (Obj.mapFields (·.setIfInBounds 0 (Value.ref s.heap.objs.size))) hx1 (CI dd)
 refine go (wpAny_pure (q _ ?_))
 have W:=I.write (x:=a) (e:=a) (o:=xI a C od) (h':=(s.heap.push { cls:=.type "tuple",data:=.seq #[u] }).update a (Obj.mapFields (·.setIfInBounds 0 (Value.ref s.heap.objs.size)))) (t':=s.toks) (by rw[e];exact True.intro) (.inl rfl) (λb o hb z=>(Cu _ _ _ _ hb).trans (AB _ z)) ⟨_,sx⟩ (aep_ sx ((C9 _ _).trans hc) dd (by rw[CQ];exact z6) (by rw[CZ (by decide)];exact h1) (by rw[<-hdn];obtain⟨_,_,_,_⟩:=ob;cases hdt;rfl))
 have eq:upd H a (xI a C od)=H:=by
  funext b
  unfold upd
  split
  ·rename_i z
   rw[z,e]
  ·rfl
 rw[eq]at W
 exact W
end
section
variable{X:Cx}
structure BInit(K:Frag)(C0:Addr):Prop where
 sp:specialIn K (.ref C0) "__getattribute__" = some (some (.builtin "type.__getattribute__"))
 rd:readsIn K C0 (.type "type")=true
 fd:findCls K (.ref C0) (.type "type") "__init__" = some (.val (.builtin "ValueError.__init__"))
def tBI(K:Frag)(ta:TA):TE:=λσ H Q=>ta σ H λvs H1=>∃a C od fI v2,vs=[.ref a,v2]/\H1 a=some (xI a C od)/\xU_ K C fI=true/\Q .non H1
theorem ajc_{x:Str}{C0:Addr}{np apos pos:Pos}{e1 e2:Expr}{ta:TA}{pl:Sem Bool}(hg:Gl X x)(hm:X.mg x=some (.ref C0))(b:BInit X.K C0)(ha:PA X [e1,e2] ta)(hdb:(x==("__debug__" : Str))=false:=by decide)
  (he:starEach [e1,e2] X.env=(false,eval e1 X.env)::starEach [e2] X.env:=by rfl) (hpl:(backTo pos (starEach [e1,e2] X.env)).any (·.1)=false:=by rfl)
  (ht:eval (.Call (.Attribute (.Name x np) "__init__" apos) [e1,e2] [] pos) X.env=(do
   let ov <-eval (.Name x np) X.env
   standAt apos.atName
   let (f,first) <-holding [ov] (getMethod ov "__init__" pl)
   callWith pos f first (backTo pos (starEach [e1,e2] X.env)) (backToKw pos (keywordEach [] X.env))):=by rfl) :
  PE X (.Call (.Attribute (.Name x np) "__init__" apos) [e1,e2] [] pos) (tBI X.K ta):=by
 intro pins s σ H Q I h
 refine PySem.W.methodCall_KW (pl:=pl) (jN_ I hg hm ?_ hdb) ht
 refine method_cls I.kIn b.sp (cls_value I.kIn b.rd b.fd (by decide) ?_)
 have I1:=I.tok (s.toks+1)
 show wpAny _ _ (callWith pos (.builtin "ValueError.__init__") [] (backTo pos (starEach [e1,e2] X.env)) []) _ _ _
 refine CD hpl ?_
 have h0:=ha pos pins _ σ H _ I1 h
 rw[he]at h0 ⊢
 refine CM (wpAny_mono h0 (λus s2 ⟨vs,H1,I2,r,q⟩=>?_) λ_ _ y=>y)
 obtain⟨a,C,od,fI,v2,rfl,ea,j,q⟩:=q
 obtain⟨u1,u2,rfl,r1,r2⟩:=jE_ r
 obtain rfl:u1=Value.ref a:=r1
 exact aih_ I2 ea j λs3 I3=>⟨.non,H1,I3,rfl,q⟩
end
end L2.Ev
set_option maxHeartbeats 4000000
namespace L2.Ev
open PySem PySem.Spec PyProof.Rows
open PySem.W PySem.Calls Builtin Builtin.ObjectAttr
abbrev x5_(C:Addr)(h:Heap)(us:List Value):Heap:=(h.push { cls:=.type "tuple",data:=.seq us.toArray }).push { cls:=.ref C,data:=.fields #[.ref h.objs.size,.none,.none,.none,.bool false,.none] }
theorem xt_{C:Addr}{h:Heap}{us:List Value}(b:Addr)(o:Obj)(e:h.get? b=some o):(x5_ C h us).get? b=some o:=AB _ (AB _ e)
theorem ac7_{C:Addr}{h:Heap}{us:List Value}:(x5_ C h us).get? (h.objs.size+1)=some { cls:=.ref C,data:=.fields #[.ref h.objs.size,.none,.none,.none,.bool false,.none] }:=by heap_get
section
variable{X:Cx}{pins:List (Addr×Obj)}{σ:St}{H:Hp}{s:Shared}{C fI:Addr}
theorem ai0_{us:List Value}(I:Inv X pins σ H s):Inv X pins σ (upd H (s.heap.objs.size+1) (xI (s.heap.objs.size+1) C none)) { s with heap:=x5_ C s.heap us } :=
 I.laid (t':=s.toks) xt_ (Bc _) (aep_ ac7_ rfl rfl rfl rfl rfl)
theorem agz_{us:List Value}{A:Around}{E:Value->Shared->Prop}{Q:Fin->Shared->Prop}(K1:X.K.In s.heap)(j:xU_ X.K C fI=true)(fn:isFn X.K (.ref fI)=true)(hl:us.length<=sizeLine)
  (q:wpAny (model X.prog X.w) A (call (.ref fI) (.ref (s.heap.objs.size+1)::us)) (λr s'=>r=.none/\Q (.done (.ret (.ref (s.heap.objs.size+1)))) s') E { s with heap:=x5_ C s.heap us }) :
  wpAny (model X.prog X.w) A (Builtin.«type.__call__» ⟨.ref C::us,[]⟩) Q E s:=by
 have F:=CL
 obtain⟨bm,N,nm,qn,bs,hdct,sn,sub,ab,col,dd,k0,k1,k2,k3,k5,mN,hC,hN,hi,T⟩:=xY_ K1 j
 have K2:X.K.In (x5_ C s.heap us):=λa o e=>xt_ _ _ (K1 a o e)
 have hC1:=xt_ (C:=C) (us:=us) _ _ hC
 have hN1:(x5_ C s.heap us).Ns N mN:=hN.keeps xt_
 have T1:=T.keeps (h':=x5_ C s.heap us) xt_
 have hcC:(Value.ref C::bm).contains (.ref C)=true:=by simp
 obtain⟨h,g,d,t,os⟩:=s
 repeat (first|with_reducible refine wpAny_loadPart_at hC ?_|with_reducible refine wpAny_madeBy_exc hC ?_|wp_step)
 refine codeAny_call_builtin_code (Di _ F.quiet) (wpAny_check_new_subT F T hC ?_)
 refine codeAny_exc_new_subT F T hC ?_ hl
 show wpAny _ _ _ _ _ _
 have hget:(x5_ C h us).get? (h.objs.size+1)=some _:=ac7_
 unfold isInstance
 repeat (first|with_reducible refine wpAny_loadPart_at hget ?_|(with_reducible refine wpAny_isSubtype_exc hC1 ?_;rw[hcC])|wp_step)
 show wpAny _ _ (typeLookup (.ref C) _) _ _ _
 refine wpAny_typeLookup_tail hC1 hN1 T1 F.mroIs F.init.lookup ?_
 rw[hi]
 refine wpAny_holding (wpAny_bind ((bind_fn K2 _ (beq_iff_eq.mp fn)).here ?_))
 refine wpAny_bind (wpAny_mono q (λr s' hr=>?_) λ_ _ x=>x)
 obtain⟨rfl,hQ⟩:=hr
 wp_walk
 exact hQ
theorem apk_{us:List Value}{A:Around}{E:Value->Shared->Prop}{Q:Value->Shared->Prop}(K1:X.K.In s.heap)(j:xU_ X.K C fI=true)(fn:isFn X.K (.ref fI)=true)(hl:us.length<=sizeLine)
  (q:wpAny (model X.prog X.w) (A.under (.builtin "type.__call__" ⟨.ref C::us,[]⟩)) (call (.ref fI) (.ref (s.heap.objs.size+1)::us)) (λr s'=>r=.none/\Q (.ref (s.heap.objs.size+1)) s') E { s with heap:=x5_ C s.heap us }) :
  wpAny (model X.prog X.w) A (call (.ref C) us) Q E s:=by
 obtain⟨bm,N,nm,qn,bs,hdct,sn,sub,ab,col,dd,k0,k1,k2,k3,k5,mN,hC,hN,hi,T⟩:=xY_ K1 j
 have f1:=tc_lookup
 have f2:=tc_bind (.ref C)
 have hT:s.TypeIs (.ref C) "type" := ⟨_,hC,rfl⟩
 obtain⟨h,g,d,t,os⟩:=s
 refine wpAny_call (codeAny_of_tree ?_)
 show wpAny _ _ (callAny (.ref C) _) _ _ _
 repeat (any_goals (first|assumption|with_reducible refine wpAny_loadPart_at hC ?_|wp_step))
 refine⟨rfl,?_⟩
 exact codeAny_call_builtin_at (Di _ (by decide +kernel)) entry_typeCall (wpAny_check_type_call_sub hC (agz_ (s:=⟨h,g,d,t,os⟩) K1 j fn hl q))
variable{CX:CXT}{k:Nat}{fd:FuncData}{ps:List Str}{sp:Sp}{dvs:List V}{ds:List Value}{E:XK}{Q:VK}{us:List Value}{vs:List V}
end
end L2.Ev
set_option maxHeartbeats 4000000
namespace L2.Ev
open PySem PySem.Spec PyProof.Rows
open PySem.W PySem.Calls
section
variable{M:Model}{A:Around}{E:Value->Shared->Prop}{s:Shared}{env:Env}
variable{nm q:Str}{C N:Addr}{bs bm:List Value}{hdct:Bool}{sn:List Str}{sub:List Value}{ab:Bool}{col:Option Bool}{dd:Option Addr}{k0 k1 k2 k3 k5:Option Value}{newId:String}
theorem agf_{x:Sem Value}{Q:Flow->Shared->Prop}(hbase:bm.contains (.type "BaseException")=true)(hh:A.handled=none)
  (h:wpAny M A x (λv s1=>∃e ob vs,v=.ref e/\s1.heap.get? C=some (excClassObj nm q C N bs bm hdct sn sub ab col dd k0 k1 k2 k3 k5 newId)/\s1.heap.get? e=some ob/\ob.cls=.ref C/\ob.data=.fields vs/\vs[1]?=some .none/\E (.ref e) s1) E s) :
  wpAny M A (raiseStmt env (some x) none) Q E s:=by
 have hcB:(Value.ref C::bm).contains (.type "BaseException")=true:=by rw[List.contains_cons,hbase,Dz]
 unfold raiseStmt
 refine wpAny_bind (wpAny_mono h (λv s1 h1=>?_) λ_ _ x=>x)
 obtain⟨e,ob,vs,rfl,hC,he,hc,hd,h1,hE⟩:=h1
 obtain⟨oc,od,oda,osl⟩:=ob
 dsimp only at hc hd
 subst hc hd
 obtain⟨hp,g,d,tk,os⟩:=s1
 repeat (first|with_reducible refine wpAny_field he rfl h1 ?_|with_reducible refine wpAny_loadPart_at he ?_|with_reducible refine wpAny_loadPart_at hC ?_|(with_reducible refine wpAny_isSubtype_exc hC ?_;rw[hcB])|wp_step)
 exact wpAny_raiseNew_none hh hE
end
def drp(x:Addr)(H:Hp):Hp:=λb=>if b=x then none else H b
theorem jk_{x b:Addr}{H:Hp}(h:b≠x):drp x H b=H b:=if_neg h
theorem abc_{x:Addr}{H:Hp}:drp x H x=none:=if_pos rfl
section
variable{P:Program}{w:World}{K:PySem.W.Frag}{mg:Str->Option Value}{base:Heap}{N:List Str}{qual:Str}{scope:Scope}{f:Addr}{cdv:Value}{A:Around}{outer:List Env}{s0:Shared}{H0:Hp}{E:XK}
def RsX(X:Cx)(E:XK):Prop:=∀(pins:List (Addr×Obj))(σ:St)(H:Hp)(s:Shared)(e C:Addr)(od:Option Addr),Inv X pins σ H s->X.s₀.heap.objs.size<=e->H e=some (xI e C od)->E (.ref C) od (drp e H)->X.xe (.ref e) s
theorem rsX:RsX (zt_ (CX1 P w) P w K mg base N qual scope f cdv A outer s0 H0 E) E:=by
 intro pins σ H s e C od I hsz He hE
 generalize hX:zt_ (CX1 P w) P w K mg base N qual scope f cdv A outer s0 H0 E=X at I hsz
 obtain⟨⟨ob,vs,hx,hc,hdt,z6,h1,hdn⟩,_⟩:=(show ObjOk X.prog X.w H s.heap e (xI e C od) from I.hok e _ He)
 have notf:∀b,b∈frs X.stack->b≠e:=λb hb z=>by have:=I.stkFree b hb;rw[z,He]at this;cases this
 have trk:∀b u,H b=some u->b≠e->∀o,s.heap.get? b=some o->(hideAll s.heap (e::frs X.stack)).get? b=some o:=λb u hb ne o q =>
  hideAll_get _ q λz=>by
   rcases AJ.mp z with z|z
   ·exact ne z
   ·rw[I.stkFree b z]at hb;cases hb
 have st0:(hideAll s.heap (e::frs X.stack)).StaysIn s.heap:=λb o q=>of_hideAll _ q
 have fr:∀b o,s.heap.get? b=some o->b∈frs X.stack->∀vs,o.data≠.fields vs:=λb o e hb=>by
  obtain⟨_,o',e',d⟩:=I.stack.mem hb
  rw[e]at e';cases e'
  exact d
 have ne_own:∀c b u,H b=some u->b≠e->(c=b∨H c=some (.own b))->c≠e/\∃u',H c=some u':=λc b u hb ne hc=>by
  rcases hc with z|z
  ·subst z;exact⟨ne,u,hb⟩
  ·refine⟨λq=>?_,_,z⟩
   rw[q,He]at z;cases z
 have go:∀h',(hideAll s.heap (e::frs X.stack)).StaysIn h'->s.heap.UpToSlots h'->Inv X pins σ (drp e H) { s with heap:=h' }:=λh' st sm=>by
  refine I.call' (s':={ s with heap:=h' }) (ch:=[e]) rfl ⟨λb o q n hb hn=>?_,λb o q n hb hn=>?_,λb o q n hn=>?_,λb o q hn=>?_,λb xs q=>?_,λb o u q=>?_,λb ps q=>?_⟩ (λb u q=>?_) I.bare λb hb=>?_
  ·exact st _ _ (hideAll_get _ q λz=>by
    rcases AJ.mp z with z|z
    ·exact hn (by rw[z];exact .head _)
    ·exact hb z)
  ·exact sm b o q (fr b o q hb)
  ·rw[jk_ λz=>hn (by rw[z];exact .head _)];exact n
  ·by_cases hb:b∈frs X.stack
   ·obtain⟨sl,z⟩:=sm b o q (fr b o q hb)
    exact⟨_,z⟩
   ·exact⟨o,st _ _ (hideAll_get _ q λz=>by
     rcases AJ.mp z with z|z
     ·exact hn (by rw[z];exact .head _)
     ·exact hb z)⟩
  ·rw[jk_ λz=>by rw[z,He]at q;cases q];exact q
  ·rw[jk_ λz=>by rw[z,He]at q;cases q];exact q
  ·exact⟨#[],by rw[jk_ λz=>by rw[z,He]at q;cases q];simpa using q⟩
  ·by_cases ne:b=e
   ·rw[ne,abc_]at q;cases q
   rw[jk_ ne]at q
   refine(I.hok b u q).stay (λc v hc z=>?_) (λc z=>?_) λc xs z=>?_
   ·obtain⟨n1,u',n2⟩:=ne_own c b u q ne hc
    exact st _ _ (trk c u' n2 n1 v z)
   ·rw[jk_ (ne_own c b u q ne (.inr z)).1];exact z
   ·rw[jk_ λy=>by rw[y,He]at z;cases z];exact z
  ·obtain rfl:b=e:=by simpa using hb
   refine⟨.inr hsz,λz=>?_,λx c q z=>?_,λp hp z=>?_⟩
   ·have:=I.free;rw[<-z,He]at this;cases this
   ·have:=I.freeC x c q;rw[z,He]at this;cases this
   ·have:=(I.pin p hp).2.1;rw[z,He]at this;cases this
 have hin:∀env∈X.stack,∀b,env.frame=some b->b∈e::frs X.stack:=λenv he b hb=>.tail _ (Cy.mpr ⟨env,he,hb⟩)
 have ff:=funFrames_hide I.stack hin
 have hen:(hideAll s.heap (e::frs X.stack)).get? e=none:=hideAll_none _ (.head _)
 subst hX
 show wpAny _ _ (leaving _ (.ref e)) _ _ _
 refine agi_ (outer:=outer) (a0:=vs[0]'(by omega)) I.ok.frames ff rfl hx st0 hen hdt h1 (AF (by omega)) λh' fl sm=>?_
 have I':=go h' fl.1.1 sm
 rw[hc,hdn]at fl
 refine⟨e,.ref C,_,od,drp e H,rfl,⟨I'.os,I'.bare,I'.base,I'.hok,_,⟨λb o q hb=>?_,λb u q=>?_⟩,fl⟩,hE⟩
 ·obtain⟨o1,e1⟩:=I.base.there b o q (by show b∉([]:List Addr);simp)
  have lt:=AI q
  have hL:b∉e::frs (zt_ (CX1 P w) P w K mg base N qual scope f cdv A outer s0 H0 E).stack:=λz=>by
   rcases AJ.mp z with z|z
   ·exact absurd (Ac lt hsz) (by rw[z];exact BX _)
   ·rcases AJ.mp (I.stkSub b z) with z|z
    ·rw[z]at lt
     exact absurd (Ac lt I.ok.above) (BX _)
    ·exact hb z
  refine⟨o1,hideAll_get _ e1 hL,λn=>?_⟩
  have k:=I.base.keep b o q n hb (by show b∉([]:List Addr);simp)
  rw[e1]at k
  cases k
  rfl
 ·by_cases ne:b=e
  ·rw[ne,abc_]at q;cases q
  rw[jk_ ne]at q
  obtain⟨o,z⟩:=ObjOk.got (I.hok b u q)
  exact⟨o,trk b u q ne o z⟩
end
end L2.Ev
set_option maxHeartbeats 4000000
namespace L2.Ev
open PySem PySem.Spec PyProof.Rows
open PySem.W PySem.Calls
structure MkX(K:Frag)(C fI:Addr):Prop where
 j:xU_ K C fI=true
 fn:isFn K (.ref fI)=true
 kp:keepIn K (.ref C)=true
section
variable{X:Cx}{pins:List (Addr×Obj)}{σ:St}{H:Hp}{s:Shared}{C fI:Addr}
variable{CX:CXT}{k:Nat}{fd:FuncData}{ps:List Str}{sp:Sp}{dvs:List V}{ds:List Value}{E Ei:XK}{Q:Addr->Hp->Prop}{us:List Value}{vs:List V}
theorem akq_(M:MkX X.K C fI)(F:FnOk X.prog X.w X.K X.mg X.base CX k fI fd ps sp)(hr:Room (k+1) X.A)(hb:Binds X.K fd ps ds)(hd:Vals dvs ds)(hx:xv_ CX X Ei)(I:Inv X pins σ H s)(r:Vals vs us)(hl:us.length<=sizeLine)
  (h:∀x,H x=none->sp (.ref x::(vs++dvs)) (upd H x (xI x C none)) (λv H2=>v=.non/\Q x H2) Ei) :
  wpAny (model X.prog X.w) X.A (call (.ref C) us) (λu s'=>∃x H',u=.ref x/\X.s₀.heap.objs.size<=x/\Inv X pins σ H' s'/\Q x H') X.xe s:=by
 have hq:=h (s.heap.objs.size+1) (I.hok.fresh (Bc _))
 have I2:=ai0_ (C:=C) (us:=us) I
 have r2:Vals (V.ref (s.heap.objs.size+1)::(vs++dvs)) (Value.ref (s.heap.objs.size+1)::(us++ds)):=.cons rfl (r.append hd)
 have hl2:(Value.ref (s.heap.objs.size+1)::us++ds).length=ps.length:=by
  have e:=r2.length
  rw[F.len _ _ _ _ hq]at e
  exact e.symm
 refine apk_ I.kIn M.j M.fn hl (wpAny_call (codeAny_mono (F.run _ X.stack _ _ ⟨Value.ref (s.heap.objs.size+1)::us,[]⟩ (Value.ref (s.heap.objs.size+1)::(us++ds)) _ _ Ei (hr.make C us [])
  (I2.env0.make C us []) (hb _ (Value.ref (s.heap.objs.size+1)::us) I2.kIn hl2) r2 hq) λr s' hq'=>?_))
 cases r with
 |error e=>exact hx pins σ _ _ e s' I2 hq'
 |ok fl =>
  cases fl with
  |ret u =>
   obtain⟨v,H',I3,rv,ev,q3⟩:=I2.after hq'
   subst ev
   exact⟨rv,_,H',rfl,Aj I.sz (Bc _),I3,q3⟩
  |next=>exact False.elim hq'
  |brk=>exact False.elim hq'
  |cont=>exact False.elim hq'
def ak7_(C:Addr)(sp:Sp)(dvs:List V)(E Ei:XK)(ta:TA):TS:=λ_ σ H=>ta σ H λvs H1=>vs.length<=sizeLine/\∀x,H1 x=none->sp (.ref x::(vs++dvs)) (upd H1 x (xI x C none)) (λv H2=>v=.non/\∃od,H2 x=some (xI x C od)/\E (.ref C) od (drp x H2)) Ei
theorem agn_{x:Str}{np cpos pos:Pos}{e:Expr}{es:List Expr}{ta:TA}(hc:X.calm=true)(R:RsX X E)(M:MkX X.K C fI)(F:FnOk X.prog X.w X.K X.mg X.base CX k fI fd ps sp)(hr:Room (k+1) X.A)(hb:Binds X.K fd ps ds)(hd:Vals dvs ds)(hx:xv_ CX X Ei)(hg:Gl X x)(hm:X.mg x=some (.ref C))
  (ha:PA X (e::es) ta) (hdb:(x==("__debug__" : Str))=false:=by decide) (he:starEach (e::es) X.env=(false,eval e X.env)::starEach es X.env:=by rfl) (hpl:(backTo cpos (starEach es X.env)).any (·.1)=false:=by rfl) :
  PS X (.Raise (some (.Call (.Name x np) (e::es) [] cpos)) none pos) (ak7_ C sp dvs E Ei ta):=by
 intro pins s σ H D I h
 obtain⟨bm,N,nm,qn,bs,hdct,sn,sub,ab,col,dd,k0,k1,k2,k3,k5,mN,hC,hN,hni,T⟩:=xY_ I.ok.mod.kin M.j
 rw[arm_exec_Raise]
 refine wpAny_bind (wpAny_standAt (agf_ (C:=C) (nm:=nm) (q:=qn) (N:=N) (bs:=bs) (bm:=bm) (hdct:=hdct) (sn:=sn) (sub:=sub) (ab:=ab) (col:=col) (dd:=dd) (k0:=k0) (k1:=k1) (k2:=k2) (k3:=k3) (k5:=k5) (newId := "ValueError.__new__") (T.hasType CL.hasBase) (I.ok.hd hc) ?_))
 refine wpAny_bind (wpAny_Call_Name_kw (jN_ I hg hm ?_ hdb))
 refine Da (h₀:=X.base) I.ok.mod.kin M.kp (thn (ha cpos pins s σ H _ I h) λus s1 ⟨vs,H1,I1,r,hl,q⟩=>⟨I1.kIn,?_⟩) he hpl
 refine wpAny_mono (akq_ (Q:=λx H2=>∃od,H2 x=some (xI x C od)/\E (.ref C) od (drp x H2)) (us:=us) M F hr hb hd hx I1 r (by rw[<-r.length];exact hl) q) (λu s2 ⟨a,H2,eu,hsz,I2,od,q1,q2⟩=>?_) λ_ _ y=>y
 subst eu
 obtain⟨⟨ob,ws,hx',hcl,hdt,_,h1,_⟩,_⟩:=(show ObjOk X.prog X.w H2 s2.heap a (xI a C od) from I2.hok a _ q1)
 exact wpAny_bind (wpAny_standAt (wpAny_pure ⟨a,ob,ws,rfl,I2.bk _ _ hC,hx',hcl,hdt,h1,R pins σ H2 s2 a C od I2 hsz q1 q2⟩))
end
end L2.Ev
set_option maxHeartbeats 1000000
namespace L2.Ev
open PySem PySem.Spec PyProof.Rows
open PySem.W PySem.Calls Builtin Builtin.ObjectAttr
section
variable{prog:Program}{w:World}{A:Around}{E:Value->Shared->Prop}{K:Frag}{h:Heap}{g:Array GenState}{d:Drawn}{t:Nat}{os:OsState}{a C:Addr}{o:Obj}{od:Option Obj}{name:Str}{v:Value}
theorem aeu_{tk:Tok}{Q:Fin->Shared->Prop}(X:K.In h)(I:InstAt h a o C od)(hf:findObj K C od name=some (.value v))(hq:Q (.done (.ret v)) ⟨h,g,d,t,os⟩) :
  wpAny (model prog w) A (Builtin.«object.__getattribute__» ⟨[.ref a,.str name tk],[]⟩) Q E ⟨h,g,d,t,os⟩:=by
 have L0:=I.type (M:=model prog w)
 have L1:=looks_find (M:=model prog w) X I hf
 refine wpAny_bind (wpAny_pure (wpAny_bind (wpAny_pure (wpAny_bind (L0.at (wpAny_bind (L1.at ?_)))))))
 exact wpAny_pure hq
theorem afd_{tk:Tok}{R:Result->Shared->Prop}(X:K.In h)(I:InstAt h a o C od)(hb:mroIn K C (.type "BaseException")=some true)(hf:findObj K C od name=some (.value v))(hq:R (.ok (.ret v)) ⟨h,g,d,t,os⟩) :
  codeAny (model prog w) A (.call (.builtin "BaseException.__getattribute__") ⟨[.ref a,.str name tk],[]⟩) R ⟨h,g,d,t,os⟩ :=
 codeAny_call_builtin Co.ga.plain F.entry_bexc_ga (vS_ I.type (looks_mroIn X hb) (aeu_ X I hf hq))
theorem ak8_{tk:Tok}{b b2:Bool}{Q:Value->Shared->Prop}(X:K.In h)(I:InstAt h a o C od)(k:ExcK K C)(hf:findObj K C od name=some (.value v))(hv:handedIn v=true)(hq:Q v ⟨h,g,d,t,os⟩) :
  wpAny (model prog w) A (getAttrBy (.ref a) (.str name tk) b b2) Q E ⟨h,g,d,t,os⟩:=by
 have f3:=Co.ga.bind (.ref a)
 have hx:=I.at_
 have hc:=I.cls
 have hx2:(Value.builtin "BaseException.__getattribute__" == Value.builtin "object.__getattribute__")=false:=by decide +kernel
 have hx1:(onTheHeap (Value.ref C)&&Value.builtin "BaseException.__getattribute__" == Value.builtin "object.__getattribute__")=false:=by rw[hx2];rfl
 have L1:=looks_findIn (M:=model prog w) X k.ga
 have L2:=looks_findIn (M:=model prog w) X k.gt
 have hh:=handedOut_of hv
 cases b<;>cases b2 <;>
 (repeat (any_goals (first|assumption|(with_reducible refine wpAny_loadPart_at hx ?_;rw[hc])|with_reducible refine L1.at ?_|with_reducible refine L2.at ?_|wp_step))
  refine afd_ X I k.exc hf ?_
  repeat (any_goals (first|assumption|wp_step)))
end
section
variable{X:Cx}{pins:List (Addr×Obj)}{σ:St}{H:Hp}{s:Shared}{a C dx:Addr}{f:Str}{y:V}{A:Around}{E:Value->Shared->Prop}{Q:Value->Shared->Prop}{fs:List (Str×V)}{b:Bool}
theorem ak5_(I:Inv X pins σ H s)(e:H a=some (xE a (.ref C) (some dx)))(ed:H dx=some (xD dx fs))(k:ExcK X.K C)(hh:hasDictIn X.K C=true)(n:findIn X.K (.ref C) f=some none)(l:fs.lookup f=some y)
  (h:∀u s',Inv X pins σ H s'->RelV y u->Q u s'):wpAny (model X.prog X.w) A (getAttr (.ref a) f b) Q E s:=by
 obtain⟨⟨ob,vs,hx,hc,hdt,hdn⟩,_⟩:=(show ObjOk X.prog X.w H s.heap a (xE a (.ref C) (some dx)) from I.hok a _ e)
 obtain⟨⟨mA,hns,rl,wi⟩,_⟩:=(show ObjOk X.prog X.w H s.heap dx (xD dx fs) from I.hok dx _ ed)
 obtain⟨od,ho,hl⟩:=v7_ hns
 obtain⟨u,hu,ru⟩:=RelO.some_of (v:=y) (o:=mA f) (by rw[<-l];exact rl f)
 have J:InstAt s.heap a ob C (some od):=⟨hx,hc,by unfold notCls;rw[hdt],by rw[hdn];exact ho⟩
 have hf:findObj X.K C (some od) f=some (.value u):=findObj_own hh n rfl (by rw[hl,hu])
 have I1:=I.tok (s.toks+1)
 have K1:=I.kIn
 obtain⟨hp,g,d,t,os⟩:=s
 unfold getAttr
 exact wpAny_bind (wpAny_mkText (ak8_ K1 J k hf (agv_ ru) (h u _ I1 ru)))
def apg_(K:Frag)(ta:TE)(f:Str):TE:=λσ H Q=>ta σ H λx H1=>∃a C d fs v,x=.ref a/\H1 a=some (xE a (.ref C) (some d))/\H1 d=some (xD d fs)/\ExcK K C/\hasDictIn K C=true/\findIn K (.ref C) f=some none/\fs.lookup f=some v/\Q v H1
theorem xK_{e:Expr}{ta:TE}{pos:Pos}(he:PE X e ta)(hb:attributeBase e f X.env (eval e X.env)=eval e X.env):PE X (.Attribute e f pos) (apg_ X.K ta f):=by
 intro pins s σ H Q I h
 refine aka_ hb (thn (he pins s σ H _ I h) λu s1 ⟨x,H1,I1,rx,a,C,d,fs,v,ex,ea,ed,k,hh,n,l,q⟩=>?_)
 subst ex
 obtain rfl:u=Value.ref a:=rx
 exact ak5_ I1 ea ed k hh n l λu' s2 I2 ru=>⟨v,H1,I2,ru,q⟩
end
end L2.Ev
namespace L2.Ev
open PySem PySem.Spec PyProof.Rows
open L2.Pl
section
variable{X:Cx}
theorem ai7_{t:Addr}{vs:List Value}{ns:List Int}{s:Shared}{prog:Program}{w:World}{A:Around}{E:Value->Shared->Prop}{Q:Value->Shared->Prop}(hh:A.handled=none)(hl:s.heap.IsTuple t vs.toArray)(hi:IntsAre vs ns)(hne:ns≠[])
  (h:∀h' tk M t',(∀b o,s.heap.get? b=some o->h'.get? b=some o)->M∈ns->(∀a∈ns,a<=M)->Q (.int M t') { s with heap:=h',toks:=tk }) :
  wpAny (model prog w) A (call (.builtin "max") [.ref t]) Q E s:=by
 obtain⟨xs,hx⟩:=hi.allInts.items
 have hn:numsOf vs.toArray.toList=ns:=by rw[show vs.toArray.toList=vs from rfl,hi.numsOf]
 rw[hx]at hl hn
 rw[nums_intItems]at hn
 have hsz:0<xs.size:=by
  rw[<-hn]at hne
  rcases Nat.eq_zero_or_pos xs.size with z|z
  ·exact absurd (by rw[List.map_eq_nil_iff,Array.toList_eq_nil_iff,<-Array.size_eq_zero_iff];exact z) hne
  ·exact z
 obtain⟨o,ho,_⟩:=id hl
 have hne':t≠s.heap.objs.size:=Ag (AI ho)
 refine call_max_walk (wpAny_pyIter_tuple hl ?_)
 refine⟨s.heap.objs.size,_,_,_,_,_,_,rfl,Walks.tuple (A:=A.in1) hh s.heap.objs.size t hne' (intItems xs),⟨⟨_,AM _ rfl,rfl,rfl⟩,hl.at λo e=>AB _ e⟩,λb hb=>?_,by simpa [intItems]using hsz,CmpOf.ints_gt (numAt xs) (λ_ _=>intItems_at),λv h' tk hP hk=>?_⟩
 ·rcases AJ.mp hb with rfl|hb
  ·exact AI (AM _ rfl)
  ·obtain rfl:=Af.mp hb
   exact AI (AB _ ho)
 ·have hP:(intItems xs)[argBest (λi j=>decide (numAt xs i>numAt xs j)) (xs.size-1)]?=some v:=by simpa [intItems]using hP
  obtain⟨t',rfl⟩:=intItems_at hP
  obtain⟨h1,h2⟩:=argBest_gt (numAt xs) (xs.size-1)
  refine h h' tk _ t' (λb o e=>hk b o (λhb=>absurd (AI e) ((Af.mp hb)▸BX _)) (AB _ e)) ?_ λa ha=>?_
  ·rw[<-hn,numAt_eq];exact getD_mem (by rw[AA,AO];omega)
  ·rw[<-hn]at ha
   obtain⟨j,hj,rfl⟩:=mem_getD ha
   rw[AA,AO]at hj
   rw[<-numAt_eq];exact h2 j (by omega)
theorem ag7_(hc:X.calm=true):CallR X (.builtin "max") (λxs H Q=>∃(p:Addr)(ns:List Int),xs=[.ref p]/\SqT X.K H p (ns.map V.int)/\ns≠[]/\∀M,M∈ns->(∀a∈ns,a<=M)->Q (.int M) H):=by
 intro pins s σ H xs us Q I r h
 obtain⟨p,ns,rfl,hq,hne,q⟩:=h
 obtain⟨u,rfl,ru⟩:=zT_ r
 cases ru
 obtain⟨its,rv,ht,_⟩:=I.tuple hq
 exact ai7_ (I.ok.hd hc) (show s.heap.IsTuple p its.toArray from ht) (zr_ rv) hne λh' tk M t' hk m1 m2=>⟨.int M,H,I.kept (t':=tk) hk,⟨t',rfl⟩,q M m1 m2⟩
theorem an7_:SlR X (λx lo hi H Q=>∃(a:Addr)(r:List Int),x=.ref a/\lo=some (-1)/\hi=none/\H a=some (.tup (r.map V.int))/\∀(p:Addr)(H':Hp),Same H H'->H' p=some (.tup ((r.drop (r.length-1)).map V.int))->Q (.ref p) H'):=by
 intro pins s σ H x v vl vu lo hi sl Q I rx hs pl pu h
 obtain⟨a,r,rfl,rfl,rfl,ha,q⟩:=h
 have e:HT.sIx (r.map V.int).length 0 (some (-1))=r.length-1:=by
  rw[AA]
  show(if (-1:Int)<0 then ((-1:Int)+(r.length:Int)).toNat else min (-1:Int).toNat r.length)=_
  rw[if_pos (by decide)]
  omega
 by_cases c:r.length-1=0
 ·exact yw_ pins s σ H _ v vl vu _ _ sl Q I rx hs pl pu ⟨a,_,rfl,SqT.of ha,by rw[e];exact c,HT.sIx_none _ _,q a H (λ_ _ e=>e) (by rw[c];exact ha)⟩
 ·refine j2_ pins s σ H _ v vl vu _ _ sl Q I rx hs pl pu ⟨a,_,rfl,SqT.of ha,λz=>?_,λp hp=>?_⟩
  ·have z1:=z.1
   rw[e]at z1
   exact c z1
  ·refine q p _ (qd_ hp _) ?_
   rw[qc_]
   unfold zl_
   rw[e,HT.sIx_none,AN (by rw[A0];omega),Cr]
theorem aes_{its:List Value}{r:List Int}{n:Int}(h:IntsAre its r):its.countP (λy=>match y with|.int x _=>x==n|_=>false)=r.count n:=by
 induction h with
 |nil=>rfl
 |cons x t _ ih=>rw[List.countP_cons,List.count_cons,ih]
theorem ako_{A:Around}{s:Shared}{its:List Value}{r:List Int}{n:Int}{t:Tok}(h:IntsAre its r):∀y,y∈its.toArray->SeqAt.EqAt A s y (.int n t) (match y with|.int x _=>x==n|_=>false):=by
 have key:∀y∈its,SeqAt.EqAt A s y (.int n t) (match y with|.int x _=>x==n|_=>false):=by
  induction h with
  |nil=>intro y hy;cases hy
  |cons x tk _ ih =>
   intro y hy
   rcases AJ.mp hy with e|hy
   ·subst e;exact Db _ _ _ _
   ·exact ih y hy
 exact λy hy=>key y (by simpa using hy)
def ao5_(to:TE)(t:TA):TE:=λσ H Q=>to σ H λx H1=>∃(p:Addr)(r:List Int),x=.ref p/\H1 p=some (.tup (r.map V.int))/\t σ H1 λvs H2=>∃n:Int,vs=[.int n]/\H2 p=some (.tup (r.map V.int))/\Q (.int (r.count n:Nat)) H2
theorem ak3_{o e:Expr}{to:TE}{t:TA}{apos cpos:Pos}(ho:PE X o to)(he:PA X [e] t)
  (hbase:attributeBase o "count" X.env (eval o X.env)=eval o X.env:=by rfl)
  (hfew:((backTo cpos (starEach [e] X.env)).all (λx=>!x.1)&&(backToKw cpos (keywordEach [] X.env)).all (λx=>x.1.isSome)
   && decide ([e].length+([]:List Keyword).length+(if ([]:List Keyword).isEmpty then 0 else 1)<30))=true:=by rfl)
  (hline:(apos.endLine==cpos.line)=true:=by rfl) (hs:starEach [e] X.env=(false,eval e X.env)::starEach [] X.env:=by rfl) (hplain:(backTo cpos (starEach [] X.env)).any (·.1)=false:=by rfl) :
  PE X (.Call (.Attribute o "count" apos) [e] [] cpos) (ao5_ to t):=by
 intro pins s σ H Q I h
 refine wpAny_Call_method_late hbase hfew hline rfl (thn (ho pins s σ H _ I h) λv s1 ⟨x,H1,I1,r1,p,r,e1,hp,q1⟩=>?_)
 subst e1
 cases r1
 obtain⟨_,its,rv,o1,g1,c1,n1,d1,dn⟩:=(show ObjOk X.prog X.w H1 s1.heap p (.tup (r.map V.int)) from I1.hok p _ hp)
 refine⟨"tuple", "tuple.count",PySem.F.plainAttrs_tuple,D0,PySem.F.type_tuple_count,⟨o1,g1,c1⟩,λb eb=>?_,?_⟩
 ·cases eb
  exact⟨o1,g1,dn⟩
 have hA:=he cpos pins s1 σ H1 _ I1 q1
 rw[hs]at hA ⊢
 refine CD (by show(false||(backTo cpos (starEach [] X.env)).any (·.1))=false;rw[hplain]<;>rfl) (CM ?_)
 refine thn hA λus s2 ⟨vs,H2,I2,r2,n,e2,hp2,q2⟩=>?_
 subst e2
 obtain⟨u,rfl,ru⟩:=zT_ r2
 obtain⟨tk,rfl⟩:=ru
 obtain⟨_,its2,rv2,o2,g2,c2,n2,d2,dn2⟩:=(show ObjOk X.prog X.w H2 s2.heap p (.tup (r.map V.int)) from I2.hok p _ hp2)
 have ii:IntsAre its2 r:=zr_ rv2
 obtain⟨cls,dd,data,sl⟩:=o2
 simp only at c2 d2 dn2
 subst c2 d2 dn2
 refine call_meets D0 ⟨_,g2,rfl⟩ PySem.F.entry_tuple_count (PySem.F.args_tuple_count_2 _ _) (SeqAt.tuple_countAt p its2.toArray n2 none sl (.int n tk) _) ⟨g2,ako_ ii,?_⟩
 exact⟨.int (r.count n:Nat),H2,I2.tok _,⟨s2.toks,by rw[<-aes_ ii]⟩,q2⟩
end
end L2.Ev
namespace L2.Ev
open L2.Pl
def jK_(a:Int)(n:Nat):List Int:=(List.range ((n:Int)-a).toNat).map λ(i:Nat)=>a+(i:Int)
def mxl(line:List Int)(least:Int):Int:=match line.getLast? with
 |some x=>if x<least then least else x
 |none=>least
def jM_(n:Nat)(least:Int)(line:List Int):List (List Int):=(jK_ (mxl line least) n).map λk=>line++[k]
def yA_(n:Nat)(found:List (List Int))(least:Int):List (List Int):=found.flatMap (jM_ n least)
def lf(n:Nat)(ls:List Int):List (List Int):=ls.foldl (yA_ n) [[]]
def lfn(r:List Int)(lines:List (List Int)):List Int:=match lines.getLast? with
 |none=>List.replicate (r.getD 0 0).toNat 0
 |some l=>(l.map (· + 1)).take (r.getD lines.length 0).toNat
def j4_(n:Nat)(r:List Int)(lines:List (List Int)):List (List (List Int)):=(lf n (lfn r lines)).map λl=>lines++[l]
def wnl(n:Nat)(r:List Int)(fs:List (List (List Int))):List (List (List Int)):=fs.flatMap (j4_ n r)
def jL_(n:Nat)(r:List Int):Nat->List (List (List Int))
 |0=>[[]]
 |j+1=>wnl n r (jL_ n r j)
def fil(n:Nat)(r:List Int):List (List (List Int)):=jL_ n r r.length
def pwf(n:Nat)(f:List (List Int)):List Int:=(List.range n).map λ(k:Nat)=>((f.map λl=>((l.count (k:Int):Nat):Int)).sum)
def q3_(n:Nat)(r:List Int):List Mon:=(fil n r).map λf=>(pwf n f,1)
def z4_(i:Int)(t:Mon):List Mon:=(List.range (t.1.length+1)).map λ(k:Nat)=>(t.1.take k++[i]++t.1.drop k,t.2*(1-2*(((t.1.length:Int)-(k:Int))%2)))
def sgo:Nat->List Mon
 |0=>[([],1)]
 |n+1=>(sgo n).flatMap (z4_ (n:Int))
def ph(n:Nat)(r:List Int):List Int:=(List.range n).map λ(k:Nat)=>r.getD k 0+(n:Int)-1-(k:Int)
def qV_(n:Nat)(r:List Int):List Mon:=(sgo n).map λt=>(t.1.map λk=>(ph n r).getD k.toNat 0,t.2)
theorem abv_(line:List Int)(least:Int):least<=mxl line least:=by
 unfold mxl
 split
 ·split<;>lia
 ·exact Cs _
theorem air_{a:Int}{n:Nat}(h:0<=a):(jK_ a n).length<=n:=by
 unfold jK_
 rw[AA,BI]
 lia
theorem abh_{n:Nat}{least:Int}(h:0<=least)(line:List Int):(jM_ n least line).length<=n:=by
 unfold jM_
 rw[AA]
 exact air_ (Int.le_trans h (abv_ _ _))
theorem zR_{α β:Type}(g:α->List β)(B:Nat):∀l:List α,(∀x∈l,(g x).length<=B)->(l.flatMap g).length<=l.length*B
 |[],_=>by simp
 |x::l,h=>by
  have h1:=h x (AD ..)
  have h2:=zR_ g B l λy hy=>h y (AC _ hy)
  rw[CB,AE,Am,Cg]
  lia
theorem yj_{α β:Type}(g:α->List β)(l:List α)(i:Nat):((l.take i).flatMap g).length<=(l.flatMap g).length:=by
 have e:l.flatMap g=(l.take i).flatMap g++(l.drop i).flatMap g:=by rw[<-Bi,BU]
 rw[e,AE]
 lia
theorem vx_(n:Nat)(ls:List Int)(x:Int):lf n (ls++[x])=yA_ n (lf n ls) x:=by
 unfold lf
 rw[B9]
 rfl
theorem abu_{n:Nat}(hn:n<=4):∀{m:Nat}{ls:List Int},ls.length=m->(∀x∈ls,0<=x)->(lf n ls).length<=4^m
 |0,ls,h,_=>by
  rw[BN.mp h]
  exact AG _
 |m+1,ls,h,nn=>by
  have ne:ls≠[]:=by intro z;rw[z]at h;simp at h
  obtain⟨as,x,e⟩:∃as x,ls=as++[x]:=⟨_,_,(BF ne).symm⟩
  subst e
  rw[AE,Ay]at h
  have ih:=abu_ hn (m:=m) (ls:=as) (by lia) λy hy=>nn y (Aw _ hy)
  rw[vx_]
  have:=zR_ (jM_ n x) 4 (lf n as) λy _=>Aj (abh_ (nn x (by simp)) y) hn
  rw[Nat.pow_succ]
  unfold yA_
  lia
theorem ad7_{n:Nat}{ls:List Int}(nn:∀x∈ls,0<=x):∀l∈lf n ls,l.length=ls.length/\∀x∈l,0<=x/\x<(n:Int):=by
 have key:∀m (ls:List Int),ls.length=m->(∀x∈ls,0<=x)->∀l∈lf n ls,l.length=ls.length/\∀x∈l,0<=x/\x<(n:Int):=by
  intro m
  induction m with
  |zero =>
   intro ls h _ l hl
   rw[BN.mp h]at hl ⊢
   have e:l=[]:=by simpa [lf]using hl
   rw[e]
   exact⟨rfl,λx hx=>by cases hx⟩
  |succ m ih =>
   intro ls h nn l hl
   have ne:ls≠[]:=by intro z;rw[z]at h;simp at h
   obtain⟨as,x,e⟩:∃as x,ls=as++[x]:=⟨_,_,(BF ne).symm⟩
   subst e
   rw[AE,Ay]at h
   rw[vx_]at hl
   unfold yA_ at hl
   obtain⟨y,hy,hl⟩:=BS.mp hl
   obtain⟨i1,i2⟩:=ih as (by lia) (λy hy=>nn y (Aw _ hy)) y hy
   unfold jM_ jK_ at hl
   obtain⟨k,hk,rfl⟩:=Ae.mp hl
   obtain⟨j,hj,rfl⟩:=Ae.mp hk
   have hj:=BH.mp hj
   refine⟨by simp [i1],λz hz=>?_⟩
   rcases Ak.mp hz with hz|hz
   ·exact i2 z hz
   ·have:=abv_ y x
    have:=nn x (by simp)
    rw[Af.mp hz]
    lia
 exact key ls.length ls rfl nn
def LOk(l:List Int):Prop:=l.length<=8/\∀x∈l,0<=x/\x<=4
def FOk(r:List Int)(j:Nat)(fs:List (List (List Int))):Prop:=∀lines∈fs,lines.length=j/\∀l∈lines,LOk l
theorem agh_{r:List Int}(h8:∀x∈r,0<=x/\x<=8){lines:List (List Int)}(hl:∀l∈lines,LOk l):(lfn r lines).length<=8/\∀x∈lfn r lines,0<=x/\x<=1000:=by
 have g8:∀k,(r.getD k 0).toNat<=8:=λk=>by
  rw[AK]
  cases e:r[k]? with
  |none=>decide
  |some x =>
   have:=h8 x (AY e)
   simp
   lia
 unfold lfn
 cases e:lines.getLast? with
 |none=>exact⟨by simpa using g8 0,λx hx=>by have:=(List.mem_replicate.mp hx).2;lia⟩
 |some l =>
  have hm:=Eg e
  refine⟨by rw[AS];have:=g8 lines.length;lia,λx hx=>?_⟩
  obtain⟨y,hy,rfl⟩:=Ae.mp (BL hx)
  have:=(hl l hm).2 y hy
  lia
theorem yE_{n:Nat}{r:List Int}(hn:n<=4)(h8:∀x∈r,0<=x/\x<=8):∀j,FOk r j (jL_ n r j)
 |0=>λlines hl=>by
  have e:lines=[]:=by simpa [jL_]using hl
  rw[e]
  exact⟨rfl,λl hl=>by cases hl⟩
 |j+1=>λlines hl=>by
  have ih:=yE_ hn h8 j
  unfold jL_ wnl at hl
  obtain⟨fs,hf,hl⟩:=BS.mp hl
  obtain⟨a1,a2⟩:=ih fs hf
  unfold j4_ at hl
  obtain⟨l,hll,rfl⟩:=Ae.mp hl
  obtain⟨b1,b2⟩:=agh_ h8 a2
  obtain⟨c1,c2⟩:=ad7_ (λx hx=>(b2 x hx).1) l hll
  refine⟨by simp [a1],λz hz=>?_⟩
  rcases Ak.mp hz with hz|hz
  ·exact a2 z hz
  ·rw[Af.mp hz]
   exact⟨by lia,λx hx=>by have:=c2 x hx;lia⟩
theorem akd_(n:Nat)(f:List (List Int)):(pwf n f).length=n:=by unfold pwf;rw[AA,BI]
def gen:Nat->Nat->Nat->List (List Int)
 |0,_,_=>[[]]
 |k+1,top,w=>[]::(List.range top).flatMap λi=>if i+1<=w then (gen k (i+1) (w-(i+1))).map (λr=>((i:Int)+1)::r) else []
theorem ade_:∀(k top w:Nat)(r:List Int),r.length<=k->(∀x∈r,1<=x/\x<=(top:Int))->(r.Pairwise λa b=>b<=a)->r.sum<=(w:Int)->r∈gen k top w
 |0,_,_,r,h,_,_,_=>by
  rw[BN.mp (Nat.le_zero.mp h)]
  exact Af.mpr rfl
 |k+1,top,w,[],_,_,_,_=>AD ..
 |k+1,top,w,x::r,h,hx,hp,hs=>by
  obtain⟨x1,x2⟩:=hx x (AD ..)
  obtain⟨i,rfl⟩:∃i:Nat,x=(i:Int)+1:=⟨(x-1).toNat,by lia⟩
  obtain⟨p1,p2⟩:=Ai.mp hp
  have pos:∀l:List Int,(∀y∈l,1<=y)->0<=l.sum:=by
   intro l
   induction l with
   |nil=>intro _;exact Cs _
   |cons y l ih =>
    intro hy
    have:=hy y (AD ..)
    have:=ih λz hz=>hy z (AC _ hz)
    rw[Ab]
    lia
  have r0:=pos r λy hy=>(hx y (AC _ hy)).1
  rw[Ab]at hs
  have iw:i+1<=w:=by lia
  refine AC _ (BS.mpr ⟨i,BH.mpr (by lia),?_⟩)
  rw[if_pos iw]
  refine Ae.mpr ⟨r,ade_ k (i+1) (w-(i+1)) r (by simp at h;lia) (λy hy=>⟨(hx y (AC _ hy)).1,by have:=p1 y hy;lia⟩) p2 (by lia),rfl⟩
def zc_(p:List Int):Nat:=p.foldl (λa x=>16*a+x.toNat) 0
def jD_:Nat->List (Nat×Int)->List (Nat×Int)->List (Nat×Int)
 |0,a,b=>a++b
 |_,[],b=>b
 |_,a,[]=>a
 |f+1,(k,x)::a,(l,y)::b=>if k<l then (l,y)::jD_ f ((k,x)::a) b else if l<k then (k,x)::jD_ f a ((l,y)::b) else if x+y=0 then jD_ f a b else (k,x+y)::jD_ f a b
def smK(h:Nat->Int):List (Nat×Int)->Int
 |[]=>0
 |t::l=>t.2*h t.1+smK h l
theorem acq_(h:Nat->Int):∀a b,smK h (a++b)=smK h a+smK h b
 |[],b=>by simp [smK]
 |t::a,b=>by simp only[Dv,smK,acq_ h a b];lia
theorem xl_(h:Nat->Int):∀f a b,smK h (jD_ f a b)=smK h a+smK h b
 |0,a,b=>by unfold jD_;exact acq_ h a b
 |f+1,[],b=>by simp [jD_,smK]
 |f+1,t::a,[]=>by simp [jD_,smK]
 |f+1,(k,x)::a,(l,y)::b=>by
  unfold jD_
  split
  ·have:=xl_ h f ((k,x)::a) b
   simp only[smK]at this ⊢
   lia
  ·split
   ·have:=xl_ h f a ((l,y)::b)
    simp only[smK]at this ⊢
    lia
   ·have e:k=l:=by lia
    subst e
    have:=xl_ h f a b
    split
    ·rename_i z
     have z2:x*h k+y*h k=0:=by rw[<-DD,z,Int.zero_mul]
     simp only[smK]at this ⊢
     lia
    ·simp only[smK,DD]at this ⊢
     lia
def KF(n:Nat)(r:List Int):List (Nat×Int):=(fil n r).foldl (λacc f=>jD_ (acc.length+1) acc [(zc_ (pwf n f),1)]) []
def mulK(kf:List (Nat×Int))(A:List Mon):List (Nat×Int):=A.foldl (λacc t=>jD_ (acc.length+kf.length+1) acc (kf.map λu=>(u.1+zc_ t.1,u.2*t.2))) []
def sumK(A:List Mon):List (Nat×Int):=A.foldl (λacc t=>jD_ (acc.length+1) acc [(zc_ t.1,t.2)]) []
def xO_(n b:Nat)(p:List Int):Bool:=p.length==n&&p.all λx=>decide (0<=x)&&decide (x<=(b:Int))
def chk(n:Nat)(r:List Int):Bool:=((fil n r).all λf=>xO_ n 11 (pwf n f))&&((qV_ n []).all λt=>xO_ n 4 t.1)&&((qV_ n r).all λt=>xO_ n 15 t.1)&&mulK (KF n r) (qV_ n [])==sumK (qV_ n r)
def xV_(n:Nat)(r:List Int):Bool:=decide ((fil n r).length<=1000)&&(if r.length<=n then chk n r else (fil n r).isEmpty)
end L2.Ev
namespace L2.Pl
theorem yh_:∀{p a q:Pw}{n:Nat},p.length=n->a.length=n->q.length=n->lxl p a=true->lxl (pad p q) (pad a q)=true
 |[],[],_,_,_,_,_,h=>by simp [lxl]at h
 |[],_::_,_,_,h1,h2,_,_=>by simp at h1 h2;omega
 |_::_,[],_,_,h1,h2,_,_=>by simp at h1 h2;omega
 |_::_,_::_,[],_,h1,_,h3,_=>by simp at h1 h3;omega
 |x::p,y::a,z::q,n,h1,h2,h3,h=>by
  unfold pad
  simp only[Cd,lxl]at h ⊢
  simp only[Am]at h1 h2 h3
  by_cases e:x=y
  ·subst e
   rw[if_pos rfl]at h ⊢
   exact yh_ (n:=p.length) rfl (by omega) (by omega) h
  ·rw[if_neg e]at h
   have:=of_decide_eq_true h
   rw[if_neg (by omega)]
   exact decide_eq_true (by omega)
theorem xz_:∀p q:Pw,pad p q=pad q p
 |[],[]=>rfl
 |[],_::_=>rfl
 |_::_,[]=>rfl
 |x::p,y::q=>by
  have:=xz_ p q
  unfold pad at this ⊢
  simp only[Cd]
  rw[this,Int.add_comm]
structure Top(f:List Mon)(a:Pw)(x:Int):Prop where
 at_:cf f a=x
 top:∀t∈f,t.1=a∨lxl t.1 a=true
theorem Top.norm{f:List Mon}{a:Pw}{x:Int}(h:Top f a x):Top (norm f) a x:=⟨by rw[zD_];exact h.at_,λt ht=>by
 obtain⟨u,hu,e⟩:=qY_ ht
 rw[<-e]
 exact h.top u hu⟩
theorem aad_{t:Mon}{r:List Mon}(c:Canon (t::r)):Top (t::r) t.1 t.2:=⟨c.head,λu hu=>by
 rcases AJ.mp hu with rfl|hu
 ·exact .inl rfl
 ·exact .inr ((Ai.mp c.ord).1 u hu)⟩
theorem Top.prd{f g:List Mon}{a b:Pw}{x y:Int}{n:Nat}(hf:Top f a x)(hg:Top g b y)(lf:∀t∈f,t.1.length=n)(lg:∀t∈g,t.1.length=n)(la:a.length=n)(lb:b.length=n):Top (prd f g) (pad a b) (x*y):=by
 have cmp:∀t∈f,∀u∈g,pad t.1 u.1=pad a b/\t.1=a/\u.1=b∨lxl (pad t.1 u.1) (pad a b)=true/\¬ (t.1=a/\u.1=b):=λt ht u hu=>by
  rcases hf.top t ht with e|e<;>rcases hg.top u hu with e'|e'
  ·exact .inl ⟨by rw[e,e'],e,e'⟩
  ·refine .inr ⟨?_,λz=>by rw[z.2,zu_]at e';cases e'⟩
   rw[e,xz_ a,xz_ a]
   exact yh_ (lg u hu) lb la e'
  ·refine .inr ⟨?_,λz=>by rw[z.1,zu_]at e;cases e⟩
   rw[e']
   exact yh_ (lf t ht) la lb e
  ·refine .inr ⟨?_,λz=>by rw[z.1,zu_]at e;cases e⟩
   refine z8_ (yh_ (lf t ht) la (lg u hu) e) ?_
   rw[xz_ a,xz_ a]
   exact yh_ (lg u hu) lb la e'
 refine⟨?_,λt ht=>?_⟩
 ·rw[zQ_,zX_,<-hf.at_,<-hg.at_,zQ_ a,zQ_ b,<-ab4_]
  refine zx_ λt ht=>?_
  rw[<-vD_ (λq=>if q=b then 1 else 0)]
  refine zx_ λu hu=>?_
  rcases cmp t ht u hu with⟨e,e1,e2⟩|⟨e,e1⟩
  ·rw[if_pos e,if_pos e1,if_pos e2];rfl
  ·rw[if_neg (λz=>by rw[z,zu_]at e;cases e)]
   by_cases c:t.1=a
   ·rw[if_pos c,if_neg (λz=>e1 ⟨c,z⟩)];rfl
   ·rw[if_neg c];simp
 ·obtain⟨u,hu,ht⟩:=BS.mp ht
  obtain⟨v,hv,rfl⟩:=Ae.mp ht
  rcases cmp u hu v hv with⟨e,_⟩|⟨e,_⟩
  ·exact .inl e
  ·exact .inr e
def Even(n:Nat)(f:List Mon):Prop:=∀k,k+1<n->norm (sws f k)=norm f
theorem Even.norm{n:Nat}{f:List Mon}(h:Even n f):Even n (norm f):=λk hk=>by
 rw[xF_ (qP_ f)]
 exact(je_ λF=>by rw[jH_,qR_,jH_]).trans (h k hk)
def key:Pw->Nat
 |[]=>0
 |x::p=>x.toNat*9^p.length+key p
end L2.Pl
set_option maxHeartbeats 4000000
namespace L2.K53
open PySem
open L2.Pl L2.Ev
def top(i:Nat):Stmt:=PySem.Challenge.pw_evenform_k53_whole_tellings_by_fillings.main.body.getD i (.Pass ⟨0,0,0,0⟩)
abbrev akf_:Stmt:=top 13
abbrev sRc:Stmt:=top 18
abbrev aat_:Stmt:=top 19
abbrev aau_:Stmt:=top 20
abbrev sMul:Stmt:=top 21
abbrev aef_:Stmt:=top 22
abbrev aan_:Stmt:=top 23
abbrev sRbr:Stmt:=top 25
abbrev sUn:Stmt:=top 27
abbrev sRu:Stmt:=top 28
abbrev sFa:Stmt:=top 29
abbrev sRf:Stmt:=top 30
abbrev sPr:Stmt:=top 32
abbrev sLf:Stmt:=top 34
abbrev sLn:Stmt:=top 35
abbrev sWn:Stmt:=top 36
abbrev sFil:Stmt:=top 37
abbrev sPo:Stmt:=top 38
abbrev sFs:Stmt:=top 39
abbrev sUa:Stmt:=top 40
abbrev sDf:Stmt:=top 41
abbrev sBf:Stmt:=top 42
abbrev abx_:Stmt:=top 44
abbrev abm_:Stmt:=top 45
abbrev aaw_:Stmt:=top 46
abbrev adz_:Stmt:=top 47
abbrev acc_:Stmt:=top 48
abbrev sNum:Stmt:=top 49
abbrev sPow:Stmt:=top 50
abbrev sSum:Stmt:=top 51
abbrev aal_:Stmt:=top 52
abbrev aeq_:Stmt:=top 53
abbrev sRow:Stmt:=top 54
abbrev aaq_:Stmt:=top 55
abbrev aed_:Stmt:=top 56
abbrev aak_:Stmt:=top 57
abbrev sSo:Stmt:=top 58
abbrev sAl:Stmt:=top 59
abbrev sDue:Stmt:=top 60
abbrev sUv:Stmt:=top 61
abbrev vw_:Stmt:=top 62
abbrev abw_:Stmt:=top 63
abbrev ae5_:Stmt:=top 64
abbrev sLaw:Stmt:=top 65
section
variable{P:Program}{w:World}{K:PySem.W.Frag}{mg:Str->Option Value}{base:Heap}{f g:Addr}{fd gd:FuncData}
theorem amw_{X:Cx}{P:Program}{w:World}:xv_ (CX1 P w) X E0:=λ_ _ _ _ _ _ _ ⟨_,_,_,_,_,_,_,z⟩=>False.elim z
theorem ag2_{P:Program}{w:World}{K:PySem.W.Frag}{mg:Str->Option Value}{base:Heap}{N:List Str}{qual:Str}{scope:Scope}{f:Addr}{cdv:Value}{A:Around}{outer:List Env}{s0:Shared}{H0:Hp}{E:XK}:PassesOwn (model P w) (A.deeper (PyProof.Rows.envOfC qual scope s0.heap.objs.size f cdv)) (PyProof.Rows.envOfC qual scope s0.heap.objs.size f cdv) (zt_ (CX1 P w) P w K mg base N qual scope f cdv A outer s0 H0 E).xe:=PassesOwn.leaving
structure HasX(P:Program)(w:World)(K:PySem.W.Frag)(mg:Str->Option Value)(base:Heap)(k:Nat)(x:Str)(ps:List Str)(sp:Sp) where
 f:Addr
 fd:FuncData
 ok:FnOk P w K mg base (CX1 P w) k f fd ps sp
 bd:Binds K fd ps []
 kp:PySem.W.keepIn K (.ref f)=true
 at_:mg x=some (.ref f)
abbrev bmV:List Value:=[.type "ValueError",.type "Exception",.type "BaseException",.type "object"]
structure Exc1(K:PySem.W.Frag)(mg:Str->Option Value)(x:Str)(C:Addr):Prop where
 at_:mg x=some (.ref C)
 is:PySem.W.excIn K C bmV "ValueError.__new__" = true
theorem aei_{K:PySem.W.Frag}{C:Addr}{bm:List Value}{n:String}(q:PySem.W.excIn K C bm n=true):(PySem.W.clsIn K C).isSome=true:=by
 unfold PySem.W.excIn at q
 split at q
 ·rename_i dd cd sl ho
  unfold PySem.W.clsIn
  rw[ho]
  rfl
 ·cases q
theorem vm_{K:PySem.W.Frag}{C C0:Addr}{b:Bool}(h:PySem.W.kitOne K (.ref C) (.ref C0)=some b)(ne:C≠C0):PySem.W.kitCls K (.ref C) (.ref C0)=some b:=by
 unfold PySem.W.kitOne at h
 rwa [if_neg (λz=>ne (by injection (beq_iff_eq.mp z)))]at h
theorem aen_{K:PySem.W.Frag}{C:Addr}{T:String}{b:Bool}(h:PySem.W.kitOne K (.ref C) (.type T)=some b):PySem.W.kitCls K (.ref C) (.type T)=some b:=by
 unfold PySem.W.kitOne at h
 rwa [if_neg (λz=>by cases beq_iff_eq.mp z)]at h
abbrev nRc:List Str:=["many"]
theorem scRc:FnScope nRc ["many"] (qh_ sRc):=⟨rfl,rfl,rfl,by decide +kernel,rfl,by decide +kernel,by decide +kernel⟩
def agd_(cBC:Addr):Sp:=λvs H Q E=>∃n:Int,vs=[.int n]/\(1<=n/\n<=4->Q .non H)/\(¬ (1<=n/\n<=4)->E (.ref cBC) none H)
theorem ak2_{tk:Tok}{cBC:Addr}(F:Fun K "refuse_bad_count" "refuse_bad_count" sRc f fd)(gU:mg "MOST_UNKNOWNS" = some (.int 4 tk))(X1:Exc1 K mg "BadCount" cBC):FnOk P w K mg base (CX1 P w) 2 f fd ["many"] (agd_ cBC):=by
 refine Fun.okx F scRc (λvs H Q E h=>?_) (λcdv A outer s H vs Q E hr h=>?_)
 ·obtain⟨n,rfl,_⟩:=h
  rfl
 obtain⟨n,rfl,q,e⟩:=h
 refine⟨_,qf_ (qX_ (PW.pt (j7_ (qy_ aaj_ (pv 0) qg_ (qt_ _)) (jV_ (qy_ j9_ (pv 0) (zf_ (v:=.int 4) rfl gU ⟨_,rfl⟩) (qt_ _))))) (qf_ (aht_ rfl rs1 CL rfl X1.at_ X1.is (qa_ zg_ qb_))) qz_),?_⟩
 refine⟨_,rfl,_,_,rfl,rfl,_,rfl,?_⟩
 by_cases c1:n<1
 ·exact x4_ c1 (z9_ ⟨(by show 1<=sizeLine;decide),e (by omega)⟩)
 ·refine xw_ c1 ⟨_,rfl,_,_,rfl,rfl,_,rfl,?_⟩
  by_cases c2:4<n
  ·exact x4_ c2 ⟨(by show 1<=sizeLine;decide),e (by omega)⟩
  ·exact xw_ c2 (q (by omega))
def aji_:Sp:=λvs H Q _=>∃n:Int,vs=[.int n]/\1<=n/\n<=4/\Q .non H
theorem anf_{tk:Tok}(F:Fun K "refuse_bad_count" "refuse_bad_count" sRc f fd)(gU:mg "MOST_UNKNOWNS" = some (.int 4 tk)):FnOk P w K mg base CX0 2 f fd ["many"] aji_:=by
 refine F.ok scRc (λvs H Q E h=>?_) (λcdv A outer s H vs Q E hr h=>?_)
 ·obtain⟨n,rfl,_⟩:=h
  rfl
 obtain⟨n,rfl,n1,n4,q⟩:=h
 refine⟨_,qf_ (qX_ (PW.pt (j7_ (qy_ aaj_ (pv 0) qg_ (qt_ _)) (jV_ (qy_ j9_ (pv 0) (zf_ (v:=.int 4) rfl gU ⟨_,rfl⟩) (qt_ _))))) (qf_ x3_) qz_),?_⟩
 exact⟨_,rfl,_,_,rfl,rfl,_,rfl,xw_ (by omega) ⟨_,rfl,_,_,rfl,rfl,_,rfl,xw_ (by omega) q⟩⟩
abbrev nG:List Str:=["terms", "numbers", "powers", "number"]
abbrev bG:List Str:=["powers", "numbers"]
theorem ndG:bG.Nodup:=by decide +kernel
theorem scG:FnScope nG ["terms"] (qh_ aat_):=⟨rfl,rfl,rfl,by decide +kernel,rfl,by decide +kernel,by decide +kernel⟩
def yn_:Sp:=λvs H Q _=>∃(a:Addr)(ts:List Mon),vs=[.ref a]/\LstAt H a ts/\(∀t∈ts,t.1≠[])/\ts.length<=100000/\∀(l:Addr)(H':Hp),H l=none->Same H H'->LstAt H' l (norm ts)->Q (.ref l) H'
theorem ak4_(F:Fun K "gathered" "gathered" aat_ f fd)(ms:mg "sorted" = none):FnOk P w K mg base CX0 2 f fd ["terms"] yn_:=by
 refine F.ok scG (λvs H Q E h=>?_) (λcdv A outer s H vs Q E hr h=>?_)
 ·obtain⟨a,ts,rfl,_⟩:=h
  rfl
 obtain⟨a,ts,rfl,hL,hne,hlen,q⟩:=h
 have hu:=aee_ hr
 have h8:=hu8 hr
 refine⟨_,qe_ (qm_ (i:=1) scG.nd rfl (Or.inr rfl) yQ_)
  (qe_ (qw_ Ah rfl (qu_ (pv 0)) (qU_ rfl (ql_ (qj_ (i:=2) scG.nd rfl (Or.inl rfl)) (ql_ (qj_ (i:=3) scG.nd rfl (Or.inl rfl)) qF_)))
   (qf_ (vQ_ hu (pv 1) (pv 2) (qi_ qM_ (aa2_ hu (pv 1) (pv 2) qg_ ⟨rfl,rfl,rfl,rfl⟩) (pv 3)) rfl)))
  (qf_ (qn_ (qO_ (N':=bG) (src:=[none,some 1]) rfl (qu_ (ae4_ rfl h8 rfl ms (qa_ (pv 1) qb_)))
   (ze_ (qh_ aat_) nG (by decide +kernel))
   (λb=>qj_ (i:=0) ndG rfl (Or.inl rfl))
   (λb=>xM_ (qy_ aar_ (ads_ hu (pv 1) (pv 0) (λ_ _=>rfl)) qg_ (qt_ _)))
   (λb=>qs_ (qa_ (pv 0) (qa_ (ads_ hu (pv 1) (pv 0) (λ_ _=>rfl)) qb_))))))),?_⟩
 intro d hd
 obtain⟨vs,eL,iL⟩:=hL
 have lv:=AL iL
 have s0:Same H (upd H d (.dT [])):=qd_ hd _
 refine⟨_,rfl,a,rfl,⟨vs,SqL.of (s0 _ _ eL)⟩,?_⟩
 refine qE_ (xs:=vs) (λi σ H'=>(∃c2 c3,σ=[some (.ref a),some (.ref d),c2,c3])/\H' d=some (.dT (toK (q1_ (ts.take i))))/\Same H H') ?_ ?_ ?_ ?_
 ·exact⟨⟨_,_,rfl⟩,qc_,s0⟩
 ·rintro i σ H1 _ ⟨_,_,s1⟩
  exact SqL.of (s1 _ _ eL)
 ·rintro i x σ H1 hx ⟨⟨c2,c3,rfl⟩,h1,s1⟩
  obtain⟨t,ht,hi⟩:=qD_ iL hx
  obtain⟨p,k,rfl,hp,hk⟩:=q7_ hi
  have hk1:=s1 _ _ hk
  refine⟨p,_,rfl,SqT.of (s1 _ _ hp),rfl,_,_,rfl,_,_,rfl,rfl,?_⟩
  have g:=DGet.t (k:=t.1.map Sum.inl) h1 (by rw[j1_];exact hk1)
  rw[vB_]at g
  refine⟨_,rfl,d,rfl,.inr ⟨_,.inl h1⟩,_,rfl,_,g,_,rfl,(zC_ (q1_ (ts.take i)) t.1).getD 0,t.2,?_,rfl,_,rfl,_,rfl,d,_,rfl,DPut.t (k:=t.1.map Sum.inl) h1 (by rw[j1_];exact hk1) ?_,?_⟩
  ·cases zC_ (q1_ (ts.take i)) t.1<;>rfl
  ·rw[vA_]
   have:=x1_ (ts.take i)
   rw[AS]at this
   exact zn_ (by omega)
  ·refine⟨⟨_,_,rfl⟩,?_,λb o e=>?_⟩
   ·rw[qH_ ht,jv_,<-adh_]
    exact qc_
   ·rw[qk_ (qq_ e hd)]
    exact s1 b o e
 ·rintro σ H1 ⟨⟨c2,c3,rfl⟩,h1,s1⟩
  rw[AN (by omega)]at h1
  have hnd:∀t∈q1_ ts,t.1≠[]:=λt ht=>by
   obtain⟨u,hu,e⟩:=Ae.mp (ai9_ ts (Ae.mpr ⟨t,ht,rfl⟩))
   rw[<-e]
   exact hne u hu
  refine⟨_,rfl,d,q1_ ts,rfl,.inl h1,hnd,λp vs' ks hp pm so it=>?_⟩
  have s2:Same H1 (upd H1 p (.lst vs')):=qd_ hp _
  refine⟨p,rfl,⟨_,SqL.of qc_⟩,λb D hD=>?_⟩
  have lk:=AL it
  have ln:vs'.length<=100000:=by
   have:=pm.length_eq
   rw[AA]at this
   have:=x1_ ts
   omega
  refine zP_ (α:=Mon) hD (SqL.of qc_) (λσ=>∃c,σ=[c,some (.ref d)]) (λi=>(ks[i]?).bind λk=>if (zC_ (q1_ ts) k).getD 0≠0 then some (k,(zC_ (q1_ ts) k).getD 0) else none) (qr_ ln) ⟨_,rfl⟩ ?_ ?_
  ·rintro i x σ H2 Yes No hx ⟨c,rfl⟩ s3 yes no
   obtain⟨k,hk,hi⟩:=qD_ it hx
   obtain⟨pk,rfl,hpk⟩:=zG_ hi
   have hpk3:=s3 _ _ (s2 _ _ hpk)
   have hd3:=s3 _ _ (s2 _ _ h1)
   obtain⟨n,hn⟩:=af5_ (pm.mem_iff.mp (AY hk))
   have g:=DGet.t (k:=k.map Sum.inl) hd3 (by rw[j1_];exact hpk3)
   rw[vB_,hn]at g
   refine⟨_,rfl,_,rfl,d,.int n,rfl,g,rfl,_,rfl,?_⟩
   by_cases c0:n=0
   ·subst c0
    refine zb_ ?_
    exact no _ _ ⟨_,rfl⟩ (Same.refl _) (by rw[hk,CU,hn,if_neg (by simp)])
   ·have e0:(!decide (V.int n=V.int 0))=true:=by
     rw[decide_eq_false (λz=>c0 (by injection z))]
     rfl
    rw[e0]
    refine z9_ ⟨_,rfl,_,rfl,_,rfl,d,.int n,rfl,g,(by show 2<=sizeLine;decide),λr hr=>?_⟩
    exact yes _ _ _ (k,n) ⟨_,rfl⟩ (qd_ hr _) (by rw[hk,CU,hn,if_pos (by simpa using c0)];rfl) (q5_ qc_ (qd_ hr _ _ _ hpk3))
  ·intro H2 s3 hL
   refine q D H2 (s1.free (s2.free hD)) (s1.trans (s2.trans s3)) ?_
   have e:=akc_ pm so
   rw[<-zW_,<-qT_,<-lk]at e
   rw[<-e]
   exact hL
theorem ae7_{n d b:Nat}{ts:List Mon}(h:Deg n d b ts)(n1:1<=n):∀t∈ts,t.1≠[]:=λt ht e=>by
 have:=h.len t ht
 rw[e]at this
 simp at this
 omega
abbrev nPl:List Str:=["one", "other"]
def ajy_(g:List Mon->List Mon->List Mon):Sp:=λvs H Q _=>∃(a b:Addr)(ts us:List Mon),vs=[.ref a,.ref b]/\LstAt H a ts/\LstAt H b us/\(∀t∈ts,t.1≠[])/\(∀t∈us,t.1≠[])/\ts.length+us.length<=100000/\∀(l:Addr)(H':Hp),H l=none->Same H H'->LstAt H' l (norm (g ts us))->Q (.ref l) H'
abbrev bLs:List Str:=["powers", "number"]
theorem ndLs:bLs.Nodup:=by decide +kernel
theorem scLs:FnScope nPl nPl (qh_ aau_):=⟨rfl,rfl,rfl,by decide +kernel,rfl,by decide +kernel,by decide +kernel⟩
theorem ake_(F:Fun K "less" "less" aau_ f fd)(GG:Has P w K mg base 2 "gathered" ["terms"] yn_):FnOk P w K mg base CX0 3 f fd nPl (ajy_ λts us=>ts++ngt us):=by
 refine F.ok scLs (λvs H Q E h=>?_) (λcdv A outer s H vs Q E hr h=>?_)
 ·obtain⟨a,b,ts,us,rfl,_⟩:=h
  rfl
 obtain⟨a,b,ts,us,rfl,⟨vs,eA,iA⟩,⟨ws,eB,iB⟩,ne1,ne2,hlen,q⟩:=h
 refine⟨_,qf_ (qn_ (qo_ GG hr rfl (qa_ (qi_ jb_ (pv 0) (qO_ (N':=bLs) (src:=[none,none]) rfl (qu_ (pv 1)) (ze_ (qh_ aau_) nPl (by decide +kernel))
   (λb=>qU_ rfl (ql_ (qj_ (i:=0) ndLs rfl (Or.inl rfl)) (ql_ (qj_ (i:=1) ndLs rfl (Or.inl rfl)) qF_)))
   (λb=>q4_)
   (λb=>qs_ (qa_ (pv 0) (qa_ (yd_ xk_ (pv 1)) qb_))))) qb_))),?_⟩
 have la:=AL iA
 have lb:=AL iB
 refine⟨_,rfl,_,rfl,b,rfl,⟨_,SqL.of eB⟩,λbk D hD=>?_⟩
 refine zP_ (α:=Mon) hD (SqL.of eB) (λσ=>∃c d,σ=[c,d]) (λi=>(us[i]?).bind λt=>some (t.1,-t.2)) (qr_ (by omega)) ?_ ?_ ?_
 ·exact⟨_,_,rfl⟩
 ·rintro i x σ H2 Yes No hx ⟨c,d,rfl⟩ s3 yes no
  obtain⟨t,ht,hi⟩:=qD_ iB hx
  obtain⟨p,kk,rfl,hp,hkk⟩:=q7_ hi
  refine⟨p,_,rfl,SqT.of (s3 _ _ hp),rfl,_,_,rfl,_,_,rfl,rfl,?_⟩
  refine yN_ ?_
  refine⟨_,rfl,_,rfl,_,rfl,(by show 2<=sizeLine;decide),λp3 h3=>?_⟩
  have s5:=qd_ h3 (.tup [.ref kk,.int (-t.2)])
  exact yes _ _ _ (t.1,-t.2) ⟨_,_,rfl⟩ s5 (by rw[ht];rfl) (q5_ qc_ (s5 _ _ (s3 _ _ hkk)))
 rintro H2 s3 ⟨zs,eZ,iZ⟩
 have e:(List.range ws.length).filterMap (λi=>(us[i]?).bind λt=>some (t.1,-t.2))=ngt us:=by
  rw[lb,qT_,Aq]
  rfl
 rw[e]at iZ
 have lz:=AL iZ
 rw[adu_]at lz
 refine⟨a,D,vs,zs,rfl,rfl,s3 _ _ eA,eZ,qr_ (by omega),λp hp=>?_⟩
 have s1:=qd_ hp (.lst (vs++zs))
 refine⟨p,ts++ngt us,rfl,⟨_,qc_,Paired.app (Its.mono (Tups.same (s3.trans s1)) iA) (Its.mono (Tups.same s1) iZ)⟩,λt ht=>(Ak.mp ht).elim (ne1 t) λht=>?_,by rw[AE,adu_];exact hlen,λl H' hl s2 h2=>?_⟩
 ·obtain⟨u,hu,rfl⟩:=Ae.mp ht
  exact ne2 u hu
 ·exact q l H' (s3.free (s1.free hl)) (s3.trans (s1.trans s2)) h2
abbrev nS:List Str:=["powers", "place"]
theorem scS:FnScope nS ["powers", "place"] (qh_ aef_):=⟨rfl,rfl,rfl,by decide +kernel,rfl,by decide +kernel,by decide +kernel⟩
def afm_:Sp:=λvs H Q _=>∃(a:Addr)(ps:List Int)(k:Nat),vs=[.ref a,.int k]/\H a=some (.tup (ps.map V.int))/\k+1<ps.length/\ps.length<=100/\∀p H',Same H H'->H' p=some (.tup ((swp ps k).map V.int))->Q (.ref p) H'
theorem afi_(ps:List Int)(k:Nat)(h:k<=ps.length):zl_ (ps.map V.int) none (some (k:Int))=(ps.take k).map V.int:=by
 unfold zl_
 rw[HT.sIx_none,HT.sIx_nat,AA,CO,Dt,BQ h,Dm]
theorem agg_(ps:List Int)(k:Nat):zl_ (ps.map V.int) (some (k:Int)) none=(ps.drop k).map V.int:=by
 unfold zl_
 rw[HT.sIx_none,HT.sIx_nat,AA,AN (by rw[A0,AA];omega),Cr]
 by_cases c:k<=ps.length
 ·rw[BQ c]
 ·rw[Cn (by omega),Bo (by simp),Bo (by simp;omega)]
theorem ve_{ps:List Int}{k:Nat}(h:k<ps.length):atI (ps.map V.int) (k:Int)=some (.int (ps.getD k 0)):=by
 refine q8_ ?_
 rw[AT,AH h]
 simp [h]
theorem aj9_(F:Fun K "swapped" "swapped" aef_ f fd):FnOk P w K mg base CX0 2 f fd ["powers", "place"] afm_:=by
 refine F.ok scS (λvs H Q E h=>?_) (λcdv A outer s H vs Q E hr h=>?_)
 ·obtain⟨a,ps,k,rfl,_⟩:=h
  rfl
 obtain⟨a,ps,k,rfl,ha,hk,hl,q⟩:=h
 refine⟨_,qf_ (qn_ (qi_ zi_ (qi_ zi_ (za_ j2_ (pv 0) zw_ (zj_ (pv 1)))
   (qs_ (qa_ (qG_ q0_ (pv 0) (qi_ qM_ (pv 1) qg_) (λ_ _=>rfl)) (qa_ (qG_ q0_ (pv 0) (pv 1) (λ_ _=>rfl)) qb_))))
   (za_ j2_ (pv 0) (zj_ (qi_ qM_ (pv 1) qg_)) zw_))),?_⟩
 have e1:((k:Int)+1)=((k+1:Nat):Int):=by omega
 have e2:((k:Int)+2)=((k+2:Nat):Int):=by omega
 refine⟨_,rfl,_,rfl,_,rfl,a,_,rfl,SqT.of ha,?_,λp1 h1=>?_⟩
 ·rintro⟨_,z⟩
  rw[HT.sIx_nat,AA]at z
  omega
 rw[afi_ ps k (by omega)]
 have s1:=qd_ h1 (.tup ((ps.take k).map V.int))
 have ha1:=s1 _ _ ha
 refine⟨_,rfl,_,rfl,_,_,rfl,rfl,a,_,_,_,rfl,rfl,SqT.of ha1,by rw[e1];exact ve_ hk,_,rfl,_,rfl,a,_,_,_,rfl,rfl,SqT.of ha1,ve_ (by omega),(by show 2<=sizeLine;decide),λp2 h2=>?_⟩
 have s2:=qd_ h2 (.tup [.int (ps.getD (k+1) 0),.int (ps.getD k 0)])
 have hp1:=s2 _ _ (qc_ (H:=H) (a:=p1) (o:=.tup ((ps.take k).map V.int)))
 refine zd_ (r:=ps.take k) (r':=[ps.getD (k+1) 0,ps.getD k 0]) hp1 qc_ (qr_ (by rw[AS];show min k ps.length+2<=100000;omega)) λp3 H3 s3 h3=>?_
 have ha3:=s3 _ _ (s2 _ _ ha1)
 refine⟨_,rfl,_,rfl,_,_,rfl,rfl,_,rfl,a,_,rfl,SqT.of ha3,?_,λp4 h4=>?_⟩
 ·rintro⟨z,_⟩
  rw[e2,HT.sIx_nat,AA]at z
  omega
 rw[e2,agg_]
 have s4:=qd_ h4 (.tup ((ps.drop (k+2)).map V.int))
 refine zd_ (s4 _ _ h3) qc_ (qr_ (by rw[AE,AS,A0];show min k ps.length+2+(ps.length-(k+2))<=100000;omega)) λp5 H5 s5 h5=>?_
 exact q p5 H5 (s1.trans (s2.trans (s3.trans (s4.trans s5)))) h5
abbrev nE:List Str:=["some", "place"]
abbrev bE:List Str:=["powers", "number", "place"]
theorem ndE:bE.Nodup:=by decide +kernel
theorem scE:FnScope nE ["some", "place"] (qh_ aan_):=⟨rfl,rfl,rfl,by decide +kernel,rfl,by decide +kernel,by decide +kernel⟩
def agx_:Sp:=λvs H Q _=>∃(a:Addr)(n k:Nat)(ts:List Mon),vs=[.ref a,.int k]/\LstAt H a ts/\(∀t∈ts,t.1.length=n)/\k+1<n/\n<=100/\ts.length<=100000/\∀(l:Addr)(H':Hp),H l=none->Same H H'->LstAt H' l (x6_ ts k)->Q (.ref l) H'
theorem akx_{h':Addr}{hd':FuncData}(F:Fun K "exchanged" "exchanged" aan_ f fd)(G:FnOk P w K mg base CX0 2 g gd ["terms"] yn_)(bG':Binds K gd ["terms"] [])(kG:PySem.W.keepIn K (.ref g)=true)(mG:mg "gathered" = some (.ref g))
  (GS:FnOk P w K mg base CX0 2 h' hd' ["powers", "place"] afm_) (bS:Binds K hd' ["powers", "place"] []) (kS:PySem.W.keepIn K (.ref h')=true) (mS:mg "swapped" = some (.ref h')):FnOk P w K mg base CX0 3 f fd ["some", "place"] agx_:=by
 refine F.ok scE (λvs H Q E h=>?_) (λcdv A outer s H vs Q E hr h=>?_)
 ·obtain⟨a,n,k,ts,rfl,_⟩:=h
  rfl
 obtain⟨a,n,k,ts,rfl,⟨vs,eL,iL⟩,hln,hk,hn,hl,q⟩:=h
 refine⟨_,qf_ (qn_ (zF_ G hr rfl mG kG bG' .nil xa_ (qa_ (qO_ (N':=bE) (src:=[none,none,some 1]) rfl (qu_ (pv 0)) (ze_ (qh_ aan_) nE (by decide +kernel))
   (λb=>qU_ rfl (ql_ (qj_ (i:=0) ndE rfl (Or.inl rfl)) (ql_ (qj_ (i:=1) ndE rfl (Or.inl rfl)) qF_)))
   (λb=>q4_)
   (λb=>qs_ (qa_ (zF_ GS hr rfl mS kS bS .nil xa_ (qa_ (pv 0) (qa_ (pv 2) qb_))) (qa_ (pv 1) qb_)))) qb_))),?_⟩
 refine⟨_,rfl,a,rfl,⟨_,SqL.of eL⟩,λbk D hD=>?_⟩
 have lv:=AL iL
 refine zP_ (α:=Mon) hD (SqL.of eL) (λσ=>∃c d,σ=[c,d,some (.int k)]) (λi=>(ts[i]?).bind λt=>some (swp t.1 k,t.2)) (qr_ (by omega)) ?_ ?_ ?_
 ·exact⟨_,_,rfl⟩
 ·rintro i x σ H2 Yes No hx ⟨c,d,rfl⟩ s3 yes no
  obtain⟨t,ht,hi⟩:=qD_ iL hx
  obtain⟨p,kk,rfl,hp,hkk⟩:=q7_ hi
  have hm:=AY ht
  have pl:=hln t hm
  refine⟨p,_,rfl,SqT.of (s3 _ _ hp),rfl,_,_,rfl,_,_,rfl,rfl,?_⟩
  refine yN_ ?_
  refine⟨_,rfl,_,rfl,kk,t.1,k,rfl,s3 _ _ hkk,by omega,by omega,λp2 H4 s4 h4=>?_⟩
  refine⟨_,rfl,(by show 2<=sizeLine;decide),λp3 h3=>?_⟩
  have s5:=qd_ h3 (.tup [.ref p2,.int t.2])
  exact yes _ _ _ (swp t.1 k,t.2) ⟨_,_,rfl⟩ (s4.trans s5) (by rw[ht];rfl) (q5_ qc_ (s5 _ _ h4))
 ·rintro H2 s3 hL
  have e:(List.range vs.length).filterMap (λi=>(ts[i]?).bind λt=>some (swp t.1 k,t.2))=ts.map λt=>(swp t.1 k,t.2):=by
   rw[lv,qT_,Aq]
  rw[e]at hL
  refine⟨D,_,rfl,hL,λt ht e=>?_,by rw[AA];omega,λl H4 hl4 s4 h4=>?_⟩
  ·obtain⟨u,hu,rfl⟩:=Ae.mp ht
   have z:(swp u.1 k).length=n:=by rw[xI_ (by rw[hln u hu];exact hk),hln u hu]
   have e':swp u.1 k=[]:=e
   rw[e']at z
   simp at z
   omega
  ·exact q l H4 (s3.free hl4) (s3.trans s4) h4
def xA_(r:List Int):Bool:=r.all (λx=>decide (1<=x))&&((List.range (r.length-1)).all λi=>decide (r.getD (i+1) 0<=r.getD i 0))&&decide (r.sum<=8)
abbrev nRb:List Str:=["row"]
abbrev bRb:List Str:=["number"]
abbrev bRb2:List Str:=["number", "later"]
theorem ndRb:bRb.Nodup:=by decide +kernel
theorem aj4_:bRb2.Nodup:=by decide +kernel
theorem scRb:FnScope nRb nRb (qh_ sRbr):=⟨rfl,rfl,rfl,by decide +kernel,rfl,by decide +kernel,by decide +kernel⟩
def ajj_:Sp:=λvs H Q _=>∃(p:Addr)(r:List Int),vs=[.ref p]/\H p=some (.tup (r.map V.int))/\r.length<=1000/\xA_ r=true/\∀H',Same H H'->Q .non H'
theorem alg_(r:List Int):(r.map λx=>decide (x<1)).any id=!(r.all λx=>decide (1<=x)):=by
 induction r with
 |nil=>rfl
 |cons x r ih =>
  rw[Aa,CC,DE,ih,Bool.not_and]
  have:id (decide (x<1))=!decide (1<=x):=by
   by_cases c:x<1
   ·simp [c]
   ·simp [c,show 1<=x by omega]
  rw[this]
theorem ais_(l:List Nat)(r:List Int):(l.map λi=>decide (r.getD i 0<r.getD (i+1) 0)).any id=!(l.all λi=>decide (r.getD (i+1) 0<=r.getD i 0)):=by
 induction l with
 |nil=>rfl
 |cons i l ih =>
  rw[Aa,CC,DE,ih,Bool.not_and]
  have:id (decide (r.getD i 0<r.getD (i+1) 0))=!decide (r.getD (i+1) 0<=r.getD i 0):=by
   by_cases c:r.getD i 0<r.getD (i+1) 0
   ·rw[decide_eq_true c,decide_eq_false (by omega)];rfl
   ·rw[decide_eq_false c,decide_eq_true (by omega)];rfl
  rw[this]
theorem afx_{r:List Int}{i:Nat}{v:V}(h:(r.map V.int)[i]?=some v):v=.int (r.getD i 0)/\i<r.length:=by
 rw[AT]at h
 rw[AK]
 cases e:r[i]? with
 |none=>rw[e]at h;cases h
 |some c=>rw[e]at h;exact⟨(AW h).symm,(AR.mp e).1⟩
theorem al9_{tk:Tok}(F:Fun K "refuse_bad_row" "refuse_bad_row" sRbr f fd)(gU:mg "MOST_TOGETHER" = some (.int 8 tk))(ma:mg "any" = none)(mz:mg "zip" = none)(ms:mg "sum" = none):FnOk P w K mg base CX0 2 f fd nRb ajj_:=by
 refine F.ok scRb (λvs H Q E h=>?_) (λcdv A outer s H vs Q E hr h=>?_)
 ·obtain⟨p,r,rfl,_⟩:=h
  rfl
 obtain⟨p,r,rfl,hp,hl,hB,q⟩:=h
 have e:xA_ r=false->False:=λz=>by rw[hB]at z;cases z
 refine⟨_,qe_ (qX_ (zz_ (qp_ (v2_ rfl) rfl ma EW (qa_ (qO_ (N':=bRb) (src:=[none]) rfl (jF_ (pv 0)) (ze_ (qh_ sRbr) nRb (by decide +kernel))
    (λb=>qj_ (i:=0) ndRb rfl (Or.inl rfl)) (λb=>q4_) (λb=>ji_ aaj_ (pv 0) qg_ (qt_ _))) qb_))) (qf_ x3_) qz_)
  (qe_ (qX_ (zz_ (qp_ (v2_ rfl) rfl ma EW (qa_ (qO_ (N':=bRb2) (src:=[none,none]) rfl (vp_ .tup .tup rfl mz (qa_ (pv 0) (qa_ (za_ akt_ (pv 0) (zj_ qg_) zw_) qb_))) (ze_ (qh_ sRbr) nRb (by decide +kernel))
    (λb=>qU_ rfl (ql_ (qj_ (i:=0) aj4_ rfl (Or.inl rfl)) (ql_ (qj_ (i:=1) aj4_ rfl (Or.inl rfl)) qF_))) (λb=>q4_) (λb=>ji_ j9_ (pv 1) (pv 0) (qt_ _))) qb_))) (qf_ x3_) qz_)
  (qf_ (qX_ (qy_ j9_ (qp_ (afq_ rfl) rfl ms EX (qa_ (pv 0) qb_)) (zf_ (v:=.int 8) rfl gU ⟨_,rfl⟩) (qt_ _)) (qf_ x3_) qz_))),?_⟩
 refine⟨_,rfl,p,rfl,⟨_,SqT.of hp⟩,λbk D hD=>?_⟩
 refine jq_ (α:=Bool) hD (SqT.of hp) (λσ=>∃c,σ=[c]) (λi=>(r[i]?).bind λx=>some (decide (x<1))) (qr_ (by rw[AA];omega)) ?_ ?_ ?_
 ·exact⟨_,rfl⟩
 ·rintro i v σ H2 Yes No hv ⟨c,rfl⟩ s3 yes no
  obtain⟨x,hx,rfl⟩:∃x,r[i]?=some x/\V.int x=v:=by
   rw[AT]at hv
   cases e:r[i]? with
   |none=>rw[e]at hv;cases hv
   |some y=>rw[e]at hv;exact⟨y,rfl,AW hv⟩
  refine zE_ ?_
  refine⟨_,rfl,_,_,rfl,rfl,?_⟩
  exact yes _ _ _ _ ⟨_,rfl⟩ (λ_ _ e=>e) (by rw[hx];rfl) rfl
 rintro H1 s1 ⟨ws,eD,iD⟩
 have e0:(List.range (r.map V.int).length).filterMap (λi=>(r[i]?).bind λx=>some (decide (x<1)))=r.map λx=>decide (x<1):=by
  rw[AA,qT_,Aq]
 rw[jX_ iD,e0]at eD
 refine⟨D,_,rfl,SqL.of eD,_,rfl,?_⟩
 rw[alg_]
 cases c1:r.all λx=>decide (1<=x) with
 |false=>exact z9_ (e (by unfold xA_;rw[c1];rfl))
 |true =>
 refine zb_ ?_
 have hp1:=s1 _ _ hp
 refine⟨_,rfl,_,rfl,1,rfl,p,r,rfl,rfl,rfl,hp1,λt H2 s2 ht=>⟨p,t,rfl,⟨_,SqT.of (s2 _ _ hp1)⟩,⟨_,SqT.of ht⟩,λbk2 D2 hD2=>?_⟩⟩
 refine yZ_ (α:=Bool) (k1:=.tup) (k2:=.tup) hD2 (SqT.of (s2 _ _ hp1)) (SqT.of ht) (λσ=>∃c d,σ=[c,d]) (λi=>some (decide (r.getD i 0<r.getD (i+1) 0))) (qr_ (by rw[AA,AA];omega)) ?_ ?_ ?_
 ·exact⟨_,_,rfl⟩
 ·rintro i x y p2 σ H3 Yes No hx hy h2 ⟨c,d,rfl⟩ s3 yes no
  obtain⟨rfl,_⟩:=afx_ hx
  obtain⟨rfl,_⟩:=afx_ hy
  refine⟨p2,_,rfl,SqT.of qc_,rfl,_,_,rfl,_,_,rfl,rfl,?_⟩
  refine yN_ ?_
  refine⟨_,rfl,_,rfl,_,_,rfl,rfl,?_⟩
  refine yes _ _ _ _ ⟨_,_,rfl⟩ (qd_ h2 _) rfl ?_
  show V.bl (decide (r.getD i 0<(r.drop 1).getD i 0))=V.bl (decide (r.getD i 0<r.getD (i+1) 0))
  rw[show(r.drop 1).getD i 0=r.getD (i+1) 0 by rw[AK,Dd,AK,Ep 1 i]]
 rintro H4 s4 ⟨ws2,eD2,iD2⟩
 have e1:(List.range (min (r.map V.int).length ((r.drop 1).map V.int).length)).filterMap (λi=>some (decide (r.getD i 0<r.getD (i+1) 0)))=(List.range (r.length-1)).map λi=>decide (r.getD i 0<r.getD (i+1) 0):=by
  rw[AA,AA,A0,Cn (by omega),Aq]
 rw[jX_ iD2,e1]at eD2
 have s14:=s1.trans (s2.trans s4)
 refine⟨D2,_,rfl,SqL.of eD2,_,rfl,?_⟩
 rw[ais_]
 cases c2:(List.range (r.length-1)).all λi=>decide (r.getD (i+1) 0<=r.getD i 0) with
 |false=>exact z9_ (e (by unfold xA_;rw[c1,c2];rfl))
 |true =>
 refine zb_ ?_
 refine⟨_,rfl,p,r,rfl,SqT.of (s14 _ _ hp),_,_,rfl,rfl,_,rfl,?_⟩
 by_cases c3:8<r.sum
 ·exact x4_ c3 (e (by unfold xA_;rw[c1,c2,decide_eq_false (by omega)];rfl))
 ·exact xw_ c3 (q _ s14)
abbrev nW:List Str:=["_law_found"]
theorem scW:FnScope nW ["_law_found"] (qh_ abx_):=⟨rfl,rfl,rfl,by decide +kernel,rfl,by decide +kernel,by decide +kernel⟩
def vP_:Sp:=λvs H Q _=>∃n:Int,vs=[.int n]/\Q (.bl true) H
theorem ahw_(F:Fun K "_law_whole" "_law_whole" abx_ f fd)(mi:mg "isinstance" = none)(m1:mg "int" = none)(m2:mg "bool" = none):FnOk P w K mg base CX0 2 f fd ["_law_found"] vP_:=by
 refine F.ok scW (λvs H Q E h=>?_) (λcdv A outer s H vs Q E hr h=>?_)
 ·obtain⟨n,rfl,_⟩:=h
  rfl
 obtain⟨n,rfl,q⟩:=h
 refine⟨_,qf_ (qn_ (ab3_ (qp_ z0_ rfl mi AU (qa_ (pv 0) (qa_ (jS_ (v:=.ty "int") rfl m1 EY rfl) qb_)))
  (ab7_ (amg_ (qp_ z0_ rfl mi AU (qa_ (pv 0) (qa_ (jS_ (v:=.ty "bool") rfl m2 PyProof.Rows.boot_bool rfl) qb_))))))),?_⟩
 exact⟨_,rfl,_,_,_,_,rfl,TyOf.int _,xy_ _ _,_,rfl,z9_ ⟨_,rfl,_,_,_,_,rfl,TyOf.int _,abf_ _,_,rfl,q⟩⟩
abbrev nC:List Str:=["_law_script", "_law_k"]
theorem scC:FnScope nC nC (qh_ adz_):=⟨rfl,rfl,rfl,by decide +kernel,rfl,by decide +kernel,by decide +kernel⟩
def agm_(K:PySem.W.Frag):Sp:=λvs H Q _=>∃(a:Addr)(ns:List Int)(k:Nat),vs=[.ref a,.int k]/\SqL K H a (ns.map V.int)/\Q (.int (jJ_ ns k)) H
theorem alh_(F:Fun K "_law_cell" "_law_cell" adz_ f fd)(ml:mg "len" = none):FnOk P w K mg base CX0 2 f fd nC (agm_ K):=by
 refine F.ok scC (λvs H Q E h=>?_) (λcdv A outer s H vs Q E hr h=>?_)
 ·obtain⟨a,ns,k,rfl,_⟩:=h
  rfl
 obtain⟨a,ns,k,rfl,hS,q⟩:=h
 refine⟨_,qe_ (qX_ (qy_ aaj_ (pv 1) (qp_ qI_ rfl ml BZ (qa_ (pv 0) qb_)) (qt_ _)) (qf_ (qn_ (qi_ zq_ (qG_ zO_ (pv 0) (pv 1) (λ_ _=>rfl)) qg_))) qz_)
  (qf_ (qn_ qg_)),?_⟩
 refine⟨_,rfl,_,rfl,a,_,rfl,.inl hS,_,_,rfl,rfl,_,rfl,?_⟩
 unfold jJ_ at q
 rw[AA]
 by_cases c:k<ns.length
 ·rw[if_pos c]at q
  refine x4_ (by omega) ⟨_,rfl,_,rfl,a,_,_,.int (ns.getD k 0),rfl,rfl,hS,?_,_,_,rfl,rfl,(by show(0:Int)<2147483647;decide),q⟩
  refine q8_ ?_
  rw[AT,AH c]
  simp [c]
 ·rw[if_neg c]at q
  exact xw_ (by omega) q
abbrev nT:List Str:=["_law_cell_here", "_law_k", "_law_many", "_law_number_here"]
theorem scT:FnScope nT ["_law_cell_here", "_law_k", "_law_many"] (qh_ acc_):=⟨rfl,rfl,rfl,by decide +kernel,rfl,by decide +kernel,by decide +kernel⟩
def yD_:Sp:=λvs H Q _=>∃c k m:Int,vs=[.int c,.int k,.int m]/\0<=k/\k<=100000/\0<m/\Q (.int (zS_ c k m)) H
theorem ah3_(F:Fun K "_law_thing" "_law_thing" acc_ f fd):FnOk P w K mg base CX0 2 f fd ["_law_cell_here", "_law_k", "_law_many"] yD_:=by
 refine F.ok scT (λvs H Q E h=>?_) (λcdv A outer s H vs Q E hr h=>?_)
 ·obtain⟨c,k,m,rfl,_⟩:=h
  rfl
 obtain⟨c,k,m,rfl,k0,k1,m0,q⟩:=h
 refine⟨_,qe_ (qm_ (i:=3) scT.nd rfl (Or.inl rfl) (qi_ zq_ (qi_ qM_ (qi_ qM_ (qi_ jY_ (qi_ zq_ (pv 0) qg_) qg_) (qi_ jY_ (qi_ jY_ qg_ (pv 1)) (pv 1))) (qi_ jY_ qg_ (pv 1))) qg_))
  (qf_ (qn_ (qi_ zq_ (qi_ zq_ (qi_ jY_ (pv 3) (pv 3)) qg_) (pv 2)))),?_⟩
 have z0:0<=(c%2147483647*48271+69621*k*k+7*k)%2147483629:=B1 _ (by decide)
 have z1:(c%2147483647*48271+69621*k*k+7*k)%2147483629<2147483629:=Bx _ (by decide)
 refine⟨_,rfl,_,_,rfl,rfl,(by show(0:Int)<2147483647;decide),_,_,rfl,rfl,.inr ⟨by decide,by decide⟩,_,rfl,_,_,rfl,rfl,.inl ⟨by decide,by decide⟩,_,rfl,_,_,rfl,rfl,.inr ⟨?_,?_⟩,_,_,rfl,rfl,_,rfl,_,_,rfl,rfl,.inl ⟨by decide,by decide⟩,_,_,rfl,rfl,_,_,rfl,rfl,(by show(0:Int)<2147483629;decide),?_⟩
 ·show -(2^64)<k;omega
 ·show k<2^64;omega
 refine⟨_,rfl,_,rfl,_,_,rfl,rfl,.inl ⟨?_,?_⟩,_,_,rfl,rfl,(by show(0:Int)<2147483587;decide),_,rfl,_,_,rfl,rfl,m0,q⟩
 ·show -(2^64)<_%_;omega
 ·show _%_<(2^64:Int);omega
abbrev nN:List Str:=["_law_cell_here", "_law_number_here"]
theorem scN:FnScope nN ["_law_cell_here"] (qh_ sNum):=⟨rfl,rfl,rfl,by decide +kernel,rfl,by decide +kernel,by decide +kernel⟩
def aj3_:Sp:=λvs H Q _=>∃c:Int,vs=[.int c]/\Q (.int (vR_ 57 c)) H
theorem an9_(F:Fun K "_law_number" "_law_number" sNum f fd):FnOk P w K mg base CX0 2 f fd ["_law_cell_here"] aj3_:=by
 refine F.ok scN (λvs H Q E h=>?_) (λcdv A outer s H vs Q E hr h=>?_)
 ·obtain⟨c,rfl,_⟩:=h
  rfl
 obtain⟨c,rfl,q⟩:=h
 refine⟨_,qe_ (qm_ (i:=1) scN.nd rfl (Or.inl rfl) (qi_ zq_ (qi_ xc_ (pv 0) qg_) (qi_ am7_ qg_ qg_)))
  (qe_ (qX_ (qy_ xB_ (qi_ zq_ (pv 0) qg_) qg_ (qt_ _)) (qf_ (qn_ (qi_ qZ_ (qi_ zq_ (pv 1) qg_) qg_))) qz_)
  (qe_ (qX_ (qy_ xB_ (qi_ zq_ (pv 0) qg_) qg_ (qt_ _)) (qf_ (qn_ (qi_ qZ_ qg_ (pv 1)))) qz_)
  (qf_ (qn_ (pv 1))))),?_⟩
 refine⟨_,rfl,_,_,rfl,rfl,⟨by decide,by decide⟩,_,_,rfl,rfl,⟨by decide,by decide,by decide⟩,_,_,rfl,rfl,(by show(0:Int)<10^57;decide),?_⟩
 refine⟨_,rfl,_,_,rfl,rfl,(by show(0:Int)<4;decide),rfl,_,rfl,?_⟩
 unfold vR_ at q
 refine ite2 (λe=>?_) (λe=>?_)
 ·have e':c%4=0:=by
   have:=of_decide_eq_true e
   injection this
  rw[if_pos e']at q
  exact⟨_,rfl,_,_,rfl,rfl,(by show(0:Int)<5;decide),_,_,rfl,rfl,q⟩
 have e':¬ c%4=0:=λz=>e (decide_eq_true (congrArg V.int z))
 rw[if_neg e']at q
 refine⟨_,rfl,_,_,rfl,rfl,(by show(0:Int)<4;decide),rfl,_,rfl,?_⟩
 refine ite2 (λe=>?_) (λe=>?_)
 ·have e'':c%4=1:=by
   have:=of_decide_eq_true e
   injection this
  rw[if_pos e'']at q
  exact⟨_,rfl,_,_,rfl,rfl,q⟩
 ·have e'':¬ c%4=1:=λz=>e (decide_eq_true (congrArg V.int z))
  rw[if_neg e'']at q
  exact⟨_,rfl,q⟩
abbrev pP:List Str:=["_law_cell_here", "_law_far", "_law_many", "_law_weight"]
abbrev nP:List Str:=["_law_cell_here", "_law_far", "_law_many", "_law_weight", "_law_found", "_law_left", "_law_k", "_law_turn"]
theorem scP:FnScope nP pP (qh_ sPow):=⟨rfl,rfl,rfl,by decide +kernel,rfl,by decide +kernel,by decide +kernel⟩
def ajo_:Sp:=λvs H Q _=>∃(c far w:Int)(n:Nat),vs=[.int c,.int far,.int n,.int w]/\1<=n/\n<=100/\0<=far/\far<=500/\0<=w/\w<=100000/\∀p H',Same H H'->H' p=some (.tup ((jj_ c far w n).map V.int))->Q (.ref p) H'
theorem any_(F:Fun K "_law_powers" "_law_powers" sPow f fd)(G:FnOk P w K mg base CX0 2 g gd ["_law_cell_here", "_law_k", "_law_many"] yD_)(bT:Binds K gd ["_law_cell_here", "_law_k", "_law_many"] [])(kT:PySem.W.keepIn K (.ref g)=true)(mT:mg "_law_thing" = some (.ref g))
  (mr:mg "range" = none) (mt:mg "tuple" = none):FnOk P w K mg base CX0 3 f fd pP ajo_:=by
 refine F.ok scP (λvs H Q E h=>?_) (λcdv A outer s H vs Q E hr h=>?_)
 ·obtain⟨c,far,w,n,rfl,_⟩:=h
  rfl
 obtain⟨c,far,w,n,rfl,n1,n2,f0,f1,w0,w1,q⟩:=h
 refine⟨_,qe_ (qm_ (i:=4) scP.nd rfl (Or.inl rfl) (qv_ qb_))
  (qe_ (qm_ (i:=5) scP.nd rfl (Or.inl rfl) (pv 3))
  (qe_ (qw_ Ah rfl (zm_ rfl mr (qa_ (pv 2) qb_)) (qj_ (i:=6) scP.nd rfl (Or.inl rfl))
   (qe_ (q2_ (z5_ Au As At qS_ (pv 4) (qa_ (zF_ G hr rfl mT kT bT .nil xa_ (qa_ (pv 0) (qa_ (qi_ qM_ (pv 1) (pv 6)) (qa_ (qi_ qM_ (pv 5) qg_) qb_)))) qb_)))
   (qf_ (qm_ (i:=5) scP.nd rfl (Or.inl rfl) (qi_ qZ_ (pv 5) (qG_ zO_ (pv 4) (yd_ xk_ qg_) (λ_ _=>rfl)))))))
  (qe_ (qX_ (qy_ xB_ (zF_ G hr rfl mT kT bT .nil xa_ (qa_ (pv 0) (qa_ (qi_ qM_ (pv 1) qg_) (qa_ qg_ qb_)))) qg_ (qt_ _))
   (qf_ (ago_ (qi_ qM_ (qG_ zO_ (pv 4) (yd_ xk_ qg_) (λ_ _=>rfl)) (pv 5)) (anl_ (pv 4) (yd_ xk_ qg_) ahn_))) qz_)
  (qe_ (qm_ (i:=7) scP.nd rfl (Or.inl rfl) (zF_ G hr rfl mT kT bT .nil xa_ (qa_ (pv 0) (qa_ (qi_ qM_ (pv 1) qg_) (qa_ (pv 2) qb_)))))
  (qf_ (qn_ (qN_ qQ_ rfl mt Av (qa_ (qi_ jb_ (za_ vv_ (pv 4) (zj_ (pv 7)) zw_) (za_ vv_ (pv 4) zw_ (zj_ (pv 7)))) qb_)))))))),?_⟩
 refine⟨(by show 0<=sizeLine;decide),λl hl=>?_⟩
 have s0:=qd_ hl (.lst [])
 refine⟨_,rfl,_,rfl,n,rfl,by omega,by omega,?_⟩
 refine zI_ (n:=(n:Int).toNat) (λi σ H'=>(∃c6 c7,σ=[some (.int c),some (.int far),some (.int n),some (.int w),some (.ref l),some (.int (q9_ c far w i).2),c6,c7])/\i<=n/\H' l=some (.lst ((q9_ c far w i).1.map V.int))/\Same H H') ?_ ?_ ?_
 ·exact⟨⟨_,_,rfl⟩,Ap _,qc_,s0⟩
 ·rintro i σ H1 hi ⟨⟨c6,c7,rfl⟩,i1,h1,s1⟩
  obtain⟨p1,p2,p3,p4⟩:=yb_ (c:=c) (far:=far) w0 i
  refine⟨_,rfl,.inl ⟨rfl,_,SqL.of h1⟩,?_⟩
  refine⟨_,rfl,_,rfl,_,rfl,_,_,rfl,rfl,_,rfl,_,_,rfl,rfl,c,far+(0+(i:Int)),_,rfl,by omega,by omega,by omega,?_⟩
  have e0:far+(0+(i:Int))=far+(i:Int):=by omega
  rw[e0]
  refine⟨l,_,_,rfl,rfl,h1,zn_ (by rw[AA,p1];omega),?_⟩
  refine⟨_,rfl,_,rfl,_,rfl,l,_,_,_,rfl,rfl,SqL.of qc_,ab8_ _ _,_,_,rfl,rfl,⟨_,_,rfl⟩,by omega,?_,?_⟩
  ·rw[qc_]
   show some (HO.lst _)=some (HO.lst (((q9_ c far w i).1++[_]).map V.int))
   rw[Ao]
   rfl
  ·intro b o e
   rw[qk_ (qq_ e hl)]
   exact s1 b o e
 ·rintro σ H1 ⟨⟨c6,c7,rfl⟩,_,h1,s1⟩
  have en:(n:Int).toNat=n:=by omega
  rw[en]at h1
  rw[en]
  obtain⟨p1,p2,p3,p4⟩:=yb_ (c:=c) (far:=far) w0 n
  obtain⟨l1,l2,l3⟩:=aa7_ (c:=c) (far:=far) w0 n1
  have fin:∀H2:Hp,H2 l=some (.lst ((zs_ c far w n).map V.int))->Same H H2->(tSeq (tAsg (ae3_ yD_ [] E0 (vg_ (x0_ 0) (vg_ (tOp (rI0 λi j=>V.int (i+j)) (x0_ 1) (tC (V.int 12))) (vg_ (x0_ 2) tNil)))) (zN_ 7))
    (tRet (tCB (λxs H Q=>∃p ys,xs=[.ref p]/\((SqL K H p ys/\∀l,H l=none->Q (.ref l) (upd H l (.tup ys)))∨(SqT K H p ys/\Q (.ref p) H))) (vg_ (tOp rCat (tSl (rSlL K) (x0_ 4) (aea_ (x0_ 7)) vC_) (tSl (rSlL K) (x0_ 4) vC_ (aea_ (x0_ 7)))) tNil)))) { nx:=λ_ H'=>Q .non H',rt:=Q }
    [some (.int c),some (.int far),some (.int n),some (.int w),some (.ref l),some (.int (q9_ c far w n).2),c6,c7] H2:=by
   intro H2 h2 s2
   have t0:=yK_ (c:=c) (k:=far+12) (show(0:Int)<(n:Int) by omega)
   have t1:=yU_ (c:=c) (k:=far+12) (show(0:Int)<(n:Int) by omega)
   refine⟨_,rfl,_,rfl,_,_,rfl,rfl,_,rfl,c,far+12,n,rfl,by omega,by omega,by omega,?_⟩
   obtain⟨t,ht⟩:∃t:Nat,zS_ c (far+12) n=t:=⟨(zS_ c (far+12) n).toNat,by omega⟩
   rw[ht]
   refine⟨_,rfl,_,rfl,_,rfl,l,_,rfl,SqL.of h2,λq1 hq1=>?_⟩
   have s3:=qd_ hq1 (.lst (zl_ ((zs_ c far w n).map V.int) (some (t:Int)) none))
   refine⟨_,rfl,_,rfl,_,rfl,l,_,rfl,SqL.of (s3 _ _ h2),λq2 hq2=>?_⟩
   have s4:=qd_ hq2 (.lst (zl_ ((zs_ c far w n).map V.int) none (some (t:Int))))
   refine⟨q1,q2,_,_,rfl,rfl,s4 _ _ qc_,qc_,?_,λq3 hq3=>?_⟩
   ·have z1:=jU_ ((zs_ c far w n).map V.int) (some (t:Int)) none
    have z2:=jU_ ((zs_ c far w n).map V.int) none (some (t:Int))
    rw[AA]at z1 z2
    exact qr_ (by omega)
   have s5:=qd_ hq3 (.lst (zl_ ((zs_ c far w n).map V.int) (some (t:Int)) none++zl_ ((zs_ c far w n).map V.int) none (some (t:Int))))
   refine⟨q3,_,rfl,.inl ⟨SqL.of qc_,λq4 hq4=>?_⟩⟩
   have s6:=qd_ hq4 (.tup (zl_ ((zs_ c far w n).map V.int) (some (t:Int)) none++zl_ ((zs_ c far w n).map V.int) none (some (t:Int))))
   refine q q4 _ (s2.trans (s3.trans (s4.trans (s5.trans s6)))) ?_
   rw[qc_,alq_,akv_]
   unfold jj_
   rw[ht,Ao,Cr,Dm]
   rfl
  refine⟨_,rfl,_,rfl,_,_,rfl,rfl,c,far+11,3,rfl,by omega,by omega,by decide,rfl,_,rfl,?_⟩
  refine ite2 (λe=>?_) (λe=>?_)
  ·have e':zS_ c (far+11) 3=0:=by
    have:=of_decide_eq_true e
    injection this
   have ne:(q9_ c far w n).1≠[]:=by intro z;rw[z]at p1;simp at p1;omega
   obtain⟨m,x,em⟩:∃m x,(q9_ c far w n).1=m++[x]:=⟨_,_,(BF ne).symm⟩
   rw[em,Ao]at h1
   refine⟨_,rfl,_,rfl,l,_,_,.int x,rfl,rfl,SqL.of h1,ab8_ _ _,_,rfl,_,_,rfl,rfl,_,rfl,_,rfl,l,_,_,_,rfl,rfl,h1,abz_ (by simp),?_⟩
   rw[List.map_singleton,ah7_]
   refine fin _ ?_ λb o e2=>?_
   ·rw[qc_]
    unfold zs_
    rw[if_pos e',em]
    unfold padd
    rw[Ee,Ef,Ao]
    rfl
   ·rw[qk_ (qq_ e2 hl)]
    exact s1 b o e2
  ·have e':¬ zS_ c (far+11) 3=0:=λz=>e (decide_eq_true (congrArg V.int z))
   refine fin H1 ?_ s1
   unfold zs_
   rw[if_neg e']
   exact h1
abbrev nU:List Str:=["_law_terms", "_law_counts", "_law_powers_here", "_law_number_here"]
abbrev bU:List Str:=["_law_powers_here", "_law_number_here"]
theorem ndU:bU.Nodup:=by decide +kernel
theorem scU:FnScope nU ["_law_terms"] (qh_ sSum):=⟨rfl,rfl,rfl,by decide +kernel,rfl,by decide +kernel,by decide +kernel⟩
def xE_:Sp:=λvs H Q _=>∃(a:Addr)(ts:List Mon),vs=[.ref a]/\LstAt H a ts/\ts.length<=100000/\∀(l:Addr)(H':Hp),H l=none->Same H H'->LstAt H' l (norm ts)->Q (.ref l) H'
theorem ang_(F:Fun K "_law_sum" "_law_sum" sSum f fd)(ms:mg "sorted" = none):FnOk P w K mg base CX0 2 f fd ["_law_terms"] xE_:=by
 refine F.ok scU (λvs H Q E h=>?_) (λcdv A outer s H vs Q E hr h=>?_)
 ·obtain⟨a,ts,rfl,_⟩:=h
  rfl
 obtain⟨a,ts,rfl,hL,hlen,q⟩:=h
 have hu:=aee_ hr
 have h8:=hu8 hr
 refine⟨_,qe_ (qm_ (i:=1) scU.nd rfl (Or.inl rfl) yQ_)
  (qe_ (qw_ Ah rfl (qu_ (pv 0)) (qU_ rfl (ql_ (qj_ (i:=2) scU.nd rfl (Or.inl rfl)) (ql_ (qj_ (i:=3) scU.nd rfl (Or.inl rfl)) qF_)))
   (qf_ (vQ_ hu (pv 1) (pv 2) (qi_ qM_ (aa2_ hu (pv 1) (pv 2) qg_ ⟨rfl,rfl,rfl,rfl⟩) (pv 3)) rfl)))
  (qf_ (qn_ (vi_ (α:=Mon) rfl h8 rfl ms (qa_ (qO_ (N':=bU) (src:=[none,none]) rfl (ahq_ (pv 1)) (ze_ (qh_ sSum) nU (by decide +kernel))
   (λb=>qU_ rfl (ql_ (qj_ (i:=0) ndU rfl (Or.inl rfl)) (ql_ (qj_ (i:=1) ndU rfl (Or.inl rfl)) qF_)))
   (λb=>xM_ (qy_ aar_ (pv 1) qg_ (qt_ _)))
   (λb=>qs_ (qa_ (pv 0) (qa_ (pv 1) qb_)))) qb_))))),?_⟩
 intro d hd
 obtain⟨vs,eL,iL⟩:=hL
 have lv:=AL iL
 have s0:Same H (upd H d (.dT [])):=qd_ hd _
 refine⟨_,rfl,a,rfl,⟨vs,SqL.of (s0 _ _ eL)⟩,?_⟩
 refine qE_ (xs:=vs) (λi σ H'=>(∃c2 c3,σ=[some (.ref a),some (.ref d),c2,c3])/\H' d=some (.dT (toK (q1_ (ts.take i))))/\Same H H') ?_ ?_ ?_ ?_
 ·exact⟨⟨_,_,rfl⟩,qc_,s0⟩
 ·rintro i σ H1 _ ⟨_,_,s1⟩
  exact SqL.of (s1 _ _ eL)
 ·rintro i x σ H1 hx ⟨⟨c2,c3,rfl⟩,h1,s1⟩
  obtain⟨t,ht,hi⟩:=qD_ iL hx
  obtain⟨p,k,rfl,hp,hk⟩:=q7_ hi
  have hk1:=s1 _ _ hk
  refine⟨p,_,rfl,SqT.of (s1 _ _ hp),rfl,_,_,rfl,_,_,rfl,rfl,?_⟩
  have g:=DGet.t (k:=t.1.map Sum.inl) h1 (by rw[j1_];exact hk1)
  rw[vB_]at g
  refine⟨_,rfl,d,rfl,.inr ⟨_,.inl h1⟩,_,rfl,_,g,_,rfl,(zC_ (q1_ (ts.take i)) t.1).getD 0,t.2,?_,rfl,_,rfl,_,rfl,d,_,rfl,DPut.t (k:=t.1.map Sum.inl) h1 (by rw[j1_];exact hk1) ?_,?_⟩
  ·cases zC_ (q1_ (ts.take i)) t.1<;>rfl
  ·rw[vA_]
   have:=x1_ (ts.take i)
   rw[AS]at this
   exact zn_ (by omega)
  ·refine⟨⟨_,_,rfl⟩,?_,λb o e=>?_⟩
   ·rw[qH_ ht,jv_,<-adh_]
    exact qc_
   ·rw[qk_ (qq_ e hd)]
    exact s1 b o e
 ·rintro σ H1 ⟨⟨c2,c3,rfl⟩,h1,s1⟩
  rw[AN (by omega)]at h1
  have dl:=x1_ ts
  refine⟨_,rfl,d,q1_ ts,rfl,h1,λo b D hD=>?_⟩
  have hd1:(upd H1 d (.frz o (.dT (toK (q1_ ts))))) d=some (.frz o (.dT (toK (q1_ ts)))):=qc_
  have s2:Same H (upd H1 d (.frz o (.dT (toK (q1_ ts))))):=λb u e=>by
   rw[qk_ (qq_ e hd)]
   exact s1 b u e
  refine ae2_ (α:=Mon) hD hd1 (λσ=>∃c e,σ=[c,e]) (λi=>((q1_ ts)[i]?).bind λt=>if t.2≠0 then some t else none) (qr_ (by omega)) ?_ ?_ ?_
  ·exact⟨_,_,rfl⟩
  ·rintro i t p k σ H2 Yes No ht hp hk ⟨c,e,rfl⟩ s3 yes no
   have s4:=qd_ hp (.tup [.ref k,.int t.2])
   refine⟨p,_,rfl,SqT.of qc_,rfl,_,_,rfl,_,_,rfl,rfl,?_⟩
   refine⟨_,rfl,rfl,_,rfl,?_⟩
   by_cases c0:t.2=0
   ·have e0:(!decide (V.int t.2=V.int 0))=false:=by rw[decide_eq_true (congrArg V.int c0)];rfl
    rw[e0]
    refine zb_ ?_
    exact no _ _ ⟨_,_,rfl⟩ s4 (by rw[ht,CU,if_neg (by simpa using c0)])
   ·have e0:(!decide (V.int t.2=V.int 0))=true:=by
     rw[decide_eq_false (λz=>c0 (by injection z))]
     rfl
    rw[e0]
    refine z9_ ⟨_,rfl,_,rfl,(by show 2<=sizeLine;decide),λr hr=>?_⟩
    have s5:=qd_ hr (.tup [.ref k,.int t.2])
    exact yes _ _ _ t ⟨_,_,rfl⟩ (s4.trans s5) (by rw[ht,CU,if_pos (by simpa using c0)]) (q5_ qc_ (s5 _ _ (s4 _ _ hk)))
  ·intro H2 s3 hL
   refine⟨D,_,rfl,hL,λ_ _=>True.intro,λp vs' l' hp pm so it=>?_⟩
   refine q p _ (s2.free (s3.free hp)) (s2.trans (s3.trans (qd_ hp _))) ⟨vs',qc_,?_⟩
   have e:l'=norm ts:=by
    refine ah1_ ?_ so
    rw[qT_,zW_ (λt:Mon=>t.2≠0) (λt=>t),List.map_id']at pm
    exact pm
   rw[<-e]
   exact Its.mono (yR_ hp _) it
abbrev nM:List Str:=["_law_found", "_law_due_here", "_law_one", "_law_other"]
abbrev bM:List Str:=["_law_number_here"]
theorem ndM:bM.Nodup:=by decide +kernel
theorem scM:FnScope nM ["_law_found", "_law_due_here"] (qh_ aal_):=⟨rfl,rfl,rfl,by decide +kernel,rfl,by decide +kernel,by decide +kernel⟩
def afz_:Sp:=λvs H Q _=>∃(a b:Addr)(ts:List Mon),vs=[.ref a,.ref b]/\LstAt H a ts/\LstAt H b ts/\ts.length<=100000/\(∀t∈ts,t.1.length<=100)/\∀H',Same H H'->Q (.bl true) H'
theorem alo_(F:Fun K "_law_same" "_law_same" aal_ f fd)(G:FnOk P w K mg base CX0 2 g gd ["_law_found"] vP_)(bW:Binds K gd ["_law_found"] [])(kW:PySem.W.keepIn K (.ref g)=true)(mW:mg "_law_whole" = some (.ref g))
  (mi:mg "isinstance" = none) (ml:mg "list" = none) (mt:mg "tuple" = none) (mn:mg "len" = none) (mz:mg "zip" = none) (ma:mg "all" = none):FnOk P w K mg base CX0 3 f fd ["_law_found", "_law_due_here"] afz_:=by
 refine F.ok scM (λvs H Q E h=>?_) (λcdv A outer s H vs Q E hr h=>?_)
 ·obtain⟨a,b,ts,rfl,_⟩:=h
  rfl
 obtain⟨a,b,ts,rfl,⟨vs,eL,iL⟩,⟨vs2,eL2,iL2⟩,hlen,hpl,q⟩:=h
 refine⟨_,qe_ (qX_ (PW.pt (j7_ (ja_ (zz_ (qp_ z0_ rfl mi AU (qa_ (pv 0) (qa_ (jS_ (v:=.ty "list") rfl ml B5 rfl) qb_)))))
   (jV_ (qy_ aar_ (qp_ qI_ rfl mn BZ (qa_ (pv 0) qb_)) (qp_ qI_ rfl mn BZ (qa_ (pv 1) qb_)) (qt_ _))))) (qf_ (qn_ jn_)) qz_)
  (qe_ (qw_ Ah rfl (vp_ .lst .lst rfl mz (qa_ (pv 0) (qa_ (pv 1) qb_))) (qU_ rfl (ql_ (qj_ (i:=2) scM.nd rfl (Or.inl rfl)) (ql_ (qj_ (i:=3) scM.nd rfl (Or.inl rfl)) qF_)))
   (qe_ (qX_ (PW.pt (j7_ (ja_ (zz_ (qp_ z0_ rfl mi AU (qa_ (pv 2) (qa_ (jS_ (v:=.ty "tuple") rfl mt Av rfl) qb_)))))
     (j7_ (qy_ aar_ (qp_ qI_ rfl mn BZ (qa_ (pv 2) qb_)) qg_ (qt_ _))
     (jV_ (ja_ (zz_ (qp_ z0_ rfl mi AU (qa_ (qG_ q0_ (pv 2) qg_ (λ_ _=>rfl)) (qa_ (jS_ (v:=.ty "tuple") rfl mt Av rfl) qb_))))))))) (qf_ (qn_ jn_)) qz_)
   (qe_ (qX_ (PW.pt (j7_ (ja_ (zz_ (zF_ G hr rfl mW kW bW .nil xa_ (qa_ (qG_ q0_ (pv 2) qg_ (λ_ _=>rfl)) qb_))))
     (jV_ (ja_ (zz_ (qp_ (yo_ rfl) rfl ma DJ (qa_ (qO_ (N':=bM) (src:=[none]) rfl (jF_ (qG_ q0_ (pv 2) qg_ (λ_ _=>rfl))) (ze_ (qh_ aal_) nM (by decide +kernel))
      (λb=>qj_ (i:=0) ndM rfl (Or.inl rfl)) (λb=>q4_) (λb=>zF_ G hr rfl mW kW bW .nil xa_ (qa_ (pv 0) qb_))) qb_))))))) (qf_ (qn_ jn_)) qz_)
   (qf_ (qX_ (qy_ (aoj_ (α:=List Int) (β:=Int) (BD (Bh (by decide:max (Dat.dep (α:=List Int)) (Dat.dep (α:=Int))+1<=64) _) hr.units)) (pv 2) (pv 3) (qt_ _)) (qf_ (qn_ jn_)) qz_)))))
  (qf_ (qn_ jn_))),?_⟩
 have l1:=AL iL
 have l2:=AL iL2
 refine⟨_,rfl,_,_,_,_,rfl,TyOf.lst eL,xy_ _ _,_,rfl,zb_ ?_⟩
 refine⟨_,rfl,a,_,rfl,.inl (SqL.of eL),_,rfl,b,_,rfl,.inl (SqL.of eL2),rfl,_,rfl,ajh_ (by rw[l1,l2]) ?_⟩
 refine⟨_,rfl,_,rfl,a,b,rfl,⟨_,SqL.of eL⟩,⟨_,SqL.of eL2⟩,?_⟩
 refine alf_ (xs:=vs) (ys:=vs2) (λi σ H'=>(∃c2 c3,σ=[some (.ref a),some (.ref b),c2,c3])/\Same H H') ?_ ?_ ?_ ?_
 ·exact⟨⟨_,_,rfl⟩,Same.refl _⟩
 ·rintro i σ H1 ⟨_,s1⟩
  exact⟨SqL.of (s1 _ _ eL),SqL.of (s1 _ _ eL2)⟩
 ·rintro i x y p σ H1 hx hy hp1 ⟨⟨c2,c3,rfl⟩,s1⟩
  obtain⟨t,ht,hi⟩:=qD_ iL hx
  obtain⟨t',ht',hi'⟩:=qD_ iL2 hy
  rw[ht]at ht'
  cases ht'
  have s2:=s1.trans (qd_ hp1 (.tup [x,y]))
  have d1:=Dat.mono (Tups.same s2) hi
  have d2:=Dat.mono (Tups.same s2) hi'
  refine⟨p,_,rfl,SqT.of qc_,rfl,_,_,rfl,_,_,rfl,rfl,?_⟩
  obtain⟨px,k,rfl,hpx,hk⟩:=q7_ d1
  refine⟨_,rfl,_,_,_,_,rfl,TyOf.tup hpx,xy_ _ _,_,rfl,zb_ ?_⟩
  refine⟨_,rfl,px,_,rfl,.inr (SqT.of hpx),rfl,_,rfl,ajh_ rfl ?_⟩
  refine⟨_,rfl,px,_,_,_,rfl,rfl,SqT.of hpx,q8_ (j:=0) rfl,_,_,_,_,rfl,TyOf.tup hk,xy_ _ _,_,rfl,zb_ ?_⟩
  refine⟨_,rfl,px,_,_,_,rfl,rfl,SqT.of hpx,q8_ (j:=1) rfl,t.2,rfl,_,rfl,zb_ ?_⟩
  refine⟨_,rfl,px,_,_,_,rfl,rfl,SqT.of hpx,q8_ (j:=0) rfl,k,rfl,⟨_,SqT.of hk⟩,λbk D hD=>?_⟩
  refine jq_ (α:=Bool) hD (SqT.of hk) (λσ=>∃c,σ=[c]) (λi=>(t.1[i]?).bind λ_=>some true) (qr_ (by rw[AA];have:=hpl t (AY ht);omega)) ?_ ?_ ?_
  ·exact⟨_,rfl⟩
  ·rintro j z σ H2 Yes No hz ⟨c,rfl⟩ s3 yes no
   rw[AT]at hz
   obtain⟨n,hn,rfl⟩:=DC.mp hz
   refine zE_ ?_
   refine⟨_,rfl,n,rfl,?_⟩
   exact yes _ _ _ true ⟨_,rfl⟩ (Same.refl _) (by rw[hn];rfl) rfl
  ·rintro H2 s3 ⟨ws,eD,iD⟩
   have e:(List.range (t.1.map V.int).length).filterMap (λi=>(t.1[i]?).bind λ_=>some true)=t.1.map λ_=>true:=by
    rw[AA,qT_,Aq]
   rw[e]at iD
   rw[jX_ iD]at eD
   refine⟨D,_,rfl,SqL.of eD,?_⟩
   have ea:(t.1.map λ_=>true).all id=true:=by simp
   rw[ea]
   refine⟨_,rfl,zb_ ?_⟩
   refine⟨_,rfl,_,rfl,t,t,Dat.mono (Tups.same s3) d1,Dat.mono (Tups.same s3) d2,_,rfl,?_⟩
   rw[(Dat.eqb_iff t t).mpr rfl]
   exact zb_ ⟨⟨_,_,rfl⟩,s2.trans s3⟩
 ·rintro σ H1 ⟨⟨c2,c3,rfl⟩,s1⟩
  exact q H1 s1
abbrev nMu:List Str:=["one", "other", "terms", "powers", "number", "more", "often"]
abbrev bMu:List Str:=["power", "added"]
theorem ndMu:bMu.Nodup:=by decide +kernel
theorem scMu:FnScope nMu ["one", "other"] (qh_ sMul):=⟨rfl,rfl,rfl,by decide +kernel,rfl,by decide +kernel,by decide +kernel⟩
def ad0_:Sp:=λvs H Q _=>∃(a b:Addr)(n d e x y:Nat)(ts us:List Mon),vs=[.ref a,.ref b]/\LstAt H a ts/\LstAt H b us/\Deg n d x ts/\Deg n e y us/\1<=n/\n<=4/\x<=100000/\y<=100000/\ts.length*us.length<=40000 /\
 ∀(l:Addr)(H':Hp),H l=none->Same H H'->LstAt H' l (norm (prd ts us))->Q (.ref l) H'
theorem v3_(p q:Pw)(h:p.length=q.length):(List.range (min (p.map V.int).length (q.map V.int).length)).filterMap (λi=>some (p.getD i 0+q.getD i 0))=pad p q:=by
 rw[Aq,AA,AA,<-h,Ds]
 refine Cf λi=>?_
 unfold pad
 rw[AT,List.getElem?_zipWith]
 by_cases c:i<p.length
 ·rw[CY c,AH c,AH (by omega:i<q.length)]
  simp [c,(by omega:i<q.length)]
 ·rw[CJ (by rw[BI];omega),CJ (by omega:p.length<=i)]
  rfl
theorem abr_(a b:List Mon)(t:Mon):prd (a++[t]) b=prd a b++b.map λu=>(pad t.1 u.1,t.2*u.2):=by
 unfold prd
 rw[Bi,Be]
theorem al3_(F:Fun K "multiplied" "multiplied" sMul f fd)(GG:Has P w K mg base 2 "gathered" ["terms"] yn_)(mt:mg "tuple" = none)(mz:mg "zip" = none):FnOk P w K mg base CX0 3 f fd ["one", "other"] ad0_:=by
 refine F.ok scMu (λvs H Q E h=>?_) (λcdv A outer s H vs Q E hr h=>?_)
 ·obtain⟨a,b,n,d,e,x,y,ts,us,rfl,_⟩:=h
  rfl
 obtain⟨a,b,n,d,e,x,y,ts,us,rfl,hA,hB,ga,gb,n1,n4,hx1,hy1,hml,q⟩:=h
 refine⟨_,qe_ (qm_ (i:=2) scMu.nd rfl (Or.inl rfl) (qv_ qb_))
  (qe_ (qw_ Ah rfl (qu_ (pv 0)) (qU_ rfl (ql_ (qj_ (i:=3) scMu.nd rfl (Or.inl rfl)) (ql_ (qj_ (i:=4) scMu.nd rfl (Or.inl rfl)) qF_)))
   (qf_ (qw_ Ah rfl (qu_ (pv 1)) (qU_ rfl (ql_ (qj_ (i:=5) scMu.nd rfl (Or.inl rfl)) (ql_ (qj_ (i:=6) scMu.nd rfl (Or.inl rfl)) qF_)))
    (qf_ (q2_ (z5_ Au As At qS_ (pv 2) (qa_ (qs_ (qa_
     (qN_ qQ_ rfl mt Av (qa_ (qO_ (N':=bMu) (src:=[none,none]) rfl
      (vp_ .tup .tup rfl mz (qa_ (pv 3) (qa_ (pv 5) qb_))) (ze_ (qh_ sMul) nMu (by decide +kernel))
      (λb=>qU_ rfl (ql_ (qj_ (i:=0) ndMu rfl (Or.inl rfl)) (ql_ (qj_ (i:=1) ndMu rfl (Or.inl rfl)) qF_)))
      (λb=>q4_)
      (λb=>qi_ qM_ (pv 0) (pv 1))) qb_))
     (qa_ (qi_ adt_ (pv 4) (pv 6)) qb_))) qb_)))))))
  (qf_ (qn_ (qo_ GG hr rfl (qa_ (pv 2) qb_))))),?_⟩
 obtain⟨vs,eA,iA⟩:=id hA
 obtain⟨ws,eB,iB⟩:=id hB
 have lva:=AL iA
 have lvb:=AL iB
 refine⟨(by show 0<=sizeLine;decide),λl hl0=>?_⟩
 have s0:=qd_ hl0 (.lst [])
 refine⟨_,rfl,a,rfl,⟨vs,SqL.of (s0 _ _ eA)⟩,?_⟩
 refine qE_ (xs:=vs) (λi σ H'=>(∃c3 c4 c5 c6,σ=[some (.ref a),some (.ref b),some (.ref l),c3,c4,c5,c6])/\LstAt H' l (prd (ts.take i) us)/\Same H H') ?_ ?_ ?_ ?_
 ·exact⟨⟨_,_,_,_,rfl⟩,⟨[],qc_,.nil⟩,s0⟩
 ·rintro i σ H1 _ ⟨_,_,s1⟩
  exact SqL.of (s1 _ _ eA)
 ·rintro i v σ H1 hv ⟨⟨c3,c4,c5,c6,rfl⟩,hL,s1⟩
  obtain⟨t,ht,hi⟩:=qD_ iA hv
  have hmt:=AY ht
  have lti:i<ts.length:=(AR.mp ht).1
  obtain⟨p,k1,rfl,hp,hk1⟩:=q7_ hi
  refine⟨p,_,rfl,SqT.of (s1 _ _ hp),rfl,_,_,rfl,_,_,rfl,rfl,?_⟩
  refine⟨_,rfl,b,rfl,⟨ws,SqL.of (s1 _ _ eB)⟩,?_⟩
  refine qE_ (xs:=ws) (λj σ H'=>(∃c5 c6,σ=[some (.ref a),some (.ref b),some (.ref l),some (.ref k1),some (.int t.2),c5,c6])/\LstAt H' l (prd (ts.take i) us++(us.take j).map λu=>(pad t.1 u.1,t.2*u.2))/\Same H H') ?_ ?_ ?_ ?_
  ·refine⟨⟨_,_,rfl⟩,?_,s1⟩
   rw[Bn,Bw,Ax]
   exact hL
  ·rintro j σ H2 _ ⟨_,_,s2⟩
   exact SqL.of (s2 _ _ eB)
  ·rintro j w2 σ H2 hw ⟨⟨c5,c6,rfl⟩,⟨zs,eZ,iZ⟩,s2⟩
   obtain⟨u,hu,hj⟩:=qD_ iB hw
   have hmu:=AY hu
   have luj:j<us.length:=(AR.mp hu).1
   have lz:=AL iZ
   rw[AE,xg_,AA,AS,AS,BQ (by omega),BQ (by omega)]at lz
   have lz2:zs.length<=40000:=by
    have z1:i*us.length+j<(i+1)*us.length:=by rw[Cg];omega
    have z2:(i+1)*us.length<=ts.length*us.length:=Bz _ lti
    omega
   have hlu:t.1.length=u.1.length:=by rw[ga.len t hmt,gb.len u hmu]
   obtain⟨p',k2,rfl,hp',hk2⟩:=q7_ hj
   refine⟨p',_,rfl,SqT.of (s2 _ _ hp'),rfl,_,_,rfl,_,_,rfl,rfl,?_⟩
   refine⟨_,rfl,.inl ⟨rfl,_,SqL.of eZ⟩,?_⟩
   refine⟨_,rfl,_,rfl,k1,k2,rfl,⟨_,SqT.of (s2 _ _ hk1)⟩,⟨_,SqT.of (s2 _ _ hk2)⟩,λbk D hD=>?_⟩
   refine yZ_ (α:=Int) (k1:=.tup) (k2:=.tup) hD (SqT.of (s2 _ _ hk1)) (SqT.of (s2 _ _ hk2)) (λσ=>∃c d,σ=[c,d]) (λi=>some (t.1.getD i 0+u.1.getD i 0)) (qr_ (by rw[AA,ga.len t hmt];omega)) ?_ ?_ ?_
   ·exact⟨_,_,rfl⟩
   ·rintro i x y p2 σ H2 Yes No hx hy h2 ⟨c,d,rfl⟩ s3 yes no
    obtain rfl:V.int (t.1.getD i 0)=x:=by
     rw[AT]at hx
     rw[AK]
     cases e:t.1[i]? with
     |none=>rw[e]at hx;cases hx
     |some c=>rw[e]at hx;exact AW hx
    obtain rfl:V.int (u.1.getD i 0)=y:=by
     rw[AT]at hy
     rw[AK]
     cases e:u.1[i]? with
     |none=>rw[e]at hy;cases hy
     |some c=>rw[e]at hy;exact AW hy
    refine⟨p2,_,rfl,SqT.of qc_,rfl,_,_,rfl,_,_,rfl,rfl,?_⟩
    refine yN_ ?_
    refine⟨_,rfl,_,rfl,_,_,rfl,rfl,?_⟩
    exact yes _ _ _ _ ⟨_,_,rfl⟩ (qd_ h2 _) rfl rfl
   rintro H3 s3 ⟨ys,eD,iD⟩
   rw[zp_ iD,v3_ _ _ hlu]at eD
   refine⟨D,_,rfl,.inl ⟨SqL.of eD,λr hr2=>?_⟩⟩
   have s4:=qd_ hr2 (.tup ((pad t.1 u.1).map V.int))
   refine⟨_,rfl,_,rfl,_,_,rfl,rfl,⟨zY_ (ga.num t hmt) hx1,zY_ (gb.num u hmu) hy1⟩,(by show 2<=sizeLine;decide),λr2 h5=>?_⟩
   have s5:=qd_ h5 (.tup [.ref r,.int (t.2*u.2)])
   have s345:=s3.trans (s4.trans s5)
   have eZ3:=s345 _ _ eZ
   refine⟨l,zs,_,rfl,rfl,eZ3,zn_ (by omega),⟨_,_,rfl⟩,⟨zs++[.ref r2],qc_,?_⟩,λb' o e'=>?_⟩
   ·rw[qH_ hu,Ao,<-AX]
    have t6:∀o,Tups _ (upd _ l o):=λo r' ys e'=>by
     rw[qk_ (zA_ e' eZ3 (by intro z;cases z))];exact e'
    exact CF (Its.mono ((Tups.same s345).trans (t6 _)) iZ) (Dat.mono (t6 _) (q5_ (t:=(pad t.1 u.1,t.2*u.2)) qc_ (s5 _ _ qc_)))
   ·rw[qk_ (qq_ e' hl0)]
    exact s345 _ _ (s2 b' o e')
  ·rintro σ H2 ⟨⟨c5,c6,rfl⟩,hL2,s2⟩
   rw[AN (show us.length<=ws.length by omega)]at hL2
   refine⟨⟨_,_,_,_,rfl⟩,?_,s2⟩
   rw[qH_ ht,abr_]
   exact hL2
 ·rintro σ H1 ⟨⟨c3,c4,c5,c6,rfl⟩,hL,s1⟩
  rw[AN (by omega)]at hL
  refine⟨_,rfl,l,_,rfl,hL,ae7_ (ga.prd gb) n1,by rw[xg_];omega,λr H2 hr s2 h2=>?_⟩
  exact q r H2 (s1.free hr) (s1.trans s2) h2
theorem yv_(k:Nat):(List.replicate k [(0:Int)]).flatten=List.replicate k 0:=by
 induction k with
 |zero=>rfl
 |succ k ih=>rw[Ar,BV,ih,Ar];rfl
abbrev nPr:List Str:=["many", "factors", "result", "factor"]
theorem scPr:FnScope nPr ["many", "factors"] (qh_ sPr):=⟨rfl,rfl,rfl,by decide +kernel,rfl,by decide +kernel,by decide +kernel⟩
def prL(n:Nat)(fs:List (List Mon)):List Mon:=fs.foldl (λacc f=>norm (prd acc f)) [(List.replicate n 0,1)]
theorem aig_(n:Nat)(fs:List (List Mon))(f:List Mon):prL n (fs++[f])=norm (prd (prL n fs) f):=by
 unfold prL
 rw[B9]
 rfl
def ajt_:Sp:=λvs H Q _=>∃(n:Nat)(a:Addr)(xs:List Addr)(fs:List (List Mon)),vs=[.int n,.ref a]/\1<=n/\n<=4/\H a=some (.lst (xs.map V.ref))/\Paired (λx f=>LstAt H x f) xs fs/\(∀i f,fs[i]?=some f->Deg n 100 1000 (prL n (fs.take i))/\Deg n 100 1000 f/\(prL n (fs.take i)).length*f.length<=40000) /\
 ∀(l:Addr)(H':Hp),H l=none->Same H H'->LstAt H' l (prL n fs)->Q (.ref l) H'
theorem al8_(F:Fun K "product" "product" sPr f fd)(GM:Has P w K mg base 3 "multiplied" ["one", "other"] ad0_):FnOk P w K mg base CX0 4 f fd ["many", "factors"] ajt_:=by
 refine F.ok scPr (λvs H Q E h=>?_) (λcdv A outer s H vs Q E hr h=>?_)
 ·obtain⟨n,a,xs,fs,rfl,_⟩:=h
  rfl
 obtain⟨n,a,xs,fs,rfl,n1,n4,ha,hx,hb,q⟩:=h
 refine⟨_,qe_ (qm_ (i:=2) scPr.nd rfl (Or.inl rfl) (qv_ (qa_ (qs_ (qa_ (qi_ jP_ (qs_ (qa_ qg_ qb_)) (pv 0)) (qa_ qg_ qb_))) qb_)))
  (qe_ (qw_ Ah rfl (qu_ (pv 1)) (qj_ (i:=3) scPr.nd rfl (Or.inl rfl)) (qf_ (qm_ (i:=2) scPr.nd rfl (Or.inl rfl) (qo_ GM hr rfl (qa_ (pv 2) (qa_ (pv 3) qb_))))))
  (qf_ (qn_ (pv 2)))),?_⟩
 have lx:=AL hx
 refine⟨(by show 1<=sizeLine;decide),λt0 h0=>?_⟩
 have s0:=qd_ h0 (.tup [.int 0])
 refine⟨_,rfl,t0,[0],_,rfl,rfl,qc_,by simp,by omega,by omega,qr_ (by show 1*_<=100000;omega),λt1 H1 s1 h1=>?_⟩
 rw[yv_,An]at h1
 refine⟨(by show 2<=sizeLine;decide),λt2 h2=>⟨(by show 1<=sizeLine;decide),λl0 h3=>?_⟩⟩
 have s2:=qd_ h2 (.tup [.ref t1,.int 1])
 have s3:=qd_ h3 (.lst [.ref t2])
 have sA:=s0.trans (s1.trans (s2.trans s3))
 refine⟨_,rfl,a,rfl,⟨_,SqL.of (sA _ _ ha)⟩,?_⟩
 refine qE_ (xs:=xs.map V.ref) (λi σ H'=>(∃(l:Addr)(c3:Option V),σ=[some (.int n),some (.ref a),some (.ref l),c3]/\LstAt H' l (prL n (fs.take i))/\H l=none)/\Same H H') ?_ ?_ ?_ ?_
 ·refine⟨⟨l0,_,rfl,⟨[.ref t2],qc_,.cons (q5_ (t:=(List.replicate n 0,1)) (s3 _ _ qc_) (s3 _ _ (s2 _ _ h1))) .nil⟩,s0.free (s1.free (s2.free h3))⟩,sA⟩
 ·rintro i σ H4 _ ⟨_,sH⟩
  exact SqL.of (sH _ _ ha)
 ·rintro i v σ H4 hv ⟨⟨l,c3,rfl,hL,fl⟩,sH⟩
  obtain⟨x,hxi,rfl⟩:∃x,xs[i]?=some x/\V.ref x=v:=by
   rw[AT]at hv
   cases e:xs[i]? with
   |none=>rw[e]at hv;cases hv
   |some y=>rw[e]at hv;exact⟨y,rfl,AW hv⟩
  obtain⟨k,hk,hLx⟩:=Paired.get hx hxi
  obtain⟨b1,b2,b3⟩:=hb i k hk
  refine⟨_,rfl,_,rfl,l,x,n,_,_,_,_,_,_,rfl,hL,hLx.mono sH,b1,b2,n1,n4,by decide,by decide,b3,λl5 H5 hl5 s5 h5=>?_⟩
  refine⟨⟨l5,_,rfl,?_,sH.free hl5⟩,sH.trans s5⟩
  rw[qH_ hk,aig_]
  exact h5
 ·rintro σ H4 ⟨⟨l,c3,rfl,hL,fl⟩,sH⟩
  rw[AA,AN (by omega)]at hL
  exact⟨_,rfl,q l H4 fl sH hL⟩
abbrev nLp:List Str:=["_law_one", "_law_other", "_law_terms", "_law_left", "_law_first", "_law_right", "_law_second"]
abbrev bLp:List Str:=["_law_a", "_law_b"]
theorem ndLp:bLp.Nodup:=by decide +kernel
theorem scLp:FnScope nLp ["_law_one", "_law_other"] (qh_ aak_):=⟨rfl,rfl,rfl,by decide +kernel,rfl,by decide +kernel,by decide +kernel⟩
def ag3_:Sp:=λvs H Q _=>∃(a b:Addr)(n d e x y:Nat)(ts us:List Mon),vs=[.ref a,.ref b]/\LstAt H a ts/\LstAt H b us/\Deg n d x ts/\Deg n e y us/\1<=n/\n<=4/\x<=100000/\y<=100000/\ts.length<=1000/\us.length<=24 /\
 ∀(l:Addr)(H':Hp),H l=none->Same H H'->LstAt H' l (norm (prd ts us))->Q (.ref l) H'
theorem aky_(F:Fun K "_law_product" "_law_product" aak_ f fd)(GG:Has P w K mg base 3 "_law_sum" ["_law_terms"] xE_)(mt:mg "tuple" = none)(mz:mg "zip" = none):FnOk P w K mg base CX0 4 f fd ["_law_one", "_law_other"] ag3_:=by
 refine F.ok scLp (λvs H Q E h=>?_) (λcdv A outer s H vs Q E hr h=>?_)
 ·obtain⟨a,b,n,d,e,x,y,ts,us,rfl,_⟩:=h
  rfl
 obtain⟨a,b,n,d,e,x,y,ts,us,rfl,hA,hB,ga,gb,n1,n4,hx1,hy1,la,lb,q⟩:=h
 refine⟨_,qe_ (qm_ (i:=2) scLp.nd rfl (Or.inl rfl) (qv_ qb_))
  (qe_ (qw_ Ah rfl (qu_ (pv 0)) (qU_ rfl (ql_ (qj_ (i:=3) scLp.nd rfl (Or.inl rfl)) (ql_ (qj_ (i:=4) scLp.nd rfl (Or.inl rfl)) qF_)))
   (qf_ (qw_ Ah rfl (qu_ (pv 1)) (qU_ rfl (ql_ (qj_ (i:=5) scLp.nd rfl (Or.inl rfl)) (ql_ (qj_ (i:=6) scLp.nd rfl (Or.inl rfl)) qF_)))
    (qf_ (q2_ (z5_ Au As At qS_ (pv 2) (qa_ (qs_ (qa_ (qN_ qQ_ rfl mt Av (qa_ (qO_ (N':=bLp) (src:=[none,none]) rfl
      (vp_ .tup .tup rfl mz (qa_ (pv 3) (qa_ (pv 5) qb_))) (ze_ (qh_ aak_) nLp (by decide +kernel))
     (λb=>qU_ rfl (ql_ (qj_ (i:=0) ndLp rfl (Or.inl rfl)) (ql_ (qj_ (i:=1) ndLp rfl (Or.inl rfl)) qF_))) (λb=>q4_) (λb=>qi_ qM_ (pv 0) (pv 1))) qb_)) (qa_ (qi_ adt_ (pv 4) (pv 6)) qb_))) qb_)))))))
  (qf_ (qn_ (qo_ GG hr rfl (qa_ (pv 2) qb_))))),?_⟩
 obtain⟨vs,eA,iA⟩:=id hA
 obtain⟨ws,eB,iB⟩:=id hB
 have lva:=AL iA
 have lvb:=AL iB
 have hml:ts.length*us.length<=40000:=Aj (EZ la lb) (by decide)
 refine⟨(by show 0<=sizeLine;decide),λl hl0=>?_⟩
 have s0:=qd_ hl0 (.lst [])
 refine⟨_,rfl,a,rfl,⟨vs,SqL.of (s0 _ _ eA)⟩,?_⟩
 refine qE_ (xs:=vs) (λi σ H'=>(∃c3 c4 c5 c6,σ=[some (.ref a),some (.ref b),some (.ref l),c3,c4,c5,c6])/\LstAt H' l (prd (ts.take i) us)/\Same H H') ?_ ?_ ?_ ?_
 ·exact⟨⟨_,_,_,_,rfl⟩,⟨[],qc_,.nil⟩,s0⟩
 ·rintro i σ H1 _ ⟨_,_,s1⟩
  exact SqL.of (s1 _ _ eA)
 ·rintro i v σ H1 hv ⟨⟨c3,c4,c5,c6,rfl⟩,hL,s1⟩
  obtain⟨t,ht,hi⟩:=qD_ iA hv
  have hmt:=AY ht
  have lti:i<ts.length:=(AR.mp ht).1
  obtain⟨p,k1,rfl,hp,hk1⟩:=q7_ hi
  refine⟨p,_,rfl,SqT.of (s1 _ _ hp),rfl,_,_,rfl,_,_,rfl,rfl,?_⟩
  refine⟨_,rfl,b,rfl,⟨ws,SqL.of (s1 _ _ eB)⟩,?_⟩
  refine qE_ (xs:=ws) (λj σ H'=>(∃c5 c6,σ=[some (.ref a),some (.ref b),some (.ref l),some (.ref k1),some (.int t.2),c5,c6])/\LstAt H' l (prd (ts.take i) us++(us.take j).map λu=>(pad t.1 u.1,t.2*u.2))/\Same H H') ?_ ?_ ?_ ?_
  ·refine⟨⟨_,_,rfl⟩,?_,s1⟩
   rw[Bn,Bw,Ax]
   exact hL
  ·rintro j σ H2 _ ⟨_,_,s2⟩
   exact SqL.of (s2 _ _ eB)
  ·rintro j w2 σ H2 hw ⟨⟨c5,c6,rfl⟩,⟨zs,eZ,iZ⟩,s2⟩
   obtain⟨u,hu,hj⟩:=qD_ iB hw
   have hmu:=AY hu
   have luj:j<us.length:=(AR.mp hu).1
   have lz:=AL iZ
   rw[AE,xg_,AA,AS,AS,BQ (by omega),BQ (by omega)]at lz
   have lz2:zs.length<=40000:=by
    have z1:i*us.length+j<(i+1)*us.length:=by rw[Cg];omega
    have z2:(i+1)*us.length<=ts.length*us.length:=Bz _ lti
    omega
   obtain⟨p',k2,rfl,hp',hk2⟩:=q7_ hj
   refine⟨p',_,rfl,SqT.of (s2 _ _ hp'),rfl,_,_,rfl,_,_,rfl,rfl,?_⟩
   refine⟨_,rfl,.inl ⟨rfl,_,SqL.of eZ⟩,?_⟩
   have hlu:t.1.length=u.1.length:=by rw[ga.len t hmt,gb.len u hmu]
   have hk1':=s2 _ _ hk1
   have hk2':=s2 _ _ hk2
   refine⟨_,rfl,_,rfl,k1,k2,rfl,⟨_,SqT.of hk1'⟩,⟨_,SqT.of hk2'⟩,λbk D hD=>?_⟩
   refine yZ_ (α:=Int) (k1:=.tup) (k2:=.tup) hD (SqT.of hk1') (SqT.of hk2') (λσ=>∃c d,σ=[c,d]) (λi=>some (t.1.getD i 0+u.1.getD i 0)) (qr_ (by rw[AA,ga.len t hmt];omega)) ?_ ?_ ?_
   ·exact⟨_,_,rfl⟩
   ·rintro i' xx yy p2 σ' H3 Yes No hxx hyy h2 ⟨c,d',rfl⟩ s3 yes no
    obtain rfl:V.int (t.1.getD i' 0)=xx:=by
     rw[AT]at hxx
     rw[AK]
     cases e':t.1[i']? with
     |none=>rw[e']at hxx;cases hxx
     |some c=>rw[e']at hxx;exact AW hxx
    obtain rfl:V.int (u.1.getD i' 0)=yy:=by
     rw[AT]at hyy
     rw[AK]
     cases e':u.1[i']? with
     |none=>rw[e']at hyy;cases hyy
     |some c=>rw[e']at hyy;exact AW hyy
    refine⟨p2,_,rfl,SqT.of qc_,rfl,_,_,rfl,_,_,rfl,rfl,?_⟩
    refine yN_ ?_
    refine⟨_,rfl,_,rfl,_,_,rfl,rfl,?_⟩
    exact yes _ _ _ _ ⟨_,_,rfl⟩ (qd_ h2 _) rfl rfl
   rintro H3 s3 ⟨ys,eD,iD⟩
   rw[zp_ iD,v3_ _ _ hlu]at eD
   refine⟨D,_,rfl,.inl ⟨SqL.of eD,λq1 hq1=>?_⟩⟩
   have s4:=qd_ hq1 (.tup ((pad t.1 u.1).map V.int))
   refine⟨_,rfl,_,rfl,_,_,rfl,rfl,⟨zY_ (ga.num t hmt) hx1,zY_ (gb.num u hmu) hy1⟩,(by show 2<=sizeLine;decide),λq2 hq2=>?_⟩
   have s5:=qd_ hq2 (.tup [.ref q1,.int (t.2*u.2)])
   have all:=s3.trans (s4.trans s5)
   have eZ3:=all _ _ eZ
   refine⟨l,zs,_,rfl,rfl,eZ3,zn_ (by omega),⟨_,_,rfl⟩,⟨zs++[.ref q2],qc_,?_⟩,λb' o e'=>?_⟩
   ·rw[qH_ hu,Ao,<-AX]
    have t6:∀o,Tups (upd (upd H3 q1 (.tup ((pad t.1 u.1).map V.int))) q2 (.tup [.ref q1,.int (t.2*u.2)])) (upd (upd (upd H3 q1 (.tup ((pad t.1 u.1).map V.int))) q2 (.tup [.ref q1,.int (t.2*u.2)])) l o):=λo r' ys e'=>by
     rw[qk_ (zA_ e' eZ3 (by intro z;cases z))];exact e'
    exact CF (Its.mono ((Tups.same all).trans (t6 _)) iZ) (Dat.mono (t6 _) (q5_ (t:=(pad t.1 u.1,t.2*u.2)) qc_ (s5 _ _ qc_)))
   ·rw[qk_ (qq_ e' hl0)]
    exact all _ _ (s2 b' o e')
  ·rintro σ H2 ⟨⟨c5,c6,rfl⟩,hL2,s2⟩
   rw[AN (show us.length<=ws.length by omega)]at hL2
   refine⟨⟨_,_,_,_,rfl⟩,?_,s2⟩
   rw[qH_ ht,abr_]
   exact hL2
 ·rintro σ H1 ⟨⟨c3,c4,c5,c6,rfl⟩,hL,s1⟩
  rw[AN (by omega)]at hL
  refine⟨_,rfl,l,_,rfl,hL,by rw[xg_];omega,λr H2 hr s2 h2=>?_⟩
  exact q r H2 (s1.free hr) (s1.trans s2) h2
abbrev nSo:List Str:=["_law_many", "_law_found", "_law_number_here", "_law_longer", "_law_some", "_law_sign", "_law_k"]
theorem scSo:FnScope nSo ["_law_many"] (qh_ sSo):=⟨rfl,rfl,rfl,by decide +kernel,rfl,by decide +kernel,by decide +kernel⟩
def spSo:Sp:=λvs H Q _=>∃n:Nat,vs=[.int n]/\n<=4/\∀(l:Addr)(H':Hp),H l=none->Same H H'->LstAt H' l (sgo n)->Q (.ref l) H'
def sgoB(i:Nat):Bool:=decide ((sgo i).length<=24)&&(sgo i).all λt=>decide (t.1.length=i)&&decide (t.2.natAbs<=1)&&t.1.all λk=>decide (0<=k)&&decide (k<(i:Int))
theorem alv_:∀i∈List.range 5,sgoB i=true:=by decide +kernel
theorem aaz_{i:Nat}(h:i<=4):(sgo i).length<=24/\∀t∈sgo i,t.1.length=i/\t.2.natAbs<=1/\∀k∈t.1,0<=k/\k<(i:Int):=by
 have:=alv_ i (BH.mpr (by omega))
 unfold sgoB at this
 rw[AQ,decide_eq_true_eq,Ad]at this
 refine⟨this.1,λt ht=>?_⟩
 have z:=this.2 t ht
 rw[AQ,AQ,decide_eq_true_eq,decide_eq_true_eq,Ad]at z
 refine⟨z.1.1,z.1.2,λk hk=>?_⟩
 have y:=z.2 k hk
 rw[AQ,decide_eq_true_eq,decide_eq_true_eq]at y
 exact y
theorem aqw_(F:Fun K "_law_signed_orders" "_law_signed_orders" sSo f fd)(mr:mg "range" = none)(ml:mg "len" = none):FnOk P w K mg base CX0 2 f fd ["_law_many"] spSo:=by
 refine F.ok scSo (λvs H Q E h=>?_) (λcdv A outer s H vs Q E hr h=>?_)
 ·obtain⟨n,rfl,_⟩:=h
  rfl
 obtain⟨n,rfl,n4,q⟩:=h
 refine⟨_,qe_ (qm_ (i:=1) scSo.nd rfl (Or.inl rfl) (qv_ (qa_ (qs_ (qa_ (qs_ qb_) (qa_ qg_ qb_))) qb_)))
  (qe_ (qw_ Ah rfl (zm_ rfl mr (qa_ (pv 0) qb_)) (qj_ (i:=2) scSo.nd rfl (Or.inl rfl))
   (qe_ (qm_ (i:=3) scSo.nd rfl (Or.inl rfl) (qv_ qb_))
   (qe_ (qw_ Ah rfl (qu_ (pv 1)) (qU_ rfl (ql_ (qj_ (i:=4) scSo.nd rfl (Or.inl rfl)) (ql_ (qj_ (i:=5) scSo.nd rfl (Or.inl rfl)) qF_)))
    (qf_ (qw_ Ah rfl (zm_ rfl mr (qa_ (qi_ qM_ (qp_ qI_ rfl ml BZ (qa_ (pv 4) qb_)) qg_) qb_)) (qj_ (i:=6) scSo.nd rfl (Or.inl rfl))
     (qf_ (q2_ (z5_ Au As At qS_ (pv 3) (qa_ (qs_ (qa_
      (qi_ zi_ (qi_ zi_ (za_ aca_ (pv 4) zw_ (zj_ (pv 6))) (qs_ (qa_ (pv 2) qb_))) (za_ afc_ (pv 4) (zj_ (pv 6)) zw_))
      (qa_ (qi_ jY_ (pv 5) (qi_ qZ_ qg_ (qi_ jY_ qg_ (qi_ zq_ (qi_ qZ_ (qp_ qI_ rfl ml BZ (qa_ (pv 4) qb_)) (pv 6)) qg_)))) qb_))) qb_)))))))
   (qf_ (qm_ (i:=1) scSo.nd rfl (Or.inl rfl) (pv 3))))))
  (qf_ (qn_ (pv 1)))),?_⟩
 refine⟨(by show 0<=sizeLine;decide),λt0 h0=>⟨(by show 2<=sizeLine;decide),λt1 h1=>⟨(by show 1<=sizeLine;decide),λl0 hl0=>?_⟩⟩⟩
 have s0:=qd_ h0 (.tup [])
 have s1:=qd_ h1 (.tup [.ref t0,.int 1])
 have s2:=qd_ hl0 (.lst [.ref t1])
 have sA:=s0.trans (s1.trans s2)
 refine⟨_,rfl,(n:Int),rfl,by omega,by omega,?_⟩
 refine zI_ (lo:=0) (n:=(n:Int).toNat) (λi σ H'=>(∃(l:Addr)(c2 c3 c4 c5 c6:Option V),σ=[some (.int n),some (.ref l),c2,c3,c4,c5,c6]/\LstAt H' l (sgo i)/\H l=none)/\Same H H') ?_ ?_ ?_
 ·exact⟨⟨l0,_,_,_,_,_,rfl,⟨[.ref t1],qc_,.cons (q5_ (t:=([],1)) (s2 _ _ qc_) (s2 _ _ (s1 _ _ qc_))) .nil⟩,s0.free (s1.free hl0)⟩,sA⟩
 ·rintro i σ H1 hi ⟨⟨l,c2,c3,c4,c5,c6,rfl,⟨us,eL,iL⟩,fl⟩,sH⟩
  have i4:i<=4:=by omega
  obtain⟨k1,k2⟩:=aaz_ i4
  obtain⟨m1,_⟩:=aaz_ (show i+1<=4 by omega)
  have st:sgo (i+1)=(sgo i).flatMap (z4_ (i:Int)):=rfl
  rw[st]at m1
  generalize sgo i=fs at iL k1 k2 st m1
  have lu:=AL iL
  show zN_ 2 (V.int (0+(i:Int))) _ _ _
  rw[show(0:Int)+(i:Int)=(i:Int) by omega]
  refine⟨(by show 0<=sizeLine;decide),λl2 hl2=>?_⟩
  have s3:=qd_ hl2 (.lst [])
  refine⟨_,rfl,l,rfl,⟨_,SqL.of (s3 _ _ eL)⟩,?_⟩
  refine qE_ (xs:=us) (λj σ H'=>(∃c4 c5 c6,σ=[some (.int n),some (.ref l),some (.int (i:Int)),some (.ref l2),c4,c5,c6])/\Same H1 H'/\LstAt H' l2 ((fs.take j).flatMap (z4_ (i:Int)))) ?_ ?_ ?_ ?_
  ·exact⟨⟨_,_,_,rfl⟩,s3,⟨[],qc_,.nil⟩⟩
  ·rintro j σ H2 _ ⟨_,s4,_⟩
   exact SqL.of (s4 _ _ eL)
  ·rintro j v σ H2 hv ⟨⟨c4,c5,c6,rfl⟩,s4,hY⟩
   obtain⟨t,ht,hi2⟩:=qD_ iL hv
   obtain⟨p,kk,rfl,hp,hk⟩:=q7_ hi2
   obtain⟨t1',t2',_⟩:=k2 t (AY ht)
   have tk:(fs.take (j+1)).flatMap (z4_ (i:Int))=(fs.take j).flatMap (z4_ (i:Int))++z4_ (i:Int) t:=by rw[qH_ ht,Bi,Be]
   have tl:((fs.take (j+1)).flatMap (z4_ (i:Int))).length<=24:=Aj (yj_ _ _ _) m1
   refine⟨p,_,rfl,SqT.of (s4 _ _ hp),rfl,_,_,rfl,_,_,rfl,rfl,?_⟩
   refine⟨_,rfl,kk,_,rfl,.inr (SqT.of (s4 _ _ hk)),_,_,rfl,rfl,?_⟩
   rw[AA]
   refine⟨((t.1.length:Int)+1),rfl,by omega,by omega,?_⟩
   refine zI_ (lo:=0) (n:=((t.1.length:Int)+1).toNat) (λk σ H'=>(∃c6,σ=[some (.int n),some (.ref l),some (.int (i:Int)),some (.ref l2),some (.ref kk),some (.int t.2),c6])/\Same H1 H'/\LstAt H' l2 ((fs.take j).flatMap (z4_ (i:Int))++(z4_ (i:Int) t).take k)) ?_ ?_ ?_
   ·refine⟨⟨_,rfl⟩,s4,?_⟩
    rw[Bn,Ax]
    exact hY
   ·rintro k σ H3 hkk ⟨⟨c6,rfl⟩,s5,⟨ys,eY,iY⟩⟩
    have k9:k<t.1.length+1:=by omega
    have ly:=AL iY
    have l9:ys.length<=24:=by
     rw[ly]
     refine Aj ?_ tl
     rw[tk,AE,AE,AS]
     omega
    have hk3:=s5 _ _ hk
    show zN_ 6 (V.int (0+(k:Int))) _ _ _
    rw[show(0:Int)+(k:Int)=(k:Int) by omega]
    refine⟨_,rfl,.inl ⟨rfl,_,SqL.of eY⟩,_,rfl,_,rfl,(k:Int),rfl,kk,t.1,k,rfl,rfl,rfl,hk3,λq1 H4 s6 hq1=>?_⟩
    refine⟨_,rfl,(by show 1<=sizeLine;decide),λq2 hq2=>?_⟩
    have s7:=qd_ hq2 (.tup [.int (i:Int)])
    refine zd_ (r:=t.1.take k) (r':=[(i:Int)]) (s7 _ _ hq1) qc_ (qr_ (by rw[AS];show _+1<=_;omega)) λq3 H5 s8 hq3=>?_
    have s58:=s6.trans (s7.trans s8)
    refine⟨_,rfl,_,rfl,(k:Int),rfl,kk,t.1,k,rfl,rfl,rfl,s58 _ _ hk3,λq4 H6 s9 hq4=>?_⟩
    refine zd_ (r:=t.1.take k++[(i:Int)]) (r':=t.1.drop k) (s9 _ _ hq3) hq4 (qr_ (by rw[AE,AS,A0];show _+1+_<=_;omega)) λq5 H7 s10 hq5=>?_
    have s57:=s58.trans (s9.trans s10)
    have e0:=B1 ((t.1.length:Int)-(k:Int)) (show(2:Int)≠0 by decide)
    have e1:=Bx ((t.1.length:Int)-(k:Int)) (show(0:Int)<2 by decide)
    refine⟨_,rfl,_,rfl,kk,_,rfl,.inr (SqT.of (s57 _ _ hk3)),_,rfl,_,_,rfl,rfl,_,_,rfl,rfl,(by show(0:Int)<2;decide),_,_,rfl,rfl,.inl ⟨by decide,by decide⟩,_,_,rfl,rfl,_,_,rfl,rfl,.inl ⟨?_,?_⟩,(by show 2<=sizeLine;decide),λq6 hq6=>?_⟩
    ·show -(2^64)<t.2
     omega
    ·show t.2<2^64
     omega
    have hTT:[V.ref q5,V.int (t.2*(1-2*((((t.1.map V.int).length:Int)-(k:Int))%2)))]=[V.ref q5,V.int (t.2*(1-2*(((t.1.length:Int)-(k:Int))%2)))]:=by rw[AA]
    have s11:=qd_ hq6 (.tup [V.ref q5,V.int (t.2*(1-2*((((t.1.map V.int).length:Int)-(k:Int))%2)))])
    have eY8:=s11 _ _ (s57 _ _ eY)
    have s38:Same H3 (upd H7 q6 (.tup [V.ref q5,V.int (t.2*(1-2*((((t.1.map V.int).length:Int)-(k:Int))%2)))])):=s57.trans s11
    have h6:upd H7 q6 (.tup [V.ref q5,V.int (t.2*(1-2*((((t.1.map V.int).length:Int)-(k:Int))%2)))]) q6=some (.tup [V.ref q5,V.int (t.2*(1-2*(((t.1.length:Int)-(k:Int))%2)))]):=by rw[qc_,hTT]
    have h5:=s11 _ _ hq5
    refine⟨l2,ys,.ref q6,rfl,rfl,eY8,zn_ (by omega),⟨_,rfl⟩,λc o z=>?_,?_⟩
    ·show upd (upd H7 q6 (.tup [V.ref q5,V.int (t.2*(1-2*((((t.1.map V.int).length:Int)-(k:Int))%2)))])) l2 (.lst (ys++[.ref q6])) c=some o
     rw[qk_ (qq_ z hl2)]
     exact s38 _ _ (s5 _ _ z)
    ·show LstAt (upd (upd H7 q6 (.tup [V.ref q5,V.int (t.2*(1-2*((((t.1.map V.int).length:Int)-(k:Int))%2)))])) l2 (.lst (ys++[.ref q6]))) l2 _
     generalize upd H7 q6 (.tup [V.ref q5,V.int (t.2*(1-2*((((t.1.map V.int).length:Int)-(k:Int))%2)))])=H8 at eY8 s38 h6 h5
     have gk:(z4_ (i:Int) t)[k]?=some (t.1.take k++[(i:Int)]++t.1.drop k,t.2*(1-2*(((t.1.length:Int)-(k:Int))%2))):=by
      unfold z4_
      rw[AT,CY k9]
      rfl
     rw[qH_ gk,<-AX]
     refine⟨ys++[.ref q6],qc_,Paired.app (Its.mono (λc xs z=>?_) iY) (.cons (q5_ (q:=q5) ?_ ?_) .nil)⟩
     ·have z6:=s38 _ _ z
      rw[qk_ (zA_ z6 eY8 (by intro z;cases z))]
      exact z6
     ·rw[qk_ (zA_ h6 eY8 (by intro z;cases z))]
      exact h6
     ·rw[qk_ (zA_ h5 eY8 (by intro z;cases z))]
      exact h5
   ·rintro σ H3 ⟨⟨c6,rfl⟩,s5,hY3⟩
    refine⟨⟨_,_,_,rfl⟩,s5,?_⟩
    have lr:(z4_ (i:Int) t).length=t.1.length+1:=by unfold z4_;rw[AA,BI]
    rw[AN (l:=z4_ (i:Int) t) (by rw[lr];omega)]at hY3
    rw[tk]
    exact hY3
  ·rintro σ H2 ⟨⟨c4,c5,c6,rfl⟩,s4,hY⟩
   rw[AN (by omega)]at hY
   refine⟨_,rfl,⟨l2,_,_,_,_,_,rfl,?_,sH.free hl2⟩,sH.trans s4⟩
   rw[st]
   exact hY
 ·rintro σ H1 ⟨⟨l,c2,c3,c4,c5,c6,rfl,hL,fl⟩,sH⟩
  rw[An]at hL
  exact⟨_,rfl,q l _ fl sH hL⟩
def bnd:Nat->Nat
 |0=>1
 |n+1=>(n+1)*bnd n
theorem zR_{α β:Type}(g:α->List β)(B:Nat):∀l:List α,(∀a∈l,(g a).length<=B)->(l.flatMap g).length<=l.length*B
 |[],_=>by simp
 |a::l,h=>by
  have h1:=h a (AD ..)
  have h2:=zR_ g B l λb hb=>h b (AC _ hb)
  rw[CB,AE,Am,Cg]
  lia
theorem yB_{H H':Hp}{l:Addr}(h:H l=none)(e:Same H H')(o:HO):Same H (upd H' l o):=λb u q=>by rw[qk_ (qq_ q h)];exact e b u q
theorem jc_{H:Hp}{l:Addr}{xs:List V}(h:H l=some (.lst xs))(o:HO):Tups H (upd H l o):=λp ys q=>by
 rw[qk_ (zA_ q h (by intro z;cases z))];exact q
def zU_(x:Int)(s:List Int):List (List Int):=(List.range (s.length+1)).map λk=>s.take k++[x]++s.drop k
def y0_(ks:List Pw)(k:Pw):List Pw:=if k∈ks then ks else ks++[k]
def zV_(ks l:List Pw):List Pw:=l.foldl y0_ ks
theorem xG_(ks l:List Pw)(k:Pw):zV_ ks (l++[k])=y0_ (zV_ ks l) k:=by
 unfold zV_
 rw[B9]
 rfl
theorem ain_(ks:List Pw)(k:Pw):(y0_ ks k).length<=ks.length+1:=by
 unfold y0_
 split
 ·omega
 ·rw[AE,Ay];omega
theorem y9_(ks:List Pw):∀l:List Pw,(zV_ ks l).length<=ks.length+l.length:=by
 refine jp_ (AG _) λl k ih=>?_
 rw[xG_,AE,Ay]
 have:=ain_ (zV_ ks l) k
 omega
def zh_(found:List Pw)(x:Int):List Pw:=zV_ [] (found.flatMap (zU_ x))
def xZ_(n:Nat)(r:List Int):List Pw:=(r++List.replicate (n-r.length) 0).foldl zh_ [[]]
theorem aew_{k:Pw}:∀l:List Pw,k∈zV_ [] l->k∈l:=by
 refine jp_ (λh=>by simp [zV_]at h) λl x ih h=>?_
 rw[xG_]at h
 unfold y0_ at h
 split at h
 ·exact Aw _ (ih h)
 ·rcases Ak.mp h with h|h
  ·exact Aw _ (ih h)
  ·exact Al _ h
theorem adf_:∀zs:List Int,(zs.foldl zh_ [[]]).length<=bnd zs.length/\∀s∈zs.foldl zh_ [[]],s.length=zs.length:=by
 refine jp_ ⟨AG _,λs hs=>by rw[Af.mp hs]⟩ λzs x ih=>?_
 obtain⟨a,b⟩:=ih
 rw[B9,AE,Ay]
 show(zh_ (zs.foldl zh_ [[]]) x).length<=_/\∀s∈zh_ (zs.foldl zh_ [[]]) x,_
 refine⟨?_,λs hs=>?_⟩
 ·have h1:=y9_ [] ((zs.foldl zh_ [[]]).flatMap (zU_ x))
  have h2:=zR_ (zU_ x) (zs.length+1) (zs.foldl zh_ [[]]) λs hs=>by
   unfold zU_
   rw[AA,BI,b s hs]
   exact AG _
  have h3:=Bz (zs.length+1) a
  have h4:bnd (zs.length+1)=(zs.length+1)*bnd zs.length:=rfl
  show(zV_ [] ((zs.foldl zh_ [[]]).flatMap (zU_ x))).length<=_
  rw[h4,C2]
  simp only[B7]at h1
  omega
 ·obtain⟨u,hu,hs⟩:=BS.mp (aew_ _ hs)
  obtain⟨k,hk,rfl⟩:=Ae.mp hs
  have hk:=BH.mp hk
  rw[AE,AE,AS,A0,Ay,<-b u hu]
  omega
theorem aj8_(ks:List Pw)(k:Pw):z2_ (toB ks) (k.map Sum.inl) (V.bl true)=toB (y0_ ks k):=by
 have ea:((toB ks).any λkv=>decide (kv.1=k.map Sum.inl))=decide (k∈ks):=by
  unfold toB
  rw[Eu]
  induction ks with
  |nil=>rfl
  |cons x r ih =>
   rw[CC,ih]
   show(decide ((x.map Sum.inl:List Key)=k.map Sum.inl)||_)=_
   by_cases e:x=k
   ·subst e
    rw[decide_eq_true rfl,decide_eq_true (AD ..)]
    rfl
   ·rw[decide_eq_false λz=>e (xQ_ z)]
    by_cases c:k∈r
    ·rw[decide_eq_true c,decide_eq_true (AC _ c)];rfl
    ·rw[decide_eq_false c,decide_eq_false λz=>(AJ.mp z).elim (λz=>e z.symm) c];rfl
 unfold z2_ y0_
 rw[ea]
 by_cases c:k∈ks
 ·rw[if_pos (decide_eq_true c),if_pos c]
  unfold toB
  rw[CS]
  apply B3
  intro t _
  simp only[Function.comp]
  split<;>rfl
 ·rw[if_neg (by rw[decide_eq_false c];decide),if_neg c]
  unfold toB
  rw[Ao]
  rfl
abbrev nLo:List Str:=["_law_numbers", "_law_found", "_law_number_here", "_law_longer", "_law_some", "_law_k"]
theorem scLo:FnScope nLo ["_law_numbers"] (qh_ aeq_):=⟨rfl,rfl,rfl,by decide +kernel,rfl,by decide +kernel,by decide +kernel⟩
def spLo:Sp:=λvs H Q _=>∃(a:Addr)(zs:List Int),vs=[.ref a]/\H a=some (.lst (zs.map V.int))/\zs.length<=4/\∀(l:Addr)(H':Hp),H l=none->Same H H'->LstAt H' l (zs.foldl zh_ [[]])->Q (.ref l) H'
theorem alx_(F:Fun K "_law_orders" "_law_orders" aeq_ f fd)(ml:mg "list" = none)(mr:mg "range" = none)(mn:mg "len" = none):FnOk P w K mg base CX0 2 f fd ["_law_numbers"] spLo:=by
 refine F.ok scLo (λvs H Q E h=>?_) (λcdv A outer s H vs Q E hr h=>?_)
 ·obtain⟨a,zs,rfl,_⟩:=h
  rfl
 obtain⟨l1,zs,rfl,hz,hl,q⟩:=h
 have hu:=aee_ hr
 refine⟨_,qe_ (qm_ (i:=1) scLo.nd rfl (Or.inl rfl) (qv_ (qa_ (qs_ qb_) qb_)))
  (qe_ (qw_ Ah rfl (qu_ (pv 0)) (qj_ (i:=2) scLo.nd rfl (Or.inl rfl))
   (qe_ (qm_ (i:=3) scLo.nd rfl (Or.inl rfl) yQ_)
   (qe_ (qw_ Ah rfl (qu_ (pv 1)) (qj_ (i:=4) scLo.nd rfl (Or.inl rfl))
    (qf_ (qw_ Ah rfl (zm_ rfl mr (qa_ (qi_ qM_ (qp_ qI_ rfl mn BZ (qa_ (pv 4) qb_)) qg_) qb_)) (qj_ (i:=5) scLo.nd rfl (Or.inl rfl))
     (qf_ (vQ_ hu (pv 3) (qi_ zi_ (qi_ zi_ (za_ aca_ (pv 4) zw_ (zj_ (pv 5))) (qs_ (qa_ (pv 2) qb_))) (za_ afc_ (pv 4) (zj_ (pv 5)) zw_)) jn_ rfl)))))
   (qf_ (qm_ (i:=1) scLo.nd rfl (Or.inl rfl) (qN_ (aem_ rfl) rfl ml B5 (qa_ (pv 3) qb_)))))))
  (qf_ (qn_ (pv 1)))),?_⟩
 refine⟨(by show 0<=sizeLine;decide),λe0 h0=>⟨(by show 1<=sizeLine;decide),λl0 h1=>?_⟩⟩
 have s0:=qd_ h0 (.tup [])
 have s1:=qd_ h1 (.lst [.ref e0])
 have sA:=s0.trans s1
 have hz4:=sA _ _ hz
 have hl0:upd (upd H e0 (.tup [])) l0 (.lst [.ref e0]) l0=some (.lst [.ref e0]):=qc_
 have he0:upd (upd H e0 (.tup [])) l0 (.lst [.ref e0]) e0=some (.tup []):=s1 _ _ qc_
 have fl0:H l0=none:=s0.free h1
 show zN_ 1 (.ref l0) _ (upd (upd H e0 (.tup [])) l0 (.lst [.ref e0])) _
 generalize upd (upd H e0 (.tup [])) l0 (.lst [.ref e0])=G at *
 refine⟨_,rfl,l1,rfl,⟨_,SqL.of hz4⟩,?_⟩
 refine qE_ (xs:=zs.map V.int) (λi σ H'=>(∃(l:Addr)(c3 c4 c5 c6:Option V),σ=[some (.ref l1),some (.ref l),c3,c4,c5,c6]/\LstAt H' l ((zs.take i).foldl zh_ [[]])/\H l=none)/\Same G H') ?_ ?_ ?_ ?_
 ·exact⟨⟨l0,_,_,_,_,rfl,⟨[.ref e0],hl0,.cons (z7_ (r:=[]) he0) .nil⟩,fl0⟩,λ_ _ e=>e⟩
 ·rintro i σ H5 _ ⟨_,s5⟩
  exact SqL.of (s5 _ _ hz4)
 ·rintro i v σ H5 hv ⟨⟨l,c3,c4,c5,c6,rfl,⟨vs,eL,iL⟩,fl⟩,s5⟩
  obtain⟨x,hx,rfl⟩:∃x,zs[i]?=some x/\V.int x=v:=by
   rw[AT]at hv
   cases e:zs[i]? with
   |none=>rw[e]at hv;cases hv
   |some y=>rw[e]at hv;exact⟨y,rfl,AW hv⟩
  have hi:i<zs.length:=(AR.mp hx).1
  obtain⟨al,am⟩:=adf_ (zs.take i)
  rw[AS,BQ (by omega)]at al am
  have b4:bnd i<=24:=by
   have:i=0∨i=1∨i=2∨i=3:=by omega
   rcases this with e|e|e|e<;>rw[e]<;>decide
  have nx:(zs.take (i+1)).foldl zh_ [[]]=zV_ [] (((zs.take i).foldl zh_ [[]]).flatMap (zU_ x)):=by
   rw[qH_ hx,B9]
   rfl
  rw[nx]
  generalize (zs.take i).foldl zh_ [[]]=fs at al am iL
  have lv:=AL iL
  intro d hd
  have s6:Same H5 (upd H5 d (.dT [])):=qd_ hd _
  refine⟨_,rfl,l,rfl,⟨_,SqL.of (s6 _ _ eL)⟩,?_⟩
  refine qE_ (xs:=vs) (λj σ H'=>(∃c5 c6,σ=[some (.ref l1),some (.ref l),some (.int x),some (.ref d),c5,c6])/\H' d=some (.dT (toB (zV_ [] ((fs.take j).flatMap (zU_ x)))))/\Same H5 H') ?_ ?_ ?_ ?_
  ·exact⟨⟨_,_,rfl⟩,qc_,s6⟩
  ·rintro j σ H6 _ ⟨_,_,s7⟩
   exact SqL.of (s7 _ _ eL)
  ·rintro j v σ H6 hv ⟨⟨c5,c6,rfl⟩,hd6,s7⟩
   obtain⟨u,hu',hi2⟩:=qD_ iL hv
   obtain⟨pu,rfl,hpu⟩:=zG_ hi2
   have lu:=am u (AY hu')
   have ln1:=zR_ (zU_ x) 4 (fs.take j) λs hs=>by
    unfold zU_
    rw[AA,BI,am s (BL hs)]
    omega
   rw[AS]at ln1
   refine⟨_,rfl,pu,_,rfl,.inr (SqT.of (s7 _ _ hpu)),_,_,rfl,rfl,_,rfl,by rw[AA];omega,by rw[AA];omega,?_⟩
   rw[AA,show((u.length:Int)+1).toNat=u.length+1 by omega]
   refine zI_ (lo:=0) (n:=u.length+1) (λe σ H'=>(∃c6,σ=[some (.ref l1),some (.ref l),some (.int x),some (.ref d),some (.ref pu),c6])/\H' d=some (.dT (toB (zV_ [] ((fs.take j).flatMap (zU_ x)++(List.range e).map λk=>u.take k++[x]++u.drop k))))/\Same H5 H') ?_ ?_ ?_
   ·refine⟨⟨_,rfl⟩,?_,s7⟩
    rw[List.range_zero,Bw,Ax]
    exact hd6
   ·rintro e σ H7 he ⟨⟨c6,rfl⟩,hd7,s8⟩
    rw[Ch]
    have hpu7:=s8 _ _ hpu
    refine⟨_,rfl,_,rfl,_,rfl,_,rfl,pu,u,e,rfl,rfl,rfl,hpu7,λt1 G1 g1 e1=>?_⟩
    refine⟨_,rfl,(by show 1<=sizeLine;decide),λt2 h2'=>?_⟩
    have g2:=qd_ h2' (.tup [.int x])
    refine zd_ (r:=u.take e) (r':=[x]) (g2 _ _ e1) qc_ (qr_ (by rw[AS];show _+1<=100000;omega)) λt3 G3 g3 e3=>?_
    have g13:=g1.trans (g2.trans g3)
    refine⟨_,rfl,_,rfl,_,rfl,pu,u,e,rfl,rfl,rfl,g13 _ _ hpu7,λt4 G4 g4 e4=>?_⟩
    refine zd_ (r:=u.take e++[x]) (r':=u.drop e) (g4 _ _ e3) e4 (qr_ (by rw[AE,AS,A0,Ay];omega)) λt5 G5 g5 e5=>?_
    have gA:=g13.trans (g4.trans g5)
    have hd8:=gA _ _ hd7
    have la:=y9_ [] ((fs.take j).flatMap (zU_ x)++(List.range e).map λk=>u.take k++[x]++u.drop k)
    rw[AE,AA,BI,B7]at la
    refine⟨d,_,rfl,DPut.t (k:=(u.take e++[x]++u.drop e).map Sum.inl) hd8 (by rw[j1_];exact e5) ?_,?_⟩
    ·rw[ac5_]
     exact zn_ (by omega)
    ·refine⟨⟨_,rfl⟩,?_,λb o e'=>?_⟩
     ·have er:(List.range (e+1)).map (λk=>u.take k++[x]++u.drop k)=(List.range e).map (λk=>u.take k++[x]++u.drop k)++[u.take e++[x]++u.drop e]:=by
       rw[Bb,Ao]
       rfl
      rw[er,<-AX ((fs.take j).flatMap (zU_ x)),xG_,<-aj8_]
      exact qc_
     ·rw[qk_ (qq_ e' hd)]
      exact gA _ _ (s8 b o e')
   ·rintro σ H7 ⟨⟨c6,rfl⟩,hd7,s8⟩
    refine⟨⟨_,_,rfl⟩,?_,s8⟩
    rw[qH_ hu',Bi,Be]
    exact hd7
  ·rintro σ H6 ⟨⟨c5,c6,rfl⟩,hd6,s7⟩
   rw[AN (show fs.length<=vs.length by omega)]at hd6
   refine⟨_,rfl,d,_,rfl,hd6,λl7 vs7 h7 i7=>?_⟩
   have s8:=qd_ h7 (.lst vs7)
   exact⟨⟨l7,_,_,_,_,rfl,⟨vs7,qc_,Its.mono (Tups.same s8) i7⟩,sA.free (s5.free (s7.free h7))⟩,s5.trans (s7.trans s8)⟩
 ·rintro σ H5 ⟨⟨l,c3,c4,c5,c6,rfl,hL,fl⟩,s5⟩
  rw[AA,DG]at hL
  exact⟨_,rfl,q l H5 fl (sA.trans s5) hL⟩
end
end L2.K53
namespace L2.Ev
open PySem PySem.Spec PyProof.Rows
open L2.Ts L2.Pl L2.Rw
section
variable{X:Cx}
theorem abg_:∀{a b:List Int},a.Perm b->(a.Pairwise λx y=>y<=x)->(b.Pairwise λx y=>y<=x)->a=b
 |[],b,h,_,_=>(List.nil_perm.mp h).symm
 |x::a,[],h,_,_=>absurd h.symm (by simp)
 |x::a,y::b,h,ha,hb=>by
  obtain⟨a1,a2⟩:=Ai.mp ha
  obtain⟨b1,b2⟩:=Ai.mp hb
  have e:x=y:=by
   have h1:x∈y::b:=h.mem_iff.mp (AD ..)
   have h2:y∈x::a:=h.mem_iff.mpr (AD ..)
   rcases AJ.mp h1 with e|m1
   ·exact e
   ·rcases AJ.mp h2 with e|m2
    ·exact e.symm
    ·have:=b1 x m1
     have:=a1 y m2
     omega
  subst e
  rw[abg_ (List.perm_cons x |>.mp h) a2 b2]
def vL_(x:Int):List Int->List Int
 |[]=>[x]
 |y::l=>if y<=x then x::y::l else y::vL_ x l
def dsc(l:List Int):List Int:=l.foldr vL_ []
theorem yi_(x:Int):∀l,(vL_ x l).Perm (x::l)
 |[]=>.refl _
 |y::l=>by
  unfold vL_
  split
  ·exact .refl _
  ·exact((yi_ x l).cons y).trans (.swap ..)
theorem y8_(x:Int):∀{l:List Int},(l.Pairwise λa b=>b<=a)->((vL_ x l).Pairwise λa b=>b<=a)
 |[],_=>C6 _ _
 |y::l,h=>by
  obtain⟨h1,h2⟩:=Ai.mp h
  unfold vL_
  split
  ·rename_i c
   exact Ai.mpr ⟨λz hz=>(AJ.mp hz).elim (λe=>e▸c) λm=>by have:=h1 z m;omega,h⟩
  ·rename_i c
   refine Ai.mpr ⟨λz hz=>?_,y8_ x h2⟩
   rcases AJ.mp ((yi_ x l).mem_iff.mp hz) with e|m
   ·omega
   ·exact h1 z m
theorem abt_:∀l,(dsc l).Perm l
 |[]=>.refl _
 |x::l=>(yi_ x (dsc l)).trans ((abt_ l).cons x)
theorem yg_:∀l,(dsc l).Pairwise λa b=>b<=a
 |[]=>.nil
 |x::l=>y8_ x (yg_ l)
theorem agu_{a l:List Int}(h:a.Perm l)(f:a.Pairwise λx y=>y<=x):a=dsc l:=abg_ (h.trans (abt_ l).symm) f (yg_ l)
end
end L2.Ev
namespace L2.K53
open PySem
open L2.Pl L2.Ev
section
variable{P:Program}{w:World}{K:PySem.W.Frag}{mg:Str->Option Value}{base:Heap}{f g:Addr}{fd gd:FuncData}
def But(d:Addr)(H H':Hp):Prop:=∀b o,b≠d->H b=some o->H' b=some o
theorem v8_{α:Type}[Dat α]{K:PySem.W.Frag}{k1:SK}{a:Addr}{xs:List V}{σ0:St}{H1:Hp}{D:Addr}{R:Hp->Prop}{g:TG}{tc:TT}{te:TE}(hD:H1 D=none)(hl:k1.is K H1 a xs)(Sp:St->Prop)(out:Nat->Option α)(hn:xs.length<=sizeLine)(h0:Sp σ0)
  (hturn:∀(i:Nat)(x:V)(p:Addr)(σ':St)(H':Hp)(Yes:V->St->Hp->Prop)(No:St->Hp->Prop),xs[i]?=some x->H' p=none->Sp σ'->Same H1 H'->(∀y σ2 H4 a,Sp σ2->Same H' H4->out i=some a->Dat.is H4 y a->Yes y σ2 H4)->(∀σ2 H3,Sp σ2->Same H' H3->out i=none->No σ2 H3) ->
   g (.ref p) σ' (upd H' p (.tup [.int i,x])) λσ2 H2=>tc σ2 H2 λok H3=>if ok=true then te σ2 H3 λy H4=>Yes y σ2 H4 else No σ2 H3)
  (hend:∀H',Same H1 H'->LstAt H' D ((List.range xs.length).filterMap out)->R H') :
  ∃W:Nat->Nat->St->Hp->Prop,(∃m,W 0 m σ0 (upd H1 D (.lst [])))/\∀i m σ' H',W i m σ' H' ->
  ((Ite K k1 a).stop i H'/\R H')∨((Ite K k1 a).go i H'/\∃N:St->Hp->Prop,(∀σ'' H'',N σ'' H''->∃m',m'<m/\W (i+1) m' σ'' H'') /\
   ∀x H'',(Ite K k1 a).yld i H' x H''->g x σ' H'' λσ2 H2=>tc σ2 H2 λok H3=>if ok=true then te σ2 H3 λy H4=>∃ys,H4 D=some (.lst ys)/\ys.length<sizeLine/\N σ2 (upd H4 D (.lst (ys++[y]))) else N σ2 H3):=by
 refine ju_ (Q:=λ_ H=>R H) (n:=xs.length) hD Sp out hn h0 (λH' e=>⟨xs,SK.same e hl,AG _⟩) (λi H' hi e=>⟨xs,xs[i],SK.same e hl,AH hi⟩) (λi σ' H' Yes No hi hS hH hy hn x H'' y=>?_) hend
 obtain⟨p,x,rfl,hp,rfl,hx⟩:=y
 exact hturn i x p σ' H' Yes No (hx xs (SK.same hH hl)) hp hS hH hy hn
theorem scFa:FnScope ["powers"] ["powers"] (qh_ sFa):=⟨rfl,rfl,rfl,by decide +kernel,rfl,by decide +kernel,by decide +kernel⟩
def isF(r:List Int):Bool:=zL_ (Dat.eqb (α:=Int)) r (dsc r)
theorem acs_(r:List Int):isF r=true↔r=dsc r:=xr_ Dat.eqb_iff _ _
def spFa:Sp:=λvs H Q _=>∃(p:Addr)(r:List Int),vs=[.ref p]/\H p=some (.tup (r.map V.int))/\∀H',Same H H'->Q (.bl (isF r)) H'
theorem aqf_(F:Fun K "falls" "falls" sFa f fd)(mt:mg "tuple" = none)(ms:mg "sorted" = none):FnOk P w K mg base CX0 2 f fd ["powers"] spFa:=by
 refine F.ok scFa (λvs H Q E h=>?_) (λcdv A outer s H vs Q E hr h=>?_)
 ·obtain⟨p,r,rfl,_⟩:=h
  rfl
 obtain⟨p,r,rfl,hp,q⟩:=h
 have hI:=BD (Bh (by decide:Dat.dep Int+1<=64) _) hr.units
 have h8:=hu8 hr
 refine⟨_,qf_ (qn_ (ji_ (an1_ (α:=Int) hI) (pv 0) (qN_ qQ_ rfl mt Av (qa_ (vh_ rfl h8 rfl ms (qa_ (pv 0) qb_)) qb_)) (qt_ _))),?_⟩
 refine⟨_,rfl,_,rfl,p,r,rfl,SqT.of hp,λp4 m h4 pm so=>?_⟩
 rw[agu_ pm so]
 have s4:=qd_ h4 (.lst ((dsc r).map V.int))
 refine⟨p4,_,rfl,.inl ⟨SqL.of qc_,λt5 h5=>?_⟩⟩
 have s5:=qd_ h5 (.tup ((dsc r).map V.int))
 exact⟨r,dsc r,z7_ (s5 _ _ (s4 _ _ hp)),z7_ qc_,q _ (s4.trans s5)⟩
abbrev bRf:List Str:=["power"]
theorem ndRf:bRf.Nodup:=by decide +kernel
theorem scRf:FnScope ["powers"] ["powers"] (qh_ sRf):=⟨rfl,rfl,rfl,by decide +kernel,rfl,by decide +kernel,by decide +kernel⟩
def qL_(r:List Int):List Int:=r.filter λx=>decide (0<x)
def spRf:Sp:=λvs H Q _=>∃(p:Addr)(r:List Int),vs=[.ref p]/\H p=some (.tup (r.map V.int))/\r.length<=1000/\∀(t:Addr)(H':Hp),Same H H'->H' t=some (.tup ((qL_ r).map V.int))->Q (.ref t) H'
theorem aow_(F:Fun K "row_of" "row_of" sRf f fd)(mt:mg "tuple" = none):FnOk P w K mg base CX0 2 f fd ["powers"] spRf:=by
 refine F.ok scRf (λvs H Q E h=>?_) (λcdv A outer s H vs Q E hr h=>?_)
 ·obtain⟨p,r,rfl,_⟩:=h
  rfl
 obtain⟨p,r,rfl,hp,hl,q⟩:=h
 refine⟨_,qf_ (qn_ (qN_ qQ_ rfl mt Av (qa_ (qO_ (N':=bRf) (src:=[none]) rfl (jF_ (pv 0)) (ze_ (qh_ sRf) ["powers"] (by decide +kernel))
   (λb=>qj_ (i:=0) ndRf rfl (Or.inl rfl)) (λb=>xM_ (qy_ j9_ (pv 0) qg_ (qt_ _))) (λb=>pv 0)) qb_))),?_⟩
 refine⟨_,rfl,p,rfl,⟨_,SqT.of hp⟩,λbk D hD=>?_⟩
 refine jq_ (α:=Int) hD (SqT.of hp) (λσ=>∃c,σ=[c]) (λi=>(r[i]?).bind λx=>if 0<x then some x else none) (qr_ (by rw[AA];omega)) ⟨_,rfl⟩ ?_ ?_
 ·rintro i v σ H2 Yes No hv ⟨c,rfl⟩ s3 yes no
  obtain⟨x,hx,rfl⟩:∃x,r[i]?=some x/\V.int x=v:=by
   rw[AT]at hv
   cases e:r[i]? with
   |none=>rw[e]at hv;cases hv
   |some y=>rw[e]at hv;exact⟨y,rfl,AW hv⟩
  refine⟨_,rfl,_,_,rfl,rfl,_,rfl,?_⟩
  by_cases c0:0<x
  ·exact x4_ c0 ⟨_,rfl,yes _ _ _ x ⟨_,rfl⟩ (Same.refl _) (by rw[hx];exact if_pos c0) rfl⟩
  ·exact xw_ c0 (no _ _ ⟨_,rfl⟩ (Same.refl _) (by rw[hx];exact if_neg c0))
 rintro H1 s1 ⟨ws,eD,iD⟩
 have e0:(List.range (r.map V.int).length).filterMap (λi=>(r[i]?).bind λx=>if 0<x then some x else none)=qL_ r:=by
  unfold qL_
  rw[AA,qT_,zW_]
  exact EM _
 rw[zp_ iD,e0]at eD
 refine⟨D,_,rfl,.inl ⟨SqL.of eD,λt ht=>?_⟩⟩
 exact q t _ (s1.trans (qd_ ht _)) qc_
theorem scUa:FnScope ["many", "place"] ["many", "place"] (qh_ sUa):=⟨rfl,rfl,rfl,by decide +kernel,rfl,by decide +kernel,by decide +kernel⟩
def una(n k:Nat):List Int:=List.replicate k 0++[1]++List.replicate (n-k-1) 0
def spUa:Sp:=λvs H Q _=>∃(n k:Nat),vs=[.int n,.int k]/\k<n/\n<=4/\∀(t:Addr)(H':Hp),Same H H'->H' t=some (.tup ((una n k).map V.int))->Q (.ref t) H'
theorem apy_(F:Fun K "unknown_alone" "unknown_alone" sUa f fd):FnOk P w K mg base CX0 2 f fd ["many", "place"] spUa:=by
 refine F.ok scUa (λvs H Q E h=>?_) (λcdv A outer s H vs Q E hr h=>?_)
 ·obtain⟨n,k,rfl,_⟩:=h
  rfl
 obtain⟨n,k,rfl,hk,n4,q⟩:=h
 refine⟨_,qf_ (qn_ (qi_ zi_ (qi_ zi_ (qi_ jP_ (qs_ (qa_ qg_ qb_)) (pv 1)) (qs_ (qa_ qg_ qb_))) (qi_ jP_ (qs_ (qa_ qg_ qb_)) (qi_ qZ_ (qi_ qZ_ (pv 0) (pv 1)) qg_)))),?_⟩
 refine⟨(by show 1<=sizeLine;decide),λt0 h0=>?_⟩
 have s0:=qd_ h0 (.tup [.int 0])
 refine⟨_,rfl,t0,[0],_,rfl,rfl,qc_,by simp,by omega,by omega,qr_ (by show 1*_<=100000;omega),λt1 H1 s1 h1=>?_⟩
 rw[yv_,An]at h1
 refine⟨(by show 1<=sizeLine;decide),λt2 h2=>?_⟩
 have s2:=qd_ h2 (.tup [.int 1])
 refine zd_ (r:=List.replicate k 0) (r':=[1]) (s2 _ _ h1) qc_ (qr_ (by rw[BM];show k+1<=100000;omega)) λt3 H3 s3 h3=>?_
 refine⟨(by show 1<=sizeLine;decide),λt4 h4=>?_⟩
 have s4:=qd_ h4 (.tup [.int 0])
 refine⟨_,rfl,_,rfl,_,_,rfl,rfl,_,_,rfl,rfl,t4,[0],_,rfl,rfl,qc_,by simp,by omega,by omega,qr_ (by show 1*_<=100000;omega),λt5 H5 s5 h5=>?_⟩
 rw[yv_,show((n:Int)-(k:Int)-1).toNat=n-k-1 by omega]at h5
 refine zd_ (r:=List.replicate k 0++[1]) (r':=List.replicate (n-k-1) 0) (s5 _ _ (s4 _ _ h3)) h5 (qr_ (by rw[AE,BM,BM];show k+1+_<=100000;omega)) λt6 H6 s6 h6=>?_
 exact q t6 H6 (s0.trans (s1.trans (s2.trans (s3.trans (s4.trans (s5.trans s6)))))) h6
def dif1(n l e:Nat):List Mon:=[(una n e,1),(una n l,-1)]
def difR(n l:Nat):List (List Mon):=(List.range l).map (dif1 n l)
def yT_(n:Nat):List (List Mon):=(List.range n).flatMap (difR n)
def qW_(n:Nat):List Mon:=prL n (yT_ n)
def vr_(n d b:Nat)(ts:List Mon):Bool:=ts.all λt=>decide (t.1.length=n)&&t.1.all (λx=>decide (0<=x))&&decide (t.1.sum<=(d:Int))&&decide (t.2.natAbs<2^b)
theorem xf_{n d b:Nat}{ts:List Mon}(h:vr_ n d b ts=true):Deg n d b ts:=by
 unfold vr_ at h
 rw[Ad]at h
 have k:∀t∈ts,((t.1.length=n/\∀x∈t.1,0<=x)/\t.1.sum<=(d:Int))/\t.2.natAbs<2^b:=λt ht=>by
  have:=h t ht
  rw[AQ,AQ,AQ,decide_eq_true_eq,decide_eq_true_eq,decide_eq_true_eq,Ad]at this
  exact⟨⟨⟨this.1.1.1,λx hx=>of_decide_eq_true (this.1.1.2 x hx)⟩,this.1.2⟩,this.2⟩
 exact⟨λt ht=>(k t ht).1.1.1,λt ht=>(k t ht).1.1.2,λt ht=>(k t ht).1.2,λt ht=>(k t ht).2⟩
theorem af6_:∀n∈[1,2,3,4],((List.range (yT_ n).length).all (λi=>vr_ n 6 10 (prL n ((yT_ n).take i))&&vr_ n 1 1 ((yT_ n).getD i [])&&decide ((prL n ((yT_ n).take i)).length*((yT_ n).getD i []).length<=100))&&vr_ n 6 10 (qW_ n)&&decide ((qW_ n).length<=24))=true:=by decide +kernel
abbrev nDf:List Str:=["many", "factors", "later", "earlier"]
theorem scDf:FnScope nDf ["many"] (qh_ sDf):=⟨rfl,rfl,rfl,by decide +kernel,rfl,by decide +kernel,by decide +kernel⟩
def spDf:Sp:=λvs H Q _=>∃n:Nat,vs=[.int n]/\n∈[1,2,3,4]/\∀(l:Addr)(H':Hp),H l=none->Same H H'->LstAt H' l (qW_ n)->Q (.ref l) H'
theorem apz_(F:Fun K "differences" "differences" sDf f fd)(GU:Has P w K mg base 4 "unknown_alone" ["many", "place"] spUa)(GP:Has P w K mg base 4 "product" ["many", "factors"] ajt_)(mr:mg "range" = none):FnOk P w K mg base CX0 5 f fd ["many"] spDf:=by
 refine F.ok scDf (λvs H Q E h=>?_) (λcdv A outer s H vs Q E hr h=>?_)
 ·obtain⟨n,rfl,_⟩:=h
  rfl
 obtain⟨n,rfl,hn,q⟩:=h
 have n14:1<=n/\n<=4:=by
  simp at hn
  omega
 obtain⟨n1,n4⟩:=n14
 refine⟨_,qe_ (qm_ (i:=1) scDf.nd rfl (Or.inl rfl) (qv_ qb_))
  (qe_ (qw_ Ah rfl (zm_ rfl mr (qa_ (pv 0) qb_)) (qj_ (i:=2) scDf.nd rfl (Or.inl rfl))
   (qf_ (qw_ Ah rfl (zm_ rfl mr (qa_ (pv 2) qb_)) (qj_ (i:=3) scDf.nd rfl (Or.inl rfl))
    (qf_ (q2_ (z5_ Au As At qS_ (pv 1) (qa_ (qv_ (qa_ (qs_ (qa_ (qo_ GU hr rfl (qa_ (pv 0) (qa_ (pv 3) qb_))) (qa_ qg_ qb_))) (qa_ (qs_ (qa_ (qo_ GU hr rfl (qa_ (pv 0) (qa_ (pv 2) qb_))) (qa_ (yd_ xk_ qg_) qb_))) qb_))) qb_)))))))
  (qf_ (qn_ (qo_ GP hr rfl (qa_ (pv 0) (qa_ (pv 1) qb_)))))),?_⟩
 refine⟨(by show 0<=sizeLine;decide),λp hp=>?_⟩
 have s0:=qd_ hp (.lst [])
 refine⟨_,rfl,(n:Int),rfl,by omega,by omega,?_⟩
 rw[An]
 refine zI_ (lo:=0) (n:=n) (λi σ H'=>∃(xs:List Addr)(c2 c3:Option V),σ=[some (.int n),some (.ref p),c2,c3]/\H' p=some (.lst (xs.map V.ref))/\Paired (λx f=>x≠p/\LstAt H' x f) xs ((List.range i).flatMap (difR n))/\xs.length<=4*i/\Same H H') ?_ ?_ ?_
 ·exact⟨[],_,_,rfl,qc_,.nil,by simp,s0⟩
 ·rintro i σ H1 hi ⟨xs,c2,c3,rfl,h1,hP,lx,s1⟩
  rw[Ch]
  refine⟨_,rfl,(i:Int),rfl,by omega,by omega,?_⟩
  rw[An,Bb,Bi,Be]
  generalize (List.range i).flatMap (difR n)=pre at hP
  refine zI_ (lo:=0) (n:=i) (λj σ H'=>∃(xs:List Addr)(c3:Option V),σ=[some (.int n),some (.ref p),some (.int (i:Int)),c3]/\H' p=some (.lst (xs.map V.ref))/\Paired (λx f=>x≠p/\LstAt H' x f) xs (pre++(List.range j).map (dif1 n i))/\xs.length<=4*i+j/\Same H H') ?_ ?_ ?_
  ·exact⟨xs,_,rfl,h1,by rw[List.range_zero,Bw,Ax];exact hP,by omega,s1⟩
  ·rintro j σ H2 hj ⟨ys,c3',rfl,h2,hQ,ly,s2⟩
   rw[Ch]
   refine⟨_,rfl,.inl ⟨rfl,_,SqL.of h2⟩,_,rfl,_,rfl,n,j,rfl,by omega,n4,λt3 H3 s3 h3=>?_⟩
   refine⟨(by show 2<=sizeLine;decide),λt4 h4=>?_⟩
   have s4:=qd_ h4 (.tup [.ref t3,.int 1])
   refine⟨_,rfl,_,rfl,n,i,rfl,hi,n4,λt5 H5 s5 h5=>?_⟩
   refine⟨_,rfl,(by show 2<=sizeLine;decide),λt6 h6=>⟨(by show 2<=sizeLine;decide),λl7 h7=>?_⟩⟩
   have s6:=qd_ h6 (.tup [.ref t5,.int (-1)])
   have s7:=qd_ h7 (.lst [.ref t4,.ref t6])
   have z:=s3.trans (s4.trans (s5.trans (s6.trans s7)))
   have h2z:=z _ _ h2
   have n7:l7≠p:=λe=>by
    have:=s6 _ _ (s5 _ _ (s4 _ _ (s3 _ _ h2)))
    rw[e,this]at h7
    cases h7
   have keep:∀{x:Addr}{f:List Mon}{G:Hp}{us:List V}(o:HO),x≠p->G p=some (.lst us)->LstAt G x f->LstAt (upd G p o) x f:=λ{x f G us} o nx hG ⟨ws,ew,iw⟩=>⟨ws,by rw[qk_ nx];exact ew,Its.mono (λq ys' e'=>by rw[qk_ (zA_ e' hG (by intro z;cases z))];exact e') iw⟩
   refine⟨p,_,_,rfl,rfl,h2z,zn_ (by rw[AA];omega),ys++[l7],_,rfl,?_,?_,by rw[AE,Ay];omega,yB_ hp (s2.trans z) _⟩
   ·rw[Ao]
    exact qc_
   ·rw[Bb,Ao,<-AX]
    refine Paired.app (Paired.mono (λx f q=>⟨q.1,keep _ q.1 h2z (q.2.mono z)⟩) hQ) (.cons ⟨n7,keep _ n7 h2z ⟨[.ref t4,.ref t6],qc_,.cons (q5_ (t:=(una n j,1)) (s7 _ _ (s6 _ _ (s5 _ _ qc_))) (s7 _ _ (s6 _ _ (s5 _ _ (s4 _ _ h3))))) (.cons (q5_ (t:=(una n i,-1)) (s7 _ _ qc_) (s7 _ _ (s6 _ _ h5))) .nil)⟩⟩ .nil)
  ·rintro σ H2 ⟨ys,c3',rfl,h2,hQ,ly,s2⟩
   exact⟨ys,_,_,rfl,h2,hQ,by omega,s2⟩
 ·rintro σ H1 ⟨xs,c2,c3,rfl,h1,hP,lx,s1⟩
  have dk:=af6_ n hn
  rw[AQ,AQ,Ad]at dk
  refine⟨_,rfl,_,rfl,n,p,xs,yT_ n,rfl,n1,n4,h1,Paired.mono (λ_ _ q=>q.2) hP,λi g hg=>?_,λl H2 hl s2 hL=>q l H2 (s1.free hl) (s1.trans s2) hL⟩
  have:=dk.1.1 i (BH.mpr (AR.mp hg).1)
  rw[AQ,AQ,decide_eq_true_eq,AK,hg]at this
  exact⟨(xf_ this.1.1).mono (by decide) (by decide),(xf_ this.1.2).mono (by decide) (by decide),Aj this.2 (by decide)⟩
abbrev nAl:List Str:=["_law_row_here", "_law_many", "_law_powers_here", "_law_terms", "_law_order", "_law_sign"]
abbrev bA1:List Str:=["_law_k", "_law_number_here", "_law_many"]
abbrev bA2:List Str:=["_law_k", "_law_powers_here"]
theorem ndA1:bA1.Nodup:=by decide +kernel
theorem ndA2:bA2.Nodup:=by decide +kernel
theorem scAl:FnScope nAl ["_law_row_here", "_law_many"] (qh_ sAl):=⟨rfl,rfl,rfl,by decide +kernel,rfl,by decide +kernel,by decide +kernel⟩
def spAl:Sp:=λvs H Q _=>∃(p:Addr)(n:Nat)(r:List Int),vs=[.ref p,.int n]/\H p=some (.tup (r.map V.int))/\1<=n/\n<=4/\r.length<=n/\∀(l:Addr)(H':Hp),H l=none->Same H H'->LstAt H' l (norm (qV_ n r))->Q (.ref l) H'
theorem aqx_(F:Fun K "_law_alternating" "_law_alternating" sAl f fd)(GS:Has P w K mg base 3 "_law_sum" ["_law_terms"] xE_)(GO:Has P w K mg base 3 "_law_signed_orders" ["_law_many"] spSo)(me:mg "enumerate" = none)(ml:mg "list" = none)(mn:mg "len" = none)(mt:mg "tuple" = none):FnOk P w K mg base CX0 4 f fd ["_law_row_here", "_law_many"] spAl:=by
 refine F.ok scAl (λvs H Q E h=>?_) (λcdv A outer s H vs Q E hr h=>?_)
 ·obtain⟨p,n,r,rfl,_⟩:=h
  rfl
 obtain⟨p,n,r,rfl,hp,n1,n4,hl,q⟩:=h
 refine⟨_,qe_ (qm_ (i:=2) scAl.nd rfl (Or.inr rfl) (qO_ (N':=bA1) (src:=[none,none,some 1]) rfl (ac2_ .lst rfl me (qa_ (qi_ jb_ (qN_ jG_ rfl ml B5 (qa_ (pv 0) qb_)) (qi_ afg_ (qv_ (qa_ qg_ qb_)) (qi_ qZ_ (pv 1) (qp_ qI_ rfl mn BZ (qa_ (pv 0) qb_))))) qb_)) (ze_ (qh_ sAl) nAl (by decide +kernel))
    (λb=>qU_ rfl (ql_ (qj_ (i:=0) ndA1 rfl (Or.inl rfl)) (ql_ (qj_ (i:=1) ndA1 rfl (Or.inl rfl)) qF_))) (λb=>q4_) (λb=>qi_ qZ_ (qi_ qZ_ (qi_ qM_ (pv 1) (pv 2)) qg_) (pv 0))))
  (qe_ (qm_ (i:=3) scAl.nd rfl (Or.inl rfl) (qv_ qb_))
  (qe_ (qw_ Ah rfl (qu_ (qo_ GO hr rfl (qa_ (pv 1) qb_))) (qU_ rfl (ql_ (qj_ (i:=4) scAl.nd rfl (Or.inl rfl)) (ql_ (qj_ (i:=5) scAl.nd rfl (Or.inl rfl)) qF_)))
   (qf_ (q2_ (z5_ Au As At qS_ (pv 3) (qa_ (qs_ (qa_
    (qN_ qQ_ rfl mt Av (qa_ (qO_ (N':=bA2) (src:=[none,some 2]) rfl (jF_ (pv 4)) (ze_ (qh_ sAl) nAl (by decide +kernel))
     (λb=>qj_ (i:=0) ndA2 rfl (Or.inl rfl)) (λb=>q4_) (λb=>qG_ zO_ (pv 1) (pv 0) (λ_ _=>rfl))) qb_))
    (qa_ (pv 5) qb_))) qb_)))))
  (qf_ (qn_ (qo_ GS hr rfl (qa_ (pv 3) qb_)))))),?_⟩
 have fr:∀k:Nat,(List.replicate k [V.int 0]).flatten=(List.replicate k (0:Int)).map V.int:=by
  intro k
  induction k with
  |zero=>rfl
  |succ k ih=>rw[Ar,BV,ih,Ar,Aa];rfl
 refine⟨_,rfl,p,_,rfl,.inr (SqT.of hp),λl1 h1=>?_⟩
 have s1:=qd_ h1 (.lst (r.map V.int))
 refine⟨(by show 1<=sizeLine;decide),λl2 h2=>?_⟩
 have s2:=qd_ h2 (.lst [.int 0])
 have s12:=s1.trans s2
 refine⟨_,rfl,_,rfl,p,_,rfl,.inr (SqT.of (s12 _ _ hp)),_,_,rfl,rfl,?_⟩
 rw[AA]
 refine⟨l2,(n:Int)-(r.length:Int),[.int 0],rfl,rfl,qc_,by omega,by omega,qr_ (by show 1*_<=_;omega),λl3 h3=>?_⟩
 rw[fr,show((n:Int)-(r.length:Int)).toNat=n-r.length by omega]
 have s3:=qd_ h3 (.lst ((List.replicate (n-r.length) (0:Int)).map V.int))
 refine⟨l1,l3,_,_,rfl,rfl,s3 _ _ (s2 _ _ qc_),qc_,qr_ (by rw[AA,AA,BM];omega),λl4 h4=>?_⟩
 rw[<-Ao]
 obtain⟨R,hR⟩:∃R,R=r++List.replicate (n-r.length) (0:Int):=⟨_,rfl⟩
 rw[<-hR]
 have lR:R.length=n:=by rw[hR,AE,BM];omega
 have gR:∀i,i<n->R[i]?=some (r.getD i 0):=λi hi=>by
  rw[hR,List.getElem?_append,AK]
  by_cases c:i<r.length
  ·rw[if_pos c,AH c];rfl
  ·rw[if_neg c,Ca,if_pos (by omega),CJ (by omega)];rfl
 have s4:=qd_ h4 (.lst (R.map V.int))
 have s14:=s12.trans (s3.trans s4)
 refine⟨l4,rfl,⟨_,SqL.of qc_⟩,λbk D hD=>?_⟩
 refine v8_ (α:=Int) (k1:=.lst) (xs:=R.map V.int) hD (SqL.of qc_) (λσ=>∃c d,σ=[c,d,some (.int n)]) (λi=>(R[i]?).bind λx=>some (x+(n:Int)-1-(i:Int))) (qr_ (by rw[AA];omega)) ?_ ?_ ?_
 ·exact⟨_,_,rfl⟩
 ·rintro i v p2 σ H2 Yes No hv hp2 ⟨c,d,rfl⟩ s5 yes no
  obtain⟨x,hx,rfl⟩:∃x,R[i]?=some x/\V.int x=v:=by
   rw[AT]at hv
   cases e:R[i]? with
   |none=>rw[e]at hv;cases hv
   |some y=>rw[e]at hv;exact⟨y,rfl,AW hv⟩
  refine⟨p2,_,rfl,SqT.of qc_,rfl,_,_,rfl,_,_,rfl,rfl,?_⟩
  refine yN_ ?_
  refine⟨_,rfl,_,rfl,_,_,rfl,rfl,_,_,rfl,rfl,_,rfl,_,_,rfl,rfl,?_⟩
  exact yes _ _ _ (x+(n:Int)-1-(i:Int)) ⟨_,_,rfl⟩ (qd_ hp2 _) (by rw[hx];rfl) rfl
 rintro H5 s5 ⟨ws,eD,iD⟩
 have ez:(List.range (R.map V.int).length).filterMap (λ(i:Nat)=>(R[i]?).bind λx=>some (x+(n:Int)-1-(i:Int)))=ph n r:=by
  rw[AA,lR]
  unfold ph
  have key:∀l:List Nat,(∀i∈l,i<n)->l.filterMap (λ(i:Nat)=>(R[i]?).bind λx=>some (x+(n:Int)-1-(i:Int)))=l.map λ(k:Nat)=>r.getD k 0+(n:Int)-1-(k:Int):=by
   intro l
   induction l with
   |nil=>intro _;rfl
   |cons i l ih =>
    intro h
    rw[Bg,gR i (h i (AD ..)),Aa,<-ih λj hj=>h j (AC _ hj)]
    rfl
  exact key _ λi hi=>BH.mp hi
 rw[zp_ iD,ez]at eD
 have lp:(ph n r).length=n:=by unfold ph;rw[AA,BI]
 have sA:=s14.trans s5
 refine⟨(by show 0<=sizeLine;decide),λlt hlt=>?_⟩
 have s6:=qd_ hlt (.lst [])
 obtain⟨k1,k2⟩:=aaz_ n4
 refine⟨_,rfl,n,rfl,n4,λlo H6 flo s7 hLo=>?_⟩
 obtain⟨us,eL,iL⟩:=id hLo
 have lu:=AL iL
 have s67:=s6.trans s7
 have hlt0:H6 lt=some (.lst []):=s7 _ _ qc_
 refine⟨lo,rfl,⟨_,SqL.of eL⟩,?_⟩
 refine qE_ (xs:=us) (λi σ H'=>(∃c4 c5,σ=[some (.ref p),some (.int n),some (.ref D),some (.ref lt),c4,c5])/\Same H5 H'/\H' lo=some (.lst us)/\Tups H6 H'/\LstAt H' lt (((sgo n).take i).map λt=>(t.1.map λk=>(ph n r).getD k.toNat 0,t.2))) ?_ ?_ ?_ ?_
 ·exact⟨⟨_,_,rfl⟩,s67,eL,Tups.refl _,⟨[],hlt0,.nil⟩⟩
 ·rintro i σ H7 _ ⟨_,_,h7,_⟩
  exact SqL.of h7
 ·rintro i v σ H7 hv ⟨⟨c4,c5,rfl⟩,s8,h7,tp,⟨ys,eY,iY⟩⟩
  obtain⟨t,ht,hi⟩:=qD_ iL hv
  obtain⟨pp,kk,rfl,hpp,hkk⟩:=q7_ hi
  obtain⟨t1,t2,t3⟩:=k2 t (AY ht)
  have ly:=AL iY
  rw[AA,AS]at ly
  have hD7:=s8 _ _ eD
  have hk7:=tp _ _ hkk
  refine⟨pp,_,rfl,SqT.of (tp _ _ hpp),rfl,_,_,rfl,_,_,rfl,rfl,?_⟩
  refine⟨_,rfl,.inl ⟨rfl,_,SqL.of eY⟩,_,rfl,kk,rfl,⟨_,SqT.of hk7⟩,λbk2 D2 hD2=>?_⟩
  refine jq_ (α:=Int) hD2 (SqT.of hk7) (λσ=>∃c,σ=[c,some (.ref D)]) (λj=>(t.1[j]?).bind λk=>some ((ph n r).getD k.toNat 0)) (qr_ (by rw[AA];omega)) ?_ ?_ ?_
  ·exact⟨_,rfl⟩
  ·rintro j v σ H8 Yes No hv ⟨c,rfl⟩ s9 yes no
   obtain⟨k,hk,rfl⟩:∃k,t.1[j]?=some k/\V.int k=v:=by
    rw[AT]at hv
    cases e:t.1[j]? with
    |none=>rw[e]at hv;cases hv
    |some y=>rw[e]at hv;exact⟨y,rfl,AW hv⟩
   obtain⟨b1,b2⟩:=t3 k (AY hk)
   obtain⟨m,rfl⟩:∃m:Nat,k=(m:Int):=⟨k.toNat,by omega⟩
   refine zE_ ?_
   refine⟨_,rfl,_,rfl,D,_,_,.int ((ph n r).getD m 0),rfl,rfl,SqL.of (s9 _ _ hD7),?_,?_⟩
   ·refine q8_ ?_
    rw[AT,AH (show m<(ph n r).length by omega),AK,AH (show m<(ph n r).length by omega)]
    rfl
   ·exact yes _ _ _ _ ⟨_,rfl⟩ (Same.refl _) (by rw[hk];rfl) rfl
  rintro H8 s9 ⟨ws2,eD2,iD2⟩
  have ez2:(List.range (t.1.map V.int).length).filterMap (λj=>(t.1[j]?).bind λk=>some ((ph n r).getD k.toNat 0))=t.1.map λk=>(ph n r).getD k.toNat 0:=by
   rw[AA,qT_,Aq]
  rw[zp_ iD2,ez2]at eD2
  refine⟨D2,_,rfl,.inl ⟨SqL.of eD2,λq1 hq1=>?_⟩⟩
  have s10:=qd_ hq1 (.tup ((t.1.map λk=>(ph n r).getD k.toNat 0).map V.int))
  refine⟨_,rfl,(by show 2<=sizeLine;decide),λq2 hq2=>?_⟩
  have s11:=qd_ hq2 (.tup [.ref q1,.int t.2])
  have s79:=s9.trans (s10.trans s11)
  have eY8:=s79 _ _ eY
  have h8:=s11 _ _ (qc_ (H:=H8) (a:=q1) (o:=.tup ((t.1.map λk=>(ph n r).getD k.toNat 0).map V.int)))
  have h9:upd (upd H8 q1 (.tup ((t.1.map λk=>(ph n r).getD k.toNat 0).map V.int))) q2 (.tup [.ref q1,.int t.2]) q2=some (.tup [.ref q1,.int t.2]):=qc_
  generalize upd (upd H8 q1 (.tup ((t.1.map λk=>(ph n r).getD k.toNat 0).map V.int))) q2 (.tup [.ref q1,.int t.2])=H9 at s79 eY8 h8 h9 ⊢
  have nlo:lo≠lt:=by
   intro z
   have z1:upd H5 lt (.lst []) lt=some (.lst []):=qc_
   rw[z,z1]at flo
   cases flo
  have tu:∀c xs,H9 c=some (.tup xs)->upd H9 lt (.lst (ys++[.ref q2])) c=some (.tup xs):=λc xs z=>by
   rw[qk_ (zA_ z eY8 (by intro z;cases z))]
   exact z
  refine⟨lt,ys,.ref q2,rfl,rfl,eY8,zn_ (by omega),⟨_,_,rfl⟩,λc o z=>?_,?_,λc xs z=>tu _ _ (s79 _ _ (tp _ _ z)),?_⟩
  ·rw[qk_ (qq_ z hlt)]
   exact s79 _ _ (s8 _ _ z)
  ·rw[qk_ nlo]
   exact s79 _ _ h7
  ·rw[qH_ ht,Ao]
   exact⟨ys++[.ref q2],qc_,Paired.app (Its.mono (λc xs z=>tu _ _ (s79 _ _ z)) iY) (.cons (q5_ (t:=(t.1.map λk=>(ph n r).getD k.toNat 0,t.2)) (q:=q1) (tu _ _ h9) (tu _ _ h8)) .nil)⟩
 ·rintro σ H7 ⟨⟨c4,c5,rfl⟩,s8,h7,tp,hY⟩
  rw[AN (by omega)]at hY
  refine⟨_,rfl,lt,qV_ n r,rfl,hY,by unfold qV_;rw[AA];omega,λl9 H9 fl9 s9 hL9=>?_⟩
  exact q l9 _ (sA.free (s8.free fl9)) (sA.trans (s8.trans s9)) hL9
def unl(ts:List Mon)(k:Nat):List Mon:=norm (ts++ngt (x6_ ts k))
def UnR(ts:List Mon)(m:Nat):Option (Nat×Pw)->Prop
 |none=>∀k,k<m->unl ts k=[]
 |some (k,p)=>k<m/\(∀j,j<k->unl ts j=[])/\∃t r,unl ts k=t::r/\t.1=p
theorem UnR.one{ts:List Mon}{m:Nat}:∀{a b:Option (Nat×Pw)},UnR ts m a->UnR ts m b->a=b
 |none,none,_,_=>rfl
 |none,some (k,p),h,⟨hk,_,t,r,e,_⟩=>by rw[h k hk]at e;cases e
 |some (k,p),none,⟨hk,_,t,r,e,_⟩,h=>by rw[h k hk]at e;cases e
 |some (k,p),some (j,q),⟨hk,hk',t,r,e,ep⟩,⟨hj,hj',t',r',e',ep'⟩=>by
  have:k=j:=by
   rcases Nat.lt_trichotomy k j with c|c|c
   ·rw[hj' k c]at e;cases e
   ·exact c
   ·rw[hk' j c]at e';cases e'
  subst this
  rw[e]at e'
  cases e'
  rw[<-ep,ep']
def isU(H:Hp)(v:V):Option (Nat×Pw)->Prop
 |none=>v=.non
 |some (k,p)=>∃t kk,v=.ref t/\H t=some (.tup [.int k,.ref kk])/\H kk=some (.tup (p.map V.int))
theorem adg_(ts:List Mon)(k:Nat):(unl ts k).length<=2*ts.length:=by
 unfold unl
 refine Aj (zy_ _) ?_
 rw[AE]
 have:=zy_ (ts.map λt=>(swp t.1 k,t.2))
 rw[AA]at this
 unfold ngt x6_
 rw[AA]
 omega
theorem aa1_{ts:List Mon}{k n:Nat}(hk:k+1<n)(hl:∀t∈ts,t.1.length=n):∀t∈x6_ ts k,t.1.length=n:=λt ht=>by
 obtain⟨u,hu,e⟩:=qY_ ht
 obtain⟨x,hx,rfl⟩:=Ae.mp hu
 rw[<-e]
 show(swp x.1 k).length=n
 rw[xI_ (by rw[hl x hx];exact hk),hl x hx]
theorem vY_{n:Nat}(n1:1<=n){ts:List Mon}(h:∀t∈ts,t.1.length=n):∀t∈ts,t.1≠[]:=λt ht e=>by
 have:=h t ht
 rw[e]at this
 simp at this
 omega
abbrev nUn:List Str:=["many", "some", "place", "unlike"]
abbrev pUn:List Str:=["many", "some"]
theorem scUn:FnScope nUn pUn (qh_ sUn):=⟨rfl,rfl,rfl,by decide +kernel,rfl,by decide +kernel,by decide +kernel⟩
def spUn(cBC:Addr):Sp:=λvs H Q E=>∃(n:Int)(a:Addr)(ts:List Mon),vs=[.int n,.ref a]/\LstAt H a ts/\ts.length<=1000/\(¬ (1<=n/\n<=4)->E (.ref cBC) none H) /\
 (1<=n/\n<=4->(∀t∈ts,t.1.length=n.toNat)/\∀(v:V)(o:Option (Nat×Pw))(H':Hp),Same H H'->UnR ts (n.toNat-1) o->isU H' v o->Q v H')
theorem aqy_{cBC:Addr}(F:Fun K "uneven" "uneven" sUn f fd)(GC:HasX P w K mg base 3 "refuse_bad_count" ["many"] (agd_ cBC))(GL:Has P w K mg base 3 "less" nPl (ajy_ λts us=>ts++ngt us))(GE:Has P w K mg base 3 "exchanged" ["some", "place"] agx_)(mr:mg "range" = none):FnOk P w K mg base (CX1 P w) 4 f fd pUn (spUn cBC):=by
 refine Fun.okx F scUn (λvs H Q E h=>?_) (λcdv A outer s H vs Q E hr h=>?_)
 ·obtain⟨n,a,ts,rfl,_⟩:=h
  rfl
 obtain⟨n,a,ts,rfl,hL,hl,e1,q⟩:=h
 have hM:=BD (Bh (by decide:Dat.dep Mon+1<=64) _) hr.units
 refine⟨_,qe_ (q2_ (zF_ GC.ok hr rfl GC.at_ GC.kp GC.bd .nil ad2_ (qa_ (pv 0) qb_)))
  (qe_ (qw_ ag2_ rfl (zm_ rfl mr (qa_ (qi_ qZ_ (pv 0) qg_) qb_)) (qj_ (i:=2) scUn.nd rfl (Or.inl rfl))
   (qe_ (qm_ (i:=3) scUn.nd rfl (Or.inl rfl) (qo_ GL hr rfl (qa_ (pv 1) (qa_ (qo_ GE hr rfl (qa_ (pv 1) (qa_ (pv 2) qb_))) qb_))))
   (qf_ (qX_ (qy_ (y1_ (α:=Mon) hM) (pv 3) (qv_ qb_) (qt_ _)) (qf_ (qn_ (qs_ (qa_ (pv 2) (qa_ (qG_ q0_ (qG_ zO_ (pv 3) qg_ (λ_ _=>rfl)) qg_ (λ_ _=>rfl)) qb_))))) qz_))))
  (qf_ (qn_ xq_))),?_⟩
 refine⟨_,rfl,n,rfl,λhn=>?_,e1⟩
 obtain⟨n,rfl,n1,n4⟩:∃k:Nat,n=k/\1<=k/\k<=4:=⟨n.toNat,by omega,by omega,by omega⟩
 obtain⟨lens,q⟩:=q hn
 rw[An]at lens q
 refine⟨_,rfl,_,_,rfl,rfl,_,rfl,by omega,by omega,?_⟩
 rw[show((n:Int)-1).toNat=n-1 by omega]
 refine zI_ (lo:=0) (n:=n-1) (λi σ H'=>(∃c2 c3,σ=[some (.int n),some (.ref a),c2,c3])/\Same H H'/\∀k,k<i->unl ts k=[]) ?_ ?_ ?_
 ·exact⟨⟨_,_,rfl⟩,Same.refl _,λk hk=>absurd hk (Nat.not_lt_zero _)⟩
 ·rintro i σ H1 hi ⟨⟨c2,c3,rfl⟩,s1,hz⟩
  rw[Ch]
  refine⟨_,rfl,_,rfl,_,rfl,a,n,i,ts,rfl,hL.mono s1,lens,by omega,by omega,by omega,λl2 H2 hl2 s2 h2=>?_⟩
  have el:=zy_ (ts.map λt=>(swp t.1 i,t.2))
  rw[AA]at el
  refine⟨a,l2,ts,x6_ ts i,rfl,hL.mono (s1.trans s2),h2,vY_ n1 lens,vY_ n1 (aa1_ (by omega) lens),by unfold x6_;omega,λl3 H3 hl3 s3 h3=>?_⟩
  have h3:LstAt H3 l3 (unl ts i):=h3
  have ul:=adg_ ts i
  refine⟨_,rfl,(by show 0<=sizeLine;decide),λl4 hl4=>?_⟩
  have s4:=qd_ hl4 (.lst [])
  have sH:=s1.trans (s2.trans (s3.trans s4))
  refine⟨l3,l4,unl ts i,[],rfl,rfl,h3.mono s4,⟨[],qc_,.nil⟩,_,rfl,?_⟩
  cases eu:unl ts i with
  |nil=>exact zb_ ⟨⟨_,_,rfl⟩,sH,λk hk=>by
    rcases D1.mp hk with c|c
    ·exact hz k c
    ·rw[c];exact eu⟩
  |cons t r =>
   rw[eu]at h3
   refine z9_ ?_
   obtain⟨vs,eL,iL⟩:=h3.mono s4
   obtain⟨v0,vr,rfl⟩:∃v0 vr,vs=v0::vr:=by
    cases vs with
    |nil=>cases iL
    |cons x y=>exact⟨x,y,rfl⟩
   obtain⟨x,hx,hi0⟩:=qD_ (i:=0) iL rfl
   cases hx
   obtain⟨p,kk,rfl,hp,hkk⟩:=q7_ hi0
   refine⟨_,rfl,_,rfl,l3,_,_,.ref p,rfl,rfl,SqL.of eL,q8_ (j:=0) rfl,p,_,_,.ref kk,rfl,rfl,SqT.of hp,q8_ (j:=0) rfl,(by show 2<=sizeLine;decide),λt5 h5=>?_⟩
   have s5:=qd_ h5 (.tup [.int i,.ref kk])
   exact q _ (some (i,t.1)) _ (sH.trans s5) ⟨hi,hz,t,r,eu,rfl⟩ ⟨t5,kk,rfl,qc_,s5 _ _ hkk⟩
 ·rintro σ H1 ⟨⟨c2,c3,rfl⟩,s1,hz⟩
  exact q _ none _ s1 hz rfl
theorem age_(f:Pw->Int)(k:Nat):∀ts:List Mon,sm f (ts.map λt=>(swp t.1 k,0-t.2))=- sm f (ts.map λt=>(swp t.1 k,t.2))
 |[]=>rfl
 |t::r=>by
  rw[Aa,Aa]
  show(0-t.2)*f (swp t.1 k)+sm f (r.map λt=>(swp t.1 k,0-t.2))=- (t.2*f (swp t.1 k)+sm f (r.map λt=>(swp t.1 k,t.2)))
  rw[age_ f k r,Int.sub_mul,Int.zero_mul]
  omega
theorem alr_(ts:List Mon)(k:Nat):norm (ts++ts.map λt=>(swp t.1 k,0-t.2))=unl ts k:=by
 unfold unl
 refine je_ λf=>?_
 rw[j0_,j0_,jm_,age_]
 unfold x6_
 rw[qR_]
abbrev nDu:List Str:=["_law_some", "_law_many", "_law_k", "_law_terms", "_law_powers_here", "_law_number_here", "_law_turned_powers", "_law_left"]
abbrev pDu:List Str:=["_law_some", "_law_many"]
theorem scDu:FnScope nDu pDu (qh_ sDue):=⟨rfl,rfl,rfl,by decide +kernel,rfl,by decide +kernel,by decide +kernel⟩
def aj2_:Sp:=λvs H Q _=>∃(n:Nat)(a:Addr)(ts:List Mon),vs=[.ref a,.int n]/\LstAt H a ts/\ts.length<=1000/\1<=n/\n<=4/\(∀t∈ts,t.1.length=n)/\∀(v:V)(o:Option (Nat×Pw))(H':Hp),Same H H'->UnR ts (n-1) o->isU H' v o->Q v H'
theorem aml_(F:Fun K "_law_due" "_law_due" sDue f fd)(GS:Has P w K mg base 3 "_law_sum" ["_law_terms"] xE_)(mr:mg "range" = none)(ml:mg "list" = none):FnOk P w K mg base CX0 4 f fd pDu aj2_:=by
 refine F.ok scDu (λvs H Q E h=>?_) (λcdv A outer s H vs Q E hr h=>?_)
 ·obtain⟨n,a,ts,rfl,_⟩:=h
  rfl
 obtain⟨n,a,ts,rfl,⟨vs,eL,iL⟩,hl,n1,n4,lens,q⟩:=h
 have hM:=BD (Bh (by decide:Dat.dep Mon+1<=64) _) hr.units
 refine⟨_,qe_ (qw_ Ah rfl (zm_ rfl mr (qa_ (qi_ qZ_ (pv 1) qg_) qb_)) (qj_ (i:=2) scDu.nd rfl (Or.inl rfl))
   (qe_ (qm_ (i:=3) scDu.nd rfl (Or.inl rfl) (qN_ jG_ rfl ml B5 (qa_ (pv 0) qb_)))
   (qe_ (qw_ Ah rfl (qu_ (pv 0)) (qU_ rfl (ql_ (qj_ (i:=4) scDu.nd rfl (Or.inl rfl)) (ql_ (qj_ (i:=5) scDu.nd rfl (Or.inl rfl)) qF_)))
    (qe_ (qm_ (i:=6) scDu.nd rfl (Or.inl rfl) (qi_ zi_ (qi_ zi_ (za_ j2_ (pv 4) zw_ (zj_ (pv 2)))
     (qs_ (qa_ (qG_ q0_ (pv 4) (qi_ qM_ (pv 2) qg_) (λ_ _=>rfl)) (qa_ (qG_ q0_ (pv 4) (pv 2) (λ_ _=>rfl)) qb_))))
     (za_ j2_ (pv 4) (zj_ (qi_ qM_ (pv 2) qg_)) zw_)))
    (qf_ (q2_ (z5_ Au As At qS_ (pv 3) (qa_ (qs_ (qa_ (pv 6) (qa_ (qi_ qZ_ qg_ (pv 5)) qb_))) qb_))))))
   (qe_ (qm_ (i:=7) scDu.nd rfl (Or.inl rfl) (qo_ GS hr rfl (qa_ (pv 3) qb_)))
   (qf_ (qX_ (qy_ (y1_ (α:=Mon) hM) (pv 7) (qv_ qb_) (qt_ _)) (qf_ (qn_ (qs_ (qa_ (pv 2) (qa_ (qG_ q0_ (qG_ zO_ (pv 7) qg_ (λ_ _=>rfl)) qg_ (λ_ _=>rfl)) qb_))))) qz_))))))
  (qf_ (qn_ xq_)),?_⟩
 refine⟨_,rfl,_,_,rfl,rfl,_,rfl,by omega,by omega,?_⟩
 rw[show((n:Int)-1).toNat=n-1 by omega]
 have lv:=AL iL
 refine zI_ (lo:=0) (n:=n-1) (λi σ H'=>(∃c2 c3 c4 c5 c6 c7,σ=[some (.ref a),some (.int n),c2,c3,c4,c5,c6,c7])/\Same H H'/\∀k,k<i->unl ts k=[]) ?_ ?_ ?_
 ·exact⟨⟨_,_,_,_,_,_,rfl⟩,Same.refl _,λk hk=>absurd hk (Nat.not_lt_zero _)⟩
 ·rintro k σ H0 hk ⟨⟨c2,c3,c4,c5,c6,c7,rfl⟩,sA,hz⟩
  rw[Ch]
  have e1:((k:Int)+1)=((k+1:Nat):Int):=by omega
  have e2:((k:Int)+2)=((k+2:Nat):Int):=by omega
  have eL0:=sA _ _ eL
  refine⟨_,rfl,a,vs,rfl,.inl (SqL.of eL0),λl hl0=>?_⟩
  have s0:=qd_ hl0 (.lst vs)
  refine⟨_,rfl,a,rfl,⟨vs,SqL.of (s0 _ _ eL0)⟩,?_⟩
  refine qE_ (xs:=vs) (λi σ H'=>(∃c4 c5 c6,σ=[some (.ref a),some (.int n),some (.int k),some (.ref l),c4,c5,c6,c7])/\LstAt H' l (ts++(ts.take i).map λt=>(swp t.1 k,0-t.2))/\Same H0 H') ?_ ?_ ?_ ?_
  ·refine⟨⟨_,_,_,rfl⟩,?_,s0⟩
   rw[Bn,Bw,Ax]
   exact⟨vs,qc_,Its.mono (Tups.same (sA.trans s0)) iL⟩
  ·rintro i σ H1 _ ⟨_,_,s1⟩
   exact SqL.of (s1 _ _ eL0)
  ·rintro i x σ H1 hx ⟨⟨c4,c5,c6,rfl⟩,⟨ws,eW,iW⟩,s1⟩
   obtain⟨t,ht,hi⟩:=qD_ iL hx
   obtain⟨p,kk,rfl,hp,hkk⟩:=q7_ hi
   have pl:=lens t (AY ht)
   have lw:=AL iW
   have li:i<ts.length:=(AR.mp ht).1
   have hk1:=s1 _ _ (sA _ _ hkk)
   refine⟨p,_,rfl,SqT.of (s1 _ _ (sA _ _ hp)),rfl,_,_,rfl,_,_,rfl,rfl,?_⟩
   refine⟨_,rfl,_,rfl,_,rfl,kk,_,rfl,SqT.of hk1,?_,λp1 h1=>?_⟩
   ·rintro⟨_,z⟩
    rw[HT.sIx_nat,AA]at z
    omega
   rw[afi_ t.1 k (by omega)]
   have s2:=qd_ h1 (.tup ((t.1.take k).map V.int))
   have hk2:=s2 _ _ hk1
   refine⟨_,rfl,_,rfl,_,_,rfl,rfl,kk,_,_,_,rfl,rfl,SqT.of hk2,by rw[e1];exact ve_ (by omega),_,rfl,_,rfl,kk,_,_,_,rfl,rfl,SqT.of hk2,ve_ (by omega),(by show 2<=sizeLine;decide),λp2 h2=>?_⟩
   have s3:=qd_ h2 (.tup [.int (t.1.getD (k+1) 0),.int (t.1.getD k 0)])
   have hp1:=s3 _ _ (qc_ (H:=H1) (a:=p1) (o:=.tup ((t.1.take k).map V.int)))
   refine zd_ (r:=t.1.take k) (r':=[t.1.getD (k+1) 0,t.1.getD k 0]) hp1 qc_ (qr_ (by rw[AS];show min k t.1.length+2<=100000;omega)) λp3 H3 s4 h3=>?_
   have hk3:=s4 _ _ (s3 _ _ hk2)
   refine⟨_,rfl,_,rfl,_,_,rfl,rfl,_,rfl,kk,_,rfl,SqT.of hk3,?_,λp4 h4=>?_⟩
   ·rintro⟨z,_⟩
    rw[e2,HT.sIx_nat,AA]at z
    omega
   rw[e2,agg_]
   have s5:=qd_ h4 (.tup ((t.1.drop (k+2)).map V.int))
   refine zd_ (s5 _ _ h3) qc_ (qr_ (by rw[AE,AS,A0];show min k t.1.length+2+(t.1.length-(k+2))<=100000;omega)) λp5 H5 s6 h5=>?_
   have all5:=s2.trans (s3.trans (s4.trans (s5.trans s6)))
   refine⟨_,rfl,.inl ⟨rfl,_,SqL.of (all5 _ _ eW)⟩,?_⟩
   refine⟨_,rfl,_,rfl,_,_,rfl,rfl,(by show 2<=sizeLine;decide),λp6 h6=>?_⟩
   have s7:=qd_ h6 (.tup [.ref p5,.int (0-t.2)])
   have all:=all5.trans s7
   have eW6:=all _ _ eW
   refine⟨l,ws,_,rfl,rfl,eW6,zn_ (by rw[AE,AA,AS]at lw;omega),⟨_,_,_,rfl⟩,⟨ws++[.ref p6],qc_,?_⟩,λb o e=>?_⟩
   ·rw[qH_ ht,Ao,<-AX]
    have t6:∀o,Tups (upd H5 p6 (.tup [.ref p5,.int (0-t.2)])) (upd (upd H5 p6 (.tup [.ref p5,.int (0-t.2)])) l o):=λo r ys e=>by
     rw[qk_ (zA_ e eW6 (by intro z;cases z))];exact e
    refine CF (Its.mono ((Tups.same all).trans (t6 _)) iW) (Dat.mono (t6 _) (q5_ (t:=(swp t.1 k,0-t.2)) qc_ (s7 _ _ h5)))
   ·rw[qk_ (qq_ e hl0)]
    exact all _ _ (s1 b o e)
  ·rintro σ H1 ⟨⟨c4,c5,c6,rfl⟩,hL,s1⟩
   rw[AN (by omega)]at hL
   refine⟨_,rfl,l,_,rfl,hL,by rw[AE,AA];omega,λl3 H2 hl3 s2 h2=>?_⟩
   rw[alr_]at h2
   have ul:=adg_ ts k
   refine⟨_,rfl,(by show 0<=sizeLine;decide),λl4 hl4=>?_⟩
   have s4:=qd_ hl4 (.lst [])
   have sH:=sA.trans (s1.trans (s2.trans s4))
   refine⟨l3,l4,unl ts k,[],rfl,rfl,h2.mono s4,⟨[],qc_,.nil⟩,_,rfl,?_⟩
   cases eu:unl ts k with
   |nil=>exact zb_ ⟨⟨_,_,_,_,_,_,rfl⟩,sH,λj hj=>by
     rcases D1.mp hj with c|c
     ·exact hz j c
     ·rw[c];exact eu⟩
   |cons t r =>
    rw[eu]at h2
    refine z9_ ?_
    obtain⟨us,eU,iU⟩:=h2.mono s4
    obtain⟨v0,vr,rfl⟩:∃v0 vr,us=v0::vr:=by
     cases us with
     |nil=>cases iU
     |cons x y=>exact⟨x,y,rfl⟩
    obtain⟨x,hx,hi0⟩:=qD_ (i:=0) iU rfl
    cases hx
    obtain⟨p,kk,rfl,hp,hkk⟩:=q7_ hi0
    refine⟨_,rfl,_,rfl,l3,_,_,.ref p,rfl,rfl,SqL.of eU,q8_ (j:=0) rfl,p,_,_,.ref kk,rfl,rfl,SqT.of hp,q8_ (j:=0) rfl,(by show 2<=sizeLine;decide),λt5 h5=>?_⟩
    have s5:=qd_ h5 (.tup [.int k,.ref kk])
    exact q _ (some (k,t.1)) _ (sH.trans s5) ⟨hk,hz,t,r,eu,rfl⟩ ⟨t5,kk,rfl,qc_,s5 _ _ hkk⟩
 ·rintro σ H1 ⟨⟨c2,c3,c4,c5,c6,c7,rfl⟩,s1,hz⟩
  exact q _ none _ s1 hz rfl
def an8_:Stmt->List Stmt
 |.ClassDef _ _ _ b _ _ _ _ _ _ _=>b
 |_=>[]
abbrev vu_:Stmt:=(an8_ akf_).getD 0 (.Pass ⟨0,0,0,0⟩)
abbrev vE_:List Str:=["self", "place", "powers"]
theorem aqc_:FnScope vE_ vE_ (qh_ vu_):=⟨rfl,rfl,rfl,by decide +kernel,rfl,by decide +kernel,by decide +kernel⟩
structure XCls(K:PySem.W.Frag)(C fI:Addr):Prop where
 s:ExcS K C
 m:MkX K C fI
 p1:PySem.W.findIn K (.ref C) "place" = some none
 p2:PySem.W.findIn K (.ref C) "powers" = some none
def ajs_(C:Addr):Sp:=λvs H Q E=>∃(x:Addr)(v1 v2:V),vs=[.ref x,v1,v2]/\H x=some (xI x C none)/\∀d,H d=none->d≠x->Q .non (upd (upd (upd H d (xD d [("place",v1)])) x (xI x C (some d))) d (xD d [("place",v1),("powers",v2)]))
theorem amh_{C C0 fI:Addr}(F:Fun K "__init__" "Uneven.__init__" vu_ f fd)(M0:mg "EvenError" = some (.ref C0))(B:BInit K C0)(c:XCls K C fI):FnOk P w K mg base CX0 2 f fd vE_ (ajs_ C):=by
 refine Fun.ok F aqc_ (λvs H Q E h=>?_) (λcdv A outer s H vs Q E hr h=>?_)
 ·obtain⟨x,v1,v2,rfl,_⟩:=h
  rfl
 obtain⟨x,v1,v2,rfl,hx,q⟩:=h
 refine⟨_,qe_ (q2_ (ajc_ rfl M0 B (qa_ (pv 0) (qa_ zg_ qb_)))) (qe_ (adw_ (pv 0) (pv 1) rfl) (qf_ (adw_ (pv 0) (pv 2) rfl))),?_⟩
 refine⟨_,rfl,x,C,none,fI,_,rfl,hx,c.m.j,?_⟩
 refine⟨_,rfl,_,rfl,x,C,rfl,c.s,c.p1,.inl ⟨hx,λd hd dne=>?_⟩⟩
 refine⟨_,rfl,_,rfl,x,C,rfl,c.s,c.p2,.inr ⟨d,[("place",v1)],by rw[qc_],?_,(by decide:1<900),?_⟩⟩
 ·rw[qk_ dne,qc_]
 ·exact q d hd dne
abbrev nRu:List Str:=["many", "some", "found"]
theorem scRu:FnScope nRu pUn (qh_ sRu):=⟨rfl,rfl,rfl,by decide +kernel,rfl,by decide +kernel,by decide +kernel⟩
def spRu(cBC C:Addr):Sp:=λvs H Q E=>∃(n:Int)(a:Addr)(ts:List Mon),vs=[.int n,.ref a]/\LstAt H a ts/\ts.length<=1000/\(¬ (1<=n/\n<=4)->E (.ref cBC) none H) /\
 (1<=n/\n<=4->(∀t∈ts,t.1.length=n.toNat)/\(UnR ts (n.toNat-1) none->∀H',Same H H'->Q .non H') /\
  ∀k p,UnR ts (n.toNat-1) (some (k,p))->∀H' d kk,Same H H'->H d=none->H' d=some (xD d [("place",.int k),("powers",.ref kk)])->H' kk=some (.tup (p.map V.int))->E (.ref C) (some d) H')
theorem aqo_{cBC C fI:Addr}{fdI:FuncData}(F:Fun K "refuse_uneven" "refuse_uneven" sRu f fd)(GU:HasX P w K mg base 5 "uneven" pUn (spUn cBC))(OI:FnOk P w K mg base CX0 4 fI fdI vE_ (ajs_ C))(bI:Binds K fdI vE_ [])(c:XCls K C fI)(M6:mg "Uneven" = some (.ref C)):FnOk P w K mg base (CX1 P w) 6 f fd pUn (spRu cBC C):=by
 refine Fun.okx F scRu (λvs H Q E h=>?_) (λcdv A outer s H vs Q E hr h=>?_)
 ·obtain⟨n,a,ts,rfl,_⟩:=h
  rfl
 obtain⟨n,a,ts,rfl,hL,hl,e1,q⟩:=h
 refine⟨_,qe_ (qm_ (i:=2) scRu.nd rfl (Or.inl rfl) (zF_ GU.ok hr rfl GU.at_ GU.kp GU.bd .nil ad2_ (qa_ (pv 0) (qa_ (pv 1) qb_))))
  (qf_ (qX_ (qy_ vN_ (pv 2) xq_ (qt_ _)) (qf_ (agn_ rfl rsX c.m OI hr bI .nil xa_ rfl M6 (qa_ (qG_ q0_ (pv 2) qg_ (λ_ _=>rfl)) (qa_ (qG_ q0_ (pv 2) qg_ (λ_ _=>rfl)) qb_)))) qz_)),?_⟩
 refine⟨_,rfl,_,rfl,n,a,ts,rfl,hL,hl,e1,λhn=>?_⟩
 obtain⟨lens,q0,q1⟩:=q hn
 refine⟨lens,λv o H' sH hU hI=>?_⟩
 refine⟨_,rfl,rfl,_,rfl,?_⟩
 cases o with
 |none =>
  obtain rfl:v=.non:=hI
  exact zb_ (q0 hU H' sH)
 |some kp =>
  obtain⟨k,p⟩:=kp
  obtain⟨t,kk,rfl,ht,hk⟩:=hI
  refine z9_ ?_
  refine⟨_,rfl,t,_,_,_,rfl,rfl,SqT.of ht,rfl,_,rfl,t,_,_,_,rfl,rfl,SqT.of ht,rfl,(by show 2<=sizeLine;decide),λx hx=>?_⟩
  refine⟨x,_,_,rfl,qc_,λd hd dne=>⟨rfl,some d,?_,?_⟩⟩
  ·rw[qk_ (B2 dne),qc_]
  ·have hd':H' d=none:=by rw[qk_ dne]at hd;exact hd
   have key:∀b u,H' b=some u->drp x (upd (upd (upd (upd H' x (xI x C none)) d (xD d [("place",.int k)])) x (xI x C (some d))) d (xD d [("place",.int k),("powers",.ref kk)])) b=some u:=λb u hb=>by
    have n1:b≠x:=λz=>by rw[z,hx]at hb;cases hb
    have n2:b≠d:=λz=>by rw[z,hd']at hb;cases hb
    rw[jk_ n1,qk_ n2,qk_ n1,qk_ n2,qk_ n1]
    exact hb
   refine q1 k p hU _ d kk (sH.trans key) (sH.free hd') ?_ (key _ _ hk)
   rw[jk_ dne,qc_]
def qA_(n:Nat)(p:List Int):List Int:=(List.range p.length).map λ(i:Nat)=>p.getD i 0-(n:Int)+1+(i:Int)
def bfL(n:Nat)(D:List Mon):List Mon:=(D.filter λt=>isF (qA_ n t.1)).map λt=>(qL_ (qA_ n t.1),t.2)
theorem ab5_(n:Nat)(D:List Mon)(t:Mon):bfL n (D++[t])=bfL n D++if isF (qA_ n t.1)=true then [(qL_ (qA_ n t.1),t.2)] else []:=by
 unfold bfL
 rw[List.filter_append,Ao]
 congr 1
 cases c:isF (qA_ n t.1)<;>simp [c]
def bfF(n:Nat)(ts:List Mon):List Mon:=bfL n (norm (prd ts (qW_ n)))
theorem ae9_(n:Nat)(p:List Int):(List.range (p.map V.int).length).filterMap (λ(i:Nat)=>(p[i]?).bind λx=>some (x-(n:Int)+1+(i:Int)))=qA_ n p:=by
 rw[AA]
 unfold qA_
 have key:∀m,m<=p.length->(List.range m).filterMap (λ(i:Nat)=>(p[i]?).bind λx=>some (x-(n:Int)+1+(i:Int)))=(List.range m).map λ(i:Nat)=>p.getD i 0-(n:Int)+1+(i:Int):=by
  intro m
  induction m with
  |zero=>intro _;rfl
  |succ m ih =>
   intro hm
   rw[Bb,DI,Ao,ih (by omega)]
   congr 1
   have:p[m]?=some p[m]:=AH (by omega)
   simp [this]
 exact key _ (AG _)
abbrev nBf:List Str:=["many", "some", "telling", "powers", "number", "lowered"]
abbrev bBf:List Str:=["place", "power", "many"]
theorem ndBf:bBf.Nodup:=by decide +kernel
theorem scBf:FnScope nBf ["many", "some"] (qh_ sBf):=⟨rfl,rfl,rfl,by decide +kernel,rfl,by decide +kernel,by decide +kernel⟩
def spBf(cBC C:Addr):Sp:=λvs H Q E=>∃(m:Int)(b:Nat)(a:Addr)(ts:List Mon),vs=[.int m,.ref a]/\LstAt H a ts/\ts.length<=1000/\(¬ (1<=m/\m<=4)->E (.ref cBC) none H) /\
 (1<=m/\m<=4->Deg m.toNat 8 b ts/\b<=90000/\(UnR ts (m.toNat-1) none->∀(l:Addr)(H':Hp),H l=none->Same H H'->LstAt H' l (bfF m.toNat ts)->Q (.ref l) H') /\
  ∀k p,UnR ts (m.toNat-1) (some (k,p))->∀H' d kk,Same H H'->H d=none->H' d=some (xD d [("place",.int k),("powers",.ref kk)])->H' kk=some (.tup (p.map V.int))->E (.ref C) (some d) H')
theorem ao7_{cBC C:Addr}(F:Fun K "by_fillings" "by_fillings" sBf f fd)(GU:HasX P w K mg base 8 "refuse_uneven" pUn (spRu cBC C))(GM:Has P w K mg base 8 "multiplied" ["one", "other"] ad0_)(GD:Has P w K mg base 8 "differences" ["many"] spDf)(GF:Has P w K mg base 8 "falls" ["powers"] spFa)(GR:Has P w K mg base 8 "row_of" ["powers"] spRf)(mt:mg "tuple" = none)(me:mg "enumerate" = none):FnOk P w K mg base (CX1 P w) 9 f fd pUn (spBf cBC C):=by
 refine Fun.okx F scBf (λvs H Q E h=>?_) (λcdv A outer s H vs Q E hr h=>?_)
 ·obtain⟨m,b,a,ts,rfl,_⟩:=h
  rfl
 obtain⟨m,b,a,ts,rfl,hA,hl,e1,q⟩:=h
 refine⟨_,qe_ (q2_ (zF_ GU.ok hr rfl GU.at_ GU.kp GU.bd .nil ad2_ (qa_ (pv 0) (qa_ (pv 1) qb_))))
  (qe_ (qm_ (i:=2) scBf.nd rfl (Or.inl rfl) (qv_ qb_))
  (qe_ (qw_ ag2_ rfl (qu_ (qo_ GM hr rfl (qa_ (pv 1) (qa_ (qo_ GD hr rfl (qa_ (pv 0) qb_)) qb_)))) (qU_ rfl (ql_ (qj_ (i:=3) scBf.nd rfl (Or.inl rfl)) (ql_ (qj_ (i:=4) scBf.nd rfl (Or.inl rfl)) qF_)))
   (qe_ (qm_ (i:=5) scBf.nd rfl (Or.inl rfl) (qN_ qQ_ rfl mt Av (qa_ (qO_ (N':=bBf) (src:=[none,none,some 0]) rfl (ac2_ .tup rfl me (qa_ (pv 3) qb_)) (ze_ (qh_ sBf) nBf (by decide +kernel))
    (λb=>qU_ rfl (ql_ (qj_ (i:=0) ndBf rfl (Or.inl rfl)) (ql_ (qj_ (i:=1) ndBf rfl (Or.inl rfl)) qF_))) (λb=>q4_) (λb=>qi_ qM_ (qi_ qM_ (qi_ qZ_ (pv 1) (pv 2)) qg_) (pv 0))) qb_)))
   (qf_ (qX_ (zz_ (qo_ GF hr rfl (qa_ (pv 5) qb_))) (qf_ (q2_ (z5_ Au As At qS_ (pv 2) (qa_ (qs_ (qa_ (qo_ GR hr rfl (qa_ (pv 5) qb_)) (qa_ (pv 4) qb_))) qb_)))) qz_))))
  (qf_ (qn_ (pv 2))))),?_⟩
 refine⟨_,rfl,_,rfl,m,a,ts,rfl,hA,hl,e1,λhm=>?_⟩
 obtain⟨hD,hb,q0,q1⟩:=q hm
 refine⟨hD.len,λhU H1 s1=>?_,q1⟩
 have q:=q0 hU
 clear q0 q1 e1 hU
 obtain⟨n,rfl,n1,n4⟩:∃n:Nat,m=n/\1<=n/\n<=4:=⟨m.toNat,by omega,by omega,by omega⟩
 rw[An]at hD q
 have hn:n∈[1,2,3,4]:=by
  have:n=1∨n=2∨n=3∨n=4:=by omega
  rcases this with rfl|rfl|rfl|rfl<;>simp
 have dk:=af6_ n hn
 rw[AQ,AQ,decide_eq_true_eq]at dk
 have dD:=xf_ dk.1.2
 have lD:=dk.2
 refine⟨(by show 0<=sizeLine;decide),λlT hT=>?_⟩
 have s2:=qd_ hT (.lst [])
 refine⟨_,rfl,_,rfl,n,rfl,hn,λl3 H3 h3 s3 hL3=>?_⟩
 have hm:ts.length*(qW_ n).length<=1000*24:=EZ hl lD
 refine⟨a,l3,n,8,6,b,10,ts,qW_ n,rfl,hA.mono (s1.trans (s2.trans s3)),hL3,hD,dD,n1,n4,by omega,by decide,by omega,λl4 H4 h4 s4 hL4=>?_⟩
 have hlen:∀t∈norm (prd ts (qW_ n)),t.1.length=n:=λt ht=>by
  obtain⟨u,hu,e⟩:=qY_ ht
  rw[<-e]
  exact(hD.prd dD).len u hu
 have few:(norm (prd ts (qW_ n))).length<=24000:=by
  have:=zy_ (prd ts (qW_ n))
  rw[xg_]at this
  omega
 unfold bfF at q
 generalize norm (prd ts (qW_ n))=W at hL4 hlen few q
 obtain⟨vs,eW,iW⟩:=hL4
 have lv:=AL iW
 have sA:=s1.trans (s2.trans (s3.trans s4))
 have fT:H lT=none:=s1.free hT
 have z34:=s3.trans s4
 have n4T:l4≠lT:=λe=>by
  have:=s3 _ _ (qc_ (H:=H1) (a:=lT) (o:=.lst []))
  rw[e,this]at h4
  cases h4
 refine⟨l4,rfl,⟨_,SqL.of eW⟩,?_⟩
 refine qE_ (xs:=vs) (λi σ H'=>(∃c3 c4 c5,σ=[some (.int n),some (.ref a),some (.ref lT),c3,c4,c5])/\LstAt H' lT (bfL n (W.take i))/\But lT H4 H'/\Tups H4 H'/\Same H H') ?_ ?_ ?_ ?_
 ·exact⟨⟨_,_,_,rfl⟩,⟨[],z34 _ _ qc_,.nil⟩,λ_ _ _ e=>e,Tups.refl _,sA⟩
 ·rintro i σ H5 _ ⟨_,_,b5,_,_⟩
  exact SqL.of (b5 _ _ n4T eW)
 ·rintro i v σ H5 hv ⟨⟨c3,c4,c5,rfl⟩,hL5,b5,t5,s5⟩
  obtain⟨t,ht,hi⟩:=qD_ iW hv
  obtain⟨p,kk,rfl,hp,hkk⟩:=q7_ hi
  have li:i<W.length:=(AR.mp ht).1
  have tl:=hlen t (AY ht)
  have hk5:=t5 _ _ hkk
  obtain⟨us,eU,iU⟩:=id hL5
  have lu:=AL iU
  have lu2:(bfL n (W.take i)).length<=i:=by
   unfold bfL
   rw[AA]
   have:=Ci (λt:Mon=>isF (qA_ n t.1)) (W.take i)
   rw[AS]at this
   omega
  refine⟨p,_,rfl,SqT.of (t5 _ _ hp),rfl,_,_,rfl,_,_,rfl,rfl,?_⟩
  refine⟨_,rfl,kk,rfl,⟨_,SqT.of hk5⟩,λbk D hD'=>?_⟩
  refine v8_ (α:=Int) (k1:=.tup) (xs:=t.1.map V.int) hD' (SqT.of hk5) (λσ=>∃c d,σ=[c,d,some (.int n)]) (λi=>(t.1[i]?).bind λx=>some (x-(n:Int)+1+(i:Int))) (qr_ (by rw[AA];omega)) ?_ ?_ ?_
  ·exact⟨_,_,rfl⟩
  ·rintro i v p2 σ H6 Yes No hv hp2 ⟨c,d,rfl⟩ s6 yes no
   obtain⟨x,hx,rfl⟩:∃x,t.1[i]?=some x/\V.int x=v:=by
    rw[AT]at hv
    cases e:t.1[i]? with
    |none=>rw[e]at hv;cases hv
    |some y=>rw[e]at hv;exact⟨y,rfl,AW hv⟩
   refine⟨p2,_,rfl,SqT.of qc_,rfl,_,_,rfl,_,_,rfl,rfl,?_⟩
   refine yN_ ?_
   refine⟨_,rfl,_,rfl,_,_,rfl,rfl,_,_,rfl,rfl,_,rfl,_,_,rfl,rfl,?_⟩
   exact yes _ _ _ (x-(n:Int)+1+(i:Int)) ⟨_,_,rfl⟩ (qd_ hp2 _) (by rw[hx];rfl) rfl
  rintro H6 s6 ⟨ws,eD,iD⟩
  rw[zp_ iD,ae9_]at eD
  refine⟨D,_,rfl,.inl ⟨SqL.of eD,λt7 h7=>?_⟩⟩
  have s7:=qd_ h7 (.tup ((qA_ n t.1).map V.int))
  have z67:=s6.trans s7
  refine⟨_,rfl,t7,qA_ n t.1,rfl,qc_,λH8 s8=>?_⟩
  have z68:=z67.trans s8
  have h78:=s8 _ _ (qc_ (H:=H6) (a:=t7) (o:=.tup ((qA_ n t.1).map V.int)))
  have ll:(qA_ n t.1).length<=1000:=by
   unfold qA_
   rw[AA,BI]
   omega
  rw[qH_ ht,ab5_]
  generalize isF (qA_ n t.1)=c
  cases c with
  |false =>
   refine⟨_,rfl,zb_ ⟨⟨_,_,_,rfl⟩,?_,λb o nb e=>z68 _ _ (b5 b o nb e),t5.trans (Tups.same z68),s5.trans z68⟩⟩
   rw[if_neg (by decide),Ax]
   exact hL5.mono z68
  |true =>
   have eU8:=z68 _ _ eU
   refine⟨_,rfl,z9_ ⟨_,rfl,.inl ⟨rfl,_,SqL.of eU8⟩,_,rfl,t7,qA_ n t.1,rfl,h78,ll,λt9 H9 s9 h9=>?_⟩⟩
   refine⟨_,rfl,(by show 2<=sizeLine;decide),λt10 h10=>?_⟩
   have s10:=qd_ h10 (.tup [.ref t9,.int t.2])
   have zz:=z68.trans (s9.trans s10)
   have eU10:=zz _ _ eU
   refine⟨lT,us,_,rfl,rfl,eU10,zn_ (by omega),⟨_,_,_,rfl⟩,?_,λb o nb e=>?_,t5.trans ((Tups.same zz).trans (jc_ eU10 _)),λb o e=>?_⟩
   ·rw[if_pos rfl]
    exact⟨us++[.ref t10],qc_,Paired.app (Its.mono ((Tups.same zz).trans (jc_ eU10 _)) iU) (.cons (Dat.mono (jc_ eU10 _) (q5_ (t:=(qL_ (qA_ n t.1),t.2)) qc_ (s10 _ _ h9))) .nil)⟩
   ·rw[qk_ nb]
    exact zz _ _ (b5 b o nb e)
   ·rw[qk_ (qq_ e fT)]
    exact zz _ _ (s5 b o e)
 ·rintro σ H5 ⟨⟨c3,c4,c5,rfl⟩,hL5,b5,t5,s5⟩
  rw[AN (by omega)]at hL5
  exact⟨_,rfl,q lT H5 fT s5 hL5⟩
abbrev nLf:List Str:=["least_numbers", "many", "found", "least", "longer", "line", "number"]
theorem scLf:FnScope nLf ["least_numbers", "many"] (qh_ sLf):=⟨rfl,rfl,rfl,by decide +kernel,rfl,by decide +kernel,by decide +kernel⟩
def spLf:Sp:=λvs H Q _=>∃(p:Addr)(n:Nat)(ls:List Int),vs=[.ref p,.int n]/\H p=some (.tup (ls.map V.int))/\n<=4/\ls.length<=8/\(∀x∈ls,0<=x/\x<=1000)/\∀(l:Addr)(H':Hp),H l=none->Same H H'->LstAt H' l (lf n ls)->Q (.ref l) H'
theorem an5_{line:List Int}{x M:Int}(h1:M∈line.drop (line.length-1)++[x])(h2:∀a∈line.drop (line.length-1)++[x],a<=M):M=mxl line x:=by
 by_cases c:line=[]
 ·subst c
  simp at h1
  rw[h1]
  rfl
 ·obtain⟨as,y,e⟩:∃as y,line=as++[y]:=⟨_,_,(BF c).symm⟩
  subst e
  have ed:(as++[y]).drop ((as++[y]).length-1)=[y]:=by
   rw[AE,Ay,Nat.add_sub_cancel,List.drop_left]
  rw[ed]at h1 h2
  unfold mxl
  rw[Eh,D9]
  have b1:=h2 y (by simp)
  have b2:=h2 x (by simp)
  simp at h1
  simp only[Option.some_or]
  split<;>omega
theorem aj7_{a:Int}{n j:Nat}(h:j<((n:Int)-a).toNat):(jK_ a n)[j]?=some (a+(j:Int)):=by
 unfold jK_
 rw[AT,CY h]
 rfl
theorem aiv_{H H':Hp}{l p:Addr}{ys:List V}{rs:List (List Int)}{r:List Int}(t:Tups H H')(i:Its H ys rs)(hp:H' p=some (.tup (r.map V.int)))(hl:H' l=some (.lst (ys++[.ref p]))):LstAt H' l (rs++[r]) :=
 ⟨_,hl,Paired.app (Its.mono t i) (.cons (z7_ hp) .nil)⟩
theorem aqs_(F:Fun K "lines_from" "lines_from" sLf f fd)(mr:mg "range" = none)(mx:mg "max" = none):FnOk P w K mg base CX0 2 f fd ["least_numbers", "many"] spLf:=by
 refine F.ok scLf (λvs H Q E h=>?_) (λcdv A outer s H vs Q E hr h=>?_)
 ·obtain⟨p,n,ls,rfl,_⟩:=h
  rfl
 obtain⟨p,n,ls,rfl,hp,n4,l8,nn',q⟩:=h
 have nn:∀x∈ls,0<=x:=λx hx=>(nn' x hx).1
 refine⟨_,qe_ (qm_ (i:=2) scLf.nd rfl (Or.inl rfl) (qv_ (qa_ (qs_ qb_) qb_)))
  (qe_ (qw_ Ah rfl (jF_ (pv 0)) (qj_ (i:=3) scLf.nd rfl (Or.inl rfl))
   (qe_ (qm_ (i:=4) scLf.nd rfl (Or.inl rfl) (qv_ qb_))
   (qe_ (qw_ Ah rfl (qu_ (pv 2)) (qj_ (i:=5) scLf.nd rfl (Or.inl rfl))
    (qf_ (qw_ Ah rfl (agt_ rfl mr (qa_ (qp_ (ag7_ rfl) rfl mx PyProof.Rows.boot_max (qa_ (qi_ zi_ (za_ an7_ (pv 5) (zj_ (yd_ xk_ qg_)) zw_) (qs_ (qa_ (pv 3) qb_))) qb_)) (qa_ (pv 1) qb_))) (qj_ (i:=6) scLf.nd rfl (Or.inl rfl))
     (qf_ (q2_ (z5_ Au As At qS_ (pv 4) (qa_ (qi_ zi_ (pv 5) (qs_ (qa_ (pv 6) qb_))) qb_)))))))
   (qf_ (qm_ (i:=2) scLf.nd rfl (Or.inl rfl) (pv 4))))))
  (qf_ (qn_ (pv 2)))),?_⟩
 refine⟨(by show 0<=sizeLine;decide),λt0 h0=>⟨(by show 1<=sizeLine;decide),λl0 hl0=>?_⟩⟩
 have s0:=qd_ h0 (.tup [])
 have s1:=qd_ hl0 (.lst [.ref t0])
 refine⟨_,rfl,p,rfl,⟨_,SqT.of (s1 _ _ (s0 _ _ hp))⟩,?_⟩
 refine adk_ (xs:=ls.map V.int) (λi σ H'=>(∃(l:Addr)(c3 c4 c5 c6:Option V),σ=[some (.ref p),some (.int n),some (.ref l),c3,c4,c5,c6]/\LstAt H' l (lf n (ls.take i))/\H l=none)/\Same H H') ?_ ?_ ?_ ?_
 ·exact⟨⟨l0,_,_,_,_,rfl,⟨[.ref t0],qc_,.cons (z7_ (r:=[]) (s1 _ _ qc_)) .nil⟩,s0.free hl0⟩,s0.trans s1⟩
 ·rintro i σ H1 _ ⟨_,sH⟩
  exact SqT.of (sH _ _ hp)
 ·rintro i v σ H1 hv ⟨⟨l,c3,c4,c5,c6,rfl,⟨us,eL,iL⟩,fl⟩,sH⟩
  obtain⟨x,hx,rfl⟩:∃x,ls[i]?=some x/\V.int x=v:=by
   rw[AT]at hv
   cases e:ls[i]? with
   |none=>rw[e]at hv;cases hv
   |some y=>rw[e]at hv;exact⟨y,rfl,AW hv⟩
  have x0:=nn x (AY hx)
  have il:i<ls.length:=(AR.mp hx).1
  have fl4:(lf n (ls.take i)).length<=4^8:=Aj (abu_ n4 rfl λy hy=>nn y (BL hy)) (Cm (by decide) (by rw[AS];omega))
  have st:lf n (ls.take (i+1))=yA_ n (lf n (ls.take i)) x:=by rw[qH_ hx,vx_]
  have s4:(yA_ n (lf n (ls.take i)) x).length<=4^8*4:=Aj (zR_ (jM_ n x) 4 _ λy _=>Aj (abh_ x0 y) n4) (Bz 4 fl4)
  have e48:(4:Nat)^8*4<=1000000:=by decide
  have nnl:=ad7_ (n:=n) (ls:=ls.take i) λy hy=>nn y (BL hy)
  generalize lf n (ls.take i)=fs at iL fl4 st s4 nnl
  have lu:=AL iL
  refine⟨(by show 0<=sizeLine;decide),λl2 hl2=>?_⟩
  have s2:=qd_ hl2 (.lst [])
  refine⟨_,rfl,l,rfl,⟨_,SqL.of (s2 _ _ eL)⟩,?_⟩
  refine qE_ (xs:=us) (λj σ H'=>(∃c5 c6,σ=[some (.ref p),some (.int n),some (.ref l),some (.int x),some (.ref l2),c5,c6])/\Same H1 H'/\LstAt H' l2 ((fs.take j).flatMap (jM_ n x))) ?_ ?_ ?_ ?_
  ·exact⟨⟨_,_,rfl⟩,s2,⟨[],qc_,.nil⟩⟩
  ·rintro j σ H2 _ ⟨_,s3,_⟩
   exact SqL.of (s3 _ _ eL)
  ·rintro j v σ H2 hv ⟨⟨c5,c6,rfl⟩,s3,hY⟩
   obtain⟨line,hline,hi⟩:=qD_ iL hv
   obtain⟨a,rfl,ha⟩:=zG_ hi
   have ha2:=s3 _ _ ha
   have jl:j<fs.length:=(AR.mp hline).1
   have ln:=nnl line (AY hline)
   rw[AS]at ln
   have tk:(fs.take (j+1)).flatMap (jM_ n x)=(fs.take j).flatMap (jM_ n x)++jM_ n x line:=by rw[qH_ hline,Bi,Be]
   have tl:((fs.take (j+1)).flatMap (jM_ n x)).length<=1000000:=Aj (yj_ _ _ _) (Aj s4 e48)
   refine⟨_,rfl,_,rfl,-1,rfl,a,line,rfl,rfl,rfl,ha2,λt1 H3 s4' ht1=>?_⟩
   refine⟨_,rfl,(by show 1<=sizeLine;decide),λt2 ht2=>?_⟩
   have s5:=qd_ ht2 (.tup [.int x])
   refine zd_ (r:=line.drop (line.length-1)) (r':=[x]) (s5 _ _ ht1) qc_ (qr_ (by rw[A0];show _+1<=_;omega)) λt3 H4 s6 ht3=>?_
   refine⟨t3,line.drop (line.length-1)++[x],rfl,SqT.of ht3,by simp,λM m1 m2=>?_⟩
   have hM:=an5_ m1 m2
   have M0:0<=M:=by have:=abv_ line x;omega
   have M9:M<=1000:=by
    rw[hM]
    unfold mxl
    have x9:=(nn' x (AY hx)).2
    cases e:line.getLast? with
    |none=>exact x9
    |some y =>
     have:=(ln.2 y (Eg e)).2
     show(if y<x then x else y)<=1000
     split<;>omega
   have s14:Same H1 H4:=s3.trans (s4'.trans (s5.trans s6))
   have hY4:=hY.mono (s4'.trans (s5.trans s6))
   refine⟨_,rfl,M,n,rfl,⟨by omega,by omega,by omega,by omega⟩,?_⟩
   refine zI_ (lo:=M) (n:=((n:Int)-M).toNat) (λk σ H'=>(∃c6,σ=[some (.ref p),some (.int n),some (.ref l),some (.int x),some (.ref l2),some (.ref a),c6])/\Same H1 H'/\LstAt H' l2 ((fs.take j).flatMap (jM_ n x)++((jK_ M n).take k).map λk=>line++[k])) ?_ ?_ ?_
   ·refine⟨⟨_,rfl⟩,s14,?_⟩
    rw[Bn,Bw,Ax]
    exact hY4
   ·rintro k σ H5 hk ⟨⟨c6,rfl⟩,s7,⟨ys,eY,iY⟩⟩
    have ly:=AL iY
    have lr:(jK_ M n).length=((n:Int)-M).toNat:=by unfold jK_;rw[AA,BI]
    have e1:jM_ n x line=(jK_ M n).map λk=>line++[k]:=by rw[hM];rfl
    have l9:ys.length<=1000000:=by
     rw[ly]
     refine Aj ?_ tl
     rw[tk,e1,AE,AE,AA,AA,AS]
     omega
    refine⟨_,rfl,.inl ⟨rfl,_,SqL.of eY⟩,_,rfl,_,rfl,(by show 1<=sizeLine;decide),λt4 h4=>?_⟩
    have s8:=qd_ h4 (.tup [.int (M+(k:Int))])
    refine zd_ (r:=line) (r':=[M+(k:Int)]) (s8 _ _ (s7 _ _ ha)) qc_ (qr_ (by show line.length+1<=_;omega)) λt5 H6 s9 ht5=>?_
    have eY6:=s9 _ _ (s8 _ _ eY)
    have s56:=s8.trans s9
    refine⟨l2,ys,.ref t5,rfl,rfl,eY6,BD l9 (by decide),⟨_,rfl⟩,λc o z=>?_,?_⟩
    ·rw[qk_ (qq_ z hl2)]
     exact s56 _ _ (s7 _ _ z)
    ·rw[qH_ (aj7_ hk),Ao,<-AX]
     refine aiv_ (H:=H5) (p:=t5) (λc xs z=>?_) iY ?_ qc_
     ·have z6:=s56 _ _ z
      rw[qk_ (zA_ z6 eY6 (by intro z;cases z))]
      exact z6
     ·rw[qk_ (zA_ ht5 eY6 (by intro z;cases z))]
      exact ht5
   ·rintro σ H5 ⟨⟨c6,rfl⟩,s7,hY5⟩
    refine⟨⟨_,_,rfl⟩,s7,?_⟩
    have lr:(jK_ M n).length=((n:Int)-M).toNat:=by unfold jK_;rw[AA,BI]
    rw[AN (l:=jK_ M n) (by rw[lr];exact AG _)]at hY5
    have e1:jM_ n x line=(jK_ M n).map λk=>line++[k]:=by rw[hM];rfl
    rw[tk,e1]
    exact hY5
  ·rintro σ H2 ⟨⟨c5,c6,rfl⟩,s3,hY⟩
   rw[AN (by omega)]at hY
   refine⟨_,rfl,⟨l2,_,_,_,_,rfl,?_,sH.free hl2⟩,sH.trans s3⟩
   rw[st]
   exact hY
 ·rintro σ H1 ⟨⟨l,c3,c4,c5,c6,rfl,hL,fl⟩,sH⟩
  rw[AA,DG]at hL
  exact⟨_,rfl,q l _ fl sH hL⟩
abbrev nLn:List Str:=["lines", "inner", "outer", "place", "length", "above"]
abbrev bLn:List Str:=["number"]
theorem ndLn:bLn.Nodup:=by decide +kernel
theorem scLn:FnScope nLn ["lines", "inner", "outer"] (qh_ sLn):=⟨rfl,rfl,rfl,by decide +kernel,rfl,by decide +kernel,by decide +kernel⟩
def spLn:Sp:=λvs H Q _=>∃(a b c:Addr)(ls:List (List Int))(r:List Int),vs=[.ref a,.ref b,.ref c]/\Dat.is H (.ref a) ls/\H b=some (.tup ((List.replicate r.length (0:Int)).map V.int))/\H c=some (.tup (r.map V.int))/\ls.length<r.length/\r.length<=8/\(∀x∈r,0<=x/\x<=8)/\(∀l∈ls,LOk l) /\
 ∀(p:Addr)(H':Hp),Same H H'->H' p=some (.tup ((lfn r ls).map V.int))->Q (.ref p) H'
theorem vH_{m k:Nat}(h:k<m):atI ((List.replicate m (0:Int)).map V.int) (k:Int)=some (.int 0):=by
 refine q8_ ?_
 rw[AT,Ca,if_pos h]
 rfl
theorem yu_{r:List Int}{k:Nat}(h:k<r.length):atI (r.map V.int) (k:Int)=some (.int (r.getD k 0)):=by
 refine q8_ ?_
 rw[AT,AH h,AK,AH h]
 rfl
theorem yV_:∀k:Nat,(List.replicate k [(0:Int)]).flatten=List.replicate k 0
 |0=>rfl
 |k+1=>by rw[Ar,BV,yV_ k,Ar];rfl
theorem ahr_{α:Type}[D:Dat α]{H:Hp}{us:List V}{as:List α}{l:α}(h:Its H us (as++[l])):∃v,atI us (-1)=some v/\D.is H v l:=by
 have lu:=AL h
 rw[AE,Ay]at lu
 obtain⟨v,e,hv⟩:=Paired.getR h (i:=as.length) (b:=l) (by simp)
 refine⟨v,?_,hv⟩
 unfold atI
 rw[abz_ (by omega)]
 show us[us.length-1]?=some v
 rw[show us.length-1=as.length by omega]
 exact e
theorem ap3_(F:Fun K "least_for_next" "least_for_next" sLn f fd)(ml:mg "len" = none)(mt:mg "tuple" = none):FnOk P w K mg base CX0 2 f fd ["lines", "inner", "outer"] spLn:=by
 refine F.ok scLn (λvs H Q E h=>?_) (λcdv A outer s H vs Q E hr h=>?_)
 ·obtain⟨a,b,c,ls,r,rfl,_⟩:=h
  rfl
 obtain⟨a,b,c,ls,r,rfl,⟨a',us,ea,ha,iA⟩,hb,hc,lt,r8,h8,hL,q⟩:=h
 cases ea
 refine⟨_,qe_ (qm_ (i:=3) scLn.nd rfl (Or.inl rfl) (qp_ qI_ rfl ml BZ (qa_ (pv 0) qb_)))
  (qe_ (qm_ (i:=4) scLn.nd rfl (Or.inl rfl) (qi_ qZ_ (qG_ q0_ (pv 2) (pv 3) (λ_ _=>rfl)) (qG_ q0_ (pv 1) (pv 3) (λ_ _=>rfl))))
  (qe_ (qX_ (qy_ xB_ (pv 3) qg_ (qt_ _)) (qf_ (qn_ (qi_ jP_ (qs_ (qa_ qg_ qb_)) (pv 4)))) qz_)
  (qe_ (qm_ (i:=5) scLn.nd rfl (Or.inl rfl) (qi_ zi_ (qi_ jP_ (qs_ (qa_ qg_ qb_)) (qi_ qZ_ (qG_ q0_ (pv 1) (qi_ qZ_ (pv 3) qg_) (λ_ _=>rfl)) (qG_ q0_ (pv 1) (pv 3) (λ_ _=>rfl))))
   (qN_ qQ_ rfl mt Av (qa_ (qO_ (N':=bLn) (src:=[none]) rfl (jF_ (qG_ q0_ (pv 0) (yd_ xk_ qg_) (λ_ _=>rfl))) (ze_ (qh_ sLn) nLn (by decide +kernel))
    (λb=>qj_ (i:=0) ndLn rfl (Or.inl rfl)) (λb=>q4_) (λb=>qi_ qM_ (pv 0) qg_)) qb_))))
  (qf_ (qn_ (za_ aca_ (pv 5) zw_ (zj_ (pv 4)))))))),?_⟩
 have lu:=AL iA
 refine⟨_,rfl,a,us,rfl,.inr (SqT.of ha),?_⟩
 rw[lu]
 obtain⟨k,hk,k8⟩:∃k:Nat,r.getD ls.length 0=k/\k<=8:=by
  have g:r.getD ls.length 0=r[ls.length]:=by rw[AK,AH lt];rfl
  have:=h8 r[ls.length] (CT _)
  exact⟨(r.getD ls.length 0).toNat,by omega,by omega⟩
 refine⟨_,rfl,_,rfl,c,_,_,.int (r.getD ls.length 0),rfl,rfl,SqT.of hc,yu_ lt,_,rfl,_,rfl,b,_,_,.int 0,rfl,rfl,SqT.of hb,vH_ lt,_,_,rfl,rfl,?_⟩
 show zN_ 4 (V.int (r.getD ls.length 0-0)) _ _ _
 rw[Int.sub_zero,hk]
 refine⟨_,rfl,rfl,_,rfl,?_⟩
 by_cases e0:ls=[]
 ·subst e0
  refine x4_ rfl ?_
  refine⟨(by show 1<=sizeLine;decide),λt0 h0=>⟨_,rfl,t0,[0],k,rfl,rfl,qc_,by simp,by omega,by omega,qr_ (by show 1*(k:Int).toNat<=_;omega),λt1 H1 s1 h1=>?_⟩⟩
  refine q t1 _ ((qd_ h0 _).trans s1) ?_
  rw[h1]
  unfold lfn
  have hk':r.getD 0 0=(k:Int):=hk
  show _=some (HO.tup ((List.replicate (r.getD 0 0).toNat (0:Int)).map V.int))
  rw[hk',An]
  rw[yV_]
 ·refine xw_ (λz=>e0 ?_) ?_
  ·injection z with z
   exact BN.mp (by omega)
  obtain⟨as,l,e⟩:∃as l,ls=as++[l]:=⟨_,_,(BF e0).symm⟩
  have ll:ls.length=as.length+1:=by rw[e];simp
  obtain⟨hl8,hl0⟩:=hL l (by rw[e];simp)
  have iA':=iA
  rw[e]at iA'
  obtain⟨v,atv,hv⟩:=ahr_ iA'
  obtain⟨pl,rfl,hpl⟩:=zG_ hv
  have z1:atI ((List.replicate r.length (0:Int)).map V.int) ((ls.length:Int)-1)=some (.int 0):=by
   rw[show(ls.length:Int)-1=((as.length:Nat):Int) by omega]
   exact vH_ (by omega)
  refine⟨(by show 1<=sizeLine;decide),λt0 h0=>?_⟩
  have s0:=qd_ h0 (.tup [.int 0])
  refine⟨_,rfl,_,rfl,_,_,rfl,rfl,b,_,_,.int 0,rfl,rfl,SqT.of (s0 _ _ hb),z1,_,rfl,_,rfl,b,_,_,.int 0,rfl,rfl,SqT.of (s0 _ _ hb),vH_ lt,_,_,rfl,rfl,?_⟩
  refine⟨t0,[0],0,rfl,rfl,qc_,by simp,by decide,by decide,qr_ (by decide),λt1 H1 s1 h1=>?_⟩
  have s01:=s0.trans s1
  refine⟨_,rfl,_,rfl,a,us,-1,.ref pl,rfl,rfl,SqT.of (s01 _ _ ha),atv,pl,rfl,⟨_,SqT.of (s01 _ _ hpl)⟩,λbk D hD=>?_⟩
  refine jq_ (α:=Int) hD (SqT.of (s01 _ _ hpl)) (λσ=>∃c,σ=[c]) (λi=>(l[i]?).bind λx=>some (x+1)) (qr_ (by rw[AA];omega)) ?_ ?_ ?_
  ·exact⟨_,rfl⟩
  ·rintro i v σ H2 Yes No hv ⟨c,rfl⟩ s3 yes no
   obtain⟨x,hx,rfl⟩:∃x,l[i]?=some x/\V.int x=v:=by
    rw[AT]at hv
    cases e:l[i]? with
    |none=>rw[e]at hv;cases hv
    |some y=>rw[e]at hv;exact⟨y,rfl,AW hv⟩
   refine zE_ ?_
   exact⟨_,rfl,_,_,rfl,rfl,yes _ _ _ (x+1) ⟨_,rfl⟩ (Same.refl _) (by rw[hx];rfl) rfl⟩
  rintro H2 s2 ⟨ws,eD,iD⟩
  have ez:(List.range (l.map V.int).length).filterMap (λi=>(l[i]?).bind λx=>some (x+1))=l.map (· + 1):=by
   rw[AA,qT_,Aq]
  rw[zp_ iD,ez]at eD
  refine⟨D,_,rfl,.inl ⟨SqL.of eD,λt4 h4=>?_⟩⟩
  have s4:=qd_ h4 (.tup ((l.map (· + 1)).map V.int))
  have h1':H1 t1=some (.tup (([]:List Int).map V.int)):=h1
  refine zd_ (r:=[]) (r':=l.map (· + 1)) (s4 _ _ (s2 _ _ h1')) qc_ (qr_ (by rw[AA];show 0+_<=_;omega)) λt5 H5 s5 ht5=>?_
  refine⟨_,rfl,_,rfl,(k:Int),rfl,t5,l.map (· + 1),k,rfl,rfl,rfl,ht5,λt6 H6 s6 ht6=>?_⟩
  refine q t6 _ (s01.trans (s2.trans (s4.trans (s5.trans s6)))) ?_
  rw[ht6]
  have ef:lfn r ls=(l.map (· + 1)).take (r.getD ls.length 0).toNat:=by
   unfold lfn
   rw[e,Eh,D9]
   rfl
  rw[ef,hk,An]
abbrev nWn:List Str:=["many", "found", "inner", "outer", "longer", "lines", "line"]
theorem scWn:FnScope nWn ["many", "found", "inner", "outer"] (qh_ sWn):=⟨rfl,rfl,rfl,by decide +kernel,rfl,by decide +kernel,by decide +kernel⟩
def spWn:Sp:=λvs H Q _=>∃(a b c:Addr)(n j:Nat)(fs:List (List (List Int)))(r:List Int),vs=[.int n,.ref a,.ref b,.ref c]/\LstAt H a fs/\H b=some (.tup ((List.replicate r.length (0:Int)).map V.int))/\H c=some (.tup (r.map V.int))/\n<=4/\j<r.length/\r.length<=8/\(∀x∈r,0<=x/\x<=8)/\FOk r j fs/\(wnl n r fs).length<=1000 /\
 ∀(l:Addr)(H':Hp),H l=none->Same H H'->LstAt H' l (wnl n r fs)->Q (.ref l) H'
theorem ae6_{K:PySem.W.Frag}{H:Hp}{a b:Addr}{us:List V}{ls:List (List Int)}{l:List Int}{q:Addr}{Q:VK}(ha:H a=some (.tup us))(ia:Its H us ls)(hq:H q=some (.tup (l.map V.int)))(hb:H b=some (.tup [.ref q]))(hz:ls.length<=100)
  (g:∀p H',Same H H'->Dat.is H' (.ref p) (ls++[l])->Q (.ref p) H'):ad6_ K (.ref a) (.ref b) H Q:=by
 have lu:=AL ia
 refine⟨a,b,us,[.ref q],rfl,rfl,SqT.of ha,SqT.of hb,qr_ (by show us.length+1<=_;omega),λe=>?_,(λ_ e=>by cases e),λ_ _ p hp=>?_⟩
 ·subst e
  cases ia
  exact g b H (Same.refl _) ⟨b,[.ref q],rfl,hb,.cons (z7_ hq) .nil⟩
 ·refine g p _ (qd_ hp _) ⟨p,us++[.ref q],rfl,qc_,?_⟩
  exact Paired.app (Its.mono (yR_ hp _) ia) (.cons (z7_ (qd_ hp _ _ _ hq)) .nil)
theorem ap8_(F:Fun K "with_next_line" "with_next_line" sWn f fd)(GL:Has P w K mg base 2 "lines_from" ["least_numbers", "many"] spLf)(GN:Has P w K mg base 2 "least_for_next" ["lines", "inner", "outer"] spLn):FnOk P w K mg base CX0 3 f fd ["many", "found", "inner", "outer"] spWn:=by
 refine F.ok scWn (λvs H Q E h=>?_) (λcdv A outer s H vs Q E hr h=>?_)
 ·obtain⟨a,b,c,n,j,fs,r,rfl,_⟩:=h
  rfl
 obtain⟨a,b,c,n,j,fs,r,rfl,⟨us,eL,iL⟩,hb,hc,n4,jr,r8,h8,hF,hw,q⟩:=h
 refine⟨_,qe_ (qm_ (i:=4) scWn.nd rfl (Or.inl rfl) (qv_ qb_))
  (qe_ (qw_ Ah rfl (qu_ (pv 1)) (qj_ (i:=5) scWn.nd rfl (Or.inl rfl))
   (qf_ (qw_ Ah rfl (qu_ (qo_ GL hr rfl (qa_ (qo_ GN hr rfl (qa_ (pv 5) (qa_ (pv 2) (qa_ (pv 3) qb_)))) (qa_ (pv 0) qb_)))) (qj_ (i:=6) scWn.nd rfl (Or.inl rfl))
    (qf_ (q2_ (z5_ Au As At qS_ (pv 4) (qa_ (qi_ zi_ (pv 5) (qs_ (qa_ (pv 6) qb_))) qb_)))))))
  (qf_ (qn_ (pv 4)))),?_⟩
 have lu:=AL iL
 refine⟨(by show 0<=sizeLine;decide),λl2 hl2=>?_⟩
 have s0:=qd_ hl2 (.lst [])
 refine⟨_,rfl,a,rfl,⟨_,SqL.of (s0 _ _ eL)⟩,?_⟩
 refine qE_ (xs:=us) (λi σ H'=>(∃c5 c6,σ=[some (.int n),some (.ref a),some (.ref b),some (.ref c),some (.ref l2),c5,c6])/\Same H H'/\LstAt H' l2 ((fs.take i).flatMap (j4_ n r))) ?_ ?_ ?_ ?_
 ·exact⟨⟨_,_,rfl⟩,s0,⟨[],qc_,.nil⟩⟩
 ·rintro i σ H1 _ ⟨_,s1,_⟩
  exact SqL.of (s1 _ _ eL)
 ·rintro i v σ H1 hv ⟨⟨c5,c6,rfl⟩,s1,hY⟩
  obtain⟨ls,hls,hi⟩:=qD_ iL hv
  obtain⟨p,ws,rfl,hp,ip⟩:=hi
  have hm:=AY hls
  obtain⟨fl,fo⟩:=hF ls hm
  obtain⟨n1,n2⟩:=agh_ h8 fo
  have ll:(lf n (lfn r ls)).length<=4^8:=Aj (abu_ n4 rfl λy hy=>(n2 y hy).1) (Cm (by decide) n1)
  have tk:(fs.take (i+1)).flatMap (j4_ n r)=(fs.take i).flatMap (j4_ n r)++j4_ n r ls:=by rw[qH_ hls,Bi,Be]
  have tl:((fs.take (i+1)).flatMap (j4_ n r)).length<=1000:=Aj (yj_ _ _ _) hw
  refine⟨_,rfl,_,rfl,_,rfl,p,b,c,ls,r,rfl,⟨p,ws,rfl,s1 _ _ hp,Its.mono (Tups.same s1) ip⟩,s1 _ _ hb,s1 _ _ hc,by omega,r8,h8,fo,λt1 H2 s2 ht1=>?_⟩
  refine⟨_,rfl,t1,n,lfn r ls,rfl,ht1,n4,n1,n2,λl3 H3 fl3 s3 hL3=>?_⟩
  obtain⟨zs,eZ,iZ⟩:=hL3
  have lz:=AL iZ
  have ew:j4_ n r ls=(lf n (lfn r ls)).map λl=>ls++[l]:=rfl
  have nnl:=ad7_ (n:=n) λy hy=>(n2 y hy).1
  generalize lf n (lfn r ls)=ms at iZ ll lz ew nnl
  have s13:Same H1 H3:=s2.trans s3
  refine⟨l3,rfl,⟨_,SqL.of eZ⟩,?_⟩
  have hY3:=hY.mono s13
  have nl:l3≠l2:=by
   obtain⟨y1,e1,_⟩:=id hY
   exact(qq_ (s2 _ _ e1) fl3).symm
  refine qE_ (xs:=zs) (λk σ H'=>(∃c6,σ=[some (.int n),some (.ref a),some (.ref b),some (.ref c),some (.ref l2),some (.ref p),c6])/\Same H H'/\H' l3=some (.lst zs)/\Tups H3 H'/\LstAt H' l2 ((fs.take i).flatMap (j4_ n r)++(ms.take k).map λl=>ls++[l])) ?_ ?_ ?_ ?_
  ·refine⟨⟨_,rfl⟩,s1.trans s13,eZ,Tups.refl _,?_⟩
   rw[Bn,Bw,Ax]
   exact hY3
  ·rintro k σ H4 _ ⟨_,_,h3,_⟩
   exact SqL.of h3
  ·rintro k v σ H4 hv ⟨⟨c6,rfl⟩,s4,h3,tp,⟨ys,eY,iY⟩⟩
   obtain⟨l,hl,hi⟩:=qD_ iZ hv
   obtain⟨pq,rfl,hpq⟩:=zG_ hi
   have ly:=AL iY
   have l9:ys.length<=1000:=by
    rw[ly]
    refine Aj ?_ tl
    rw[tk,ew,AE,AE,AA,AA,AS]
    omega
   refine⟨_,rfl,.inl ⟨rfl,_,SqL.of eY⟩,_,rfl,_,rfl,(by show 1<=sizeLine;decide),λt4 h4=>?_⟩
   have s5:=qd_ h4 (.tup [.ref pq])
   refine ae6_ (us:=ws) (ls:=ls) (l:=l) (q:=pq) (s5 _ _ (s4 _ _ hp)) (Its.mono (Tups.same (s4.trans s5)) ip) (s5 _ _ (tp _ _ hpq)) qc_ (by omega) λt5 H6 s6 ht5=>?_
   have s46:=s5.trans s6
   have eY6:=s46 _ _ eY
   refine⟨l2,ys,.ref t5,rfl,rfl,eY6,zn_ (by omega),⟨_,rfl⟩,λc o z=>?_,?_,λc xs z=>?_,?_⟩
   ·rw[qk_ (qq_ z hl2)]
    exact s46 _ _ (s4 _ _ z)
   ·rw[qk_ nl]
    exact s46 _ _ h3
   ·have z6:=s46 _ _ (tp _ _ z)
    rw[qk_ (zA_ z6 eY6 (by intro z;cases z))]
    exact z6
   ·rw[qH_ hl,Ao,<-AX]
    refine⟨ys++[.ref t5],qc_,Paired.app (Its.mono (λc xs z=>?_) iY) (.cons (Dat.mono (λc xs z=>?_) ht5) .nil)⟩
    ·have z6:=s46 _ _ z
     rw[qk_ (zA_ z6 eY6 (by intro z;cases z))]
     exact z6
    ·rw[qk_ (zA_ z eY6 (by intro z;cases z))]
     exact z
  ·rintro σ H4 ⟨⟨c6,rfl⟩,s4,h3,tp,hY4⟩
   refine⟨⟨_,_,rfl⟩,s4,?_⟩
   rw[AN (l:=ms) (by omega)]at hY4
   rw[tk,ew]
   exact hY4
 ·rintro σ H1 ⟨⟨c5,c6,rfl⟩,s1,hY⟩
  rw[AN (by omega)]at hY
  exact⟨_,rfl,q l2 _ hl2 s1 hY⟩
abbrev nFil:List Str:=["many", "row", "inner", "found", "again"]
theorem scFil:FnScope nFil ["many", "row"] (qh_ sFil):=⟨rfl,rfl,rfl,by decide +kernel,rfl,by decide +kernel,by decide +kernel⟩
theorem aax_{r:List Int}(h:xA_ r=true):(∀x∈r,1<=x/\x<=8)/\(r.Pairwise λa b=>b<=a)/\r.sum<=8:=by
 unfold xA_ at h
 rw[AQ,AQ,Ad,Ad,decide_eq_true_eq]at h
 obtain⟨⟨h1,h2⟩,h3⟩:=h
 have p:∀x∈r,0<=x:=λx hx=>by have:=of_decide_eq_true (h1 x hx);omega
 refine⟨λx hx=>⟨of_decide_eq_true (h1 x hx),by have:=(y2_ p hx).1;omega⟩,?_,h3⟩
 have step:∀i,i+1<r.length->r.getD (i+1) 0<=r.getD i 0:=λi hi=>of_decide_eq_true (h2 i (BH.mpr (by omega)))
 have all:∀k i,i+k<r.length->r.getD (i+k) 0<=r.getD i 0:=by
  intro k
  induction k with
  |zero=>intro i _;exact Cs _
  |succ k ih =>
   intro i hi
   have:=ih i (by omega)
   have:=step (i+k) (by omega)
   rw[show i+(k+1)=i+k+1 by omega]
   omega
 refine Bf.mpr λi j hi hj hij=>?_
 have:=all (j-i) i (by omega)
 rw[show i+(j-i)=j by omega,AK,AK,AH hi,AH hj]at this
 exact this
structure NR(n:Nat)(r:List Int):Prop where
 n1:1<=n
 n4:n<=4
 row:xA_ r=true
 len:r.length<=n+1
 few:∀j,j<=r.length->(jL_ n r j).length<=1000
def ajm_:Sp:=λvs H Q _=>∃(p:Addr)(n:Nat)(r:List Int),vs=[.int n,.ref p]/\H p=some (.tup (r.map V.int))/\NR n r/\∀(l:Addr)(H':Hp),H l=none->Same H H'->LstAt H' l (fil n r)->Q (.ref l) H'
theorem amq_(F:Fun K "fillings" "fillings" sFil f fd)(GB:Has P w K mg base 3 "refuse_bad_row" nRb ajj_)(GC:Has P w K mg base 3 "refuse_bad_count" ["many"] aji_)(GW:Has P w K mg base 3 "with_next_line" ["many", "found", "inner", "outer"] spWn)(ml:mg "len" = none):FnOk P w K mg base CX0 4 f fd ["many", "row"] ajm_:=by
 refine F.ok scFil (λvs H Q E h=>?_) (λcdv A outer s H vs Q E hr h=>?_)
 ·obtain⟨p,n,r,rfl,_⟩:=h
  rfl
 obtain⟨p,n,r,rfl,hp,nr,q⟩:=h
 obtain⟨n1,n4,hB,hl,few⟩:=nr
 refine⟨_,qe_ (q2_ (qo_ GB hr rfl (qa_ (pv 1) qb_)))
  (qe_ (q2_ (qo_ GC hr rfl (qa_ (pv 0) qb_)))
  (qe_ (qm_ (i:=2) scFil.nd rfl (Or.inl rfl) (qi_ jP_ (qs_ (qa_ qg_ qb_)) (qp_ qI_ rfl ml BZ (qa_ (pv 1) qb_))))
  (qe_ (qm_ (i:=3) scFil.nd rfl (Or.inl rfl) (qv_ (qa_ (qs_ qb_) qb_)))
  (qe_ (qw_ Ah rfl (jF_ (pv 1)) (qj_ (i:=4) scFil.nd rfl (Or.inl rfl))
   (qf_ (qm_ (i:=3) scFil.nd rfl (Or.inl rfl) (qo_ GW hr rfl (qa_ (pv 0) (qa_ (pv 3) (qa_ (pv 2) (qa_ (pv 1) qb_))))))))
  (qf_ (qn_ (pv 3))))))),?_⟩
 obtain⟨r1,r2,r3⟩:=aax_ hB
 have h8:∀x∈r,0<=x/\x<=8:=λx hx=>by have:=r1 x hx;omega
 refine⟨_,rfl,p,r,rfl,hp,by omega,hB,λH1 s1=>?_⟩
 refine⟨_,rfl,n,rfl,by omega,by omega,?_⟩
 refine⟨(by show 1<=sizeLine;decide),λt0 h0=>?_⟩
 have s2:=qd_ h0 (.tup [.int 0])
 refine⟨_,rfl,p,_,rfl,.inr (SqT.of (s2 _ _ (s1 _ _ hp))),?_⟩
 rw[AA]
 refine⟨t0,[0],(r.length:Int),rfl,rfl,qc_,by simp,by omega,by omega,qr_ (by show 1*_<=_;omega),λt1 H2 s3 h1=>?_⟩
 rw[An,yV_]at h1
 refine⟨(by show 0<=sizeLine;decide),λt2 h2=>⟨(by show 1<=sizeLine;decide),λl0 hl0=>?_⟩⟩
 have s4:=qd_ h2 (.tup [])
 have s5:=qd_ hl0 (.lst [.ref t2])
 have sA:=s1.trans (s2.trans (s3.trans (s4.trans s5)))
 refine⟨_,rfl,p,rfl,⟨_,SqT.of (sA _ _ hp)⟩,?_⟩
 refine adk_ (xs:=r.map V.int) (λi σ H'=>(∃(l:Addr)(c4:Option V),σ=[some (.int n),some (.ref p),some (.ref t1),some (.ref l),c4]/\LstAt H' l (jL_ n r i)/\H l=none)/\Same H H'/\H' t1=some (.tup ((List.replicate r.length (0:Int)).map V.int))) ?_ ?_ ?_ ?_
 ·exact⟨⟨l0,_,rfl,⟨[.ref t2],qc_,.cons ⟨t2,[],rfl,s5 _ _ qc_,.nil⟩ .nil⟩,s1.free (s2.free (s3.free (s4.free hl0)))⟩,sA,s5 _ _ (s4 _ _ h1)⟩
 ·rintro i σ H3 _ ⟨_,sH,_⟩
  exact SqT.of (sH _ _ hp)
 ·rintro i v σ H3 hv ⟨⟨l,c4,rfl,hL,fl⟩,sH,ht1⟩
  have il:i<r.length:=by
   have:=(AR.mp hv).1
   rwa [AA]at this
  refine⟨_,rfl,_,rfl,_,rfl,_,rfl,l,t1,p,n,i,jL_ n r i,r,rfl,hL,ht1,sH _ _ hp,n4,il,by omega,h8,yE_ n4 h8 i,few (i+1) il,λl' H4 fl' s6 hL'=>?_⟩
  exact⟨⟨l',_,rfl,hL',sH.free fl'⟩,sH.trans s6,s6 _ _ ht1⟩
 ·rintro σ H3 ⟨⟨l,c4,rfl,hL,fl⟩,sH,ht1⟩
  rw[AA]at hL
  exact⟨_,rfl,q l _ fl sH hL⟩
abbrev nPo:List Str:=["many", "filling"]
abbrev bPo:List Str:=["number", "filling"]
abbrev bPi:List Str:=["line", "number"]
theorem ndPo:bPo.Nodup:=by decide +kernel
theorem ndPi:bPi.Nodup:=by decide +kernel
theorem scPo:FnScope nPo nPo (qh_ sPo):=⟨rfl,rfl,rfl,by decide +kernel,rfl,by decide +kernel,by decide +kernel⟩
def am3_:Stmt->Scope
 |.FunctionDef _ _ (.Return (some (.Call _ (.ListComp _ _ sc _::_) _ _)) _::_) _ _ _ _ _ _ _=>sc
 |_=>{ kind:=.function,names:=[],isGenerator:=false,isCoroutine:=false }
def spPo:Sp:=λvs H Q _=>∃(a:Addr)(n:Nat)(fl:List (List Int)),vs=[.int n,.ref a]/\Dat.is H (.ref a) fl/\n<=4/\fl.length<=100/\∀(p:Addr)(H':Hp),Same H H'->H' p=some (.tup ((pwf n fl).map V.int))->Q (.ref p) H'
theorem aqu_(F:Fun K "powers_of" "powers_of" sPo f fd)(mt:mg "tuple" = none)(ms:mg "sum" = none)(mr:mg "range" = none):FnOk P w K mg base CX0 2 f fd nPo spPo:=by
 refine F.ok scPo (λvs H Q E h=>?_) (λcdv A outer s H vs Q E hr h=>?_)
 ·obtain⟨a,n,fl,rfl,_⟩:=h
  rfl
 obtain⟨a,n,fl,rfl,hA,n4,l9,q⟩:=h
 obtain⟨a',us,ea,ha,iA⟩:=hA
 cases ea
 refine⟨_,qf_ (qn_ (qN_ qQ_ rfl mt Av (qa_ (aic_ (N':=bPo) (z := "number") (src:=[none,some 1]) rfl (zm_ rfl mr (qa_ (pv 0) qb_)) (ane_ (qh_ sPo) nPo (by decide +kernel) (λ_ _=>rfl) (λ_=>rfl))
   (λb=>qj_ (i:=0) ndPo rfl (Or.inr rfl)) (λb=>q4_)
   (λb=>qp_ (af9_ rfl) rfl ms EX (qa_ (qO_ (N':=bPi) (src:=[none,some 0]) rfl (jF_ (pv 1)) (ze_ (relabel (am3_ sPo) { (default:Env) with scope:=qh_ sPo }) bPo (by decide +kernel))
    (λb2=>qj_ (i:=0) ndPi rfl (Or.inl rfl)) (λb2=>q4_) (λb2=>ak3_ (pv 0) (qa_ (pv 1) qb_))) qb_))) qb_))),?_⟩
 have en:(n:Int).toNat=n:=by omega
 have lu:=AL iA
 refine⟨_,rfl,(n:Int),rfl,by omega,by omega,λbk D hD=>?_⟩
 refine x2_ (α:=Int) hD (λσ=>∃c,σ=[c,some (.ref a)]) (λ(i:Nat)=>some ((fl.map λl=>((l.count (i:Int):Nat):Int)).sum)) (qr_ (by omega)) ?_ ?_ ?_
 ·exact⟨_,rfl⟩
 ·rintro i σ H2 Yes No hi ⟨c,rfl⟩ s2 yes no
  refine zE_ ?_
  have e0:(0:Int)+(i:Int)=(i:Int):=by omega
  rw[e0]
  refine⟨_,rfl,a,rfl,⟨_,SqT.of (s2 _ _ ha)⟩,λbk2 D2 hD2=>?_⟩
  refine jq_ (α:=Int) hD2 (SqT.of (s2 _ _ ha)) (λσ=>∃c,σ=[c,some (.int (i:Int))]) (λj=>(fl[j]?).bind λl=>some ((l.count (i:Int):Nat):Int)) (qr_ (by omega)) ?_ ?_ ?_
  ·exact⟨_,rfl⟩
  ·rintro j v σ H3 Yes2 No2 hv ⟨c2,rfl⟩ s3 yes2 no2
   obtain⟨l,hl,hi2⟩:=qD_ iA hv
   obtain⟨p,rfl,hp⟩:=zG_ hi2
   have hp3:=s3 _ _ (s2 _ _ hp)
   refine zE_ ?_
   exact⟨_,rfl,p,l,rfl,hp3,_,rfl,(i:Int),rfl,hp3,yes2 _ _ _ _ ⟨_,rfl⟩ (Same.refl _) (by rw[hl];rfl) rfl⟩
  ·rintro H3 s3 ⟨ws,eD,iD⟩
   have ez:(List.range us.length).filterMap (λj=>(fl[j]?).bind λl=>some ((l.count (i:Int):Nat):Int))=fl.map λl=>((l.count (i:Int):Nat):Int):=by
    rw[lu,qT_,Aq]
   rw[zp_ iD,ez]at eD
   exact⟨D2,_,rfl,SqL.of eD,yes _ _ _ _ ⟨_,rfl⟩ s3 rfl rfl⟩
 ·rintro H2 s2 ⟨ws,eD,iD⟩
  have ez:((List.range (n:Int).toNat).filterMap λ(i:Nat)=>some ((fl.map λl=>((l.count (i:Int):Nat):Int)).sum))=pwf n fl:=by
   rw[en,Aq]
   rfl
  rw[zp_ iD,ez]at eD
  refine⟨D,_,rfl,.inl ⟨SqL.of eD,λt h=>?_⟩⟩
  exact q t _ (s2.trans (qd_ h _)) qc_
abbrev nFs:List Str:=["many", "row"]
abbrev bFs:List Str:=["filling", "many"]
theorem ndFs:bFs.Nodup:=by decide +kernel
theorem scFs:FnScope nFs nFs (qh_ sFs):=⟨rfl,rfl,rfl,by decide +kernel,rfl,by decide +kernel,by decide +kernel⟩
def spFs:Sp:=λvs H Q _=>∃(p:Addr)(n:Nat)(r:List Int),vs=[.int n,.ref p]/\H p=some (.tup (r.map V.int))/\NR n r/\∀(l:Addr)(H':Hp),H l=none->Same H H'->LstAt H' l (norm (q3_ n r))->Q (.ref l) H'
theorem aks_{n:Nat}{r:List Int}(nr:NR n r):∀f∈fil n r,f.length<=8:=λf hf=>by
 have h8:∀x∈r,0<=x/\x<=8:=λx hx=>by have:=(aax_ nr.row).1 x hx;omega
 have:=(yE_ nr.n4 h8 r.length f hf).1
 have:=nr.len
 have:=nr.n4
 omega
theorem aqg_(F:Fun K "filled_sum" "filled_sum" sFs f fd)(GG:Has P w K mg base 4 "gathered" ["terms"] yn_)(GP:Has P w K mg base 4 "powers_of" nPo spPo)(GF:Has P w K mg base 4 "fillings" ["many", "row"] ajm_):FnOk P w K mg base CX0 5 f fd nFs spFs:=by
 refine F.ok scFs (λvs H Q E h=>?_) (λcdv A outer s H vs Q E hr h=>?_)
 ·obtain⟨p,n,r,rfl,_⟩:=h
  rfl
 obtain⟨p,n,r,rfl,hp,nr,q⟩:=h
 refine⟨_,qf_ (qn_ (qo_ GG hr rfl (qa_ (qO_ (N':=bFs) (src:=[none,some 0]) rfl (qu_ (qo_ GF hr rfl (qa_ (pv 0) (qa_ (pv 1) qb_)))) (ze_ (qh_ sFs) nFs (by decide +kernel))
   (λb=>qj_ (i:=0) ndFs rfl (Or.inl rfl)) (λb=>q4_) (λb=>qs_ (qa_ (qo_ GP hr rfl (qa_ (pv 1) (qa_ (pv 0) qb_))) (qa_ qg_ qb_)))) qb_))),?_⟩
 have fo:=aks_ nr
 have few:=nr.few r.length (AG _)
 have n1:=nr.n1
 refine⟨_,rfl,_,rfl,p,n,r,rfl,hp,nr,λl H1 hl s1 hL=>?_⟩
 obtain⟨us,eL,iL⟩:=id hL
 have lu:=AL iL
 have few':(fil n r).length<=1000:=few
 refine⟨l,rfl,⟨_,SqL.of eL⟩,λbk D hD=>?_⟩
 refine zP_ (α:=Mon) hD (SqL.of eL) (λσ=>∃c,σ=[c,some (.int n)]) (λi=>((fil n r)[i]?).bind λf=>some (pwf n f,(1:Int))) (qr_ (by omega)) ?_ ?_ ?_
 ·exact⟨_,rfl⟩
 ·rintro i v σ H2 Yes No hv ⟨c,rfl⟩ s2 yes no
  obtain⟨fl,hf,hi⟩:=qD_ iL hv
  have f8:=fo fl (AY hf)
  obtain⟨pf,ws,rfl,hpf,ip⟩:=hi
  refine zE_ ?_
  refine⟨_,rfl,_,rfl,pf,n,fl,rfl,⟨pf,ws,rfl,s2 _ _ hpf,Its.mono (Tups.same s2) ip⟩,nr.n4,by omega,λt H3 s3 ht=>?_⟩
  refine⟨(by show 2<=sizeLine;decide),λt2 h2=>?_⟩
  exact yes _ _ _ (pwf n fl,1) ⟨_,rfl⟩ (s3.trans (qd_ h2 _)) (by rw[hf];rfl) (q5_ qc_ (qd_ h2 _ _ _ ht))
 ·rintro H2 s2 hD2
  have ez:(List.range us.length).filterMap (λi=>((fil n r)[i]?).bind λf=>some (pwf n f,(1:Int)))=q3_ n r:=by
   rw[lu,qT_,Aq]
   rfl
  rw[ez]at hD2
  have lt:(q3_ n r).length<=1000:=by unfold q3_;rw[AA];exact few'
  refine⟨D,q3_ n r,rfl,hD2,λt ht=>?_,by omega,λl2 H3 fl2 s3 hL3=>q l2 _ (s1.free (s2.free fl2)) (s1.trans (s2.trans s3)) hL3⟩
  unfold q3_ at ht
  obtain⟨f,_,rfl⟩:=Ae.mp ht
  intro z
  have:=akd_ n f
  have z':pwf n f=[]:=z
  rw[z']at this
  simp at this
  omega
theorem yM_{l r:List Int}(h:r.Perm l):r.sum=l.sum:=by
 induction h with
 |nil=>rfl
 |cons x _ ih=>rw[Ab,Ab,ih]
 |swap x y l=>rw[Ab,Ab,Ab,Ab];omega
 |trans _ _ i1 i2=>rw[i1,i2]
def vz_(ns:List Int):List Int:=ns.mergeSort λa b=>decide (b<=a)
theorem ak1_{l ns:List Int}(pm:l.Perm ns)(so:l.Pairwise λa b=>b<=a):l=vz_ ns:=by
 have p2:=EA (le:=λa b:Int=>decide (b<=a)) (λa b c h1 h2=>decide_eq_true (by have:=of_decide_eq_true h1;have:=of_decide_eq_true h2;omega)) (λa b=>by
  rcases Int.le_total a b with h|h
  ·rw[decide_eq_true h,Dz]
  ·rw[decide_eq_true h,Er]) ns
 exact List.Perm.eq_of_pairwise (le:=λa b=>b<=a) (λa b _ _ h1 h2=>Int.le_antisymm h2 h1) so (p2.imp λh=>of_decide_eq_true h) (pm.trans (DV ns _).symm)
def yc_(ns:List Int):List Int:=(vz_ ns).filter λx=>decide (0<x)
theorem aa6_(ns:List Int):(yc_ ns).length<=ns.length:=by
 unfold yc_
 have h:=Ci (λx=>decide (0<x)) (vz_ ns)
 have:(vz_ ns).length=ns.length:=(DV ns _).length_eq
 omega
abbrev nRo:List Str:=["_law_powers_here"]
abbrev bRo:List Str:=["_law_number_here"]
theorem ndRo:bRo.Nodup:=by decide +kernel
theorem scRo:FnScope nRo nRo (qh_ sRow):=⟨rfl,rfl,rfl,by decide +kernel,rfl,by decide +kernel,by decide +kernel⟩
def ajz_:Sp:=λvs H Q _=>∃(p:Addr)(ns:List Int),vs=[.ref p]/\H p=some (.tup (ns.map V.int))/\ns.length<=1000/\∀(t:Addr)(H':Hp),Same H H'->H' t=some (.tup ((yc_ ns).map V.int))->Q (.ref t) H'
theorem amo_(F:Fun K "_law_row" "_law_row" sRow f fd)(mt:mg "tuple" = none)(ms:mg "sorted" = none):FnOk P w K mg base CX0 2 f fd nRo ajz_:=by
 refine F.ok scRo (λvs H Q E h=>?_) (λcdv A outer s H vs Q E hr h=>?_)
 ·obtain⟨p,ns,rfl,_⟩:=h
  rfl
 obtain⟨p1,ns,rfl,h1,hl,q⟩:=h
 have h8:=hu8 hr
 refine⟨_,qf_ (qn_ (qN_ qQ_ rfl mt Av (qa_ (qO_ (N':=bRo) (src:=[none]) rfl (qu_ (vh_ rfl h8 rfl ms (qa_ (pv 0) qb_))) (ze_ (qh_ sRow) nRo (by decide +kernel))
   (λb=>qj_ (i:=0) ndRo rfl (Or.inl rfl)) (λb=>xM_ (qy_ j9_ (pv 0) qg_ (qt_ _))) (λb=>pv 0)) qb_))),?_⟩
 refine⟨_,rfl,p1,ns,rfl,SqT.of h1,λp2 l h2 pm so=>?_⟩
 have el:=ak1_ pm so
 have s2:=qd_ h2 (.lst (l.map V.int))
 refine⟨p2,rfl,⟨_,SqL.of qc_⟩,λbk D hD=>?_⟩
 have ll:=pm.length_eq
 refine zP_ (α:=Int) hD (SqL.of qc_) (λσ=>∃c,σ=[c]) (λi=>(l[i]?).bind λx=>if 0<x then some x else none) (qr_ (by rw[AA];omega)) ⟨_,rfl⟩ ?_ ?_
 ·rintro i v σ H3 Yes No hv ⟨c,rfl⟩ s3 yes no
  obtain⟨x,hx,rfl⟩:∃x,l[i]?=some x/\V.int x=v:=by
   rw[AT]at hv
   cases e:l[i]? with
   |none=>rw[e]at hv;cases hv
   |some y=>rw[e]at hv;exact⟨y,rfl,AW hv⟩
  refine⟨_,rfl,_,_,rfl,rfl,_,rfl,?_⟩
  by_cases c0:0<x
  ·exact x4_ c0 ⟨_,rfl,yes _ _ _ x ⟨_,rfl⟩ (Same.refl _) (by rw[hx,CU,if_pos c0]) rfl⟩
  ·exact xw_ c0 (no _ _ ⟨_,rfl⟩ (Same.refl _) (by rw[hx,CU,if_neg c0]))
 ·rintro H3 s3 ⟨ws,eD,iD⟩
  have e:(List.range (l.map V.int).length).filterMap (λi=>(l[i]?).bind λx=>if 0<x then some x else none)=yc_ ns:=by
   rw[AA,qT_,zW_,el]
   exact EM _
  rw[zp_ iD,e]at eD
  refine⟨D,_,rfl,.inl ⟨SqL.of eD,λt4 h4=>?_⟩⟩
  have s4:=qd_ h4 (.tup ((yc_ ns).map V.int))
  exact q t4 _ (s2.trans (s3.trans s4)) qc_
def jo_(n:Nat)(w c:Int):Mon:=(yc_ (jj_ c 3 w n),vR_ 57 c)
abbrev nTd:List Str:=["_law_cells", "_law_many", "_law_weight"]
abbrev bTd:List Str:=["_law_cell_here", "_law_many", "_law_weight"]
theorem ndTd:bTd.Nodup:=by decide +kernel
theorem scTd:FnScope nTd nTd (qh_ aaq_):=⟨rfl,rfl,rfl,by decide +kernel,rfl,by decide +kernel,by decide +kernel⟩
def agr_:Sp:=λvs H Q _=>∃(a:Addr)(cs:List Int)(n:Nat)(w:Int),vs=[.ref a,.int n,.int w]/\H a=some (.lst (cs.map V.int))/\cs.length<=40/\1<=n/\n<=4/\0<=w/\w<=8/\∀(l:Addr)(H':Hp),H l=none->Same H H'->LstAt H' l (norm (cs.map (jo_ n w)))->(norm (cs.map (jo_ n w))).length<=40->(∀t∈norm (cs.map (jo_ n w)),t.1.length<=n)->Q (.ref l) H'
theorem ale_(F:Fun K "_law_told" "_law_told" aaq_ f fd)(GS:Has P w K mg base 4 "_law_sum" ["_law_terms"] xE_)(GR:Has P w K mg base 4 "_law_row" nRo ajz_)(GP:Has P w K mg base 4 "_law_powers" pP ajo_)(GN:Has P w K mg base 4 "_law_number" ["_law_cell_here"] aj3_):FnOk P w K mg base CX0 5 f fd nTd agr_:=by
 refine F.ok scTd (λvs H Q E h=>?_) (λcdv A outer s H vs Q E hr h=>?_)
 ·obtain⟨a,cs,n,w,rfl,_⟩:=h
  rfl
 obtain⟨a,cs,n,w,rfl,ha,hl,n1,n4,w0,w8,q⟩:=h
 refine⟨_,qf_ (qn_ (qo_ GS hr rfl (qa_ (qO_ (N':=bTd) (src:=[none,some 1,some 2]) rfl (qu_ (pv 0)) (ze_ (qh_ aaq_) nTd (by decide +kernel))
   (λb=>qj_ (i:=0) ndTd rfl (Or.inl rfl)) (λb=>q4_) (λb=>qs_ (qa_ (qo_ GR hr rfl (qa_ (qo_ GP hr rfl (qa_ (pv 0) (qa_ qg_ (qa_ (pv 1) (qa_ (pv 2) qb_))))) qb_)) (qa_ (qo_ GN hr rfl (qa_ (pv 0) qb_)) qb_)))) qb_))),?_⟩
 refine⟨_,rfl,a,rfl,⟨_,SqL.of ha⟩,λbk D hD=>?_⟩
 refine zP_ (α:=Mon) hD (SqL.of ha) (λσ=>∃c,σ=[c,some (.int n),some (.int w)]) (λi=>(cs[i]?).bind λc=>some (jo_ n w c)) (qr_ (by rw[AA];omega)) ⟨_,rfl⟩ ?_ ?_
 ·rintro i v σ H3 Yes No hv ⟨c,rfl⟩ s3 yes no
  obtain⟨x,hx,rfl⟩:∃x,cs[i]?=some x/\V.int x=v:=by
   rw[AT]at hv
   cases e:cs[i]? with
   |none=>rw[e]at hv;cases hv
   |some y=>rw[e]at hv;exact⟨y,rfl,AW hv⟩
  refine zE_ ?_
  have pl:=(vK_ (c:=x) (far:=3) (w:=w) w0 n1).1
  refine⟨_,rfl,_,rfl,_,rfl,x,3,w,n,rfl,n1,by omega,by decide,by decide,w0,by omega,λp4 H4 s4 h4=>?_⟩
  refine⟨p4,_,rfl,h4,by omega,λt5 H5 s5 h5=>?_⟩
  refine⟨_,rfl,x,rfl,(by show 2<=sizeLine;decide),λt6 h6=>?_⟩
  have s6:=qd_ h6 (.tup [.ref t5,.int (vR_ 57 x)])
  exact yes _ _ _ (jo_ n w x) ⟨_,rfl⟩ (s4.trans (s5.trans s6)) (by rw[hx];rfl) (q5_ (t:=jo_ n w x) qc_ (s6 _ _ h5))
 ·rintro H3 s3 hL
  have e:(List.range (cs.map V.int).length).filterMap (λi=>(cs[i]?).bind λc=>some (jo_ n w c))=cs.map (jo_ n w):=by
   rw[AA,qT_,Aq]
  rw[e]at hL
  refine⟨D,_,rfl,hL,by rw[AA];omega,λl H4 hl4 s4 h4=>q l H4 (s3.free hl4) (s3.trans s4) h4 ?_ λt ht=>?_⟩
  ·have:=zy_ (cs.map (jo_ n w))
   rw[AA]at this
   omega
  ·obtain⟨u,hu,e⟩:=qY_ ht
   obtain⟨x,_,rfl⟩:=Ae.mp hu
   rw[<-e]
   have:=aa6_ (jj_ x 3 w n)
   have pl:=(vK_ (c:=x) (far:=3) (w:=w) w0 n1).1
   show(yc_ (jj_ x 3 w n)).length<=n
   omega
theorem aif_(k:Nat):(List.replicate k [V.int 0]).flatten=(List.replicate k (0:Int)).map V.int:=by
 induction k with
 |zero=>rfl
 |succ k ih=>rw[Ar,BV,ih,Ar];rfl
def evG(n:Nat)(t:Mon):List Mon:=(xZ_ n t.1).map λq=>(q,t.2)
theorem x8_{n:Nat}{r:List Int}(h:r.length<=n)(n4:n<=4):(xZ_ n r).length<=24/\∀s∈xZ_ n r,s.length=n:=by
 have:=adf_ (r++List.replicate (n-r.length) (0:Int))
 rw[show(r++List.replicate (n-r.length) (0:Int)).length=n by rw[AE,BM];omega]at this
 have b4:bnd n<=24:=by
  have:n=0∨n=1∨n=2∨n=3∨n=4:=by omega
  rcases this with e|e|e|e|e<;>rw[e]<;>decide
 exact⟨Aj this.1 b4,this.2⟩
theorem yW_{n:Nat}{T:List Mon}(h:∀t∈T,t.1.length<=n)(n4:n<=4)(hT:T.length<=40)(i:Nat):((T.take i).flatMap (evG n)).length<=960:=by
 have:=zR_ (evG n) 24 (T.take i) λt ht=>by
  unfold evG
  rw[AA]
  exact(x8_ (h t (BL ht)) n4).1
 rw[AS]at this
 have:min i T.length<=40:=by omega
 have:=Bz 24 this
 omega
abbrev nEv:List Str:=["_law_telling", "_law_many", "_law_terms", "_law_row_here", "_law_number_here", "_law_powers_here"]
abbrev pEv:List Str:=["_law_telling", "_law_many"]
theorem scEv:FnScope nEv pEv (qh_ aed_):=⟨rfl,rfl,rfl,by decide +kernel,rfl,by decide +kernel,by decide +kernel⟩
def ahe_:Sp:=λvs H Q _=>∃(a:Addr)(T:List Mon)(n:Nat),vs=[.ref a,.int n]/\LstAt H a T/\T.length<=40/\1<=n/\n<=4/\(∀t∈T,t.1.length<=n)/\∀(l:Addr)(H':Hp),H l=none->Same H H'->LstAt H' l (norm (T.flatMap (evG n)))->(norm (T.flatMap (evG n))).length<=960->(∀t∈norm (T.flatMap (evG n)),t.1.length=n)->Q (.ref l) H'
theorem ald_(F:Fun K "_law_even" "_law_even" aed_ f fd)(GO:Has P w K mg base 3 "_law_orders" ["_law_numbers"] spLo)(GS:Has P w K mg base 3 "_law_sum" ["_law_terms"] xE_)(ml:mg "list" = none)(mn:mg "len" = none):FnOk P w K mg base CX0 4 f fd pEv ahe_:=by
 refine F.ok scEv (λvs H Q E h=>?_) (λcdv A outer s H vs Q E hr h=>?_)
 ·obtain⟨a,T,n,rfl,_⟩:=h
  rfl
 obtain⟨a,T,n,rfl,⟨vs,eL,iL⟩,hT,n1,n4,lens,q⟩:=h
 refine⟨_,qe_ (qm_ (i:=2) scEv.nd rfl (Or.inl rfl) (qv_ qb_))
  (qe_ (qw_ Ah rfl (qu_ (pv 0)) (qU_ rfl (ql_ (qj_ (i:=3) scEv.nd rfl (Or.inl rfl)) (ql_ (qj_ (i:=4) scEv.nd rfl (Or.inl rfl)) qF_)))
   (qf_ (qw_ Ah rfl (qu_ (qo_ GO hr rfl (qa_ (qi_ jb_ (qN_ jG_ rfl ml B5 (qa_ (pv 3) qb_)) (qi_ afg_ (qv_ (qa_ qg_ qb_)) (qi_ qZ_ (pv 1) (qp_ qI_ rfl mn BZ (qa_ (pv 3) qb_))))) qb_))) (qj_ (i:=5) scEv.nd rfl (Or.inl rfl))
    (qf_ (q2_ (z5_ Au As At qS_ (pv 2) (qa_ (qs_ (qa_ (pv 5) (qa_ (pv 4) qb_))) qb_)))))))
  (qf_ (qn_ (qo_ GS hr rfl (qa_ (pv 2) qb_))))),?_⟩
 refine⟨(by show 0<=sizeLine;decide),λl hl0=>?_⟩
 have s0:=qd_ hl0 (.lst [])
 have lv:=AL iL
 refine⟨_,rfl,a,rfl,⟨vs,SqL.of (s0 _ _ eL)⟩,?_⟩
 refine qE_ (xs:=vs) (λi σ H'=>(∃c3 c4 c5,σ=[some (.ref a),some (.int n),some (.ref l),c3,c4,c5])/\LstAt H' l ((T.take i).flatMap (evG n))/\Same H H') ?_ ?_ ?_ ?_
 ·exact⟨⟨_,_,_,rfl⟩,⟨[],qc_,.nil⟩,s0⟩
 ·rintro i σ H1 _ ⟨_,_,s1⟩
  exact SqL.of (s1 _ _ eL)
 ·rintro i x σ H1 hx ⟨⟨c3,c4,c5,rfl⟩,hW,s1⟩
  obtain⟨t,ht,hi⟩:=qD_ iL hx
  obtain⟨p,kk,rfl,hp,hkk⟩:=q7_ hi
  have tl:=lens t (AY ht)
  have hk1:=s1 _ _ hkk
  refine⟨p,_,rfl,SqT.of (s1 _ _ hp),rfl,_,_,rfl,_,_,rfl,rfl,?_⟩
  refine⟨_,rfl,kk,_,rfl,.inr (SqT.of hk1),λl3 h3=>?_⟩
  have s3:=qd_ h3 (.lst (t.1.map V.int))
  refine⟨(by show 1<=sizeLine;decide),λl4 h4=>?_⟩
  have s4:=qd_ h4 (.lst [.int 0])
  refine⟨_,rfl,_,rfl,kk,_,rfl,.inr (SqT.of (s4 _ _ (s3 _ _ hk1))),_,_,rfl,rfl,l4,_,_,rfl,rfl,qc_,by rw[AA];omega,by rw[AA];omega,qr_ (by rw[AA];show 1*_<=100000;omega),λl5 h5=>?_⟩
  rw[AA,show((n:Int)-(t.1.length:Int)).toNat=n-t.1.length by omega,aif_]
  have s5:=qd_ h5 (.lst ((List.replicate (n-t.1.length) (0:Int)).map V.int))
  refine⟨l3,l5,_,_,rfl,rfl,s5 _ _ (s4 _ _ qc_),qc_,qr_ (by rw[AA,AA,BM];omega),λl6 h6=>?_⟩
  rw[<-Ao]
  have s6:=qd_ h6 (.lst ((t.1++List.replicate (n-t.1.length) (0:Int)).map V.int))
  refine⟨l6,_,rfl,qc_,by rw[AE,BM];omega,λl7 H7 h7 s7 hL7=>?_⟩
  have hL7:LstAt H7 l7 (xZ_ n t.1):=hL7
  have z7:=s3.trans (s4.trans (s5.trans (s6.trans s7)))
  obtain⟨al,am⟩:=x8_ tl n4
  have tk:(T.take (i+1)).flatMap (evG n)=(T.take i).flatMap (evG n)++(xZ_ n t.1).map λq=>(q,t.2):=by
   rw[qH_ ht,Bi,Be]
   rfl
  have b1:=yW_ lens n4 hT i
  have hW7:=hW.mono z7
  rw[tk]
  generalize (T.take i).flatMap (evG n)=pre at hW7 b1
  generalize xZ_ n t.1=os at hL7 al am
  obtain⟨ws,eW,iW⟩:=hL7
  have lw:=AL iW
  refine⟨l7,rfl,⟨_,SqL.of eW⟩,?_⟩
  have n77:l7≠l:=λz=>by
   obtain⟨us,eu,_⟩:=hW.mono (s3.trans (s4.trans (s5.trans s6)))
   rw[z,eu]at h7
   cases h7
  refine qE_ (xs:=ws) (λj σ H'=>(∃c5,σ=[some (.ref a),some (.int n),some (.ref l),some (.ref kk),some (.int t.2),c5])/\LstAt H' l (pre++(os.take j).map λq=>(q,t.2))/\Same H H'/\H' l7=some (.lst ws)/\Tups H7 H') ?_ ?_ ?_ ?_
  ·refine⟨⟨_,rfl⟩,?_,s1.trans z7,eW,λ_ _ e=>e⟩
   rw[Bn,Bw,Ax]
   exact hW7
  ·rintro j σ H8 _ ⟨_,_,_,e8,_⟩
   exact SqL.of e8
  ·rintro j v σ H8 hv ⟨⟨c5,rfl⟩,⟨us,eU,iU⟩,s8,e8,t8⟩
   obtain⟨x,hx,hi2⟩:=qD_ iW hv
   obtain⟨px,rfl,hpx⟩:=zG_ hi2
   have hp8:=t8 _ _ hpx
   have lu:=AL iU
   have jl:j<os.length:=(AR.mp hx).1
   refine⟨_,rfl,.inl ⟨rfl,_,SqL.of eU⟩,_,rfl,_,rfl,(by show 2<=sizeLine;decide),λp9 h9=>?_⟩
   have s9:=qd_ h9 (.tup [.ref px,.int t.2])
   have eU9:=s9 _ _ eU
   have t9:∀o,Tups (upd H8 p9 (.tup [.ref px,.int t.2])) (upd (upd H8 p9 (.tup [.ref px,.int t.2])) l o):=λo=>jc_ eU9 o
   refine⟨l,us,_,rfl,rfl,eU9,zn_ (by rw[AE,AA,AS]at lu;omega),⟨_,rfl⟩,⟨us++[.ref p9],qc_,?_⟩,yB_ hl0 (s8.trans s9) _,?_,λr ys e=>t9 _ _ _ (s9 _ _ (t8 _ _ e))⟩
   ·rw[qH_ hx,Ao,<-AX]
    exact CF (Its.mono ((Tups.same s9).trans (t9 _)) iU) (Dat.mono (t9 _) (q5_ (t:=(x,t.2)) qc_ (s9 _ _ hp8)))
   ·rw[qk_ n77]
    exact s9 _ _ e8
  ·rintro σ H8 ⟨⟨c5,rfl⟩,h8,s8,_,_⟩
   rw[AN (by omega)]at h8
   exact⟨⟨_,_,_,rfl⟩,h8,s8⟩
 ·rintro σ H1 ⟨⟨c3,c4,c5,rfl⟩,hL,s1⟩
  have b1:=yW_ lens n4 hT vs.length
  rw[AN (by omega)]at hL b1
  refine⟨_,rfl,l,_,rfl,hL,by omega,λl3 H2 hl3 s2 h2=>q l3 H2 (s1.free hl3) (s1.trans s2) h2 (Aj (zy_ _) b1) λt ht=>?_⟩
  obtain⟨u,hu,e⟩:=qY_ ht
  obtain⟨y,hy,hm⟩:=BS.mp hu
  obtain⟨o,ho,rfl⟩:=Ae.mp hm
  rw[<-e]
  exact(x8_ (lens y hy) n4).2 o ho
end
end L2.K53
set_option maxRecDepth 1000000
namespace L2.Ev
open L2.Pl
theorem vF_{α:Type}(h:Nat->Int)(g:α->Nat×Int):∀(l:List α)(acc:List (Nat×Int)),smK h (l.foldl (λacc x=>jD_ (acc.length+1) acc [g x]) acc)=smK h acc+smK h (l.map g)
 |[],acc=>by simp [smK]
 |x::l,acc=>by
  rw[Br,vF_ h g l,xl_,Aa]
  simp only[smK]
  omega
theorem v5_(h:Nat->Int)(e:Nat)(c:Int):∀kf:List (Nat×Int),smK h (kf.map λu=>(u.1+e,u.2*c))=c*smK (λk=>h (k+e)) kf
 |[]=>by simp [smK]
 |u::kf=>by
  rw[Aa]
  simp only[smK]
  rw[v5_ h e c kf,Ey,<-Cq,Dy u.2 c]
theorem yL_(g:Nat->Int):∀L:List Mon,smK g (L.map λt=>(zc_ t.1,t.2))=sm (λp=>g (zc_ p)) L
 |[]=>rfl
 |t::L=>by
  rw[Aa]
  simp only[smK,sm]
  rw[yL_ g L]
theorem ac1_(h:Nat->Int)(kf:List (Nat×Int)):∀(A:List Mon)(acc:List (Nat×Int)),smK h (A.foldl (λacc t=>jD_ (acc.length+kf.length+1) acc (kf.map λu=>(u.1+zc_ t.1,u.2*t.2))) acc)=smK h acc+sm (λq=>smK (λk=>h (k+zc_ q)) kf) A
 |[],acc=>by simp [sm]
 |t::A,acc=>by
  rw[Br,ac1_ h kf A,xl_,v5_]
  simp only[sm]
  omega
theorem acr_(G:Pw->Pw->Int)(A:List Mon):∀F:List Mon,sm (λp=>sm (λq=>G p q) A) F=sm (λq=>sm (λp=>G p q) F) A
 |[]=>by
  have z:∀A:List Mon,sm (λ_=>(0:Int)) A=0:=by
   intro A
   induction A with
   |nil=>rfl
   |cons t A ih=>simp only[sm,ih];omega
  show(0:Int)=sm (λq=>sm (λp=>G p q) []) A
  exact(z A).symm
 |t::F=>by
  show t.2*sm (λq=>G t.1 q) A+sm (λp=>sm (λq=>G p q) A) F=sm (λq=>t.2*G t.1 q+sm (λp=>G p q) F) A
  rw[ag1_,vD_,acr_ G A F]
theorem xC_(p:List Int)(x:Int):zc_ (p++[x])=16*zc_ p+x.toNat:=by
 unfold zc_
 rw[B9]
 rfl
def dec:Nat->Nat->List Int
 |0,_=>[]
 |m+1,k=>dec m (k / 16)++[((k%16:Nat):Int)]
theorem yO_:∀(m:Nat)(p:List Int),p.length=m->(∀x∈p,0<=x/\x<=15)->dec m (zc_ p)=p
 |0,p,h,_=>by rw[BN.mp h];rfl
 |m+1,p,h,b=>by
  have ne:p≠[]:=by intro z;rw[z]at h;simp at h
  obtain⟨as,x,e⟩:∃as x,p=as++[x]:=⟨_,_,(BF ne).symm⟩
  subst e
  rw[AE,Ay]at h
  have bx:=b x (by simp)
  rw[xC_]
  unfold dec
  rw[show(16*zc_ as+x.toNat) / 16=zc_ as by omega,show(16*zc_ as+x.toNat)%16=x.toNat by omega,yO_ m as (by omega) λy hy=>b y (Aw _ hy),Eo bx.1]
theorem ab1_:∀(m:Nat)(p q:List Int),p.length=m->q.length=m->(∀x∈p,0<=x)->(∀x∈q,0<=x)->zc_ (pad p q)=zc_ p+zc_ q
 |0,p,q,h,g,_,_=>by rw[BN.mp h,BN.mp g];rfl
 |m+1,p,q,h,g,b,c=>by
  have ne:p≠[]:=by intro z;rw[z]at h;simp at h
  have ne2:q≠[]:=by intro z;rw[z]at g;simp at g
  obtain⟨as,x,e⟩:∃as x,p=as++[x]:=⟨_,_,(BF ne).symm⟩
  obtain⟨bs,y,e2⟩:∃bs y,q=bs++[y]:=⟨_,_,(BF ne2).symm⟩
  subst e e2
  rw[AE,Ay]at h g
  have x0:=b x (by simp)
  have y0:=c y (by simp)
  have ez:pad (as++[x]) (bs++[y])=pad as bs++[x+y]:=by
   unfold pad
   rw[List.zipWith_append (by omega)]
   rfl
  rw[ez,xC_,xC_,xC_,ab1_ m as bs (by omega) (by omega) (λz hz=>b z (Aw _ hz)) λz hz=>c z (Aw _ hz)]
  omega
theorem xW_{n b:Nat}{p:List Int}(h:xO_ n b p=true):p.length=n/\∀x∈p,0<=x/\x<=(b:Int):=by
 unfold xO_ at h
 rw[AQ,Ad,beq_iff_eq]at h
 refine⟨h.1,λx hx=>?_⟩
 have:=h.2 x hx
 rw[AQ,decide_eq_true_eq,decide_eq_true_eq]at this
 exact this
theorem v9_:∀{p q:List Int}{a b:Int},(∀x∈p,0<=x/\x<=a)->(∀x∈q,0<=x/\x<=b)->∀x∈pad p q,0<=x/\x<=a+b
 |[],q,_,_,_,_,x,hx=>by simp [pad]at hx
 |_::_,[],_,_,_,_,x,hx=>by simp [pad]at hx
 |y::p,z::q,a,b,hp,hq,x,hx=>by
  have e:pad (y::p) (z::q)=(y+z)::pad p q:=rfl
  rw[e]at hx
  rcases AJ.mp hx with rfl|hx
  ·have:=hp y (AD ..)
   have:=hq z (AD ..)
   omega
  ·exact v9_ (λx hx=>hp x (AC _ hx)) (λx hx=>hq x (AC _ hx)) x hx
theorem anm_{n:Nat}{r:List Int}(h:chk n r=true):norm (prd (norm (q3_ n r)) (norm (qV_ n [])))=norm (qV_ n r):=by
 unfold chk at h
 rw[AQ,AQ,AQ,Ad,Ad,Ad,beq_iff_eq]at h
 obtain⟨⟨⟨h1,h2⟩,h3⟩,h4⟩:=h
 have hF:∀t∈q3_ n r,t.1.length=n/\∀x∈t.1,0<=x/\x<=(11:Int):=λt ht=>by
  unfold q3_ at ht
  obtain⟨f,hf,rfl⟩:=Ae.mp ht
  exact xW_ (h1 f hf)
 refine je_ λf=>?_
 rw[zX_,qR_]
 have e1:(λp=>sm (λq=>f (pad p q)) (norm (qV_ n [])))=λp=>sm (λq=>f (pad p q)) (qV_ n []):=by funext p;rw[qR_]
 rw[e1]
 have e2:sm (λp=>sm (λq=>f (pad p q)) (qV_ n [])) (q3_ n r)=sm (λp=>sm (λq=>f (dec n (zc_ p+zc_ q))) (qV_ n [])) (q3_ n r):=by
  refine zx_ λt ht=>zx_ λu hu=>?_
  obtain⟨a1,a2⟩:=hF t ht
  obtain⟨b1,b2⟩:=xW_ (h2 u hu)
  rw[<-ab1_ n t.1 u.1 a1 b1 (λx hx=>(a2 x hx).1) λx hx=>(b2 x hx).1,yO_ n (pad t.1 u.1) (adm_ a1 b1) λx hx=>by have:=v9_ a2 b2 x hx;omega]
 rw[e2,acr_]
 have e3:=congrArg (smK λk=>f (dec n k)) h4
 unfold mulK sumK at e3
 rw[ac1_,vF_ (λk=>f (dec n k)) (λt:Mon=>(zc_ t.1,t.2)),yL_]at e3
 simp only[smK,Ch]at e3
 have e4:∀g:Nat->Int,smK g (KF n r)=sm (λp=>g (zc_ p)) (q3_ n r):=λg=>by
  unfold KF
  rw[vF_ g (λf=>(zc_ (pwf n f),(1:Int))),<-yL_]
  unfold q3_
  rw[CS]
  simp only[smK,Ch]
  rfl
 have e5:sm (λq=>sm (λp=>f (dec n (zc_ p+zc_ q))) (q3_ n r)) (qV_ n [])=sm (λq=>smK (λk=>f (dec n (k+zc_ q))) (KF n r)) (qV_ n []):=zx_ λt _=>(e4 λk=>f (dec n (k+zc_ t.1))).symm
 rw[e5,e3]
 refine zx_ λt ht=>?_
 obtain⟨a1,a2⟩:=xW_ (h3 t ht)
 rw[yO_ n t.1 a1 a2]
theorem aqp_:(gen 2 8 8).all (xV_ 1)=true:=by decide +kernel
theorem apd_:(gen 3 8 8).all (xV_ 2)=true:=by decide +kernel
theorem ajn_{α:Type}{x:α}{l:List α}(c m:Nat)(h:x∈l)(hl:l.length<=c*m)(hc:0<c):∃i,i<m/\x∈(l.drop (c*i)).take c:=by
 obtain⟨k,hk⟩:=Ea.mp h
 have lk:k<l.length:=(AR.mp hk).1
 have e:=Nat.div_add_mod k c
 have r:=Nat.mod_lt k hc
 refine⟨k / c,(Nat.div_lt_iff_lt_mul hc).mpr (by rw[C2];omega),Ea.mpr ⟨k%c,?_⟩⟩
 rw[List.getElem?_take,if_pos r,Dd,e]
 exact hk
def qx_(n c i:Nat):Bool:=(((gen (n+1) 8 8).drop (c*i)).take c).all (xV_ n)
theorem apm_:(gen 4 8 8).length<=4*14:=by decide +kernel
theorem aqq_:(gen 5 8 8).length<=2*34:=by decide +kernel
theorem c3_0:qx_ 3 4 0=true:=by decide +kernel
theorem c3_1:qx_ 3 4 1=true:=by decide +kernel
theorem c3_2:qx_ 3 4 2=true:=by decide +kernel
theorem c3_3:qx_ 3 4 3=true:=by decide +kernel
theorem c3_4:qx_ 3 4 4=true:=by decide +kernel
theorem c3_5:qx_ 3 4 5=true:=by decide +kernel
theorem c3_6:qx_ 3 4 6=true:=by decide +kernel
theorem c3_7:qx_ 3 4 7=true:=by decide +kernel
theorem c3_8:qx_ 3 4 8=true:=by decide +kernel
theorem c3_9:qx_ 3 4 9=true:=by decide +kernel
theorem aqj_:qx_ 3 4 10=true:=by decide +kernel
theorem aqv_:qx_ 3 4 11=true:=by decide +kernel
theorem aoq_:qx_ 3 4 12=true:=by decide +kernel
theorem ape_:qx_ 3 4 13=true:=by decide +kernel
theorem c4_0:qx_ 4 2 0=true:=by decide +kernel
theorem c4_1:qx_ 4 2 1=true:=by decide +kernel
theorem c4_2:qx_ 4 2 2=true:=by decide +kernel
theorem c4_3:qx_ 4 2 3=true:=by decide +kernel
theorem c4_4:qx_ 4 2 4=true:=by decide +kernel
theorem c4_5:qx_ 4 2 5=true:=by decide +kernel
theorem c4_6:qx_ 4 2 6=true:=by decide +kernel
theorem c4_7:qx_ 4 2 7=true:=by decide +kernel
theorem c4_8:qx_ 4 2 8=true:=by decide +kernel
theorem c4_9:qx_ 4 2 9=true:=by decide +kernel
theorem aqi_:qx_ 4 2 10=true:=by decide +kernel
theorem aph_:qx_ 4 2 11=true:=by decide +kernel
theorem ap5_:qx_ 4 2 12=true:=by decide +kernel
theorem aqd_:qx_ 4 2 13=true:=by decide +kernel
theorem aox_:qx_ 4 2 14=true:=by decide +kernel
theorem apa_:qx_ 4 2 15=true:=by decide +kernel
theorem ap9_:qx_ 4 2 16=true:=by decide +kernel
theorem ao6_:qx_ 4 2 17=true:=by decide +kernel
theorem apo_:qx_ 4 2 18=true:=by decide +kernel
theorem ao0_:qx_ 4 2 19=true:=by decide +kernel
theorem apq_:qx_ 4 2 20=true:=by decide +kernel
theorem aoz_:qx_ 4 2 21=true:=by decide +kernel
theorem aov_:qx_ 4 2 22=true:=by decide +kernel
theorem aor_:qx_ 4 2 23=true:=by decide +kernel
theorem aqh_:qx_ 4 2 24=true:=by decide +kernel
theorem aql_:qx_ 4 2 25=true:=by decide +kernel
theorem aqa_:qx_ 4 2 26=true:=by decide +kernel
theorem ao3_:qx_ 4 2 27=true:=by decide +kernel
theorem aqb_:qx_ 4 2 28=true:=by decide +kernel
theorem aps_:qx_ 4 2 29=true:=by decide +kernel
theorem aqm_:qx_ 4 2 30=true:=by decide +kernel
theorem ap4_:qx_ 4 2 31=true:=by decide +kernel
theorem apt_:qx_ 4 2 32=true:=by decide +kernel
theorem aqe_:qx_ 4 2 33=true:=by decide +kernel
theorem ams_:∀i,i<14->qx_ 3 4 i=true
 |0,_=>c3_0
 |1,_=>c3_1
 |2,_=>c3_2
 |3,_=>c3_3
 |4,_=>c3_4
 |5,_=>c3_5
 |6,_=>c3_6
 |7,_=>c3_7
 |8,_=>c3_8
 |9,_=>c3_9
 |10,_=>aqj_
 |11,_=>aqv_
 |12,_=>aoq_
 |13,_=>ape_
 |i+14,h=>absurd h (by omega)
theorem anb_:∀i,i<34->qx_ 4 2 i=true
 |0,_=>c4_0
 |1,_=>c4_1
 |2,_=>c4_2
 |3,_=>c4_3
 |4,_=>c4_4
 |5,_=>c4_5
 |6,_=>c4_6
 |7,_=>c4_7
 |8,_=>c4_8
 |9,_=>c4_9
 |10,_=>aqi_
 |11,_=>aph_
 |12,_=>ap5_
 |13,_=>aqd_
 |14,_=>aox_
 |15,_=>apa_
 |16,_=>ap9_
 |17,_=>ao6_
 |18,_=>apo_
 |19,_=>ao0_
 |20,_=>apq_
 |21,_=>aoz_
 |22,_=>aov_
 |23,_=>aor_
 |24,_=>aqh_
 |25,_=>aql_
 |26,_=>aqa_
 |27,_=>ao3_
 |28,_=>aqb_
 |29,_=>aps_
 |30,_=>aqm_
 |31,_=>ap4_
 |32,_=>apt_
 |33,_=>aqe_
 |i+34,h=>absurd h (by omega)
theorem ao2_:(gen 4 8 8).all (xV_ 3)=true:=Ad.mpr λr hr=>by
 obtain⟨i,hi,hx⟩:=ajn_ 4 14 hr apm_ (by decide)
 exact Ad.mp (ams_ i hi) r hx
theorem ap0_:(gen 5 8 8).all (xV_ 4)=true:=Ad.mpr λr hr=>by
 obtain⟨i,hi,hx⟩:=ajn_ 2 34 hr aqq_ (by decide)
 exact Ad.mp (anb_ i hi) r hx
theorem alb_{n:Nat}(n1:1<=n)(n4:n<=4):∀r∈gen (n+1) 8 8,xV_ n r=true:=by
 have h:n=1∨n=2∨n=3∨n=4:=by omega
 rcases h with rfl|rfl|rfl|rfl
 ·exact Ad.mp aqp_
 ·exact Ad.mp apd_
 ·exact Ad.mp ao2_
 ·exact Ad.mp ap0_
theorem v0_{n:Nat}(n4:n<=4){r:List Int}(h8:∀x∈r,0<=x/\x<=8){j:Nat}:∀i,i<=j->jL_ n (r.take j) i=jL_ n r i
 |0,_=>rfl
 |i+1,h=>by
  have ih:=v0_ n4 h8 (j:=j) i (by omega)
  unfold jL_
  rw[ih]
  unfold wnl
  have ok:=yE_ n4 h8 i
  have g:∀k,k<j->(r.take j).getD k 0=r.getD k 0:=λk hk=>by rw[AK,AK,List.getElem?_take,if_pos hk]
  have e:∀lines∈jL_ n r i,j4_ n (r.take j) lines=j4_ n r lines:=λlines hl=>by
   have:=(ok lines hl).1
   unfold j4_ lfn
   rw[g 0 (by omega),g lines.length (by omega)]
  generalize jL_ n r i=fs at e
  induction fs with
  |nil=>rfl
  |cons x fs ih2=>rw[CB,CB,e x (AD ..),ih2 λy hy=>e y (AC _ hy)]
theorem ab2_:∀(r:List Int)(j:Nat),(∀x∈r,0<=x)->(r.take j).sum<=r.sum
 |[],j,_=>by simp
 |x::r,0,h=>by
  have:∀l:List Int,(∀y∈l,0<=y)->0<=l.sum:=by
   intro l
   induction l with
   |nil=>intro _;exact Cs _
   |cons y l ih =>
    intro hy
    have:=hy y (AD ..)
    have:=ih λz hz=>hy z (AC _ hz)
    rw[Ab]
    omega
  simpa using this (x::r) h
 |x::r,j+1,h=>by
  have:=ab2_ r j λy hy=>h y (AC _ hy)
  rw[El,Ab,Ab]
  omega
theorem adr_{n:Nat}{r:List Int}(n1:1<=n)(n4:n<=4)(hl:r.length<=n+1)(hb:∀x∈r,1<=x/\x<=8)(hp:r.Pairwise λa b=>b<=a)(hs:r.sum<=8) :
  (∀j,j<=r.length->(jL_ n r j).length<=1000)/\(r.length<=n->norm (prd (norm (q3_ n r)) (norm (qV_ n [])))=norm (qV_ n r)/\∀t∈q3_ n r,t.1.length=n/\∀x∈t.1,0<=x/\x<=(11:Int))/\(n<r.length->q3_ n r=[]):=by
 have h8:∀x∈r,0<=x/\x<=8:=λx hx=>by have:=hb x hx;omega
 have key:∀j,xV_ n (r.take j)=true:=λj=>alb_ n1 n4 _ (ade_ (n+1) 8 8 (r.take j) (by rw[AS];omega) (λx hx=>hb x (BL hx)) (hp.sublist (Dn ..)) (by have:=ab2_ r j λx hx=>(h8 x hx).1;omega))
 have kr:=key r.length
 rw[DG]at kr
 unfold xV_ at kr
 rw[AQ,decide_eq_true_eq]at kr
 refine⟨λj hj=>?_,λc=>?_,λc=>?_⟩
 ·have kj:=key j
  unfold xV_ at kj
  rw[AQ,decide_eq_true_eq]at kj
  have:=kj.1
  unfold fil at this
  rw[AS,BQ hj,v0_ n4 h8 j (AG _)]at this
  exact this
 ·have k2:=kr.2
  rw[if_pos c]at k2
  refine⟨anm_ k2,λt ht=>?_⟩
  unfold chk at k2
  rw[AQ,AQ,AQ,Ad]at k2
  unfold q3_ at ht
  obtain⟨f,hf,rfl⟩:=Ae.mp ht
  exact xW_ (k2.1.1.1 f hf)
 ·have k2:=kr.2
  rw[if_neg (by omega)]at k2
  have e:fil n r=[]:=by simpa using k2
  unfold q3_
  rw[e]
  rfl
end L2.Ev
namespace L2.K53
open PySem
open L2.Pl L2.Ev
section
variable{P:Program}{w:World}{K:PySem.W.Frag}{mg:Str->Option Value}{base:Heap}{f g:Addr}{fd gd:FuncData}
def rws:Nat->Nat->Nat->List (List Int)
 |0,_,_=>[[]]
 |m+1,top,left=>[]::(List.range (min top left)).flatMap λ(i:Nat)=>(rws m (i+1) (left-(i+1))).map λr=>((i+1:Nat):Int)::r
theorem vt_:∀(m:Nat)(r:List Int)(top left:Nat),r.length<=m->(r.Pairwise λa b=>b<=a)->(∀x∈r,0<x)->(∀x∈r,x<=(top:Int))->r.sum<=(left:Int)->r∈rws m top left
 |0,[],_,_,_,_,_,_,_=>by simp [rws]
 |0,x::r,_,_,h,_,_,_,_=>by simp at h
 |m+1,[],_,_,_,_,_,_,_=>by simp [rws]
 |m+1,x::r,top,left,h,f,p,t,s=>by
  obtain⟨f1,f2⟩:=Ai.mp f
  have px:=p x (AD ..)
  have tx:=t x (AD ..)
  rw[Ab]at s
  have r0:0<=r.sum:=by
   have:∀l:List Int,(∀y∈l,0<y)->0<=l.sum:=λl hl=>by
    induction l with
    |nil=>simp
    |cons y l ih =>
     rw[Ab]
     have:=hl y (AD ..)
     have:=ih λz hz=>hl z (AC _ hz)
     omega
   exact this r λy hy=>p y (AC _ hy)
  unfold rws
  refine AC _ (BS.mpr ⟨(x-1).toNat,BH.mpr (by omega),Ae.mpr ⟨r,vt_ m r _ _ (by simpa using h) f2 (λy hy=>p y (AC _ hy)) (λy hy=>?_) (by omega),?_⟩⟩)
  ·have:=f1 y hy
   omega
  ·rw[show(((x-1).toNat+1:Nat):Int)=x by omega]
def sfB(p:Pw):Bool:=(List.range (p.length-1)).all λi=>decide (p.getD (i+1) 0<p.getD i 0)
def rowK(n:Nat)(r:List Int):Bool:=decide ((qV_ n r).filter (λt=>sfB t.1)=[(ph n r,1)])&&((List.range (n-1)).all λk=>decide (norm (sws (qV_ n r) k)=norm (ngt (qV_ n r))))&&((qV_ n r).all λt=>decide (t.1.length=n)&&t.1.all λx=>decide (0<=x))&&((xZ_ n r).all λp=>p.all (λx=>decide (0<=x))&&decide (p.sum<=8))&&xA_ r
theorem al6_:∀n∈([1,2,3,4]:List Nat),(rws n 8 8).all (rowK n)=true:=by decide +kernel
def tri(n:Nat):Nat:=n*(n-1) / 2
theorem ys_:∀n∈([1,2,3,4]:List Nat),qW_ n=norm (qV_ n [])/\((qW_ n).head?.map (·.2))=some 1/\vr_ n (tri n) 10 (qW_ n)=true/\(qW_ n).length<=24/\(rws n 8 8).length<=53/\((List.range (n-1)).all λk=>decide (norm (sws (qW_ n) k)=norm (ngt (qW_ n))))=true:=by decide +kernel
theorem aap_{n:Nat}(n1:1<=n)(n4:n<=4):n∈([1,2,3,4]:List Nat):=by
 have:n=1∨n=2∨n=3∨n=4:=by omega
 rcases this with rfl|rfl|rfl|rfl<;>simp
theorem af2_:∀p q:List Int,p.length=q.length->(p.Pairwise λa b=>b<=a)->(q.Pairwise λa b=>b<=a)->(∀x∈p,0<=x)->(∀x∈q,0<=x)->lxl q p=true->lxl (qL_ q) (qL_ p)=true
 |[],[],_,_,_,_,_,h=>by simp [lxl]at h
 |[],_::_,h,_,_,_,_,_=>by simp at h
 |_::_,[],h,_,_,_,_,_=>by simp at h
 |a::p,b::q,hl,fp,fq,np,nq,h=>by
  obtain⟨p1,p2⟩:=Ai.mp fp
  obtain⟨q1,q2⟩:=Ai.mp fq
  have a0:=np a (AD ..)
  have b0:=nq b (AD ..)
  have zero:∀l:List Int,(∀x∈l,x<=0)->qL_ l=[]:=λl hl=>by
   unfold qL_
   rw[EN]
   intro x hx
   have:=hl x hx
   simp
   omega
  by_cases e:b=a
  ·subst e
   have h':lxl q p=true:=by simpa [lxl]using h
   by_cases z:0<b
   ·have e1:qL_ (b::p)=b::qL_ p:=by unfold qL_;rw[Az];simp [z]
    have e2:qL_ (b::q)=b::qL_ q:=by unfold qL_;rw[Az];simp [z]
    rw[e1,e2]
    have ih:=af2_ p q (by simpa using hl) p2 q2 (λx hx=>np x (AC _ hx)) (λx hx=>nq x (AC _ hx)) h'
    simpa [lxl]using ih
   ·exfalso
    have ep:p=q:=by
     have r1:∀l:List Int,(∀x∈l,x<=b)->(∀x∈l,0<=x)->l=List.replicate l.length 0:=λl h1 h2=>Eb.mpr ⟨rfl,λx hx=>by have:=h1 x hx;have:=h2 x hx;omega⟩
     rw[r1 p p1 λx hx=>np x (AC _ hx),r1 q q1 λx hx=>nq x (AC _ hx)]
     rw[show p.length=q.length by simpa using hl]
    rw[ep]at h'
    have:=lin_lxl.irr q
    rw[this]at h'
    cases h'
  ·have h':b<a:=by simpa [lxl,e]using h
   have e1:qL_ (a::p)=a::qL_ p:=by unfold qL_;rw[Az];simp [show 0<a by omega]
   rw[e1]
   by_cases z:0<b
   ·have e2:qL_ (b::q)=b::qL_ q:=by unfold qL_;rw[Az];simp [z]
    rw[e2]
    simpa [lxl,e]using h'
   ·rw[zero (b::q) λx hx=>by
     rcases AJ.mp hx with rfl|hx
     ·omega
     ·have:=q1 x hx;omega]
    rfl
theorem jC_{p:Pw}(h:isF p=true):p.Pairwise λa b=>b<=a:=by
 rw[(acs_ p).mp h]
 exact yg_ p
structure Rw8(n:Nat)(r:List Int):Prop where
 len:r.length<=n
 fall:r.Pairwise λa b=>b<=a
 pos:∀x∈r,0<x
 sum:r.sum<=8
theorem Rw8.ok{n:Nat}{r:List Int}(n1:1<=n)(n4:n<=4)(h:Rw8 n r):rowK n r=true:=by
 have m:n∈([1,2,3,4]:List Nat):=by
  have:n=1∨n=2∨n=3∨n=4:=by omega
  rcases this with rfl|rfl|rfl|rfl<;>simp
 refine Ad.mp (al6_ n m) r (vt_ n r 8 8 h.len h.fall h.pos (λx hx=>?_) h.sum)
 have:∀l:List Int,(∀y∈l,0<y)->∀x∈l,x<=l.sum:=λl=>by
  induction l with
  |nil=>intro _ x hx;simp at hx
  |cons y l ih =>
   intro hl x hx
   have s0:0<=l.sum:=by
    have:∀l:List Int,(∀y∈l,0<y)->0<=l.sum:=λl hl=>by
     induction l with
     |nil=>simp
     |cons y l ih =>
      rw[Ab]
      have:=hl y (AD ..)
      have:=ih λz hz=>hl z (AC _ hz)
      omega
    exact this l λz hz=>hl z (AC _ hz)
   rw[Ab]
   rcases AJ.mp hx with rfl|hx
   ·omega
   ·have:=ih (λz hz=>hl z (AC _ hz)) x hx
    have:=hl y (AD ..)
    omega
 have:=this r h.pos x hx
 have:=h.sum
 show x<=(8:Int)
 omega
theorem Rw8.all{n:Nat}{r:List Int}(n1:1<=n)(n4:n<=4)(h:Rw8 n r):(qV_ n r).filter (λt=>sfB t.1)=[(ph n r,1)]/\(∀k,k+1<n->norm (sws (qV_ n r) k)=norm (ngt (qV_ n r)))/\(∀t∈qV_ n r,t.1.length=n/\∀x∈t.1,0<=x)/\(∀p∈xZ_ n r,(∀x∈p,0<=x)/\p.sum<=8)/\xA_ r=true:=by
 have k:=h.ok n1 n4
 unfold rowK at k
 rw[AQ,AQ,AQ,AQ,decide_eq_true_eq,Ad,Ad,Ad]at k
 obtain⟨⟨⟨⟨k1,k2⟩,k3⟩,k4⟩,k5⟩:=k
 refine⟨k1,λi hi=>of_decide_eq_true (k2 i (BH.mpr (by omega))),λt ht=>?_,λp hp=>?_,k5⟩
 ·have:=k3 t ht
  rw[AQ,decide_eq_true_eq,Ad]at this
  exact⟨this.1,λx hx=>of_decide_eq_true (this.2 x hx)⟩
 ·have:=k4 p hp
  rw[AQ,decide_eq_true_eq,Ad]at this
  exact⟨λx hx=>of_decide_eq_true (this.1 x hx),this.2⟩
theorem Rw8.mem{n:Nat}{r:List Int}(h:Rw8 n r):r∈rws n 8 8:=by
 refine vt_ n r 8 8 h.len h.fall h.pos (λx hx=>?_) h.sum
 have:∀l:List Int,(∀y∈l,0<y)->∀x∈l,0<=l.sum/\x<=l.sum:=λl=>by
  induction l with
  |nil=>intro _ x hx;simp at hx
  |cons y l ih =>
   intro hl x hx
   rw[Ab]
   have py:=hl y (AD ..)
   have hl':∀z∈l,0<z:=λz hz=>hl z (AC _ hz)
   have s0:0<=l.sum:=by
    cases l with
    |nil=>simp
    |cons z l=>exact(ih hl' z (AD ..)).1
   rcases AJ.mp hx with rfl|hx
   ·omega
   ·have:=ih hl' x hx
    omega
 have:=(this r h.pos x hx).2
 have:=h.sum
 show x<=(8:Int)
 omega
def msr:List Int->Int
 |[]=>0
 |_::l=>l.sum+msr l
theorem add_:∀{l:List Int},(∀y∈l,0<=y)->0<=l.sum
 |[],_=>Cs _
 |x::l,h=>by
  have h1:=h x (AD ..)
  have h2:=add_ (l:=l) λy hy=>h y (AC _ hy)
  rw[Ab]
  omega
theorem abe_:∀{l:List Int},(∀y∈l,0<=y)->0<=msr l
 |[],_=>Cs _
 |x::l,h=>by
  have h1:=add_ (l:=l) λy hy=>h y (AC _ hy)
  have h2:=abe_ (l:=l) λy hy=>h y (AC _ hy)
  unfold msr
  omega
theorem vG_:∀{k:Nat}{p:List Int},k+1<p.length->p.getD k 0<p.getD (k+1) 0->msr (swp p k)<msr p
 |_,[],h,_=>by simp at h
 |0,[x],h,_=>by simp at h
 |0,x::y::l,_,q=>by
  rw[zJ_]
  have q:x<y:=q
  simp only[msr,Ab]
  omega
 |k+1,x::l,h,q=>by
  rw[zK_]
  have hl:k+1<l.length:=by simpa using h
  have ih:=vG_ (k:=k) (p:=l) hl q
  have:=vJ_ (k:=k) (p:=l) hl
  simp only[msr]
  omega
theorem yS_:∀{k:Nat}{p:List Int},k+1<p.length->p.getD k 0=p.getD (k+1) 0->swp p k=p
 |_,[],h,_=>by simp at h
 |0,[x],h,_=>by simp at h
 |0,x::y::l,_,q=>by
  rw[zJ_]
  have q:x=y:=q
  rw[q]
 |k+1,x::l,h,q=>by
  rw[zK_]
  have hl:k+1<l.length:=by simpa using h
  rw[yS_ (k:=k) (p:=l) hl q]
theorem ah9_{n:Nat}(D:Pw->Int)(hD:∀p k,p.length=n->k+1<n->D (swp p k)=- D p)(h0:∀p,p.length=n->(∀x∈p,0<=x)->sfB p=true->D p=0) :
  ∀(m:Nat)(p:Pw),(msr p).toNat<=m->p.length=n->(∀x∈p,0<=x)->D p=0:=by
 intro m
 induction m with
 |zero =>
  intro p hm hl hn
  cases c:sfB p with
  |true=>exact h0 p hl hn c
  |false =>
   obtain⟨i,hi,q⟩:∃i,i+1<p.length/\¬ p.getD (i+1) 0<p.getD i 0:=by
    unfold sfB at c
    rw[List.all_eq_false]at c
    obtain⟨i,hi,q⟩:=c
    exact⟨i,by have:=BH.mp hi;omega,by simpa using q⟩
   have hd:=hD p i hl (by omega)
   by_cases e:p.getD i 0=p.getD (i+1) 0
   ·rw[yS_ hi e]at hd
    omega
   ·have:=vG_ hi (by omega)
    have:=abe_ (l:=swp p i) λx hx=>hn x (xH_ hi hx)
    omega
 |succ m ih =>
  intro p hm hl hn
  cases c:sfB p with
  |true=>exact h0 p hl hn c
  |false =>
   obtain⟨i,hi,q⟩:∃i,i+1<p.length/\¬ p.getD (i+1) 0<p.getD i 0:=by
    unfold sfB at c
    rw[List.all_eq_false]at c
    obtain⟨i,hi,q⟩:=c
    exact⟨i,by have:=BH.mp hi;omega,by simpa using q⟩
   have hd:=hD p i hl (by omega)
   by_cases e:p.getD i 0=p.getD (i+1) 0
   ·rw[yS_ hi e]at hd
    omega
   ·have h1:=vG_ hi (by omega)
    have h2:=abe_ (l:=swp p i) λx hx=>hn x (xH_ hi hx)
    have:=ih (swp p i) (by omega) (by rw[xI_ hi];exact hl) λx hx=>hn x (xH_ hi hx)
    omega
theorem am5_{A:List Mon}{n k:Nat}{q:Pw}(hA:∀t∈A,t.1.length=n)(hq:q.length=n)(hk:k+1<n):cf (sws A k) q=cf A (swp q k):=by
 rw[zQ_,jH_,zQ_]
 refine zx_ λt ht=>?_
 have lt:=hA t ht
 by_cases e:swp t.1 k=q
 ·rw[if_pos e,if_pos]
  rw[<-e,vy_ (by omega)]
 ·rw[if_neg e,if_neg]
  intro z
  exact e (by rw[z,vy_ (by omega)])
theorem aob_(A:List Mon)(q:Pw):cf (ngt A) q=- cf A q:=by rw[zQ_,jm_,zQ_]
structure Alt(n:Nat)(A:List Mon):Prop where
 len:∀t∈A,t.1.length=n
 nn:∀t∈A,∀x∈t.1,0<=x
 alt:∀k,k+1<n->norm (sws A k)=norm (ngt A)
theorem Alt.sw{n k:Nat}{A:List Mon}(h:Alt n A)(hk:k+1<n){p:Pw}(hp:p.length=n):cf A (swp p k)=- cf A p:=by
 rw[<-am5_ h.len hp hk,<-zD_,h.alt k hk,zD_,aob_]
theorem anw_{n:Nat}{A B:List Mon}(hA:Alt n A)(hB:Alt n B)(e:∀p,p.length=n->(∀x∈p,0<=x)->sfB p=true->cf A p=cf B p):norm A=norm B:=by
 refine vd_ λp=>?_
 by_cases h:p.length=n/\∀x∈p,0<=x
 ·have:=ah9_ (n:=n) (λp=>cf A p-cf B p) (λp k hp hk=>by show cf A (swp p k)-cf B (swp p k)=- (cf A p-cf B p);rw[hA.sw hk hp,hB.sw hk hp];omega) (λp hl hn hs=>by have:=e p hl hn hs;show cf A p-cf B p=0;omega) _ p (AG _) h.1 h.2
  have:cf A p-cf B p=0:=this
  omega
 ·rw[zZ_ λt ht e=>h ⟨by rw[<-e];exact hA.len t ht,by rw[<-e];exact hA.nn t ht⟩,zZ_ λt ht e=>h ⟨by rw[<-e];exact hB.len t ht,by rw[<-e];exact hB.nn t ht⟩]
theorem v6_(g:Pw->Bool){p:Pw}(hp:g p=true):∀A:List Mon,cf (A.filter λt=>g t.1) p=cf A p
 |[]=>rfl
 |t::A=>by
  have ih:=v6_ g hp A
  rw[Az]
  by_cases c:g t.1=true
  ·rw[if_pos c]
   show(if t.1=p then t.2 else 0)+_=(if t.1=p then t.2 else 0)+_
   rw[ih]
  ·rw[if_neg c,ih]
   show _=(if t.1=p then t.2 else 0)+_
   rw[if_neg (λe=>c (by rw[e];exact hp))]
   omega
theorem ahf_{r:List Int}(step:∀i,i+1<r.length->r.getD (i+1) 0<=r.getD i 0):r.Pairwise λa b=>b<=a:=by
 have all:∀k i,i+k<r.length->r.getD (i+k) 0<=r.getD i 0:=by
  intro k
  induction k with
  |zero=>intro i _;exact Cs _
  |succ k ih =>
   intro i hi
   have:=ih i (by omega)
   have:=step (i+k) (by omega)
   rw[show i+(k+1)=i+k+1 by omega]
   omega
 refine Bf.mpr λi j hi hj hij=>?_
 have:=all (j-i) i (by omega)
 rw[show i+(j-i)=j by omega,AK,AK,AH hi,AH hj]at this
 exact this
theorem ai4_{r:List Int}(h:r.Pairwise λa b=>b<=a){i:Nat}(hi:i+1<r.length):r.getD (i+1) 0<=r.getD i 0:=by
 have:=Bf.mp h i (i+1) (by omega) hi (by omega)
 rw[AK,AK,AH hi,AH (by omega:i<r.length)]
 exact this
theorem z1_(n:Nat)(p:Pw):(qA_ n p).length=p.length:=by unfold qA_;rw[AA,BI]
theorem xb_{n:Nat}{p:Pw}{i:Nat}(h:i<p.length):(qA_ n p).getD i 0=p.getD i 0-(n:Int)+1+(i:Int):=by
 unfold qA_
 rw[AK,AT,CY h]
 rfl
theorem ags_(n:Nat)(p:Pw):sfB p=isF (qA_ n p):=by
 have key:sfB p=true↔isF (qA_ n p)=true:=by
  constructor
  ·intro h
   rw[acs_]
   refine agu_ (.refl _) (ahf_ λi hi=>?_)
   rw[z1_]at hi
   unfold sfB at h
   have:=of_decide_eq_true (Ad.mp h i (BH.mpr (by omega)))
   rw[xb_ hi,xb_ (by omega)]
   omega
  ·intro h
   have f:=jC_ h
   unfold sfB
   refine Ad.mpr λi hi=>decide_eq_true ?_
   have hi:=BH.mp hi
   have:=ai4_ f (i:=i) (by rw[z1_];omega)
   rw[xb_ (by omega),xb_ (by omega)]at this
   omega
 cases c:sfB p with
 |true=>rw[key.mp c]
 |false =>
  cases d:isF (qA_ n p) with
  |true=>rw[key.mpr d]at c;cases c
  |false=>rfl
theorem adc_:∀{l:List Int},(l.Pairwise λa b=>b<=a)->(∀x∈l,0<=x)->∀k,(qL_ l).getD k 0=l.getD k 0
 |[],_,_,_=>rfl
 |a::l,f,h,k=>by
  obtain⟨f1,f2⟩:=Ai.mp f
  by_cases z:0<a
  ·have e1:qL_ (a::l)=a::qL_ l:=by unfold qL_;rw[Az];simp [z]
   rw[e1]
   cases k with
   |zero=>rfl
   |succ k =>
    show(qL_ l).getD k 0=l.getD k 0
    exact adc_ f2 (λx hx=>h x (AC _ hx)) k
  ·have all:∀x∈a::l,x=0:=λx hx=>by
    have:=h x hx
    rcases AJ.mp hx with rfl|hx
    ·omega
    ·have:=f1 x hx
     omega
   have e1:qL_ (a::l)=[]:=by
    unfold qL_
    rw[EN]
    intro x hx
    simp [all x hx]
   have e2:a::l=List.replicate (a::l).length 0:=Eb.mpr ⟨rfl,all⟩
   rw[e1,e2,AK,AK,Ca]
   by_cases c:k<(a::l).length
   ·rw[if_pos c];rfl
   ·rw[if_neg c];rfl
theorem adp_:∀{l:List Int},(∀x∈l,0<=x)->(qL_ l).sum=l.sum
 |[],_=>rfl
 |x::l,h=>by
  have ih:=adp_ (l:=l) λy hy=>h y (AC _ hy)
  have:=h x (AD ..)
  unfold qL_ at ih ⊢
  rw[Az]
  by_cases z:0<x
  ·rw[if_pos (decide_eq_true z),Ab,Ab,ih]
  ·rw[if_neg (by rw[decide_eq_true_eq];exact z),Ab,ih];omega
theorem y6_{n:Nat}{p:Pw}(hl:p.length=n)(hp:∀x∈p,0<=x)(f:isF (qA_ n p)=true):∀x∈qA_ n p,0<=x:=by
 intro x hx
 obtain⟨i,hi,e⟩:=Ek hx
 rw[z1_]at hi
 have fl:=jC_ f
 have last:(0:Int)<=(qA_ n p).getD (n-1) 0:=by
  rw[xb_ (by omega)]
  have:0<=p.getD (n-1) 0:=by
   rw[AK,AH (by omega:n-1<p.length)]
   exact hp _ (CT _)
  omega
 rw[AK,AH (by rw[z1_];omega)]at last
 by_cases c:i=n-1
 ·subst c
  rw[<-e]
  exact last
 ·have:=Bf.mp fl i (n-1) (by rw[z1_];omega) (by rw[z1_];omega) (by omega)
  rw[e]at this
  exact Int.le_trans last this
theorem ana_{n:Nat}{p:Pw}(hl:p.length=n)(hp:∀x∈p,0<=x)(f:isF (qA_ n p)=true):ph n (qL_ (qA_ n p))=p:=by
 unfold ph
 refine Cf λi=>?_
 rw[AT]
 by_cases c:i<n
 ·rw[CY c,AH (by omega:i<p.length)]
  show some ((qL_ (qA_ n p)).getD i 0+(n:Int)-1-(i:Int))=_
  rw[adc_ (jC_ f) (y6_ hl hp f),xb_ (by omega),AK,AH (by omega:i<p.length)]
  show some (p[i]-(n:Int)+1+(i:Int)+(n:Int)-1-(i:Int))=some p[i]
  congr 1
  omega
 ·rw[CJ (by rw[BI];omega),CJ (by omega)]
  rfl
theorem aki_{n:Nat}{p:Pw}(n1:1<=n)(n4:n<=4)(hl:p.length=n):(qA_ n p).sum+(tri n:Int)=p.sum:=by
 have:n=1∨n=2∨n=3∨n=4:=by omega
 rcases this with rfl|rfl|rfl|rfl
 ·match p,hl with
  |[a],_=>simp [qA_,Bb,tri];try omega
 ·match p,hl with
  |[a,b],_=>simp [qA_,Bb,tri];omega
 ·match p,hl with
  |[a,b,c],_=>simp [qA_,Bb,tri];omega
 ·match p,hl with
  |[a,b,c,d],_=>simp [qA_,Bb,tri];omega
theorem aj5_{n:Nat}{p:Pw}(n1:1<=n)(n4:n<=4)(hl:p.length=n)(hp:∀x∈p,0<=x)(hs:p.sum<=((8+tri n:Nat):Int))(f:isF (qA_ n p)=true):Rw8 n (qL_ (qA_ n p)):=by
 have nn:=y6_ hl hp f
 refine⟨?_,(jC_ f).filter _,λx hx=>of_decide_eq_true (Bq.mp hx).2,?_⟩
 ·have:=Ci (λx:Int=>decide (0<x)) (qA_ n p)
  unfold qL_
  rw[z1_]at this
  omega
 ·rw[adp_ nn]
  have:=aki_ n1 n4 hl
  omega
theorem afe_{n:Nat}{W:List Mon}(c:Canon W)(hl:∀t∈W,t.1.length=n)(hn:∀t∈W,∀x∈t.1,0<=x):Canon (bfL n W):=by
 unfold bfL
 refine⟨?_,λu hu=>?_⟩
 ·rw[CA]
  refine((c.ord.filter _).imp_of_mem λ{a b} ha hb h=>?_)
  obtain⟨a1,a2⟩:=Bq.mp ha
  obtain⟨b1,b2⟩:=Bq.mp hb
  have key:∀(p q:Pw)(k:Int),p.length=q.length->lxl q p=true->lxl ((List.range q.length).map λ(i:Nat)=>q.getD i 0-(n:Int)+k+(i:Int)) ((List.range p.length).map λ(i:Nat)=>p.getD i 0-(n:Int)+k+(i:Int))=true:=by
   intro p
   induction p with
   |nil=>intro q k h1 h2;cases q with
    |nil=>simp [lxl]at h2
    |cons=>simp at h1
   |cons x p ih =>
    intro q k h1 h2
    cases q with
    |nil=>simp at h1
    |cons y q =>
     rw[Am,Am,B4,B4,Aa,Aa,CS,CS]
     have e1:∀z:List Int,∀w:Int,((λ(i:Nat)=>(w::z).getD i 0-(n:Int)+k+(i:Int)) ∘ Nat.succ)=λ(i:Nat)=>z.getD i 0-(n:Int)+(k+1)+(i:Int):=λz w=>by
      funext i
      show z.getD i 0-(n:Int)+k+((i+1:Nat):Int)=_
      omega
     rw[e1,e1]
     by_cases e:y=x
     ·subst e
      have h2':lxl q p=true:=by simpa [lxl]using h2
      have:=ih q (k+1) (by simpa using h1) h2'
      simpa [lxl]using this
     ·have h2':y<x:=by simpa [lxl,e]using h2
      have e3:¬ (y-(n:Int)+k=x-(n:Int)+k):=by omega
      have e4:y-(n:Int)+k<x-(n:Int)+k:=by omega
      simp only[lxl,List.getD_cons_zero]
      simp [e]
      omega
  exact af2_ _ _ (by rw[z1_,z1_,hl a a1,hl b b1]) (jC_ a2) (jC_ b2) (y6_ (hl a a1) (hn a a1) a2) (y6_ (hl b b1) (hn b b1) b2) (key a.1 b.1 1 ((hl a a1).trans (hl b b1).symm) h)
 ·obtain⟨t,ht,rfl⟩:=Ae.mp hu
  exact c.num t (Bq.mp ht).1
theorem afb_{n:Nat}{T:List Mon}(n1:1<=n)(n4:n<=4)(c:Canon T)(h:∀t∈T,Rw8 n t.1):T.length<=53:=by
 have nd:(T.map (·.1)).Nodup:=by
  rw[List.Nodup,CA]
  refine c.ord.imp λ{x y} z e=>?_
  rw[e,zu_]at z
  cases z
 have sub:∀p∈T.map (·.1),p∈rws n 8 8:=λp hp=>by
  obtain⟨t,ht,rfl⟩:=Ae.mp hp
  exact(h t ht).mem
 have:=List.Nodup.length_le_of_subset nd sub
 rw[AA]at this
 exact Aj this (ys_ n (aap_ n1 n4)).2.2.2.2.1
def flG(n:Nat)(t:Mon):List Mon:=(norm (q3_ n t.1)).map λu=>(u.1,u.2*t.2)
theorem xd_(F:Pw->Int)(g:Mon->List Mon):∀T:List Mon,sm F (T.flatMap g)=(T.map λt=>sm F (g t)).sum
 |[]=>rfl
 |t::T=>by rw[CB,j0_,xd_ F g T,Aa,Ab]
theorem jO_(F:Pw->Int)(c:Int):∀A:List Mon,sm F (A.map λu=>(u.1,u.2*c))=sm F A*c
 |[]=>by simp [sm]
 |t::A=>by
  rw[Aa]
  show t.2*c*F t.1+sm F (A.map _)=(t.2*F t.1+sm F A)*c
  rw[jO_ F c A,DD,Cq,Dy c,Cq]
theorem am1_{n:Nat}{A B D:List Mon}{d:Mon}{r:List Mon}(eD:D=d::r)(cD:Canon D)(hD:∀t∈D,t.1.length=n)(hA:∀t∈A,t.1.length=n)(hB:∀t∈B,t.1.length=n)(e:norm (prd A D)=norm (prd B D)):norm A=norm B:=by
 have z:∀F,sm F (prd (norm (A++ngt B)) D)=0:=λF=>by
  rw[zX_,qR_,j0_,jm_,<-zX_,<-zX_,<-qR_ F (prd A D),e,qR_]
  omega
 have lX:∀t∈norm (A++ngt B),t.1.length=n:=λt ht=>by
  obtain⟨u,hu,e⟩:=qY_ ht
  rw[<-e]
  rcases Ak.mp hu with hu|hu
  ·exact hA u hu
  ·obtain⟨v,hv,rfl⟩:=Ae.mp hu
   exact hB v hv
 have nil:norm (A++ngt B)=[]:=by
  cases c:norm (A++ngt B) with
  |nil=>rfl
  |cons t s =>
   exfalso
   have cX:=qP_ (A++ngt B)
   rw[c]at cX lX z
   subst eD
   have tp:=(aad_ cX).prd (aad_ cD) lX hD (lX t (AD ..)) (hD d (AD ..))
   have a:=tp.at_
   rw[zQ_,z]at a
   have t0:=cX.num t (AD ..)
   have d0:=cD.num d (AD ..)
   rcases Int.mul_eq_zero.mp a.symm with h|h
   ·exact t0 h
   ·exact d0 h
 refine je_ λF=>?_
 have:sm F (norm (A++ngt B))=0:=by rw[nil];rfl
 rw[qR_,j0_,jm_]at this
 omega
theorem akj_{n:Nat}{S:List Mon}(h:UnR S (n-1) none):Even n S:=λk hk=>by
 have e:unl S k=[]:=h k (by omega)
 unfold unl at e
 refine je_ λF=>?_
 have:sm F (norm (S++ngt (x6_ S k)))=0:=by rw[e];rfl
 rw[qR_,j0_,jm_]at this
 unfold x6_ at this
 rw[qR_]at this
 have e2:sm F (sws S k)=sm F (S.map λt=>(swp t.1 k,t.2)):=rfl
 omega
structure Fills(n:Nat)(S T:List Mon):Prop where
 canon:Canon T
 rows:∀t∈T,Rw8 n t.1
 few:T.length<=53
 sum:norm (T.flatMap (flG n))=S
theorem ahz_{n b:Nat}{S:List Mon}(n1:1<=n)(n4:n<=4)(hE:Even n S)(hD:Deg n 8 b S):Alt n (norm (prd S (qW_ n)))/\∀t∈norm (prd S (qW_ n)),t.1.sum<=((8+tri n:Nat):Int):=by
 obtain⟨d1,d2,d3,d4,d5,d6⟩:=ys_ n (aap_ n1 n4)
 have dD:=xf_ d3
 have pD:=hD.prd dD
 have mem:∀t∈norm (prd S (qW_ n)),∃u∈prd S (qW_ n),u.1=t.1:=λt ht=>qY_ ht
 refine⟨⟨λt ht=>?_,λt ht=>?_,λk hk=>?_⟩,λt ht=>?_⟩
 ·obtain⟨u,hu,e⟩:=mem t ht
  rw[<-e]
  exact pD.len u hu
 ·obtain⟨u,hu,e⟩:=mem t ht
  rw[<-e]
  exact pD.nn u hu
 ·have a1:=of_decide_eq_true (Ad.mp d6 k (BH.mpr (by omega)))
  rw[af7_ hD.len dD.len hk]
  refine je_ λF=>?_
  have h1:norm (sws S k)=norm S:=hE k hk
  rw[h1,a1,zX_,qR_,jm_,qR_]
  have:(λp=>sm (λq=>F (pad p q)) (norm (ngt (qW_ n))))=λp=>- sm (λq=>F (pad p q)) (qW_ n):=by
   funext p
   rw[qR_,jm_]
  rw[this,zX_]
  have:=vD_ (λp=>sm (λq=>F (pad p q)) (qW_ n)) (-1) S
  have e2:(λp=>(-1:Int)*sm (λq=>F (pad p q)) (qW_ n))=λp=>- sm (λq=>F (pad p q)) (qW_ n):=by
   funext p
   omega
  rw[e2]at this
  omega
 ·obtain⟨u,hu,e⟩:=mem t ht
  rw[<-e]
  exact pD.sum u hu
theorem aqt_{n b:Nat}{S:List Mon}(n1:1<=n)(n4:n<=4)(cS:Canon S)(hE:Even n S)(hD:Deg n 8 b S):Fills n S (bfF n S):=by
 obtain⟨hW,sW⟩:=ahz_ n1 n4 hE hD
 obtain⟨d1,d2,d3,d4,d5,d6⟩:=ys_ n (aap_ n1 n4)
 have dD:=xf_ d3
 have cW:=qP_ (prd S (qW_ n))
 have cT:Canon (bfF n S):=afe_ cW hW.len hW.nn
 have rT:∀t∈bfF n S,Rw8 n t.1:=λt ht=>by
  unfold bfF bfL at ht
  obtain⟨u,hu,rfl⟩:=Ae.mp ht
  obtain⟨u1,u2⟩:=Bq.mp hu
  exact aj5_ n1 n4 (hW.len u u1) (hW.nn u u1) (sW u u1) u2
 refine⟨cT,rT,afb_ n1 n4 cT rT,?_⟩
 have fT:∀t∈bfF n S,norm (prd (norm (q3_ n t.1)) (norm (qV_ n [])))=norm (qV_ n t.1)/\∀u∈q3_ n t.1,u.1.length=n:=λt ht=>by
  have R:=rT t ht
  obtain⟨r1,r2,r3⟩:=aax_ (R.all n1 n4).2.2.2.2
  have:=(adr_ n1 n4 (by have:=R.len;omega) r1 r2 r3).2.1 R.len
  exact⟨this.1,λu hu=>(this.2 u hu).1⟩
 obtain⟨d,r,eD⟩:∃d r,qW_ n=d::r:=by
  cases c:qW_ n with
  |nil=>rw[c]at d2;cases d2
  |cons d r=>exact⟨d,r,rfl⟩
 have cD:Canon (qW_ n):=by rw[d1];exact qP_ _
 have lG:∀t∈(bfF n S).flatMap (flG n),t.1.length=n:=λt ht=>by
  obtain⟨u,hu,hm⟩:=BS.mp ht
  obtain⟨v,hv,rfl⟩:=Ae.mp hm
  obtain⟨x,hx,e⟩:=qY_ hv
  show v.1.length=n
  rw[<-e]
  exact(fT u hu).2 x hx
 refine Eq.trans ?_ (xF_ cS)
 refine am1_ eD cD dD.len lG hD.len ?_
 have e1:norm (prd ((bfF n S).flatMap (flG n)) (qW_ n))=norm ((bfF n S).flatMap λt=>(qV_ n t.1).map λu=>(u.1,u.2*t.2)):=by
  refine je_ λF=>?_
  rw[zX_,xd_,xd_]
  congr 1
  refine B3 λt ht=>?_
  unfold flG
  rw[jO_,jO_,<-zX_,<-qR_ F (prd _ _),d1,(fT t ht).1,qR_]
 rw[e1,<-xF_ cW]
 refine anw_ ⟨λt ht=>?_,λt ht=>?_,λk hk=>?_⟩ hW λp hl hp hs=>?_
 ·obtain⟨u,hu,hm⟩:=BS.mp ht
  obtain⟨v,hv,rfl⟩:=Ae.mp hm
  exact(((rT u hu).all n1 n4).2.2.1 v hv).1
 ·obtain⟨u,hu,hm⟩:=BS.mp ht
  obtain⟨v,hv,rfl⟩:=Ae.mp hm
  exact(((rT u hu).all n1 n4).2.2.1 v hv).2
 ·refine je_ λF=>?_
  rw[jH_,jm_,xd_,xd_]
  have:∀T:List Mon,(∀t∈T,Rw8 n t.1)->(T.map λt=>sm (λp=>F (swp p k)) ((qV_ n t.1).map λu=>(u.1,u.2*t.2))).sum=- (T.map λt=>sm F ((qV_ n t.1).map λu=>(u.1,u.2*t.2))).sum:=λT=>by
   induction T with
   |nil=>intro _;rfl
   |cons t T ih =>
    intro h
    have ih:=ih λu hu=>h u (AC _ hu)
    have a:=((h t (AD ..)).all n1 n4).2.1 k hk
    rw[Aa,Aa,Ab,Ab,ih,jO_,jO_,<-jH_,<-qR_ F (sws _ _),a,qR_,jm_,Int.neg_mul]
    omega
  exact this _ rT
 ·have fp:isF (qA_ n p)=true:=by rw[<-ags_];exact hs
  rw[zQ_,xd_]
  have e2:((bfF n S).map λt=>cf ((qV_ n t.1).map λu=>(u.1,u.2*t.2)) p)=(bfF n S).map λt=>if ph n t.1=p then t.2 else 0:=by
   refine B3 λt ht=>?_
   rw[zQ_,jO_,<-zQ_,<-v6_ sfB hs,((rT t ht).all n1 n4).1]
   show((if ph n t.1=p then 1 else 0)+0)*t.2=_
   by_cases e:ph n t.1=p
   ·rw[if_pos e,if_pos e];omega
   ·rw[if_neg e,if_neg e];omega
  have e0:((bfF n S).map λt=>sm (λq=>if q=p then 1 else 0) ((qV_ n t.1).map λu=>(u.1,u.2*t.2)))=(bfF n S).map λt=>cf ((qV_ n t.1).map λu=>(u.1,u.2*t.2)) p:=B3 λt _=>(zQ_ _ _).symm
  rw[e0,e2]
  unfold bfF
  have lW:=hW.len
  have nW:=hW.nn
  generalize norm (prd S (qW_ n))=W at lW nW
  have key:∀W:List Mon,(∀t∈W,t.1.length=n)->(∀t∈W,∀x∈t.1,0<=x)->((bfL n W).map λt=>if ph n t.1=p then t.2 else 0).sum=cf W p:=λW=>by
   induction W with
   |nil=>intro _ _;rfl
   |cons t W ih =>
    intro l1 l2
    have ih:=ih (λu hu=>l1 u (AC _ hu)) λu hu=>l2 u (AC _ hu)
    show _=(if t.1=p then t.2 else 0)+cf W p
    rw[<-ih]
    unfold bfL
    rw[Az]
    by_cases c:isF (qA_ n t.1)=true
    ·rw[if_pos c,Aa,Aa,Ab]
     show(if ph n (qL_ (qA_ n t.1))=p then t.2 else 0)+_=_
     rw[ana_ (l1 t (AD ..)) (l2 t (AD ..)) c]
    ·rw[if_neg c,if_neg (λe=>c (by rw[e];exact fp))]
     omega
  exact key W lW nW
theorem acf_{T l:List Mon}(pm:l.Perm T)(so:l.Pairwise λa b=>tlt a b=false)(nd:(T.map (·.1)).Nodup)(num:∀t∈T,t.2≠0):l=norm T:=by
 have nd':(l.map (·.1)).Nodup:=(pm.map (·.1)).nodup_iff.mpr nd
 refine yt_ ⟨?_,λt ht=>num t (pm.mem_iff.mp ht)⟩ λp=>adv_ pm p
 rw[List.Nodup,CA]at nd'
 refine(so.and nd').imp λ{a b} z=>?_
 have z1:=z.1
 unfold tlt at z1
 rw[if_neg z.2]at z1
 cases c:lxl b.1 a.1 with
 |true=>rfl
 |false=>exact absurd (jB_ z1 c) z.2
abbrev nBy:List Str:=["_law_some", "_law_many", "_law_found", "_law_powers_here", "_law_number_here", "_law_row_here"]
abbrev pBy:List Str:=["_law_some", "_law_many"]
abbrev bB1:List Str:=["_law_k", "_law_powers_here", "_law_many"]
abbrev bB2:List Str:=["_law_k", "_law_powers_here"]
abbrev bB3:List Str:=["_law_entry"]
theorem ndB1:bB1.Nodup:=by decide +kernel
theorem ndB2:bB2.Nodup:=by decide +kernel
theorem ndB3:bB3.Nodup:=by decide +kernel
theorem scBy:FnScope nBy pBy (qh_ vw_):=⟨rfl,rfl,rfl,by decide +kernel,rfl,by decide +kernel,by decide +kernel⟩
def aj1_:Sp:=λvs H Q _=>∃(n b:Nat)(a:Addr)(ts:List Mon),vs=[.ref a,.int n]/\LstAt H a ts/\ts.length<=1000/\1<=n/\n<=4/\Deg n 8 b ts/\b<=90000/\Canon (bfF n ts)/\∀(l:Addr)(H':Hp),H l=none->Same H H'->LstAt H' l (bfF n ts)->Q (.ref l) H'
theorem aon_(F:Fun K "_law_by_fillings" "_law_by_fillings" vw_ f fd)(GP:Has P w K mg base 5 "_law_product" ["_law_one", "_law_other"] ag3_)(GA:Has P w K mg base 5 "_law_alternating" ["_law_row_here", "_law_many"] spAl)(mr:mg "range" = none)(ma:mg "all" = none)(mt:mg "tuple" = none)(ms:mg "sorted" = none):FnOk P w K mg base CX0 6 f fd pBy aj1_:=by
 refine F.ok scBy (λvs H Q E h=>?_) (λcdv A outer s H vs Q E hr h=>?_)
 ·obtain⟨n,b,a,ts,rfl,_⟩:=h
  rfl
 obtain⟨n,b,a,ts,rfl,hA,hl,n1,n4,hD,hb,cT,q⟩:=h
 have h8:=hu8 hr
 refine⟨_,qe_ (qm_ (i:=2) scBy.nd rfl (Or.inl rfl) (qv_ qb_))
  (qe_ (qw_ Ah rfl (qu_ (qo_ GP hr rfl (qa_ (pv 0) (qa_ (qo_ GA hr rfl (qa_ (qs_ qb_) (qa_ (pv 1) qb_))) qb_)))) (qU_ rfl (ql_ (qj_ (i:=3) scBy.nd rfl (by first|exact Or.inl rfl|exact Or.inr rfl)) (ql_ (qj_ (i:=4) scBy.nd rfl (Or.inl rfl)) qF_)))
   (qe_ (akb_ (i:=5) (N':=bB1) (src:=[none,some 3,some 1]) scBy.nd rfl (Or.inl rfl) rfl rfl (zm_ rfl mr (qa_ (pv 1) qb_)) (ze_ (qh_ vw_) nBy (by decide +kernel))
     (λb=>qj_ (i:=0) ndB1 rfl (Or.inl rfl)) (λb=>q4_) (λb=>qi_ qM_ (qi_ qM_ (qi_ qZ_ (qG_ q0_ (pv 1) (pv 0) (λ_ _=>rfl)) (pv 2)) qg_) (pv 0)))
   (qf_ (qX_ (zz_ (qp_ (yo_ rfl) rfl ma DJ (qa_ (qO_ (N':=bB2) (src:=[none,some 3]) rfl (zm_ rfl mr (qa_ (qi_ qZ_ (pv 1) qg_) qb_)) (ze_ (qh_ vw_) nBy (by decide +kernel))
     (λb=>qj_ (i:=0) ndB2 rfl (Or.inl rfl)) (λb=>q4_) (λb=>ji_ j9_ (qG_ q0_ (pv 1) (pv 0) (λ_ _=>rfl)) (qG_ q0_ (pv 1) (qi_ qM_ (pv 0) qg_) (λ_ _=>rfl)) (qt_ _))) qb_)))
    (qf_ (q2_ (z5_ Au As At qS_ (pv 2) (qa_ (qs_ (qa_ (qN_ qQ_ rfl mt Av (qa_ (qO_ (N':=bB3) (src:=[none]) rfl (qu_ (pv 5)) (ze_ (qh_ vw_) nBy (by decide +kernel)) (λb=>qj_ (i:=0) ndB3 rfl (Or.inl rfl)) (λb=>xM_ (qy_ j9_ (pv 0) qg_ (qt_ _))) (λb=>pv 0)) qb_)) (qa_ (pv 4) qb_))) qb_)))) qz_))))
  (qf_ (qn_ (vi_ (α:=Mon) rfl h8 rfl ms (qa_ (pv 2) qb_))))),?_⟩
 obtain⟨d1,_,d3,d4,_,_⟩:=ys_ n (aap_ n1 n4)
 have dD:=xf_ d3
 refine⟨(by show 0<=sizeLine;decide),λlT hT=>?_⟩
 have s1:=qd_ hT (.lst [])
 refine⟨_,rfl,(by show 0<=sizeLine;decide),λt0 h0=>⟨_,rfl,t0,n,[],rfl,qc_,n1,n4,by simp,λl2 H2 h2 s2 hL2=>?_⟩⟩
 have s0:=qd_ h0 (.tup [])
 rw[<-d1]at hL2
 refine⟨a,l2,n,8,tri n,b,10,ts,qW_ n,rfl,hA.mono (s1.trans (s0.trans s2)),hL2,hD,dD,n1,n4,by omega,by decide,hl,d4,λl3 H3 h3 s3 hL3=>?_⟩
 have hlen:∀t∈norm (prd ts (qW_ n)),t.1.length=n:=λt ht=>by
  obtain⟨u,hu,e⟩:=qY_ ht
  rw[<-e]
  exact(hD.prd dD).len u hu
 have few:(norm (prd ts (qW_ n))).length<=24000:=by
  have:=zy_ (prd ts (qW_ n))
  rw[xg_]at this
  have:=EZ hl d4
  omega
 unfold bfF at q cT
 generalize norm (prd ts (qW_ n))=W at hL3 hlen few q cT
 obtain⟨vs,eW,iW⟩:=hL3
 have lv:=AL iW
 have sA:=s1.trans (s0.trans (s2.trans s3))
 have fT:H lT=none:=hT
 have z34:=s0.trans (s2.trans s3)
 have n4T:l3≠lT:=λe=>by
  have:=(s0.trans s2) _ _ (qc_ (H:=H) (a:=lT) (o:=.lst []))
  rw[e,this]at h3
  cases h3
 refine⟨l3,rfl,⟨_,SqL.of eW⟩,?_⟩
 refine qE_ (xs:=vs) (λi σ H'=>(∃c3 c4 c5,σ=[some (.ref a),some (.int n),some (.ref lT),c3,c4,c5])/\LstAt H' lT (bfL n (W.take i))/\But lT H3 H'/\Tups H3 H'/\Same H H') ?_ ?_ ?_ ?_
 ·exact⟨⟨_,_,_,rfl⟩,⟨[],z34 _ _ qc_,.nil⟩,λ_ _ _ e=>e,Tups.refl _,sA⟩
 ·rintro i σ H5 _ ⟨_,_,b5,_,_⟩
  exact SqL.of (b5 _ _ n4T eW)
 ·rintro i v σ H5 hv ⟨⟨c3,c4,c5,rfl⟩,hL5,b5,t5,s5⟩
  obtain⟨t,ht,hi⟩:=qD_ iW hv
  obtain⟨p,kk,rfl,hp,hkk⟩:=q7_ hi
  have li:i<W.length:=(AR.mp ht).1
  have tl:=hlen t (AY ht)
  have hk5:=t5 _ _ hkk
  obtain⟨us,eU,iU⟩:=id hL5
  have lu:=AL iU
  have lu2:(bfL n (W.take i)).length<=i:=by
   unfold bfL
   rw[AA]
   have:=Ci (λt:Mon=>isF (qA_ n t.1)) (W.take i)
   rw[AS]at this
   omega
  refine⟨p,_,rfl,SqT.of (t5 _ _ hp),rfl,_,_,rfl,_,_,rfl,rfl,?_⟩
  refine⟨_,rfl,(n:Int),rfl,by omega,by omega,λbk D hD'=>?_⟩
  have en:(n:Int).toNat=n:=by omega
  refine x2_ (α:=Int) hD' (λσ=>∃c,σ=[c,some (.ref kk),some (.int n)]) (λ(i:Nat)=>some (t.1.getD i 0-(n:Int)+1+(i:Int))) (qr_ (by omega)) ⟨_,rfl⟩ ?_ ?_
  ·rintro i σ H6 Yes No hi ⟨c,rfl⟩ s6 yes no
   have e0:(0:Int)+(i:Int)=(i:Int):=by omega
   refine zE_ ?_
   rw[e0]
   refine⟨_,rfl,_,rfl,kk,_,_,.int (t.1.getD i 0),rfl,rfl,SqT.of (s6 _ _ hk5),yu_ (by omega),_,rfl,_,_,rfl,rfl,_,_,rfl,rfl,_,rfl,_,_,rfl,rfl,?_⟩
   exact yes _ _ _ _ ⟨_,rfl⟩ (Same.refl _) rfl rfl
  rintro H6 s6 ⟨ws,eD,iD⟩
  have ez:(List.range (n:Int).toNat).filterMap (λ(i:Nat)=>some (t.1.getD i 0-(n:Int)+1+(i:Int)))=qA_ n t.1:=by
   unfold qA_
   rw[en,Aq,tl]
  rw[zp_ iD,ez]at eD
  have hk6:=s6 _ _ hk5
  refine⟨_,rfl,_,_,rfl,rfl,((n:Int)-1),rfl,by omega,by omega,λbk2 D2 hD2=>?_⟩
  have en2:((n:Int)-1).toNat=n-1:=by omega
  refine x2_ (α:=Bool) hD2 (λσ=>∃c,σ=[c,some (.ref kk)]) (λ(i:Nat)=>some (decide (t.1.getD (i+1) 0<t.1.getD i 0))) (qr_ (by omega)) ⟨_,rfl⟩ ?_ ?_
  ·rintro i σ H7 Yes No hi ⟨c,rfl⟩ s7 yes no
   have e0:(0:Int)+(i:Int)=(i:Int):=by omega
   refine zE_ ?_
   rw[e0]
   refine⟨_,rfl,_,rfl,kk,_,_,.int (t.1.getD i 0),rfl,rfl,SqT.of (s7 _ _ hk6),yu_ (by omega),_,rfl,_,rfl,_,_,rfl,rfl,kk,_,_,.int (t.1.getD (i+1) 0),rfl,rfl,SqT.of (s7 _ _ hk6),yu_ (k:=i+1) (by omega),_,_,rfl,rfl,?_⟩
   exact yes _ _ _ _ ⟨_,rfl⟩ (Same.refl _) rfl rfl
  rintro H7 s7 ⟨ws2,eD2,iD2⟩
  have ez2:(List.range ((n:Int)-1).toNat).filterMap (λ(i:Nat)=>some (decide (t.1.getD (i+1) 0<t.1.getD i 0)))=(List.range (t.1.length-1)).map λi=>decide (t.1.getD (i+1) 0<t.1.getD i 0):=by
   rw[en2,Aq,tl]
  rw[jX_ iD2,ez2]at eD2
  refine⟨D2,_,rfl,SqL.of eD2,_,rfl,?_⟩
  have eF:((List.range (t.1.length-1)).map λi=>decide (t.1.getD (i+1) 0<t.1.getD i 0)).all id=isF (qA_ n t.1):=by
   rw[Es,<-ags_]
   rfl
  rw[eF,qH_ ht,ab5_]
  have z67:=s6.trans s7
  generalize hc:isF (qA_ n t.1)=c
  cases c with
  |false =>
   refine zb_ ⟨⟨_,_,_,rfl⟩,?_,λb o nb e=>z67 _ _ (b5 b o nb e),t5.trans (Tups.same z67),s5.trans z67⟩
   rw[if_neg (by decide),Ax]
   exact hL5.mono z67
  |true =>
   have eU7:=z67 _ _ eU
   have ll:(qA_ n t.1).length=n:=by rw[z1_];exact tl
   refine z9_ ⟨_,rfl,.inl ⟨rfl,_,SqL.of eU7⟩,_,rfl,D,rfl,⟨_,SqL.of (s7 _ _ eD)⟩,λbk3 D3 hD3=>?_⟩
   have eD7:=s7 _ _ eD
   generalize qA_ n t.1=r at eD7 ll
   refine zP_ (α:=Int) hD3 (SqL.of eD7) (λσ=>∃c,σ=[c]) (λi=>(r[i]?).bind λx=>if 0<x then some x else none) (qr_ (by rw[AA];omega)) ⟨_,rfl⟩ ?_ ?_
   ·rintro i v σ H8 Yes No hv ⟨c,rfl⟩ s8 yes no
    obtain⟨x,hx,rfl⟩:∃x,r[i]?=some x/\V.int x=v:=by
     rw[AT]at hv
     cases e:r[i]? with
     |none=>rw[e]at hv;cases hv
     |some y=>rw[e]at hv;exact⟨y,rfl,AW hv⟩
    refine⟨_,rfl,_,_,rfl,rfl,_,rfl,?_⟩
    by_cases c0:0<x
    ·exact x4_ c0 ⟨_,rfl,yes _ _ _ x ⟨_,rfl⟩ (Same.refl _) (by rw[hx];exact if_pos c0) rfl⟩
    ·exact xw_ c0 (no _ _ ⟨_,rfl⟩ (Same.refl _) (by rw[hx];exact if_neg c0))
   rintro H8 s8 ⟨ws3,eD3,iD3⟩
   have e3:(List.range (r.map V.int).length).filterMap (λi=>(r[i]?).bind λx=>if 0<x then some x else none)=qL_ r:=by
    unfold qL_
    rw[AA,qT_,zW_]
    exact EM _
   rw[zp_ iD3,e3]at eD3
   refine⟨D3,_,rfl,.inl ⟨SqL.of eD3,λt9 h9=>?_⟩⟩
   have s9:=qd_ h9 (.tup ((qL_ r).map V.int))
   refine⟨_,rfl,(by show 2<=sizeLine;decide),λt10 h10=>?_⟩
   have s10:=qd_ h10 (.tup [.ref t9,.int t.2])
   have zz:=z67.trans (s8.trans (s9.trans s10))
   have eU10:=zz _ _ eU
   refine⟨lT,us,_,rfl,rfl,eU10,zn_ (by omega),⟨_,_,_,rfl⟩,?_,λb o nb e=>?_,t5.trans ((Tups.same zz).trans (jc_ eU10 _)),λb o e=>?_⟩
   ·rw[if_pos rfl]
    exact⟨us++[.ref t10],qc_,Paired.app (Its.mono ((Tups.same zz).trans (jc_ eU10 _)) iU) (.cons (Dat.mono (jc_ eU10 _) (q5_ (t:=(qL_ r,t.2)) qc_ (s10 _ _ qc_))) .nil)⟩
   ·rw[qk_ nb]
    exact zz _ _ (b5 b o nb e)
   ·rw[qk_ (qq_ e fT)]
    exact zz _ _ (s5 b o e)
 ·rintro σ H5 ⟨⟨c3,c4,c5,rfl⟩,hL5,b5,t5,s5⟩
  rw[AN (by omega)]at hL5
  refine⟨_,rfl,lT,bfL n W,rfl,hL5,λ_ _=>trivial,λp vs l' hp pm so it=>?_⟩
  have nd:((bfL n W).map (·.1)).Nodup:=by
   rw[List.Nodup,CA]
   refine cT.ord.imp λ{x y} z e=>?_
   rw[e,zu_]at z
   cases z
  have e1:l'=bfL n W:=(acf_ pm so nd cT.num).trans (xF_ cT)
  rw[e1]at it
  exact q p _ (s5.free hp) (s5.trans (qd_ hp _)) ⟨vs,qc_,Its.mono (yR_ hp _) it⟩
abbrev nAs:List Str:=["_law_many", "_law_some", "_law_found", "_law_caught", "e"]
abbrev pAs:List Str:=["_law_many", "_law_some"]
theorem scAs:FnScope nAs pAs (qh_ abw_):=⟨rfl,rfl,rfl,by decide +kernel,rfl,by decide +kernel,by decide +kernel⟩
def vO_(cBC C:Addr):Sp:=λvs H Q _=>∃(n:Int)(b:Nat)(a:Addr)(ts:List Mon),vs=[.int n,.ref a]/\LstAt H a ts/\ts.length<=1000 /\
 (¬ (1<=n/\n<=4)->∀(p c:Addr)(H':Hp),Same H H'->H' c=some (xE c (.ref cBC) none)->H' p=some (.tup [.non,.ref c])->Q (.ref p) H') /\
 (1<=n/\n<=4->Deg n.toNat 8 b ts/\b<=90000 /\
  (UnR ts (n.toNat-1) none->∀(p l:Addr)(H':Hp),Same H H'->H l=none->LstAt H' l (bfF n.toNat ts)->H' p=some (.tup [.ref l,.non])->Q (.ref p) H') /\
  ∀k pw,UnR ts (n.toNat-1) (some (k,pw))->∀(p c d kk:Addr)(H':Hp),Same H H'->H' c=some (xE c (.ref C) (some d))->H' d=some (xD d [("place",.int k),("powers",.ref kk)])->H' kk=some (.tup (pw.map V.int))->H' p=some (.tup [.non,.ref c])->Q (.ref p) H')
theorem ah6_{cBC C C0:Addr}(F:Fun K "_law_asked" "_law_asked" abw_ f fd)(GB:HasX P w K mg base 10 "by_fillings" pUn (spBf cBC C))(mE:mg "EvenError" = some (.ref C0))(kE:PySem.W.kitOne K (.ref C0) (.type "BaseException")=some true)
  (kB:PySem.W.kitOne K (.ref cBC) (.ref C0)=some true/\cBC≠C0) (kU:PySem.W.kitOne K (.ref C) (.ref C0)=some true/\C≠C0):FnOk P w K mg base CX0 11 f fd pAs (vO_ cBC C):=by
 refine F.ok scAs (λvs H Q E h=>?_) (λcdv A outer s H vs Q E hr h=>?_)
 ·obtain⟨n,b,a,ts,rfl,_⟩:=h
  rfl
 obtain⟨n,b,a,ts,rfl,hL,hl,e1,q⟩:=h
 refine⟨_,qe_ (qm_ (i:=2) scAs.nd rfl (Or.inl rfl) xq_)
  (qe_ (qm_ (i:=3) scAs.nd rfl (Or.inl rfl) xq_)
  (qe_ (aoh_ (i:=4) (j:=3) rfl rfl scAs.nd rfl rfl rfl rfl rfl mE (aen_ kE) (λpn' T σ0 E' hx=>qf_ (qm_ (i:=2) scAs.nd rfl (Or.inl rfl) (ahu_ GB.ok hr rfl GB.at_ GB.kp GB.bd hx (qa_ (pv 0) (qa_ (pv 1) qb_))))))
  (qf_ (qn_ (qs_ (qa_ (pv 2) (qa_ (pv 3) qb_))))))),?_⟩
 refine⟨rfl,_,rfl,_,rfl,n,b,a,ts,rfl,hL,hl,λhn=>⟨cBC,rfl,vm_ kB.1 kB.2,λc hc=>?_⟩,λhn=>?_⟩
 ·refine⟨_,rfl,_,rfl,(by show 2<=sizeLine;decide),λp hp=>?_⟩
  have s2:=qd_ hp (.tup [.non,.ref c])
  exact e1 hn p c _ ((qd_ hc _).trans s2) (s2 _ _ qc_) qc_
 obtain⟨lens,hb,q0,q1⟩:=q hn
 refine⟨lens,hb,λhU l H1 hl0 s1 h1=>?_,λk pw hU H1 d kk s1 hd0 hd hk=>⟨C,rfl,vm_ kU.1 kU.2,λc hc=>?_⟩⟩
 ·refine⟨_,rfl,_,rfl,(by show 2<=sizeLine;decide),λp hp=>?_⟩
  have s2:=qd_ hp (.tup [.ref l,.non])
  exact q0 hU p l _ (s1.trans s2) hl0 (h1.mono s2) qc_
 ·refine⟨_,rfl,_,rfl,(by show 2<=sizeLine;decide),λp hp=>?_⟩
  have s3:=qd_ hc (xE c (.ref C) (some d))
  have s2:=qd_ hp (.tup [.non,.ref c])
  exact q1 k pw hU p c d kk _ (s1.trans (s3.trans s2)) (s2 _ _ qc_) (s2 _ _ (s3 _ _ hd)) (s2 _ _ (s3 _ _ hk)) qc_
abbrev nF:List Str:=["_law_caught", "_law_flags_here"]
theorem scF:FnScope nF ["_law_caught"] (qh_ abm_):=⟨rfl,rfl,rfl,by decide +kernel,rfl,by decide +kernel,by decide +kernel⟩
def Says(K:PySem.W.Frag)(C:Addr)(ds:List Addr)(bs:List Bool):Prop:=ds.length=bs.length/\∀(i:Nat)(d:Addr)(b:Bool),ds[i]?=some d->bs[i]?=some b->PySem.W.kitOne K (.ref C) (.ref d)=some b
def ac4_(K:PySem.W.Frag)(ds:List Addr):Sp:=λvs H Q _=>∃(od:Option Addr)(c C:Addr)(bs:List Bool),vs=[.ref c]/\H c=some (xE c (.ref C) od)/\ExcK K C/\Says K C ds bs/\∀(l:Addr)(H':Hp),H l=none->Same H H'->H' l=some (.lst (bs.map V.bl))->Q (.ref l) H'
theorem aiz_{d0 d1 d2 d3 d4 d5 d6 d7 d8 d9 d10 d11 d12:Addr}(F:Fun K "_law_flags" "_law_flags" abm_ f fd)(mi:mg "isinstance" = none)(m0:mg "BadCount" = some (.ref d0))(m1:mg "BadPowers" = some (.ref d1))(m2:mg "TooGreat" = some (.ref d2))(m3:mg "BadRow" = some (.ref d3))(m4:mg "UnlikeWeights" = some (.ref d4))(m5:mg "TooLong" = some (.ref d5))(m6:mg "Uneven" = some (.ref d6))(m7:mg "NoKind" = some (.ref d7))(m8:mg "NoText" = some (.ref d8))(m9:mg "NoLine" = some (.ref d9))(m10:mg "BadName" = some (.ref d10))(m11:mg "NoName" = some (.ref d11))(m12:mg "NotBy" = some (.ref d12)):FnOk P w K mg base CX0 2 f fd ["_law_caught"] (ac4_ K [d0,d1,d2,d3,d4,d5,d6,d7,d8,d9,d10,d11,d12]):=by
 refine F.ok scF (λvs H Q E h=>?_) (λcdv A outer s H vs Q E hr h=>?_)
 ·obtain⟨od,c,C,bs,rfl,_⟩:=h
  rfl
 obtain⟨od,c,C,bs,rfl,hc,hk,⟨hl,hs⟩,q⟩:=h
 match bs,hl,hs,q with
 |[b0,b1,b2,b3,b4,b5,b6,b7,b8,b9,b10,b11,b12],_,hs,q =>
 have k0:=hs 0 _ _ rfl rfl
 have k1:=hs 1 _ _ rfl rfl
 have k2:=hs 2 _ _ rfl rfl
 have k3:=hs 3 _ _ rfl rfl
 have k4:=hs 4 _ _ rfl rfl
 have k5:=hs 5 _ _ rfl rfl
 have k6:=hs 6 _ _ rfl rfl
 have k7:=hs 7 _ _ rfl rfl
 have k8:=hs 8 _ _ rfl rfl
 have k9:=hs 9 _ _ rfl rfl
 have k10:=hs 10 _ _ rfl rfl
 have k11:=hs 11 _ _ rfl rfl
 have k12:=hs 12 _ _ rfl rfl
 refine⟨_,qe_ (qm_ (i:=1) scF.nd rfl (Or.inl rfl) (qv_ (qa_ (qp_ qK_ rfl mi AU (qa_ (pv 0) (qa_ (zf_ (v:=.ref d0) rfl m0 rfl) qb_))) (qa_ (qp_ qK_ rfl mi AU (qa_ (pv 0) (qa_ (zf_ (v:=.ref d1) rfl m1 rfl) qb_))) (qa_ (qp_ qK_ rfl mi AU (qa_ (pv 0) (qa_ (zf_ (v:=.ref d2) rfl m2 rfl) qb_))) qb_)))))
  (qe_ (qm_ (i:=1) scF.nd rfl (Or.inl rfl) (qi_ jb_ (pv 1) (qv_ (qa_ (qp_ qK_ rfl mi AU (qa_ (pv 0) (qa_ (zf_ (v:=.ref d3) rfl m3 rfl) qb_))) (qa_ (qp_ qK_ rfl mi AU (qa_ (pv 0) (qa_ (zf_ (v:=.ref d4) rfl m4 rfl) qb_))) qb_)))))
  (qe_ (qm_ (i:=1) scF.nd rfl (Or.inl rfl) (qi_ jb_ (pv 1) (qv_ (qa_ (qp_ qK_ rfl mi AU (qa_ (pv 0) (qa_ (zf_ (v:=.ref d5) rfl m5 rfl) qb_))) (qa_ (qp_ qK_ rfl mi AU (qa_ (pv 0) (qa_ (zf_ (v:=.ref d6) rfl m6 rfl) qb_))) (qa_ (qp_ qK_ rfl mi AU (qa_ (pv 0) (qa_ (zf_ (v:=.ref d7) rfl m7 rfl) qb_))) qb_))))))
  (qe_ (qm_ (i:=1) scF.nd rfl (Or.inl rfl) (qi_ jb_ (pv 1) (qv_ (qa_ (qp_ qK_ rfl mi AU (qa_ (pv 0) (qa_ (zf_ (v:=.ref d8) rfl m8 rfl) qb_))) (qa_ (qp_ qK_ rfl mi AU (qa_ (pv 0) (qa_ (zf_ (v:=.ref d9) rfl m9 rfl) qb_))) (qa_ (qp_ qK_ rfl mi AU (qa_ (pv 0) (qa_ (zf_ (v:=.ref d10) rfl m10 rfl) qb_))) qb_))))))
  (qf_ (qn_ (qi_ jb_ (pv 1) (qv_ (qa_ (qp_ qK_ rfl mi AU (qa_ (pv 0) (qa_ (zf_ (v:=.ref d11) rfl m11 rfl) qb_))) (qa_ (qp_ qK_ rfl mi AU (qa_ (pv 0) (qa_ (zf_ (v:=.ref d12) rfl m12 rfl) qb_))) qb_))))))))),?_⟩
 refine⟨_,rfl,od,c,C,_,_,_,rfl,hc,hk,rfl,λ_ z=>z,k0,_,rfl,od,c,C,_,_,_,rfl,hc,hk,rfl,λ_ z=>z,k1,_,rfl,od,c,C,_,_,_,rfl,hc,hk,rfl,λ_ z=>z,k2,(by show 3<=sizeLine;decide),λp0 h0=>?_⟩
 have s0:=qd_ h0 (.lst [.bl b0,.bl b1,.bl b2])
 have hc0:=s0 _ _ hc
 have e0:upd H p0 (.lst [.bl b0,.bl b1,.bl b2]) p0=some (.lst [.bl b0,.bl b1,.bl b2]):=qc_
 have z0:Same H (upd H p0 (.lst [.bl b0,.bl b1,.bl b2])):=s0
 generalize upd H p0 (.lst [.bl b0,.bl b1,.bl b2])=G0 at *
 refine⟨_,rfl,_,rfl,od,c,C,_,_,_,rfl,hc0,hk,rfl,λ_ z=>z,k3,_,rfl,od,c,C,_,_,_,rfl,hc0,hk,rfl,λ_ z=>z,k4,(by show 2<=sizeLine;decide),λr1 hr1=>?_⟩
 have u1:=qd_ hr1 (.lst [.bl b3,.bl b4])
 refine⟨p0,r1,_,_,rfl,rfl,u1 _ _ e0,qc_,qr_ (by show 5<=100000;decide),λp1 hp1=>?_⟩
 have v1:=u1.trans (qd_ hp1 (.lst [.bl b0,.bl b1,.bl b2,.bl b3,.bl b4]))
 have hc1:=v1 _ _ hc0
 have z1:Same H (upd (upd G0 r1 (.lst [.bl b3,.bl b4])) p1 (.lst [.bl b0,.bl b1,.bl b2,.bl b3,.bl b4])):=z0.trans v1
 have e1:upd (upd G0 r1 (.lst [.bl b3,.bl b4])) p1 (.lst [.bl b0,.bl b1,.bl b2,.bl b3,.bl b4]) p1=some (.lst [.bl b0,.bl b1,.bl b2,.bl b3,.bl b4]):=qc_
 generalize hG1:upd (upd G0 r1 (.lst [.bl b3,.bl b4])) p1 (.lst [.bl b0,.bl b1,.bl b2,.bl b3,.bl b4])=G1 at *
 show zN_ 1 (.ref p1) _ (upd (upd G0 r1 (.lst [.bl b3,.bl b4])) p1 (.lst [.bl b0,.bl b1,.bl b2,.bl b3,.bl b4])) _
 rw[hG1]
 refine⟨_,rfl,_,rfl,od,c,C,_,_,_,rfl,hc1,hk,rfl,λ_ z=>z,k5,_,rfl,od,c,C,_,_,_,rfl,hc1,hk,rfl,λ_ z=>z,k6,_,rfl,od,c,C,_,_,_,rfl,hc1,hk,rfl,λ_ z=>z,k7,(by show 3<=sizeLine;decide),λr2 hr2=>?_⟩
 have u2:=qd_ hr2 (.lst [.bl b5,.bl b6,.bl b7])
 refine⟨p1,r2,_,_,rfl,rfl,u2 _ _ e1,qc_,qr_ (by show 8<=100000;decide),λp2 hp2=>?_⟩
 have v2:=u2.trans (qd_ hp2 (.lst [.bl b0,.bl b1,.bl b2,.bl b3,.bl b4,.bl b5,.bl b6,.bl b7]))
 have hc2:=v2 _ _ hc1
 have z2:Same H (upd (upd G1 r2 (.lst [.bl b5,.bl b6,.bl b7])) p2 (.lst [.bl b0,.bl b1,.bl b2,.bl b3,.bl b4,.bl b5,.bl b6,.bl b7])):=z1.trans v2
 have e2:upd (upd G1 r2 (.lst [.bl b5,.bl b6,.bl b7])) p2 (.lst [.bl b0,.bl b1,.bl b2,.bl b3,.bl b4,.bl b5,.bl b6,.bl b7]) p2=some (.lst [.bl b0,.bl b1,.bl b2,.bl b3,.bl b4,.bl b5,.bl b6,.bl b7]):=qc_
 generalize hG2:upd (upd G1 r2 (.lst [.bl b5,.bl b6,.bl b7])) p2 (.lst [.bl b0,.bl b1,.bl b2,.bl b3,.bl b4,.bl b5,.bl b6,.bl b7])=G2 at *
 show zN_ 1 (.ref p2) _ (upd (upd G1 r2 (.lst [.bl b5,.bl b6,.bl b7])) p2 (.lst [.bl b0,.bl b1,.bl b2,.bl b3,.bl b4,.bl b5,.bl b6,.bl b7])) _
 rw[hG2]
 refine⟨_,rfl,_,rfl,od,c,C,_,_,_,rfl,hc2,hk,rfl,λ_ z=>z,k8,_,rfl,od,c,C,_,_,_,rfl,hc2,hk,rfl,λ_ z=>z,k9,_,rfl,od,c,C,_,_,_,rfl,hc2,hk,rfl,λ_ z=>z,k10,(by show 3<=sizeLine;decide),λr3 hr3=>?_⟩
 have u3:=qd_ hr3 (.lst [.bl b8,.bl b9,.bl b10])
 refine⟨p2,r3,_,_,rfl,rfl,u3 _ _ e2,qc_,qr_ (by show 11<=100000;decide),λp3 hp3=>?_⟩
 have v3:=u3.trans (qd_ hp3 (.lst [.bl b0,.bl b1,.bl b2,.bl b3,.bl b4,.bl b5,.bl b6,.bl b7,.bl b8,.bl b9,.bl b10]))
 have hc3:=v3 _ _ hc2
 have z3:Same H (upd (upd G2 r3 (.lst [.bl b8,.bl b9,.bl b10])) p3 (.lst [.bl b0,.bl b1,.bl b2,.bl b3,.bl b4,.bl b5,.bl b6,.bl b7,.bl b8,.bl b9,.bl b10])):=z2.trans v3
 have e3:upd (upd G2 r3 (.lst [.bl b8,.bl b9,.bl b10])) p3 (.lst [.bl b0,.bl b1,.bl b2,.bl b3,.bl b4,.bl b5,.bl b6,.bl b7,.bl b8,.bl b9,.bl b10]) p3=some (.lst [.bl b0,.bl b1,.bl b2,.bl b3,.bl b4,.bl b5,.bl b6,.bl b7,.bl b8,.bl b9,.bl b10]):=qc_
 generalize hG3:upd (upd G2 r3 (.lst [.bl b8,.bl b9,.bl b10])) p3 (.lst [.bl b0,.bl b1,.bl b2,.bl b3,.bl b4,.bl b5,.bl b6,.bl b7,.bl b8,.bl b9,.bl b10])=G3 at *
 show zN_ 1 (.ref p3) _ (upd (upd G2 r3 (.lst [.bl b8,.bl b9,.bl b10])) p3 (.lst [.bl b0,.bl b1,.bl b2,.bl b3,.bl b4,.bl b5,.bl b6,.bl b7,.bl b8,.bl b9,.bl b10])) _
 rw[hG3]
 refine⟨_,rfl,_,rfl,od,c,C,_,_,_,rfl,hc3,hk,rfl,λ_ z=>z,k11,_,rfl,od,c,C,_,_,_,rfl,hc3,hk,rfl,λ_ z=>z,k12,(by show 2<=sizeLine;decide),λr4 hr4=>?_⟩
 have u4:=qd_ hr4 (.lst [.bl b11,.bl b12])
 refine⟨p3,r4,_,_,rfl,rfl,u4 _ _ e3,qc_,qr_ (by show 13<=100000;decide),λp4 hp4=>?_⟩
 have v4:=u4.trans (qd_ hp4 (.lst [.bl b0,.bl b1,.bl b2,.bl b3,.bl b4,.bl b5,.bl b6,.bl b7,.bl b8,.bl b9,.bl b10,.bl b11,.bl b12]))
 exact q p4 _ (z3.free (u4.free hp4)) (z3.trans v4) qc_
abbrev nY1:List Str:=["_law_caught", "_law_name", "_law_names"]
abbrev bY1:List Str:=["_law_other", "_law_name"]
theorem ndY1:bY1.Nodup:=by decide +kernel
theorem scY1:FnScope nY1 ["_law_caught", "_law_name"] (qh_ aaw_):=⟨rfl,rfl,rfl,by decide +kernel,rfl,by decide +kernel,by decide +kernel⟩
def exNames:List Str:=["BadCount", "BadPowers", "TooGreat", "BadRow", "UnlikeWeights", "TooLong", "Uneven", "NoKind", "NoText", "NoLine", "BadName", "NoName", "NotBy"]
def jg_(x:Str):List Bool:=exNames.map λy=>decide (V.str y=V.str x)
def abj_(K:PySem.W.Frag)(ds:List Addr):Sp:=λvs H Q _=>∃(od:Option Addr)(c C:Addr)(x:Str),vs=[.ref c,.str x]/\H c=some (xE c (.ref C) od)/\ExcK K C/\PySem.W.kitOne K (.ref C) (.type "ValueError")=some true/\Says K C ds (jg_ x)/\∀H',Same H H'->Q (.bl true) H'
theorem akm_{ds:List Addr}(F:Fun K "_law_only" "_law_only" aaw_ f fd)(G:Has P w K mg base 2 "_law_flags" ["_law_caught"] (ac4_ K ds))(mi:mg "isinstance" = none)(mv:mg "ValueError" = none):FnOk P w K mg base CX0 3 f fd ["_law_caught", "_law_name"] (abj_ K ds):=by
 refine F.ok scY1 (λvs H Q E h=>?_) (λcdv A outer s H vs Q E hr h=>?_)
 ·obtain⟨od,c,C,x,rfl,_⟩:=h
  rfl
 obtain⟨od,c,C,x,rfl,hc,hk,hv,hs,q⟩:=h
 have hB:=BD (Bh (by decide:Dat.dep Bool+1<=64) _) hr.units
 refine⟨_,qe_ (qm_ (i:=2) scY1.nd rfl (Or.inl rfl) (qv_ (qa_ zg_ (qa_ zg_ (qa_ zg_ (qa_ zg_ (qa_ zg_ (qa_ zg_ (qa_ zg_ (qa_ zg_ qb_))))))))))
  (qe_ (qm_ (i:=2) scY1.nd rfl (Or.inl rfl) (qi_ jb_ (pv 2) (qv_ (qa_ zg_ (qa_ zg_ (qa_ zg_ (qa_ zg_ (qa_ zg_ qb_))))))))
  (qf_ (qn_ (ab3_ (qp_ qK_ rfl mi AU (qa_ (pv 0) (qa_ (jS_ (v:=.ty "ValueError") rfl mv PyProof.Rows.Boot.«ValueError» rfl) qb_)))
   (ab7_ (ji_ (ae8_ (α:=Bool) hB) (qo_ G hr rfl (qa_ (pv 0) qb_)) (qO_ (N':=bY1) (src:=[none,some 1]) rfl (qu_ (pv 2)) (ze_ (qh_ aaw_) nY1 (by decide +kernel))
    (λb=>qj_ (i:=0) ndY1 rfl (Or.inl rfl)) (λb=>q4_) (λb=>ji_ xB_ (pv 0) (pv 1) (qt_ _))) (qt_ _))))))),?_⟩
 refine⟨(by show 8<=sizeLine;decide),λp0 h0=>?_⟩
 have s0:=qd_ h0 (.lst [.str "BadCount",.str "BadPowers",.str "TooGreat",.str "BadRow",.str "UnlikeWeights",.str "TooLong",.str "Uneven",.str "NoKind"])
 refine⟨_,rfl,(by show 5<=sizeLine;decide),λp1 h1=>?_⟩
 have s1:=qd_ h1 (.lst [.str "NoText",.str "NoLine",.str "BadName",.str "NoName",.str "NotBy"])
 refine⟨p0,p1,_,_,rfl,rfl,s1 _ _ qc_,qc_,qr_ (by decide),λp2 h2=>?_⟩
 have s2:=qd_ h2 (.lst (exNames.map V.str))
 have e2:upd (upd (upd H p0 (.lst [.str "BadCount",.str "BadPowers",.str "TooGreat",.str "BadRow",.str "UnlikeWeights",.str "TooLong",.str "Uneven",.str "NoKind"])) p1 (.lst [.str "NoText",.str "NoLine",.str "BadName",.str "NoName",.str "NotBy"])) p2 (.lst (exNames.map V.str)) p2=some (.lst (exNames.map V.str)):=qc_
 have z:=s0.trans (s1.trans s2)
 have hc2:=z _ _ hc
 show zN_ 2 (.ref p2) _ (upd (upd (upd H p0 (.lst [.str "BadCount",.str "BadPowers",.str "TooGreat",.str "BadRow",.str "UnlikeWeights",.str "TooLong",.str "Uneven",.str "NoKind"])) p1 (.lst [.str "NoText",.str "NoLine",.str "BadName",.str "NoName",.str "NotBy"])) p2 (.lst (exNames.map V.str))) _
 generalize upd (upd (upd H p0 (.lst [.str "BadCount",.str "BadPowers",.str "TooGreat",.str "BadRow",.str "UnlikeWeights",.str "TooLong",.str "Uneven",.str "NoKind"])) p1 (.lst [.str "NoText",.str "NoLine",.str "BadName",.str "NoName",.str "NotBy"])) p2 (.lst (exNames.map V.str))=G0 at *
 refine⟨_,rfl,od,c,C,.ty "ValueError",.type "ValueError",_,rfl,hc2,hk,rfl,λ_ z=>z,hv,_,rfl,z9_ ?_⟩
 refine⟨_,rfl,od,c,C,jg_ x,rfl,hc2,hk,hs,λl G1 hl t1 e1=>?_⟩
 have e3:=t1 _ _ e2
 refine⟨_,rfl,p2,rfl,⟨_,SqL.of e3⟩,λbk D hD=>?_⟩
 refine zP_ (α:=Bool) hD (SqL.of e3) (λσ=>∃c0,σ=[c0,some (.str x)]) (λi=>(exNames[i]?).bind λy=>some (decide (V.str y=V.str x))) (qr_ (by decide)) ?_ ?_ ?_
 ·exact⟨_,rfl⟩
 ·rintro i v σ H2 Yes No hv ⟨c0,rfl⟩ s3 yes no
  obtain⟨y,hy,rfl⟩:∃y,exNames[i]?=some y/\V.str y=v:=by
   rw[AT]at hv
   cases e:exNames[i]? with
   |none=>rw[e]at hv;cases hv
   |some y=>rw[e]at hv;exact⟨y,rfl,AW hv⟩
  refine zE_ ?_
  refine⟨_,rfl,_,rfl,rfl,?_⟩
  exact yes _ _ _ _ ⟨_,rfl⟩ (λ_ _ e=>e) (by rw[hy];rfl) rfl
 rintro H2 s3 hL
 have e:(List.range (exNames.map V.str).length).filterMap (λi=>(exNames[i]?).bind λy=>some (decide (V.str y=V.str x)))=jg_ x:=by
  rw[AA,qT_,Aq]
  rfl
 rw[e]at hL
 refine⟨l,D,jg_ x,jg_ x,rfl,rfl,⟨_,s3 _ _ e1,?_⟩,hL,?_⟩
 ·induction jg_ x with
  |nil=>exact .nil
  |cons b r ih=>exact .cons rfl ih
 ·rw[jW_]
  exact q _ (z.trans (t1.trans s3))
theorem ajw_{H:Hp}{t kk:Addr}{k:Nat}{p:Pw}(h:H t=some (.tup [.int k,.ref kk]))(h2:H kk=some (.tup (p.map V.int))):Dat.is (α:=Int×List Int) H (.ref t) ((k:Int),p):=⟨t,.int k,.ref kk,rfl,h,rfl,z7_ h2⟩
abbrev nUv:List Str:=["_law_caught", "_law_due_here"]
abbrev bUv:List Str:=["_law_number_here"]
theorem ndUv:bUv.Nodup:=by decide +kernel
theorem scUv:FnScope nUv nUv (qh_ sUv):=⟨rfl,rfl,rfl,by decide +kernel,rfl,by decide +kernel,by decide +kernel⟩
structure UCls(K:PySem.W.Frag)(ds:List Addr)(C:Addr):Prop where
 k:ExcK K C
 v:PySem.W.kitOne K (.ref C) (.type "ValueError")=some true
 s:Says K C ds (jg_ "Uneven")
 h:PySem.W.hasDictIn K C=true
 p1:PySem.W.findIn K (.ref C) "place" = some none
 p2:PySem.W.findIn K (.ref C) "powers" = some none
def spUv(C:Addr):Sp:=λvs H Q _=>∃(c d kk:Addr)(v:V)(k:Nat)(p:Pw),vs=[.ref c,v]/\H c=some (xE c (.ref C) (some d))/\H d=some (xD d [("place",.int k),("powers",.ref kk)])/\H kk=some (.tup (p.map V.int))/\p.length<=100/\isU H v (some (k,p))/\∀H',Same H H'->Q (.bl true) H'
theorem aot_{C:Addr}{ds:List Addr}(F:Fun K "_law_uneven" "_law_uneven" sUv f fd)(GO:Has P w K mg base 3 "_law_only" ["_law_caught", "_law_name"] (abj_ K ds))(GW:Has P w K mg base 3 "_law_whole" ["_law_found"] vP_)(c:UCls K ds C)(mi:mg "isinstance" = none)(mt:mg "tuple" = none)(ma:mg "all" = none):FnOk P w K mg base CX0 4 f fd nUv (spUv C):=by
 refine F.ok scUv (λvs H Q E h=>?_) (λcdv A outer s H vs Q E hr h=>?_)
 ·obtain⟨x,d,kk,v,k,p,rfl,_⟩:=h
  rfl
 obtain⟨x,d,kk,v,k,p,rfl,hx,hd,hk,hl,hv,q⟩:=h
 refine⟨_,qe_ (qX_ (PW.pt (j7_ (ja_ (zz_ (qo_ GO hr rfl (qa_ (pv 0) (qa_ zg_ qb_))))) (jV_ (ja_ (zz_ (qo_ GW hr rfl (qa_ (xK_ (pv 0) rfl) qb_))))))) (qf_ (qn_ jn_)) qz_)
  (qe_ (qX_ (PW.pt (j7_ (ja_ (zz_ (qp_ z0_ rfl mi AU (qa_ (xK_ (pv 0) rfl) (qa_ (jS_ (v:=.ty "tuple") rfl mt Av rfl) qb_)))))
   (jV_ (ja_ (zz_ (qp_ (yo_ rfl) rfl ma DJ (qa_ (qO_ (N':=bUv) (src:=[none]) rfl (jF_ (xK_ (pv 0) rfl)) (ze_ (qh_ sUv) nUv (by decide +kernel))
      (λb=>qj_ (i:=0) ndUv rfl (Or.inl rfl)) (λb=>q4_) (λb=>qo_ GW hr rfl (qa_ (pv 0) qb_))) qb_))))))) (qf_ (qn_ jn_)) qz_)
  (qf_ (qn_ (ji_ (aod_ (α:=Int) (β:=List Int) (BD (Bh (by decide:max (Dat.dep (α:=Int)) (Dat.dep (α:=List Int))+1<=64) _) hr.units)) (qs_ (qa_ (xK_ (pv 0) rfl) (qa_ (xK_ (pv 0) rfl) qb_))) (pv 1) (qt_ _))))),?_⟩
 refine⟨_,rfl,some d,x,C, "Uneven",rfl,hx,c.k,c.v,c.s,λH1 s1=>⟨_,rfl,zb_ ?_⟩⟩
 refine⟨_,rfl,x,C,d,_,.int k,rfl,s1 _ _ hx,s1 _ _ hd,c.k,c.h,c.p1,rfl,k,rfl,_,rfl,zb_ ?_⟩
 refine⟨_,rfl,x,C,d,_,.ref kk,rfl,s1 _ _ hx,s1 _ _ hd,c.k,c.h,c.p2,rfl,_,_,_,_,rfl,TyOf.tup (s1 _ _ hk),xy_ _ _,_,rfl,zb_ ?_⟩
 refine⟨_,rfl,x,C,d,_,.ref kk,rfl,s1 _ _ hx,s1 _ _ hd,c.k,c.h,c.p2,rfl,kk,rfl,⟨_,SqT.of (s1 _ _ hk)⟩,λb D hD=>?_⟩
 refine jq_ (α:=Bool) hD (SqT.of (s1 _ _ hk)) (λσ=>∃c,σ=[c]) (λi=>(p[i]?).bind λ_=>some true) (qr_ (by rw[AA];omega)) ⟨_,rfl⟩ ?_ ?_
 ·rintro j z σ H2 Yes No hz ⟨c,rfl⟩ s3 yes no
  rw[AT]at hz
  obtain⟨n,hn,rfl⟩:=DC.mp hz
  refine zE_ ?_
  refine⟨_,rfl,n,rfl,?_⟩
  exact yes _ _ _ true ⟨_,rfl⟩ (Same.refl _) (by rw[hn];rfl) rfl
 ·rintro H2 s3 ⟨ws,eD,iD⟩
  have e:(List.range (p.map V.int).length).filterMap (λi=>(p[i]?).bind λ_=>some true)=p.map λ_=>true:=by
   rw[AA,qT_,Aq]
  rw[e]at iD
  rw[jX_ iD]at eD
  refine⟨D,_,rfl,SqL.of eD,?_⟩
  have ea:(p.map λ_=>true).all id=true:=by simp
  rw[ea]
  refine⟨_,rfl,zb_ ?_⟩
  have s2:=s1.trans s3
  refine⟨_,rfl,x,C,d,_,.int k,rfl,s2 _ _ hx,s2 _ _ hd,c.k,c.h,c.p1,rfl,_,rfl,x,C,d,_,.ref kk,rfl,s2 _ _ hx,s2 _ _ hd,c.k,c.h,c.p2,rfl,(by show 2<=sizeLine;decide),λt4 h4=>?_⟩
  have s4:=qd_ h4 (.tup [.int k,.ref kk])
  obtain⟨t',kk',rfl,ht',hk'⟩:=hv
  refine⟨_,rfl,((k:Int),p),((k:Int),p),ajw_ qc_ (s4 _ _ (s2 _ _ hk)),ajw_ (s4 _ _ (s2 _ _ ht')) (s4 _ _ (s2 _ _ hk')),?_⟩
  rw[(Dat.eqb_iff ((k:Int),p) ((k:Int),p)).mpr rfl]
  exact q _ (s2.trans s4)
abbrev nGd:List Str:=["_law_many", "_law_some", "_law_handed", "_law_found", "_law_caught", "_law_due_here", "_law_telling", "_law_terms", "_law_row_here", "_law_number_here", "_law_powers_here", "_law_count"]
abbrev pGd:List Str:=["_law_many", "_law_some"]
theorem scGd:FnScope nGd pGd (qh_ ae5_):=⟨rfl,rfl,rfl,by decide +kernel,rfl,by decide +kernel,by decide +kernel⟩
theorem UnR.len{ts:List Mon}{n k:Nat}{p:Pw}(hl:∀t∈ts,t.1.length=n)(h:UnR ts (n-1) (some (k,p))):p.length=n:=by
 obtain⟨hk,_,t,r,e,rfl⟩:=h
 have hm:t∈unl ts k:=by rw[e];exact AD ..
 obtain⟨u,hu,e2⟩:=qY_ hm
 rw[<-e2]
 rcases Ak.mp hu with hu|hu
 ·exact hl u hu
 ·obtain⟨x,hx,rfl⟩:=Ae.mp hu
  exact aa1_ (by omega) hl x hx
theorem aqk_{n:Nat}{r:List Int}(n1:1<=n)(n4:n<=4)(hB:xA_ r=true)(hl:r.length<=n+1):NR n r/\(r.length<=n->norm (prd (norm (q3_ n r)) (norm (qV_ n [])))=norm (qV_ n r)/\∀t∈q3_ n r,t.1.length=n/\∀x∈t.1,0<=x/\x<=(11:Int))/\(n<r.length->q3_ n r=[]):=by
 obtain⟨r1,r2,r3⟩:=aax_ hB
 obtain⟨a1,a2,a3⟩:=adr_ n1 n4 hl r1 r2 r3
 exact⟨⟨n1,n4,hB,hl,a1⟩,a2,a3⟩
theorem Rw8.nr{n:Nat}{r:List Int}(n1:1<=n)(n4:n<=4)(h:Rw8 n r):NR n r:=(aqk_ n1 n4 (h.all n1 n4).2.2.2.2 (by have:=h.len;omega)).1
theorem adl_{n:Nat}{r:List Int}(h:NR n r):(norm (q3_ n r)).length<=1000/\∀u∈norm (q3_ n r),-(2^64)<u.2/\u.2<2^64:=by
 have f:=h.few r.length (AG _)
 have l:(q3_ n r).length<=1000:=by unfold q3_;rw[AA];exact f
 have:=zy_ (q3_ n r)
 refine⟨by omega,λu hu=>?_⟩
 have e:=vb_ (qP_ _) hu
 rw[zD_]at e
 have b:=xn_ (b:=1) u.1 (ts:=q3_ n r) λt ht=>by
  unfold q3_ at ht
  obtain⟨f,_,rfl⟩:=Ae.mp ht
  show(1:Int).natAbs<2^1
  decide
 rw[e]at b
 omega
theorem abs_{n:Nat}{T:List Mon}(h:∀t∈T,NR n t.1)(hT:T.length<=53)(i:Nat):((T.take i).flatMap (flG n)).length<=53000:=by
 have:=zR_ (flG n) 1000 (T.take i) λt ht=>by
  unfold flG
  rw[AA]
  exact(adl_ (h t (BL ht))).1
 rw[AS]at this
 have:min i T.length<=53:=by omega
 have:=Bz 1000 this
 omega
def ahd_:Sp:=λvs H Q _=>∃(n b:Nat)(a:Addr)(S:List Mon),vs=[.int n,.ref a]/\1<=n/\n<=4/\LstAt H a S/\S.length<=1000/\Canon S/\Deg n 8 b S/\b<=90000/\∀H',Q (.bl true) H'
theorem aj6_{cBC C:Addr}(F:Fun K "_law_good" "_law_good" ae5_ f fd)(GA:Has P w K mg base 11 "_law_asked" pAs (vO_ cBC C))(GD:Has P w K mg base 11 "_law_due" pDu aj2_)(GV:Has P w K mg base 11 "_law_uneven" nUv (spUv C))(GS:Has P w K mg base 11 "_law_same" ["_law_found", "_law_due_here"] afz_)
  (GE:Has P w K mg base 11 "filled_sum" nFs spFs) (GU:Has P w K mg base 11 "_law_sum" ["_law_terms"] xE_) (GB:HasX P w K mg base 11 "by_fillings" pUn (spBf cBC C)) (GY:Has P w K mg base 11 "_law_by_fillings" pBy aj1_) (ml:mg "list" = none):FnOk P w K mg base CX0 12 f fd pGd ahd_:=by
 refine F.ok scGd (λvs H Q E h=>?_) (λcdv A outer s H vs Q E hr h=>?_)
 ·obtain⟨n,b,a,S,rfl,_⟩:=h
  rfl
 obtain⟨n,b,a,S,rfl,n1,n4,hA,lS,cS,hDg,hb,q⟩:=h
 have lensS:=hDg.len
 have hM:=BD (Bh (by decide:Dat.dep Mon+1<=64) _) hr.units
 refine⟨_,qe_ (qm_ (i:=2) scGd.nd rfl (Or.inl rfl) (qN_ jG_ rfl ml B5 (qa_ (pv 1) qb_)))
  (qe_ (ago_ (qo_ GA hr rfl (qa_ (pv 0) (qa_ (pv 2) qb_))) (qU_ rfl (ql_ (qj_ (i:=3) scGd.nd rfl (Or.inl rfl)) (ql_ (qj_ (i:=4) scGd.nd rfl (Or.inl rfl)) qF_))))
  (qe_ (qm_ (i:=5) scGd.nd rfl (Or.inl rfl) (qo_ GD hr rfl (qa_ (pv 1) (qa_ (pv 0) qb_))))
  (qe_ (qX_ (qy_ (y1_ (α:=Mon) hM) (pv 2) (pv 1) (qt_ _)) (qf_ (qn_ jn_)) qz_)
  (qe_ (qX_ (qy_ vN_ (pv 5) xq_ (qt_ _)) (qf_ (qn_ (qo_ GV hr rfl (qa_ (pv 4) (qa_ (pv 5) qb_))))) qz_)
  (qe_ (qm_ (i:=6) scGd.nd rfl (Or.inl rfl) (qo_ GY hr rfl (qa_ (pv 1) (qa_ (pv 0) qb_))))
  (qe_ (qX_ (PW.pt (j7_ (qy_ vN_ (pv 4) xq_ (qt_ _)) (jV_ (ja_ (zz_ (qo_ GS hr rfl (qa_ (pv 3) (qa_ (pv 6) qb_)))))))) (qf_ (qn_ jn_)) qz_)
  (qe_ (qm_ (i:=7) scGd.nd rfl (Or.inl rfl) (qv_ qb_))
  (qe_ (qw_ Ah rfl (qu_ (pv 3)) (qU_ rfl (ql_ (qj_ (i:=8) scGd.nd rfl (Or.inl rfl)) (ql_ (qj_ (i:=9) scGd.nd rfl (Or.inl rfl)) qF_)))
   (qf_ (qw_ Ah rfl (qu_ (qo_ GE hr rfl (qa_ (pv 0) (qa_ (pv 8) qb_)))) (qU_ rfl (ql_ (qj_ (i:=10) scGd.nd rfl (Or.inl rfl)) (ql_ (qj_ (i:=11) scGd.nd rfl (Or.inl rfl)) qF_)))
    (qf_ (q2_ (z5_ Au As At qS_ (pv 7) (qa_ (qs_ (qa_ (pv 10) (qa_ (qi_ jY_ (pv 11) (pv 9)) qb_))) qb_)))))))
  (qe_ (qX_ (qy_ (y1_ (α:=Mon) hM) (qo_ GU hr rfl (qa_ (pv 7) qb_)) (pv 1) (qt_ _)) (qf_ (qn_ jn_)) qz_)
  (qe_ (q2_ (z5_ Au As At qS_ (pv 3) (qa_ (qs_ (qa_ (qs_ qb_) (qa_ qg_ qb_))) qb_)))
  (qf_ (qn_ (ab3_ (qo_ GS hr rfl (qa_ (zF_ GB.ok hr rfl GB.at_ GB.kp GB.bd .nil amw_ (qa_ (pv 0) (qa_ (pv 2) qb_))) (qa_ (pv 6) qb_))) (ab7_ (ji_ (ae8_ (α:=Mon) hM) (pv 2) (pv 1) (qt_ _)))))))))))))))),?_⟩
 obtain⟨vs,eA,iA⟩:=id hA
 refine⟨_,rfl,a,vs,rfl,.inl (SqL.of eA),λlh hlh=>?_⟩
 have sh:=qd_ hlh (.lst vs)
 have hH:LstAt (upd H lh (.lst vs)) lh S:=⟨vs,qc_,Its.mono (Tups.same sh) iA⟩
 have hA:=hA.mono sh
 show zN_ 2 (.ref lh) _ (upd H lh (.lst vs)) _
 generalize upd H lh (.lst vs)=G at *
 refine⟨_,rfl,_,rfl,(n:Int),b,lh,S,rfl,hH,by omega,λz=>absurd ⟨by omega,by omega⟩ z,λ_=>⟨by rw[An];exact hDg,hb,λhU p1 l1 H1 s1 hl1 hL1 hp1=>?_,λk pw hU p1 c1 d1 k1 H1 s1 hc1 hd1 hk1 hp1=>?_⟩⟩
 ·rw[An]at hU
  rw[An]at hL1
  obtain⟨cT,rT,lT,eS⟩:=aqt_ n1 n4 cS (akj_ hU) hDg
  have nT:∀t∈bfF n S,NR n t.1:=λt ht=>(rT t ht).nr n1 n4
  refine⟨p1,_,rfl,SqT.of hp1,rfl,_,_,rfl,_,_,rfl,rfl,?_⟩
  refine⟨_,rfl,_,rfl,n,a,S,rfl,hA.mono s1,lS,n1,n4,lensS,λv o H2 s2 hU2 hv=>?_⟩
  cases hU.one hU2
  obtain rfl:v=.non:=hv
  have z2:=s1.trans s2
  refine⟨_,rfl,_,rfl,lh,a,S,S,rfl,rfl,hH.mono z2,hA.mono z2,_,rfl,?_⟩
  rw[jW_]
  refine zb_ ⟨_,rfl,rfl,_,rfl,zb_ ?_⟩
  refine⟨_,rfl,_,rfl,n,b,a,S,rfl,hA.mono z2,lS,n1,n4,hDg,hb,cT,λl H2y hly sy hTy=>?_⟩
  have nl1:l≠l1:=λz=>by
   obtain⟨_,e,_⟩:=hL1.mono s2
   rw[z,e]at hly
   cases hly
  have hL1:=hL1.mono (s2.trans sy)
  have z2:=z2.trans sy
  have hU0:=hU
  generalize eTe:bfF n S=T at cT rT lT eS nT hTy hL1
  refine⟨_,rfl,rfl,_,rfl,zb_ ?_⟩
  have lens1:∀t∈T,t.1.length<=100:=λt ht=>by have:=(rT t ht).len;omega
  refine⟨_,rfl,_,rfl,l1,l,T,rfl,hL1,hTy,by omega,lens1,λH3 s3=>⟨_,rfl,zb_ ?_⟩⟩
  have z3:=z2.trans s3
  obtain⟨us,eL,iL⟩:=hL1.mono s3
  have lu:=AL iL
  refine⟨(by show 0<=sizeLine;decide),λlt hlt=>?_⟩
  have s4:=qd_ hlt (.lst [])
  refine⟨_,rfl,l1,rfl,⟨us,SqL.of (s4 _ _ eL)⟩,?_⟩
  refine qE_ (xs:=us) (λi σ H'=>(∃c8 c9 c10 c11,σ=[some (.int n),some (.ref a),some (.ref lh),some (.ref l1),some .non,some .non,some (.ref l),some (.ref lt),c8,c9,c10,c11])/\LstAt H' lt ((T.take i).flatMap (flG n))/\Same H3 H') ?_ ?_ ?_ ?_
  ·exact⟨⟨_,_,_,_,rfl⟩,⟨[],qc_,.nil⟩,s4⟩
  ·rintro i σ H5 _ ⟨_,_,s5⟩
   exact SqL.of (s5 _ _ eL)
  ·rintro i x σ H5 hx ⟨⟨c8,c9,c10,c11,rfl⟩,hW,s5⟩
   obtain⟨t,ht,hi⟩:=qD_ iL hx
   obtain⟨p,kk,rfl,hp,hkk⟩:=q7_ hi
   have rt:=rT t (AY ht)
   have rl:=rt.len
   refine⟨p,_,rfl,SqT.of (s5 _ _ hp),rfl,_,_,rfl,_,_,rfl,rfl,?_⟩
   refine⟨_,rfl,_,rfl,kk,n,t.1,rfl,s5 _ _ hkk,rt.nr n1 n4,λl6 H6 hl6 s6 h6=>?_⟩
   obtain⟨ol,o1⟩:=adl_ (rt.nr n1 n4)
   have tk:(T.take (i+1)).flatMap (flG n)=(T.take i).flatMap (flG n)++(norm (q3_ n t.1)).map λu=>(u.1,u.2*t.2):=by
    rw[qH_ ht,Bi,Be]
    rfl
   have b1:=abs_ (T:=T) nT lT i
   have hW6:=hW.mono s6
   have n6:l6≠lt:=λz=>by
    obtain⟨_,eu,_⟩:=hW
    rw[z,eu]at hl6
    cases hl6
   rw[tk]
   generalize (T.take i).flatMap (flG n)=pre at hW6 b1
   generalize norm (q3_ n t.1)=os at h6 ol o1
   obtain⟨ws,eW,iW⟩:=h6
   have lw:=AL iW
   refine⟨l6,rfl,⟨_,SqL.of eW⟩,?_⟩
   refine qE_ (xs:=ws) (λj σ H'=>(∃c10 c11,σ=[some (.int n),some (.ref a),some (.ref lh),some (.ref l1),some .non,some .non,some (.ref l),some (.ref lt),some (.ref kk),some (.int t.2),c10,c11])/\LstAt H' lt (pre++(os.take j).map λu=>(u.1,u.2*t.2))/\Same H3 H'/\H' l6=some (.lst ws)/\Tups H6 H') ?_ ?_ ?_ ?_
   ·refine⟨⟨_,_,rfl⟩,?_,s5.trans s6,eW,λ_ _ e=>e⟩
    rw[Bn,Bw,Ax]
    exact hW6
   ·rintro j σ H8 _ ⟨_,_,_,e8,_⟩
    exact SqL.of e8
   ·rintro j v σ H8 hv ⟨⟨c10,c11,rfl⟩,⟨xs8,eU,iU⟩,s8,e8,t8⟩
    obtain⟨u,hu,hi2⟩:=qD_ iW hv
    obtain⟨pu,ku,rfl,hpu,hku⟩:=q7_ hi2
    have lu8:=AL iU
    have jl:j<os.length:=(AR.mp hu).1
    have u1:=o1 u (AY hu)
    refine⟨pu,_,rfl,SqT.of (t8 _ _ hpu),rfl,_,_,rfl,_,_,rfl,rfl,?_⟩
    refine⟨_,rfl,.inl ⟨rfl,_,SqL.of eU⟩,_,rfl,_,rfl,_,rfl,_,_,rfl,rfl,.inl u1,(by show 2<=sizeLine;decide),λp9 h9=>?_⟩
    have s9:=qd_ h9 (.tup [.ref ku,.int (u.2*t.2)])
    have eU9:=s9 _ _ eU
    have t9:∀o,Tups (upd H8 p9 (.tup [.ref ku,.int (u.2*t.2)])) (upd (upd H8 p9 (.tup [.ref ku,.int (u.2*t.2)])) lt o):=λo=>jc_ eU9 o
    refine⟨lt,xs8,_,rfl,rfl,eU9,zn_ (by rw[AE,AA,AS]at lu8;omega),⟨_,_,rfl⟩,⟨xs8++[.ref p9],qc_,?_⟩,yB_ hlt (s8.trans s9) _,?_,λr ys e=>t9 _ _ _ (s9 _ _ (t8 _ _ e))⟩
    ·rw[qH_ hu,Ao,<-AX]
     exact CF (Its.mono ((Tups.same s9).trans (t9 _)) iU) (Dat.mono (t9 _) (q5_ (t:=(u.1,u.2*t.2)) qc_ (s9 _ _ (t8 _ _ hku))))
    ·rw[qk_ n6]
     exact s9 _ _ e8
   ·rintro σ H8 ⟨⟨c10,c11,rfl⟩,h8,s8,_,_⟩
    rw[AN (by omega)]at h8
    exact⟨⟨_,_,_,_,rfl⟩,h8,s8⟩
  ·rintro σ H5 ⟨⟨c8,c9,c10,c11,rfl⟩,hL,s5⟩
   have b1:=abs_ (T:=T) nT lT us.length
   rw[AN (by omega)]at hL b1
   refine⟨_,rfl,lt,_,rfl,hL,by omega,λl6 H6 hl6 s6 h6=>?_⟩
   rw[eS]at h6
   have z6:=z3.trans (s5.trans s6)
   refine⟨_,rfl,l6,a,S,S,rfl,rfl,h6,hA.mono z6,_,rfl,?_⟩
   rw[jW_]
   refine zb_ ?_
   have e6:=(s5.trans s6) _ _ eL
   refine⟨_,rfl,.inl ⟨rfl,_,SqL.of e6⟩,(by show 0<=sizeLine;decide),λp7 h7=>⟨(by show 2<=sizeLine;decide),λp8 h8=>?_⟩⟩
   have s7:=qd_ h7 (.tup [])
   have s8:=qd_ h8 (.tup [.ref p7,.int 1])
   have z8:=z6.trans (s7.trans s8)
   refine⟨l1,us,_,rfl,rfl,s8 _ _ (s7 _ _ e6),zn_ (by omega),?_⟩
   have z9:=yB_ hl1 z8 (.lst (us++[.ref p8]))
   have hTl:LstAt (upd (upd (upd H6 p7 (.tup [])) p8 (.tup [.ref p7,.int 1])) l1 (.lst (us++[.ref p8]))) l T:=by
    obtain⟨xs,ex,ix⟩:=hTy.mono (s3.trans (s5.trans (s6.trans (s7.trans s8))))
    exact⟨xs,by rw[qk_ nl1];exact ex,Its.mono (jc_ (s8 _ _ (s7 _ _ e6)) _) ix⟩
   refine⟨_,rfl,_,rfl,(n:Int),b,lh,S,rfl,hH.mono z9,by omega,λz=>absurd ⟨by omega,by omega⟩ z,λ_=>⟨by rw[An];exact hDg,hb,λhU' l9 H9 hl9 s9 h9=>?_,λk pw hU'=>?_⟩⟩
   ·rw[An,eTe]at h9
    refine⟨_,rfl,l9,l,T,rfl,h9,hTl.mono s9,by omega,lens1,λH10 s10=>⟨_,rfl,z9_ ?_⟩⟩
    refine⟨_,rfl,_,rfl,lh,a,S,S,rfl,rfl,hH.mono (z9.trans (s9.trans s10)),hA.mono (z9.trans (s9.trans s10)),?_⟩
    rw[jW_]
    exact q _
   ·rw[An]at hU'
    cases hU.one hU'
 ·rw[An]at hU
  refine⟨p1,_,rfl,SqT.of hp1,rfl,_,_,rfl,_,_,rfl,rfl,?_⟩
  refine⟨_,rfl,_,rfl,n,a,S,rfl,hA.mono s1,lS,n1,n4,lensS,λv o H2 s2 hU2 hv=>?_⟩
  cases hU.one hU2
  refine⟨_,rfl,_,rfl,lh,a,S,S,rfl,rfl,hH.mono (s1.trans s2),hA.mono (s1.trans s2),_,rfl,?_⟩
  rw[jW_]
  refine zb_ ⟨_,rfl,rfl,_,rfl,?_⟩
  obtain⟨t3,k3,rfl,ht3,hk3⟩:=hv
  refine z9_ ⟨_,rfl,_,rfl,c1,d1,k1,_,k,pw,rfl,s2 _ _ hc1,s2 _ _ hd1,s2 _ _ hk1,by rw[hU.len lensS];omega,⟨t3,k3,rfl,ht3,hk3⟩,λH3 s3=>q H3⟩
theorem an0_{X:Cx}{st:Stmt}{t:TS}(I:St->Hp->Prop)(h:PS X st t):PS X st (λD σ H=>t { D with nx:=I } σ H/\∀σ' H',I σ' H'->D.nx σ' H'):=by
 intro pins s σ H D inv q
 refine thn (h pins s σ H { D with nx:=I } inv q.1) λfl s' e=>?_
 cases fl with
 |next=>obtain⟨σ',H',i,n⟩:=e;exact⟨σ',H',i,q.2 _ _ n⟩
 |brk=>exact e
 |cont=>exact e
 |ret u=>exact e
def aav_(K:PySem.W.Frag):Sp:=λvs H Q _=>∃(a:Addr)(ns:List Int),vs=[.ref a]/\SqL K H a (ns.map V.int)/\ns.length<=63/\∀H',Q (.bl true) H'
theorem api_{c k:Int}(c0:0<=c)(h0:0<=k)(h4:k<4):∃x:Int,atI [V.int 0,V.int 5,V.int (0-c),V.int (5+c)] k=some (.int x)/\¬ (1<=x/\x<=4):=by
 have:k=0∨k=1∨k=2∨k=3:=by omega
 rcases this with rfl|rfl|rfl|rfl
 ·exact⟨0,rfl,by omega⟩
 ·exact⟨5,rfl,by omega⟩
 ·exact⟨_,rfl,by omega⟩
 ·exact⟨_,rfl,by omega⟩
theorem aos_{k y:Int}(h:k=0∨k=1):∃x:Int,atI [V.int (0-y),V.int 1] k=some (.int x)/\(x=0-y∨x=1):=by
 rcases h with rfl|rfl
 ·exact⟨_,rfl,.inl rfl⟩
 ·exact⟨_,rfl,.inr rfl⟩
theorem aib_(ns:List Int):∃cs:List Int,zl_ (ns.map V.int) (some 2) (some 14)=cs.map V.int/\cs.length<=40:=by
 have e1:HT.sIx (ns.map V.int).length (ns.map V.int).length (some 14)=min 14 (ns.map V.int).length:=by
  show(if (14:Int)<0 then ((14:Int)+((ns.map V.int).length:Int)).toNat else min (14:Int).toNat (ns.map V.int).length)=_
  rw[if_neg (by decide)]
  rfl
 unfold zl_
 rw[e1]
 refine⟨(ns.drop _).take _,by rw[Dm,Cr],?_⟩
 rw[AS]
 omega
theorem ann_{c w:Int}{n:Nat}(w0:0<=w)(w8:w<=8)(n1:1<=n):Rw8 n (yc_ (jj_ c 3 w n)):=by
 obtain⟨pl,pn,ps⟩:=vK_ (c:=c) (far:=3) w0 n1
 have pm:(vz_ (jj_ c 3 w n)).Perm (jj_ c 3 w n):=DV _ _
 have so:(vz_ (jj_ c 3 w n)).Pairwise λa b=>b<=a:=(EA (le:=λa b:Int=>decide (b<=a)) (λa b c h1 h2=>decide_eq_true (by have:=of_decide_eq_true h1;have:=of_decide_eq_true h2;omega)) (λa b=>by
  rcases Int.le_total a b with h|h
  ·rw[decide_eq_true h,Dz]
  ·rw[decide_eq_true h,Er]) _).imp λh=>of_decide_eq_true h
 have fs:∀l:List Int,(∀x∈l,0<=x)->(l.filter λx=>decide (0<x)).sum=l.sum:=λl=>by
  induction l with
  |nil=>intro _;rfl
  |cons x l ih =>
   intro h
   have ih:=ih λy hy=>h y (AC _ hy)
   have:=h x (AD ..)
   rw[Az]
   by_cases z:0<x
   ·rw[if_pos (decide_eq_true z),Ab,Ab,ih]
   ·rw[if_neg (by rw[decide_eq_true_eq];exact z),Ab,ih];omega
 refine⟨?_,so.filter _,λx hx=>of_decide_eq_true (Bq.mp hx).2,?_⟩
 ·have:=aa6_ (jj_ c 3 w n)
  omega
 ·unfold yc_
  rw[fs _ λx hx=>(pn x (pm.mem_iff.mp hx)).1,yM_ pm]
  omega
structure Told(K:PySem.W.Frag)(ds:List Addr)(C:Addr)(x:Str):Prop where
 k:ExcK K C
 v:PySem.W.kitOne K (.ref C) (.type "ValueError")=some true
 s:Says K C ds (jg_ x)
abbrev nL:List Str:=["_law_script", "_law_cell_here", "_law_many", "_law_some", "_law_far", "_law_bent", "_law_place"]
theorem scL:FnScope nL ["_law_script"] (qh_ sLaw):=⟨rfl,rfl,rfl,by decide +kernel,rfl,by decide +kernel,by decide +kernel⟩
def IvL(a:Addr)(c:Int)(n:Nat):St->Hp->Prop:=λσ H'=>∃(l:Addr)(S:List Mon)(c4 c5 c6:Option V),σ=[some (.ref a),some (.int c),some (.int n),some (.ref l),c4,c5,c6]/\LstAt H' l S/\S.length<=961/\Canon S/\Deg n 8 226 S
theorem af8_{n:Nat}{w:Int}{cs:List Int}(h:cs.length<=40):∀t∈norm (cs.map (jo_ n w)),t.2.natAbs<2^206:=λt ht=>by
 have e:=vb_ (qP_ _) ht
 rw[zD_]at e
 have b:=xn_ (b:=200) t.1 (ts:=cs.map (jo_ n w)) λu hu=>by
  obtain⟨x,_,rfl⟩:=Ae.mp hu
  exact aej_ (by decide) x
 rw[e,AA]at b
 have:=Bz (2^200) h
 omega
theorem aii_{n:Nat}{T:List Mon}(n1:1<=n)(n4:n<=4)(h:∀t∈T,Rw8 n t.1)(b:∀t∈T,t.2.natAbs<2^206)(l:(T.flatMap (evG n)).length<=960):Deg n 8 216 (norm (T.flatMap (evG n))):=by
 have d:Deg n 8 206 (T.flatMap (evG n)):=by
  have k:∀t∈T.flatMap (evG n),∃u∈T,∃q∈xZ_ n u.1,t=(q,u.2):=λt ht=>by
   obtain⟨u,hu,hm⟩:=BS.mp ht
   obtain⟨q,hq,rfl⟩:=Ae.mp hm
   exact⟨u,hu,q,hq,rfl⟩
  refine⟨λt ht=>?_,λt ht=>?_,λt ht=>?_,λt ht=>?_⟩
  ·obtain⟨u,hu,q,hq,rfl⟩:=k t ht
   exact(x8_ (h u hu).len n4).2 q hq
  ·obtain⟨u,hu,q,hq,rfl⟩:=k t ht
   exact(((h u hu).all n1 n4).2.2.2.1 q hq).1
  ·obtain⟨u,hu,q,hq,rfl⟩:=k t ht
   exact(((h u hu).all n1 n4).2.2.2.1 q hq).2
  ·obtain⟨u,hu,q,hq,rfl⟩:=k t ht
   exact b u hu
 exact d.norm (k:=10) (by omega)
theorem anr_{cBC C:Addr}{ds:List Addr}(F:Fun K "law" "law" sLaw f fd)(GC:Has P w K mg base 12 "_law_cell" nC (agm_ K))(GE:Has P w K mg base 12 "_law_even" pEv ahe_)(GT:Has P w K mg base 12 "_law_told" nTd agr_)(GS:Has P w K mg base 12 "_law_sum" ["_law_terms"] xE_)(GH:Has P w K mg base 12 "_law_thing" ["_law_cell_here", "_law_k", "_law_many"] yD_)
  (GG:Has P w K mg base 12 "_law_good" pGd ahd_) (GA:Has P w K mg base 12 "_law_asked" pAs (vO_ cBC C)) (GO:Has P w K mg base 12 "_law_only" ["_law_caught", "_law_name"] (abj_ K ds)) (T0:Told K ds cBC "BadCount")
  (mn:mg "len" = none) (mi:mg "int" = none):FnOk P w K mg base CX0 13 f fd ["_law_script"] (aav_ K):=by
 refine F.ok scL (λvs H Q E h=>?_) (λcdv A outer s H vs Q E hr h=>?_)
 ·obtain⟨a,ns,rfl,_⟩:=h
  rfl
 obtain⟨a,ns,rfl,hS,h63,q⟩:=h
 have c0:0<=jJ_ ns 0:=by
  unfold jJ_
  split
  ·exact B1 _ (by decide)
  ·decide
 obtain⟨c,hc⟩:∃c,jJ_ ns 0=c:=⟨_,rfl⟩
 rw[hc]at c0
 obtain⟨n,hn,n1,n4⟩:∃n:Nat,1+c%4=n/\1<=n/\n<=4:=by
  have h0:=B1 c (show(4:Int)≠0 by decide)
  have h1:=Bx c (show(0:Int)<4 by decide)
  exact⟨(1+c%4).toNat,by omega,by omega,by omega⟩
 obtain⟨cs,ecs,lcs⟩:=aib_ ns
 obtain⟨w,atw,w0,w8⟩:∃w:Int,atI [V.int 5,V.int 8] (if decide (V.int (c / 4%8)=V.int 1) then 1 else 0)=some (.int w)/\0<=w/\w<=8:=by
  cases decide (V.int (c / 4%8)=V.int 1)
  ·exact⟨5,rfl,by decide,by decide⟩
  ·exact⟨8,rfl,by decide,by decide⟩
 obtain⟨T,eT⟩:∃T,norm (cs.map (jo_ n w))=T:=⟨_,rfl⟩
 have rT:∀t∈T,Rw8 n t.1:=λt ht=>by
  rw[<-eT]at ht
  obtain⟨u,hu,e⟩:=qY_ ht
  obtain⟨x,_,rfl⟩:=Ae.mp hu
  rw[<-e]
  exact ann_ w0 w8 n1
 have bT:∀t∈T,t.2.natAbs<2^206:=by rw[<-eT];exact af8_ lcs
 refine⟨_,qe_ (qm_ (i:=1) scL.nd rfl (Or.inl rfl) (qo_ GC hr rfl (qa_ (pv 0) (qa_ qg_ qb_))))
  (qe_ (qm_ (i:=2) scL.nd rfl (Or.inl rfl) (qi_ qM_ qg_ (qi_ zq_ (pv 1) qg_)))
  (qe_ (qm_ (i:=3) scL.nd rfl (Or.inl rfl) (qo_ GE hr rfl (qa_ (qo_ GT hr rfl (qa_ (za_ vv_ (pv 0) (zj_ qg_) (zj_ qg_)) (qa_ (pv 2) (qa_ (qG_ zO_ (qv_ (qa_ qg_ (qa_ qg_ qb_))) (qN_ agj_ rfl mi EY (qa_ (ji_ xB_ (qi_ zq_ (qi_ xc_ (pv 1) qg_) qg_) qg_ (qt_ _)) qb_)) (λ_ _=>rfl)) qb_)))) (qa_ (pv 2) qb_))))
  (qe_ (qX_ (qy_ xB_ (qi_ zq_ (qi_ xc_ (pv 1) qg_) qg_) qg_ (qt_ _))
   (qe_ (qm_ (i:=4) scL.nd rfl (Or.inl rfl) (qG_ zO_ (qv_ (qa_ qg_ (qa_ qg_ (qa_ (qi_ qZ_ qg_ (pv 1)) (qa_ (qi_ qM_ qg_ (pv 1)) qb_))))) (qi_ zq_ (qi_ xc_ (pv 1) qg_) qg_) (λ_ _=>rfl)))
   (qe_ (qm_ (i:=5) scL.nd rfl (Or.inl rfl) (qo_ GS hr rfl (qa_ (qi_ jb_ (pv 3) (qv_ (qa_ (qs_ (qa_ (qi_ zi_ (qs_ (qa_ qg_ qb_)) (qi_ jP_ (qs_ (qa_ qg_ qb_)) (qi_ qZ_ (pv 2) qg_))) (qa_ qg_ qb_))) qb_))) qb_)))
   (qe_ (qX_ (ja_ (zz_ (qo_ GO hr rfl (qa_ (qG_ q0_ (qo_ GA hr rfl (qa_ (pv 4) (qa_ (pv 5) qb_))) qg_ (λ_ _=>rfl)) (qa_ zg_ qb_))))) (qf_ (qn_ jn_)) qz_)
   (qf_ (qn_ (qo_ GO hr rfl (qa_ (qG_ q0_ (qo_ GA hr rfl (qa_ (pv 4) (qa_ (pv 3) qb_))) qg_ (λ_ _=>rfl)) (qa_ zg_ qb_)))))))) qz_)
  (qe_ (an0_ (IvL a c n) (qX_ (PW.pt (am0_ (qy_ xB_ (qi_ zq_ (qi_ xc_ (pv 1) qg_) qg_) qg_ (qt_ _)) (alp_ (qy_ j9_ (qp_ qI_ rfl mn BZ (qa_ (pv 3) qb_)) qg_ (qt_ _)))))
   (qe_ (qm_ (i:=6) scL.nd rfl (Or.inl rfl) (qo_ GH hr rfl (qa_ (qo_ GC hr rfl (qa_ (pv 0) (qa_ qg_ qb_))) (qa_ qg_ (qa_ (qp_ qI_ rfl mn BZ (qa_ (pv 3) qb_)) qb_)))))
   (qf_ (qm_ (i:=3) scL.nd rfl (Or.inl rfl) (qo_ GS hr rfl (qa_ (qi_ jb_ (pv 3) (qv_ (qa_ (qs_ (qa_ (qG_ q0_ (qG_ zO_ (pv 3) (pv 6) (λ_ _=>rfl)) qg_ (λ_ _=>rfl)) (qa_ (qG_ zO_ (qv_ (qa_ (qi_ qZ_ qg_ (qG_ q0_ (qG_ zO_ (pv 3) (pv 6) (λ_ _=>rfl)) qg_ (λ_ _=>rfl))) (qa_ qg_ qb_))) (qi_ zq_ (qi_ xc_ (pv 1) qg_) qg_) (λ_ _=>rfl)) qb_))) qb_))) qb_))))) qz_))
  (qf_ (qn_ (qo_ GG hr rfl (qa_ (pv 2) (qa_ (pv 3) qb_))))))))),?_⟩
 refine⟨_,rfl,a,ns,0,rfl,hS,?_⟩
 rw[hc]
 refine⟨_,rfl,_,_,rfl,rfl,(by show(0:Int)<4;decide),_,_,rfl,rfl,?_⟩
 show zN_ 2 (V.int (1+c%4)) _ _ _
 rw[hn]
 refine⟨_,rfl,_,rfl,_,rfl,a,_,rfl,hS,λp hp=>?_⟩
 rw[ecs]
 have sp:=qd_ hp (.lst (cs.map V.int))
 refine⟨_,rfl,(by show 2<=sizeLine;decide),λp2 hp2=>?_⟩
 have sp2:=qd_ hp2 (.lst [.int 5,.int 8])
 refine⟨_,rfl,_,_,rfl,rfl,⟨by decide,by decide⟩,_,_,rfl,rfl,(by show(0:Int)<8;decide),rfl,_,rfl,p2,_,_,.int w,rfl,rfl,SqL.of qc_,atw,?_⟩
 refine⟨p,cs,n,w,rfl,sp2 _ _ qc_,lcs,n1,n4,w0,w8,λl1 H1 hl1 s1 hL1 lT lens=>?_⟩
 rw[eT]at hL1 lT lens
 refine⟨_,rfl,l1,T,n,rfl,hL1,lT,n1,n4,lens,λl2 H2 hl2 s2 hL2 lS lensS=>?_⟩
 have hS2:=(sp.trans (sp2.trans (s1.trans s2))).seq hS
 have fE:=yW_ (T:=T) lens n4 lT T.length
 rw[DG]at fE
 have dS:=aii_ n1 n4 rT bT fE
 have cS:=qP_ (T.flatMap (evG n))
 generalize norm (T.flatMap (evG n))=S at hL2 lS lensS dS cS
 clear hS hL1
 refine⟨_,rfl,_,_,rfl,rfl,⟨by decide,by decide⟩,_,_,rfl,rfl,(by show(0:Int)<16;decide),rfl,_,rfl,ite2 (λ_=>?_) (λ_=>?_)⟩
 ·obtain⟨x,ax,hx⟩:=api_ (k:=c / 512%4) c0 (B1 _ (by decide)) (Bx _ (by decide))
  refine⟨_,rfl,_,_,rfl,rfl,_,rfl,_,_,rfl,rfl,(by show 4<=sizeLine;decide),λl0 h0=>?_⟩
  have s0:=qd_ h0 (.lst [.int 0,.int 5,.int (0-c),.int (5+c)])
  refine⟨_,rfl,_,_,rfl,rfl,⟨by decide,by decide⟩,_,_,rfl,rfl,(by show(0:Int)<4;decide),l0,_,_,.int x,rfl,rfl,SqL.of qc_,ax,?_⟩
  obtain⟨vs,eL,iL⟩:=hL2.mono s0
  have lv:=AL iL
  refine⟨_,rfl,(by show 1<=sizeLine;decide),λt1 h1=>⟨(by show 1<=sizeLine;decide),λt2 h2=>?_⟩⟩
  have s1:=qd_ h1 (.tup [.int 1])
  have s2':=qd_ h2 (.tup [.int 0])
  refine⟨_,rfl,_,_,rfl,rfl,t2,[0],_,rfl,rfl,qc_,by simp,by omega,by omega,qr_ (by show 1*_<=100000;omega),λt3 H3 s3 h3=>?_⟩
  rw[yv_]at h3
  refine zd_ (r:=[1]) (r':=List.replicate ((n:Int)-1).toNat 0) (s3 _ _ (s2' _ _ qc_)) h3 (qr_ (by rw[BM];show 1+_<=100000;omega)) λt4 H4 s4 h4=>?_
  refine⟨(by show 2<=sizeLine;decide),λt5 h5=>⟨(by show 1<=sizeLine;decide),λl6 h6=>?_⟩⟩
  have s5:=qd_ h5 (.tup [.ref t4,.int 1])
  have s6:=qd_ h6 (.lst [.ref t5])
  have z:=s1.trans (s2'.trans (s3.trans (s4.trans (s5.trans s6))))
  refine⟨_,l6,_,_,rfl,rfl,z _ _ eL,qc_,qr_ (by show _+1<=100000;omega),λl7 h7=>?_⟩
  have s7:=qd_ h7 (.lst (vs++[.ref t5]))
  have hB:LstAt (upd _ l7 (.lst (vs++[.ref t5]))) l7 (S++[([1]++List.replicate ((n:Int)-1).toNat 0,1)]):=⟨_,qc_,CF (Its.mono (Tups.same (z.trans s7)) iL) (q5_ (t:=([1]++List.replicate ((n:Int)-1).toNat 0,1)) (s7 _ _ (s6 _ _ qc_)) (s7 _ _ (s6 _ _ (s5 _ _ h4))))⟩
  refine⟨l7,_,rfl,hB,by rw[AE];show _+1<=100000;omega,λl8 H8 hl8 s8 h8=>?_⟩
  have lb:=zy_ (S++[([1]++List.replicate ((n:Int)-1).toNat 0,(1:Int))])
  rw[AE]at lb
  have lb:(norm (S++[([1]++List.replicate ((n:Int)-1).toNat 0,(1:Int))])).length<=S.length+1:=lb
  refine⟨_,rfl,_,rfl,x,0,l8,_,rfl,h8,by omega,λ_ p9 c9 H9 s9 hc9 hp9=>?_,λz=>absurd z hx⟩
  refine⟨p9,_,_,.ref c9,rfl,rfl,SqT.of hp9,q8_ (j:=1) rfl,?_⟩
  refine⟨none,c9,cBC, "BadCount",rfl,hc9,T0.k,T0.v,T0.s,λH10 s10=>⟨_,rfl,zb_ ?_⟩⟩
  refine⟨_,rfl,_,rfl,x,0,l2,S,rfl,hL2.mono (s0.trans (z.trans (s7.trans (s8.trans (s9.trans s10))))),by omega,λ_ p11 c11 H11 s11 hc11 hp11=>?_,λz=>absurd z hx⟩
  refine⟨p11,_,_,.ref c11,rfl,rfl,SqT.of hp11,q8_ (j:=1) rfl,?_⟩
  exact⟨none,c11,cBC, "BadCount",rfl,hc11,T0.k,T0.v,T0.s,λH12 s12=>q H12⟩
 ·refine⟨?_,?_⟩
  ·refine⟨_,rfl,_,_,rfl,rfl,⟨by decide,by decide⟩,_,_,rfl,rfl,(by show(0:Int)<4;decide),rfl,_,rfl,ite2 (λ_=>?_) (λ_=>zb_ ⟨l2,S,_,_,_,rfl,hL2,by omega,cS,dS.mono (by decide) (by decide)⟩)⟩
   obtain⟨vs,eL,iL⟩:=id hL2
   have lv:=AL iL
   refine⟨_,rfl,l2,_,rfl,.inl (SqL.of eL),_,_,rfl,rfl,_,rfl,?_⟩
   by_cases cl:(0:Int)<(vs.length:Int)
   ·refine x4_ cl ?_
    have t0:=yK_ (c:=jJ_ ns 1) (k:=42) cl
    have t1:=yU_ (c:=jJ_ ns 1) (k:=42) cl
    refine⟨_,rfl,a,ns,1,rfl,hS2,_,rfl,l2,_,rfl,.inl (SqL.of eL),jJ_ ns 1,42,(vs.length:Int),rfl,by decide,by decide,cl,?_⟩
    show zN_ 6 (V.int (zS_ (jJ_ ns 1) 42 (vs.length:Int))) _ _ _
    obtain⟨j,hj⟩:∃j:Nat,zS_ (jJ_ ns 1) 42 (vs.length:Int)=j:=⟨(zS_ (jJ_ ns 1) 42 (vs.length:Int)).toNat,by omega⟩
    rw[hj]
    have jl:j<vs.length:=by omega
    obtain⟨t,ht,hi⟩:=qD_ iL (AH jl)
    obtain⟨pt,kk,ept,hpt,hkk⟩:=q7_ hi
    have at1:atI vs (j:Int)=some (.ref pt):=q8_ (by rw[AH jl,ept])
    obtain⟨x,ax,hx⟩:=aos_ (k:=c / 128%2) (y:=t.2) (by have:=B1 (c / 128) (show(2:Int)≠0 by decide);have:=Bx (c / 128) (show(0:Int)<2 by decide);omega)
    refine⟨_,rfl,_,rfl,_,rfl,l2,_,_,.ref pt,rfl,rfl,SqL.of eL,at1,pt,_,_,.ref kk,rfl,rfl,SqT.of hpt,q8_ (j:=0) rfl,?_⟩
    refine⟨_,rfl,_,rfl,l2,_,_,.ref pt,rfl,rfl,SqL.of eL,at1,pt,_,_,.int t.2,rfl,rfl,SqT.of hpt,q8_ (j:=1) rfl,_,_,rfl,rfl,(by show 2<=sizeLine;decide),λl5 h5=>?_⟩
    have s5:=qd_ h5 (.lst [.int (0-t.2),.int 1])
    refine⟨_,rfl,_,_,rfl,rfl,⟨by decide,by decide⟩,_,_,rfl,rfl,(by show(0:Int)<2;decide),l5,_,_,.int x,rfl,rfl,SqL.of qc_,ax,?_⟩
    refine⟨(by show 2<=sizeLine;decide),λt6 h6=>⟨(by show 1<=sizeLine;decide),λl7 h7=>?_⟩⟩
    have s6:=qd_ h6 (.tup [.ref kk,.int x])
    have s7:=qd_ h7 (.lst [.ref t6])
    have z:=s5.trans (s6.trans s7)
    refine⟨l2,l7,_,_,rfl,rfl,z _ _ eL,qc_,qr_ (by show _+1<=100000;omega),λl8 h8=>?_⟩
    have s8:=qd_ h8 (.lst (vs++[.ref t6]))
    have hB:LstAt (upd _ l8 (.lst (vs++[.ref t6]))) l8 (S++[(t.1,x)]):=⟨_,qc_,CF (Its.mono (Tups.same (z.trans s8)) iL) (q5_ (t:=(t.1,x)) (s8 _ _ (s7 _ _ qc_)) (s8 _ _ (s7 _ _ (s6 _ _ (s5 _ _ hkk)))))⟩
    have lb:(norm (S++[(t.1,x)])).length<=S.length+1:=by
     have:=zy_ (S++[(t.1,x)])
     rw[AE]at this
     exact this
    have lens9:∀u∈norm (S++[(t.1,x)]),u.1.length=n:=λu hu=>by
     obtain⟨y,hy,e⟩:=qY_ hu
     rw[<-e]
     rcases Ak.mp hy with hy|hy
     ·exact lensS y hy
     ·rw[Af.mp hy];exact lensS t (AY ht)
    refine⟨l8,_,rfl,hB,by rw[AE];show _+1<=100000;omega,λl9 H9 hl9 s9 h9=>?_⟩
    have dt:=dS.num t (AY ht)
    have mt:=AY ht
    have dx:Deg n 8 216 [(t.1,x)]:=⟨λu hu=>(by rw[Af.mp hu];exact dS.len t mt),λu hu=>(by rw[Af.mp hu];exact dS.nn t mt),λu hu=>(by rw[Af.mp hu];exact dS.sum t mt),λu hu=>(by
     rw[Af.mp hu]
     show x.natAbs<2^216
     rcases hx with rfl|rfl
     ·omega
     ·decide)⟩
    exact⟨l9,_,_,_,_,rfl,h9,by omega,qP_ _,(dS.app dx).norm (k:=10) (by rw[AE];show _+1<_;omega)⟩
   ·exact xw_ cl ⟨l2,S,_,_,_,rfl,hL2,by omega,cS,dS.mono (by decide) (by decide)⟩
  ·rintro σ H3 ⟨l,S',c4,c5,c6,rfl,hL,lS',cS',dS'⟩
   exact⟨_,rfl,_,rfl,n,226,l,S',rfl,n1,n4,hL,by omega,cS',dS',by decide,q⟩
theorem akk_{K:PySem.W.Frag}{C:Addr}{ds:List Addr}{bs:List Bool}(h:Paired (λd b=>PySem.W.kitOne K (.ref C) (.ref d)=some b) ds bs):Says K C ds bs:=⟨AL h,λi d b h1 h2=>by
 obtain⟨b',e,q⟩:=Paired.get h h1
 rw[h2]at e
 cases e
 exact q⟩
structure TQ(K:PySem.W.Frag)(ds:List Addr)(C C0:Addr)(fl:List Bool):Prop where
 a:PySem.W.mroIn K C (.type "object")=some true
 b:PySem.W.mroIn K C (.type "BaseException")=some true
 c:PySem.W.findIn K (.ref C) "__class__" = some (some (.builtin "object.__class__"))
 d:PySem.W.findIn K (.ref C) "__getattribute__" = some (some (.builtin "BaseException.__getattribute__"))
 e:PySem.W.findIn K (.ref C) "__getattr__" = some none
 v:PySem.W.kitOne K (.ref C) (.type "ValueError")=some true
 w:PySem.W.kitOne K (.ref C) (.ref C0)=some true
 n:C≠C0
 s:Paired (λd b=>PySem.W.kitOne K (.ref C) (.ref d)=some b) ds fl
theorem TQ.told{ds:List Addr}{C C0:Addr}{fl:List Bool}{x:Str}(t:TQ K ds C C0 fl)(e:jg_ x=fl)(i:(PySem.W.clsIn K C).isSome=true):Told K ds C x:=⟨⟨t.a,t.b,t.c,t.d,t.e,i⟩,t.v,by rw[e];exact akk_ t.s⟩
def FQ(K:PySem.W.Frag)(n:Str)(st:Stmt):Prop:=∃(f:Addr)(fd:FuncData),PySem.W.nsIn K mainGlobals n=some (some (.ref f))/\Fun K n n st f fd
theorem fq_mk{n:Str}{st:Stmt}{f:Addr}{oc:Value}{od an:Option Addr}{osl:Array (Option Value)}{kV doc pm cdv ct:Value}(a:PySem.W.nsIn K mainGlobals n=some (some (.ref f)))(l:K.lookup f=some ⟨oc,od,.func (PySem.W.fnOf n n (xh_ st) (jt_ st) (qh_ st) .none kV doc pm an cdv ct),osl⟩)
  (c:PySem.W.codeIn K cdv n=true) (k:PySem.W.keepIn K (.ref f)=true):FQ K n st:=⟨f,_,a,afo_ l c k⟩
theorem FQ.x{n:Str}{st:Stmt}{h:Heap}(q:FQ K n st)(X:K.In h)(G:h.Ns mainGlobals mg):∃f fd,Fun K n n st f fd/\PySem.W.keepIn K (.ref f)=true/\mg n=some (.ref f):=by
 obtain⟨f,fd,a,F⟩:=q
 exact⟨f,fd,F,F.kp,BJ X G a⟩
def HasX.lift{j k:Nat}{x:Str}{ps:List Str}{sp:Sp}(G:HasX P w K mg base j x ps sp)(h:j<=k):HasX P w K mg base k x ps sp:=⟨G.f,G.fd,G.ok.mono h,G.bd,G.kp,G.at_⟩
end
end L2.K53
set_option maxHeartbeats 1000000
namespace L2.Ev
open PySem PySem.Spec PyProof.Rows
open PySem.W PySem.Calls Builtin Builtin.ObjectAttr
structure XParts(K:Frag)(C C0 fI:Addr)(dd:Option Addr)(cd:ClassData)(sl:Array (Option Value))(o1:Value)(o2:Option Addr)(es:Array DictEntry)(n:Nat)(o3:Array (Option Value)):Prop where
 l:K.lookup C=some ⟨.type "type",dd,.cls cd,sl⟩
 m:cd.mro=[.ref C,.ref C0,.type "ValueError",.type "Exception",.type "BaseException",.type "object"]
 g:cd.hasDel=false/\cd.hasDict=true
 s:(sl.toList.length==6&&sl.toList[4]?==some (some (.builtin "ValueError.__new__")))=true
 d:K.lookup cd.ns=some ⟨o1,o2,.dict es n,o3⟩
 k:(es.toList.all λe=>match e.key with|.str _ _=>true|_=>false)=true
 i:nsIn K cd.ns "__init__" = some (some (.ref fI))
 b:excIn K C0 xS_ "ValueError.__new__" = true
variable{K:Frag}{C C0 fI:Addr}{dd:Option Addr}{cd:ClassData}{sl:Array (Option Value)}{o1:Value}{o2:Option Addr}{es:Array DictEntry}{n:Nat}{o3:Array (Option Value)}
theorem afj_(b:excIn K C0 xS_ "ValueError.__new__" = true):tailIn K xS_ (.ref C0::xS_)=true:=by
 unfold excIn at b
 unfold tailIn
 rw[DR]
 right
 split at b
 ·rename_i cd sl ho
  split at b
  ·simp only[AQ,beq_iff_eq]at b
   dsimp only
   rw[ho]
   dsimp only
   obtain⟨⟨⟨⟨⟨_,_⟩,_⟩,_⟩,h1⟩,h2⟩:=b
   rw[h1,h2]
   have e:tailIn K xS_ xS_=true:=by
    unfold tailIn
    rw[DR]
    left
    decide
   rw[e]
   decide
  ·cases b
 ·cases b
theorem XParts.cls(p:XParts K C C0 fI dd cd sl o1 o2 es n o3):clsIn K C=some cd:=by
 unfold clsIn
 rw[p.l]
theorem XParts.some(p:XParts K C C0 fI dd cd sl o1 o2 es n o3):(clsIn K C).isSome=true:=by
 rw[p.cls]
 rfl
theorem XParts.st(p:XParts K C C0 fI dd cd sl o1 o2 es n o3):aai_ K C=true:=by
 unfold aai_
 rw[p.cls]
 show(xe_ cd.mro&&cd.hasDict)=true
 rw[p.m,p.g.2]
 rfl
theorem XParts.j(p:XParts K C C0 fI dd cd sl o1 o2 es n o3):xU_ K C fI=true:=by
 unfold xU_
 rw[p.l]
 have hn:nsOkIn K cd.ns=true:=by
  unfold nsOkIn
  rw[p.d]
  show(es.all λe=>match e.key with|.str _ _=>true|_=>false)=true
  rw[<-Array.all_toList]
  exact p.k
 have ht:tailIn K [.type "ValueError",.type "Exception",.type "BaseException",.type "object"] cd.mro.tail=true:=by
  rw[p.m]
  exact afj_ p.b
 have hm:(cd.mro.head?==Option.some (.ref C))=true:=by
  rw[p.m]
  exact beq_self_eq_true _
 have hi:(nsIn K cd.ns "__init__" == Option.some (Option.some (.ref fI)))=true:=by
  rw[p.i]
  exact beq_self_eq_true _
 show(cd.mro.head?==Option.some (.ref C)&&tailIn K [.type "ValueError",.type "Exception",.type "BaseException",.type "object"] cd.mro.tail&&nsOkIn K cd.ns&&nsIn K cd.ns "__init__" == Option.some (Option.some (.ref fI))&&!cd.hasDel&&(sl.toList.length==6&&sl.toList[4]?==Option.some (Option.some (.builtin "ValueError.__new__"))))=true
 rw[hm,ht,hn,hi,p.g.1,p.s]
 rfl
end L2.Ev
namespace L2.K53
open PySem
open L2.Pl L2.Ev
theorem of1{α:Type}{C:List α->Prop}(h:∀a0,C [a0]):∀us:List α,us.length=1->C us
 |[a0],_=>h a0
theorem of2{α:Type}{C:List α->Prop}(h:∀a0 a1,C [a0,a1]):∀us:List α,us.length=2->C us
 |[a0,a1],_=>h a0 a1
theorem of3{α:Type}{C:List α->Prop}(h:∀a0 a1 a2,C [a0,a1,a2]):∀us:List α,us.length=3->C us
 |[a0,a1,a2],_=>h a0 a1 a2
theorem of4{α:Type}{C:List α->Prop}(h:∀a0 a1 a2 a3,C [a0,a1,a2,a3]):∀us:List α,us.length=4->C us
 |[a0,a1,a2,a3],_=>h a0 a1 a2 a3
theorem all_mk{l:PySem.W.OpenLaw}{w:World}{K:PySem.W.Frag}{h:Heap}{mg:Str->Option Value}{fa:Addr}(X:K.In h)(G:h.Ns mainGlobals mg)(hfa:mg "law" = some (.ref fa))
  (q1:FQ K "refuse_bad_count" sRc)
  (q2:FQ K "gathered" aat_)
  (q3:FQ K "less" aau_)
  (q4:FQ K "multiplied" sMul)
  (q5:FQ K "swapped" aef_)
  (q6:FQ K "exchanged" aan_)
  (q7:FQ K "refuse_bad_row" sRbr)
  (q8:FQ K "uneven" sUn)
  (q9:FQ K "refuse_uneven" sRu)
  (q10:FQ K "falls" sFa)
  (q11:FQ K "row_of" sRf)
  (q12:FQ K "product" sPr)
  (q13:FQ K "lines_from" sLf)
  (q14:FQ K "least_for_next" sLn)
  (q15:FQ K "with_next_line" sWn)
  (q16:FQ K "fillings" sFil)
  (q17:FQ K "powers_of" sPo)
  (q18:FQ K "filled_sum" sFs)
  (q19:FQ K "unknown_alone" sUa)
  (q20:FQ K "differences" sDf)
  (q21:FQ K "by_fillings" sBf)
  (q22:FQ K "_law_whole" abx_)
  (q23:FQ K "_law_flags" abm_)
  (q24:FQ K "_law_only" aaw_)
  (q25:FQ K "_law_cell" adz_)
  (q26:FQ K "_law_thing" acc_)
  (q27:FQ K "_law_number" sNum)
  (q28:FQ K "_law_powers" sPow)
  (q29:FQ K "_law_sum" sSum)
  (q30:FQ K "_law_same" aal_)
  (q31:FQ K "_law_orders" aeq_)
  (q32:FQ K "_law_row" sRow)
  (q33:FQ K "_law_told" aaq_)
  (q34:FQ K "_law_even" aed_)
  (q35:FQ K "_law_product" aak_)
  (q36:FQ K "_law_signed_orders" sSo)
  (q37:FQ K "_law_alternating" sAl)
  (q38:FQ K "_law_due" sDue)
  (q39:FQ K "_law_uneven" sUv)
  (q40:FQ K "_law_by_fillings" vw_)
  (q41:FQ K "_law_asked" abw_)
  (q42:FQ K "_law_good" ae5_)
  (q43:FQ K "law" sLaw)
  {tk1:Tok} (g1:PySem.W.nsIn K mainGlobals "MOST_UNKNOWNS" = some (some (.int 4 tk1)))
  {tk2:Tok} (g2:PySem.W.nsIn K mainGlobals "MOST_TOGETHER" = some (some (.int 8 tk2)))
  {d0 d1 d2 d3 d4 d5 d6 d7 d8 d9 d10 d11 d12 d13:Addr} {fI:Addr} {odI anI ddC o2C:Option Addr} {slI slC o3C:Array (Option Value)} {ocI kVI dcI pmI cdI ctI o1C:Value} {cdC:ClassData} {esC:Array DictEntry} {nnC:Nat}
  (y0:PySem.W.nsIn K mainGlobals "BadCount" = some (some (.ref d0)))
  (y1:PySem.W.nsIn K mainGlobals "BadPowers" = some (some (.ref d1)))
  (y2:PySem.W.nsIn K mainGlobals "TooGreat" = some (some (.ref d2)))
  (y3:PySem.W.nsIn K mainGlobals "BadRow" = some (some (.ref d3)))
  (y4:PySem.W.nsIn K mainGlobals "UnlikeWeights" = some (some (.ref d4)))
  (y5:PySem.W.nsIn K mainGlobals "TooLong" = some (some (.ref d5)))
  (y6:PySem.W.nsIn K mainGlobals "Uneven" = some (some (.ref d6)))
  (y7:PySem.W.nsIn K mainGlobals "NoKind" = some (some (.ref d7)))
  (y8:PySem.W.nsIn K mainGlobals "NoText" = some (some (.ref d8)))
  (y9:PySem.W.nsIn K mainGlobals "NoLine" = some (some (.ref d9)))
  (y10:PySem.W.nsIn K mainGlobals "BadName" = some (some (.ref d10)))
  (y11:PySem.W.nsIn K mainGlobals "NoName" = some (some (.ref d11)))
  (y12:PySem.W.nsIn K mainGlobals "NotBy" = some (some (.ref d12)))
  (y13:PySem.W.nsIn K mainGlobals "EvenError" = some (some (.ref d13)))
  (x0:PySem.W.excIn K d0 bmV "ValueError.__new__" = true)
  (t0:TQ K [d0,d1,d2,d3,d4,d5,d6,d7,d8,d9,d10,d11,d12] d0 d13 [true,false,false,false,false,false,false,false,false,false,false,false,false])
  (t6:TQ K [d0,d1,d2,d3,d4,d5,d6,d7,d8,d9,d10,d11,d12] d6 d13 [false,false,false,false,false,false,true,false,false,false,false,false,false])
  (wE:PySem.W.kitOne K (.ref d13) (.type "BaseException")=some true)
  (aI:PySem.W.findIn K (.ref d6) "__init__" = some (some (.ref fI)))
  (lI:K.lookup fI=some ⟨ocI,odI,.func (PySem.W.fnOf "__init__" "Uneven.__init__" (xh_ vu_) (jt_ vu_) (qh_ vu_) .none kVI dcI pmI anI cdI ctI),slI⟩)
  (cI:PySem.W.codeIn K cdI "Uneven.__init__" = true)
  (kI:PySem.W.keepIn K (.ref fI)=true)
  (CP:XParts K d6 d13 fI ddC cdC slC o1C o2C esC nnC o3C)
  (fI1:PySem.W.isFn K (.ref fI)=true)
  (kC6:PySem.W.keepIn K (.ref d6)=true)
  (sa6:PySem.W.findIn K (.ref d6) "__setattr__" = some (some (.builtin "object.__setattr__")))
  (p1:PySem.W.findIn K (.ref d6) "place" = some none)
  (p2:PySem.W.findIn K (.ref d6) "powers" = some none)
  (hd6:PySem.W.hasDictIn K d6=true)
  (bi1:PySem.W.specialIn K (.ref d13) "__getattribute__" = some (some (.builtin "type.__getattribute__")))
  (bi2:PySem.W.readsIn K d13 (.type "type")=true)
  (bi3:PySem.W.findCls K (.ref d13) (.type "type") "__init__" = some (.val (.builtin "ValueError.__init__")))
  (z1:PySem.W.nsIn K mainGlobals "sorted" = some none)
  (z2:PySem.W.nsIn K mainGlobals "range" = some none)
  (z3:PySem.W.nsIn K mainGlobals "isinstance" = some none)
  (z4:PySem.W.nsIn K mainGlobals "int" = some none)
  (z5:PySem.W.nsIn K mainGlobals "bool" = some none)
  (z6:PySem.W.nsIn K mainGlobals "len" = some none)
  (z7:PySem.W.nsIn K mainGlobals "tuple" = some none)
  (z8:PySem.W.nsIn K mainGlobals "list" = some none)
  (z9:PySem.W.nsIn K mainGlobals "all" = some none)
  (z10:PySem.W.nsIn K mainGlobals "any" = some none)
  (z11:PySem.W.nsIn K mainGlobals "zip" = some none)
  (z12:PySem.W.nsIn K mainGlobals "sum" = some none)
  (z13:PySem.W.nsIn K mainGlobals "enumerate" = some none)
  (z14:PySem.W.nsIn K mainGlobals "max" = some none)
  (z15:PySem.W.nsIn K mainGlobals "ValueError" = some none)
  : ∃fd:FuncData,(∀(s:Shared)(v:Value),BindsTo s fd ⟨[v],[]⟩ [("_law_script",v)])/\∀base:Heap,K.In base->base.Ns mainGlobals mg->FnOk l.prog w K mg base CX0 13 fa fd ["_law_script"] (aav_ K):=by
 obtain⟨f1,e1,F1,k1,A1⟩:=q1.x X G
 obtain⟨f2,e2,F2,k2,A2⟩:=q2.x X G
 obtain⟨f3,e3,F3,k3,A3⟩:=q3.x X G
 obtain⟨f4,e4,F4,k4,A4⟩:=q4.x X G
 obtain⟨f5,e5,F5,k5,A5⟩:=q5.x X G
 obtain⟨f6,e6,F6,k6,A6⟩:=q6.x X G
 obtain⟨f7,e7,F7,k7,A7⟩:=q7.x X G
 obtain⟨f8,e8,F8,k8,A8⟩:=q8.x X G
 obtain⟨f9,e9,F9,k9,A9⟩:=q9.x X G
 obtain⟨f10,e10,F10,k10,A10⟩:=q10.x X G
 obtain⟨f11,e11,F11,k11,A11⟩:=q11.x X G
 obtain⟨f12,e12,F12,k12,A12⟩:=q12.x X G
 obtain⟨f13,e13,F13,k13,A13⟩:=q13.x X G
 obtain⟨f14,e14,F14,k14,A14⟩:=q14.x X G
 obtain⟨f15,e15,F15,k15,A15⟩:=q15.x X G
 obtain⟨f16,e16,F16,k16,A16⟩:=q16.x X G
 obtain⟨f17,e17,F17,k17,A17⟩:=q17.x X G
 obtain⟨f18,e18,F18,k18,A18⟩:=q18.x X G
 obtain⟨f19,e19,F19,k19,A19⟩:=q19.x X G
 obtain⟨f20,e20,F20,k20,A20⟩:=q20.x X G
 obtain⟨f21,e21,F21,k21,A21⟩:=q21.x X G
 obtain⟨f22,e22,F22,k22,A22⟩:=q22.x X G
 obtain⟨f23,e23,F23,k23,A23⟩:=q23.x X G
 obtain⟨f24,e24,F24,k24,A24⟩:=q24.x X G
 obtain⟨f25,e25,F25,k25,A25⟩:=q25.x X G
 obtain⟨f26,e26,F26,k26,A26⟩:=q26.x X G
 obtain⟨f27,e27,F27,k27,A27⟩:=q27.x X G
 obtain⟨f28,e28,F28,k28,A28⟩:=q28.x X G
 obtain⟨f29,e29,F29,k29,A29⟩:=q29.x X G
 obtain⟨f30,e30,F30,k30,A30⟩:=q30.x X G
 obtain⟨f31,e31,F31,k31,A31⟩:=q31.x X G
 obtain⟨f32,e32,F32,k32,A32⟩:=q32.x X G
 obtain⟨f33,e33,F33,k33,A33⟩:=q33.x X G
 obtain⟨f34,e34,F34,k34,A34⟩:=q34.x X G
 obtain⟨f35,e35,F35,k35,A35⟩:=q35.x X G
 obtain⟨f36,e36,F36,k36,A36⟩:=q36.x X G
 obtain⟨f37,e37,F37,k37,A37⟩:=q37.x X G
 obtain⟨f38,e38,F38,k38,A38⟩:=q38.x X G
 obtain⟨f39,e39,F39,k39,A39⟩:=q39.x X G
 obtain⟨f40,e40,F40,k40,A40⟩:=q40.x X G
 obtain⟨f41,e41,F41,k41,A41⟩:=q41.x X G
 obtain⟨f42,e42,F42,k42,A42⟩:=q42.x X G
 obtain⟨f43,fd,a43,F43⟩:=q43
 have e:=hfa.symm.trans (BJ X G a43)
 cases e
 have c_MOST_UNKNOWNS:=BJ X G g1
 have c_MOST_TOGETHER:=BJ X G g2
 have m_sorted:=BB X G z1
 have m_range:=BB X G z2
 have m_isinstance:=BB X G z3
 have m_int:=BB X G z4
 have m_bool:=BB X G z5
 have m_len:=BB X G z6
 have m_tuple:=BB X G z7
 have m_list:=BB X G z8
 have m_all:=BB X G z9
 have m_any:=BB X G z10
 have m_zip:=BB X G z11
 have m_sum:=BB X G z12
 have m_enumerate:=BB X G z13
 have m_max:=BB X G z14
 have m_ValueError:=BB X G z15
 refine⟨fd,λs v=>?_,λbase _ _=>?_⟩
 ·obtain⟨_,_,_,_,_,_,_,_,_,rfl,_,_⟩:=F43.ex
  exact .of_eq rfl
 have T0:=t0.told (x := "BadCount") (by decide) (aei_ x0)
 have M0:=BJ X G y0
 have M1:=BJ X G y1
 have M2:=BJ X G y2
 have M3:=BJ X G y3
 have M4:=BJ X G y4
 have M5:=BJ X G y5
 have M6:=BJ X G y6
 have M7:=BJ X G y7
 have M8:=BJ X G y8
 have M9:=BJ X G y9
 have M10:=BJ X G y10
 have M11:=BJ X G y11
 have M12:=BJ X G y12
 have M13:=BJ X G y13
 have T6:=t6.told (x := "Uneven") (by decide) CP.some
 have XC:XCls K d6 fI:=⟨⟨T6.k,CP.st,sa6⟩,⟨CP.j,fI1,kC6⟩,p1,p2⟩
 have UC:UCls K [d0,d1,d2,d3,d4,d5,d6,d7,d8,d9,d10,d11,d12] d6:=⟨T6.k,T6.v,T6.s,hd6,p1,p2⟩
 have FI:=afo_ (st:=vu_) lI cI kI
 have bI:=FI.binds (ps:=vE_) λ_ _ _ _ _ _=>of3 λ_ _ _=>rfl
 have OI:=amh_ (P:=l.prog) (w:=w) (base:=base) FI M13 ⟨bi1,bi2,bi3⟩ XC
 have G1:=HasX.mk f1 e1 (ak2_ (P:=l.prog) (w:=w) (base:=base) F1 c_MOST_UNKNOWNS ⟨M0,x0⟩) (F1.binds λ_ _ _ _ _ _=>of1 λ_=>rfl) k1 A1
 have G2:=Has.mk f2 e2 (ak4_ (P:=l.prog) (w:=w) (base:=base) F2 m_sorted) (F2.binds λ_ _ _ _ _ _=>of1 λ_=>rfl) k2 A2
 have G3:=Has.mk f3 e3 (ake_ F3 (G2.lift (by decide))) (F3.binds λ_ _ _ _ _ _=>of2 λ_ _=>rfl) k3 A3
 have G5:=Has.mk f5 e5 (aj9_ (P:=l.prog) (w:=w) (mg:=mg) (base:=base) F5) (F5.binds λ_ _ _ _ _ _=>of2 λ_ _=>rfl) k5 A5
 have G6:=Has.mk f6 e6 (akx_ F6 (G2.ok) G2.bd G2.kp G2.at_ (G5.ok) G5.bd G5.kp G5.at_) (F6.binds λ_ _ _ _ _ _=>of2 λ_ _=>rfl) k6 A6
 have G7:=Has.mk f7 e7 (al9_ (P:=l.prog) (w:=w) (base:=base) F7 c_MOST_TOGETHER m_any m_zip m_sum) (F7.binds λ_ _ _ _ _ _=>of1 λ_=>rfl) k7 A7
 have C0:=Has.mk f1 e1 (anf_ (P:=l.prog) (w:=w) (base:=base) F1 c_MOST_UNKNOWNS) (F1.binds λ_ _ _ _ _ _=>of1 λ_=>rfl) k1 A1
 have G4:=Has.mk f4 e4 (al3_ F4 (G2.lift (by decide)) m_tuple m_zip) (F4.binds λ_ _ _ _ _ _=>of2 λ_ _=>rfl) k4 A4
 have G8:=HasX.mk f8 e8 (aqy_ F8 (G1.lift (by decide)) (G3.lift (by decide)) (G6.lift (by decide)) m_range) (F8.binds λ_ _ _ _ _ _=>of2 λ_ _=>rfl) k8 A8
 have G9:=HasX.mk f9 e9 (aqo_ F9 (G8.lift (by decide)) (OI.mono (by decide)) bI XC M6) (F9.binds λ_ _ _ _ _ _=>of2 λ_ _=>rfl) k9 A9
 have G10:=Has.mk f10 e10 (aqf_ (P:=l.prog) (w:=w) (base:=base) F10 m_tuple m_sorted) (F10.binds λ_ _ _ _ _ _=>of1 λ_=>rfl) k10 A10
 have G11:=Has.mk f11 e11 (aow_ (P:=l.prog) (w:=w) (base:=base) F11 m_tuple) (F11.binds λ_ _ _ _ _ _=>of1 λ_=>rfl) k11 A11
 have G12:=Has.mk f12 e12 (al8_ F12 (G4.lift (by decide))) (F12.binds λ_ _ _ _ _ _=>of2 λ_ _=>rfl) k12 A12
 have G13:=Has.mk f13 e13 (aqs_ (P:=l.prog) (w:=w) (base:=base) F13 m_range m_max) (F13.binds λ_ _ _ _ _ _=>of2 λ_ _=>rfl) k13 A13
 have G14:=Has.mk f14 e14 (ap3_ (P:=l.prog) (w:=w) (base:=base) F14 m_len m_tuple) (F14.binds λ_ _ _ _ _ _=>of3 λ_ _ _=>rfl) k14 A14
 have G15:=Has.mk f15 e15 (ap8_ F15 (G13.lift (by decide)) (G14.lift (by decide))) (F15.binds λ_ _ _ _ _ _=>of4 λ_ _ _ _=>rfl) k15 A15
 have G16:=Has.mk f16 e16 (amq_ F16 (G7.lift (by decide)) (C0.lift (by decide)) (G15.lift (by decide)) m_len) (F16.binds λ_ _ _ _ _ _=>of2 λ_ _=>rfl) k16 A16
 have G17:=Has.mk f17 e17 (aqu_ (P:=l.prog) (w:=w) (base:=base) F17 m_tuple m_sum m_range) (F17.binds λ_ _ _ _ _ _=>of2 λ_ _=>rfl) k17 A17
 have G18:=Has.mk f18 e18 (aqg_ F18 (G2.lift (by decide)) (G17.lift (by decide)) (G16.lift (by decide))) (F18.binds λ_ _ _ _ _ _=>of2 λ_ _=>rfl) k18 A18
 have G19:=Has.mk f19 e19 (apy_ (P:=l.prog) (w:=w) (mg:=mg) (base:=base) F19) (F19.binds λ_ _ _ _ _ _=>of2 λ_ _=>rfl) k19 A19
 have G20:=Has.mk f20 e20 (apz_ F20 (G19.lift (by decide)) (G12.lift (by decide)) m_range) (F20.binds λ_ _ _ _ _ _=>of1 λ_=>rfl) k20 A20
 have G21:=HasX.mk f21 e21 (ao7_ F21 (G9.lift (by decide)) (G4.lift (by decide)) (G20.lift (by decide)) (G10.lift (by decide)) (G11.lift (by decide)) m_tuple m_enumerate) (F21.binds λ_ _ _ _ _ _=>of2 λ_ _=>rfl) k21 A21
 have G22:=Has.mk f22 e22 (ahw_ (P:=l.prog) (w:=w) (base:=base) F22 m_isinstance m_int m_bool) (F22.binds λ_ _ _ _ _ _=>of1 λ_=>rfl) k22 A22
 have G23:=Has.mk f23 e23 (aiz_ (P:=l.prog) (w:=w) (base:=base) F23 m_isinstance M0 M1 M2 M3 M4 M5 M6 M7 M8 M9 M10 M11 M12) (F23.binds λ_ _ _ _ _ _=>of1 λ_=>rfl) k23 A23
 have G24:=Has.mk f24 e24 (akm_ F24 (G23.lift (by decide)) m_isinstance m_ValueError) (F24.binds λ_ _ _ _ _ _=>of2 λ_ _=>rfl) k24 A24
 have G25:=Has.mk f25 e25 (alh_ (P:=l.prog) (w:=w) (base:=base) F25 m_len) (F25.binds λ_ _ _ _ _ _=>of2 λ_ _=>rfl) k25 A25
 have G26:=Has.mk f26 e26 (ah3_ (P:=l.prog) (w:=w) (mg:=mg) (base:=base) F26) (F26.binds λ_ _ _ _ _ _=>of3 λ_ _ _=>rfl) k26 A26
 have G27:=Has.mk f27 e27 (an9_ (P:=l.prog) (w:=w) (mg:=mg) (base:=base) F27) (F27.binds λ_ _ _ _ _ _=>of1 λ_=>rfl) k27 A27
 have G28:=Has.mk f28 e28 (any_ F28 (G26.ok) G26.bd G26.kp G26.at_ m_range m_tuple) (F28.binds λ_ _ _ _ _ _=>of4 λ_ _ _ _=>rfl) k28 A28
 have G29:=Has.mk f29 e29 (ang_ (P:=l.prog) (w:=w) (base:=base) F29 m_sorted) (F29.binds λ_ _ _ _ _ _=>of1 λ_=>rfl) k29 A29
 have G30:=Has.mk f30 e30 (alo_ F30 (G22.ok) G22.bd G22.kp G22.at_ m_isinstance m_list m_tuple m_len m_zip m_all) (F30.binds λ_ _ _ _ _ _=>of2 λ_ _=>rfl) k30 A30
 have G31:=Has.mk f31 e31 (alx_ (P:=l.prog) (w:=w) (base:=base) F31 m_list m_range m_len) (F31.binds λ_ _ _ _ _ _=>of1 λ_=>rfl) k31 A31
 have G32:=Has.mk f32 e32 (amo_ (P:=l.prog) (w:=w) (base:=base) F32 m_tuple m_sorted) (F32.binds λ_ _ _ _ _ _=>of1 λ_=>rfl) k32 A32
 have G33:=Has.mk f33 e33 (ale_ F33 (G29.lift (by decide)) (G32.lift (by decide)) (G28.lift (by decide)) (G27.lift (by decide))) (F33.binds λ_ _ _ _ _ _=>of3 λ_ _ _=>rfl) k33 A33
 have G34:=Has.mk f34 e34 (ald_ F34 (G31.lift (by decide)) (G29.lift (by decide)) m_list m_len) (F34.binds λ_ _ _ _ _ _=>of2 λ_ _=>rfl) k34 A34
 have G38:=Has.mk f38 e38 (aml_ F38 (G29.lift (by decide)) m_range m_list) (F38.binds λ_ _ _ _ _ _=>of2 λ_ _=>rfl) k38 A38
 have G35:=Has.mk f35 e35 (aky_ F35 (G29.lift (by decide)) m_tuple m_zip) (F35.binds λ_ _ _ _ _ _=>of2 λ_ _=>rfl) k35 A35
 have G36:=Has.mk f36 e36 (aqw_ (P:=l.prog) (w:=w) (base:=base) F36 m_range m_len) (F36.binds λ_ _ _ _ _ _=>of1 λ_=>rfl) k36 A36
 have G37:=Has.mk f37 e37 (aqx_ F37 (G29.lift (by decide)) (G36.lift (by decide)) m_enumerate m_list m_len m_tuple) (F37.binds λ_ _ _ _ _ _=>of2 λ_ _=>rfl) k37 A37
 have G40:=Has.mk f40 e40 (aon_ F40 (G35.lift (by decide)) (G37.lift (by decide)) m_range m_all m_tuple m_sorted) (F40.binds λ_ _ _ _ _ _=>of2 λ_ _=>rfl) k40 A40
 have G41:=Has.mk f41 e41 (ah6_ F41 (G21.lift (by decide)) M13 wE ⟨t0.w,t0.n⟩ ⟨t6.w,t6.n⟩) (F41.binds λ_ _ _ _ _ _=>of2 λ_ _=>rfl) k41 A41
 have G39:=Has.mk f39 e39 (aot_ F39 (G24.lift (by decide)) (G22.lift (by decide)) UC m_isinstance m_tuple m_all) (F39.binds λ_ _ _ _ _ _=>of2 λ_ _=>rfl) k39 A39
 have G42:=Has.mk f42 e42 (aj6_ F42 (G41.lift (by decide)) (G38.lift (by decide)) (G39.lift (by decide)) (G30.lift (by decide)) (G18.lift (by decide)) (G29.lift (by decide)) (G21.lift (by decide)) (G40.lift (by decide)) m_list) (F42.binds λ_ _ _ _ _ _=>of2 λ_ _=>rfl) k42 A42
 exact anr_ F43 (G25.lift (by decide)) (G34.lift (by decide)) (G33.lift (by decide)) (G29.lift (by decide)) (G26.lift (by decide)) (G42.lift (by decide)) (G41.lift (by decide)) (G24.lift (by decide)) T0 m_len m_int
theorem walk{l:PySem.W.OpenLaw}{q:Program}{loose:List Str}{XP:(Str->Option Value)->Heap->Prop}{YP:World->Heap->Prop}{d:DefRec}{K:Params->PySem.W.Frag}(hn:l.most=some 63)(hdf:d.params.defaults=[])
  (hY:∀(w:World)(h:Heap),YP w h->(K w.params).In h)
  (F:∀(w:World)(mg:Str->Option Value)(fa:Addr)(h:Heap),(K w.params).In h->h.Ns mainGlobals mg->mg d.name=some (.ref fa) ->
   ∃fd:FuncData,(∀(s:Shared)(u:Value),BindsTo s fd ⟨[u],[]⟩ [("_law_script",u)])/\∀base:Heap,(K w.params).In base->base.Ns mainGlobals mg->FnOk l.prog w (K w.params) mg base CX0 13 fa fd ["_law_script"] (aav_ (K w.params))) :
  PySem.W.WalkO q loose XP YP l.row.toRowW d [] (λf vs=>PySem.call f vs) :=
 L2.walk_of (n:=63) (k:=13) (x := "_law_script") (CX:=λ_=>CX0) (sp:=λw=>aav_ (K w.params)) hn (by decide) hdf ⟨rfl,by decide,by decide⟩ hY F (λ_ _ a ns hl _ hS=>⟨a,ns,rfl,hS,hl,λ_=>rfl⟩) λ_ _ _ _ _ z=>z
end L2.K53
namespace PySem.W.Fast
def tw10005495833870893155:=0
def tw10007582209114460486:=0
def tw10039219306724062759:=0
def tw10088563433470596513:=0
def tw10121174301375710273:=0
def tw10180603471173419655:=0
def tw10205630810308508355:=0
def tw10206235116763336478:=0
def tw10222366192064838847:=0
def tw1023668731423318330:=0
def tw10241830359300476115:=0
def tw10246386422081200279:=0
def tw10320038073075536910:=0
def tw10342087965238336647:=0
def tw10432880699744894084:=0
def tw10490686369433144751:=0
def tw10513167864988569430:=0
def tw10548859811307266254:=0
def tw10562827776737677960:=0
def tw106343476168451782:=0
def tw10669844118439756197:=0
def tw10700972867275067252:=0
def tw10774100887154401625:=0
def tw10823010464993703694:=0
def tw10859823040935734576:=0
def tw1089129987385355639:=0
def tw10984106020425561588:=0
def tw10985513028326044668:=0
def tw11008252417793343424:=0
def tw11048899806246251854:=0
def tw11089616048573923732:=0
def tw11217390175392690912:=0
def tw11253461462208450297:=0
def tw1130714650009192745:=0
def tw11309644256150895625:=0
def tw11315698160549282361:=0
def tw11338942906923871220:=0
def tw11393923014389926553:=0
def tw11398121779233278628:=0
def tw11404146186314017596:=0
def tw11416479598889856772:=0
def tw1143899568386529689:=0
def tw11451415352246805696:=0
def tw11464974975682826789:=0
def tw11536583505167636694:=0
def tw11619226876981982826:=0
def tw11630487222418224143:=0
def tw11641671075905708184:=0
def tw11643657280766332026:=0
def tw11652694308012669713:=0
def tw11725557410242326468:=0
def tw11784515863891976131:=0
def tw11802785702886692080:=0
def tw11845173498114224143:=0
def tw11860176897901832928:=0
def tw11880186478599328006:=0
def tw11906031230200137530:=0
def tw12046798565766596238:=0
def tw12051931267055587570:=0
def tw12052716860524811621:=0
def tw12061046081644294740:=0
def tw12083744025137210297:=0
def tw12088676542952127554:=0
def tw12098773565848816231:=0
def tw12117107275449038469:=0
def tw12117138722147609359:=0
def tw12127993658661422494:=0
def tw12167548135410495941:=0
def tw12172488020038787258:=0
def tw12195921134510390848:=0
def tw12243995148570966214:=0
def tw1232691889708806149:=0
def tw12342486409968975709:=0
def tw12482811523069584537:=0
def tw12507753194179948599:=0
def tw12618518507509265945:=0
def tw12629379799101390420:=0
def tw12681049720262077928:=0
def tw12704243186576247020:=0
def tw12838265588219696574:=0
def tw12847967665952421713:=0
def tw12927874742778078387:=0
def tw12963979068529372059:=0
def tw12967484378101658806:=0
def tw1312138159247839783:=0
def tw13149504718271308706:=0
def tw1315676737295758065:=0
def tw13183114447462152542:=0
def tw13226306547963422967:=0
def tw13316245989757732947:=0
def tw13359336132739967144:=0
def tw13366428588171523180:=0
def tw13417153576940223273:=0
def tw13434235568582417470:=0
def tw13506468682777610527:=0
def tw13517457069170151327:=0
def tw13538109667287017355:=0
def tw13584597991317231168:=0
def tw1358644299136449385:=0
def tw13643350772500599365:=0
def tw1365641464045412625:=0
def tw13660808500835935499:=0
def tw13670322811754224313:=0
def tw13732890376416420141:=0
def tw13740489505275073862:=0
def tw13764824646184615408:=0
def tw13765656513343249866:=0
def tw13822701484449790348:=0
def tw13827026395281298721:=0
def tw13831170763704283571:=0
def tw13866029807958161667:=0
def tw13946459946268390304:=0
def tw14065749979686975607:=0
def tw14077824231133245144:=0
def tw14087097170418552657:=0
def tw14141205142966783170:=0
def tw14143648046330408643:=0
def tw14163508099852477657:=0
def tw14251864774665602035:=0
def tw14308807142261351789:=0
def tw1431180700171973279:=0
def tw14363885371080161115:=0
def tw14399120826185557823:=0
def tw14434524488845504885:=0
def tw14452036870095596086:=0
def tw14513903924554389455:=0
def tw14518150859415384288:=0
def tw14538915415078569588:=0
def tw14603543767238550641:=0
def tw14620862319148437660:=0
def tw1462590939664276060:=0
def tw14677522205775328789:=0
def tw14686696876740900123:=0
def tw14695607863565793272:=0
def tw14712356770790809978:=0
def tw14794905029663513032:=0
def tw14812744221352947313:=0
def tw14813860545038841396:=0
def tw14818033023328696618:=0
def tw14974781905475827975:=0
def tw14980140538859895112:=0
def tw15029698068329168397:=0
def tw15052958673923140313:=0
def tw15066798826663416118:=0
def tw15069368278123525612:=0
def tw15112193831026393289:=0
def tw15126208672272901233:=0
def tw15127835212536943184:=0
def tw15140554975543466072:=0
def tw15222684962819394234:=0
def tw15254441949670509794:=0
def tw15291439822261677137:=0
def tw1533121238622200892:=0
def tw15376015115897068314:=0
def tw15405639176778228957:=0
def tw15472660741059570236:=0
def tw15512679403178136134:=0
def tw15574390257180619227:=0
def tw15579766864296750139:=0
def tw15741654565654105228:=0
def tw15781677787251132503:=0
def tw1582738800467060215:=0
def tw15834187719307435520:=0
def tw15878718963682060945:=0
def tw1593393656724510316:=0
def tw15983858502748313191:=0
def tw16009906579556559256:=0
def tw16031674535953408777:=0
def tw16038462235866802959:=0
def tw16099941041647607684:=0
def tw16161994859294261784:=0
def tw16206311728760848627:=0
def tw16226028267674066651:=0
def tw1622970951033863332:=0
def tw16349164070455265081:=0
def tw16351745414513554315:=0
def tw1638632687823157420:=0
def tw16391301230104396335:=0
def tw16394749667734985535:=0
def tw16459341458621141758:=0
def tw16484597018758043879:=0
def tw16487821179059438363:=0
def tw16512213581491912229:=0
def tw16542749337431290479:=0
def tw16554000586058303334:=0
def tw1665895646864586360:=0
def tw1666165964501830140:=0
def tw16704668547130593942:=0
def tw16712365343325473824:=0
def tw16785048553514675861:=0
def tw16836373125149908400:=0
def tw16847655707622395860:=0
def tw1687988892166510527:=0
def tw16966115144875162227:=0
def tw17014191193603048278:=0
def tw17070210385996274916:=0
def tw17158828864876963343:=0
def tw1716251235117098617:=0
def tw17175983325872200092:=0
def tw1720175513760986388:=0
def tw17217750859630868644:=0
def tw17230830276069442358:=0
def tw17242682457604114230:=0
def tw17248160916948202331:=0
def tw17251680762115652594:=0
def tw17340089999092378929:=0
def tw17340910750486919879:=0
def tw17441453233792553933:=0
def tw17588982355892698215:=0
def tw17626965862315001234:=0
def tw1766116497779469881:=0
def tw1769885905158572800:=0
def tw177596309558340656:=0
def tw17808396602611326271:=0
def tw17810507625389833893:=0
def tw17839505096236491839:=0
def tw17924594956114039002:=0
def tw17927460066929083829:=0
def tw17999043782632567720:=0
def tw18006816759910664794:=0
def tw18028201244707673508:=0
def tw18041711706707752273:=0
def tw18076333283505073748:=0
def tw18150374714413772157:=0
def tw18154432941876294782:=0
def tw18181238128939175882:=0
def tw18220930716092253327:=0
def tw18224125422933897623:=0
def tw18273339288769872935:=0
def tw18287904158354828758:=0
def tw18313925809725363105:=0
def tw18353097194208596737:=0
def tw18374668654289325970:=0
def tw18404786658847473951:=0
def tw18435935511946332232:=0
def tw18445342208921687786:=0
def tw1887415320291191166:=0
def tw1893422596208935481:=0
def tw1895306714112755579:=0
def tw1989479234946711252:=0
def tw2001534539270217468:=0
def tw2048965333774709755:=0
def tw2069536561876437781:=0
def tw2081032618793337648:=0
def tw2133188274331592760:=0
def tw2171178499591464850:=0
def tw217831218869809827:=0
def tw2179666599192461872:=0
def tw22311512375923414:=0
def tw2273556846081573097:=0
def tw2279384234975920474:=0
def tw2368560436132839727:=0
def tw238931474017951121:=0
def tw2403529687834252336:=0
def tw2419878763732086456:=0
def tw2422726671719620152:=0
def tw2442206627725773188:=0
def tw2471023738789897505:=0
def tw250727769704947906:=0
def tw2524015200601213362:=0
def tw2561683168614028232:=0
def tw2615273699551423461:=0
def tw2632387596609385296:=0
def tw2675776133091428806:=0
def tw2676772790595026124:=0
def tw2684567603574447334:=0
def tw2791369320517135461:=0
def tw2793109396187700625:=0
def tw2815554545872589526:=0
def tw2837753312864581632:=0
def tw2876995983503069219:=0
def tw2887086542723420024:=0
def tw2911809431351569547:=0
def tw2965988319931593227:=0
def tw3000102513823875306:=0
def tw3083278455495329208:=0
def tw3101513519718965692:=0
def tw312980011519655979:=0
def tw3164084580148193534:=0
def tw3171157452740787933:=0
def tw3181405311590858020:=0
def tw3195457922728356095:=0
def tw324235610709960165:=0
def tw3255948061414706497:=0
def tw3277923548097067421:=0
def tw3331689702491970051:=0
def tw3453329707344306896:=0
def tw3483005584570341459:=0
def tw3499830685474906183:=0
def tw354300837808143449:=0
def tw3578465317613383012:=0
def tw3637037625922746043:=0
def tw3648909565682760401:=0
def tw3656741455428432080:=0
def tw365770085895035646:=0
def tw3659322363412539623:=0
def tw367286875514883081:=0
def tw3699296923250088001:=0
def tw372143144084840476:=0
def tw3763815033339096392:=0
def tw3831530650828370925:=0
def tw3831595191254075862:=0
def tw3873920553869722118:=0
def tw3886507417448336189:=0
def tw3891536487825885985:=0
def tw3925485578190151220:=0
def tw3941679632121780225:=0
def tw3964033931724850617:=0
def tw3983341534249054063:=0
def tw4011886712891996250:=0
def tw4042821954726850039:=0
def tw4074035025764962193:=0
def tw40819851495970309:=0
def tw4101249379083492132:=0
def tw4149907632063427112:=0
def tw4171607181905563361:=0
def tw4173021856992070248:=0
def tw4183044106746036122:=0
def tw4184918325293453802:=0
def tw4225535824338118929:=0
def tw4226803988069031577:=0
def tw4306144120790660090:=0
def tw4376856671715710720:=0
def tw438639070147636055:=0
def tw4389351082304832991:=0
def tw443510244360331953:=0
def tw4447356853103091365:=0
def tw4448506330929139658:=0
def tw4454328218068845495:=0
def tw4481950082466167913:=0
def tw4508898899905652438:=0
def tw450949002426737504:=0
def tw4557007907788439423:=0
def tw4793705926107301375:=0
def tw4802990665833587807:=0
def tw4809885857000596759:=0
def tw484947647701214371:=0
def tw4907974574830782346:=0
def tw497044959219538695:=0
def tw4977593149487193184:=0
def tw500980388427798278:=0
def tw5020866888316329703:=0
def tw5115930187230972594:=0
def tw5131751710552748585:=0
def tw5138599821748871434:=0
def tw5147283557955234084:=0
def tw5150110203429479333:=0
def tw5198378112351577177:=0
def tw5220852642448777723:=0
def tw5252709384193548259:=0
def tw5271266866251725636:=0
def tw5302234462555970065:=0
def tw5304007590572231697:=0
def tw5390350618421988100:=0
def tw539732245148061088:=0
def tw5411661486798157803:=0
def tw5446937691837526181:=0
def tw5490217431165764956:=0
def tw5510241336032824677:=0
def tw5562949201972950497:=0
def tw5593660385052837309:=0
def tw5602349499997551225:=0
def tw5665024929944414686:=0
def tw5726530347122974080:=0
def tw5749100223935151881:=0
def tw5783107742922456244:=0
def tw5793257692900306182:=0
def tw582145943135900837:=0
def tw5859061443143824979:=0
def tw5878631986732530885:=0
def tw5902217405950284300:=0
def tw5910968483029455994:=0
def tw5943497706455635052:=0
def tw5971018588840043683:=0
def tw597769702139205550:=0
def tw6056269161117873855:=0
def tw6115424211422664964:=0
def tw6116215536032830974:=0
def tw6195763081257316418:=0
def tw6428845084882022932:=0
def tw6469009023594544895:=0
def tw6502381616203967435:=0
def tw6530906893778342065:=0
def tw6578876415702903375:=0
def tw6674456475837513122:=0
def tw6686813275412652592:=0
def tw6702576483259856356:=0
def tw6740072603098336805:=0
def tw6746458074949269548:=0
def tw6791768491583519428:=0
def tw6825195973627495924:=0
def tw6873299441383413746:=0
def tw6881876462647271091:=0
def tw6902821109425216777:=0
def tw7042946178923307546:=0
def tw7063149310608715838:=0
def tw7077976037608292907:=0
def tw7093090841776151856:=0
def tw7254063911193598585:=0
def tw7257596109675875800:=0
def tw7336809637184334010:=0
def tw734992514144430319:=0
def tw7496724365365619231:=0
def tw7536339379166321006:=0
def tw7602993101477866744:=0
def tw7652577690848332857:=0
def tw7673070031240736286:=0
def tw7687819572905524450:=0
def tw7694227211579358373:=0
def tw7721577330678366689:=0
def tw7751691040019322133:=0
def tw7763670963499781886:=0
def tw7797113990507001354:=0
def tw7811018447711668676:=0
def tw7903604857857045503:=0
def tw7922745814293778323:=0
def tw7953088537137561319:=0
def tw7994822274254155226:=0
def tw8040659537990009175:=0
def tw8045235405896770818:=0
def tw8143263833627806280:=0
def tw8143653409158126209:=0
def tw8198026016483296397:=0
def tw823148370025582826:=0
def tw8243888841395278699:=0
def tw836160459013043137:=0
def tw8389771666529763913:=0
def tw8460710185361193824:=0
def tw8582428976317673371:=0
def tw86457074189006553:=0
def tw8651135326653428318:=0
def tw8673782790515790207:=0
def tw8678649004164656527:=0
def tw8807601587105195080:=0
def tw886333804074080201:=0
def tw8918802118656693151:=0
def tw8926005069637353817:=0
def tw8997281641500566317:=0
def tw9019676153648533168:=0
def tw9059638790511405682:=0
def tw9072322024907595021:=0
def tw9149184895750373104:=0
def tw9172770176980974895:=0
def tw9188619484488212002:=0
def tw9241266736533620463:=0
def tw9288915237585206780:=0
def tw9338801754932005311:=0
def tw9342240172925147444:=0
def tw941181386610189708:=0
def tw941830121792277890:=0
def tw9456611574278976277:=0
def tw9517144965820832119:=0
def tw9518275337743456878:=0
def tw956403058556405773:=0
def tw959397392796499111:=0
def tw9607491063558701640:=0
def tw9871653437259107325:=0
def tw9895807805746995865:=0
def tw9915686470164642068:=0
def tw9924663687206496534:=0
def tw9944433919206619003:=0
def tw9947481082252715135:=0
def tw9955237236194878271:=0
def tw9959061366312331994:=0
def tw9984407708355729316:=0
end PySem.W.Fast
open PySem PySem.W PyProof.Rows
set_option maxRecDepth 100000 in
set_option maxHeartbeats 0 in
theorem PySem.Challenge.cw_evenform_k53_whole_tellings_by_fillings_holds : PySem.Challenge.rw_evenform_k53_whole_tellings_by_fillings.Holds := by
  w_on; o_law; k_head; (case hw => w_witness2)
  k_fill
  refine L2.K53.walk (l := PySem.Challenge.rw_evenform_k53_whole_tellings_by_fillings) rfl rfl (fun w h Y => PySem.W.kIn_of Y) ?F
  case F =>
    intro w mg fa h KX G hmg
    refine' L2.K53.all_mk KX G hmg ?q1 ?q2 ?q3 ?q4 ?q5 ?q6 ?q7 ?q8 ?q9 ?q10 ?q11 ?q12 ?q13 ?q14 ?q15 ?q16 ?q17 ?q18 ?q19 ?q20 ?q21 ?q22 ?q23 ?q24 ?q25 ?q26 ?q27 ?q28 ?q29 ?q30 ?q31 ?q32 ?q33 ?q34 ?q35 ?q36 ?q37 ?q38 ?q39 ?q40 ?q41 ?q42 ?q43 ?g1 ?g2 ?y0 ?y1 ?y2 ?y3 ?y4 ?y5 ?y6 ?y7 ?y8 ?y9 ?y10 ?y11 ?y12 ?y13 ?x0 ?t0 ?t6 ?wE ?aI ?lI ?cI ?kI ?CP ?fI1 ?kC6 ?sa6 ?p1 ?p2 ?hd6 ?bi1 ?bi2 ?bi3 ?z1 ?z2 ?z3 ?z4 ?z5 ?z6 ?z7 ?z8 ?z9 ?z10 ?z11 ?z12 ?z13 ?z14 ?z15
    all_goals try (refine' L2.K53.fq_mk ?a ?l ?c ?k; (case a => k_is); (case l => k_is); (case c => k_is); (case k => k_is))
    (case g1 => k_is)
    (case g2 => k_is)
    (case y0 => k_is)
    (case y1 => k_is)
    (case y2 => k_is)
    (case y3 => k_is)
    (case y4 => k_is)
    (case y5 => k_is)
    (case y6 => k_is)
    (case y7 => k_is)
    (case y8 => k_is)
    (case y9 => k_is)
    (case y10 => k_is)
    (case y11 => k_is)
    (case y12 => k_is)
    (case y13 => k_is)
    (case x0 => k_exc)
    (case t0 => constructor; (case a => k_is); (case b => k_is); (case c => k_is); (case d => k_is); (case e => k_is); (case v => kit_is); (case w => kit_is); (case n => decide); (case s => (repeat (refine .cons (by kit_is) ?_)); exact .nil))
    (case t6 => constructor; (case a => k_is); (case b => k_is); (case c => k_is); (case d => k_is); (case e => k_is); (case v => kit_is); (case w => kit_is); (case n => decide); (case s => (repeat (refine .cons (by kit_is) ?_)); exact .nil))
    (case wE => kit_is)
    (case aI => k_is)
    (case lI => k_is)
    (case cI => k_is)
    (case kI => k_is)
    (case CP => constructor; (case l => k_is); (case m => rfl); (case g => exact ⟨rfl, rfl⟩); (case s => first | decide | rfl); (case d => k_is); (case k => rfl); (case i => k_is); (case b => k_exc))
    (case fI1 => k_is)
    (case kC6 => k_is)
    (case sa6 => k_is)
    (case p1 => k_is)
    (case p2 => k_is)
    (case hd6 => k_is)
    (case bi1 => k_is)
    (case bi2 => k_is)
    (case bi3 => k_is)
    all_goals k_is
