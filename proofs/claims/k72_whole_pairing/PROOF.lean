import PyProof.Rows.All
import Wide.All
import OpenK.AllK
import Wide.FinOn
import Lean
import PyProof.EqAt
import PyProof.EqKinds
import PyProof.TupleCall
import PyProof.Rows.SortRuns
import PyProof.DictItems
import PyProof.DictWalks
import PyProof.CollectIter
import PyProof.Rows.SortRev
import KE.KSortTup
import KE.KDictList
import OpenK.KOwn
import PyProof.NsDelKeeps
import PyProof.RulesAs
import KE.KIsAll
import PyProof.ExcArgsOwn
import KE.KMinBuiltin
import PyProof.Draws
import PyProof.EnumMake
import PyProof.Rows.EnumRows
import PyProof.ListMulRoad
import PyProof.EqAt
import KE.KDictOf
import PyProof.AttrMissHeap
import PyProof.Seq
import KE.KSortTup
import KE.KDictList
import KE.KItemsList
import PyProof.Rows.SortRev
import PyProof.DictItems
import PyProof.DictWalks
import PyProof.CollectIter
import PySem.Challenge.RW_evenform_k72_whole_pairing
set_option Elab.async false
set_option linter.all false
def AA:=@List.length_map
def AB:=@PySem.Heap.get?_push_of_some
def AC:=@List.mem_cons_of_mem
def AD:=@List.mem_cons_self
def AE:=@List.length_append
def AF:=@Nat.le_refl
def AG:=@Array.getElem?_eq_getElem
def AH:=@Bool.and_eq_true
def AI:=@PySem.Heap.get?_push_size
def AJ:=@List.getElem?_eq_getElem
def AK:=@PySem.Heap.lt_size
def AL:=@List.mem_cons
def AM:=@Array.length_toList
def AN:=@List.all_eq_true
def AO:=@List.getD_eq_getElem?_getD
def AQ:=@PySem.Paired.length
def AR:=@List.mem_map
def AS:=@Bool.false_ne_true
def AT:=@List.mem_singleton
def AU:=@List.take_of_length_le
def AV:=@List.getElem?_map
def AW:=@List.length_take
def AX:=@List.getElem?_eq_some_iff
def AY:=@List.append_assoc
def AZ:=@Option.some.inj
def Aa:=@List.size_toArray
def Ab:=@Nat.ne_of_lt
def Ac:=@Nat.le_trans
def Ad:=@List.sum_cons
def Ae:=@List.map_cons
def Af:=@List.mem_append_right
def Ag:=@List.mem_of_getElem?
def Ah:=@List.pairwise_cons
def Ai:=@List.mem_append
def Aj:=@List.map_append
def Al:=@PySem.PassesOwn.never
def Am:=@List.length_cons
def An:=@Nat.zero_le
def Ao:=@Nat.lt_of_lt_of_le
def Ap:=@List.replicate_succ
def Aq:=@List.length_singleton
def Ar:=@List.mem_range
def As:=@List.length_replicate
def At:=@List.mem_append_left
def Au:=@List.length_drop
def Av:=@List.filter_cons
def Aw:=@List.filterMap_eq_map'
def Ax:=@Int.toNat_natCast
def Ay:=@Bool.false_eq_true
def Az:=@PySem.Heap.get?_update_other
def A0:=@List.length_range
def BA:=@Array.getElem?_toList
def BB:=@List.dropLast_concat_getLast
def BC:=@List.mem_of_mem_take
def BD:=@List.lookup_cons
def BE:=@List.mem_flatMap
def BF:=@PySem.F.slot_list_append
def BG:=@PySem.F.type_list_append
def BH:=@PySem.W.mg_none_of
def BI:=@List.take_append_drop
def BJ:=@List.length_eq_zero_iff
def BK:=@PySem.F.plainAttrs_list
def BL:=@PyProof.Rows.boot_tuple
def BM:=@Array.toList_append
def BN:=@Nat.lt_of_le_of_lt
def BO:=@PySem.Heap.size_push
def BP:=@List.append_nil
def BQ:=@List.Perm.append_right
def BR:=@List.mem_filter
def BS:=@List.not_mem_nil
def BU:=@PyProof.Rows.boot_sum
def BV:=@List.flatten_cons
def BW:=@List.flatMap_cons
def BX:=@PyProof.Rows.slot_tuple_getitem
def BY:=@List.foldl_cons
def BZ:=@List.range_succ
def Ba:=@PySem.Around.under_plainId
def Bb:=@List.drop_of_length_le
def Bc:=@List.pairwise_iff_getElem
def Be:=@List.flatMap_append
def Bf:=@Nat.le_of_lt
def Bg:=@List.Perm.append_left
def Bh:=@Nat.min_eq_left
def Bi:=@PyProof.Rows.callWith_type1
def Bj:=@List.take_length
def Bl:=@Nat.lt_irrefl
def Bm:=@Nat.ne_of_gt
def Bn:=@List.any_cons
def Bo:=@Array.getElem?_eq_none
def Bp:=@List.flatMap_singleton
def Bq:=@List.foldl_append
def Br:=@List.filterMap_cons
def Bt:=@List.find?_cons
def Bu:=@List.perm_append_comm
def Bv:=@PySem.F.slot_dict_itemiterator_next
def Bw:=@List.sum_singleton
def Bx:=@Nat.le_succ
def By:=@Int.le_refl
def Bz:=@PySem.F.slot_dict_keyiterator_next
def B0:=@List.pairwise_map
def B1:=@List.sum_append
def B2:=@Nat.add_le_add_left
def B3:=@List.range_succ_eq_map
def B4:=@List.map_map
def B5:=@PySem.Heap.get?_update_self
def B6:=@PySem.boot_len
def B7:=@Array.toList_reverse
def B8:=@Int.zero_add
def B9:=@List.map_congr_left
def CA:=@List.getElem?_range
def CB:=@PySem.F.plain_max_loop
def CC:=@PySem.Paired.snoc
def CD:=@PySem.F.slot_tuple_mul
def CF:=@List.map_nil
def CG:=@Ne.symm
def CH:=@List.nodup_cons
def CI:=@List.length_nil
def CJ:=@List.length_filter_le
def CK:=@List.getElem?_append_right
def CL:=@PySem.F.slot_tuple_iterator_next
def CM:=@List.getElem?_append_left
def CN:=@List.pairwise_append
def CO:=@Nat.mul_le_mul_right
def CP:=@List.take_zero
def CQ:=@List.drop_zero
def CS:=@List.getElem_mem
def CT:=@Nat.le_add_right
def CU:=@Option.bind_some
def CV:=@PySem.mem_of_lookup
def CW:=@List.take_succ_cons
def CY:=@PySem.Heap.SameBut.update
def CZ:=@Int.toNat_of_nonneg
def Ca:=@List.pairwise_singleton
def Cb:=@PySem.F.plain_list_iadd
def Cc:=@List.all_cons
def Cd:=@PySem.Calls.callWith_builtin
def Ce:=@List.zipWith_cons_cons
def Cf:=@Array.toList_push
def Cg:=@List.ext_getElem?
def Ch:=@List.getElem?_eq_none
def Ci:=@List.reverse_reverse
def Cj:=@Nat.pow_le_pow_right
def Ck:=@Nat.min_eq_right
def Cm:=@Array.getElem?_eq_some_iff
def Cn:=@List.map_drop
def Co:=@List.reverse_append
def Cp:=@PySem.SeqAt.EqAt.int_int
def Cq:=@List.zip_cons_cons
def Cr:=@PySem.F.args_tuple_add_2
def Cs:=@Nat.succ_mul
def Ct:=@Nat.mul_comm
def Cu:=@Array.size_setIfInBounds
def Cv:=@PySem.Obj.data_mapFields
def Cw:=@PySem.AutoSeq1.wpAny_loadPart'
def Cy:=@PySem.F.args_tuple_mul_2
def Cz:=@PySem.F.slot_list_getattribute
def C0:=@Nat.mul_le_mul
def C1:=@List.getElem?_replicate
def C2:=@PySem.F.entry_tuple_add
def C3:=@PySem.F.entry_tuple_mul
def C4:=@PySem.F.slot_tuple_add
def C5:=@Int.mul_assoc
def C6:=@PySem.Heap.size_update
def C7:=@PySem.F.slot_dict_get
def C8:=@List.filterMap_append
def C9:=@PySem.F.args_dict_itemiterator_next_1
def DA:=@Bool.eq_iff_iff
def DB:=@PySem.Calls.evalArgs_plain
def DC:=@Bool.or_eq_true
def DD:=@PySem.F.args_dict_keyiterator_next_1
def DE:=@PySem.F.entry_dict_itemiterator_next
def DF:=@PySem.W.kat_nil
def DG:=@List.forIn_cons
def DH:=@PySem.F.slot_zip_next
def DI:=@PySem.F.entry_dict_keyiterator_next
def DJ:=@PyProof.Rows.lt_int
def DK:=@List.mergeSort_perm
def DL:=@PySem.F.args_tuple_iterator_next_1
def DM:=@Int.add_mul
def DN:=@PySem.Calls.spliced_cons
def DO:=@Array.size_extract
def DP:=@List.getElem?_drop
def DQ:=@PySem.F.entry_proto_collect
def DR:=@PySem.F.plain_proto_collect
def DS:=@PySem.F.entry_tuple_iterator_next
def DT:=@Int.emod_lt_of_pos
def DU:=@List.mem_replicate
def DV:=@PySem.Calls.Name_function_global
def DW:=@Array.perm_iff_toList_perm
def DX:=@Nat.mul_lt_mul_of_pos_left
def DY:=@List.map_take
def DZ:=@PySem.W.mg_of
def Da:=@List.take_sublist
def Db:=@List.reverse_cons
def Dc:=@PySem.SeqAt.RcAt.tuples
def Dd:=@List.drop_eq_getElem_cons
def De:=@List.getElem?_take_of_lt
def Df:=@Prod.ext
def Dg:=@Nat.min_self
def Dh:=@Nat.sub_zero
def Di:=@List.zipIdx_cons
def Dj:=@List.cons_append
def Dk:=@PySem.W.kat_cons
def Dl:=@Option.getD_some
def Dm:=@PySem.F.entry_max_loop
def Dn:=@PySem.F.slot_tuple_count
def Do:=@PySem.F.args_dict_get_3
def Dp:=@PySem.F.plainAttrs_dict
def Dq:=@Nat.add_sub_cancel_left
def Dr:=@PySem.F.entry_list_iadd
def Ds:=@PySem.F.slot_tuple_rmul
def Dt:=@List.pairwise_mergeSort
def Du:=@List.getLast?_singleton
def Dv:=@List.of_mem_zip
def Dw:=@PySem.SeqAt.EqAt.same
def Dx:=@List.nil_append
def Dy:=@PySem.W.kat_yes
def Dz:=@PySem.W.kat_one
def D0:=@Int.emod_nonneg
def D1:=@List.getElem?_set_self
def D3:=@PyProof.noPylong_small
def D4:=@PySem.W.cellsFrom_some
def D5:=@PySem.F.entry_dict_get
def D6:=@Array.getElem?_extract
def D7:=@List.getElem_cons_drop
def D8:=@PySem.F.slot_dict_items_iter
def D9:=@List.map_id
def EA:=@Int.mul_add
def EB:=@Array.size_eq_zero_iff
def EC:=@PyProof.Rows.boot_list
def ED:=@List.filter_eq_nil_iff
def EE:=@Bool.and_false
def EF:=@Array.mem_of_getElem?
def EG:=@List.set_append_right
def EH:=@PySem.Obj.isFreed_of_fields
def EI:=@List.pairwise_and_iff
def EJ:=@PySem.W.kat_no
def EK:=@List.forIn_nil
def EL:=@PySem.F.slot_enumerate_next
def EM:=@PySem.F.slot_int_rmul
def EN:=@PyProof.Rows.boot_any
def EO:=@List.eq_replicate_iff
def EQ:=@List.mem_iff_getElem?
def ER:=@PyProof.Rows.boot_int
def ET:=@List.getElem?_set_ne
def EV:=@Nat.not_lt
def EW:=@List.mem_of_mem_drop
def EX:=@PySem.Walks.list
def EY:=@List.dropLast_concat
def EZ:=@List.getLastD_concat
def Ea:=@List.mem_of_getLast?
def Eb:=@List.getLast?_append
def Ec:=@List.getElem_of_mem
def Ed:=@List.filter_sublist
def Ee:=@List.mem_map_of_mem
def Ef:=@Nat.add_comm
def Eg:=@Bool.true_or
def Eh:=@List.all_map
def Ei:=@Nat.sub_self
def Ej:=@List.any_map
def Ek:=@Int.mul_comm
def El:=@Bool.or_true
def En:=@Nat.pow_add
def Eo:=@Nat.pow_pos
set_option maxRecDepth 100000
namespace L2
open PySem PySem.Spec PyProof.Rows
abbrev Key:=Sum Int Str
def yo_:Key->Value->Bool
 |.inl k,v=>Value.isInt k v
 |.inr x,v=>Value.isStrOf x v
def keyH(w:World):Key->Int
 |.inl k=>hashInt k
 |.inr x=>hashStr w x
theorem zc_:∀{k:Key}{v:Value},yo_ k v=true->(∃i t,k=Sum.inl i/\v=Value.int i t)∨(∃x t,k=Sum.inr x/\v=Value.str x t)
 |.inl i,v,h=>by
  obtain⟨t,e⟩:=Value.isInt_shape (k:=i) (v:=v) h
  exact .inl ⟨i,t,rfl,e⟩
 |.inr x,v,h=>by
  obtain⟨t,e⟩:=Value.isStrOf_shape (x:=x) (v:=v) h
  exact .inr ⟨x,t,rfl,e⟩
theorem ahn_(i:Int)(t:Tok):yo_ (.inl i) (.int i t)=true:=by simp [yo_,Value.isInt]
theorem ahz_(x:Str)(t:Tok):yo_ (.inr x) (.str x t)=true:=by simp [yo_,Value.isStrOf]
theorem aof_(a b:Int):decide ((Sum.inl a:Key)=Sum.inl b)=(a==b):=by
 by_cases e:a=b
 ·subst e;simp
 ·have h:¬ (Sum.inl a:Key)=Sum.inl b:=λq=>e (Sum.inl.inj q)
  rw[decide_eq_false h]
  exact(beq_eq_false_iff_ne.mpr e).symm
theorem aop_(a b:Str):decide ((Sum.inr a:Key)=Sum.inr b)=decide (a=b):=by
 by_cases e:a=b
 ·subst e;simp
 ·have h:¬ (Sum.inr a:Key)=Sum.inr b:=λq=>e (Sum.inr.inj q)
  rw[decide_eq_false h,decide_eq_false e]
theorem ams_(a:Int)(b:Str):decide ((Sum.inl a:Key)=Sum.inr b)=false:=decide_eq_false (λq=>nomatch q)
theorem amm_(a:Str)(b:Int):decide ((Sum.inr a:Key)=Sum.inl b)=false:=decide_eq_false (λq=>nomatch q)
def qF_(prog:Program)(w:World):PySem.KeyKind prog w Key where
 is:=yo_
 hash:=keyH w
 inj:=λv a b ha hb=>by
  rcases zc_ ha with⟨i,t,rfl,rfl⟩|⟨x,t,rfl,rfl⟩
  ·rcases zc_ hb with⟨j,u,rfl,e⟩|⟨y,u,rfl,e⟩
   ·injection e with e1 _;rw[e1]
   ·exact nomatch e
  ·rcases zc_ hb with⟨j,u,rfl,e⟩|⟨y,u,rfl,e⟩
   ·exact nomatch e
   ·injection e with e1 _;rw[e1]
 byValue:=λk v h=>by
  rcases zc_ h with⟨i,t,rfl,rfl⟩|⟨x,t,rfl,rfl⟩<;>rfl
 pyHash:=λhv h=>by
  rcases zc_ hv with⟨i,t,rfl,rfl⟩|⟨x,t,rfl,rfl⟩
  ·exact wpAny_pyHash_int h
  ·exact wpAny_pyHash_str h
 eqBool:=λhu hv h=>by
  rcases zc_ hu with⟨i,t,rfl,rfl⟩|⟨x,t,rfl,rfl⟩
  ·rcases zc_ hv with⟨j,u,rfl,rfl⟩|⟨y,u,rfl,rfl⟩
   ·rw[aof_]at h;exact wpAny_eqBool_int h
   ·rw[ams_]at h;exact SeqAt.EqAt.int_str i t y u _ _ _ _ h
  ·rcases zc_ hv with⟨j,u,rfl,rfl⟩|⟨y,u,rfl,rfl⟩
   ·rw[amm_]at h;exact SeqAt.EqAt.str_int x t j u _ _ _ _ h
   ·rw[aop_]at h;exact wpAny_eqBool_str h
 «strs»:=λk x t v h=>by
  rcases zc_ h with⟨i,u,rfl,e⟩|⟨y,u,rfl,e⟩
  ·exact nomatch e
  ·injection e with e1 _
   subst e1
   cases v<;>rfl
theorem acq_(prog:Program)(w:World)(i:Int)(t:Tok):(qF_ prog w).is (.inl i) (.int i t)=true:=ahn_ i t
theorem acr_(prog:Program)(w:World)(x:Str)(t:Tok):(qF_ prog w).is (.inr x) (.str x t)=true:=ahz_ x t
end L2
namespace L2
open PySem PySem.Spec PyProof.Rows
inductive V where
 |non|bl (b:Bool)|int (i:Int)|str (x:Str)|byt (b:Array UInt8)|flt (b:UInt64)|ref (a:Addr)|ty (n:String)
 deriving DecidableEq
def RelV:V->Value->Prop
 |.non,u=>u=Value.none
 |.bl b,u=>u=Value.bool b
 |.int i,u=>∃t,u=Value.int i t
 |.str x,u=>∃t,u=Value.str x t
 |.byt b,u=>∃t,u=Value.bytes b t
 |.flt b,u=>∃t,u=Value.float b t
 |.ref a,u=>u=Value.ref a
 |.ty n,u=>u=Value.type n
abbrev Vals:List V->List Value->Prop:=Paired RelV
theorem Vals.length{xs:List V}{us:List Value}(r:Vals xs us):xs.length=us.length:=AQ r
theorem Vals.get:∀{xs:List V}{us:List Value}{i:Nat}{x:V},Vals xs us->xs[i]?=some x->∃u,us[i]?=some u/\RelV x u
 |_,_,_,_,.nil,e=>by simp at e
 |_,_,0,_,.cons r _,e=>by simp at e;subst e;exact⟨_,rfl,r⟩
 |_,_,i+1,x,.cons _ t,e=>by
  obtain⟨u,h1,h2⟩:=Vals.get (i:=i) (x:=x) t (by simpa using e)
  exact⟨u,by simpa using h1,h2⟩
theorem Vals.set{x:V}{u:Value}(r:RelV x u):∀{xs:List V}{us:List Value}(i:Nat),Vals xs us->Vals (xs.set i x) (us.set i u)
 |_,_,_,.nil=>.nil
 |_,_,0,.cons _ t=>.cons r t
 |_,_,i+1,.cons q t=>.cons q (Vals.set r i t)
theorem Vals.append:∀{xs ys:List V}{us ws:List Value},Vals xs us->Vals ys ws->Vals (xs++ys) (us++ws)
 |_,_,_,_,.nil,s=>s
 |_,_,_,_,.cons r t,s=>.cons r (Vals.append t s)
theorem Vals.take:∀{xs:List V}{us:List Value}(n:Nat),Vals xs us->Vals (xs.take n) (us.take n)
 |_,_,0,_=>.nil
 |_,_,_+1,.nil=>.nil
 |_,_,n+1,.cons r t=>.cons r (Vals.take n t)
theorem Vals.drop:∀{xs:List V}{us:List Value}(n:Nat),Vals xs us->Vals (xs.drop n) (us.drop n)
 |_,_,0,r=>r
 |_,_,_+1,.nil=>.nil
 |_,_,n+1,.cons _ t=>Vals.drop n t
def RelO:Option V->Option Value->Prop
 |some v,some u=>RelV v u
 |none,none=>True
 |_,_=>False
def KV{κ:Type}:List (κ×V)->List (κ×Value)->Prop:=Paired λ(p:κ×V)(q:κ×Value)=>p.1=q.1/\RelV p.2 q.2
def kV:Key->V
 |.inl i=>.int i
 |.inr x=>.str x
inductive HO where
 |lst (xs:List V)
 |tup (xs:List V)
 |dK (kvs:List (Key×V))|dT (kvs:List (List Key×V))
 |set (S:Int->Bool) (n:Nat)
 |ins (C dx:Addr) (fs:List (Str×V))
 |own (x:Addr)
 |xd (fs:List (Str×V))
 |met (f x:Addr)
 |rng (lo hi:Int)
 |frz (o:Obj) (u:HO)
 |tbl (ps:Array Value)
 |ext (φ:Heap->Prop)
abbrev Hp:=Addr->Option HO
def upd(H:Hp)(a:Addr)(o:HO):Hp:=λb=>if b=a then some o else H b
theorem qc_{H:Hp}{a:Addr}{o:HO}:upd H a o a=some o:=by unfold upd;rw[if_pos rfl]
theorem qk_{H:Hp}{a b:Addr}{o:HO}(h:b≠a):upd H a o b=H b:=by unfold upd;rw[if_neg h]
theorem zH_{H:Hp}{a b:Addr}{o u:HO}(h:H a=some o)(h':H b=some u)(d:o≠u):a≠b:=by
 intro e;subst e;rw[h]at h';exact d (AZ h')
theorem qn_{H:Hp}{a b:Addr}{o:HO}(h:H a=some o)(h':H b=none):a≠b:=by
 intro e;subst e;rw[h]at h';cases h'
def TupN(h:Heap)(a:Addr)(items:Array Value):Prop:=∃o,h.get? a=some o/\o.cls=.type "tuple" /\ ∃n,o.data=.seq items n/\o.dict=none
theorem TupN.tup{h:Heap}{a:Addr}{items:Array Value}(x:TupN h a items):IsTup h a items:=let ⟨o,e,c,n,d,_⟩:=x;⟨o,e,c,n,d⟩
theorem TupN.new(h:Heap)(items:Array Value):TupN (h.push { cls:=.type "tuple",data:=.seq items }) h.objs.size items:=⟨_,AI _ rfl,rfl,0,rfl,rfl⟩
section
variable(P:Program)(w:World)
def ObjOk(H:Hp)(h:Heap)(a:Addr):HO->Prop
 |.lst xs=>xs.length<=sizeLine/\∃(its:List Value)(n:Nat),Vals xs its/\h.get? a=some { cls:=.type "list",data:=.seq its.toArray n }
 |.tup xs=>xs.length<=sizeLine/\∃its:List Value,Vals xs its/\TupN h a its.toArray
 |.dK kvs=>kvs.length<=sizeLine/\(a==sysModules)=false/\∃vs,KV kvs vs/\h.DictOf (qF_ P w) a vs
 |.dT kvs=>kvs.length<=sizeLine/\(a==sysModules)=false/\∃xs:List (List Key×Addr×Value),
   Paired (λ(p:List Key×V)(q:List Key×Addr×Value)=>p.1=q.1/\H q.2.1=some (.tup (p.1.map kV))/\RelV p.2 q.2.2) kvs xs /\
   ∃o es ep,h.get? a=some o/\o.ExactDict/\o.data=.dict es ep/\es.toList=xs.map (entryOfKey (tupleKind (qF_ P w)))/\(xs.map (·.1)).Nodup
 |.set S n=>h.SetOf (intKind P w) a S n
 |.ins C dx fs=>H dx=some (.own a)/\fs.length<=1000/\dx≠a/\h.get? a=some (PySem.W.instObj C dx) /\
   ∃mA,h.Ns1 dx mA/\(∀f,RelO (fs.lookup f) (mA f))/\PySem.Within mA (fs.map (·.1))
 |.own _=>∃o,h.get? a=some o
 |.xd fs=>∃mA,h.Ns1 a mA/\∀f,RelO (fs.lookup f) (mA f)
 |.rng lo hi=>∃t u v,h.get? a=some { cls:=.type "range",data:=.fields #[.int lo t,.int hi u,.int 1 v] }
 |.frz o u=>h.get? a=some o/\ObjOk H h a u
 |.tbl ps=>h.get? a=some { cls:=.none,data:=.fields ps }
 |.met f x=>h.get? a=some (PySem.W.methodObj (.ref f) (.ref x))
 |.ext φ=>φ h/\(∃o,h.get? a=some o)/\∀h1 h2:Heap,φ h1->(∀o,h1.get? a=some o->h2.get? a=some o)->φ h2
def HOk(H:Hp)(h:Heap):Prop:=∀a o,H a=some o->ObjOk P w H h a o
end
section
variable{P:Program}{w:World}{H H':Hp}{h h':Heap}{a:Addr}{o:HO}
theorem ObjOk.lt(x:ObjOk P w H h a o):a<h.objs.size:=by
 cases o with
 |lst xs=>obtain⟨_,_,_,_,e⟩:=x;exact AK e
 |tup xs=>obtain⟨_,_,_,p⟩:=x;exact p.tup.lt
 |dK kvs=>obtain⟨_,_,_,_,o,_,_,e,_⟩:=x;exact AK e
 |dT kvs=>obtain⟨_,_,_,_,o,_,_,e,_⟩:=x;exact AK e
 |set S n=>obtain⟨o,_,_,_,e,_⟩:=x;exact AK e
 |ins C dx fs=>obtain⟨_,_,_,e,_⟩:=x;exact AK e
 |own y=>obtain⟨_,e⟩:=x;exact AK e
 |xd fs=>obtain⟨_,⟨_,_,_,e,_⟩,_⟩:=x;exact AK e
 |rng lo hi=>obtain⟨_,_,_,e⟩:=x;exact AK e
 |frz ob u=>obtain⟨e,_⟩:=x;exact AK e
 |tbl ps=>exact AK (show h.get? a=some _ from x)
 |met f y=>exact AK (show h.get? a=some _ from x)
 |ext φ=>obtain⟨_,⟨_,e⟩,_⟩:=x;exact AK e
theorem Paired.mapP{α β:Type}{F G:α->β->Prop}:∀{l₁:List α}{l₂:List β},Paired F l₁ l₂->(∀a b,F a b->G a b)->Paired G l₁ l₂
 |_,_,.nil,_=>.nil
 |_,_,.cons r t,f=>.cons (f _ _ r) (Paired.mapP t f)
theorem ObjOk.stay(x:ObjOk P w H h a o)(k:∀b u,(b=a∨H b=some (.own a))->h.get? b=some u->h'.get? b=some u)
  (ho:∀b,H b=some (.own a)->H' b=some (.own a)) (ht:∀b xs,H b=some (.tup xs)->H' b=some (.tup xs)):ObjOk P w H' h' a o:=by
 induction o with
 |lst xs=>obtain⟨z,its,n,r,e⟩:=x;exact⟨z,its,n,r,k _ _ (.inl rfl) e⟩
 |tup xs=>obtain⟨z,its,r,ob,e,c⟩:=x;exact⟨z,its,r,ob,k _ _ (.inl rfl) e,c⟩
 |dK kvs=>obtain⟨z,y,vs,r,ob,es,ep,e,c⟩:=x;exact⟨z,y,vs,r,ob,es,ep,k _ _ (.inl rfl) e,c⟩
 |dT kvs =>
  obtain⟨z,y,xs,r,ob,es,ep,e,c⟩:=x
  exact⟨z,y,xs,Paired.mapP r λp q z=>⟨z.1,ht _ _ z.2.1,z.2.2⟩,ob,es,ep,k _ _ (.inl rfl) e,c⟩
 |set S n=>obtain⟨ob,es,ep,t,e,c⟩:=x;exact⟨ob,es,ep,t,k _ _ (.inl rfl) e,c⟩
 |ins C dx fs =>
  obtain⟨d,z,ne,e,mA,⟨od,es,ep,e2,c⟩,r⟩:=x
  exact⟨ho _ d,z,ne,k _ _ (.inl rfl) e,mA,⟨od,es,ep,k _ _ (.inr d) e2,c⟩,r⟩
 |own y=>obtain⟨ob,e⟩:=x;exact⟨ob,k _ _ (.inl rfl) e⟩
 |xd fs=>obtain⟨mA,⟨od,es,ep,e,c⟩,r⟩:=x;exact⟨mA,⟨od,es,ep,k _ _ (.inl rfl) e,c⟩,r⟩
 |rng lo hi=>obtain⟨t,u,v,e⟩:=x;exact⟨t,u,v,k _ _ (.inl rfl) e⟩
 |frz ob u ih=>obtain⟨e,q⟩:=x;exact⟨k _ _ (.inl rfl) e,ih q⟩
 |tbl ps =>
  have e:h.get? a=some { cls:=.none,data:=.fields ps }:=x
  show h'.get? a=some { cls:=.none,data:=.fields ps }
  exact k a _ (.inl rfl) e
 |met f y =>
  have e:h.get? a=some (PySem.W.methodObj (.ref f) (.ref y)):=x
  show h'.get? a=some (PySem.W.methodObj (.ref f) (.ref y))
  exact k a _ (.inl rfl) e
 |ext φ=>obtain⟨p,⟨o,e⟩,st⟩:=x;exact⟨st _ _ p λo q=>k _ _ (.inl rfl) q,⟨o,k _ _ (.inl rfl) e⟩,st⟩
theorem HOk.lt(x:HOk P w H h)(e:H a=some o):a<h.objs.size:=(x a o e).lt
theorem HOk.fresh(x:HOk P w H h)(e:h.objs.size<=a):H a=none:=by
 cases q:H a with
 |none=>rfl
 |some u=>exact absurd (Ao (x.lt q) e) (Bl _)
theorem HOk.kept(x:HOk P w H h)(k:∀b u,h.get? b=some u->h'.get? b=some u):HOk P w H h':=λa o e =>
 (x a o e).stay (λb u _ q=>k b u q) (λ_ q=>q) λ_ _ q=>q
theorem HOk.laid(x:HOk P w H h)(k:∀b u,h.get? b=some u->h'.get? b=some u)(hp:h.objs.size<=a)(new:ObjOk P w (upd H a o) h' a o):HOk P w (upd H a o) h':=λb u e=>by
 have hn:=x.fresh hp
 by_cases hb:b=a
 ·subst hb;rw[qc_]at e;cases e;exact new
 ·rw[qk_ hb]at e
  exact(x b u e).stay (λc v _ q=>k c v q) (λc q=>by rw[qk_ (qn_ q hn)];exact q) λc xs q=>by rw[qk_ (qn_ q hn)];exact q
end
def Rd(H:Hp)(a:Addr)(u:HO):Prop:=H a=some u∨∃o,H a=some (.frz o u)
theorem Rd.of{H:Hp}{a:Addr}{u:HO}(h:H a=some u):Rd H a u:=.inl h
theorem Rd.ok{P:Program}{w:World}{H:Hp}{h:Heap}{a:Addr}{u:HO}(r:Rd H a u)(x:HOk P w H h):ObjOk P w H h a u:=by
 rcases r with r|⟨o,r⟩
 ·exact x a u r
 ·obtain⟨_,q⟩:=x a _ r
  exact q
def Mut:Option HO->Prop
 |some (.lst _)=>True
 |some (.dK _)=>True
 |some (.dT _)=>True
 |some (.set _ _)=>True
 |some (.ins _ _ _)=>True
 |some (.ext _)=>True
 |_=>False
section
variable{P:Program}{w:World}{H:Hp}{h h':Heap}{x e:Addr}{o':HO}
theorem HOk.write(ok:HOk P w H h)(mu:Mut (H x))(he:e=x∨H e=some (.own x))(k:∀b u,b≠e->h.get? b=some u->h'.get? b=some u)(heo:∃u,h'.get? e=some u)
  (new:ObjOk P w (upd H x o') h' x o'):HOk P w (upd H x o') h':=λb u q=>by
 have nown:∀c y,H c=some (.own y)->c≠x:=λc y r z=>by subst z;rw[r]at mu;exact mu
 have ntup:∀c xs,H c=some (.tup xs)->c≠x:=λc xs r z=>by subst z;rw[r]at mu;exact mu
 by_cases hb:b=x
 ·subst hb;rw[qc_]at q;cases q;exact new
 ·rw[qk_ hb]at q
  by_cases hbe:b=e
  ·have q':H b=some (.own x):=by
    rcases he with z|z
    ·exact absurd (hbe.trans z) hb
    ·rw[hbe];exact z
   rw[q]at q';cases q'
   obtain⟨v,hv⟩:=heo
   exact⟨v,by rw[hbe];exact hv⟩
  ·refine(ok b u q).stay (λc v hc r=>k c v ?_ r) (λc r=>by rw[qk_ (nown c b r)];exact r) λc xs r=>by rw[qk_ (ntup c xs r)];exact r
   rcases hc with rfl|hc
   ·exact hbe
   ·rintro rfl
    rcases he with z|z
    ·exact nown c b hc z
    ·rw[hc]at z;cases z;exact hb rfl
end
structure Un(fs ex:List Addr)(H H':Hp)(h h':Heap):Prop where
 keep:∀b o,h.get? b=some o->H b=none->b∉fs->b∉ex->h'.get? b=some o
 slot:∀b o,h.get? b=some o->H b=none->b∈fs->b∉ex->∃sl,h'.get? b=some { o with slots:=sl }
 free:∀b o,h.get? b=some o->H b=none->b∉ex->H' b=none
 there:∀b o,h.get? b=some o->b∉ex->∃o',h'.get? b=some o'
 tups:∀b xs,H b=some (.tup xs)->H' b=some (.tup xs)
 frzs:∀b o u,H b=some (.frz o u)->H' b=some (.frz o u)
 tbls:∀b ps,H b=some (.tbl ps)->∃more,H' b=some (.tbl (ps++more))
section
variable{fs fs' ex ex':List Addr}{H H1 H2:Hp}{h h1 h2 h':Heap}{a x e:Addr}{o:HO}
theorem Un.any(u:Un fs ex H H1 h h1){b:Addr}{ob:Obj}(q:h.get? b=some ob)(n:H b=none)(hx:b∉ex):∃sl,h1.get? b=some { ob with slots:=sl }:=by
 by_cases hb:b∈fs
 ·exact u.slot b ob q n hb hx
 ·exact⟨ob.slots,u.keep b ob q n hb hx⟩
theorem Un.trans(a:Un fs ex H H1 h h1)(b:Un fs ex H1 H2 h1 h2):Un fs ex H H2 h h2 where
 keep:=λc ob q n hc hx=>b.keep c ob (a.keep c ob q n hc hx) (a.free c ob q n hx) hc hx
 slot:=λc ob q n hc hx=>by
  obtain⟨sl,e1⟩:=a.slot c ob q n hc hx
  obtain⟨sl',e2⟩:=b.slot c _ e1 (a.free c ob q n hx) hc hx
  exact⟨sl',e2⟩
 free:=λc ob q n hx=>by
  obtain⟨o',e1⟩:=a.there c ob q hx
  exact b.free c o' e1 (a.free c ob q n hx) hx
 there:=λc ob q hx=>by
  obtain⟨o',e1⟩:=a.there c ob q hx
  exact b.there c o' e1 hx
 tups:=λc xs q=>b.tups c xs (a.tups c xs q)
 frzs:=λc ob xs q=>b.frzs c ob xs (a.frzs c ob xs q)
 tbls:=λc ps q=>by
  obtain⟨m1,e1⟩:=a.tbls c ps q
  obtain⟨m2,e2⟩:=b.tbls c _ e1
  exact⟨m1++m2,by rw[e2,Array.append_assoc]⟩
theorem Un.kept(k:∀b u,h.get? b=some u->h'.get? b=some u):Un fs ex H H h h' :=
 ⟨λb ob q _ _ _=>k b ob q,λb ob q _ _ _=>⟨ob.slots,k b ob q⟩,λ_ _ _ n _=>n,λb ob q _=>⟨ob,k b ob q⟩,λ_ _ q=>q,λ_ _ _ q=>q,λ_ ps q=>⟨#[],by rw[q];simp⟩⟩
theorem Un.refl:Un fs ex H H h h:=Un.kept λ_ _ q=>q
theorem Un.laid(k:∀b u,h.get? b=some u->h'.get? b=some u)(hp:h.objs.size<=a)(hn:H a=none):Un fs ex H (upd H a o) h h' where
 keep:=λb u q _ _ _=>k b u q
 slot:=λb u q _ _ _=>⟨u.slots,k b u q⟩
 free:=λb u q n _=>by rw[qk_ (Ab (Ao (AK q) hp))];exact n
 there:=λb u q _=>⟨u,k b u q⟩
 tups:=λb xs q=>by rw[qk_ (qn_ q hn)];exact q
 frzs:=λb u xs q=>by rw[qk_ (qn_ q hn)];exact q
 tbls:=λb ps q=>⟨#[],by rw[qk_ (qn_ q hn),q];simp⟩
theorem Un.write(mu:Mut (H x))(he:e=x∨H e=some (.own x))(k:∀b u,b≠e->h.get? b=some u->h'.get? b=some u)(heo:∃u,h'.get? e=some u):Un fs ex H (upd H x o) h h':=by
 have hx:∀b,H b=none->b≠x:=λb n z=>by subst z;rw[n]at mu;exact mu
 have hb:∀b,H b=none->b≠e:=λb n z=>by
  subst z
  rcases he with r|r
  ·exact hx b n r
  ·rw[n]at r;cases r
 have hm:∀b u,H b=some u->¬ Mut (some u)->b≠x:=λb u q nm z=>by subst z;rw[q]at mu;exact nm mu
 refine⟨λb u q n _ _=>k b u (hb b n) q,λb u q n _ _=>⟨u.slots,k b u (hb b n) q⟩,λb u q n _=>by rw[qk_ (hx b n)];exact n,λb u q _=>?_,
  λb xs q=>by rw[qk_ (hm b _ q λz=>z)];exact q,λb u xs q=>by rw[qk_ (hm b _ q λz=>z)];exact q,λb ps q=>⟨#[],by rw[qk_ (hm b _ q λz=>z),q];simp⟩⟩
 by_cases hbe:b=e
 ·subst hbe;exact heo
 ·exact⟨u,k b u hbe q⟩
theorem Un.mono(u:Un fs ex H H1 h h1)(hs:∀b∈fs,b∈fs')(hx:∀b∈ex,b∈ex'):Un fs' ex' H H1 h h1 :=
 ⟨λb ob q n hb he=>u.keep b ob q n (λz=>hb (hs b z)) λz=>he (hx b z),λ_ _ q n _ he=>u.any q n λz=>he (hx _ z),λb ob q n he=>u.free b ob q n λz=>he (hx b z),λb ob q he=>u.there b ob q λz=>he (hx b z),u.tups,u.frzs,u.tbls⟩
end
def trk(h:Heap)(H:Hp):List Addr:=(List.range h.objs.size).filter λa=>(H a).isSome
def xI_(h:Heap)(H:Hp):Heap:=PySem.W.hideAll h (trk h H)
theorem af5_(h:Heap)(H:Hp):(xI_ h H).objs.size=h.objs.size:=PySem.W.hideAll_size _ _
theorem ajt_{h:Heap}{H:Hp}{b:Addr}{o:Obj}(e:h.get? b=some o)(n:H b=none):(xI_ h H).get? b=some o :=
 PySem.W.hideAll_get _ e λhm=>by
  have q:(H b).isSome=true:=(BR.mp hm).2
  rw[n]at q;simp at q
theorem alw_{h:Heap}{H:Hp}{b:Addr}{o:Obj}(e:(xI_ h H).get? b=some o):h.get? b=some o/\H b=none:=by
 have e':h.get? b=some o:=PySem.W.of_hideAll (trk h H) e
 refine⟨e',?_⟩
 cases q:H b with
 |none=>rfl
 |some x =>
  have hm:b∈trk h H:=BR.mpr ⟨Ar.mpr (AK e'),by simp [q]⟩
  have z:(xI_ h H).get? b=none:=PySem.W.hideAll_none (trk h H) hm
  rw[z]at e;cases e
def akq_(g h:Heap)(L:Addr):List (Addr×Obj):=(List.range h.objs.size).filterMap λa=>if a=L∨(g.get? a).isSome=true then none else (h.get? a).map λo=>(a,o)
def rest(g h:Heap)(L d:Addr):List (Addr×Obj):=(akq_ g h L).filter λp=>decide (p.1≠d)
end L2
namespace L2
open PySem PySem.Spec PyProof.Rows
structure Mod(K:PySem.W.Frag)(mg:Str->Option Value)(base:Heap):Prop where
 kin:K.In base
 glob:base.Ns mainGlobals mg
 blt:∃mb,base.Ns builtinsNs mb/\∀x:Str,x ≠ "__name__" -> mb x=bootBuiltins x
 nolimit:base.NoLimit
structure Cx where
 prog:Program
 w:World
 K:PySem.W.Frag
 mg:Str->Option Value
 base:Heap
 A:Around
 N:List Str
 s₀:Shared
 H₀:Hp
 env:Env
 outer:List Env
 stack:List Env
 ex:List Addr
 fn:Str->Bool
 calm:Bool
 pn:List (Addr×Obj)
 xe:Value->Shared->Prop
def frs(l:List Env):List Addr:=l.filterMap (·.frame)
abbrev Cx.fs(X:Cx):List Addr:=frs X.outer
def Vis(sc:Scope)(x:Str):Prop:=sc.names.lookup x=some .local∨sc.names.lookup x=some .cell∨sc.names.lookup x=some .free
def Loc(sc:Scope)(x:Str):Prop:=sc.names.lookup x=some .local∨sc.names.lookup x=some .cell
def Look(env:Env)(h:Heap)(m:Str->Option Value)(x:Str)(u:Value):Prop :=
 (env.kindOf x=some .local/\m x=some u)∨((env.kindOf x=some .cell∨env.kindOf x=some .free)/\∃c,env.cells.lookup x=some c/\h.IsCell c (some u))
structure Cx.Ok(X:Cx):Prop where
 mod:Mod X.K X.mg X.base
 kind:X.env.scope.kind=.function
 glob:X.env.globals=mainGlobals
 blt:X.env.builtins=builtinsNs
 above:X.s₀.heap.objs.size<=X.env.locals
 inj:∀x y c,X.env.cells.lookup x=some c->X.env.cells.lookup y=some c->x=y
 has:∀x,(X.env.kindOf x=some .cell∨X.env.kindOf x=some .free)->∃c,X.env.cells.lookup x=some c
 cab:∀x c,X.fn x=true->X.env.cells.lookup x=some c->X.s₀.heap.objs.size<=c
 hd:X.calm=true->X.A.handled=none
 frames:X.A.frames=some X.stack
 stk:X.stack=X.outer∨(X.stack=X.env::X.outer/\X.env.frame=some X.env.locals)
 exf:∀b∈X.ex,b≠X.env.locals/\∀x c,X.env.cells.lookup x=some c->c≠b
 bs:∀b o,X.base.get? b=some o->X.s₀.heap.get? b=some o/\X.H₀ b=none
 bsz:X.base.objs.size<=X.s₀.heap.objs.size
 noex:∀b o,X.base.get? b=some o->b∉X.ex
 exfs:∀b∈X.ex,b∉X.fs
 funs:X.s₀.heap.FunFrames X.base X.outer
 frf:∀b∈X.fs,X.H₀ b=none
structure Inv(X:Cx)(pins:List (Addr×Obj))(σ:List (Option V))(H:Hp)(s:Shared):Prop where
 ok:X.Ok
 os:s.os=X.s₀.os
 bare:AllBare s.gens
 base:Un X.fs X.ex X.H₀ H X.s₀.heap s.heap
 loc:∃m,s.heap.Ns X.env.locals m/\∀(i:Nat)(x:Str)(v:V),X.N[i]?=some x->σ[i]?=some (some v)->Vis X.env.scope x->∃u,RelV v u/\Look X.env s.heap m x u
 cell:∀x c,X.env.cells.lookup x=some c->∃v,s.heap.IsCell c v
 free:H X.env.locals=none
 freeC:∀x c,X.env.cells.lookup x=some c->H c=none
 pin:∀p∈X.pn++pins,s.heap.get? p.1=some p.2/\H p.1=none/\p.1≠X.env.locals/\p.1∉X.fs/\∀v,p.2.data≠.cell v
 hok:HOk X.prog X.w H s.heap
 len:σ.length=X.N.length
section
variable{X:Cx}{pins:List (Addr×Obj)}{σ:List (Option V)}{H H':Hp}{s:Shared}{h':Heap}
theorem Cx.Ok.nofr(ok:X.Ok){b:Addr}{o:Obj}(e:X.base.get? b=some o):b∉X.fs:=λhb=>by
 have:=(ok.funs.mem hb).1
 rw[e]at this;cases this
theorem Inv.bs(I:Inv X pins σ H s):∀b o,X.base.get? b=some o->s.heap.get? b=some o/\H b=none:=λb o e =>
 ⟨I.base.keep b o (I.ok.bs b o e).1 (I.ok.bs b o e).2 (I.ok.nofr e) (I.ok.noex b o e),I.base.free b o (I.ok.bs b o e).1 (I.ok.bs b o e).2 (I.ok.noex b o e)⟩
theorem Inv.bk(I:Inv X pins σ H s):∀b o,X.base.get? b=some o->s.heap.get? b=some o:=λb o e=>(I.bs b o e).1
theorem Inv.mod(I:Inv X pins σ H s):Mod X.K X.mg X.base:=I.ok.mod
theorem Inv.kIn(I:Inv X pins σ H s):X.K.In s.heap:=I.ok.mod.kin.keeps I.bk
theorem Inv.nolimit(I:Inv X pins σ H s):s.heap.NoLimit:=I.ok.mod.nolimit.keeps I.bk
theorem Inv.lt(I:Inv X pins σ H s):X.env.locals<s.heap.objs.size:=let ⟨_,hn,_⟩:=I.loc;hn.lt
theorem Inv.sz(I:Inv X pins σ H s):X.s₀.heap.objs.size<=s.heap.objs.size:=Ac I.ok.above (Bf I.lt)
theorem Inv.nofs(I:Inv X pins σ H s){a:Addr}(h:s.heap.objs.size<=a):a∉X.fs:=λhb=>by
 obtain⟨_,o,ho,_⟩:=I.ok.funs.mem hb
 exact absurd (Ao (AK ho) (Ac I.sz h)) (Bl _)
theorem Inv.cne(I:Inv X pins σ H s):∀x c,X.env.cells.lookup x=some c->c≠X.env.locals:=λx c e z=>by
 obtain⟨v,o,ho,hd⟩:=I.cell x c e
 obtain⟨m,⟨o',es,ep,ho',hd',_⟩,_⟩:=I.loc
 rw[z,ho']at ho;cases ho;rw[hd']at hd;cases hd
theorem Inv.funs(I:Inv X pins σ H s):s.heap.FunFrames X.base X.outer:=by
 have all:∀(l:List Env),(∀b∈frs l,b∈X.fs)->X.s₀.heap.FunFrames X.base l->s.heap.FunFrames X.base l:=by
  intro l
  induction l with
  |nil=>intro _ _;trivial
  |cons env r ih =>
   intro hs hl
   obtain⟨hk,⟨L,o,hf,hn,ho,hd⟩,hr⟩:=hl
   have hL:L∈X.fs:=hs L (by unfold frs;rw[Br,hf];exact AD)
   obtain⟨sl,e⟩:=I.base.slot L o ho (I.ok.frf L hL) hL λz=>I.ok.exfs L z hL
   exact⟨hk,⟨L,_,hf,hn,e,hd⟩,ih (λb hb=>hs b (by unfold frs;rw[Br,hf];exact AC _ hb)) hr⟩
 exact all X.outer (λ_ hb=>hb) I.ok.funs
theorem Inv.stack(I:Inv X pins σ H s):s.heap.FunFrames X.base X.stack:=by
 rcases I.ok.stk with e|⟨e,hf⟩
 ·rw[e];exact I.funs
 ·rw[e]
  obtain⟨m,hn,_⟩:=I.loc
  refine .cons (by rw[I.ok.kind];decide) hf hn ?_ I.funs
  exact Heap.get?_none_of_le (Ac I.ok.bsz I.ok.above)
theorem Inv.stkSub(I:Inv X pins σ H s):∀b∈frs X.stack,b∈X.env.locals::X.fs:=λb hb=>by
 rcases I.ok.stk with e|⟨e,hf⟩
 ·rw[e]at hb;exact AC _ hb
 ·rw[e]at hb
  unfold frs at hb
  rw[Br,hf]at hb
  exact hb
theorem Inv.stkFree(I:Inv X pins σ H s):∀b∈frs X.stack,H b=none:=λb hb=>by
 rcases AL.mp (I.stkSub b hb) with e|hb
 ·rw[e];exact I.free
 ·obtain⟨_,o,ho,_⟩:=I.ok.funs.mem hb
  exact I.base.free b o ho (I.ok.frf b hb) λz=>I.ok.exfs b z hb
theorem Inv.step{g':Array GenState}{t':Nat}{d':Drawn}{ch:List Addr}(I:Inv X pins σ H s)
  (hch:∀b∈ch,(b∈X.ex∨X.s₀.heap.objs.size<=b)/\b≠X.env.locals/\(∀x c,X.env.cells.lookup x=some c->c≠b)/\∀p∈X.pn++pins,p.1≠b)
  (keep:∀b o,b≠X.env.locals->b∉X.fs->b∉ch->s.heap.get? b=some o->H b=none->h'.get? b=some o)
  (slot:∀b o,b≠X.env.locals->b∈X.fs->b∉ch->s.heap.get? b=some o->H b=none->∃sl,h'.get? b=some { o with slots:=sl }) (free:∀b o,b∉ch->s.heap.get? b=some o->H b=none->H' b=none)
  (there:∀b o,b∉ch->s.heap.get? b=some o->∃o',h'.get? b=some o')
  (tups:∀b xs,H b=some (.tup xs)->H' b=some (.tup xs)) (frzs:∀b o u,H b=some (.frz o u)->H' b=some (.frz o u)) (tbls:∀b ps,H b=some (.tbl ps)->∃more,H' b=some (.tbl (ps++more)))
  (ns:∀m,s.heap.Ns X.env.locals m->h'.Ns X.env.locals m) (hok:HOk X.prog X.w H' h') (hg:AllBare g') :
  Inv X pins σ H' { s with heap:=h',gens:=g',drawn:=d',toks:=t' }:=by
 have neL:∀b o,X.s₀.heap.get? b=some o->b≠X.env.locals:=λb o e=>Ab (Ao (AK e) I.ok.above)
 have neC:∀b o,X.s₀.heap.get? b=some o->b∉X.ex->b∉ch:=λb o e hx hb=>by
  rcases (hch b hb).1 with z|z
  ·exact hx z
  ·exact absurd (Ao (AK e) z) (Bl _)
 have cellK:∀x c,X.env.cells.lookup x=some c->∀v,s.heap.IsCell c v->h'.IsCell c v:=λx c e v ⟨o,ho,hd⟩=>by
  have nch:c∉ch:=λz=>(hch c z).2.2.1 x c e rfl
  by_cases hc:c∈X.fs
  ·obtain⟨sl,q⟩:=slot c o (I.cne x c e) hc nch ho (I.freeC x c e)
   exact⟨_,q,hd⟩
  ·exact⟨o,keep c o (I.cne x c e) hc nch ho (I.freeC x c e),hd⟩
 refine⟨I.ok,I.os,hg,⟨λb o e n hb hx=>?_,λb o e n hb hx=>?_,λb o e n hx=>?_,λb o e hx=>?_,λb xs e=>tups b xs (I.base.tups b xs e),λb o xs e=>frzs b o xs (I.base.frzs b o xs e),λb ps e=>?_⟩,?_,λx c e=>?_,?_,λx c e=>?_,λp hp=>?_,hok,I.len⟩
 ·exact keep b o (neL b o e) hb (neC b o e hx) (I.base.keep b o e n hb hx) (I.base.free b o e n hx)
 ·obtain⟨sl,e1⟩:=I.base.slot b o e n hb hx
  obtain⟨sl',e2⟩:=slot b _ (neL b o e) hb (neC b o e hx) e1 (I.base.free b o e n hx)
  exact⟨sl',e2⟩
 ·obtain⟨o',e1⟩:=I.base.there b o e hx
  exact free b o' (neC b o e hx) e1 (I.base.free b o e n hx)
 ·obtain⟨o',e1⟩:=I.base.there b o e hx
  exact there b o' (neC b o e hx) e1
 ·obtain⟨m1,e1⟩:=I.base.tbls b ps e
  obtain⟨m2,e2⟩:=tbls b _ e1
  exact⟨m1++m2,by rw[e2,Array.append_assoc]⟩
 ·obtain⟨m,hn,hl⟩:=I.loc
  refine⟨m,ns m hn,λi x v e1 e2 e3=>?_⟩
  obtain⟨u,r,l⟩:=hl i x v e1 e2 e3
  refine⟨u,r,?_⟩
  rcases l with l|⟨k,c,e,z⟩
  ·exact .inl l
  ·exact .inr ⟨k,c,e,cellK x c e _ z⟩
 ·obtain⟨v,z⟩:=I.cell x c e
  exact⟨v,cellK x c e v z⟩
 ·obtain⟨m,⟨o,_,_,ho,_⟩,_⟩:=I.loc
  exact free _ o (λz=>(hch _ z).2.1 rfl) ho I.free
 ·obtain⟨v,o,ho,hd⟩:=I.cell x c e
  exact free c o (λz=>(hch c z).2.2.1 x c e rfl) ho (I.freeC x c e)
 ·obtain⟨e,n,ne,nf,d⟩:=I.pin p hp
  have nch:p.1∉ch:=λz=>(hch p.1 z).2.2.2 p hp rfl
  exact⟨keep p.1 p.2 ne nf nch e n,free p.1 p.2 nch e n,ne,nf,d⟩
theorem Inv.un{t':Nat}(I:Inv X pins σ H s)(u:Un X.fs [] H H' s.heap h')(hok:HOk X.prog X.w H' h'):Inv X pins σ H' { s with heap:=h',toks:=t' }:=by
 obtain⟨m,⟨o,es,ep,ho,r⟩,_⟩:=id I.loc
 obtain⟨sl,hL⟩:=u.any ho I.free (by simp)
 exact I.step (g':=s.gens) (d':=s.drawn) (ch:=[]) (λ_ z=>nomatch z) (λb o _ hb _ e n=>u.keep b o e n hb (by simp)) (λb o _ hb _ e n=>u.slot b o e n hb (by simp)) (λb o _ e n=>u.free b o e n (by simp)) (λb o _ e=>u.there b o e (by simp)) u.tups u.frzs u.tbls (λm' hm=>by
  obtain⟨o',es',ep',ho',r'⟩:=hm
  rw[ho]at ho';cases ho'
  exact⟨_,es',ep',hL,r'⟩) hok I.bare
theorem Inv.call{g':Array GenState}{t':Nat}{d':Drawn}{ch:List Addr}(I:Inv X pins σ H s)(u:Un (frs X.stack) ch H H' s.heap h')(hok:HOk X.prog X.w H' h')(hg:AllBare g')
  (hch:∀b∈ch,(b∈X.ex∨X.s₀.heap.objs.size<=b)/\b≠X.env.locals/\(∀x c,X.env.cells.lookup x=some c->c≠b)/\∀p∈X.pn++pins,p.1≠b) :
  Inv X pins σ H' { s with heap:=h',gens:=g',drawn:=d',toks:=t' }:=by
 obtain⟨m,⟨o,es,ep,ho,r⟩,_⟩:=id I.loc
 obtain⟨sl,hL⟩:=u.any ho I.free λz=>(hch _ z).2.1 rfl
 exact I.step (ch:=ch) hch (λb o hL hb hc e n=>u.keep b o e n (λz=>(AL.mp (I.stkSub b z)).elim hL hb) hc) (λb o _ _ hc e n=>u.any e n hc) (λb o hc e n=>u.free b o e n hc) (λb o hc e=>u.there b o e hc) u.tups u.frzs u.tbls (λm' hm=>by
  obtain⟨o',es',ep',ho',r'⟩:=hm
  rw[ho]at ho';cases ho'
  exact⟨_,es',ep',hL,r'⟩) hok hg
theorem Inv.turned{t':Nat}{it:Addr}(I:Inv X pins σ H s)(k:∀b o,b≠it->s.heap.get? b=some o->h'.get? b=some o)(hn:H it=none)(hL:it≠X.env.locals)
  (h1:it∈X.ex∨X.s₀.heap.objs.size<=it) (h2:∀x c,X.env.cells.lookup x=some c->c≠it) (h3:∀p∈X.pn++pins,p.1≠it):Inv X pins σ H { s with heap:=h',toks:=t' }:=by
 have nit:∀b u,H b=some u->b≠it:=λb u e z=>by rw[z,hn]at e;cases e
 refine I.step (g':=s.gens) (d':=s.drawn) (ch:=[it]) (λb hb=>?_) (λb o _ _ hc e _=>k b o (λz=>hc (by simp [z])) e) (λb o _ _ hc e _=>⟨o.slots,k b o (λz=>hc (by simp [z])) e⟩) (λ_ _ _ _ n=>n)
  (λb o hc e=>⟨o,k b o (λz=>hc (by simp [z])) e⟩) (λ_ _ e=>e) (λ_ _ _ e=>e) (λb ps e=>⟨#[],by rw[e];simp⟩) (λm hm=>?_) (λb u e=>?_) I.bare
 ·have e:b=it:=by simpa using hb
  subst e
  exact⟨h1,hL,h2,h3⟩
 ·obtain⟨o,es,ep,ho,r⟩:=hm
  exact⟨o,es,ep,k _ o (CG hL) ho,r⟩
 ·refine(I.hok b u e).stay (λc v hc q=>k c v ?_ q) (λ_ q=>q) λ_ _ q=>q
  rcases hc with z|z
  ·rw[z];exact nit b u e
  ·exact nit c _ z
theorem Inv.tok(I:Inv X pins σ H s)(t:Nat):Inv X pins σ H { s with toks:=t }:=I.un (h':=s.heap) (t':=t) Un.refl I.hok
theorem Inv.kept{t':Nat}(I:Inv X pins σ H s)(k:∀b u,s.heap.get? b=some u->h'.get? b=some u):Inv X pins σ H { s with heap:=h',toks:=t' }:=I.un (Un.kept k) (I.hok.kept k)
theorem Inv.laid{a:Addr}{o:HO}{t':Nat}(I:Inv X pins σ H s)(k:∀b u,s.heap.get? b=some u->h'.get? b=some u)(hp:s.heap.objs.size<=a)(new:ObjOk X.prog X.w (upd H a o) h' a o) :
  Inv X pins σ (upd H a o) { s with heap:=h',toks:=t' }:=I.un (Un.laid k hp (I.hok.fresh hp)) (I.hok.laid k hp new)
theorem Inv.write{x e:Addr}{o:HO}{t':Nat}(I:Inv X pins σ H s)(mu:Mut (H x))(he:e=x∨H e=some (.own x))(k:∀b u,b≠e->s.heap.get? b=some u->h'.get? b=some u)(heo:∃u,h'.get? e=some u)
  (new:ObjOk X.prog X.w (upd H x o) h' x o):Inv X pins σ (upd H x o) { s with heap:=h',toks:=t' }:=I.un (Un.write mu he k heo) (I.hok.write mu he k heo new)
theorem Inv.pins_of{pins':List (Addr×Obj)}(I:Inv X pins σ H s)(h:∀p∈pins',s.heap.get? p.1=some p.2/\H p.1=none/\p.1≠X.env.locals/\p.1∉X.fs/\∀v,p.2.data≠.cell v):Inv X pins' σ H s :=
 ⟨I.ok,I.os,I.bare,I.base,I.loc,I.cell,I.free,I.freeC,λp hp=>(Ai.mp hp).elim (λz=>I.pin p (At _ z)) (h p),I.hok,I.len⟩
theorem aca_{N:List Str}(hN:N.Nodup){i j:Nat}{x:Str}(a:N[i]?=some x)(b:N[j]?=some x):i=j:=by
 obtain⟨h1,e1⟩:=AX.mp a
 obtain⟨h2,e2⟩:=AX.mp b
 exact(List.getElem_inj hN).mp (e1.trans e2.symm)
theorem v8_{M:Model}{A:Around}{E:Value->Shared->Prop}{i:Nat}{x:Str}{v:V}{u:Value}{Q:Unit->Shared->Prop}(I:Inv X pins σ H s)(hN:X.N.Nodup)(hi:X.N[i]?=some x)(hx:Loc X.env.scope x)(r:RelV v u)
  (h:∀s',Inv X pins (σ.set i (some v)) H s'->(∃a,Heap.SameBut a s.heap s'.heap/\(a=X.env.locals∨X.env.cells.lookup x=some a))->Q () s') (hf:X.fn x=true∨X.env.scope.names.lookup x=some .local:=by first|exact .inl rfl|exact .inr rfl|assumption):wpAny M A (storeName X.env x u) Q E s:=by
 obtain⟨m,hn,hl⟩:=id I.loc
 have hcls:(X.env.scope.kind==.class||(X.env.scope.kind==.module&&X.env.locals != X.env.globals))=false:=by rw[I.ok.kind];rfl
 have hiσ:i<σ.length:=by rw[I.len];exact(AX.mp hi).1
 have cne:=I.cne
 have tracked:∀{a:Addr}{h':Heap},(∃o,s.heap.get? a=some o/\H a=none)->Heap.SameBut a s.heap h'->HOk X.prog X.w H h':=λ{a h'} ha hs b ob e=>by
  obtain⟨_,_,hfree⟩:=ha
  refine(I.hok b ob e).stay (λc w' hc q=>(hs.2 c ?_).trans q) (λ_ q=>q) λ_ _ q=>q
  rintro rfl
  rcases hc with rfl|hc
  ·rw[hfree]at e;cases e
  ·rw[hfree]at hc;cases hc
 rcases hx with hk|hk
 ·refine wpAny_storeName_local hk hn (λh' hn' hs=>?_) hcls
  obtain⟨oL,_,_,hoL,_⟩:=id hn
  refine h _ ⟨I.ok,I.os,I.bare,⟨λb o e n hb hx=>?_,λb o e n hb hx=>?_,I.base.free,λb o e hx=>?_,I.base.tups,I.base.frzs,I.base.tbls⟩,⟨_,hn',λj y v' e1 e2 e3=>?_⟩,λy c e=>?_,I.free,I.freeC,λp hp=>?_,tracked ⟨oL,hoL,I.free⟩ hs,by simpa using I.len⟩ ⟨_,hs,.inl rfl⟩
  ·exact(hs.2 b (Ab (Ao (AK e) I.ok.above))).trans (I.base.keep b o e n hb hx)
  ·obtain⟨sl,e1⟩:=I.base.slot b o e n hb hx
   exact⟨sl,(hs.2 b (Ab (Ao (AK e) I.ok.above))).trans e1⟩
  ·obtain⟨o',e1⟩:=I.base.there b o e hx
   exact⟨o',(hs.2 b (Ab (Ao (AK e) I.ok.above))).trans e1⟩
  ·by_cases hj:j=i
   ·subst hj
    rw[hi]at e1;cases e1
    rw[D1 hiσ]at e2
    cases e2
    exact⟨u,r,.inl ⟨hk,by simp⟩⟩
   ·rw[ET (CG hj)]at e2
    obtain⟨u',r',q⟩:=hl j y v' e1 e2 e3
    refine⟨u',r',?_⟩
    rcases q with⟨k,e⟩|⟨k,c,e,z⟩
    ·refine .inl ⟨k,?_⟩
     have:y≠x:=λe=>hj (aca_ hN e1 (e▸hi))
     simp [this,e]
    ·exact .inr ⟨k,c,e,z.sameBut hs (cne y c e)⟩
  ·obtain⟨w',z⟩:=I.cell y c e
   exact⟨w',z.sameBut hs (cne y c e)⟩
  ·obtain⟨e,n,ne,nf,d⟩:=I.pin p hp
   exact⟨(hs.2 p.1 ne).trans e,n,ne,nf,d⟩
 ·have hfn:X.fn x=true:=by
   rcases hf with z|z
   ·exact z
   ·rw[z]at hk;cases hk
  obtain⟨c,hc⟩:=I.ok.has x (.inl hk)
  obtain⟨w',z⟩:=I.cell x c hc
  refine wpAny_storeName_cell I.ok.kind hk hc z (λh' hc' hs=>?_)
  obtain⟨oc,hoc,hocd⟩:=id z
  refine h { s with heap:=h' } ⟨I.ok,I.os,I.bare,⟨λb o e n hb hx=>?_,λb o e n hb hx=>?_,I.base.free,λb o e hx=>?_,I.base.tups,I.base.frzs,I.base.tbls⟩,⟨m,hn.sameBut hs (CG (cne x c hc)),λj y v' e1 e2 e3=>?_⟩,λy c' e=>?_,I.free,I.freeC,λp hp=>?_,tracked ⟨oc,hoc,I.freeC x c hc⟩ hs,by simpa using I.len⟩ ⟨c,hs,.inr hc⟩
  ·exact(hs.2 b (Ab (Ao (AK e) (I.ok.cab x c hfn hc)))).trans (I.base.keep b o e n hb hx)
  ·obtain⟨sl,e1⟩:=I.base.slot b o e n hb hx
   exact⟨sl,(hs.2 b (Ab (Ao (AK e) (I.ok.cab x c hfn hc)))).trans e1⟩
  ·obtain⟨o',e1⟩:=I.base.there b o e hx
   exact⟨o',(hs.2 b (Ab (Ao (AK e) (I.ok.cab x c hfn hc)))).trans e1⟩
  ·by_cases hj:j=i
   ·subst hj
    rw[hi]at e1;cases e1
    rw[D1 hiσ]at e2
    cases e2
    exact⟨u,r,.inr ⟨.inl hk,c,hc,hc'⟩⟩
   ·rw[ET (CG hj)]at e2
    obtain⟨u',r',q⟩:=hl j y v' e1 e2 e3
    refine⟨u',r',?_⟩
    rcases q with q|⟨k,c',e,z'⟩
    ·exact .inl q
    ·refine .inr ⟨k,c',e,z'.sameBut hs ?_⟩
     rintro rfl
     exact hj (aca_ hN e1 (I.ok.inj _ _ _ e hc▸hi))
  ·by_cases hcc:c'=c
   ·subst hcc;exact⟨_,hc'⟩
   ·obtain⟨w2,z2⟩:=I.cell y c' e
    exact⟨w2,z2.sameBut hs hcc⟩
  ·obtain⟨e,n,ne,nf,d⟩:=I.pin p hp
   refine⟨(hs.2 p.1 ?_).trans e,n,ne,nf,d⟩
   intro q
   rw[q,hoc]at e
   have q':oc=p.2:=AZ e
   exact d w' (by rw[<-q'];exact hocd)
theorem aci_{M:Model}{A:Around}{E:Value->Shared->Prop}{i:Nat}{x:Str}{v:V}{u:Value}{Q:Unit->Shared->Prop}(I:Inv X pins σ H s)(hN:X.N.Nodup)(hi:X.N[i]?=some x)(hx:Loc X.env.scope x)(r:RelV v u)
  (h:∀s',Inv X pins (σ.set i (some v)) H s'->Q () s') (hf:X.fn x=true∨X.env.scope.names.lookup x=some .local:=by first|exact .inl rfl|exact .inr rfl|assumption):wpAny M A (storeName X.env x u) Q E s :=
 v8_ I hN hi hx r (λs' I' _=>h s' I') hf
theorem Inv.call'{s':Shared}{ch:List Addr}(I:Inv X pins σ H s)(ho:s'.os=s.os)(u:Un (frs X.stack) ch H H' s.heap s'.heap)(hok:HOk X.prog X.w H' s'.heap)(hg:AllBare s'.gens)
  (hch:∀b∈ch,(b∈X.ex∨X.s₀.heap.objs.size<=b)/\b≠X.env.locals/\(∀x c,X.env.cells.lookup x=some c->c≠b)/\∀p∈X.pn++pins,p.1≠b):Inv X pins σ H' s':=by
 obtain⟨h',g',d',t',o'⟩:=s'
 have e:o'=s.os:=ho
 subst e
 exact I.call (g':=g') (t':=t') (d':=d') u hok hg hch
end
abbrev XK:=Value->Option Addr->Hp->Prop
abbrev St:=List (Option V)
abbrev VK:=V->Hp->Prop
abbrev TE:=St->Hp->VK->Prop
abbrev TT:=St->Hp->(Bool->Hp->Prop)->Prop
abbrev TA:=St->Hp->(List V->Hp->Prop)->Prop
structure Ends where
 nx:St->Hp->Prop
 rt:VK
 bk:St->Hp->Prop:=λ_ _=>False
 ct:St->Hp->Prop:=λ_ _=>False
abbrev TS:=Ends->St->Hp->Prop
def EP(X:Cx)(pins:List (Addr×Obj))(σ:St)(Q:VK)(u:Value)(s':Shared):Prop:=∃v H',Inv X pins σ H' s'/\RelV v u/\Q v H'
def TP(X:Cx)(pins:List (Addr×Obj))(σ:St)(Q:Bool->Hp->Prop)(b:Bool)(s':Shared):Prop:=∃H',Inv X pins σ H' s'/\Q b H'
def AP(X:Cx)(pins:List (Addr×Obj))(σ:St)(Q:List V->Hp->Prop)(us:List Value)(s':Shared):Prop:=∃vs H',Inv X pins σ H' s'/\Vals vs us/\Q vs H'
def SP(X:Cx)(pins:List (Addr×Obj))(D:Ends)(f:Flow)(s':Shared):Prop :=
 match f with
 |.next=>∃σ' H',Inv X pins σ' H' s'/\D.nx σ' H'
 |.brk=>∃σ' H',Inv X pins σ' H' s'/\D.bk σ' H'
 |.cont=>∃σ' H',Inv X pins σ' H' s'/\D.ct σ' H'
 |.ret u=>∃v σ' H',Inv X pins σ' H' s'/\RelV v u/\D.rt v H'
def PE(X:Cx)(e:Expr)(t:TE):Prop :=
 ∀(pins:List (Addr×Obj))(s:Shared)(σ:St)(H:Hp)(Q:VK),Inv X pins σ H s->t σ H Q->wpAny (model X.prog X.w) X.A (eval e X.env) (EP X pins σ Q) X.xe s
def PT(X:Cx)(e:Expr)(t:TT):Prop :=
 ∀(pins:List (Addr×Obj))(s:Shared)(σ:St)(H:Hp)(Q:Bool->Hp->Prop),Inv X pins σ H s->t σ H Q->wpAny (model X.prog X.w) X.A (isTrue e X.env (eval e X.env)) (TP X pins σ Q) X.xe s
def PW(X:Cx)(e:Expr)(t:TT):Prop :=
 ∀(whole:Sem Value)(pins:List (Addr×Obj))(s:Shared)(σ:St)(H:Hp)(Q:Bool->Hp->Prop),Inv X pins σ H s->t σ H Q->wpAny (model X.prog X.w) X.A (isTrue e X.env whole) (TP X pins σ Q) X.xe s
theorem PW.pt{X:Cx}{e:Expr}{t:TT}(h:PW X e t):PT X e t:=h _
def PA(X:Cx)(es:List Expr)(t:TA):Prop :=
 ∀(pos:Pos)(pins:List (Addr×Obj))(s:Shared)(σ:St)(H:Hp)(Q:List V->Hp->Prop),Inv X pins σ H s->t σ H Q->wpAny (model X.prog X.w) X.A (spliced (backTo pos (starEach es X.env))) (AP X pins σ Q) X.xe s
def PS(X:Cx)(st:Stmt)(t:TS):Prop :=
 ∀(pins:List (Addr×Obj))(s:Shared)(σ:St)(H:Hp)(D:Ends),Inv X pins σ H s->t D σ H->wpAny (model X.prog X.w) X.A (exec st X.env) (SP X pins D) X.xe s
def PSs(X:Cx)(st:List Stmt)(t:TS):Prop :=
 ∀(pins:List (Addr×Obj))(s:Shared)(σ:St)(H:Hp)(D:Ends),Inv X pins σ H s->t D σ H->wpAny (model X.prog X.w) X.A (execs st X.env) (SP X pins D) X.xe s
theorem thn{α:Type}{t:Sem α}{Q Q':α->Shared->Prop}{M:Model}{A:Around}{E:Value->Shared->Prop}{s:Shared}(h:wpAny M A t Q E s)(hQ:∀a s,Q a s->Q' a s):wpAny M A t Q' E s:=wpAny_mono h hQ λ_ _ x=>x
end L2
namespace L2
open PySem PySem.Spec PyProof.Rows
section
variable{X:Cx}
theorem bin{a b:Expr}{ta tb:TE}(ha:PE X a ta)(hb:PE X b tb){pins:List (Addr×Obj)}{s:Shared}{σ:St}{H:Hp}{R:V->V->Hp->Prop}(I:Inv X pins σ H s)(h:ta σ H λx H1=>tb σ H1 λy H2=>R x y H2)
  {α:Type} {Q:α->Shared->Prop} {f:Value->Value->Sem α}
  (hf:∀v u s2 x y H2,Inv X pins σ H2 s2->RelV x v->RelV y u->R x y H2->wpAny (model X.prog X.w) X.A (f v u) Q X.xe s2) :
  wpAny (model X.prog X.w) X.A (eval a X.env) (λv s₁=>wpAny (model X.prog X.w) X.A (eval b X.env) (λu s₂=>wpAny (model X.prog X.w) X.A (f v u) Q X.xe s₂) X.xe s₁) X.xe s:=by
 refine thn (ha pins s σ H _ I h) λv s1 ⟨x,H1,I1,r1,q1⟩=>?_
 refine thn (hb pins s1 σ H1 _ I1 q1) λu s2 ⟨y,H2,I2,r2,q2⟩=>?_
 exact hf v u s2 x y H2 I2 r1 r2 q2
def xN_(i:Nat):TE:=λσ H Q=>∃v,σ[i]?=some (some v)/\Q v H
def tC(v:V):TE:=λ_ H Q=>Q v H
theorem amd_{i:Nat}{x:Str}{pos:Pos}(hN:X.N[i]?=some x)(hv:Vis X.env.scope x)(hd:(x==("__debug__" : Str))=false:=by decide)(hcd:(x==("__classdict__" : Str))=false:=by decide):PE X (.Name x pos) (xN_ i):=by
 intro pins s σ H Q I h
 obtain⟨v,e,h⟩:=h
 obtain⟨m,hn,hl⟩:=I.loc
 obtain⟨u,r,l⟩:=hl i x v hN e hv
 have fin:EP X pins σ Q u s:=⟨v,H,I,r,h⟩
 rcases l with⟨hk,hm⟩|⟨hk,c,hc,hcell⟩
 ·exact wpAny_Name (wpAny_loadName_local I.ok.kind hk hn hm fin) hd
 ·rcases hk with hk|hk
  ·exact wpAny_Name (wpAny_loadName_cell I.ok.kind hk hc hcell fin) hd
  ·exact wpAny_Name (wpAny_loadName_free I.ok.kind hk hc hcell fin hcd) hd
theorem qg_{i j pos}:PE X (.Constant (.int i) j pos) (tC (.int i)):=λ_ _ _ H _ I h=>wpAny_Constant_int ⟨.int i,H,I.tok _,⟨_,rfl⟩,h⟩
theorem x0_{b j pos}:PE X (.Constant (.bool b) j pos) (tC (.bl b)):=λ_ _ _ H _ I h=>Constant_bool ⟨.bl b,H,I,rfl,h⟩
theorem agk_{j pos}:PE X (.Constant .none j pos) (tC .non):=λ_ _ _ H _ I h=>Constant_none ⟨.non,H,I,rfl,h⟩
def Gl(X:Cx)(x:Str):Prop:=X.env.kindOf x=some .globalImplicit
theorem adu_{E:Value->Shared->Prop}{pins:List (Addr×Obj)}{s:Shared}{σ:St}{H:Hp}{x:Str}{u:Value}{pos:Pos}{Q:Value->Shared->Prop}(I:Inv X pins σ H s)(hg:Gl X x)(hm:X.mg x=some u)(h:Q u s)
  (hd:(x==("__debug__" : Str))=false:=by decide):wpAny (model X.prog X.w) X.A (eval (.Name x pos) X.env) Q E s :=
 DV I.ok.kind hg (Calls.loadGlobal_global (by rw[I.ok.glob];exact I.mod.glob.keeps I.bk) hm h) hd
theorem z4_{E:Value->Shared->Prop}{pins:List (Addr×Obj)}{s:Shared}{σ:St}{H:Hp}{x:Str}{u:Value}{pos:Pos}{Q:Value->Shared->Prop}(I:Inv X pins σ H s)(hg:Gl X x)(hm:X.mg x=none)(hv:bootBuiltins x=some u)(h:Q u s)
  (hn:x ≠ "__name__" := by decide) (hd:(x==("__debug__" : Str))=false:=by decide):wpAny (model X.prog X.w) X.A (eval (.Name x pos) X.env) Q E s:=by
 obtain⟨mb,h1,h2⟩:=I.mod.blt
 exact DV I.ok.kind hg (Calls.loadGlobal_builtin (by rw[I.ok.glob];exact I.mod.glob.keeps I.bk) hm (by rw[I.ok.blt];exact h1.keeps I.bk) ((h2 x hn).trans hv) h) hd
theorem ade_{x:Str}{v:V}{u:Value}{pos:Pos}(hg:Gl X x)(hm:X.mg x=some u)(r:RelV v u)(hd:(x==("__debug__" : Str))=false:=by decide):PE X (.Name x pos) (tC v) :=
 λ_ _ _ H _ I h=>adu_ I hg hm ⟨v,H,I,r,h⟩ hd
variable{a b:Expr}{ta tb:TE}{pos:Pos}
def PC(X:Cx)(op:CmpOp)(a b:Expr)(t:TE):Prop :=
 ∀(pins:List (Addr×Obj))(s:Shared)(σ:St)(H:Hp)(Q:VK),Inv X pins σ H s->t σ H Q ->
  wpAny (model X.prog X.w) X.A (eval a X.env) (λv s₁=>wpAny (model X.prog X.w) X.A (eval b X.env) (λu s₂=>wpAny (model X.prog X.w) X.A (compareOp op v u) (EP X pins σ Q) X.xe s₂) X.xe s₁) X.xe s
theorem aid_(b:Expr){op:CmpOp}(h:op≠.In)(h2:op≠.NotIn):behindInMarks op b=false:=by
 have e1:(op==CmpOp.In)=false:=by cases op<;>first|rfl|exact absurd rfl h
 have e2:(op==CmpOp.NotIn)=false:=by cases op<;>first|rfl|exact absurd rfl h2
 cases b<;>simp [behindInMarks,e1,e2]
def tB(t:TE):TT:=λσ H Q=>t σ H λx H1=>∃c,x=.bl c/\Q c H1
theorem atp_{op:CmpOp}{t:TE}(h:PC X op a b t)(h1:behindInMarks op b=false:=by first|exact aid_ _ (by decide) (by decide)|rfl):PT X (.Compare a [op] [b] pos) (tB t):=by
 intro pins s σ H Q I hw
 refine wpAny_isTrue_Compare1 (thn (h pins s σ H _ I hw) λv s1 h1=>thn h1 λu s2 h2=>thn h2 λc s3 ⟨x,H1,I1,r1,q1⟩=>?_) h1
 obtain⟨d,rfl,q⟩:=q1
 cases r1
 exact wpAny_truthy_bool ⟨H1,I1,q⟩
theorem vo_{e:Expr}{t:TE}(h:PE X e t)(he:∀whole,isTrue e X.env whole=(do let v <-whole;standAt e.pos;holding [v] (truthy v)):=by intro _;rfl):PT X e (tB t):=by
 intro pins s σ H Q I hw
 refine isTrue_plain (thn (h pins s σ H _ I hw) λv s1 ⟨x,H1,I1,r1,q1⟩=>?_) (he _)
 obtain⟨d,rfl,q⟩:=q1
 cases r1
 exact wpAny_truthy_bool ⟨H1,I1,q⟩
variable{tA tB':TT}{rest:List Expr}
def tOr(t u:TT):TT:=λσ H Q=>t σ H λc H1=>if c=true then Q true H1 else u σ H1 Q
def tNot(t:TT):TT:=λσ H Q=>t σ H λc H1=>Q (!c) H1
theorem anp_(ha:PT X a tA):PW X (.BoolOp .Or [a] pos) tA:=by
 intro wh pins s σ H Q I h
 refine isTrue_or (thn (ha pins s σ H Q I h) λc s1 e=>?_)
 cases c with
 |false=>exact isTrue_or_nil e
 |true=>exact e
theorem aqu_(ha:PT X a tA)(hb:PW X (.BoolOp .Or (b::rest) pos) tB'):PW X (.BoolOp .Or (a::b::rest) pos) (tOr tA tB'):=by
 intro wh pins s σ H Q I h
 refine isTrue_or (thn (ha pins s σ H _ I h) λc s1 ⟨H1,I1,q1⟩=>?_)
 cases c with
 |true=>exact⟨H1,I1,q1⟩
 |false=>exact hb wh pins s1 σ H1 Q I1 q1
theorem aou_(ha:PT X a tA):PT X (.UnaryOp .Not a pos) (tNot tA):=by
 intro pins s σ H Q I h
 exact isTrue_not (ha pins s σ H (λc H1=>Q (!c) H1) I h)
end
end L2
namespace L2
open PySem PySem.Spec PyProof.Rows
def SqL(K:PySem.W.Frag)(H:Hp)(a:Addr)(xs:List V):Prop :=
 Rd H a (.lst xs) ∨
  ∃(o:Obj)(its:Array Value)(n:Nat),K.lookup a=some o/\o.cls=.type "list" /\ o.dict=none/\o.data=.seq its n/\its.size<=sizeLine/\Vals xs its.toList
def SqT(K:PySem.W.Frag)(H:Hp)(a:Addr)(xs:List V):Prop :=
 Rd H a (.tup xs) ∨
  ∃(o:Obj)(its:Array Value)(n:Nat),K.lookup a=some o/\o.cls=.type "tuple" /\ o.data=.seq its n/\its.size<=sizeLine/\Vals xs its.toList
def absV:Value->Option V
 |.none=>some .non
 |.bool b=>some (.bl b)
 |.int i _=>some (.int i)
 |.str x _=>some (.str x)
 |.bytes b _=>some (.byt b)
 |.float b _=>some (.flt b)
 |.ref a=>some (.ref a)
 |.type n=>some (.ty n)
 |_=>none
theorem RelV.abs{x:V}{u:Value}(r:RelV x u):absV u=some x:=by
 cases x with
 |non=>cases r;rfl
 |bl _=>cases r;rfl
 |int _=>obtain⟨t,rfl⟩:=r;rfl
 |str _=>obtain⟨t,rfl⟩:=r;rfl
 |byt _=>obtain⟨t,rfl⟩:=r;rfl
 |flt _=>obtain⟨t,rfl⟩:=r;rfl
 |ref _=>cases r;rfl
 |ty _=>cases r;rfl
theorem RelV.inj{x y:V}{u:Value}(r:RelV x u)(q:RelV y u):x=y:=AZ (r.abs.symm.trans q.abs)
theorem Vals.inj:∀{xs ys:List V}{us:List Value},Vals xs us->Vals ys us->xs=ys
 |_,_,_,.nil,.nil=>rfl
 |_,_,_,.cons r t,.cons r' t'=>by rw[r.inj r',Vals.inj t t']
section
variable{X:Cx}{pins:List (Addr×Obj)}{σ:St}{H:Hp}{s:Shared}{a:Addr}{xs ys:List V}
theorem SqL.of{K:PySem.W.Frag}(h:H a=some (.lst xs)):SqL K H a xs:=.inl (.inl h)
theorem SqT.of{K:PySem.W.Frag}(h:H a=some (.tup xs)):SqT K H a xs:=.inl (.inl h)
theorem Inv.list(I:Inv X pins σ H s)(h:SqL X.K H a xs):∃its:List Value,Vals xs its/\PlainL s.heap a its.toArray/\xs.length<=sizeLine:=by
 rcases h with h|⟨o,its,n,hk,hc,hd,hs,hz,r⟩
 ·obtain⟨z,its,n,r,e⟩:=h.ok I.hok
  exact⟨its,r,⟨_,n,e,rfl,rfl,rfl⟩,z⟩
 ·refine⟨its.toList,r,⟨o,n,I.kIn a o hk,hc,hd,by simpa using hs⟩,?_⟩
  have e:=r.length
  simp only[AM]at e
  omega
theorem Inv.tuple(I:Inv X pins σ H s)(h:SqT X.K H a xs):∃its:List Value,Vals xs its/\IsTup s.heap a its.toArray/\xs.length<=sizeLine:=by
 rcases h with h|⟨o,its,n,hk,hc,hs,hz,r⟩
 ·obtain⟨z,its,r,p⟩:=h.ok I.hok
  exact⟨its,r,p.tup,z⟩
 ·refine⟨its.toList,r,⟨o,I.kIn a o hk,hc,n,by simpa using hs⟩,?_⟩
  have e:=r.length
  simp only[AM]at e
  omega
theorem Inv.list_inj(I:Inv X pins σ H s)(h:SqL X.K H a xs)(h':SqL X.K H a ys):xs=ys:=by
 obtain⟨its,r,⟨o,n,e,_,_,d⟩,_⟩:=I.list h
 obtain⟨its',r',⟨o',n',e',_,_,d'⟩,_⟩:=I.list h'
 rw[e]at e';cases e'
 rw[d]at d'
 injection d' with d1 _
 have:its=its':=by simpa using congrArg Array.toList d1
 subst this
 exact r.inj r'
theorem Inv.tuple_inj(I:Inv X pins σ H s)(h:SqT X.K H a xs)(h':SqT X.K H a ys):xs=ys:=by
 obtain⟨its,r,⟨o,e,_,n,d⟩,_⟩:=I.tuple h
 obtain⟨its',r',⟨o',e',_,n',d'⟩,_⟩:=I.tuple h'
 rw[e]at e';cases e'
 rw[d]at d'
 injection d' with d1 _
 have:its=its':=by simpa using congrArg Array.toList d1
 subst this
 exact r.inj r'
end
abbrev Cx.wish(X:Cx)(E:Value->Shared->Prop):Cx:={ X with xe:=E }
abbrev Cx.nox(X:Cx):Cx:=X.wish λ_ _=>False
theorem Cx.Ok.wish{X:Cx}(ok:X.Ok)(E:Value->Shared->Prop):(X.wish E).Ok :=
 ⟨ok.mod,ok.kind,ok.glob,ok.blt,ok.above,ok.inj,ok.has,ok.cab,ok.hd,ok.frames,ok.stk,ok.exf,ok.bs,ok.bsz,ok.noex,ok.exfs,ok.funs,ok.frf⟩
theorem Cx.Ok.unwish{X:Cx}{E:Value->Shared->Prop}(ok:(X.wish E).Ok):X.Ok :=
 ⟨ok.mod,ok.kind,ok.glob,ok.blt,ok.above,ok.inj,ok.has,ok.cab,ok.hd,ok.frames,ok.stk,ok.exf,ok.bs,ok.bsz,ok.noex,ok.exfs,ok.funs,ok.frf⟩
section
variable{X:Cx}{pins:List (Addr×Obj)}{σ:St}{H:Hp}{s:Shared}{E:Value->Shared->Prop}
theorem Inv.wish(I:Inv X pins σ H s)(E:Value->Shared->Prop):Inv (X.wish E) pins σ H s:=⟨I.ok.wish E,I.os,I.bare,I.base,I.loc,I.cell,I.free,I.freeC,I.pin,I.hok,I.len⟩
theorem Inv.unwish(I:Inv (X.wish E) pins σ H s):Inv X pins σ H s:=⟨I.ok.unwish,I.os,I.bare,I.base,I.loc,I.cell,I.free,I.freeC,I.pin,I.hok,I.len⟩
theorem SP.unwish{D:Ends}{f:Flow}{s':Shared}(h:SP (X.wish E) pins D f s'):SP X pins D f s':=by
 cases f with
 |next=>obtain⟨σ',H',I,q⟩:=h;exact⟨σ',H',I.unwish,q⟩
 |brk=>obtain⟨σ',H',I,q⟩:=h;exact⟨σ',H',I.unwish,q⟩
 |cont=>obtain⟨σ',H',I,q⟩:=h;exact⟨σ',H',I.unwish,q⟩
 |ret u=>obtain⟨v,σ',H',I,r,q⟩:=h;exact⟨v,σ',H',I.unwish,r,q⟩
theorem PSs.nox{st:List Stmt}{t:TS}(h:PSs X.nox st t):PSs X st t:=λpins s σ H D I hw =>
 wpAny_mono (h pins s σ H D (I.wish _) hw) (λ_ _ q=>q.unwish) λ_ _ z=>False.elim z
end
section
variable{X:Cx}{st:Stmt}{rest:List Stmt}{t u:TS}{e:Expr}{te:TE}{pos:Pos}
def arc_:TS:=λD σ H=>D.nx σ H
def tSeq(t u:TS):TS:=λD σ H=>t { D with nx:=u D } σ H
theorem qG_:PSs X [] arc_:=λ_ _ σ H _ I h=>wpAny_execs_nil ⟨σ,H,I,h⟩
theorem qe_(h1:PS X st t)(h2:PSs X rest u):PSs X (st::rest) (tSeq t u):=by
 intro pins s σ H D I h
 refine wpAny_execs_cons (thn (h1 pins s σ H { D with nx:=u D } I h) λf s1 q=>?_)
 cases f with
 |next =>
  obtain⟨σ',H',I',q⟩:=q
  exact h2 pins s1 σ' H' D I' q
 |ret v=>exact q
 |brk=>exact q
 |cont=>exact q
theorem qf_(h1:PS X st t):PSs X [st] t:=by
 intro pins s σ H D I h
 refine wpAny_execs_cons (thn (h1 pins s σ H D I h) λf s1 q=>?_)
 cases f with
 |next=>exact wpAny_execs_nil q
 |ret v=>exact q
 |brk=>exact q
 |cont=>exact q
theorem Inv.quiet{pins:List (Addr×Obj)}{σ:St}{H:Hp}{s:Shared}(I:Inv X pins σ H s):interactive X.env=false:=by simp [interactive,I.ok.kind]
def apz_(te:TE):TS:=λD σ H=>te σ H λ_ H1=>D.nx σ H1
theorem qK_(he:PE X e te)(hs:swapsWith e none pos.line X.env=pure false:=by rfl):PS X (.Expr e pos) (apz_ te):=by
 intro pins s σ H D I h
 exact wpAny_Expr_any (thn (he pins s σ H _ I h) λv s1 ⟨x,H1,I1,r1,q1⟩=>⟨σ,H1,I1,q1⟩) I.quiet hs
def tRet(te:TE):TS:=λD σ H=>te σ H D.rt
theorem qm_(he:PE X e te):PS X (.Return (some e) pos) (tRet te):=by
 intro pins s σ H D I h
 exact wpAny_Return_some (thn (he pins s σ H _ I h) λv s1 ⟨x,H1,I1,r1,q1⟩=>⟨x,σ,H1,I1,r1,q1⟩)
def tIfS(c:TT)(t u:TS):TS:=λD σ H=>c σ H λb H1=>if b=true then t D σ H1 else u D σ H1
theorem q0_{c:Expr}{a b:List Stmt}{tc:TT}(hc:PT X c tc)(ha:PSs X a t)(hb:PSs X b u):PS X (.If c a b pos) (tIfS tc t u):=by
 intro pins s σ H D I h
 refine wpAny_If (thn (hc pins s σ H _ I h) λd s1 ⟨H1,I1,q1⟩=>?_)
 cases d with
 |true=>exact ha pins s1 σ H1 D I1 q1
 |false=>exact hb pins s1 σ H1 D I1 q1
def amc_:TS:=λ_ _ _=>False
theorem jj_:PS X st amc_:=λ_ _ _ _ _ _ h=>h.elim
end
abbrev TG:=V->St->Hp->(St->Hp->Prop)->Prop
abbrev TGs:=List V->St->Hp->(St->Hp->Prop)->Prop
def PG(X:Cx)(target:Expr)(t:TG):Prop :=
 ∀(pins:List (Addr×Obj))(s:Shared)(σ:St)(H:Hp)(v:V)(u:Value)(Q:St->Hp->Prop),Inv X pins σ H s->RelV v u->t v σ H Q ->
  wpAny (model X.prog X.w) X.A (assign target X.env u) (λ_ s'=>∃σ' H',Inv X pins σ' H' s'/\Q σ' H') X.xe s
def PGs(X:Cx)(ts:List Expr)(t:TGs):Prop :=
 ∀(pins:List (Addr×Obj))(s:Shared)(σ:St)(H:Hp)(vs:List V)(us:List Value)(Q:St->Hp->Prop),Inv X pins σ H s->Vals vs us->t vs σ H Q ->
  wpAny (model X.prog X.w) X.A (assignInOrder ((assignEach ts X.env).map (·.2)) us) (λ_ s'=>∃σ' H',Inv X pins σ' H' s'/\Q σ' H') X.xe s
abbrev TSet:=V->V->V->Hp->(Hp->Prop)->Prop
def PSet(X:Cx)(t:TSet):Prop :=
 ∀(pins:List (Addr×Obj))(s:Shared)(σ:St)(H:Hp)(o i v:V)(ov iv u:Value)(Q:Hp->Prop),Inv X pins σ H s->RelV o ov->RelV i iv->RelV v u->t o i v H Q ->
  wpAny (model X.prog X.w) X.A (setItem ov iv u) (λ_ s'=>∃H',Inv X pins σ H' s'/\Q H') X.xe s
section
variable{X:Cx}{pos:Pos}
def jy_(i:Nat):TG:=λv σ H Q=>Q (σ.set i (some v)) H
theorem qj_{i:Nat}{x:Str}(hN:X.N.Nodup)(hi:X.N[i]?=some x)(hx:Loc X.env.scope x)(hf:X.fn x=true∨X.env.scope.names.lookup x=some .local:=by first|exact .inl rfl|exact .inr rfl|assumption):PG X (.Name x pos) (jy_ i):=by
 intro pins s σ H v u Q I r h
 exact wpAny_assign_Name (aci_ I hN hi hx r (λs' I'=>⟨_,H,I',h⟩) hf)
def gNil:TGs:=λvs σ H Q=>vs=[]/\Q σ H
def ap6_(t:TG)(u:TGs):TGs:=λvs σ H Q=>∃v r,vs=v::r/\t v σ H λσ' H'=>u r σ' H' Q
theorem q6_:PGs X [] gNil:=by
 intro pins s σ H vs us Q I r h
 obtain⟨e,h⟩:=h
 subst e
 cases r
 exact assignInOrder_nil ⟨σ,H,I,h⟩
theorem qp_{e:Expr}{es:List Expr}{t:TG}{u:TGs}(h1:PG X e t)(h2:PGs X es u)
  (hs:(assignEach (e::es) X.env).map (·.2)=assign e X.env::(assignEach es X.env).map (·.2):=by rfl):PGs X (e::es) (ap6_ t u):=by
 intro pins s σ H vs us Q I r h
 obtain⟨v,vr,e1,h⟩:=h
 subst e1
 cases r with
 |cons r rr =>
  rw[hs]
  refine assignInOrder_cons (thn (h1 pins s σ H _ _ _ I r h) λ_ s1 ⟨σ1,H1,I1,q1⟩=>?_)
  exact h2 pins s1 σ1 H1 _ _ Q I1 rr q1
def gTup(K:PySem.W.Frag)(n:Nat)(t:TGs):TG:=λv σ H Q=>∃a xs,v=.ref a/\SqT K H a xs/\xs.length=n/\t xs σ H Q
theorem zh_{es:List Expr}{k:Nat}{t:TGs}{n:Nat}(hc:X.calm=true)(h:PGs X es t)
  (hn:(assignEach es X.env).length=n:=by rfl) (hst:(assignEach es X.env).findIdx? (·.1)=none:=by rfl):PG X (.Tuple es k pos) (gTup X.K n t):=by
 intro pins s σ H v u Q I r hw
 obtain⟨a,xs,e1,hq,hl,hw⟩:=hw
 subst e1
 cases r
 obtain⟨its,rv,ht,hz⟩:=I.tuple hq
 refine assign_Tuple_tuple (I.ok.hd hc) ht (by simp [hn,<-hl,rv.length]) hst λh' hx=>?_
 have I1:Inv X pins σ H { s with heap:=h' }:=I.kept (t':=s.toks) λb o e=>hx b o (Ab (AK e)) e
 exact h pins _ σ H xs _ Q I1 (by simpa using rv) hw
def gSub(to ti:TE)(t:TSet):TG:=λv σ H Q=>to σ H λo H1=>ti σ H1 λi H2=>t o i v H2 λH3=>Q σ H3
theorem aol_{o i:Expr}{to ti:TE}{t:TSet}(ho:PE X o to)(hi:PE X i ti)(hs:PSet X t)
  (ha:∀v,assign (.Subscript o i pos) X.env v=(do
   let ov <-holding [v] (eval o X.env)
   let iv <-holding [v,ov] (eval i X.env)
   standAt pos
   holding [v,ov,iv] (setItem ov iv v)
   release [v,ov,iv] []):=by intro _;rfl):PG X (.Subscript o i pos) (gSub to ti t):=by
 intro pins s σ H v u Q I r h
 rw[ha]
 refine wpAny_bind (wpAny_holding (thn (ho pins s σ H _ I h) λov s1 ⟨x,H1,I1,r1,q1⟩=>?_))
 refine wpAny_bind (wpAny_holding (thn (hi pins s1 σ H1 _ I1 q1) λiv s2 ⟨y,H2,I2,r2,q2⟩=>?_))
 refine wpAny_bind (wpAny_standAt (wpAny_bind (wpAny_holding (thn (hs pins s2 σ H2 x y v ov iv u _ I2 r1 r2 r q2) λ_ s3 ⟨H3,I3,q3⟩=>?_))))
 exact wpAny_release ⟨σ,H3,I3,q3⟩
def tAsg(te:TE)(g:TG):TS:=λD σ H=>te σ H λx H1=>g x σ H1 D.nx
theorem ahu_{tg e:Expr}{te:TE}{g:TG}(he:PE X e te)(hg:PG X tg g)(hs:swapsWithSole [tg] e pos.line X.env=pure false:=by rfl)(hw:swappedStores [tg] e X.env=pure none:=by rfl)
  (h1:(assignEach [tg] X.env).map (·.2)=[assign tg X.env]:=by rfl):PS X (.Assign [tg] e pos) (tAsg te g):=by
 intro pins s σ H D I h
 refine wpAny_Assign_stores (thn (he pins s σ H _ I h) λv s1 ⟨x,H1,I1,r1,q1⟩=>?_) hs hw
 rw[h1]
 exact thn (hg pins s1 σ H1 x v _ I1 r1 q1) λ_ s2 q=>q
theorem qo_{i:Nat}{x:Str}{e:Expr}{te:TE}{pos':Pos}(hN:X.N.Nodup)(hi:X.N[i]?=some x)(hx:Loc X.env.scope x)(he:PE X e te)(hs:swapsWith e (some (.Name x pos')) pos.line X.env=pure false:=by rfl)(hf:X.fn x=true∨X.env.scope.names.lookup x=some .local:=by first|exact .inl rfl|exact .inr rfl|assumption) :
  PS X (.Assign [.Name x pos'] e pos) (tAsg te (jy_ i)):=by
 intro pins s σ H D I h
 refine wpAny_Assign_Name (thn (he pins s σ H _ I h) λv s1 ⟨y,H1,I1,r1,q1⟩=>?_) hs
 exact aci_ I1 hN hi hx r1 (λs2 I2=>⟨_,H1,I2,q1⟩) hf
end
structure It where
 go:Nat->Hp->Prop
 yld:Nat->Hp->V->Hp->Prop
 stop:Nat->Hp->Prop
def jl_(X:Cx)(pins:List (Addr×Obj))(H:Hp)(b:Addr):Prop :=
 H b=none/\b≠X.env.locals/\b∉X.fs/\(b∈X.ex∨X.s₀.heap.objs.size<=b)/\(∀x c,X.env.cells.lookup x=some c->c≠b)/\∀p∈X.pn++pins,p.1≠b
theorem Inv.fpOk{X:Cx}{pins:List (Addr×Obj)}{σ:St}{H H':Hp}{s:Shared}{b:Addr}(I:Inv X pins σ H s)(hb:s.heap.objs.size<=b)(hn:H' b=none):jl_ X pins H' b:=by
 refine⟨hn,Bm (Ao I.lt hb),I.nofs hb,.inr (Ac I.sz hb),λx c e z=>?_,λp hp z=>?_⟩
 ·obtain⟨v,q⟩:=I.cell x c e
  exact absurd (Ao q.lt (by rw[z];exact hb)) (Bl _)
 ·exact absurd (Ao (AK (I.pin p hp).1) (by rw[z];exact hb)) (Bl _)
structure Turn(P:Program)(w:World)(K:PySem.W.Frag)(tg:Expr)(J:It)(fp:List Addr)(it:Addr)(tn:Nat->Heap->Prop):Prop where
 mem:it∈fp
 obj:∀i h,tn i h->∀b∈fp,∃o,h.get? b=some o/\∀v,o.data≠.cell v
 keep:∀i h h',tn i h->(∀b∈fp,∀o,h.get? b=some o->h'.get? b=some o)->tn i h'
 item:∀(X:Cx),X.prog=P->X.w=w->X.K=K->X.calm=true->∀(i:Nat)(pins:List (Addr×Obj))(s:Shared)(σ:St)(H:Hp)(E:Value->Shared->Prop),Inv X pins σ H s->(∀b∈fp,jl_ X pins H b)->tn i s.heap->J.go i H ->
  wpAny (model P w) X.A (pyNext (.ref it)) (λr s1=>∃u,r=some u /\
   wpAny (model P w) X.A (letOwnedTupleGo tg (.ref it) u) (λ_ s2=>∃x H',Inv X pins σ H' s2/\RelV x u/\J.yld i H x H'/\tn (i+1) s2.heap/\∀b∈fp,H' b=none) E s1) E s
 done:∀(X:Cx),X.prog=P->X.w=w->X.K=K->X.calm=true->∀(i:Nat)(pins:List (Addr×Obj))(s:Shared)(σ:St)(H:Hp)(E:Value->Shared->Prop),Inv X pins σ H s->(∀b∈fp,jl_ X pins H b)->tn i s.heap->J.stop i H ->
  wpAny (model P w) X.A (pyNext (.ref it)) (λr s1=>r=none/\Inv X pins σ H s1) E s
 self:∀(A:Around)(i:Nat)(s:Shared)(Q:Value->Shared->Prop)(E:Value->Shared->Prop),tn i s.heap->Q (.ref it) s->wpAny (model P w) A (pyIter (.ref it)) Q E s
abbrev TI:=St->Hp->(It->Hp->Prop)->Prop
def PIE(X:Cx)(pins:List (Addr×Obj))(σ:St)(tg:Expr)(R:It->Hp->Prop)(itv:Value)(s2:Shared):Prop :=
 ∃(it:Addr)(fp:List Addr)(tn:Nat->Heap->Prop)(J:It)(H':Hp),itv=.ref it/\Inv X pins σ H' s2/\Turn X.prog X.w X.K tg J fp it tn/\tn 0 s2.heap/\(∀b∈fp,jl_ X pins H' b)/\R J H'
def PI(X:Cx)(tg iter:Expr)(wi:TI):Prop :=
 ∀(pins:List (Addr×Obj))(s:Shared)(σ:St)(H:Hp)(R:It->Hp->Prop),Inv X pins σ H s->wi σ H R ->
  wpAny (model X.prog X.w) X.A (eval iter X.env) (λv s1=>wpAny (model X.prog X.w) X.A (pyIter v) (PIE X pins σ tg R) X.xe s1) X.xe s
theorem aa0_{M:Model}{A:Around}{E:Value->Shared->Prop}{s:Shared}{tg:Expr}{it:Addr}{u:Value}{o:Obj}{n:String}{vs:Array Value}{Q:Unit->Shared->Prop}(ho:s.heap.get? it=some o)(hc:o.cls=.type n)(hd:o.data=.fields vs)
  (hn:["enumerate", "zip", "dict_itemiterator", "dict_reverseitemiterator", "odict_iterator", "itertools.zip_longest", "itertools.pairwise"].contains n=false) (hQ:Q () s):wpAny M A (letOwnedTupleGo tg (.ref it) u) Q E s:=by
 unfold letOwnedTupleGo
 cases tg<;>first
  |exact wpAny_pure hQ
  | (cases u<;>first
    |exact wpAny_pure hQ
    | (refine wpAny_bind (wpAny_load ho ?_)
       rw[hc,hd]
       show wpAny M A (if (["enumerate", "zip", "dict_itemiterator", "dict_reverseitemiterator", "odict_iterator", "itertools.zip_longest", "itertools.pairwise"].contains n&&vs[0]?==some (rawInt _))=true then _ else _) Q E s
       rw[if_neg (by intro h;rw[hn,Bool.false_and]at h;cases h)]
       exact wpAny_pure hQ))
def Itl(K:PySem.W.Frag)(a:Addr):It :=
 ⟨λi H=>∃xs x,SqL K H a xs/\xs[i]?=some x,λi H x H'=>H'=H/\∀xs,SqL K H a xs->xs[i]?=some x,λi H=>∃xs,SqL K H a xs/\xs.length<=i⟩
def Itt(K:PySem.W.Frag)(a:Addr):It :=
 ⟨λi H=>∃xs x,SqT K H a xs/\xs[i]?=some x,λi H x H'=>H'=H/\∀xs,SqT K H a xs->xs[i]?=some x,λi H=>∃xs,SqT K H a xs/\xs.length<=i⟩
def Itr(lo:Int)(n:Nat):It:=⟨λi _=>i<n,λi H x H'=>H'=H/\x=.int (lo+i),λi _=>n<=i⟩
theorem ahk_{P:Program}{w:World}{K:PySem.W.Frag}{tg:Expr}(a it:Addr):Turn P w K tg (Itl K a) [it] it (λi h=>h.IsListIter it a i) where
 mem:=by simp
 obj:=λi h st b hb=>by
  have e:b=it:=by simpa using hb
  subst e
  obtain⟨o,e,c,d⟩:=st
  exact⟨o,e,λv z=>by rw[d]at z;cases z⟩
 keep:=λi h h' st k=>st.at λo e=>k it (by simp) o e
 item:=by
  intro X hP hw hK hc i pins s σ H E I hf st hg
  subst hP hw hK
  obtain⟨xs,x,hq,hx⟩:=hg
  obtain⟨its,rv,p,hz⟩:=I.list hq
  obtain⟨u,hu,ru⟩:=rv.get hx
  obtain⟨f0,f1,f2,f3,f4,f5⟩:=hf it (by simp)
  refine wpAny_pyNext_list_item st p.isList (x:=u) (by simpa using hu) λh' st' sb=>?_
  have I1:Inv X pins σ H { s with heap:=h' }:=I.turned (t':=s.toks) (λb o hb e=>(sb.2 b hb).trans e) f0 f1 f3 f4 f5
  obtain⟨o,e,c,d⟩:=id st'
  exact⟨u,rfl,aa0_ (s:={ s with heap:=h' }) e c d (by decide) ⟨x,H,I1,ru,⟨rfl,λys hy=>by rw[I.list_inj hy hq];exact hx⟩,st',λb hb=>(hf b hb).1⟩⟩
 done:=by
  intro X hP hw hK hc i pins s σ H E I hf st hg
  subst hP hw hK
  obtain⟨xs,hq,hx⟩:=hg
  obtain⟨its,rv,p,hz⟩:=I.list hq
  obtain⟨f0,f1,f2,f3,f4,f5⟩:=hf it (by simp)
  have hl:=rv.length
  exact wpAny_pyNext_list_end (I.ok.hd hc) st p.isList (by simp;omega) λh' eb=>⟨rfl,I.turned (t':=s.toks) (λb o hb e=>eb b o hb e) f0 f1 f3 f4 f5⟩
 self:=λ_ _ _ _ _ st h=>wpAny_pyIter_listiter st h
theorem aeq_{P:Program}{w:World}{K:PySem.W.Frag}{tg:Expr}(a it:Addr):Turn P w K tg (Itt K a) [it] it (λi h=>h.IsTupleIter it a i) where
 mem:=by simp
 obj:=λi h st b hb=>by
  have e:b=it:=by simpa using hb
  subst e
  obtain⟨o,e,c,d⟩:=st
  exact⟨o,e,λv z=>by rw[d]at z;cases z⟩
 keep:=λi h h' st k=>st.at λo e=>k it (by simp) o e
 item:=by
  intro X hP hw hK hc i pins s σ H E I hf st hg
  subst hP hw hK
  obtain⟨xs,x,hq,hx⟩:=hg
  obtain⟨its,rv,p,hz⟩:=I.tuple hq
  obtain⟨u,hu,ru⟩:=rv.get hx
  obtain⟨f0,f1,f2,f3,f4,f5⟩:=hf it (by simp)
  refine wpAny_pyNext_tuple_item st (show s.heap.IsTuple a its.toArray from p) (x:=u) (by simpa using hu) λh' st' sb=>?_
  have I1:Inv X pins σ H { s with heap:=h' }:=I.turned (t':=s.toks) (λb o hb e=>(sb.2 b hb).trans e) f0 f1 f3 f4 f5
  obtain⟨o,e,c,d⟩:=id st'
  exact⟨u,rfl,aa0_ (s:={ s with heap:=h' }) e c d (by decide) ⟨x,H,I1,ru,⟨rfl,λys hy=>by rw[I.tuple_inj hy hq];exact hx⟩,st',λb hb=>(hf b hb).1⟩⟩
 done:=by
  intro X hP hw hK hc i pins s σ H E I hf st hg
  subst hP hw hK
  obtain⟨xs,hq,hx⟩:=hg
  obtain⟨its,rv,p,hz⟩:=I.tuple hq
  obtain⟨f0,f1,f2,f3,f4,f5⟩:=hf it (by simp)
  have hl:=rv.length
  exact wpAny_pyNext_tuple_end (I.ok.hd hc) st (show s.heap.IsTuple a its.toArray from p) (by simp;omega) λh' eb=>⟨rfl,I.turned (t':=s.toks) (λb o hb e=>eb b o hb e) f0 f1 f3 f4 f5⟩
 self:=λ_ _ _ _ _ st h=>wpAny_pyIter_tupleiter st h
theorem afd_{P:Program}{w:World}{K:PySem.W.Frag}{tg:Expr}(it:Addr)(lo:Int)(n:Nat):Turn P w K tg (Itr lo n) [it] it (λi h=>IsRangeIter h it (lo+(i:Nat)*1) ((n:Int)-(i:Nat)) 1) where
 mem:=by simp
 obj:=λi h st b hb=>by
  have e:b=it:=by simpa using hb
  subst e
  exact⟨_,st,λv z=>by
   have z':Data.fields _=Data.cell v:=z
   cases z'⟩
 keep:=λi h h' st k=>k it (by simp) _ st
 item:=by
  intro X hP hw hK hc i pins s σ H E I hf st hg
  subst hP hw hK
  obtain⟨f0,f1,f2,f3,f4,f5⟩:=hf it (by simp)
  have W:=Walks.range (prog:=X.prog) (w:=X.w) (I.ok.hd hc) it lo 1 n
  refine W.item i s _ _ hg st λv h' tk hv st' kk=>?_
  obtain⟨t,rfl⟩:=hv
  have I1:Inv X pins σ H { s with heap:=h',toks:=tk }:=I.turned (λb o hb e=>kk b o (by simpa using hb) e) f0 f1 f3 f4 f5
  refine⟨_,rfl,aa0_ (s:={ s with heap:=h',toks:=tk }) (n := "range_iterator") st' rfl rfl (by decide) ⟨.int (lo+i),H,I1,⟨t,?_⟩,⟨rfl,rfl⟩,st',λb hb=>(hf b hb).1⟩⟩
  rw[Int.mul_one]
 done:=by
  intro X hP hw hK hc i pins s σ H E I hf st hg
  subst hP hw hK
  obtain⟨f0,f1,f2,f3,f4,f5⟩:=hf it (by simp)
  exact wpAny_pyNext_range_end (I.ok.hd hc) st (by have:n<=i:=hg;omega) λh' eb=>⟨rfl,I.turned (t':=s.toks) (λb o hb e=>eb b o hb e) f0 f1 f3 f4 f5⟩
 self:=λ_ _ _ _ _ st h=>wpAny_pyIter_rangeiter st h
end L2
namespace L2
open PySem PySem.Spec PyProof.Rows
section
variable{X:Cx}{tg:Expr}
def aqi_(K:PySem.W.Frag)(tl:TE):TI:=λσ H R=>tl σ H λx H1=>∃a,x=.ref a/\(∃xs,SqL K H1 a xs)/\R (Itl K a) H1
def iTup(K:PySem.W.Frag)(tl:TE):TI:=λσ H R=>tl σ H λx H1=>∃a,x=.ref a/\(∃xs,SqT K H1 a xs)/\R (Itt K a) H1
theorem qz_{l:Expr}{tl:TE}(hl:PE X l tl):PI X tg l (aqi_ X.K tl):=by
 intro pins s σ H R I h
 refine thn (hl pins s σ H _ I h) λv s1 ⟨x,H1,I1,r1,q1⟩=>?_
 obtain⟨a,e,⟨xs,hq⟩,q⟩:=q1
 subst e
 cases r1
 obtain⟨its,rv,p,hz⟩:=I1.list hq
 refine wpAny_pyIter_list p.isList ?_
 refine⟨s1.heap.objs.size,[s1.heap.objs.size],_,_,H1,rfl,I1.kept (t':=s1.toks) λb o e=>AB _ e,ahk_ a _,⟨_,AI _ rfl,rfl,rfl⟩,λb hb=>?_,q⟩
 have e:b=s1.heap.objs.size:=by simpa using hb
 subst e
 exact I1.fpOk (AF _) (I1.hok.fresh (AF _))
theorem jB_{l:Expr}{tl:TE}(hl:PE X l tl):PI X tg l (iTup X.K tl):=by
 intro pins s σ H R I h
 refine thn (hl pins s σ H _ I h) λv s1 ⟨x,H1,I1,r1,q1⟩=>?_
 obtain⟨a,e,⟨xs,hq⟩,q⟩:=q1
 subst e
 cases r1
 obtain⟨its,rv,p,hz⟩:=I1.tuple hq
 refine wpAny_pyIter_tuple (show s1.heap.IsTuple a its.toArray from p) ?_
 refine⟨s1.heap.objs.size,[s1.heap.objs.size],_,_,H1,rfl,I1.kept (t':=s1.toks) λb o e=>AB _ e,aeq_ a _,⟨_,AI _ rfl,rfl,rfl⟩,λb hb=>?_,q⟩
 have e:b=s1.heap.objs.size:=by simpa using hb
 subst e
 exact I1.fpOk (AF _) (I1.hok.fresh (AF _))
theorem abu_{pins:List (Addr×Obj)}{σ:St}{H:Hp}{s:Shared}{R:It->Hp->Prop}{E:Value->Shared->Prop}{lo hi:Int}{t u v:Tok}{tk:Nat}(I:Inv X pins σ H s)(h1:-(2^62)<=lo)(h2:lo<2^62)(h3:-(2^62)<=hi)(h4:hi<2^62)
  (q:R (Itr lo (hi-lo).toNat) H):wpAny (model X.prog X.w) X.A (pyIter (.ref s.heap.objs.size)) (PIE X pins σ tg R) E { s with heap:=s.heap.push { cls:=.type "range",data:=.fields #[.int lo t,.int hi u,.int 1 v] },toks:=tk }:=by
 refine wpAny_pyIter_range (IsRange.new ..) (small_one h1 h2 h3 h4) ?_
 have I1:Inv X pins σ H { s with heap:=s.heap.push { cls:=.type "range",data:=.fields #[.int lo t,.int hi u,.int 1 v] },toks:=tk }:=I.kept λb o e=>AB _ e
 refine⟨(s.heap.push { cls:=.type "range",data:=.fields #[.int lo t,.int hi u,.int 1 v] }).objs.size,[(s.heap.push { cls:=.type "range",data:=.fields #[.int lo t,.int hi u,.int 1 v] }).objs.size],_,_,H,rfl,
  I1.kept (t':=tk) λb o e=>AB _ e,afd_ _ lo (hi-lo).toNat,?_,λb hb=>?_,q⟩
 ·have e1:lo+((0:Nat):Int)*1=lo:=by simp
  have e2:(((hi-lo).toNat:Nat):Int)-((0:Nat):Int)=Builtin.Range.rangeSize lo hi 1:=by rw[rangeSize_one];split<;>omega
  show IsRangeIter _ _ (lo+((0:Nat):Int)*1) ((((hi-lo).toNat:Nat):Int)-((0:Nat):Int)) 1
  rw[e1,e2]
  exact AI _ rfl
 ·have e:b=(s.heap.push { cls:=.type "range",data:=.fields #[.int lo t,.int hi u,.int 1 v] }).objs.size:=by simpa using hb
  subst e
  exact I1.fpOk (AF _) (I1.hok.fresh (AF _))
def aqg_(ta:TA):TI:=λσ H R=>ta σ H λvs H1=>∃j:Int,vs=[.int j]/\-(2^62)<=j/\j<2^62/\R (Itr 0 j.toNat) H1
def aqq_(ta:TA):TI:=λσ H R=>ta σ H λvs H1=>∃i j:Int,vs=[.int i,.int j]/\(-(2^62)<=i/\i<2^62/\-(2^62)<=j/\j<2^62)/\R (Itr i (j-i).toNat) H1
theorem zw_{a:Expr}{ta:TA}{p pos:Pos}(hg:Gl X "range")(hm:X.mg "range" = none)(ha:PA X [a] ta)(hs:starEach [a] X.env=[(false,eval a X.env)]:=by rfl):PI X tg (.Call (.Name "range" p) [a] [] pos) (aqg_ ta):=by
 intro pins s σ H R I h
 refine Call_ (z4_ I hg hm boot_range (Bi (thn (ha pos pins s σ H _ I h) λus s1 ⟨vs,H1,I1,r1,q1⟩=>?_) hs rfl))
 obtain⟨j,e,q1,q2,q⟩:=q1
 subst e
 cases r1 with
 |cons r rr =>
  cases rr
  obtain⟨t,rfl⟩:=r
  exact call_range_1 (abu_ I1 (by omega) (by omega) q1 q2 (by simpa using q))
theorem ag8_{a b:Expr}{ta:TA}{p pos:Pos}(hg:Gl X "range")(hm:X.mg "range" = none)(ha:PA X [a,b] ta)(hs:starEach [a,b] X.env=[(false,eval a X.env),(false,eval b X.env)]:=by rfl)(hs2:starEach [b] X.env=[(false,eval b X.env)]:=by rfl) :
  PI X tg (.Call (.Name "range" p) [a,b] [] pos) (aqq_ ta):=by
 intro pins s σ H R I h
 refine Call_ (z4_ I hg hm boot_range (Bi (thn (ha pos pins s σ H _ I h) λus s1 ⟨vs,H1,I1,r1,q1⟩=>?_) (by rw[hs,hs2]) (by rw[hs2];rfl)))
 obtain⟨i,j,e,⟨q1,q2,q3,q4⟩,q⟩:=q1
 subst e
 cases r1 with
 |cons r rr =>
  cases rr with
  |cons r' rr =>
   cases rr
   obtain⟨t,rfl⟩:=r
   obtain⟨t',rfl⟩:=r'
   exact call_range_2 (abu_ I1 q1 q2 q3 q4 q)
def tFor(wi:TI)(g:TG)(tb:TS):TS:=λD σ H=>wi σ H λJ H1=>∃W:Nat->Nat->St->Hp->Prop,(∃m,W 0 m σ H1)/\∀i m σ H,W i m σ H ->
 (J.stop i H/\D.nx σ H)∨(J.go i H/\∃N:St->Hp->Prop,(∀σ' H',N σ' H'->∃m',m'<m/\W (i+1) m' σ' H')/\∀x H',J.yld i H x H'->g x σ H' λσ2 H2=>tb { D with nx:=N,ct:=N,bk:=D.nx } σ2 H2)
def xx_(fp:List Addr)(h:Heap):List (Addr×Obj):=fp.filterMap λb=>(h.get? b).map λo=>(b,o)
theorem jc_{fp:List Addr}{h:Heap}{b:Addr}{o:Obj}(hb:b∈fp)(e:h.get? b=some o):(b,o)∈xx_ fp h:=List.mem_filterMap.mpr ⟨b,hb,by rw[e];rfl⟩
theorem agr_{fp:List Addr}{h:Heap}{p:Addr×Obj}(hp:p∈xx_ fp h):p.1∈fp/\h.get? p.1=some p.2:=by
 obtain⟨b,hb,e⟩:=List.mem_filterMap.mp hp
 cases q:h.get? b with
 |none=>rw[q]at e;cases e
 |some o =>
  rw[q]at e
  have e':(b,o)=p:=AZ e
  subst e'
  exact⟨hb,q⟩
theorem Inv.pinned{pins:List (Addr×Obj)}{σ:St}{H:Hp}{s:Shared}{fp:List Addr}(I:Inv X pins σ H s)(hf:∀b∈fp,jl_ X pins H b)(ho:∀b∈fp,∃o,s.heap.get? b=some o/\∀v,o.data≠.cell v):Inv X (pins++xx_ fp s.heap) σ H s :=
 I.pins_of λp hp=>(Ai.mp hp).elim (λz=>I.pin p (Af _ z)) λz=>by
  obtain⟨hb,e⟩:=agr_ z
  obtain⟨f0,f1,f2,_⟩:=hf p.1 hb
  obtain⟨o,e',d⟩:=ho p.1 hb
  rw[e]at e';cases e'
  exact⟨e,f0,f1,f2,d⟩
theorem Inv.unpinned{pins pl:List (Addr×Obj)}{σ:St}{H:Hp}{s:Shared}(I:Inv X (pins++pl) σ H s):Inv X pins σ H s:=I.pins_of λp hp=>I.pin p (Af _ (At _ hp))
theorem qE_{iter:Expr}{body:List Stmt}{wi:TI}{g:TG}{tb:TS}{pos:Pos}(hp:PassesOwn (model X.prog X.w) X.A X.env X.xe)(hc:X.calm=true)(hi:PI X tg iter wi)(hg:PG X tg g)(hb:PSs X body tb)
  (hs:∀x,foldedSetIterable iter X.env x=pure x:=by intro _;rfl):PS X (.For tg iter body [] pos) (tFor wi g tb):=by
 intro pins s σ H D I h
 refine wpAny_For (thn (hi pins s σ H _ I h) λv s1 h1=>thn h1 λitv s2 h2=>?_) hs
 obtain⟨it,fp,tn,J,H2,e,I2,T,st2,f2,W,⟨m0,w0⟩,turn⟩:=h2
 subst e
 have stat:∀{H':Hp},(∀b∈fp,H' b=none)->∀b∈fp,jl_ X pins H' b:=λhn b hb=>⟨hn b hb,(f2 b hb).2⟩
 refine codeAny_forLoop_any (λn s'=>∃i σ' H',Inv X pins σ' H' s'/\tn i s'.heap/\(∀b∈fp,H' b=none)/\W i n σ' H') ?_ m0 ⟨0,σ,H2,I2,st2,λb hb=>(f2 b hb).1,w0⟩
 rintro n s3 ⟨i,σ3,H3,I3,st3,fr3,w3⟩
 rcases turn i n σ3 H3 w3 with⟨stop,qn⟩|⟨go,N,hN,step⟩
 ·refine wpAny_passesOwn hp (thn (T.done X rfl rfl rfl hc i pins s3 σ3 H3 X.xe I3 (stat fr3) st3 stop) λr s4 ⟨hr,I4⟩=>?_)
  subst hr
  exact wpAny_execs_nil ⟨σ3,H3,I4,qn⟩
 ·refine wpAny_passesOwn hp (thn (T.item X rfl rfl rfl hc i pins s3 σ3 H3 X.xe I3 (stat fr3) st3 go) λr s4 ⟨u,hr,h4⟩=>?_)
  subst hr
  refine wpAny_passesOwn hp (thn h4 λ_ s5 ⟨x,H5,I5,r5,y5,st5,fr5⟩=>?_)
  have I5':=I5.pinned (stat fr5) (T.obj _ _ st5)
  refine wpAny_passesOwn hp (thn (hg _ s5 σ3 H5 x u _ I5' r5 (step x H5 y5)) λ_ s6 ⟨σ6,H6,I6,q6⟩=>?_)
  refine wpAny_passesOwn hp (thn (hb _ s6 σ6 H6 _ I6 q6) λf s7 q7=>?_)
  have again:∀{σ7:St}{H7:Hp},Inv X (pins++xx_ fp s5.heap) σ7 H7 s7->N σ7 H7->∃m,m<n/\∃i σ' H',Inv X pins σ' H' s7/\tn i s7.heap/\(∀b∈fp,H' b=none)/\W i m σ' H':=λ{σ7 H7} I7 n7=>by
   obtain⟨m',hm,w7⟩:=hN σ7 H7 n7
   refine⟨m',hm,i+1,σ7,H7,I7.unpinned,T.keep _ _ _ st5 λb hb o e=>(I7.pin (b,o) (Af _ (Af _ (jc_ hb e)))).1,λb hb=>?_,w7⟩
   obtain⟨o,e,d⟩:=T.obj _ _ st5 b hb
   exact(I7.pin (b,o) (Af _ (Af _ (jc_ hb e)))).2.1
  cases f with
  |next=>obtain⟨σ7,H7,I7,n7⟩:=q7;exact again I7 n7
  |cont=>obtain⟨σ7,H7,I7,n7⟩:=q7;exact again I7 n7
  |brk=>obtain⟨σ7,H7,I7,q7⟩:=q7;exact⟨σ7,H7,I7.unpinned,q7⟩
  |ret v=>obtain⟨x7,σ7,H7,I7,r7,q7⟩:=q7;exact⟨x7,σ7,H7,I7.unpinned,r7,q7⟩
end
theorem qL_{K:PySem.W.Frag}{a:Addr}{xs:List V}{g:TG}{tb:TS}{D:Ends}{σ:St}{H:Hp}(Pv:Nat->St->Hp->Prop)(h0:Pv 0 σ H)(hl:∀i σ H,i<=xs.length->Pv i σ H->SqL K H a xs)
  (hs:∀i x σ H,xs[i]?=some x->Pv i σ H->g x σ H λσ2 H2=>tb { D with nx:=Pv (i+1),ct:=Pv (i+1),bk:=D.nx } σ2 H2) (hd:∀σ H,Pv xs.length σ H->D.nx σ H) :
  ∃W:Nat->Nat->St->Hp->Prop,(∃m,W 0 m σ H)/\∀i m σ H,W i m σ H ->
   ((Itl K a).stop i H/\D.nx σ H)∨((Itl K a).go i H/\∃N:St->Hp->Prop,(∀σ' H',N σ' H'->∃m',m'<m/\W (i+1) m' σ' H')/\∀x H',(Itl K a).yld i H x H'->g x σ H' λσ2 H2=>tb { D with nx:=N,ct:=N,bk:=D.nx } σ2 H2):=by
 refine⟨λi m σ H=>m=xs.length-i/\i<=xs.length/\Pv i σ H,⟨xs.length,by simp,An _,h0⟩,?_⟩
 rintro i m σ H ⟨rfl,hi,p⟩
 have q:=hl i σ H hi p
 by_cases hlt:i<xs.length
 ·refine .inr ⟨⟨xs,xs[i],q,by simp [hlt]⟩,Pv (i+1),λσ' H' p'=>⟨xs.length-(i+1),by omega,rfl,hlt,p'⟩,λx H' y=>?_⟩
  obtain⟨e,y⟩:=y
  subst e
  exact hs i x σ _ (y xs q) p
 ·have e:i=xs.length:=by omega
  subst e
  exact .inl ⟨⟨xs,q,AF _⟩,hd σ H p⟩
theorem ad6_{K:PySem.W.Frag}{a:Addr}{xs:List V}{g:TG}{tb:TS}{D:Ends}{σ:St}{H:Hp}(Pv:Nat->St->Hp->Prop)(h0:Pv 0 σ H)(hl:∀i σ H,i<=xs.length->Pv i σ H->SqT K H a xs)
  (hs:∀i x σ H,xs[i]?=some x->Pv i σ H->g x σ H λσ2 H2=>tb { D with nx:=Pv (i+1),ct:=Pv (i+1),bk:=D.nx } σ2 H2) (hd:∀σ H,Pv xs.length σ H->D.nx σ H) :
  ∃W:Nat->Nat->St->Hp->Prop,(∃m,W 0 m σ H)/\∀i m σ H,W i m σ H ->
   ((Itt K a).stop i H/\D.nx σ H)∨((Itt K a).go i H/\∃N:St->Hp->Prop,(∀σ' H',N σ' H'->∃m',m'<m/\W (i+1) m' σ' H')/\∀x H',(Itt K a).yld i H x H'->g x σ H' λσ2 H2=>tb { D with nx:=N,ct:=N,bk:=D.nx } σ2 H2):=by
 refine⟨λi m σ H=>m=xs.length-i/\i<=xs.length/\Pv i σ H,⟨xs.length,by simp,An _,h0⟩,?_⟩
 rintro i m σ H ⟨rfl,hi,p⟩
 have q:=hl i σ H hi p
 by_cases hlt:i<xs.length
 ·refine .inr ⟨⟨xs,xs[i],q,by simp [hlt]⟩,Pv (i+1),λσ' H' p'=>⟨xs.length-(i+1),by lia,rfl,hlt,p'⟩,λx H' y=>?_⟩
  obtain⟨e,y⟩:=y
  subst e
  exact hs i x σ _ (y xs q) p
 ·have e:i=xs.length:=by lia
  subst e
  exact .inl ⟨⟨xs,q,AF _⟩,hd σ H p⟩
theorem z3_{lo:Int}{n:Nat}{g:TG}{tb:TS}{D:Ends}{σ:St}{H:Hp}(Pv:Nat->St->Hp->Prop)(h0:Pv 0 σ H)
  (hs:∀i σ H,i<n->Pv i σ H->g (.int (lo+i)) σ H λσ2 H2=>tb { D with nx:=Pv (i+1),ct:=Pv (i+1),bk:=D.nx } σ2 H2) (hd:∀σ H,Pv n σ H->D.nx σ H) :
  ∃W:Nat->Nat->St->Hp->Prop,(∃m,W 0 m σ H)/\∀i m σ H,W i m σ H ->
   ((Itr lo n).stop i H/\D.nx σ H)∨((Itr lo n).go i H/\∃N:St->Hp->Prop,(∀σ' H',N σ' H'->∃m',m'<m/\W (i+1) m' σ' H')/\∀x H',(Itr lo n).yld i H x H'->g x σ H' λσ2 H2=>tb { D with nx:=N,ct:=N,bk:=D.nx } σ2 H2):=by
 refine⟨λi m σ H=>m=n-i/\i<=n/\Pv i σ H,⟨n,by simp,An _,h0⟩,?_⟩
 rintro i m σ H ⟨rfl,hi,p⟩
 by_cases hlt:i<n
 ·refine .inr ⟨hlt,Pv (i+1),λσ' H' p'=>⟨n-(i+1),by omega,rfl,hlt,p'⟩,λx H' y=>?_⟩
  obtain⟨e,y⟩:=y
  subst e y
  exact hs i σ _ hlt p
 ·have e:i=n:=by omega
  subst e
  exact .inl ⟨AF _,hd σ H p⟩
end L2
namespace L2
open PySem PySem.Spec PyProof.Rows
abbrev R2:=V->V->Hp->VK->Prop
def OpR(X:Cx)(f:Value->Value->Sem Value)(r:R2):Prop :=
 ∀(pins:List (Addr×Obj))(s:Shared)(σ:St)(H:Hp)(x y:V)(v u:Value)(Q:VK),Inv X pins σ H s->RelV x v->RelV y u->r x y H Q ->
  wpAny (model X.prog X.w) X.A (f v u) (EP X pins σ Q) X.xe s
def UnR(X:Cx)(f:Value->Sem Value)(r:V->Hp->VK->Prop):Prop :=
 ∀(pins:List (Addr×Obj))(s:Shared)(σ:St)(H:Hp)(x:V)(v:Value)(Q:VK),Inv X pins σ H s->RelV x v->r x H Q ->
  wpAny (model X.prog X.w) X.A (f v) (EP X pins σ Q) X.xe s
def CallR(X:Cx)(f:Value)(r:List V->Hp->VK->Prop):Prop :=
 ∀(pins:List (Addr×Obj))(s:Shared)(σ:St)(H:Hp)(xs:List V)(us:List Value)(Q:VK),Inv X pins σ H s->Vals xs us->r xs H Q ->
  wpAny (model X.prog X.w) X.A (call f us) (EP X pins σ Q) X.xe s
def tOp(r:R2)(ta tb:TE):TE:=λσ H Q=>ta σ H λx H1=>tb σ H1 λy H2=>r x y H2 Q
def tUn(r:V->Hp->VK->Prop)(ta:TE):TE:=λσ H Q=>ta σ H λx H1=>r x H1 Q
def rI(C:Int->Int->Prop)(g:Int->Int->V):R2:=λx y H Q=>∃i j,x=.int i/\y=.int j/\C i j/\Q (g i j) H
def rI0(g:Int->Int->V):R2:=λx y H Q=>∃i j,x=.int i/\y=.int j/\Q (g i j) H
def rU(g:Int->V):V->Hp->VK->Prop:=λx H Q=>∃i,x=.int i/\Q (g i) H
section
variable{X:Cx}{a b c:Expr}{ta tb tc:TE}{pos:Pos}
theorem binT(ha:PE X a ta)(hb:PE X b tb){pins:List (Addr×Obj)}{s:Shared}{σ:St}{H:Hp}{R:V->V->Hp->Prop}(I:Inv X pins σ H s)
  (h:ta σ H λx H1=>tb σ H1 λy H2=>R x y H2) {Q:Value->Shared->Prop} {f:Value->Value->Sem Value}
  (hf:∀v u s2 x y H2,Inv X pins σ H2 s2->RelV x v->RelV y u->R x y H2->wpAny (model X.prog X.w) X.A (f v u) Q X.xe s2) :
  wpAny (model X.prog X.w) X.A (eval a X.env) (λv s₁=>wpAny (model X.prog X.w) X.A (eval b X.env) (λu s₂=>wpAny (model X.prog X.w) X.A (f v u) Q X.xe s₂) X.xe s₁) X.xe s:=by
 refine thn (ha pins s σ H _ I h) λv s1 ⟨x,H1,I1,r1,q1⟩=>?_
 refine thn (hb pins s1 σ H1 _ I1 q1) λu s2 ⟨y,H2,I2,r2,q2⟩=>?_
 exact hf v u s2 x y H2 I2 r1 r2 q2
theorem ql_{op:Operator}{r:R2}(ho:OpR X (binaryOp op) r)(ha:PE X a ta)(hb:PE X b tb):PE X (.BinOp a op b pos) (tOp r ta tb):=by
 intro pins s σ H Q I h
 exact wpAny_BinOp (binT ha hb I h λv u s2 x y H2 I2 rx ry q=>ho pins s2 σ H2 x y v u Q I2 rx ry q)
theorem xm_{op:UnaryOp}{r:V->Hp->VK->Prop}(ho:UnR X (unaryOp op) r)(ha:PE X a ta):PE X (.UnaryOp op a pos) (tUn r ta):=by
 intro pins s σ H Q I h
 exact UnaryOp_ (thn (ha pins s σ H _ I h) λv s1 ⟨x,H1,I1,r1,q1⟩=>ho pins s1 σ H1 x v Q I1 r1 q1)
theorem opI{f:Value->Value->Sem Value}{C:Int->Int->Prop}{g:Int->Int->Int}
  (rule:∀(i j:Int)(t u:Tok)(s:Shared)(Q:Value->Shared->Prop)(E:Value->Shared->Prop),C i j->Q (.int (g i j) s.toks) { s with toks:=s.toks+1 }->wpAny (model X.prog X.w) X.A (f (.int i t) (.int j u)) Q E s) :
  OpR X f (rI C λi j=>.int (g i j)):=by
 intro pins s σ H x y v u Q I rx ry h
 obtain⟨i,j,rfl,rfl,hc,q⟩:=h
 obtain⟨t,rfl⟩:=rx
 obtain⟨t',rfl⟩:=ry
 exact rule i j t t' s _ _ hc ⟨.int (g i j),H,I.tok _,⟨_,rfl⟩,q⟩
theorem opI0{f:Value->Value->Sem Value}{g:Int->Int->Int}
  (rule:∀(i j:Int)(t u:Tok)(s:Shared)(Q:Value->Shared->Prop)(E:Value->Shared->Prop),Q (.int (g i j) s.toks) { s with toks:=s.toks+1 }->wpAny (model X.prog X.w) X.A (f (.int i t) (.int j u)) Q E s) :
  OpR X f (rI0 λi j=>.int (g i j)):=by
 intro pins s σ H x y v u Q I rx ry h
 obtain⟨i,j,rfl,rfl,q⟩:=h
 obtain⟨t,rfl⟩:=rx
 obtain⟨t',rfl⟩:=ry
 exact rule i j t t' s _ _ ⟨.int (g i j),H,I.tok _,⟨_,rfl⟩,q⟩
theorem opB0{f:Value->Value->Sem Value}{g:Int->Int->Bool}
  (rule:∀(i j:Int)(t u:Tok)(s:Shared)(Q:Value->Shared->Prop)(E:Value->Shared->Prop),Q (.bool (g i j)) s->wpAny (model X.prog X.w) X.A (f (.int i t) (.int j u)) Q E s) :
  OpR X f (rI0 λi j=>.bl (g i j)):=by
 intro pins s σ H x y v u Q I rx ry h
 obtain⟨i,j,rfl,rfl,q⟩:=h
 obtain⟨t,rfl⟩:=rx
 obtain⟨t',rfl⟩:=ry
 exact rule i j t t' s _ _ ⟨.bl (g i j),H,I,rfl,q⟩
def CDiv(i j:Int):Prop:=0<j/\j<1073741824
def CPow(i j:Int):Prop:=0<=j/\j<=1000000/\i.natAbs<2^64
def CMul(i j:Int):Prop:=(-(2^64)<i/\i<2^64)∨(-(2^64)<j/\j<2^64)
theorem CMul.ok{i j:Int}(h:CMul i j):IntMulOk i j:=by
 rcases h with⟨h1,h2⟩|⟨h1,h2⟩
 ·exact .of_left (intBits_le_64 h1 h2)
 ·exact .of_right (intBits_le_64 h1 h2)
theorem qS_:OpR X (binaryOp .Add) (rI0 λi j=>.int (i+j)):=opI0 λ_ _ _ _ _ _ _ q=>add_int q
theorem zD_:OpR X (binaryOp .Sub) (rI0 λi j=>.int (i-j)):=opI0 λ_ _ _ _ _ _ _ q=>sub_int q
theorem z2_:OpR X (binaryOp .Mult) (rI CMul λi j=>.int (i*j)):=opI λ_ _ _ _ _ _ _ hc q=>mul_int q hc.ok
theorem alb_:OpR X (binaryOp .FloorDiv) (rI CDiv λi j=>.int (i / j)):=opI λi j _ _ _ _ _ hc q=>by
 have h1:(0:Int)<j:=hc.1
 have h2:j<1073741824:=hc.2
 exact floordiv_int (by omega) (by rw[Int.fdiv_eq_ediv_of_nonneg i (by omega)];exact q) (.inl (D3 (by omega)))
theorem j8_:OpR X (binaryOp .Mod) (rI (λ_ j=>0<j) λi j=>.int (i%j)):=opI λi j _ _ _ _ _ hc q=>by
 have h1:(0:Int)<j:=hc
 exact mod_int' (by omega) (by rw[Int.fmod_eq_emod_of_nonneg i (by omega)];exact q)
theorem ahy_:OpR X (binaryOp .Pow) (rI CPow λi j=>.int (i^j.toNat)):=opI λ_ _ _ _ _ _ _ hc q=>pow_int_small hc.1 hc.2.1 hc.2.2 q
theorem unI{f:Value->Sem Value}{g:Int->Int}
  (rule:∀(i:Int)(t:Tok)(s:Shared)(Q:Value->Shared->Prop)(E:Value->Shared->Prop),Q (.int (g i) s.toks) { s with toks:=s.toks+1 }->wpAny (model X.prog X.w) X.A (f (.int i t)) Q E s) :
  UnR X f (rU λi=>.int (g i)):=by
 intro pins s σ H x v Q I rx h
 obtain⟨i,rfl,q⟩:=h
 obtain⟨t,rfl⟩:=rx
 exact rule i t s _ _ ⟨.int (g i),H,I.tok _,⟨_,rfl⟩,q⟩
theorem jU_:UnR X (unaryOp .USub) (rU λi=>.int (-i)):=unI λ_ _ _ _ _ q=>neg_int q
end
def scal:V->V->Bool
 |.non,.non=>true|.non,.int _=>true|.int _,.non=>true|.non,.bl _=>true|.bl _,.non=>true|.non,.str _=>true|.str _,.non=>true
 |.int _,.int _=>true|.bl _,.bl _=>true|.str _,.str _=>true|.byt _,.byt _=>true
 |.int _,.str _=>true|.str _,.int _=>true|.bl _,.str _=>true|.str _,.bl _=>true
 |_,_=>false
def rEq:R2:=λx y H Q=>scal x y=true/\Q (.bl (decide (x=y))) H
def rNe:R2:=λx y H Q=>scal x y=true/\Q (.bl (!decide (x=y))) H
theorem adx_{i j:Int}:decide (V.int i=V.int j)=(i==j):=by
 rw[DA]
 simp
theorem afs_{i j:Bool}:decide (V.bl i=V.bl j)=(i==j):=by
 rw[DA]
 simp
theorem adb_{i j:Str}:decide (V.str i=V.str j)=(i==j):=by
 rw[DA]
 simp
theorem add_{i j:Array UInt8}:decide (V.byt i=V.byt j)=(i.toList==j.toList):=by
 rw[DA]
 cases i
 cases j
 simp
section
variable{X:Cx}{a b c:Expr}{ta tb tc:TE}{pos:Pos}
theorem qx_{pins:List (Addr×Obj)}{σ:St}{H:Hp}{s:Shared}{Q:VK}{k k':Bool}(I:Inv X pins σ H s)(q:Q (.bl k) H)(e:k=k'):EP X pins σ Q (.bool k') s:=by
 subst e
 exact⟨.bl k,H,I,rfl,q⟩
theorem vv_:OpR X (compareOp .Eq) rEq:=by
 intro pins s σ H x y v u Q I rx ry h
 obtain⟨hs,q⟩:=h
 cases x with
 |non =>
  cases rx
  cases y with
  |non=>cases ry;exact PySem.EqNone.eq_none_none (qx_ I q (by simp))
  |bl j=>cases ry;exact PySem.EqNone.eq_none_bool (qx_ I q (by simp))
  |int j=>obtain⟨t',rfl⟩:=ry;exact PySem.EqNone.eq_none_int (qx_ I q (by simp))
  |str j=>obtain⟨t',rfl⟩:=ry;exact PySem.EqNone.eq_none_str (qx_ I q (by simp))
  |_=>exact absurd (show false=true from hs) AS
 |bl i =>
  cases rx
  cases y with
  |non=>cases ry;exact PySem.EqNone.eq_bool_none (qx_ I q (by simp))
  |bl j=>cases ry;exact eq_bool (qx_ I q afs_)
  |str j=>obtain⟨t',rfl⟩:=ry;exact PySem.EqMixed.eq_bool_str (qx_ I q (by simp))
  |_=>exact absurd (show false=true from hs) AS
 |int i =>
  obtain⟨t,rfl⟩:=rx
  cases y with
  |non=>cases ry;exact PySem.EqNone.eq_int_none (qx_ I q (by simp))
  |int j=>obtain⟨t',rfl⟩:=ry;exact eq_int (qx_ I q adx_)
  |str j=>obtain⟨t',rfl⟩:=ry;exact PySem.EqMixed.eq_int_str (qx_ I q (by simp))
  |_=>exact absurd (show false=true from hs) AS
 |str i =>
  obtain⟨t,rfl⟩:=rx
  cases y with
  |non=>cases ry;exact PySem.EqNone.eq_str_none (qx_ I q (by simp))
  |bl j=>cases ry;exact PySem.EqMixed.eq_str_bool (qx_ I q (by simp))
  |int j=>obtain⟨t',rfl⟩:=ry;exact PySem.EqMixed.eq_str_int (qx_ I q (by simp))
  |str j=>obtain⟨t',rfl⟩:=ry;exact eq_str (qx_ I q adb_)
  |_=>exact absurd (show false=true from hs) AS
 |byt i =>
  obtain⟨t,rfl⟩:=rx
  cases y with
  |byt j=>obtain⟨t',rfl⟩:=ry;exact PySem.W.eq_bytes (qx_ I q add_)
  |_=>exact absurd (show false=true from hs) AS
 |_=>cases y<;>exact absurd (show false=true from hs) AS
theorem yl_:OpR X (compareOp .NotEq) rNe:=by
 intro pins s σ H x y v u Q I rx ry h
 obtain⟨hs,q⟩:=h
 cases x with
 |non =>
  cases rx
  cases y with
  |non=>cases ry;exact PySem.EqNone.ne_none_none (qx_ I q (by simp))
  |bl j=>cases ry;exact PySem.EqNone.ne_none_bool (qx_ I q (by simp))
  |int j=>obtain⟨t',rfl⟩:=ry;exact PySem.EqNone.ne_none_int (qx_ I q (by simp))
  |str j=>obtain⟨t',rfl⟩:=ry;exact PySem.EqNone.ne_none_str (qx_ I q (by simp))
  |_=>exact absurd (show false=true from hs) AS
 |bl i =>
  cases rx
  cases y with
  |non=>cases ry;exact PySem.EqNone.ne_bool_none (qx_ I q (by simp))
  |bl j=>cases ry;exact ne_bool (qx_ I q (congrArg not afs_))
  |str j=>obtain⟨t',rfl⟩:=ry;exact PySem.EqMixed.ne_bool_str (qx_ I q (by simp))
  |_=>exact absurd (show false=true from hs) AS
 |int i =>
  obtain⟨t,rfl⟩:=rx
  cases y with
  |non=>cases ry;exact PySem.EqNone.ne_int_none (qx_ I q (by simp))
  |int j=>obtain⟨t',rfl⟩:=ry;exact ne_int (qx_ I q (congrArg not adx_))
  |str j=>obtain⟨t',rfl⟩:=ry;exact PySem.EqMixed.ne_int_str (qx_ I q (by simp))
  |_=>exact absurd (show false=true from hs) AS
 |str i =>
  obtain⟨t,rfl⟩:=rx
  cases y with
  |non=>cases ry;exact PySem.EqNone.ne_str_none (qx_ I q (by simp))
  |bl j=>cases ry;exact PySem.EqMixed.ne_str_bool (qx_ I q (by simp))
  |int j=>obtain⟨t',rfl⟩:=ry;exact PySem.EqMixed.ne_str_int (qx_ I q (by simp))
  |str j=>obtain⟨t',rfl⟩:=ry;exact ne_str (qx_ I q (congrArg not adb_))
  |_=>exact absurd (show false=true from hs) AS
 |byt i =>
  obtain⟨t,rfl⟩:=rx
  cases y with
  |byt j=>obtain⟨t',rfl⟩:=ry;exact PySem.W.ne_bytes (qx_ I q (congrArg not add_))
  |_=>exact absurd (show false=true from hs) AS
 |_=>cases y<;>exact absurd (show false=true from hs) AS
theorem aav_:OpR X (compareOp .Lt) (rI0 λi j=>.bl (decide (i<j))):=opB0 λ_ _ _ _ _ _ _ q=>lt_int q
theorem ao7_:OpR X (compareOp .LtE) (rI0 λi j=>.bl (decide (i<=j))):=opB0 λ_ _ _ _ _ _ _ q=>le_int q
theorem j1_:OpR X (compareOp .Gt) (rI0 λi j=>.bl (decide (j<i))):=opB0 λ_ _ _ _ _ _ _ q=>gt_int q
theorem ao4_:OpR X (compareOp .GtE) (rI0 λi j=>.bl (decide (j<=i))):=opB0 λ_ _ _ _ _ _ _ q=>ge_int q
theorem ak8_:OpR X (compareOp .IsNot) (λx y H Q=>y=.non/\Q (.bl (!decide (x=.non))) H):=by
 intro pins s σ H x y v u Q I rx ry h
 obtain⟨rfl,q⟩:=h
 cases ry
 refine isnot_none_gen (qx_ I q ?_)
 cases x<;>first
  |(cases rx;rfl)
  |(obtain⟨t,rfl⟩:=rx;rfl)
theorem OpR.or{f:Value->Value->Sem Value}{r r':R2}(h:OpR X f r)(h':OpR X f r'):OpR X f (λx y H Q=>r x y H Q∨r' x y H Q):=by
 intro pins s σ H x y v u Q I rx ry q
 rcases q with q|q
 ·exact h pins s σ H x y v u Q I rx ry q
 ·exact h' pins s σ H x y v u Q I rx ry q
theorem qv_(b:Expr){op:CmpOp}(h:op≠.In:=by decide)(h2:op≠.NotIn:=by decide):behindInMarks op b=false:=by
 have e1:(op==CmpOp.In)=false:=by cases op<;>first|rfl|exact absurd rfl h
 have e2:(op==CmpOp.NotIn)=false:=by cases op<;>first|rfl|exact absurd rfl h2
 cases b<;>simp [behindInMarks,e1,e2]
theorem jC_{op:CmpOp}{r:R2}(ho:OpR X (compareOp op) r)(ha:PE X a ta)(hb:PE X b tb)(hm:behindInMarks op b=false):PE X (.Compare a [op] [b] pos) (tOp r ta tb):=by
 intro pins s σ H Q I h
 exact wpAny_Compare1 (binT ha hb I h λv u s2 x y H2 I2 rx ry q=>ho pins s2 σ H2 x y v u Q I2 rx ry q) hm
def aqf_(t:TE):TT:=λσ H Q=>t σ H λx H'=>∃k,x=.bl k/\Q k H'
theorem qy_{op:CmpOp}{r:R2}(ho:OpR X (compareOp op) r)(ha:PE X a ta)(hb:PE X b tb)(hm:behindInMarks op b=false):PT X (.Compare a [op] [b] pos) (aqf_ (tOp r ta tb)):=by
 intro pins s σ H Q I h
 refine wpAny_isTrue_Compare1 (thn (ha pins s σ H _ I h) λv s1 ⟨x,H1,I1,r1,q1⟩=>thn (hb pins s1 σ H1 _ I1 q1) λu s2 ⟨y,H2,I2,r2,q2⟩ =>
  thn (ho pins s2 σ H2 x y v u _ I2 r1 r2 q2) λc s3 ⟨z,H3,I3,r3,k,e,q3⟩=>?_) hm
 subst e
 cases r3
 exact wpAny_truthy_bool ⟨H3,I3,q3⟩
theorem vd_:(sizeLine:Nat)<2^63:=by rw[sizeLine_eq];decide
theorem zx_{x:V}{us:List Value}(r:Vals [x] us):∃u,us=[u]/\RelV x u:=by
 cases r with
 |cons r1 r2=>cases r2;exact⟨_,rfl,r1⟩
theorem xO_{x y:V}{us:List Value}(r:Vals [x,y] us):∃u w',us=[u,w']/\RelV x u/\RelV y w':=by
 cases r with
 |cons r1 r2 =>
  cases r2 with
  |cons r3 r4=>cases r4;exact⟨_,_,rfl,r1,r3⟩
theorem agx_(hc:X.calm=true):CallR X (.builtin "min") (λxs H Q=>∃i j,xs=[.int i,.int j]/\Q (.int (if j<i then j else i)) H):=by
 intro pins s σ H xs us Q I r h
 obtain⟨i,j,rfl,q⟩:=h
 obtain⟨u,w',rfl,⟨t,rfl⟩,⟨t',rfl⟩⟩:=xO_ r
 refine min_two_ints (I.ok.hd hc) λh' tk k=>⟨_,H,I.kept k,?_,q⟩
 by_cases hj:j<i
 ·rw[if_pos hj,if_pos hj];exact⟨_,rfl⟩
 ·rw[if_neg hj,if_neg hj];exact⟨_,rfl⟩
end
end L2
namespace L2
open PySem PySem.Spec PyProof.Rows
structure ObjM(h:Heap)(x dx C:Addr)(mA:Str->Option Value):Prop where
 obj:h.get? x=some (PySem.W.instObj C dx)
 ns:h.Ns1 dx mA
 ne:dx≠x
theorem agw_{h:Heap}{dx:Addr}{mA:Str->Option Value}(n:h.Ns1 dx mA):∃od,h.get? dx=some od/\∀name,PySem.W.lookIn name od=some (mA name):=by
 obtain⟨o,es,ep,ho,hd,hk,_,hm⟩:=n
 refine⟨o,ho,λname=>?_⟩
 have e:=hm name
 unfold nsFind findBy at e
 rw[<-Array.find?_toList]at e
 unfold PySem.W.lookIn
 rw[hd]
 dsimp only
 split
 ·rename_i y q
  rw[q]at e
  exact congrArg some e
 ·rename_i q
  rw[q]at e
  have a:es.toList.any (·.refKey)=false:=by
   rw[List.any_eq_false]
   intro y hy
   obtain⟨z,t,hkey⟩:=hk y (Array.mem_toList_iff.mp hy)
   simp [DictEntry.refKey,hkey]
  have a':¬ es.toList.any (·.refKey)=true:=by rw[a];exact AS
  rw[if_neg a']
  exact congrArg some e
theorem ObjM.look{h:Heap}{x dx C:Addr}{mA:Str->Option Value}(I:ObjM h x dx C mA):∃od,PySem.W.InstAt h x (PySem.W.instObj C dx) C (some od)/\∀name,PySem.W.lookIn name od=some (mA name) :=
 let ⟨od,ho,hl⟩:=agw_ I.ns
 ⟨od,⟨I.obj,rfl,rfl,ho⟩,hl⟩
theorem RelO.some_of{v:V}{o:Option Value}(r:RelO (some v) o):∃u,o=some u/\RelV v u:=by
 cases o with
 |none=>exact(show False from r).elim
 |some u=>exact⟨u,rfl,r⟩
structure Cls(K:PySem.W.Frag)(C:Addr):Prop where
 pg:PySem.W.plainGet K C Str.empty=true
 hd:PySem.W.hasDictIn K C=true
 po:PySem.W.plainOver K C=true
 sa:PySem.W.findIn K (.ref C) "__setattr__" = some (some (.builtin "object.__setattr__"))
theorem Cls.get{K:PySem.W.Frag}{C:Addr}(c:Cls K C)(f:Str):PySem.W.plainGet K C f=true:=c.pg
structure Con(K:PySem.W.Frag)(C:Addr)(f:Str)(v:V)(u:Value):Prop where
 at_:PySem.W.findIn K (.ref C) f=some (some u)
 rel:RelV v u
 get:PySem.W.specialIn K u "__get__" = some none
 cp:PySem.W.copiedNames.contains f=false
structure Meth(K:PySem.W.Frag)(C:Addr)(m:Str)(f:Addr):Prop where
 at_:PySem.W.findIn K (.ref C) m=some (some (.ref f))
 fn:PySem.W.isFn K (.ref f)=true
 kp:PySem.W.keepIn K (.ref f)=true
section
variable{X:Cx}{pins:List (Addr×Obj)}{σ:St}{H:Hp}{s:Shared}{a C dx:Addr}{fs:List (Str×V)}{f:Str}{v:V}{A:Around}{E:Value->Shared->Prop}
theorem Inv.made(I:Inv X pins σ H s):Inv X pins σ (upd (upd H s.heap.objs.size (.own (s.heap.objs.size+1))) (s.heap.objs.size+1) (.ins C s.heap.objs.size []))
  { s with heap:=(s.heap.push PySem.W.emptyDict).push (PySem.W.instObj C s.heap.objs.size) }:=by
 have e1:(s.heap.push PySem.W.emptyDict).get? s.heap.objs.size=some PySem.W.emptyDict:=AI s.heap rfl
 have e2:((s.heap.push PySem.W.emptyDict).push (PySem.W.instObj C s.heap.objs.size)).get? (s.heap.objs.size+1)=some (PySem.W.instObj C s.heap.objs.size):=by
  have:=AI (s.heap.push PySem.W.emptyDict) (o:=PySem.W.instObj C s.heap.objs.size) rfl
  rwa [BO]at this
 have e3:(s.heap.push PySem.W.emptyDict).Ns s.heap.objs.size (λ_=>none):=⟨PySem.W.emptyDict,#[],_,e1,rfl,(λe he=>absurd he (by simp)),λ_=>rfl⟩
 have I1:=I.laid (a:=s.heap.objs.size) (o:=.own (s.heap.objs.size+1)) (h':=s.heap.push PySem.W.emptyDict) (t':=s.toks) (λb u q=>AB _ q) (AF _) ⟨_,e1⟩
 refine I1.laid (a:=s.heap.objs.size+1) (o:=.ins C s.heap.objs.size []) (t':=s.toks) (λb u q=>AB _ q) (Nat.le_of_eq (BO _ _)) ?_
 have ne:s.heap.objs.size≠s.heap.objs.size+1:=Ab (Nat.lt_succ_self _)
 refine⟨by rw[qk_ ne,qc_],An _,ne,e2,λ_=>none,(Heap.Ns1.of_empty e3).at λo q=>AB _ q,λ_=>True.intro,λy hy=>absurd rfl hy⟩
end
section
variable{X:Cx}{pins:List (Addr×Obj)}{σ:St}{H:Hp}{s:Shared}{A:Around}{E:Value->Shared->Prop}{Q:Value->Shared->Prop}{c:Value}{b:Bool}
inductive TyOf (K:PySem.W.Frag) (H:Hp):V->Value->Prop where
 |non:TyOf K H .non (.type "NoneType")
 |bl (x:Bool):TyOf K H (.bl x) (.type "bool")
 |int (i:Int):TyOf K H (.int i) (.type "int")
 |str (x:Str):TyOf K H (.str x) (.type "str")
 |flt (x:UInt64):TyOf K H (.flt x) (.type "float")
 |lst {a:Addr} {xs:List V} (e:H a=some (.lst xs)):TyOf K H (.ref a) (.type "list")
 |frz {a:Addr} {o:Obj} {xs:List V} (e:H a=some (.frz o (.lst xs))):TyOf K H (.ref a) (.type "list")
 |tup {a:Addr} {xs:List V} (e:H a=some (.tup xs)):TyOf K H (.ref a) (.type "tuple")
 |dK {a:Addr} {kvs:List (Key×V)} (e:H a=some (.dK kvs)):TyOf K H (.ref a) (.type "dict")
 |dT {a:Addr} {kvs:List (List Key×V)} (e:H a=some (.dT kvs)):TyOf K H (.ref a) (.type "dict")
 |ins {a C dx:Addr} {fs:List (Str×V)} (e:H a=some (.ins C dx fs)) (cl:Cls K C) (ha:PySem.W.findIn K (.ref C) "__class__" = some (some (.builtin "object.__class__")))
   (hn:PySem.W.specialIn K (.builtin "object.__class__") "__get__" = some (some (.builtin "getset_descriptor.__get__"))) (htk:PySem.W.takesIn K (.builtin "object.__class__")=some true)
   (hm:PySem.W.mroIn K C (.type "object")=some true):TyOf K H (.ref a) (.ref C)
end
end L2
namespace L2
open PySem PySem.Spec PyProof.Rows
structure Room(k:Nat)(A:Around):Prop where
 hd:A.handled=none
 dp:A.depth+3*k+5<recursionLimit
 un:A.units+16*k+200<cLine
theorem Room.mono{j k:Nat}{A:Around}(r:Room k A)(h:j<=k):Room j A:=⟨r.hd,by have:=r.dp;omega,by have:=r.un;omega⟩
theorem Room.deeper{k:Nat}{A:Around}(r:Room (k+1) A)(env:Env):Room k (A.deeper env) :=
 ⟨r.hd,by have:=r.dp;show A.depth+1+3*k+5<_;omega,by have:=r.un;show A.units+3+16*k+200<_;omega⟩
theorem Room.in1{k:Nat}{A:Around}(r:Room (k+1) A):Room k A.in1 :=
 ⟨r.hd,by have:=r.dp;show A.depth+3*k+5<_;omega,by have:=r.un;show A.units+1+16*k+200<_;omega⟩
theorem Room.depth{k:Nat}{A:Around}(r:Room k A):A.depth<recursionLimit:=by have:=r.dp;omega
theorem Room.units{k:Nat}{A:Around}(r:Room k A):A.units+64<cLine:=by have:=r.un;omega
def tNil:TA:=λ_ H Q=>Q [] H
def vp_(ta:TE)(tr:TA):TA:=λσ H Q=>ta σ H λx H1=>tr σ H1 λxs H2=>Q (x::xs) H2
section
variable{X:Cx}{e:Expr}{es:List Expr}{te:TE}{t:TA}{pos:Pos}
theorem qb_:PA X [] tNil:=λ_ _ _ _ H Q I h=>Calls.spliced_nil ⟨[],H,I,.nil,h⟩
theorem qa_(ha:PE X e te)(hr:PA X es t)(hs:starEach (e::es) X.env=(false,eval e X.env)::starEach es X.env:=by rfl):PA X (e::es) (vp_ te t):=by
 intro pos pins s σ H Q I h
 rw[hs]
 show wpAny _ _ (spliced ((false,eval e X.env)::backTo pos (starEach es X.env))) _ _ s
 refine DN (thn (ha pins s σ H _ I h) λu s1 ⟨x,H1,I1,r1,q1⟩=>?_)
 exact thn (hr pos pins s1 σ H1 _ I1 q1) λus s2 ⟨xs,H2,I2,r2,q2⟩=>⟨x::xs,H2,I2,.cons r1 r2,q2⟩
def tTup(t:TA):TE:=λσ H Q=>t σ H λxs H1=>xs.length<=sizeLine/\∀p,H1 p=none->Q (.ref p) (upd H1 p (.tup xs))
def tLst(t:TA):TE:=λσ H Q=>t σ H λxs H1=>xs.length<=sizeLine/\∀p,H1 p=none->Q (.ref p) (upd H1 p (.lst xs))
theorem qs_{x1}(h:PA X es t):PE X (.Tuple es x1 pos) (tTup t):=by
 intro pins s σ H Q I hq
 refine wpAny_Tuple_spliced (thn (h pos pins s σ H _ I hq) λus s1 ⟨xs,H1,I1,r,z,q⟩=>⟨by rw[<-r.length];exact z,?_⟩)
 have hf:H1 s1.heap.objs.size=none:=I1.hok.fresh (AF _)
 refine⟨.ref s1.heap.objs.size,upd H1 s1.heap.objs.size (.tup xs),I1.laid (t':=s1.toks) (λb u e=>AB _ e) (AF _) ?_,rfl,q _ hf⟩
 exact⟨z,us,r,⟨_,AI _ rfl,rfl,_,rfl,rfl⟩⟩
theorem qJ_(h:PA X es t):PE X (.List es pos) (tLst t):=by
 intro pins s σ H Q I hq
 refine wpAny_List_spliced (thn (h pos pins s σ H _ I hq) λus s1 ⟨xs,H1,I1,r,z,q⟩=>⟨by rw[<-r.length];exact z,?_⟩)
 have hf:H1 s1.heap.objs.size=none:=I1.hok.fresh (AF _)
 refine⟨.ref s1.heap.objs.size,upd H1 s1.heap.objs.size (.lst xs),I1.laid (t':=s1.toks) (λb u e=>AB _ e) (AF _) ?_,rfl,q _ hf⟩
 exact⟨z,us,0,r,AI _ rfl⟩
end
abbrev Sp:=List V->Hp->VK->XK->Prop
abbrev CXT:=List Env->Hp->Shared->XK->Value->Shared->Prop
structure Env0(P:Program)(w:World)(K:PySem.W.Frag)(mg:Str->Option Value)(base:Heap)(A:Around)(outer:List Env)(s:Shared)(H:Hp):Prop where
 frames:A.frames=some outer
 mod:Mod K mg base
 bs:∀b o,base.get? b=some o->s.heap.get? b=some o/\H b=none
 bsz:base.objs.size<=s.heap.objs.size
 funs:s.heap.FunFrames base outer
 frf:∀b∈frs outer,H b=none
 hok:HOk P w H s.heap
 bare:AllBare s.gens
def CE(outer:List Env)(P:Program)(w:World)(H:Hp)(s:Shared)(Q:VK)(u:Value)(s':Shared):Prop :=
 ∃v H',s'.os=s.os/\AllBare s'.gens/\Un (frs outer) [] H H' s.heap s'.heap/\HOk P w H' s'.heap/\RelV v u/\Q v H'
def CR(CX:CXT)(outer:List Env)(P:Program)(w:World)(H:Hp)(s:Shared)(Q:VK)(E:XK)(r:Result)(s':Shared):Prop :=
 match r with
 |.ok (.ret u)=>CE outer P w H s Q u s'
 |.ok _=>False
 |.error e=>CX outer H s E e s'
structure FnOk(P:Program)(w:World)(K:PySem.W.Frag)(mg:Str->Option Value)(base:Heap)(CX:CXT)(k:Nat)(f:Addr)(fd:FuncData)(ps:List Str)(sp:Sp):Prop where
 len:∀vs H Q E,sp vs H Q E->vs.length=ps.length
 run:∀(A:Around)(outer:List Env)(s:Shared)(H:Hp)(args:Args)(us:List Value)(vs:List V)(Q:VK)(E:XK),Room k A->Env0 P w K mg base A outer s H->BindsTo s fd args (ps.zip us)->Vals vs us->sp vs H Q E ->
  codeAny (model P w) A (.call (.ref f) args) (CR CX outer P w H s Q E) s
theorem FnOk.mono{P:Program}{w:World}{K:PySem.W.Frag}{mg:Str->Option Value}{base:Heap}{CX:CXT}{j k:Nat}{f:Addr}{fd:FuncData}{ps:List Str}{sp:Sp}(F:FnOk P w K mg base CX j f fd ps sp)(h:j<=k) :
  FnOk P w K mg base CX k f fd ps sp:=⟨F.len,λA outer s H args us vs Q E hr=>F.run A outer s H args us vs Q E (hr.mono h)⟩
theorem Env0.in1{P:Program}{w:World}{K:PySem.W.Frag}{mg:Str->Option Value}{base:Heap}{A:Around}{outer:List Env}{s:Shared}{H:Hp}(e:Env0 P w K mg base A outer s H) :
  Env0 P w K mg base A.in1 outer s H:=⟨e.frames,e.mod,e.bs,e.bsz,e.funs,e.frf,e.hok,e.bare⟩
section
variable{X:Cx}{pins:List (Addr×Obj)}{σ:St}{H:Hp}{s s':Shared}
theorem Inv.env0(I:Inv X pins σ H s):Env0 X.prog X.w X.K X.mg X.base X.A X.stack s H :=
 ⟨I.ok.frames,I.ok.mod,I.bs,Ac I.ok.bsz I.sz,I.stack,I.stkFree,I.hok,I.bare⟩
theorem Inv.after{Q:VK}{u:Value}(I:Inv X pins σ H s)(h:CE X.stack X.prog X.w H s Q u s'):EP X pins σ Q u s':=by
 obtain⟨v,H',os,bare,un,hok,r,q⟩:=h
 obtain⟨hh,g,d,t,os'⟩:=s'
 obtain rfl:os'=s.os:=os
 exact⟨v,H',I.call (h':=hh) (g':=g) (d':=d) (t':=t) (ch:=[]) un hok bare (λb z=>absurd z (by simp)),r,q⟩
end
def afg_(sp:Sp)(dvs:List V)(E:XK)(t:TA):TE:=λσ H Q=>t σ H λvs H1=>sp (vs++dvs) H1 Q E
def Binds(K:PySem.W.Frag)(fd:FuncData)(ps:List Str)(ds:List Value):Prop :=
 ∀(s:Shared)(us:List Value),K.In s.heap->(us++ds).length=ps.length->BindsTo s fd ⟨us,[]⟩ (ps.zip (us++ds))
theorem Binds.all{K:PySem.W.Frag}{fd:FuncData}{ps:List Str}(h:∀us:List Value,us.length=ps.length->bindArgs fd ⟨us,[]⟩=pure (ps.zip us)):Binds K fd ps []:=λs us _ hl=>by
 rw[BP]at hl ⊢
 exact .of_eq (h us hl)
def abp_(CX:CXT)(X:Cx)(E:XK):Prop:=∀(pins:List (Addr×Obj))(σ:St)(H:Hp)(s:Shared)(e:Value)(s':Shared),Inv X pins σ H s->CX X.stack H s E e s'->X.xe e s'
section
variable{X:Cx}{CX:CXT}{k:Nat}{f C:Addr}{fd:FuncData}{ps:List Str}{sp:Sp}{dvs:List V}{ds:List Value}{E:XK}{x m:Str}{p pos apos:Pos}{e o:Expr}{es:List Expr}{ta:TE}{t:TA}
theorem amj_{pins:List (Addr×Obj)}{σ:St}{H:Hp}{s:Shared}{Q:VK}{us:List Value}{vs:List V}(F:FnOk X.prog X.w X.K X.mg X.base CX k f fd ps sp)(hr:Room k X.A)(hb:Binds X.K fd ps ds)(hd:Vals dvs ds)(hx:abp_ CX X E)
  (I:Inv X pins σ H s) (r:Vals vs us) (h:sp (vs++dvs) H Q E):wpAny (model X.prog X.w) X.A (call (.ref f) us) (EP X pins σ Q) X.xe s:=by
 have r2:Vals (vs++dvs) (us++ds):=r.append hd
 have hl:(us++ds).length=ps.length:=by rw[<-r2.length];exact F.len _ _ _ _ h
 refine wpAny_call (codeAny_mono (F.run X.A X.stack s H ⟨us,[]⟩ (us++ds) (vs++dvs) Q E hr I.env0 (hb s us I.kIn hl) r2 h) λr s' hq=>?_)
 cases r with
 |error e=>exact hx pins σ H s e s' I hq
 |ok fl =>
  cases fl with
  |ret u=>exact I.after hq
  |next=>exact False.elim hq
  |brk=>exact False.elim hq
  |cont=>exact False.elim hq
theorem z9_(F:FnOk X.prog X.w X.K X.mg X.base CX k f fd ps sp)(hr:Room k X.A)(hg:Gl X x)(hm:X.mg x=some (.ref f))(hk:PySem.W.keepIn X.K (.ref f)=true)(hb:Binds X.K fd ps ds)(hd:Vals dvs ds)(hx:abp_ CX X E)
  (ha:PA X (e::es) t) (hdb:(x==("__debug__" : Str))=false:=by decide) (he:starEach (e::es) X.env=(false,eval e X.env)::starEach es X.env:=by rfl) (hpl:(backTo pos (starEach es X.env)).any (·.1)=false:=by rfl) :
  PE X (.Call (.Name x p) (e::es) [] pos) (afg_ sp dvs E t):=by
 intro pins s σ H Q I h
 refine wpAny_Call_Name_kw (adu_ I hg hm ?_ hdb)
 refine PySem.W.callWith_K (h₀:=X.base) I.ok.mod.kin hk (thn (ha pos pins s σ H _ I h) λus s1 ⟨vs,H1,I1,r,q⟩=>⟨I1.kIn,?_⟩) he hpl
 exact amj_ F hr hb hd hx I1 r q
structure Mk(K:PySem.W.Frag)(C f:Addr):Prop where
 makes:PySem.W.makesIn K C=true
 init:PySem.W.findIn K (.ref C) "__init__" = some (some (.ref f))
 fn:PySem.W.isFn K (.ref f)=true
 kp:PySem.W.keepIn K (.ref C)=true
end
section
variable{X:Cx}{CX:CXT}{k:Nat}{f C:Addr}{fd:FuncData}{ps ks:List Str}{sp:Sp}{E:XK}{x m:Str}{p pos apos kpos:Pos}{e o:Expr}{es:List Expr}{kws:List Keyword}{te ta:TE}{t tk:TA}{nm:Option Str}
structure KBinds(K:PySem.W.Frag)(fd:FuncData)(ps ks:List Str)(g:List Value->List Value->List Value)(gV:List V->List V->List V):Prop where
 to:∀(s:Shared)(us ws:List Value),K.In s.heap->(g us ws).length=ps.length->BindsTo s fd ⟨us,ks.zip ws⟩ (ps.zip (g us ws))
 rel:∀{vs:List V}{us:List Value}{zs:List V}{ws:List Value},Vals vs us->Vals zs ws->Vals (gV vs zs) (g us ws)
variable{g:List Value->List Value->List Value}{gV:List V->List V->List V}
end
structure FnScope(N P:List Str)(sc:Scope):Prop where
 kind:sc.kind=.function
 co:sc.isCoroutine=false
 gen:sc.isGenerator=false
 nd:N.Nodup
 pre:N.take P.length=P
 par:∀x∈P,sc.names.lookup x=some .local∨sc.names.lookup x=some .cell
 nofree:∀y∈sc.names,y.2≠.free
theorem aad_{kindOf:Str->Option NameKind}{x:Str}:∀{binds:List (Str×Value)}{m:Str->Option Value},(∀v,(x,v)∉binds)->bindL kindOf binds m x=m x
 |[],_,_=>rfl
 |(n,v)::r,m,h=>by
  unfold bindL
  rw[aad_ λw hw=>h w (AC _ hw)]
  split
  ·have:x≠n:=by rintro rfl;exact h v AD
   simp [this]
  ·rfl
theorem vY_{kindOf:Str->Option NameKind}{x:Str}:∀{binds:List (Str×Value)}{m:Str->Option Value},(∀v,(x,v)∉binds)->bindC kindOf binds m x=m x
 |[],_,_=>rfl
 |(n,v)::r,m,h=>by
  unfold bindC
  rw[vY_ λw hw=>h w (AC _ hw)]
  split
  ·rfl
  ·have:x≠n:=by rintro rfl;exact h v AD
   simp [this]
theorem aai_{kindOf:Str->Option NameKind}{x:Str}{v:Value}:∀{P:List Str}{vs:List Value}{i:Nat}{m:Str->Option Value},P.Nodup->P[i]?=some x->vs[i]?=some v->kindOf x=some .local ->
  bindL kindOf (P.zip vs) m x=some v
 |[],_,_,_,_,h,_,_=>by simp at h
 |_::_,[],_,_,_,_,h,_=>by simp at h
 |p::P,w::vs,0,m,nd,h1,h2,hk=>by
  simp at h1 h2;subst h1;subst h2
  show bindL kindOf ((p,w)::P.zip vs) m p=_
  unfold bindL
  rw[aad_ λv hv=>(CH.mp nd).1 (Dv hv).1,if_pos hk]
  simp
 |p::P,w::vs,i+1,m,nd,h1,h2,hk=>by
  show bindL kindOf ((p,w)::P.zip vs) m x=_
  unfold bindL
  exact aai_ (i:=i) (CH.mp nd).2 (by simpa using h1) (by simpa using h2) hk
theorem v2_{kindOf:Str->Option NameKind}{x:Str}{v:Value}:∀{P:List Str}{vs:List Value}{i:Nat}{m:Str->Option Value},P.Nodup->P[i]?=some x->vs[i]?=some v->kindOf x≠some .local ->
  bindC kindOf (P.zip vs) m x=some v
 |[],_,_,_,_,h,_,_=>by simp at h
 |_::_,[],_,_,_,_,h,_=>by simp at h
 |p::P,w::vs,0,m,nd,h1,h2,hk=>by
  simp at h1 h2;subst h1;subst h2
  show bindC kindOf ((p,w)::P.zip vs) m p=_
  unfold bindC
  rw[vY_ λv hv=>(CH.mp nd).1 (Dv hv).1,if_neg hk]
  simp
 |p::P,w::vs,i+1,m,nd,h1,h2,hk=>by
  show bindC kindOf ((p,w)::P.zip vs) m x=_
  unfold bindC
  exact v2_ (i:=i) (CH.mp nd).2 (by simpa using h1) (by simpa using h2) hk
def xl_(N:List Str)(vs:List V):St:=vs.map some++List.replicate (N.length-vs.length) none
def vE_(CX:CXT)(P:Program)(w:World)(K:PySem.W.Frag)(mg:Str->Option Value)(base:Heap)(N:List Str)(qual:Str)(scope:Scope)(f:Addr)(cd:Value)(A:Around)(outer:List Env)(s:Shared)(H:Hp)(E:XK):Cx where
 prog:=P
 w:=w
 K:=K
 mg:=mg
 base:=base
 A:=A.deeper (envOfC qual scope s.heap.objs.size f cd)
 N:=N
 s₀:=s
 H₀:=H
 env:=envOfC qual scope s.heap.objs.size f cd
 outer:=outer
 stack:=envOfC qual scope s.heap.objs.size f cd::outer
 ex:=[]
 calm:=true
 fn:=λ_=>true
 pn:=[]
 xe:=λe s'=>wpAny (model P w) (A.deeper (envOfC qual scope s.heap.objs.size f cd)) (leaving (envOfC qual scope s.heap.objs.size f cd) e) (λ_ s''=>CX outer H s E e s'') (λe' s''=>CX outer H s E e' s'') s'
theorem ab7_{sc:Scope}{n:Nat}{x:Str}(h:sc.names.lookup x=some .cell):∃c,(cellsFrom n sc.names []).lookup x=some c:=by
 have q:=D4 sc.names n [] (.inl h)
 exact Option.isSome_iff_exists.mp q
theorem ahp_{CX:CXT}{P:Program}{w:World}{K:PySem.W.Frag}{mg:Str->Option Value}{base:Heap}{N ps:List Str}{qual:Str}{scope:Scope}{f:Addr}{cd:Value}{A:Around}{outer:List Env}{s s1:Shared}{H:Hp}{E:XK}{us:List Value}{vs:List V}
  (S:FnScope N ps scope) (hd:A.handled=none) (e0:Env0 P w K mg base A outer s H) (hl:vs.length=ps.length) (r:Vals vs us)
  (x:InCallC s s.heap.objs.size (bindL (envOfC qual scope s.heap.objs.size f cd).kindOf (ps.zip us) λ_=>none) (cellsFrom (s.heap.objs.size+1) scope.names []) (bindC (envOfC qual scope s.heap.objs.size f cd).kindOf (ps.zip us) λ_=>none) s1) :
  Inv (vE_ CX P w K mg base N qual scope f cd A outer s H E) [] (xl_ N vs) H s1:=by
 have hpl:ps.length<=N.length:=by have:=congrArg List.length S.pre;rw[AW]at this;omega
 obtain⟨h1,tk,rfl,hk⟩:=x.done
 have noA:∀b:Addr,b∉(vE_ CX P w K mg base N qual scope f cd A outer s H E).ex:=λb z=>absurd (show b∈([]:List Addr) from z) (by simp)
 refine⟨⟨e0.mod,S.kind,rfl,rfl,AF _,λy z c h1 h2=>?_,λy hy=>?_,λy c _ h=>?_,λ_=>hd,Around.frames_deeper e0.frames,.inr ⟨rfl,rfl⟩,λb z=>absurd z (noA b),e0.bs,e0.bsz,λb _ _=>noA b,λb z=>absurd z (noA b),e0.funs,e0.frf⟩,
  rfl,e0.bare,Un.kept hk,⟨_,x.toInCall.ns,λi y v h1 h2 h3=>?_⟩,λy c h=>⟨_,x.cell y c h⟩,e0.hok.fresh (AF _),λy c h=>?_,λp hp=>absurd (show p∈([]:List (Addr×Obj)) from hp) (by simp),e0.hok.kept hk,?_⟩
 ·exact name_of_addr x.apart (CV h1) (CV h2)
 ·have hy:scope.names.lookup y=some .cell∨scope.names.lookup y=some .free:=hy
  rcases hy with hy|hy
  ·exact ab7_ hy
  ·exact absurd rfl (S.nofree _ (CV hy))
 ·exact Bf (x.above y c (CV h))
 ·have hi:i<vs.length:=by
   unfold xl_ at h2
   by_cases hi:i<vs.length
   ·exact hi
   ·rw[CK (by simpa using hi)]at h2
    rw[C1]at h2
    split at h2<;>cases h2
  have ha:vs[i]?=some v:=by
   unfold xl_ at h2
   rw[CM (by simpa using hi),AV]at h2
   cases e:vs[i]? with
   |none=>rw[e]at h2;cases h2
   |some a=>rw[e]at h2;cases h2;rfl
  obtain⟨u,hu,rv⟩:=r.get ha
  have hp:ps[i]?=some y:=by
   rw[<-S.pre,De (by omega)];exact h1
  have ndP:ps.Nodup:=by rw[<-S.pre];exact S.nd.sublist (Da _ _)
  refine⟨u,rv,?_⟩
  rcases S.par y (Ag hp) with k|k
  ·exact .inl ⟨k,aai_ ndP hp hu k⟩
  ·obtain⟨c,e⟩:=ab7_ (n:=s.heap.objs.size+1) k
   refine .inr ⟨.inl k,c,e,?_⟩
   have q:=x.cell y c e
   rw[v2_ ndP hp hu (by show scope.names.lookup y≠_;rw[k];decide)]at q
   exact q
 ·exact e0.hok.fresh (Bf (x.above y c (CV h)))
 ·unfold xl_
  show _=N.length
  rw[AE,AA,As]
  omega
theorem apd_{CX:CXT}{P:Program}{w:World}{K:PySem.W.Frag}{mg:Str->Option Value}{base:Heap}{k:Nat}{f:Addr}{name qual:Str}{params:Arguments}{body:List Stmt}{scope:Scope}{dV kV doc pm cdv ct oc:Value}{an od:Option Addr}
  {osl:Array (Option Value)} {N ps:List Str} {sp:Sp} (lk:K.lookup f=some ⟨oc,od,.func (PySem.W.fnOf name qual params body scope dV kV doc pm an cdv ct),osl⟩) (hcd:PySem.W.codeIn K cdv qual=true) (S:FnScope N ps scope)
  (len:∀vs H Q E,sp vs H Q E->vs.length=ps.length)
  (hbody:∀(A:Around)(outer:List Env)(s:Shared)(H:Hp)(vs:List V)(Q:VK)(E:XK),Room k (A.deeper (envOfC qual scope s.heap.objs.size f cdv))->sp vs H Q E ->
   ∃t,PSs (vE_ CX P w K mg base N qual scope f cdv A outer s H E) body t/\t { nx:=λ_ H'=>Q .non H',rt:=Q } (xl_ N vs) H) :
  FnOk P w K mg base CX (k+1) f (PySem.W.fnOf name qual params body scope dV kV doc pm an cdv ct) ps sp:=by
 refine⟨len,λA outer s H args us vs Q E hr e0 hb r hsp=>?_⟩
 have hl:=len _ _ _ _ hsp
 have KX:K.In s.heap:=e0.mod.kin.keeps λb o e=>(e0.bs b o e).1
 have lim:s.heap.NoLimit:=e0.mod.nolimit.keeps λb o e=>(e0.bs b o e).1
 have hkind:∀y∈ps.zip us,scope.names.lookup y.1=some .local∨(scope.names.lookup y.1=some .cell/\((cellsFrom (s.heap.objs.size+1) scope.names []).lookup y.1).isSome=true):=λ⟨n,v⟩ hy=>by
  rcases S.par n (Dv hy).1 with q|q
  ·exact .inl q
  ·exact .inr ⟨q,D4 _ _ _ (.inl q)⟩
 refine codeAny_call_function hr.depth (KX _ _ lk) rfl S.co S.gen rfl (PySem.W.codeRec_of KX hcd) (hb _ _ _ _ ?_)
 refine wpAny_newFunctionEnv_cells S.kind hkind λenv he s1 x=>?_
 subst he
 refine⟨lim.keeps x.toInCall.keep,codeAny_func ?_⟩
 obtain⟨t,ht,hq⟩:=hbody A outer s H vs Q E (hr.deeper _) hsp
 have I:Inv (vE_ CX P w K mg base N qual scope f cdv A outer s H E) [] (xl_ N vs) H s1:=ahp_ S hr.hd e0 hl r x
 refine wpAny_mono (ht [] s1 (xl_ N vs) H _ I hq) (λfl s' hs=>?_) λe s' hs=>hs
 have fin:∀{σ':St}{H':Hp}{v:V}{u:Value},Inv (vE_ CX P w K mg base N qual scope f cdv A outer s H E) [] σ' H' s'->RelV v u->Q v H'->CE outer P w H s Q u s' :=
  λ{σ' H' v u} J rv q=>⟨v,H',J.os,J.bare,J.base,J.hok,rv,q⟩
 cases fl with
 |ret u =>
  obtain⟨v,σ',H',J,rv,q⟩:=hs
  exact fin J rv q
 |next =>
  obtain⟨σ',H',J,q⟩:=hs
  exact fin (v:=V.non) (u:=Value.none) J rfl q
 |brk =>
  obtain⟨_,_,_,q⟩:=hs
  exact False.elim q
 |cont =>
  obtain⟨_,_,_,q⟩:=hs
  exact False.elim q
end L2
namespace L2
open PySem PySem.Spec PyProof.Rows
section
variable{X:Cx}{x:Str}{p pos:Pos}{e:Expr}{es:List Expr}{t:TA}{id T:String}{r:List V->Hp->VK->Prop}
def tCB(r:List V->Hp->VK->Prop)(t:TA):TE:=λσ H Q=>t σ H λvs H1=>r vs H1 Q
theorem qD_(hc:CallR X (.builtin id) r)(hg:Gl X x)(hm:X.mg x=none)(hv:bootBuiltins x=some (.builtin id))(ha:PA X (e::es) t)(hn:x ≠ "__name__" := by decide)(hdb:(x==("__debug__" : Str))=false:=by decide)
  (he:starEach (e::es) X.env=(false,eval e X.env)::starEach es X.env:=by rfl) (hpl:(backTo pos (starEach es X.env)).any (·.1)=false:=by rfl):PE X (.Call (.Name x p) (e::es) [] pos) (tCB r t):=by
 intro pins s σ H Q I h
 refine wpAny_Call_Name_kw (z4_ I hg hm hv ?_ hn hdb)
 exact PyProof.Rows.callWith_builtin1 (thn (ha pos pins s σ H _ I h) λus s1 ⟨vs,H1,I1,r1,q1⟩=>hc pins s1 σ H1 vs us Q I1 r1 q1) he hpl
theorem qO_(hc:CallR X (.type T) r)(hg:Gl X x)(hm:X.mg x=none)(hv:bootBuiltins x=some (.type T))(ha:PA X (e::es) t)(hn:x ≠ "__name__" := by decide)(hdb:(x==("__debug__" : Str))=false:=by decide)
  (he:starEach (e::es) X.env=(false,eval e X.env)::starEach es X.env:=by rfl) (hpl:(backTo pos (starEach es X.env)).any (·.1)=false:=by rfl):PE X (.Call (.Name x p) (e::es) [] pos) (tCB r t):=by
 intro pins s σ H Q I h
 refine wpAny_Call_Name_kw (z4_ I hg hm hv ?_ hn hdb)
 exact Bi (thn (ha pos pins s σ H _ I h) λus s1 ⟨vs,H1,I1,r1,q1⟩=>hc pins s1 σ H1 vs us Q I1 r1 q1) he hpl
end
end L2
namespace HT
open PySem PyProof.Rows
def lexLt:List Int->List Int->Bool
 |[],[]=>false
 |[],_::_=>true
 |_::_,[]=>false
 |x::xs,y::ys=>if x=y then lexLt xs ys else decide (x<y)
theorem lexLt_cons(x y:Int)(xs ys:List Int):lexLt (x::xs) (y::ys)=if x=y then lexLt xs ys else decide (x<y):=rfl
theorem lexLt_nil_nil:lexLt [] []=false:=rfl
theorem lexLt_nil_cons(y:Int)(ys:List Int):lexLt [] (y::ys)=true:=rfl
theorem lexLt_cons_nil(x:Int)(xs:List Int):lexLt (x::xs) []=false:=rfl
theorem eqAt_int(A:Around)(s:Shared)(a:Int)(t:Tok)(c:Int)(u:Tok):∃e,SeqAt.EqAt A s (.int a t) (.int c u) e/\(e=true↔a=c) :=
 ⟨(a==c),Cp a t c u,by simp⟩
theorem aj4_(A:Around)(s:Shared)(a:Int)(t:Tok)(c:Int)(u:Tok)(prog:Program)(w:World)(E:Value->Shared->Prop)(Q:Value->Shared->Prop)(h:Q (.bool (decide (a<c))) s) :
  wpAny (model prog w) A (richCompare .Lt (.int a t) (.int c u)) Q E s :=
 (DJ h:wpAny (model prog w) A (compareOp .Lt (.int a t) (.int c u)) Q E s)
section
open PySem.SeqAt
open PySem.AutoSeq1 (wpAny_loadPart')
open PySem.MeetsSeq PySem.MeetsSeq2 PySem.MeetsSeq3
theorem aau_(l b:Addr)(items items2:Array Value)(n n2:Nat)(dd dd2:Option Addr)(sl sl2:Array (Option Value))(ns ms:List Int)(hi:IntsAre items.toList ns)(hj:IntsAre items2.toList ms) :
  Meets (Builtin.«tuple.__lt__» ⟨[.ref l,.ref b],[]⟩)
   (λ_ R s=>s.heap.get? l=some { cls:=.type "tuple",dict:=dd,data:=.seq items n,slots:=sl }/\s.heap.get? b=some { cls:=.type "tuple",dict:=dd2,data:=.seq items2 n2,slots:=sl2 } /\
    R (.ok (.ret (.bool (lexLt ns ms)))) s) :=
 .of_wp λprog w A R s h=>by
  obtain⟨hp,g,d,tk,os⟩:=s;obtain⟨hl,hb,h⟩:=h
  have f2:=AutoSeq1.sub_tuple_tuple
  have z1:items.size=ns.length:=by rw[<-hi.length];simp
  have z2:items2.size=ms.length:=by rw[<-hj.length];simp
  wp_walk using wpAny_loadPart' hl,wpAny_loadPart' hb,wpAny_forIn_list _ (λrest b s'=>b.1=none/\s'=⟨hp,g,d,tk,os⟩/\∃(vs ws:List Value)(ns' ms':List Int),rest=vs.zip ws /\
   IntsAre vs ns'/\IntsAre ws ms'/\ns'.length+items2.size=ms'.length+items.size/\R (.ok (.ret (.bool (lexLt ns' ms')))) ⟨hp,g,d,tk,os⟩) _
  case turn =>
   rintro⟨y,x⟩ rest b s' ⟨hb',rfl,vs,ws,ns',ms',hz,hvi,hwi,hlen,hR⟩
   cases hvi with
   |nil=>rw[List.zip_nil_left]at hz;cases hz
   |cons a t hvi' =>
    cases hwi with
    |nil=>rw[List.zip_nil_right]at hz;cases hz
    |cons c u hwi' =>
     rw[Cq]at hz
     injection hz with hyx hrest
     injection hyx with hy hx
     subst hy hx
     rw[lexLt_cons]at hR
     simp only[Am]at hlen
     obtain⟨e,he,hiff⟩:=eqAt_int A.in1 ⟨hp,g,d,tk,os⟩ a t c u
     refine wpAny_bind (he prog w _ _ ?_)
     cases e with
     |true =>
      rw[if_pos (hiff.mp rfl)]at hR
      wp_walk
      exact⟨rfl,rfl,_,_,_,_,hrest,hvi',hwi',by omega,hR⟩
     |false =>
      rw[if_neg (λq=>absurd (hiff.mpr q) AS)]at hR
      have hri:=aj4_ A.in1 ⟨hp,g,d,tk,os⟩ a t c u prog w
      wp_walk using hri
      exact⟨_,rfl,by simpa using hR⟩
  case fin =>
   rintro⟨b1,b2⟩ s' ⟨hb',rfl,vs,ws,ns',ms',hz,hvi,hwi,hlen,hR⟩
   simp only at hb'
   subst hb'
   have hv:lexLt ns' ms'=decide (items.size<items2.size):=by
    cases hvi with
    |nil =>
     cases hwi with
     |nil =>
      simp only[CI]at hlen
      rw[lexLt_nil_nil]
      exact(decide_eq_false (by omega)).symm
     |cons c u hw =>
      simp only[CI,Am]at hlen
      rw[lexLt_nil_cons]
      exact(decide_eq_true (by omega)).symm
    |cons a t hv =>
     cases hwi with
     |nil =>
      simp only[CI,Am]at hlen
      rw[lexLt_cons_nil]
      exact(decide_eq_false (by omega)).symm
     |cons c u hw =>
      rw[Cq]at hz
      cases hz
   rw[hv]at hR
   wp_walk
   exact⟨_,rfl,by simpa [Builtin.Tuple.tupleCompareSizes]using hR⟩
  case h =>
   exact⟨rfl,rfl,items.toList,items2.toList,ns,ms,rfl,hi,hj,by omega,h⟩
end
section
variable{prog:Program}{w:World}{A:Around}{E:Value->Shared->Prop}{s:Shared}
theorem lt_tupInts{l b:Addr}{items items2:Array Value}{ns ms:List Int}{Q:Value->Shared->Prop}(hl:IsTup s.heap l items)(hb:IsTup s.heap b items2)(hi:IntsAre items.toList ns)(hj:IntsAre items2.toList ms)
  (hu:A.units<cLine) (h:Q (.bool (lexLt ns ms)) s):wpAny (model prog w) A (compareOp .Lt (.ref l) (.ref b)) Q E s:=by
 obtain⟨⟨cls,dd,data,sl⟩,ho,hc,n,hd⟩:=id hl
 obtain⟨⟨cls2,dd2,data2,sl2⟩,ho2,hc2,n2,hd2⟩:=id hb
 simp only at hc hd hc2 hd2
 subst hc hd hc2 hd2
 exact richCompare_meets_room (op:=.Lt) ⟨_,ho,rfl⟩ ⟨_,ho2,rfl⟩ PySem.F.slot_tuple_lt PySem.F.entry_tuple_lt (PySem.F.args_tuple_lt_2 _ _) (aau_ l b items items2 n n2 dd dd2 sl sl2 ns ms hi hj)
  ⟨ho,ho2,show Value.bool (lexLt ns ms)≠Value.notImplemented/\Q (.bool (lexLt ns ms)) s from⟨(λx=>nomatch x),h⟩⟩ hu
theorem cat_tup{t b:Addr}{vs ws:List Value}{Q:Value->Shared->Prop}(ht:IsTup s.heap t vs.toArray)(hb:IsTup s.heap b ws.toArray)(hv:vs≠[])
  (h1:ws=[]->Q (.ref t) s) (h2:ws≠[]->Q (.ref s.heap.objs.size) { s with heap:=s.heap.push { cls:=.type "tuple",data:=.seq (vs++ws).toArray } })
  (hsz:vs.length+ws.length<=sizeLine):wpAny (model prog w) A (binaryOp .Add (.ref t) (.ref b)) Q E s:=by
 obtain⟨⟨cls,dd,data,sl⟩,ho,hc,n,hd⟩:=id ht
 obtain⟨⟨cls2,dd2,data2,sl2⟩,ho2,hc2,n2,hd2⟩:=id hb
 simp only at hc hd hc2 hd2
 subst hc hd hc2 hd2
 have e:vs.toArray++ws.toArray=(vs++ws).toArray:=by simp
 by_cases hw:ws=[]
 ·exact concat_meets ⟨_,ho,rfl⟩ ⟨_,ho2,rfl⟩ noFill_tuple_add seq_tuple_add C4 C2 (Cr _ _)
   (tuple_addW1 t b vs.toArray ws.toArray n n2 dd dd2 sl sl2 (by simpa using hv) (by simp [hw])) ⟨ho,ho2,h1 hw⟩
 ·refine concat_meets ⟨_,ho,rfl⟩ ⟨_,ho2,rfl⟩ noFill_tuple_add seq_tuple_add C4 C2 (Cr _ _)
   (tuple_addW2 t b vs.toArray ws.toArray n n2 dd dd2 sl sl2 (by simpa using hv) (by simpa using hw) (by rw[Aa,Aa];exact hsz)) ⟨ho,ho2,?_⟩
  rw[e]
  exact h2 hw
def sIx(n d:Nat):Option Int->Nat
 |none=>d
 |some v=>if v<0 then (v+(n:Int)).toNat else min v.toNat n
theorem sIx_none(n d:Nat):sIx n d none=d:=rfl
theorem sIx_nat(n d k:Nat):sIx n d (some (k:Int))=min k n:=by
 show(if (k:Int)<0 then ((k:Int)+(n:Int)).toNat else min (k:Int).toNat n)=min k n
 rw[if_neg (by omega),Ax]
theorem anf_(n d:Nat)(hd:d<=n)(o:Option Int):sIx n d o<=n:=by
 cases o with
 |none=>exact hd
 |some v =>
  show(if v<0 then (v+(n:Int)).toNat else min v.toNat n)<=n
  by_cases hv:v<0
  ·rw[if_pos hv];omega
  ·rw[if_neg hv];exact Nat.min_le_right _ _
theorem ad1_(v:Int)(n d:Nat):(if v<0 then max (v+(n:Int)) 0 else min v (n:Int))=((sIx n d (some v):Nat):Int):=by
 show(if v<0 then max (v+(n:Int)) 0 else min v (n:Int))=(((if v<0 then (v+(n:Int)).toNat else min v.toNat n):Nat):Int)
 by_cases hv:v<0
 ·simp only[if_pos hv];omega
 ·simp only[if_neg hv];omega
theorem afb_(lo hi:Option Int)(n:Nat):Builtin.Slice.sliceAdjust lo hi 1 (n:Int)=(((sIx n 0 lo:Nat):Int),((sIx n n hi:Nat):Int)):=by
 have h1:¬ ((1:Int)<0):=by omega
 unfold Builtin.Slice.sliceAdjust
 simp only[h1,if_false]
 refine Df ?_ ?_
 ·cases lo with
  |none=>rfl
  |some v=>exact ad1_ v n 0
 ·cases hi with
  |none=>rfl
  |some v=>exact ad1_ v n n
theorem aew_(i j:Nat):Builtin.Slice.slicePlaces (i:Int) (j:Int) 1=j-i:=by
 unfold Builtin.Slice.slicePlaces
 have h1:(1:Int)>0:=by omega
 simp only[h1,if_true,Int.ediv_one]
 split<;>omega
theorem vs_{v:Value}{o:Option Int}{Q:Option Int->Shared->Prop}(p:IsPart v o)(h:Q o s):wpAny (model prog w) A (Builtin.Slice.slicePartIndex v) Q E s:=by
 cases p with
 |none=>exact slicePart_none h
 |int i t=>exact slicePart_int h
theorem sliceApplied_gen{sl:Addr}{vl vu:Value}{lo hi:Option Int}{n:Nat}{Q:Int×Int×Nat->Shared->Prop}(hs:s.heap.IsSliceOf sl vl vu .none)(pl:IsPart vl lo)(pu:IsPart vu hi)
  (h:Q (((sIx n 0 lo:Nat):Int),1,sIx n n hi-sIx n 0 lo) s):wpAny (model prog w) A (Builtin.Slice.sliceApplied (.ref sl) (pure (n:Int))) Q E s:=by
 obtain⟨os,hos,hcs,hds⟩:=id hs
 unfold Builtin.Slice.sliceApplied Builtin.Slice.sliceFields
 refine wpAny_bind (wpAny_bind (wpAny_field hos hds (x:=vl) rfl (wpAny_bind (wpAny_field hos hds (x:=vu) rfl (wpAny_bind (wpAny_field hos hds (x:=.none) rfl (wpAny_pure ?_)))))))
 refine wpAny_bind (slicePart_none ?_)
 show wpAny _ _ (if ((1:Int)==0)=true then _ else _) _ _ s
 rw[if_neg (by decide)]
 refine wpAny_bind (vs_ pl (wpAny_bind (vs_ pu (wpAny_bind (wpAny_pure ?_)))))
 show wpAny _ _ (match Builtin.Slice.sliceAdjust lo hi 1 (n:Int) with|(lo,hi)=>pure (lo,(1:Int),Builtin.Slice.slicePlaces lo hi 1)) _ _ s
 rw[afb_ lo hi n]
 show wpAny _ _ (pure (((sIx n 0 lo:Nat):Int),(1:Int),Builtin.Slice.slicePlaces ((sIx n 0 lo:Nat):Int) ((sIx n n hi:Nat):Int) 1)) _ _ s
 rw[aew_]
 exact wpAny_pure h
theorem aje_(xs:Array Value)(i k:Nat):((List.range k).filterMap λ(m:Nat)=>xs[((i:Int)+(m:Int)*1).toNat]?).toArray=((xs.toList.drop i).take k).toArray:=by
 have e:(λ(m:Nat)=>xs[((i:Int)+(m:Int)*1).toNat]?)=λm=>xs[i+m]?:=by
  funext m
  have:((i:Int)+(m:Int)*1).toNat=i+m:=by omega
  rw[this]
 rw[e]
 have:=pick_run xs i k
 rw[List.filterMap_map]at this
 have e2:((λx=>xs[x]?) ∘ λx=>i+x)=λm=>xs[i+m]?:=rfl
 rw[e2]at this
 rw[this]
theorem getItem_tuple_cut{t sl:Addr}{items:Array Value}{vl vu:Value}{lo hi:Option Int}{Q:Value->Shared->Prop}(ht:IsTup s.heap t items)(hs:s.heap.IsSliceOf sl vl vu .none)(pl:IsPart vl lo)(pu:IsPart vu hi)
  (hw:¬ (sIx items.size 0 lo=0/\sIx items.size items.size hi=items.size))
  (h:Q (.ref s.heap.objs.size) { s with heap:=s.heap.push { cls:=.type "tuple",data:=.seq ((items.toList.drop (sIx items.size 0 lo)).take (sIx items.size items.size hi-sIx items.size 0 lo)).toArray } })
  (hsz:items.size<=sizeLine):wpAny (model prog w) A (getItem (.ref t) (.ref sl)) Q E s:=by
 have htake:sizeOk (.seq ((items.toList.drop (sIx items.size 0 lo)).take (sIx items.size items.size hi-sIx items.size 0 lo)).toArray):=by
  show((items.toList.drop (sIx items.size 0 lo)).take (sIx items.size items.size hi-sIx items.size 0 lo)).toArray.size<=sizeLine
  rw[Aa,AW,Au,AM]
  omega
 have hj:sIx items.size items.size hi<=items.size:=anf_ _ _ (AF _) hi
 obtain⟨os,hos,hcs,hds⟩:=id hs
 have hTs:s.TypeIs (.ref sl) "slice" := ⟨os,hos,hcs⟩
 unfold getItem
 try with_reducible refine wpAny_holding ?_
 first|refine wpAny_bind (wpAny_pure ?_)|skip
 refine wpAny_bind (wpAny_sequenceKey ht.typeIs (by decide) ?_)
 refine wpAny_bind (wpAny_callSpecial?_slot (name:=Str.ofString "__getitem__") ht.typeIs BX
  (wpAny_call_entry BX ht.typeIs entry_tuple_getitem ?_ (args_tuple_getitem _ _)))
 show wpAny _ _ (Builtin.Tuple.tupleItemsOf (.ref t)>>=_) _ _ s
 refine wpAny_bind (tupleItemsOf_ ht ?_)
 refine wpAny_bind (wpAny_typeOf hTs ?_)
 rw[if_pos (by decide)]
 refine wpAny_bind (sliceApplied_gen hs pl pu ?_)
 have hno:¬ ((((sIx items.size 0 lo:Nat):Int)==0&&(1:Int)==1&&(sIx items.size items.size hi-sIx items.size 0 lo)==items.size)=true):=by
  intro q
  rw[AH,AH]at q
  have q1:((sIx items.size 0 lo:Nat):Int)=0:=eq_of_beq q.1.1
  have q2:sIx items.size items.size hi-sIx items.size 0 lo=items.size:=eq_of_beq q.2
  exact hw ⟨by omega,by omega⟩
 show wpAny _ _ (if (((sIx items.size 0 lo:Nat):Int)==0&&(1:Int)==1&&(sIx items.size items.size hi-sIx items.size 0 lo)==items.size)=true then _ else _) _ _ s
 rw[if_neg hno,aje_]
 first
  |exact wpAny_bind (m:=Builtin.Tuple.tupleExact _) (wpAny_newObj_type (wpAny_pure ⟨_,rfl,wpAny_pure h⟩) htake)
  |exact wpAny_bind (m:=Builtin.Tuple.tupleExact _) (wpAny_newObj_type (wpAny_bind (wpAny_pure (wpAny_pure ⟨_,rfl,wpAny_pure h⟩))) htake)
  |exact wpAny_bind (wpAny_bind (m:=Builtin.Tuple.tupleExact _) (wpAny_newObj_type (wpAny_pure (wpAny_pure ⟨_,rfl,wpAny_pure h⟩)) htake))
  |exact wpAny_bind (wpAny_bind (m:=Builtin.Tuple.tupleExact _) (wpAny_newObj_type (wpAny_pure ⟨_,rfl,wpAny_pure h⟩) htake))
end
end HT
namespace L2
open PySem PySem.Spec PyProof.Rows
abbrev TO:=St->Hp->(Option Int->Hp->Prop)->Prop
def PO(X:Cx)(e:Option Expr)(t:TO):Prop :=
 ∀(pins:List (Addr×Obj))(s:Shared)(σ:St)(H:Hp)(Q:Option Int->Hp->Prop),Inv X pins σ H s->t σ H Q ->
  wpAny (model X.prog X.w) X.A (evalPart e X.env) (λu s'=>∃o H',Inv X pins σ H' s'/\IsPart u o/\Q o H') X.xe s
def vS_:TO:=λ_ H Q=>Q none H
def aez_(t:TE):TO:=λσ H Q=>t σ H λx H1=>∃i,x=.int i/\Q (some i) H1
theorem q2_{ns:List Int}:∀{us:List Value},Vals (ns.map V.int) us->IntsAre us ns:=by
 induction ns with
 |nil=>intro us r;rw[CF]at r;cases r;exact .nil
 |cons n ns ih =>
  intro us r
  rw[Ae]at r
  cases r with
  |cons r1 r2 =>
   obtain⟨t,e⟩:=r1
   subst e
   exact .cons n t (ih r2)
section
variable{X:Cx}{e:Expr}{te:TE}{lo hi:Option Expr}{tl th:TO}{pos p2:Pos}
theorem zu_:PO X none vS_:=by
 intro pins s σ H Q I h
 rw[evalPart_none]
 exact wpAny_pure ⟨none,H,I,.none,h⟩
theorem q5_(h:PE X e te):PO X (some e) (aez_ te):=by
 intro pins s σ H Q I hw
 rw[evalPart_some]
 refine thn (h pins s σ H _ I hw) λu s1 ⟨x,H1,I1,r1,q1⟩=>?_
 obtain⟨i,rfl,q⟩:=q1
 obtain⟨t,rfl⟩:=r1
 exact⟨some i,H1,I1,.int i t,q⟩
def SlR(X:Cx)(r:V->Option Int->Option Int->Hp->VK->Prop):Prop :=
 ∀(pins:List (Addr×Obj))(s:Shared)(σ:St)(H:Hp)(x:V)(v vl vu:Value)(lo hi:Option Int)(sl:Addr)(Q:VK),Inv X pins σ H s->RelV x v->s.heap.IsSliceOf sl vl vu .none->IsPart vl lo->IsPart vu hi->r x lo hi H Q ->
  ∃T id,typeLookup (.type T) "__getitem__" = pure (some (.builtin id))/\s.TypeIs v T/\wpAny (model X.prog X.w) X.A (getItem v (.ref sl)) (EP X pins σ Q) X.xe s
theorem SlR.or{r r':V->Option Int->Option Int->Hp->VK->Prop}(h:SlR X r)(h':SlR X r'):SlR X (λx lo hi H Q=>r x lo hi H Q∨r' x lo hi H Q):=by
 intro pins s σ H x v vl vu lo hi sl Q I rx hs pl pu q
 rcases q with q|q
 ·exact h pins s σ H x v vl vu lo hi sl Q I rx hs pl pu q
 ·exact h' pins s σ H x v vl vu lo hi sl Q I rx hs pl pu q
def tSl(r:V->Option Int->Option Int->Hp->VK->Prop)(te:TE)(tl th:TO):TE:=λσ H Q=>te σ H λx H1=>tl σ H1 λl H2=>th σ H2 λu H3=>r x l u H3 Q
theorem q3_{r:V->Option Int->Option Int->Hp->VK->Prop}(hr:SlR X r)(he:PE X e te)(hl:PO X lo tl)(hu:PO X hi th):PE X (.Subscript e (.Slice lo hi none p2) pos) (tSl r te tl th):=by
 intro pins s σ H Q I h
 refine Subscript_ (thn (he pins s σ H _ I h) λv s1 ⟨x,H1,I1,r1,q1⟩=>?_)
 refine wpAny_Slice (thn (hl pins s1 σ H1 _ I1 q1) λvl s2 ⟨l,H2,I2,pl,q2⟩=>thn (hu pins s2 σ H2 _ I2 q2) λvu s3 ⟨u,H3,I3,pu,q3⟩=>?_)
 rw[evalPart_none]
 refine wpAny_pure ?_
 have I4:Inv X pins σ H3 { s3 with heap:=s3.heap.push { cls:=.type "slice",data:=.fields #[vl,vu,.none] } }:=I3.kept (t':=s3.toks) λb ob q=>AB _ q
 obtain⟨T,id,hT,ht,hg⟩:=hr pins { s3 with heap:=s3.heap.push { cls:=.type "slice",data:=.fields #[vl,vu,.none] } } σ H3 x v vl vu l u s3.heap.objs.size Q I4 r1 (Heap.IsSliceOf.new ..) pl pu q3
 show wpAny (model X.prog X.w) X.A (subscriptTail e (.Slice lo hi none p2) v (.ref s3.heap.objs.size)) (EP X pins σ Q) X.xe { s3 with heap:=s3.heap.push { cls:=.type "slice",data:=.fields #[vl,vu,.none] } }
 exact tail_any (ops:=[.ref s3.heap.objs.size,v]) ht hT hg (by with_unfolding_all rfl)
def za_(xs:List V)(lo hi:Option Int):List V:=(xs.drop (HT.sIx xs.length 0 lo)).take (HT.sIx xs.length xs.length hi-HT.sIx xs.length 0 lo)
theorem jO_(xs:List V)(lo hi:Option Int):(za_ xs lo hi).length<=xs.length:=by
 unfold za_
 rw[AW,Au]
 omega
def rSlT(K:PySem.W.Frag):V->Option Int->Option Int->Hp->VK->Prop:=λx lo hi H Q=>∃a xs,x=.ref a/\SqT K H a xs /\
 ¬ (HT.sIx xs.length 0 lo=0/\HT.sIx xs.length xs.length hi=xs.length)/\∀p,H p=none->Q (.ref p) (upd H p (.tup (za_ xs lo hi)))
theorem xt_:SlR X (rSlT X.K):=by
 intro pins s σ H x v vl vu lo hi sl Q I rx hs pl pu h
 obtain⟨a,xs,rfl,hx,hw,q⟩:=h
 cases rx
 obtain⟨its,r,ht,hz⟩:=I.tuple hx
 have hlen:its.toArray.size=xs.length:=by rw[Aa];exact r.length.symm
 refine⟨"tuple",_,BX.lookup,ht.typeIs,?_⟩
 refine HT.getItem_tuple_cut ht hs pl pu (by rw[hlen];exact hw) ?_ (by rw[hlen];exact hz)
 rw[hlen]
 refine⟨.ref s.heap.objs.size,_,I.laid (t':=s.toks) (o:=.tup (za_ xs lo hi)) (λb ob q=>AB _ q) (AF _) ?_,rfl,q _ (I.hok.fresh (AF _))⟩
 exact⟨Ac (jO_ xs lo hi) hz,_,(r.drop (HT.sIx xs.length 0 lo)).take (HT.sIx xs.length xs.length hi-HT.sIx xs.length 0 lo),TupN.new _ _⟩
def aps_(K:PySem.W.Frag):R2:=λx y H Q=>∃a b xs ys,x=.ref a/\y=.ref b/\SqT K H a xs/\SqT K H b ys/\xs≠[]/\xs.length+ys.length<=sizeLine /\
 (ys=[]->Q (.ref a) H)/\(ys≠[]->∀p,H p=none->Q (.ref p) (upd H p (.tup (xs++ys))))
theorem Vals.nil_iff{xs:List V}{us:List Value}(r:Vals xs us):us=[]↔xs=[]:=by
 cases r with
 |nil=>simp
 |cons _ _=>simp
theorem ac5_:OpR X (binaryOp .Add) (aps_ X.K):=by
 intro pins s σ H x y v u Q I rx ry h
 obtain⟨a,b,xs,ys,rfl,rfl,ha,hb,hx,hz,q1,q2⟩:=h
 cases rx
 cases ry
 obtain⟨its,r1,p1,_⟩:=I.tuple ha
 obtain⟨its2,r2,p2,_⟩:=I.tuple hb
 refine HT.cat_tup p1 p2 (λz=>hx (r1.nil_iff.mp z)) (λz=>⟨.ref a,H,I,rfl,q1 (r2.nil_iff.mp z)⟩) (λz=>?_) (by rw[<-r1.length,<-r2.length];exact hz)
 refine⟨.ref s.heap.objs.size,_,I.laid (t':=s.toks) (o:=.tup (xs++ys)) (λb ob q=>AB _ q) (AF _) ?_,rfl,q2 (λw=>z (r2.nil_iff.mpr w)) _ (I.hok.fresh (AF _))⟩
 exact⟨by rw[AE];exact hz,_,r1.append r2,TupN.new _ _⟩
end
end L2
namespace L2
open PySem PySem.Spec PyProof.Rows
def ixN(n:Nat)(i:Int):Option Nat:=if 0<=i then (if i<n then some i.toNat else none) else if -(n:Int)<=i then some (i+n).toNat else none
def atI{α:Type}(xs:List α)(i:Int):Option α:=(ixN xs.length i).bind λj=>xs[j]?
theorem adi_{n:Nat}{i:Int}{j:Nat}(h:ixN n i=some j):seqIndex? i n=some j/\j<n/\-(n:Int)<=i/\i<n:=by
 unfold ixN at h
 by_cases h0:0<=i
 ·rw[if_pos h0]at h
  by_cases h1:i<n
  ·rw[if_pos h1]at h
   have e:i.toNat=j:=AZ h
   exact⟨by rw[seqIndex_of h0 h1,e],by omega,by omega,h1⟩
  ·rw[if_neg h1]at h;cases h
 ·rw[if_neg h0]at h
  by_cases h1:-(n:Int)<=i
  ·rw[if_pos h1]at h
   have e:(i+n).toNat=j:=AZ h
   exact⟨by rw[seqIndex_neg (by omega) h1,e],by omega,h1,by omega⟩
  ·rw[if_neg h1]at h;cases h
theorem adz_{α:Type}{xs:List α}{i:Int}{v:α}(h:atI xs i=some v):∃j,seqIndex? i xs.length=some j/\xs[j]?=some v/\j<xs.length/\-(xs.length:Int)<=i/\i<xs.length:=by
 unfold atI at h
 cases e:ixN xs.length i with
 |none=>rw[e]at h;cases h
 |some j =>
  rw[e]at h
  obtain⟨h1,h2,h3,h4⟩:=adi_ e
  exact⟨j,h1,h,h2,h3,h4⟩
theorem z7_{α:Type}{xs:List α}{j:Nat}{v:α}(h:xs[j]?=some v):atI xs (j:Int)=some v:=by
 have hj:j<xs.length:=(AX.mp h).1
 have e:ixN xs.length (j:Int)=some j:=by
  unfold ixN
  rw[if_pos (by omega),if_pos (by omega)];simp
 unfold atI;rw[e];exact h
theorem ach_{α:Type}(xs:List α)(v:α):atI (xs++[v]) (-1)=some v:=by
 have hl:(xs++[v]).length=xs.length+1:=by simp
 have e:ixN (xs++[v]).length (-1)=some xs.length:=by
  unfold ixN
  rw[hl,if_neg (by decide),if_pos (by omega)]
  congr 1
  omega
 unfold atI
 rw[e]
 show(xs++[v])[xs.length]?=some v
 simp
def aly_(b:Expr):Prop:=∀o i,subscripted b false o i=operate [o,i] (getItem o i)
def IxR(X:Cx)(r:R2):Prop :=
 ∀(value slice:Expr)(pins:List (Addr×Obj))(s:Shared)(σ:St)(H:Hp)(x y:V)(v u:Value)(Q:VK),Inv X pins σ H s->RelV x v->RelV y u->r x y H Q ->
  subscripted slice false v u=operate [v,u] (getItem v u)->wpAny (model X.prog X.w) X.A (subscriptTail value slice v u) (EP X pins σ Q) X.xe s
def MtR(X:Cx)(id:String)(r:V->List V->Hp->VK->Prop):Prop :=
 ∀(pins:List (Addr×Obj))(s:Shared)(σ:St)(H:Hp)(x:V)(xs:List V)(v:Value)(us:List Value)(Q:VK),Inv X pins σ H s->RelV x v->Vals xs us->r x xs H Q ->
  wpAny (model X.prog X.w) X.A (call (.builtin id) (v::us)) (EP X pins σ Q) X.xe s
section
variable{X:Cx}{a b:Expr}{ta tb:TE}{pos:Pos}
theorem IxR.or{r r':R2}(h:IxR X r)(h':IxR X r'):IxR X (λx y H Q=>r x y H Q∨r' x y H Q):=by
 intro value slice pins s σ H x y v u Q I rx ry q hs
 rcases q with q|q
 ·exact h value slice pins s σ H x y v u Q I rx ry q hs
 ·exact h' value slice pins s σ H x y v u Q I rx ry q hs
theorem MtR.or{id:String}{r r':V->List V->Hp->VK->Prop}(h:MtR X id r)(h':MtR X id r'):MtR X id (λx xs H Q=>r x xs H Q∨r' x xs H Q):=by
 intro pins s σ H x xs v us Q I rx rs q
 rcases q with q|q
 ·exact h pins s σ H x xs v us Q I rx rs q
 ·exact h' pins s σ H x xs v us Q I rx rs q
theorem qY_{r:R2}(hr:IxR X r)(ha:PE X a ta)(hb:PE X b tb)(hs:aly_ b):PE X (.Subscript a b pos) (tOp r ta tb):=by
 intro pins s σ H Q I h
 exact Subscript_ (binT ha hb I h λv u s2 x y H2 I2 rx ry q=>hr a b pins s2 σ H2 x y v u Q I2 rx ry q (hs _ _))
def rIxL(K:PySem.W.Frag):R2:=λx y H Q=>∃p xs i v,x=.ref p/\y=.int i/\SqL K H p xs/\atI xs i=some v/\Q v H
def rIxT(K:PySem.W.Frag):R2:=λx y H Q=>∃p xs i v,x=.ref p/\y=.int i/\SqT K H p xs/\atI xs i=some v/\Q v H
theorem qW_:IxR X (rIxL X.K):=by
 intro value slice pins s σ H x y v u Q I rx ry h hs
 obtain⟨p,xs,i,z,rfl,rfl,hq,he,q⟩:=h
 cases rx
 obtain⟨t,rfl⟩:=ry
 obtain⟨its,r,pl,hz⟩:=I.list hq
 obtain⟨j,h1,h2,h3,h4,h5⟩:=adz_ he
 obtain⟨w,ew,rw'⟩:=r.get h2
 have hl:=r.length
 have hn:=vd_
 have fin:EP X pins σ Q w s:=⟨z,H,I,rw',q⟩
 by_cases h0:0<=i
 ·have hj:i.toNat=j:=by
   rw[seqIndex_of h0 h5]at h1
   exact AZ h1
  exact item_listR pl.isList h0 (by omega) (by rw[hj];simpa using ew) fin hs
 ·have hj:(i+(its.toArray.size:Int)).toNat=j:=by
   rw[seqIndex_neg (by omega) h4]at h1
   rw[Aa,<-hl]
   exact AZ h1
  exact subscriptTail_builtinR (x:=w) pl.isList.typeIs slot_list_getitem.lookup
   (wpAny_getItem_list_neg (Q:=λr s'=>r=w/\EP X pins σ Q r s') pl.isList (by omega) (by rw[Aa]<;>omega) (by omega) (by rw[hj];simpa using ew) ⟨rfl,fin⟩) hs
theorem xh_:IxR X (rIxT X.K):=by
 intro value slice pins s σ H x y v u Q I rx ry h hs
 obtain⟨p,xs,i,z,rfl,rfl,hq,he,q⟩:=h
 cases rx
 obtain⟨t,rfl⟩:=ry
 obtain⟨its,r,pl,hz⟩:=I.tuple hq
 obtain⟨j,h1,h2,h3,h4,h5⟩:=adz_ he
 obtain⟨w,ew,rw'⟩:=r.get h2
 have hl:=r.length
 have hn:=vd_
 have fin:EP X pins σ Q w s:=⟨z,H,I,rw',q⟩
 exact subscriptTail_builtinR (x:=w) pl.typeIs slot_tuple_getitem.lookup
  (getItem_tuple (j:=j) (Q:=λr s'=>r=w/\EP X pins σ Q r s') pl (by omega) (by omega) (by rw[Aa,<-hl];exact h1) (by simpa using ew) ⟨rfl,fin⟩) hs
theorem aek_(its:List Value)(n j:Nat)(u:Value):Obj.mapSeq (·.setIfInBounds j u) { cls:=.type "list",data:=.seq its.toArray n }={ cls:=.type "list",data:=.seq (its.set j u).toArray n }:=by
 simp [Obj.mapSeq]
theorem Inv.lst{pins:List (Addr×Obj)}{σ:St}{H:Hp}{s:Shared}{p:Addr}{xs:List V}(I:Inv X pins σ H s)(h:H p=some (.lst xs)) :
  ∃(its:List Value)(n:Nat),Vals xs its/\s.heap.get? p=some { cls:=.type "list",data:=.seq its.toArray n }/\xs.length<=sizeLine:=by
 obtain⟨z,its,n,r,e⟩:=I.hok p _ h
 exact⟨its,n,r,e,z⟩
theorem Inv.lstUpd{pins:List (Addr×Obj)}{σ:St}{H:Hp}{s:Shared}{p:Addr}{xs ys:List V}{its its':List Value}{n n':Nat}{f:Obj->Obj}(I:Inv X pins σ H s)(h:H p=some (.lst xs))
  (ho:s.heap.get? p=some { cls:=.type "list",data:=.seq its.toArray n }) (hf:f { cls:=.type "list",data:=.seq its.toArray n }={ cls:=.type "list",data:=.seq its'.toArray n' }) (r:Vals ys its') (hz:ys.length<=sizeLine) (t:Nat) :
  Inv X pins σ (upd H p (.lst ys)) { s with heap:=s.heap.update p f,toks:=t }:=by
 have e:(s.heap.update p f).get? p=some { cls:=.type "list",data:=.seq its'.toArray n' }:=by
  rw[B5 f ho (by rw[hf]<;>rfl),hf]
 refine I.write (x:=p) (e:=p) (by rw[h];trivial) (.inl rfl) (λb u hb q=>(Az _ _ (CG hb)).trans q) ⟨_,e⟩ ?_
 exact⟨hz,its',n',r,e⟩
def aqc_:V->V->V->Hp->(Hp->Prop)->Prop:=λo i v H Q=>∃p xs k j,o=.ref p/\i=.int k/\H p=some (.lst xs)/\ixN xs.length k=some j/\Q (upd H p (.lst (xs.set j v)))
theorem ajb_:PSet X aqc_:=by
 intro pins s σ H o i v ov iv u Q I ro ri rv h
 obtain⟨p,xs,k,j,rfl,rfl,hp,hj,q⟩:=h
 cases ro
 obtain⟨t,rfl⟩:=ri
 obtain⟨its,n,r,ho,hz⟩:=I.lst hp
 obtain⟨h1,h2,h3,h4⟩:=adi_ hj
 have hl:=r.length
 have hn:=vd_
 have I':Inv X pins σ (upd H p (.lst (xs.set j v))) { s with heap:=s.heap.update p (Obj.mapSeq (·.setIfInBounds j u)) } :=
  I.lstUpd hp ho (aek_ its n j u) (r.set rv j) (by rw[List.length_set];exact hz) s.toks
 by_cases h0:0<=k
 ·have hk:k.toNat=j:=by
   rw[seqIndex_of h0 h4]at h1
   exact AZ h1
  exact PySem.W.ki_setAt ho h0 (by omega) (by rw[Aa,<-hl];exact h4) (by rw[hk];exact⟨_,I',q⟩)
 ·have hk:(k+(its.toArray.size:Int)).toNat=j:=by
   rw[seqIndex_neg (by omega) h3]at h1
   rw[Aa,<-hl]
   exact AZ h1
  exact PySem.W.ki_setBack ho (by omega) (by rw[Aa,<-hl];exact h3) (by omega) (by rw[hk];exact⟨_,I',q⟩)
theorem aba_(lo hi:Option Int)(n:Nat):(sliceBounds lo hi none n).1=((HT.sIx n 0 lo:Nat):Int)/\(sliceBounds lo hi none n).2.1=((HT.sIx n n hi:Nat):Int)/\(sliceBounds lo hi none n).2.2=1:=by
 refine⟨?_,?_,rfl⟩
 ·cases lo with
  |none=>simp [sliceBounds,HT.sIx]
  |some i =>
   simp only[sliceBounds,HT.sIx,Option.getD_none,show(1:Int)>0 by decide,if_true]
   by_cases h:i<0
   ·simp only[h,if_true]<;>omega
   ·simp only[h,if_false]<;>omega
 ·cases hi with
  |none=>simp [sliceBounds,HT.sIx]
  |some i =>
   simp only[sliceBounds,HT.sIx,Option.getD_none,show(1:Int)>0 by decide,if_true]
   by_cases h:i<0
   ·simp only[h,if_true]<;>omega
   ·simp only[h,if_false]<;>omega
theorem aat_(its:List Value)(lo hi:Option Int):slicePick its.toArray lo hi none=((its.drop (HT.sIx its.length 0 lo)).take (HT.sIx its.length its.length hi-HT.sIx its.length 0 lo)).toArray:=by
 obtain⟨h1,h2,h3⟩:=aba_ lo hi its.toArray.size
 unfold slicePick
 rw[h1,h2,h3]
 simp only[sliceRange_one,pick_run,Aa]<;>rfl
def rSlL(K:PySem.W.Frag):V->Option Int->Option Int->Hp->VK->Prop:=λx lo hi H Q=>∃a xs,x=.ref a/\SqL K H a xs/\∀p,H p=none->Q (.ref p) (upd H p (.lst (za_ xs lo hi)))
theorem yG_:SlR X (rSlL X.K):=by
 intro pins s σ H x v vl vu lo hi sl Q I rx hs pl pu h
 obtain⟨a,xs,rfl,hx,q⟩:=h
 cases rx
 obtain⟨its,r,ht,hz⟩:=I.list hx
 have hlen:=r.length
 refine⟨"list",_,slot_list_getitem.lookup,ht.isList.typeIs,?_⟩
 refine wpAny_getItem_list_slice ht.isList hs pl pu .none (by simp) ?_ (by rw[Aa]<;>omega)
 rw[aat_,<-hlen]
 refine⟨.ref s.heap.objs.size,_,I.laid (t':=s.toks) (o:=.lst (za_ xs lo hi)) (λb ob q=>AB _ q) (AF _) ?_,rfl,q _ (I.hok.fresh (AF _))⟩
 exact⟨Ac (jO_ xs lo hi) hz,_,0,(r.drop (HT.sIx xs.length 0 lo)).take (HT.sIx xs.length xs.length hi-HT.sIx xs.length 0 lo),AI _ rfl⟩
def xj_:V->Bool
 |.non=>true
 |.bl _=>true
 |.int _=>true
 |.str _=>true
 |_=>false
def eqV:V->V->Bool
 |.non,.non=>true
 |.bl a,.bl b=>a==b
 |.bl a,.int b=>(if a then 1 else 0)==b
 |.int a,.bl b=>a==(if b then 1 else 0)
 |.int a,.int b=>a==b
 |.str a,.str b=>a==b
 |_,_=>false
theorem aml_{A:Around}{s:Shared}{y x:V}{u v:Value}(ry:RelV y u)(rx:RelV x v)(fy:xj_ y=true)(fx:xj_ x=true):SeqAt.EqAt A s u v (eqV y x):=by
 cases y with
 |non =>
  cases ry
  cases x with
  |non=>cases rx;exact Dw _
  |bl b=>cases rx;exact SeqAt.EqAt.none_bool b
  |int b=>obtain⟨t,rfl⟩:=rx;exact SeqAt.EqAt.none_int b t
  |str b=>obtain⟨t,rfl⟩:=rx;exact SeqAt.EqAt.none_str b t
  |_=>exact absurd (show false=true from fx) AS
 |bl a =>
  cases ry
  cases x with
  |non=>cases rx;exact SeqAt.EqAt.bool_none a
  |bl b=>cases rx;exact SeqAt.EqAt.bool_bool a b
  |int b=>obtain⟨t,rfl⟩:=rx;exact SeqAt.EqAt.bool_int a b t
  |str b=>obtain⟨t,rfl⟩:=rx;exact SeqAt.EqAt.bool_str a b t
  |_=>exact absurd (show false=true from fx) AS
 |int a =>
  obtain⟨t',rfl⟩:=ry
  cases x with
  |non=>cases rx;exact SeqAt.EqAt.int_none a t'
  |bl b=>cases rx;exact SeqAt.EqAt.int_bool a t' b
  |int b=>obtain⟨t,rfl⟩:=rx;exact Cp a t' b t
  |str b=>obtain⟨t,rfl⟩:=rx;exact SeqAt.EqAt.int_str a t' b t
  |_=>exact absurd (show false=true from fx) AS
 |str a =>
  obtain⟨t',rfl⟩:=ry
  cases x with
  |non=>cases rx;exact SeqAt.EqAt.str_none a t'
  |bl b=>cases rx;exact SeqAt.EqAt.str_bool a t' b
  |int b=>obtain⟨t,rfl⟩:=rx;exact SeqAt.EqAt.str_int a t' b t
  |str b=>obtain⟨t,rfl⟩:=rx;exact SeqAt.EqAt.str_str a t' b t
  |_=>exact absurd (show false=true from fx) AS
 |_=>exact absurd (show false=true from fy) AS
def eqU(x:V)(u:Value):Bool:=match u with
 |.none=>eqV .non x
 |.bool b=>eqV (.bl b) x
 |.int i _=>eqV (.int i) x
 |.str z _=>eqV (.str z) x
 |_=>false
theorem af7_{x y:V}{u:Value}(r:RelV y u)(f:xj_ y=true):eqU x u=eqV y x:=by
 cases y with
 |non=>cases r;rfl
 |bl b=>cases r;rfl
 |int i=>obtain⟨t,rfl⟩:=r;rfl
 |str z=>obtain⟨t,rfl⟩:=r;rfl
 |_=>exact absurd (show false=true from f) AS
theorem vC_{x:V}:∀{xs:List V}{us:List Value},Vals xs us->xs.all xj_=true->us.any (eqU x)=xs.any λy=>eqV y x
 |_,_,.nil,_=>rfl
 |y::xs,u::us,.cons r t,f=>by
  rw[Cc,AH]at f
  rw[Bn,Bn,af7_ r f.1,vC_ t f.2]
theorem yM_{A:Around}{s:Shared}{x:V}{v:Value}(rx:RelV x v)(fx:xj_ x=true):∀{xs:List V}{us:List Value},Vals xs us->xs.all xj_=true->∀u∈us,SeqAt.EqAt A s u v (eqU x u)
 |_,_,.nil,_=>λu hu=>by cases hu
 |y::xs,u::us,.cons r t,f=>λu' hu=>by
  rw[Cc,AH]at f
  rcases AL.mp hu with rfl|hu
  ·rw[af7_ r f.1];exact aml_ r rx f.1 fx
  ·exact yM_ rx fx t f.2 u' hu
def inV(x:V)(xs:List V):Bool:=xs.any λy=>eqV y x
def rIn(K:PySem.W.Frag)(neg:Bool):R2:=λx y H Q=>∃p xs,y=.ref p/\(SqL K H p xs∨SqT K H p xs)/\xj_ x=true/\xs.all xj_=true/\Q (.bl (if neg then !inV x xs else inV x xs)) H
theorem ab9_:OpR X (compareOp .NotIn) (rIn X.K true):=by
 intro pins s σ H x y v u Q I rx ry h
 obtain⟨p,xs,rfl,hq,fx,fs,q⟩:=h
 cases ry
 rcases hq with hq|hq
 ·obtain⟨its,r,pl,hz⟩:=I.list hq
  refine SeqAt.notIn_listAt (eqU x) pl.isList (λw hw=>yM_ rx fx r fs w (by simpa using hw)) ⟨.bl _,H,I,rfl,?_⟩
  rw[show its.toArray.any (eqU x)=its.any (eqU x) by simp,vC_ r fs]
  exact q
 ·obtain⟨its,r,pl,hz⟩:=I.tuple hq
  refine SeqAt.notIn_tupleAt (eqU x) pl (λw hw=>yM_ rx fx r fs w (by simpa using hw)) ⟨.bl _,H,I,rfl,?_⟩
  rw[show its.toArray.any (eqU x)=its.any (eqU x) by simp,vC_ r fs]
  exact q
theorem q4_:CallR X (.builtin "len") (λxs H Q=>∃p ys,xs=[.ref p]/\(SqL X.K H p ys∨SqT X.K H p ys)/\Q (.int ys.length) H):=by
 intro pins s σ H xs us Q I r h
 obtain⟨p,ys,rfl,hq,q⟩:=h
 obtain⟨u,rfl,rx⟩:=zx_ r
 cases rx
 have hn:=vd_
 rcases hq with hq|hq
 ·obtain⟨its,r',pl,hz⟩:=I.list hq
  have hlen:=r'.length
  exact Calls.call_len_list pl.isList (by simp only[Aa]<;>omega) ⟨.int ys.length,H,I.tok _,⟨s.toks+1,by rw[Aa,hlen]⟩,q⟩
 ·obtain⟨its,r',pl,hz⟩:=I.tuple hq
  have hlen:=r'.length
  exact len_tuple pl (by simp only[Aa]<;>omega) ⟨.int ys.length,H,I.tok _,⟨s.toks+1,by rw[Aa,hlen]⟩,q⟩
theorem CallR.or{f:Value}{r r':List V->Hp->VK->Prop}(h:CallR X f r)(h':CallR X f r'):CallR X f (λxs H Q=>r xs H Q∨r' xs H Q):=by
 intro pins s σ H xs us Q I rs q
 rcases q with q|q
 ·exact h pins s σ H xs us Q I rs q
 ·exact h' pins s σ H xs us Q I rs q
theorem abl_:CallR X (.type "list") (λxs H Q=>∃p ys,xs=[.ref p]/\(SqL X.K H p ys∨SqT X.K H p ys)/\∀l,H l=none->Q (.ref l) (upd H l (.lst ys))):=by
 intro pins s σ H xs us Q I r h
 obtain⟨p,ys,rfl,hq,q⟩:=h
 obtain⟨u,rfl,rx⟩:=zx_ r
 cases rx
 have fin:∀(its:List Value),Vals ys its->ys.length<=sizeLine->∀(h':Heap)(c':Nat),(∀b o',s.heap.get? b=some o'->h'.get? b=some o') ->
   h'.get? s.heap.objs.size=some { cls:=.type "list",dict:=none,data:=.seq its.toArray c',slots:=#[] }->EP X pins σ Q (.ref s.heap.objs.size) { s with heap:=h' }:=λits r' hz h' c' kp e =>
  ⟨.ref s.heap.objs.size,_,I.laid (t':=s.toks) kp (AF _) (show ObjOk X.prog X.w _ h' _ (.lst ys) from⟨hz,its,c',r',e⟩),rfl,q _ (I.hok.fresh (AF _))⟩
 rcases hq with hq|hq
 ·obtain⟨its,r',pl,hz⟩:=I.list hq
  have hlen:=r'.length
  obtain⟨o,ho,hc,n,hd⟩:=pl.isList
  exact call_list_seq p (.inl rfl) ho hc hd (λh' c' kp e=>fin its r' hz h' c' kp e) (by simp only[Aa]<;>omega)
 ·obtain⟨its,r',pl,hz⟩:=I.tuple hq
  have hlen:=r'.length
  obtain⟨o,ho,hc,n,hd⟩:=pl
  exact call_list_seq p (.inr rfl) ho hc hd (λh' c' kp e=>fin its r' hz h' c' kp e) (by simp only[Aa]<;>omega)
theorem qP_:CallR X (.type "tuple") (λxs H Q=>∃p ys,xs=[.ref p]/\((SqL X.K H p ys/\∀l,H l=none->Q (.ref l) (upd H l (.tup ys)))∨(SqT X.K H p ys/\Q (.ref p) H))):=by
 intro pins s σ H xs us Q I r h
 obtain⟨p,ys,rfl,h⟩:=h
 obtain⟨u,rfl,rx⟩:=zx_ r
 cases rx
 rcases h with⟨hq,q⟩|⟨hq,q⟩
 ·obtain⟨its,r',pl,hz⟩:=I.list hq
  have hlen:=r'.length
  refine call_tuple_list pl.isList (λh' kp=>?_) (by simp only[Aa]<;>omega)
  have I1:Inv X pins σ H { s with heap:=h' }:=I.kept (t':=s.toks) kp
  have I2:Inv X pins σ (upd H h'.objs.size (.tup ys)) { s with heap:=h'.push { cls:=.type "tuple",data:=.seq its.toArray } } :=
   I1.laid (t':=s.toks) (λb o e=>AB _ e) (AF _) (show ObjOk X.prog X.w _ _ _ (.tup ys) from⟨hz,its,r',TupN.new _ _⟩)
  exact⟨.ref h'.objs.size,_,I2,rfl,q _ (I1.hok.fresh (AF _))⟩
 ·obtain⟨its,r',pl,hz⟩:=I.tuple hq
  exact call_tuple_same pl ⟨.ref p,H,I,rfl,q⟩
def tyV(K:PySem.W.Frag)(T:String)(x:V)(H:Hp):Prop:=match x with
 |.str _=>T = "str"
 |.int _=>T = "int"
 |.ref p=>(T = "list" /\ ∃xs,SqL K H p xs)∨(T = "tuple" /\ ∃o,K.lookup p=some o/\o.cls=.type "tuple" /\ o.dict=none) ∨
   (T = "dict" /\ ((∃kvs,H p=some (.dK kvs))∨∃kvs,H p=some (.dT kvs)))∨(T = "set" /\ ∃S n,H p=some (.set S n))
 |_=>False
theorem ani_{pins:List (Addr×Obj)}{σ:St}{H:Hp}{s:Shared}{T:String}{x:V}{v:Value}(I:Inv X pins σ H s)(r:RelV x v)(ty:tyV X.K T x H) :
  s.TypeIs v T/\∀a,v=.ref a->∃ob,s.heap.get? a=some ob/\ob.dict=none:=by
 cases x with
 |str z =>
  obtain⟨t,rfl⟩:=r
  cases(show T = "str" from ty)
  exact⟨typeIs_str s z t,λ_ e=>nomatch e⟩
 |int i =>
  obtain⟨t,rfl⟩:=r
  cases(show T = "int" from ty)
  exact⟨typeIs_int s i t,λ_ e=>nomatch e⟩
 |ref p =>
  cases r
  rcases ty with⟨rfl,xs,hq⟩|⟨rfl,o,hk,hc,hd⟩|⟨rfl,hk⟩|⟨rfl,S,n,hk⟩
  ·obtain⟨its,_,pl,_⟩:=I.list hq
   refine⟨pl.isList.typeIs,λa e=>?_⟩
   cases e
   obtain⟨o,n,e,c,hd,_⟩:=pl
   exact⟨o,e,hd⟩
  ·refine⟨⟨o,I.kIn p o hk,hc⟩,λa e=>?_⟩
   cases e
   exact⟨o,I.kIn _ o hk,hd⟩
  ·have z:∃o,s.heap.get? p=some o/\o.ExactDict:=by
    rcases hk with⟨kvs,hk⟩|⟨kvs,hk⟩
    ·obtain⟨_,_,_,_,o,_,_,e,ex,_⟩:=I.hok p _ hk
     exact⟨o,e,ex⟩
    ·obtain⟨_,_,_,_,o,_,_,e,ex,_⟩:=I.hok p _ hk
     exact⟨o,e,ex⟩
   obtain⟨o,e,ex⟩:=z
   refine⟨⟨o,e,ex.1⟩,λa e2=>?_⟩
   cases e2
   exact⟨o,e,ex.2.1⟩
  ·obtain⟨o,_,_,_,e,ex,_⟩:=I.hok p _ hk
   refine⟨⟨o,e,ex.1⟩,λa e2=>?_⟩
   cases e2
   exact⟨o,e,ex.2.1⟩
 |_=>exact False.elim ty
def tBM(K:PySem.W.Frag)(T:String)(r:V->List V->Hp->VK->Prop)(to:TE)(t:TA):TE:=λσ H Q=>to σ H λx H1=>tyV K T x H1/\t σ H1 λxs H2=>r x xs H2 Q
variable{o e:Expr}{es:List Expr}{to:TE}{t:TA}{name:Str}{apos cpos:Pos}{T id:String}{r:V->List V->Hp->VK->Prop}
theorem jM_(pa:PlainAttrs T)(slot:Slot T name id)(hty:typeOf (.builtin id)=pure (.type "method_descriptor"))(hm:MtR X id r)(ho:PE X o to)(ha:PA X (e::es) t)
  (hbase:attributeBase o name X.env (eval o X.env)=eval o X.env:=by rfl)
  (hfew:((backTo cpos (starEach (e::es) X.env)).all (λx=>!x.1)&&(backToKw cpos (keywordEach [] X.env)).all (λx=>x.1.isSome)
   && decide ((e::es).length+([]:List Keyword).length+(if ([]:List Keyword).isEmpty then 0 else 1)<30))=true:=by rfl)
  (hline:(apos.endLine==cpos.line)=true:=by rfl) (hs:starEach (e::es) X.env=(false,eval e X.env)::starEach es X.env:=by rfl) (hplain:(backTo cpos (starEach es X.env)).any (·.1)=false:=by rfl) :
  PE X (.Call (.Attribute o name apos) (e::es) [] cpos) (tBM X.K T r to t):=by
 intro pins s σ H Q I h
 refine wpAny_Call_method_late hbase hfew hline rfl (thn (ho pins s σ H _ I h) λv s1 ⟨x,H1,I1,r1,ty,q1⟩=>?_)
 obtain⟨h1,h2⟩:=ani_ I1 r1 ty
 refine⟨T,id,pa,slot,hty,h1,h2,?_⟩
 have hA:=ha cpos pins s1 σ H1 _ I1 q1
 rw[hs]at hA ⊢
 refine Cd (by show(false||(backTo cpos (starEach es X.env)).any (·.1))=false;rw[hplain]<;>rfl) (DB ?_)
 exact thn hA λus s2 ⟨vs,H2,I2,r2,q2⟩=>hm pins s2 σ H2 x vs v us Q I2 r1 r2 q2
end
end L2
namespace L2
open PySem PySem.Spec PyProof.Rows
def MtM(X:Cx)(id:String)(r:V->List V->Hp->VK->Prop):Prop :=
 ∀(pins:List (Addr×Obj))(s:Shared)(σ:St)(H:Hp)(x:V)(xs:List V)(v:Value)(us:List Value)(Q:VK),Inv X pins σ H s->RelV x v->Vals xs us->r x xs H Q ->
  wpAny (model X.prog X.w) X.A (call (.builtin id) (v::us)) (EP X pins σ Q) X.xe s
theorem Vals.one:∀{x:V}{us:List Value},Vals [x] us->∃u,us=[u]/\RelV x u
 |_,_,.cons r .nil=>⟨_,rfl,r⟩
theorem Vals.two:∀{x y:V}{us:List Value},Vals [x,y] us->∃u v,us=[u,v]/\RelV x u/\RelV y v
 |_,_,_,.cons r (.cons q .nil)=>⟨_,_,rfl,r,q⟩
theorem Vals.reverse{xs:List V}{us:List Value}(h:Vals xs us):Vals xs.reverse us.reverse:=by
 induction h with
 |nil=>exact .nil
 |cons r t ih=>rw[Db,Db];exact Vals.append ih (.cons r .nil)
theorem Vals.rep{xs:List V}{us:List Value}(h:Vals xs us):∀k:Nat,Vals (List.replicate k xs).flatten (List.replicate k us).flatten
 |0=>.nil
 |k+1=>by
  rw[Ap,Ap,BV,BV]
  exact Vals.append h (Vals.rep h k)
theorem v6_(its:List Value):∀(k:Nat)(acc:List Value),
  List.foldl (λx1 x2=>x1++x2) acc.toArray (List.replicate k its.toArray)=(acc++(List.replicate k its).flatten).toArray
 |0,acc=>by simp
 |k+1,acc=>by
  have e:acc.toArray++its.toArray=(acc++its).toArray:=by simp
  have e2:(acc++its)++(List.replicate k its).flatten=acc++(List.replicate (k+1) its).flatten:=by
   rw[Ap,BV,AY]
  rw[<-e2,<-v6_ its k (acc++its),<-e,Ap,BY]
section
variable{X:Cx}{pins:List (Addr×Obj)}{σ:St}{H:Hp}{s:Shared}{l b:Addr}{xs ys zs:List V}
theorem Inv.lset{its its':List Value}{n:Nat}{f:Array Value->Array Value}{t':Nat}(I:Inv X pins σ H s)(hH:H l=some (.lst xs))
  (e:s.heap.get? l=some { cls:=.type "list",data:=.seq its.toArray n }) (hf:f its.toArray=its'.toArray) (hv:Vals ys its') (hz:ys.length<=sizeLine) :
  Inv X pins σ (upd H l (.lst ys)) { s with heap:=s.heap.update l (Obj.mapSeq f),toks:=t' }:=by
 have q:=PySem.IsL.update e f
 rw[hf]at q
 refine I.write (x:=l) (e:=l) (by rw[hH];exact trivial) (.inl rfl) (λb' u hb hu=>(Az s.heap (Obj.mapSeq f) (CG hb)).trans hu) ⟨_,q⟩ ?_
 exact⟨hz,its',_,hv,q⟩
theorem Inv.lnew{its:List Value}{t':Nat}(I:Inv X pins σ H s)(hv:Vals ys its)(hz:ys.length<=sizeLine) :
  Inv X pins σ (upd H s.heap.objs.size (.lst ys)) { s with heap:=s.heap.push { cls:=.type "list",data:=.seq its.toArray },toks:=t' } :=
 I.laid (λ_ _ q=>AB _ q) (AF _) ⟨hz,its,0,hv,AI _ rfl⟩
theorem Inv.fresh(I:Inv X pins σ H s):H s.heap.objs.size=none:=I.hok.fresh (AF _)
theorem Inv.lstM(I:Inv X pins σ H s)(hH:H l=some (.lst xs)):xs.length<=sizeLine/\∃(its:List Value)(n:Nat),Vals xs its/\xs.length=its.length/\s.heap.get? l=some { cls:=.type "list",data:=.seq its.toArray n }:=by
 obtain⟨z,its,n,r,e⟩:=I.hok l _ hH
 exact⟨z,its,n,r,r.length,e⟩
theorem ace_{n:Nat}(h:n<=sizeLine):Builtin.List.listTooLong n=false:=by
 unfold Builtin.List.listTooLong
 exact decide_eq_false (by omega)
end
section
variable{X:Cx}
def adk_:V->List V->Hp->VK->Prop:=λx vs H Q=>∃l xs y,x=.ref l/\vs=[y]/\H l=some (.lst xs)/\xs.length<sizeLine/\Q .non (upd H l (.lst (xs++[y])))
theorem q7_:MtM X "list.append" adk_:=by
 intro pins s σ H x vs v us Q I rx rv h
 obtain⟨l,xs,y,rfl,rfl,hH,hz,q⟩:=h
 cases rx
 obtain⟨u,rfl,ru⟩:=rv.one
 obtain⟨z,its,n,r,hl,e⟩:=I.lstM hH
 refine call_meets F.slot_list_append ⟨_,e,rfl⟩ F.entry_list_append (F.args_list_append_2 _ _) (PySem.list_append l its.toArray n u (by rw[Aa];omega)) ⟨e,?_⟩
 refine⟨.non,_,I.lset (its':=its++[u]) hH e (by simp) (r.append (.cons ru .nil)) ?_,rfl,q⟩
 rw[AE,Aq]
 omega
def al1_:V->List V->Hp->VK->Prop:=λx vs H Q=>∃l b xs zs,x=.ref l/\vs=[.ref b]/\H l=some (.lst xs)/\H b=some (.lst zs)/\xs.length+zs.length<=sizeLine/\Q .non (upd H l (.lst (xs++zs)))
theorem arf_:MtM X "list.extend" al1_:=by
 intro pins s σ H x vs v us Q I rx rv h
 obtain⟨l,b,xs,zs,rfl,rfl,hH,hB,hz,q⟩:=h
 cases rx
 obtain⟨u,rfl,ru⟩:=rv.one
 cases ru
 obtain⟨z,its,n,r,hl,e⟩:=I.lstM hH
 obtain⟨z2,its2,n2,r2,hl2,e2⟩:=I.lstM hB
 have hsz:its.toArray.size+its2.toArray.size<=sizeLine:=by rw[Aa,Aa];omega
 have hlong:¬ (!its.toArray.isEmpty&&Builtin.List.listTooLong (its.toArray.size+its2.toArray.size))=true:=by
  rw[ace_ hsz,EE]
  exact AS
 refine call_meets F.slot_list_extend ⟨_,e,rfl⟩ F.entry_list_extend (F.args_list_extend_2 _ _)
  (AutoSeq1.list_extend_list_list_0 l its.toArray n b its2.toArray n2 hlong (by rw[Aa];omega) (by omega)) ⟨e,e2,?_⟩
 refine⟨.non,_,I.lset (its':=its++its2) hH e (by simp) (r.append r2) ?_,rfl,q⟩
 rw[AE]
 omega
def rCat:R2:=λx y H Q=>∃l b xs zs,x=.ref l/\y=.ref b/\H l=some (.lst xs)/\H b=some (.lst zs)/\xs.length+zs.length<=sizeLine/\∀p,H p=none->Q (.ref p) (upd H p (.lst (xs++zs)))
theorem yc_:OpR X (binaryOp .Add) rCat:=by
 intro pins s σ H x y v u Q I rx ry h
 obtain⟨l,b,xs,zs,rfl,rfl,hH,hB,hz,q⟩:=h
 cases rx
 cases ry
 obtain⟨z,its,n,r,hl,e⟩:=I.lstM hH
 obtain⟨z2,its2,n2,r2,hl2,e2⟩:=I.lstM hB
 refine PySem.P.add_list e e2 ?_ (by rw[Aa,Aa];omega)
 have ea:its.toArray++its2.toArray=(its++its2).toArray:=by simp
 rw[ea]
 exact⟨.ref _,_,I.lnew (t':=s.toks) (r.append r2) (by rw[AE];omega),rfl,q _ I.fresh⟩
def rRep:R2:=λx y H Q=>∃l k xs,x=.ref l/\y=.int k/\H l=some (.lst xs)/\-(2^63)<=k/\k<2^63/\xs.length*k.toNat<=sizeLine /\
 ∀p,H p=none->Q (.ref p) (upd H p (.lst (List.replicate k.toNat xs).flatten))
theorem adc_{α:Type}(xs:List α)(k:Nat):(List.replicate k xs).flatten.length=k*xs.length:=by
 induction k with
 |zero=>simp
 |succ k ih=>rw[Ap,BV,AE,ih,Cs,Ef]
theorem ag1_:OpR X (binaryOp .Mult) rRep:=by
 intro pins s σ H x y v u Q I rx ry h
 obtain⟨l,k,xs,rfl,rfl,hH,h1,h2,hz,q⟩:=h
 cases rx
 obtain⟨t,rfl⟩:=ry
 obtain⟨z,its,n,r,hl,e⟩:=I.lstM hH
 have hlen:its.toArray.size*k.toNat<=sizeLine:=by rw[Aa,<-hl];exact hz
 have hcap:¬ its.toArray.size*k.toNat>(2^63-1) / 8:=by
  have:(sizeLine:Nat)<=(2^63-1) / 8:=by decide
  omega
 have hfit:¬ (!Builtin.List.listFitsIndex k)=true:=by
  rw[fitsIndex_both h1 h2]
  exact AS
 have hlong:¬ Builtin.List.listTooLong (its.toArray.size*k.toNat)=true:=by
  rw[ace_ hlen]
  exact AS
 have hnew:List.foldl (λx1 x2=>x1++x2) #[] (List.replicate (if its.toArray.isEmpty=true then 0 else k.toNat) its.toArray)=(List.replicate k.toNat its).flatten.toArray:=by
  have f0:∀m:Nat,List.foldl (λx1 x2=>x1++x2) #[] (List.replicate m its.toArray)=(List.replicate m its).flatten.toArray:=λm=>by
   have:=v6_ its m []
   rw[Dx]at this
   exact this
  rw[f0]
  cases its with
  |nil=>simp
  |cons a r'=>rw[if_neg (by simp)]
 refine wpAny_binaryOp_repeat_ref (T := "list") (U := "int") (by decide) ⟨_,e,rfl⟩ (λs'=>typeIs_int s' k t) noFill_list_mul F.fills_int_mul F.slot_int_rmul repeat_list F.slot_int_index.lookup
  (call_meets F.slot_int_rmul (typeIs_int s k t) F.entry_int_rmul (F.args_int_rmul_2 _ _) (int___rmul___int_list k t l its.toArray n)
   ⟨e,rfl,⟨_,e,rfl⟩,call_meets F.slot_list_mul ⟨_,e,rfl⟩ F.entry_list_mul (F.args_list_mul_2 _ _) (AutoListH.list___mul___list_int_3 l its.toArray n k t hfit hcap hlong) ⟨e,?_⟩⟩)
 rw[hnew]
 exact⟨.ref _,_,I.lnew (t':=s.toks) (r.rep k.toNat) (by rw[adc_,Ct];exact hz),rfl,q _ I.fresh⟩
end
end L2
namespace Att
open PySem PySem.W PySem.Calls PyProof.Rows
theorem vf_{P:Params}{h:Heap}:∀(ns:List Int)(vs:List Value),WellAll P h vs (ns.map WData.int)->IntsAre vs ns:=by
 intro ns
 induction ns with
 |nil =>
  intro vs w
  rw[CF]at w
  cases w
  exact .nil
 |cons n ns ih =>
  intro vs w
  rw[Ae]at w
  cases w with
  |cons a b =>
   cases a
   exact .cons _ _ (ih _ b)
theorem afl_{l:OpenLaw}{n:Nat}(hn:l.most=some n){P:Params}{h:Heap}{args:List WData}{vals:List Value}
  (hpre:l.row.toRowW.claim.pre args=true) (hwl:WellAll P h vals args) :
  ∃a vs ns,vals=[Value.ref a]/\args=[WData.list (ns.map WData.int)]/\h.get? a=some { cls:=.type "list",data:=.seq vs.toArray }/\IntsAre vs ns/\ns.length<=n:=by
 have hsh:WShape.hasAll [] args [.list .int]=true:=(pre_splitW hpre).1
 have hc:l.pre.holds [] { args:=args }=true:=(pre_splitW hpre).2
 obtain⟨d,r,rfl,h1,h2⟩:=hasAllW_cons hsh
 obtain rfl:=hasAllW_nil h2
 obtain⟨xs,rfl,h3⟩:=hasW_list h1
 obtain⟨ns,rfl⟩:=items_int h3
 have hlen:ns.length<=n:=by
  unfold OpenLaw.pre at hc
  have h4:(WTm.not (.lt (.lit (.int (n:Int))) (.len (.arg 0)))).holds [] { args:=[.list (ns.map .int)] }=true:=by
   have h4:=(holds_andW hc).1
   rw[hn]at h4
   exact h4
  have h5:=condW_of h4 (w_not (w_lt w_lit (w_len_list (w_arg rfl))))
  rw[AA]at h5
  refine Nat.le_of_not_lt λq=>?_
  have q':(n:Int)<((ns.length:Nat):Int):=by omega
  first
   |(rw[decide_eq_true q']at h5;exact absurd h5 (by decide))
   |(simp at h5;omega)
 cases hwl with
 |cons w1 w2 =>
  cases w2
  cases w1 with
  |list ho hall=>exact⟨_,_,ns,rfl,rfl,ho,vf_ ns _ hall,hlen⟩
theorem ahb_(l:OpenLaw)(args:List WData):l.row.toRowW.claim.post args (.bool true) args=true :=
 postW_of (r:=l.row.toRowW) (X:=(true==true))
  (show WShape.has [] (.bool true) .bool=true by first|rfl|decide|simp [WShape.has,WShape.arms,WShape.armsAll])
  (show(WTm.eq .res (.lit (.bool true))).value [] { args:=args,res:=some (.bool true),after:=args }=some (.bool (true==true)) from w_eq_bool (w_res rfl) w_lit) rfl
theorem attach_call{l:OpenLaw}{n:Nat}{q:Program}{loose:List Str}{XP:(Str->Option Value)->Heap->Prop}{YP:World->Heap->Prop}{d:DefRec}
  (hn:l.most=some n) (hdf:d.params.defaults=[])
  (call:∀(w:World)(s₀ s₁:Shared)(mg mb:Str->Option Value)(fa:Addr)(o:Obj)(pm cd doc:Value)(a:Addr)(vs:List Value)(ns:List Int),
   Ground q loose [] XP w s₀ mg mb s₁.heap->YP w s₁.heap ->
   s₁.heap.get? fa=some o->o.data=.func (docDef d.name d.params d.body d.scope pm cd doc)->s₁.heap.CodeRec cd d.name->mg d.name=some (.ref fa) ->
   s₁.heap.get? a=some { cls:=.type "list",data:=.seq vs.toArray }->IntsAre vs ns->ns.length<=n->s₁.gens=#[] ->
   codeAny (model l.prog w) callerA (.call (.ref fa) ⟨[.ref a],[]⟩) (λr s'=>r=.ok (.ret (.bool true))/\OldK s₁.heap s'.heap/\s'.os=s₁.os/\AllBare s'.gens) s₁) :
  WalkO q loose XP YP l.row.toRowW d [] (λf vs=>PySem.call f vs):=by
 intro w s₀ s₁ mg mb G Y fa o pm cd doc dV kV ho hd hcd hD hmg hg args vals as hpre hlay hrd hwl hlo
 obtain rfl:dV=.none:=Dflts.none hD hdf
 obtain rfl:kV=.none:=Dflts.noKw hD
 obtain⟨a,vs,ns,rfl,rfl,hobj,hints,hlen⟩:=afl_ hn hpre hwl
 refine enter_call (codeAny_mono (call w s₀ s₁ mg mb fa o pm cd doc a vs ns G Y ho (fd_plain hd) hcd hmg hobj hints hlen hg) λr s' hq=>?_)
 obtain⟨rfl,h2,h3,h4⟩:=hq
 exact⟨.inl ⟨.bool true,.bool true,[],rfl,λ_=>rfl,.bool true,ahb_ l _,λ_=>⟨List.Pairwise.nil,λ_ hm=>(nomatch hm)⟩⟩,h2,h3,h4⟩
section
variable{prog:Program}{w:World}{A:Around}{E:Value->Shared->Prop}{s:Shared}{K:Frag}
def ato_(h:Heap)(L d:Addr):List (Addr×Obj):=(List.range h.objs.size).filterMap λa=>if a=L∨a=d then none else (h.get? a).map λo=>(a,o)
end
end Att
namespace L2
open PySem PySem.Spec PyProof.Rows
theorem v4_:∀{vs:List Value}{ns:List Int},IntsAre vs ns->Vals (ns.map V.int) vs
 |_,_,.nil=>.nil
 |_,_,.cons n t h=>.cons ⟨t,rfl⟩ (v4_ h)
def Only(H:Hp):Prop:=∀b,H b=none∨∃o xs,H b=some (.frz o (.lst xs))
theorem ajk_{P:Program}{w:World}{K:PySem.W.Frag}{mg mb:Str->Option Value}{CX:CXT}{k:Nat}{fa a:Addr}{fd:FuncData}{x:Str}{sp:Sp}{s₁:Shared}{vs:List Value}{ns:List Int}
  (KX:K.In s₁.heap) (hns:s₁.heap.Ns mainGlobals mg) (hb:s₁.heap.Ns builtinsNs mb) (hbb:∀x:Str,x ≠ "__name__" -> mb x=bootBuiltins x) (hlim:s₁.heap.NoLimit) (hg:s₁.gens=#[])
  (ha:s₁.heap.get? a=some { cls:=.type "list",data:=.seq vs.toArray }) (hi:IntsAre vs ns) (hl:ns.length<=sizeLine) (hr:Room k callerA)
  (F:∀base:Heap,K.In base->base.Ns mainGlobals mg->FnOk P w K mg base CX k fa fd [x] sp) (hbind:∀(s:Shared)(u:Value),BindsTo s fd ⟨[u],[]⟩ [(x,u)])
  (hsp:∀H:Hp,Only H->SqL K H a (ns.map V.int)->sp [.ref a] H (λv _=>v=.bl true) λ_ _ _=>False)
  (hCX:∀H e s',CX [] H s₁ (λ_ _ _=>False) e s'->False) :
  codeAny (model P w) callerA (.call (.ref fa) ⟨[.ref a],[]⟩) (λr s'=>r=.ok (.ret (.bool true))/\OldK s₁.heap s'.heap/\s'.os=s₁.os/\AllBare s'.gens) s₁:=by
 have rv:=v4_ hi
 have lenV:=hi.length
 have core:∀H:Hp,Only H->SqL K H a (ns.map V.int)->HOk P w H s₁.heap->(∀b,H b≠none->b=a)->(H a≠none->K.lookup a=none) ->
   codeAny (model P w) callerA (.call (.ref fa) ⟨[.ref a],[]⟩) (λr s'=>r=.ok (.ret (.bool true))/\OldK s₁.heap s'.heap/\s'.os=s₁.os/\AllBare s'.gens) s₁:=by
  intro H hO hS hok hA hK
  have base_of:∀{b:Addr}{o:Obj},s₁.heap.get? b=some o->H b=none->(xI_ s₁.heap H).get? b=some o:=λe n=>ajt_ e n
  have noA:∀{b:Addr}{o:Obj}{es:Array DictEntry}{ep:Nat},s₁.heap.get? b=some o->o.data=.dict es ep->H b=none:=λ{b o es ep} e d=>by
   cases q:H b with
   |none=>rfl
   |some u =>
    have e':b=a:=hA b (by rw[q];simp)
    subst e'
    rw[ha]at e;cases e
    have d':Data.seq vs.toArray _=Data.dict es ep:=d
    cases d'
  have nsK:∀{b:Addr}{m:Str->Option Value},s₁.heap.Ns b m->(xI_ s₁.heap H).Ns b m:=λ{b m} ⟨o,es,ep,e,d,r⟩=>⟨o,es,ep,base_of e (noA e d),d,r⟩
  have hKb:K.In (xI_ s₁.heap H):=λb o e=>base_of (KX b o e) (by
   cases q:H b with
   |none=>rfl
   |some u =>
    have e':b=a:=hA b (by rw[q];simp)
    subst e'
    rw[hK (by rw[q];simp)]at e;cases e)
  have hM:Mod K mg (xI_ s₁.heap H):=⟨hKb,nsK hns,⟨mb,nsK hb,hbb⟩,let ⟨mc,h1,h2⟩:=hlim;⟨mc,nsK h1,h2⟩⟩
  have e0:Env0 P w K mg (xI_ s₁.heap H) callerA [] s₁ H:=⟨rfl,hM,λb o e=>alw_ e,Nat.le_of_eq (af5_ _ _),trivial,λb hb=>absurd (show b∈([]:List Addr) from hb) (by simp),hok,.of_eq hg⟩
  refine codeAny_mono ((F _ hKb (nsK hns)).run callerA [] s₁ H ⟨[.ref a],[]⟩ [.ref a] [.ref a] _ _ hr e0 (hbind s₁ (.ref a)) (.cons rfl .nil) (hsp H hO hS)) λr s' h=>?_
  cases r with
  |error e=>exact(hCX H e s' h).elim
  |ok fl =>
   cases fl with
   |next=>exact False.elim h
   |brk=>exact False.elim h
   |cont=>exact False.elim h
   |ret u =>
    obtain⟨v,H',os,bare,un,hok',r',q⟩:=h
    have q':v=.bl true:=q
    subst q'
    obtain rfl:u=Value.bool true:=r'
    refine⟨rfl,OldK.of_keep λb o e=>?_,os,bare⟩
    cases q:H b with
    |none=>exact un.keep b o e q (by intro z;exact absurd (show b∈([]:List Addr) from z) (by simp)) (by simp)
    |some u =>
     rcases hO b with z|⟨ob,xs,z⟩
     ·rw[q]at z;cases z
     ·have z2:=un.frzs b ob _ z
      obtain⟨e1,_⟩:=hok b _ z
      obtain⟨e2,_⟩:=hok' b _ z2
      rw[e]at e1;cases e1
      exact e2
 cases hk:K.lookup a with
 |some o =>
  have e:=KX a o hk
  rw[ha]at e
  cases e
  refine core (λ_=>none) (λ_=>.inl rfl) (.inr ⟨_,vs.toArray,_,hk,rfl,rfl,rfl,by rw[Aa,lenV];exact hl,by simpa using rv⟩) (λb u z=>by have z':(none:Option HO)=some u:=z;cases z') (λb z=>absurd rfl z) λz=>absurd rfl z
 |none =>
  refine core (λb=>if b=a then some (.frz { cls:=.type "list",data:=.seq vs.toArray } (.lst (ns.map V.int))) else none) (λb=>?_) (.inl (.inr ⟨{ cls:=.type "list",data:=.seq vs.toArray },if_pos rfl⟩)) (λb u z=>?_) (λb z=>?_) λ_=>hk
  ·by_cases hb:b=a
   ·exact .inr ⟨_,_,if_pos hb⟩
   ·exact .inl (if_neg hb)
  ·by_cases hb:b=a
   ·have z':=(if_pos hb).symm.trans z
    cases z'
    subst hb
    exact⟨ha,by rw[AA];exact hl,vs,_,rv,ha⟩
   ·have z':=(if_neg hb).symm.trans z
    cases z'
  ·by_cases hb:b=a
   ·exact hb
   ·exact absurd (if_neg hb) z
end L2
namespace L2
open PySem PySem.Spec PyProof.Rows
theorem walk_of{l:PySem.W.OpenLaw}{n k:Nat}{q:Program}{loose:List Str}{XP:(Str->Option Value)->Heap->Prop}{YP:World->Heap->Prop}{d:DefRec}{K:Params->PySem.W.Frag}{CX:World->CXT}{sp:World->Sp}{x:Str}
  (hn:l.most=some n) (hn2:n<=sizeLine) (hdf:d.params.defaults=[]) (hr:Room k callerA)
  (hY:∀(w:World)(h:Heap),YP w h->(K w.params).In h)
  (F:∀(w:World)(mg:Str->Option Value)(fa:Addr)(h:Heap),(K w.params).In h->h.Ns mainGlobals mg->mg d.name=some (.ref fa) ->
   ∃fd:FuncData,(∀(s:Shared)(u:Value),BindsTo s fd ⟨[u],[]⟩ [(x,u)]) /\
    ∀base:Heap,(K w.params).In base->base.Ns mainGlobals mg->FnOk l.prog w (K w.params) mg base (CX w) k fa fd [x] (sp w))
  (hsp:∀(w:World)(H:Hp)(a:Addr)(ns:List Int),ns.length<=n->Only H->SqL (K w.params) H a (ns.map V.int)->sp w [.ref a] H (λv _=>v=.bl true) λ_ _ _=>False)
  (hCX:∀(w:World)(H:Hp)(s:Shared)(e:Value)(s':Shared),CX w [] H s (λ_ _ _=>False) e s'->False) :
  PySem.W.WalkO q loose XP YP l.row.toRowW d [] (λf vs=>PySem.call f vs):=by
 refine Att.attach_call hn hdf λw s₀ s₁ mg mb fa o pm cd doc a vs ns G Y ho hd hcd hmg hobj hints hlen hg=>?_
 have KX:=hY w _ Y
 obtain⟨fd,hb,hF⟩:=F w mg fa _ KX G.T.g hmg
 exact ajk_ KX G.T.g G.T.b G.T.builtins G.T.nolimit hg hobj hints (Ac hlen hn2) hr hF hb (λH hO hS=>hsp w H a ns hlen hO hS) λH e s'=>hCX w H s₁ e s'
end L2
namespace L2
open PySem PySem.Spec PyProof.Rows
def xE_(s:Stmt):Arguments:=match s with
 |.FunctionDef _ a _ _ _ _ _ _ _ _=>a
 |_=>{ posonlyargs:=[],args:=[],vararg:=none,kwonlyargs:=[],kw_defaults:=[],kwarg:=none,defaults:=[] }
def j6_(s:Stmt):List Stmt:=match s with
 |.FunctionDef _ _ b _ _ _ _ _ _ _=>b
 |_=>[]
def qh_(s:Stmt):Scope:=match s with
 |.FunctionDef _ _ _ _ _ _ sc _ _ _=>sc
 |_=>{ kind:=.function,names:=[],isGenerator:=false,isCoroutine:=false }
abbrev CX0:CXT:=λ_ _ _ _ _ _=>False
abbrev E0:XK:=λ_ _ _=>False
theorem j0_{X:Cx}:abp_ CX0 X E0:=λ_ _ _ _ _ _ _ h=>h.elim
structure Fun(K:PySem.W.Frag)(x qual:Str)(st:Stmt)(f:Addr)(fd:FuncData):Prop where
 ex:∃(oc:Value)(od:Option Addr)(kV doc pm:Value)(an:Option Addr)(cdv ct:Value)(osl:Array (Option Value)),
  fd=PySem.W.fnOf x qual (xE_ st) (j6_ st) (qh_ st) .none kV doc pm an cdv ct/\K.lookup f=some ⟨oc,od,.func fd,osl⟩/\PySem.W.codeIn K cdv qual=true
 kp:PySem.W.keepIn K (.ref f)=true
section
variable{P:Program}{w:World}{K:PySem.W.Frag}{mg:Str->Option Value}{base:Heap}
theorem Fun.ok{x qual:Str}{st:Stmt}{f:Addr}{fd:FuncData}{N ps:List Str}{k:Nat}{sp:Sp}(F:Fun K x qual st f fd)(S:FnScope N ps (qh_ st))(len:∀vs H Q E,sp vs H Q E->vs.length=ps.length)
  (hbody:∀(cdv:Value)(A:Around)(outer:List Env)(s:Shared)(H:Hp)(vs:List V)(Q:VK)(E:XK),Room k (A.deeper (envOfC qual (qh_ st) s.heap.objs.size f cdv))->sp vs H Q E ->
   ∃t,PSs (vE_ CX0 P w K mg base N qual (qh_ st) f cdv A outer s H E).nox (j6_ st) t/\t { nx:=λ_ H'=>Q .non H',rt:=Q } (xl_ N vs) H):FnOk P w K mg base CX0 (k+1) f fd ps sp:=by
 obtain⟨oc,od,kV,doc,pm,an,cdv,ct,osl,rfl,lk,hcd⟩:=F.ex
 refine apd_ lk hcd S len λA outer s H vs Q E hr hsp=>?_
 obtain⟨t,h,q⟩:=hbody cdv A outer s H vs Q E hr hsp
 exact⟨t,h.nox,q⟩
theorem Fun.binds{x qual:Str}{st:Stmt}{f:Addr}{fd:FuncData}{ps:List Str}(F:Fun K x qual st f fd)
  (h:∀(kV doc pm:Value)(an:Option Addr)(cdv ct:Value)(us:List Value),us.length=ps.length->bindArgs (PySem.W.fnOf x qual (xE_ st) (j6_ st) (qh_ st) .none kV doc pm an cdv ct) ⟨us,[]⟩=pure (ps.zip us)):Binds K fd ps []:=by
 obtain⟨oc,od,kV,doc,pm,an,cdv,ct,osl,rfl,lk,hcd⟩:=F.ex
 exact .all (h kV doc pm an cdv ct)
theorem anx_{x qual:Str}{st:Stmt}{f:Addr}{oc:Value}{od an:Option Addr}{osl:Array (Option Value)}{kV doc pm cdv ct:Value}(l:K.lookup f=some ⟨oc,od,.func (PySem.W.fnOf x qual (xE_ st) (j6_ st) (qh_ st) .none kV doc pm an cdv ct),osl⟩)
  (c:PySem.W.codeIn K cdv qual=true) (k:PySem.W.keepIn K (.ref f)=true):Fun K x qual st f (PySem.W.fnOf x qual (xE_ st) (j6_ st) (qh_ st) .none kV doc pm an cdv ct):=⟨⟨oc,od,kV,doc,pm,an,cdv,ct,osl,rfl,l,c⟩,k⟩
end
theorem aa3_{A:Around}{k:Nat}(hr:Room k A):A.units+1<cLine:=BN (B2 (by decide:1<=64) _) hr.units
section
variable{X:Cx}
theorem pv(i:Nat){x:Str}{pos:Pos}(hN:X.N[i]?=some x:=by rfl)(hv:Vis X.env.scope x:=by first|exact Or.inl rfl|exact Or.inr (Or.inl rfl)|exact Or.inr (Or.inr rfl))(hd:(x==("__debug__" : Str))=false:=by decide)
  (hcd:(x==("__classdict__" : Str))=false:=by decide):PE X (.Name x pos) (xN_ i):=amd_ hN hv hd hcd
end
theorem ji_{A B:Prop}(h:B):if false=true then A else B:=by
 rw[if_neg AS]
 exact h
theorem xp_{A B:Prop}(h:A):if true=true then A else B:=by
 rw[if_pos rfl]
 exact h
theorem ite2{c A B:Prop}[Decidable c](h1:c->A)(h2:¬ c->B):if c then A else B:=by
 by_cases h:c
 ·rw[if_pos h]
  exact h1 h
 ·rw[if_neg h]
  exact h2 h
def Same(H H':Hp):Prop:=∀b o,H b=some o->H' b=some o
theorem Same.refl(H:Hp):Same H H:=λ_ _ h=>h
theorem Same.trans{H H1 H2:Hp}(a:Same H H1)(b:Same H1 H2):Same H H2:=λc o h=>b c o (a c o h)
theorem Same.free{H H':Hp}(e:Same H H'){l:Addr}(h:H' l=Option.none):H l=Option.none:=by
 cases q:H l with
 |none=>rfl
 |some o =>
  rw[e l o q]at h
  cases h
theorem Same.seq{K:PySem.W.Frag}{H H':Hp}{a:Addr}{xs:List V}(e:Same H H')(h:SqL K H a xs):SqL K H' a xs:=by
 rcases h with(h|⟨o,h⟩)|h
 ·exact .inl (.inl (e _ _ h))
 ·exact .inl (.inr ⟨o,e _ _ h⟩)
 ·exact .inr h
end L2
namespace L2
open PySem PySem.Spec PyProof.Rows
section
variable{κ:Type}[DecidableEq κ]
def jI_(kvs:List (κ×V))(k:κ):Option V:=(kvs.find? λkv=>decide (kv.1=k)).map (·.2)
def zr_(kvs:List (κ×V))(k:κ)(v:V):List (κ×V) :=
 if (kvs.any λkv=>decide (kv.1=k))=true then kvs.map (λkv=>if kv.1=k then (kv.1,v) else kv) else kvs++[(k,v)]
def akd_(kvs:List (κ×V))(k:κ):List (κ×V):=kvs.filter λkv=>decide (kv.1≠k)
theorem xV_{p:κ×V}{r:List (κ×V)}{k:κ}(e:p.1=k):jI_ (p::r) k=some p.2:=by simp [jI_,Bt,e]
theorem xK_{p:κ×V}{r:List (κ×V)}{k:κ}(e:¬ p.1=k):jI_ (p::r) k=jI_ r k:=by simp [jI_,Bt,e]
theorem aby_(k:κ):∀kvs:List (κ×V),(kvs.any λkv=>decide (kv.1=k))=(jI_ kvs k).isSome
 |[]=>rfl
 |p::r=>by
  rw[Bn]
  by_cases e:p.1=k
  ·simp only[xV_ e,decide_eq_true e,Eg,Option.isSome_some]
  ·rw[xK_ e,decide_eq_false e,Bool.false_or];exact aby_ k r
theorem yK_(kvs:List (κ×V))(k:κ)(v:V):(zr_ kvs k v).length<=kvs.length+1:=by
 unfold zr_
 split
 ·rw[AA];omega
 ·rw[AE,Am,CI];omega
theorem RelO.isSome_eq{o:Option V}{u:Option Value}(r:RelO o u):o.isSome=u.isSome:=by
 cases o with
 |none=>cases u with
  |none=>rfl
  |some _=>exact(show False from r).elim
 |some _=>cases u with
  |none=>exact(show False from r).elim
  |some _=>rfl
theorem RelO.getD{o:Option V}{u:Option Value}{d:V}{d':Value}(r:RelO o u)(rd:RelV d d'):RelV (o.getD d) (u.getD d'):=by
 cases o with
 |none=>cases u with
  |none=>exact rd
  |some _=>exact(show False from r).elim
 |some _=>cases u with
  |none=>exact(show False from r).elim
  |some _=>exact r
theorem KV.val{kvs:List (κ×V)}{vs:List (κ×Value)}(r:KV kvs vs)(k:κ):RelO (jI_ kvs k) (valueAt vs k):=by
 unfold KV at r
 induction r with
 |nil=>exact True.intro
 |@cons p q ps qs h t ih =>
  obtain⟨h1,h2⟩:=h
  by_cases e:p.1=k
  ·have e':q.1=k:=h1.symm.trans e
   have b:valueAt (q::qs) k=some q.2:=by simp [valueAt,Bt,e']
   rw[xV_ e,b];exact h2
  ·have e':¬ q.1=k:=λz=>e (h1.trans z)
   have b:valueAt (q::qs) k=valueAt qs k:=by simp [valueAt,Bt,e']
   rw[xK_ e,b];exact ih
theorem KV.any{kvs:List (κ×V)}{vs:List (κ×Value)}(r:KV kvs vs)(k:κ):(kvs.any λkv=>decide (kv.1=k))=vs.any λkv=>decide (kv.1=k):=by
 unfold KV at r
 induction r with
 |nil=>rfl
 |cons h t ih=>rw[Bn,Bn,ih,h.1]
theorem KV.repl{kvs:List (κ×V)}{vs:List (κ×Value)}(r:KV kvs vs)(k:κ){y:V}{u:Value}(ry:RelV y u) :
  KV (kvs.map λkv=>if kv.1=k then (kv.1,y) else kv) (vs.map λkv=>if kv.1=k then (kv.1,u) else kv):=by
 unfold KV at r ⊢
 induction r with
 |nil=>exact .nil
 |@cons p q ps qs h t ih =>
  rw[Ae,Ae]
  refine .cons ?_ ih
  obtain⟨h1,h2⟩:=h
  by_cases e:p.1=k
  ·rw[if_pos e,if_pos (h1.symm.trans e)];exact⟨h1,ry⟩
  ·rw[if_neg e,if_neg (λz=>e (h1.trans z))];exact⟨h1,h2⟩
theorem KV.put{kvs:List (κ×V)}{vs:List (κ×Value)}(r:KV kvs vs)(k:κ){y:V}{u:Value}(ry:RelV y u):KV (zr_ kvs k y) (stored vs k u):=by
 unfold zr_ stored
 rw[r.any k]
 by_cases e:(vs.any λkv=>decide (kv.1=k))=true
 ·rw[if_pos e,if_pos e];exact r.repl k ry
 ·rw[if_neg e,if_neg e];exact CC r ⟨rfl,ry⟩
theorem KV.drop{kvs:List (κ×V)}{vs:List (κ×Value)}(r:KV kvs vs)(k:κ):KV (akd_ kvs k) (without vs k):=by
 unfold KV at r ⊢
 unfold akd_ without
 induction r with
 |nil=>exact .nil
 |@cons p q ps qs h t ih =>
  obtain⟨h1,h2⟩:=h
  rw[Av,Av]
  by_cases e:p.1=k
  ·have a:¬ decide (p.1≠k)=true:=by simp [e]
   have b:¬ decide (q.1≠k)=true:=by simp [h1.symm.trans e]
   rw[if_neg a,if_neg b];exact ih
  ·have e':¬ q.1=k:=λz=>e (h1.trans z)
   have a:decide (p.1≠k)=true:=by simp [e]
   have b:decide (q.1≠k)=true:=by simp [e']
   rw[if_pos a,if_pos b];exact .cons ⟨h1,h2⟩ ih
theorem KV.keys{kvs:List (κ×V)}{vs:List (κ×Value)}(r:KV kvs vs):kvs.map (·.1)=vs.map (·.1):=by
 unfold KV at r
 induction r with
 |nil=>rfl
 |cons h t ih=>rw[Ae,Ae,ih,h.1]
theorem KV.length{kvs:List (κ×V)}{vs:List (κ×Value)}(r:KV kvs vs):kvs.length=vs.length:=AQ r
end
theorem aa5_{P:Program}{w:World}{k:Key}{u:Value}(r:RelV (kV k) u):(qF_ P w).is k u=true:=by
 cases k with
 |inl i=>obtain⟨t,e⟩:=(show ∃t,u=Value.int i t from r);subst e;exact acq_ P w i t
 |inr x=>obtain⟨t,e⟩:=(show ∃t,u=Value.str x t from r);subst e;exact acr_ P w x t
theorem aaj_{P:Program}{w:World}:∀{ks:List Key}{us:List Value},Vals (ks.map kV) us->ItemsAre (qF_ P w) ks us
 |[],_,r=>by rw[CF]at r;cases r;exact .nil
 |k::ks,_,r=>by
  rw[Ae]at r
  cases r with
  |cons h t=>exact .cons (aa5_ h) (aaj_ t)
abbrev KT(H:Hp):List (List Key×V)->List (List Key×Addr×Value)->Prop:=Paired λp q=>p.1=q.1/\H q.2.1=some (.tup (p.1.map kV))/\RelV p.2 q.2.2
theorem KT.val{H:Hp}{kvs:List (List Key×V)}{xs:List (List Key×Addr×Value)}(r:KT H kvs xs)(k:List Key):RelO (jI_ kvs k) ((atKey xs k).map (·.2)):=by
 induction r with
 |nil=>exact True.intro
 |@cons p q ps qs h t ih =>
  obtain⟨h1,_,h2⟩:=h
  by_cases e:p.1=k
  ·have e':q.1=k:=h1.symm.trans e
   have b:atKey (q::qs) k=some q.2:=by simp [atKey,Bt,e']
   rw[xV_ e,b];exact h2
  ·have e':¬ q.1=k:=λz=>e (h1.trans z)
   have b:atKey (q::qs) k=atKey qs k:=by simp [atKey,Bt,e']
   rw[xK_ e,b];exact ih
theorem KT.repl{H:Hp}{kvs:List (List Key×V)}{xs:List (List Key×Addr×Value)}(r:KT H kvs xs)(k:List Key){y:V}{u:Value}(ry:RelV y u) :
  KT H (kvs.map λkv=>if kv.1=k then (kv.1,y) else kv) (xs.map (putAt k u)):=by
 induction r with
 |nil=>exact .nil
 |@cons p q ps qs h t ih =>
  rw[Ae,Ae]
  refine .cons ?_ ih
  obtain⟨h1,h2,h3⟩:=h
  unfold putAt
  by_cases e:p.1=k
  ·rw[if_pos e,if_pos (h1.symm.trans e)];exact⟨h1,h2,ry⟩
  ·rw[if_neg e,if_neg (λz=>e (h1.trans z))];exact⟨h1,h2,h3⟩
theorem KT.put{H:Hp}{kvs:List (List Key×V)}{xs:List (List Key×Addr×Value)}(r:KT H kvs xs)(k:List Key){b:Addr}{y:V}{u:Value}(hb:H b=some (.tup (k.map kV)))(ry:RelV y u) :
  KT H (zr_ kvs k y) (storedH xs k b u):=by
 have e:(kvs.any λkv=>decide (kv.1=k))=(atKey xs k).isSome:=by
  rw[aby_,(r.val k).isSome_eq,Option.isSome_map]
 unfold zr_ storedH
 rw[e]
 by_cases q:(atKey xs k).isSome=true
 ·rw[if_pos q,if_pos q];exact r.repl k ry
 ·rw[if_neg q,if_neg q];exact CC r ⟨rfl,hb,ry⟩
theorem KT.keeps{H H':Hp}{kvs:List (List Key×V)}{xs:List (List Key×Addr×Value)}(r:KT H kvs xs)(ht:∀b ys,H b=some (.tup ys)->H' b=some (.tup ys)):KT H' kvs xs :=
 Paired.mapP r λ_ _ z=>⟨z.1,ht _ _ z.2.1,z.2.2⟩
section
variable{P:Program}{w:World}{H:Hp}{h:Heap}{a:Addr}
theorem aa4_{u:HO}(ok:HOk P w H h)(e:Rd H a u):ObjOk P w H h a u:=e.ok ok
theorem va_{kvs:List (Key×V)}(ok:HOk P w H h)(e:Rd H a (.dK kvs)):kvs.length<=sizeLine/\(a==sysModules)=false/\∃vs,KV kvs vs/\h.DictOf (qF_ P w) a vs :=
 show ObjOk P w H h a (.dK kvs) from aa4_ ok e
theorem apa_{kvs:List (Key×V)}(ok:HOk P w H h)(e:H a=some (.dK kvs)):kvs.length<=sizeLine/\(a==sysModules)=false/\∃vs,KV kvs vs/\h.DictOf (qF_ P w) a vs:=va_ ok (.inl e)
theorem x4_{ks:List Key}(ok:HOk P w H h)(e:H a=some (.tup (ks.map kV))):(tupleKind (qF_ P w)).is h ks a:=by
 obtain⟨_,its,r,o,h1,h2,n,h3⟩:=(show ObjOk P w H h a (.tup (ks.map kV)) from ok a _ e)
 exact⟨o,its.toArray,n,h1,h2,h3.1,by simpa using aaj_ r⟩
theorem vr_{kvs:List (List Key×V)}(ok:HOk P w H h)(e:Rd H a (.dT kvs)):kvs.length<=sizeLine/\(a==sysModules)=false /\
  ∃xs,KT H kvs xs/\h.DictOfH (tupleKind (qF_ P w)) a xs:=by
 obtain⟨z,y,xs,r,o,es,ep,h1,h2,h3,h4,h5⟩:=(show ObjOk P w H h a (.dT kvs) from aa4_ ok e)
 refine⟨z,y,xs,r,o,es,ep,h1,h2,h3,h4,λx hx=>?_,h5⟩
 have all:∀{l:List (List Key×V)}{m:List (List Key×Addr×Value)},KT H l m->∀x∈m,(tupleKind (qF_ P w)).is h x.1 x.2.1:=by
  intro l m q
  induction q with
  |nil=>intro x hx;exact nomatch hx
  |@cons p q ps qs hq t ih =>
   intro x hx
   rcases AL.mp hx with e|hx
   ·subst e
    exact x4_ ok (by rw[<-hq.1];exact hq.2.1)
   ·exact ih x hx
 exact all r x hx
theorem ap7_{kvs:List (List Key×V)}(ok:HOk P w H h)(e:H a=some (.dT kvs)):kvs.length<=sizeLine/\(a==sysModules)=false /\
  ∃xs,KT H kvs xs/\h.DictOfH (tupleKind (qF_ P w)) a xs:=vr_ ok (.inl e)
end
def DGet(H:Hp)(a:Addr)(y:V)(r:Option V):Prop :=
 (∃kvs k,Rd H a (.dK kvs)/\y=kV k/\r=jI_ kvs k)∨∃kvs k b,Rd H a (.dT kvs)/\y=.ref b/\H b=some (.tup (k.map kV))/\r=jI_ kvs k
def DPut(H:Hp)(a:Addr)(y v:V)(H':Hp):Prop :=
 (∃kvs k,H a=some (.dK kvs)/\y=kV k/\kvs.length<sizeLine/\H'=upd H a (.dK (zr_ kvs k v))) ∨
 ∃kvs k b,H a=some (.dT kvs)/\y=.ref b/\H b=some (.tup (k.map kV))/\kvs.length<sizeLine/\H'=upd H a (.dT (zr_ kvs k v))
theorem DGet.k{H:Hp}{a:Addr}{kvs:List (Key×V)}{k:Key}(e:H a=some (.dK kvs)):DGet H a (kV k) (jI_ kvs k):=.inl ⟨kvs,k,.inl e,rfl,rfl⟩
theorem DGet.t{H:Hp}{a b:Addr}{kvs:List (List Key×V)}{k:List Key}(e:H a=some (.dT kvs))(eb:H b=some (.tup (k.map kV))):DGet H a (.ref b) (jI_ kvs k):=.inr ⟨kvs,k,b,.inl e,rfl,eb,rfl⟩
theorem DPut.k{H:Hp}{a:Addr}{kvs:List (Key×V)}{k:Key}{v:V}(e:H a=some (.dK kvs))(hl:kvs.length<sizeLine):DPut H a (kV k) v (upd H a (.dK (zr_ kvs k v))):=.inl ⟨kvs,k,e,rfl,hl,rfl⟩
theorem DPut.t{H:Hp}{a b:Addr}{kvs:List (List Key×V)}{k:List Key}{v:V}(e:H a=some (.dT kvs))(eb:H b=some (.tup (k.map kV)))(hl:kvs.length<sizeLine) :
  DPut H a (.ref b) v (upd H a (.dT (zr_ kvs k v))):=.inr ⟨kvs,k,b,e,rfl,eb,hl,rfl⟩
section
variable{X:Cx}{pins:List (Addr×Obj)}{σ:St}{H:Hp}{s:Shared}{a:Addr}{y v:V}{u r:Value}{o:Option V}{A:Around}{E:Value->Shared->Prop}
theorem Inv.big(I:Inv X pins σ H s):sysModules<s.heap.objs.size:=by
 have h:mainGlobals<s.heap.objs.size:=(I.mod.glob.keeps I.bk).lt
 exact Nat.lt_trans (by decide) h
theorem aht_{Q:Value->Shared->Prop}(hu:A.units+1<cLine)(I:Inv X pins σ H s)(g:DGet H a y (some v))(ry:RelV y u)(h:∀w' s',Inv X pins σ H s'->RelV v w'->Q w' s') :
  wpAny (model X.prog X.w) A (getItem (.ref a) u) Q E s:=by
 rcases g with⟨kvs,k,e,ey,l⟩|⟨kvs,k,b,e,ey,eb,l⟩
 ·subst ey
  obtain⟨z,hd,vs,rel,dd⟩:=va_ I.hok e
  obtain⟨w',hw,rw'⟩:=RelO.some_of (v:=v) (o:=valueAt vs k) (by rw[l];exact rel.val k)
  exact wpAny_getItem_of (aa5_ ry) dd.mapOf hw (h w' _ (I.tok _) rw')
 ·subst ey
  cases(show u=Value.ref b from ry)
  obtain⟨z,hd,xs,rel,dd⟩:=vr_ I.hok e
  obtain⟨w',hw,rw'⟩:=RelO.some_of (v:=v) (o:=(atKey xs k).map (·.2)) (by rw[l];exact rel.val k)
  obtain⟨p,hp,hp2⟩:=Option.map_eq_some_iff.mp hw
  refine wpAny_getItem_heap (tupleKind_room_in1 hu) (x4_ I.hok eb) dd hp ?_
  rw[hp2]
  exact h w' _ (I.tok _) rw'
theorem adp_{h':Heap}{t':Nat}{ob:HO}(I:Inv X pins σ H s)(mu:Mut (H a))(hs:Heap.SameBut a s.heap h')(he:∃q,h'.get? a=some q)(new:ObjOk X.prog X.w (upd H a ob) h' a ob) :
  Inv X pins σ (upd H a ob) { s with heap:=h',toks:=t' } :=
 I.write (x:=a) (e:=a) mu (.inl rfl) (λb q hb z=>(hs.2 b hb).trans z) he new
theorem am0_{P:Program}{w:World}{H':Hp}{h':Heap}{kvs:List (Key×V)}{vs:List (Key×Value)}(z:kvs.length<=sizeLine)(hd:(a==sysModules)=false)(rel:KV kvs vs)(dd:h'.DictOf (qF_ P w) a vs) :
  ObjOk P w H' h' a (.dK kvs):=⟨z,hd,vs,rel,dd⟩
theorem afo_{H':Hp}{Q:Unit->Shared->Prop}(hu:A.units+1<cLine)(I:Inv X pins σ H s)(g:DPut H a y v H')(ry:RelV y u)(rv:RelV v r)(h:∀s',Inv X pins σ H' s'->Q () s') :
  wpAny (model X.prog X.w) A (setItem (.ref a) u r) Q E s:=by
 rcases g with⟨kvs,k,e,ey,l,eH⟩|⟨kvs,k,b,e,ey,eb,l,eH⟩
 ·subst ey eH
  obtain⟨z,hd,vs,rel,dd⟩:=apa_ I.hok e
  have hz:vs.length<=sizeLine:=by rw[<-rel.length];exact z
  have hl:(zr_ kvs k v).length<=sizeLine:=by have:=yK_ kvs k v;omega
  refine wpAny_setItem_pairs (hsz:=hz) (aa5_ ry) dd λh' dd' hs=>h _ ?_
  have he:∃q,h'.get? a=some q:=let ⟨q,_,_,hq,_⟩:=dd';⟨q,hq⟩
  exact adp_ I (by rw[e];exact True.intro) hs he (am0_ hl hd (rel.put k rv) dd')
 ·subst ey eH
  cases(show u=Value.ref b from ry)
  obtain⟨z,hd,xs,rel,dd⟩:=ap7_ I.hok e
  have hz:xs.length<=sizeLine:=by rw[<-AQ rel];exact z
  have hl:(zr_ kvs k v).length<=sizeLine:=by have:=yK_ kvs k v;omega
  refine wpAny_setItem_heap (hsz:=hz) (tupleKind_room_in1 hu) (x4_ I.hok eb) dd λh' dd' hs=>h _ ?_
  obtain⟨q,es,ep,hq,h2,h3,h4,_,h5⟩:=dd'
  refine adp_ I (by rw[e];exact True.intro) hs ⟨q,hq⟩ ⟨hl,hd,_,(rel.put k eb rv).keeps λc ys ec=>?_,q,es,ep,hq,h2,h3,h4,h5⟩
  rw[qk_ (zH_ ec e (λz=>nomatch z))]
  exact ec
end
def NoSl(i:Expr):Prop:=∀ov iv,subscripted i false ov iv=operate [ov,iv] (getItem ov iv)
theorem akv_{prog:Program}{w:World}{A:Around}{E:Value->Shared->Prop}{s:Shared}{env:Env}{value slice:Expr}{pos:Pos}{T id:String}{Q:Value->Shared->Prop}
  (hl:typeLookup (.type T) "__getitem__" = pure (some (.builtin id))) (hs:NoSl slice)
  (h:wpAny (model prog w) A (eval value env) (λo s₁=>wpAny (model prog w) A (eval slice env) (λi s₂=>s₂.TypeIs o T/\wpAny (model prog w) A (getItem o i) Q E s₂) E s₁) E s) :
  wpAny (model prog w) A (eval (.Subscript value slice pos) env) Q E s:=by
 refine Subscript_ (wpAny_mono h (λo s₁ h₁=>wpAny_mono h₁ (λi s₂ h₂=>?_) λ_ _ x=>x) λ_ _ x=>x)
 obtain⟨hT,h₂⟩:=h₂
 unfold subscriptTail
 refine wpAny_bind ?_
 rw[getitemInPython_of_ne hT.not_modules]
 refine wpAny_bind (wpAny_specialOf hT hl ?_)
 have fin:wpAny (model prog w) A (subscripted slice false o i) (λr s₃=>wpAny (model prog w) A (letTemporaryGo value o r>>=λ_=>pure r) Q E s₃) E s₂:=by
  rw[hs o i]
  exact wpAny_operating (wpAny_mono h₂ (λr s₃ h₃=>wpAny_bind (wpAny_letTemporaryGo (wpAny_pure h₃))) λ_ _ x=>x)
 first
  |exact wpAny_pure (wpAny_bind fin)
  |exact wpAny_bind (wpAny_pure (wpAny_bind fin))
  |exact wpAny_bind fin
theorem ac0_{X:Cx}{pins:List (Addr×Obj)}{σ:St}{H:Hp}{s:Shared}{a:Addr}{y:V}{o:Option V}(I:Inv X pins σ H s)(g:DGet H a y o):s.TypeIs (.ref a) "dict" := by
 rcases g with⟨kvs,k,e,_,_⟩|⟨kvs,k,b,e,_,_,_⟩
 ·obtain⟨_,_,vs,_,dd⟩:=va_ I.hok e
  exact dd.typeIs
 ·obtain⟨_,_,xs,_,dd⟩:=vr_ I.hok e
  exact dd.typeIs
def are_(td ty:TE):TE:=λσ H Q=>td σ H λx H1=>ty σ H1 λy H2=>∃a v,x=.ref a/\DGet H2 a y (some v)/\Q v H2
def aqr_(td ty tv:TE):TS:=λD σ H=>tv σ H λv H1=>td σ H1 λx H2=>ty σ H2 λy H3=>∃a H4,x=.ref a/\DPut H3 a y v H4/\D.nx σ H4
section
variable{X:Cx}{o i e value:Expr}{pos pos' tpos:Pos}{td ty tv:TE}
theorem adt_(hu:X.A.units+1<cLine)(ho:PE X o td)(hi:PE X i ty)(hs:NoSl i):PE X (.Subscript o i pos) (are_ td ty):=by
 intro pins s σ H Q I h
 refine akv_ PySem.F.slot_dict_getitem.lookup hs (thn (ho pins s σ H _ I h) λu s1 ⟨x,H1,I1,rx,q1⟩=>thn (hi pins s1 σ H1 _ I1 q1) λiv s2 ⟨y,H2,I2,ry,a,v,ex,g,q2⟩=>?_)
 subst ex
 obtain rfl:u=Value.ref a:=rx
 exact⟨ac0_ I2 g,aht_ hu I2 g ry λw' s3 I3 rw'=>⟨v,H2,I3,rw',q2⟩⟩
theorem vy_(hu:X.A.units+1<cLine)(ho:PE X o td)(hi:PE X i ty)(hv:PE X value tv)(hs:swapsWith value (some (.Subscript o i pos')) pos.line X.env=pure false) :
  PS X (.Assign [.Subscript o i pos'] value pos) (aqr_ td ty tv):=by
 intro pins s σ H D I h
 refine wpAny_Assign_Subscript (thn (hv pins s σ H _ I h) λr s1 ⟨v,H1,I1,rv,q1⟩=>thn (ho pins s1 σ H1 _ I1 q1) λu s2 ⟨x,H2,I2,rx,q2⟩=>thn (hi pins s2 σ H2 _ I2 q2) λiv s3 ⟨y,H3,I3,ry,a,H4,ex,g,q3⟩=>?_) hs
 subst ex
 obtain rfl:u=Value.ref a:=rx
 exact afo_ hu I3 g ry rv λs4 I4=>⟨σ,H4,I4,q3⟩
end
theorem aim_{P:Program}{w:World}{H:Hp}(h:Heap)(hb:sysModules<h.objs.size):ObjOk P w H (h.push { cls:=.type "dict",data:=.dict #[] }) h.objs.size (.dT []) :=
 ⟨An _,beq_eq_false_iff_ne.mpr (CG (Ab hb)),[],.nil,_,#[],0,AI _ rfl,⟨rfl,rfl,rfl⟩,rfl,rfl,List.nodup_nil⟩
def am5_:TE:=λ_ H Q=>∀p,H p=none->Q (.ref p) (upd H p (.dT []))
section
variable{X:Cx}{pos:Pos}
theorem yX_:PE X (.Dict [] [] pos) am5_:=λpins s σ H Q I h =>
 wpAny_Dict_empty ⟨.ref s.heap.objs.size,_,I.laid (a:=s.heap.objs.size) (o:=.dT []) (t':=s.toks) (λ_ _ q=>AB _ q) (AF _) (aim_ s.heap I.big),rfl,h _ (I.hok.fresh (AF _))⟩
end
def anu_(kvs more:List (Key×V)):List (Key×V):=more.foldl (λacc kv=>zr_ acc kv.1 kv.2) kvs
theorem KV.merge:∀{more:List (Key×V)}{rs:List (Key×Value)}{kvs:List (Key×V)}{vs:List (Key×Value)},KV more rs->KV kvs vs->KV (anu_ kvs more) (merged vs rs):=by
 intro more rs kvs vs r
 unfold KV at r
 induction r generalizing kvs vs with
 |nil=>intro q;exact q
 |@cons p q ps qs h t ih =>
  intro r0
  have e:KV (zr_ kvs p.1 p.2) (stored vs q.1 q.2):=by
   have:=r0.put p.1 h.2
   rw[<-h.1];exact this
  exact ih e
structure M1(X:Cx)(o:Expr)(m:Str)(apos:Pos)(e:Expr)(cpos:Pos):Prop where
 base:attributeBase o m X.env (eval o X.env)=eval o X.env
 few:((backTo cpos (starEach [e] X.env)).all (λx=>!x.1)&&(backToKw cpos (keywordEach [] X.env)).all (λx=>x.1.isSome)
  && decide (([e]:List Expr).length+([]:List Keyword).length+(if ([]:List Keyword).isEmpty then 0 else 1)<30))=true
 line:(apos.endLine==cpos.line)=true
 trees:backTo cpos (starEach [e] X.env)=[(false,eval e X.env)]
structure M2(X:Cx)(o:Expr)(m:Str)(apos:Pos)(e f:Expr)(cpos:Pos):Prop where
 base:attributeBase o m X.env (eval o X.env)=eval o X.env
 few:((backTo cpos (starEach [e,f] X.env)).all (λx=>!x.1)&&(backToKw cpos (keywordEach [] X.env)).all (λx=>x.1.isSome)
  && decide (([e,f]:List Expr).length+([]:List Keyword).length+(if ([]:List Keyword).isEmpty then 0 else 1)<30))=true
 line:(apos.endLine==cpos.line)=true
 trees:backTo cpos (starEach [e,f] X.env)=[(false,eval e X.env),(false,eval f X.env)]
def IsD(H:Hp)(a:Addr):Prop:=(∃kvs,Rd H a (.dK kvs))∨∃kvs,Rd H a (.dT kvs)
theorem anl_{X:Cx}{pins:List (Addr×Obj)}{σ:St}{H:Hp}{s:Shared}{a:Addr}(I:Inv X pins σ H s)(d:IsD H a) :
  s.TypeIs (.ref a) "dict" /\ (∀b,Value.ref a=.ref b->∃ob,s.heap.get? b=some ob/\ob.dict=none)/\(a==sysModules)=false:=by
 rcases d with⟨kvs,e⟩|⟨kvs,e⟩
 ·obtain⟨_,hd,vs,_,dd⟩:=va_ I.hok e
  refine⟨dd.typeIs,λb q=>?_,hd⟩
  cases q
  obtain⟨ob,_,_,h1,h2,_⟩:=dd
  exact⟨ob,h1,h2.2.1⟩
 ·obtain⟨_,hd,xs,_,dd⟩:=vr_ I.hok e
  refine⟨dd.typeIs,λb q=>?_,hd⟩
  cases q
  obtain⟨ob,_,_,h1,h2,_⟩:=dd
  exact⟨ob,h1,h2.2.1⟩
section
variable{X:Cx}{pins:List (Addr×Obj)}{σ:St}{H:Hp}{s:Shared}{a:Addr}{y d:V}{u r:Value}{o:Option V}{A:Around}{E:Value->Shared->Prop}
theorem amz_{Q:Value->Shared->Prop}(hu:A.units+1<cLine)(I:Inv X pins σ H s)(g:DGet H a y o)(ry:RelV y u)(rd:RelV d r)(h:∀w' s',Inv X pins σ H s'->RelV (o.getD d) w'->Q w' s') :
  wpAny (model X.prog X.w) A (call (.builtin "dict.get") [.ref a,u,r]) Q E s:=by
 rcases g with⟨kvs,k,e,ey,l⟩|⟨kvs,k,b,e,ey,eb,l⟩
 ·subst ey
  obtain⟨z,hd,vs,rel,dd⟩:=va_ I.hok e
  refine call_meetsIn C7 dd.typeIs D5 (Do _ _ _) (meets_dict_get_default (qF_ X.prog X.w) a (aa5_ ry) hd r) ⟨_,dd.mapOf,h _ _ (I.tok _) ?_⟩
  rw[l]
  exact(rel.val k).getD rd
 ·subst ey
  cases(show u=Value.ref b from ry)
  obtain⟨z,hd,xs,rel,dd⟩:=vr_ I.hok e
  refine call_meetsIn C7 dd.typeIs D5 (Do _ _ _) (meetsH_dict_get_default (tupleKind (qF_ X.prog X.w)) a b hd r) ⟨tupleKind_room_in1 hu,k,xs,x4_ I.hok eb,dd,h _ _ (I.tok _) ?_⟩
  rw[l]
  exact(rel.val k).getD rd
end
def aok_(td ty tx:TE):TE:=λσ H Q=>td σ H λx H1=>∃a,x=.ref a/\IsD H1 a/\ty σ H1 λy H2=>tx σ H2 λz H3=>∃o,DGet H3 a y o/\Q (o.getD z) H3
section
variable{X:Cx}{o e f:Expr}{apos cpos:Pos}{td ty tx:TE}
theorem y2_(hu:X.A.units+1<cLine)(ho:PE X o td)(he:PE X e ty)(hf:PE X f tx)(m:M2 X o "get" apos e f cpos):PE X (.Call (.Attribute o "get" apos) [e,f] [] cpos) (aok_ td ty tx):=by
 intro pins s σ H Q I h
 refine wpAny_Call_method m.base m.few m.line Dp C7 PySem.F.type_dict_get (thn (ho pins s σ H _ I h) λu s1 ⟨x,H1,I1,rx,a,ex,d,q1⟩=>?_)
 subst ex
 obtain rfl:u=Value.ref a:=rx
 obtain⟨t1,t2,_⟩:=anl_ I1 d
 refine⟨t1,t2,?_⟩
 rw[m.trees]
 refine Cd rfl (DB (DN (thn (he pins s1 σ H1 _ I1 q1) λiv s2 ⟨y,H2,I2,ry,q2⟩ =>
  DN (thn (hf pins s2 σ H2 _ I2 q2) λfv s3 ⟨z,H3,I3,rz,ov,g,q3⟩=>Calls.spliced_nil ?_))))
 exact amz_ hu I3 g ry rz λw' s4 I4 rw'=>⟨_,H3,I4,rw',q3⟩
end
end L2
namespace L2
open PySem PySem.Spec PyProof.Rows
end L2
namespace L2.Ev
open PySem PySem.Spec PyProof.Rows
theorem xB_(a b:Int):Builtin.Range.rangeSize a b (-1)=if b<a then a-b else 0:=by
 unfold Builtin.Range.rangeSize
 rw[if_neg (by decide)]
 by_cases h:a>b
 ·rw[if_pos h,if_pos (show b<a from h)]
  have e:-(-1:Int)=1:=rfl
  rw[e,Int.ediv_one]
  omega
 ·rw[if_neg h,if_neg (show ¬ b<a from h)]
theorem ae3_{a b:Int}(ha:-(2^62)<=a)(ha':a<2^62)(hb:-(2^62)<=b)(hb':b<2^62):Builtin.Range.small a b (-1)=true:=by
 unfold Builtin.Range.small
 rw[xB_]
 simp only[Builtin.Range.rangeFitsLong,AH,DC,decide_eq_true_eq,beq_iff_eq,show ¬ ((-1:Int)>0) by decide,if_false]
 split<;>omega
def Itd(hi:Int)(n:Nat):It:=⟨λi _=>i<n,λi H x H'=>H'=H/\x=.int (hi-i),λi _=>n<=i⟩
theorem act_{P:Program}{w:World}{K:PySem.W.Frag}{tg:Expr}(it:Addr)(hi:Int)(n:Nat):Turn P w K tg (Itd hi n) [it] it (λi h=>IsRangeIter h it (hi+(i:Nat)*(-1)) ((n:Int)-(i:Nat)) (-1)) where
 mem:=by simp
 obj:=λi h st b hb=>by
  have e:b=it:=by simpa using hb
  subst e
  exact⟨_,st,λv z=>by
   have z':Data.fields _=Data.cell v:=z
   cases z'⟩
 keep:=λi h h' st k=>k it (by simp) _ st
 item:=by
  intro X hP hw hK hc i pins s σ H E I hf st hg
  subst hP hw hK
  obtain⟨f0,f1,f2,f3,f4,f5⟩:=hf it (by simp)
  have W:=Walks.range (prog:=X.prog) (w:=X.w) (I.ok.hd hc) it hi (-1) n
  refine W.item i s _ _ hg st λv h' tk hv st' kk=>?_
  obtain⟨t,rfl⟩:=hv
  have I1:Inv X pins σ H { s with heap:=h',toks:=tk }:=I.turned (λb o hb e=>kk b o (by simpa using hb) e) f0 f1 f3 f4 f5
  refine⟨_,rfl,aa0_ (s:={ s with heap:=h',toks:=tk }) (n := "range_iterator") st' rfl rfl (by decide) ⟨.int (hi-i),H,I1,⟨t,?_⟩,⟨rfl,rfl⟩,st',λb hb=>(hf b hb).1⟩⟩
  have e:hi+(i:Int)*(-1)=hi-(i:Int):=by omega
  rw[e]
 done:=by
  intro X hP hw hK hc i pins s σ H E I hf st hg
  subst hP hw hK
  obtain⟨f0,f1,f2,f3,f4,f5⟩:=hf it (by simp)
  exact wpAny_pyNext_range_end (I.ok.hd hc) st (by have:n<=i:=hg;omega) λh' eb=>⟨rfl,I.turned (t':=s.toks) (λb o hb e=>eb b o hb e) f0 f1 f3 f4 f5⟩
 self:=λ_ _ _ _ _ st h=>wpAny_pyIter_rangeiter st h
section
variable{X:Cx}{tg:Expr}
theorem afy_{pins:List (Addr×Obj)}{σ:St}{H:Hp}{s:Shared}{R:It->Hp->Prop}{E:Value->Shared->Prop}{hi lo:Int}{t u v:Tok}{tk:Nat}(I:Inv X pins σ H s)(h1:-(2^62)<=hi)(h2:hi<2^62)(h3:-(2^62)<=lo)(h4:lo<2^62)
  (q:R (Itd hi (hi-lo).toNat) H):wpAny (model X.prog X.w) X.A (pyIter (.ref s.heap.objs.size)) (PIE X pins σ tg R) E { s with heap:=s.heap.push { cls:=.type "range",data:=.fields #[.int hi t,.int lo u,.int (-1) v] },toks:=tk }:=by
 refine wpAny_pyIter_range (IsRange.new ..) (ae3_ h1 h2 h3 h4) ?_
 have I1:Inv X pins σ H { s with heap:=s.heap.push { cls:=.type "range",data:=.fields #[.int hi t,.int lo u,.int (-1) v] },toks:=tk }:=I.kept λb o e=>AB _ e
 refine⟨(s.heap.push { cls:=.type "range",data:=.fields #[.int hi t,.int lo u,.int (-1) v] }).objs.size,[(s.heap.push { cls:=.type "range",data:=.fields #[.int hi t,.int lo u,.int (-1) v] }).objs.size],_,_,H,rfl,
  I1.kept (t':=tk) λb o e=>AB _ e,act_ _ hi (hi-lo).toNat,?_,λb hb=>?_,q⟩
 ·have e1:hi+((0:Nat):Int)*(-1)=hi:=by simp
  have e2:(((hi-lo).toNat:Nat):Int)-((0:Nat):Int)=Builtin.Range.rangeSize hi lo (-1):=by rw[xB_];split<;>omega
  show IsRangeIter _ _ (hi+((0:Nat):Int)*(-1)) ((((hi-lo).toNat:Nat):Int)-((0:Nat):Int)) (-1)
  rw[e1,e2]
  exact AI _ rfl
 ·have e:b=(s.heap.push { cls:=.type "range",data:=.fields #[.int hi t,.int lo u,.int (-1) v] }).objs.size:=by simpa using hb
  subst e
  exact I1.fpOk (AF _) (I1.hok.fresh (AF _))
def aqo_(ta:TA):TI:=λσ H R=>ta σ H λvs H1=>∃i j:Int,vs=[.int i,.int j,.int (-1)]/\(-(2^62)<=i/\i<2^62/\-(2^62)<=j/\j<2^62)/\R (Itd i (i-j).toNat) H1
theorem ago_{a b c:Expr}{ta:TA}{p pos:Pos}(hg:Gl X "range")(hm:X.mg "range" = none)(ha:PA X [a,b,c] ta)(hs:starEach [a,b,c] X.env=(false,eval a X.env)::starEach [b,c] X.env:=by rfl)(hs2:(backTo pos (starEach [b,c] X.env)).any (·.1)=false:=by rfl) :
  PI X tg (.Call (.Name "range" p) [a,b,c] [] pos) (aqo_ ta):=by
 intro pins s σ H R I h
 refine Call_ (z4_ I hg hm boot_range (Bi (thn (ha pos pins s σ H _ I h) λus s1 ⟨vs,H1,I1,r1,q1⟩=>?_) hs hs2))
 obtain⟨i,j,e,⟨q1,q2,q3,q4⟩,q⟩:=q1
 subst e
 cases r1 with
 |cons r rr =>
  cases rr with
  |cons r' rr =>
   cases rr with
   |cons r'' rr =>
    cases rr
    obtain⟨t,rfl⟩:=r
    obtain⟨t',rfl⟩:=r'
    obtain⟨t'',rfl⟩:=r''
    exact call_range_3 (by decide) (afy_ I1 q1 q2 q3 q4 q) (Or.inl (D3 (by decide)))
end
theorem ai6_{hi:Int}{n:Nat}{g:TG}{tb:TS}{D:Ends}{σ:St}{H:Hp}(Pv:Nat->St->Hp->Prop)(h0:Pv 0 σ H)
  (hs:∀i σ H,i<n->Pv i σ H->g (.int (hi-i)) σ H λσ2 H2=>tb { D with nx:=Pv (i+1),ct:=Pv (i+1),bk:=D.nx } σ2 H2) (hd:∀σ H,Pv n σ H->D.nx σ H) :
  ∃W:Nat->Nat->St->Hp->Prop,(∃m,W 0 m σ H)/\∀i m σ H,W i m σ H ->
   ((Itd hi n).stop i H/\D.nx σ H)∨((Itd hi n).go i H/\∃N:St->Hp->Prop,(∀σ' H',N σ' H'->∃m',m'<m/\W (i+1) m' σ' H')/\∀x H',(Itd hi n).yld i H x H'->g x σ H' λσ2 H2=>tb { D with nx:=N,ct:=N,bk:=D.nx } σ2 H2):=by
 refine⟨λi m σ H=>m=n-i/\i<=n/\Pv i σ H,⟨n,by simp,An _,h0⟩,?_⟩
 rintro i m σ H ⟨rfl,hi,p⟩
 by_cases hlt:i<n
 ·refine .inr ⟨hlt,Pv (i+1),λσ' H' p'=>⟨n-(i+1),by omega,rfl,hlt,p'⟩,λx H' y=>?_⟩
  obtain⟨e,y⟩:=y
  subst e y
  exact hs i σ _ hlt p
 ·have e:i=n:=by omega
  subst e
  exact .inl ⟨AF _,hd σ H p⟩
section
variable{X:Cx}
theorem ai8_{t:Addr}{vs:List Value}{ns:List Int}{s:Shared}{prog:Program}{w:World}{A:Around}{E:Value->Shared->Prop}{Q:Value->Shared->Prop}(hh:A.handled=none)(hl:s.heap.IsTuple t vs.toArray)(hi:IntsAre vs ns)
  (h:∀h' tk t',(∀b o,s.heap.get? b=some o->h'.get? b=some o)->Q (.int ns.sum t') { s with heap:=h',toks:=tk }) :
  wpAny (model prog w) A (call (.builtin "sum") [.ref t]) Q E s:=by
 obtain⟨xs,hx⟩:=hi.allInts.items
 have hn:numsOf vs.toArray.toList=ns:=by rw[show vs.toArray.toList=vs from rfl,hi.numsOf]
 rw[hx]at hl hn
 rw[nums_intItems]at hn
 refine PySem.W.ktm_sumG hh hl λh' tk t' hk=>?_
 have:=h h' tk t' hk
 rw[preSum_eq,AU (by simp),hn]
 exact this
theorem z1_(hc:X.calm=true):CallR X (.builtin "sum") (λxs H Q=>∃(p:Addr)(ns:List Int),xs=[.ref p]/\SqT X.K H p (ns.map V.int)/\Q (.int ns.sum) H):=by
 intro pins s σ H xs us Q I r h
 obtain⟨p,ns,rfl,hq,q⟩:=h
 obtain⟨u,rfl,ru⟩:=zx_ r
 cases ru
 obtain⟨its,rv,ht,_⟩:=I.tuple hq
 exact ai8_ (I.ok.hd hc) (show s.heap.IsTuple p its.toArray from ht) (q2_ rv) λh' tk t' hk=>⟨.int ns.sum,H,I.kept (t':=tk) hk,⟨t',rfl⟩,q⟩
end
def Tups(H H':Hp):Prop:=∀p xs,H p=some (.tup xs)->H' p=some (.tup xs)
theorem Tups.refl(H:Hp):Tups H H:=λ_ _ h=>h
theorem Tups.trans{H H1 H2:Hp}(a:Tups H H1)(b:Tups H1 H2):Tups H H2:=λp xs h=>b p xs (a p xs h)
theorem Tups.same{H H':Hp}(a:Same H H'):Tups H H':=λp xs h=>a p _ h
class Dat (α:Type) where
 is:Hp->V->α->Prop
 mono:∀{H H':Hp}{v:V}{a:α},Tups H H'->is H v a->is H' v a
 inj:∀{H:Hp}{v:V}{a b:α},is H v a->is H v b->a=b
 dep:Nat
 eqb:α->α->Bool
 eqb_iff:∀a b,eqb a b=true↔a=b
 eqAt:∀{X:Cx}{pins:List (Addr×Obj)}{σ:St}{H:Hp}{s:Shared}{A:Around}{v v':V}{u u':Value}{a b:α},Inv X pins σ H s->A.units+dep<cLine->is H v a->is H v' b->RelV v u->RelV v' u'->SeqAt.EqAt A s u u' (eqb a b)
instance:Dat Int where
 is:=λ_ v n=>v=.int n
 mono:=λ_ h=>h
 inj:=λh h'=>by rw[h]at h';cases h';rfl
 dep:=0
 eqb:=λa b=>a==b
 eqb_iff:=λa b=>by simp
 eqAt:=λI hu h h' r r'=>by
  subst h h'
  obtain⟨t,rfl⟩:=r
  obtain⟨t',rfl⟩:=r'
  exact Cp _ _ _ _
theorem Paired.get{α β:Type}{F:α->β->Prop}:∀{l:List α}{m:List β}(r:Paired F l m){i:Nat}{a:α},l[i]?=some a->∃b,m[i]?=some b/\F a b
 |_,_,.nil,_,_,e=>by simp at e
 |_,_,.cons r t,0,_,e=>by simp at e;subst e;exact⟨_,rfl,r⟩
 |_,_,.cons r t,i+1,a,e=>by
  obtain⟨b,h1,h2⟩:=Paired.get t (i:=i) (a:=a) (by simpa using e)
  exact⟨b,by simpa using h1,h2⟩
theorem Paired.getR{α β:Type}{F:α->β->Prop}:∀{l:List α}{m:List β}(r:Paired F l m){i:Nat}{b:β},m[i]?=some b->∃a,l[i]?=some a/\F a b
 |_,_,.nil,_,_,e=>by simp at e
 |_,_,.cons r t,0,_,e=>by simp at e;subst e;exact⟨_,rfl,r⟩
 |_,_,.cons r t,i+1,b,e=>by
  obtain⟨a,h1,h2⟩:=Paired.getR t (i:=i) (b:=b) (by simpa using e)
  exact⟨a,by simpa using h1,h2⟩
theorem Paired.injR{α β:Type}{F:α->β->Prop}(hf:∀a b b',F a b->F a b'->b=b'):∀{l:List α}{m m':List β},Paired F l m->Paired F l m'->m=m'
 |_,_,_,.nil,.nil=>rfl
 |_,_,_,.cons r t,.cons r' t'=>by rw[hf _ _ _ r r',Paired.injR hf t t']
theorem Paired.app{α β:Type}{F:α->β->Prop}:∀{l l':List α}{m m':List β},Paired F l m->Paired F l' m'->Paired F (l++l') (m++m')
 |_,_,_,_,.nil,h=>h
 |_,_,_,_,.cons r t,h=>.cons r (Paired.app t h)
def zi_{α:Type}(e:α->α->Bool):List α->List α->Bool
 |[],[]=>true
 |a::l,b::m=>e a b&&zi_ e l m
 |_,_=>false
theorem zZ_{α:Type}{e:α->α->Bool}(h:∀a b,e a b=true↔a=b):∀l m,zi_ e l m=true↔l=m
 |[],[]=>by simp [zi_]
 |[],_::_=>by simp [zi_]
 |_::_,[]=>by simp [zi_]
 |a::l,b::m=>by simp [zi_,h a b,zZ_ h l m]
def eAt{α:Type}(e:α->α->Bool)(l m:List α)(j:Nat):Bool:=match l[j]?,m[j]? with
 |some a,some b=>e a b
 |_,_=>false
theorem xa_{α:Type}(e:α->α->Bool):∀l m:List α,((List.range (min l.length m.length)).all (eAt e l m)&&l.length==m.length)=zi_ e l m
 |[],[]=>by simp [zi_]
 |[],_::_=>by simp [zi_]
 |_::_,[]=>by simp [zi_]
 |a::l,b::m=>by
  have ih:=xa_ e l m
  show((List.range (min (l.length+1) (m.length+1))).all (eAt e (a::l) (b::m))&&(l.length+1==m.length+1))=(e a b&&zi_ e l m)
  rw[<-ih,Nat.add_min_add_right,B3,Cc,Eh]
  have e0:eAt e (a::l) (b::m) 0=e a b:=rfl
  have e1:(eAt e (a::l) (b::m) ∘ Nat.succ)=eAt e l m:=by funext j;rfl
  have e2:(l.length+1==m.length+1)=(l.length==m.length):=by simp
  rw[e0,e1,e2,Bool.and_assoc]
section
variable{α:Type}[D:Dat α]
abbrev Its(H:Hp)(vs:List V)(l:List α):Prop:=Paired (λv a=>D.is H v a) vs l
theorem Its.mono{H H':Hp}{vs:List V}{l:List α}(t:Tups H H')(h:Its H vs l):Its H' vs l:=Paired.mono (λ_ _ q=>D.mono t q) h
theorem Its.inj{H:Hp}{vs:List V}{l m:List α}(h:Its H vs l)(h':Its H vs m):l=m:=Paired.injR (F:=λv a=>D.is H v a) (λ_ _ _ q q'=>D.inj q q') h h'
theorem j7_{X:Cx}{pins:List (Addr×Obj)}{σ:St}{H:Hp}{s:Shared}{A:Around}{vs vs':List V}{its its':List Value}{l m:List α}(I:Inv X pins σ H s)(hu:A.units+D.dep<cLine)(h:Its H vs l)(h':Its H vs' m)(r:Vals vs its)(r':Vals vs' its') :
  ∀j (h1:j<its.toArray.size) (h2:j<its'.toArray.size),SeqAt.EqAt A s its.toArray[j] its'.toArray[j] (eAt D.eqb l m j):=by
 intro j h1 h2
 have l1:=r.length
 have l2:=r'.length
 have k1:j<its.length:=by simpa using h1
 have k2:j<its'.length:=by simpa using h2
 have g1:vs[j]?=some vs[j]:=AJ (by omega)
 have g2:vs'[j]?=some vs'[j]:=AJ (by omega)
 obtain⟨u,e1,ru⟩:=r.get g1
 obtain⟨u',e2,ru'⟩:=r'.get g2
 obtain⟨a,f1,ra⟩:=Paired.get h g1
 obtain⟨b,f2,rb⟩:=Paired.get h' g2
 have q1:its.toArray[j]=u:=by
  have:its[j]=u:=by rw[AJ k1]at e1;exact AZ e1
  simpa using this
 have q2:its'.toArray[j]=u':=by
  have:its'[j]=u':=by rw[AJ k2]at e2;exact AZ e2
  simpa using this
 have q3:eAt D.eqb l m j=D.eqb a b:=by unfold eAt;rw[f1,f2]
 rw[q1,q2,q3]
 exact D.eqAt I hu ra rb ru ru'
instance datList:Dat (List α) where
 is:=λH v l=>∃p vs,v=.ref p/\H p=some (.tup vs)/\Its H vs l
 mono:=λt ⟨p,vs,e,h,i⟩=>⟨p,vs,e,t p vs h,Its.mono t i⟩
 inj:=λ⟨p,vs,e,h,i⟩ ⟨p',vs',e',h',i'⟩=>by
  subst e
  cases e'
  rw[h]at h'
  cases h'
  exact Its.inj i i'
 dep:=D.dep+1
 eqb:=zi_ D.eqb
 eqb_iff:=zZ_ D.eqb_iff
 eqAt:=λ{X pins σ H s A v v' u u' l m} I hu h h' r r'=>by
  obtain⟨p,vs,rfl,h,i⟩:=h
  obtain⟨p',vs',rfl,h',i'⟩:=h'
  cases r
  cases r'
  by_cases e:p=p'
  ·subst e
   rw[h]at h'
   cases h'
   have q:l=m:=Its.inj i i'
   rw[(zZ_ D.eqb_iff l m).mpr q]
   exact Dw _
  ·obtain⟨its,rv,ht,_⟩:=I.tuple (SqT.of h)
   obtain⟨its',rv',ht',_⟩:=I.tuple (SqT.of h')
   have hl:its.toArray.size=l.length:=by have:=rv.length;have:=AQ i;simp;omega
   have hm:its'.toArray.size=m.length:=by have:=rv'.length;have:=AQ i';simp;omega
   have q:=Dc (A:=A) (s:=s) (e:=eAt D.eqb l m) (show s.heap.IsTuple p its.toArray from ht) (show s.heap.IsTuple p' its'.toArray from ht') (by omega)
    (j7_ I (A:=A.in1) (by show A.units+1+D.dep<cLine;omega) i i' rv rv')
   rw[hl,hm,xa_]at q
   exact SeqAt.EqAt.of_refs e q
def LstAt(H:Hp)(a:Addr)(l:List α):Prop:=∃vs,H a=some (.lst vs)/\Its H vs l
theorem LstAt.mono{H H':Hp}{a:Addr}{l:List α}(e:Same H H')(h:LstAt H a l):LstAt H' a l:=by
 obtain⟨vs,q,i⟩:=h
 exact⟨vs,e _ _ q,Its.mono (Tups.same e) i⟩
end
section
variable{α β:Type}[D:Dat α][D2:Dat β]
instance datPair:Dat (α×β) where
 is:=λH v x=>∃p a b,v=.ref p/\H p=some (.tup [a,b])/\D.is H a x.1/\D2.is H b x.2
 mono:=λt ⟨p,a,b,e,h,i,j⟩=>⟨p,a,b,e,t _ _ h,D.mono t i,D2.mono t j⟩
 inj:=λ⟨p,a,b,e,h,i,j⟩ ⟨p',a',b',e',h',i',j'⟩=>by
  subst e
  cases e'
  rw[h]at h'
  cases h'
  exact Df (D.inj i i') (D2.inj j j')
 dep:=max D.dep D2.dep+1
 eqb:=λx y=>D.eqb x.1 y.1&&D2.eqb x.2 y.2
 eqb_iff:=λx y=>by rw[AH,D.eqb_iff,D2.eqb_iff,Prod.ext_iff]
 eqAt:=λ{X pins σ H s A v v' u u' l m} I hu h h' r r'=>by
  obtain⟨p,a,b,rfl,h,i,j⟩:=h
  obtain⟨p',a',b',rfl,h',i',j'⟩:=h'
  cases r
  cases r'
  by_cases e:p=p'
  ·subst e
   rw[h]at h'
   cases h'
   rw[(D.eqb_iff _ _).mpr (D.inj i i'),(D2.eqb_iff _ _).mpr (D2.inj j j')]
   exact Dw _
  ·obtain⟨its,rv,ht,_⟩:=I.tuple (SqT.of h)
   obtain⟨its',rv',ht',_⟩:=I.tuple (SqT.of h')
   obtain⟨w1,w2,rfl,r1,r2⟩:=xO_ rv
   obtain⟨z1,z2,rfl,t1,t2⟩:=xO_ rv'
   have q:=Dc (A:=A) (s:=s) (e:=λk=>if k=0 then D.eqb l.1 m.1 else D2.eqb l.2 m.2) (show s.heap.IsTuple p _ from ht) (show s.heap.IsTuple p' _ from ht') (by omega)
    (λk h1 h2=>by
     have hk:k=0∨k=1:=by
      have:k<2:=h1
      omega
     rcases hk with rfl|rfl
     ·exact D.eqAt (A:=A.in1) I (by show A.units+1+D.dep<cLine;omega) i i' r1 t1
     ·exact D2.eqAt (A:=A.in1) I (by show A.units+1+D2.dep<cLine;omega) j j' r2 t2)
   have e2:((List.range (min [w1,w2].toArray.size [z1,z2].toArray.size)).all (λk=>if k=0 then D.eqb l.1 m.1 else D2.eqb l.2 m.2)&&[w1,w2].toArray.size==[z1,z2].toArray.size)=(D.eqb l.1 m.1&&D2.eqb l.2 m.2):=by
    simp [BZ]
   rw[e2]at q
   exact SeqAt.EqAt.of_refs e q
end
section
variable{X:Cx}{α:Type}[D:Dat α]
theorem aik_{pins:List (Addr×Obj)}{σ:St}{H:Hp}{s:Shared}{A:Around}{a b:Addr}{l m:List α}(I:Inv X pins σ H s)(hu:A.units+(D.dep+1)<cLine)(ha:LstAt H a l)(hb:LstAt H b m) :
  SeqAt.RcAt A s (.ref a) (.ref b) (zi_ D.eqb l m):=by
 obtain⟨vs,ha,i⟩:=ha
 obtain⟨vs',hb,i'⟩:=hb
 obtain⟨its,rv,ht,_⟩:=I.list (SqL.of ha)
 obtain⟨its',rv',ht',_⟩:=I.list (SqL.of hb)
 have hl:its.toArray.size=l.length:=by have:=rv.length;have:=AQ i;simp;omega
 have hm:its'.toArray.size=m.length:=by have:=rv'.length;have:=AQ i';simp;omega
 have all:=xa_ D.eqb l m
 by_cases e:l.length=m.length
 ·have q:=SeqAt.RcAt.lists (A:=A) (s:=s) (e:=eAt D.eqb l m) ht.isList ht'.isList (by omega) (by omega) (j7_ I (A:=A.in1) (by show A.units+1+D.dep<cLine;omega) i i' rv rv')
  rw[hl]at q
  rw[e,Dg,beq_self_eq_true,Bool.and_true,<-e]at all
  rw[all]at q
  exact q
 ·have q:=SeqAt.RcAt.lists_lengths (A:=A) (s:=s) ht.isList ht'.isList (by rw[hl,hm];simpa using e) (by omega)
  rw[show(l.length==m.length)=false by simpa using e,EE]at all
  rw[<-all]
  exact q
theorem aeg_{pins:List (Addr×Obj)}{σ:St}{H:Hp}{s:Shared}{A:Around}{a b:Addr}{l m:List α}(I:Inv X pins σ H s)(hu:A.units+(D.dep+1)<cLine)(ha:LstAt H a l)(hb:LstAt H b m) :
  SeqAt.RcNeAt A s (.ref a) (.ref b) (!zi_ D.eqb l m):=by
 obtain⟨vs,ha,i⟩:=ha
 obtain⟨vs',hb,i'⟩:=hb
 obtain⟨its,rv,ht,_⟩:=I.list (SqL.of ha)
 obtain⟨its',rv',ht',_⟩:=I.list (SqL.of hb)
 have hl:its.toArray.size=l.length:=by have:=rv.length;have:=AQ i;simp;omega
 have hm:its'.toArray.size=m.length:=by have:=rv'.length;have:=AQ i';simp;omega
 have all:=xa_ D.eqb l m
 by_cases e:l.length=m.length
 ·have q:=SeqAt.RcNeAt.lists (A:=A) (s:=s) (e:=eAt D.eqb l m) ht.isList ht'.isList (by omega) (by omega) (j7_ I (A:=A.in1) (by show A.units+1+D.dep<cLine;omega) i i' rv rv')
  rw[hl]at q
  rw[e,Dg,beq_self_eq_true,Bool.and_true,<-e]at all
  rw[all]at q
  exact q
 ·have q:=SeqAt.RcNeAt.lists_lengths (A:=A) (s:=s) ht.isList ht'.isList (by rw[hl,hm];simpa using e) (by omega)
  rw[show(l.length==m.length)=false by simpa using e,EE]at all
  rw[<-all]
  exact q
def rEqL(α:Type)[Dat α]:R2:=λx y H Q=>∃(a b:Addr)(l m:List α),x=.ref a/\y=.ref b/\LstAt H a l/\LstAt H b m/\Q (.bl (zi_ (Dat.eqb (α:=α)) l m)) H
def rNeL(α:Type)[Dat α]:R2:=λx y H Q=>∃(a b:Addr)(l m:List α),x=.ref a/\y=.ref b/\LstAt H a l/\LstAt H b m/\Q (.bl (!zi_ (Dat.eqb (α:=α)) l m)) H
theorem an2_(hu:X.A.units+(D.dep+1)<cLine):OpR X (compareOp .Eq) (rEqL α):=by
 intro pins s σ H x y v u Q I rx ry h
 obtain⟨a,b,l,m,rfl,rfl,ha,hb,q⟩:=h
 cases rx
 cases ry
 exact(aik_ I hu ha hb) X.prog X.w X.xe _ ⟨.bl _,H,I,rfl,q⟩
theorem anc_(hu:X.A.units+(D.dep+1)<cLine):OpR X (compareOp .NotEq) (rNeL α):=by
 intro pins s σ H x y v u Q I rx ry h
 obtain⟨a,b,l,m,rfl,rfl,ha,hb,q⟩:=h
 cases rx
 cases ry
 exact(aeg_ I hu ha hb) X.prog X.w X.xe _ ⟨.bl _,H,I,rfl,q⟩
end
end L2.Ev
namespace L2.Ts
open PySem PyProof.Rows
def kv(rk:Keyed->Nat)(xs:Array Keyed)(i:Nat):Nat:=match xs[i]? with
 |some p=>rk p
 |none=>0
def Srt(rk:Keyed->Nat)(xs:Array Keyed)(a b:Nat):Prop:=∀i j,a<=i->i<=j->j<b->kv rk xs i<=kv rk xs j
def Des(rk:Keyed->Nat)(xs:Array Keyed)(a b:Nat):Prop:=∀i j,a<=i->i<=j->j<b->kv rk xs j<=kv rk xs i
theorem qA_{rk:Keyed->Nat}{xs:Array Keyed}{i:Nat}{p:Keyed}(h:xs[i]?=some p):kv rk xs i=rk p:=by unfold kv;rw[h]
theorem zm_{rk:Keyed->Nat}{xs ys:Array Keyed}{i j:Nat}(h:xs[i]?=ys[j]?):kv rk xs i=kv rk ys j:=by unfold kv;rw[h]
structure Nx(lo:Nat)(st st':SortSt):Prop where
 kind:kindOf st'=kindOf st
 failed:failedOf st'=failedOf st
 pend:pendingOf st'=pendingOf st
 perm:(arrOf st').Perm (arrOf st)
 below:∀k:Nat,k<lo->(arrOf st')[k]?=(arrOf st)[k]?
theorem Nx.refl(lo:Nat)(st:SortSt):Nx lo st st:=⟨rfl,rfl,rfl,Array.Perm.refl _,λ_ _=>rfl⟩
theorem Nx.trans{lo:Nat}{a b c:SortSt}(h:Nx lo a b)(q:Nx lo b c):Nx lo a c:=⟨q.kind.trans h.kind,q.failed.trans h.failed,q.pend.trans h.pend,q.perm.trans h.perm,λk hk=>(q.below k hk).trans (h.below k hk)⟩
theorem Nx.size{lo:Nat}{a b:SortSt}(h:Nx lo a b):(arrOf b).size=(arrOf a).size:=h.perm.size_eq
theorem jS_{rk:Keyed->Nat}{xs:Array Keyed}{i j:Nat}(hj:j<=xs.size)(k:Nat):kv rk (mirror xs i j ((j-i) / 2)) k=if i<=k/\k<j then kv rk xs (i+j-1-k) else kv rk xs k:=by
 have e:=getElem?_mirror_all (i:=i) hj k
 split
 ·rename_i h;rw[if_pos h]at e;exact zm_ e
 ·rename_i h;rw[if_neg h]at e;exact zm_ e
theorem v3_{rk:Keyed->Nat}{xs:Array Keyed}{src d:Nat}(hs:src<xs.size)(hd:d<=src)(k:Nat) :
  kv rk (bubble xs src d) k=if k=src-d then kv rk xs src else if src-d<k/\k<=src then kv rk xs (k-1) else kv rk xs k:=by
 have e:=getElem?_bubble hs d hd k
 split
 ·rename_i h;rw[if_pos h]at e;exact zm_ e
 ·rename_i h
  rw[if_neg h]at e
  split
  ·rename_i h2;rw[if_pos h2]at e;exact zm_ e
  ·rename_i h2;rw[if_neg h2]at e;exact zm_ e
theorem xi_{lo i j:Nat}{st:SortSt}(hi:lo<=i)(hj:j<=(arrOf st).size):Nx lo st (setArr st (mirror (arrOf st) i j ((j-i) / 2))) :=
 ⟨rfl,rfl,rfl,mirror_perm _ _ _ _,λk hk=>by
  have e:=getElem?_mirror_all (xs:=arrOf st) (i:=i) hj k
  rw[if_neg (by lia)]at e
  exact e⟩
theorem afj_{lo src d:Nat}{st:SortSt}(hi:lo<=src-d)(hs:src<(arrOf st).size)(hd:d<=src):Nx lo st (setArr st (bubble (arrOf st) src d)) :=
 ⟨rfl,rfl,rfl,bubble_perm _ _ _,λk hk=>by
  have e:=getElem?_bubble (xs:=arrOf st) hs d hd k
  rw[if_neg (by lia),if_neg (by lia)]at e
  exact e⟩
section
variable{prog:Program}{w:World}{A:Around}{E:Value->Shared->Prop}{s:Shared}{κ:SortKind}{M:Keyed->Prop}{rk:Keyed->Nat}
def Ask(prog:Program)(w:World)(A:Around)(s:Shared)(κ:SortKind)(M:Keyed->Prop)(rk:Keyed->Nat):Prop :=
 ∀x y,M x->M y->∀Q:Bool->Shared->Prop,Q (decide (rk x<rk y)) s->wpAny (model prog w) A (keyLt' κ x.1 y.1) Q (λ_ _=>False) s
theorem x8_(h:Ask prog w A s κ M rk){x y:Keyed}{st:SortSt}{Q:Option Bool->SortSt->Prop}(hk:kindOf st=κ)(hx:M x)(hy:M y)(q:Q (some (decide (rk x<rk y))) st) :
  wpS (model prog w) A E s (lt' x y) Q st:=by
 rw[lt'_eq]
 refine wpS_bind (wpS_get ?_)
 rw[hk]
 refine wpS_bind (wpS_lift (wpAny_attempt (wpAny_mono (h x y hx hy (λb s'=>s'=s/\b=decide (rk x<rk y)) ⟨rfl,rfl⟩) (λb s' hb=>?_) λ_ _ z=>z.elim)))
 obtain⟨h1,rfl⟩:=hb
 exact⟨h1,wpS_pure q⟩
theorem qH_{arr:Array Keyed}{i:Nat}{p:Keyed}{st:SortSt}{Q:Keyed->SortSt->Prop}(h:arr[i]?=some p)(q:Q p st):wpS (model prog w) A E s (elem' arr i) Q st:=by
 rw[elem'_eq,h]
 exact wpS_pure q
def All(M:Keyed->Prop)(xs:Array Keyed):Prop:=∀(i:Nat) p,xs[i]?=some p->M p
theorem All.perm{xs ys:Array Keyed}(h:All M xs)(p:ys.Perm xs):All M ys:=λi x e=>by
 have hm:x∈xs:=p.mem_iff.mp (EF e)
 obtain⟨j,hj,ej⟩:=Array.getElem_of_mem hm
 exact h j x (by rw[AG hj,ej])
theorem xe_(h:Ask prog w A s κ M rk){i j:Nat}{st:SortSt}{Q:Option Bool->SortSt->Prop}(hk:kindOf st=κ)(ha:All M (arrOf st))(hi:i<(arrOf st).size)(hj:j<(arrOf st).size)
  (q:Q (some (decide (kv rk (arrOf st) i<kv rk (arrOf st) j))) st):wpS (model prog w) A E s (ltAt' i j) Q st:=by
 have ei:(arrOf st)[i]?=some (arrOf st)[i]:=AG hi
 have ej:(arrOf st)[j]?=some (arrOf st)[j]:=AG hj
 rw[ltAt'_eq]
 refine wpS_bind (wpS_get ?_)
 refine wpS_bind (qH_ ei (wpS_bind (qH_ ej (x8_ h hk (ha _ _ ei) (ha _ _ ej) ?_))))
 rw[qA_ ei,qA_ ej]at q
 exact q
theorem anm_(h:Ask prog w A s κ M rk){lo nrem:Nat}{st:SortSt}{Q:Option Nat->SortSt->Prop}(hk:kindOf st=κ)(ha:All M (arrOf st))(hn:1<=nrem)(hz:lo+nrem<=(arrOf st).size)
  (q:∀n st',Nx lo st st'->1<=n->n<=nrem->Srt rk (arrOf st') lo (lo+n)->Q (some n) st'):wpS (model prog w) A E s (countRun' lo nrem) Q st:=by
 rw[countRun'_eq]
 have asc:∀(st1:SortSt)(a:Nat)(R:Option (Option Nat)×Nat->SortSt->Prop),Nx lo st st1->1<=a->a<=nrem->Srt rk (arrOf st1) lo (lo+a) ->
   (∀n,a<=n->n<=nrem->Srt rk (arrOf st1) lo (lo+n)->(n=nrem∨kv rk (arrOf st1) (lo+n)<kv rk (arrOf st1) (lo+n-1))->R (none,n) st1) ->
   wpS (model prog w) A E s (forIn [a:nrem] ((none,a):Option (Option Nat)×Nat) λ_ r=>do
    let x <-ltAt' (lo+r.2) (lo+r.2-1)
    match x with
    |some c=>if c=true then pure (ForInStep.done (none,r.2)) else pure (ForInStep.yield (none,r.2+1))
    |_=>pure (ForInStep.done (some none,r.2))) R st1:=by
  intro st1 a R n1 ha1 han hs hR
  refine wpS_forRange (I:=λx c st'=>st'=st1/\c=(none,x)/\Srt rk (arrOf st1) lo (lo+x)) ?step ?fin ⟨rfl,rfl,hs⟩
  case fin =>
   rintro c st' ⟨rfl,rfl,hs'⟩
   rw[show max a nrem=nrem by lia]at hs' ⊢
   exact hR nrem han (AF _) hs' (.inl rfl)
  case step =>
   rintro x c st' hax hxn ⟨rfl,rfl,hs'⟩
   dsimp only
   have hsz:=n1.size
   refine wpS_bind (xe_ h (n1.kind.trans hk) (ha.perm n1.perm) (by lia) (by lia) ?_)
   by_cases hl:kv rk (arrOf st') (lo+x)<kv rk (arrOf st') (lo+x-1)
   ·simp only[hl,decide_true,if_true]
    exact wpS_pure (hR x hax (by lia) hs' (.inr hl))
   ·simp only[hl,decide_false,Ay,if_false]
    refine wpS_pure ⟨rfl,rfl,λi j hi hij hj=>?_⟩
    by_cases hjx:j<lo+x
    ·exact hs' i j hi hij hjx
    ·have ej:j=lo+x:=by lia
     subst ej
     by_cases hi':i=lo+x
     ·subst hi';exact AF _
     ·have:=hs' i (lo+x-1) hi (by lia) (by lia)
      lia
 have one:Srt rk (arrOf st) lo (lo+1):=λi j h1 h2 h3=>by
  have e:i=j:=by lia
  subst e
  exact AF _
 refine wpS_bind (asc st 1 _ (Nx.refl _ _) (AF _) hn one λn hn1 hn2 hs hnd=>?_)
 dsimp only
 by_cases hnn:n=nrem
 ·subst hnn
  rw[if_pos (by simp)]
  exact wpS_pure (q n st (Nx.refl _ _) hn1 (AF _) hs)
 rw[if_neg (by simpa using hnn)]
 have hlt:kv rk (arrOf st) (lo+n)<kv rk (arrOf st) (lo+n-1):=hnd.resolve_left hnn
 have key:∀K:StateT SortSt Sem (Option Nat),(∀st1,Nx lo st st1->Des rk (arrOf st1) lo (lo+n+1)->wpS (model prog w) A E s K Q st1) ->
   wpS (model prog w) A E s (if n>1 then do
    let x <-ltAt' lo (lo+n-1)
    match x with
    |some c=>if c=true then pure (some n) else do
     reverseSlice' lo (lo+n)
     K
    |_=>pure none
   else K) Q st:=by
  intro K hK
  by_cases h1:n>1
  ·rw[if_pos h1]
   refine wpS_bind (xe_ h hk ha (by lia) (by lia) ?_)
   by_cases hl:kv rk (arrOf st) lo<kv rk (arrOf st) (lo+n-1)
   ·simp only[hl,decide_true,if_true]
    exact wpS_pure (q n st (Nx.refl _ _) hn1 hn2 hs)
   ·simp only[hl,decide_false,Ay,if_false]
    refine wpS_bind (wpS_reverse (hK _ (xi_ (AF _) (by lia)) ?_))
    have alike:∀k,lo<=k->k<lo+n->kv rk (arrOf st) k=kv rk (arrOf st) lo:=λk h2 h3=>by
     have e1:=hs lo k (AF _) h2 h3
     have e2:=hs k (lo+n-1) h2 (by lia) (by lia)
     lia
    have same:∀k,kv rk (mirror (arrOf st) lo (lo+n) ((lo+n-lo) / 2)) k=kv rk (arrOf st) k:=λk=>by
     rw[jS_ (by lia)]
     split
     ·rw[alike _ (by lia) (by lia),alike k (by lia) (by lia)]
     ·rfl
    intro i j hi hij hj
    show kv rk (mirror (arrOf st) lo (lo+n) ((lo+n-lo) / 2)) j<=kv rk (mirror (arrOf st) lo (lo+n) ((lo+n-lo) / 2)) i
    rw[same,same]
    by_cases hj':j<lo+n
    ·rw[alike j (by lia) hj',alike i hi (by lia)];exact AF _
    ·have ej:j=lo+n:=by lia
     subst ej
     by_cases hi':i<lo+n
     ·have e1:=alike i hi hi'
      have e2:=alike (lo+n-1) (by lia) (by lia)
      lia
     ·have ei:i=lo+n:=by lia
      subst ei;exact AF _
  ·rw[if_neg h1]
   have en:n=1:=by lia
   subst en
   refine hK st (Nx.refl _ _) λi j hi hij hj=>?_
   by_cases e:i=j
   ·subst e;exact AF _
   ·have e1:i=lo:=by lia
    have e2:j=lo+1:=by lia
    subst e1 e2
    exact Bf hlt
 refine key _ λst1 n1 hd=>?_
 have sz1:=n1.size
 refine wpS_bind (wpS_lift (wpAny_rule ⟨rfl,?_⟩))
 refine wpS_bind (wpS_mono (wpS_forRange (I:=λx c st'=>∃neq,c=(none,x,neq)/\Nx lo st st'/\Des rk (arrOf st') lo (lo+x)/\neq+1<=x/\(∀i,lo+x-(neq+1)<=i->i<lo+x->kv rk (arrOf st') i=kv rk (arrOf st') (lo+x-1)))
  (Q:=λc st'=>∃x neq,c=(none,x,neq)/\n+1<=x/\x<=nrem/\Nx lo st st'/\Des rk (arrOf st') lo (lo+x)/\neq+1<=x/\(∀i,lo+x-(neq+1)<=i->i<lo+x->kv rk (arrOf st') i=kv rk (arrOf st') (lo+x-1)))
  ?step ?fin ⟨0,rfl,n1,hd,by lia,λi h1 h2=>by congr 1;lia⟩) ?post)
 case fin =>
  rintro c st' ⟨neq,rfl,n',hd',hq,he⟩
  rw[show max (n+1) nrem=nrem by lia]at hd' hq he ⊢
  exact⟨nrem,neq,rfl,by lia,AF _,n',hd',hq,he⟩
 case step =>
  rintro x c st' hax hxn ⟨neq,rfl,n',hd',hq,he⟩
  dsimp only
  have sz':=n'.size
  have grow:∀st2,Nx lo st st2->(∀k,kv rk (arrOf st2) k=kv rk (arrOf st') k)->kv rk (arrOf st') (lo+x)<=kv rk (arrOf st') (lo+x-1)->Des rk (arrOf st2) lo (lo+(x+1)):=by
   intro st2 _ e hle i j hi hij hj
   rw[e,e]
   by_cases hjx:j<lo+x
   ·exact hd' i j hi hij hjx
   ·have ej:j=lo+x:=by lia
    subst ej
    by_cases hi':i=lo+x
    ·subst hi';exact AF _
    ·have:=hd' i (lo+x-1) hi (by lia) (by lia)
     lia
  refine wpS_bind (xe_ h (n'.kind.trans hk) (ha.perm n'.perm) (by lia) (by lia) ?_)
  by_cases hl:kv rk (arrOf st') (lo+x)<kv rk (arrOf st') (lo+x-1)
  ·simp only[hl,decide_true,if_true]
   by_cases hq0:neq>0
   ·rw[if_pos hq0]
    have n2:Nx lo st' (setArr st' (mirror (arrOf st') (lo+x-(neq+1)) (lo+x) ((lo+x-(lo+x-(neq+1))) / 2))):=xi_ (by lia) (by lia)
    have same:∀k,kv rk (mirror (arrOf st') (lo+x-(neq+1)) (lo+x) ((lo+x-(lo+x-(neq+1))) / 2)) k=kv rk (arrOf st') k:=λk=>by
     rw[jS_ (by lia)]
     split
     ·rw[he _ (by lia) (by lia),he k (by lia) (by lia)]
     ·rfl
    refine wpS_bind (wpS_reverse (wpS_pure ⟨0,rfl,n'.trans n2,grow _ (n'.trans n2) same (Bf hl),by lia,λi h1 h2=>by congr 1;lia⟩))
   ·rw[if_neg hq0]
    exact wpS_pure ⟨0,rfl,n',grow _ n' (λ_=>rfl) (Bf hl),by lia,λi h1 h2=>by congr 1;lia⟩
  ·simp only[hl,decide_false,Ay,if_false]
   refine wpS_bind (xe_ h (n'.kind.trans hk) (ha.perm n'.perm) (by lia) (by lia) ?_)
   by_cases hl2:kv rk (arrOf st') (lo+x-1)<kv rk (arrOf st') (lo+x)
   ·simp only[hl2,decide_true,if_true]
    exact wpS_pure ⟨x,neq,rfl,hax,by lia,n',hd',hq,he⟩
   ·simp only[hl2,decide_false,Ay,if_false]
    refine wpS_pure ⟨neq+1,rfl,n',grow _ n' (λ_=>rfl) (by lia),by lia,λi h1 h2=>?_⟩
    rw[show lo+(x+1)-1=lo+x by lia]
    by_cases hi':i=lo+x
    ·subst hi';rfl
    ·rw[he i (by lia) (by lia)];lia
 case post =>
  rintro c st' ⟨x,neq,rfl,hx1,hx2,n',hd',hq,he⟩
  dsimp only
  have sz':=n'.size
  have last:∀(K:Option (Option Nat)×Nat->StateT SortSt Sem (Option Nat)),(∀m,K (none,m)=pure (some m))->∀st2,Nx lo st st2->Des rk (arrOf st2) lo (lo+x)->wpS (model prog w) A E s (do
    reverseSlice' lo (lo+x)
    let r <-forIn [x:nrem] ((none,x):Option (Option Nat)×Nat) λ_ r=>do
     let x <-ltAt' (lo+r.2) (lo+r.2-1)
     match x with
     |some c=>if c=true then pure (ForInStep.done (none,r.2)) else pure (ForInStep.yield (none,r.2+1))
     |_=>pure (ForInStep.done (some none,r.2))
    K r) Q st2:=by
   intro K hK st2 n2 hd2
   have sz2:=n2.size
   refine wpS_bind (wpS_reverse ?_)
   have n3:Nx lo st2 (setArr st2 (mirror (arrOf st2) lo (lo+x) ((lo+x-lo) / 2))):=xi_ (AF _) (by lia)
   refine wpS_bind (asc _ x _ (n2.trans n3) (by lia) hx2 ?_ λm hm1 hm2 hs _=>?_)
   ·intro i j hi hij hj
    show kv rk (mirror (arrOf st2) lo (lo+x) ((lo+x-lo) / 2)) i<=kv rk (mirror (arrOf st2) lo (lo+x) ((lo+x-lo) / 2)) j
    rw[jS_ (by lia),jS_ (by lia),if_pos (by lia),if_pos (by lia)]
    exact hd2 _ _ (by lia) (by lia) (by lia)
   ·rw[hK];exact wpS_pure (q m _ (n2.trans n3) (by lia) hm2 hs)
  by_cases hq0:neq>0
  ·rw[if_pos hq0]
   have n2:Nx lo st' (setArr st' (mirror (arrOf st') (lo+x-(neq+1)) (lo+x) ((lo+x-(lo+x-(neq+1))) / 2))):=xi_ (by lia) (by lia)
   have same:∀k,kv rk (mirror (arrOf st') (lo+x-(neq+1)) (lo+x) ((lo+x-(lo+x-(neq+1))) / 2)) k=kv rk (arrOf st') k:=λk=>by
    rw[jS_ (by lia)]
    split
    ·rw[he _ (by lia) (by lia),he k (by lia) (by lia)]
    ·rfl
   refine wpS_bind (wpS_reverse (last _ (λ_=>rfl) _ (n'.trans n2) λi j hi hij hj=>?_))
   show kv rk (mirror _ _ _ _) j<=kv rk (mirror _ _ _ _) i
   rw[same,same]
   exact hd' i j hi hij hj
  ·rw[if_neg hq0]
   exact last _ (λ_=>rfl) st' n' hd'
theorem anv_(h:Ask prog w A s κ M rk){lo n ok:Nat}{st:SortSt}{Q:Bool->SortSt->Prop}(hk:kindOf st=κ)(ha:All M (arrOf st))(hn:lo+n<=(arrOf st).size)(hok:ok<=n)(hs:Srt rk (arrOf st) lo (lo+ok))
  (q:∀st',Nx lo st st'->Srt rk (arrOf st') lo (lo+n)->Q true st'):wpS (model prog w) A E s (binarySort' lo n ok) Q st:=by
 rw[binarySort'_eq]
 refine wpS_bind (wpS_mono (wpS_forRange (I:=λk c st'=>c=(none,())/\Nx lo st st'/\Srt rk (arrOf st') lo (lo+min k n))
  (Q:=λc st'=>c=(none,())/\Nx lo st st'/\Srt rk (arrOf st') lo (lo+n)) ?step ?fin ?init) ?post)
 case post =>
  rintro c st' ⟨rfl,n',hs'⟩
  exact wpS_pure (q st' n' hs')
 case init =>
  refine⟨rfl,Nx.refl _ _,λi j hi hij hj=>?_⟩
  by_cases h1:ok=0
  ·have e:i=j:=by lia
   subst e;exact AF _
  ·exact hs i j hi hij (by lia)
 case fin =>
  rintro c st' ⟨hc,n',hs'⟩
  refine⟨hc,n',?_⟩
  rwa [show min (max (max ok 1) n) n=n by lia]at hs'
 case step =>
  rintro k c st' hak hkn ⟨rfl,n',hs'⟩
  rw[show min k n=k by lia]at hs'
  have sz':=n'.size
  refine wpS_bind (wpS_mono (wpS_forRange (I:=λx c st''=>st''=st'/\∃l r,c=(none,l,r)/\l<=r/\r<=k/\r-l<=k-x /\
    (∀i,i<l->kv rk (arrOf st') (lo+i)<=kv rk (arrOf st') (lo+k))/\(∀i,r<=i->i<k->kv rk (arrOf st') (lo+k)<kv rk (arrOf st') (lo+i)))
   (Q:=λc st''=>st''=st'/\∃l r,c=(none,l,r)/\l<=k /\
    (∀i,i<l->kv rk (arrOf st') (lo+i)<=kv rk (arrOf st') (lo+k))/\(∀i,l<=i->i<k->kv rk (arrOf st') (lo+k)<kv rk (arrOf st') (lo+i))) ?istep ?ifin ?iinit) ?ipost)
  case iinit=>exact⟨rfl,0,k,rfl,by lia,by lia,by lia,λi hi=>by lia,λi h1 h2=>by lia⟩
  case ifin =>
   rintro c st'' ⟨rfl,l,r,rfl,hlr,hrk,hm,hlo,hhi⟩
   have e:l=r:=by lia
   subst e
   exact⟨rfl,l,l,rfl,hrk,hlo,hhi⟩
  case istep =>
   rintro x c st'' _ hxk ⟨rfl,l,r,rfl,hlr,hrk,hm,hlo,hhi⟩
   dsimp only
   by_cases hge:l ≥ r
   ·rw[if_pos hge]
    have e:l=r:=by lia
    subst e
    exact wpS_pure ⟨rfl,l,l,rfl,hrk,hlo,hhi⟩
   ·rw[if_neg hge]
    refine wpS_bind (xe_ h (n'.kind.trans hk) (ha.perm n'.perm) (by lia) (by lia) ?_)
    by_cases hl:kv rk (arrOf st'') (lo+k)<kv rk (arrOf st'') (lo+(l+r) / 2)
    ·simp only[hl,decide_true,if_true]
     refine wpS_pure ⟨rfl,l,(l+r) / 2,rfl,by lia,by lia,by lia,hlo,λi h1 h2=>?_⟩
     exact Ao hl (hs' _ _ (by lia) (by lia) (by lia))
    ·simp only[hl,decide_false,Ay,if_false]
     refine wpS_pure ⟨rfl,(l+r) / 2+1,r,rfl,by lia,by lia,by lia,λi h1=>?_,hhi⟩
     exact Ac (hs' (lo+i) (lo+(l+r) / 2) (by lia) (by lia) (by lia)) (EV.mp hl)
  case ipost =>
   rintro c st'' ⟨rfl,l,r,rfl,hlk,hlo,hhi⟩
   show wpS _ _ _ _ (do moveDown' (lo+k) (lo+l);pure (ForInStep.yield (none,()))) _ _
   rw[moveDown'_eq]
   refine wpS_bind (wpS_modify (wpS_pure ⟨rfl,n'.trans (afj_ (by lia) (by lia) (by lia)),?_⟩))
   rw[show min (k+1) n=k+1 by lia]
   intro i j hi hij hj
   show kv rk (bubble (arrOf st'') (lo+k) (lo+k-(lo+l))) i<=kv rk (bubble (arrOf st'') (lo+k) (lo+k-(lo+l))) j
   rw[v3_ (by lia) (by lia),v3_ (by lia) (by lia),show lo+k-(lo+k-(lo+l))=lo+l by lia]
   have hlo':∀z,lo<=z->z<lo+l->kv rk (arrOf st'') z<=kv rk (arrOf st'') (lo+k):=λz h1 h2=>by
    have:=hlo (z-lo) (by lia)
    rwa [show lo+(z-lo)=z by lia]at this
   have hhi':∀z,lo+l<=z->z<lo+k->kv rk (arrOf st'') (lo+k)<kv rk (arrOf st'') z:=λz h1 h2=>by
    have:=hhi (z-lo) (by lia) (by lia)
    rwa [show lo+(z-lo)=z by lia]at this
   repeat' split
   all_goals first
    |(exfalso;lia)
    |exact AF _
    |exact hlo' _ (by lia) (by lia)
    |exact Bf (hhi' _ (by lia) (by lia))
    |exact hs' _ _ (by lia) (by lia) (by lia)
end
end L2.Ts
namespace L2.Ts
open PySem PyProof.Rows
def xy_:Bool->Keyed->Array Keyed->Nat->Nat->Nat->StateT SortSt Sem (Option Nat):=sortPriv% PySem.Builtin.gallop
section
variable{prog:Program}{w:World}{A:Around}{E:Value->Shared->Prop}{s:Shared}{κ:SortKind}{M:Keyed->Prop}{rk:Keyed->Nat}
def Bd(rk:Keyed->Nat)(left:Bool)(key:Keyed)(arr:Array Keyed)(i:Nat):Prop:=if left=true then kv rk arr i<rk key else kv rk arr i<=rk key
theorem jt_(h:Ask prog w A s κ M rk){left:Bool}{key:Keyed}{arr:Array Keyed}{base n hint:Nat}{st:SortSt}{Q:Option Nat->SortSt->Prop}(hk:kindOf st=κ)(hM:M key)(ha:All M arr)(hz:base+n<=arr.size)(hh:hint<n)
  (hs:Srt rk arr base (base+n)) (q:∀p,p<=n->(∀i,base<=i->i<base+p->Bd rk left key arr i)->(∀i,base+p<=i->i<base+n->¬ Bd rk left key arr i)->Q (some p) st) :
  wpS (model prog w) A E s (xy_ left key arr base n hint) Q st:=by
 have mono:∀i j,base<=i->i<=j->j<base+n->Bd rk left key arr j->Bd rk left key arr i:=λi j h1 h2 h3 b=>by
  have:=hs i j h1 h2 h3
  unfold Bd at b ⊢
  cases left
  ·simp only[Ay,if_false]at b ⊢;lia
  ·simp only[if_true]at b ⊢;lia
 have asks:∀(i:Nat)(R:Option Bool->SortSt->Prop),i<n->(Bd rk left key arr (base+i)->R (some true) st)->(¬ Bd rk left key arr (base+i)->R (some false) st) ->
   wpS (model prog w) A E s (do
    let x <-elem' arr (base+i)
    if left=true then lt' x key else do
     let r <-lt' key x
     pure (r.map λb=>!b)) R st:=by
  intro i R hi r1 r2
  have ei:arr[base+i]?=some arr[base+i]:=AG (by lia)
  refine wpS_bind (qH_ ei ?_)
  have ev:=qA_ (rk:=rk) ei
  cases left
  ·rw[if_neg (by decide)]
   refine wpS_bind (x8_ h hk hM (ha _ _ ei) (wpS_pure ?_))
   by_cases c:rk key<rk arr[base+i]
   ·rw[decide_eq_true c]
    refine r2 λb=>?_
    unfold Bd at b
    rw[if_neg (by decide),ev]at b
    lia
   ·rw[decide_eq_false c]
    refine r1 ?_
    unfold Bd
    rw[if_neg (by decide),ev]
    lia
  ·rw[if_pos rfl]
   refine x8_ h hk (ha _ _ ei) hM ?_
   by_cases c:rk arr[base+i]<rk key
   ·rw[decide_eq_true c]
    refine r1 ?_
    unfold Bd
    rw[if_pos rfl,ev]
    exact c
   ·rw[decide_eq_false c]
    refine r2 λb=>?_
    unfold Bd at b
    rw[if_pos rfl,ev]at b
    exact c b
 have srch:∀(K:Option (Option Nat)×Nat×Nat->StateT SortSt Sem (Option Nat)),(∀l p,K (none,l,p)=pure (some p))->∀lo hi,lo<=hi->hi<=n->(∀i,base<=i->i<base+lo->Bd rk left key arr i)->(∀i,base+hi<=i->i<base+n->¬ Bd rk left key arr i) ->
   ∀body,(∀x l p,body x (none,l,p)=if l ≥ p then pure (ForInStep.done (none,l,p)) else do
    let c <-(do
     let x <-elem' arr (base+(l+(p-l) / 2))
     if left=true then lt' x key else do
      let r <-lt' key x
      pure (r.map λb=>!b))
    match c with
    |some more=>if more=true then pure (ForInStep.yield (none,l+(p-l) / 2+1,p)) else pure (ForInStep.yield (none,l,l+(p-l) / 2))
    |_=>pure (ForInStep.done (some none,l,p))) ->
   wpS (model prog w) A E s (do let r <-forIn [0:n] ((none,lo,hi):Option (Option Nat)×Nat×Nat) body;K r) Q st:=by
  intro K hK lo hi hlh hhn h1 h2 body hb
  refine wpS_bind (wpS_forRange (I:=λx c st'=>st'=st/\∃l p,c=(none,l,p)/\l<=p/\p<=n/\p-l<=n-x/\(∀i,base<=i->i<base+l->Bd rk left key arr i)/\(∀i,base+p<=i->i<base+n->¬ Bd rk left key arr i)) ?step ?fin ⟨rfl,lo,hi,rfl,hlh,hhn,by lia,h1,h2⟩)
  case fin =>
   rintro c st' ⟨rfl,l,p,rfl,a1,a2,a3,a4,a5⟩
   have e:l=p:=by lia
   subst e
   rw[hK]
   exact wpS_pure (q l a2 a4 a5)
  case step =>
   rintro x c st' _ hx ⟨rfl,l,p,rfl,a1,a2,a3,a4,a5⟩
   rw[hb]
   by_cases c:l ≥ p
   ·rw[if_pos c]
    have e:l=p:=by lia
    subst e
    refine wpS_pure ?_
    show wpS _ _ _ _ (K (none,l,l)) Q st'
    rw[hK]
    exact wpS_pure (q l a2 a4 a5)
   ·rw[if_neg c]
    refine wpS_bind (asks _ _ (by lia) (λb=>?_) λb=>?_)
    ·refine wpS_pure ⟨rfl,l+(p-l) / 2+1,p,rfl,by lia,a2,by lia,λi i1 i2=>?_,a5⟩
     exact mono i _ i1 (by lia) (by lia) b
    ·refine wpS_pure ⟨rfl,l,l+(p-l) / 2,rfl,by lia,by lia,by lia,a4,λi i1 i2=>?_⟩
     exact λbi=>b (mono _ i (by lia) i1 i2 bi)
 refine wpS_bind (asks hint _ hh (λb=>?_) λb=>?_)
 ·dsimp only
  rw[if_pos rfl]
  refine wpS_bind (wpS_mono (wpS_forRange (I:=λx c st'=>st'=st/\∃l p,c=(none,l,p)/\l<p/\x<p/\l<n-hint/\Bd rk left key arr (base+(hint+l)))
   (Q:=λc st'=>st'=st/\∃l p,c=(none,l,p)/\l<p/\l<n-hint/\Bd rk left key arr (base+(hint+l))/\(n-hint<=p∨(p<n-hint/\¬ Bd rk left key arr (base+(hint+p))))) ?step ?fin ⟨rfl,0,1,rfl,by lia,by lia,by lia,b⟩) ?post)
  case fin =>
   rintro c st' ⟨rfl,l,p,rfl,a1,a2,a3,a4⟩
   exact⟨rfl,l,p,rfl,a1,a3,a4,.inl (by lia)⟩
  case step =>
   rintro x c st' _ hx ⟨rfl,l,p,rfl,a1,a2,a3,a4⟩
   dsimp only
   by_cases c:p ≥ n-hint
   ·rw[if_pos c]
    exact wpS_pure ⟨rfl,l,p,rfl,a1,a3,a4,.inl c⟩
   ·rw[if_neg c]
    refine wpS_bind (asks _ _ (by lia) (λb=>?_) λb=>?_)
    ·exact wpS_pure ⟨rfl,p,2*p+1,rfl,by lia,by lia,by lia,b⟩
    ·exact wpS_pure ⟨rfl,l,p,rfl,a1,a3,a4,.inr ⟨by lia,b⟩⟩
  case post =>
   rintro c st' ⟨rfl,l,p,rfl,a1,a2,a3,a4⟩
   dsimp only
   refine srch _ (λ_ _=>rfl) _ _ ?_ ?_ (λi i1 i2=>mono i _ i1 (by lia) (by lia) a3) (λi i1 i2 bi=>?_) _ λx l p=>rfl
   ·lia
   ·lia
   ·rcases a4 with a4|⟨a4,a5⟩
    ·lia
    ·exact a5 (mono _ i (by lia) (by lia) i2 bi)
 ·dsimp only
  rw[if_neg (by decide)]
  refine wpS_bind (wpS_mono (wpS_forRange (I:=λx c st'=>st'=st/\∃l p,c=(none,l,p)/\l<p/\x<p/\l<hint+1/\¬ Bd rk left key arr (base+(hint-l)))
   (Q:=λc st'=>st'=st/\∃l p,c=(none,l,p)/\l<p/\l<hint+1/\¬ Bd rk left key arr (base+(hint-l))/\(hint+1<=p∨(p<hint+1/\Bd rk left key arr (base+(hint-p))))) ?step ?fin ⟨rfl,0,1,rfl,by lia,by lia,by lia,b⟩) ?post)
  case fin =>
   rintro c st' ⟨rfl,l,p,rfl,a1,a2,a3,a4⟩
   exact⟨rfl,l,p,rfl,a1,a3,a4,.inl (by lia)⟩
  case step =>
   rintro x c st' _ hx ⟨rfl,l,p,rfl,a1,a2,a3,a4⟩
   dsimp only
   by_cases c:p ≥ hint+1
   ·rw[if_pos c]
    exact wpS_pure ⟨rfl,l,p,rfl,a1,a3,a4,.inl c⟩
   ·rw[if_neg c]
    refine wpS_bind (asks _ _ (by lia) (λb=>?_) λb=>?_)
    ·exact wpS_pure ⟨rfl,l,p,rfl,a1,a3,a4,.inr ⟨by lia,b⟩⟩
    ·exact wpS_pure ⟨rfl,p,2*p+1,rfl,by lia,by lia,by lia,b⟩
  case post =>
   rintro c st' ⟨rfl,l,p,rfl,a1,a2,a3,a4⟩
   dsimp only
   refine srch _ (λ_ _=>rfl) _ _ ?_ ?_ (λi i1 i2=>?_) (λi i1 i2 bi=>a3 (mono _ i (by lia) (by lia) i2 bi)) _ λx l p=>rfl
   ·lia
   ·lia
   ·rcases a4 with a4|⟨a4,a5⟩
    ·lia
    ·exact mono i _ i1 (by lia) (by lia) a5
end
end L2.Ts
namespace L2.Ts
open PySem PyProof.Rows
abbrev Up(rk:Keyed->Nat)(l:List Keyed):Prop:=l.Pairwise λx y=>rk x<=rk y
structure J(rk:Keyed->Nat)(la lb o:List Keyed)(ia ib:Nat):Prop where
 ha:ia<=la.length
 hb:ib<=lb.length
 perm:o.Perm (la.take ia++lb.take ib)
 srt:Up rk o
 ua:∀x∈o,∀y∈la.drop ia,rk x<=rk y
 ub:∀x∈o,∀y∈lb.drop ib,rk x<=rk y
def Good(rk:Keyed->Nat)(la lb r:List Keyed):Prop:=r.Perm (la++lb)/\Up rk r
variable{rk:Keyed->Nat}{la lb o:List Keyed}{ia ib na nb k:Nat}
theorem jb_{α:Type}(l:List α)(i k:Nat):l.drop i=(l.drop i).take k++l.drop (i+k):=by
 rw[<-List.drop_drop]
 exact(BI k (l.drop i)).symm
theorem jZ_{α:Type}(l:List α)(i k:Nat):l.take (i+k)=l.take i++(l.drop i).take k:=List.take_add
theorem Up.drop{l:List Keyed}(h:Up rk l)(i:Nat):Up rk (l.drop i):=h.sublist (List.drop_sublist i l)
theorem Up.take{l:List Keyed}(h:Up rk l)(i:Nat):Up rk (l.take i):=h.sublist (Da i l)
theorem Up.app{l m:List Keyed}(h:Up rk l)(q:Up rk m)(c:∀x∈l,∀y∈m,rk x<=rk y):Up rk (l++m):=CN.mpr ⟨h,q,c⟩
theorem J.a(j:J rk la lb o ia ib)(sa:Up rk la)(hk:ia+k<=la.length)(h:∀x∈(la.drop ia).take k,∀y∈lb.drop ib,rk x<=rk y):J rk la lb (o++(la.drop ia).take k) (ia+k) ib:=by
 have sd:=jb_ la ia k
 have up:=sa.drop ia
 rw[sd]at up
 have cr:=(CN.mp up).2.2
 refine⟨hk,j.hb,?_,j.srt.app ((sa.drop ia).take k) λx hx y hy=>j.ua x hx y (BC hy),λx hx y hy=>?_,λx hx y hy=>?_⟩
 ·rw[jZ_,AY]
  refine(BQ _ j.perm).trans ?_
  rw[AY]
  exact Bg _ Bu
 ·rcases Ai.mp hx with hx|hx
  ·exact j.ua x hx y (by rw[sd];exact Af _ hy)
  ·exact cr x hx y hy
 ·rcases Ai.mp hx with hx|hx
  ·exact j.ub x hx y hy
  ·exact h x hx y hy
theorem J.b(j:J rk la lb o ia ib)(sb:Up rk lb)(hk:ib+k<=lb.length)(h:∀x∈(lb.drop ib).take k,∀y∈la.drop ia,rk x<=rk y):J rk la lb (o++(lb.drop ib).take k) ia (ib+k):=by
 have sd:=jb_ lb ib k
 have up:=sb.drop ib
 rw[sd]at up
 have cr:=(CN.mp up).2.2
 refine⟨j.ha,hk,?_,j.srt.app ((sb.drop ib).take k) λx hx y hy=>j.ub x hx y (BC hy),λx hx y hy=>?_,λx hx y hy=>?_⟩
 ·rw[jZ_,<-AY]
  exact BQ _ j.perm
 ·rcases Ai.mp hx with hx|hx
  ·exact j.ua x hx y hy
  ·exact h x hx y hy
 ·rcases Ai.mp hx with hx|hx
  ·exact j.ub x hx y (by rw[sd];exact Af _ hy)
  ·exact cr x hx y hy
theorem J.all(j:J rk la lb o ia ib):(o++la.drop ia++lb.drop ib).Perm (la++lb):=by
 have e:(la.take ia++lb.take ib++la.drop ia++lb.drop ib).Perm (la++lb):=by
  have e1:(la++lb)=(la.take ia++la.drop ia)++(lb.take ib++lb.drop ib):=by rw[BI,BI]
  rw[e1,AY,AY,AY]
  refine Bg _ ?_
  rw[<-AY,<-AY]
  exact BQ _ Bu
 exact(BQ _ (BQ _ j.perm)).trans e
theorem J.done(j:J rk la lb o ia ib)(sa:Up rk la)(sb:Up rk lb)(h:ia=la.length∨ib=lb.length):Good rk la lb (o++la.drop ia++lb.drop ib):=by
 refine⟨j.all,?_⟩
 rcases h with h|h
 ·rw[h,List.drop_length,BP]
  exact j.srt.app (sb.drop ib) j.ub
 ·rw[h,List.drop_length,BP]
  exact j.srt.app (sa.drop ia) j.ua
theorem J.last(j:J rk la lb o ia ib)(sa:Up rk la)(sb:Up rk lb)(h:∀y∈lb,∀x∈la.drop ia,rk y<=rk x):Good rk la lb (o++lb.drop ib++la.drop ia):=by
 refine⟨?_,(j.srt.app (sb.drop ib) j.ub).app (sa.drop ia) λx hx y hy=>?_⟩
 ·refine List.Perm.trans ?_ j.all
  rw[AY,AY]
  exact Bg _ Bu
 ·rcases Ai.mp hx with hx|hx
  ·exact j.ua x hx y hy
  ·exact h x (EW hx) y hy
structure J2(rk:Keyed->Nat)(la lb o:List Keyed)(na nb:Nat):Prop where
 ha:na<=la.length
 hb:nb<=lb.length
 perm:o.Perm (la.drop na++lb.drop nb)
 srt:Up rk o
 ua:∀x∈la.take na,∀y∈o,rk x<=rk y
 ub:∀x∈lb.take nb,∀y∈o,rk x<=rk y
theorem J2.a(j:J2 rk la lb o (na+k) nb)(sa:Up rk la)(h:∀x∈(la.drop na).take k,∀y∈lb.take nb,rk y<=rk x):J2 rk la lb ((la.drop na).take k++o) na nb:=by
 have sd:=jZ_ la na k
 have up:=sa.take (na+k)
 rw[sd]at up
 have cr:=(CN.mp up).2.2
 have j1:=j.ha
 refine⟨by lia,j.hb,?_,((sa.drop na).take k).app j.srt λx hx y hy=>j.ua x (by rw[sd];exact Af _ hx) y hy,λx hx y hy=>?_,λx hx y hy=>?_⟩
 ·have e:la.drop na++lb.drop nb=(la.drop na).take k++(la.drop (na+k)++lb.drop nb):=by rw[<-AY,<-jb_ la na k]
  rw[e]
  exact Bg _ j.perm
 ·rcases Ai.mp hy with hy|hy
  ·exact cr x hx y hy
  ·exact j.ua x (by rw[sd];exact At _ hx) y hy
 ·rcases Ai.mp hy with hy|hy
  ·exact h y hy x hx
  ·exact j.ub x hx y hy
theorem J2.b(j:J2 rk la lb o na (nb+k))(sb:Up rk lb)(h:∀x∈(lb.drop nb).take k,∀y∈la.take na,rk y<=rk x):J2 rk la lb ((lb.drop nb).take k++o) na nb:=by
 have sd:=jZ_ lb nb k
 have up:=sb.take (nb+k)
 rw[sd]at up
 have cr:=(CN.mp up).2.2
 have j1:=j.hb
 refine⟨j.ha,by lia,?_,((sb.drop nb).take k).app j.srt λx hx y hy=>j.ub x (by rw[sd];exact Af _ hx) y hy,λx hx y hy=>?_,λx hx y hy=>?_⟩
 ·have e:la.drop na++lb.drop nb=la.drop na++(lb.drop nb).take k++lb.drop (nb+k):=by rw[AY,<-jb_ lb nb k]
  rw[e]
  refine(Bg _ j.perm).trans ?_
  rw[<-AY]
  exact BQ _ Bu
 ·rcases Ai.mp hy with hy|hy
  ·exact h y hy x hx
  ·exact j.ua x hx y hy
 ·rcases Ai.mp hy with hy|hy
  ·exact cr x hx y hy
  ·exact j.ub x (by rw[sd];exact At _ hx) y hy
theorem J2.all(j:J2 rk la lb o na nb):(la.take na++lb.take nb++o).Perm (la++lb):=by
 have e:(la.take na++lb.take nb++(la.drop na++lb.drop nb)).Perm (la++lb):=by
  have e1:(la++lb)=(la.take na++la.drop na)++(lb.take nb++lb.drop nb):=by rw[BI,BI]
  rw[e1,AY,AY]
  refine Bg _ ?_
  rw[<-AY,<-AY]
  exact BQ _ Bu
 exact(Bg _ j.perm).trans e
theorem J2.done(j:J2 rk la lb o na nb)(sa:Up rk la)(sb:Up rk lb)(h:na=0∨nb=0):Good rk la lb (la.take na++lb.take nb++o):=by
 refine⟨j.all,?_⟩
 rcases h with h|h
 ·rw[h,CP,Dx]
  exact(sb.take nb).app j.srt j.ub
 ·rw[h,CP,BP]
  exact(sa.take na).app j.srt j.ua
theorem J2.first(j:J2 rk la lb o na nb)(sa:Up rk la)(sb:Up rk lb)(h:∀y∈lb.take nb,∀x∈la,rk y<=rk x):Good rk la lb (lb.take nb++la.take na++o):=by
 refine⟨?_,((sb.take nb).app (sa.take na) λx hx y hy=>h x hx y (BC hy)).app j.srt λx hx y hy=>?_⟩
 ·refine List.Perm.trans ?_ j.all
  exact BQ _ Bu
 ·rcases Ai.mp hx with hx|hx
  ·exact j.ub x hx y hy
  ·exact j.ua x hx y hy
def aj7_:Array Keyed->Array Keyed->StateT SortSt Sem (Array Keyed):=sortPriv% PySem.Builtin.mergeLo
def ail_:Array Keyed->Array Keyed->StateT SortSt Sem (Array Keyed):=sortPriv% PySem.Builtin.mergeHi
structure Gs(st st':SortSt):Prop where
 kind:kindOf st'=kindOf st
 arr:arrOf st'=arrOf st
 pend:pendingOf st'=pendingOf st
 failed:failedOf st'=failedOf st
theorem Gs.refl(st:SortSt):Gs st st:=⟨rfl,rfl,rfl,rfl⟩
theorem Gs.trans{a b c:SortSt}(h:Gs a b)(q:Gs b c):Gs a c:=⟨q.kind.trans h.kind,q.arr.trans h.arr,q.pend.trans h.pend,q.failed.trans h.failed⟩
theorem xz_(st:SortSt)(g:Nat):Gs st (SortSt.mk' (kindOf st) (arrOf st) (pendingOf st) g (failedOf st)):=⟨rfl,rfl,rfl,rfl⟩
theorem jr_{xs:Array Keyed}{i k:Nat}{x:Keyed}(h:x∈(xs.toList.drop i).take k):∃j,i<=j/\j<i+k/\j<xs.size/\kv rk xs j=rk x/\xs[j]?=some x:=by
 obtain⟨m,hm,e⟩:=Ec h
 have l:=hm
 rw[AW,Au,AM]at l
 have e2:xs[i+m]?=some x:=by
  rw[List.getElem_take,List.getElem_drop]at e
  rw[<-e,<-BA]
  exact AJ (by rw[AM];lia)
 exact⟨i+m,by lia,by lia,by lia,qA_ e2,e2⟩
theorem jk_{xs:Array Keyed}{i:Nat}{x:Keyed}(h:x∈xs.toList.drop i):∃j,i<=j/\j<xs.size/\kv rk xs j=rk x:=by
 have h':x∈(xs.toList.drop i).take xs.size:=by
  rw[AU (by rw[Au,AM];lia)]
  exact h
 obtain⟨j,h1,_,h3,h4,_⟩:=jr_ (rk:=rk) h'
 exact⟨j,h1,h3,h4⟩
theorem x5_{xs:Array Keyed}{i:Nat}{x:Keyed}(h:x∈xs.toList.take i):∃j,j<i/\j<xs.size/\kv rk xs j=rk x:=by
 have h':x∈(xs.toList.drop 0).take i:=by rw[CQ];exact h
 obtain⟨j,h1,h2,h3,h4,_⟩:=jr_ (rk:=rk) h'
 exact⟨j,by lia,h3,h4⟩
theorem zy_{xs:Array Keyed}(h:Up rk xs.toList):Srt rk xs 0 xs.size:=λi j _ hij hj=>by
 by_cases e:i=j
 ·subst e;exact AF _
 ·have q:=Bc.mp h i j (by rw[AM];lia) (by rw[AM];lia) (by lia)
  have ei:xs[i]?=some xs[i]:=AG (by lia)
  have ej:xs[j]?=some xs[j]:=AG (by lia)
  rw[qA_ ei,qA_ ej]
  simpa using q
theorem ahs_{xs:Array Keyed}{i k:Nat}(h:Srt rk xs i (i+k))(hz:i+k<=xs.size):Up rk (xs.toList.drop i |>.take k):=by
 refine Bc.mpr λp q hp hq hpq=>?_
 have l:=hq
 rw[AW,Au,AM]at l
 have ep:xs[i+p]?=some xs[i+p]:=AG (by lia)
 have eq:xs[i+q]?=some xs[i+q]:=AG (by lia)
 have r:=h (i+p) (i+q) (by lia) (by lia) (by lia)
 rw[qA_ ep,qA_ eq]at r
 simpa [List.getElem_take,List.getElem_drop]using r
theorem jn_{xs:Array Keyed}{i:Nat}{x:Keyed}(h:xs[i]?=some x):(xs.toList.drop i).take 1=[x]:=by
 obtain⟨hi,e⟩:=Cm.mp h
 have hl:i<xs.toList.length:=by rw[AM];exact hi
 rw[Dd hl,CW,CP]
 rw[Array.getElem_toList,e]
theorem zg_(xs:Array Keyed)(i j:Nat):(xs.extract i j).toList=(xs.toList.drop i).take (j-i):=by
 rw[Array.toList_extract,List.extract_eq_drop_take]
theorem yx_(xs:Array Keyed)(i:Nat):(xs.extract i xs.size).toList=xs.toList.drop i:=by
 rw[zg_,AU (by rw[Au,AM];lia)]
theorem vi_(xs:Array Keyed)(i:Nat):(xs.extract 0 i).toList=xs.toList.take i:=by
 rw[zg_,CQ,Dh]
section
variable{prog:Program}{w:World}{A:Around}{E:Value->Shared->Prop}{s:Shared}{κ:SortKind}{M:Keyed->Prop}
theorem yF_{σ α:Type}{c:Prop}[Decidable c]{x y:StateT σ Sem α}{Q:α->σ->Prop}{st:σ}(h1:c->wpS (model prog w) A E s x Q st)(h2:¬ c->wpS (model prog w) A E s y Q st):wpS (model prog w) A E s (if c then x else y) Q st:=by
 by_cases h:c
 ·rw[if_pos h];exact h1 h
 ·rw[if_neg h];exact h2 h
abbrev LoC:=Option (Array Keyed)×Array Keyed×Nat×Nat×Nat×Nat×Nat
def l3(a b:Array Keyed)(out:Array Keyed)(ia ib g ac bc:Nat):StateT SortSt Sem (ForInStep LoC):=do
 let x <-elem' a ia
 if (ia+1+1==a.size)=true then pure (.done (some (out.push x++b.extract ib b.size++a.extract (ia+1) a.size),out.push x,ia+1,ib,g,ac,bc))
 else if (decide (ac<7)&&decide (bc<7))=true then pure (.done (none,out.push x,ia+1,ib,g,ac,bc))
 else pure (.yield (none,out.push x,ia+1,ib,g,ac,bc))
def l2(a b:Array Keyed)(out:Array Keyed)(ia ib g ac bc0:Nat):StateT SortSt Sem (ForInStep LoC):=do
 let x <-elem' b ib
 if (ib+1==b.size)=true then pure (.done (some (out.push x++a.extract ia a.size++b.extract (ib+1) b.size),out.push x,ia,ib+1,g,ac,bc0))
 else do
  let y <-elem' a ia
  let r <-xy_ true y b (ib+1) (b.size-(ib+1)) 0
  match r with
  |some k =>
   if k>0 then
    if (ib+1+k==b.size)=true then pure (.done (some (out.push x++b.extract (ib+1) (ib+1+k)++a.extract ia a.size++b.extract (ib+1+k) b.size),out.push x++b.extract (ib+1) (ib+1+k),ia,ib+1+k,g,ac,k))
    else l3 a b (out.push x++b.extract (ib+1) (ib+1+k)) ia (ib+1+k) g ac k
   else l3 a b (out.push x) ia (ib+1) g ac k
  |_=>pure (.done (some (out.push x++a.extract ia a.size++b.extract (ib+1) b.size),out.push x,ia,ib+1,g,ac,bc0))
def l1(a b:Array Keyed)(out:Array Keyed)(ia ib g ac0 bc0:Nat):StateT SortSt Sem (ForInStep LoC):=do
 let y <-elem' b ib
 let r <-xy_ false y a ia (a.size-ia) 0
 match r with
 |some k =>
  if k>0 then
   if (ia+k+1==a.size)=true then pure (.done (some (out++a.extract ia (ia+k)++b.extract ib b.size++a.extract (ia+k) a.size),out++a.extract ia (ia+k),ia+k,ib,g,k,bc0))
   else if (ia+k==a.size)=true then pure (.done (some (out++a.extract ia (ia+k)++a.extract (ia+k) a.size++b.extract ib b.size),out++a.extract ia (ia+k),ia+k,ib,g,k,bc0))
   else l2 a b (out++a.extract ia (ia+k)) (ia+k) ib g k bc0
  else l2 a b out ia ib g k bc0
 |_=>pure (.done (some (out++a.extract ia a.size++b.extract ib b.size),out,ia,ib,g,ac0,bc0))
structure MPre(M:Keyed->Prop)(rk:Keyed->Nat)(a b:Array Keyed):Prop where
 ma:All M a
 mb:All M b
 sa:Up rk a.toList
 sb:Up rk b.toList
 za:0<a.size
 zb:0<b.size
 fst:kv rk b 0<kv rk a 0
 lst:∀i,i<b.size->kv rk b i<kv rk a (a.size-1)
variable{a b:Array Keyed}
theorem MPre.done(m:MPre M rk a b){out:Array Keyed}(j:J rk a.toList b.toList out.toList ia ib)(h:ia=a.size∨ib=b.size):Good rk a.toList b.toList (out++a.extract ia a.size++b.extract ib b.size).toList:=by
 rw[BM,BM,yx_,yx_]
 exact j.done m.sa m.sb (by rw[AM,AM];exact h)
theorem MPre.last(m:MPre M rk a b){out:Array Keyed}(j:J rk a.toList b.toList out.toList ia ib)(h:ia+1=a.size):Good rk a.toList b.toList (out++b.extract ib b.size++a.extract ia a.size).toList:=by
 rw[BM,BM,yx_,yx_]
 refine j.last m.sa m.sb λy hy x hx=>?_
 obtain⟨p,p1,p2,p3⟩:=jk_ (rk:=rk) (i:=0) (by rw[CQ];exact hy)
 obtain⟨r,r1,r2,r3⟩:=jk_ (rk:=rk) hx
 have e:r=a.size-1:=by lia
 have:=m.lst p p2
 rw[e]at r3
 lia
theorem MPre.pushA(m:MPre M rk a b){out:Array Keyed}{x:Keyed}(j:J rk a.toList b.toList out.toList ia ib)(hx:a[ia]?=some x)(h:∀i,ib<=i->i<b.size->kv rk a ia<=kv rk b i):J rk a.toList b.toList (out.push x).toList (ia+1) ib:=by
 obtain⟨hi,_⟩:=Cm.mp hx
 have q:=j.a (k:=1) m.sa (by rw[AM];lia) (λz hz y hy=>by
  rw[jn_ hx]at hz
  rw[AT.mp hz]
  obtain⟨r,r1,r2,r3⟩:=jk_ (rk:=rk) hy
  have:=h r r1 r2
  rw[qA_ hx]at this
  lia)
 rw[jn_ hx]at q
 rw[Cf]
 exact q
theorem MPre.pushB(m:MPre M rk a b){out:Array Keyed}{x:Keyed}(j:J rk a.toList b.toList out.toList ia ib)(hx:b[ib]?=some x)(h:∀i,ia<=i->i<a.size->kv rk b ib<=kv rk a i):J rk a.toList b.toList (out.push x).toList ia (ib+1):=by
 obtain⟨hi,_⟩:=Cm.mp hx
 have q:=j.b (k:=1) m.sb (by rw[AM];lia) (λz hz y hy=>by
  rw[jn_ hx]at hz
  rw[AT.mp hz]
  obtain⟨r,r1,r2,r3⟩:=jk_ (rk:=rk) hy
  have:=h r r1 r2
  rw[qA_ hx]at this
  lia)
 rw[jn_ hx]at q
 rw[Cf]
 exact q
theorem MPre.appA(m:MPre M rk a b){out:Array Keyed}(j:J rk a.toList b.toList out.toList ia ib)(hk:ia+k<=a.size)(h:∀p,ia<=p->p<ia+k->∀i,ib<=i->i<b.size->kv rk a p<=kv rk b i):J rk a.toList b.toList (out++a.extract ia (ia+k)).toList (ia+k) ib:=by
 have q:=j.a (k:=k) m.sa (by rw[AM];lia) (λz hz y hy=>by
  obtain⟨p,p1,p2,p3,p4,_⟩:=jr_ (rk:=rk) hz
  obtain⟨r,r1,r2,r3⟩:=jk_ (rk:=rk) hy
  have:=h p p1 p2 r r1 r2
  lia)
 rw[BM,zg_,Dq]
 exact q
theorem MPre.appB(m:MPre M rk a b){out:Array Keyed}(j:J rk a.toList b.toList out.toList ia ib)(hk:ib+k<=b.size)(h:∀p,ib<=p->p<ib+k->∀i,ia<=i->i<a.size->kv rk b p<=kv rk a i):J rk a.toList b.toList (out++b.extract ib (ib+k)).toList ia (ib+k):=by
 have q:=j.b (k:=k) m.sb (by rw[AM];lia) (λz hz y hy=>by
  obtain⟨p,p1,p2,p3,p4,_⟩:=jr_ (rk:=rk) hz
  obtain⟨r,r1,r2,r3⟩:=jk_ (rk:=rk) hy
  have:=h p p1 p2 r r1 r2
  lia)
 rw[BM,zg_,Dq]
 exact q
def LoR(rk:Keyed->Nat)(a b:Array Keyed)(p:Nat)(st:SortSt)(c:LoC)(st':SortSt):Prop:=Gs st st' /\
 ((∃r,c.1=some r/\Good rk a.toList b.toList r.toList)∨(c.1=none/\J rk a.toList b.toList c.2.1.toList c.2.2.1 c.2.2.2.1/\c.2.2.1+1<a.size/\c.2.2.2.1<b.size/\p<=c.2.2.1+c.2.2.2.1))
theorem akm_(m:MPre M rk a b){out:Array Keyed}{g ac bc p:Nat}{st st':SortSt}{R:ForInStep LoC->SortSt->Prop}(gs:Gs st st')(j:J rk a.toList b.toList out.toList ia ib)(h1:ia+1<a.size)(h2:ib<b.size)(hp:p<=ia+ib)
  (h:∀i,ib<=i->i<b.size->kv rk a ia<=kv rk b i) (d:∀c,LoR rk a b p st c st'->R (.done c) st') (y:∀c,c.1=none->LoR rk a b p st c st'->R (.yield c) st'):wpS (model prog w) A E s (l3 a b out ia ib g ac bc) R st':=by
 have ea:a[ia]?=some a[ia]:=AG (by lia)
 refine wpS_bind (qH_ ea ?_)
 have j':=m.pushA j ea h
 by_cases c:ia+1+1=a.size
 ·rw[if_pos (by simpa using c)]
  exact wpS_pure (d _ ⟨gs,.inl ⟨_,rfl,m.last j' c⟩⟩)
 ·rw[if_neg (by simpa using c)]
  have on:LoR rk a b p st (none,out.push a[ia],ia+1,ib,g,ac,bc) st':=⟨gs,.inr ⟨rfl,j',(by show ia+1+1<a.size;lia),h2,(by show p<=ia+1+ib;lia)⟩⟩
  split
  ·exact wpS_pure (d _ on)
  ·exact wpS_pure (y _ rfl on)
theorem ako_(hA:Ask prog w A s κ M rk)(m:MPre M rk a b){out:Array Keyed}{g ac bc p:Nat}{st st':SortSt}{R:ForInStep LoC->SortSt->Prop}(hk:kindOf st=κ)(gs:Gs st st')(j:J rk a.toList b.toList out.toList ia ib)(h1:ia+1<a.size)(h2:ib<b.size)(hp:p<=ia+ib)
  (h:∀i,ia<=i->i<a.size->kv rk b ib<=kv rk a i) (d:∀c,LoR rk a b p st c st'->R (.done c) st') (y:∀c,c.1=none->LoR rk a b p st c st'->R (.yield c) st'):wpS (model prog w) A E s (l2 a b out ia ib g ac bc) R st':=by
 have eb:b[ib]?=some b[ib]:=AG h2
 have ea:a[ia]?=some a[ia]:=AG (by lia)
 refine wpS_bind (qH_ eb ?_)
 have j':=m.pushB j eb h
 by_cases c:ib+1=b.size
 ·rw[if_pos (by simpa using c)]
  exact wpS_pure (d _ ⟨gs,.inl ⟨_,rfl,m.done j' (.inr c)⟩⟩)
 ·rw[if_neg (by simpa using c)]
  refine wpS_bind (qH_ ea (wpS_bind (jt_ hA (gs.kind.trans hk) (m.ma _ _ ea) m.mb (by lia) (by lia) (λi k a1 a2 a3=>zy_ m.sb i k (An _) a2 (by lia)) λk k1 k2 k3=>?_)))
  have sA:=zy_ m.sa
  have lt:∀i,ib+1<=i->i<ib+1+k->kv rk b i<kv rk a ia:=λi i1 i2=>by
   have:=k2 i i1 i2
   unfold Bd at this
   rw[if_pos rfl,<-qA_ (rk:=rk) ea]at this
   exact this
  have ge:∀i,ib+1+k<=i->i<b.size->kv rk a ia<=kv rk b i:=λi i1 i2=>by
   have:=k3 i i1 (by lia)
   unfold Bd at this
   rw[if_pos rfl,<-qA_ (rk:=rk) ea]at this
   lia
  dsimp only
  by_cases k0:k>0
  ·rw[if_pos k0]
   have j2:=m.appB (k:=k) j' (by lia) (λp p1 p2 i i1 i2=>by
    have q1:=lt p p1 p2
    have q2:=sA ia i (An _) i1 i2
    lia)
   by_cases c2:ib+1+k=b.size
   ·rw[if_pos (by simpa using c2)]
    exact wpS_pure (d _ ⟨gs,.inl ⟨_,rfl,m.done j2 (.inr c2)⟩⟩)
   ·rw[if_neg (by simpa using c2)]
    exact akm_ m gs j2 h1 (by lia) (by lia) ge d y
  ·rw[if_neg k0]
   exact akm_ m gs j' h1 (by lia) (by lia) (λi i1 i2=>ge i (by lia) i2) d y
theorem akc_(hA:Ask prog w A s κ M rk)(m:MPre M rk a b){out:Array Keyed}{g ac bc p:Nat}{st st':SortSt}{R:ForInStep LoC->SortSt->Prop}(hk:kindOf st=κ)(gs:Gs st st')(j:J rk a.toList b.toList out.toList ia ib)(h1:ia+1<a.size)(h2:ib<b.size)(hp:p<=ia+ib)
  (d:∀c,LoR rk a b p st c st'->R (.done c) st') (y:∀c,c.1=none->LoR rk a b p st c st'->R (.yield c) st'):wpS (model prog w) A E s (l1 a b out ia ib g ac bc) R st':=by
 have eb:b[ib]?=some b[ib]:=AG h2
 refine wpS_bind (qH_ eb (wpS_bind (jt_ hA (gs.kind.trans hk) (m.mb _ _ eb) m.ma (by lia) (by lia) (λi k a1 a2 a3=>zy_ m.sa i k (An _) a2 (by lia)) λk k1 k2 k3=>?_)))
 have sB:=zy_ m.sb
 have le:∀i,ia<=i->i<ia+k->kv rk a i<=kv rk b ib:=λi i1 i2=>by
  have:=k2 i i1 i2
  unfold Bd at this
  rw[if_neg (by decide),<-qA_ (rk:=rk) eb]at this
  exact this
 have gt:∀i,ia+k<=i->i<a.size->kv rk b ib<=kv rk a i:=λi i1 i2=>by
  have:=k3 i i1 (by lia)
  unfold Bd at this
  rw[if_neg (by decide),<-qA_ (rk:=rk) eb]at this
  lia
 dsimp only
 by_cases k0:k>0
 ·rw[if_pos k0]
  have j2:=m.appA (k:=k) j (by lia) (λp p1 p2 i i1 i2=>by
   have q1:=le p p1 p2
   have q2:=sB ib i (An _) i1 i2
   lia)
  by_cases c:ia+k+1=a.size
  ·rw[if_pos (by simpa using c)]
   exact wpS_pure (d _ ⟨gs,.inl ⟨_,rfl,m.last j2 c⟩⟩)
  rw[if_neg (by simpa using c)]
  by_cases c2:ia+k=a.size
  ·rw[if_pos (by simpa using c2)]
   exact wpS_pure (d _ ⟨gs,.inl ⟨_,rfl,m.done j2 (.inl c2)⟩⟩)
  ·rw[if_neg (by simpa using c2)]
   exact ako_ hA m hk gs j2 (by lia) h2 (by lia) gt d y
 ·rw[if_neg k0]
  exact ako_ hA m hk gs j h1 h2 hp (λi i1 i2=>gt i (by lia) i2) d y
theorem aqd_(hA:Ask prog w A s κ M rk){st:SortSt}{Q:Array Keyed->SortSt->Prop}(hk:kindOf st=κ)(m:MPre M rk a b)
  (q:∀r st',Gs st st'->Good rk a.toList b.toList r.toList->Q r st'):wpS (model prog w) A E s (aj7_ a b) Q st:=by
 refine wpS_bind (wpS_lift (wpAny_rule ⟨rfl,?_⟩))
 have za:=m.za
 have zb:=m.zb
 have eb0:b[0]?=some b[0]:=AG zb
 have sA:=zy_ m.sa
 have sB:=zy_ m.sb
 have j0:J rk a.toList b.toList (#[]:Array Keyed).toList 0 0:=⟨An _,An _,by simp,List.Pairwise.nil,λx hx=>by simp at hx,λx hx=>by simp at hx⟩
 have j1:J rk a.toList b.toList (#[b[0]]:Array Keyed).toList 0 1:=m.pushB j0 eb0 λi i1 i2=>Ac (Bf m.fst) (sA 0 i (An _) i1 i2)
 refine wpS_bind (qH_ eb0 ?_)
 by_cases c1:1=b.size
 ·rw[if_pos (by simpa using c1)]
  exact wpS_pure (q _ st (Gs.refl _) (m.done j1 (.inr c1)))
 rw[if_neg (by simpa using c1)]
 by_cases c2:0+1=a.size
 ·rw[if_pos (by simpa using c2)]
  exact wpS_pure (q _ st (Gs.refl _) (m.last j1 c2))
 rw[if_neg (by simpa using c2)]
 refine wpS_bind (wpS_get ?_)
 refine wpS_bind (wpS_mono (wpS_forRange (I:=λx c st'=>Gs st st'/\c.1=none/\J rk a.toList b.toList c.2.1.toList c.2.2.1 c.2.2.2.1/\c.2.2.1+1<a.size/\c.2.2.2.1<b.size/\x+1<=c.2.2.1+c.2.2.2.1)
  (Q:=λc st'=>Gs st st'/\∃r,c.1=some r/\Good rk a.toList b.toList r.toList) ?step ?fin ⟨Gs.refl _,rfl,j1,by show 0+1<a.size;lia,by show 1<b.size;lia,AF _⟩) ?post)
 case post =>
  rintro⟨c,rest⟩ st' ⟨gs,r,e,g⟩
  have e':c=some r:=e
  subst e'
  exact wpS_pure (q r st' gs g)
 case fin =>
  rintro⟨c,out,ia,ib,g⟩ st' ⟨gs,e,j,h1,h2,h3⟩
  exfalso
  dsimp only at h1 h2 h3
  lia
 case step =>
  rintro x ⟨c,out,ia,ib,g⟩ st' _ hx ⟨gs,e,j,h1,h2,h3⟩
  dsimp only at e j h1 h2 h3
  subst e
  refine wpS_bind (wpS_mono (wpS_forRange (I:=λy c st''=>st''=st'/\c.1=none/\J rk a.toList b.toList c.2.1.toList c.2.2.1 c.2.2.2.1/\c.2.2.1+1<a.size/\c.2.2.2.1<b.size/\x+1+min y 1<=c.2.2.1+c.2.2.2.1)
   (Q:=λc st''=>st''=st'/\((∃r,c.1=some r/\Good rk a.toList b.toList r.toList)∨(c.1=none/\J rk a.toList b.toList c.2.1.toList c.2.2.1 c.2.2.2.1/\c.2.2.1+1<a.size/\c.2.2.2.1<b.size/\x+2<=c.2.2.1+c.2.2.2.1))) ?step1 ?fin1 ⟨rfl,rfl,j,h1,h2,by show x+1+min 0 1<=ia+ib;lia⟩) ?post1)
  case fin1 =>
   rintro⟨c,out,ia,ib,ac,bc⟩ st'' ⟨e1,e,j,h1,h2,h3⟩
   refine⟨e1,.inr ⟨e,j,h1,h2,?_⟩⟩
   dsimp only at h3 ⊢
   lia
  case step1 =>
   rintro y ⟨c,out,ia,ib,ac,bc⟩ st'' _ hy ⟨e1,e,j,h1,h2,h3⟩
   subst e1
   dsimp only at e j h1 h2 h3
   subst e
   have eb:b[ib]?=some b[ib]:=AG h2
   have ea:a[ia]?=some a[ia]:=AG (by lia)
   refine wpS_bind (qH_ eb (wpS_bind (qH_ ea (wpS_bind (x8_ hA (gs.kind.trans hk) (m.mb _ _ eb) (m.ma _ _ ea) ?_)))))
   by_cases c:rk b[ib]<rk a[ia]
   ·rw[decide_eq_true c]
    dsimp only
    rw[if_pos rfl]
    refine wpS_bind (qH_ eb ?_)
    have j':=m.pushB j eb λi i1 i2=>by
     have q1:=sA ia i (An _) i1 i2
     rw[qA_ ea]at q1
     rw[qA_ eb]
     lia
    by_cases c3:ib+1=b.size
    ·rw[if_pos (by simpa using c3)]
     exact wpS_pure ⟨rfl,.inl ⟨_,rfl,m.done j' (.inr c3)⟩⟩
    rw[if_neg (by simpa using c3)]
    split
    ·exact wpS_pure ⟨rfl,.inr ⟨rfl,j',h1,by dsimp only;lia,by dsimp only;lia⟩⟩
    ·exact wpS_pure ⟨rfl,rfl,j',h1,by dsimp only;lia,by dsimp only;lia⟩
   ·rw[decide_eq_false c]
    dsimp only
    rw[if_neg (by decide)]
    refine wpS_bind (qH_ ea ?_)
    have j':=m.pushA j ea λi i1 i2=>by
     have q1:=sB ib i (An _) i1 i2
     rw[qA_ eb]at q1
     rw[qA_ ea]
     lia
    by_cases c3:ia+1+1=a.size
    ·rw[if_pos (by simpa using c3)]
     exact wpS_pure ⟨rfl,.inl ⟨_,rfl,m.last j' c3⟩⟩
    rw[if_neg (by simpa using c3)]
    split
    ·exact wpS_pure ⟨rfl,.inr ⟨rfl,j',by dsimp only;lia,h2,by dsimp only;lia⟩⟩
    ·exact wpS_pure ⟨rfl,rfl,j',by dsimp only;lia,h2,by dsimp only;lia⟩
  case post1 =>
   rintro⟨c,out,ia,ib,ac,bc⟩ st'' ⟨e1,h⟩
   subst e1
   rcases h with⟨r,e,g1⟩|⟨e,j,h1,h2,h3⟩
   ·have e':c=some r:=e
    subst e'
    exact wpS_pure ⟨gs,r,rfl,g1⟩
   ·dsimp only at e j h1 h2 h3
    subst e
    refine wpS_bind (wpS_lift (wpAny_rule ⟨rfl,?_⟩))
    refine wpS_bind (wpS_mono (wpS_forRange (I:=λ_ c st3=>c.1=none/\LoR rk a b (x+2) st c st3) (Q:=λc st3=>LoR rk a b (x+2) st c st3) ?step2 ?fin2 ⟨rfl,gs,.inr ⟨rfl,j,h1,h2,h3⟩⟩) ?post2)
    case fin2 =>
     rintro c st3 ⟨_,hc⟩
     exact hc
    case step2 =>
     rintro y ⟨c,out,ia,ib,g2,ac,bc⟩ st3 _ hy ⟨e,gs3,hc⟩
     have e':c=none:=e
     subst e'
     rcases hc with⟨r,er,_⟩|⟨_,j,h1,h2,h3⟩
     ·cases er
     dsimp only at j h1 h2 h3
     refine yF_ (λ_=>?_) (λ_=>?_)
     ·refine wpS_bind (wpS_modify ?_)
      exact akc_ hA m hk (gs3.trans (xz_ st3 (g2-1))) j h1 h2 h3 (λc hc=>hc) (λc e hc=>⟨e,hc⟩)
     ·refine wpS_bind (wpS_modify ?_)
      exact akc_ hA m hk (gs3.trans (xz_ st3 g2)) j h1 h2 h3 (λc hc=>hc) (λc e hc=>⟨e,hc⟩)
    case post2 =>
     rintro⟨c,out,ia,ib,g2,ac,bc⟩ st3 ⟨gs3,hc⟩
     rcases hc with⟨r,er,g3⟩|⟨er,j,h1,h2,h3⟩
     ·have e':c=some r:=er
      subst e'
      exact wpS_pure ⟨gs3,r,rfl,g3⟩
     ·have e':c=none:=er
      subst e'
      dsimp only at j h1 h2 h3 ⊢
      refine wpS_bind (wpS_modify (wpS_pure ⟨gs3.trans (xz_ st3 (g2+1)),rfl,j,h1,h2,by dsimp only;lia⟩))
end
end L2.Ts
namespace L2.Ts
open PySem PyProof.Rows
section
variable{rk:Keyed->Nat}{na nb k:Nat}{prog:Program}{w:World}{A:Around}{E:Value->Shared->Prop}{s:Shared}{κ:SortKind}{M:Keyed->Prop}
abbrev HiC:=Option (Array Keyed)×Nat×Nat×Array Keyed×Nat×Nat×Nat
def r3(a b:Array Keyed)(out:Array Keyed)(na nb g ac bc:Nat):StateT SortSt Sem (ForInStep HiC):=do
 let x <-elem' a (na-1)
 if (na-1==0)=true then pure (.done (some (a.extract 0 (na-1)++b.extract 0 nb++(out.push x).reverse),na-1,nb,out.push x,g,ac,bc))
 else if (decide (ac<7)&&decide (bc<7))=true then pure (.done (none,na-1,nb,out.push x,g,ac,bc))
 else pure (.yield (none,na-1,nb,out.push x,g,ac,bc))
def r2(a b:Array Keyed)(out:Array Keyed)(na nb g ac bc0:Nat):StateT SortSt Sem (ForInStep HiC):=do
 let x <-elem' b (nb-1)
 if (nb-1==1)=true then pure (.done (some (b.extract 0 (nb-1)++a.extract 0 na++(out.push x).reverse),na,nb-1,out.push x,g,ac,bc0))
 else do
  let y <-elem' a (na-1)
  let r <-xy_ true y b 0 (nb-1) (nb-1-1)
  match r with
  |some p =>
   if nb-1-p>0 then
    if (p==1)=true then pure (.done (some (b.extract 0 p++a.extract 0 na++(out.push x++(b.extract p (nb-1)).reverse).reverse),na,p,out.push x++(b.extract p (nb-1)).reverse,g,ac,nb-1-p))
    else if (p==0)=true then pure (.done (some (a.extract 0 na++b.extract 0 p++(out.push x++(b.extract p (nb-1)).reverse).reverse),na,p,out.push x++(b.extract p (nb-1)).reverse,g,ac,nb-1-p))
    else r3 a b (out.push x++(b.extract p (nb-1)).reverse) na p g ac (nb-1-p)
   else r3 a b (out.push x) na (nb-1) g ac (nb-1-p)
  |_=>pure (.done (some (a.extract 0 na++b.extract 0 (nb-1)++(out.push x).reverse),na,nb-1,out.push x,g,ac,bc0))
def r1(a b:Array Keyed)(out:Array Keyed)(na nb g ac0 bc0:Nat):StateT SortSt Sem (ForInStep HiC):=do
 let y <-elem' b (nb-1)
 let r <-xy_ false y a 0 na (na-1)
 match r with
 |some p =>
  if na-p>0 then
   if (p==0)=true then pure (.done (some (a.extract 0 p++b.extract 0 nb++(out++(a.extract p na).reverse).reverse),p,nb,out++(a.extract p na).reverse,g,na-p,bc0))
   else r2 a b (out++(a.extract p na).reverse) p nb g (na-p) bc0
  else r2 a b out na nb g (na-p) bc0
 |_=>pure (.done (some (a.extract 0 na++b.extract 0 nb++out.reverse),na,nb,out,g,ac0,bc0))
variable{a b:Array Keyed}
theorem MPre.done2(m:MPre M rk a b){out:Array Keyed}(j:J2 rk a.toList b.toList out.toList.reverse na nb)(h:na=0∨nb=0):Good rk a.toList b.toList (a.extract 0 na++b.extract 0 nb++out.reverse).toList:=by
 rw[BM,BM,vi_,vi_,B7]
 exact j.done m.sa m.sb h
theorem MPre.first2(m:MPre M rk a b){out:Array Keyed}(j:J2 rk a.toList b.toList out.toList.reverse na nb)(h:nb=1):Good rk a.toList b.toList (b.extract 0 nb++a.extract 0 na++out.reverse).toList:=by
 rw[BM,BM,vi_,vi_,B7]
 refine j.first m.sa m.sb λy hy x hx=>?_
 obtain⟨p,p1,p2,p3⟩:=x5_ (rk:=rk) hy
 obtain⟨r,r1,r2,r3⟩:=jk_ (rk:=rk) (i:=0) (by rw[CQ];exact hx)
 have e:p=0:=by lia
 have:=m.fst
 have:=zy_ m.sa 0 r (AF _) (An _) r2
 rw[e]at p3
 lia
theorem MPre.pushA2(m:MPre M rk a b){out:Array Keyed}{x:Keyed}(j:J2 rk a.toList b.toList out.toList.reverse na nb)(h1:0<na)(hx:a[na-1]?=some x)(h:∀i,i<nb->i<b.size->kv rk b i<=kv rk a (na-1)):J2 rk a.toList b.toList (out.push x).toList.reverse (na-1) nb:=by
 have e:na-1+1=na:=by lia
 rw[<-e]at j
 have q:=j.a (k:=1) m.sa (λz hz y hy=>by
  rw[jn_ hx]at hz
  rw[AT.mp hz]
  obtain⟨r,r1,r2,r3⟩:=x5_ (rk:=rk) hy
  have:=h r r1 r2
  rw[qA_ hx]at this
  lia)
 rw[jn_ hx]at q
 rw[Cf,Co]
 exact q
theorem MPre.pushB2(m:MPre M rk a b){out:Array Keyed}{x:Keyed}(j:J2 rk a.toList b.toList out.toList.reverse na nb)(h1:0<nb)(hx:b[nb-1]?=some x)(h:∀i,i<na->i<a.size->kv rk a i<=kv rk b (nb-1)):J2 rk a.toList b.toList (out.push x).toList.reverse na (nb-1):=by
 have e:nb-1+1=nb:=by lia
 rw[<-e]at j
 have q:=j.b (k:=1) m.sb (λz hz y hy=>by
  rw[jn_ hx]at hz
  rw[AT.mp hz]
  obtain⟨r,r1,r2,r3⟩:=x5_ (rk:=rk) hy
  have:=h r r1 r2
  rw[qA_ hx]at this
  lia)
 rw[jn_ hx]at q
 rw[Cf,Co]
 exact q
theorem MPre.appA2(m:MPre M rk a b){out:Array Keyed}{p:Nat}(j:J2 rk a.toList b.toList out.toList.reverse na nb)(hp:p<=na)(h:∀r,p<=r->r<na->∀i,i<nb->i<b.size->kv rk b i<=kv rk a r):J2 rk a.toList b.toList (out++(a.extract p na).reverse).toList.reverse p nb:=by
 have e:p+(na-p)=na:=by lia
 rw[<-e]at j
 have q:=j.a (k:=na-p) m.sa (λz hz y hy=>by
  obtain⟨r,r1,r2,r3,r4,_⟩:=jr_ (rk:=rk) hz
  obtain⟨i,i1,i2,i3⟩:=x5_ (rk:=rk) hy
  have:=h r r1 (by lia) i i1 i2
  lia)
 rw[BM,B7,Co,Ci,zg_]
 exact q
theorem MPre.appB2(m:MPre M rk a b){out:Array Keyed}{p:Nat}(j:J2 rk a.toList b.toList out.toList.reverse na nb)(hp:p<=nb)(h:∀r,p<=r->r<nb->∀i,i<na->i<a.size->kv rk a i<=kv rk b r):J2 rk a.toList b.toList (out++(b.extract p nb).reverse).toList.reverse na p:=by
 have e:p+(nb-p)=nb:=by lia
 rw[<-e]at j
 have q:=j.b (k:=nb-p) m.sb (λz hz y hy=>by
  obtain⟨r,r1,r2,r3,r4,_⟩:=jr_ (rk:=rk) hz
  obtain⟨i,i1,i2,i3⟩:=x5_ (rk:=rk) hy
  have:=h r r1 (by lia) i i1 i2
  lia)
 rw[BM,B7,Co,Ci,zg_]
 exact q
def HiR(rk:Keyed->Nat)(a b:Array Keyed)(p:Nat)(st:SortSt)(c:HiC)(st':SortSt):Prop:=Gs st st' /\
 ((∃r,c.1=some r/\Good rk a.toList b.toList r.toList)∨(c.1=none/\J2 rk a.toList b.toList c.2.2.2.1.toList.reverse c.2.1 c.2.2.1/\1<=c.2.1/\2<=c.2.2.1/\p+c.2.1+c.2.2.1<=a.size+b.size))
theorem J2.za(j:J2 rk a.toList b.toList o na nb):na<=a.size:=by have:=j.ha;rwa [AM]at this
theorem J2.zb(j:J2 rk a.toList b.toList o na nb):nb<=b.size:=by have:=j.hb;rwa [AM]at this
theorem akl_(m:MPre M rk a b){out:Array Keyed}{g ac bc p:Nat}{st st':SortSt}{R:ForInStep HiC->SortSt->Prop}(gs:Gs st st')(j:J2 rk a.toList b.toList out.toList.reverse na nb)(h1:1<=na)(h2:2<=nb)(hp:p+na+nb<=a.size+b.size)
  (h:∀i,i<nb->i<b.size->kv rk b i<=kv rk a (na-1)) (d:∀c,HiR rk a b p st c st'->R (.done c) st') (y:∀c,c.1=none->HiR rk a b p st c st'->R (.yield c) st'):wpS (model prog w) A E s (r3 a b out na nb g ac bc) R st':=by
 have z:=j.za
 have ea:a[na-1]?=some a[na-1]:=AG (by lia)
 refine wpS_bind (qH_ ea ?_)
 have j':=m.pushA2 j h1 ea h
 by_cases c:na-1=0
 ·rw[if_pos (by simpa using c)]
  exact wpS_pure (d _ ⟨gs,.inl ⟨_,rfl,m.done2 j' (.inl c)⟩⟩)
 ·rw[if_neg (by simpa using c)]
  have on:HiR rk a b p st (none,na-1,nb,out.push a[na-1],g,ac,bc) st':=⟨gs,.inr ⟨rfl,j',(by show 1<=na-1;lia),h2,(by show p+(na-1)+nb<=a.size+b.size;lia)⟩⟩
  split
  ·exact wpS_pure (d _ on)
  ·exact wpS_pure (y _ rfl on)
theorem akj_(hA:Ask prog w A s κ M rk)(m:MPre M rk a b){out:Array Keyed}{g ac bc p:Nat}{st st':SortSt}{R:ForInStep HiC->SortSt->Prop}(hk:kindOf st=κ)(gs:Gs st st')(j:J2 rk a.toList b.toList out.toList.reverse na nb)(h1:1<=na)(h2:2<=nb)(hp:p+na+nb<=a.size+b.size)
  (h:∀i,i<na->i<a.size->kv rk a i<=kv rk b (nb-1)) (d:∀c,HiR rk a b p st c st'->R (.done c) st') (y:∀c,c.1=none->HiR rk a b p st c st'->R (.yield c) st'):wpS (model prog w) A E s (r2 a b out na nb g ac bc) R st':=by
 have z:=j.za
 have z2:=j.zb
 have ea:a[na-1]?=some a[na-1]:=AG (by lia)
 have eb:b[nb-1]?=some b[nb-1]:=AG (by lia)
 refine wpS_bind (qH_ eb ?_)
 have j':=m.pushB2 j (by lia) eb h
 by_cases c:nb-1=1
 ·rw[if_pos (by simpa using c)]
  exact wpS_pure (d _ ⟨gs,.inl ⟨_,rfl,m.first2 j' c⟩⟩)
 ·rw[if_neg (by simpa using c)]
  refine wpS_bind (qH_ ea (wpS_bind (jt_ hA (gs.kind.trans hk) (m.ma _ _ ea) m.mb (by lia) (by lia) (λi k a1 a2 a3=>zy_ m.sb i k (An _) a2 (by lia)) λr k1 k2 k3=>?_)))
  have sA:=zy_ m.sa
  have lt:∀i,i<r->kv rk b i<kv rk a (na-1):=λi i2=>by
   have:=k2 i (An _) (by lia)
   unfold Bd at this
   rw[if_pos rfl,<-qA_ (rk:=rk) ea]at this
   exact this
  have ge:∀i,r<=i->i<nb-1->kv rk a (na-1)<=kv rk b i:=λi i1 i2=>by
   have:=k3 i (by lia) (by lia)
   unfold Bd at this
   rw[if_pos rfl,<-qA_ (rk:=rk) ea]at this
   lia
  dsimp only
  by_cases k0:nb-1-r>0
  ·rw[if_pos k0]
   have j2:=m.appB2 (p:=r) j' (by lia) (λq q1 q2 i i1 i2=>by
    have e1:=ge q q1 q2
    have e2:=sA i (na-1) (An _) (by lia) (by lia)
    lia)
   by_cases c2:r=1
   ·rw[if_pos (by simpa using c2)]
    exact wpS_pure (d _ ⟨gs,.inl ⟨_,rfl,m.first2 j2 c2⟩⟩)
   rw[if_neg (by simpa using c2)]
   by_cases c3:r=0
   ·rw[if_pos (by simpa using c3)]
    exact wpS_pure (d _ ⟨gs,.inl ⟨_,rfl,m.done2 j2 (.inr c3)⟩⟩)
   ·rw[if_neg (by simpa using c3)]
    exact akl_ m gs j2 h1 (by lia) (by lia) (λi i1 i2=>Bf (lt i i1)) d y
  ·rw[if_neg k0]
   exact akl_ m gs j' h1 (by lia) (by lia) (λi i1 i2=>Bf (lt i (by lia))) d y
theorem akh_(hA:Ask prog w A s κ M rk)(m:MPre M rk a b){out:Array Keyed}{g ac bc p:Nat}{st st':SortSt}{R:ForInStep HiC->SortSt->Prop}(hk:kindOf st=κ)(gs:Gs st st')(j:J2 rk a.toList b.toList out.toList.reverse na nb)(h1:1<=na)(h2:2<=nb)(hp:p+na+nb<=a.size+b.size)
  (d:∀c,HiR rk a b p st c st'->R (.done c) st') (y:∀c,c.1=none->HiR rk a b p st c st'->R (.yield c) st'):wpS (model prog w) A E s (r1 a b out na nb g ac bc) R st':=by
 have z:=j.za
 have z2:=j.zb
 have eb:b[nb-1]?=some b[nb-1]:=AG (by lia)
 refine wpS_bind (qH_ eb (wpS_bind (jt_ hA (gs.kind.trans hk) (m.mb _ _ eb) m.ma (by lia) (by lia) (λi k a1 a2 a3=>zy_ m.sa i k (An _) a2 (by lia)) λr k1 k2 k3=>?_)))
 have sB:=zy_ m.sb
 have le:∀i,i<r->kv rk a i<=kv rk b (nb-1):=λi i2=>by
  have:=k2 i (An _) (by lia)
  unfold Bd at this
  rw[if_neg (by decide),<-qA_ (rk:=rk) eb]at this
  exact this
 have gt:∀i,r<=i->i<na->kv rk b (nb-1)<=kv rk a i:=λi i1 i2=>by
  have:=k3 i (by lia) (by lia)
  unfold Bd at this
  rw[if_neg (by decide),<-qA_ (rk:=rk) eb]at this
  lia
 dsimp only
 by_cases k0:na-r>0
 ·rw[if_pos k0]
  have j2:=m.appA2 (p:=r) j (by lia) (λq q1 q2 i i1 i2=>by
   have e1:=gt q q1 q2
   have e2:=sB i (nb-1) (An _) (by lia) (by lia)
   lia)
  by_cases c:r=0
  ·rw[if_pos (by simpa using c)]
   exact wpS_pure (d _ ⟨gs,.inl ⟨_,rfl,m.done2 j2 (.inl c)⟩⟩)
  ·rw[if_neg (by simpa using c)]
   exact akj_ hA m hk gs j2 (by lia) h2 (by lia) (λi i1 i2=>le i i1) d y
 ·rw[if_neg k0]
  exact akj_ hA m hk gs j h1 h2 hp (λi i1 i2=>le i (by lia)) d y
theorem aqn_(hA:Ask prog w A s κ M rk){st:SortSt}{Q:Array Keyed->SortSt->Prop}(hk:kindOf st=κ)(m:MPre M rk a b)
  (q:∀r st',Gs st st'->Good rk a.toList b.toList r.toList->Q r st'):wpS (model prog w) A E s (ail_ a b) Q st:=by
 refine wpS_bind (wpS_lift (wpAny_rule ⟨rfl,?_⟩))
 have za:=m.za
 have zb:=m.zb
 have ea0:a[a.size-1]?=some a[a.size-1]:=AG (by lia)
 have sA:=zy_ m.sa
 have sB:=zy_ m.sb
 have j0:J2 rk a.toList b.toList (#[]:Array Keyed).toList.reverse a.size b.size:=⟨by rw[AM];exact AF _,by rw[AM];exact AF _,by simp [Bb],List.Pairwise.nil,λx hx y hy=>by simp at hy,λx hx y hy=>by simp at hy⟩
 have j1:J2 rk a.toList b.toList (#[a[a.size-1]]:Array Keyed).toList.reverse (a.size-1) b.size:=m.pushA2 j0 za ea0 λi i1 i2=>Bf (m.lst i i2)
 refine wpS_bind (qH_ ea0 ?_)
 by_cases c1:a.size-1=0
 ·rw[if_pos (by simpa using c1)]
  exact wpS_pure (q _ st (Gs.refl _) (m.done2 j1 (.inl c1)))
 rw[if_neg (by simpa using c1)]
 by_cases c2:b.size=1
 ·rw[if_pos (by simpa using c2)]
  exact wpS_pure (q _ st (Gs.refl _) (m.first2 j1 c2))
 rw[if_neg (by simpa using c2)]
 refine wpS_bind (wpS_get ?_)
 refine wpS_bind (wpS_mono (wpS_forRange (I:=λx c st'=>Gs st st'/\c.1=none/\J2 rk a.toList b.toList c.2.2.2.1.toList.reverse c.2.1 c.2.2.1/\1<=c.2.1/\2<=c.2.2.1/\x+1+c.2.1+c.2.2.1<=a.size+b.size)
  (Q:=λc st'=>Gs st st'/\∃r,c.1=some r/\Good rk a.toList b.toList r.toList) ?step ?fin ⟨Gs.refl _,rfl,j1,by show 1<=a.size-1;lia,by show 2<=b.size;lia,by show 0+1+(a.size-1)+b.size<=a.size+b.size;lia⟩) ?post)
 case post =>
  rintro⟨c,rest⟩ st' ⟨gs,r,e,g⟩
  have e':c=some r:=e
  subst e'
  exact wpS_pure (q r st' gs g)
 case fin =>
  rintro⟨c,na,nb,out,g⟩ st' ⟨gs,e,j,h1,h2,h3⟩
  exfalso
  dsimp only at h1 h2 h3
  lia
 case step =>
  rintro x ⟨c,na,nb,out,g⟩ st' _ hx ⟨gs,e,j,h1,h2,h3⟩
  dsimp only at e j h1 h2 h3
  subst e
  refine wpS_bind (wpS_mono (wpS_forRange (I:=λy c st''=>st''=st'/\c.1=none/\J2 rk a.toList b.toList c.2.2.2.1.toList.reverse c.2.1 c.2.2.1/\1<=c.2.1/\2<=c.2.2.1/\x+1+min y 1+c.2.1+c.2.2.1<=a.size+b.size)
   (Q:=λc st''=>st''=st'/\((∃r,c.1=some r/\Good rk a.toList b.toList r.toList)∨(c.1=none/\J2 rk a.toList b.toList c.2.2.2.1.toList.reverse c.2.1 c.2.2.1/\1<=c.2.1/\2<=c.2.2.1/\x+2+c.2.1+c.2.2.1<=a.size+b.size))) ?step1 ?fin1 ⟨rfl,rfl,j,h1,h2,by show x+1+min 0 1+na+nb<=a.size+b.size;lia⟩) ?post1)
  case fin1 =>
   rintro⟨c,na,nb,out,ac,bc⟩ st'' ⟨e1,e,j,h1,h2,h3⟩
   refine⟨e1,.inr ⟨e,j,h1,h2,?_⟩⟩
   dsimp only at h3 ⊢
   lia
  case step1 =>
   rintro y ⟨c,na,nb,out,ac,bc⟩ st'' _ hy ⟨e1,e,j,h1,h2,h3⟩
   subst e1
   dsimp only at e j h1 h2 h3
   subst e
   have z:=j.za
   have z2:=j.zb
   have eb:b[nb-1]?=some b[nb-1]:=AG (by lia)
   have ea:a[na-1]?=some a[na-1]:=AG (by lia)
   refine wpS_bind (qH_ eb (wpS_bind (qH_ ea (wpS_bind (x8_ hA (gs.kind.trans hk) (m.mb _ _ eb) (m.ma _ _ ea) ?_)))))
   by_cases c:rk b[nb-1]<rk a[na-1]
   ·rw[decide_eq_true c]
    dsimp only
    rw[if_pos rfl]
    refine wpS_bind (qH_ ea ?_)
    have j':=m.pushA2 j h1 ea λi i1 i2=>by
     have q1:=sB i (nb-1) (An _) (by lia) (by lia)
     rw[qA_ eb]at q1
     rw[qA_ ea]
     lia
    by_cases c3:na-1=0
    ·rw[if_pos (by simpa using c3)]
     exact wpS_pure ⟨rfl,.inl ⟨_,rfl,m.done2 j' (.inl c3)⟩⟩
    rw[if_neg (by simpa using c3)]
    split
    ·exact wpS_pure ⟨rfl,.inr ⟨rfl,j',by dsimp only;lia,h2,by dsimp only;lia⟩⟩
    ·exact wpS_pure ⟨rfl,rfl,j',by dsimp only;lia,h2,by dsimp only;lia⟩
   ·rw[decide_eq_false c]
    dsimp only
    rw[if_neg (by decide)]
    refine wpS_bind (qH_ eb ?_)
    have j':=m.pushB2 j (by lia) eb λi i1 i2=>by
     have q1:=sA i (na-1) (An _) (by lia) (by lia)
     rw[qA_ ea]at q1
     rw[qA_ eb]
     lia
    by_cases c3:nb-1=1
    ·rw[if_pos (by simpa using c3)]
     exact wpS_pure ⟨rfl,.inl ⟨_,rfl,m.first2 j' c3⟩⟩
    rw[if_neg (by simpa using c3)]
    split
    ·exact wpS_pure ⟨rfl,.inr ⟨rfl,j',h1,by dsimp only;lia,by dsimp only;lia⟩⟩
    ·exact wpS_pure ⟨rfl,rfl,j',h1,by dsimp only;lia,by dsimp only;lia⟩
  case post1 =>
   rintro⟨c,na,nb,out,ac,bc⟩ st'' ⟨e1,h⟩
   subst e1
   rcases h with⟨r,e,g1⟩|⟨e,j,h1,h2,h3⟩
   ·have e':c=some r:=e
    subst e'
    exact wpS_pure ⟨gs,r,rfl,g1⟩
   ·dsimp only at e j h1 h2 h3
    subst e
    refine wpS_bind (wpS_lift (wpAny_rule ⟨rfl,?_⟩))
    refine wpS_bind (wpS_mono (wpS_forRange (I:=λ_ c st3=>c.1=none/\HiR rk a b (x+2) st c st3) (Q:=λc st3=>HiR rk a b (x+2) st c st3) ?step2 ?fin2 ⟨rfl,gs,.inr ⟨rfl,j,h1,h2,h3⟩⟩) ?post2)
    case fin2 =>
     rintro c st3 ⟨_,hc⟩
     exact hc
    case step2 =>
     rintro y ⟨c,na,nb,out,g2,ac,bc⟩ st3 _ hy ⟨e,gs3,hc⟩
     have e':c=none:=e
     subst e'
     rcases hc with⟨r,er,_⟩|⟨_,j,h1,h2,h3⟩
     ·cases er
     dsimp only at j h1 h2 h3
     refine yF_ (λ_=>?_) (λ_=>?_)
     ·refine wpS_bind (wpS_modify ?_)
      exact akh_ hA m hk (gs3.trans (xz_ st3 (g2-1))) j h1 h2 h3 (λc hc=>hc) (λc e hc=>⟨e,hc⟩)
     ·refine wpS_bind (wpS_modify ?_)
      exact akh_ hA m hk (gs3.trans (xz_ st3 g2)) j h1 h2 h3 (λc hc=>hc) (λc e hc=>⟨e,hc⟩)
    case post2 =>
     rintro⟨c,na,nb,out,g2,ac,bc⟩ st3 ⟨gs3,hc⟩
     rcases hc with⟨r,er,g3⟩|⟨er,j,h1,h2,h3⟩
     ·have e':c=some r:=er
      subst e'
      exact wpS_pure ⟨gs3,r,rfl,g3⟩
     ·have e':c=none:=er
      subst e'
      dsimp only at j h1 h2 h3 ⊢
      refine wpS_bind (wpS_modify (wpS_pure ⟨gs3.trans (xz_ st3 (g2+1)),rfl,j,h1,h2,by dsimp only;lia⟩))
end
end L2.Ts
namespace L2.Ts
open PySem PyProof.Rows
abbrev Run:=Nat×Nat×Nat
theorem afq_{α:Type}{L R:List α}{x y z:α}{p:Array α}(hp:p.toList=L++x::y::R):((p.setIfInBounds L.length z).eraseIdxIfInBounds (L.length+1)).toList=L++z::R:=by
 have hz:p.size=L.length+2+R.length:=by rw[<-AM,hp];simp;lia
 rw[Array.eraseIdxIfInBounds]
 rw[dif_pos (by rw[Cu];lia),Array.toList_eraseIdx,Array.toList_setIfInBounds,hp]
 rw[EG _ _ (AF _),Ei,List.set_cons_zero,List.eraseIdx_append_of_length_le (by lia),show L.length+1-L.length=1 by lia]
 rfl
theorem abm_(o:Nat):∀(l:List Keyed)(n:Nat)(xs:Array Keyed),o+n+l.length<=xs.size->∀k:Nat,
  ((l.zipIdx n).foldl (λa (x:Keyed×Nat)=>a.setIfInBounds (o+x.2) x.1) xs)[k]?=if o+n<=k/\k<o+n+l.length then l[k-(o+n)]? else xs[k]?
 |[],n,xs,_,k=>by
  rw[if_neg (by simp)];rfl
 |x::l,n,xs,h,k=>by
  rw[Am]at h
  rw[Di,BY,abm_ o l (n+1) _ (by rw[Cu];lia) k,Am]
  by_cases c:o+(n+1)<=k/\k<o+(n+1)+l.length
  ·rw[if_pos c,if_pos (by lia),show k-(o+n)=(k-(o+(n+1)))+1 by lia,List.getElem?_cons_succ]
  ·rw[if_neg c]
   by_cases c2:k=o+n
   ·subst c2
    rw[if_pos (by lia),Ei,List.getElem?_cons_zero,Array.getElem?_setIfInBounds_self_of_lt (by lia)]
   ·rw[if_neg (by lia),Array.getElem?_setIfInBounds_ne (by lia)]
theorem vj_{rk:Keyed->Nat}{xs:Array Keyed}{i j m:Nat}(h:i+m<j):kv rk (xs.extract i j) m=kv rk xs (i+m):=by
 refine zm_ ?_
 rw[D6]
 by_cases c:m<min j xs.size-i
 ·rw[if_pos c]
 ·rw[if_neg c,Bo (by lia)]
theorem ale_{σ:Type}{M:Model}{A:Around}{E:Value->Shared->Prop}{s:Shared}{x:σ}{Q:PUnit->σ->Prop}{st:σ}(h:Q ⟨⟩ x):wpS M A E s (set x:StateT σ Sem PUnit) Q st:=by
 unfold wpS
 rw[StateT.run_set]
 exact wpAny_pure ⟨rfl,h⟩
section
variable{rk:Keyed->Nat}{prog:Program}{w:World}{A:Around}{E:Value->Shared->Prop}{s:Shared}{κ:SortKind}{M:Keyed->Prop}
theorem apj_(h:Ask prog w A s κ M rk){st:SortSt}{Q:Bool->SortSt->Prop}(hk:kindOf st=κ)(ha:All M (arrOf st))(hf:failedOf st=none){L R:List Run}{sa na pa sb nb pb:Nat}(hp:(pendingOf st).toList=L++(sa,na,pa)::(sb,nb,pb)::R)
  (e:sb=sa+na) (h1:1<=na) (h2:1<=nb) (hz:sb+nb<=(arrOf st).size) (s1:Srt rk (arrOf st) sa (sa+na)) (s2:Srt rk (arrOf st) sb (sb+nb))
  (q:∀st',kindOf st'=κ->failedOf st'=none->(pendingOf st').toList=L++(sa,na+nb,pa)::R->(arrOf st').Perm (arrOf st)->(∀k:Nat,k<sa∨sa+na+nb<=k->(arrOf st')[k]?=(arrOf st)[k]?)->Srt rk (arrOf st') sa (sa+(na+nb))->Q true st') :
  wpS (model prog w) A E s (mergeAt' L.length) Q st:=by
 subst e
 have g0:(pendingOf st)[L.length]?=some (sa,na,pa):=by rw[<-BA,hp];simp
 have g1:(pendingOf st)[L.length+1]?=some (sa+na,nb,pb):=by rw[<-BA,hp];simp
 have er:=afq_ (z:=(sa,na+nb,pa)) hp
 refine wpS_bind (wpS_get ?_)
 rw[g0,g1]
 dsimp only
 refine wpS_bind (ale_ ?_)
 have eb:(arrOf st)[sa+na]?=some (arrOf st)[sa+na]:=AG (by lia)
 refine wpS_bind (qH_ eb (wpS_bind (jt_ h (arr:=arrOf st) (st:=SortSt.mk' (kindOf st) (arrOf st) _ (gallopOf st) (failedOf st)) hk (ha _ _ eb) ha (by lia) (by lia) s1 λk k1 k2 k3=>?_)))
 have a1:∀i,sa<=i->i<sa+k->kv rk (arrOf st) i<=kv rk (arrOf st) (sa+na):=λi i1 i2=>by
  have:=k2 i i1 i2
  unfold Bd at this
  rw[if_neg (by decide),<-qA_ (rk:=rk) eb]at this
  exact this
 have a2:∀i,sa+k<=i->i<sa+na->kv rk (arrOf st) (sa+na)<kv rk (arrOf st) i:=λi i1 i2=>by
  have:=k3 i i1 (by lia)
  unfold Bd at this
  rw[if_neg (by decide),<-qA_ (rk:=rk) eb]at this
  lia
 dsimp only
 by_cases c1:na-k=0
 ·rw[if_pos (by simpa using c1)]
  refine wpS_pure (q _ hk hf er (Array.Perm.refl _) (λ_ _=>rfl) λi j i1 ij j1=>?_)
  show kv rk (arrOf st) i<=kv rk (arrOf st) j
  by_cases cj:j<sa+na
  ·exact s1 i j i1 ij cj
  ·by_cases ci:i<sa+na
   ·have b1:=a1 i i1 (by lia)
    have b2:=s2 (sa+na) j (AF _) (by lia) (by lia)
    lia
   ·exact s2 i j (by lia) ij (by lia)
 rw[if_neg (by simpa using c1)]
 have el:(arrOf st)[sa+k+(na-k)-1]?=some (arrOf st)[sa+k+(na-k)-1]:=AG (by lia)
 refine wpS_bind (qH_ el (wpS_bind (jt_ h (arr:=arrOf st) (st:=SortSt.mk' (kindOf st) (arrOf st) _ (gallopOf st) (failedOf st)) hk (ha _ _ el) ha (by lia) (by lia) s2 λn n1 n2 n3=>?_)))
 have b1:∀i,sa+na<=i->i<sa+na+n->kv rk (arrOf st) i<kv rk (arrOf st) (sa+na-1):=λi i1 i2=>by
  have:=n2 i i1 i2
  unfold Bd at this
  rw[if_pos rfl,<-qA_ (rk:=rk) el,show sa+k+(na-k)-1=sa+na-1 by lia]at this
  exact this
 have b2:∀i,sa+na+n<=i->i<sa+na+nb->kv rk (arrOf st) (sa+na-1)<=kv rk (arrOf st) i:=λi i1 i2=>by
  have:=n3 i i1 i2
  unfold Bd at this
  rw[if_pos rfl,<-qA_ (rk:=rk) el,show sa+k+(na-k)-1=sa+na-1 by lia]at this
  lia
 dsimp only
 by_cases c2:n=0
 ·exfalso
  have d1:=a2 (sa+na-1) (by lia) (by lia)
  have d2:=b2 (sa+na) (by lia) (by lia)
  lia
 rw[if_neg (by simpa using c2)]
 have mp:MPre M rk ((arrOf st).extract (sa+k) (sa+na)) ((arrOf st).extract (sa+na) (sa+na+n)):=by
  have zx:((arrOf st).extract (sa+k) (sa+na)).size=na-k:=by rw[DO];lia
  have zy:((arrOf st).extract (sa+na) (sa+na+n)).size=n:=by rw[DO];lia
  have sub:∀i j,All M ((arrOf st).extract i j):=λi j m x hx=>by
   rw[D6]at hx
   split at hx
   ·exact ha _ _ hx
   ·cases hx
  refine⟨sub _ _,sub _ _,?_,?_,by lia,by lia,?_,λi hi=>?_⟩
  ·rw[zg_,show sa+na-(sa+k)=na-k by lia]
   exact ahs_ (λi j i1 ij j1=>s1 i j (by lia) ij (by lia)) (by lia)
  ·rw[zg_,show sa+na+n-(sa+na)=n by lia]
   exact ahs_ (λi j i1 ij j1=>s2 i j i1 ij (by lia)) (by lia)
  ·rw[vj_ (by lia),vj_ (by lia)]
   exact a2 _ (by lia) (by lia)
  ·rw[zx,vj_ (by lia),vj_ (by lia),show sa+k+(na-k-1)=sa+na-1 by lia]
   exact b1 _ (by lia) (by lia)
 have fin:∀(r:Array Keyed)(st2:SortSt),Gs (SortSt.mk' (kindOf st) (arrOf st) (((pendingOf st).setIfInBounds L.length (sa,na+nb,pa)).eraseIdxIfInBounds (L.length+1)) (gallopOf st) (failedOf st)) st2 ->
   Good rk ((arrOf st).extract (sa+k) (sa+na)).toList ((arrOf st).extract (sa+na) (sa+na+n)).toList r.toList ->
   Q true (SortSt.mk' (kindOf st2) (r.toList.zipIdx.foldl (λa (x:Keyed×Nat)=>a.setIfInBounds (sa+k+x.2) x.1) (arrOf st2)) (pendingOf st2) (gallopOf st2) (failedOf st2))/\failedOf st2=none:=by
  intro r st2 gs gd
  have e1:arrOf st2=arrOf st:=gs.arr
  have e2:failedOf st2=none:=gs.failed.trans hf
  refine⟨?_,e2⟩
  rw[e1]
  have lr:r.toList.length=(na-k)+n:=by
   have:=gd.1.length_eq
   simp only[AE,AM,DO]at this
   rw[AM]
   lia
  have wr:=abm_ (sa+k) r.toList 0 (arrOf st) (by lia)
  generalize hxs:r.toList.zipIdx.foldl (λa (x:Keyed×Nat)=>a.setIfInBounds (sa+k+x.2) x.1) (arrOf st)=xs' at wr ⊢
  have zs:xs'.size=(arrOf st).size:=by
   have key:∀(l:List (Keyed×Nat))(ys:Array Keyed),(l.foldl (λa (x:Keyed×Nat)=>a.setIfInBounds (sa+k+x.2) x.1) ys).size=ys.size:=by
    intro l
    induction l with
    |nil=>intro ys;rfl
    |cons z l ih=>intro ys;rw[BY,ih,Cu]
   rw[<-hxs]
   exact key _ _
  have whole:xs'.toList=(arrOf st).toList.take (sa+k)++r.toList++(arrOf st).toList.drop (sa+na+n):=by
   refine Cg λi=>?_
   rw[BA,wr i]
   have lt:((arrOf st).toList.take (sa+k)).length=sa+k:=by rw[AW,AM];lia
   by_cases c:i<sa+k
   ·rw[if_neg (by lia),AY,CM (by lia),De c,BA]
   ·by_cases c':i<sa+na+n
    ·rw[if_pos (by lia),CM (by rw[AE,lt];lia),CK (by lia),lt]
     rfl
    ·rw[if_neg (by lia),CK (by rw[AE,lt];lia),AE,lt,DP,BA]
     congr 1
     lia
  have old:(arrOf st).toList=(arrOf st).toList.take (sa+k)++(((arrOf st).extract (sa+k) (sa+na)).toList++((arrOf st).extract (sa+na) (sa+na+n)).toList)++(arrOf st).toList.drop (sa+na+n):=by
   have f1:(arrOf st).toList=(arrOf st).toList.take (sa+k)++(arrOf st).toList.drop (sa+k):=(BI _ _).symm
   have f2:=jb_ (arrOf st).toList (sa+k) (na-k)
   have f3:=jb_ (arrOf st).toList (sa+na) n
   rw[show sa+k+(na-k)=sa+na by lia]at f2
   rw[zg_,zg_,show sa+na-(sa+k)=na-k by lia,show sa+na+n-(sa+na)=n by lia]
   rw[AY,AY,<-f3,<-f2]
   exact f1
  have pm:xs'.Perm (arrOf st):=by
   refine DW.mpr ?_
   rw[whole]
   refine List.Perm.trans ?_ (List.Perm.of_eq old.symm)
   exact BQ _ (Bg _ gd.1)
  have kvw:∀i,kv rk xs' i=if sa+k<=i/\i<sa+na+n then kv rk r (i-(sa+k)) else kv rk (arrOf st) i:=λi=>by
   have q1:=wr i
   by_cases c:sa+k<=i/\i<sa+na+n
   ·rw[if_pos c]
    rw[if_pos (by lia)]at q1
    exact zm_ (by rw[q1,BA];rfl)
   ·rw[if_neg c]
    rw[if_neg (by lia)]at q1
    exact zm_ q1
  have src:∀m,m<(na-k)+n->∃j,sa+k<=j/\j<sa+na+n/\kv rk r m=kv rk (arrOf st) j:=λm hm=>by
   have hm':m<r.size:=by rw[<-AM];lia
   have em:r[m]?=some r[m]:=AG hm'
   have mem:r[m]∈r.toList:=by simp
   rcases Ai.mp (gd.1.mem_iff.mp mem) with hm1|hm1
   ·rw[zg_]at hm1
    obtain⟨j,j1,j2,j3,j4,_⟩:=jr_ (rk:=rk) hm1
    exact⟨j,j1,by lia,by rw[qA_ em,j4]⟩
   ·rw[zg_]at hm1
    obtain⟨j,j1,j2,j3,j4,_⟩:=jr_ (rk:=rk) hm1
    exact⟨j,by lia,by lia,by rw[qA_ em,j4]⟩
  have sr:=zy_ gd.2
  refine q _ (gs.kind.trans hk) e2 ((congrArg Array.toList gs.pend).trans er) pm (λi hi=>?_) λi j i1 ij j1=>?_
  ·have q1:=wr i
   rw[if_neg (by lia)]at q1
   exact q1
  ·show kv rk xs' i<=kv rk xs' j
   have left:∀z y,sa<=z->z<sa+k->sa+k<=y->y<sa+na+nb->kv rk (arrOf st) z<=kv rk (arrOf st) y:=λz y z1 z2 y1 y2=>by
    by_cases c:y<sa+na
    ·exact s1 z y z1 (by lia) c
    ·have d1:=a1 z z1 z2
     have d2:=s2 (sa+na) y (AF _) (by lia) y2
     lia
   have right:∀z y,sa+k<=z->z<sa+na+n->sa+na+n<=y->y<sa+na+nb->kv rk (arrOf st) z<=kv rk (arrOf st) y:=λz y z1 z2 y1 y2=>by
    by_cases c:z<sa+na
    ·have d1:=s1 z (sa+na-1) (by lia) (by lia) (by lia)
     have d2:=b2 y y1 y2
     lia
    ·exact s2 z y (by lia) (by lia) y2
   rw[kvw i,kvw j]
   by_cases ci:sa+k<=i/\i<sa+na+n
   ·rw[if_pos ci]
    by_cases cj:sa+k<=j/\j<sa+na+n
    ·rw[if_pos cj]
     exact sr _ _ (An _) (by lia) (by rw[<-AM];lia)
    ·rw[if_neg cj]
     obtain⟨z,z1,z2,z3⟩:=src (i-(sa+k)) (by lia)
     rw[z3]
     exact right z j z1 z2 (by lia) (by lia)
   ·rw[if_neg ci]
    by_cases cj:sa+k<=j/\j<sa+na+n
    ·rw[if_pos cj]
     obtain⟨z,z1,z2,z3⟩:=src (j-(sa+k)) (by lia)
     rw[z3]
     exact left i z i1 (by lia) z1 (by lia)
    ·rw[if_neg cj]
     by_cases c5:i<sa+k
     ·by_cases c6:j<sa+k
      ·exact s1 i j i1 ij (by lia)
      ·exact left i j i1 c5 (by lia) (by lia)
     ·exact s2 i j (by lia) ij (by lia)
 have go:∀(r:Array Keyed)(st2:SortSt),Gs (SortSt.mk' (kindOf st) (arrOf st) (((pendingOf st).setIfInBounds L.length (sa,na+nb,pa)).eraseIdxIfInBounds (L.length+1)) (gallopOf st) (failedOf st)) st2 ->
   Good rk ((arrOf st).extract (sa+k) (sa+na)).toList ((arrOf st).extract (sa+na) (sa+na+n)).toList r.toList ->
   wpS (model prog w) A E s (do
    modify λt=>SortSt.mk' (kindOf t) (r.toList.zipIdx.foldl (λa (x:Keyed×Nat)=>a.setIfInBounds (sa+k+x.2) x.1) (arrOf t)) (pendingOf t) (gallopOf t) (failedOf t)
    let t <-get
    pure (failedOf t).isNone) Q st2:=by
  intro r st2 gs gd
  obtain⟨f1,f2⟩:=fin r st2 gs gd
  refine wpS_bind (wpS_modify (wpS_bind (wpS_get (wpS_pure ?_))))
  have e3:(failedOf st2).isNone=true:=by rw[f2];rfl
  show Q (failedOf st2).isNone _
  rw[e3]
  exact f1
 refine yF_ (λ_=>?_) (λ_=>?_)
 ·exact wpS_bind (aqd_ h hk mp λr st2 gs gd=>go r st2 gs gd)
 ·exact wpS_bind (aqn_ h hk mp λr st2 gs gd=>go r st2 gs gd)
def Runs(rk:Keyed->Nat)(xs:Array Keyed):List Run->Nat->Nat->Prop
 |[],a,e=>a=e
 |r::l,a,e=>r.1=a/\1<=r.2.1/\Srt rk xs a (a+r.2.1)/\Runs rk xs l (a+r.2.1) e
theorem Runs.le{xs:Array Keyed}:∀{l:List Run}{a e:Nat},Runs rk xs l a e->a+l.length<=e
 |[],a,e,h=>by have:a=e:=h;simp;lia
 |r::l,a,e,⟨h1,h2,h3,h4⟩=>by
  have:=Runs.le h4
  rw[Am]
  lia
theorem Runs.app{xs:Array Keyed}:∀{l m:List Run}{a e:Nat},Runs rk xs (l++m) a e->∃z,Runs rk xs l a z/\Runs rk xs m z e
 |[],m,a,e,h=>⟨a,rfl,h⟩
 |r::l,m,a,e,⟨h1,h2,h3,h4⟩=>by
  obtain⟨z,z1,z2⟩:=Runs.app h4
  exact⟨z,⟨h1,h2,h3,z1⟩,z2⟩
theorem Runs.join{xs:Array Keyed}:∀{l m:List Run}{a z e:Nat},Runs rk xs l a z->Runs rk xs m z e->Runs rk xs (l++m) a e
 |[],m,a,z,e,h,q=>by have:a=z:=h;subst this;exact q
 |r::l,m,a,z,e,⟨h1,h2,h3,h4⟩,q=>⟨h1,h2,h3,Runs.join h4 q⟩
theorem Runs.same{xs ys:Array Keyed}:∀{l:List Run}{a e:Nat},Runs rk xs l a e->(∀k,a<=k->k<e->kv rk ys k=kv rk xs k)->Runs rk ys l a e
 |[],a,e,h,_=>h
 |r::l,a,e,⟨h1,h2,h3,h4⟩,q=>by
  have le:=Runs.le h4
  refine⟨h1,h2,λi j i1 ij j1=>?_,Runs.same h4 λk k1 k2=>q k (by lia) k2⟩
  rw[q i i1 (by lia),q j (by lia) (by lia)]
  exact h3 i j i1 ij j1
theorem Runs.modify{xs:Array Keyed}{f:Run->Run}(hf:∀r,(f r).1=r.1/\(f r).2.1=r.2.1):∀{l:List Run}{a e:Nat},Runs rk xs l a e->∀i,Runs rk xs (l.modify i f) a e
 |[],a,e,h,i=>by cases i<;>exact h
 |r::l,a,e,⟨h1,h2,h3,h4⟩,0=>by
  obtain⟨f1,f2⟩:=hf r
  show Runs rk xs (f r::l) a e
  exact⟨f1.trans h1,by lia,by rw[f2];exact h3,by rw[f2];exact h4⟩
 |r::l,a,e,⟨h1,h2,h3,h4⟩,i+1=>⟨h1,h2,h3,Runs.modify hf h4 i⟩
structure Tb(rk:Keyed->Nat)(κ:SortKind)(a₀:Array Keyed)(lo:Nat)(st:SortSt):Prop where
 kind:kindOf st=κ
 failed:failedOf st=none
 perm:(arrOf st).Perm a₀
 runs:Runs rk (arrOf st) (pendingOf st).toList 0 lo
theorem Tb.size{a₀:Array Keyed}{lo:Nat}{st:SortSt}(t:Tb rk κ a₀ lo st):(arrOf st).size=a₀.size:=t.perm.size_eq
theorem ab1_(h:Ask prog w A s κ M rk){a₀:Array Keyed}{lo i:Nat}{st:SortSt}{Q:Bool->SortSt->Prop}(hM:All M a₀)(t:Tb rk κ a₀ lo st)(hlo:lo<=a₀.size)(hi:i+1<(pendingOf st).size)
  (q:∀st',Tb rk κ a₀ lo st'->(pendingOf st').size+1=(pendingOf st).size->(∀k:Nat,lo<=k->(arrOf st')[k]?=(arrOf st)[k]?)->Q true st'):wpS (model prog w) A E s (mergeAt' i) Q st:=by
 obtain⟨L,x,y,R,e,el⟩:∃L x y R,(pendingOf st).toList=L++x::y::R/\L.length=i:=by
  have hl:i+1<(pendingOf st).toList.length:=by rw[AM];exact hi
  refine⟨(pendingOf st).toList.take i,(pendingOf st).toList[i],(pendingOf st).toList[i+1],(pendingOf st).toList.drop (i+2),?_,by rw[AW];lia⟩
  rw[D7 hl,D7,BI]
 subst el
 obtain⟨sa,na,pa⟩:=x
 obtain⟨sb,nb,pb⟩:=y
 have r:=t.runs
 rw[e]at r
 obtain⟨z,r1,r2⟩:=r.app
 obtain⟨x1,x2,x3,x4⟩:=r2
 obtain⟨y1,y2,y3,y4⟩:=x4
 dsimp only at x1 x2 x3 y1 y2 y3 y4
 subst x1
 have le:=y4.le
 have sz:=t.size
 refine apj_ h t.kind (hM.perm t.perm) t.failed e y1 x2 y2 (by lia) x3 (by rw[y1];exact y3) λst' k1 k2 k3 k4 k5 k6=>?_
 have sm:∀k,k<sa∨sa+na+nb<=k->kv rk (arrOf st') k=kv rk (arrOf st) k:=λk hk=>zm_ (k5 k hk)
 refine q st' ⟨k1,k2,k4.trans t.perm,?_⟩ ?_ λk hk=>k5 k (.inr (by lia))
 ·rw[k3]
  refine(r1.same λk _ hk=>sm k (.inl hk)).join ⟨rfl,by dsimp only;lia,k6,?_⟩
  dsimp only
  rw[show sa+(na+nb)=sa+na+nb by lia]
  exact y4.same λk hk _=>sm k (.inr hk)
 ·rw[<-AM,<-AM,k3,e]
  simp
  lia
theorem al8_(h:Ask prog w A s κ M rk){st:SortSt}{Q:Unit->SortSt->Prop}(hk:kindOf st=κ)(hM:All M (arrOf st))(hf:failedOf st=none)(hp:pendingOf st=#[])(h1:1<=(arrOf st).size)
  (q:∀st',(arrOf st').Perm (arrOf st)->failedOf st'=none->Srt rk (arrOf st') 0 (arrOf st).size->Q () st'):wpS (model prog w) A E s sortRuns' Q st:=by
 rw[sortRuns'_eq]
 refine wpS_bind (wpS_get ?_)
 generalize ha₀:arrOf st=a₀ at hM h1 q
 dsimp only
 have t0:Tb rk κ a₀ 0 st:=⟨hk,hf,by rw[ha₀],by rw[hp];rfl⟩
 refine wpS_bind (wpS_mono (wpS_forRange (I:=λx c st'=>c.1=none/\Tb rk κ a₀ c.2 st'/\c.2<=a₀.size/\(x<=c.2∨c.2=a₀.size)) (Q:=λc st'=>c.1=none/\Tb rk κ a₀ a₀.size st') ?step ?fin ⟨rfl,t0,An _,.inl (AF _)⟩) ?post)
 case fin =>
  rintro⟨c,lo⟩ st' ⟨e,t,hl,hx⟩
  dsimp only at e t hl hx
  have el:lo=a₀.size:=by lia
  subst el
  exact⟨e,t⟩
 case step =>
  rintro x ⟨c,lo⟩ st' _ hx ⟨e,t,hl,hxl⟩
  dsimp only at e t hl hxl ⊢
  subst e
  by_cases c1:lo ≥ a₀.size
  ·rw[if_pos c1]
   have el:lo=a₀.size:=by lia
   subst el
   exact wpS_pure ⟨rfl,t⟩
  rw[if_neg c1]
  have sz:=t.size
  refine wpS_bind (anm_ h t.kind (hM.perm t.perm) (by lia) (by lia) λn st2 nx n1 n2 ns=>?_)
  have t2:Tb rk κ a₀ lo st2:=⟨nx.kind.trans t.kind,nx.failed.trans t.failed,nx.perm.trans t.perm,by rw[nx.pend];exact t.runs.same λk _ hk=>zm_ (nx.below k hk)⟩
  dsimp only
  generalize hforce:min (a₀.size-lo) (minRun' a₀.size a₀.size 0)=force
  have rest:∀(K1 K2:StateT SortSt Sem (ForInStep (Option Unit×Nat)))(Z:ForInStep (Option Unit×Nat)->SortSt->Prop),
    (∀st3,Tb rk κ a₀ lo st3->1<=force->lo+force<=a₀.size->Srt rk (arrOf st3) lo (lo+force)->wpS (model prog w) A E s K1 Z st3) ->
    (∀st3,Tb rk κ a₀ lo st3->1<=n->lo+n<=a₀.size->Srt rk (arrOf st3) lo (lo+n)->wpS (model prog w) A E s K2 Z st3) ->
    wpS (model prog w) A E s (if n<minRun' a₀.size a₀.size 0 then do
     liftM (rule "list.sort.binary-insertion")
     let r <-binarySort' lo force n
     if (!r)=true then pure (ForInStep.done (some (),lo)) else K1
    else K2) Z st2:=by
   intro K1 K2 Z hK1 hK2
   have sz2:=t2.size
   by_cases c2:n<minRun' a₀.size a₀.size 0
   ·rw[if_pos c2]
    refine wpS_bind (wpS_lift (wpAny_rule ⟨rfl,?_⟩))
    refine wpS_bind (anv_ h t2.kind (hM.perm t2.perm) (by lia) (by lia) ns λst3 nx3 ns3=>?_)
    simp only[Bool.not_true,Ay,if_false]
    exact hK1 st3 ⟨nx3.kind.trans t2.kind,nx3.failed.trans t2.failed,nx3.perm.trans t2.perm,by rw[nx3.pend];exact t2.runs.same λk _ hk=>zm_ (nx3.below k hk)⟩ (by lia) (by lia) ns3
   ·rw[if_neg c2]
    exact hK2 st2 t2 n1 (by lia) ns
  have push:∀(m:Nat) st4,Tb rk κ a₀ lo st4->1<=m->Srt rk (arrOf st4) lo (lo+m)->Tb rk κ a₀ (lo+m) (setPending st4 ((pendingOf st4).push (lo,m,0))):=λm st4 t4 m1 ns4=>by
   refine⟨t4.kind,t4.failed,t4.perm,?_⟩
   show Runs rk (arrOf st4) ((pendingOf st4).push (lo,m,0)).toList 0 (lo+m)
   rw[Cf]
   exact t4.runs.join ⟨rfl,m1,ns4,rfl⟩
  have relabel:∀(f:Run->Run) st4,(∀r,(f r).1=r.1/\(f r).2.1=r.2.1)->Tb rk κ a₀ lo st4->Tb rk κ a₀ lo (setPending st4 ((pendingOf st4).modify ((pendingOf st4).size-1) f)):=λf st4 hf t4=>by
   refine⟨t4.kind,t4.failed,t4.perm,?_⟩
   show Runs rk (arrOf st4) ((pendingOf st4).modify ((pendingOf st4).size-1) f).toList 0 lo
   rw[Array.toList_modify]
   exact t4.runs.modify hf _
  have inner:∀(m:Nat)(st3:SortSt)(pw:Nat)(K:Option Unit×Unit->StateT SortSt Sem (ForInStep (Option Unit×Nat)))(Z:ForInStep (Option Unit×Nat)->SortSt->Prop),Tb rk κ a₀ lo st3->Srt rk (arrOf st3) lo (lo+m) ->
    (∀st4,Tb rk κ a₀ lo st4->Srt rk (arrOf st4) lo (lo+m)->wpS (model prog w) A E s (K (none,())) Z st4) ->
    wpS (model prog w) A E s (do
     let r <-forIn [0:a₀.size] ((none,()):Option Unit×Unit) λ_ _=>do
      let z <-get
      match (if (pendingOf z).size>1 then (pendingOf z)[(pendingOf z).size-2]? else none) with
      |some (_,_,old)=>if old<=pw then pure (ForInStep.done (none,())) else do
       let ok <-mergeAt' ((pendingOf z).size-2)
       if (!ok)=true then pure (ForInStep.done (some (),())) else pure (ForInStep.yield (none,()))
      |_=>pure (ForInStep.done (none,()))
     K r) Z st3:=by
   intro m st3 pw K Z t3 ns hK
   refine wpS_bind (wpS_mono (wpS_forRange (I:=λ_ c st'=>c.1=none/\Tb rk κ a₀ lo st'/\Srt rk (arrOf st') lo (lo+m)) (Q:=λc st'=>c.1=none/\Tb rk κ a₀ lo st'/\Srt rk (arrOf st') lo (lo+m)) ?step3 (λc st' hc=>hc) ⟨rfl,t3,ns⟩) ?post3)
   case step3 =>
    rintro y ⟨c,u⟩ st4 _ hy ⟨e,t4,ns4⟩
    have e':c=none:=e
    subst e'
    refine wpS_bind (wpS_get ?_)
    by_cases c4:(pendingOf st4).size>1
    ·rw[if_pos c4]
     have eg:(pendingOf st4)[(pendingOf st4).size-2]?=some (pendingOf st4)[(pendingOf st4).size-2]:=AG (by lia)
     rw[eg]
     generalize (pendingOf st4)[(pendingOf st4).size-2]=z
     obtain⟨z1,z2,z3⟩:=z
     dsimp only
     refine yF_ (λ_=>wpS_pure ⟨rfl,t4,ns4⟩) λ_=>?_
     refine wpS_bind (ab1_ h hM t4 hl (by lia) λst5 t5 _ k5=>?_)
     simp only[Bool.not_true,Ay,if_false]
     refine wpS_pure ⟨rfl,t5,λi j i1 ij j1=>?_⟩
     rw[zm_ (rk:=rk) (k5 i i1),zm_ (rk:=rk) (k5 j (by lia))]
     exact ns4 i j i1 ij j1
    ·rw[if_neg c4]
     exact wpS_pure ⟨rfl,t4,ns4⟩
   case post3 =>
    rintro⟨c,u⟩ st4 ⟨e,t4,ns4⟩
    have e':c=none:=e
    subst e'
    exact hK st4 t4 ns4
  refine rest _ _ _ (λst3 t3 n1 n2 ns=>?_) (λst3 t3 n1 n2 ns=>?_)
  all_goals
   refine wpS_bind (wpS_get ?_)
   cases hb:(pendingOf st3).back? with
   |none=>exact wpS_bind (wpS_modify (wpS_pure ⟨rfl,push _ st3 t3 n1 ns,n2,by dsimp only;lia⟩))
   |some z =>
    obtain⟨s1,n3,p3⟩:=z
    dsimp only
    refine inner _ st3 _ _ _ t3 ns λst4 t4 ns4=>?_
    exact wpS_bind (wpS_modify (wpS_bind (wpS_modify (wpS_pure ⟨rfl,push _ _ (relabel _ st4 (λr=>⟨rfl,rfl⟩) t4) n1 ns4,n2,by dsimp only;lia⟩))))
 case post =>
  rintro⟨c,lo⟩ st' ⟨e,t⟩
  have e':c=none:=e
  subst e'
  dsimp only
  have sz:=t.size
  have r0:=t.runs.le
  rw[AM]at r0
  refine wpS_bind (wpS_mono (wpS_forRange (I:=λx c st2=>c.1=none/\Tb rk κ a₀ a₀.size st2/\((pendingOf st2).size<=1∨(pendingOf st2).size+x<=a₀.size)) (Q:=λc st2=>c.1=none/\Tb rk κ a₀ a₀.size st2/\(pendingOf st2).size<=1) ?step4 ?fin4 ⟨rfl,t,.inr (by lia)⟩) ?post4)
  case fin4 =>
   rintro c st2 ⟨e,t,h3⟩
   exact⟨e,t,by lia⟩
  case step4 =>
   rintro x ⟨c,u⟩ st2 _ hx ⟨e,t2,h3⟩
   have e':c=none:=e
   subst e'
   refine wpS_bind (wpS_get ?_)
   by_cases c1:(pendingOf st2).size<=1
   ·rw[if_pos c1]
    exact wpS_pure ⟨rfl,t2,c1⟩
   rw[if_neg c1]
   have fin:∀i,i+1<(pendingOf st2).size->∀(K:Bool->StateT SortSt Sem (ForInStep (Option Unit×Unit)))(Z:ForInStep (Option Unit×Unit)->SortSt->Prop),K true=pure (.yield (none,())) ->
     (∀st5,Tb rk κ a₀ a₀.size st5->((pendingOf st5).size<=1∨(pendingOf st5).size+(x+1)<=a₀.size)->Z (.yield (none,())) st5)->wpS (model prog w) A E s (do
     let r <-mergeAt' i
     K r) Z st2:=by
    intro i hi K Z hK hZ
    refine wpS_bind (ab1_ h hM t2 (AF _) hi λst5 t5 z5 _=>?_)
    rw[hK]
    exact wpS_pure (hZ st5 t5 (by lia))
   have both:∀(c:Bool)(i:Nat),i+2=(pendingOf st2).size->(if c=true then i-1 else i)+1<(pendingOf st2).size:=λc i hi=>by
    split<;>lia
   refine fin _ (both _ _ ?_) (λr=>_) _ ?_ (λst5 t5 h5=>⟨rfl,t5,h5⟩)
   ·lia
   ·rfl
  case post4 =>
   rintro⟨c,u⟩ st2 ⟨e,t2,h3⟩
   have e':c=none:=e
   subst e'
   refine wpS_pure (q st2 t2.perm t2.failed ?_)
   have r:=t2.runs
   rw[<-AM]at h3
   match hl:(pendingOf st2).toList,h3,r with
   |[],_,r=>have:0=a₀.size:=r;lia
   |[z],_,r =>
    obtain⟨r1,r2,r3,r4⟩:=r
    have r4':0+z.2.1=a₀.size:=r4
    rw[r4']at r3
    exact r3
   |_::_::_,h3,_=>simp at h3
end
end L2.Ts
namespace L2.Rw
open PySem
def RawD(h:Heap)(d:Addr)(es:Array DictEntry)(ep:Nat):Prop:=∃o,h.get? d=some o/\o.ExactDict/\o.data=.dict es ep
theorem RawD.keep{h h':Heap}{d:Addr}{es:Array DictEntry}{ep:Nat}(x:RawD h d es ep)(k:∀o,h.get? d=some o->h'.get? d=some o):RawD h' d es ep:=let ⟨o,e,r⟩:=x;⟨o,k o e,r⟩
theorem RawD.lt{h:Heap}{d:Addr}{es:Array DictEntry}{ep:Nat}(x:RawD h d es ep):d<h.objs.size:=let ⟨_,e,_⟩:=x;AK e
theorem RawD.type{s:Shared}{d:Addr}{es:Array DictEntry}{ep:Nat}(x:RawD s.heap d es ep):s.TypeIs (.ref d) "dict" := let ⟨o,e,c,_⟩:=x;⟨o,e,c.1⟩
section
variable{prog:Program}{w:World}{A:Around}{E:Value->Shared->Prop}{s:Shared}{d it:Addr}{es:Array DictEntry}{ep i:Nat}
theorem ajv_{Q:Value->Shared->Prop}(hd:(d==sysModules)=false)(hm:RawD s.heap d es ep)
  (hQ:Q (.ref s.heap.objs.size) { s with heap:=s.heap.push { cls:=.type "dict_keyiterator",data:=.fields #[.ref d,.int 0 0,.int es.size 0,.int ep 0] } }):wpAny (model prog w) A (pyIter (.ref d)) Q E s:=by
 have hT:=hm.type
 obtain⟨o,ho,_,hdat⟩:=hm
 refine wpAny_pyIter_slot hT F.slot_dict_iter (wpAny_call_entry F.slot_dict_iter hT F.entry_dict_iter ?_ (F.args_dict_iter_1 _))
 unfold Builtin.«dict.__iter__»
 refine wpAny_bind ?_
 unfold Builtin.Dict.dictSlotNone
 refine wpAny_bind (wpAny_notOrdered_dict hT (wpAny_pure ?_))
 show wpAny _ _ (Builtin.Dict.showsAll d>>=_) _ _ s
 unfold Builtin.Dict.showsAll
 rw[if_neg (by rw[hd];decide)]
 refine wpAny_bind (wpAny_pure (wpAny_bind (wpAny_dictEntries ho hdat (wpAny_bind (wpAny_dictEpoch ho hdat ?_)))))
 refine wpAny_bind (wpAny_newObj_type (wpAny_pure ⟨_,rfl, "dict_keyiterator",_,⟨_,AI _ rfl,rfl⟩,Bz.lookup,?_⟩))
 simpa [rawInt]using hQ
theorem ai3_{Q:Option Value->Shared->Prop}(hit:s.heap.IsKeyIter it d i es.size ep)(hm:RawD s.heap d es ep)(hi:i<es.size)
  (hQ:∀h',h'.IsKeyIter it d (i+1) es.size ep->Heap.SameBut it s.heap h'->Q (some es[i].key) { s with heap:=h' }):wpAny (model prog w) A (pyNext (.ref it)) Q E s:=by
 obtain⟨o,ho,hc,hd⟩:=id hit
 obtain⟨od,hod,_,hdd⟩:=hm
 have hT:=hit.typeIs
 unfold pyNext
 refine wpAny_bind (wpAny_attempt (wpAny_callSpecial?_slot (name:=Str.ofString "__next__") hT Bz (wpAny_call_entry Bz hT DI ?_ (DD _))))
 refine wpAny_bind (wpAny_pure (wpAny_bind (wpAny_bind ?_)))
 first|refine wpAny_bind (wpAny_typeNameOfWhole_keyiter hT (wpAny_pure ?_))|refine wpAny_bind (wpAny_typeNameOf_keyiter hT (wpAny_pure ?_))
 refine wpAny_bind (wpAny_fieldsOf ho hd ?_)
 have own:Builtin.Dict_items.ownsTuple "dict_keyiterator" = false:=by decide
 simp only[own,Ay,if_false]
 show wpAny _ _ (if (Value.ref d==Value.none)=true then _ else _) _ _ s
 rw[if_neg (show ¬ ((Value.ref d==Value.none)=true) from AS)]
 refine wpAny_bind (wpAny_pure (wpAny_bind (wpAny_dictEntries hod hdd ?_)))
 rw[if_neg (by simp)]
 refine wpAny_bind (wpAny_pure (wpAny_bind (wpAny_dictEpoch hod hdd ?_)))
 rw[if_neg (by simp)]
 refine wpAny_pure ?_
 simp only[show ¬ ((i:Int)<0) from by lia,if_false,Ax,AG hi]
 refine wpAny_bind ?_
 first|refine wpAny_bind (wpAny_typeNameOfWhole_keyiter hT (wpAny_pure ?_))|refine wpAny_bind (wpAny_typeNameOf_keyiter hT (wpAny_pure ?_))
 refine wpAny_bind (wpAny_isOneOf_keyiter hT ?_)
 show wpAny _ _ (setField (.ref it) 1 (rawInt ((i:Int)+1))>>=_) _ _ s
 refine wpAny_bind (wpAny_setField ho hd (by simp) ?_)
 have on:(s.heap.update it (Obj.mapFields (·.setIfInBounds 1 (rawInt ((i:Int)+1))))).IsKeyIter it d (i+1) es.size ep :=
  ⟨_,B5 _ ho (EH (Cv hd _)),(Obj.cls_mapFields ..).trans hc,by rw[Cv hd];simp [rawInt]⟩
 refine wpAny_bind (wpAny_holding (wpAny_bind (wpAny_isOneOf_keyiter (s:={ s with heap:=s.heap.update it (Obj.mapFields (·.setIfInBounds 1 (rawInt ((i:Int)+1)))) }) on.typeIs ?_)))
 show wpAny _ _ (pure es[i].key) _ _ _
 exact wpAny_pure (wpAny_pure ⟨_,rfl,wpAny_pure (hQ _ on (CY ..))⟩)
theorem ak3_{Q:Option Value->Shared->Prop}(hh:A.handled=none)(hit:s.heap.IsKeyIter it d i es.size ep)(hm:RawD s.heap d es ep)(hi:es.size<=i)
  (hQ:∀h',Heap.ExtBut it s.heap h'->Q none { s with heap:=h' }):wpAny (model prog w) A (pyNext (.ref it)) Q E s:=by
 obtain⟨o,ho,hc,hd⟩:=id hit
 obtain⟨od,hod,_,hdd⟩:=hm
 have hT:=hit.typeIs
 unfold pyNext
 refine wpAny_bind (wpAny_attempt (wpAny_callSpecial?_slot (name:=Str.ofString "__next__") hT Bz (wpAny_call_entry Bz hT DI ?_ (DD _))))
 refine wpAny_bind (wpAny_pure (wpAny_bind (wpAny_bind ?_)))
 first|refine wpAny_bind (wpAny_typeNameOfWhole_keyiter hT (wpAny_pure ?_))|refine wpAny_bind (wpAny_typeNameOf_keyiter hT (wpAny_pure ?_))
 refine wpAny_bind (wpAny_fieldsOf ho hd ?_)
 have own:Builtin.Dict_items.ownsTuple "dict_keyiterator" = false:=by decide
 simp only[own,Ay,if_false]
 show wpAny _ _ (if (Value.ref d==Value.none)=true then _ else _) _ _ s
 rw[if_neg (show ¬ ((Value.ref d==Value.none)=true) from AS)]
 refine wpAny_bind (wpAny_pure (wpAny_bind (wpAny_dictEntries hod hdd ?_)))
 rw[if_neg (by simp)]
 refine wpAny_bind (wpAny_pure (wpAny_bind (wpAny_dictEpoch hod hdd ?_)))
 rw[if_neg (by simp)]
 refine wpAny_pure ?_
 simp only[show ¬ ((i:Int)<0) from by lia,if_false,Ax,Bo hi]
 refine wpAny_bind ?_
 first|refine wpAny_bind (wpAny_typeNameOfWhole_keyiter hT (wpAny_pure ?_))|refine wpAny_bind (wpAny_typeNameOf_keyiter hT (wpAny_pure ?_))
 show wpAny _ _ (setField (.ref it) 0 .none>>=_) _ _ s
 refine wpAny_bind (wpAny_setField ho hd (by simp) ?_)
 show wpAny _ _ (newExc (.type "StopIteration") []>>=_) _ _ _
 refine wpAny_bind ?_
 simp only[newExc,newTuple]
 refine wpAny_bind (wpAny_newObj_type ?_ (by size_fits))
 refine wpAny_bind (m:=firstArgMember _ _) (wpAny_of_eq (a:=Value.none) (by first|rfl|(simp only[firstArgMember];rfl)) ?_)
 refine wpAny_newObj_type ?_ (by size_fits)
 simp only[raiseNew]
 refine wpAny_bind (wpAny_handled ?_)
 rw[show A.in1.handled=none from hh]
 refine wpAny_bind (wpAny_pure (wpAny_throw ?_))
 refine wpAny_bind (wpAny_isInstance (T := "StopIteration") (b:=true) ⟨_,AI _ rfl,rfl⟩ isSubtype_stop ?_)
 exact wpAny_pure (hQ _ (((CY ..).extBut.push _).push _))
theorem ahi_(hh:A.handled=none)(I d:Addr)(hne:d≠I)(es:Array DictEntry)(ep:Nat) :
  Walks prog w A I [I,d] [I] es.size (λi v=>∃h:i<es.size,v=es[i].key) (λi h=>h.IsKeyIter I d i es.size ep/\RawD h d es ep) where
 sub:=λb hb=>by simp at hb;simp [hb]
 frame:=λ_ _ _ st hk=>⟨st.1.at λo e=>hk I (by simp) o e,st.2.keep λo e=>hk d (by simp) o e⟩
 item:=λi s Q E hi st hQ=>ai3_ st.1 st.2 hi λh' on hs=>hQ es[i].key h' s.toks ⟨hi,rfl⟩ ⟨on,st.2.keep λo e=>hs.extBut _ _ hne e⟩ λb o hb e=>hs.extBut b o (λz=>hb (by simp [z])) e
 done:=λs Q E st hQ=>ak3_ hh st.1 st.2 (AF _) λh' he=>hQ h' s.toks λb o hb e=>he b o (λz=>hb (by simp [z])) e
 self:=λ_ _ _ _ st hQ=>wpAny_pyIter_keyiter st.1 hQ
theorem af8_{Q:Value->Shared->Prop}(hd:(d==sysModules)=false)(hm:RawD s.heap d es ep)
  (hQ:Q (.ref s.heap.objs.size) { s with heap:=s.heap.push { cls:=.type "dict_items",data:=.fields #[.ref d] } }):wpAny (model prog w) A (call (.builtin "dict.items") [.ref d]) Q E s:=by
 have hT:=hm.type
 refine wpAny_call_entry F.slot_dict_items hT F.entry_dict_items ?_ (F.args_dict_items_1 _)
 unfold Builtin.«dict.items»
 refine wpAny_bind ?_
 unfold Builtin.Dict.noArgs
 refine wpAny_bind (wpAny_notOrdered_dict hT (wpAny_pure ?_))
 show wpAny _ _ (Builtin.Dict.showsAll d>>=_) _ _ s
 unfold Builtin.Dict.showsAll
 rw[if_neg (by rw[hd];decide)]
 exact wpAny_bind (wpAny_pure (wpAny_bind (wpAny_newObj_type (wpAny_pure ⟨_,rfl,hQ⟩))))
theorem aev_{v:Addr}{Q:Value->Shared->Prop}(hv:s.heap.IsItemsView v d)(hm:RawD s.heap d es ep)
  (hQ:Q (.ref s.heap.objs.size) { s with heap:=s.heap.push { cls:=.type "dict_itemiterator",data:=.fields #[.none,.bool false,.ref d,.int 0 0,.int es.size 0,.int ep 0,.none,.none] } }) :
  wpAny (model prog w) A (pyIter (.ref v)) Q E s:=by
 obtain⟨ov,hov,hcv,hdv⟩:=id hv
 obtain⟨o,ho,_,hdat⟩:=hm
 refine wpAny_pyIter_slot hv.typeIs D8 (wpAny_call_entry D8 hv.typeIs F.entry_dict_items_iter ?_ (F.args_dict_items_iter_1 _))
 unfold Builtin.«dict_items.__iter__»
 refine wpAny_bind (wpAny_pure (wpAny_bind ?_))
 unfold Builtin.Dict_items.dictOf
 refine wpAny_bind (wpAny_field hov hdv (x:=.ref d) rfl (wpAny_pure (wpAny_bind ?_)))
 unfold Builtin.Dict_items.newIterator
 refine wpAny_bind (wpAny_dictEntries ho hdat (wpAny_bind (wpAny_dictEpoch ho hdat ?_)))
 have own:Builtin.Dict_items.ownsTuple "dict_itemiterator" = true:=by decide
 simp only[own,if_true]
 refine wpAny_newObj_type (wpAny_pure ⟨_,rfl, "dict_itemiterator",_,⟨_,AI _ rfl,rfl⟩,Bv.lookup,?_⟩)
  (by simp only[sizeOk,Builtin.Dict_items.ownedTupleFields,Aa,AE,Am,CI,sizeLine_eq];lia)
 simpa [rawInt,Builtin.Dict_items.ownedTupleFields]using hQ
theorem ag9_{ok ov:Value}{Q:Option Value->Shared->Prop}(hit:IsItemIter s.heap it d i es.size ep ok ov)(hm:RawD s.heap d es ep)(hi:i<es.size)
  (hQ:∀h',IsItemIterOut h' it d (i+1) es.size ep es[i].key es[i].val s.heap.objs.size->h'.get? s.heap.objs.size=some { cls:=.type "tuple",data:=.seq #[es[i].key,es[i].val] }->h'.objs.size=s.heap.objs.size+1 ->
   (∀b o,b≠it->s.heap.get? b=some o->h'.get? b=some o)->Q (some (.ref s.heap.objs.size)) { s with heap:=h' }):wpAny (model prog w) A (pyNext (.ref it)) Q E s:=by
 obtain⟨hp,g,dr,tk,os⟩:=s
 obtain⟨od,hod,_,hdd⟩:=hm
 have hT:Shared.TypeIs ⟨hp,g,dr,tk,os⟩ (.ref it) "dict_itemiterator" := ⟨_,hit,rfl⟩
 unfold pyNext
 refine wpAny_bind (wpAny_attempt (wpAny_callSpecial?_slot (name:=Str.ofString "__next__") hT Bv (wpAny_call_entry Bv hT DE ?_ (C9 _))))
 refine wpAny_bind (wpAny_pure (wpAny_bind (wpAny_bind ?_)))
 first|refine wpAny_bind (wpAny_typeNameOfWhole_itemiter hT (wpAny_pure ?_))|refine wpAny_bind (wpAny_typeNameOf_itemiter hT (wpAny_pure ?_))
 refine wpAny_bind (wpAny_fieldsOf hit rfl ?_)
 have own:Builtin.Dict_items.ownsTuple "dict_itemiterator" = true:=by decide
 simp only[own,if_true]
 show wpAny _ _ (if (Value.ref d==Value.none)=true then _ else _) _ _ _
 rw[if_neg (show ¬ ((Value.ref d==Value.none)=true) from AS)]
 refine wpAny_bind (wpAny_pure (wpAny_bind (wpAny_dictEntries hod hdd ?_)))
 rw[if_neg (by simp)]
 refine wpAny_bind (wpAny_pure (wpAny_bind (wpAny_dictEpoch hod hdd ?_)))
 rw[if_neg (by simp)]
 refine wpAny_pure ?_
 simp only[show ¬ ((i:Int)<0) from by lia,if_false,Ax,AG hi]
 refine wpAny_bind ?_
 first|refine wpAny_bind (wpAny_typeNameOfWhole_itemiter hT (wpAny_pure ?_))|refine wpAny_bind (wpAny_typeNameOf_itemiter hT (wpAny_pure ?_))
 refine wpAny_bind (wpAny_isOneOf_itemiter hT ?_)
 show wpAny _ _ (setField (.ref it) 3 (rawInt ((i:Int)+1))>>=_) _ _ ⟨hp,g,dr,tk,os⟩
 refine wpAny_bind (wpAny_setField_rec hit (by simp) λh₁ he₁ hs₁=>?_)
 replace hs₁:Heap.SameBut it hp h₁:=hs₁
 replace he₁:IsItemIter h₁ it d (i+1) es.size ep ok ov:=by
  have e:((i+1:Nat):Int)=(i:Int)+1:=by lia
  unfold IsItemIter;rw[e];simpa [rawInt]using he₁
 have hT₁:Shared.TypeIs ⟨h₁,g,dr,tk,os⟩ (.ref it) "dict_itemiterator" := ⟨_,he₁,rfl⟩
 refine wpAny_bind (wpAny_holding (wpAny_bind (wpAny_isOneOf_itemiter hT₁ (wpAny_bind (wpAny_isOneOf_itemiter hT₁ ?_)))))
 show wpAny _ _ (Builtin.Dict_items.pairFromOwner (.ref it) 6 es[i].key es[i].val) _ _ ⟨h₁,g,dr,tk,os⟩
 unfold Builtin.Dict_items.pairFromOwner
 refine wpAny_bind (wpAny_newTuple ?_)
 have he₂:IsItemIter (h₁.push { cls:=.type "tuple",data:=.seq #[es[i].key,es[i].val] }) it d (i+1) es.size ep ok ov:=AB _ he₁
 generalize hh₂:h₁.push { cls:=.type "tuple",data:=.seq #[es[i].key,es[i].val] }=h₂ at he₂
 have hz₁:h₁.objs.size=hp.objs.size:=hs₁.1
 have hil:it<hp.objs.size:=AK hit
 have ht₂:h₂.get? hp.objs.size=some { cls:=.type "tuple",data:=.seq #[es[i].key,es[i].val] }:=by rw[<-hh₂,<-hz₁];exact AI _ rfl
 have hz₂:h₂.objs.size=hp.objs.size+1:=by rw[<-hh₂,BO,hz₁]
 have hk₂:∀b o,b≠it->hp.get? b=some o->h₂.get? b=some o:=λb o hb e=>by rw[<-hh₂];exact AB _ (hs₁.extBut b o hb e)
 show wpAny _ _ (Builtin.Dict_items.ownedTupleIsFree (.ref it)>>=_) _ _ ⟨h₂,g,dr,tk,os⟩
 rw[hz₁]
 clear hh₂ he₁ hs₁ hT₁ hz₁ h₁
 refine wpAny_bind ?_
 unfold Builtin.Dict_items.ownedTupleIsFree
 refine wpAny_bind (wpAny_field he₂ rfl (x:=.none) rfl (wpAny_pure ?_))
 simp only[if_true]
 refine wpAny_bind (wpAny_field he₂ rfl (x:=ok) rfl (wpAny_bind (wpAny_field he₂ rfl (x:=ov) rfl ?_)))
 refine wpAny_bind (wpAny_setField_rec he₂ (by simp) λh₃ he₃ hs₃=>?_)
 replace hs₃:Heap.SameBut it h₂ h₃:=hs₃
 replace he₃:IsItemIter h₃ it d (i+1) es.size ep es[i].key ov:=he₃
 refine wpAny_bind (wpAny_setField_rec he₃ (by simp) λh₄ he₄ hs₄=>?_)
 replace hs₄:Heap.SameBut it h₃ h₄:=hs₄
 replace he₄:IsItemIter h₄ it d (i+1) es.size ep es[i].key es[i].val:=he₄
 refine wpAny_bind (wpAny_setField_rec he₄ (by simp) λh₅ he₅ hs₅=>?_)
 replace hs₅:Heap.SameBut it h₄ h₅:=hs₅
 replace he₅:IsItemIterOut h₅ it d (i+1) es.size ep es[i].key es[i].val hp.objs.size:=he₅
 refine wpAny_bind (wpAny_setField_rec he₅ (by simp) λh₆ he₆ hs₆=>?_)
 replace hs₆:Heap.SameBut it h₅ h₆:=hs₆
 replace he₆:IsItemIterOut h₆ it d (i+1) es.size ep es[i].key es[i].val hp.objs.size:=he₆
 have up:∀b o,b≠it->h₂.get? b=some o->h₆.get? b=some o:=λb o hb e=>hs₆.extBut b o hb (hs₅.extBut b o hb (hs₄.extBut b o hb (hs₃.extBut b o hb e)))
 refine wpAny_bind (wpAny_letGo (wpAny_pure (wpAny_pure ⟨_,rfl,wpAny_pure (hQ h₆ he₆ (up _ _ (Bm hil) ht₂) ?_ λb o hb e=>up b o hb (hk₂ b o hb e))⟩)))
 show h₆.objs.size=hp.objs.size+1
 rw[hs₆.1,hs₅.1,hs₄.1,hs₃.1,hz₂]
theorem ajx_{ok ov:Value}{Q:Option Value->Shared->Prop}(hh:A.handled=none)(hit:IsItemIter s.heap it d i es.size ep ok ov)(hm:RawD s.heap d es ep)(hi:es.size<=i)
  (hQ:∀h',Heap.ExtBut it s.heap h'->Q none { s with heap:=h' }):wpAny (model prog w) A (pyNext (.ref it)) Q E s:=by
 obtain⟨od,hod,_,hdd⟩:=hm
 have hT:s.TypeIs (.ref it) "dict_itemiterator" := ⟨_,hit,rfl⟩
 unfold pyNext
 refine wpAny_bind (wpAny_attempt (wpAny_callSpecial?_slot (name:=Str.ofString "__next__") hT Bv (wpAny_call_entry Bv hT DE ?_ (C9 _))))
 refine wpAny_bind (wpAny_pure (wpAny_bind (wpAny_bind ?_)))
 first|refine wpAny_bind (wpAny_typeNameOfWhole_itemiter hT (wpAny_pure ?_))|refine wpAny_bind (wpAny_typeNameOf_itemiter hT (wpAny_pure ?_))
 refine wpAny_bind (wpAny_fieldsOf hit rfl ?_)
 have own:Builtin.Dict_items.ownsTuple "dict_itemiterator" = true:=by decide
 simp only[own,if_true]
 show wpAny _ _ (if (Value.ref d==Value.none)=true then _ else _) _ _ s
 rw[if_neg (show ¬ ((Value.ref d==Value.none)=true) from AS)]
 refine wpAny_bind (wpAny_pure (wpAny_bind (wpAny_dictEntries hod hdd ?_)))
 rw[if_neg (by simp)]
 refine wpAny_bind (wpAny_pure (wpAny_bind (wpAny_dictEpoch hod hdd ?_)))
 rw[if_neg (by simp)]
 refine wpAny_pure ?_
 simp only[show ¬ ((i:Int)<0) from by lia,if_false,Ax,Bo hi]
 refine wpAny_bind ?_
 first|refine wpAny_bind (wpAny_typeNameOfWhole_itemiter hT (wpAny_pure ?_))|refine wpAny_bind (wpAny_typeNameOf_itemiter hT (wpAny_pure ?_))
 show wpAny _ _ (setField (.ref it) 2 .none>>=_) _ _ s
 refine wpAny_bind (wpAny_setField hit rfl (by simp) ?_)
 show wpAny _ _ (newExc (.type "StopIteration") []>>=_) _ _ _
 refine wpAny_bind ?_
 simp only[newExc,newTuple]
 refine wpAny_bind (wpAny_newObj_type ?_ (by size_fits))
 refine wpAny_bind (m:=firstArgMember _ _) (wpAny_of_eq (a:=Value.none) (by first|rfl|(simp only[firstArgMember];rfl)) ?_)
 refine wpAny_newObj_type ?_ (by size_fits)
 simp only[raiseNew]
 refine wpAny_bind (wpAny_handled ?_)
 rw[show A.in1.handled=none from hh]
 refine wpAny_bind (wpAny_pure (wpAny_throw ?_))
 refine wpAny_bind (wpAny_isInstance (T := "StopIteration") (b:=true) ⟨_,AI _ rfl,rfl⟩ isSubtype_stop ?_)
 exact wpAny_pure (hQ _ (((CY ..).extBut.push _).push _))
end
end L2.Rw
namespace L2.Pl
abbrev Pw:=List Int
abbrev Mon:=List Int×Int
def lxl:Pw->Pw->Bool
 |[],[]=>false
 |[],_::_=>true
 |_::_,[]=>false
 |x::xs,y::ys=>if x=y then lxl xs ys else decide (x<y)
theorem ze_:∀a:Pw,lxl a a=false
 |[]=>rfl
 |x::xs=>by simp [lxl,ze_ xs]
theorem z0_:∀{a b c:Pw},lxl a b=true->lxl b c=true->lxl a c=true
 |[],[],c,h,_=>by simp [lxl]at h
 |[],_::_,[],_,h=>by simp [lxl]at h
 |[],_::_,_::_,_,_=>rfl
 |_::_,[],_,h,_=>by simp [lxl]at h
 |_::_,_::_,[],_,h=>by simp [lxl]at h
 |x::xs,y::ys,z::zs,h,q=>by
  simp only[lxl]at h q ⊢
  split at h
  ·rename_i e
   subst e
   split at q
   ·rename_i e
    subst e
    rw[if_pos rfl]
    exact z0_ h q
   ·rename_i e
    rw[if_neg e]
    exact q
  ·rename_i e
   have h':=of_decide_eq_true h
   split at q
   ·rename_i e2
    subst e2
    rw[if_neg e]
    exact h
   ·have q':=of_decide_eq_true q
    rw[if_neg (by lia)]
    exact decide_eq_true (by lia)
theorem jv_:∀{a b:Pw},lxl a b=false->lxl b a=false->a=b
 |[],[],_,_=>rfl
 |[],_::_,h,_=>by simp [lxl]at h
 |_::_,[],_,h=>by simp [lxl]at h
 |x::xs,y::ys,h,q=>by
  simp only[lxl]at h q
  by_cases e:x=y
  ·subst e
   rw[if_pos rfl]at h q
   rw[jv_ h q]
  ·rw[if_neg e]at h
   rw[if_neg (λz=>e z.symm)]at q
   have h':=of_decide_eq_false h
   have q':=of_decide_eq_false q
   lia
structure Lin{α:Type}(lt:α->α->Bool):Prop where
 irr:∀a,lt a a=false
 trans:∀{a b c},lt a b=true->lt b c=true->lt a c=true
 tri:∀{a b},lt a b=false->lt b a=false->a=b
theorem lin_lxl:Lin lxl:=⟨ze_,z0_,jv_⟩
def tlt(a b:Mon):Bool:=if a.1=b.1 then decide (a.2<b.2) else lxl a.1 b.1
theorem all_:Lin tlt where
 irr:=λa=>by simp [tlt]
 trans:=λ{a b c} h q=>by
  unfold tlt at h q ⊢
  by_cases e1:a.1=b.1
  ·rw[if_pos e1]at h
   by_cases e2:b.1=c.1
   ·rw[if_pos e2]at q
    rw[if_pos (e1.trans e2)]
    have:=of_decide_eq_true h
    have:=of_decide_eq_true q
    exact decide_eq_true (by lia)
   ·rw[if_neg e2]at q
    rw[if_neg (λz=>e2 (e1.symm.trans z)),e1]
    exact q
  ·rw[if_neg e1]at h
   by_cases e2:b.1=c.1
   ·rw[<-e2,if_neg e1]
    exact h
   ·rw[if_neg e2]at q
    have t:=z0_ h q
    rw[if_neg (λz=>by rw[z,ze_]at t;cases t)]
    exact t
 tri:=λ{a b} h q=>by
  unfold tlt at h q
  by_cases e:a.1=b.1
  ·rw[if_pos e]at h
   rw[if_pos e.symm]at q
   have:=of_decide_eq_false h
   have:=of_decide_eq_false q
   exact Df e (by lia)
  ·rw[if_neg e]at h
   rw[if_neg (λz=>e z.symm)]at q
   exact absurd (jv_ h q) e
def xg_{α:Type}(lt:α->α->Bool)(l:List α)(a:α):Nat:=(l.filter (lt · a)).length
theorem xu_{α:Type}{lt:α->α->Bool}(L:Lin lt){l:List α}{a b:α}(ha:a∈l):lt a b=true↔xg_ lt l a<xg_ lt l b:=by
 constructor
 ·intro h
  unfold xg_
  have key:∀m:List α,(m.filter (lt · a)).length<=(m.filter (lt · b)).length/\(a∈m->(m.filter (lt · a)).length<(m.filter (lt · b)).length):=by
   intro m
   induction m with
   |nil=>simp
   |cons x m ih =>
    rw[Av,Av]
    by_cases c:lt x a=true
    ·rw[if_pos c,if_pos (L.trans c h)]
     simp only[Am]
     refine⟨by lia,λhm=>?_⟩
     rcases AL.mp hm with e|hm
     ·subst e;rw[L.irr]at c;cases c
     ·have:=ih.2 hm;lia
    ·rw[if_neg c]
     by_cases c2:lt x b=true
     ·rw[if_pos c2]
      simp only[Am]
      exact⟨by lia,λ_=>by lia⟩
     ·rw[if_neg c2]
      refine⟨ih.1,λhm=>?_⟩
      rcases AL.mp hm with e|hm
      ·subst e;exact absurd h c2
      ·exact ih.2 hm
  exact(key l).2 ha
 ·intro h
  cases c:lt a b with
  |true=>rfl
  |false =>
   exfalso
   have key:∀m:List α,(m.filter (lt · b)).length<=(m.filter (lt · a)).length:=by
    intro m
    induction m with
    |nil=>simp
    |cons x m ih =>
     rw[Av,Av]
     by_cases c1:lt x b=true
     ·have c2:lt x a=true:=by
       cases c3:lt x a with
       |true=>rfl
       |false =>
        cases c4:lt a x with
        |true =>
         rw[L.trans c4 c1]at c;cases c
        |false =>
         have e:=L.tri c3 c4
         subst e
         rw[c1]at c;cases c
      rw[if_pos c1,if_pos c2]
      simp only[Am]
      lia
     ·rw[if_neg c1]
      split
      ·simp only[Am];lia
      ·exact ih
   have:=key l
   unfold xg_ at h
   lia
def cf:List Mon->Pw->Int
 |[],_=>0
 |t::r,p=>(if t.1=p then t.2 else 0)+cf r p
theorem ya_(p:Pw):∀a b:List Mon,cf (a++b) p=cf a p+cf b p
 |[],b=>by simp [cf]
 |t::a,b=>by simp only[Dj,cf,ya_ p a b];lia
theorem adw_{a b:List Mon}(h:a.Perm b)(p:Pw):cf a p=cf b p:=by
 induction h with
 |nil=>rfl
 |cons x _ ih=>simp only[cf,ih]
 |swap x y l=>simp only[cf];lia
 |trans _ _ i1 i2=>exact i1.trans i2
theorem zs_{p:Pw}:∀{l:List Mon},(∀t∈l,t.1≠p)->cf l p=0
 |[],_=>rfl
 |t::r,h=>by
  simp only[cf]
  rw[if_neg (h t (AD ..)),zs_ λx hx=>h x (AC _ hx)]
  rfl
structure Canon(l:List Mon):Prop where
 ord:l.Pairwise λa b=>lxl b.1 a.1=true
 num:∀t∈l,t.2≠0
theorem Canon.tail{t:Mon}{l:List Mon}(h:Canon (t::l)):Canon l:=⟨(Ah.mp h.ord).2,λx hx=>h.num x (AC _ hx)⟩
theorem Canon.head{t:Mon}{l:List Mon}(h:Canon (t::l)):cf (t::l) t.1=t.2:=by
 have o:=(Ah.mp h.ord).1
 simp only[cf]
 rw[if_pos trivial,zs_ λx hx e=>by have:=o x hx;rw[e,ze_]at this;cases this]
 lia
theorem Canon.above{l:List Mon}(h:Canon l){p:Pw}(q:∀t∈l,lxl t.1 p=true):cf l p=0:=zs_ λt ht e=>by
 have:=q t ht
 rw[e,ze_]at this
 cases this
theorem xR_:∀{a b:List Mon},Canon a->Canon b->(∀p,cf a p=cf b p)->a=b
 |[],[],_,_,_=>rfl
 |[],t::b,_,hb,e=>by
  have:=e t.1
  rw[hb.head]at this
  exact absurd this.symm (hb.num t (AD ..))
 |t::a,[],ha,_,e=>by
  have:=e t.1
  rw[ha.head]at this
  exact absurd this (ha.num t (AD ..))
 |t::a,u::b,ha,hb,e=>by
  have oa:=(Ah.mp ha.ord).1
  have ob:=(Ah.mp hb.ord).1
  have k1:lxl t.1 u.1=false:=by
   cases c:lxl t.1 u.1 with
   |false=>rfl
   |true =>
    have z:=e u.1
    rw[hb.head,ha.above λx hx=>by
     rcases AL.mp hx with rfl|hx
     ·exact c
     ·exact z0_ (oa x hx) c]at z
    exact absurd z.symm (hb.num u (AD ..))
  have k2:lxl u.1 t.1=false:=by
   cases c:lxl u.1 t.1 with
   |false=>rfl
   |true =>
    have z:=e t.1
    rw[ha.head,hb.above λx hx=>by
     rcases AL.mp hx with rfl|hx
     ·exact c
     ·exact z0_ (ob x hx) c]at z
    exact absurd z (ha.num t (AD ..))
  have e1:t.1=u.1:=jv_ k1 k2
  have e2:t.2=u.2:=by
   have z:=e t.1
   rw[ha.head,e1,hb.head]at z
   exact z
  have e3:t=u:=Df e1 e2
  subst e3
  rw[xR_ ha.tail hb.tail λp=>by
   have z:=e p
   simp only[cf]at z
   lia]
def ins(t:Mon):List Mon->List Mon
 |[]=>if t.2=0 then [] else [t]
 |u::r=>if t.1=u.1 then (if u.2+t.2=0 then r else (u.1,u.2+t.2)::r) else if lxl u.1 t.1=true then (if t.2=0 then u::r else t::u::r) else u::ins t r
theorem ahd_(t:Mon)(p:Pw):∀l:List Mon,cf (ins t l) p=(if t.1=p then t.2 else 0)+cf l p
 |[]=>by
  unfold ins
  split
  ·rename_i h;simp [cf,h]
  ·simp [cf]
 |u::r=>by
  unfold ins
  split
  ·rename_i h
   split
   ·rename_i z
    simp only[cf]
    by_cases e:u.1=p
    ·rw[if_pos e,if_pos (h.trans e)];lia
    ·rw[if_neg e,if_neg (λq=>e (h.symm.trans q))];lia
   ·simp only[cf]
    by_cases e:u.1=p
    ·rw[if_pos e,if_pos e,if_pos (h.trans e)];lia
    ·rw[if_neg e,if_neg e,if_neg (λq=>e (h.symm.trans q))];lia
  ·split
   ·split
    ·rename_i z;rw[z];simp only[cf];split<;>lia
    ·simp only[cf]
   ·simp only[cf,ahd_ t p r];lia
theorem aal_(t:Mon){q:Pw}:∀{l:List Mon},(∀x∈l,lxl x.1 q=true)->lxl t.1 q=true->∀x∈ins t l,lxl x.1 q=true
 |[],_,ht,x,hx=>by
  unfold ins at hx
  split at hx
  ·simp at hx
  ·rw[AT.mp hx];exact ht
 |u::r,h,ht,x,hx=>by
  have hr:∀x∈r,lxl x.1 q=true:=λy hy=>h y (AC _ hy)
  have hu:=h u (AD ..)
  unfold ins at hx
  split at hx
  ·split at hx
   ·exact hr x hx
   ·rcases AL.mp hx with rfl|hx
    ·exact hu
    ·exact hr x hx
  ·split at hx
   ·split at hx
    ·exact h x hx
    ·rcases AL.mp hx with rfl|hx
     ·exact ht
     ·exact h x hx
   ·rcases AL.mp hx with rfl|hx
    ·exact hu
    ·exact aal_ t hr ht x hx
theorem aae_(t:Mon):∀{l:List Mon},Canon l->Canon (ins t l)
 |[],_=>by
  unfold ins
  split
  ·exact⟨.nil,λx hx=>by simp at hx⟩
  ·rename_i h
   exact⟨Ca _ _,λx hx=>by rw[AT.mp hx];exact h⟩
 |u::r,h=>by
  obtain⟨o1,o2⟩:=Ah.mp h.ord
  have nr:∀x∈r,x.2≠0:=λx hx=>h.num x (AC _ hx)
  have nu:=h.num u (AD ..)
  unfold ins
  split
  ·split
   ·exact h.tail
   ·rename_i z
    refine⟨Ah.mpr ⟨o1,o2⟩,λx hx=>?_⟩
    rcases AL.mp hx with rfl|hx
    ·exact z
    ·exact nr x hx
  ·rename_i ne
   split
   ·rename_i lt
    split
    ·exact h
    ·rename_i z
     refine⟨Ah.mpr ⟨λx hx=>?_,h.ord⟩,λx hx=>?_⟩
     ·rcases AL.mp hx with rfl|hx
      ·exact lt
      ·exact z0_ (o1 x hx) lt
     ·rcases AL.mp hx with rfl|hx
      ·exact z
      ·exact h.num x hx
   ·rename_i lt
    have c:=aae_ t h.tail
    have tu:lxl t.1 u.1=true:=by
     cases k:lxl t.1 u.1 with
     |true=>rfl
     |false=>exact absurd (jv_ k (by simpa using lt)) ne
    refine⟨Ah.mpr ⟨λx hx=>aal_ t o1 tu x hx,c.ord⟩,λx hx=>?_⟩
    rcases AL.mp hx with rfl|hx
    ·exact nu
    ·exact c.num x hx
def norm(ts:List Mon):List Mon:=ts.foldr ins []
theorem qM_:∀ts:List Mon,Canon (norm ts)
 |[]=>⟨.nil,λx hx=>by simp [norm]at hx⟩
 |t::r=>aae_ t (qM_ r)
theorem zt_(p:Pw):∀ts:List Mon,cf (norm ts) p=cf ts p
 |[]=>rfl
 |t::r=>by
  show cf (ins t (norm r)) p=_
  rw[ahd_,zt_ p r]
  rfl
theorem yA_{l ts:List Mon}(c:Canon l)(e:∀p,cf l p=cf ts p):l=norm ts:=xR_ c (qM_ ts) λp=>by rw[e,zt_]
theorem ae8_{a b:List Mon}(e:∀p,cf a p=cf b p):norm a=norm b:=xR_ (qM_ a) (qM_ b) λp=>by rw[zt_,zt_,e]
theorem afr_{l:List Mon}(c:Canon l):norm l=l:=(yA_ c λ_=>rfl).symm
theorem qC_{ts:List Mon}{t:Mon}(h:t∈norm ts):∃u∈ts,u.1=t.1:=by
 have c:=qM_ ts
 have:cf (norm ts) t.1=t.2:=by
  have key:∀l:List Mon,Canon l->t∈l->cf l t.1=t.2:=by
   intro l
   induction l with
   |nil=>intro _ hm;simp at hm
   |cons u l ih =>
    intro c hm
    rcases AL.mp hm with e|hm
    ·subst e;exact c.head
    ·have o:=(Ah.mp c.ord).1 t hm
     simp only[cf]
     rw[if_neg (λe=>by rw[e,ze_]at o;cases o),ih c.tail hm]
     lia
  exact key _ c h
 rw[zt_]at this
 false_or_by_contra
 rename_i n
 have z:cf ts t.1=0:=zs_ λu hu e=>n ⟨u,hu,e⟩
 exact c.num t h (by lia)
theorem ac4_(t:Mon):∀l:List Mon,(ins t l).length<=l.length+1
 |[]=>by unfold ins;split<;>simp
 |u::r=>by
  unfold ins
  split
  ·split
   ·simp;lia
   ·simp
  ·split
   ·split<;>simp
   ·have:=ac4_ t r;simp;lia
theorem zn_:∀ts:List Mon,(norm ts).length<=ts.length
 |[]=>AF _
 |t::r=>by
  have h1:=ac4_ t (norm r)
  have h2:=zn_ r
  show(ins t (norm r)).length<=r.length+1
  lia
def zj_(d:List Mon)(p:Pw):Option Int:=(d.find? λkv=>decide (kv.1=p)).map (·.2)
def jJ_(d:List Mon)(p:Pw)(n:Int):List Mon:=if (d.any λkv=>decide (kv.1=p))=true then d.map (λkv=>if kv.1=p then (kv.1,n) else kv) else d++[(p,n)]
abbrev Nd(d:List Mon):Prop:=(d.map (·.1)).Nodup
theorem yq_:∀{d:List Mon},Nd d->∀p,(zj_ d p).getD 0=cf d p
 |[],_,p=>rfl
 |t::r,h,p=>by
  obtain⟨h1,h2⟩:=CH.mp (show(t.1::r.map (·.1)).Nodup from h)
  simp only[cf]
  by_cases e:t.1=p
  ·subst e
   have z:cf r t.1=0:=zs_ λu hu e=>h1 (e▸AR.mpr ⟨u,hu,rfl⟩)
   simp [zj_,Bt,z]
  ·have ih:=yq_ h2 p
   rw[if_neg e,<-ih]
   simp [zj_,Bt,e]
theorem aaa_(d:List Mon)(p:Pw)(n:Int):(jJ_ d p n).map (·.1)=if p∈d.map (·.1) then d.map (·.1) else d.map (·.1)++[p]:=by
 unfold jJ_
 have ha:(d.any λkv=>decide (kv.1=p))=true↔p∈d.map (·.1):=by simp
 by_cases c:p∈d.map (·.1)
 ·rw[if_pos (ha.mpr c),if_pos c,B4]
  apply B9
  intro x _
  simp only[Function.comp]
  split<;>rfl
 ·rw[if_neg (λz=>c (ha.mp z)),if_neg c,Aj]
  rfl
theorem alc_{d:List Mon}(h:Nd d)(p:Pw)(n:Int):Nd (jJ_ d p n):=by
 unfold Nd
 rw[aaa_]
 split
 ·exact h
 ·rename_i c
  exact List.nodup_append.mpr ⟨h,by simp,λa ha b hb e=>by
   rw[AT.mp hb]at e
   exact c (e▸ha)⟩
theorem alq_{d:List Mon}(h:Nd d)(p:Pw)(n:Int)(q:Pw):cf (jJ_ d p n) q=if p=q then n else cf d q:=by
 unfold jJ_
 by_cases c:(d.any λkv=>decide (kv.1=p))=true
 ·rw[if_pos c]
  have key:∀l:List Mon,Nd l->(l.any λkv=>decide (kv.1=p))=true->cf (l.map λkv=>if kv.1=p then (kv.1,n) else kv) q=if p=q then n else cf l q:=by
   intro l
   induction l with
   |nil=>intro _ z;simp at z
   |cons t r ih =>
    intro hn ha
    obtain⟨h1,h2⟩:=CH.mp (show(t.1::r.map (·.1)).Nodup from hn)
    rw[Ae]
    by_cases e:t.1=p
    ·subst e
     have same:(r.map λkv=>if kv.1=t.1 then (kv.1,n) else kv)=r:=by
      conv=>rhs;rw[<-D9 r]
      apply B9
      intro x hx
      have ne:¬ x.1=t.1:=λe=>h1 (by rw[<-e];exact AR.mpr ⟨x,hx,rfl⟩)
      rw[if_neg ne]
      rfl
     rw[if_pos rfl,same]
     simp only[cf]
     by_cases e2:t.1=q
     ·rw[if_pos e2,if_pos e2]
      have z:cf r q=0:=zs_ λu hu e=>h1 (by rw[e2,<-e];exact AR.mpr ⟨u,hu,rfl⟩)
      lia
     ·rw[if_neg e2,if_neg e2,if_neg e2]
    ·have ha':(r.any λkv=>decide (kv.1=p))=true:=by simpa [Bn,e]using ha
     rw[if_neg e]
     simp only[cf]
     rw[ih h2 ha']
     by_cases e2:p=q
     ·rw[if_pos e2,if_neg (λz=>e (z.trans e2.symm)),if_pos e2];lia
     ·rw[if_neg e2,if_neg e2]
  exact key d h c
 ·rw[if_neg c,ya_]
  simp only[cf]
  by_cases e:p=q
  ·subst e
   rw[if_pos rfl,if_pos rfl]
   have z:cf d p=0:=zs_ λu hu e=>c (List.any_eq_true.mpr ⟨u,hu,decide_eq_true e⟩)
   lia
  ·rw[if_neg e,if_neg e];lia
def qR_(ts:List Mon):List Mon:=ts.foldl (λd t=>jJ_ d t.1 ((zj_ d t.1).getD 0+t.2)) []
theorem jq_(ts:List Mon)(t:Mon):qR_ (ts++[t])=jJ_ (qR_ ts) t.1 ((zj_ (qR_ ts) t.1).getD 0+t.2):=by
 unfold qR_;rw[Bq];rfl
theorem zI_{α:Type}{P:List α->Prop}(h0:P [])(hs:∀l x,P l->P (l++[x])):∀l,P l:=by
 intro l
 rw[<-Ci l]
 induction l.reverse with
 |nil=>exact h0
 |cons x l ih=>rw[Db];exact hs _ _ ih
theorem xA_:∀ts:List Mon,Nd (qR_ ts):=zI_ (by simp [qR_,Nd]) λl t h=>by rw[jq_];exact alc_ h _ _
theorem vM_(q:Pw):∀ts:List Mon,cf (qR_ ts) q=cf ts q:=zI_ rfl λl t h=>by
 rw[jq_,alq_ (xA_ l),ya_,yq_ (xA_ l)]
 simp only[cf]
 by_cases e:t.1=q
 ·rw[if_pos e,if_pos e,e,h];lia
 ·rw[if_neg e,if_neg e,h];lia
theorem ai5_(d:List Mon)(p:Pw)(n:Int):(jJ_ d p n).length<=d.length+1:=by
 unfold jJ_
 split<;>simp
theorem xJ_:∀ts:List Mon,(qR_ ts).length<=ts.length:=zI_ (AF _) λl t h=>by
 rw[jq_]
 have:=ai5_ (qR_ l) t.1 ((zj_ (qR_ l) t.1).getD 0+t.2)
 simp
 lia
theorem ajy_{p:Pw}:∀ts:List Mon,p∈(qR_ ts).map (·.1)->p∈ts.map (·.1):=zI_ (by simp [qR_]) λl t h hp=>by
 rw[jq_,aaa_]at hp
 rw[Aj]
 split at hp
 ·exact At _ (h hp)
 ·rcases Ai.mp hp with z|z
  ·exact At _ (h z)
  ·exact Af _ (by rw[AT.mp z];simp)
theorem afk_{d:List Mon}{p:Pw}(h:p∈d.map (·.1)):∃n,zj_ d p=some n:=by
 obtain⟨x,hx,e⟩:=AR.mp h
 unfold zj_
 cases c:d.find? λkv=>decide (kv.1=p) with
 |none=>exact absurd (decide_eq_true e) (by simpa using List.find?_eq_none.mp c x hx)
 |some y=>exact⟨y.2,rfl⟩
theorem x1_(p:Pw):∀l:List Mon,cf (l.filter λt=>decide (t.2≠0)) p=cf l p
 |[]=>rfl
 |t::r=>by
  rw[Av]
  by_cases c:t.2≠0
  ·rw[if_pos (decide_eq_true c)]
   simp only[cf,x1_ p r]
  ·rw[if_neg (by simpa using c)]
   simp only[cf,x1_ p r]
   split<;>lia
theorem ajm_{ts l:List Mon}(hp:l.Perm ((qR_ ts).filter λt=>decide (t.2≠0)))(ho:l.Pairwise λa b=>tlt a b=false):l=norm ts:=by
 refine yA_ ⟨?_,λt ht=>?_⟩ λp=>?_
 ·have nd:(l.map (·.1)).Nodup:=((hp.map (·.1)).nodup_iff).mpr ((xA_ ts).sublist (Ed.map _))
  rw[List.Nodup,B0]at nd
  refine(EI.mpr ⟨ho,nd⟩).imp λ{a b} h=>?_
  obtain⟨h1,h2⟩:=h
  unfold tlt at h1
  rw[if_neg h2]at h1
  cases c:lxl b.1 a.1 with
  |true=>rfl
  |false=>exact absurd (jv_ h1 c) h2
 ·have:=(BR.mp (hp.mem_iff.mp ht)).2
  simpa using this
 ·rw[adw_ hp,x1_,vM_]
theorem al9_{ts:List Mon}{ks:List Pw}(hp:ks.Perm ((qR_ ts).map (·.1)))(ho:ks.Pairwise λa b=>lxl a b=false) :
  (ks.filter λk=>decide ((zj_ (qR_ ts) k).getD 0≠0)).map (λk=>(k,(zj_ (qR_ ts) k).getD 0))=norm ts:=by
 have nd:ks.Nodup:=(hp.nodup_iff).mpr (xA_ ts)
 have so:ks.Pairwise λa b=>lxl b a=true:=(EI.mpr ⟨ho,nd⟩).imp λ{a b} h=>by
  cases c:lxl b a with
  |true=>rfl
  |false=>exact absurd (jv_ h.1 c) h.2
 have g:∀p,(zj_ (qR_ ts) p).getD 0=cf ts p:=λp=>by rw[yq_ (xA_ ts),vM_]
 have e:(ks.filter λk=>decide ((zj_ (qR_ ts) k).getD 0≠0)).map (λk=>(k,(zj_ (qR_ ts) k).getD 0))=(ks.filter λk=>decide (cf ts k≠0)).map λk=>(k,cf ts k):=by
  simp only[g]
 rw[e]
 refine yA_ ⟨?_,λt ht=>?_⟩ λp=>?_
 ·rw[B0]
  exact so.sublist Ed
 ·obtain⟨k,hk,rfl⟩:=AR.mp ht
  simpa using (BR.mp hk).2
 ·have key:∀l:List Pw,l.Nodup->cf ((l.filter λk=>decide (cf ts k≠0)).map λk=>(k,cf ts k)) p=if p∈l then cf ts p else 0:=by
   intro l
   induction l with
   |nil=>intro _;rfl
   |cons a l ih =>
    intro hn
    obtain⟨h1,h2⟩:=CH.mp hn
    have ih':=ih h2
    rw[Av]
    by_cases c:cf ts a≠0
    ·rw[if_pos (decide_eq_true c),Ae]
     simp only[cf]
     rw[ih']
     by_cases e:a=p
     ·subst e
      rw[if_pos rfl,if_neg h1,if_pos (AD ..)];lia
     ·rw[if_neg e]
      by_cases m:p∈l
      ·rw[if_pos m,if_pos (AC _ m)];lia
      ·rw[if_neg m,if_neg (λz=>(AL.mp z).elim (λq=>e q.symm) m)];lia
    ·rw[if_neg (by simpa using c),ih']
     have c':cf ts a=0:=by lia
     by_cases e:a=p
     ·subst e
      rw[if_neg h1,if_pos (AD ..),c']
     ·by_cases m:p∈l
      ·rw[if_pos m,if_pos (AC _ m)]
      ·rw[if_neg m,if_neg (λz=>(AL.mp z).elim (λq=>e q.symm) m)]
  rw[key ks nd]
  by_cases m:p∈ks
  ·rw[if_pos m]
  ·rw[if_neg m,<-vM_ p ts]
   exact(zs_ λu hu e=>m (hp.mem_iff.mpr (AR.mpr ⟨u,hu,e⟩))).symm
end L2.Pl
namespace L2.Ev
open PySem PySem.Spec PyProof.Rows
open L2.Ts L2.Pl
theorem aki_:∀a b:List Int,HT.lexLt a b=lxl a b
 |[],[]=>by rw[HT.lexLt_nil_nil];rfl
 |[],_::_=>by rw[HT.lexLt_nil_cons];rfl
 |_::_,[]=>by rw[HT.lexLt_cons_nil];rfl
 |x::xs,y::ys=>by
  rw[HT.lexLt_cons]
  simp only[lxl]
  split
  ·exact aki_ xs ys
  ·rfl
section
variable{prog:Program}{w:World}{A:Around}{E:Value->Shared->Prop}{s:Shared}{b fin:Bool}{Q:Bool->Shared->Prop}
theorem abe_:∀{vs ws:List Value}{ns ms:List Int}{i:Nat},IntsAre vs ns->IntsAre ws ms->(fin=decide (ns.length<ms.length))->Q (lxl ns ms) s->PySem.W.KatLex prog w A b fin Q (vs.zip ws) i s
 |[],[],_,_,i,.nil,.nil,e,q=>by
  subst e
  exact DF q
 |[],_::_,_,_,i,.nil,.cons _ _ _,e,q=>by
  subst e
  refine DF ?_
  simpa [lxl]using q
 |_::_,[],_,_,i,.cons _ _ _,.nil,e,q=>by
  subst e
  refine DF ?_
  simpa [lxl]using q
 |_,_,_,_,i,.cons a t hv,.cons c u hw,e,q=>by
  rw[Cq]
  simp only[lxl]at q
  obtain⟨eq,he,hiff⟩:=HT.eqAt_int A s a t c u
  refine Dk (he prog w _ _ ?_)
  cases eq with
  |true =>
   rw[if_pos (hiff.mp rfl)]at q
   refine Dy (abe_ hv hw ?_ q)
   rw[e]
   simp
  |false =>
   rw[if_neg (λz=>absurd (hiff.mpr z) AS)]at q
   refine EJ ?_
   cases hb:(b&&i==0) with
   |true=>exact oneLt_int q
   |false =>
    refine Dz _ _ ?_
    exact DJ q
end
section
variable{X:Cx}{pins:List (Addr×Obj)}{σ:St}{H:Hp}{s:Shared}
class Srtd (α:Type) [D:Dat α] where
 lt:α->α->Bool
 lin:Lin lt
 plain:Bool
 ok:α->Prop
 first:∀{X:Cx}{pins:List (Addr×Obj)}{σ:St}{H:Hp}{s:Shared}{v:V}{a:α},Inv X pins σ H s->D.is H v a->ok a ->
  ∃(p:Addr)(o:Obj)(xs:Array Value)(n:Nat)(f:Value),RelV v (.ref p)/\s.heap.get? p=some o/\o.cls=.type "tuple" /\ o.data=.seq xs n/\xs[0]?=some f/\PySem.W.Looks (model X.prog X.w) s.heap (typeOf f) (if plain=true then .type "int" else .type "tuple")
 asks:∀{X:Cx}{pins:List (Addr×Obj)}{σ:St}{H:Hp}{s:Shared}{A:Around}{v v':V}{u u':Value}{a b:α},Inv X pins σ H s->A.units+4<cLine->D.is H v a->D.is H v' b->ok a->ok b->RelV v u->RelV v' u' ->
  ∀Q:Bool->Shared->Prop,Q (lt a b) s->wpAny (model X.prog X.w) A (keyLt' (tuples' plain) u u') Q (λ_ _=>False) s
theorem q8_{H:Hp}{v:V}{r:List Int}(h:Dat.is H v r):∃p,v=.ref p/\H p=some (.tup (r.map V.int)):=by
 obtain⟨p,vs,e,q,i⟩:=h
 have ei:∀{vs:List V}{ns:List Int},Its H vs ns->vs=ns.map V.int:=by
  intro vs ns i
  induction i with
  |nil=>rfl
  |cons r t ih=>rw[Ae,<-ih];exact congrArg (· :: _) r
 rw[ei i]at q
 exact⟨p,e,q⟩
theorem zd_{H:Hp}{p:Addr}{r:List Int}(h:H p=some (.tup (r.map V.int))):Dat.is H (.ref p) r:=by
 have ei:∀ns:List Int,Its H (ns.map V.int) ns:=by
  intro ns
  induction ns with
  |nil=>exact .nil
  |cons n r ih=>exact .cons rfl ih
 exact⟨p,_,rfl,h,ei r⟩
theorem jH_{a:Addr}{xs:List V}(I:Inv X pins σ H s)(h:H a=some (.tup xs)):∃(o:Obj)(its:List Value)(n:Nat),s.heap.get? a=some o/\o.cls=.type "tuple" /\ o.data=.seq its.toArray n/\Vals xs its:=by
 obtain⟨its,rv,ht,_⟩:=I.tuple (SqT.of h)
 obtain⟨o,ho,hc,n,hd⟩:=ht
 exact⟨o,its,n,ho,hc,hd,rv⟩
instance srtList:Srtd (List Int) where
 lt:=lxl
 lin:=lin_lxl
 plain:=true
 ok:=λa=>a≠[]
 first:=λ{X pins σ H s v a} I h ok=>by
  obtain⟨p,rfl,hp⟩:=q8_ h
  obtain⟨o,its,n,ho,hc,hd,rv⟩:=jH_ I hp
  cases a with
  |nil=>exact absurd rfl ok
  |cons x a =>
   rw[Ae]at rv
   cases rv with
   |cons r t =>
    obtain⟨tk,rfl⟩:=r
    exact⟨p,o,_,n,_,rfl,ho,hc,hd,rfl,PySem.W.Looks.of_pure rfl⟩
 asks:=λ{X pins σ H s A v v' u u' a b} I hu h h' ok ok' r r' Q q=>by
  obtain⟨p,rfl,hp⟩:=q8_ h
  obtain⟨p',rfl,hp'⟩:=q8_ h'
  obtain⟨o,its,n,ho,hc,hd,rv⟩:=jH_ I hp
  obtain⟨o',its',n',ho',hc',hd',rv'⟩:=jH_ I hp'
  cases r
  cases r'
  refine PySem.W.kat_lt ho hd ho' hd' (abe_ (q2_ rv) (q2_ rv') ?_ q)
  have l1:=rv.length
  have l2:=rv'.length
  simp only[AA]at l1 l2
  simp only[Aa]
  rw[l1,l2]
instance srtTm:Srtd (List Int×Int) where
 lt:=tlt
 lin:=all_
 plain:=false
 ok:=λ_=>True
 first:=λ{X pins σ H s v a} I h ok=>by
  obtain⟨p,x,y,rfl,hp,hx,hy⟩:=h
  obtain⟨o,its,n,ho,hc,hd,rv⟩:=jH_ I hp
  obtain⟨p2,rfl,hp2⟩:=q8_ hx
  obtain⟨o2,its2,n2,ho2,hc2,hd2,rv2⟩:=jH_ I hp2
  obtain⟨w1,w2,rfl,r1,r2⟩:=xO_ rv
  cases r1
  refine⟨p,o,_,n,_,rfl,ho,hc,hd,rfl,?_⟩
  rw[if_neg (by decide),<-hc2]
  exact(PySem.W.Looks.ld ho2).andThen .now
 asks:=λ{X pins σ H s A v v' u u' a b} I hu h h' ok ok' r r' Q q=>by
  obtain⟨p,x,y,rfl,hp,hx,hy⟩:=h
  obtain⟨p',x',y',rfl,hp',hx',hy'⟩:=h'
  obtain⟨o,its,n,ho,hc,hd,rv⟩:=jH_ I hp
  obtain⟨o',its',n',ho',hc',hd',rv'⟩:=jH_ I hp'
  cases r
  cases r'
  obtain⟨w1,w2,rfl,r1,r2⟩:=xO_ rv
  obtain⟨z1,z2,rfl,t1,t2⟩:=xO_ rv'
  refine PySem.W.kat_lt ho hd ho' hd' ?_
  show PySem.W.KatLex _ _ _ _ _ _ [(w1,z1),(w2,z2)] 0 s
  have e1:=Dat.eqAt (A:=A) I (by show A.units+(0+1)<cLine;omega) hx hx' r1 t1
  refine Dk (e1 _ _ _ _ ?_)
  unfold tlt at q
  cases c:Dat.eqb a.1 b.1 with
  |true =>
   have e:=(Dat.eqb_iff a.1 b.1).mp c
   rw[if_pos e]at q
   refine Dy ?_
   have hy2:y=.int a.2:=hy
   have hy2':y'=.int b.2:=hy'
   subst hy2 hy2'
   obtain⟨k1,rfl⟩:=r2
   obtain⟨k2,rfl⟩:=t2
   obtain⟨eq,he,hiff⟩:=HT.eqAt_int A s a.2 k1 b.2 k2
   refine Dk (he _ _ _ _ ?_)
   cases eq with
   |true =>
    have e2:=hiff.mp rfl
    rw[decide_eq_false (by omega)]at q
    refine Dy (DF ?_)
    simpa using q
   |false =>
    refine EJ (Dz _ _ ?_)
    exact DJ q
  |false =>
   have e:¬ a.1=b.1:=λz=>by rw[(Dat.eqb_iff a.1 b.1).mpr z]at c;cases c
   rw[if_neg e]at q
   refine EJ (Dz _ _ ?_)
   obtain⟨p2,rfl,hp2⟩:=q8_ hx
   obtain⟨p2',rfl,hp2'⟩:=q8_ hx'
   cases r1
   cases t1
   obtain⟨its,r1,q1,_⟩:=I.tuple (SqT.of hp2)
   obtain⟨its2,r2,q2,_⟩:=I.tuple (SqT.of hp2')
   have i1:IntsAre its.toArray.toList a.1:=q2_ r1
   have i2:IntsAre its2.toArray.toList b.1:=q2_ r2
   refine HT.lt_tupInts q1 q2 i1 i2 (by omega) ?_
   rw[aki_]
   exact q
end
end L2.Ev
namespace L2.Ts
open PySem PyProof.Rows
section
variable{prog:Program}{w:World}{A:Around}{E:Value->Shared->Prop}{s:Shared}{κ:SortKind}{M:Keyed->Prop}{rk:Keyed->Nat}
theorem abf_(vs:List Value):(vs.zip vs).map (·.2)=vs:=List.map_snd_zip (AF _)
theorem aft_{a:Addr}{vs:List Value}{n:Nat}{P:PySem.Fin->Shared->Prop}(ho:s.heap.get? a=some (seqObj "list" vs.toArray n))(hz:vs.length<=sizeLine)(hM:∀v∈vs,M (v,v))
  (hk:∀h',(∀b o,b≠a->s.heap.get? b=some o->h'.get? b=some o)->2<=vs.length->(∀(Q:SortKind->Shared->Prop)(E':Value->Shared->Prop),Q κ { s with heap:=h' }->wpAny (model prog w) A (keyKind' vs.toArray) Q E' { s with heap:=h' })/\Ask prog w A { s with heap:=h' } κ M rk)
  (h:∀out:List Value,out.Perm vs->(out.Pairwise λx y=>rk (y,y)<=rk (x,x))->P (.done (.ret .none)) { s with heap:=sortedHeap s.heap a vs out.toArray }) :
  wpAny (model prog w) A (Builtin.«list.sort» ⟨[.ref a],[(Str.ofString "reverse",.bool true)]⟩) P E s:=by
 rw[list_sort_rev]
 have ha:a<s.heap.objs.size:=AK ho
 have hsz:vs.toArray.size=vs.length:=by simp
 refine wpAny_bind (listItems_at ho rfl (wpAny_bind (listUpdate_at ho rfl ?_ (by rw[hsz];exact hz) (by simp))))
 obtain⟨e1,ho1⟩:∃e1,(s.heap.update a (Obj.mapSeq λ_=>#[])).get? a=some (seqObj "list" #[] e1):=⟨_,get?_update_seq ho (λ_=>#[])⟩
 refine wpAny_bind (seqEpoch_at ho1 rfl (wpAny_bind (wpAny_newTuple ?_ (by simpa using hz))))
 refine wpAny_bind (wpAny_newList (wpAny_holding ?_))
 have ho6:(((s.heap.update a (Obj.mapSeq λ_=>#[])).push (seqObj "tuple" vs.toArray 0)).push (seqObj "list" #[] 0)).get? a=some (seqObj "list" #[] e1):=by
  rw[Heap.get?_push_ne _ _ _ (by rw[size_push',C6];exact Ab (Nat.lt_succ_of_lt ha)),Heap.get?_push_ne _ _ _ (by rw[C6];exact Ab ha)]
  exact ho1
 have keep:∀b o,b≠a->s.heap.get? b=some o->(((s.heap.update a (Obj.mapSeq λ_=>#[])).push (seqObj "tuple" vs.toArray 0)).push (seqObj "list" #[] 0)).get? b=some o:=λb o hb e =>
  AB _ (AB _ ((Az _ _ (CG hb)).trans e))
 show wpAny (model prog w) A _ P E { s with heap:=((s.heap.update a (Obj.mapSeq λ_=>#[])).push (seqObj "tuple" vs.toArray 0)).push (seqObj "list" #[] 0) }
 dsimp only
 simp only[if_true]
 refine wpAny_bind (wpAny_rule ?_)
 by_cases h2:vs.toArray.size<2
 ·rw[if_pos h2,if_pos h2]
  refine wpAny_bind (wpAny_pure ?_)
  rw[StateT.run_pure]
  refine wpAny_bind (wpAny_pure ?_)
  dsimp only
  have eo:((arrOf (SortSt.mk' general' (vs.toArray.zip vs.toArray).reverse #[] 7 none)).map (·.2)).reverse=vs.toArray:=by
   show((vs.toArray.zip vs.toArray).reverse.map (·.2)).reverse=vs.toArray
   apply Array.ext'
   simp only[B7,Array.toList_map,Array.toList_zip,List.map_reverse,Ci]
   exact abf_ vs
  refine wpAny_bind (seqEpoch_at ho6 rfl (wpAny_bind (listUpdate_at ho6 rfl ?_ (by simp) ?_)))
  ·simp only[bne_self_eq_false,Ay,if_false]
   refine wpAny_pure ?_
   have q:=h vs (List.Perm.refl _) (by
    match vs,hsz,h2 with
    |[],_,_=>exact .nil
    |[x],_,_=>exact Ca _ _
    |_::_::_,_,h2=>exfalso;simp at h2;lia)
   unfold sortedHeap at q
   rw[eo]
   exact q
  ·rw[eo,hsz];lia
 ·rw[if_neg h2,if_neg h2]
  obtain⟨k1,k2⟩:=hk _ keep (by lia)
  refine wpAny_bind (k1 _ _ ?_)
  have all:All M (arrOf (SortSt.mk' κ (vs.toArray.zip vs.toArray).reverse #[] 7 none)):=λi p hp=>by
   have hm:p∈(vs.toArray.zip vs.toArray).reverse:=EF hp
   have hm2:p∈vs.zip vs:=by
    have:p∈(vs.toArray.zip vs.toArray).toList:=by simpa using Array.mem_reverse.mp hm
    simpa using this
   obtain⟨e,m⟩:=mem_zip_self hm2
   have:p=(p.1,p.1):=Df rfl e.symm
   rw[this]
   exact hM _ m
  have z0:(arrOf (SortSt.mk' κ (vs.toArray.zip vs.toArray).reverse #[] 7 none)).size=vs.length:=by
   show(vs.toArray.zip vs.toArray).reverse.size=vs.length
   simp
  refine wpAny_bind (wpAny_mono (al8_ k2 (st:=SortSt.mk' κ (vs.toArray.zip vs.toArray).reverse #[] 7 none) (Q:=λ_ st'=>(arrOf st').Perm (vs.toArray.zip vs.toArray).reverse/\failedOf st'=none/\Srt rk (arrOf st') 0 vs.length) rfl all rfl rfl (by rw[z0];lia)
   λst' a1 a2 a3=>⟨a1,a2,by rw[z0]at a3;exact a3⟩) ?_ λ_ _ e=>e)
  rintro⟨⟨⟩,st'⟩ s' ⟨rfl,hp,hf,hs⟩
  dsimp only
  have zs:(arrOf st').size=vs.length:=by rw[hp.size_eq];exact z0
  have lp:(arrOf st').toList.Perm (vs.zip vs):=by
   have:=DW.mp hp
   rw[B7]at this
   exact this.trans ((List.reverse_perm _).trans (List.Perm.of_eq (by simp)))
  have eo:((arrOf st').map (·.2)).reverse=(((arrOf st').toList.map (·.2)).reverse).toArray:=by
   apply Array.ext'
   simp
  refine wpAny_bind (seqEpoch_at ho6 rfl (wpAny_bind (listUpdate_at ho6 rfl ?_ (by simp) ?_)))
  ·rw[hf]
   simp only[bne_self_eq_false,Ay,if_false]
   refine wpAny_pure ?_
   have q:=h (((arrOf st').toList.map (·.2)).reverse) ?_ ?_
   ·unfold sortedHeap at q
    rw[eo]
    exact q
   ·have:=lp.map (·.2)
    rw[abf_]at this
    exact(List.reverse_perm _).trans this
   ·rw[List.pairwise_reverse,B0]
    refine Bc.mpr λi j hi hj hij=>?_
    have li:i<(arrOf st').size:=by simpa using hi
    have lj:j<(arrOf st').size:=by simpa using hj
    have q:=hs i j (An _) (Bf hij) (by lia)
    rw[qA_ (AG li),qA_ (AG lj)]at q
    have twin:∀p∈(arrOf st').toList,p=(p.2,p.2):=λp m=>Df (mem_zip_self (lp.mem_iff.mp m)).1 rfl
    have ei:=twin (arrOf st').toList[i] (CS _)
    have ej:=twin (arrOf st').toList[j] (CS _)
    rw[<-ei,<-ej]
    simpa using q
  ·rw[Array.size_reverse,Array.size_map,zs];lia
theorem yL_{r:Addr}{vs:List Value}{Q:Value->Shared->Prop}(hz:vs.length<=sizeLine)(hM:∀v∈vs,M (v,v))
  (hc:∀(Q':List Value->Shared->Prop),(∀h' tk,(∀b o,s.heap.get? b=some o->h'.get? b=some o)->s.heap.objs.size<=h'.objs.size->Q' vs { s with heap:=h',toks:=tk })->wpAny (model prog w) A.in1 (collect (.ref r)) Q' E s)
  (hk:∀h' tk,(∀b o,s.heap.get? b=some o->h'.get? b=some o)->2<=vs.length->(∀(Q':SortKind->Shared->Prop)(E':Value->Shared->Prop),Q' κ { s with heap:=h',toks:=tk }->wpAny (model prog w) A.in1.in1 (keyKind' vs.toArray) Q' E' { s with heap:=h',toks:=tk })/\Ask prog w A.in1.in1 { s with heap:=h',toks:=tk } κ M rk)
  (h:∀h' tk D e (out:List Value),out.Perm vs->(out.Pairwise λx y=>rk (y,y)<=rk (x,x))->(∀b o,s.heap.get? b=some o->h'.get? b=some o)->s.heap.objs.size<=D->h'.get? D=some (seqObj "list" out.toArray e)->Q (.ref D) { s with heap:=h',toks:=tk }) :
  wpAny (model prog w) A (call (.builtin "sorted") [.ref r] [(Str.ofString "reverse",.bool true)]) Q E s:=by
 refine call_function_entry_kw kind_sorted plain_sorted entry_sorted (args_sorted_rev _ _) ?_
 unfold Builtin.«sorted»
 refine wpAny_bind (m:=checkCount "sorted" 1 1 _) (wpAny_pure ?_)
 refine wpAny_bind (hc _ λh' tk kp sz=>?_)
 refine wpAny_bind (wpAny_newList ?_ hz)
 have hoL:(h'.push (seqObj "list" vs.toArray 0)).get? h'.objs.size=some (seqObj "list" vs.toArray 0):=AI _ rfl
 have lt:∀b o,s.heap.get? b=some o->b<h'.objs.size:=λb o e=>AK (kp b o e)
 refine wpAny_bind (wpAny_holding (wpAny_call_entry_kw slot_list_sort ⟨_,hoL,rfl⟩ entry_list_sort (aft_ (s:={ s with heap:=h'.push (seqObj "list" vs.toArray 0),toks:=tk }) (κ:=κ) (M:=M) (rk:=rk) hoL hz hM (λh2 k2 l2=>?_) λout p o=>⟨_,rfl,?_⟩) (args_list_sort_rev _ _)))
 ·exact hk h2 tk (λb o e=>k2 b o (Ab (lt b o e)) (AB _ (kp b o e))) l2
 ·obtain⟨c,hc'⟩:=sortedHeap_at (vs:=vs) (out:=out.toArray) hoL
  refine wpAny_pure ⟨_,rfl,h _ tk h'.objs.size c out p o (λb o e=>?_) sz hc'⟩
  have ne:b≠h'.objs.size:=Ab (lt b o e)
  unfold sortedHeap
  refine(Az _ _ (CG ne)).trans (AB _ (AB _ ((Az _ _ (CG ne)).trans (AB _ (kp b o e)))))
end
end L2.Ts
namespace L2.Rw
open PySem PySem.W PySem.Calls PyProof.Rows PySem.Spec
section
variable{prog:Program}{w:World}{A:Around}{E:Value->Shared->Prop}{s:Shared}{d:Addr}{es:Array DictEntry}{ep:Nat}
theorem ad5_(lo:(d==sysModules)=false):KdlSrc prog w "dict" d d es.size (λi v=>∃h:i<es.size,v=es[i].key) (λh=>RawD h d es ep) where
 type:=λ_ hm=>hm.type
 there:=λ_ hm=>⟨hm.lt,hm.lt⟩
 keep:=λ_ _ hm hk=>hm.keep λo e=>hk d (.inl rfl) o e
 notList:=by decide
 notTuple:=by decide
 hint:=λ_ _ _ _ hm hq=>kdl_hint_dict hm.type hq
 iter:=λ_ _ hh hm=>⟨_,_,(λ_ _ hq=>ajv_ lo hm hq),ahi_ hh _ d (Ab hm.lt) es ep,⟨⟨_,AI _ rfl,rfl,rfl⟩,hm.keep λo e=>AB _ e⟩⟩
theorem acs_{T:String}{r:Addr}{n:Nat}{P:Nat->Value->Prop}{OK:Heap->Prop}{Q:List Value->Shared->Prop}(K:KdlSrc prog w T r d n P OK)(hh:A.handled=none)(hok:OK s.heap)(hn:n<=sizeLine)
  (hQ:∀h' tk acc,(∀b o,s.heap.get? b=some o->h'.get? b=some o)->s.heap.objs.size<=h'.objs.size->ItemsOf P acc n->Q acc.toList { s with heap:=h',toks:=tk }):wpAny (model prog w) A (collect (.ref r)) Q E s:=by
 obtain⟨tr,td⟩:=K.there _ hok
 unfold collect
 refine wpAny_bind (wpAny_runValue (codeAny_builtin DQ ?_))
 rw[Ba DR _]
 show wpAny _ A.in1 (newList []>>=λl=>again (.builtin "list.__iadd__" ⟨[l,.ref r],[]⟩)) _ _ s
 refine wpAny_bind (wpAny_newObj_type (wpAny_pure ⟨plainId_quiet Cb _,codeAny_builtin Dr ?_⟩))
 rw[Ba Cb _]
 have hok1:=K.keep _ (s.heap.push { cls:=.type "list",data:=.seq ([]:List Value).toArray }) hok λb _ o e=>AB _ e
 have key:=kdl_extend (A:=A) (s:={ s with heap:=s.heap.push { cls:=.type "list",data:=.seq ([]:List Value).toArray } })
  (R:=λ(q:Result)(s':Shared)=>∃(h':Heap)(tk:Nat)(acc:Array Value)(c:Nat),q=.ok (.ret (.ref s.heap.objs.size))/\s'={ s with heap:=h',toks:=tk }/\(∀b o,s.heap.get? b=some o->h'.get? b=some o)/\h'.get? s.heap.objs.size=some { cls:=.type "list",dict:=none,data:=.seq acc c,slots:=#[] }/\ItemsOf P acc n)
  K hh hok1 s.heap.objs.size (Bm tr) (Bm td) (.ref s.heap.objs.size) 0 (AI _ rfl)
  (λh' tk acc c kp hS it=>⟨h',tk,acc,c,rfl,rfl,λb o e=>kp b o (Ab (AK e)) (AB _ e),hS,it⟩) hn
 have fin:∀(q:Result)(s':Shared),(∃(h':Heap)(tk:Nat)(acc:Array Value)(c:Nat),q=.ok (.ret (.ref s.heap.objs.size))/\s'={ s with heap:=h',toks:=tk }/\(∀b o,s.heap.get? b=some o->h'.get? b=some o)/\h'.get? s.heap.objs.size=some { cls:=.type "list",dict:=none,data:=.seq acc c,slots:=#[] }/\ItemsOf P acc n) ->
   q=.ok (.ret (.ref s.heap.objs.size))/\wpAny (model prog w) A (load s.heap.objs.size>>=λo=>match o.data with|.seq xs _=>pure xs.toList|_=>unsupported "internal:collect") Q E s':=by
  rintro q s' ⟨h',tk,acc,c,rfl,rfl,kp,hS,it⟩
  exact⟨rfl,wpAny_bind (wpAny_load hS (wpAny_pure (hQ h' tk acc kp (Bf (AK hS)) it)))⟩
 refine wpAny_mono key (λf s' x=>?_) λe s' x=>?_
 ·cases f with
  |done f =>
   obtain⟨e,q⟩:=fin _ _ x
   cases e
   exact q
  |again c₁ =>
   refine⟨x.1,codeAny_mono x.2 λq s₂ y=>?_⟩
   obtain⟨e,q⟩:=fin _ _ y
   subst e
   exact q
 ·obtain⟨e',_⟩:=fin _ _ x
  cases e'
end
end L2.Rw
namespace L2.Ev
open PySem PySem.Spec PyProof.Rows
def zp_(cells:List (Str×Addr)):List (Str×NameKind)->List (Str×Addr)->List (Str×Addr)
 |[],acc=>acc
 |(n,k)::r,acc=>if (k==NameKind.free)=true then zp_ cells r ((n,(cells.lookup n).getD 0)::acc) else zp_ cells r acc
theorem x2_{env:Env}(names:List (Str×NameKind))(h:∀x∈names,x.2=.free->∃c,env.cells.lookup x.1=some c)(acc:List (Str×Addr)) :
  (do
   let mut cs:=acc
   for (name,kind) in names do
    if kind==.free then cs:=(name,<-cellOf env name)::cs
   return cs:Sem (List (Str×Addr)))=pure (zp_ env.cells names acc):=by
 induction names generalizing acc with
 |nil=>simp [zp_]
 |cons x r ih =>
  obtain⟨n,k⟩:=x
  have hr:∀x∈r,x.2=.free->∃c,env.cells.lookup x.1=some c:=λx hx=>h x (AC _ hx)
  by_cases hk:k=.free
  ·subst hk
   obtain⟨c,hc⟩:=h (n,.free) AD rfl
   have ih':=ih hr ((n,c)::acc)
   simp only[DG,beq_self_eq_true,if_true,cellOf,hc,zp_,Dl,pure_bind]at ih' ⊢
   exact ih'
  ·have hb:(k==NameKind.free)=false:=by simpa using hk
   have ih':=ih hr acc
   simp only[DG,hb,Ay,if_false,zp_,pure_bind]at ih' ⊢
   exact ih'
theorem jY_{cells:List (Str×Addr)}:∀{names:List (Str×NameKind)}{acc:List (Str×Addr)},(∀x∈names,x.2=.free->∃c,cells.lookup x.1=some c)->(∀x c,acc.lookup x=some c->cells.lookup x=some c) ->
  ∀x c,(zp_ cells names acc).lookup x=some c->cells.lookup x=some c
 |[],acc,_,ha,x,c,e=>ha x c e
 |(n,k)::r,acc,h,ha,x,c,e=>by
  have hr:∀x∈r,x.2=.free->∃c,cells.lookup x.1=some c:=λx hx=>h x (AC _ hx)
  unfold zp_ at e
  by_cases hk:(k==NameKind.free)=true
  ·rw[if_pos hk]at e
   refine jY_ hr (λy d e'=>?_) x c e
   obtain⟨c0,hc0⟩:=h (n,k) AD (by simpa using hk)
   rw[BD]at e'
   cases hy:y==n with
   |true =>
    rw[hy]at e'
    have e1:y=n:=by simpa using hy
    subst e1
    have e2:(cells.lookup y).getD 0=d:=by simpa using e'
    have hc1:cells.lookup y=some c0:=hc0
    rw[hc1]at e2 ⊢
    simpa using e2
   |false=>rw[hy]at e';exact ha y d e'
  ·rw[if_neg hk]at e
   exact jY_ hr ha x c e
theorem js_{cells:List (Str×Addr)}:∀{names:List (Str×NameKind)}{acc:List (Str×Addr)}{x:Str},((∃c,acc.lookup x=some c)∨(x,NameKind.free)∈names)->∃c,(zp_ cells names acc).lookup x=some c
 |[],acc,x,h=>by
  rcases h with h|h
  ·exact h
  ·simp at h
 |(n,k)::r,acc,x,h=>by
  unfold zp_
  by_cases hk:(k==NameKind.free)=true
  ·rw[if_pos hk]
   refine js_ ?_
   rw[BD]
   cases hy:x==n with
   |true=>exact .inl ⟨_,rfl⟩
   |false =>
    rcases h with h|h
    ·exact .inl h
    ·rcases AL.mp h with e|h
     ·injection e with e1 e2
      subst e1
      simp at hy
     ·exact .inr h
  ·rw[if_neg hk]
   refine js_ ?_
   rcases h with h|h
   ·exact .inl h
   ·rcases AL.mp h with e|h
    ·injection e with e1 e2
     subst e2
     simp at hk
    ·exact .inr h
theorem mem_of_lookup{α β:Type}[BEq α][LawfulBEq α]:∀{l:List (α×β)}{x:α}{k:β},l.lookup x=some k->(x,k)∈l
 |[],_,_,h=>by simp at h
 |(n,j)::r,x,k,h=>by
  rw[BD]at h
  cases hy:x==n with
  |true =>
   rw[hy]at h
   have e1:x=n:=by simpa using hy
   have e2:j=k:=by simpa using h
   subst e1 e2
   exact AD
  |false=>rw[hy]at h;exact AC _ (mem_of_lookup h)
theorem zC_{env:Env}:∀{names:List (Str×NameKind)}{x:Str}{k:NameKind},(∀y∈names,y.2≠.cell)->(k=.cell∨k=.free) ->
  (names.map λ(n,k)=>if (k==NameKind.free&&env.scope.kind==.function&&env.kindOf n==some .cell) then (n,NameKind.cell) else (n,k)).lookup x=some k->(x,NameKind.free)∈names
 |[],_,_,_,_,h=>by simp at h
 |(n,j)::r,x,k,hc,hk,h=>by
  have hr:∀y∈r,y.2≠.cell:=λy hy=>hc y (AC _ hy)
  have hj:j≠.cell:=hc (n,j) AD
  have h':List.lookup x ((if (j==NameKind.free&&env.scope.kind==.function&&env.kindOf n==some .cell)=true then (n,NameKind.cell) else (n,j))::r.map λ(n,k)=>if (k==NameKind.free&&env.scope.kind==.function&&env.kindOf n==some .cell) then (n,NameKind.cell) else (n,k))=some k:=h
  by_cases c:(j==NameKind.free&&env.scope.kind==.function&&env.kindOf n==some .cell)=true
  ·rw[if_pos c,BD]at h'
   simp only[AH]at c
   have ej:j=.free:=by simpa using c.1.1
   cases hy:x==n with
   |true =>
    have e1:x=n:=by simpa using hy
    subst e1 ej
    exact AD
   |false=>rw[hy]at h';exact AC _ (zC_ hr hk h')
  ·rw[if_neg c,BD]at h'
   cases hy:x==n with
   |true =>
    rw[hy]at h'
    have e1:x=n:=by simpa using hy
    have e2:j=k:=by simpa using h'
    subst e1 e2
    rcases hk with hk|hk
    ·exact absurd hk hj
    ·subst hk;exact AD
   |false=>rw[hy]at h';exact AC _ (zC_ hr hk h')
theorem xd_{env:Env}:∀{names:List (Str×NameKind)}{x:Str},names.lookup x=some .free ->
  (names.map λ(n,k)=>if (k==NameKind.free&&env.scope.kind==.function&&env.kindOf n==some .cell) then (n,NameKind.cell) else (n,k)).lookup x=some .cell ∨
  (names.map λ(n,k)=>if (k==NameKind.free&&env.scope.kind==.function&&env.kindOf n==some .cell) then (n,NameKind.cell) else (n,k)).lookup x=some .free
 |[],_,h=>by simp at h
 |(n,j)::r,x,h=>by
  have key:∀(z:Str×NameKind),z=(if (j==NameKind.free&&env.scope.kind==.function&&env.kindOf n==some .cell)=true then (n,NameKind.cell) else (n,j)) ->
   (List.lookup x (z::r.map λ(n,k)=>if (k==NameKind.free&&env.scope.kind==.function&&env.kindOf n==some .cell) then (n,NameKind.cell) else (n,k))=some .cell ∨
    List.lookup x (z::r.map λ(n,k)=>if (k==NameKind.free&&env.scope.kind==.function&&env.kindOf n==some .cell) then (n,NameKind.cell) else (n,k))=some .free):=by
   intro z hz
   rw[BD]at h
   cases hy:x==n with
   |true =>
    rw[hy]at h
    have e2:j=.free:=by simpa using h
    subst e2
    by_cases c:(NameKind.free==NameKind.free&&env.scope.kind==.function&&env.kindOf n==some .cell)=true
    ·rw[if_pos c]at hz;subst hz;left;rw[BD,hy]
    ·rw[if_neg c]at hz;subst hz;right;rw[BD,hy]
   |false =>
    rw[hy]at h
    have ih:=xd_ (env:=env) h
    have hz1:z.1=n:=by rw[hz];split<;>rfl
    obtain⟨z1,z2⟩:=z
    simp only at hz1
    subst hz1
    rw[BD,hy]
    exact ih
  exact key _ rfl
structure Bk where
 C:Addr
 s:Shared
 H:Hp
 ex:List Addr
abbrev blk(X:Cx)(N':List Str)(scope:Scope)(b:Bk):Cx :=
 { X with N:=N',s₀:=b.s,H₀:=b.H,env:=compEnvC scope (zp_ X.env.cells scope.names []) b.C X.env,outer:=X.stack,stack:=X.stack,ex:=b.ex,fn:=λ_=>false,pn:=[],xe:=λ_ _=>False }
structure BkScope(X:Cx)(N':List Str)(src:List (Option Nat))(scope:Scope):Prop where
 kind:scope.kind=.function
 nocell:∀y∈scope.names,y.2≠.cell
 names:∀y∈scope.names,y.2=.local->scope.names.lookup y.1=some .local
 frees:∀y∈scope.names,y.2=.free->X.env.kindOf y.1=some .cell∨X.env.kindOf y.1=some .free
 len:src.length=N'.length
 out:∀i j:Nat,src[i]?=some (some j)->∃x:Str,N'[i]?=some x/\X.N[j]?=some x/\scope.names.lookup x=some .free
def jX_(src:List (Option Nat))(σ:St):St:=src.map λo=>o.bind λj=>(σ[j]?).bind id
def PTs(X:Cx)(ifs:List Expr)(t:TT):Prop :=
 ∀(pins:List (Addr×Obj))(s:Shared)(σ:St)(H:Hp)(Q:Bool->Hp->Prop),Inv X pins σ H s->t σ H Q ->
  wpAny (model X.prog X.w) X.A (forIn ifs true λc r=>if r=true then do let ok <-isTrue c X.env (eval c X.env);pure (ForInStep.yield ok) else pure (ForInStep.yield r)) (TP X pins σ Q) X.xe s
def tYes:TT:=λ_ H Q=>Q true H
theorem qX_{X:Cx}:PTs X [] tYes:=λ_ _ _ H _ I h=>wpAny_tests_nil ⟨H,I,h⟩
theorem xr_{X:Cx}{c:Expr}{t:TT}(h:PT X c t):PTs X [c] t:=λpins s σ H Q I q=>wpAny_tests_one (h pins s σ H Q I q)
def y8_(src:List (Option Nat))(wi:TI)(g:Bk->TG)(tc:Bk->TT)(te:Bk->TE):TE:=λσ H Q=>wi σ H λJ H1=>∀(b:Bk)(D:Addr),H1 D=none ->
 ∃W:Nat->Nat->St->Hp->Prop,(∃m,W 0 m (jX_ src σ) (upd H1 D (.lst [])))/\∀i m σ' H',W i m σ' H' ->
  (J.stop i H'/\Q (.ref D) H')∨(J.go i H'/\∃N:St->Hp->Prop,(∀σ'' H'',N σ'' H''->∃m',m'<m/\W (i+1) m' σ'' H'') /\
   ∀x H'',J.yld i H' x H''->g b x σ' H'' λσ2 H2=>tc b σ2 H2 λok H3=>if ok=true then te b σ2 H3 λy H4=>∃ys,H4 D=some (.lst ys)/\ys.length<sizeLine/\N σ2 (upd H4 D (.lst (ys++[y]))) else N σ2 H3)
section
variable{prog:Program}{w:World}{A:Around}{R:Result->Shared->Prop}{s:Shared}
theorem yb_{elt target iter:Expr}{ifs:List Expr}{scope:Scope}{pos:Pos}{it acc:Value}{env:Env}(I:Nat->Shared->Prop)
  (turn:∀n s,I n s->wpAny (model prog w) A (pyNext it) (λr s₁=>match r with
   |none=>R (.ok .next) s₁
   |some v=>wpAny (model prog w) A (letOwnedTupleGo target it v) (λ_ s₁'=>wpAny (model prog w) A (assign target env v) (λ_ s₂ =>
     wpAny (model prog w) A (forIn ifs true λc r=>if r=true then do let ok <-isTrue c env (eval c env);pure (ForInStep.yield ok) else pure (ForInStep.yield r)) (λok s₃ =>
      if ok=true then wpAny (model prog w) A (eval elt env) (λx s₄ =>
       wpAny (model prog w) A (call (.builtin "list.append") [acc,x]) (λ_ s₅=>∃m,m<n/\I m s₅) (λ_ _=>False) s₄) (λ_ _=>False) s₃
      else ∃m,m<n/\I m s₃) (λ_ _=>False) s₂) (λ_ _=>False) s₁') (λ_ _=>False) s₁) (λ_ _=>False) s)
  (n:Nat) (h:I n s) :
  codeAny (model prog w) A (.compLoop (.ListComp elt [⟨target,iter,ifs,0⟩] scope pos) 0 it acc env) R s:=by
 refine codeAny_loop rfl I (λn s hI=>?_) n h
 show wpAny _ A ((compTurn (.ListComp elt [⟨target,iter,ifs,0⟩] scope pos) 0 it acc env).onRaise (λx=>do noteFrame x env;theTreesLotGoes x)) _ _ s
 refine wpAny_noted ?_
 rw[compTurn_list]
 refine wpAny_bind (wpAny_standAt (wpAny_bind (wpAny_mono (turn n s hI) (λr s₁ h₁=>?_) λ_ _ h'=>h'.elim)))
 cases r with
 |none=>exact wpAny_pure h₁
 |some v =>
  refine wpAny_bind (wpAny_mono h₁ (λ_ s₁' h₁'=>?_) λ_ _ h'=>h'.elim)
  refine wpAny_bind (wpAny_mono h₁' (λ_ s₂ h₂=>wpAny_bind (wpAny_mono h₂ (λok s₃ h₃=>?_) λ_ _ h'=>h'.elim)) λ_ _ h'=>h'.elim)
  cases ok with
  |false=>exact wpAny_pure ⟨rfl,h₃⟩
  |true =>
   exact wpAny_bind (wpAny_bind (wpAny_mono h₃ (λx s₄ h₄=>wpAny_bind (wpAny_mono h₄ (λ_ s₅ h₅=>wpAny_pure (wpAny_pure ⟨rfl,h₅⟩)) λ_ _ h'=>h'.elim)) λ_ _ h'=>h'.elim))
end
theorem aap_{X:Cx}{elt tg iter:Expr}{ifs:List Expr}{scope:Scope}{pos pos':Pos}{N':List Str}{src:List (Option Nat)}{wi:TI}{g:Bk->TG}{tc:Bk->TT}{te:Bk->TE}(hc:X.calm=true)(hi:PI X tg iter wi)(S:BkScope X N' src scope)
  (hg:∀b,PG (blk X N' scope b) tg (g b)) (ht:∀b,PTs (blk X N' scope b) ifs (tc b)) (he:∀b,PE (blk X N' scope b) elt (te b)) (hs:∀x,foldedSetIterable iter X.env x=pure x) (use:Option (Value->Sem Unit)) (R:Value->Shared->Prop)
  {pins:List (Addr×Obj)} {s:Shared} {σ:St} {H:Hp} {Q:V->Hp->Prop} (I:Inv X pins σ H s) (h:y8_ src wi g tc te σ H Q)
  (fin:∀(D C:Addr)(H5:Hp)(s6:Shared)(m:Str->Option Value),s6.heap.Ns C m->jl_ X pins H5 C->(∀h',Heap.SameBut C s6.heap h'->Inv X pins σ H5 { s6 with heap:=h' })->Q (.ref D) H5->compPost (model X.prog X.w) X.A X.xe use R (.ref D) C (.ok .next) s6) :
  wpAny (model X.prog X.w) X.A (comprehension (.ListComp elt [⟨tg,iter,ifs,0⟩] scope pos) scope X.env pos' (newList []) false (eval iter X.env) use) R X.xe s:=by
 have hfr:∀x∈scope.names,x.2=.free->∃c,X.env.cells.lookup x.1=some c:=λx hx hf=>I.ok.has x.1 (S.frees x hx hf)
 have clS:∀x c,(zp_ X.env.cells scope.names []).lookup x=some c->X.env.cells.lookup x=some c:=jY_ hfr (λx c e=>by simp at e)
 refine wpAny_comprehension_free (use:=use) rfl hs (x2_ scope.names hfr []) S.kind S.names ?_
 refine thn (hi pins s σ H _ I h) λv s1 h1=>thn h1 λitv s2 h2=>?_
 obtain⟨it,fp,tn,J,H2,rfl,I2,T,st2,f2,h3⟩:=h2
 have hD:H2 s2.heap.objs.size=none:=I2.fresh
 refine wpAny_newObj_type ?_
 have I3:Inv X pins σ (upd H2 s2.heap.objs.size (.lst [])) { s2 with heap:=s2.heap.push { cls:=.type "list",data:=.seq ([]:List Value).toArray } } :=
  I2.laid (t':=s2.toks) (λb u e=>AB _ e) (AF _) ⟨An _,[],0,.nil,AI _ rfl⟩
 have hfp:∀b∈fp,b<s2.heap.objs.size:=λb hb=>by
  obtain⟨o,e,_⟩:=T.obj _ _ st2 b hb
  exact AK e
 have st3:tn 0 (s2.heap.push { cls:=.type "list",data:=.seq ([]:List Value).toArray }):=T.keep _ _ _ st2 λb _ o e=>AB _ e
 generalize hs3:({ s2 with heap:=s2.heap.push { cls:=.type "list",data:=.seq ([]:List Value).toArray } }:Shared)=s3 at I3 ⊢
 have st3':tn 0 s3.heap:=by rw[<-hs3];exact st3
 have hsz3:s3.heap.objs.size=s2.heap.objs.size+1:=by rw[<-hs3];exact BO ..
 have fp3:∀b∈fp,(upd H2 s2.heap.objs.size (.lst [])) b=none:=λb hb=>by rw[qk_ (Ab (hfp b hb))];exact(f2 b hb).1
 generalize hDe:s2.heap.objs.size=D at *
 generalize hH3:upd H2 D (.lst [])=H3 at *
 refine wpAny_newFunctionEnv S.nocell (by intro y hy;simp at hy) (λh₁ hns₁ hsb₁=>?_) S.kind
 have old:∀b o,s3.heap.get? b=some o->h₁.get? b=some o:=λb o e=>hsb₁.extBut b o (Ab (AK e)) (AB _ e)
 have Yok:(blk X N' scope ⟨s3.heap.objs.size,s3,H3,fp⟩).Ok:=by
  refine⟨I.ok.mod,S.kind,I.ok.glob,I.ok.blt,AF _,λx y c e1 e2=>I.ok.inj x y c (clS x c e1) (clS y c e2),λx hx=>?_,λx c z=>(by cases z),I.ok.hd,I.ok.frames,.inl rfl,λb hb=>⟨?_,λx c e=>(f2 b hb).2.2.2.2.1 x c (clS x c e)⟩,I3.bs,?_,λb o e hb=>?_,λb hb z=>?_,I3.stack,I3.stkFree⟩
  ·have hx':(x,NameKind.free)∈scope.names:=by
    rcases hx with hx|hx
    ·exact zC_ (env:=X.env) S.nocell (.inl rfl) hx
    ·exact zC_ (env:=X.env) S.nocell (.inr rfl) hx
   exact js_ (.inr hx')
  ·exact Ab (Ao (hfp b hb) (by rw[hsz3];exact Bx _))
  ·exact Ac I.ok.bsz I3.sz
  ·rcases (f2 b hb).2.2.2.1 with z|z
   ·exact I.ok.noex b o e z
   ·exact absurd (Ao (AK e) (Ac I.ok.bsz z)) (Bl _)
  ·rcases AL.mp (I3.stkSub b z) with e|e
   ·exact(f2 b hb).2.1 e
   ·exact(f2 b hb).2.2.1 e
 generalize hY:blk X N' scope ⟨s3.heap.objs.size,s3,H3,fp⟩=Y at Yok
 have I4:Inv (blk X N' scope ⟨s3.heap.objs.size,s3,H3,fp⟩) [] (jX_ src σ) H3 { s3 with heap:=h₁,toks:=s3.toks+([]:List (Str×Value)).length }:=by
  subst hY
  refine⟨Yok,rfl,I3.bare,Un.kept old,⟨_,hns₁,λi x v e1 e2 e3=>?_⟩,λx c e=>?_,I3.fresh,λx c e=>I3.freeC x c (clS x c e),λp hp=>by simp at hp,I3.hok.kept old,?_⟩
  ·unfold jX_ at e2
   rw[AV]at e2
   cases hsrc:src[i]? with
   |none=>rw[hsrc]at e2;cases e2
   |some o =>
    rw[hsrc]at e2
    cases o with
    |none=>have e2':some (none:Option V)=some (some v):=e2;cases e2'
    |some j =>
     have e2':some ((σ[j]?).bind id)=some (some v):=e2
     have e2'':(σ[j]?).bind id=some v:=AZ e2'
     have hσ:σ[j]?=some (some v):=by
      cases q:σ[j]? with
      |none=>rw[q]at e2'';cases e2''
      |some z =>
       rw[q]at e2''
       have:z=some v:=e2''
       rw[this]
     obtain⟨x',n1,n2,n3⟩:=S.out i j hsrc
     have ex:x'=x:=AZ (n1.symm.trans e1)
     subst ex
     obtain⟨m0,_,hl⟩:=I3.loc
     have hk:=S.frees (x',.free) (mem_of_lookup n3) rfl
     have hvis:Vis X.env.scope x':=hk.elim (λz=>.inr (.inl z)) λz=>.inr (.inr z)
     obtain⟨u,r,l⟩:=hl j x' v n2 hσ hvis
     refine⟨u,r,.inr ?_⟩
     rcases l with⟨l1,_⟩|⟨_,c,l2,o,l3,l4⟩
     ·rcases hk with z|z
      ·rw[show X.env.kindOf x'=some .local from l1]at z;cases z
      ·rw[show X.env.kindOf x'=some .local from l1]at z;cases z
     ·obtain⟨c',hc'⟩:=js_ (cells:=X.env.cells) (names:=scope.names) (acc:=[]) (.inr (mem_of_lookup n3))
      have e4:=clS x' c' hc'
      rw[l2]at e4
      cases e4
      exact⟨xd_ (env:=X.env) n3,c,hc',o,old _ _ l3,l4⟩
  ·obtain⟨v,o,ho,hd⟩:=I3.cell x c (clS x c e)
   exact⟨v,o,old _ _ ho,hd⟩
  ·show(jX_ src σ).length=N'.length
   unfold jX_
   rw[AA]
   exact S.len
 obtain⟨W,⟨m0,w0⟩,turn⟩:=h3 ⟨s3.heap.objs.size,s3,H3,fp⟩ D hD
 rw[hH3]at w0
 have loop:codeAny (model X.prog X.w) X.A (.compLoop (.ListComp elt [⟨tg,iter,ifs,0⟩] scope pos) 0 (.ref it) (.ref D) (blk X N' scope ⟨s3.heap.objs.size,s3,H3,fp⟩).env)
   (compPost (model X.prog X.w) X.A X.xe use R (.ref D) s3.heap.objs.size) { s3 with heap:=h₁,toks:=s3.toks+([]:List (Str×Value)).length }:=by
  have stat:∀{H':Hp},(∀b∈fp,H' b=none)->∀b∈fp,jl_ (blk X N' scope ⟨s3.heap.objs.size,s3,H3,fp⟩) [] H' b:=λhn b hb =>
   ⟨hn b hb,(I4.ok.exf b hb).1,I4.ok.exfs b hb,.inl hb,(I4.ok.exf b hb).2,λp hp=>by simp at hp⟩
  refine yb_ (λn s'=>∃i σ' H',Inv (blk X N' scope ⟨s3.heap.objs.size,s3,H3,fp⟩) [] σ' H' s'/\tn i s'.heap/\(∀b∈fp,H' b=none)/\W i n σ' H') ?_ m0
   ⟨0,_,H3,I4,T.keep _ _ _ st3' λb _ o e=>old b o e,fp3,w0⟩
  rintro n s5 ⟨i,σ5,H5,I5,st5,fr5,w5⟩
  rcases turn i n σ5 H5 w5 with⟨stop,qn⟩|⟨go,N,hN,step⟩
  ·refine thn (T.done (blk X N' scope ⟨s3.heap.objs.size,s3,H3,fp⟩) rfl rfl rfl hc i [] s5 σ5 H5 _ I5 (stat fr5) st5 stop) λr s6 ⟨hr,I6⟩=>?_
   subst hr
   obtain⟨m,hn,_⟩:=I6.loc
   have hC:H5 s3.heap.objs.size=none:=I6.free
   refine fin D s3.heap.objs.size H5 s6 m hn (I3.fpOk (AF _) hC) (λh' sb=>?_) qn
   have nC:∀b o,s3.heap.get? b=some o->b≠s3.heap.objs.size:=λb o e=>Ab (AK e)
   have keep:∀b o,b≠s3.heap.objs.size->s6.heap.get? b=some o->h'.get? b=some o:=λb o hb e=>(sb.2 b hb).trans e
   have hok:HOk X.prog X.w H5 h':=λb u e=>(I6.hok b u e).stay (λc v hc q=>keep c v (by
    rcases hc with z|z
    ·rw[z];intro z2;rw[z2,hC]at e;cases e
    ·intro z2;rw[z2,hC]at z;cases z) q) (λ_ q=>q) λ_ _ q=>q
   have u6:Un (frs X.stack) fp H3 H5 s3.heap s6.heap:=I6.base
   have un:Un (frs X.stack) fp H3 H5 s3.heap h':=⟨λb o e n hb hx=>keep b o (nC b o e) (u6.keep b o e n hb hx),λb o e n hb hx=>by
     obtain⟨sl,q⟩:=u6.slot b o e n hb hx
     exact⟨sl,keep b _ (nC b o e) q⟩,u6.free,λb o e hx=>by
     obtain⟨o',q⟩:=u6.there b o e hx
     exact⟨o',keep b _ (nC b o e) q⟩,u6.tups,u6.frzs,u6.tbls⟩
   refine I3.call' (s':={ s6 with heap:=h' }) (ch:=fp) I6.os un hok I6.bare λb hb=>?_
   exact⟨(f2 b hb).2.2.2.1,(f2 b hb).2.1,(f2 b hb).2.2.2.2.1,(f2 b hb).2.2.2.2.2⟩
  ·refine thn (T.item (blk X N' scope ⟨s3.heap.objs.size,s3,H3,fp⟩) rfl rfl rfl hc i [] s5 σ5 H5 _ I5 (stat fr5) st5 go) λr s6 ⟨u,hr,h6⟩=>?_
   subst hr
   refine thn h6 λ_ s7 ⟨x,H7,I7,r7,y7,st7,fr7⟩=>?_
   have I7':=I7.pinned (stat fr7) (T.obj _ _ st7)
   have again:∀{σ9:St}{H9:Hp}{s9:Shared},Inv (blk X N' scope ⟨s3.heap.objs.size,s3,H3,fp⟩) ([]++xx_ fp s7.heap) σ9 H9 s9->N σ9 H9->∃m,m<n/\∃i σ' H',Inv (blk X N' scope ⟨s3.heap.objs.size,s3,H3,fp⟩) [] σ' H' s9/\tn i s9.heap/\(∀b∈fp,H' b=none)/\W i m σ' H':=λ{σ9 H9 s9} I9 n9=>by
    obtain⟨m',hm,w9⟩:=hN σ9 H9 n9
    refine⟨m',hm,i+1,σ9,H9,I9.unpinned,T.keep _ _ _ st7 λb hb o e=>(I9.pin (b,o) (Af _ (Af _ (jc_ hb e)))).1,λb hb=>?_,w9⟩
    obtain⟨o,e,d⟩:=T.obj _ _ st7 b hb
    exact(I9.pin (b,o) (Af _ (Af _ (jc_ hb e)))).2.1
   refine thn (hg _ _ s7 σ5 H7 x u _ I7' r7 (step x H7 y7)) λ_ s8 ⟨σ8,H8,I8,q8⟩=>?_
   refine thn (ht _ _ s8 σ8 H8 _ I8 q8) λok s9 ⟨H9,I9,q9⟩=>?_
   cases ok with
   |false=>exact again I9 q9
   |true =>
    refine thn (he _ _ s9 σ8 H9 _ I9 q9) λyv s10 ⟨y,H10,I10,r10,ys,e10,l10,n10⟩=>?_
    refine thn (q7_ _ s10 σ8 H10 (.ref D) [y] (.ref D) [yv] (λ_ H11=>N σ8 H11) I10 rfl (.cons r10 .nil) ⟨D,ys,y,rfl,rfl,e10,l10,n10⟩) λ_ s11 ⟨_,H11,I11,_,n11⟩=>again I11 n11
 have self:=T.self X.A 0 { s3 with heap:=h₁,toks:=s3.toks+([]:List (Str×Value)).length } (λit' s'=>codeAny (model X.prog X.w) X.A (.compLoop (.ListComp elt [⟨tg,iter,ifs,0⟩] scope pos) 0 it' (.ref D) (blk X N' scope ⟨s3.heap.objs.size,s3,H3,fp⟩).env)
   (compPost (model X.prog X.w) X.A X.xe use R (.ref D) s3.heap.objs.size) s') (notedBy (model X.prog X.w) X.A (blk X N' scope ⟨s3.heap.objs.size,s3,H3,fp⟩).env λx s'=>compPost (model X.prog X.w) X.A X.xe use R (.ref D) s3.heap.objs.size (.error x) s')
   (T.keep _ _ _ st3' λb _ o e=>old b o e) loop
 exact codeAny_compStart_list loop self
theorem qN_{X:Cx}{elt tg iter:Expr}{ifs:List Expr}{scope:Scope}{pos:Pos}{N':List Str}{src:List (Option Nat)}{wi:TI}{g:Bk->TG}{tc:Bk->TT}{te:Bk->TE}(hc:X.calm=true)(hi:PI X tg iter wi)(S:BkScope X N' src scope)
  (hg:∀b,PG (blk X N' scope b) tg (g b)) (ht:∀b,PTs (blk X N' scope b) ifs (tc b)) (he:∀b,PE (blk X N' scope b) elt (te b)) (hs:∀x,foldedSetIterable iter X.env x=pure x:=by intro _;rfl) :
  PE X (.ListComp elt [⟨tg,iter,ifs,0⟩] scope pos) (y8_ src wi g tc te):=by
 intro pins s σ H Q I h
 rw[eval_ListComp]
 exact aap_ hc hi S hg ht he hs none (EP X pins σ Q) I h λD C H5 s6 m hn _ k q=>⟨m,hn,λh' sb=>⟨.ref D,H5,k h' sb,rfl,q⟩⟩
theorem akw_{X:Cx}{elt tg iter:Expr}{ifs:List Expr}{scope:Scope}{pos spos py:Pos}{N':List Str}{src:List (Option Nat)}{wi:TI}{g:Bk->TG}{tc:Bk->TT}{te:Bk->TE}{i:Nat}{y:Str}(hN:X.N.Nodup)(hy:X.N[i]?=some y)(hx:Loc X.env.scope y)
  (hw:swapsWith (.ListComp elt [⟨tg,iter,ifs,0⟩] scope pos) (some (.Name y py)) spos.line X.env=pure true) (hc:X.calm=true) (hi:PI X tg iter wi) (S:BkScope X N' src scope)
  (hg:∀b,PG (blk X N' scope b) tg (g b)) (ht:∀b,PTs (blk X N' scope b) ifs (tc b)) (he:∀b,PE (blk X N' scope b) elt (te b)) (hs:∀x,foldedSetIterable iter X.env x=pure x:=by intro _;rfl)
  (hf:X.fn y=true∨X.env.scope.names.lookup y=some .local:=by first|exact .inl rfl|exact .inr rfl|assumption) :
  PS X (.Assign [.Name y py] (.ListComp elt [⟨tg,iter,ifs,0⟩] scope pos) spos) (tAsg (y8_ src wi g tc te) (jy_ i)):=by
 intro pins s σ H D I h
 rw[exec_Assign_Name_used _ _ _ _ hw]
 refine wpAny_bind (wpAny_standAt (wpAny_bind ?_))
 show wpAny _ X.A (do let _ <-comprehension (.ListComp elt [⟨tg,iter,ifs,0⟩] scope pos) scope X.env _ (newList []) false (eval iter X.env) (some (assign (.Name y py) X.env))) _ _ s
 refine wpAny_bind (wpAny_mono (aap_ hc hi S hg ht he hs (some (assign (.Name y py) X.env)) (λ_ s'=>SP X pins D .next s') I h ?_) (λ_ s' hq=>wpAny_pure (wpAny_pure hq)) λ_ _ e=>e)
 intro L C H5 s6 m hn fp k q
 show wpAny _ X.A (assign (.Name y py) X.env (.ref L)) _ _ _
 have I6:Inv X pins σ H5 s6:=k s6.heap ⟨rfl,λ_ _=>rfl⟩
 refine wpAny_assign_Name (v8_ I6 hN hy hx (v:=.ref L) rfl (λs7 I7 ⟨a,sb,ha⟩=>?_) hf)
 have hCa:C≠a:=by
  rcases ha with rfl|ha
  ·exact fp.2.1
  ·exact λz=>fp.2.2.2.2.1 _ _ ha z.symm
 refine⟨m,hn.sameBut sb hCa,λh' sb'=>⟨_,H5,?_,q⟩⟩
 have keep:∀b o,b≠C->s7.heap.get? b=some o->h'.get? b=some o:=λb o hb e=>(sb'.2 b hb).trans e
 have hok:HOk X.prog X.w H5 h':=λb u e=>(I7.hok b u e).stay (λc v hc' q'=>keep c v (by
  rcases hc' with z|z
  ·rw[z];intro z2;rw[z2,fp.1]at e;cases e
  ·intro z2;rw[z2,fp.1]at z;cases z) q') (λ_ q'=>q') λ_ _ q'=>q'
 refine I7.call' (s':={ s7 with heap:=h' }) (ch:=[C]) rfl ⟨λb o e n hb hx'=>keep b o (λz=>hx' (by rw[z];exact AD ..)) e,λb o e n hb hx'=>⟨o.slots,keep b o (λz=>hx' (by rw[z];exact AD ..)) e⟩,λb o e n hx'=>n,λb o e hx'=>⟨o,keep b o (λz=>hx' (by rw[z];exact AD ..)) e⟩,λ_ _ e=>e,λ_ _ _ e=>e,λ_ ps e=>⟨#[],by rw[Array.append_empty];exact e⟩⟩ hok I7.bare λb hb=>?_
 rw[AT.mp hb]
 exact⟨fp.2.2.2.1,fp.2.1,fp.2.2.2.2.1,fp.2.2.2.2.2⟩
end L2.Ev
namespace L2.Ev
open PySem PySem.Spec PyProof.Rows
theorem ju_{α:Type}[Dat α]{J:It}{n:Nat}{σ0:St}{H1:Hp}{D:Addr}{Q:V->Hp->Prop}{g:TG}{tc:TT}{te:TE}(hD:H1 D=none)(Sp:St->Prop)(out:Nat->Option α)(hn:n<=sizeLine)(h0:Sp σ0)
  (hstop:∀H',Same H1 H'->J.stop n H') (hgo:∀i H',i<n->Same H1 H'->J.go i H')
  (hturn:∀(i:Nat)(σ':St)(H':Hp)(Yes:V->St->Hp->Prop)(No:St->Hp->Prop),i<n->Sp σ'->Same H1 H'->(∀y σ2 H4 a,Sp σ2->Same H' H4->out i=some a->Dat.is H4 y a->Yes y σ2 H4)->(∀σ2 H3,Sp σ2->Same H' H3->out i=none->No σ2 H3) ->
   ∀x H'',J.yld i H' x H''->g x σ' H'' λσ2 H2=>tc σ2 H2 λok H3=>if ok=true then te σ2 H3 λy H4=>Yes y σ2 H4 else No σ2 H3)
  (hend:∀H',Same H1 H'->LstAt H' D ((List.range n).filterMap out)->Q (.ref D) H') :
  ∃W:Nat->Nat->St->Hp->Prop,(∃m,W 0 m σ0 (upd H1 D (.lst [])))/\∀i m σ' H',W i m σ' H' ->
  (J.stop i H'/\Q (.ref D) H')∨(J.go i H'/\∃N:St->Hp->Prop,(∀σ'' H'',N σ'' H''->∃m',m'<m/\W (i+1) m' σ'' H'') /\
   ∀x H'',J.yld i H' x H''->g x σ' H'' λσ2 H2=>tc σ2 H2 λok H3=>if ok=true then te σ2 H3 λy H4=>∃ys,H4 D=some (.lst ys)/\ys.length<sizeLine/\N σ2 (upd H4 D (.lst (ys++[y]))) else N σ2 H3):=by
 have s1:∀{H':Hp}(o:HO),Same H1 H'->Same H1 (upd H' D o):=λo e b u q=>by rw[qk_ (qn_ q hD)];exact e b u q
 refine⟨λi m σ' H'=>m=n-i/\i<=n/\Sp σ'/\Same H1 H'/\LstAt H' D ((List.range i).filterMap out),⟨n,by simp,An _,h0,s1 _ (Same.refl _),[],qc_,.nil⟩,?_⟩
 rintro i m σ' H' ⟨rfl,hi,hS,hH,hL⟩
 by_cases hlt:i<n
 ·refine .inr ⟨hgo i H' hlt hH,λσ2 H2=>Sp σ2/\Same H1 H2/\LstAt H2 D ((List.range (i+1)).filterMap out),λσ2 H2 ⟨a,b,c⟩=>⟨n-(i+1),by omega,rfl,hlt,a,b,c⟩,?_⟩
  obtain⟨vs,eD,iD⟩:=hL
  have lv:vs.length<=i:=by
   have:=AQ iD
   have:=List.length_filterMap_le out (List.range i)
   rw[A0]at this
   omega
  refine hturn i σ' H' (λy σ2 H4=>∃ys,H4 D=some (.lst ys)/\ys.length<sizeLine/\(λσ2 H2=>Sp σ2/\Same H1 H2/\LstAt H2 D ((List.range (i+1)).filterMap out)) σ2 (upd H4 D (.lst (ys++[y])))) _ hlt hS hH (λy σ2 H4 a a1 a2 a3 a4=>?_) (λσ2 H3 a1 a2 a3=>?_)
  ·have e4:=a2 _ _ eD
   have t4:Tups H4 (upd H4 D (.lst (vs++[y]))):=λp ys q=>by rw[qk_ (zH_ q e4 (by intro z;cases z))];exact q
   refine⟨vs,e4,by omega,a1,s1 _ (hH.trans a2),vs++[y],qc_,?_⟩
   rw[BZ,C8,Br,a3]
   exact CC (Its.mono ((Tups.same a2).trans t4) iD) (Dat.mono t4 a4)
  ·refine⟨a1,hH.trans a2,vs,a2 _ _ eD,?_⟩
   rw[BZ,C8,Br,a3]
   simpa using Its.mono (Tups.same a2) iD
 ·have e:i=n:=by omega
  subst e
  exact .inl ⟨hstop H' hH,hend H' hH hL⟩
inductive SK
 |lst
 |tup
def SK.iter:SK->Heap->Addr->Addr->Nat->Prop
 |.lst,h,i,l,k=>h.IsListIter i l k
 |.tup,h,i,l,k=>h.IsTupleIter i l k
def SK.seq:SK->Heap->Addr->Array Value->Prop
 |.lst,h,l,xs=>h.IsList l xs
 |.tup,h,l,xs=>h.IsTuple l xs
def SK.ob:SK->Addr->Obj
 |.lst,l=>{ cls:=.type "list_iterator",data:=.fields #[.ref l,.int 0 0] }
 |.tup,l=>{ cls:=.type "tuple_iterator",data:=.fields #[.ref l,.int 0 0] }
def SK.is(K:PySem.W.Frag)(H:Hp)(l:Addr)(xs:List V):SK->Prop
 |.lst=>SqL K H l xs
 |.tup=>SqT K H l xs
theorem SK.iter_keep{k:SK}{h h':Heap}{i l:Addr}{n:Nat}(x:k.iter h i l n)(e:∀o,h.get? i=some o->h'.get? i=some o):k.iter h' i l n:=by
 cases k with
 |lst=>obtain⟨o,a,b⟩:=x;exact⟨o,e o a,b⟩
 |tup=>obtain⟨o,a,b⟩:=x;exact⟨o,e o a,b⟩
theorem SK.seq_keep{k:SK}{h h':Heap}{l:Addr}{xs:Array Value}(x:k.seq h l xs)(e:∀o,h.get? l=some o->h'.get? l=some o):k.seq h' l xs:=by
 cases k with
 |lst=>obtain⟨o,a,b⟩:=x;exact⟨o,e o a,b⟩
 |tup=>obtain⟨o,a,b⟩:=x;exact⟨o,e o a,b⟩
theorem SK.iter_lt{k:SK}{h:Heap}{i l:Addr}{n:Nat}(x:k.iter h i l n):i<h.objs.size:=by
 cases k with
 |lst=>obtain⟨o,a,_⟩:=x;exact AK a
 |tup=>obtain⟨o,a,_⟩:=x;exact AK a
theorem SK.iter_new{k:SK}{h:Heap}{i l:Addr}(e:h.get? i=some (k.ob l)):k.iter h i l 0:=by
 cases k with
 |lst=>exact⟨_,e,rfl,rfl⟩
 |tup=>exact⟨_,e,rfl,rfl⟩
theorem SK.at{X:Cx}{pins:List (Addr×Obj)}{σ:St}{H:Hp}{s:Shared}{l:Addr}{xs:List V}{k:SK}(I:Inv X pins σ H s)(h:k.is X.K H l xs):∃its:List Value,Vals xs its/\k.seq s.heap l its.toArray:=by
 cases k with
 |lst=>obtain⟨its,r,p,_⟩:=I.list h;exact⟨its,r,p.isList⟩
 |tup=>obtain⟨its,r,p,_⟩:=I.tuple h;exact⟨its,r,p⟩
theorem SK.inj{X:Cx}{pins:List (Addr×Obj)}{σ:St}{H:Hp}{s:Shared}{l:Addr}{xs ys:List V}{k:SK}(I:Inv X pins σ H s)(h:k.is X.K H l xs)(h':k.is X.K H l ys):xs=ys:=by
 cases k with
 |lst=>exact I.list_inj h h'
 |tup=>exact I.tuple_inj h h'
section
variable{prog:Program}{w:World}{A:Around}{E:Value->Shared->Prop}{s:Shared}
theorem aic_{it t:Addr}{i:Nat}{items:Array Value}{x:Value}{Q:Value->Shared->Prop}(hit:s.heap.IsTupleIter it t i)(ht:s.heap.IsTuple t items)(hx:items[i]?=some x)
  (hQ:∀h',h'.IsTupleIter it t (i+1)->Heap.SameBut it s.heap h'->Q x { s with heap:=h' }):wpAny (model prog w) A (Builtin.SmallTypes.nextOf (.ref it)) Q E s:=by
 obtain⟨ob,hob,hcl,hdt⟩:=id hit
 obtain⟨o2,ho2,_,n2,hd2⟩:=ht
 unfold Builtin.SmallTypes.nextOf
 refine wpAny_bind (wpAny_callSpecial?_slot (name:=Str.ofString "__next__") hit.typeIs CL (wpAny_call_entry CL hit.typeIs DS ?_ (DL _)))
 show wpAny _ _ (field (.ref it) 0>>=λ_=>_) _ _ s
 refine wpAny_bind (wpAny_field hob hdt (x:=Value.ref t) rfl ?_)
 show wpAny _ _ (if (Value.ref t==Value.none)=true then _ else (_:Sem _)) _ _ s
 rw[if_neg (show ¬ (Value.ref t==Value.none)=true from λz=>AS z)]
 show wpAny _ _ (field (.ref it) 1>>=λ_=>_) _ _ s
 refine wpAny_bind (wpAny_field hob hdt (x:=Value.int i 0) rfl ?_)
 show wpAny _ _ (seqItems? (.ref t)>>=λ_=>_) _ _ s
 refine wpAny_bind (wpAny_seqItems ho2 hd2 ?_)
 simp only[Ax,hx]
 refine wpAny_bind (wpAny_setField hob hdt (by simp) (wpAny_pure ⟨x,rfl,wpAny_pure (hQ _ ⟨_,B5 _ hob (EH (Cv hdt _)),(Obj.cls_mapFields ..).trans hcl,?_⟩ (CY ..))⟩))
 rw[Cv hdt]
 simp [rawInt]
theorem ajg_{it t:Addr}{i:Nat}{items:Array Value}{Q:Value->Shared->Prop}(hh:A.handled=none)(hit:s.heap.IsTupleIter it t i)(ht:s.heap.IsTuple t items)(hx:items[i]?=none)
  (hE:∀h' e,Heap.ExtBut it s.heap h'->(∃o,h'.get? e=some o/\o.cls=.type "StopIteration")->E (.ref e) { s with heap:=h' }):wpAny (model prog w) A (Builtin.SmallTypes.nextOf (.ref it)) Q E s:=by
 obtain⟨ob,hob,hcl,hdt⟩:=id hit
 obtain⟨o2,ho2,_,n2,hd2⟩:=ht
 unfold Builtin.SmallTypes.nextOf
 refine wpAny_bind (wpAny_callSpecial?_slot (name:=Str.ofString "__next__") hit.typeIs CL (wpAny_call_entry CL hit.typeIs DS ?_ (DL _)))
 show wpAny _ _ (field (.ref it) 0>>=λ_=>_) _ _ s
 refine wpAny_bind (wpAny_field hob hdt (x:=Value.ref t) rfl ?_)
 show wpAny _ _ (if (Value.ref t==Value.none)=true then _ else (_:Sem _)) _ _ s
 rw[if_neg (show ¬ (Value.ref t==Value.none)=true from λz=>AS z)]
 show wpAny _ _ (field (.ref it) 1>>=λ_=>_) _ _ s
 refine wpAny_bind (wpAny_field hob hdt (x:=Value.int i 0) rfl ?_)
 show wpAny _ _ (seqItems? (.ref t)>>=λ_=>_) _ _ s
 refine wpAny_bind (wpAny_seqItems ho2 hd2 ?_)
 simp only[Ax,hx]
 refine wpAny_bind (wpAny_rule (wpAny_bind (wpAny_setField hob hdt (by simp) ?_)))
 show wpAny _ _ (newExc (.type "StopIteration") []>>=λ_=>_) _ _ _
 refine wpAny_bind ?_
 simp only[newExc,newTuple]
 refine wpAny_bind (wpAny_newObj_type ?_ (by size_fits))
 refine wpAny_bind (m:=firstArgMember _ _) (wpAny_of_eq (a:=Value.none) (by first|rfl|(simp only[firstArgMember];rfl)) (wpAny_newObj_type ?_ (by size_fits)))
 simp only[raiseNew]
 refine wpAny_bind (wpAny_handled ?_)
 first|rw[show A.in1.handled=none from hh]|rw[hh]
 refine wpAny_bind (wpAny_pure (wpAny_throw (hE _ _ (((CY ..).extBut.push _).push _) ⟨_,AI _ rfl,rfl⟩)))
theorem SK.next{k:SK}{it l:Addr}{i:Nat}{items:Array Value}{x:Value}{Q:Value->Shared->Prop}(hit:k.iter s.heap it l i)(hl:k.seq s.heap l items)(hx:items[i]?=some x)
  (hQ:∀h',k.iter h' it l (i+1)->Heap.SameBut it s.heap h'->Q x { s with heap:=h' }):wpAny (model prog w) A (Builtin.SmallTypes.nextOf (.ref it)) Q E s:=by
 cases k with
 |lst=>exact wpAny_nextOf_list_item hit hl hx hQ
 |tup=>exact aic_ hit hl hx hQ
theorem SK.stop{k:SK}{it l:Addr}{i:Nat}{items:Array Value}{Q:Value->Shared->Prop}(hh:A.handled=none)(hit:k.iter s.heap it l i)(hl:k.seq s.heap l items)(hx:items[i]?=none)
  (hE:∀h' e,Heap.ExtBut it s.heap h'->(∃o,h'.get? e=some o/\o.cls=.type "StopIteration")->E (.ref e) { s with heap:=h' }):wpAny (model prog w) A (Builtin.SmallTypes.nextOf (.ref it)) Q E s:=by
 cases k with
 |lst=>exact wpAny_nextOf_list_end hh hit hl hx hE
 |tup=>exact ajg_ hh hit hl hx hE
structure ZAp(z TI TO i1 i2:Addr):Prop where
 a1:TI≠z
 a2:TO≠z
 a3:i1≠z
 a4:i2≠z
 a5:TI≠TO
 a6:TI≠i1
 a7:TI≠i2
 a8:TO≠i1
 a9:TO≠i2
 b1:i1≠i2
structure ZSt(k1 k2:SK)(z TI TO i1 i2 l1 l2:Addr)(i:Nat)(h:Heap):Prop where
 hz:IsZip h z TI TO .none
 hTI:IsPair h TI (.ref i1) (.ref i2)
 hTO:∃a b,IsPair h TO a b
 h1:k1.iter h i1 l1 i
 h2:k2.iter h i2 l2 i
theorem am1_{k1 k2:SK}{z TI TO i1 i2 l1 l2:Addr}{i:Nat}{xs ys:Array Value}{x y:Value}{Q:Option Value->Shared->Prop}(D:ZAp z TI TO i1 i2)(Z:ZSt k1 k2 z TI TO i1 i2 l1 l2 i s.heap)(hl1:k1.seq s.heap l1 xs)(hl2:k2.seq s.heap l2 ys)
  (n1:l1≠z/\l1≠i1) (n2:l2≠z/\l2≠i1/\l2≠TO) (hx:xs[i]?=some x) (hy:ys[i]?=some y)
  (hQ:∀h',IsZip h' z TI TO (rawInt s.heap.objs.size)->IsPair h' TI (.ref i1) (.ref i2)->IsPair h' TO x y->k1.iter h' i1 l1 (i+1)->k2.iter h' i2 l2 (i+1)->IsPair h' s.heap.objs.size x y ->
   (∀c o,c≠z->c≠TO->c≠i1->c≠i2->s.heap.get? c=some o->h'.get? c=some o)->Q (some (.ref s.heap.objs.size)) { s with heap:=h' }):wpAny (model prog w) A (pyNext (.ref z)) Q E s:=by
 obtain⟨hz,hTI,⟨a,b,hTO⟩,h1,h2⟩:=Z
 have hT:s.TypeIs (.ref z) "zip" := ⟨_,hz,rfl⟩
 unfold pyNext
 refine wpAny_bind (wpAny_attempt (wpAny_callSpecial?_slot (name:=Str.ofString "__next__") hT DH (wpAny_call_entry DH hT F.entry_zip_next ?_ (F.args_zip_next_1 _))))
 show wpAny _ _ (field (.ref z) 2>>=λ_=>_) _ _ _
 refine wpAny_bind (wpAny_field hz rfl (x:=Value.bool false) rfl ?_)
 show wpAny _ _ (field (.ref z) 3>>=λ_=>_) _ _ _
 refine wpAny_bind (wpAny_field hz rfl (x:=Value.ref TI) rfl (wpAny_bind (wpAny_seqItems hTI rfl ?_)))
 show wpAny _ _ (Builtin.SmallTypes.ownedTupleIsFree (.ref z)>>=λ_=>_) _ _ _
 refine wpAny_bind ?_
 unfold Builtin.SmallTypes.ownedTupleIsFree
 refine wpAny_bind (wpAny_field hz rfl (x:=Value.none) rfl (wpAny_pure ?_))
 simp only[if_true]
 refine wpAny_bind (wpAny_rule (wpAny_bind (wpAny_field hz rfl (x:=Value.ref TO) rfl (wpAny_bind (wpAny_setField_rec hz (by simp) λh₁ hz₁ hs₁=>?_)))))
 have z1:IsZip h₁ z TI TO .ellipsis:=hz₁
 refine wpAny_bind ?_
 simp only[Di,List.zipIdx_nil,DG,EK]
 refine wpAny_bind (wpAny_bind (wpAny_onRaise ?_))
 show wpAny _ _ (Builtin.SmallTypes.nextOf (.ref i1)>>=λ_=>_) _ _ _
 refine wpAny_bind (SK.next (SK.iter_keep h1 λo e=>hs₁.extBut _ _ D.a3 e) (SK.seq_keep hl1 λo e=>hs₁.extBut _ _ n1.1 e) hx λh₂ p₂ hs₂=>wpAny_pure ?_)
 have t2:IsPair h₂ TO a b:=hs₂.extBut _ _ D.a8 (hs₁.extBut _ _ D.a2 hTO)
 refine wpAny_bind (wpAny_seqItems t2 rfl (wpAny_bind (wpAny_updateSeq_pair t2 λh₃ q₃ hs₃=>?_)))
 have t3:IsPair h₃ TO x b:=q₃
 refine wpAny_bind (wpAny_letGo (wpAny_pure (wpAny_bind (wpAny_bind (wpAny_onRaise ?_)))))
 show wpAny _ _ (Builtin.SmallTypes.nextOf (.ref i2)>>=λ_=>_) _ _ _
 refine wpAny_bind (SK.next (SK.iter_keep h2 λo e=>hs₃.extBut _ _ D.a9.symm (hs₂.extBut _ _ D.b1.symm (hs₁.extBut _ _ D.a4 e))) (SK.seq_keep hl2 λo e=>hs₃.extBut _ _ n2.2.2 (hs₂.extBut _ _ n2.2.1 (hs₁.extBut _ _ n2.1 e))) hy λh₄ p₄ hs₄=>wpAny_pure ?_)
 have t4:IsPair h₄ TO x b:=hs₄.extBut _ _ D.a9 t3
 refine wpAny_bind (wpAny_seqItems t4 rfl (wpAny_bind (wpAny_updateSeq_pair t4 λh₅ q₅ hs₅=>?_)))
 have t5:IsPair h₅ TO x y:=q₅
 refine wpAny_bind (wpAny_letGo (wpAny_pure (wpAny_pure (wpAny_bind (wpAny_seqItems t5 rfl (wpAny_bind (wpAny_newTuple ?_)))))))
 have sz:h₅.objs.size=s.heap.objs.size:=by rw[hs₅.1,hs₄.1,hs₃.1,hs₂.1,hs₁.1]
 have z5:IsZip h₅ z TI TO .ellipsis:=hs₅.extBut _ _ D.a2.symm (hs₄.extBut _ _ D.a4.symm (hs₃.extBut _ _ D.a2.symm (hs₂.extBut _ _ D.a3.symm z1)))
 have k5:∀c o,c≠z->c≠TO->c≠i1->c≠i2->s.heap.get? c=some o->h₅.get? c=some o:=λc o c1 c2 c3 c4 e=>hs₅.extBut _ _ c2 (hs₄.extBut _ _ c4 (hs₃.extBut _ _ c2 (hs₂.extBut _ _ c3 (hs₁.extBut _ _ c1 e))))
 have r1:k1.iter h₅ i1 l1 (i+1):=SK.iter_keep p₂ λo e=>hs₅.extBut _ _ D.a8.symm (hs₄.extBut _ _ D.b1 (hs₃.extBut _ _ D.a8.symm e))
 have r2:k2.iter h₅ i2 l2 (i+1):=SK.iter_keep p₄ λo e=>hs₅.extBut _ _ D.a9.symm e
 show wpAny _ _ (Builtin.SmallTypes.ownedTupleHandOut (.ref z) (.ref h₅.objs.size)>>=λ_=>_) _ _ _
 refine wpAny_bind ?_
 unfold Builtin.SmallTypes.ownedTupleHandOut
 have z6:IsZip (h₅.push { cls:=.type "tuple",data:=.seq #[x,y] }) z TI TO .ellipsis:=AB _ z5
 refine wpAny_bind (wpAny_setField_rec z6 (by simp) λh₇ q₇ hs₇=>?_)
 have z7:IsZip h₇ z TI TO (rawInt h₅.objs.size):=q₇
 refine wpAny_setField_rec z7 (by simp) λh₈ q₈ hs₈=>?_
 have z8:IsZip h₈ z TI TO (rawInt h₅.objs.size):=q₈
 have zlt:z<h₅.objs.size:=AK z5
 have up:∀c o,c≠z->h₅.get? c=some o->h₈.get? c=some o:=λc o c1 e=>hs₈.extBut _ _ c1 (hs₇.extBut _ _ c1 (AB _ e))
 have t8:IsPair h₈ h₅.objs.size x y:=hs₈.extBut _ _ (Bm zlt) (hs₇.extBut _ _ (Bm zlt) (AI _ rfl))
 rw[sz]at z8 t8
 refine wpAny_pure ⟨_,rfl,?_⟩
 show wpAny _ _ _ _ _ _
 refine wpAny_pure ?_
 have fin:=hQ h₈ z8 (up _ _ D.a1 (k5 _ _ D.a1 D.a5 D.a6 D.a7 hTI)) (up _ _ D.a2 t5) (SK.iter_keep r1 λo e=>up _ o D.a3 e) (SK.iter_keep r2 λo e=>up _ o D.a4 e) t8 λc o c1 c2 c3 c4 e=>up c o c1 (k5 c o c1 c2 c3 c4 e)
 show Q (some (.ref h₅.objs.size)) _
 rw[sz]
 exact fin
theorem aql_{k1 k2:SK}{z TI TO i1 i2 l1 l2:Addr}{i:Nat}{xs ys:Array Value}{Q:Option Value->Shared->Prop}(hh:A.handled=none)(D:ZAp z TI TO i1 i2)(Z:ZSt k1 k2 z TI TO i1 i2 l1 l2 i s.heap)(hl1:k1.seq s.heap l1 xs)(hl2:k2.seq s.heap l2 ys)
  (n1:l1≠z/\l1≠i1) (n2:l2≠z/\l2≠i1/\l2≠TO) (hend:xs[i]?=none∨ys[i]?=none)
  (hQ:∀h',(∀c o,c≠z->c≠TO->c≠i1->c≠i2->s.heap.get? c=some o->h'.get? c=some o)->Q none { s with heap:=h' }):wpAny (model prog w) A (pyNext (.ref z)) Q E s:=by
 obtain⟨hz,hTI,⟨a,b,hTO⟩,h1,h2⟩:=Z
 have hT:s.TypeIs (.ref z) "zip" := ⟨_,hz,rfl⟩
 have stop:∀(h':Heap)(e:Addr),(∃o,h'.get? e=some o/\o.cls=.type "StopIteration")->(∀c o,c≠z->c≠TO->c≠i1->c≠i2->s.heap.get? c=some o->h'.get? c=some o) ->
   wpAny (model prog w) A (isInstance (.ref e) (.type "StopIteration")>>=λb=>if b=true then pure none else throw (.ref e)) Q E { s with heap:=h' }:=by
  rintro h' e ⟨o,ho,hc⟩ hk
  exact wpAny_bind (wpAny_isInstance (T := "StopIteration") (b:=true) ⟨o,ho,hc⟩ isSubtype_stop (wpAny_pure (hQ _ hk)))
 unfold pyNext
 refine wpAny_bind (wpAny_attempt (wpAny_callSpecial?_slot (name:=Str.ofString "__next__") hT DH (wpAny_call_entry DH hT F.entry_zip_next ?_ (F.args_zip_next_1 _))))
 show wpAny _ _ (field (.ref z) 2>>=λ_=>_) _ _ _
 refine wpAny_bind (wpAny_field hz rfl (x:=Value.bool false) rfl ?_)
 show wpAny _ _ (field (.ref z) 3>>=λ_=>_) _ _ _
 refine wpAny_bind (wpAny_field hz rfl (x:=Value.ref TI) rfl (wpAny_bind (wpAny_seqItems hTI rfl ?_)))
 show wpAny _ _ (Builtin.SmallTypes.ownedTupleIsFree (.ref z)>>=λ_=>_) _ _ _
 refine wpAny_bind ?_
 unfold Builtin.SmallTypes.ownedTupleIsFree
 refine wpAny_bind (wpAny_field hz rfl (x:=Value.none) rfl (wpAny_pure ?_))
 simp only[if_true]
 refine wpAny_bind (wpAny_rule (wpAny_bind (wpAny_field hz rfl (x:=Value.ref TO) rfl (wpAny_bind (wpAny_setField_rec hz (by simp) λh₁ hz₁ hs₁=>?_)))))
 have z1:IsZip h₁ z TI TO .ellipsis:=hz₁
 refine wpAny_bind ?_
 simp only[Di,List.zipIdx_nil,DG,EK]
 refine wpAny_bind (wpAny_bind (wpAny_onRaise ?_))
 show wpAny _ _ (Builtin.SmallTypes.nextOf (.ref i1)>>=λ_=>_) _ _ _
 cases hx:xs[i]? with
 |none =>
  refine wpAny_bind (SK.stop hh (SK.iter_keep h1 λo e=>hs₁.extBut _ _ D.a3 e) (SK.seq_keep hl1 λo e=>hs₁.extBut _ _ n1.1 e) hx λh₂ e hs₂ he=>?_)
  obtain⟨oe,hoe,hce⟩:=he
  have z2:IsZip h₂ z TI TO .ellipsis:=hs₂ _ _ D.a3.symm z1
  have ez:e≠z:=λq=>by subst q;rw[z2]at hoe;cases hoe;simp at hce
  refine wpAny_setField_rec z2 (by simp) λh₃ _ hs₃=>?_
  exact stop h₃ e ⟨oe,hs₃.extBut _ _ ez hoe,hce⟩ λc o c1 _ c3 _ q=>hs₃.extBut _ _ c1 (hs₂ _ _ c3 (hs₁.extBut _ _ c1 q))
 |some x =>
  have hy:ys[i]?=none:=by
   rcases hend with h|h
   ·rw[hx]at h;cases h
   ·exact h
  refine wpAny_bind (SK.next (SK.iter_keep h1 λo e=>hs₁.extBut _ _ D.a3 e) (SK.seq_keep hl1 λo e=>hs₁.extBut _ _ n1.1 e) hx λh₂ p₂ hs₂=>wpAny_pure ?_)
  have t2:IsPair h₂ TO a b:=hs₂.extBut _ _ D.a8 (hs₁.extBut _ _ D.a2 hTO)
  refine wpAny_bind (wpAny_seqItems t2 rfl (wpAny_bind (wpAny_updateSeq_pair t2 λh₃ q₃ hs₃=>?_)))
  refine wpAny_bind (wpAny_letGo (wpAny_pure (wpAny_bind (wpAny_bind (wpAny_onRaise ?_)))))
  show wpAny _ _ (Builtin.SmallTypes.nextOf (.ref i2)>>=λ_=>_) _ _ _
  refine wpAny_bind (SK.stop hh (SK.iter_keep h2 λo e=>hs₃.extBut _ _ D.a9.symm (hs₂.extBut _ _ D.b1.symm (hs₁.extBut _ _ D.a4 e))) (SK.seq_keep hl2 λo e=>hs₃.extBut _ _ n2.2.2 (hs₂.extBut _ _ n2.2.1 (hs₁.extBut _ _ n2.1 e))) hy λh₄ e hs₄ he=>?_)
  obtain⟨oe,hoe,hce⟩:=he
  have z4:IsZip h₄ z TI TO .ellipsis:=hs₄ _ _ D.a4.symm (hs₃.extBut _ _ D.a2.symm (hs₂.extBut _ _ D.a3.symm z1))
  have ez:e≠z:=λq=>by subst q;rw[z4]at hoe;cases hoe;simp at hce
  refine wpAny_setField_rec z4 (by simp) λh₅ _ hs₅=>?_
  exact stop h₅ e ⟨oe,hs₅.extBut _ _ ez hoe,hce⟩ λc o c1 c2 c3 c4 q=>hs₅.extBut _ _ c1 (hs₄ _ _ c4 (hs₃.extBut _ _ c2 (hs₂.extBut _ _ c3 (hs₁.extBut _ _ c1 q))))
end
end L2.Ev
namespace L2.Ev
open PySem PySem.Spec PyProof.Rows
abbrev zh1(k1:SK)(h:Heap)(l1:Addr):Heap:=h.push (k1.ob l1)
abbrev zh2(k1 k2:SK)(h:Heap)(l1 l2:Addr):Heap:=(zh1 k1 h l1).push (k2.ob l2)
abbrev zh3(k1 k2:SK)(h:Heap)(l1 l2:Addr):Heap:=(zh2 k1 k2 h l1 l2).push { cls:=.type "tuple",data:=.seq #[.ref h.objs.size,.ref (zh1 k1 h l1).objs.size] }
abbrev zh4(k1 k2:SK)(h:Heap)(l1 l2:Addr):Heap:=(zh3 k1 k2 h l1 l2).push { cls:=.type "tuple",data:=.seq #[.none,.none] }
abbrev zh5(k1 k2:SK)(h:Heap)(l1 l2:Addr):Heap:=(zh4 k1 k2 h l1 l2).push { cls:=.type "zip",data:=.fields #[.none,.bool false,.bool false,.ref (zh2 k1 k2 h l1 l2).objs.size,.ref (zh3 k1 k2 h l1 l2).objs.size] }
theorem SK.seq_push{k:SK}{h:Heap}{l:Addr}{xs:Array Value}(x:k.seq h l xs)(o:Obj):k.seq (h.push o) l xs:=SK.seq_keep x λ_ e=>AB _ e
set_option maxHeartbeats 8000000 in
theorem aqm_(k1 k2:SK)(l1 l2:Addr)(xs ys:Array Value) :
  Meets (Builtin.«zip.__new__» ⟨[.type "zip",.ref l1,.ref l2],[]⟩) (λ_ R s=>k1.seq s.heap l1 xs/\k2.seq s.heap l2 ys/\R (.ok (.ret (.ref (zh4 k1 k2 s.heap l1 l2).objs.size))) { s with heap:=zh5 k1 k2 s.heap l1 l2 }) :=
 .of_wp λprog w A R s h=>by
  obtain⟨hp,g,d,tk,os⟩:=s
  obtain⟨hl1,hl2,h⟩:=h
  have hsub:=sub_zip
  have q1:k1.seq (Shared.heap ⟨hp,g,d,tk,os⟩) l1 xs:=hl1
  have q2:k2.seq (Shared.heap ⟨hp.push (k1.ob l1),g,d,tk,os⟩) l2 ys:=SK.seq_push hl2 _
  cases k1 with
  |lst =>
   cases k2 with
   |lst =>
    have w1:Heap.IsList (Shared.heap ⟨hp,g,d,tk,os⟩) l1 xs:=q1
    have w2:Heap.IsList (Shared.heap ⟨hp.push { cls:=.type "list_iterator",data:=.fields #[.ref l1,.int 0 0] },g,d,tk,os⟩) l2 ys:=q2
    wp_walk using wpAny_pyIter_list w1,wpAny_pyIter_list w2
    exact⟨_,rfl,h⟩
   |tup =>
    have w1:Heap.IsList (Shared.heap ⟨hp,g,d,tk,os⟩) l1 xs:=q1
    have w2:Heap.IsTuple (Shared.heap ⟨hp.push { cls:=.type "list_iterator",data:=.fields #[.ref l1,.int 0 0] },g,d,tk,os⟩) l2 ys:=q2
    wp_walk using wpAny_pyIter_list w1,wpAny_pyIter_tuple w2
    exact⟨_,rfl,h⟩
  |tup =>
   cases k2 with
   |lst =>
    have w1:Heap.IsTuple (Shared.heap ⟨hp,g,d,tk,os⟩) l1 xs:=q1
    have w2:Heap.IsList (Shared.heap ⟨hp.push { cls:=.type "tuple_iterator",data:=.fields #[.ref l1,.int 0 0] },g,d,tk,os⟩) l2 ys:=q2
    wp_walk using wpAny_pyIter_tuple w1,wpAny_pyIter_list w2
    exact⟨_,rfl,h⟩
   |tup =>
    have w1:Heap.IsTuple (Shared.heap ⟨hp,g,d,tk,os⟩) l1 xs:=q1
    have w2:Heap.IsTuple (Shared.heap ⟨hp.push { cls:=.type "tuple_iterator",data:=.fields #[.ref l1,.int 0 0] },g,d,tk,os⟩) l2 ys:=q2
    wp_walk using wpAny_pyIter_tuple w1,wpAny_pyIter_tuple w2
    exact⟨_,rfl,h⟩
theorem ak7_(n:Nat):ZAp (n+4) (n+2) (n+3) n (n+1):=by
 constructor<;>(show(_:Nat)≠_)<;>omega
theorem amg_{k1 k2:SK}{l1 l2:Addr}{xs ys:Array Value}{Q:Value->Shared->Prop}{prog:Program}{w:World}{A:Around}{E:Value->Shared->Prop}{s:Shared}(hl1:k1.seq s.heap l1 xs)(hl2:k2.seq s.heap l2 ys)
  (h:∀h',ZSt k1 k2 (s.heap.objs.size+4) (s.heap.objs.size+2) (s.heap.objs.size+3) s.heap.objs.size (s.heap.objs.size+1) l1 l2 0 h'->(∀c o,s.heap.get? c=some o->h'.get? c=some o)->Q (.ref (s.heap.objs.size+4)) { s with heap:=h' }) :
  wpAny (model prog w) A (call (.type "zip") [.ref l1,.ref l2]) Q E s:=by
 refine callType_new F.called_zip (by decide) (F.typeCall_zip_2 _ _) (F.newCall_zip_2 _ _) (λobj=>F.args_object_init_3 obj _ _) F.entry_zip_new (aqm_ k1 k2 l1 l2 xs ys) ⟨hl1,hl2,?_⟩
 have e1:(zh1 k1 s.heap l1).objs.size=s.heap.objs.size+1:=BO ..
 have e2:(zh2 k1 k2 s.heap l1 l2).objs.size=s.heap.objs.size+2:=by rw[BO,e1]
 have e3:(zh3 k1 k2 s.heap l1 l2).objs.size=s.heap.objs.size+3:=by rw[BO,e2]
 have e4:(zh4 k1 k2 s.heap l1 l2).objs.size=s.heap.objs.size+4:=by rw[BO,e3]
 have g5:(zh5 k1 k2 s.heap l1 l2).get? (zh4 k1 k2 s.heap l1 l2).objs.size=some _:=AI _ rfl
 have g4:(zh5 k1 k2 s.heap l1 l2).get? (zh3 k1 k2 s.heap l1 l2).objs.size=some _:=AB _ (AI _ rfl)
 have g3:(zh5 k1 k2 s.heap l1 l2).get? (zh2 k1 k2 s.heap l1 l2).objs.size=some _:=AB _ (AB _ (AI _ rfl))
 have f2:(k2.ob l2).isFreed=false:=by cases k2<;>rfl
 have f1:(k1.ob l1).isFreed=false:=by cases k1<;>rfl
 have g2:(zh5 k1 k2 s.heap l1 l2).get? (zh1 k1 s.heap l1).objs.size=some (k2.ob l2):=AB _ (AB _ (AB _ (AI _ f2)))
 have g1:(zh5 k1 k2 s.heap l1 l2).get? s.heap.objs.size=some (k1.ob l1):=AB _ (AB _ (AB _ (AB _ (AI _ f1))))
 have fin:=h (zh5 k1 k2 s.heap l1 l2) ⟨by rw[e2,e3,e4]at g5;exact g5,by rw[e1,e2]at g3;exact g3,⟨_,_,by rw[e3]at g4;exact g4⟩,SK.iter_new g1,SK.iter_new (by rw[e1]at g2;exact g2)⟩
  λc o e=>AB _ (AB _ (AB _ (AB _ (AB _ e))))
 rw[<-e4]at fin
 exact⟨⟨_,g5,rfl⟩,fin⟩
def Itz(K:PySem.W.Frag)(k1 k2:SK)(a b:Addr):It :=
 ⟨λi H=>∃xs ys x y,k1.is K H a xs/\k2.is K H b ys/\xs[i]?=some x/\ys[i]?=some y,
  λi H v H'=>∃p x y,v=.ref p/\H p=none/\H'=upd H p (.tup [x,y])/\(∀xs,k1.is K H a xs->xs[i]?=some x)/\∀ys,k2.is K H b ys->ys[i]?=some y,
  λi H=>∃xs ys,k1.is K H a xs/\k2.is K H b ys/\(xs.length<=i∨ys.length<=i)⟩
theorem z8_{X:Cx}{pins:List (Addr×Obj)}{σ:St}{H:Hp}{s:Shared}{a c:Addr}{xs:List V}{k:SK}(I:Inv X pins σ H s)(h:k.is X.K H a xs)(f:jl_ X pins H c):a≠c:=by
 intro e
 subst e
 have known:∀o,X.K.lookup a=some o->False:=λo q=>by
  have e:=I.ok.mod.kin a o q
  rcases f.2.2.2.1 with z|z
  ·exact I.ok.noex a o e z
  ·exact absurd (Ao (AK e) (Ac I.ok.bsz z)) (Bl _)
 cases k with
 |lst =>
  rcases h with(h|⟨o,h⟩)|⟨o,_,_,q,_⟩
  ·rw[f.1]at h;cases h
  ·rw[f.1]at h;cases h
  ·exact known o q
 |tup =>
  rcases h with(h|⟨o,h⟩)|⟨o,_,_,q,_⟩
  ·rw[f.1]at h;cases h
  ·rw[f.1]at h;cases h
  ·exact known o q
theorem j4_{X:Cx}{pins:List (Addr×Obj)}{σ:St}{H H':Hp}{s:Shared}{h':Heap}{t':Nat}{ch:List Addr}(I:Inv X pins σ H s)(hf:∀b∈ch,jl_ X pins H b)(k:∀b o,b∉ch->s.heap.get? b=some o->h'.get? b=some o)
  (new:∀b,b<s.heap.objs.size->H' b=H b) (hok:HOk X.prog X.w H' h'):Inv X pins σ H' { s with heap:=h',toks:=t' }:=by
 have lt:∀{b u},H b=some u->b<s.heap.objs.size:=λe=>I.hok.lt e
 refine I.step (g':=s.gens) (d':=s.drawn) (ch:=ch) (λb hb=>⟨(hf b hb).2.2.2.1,(hf b hb).2.1,(hf b hb).2.2.2.2.1,(hf b hb).2.2.2.2.2⟩) (λb o _ _ hc e _=>k b o hc e) (λb o _ _ hc e _=>⟨o.slots,k b o hc e⟩) (λb o _ e n=>by rw[new b (AK e)];exact n)
  (λb o hc e=>⟨o,k b o hc e⟩) (λb xs e=>by rw[new b (lt e)];exact e) (λb o u e=>by rw[new b (lt e)];exact e) (λb ps e=>⟨#[],by rw[new b (lt e),e];simp⟩) (λm hm=>?_) hok I.bare
 obtain⟨o,es,ep,ho,r⟩:=hm
 exact⟨o,es,ep,k _ o (λz=>(hf _ z).2.1 rfl) ho,r⟩
theorem aif_{P:Program}{w:World}{K:PySem.W.Frag}{elts:List Expr}{x1}{pos:Pos}(k1 k2:SK)(a b z TI TO i1 i2:Addr)(D:ZAp z TI TO i1 i2) :
  Turn P w K (.Tuple elts x1 pos) (Itz K k1 k2 a b) [z,TI,TO,i1,i2] z (λi h=>ZSt k1 k2 z TI TO i1 i2 a b i h) where
 mem:=by simp
 obj:=λi h st c hc=>by
  obtain⟨hz,hTI,⟨u,v,hTO⟩,h1,h2⟩:=st
  have it:∀{k:SK}{i l:Addr}{n:Nat},k.iter h i l n->∃o,h.get? i=some o/\∀v,o.data≠.cell v:=λ{k i l n} x=>by
   cases k with
   |lst=>obtain⟨o,e,_,d⟩:=x;exact⟨o,e,λv q=>by rw[d]at q;cases q⟩
   |tup=>obtain⟨o,e,_,d⟩:=x;exact⟨o,e,λv q=>by rw[d]at q;cases q⟩
  simp only[AL,BS,or_false]at hc
  rcases hc with rfl|rfl|rfl|rfl|rfl
  ·exact⟨_,hz,λv q=>by cases(show Data.fields _=Data.cell v from q)⟩
  ·exact⟨_,hTI,λv q=>by cases(show Data.seq _ _=Data.cell v from q)⟩
  ·exact⟨_,hTO,λv q=>by cases(show Data.seq _ _=Data.cell v from q)⟩
  ·exact it h1
  ·exact it h2
 keep:=λi h h' st k=>by
  obtain⟨hz,hTI,⟨u,v,hTO⟩,h1,h2⟩:=st
  exact⟨k z (by simp) _ hz,k TI (by simp) _ hTI,⟨u,v,k TO (by simp) _ hTO⟩,SK.iter_keep h1 λo e=>k i1 (by simp) o e,SK.iter_keep h2 λo e=>k i2 (by simp) o e⟩
 item:=by
  intro X hP hw hK hc i pins s σ H E I hf st hg
  subst hP hw hK
  obtain⟨xs,ys,x,y,q1,q2,hx,hy⟩:=hg
  obtain⟨its,r1,p1⟩:=SK.at I q1
  obtain⟨its',r2,p2⟩:=SK.at I q2
  obtain⟨u,hu,ru⟩:=r1.get hx
  obtain⟨v,hv,rv⟩:=r2.get hy
  have fz:=hf z (by simp)
  have fTO:=hf TO (by simp)
  have f1:=hf i1 (by simp)
  have f2:=hf i2 (by simp)
  refine am1_ D st p1 p2 ⟨z8_ I q1 fz,z8_ I q1 f1⟩ ⟨z8_ I q2 fz,z8_ I q2 f1,z8_ I q2 fTO⟩ (x:=u) (y:=v) (by simpa using hu) (by simpa using hv) λh' a1 a2 a3 a4 a5 a6 a7=>?_
  refine⟨_,rfl,wpAny_letOwnedTupleGo_zip (s:={ s with heap:=h' }) a1 λh'' b1 b2=>?_⟩
  have kp:∀c o,c∉[z,TO,i1,i2]->s.heap.get? c=some o->h''.get? c=some o:=λc o hc e=>by
   simp only[AL,BS,or_false,not_or]at hc
   exact b2.extBut _ _ hc.1 (a7 c o hc.1 hc.2.1 hc.2.2.1 hc.2.2.2 e)
  have zlt:z<s.heap.objs.size:=AK st.hz
  have hT:IsPair h'' s.heap.objs.size u v:=b2.extBut _ _ (Bm zlt) a6
  have hf4:∀c∈[z,TO,i1,i2],jl_ X pins H c:=λc hc=>by
   simp only[AL,BS,or_false]at hc
   rcases hc with rfl|rfl|rfl|rfl
   ·exact fz
   ·exact fTO
   ·exact f1
   ·exact f2
  have hn:H s.heap.objs.size=none:=I.fresh
  have hok:HOk X.prog X.w (upd H s.heap.objs.size (.tup [x,y])) h'':=λc o e=>by
   by_cases hc:c=s.heap.objs.size
   ·subst hc
    rw[qc_]at e
    cases e
    exact⟨by show 2<=sizeLine;decide,[u,v],.cons ru (.cons rv .nil),⟨_,hT,rfl,_,rfl,rfl⟩⟩
   ·rw[qk_ hc]at e
    refine(I.hok c o e).stay (λd v2 hd q=>kp d v2 (λm=>?_) q) (λd q=>by rw[qk_ (qn_ q hn)];exact q) λd xs q=>by rw[qk_ (qn_ q hn)];exact q
    have z:=(hf4 d m).1
    rcases hd with rfl|hd
    ·rw[e]at z;cases z
    ·rw[hd]at z;cases z
  have I9:Inv X pins σ (upd H s.heap.objs.size (.tup [x,y])) { s with heap:=h'',toks:=s.toks }:=j4_ (s:=s) I hf4 kp (λc hc=>qk_ (Ab hc)) hok
  refine⟨.ref s.heap.objs.size,upd H s.heap.objs.size (.tup [x,y]),I9,rfl,⟨s.heap.objs.size,x,y,rfl,hn,rfl,λzs hz=>by rw[SK.inj I hz q1];exact hx,λzs hz=>by rw[SK.inj I hz q2];exact hy⟩,?_,λc hc=>?_⟩
  ·exact⟨b1,b2.extBut _ _ D.a1 a2,⟨u,v,b2.extBut _ _ D.a2 a3⟩,SK.iter_keep a4 λo e=>b2.extBut _ _ D.a3 e,SK.iter_keep a5 λo e=>b2.extBut _ _ D.a4 e⟩
  ·obtain⟨o,e⟩:∃o,s.heap.get? c=some o:=by
    obtain⟨hz,hTI,⟨u,v,hTO⟩,h1,h2⟩:=st
    simp only[AL,BS,or_false]at hc
    rcases hc with rfl|rfl|rfl|rfl|rfl
    ·exact⟨_,hz⟩
    ·exact⟨_,hTI⟩
    ·exact⟨_,hTO⟩
    ·cases k1 with
     |lst=>obtain⟨o,e,_⟩:=h1;exact⟨o,e⟩
     |tup=>obtain⟨o,e,_⟩:=h1;exact⟨o,e⟩
    ·cases k2 with
     |lst=>obtain⟨o,e,_⟩:=h2;exact⟨o,e⟩
     |tup=>obtain⟨o,e,_⟩:=h2;exact⟨o,e⟩
   rw[qk_ (Ab (AK e))]
   exact(hf c hc).1
 done:=by
  intro X hP hw hK hc i pins s σ H E I hf st hg
  subst hP hw hK
  obtain⟨xs,ys,q1,q2,hx⟩:=hg
  obtain⟨its,r1,p1⟩:=SK.at I q1
  obtain⟨its',r2,p2⟩:=SK.at I q2
  have fz:=hf z (by simp)
  have fTO:=hf TO (by simp)
  have f1:=hf i1 (by simp)
  have f2:=hf i2 (by simp)
  have l1:=r1.length
  have l2:=r2.length
  refine aql_ (I.ok.hd hc) D st p1 p2 ⟨z8_ I q1 fz,z8_ I q1 f1⟩ ⟨z8_ I q2 fz,z8_ I q2 f1,z8_ I q2 fTO⟩ (hx.imp (λq=>by simp;omega) λq=>by simp;omega) λh' a7=>⟨rfl,?_⟩
  have hf4:∀c∈[z,TO,i1,i2],jl_ X pins H c:=λc hc=>by
   simp only[AL,BS,or_false]at hc
   rcases hc with rfl|rfl|rfl|rfl
   ·exact fz
   ·exact fTO
   ·exact f1
   ·exact f2
  have kp:∀c o,c∉[z,TO,i1,i2]->s.heap.get? c=some o->h'.get? c=some o:=λc o hc e=>by
   simp only[AL,BS,or_false,not_or]at hc
   exact a7 c o hc.1 hc.2.1 hc.2.2.1 hc.2.2.2 e
  refine j4_ (h':=h') (t':=s.toks) I hf4 kp (λc _=>rfl) λc o e=>?_
  refine(I.hok c o e).stay (λd v2 hd q=>kp d v2 (λm=>?_) q) (λd q=>q) λd xs q=>q
  have z:=(hf4 d m).1
  rcases hd with rfl|hd
  ·rw[e]at z;cases z
  ·rw[hd]at z;cases z
 self:=λ_ _ _ _ _ st h=>wpAny_pyIter_zip st.hz h
def iZip(K:PySem.W.Frag)(k1 k2:SK)(ta:TA):TI:=λσ H R=>ta σ H λvs H1=>∃a b,vs=[.ref a,.ref b]/\(∃xs,k1.is K H1 a xs)/\(∃ys,k2.is K H1 b ys)/\R (Itz K k1 k2 a b) H1
theorem agd_{X:Cx}{ea eb:Expr}{ta:TA}{p pos tp:Pos}{elts:List Expr}{x1}(k1 k2:SK)(hg:Gl X "zip")(hm:X.mg "zip" = none)(ha:PA X [ea,eb] ta)(hs:starEach [ea,eb] X.env=(false,eval ea X.env)::starEach [eb] X.env:=by rfl)(hs2:(backTo pos (starEach [eb] X.env)).any (·.1)=false:=by rfl) :
  PI X (.Tuple elts x1 tp) (.Call (.Name "zip" p) [ea,eb] [] pos) (iZip X.K k1 k2 ta):=by
 intro pins s σ H R I h
 refine Call_ (z4_ I hg hm boot_zip (Bi (thn (ha pos pins s σ H _ I h) λus s1 ⟨vs,H1,I1,r1,q1⟩=>?_) hs hs2))
 obtain⟨a,b,rfl,⟨xs,ex⟩,⟨ys,ey⟩,q⟩:=q1
 obtain⟨u,v,rfl,ru,rv⟩:=xO_ r1
 cases ru
 cases rv
 obtain⟨its,r1,p1⟩:=SK.at I1 ex
 obtain⟨its',r2,p2⟩:=SK.at I1 ey
 refine amg_ p1 p2 λh' Z kp=>?_
 refine wpAny_pyIter_zip Z.hz ?_
 have I2:Inv X pins σ H1 { s1 with heap:=h' }:=I1.kept (t':=s1.toks) kp
 refine⟨_,[s1.heap.objs.size+4,s1.heap.objs.size+2,s1.heap.objs.size+3,s1.heap.objs.size,s1.heap.objs.size+1],_,_,H1,rfl,I2,aif_ k1 k2 a b _ _ _ _ _ (ak7_ _),Z,λc hc=>?_,q⟩
 have ge:s1.heap.objs.size<=c:=by
  simp only[AL,BS,or_false]at hc
  rcases hc with rfl|rfl|rfl|rfl|rfl
  ·exact CT _ _
  ·exact CT _ _
  ·exact CT _ _
  ·exact AF _
  ·exact CT _ _
 exact I1.fpOk ge (I1.hok.fresh ge)
end L2.Ev
namespace L2.Ev
open PySem PySem.Spec PyProof.Rows
open L2.Ts L2.Pl L2.Rw
section
variable{X:Cx}{α:Type}[D:Dat α][S:Srtd α]
noncomputable def yf_(α:Type)[D:Dat α][S:Srtd α](H:Hp)(l:List α)(p:Keyed):Nat:=by
 classical exact if h:∃a:α,∃v,RelV v p.1/\D.is H v a then xg_ S.lt l h.choose else 0
theorem yC_{H:Hp}{l:List α}{p:Keyed}{v:V}{a:α}(r:RelV v p.1)(h:D.is H v a):yf_ α H l p=xg_ S.lt l a:=by
 unfold yf_
 have e:∃a:α,∃v,RelV v p.1/\D.is H v a:=⟨a,v,r,h⟩
 rw[dif_pos e]
 obtain⟨v',r',h'⟩:=e.choose_spec
 have:v'=v:=RelV.inj r' r
 subst this
 rw[D.inj h' h]
theorem Paired.perm{β γ:Type}{F:β->γ->Prop}{l l':List β}(p:l'.Perm l):∀{m:List γ},Paired F l m->∃m',m'.Perm m/\Paired F l' m':=by
 induction p with
 |nil=>intro m h;exact⟨m,List.Perm.refl _,h⟩
 |cons x _ ih =>
  intro m h
  cases h with
  |cons r t =>
   obtain⟨m',p',h'⟩:=ih t
   exact⟨_::m',p'.cons _,.cons r h'⟩
 |swap x y l =>
  intro m h
  cases h with
  |cons r t =>
   cases t with
   |cons r2 t2=>exact⟨_,List.Perm.swap _ _ _,.cons r2 (.cons r t2)⟩
 |trans _ _ i1 i2 =>
  intro m h
  obtain⟨m1,p1,h1⟩:=i2 h
  obtain⟨m2,p2,h2⟩:=i1 h1
  exact⟨m2,p2.trans p1,h2⟩
theorem Paired.mem{β γ:Type}{F:β->γ->Prop}{l:List β}{m:List γ}(h:Paired F l m){x:β}(hx:x∈l):∃y∈m,F x y:=by
 induction h with
 |nil=>cases hx
 |cons r t ih =>
  rcases AL.mp hx with e|hx
  ·subst e;exact⟨_,AD ..,r⟩
  ·obtain⟨y,hy,f⟩:=ih hx
   exact⟨y,AC _ hy,f⟩
abbrev j9_(α:Type)[D:Dat α](H:Hp)(its:List Value)(l:List α):Prop:=Paired (λu a=>∃v,RelV v u/\D.is H v a) its l
theorem adm_{H:Hp}:∀{vs:List V}{its:List Value}{l:List α},Vals vs its->Its H vs l->j9_ α H its l
 |_,_,_,.nil,.nil=>.nil
 |_,_,_,.cons r t,.cons q u=>.cons ⟨_,r,q⟩ (adm_ t u)
theorem ad3_{H:Hp}{its:List Value}{l:List α}(h:j9_ α H its l):∃vs,Vals vs its/\Its H vs l:=by
 induction h with
 |nil=>exact⟨[],.nil,.nil⟩
 |cons r t ih =>
  obtain⟨v,rv,d⟩:=r
  obtain⟨vs,a,b⟩:=ih
  exact⟨v::vs,.cons rv a,.cons d b⟩
theorem acu_{H:Hp}{l0:List α}{out:List Value}{m:List α}(h:j9_ α H out m)(hm:∀a∈m,a∈l0)(o:out.Pairwise λx y=>yf_ α H l0 (y,y)<=yf_ α H l0 (x,x)):m.Pairwise λa b=>S.lt a b=false:=by
 induction h with
 |nil=>exact .nil
 |@cons x a xs m r t ih =>
  obtain⟨o1,o2⟩:=Ah.mp o
  refine Ah.mpr ⟨λb hb=>?_,ih (λb hb=>hm b (AC _ hb)) o2⟩
  obtain⟨y,hy,e⟩:∃y∈xs,∃v,RelV v y/\D.is H v b:=by
   have key:∀{xs:List Value}{m:List α},j9_ α H xs m->b∈m->∃y∈xs,∃v,RelV v y/\D.is H v b:=by
    intro xs m t
    induction t with
    |nil=>intro z;cases z
    |cons r t ih =>
     intro z
     rcases AL.mp z with e|z
     ·subst e;exact⟨_,AD ..,r⟩
     ·obtain⟨y,hy,f⟩:=ih z
      exact⟨y,AC _ hy,f⟩
   exact key t hb
  obtain⟨v,rv,dv⟩:=r
  obtain⟨v2,rv2,dv2⟩:=e
  have q:=o1 y hy
  rw[yC_ (p:=(y,y)) rv2 dv2,yC_ (p:=(x,x)) rv dv]at q
  cases c:S.lt a b with
  |false=>rfl
  |true =>
   have:=(xu_ S.lin (hm a (AD ..))).mp c
   lia
theorem agn_{pins:List (Addr×Obj)}{σ:St}{H:Hp}{s:Shared}{its:List Value}{l:List α}{A:Around}(hu:A.units+4<cLine)(hb:j9_ α H its l)(hok:∀a∈l,S.ok a)(I:Inv X pins σ H s)(h2:2<=its.length) :
  (∀(Q:SortKind->Shared->Prop)(E':Value->Shared->Prop),Q (tuples' S.plain) s->wpAny (model X.prog X.w) A (keyKind' its.toArray) Q E' s) /\
  Ask X.prog X.w A s (tuples' S.plain) (λp=>∃a∈l,∃v,RelV v p.1/\D.is H v a) (yf_ α H l):=by
 constructor
 ·intro Q E' q
  have fs:∀{its:List Value}{l:List α},j9_ α H its l->(∀a∈l,S.ok a)->∃fs:List Value,fs.length=its.length/\PySem.W.KatTups s.heap its fs/\∀f∈fs,PySem.W.Looks (model X.prog X.w) s.heap (typeOf f) (if S.plain=true then .type "int" else .type "tuple"):=by
   intro its l hb
   induction hb with
   |nil=>intro _;exact⟨[],rfl,PySem.W.KatTups.nil,λf hf=>by cases hf⟩
   |@cons u0 a0 _ _ r t ih =>
    intro ok
    obtain⟨fs,f1,f2,f3⟩:=ih λa ha=>ok a (AC _ ha)
    obtain⟨v,rv,dv⟩:=r
    obtain⟨p,o,xs,n,f,rp,ho,hc,hd,hf,lk⟩:=S.first I dv (ok _ (AD ..))
    have e:u0=Value.ref p:=by
     cases v with
     |ref a =>
      have e1:Value.ref p=Value.ref a:=rp
      have e2:u0=Value.ref a:=rv
      rw[e2,e1]
     |_=>first|(obtain⟨_,e⟩:=rp;cases e)|cases rp
    subst e
    refine⟨f::fs,by simp [f1],PySem.W.KatTups.cons ho hc hd hf f2,λg hg=>?_⟩
    rcases AL.mp hg with e|hg
    ·subst e;exact lk
    ·exact f3 g hg
  obtain⟨fs,f1,f2,f3⟩:=fs hb hok
  refine PySem.W.kat_kind f2 (by lia) f3 (by split<;>decide) ?_
  cases c:S.plain with
  |true=>rw[c]at q;exact q
  |false=>rw[c]at q;exact q
 ·intro x y hx hy Q q
  obtain⟨a,ha,v,rv,dv⟩:=hx
  obtain⟨b,hb',v',rv',dv'⟩:=hy
  refine S.asks I hu dv dv' (hok a ha) (hok b hb') rv rv' Q ?_
  rw[yC_ rv dv,yC_ rv' dv']at q
  have e:decide (xg_ S.lt l a<xg_ S.lt l b)=S.lt a b:=by
   cases c:S.lt a b with
   |true=>exact decide_eq_true ((xu_ S.lin ha).mp c)
   |false=>exact decide_eq_false λz=>by rw[(xu_ S.lin ha).mpr z]at c;cases c
  rw[e]at q
  exact q
def amp_(α:Type)[D:Dat α][S:Srtd α](ta:TA):TE:=λσ H Q=>ta σ H λvs H1=>∃(a:Addr)(l:List α),vs=[.ref a]/\LstAt H1 a l/\(∀b∈l,S.ok b) /\
 ∀(p:Addr)(vs:List V)(l':List α),H1 p=none->l'.Perm l->(l'.Pairwise λa b=>S.lt a b=false)->Its H1 vs l'->Q (.ref p) (upd H1 p (.lst vs))
theorem aei_{pins:List (Addr×Obj)}{σ:St}{H:Hp}{s:Shared}{its out:List Value}{l:List α}{Q:VK}{h':Heap}{tk:Nat}{P:Addr}{e:Nat}(I:Inv X pins σ H s)(hb:j9_ α H its l)(hz:its.length<=sizeLine)(p:out.Perm its)
  (o:out.Pairwise λx y=>yf_ α H l (y,y)<=yf_ α H l (x,x)) (kp:∀b o,s.heap.get? b=some o->h'.get? b=some o) (hP:s.heap.objs.size<=P) (hg:h'.get? P=some (seqObj "list" out.toArray e))
  (q:∀(p:Addr)(vs:List V)(l':List α),H p=none->l'.Perm l->(l'.Pairwise λa b=>S.lt a b=false)->Its H vs l'->Q (.ref p) (upd H p (.lst vs))):EP X pins σ Q (.ref P) { s with heap:=h',toks:=tk }:=by
 obtain⟨m,pm,bm⟩:=Paired.perm p hb
 obtain⟨vs,v1,v2⟩:=ad3_ bm
 have lz:vs.length<=sizeLine:=by rw[v1.length,p.length_eq];exact hz
 refine⟨.ref P,upd H P (.lst vs),I.laid (a:=P) (o:=.lst vs) (t':=tk) kp hP ⟨lz,out,e,v1,hg⟩,rfl,q P vs m (I.hok.fresh hP) pm (acu_ bm (λa ha=>pm.mem_iff.mp ha) o) v2⟩
theorem vb_{pins:List (Addr×Obj)}{σ:St}{H:Hp}{s:Shared}{r:Addr}{its:List Value}{l:List α}{Q:VK}(hu:X.A.units+8<cLine)(I:Inv X pins σ H s)(hb:j9_ α H its l)(hz:its.length<=sizeLine)(hok:∀a∈l,S.ok a)
  (hcol:∀(Q':List Value->Shared->Prop),(∀h' tk,(∀b o,s.heap.get? b=some o->h'.get? b=some o)->s.heap.objs.size<=h'.objs.size->Q' its { s with heap:=h',toks:=tk })->wpAny (model X.prog X.w) X.A.in1 (collect (.ref r)) Q' X.xe s)
  (q:∀(p:Addr)(vs:List V)(l':List α),H p=none->l'.Perm l->(l'.Pairwise λa b=>S.lt a b=false)->Its H vs l'->Q (.ref p) (upd H p (.lst vs))) :
  wpAny (model X.prog X.w) X.A (call (.builtin "sorted") [.ref r] [(Str.ofString "reverse",.bool true)]) (EP X pins σ Q) X.xe s:=by
 refine yL_ (κ:=tuples' S.plain) (M:=λp=>∃a∈l,∃v,RelV v p.1/\D.is H v a) (rk:=yf_ α H l) hz (λv hv=>?_) hcol (λh' tk kp l2=>?_) λh' tk P e out p o kp hP hg=>?_
 ·obtain⟨a,ha,d⟩:=Paired.mem hb hv
  exact⟨a,ha,d⟩
 ·exact agn_ (A:=X.A.in1.in1) (by show X.A.units+1+1+4<cLine;lia) hb hok (I.kept (t':=tk) kp) l2
 ·exact aei_ I hb hz p o kp hP hg q
theorem vn_{e:Expr}{ta:TA}{p pos kp kq:Pos}{j}(hc:X.calm=true)(hu:X.A.units+8<cLine)(hg:Gl X "sorted")(hm:X.mg "sorted" = none)(ha:PA X [e] ta)
  (h1:backTo pos (starEach [e] X.env)=(false,eval e X.env)::backTo pos (starEach [] X.env):=by rfl) (h2:(backTo pos (starEach [e] X.env)).any (·.1)=false:=by rfl) :
  PE X (.Call (.Name "sorted" p) [e] [⟨some (Str.ofString "reverse"),.Constant (.bool true) j kq,kp⟩] pos) (amp_ α ta):=by
 intro pins s σ H Q I h
 refine wpAny_Call_Name_kw (z4_ I hg hm boot_sorted ?_)
 refine callWith_kw (thn (ha pos pins s σ H _ I h) λus s1 ⟨vs,H1,I1,r1,q1⟩=>?_) h1 h2
 obtain⟨a,l,rfl,⟨vs,hL,hI⟩,hok,q⟩:=q1
 obtain⟨u,rfl,ru⟩:=zx_ r1
 cases ru
 refine kws_cons (Constant_bool (kws_nil ?_))
 obtain⟨its,rv,ht,hz⟩:=I1.list (SqL.of hL)
 refine vb_ hu I1 (adm_ rv hI) (by rw[<-rv.length];exact hz) hok (λQ' q'=>collect_list ht.isList (q' _ _ (λb o e=>?_) ?_) (by rw[<-rv.length];exact hz)) q
 ·exact(Az _ _ (Bm (AK e))).trans (AB _ e)
 ·rw[C6,size_push'];exact Bx _
end
def toK(d:List Mon):List (List Key×V):=d.map λt=>(t.1.map Sum.inl,V.int t.2)
theorem xw_:∀{a b:List Int},(a.map Sum.inl:List Key)=b.map Sum.inl->a=b
 |[],[],_=>rfl
 |[],_::_,e=>by simp at e
 |_::_,[],e=>by simp at e
 |x::xs,y::ys,e=>by
  rw[Ae,Ae]at e
  injection e with e1 e2
  injection e1 with e1
  rw[e1,xw_ e2]
theorem jf_(k:List Int):(k.map Sum.inl:List Key).map kV=k.map V.int:=by rw[B4];rfl
theorem yt_(d:List Mon)(p:Pw):jI_ (toK d) (p.map Sum.inl)=(zj_ d p).map V.int:=by
 induction d with
 |nil=>rfl
 |cons t r ih =>
  have e0:toK (t::r)=(t.1.map Sum.inl,V.int t.2)::toK r:=rfl
  rw[e0]
  by_cases e:t.1=p
  ·rw[xV_ (p:=(t.1.map Sum.inl,V.int t.2)) (by rw[e])]
   simp [zj_,Bt,e]
  ·rw[xK_ (p:=(t.1.map Sum.inl,V.int t.2)) (λz=>e (xw_ z)),ih]
   simp [zj_,Bt,e]
theorem vX_(d:List Mon)(p:Pw)(n:Int):zr_ (toK d) (p.map Sum.inl) (V.int n)=toK (jJ_ d p n):=by
 have ea:((toK d).any λkv=>decide (kv.1=p.map Sum.inl))=d.any λkv=>decide (kv.1=p):=by
  unfold toK
  rw[Ej]
  congr 1
  funext t
  show decide ((t.1.map Sum.inl:List Key)=p.map Sum.inl)=decide (t.1=p)
  by_cases e:t.1=p
  ·rw[decide_eq_true e,decide_eq_true (by rw[e])]
  ·rw[decide_eq_false e,decide_eq_false λz=>e (xw_ z)]
 unfold zr_ jJ_
 rw[ea]
 split
 ·unfold toK
  rw[B4,B4]
  apply B9
  intro t _
  simp only[Function.comp]
  by_cases e:t.1=p
  ·rw[if_pos (by rw[e]),if_pos e]
  ·rw[if_neg (λz=>e (xw_ z)),if_neg e]
 ·unfold toK
  rw[Aj]
  rfl
theorem yr_(d:List Mon):(toK d).length=d.length:=AA _
theorem acm_{X:Cx}{pins:List (Addr×Obj)}{σ:St}{H:Hp}{s:Shared}{a:Addr}{d:List Mon}(I:Inv X pins σ H s)(h:Rd H a (.dT (toK d))) :
  d.length<=sizeLine/\(a==sysModules)=false/\∃(es:Array DictEntry)(ep:Nat),RawD s.heap a es ep/\es.size=d.length /\
   Paired (λ(e:DictEntry)(t:Mon)=>(∃p,e.key=.ref p/\H p=some (.tup (t.1.map V.int)))/\RelV (.int t.2) e.val) es.toList d:=by
 obtain⟨z,y,xs,r,o,es,ep,h1,h2,h3,h4,h5⟩:=(show ObjOk X.prog X.w H s.heap a (.dT (toK d)) from aa4_ I.hok h)
 have key:∀{d:List Mon}{xs:List (List Key×Addr×Value)},KT H (toK d) xs->Paired (λ(e:DictEntry)(t:Mon)=>(∃p,e.key=.ref p/\H p=some (.tup (t.1.map V.int)))/\RelV (.int t.2) e.val) (xs.map (entryOfKey (tupleKind (qF_ X.prog X.w)))) d:=by
  intro d
  induction d with
  |nil=>intro xs r;cases r;exact .nil
  |cons t d ih =>
   intro xs r
   cases r with
   |cons q qs =>
    refine .cons ⟨⟨_,rfl,?_⟩,q.2.2⟩ (ih qs)
    have:=q.2.1
    rw[<-jf_]
    exact this
 have kp:=key r
 rw[<-h4]at kp
 refine⟨by rw[<-yr_];exact z,y,es,ep,⟨o,h1,h2,h3⟩,?_,kp⟩
 rw[<-AM]
 exact AQ kp
section
variable{X:Cx}
def aoz_(ta:TA):TE:=λσ H Q=>ta σ H λvs H1=>∃(a:Addr)(d:List Mon),vs=[.ref a]/\Rd H1 a (.dT (toK d))/\(∀t∈d,t.1≠[]) /\
 ∀(p:Addr)(vs:List V)(ks:List Pw),H1 p=none->ks.Perm (d.map (·.1))->(ks.Pairwise λa b=>lxl a b=false)->Its H1 vs ks->Q (.ref p) (upd H1 p (.lst vs))
theorem afh_{e:Expr}{ta:TA}{p pos kp kq:Pos}{j}(hc:X.calm=true)(hu:X.A.units+8<cLine)(hg:Gl X "sorted")(hm:X.mg "sorted" = none)(ha:PA X [e] ta)
  (h1:backTo pos (starEach [e] X.env)=(false,eval e X.env)::backTo pos (starEach [] X.env):=by rfl) (h2:(backTo pos (starEach [e] X.env)).any (·.1)=false:=by rfl) :
  PE X (.Call (.Name "sorted" p) [e] [⟨some (Str.ofString "reverse"),.Constant (.bool true) j kq,kp⟩] pos) (aoz_ ta):=by
 intro pins s σ H Q I h
 refine wpAny_Call_Name_kw (z4_ I hg hm boot_sorted ?_)
 refine callWith_kw (thn (ha pos pins s σ H _ I h) λus s1 ⟨vs,H1,I1,r1,q1⟩=>?_) h1 h2
 obtain⟨a,d,rfl,hR,hne,q⟩:=q1
 obtain⟨u,rfl,ru⟩:=zx_ r1
 cases ru
 refine kws_cons (Constant_bool (kws_nil ?_))
 obtain⟨z,lo,es,ep,raw,sz,ent⟩:=acm_ I1 hR
 have hb:j9_ (List Int) H1 (es.toList.map (·.key)) (d.map (·.1)):=by
  have key:∀{l:List DictEntry}{d:List Mon},Paired (λ(e:DictEntry)(t:Mon)=>(∃p,e.key=.ref p/\H1 p=some (.tup (t.1.map V.int)))/\RelV (.int t.2) e.val) l d->j9_ (List Int) H1 (l.map (·.key)) (d.map (·.1)):=by
   intro l d h
   induction h with
   |nil=>exact .nil
   |cons r t ih =>
    obtain⟨⟨p,e1,e2⟩,_⟩:=r
    exact .cons ⟨.ref p,e1,zd_ e2⟩ ih
  exact key ent
 have ln:(es.toList.map (·.key)).length<=sizeLine:=by rw[AA,AM,sz];exact z
 refine vb_ hu I1 hb ln (λk hk=>?_) (λQ' q'=>acs_ (ad5_ lo) (I1.ok.hd hc) raw (by rw[sz];exact z) λh' tk acc kp szz it=>?_) q
 ·obtain⟨t,ht,rfl⟩:=AR.mp hk
  exact hne t ht
 ·have e:acc.toList=es.toList.map (·.key):=by
   refine Cg λi=>?_
   rw[BA,AV,BA]
   by_cases c:i<es.size
   ·have ci:i<acc.size:=by rw[it.1];exact c
    obtain⟨_,e⟩:=it.2 i acc[i] (AG ci)
    rw[AG ci,AG c,e]
    rfl
   ·rw[Bo (by rw[it.1];lia),Bo (by lia)]
    rfl
  rw[e]
  exact q' h' tk kp szz
end
def Iti(a:Addr)(o:Obj)(d:List Mon):It :=
 ⟨λi H=>H a=some (.frz o (.dT (toK d)))/\i<d.length,
  λi H v H'=>∃p q t,v=.ref p/\H p=none/\d[i]?=some t/\H q=some (.tup (t.1.map V.int))/\H'=upd H p (.tup [.ref q,.int t.2]),
  λi H=>H a=some (.frz o (.dT (toK d)))/\d.length<=i⟩
theorem afn_{H:Hp}{X:Cx}{pins:List (Addr×Obj)}{σ:St}{s:Shared}{a:Addr}{o:Obj}{d:List Mon}{es:Array DictEntry}{ep:Nat}(hd:o.data=.dict es ep)(I:Inv X pins σ H s)(h:H a=some (.frz o (.dT (toK d)))) :
  RawD s.heap a es ep/\es.size=d.length/\Paired (λ(e:DictEntry)(t:Mon)=>(∃p,e.key=.ref p/\H p=some (.tup (t.1.map V.int)))/\RelV (.int t.2) e.val) es.toList d:=by
 obtain⟨_,_,es',ep',⟨o',h1,h2,h3⟩,h4,h5⟩:=acm_ I (.inr ⟨o,h⟩)
 obtain⟨h0,_⟩:=(show ObjOk X.prog X.w H s.heap a (.frz o (.dT (toK d))) from I.hok a _ h)
 rw[h0]at h1
 cases h1
 rw[hd]at h3
 cases h3
 exact⟨⟨o,h0,h2,hd⟩,h4,h5⟩
theorem afi_{P:Program}{w:World}{K:PySem.W.Frag}{elts:List Expr}{x1}{pos:Pos}(a it:Addr)(o:Obj)(d:List Mon)(es:Array DictEntry)(ep:Nat)(hd:o.data=.dict es ep) :
  Turn P w K (.Tuple elts x1 pos) (Iti a o d) [it] it (λi h=>∃ok ov,IsItemIter h it a i es.size ep ok ov) where
 mem:=by simp
 obj:=λi h st b hb=>by
  obtain⟨ok,ov,st⟩:=st
  have e:b=it:=by simpa using hb
  subst e
  exact⟨_,st,λv z=>by cases(show Data.fields _=Data.cell v from z)⟩
 keep:=λi h h' st k=>by
  obtain⟨ok,ov,st⟩:=st
  exact⟨ok,ov,k it (by simp) _ st⟩
 item:=by
  intro X hP hw hK hc i pins s σ H E I hf st hg
  subst hP hw hK
  obtain⟨ok,ov,st⟩:=st
  obtain⟨hg,hi⟩:=hg
  obtain⟨raw,sz,ent⟩:=afn_ hd I hg
  have f1:=hf it (by simp)
  have hi':i<es.size:=by lia
  have ei:es.toList[i]?=some es[i]:=by rw[BA,AG hi']
  obtain⟨t,et,⟨q,eq1,eq2⟩,rt⟩:=Paired.get ent ei
  refine ag9_ st raw hi' λh' a1 a2 a3 a4=>?_
  refine⟨_,rfl,wpAny_letOwnedTupleGo_items (s:={ s with heap:=h' }) a1 λh'' b1 b2=>?_⟩
  have kp:∀c u,c∉[it]->s.heap.get? c=some u->h''.get? c=some u:=λc u hc e=>by
   have hc:c≠it:=by simpa using hc
   exact b2.extBut _ _ hc (a4 c u hc e)
  have ilt:it<s.heap.objs.size:=AK st
  have hT:h''.get? s.heap.objs.size=some { cls:=.type "tuple",data:=.seq #[es[i].key,es[i].val] }:=b2.extBut _ _ (Bm ilt) a2
  have hn:H s.heap.objs.size=none:=I.fresh
  have hok:HOk X.prog X.w (upd H s.heap.objs.size (.tup [.ref q,.int t.2])) h'':=λc u e=>by
   by_cases hc:c=s.heap.objs.size
   ·subst hc
    rw[qc_]at e
    cases e
    exact⟨by show 2<=sizeLine;decide,[es[i].key,es[i].val],.cons (by rw[eq1];rfl) (.cons rt .nil),⟨_,hT,rfl,_,rfl,rfl⟩⟩
   ·rw[qk_ hc]at e
    refine(I.hok c u e).stay (λd v2 hd q=>kp d v2 (λm=>?_) q) (λd q=>by rw[qk_ (qn_ q hn)];exact q) λd xs q=>by rw[qk_ (qn_ q hn)];exact q
    have ed:d=it:=by simpa using m
    have z:=f1.1
    rw[<-ed]at z
    rcases hd with rfl|hd
    ·rw[e]at z;cases z
    ·rw[hd]at z;cases z
  have I9:Inv X pins σ (upd H s.heap.objs.size (.tup [.ref q,.int t.2])) { s with heap:=h'',toks:=s.toks }:=j4_ (s:=s) I hf kp (λc hc=>qk_ (Ab hc)) hok
  refine⟨.ref s.heap.objs.size,_,I9,rfl,⟨s.heap.objs.size,q,t,rfl,hn,et,eq2,rfl⟩,⟨_,_,b1⟩,λc hc=>?_⟩
  have ec:c=it:=by simpa using hc
  subst ec
  rw[qk_ (Ab ilt)]
  exact f1.1
 done:=by
  intro X hP hw hK hc i pins s σ H E I hf st hg
  subst hP hw hK
  obtain⟨ok,ov,st⟩:=st
  obtain⟨hg,hi⟩:=hg
  obtain⟨raw,sz,ent⟩:=afn_ hd I hg
  have f1:=hf it (by simp)
  refine ajx_ (I.ok.hd hc) st raw (by lia) λh' a7=>⟨rfl,?_⟩
  have kp:∀c u,c∉[it]->s.heap.get? c=some u->h'.get? c=some u:=λc u hc e=>a7 c u (by simpa using hc) e
  refine j4_ (h':=h') (t':=s.toks) I hf kp (λc _=>rfl) λc u e=>?_
  refine(I.hok c u e).stay (λd v2 hd q=>kp d v2 (λm=>?_) q) (λd q=>q) λd xs q=>q
  have ed:d=it:=by simpa using m
  have z:=f1.1
  rw[<-ed]at z
  rcases hd with rfl|hd
  ·rw[e]at z;cases z
  ·rw[hd]at z;cases z
 self:=λA i s Q E st h=>by
  obtain⟨ok,ov,st⟩:=st
  exact PySem.W.kcp_self st h
def amf_(te:TE):TI:=λσ H R=>te σ H λx H1=>∃(a:Addr)(d:List Mon),x=.ref a/\H1 a=some (.dT (toK d))/\∀o:Obj,R (Iti a o d) (upd H1 a (.frz o (.dT (toK d))))
theorem aij_{X:Cx}{eo:Expr}{te:TE}{apos pos tp:Pos}{elts:List Expr}{x1}(ho:PE X eo te)(hbase:attributeBase eo "items" X.env (eval eo X.env)=eval eo X.env:=by rfl)(hline:(apos.endLine==pos.line)=true:=by rfl) :
  PI X (.Tuple elts x1 tp) (.Call (.Attribute eo "items" apos) [] [] pos) (amf_ te):=by
 intro pins s σ H R I h
 refine wpAny_Call_method0_late hbase hline (thn (ho pins s σ H _ I h) λv s1 ⟨x,H1,I1,r1,q1⟩=>?_)
 obtain⟨a,d,rfl,hd,q⟩:=q1
 cases r1
 obtain⟨z,lo,es,ep,raw,sz,ent⟩:=acm_ I1 (.inl hd)
 obtain⟨o,ho,hx,hdat⟩:=id raw
 refine⟨"dict", "dict.items",Dp,PySem.F.slot_dict_items,PySem.F.type_dict_items,raw.type,λb e=>?_,Cd rfl (PySem.evalArgs_none (af8_ lo raw ?_))⟩
 ·cases e
  exact⟨o,ho,hx.2.1⟩
 have kp1:∀b u,s1.heap.get? b=some u->(s1.heap.push { cls:=.type "dict_items",data:=.fields #[.ref a] }).get? b=some u:=λb u e=>AB _ e
 refine aev_ (s:={ s1 with heap:=s1.heap.push { cls:=.type "dict_items",data:=.fields #[.ref a] } }) ⟨_,AI _ rfl,rfl,rfl⟩ (raw.keep λo e=>kp1 _ _ e) ?_
 generalize hh:s1.heap.push { cls:=.type "dict_items",data:=.fields #[.ref a] }=h1 at kp1
 have I2:Inv X pins σ H1 { s1 with heap:=h1.push { cls:=.type "dict_itemiterator",data:=.fields #[.none,.bool false,.ref a,.int 0 0,.int es.size 0,.int ep 0,.none,.none] } } :=
  I1.kept (t':=s1.toks) λb u e=>AB _ (kp1 b u e)
 have hn:H1 h1.objs.size=none:=I1.hok.fresh (by rw[<-hh,BO];exact Bx _)
 have ge:s1.heap.objs.size<=h1.objs.size:=by rw[<-hh,BO];exact Bx _
 have ho2:(h1.push { cls:=.type "dict_itemiterator",data:=.fields #[.none,.bool false,.ref a,.int 0 0,.int es.size 0,.int ep 0,.none,.none] }).get? a=some o:=AB _ (kp1 _ _ ho)
 have I3:Inv X pins σ (upd H1 a (.frz o (.dT (toK d)))) { s1 with heap:=h1.push { cls:=.type "dict_itemiterator",data:=.fields #[.none,.bool false,.ref a,.int 0 0,.int es.size 0,.int ep 0,.none,.none] } }:=by
  refine I2.write (x:=a) (e:=a) (o:=.frz o (.dT (toK d))) (t':=s1.toks) (by rw[hd];exact True.intro) (.inl rfl) (λb u _ e=>e) ⟨o,ho2⟩ ⟨ho2,?_⟩
  refine(I2.hok a _ hd).stay (λb u _ e=>e) (λb e=>?_) λb xs e=>?_
  ·rw[qk_ (zH_ e hd (by intro z;cases z))];exact e
  ·rw[qk_ (zH_ e hd (by intro z;cases z))];exact e
 refine⟨_,[h1.objs.size],_,_,_,rfl,I3,afi_ a h1.objs.size o d es ep hdat,⟨_,_,AI _ rfl⟩,λb hb=>?_,q o⟩
 have eb:b=h1.objs.size:=by simpa using hb
 subst eb
 refine I1.fpOk ge ?_
 rw[qk_ (qn_ hd hn).symm]
 exact hn
end L2.Ev
namespace L2.Ev
open PySem
open L2.Pl
theorem qd_{H:Hp}{p:Addr}(h:H p=none)(o:HO):Same H (upd H p o):=λb u q=>by rw[qk_ (qn_ q h)];exact q
theorem zE_{n:Nat}(h:n<=100000):n<sizeLine:=BN h (by decide)
theorem small{n:Nat}(h:n<=100000):n<=sizeLine:=Bf (zE_ h)
theorem hu8{A:Around}{k:Nat}(hr:Room k A):A.units+8<cLine:=BN (B2 (by decide:8<=64) _) hr.units
def aa1_(scope:Scope)(N N':List Str)(o:Option Nat)(i:Nat):Bool:=match o with
 |none=>true
 |some j=>match N'[i]? with
  |some x=>decide (N[j]?=some x)&&decide (scope.names.lookup x=some NameKind.free)
  |none=>false
def ahl_(sc scope:Scope)(N N':List Str)(src:List (Option Nat)):Bool :=
 decide (scope.kind=.function)&&scope.names.all (λy=>decide (y.2≠NameKind.cell))&&scope.names.all (λy=>!decide (y.2=NameKind.local)||decide (scope.names.lookup y.1=some NameKind.local)) &&
 scope.names.all (λy=>!decide (y.2=NameKind.free)||(decide (sc.names.lookup y.1=some NameKind.cell)||decide (sc.names.lookup y.1=some NameKind.free)))&&decide (src.length=N'.length) &&
 (List.range src.length).all λi=>aa1_ scope N N' (src.getD i none) i
theorem zb_{X:Cx}{N':List Str}{src:List (Option Nat)}{scope:Scope}(sc:Scope)(N:List Str)(h:ahl_ sc scope N N' src=true)(e1:X.env.scope=sc:=by rfl)(e2:X.N=N:=by rfl):BkScope X N' src scope:=by
 subst e1 e2
 unfold ahl_ at h
 simp only[AH,decide_eq_true_eq,AN,DC,Bool.not_eq_true',decide_eq_false_iff_not]at h
 obtain⟨⟨⟨⟨⟨h1,h2⟩,h3⟩,h4⟩,h5⟩,h6⟩:=h
 refine⟨h1,h2,λy hy e=>(h3 y hy).resolve_left λz=>z e,λy hy e=>(h4 y hy).resolve_left λz=>z e,h5,λi j e=>?_⟩
 obtain⟨hi,ei⟩:=AX.mp e
 have q:=h6 i (Ar.mpr hi)
 rw[AO,e]at q
 unfold aa1_ at q
 simp only[Dl]at q
 cases c:N'[i]? with
 |none=>rw[c]at q;cases q
 |some x =>
  rw[c]at q
  simp only[AH,decide_eq_true_eq]at q
  exact⟨x,rfl,q.1,q.2⟩
theorem Same.tseq{K:PySem.W.Frag}{H H':Hp}{a:Addr}{xs:List V}(e:Same H H')(h:SqT K H a xs):SqT K H' a xs:=by
 rcases h with(h|⟨o,h⟩)|h
 ·exact .inl (.inl (e _ _ h))
 ·exact .inl (.inr ⟨o,e _ _ h⟩)
 ·exact .inr h
theorem SK.same{K:PySem.W.Frag}{H H':Hp}{a:Addr}{xs:List V}{k:SK}(e:Same H H')(h:k.is K H a xs):k.is K H' a xs:=by
 cases k with
 |lst=>exact Same.seq e h
 |tup=>exact Same.tseq e h
theorem zG_{α:Type}[Dat α]{K:PySem.W.Frag}{a:Addr}{xs:List V}{σ0:St}{H1:Hp}{D:Addr}{R:Hp->Prop}{g:TG}{tc:TT}{te:TE}(hD:H1 D=none)(hl:SqL K H1 a xs)(Sp:St->Prop)(out:Nat->Option α)(hn:xs.length<=sizeLine)(h0:Sp σ0)
  (hturn:∀(i:Nat)(x:V)(σ':St)(H':Hp)(Yes:V->St->Hp->Prop)(No:St->Hp->Prop),xs[i]?=some x->Sp σ'->Same H1 H'->(∀y σ2 H4 a,Sp σ2->Same H' H4->out i=some a->Dat.is H4 y a->Yes y σ2 H4)->(∀σ2 H3,Sp σ2->Same H' H3->out i=none->No σ2 H3) ->
   g x σ' H' λσ2 H2=>tc σ2 H2 λok H3=>if ok=true then te σ2 H3 λy H4=>Yes y σ2 H4 else No σ2 H3)
  (hend:∀H',Same H1 H'->LstAt H' D ((List.range xs.length).filterMap out)->R H') :
  ∃W:Nat->Nat->St->Hp->Prop,(∃m,W 0 m σ0 (upd H1 D (.lst [])))/\∀i m σ' H',W i m σ' H' ->
  ((Itl K a).stop i H'/\R H')∨((Itl K a).go i H'/\∃N:St->Hp->Prop,(∀σ'' H'',N σ'' H''->∃m',m'<m/\W (i+1) m' σ'' H'') /\
   ∀x H'',(Itl K a).yld i H' x H''->g x σ' H'' λσ2 H2=>tc σ2 H2 λok H3=>if ok=true then te σ2 H3 λy H4=>∃ys,H4 D=some (.lst ys)/\ys.length<sizeLine/\N σ2 (upd H4 D (.lst (ys++[y]))) else N σ2 H3):=by
 refine ju_ (Q:=λ_ H=>R H) (n:=xs.length) hD Sp out hn h0 (λH' e=>⟨xs,Same.seq e hl,AF _⟩) (λi H' hi e=>⟨xs,xs[i],Same.seq e hl,AJ hi⟩) (λi σ' H' Yes No hi hS hH hy hn x H'' y=>?_) hend
 obtain⟨rfl,y⟩:=y
 exact hturn i x σ' H'' Yes No (y xs (Same.seq hH hl)) hS hH hy hn
theorem xc_{α:Type}[Dat α]{K:PySem.W.Frag}{a:Addr}{xs:List V}{σ0:St}{H1:Hp}{D:Addr}{R:Hp->Prop}{g:TG}{tc:TT}{te:TE}(hD:H1 D=none)(hl:SqT K H1 a xs)(Sp:St->Prop)(out:Nat->Option α)(hn:xs.length<=sizeLine)(h0:Sp σ0)
  (hturn:∀(i:Nat)(x:V)(σ':St)(H':Hp)(Yes:V->St->Hp->Prop)(No:St->Hp->Prop),xs[i]?=some x->Sp σ'->Same H1 H'->(∀y σ2 H4 a,Sp σ2->Same H' H4->out i=some a->Dat.is H4 y a->Yes y σ2 H4)->(∀σ2 H3,Sp σ2->Same H' H3->out i=none->No σ2 H3) ->
   g x σ' H' λσ2 H2=>tc σ2 H2 λok H3=>if ok=true then te σ2 H3 λy H4=>Yes y σ2 H4 else No σ2 H3)
  (hend:∀H',Same H1 H'->LstAt H' D ((List.range xs.length).filterMap out)->R H') :
  ∃W:Nat->Nat->St->Hp->Prop,(∃m,W 0 m σ0 (upd H1 D (.lst [])))/\∀i m σ' H',W i m σ' H' ->
  ((Itt K a).stop i H'/\R H')∨((Itt K a).go i H'/\∃N:St->Hp->Prop,(∀σ'' H'',N σ'' H''->∃m',m'<m/\W (i+1) m' σ'' H'') /\
   ∀x H'',(Itt K a).yld i H' x H''->g x σ' H'' λσ2 H2=>tc σ2 H2 λok H3=>if ok=true then te σ2 H3 λy H4=>∃ys,H4 D=some (.lst ys)/\ys.length<sizeLine/\N σ2 (upd H4 D (.lst (ys++[y]))) else N σ2 H3):=by
 refine ju_ (Q:=λ_ H=>R H) (n:=xs.length) hD Sp out hn h0 (λH' e=>⟨xs,Same.tseq e hl,AF _⟩) (λi H' hi e=>⟨xs,xs[i],Same.tseq e hl,AJ hi⟩) (λi σ' H' Yes No hi hS hH hy hn x H'' y=>?_) hend
 obtain⟨rfl,y⟩:=y
 exact hturn i x σ' H'' Yes No (y xs (Same.tseq hH hl)) hS hH hy hn
theorem vl_{α:Type}[Dat α]{lo:Int}{n:Nat}{σ0:St}{H1:Hp}{D:Addr}{R:Hp->Prop}{g:TG}{tc:TT}{te:TE}(hD:H1 D=none)(Sp:St->Prop)(out:Nat->Option α)(hn:n<=sizeLine)(h0:Sp σ0)
  (hturn:∀(i:Nat)(σ':St)(H':Hp)(Yes:V->St->Hp->Prop)(No:St->Hp->Prop),i<n->Sp σ'->Same H1 H'->(∀y σ2 H4 a,Sp σ2->Same H' H4->out i=some a->Dat.is H4 y a->Yes y σ2 H4)->(∀σ2 H3,Sp σ2->Same H' H3->out i=none->No σ2 H3) ->
   g (.int (lo+i)) σ' H' λσ2 H2=>tc σ2 H2 λok H3=>if ok=true then te σ2 H3 λy H4=>Yes y σ2 H4 else No σ2 H3)
  (hend:∀H',Same H1 H'->LstAt H' D ((List.range n).filterMap out)->R H') :
  ∃W:Nat->Nat->St->Hp->Prop,(∃m,W 0 m σ0 (upd H1 D (.lst [])))/\∀i m σ' H',W i m σ' H' ->
  ((Itr lo n).stop i H'/\R H')∨((Itr lo n).go i H'/\∃N:St->Hp->Prop,(∀σ'' H'',N σ'' H''->∃m',m'<m/\W (i+1) m' σ'' H'') /\
   ∀x H'',(Itr lo n).yld i H' x H''->g x σ' H'' λσ2 H2=>tc σ2 H2 λok H3=>if ok=true then te σ2 H3 λy H4=>∃ys,H4 D=some (.lst ys)/\ys.length<sizeLine/\N σ2 (upd H4 D (.lst (ys++[y]))) else N σ2 H3):=by
 refine ju_ (Q:=λ_ H=>R H) (n:=n) hD Sp out hn h0 (λH' e=>AF _) (λi H' hi e=>hi) (λi σ' H' Yes No hi hS hH hy hn x H'' y=>?_) hend
 obtain⟨rfl,rfl⟩:=y
 exact hturn i σ' H'' Yes No hi hS hH hy hn
theorem aex_{α:Type}[Dat α]{a:Addr}{o:Obj}{d:List Mon}{σ0:St}{H1:Hp}{D:Addr}{R:Hp->Prop}{g:TG}{tc:TT}{te:TE}(hD:H1 D=none)(hl:H1 a=some (.frz o (.dT (toK d))))(Sp:St->Prop)(out:Nat->Option α)(hn:d.length<=sizeLine)(h0:Sp σ0)
  (hturn:∀(i:Nat)(t:Mon)(p q:Addr)(σ':St)(H':Hp)(Yes:V->St->Hp->Prop)(No:St->Hp->Prop),d[i]?=some t->H' p=none->H' q=some (.tup (t.1.map V.int))->Sp σ'->Same H1 H'->(∀y σ2 H4 a,Sp σ2->Same H' H4->out i=some a->Dat.is H4 y a->Yes y σ2 H4)->(∀σ2 H3,Sp σ2->Same H' H3->out i=none->No σ2 H3) ->
   g (.ref p) σ' (upd H' p (.tup [.ref q,.int t.2])) λσ2 H2=>tc σ2 H2 λok H3=>if ok=true then te σ2 H3 λy H4=>Yes y σ2 H4 else No σ2 H3)
  (hend:∀H',Same H1 H'->LstAt H' D ((List.range d.length).filterMap out)->R H') :
  ∃W:Nat->Nat->St->Hp->Prop,(∃m,W 0 m σ0 (upd H1 D (.lst [])))/\∀i m σ' H',W i m σ' H' ->
  ((Iti a o d).stop i H'/\R H')∨((Iti a o d).go i H'/\∃N:St->Hp->Prop,(∀σ'' H'',N σ'' H''->∃m',m'<m/\W (i+1) m' σ'' H'') /\
   ∀x H'',(Iti a o d).yld i H' x H''->g x σ' H'' λσ2 H2=>tc σ2 H2 λok H3=>if ok=true then te σ2 H3 λy H4=>∃ys,H4 D=some (.lst ys)/\ys.length<sizeLine/\N σ2 (upd H4 D (.lst (ys++[y]))) else N σ2 H3):=by
 refine ju_ (Q:=λ_ H=>R H) (n:=d.length) hD Sp out hn h0 (λH' e=>⟨e _ _ hl,AF _⟩) (λi H' hi e=>⟨e _ _ hl,hi⟩) (λi σ' H' Yes No hi hS hH hy hn x H'' y=>?_) hend
 obtain⟨p,q,t,rfl,hp,ht,hq,rfl⟩:=y
 exact hturn i t p q σ' H' Yes No ht hp hq hS hH hy hn
theorem aa7_{α:Type}[Dat α]{K:PySem.W.Frag}{k1 k2:SK}{a b:Addr}{xs ys:List V}{σ0:St}{H1:Hp}{D:Addr}{R:Hp->Prop}{g:TG}{tc:TT}{te:TE}(hD:H1 D=none)(hl:k1.is K H1 a xs)(hl2:k2.is K H1 b ys)(Sp:St->Prop)(out:Nat->Option α)(hn:min xs.length ys.length<=sizeLine)(h0:Sp σ0)
  (hturn:∀(i:Nat)(x y:V)(p:Addr)(σ':St)(H':Hp)(Yes:V->St->Hp->Prop)(No:St->Hp->Prop),xs[i]?=some x->ys[i]?=some y->H' p=none->Sp σ'->Same H1 H'->(∀y σ2 H4 a,Sp σ2->Same H' H4->out i=some a->Dat.is H4 y a->Yes y σ2 H4)->(∀σ2 H3,Sp σ2->Same H' H3->out i=none->No σ2 H3) ->
   g (.ref p) σ' (upd H' p (.tup [x,y])) λσ2 H2=>tc σ2 H2 λok H3=>if ok=true then te σ2 H3 λy H4=>Yes y σ2 H4 else No σ2 H3)
  (hend:∀H',Same H1 H'->LstAt H' D ((List.range (min xs.length ys.length)).filterMap out)->R H') :
  ∃W:Nat->Nat->St->Hp->Prop,(∃m,W 0 m σ0 (upd H1 D (.lst [])))/\∀i m σ' H',W i m σ' H' ->
  ((Itz K k1 k2 a b).stop i H'/\R H')∨((Itz K k1 k2 a b).go i H'/\∃N:St->Hp->Prop,(∀σ'' H'',N σ'' H''->∃m',m'<m/\W (i+1) m' σ'' H'') /\
   ∀x H'',(Itz K k1 k2 a b).yld i H' x H''->g x σ' H'' λσ2 H2=>tc σ2 H2 λok H3=>if ok=true then te σ2 H3 λy H4=>∃ys,H4 D=some (.lst ys)/\ys.length<sizeLine/\N σ2 (upd H4 D (.lst (ys++[y]))) else N σ2 H3):=by
 refine ju_ (Q:=λ_ H=>R H) (n:=min xs.length ys.length) hD Sp out hn h0 (λH' e=>⟨xs,ys,SK.same e hl,SK.same e hl2,by omega⟩) (λi H' hi e=>⟨xs,ys,xs[i],ys[i],SK.same e hl,SK.same e hl2,AJ (by omega),AJ (by omega)⟩) (λi σ' H' Yes No hi hS hH hy hn x H'' y=>?_) hend
 obtain⟨p,x,y,rfl,hp,rfl,hx,hy2⟩:=y
 exact hturn i x y p σ' H' Yes No (hx xs (SK.same hH hl)) (hy2 ys (SK.same hH hl2)) hp hS hH hy hn
theorem qT_{α β:Type}(f:α->Option β)(l:List α):(List.range l.length).filterMap (λi=>(l[i]?).bind f)=l.filterMap f:=by
 induction l with
 |nil=>rfl
 |cons x l ih =>
  rw[Am,B3,Br,List.filterMap_map,Br]
  have e:((λi=>((x::l)[i]?).bind f) ∘ Nat.succ)=λi=>(l[i]?).bind f:=by funext i;simp
  rw[e,ih]
  simp
theorem zS_{α β:Type}(c:α->Prop)[DecidablePred c](g:α->β)(l:List α):l.filterMap (λk=>if c k then some (g k) else none)=(l.filter λk=>decide (c k)).map g:=by
 induction l with
 |nil=>rfl
 |cons x l ih =>
  rw[Br,Av]
  by_cases h:c x
  ·rw[if_pos h,if_pos (decide_eq_true h),Ae,ih]
  ·rw[if_neg h,if_neg (by simpa using h),ih]
theorem qV_{α:Type}[D:Dat α]{H:Hp}{vs:List V}{l:List α}(h:Its H vs l){i:Nat}{x:V}(e:vs[i]?=some x):∃a,l[i]?=some a/\D.is H x a:=Paired.get h e
theorem qI_{α:Type}{l:List α}{i:Nat}{x:α}(e:l[i]?=some x):l.take (i+1)=l.take i++[x]:=by
 obtain⟨h,rfl⟩:=AX.mp e
 rw[List.take_succ_eq_append_getElem h]
theorem zY_{H:Hp}{x:V}{t:Mon}(h:Dat.is H x t):∃p q,x=.ref p/\H p=some (.tup [.ref q,.int t.2])/\H q=some (.tup (t.1.map V.int)):=by
 obtain⟨p,a,b,rfl,hp,ha,hb⟩:=h
 obtain⟨q,rfl,hq⟩:=q8_ ha
 have hb':b=.int t.2:=hb
 subst hb'
 exact⟨p,q,rfl,hp,hq⟩
theorem zo_{H:Hp}{p q:Addr}{t:Mon}(hp:H p=some (.tup [.ref q,.int t.2]))(hq:H q=some (.tup (t.1.map V.int))):Dat.is H (.ref p) t:=⟨p,_,_,rfl,hp,zd_ hq,rfl⟩
theorem yT_{H:Hp}{p:Addr}(h:H p=none)(o:HO):Tups H (upd H p o):=Tups.same (qd_ h o)
theorem yV_{σ:St}{H:Hp}{A B:Hp->Prop}(h:A H):tYes σ H (λok H3=>if ok=true then A H3 else B H3):=xp_ (A:=A H) (B:=B H) h
theorem zV_{i:Nat}{v:V}{σ:St}{H:Hp}{A B:St->Hp->Prop}(h:A (σ.set i (some v)) H):jy_ i v σ H (λσ2 H2=>tYes σ2 H2 λok H3=>if ok=true then A σ2 H3 else B σ2 H3):=xp_ (A:=A (σ.set i (some v)) H) (B:=B (σ.set i (some v)) H) h
end L2.Ev
namespace L2.Ev
open PySem PySem.Spec PyProof.Rows
open L2.Pl
section
variable{X:Cx}
def CBig(i j:Int):Prop:=i.natAbs<2^100000/\j.natAbs<2^100000
theorem abr_{x:Int}(h:x.natAbs<2^100000):Builtin.Int.intBits x<=2^20:=by
 unfold Builtin.Int.intBits
 split
 ·exact An _
 ·rename_i c
  have hx:x.natAbs≠0:=by
   intro z
   exact c (by simpa using Int.natAbs_eq_zero.mp z)
  have:=(Nat.log2_lt hx).mpr h
  have e:(2:Nat)^20=1048576:=by decide
  lia
theorem adh_:OpR X (binaryOp .Mult) (rI CBig λi j=>.int (i*j)):=opI λ_ _ _ _ _ _ _ hc q=>mul_int q (.of_bits (abr_ hc.1) (abr_ hc.2))
def aem_(K:PySem.W.Frag):R2:=λx y H Q=>∃a b xs ys,x=.ref a/\y=.ref b/\SqT K H a xs/\SqT K H b ys/\xs.length+ys.length<=sizeLine /\
 (xs=[]->Q (.ref b) H)/\(xs≠[]->ys=[]->Q (.ref a) H)/\(xs≠[]->ys≠[]->∀p,H p=none->Q (.ref p) (upd H p (.tup (xs++ys))))
theorem zl_:OpR X (binaryOp .Add) (aem_ X.K):=by
 intro pins s σ H x y v u Q I rx ry h
 obtain⟨a,b,xs,ys,rfl,rfl,ha,hb,hz,q0,q1,q2⟩:=h
 by_cases hx:xs=[]
 ·cases rx
  cases ry
  obtain⟨its,r1,p1,_⟩:=I.tuple ha
  obtain⟨its2,r2,p2,_⟩:=I.tuple hb
  obtain⟨⟨cls,dd,data,sl⟩,ho,hc,n,hd⟩:=id p1
  obtain⟨⟨cls2,dd2,data2,sl2⟩,ho2,hc2,n2,hd2⟩:=id p2
  simp only at hc hd hc2 hd2
  subst hc hd hc2 hd2
  have e0:its=[]:=r1.nil_iff.mpr hx
  exact concat_meets ⟨_,ho,rfl⟩ ⟨_,ho2,rfl⟩ noFill_tuple_add seq_tuple_add C4 C2 (Cr _ _)
   (tuple_addW0 a b its.toArray its2.toArray n n2 dd dd2 sl sl2 (by rw[e0];rfl)) ⟨ho,ho2,⟨.ref b,H,I,rfl,q0 hx⟩⟩
 ·exact ac5_ pins s σ H (.ref a) (.ref b) v u Q I rx ry ⟨a,b,xs,ys,rfl,rfl,ha,hb,hx,hz,q1 hx,q2 hx⟩
theorem zf_{K:PySem.W.Frag}{H:Hp}{a b:Addr}{r r':List Int}{Q:VK}(ha:H a=some (.tup (r.map V.int)))(hb:H b=some (.tup (r'.map V.int)))(hz:r.length+r'.length<=sizeLine)
  (q:∀p H',Same H H'->H' p=some (.tup ((r++r').map V.int))->Q (.ref p) H'):aem_ K (.ref a) (.ref b) H Q:=by
 refine⟨a,b,_,_,rfl,rfl,SqT.of ha,SqT.of hb,by simpa using hz,λe=>?_,λ_ e=>?_,λ_ _ p hp=>?_⟩
 ·have e':r=[]:=by simpa using e
  refine q b H (Same.refl _) ?_
  rw[e',Dx]
  exact hb
 ·have e':r'=[]:=by simpa using e
  refine q a H (Same.refl _) ?_
  rw[e',BP]
  exact ha
 ·refine q p _ (qd_ hp _) ?_
  rw[Aj]
  exact qc_
theorem agu_{l:Addr}{vs:List Value}{ns:List Int}{s:Shared}{prog:Program}{w:World}{A:Around}{E:Value->Shared->Prop}{Q:Value->Shared->Prop}(hh:A.handled=none)(hl:s.heap.IsList l vs.toArray)(hi:IntsAre vs ns)
  (h:∀h' tk t',(∀b o,s.heap.get? b=some o->h'.get? b=some o)->Q (.int ns.sum t') { s with heap:=h',toks:=tk }) :
  wpAny (model prog w) A (call (.builtin "sum") [.ref l]) Q E s:=by
 obtain⟨xs,hx⟩:=hi.allInts.items
 have hn:numsOf vs.toArray.toList=ns:=by rw[show vs.toArray.toList=vs from rfl,hi.numsOf]
 rw[hx]at hl hn
 rw[nums_intItems]at hn
 obtain⟨o,ho,hc,n,hd⟩:=id hl
 have hne:l≠s.heap.objs.size:=Ab (AK ho)
 have hsz:(intItems xs).size=xs.size:=by simp [intItems]
 have W:=(EX (prog:=prog) (w:=w) (A:=A.in1) hh s.heap.objs.size l hne (intItems xs)).toS
 rw[hsz]at W
 refine call_sum_walkAnyS (wpAny_pyIter_list hl ?_)
 refine⟨s.heap.objs.size,_,_,_,_,_,_,numAt xs,rfl,W,⟨⟨_,AI _ rfl,rfl,rfl⟩,hl.at λo e=>AB _ e⟩,λb hb=>?_,λi v hP=>intItems_at hP,λs' t' hm=>?_⟩
 ·rcases AL.mp hb with rfl|hb
  ·exact AK (AI _ rfl)
  ·obtain rfl:=AT.mp hb
   exact AK (AB _ ho)
 ·obtain⟨h',g',d',tk',os'⟩:=s'
  have e1:g'=s.gens:=hm.gens
  have e2:d'=s.drawn:=hm.drawn
  have e3:os'=s.os:=hm.os
  subst e1 e2 e3
  have q:=h h' tk' t' λb o e=>hm.heap b o (λhb=>absurd (AK e) ((AT.mp hb)▸Bl _)) (AB _ e)
  rw[preSum_eq,AU (by simp),hn]
  exact q
theorem zK_{H:Hp}{vs:List V}{ns:List Int}(i:Its H vs ns):vs=ns.map V.int:=by
 induction i with
 |nil=>rfl
 |cons r t ih=>rw[Ae,<-ih];exact congrArg (· :: _) r
theorem v0_(hc:X.calm=true):CallR X (.builtin "sum") (λxs H Q=>∃(p:Addr)(ns:List Int),xs=[.ref p]/\SqL X.K H p (ns.map V.int)/\Q (.int ns.sum) H):=by
 intro pins s σ H xs us Q I r h
 obtain⟨p,ns,rfl,hq,q⟩:=h
 obtain⟨u,rfl,ru⟩:=zx_ r
 cases ru
 obtain⟨its,rv,ht,_⟩:=I.list hq
 exact agu_ (I.ok.hd hc) ht.isList (q2_ rv) λh' tk t' hk=>⟨.int ns.sum,H,I.kept (t':=tk) hk,⟨t',rfl⟩,q⟩
theorem abb_{bs:List Bool}{its:List Value}(r:Vals (bs.map V.bl) its){i:Nat}{v:Value}(h:its.toArray[i]?=some v):∃b,bs[i]?=some b/\v=.bool b:=by
 have h':its[i]?=some v:=by simpa using h
 have hi:i<its.length:=(AX.mp h').1
 have hb:i<bs.length:=by have:=r.length;rw[AA]at this;lia
 have e:(bs.map V.bl)[i]?=some (V.bl bs[i]):=by rw[AV,AJ hb];rfl
 obtain⟨u,e1,r1⟩:=r.get e
 rw[h']at e1
 cases e1
 exact⟨bs[i],AJ hb,r1⟩
theorem ag0_{bs:List Bool}(n:Nat)(hn:n=bs.length):(List.range n).all (λi=>bs.getD i false)=bs.all id:=by
 subst hn
 induction bs with
 |nil=>rfl
 |cons b bs ih =>
  rw[Am,B3,Cc,Eh,Cc]
  have e:((λi=>(b::bs).getD i false) ∘ Nat.succ)=λi=>bs.getD i false:=by funext i;simp
  rw[e,ih]
  rfl
theorem agz_{bs:List Bool}(n:Nat)(hn:n=bs.length):(List.range n).any (λi=>bs.getD i false)=bs.any id:=by
 subst hn
 induction bs with
 |nil=>rfl
 |cons b bs ih =>
  rw[Am,B3,Bn,Ej,Bn]
  have e:((λi=>(b::bs).getD i false) ∘ Nat.succ)=λi=>bs.getD i false:=by funext i;simp
  rw[e,ih]
  rfl
theorem vc_{pins:List (Addr×Obj)}{σ:St}{H:Hp}{s:Shared}{o:Obj}{s':Shared}(I:Inv X pins σ H s)(hm:Moved [s.heap.objs.size] (λa b=>b=a) { s with heap:=s.heap.push o } s'):Inv X pins σ H s':=by
 obtain⟨h',g',d',tk',os'⟩:=s'
 have e1:g'=s.gens:=hm.gens
 have e2:d'=s.drawn:=hm.drawn
 have e3:os'=s.os:=hm.os
 subst e1 e2 e3
 exact I.kept (t':=tk') λb o e=>hm.heap b o (λhb=>absurd (AK e) ((AT.mp hb)▸Bl _)) (AB _ e)
theorem arg_(hc:X.calm=true):CallR X (.builtin "all") (λxs H Q=>∃(p:Addr)(bs:List Bool),xs=[.ref p]/\SqL X.K H p (bs.map V.bl)/\Q (.bl (bs.all id)) H):=by
 intro pins s σ H xs us Q I r h
 obtain⟨p,bs,rfl,hq,q⟩:=h
 obtain⟨u,rfl,ru⟩:=zx_ r
 cases ru
 obtain⟨its,rv,ht,_⟩:=I.list hq
 have hl:=ht.isList
 obtain⟨o,ho,_⟩:=id hl
 have W:=(EX (prog:=X.prog) (w:=X.w) (A:=X.A.in1) (I.ok.hd hc) s.heap.objs.size p (Ab (AK ho)) its.toArray).toS
 refine call_all_walkS (wpAny_pyIter_list hl ⟨s.heap.objs.size,_,_,_,_,_,_,λi=>bs.getD i false,rfl,W,⟨⟨_,AI _ rfl,rfl,rfl⟩,hl.at λo e=>AB _ e⟩,λi v s2 Q2 E2 hP q2=>?_,λs' hm=>?_⟩)
 ·obtain⟨b,hb,rfl⟩:=abb_ rv hP
  refine wpAny_truthy_bool ?_
  have e:bs.getD i false=b:=by rw[AO,hb];rfl
  have q2:Q2 (bs.getD i false) s2:=q2
  rw[e]at q2
  exact q2
 ·refine⟨.bl (bs.all id),H,vc_ I hm,?_,q⟩
  have e:=ag0_ (bs:=bs) its.toArray.size (by have:=rv.length;simp at this ⊢;lia)
  rw[e]
  rfl
theorem aab_(hc:X.calm=true):CallR X (.builtin "any") (λxs H Q=>∃(p:Addr)(bs:List Bool),xs=[.ref p]/\SqL X.K H p (bs.map V.bl)/\Q (.bl (bs.any id)) H):=by
 intro pins s σ H xs us Q I r h
 obtain⟨p,bs,rfl,hq,q⟩:=h
 obtain⟨u,rfl,ru⟩:=zx_ r
 cases ru
 obtain⟨its,rv,ht,_⟩:=I.list hq
 have hl:=ht.isList
 obtain⟨o,ho,_⟩:=id hl
 have W:=(EX (prog:=X.prog) (w:=X.w) (A:=X.A.in1) (I.ok.hd hc) s.heap.objs.size p (Ab (AK ho)) its.toArray).toS
 refine call_any_walkS (wpAny_pyIter_list hl ⟨s.heap.objs.size,_,_,_,_,_,_,λi=>bs.getD i false,rfl,W,⟨⟨_,AI _ rfl,rfl,rfl⟩,hl.at λo e=>AB _ e⟩,λi v s2 Q2 E2 hP q2=>?_,λs' hm=>?_⟩)
 ·obtain⟨b,hb,rfl⟩:=abb_ rv hP
  refine wpAny_truthy_bool ?_
  have e:bs.getD i false=b:=by rw[AO,hb];rfl
  have q2:Q2 (bs.getD i false) s2:=q2
  rw[e]at q2
  exact q2
 ·refine⟨.bl (bs.any id),H,vc_ I hm,?_,q⟩
  have e:=agz_ (bs:=bs) its.toArray.size (by have:=rv.length;simp at this ⊢;lia)
  rw[e]
  rfl
instance datBool:Dat Bool where
 is:=λ_ v b=>v=.bl b
 mono:=λ_ h=>h
 inj:=λh h'=>by rw[h]at h';cases h';rfl
 dep:=0
 eqb:=λa b=>a==b
 eqb_iff:=λa b=>by simp
 eqAt:=λ{X pins σ H s A v v' u u' a b} I hu h h' r r'=>by
  subst h h'
  cases r
  cases r'
  exact SeqAt.EqAt.bool_bool _ _
theorem aak_{H:Hp}{vs:List V}{bs:List Bool}(i:Its H vs bs):vs=bs.map V.bl:=by
 induction i with
 |nil=>rfl
 |cons r t ih=>rw[Ae,<-ih];exact congrArg (· :: _) r
theorem ak4_{α:Type}[D:Dat α]{pins:List (Addr×Obj)}{σ:St}{H:Hp}{s:Shared}{A:Around}{a b:Addr}{l m:List α}(I:Inv X pins σ H s)(hu:A.units+(D.dep+1)<cLine)(ha:Dat.is H (.ref a) l)(hb:Dat.is H (.ref b) m) :
  SeqAt.RcAt A s (.ref a) (.ref b) (zi_ D.eqb l m)/\SeqAt.RcNeAt A s (.ref a) (.ref b) (!zi_ D.eqb l m):=by
 obtain⟨p,vs,e,h,i⟩:=ha
 cases e
 obtain⟨p',vs',e',h',i'⟩:=hb
 cases e'
 obtain⟨its,rv,ht,_⟩:=I.tuple (SqT.of h)
 obtain⟨its',rv',ht',_⟩:=I.tuple (SqT.of h')
 have hl:its.toArray.size=l.length:=by have:=rv.length;have:=AQ i;simp;lia
 have hm:its'.toArray.size=m.length:=by have:=rv'.length;have:=AQ i';simp;lia
 have q:=Dc (A:=A) (s:=s) (e:=eAt D.eqb l m) (show s.heap.IsTuple a its.toArray from ht) (show s.heap.IsTuple b its'.toArray from ht') (by lia) (j7_ I (A:=A.in1) (by show A.units+1+D.dep<cLine;lia) i i' rv rv')
 have q2:=SeqAt.RcNeAt.tuples (A:=A) (s:=s) (e:=eAt D.eqb l m) (show s.heap.IsTuple a its.toArray from ht) (show s.heap.IsTuple b its'.toArray from ht') (by lia) (j7_ I (A:=A.in1) (by show A.units+1+D.dep<cLine;lia) i i' rv rv')
 rw[hl,hm,xa_]at q q2
 exact⟨q,q2⟩
def rEqT(α:Type)[Dat α]:R2:=λx y H Q=>∃(l m:List α),Dat.is H x l/\Dat.is H y m/\Q (.bl (zi_ (Dat.eqb (α:=α)) l m)) H
theorem acl_{α:Type}[D:Dat α](hu:X.A.units+(D.dep+1)<cLine):OpR X (compareOp .Eq) (rEqT α):=by
 intro pins s σ H x y v u Q I rx ry h
 obtain⟨l,m,ha,hb,q⟩:=h
 obtain⟨p,_,rfl,_⟩:=id ha
 obtain⟨p',_,rfl,_⟩:=id hb
 cases rx
 cases ry
 exact(ak4_ I hu ha hb).1 X.prog X.w X.xe _ ⟨.bl _,H,I,rfl,q⟩
end
end L2.Ev
namespace L2.Pl
def mval(ps pt:List Int):Int:=(ps.zip pt).foldl (λv x=>v*x.2^x.1.toNat) 1
theorem aes_{a b:Int}{x y:Nat}(ha:a.natAbs<2^x)(hb:b.natAbs<2^y):(a*b).natAbs<2^(x+y):=by
 rw[Int.natAbs_mul,En]
 exact Nat.mul_lt_mul_of_lt_of_lt ha hb
theorem zW_{a:Int}{x y:Nat}(h:a.natAbs<2^x)(hxy:x<=y):a.natAbs<2^y:=Ao h (Cj (by decide) hxy)
def swp(p:List Int)(k:Nat):List Int:=p.take k++[p.getD (k+1) 0,p.getD k 0]++p.drop (k+2)
def exch(ts:List Mon)(k:Nat):List Mon:=norm (ts.map λt=>(swp t.1 k,t.2))
theorem yn_{p:List Int}{k:Nat}(h:k+1<p.length):(swp p k).length=p.length:=by
 unfold swp
 simp
 omega
theorem ad2_{p:List Int}{k:Nat}(h:k+1<p.length){x:Int}(hx:x∈swp p k):x∈p:=by
 unfold swp at hx
 rcases Ai.mp hx with hx|hx
 ·rcases Ai.mp hx with hx|hx
  ·exact BC hx
  ·have e1:p.getD (k+1) 0=p[k+1]:=by simp [h]
   have e2:p.getD k 0=p[k]:=by simp [show k<p.length by omega]
   rw[e1,e2]at hx
   rcases AL.mp hx with rfl|hx
   ·exact CS _
   ·rw[AT.mp hx];exact CS _
 ·exact EW hx
structure Good(n b:Nat)(ts:List Mon):Prop where
 len:∀t∈ts,t.1.length=n
 pow:∀t∈ts,∀x∈t.1,0<=x/\x<=8
 num:∀t∈ts,t.2.natAbs<2^b
theorem Good.ne{n b:Nat}{ts:List Mon}(h:Good (n+1) b ts):∀t∈ts,t.1≠[]:=λt ht e=>by
 have:=h.len t ht
 rw[e]at this
 simp at this
theorem Good.mono{n b c:Nat}{ts:List Mon}(h:Good n b ts)(hbc:b<=c):Good n c ts:=⟨h.len,h.pow,λt ht=>zW_ (h.num t ht) hbc⟩
theorem xM_{b:Nat}(p:Pw):∀{ts:List Mon},(∀t∈ts,t.2.natAbs<2^b)->(cf ts p).natAbs<=ts.length*2^b
 |[],_=>by simp [cf]
 |t::r,h=>by
  have ih:=xM_ p (ts:=r) λx hx=>h x (AC _ hx)
  have h1:=h t (AD ..)
  simp only[cf]
  have h2:=Int.natAbs_add_le (if t.1=p then t.2 else 0) (cf r p)
  have h3:(if t.1=p then t.2 else (0:Int)).natAbs<=2^b:=by
   split
   ·omega
   ·simp
  rw[Am,Cs]
  omega
theorem y9_{l:List Mon}(c:Canon l){t:Mon}(ht:t∈l):cf l t.1=t.2:=by
 induction l with
 |nil=>cases ht
 |cons u l ih =>
  rcases AL.mp ht with e|ht
  ·subst e;exact c.head
  ·have o:=(Ah.mp c.ord).1 t ht
   simp only[cf]
   rw[if_neg (λe=>by rw[e,ze_]at o;cases o),ih c.tail ht]
   omega
theorem Good.norm{n b k:Nat}{ts:List Mon}(h:Good n b ts)(hk:ts.length<2^k):Good n (b+k) (norm ts):=by
 refine⟨λt ht=>?_,λt ht=>?_,λt ht=>?_⟩
 ·obtain⟨u,hu,e⟩:=qC_ ht
  rw[<-e];exact h.len u hu
 ·obtain⟨u,hu,e⟩:=qC_ ht
  rw[<-e];exact h.pow u hu
 ·have e:=y9_ (qM_ ts) ht
  rw[zt_]at e
  rw[<-e]
  refine BN (xM_ t.1 h.num) ?_
  rw[En,Ct]
  exact DX hk (Eo (by decide))
theorem Good.swp{n b k:Nat}{ts:List Mon}(h:Good n b ts)(hk:k+1<n):Good n b (ts.map λt=>(swp t.1 k,t.2)):=by
 refine⟨λt ht=>?_,λt ht=>?_,λt ht=>?_⟩<;>obtain⟨u,hu,rfl⟩:=AR.mp ht
 ·show(Pl.swp u.1 k).length=n
  rw[yn_ (by rw[h.len u hu];exact hk),h.len u hu]
 ·intro x hx
  exact h.pow u hu x (ad2_ (by rw[h.len u hu];exact hk) hx)
 ·exact h.num u hu
end L2.Pl
namespace L2.Pl
def zJ_(c k m:Int):Int:=(c%2147483647*48271+69621*k*k+7*k)%2147483629*((c%2147483647*48271+69621*k*k+7*k)%2147483629)%2147483587%m
theorem y4_{c k m:Int}(h:0<m):0<=zJ_ c k m:=D0 _ (by omega)
theorem yY_{c k m:Int}(h:0<m):zJ_ c k m<m:=DT _ h
def qZ_(c far w:Int):Nat->List Int×Int
 |0=>([],w)
 |n+1=>((qZ_ c far w n).1++[zJ_ c (far+n) ((qZ_ c far w n).2+1)],(qZ_ c far w n).2-zJ_ c (far+n) ((qZ_ c far w n).2+1))
theorem xH_{c far w:Int}(hw:0<=w):∀n,(qZ_ c far w n).1.length=n/\(∀x∈(qZ_ c far w n).1,0<=x)/\(qZ_ c far w n).1.sum+(qZ_ c far w n).2=w/\0<=(qZ_ c far w n).2
 |0=>by simp [qZ_];exact hw
 |n+1=>by
  obtain⟨h1,h2,h3,h4⟩:=xH_ (c:=c) (far:=far) hw n
  have t0:=y4_ (c:=c) (k:=far+n) (show 0<(qZ_ c far w n).2+1 by omega)
  have t1:=yY_ (c:=c) (k:=far+n) (show 0<(qZ_ c far w n).2+1 by omega)
  simp only[qZ_]
  refine⟨by simp [h1],λx hx=>?_,?_,by omega⟩
  ·rcases Ai.mp hx with hx|hx
   ·exact h2 x hx
   ·rw[AT.mp hx];exact t0
  ·rw[B1,Bw];omega
def padd(l:List Int)(x:Int):List Int:=l.dropLast++[l.getLastD 0+x]
def zk_(c far w:Int)(n:Nat):List Int:=if zJ_ c (far+11) 3=0 then padd (qZ_ c far w n).1 (qZ_ c far w n).2 else (qZ_ c far w n).1
def zF_(c far w:Int)(n:Nat):List Int:=(zk_ c far w n).drop (zJ_ c (far+12) n).toNat++(zk_ c far w n).take (zJ_ c (far+12) n).toNat
theorem jR_{x:Int}:∀{l:List Int},(∀y∈l,0<=y)->x∈l->x<=l.sum/\0<=l.sum
 |[],_,h=>by cases h
 |y::l,hl,h=>by
  have hl':∀z∈l,0<=z:=λz hz=>hl z (AC _ hz)
  have hy:=hl y (AD ..)
  have s0:0<=l.sum:=by
   have key:∀m:List Int,(∀z∈m,0<=z)->0<=m.sum:=by
    intro m
    induction m with
    |nil=>intro _;simp
    |cons a m ih =>
     intro hm
     have:=hm a (AD ..)
     have:=ih λz hz=>hm z (AC _ hz)
     rw[Ad];omega
   exact key l hl'
  rw[Ad]
  rcases AL.mp h with rfl|h
  ·omega
  ·have:=(jR_ hl' h).1
   omega
theorem aa8_{c far w:Int}(hw:0<=w){n:Nat}(hn:1<=n):(zk_ c far w n).length=n/\(∀x∈zk_ c far w n,0<=x)/\(zk_ c far w n).sum<=w:=by
 obtain⟨h1,h2,h3,h4⟩:=xH_ (c:=c) (far:=far) hw n
 unfold zk_
 split
 ·unfold padd
  have ne:(qZ_ c far w n).1≠[]:=by intro z;rw[z]at h1;simp at h1;omega
  obtain⟨l,x,e⟩:∃l x,(qZ_ c far w n).1=l++[x]:=⟨_,_,(BB ne).symm⟩
  rw[e]at h1 h2 h3 ⊢
  rw[EY,EZ]
  rw[B1,Bw]at h3
  refine⟨by simpa using h1,λy hy=>?_,?_⟩
  ·rcases Ai.mp hy with hy|hy
   ·exact h2 y (At _ hy)
   ·rw[AT.mp hy]
    have:=h2 x (by simp)
    omega
  ·rw[B1,Bw];omega
 ·exact⟨h1,h2,by omega⟩
theorem yQ_{a b:List Int}(h:a.Perm b):a.sum=b.sum:=by
 induction h with
 |nil=>rfl
 |cons x _ ih=>rw[Ad,Ad,ih]
 |swap x y l=>rw[Ad,Ad,Ad,Ad];omega
 |trans _ _ a b=>exact a.trans b
theorem yp_{c far w:Int}(hw:0<=w){n:Nat}(hn:1<=n):(zF_ c far w n).length=n/\(∀x∈zF_ c far w n,0<=x/\x<=w)/\(zF_ c far w n).sum<=w:=by
 obtain⟨h1,h2,h3⟩:=aa8_ (c:=c) (far:=far) hw hn
 have pm:(zF_ c far w n).Perm (zk_ c far w n):=by
  unfold zF_
  exact Bu.trans (by rw[BI])
 have sm:(zF_ c far w n).sum=(zk_ c far w n).sum:=yQ_ pm
 refine⟨by rw[pm.length_eq,h1],λx hx=>?_,by rw[sm];exact h3⟩
 have hx':=pm.mem_iff.mp hx
 exact⟨h2 x hx',by have:=(jR_ h2 hx').1;omega⟩
def xY_(ns:List Int)(k:Nat):Int:=if k<ns.length then ns.getD k 0%2147483647 else 0
end L2.Pl
namespace L2.Ev
open PySem
open L2.Pl
theorem jV_{c A B:Prop}[Decidable c](h:¬ c)(b:B):if decide c=true then A else B:=by
 rw[decide_eq_false h]
 exact ji_ b
theorem xX_{c A B:Prop}[Decidable c](h:c)(a:A):if decide c=true then A else B:=by
 rw[decide_eq_true h]
 exact xp_ a
theorem abz_{n:Nat}(h:1<=n):ixN n (-1)=some (n-1):=by
 unfold ixN
 rw[if_neg (by decide),if_pos (by omega)]
 congr 1
 omega
theorem aiy_{α:Type}(l:List α)(x y:α):(l++[x]).set ((l++[x]).length-1) y=l++[y]:=by
 rw[AE,Aq,Nat.add_sub_cancel,EG _ _ (AF _),Ei]
 rfl
theorem aks_(ps:List V)(k:Nat):za_ ps (some (k:Int)) none=ps.drop k:=by
 unfold za_
 rw[HT.sIx_none,HT.sIx_nat,AU (by rw[Au];omega)]
 by_cases c:k<=ps.length
 ·rw[Bh c]
 ·rw[Ck (by omega),Bb (AF _),Bb (by omega)]
theorem alr_(ps:List V)(k:Nat):za_ ps none (some (k:Int))=ps.take k:=by
 unfold za_
 rw[HT.sIx_none,HT.sIx_nat,CQ,Dh]
 by_cases c:k<=ps.length
 ·rw[Bh c]
 ·rw[Ck (by omega),AU (AF _),AU (by omega)]
end L2.Ev
namespace L2.Pl
def sm(f:Pw->Int):List Mon->Int
 |[]=>0
 |t::r=>t.2*f t.1+sm f r
theorem jd_(f:Pw->Int):∀a b:List Mon,sm f (a++b)=sm f a+sm f b
 |[],b=>by simp [sm]
 |t::a,b=>by simp only[Dj,sm];rw[jd_ f a b];lia
theorem ah4_(f:Pw->Int)(t:Mon):∀l:List Mon,sm f (ins t l)=t.2*f t.1+sm f l
 |[]=>by
  unfold ins
  split
  ·rename_i h
   simp [sm,h]
  ·simp [sm]
 |u::l=>by
  unfold ins
  split
  ·rename_i h
   split
   ·rename_i h2
    simp only[sm]
    rw[<-Int.add_assoc,h,<-DM,Int.add_comm t.2,h2]
    simp
   ·simp only[sm]
    rw[h,DM]
    lia
  ·split
   ·split
    ·rename_i h
     simp only[sm];rw[h];lia
    ·simp only[sm]
   ·simp only[sm];rw[ah4_ f t l];lia
theorem qq_(f:Pw->Int):∀ts:List Mon,sm f (norm ts)=sm f ts
 |[]=>rfl
 |t::r=>by
  show sm f (ins t (norm r))=_
  rw[ah4_,qq_ f r]
  rfl
theorem zN_(p:Pw):∀ts:List Mon,cf ts p=sm (λq=>if q=p then 1 else 0) ts
 |[]=>rfl
 |t::r=>by
  simp only[cf,sm]
  rw[zN_ p r]
  split<;>simp
theorem zv_{a b:List Mon}(h:∀f,sm f a=sm f b):norm a=norm b:=ae8_ λp=>by rw[zN_,zN_,h]
theorem qw_{f g:Pw->Int}:∀{ts:List Mon},(∀t∈ts,f t.1=g t.1)->sm f ts=sm g ts
 |[],_=>rfl
 |t::r,h=>by
  simp only[sm]
  rw[h t (AD ..),qw_ λx hx=>h x (AC _ hx)]
theorem aa9_(f g:Pw->Int):∀ts:List Mon,sm (λp=>f p+g p) ts=sm f ts+sm g ts
 |[]=>rfl
 |t::r=>by simp only[sm];rw[aa9_ f g r,EA];lia
theorem acg_(f:Pw->Int)(c:Int):∀ts:List Mon,sm (λp=>f p*c) ts=sm f ts*c
 |[]=>by simp [sm]
 |t::r=>by simp only[sm];rw[acg_ f c r,DM,C5]
theorem yJ_(f:Pw->Int)(c:Int)(ts:List Mon):sm (λp=>c*f p) ts=c*sm f ts:=by
 rw[Ek,<-acg_]
 exact qw_ λt _=>Ek _ _
def pad(p q:Pw):Pw:=List.zipWith (· + ·) p q
def prd(a b:List Mon):List Mon:=a.flatMap λt=>b.map λu=>(pad t.1 u.1,t.2*u.2)
def ngt(a:List Mon):List Mon:=a.map λt=>(t.1,-t.2)
def sws(a:List Mon)(k:Nat):List Mon:=a.map λt=>(swp t.1 k,t.2)
theorem je_(f:Pw->Int):∀a:List Mon,sm f (ngt a)=- sm f a
 |[]=>rfl
 |t::r=>by
  have:=je_ f r
  unfold ngt at this ⊢
  rw[Ae]
  simp only[sm]
  rw[this,Int.neg_mul]
  lia
theorem zQ_(f:Pw->Int)(k:Nat):∀a:List Mon,sm f (sws a k)=sm (λp=>f (swp p k)) a
 |[]=>rfl
 |t::r=>by
  have:=zQ_ f k r
  unfold sws at this ⊢
  rw[Ae]
  simp only[sm]
  rw[this]
theorem agb_(f:Pw->Int)(t:Mon):∀b:List Mon,sm f (b.map λu=>(pad t.1 u.1,t.2*u.2))=t.2*sm (λq=>f (pad t.1 q)) b
 |[]=>by simp [sm]
 |u::r=>by
  rw[Ae]
  simp only[sm]
  rw[agb_ f t r,EA,C5]
theorem qU_(f:Pw->Int)(b:List Mon):∀a:List Mon,sm f (prd a b)=sm (λp=>sm (λq=>f (pad p q)) b) a
 |[]=>rfl
 |t::r=>by
  have:=qU_ f b r
  unfold prd at this ⊢
  rw[BW,jd_,this,agb_]
  rfl
theorem yy_{p q:Pw}{n:Nat}(h:p.length=n)(g:q.length=n):(pad p q).length=n:=by
 unfold pad
 rw[List.length_zipWith,h,g,Dg]
theorem vz_:∀{p q:Pw},p.length=q.length->(pad p q).sum=p.sum+q.sum
 |[],[],_=>rfl
 |x::p,y::q,h=>by
  have:=vz_ (p:=p) (q:=q) (by simpa using h)
  unfold pad at this ⊢
  simp only[Ce,Ad]
  rw[this];lia
theorem abg_:∀{p q:Pw},(∀x∈p,0<=x)->(∀x∈q,0<=x)->∀x∈pad p q,0<=x
 |[],_,_,_,x,hx=>by simp [pad]at hx
 |_::_,[],_,_,x,hx=>by simp [pad]at hx
 |a::p,b::q,hp,hq,x,hx=>by
  unfold pad at hx
  rw[Ce]at hx
  rcases AL.mp hx with rfl|hx
  ·have:=hp a (AD ..)
   have:=hq b (AD ..)
   lia
  ·exact abg_ (λy hy=>hp y (AC _ hy)) (λy hy=>hq y (AC _ hy)) x hx
theorem aiv_(l:List (Int×Int)):∀v:Int,l.foldl (λv x=>v*x.2^x.1.toNat) v=v*l.foldl (λv x=>v*x.2^x.1.toNat) 1:=by
 induction l with
 |nil=>intro v;simp
 |cons x l ih =>
  intro v
  rw[BY,BY,ih,ih (1*_),Int.one_mul,C5]
theorem jo_(x y:Int)(p pt:List Int):mval (x::p) (y::pt)=y^x.toNat*mval p pt:=by
 unfold mval
 rw[Cq,BY,aiv_,Int.one_mul]
theorem jL_(x y:Int)(p:List Int):swp (x::y::p) 0=y::x::p:=by simp [swp]
theorem jD_(x:Int)(p:List Int)(k:Nat):swp (x::p) (k+1)=x::swp p k:=by simp [swp]
theorem ai9_:∀{k:Nat}{p pt:List Int},k+1<p.length->p.length=pt.length->mval (swp p k) pt=mval p (swp pt k)
 |0,x::y::p,a::b::pt,_,_=>by
  rw[jL_,jL_,jo_,jo_,jo_,jo_,Int.mul_left_comm]
 |k+1,x::p,a::pt,h1,h2=>by
  rw[jD_,jD_,jo_,jo_,ai9_ (by simpa using h1) (by simpa using h2)]
theorem ady_:∀{k:Nat}{p q:List Int},k+1<p.length->p.length=q.length->swp (pad p q) k=pad (swp p k) (swp q k)
 |0,x::y::p,a::b::q,_,_=>by
  rw[jL_,jL_]
  show swp ((x+a)::(y+b)::pad p q) 0=(y+b)::(x+a)::pad p q
  rw[jL_]
 |k+1,x::p,a::q,h1,h2=>by
  rw[jD_,jD_]
  show swp ((x+a)::pad p q) (k+1)=(x+a)::pad (swp p k) (swp q k)
  rw[jD_,ady_ (by simpa using h1) (by simpa using h2)]
theorem yi_{a b:List Mon}{n k:Nat}(ha:∀t∈a,t.1.length=n)(hb:∀t∈b,t.1.length=n)(hk:k+1<n):norm (sws (norm (prd a b)) k)=norm (prd (norm (sws a k)) (norm (sws b k))):=by
 refine zv_ λf=>?_
 rw[zQ_,qq_,qU_,qU_,qq_,zQ_]
 refine qw_ λt ht=>?_
 rw[qq_,zQ_]
 refine qw_ λu hu=>?_
 rw[ady_ (by rw[ha t ht];exact hk) (by rw[ha t ht,hb u hu])]
theorem ajr_(a:List Mon):norm (a++ngt a)=[]:=by
 have:norm (a++ngt a)=norm []:=zv_ λf=>by rw[jd_,je_];show _=(0:Int);lia
 rw[this];rfl
structure Deg(n d b:Nat)(ts:List Mon):Prop where
 len:∀t∈ts,t.1.length=n
 nn:∀t∈ts,∀x∈t.1,0<=x
 sum:∀t∈ts,t.1.sum<=d
 num:∀t∈ts,t.2.natAbs<2^b
theorem Deg.good{n d b:Nat}{ts:List Mon}(h:Deg n d b ts)(hd:d<=8):Good n b ts:=by
 refine⟨h.len,λt ht x hx=>⟨h.nn t ht x hx,?_⟩,h.num⟩
 have:=(jR_ (h.nn t ht) hx).1
 have:=h.sum t ht
 lia
theorem Deg.mono{n d b d' b':Nat}{ts:List Mon}(h:Deg n d b ts)(hd:d<=d')(hb:b<=b'):Deg n d' b' ts :=
 ⟨h.len,h.nn,λt ht=>by have:=h.sum t ht;lia,λt ht=>zW_ (h.num t ht) hb⟩
theorem Deg.app{n d b:Nat}{ts us:List Mon}(h:Deg n d b ts)(q:Deg n d b us):Deg n d b (ts++us) :=
 ⟨λt ht=>(Ai.mp ht).elim (h.len t) (q.len t),λt ht=>(Ai.mp ht).elim (h.nn t) (q.nn t),λt ht=>(Ai.mp ht).elim (h.sum t) (q.sum t),λt ht=>(Ai.mp ht).elim (h.num t) (q.num t)⟩
theorem Deg.norm{n d b k:Nat}{ts:List Mon}(h:Deg n d b ts)(hk:ts.length<2^k):Deg n d (b+k) (Pl.norm ts):=by
 refine⟨λt ht=>?_,λt ht=>?_,λt ht=>?_,λt ht=>?_⟩
 ·obtain⟨u,hu,e⟩:=qC_ ht
  rw[<-e];exact h.len u hu
 ·obtain⟨u,hu,e⟩:=qC_ ht
  rw[<-e];exact h.nn u hu
 ·obtain⟨u,hu,e⟩:=qC_ ht
  rw[<-e];exact h.sum u hu
 ·have e:=y9_ (qM_ ts) ht
  rw[zt_]at e
  rw[<-e]
  refine BN (xM_ t.1 h.num) ?_
  rw[En,Ct]
  exact DX hk (Eo (by decide))
theorem Deg.ngt{n d b:Nat}{ts:List Mon}(h:Deg n d b ts):Deg n d b (Pl.ngt ts):=by
 refine⟨λt ht=>?_,λt ht=>?_,λt ht=>?_,λt ht=>?_⟩<;>obtain⟨u,hu,rfl⟩:=AR.mp ht
 ·exact h.len u hu
 ·exact h.nn u hu
 ·exact h.sum u hu
 ·show(-u.2).natAbs<_
  rw[Int.natAbs_neg];exact h.num u hu
theorem adr_:∀{k:Nat}{p:List Int},k+1<p.length->(swp p k).sum=p.sum
 |0,x::y::p,_=>by rw[jL_];simp only[Ad];lia
 |k+1,x::p,h=>by rw[jD_];simp only[Ad];rw[adr_ (by simpa using h)]
theorem Deg.sws{n d b k:Nat}{ts:List Mon}(h:Deg n d b ts)(hk:k+1<n):Deg n d b (Pl.sws ts k):=by
 refine⟨λt ht=>?_,λt ht=>?_,λt ht=>?_,λt ht=>?_⟩<;>obtain⟨u,hu,rfl⟩:=AR.mp ht
 ·show(Pl.swp u.1 k).length=n
  rw[yn_ (by rw[h.len u hu];exact hk),h.len u hu]
 ·intro x hx
  exact h.nn u hu x (ad2_ (by rw[h.len u hu];exact hk) hx)
 ·show(Pl.swp u.1 k).sum<=d
  rw[adr_ (by rw[h.len u hu];exact hk)];exact h.sum u hu
 ·exact h.num u hu
theorem Deg.prd{n d b d' b':Nat}{ts us:List Mon}(h:Deg n d b ts)(q:Deg n d' b' us):Deg n (d+d') (b+b') (Pl.prd ts us):=by
 have key:∀t∈Pl.prd ts us,∃x∈ts,∃y∈us,t=(pad x.1 y.1,x.2*y.2):=λt ht=>by
  obtain⟨x,hx,ht⟩:=BE.mp ht
  obtain⟨y,hy,rfl⟩:=AR.mp ht
  exact⟨x,hx,y,hy,rfl⟩
 refine⟨λt ht=>?_,λt ht=>?_,λt ht=>?_,λt ht=>?_⟩<;>obtain⟨x,hx,y,hy,rfl⟩:=key t ht
 ·exact yy_ (h.len x hx) (q.len y hy)
 ·exact abg_ (h.nn x hx) (q.nn y hy)
 ·show(pad x.1 y.1).sum<=_
  rw[vz_ (by rw[h.len x hx,q.len y hy])]
  have:=h.sum x hx
  have:=q.sum y hy
  lia
 ·exact aes_ (h.num x hx) (q.num y hy)
theorem j2_(a b:List Mon):(prd a b).length=a.length*b.length:=by
 induction a with
 |nil=>simp [prd]
 |cons t r ih =>
  unfold prd at ih ⊢
  rw[BW,AE,ih,AA,Am,Cs,Ef]
theorem ad0_(a:List Mon):(ngt a).length=a.length:=by unfold ngt;rw[AA]
end L2.Pl
namespace L2.Pl
theorem yk_:∀{p a q:Pw}{n:Nat},p.length=n->a.length=n->q.length=n->lxl p a=true->lxl (pad p q) (pad a q)=true
 |[],[],_,_,_,_,_,h=>by simp [lxl]at h
 |[],_::_,_,_,h1,h2,_,_=>by simp at h1 h2;omega
 |_::_,[],_,_,h1,h2,_,_=>by simp at h1 h2;omega
 |_::_,_::_,[],_,h1,_,h3,_=>by simp at h1 h3;omega
 |x::p,y::a,z::q,n,h1,h2,h3,h=>by
  unfold pad
  simp only[Ce,lxl]at h ⊢
  simp only[Am]at h1 h2 h3
  by_cases e:x=y
  ·subst e
   rw[if_pos rfl]at h ⊢
   exact yk_ (n:=p.length) rfl (by omega) (by omega) h
  ·rw[if_neg e]at h
   have:=of_decide_eq_true h
   rw[if_neg (by omega)]
   exact decide_eq_true (by omega)
theorem xb_:∀p q:Pw,pad p q=pad q p
 |[],[]=>rfl
 |[],_::_=>rfl
 |_::_,[]=>rfl
 |x::p,y::q=>by
  have:=xb_ p q
  unfold pad at this ⊢
  simp only[Ce]
  rw[this,Int.add_comm]
structure Top(f:List Mon)(a:Pw)(x:Int):Prop where
 at_:cf f a=x
 top:∀t∈f,t.1=a∨lxl t.1 a=true
theorem Top.norm{f:List Mon}{a:Pw}{x:Int}(h:Top f a x):Top (norm f) a x:=⟨by rw[zt_];exact h.at_,λt ht=>by
 obtain⟨u,hu,e⟩:=qC_ ht
 rw[<-e]
 exact h.top u hu⟩
theorem aah_{t:Mon}{r:List Mon}(c:Canon (t::r)):Top (t::r) t.1 t.2:=⟨c.head,λu hu=>by
 rcases AL.mp hu with rfl|hu
 ·exact .inl rfl
 ·exact .inr ((Ah.mp c.ord).1 u hu)⟩
theorem Top.prd{f g:List Mon}{a b:Pw}{x y:Int}{n:Nat}(hf:Top f a x)(hg:Top g b y)(lf:∀t∈f,t.1.length=n)(lg:∀t∈g,t.1.length=n)(la:a.length=n)(lb:b.length=n):Top (prd f g) (pad a b) (x*y):=by
 have cmp:∀t∈f,∀u∈g,pad t.1 u.1=pad a b/\t.1=a/\u.1=b∨lxl (pad t.1 u.1) (pad a b)=true/\¬ (t.1=a/\u.1=b):=λt ht u hu=>by
  rcases hf.top t ht with e|e<;>rcases hg.top u hu with e'|e'
  ·exact .inl ⟨by rw[e,e'],e,e'⟩
  ·refine .inr ⟨?_,λz=>by rw[z.2,ze_]at e';cases e'⟩
   rw[e,xb_ a,xb_ a]
   exact yk_ (lg u hu) lb la e'
  ·refine .inr ⟨?_,λz=>by rw[z.1,ze_]at e;cases e⟩
   rw[e']
   exact yk_ (lf t ht) la lb e
  ·refine .inr ⟨?_,λz=>by rw[z.1,ze_]at e;cases e⟩
   refine z0_ (yk_ (lf t ht) la (lg u hu) e) ?_
   rw[xb_ a,xb_ a]
   exact yk_ (lg u hu) lb la e'
 refine⟨?_,λt ht=>?_⟩
 ·rw[zN_,qU_,<-hf.at_,<-hg.at_,zN_ a,zN_ b,<-acg_]
  refine qw_ λt ht=>?_
  rw[<-yJ_ (λq=>if q=b then 1 else 0)]
  refine qw_ λu hu=>?_
  rcases cmp t ht u hu with⟨e,e1,e2⟩|⟨e,e1⟩
  ·rw[if_pos e,if_pos e1,if_pos e2];rfl
  ·rw[if_neg (λz=>by rw[z,ze_]at e;cases e)]
   by_cases c:t.1=a
   ·rw[if_pos c,if_neg (λz=>e1 ⟨c,z⟩)];rfl
   ·rw[if_neg c];simp
 ·obtain⟨u,hu,ht⟩:=BE.mp ht
  obtain⟨v,hv,rfl⟩:=AR.mp ht
  rcases cmp u hu v hv with⟨e,_⟩|⟨e,_⟩
  ·exact .inl e
  ·exact .inr e
def Even(n:Nat)(f:List Mon):Prop:=∀k,k+1<n->norm (sws f k)=norm f
theorem Even.norm{n:Nat}{f:List Mon}(h:Even n f):Even n (norm f):=λk hk=>by
 rw[afr_ (qM_ f)]
 exact(zv_ λF=>by rw[zQ_,qq_,zQ_]).trans (h k hk)
theorem aj8_{n:Nat}{a b:List Mon}(ha:Even n a)(hb:Even n b)(la:∀t∈a,t.1.length=n)(lb:∀t∈b,t.1.length=n):Even n (prd a b):=λk hk=>by
 have h:=yi_ la lb hk
 rw[ha k hk,hb k hk]at h
 have e1:L2.Pl.norm (sws (L2.Pl.norm (prd a b)) k)=L2.Pl.norm (sws (prd a b) k):=zv_ λF=>by rw[zQ_,qq_,zQ_]
 have e2:L2.Pl.norm (prd (L2.Pl.norm a) (L2.Pl.norm b))=L2.Pl.norm (prd a b):=zv_ λF=>by
  rw[qU_,qq_,qU_]
  exact qw_ λt _=>qq_ _ _
 rw[<-e1,h,e2]
def scl(c:Int)(f:List Mon):List Mon:=f.map λt=>(t.1,c*t.2)
theorem abs_(F:Pw->Int)(c:Int):∀f:List Mon,sm F (scl c f)=c*sm F f
 |[]=>by simp [scl,sm]
 |t::r=>by
  have:=abs_ F c r
  unfold scl at this ⊢
  rw[Ae]
  simp only[sm]
  rw[this,EA,C5]
theorem yN_{n:Nat}{f g:List Mon}(hf:Even n f)(hg:Even n g):Even n (f++g):=λk hk=>zv_ λF=>by
 have h1:=congrArg (sm F) (hf k hk)
 have h2:=congrArg (sm F) (hg k hk)
 rw[qq_,qq_]at h1 h2
 have e:sws (f++g) k=sws f k++sws g k:=Aj
 rw[e,jd_,jd_,h1,h2]
theorem aj9_{n:Nat}{f:List Mon}(c:Int)(hf:Even n f):Even n (scl c f):=λk hk=>zv_ λF=>by
 have h1:=congrArg (sm λp=>F p) (hf k hk)
 rw[qq_,qq_,zQ_]at h1
 rw[zQ_,abs_,abs_,h1]
end L2.Pl
namespace L2.Pl
def Ak(a b:List Mon):Prop:=∀f:Pw->Int,sm f a=sm f b
theorem Ak.symm{a b:List Mon}(h:Ak a b):Ak b a:=λf=>(h f).symm
theorem Ak.trans{a b c:List Mon}(h:Ak a b)(g:Ak b c):Ak a c:=λf=>(h f).trans (g f)
theorem Ak.norm(a:List Mon):Ak (norm a) a:=λf=>qq_ f a
end L2.Pl
namespace L2.Ev
open PySem
open L2.Pl
structure Has(P:Program)(w:World)(K:PySem.W.Frag)(mg:Str->Option Value)(base:Heap)(k:Nat)(x:Str)(ps:List Str)(sp:Sp) where
 f:Addr
 fd:FuncData
 ok:FnOk P w K mg base CX0 k f fd ps sp
 bd:Binds K fd ps []
 kp:PySem.W.keepIn K (.ref f)=true
 at_:mg x=some (.ref f)
def Has.lift{P:Program}{w:World}{K:PySem.W.Frag}{mg:Str->Option Value}{base:Heap}{j k:Nat}{x:Str}{ps:List Str}{sp:Sp}(G:Has P w K mg base j x ps sp)(h:j<=k):Has P w K mg base k x ps sp:=⟨G.f,G.fd,G.ok.mono h,G.bd,G.kp,G.at_⟩
theorem qi_{X:Cx}{k:Nat}{x:Str}{ps:List Str}{sp:Sp}{p pos:Pos}{e:Expr}{es:List Expr}{t:TA}(G:Has X.prog X.w X.K X.mg X.base k x ps sp)(hr:Room k X.A)(hg:Gl X x)
  (ha:PA X (e::es) t) (hdb:(x==("__debug__" : Str))=false:=by decide) (he:starEach (e::es) X.env=(false,eval e X.env)::starEach es X.env:=by rfl) (hpl:(backTo pos (starEach es X.env)).any (·.1)=false:=by rfl) :
  PE X (.Call (.Name x p) (e::es) [] pos) (afg_ sp [] E0 t):=z9_ G.ok hr hg G.at_ G.kp G.bd .nil j0_ ha hdb he hpl
theorem v5_(ns:List Int)(lo hi:Nat):∃cs:List Int,za_ (ns.map V.int) (some (lo:Int)) (some (hi:Int))=cs.map V.int/\cs.length<=hi-lo:=by
 refine⟨(ns.drop (HT.sIx ns.length 0 (some (lo:Int)))).take (HT.sIx ns.length ns.length (some (hi:Int))-HT.sIx ns.length 0 (some (lo:Int))),?_,?_⟩
 ·unfold za_
  rw[AA,DY,Cn]
 ·rw[AW,Au,HT.sIx_nat,HT.sIx_nat];omega
theorem ye_{α:Type}[D:Dat α](l:List α):zi_ (Dat.eqb (α:=α)) l l=true:=(zZ_ Dat.eqb_iff _ _).mpr rfl
end L2.Ev
namespace L2.Ev
open PySem PyProof.Rows
open L2.Pl
end L2.Ev
namespace L2.Ev
open PySem
open L2.Pl
theorem aih_{lo:Int}{n:Nat}{σ0:St}{H1:Hp}{D:Addr}{R:Hp->Prop}{g:TG}{tc:TT}{te:TE}(Pv:Nat->List V->St->Hp->Prop)(hn:n<=sizeLine)(h0:Pv 0 [] σ0 (upd H1 D (.lst [])))
  (hturn:∀(i:Nat)(ys:List V)(σ':St)(H':Hp)(Yes:V->St->Hp->Prop)(No:St->Hp->Prop),i<n->H' D=some (.lst ys)->Pv i ys σ' H'->(∀y σ2 H4,H4 D=some (.lst ys)->Pv (i+1) (ys++[y]) σ2 (upd H4 D (.lst (ys++[y])))->Yes y σ2 H4)->(∀σ2 H3,H3 D=some (.lst ys)->Pv (i+1) ys σ2 H3->No σ2 H3) ->
   g (.int (lo+i)) σ' H' λσ2 H2=>tc σ2 H2 λok H3=>if ok=true then te σ2 H3 λy H4=>Yes y σ2 H4 else No σ2 H3)
  (hend:∀ys σ' H',H' D=some (.lst ys)->Pv n ys σ' H'->R H') :
  ∃W:Nat->Nat->St->Hp->Prop,(∃m,W 0 m σ0 (upd H1 D (.lst [])))/\∀i m σ' H',W i m σ' H' ->
  ((Itr lo n).stop i H'/\R H')∨((Itr lo n).go i H'/\∃N:St->Hp->Prop,(∀σ'' H'',N σ'' H''->∃m',m'<m/\W (i+1) m' σ'' H'') /\
   ∀x H'',(Itr lo n).yld i H' x H''->g x σ' H'' λσ2 H2=>tc σ2 H2 λok H3=>if ok=true then te σ2 H3 λy H4=>∃ys,H4 D=some (.lst ys)/\ys.length<sizeLine/\N σ2 (upd H4 D (.lst (ys++[y]))) else N σ2 H3):=by
 refine⟨λi m σ' H'=>m=n-i/\i<=n/\∃ys,ys.length<=i/\H' D=some (.lst ys)/\Pv i ys σ' H',⟨n,by simp,An _,[],AF _,qc_,h0⟩,?_⟩
 rintro i m σ' H' ⟨rfl,hi,ys,ly,eD,pv⟩
 by_cases hlt:i<n
 ·refine .inr ⟨hlt,λσ2 H2=>∃ys,ys.length<=i+1/\H2 D=some (.lst ys)/\Pv (i+1) ys σ2 H2,λσ2 H2 c=>⟨n-(i+1),by omega,rfl,hlt,c⟩,?_⟩
  rintro x H'' ⟨rfl,rfl⟩
  exact hturn i ys σ' H'' _ _ hlt eD pv (λy σ2 H4 e4 p4=>⟨ys,e4,by omega,ys++[y],by simp;exact ly,qc_,p4⟩) (λσ2 H3 e3 p3=>⟨ys,by omega,e3,p3⟩)
 ·obtain rfl:i=n:=by omega
  exact .inl ⟨AF _,hend ys σ' H' eD pv⟩
end L2.Ev
set_option maxHeartbeats 4000000
namespace L2.Ev
open PySem PySem.Spec PyProof.Rows
open PySem.W PySem.Calls
def amw_(h:Heap)(e:Addr)(od:Option Addr):Prop:=∃ob,h.get? e=some ob/\ob.dict=od
def FlyD(base:Heap)(l:List Env)(e:Addr)(cls a0:Value)(od:Option Addr)(h:Heap):Prop:=Heap.FlyingW base l e cls a0 h/\amw_ h e od
end L2.Ev
namespace L2.Ev
open PySem PySem.Spec PyProof.Rows
open L2.Pl
structure Bs(l:List Env)(H:Hp)(h:Heap)(H':Hp)(B:Heap):Prop where
 old:∀b o,h.get? b=some o->b∉frs l->∃o',B.get? b=some o'/\(H b=none->o'=o)
 trk:∀b u,H' b=some u->∃o,B.get? b=some o
structure Fly(P:Program)(w:World)(l:List Env)(H:Hp)(s:Shared)(a:Addr)(cls a0:Value)(od:Option Addr)(H':Hp)(s':Shared):Prop where
 os:s'.os=s.os
 bare:AllBare s'.gens
 un:Un (frs l) [] H H' s.heap s'.heap
 hok:HOk P w H' s'.heap
 fly:∃B,Bs l H s.heap H' B/\FlyD B l a cls a0 od s'.heap
end L2.Ev
namespace L2.Ev
open PySem PySem.Spec PyProof.Rows
open L2.Pl
end L2.Ev
namespace L2.Ev
open PySem PySem.Spec PyProof.Rows
open PySem.W
open PySem PySem.Calls PyProof.Rows Builtin Builtin.ObjectAttr Builtin.Getset_descriptor
structure ExcK(K:Frag)(C:Addr):Prop where
 obj:mroIn K C (.type "object")=some true
 exc:mroIn K C (.type "BaseException")=some true
 cls:findIn K (.ref C) "__class__" = some (some (.builtin "object.__class__"))
 ga:findIn K (.ref C) "__getattribute__" = some (some (.builtin "BaseException.__getattribute__"))
 gt:findIn K (.ref C) "__getattr__" = some none
 is:(clsIn K C).isSome=true
end L2.Ev
namespace L2.Ev
open PySem PySem.Spec PyProof.Rows
open L2.Pl
theorem ahg_(a v:Value):argsOk "max" ⟨[a],[(Str.ofString "default",v)]⟩:=by unfold argsOk;kernel_rfl
section
variable{prog:Program}{w:World}{A:Around}{R:Result->Shared->Prop}{I:Addr}{fp wr:List Addr}{n:Nat}{P:Nat->Value->Prop}{St:Nat->Heap->Prop}{dv:Value}
abbrev ah2_(I S:Addr)(dv:Value):Code:=.builtin "max.loop" ⟨[.ref I,.none,.ref S],[(Str.ofString "default",dv)]⟩
abbrev agq_(vs:Array Value)(c:Nat):Obj:={ cls:=.type "list",dict:=none,data:=.seq vs c,slots:=#[] }
theorem yz_:(toString "max" ++ toString ".loop" : String) = "max.loop" := by decide
theorem vK_(W:Walks prog w A.in1 I fp wr n P St)(bt:Nat->Nat->Bool)(hcmp:CmpOf prog w A.in1 .Gt P bt)(S:Addr)(hSf:S∉fp) :
  ∀(k j:Nat)(s:Shared)(vb:Value)(c:Nat),n-(j+1)=k->j+1<=n->St (j+1) s.heap->P (argBest bt j) vb->s.heap.get? S=some (agq_ #[vb,vb] c) ->
  (∀v h' tk,P (argBest bt (n-1)) v->(∀b o,b∉wr->b≠S->s.heap.get? b=some o->h'.get? b=some o)->R (.ok (.ret v)) { s with heap:=h',toks:=tk })->codeAny (model prog w) A (ah2_ I S dv) R s
 |0,j,s,vb,c,hk,hj,hst,hPb,hS,hR=>by
  have hSw:S∉wr:=λh=>hSf (W.sub _ h)
  have hin:j+1=n:=by omega
  refine codeAny_builtin Dm ?_
  rw[Ba CB _]
  show wpAny _ A.in1 (seqItems? (.ref S)>>=_) _ _ s
  refine wpAny_bind (wpAny_seqItems hS rfl ?_)
  show wpAny _ A.in1 (tryCatch (pyNext (.ref I)) _>>=_) _ _ s
  refine wpAny_bind (wpAny_tryCatch (W.done s _ _ (hin▸hst) λh' tk hk'=>?_))
  have hS':=hk' S _ hSw hS
  show wpAny _ A.in1 (updateSeq S (λ_=>#[])>>=_) _ _ _
  exact wpAny_bind (wpAny_updateSeq hS' rfl (wpAny_bind (wpAny_letGo (wpAny_pure (hR vb _ tk (by rw[<-hin];exact hPb) λb o hbw hbS e=>(Az _ _ (CG hbS)).trans (hk' b o hbw e))))))
 |k+1,j,s,vb,c,hk,hj,hst,hPb,hS,hR=>by
  have hSw:S∉wr:=λh=>hSf (W.sub _ h)
  have hlt:j+1<n:=by omega
  refine codeAny_builtin Dm ?_
  rw[Ba CB _]
  show wpAny _ A.in1 (seqItems? (.ref S)>>=_) _ _ s
  refine wpAny_bind (wpAny_seqItems hS rfl ?_)
  show wpAny _ A.in1 (tryCatch (pyNext (.ref I)) _>>=_) _ _ s
  refine wpAny_bind (wpAny_tryCatch (W.item (j+1) s _ _ hlt hst λv h' tk hP hst' hk'=>?_))
  have hS':=hk' S _ hSw hS
  show wpAny _ A.in1 (tryCatch (holding [v,v] (richCompare .Gt v vb>>=_)) _>>=_) _ _ _
  refine wpAny_bind (wpAny_tryCatch (wpAny_holding (wpAny_bind (hcmp (j+1) (argBest bt j) v vb _ _ _ hP hPb (wpAny_bind (wpAny_holding (wpAny_truthy_bool (wpAny_bind (wpAny_letGo (wpAny_pure ?_))))))))))
  cases hb:bt (j+1) (argBest bt j) with
  |true =>
   simp only[if_true]
   refine wpAny_bind (wpAny_updateSeq hS' rfl (wpAny_bind (wpAny_letGo ?_)))
   rw[yz_]
   refine wpAny_pure ⟨plainId_quiet CB _,vK_ W bt hcmp S hSf k (j+1) _ v _ (by omega) hlt (W.frame _ _ _ hst' λb hbf o e=>?_) (by simp only[argBest,hb,if_true];exact hP) (B5 _ hS' rfl) λv' h'' tk'' hP' hk''=>?_⟩
   ·exact(Az _ _ (λh:S=b=>hSf (by rw[h];exact hbf))).trans e
   ·exact hR v' h'' tk'' hP' λb o hbw hbS e=>hk'' b o hbw hbS ((Az _ _ (CG hbS)).trans (hk' b o hbw e))
  |false =>
   simp only[Ay,if_false]
   refine wpAny_bind (wpAny_letGo ?_)
   rw[yz_]
   exact wpAny_pure ⟨plainId_quiet CB _,vK_ W bt hcmp S hSf k (j+1) _ vb c (by omega) hlt hst' (by simp only[argBest,hb,Ay,if_false];exact hPb) hS' λv' h'' tk'' hP' hk''=>hR v' h'' tk'' hP' λb o hbw hbS e=>hk'' b o hbw hbS (hk' b o hbw e)⟩
theorem ans_(W:Walks prog w A.in1 I fp wr n P St)(bt:Nat->Nat->Bool)(hcmp:CmpOf prog w A.in1 .Gt P bt)(S:Addr)(hSf:S∉fp){s:Shared}{c:Nat}(hst:St 0 s.heap)(hS:s.heap.get? S=some (agq_ #[] c))
  (hR:∀v h' tk,((0<n/\P (argBest bt (n-1)) v)∨(n=0/\v=dv))->(∀b o,b∉wr->b≠S->s.heap.get? b=some o->h'.get? b=some o)->R (.ok (.ret v)) { s with heap:=h',toks:=tk }):codeAny (model prog w) A (ah2_ I S dv) R s:=by
 have hSw:S∉wr:=λh=>hSf (W.sub _ h)
 refine codeAny_builtin Dm ?_
 rw[Ba CB _]
 show wpAny _ A.in1 (seqItems? (.ref S)>>=_) _ _ s
 refine wpAny_bind (wpAny_seqItems hS rfl ?_)
 show wpAny _ A.in1 (tryCatch (pyNext (.ref I)) _>>=_) _ _ s
 rcases Nat.eq_zero_or_pos n with z|hn
 ·refine wpAny_bind (wpAny_tryCatch (W.done s _ _ (z▸hst) λh' tk hk'=>?_))
  exact wpAny_bind (wpAny_rule (wpAny_pure (hR dv h' tk (.inr ⟨z,rfl⟩) λb o hbw _ e=>hk' b o hbw e)))
 ·refine wpAny_bind (wpAny_tryCatch (W.item 0 s _ _ hn hst λv h' tk hP hst' hk'=>?_))
  have hS':=hk' S _ hSw hS
  show wpAny _ A.in1 (updateSeq S (λ_=>#[v,v])>>=_) _ _ _
  refine wpAny_bind (wpAny_updateSeq hS' rfl ?_)
  rw[yz_]
  refine wpAny_pure ⟨plainId_quiet CB _,vK_ W bt hcmp S hSf _ 0 _ v _ rfl hn (W.frame _ _ _ hst' λb hbf o e=>?_) hP (B5 _ hS' rfl) λv' h'' tk'' hP' hk''=>?_⟩
  ·exact(Az _ _ (λh:S=b=>hSf (by rw[h];exact hbf))).trans e
  ·exact hR v' h'' tk'' (.inl ⟨hn,hP'⟩) λb o hbw hbS e=>hk'' b o hbw hbS ((Az _ _ (CG hbS)).trans (hk' b o hbw e))
end
section
variable{prog:Program}{w:World}{A:Around}{E:Value->Shared->Prop}{Q:Value->Shared->Prop}{s:Shared}
theorem ali_{a:Addr}{xs:Array (Int×Tok)}{d:Int}{td:Tok}(hh:A.handled=none)(hl:s.heap.IsList a (intItems xs)∨s.heap.IsTuple a (intItems xs))
  (h:∀h' tk M t',(∀b o,s.heap.get? b=some o->h'.get? b=some o)->((xs.size=0/\M=d)∨(M∈xs.toList.map (·.1)/\∀x∈xs.toList.map (·.1),x<=M))->Q (.int M t') { s with heap:=h',toks:=tk }) :
  wpAny (model prog w) A (call (.builtin "max") [.ref a] [(Str.ofString "default",.int d td)]) Q E s:=by
 have fin:∀(v:Value)(s2:Shared)(h':Heap)(tk:Nat),s2={ s with heap:=s2.heap }->(∀b o,s.heap.get? b=some o->h'.get? b=some o)->((0<(intItems xs).size/\(intItems xs)[argBest (λi j=>decide (numAt xs i>numAt xs j)) ((intItems xs).size-1)]?=some v)∨((intItems xs).size=0/\v=.int d td))->Q v { s2 with heap:=h',toks:=tk }:=by
  intro v s2 h' tk e2 hk hv
  rw[e2]
  have sz:(intItems xs).size=xs.size:=by simp [intItems]
  rw[sz]at hv
  rcases hv with⟨hn,hv⟩|⟨z,rfl⟩
  ·obtain⟨t',rfl⟩:=intItems_at hv
   obtain⟨h1,h2⟩:=argBest_gt (numAt xs) (xs.size-1)
   refine h h' tk _ t' hk (.inr ⟨?_,λx hx=>?_⟩)
   ·rw[numAt_eq];exact getD_mem (by rw[AA,AM];omega)
   ·obtain⟨j,hj,rfl⟩:=mem_getD hx
    rw[AA,AM]at hj
    rw[<-numAt_eq];exact h2 j (by omega)
  ·exact h h' tk d td hk (.inl ⟨z,rfl⟩)
 have go:∀(fp wr:List Addr)(St:Nat->Heap->Prop)(s2:Shared),s2={ s with heap:=s2.heap }->(∀b o,s.heap.get? b=some o->s2.heap.get? b=some o)->Walks prog w A.in1 s.heap.objs.size fp wr (intItems xs).size (λi v=>(intItems xs)[i]?=some v) St->St 0 s2.heap->(∀b∈fp,b<s2.heap.objs.size)->(∀b∈wr,s.heap.get? b=none) ->
   wpAny (model prog w) A.in1 (newList []>>=λl=>(again (.builtin (toString "max" ++ toString ".loop") ⟨[.ref s.heap.objs.size,.none,l],[(Str.ofString "default",.int d td)]⟩):Sem Fin)) (λfin s'=>match fin with
    |.done f=>(match (Except.ok f:Result) with|.ok (.ret v)=>Q v s'|.ok _=>False|.error e=>E e s')
    |.again c'=>c'.quiet=true/\codeAny (model prog w) A c' (λr s'=>match r with|.ok (.ret v)=>Q v s'|.ok _=>False|.error e=>E e s') s') E s2:=by
  intro fp wr St s2 e2 k2 W st hfp hwr
  refine wpAny_bind (wpAny_newObj_type ?_)
  have hSf:s2.heap.objs.size∉fp:=λz=>Bl _ (hfp _ z)
  rw[yz_]
  refine wpAny_pure ⟨plainId_quiet CB _,ans_ W _ (CmpOf.ints_gt (numAt xs) (λ_ _=>intItems_at)) s2.heap.objs.size hSf (W.frame _ _ _ st λb _ o e=>AB _ e) (AI _ rfl) λv h' tk hv hk=>?_⟩
  exact fin v s2 h' tk e2 (λb o e=>hk b o (λz=>by rw[hwr b z]at e;cases e) (Ab (AK (k2 b o e))) (AB _ (k2 b o e))) hv
 have new:∀b∈[s.heap.objs.size],s.heap.get? b=none:=λb hb=>by rw[AT.mp hb];exact Heap.get?_none_of_le (AF _)
 refine PyProof.Rows.kmb_tree F.kind_max F.plain_max F.entry_max (ahg_ _ _) ?_
 show wpAny _ A.in1 (Builtin.Builtins.bindParams "max" ["key", "default"] 0 ⟨[],[(Str.ofString "default",.int d td)]⟩>>=_) _ _ s
 refine wpAny_bind (wpAny_of_eq (show Builtin.Builtins.bindParams "max" ["key", "default"] 0 ⟨[],[(Str.ofString "default",.int d td)]⟩=pure [none,some (.int d td)] from rfl) ?_)
 refine wpAny_bind (wpAny_pure (wpAny_bind ?_))
 have pairs:∀{b:Addr},b<s.heap.objs.size->∀(o:Obj),∀c∈[s.heap.objs.size,b],c<(s.heap.push o).objs.size:=λ{b} hb o c hc=>by
  rw[BO]
  rcases AL.mp hc with rfl|hc
  ·exact Nat.lt_succ_self _
  ·rw[AT.mp hc];exact Nat.lt_succ_of_lt hb
 rcases hl with hl|hl
 ·obtain⟨o,ho,_⟩:=id hl
  refine wpAny_pyIter_list hl ?_
  exact go _ _ _ _ rfl (λb o e=>AB _ e) (EX (A:=A.in1) hh s.heap.objs.size a (Ab (AK ho)) (intItems xs)) ⟨⟨_,AI _ rfl,rfl,rfl⟩,hl.at λo e=>AB _ e⟩ (pairs (AK ho) _) new
 ·obtain⟨o,ho,_⟩:=id hl
  refine wpAny_pyIter_tuple hl ?_
  exact go _ _ _ _ rfl (λb o e=>AB _ e) (Walks.tuple (A:=A.in1) hh s.heap.objs.size a (Ab (AK ho)) (intItems xs)) ⟨⟨_,AI _ rfl,rfl,rfl⟩,hl.at λo e=>AB _ e⟩ (pairs (AK ho) _) new
end
section
variable{X:Cx}
def aqb_(K:PySem.W.Frag)(d:Int)(ta:TA):TE:=λσ H Q=>ta σ H λvs H1=>∃(a:Addr)(ns:List Int),vs=[.ref a]/\(SqL K H1 a (ns.map V.int)∨SqT K H1 a (ns.map V.int))/\∀M:Int,((ns=[]/\M=d)∨(M∈ns/\∀x∈ns,x<=M))->Q (.int M) H1
theorem amb_{e:Expr}{ta:TA}{p pos kp kq:Pos}{j}{d:Int}(hc:X.calm=true)(hg:Gl X "max")(hm:X.mg "max" = none)(ha:PA X [e] ta)
  (h1:backTo pos (starEach [e] X.env)=(false,eval e X.env)::backTo pos (starEach [] X.env):=by rfl) (h2:(backTo pos (starEach [e] X.env)).any (·.1)=false:=by rfl) :
  PE X (.Call (.Name "max" p) [e] [⟨some (Str.ofString "default"),.Constant (.int d) j kq,kp⟩] pos) (aqb_ X.K d ta):=by
 intro pins s σ H Q I h
 refine wpAny_Call_Name_kw (z4_ I hg hm boot_max ?_)
 refine callWith_kw (thn (ha pos pins s σ H _ I h) λus s1 ⟨vs,H1,I1,r1,q1⟩=>?_) h1 h2
 obtain⟨a,ns,rfl,hq,q⟩:=q1
 obtain⟨u,rfl,ru⟩:=zx_ r1
 cases ru
 refine kws_cons (wpAny_Constant_int (kws_nil ?_))
 have I2:=I1.tok (s1.toks+1)
 have key:∀(its:List Value),Vals (ns.map V.int) its->(s1.heap.IsList a its.toArray∨s1.heap.IsTuple a its.toArray)->wpAny (model X.prog X.w) X.A (call (.builtin "max") [.ref a] [(Str.ofString "default",.int d s1.toks)]) (EP X pins σ Q) X.xe { s1 with toks:=s1.toks+1 }:=by
  intro its rv hl
  obtain⟨xs,hx⟩:=(q2_ rv).allInts.items
  have hn:xs.toList.map (·.1)=ns:=by
   have e1:numsOf its.toArray.toList=ns:=by rw[show its.toArray.toList=its from rfl,(q2_ rv).numsOf]
   rw[hx,nums_intItems]at e1
   exact e1
  rw[hx]at hl
  refine ali_ (I.ok.hd hc) hl λh' tk M t' hk hM=>⟨.int M,H1,I2.kept (t':=tk) hk,⟨t',rfl⟩,q M ?_⟩
  rw[hn]at hM
  rcases hM with⟨z,e⟩|hM
  ·refine .inl ⟨?_,e⟩
   rw[<-hn]
   have:xs=#[]:=EB.mp z
   rw[this];rfl
  ·exact .inr hM
 rcases hq with hq|hq
 ·obtain⟨its,rv,ht,_⟩:=I1.list hq
  exact key its rv (.inl ht.isList)
 ·obtain⟨its,rv,ht,_⟩:=I1.tuple hq
  exact key its rv (.inr ht)
theorem aac_:CallR X (.type "int") (λxs H Q=>∃b,xs=[.bl b]/\Q (.int (if b then 1 else 0)) H):=by
 intro pins s σ H xs us Q I r h
 obtain⟨b,rfl,q⟩:=h
 obtain⟨u,rfl,ru⟩:=zx_ r
 cases ru
 exact call_int_bool ⟨.int (if b then 1 else 0),H,I.tok _,⟨_,rfl⟩,q⟩
end
end L2.Ev
namespace L2.Ev
open PySem PySem.Spec PyProof.Rows
open L2.Pl
end L2.Ev
namespace L2.Ev
open PySem PyProof.Rows
open L2.Pl
end L2.Ev
namespace L2.Ev
open PySem PySem.Spec PyProof.Rows
open L2.Pl
theorem ak2_{prog:Program}{w:World}{A:Around}(hh:A.handled=none)(k:SK)(it l:Addr)(ne:l≠it)(xs:Array Value) :
  Draws prog w A it [it,l] xs.size (λi x=>xs[i]?=some x) (λi h=>k.iter h it l i/\k.seq h l xs) where
 live:=λi h st=>by
  cases k with
  |lst=>obtain⟨⟨o,e,_⟩,_⟩:=st;exact⟨o,e⟩
  |tup=>obtain⟨⟨o,e,_⟩,_⟩:=st;exact⟨o,e⟩
 frame:=λi h h' st q=>⟨SK.iter_keep st.1 λo e=>q it (by simp) o e,SK.seq_keep st.2 λo e=>q l (by simp) o e⟩
 item:=λi s Q E hi st q=>SK.next st.1 st.2 (AG hi) λh' p sb=>q xs[i] h' s.toks (AG hi) ⟨p,SK.seq_keep st.2 λo e=>sb.extBut _ _ ne e⟩ sb
 done:=λs Q E st q=>SK.stop hh st.1 st.2 (by simp) q
structure ESt(k:SK)(e it l:Addr)(i:Nat)(h:Heap):Prop where
 he:∃old,IsEnum h e it (i:Int) old
 hi:k.iter h it l i
theorem aoq_(l:Addr)(xs:Array Value) :
  Meets (Builtin.«enumerate.__new__» ⟨[.type "enumerate",.ref l],[]⟩) (λ_ R s=>s.heap.IsTuple l xs/\R (.ok (.ret (.ref (s.heap.push (SK.tup.ob l)).objs.size))) { s with heap:=(s.heap.push (SK.tup.ob l)).push { cls:=.type "enumerate",data:=.fields #[.none,.bool false,.ref s.heap.objs.size,rawInt 0,.none,.none] } }) :=
 .of_wp λprog w A R s h=>by
  obtain⟨hp,g,d,tk,os⟩:=s
  obtain⟨w1,h⟩:=h
  have hsub:=sub_enumerate
  have w1:Heap.IsTuple (Shared.heap ⟨hp,g,d,tk,os⟩) l xs:=w1
  obtain⟨o,ho,_⟩:=id w1
  wp_walk using Cw ho,wpAny_pyIter_tuple w1
  refine wpAny_stack_any λst=>wpAny_pure ?_
  split
  ·rename_i c _ _ _ _ _
   cases(c==Value.type "enumerate")<;>(wp_walk using Cw ho,wpAny_pyIter_tuple w1;exact⟨_,rfl,h⟩)
  ·wp_walk using Cw ho,wpAny_pyIter_tuple w1
   exact⟨_,rfl,h⟩
theorem am4_{k:SK}{l:Addr}{xs:Array Value}{Q:Value->Shared->Prop}{prog:Program}{w:World}{A:Around}{E:Value->Shared->Prop}{s:Shared}(hl:k.seq s.heap l xs)
  (h:∀h',ESt k (s.heap.objs.size+1) s.heap.objs.size l 0 h'->(∀c o,s.heap.get? c=some o->h'.get? c=some o)->Q (.ref (s.heap.objs.size+1)) { s with heap:=h' }) :
  wpAny (model prog w) A (call (.type "enumerate") [.ref l]) Q E s:=by
 cases k with
 |lst=>exact call_enumerate_list hl λh' a b _ q=>h h' ⟨⟨_,a⟩,b⟩ q
 |tup =>
  refine callType_new F.called_enumerate (by decide) (F.typeCall_enumerate_1 _) (F.newCall_enumerate_1 _) (λobj=>F.args_object_init_2 obj _) F.entry_enumerate_new (aoq_ l xs) ⟨hl,?_⟩
  have e1:(s.heap.push (SK.tup.ob l)).objs.size=s.heap.objs.size+1:=BO ..
  have g2:((s.heap.push (SK.tup.ob l)).push { cls:=.type "enumerate",data:=.fields #[.none,.bool false,.ref s.heap.objs.size,rawInt 0,.none,.none] }).get? (s.heap.push (SK.tup.ob l)).objs.size=some _:=AI _ rfl
  have fin:=h _ ⟨⟨.none,by rw[e1]at g2;exact g2⟩,SK.iter_new (k:=.tup) (AB _ (AI _ rfl))⟩ λc o e=>AB _ (AB _ e)
  rw[<-e1]at fin
  exact⟨⟨_,g2,rfl⟩,fin⟩
def Ite(K:PySem.W.Frag)(k:SK)(a:Addr):It :=
 ⟨λi H=>∃xs x,k.is K H a xs/\xs[i]?=some x,
  λi H v H'=>∃p x,v=.ref p/\H p=none/\H'=upd H p (.tup [.int i,x])/\∀xs,k.is K H a xs->xs[i]?=some x,
  λi H=>∃xs,k.is K H a xs/\xs.length<=i⟩
theorem ahj_{P:Program}{w:World}{K:PySem.W.Frag}{elts:List Expr}{x1}{pos:Pos}(k:SK)(a e it:Addr)(ne:e≠it) :
  Turn P w K (.Tuple elts x1 pos) (Ite K k a) [e,it] e (λi h=>ESt k e it a i h) where
 mem:=by simp
 obj:=λi h st c hc=>by
  obtain⟨⟨old,he⟩,h1⟩:=st
  simp only[AL,BS,or_false]at hc
  rcases hc with rfl|rfl
  ·exact⟨_,he,λv q=>by cases(show Data.fields _=Data.cell v from q)⟩
  ·cases k with
   |lst=>obtain⟨o,e,_,d⟩:=h1;exact⟨o,e,λv q=>by rw[d]at q;cases q⟩
   |tup=>obtain⟨o,e,_,d⟩:=h1;exact⟨o,e,λv q=>by rw[d]at q;cases q⟩
 keep:=λi h h' st q=>by
  obtain⟨⟨old,he⟩,h1⟩:=st
  exact⟨⟨old,q e (by simp) _ he⟩,SK.iter_keep h1 λo x=>q it (by simp) o x⟩
 item:=by
  intro X hP hw hK hc i pins s σ H E I hf st hg
  subst hP hw hK
  obtain⟨xs,x,q1,hx⟩:=hg
  obtain⟨its,r1,p1⟩:=SK.at I q1
  obtain⟨u,hu,ru⟩:=r1.get hx
  have fe:=hf e (by simp)
  have fi:=hf it (by simp)
  have ae:a≠e:=z8_ I q1 fe
  have ai:a≠it:=z8_ I q1 fi
  obtain⟨⟨old,he⟩,h1⟩:=id st
  have lt:i<its.toArray.size:=by
   have:=(AX.mp hu).1
   simpa using this
  refine wpAny_pyNext_enum_itemD (ak2_ (A:=X.A.in1) (I.ok.hd hc) k it a ai its.toArray) he ⟨h1,p1⟩ lt ne (by simp only[AL,BS,or_false,not_or];exact⟨ne,ae.symm⟩) λv h' tk hv a1 a2 a3 _ a4=>?_
  have hv':u=v:=by
   have:its[i]?=some v:=by simpa using hv
   rw[hu]at this
   exact AZ this
  subst hv'
  refine⟨_,rfl,wpAny_letOwnedTupleGo_enum (s:={ s with heap:=h',toks:=tk+1 }) a1 λh'' b1 b2=>?_⟩
  have kp:∀c o,c∉[e,it]->s.heap.get? c=some o->h''.get? c=some o:=λc o hc x=>by
   simp only[AL,BS,or_false,not_or]at hc
   exact b2.extBut _ _ hc.1 (a4 c o hc.1 hc.2 x)
  have elt:e<s.heap.objs.size:=AK he
  have hT:=b2.extBut _ _ (Bm elt) a3
  have hn:H s.heap.objs.size=none:=I.fresh
  have hok:HOk X.prog X.w (upd H s.heap.objs.size (.tup [.int i,x])) h'':=λc o z=>by
   by_cases hc:c=s.heap.objs.size
   ·subst hc
    rw[qc_]at z
    cases z
    exact⟨by show 2<=sizeLine;decide,[.int i tk,u],.cons ⟨tk,rfl⟩ (.cons ru .nil),⟨_,hT,rfl,_,rfl,rfl⟩⟩
   ·rw[qk_ hc]at z
    refine(I.hok c o z).stay (λd v2 hd q=>kp d v2 (λm=>?_) q) (λd q=>by rw[qk_ (qn_ q hn)];exact q) λd xs q=>by rw[qk_ (qn_ q hn)];exact q
    have z2:=(hf d m).1
    rcases hd with rfl|hd
    ·rw[z]at z2;cases z2
    ·rw[hd]at z2;cases z2
  have I9:Inv X pins σ (upd H s.heap.objs.size (.tup [.int i,x])) { s with heap:=h'',toks:=tk+1 }:=j4_ (s:=s) I hf kp (λc hc=>qk_ (Ab hc)) hok
  refine⟨.ref s.heap.objs.size,upd H s.heap.objs.size (.tup [.int i,x]),I9,rfl,⟨s.heap.objs.size,x,rfl,hn,rfl,λzs hz=>by rw[SK.inj I hz q1];exact hx⟩,?_,λc hc=>?_⟩
  ·refine⟨⟨u,?_⟩,SK.iter_keep a2.1 λo x=>b2.extBut _ _ ne.symm x⟩
   rw[Int.natCast_add]
   exact b1
  ·have hlt:c<s.heap.objs.size:=by
    simp only[AL,BS,or_false]at hc
    rcases hc with rfl|rfl
    ·exact elt
    ·exact SK.iter_lt h1
   rw[qk_ (Ab hlt)]
   exact(hf c hc).1
 done:=by
  intro X hP hw hK hc i pins s σ H E I hf st hg
  subst hP hw hK
  obtain⟨xs,q1,hx⟩:=hg
  obtain⟨its,r1,p1⟩:=SK.at I q1
  have fe:=hf e (by simp)
  have fi:=hf it (by simp)
  have ai:a≠it:=z8_ I q1 fi
  have l1:=r1.length
  obtain⟨⟨old,he⟩,h1⟩:=id st
  have hT:s.TypeIs (.ref e) "enumerate" := ⟨_,he,rfl⟩
  unfold pyNext
  refine wpAny_bind (wpAny_attempt (wpAny_callSpecial?_slot (name:=Str.ofString "__next__") hT EL (wpAny_call_entry EL hT F.entry_enumerate_next ?_ (F.args_enumerate_next_1 _))))
  show wpAny _ _ (field (.ref e) 2>>=λ_=>_) _ _ _
  refine wpAny_bind (wpAny_field he rfl (x:=Value.ref it) rfl (wpAny_bind (SK.stop (show X.A.in1.handled=none from I.ok.hd hc) h1 p1 (by simp;omega) λh' z q hz=>?_)))
  obtain⟨o,ho,hcl⟩:=hz
  refine wpAny_bind (wpAny_isInstance (T := "StopIteration") (b:=true) ⟨o,ho,hcl⟩ isSubtype_stop (wpAny_pure ⟨rfl,?_⟩))
  have kp:∀c o,c∉[it]->s.heap.get? c=some o->h'.get? c=some o:=λc o hc x=>q c o (by simpa using hc) x
  have hf1:∀c∈[it],jl_ X pins H c:=λc hc=>by rw[AT.mp hc];exact fi
  refine j4_ (h':=h') (t':=s.toks) I hf1 kp (λc _=>rfl) λc o z=>?_
  refine(I.hok c o z).stay (λd v2 hd q=>kp d v2 (λm=>?_) q) (λd q=>q) λd xs q=>q
  have z2:=(hf1 d m).1
  rcases hd with rfl|hd
  ·rw[z]at z2;cases z2
  ·rw[hd]at z2;cases z2
 self:=λ_ _ _ _ _ st h=>by
  obtain⟨⟨old,he⟩,_⟩:=st
  exact wpAny_pyIter_enum he h
def ape_(K:PySem.W.Frag)(k:SK)(ta:TA):TI:=λσ H R=>ta σ H λvs H1=>∃a,vs=[.ref a]/\(∃xs,k.is K H1 a xs)/\R (Ite K k a) H1
theorem ac7_{X:Cx}{ea:Expr}{ta:TA}{p pos tp:Pos}{elts:List Expr}{x1}(k:SK)(hg:Gl X "enumerate")(hm:X.mg "enumerate" = none)(ha:PA X [ea] ta)(hs:starEach [ea] X.env=(false,eval ea X.env)::starEach [] X.env:=by rfl)(hs2:(backTo pos (starEach [] X.env)).any (·.1)=false:=by rfl) :
  PI X (.Tuple elts x1 tp) (.Call (.Name "enumerate" p) [ea] [] pos) (ape_ X.K k ta):=by
 intro pins s σ H R I h
 refine Call_ (z4_ I hg hm boot_enumerate (Bi (thn (ha pos pins s σ H _ I h) λus s1 ⟨vs,H1,I1,r1,q1⟩=>?_) hs hs2))
 obtain⟨a,rfl,⟨xs,ex⟩,q⟩:=q1
 obtain⟨u,rfl,ru⟩:=zx_ r1
 cases ru
 obtain⟨its,r1,p1⟩:=SK.at I1 ex
 refine am4_ p1 λh' Z kp=>?_
 obtain⟨⟨old,he⟩,_⟩:=id Z
 refine wpAny_pyIter_enum he ?_
 have I2:Inv X pins σ H1 { s1 with heap:=h' }:=I1.kept (t':=s1.toks) kp
 refine⟨_,[s1.heap.objs.size+1,s1.heap.objs.size],_,_,H1,rfl,I2,ahj_ k a _ _ (Nat.succ_ne_self _),Z,λc hc=>?_,q⟩
 have ge:s1.heap.objs.size<=c:=by
  simp only[AL,BS,or_false]at hc
  rcases hc with rfl|rfl
  ·exact CT _ _
  ·exact AF _
 exact I1.fpOk ge (I1.hok.fresh ge)
theorem ajs_{K:PySem.W.Frag}{k:SK}{a:Addr}{xs:List V}{g:TG}{tb:TS}{D:Ends}{σ:St}{H:Hp}(Pv:Nat->St->Hp->Prop)(h0:Pv 0 σ H)(hl:∀i σ H,Pv i σ H->k.is K H a xs)
  (hs:∀i x p σ H,xs[i]?=some x->H p=none->Pv i σ H->g (.ref p) σ (upd H p (.tup [.int i,x])) λσ2 H2=>tb { D with nx:=Pv (i+1),ct:=Pv (i+1),bk:=D.nx } σ2 H2) (hd:∀σ H,Pv xs.length σ H->D.nx σ H) :
  ∃W:Nat->Nat->St->Hp->Prop,(∃m,W 0 m σ H)/\∀i m σ H,W i m σ H ->
   ((Ite K k a).stop i H/\D.nx σ H)∨((Ite K k a).go i H/\∃N:St->Hp->Prop,(∀σ' H',N σ' H'->∃m',m'<m/\W (i+1) m' σ' H')/\∀x H',(Ite K k a).yld i H x H'->g x σ H' λσ2 H2=>tb { D with nx:=N,ct:=N,bk:=D.nx } σ2 H2):=by
 refine⟨λi m σ H=>m=xs.length-i/\i<=xs.length/\Pv i σ H,⟨xs.length,by simp,An _,h0⟩,?_⟩
 rintro i m σ H ⟨rfl,hi,p⟩
 have l1:=hl i σ H p
 by_cases hlt:i<xs.length
 ·refine .inr ⟨⟨xs,xs[i],l1,AJ (by omega)⟩,Pv (i+1),λσ' H' p'=>⟨xs.length-(i+1),by omega,rfl,hlt,p'⟩,λx H' y=>?_⟩
  obtain⟨q,x,rfl,hq,rfl,hx⟩:=y
  exact hs i x q σ H (hx xs l1) hq p
 ·have e:i=xs.length:=by omega
  subst e
  exact .inl ⟨⟨xs,l1,AF _⟩,hd σ H p⟩
end L2.Ev
namespace L2.Ev
open PySem PySem.Spec PyProof.Rows
open L2.Pl
instance datStr:Dat Str where
 is:=λ_ v b=>v=.str b
 mono:=λ_ h=>h
 inj:=λh h'=>by rw[h]at h';cases h';rfl
 dep:=0
 eqb:=λa b=>a==b
 eqb_iff:=λa b=>beq_iff_eq
 eqAt:=λ{X pins σ H s A v v' u u' a b} I hu h h' r r'=>by
  subst h h'
  obtain⟨t,rfl⟩:=r
  obtain⟨t',rfl⟩:=r'
  exact SeqAt.EqAt.str_str _ _ _ _
section
variable{prog:Program}{w:World}{A:Around}{E:Value->Shared->Prop}{s:Shared}
theorem acv_{t sl:Addr}{items:Array Value}{vl vu:Value}{lo hi:Option Int}{Q:Value->Shared->Prop}(ht:IsTup s.heap t items)(hs:s.heap.IsSliceOf sl vl vu .none)(pl:IsPart vl lo)(pu:IsPart vu hi)
  (w1:HT.sIx items.size 0 lo=0) (w2:HT.sIx items.size items.size hi=items.size) (h:Q (.ref t) s):wpAny (model prog w) A (getItem (.ref t) (.ref sl)) Q E s:=by
 obtain⟨os,hos,hcs,hds⟩:=id hs
 have hTs:s.TypeIs (.ref sl) "slice" := ⟨os,hos,hcs⟩
 unfold getItem
 try with_reducible refine wpAny_holding ?_
 first|refine wpAny_bind (wpAny_pure ?_)|skip
 refine wpAny_bind (wpAny_sequenceKey ht.typeIs (by decide) (wpAny_bind (wpAny_callSpecial?_slot (name:=Str.ofString "__getitem__") ht.typeIs BX (wpAny_call_entry BX ht.typeIs entry_tuple_getitem ?_ (args_tuple_getitem _ _)))))
 show wpAny _ _ (Builtin.Tuple.tupleItemsOf (.ref t)>>=λ_=>_) _ _ s
 refine wpAny_bind (tupleItemsOf_ ht (wpAny_bind (wpAny_typeOf hTs ?_)))
 rw[if_pos (by decide)]
 refine wpAny_bind (HT.sliceApplied_gen hs pl pu ?_)
 rw[w1,w2]
 show wpAny _ _ (if (((0:Nat):Int)==0&&(1:Int)==1&&(items.size-0)==items.size)=true then _ else _) _ _ s
 rw[if_pos (by simp)]
 refine wpAny_bind ?_
 refine wpAny_bind (m:=Builtin.Tuple.tupleIsExact (.ref t)) ?_
 unfold Builtin.Tuple.tupleIsExact
 refine wpAny_bind (wpAny_typeOf ht.typeIs (wpAny_pure (wpAny_pure ?_)))
 rw[if_pos (by decide)]
 exact wpAny_bind (wpAny_rule (wpAny_pure ⟨_,rfl,wpAny_pure h⟩))
end
section
variable{X:Cx}
def ap9_(K:PySem.W.Frag):V->Option Int->Option Int->Hp->VK->Prop:=λx lo hi H Q=>∃a xs,x=.ref a/\SqT K H a xs/\HT.sIx xs.length 0 lo=0/\HT.sIx xs.length xs.length hi=xs.length/\Q (.ref a) H
theorem yu_:SlR X (ap9_ X.K):=by
 intro pins s σ H x v vl vu lo hi sl Q I rx hs pl pu h
 obtain⟨a,xs,rfl,hx,w1,w2,q⟩:=h
 cases rx
 obtain⟨its,r,ht,hz⟩:=I.tuple hx
 have hlen:its.toArray.size=xs.length:=by rw[Aa];exact r.length.symm
 exact⟨"tuple",_,BX.lookup,ht.typeIs,acv_ ht hs pl pu (by rw[hlen];exact w1) (by rw[hlen];exact w2) ⟨.ref a,H,I,rfl,q⟩⟩
theorem alj_:SlR X (λx lo hi H Q=>∃(a:Addr)(r:List Int),x=.ref a/\lo=some 1/\hi=none/\H a=some (.tup (r.map V.int))/\∀(p:Addr)(H':Hp),Same H H'->H' p=some (.tup ((r.drop 1).map V.int))->Q (.ref p) H'):=by
 intro pins s σ H x v vl vu lo hi sl Q I rx hs pl pu h
 obtain⟨a,r,rfl,rfl,rfl,ha,q⟩:=h
 cases r with
 |nil=>exact yu_ pins s σ H _ v vl vu _ _ sl Q I rx hs pl pu ⟨a,[],rfl,SqT.of ha,rfl,rfl,q a H (λ_ _ e=>e) ha⟩
 |cons n r =>
  refine xt_ pins s σ H _ v vl vu _ _ sl Q I rx hs pl pu ⟨a,_,rfl,SqT.of ha,λz=>?_,λp hp=>?_⟩
  ·have z1:=z.1
   rw[show(1:Int)=((1:Nat):Int) from rfl,HT.sIx_nat,AA,Am]at z1
   omega
  ·refine q p _ (qd_ hp _) ?_
   rw[qc_]
   unfold za_
   rw[show(1:Int)=((1:Nat):Int) from rfl,HT.sIx_nat,HT.sIx_none,AA,Am,Bh (by omega),AU (by simp),Cn]
theorem vg_:SlR X (λx lo hi H Q=>∃(a:Addr)(r:List Int)(k:Nat),x=.ref a/\lo=none/\hi=some (k:Int)/\H a=some (.tup (r.map V.int))/\∀(p:Addr)(H':Hp),Same H H'->H' p=some (.tup ((r.take k).map V.int))->Q (.ref p) H'):=by
 intro pins s σ H x v vl vu lo hi sl Q I rx hs pl pu h
 obtain⟨a,r,k,rfl,rfl,rfl,ha,q⟩:=h
 by_cases c:r.length<=k
 ·refine yu_ pins s σ H _ v vl vu _ _ sl Q I rx hs pl pu ⟨a,_,rfl,SqT.of ha,HT.sIx_none _ _,?_,q a H (λ_ _ e=>e) (by rw[AU c];exact ha)⟩
  rw[HT.sIx_nat,AA]
  omega
 ·refine xt_ pins s σ H _ v vl vu _ _ sl Q I rx hs pl pu ⟨a,_,rfl,SqT.of ha,λz=>?_,λp hp=>?_⟩
  ·have z2:=z.2
   rw[HT.sIx_nat,AA]at z2
   omega
  ·refine q p _ (qd_ hp _) ?_
   rw[qc_]
   unfold za_
   rw[HT.sIx_nat,HT.sIx_none,AA,CQ,Dh,Bh (by omega),DY]
end
end L2.Ev
namespace L2.Ev
open PySem PySem.Spec PyProof.Rows
open L2.Pl
section
variable{X:Cx}
theorem afw_:SlR X (λx lo hi H Q=>∃(a:Addr)(r:List Int)(k:Nat),x=.ref a/\lo=some (k:Int)/\hi=none/\H a=some (.tup (r.map V.int))/\∀(p:Addr)(H':Hp),Same H H'->H' p=some (.tup ((r.drop k).map V.int))->Q (.ref p) H'):=by
 intro pins s σ H x v vl vu lo hi sl Q I rx hs pl pu h
 obtain⟨a,r,k,rfl,rfl,rfl,ha,q⟩:=h
 by_cases c:min k r.length=0
 ·have e:r.drop k=r:=by
   rcases Nat.min_eq_zero_iff.mp c with z|z
   ·rw[z];rfl
   ·rw[BJ.mp z,List.drop_nil]
  exact yu_ pins s σ H _ v vl vu _ _ sl Q I rx hs pl pu ⟨a,_,rfl,SqT.of ha,by rw[HT.sIx_nat,AA];exact c,HT.sIx_none _ _,q a H (λ_ _ e=>e) (by rw[e];exact ha)⟩
 ·refine xt_ pins s σ H _ v vl vu _ _ sl Q I rx hs pl pu ⟨a,_,rfl,SqT.of ha,λz=>?_,λp hp=>?_⟩
  ·have z1:=z.1
   rw[HT.sIx_nat,AA]at z1
   exact c z1
  ·refine q p _ (qd_ hp _) ?_
   rw[qc_]
   unfold za_
   rw[HT.sIx_nat,HT.sIx_none,AA,AU (by rw[Au,AA];omega),Cn]
   by_cases c2:k<=r.length
   ·rw[Bh c2]
   ·rw[Ck (by omega),Bb (by rw[AA];omega),Bb (by rw[AA];omega)]
theorem aas_:OpR X (compareOp .NotIn) (λx y H Q=>∃(n:Int)(p:Addr)(r:List Int),x=.int n/\y=.ref p/\H p=some (.tup (r.map V.int))/\Q (.bl (!decide (n∈r))) H):=by
 intro pins s σ H x y v u Q I rx ry h
 obtain⟨n,p,r,rfl,rfl,hp,q⟩:=h
 have e:inV (.int n) (r.map V.int)=decide (n∈r):=by
  unfold inV
  clear hp q
  induction r with
  |nil=>rfl
  |cons y r ih =>
   rw[Ae,Bn,ih]
   by_cases c:y=n
   ·subst c
    rw[show eqV (.int y) (.int y)=true from beq_self_eq_true y,decide_eq_true (AD ..)]
    rfl
   ·rw[show eqV (.int y) (.int n)=false from beq_eq_false_iff_ne.mpr c,Bool.false_or]
    by_cases d:n∈r
    ·rw[decide_eq_true d,decide_eq_true (AC _ d)]
    ·rw[decide_eq_false d,decide_eq_false (λz=>(AL.mp z).elim (λz=>c z.symm) d)]
 refine ab9_ pins s σ H _ _ v u Q I rx ry ⟨p,_,rfl,.inr (SqT.of hp),rfl,?_,?_⟩
 ·rw[Eh];exact AN.mpr λ_ _=>rfl
 ·rw[if_pos rfl,e];exact q
end
end L2.Ev
namespace L2.Ev
open PySem PySem.Spec PyProof.Rows
open L2.Pl
theorem y1_:fillsNumberSlot (.type "tuple") "mul" = pure false :=
 PySem.fillsNumberSlot_seq (id := "tuple.__mul__") (r:=some (.builtin "tuple.__rmul__")) CD.lookup (by decide +kernel) Ds.lookup (by decide +kernel)
theorem abh_:seqRepeat? (.type "tuple")=pure (some (.builtin "tuple.__mul__")):=by
 unfold seqRepeat?
 rw[PySem.seqSlot_of (T := "tuple") (name := "__mul__") (id := "tuple.__mul__") CD.lookup (by decide +kernel),PySem.seqSlot_of (T := "tuple") (name := "__rmul__") (id := "tuple.__rmul__") Ds.lookup (by decide +kernel)]
 rfl
theorem abc_(a:Int)(t:Tok)(l:Addr)(items:Array Value)(n:Nat)(dd:Option Addr)(sl:Array (Option Value)) :
  Meets (Builtin.«int.__rmul__» ⟨[.int a t,.ref l],[]⟩) (λ_ R s=>s.heap.get? l=some ⟨.type "tuple",dd,.seq items n,sl⟩/\R (.ok (.ret Value.notImplemented)) s) :=
 .of_wp λprog w A R s h=>by
  obtain⟨hp,g,d,tk,os⟩:=s
  obtain⟨hl,h⟩:=h
  wp_walk
  exact⟨_,rfl,h⟩
theorem ai2_(l:Addr)(items:Array Value)(n:Nat)(dd:Option Addr)(sl:Array (Option Value))(u:Tok) :
  Meets (Builtin.«tuple.__mul__» ⟨[.ref l,.int 1 u],[]⟩) (λ_ R s=>s.heap.get? l=some ⟨.type "tuple",dd,.seq items n,sl⟩/\R (.ok (.ret (.ref l))) s) :=
 .of_wp λprog w A R s h=>by
  obtain⟨hp,g,d,tk,os⟩:=s
  obtain⟨hl,h⟩:=h
  have hc:(items.isEmpty||(1:Int)==1)=true:=by rw[beq_self_eq_true,El]
  wp_walk
  exact⟨_,rfl,h⟩
theorem ai7_(l:Addr)(items:Array Value)(n:Nat)(dd:Option Addr)(sl:Array (Option Value))(k:Int)(u:Tok)(hi:items.isEmpty=false)(h0:k<=0)(h1:-(2^63)<=k) :
  Meets (Builtin.«tuple.__mul__» ⟨[.ref l,.int k u],[]⟩) (λ_ R s=>s.heap.get? l=some ⟨.type "tuple",dd,.seq items n,sl⟩/\R (.ok (.ret (.ref s.heap.objs.size))) { s with heap:=s.heap.push { cls:=.type "tuple",data:=.seq #[] } }) :=
 .of_wp λprog w A R s h=>by
  obtain⟨hp,g,d,tk,os⟩:=s
  obtain⟨hl,h⟩:=h
  have hf:¬ (decide (k < -(2^63))||decide (k ≥ 2^63))=true:=by rw[decide_eq_false (by omega),decide_eq_false (by omega)];exact AS
  have hc:¬ (items.isEmpty||k==1)=true:=by rw[hi,show(k==1)=false from beq_eq_false_iff_ne.mpr (by omega)];exact AS
  have hz:(decide (k<=0)||items.isEmpty)=true:=by rw[decide_eq_true h0];rfl
  wp_walk
  refine wpAny_ite_false (decide_eq_false hf) ?_
  wp_walk
  refine wpAny_ite_false (decide_eq_false hc) ?_
  wp_walk
  exact⟨_,rfl,h⟩
theorem aji_(l:Addr)(items:Array Value)(n:Nat)(dd:Option Addr)(sl:Array (Option Value))(k:Int)(u:Tok)(hi:items.isEmpty=false)(h0:2<=k)(h1:k<2^63)(hz:items.size*k.toNat<=sizeLine) :
  Meets (Builtin.«tuple.__mul__» ⟨[.ref l,.int k u],[]⟩) (λ_ R s=>s.heap.get? l=some ⟨.type "tuple",dd,.seq items n,sl⟩/\R (.ok (.ret (.ref s.heap.objs.size))) { s with heap:=s.heap.push { cls:=.type "tuple",data:=.seq ((List.replicate k.toNat items).foldl (λx1 x2=>x1++x2) #[]) } }) :=
 .of_wp λprog w A R s h=>by
  obtain⟨hp,g,d,tk,os⟩:=s
  obtain⟨hl,h⟩:=h
  have e:(items.size:Int)*k=((items.size*k.toNat:Nat):Int):=by rw[Int.natCast_mul,CZ (by omega)]
  have hs:(sizeLine:Nat)<=(2^63-1) / 8:=by decide
  have hf:¬ (decide (k < -(2^63))||decide (k ≥ 2^63))=true:=by rw[decide_eq_false (by omega),decide_eq_false (by omega)];exact AS
  have hc:¬ (items.isEmpty||k==1)=true:=by rw[hi,show(k==1)=false from beq_eq_false_iff_ne.mpr (by omega)];exact AS
  have hz1:¬ (decide (k<=0)||items.isEmpty)=true:=by rw[decide_eq_false (by omega),hi];exact AS
  have hm:¬ (items.size:Int)*k>(2^63-1) / 8:=by rw[e];omega
  have ht:¬ Builtin.Tuple.tupleTooMany ((items.size:Int)*k)=true:=by
   unfold Builtin.Tuple.tupleTooMany
   rw[e,decide_eq_false (by omega)]
   exact AS
  have hsz:sizeOk (.seq ((List.replicate k.toNat items).foldl (λx1 x2=>x1++x2) #[])):=by
   show((List.replicate k.toNat items).foldl (λx1 x2=>x1++x2) #[]).size<=sizeLine
   have:∀(m:Nat)(acc:Array Value),((List.replicate m items).foldl (λx1 x2=>x1++x2) acc).size=acc.size+items.size*m:=by
    intro m
    induction m with
    |zero=>intro acc;simp
    |succ m ih=>intro acc;rw[Ap,BY,ih,Array.size_append,Nat.mul_succ];omega
   rw[this]
   simpa using hz
  wp_walk
  refine wpAny_ite_false (decide_eq_false hf) ?_
  wp_walk
  refine wpAny_ite_false (decide_eq_false hc) ?_
  wp_walk
  refine wpAny_ite_false (decide_eq_false hz1) ?_
  wp_walk
  refine wpAny_ite_false (decide_eq_false hm) ?_
  wp_walk
  refine wpAny_ite_false (decide_eq_false ht) ?_
  wp_walk
  refine wpAny_ite_false (decide_eq_false (EV.mpr hsz)) ?_
  wp_walk
  exact⟨_,rfl,h⟩
theorem ah5_(r:List Int)(k:Nat):(List.replicate k (r.map V.int)).flatten=((List.replicate k r).flatten).map V.int:=by
 induction k with
 |zero=>rfl
 |succ k ih=>rw[Ap,Ap,BV,BV,Aj,ih]
theorem aeh_(l:List Value):∀m:Nat,(List.replicate m l.toArray).foldl (λx1 x2=>x1++x2) #[]=(List.replicate m l).flatten.toArray:=λm=>by
 have:∀(m:Nat)(acc:List Value),(List.replicate m l.toArray).foldl (λx1 x2=>x1++x2) acc.toArray=(acc++(List.replicate m l).flatten).toArray:=by
  intro m
  induction m with
  |zero=>intro acc;simp
  |succ m ih =>
   intro acc
   rw[Ap,BY,List.append_toArray,ih,Ap,BV,AY]
 exact this m []
section
variable{X:Cx}
theorem z5_:OpR X (binaryOp .Mult) (λx y H Q=>∃(p:Addr)(r:List Int)(k:Int),x=.ref p/\y=.int k/\H p=some (.tup (r.map V.int))/\r≠[]/\-(2^63)<=k/\k<2^63/\r.length*k.toNat<=sizeLine /\
  ∀(t:Addr)(H':Hp),Same H H'->H' t=some (.tup (((List.replicate k.toNat r).flatten).map V.int))->Q (.ref t) H'):=by
 intro pins s σ H x y v u Q I rx ry h
 obtain⟨p,r,k,rfl,rfl,hp,hne,h1,h2,hz,q⟩:=h
 cases rx
 obtain⟨t,rfl⟩:=ry
 obtain⟨its,rv,p1,_⟩:=I.tuple (SqT.of hp)
 obtain⟨⟨cls,dd,data,sl⟩,ho,hc,n,hd⟩:=id p1
 simp only at hc hd
 subst hc hd
 have hl:=rv.length
 rw[AA]at hl
 have hi:its.toArray.isEmpty=false:=by
  cases its with
  |nil=>exact absurd (BJ.mp (by rw[hl];rfl)) hne
  |cons a b=>rfl
 refine wpAny_binaryOp_repeat_ref (T := "tuple") (U := "int") (by decide) ⟨_,ho,rfl⟩ (λs'=>typeIs_int s' k t) y1_ PySem.F.fills_int_mul EM abh_ PySem.F.slot_int_index.lookup
  (call_meets EM (typeIs_int s k t) PySem.F.entry_int_rmul (PySem.F.args_int_rmul_2 _ _) (abc_ k t p its.toArray n dd sl) ⟨ho,rfl,⟨_,ho,rfl⟩,?_⟩)
 by_cases c1:k=1
 ·subst c1
  refine call_meets CD ⟨_,ho,rfl⟩ C3 (Cy _ _) (ai2_ p its.toArray n dd sl t) ⟨ho,?_⟩
  exact⟨.ref p,H,I,rfl,q p H (λ_ _ e=>e) (by rw[hp];simp)⟩
 ·by_cases c0:k<=0
  ·refine call_meets CD ⟨_,ho,rfl⟩ C3 (Cy _ _) (ai7_ p its.toArray n dd sl k t hi c0 h1) ⟨ho,?_⟩
   refine⟨.ref s.heap.objs.size,upd H s.heap.objs.size (.tup []),I.laid (t':=s.toks) (o:=.tup []) (λb ob q=>AB _ q) (AF _) ⟨An _,[],.nil,TupN.new _ _⟩,rfl,q _ _ (qd_ I.fresh _) ?_⟩
   rw[qc_,show k.toNat=0 by omega]
   rfl
  ·refine call_meets CD ⟨_,ho,rfl⟩ C3 (Cy _ _) (aji_ p its.toArray n dd sl k t hi (by omega) h2 (by rw[Aa,<-hl];exact hz)) ⟨ho,?_⟩
   rw[aeh_]
   refine⟨.ref s.heap.objs.size,upd H s.heap.objs.size (.tup ((List.replicate k.toNat (r.map V.int)).flatten)),I.laid (t':=s.toks) (o:=.tup ((List.replicate k.toNat (r.map V.int)).flatten)) (λb ob q=>AB _ q) (AF _) ⟨?_,_,rv.rep k.toNat,TupN.new _ _⟩,rfl,q _ _ (qd_ I.fresh _) ?_⟩
   ·rw[adc_,AA,Ct];exact hz
   ·rw[qc_,ah5_]
end
end L2.Ev
namespace L2.Ev
open PySem PySem.Spec PyProof.Rows
open L2.Ts L2.Pl L2.Rw
end L2.Ev
namespace L2.Ev
open PySem PySem.Spec PyProof.Rows
theorem jN_{env:Env}:∀{names:List (Str×NameKind)}{x:Str}{k:NameKind},(k=.cell∨k=.free) ->
  (names.map λ(n,k)=>if (k==NameKind.free&&env.scope.kind==.function&&env.kindOf n==some .cell) then (n,NameKind.cell) else (n,k)).lookup x=some k->(x,NameKind.free)∈names∨(x,NameKind.cell)∈names
 |[],_,_,_,h=>by simp at h
 |(n,j)::r,x,k,hk,h=>by
  have h':List.lookup x ((if (j==NameKind.free&&env.scope.kind==.function&&env.kindOf n==some .cell)=true then (n,NameKind.cell) else (n,j))::r.map λ(n,k)=>if (k==NameKind.free&&env.scope.kind==.function&&env.kindOf n==some .cell) then (n,NameKind.cell) else (n,k))=some k:=h
  by_cases c:(j==NameKind.free&&env.scope.kind==.function&&env.kindOf n==some .cell)=true
  ·rw[if_pos c,BD]at h'
   simp only[AH]at c
   have ej:j=.free:=by simpa using c.1.1
   cases hy:x==n with
   |true =>
    have e1:x=n:=by simpa using hy
    subst e1 ej
    exact .inl AD
   |false=>rw[hy]at h';exact(jN_ hk h').imp (AC _) (AC _)
  ·rw[if_neg c,BD]at h'
   cases hy:x==n with
   |true =>
    rw[hy]at h'
    have e1:x=n:=by simpa using hy
    have e2:j=k:=by simpa using h'
    subst e1 e2
    rcases hk with hk|hk
    ·subst hk;exact .inr AD
    ·subst hk;exact .inl AD
   |false=>rw[hy]at h';exact(jN_ hk h').imp (AC _) (AC _)
abbrev zX_(X:Cx)(N':List Str)(z:Str)(scope:Scope)(b:Bk):Cx :=
 { X with N:=N',s₀:=b.s,H₀:=b.H,env:=compEnvC scope ((z,b.C+1)::zp_ X.env.cells scope.names []) b.C X.env,outer:=X.stack,stack:=X.stack,ex:=b.ex,fn:=λx=>x==z,pn:=[],xe:=λ_ _=>False }
structure BkScopeC(X:Cx)(N':List Str)(src:List (Option Nat))(z:Str)(scope:Scope):Prop where
 kind:scope.kind=.function
 cells:∀n acc,cellsFrom n scope.names acc=(z,n)::acc
 push:∀h:Heap,pushCells h scope.names=h.push { cls:=.type "cell",data:=.cell none }
 own:∀y∈scope.names,y.2=.cell->y.1=z
 isz:scope.names.lookup z=some .cell
 names:∀y∈scope.names,y.2=.local->scope.names.lookup y.1=some .local
 frees:∀y∈scope.names,y.2=.free->X.env.kindOf y.1=some .cell∨X.env.kindOf y.1=some .free
 len:src.length=N'.length
 out:∀i j:Nat,src[i]?=some (some j)->∃x:Str,N'[i]?=some x/\X.N[j]?=some x/\scope.names.lookup x=some .free
theorem acx_{M:Model}{A:Around}{E:Value->Shared->Prop}{s:Shared}{scope:Scope}{globals:Addr}{closure:List (Str×Addr)}{qual:Str}{func:Option Addr}{code:Value}{outer:Env}{builtins:Addr}{Q:Env->Shared->Prop}{z:Str}
  (hc:∀n acc,cellsFrom n scope.names acc=(z,n)::acc) (hp:∀h:Heap,pushCells h scope.names=h.push { cls:=.type "cell",data:=.cell none })
  (hQ:Q (newEnv scope s.heap.objs.size globals ((z,s.heap.objs.size+1)::closure) qual func code (some outer) builtins) { s with heap:=(s.heap.push { cls:=.type "dict",data:=.dict #[] }).push { cls:=.type "cell",data:=.cell none } }) :
  wpAny M A (newFunctionEnv scope globals closure [] qual func code (some outer) builtins) Q E s:=by
 simp only[newFunctionEnv,Option.isSome_some,if_true]
 refine wpAny_bind (wpAny_alloc ?_)
 refine wpAny_bind (wpAny_layCells _ (λname kind cells=>by cases hkc:kind==NameKind.cell<;>simp [hkc]) _ _ _ _ ?_)
 rw[hc,hp,show({ s with heap:=s.heap.push { cls:=.type "dict",data:=.dict #[] } }:Shared).heap.objs.size=s.heap.objs.size+1 from BO ..]
 rw[EK]
 exact wpAny_bind (wpAny_pure (wpAny_pure hQ))
theorem aej_{X:Cx}{elt tg iter:Expr}{ifs:List Expr}{scope:Scope}{pos pos':Pos}{N':List Str}{z:Str}{src:List (Option Nat)}{wi:TI}{g:Bk->TG}{tc:Bk->TT}{te:Bk->TE}(hc:X.calm=true)(hi:PI X tg iter wi)(S:BkScopeC X N' src z scope)
  (hg:∀b,PG (zX_ X N' z scope b) tg (g b)) (ht:∀b,PTs (zX_ X N' z scope b) ifs (tc b)) (he:∀b,PE (zX_ X N' z scope b) elt (te b)) (hs:∀x,foldedSetIterable iter X.env x=pure x) (use:Option (Value->Sem Unit)) (R:Value->Shared->Prop)
  {pins:List (Addr×Obj)} {s:Shared} {σ:St} {H:Hp} {Q:V->Hp->Prop} (I:Inv X pins σ H s) (h:y8_ src wi g tc te σ H Q)
  (fin:∀(D C:Addr)(H5:Hp)(s6:Shared)(m:Str->Option Value),s6.heap.Ns C m->jl_ X pins H5 C->(∀h',Heap.SameBut C s6.heap h'->Inv X pins σ H5 { s6 with heap:=h' })->Q (.ref D) H5->compPost (model X.prog X.w) X.A X.xe use R (.ref D) C (.ok .next) s6) :
  wpAny (model X.prog X.w) X.A (comprehension (.ListComp elt [⟨tg,iter,ifs,0⟩] scope pos) scope X.env pos' (newList []) false (eval iter X.env) use) R X.xe s:=by
 have hfr:∀x∈scope.names,x.2=.free->∃c,X.env.cells.lookup x.1=some c:=λx hx hf=>I.ok.has x.1 (S.frees x hx hf)
 have clS:∀x c,(zp_ X.env.cells scope.names []).lookup x=some c->X.env.cells.lookup x=some c:=jY_ hfr (λx c e=>by simp at e)
 refine wpAny_comprehension_free (use:=use) rfl hs (x2_ scope.names hfr []) S.kind S.names ?_
 refine thn (hi pins s σ H _ I h) λv s1 h1=>thn h1 λitv s2 h2=>?_
 obtain⟨it,fp,tn,J,H2,rfl,I2,T,st2,f2,h3⟩:=h2
 have hD:H2 s2.heap.objs.size=none:=I2.fresh
 refine wpAny_newObj_type ?_
 have I3:Inv X pins σ (upd H2 s2.heap.objs.size (.lst [])) { s2 with heap:=s2.heap.push { cls:=.type "list",data:=.seq ([]:List Value).toArray } } :=
  I2.laid (t':=s2.toks) (λb u e=>AB _ e) (AF _) ⟨An _,[],0,.nil,AI _ rfl⟩
 have hfp:∀b∈fp,b<s2.heap.objs.size:=λb hb=>by
  obtain⟨o,e,_⟩:=T.obj _ _ st2 b hb
  exact AK e
 have st3:tn 0 (s2.heap.push { cls:=.type "list",data:=.seq ([]:List Value).toArray }):=T.keep _ _ _ st2 λb _ o e=>AB _ e
 generalize hs3:({ s2 with heap:=s2.heap.push { cls:=.type "list",data:=.seq ([]:List Value).toArray } }:Shared)=s3 at I3 ⊢
 have st3':tn 0 s3.heap:=by rw[<-hs3];exact st3
 have hsz3:s3.heap.objs.size=s2.heap.objs.size+1:=by rw[<-hs3];exact BO ..
 have fp3:∀b∈fp,(upd H2 s2.heap.objs.size (.lst [])) b=none:=λb hb=>by rw[qk_ (Ab (hfp b hb))];exact(f2 b hb).1
 generalize hDe:s2.heap.objs.size=D at *
 generalize hH3:upd H2 D (.lst [])=H3 at *
 refine acx_ S.cells S.push ?_
 generalize hh1:(s3.heap.push { cls:=.type "dict",data:=.dict #[] }).push { cls:=.type "cell",data:=.cell none }=h₁
 have hns₁:h₁.Ns s3.heap.objs.size (λ_=>none):=by rw[<-hh1];exact(Heap.Ns.new s3.heap (.type "dict")).keeps λb o e=>AB _ e
 have old:∀b o,s3.heap.get? b=some o->h₁.get? b=some o:=λb o e=>by rw[<-hh1];exact AB _ (AB _ e)
 have hz1:h₁.get? (s3.heap.objs.size+1)=some { cls:=.type "cell",data:=.cell none }:=by
  rw[<-hh1,<-BO s3.heap { cls:=.type "dict",data:=.dict #[] }];exact AI _ rfl
 have lk:∀x c,((z,s3.heap.objs.size+1)::zp_ X.env.cells scope.names []).lookup x=some c->(x=z/\c=s3.heap.objs.size+1)∨X.env.cells.lookup x=some c:=λx c e=>by
  rw[BD]at e
  cases hy:x==z with
  |true=>rw[hy]at e;exact .inl ⟨by simpa using hy,(AZ e).symm⟩
  |false=>rw[hy]at e;exact .inr (clS x c e)
 have low:∀x c,X.env.cells.lookup x=some c->c<s3.heap.objs.size:=λx c e=>by
  obtain⟨v,o,ho,hd⟩:=I3.cell x c e
  exact AK ho
 have Yok:(zX_ X N' z scope ⟨s3.heap.objs.size,s3,H3,fp⟩).Ok:=by
  refine⟨I.ok.mod,S.kind,I.ok.glob,I.ok.blt,AF _,λx y c e1 e2=>?_,λx hx=>?_,λx c q e=>?_,I.ok.hd,I.ok.frames,.inl rfl,λb hb=>⟨?_,λx c e=>?_⟩,I3.bs,?_,λb o e hb=>?_,λb hb z=>?_,I3.stack,I3.stkFree⟩
  ·rcases lk x c e1 with⟨q1,q2⟩|q1<;>rcases lk y c e2 with⟨q3,q4⟩|q3
   ·rw[q1,q3]
   ·exact absurd (low y c q3) (by rw[q2];exact EV.mpr (Bx _))
   ·exact absurd (low x c q1) (by rw[q4];exact EV.mpr (Bx _))
   ·exact I.ok.inj x y c q1 q3
  ·have hx':(x,NameKind.free)∈scope.names∨(x,NameKind.cell)∈scope.names:=by
    rcases hx with hx|hx
    ·exact jN_ (env:=X.env) (.inl rfl) hx
    ·exact jN_ (env:=X.env) (.inr rfl) hx
   show ∃c,((z,s3.heap.objs.size+1)::zp_ X.env.cells scope.names []).lookup x=some c
   rw[BD]
   cases hy:x==z with
   |true=>exact⟨_,rfl⟩
   |false =>
    rcases hx' with hx'|hx'
    ·exact js_ (.inr hx')
    ·have:=S.own _ hx' rfl
     simp at hy
     exact absurd this hy
  ·rcases lk x c e with⟨_,q2⟩|q1
   ·rw[q2];exact Bx _
   ·have q':x=z:=by simpa using q
    have e':((z,s3.heap.objs.size+1)::zp_ X.env.cells scope.names []).lookup x=some c:=e
    rw[q',BD,beq_self_eq_true]at e'
    have e'':s3.heap.objs.size+1=c:=AZ e'
    rw[<-e''];exact Bx _
  ·exact Ab (Ao (hfp b hb) (by rw[hsz3];exact Bx _))
  ·rcases lk x c e with⟨_,q2⟩|q1
   ·rw[q2];exact Bm (Ao (hfp b hb) (by rw[hsz3];exact Ac (Bx _) (Bx _)))
   ·exact(f2 b hb).2.2.2.2.1 x c q1
  ·exact Ac I.ok.bsz I3.sz
  ·rcases (f2 b hb).2.2.2.1 with z|z
   ·exact I.ok.noex b o e z
   ·exact absurd (Ao (AK e) (Ac I.ok.bsz z)) (Bl _)
  ·rcases AL.mp (I3.stkSub b z) with e|e
   ·exact(f2 b hb).2.1 e
   ·exact(f2 b hb).2.2.1 e
 generalize hY:zX_ X N' z scope ⟨s3.heap.objs.size,s3,H3,fp⟩=Y at Yok
 have I4:Inv (zX_ X N' z scope ⟨s3.heap.objs.size,s3,H3,fp⟩) [] (jX_ src σ) H3 { s3 with heap:=h₁ }:=by
  subst hY
  refine⟨Yok,rfl,I3.bare,Un.kept old,⟨_,hns₁,λi x v e1 e2 e3=>?_⟩,λx c e=>?_,I3.fresh,λx c e=>?_,λp hp=>by simp at hp,I3.hok.kept old,?_⟩
  ·unfold jX_ at e2
   rw[AV]at e2
   cases hsrc:src[i]? with
   |none=>rw[hsrc]at e2;cases e2
   |some o =>
    rw[hsrc]at e2
    cases o with
    |none=>have e2':some (none:Option V)=some (some v):=e2;cases e2'
    |some j =>
     have e2':some ((σ[j]?).bind id)=some (some v):=e2
     have e2'':(σ[j]?).bind id=some v:=AZ e2'
     have hσ:σ[j]?=some (some v):=by
      cases q:σ[j]? with
      |none=>rw[q]at e2'';cases e2''
      |some z =>
       rw[q]at e2''
       have:z=some v:=e2''
       rw[this]
     obtain⟨x',n1,n2,n3⟩:=S.out i j hsrc
     have ex:x'=x:=AZ (n1.symm.trans e1)
     subst ex
     obtain⟨m0,_,hl⟩:=I3.loc
     have hk:=S.frees (x',.free) (mem_of_lookup n3) rfl
     have hvis:Vis X.env.scope x':=hk.elim (λz=>.inr (.inl z)) λz=>.inr (.inr z)
     obtain⟨u,r,l⟩:=hl j x' v n2 hσ hvis
     refine⟨u,r,.inr ?_⟩
     rcases l with⟨l1,_⟩|⟨_,c,l2,o,l3,l4⟩
     ·rcases hk with z|z
      ·rw[show X.env.kindOf x'=some .local from l1]at z;cases z
      ·rw[show X.env.kindOf x'=some .local from l1]at z;cases z
     ·obtain⟨c',hc'⟩:=js_ (cells:=X.env.cells) (names:=scope.names) (acc:=[]) (.inr (mem_of_lookup n3))
      have e4:=clS x' c' hc'
      rw[l2]at e4
      cases e4
      have xz:(x'==z)=false:=by
       cases hy:x'==z with
       |false=>rfl
       |true =>
        have q:x'=z:=by simpa using hy
        rw[q,S.isz]at n3
        cases n3
      exact⟨xd_ (env:=X.env) n3,c,by show((z,s3.heap.objs.size+1)::zp_ X.env.cells scope.names []).lookup x'=some c;rw[BD,xz];exact hc',o,old _ _ l3,l4⟩
  ·rcases lk x c e with⟨_,q2⟩|q1
   ·rw[q2];exact⟨none,_,hz1,rfl⟩
   ·obtain⟨v,o,ho,hd⟩:=I3.cell x c q1
    exact⟨v,o,old _ _ ho,hd⟩
  ·rcases lk x c e with⟨_,q2⟩|q1
   ·rw[q2];exact I3.hok.fresh (Bx _)
   ·exact I3.freeC x c q1
  ·show(jX_ src σ).length=N'.length
   unfold jX_
   rw[AA]
   exact S.len
 obtain⟨W,⟨m0,w0⟩,turn⟩:=h3 ⟨s3.heap.objs.size,s3,H3,fp⟩ D hD
 rw[hH3]at w0
 have loop:codeAny (model X.prog X.w) X.A (.compLoop (.ListComp elt [⟨tg,iter,ifs,0⟩] scope pos) 0 (.ref it) (.ref D) (zX_ X N' z scope ⟨s3.heap.objs.size,s3,H3,fp⟩).env)
   (compPost (model X.prog X.w) X.A X.xe use R (.ref D) s3.heap.objs.size) { s3 with heap:=h₁ }:=by
  have stat:∀{H':Hp},(∀b∈fp,H' b=none)->∀b∈fp,jl_ (zX_ X N' z scope ⟨s3.heap.objs.size,s3,H3,fp⟩) [] H' b:=λhn b hb =>
   ⟨hn b hb,(I4.ok.exf b hb).1,I4.ok.exfs b hb,.inl hb,(I4.ok.exf b hb).2,λp hp=>by simp at hp⟩
  refine yb_ (λn s'=>∃i σ' H',Inv (zX_ X N' z scope ⟨s3.heap.objs.size,s3,H3,fp⟩) [] σ' H' s'/\tn i s'.heap/\(∀b∈fp,H' b=none)/\W i n σ' H') ?_ m0
   ⟨0,_,H3,I4,T.keep _ _ _ st3' λb _ o e=>old b o e,fp3,w0⟩
  rintro n s5 ⟨i,σ5,H5,I5,st5,fr5,w5⟩
  rcases turn i n σ5 H5 w5 with⟨stop,qn⟩|⟨go,N,hN,step⟩
  ·refine thn (T.done (zX_ X N' z scope ⟨s3.heap.objs.size,s3,H3,fp⟩) rfl rfl rfl hc i [] s5 σ5 H5 _ I5 (stat fr5) st5 stop) λr s6 ⟨hr,I6⟩=>?_
   subst hr
   obtain⟨m,hn,_⟩:=I6.loc
   have hC:H5 s3.heap.objs.size=none:=I6.free
   refine fin D s3.heap.objs.size H5 s6 m hn (I3.fpOk (AF _) hC) (λh' sb=>?_) qn
   have nC:∀b o,s3.heap.get? b=some o->b≠s3.heap.objs.size:=λb o e=>Ab (AK e)
   have keep:∀b o,b≠s3.heap.objs.size->s6.heap.get? b=some o->h'.get? b=some o:=λb o hb e=>(sb.2 b hb).trans e
   have hok:HOk X.prog X.w H5 h':=λb u e=>(I6.hok b u e).stay (λc v hc q=>keep c v (by
    rcases hc with z|z
    ·rw[z];intro z2;rw[z2,hC]at e;cases e
    ·intro z2;rw[z2,hC]at z;cases z) q) (λ_ q=>q) λ_ _ q=>q
   have u6:Un (frs X.stack) fp H3 H5 s3.heap s6.heap:=I6.base
   have un:Un (frs X.stack) fp H3 H5 s3.heap h':=⟨λb o e n hb hx=>keep b o (nC b o e) (u6.keep b o e n hb hx),λb o e n hb hx=>by
     obtain⟨sl,q⟩:=u6.slot b o e n hb hx
     exact⟨sl,keep b _ (nC b o e) q⟩,u6.free,λb o e hx=>by
     obtain⟨o',q⟩:=u6.there b o e hx
     exact⟨o',keep b _ (nC b o e) q⟩,u6.tups,u6.frzs,u6.tbls⟩
   refine I3.call' (s':={ s6 with heap:=h' }) (ch:=fp) I6.os un hok I6.bare λb hb=>?_
   exact⟨(f2 b hb).2.2.2.1,(f2 b hb).2.1,(f2 b hb).2.2.2.2.1,(f2 b hb).2.2.2.2.2⟩
  ·refine thn (T.item (zX_ X N' z scope ⟨s3.heap.objs.size,s3,H3,fp⟩) rfl rfl rfl hc i [] s5 σ5 H5 _ I5 (stat fr5) st5 go) λr s6 ⟨u,hr,h6⟩=>?_
   subst hr
   refine thn h6 λ_ s7 ⟨x,H7,I7,r7,y7,st7,fr7⟩=>?_
   have I7':=I7.pinned (stat fr7) (T.obj _ _ st7)
   have again:∀{σ9:St}{H9:Hp}{s9:Shared},Inv (zX_ X N' z scope ⟨s3.heap.objs.size,s3,H3,fp⟩) ([]++xx_ fp s7.heap) σ9 H9 s9->N σ9 H9->∃m,m<n/\∃i σ' H',Inv (zX_ X N' z scope ⟨s3.heap.objs.size,s3,H3,fp⟩) [] σ' H' s9/\tn i s9.heap/\(∀b∈fp,H' b=none)/\W i m σ' H':=λ{σ9 H9 s9} I9 n9=>by
    obtain⟨m',hm,w9⟩:=hN σ9 H9 n9
    refine⟨m',hm,i+1,σ9,H9,I9.unpinned,T.keep _ _ _ st7 λb hb o e=>(I9.pin (b,o) (Af _ (Af _ (jc_ hb e)))).1,λb hb=>?_,w9⟩
    obtain⟨o,e,d⟩:=T.obj _ _ st7 b hb
    exact(I9.pin (b,o) (Af _ (Af _ (jc_ hb e)))).2.1
   refine thn (hg _ _ s7 σ5 H7 x u _ I7' r7 (step x H7 y7)) λ_ s8 ⟨σ8,H8,I8,q8⟩=>?_
   refine thn (ht _ _ s8 σ8 H8 _ I8 q8) λok s9 ⟨H9,I9,q9⟩=>?_
   cases ok with
   |false=>exact again I9 q9
   |true =>
    refine thn (he _ _ s9 σ8 H9 _ I9 q9) λyv s10 ⟨y,H10,I10,r10,ys,e10,l10,n10⟩=>?_
    refine thn (q7_ _ s10 σ8 H10 (.ref D) [y] (.ref D) [yv] (λ_ H11=>N σ8 H11) I10 rfl (.cons r10 .nil) ⟨D,ys,y,rfl,rfl,e10,l10,n10⟩) λ_ s11 ⟨_,H11,I11,_,n11⟩=>again I11 n11
 have self:=T.self X.A 0 { s3 with heap:=h₁ } (λit' s'=>codeAny (model X.prog X.w) X.A (.compLoop (.ListComp elt [⟨tg,iter,ifs,0⟩] scope pos) 0 it' (.ref D) (zX_ X N' z scope ⟨s3.heap.objs.size,s3,H3,fp⟩).env)
   (compPost (model X.prog X.w) X.A X.xe use R (.ref D) s3.heap.objs.size) s') (notedBy (model X.prog X.w) X.A (zX_ X N' z scope ⟨s3.heap.objs.size,s3,H3,fp⟩).env λx s'=>compPost (model X.prog X.w) X.A X.xe use R (.ref D) s3.heap.objs.size (.error x) s')
   (T.keep _ _ _ st3' λb _ o e=>old b o e) loop
 exact codeAny_compStart_list loop self
theorem ai0_{X:Cx}{elt tg iter:Expr}{ifs:List Expr}{scope:Scope}{pos:Pos}{N':List Str}{z:Str}{src:List (Option Nat)}{wi:TI}{g:Bk->TG}{tc:Bk->TT}{te:Bk->TE}(hc:X.calm=true)(hi:PI X tg iter wi)(S:BkScopeC X N' src z scope)
  (hg:∀b,PG (zX_ X N' z scope b) tg (g b)) (ht:∀b,PTs (zX_ X N' z scope b) ifs (tc b)) (he:∀b,PE (zX_ X N' z scope b) elt (te b)) (hs:∀x,foldedSetIterable iter X.env x=pure x:=by intro _;rfl) :
  PE X (.ListComp elt [⟨tg,iter,ifs,0⟩] scope pos) (y8_ src wi g tc te):=by
 intro pins s σ H Q I h
 rw[eval_ListComp]
 exact aej_ hc hi S hg ht he hs none (EP X pins σ Q) I h λD C H5 s6 m hn _ k q=>⟨m,hn,λh' sb=>⟨.ref D,H5,k h' sb,rfl,q⟩⟩
def ac3_(sc scope:Scope)(N N':List Str)(src:List (Option Nat))(z:Str):Bool :=
 decide (scope.kind=.function)&&scope.names.all (λy=>!decide (y.2=NameKind.cell)||decide (y.1=z))&&decide (scope.names.lookup z=some NameKind.cell)&&scope.names.all (λy=>!decide (y.2=NameKind.local)||decide (scope.names.lookup y.1=some NameKind.local)) &&
 scope.names.all (λy=>!decide (y.2=NameKind.free)||(decide (sc.names.lookup y.1=some NameKind.cell)||decide (sc.names.lookup y.1=some NameKind.free)))&&decide (src.length=N'.length) &&
 (List.range src.length).all λi=>aa1_ scope N N' (src.getD i none) i
theorem anj_{X:Cx}{N':List Str}{src:List (Option Nat)}{scope:Scope}{z:Str}(sc:Scope)(N:List Str)(h:ac3_ sc scope N N' src z=true)(hc:∀n acc,cellsFrom n scope.names acc=(z,n)::acc)(hp:∀h:Heap,pushCells h scope.names=h.push { cls:=.type "cell",data:=.cell none })
  (e1:X.env.scope=sc:=by rfl) (e2:X.N=N:=by rfl):BkScopeC X N' src z scope:=by
 subst e1 e2
 unfold ac3_ at h
 simp only[AH,decide_eq_true_eq,AN,DC,Bool.not_eq_true',decide_eq_false_iff_not]at h
 obtain⟨⟨⟨⟨⟨⟨h1,h2⟩,h0⟩,h3⟩,h4⟩,h5⟩,h6⟩:=h
 refine⟨h1,hc,hp,λy hy e=>(h2 y hy).resolve_left λq=>q e,h0,λy hy e=>(h3 y hy).resolve_left λz=>z e,λy hy e=>(h4 y hy).resolve_left λz=>z e,h5,λi j e=>?_⟩
 obtain⟨hi,ei⟩:=AX.mp e
 have q:=h6 i (Ar.mpr hi)
 rw[AO,e]at q
 unfold aa1_ at q
 simp only[Dl]at q
 cases c:N'[i]? with
 |none=>rw[c]at q;cases q
 |some x =>
  rw[c]at q
  simp only[AH,decide_eq_true_eq]at q
  exact⟨x,rfl,q.1,q.2⟩
end L2.Ev
namespace L2.Rw
open PySem PySem.W PySem.Calls PyProof.Rows PySem.Spec
end L2.Rw
namespace L2.Ev
open PySem PySem.Spec PyProof.Rows
open L2.Ts L2.Pl L2.Rw
def toB(ks:List Pw):List (List Key×V):=ks.map λk=>(k.map Sum.inl,V.bl true)
theorem adj_(ks:List Pw):(toB ks).length=ks.length:=AA _
theorem al2_{X:Cx}{pins:List (Addr×Obj)}{σ:St}{H:Hp}{s:Shared}{a:Addr}{ks:List Pw}(I:Inv X pins σ H s)(h:Rd H a (.dT (toB ks))) :
  ks.length<=sizeLine/\(a==sysModules)=false/\∃(es:Array DictEntry)(ep:Nat),RawD s.heap a es ep/\es.size=ks.length /\
   Paired (λ(e:DictEntry)(k:Pw)=>∃p,e.key=.ref p/\H p=some (.tup (k.map V.int))) es.toList ks:=by
 obtain⟨z,y,xs,r,o,es,ep,h1,h2,h3,h4,h5⟩:=(show ObjOk X.prog X.w H s.heap a (.dT (toB ks)) from aa4_ I.hok h)
 have key:∀{ks:List Pw}{xs:List (List Key×Addr×Value)},KT H (toB ks) xs->Paired (λ(e:DictEntry)(k:Pw)=>∃p,e.key=.ref p/\H p=some (.tup (k.map V.int))) (xs.map (entryOfKey (tupleKind (qF_ X.prog X.w)))) ks:=by
  intro ks
  induction ks with
  |nil=>intro xs r;cases r;exact .nil
  |cons t d ih =>
   intro xs r
   cases r with
   |cons q qs =>
    refine .cons ⟨_,rfl,?_⟩ (ih qs)
    have:=q.2.1
    rw[<-jf_]
    exact this
 have kp:=key r
 rw[<-h4]at kp
 refine⟨by rw[<-adj_];exact z,y,es,ep,⟨o,h1,h2,h3⟩,?_,kp⟩
 rw[<-AM]
 exact AQ kp
section
variable{X:Cx}
theorem aii_{pins:List (Addr×Obj)}{σ:St}{H:Hp}{s:Shared}{ks:List Pw}{es:Array DictEntry}{Q:VK}{h':Heap}{tk P c:Nat}{acc:Array Value}(I:Inv X pins σ H s)(z:ks.length<=sizeLine)(sz:es.size=ks.length)(ent:Paired (λ(e:DictEntry)(k:Pw)=>∃p,e.key=.ref p/\H p=some (.tup (k.map V.int))) es.toList ks)
  (it:ItemsOf (λi v=>∃h:i<es.size,v=es[i].key) acc es.size) (kp:∀b o,s.heap.get? b=some o->h'.get? b=some o) (hP:s.heap.objs.size<=P) (hS:h'.get? P=some { cls:=.type "list",dict:=none,data:=.seq acc c,slots:=#[] })
  (q:∀(l:Addr)(vs:List V),H l=none->Its H vs ks->Q (.ref l) (upd H l (.lst vs))):EP X pins σ Q (.ref P) { s with heap:=h',toks:=tk }:=by
 have e:acc.toList=es.toList.map (·.key):=by
  refine Cg λi=>?_
  rw[BA,AV,BA]
  by_cases c:i<es.size
  ·have ci:i<acc.size:=by rw[it.1];exact c
   obtain⟨_,e⟩:=it.2 i acc[i] (AG ci)
   rw[AG ci,AG c,e]
   rfl
  ·rw[Bo (by rw[it.1];omega),Bo (by omega)]
   rfl
 have key:∀{l:List DictEntry}{d:List Pw},Paired (λ(e:DictEntry)(k:Pw)=>∃p,e.key=.ref p/\H p=some (.tup (k.map V.int))) l d->j9_ (List Int) H (l.map (·.key)) d:=by
  intro l d h
  induction h with
  |nil=>exact .nil
  |cons r t ih =>
   obtain⟨p,e1,e2⟩:=r
   exact .cons ⟨.ref p,e1,zd_ e2⟩ ih
 have hb:=key ent
 rw[<-e]at hb
 obtain⟨vs,v1,v2⟩:=ad3_ hb
 have lz:vs.length<=sizeLine:=by rw[v1.length,e,AA,AM,sz];exact z
 exact⟨.ref P,upd H P (.lst vs),I.laid (a:=P) (o:=.lst vs) (t':=tk) kp hP ⟨lz,acc.toList,c,v1,by rw[hS]⟩,rfl,q P vs (I.hok.fresh hP) v2⟩
end
end L2.Ev
namespace L2.Rw
open PySem PySem.W PySem.Calls PyProof.Rows PySem.Spec
open PySem.SeqAt
open PySem.AutoSeq1 (wpAny_loadPart')
open PySem.MeetsSeq PySem.MeetsSeq2 PySem.MeetsSeq3
section
variable{prog:Program}{w:World}{A:Around}{E:Value->Shared->Prop}
theorem acw_{s:Shared}{r:Addr}{its:List Value}{Q:List Value->Shared->Prop}(ht:IsTup s.heap r its.toArray)(hz:its.length<=sizeLine)
  (hQ:∀h',(∀b o,s.heap.get? b=some o->h'.get? b=some o)->s.heap.objs.size<=h'.objs.size->Q its { s with heap:=h' }):wpAny (model prog w) A (collect (.ref r)) Q E s:=by
 obtain⟨⟨cls,dd,data,sl⟩,ho,hc,n,hd⟩:=ht
 simp only at hc hd
 subst hc hd
 obtain⟨hp,g,d,tk,os⟩:=s
 simp only at ho hQ
 unfold collect
 refine wpAny_bind (wpAny_runValue (codeAny_builtin DQ ?_))
 rw[Ba DR _]
 show wpAny _ A.in1 (newList []>>=λl=>again (.builtin "list.__iadd__" ⟨[l,.ref r],[]⟩)) _ _ _
 refine wpAny_bind (wpAny_newObj_type (wpAny_pure ⟨plainId_quiet Cb _,codeAny_builtin Dr ?_⟩))
 rw[Ba Cb _]
 have hN:(hp.push { cls:=.type "list",data:=.seq ([]:List Value).toArray }).get? hp.objs.size=some { cls:=.type "list",dict:=none,data:=.seq ([]:List Value).toArray 0,slots:=#[] }:=AI _ rfl
 have hT:(hp.push { cls:=.type "list",data:=.seq ([]:List Value).toArray }).get? r=some { cls:=.type "tuple",dict:=dd,data:=.seq its.toArray n,slots:=sl }:=AB _ ho
 have ne:hp.objs.size≠r:=Bm (AK ho)
 unfold Builtin.«list.__iadd__»
 wp_walk using wpAny_loadPart' hT,wpAny_loadPart' hN
 have hl:(Obj.mapSeq (λx=>x++its.toArray) { cls:=.type "list",data:=.seq (#[]:Array Value) }).data.pastItsLine=none:=by
  simp [Obj.mapSeq,Data.pastItsLine,sizeOk]
  omega
 rw[hl]
 refine wpAny_pure ?_
 refine wpAny_pure ?_
 have hU:=B5 (h:=hp.push { cls:=.type "list",data:=.seq (#[]:Array Value) }) (f:=Obj.mapSeq λx=>x++its.toArray) hN rfl
 refine wpAny_bind (wpAny_load hU ?_)
 show wpAny _ _ (pure (#[]++its.toArray).toList) _ _ _
 rw[Array.empty_append,List.toList_toArray]
 refine wpAny_pure (hQ _ (λb o e=>?_) ?_)
 ·exact(Az _ _ (Bm (AK e))).trans (AB _ e)
 ·rw[C6,size_push'];exact Bx _
end
end L2.Rw
namespace L2.Ev
open PySem PySem.Spec PyProof.Rows
open L2.Ts L2.Pl L2.Rw
theorem ad4_:Lin (λa b:Int=>decide (a<b)) where
 irr:=λa=>decide_eq_false (by omega)
 trans:=λ{a b c} h q=>decide_eq_true (by have:=of_decide_eq_true h;have:=of_decide_eq_true q;omega)
 tri:=λ{a b} h q=>by have:=of_decide_eq_false h;have:=of_decide_eq_false q;omega
section
variable{X:Cx}
def rkI(l:List Int)(p:Keyed):Nat:=match p.1 with
 |.int x _=>xg_ (λa b:Int=>decide (a<b)) l x
 |_=>0
abbrev vR_(u:Value)(n:Int):Prop:=∃t,u=.int n t
theorem alk_{its:List Value}{ns:List Int}(h:IntsAre its ns):Paired vR_ its ns:=by
 induction h with
 |nil=>exact .nil
 |cons a t _ ih=>exact .cons ⟨t,rfl⟩ ih
theorem alf_{its:List Value}{ns:List Int}(h:Paired vR_ its ns):IntsAre its ns/\Vals (ns.map V.int) its:=by
 induction h with
 |nil=>exact⟨.nil,.nil⟩
 |cons r _ ih =>
  obtain⟨t,rfl⟩:=r
  exact⟨.cons _ t ih.1,.cons ⟨t,rfl⟩ ih.2⟩
theorem acz_{l0:List Int}{out:List Value}{m:List Int}(h:Paired vR_ out m)(hm:∀a∈m,a∈l0)(o:out.Pairwise λx y=>rkI l0 (y,y)<=rkI l0 (x,x)):m.Pairwise λa b=>b<=a:=by
 induction h with
 |nil=>exact .nil
 |@cons x a xs m r t ih =>
  obtain⟨o1,o2⟩:=Ah.mp o
  refine Ah.mpr ⟨λb hb=>?_,ih (λb hb=>hm b (AC _ hb)) o2⟩
  obtain⟨y,hy,e⟩:∃y∈xs,vR_ y b:=by
   have key:∀{xs:List Value}{m:List Int},Paired vR_ xs m->b∈m->∃y∈xs,vR_ y b:=by
    intro xs m t
    induction t with
    |nil=>intro z;cases z
    |cons r t ih =>
     intro z
     rcases AL.mp z with e|z
     ·subst e;exact⟨_,AD ..,r⟩
     ·obtain⟨y,hy,f⟩:=ih z
      exact⟨y,AC _ hy,f⟩
   exact key t hb
  obtain⟨t1,rfl⟩:=r
  obtain⟨t2,rfl⟩:=e
  have q:xg_ (λa b:Int=>decide (a<b)) l0 b<=xg_ (λa b:Int=>decide (a<b)) l0 a:=o1 _ hy
  refine Int.not_lt.mp λz=>?_
  have:=(xu_ ad4_ (hm a (AD ..))).mp (decide_eq_true z)
  omega
theorem age_:∀{its:List Value}{ns:List Int},IntsAre its ns->2<=its.length->keyKind' its.toArray=pure oneType'
 |[],_,_,h=>absurd h (by decide)
 |[_],_,_,h=>absurd h (by show ¬ 2<=1;decide)
 |_::_::_,_,ii,_=>keyKind_ints ii
def amo_(K:PySem.W.Frag)(ta:TA):TE:=λσ H Q=>ta σ H λvs H1=>∃(a:Addr)(ns:List Int),vs=[.ref a]/\SqT K H1 a (ns.map V.int) /\
 ∀(p:Addr)(l:List Int),H1 p=none->l.Perm ns->(l.Pairwise λa b=>b<=a)->Q (.ref p) (upd H1 p (.lst (l.map V.int)))
theorem vu_{e:Expr}{ta:TA}{p pos kp kq:Pos}{j}(hc:X.calm=true)(hu:X.A.units+8<cLine)(hg:Gl X "sorted")(hm:X.mg "sorted" = none)(ha:PA X [e] ta)
  (h1:backTo pos (starEach [e] X.env)=(false,eval e X.env)::backTo pos (starEach [] X.env):=by rfl) (h2:(backTo pos (starEach [e] X.env)).any (·.1)=false:=by rfl) :
  PE X (.Call (.Name "sorted" p) [e] [⟨some (Str.ofString "reverse"),.Constant (.bool true) j kq,kp⟩] pos) (amo_ X.K ta):=by
 intro pins s σ H Q I h
 refine wpAny_Call_Name_kw (z4_ I hg hm boot_sorted ?_)
 refine callWith_kw (thn (ha pos pins s σ H _ I h) λus s1 ⟨vs,H1,I1,r1,q1⟩=>?_) h1 h2
 obtain⟨a,ns,rfl,hq,q⟩:=q1
 obtain⟨u,rfl,ru⟩:=zx_ r1
 cases ru
 refine kws_cons (Constant_bool (kws_nil ?_))
 obtain⟨its,rv,ht,hz⟩:=I1.tuple hq
 have ii:IntsAre its ns:=q2_ rv
 have pi:=alk_ ii
 have lz:its.length<=sizeLine:=by rw[<-rv.length];exact hz
 refine yL_ (κ:=oneType') (M:=λp=>∃x∈ns,∃t,p.1=.int x t) (rk:=rkI ns) lz (λv hv=>?_) (λQ' q'=>acw_ ht lz λh' kp sz=>q' h' s1.toks kp sz) (λh' tk kp l2=>⟨λQ' E' q'=>?_,λx y hx hy Q' q'=>?_⟩) λh' tk P c out pm o kp hP hg=>?_
 ·obtain⟨n,hn,t,e⟩:=Paired.mem pi hv
  exact⟨n,hn,t,e⟩
 ·rw[age_ ii l2]
  exact wpAny_pure q'
 ·obtain⟨n,hn,t,e⟩:=hx
  obtain⟨m,hm',t',e'⟩:=hy
  rw[e,e',keyLt'_oneType]
  refine oneLt_int ?_
  have z:decide (rkI ns x<rkI ns y)=decide (n<m):=by
   unfold rkI
   rw[e,e']
   have:=xu_ ad4_ hn (b:=m)
   by_cases c:n<m
   ·rw[decide_eq_true c,decide_eq_true (this.mp (decide_eq_true c))]
   ·rw[decide_eq_false c,decide_eq_false λz=>c (of_decide_eq_true (this.mpr z))]
  rw[z]at q'
  exact q'
 ·obtain⟨m,p1,bm⟩:=Paired.perm pm pi
  obtain⟨i2,v2⟩:=alf_ bm
  have lo:(m.map V.int).length<=sizeLine:=by rw[v2.length,pm.length_eq];exact lz
  exact⟨.ref P,upd H1 P (.lst (m.map V.int)),I1.laid (a:=P) (o:=.lst (m.map V.int)) (t':=tk) kp hP ⟨lo,out,c,v2,hg⟩,rfl,q P m (I1.hok.fresh hP) p1 (acz_ bm (λa ha=>p1.mem_iff.mp ha) o)⟩
theorem ad9_(hc:X.calm=true):CallR X (.type "list") (λxs H Q=>∃(a:Addr)(ks:List Pw),xs=[.ref a]/\H a=some (.dT (toB ks))/\∀(l:Addr)(vs:List V),H l=none->Its H vs ks->Q (.ref l) (upd H l (.lst vs))):=by
 intro pins s σ H xs us Q I r h
 obtain⟨a,ks,rfl,hd,q⟩:=h
 obtain⟨u,rfl,rx⟩:=zx_ r
 cases rx
 obtain⟨z,lo,es,ep,raw,sz,ent⟩:=al2_ I (.inl hd)
 exact PySem.W.kdl_call (ad5_ lo) (I.ok.hd hc) raw (by rw[sz];exact z) λh' tk acc c kp hS it=>aii_ I z sz ent it kp (AF _) hS q
end
end L2.Ev
namespace L2.Ev
open PySem PySem.Spec PyProof.Rows
open L2.Pl
section
variable{X:Cx}
theorem ah7_{t:Addr}{vs:List Value}{ns:List Int}{s:Shared}{prog:Program}{w:World}{A:Around}{E:Value->Shared->Prop}{Q:Value->Shared->Prop}(hh:A.handled=none)(hl:s.heap.IsTuple t vs.toArray)(hi:IntsAre vs ns)(hne:ns≠[])
  (h:∀h' tk M t',(∀b o,s.heap.get? b=some o->h'.get? b=some o)->M∈ns->(∀a∈ns,a<=M)->Q (.int M t') { s with heap:=h',toks:=tk }) :
  wpAny (model prog w) A (call (.builtin "max") [.ref t]) Q E s:=by
 obtain⟨xs,hx⟩:=hi.allInts.items
 have hn:numsOf vs.toArray.toList=ns:=by rw[show vs.toArray.toList=vs from rfl,hi.numsOf]
 rw[hx]at hl hn
 rw[nums_intItems]at hn
 have hsz:0<xs.size:=by
  rw[<-hn]at hne
  rcases Nat.eq_zero_or_pos xs.size with z|z
  ·exact absurd (by rw[List.map_eq_nil_iff,Array.toList_eq_nil_iff,<-EB];exact z) hne
  ·exact z
 obtain⟨o,ho,_⟩:=id hl
 have hne':t≠s.heap.objs.size:=Ab (AK ho)
 refine call_max_walk (wpAny_pyIter_tuple hl ?_)
 refine⟨s.heap.objs.size,_,_,_,_,_,_,rfl,Walks.tuple (A:=A.in1) hh s.heap.objs.size t hne' (intItems xs),⟨⟨_,AI _ rfl,rfl,rfl⟩,hl.at λo e=>AB _ e⟩,λb hb=>?_,by simpa [intItems]using hsz,CmpOf.ints_gt (numAt xs) (λ_ _=>intItems_at),λv h' tk hP hk=>?_⟩
 ·rcases AL.mp hb with rfl|hb
  ·exact AK (AI _ rfl)
  ·obtain rfl:=AT.mp hb
   exact AK (AB _ ho)
 ·have hP:(intItems xs)[argBest (λi j=>decide (numAt xs i>numAt xs j)) (xs.size-1)]?=some v:=by simpa [intItems]using hP
  obtain⟨t',rfl⟩:=intItems_at hP
  obtain⟨h1,h2⟩:=argBest_gt (numAt xs) (xs.size-1)
  refine h h' tk _ t' (λb o e=>hk b o (λhb=>absurd (AK e) ((AT.mp hb)▸Bl _)) (AB _ e)) ?_ λa ha=>?_
  ·rw[<-hn,numAt_eq];exact getD_mem (by rw[AA,AM];omega)
  ·rw[<-hn]at ha
   obtain⟨j,hj,rfl⟩:=mem_getD ha
   rw[AA,AM]at hj
   rw[<-numAt_eq];exact h2 j (by omega)
theorem ahc_(hc:X.calm=true):CallR X (.builtin "max") (λxs H Q=>∃(p:Addr)(ns:List Int),xs=[.ref p]/\SqT X.K H p (ns.map V.int)/\ns≠[]/\∀M,M∈ns->(∀a∈ns,a<=M)->Q (.int M) H):=by
 intro pins s σ H xs us Q I r h
 obtain⟨p,ns,rfl,hq,hne,q⟩:=h
 obtain⟨u,rfl,ru⟩:=zx_ r
 cases ru
 obtain⟨its,rv,ht,_⟩:=I.tuple hq
 exact ah7_ (I.ok.hd hc) (show s.heap.IsTuple p its.toArray from ht) (q2_ rv) hne λh' tk M t' hk m1 m2=>⟨.int M,H,I.kept (t':=tk) hk,⟨t',rfl⟩,q M m1 m2⟩
theorem anq_:SlR X (λx lo hi H Q=>∃(a:Addr)(r:List Int),x=.ref a/\lo=some (-1)/\hi=none/\H a=some (.tup (r.map V.int))/\∀(p:Addr)(H':Hp),Same H H'->H' p=some (.tup ((r.drop (r.length-1)).map V.int))->Q (.ref p) H'):=by
 intro pins s σ H x v vl vu lo hi sl Q I rx hs pl pu h
 obtain⟨a,r,rfl,rfl,rfl,ha,q⟩:=h
 have e:HT.sIx (r.map V.int).length 0 (some (-1))=r.length-1:=by
  rw[AA]
  show(if (-1:Int)<0 then ((-1:Int)+(r.length:Int)).toNat else min (-1:Int).toNat r.length)=_
  rw[if_pos (by decide)]
  omega
 by_cases c:r.length-1=0
 ·exact yu_ pins s σ H _ v vl vu _ _ sl Q I rx hs pl pu ⟨a,_,rfl,SqT.of ha,by rw[e];exact c,HT.sIx_none _ _,q a H (λ_ _ e=>e) (by rw[c];exact ha)⟩
 ·refine xt_ pins s σ H _ v vl vu _ _ sl Q I rx hs pl pu ⟨a,_,rfl,SqT.of ha,λz=>?_,λp hp=>?_⟩
  ·have z1:=z.1
   rw[e]at z1
   exact c z1
  ·refine q p _ (qd_ hp _) ?_
   rw[qc_]
   unfold za_
   rw[e,HT.sIx_none,AU (by rw[Au];omega),Cn]
theorem ael_{its:List Value}{r:List Int}{n:Int}(h:IntsAre its r):its.countP (λy=>match y with|.int x _=>x==n|_=>false)=r.count n:=by
 induction h with
 |nil=>rfl
 |cons x t _ ih=>rw[List.countP_cons,List.count_cons,ih]
theorem ak9_{A:Around}{s:Shared}{its:List Value}{r:List Int}{n:Int}{t:Tok}(h:IntsAre its r):∀y,y∈its.toArray->SeqAt.EqAt A s y (.int n t) (match y with|.int x _=>x==n|_=>false):=by
 have key:∀y∈its,SeqAt.EqAt A s y (.int n t) (match y with|.int x _=>x==n|_=>false):=by
  induction h with
  |nil=>intro y hy;cases hy
  |cons x tk _ ih =>
   intro y hy
   rcases AL.mp hy with e|hy
   ·subst e;exact Cp _ _ _ _
   ·exact ih y hy
 exact λy hy=>key y (by simpa using hy)
def aq6_(to:TE)(t:TA):TE:=λσ H Q=>to σ H λx H1=>∃(p:Addr)(r:List Int),x=.ref p/\H1 p=some (.tup (r.map V.int))/\t σ H1 λvs H2=>∃n:Int,vs=[.int n]/\H2 p=some (.tup (r.map V.int))/\Q (.int (r.count n:Nat)) H2
theorem al3_{o e:Expr}{to:TE}{t:TA}{apos cpos:Pos}(ho:PE X o to)(he:PA X [e] t)
  (hbase:attributeBase o "count" X.env (eval o X.env)=eval o X.env:=by rfl)
  (hfew:((backTo cpos (starEach [e] X.env)).all (λx=>!x.1)&&(backToKw cpos (keywordEach [] X.env)).all (λx=>x.1.isSome)
   && decide ([e].length+([]:List Keyword).length+(if ([]:List Keyword).isEmpty then 0 else 1)<30))=true:=by rfl)
  (hline:(apos.endLine==cpos.line)=true:=by rfl) (hs:starEach [e] X.env=(false,eval e X.env)::starEach [] X.env:=by rfl) (hplain:(backTo cpos (starEach [] X.env)).any (·.1)=false:=by rfl) :
  PE X (.Call (.Attribute o "count" apos) [e] [] cpos) (aq6_ to t):=by
 intro pins s σ H Q I h
 refine wpAny_Call_method_late hbase hfew hline rfl (thn (ho pins s σ H _ I h) λv s1 ⟨x,H1,I1,r1,p,r,e1,hp,q1⟩=>?_)
 subst e1
 cases r1
 obtain⟨_,its,rv,o1,g1,c1,n1,d1,dn⟩:=(show ObjOk X.prog X.w H1 s1.heap p (.tup (r.map V.int)) from I1.hok p _ hp)
 refine⟨"tuple", "tuple.count",PySem.F.plainAttrs_tuple,Dn,PySem.F.type_tuple_count,⟨o1,g1,c1⟩,λb eb=>?_,?_⟩
 ·cases eb
  exact⟨o1,g1,dn⟩
 have hA:=he cpos pins s1 σ H1 _ I1 q1
 rw[hs]at hA ⊢
 refine Cd (by show(false||(backTo cpos (starEach [] X.env)).any (·.1))=false;rw[hplain]<;>rfl) (DB ?_)
 refine thn hA λus s2 ⟨vs,H2,I2,r2,n,e2,hp2,q2⟩=>?_
 subst e2
 obtain⟨u,rfl,ru⟩:=zx_ r2
 obtain⟨tk,rfl⟩:=ru
 obtain⟨_,its2,rv2,o2,g2,c2,n2,d2,dn2⟩:=(show ObjOk X.prog X.w H2 s2.heap p (.tup (r.map V.int)) from I2.hok p _ hp2)
 have ii:IntsAre its2 r:=q2_ rv2
 obtain⟨cls,dd,data,sl⟩:=o2
 simp only at c2 d2 dn2
 subst c2 d2 dn2
 refine call_meets Dn ⟨_,g2,rfl⟩ PySem.F.entry_tuple_count (PySem.F.args_tuple_count_2 _ _) (SeqAt.tuple_countAt p its2.toArray n2 none sl (.int n tk) _) ⟨g2,ak9_ ii,?_⟩
 exact⟨.int (r.count n:Nat),H2,I2.tok _,⟨s2.toks,by rw[<-ael_ ii]⟩,q2⟩
end
end L2.Ev
namespace L2.Ev
open PySem PySem.Spec PyProof.Rows
open L2.Ts L2.Pl L2.Rw
section
variable{X:Cx}
theorem abd_:∀{a b:List Int},a.Perm b->(a.Pairwise λx y=>y<=x)->(b.Pairwise λx y=>y<=x)->a=b
 |[],b,h,_,_=>(List.nil_perm.mp h).symm
 |x::a,[],h,_,_=>absurd h.symm (by simp)
 |x::a,y::b,h,ha,hb=>by
  obtain⟨a1,a2⟩:=Ah.mp ha
  obtain⟨b1,b2⟩:=Ah.mp hb
  have e:x=y:=by
   have h1:x∈y::b:=h.mem_iff.mp (AD ..)
   have h2:y∈x::a:=h.mem_iff.mpr (AD ..)
   rcases AL.mp h1 with e|m1
   ·exact e
   ·rcases AL.mp h2 with e|m2
    ·exact e.symm
    ·have:=b1 x m1
     have:=a1 y m2
     omega
  subst e
  rw[abd_ (List.perm_cons x |>.mp h) a2 b2]
def vF_(x:Int):List Int->List Int
 |[]=>[x]
 |y::l=>if y<=x then x::y::l else y::vF_ x l
def dsc(l:List Int):List Int:=l.foldr vF_ []
theorem yg_(x:Int):∀l,(vF_ x l).Perm (x::l)
 |[]=>.refl _
 |y::l=>by
  unfold vF_
  split
  ·exact .refl _
  ·exact((yg_ x l).cons y).trans (.swap ..)
theorem vm_(x:Int):∀{l:List Int},(l.Pairwise λa b=>b<=a)->((vF_ x l).Pairwise λa b=>b<=a)
 |[],_=>Ca _ _
 |y::l,h=>by
  obtain⟨h1,h2⟩:=Ah.mp h
  unfold vF_
  split
  ·rename_i c
   exact Ah.mpr ⟨λz hz=>(AL.mp hz).elim (λe=>e▸c) λm=>by have:=h1 z m;omega,h⟩
  ·rename_i c
   refine Ah.mpr ⟨λz hz=>?_,vm_ x h2⟩
   rcases AL.mp ((yg_ x l).mem_iff.mp hz) with e|m
   ·omega
   ·exact h1 z m
theorem acj_:∀l,(dsc l).Perm l
 |[]=>.refl _
 |x::l=>(yg_ x (dsc l)).trans ((acj_ l).cons x)
theorem yj_:∀l,(dsc l).Pairwise λa b=>b<=a
 |[]=>.nil
 |x::l=>vm_ x (yj_ l)
theorem afp_{a l:List Int}(h:a.Perm l)(f:a.Pairwise λx y=>y<=x):a=dsc l:=abd_ (h.trans (acj_ l).symm) f (yj_ l)
end
end L2.Ev
set_option maxHeartbeats 4000000
namespace L2.Ev
open PySem PySem.Spec PyProof.Rows L2 L2.Pl
end L2.Ev
set_option maxHeartbeats 4000000
namespace L2.Ev
open PySem PySem.Spec PyProof.Rows
open L2.Ts L2.Pl L2.Rw
end L2.Ev
namespace L2.Ev
open L2.Pl
def jz_(a:Int)(n:Nat):List Int:=(List.range ((n:Int)-a).toNat).map λ(i:Nat)=>a+(i:Int)
def mxl(line:List Int)(least:Int):Int:=match line.getLast? with
 |some x=>if x<least then least else x
 |none=>least
def jw_(n:Nat)(least:Int)(line:List Int):List (List Int):=(jz_ (mxl line least) n).map λk=>line++[k]
def yH_(n:Nat)(found:List (List Int))(least:Int):List (List Int):=found.flatMap (jw_ n least)
def lf(n:Nat)(ls:List Int):List (List Int):=ls.foldl (yH_ n) [[]]
def lfn(r:List Int)(lines:List (List Int)):List Int:=match lines.getLast? with
 |none=>List.replicate (r.getD 0 0).toNat 0
 |some l=>(l.map (· + 1)).take (r.getD lines.length 0).toNat
def jW_(n:Nat)(r:List Int)(lines:List (List Int)):List (List (List Int)):=(lf n (lfn r lines)).map λl=>lines++[l]
def wnl(n:Nat)(r:List Int)(fs:List (List (List Int))):List (List (List Int)):=fs.flatMap (jW_ n r)
def jx_(n:Nat)(r:List Int):Nat->List (List (List Int))
 |0=>[[]]
 |j+1=>wnl n r (jx_ n r j)
def fil(n:Nat)(r:List Int):List (List (List Int)):=jx_ n r r.length
def pwf(n:Nat)(f:List (List Int)):List Int:=(List.range n).map λ(k:Nat)=>((f.map λl=>((l.count (k:Int):Nat):Int)).sum)
def qQ_(n:Nat)(r:List Int):List Mon:=(fil n r).map λf=>(pwf n f,1)
def aq0_(i:Int)(t:Mon):List Mon:=(List.range (t.1.length+1)).map λ(k:Nat)=>(t.1.take k++[i]++t.1.drop k,t.2*(1-2*(((t.1.length:Int)-(k:Int))%2)))
def sgo:Nat->List Mon
 |0=>[([],1)]
 |n+1=>(sgo n).flatMap (aq0_ (n:Int))
def ph(n:Nat)(r:List Int):List Int:=(List.range n).map λ(k:Nat)=>r.getD k 0+(n:Int)-1-(k:Int)
def q1_(n:Nat)(r:List Int):List Mon:=(sgo n).map λt=>(t.1.map λk=>(ph n r).getD k.toNat 0,t.2)
theorem ab0_(line:List Int)(least:Int):least<=mxl line least:=by
 unfold mxl
 split
 ·split<;>lia
 ·exact By _
theorem aix_{a:Int}{n:Nat}(h:0<=a):(jz_ a n).length<=n:=by
 unfold jz_
 rw[AA,A0]
 lia
theorem ack_{n:Nat}{least:Int}(h:0<=least)(line:List Int):(jw_ n least line).length<=n:=by
 unfold jw_
 rw[AA]
 exact aix_ (Int.le_trans h (ab0_ _ _))
theorem zB_{α β:Type}(g:α->List β)(B:Nat):∀l:List α,(∀x∈l,(g x).length<=B)->(l.flatMap g).length<=l.length*B
 |[],_=>by simp
 |x::l,h=>by
  have h1:=h x (AD ..)
  have h2:=zB_ g B l λy hy=>h y (AC _ hy)
  rw[BW,AE,Am,Cs]
  lia
theorem aar_{α β:Type}(g:α->List β)(l:List α)(i:Nat):((l.take i).flatMap g).length<=(l.flatMap g).length:=by
 have e:l.flatMap g=(l.take i).flatMap g++(l.drop i).flatMap g:=by rw[<-Be,BI]
 rw[e,AE]
 lia
theorem vN_(n:Nat)(ls:List Int)(x:Int):lf n (ls++[x])=yH_ n (lf n ls) x:=by
 unfold lf
 rw[Bq]
 rfl
theorem abw_{n:Nat}(hn:n<=4):∀{m:Nat}{ls:List Int},ls.length=m->(∀x∈ls,0<=x)->(lf n ls).length<=4^m
 |0,ls,h,_=>by
  rw[BJ.mp h]
  exact AF _
 |m+1,ls,h,nn=>by
  have ne:ls≠[]:=by intro z;rw[z]at h;simp at h
  obtain⟨as,x,e⟩:∃as x,ls=as++[x]:=⟨_,_,(BB ne).symm⟩
  subst e
  rw[AE,Aq]at h
  have ih:=abw_ hn (m:=m) (ls:=as) (by lia) λy hy=>nn y (At _ hy)
  rw[vN_]
  have:=zB_ (jw_ n x) 4 (lf n as) λy _=>Ac (ack_ (nn x (by simp)) y) hn
  rw[Nat.pow_succ]
  unfold yH_
  lia
theorem aey_{n:Nat}{ls:List Int}(nn:∀x∈ls,0<=x):∀l∈lf n ls,l.length=ls.length/\∀x∈l,0<=x/\x<(n:Int):=by
 have key:∀m (ls:List Int),ls.length=m->(∀x∈ls,0<=x)->∀l∈lf n ls,l.length=ls.length/\∀x∈l,0<=x/\x<(n:Int):=by
  intro m
  induction m with
  |zero =>
   intro ls h _ l hl
   rw[BJ.mp h]at hl ⊢
   have e:l=[]:=by simpa [lf]using hl
   rw[e]
   exact⟨rfl,λx hx=>by cases hx⟩
  |succ m ih =>
   intro ls h nn l hl
   have ne:ls≠[]:=by intro z;rw[z]at h;simp at h
   obtain⟨as,x,e⟩:∃as x,ls=as++[x]:=⟨_,_,(BB ne).symm⟩
   subst e
   rw[AE,Aq]at h
   rw[vN_]at hl
   unfold yH_ at hl
   obtain⟨y,hy,hl⟩:=BE.mp hl
   obtain⟨i1,i2⟩:=ih as (by lia) (λy hy=>nn y (At _ hy)) y hy
   unfold jw_ jz_ at hl
   obtain⟨k,hk,rfl⟩:=AR.mp hl
   obtain⟨j,hj,rfl⟩:=AR.mp hk
   have hj:=Ar.mp hj
   refine⟨by simp [i1],λz hz=>?_⟩
   rcases Ai.mp hz with hz|hz
   ·exact i2 z hz
   ·have:=ab0_ y x
    have:=nn x (by simp)
    rw[AT.mp hz]
    lia
 exact key ls.length ls rfl nn
def LOk(l:List Int):Prop:=l.length<=8/\∀x∈l,0<=x/\x<=4
def FOk(r:List Int)(j:Nat)(fs:List (List (List Int))):Prop:=∀lines∈fs,lines.length=j/\∀l∈lines,LOk l
theorem agg_{r:List Int}(h8:∀x∈r,0<=x/\x<=8){lines:List (List Int)}(hl:∀l∈lines,LOk l):(lfn r lines).length<=8/\∀x∈lfn r lines,0<=x/\x<=1000:=by
 have g8:∀k,(r.getD k 0).toNat<=8:=λk=>by
  rw[AO]
  cases e:r[k]? with
  |none=>decide
  |some x =>
   have:=h8 x (Ag e)
   simp
   lia
 unfold lfn
 cases e:lines.getLast? with
 |none=>exact⟨by simpa using g8 0,λx hx=>by have:=(DU.mp hx).2;lia⟩
 |some l =>
  have hm:=Ea e
  refine⟨by rw[AW];have:=g8 lines.length;lia,λx hx=>?_⟩
  obtain⟨y,hy,rfl⟩:=AR.mp (BC hx)
  have:=(hl l hm).2 y hy
  lia
theorem yB_{n:Nat}{r:List Int}(hn:n<=4)(h8:∀x∈r,0<=x/\x<=8):∀j,FOk r j (jx_ n r j)
 |0=>λlines hl=>by
  have e:lines=[]:=by simpa [jx_]using hl
  rw[e]
  exact⟨rfl,λl hl=>by cases hl⟩
 |j+1=>λlines hl=>by
  have ih:=yB_ hn h8 j
  unfold jx_ wnl at hl
  obtain⟨fs,hf,hl⟩:=BE.mp hl
  obtain⟨a1,a2⟩:=ih fs hf
  unfold jW_ at hl
  obtain⟨l,hll,rfl⟩:=AR.mp hl
  obtain⟨b1,b2⟩:=agg_ h8 a2
  obtain⟨c1,c2⟩:=aey_ (λx hx=>(b2 x hx).1) l hll
  refine⟨by simp [a1],λz hz=>?_⟩
  rcases Ai.mp hz with hz|hz
  ·exact a2 z hz
  ·rw[AT.mp hz]
   exact⟨by lia,λx hx=>by have:=c2 x hx;lia⟩
theorem akx_(n:Nat)(f:List (List Int)):(pwf n f).length=n:=by unfold pwf;rw[AA,A0]
def gen:Nat->Nat->Nat->List (List Int)
 |0,_,_=>[[]]
 |k+1,top,w=>[]::(List.range top).flatMap λi=>if i+1<=w then (gen k (i+1) (w-(i+1))).map (λr=>((i:Int)+1)::r) else []
theorem adq_:∀(k top w:Nat)(r:List Int),r.length<=k->(∀x∈r,1<=x/\x<=(top:Int))->(r.Pairwise λa b=>b<=a)->r.sum<=(w:Int)->r∈gen k top w
 |0,_,_,r,h,_,_,_=>by
  rw[BJ.mp (Nat.le_zero.mp h)]
  exact AT.mpr rfl
 |k+1,top,w,[],_,_,_,_=>AD ..
 |k+1,top,w,x::r,h,hx,hp,hs=>by
  obtain⟨x1,x2⟩:=hx x (AD ..)
  obtain⟨i,rfl⟩:∃i:Nat,x=(i:Int)+1:=⟨(x-1).toNat,by lia⟩
  obtain⟨p1,p2⟩:=Ah.mp hp
  have pos:∀l:List Int,(∀y∈l,1<=y)->0<=l.sum:=by
   intro l
   induction l with
   |nil=>intro _;exact By _
   |cons y l ih =>
    intro hy
    have:=hy y (AD ..)
    have:=ih λz hz=>hy z (AC _ hz)
    rw[Ad]
    lia
  have r0:=pos r λy hy=>(hx y (AC _ hy)).1
  rw[Ad]at hs
  have iw:i+1<=w:=by lia
  refine AC _ (BE.mpr ⟨i,Ar.mpr (by lia),?_⟩)
  rw[if_pos iw]
  refine AR.mpr ⟨r,adq_ k (i+1) (w-(i+1)) r (by simp at h;lia) (λy hy=>⟨(hx y (AC _ hy)).1,by have:=p1 y hy;lia⟩) p2 (by lia),rfl⟩
def code(p:List Int):Nat:=p.foldl (λa x=>16*a+x.toNat) 0
def jA_:Nat->List (Nat×Int)->List (Nat×Int)->List (Nat×Int)
 |0,a,b=>a++b
 |_,[],b=>b
 |_,a,[]=>a
 |f+1,(k,x)::a,(l,y)::b=>if k<l then (l,y)::jA_ f ((k,x)::a) b else if l<k then (k,x)::jA_ f a ((l,y)::b) else if x+y=0 then jA_ f a b else (k,x+y)::jA_ f a b
def smK(h:Nat->Int):List (Nat×Int)->Int
 |[]=>0
 |t::l=>t.2*h t.1+smK h l
theorem ada_(h:Nat->Int):∀a b,smK h (a++b)=smK h a+smK h b
 |[],b=>by simp [smK]
 |t::a,b=>by simp only[Dj,smK,ada_ h a b];lia
theorem xf_(h:Nat->Int):∀f a b,smK h (jA_ f a b)=smK h a+smK h b
 |0,a,b=>by unfold jA_;exact ada_ h a b
 |f+1,[],b=>by simp [jA_,smK]
 |f+1,t::a,[]=>by simp [jA_,smK]
 |f+1,(k,x)::a,(l,y)::b=>by
  unfold jA_
  split
  ·have:=xf_ h f ((k,x)::a) b
   simp only[smK]at this ⊢
   lia
  ·split
   ·have:=xf_ h f a ((l,y)::b)
    simp only[smK]at this ⊢
    lia
   ·have e:k=l:=by lia
    subst e
    have:=xf_ h f a b
    split
    ·rename_i z
     have z2:x*h k+y*h k=0:=by rw[<-DM,z,Int.zero_mul]
     simp only[smK]at this ⊢
     lia
    ·simp only[smK,DM]at this ⊢
     lia
def KF(n:Nat)(r:List Int):List (Nat×Int):=(fil n r).foldl (λacc f=>jA_ (acc.length+1) acc [(code (pwf n f),1)]) []
def xo_(kf:List (Nat×Int))(A:List Mon):List (Nat×Int):=A.foldl (λacc t=>jA_ (acc.length+kf.length+1) acc (kf.map λu=>(u.1+code t.1,u.2*t.2))) []
def sumK(A:List Mon):List (Nat×Int):=A.foldl (λacc t=>jA_ (acc.length+1) acc [(code t.1,t.2)]) []
def jF_(n b:Nat)(p:List Int):Bool:=p.length==n&&p.all λx=>decide (0<=x)&&decide (x<=(b:Int))
def chk(n:Nat)(r:List Int):Bool:=((fil n r).all λf=>jF_ n 11 (pwf n f))&&((q1_ n []).all λt=>jF_ n 4 t.1)&&((q1_ n r).all λt=>jF_ n 15 t.1)&&xo_ (KF n r) (q1_ n [])==sumK (q1_ n r)
def xQ_(n:Nat)(r:List Int):Bool:=decide ((fil n r).length<=1000)&&(if r.length<=n then chk n r else (fil n r).isEmpty)
end L2.Ev
set_option maxHeartbeats 4000000
namespace L2.K72
open PySem
open L2.Pl L2.Ev
def top(i:Nat):Stmt:=PySem.Challenge.pw_evenform_k72_whole_pairing.main.body.getD i (.Pass ⟨0,0,0,0⟩)
abbrev sRc:Stmt:=top 9
abbrev aax_:Stmt:=top 10
abbrev ad7_:Stmt:=top 11
abbrev aaz_:Stmt:=top 12
abbrev sMul:Stmt:=top 13
abbrev aef_:Stmt:=top 14
abbrev aaw_:Stmt:=top 15
abbrev sRbr:Stmt:=top 17
abbrev sUr:Stmt:=top 18
abbrev sRw:Stmt:=top 19
abbrev sCf:Stmt:=top 20
abbrev sTo:Stmt:=top 21
abbrev sTd:Stmt:=top 22
abbrev sUn:Stmt:=top 24
abbrev sRu:Stmt:=top 25
abbrev sOr:Stmt:=top 26
abbrev sEx:Stmt:=top 27
abbrev sFa:Stmt:=top 28
abbrev sRf:Stmt:=top 29
abbrev sPr:Stmt:=top 31
abbrev sEl:Stmt:=top 32
abbrev sEp:Stmt:=top 33
abbrev sEs:Stmt:=top 34
abbrev sWh:Stmt:=top 35
abbrev sWs:Stmt:=top 36
abbrev sLf:Stmt:=top 38
abbrev sLn:Stmt:=top 39
abbrev sWn:Stmt:=top 40
abbrev sFil:Stmt:=top 41
abbrev sPo:Stmt:=top 42
abbrev sFs:Stmt:=top 43
abbrev sUa:Stmt:=top 44
abbrev sDf:Stmt:=top 45
abbrev sBf:Stmt:=top 46
abbrev aa6_:Stmt:=top 48
abbrev sFlp:Stmt:=top 49
abbrev afa_:Stmt:=top 51
abbrev abv_:Stmt:=top 52
abbrev sPow:Stmt:=top 53
abbrev sSum:Stmt:=top 54
abbrev aff_:Stmt:=top 55
abbrev sRow:Stmt:=top 56
abbrev aea_:Stmt:=top 57
abbrev sLr:Stmt:=top 58
abbrev ae0_:Stmt:=top 59
abbrev aep_:Stmt:=top 60
abbrev sLaw:Stmt:=top 61
section
variable{P:Program}{w:World}{K:PySem.W.Frag}{mg:Str->Option Value}{base:Heap}{f g:Addr}{fd gd:FuncData}
abbrev nG:List Str:=["terms", "numbers", "powers", "number"]
abbrev bG:List Str:=["powers", "numbers"]
theorem ndG:bG.Nodup:=by decide +kernel
theorem scG:FnScope nG ["terms"] (qh_ aax_):=⟨rfl,rfl,rfl,by decide +kernel,rfl,by decide +kernel,by decide +kernel⟩
def xF_:Sp:=λvs H Q _=>∃(a:Addr)(ts:List Mon),vs=[.ref a]/\LstAt H a ts/\(∀t∈ts,t.1≠[])/\ts.length<=100000/\∀(l:Addr)(H':Hp),H l=none->Same H H'->LstAt H' l (norm ts)->Q (.ref l) H'
theorem akt_(F:Fun K "gathered" "gathered" aax_ f fd)(ms:mg "sorted" = none):FnOk P w K mg base CX0 2 f fd ["terms"] xF_:=by
 refine F.ok scG (λvs H Q E h=>?_) (λcdv A outer s H vs Q E hr h=>?_)
 ·obtain⟨a,ts,rfl,_⟩:=h
  rfl
 obtain⟨a,ts,rfl,hL,hne,hlen,q⟩:=h
 have hu:=aa3_ hr
 have h8:=hu8 hr
 refine⟨_,qe_ (qo_ (i:=1) scG.nd rfl (Or.inr rfl) yX_)
  (qe_ (qE_ Al rfl (qz_ (pv 0)) (zh_ rfl (qp_ (qj_ (i:=2) scG.nd rfl (Or.inl rfl)) (qp_ (qj_ (i:=3) scG.nd rfl (Or.inl rfl)) q6_)))
   (qf_ (vy_ hu (pv 1) (pv 2) (ql_ qS_ (y2_ hu (pv 1) (pv 2) qg_ ⟨rfl,rfl,rfl,rfl⟩) (pv 3)) rfl)))
  (qf_ (qm_ (qN_ (N':=bG) (src:=[none,some 1]) rfl (qz_ (afh_ rfl h8 rfl ms (qa_ (pv 1) qb_)))
   (zb_ (qh_ aax_) nG (by decide +kernel))
   (λb=>qj_ (i:=0) ndG rfl (Or.inl rfl))
   (λb=>xr_ (qy_ yl_ (adt_ hu (pv 1) (pv 0) (λ_ _=>rfl)) qg_ (qv_ _)))
   (λb=>qs_ (qa_ (pv 0) (qa_ (adt_ hu (pv 1) (pv 0) (λ_ _=>rfl)) qb_))))))),?_⟩
 intro d hd
 obtain⟨vs,eL,iL⟩:=hL
 have lv:=AQ iL
 have s0:Same H (upd H d (.dT [])):=qd_ hd _
 refine⟨_,rfl,a,rfl,⟨vs,SqL.of (s0 _ _ eL)⟩,?_⟩
 refine qL_ (xs:=vs) (λi σ H'=>(∃c2 c3,σ=[some (.ref a),some (.ref d),c2,c3])/\H' d=some (.dT (toK (qR_ (ts.take i))))/\Same H H') ?_ ?_ ?_ ?_
 ·exact⟨⟨_,_,rfl⟩,qc_,s0⟩
 ·rintro i σ H1 _ ⟨_,_,s1⟩
  exact SqL.of (s1 _ _ eL)
 ·rintro i x σ H1 hx ⟨⟨c2,c3,rfl⟩,h1,s1⟩
  obtain⟨t,ht,hi⟩:=qV_ iL hx
  obtain⟨p,k,rfl,hp,hk⟩:=zY_ hi
  have hk1:=s1 _ _ hk
  refine⟨p,_,rfl,SqT.of (s1 _ _ hp),rfl,_,_,rfl,_,_,rfl,rfl,?_⟩
  have g:=DGet.t (k:=t.1.map Sum.inl) h1 (by rw[jf_];exact hk1)
  rw[yt_]at g
  refine⟨_,rfl,d,rfl,.inr ⟨_,.inl h1⟩,_,rfl,_,g,_,rfl,(zj_ (qR_ (ts.take i)) t.1).getD 0,t.2,?_,rfl,_,rfl,_,rfl,d,_,rfl,DPut.t (k:=t.1.map Sum.inl) h1 (by rw[jf_];exact hk1) ?_,?_⟩
  ·cases zj_ (qR_ (ts.take i)) t.1<;>rfl
  ·rw[yr_]
   have:=xJ_ (ts.take i)
   rw[AW]at this
   exact zE_ (by omega)
  ·refine⟨⟨_,_,rfl⟩,?_,λb o e=>?_⟩
   ·rw[qI_ ht,jq_,<-vX_]
    exact qc_
   ·rw[qk_ (qn_ e hd)]
    exact s1 b o e
 ·rintro σ H1 ⟨⟨c2,c3,rfl⟩,h1,s1⟩
  rw[AU (by omega)]at h1
  have hnd:∀t∈qR_ ts,t.1≠[]:=λt ht=>by
   obtain⟨u,hu,e⟩:=AR.mp (ajy_ ts (AR.mpr ⟨t,ht,rfl⟩))
   rw[<-e]
   exact hne u hu
  refine⟨_,rfl,d,qR_ ts,rfl,.inl h1,hnd,λp vs' ks hp pm so it=>?_⟩
  have s2:Same H1 (upd H1 p (.lst vs')):=qd_ hp _
  refine⟨p,rfl,⟨_,SqL.of qc_⟩,λb D hD=>?_⟩
  have lk:=AQ it
  have ln:vs'.length<=100000:=by
   have:=pm.length_eq
   rw[AA]at this
   have:=xJ_ ts
   omega
  refine zG_ (α:=Mon) hD (SqL.of qc_) (λσ=>∃c,σ=[c,some (.ref d)]) (λi=>(ks[i]?).bind λk=>if (zj_ (qR_ ts) k).getD 0≠0 then some (k,(zj_ (qR_ ts) k).getD 0) else none) (small ln) ⟨_,rfl⟩ ?_ ?_
  ·rintro i x σ H2 Yes No hx ⟨c,rfl⟩ s3 yes no
   obtain⟨k,hk,hi⟩:=qV_ it hx
   obtain⟨pk,rfl,hpk⟩:=q8_ hi
   have hpk3:=s3 _ _ (s2 _ _ hpk)
   have hd3:=s3 _ _ (s2 _ _ h1)
   obtain⟨n,hn⟩:=afk_ (pm.mem_iff.mp (Ag hk))
   have g:=DGet.t (k:=k.map Sum.inl) hd3 (by rw[jf_];exact hpk3)
   rw[yt_,hn]at g
   refine⟨_,rfl,_,rfl,d,.int n,rfl,g,rfl,_,rfl,?_⟩
   by_cases c0:n=0
   ·subst c0
    refine ji_ ?_
    exact no _ _ ⟨_,rfl⟩ (Same.refl _) (by rw[hk,CU,hn,if_neg (by simp)])
   ·have e0:(!decide (V.int n=V.int 0))=true:=by
     rw[decide_eq_false (λz=>c0 (by injection z))]
     rfl
    rw[e0]
    refine xp_ ⟨_,rfl,_,rfl,_,rfl,d,.int n,rfl,g,(by show 2<=sizeLine;decide),λr hr=>?_⟩
    exact yes _ _ _ (k,n) ⟨_,rfl⟩ (qd_ hr _) (by rw[hk,CU,hn,if_pos (by simpa using c0)];rfl) (zo_ qc_ (qd_ hr _ _ _ hpk3))
  ·intro H2 s3 hL
   refine q D H2 (s1.free (s2.free hD)) (s1.trans (s2.trans s3)) ?_
   have e:=al9_ pm so
   rw[<-zS_,<-qT_,<-lk]at e
   rw[<-e]
   exact hL
theorem agc_{n d b:Nat}{ts:List Mon}(h:Deg n d b ts)(n1:1<=n):∀t∈ts,t.1≠[]:=λt ht e=>by
 have:=h.len t ht
 rw[e]at this
 simp at this
 omega
abbrev nPl:List Str:=["one", "other"]
theorem scPl:FnScope nPl nPl (qh_ ad7_):=⟨rfl,rfl,rfl,by decide +kernel,rfl,by decide +kernel,by decide +kernel⟩
def ve_(g:List Mon->List Mon->List Mon):Sp:=λvs H Q _=>∃(a b:Addr)(ts us:List Mon),vs=[.ref a,.ref b]/\LstAt H a ts/\LstAt H b us/\(∀t∈ts,t.1≠[])/\(∀t∈us,t.1≠[])/\ts.length+us.length<=100000/\∀(l:Addr)(H':Hp),H l=none->Same H H'->LstAt H' l (norm (g ts us))->Q (.ref l) H'
theorem aky_(F:Fun K "plus" "plus" ad7_ f fd)(GG:Has P w K mg base 2 "gathered" ["terms"] xF_):FnOk P w K mg base CX0 3 f fd nPl (ve_ λts us=>ts++us):=by
 refine F.ok scPl (λvs H Q E h=>?_) (λcdv A outer s H vs Q E hr h=>?_)
 ·obtain⟨a,b,ts,us,rfl,_⟩:=h
  rfl
 obtain⟨a,b,ts,us,rfl,⟨vs,eA,iA⟩,⟨ws,eB,iB⟩,ne1,ne2,hlen,q⟩:=h
 refine⟨_,qf_ (qm_ (qi_ GG hr rfl (qa_ (ql_ yc_ (pv 0) (pv 1)) qb_))),?_⟩
 have la:=AQ iA
 have lb:=AQ iB
 refine⟨_,rfl,_,rfl,a,b,vs,ws,rfl,rfl,eA,eB,small (by omega),λp hp=>?_⟩
 have s1:=qd_ hp (.lst (vs++ws))
 refine⟨p,ts++us,rfl,⟨_,qc_,Paired.app (Its.mono (Tups.same s1) iA) (Its.mono (Tups.same s1) iB)⟩,λt ht=>(Ai.mp ht).elim (ne1 t) (ne2 t),by rw[AE];exact hlen,λl H' hl s2 h2=>?_⟩
 exact q l H' (s1.free hl) (s1.trans s2) h2
abbrev bLs:List Str:=["powers", "number"]
theorem ndLs:bLs.Nodup:=by decide +kernel
theorem scLs:FnScope nPl nPl (qh_ aaz_):=⟨rfl,rfl,rfl,by decide +kernel,rfl,by decide +kernel,by decide +kernel⟩
theorem alp_(F:Fun K "less" "less" aaz_ f fd)(GG:Has P w K mg base 2 "gathered" ["terms"] xF_):FnOk P w K mg base CX0 3 f fd nPl (ve_ λts us=>ts++ngt us):=by
 refine F.ok scLs (λvs H Q E h=>?_) (λcdv A outer s H vs Q E hr h=>?_)
 ·obtain⟨a,b,ts,us,rfl,_⟩:=h
  rfl
 obtain⟨a,b,ts,us,rfl,⟨vs,eA,iA⟩,⟨ws,eB,iB⟩,ne1,ne2,hlen,q⟩:=h
 refine⟨_,qf_ (qm_ (qi_ GG hr rfl (qa_ (ql_ yc_ (pv 0) (qN_ (N':=bLs) (src:=[none,none]) rfl (qz_ (pv 1)) (zb_ (qh_ aaz_) nPl (by decide +kernel))
   (λb=>zh_ rfl (qp_ (qj_ (i:=0) ndLs rfl (Or.inl rfl)) (qp_ (qj_ (i:=1) ndLs rfl (Or.inl rfl)) q6_)))
   (λb=>qX_)
   (λb=>qs_ (qa_ (pv 0) (qa_ (xm_ jU_ (pv 1)) qb_))))) qb_))),?_⟩
 have la:=AQ iA
 have lb:=AQ iB
 refine⟨_,rfl,_,rfl,b,rfl,⟨_,SqL.of eB⟩,λbk D hD=>?_⟩
 refine zG_ (α:=Mon) hD (SqL.of eB) (λσ=>∃c d,σ=[c,d]) (λi=>(us[i]?).bind λt=>some (t.1,-t.2)) (small (by omega)) ?_ ?_ ?_
 ·exact⟨_,_,rfl⟩
 ·rintro i x σ H2 Yes No hx ⟨c,d,rfl⟩ s3 yes no
  obtain⟨t,ht,hi⟩:=qV_ iB hx
  obtain⟨p,kk,rfl,hp,hkk⟩:=zY_ hi
  refine⟨p,_,rfl,SqT.of (s3 _ _ hp),rfl,_,_,rfl,_,_,rfl,rfl,?_⟩
  refine yV_ ?_
  refine⟨_,rfl,_,rfl,_,rfl,(by show 2<=sizeLine;decide),λp3 h3=>?_⟩
  have s5:=qd_ h3 (.tup [.ref kk,.int (-t.2)])
  exact yes _ _ _ (t.1,-t.2) ⟨_,_,rfl⟩ s5 (by rw[ht];rfl) (zo_ qc_ (s5 _ _ (s3 _ _ hkk)))
 rintro H2 s3 ⟨zs,eZ,iZ⟩
 have e:(List.range ws.length).filterMap (λi=>(us[i]?).bind λt=>some (t.1,-t.2))=ngt us:=by
  rw[lb,qT_,Aw]
  rfl
 rw[e]at iZ
 have lz:=AQ iZ
 rw[ad0_]at lz
 refine⟨a,D,vs,zs,rfl,rfl,s3 _ _ eA,eZ,small (by omega),λp hp=>?_⟩
 have s1:=qd_ hp (.lst (vs++zs))
 refine⟨p,ts++ngt us,rfl,⟨_,qc_,Paired.app (Its.mono (Tups.same (s3.trans s1)) iA) (Its.mono (Tups.same s1) iZ)⟩,λt ht=>(Ai.mp ht).elim (ne1 t) λht=>?_,by rw[AE,ad0_];exact hlen,λl H' hl s2 h2=>?_⟩
 ·obtain⟨u,hu,rfl⟩:=AR.mp ht
  exact ne2 u hu
 ·exact q l H' (s3.free (s1.free hl)) (s3.trans (s1.trans s2)) h2
abbrev nS:List Str:=["powers", "place"]
theorem scS:FnScope nS ["powers", "place"] (qh_ aef_):=⟨rfl,rfl,rfl,by decide +kernel,rfl,by decide +kernel,by decide +kernel⟩
def agt_:Sp:=λvs H Q _=>∃(a:Addr)(ps:List Int)(k:Nat),vs=[.ref a,.int k]/\H a=some (.tup (ps.map V.int))/\k+1<ps.length/\ps.length<=100/\∀p H',Same H H'->H' p=some (.tup ((swp ps k).map V.int))->Q (.ref p) H'
theorem ank_(ps:List Int)(k:Nat)(h:k<=ps.length):za_ (ps.map V.int) none (some (k:Int))=(ps.take k).map V.int:=by
 unfold za_
 rw[HT.sIx_none,HT.sIx_nat,AA,CQ,Dh,Bh h,DY]
theorem an6_(ps:List Int)(k:Nat):za_ (ps.map V.int) (some (k:Int)) none=(ps.drop k).map V.int:=by
 unfold za_
 rw[HT.sIx_none,HT.sIx_nat,AA,AU (by rw[Au,AA];omega),Cn]
 by_cases c:k<=ps.length
 ·rw[Bh c]
 ·rw[Ck (by omega),Bb (by simp),Bb (by simp;omega)]
theorem ag7_{ps:List Int}{k:Nat}(h:k<ps.length):atI (ps.map V.int) (k:Int)=some (.int (ps.getD k 0)):=by
 refine z7_ ?_
 rw[AV,AJ h]
 simp [h]
theorem al4_(F:Fun K "swapped" "swapped" aef_ f fd):FnOk P w K mg base CX0 2 f fd ["powers", "place"] agt_:=by
 refine F.ok scS (λvs H Q E h=>?_) (λcdv A outer s H vs Q E hr h=>?_)
 ·obtain⟨a,ps,k,rfl,_⟩:=h
  rfl
 obtain⟨a,ps,k,rfl,ha,hk,hl,q⟩:=h
 refine⟨_,qf_ (qm_ (ql_ zl_ (ql_ zl_ (q3_ xt_ (pv 0) zu_ (q5_ (pv 1)))
   (qs_ (qa_ (qY_ xh_ (pv 0) (ql_ qS_ (pv 1) qg_) (λ_ _=>rfl)) (qa_ (qY_ xh_ (pv 0) (pv 1) (λ_ _=>rfl)) qb_))))
   (q3_ xt_ (pv 0) (q5_ (ql_ qS_ (pv 1) qg_)) zu_))),?_⟩
 have e1:((k:Int)+1)=((k+1:Nat):Int):=by omega
 have e2:((k:Int)+2)=((k+2:Nat):Int):=by omega
 refine⟨_,rfl,_,rfl,_,rfl,a,_,rfl,SqT.of ha,?_,λp1 h1=>?_⟩
 ·rintro⟨_,z⟩
  rw[HT.sIx_nat,AA]at z
  omega
 rw[ank_ ps k (by omega)]
 have s1:=qd_ h1 (.tup ((ps.take k).map V.int))
 have ha1:=s1 _ _ ha
 refine⟨_,rfl,_,rfl,_,_,rfl,rfl,a,_,_,_,rfl,rfl,SqT.of ha1,by rw[e1];exact ag7_ hk,_,rfl,_,rfl,a,_,_,_,rfl,rfl,SqT.of ha1,ag7_ (by omega),(by show 2<=sizeLine;decide),λp2 h2=>?_⟩
 have s2:=qd_ h2 (.tup [.int (ps.getD (k+1) 0),.int (ps.getD k 0)])
 have hp1:=s2 _ _ (qc_ (H:=H) (a:=p1) (o:=.tup ((ps.take k).map V.int)))
 refine zf_ (r:=ps.take k) (r':=[ps.getD (k+1) 0,ps.getD k 0]) hp1 qc_ (small (by rw[AW];show min k ps.length+2<=100000;omega)) λp3 H3 s3 h3=>?_
 have ha3:=s3 _ _ (s2 _ _ ha1)
 refine⟨_,rfl,_,rfl,_,_,rfl,rfl,_,rfl,a,_,rfl,SqT.of ha3,?_,λp4 h4=>?_⟩
 ·rintro⟨z,_⟩
  rw[e2,HT.sIx_nat,AA]at z
  omega
 rw[e2,an6_]
 have s4:=qd_ h4 (.tup ((ps.drop (k+2)).map V.int))
 refine zf_ (s4 _ _ h3) qc_ (small (by rw[AE,AW,Au];show min k ps.length+2+(ps.length-(k+2))<=100000;omega)) λp5 H5 s5 h5=>?_
 exact q p5 H5 (s1.trans (s2.trans (s3.trans (s4.trans s5)))) h5
abbrev nE:List Str:=["some", "place"]
abbrev bE:List Str:=["powers", "number", "place"]
theorem ndE:bE.Nodup:=by decide +kernel
theorem scE:FnScope nE ["some", "place"] (qh_ aaw_):=⟨rfl,rfl,rfl,by decide +kernel,rfl,by decide +kernel,by decide +kernel⟩
def af3_:Sp:=λvs H Q _=>∃(a:Addr)(n k:Nat)(ts:List Mon),vs=[.ref a,.int k]/\LstAt H a ts/\(∀t∈ts,t.1.length=n)/\k+1<n/\n<=100/\ts.length<=100000/\∀(l:Addr)(H':Hp),H l=none->Same H H'->LstAt H' l (exch ts k)->Q (.ref l) H'
theorem al0_{h':Addr}{hd':FuncData}(F:Fun K "exchanged" "exchanged" aaw_ f fd)(G:FnOk P w K mg base CX0 2 g gd ["terms"] xF_)(bG':Binds K gd ["terms"] [])(kG:PySem.W.keepIn K (.ref g)=true)(mG:mg "gathered" = some (.ref g))
  (GS:FnOk P w K mg base CX0 2 h' hd' ["powers", "place"] agt_) (bS:Binds K hd' ["powers", "place"] []) (kS:PySem.W.keepIn K (.ref h')=true) (mS:mg "swapped" = some (.ref h')):FnOk P w K mg base CX0 3 f fd ["some", "place"] af3_:=by
 refine F.ok scE (λvs H Q E h=>?_) (λcdv A outer s H vs Q E hr h=>?_)
 ·obtain⟨a,n,k,ts,rfl,_⟩:=h
  rfl
 obtain⟨a,n,k,ts,rfl,⟨vs,eL,iL⟩,hln,hk,hn,hl,q⟩:=h
 refine⟨_,qf_ (qm_ (z9_ G hr rfl mG kG bG' .nil j0_ (qa_ (qN_ (N':=bE) (src:=[none,none,some 1]) rfl (qz_ (pv 0)) (zb_ (qh_ aaw_) nE (by decide +kernel))
   (λb=>zh_ rfl (qp_ (qj_ (i:=0) ndE rfl (Or.inl rfl)) (qp_ (qj_ (i:=1) ndE rfl (Or.inl rfl)) q6_)))
   (λb=>qX_)
   (λb=>qs_ (qa_ (z9_ GS hr rfl mS kS bS .nil j0_ (qa_ (pv 0) (qa_ (pv 2) qb_))) (qa_ (pv 1) qb_)))) qb_))),?_⟩
 refine⟨_,rfl,a,rfl,⟨_,SqL.of eL⟩,λbk D hD=>?_⟩
 have lv:=AQ iL
 refine zG_ (α:=Mon) hD (SqL.of eL) (λσ=>∃c d,σ=[c,d,some (.int k)]) (λi=>(ts[i]?).bind λt=>some (swp t.1 k,t.2)) (small (by omega)) ?_ ?_ ?_
 ·exact⟨_,_,rfl⟩
 ·rintro i x σ H2 Yes No hx ⟨c,d,rfl⟩ s3 yes no
  obtain⟨t,ht,hi⟩:=qV_ iL hx
  obtain⟨p,kk,rfl,hp,hkk⟩:=zY_ hi
  have hm:=Ag ht
  have pl:=hln t hm
  refine⟨p,_,rfl,SqT.of (s3 _ _ hp),rfl,_,_,rfl,_,_,rfl,rfl,?_⟩
  refine yV_ ?_
  refine⟨_,rfl,_,rfl,kk,t.1,k,rfl,s3 _ _ hkk,by omega,by omega,λp2 H4 s4 h4=>?_⟩
  refine⟨_,rfl,(by show 2<=sizeLine;decide),λp3 h3=>?_⟩
  have s5:=qd_ h3 (.tup [.ref p2,.int t.2])
  exact yes _ _ _ (swp t.1 k,t.2) ⟨_,_,rfl⟩ (s4.trans s5) (by rw[ht];rfl) (zo_ qc_ (s5 _ _ h4))
 ·rintro H2 s3 hL
  have e:(List.range vs.length).filterMap (λi=>(ts[i]?).bind λt=>some (swp t.1 k,t.2))=ts.map λt=>(swp t.1 k,t.2):=by
   rw[lv,qT_,Aw]
  rw[e]at hL
  refine⟨D,_,rfl,hL,λt ht e=>?_,by rw[AA];omega,λl H4 hl4 s4 h4=>?_⟩
  ·obtain⟨u,hu,rfl⟩:=AR.mp ht
   have z:(swp u.1 k).length=n:=by rw[yn_ (by rw[hln u hu];exact hk),hln u hu]
   have e':swp u.1 k=[]:=e
   rw[e']at z
   simp at z
   omega
  ·exact q l H4 (s3.free hl4) (s3.trans s4) h4
abbrev nRc:List Str:=["many"]
theorem scRc:FnScope nRc ["many"] (qh_ sRc):=⟨rfl,rfl,rfl,by decide +kernel,rfl,by decide +kernel,by decide +kernel⟩
def yI_:Sp:=λvs H Q _=>∃n:Int,vs=[.int n]/\1<=n/\n<=4/\Q .non H
theorem ano_{tk:Tok}(F:Fun K "refuse_bad_count" "refuse_bad_count" sRc f fd)(gU:mg "MOST_UNKNOWNS" = some (.int 4 tk)):FnOk P w K mg base CX0 2 f fd ["many"] yI_:=by
 refine F.ok scRc (λvs H Q E h=>?_) (λcdv A outer s H vs Q E hr h=>?_)
 ·obtain⟨n,rfl,_⟩:=h
  rfl
 obtain⟨n,rfl,n1,n4,q⟩:=h
 refine⟨_,qf_ (q0_ (PW.pt (aqu_ (qy_ aav_ (pv 0) qg_ (qv_ _)) (anp_ (qy_ j1_ (pv 0) (ade_ (v:=.int 4) rfl gU ⟨_,rfl⟩) (qv_ _))))) (qf_ jj_) qG_),?_⟩
 exact⟨_,rfl,_,_,rfl,rfl,_,rfl,jV_ (by omega) ⟨_,rfl,_,_,rfl,rfl,_,rfl,jV_ (by omega) q⟩⟩
def jQ_(f:List Int->List (List Int))(l:List Int)(i:Nat):List (List Int):=if l.getD i 0∈l.take i then [] else (f (l.take i++l.drop (i+1))).map (l.getD i 0 :: ·)
def zA_:Nat->List Int->List (List Int)
 |0,_=>[]
 |n+1,l=>if l=[] then [[]] else (List.range l.length).flatMap (jQ_ (zA_ n) l)
theorem yO_(n:Nat):zA_ (n+1) []=[[]]:=by simp [zA_]
theorem yh_(n:Nat)(l:List Int)(h:l≠[]):zA_ (n+1) l=(List.range l.length).flatMap (jQ_ (zA_ n) l):=by simp [zA_,h]
theorem yP_:∀(n:Nat)(l:List Int),∀r∈zA_ n l,r.length=l.length
 |0,_,r,h=>by simp [zA_]at h
 |n+1,l,r,h=>by
  by_cases c:l=[]
  ·subst c
   rw[yO_,AT]at h
   rw[h]
  ·rw[yh_ n l c,BE]at h
   obtain⟨i,hi,h⟩:=h
   have hi:=Ar.mp hi
   unfold jQ_ at h
   split at h
   ·simp at h
   ·obtain⟨q,hq,rfl⟩:=AR.mp h
    have:=yP_ n _ q hq
    rw[AE,AW,Au]at this
    rw[Am]
    omega
def bnd:Nat->Nat
 |0=>1
 |n+1=>(n+1)*bnd n
theorem zB_{α β:Type}(g:α->List β)(B:Nat):∀l:List α,(∀a∈l,(g a).length<=B)->(l.flatMap g).length<=l.length*B
 |[],_=>by simp
 |a::l,h=>by
  have h1:=h a (AD ..)
  have h2:=zB_ g B l λb hb=>h b (AC _ hb)
  rw[BW,AE,Am,Cs]
  lia
theorem xP_:∀(n:Nat)(l:List Int),(zA_ n l).length<=bnd l.length
 |0,l=>by simp [zA_]
 |n+1,l=>by
  by_cases c:l=[]
  ·subst c
   rw[yO_]
   exact AF _
  ·rw[yh_ n l c]
   obtain⟨k,hk⟩:∃k,l.length=k+1:=⟨l.length-1,by have:=List.length_pos_iff.mpr c;omega⟩
   refine Ac (zB_ _ (bnd k) _ λi hi=>?_) ?_
   ·have hi:=Ar.mp hi
    unfold jQ_
    split
    ·exact An _
    ·rw[AA]
     have:=xP_ n (l.take i++l.drop (i+1))
     rwa [AE,AW,Au,show min i l.length+(l.length-(i+1))=k by omega]at this
   ·rw[A0,hk]
    exact AF _
theorem aj2_{α β:Type}(g:α->List β):∀{l:List α}{i:Nat}{a:α},l[i]?=some a->(l.take (i+1)).flatMap g=(l.take i).flatMap g++g a:=λ{l i a} h=>by
 rw[qI_ h,Be,Bp]
theorem ajc_{α β:Type}(g:α->List β)(l:List α)(i:Nat):((l.take i).flatMap g).length<=(l.flatMap g).length:=by
 have:l.flatMap g=(l.take i).flatMap g++(l.drop i).flatMap g:=by rw[<-Be,BI]
 rw[this,AE]
 omega
theorem xv_{H H':Hp}{l:Addr}(h:H l=none)(e:Same H H')(o:HO):Same H (upd H' l o):=λb u q=>by rw[qk_ (qn_ q h)];exact e b u q
theorem jp_{H:Hp}{l:Addr}{xs:List V}(h:H l=some (.lst xs))(o:HO):Tups H (upd H l o):=λp ys q=>by
 rw[qk_ (zH_ q h (by intro z;cases z))];exact q
theorem ak0_{r:List Int}{i:Nat}{v:V}(h:(r.map V.int)[i]?=some v):v=.int (r.getD i 0)/\i<r.length:=by
 rw[AV]at h
 rw[AO]
 cases e:r[i]? with
 |none=>rw[e]at h;cases h
 |some c=>rw[e]at h;exact⟨(AZ h).symm,(AX.mp e).1⟩
abbrev nOr:List Str:=["numbers", "found", "place", "number", "rest"]
theorem scOr:FnScope nOr ["numbers"] (qh_ sOr):=⟨rfl,rfl,rfl,by decide +kernel,rfl,by decide +kernel,by decide +kernel⟩
def vH_(n:Nat):Sp:=λvs H Q _=>∃(p:Addr)(l:List Int),vs=[.ref p]/\H p=some (.tup (l.map V.int))/\l.length<n/\l.length<=4 /\
 ∀(a:Addr)(H':Hp),H a=none->Same H H'->LstAt H' a (zA_ n l)->Q (.ref a) H'
theorem apc_{n:Nat}(F:Fun K "orders" "orders" sOr f fd)(G:FnOk P w K mg base CX0 n f fd ["numbers"] (vH_ n))(bF:Binds K fd ["numbers"] [])(mU:mg "orders" = some (.ref f))(me:mg "enumerate" = none) :
  FnOk P w K mg base CX0 (n+1) f fd ["numbers"] (vH_ (n+1)):=by
 refine F.ok scOr (λvs H Q E h=>?_) (λcdv A outer s H vs Q E hr h=>?_)
 ·obtain⟨p,l,rfl,_⟩:=h
  rfl
 obtain⟨p,l,rfl,hp,hn,h4,q⟩:=h
 have hI:=BN (B2 (by decide:Dat.dep Int+1<=64) _) hr.units
 refine⟨_,qe_ (q0_ (qy_ (acl_ (α:=Int) hI) (pv 0) (qs_ qb_) (qv_ _)) (qf_ (qm_ (qJ_ (qa_ (qs_ qb_) qb_)))) qG_)
  (qe_ (qo_ (i:=1) scOr.nd rfl (Or.inl rfl) (qJ_ qb_))
  (qe_ (qE_ Al rfl (ac7_ .tup rfl me (qa_ (pv 0) qb_)) (zh_ rfl (qp_ (qj_ (i:=2) scOr.nd rfl (Or.inl rfl)) (qp_ (qj_ (i:=3) scOr.nd rfl (Or.inl rfl)) q6_)))
   (qf_ (q0_ (qy_ aas_ (pv 3) (q3_ vg_ (pv 0) zu_ (q5_ (pv 2))) rfl)
    (qf_ (qE_ Al rfl (qz_ (z9_ G hr rfl mU F.kp bF .nil j0_ (qa_ (ql_ zl_ (q3_ vg_ (pv 0) zu_ (q5_ (pv 2))) (q3_ afw_ (pv 0) (q5_ (ql_ qS_ (pv 2) qg_)) zu_)) qb_))) (qj_ (i:=4) scOr.nd rfl (Or.inl rfl))
     (qf_ (qK_ (jM_ BK BF BG q7_ (pv 1) (qa_ (ql_ zl_ (qs_ (qa_ (pv 3) qb_)) (pv 4)) qb_)))))) qG_)))
  (qf_ (qm_ (pv 1))))),?_⟩
 refine⟨_,rfl,(by show 0<=sizeLine;decide),λt0 h0=>?_⟩
 have s0:=qd_ h0 (.tup [])
 refine⟨l,[],zd_ (s0 _ _ hp),zd_ qc_,_,rfl,?_⟩
 by_cases c:l=[]
 ·subst c
  rw[ye_]
  refine xp_ ?_
  refine⟨(by show 0<=sizeLine;decide),λt1 h1=>⟨(by show 1<=sizeLine;decide),λa ha=>?_⟩⟩
  have s1:=qd_ h1 (.tup [])
  have s2:=qd_ ha (.lst [.ref t1])
  refine q a _ (s0.free (s1.free ha)) (s0.trans (s1.trans s2)) ⟨[.ref t1],qc_,?_⟩
  rw[yO_]
  exact .cons (zd_ (r:=[]) (s2 _ _ qc_)) .nil
 have ne:zi_ (Dat.eqb (α:=Int)) l []=false:=Bool.eq_false_iff.mpr λz=>c ((zZ_ Dat.eqb_iff _ _).mp z)
 rw[ne]
 refine ji_ ?_
 refine⟨(by show 0<=sizeLine;decide),λa ha=>?_⟩
 have s1:=s0.trans (qd_ ha (.lst []))
 have fa:H a=none:=s0.free ha
 have tot:=yh_ n l c
 have tl:=xP_ (n+1) l
 have b4:bnd l.length<=24:=by
  have:l.length=0∨l.length=1∨l.length=2∨l.length=3∨l.length=4:=by omega
  rcases this with e|e|e|e|e<;>rw[e]<;>decide
 rw[tot]at tl
 refine⟨_,rfl,p,rfl,⟨_,SqT.of (s1 _ _ hp)⟩,?_⟩
 refine ajs_ (k:=.tup) (xs:=l.map V.int) (λi σ H'=>(∃c2 c3 c4,σ=[some (.ref p),some (.ref a),c2,c3,c4])/\Same H H'/\LstAt H' a (((List.range l.length).take i).flatMap (jQ_ (zA_ n) l))) ?_ ?_ ?_ ?_
 ·exact⟨⟨_,_,_,rfl⟩,s1,[],qc_,by simpa using Paired.nil⟩
 ·rintro i σ H1 ⟨_,sH,_⟩
  exact SqT.of (sH _ _ hp)
 ·rintro i x t σ H1 hx ht ⟨⟨c2,c3,c4,rfl⟩,sH,hL⟩
  obtain⟨rfl,hi⟩:=ak0_ hx
  have s2:=qd_ ht (.tup [.int i,.int (l.getD i 0)])
  refine⟨t,_,rfl,SqT.of qc_,rfl,_,_,rfl,_,_,rfl,rfl,?_⟩
  have hL:=hL.mono s2
  have sH:=sH.trans s2
  generalize upd H1 t (.tup [.int i,.int (l.getD i 0)])=G1 at hL sH
  have nx:=aj2_ (jQ_ (zA_ n) l) (CA hi)
  have nle:=ajc_ (jQ_ (zA_ n) l) (List.range l.length) (i+1)
  rw[nx]at nle
  refine⟨_,rfl,_,rfl,_,rfl,_,rfl,p,l,i,rfl,rfl,rfl,sH _ _ hp,λt2 H2 s2 h2=>⟨_,t2,_,rfl,rfl,h2,_,rfl,?_⟩⟩
  by_cases cm:l.getD i 0∈l.take i
  ·rw[decide_eq_true cm]
   refine ji_ ⟨⟨_,_,_,rfl⟩,sH.trans s2,?_⟩
   rw[nx,show jQ_ (zA_ n) l i=[] from if_pos cm,BP]
   exact hL.mono s2
  rw[decide_eq_false cm]
  refine xp_ ?_
  have eO:jQ_ (zA_ n) l i=(zA_ n (l.take i++l.drop (i+1))).map (l.getD i 0 :: ·):=if_neg cm
  rw[eO]at nx nle
  have sH2:=sH.trans s2
  refine⟨_,rfl,_,rfl,_,rfl,p,l,i,rfl,rfl,rfl,sH2 _ _ hp,λt3 H3 s3 h3=>?_⟩
  refine⟨_,rfl,_,rfl,_,_,rfl,rfl,_,rfl,p,l,i+1,rfl,by rw[Int.natCast_add];rfl,rfl,s3 _ _ (sH2 _ _ hp),λt4 H4 s4 h4'=>?_⟩
  refine zf_ (r:=l.take i) (r':=l.drop (i+1)) (s4 _ _ h3) h4' (small (by rw[AW,Au];omega)) λt5 H5 s5 h5=>?_
  have s25:=s3.trans (s4.trans s5)
  have sH5:=sH2.trans s25
  have lr:(l.take i++l.drop (i+1)).length=l.length-1:=by rw[AE,AW,Au];omega
  refine⟨t5,_,rfl,h5,by omega,by omega,λr H6 fr s6 e6=>?_⟩
  have rl:=yP_ n (l.take i++l.drop (i+1))
  generalize zA_ n (l.take i++l.drop (i+1))=rest at e6 nx nle rl
  obtain⟨vs2,e2,i2⟩:=e6
  have l2:=AQ i2
  have hL6:=(hL.mono s2).mono (s25.trans s6)
  generalize ((List.range l.length).take i).flatMap (jQ_ (zA_ n) l)=pre at hL6 nx nle
  have hra:r≠a:=λz=>by
   obtain⟨zs,ez,_⟩:=(hL.mono s2).mono s25
   rw[z]at fr
   rw[ez]at fr
   cases fr
  refine⟨r,rfl,⟨_,SqL.of e2⟩,?_⟩
  refine qL_ (xs:=vs2) (λj σ H'=>(∃c4,σ=[some (.ref p),some (.ref a),some (.int i),some (.int (l.getD i 0)),c4])/\Same H H'/\H' r=some (.lst vs2)/\Its H' vs2 rest/\LstAt H' a (pre++(rest.take j).map (l.getD i 0 :: ·))) ?_ ?_ ?_ ?_
  ·exact⟨⟨_,rfl⟩,sH5.trans s6,e2,i2,by simpa using hL6⟩
  ·rintro j σ H7 _ ⟨_,_,e3,_⟩
   exact SqL.of e3
  ·rintro j x σ H7 hx ⟨⟨c4,rfl⟩,s7,e3,i3,pv2,eL3,iL3⟩
   obtain⟨row,hrow,hx2⟩:=Paired.get i3 hx
   obtain⟨px,rfl,hpx⟩:=q8_ hx2
   have jl:j<rest.length:=(AX.mp hrow).1
   have len3:pv2.length<sizeLine:=by
    have z:=AQ iL3
    rw[AE,AA,AW]at z
    rw[AE,AA]at nle
    exact zE_ (by omega)
   have rw4:=rl row (Ag hrow)
   refine⟨_,rfl,.inl ⟨rfl,_,SqL.of eL3⟩,_,rfl,(by show 1<=sizeLine;decide),λp8 h8=>⟨_,rfl,?_⟩⟩
   have s8:=qd_ h8 (.tup [.int (l.getD i 0)])
   refine zf_ (r:=[l.getD i 0]) (r':=row) qc_ (s8 _ _ hpx) (small (by show 1+row.length<=100000;omega)) λp9 H9 s9 h9=>?_
   have s89:=s8.trans s9
   have eL4:=s89 _ _ eL3
   have t4:Tups H9 (upd H9 a (.lst (pv2++[.ref p9]))):=jp_ eL4 _
   refine⟨a,pv2,.ref p9,rfl,rfl,eL4,len3,⟨_,rfl⟩,xv_ fa (s7.trans s89) _,?_,Its.mono ((Tups.same s89).trans t4) i3,pv2++[.ref p9],qc_,?_⟩
   ·rw[qk_ hra];exact s89 _ _ e3
   ·rw[qI_ hrow,Aj,<-AY]
    exact CC (Its.mono ((Tups.same s89).trans t4) iL3) (Dat.mono t4 (zd_ h9))
  ·rintro σ H7 ⟨⟨c4,rfl⟩,s7,e3,i3,hL3⟩
   refine⟨⟨_,_,_,rfl⟩,s7,?_⟩
   rw[nx]
   rw[l2,Bj]at hL3
   exact hL3
 ·rintro σ H1 ⟨⟨c2,c3,c4,rfl⟩,sH,hL⟩
  refine⟨_,rfl,q a H1 fa sH ?_⟩
  rw[tot]
  rw[AA,AU (by rw[A0];exact AF _)]at hL
  exact hL
theorem ab5_:FnOk P w K mg base CX0 0 f fd ["numbers"] (vH_ 0):=by
 have no:∀vs H Q E,¬ vH_ 0 vs H Q E:=λvs H Q E h=>by
  obtain⟨p,l,_,_,h1,_⟩:=h
  omega
 exact⟨λvs H Q E h=>absurd h (no vs H Q E),λA outer s H args us vs Q E _ _ _ _ h=>absurd h (no vs H Q E)⟩
theorem agj_(F:Fun K "orders" "orders" sOr f fd)(bF:Binds K fd ["numbers"] [])(mU:mg "orders" = some (.ref f))(me:mg "enumerate" = none):∀n,FnOk P w K mg base CX0 n f fd ["numbers"] (vH_ n)
 |0=>ab5_
 |n+1=>apc_ F (agj_ F bF mU me n) bF mU me
def zq_(r:List Int):Bool:=r.all (λx=>decide (1<=x))&&((List.range (r.length-1)).all λi=>decide (r.getD (i+1) 0<=r.getD i 0))&&decide (r.sum<=8)
abbrev nRb:List Str:=["row"]
abbrev bRb:List Str:=["number"]
abbrev bRb2:List Str:=["number", "later"]
theorem ndRb:bRb.Nodup:=by decide +kernel
theorem akf_:bRb2.Nodup:=by decide +kernel
theorem scRb:FnScope nRb nRb (qh_ sRbr):=⟨rfl,rfl,rfl,by decide +kernel,rfl,by decide +kernel,by decide +kernel⟩
def yv_:Sp:=λvs H Q _=>∃(p:Addr)(r:List Int),vs=[.ref p]/\H p=some (.tup (r.map V.int))/\r.length<=1000/\zq_ r=true/\∀H',Same H H'->Q .non H'
theorem al7_(r:List Int):(r.map λx=>decide (x<1)).any id=!(r.all λx=>decide (1<=x)):=by
 induction r with
 |nil=>rfl
 |cons x r ih =>
  rw[Ae,Bn,Cc,ih,Bool.not_and]
  have:id (decide (x<1))=!decide (1<=x):=by
   by_cases c:x<1
   ·simp [c]
   ·simp [c,show 1<=x by omega]
  rw[this]
theorem ai1_(l:List Nat)(r:List Int):(l.map λi=>decide (r.getD i 0<r.getD (i+1) 0)).any id=!(l.all λi=>decide (r.getD (i+1) 0<=r.getD i 0)):=by
 induction l with
 |nil=>rfl
 |cons i l ih =>
  rw[Ae,Bn,Cc,ih,Bool.not_and]
  have:id (decide (r.getD i 0<r.getD (i+1) 0))=!decide (r.getD (i+1) 0<=r.getD i 0):=by
   by_cases c:r.getD i 0<r.getD (i+1) 0
   ·rw[decide_eq_true c,decide_eq_false (by omega)];rfl
   ·rw[decide_eq_false c,decide_eq_true (by omega)];rfl
  rw[this]
theorem ag5_{r:List Int}{i:Nat}{v:V}(h:(r.map V.int)[i]?=some v):v=.int (r.getD i 0)/\i<r.length:=by
 rw[AV]at h
 rw[AO]
 cases e:r[i]? with
 |none=>rw[e]at h;cases h
 |some c=>rw[e]at h;exact⟨(AZ h).symm,(AX.mp e).1⟩
theorem amt_{tk:Tok}(F:Fun K "refuse_bad_row" "refuse_bad_row" sRbr f fd)(gU:mg "MOST_TOGETHER" = some (.int 8 tk))(ma:mg "any" = none)(mz:mg "zip" = none)(ms:mg "sum" = none):FnOk P w K mg base CX0 2 f fd nRb yv_:=by
 refine F.ok scRb (λvs H Q E h=>?_) (λcdv A outer s H vs Q E hr h=>?_)
 ·obtain⟨p,r,rfl,_⟩:=h
  rfl
 obtain⟨p,r,rfl,hp,hl,hB,q⟩:=h
 have e:zq_ r=false->False:=λz=>by rw[hB]at z;cases z
 refine⟨_,qe_ (q0_ (vo_ (qD_ (aab_ rfl) rfl ma EN (qa_ (qN_ (N':=bRb) (src:=[none]) rfl (jB_ (pv 0)) (zb_ (qh_ sRbr) nRb (by decide +kernel))
    (λb=>qj_ (i:=0) ndRb rfl (Or.inl rfl)) (λb=>qX_) (λb=>jC_ aav_ (pv 0) qg_ (qv_ _))) qb_))) (qf_ jj_) qG_)
  (qe_ (q0_ (vo_ (qD_ (aab_ rfl) rfl ma EN (qa_ (qN_ (N':=bRb2) (src:=[none,none]) rfl (agd_ .tup .tup rfl mz (qa_ (pv 0) (qa_ (q3_ alj_ (pv 0) (q5_ qg_) zu_) qb_))) (zb_ (qh_ sRbr) nRb (by decide +kernel))
    (λb=>zh_ rfl (qp_ (qj_ (i:=0) akf_ rfl (Or.inl rfl)) (qp_ (qj_ (i:=1) akf_ rfl (Or.inl rfl)) q6_))) (λb=>qX_) (λb=>jC_ j1_ (pv 1) (pv 0) (qv_ _))) qb_))) (qf_ jj_) qG_)
  (qf_ (q0_ (qy_ j1_ (qD_ (z1_ rfl) rfl ms BU (qa_ (pv 0) qb_)) (ade_ (v:=.int 8) rfl gU ⟨_,rfl⟩) (qv_ _)) (qf_ jj_) qG_))),?_⟩
 refine⟨_,rfl,p,rfl,⟨_,SqT.of hp⟩,λbk D hD=>?_⟩
 refine xc_ (α:=Bool) hD (SqT.of hp) (λσ=>∃c,σ=[c]) (λi=>(r[i]?).bind λx=>some (decide (x<1))) (small (by rw[AA];omega)) ?_ ?_ ?_
 ·exact⟨_,rfl⟩
 ·rintro i v σ H2 Yes No hv ⟨c,rfl⟩ s3 yes no
  obtain⟨x,hx,rfl⟩:∃x,r[i]?=some x/\V.int x=v:=by
   rw[AV]at hv
   cases e:r[i]? with
   |none=>rw[e]at hv;cases hv
   |some y=>rw[e]at hv;exact⟨y,rfl,AZ hv⟩
  refine zV_ ?_
  refine⟨_,rfl,_,_,rfl,rfl,?_⟩
  exact yes _ _ _ _ ⟨_,rfl⟩ (λ_ _ e=>e) (by rw[hx];rfl) rfl
 rintro H1 s1 ⟨ws,eD,iD⟩
 have e0:(List.range (r.map V.int).length).filterMap (λi=>(r[i]?).bind λx=>some (decide (x<1)))=r.map λx=>decide (x<1):=by
  rw[AA,qT_,Aw]
 rw[aak_ iD,e0]at eD
 refine⟨D,_,rfl,SqL.of eD,_,rfl,?_⟩
 rw[al7_]
 cases c1:r.all λx=>decide (1<=x) with
 |false=>exact xp_ (e (by unfold zq_;rw[c1];rfl))
 |true =>
 refine ji_ ?_
 have hp1:=s1 _ _ hp
 refine⟨_,rfl,_,rfl,1,rfl,p,r,rfl,rfl,rfl,hp1,λt H2 s2 ht=>⟨p,t,rfl,⟨_,SqT.of (s2 _ _ hp1)⟩,⟨_,SqT.of ht⟩,λbk2 D2 hD2=>?_⟩⟩
 refine aa7_ (α:=Bool) (k1:=.tup) (k2:=.tup) hD2 (SqT.of (s2 _ _ hp1)) (SqT.of ht) (λσ=>∃c d,σ=[c,d]) (λi=>some (decide (r.getD i 0<r.getD (i+1) 0))) (small (by rw[AA,AA];omega)) ?_ ?_ ?_
 ·exact⟨_,_,rfl⟩
 ·rintro i x y p2 σ H3 Yes No hx hy h2 ⟨c,d,rfl⟩ s3 yes no
  obtain⟨rfl,_⟩:=ag5_ hx
  obtain⟨rfl,_⟩:=ag5_ hy
  refine⟨p2,_,rfl,SqT.of qc_,rfl,_,_,rfl,_,_,rfl,rfl,?_⟩
  refine yV_ ?_
  refine⟨_,rfl,_,rfl,_,_,rfl,rfl,?_⟩
  refine yes _ _ _ _ ⟨_,_,rfl⟩ (qd_ h2 _) rfl ?_
  show V.bl (decide (r.getD i 0<(r.drop 1).getD i 0))=V.bl (decide (r.getD i 0<r.getD (i+1) 0))
  rw[show(r.drop 1).getD i 0=r.getD (i+1) 0 by rw[AO,DP,AO,Ef 1 i]]
 rintro H4 s4 ⟨ws2,eD2,iD2⟩
 have e1:(List.range (min (r.map V.int).length ((r.drop 1).map V.int).length)).filterMap (λi=>some (decide (r.getD i 0<r.getD (i+1) 0)))=(List.range (r.length-1)).map λi=>decide (r.getD i 0<r.getD (i+1) 0):=by
  rw[AA,AA,Au,Ck (by omega),Aw]
 rw[aak_ iD2,e1]at eD2
 have s14:=s1.trans (s2.trans s4)
 refine⟨D2,_,rfl,SqL.of eD2,_,rfl,?_⟩
 rw[ai1_]
 cases c2:(List.range (r.length-1)).all λi=>decide (r.getD (i+1) 0<=r.getD i 0) with
 |false=>exact xp_ (e (by unfold zq_;rw[c1,c2];rfl))
 |true =>
 refine ji_ ?_
 refine⟨_,rfl,p,r,rfl,SqT.of (s14 _ _ hp),_,_,rfl,rfl,_,rfl,?_⟩
 by_cases c3:8<r.sum
 ·exact xX_ c3 (e (by unfold zq_;rw[c1,c2,decide_eq_false (by omega)];rfl))
 ·exact jV_ c3 (q _ s14)
abbrev nEx:List Str:=["many", "row"]
abbrev bEx:List Str:=["powers"]
theorem ndEx:bEx.Nodup:=by decide +kernel
theorem scEx:FnScope nEx nEx (qh_ sEx):=⟨rfl,rfl,rfl,by decide +kernel,rfl,by decide +kernel,by decide +kernel⟩
def exch(n:Nat)(r:List Int):List Mon:=(zA_ 5 (r++List.replicate (n-r.length) 0)).map λq=>(q,1)
def spEx:Sp:=λvs H Q _=>∃(n:Nat)(p:Addr)(r:List Int),vs=[.int n,.ref p]/\1<=n/\n<=4/\H p=some (.tup (r.map V.int))/\r.length<=n/\zq_ r=true/\∀(a:Addr)(H':Hp),H a=none->Same H H'->LstAt H' a (exch n r)->Q (.ref a) H'
theorem xD_(k:Nat):(List.replicate k [(0:Int)]).flatten=List.replicate k 0:=by
 induction k with
 |zero=>rfl
 |succ k ih=>rw[Ap,BV,ih,Ap];rfl
theorem apb_(F:Fun K "exchange_sum" "exchange_sum" sEx f fd)(GR:Has P w K mg base 5 "refuse_bad_row" nRb yv_)(GC:Has P w K mg base 5 "refuse_bad_count" ["many"] yI_)(GO:Has P w K mg base 5 "orders" ["numbers"] (vH_ 5))(mn:mg "len" = none):FnOk P w K mg base CX0 6 f fd nEx spEx:=by
 refine F.ok scEx (λvs H Q E h=>?_) (λcdv A outer s H vs Q E hr h=>?_)
 ·obtain⟨n,p,r,rfl,_⟩:=h
  rfl
 obtain⟨n,p,r,rfl,n1,n4,hp,hl,hB,q⟩:=h
 refine⟨_,qe_ (qK_ (qi_ GR hr rfl (qa_ (pv 1) qb_))) (qe_ (qK_ (qi_ GC hr rfl (qa_ (pv 0) qb_)))
  (qe_ (q0_ (qy_ j1_ (qD_ q4_ rfl mn B6 (qa_ (pv 1) qb_)) (pv 0) (qv_ _)) (qf_ jj_) qG_)
  (qf_ (qm_ (qN_ (N':=bEx) (src:=[none]) rfl (qz_ (qi_ GO hr rfl (qa_ (ql_ zl_ (pv 1) (ql_ z5_ (qs_ (qa_ qg_ qb_)) (ql_ zD_ (pv 0) (qD_ q4_ rfl mn B6 (qa_ (pv 1) qb_))))) qb_))) (zb_ (qh_ sEx) nEx (by decide +kernel))
   (λb=>qj_ (i:=0) ndEx rfl (Or.inl rfl)) (λb=>qX_) (λb=>qs_ (qa_ (pv 0) (qa_ qg_ qb_)))))))),?_⟩
 refine⟨_,rfl,p,r,rfl,hp,by omega,hB,λH1 s1=>?_⟩
 refine⟨_,rfl,n,rfl,by omega,by omega,?_⟩
 have hp1:=s1 _ _ hp
 refine⟨_,rfl,p,_,rfl,.inr (SqT.of hp1),_,rfl,_,_,rfl,rfl,_,rfl,jV_ (by rw[AA];omega) ?_⟩
 refine⟨_,rfl,(by show 1<=sizeLine;decide),λt0 h0=>?_⟩
 have s0:=qd_ h0 (.tup [.int 0])
 refine⟨_,rfl,_,rfl,p,_,rfl,.inr (SqT.of (s0 _ _ hp1)),_,_,rfl,rfl,t0,[0],_,rfl,rfl,qc_,by simp,by rw[AA];omega,by rw[AA];omega,small (by rw[AA];show 1*_<=100000;omega),λt2 H2 s2 h2=>?_⟩
 rw[xD_,AA,show((n:Int)-(r.length:Int)).toNat=n-r.length by omega]at h2
 refine zf_ (r:=r) (r':=List.replicate (n-r.length) 0) (s2 _ _ (s0 _ _ hp1)) h2 (small (by rw[As];omega)) λt3 H3 s3 h3=>?_
 have l4:(r++List.replicate (n-r.length) (0:Int)).length=n:=by rw[AE,As];omega
 refine⟨t3,_,rfl,h3,by omega,by omega,λa H4 ha s4 hL=>?_⟩
 have sH:=s1.trans (s0.trans (s2.trans (s3.trans s4)))
 have ol:=xP_ 5 (r++List.replicate (n-r.length) 0)
 rw[l4]at ol
 have b4:bnd n<=24:=by
  have:n=1∨n=2∨n=3∨n=4:=by omega
  rcases this with e|e|e|e<;>rw[e]<;>decide
 unfold exch at q
 generalize zA_ 5 (r++List.replicate (n-r.length) 0)=os at hL q ol
 obtain⟨vs,eL,iL⟩:=hL
 have lv:=AQ iL
 refine⟨a,rfl,⟨_,SqL.of eL⟩,λbk D hD=>?_⟩
 refine zG_ (α:=Mon) hD (SqL.of eL) (λσ=>∃c,σ=[c]) (λi=>(os[i]?).bind λx=>some (x,1)) (small (by omega)) ?_ ?_ ?_
 ·exact⟨_,rfl⟩
 ·rintro i v σ H5 Yes No hv ⟨c,rfl⟩ s5 yes no
  obtain⟨x,hx,hi⟩:=qV_ iL hv
  obtain⟨px,rfl,hpx⟩:=q8_ hi
  refine zV_ ?_
  refine⟨_,rfl,(by show 2<=sizeLine;decide),λt6 h6=>?_⟩
  have s6:=qd_ h6 (.tup [.ref px,.int 1])
  exact yes _ _ _ (x,1) ⟨_,rfl⟩ s6 (by rw[hx];rfl) (zo_ (t:=(x,1)) qc_ (s6 _ _ (s5 _ _ hpx)))
 intro H7 s7 h7
 have e:(List.range vs.length).filterMap (λi=>(os[i]?).bind λx=>some (x,(1:Int)))=os.map λq=>(q,1):=by
  rw[lv,qT_,Aw]
 rw[e]at h7
 exact q D H7 (sH.free hD) (sH.trans s7) h7
def zR_(x:Int)(s:List Int):List (List Int):=(List.range (s.length+1)).map λk=>s.take k++[x]++s.drop k
def yR_(ks:List Pw)(k:Pw):List Pw:=if k∈ks then ks else ks++[k]
def zT_(ks l:List Pw):List Pw:=l.foldl yR_ ks
theorem xq_(ks l:List Pw)(k:Pw):zT_ ks (l++[k])=yR_ (zT_ ks l) k:=by
 unfold zT_
 rw[Bq]
 rfl
theorem aiq_(ks:List Pw)(k:Pw):(yR_ ks k).length<=ks.length+1:=by
 unfold yR_
 split
 ·omega
 ·rw[AE,Aq];omega
theorem vq_(ks:List Pw):∀l:List Pw,(zT_ ks l).length<=ks.length+l.length:=by
 refine zI_ (AF _) λl k ih=>?_
 rw[xq_,AE,Aq]
 have:=aiq_ (zT_ ks l) k
 omega
def q9_(found:List Pw)(x:Int):List Pw:=zT_ [] (found.flatMap (zR_ x))
def xn_(n:Nat)(r:List Int):List Pw:=(r++List.replicate (n-r.length) 0).foldl q9_ [[]]
theorem aeu_{k:Pw}:∀l:List Pw,k∈zT_ [] l->k∈l:=by
 refine zI_ (λh=>by simp [zT_]at h) λl x ih h=>?_
 rw[xq_]at h
 unfold yR_ at h
 split at h
 ·exact At _ (ih h)
 ·rcases Ai.mp h with h|h
  ·exact At _ (ih h)
  ·exact Af _ h
theorem ac8_:∀zs:List Int,(zs.foldl q9_ [[]]).length<=bnd zs.length/\∀s∈zs.foldl q9_ [[]],s.length=zs.length:=by
 refine zI_ ⟨AF _,λs hs=>by rw[AT.mp hs]⟩ λzs x ih=>?_
 obtain⟨a,b⟩:=ih
 rw[Bq,AE,Aq]
 show(q9_ (zs.foldl q9_ [[]]) x).length<=_/\∀s∈q9_ (zs.foldl q9_ [[]]) x,_
 refine⟨?_,λs hs=>?_⟩
 ·have h1:=vq_ [] ((zs.foldl q9_ [[]]).flatMap (zR_ x))
  have h2:=zB_ (zR_ x) (zs.length+1) (zs.foldl q9_ [[]]) λs hs=>by
   unfold zR_
   rw[AA,A0,b s hs]
   exact AF _
  have h3:=CO (zs.length+1) a
  have h4:bnd (zs.length+1)=(zs.length+1)*bnd zs.length:=rfl
  show(zT_ [] ((zs.foldl q9_ [[]]).flatMap (zR_ x))).length<=_
  rw[h4,Ct]
  simp only[CI]at h1
  omega
 ·obtain⟨u,hu,hs⟩:=BE.mp (aeu_ _ hs)
  obtain⟨k,hk,rfl⟩:=AR.mp hs
  have hk:=Ar.mp hk
  rw[AE,AE,AW,Au,Aq,<-b u hu]
  omega
theorem alv_(ks:List Pw)(k:Pw):zr_ (toB ks) (k.map Sum.inl) (V.bl true)=toB (yR_ ks k):=by
 have ea:((toB ks).any λkv=>decide (kv.1=k.map Sum.inl))=decide (k∈ks):=by
  unfold toB
  rw[Ej]
  induction ks with
  |nil=>rfl
  |cons x r ih =>
   rw[Bn,ih]
   show(decide ((x.map Sum.inl:List Key)=k.map Sum.inl)||_)=_
   by_cases e:x=k
   ·subst e
    rw[decide_eq_true rfl,decide_eq_true (AD ..)]
    rfl
   ·rw[decide_eq_false λz=>e (xw_ z)]
    by_cases c:k∈r
    ·rw[decide_eq_true c,decide_eq_true (AC _ c)];rfl
    ·rw[decide_eq_false c,decide_eq_false λz=>(AL.mp z).elim (λz=>e z.symm) c];rfl
 unfold zr_ yR_
 rw[ea]
 by_cases c:k∈ks
 ·rw[if_pos (decide_eq_true c),if_pos c]
  unfold toB
  rw[B4]
  apply B9
  intro t _
  simp only[Function.comp]
  split<;>rfl
 ·rw[if_neg (by rw[decide_eq_false c];decide),if_neg c]
  unfold toB
  rw[Aj]
  rfl
abbrev nLo:List Str:=["_law_numbers", "_law_found", "_law_number", "_law_longer", "_law_some", "_law_k"]
theorem scLo:FnScope nLo ["_law_numbers"] (qh_ aff_):=⟨rfl,rfl,rfl,by decide +kernel,rfl,by decide +kernel,by decide +kernel⟩
def spLo:Sp:=λvs H Q _=>∃(a:Addr)(zs:List Int),vs=[.ref a]/\H a=some (.lst (zs.map V.int))/\zs.length<=4/\∀(l:Addr)(H':Hp),H l=none->Same H H'->LstAt H' l (zs.foldl q9_ [[]])->Q (.ref l) H'
theorem al6_(F:Fun K "_law_orders" "_law_orders" aff_ f fd)(ml:mg "list" = none)(mr:mg "range" = none)(mn:mg "len" = none):FnOk P w K mg base CX0 2 f fd ["_law_numbers"] spLo:=by
 refine F.ok scLo (λvs H Q E h=>?_) (λcdv A outer s H vs Q E hr h=>?_)
 ·obtain⟨a,zs,rfl,_⟩:=h
  rfl
 obtain⟨l1,zs,rfl,hz,hl,q⟩:=h
 have hu:=aa3_ hr
 refine⟨_,qe_ (qo_ (i:=1) scLo.nd rfl (Or.inl rfl) (qJ_ (qa_ (qs_ qb_) qb_)))
  (qe_ (qE_ Al rfl (qz_ (pv 0)) (qj_ (i:=2) scLo.nd rfl (Or.inl rfl))
   (qe_ (qo_ (i:=3) scLo.nd rfl (Or.inl rfl) yX_)
   (qe_ (qE_ Al rfl (qz_ (pv 1)) (qj_ (i:=4) scLo.nd rfl (Or.inl rfl))
    (qf_ (qE_ Al rfl (zw_ rfl mr (qa_ (ql_ qS_ (qD_ q4_ rfl mn B6 (qa_ (pv 4) qb_)) qg_) qb_)) (qj_ (i:=5) scLo.nd rfl (Or.inl rfl))
     (qf_ (vy_ hu (pv 3) (ql_ zl_ (ql_ zl_ (q3_ vg_ (pv 4) zu_ (q5_ (pv 5))) (qs_ (qa_ (pv 2) qb_))) (q3_ afw_ (pv 4) (q5_ (pv 5)) zu_)) x0_ rfl)))))
   (qf_ (qo_ (i:=1) scLo.nd rfl (Or.inl rfl) (qO_ (ad9_ rfl) rfl ml EC (qa_ (pv 3) qb_)))))))
  (qf_ (qm_ (pv 1)))),?_⟩
 refine⟨(by show 0<=sizeLine;decide),λe0 h0=>⟨(by show 1<=sizeLine;decide),λl0 h1=>?_⟩⟩
 have s0:=qd_ h0 (.tup [])
 have s1:=qd_ h1 (.lst [.ref e0])
 have sA:=s0.trans s1
 have hz4:=sA _ _ hz
 have hl0:upd (upd H e0 (.tup [])) l0 (.lst [.ref e0]) l0=some (.lst [.ref e0]):=qc_
 have he0:upd (upd H e0 (.tup [])) l0 (.lst [.ref e0]) e0=some (.tup []):=s1 _ _ qc_
 have fl0:H l0=none:=s0.free h1
 show jy_ 1 (.ref l0) _ (upd (upd H e0 (.tup [])) l0 (.lst [.ref e0])) _
 generalize upd (upd H e0 (.tup [])) l0 (.lst [.ref e0])=G at *
 refine⟨_,rfl,l1,rfl,⟨_,SqL.of hz4⟩,?_⟩
 refine qL_ (xs:=zs.map V.int) (λi σ H'=>(∃(l:Addr)(c3 c4 c5 c6:Option V),σ=[some (.ref l1),some (.ref l),c3,c4,c5,c6]/\LstAt H' l ((zs.take i).foldl q9_ [[]])/\H l=none)/\Same G H') ?_ ?_ ?_ ?_
 ·exact⟨⟨l0,_,_,_,_,rfl,⟨[.ref e0],hl0,.cons (zd_ (r:=[]) he0) .nil⟩,fl0⟩,λ_ _ e=>e⟩
 ·rintro i σ H5 _ ⟨_,s5⟩
  exact SqL.of (s5 _ _ hz4)
 ·rintro i v σ H5 hv ⟨⟨l,c3,c4,c5,c6,rfl,⟨vs,eL,iL⟩,fl⟩,s5⟩
  obtain⟨x,hx,rfl⟩:∃x,zs[i]?=some x/\V.int x=v:=by
   rw[AV]at hv
   cases e:zs[i]? with
   |none=>rw[e]at hv;cases hv
   |some y=>rw[e]at hv;exact⟨y,rfl,AZ hv⟩
  have hi:i<zs.length:=(AX.mp hx).1
  obtain⟨al,am⟩:=ac8_ (zs.take i)
  rw[AW,Bh (by omega)]at al am
  have b4:bnd i<=24:=by
   have:i=0∨i=1∨i=2∨i=3:=by omega
   rcases this with e|e|e|e<;>rw[e]<;>decide
  have nx:(zs.take (i+1)).foldl q9_ [[]]=zT_ [] (((zs.take i).foldl q9_ [[]]).flatMap (zR_ x)):=by
   rw[qI_ hx,Bq]
   rfl
  rw[nx]
  generalize (zs.take i).foldl q9_ [[]]=fs at al am iL
  have lv:=AQ iL
  intro d hd
  have s6:Same H5 (upd H5 d (.dT [])):=qd_ hd _
  refine⟨_,rfl,l,rfl,⟨_,SqL.of (s6 _ _ eL)⟩,?_⟩
  refine qL_ (xs:=vs) (λj σ H'=>(∃c5 c6,σ=[some (.ref l1),some (.ref l),some (.int x),some (.ref d),c5,c6])/\H' d=some (.dT (toB (zT_ [] ((fs.take j).flatMap (zR_ x)))))/\Same H5 H') ?_ ?_ ?_ ?_
  ·exact⟨⟨_,_,rfl⟩,qc_,s6⟩
  ·rintro j σ H6 _ ⟨_,_,s7⟩
   exact SqL.of (s7 _ _ eL)
  ·rintro j v σ H6 hv ⟨⟨c5,c6,rfl⟩,hd6,s7⟩
   obtain⟨u,hu',hi2⟩:=qV_ iL hv
   obtain⟨pu,rfl,hpu⟩:=q8_ hi2
   have lu:=am u (Ag hu')
   have ln1:=zB_ (zR_ x) 4 (fs.take j) λs hs=>by
    unfold zR_
    rw[AA,A0,am s (BC hs)]
    omega
   rw[AW]at ln1
   refine⟨_,rfl,pu,_,rfl,.inr (SqT.of (s7 _ _ hpu)),_,_,rfl,rfl,_,rfl,by rw[AA];omega,by rw[AA];omega,?_⟩
   rw[AA,show((u.length:Int)+1).toNat=u.length+1 by omega]
   refine z3_ (lo:=0) (n:=u.length+1) (λe σ H'=>(∃c6,σ=[some (.ref l1),some (.ref l),some (.int x),some (.ref d),some (.ref pu),c6])/\H' d=some (.dT (toB (zT_ [] ((fs.take j).flatMap (zR_ x)++(List.range e).map λk=>u.take k++[x]++u.drop k))))/\Same H5 H') ?_ ?_ ?_
   ·refine⟨⟨_,rfl⟩,?_,s7⟩
    rw[List.range_zero,CF,BP]
    exact hd6
   ·rintro e σ H7 he ⟨⟨c6,rfl⟩,hd7,s8⟩
    rw[B8]
    have hpu7:=s8 _ _ hpu
    refine⟨_,rfl,_,rfl,_,rfl,_,rfl,pu,u,e,rfl,rfl,rfl,hpu7,λt1 G1 g1 e1=>?_⟩
    refine⟨_,rfl,(by show 1<=sizeLine;decide),λt2 h2'=>?_⟩
    have g2:=qd_ h2' (.tup [.int x])
    refine zf_ (r:=u.take e) (r':=[x]) (g2 _ _ e1) qc_ (small (by rw[AW];show _+1<=100000;omega)) λt3 G3 g3 e3=>?_
    have g13:=g1.trans (g2.trans g3)
    refine⟨_,rfl,_,rfl,_,rfl,pu,u,e,rfl,rfl,rfl,g13 _ _ hpu7,λt4 G4 g4 e4=>?_⟩
    refine zf_ (r:=u.take e++[x]) (r':=u.drop e) (g4 _ _ e3) e4 (small (by rw[AE,AW,Au,Aq];omega)) λt5 G5 g5 e5=>?_
    have gA:=g13.trans (g4.trans g5)
    have hd8:=gA _ _ hd7
    have la:=vq_ [] ((fs.take j).flatMap (zR_ x)++(List.range e).map λk=>u.take k++[x]++u.drop k)
    rw[AE,AA,A0,CI]at la
    refine⟨d,_,rfl,DPut.t (k:=(u.take e++[x]++u.drop e).map Sum.inl) hd8 (by rw[jf_];exact e5) ?_,?_⟩
    ·rw[adj_]
     exact zE_ (by omega)
    ·refine⟨⟨_,rfl⟩,?_,λb o e'=>?_⟩
     ·have er:(List.range (e+1)).map (λk=>u.take k++[x]++u.drop k)=(List.range e).map (λk=>u.take k++[x]++u.drop k)++[u.take e++[x]++u.drop e]:=by
       rw[BZ,Aj]
       rfl
      rw[er,<-AY ((fs.take j).flatMap (zR_ x)),xq_,<-alv_]
      exact qc_
     ·rw[qk_ (qn_ e' hd)]
      exact gA _ _ (s8 b o e')
   ·rintro σ H7 ⟨⟨c6,rfl⟩,hd7,s8⟩
    refine⟨⟨_,_,rfl⟩,?_,s8⟩
    rw[qI_ hu',Be,Bp]
    exact hd7
  ·rintro σ H6 ⟨⟨c5,c6,rfl⟩,hd6,s7⟩
   rw[AU (show fs.length<=vs.length by omega)]at hd6
   refine⟨_,rfl,d,_,rfl,hd6,λl7 vs7 h7 i7=>?_⟩
   have s8:=qd_ h7 (.lst vs7)
   exact⟨⟨l7,_,_,_,_,rfl,⟨vs7,qc_,Its.mono (Tups.same s8) i7⟩,sA.free (s5.free (s7.free h7))⟩,s5.trans (s7.trans s8)⟩
 ·rintro σ H5 ⟨⟨l,c3,c4,c5,c6,rfl,hL,fl⟩,s5⟩
  rw[AA,Bj]at hL
  exact⟨_,rfl,q l H5 fl (sA.trans s5) hL⟩
abbrev nT:List Str:=["_law_cell_here", "_law_k", "_law_many", "_law_number"]
theorem scT:FnScope nT ["_law_cell_here", "_law_k", "_law_many"] (qh_ abv_):=⟨rfl,rfl,rfl,by decide +kernel,rfl,by decide +kernel,by decide +kernel⟩
def yE_:Sp:=λvs H Q _=>∃c k m:Int,vs=[.int c,.int k,.int m]/\0<=k/\k<=100000/\0<m/\Q (.int (zJ_ c k m)) H
theorem aj0_(F:Fun K "_law_thing" "_law_thing" abv_ f fd):FnOk P w K mg base CX0 2 f fd ["_law_cell_here", "_law_k", "_law_many"] yE_:=by
 refine F.ok scT (λvs H Q E h=>?_) (λcdv A outer s H vs Q E hr h=>?_)
 ·obtain⟨c,k,m,rfl,_⟩:=h
  rfl
 obtain⟨c,k,m,rfl,k0,k1,m0,q⟩:=h
 refine⟨_,qe_ (qo_ (i:=3) scT.nd rfl (Or.inl rfl) (ql_ j8_ (ql_ qS_ (ql_ qS_ (ql_ z2_ (ql_ j8_ (pv 0) qg_) qg_) (ql_ z2_ (ql_ z2_ qg_ (pv 1)) (pv 1))) (ql_ z2_ qg_ (pv 1))) qg_))
  (qf_ (qm_ (ql_ j8_ (ql_ j8_ (ql_ z2_ (pv 3) (pv 3)) qg_) (pv 2)))),?_⟩
 have z0:0<=(c%2147483647*48271+69621*k*k+7*k)%2147483629:=D0 _ (by decide)
 have z1:(c%2147483647*48271+69621*k*k+7*k)%2147483629<2147483629:=DT _ (by decide)
 refine⟨_,rfl,_,_,rfl,rfl,(by show(0:Int)<2147483647;decide),_,_,rfl,rfl,.inr ⟨by decide,by decide⟩,_,rfl,_,_,rfl,rfl,.inl ⟨by decide,by decide⟩,_,rfl,_,_,rfl,rfl,.inr ⟨?_,?_⟩,_,_,rfl,rfl,_,rfl,_,_,rfl,rfl,.inl ⟨by decide,by decide⟩,_,_,rfl,rfl,_,_,rfl,rfl,(by show(0:Int)<2147483629;decide),?_⟩
 ·show -(2^64)<k;omega
 ·show k<2^64;omega
 refine⟨_,rfl,_,rfl,_,_,rfl,rfl,.inl ⟨?_,?_⟩,_,_,rfl,rfl,(by show(0:Int)<2147483587;decide),_,rfl,_,_,rfl,rfl,m0,q⟩
 ·show -(2^64)<_%_;omega
 ·show _%_<(2^64:Int);omega
abbrev pP:List Str:=["_law_cell_here", "_law_far", "_law_many", "_law_weight"]
abbrev nP:List Str:=["_law_cell_here", "_law_far", "_law_many", "_law_weight", "_law_found", "_law_left", "_law_k", "_law_turn"]
theorem scP:FnScope nP pP (qh_ sPow):=⟨rfl,rfl,rfl,by decide +kernel,rfl,by decide +kernel,by decide +kernel⟩
def ad8_:Sp:=λvs H Q _=>∃(c far w:Int)(n:Nat),vs=[.int c,.int far,.int n,.int w]/\1<=n/\n<=100/\0<=far/\far<=500/\0<=w/\w<=100000/\∀p H',Same H H'->H' p=some (.tup ((zF_ c far w n).map V.int))->Q (.ref p) H'
theorem aoj_(F:Fun K "_law_powers" "_law_powers" sPow f fd)(G:FnOk P w K mg base CX0 2 g gd ["_law_cell_here", "_law_k", "_law_many"] yE_)(bT:Binds K gd ["_law_cell_here", "_law_k", "_law_many"] [])(kT:PySem.W.keepIn K (.ref g)=true)(mT:mg "_law_thing" = some (.ref g))
  (mr:mg "range" = none) (mt:mg "tuple" = none):FnOk P w K mg base CX0 3 f fd pP ad8_:=by
 refine F.ok scP (λvs H Q E h=>?_) (λcdv A outer s H vs Q E hr h=>?_)
 ·obtain⟨c,far,w,n,rfl,_⟩:=h
  rfl
 obtain⟨c,far,w,n,rfl,n1,n2,f0,f1,w0,w1,q⟩:=h
 refine⟨_,qe_ (qo_ (i:=4) scP.nd rfl (Or.inl rfl) (qJ_ qb_))
  (qe_ (qo_ (i:=5) scP.nd rfl (Or.inl rfl) (pv 3))
  (qe_ (qE_ Al rfl (zw_ rfl mr (qa_ (pv 2) qb_)) (qj_ (i:=6) scP.nd rfl (Or.inl rfl))
   (qe_ (qK_ (jM_ BK BF BG q7_ (pv 4) (qa_ (z9_ G hr rfl mT kT bT .nil j0_ (qa_ (pv 0) (qa_ (ql_ qS_ (pv 1) (pv 6)) (qa_ (ql_ qS_ (pv 5) qg_) qb_)))) qb_)))
   (qf_ (qo_ (i:=5) scP.nd rfl (Or.inl rfl) (ql_ zD_ (pv 5) (qY_ qW_ (pv 4) (xm_ jU_ qg_) (λ_ _=>rfl)))))))
  (qe_ (q0_ (qy_ vv_ (z9_ G hr rfl mT kT bT .nil j0_ (qa_ (pv 0) (qa_ (ql_ qS_ (pv 1) qg_) (qa_ qg_ qb_)))) qg_ (qv_ _))
   (qf_ (ahu_ (ql_ qS_ (qY_ qW_ (pv 4) (xm_ jU_ qg_) (λ_ _=>rfl)) (pv 5)) (aol_ (pv 4) (xm_ jU_ qg_) ajb_))) qG_)
  (qe_ (qo_ (i:=7) scP.nd rfl (Or.inl rfl) (z9_ G hr rfl mT kT bT .nil j0_ (qa_ (pv 0) (qa_ (ql_ qS_ (pv 1) qg_) (qa_ (pv 2) qb_)))))
  (qf_ (qm_ (qO_ qP_ rfl mt BL (qa_ (ql_ yc_ (q3_ yG_ (pv 4) (q5_ (pv 7)) zu_) (q3_ yG_ (pv 4) zu_ (q5_ (pv 7)))) qb_)))))))),?_⟩
 refine⟨(by show 0<=sizeLine;decide),λl hl=>?_⟩
 have s0:=qd_ hl (.lst [])
 refine⟨_,rfl,_,rfl,n,rfl,by omega,by omega,?_⟩
 refine z3_ (n:=(n:Int).toNat) (λi σ H'=>(∃c6 c7,σ=[some (.int c),some (.int far),some (.int n),some (.int w),some (.ref l),some (.int (qZ_ c far w i).2),c6,c7])/\i<=n/\H' l=some (.lst ((qZ_ c far w i).1.map V.int))/\Same H H') ?_ ?_ ?_
 ·exact⟨⟨_,_,rfl⟩,An _,qc_,s0⟩
 ·rintro i σ H1 hi ⟨⟨c6,c7,rfl⟩,i1,h1,s1⟩
  obtain⟨p1,p2,p3,p4⟩:=xH_ (c:=c) (far:=far) w0 i
  refine⟨_,rfl,.inl ⟨rfl,_,SqL.of h1⟩,?_⟩
  refine⟨_,rfl,_,rfl,_,rfl,_,_,rfl,rfl,_,rfl,_,_,rfl,rfl,c,far+(0+(i:Int)),_,rfl,by omega,by omega,by omega,?_⟩
  have e0:far+(0+(i:Int))=far+(i:Int):=by omega
  rw[e0]
  refine⟨l,_,_,rfl,rfl,h1,zE_ (by rw[AA,p1];omega),?_⟩
  refine⟨_,rfl,_,rfl,_,rfl,l,_,_,_,rfl,rfl,SqL.of qc_,ach_ _ _,_,_,rfl,rfl,⟨_,_,rfl⟩,by omega,?_,?_⟩
  ·rw[qc_]
   show some (HO.lst _)=some (HO.lst (((qZ_ c far w i).1++[_]).map V.int))
   rw[Aj]
   rfl
  ·intro b o e
   rw[qk_ (qn_ e hl)]
   exact s1 b o e
 ·rintro σ H1 ⟨⟨c6,c7,rfl⟩,_,h1,s1⟩
  have en:(n:Int).toNat=n:=by omega
  rw[en]at h1
  rw[en]
  obtain⟨p1,p2,p3,p4⟩:=xH_ (c:=c) (far:=far) w0 n
  obtain⟨l1,l2,l3⟩:=aa8_ (c:=c) (far:=far) w0 n1
  have fin:∀H2:Hp,H2 l=some (.lst ((zk_ c far w n).map V.int))->Same H H2->(tSeq (tAsg (afg_ yE_ [] E0 (vp_ (xN_ 0) (vp_ (tOp (rI0 λi j=>V.int (i+j)) (xN_ 1) (tC (V.int 12))) (vp_ (xN_ 2) tNil)))) (jy_ 7))
    (tRet (tCB (λxs H Q=>∃p ys,xs=[.ref p]/\((SqL K H p ys/\∀l,H l=none->Q (.ref l) (upd H l (.tup ys)))∨(SqT K H p ys/\Q (.ref p) H))) (vp_ (tOp rCat (tSl (rSlL K) (xN_ 4) (aez_ (xN_ 7)) vS_) (tSl (rSlL K) (xN_ 4) vS_ (aez_ (xN_ 7)))) tNil)))) { nx:=λ_ H'=>Q .non H',rt:=Q }
    [some (.int c),some (.int far),some (.int n),some (.int w),some (.ref l),some (.int (qZ_ c far w n).2),c6,c7] H2:=by
   intro H2 h2 s2
   have t0:=y4_ (c:=c) (k:=far+12) (show(0:Int)<(n:Int) by omega)
   have t1:=yY_ (c:=c) (k:=far+12) (show(0:Int)<(n:Int) by omega)
   refine⟨_,rfl,_,rfl,_,_,rfl,rfl,_,rfl,c,far+12,n,rfl,by omega,by omega,by omega,?_⟩
   obtain⟨t,ht⟩:∃t:Nat,zJ_ c (far+12) n=t:=⟨(zJ_ c (far+12) n).toNat,by omega⟩
   rw[ht]
   refine⟨_,rfl,_,rfl,_,rfl,l,_,rfl,SqL.of h2,λq1 hq1=>?_⟩
   have s3:=qd_ hq1 (.lst (za_ ((zk_ c far w n).map V.int) (some (t:Int)) none))
   refine⟨_,rfl,_,rfl,_,rfl,l,_,rfl,SqL.of (s3 _ _ h2),λq2 hq2=>?_⟩
   have s4:=qd_ hq2 (.lst (za_ ((zk_ c far w n).map V.int) none (some (t:Int))))
   refine⟨q1,q2,_,_,rfl,rfl,s4 _ _ qc_,qc_,?_,λq3 hq3=>?_⟩
   ·have z1:=jO_ ((zk_ c far w n).map V.int) (some (t:Int)) none
    have z2:=jO_ ((zk_ c far w n).map V.int) none (some (t:Int))
    rw[AA]at z1 z2
    exact small (by omega)
   have s5:=qd_ hq3 (.lst (za_ ((zk_ c far w n).map V.int) (some (t:Int)) none++za_ ((zk_ c far w n).map V.int) none (some (t:Int))))
   refine⟨q3,_,rfl,.inl ⟨SqL.of qc_,λq4 hq4=>?_⟩⟩
   have s6:=qd_ hq4 (.tup (za_ ((zk_ c far w n).map V.int) (some (t:Int)) none++za_ ((zk_ c far w n).map V.int) none (some (t:Int))))
   refine q q4 _ (s2.trans (s3.trans (s4.trans (s5.trans s6)))) ?_
   rw[qc_,aks_,alr_]
   unfold zF_
   rw[ht,Aj,Cn,DY]
   rfl
  refine⟨_,rfl,_,rfl,_,_,rfl,rfl,c,far+11,3,rfl,by omega,by omega,by decide,rfl,_,rfl,?_⟩
  refine ite2 (λe=>?_) (λe=>?_)
  ·have e':zJ_ c (far+11) 3=0:=by
    have:=of_decide_eq_true e
    injection this
   have ne:(qZ_ c far w n).1≠[]:=by intro z;rw[z]at p1;simp at p1;omega
   obtain⟨m,x,em⟩:∃m x,(qZ_ c far w n).1=m++[x]:=⟨_,_,(BB ne).symm⟩
   rw[em,Aj]at h1
   refine⟨_,rfl,_,rfl,l,_,_,.int x,rfl,rfl,SqL.of h1,ach_ _ _,_,rfl,_,_,rfl,rfl,_,rfl,_,rfl,l,_,_,_,rfl,rfl,h1,abz_ (by simp),?_⟩
   rw[List.map_singleton,aiy_]
   refine fin _ ?_ λb o e2=>?_
   ·rw[qc_]
    unfold zk_
    rw[if_pos e',em]
    unfold padd
    rw[EY,EZ,Aj]
    rfl
   ·rw[qk_ (qn_ e2 hl)]
    exact s1 b o e2
  ·have e':¬ zJ_ c (far+11) 3=0:=λz=>e (decide_eq_true (congrArg V.int z))
   refine fin H1 ?_ s1
   unfold zk_
   rw[if_neg e']
   exact h1
abbrev nU:List Str:=["_law_terms", "_law_counts", "_law_powers_here", "_law_number"]
abbrev bU:List Str:=["_law_powers_here", "_law_number"]
theorem ndU:bU.Nodup:=by decide +kernel
theorem scU:FnScope nU ["_law_terms"] (qh_ sSum):=⟨rfl,rfl,rfl,by decide +kernel,rfl,by decide +kernel,by decide +kernel⟩
def ae1_:Sp:=λvs H Q _=>∃(a:Addr)(ts:List Mon),vs=[.ref a]/\LstAt H a ts/\ts.length<=100000/\∀(l:Addr)(H':Hp),H l=none->Same H H'->LstAt H' l (norm ts)->Q (.ref l) H'
theorem an4_(F:Fun K "_law_sum" "_law_sum" sSum f fd)(ms:mg "sorted" = none):FnOk P w K mg base CX0 2 f fd ["_law_terms"] ae1_:=by
 refine F.ok scU (λvs H Q E h=>?_) (λcdv A outer s H vs Q E hr h=>?_)
 ·obtain⟨a,ts,rfl,_⟩:=h
  rfl
 obtain⟨a,ts,rfl,hL,hlen,q⟩:=h
 have hu:=aa3_ hr
 have h8:=hu8 hr
 refine⟨_,qe_ (qo_ (i:=1) scU.nd rfl (Or.inl rfl) yX_)
  (qe_ (qE_ Al rfl (qz_ (pv 0)) (zh_ rfl (qp_ (qj_ (i:=2) scU.nd rfl (Or.inl rfl)) (qp_ (qj_ (i:=3) scU.nd rfl (Or.inl rfl)) q6_)))
   (qf_ (vy_ hu (pv 1) (pv 2) (ql_ qS_ (y2_ hu (pv 1) (pv 2) qg_ ⟨rfl,rfl,rfl,rfl⟩) (pv 3)) rfl)))
  (qf_ (qm_ (vn_ (α:=Mon) rfl h8 rfl ms (qa_ (qN_ (N':=bU) (src:=[none,none]) rfl (aij_ (pv 1)) (zb_ (qh_ sSum) nU (by decide +kernel))
   (λb=>zh_ rfl (qp_ (qj_ (i:=0) ndU rfl (Or.inl rfl)) (qp_ (qj_ (i:=1) ndU rfl (Or.inl rfl)) q6_)))
   (λb=>xr_ (qy_ yl_ (pv 1) qg_ (qv_ _)))
   (λb=>qs_ (qa_ (pv 0) (qa_ (pv 1) qb_)))) qb_))))),?_⟩
 intro d hd
 obtain⟨vs,eL,iL⟩:=hL
 have lv:=AQ iL
 have s0:Same H (upd H d (.dT [])):=qd_ hd _
 refine⟨_,rfl,a,rfl,⟨vs,SqL.of (s0 _ _ eL)⟩,?_⟩
 refine qL_ (xs:=vs) (λi σ H'=>(∃c2 c3,σ=[some (.ref a),some (.ref d),c2,c3])/\H' d=some (.dT (toK (qR_ (ts.take i))))/\Same H H') ?_ ?_ ?_ ?_
 ·exact⟨⟨_,_,rfl⟩,qc_,s0⟩
 ·rintro i σ H1 _ ⟨_,_,s1⟩
  exact SqL.of (s1 _ _ eL)
 ·rintro i x σ H1 hx ⟨⟨c2,c3,rfl⟩,h1,s1⟩
  obtain⟨t,ht,hi⟩:=qV_ iL hx
  obtain⟨p,k,rfl,hp,hk⟩:=zY_ hi
  have hk1:=s1 _ _ hk
  refine⟨p,_,rfl,SqT.of (s1 _ _ hp),rfl,_,_,rfl,_,_,rfl,rfl,?_⟩
  have g:=DGet.t (k:=t.1.map Sum.inl) h1 (by rw[jf_];exact hk1)
  rw[yt_]at g
  refine⟨_,rfl,d,rfl,.inr ⟨_,.inl h1⟩,_,rfl,_,g,_,rfl,(zj_ (qR_ (ts.take i)) t.1).getD 0,t.2,?_,rfl,_,rfl,_,rfl,d,_,rfl,DPut.t (k:=t.1.map Sum.inl) h1 (by rw[jf_];exact hk1) ?_,?_⟩
  ·cases zj_ (qR_ (ts.take i)) t.1<;>rfl
  ·rw[yr_]
   have:=xJ_ (ts.take i)
   rw[AW]at this
   exact zE_ (by omega)
  ·refine⟨⟨_,_,rfl⟩,?_,λb o e=>?_⟩
   ·rw[qI_ ht,jq_,<-vX_]
    exact qc_
   ·rw[qk_ (qn_ e hd)]
    exact s1 b o e
 ·rintro σ H1 ⟨⟨c2,c3,rfl⟩,h1,s1⟩
  rw[AU (by omega)]at h1
  have dl:=xJ_ ts
  refine⟨_,rfl,d,qR_ ts,rfl,h1,λo b D hD=>?_⟩
  have hd1:(upd H1 d (.frz o (.dT (toK (qR_ ts))))) d=some (.frz o (.dT (toK (qR_ ts)))):=qc_
  have s2:Same H (upd H1 d (.frz o (.dT (toK (qR_ ts))))):=λb u e=>by
   rw[qk_ (qn_ e hd)]
   exact s1 b u e
  refine aex_ (α:=Mon) hD hd1 (λσ=>∃c e,σ=[c,e]) (λi=>((qR_ ts)[i]?).bind λt=>if t.2≠0 then some t else none) (small (by omega)) ?_ ?_ ?_
  ·exact⟨_,_,rfl⟩
  ·rintro i t p k σ H2 Yes No ht hp hk ⟨c,e,rfl⟩ s3 yes no
   have s4:=qd_ hp (.tup [.ref k,.int t.2])
   refine⟨p,_,rfl,SqT.of qc_,rfl,_,_,rfl,_,_,rfl,rfl,?_⟩
   refine⟨_,rfl,rfl,_,rfl,?_⟩
   by_cases c0:t.2=0
   ·have e0:(!decide (V.int t.2=V.int 0))=false:=by rw[decide_eq_true (congrArg V.int c0)];rfl
    rw[e0]
    refine ji_ ?_
    exact no _ _ ⟨_,_,rfl⟩ s4 (by rw[ht,CU,if_neg (by simpa using c0)])
   ·have e0:(!decide (V.int t.2=V.int 0))=true:=by
     rw[decide_eq_false (λz=>c0 (by injection z))]
     rfl
    rw[e0]
    refine xp_ ⟨_,rfl,_,rfl,(by show 2<=sizeLine;decide),λr hr=>?_⟩
    have s5:=qd_ hr (.tup [.ref k,.int t.2])
    exact yes _ _ _ t ⟨_,_,rfl⟩ (s4.trans s5) (by rw[ht,CU,if_pos (by simpa using c0)]) (zo_ qc_ (s5 _ _ (s4 _ _ hk)))
  ·intro H2 s3 hL
   refine⟨D,_,rfl,hL,λ_ _=>True.intro,λp vs' l' hp pm so it=>?_⟩
   refine q p _ (s2.free (s3.free hp)) (s2.trans (s3.trans (qd_ hp _))) ⟨vs',qc_,?_⟩
   have e:l'=norm ts:=by
    refine ajm_ ?_ so
    rw[qT_,zS_ (λt:Mon=>t.2≠0) (λt=>t),List.map_id']at pm
    exact pm
   rw[<-e]
   exact Its.mono (yT_ hp _) it
theorem yQ_{l r:List Int}(h:r.Perm l):r.sum=l.sum:=by
 induction h with
 |nil=>rfl
 |cons x _ ih=>rw[Ad,Ad,ih]
 |swap x y l=>rw[Ad,Ad,Ad,Ad];omega
 |trans _ _ i1 i2=>rw[i1,i2]
def y3_(ns:List Int):List Int:=ns.mergeSort λa b=>decide (b<=a)
theorem als_{l ns:List Int}(pm:l.Perm ns)(so:l.Pairwise λa b=>b<=a):l=y3_ ns:=by
 have p2:=Dt (le:=λa b:Int=>decide (b<=a)) (λa b c h1 h2=>decide_eq_true (by have:=of_decide_eq_true h1;have:=of_decide_eq_true h2;omega)) (λa b=>by
  rcases Int.le_total a b with h|h
  ·rw[decide_eq_true h,El]
  ·rw[decide_eq_true h,Eg]) ns
 exact List.Perm.eq_of_pairwise (le:=λa b=>b<=a) (λa b _ _ h1 h2=>Int.le_antisymm h2 h1) so (p2.imp λh=>of_decide_eq_true h) (pm.trans (DK ns _).symm)
def jG_(ns:List Int):List Int:=(y3_ ns).filter λx=>decide (0<x)
theorem ajz_(ns:List Int):(jG_ ns).length<=ns.length:=by
 unfold jG_
 have h:=CJ (λx=>decide (0<x)) (y3_ ns)
 have:(y3_ ns).length=ns.length:=(DK ns _).length_eq
 omega
abbrev nRo:List Str:=["_law_powers_here"]
abbrev bRo:List Str:=["_law_number"]
theorem ndRo:bRo.Nodup:=by decide +kernel
theorem scRo:FnScope nRo nRo (qh_ sRow):=⟨rfl,rfl,rfl,by decide +kernel,rfl,by decide +kernel,by decide +kernel⟩
def aed_:Sp:=λvs H Q _=>∃(p:Addr)(ns:List Int),vs=[.ref p]/\H p=some (.tup (ns.map V.int))/\ns.length<=1000/\∀(t:Addr)(H':Hp),Same H H'->H' t=some (.tup ((jG_ ns).map V.int))->Q (.ref t) H'
theorem aoe_(F:Fun K "_law_row" "_law_row" sRow f fd)(mt:mg "tuple" = none)(ms:mg "sorted" = none):FnOk P w K mg base CX0 2 f fd nRo aed_:=by
 refine F.ok scRo (λvs H Q E h=>?_) (λcdv A outer s H vs Q E hr h=>?_)
 ·obtain⟨p,ns,rfl,_⟩:=h
  rfl
 obtain⟨p1,ns,rfl,h1,hl,q⟩:=h
 have h8:=hu8 hr
 refine⟨_,qf_ (qm_ (qO_ qP_ rfl mt BL (qa_ (qN_ (N':=bRo) (src:=[none]) rfl (qz_ (vu_ rfl h8 rfl ms (qa_ (pv 0) qb_))) (zb_ (qh_ sRow) nRo (by decide +kernel))
   (λb=>qj_ (i:=0) ndRo rfl (Or.inl rfl)) (λb=>xr_ (qy_ j1_ (pv 0) qg_ (qv_ _))) (λb=>pv 0)) qb_))),?_⟩
 refine⟨_,rfl,p1,ns,rfl,SqT.of h1,λp2 l h2 pm so=>?_⟩
 have el:=als_ pm so
 have s2:=qd_ h2 (.lst (l.map V.int))
 refine⟨p2,rfl,⟨_,SqL.of qc_⟩,λbk D hD=>?_⟩
 have ll:=pm.length_eq
 refine zG_ (α:=Int) hD (SqL.of qc_) (λσ=>∃c,σ=[c]) (λi=>(l[i]?).bind λx=>if 0<x then some x else none) (small (by rw[AA];omega)) ⟨_,rfl⟩ ?_ ?_
 ·rintro i v σ H3 Yes No hv ⟨c,rfl⟩ s3 yes no
  obtain⟨x,hx,rfl⟩:∃x,l[i]?=some x/\V.int x=v:=by
   rw[AV]at hv
   cases e:l[i]? with
   |none=>rw[e]at hv;cases hv
   |some y=>rw[e]at hv;exact⟨y,rfl,AZ hv⟩
  refine⟨_,rfl,_,_,rfl,rfl,_,rfl,?_⟩
  by_cases c0:0<x
  ·exact xX_ c0 ⟨_,rfl,yes _ _ _ x ⟨_,rfl⟩ (Same.refl _) (by rw[hx,CU,if_pos c0]) rfl⟩
  ·exact jV_ c0 (no _ _ ⟨_,rfl⟩ (Same.refl _) (by rw[hx,CU,if_neg c0]))
 ·rintro H3 s3 ⟨ws,eD,iD⟩
  have e:(List.range (l.map V.int).length).filterMap (λi=>(l[i]?).bind λx=>if 0<x then some x else none)=jG_ ns:=by
   rw[AA,qT_,zS_,el]
   exact D9 _
  rw[zK_ iD,e]at eD
  refine⟨D,_,rfl,.inl ⟨SqL.of eD,λt4 h4=>?_⟩⟩
  have s4:=qd_ h4 (.tup ((jG_ ns).map V.int))
  exact q t4 _ (s2.trans (s3.trans s4)) qc_
theorem ajw_(k:Nat):(List.replicate k [V.int 0]).flatten=(List.replicate k (0:Int)).map V.int:=by
 induction k with
 |zero=>rfl
 |succ k ih=>rw[Ap,BV,ih,Ap];rfl
def evG(n:Nat)(t:Mon):List Mon:=(xn_ n t.1).map λq=>(q,t.2)
theorem xU_{n:Nat}{r:List Int}(h:r.length<=n)(n4:n<=4):(xn_ n r).length<=24/\∀s∈xn_ n r,s.length=n:=by
 have:=ac8_ (r++List.replicate (n-r.length) (0:Int))
 rw[show(r++List.replicate (n-r.length) (0:Int)).length=n by rw[AE,As];omega]at this
 have b4:bnd n<=24:=by
  have:n=0∨n=1∨n=2∨n=3∨n=4:=by omega
  rcases this with e|e|e|e|e<;>rw[e]<;>decide
 exact⟨Ac this.1 b4,this.2⟩
theorem yZ_{n:Nat}{T:List Mon}(h:∀t∈T,t.1.length<=n)(n4:n<=4)(hT:T.length<=40)(i:Nat):((T.take i).flatMap (evG n)).length<=960:=by
 have:=zB_ (evG n) 24 (T.take i) λt ht=>by
  unfold evG
  rw[AA]
  exact(xU_ (h t (BC ht)) n4).1
 rw[AW]at this
 have:min i T.length<=40:=by omega
 have:=CO 24 this
 omega
abbrev nEv:List Str:=["_law_telling", "_law_many", "_law_terms", "_law_row_here", "_law_number", "_law_powers_here"]
abbrev pEv:List Str:=["_law_telling", "_law_many"]
theorem scEv:FnScope nEv pEv (qh_ aea_):=⟨rfl,rfl,rfl,by decide +kernel,rfl,by decide +kernel,by decide +kernel⟩
def agv_:Sp:=λvs H Q _=>∃(a:Addr)(T:List Mon)(n:Nat),vs=[.ref a,.int n]/\LstAt H a T/\T.length<=40/\1<=n/\n<=4/\(∀t∈T,t.1.length<=n)/\∀(l:Addr)(H':Hp),H l=none->Same H H'->LstAt H' l (norm (T.flatMap (evG n)))->(norm (T.flatMap (evG n))).length<=960->(∀t∈norm (T.flatMap (evG n)),t.1.length=n)->Q (.ref l) H'
theorem akz_(F:Fun K "_law_even" "_law_even" aea_ f fd)(GO:Has P w K mg base 3 "_law_orders" ["_law_numbers"] spLo)(GS:Has P w K mg base 3 "_law_sum" ["_law_terms"] ae1_)(ml:mg "list" = none)(mn:mg "len" = none):FnOk P w K mg base CX0 4 f fd pEv agv_:=by
 refine F.ok scEv (λvs H Q E h=>?_) (λcdv A outer s H vs Q E hr h=>?_)
 ·obtain⟨a,T,n,rfl,_⟩:=h
  rfl
 obtain⟨a,T,n,rfl,⟨vs,eL,iL⟩,hT,n1,n4,lens,q⟩:=h
 refine⟨_,qe_ (qo_ (i:=2) scEv.nd rfl (Or.inl rfl) (qJ_ qb_))
  (qe_ (qE_ Al rfl (qz_ (pv 0)) (zh_ rfl (qp_ (qj_ (i:=3) scEv.nd rfl (Or.inl rfl)) (qp_ (qj_ (i:=4) scEv.nd rfl (Or.inl rfl)) q6_)))
   (qf_ (qE_ Al rfl (qz_ (qi_ GO hr rfl (qa_ (ql_ yc_ (qO_ abl_ rfl ml EC (qa_ (pv 3) qb_)) (ql_ ag1_ (qJ_ (qa_ qg_ qb_)) (ql_ zD_ (pv 1) (qD_ q4_ rfl mn B6 (qa_ (pv 3) qb_))))) qb_))) (qj_ (i:=5) scEv.nd rfl (Or.inl rfl))
    (qf_ (qK_ (jM_ BK BF BG q7_ (pv 2) (qa_ (qs_ (qa_ (pv 5) (qa_ (pv 4) qb_))) qb_)))))))
  (qf_ (qm_ (qi_ GS hr rfl (qa_ (pv 2) qb_))))),?_⟩
 refine⟨(by show 0<=sizeLine;decide),λl hl0=>?_⟩
 have s0:=qd_ hl0 (.lst [])
 have lv:=AQ iL
 refine⟨_,rfl,a,rfl,⟨vs,SqL.of (s0 _ _ eL)⟩,?_⟩
 refine qL_ (xs:=vs) (λi σ H'=>(∃c3 c4 c5,σ=[some (.ref a),some (.int n),some (.ref l),c3,c4,c5])/\LstAt H' l ((T.take i).flatMap (evG n))/\Same H H') ?_ ?_ ?_ ?_
 ·exact⟨⟨_,_,_,rfl⟩,⟨[],qc_,.nil⟩,s0⟩
 ·rintro i σ H1 _ ⟨_,_,s1⟩
  exact SqL.of (s1 _ _ eL)
 ·rintro i x σ H1 hx ⟨⟨c3,c4,c5,rfl⟩,hW,s1⟩
  obtain⟨t,ht,hi⟩:=qV_ iL hx
  obtain⟨p,kk,rfl,hp,hkk⟩:=zY_ hi
  have tl:=lens t (Ag ht)
  have hk1:=s1 _ _ hkk
  refine⟨p,_,rfl,SqT.of (s1 _ _ hp),rfl,_,_,rfl,_,_,rfl,rfl,?_⟩
  refine⟨_,rfl,kk,_,rfl,.inr (SqT.of hk1),λl3 h3=>?_⟩
  have s3:=qd_ h3 (.lst (t.1.map V.int))
  refine⟨(by show 1<=sizeLine;decide),λl4 h4=>?_⟩
  have s4:=qd_ h4 (.lst [.int 0])
  refine⟨_,rfl,_,rfl,kk,_,rfl,.inr (SqT.of (s4 _ _ (s3 _ _ hk1))),_,_,rfl,rfl,l4,_,_,rfl,rfl,qc_,by rw[AA];omega,by rw[AA];omega,small (by rw[AA];show 1*_<=100000;omega),λl5 h5=>?_⟩
  rw[AA,show((n:Int)-(t.1.length:Int)).toNat=n-t.1.length by omega,ajw_]
  have s5:=qd_ h5 (.lst ((List.replicate (n-t.1.length) (0:Int)).map V.int))
  refine⟨l3,l5,_,_,rfl,rfl,s5 _ _ (s4 _ _ qc_),qc_,small (by rw[AA,AA,As];omega),λl6 h6=>?_⟩
  rw[<-Aj]
  have s6:=qd_ h6 (.lst ((t.1++List.replicate (n-t.1.length) (0:Int)).map V.int))
  refine⟨l6,_,rfl,qc_,by rw[AE,As];omega,λl7 H7 h7 s7 hL7=>?_⟩
  have hL7:LstAt H7 l7 (xn_ n t.1):=hL7
  have z7:=s3.trans (s4.trans (s5.trans (s6.trans s7)))
  obtain⟨al,am⟩:=xU_ tl n4
  have tk:(T.take (i+1)).flatMap (evG n)=(T.take i).flatMap (evG n)++(xn_ n t.1).map λq=>(q,t.2):=by
   rw[qI_ ht,Be,Bp]
   rfl
  have b1:=yZ_ lens n4 hT i
  have hW7:=hW.mono z7
  rw[tk]
  generalize (T.take i).flatMap (evG n)=pre at hW7 b1
  generalize xn_ n t.1=os at hL7 al am
  obtain⟨ws,eW,iW⟩:=hL7
  have lw:=AQ iW
  refine⟨l7,rfl,⟨_,SqL.of eW⟩,?_⟩
  have n77:l7≠l:=λz=>by
   obtain⟨us,eu,_⟩:=hW.mono (s3.trans (s4.trans (s5.trans s6)))
   rw[z,eu]at h7
   cases h7
  refine qL_ (xs:=ws) (λj σ H'=>(∃c5,σ=[some (.ref a),some (.int n),some (.ref l),some (.ref kk),some (.int t.2),c5])/\LstAt H' l (pre++(os.take j).map λq=>(q,t.2))/\Same H H'/\H' l7=some (.lst ws)/\Tups H7 H') ?_ ?_ ?_ ?_
  ·refine⟨⟨_,rfl⟩,?_,s1.trans z7,eW,λ_ _ e=>e⟩
   rw[CP,CF,BP]
   exact hW7
  ·rintro j σ H8 _ ⟨_,_,_,e8,_⟩
   exact SqL.of e8
  ·rintro j v σ H8 hv ⟨⟨c5,rfl⟩,⟨us,eU,iU⟩,s8,e8,t8⟩
   obtain⟨x,hx,hi2⟩:=qV_ iW hv
   obtain⟨px,rfl,hpx⟩:=q8_ hi2
   have hp8:=t8 _ _ hpx
   have lu:=AQ iU
   have jl:j<os.length:=(AX.mp hx).1
   refine⟨_,rfl,.inl ⟨rfl,_,SqL.of eU⟩,_,rfl,_,rfl,(by show 2<=sizeLine;decide),λp9 h9=>?_⟩
   have s9:=qd_ h9 (.tup [.ref px,.int t.2])
   have eU9:=s9 _ _ eU
   have t9:∀o,Tups (upd H8 p9 (.tup [.ref px,.int t.2])) (upd (upd H8 p9 (.tup [.ref px,.int t.2])) l o):=λo=>jp_ eU9 o
   refine⟨l,us,_,rfl,rfl,eU9,zE_ (by rw[AE,AA,AW]at lu;omega),⟨_,rfl⟩,⟨us++[.ref p9],qc_,?_⟩,xv_ hl0 (s8.trans s9) _,?_,λr ys e=>t9 _ _ _ (s9 _ _ (t8 _ _ e))⟩
   ·rw[qI_ hx,Aj,<-AY]
    exact CC (Its.mono ((Tups.same s9).trans (t9 _)) iU) (Dat.mono (t9 _) (zo_ (t:=(x,t.2)) qc_ (s9 _ _ hp8)))
   ·rw[qk_ n77]
    exact s9 _ _ e8
  ·rintro σ H8 ⟨⟨c5,rfl⟩,h8,s8,_,_⟩
   rw[AU (by omega)]at h8
   exact⟨⟨_,_,_,rfl⟩,h8,s8⟩
 ·rintro σ H1 ⟨⟨c3,c4,c5,rfl⟩,hL,s1⟩
  have b1:=yZ_ lens n4 hT vs.length
  rw[AU (by omega)]at hL b1
  refine⟨_,rfl,l,_,rfl,hL,by omega,λl3 H2 hl3 s2 h2=>q l3 H2 (s1.free hl3) (s1.trans s2) h2 (Ac (zn_ _) b1) λt ht=>?_⟩
  obtain⟨u,hu,e⟩:=qC_ ht
  obtain⟨y,hy,hm⟩:=BE.mp hu
  obtain⟨o,ho,rfl⟩:=AR.mp hm
  rw[<-e]
  exact(xU_ (lens y hy) n4).2 o ho
abbrev nMu:List Str:=["one", "other", "terms", "powers", "number", "more", "often"]
abbrev bMu:List Str:=["power", "added"]
theorem ndMu:bMu.Nodup:=by decide +kernel
theorem scMu:FnScope nMu ["one", "other"] (qh_ sMul):=⟨rfl,rfl,rfl,by decide +kernel,rfl,by decide +kernel,by decide +kernel⟩
def aay_:Sp:=λvs H Q _=>∃(a b:Addr)(n d e x y:Nat)(ts us:List Mon),vs=[.ref a,.ref b]/\LstAt H a ts/\LstAt H b us/\Deg n d x ts/\Deg n e y us/\1<=n/\n<=4/\x<=100000/\y<=100000/\ts.length*us.length<=40000 /\
 ∀(l:Addr)(H':Hp),H l=none->Same H H'->LstAt H' l (norm (prd ts us))->Q (.ref l) H'
theorem ahh_(p q:Pw)(h:p.length=q.length):(List.range (min (p.map V.int).length (q.map V.int).length)).filterMap (λi=>some (p.getD i 0+q.getD i 0))=pad p q:=by
 rw[Aw,AA,AA,<-h,Dg]
 refine Cg λi=>?_
 unfold pad
 rw[AV,List.getElem?_zipWith]
 by_cases c:i<p.length
 ·rw[CA c,AJ c,AJ (by omega:i<q.length)]
  simp [c,(by omega:i<q.length)]
 ·rw[Ch (by rw[A0];omega),Ch (by omega:p.length<=i)]
  rfl
theorem ajq_(a b:List Mon)(t:Mon):prd (a++[t]) b=prd a b++b.map λu=>(pad t.1 u.1,t.2*u.2):=by
 unfold prd
 rw[Be,Bp]
theorem ami_(F:Fun K "multiplied" "multiplied" sMul f fd)(GG:Has P w K mg base 2 "gathered" ["terms"] xF_)(mt:mg "tuple" = none)(mz:mg "zip" = none):FnOk P w K mg base CX0 3 f fd ["one", "other"] aay_:=by
 refine F.ok scMu (λvs H Q E h=>?_) (λcdv A outer s H vs Q E hr h=>?_)
 ·obtain⟨a,b,n,d,e,x,y,ts,us,rfl,_⟩:=h
  rfl
 obtain⟨a,b,n,d,e,x,y,ts,us,rfl,hA,hB,ga,gb,n1,n4,hx1,hy1,hml,q⟩:=h
 refine⟨_,qe_ (qo_ (i:=2) scMu.nd rfl (Or.inl rfl) (qJ_ qb_))
  (qe_ (qE_ Al rfl (qz_ (pv 0)) (zh_ rfl (qp_ (qj_ (i:=3) scMu.nd rfl (Or.inl rfl)) (qp_ (qj_ (i:=4) scMu.nd rfl (Or.inl rfl)) q6_)))
   (qf_ (qE_ Al rfl (qz_ (pv 1)) (zh_ rfl (qp_ (qj_ (i:=5) scMu.nd rfl (Or.inl rfl)) (qp_ (qj_ (i:=6) scMu.nd rfl (Or.inl rfl)) q6_)))
    (qf_ (qK_ (jM_ BK BF BG q7_ (pv 2) (qa_ (qs_ (qa_
     (qO_ qP_ rfl mt BL (qa_ (qN_ (N':=bMu) (src:=[none,none]) rfl
      (agd_ .tup .tup rfl mz (qa_ (pv 3) (qa_ (pv 5) qb_))) (zb_ (qh_ sMul) nMu (by decide +kernel))
      (λb=>zh_ rfl (qp_ (qj_ (i:=0) ndMu rfl (Or.inl rfl)) (qp_ (qj_ (i:=1) ndMu rfl (Or.inl rfl)) q6_)))
      (λb=>qX_)
      (λb=>ql_ qS_ (pv 0) (pv 1))) qb_))
     (qa_ (ql_ adh_ (pv 4) (pv 6)) qb_))) qb_)))))))
  (qf_ (qm_ (qi_ GG hr rfl (qa_ (pv 2) qb_))))),?_⟩
 obtain⟨vs,eA,iA⟩:=id hA
 obtain⟨ws,eB,iB⟩:=id hB
 have lva:=AQ iA
 have lvb:=AQ iB
 refine⟨(by show 0<=sizeLine;decide),λl hl0=>?_⟩
 have s0:=qd_ hl0 (.lst [])
 refine⟨_,rfl,a,rfl,⟨vs,SqL.of (s0 _ _ eA)⟩,?_⟩
 refine qL_ (xs:=vs) (λi σ H'=>(∃c3 c4 c5 c6,σ=[some (.ref a),some (.ref b),some (.ref l),c3,c4,c5,c6])/\LstAt H' l (prd (ts.take i) us)/\Same H H') ?_ ?_ ?_ ?_
 ·exact⟨⟨_,_,_,_,rfl⟩,⟨[],qc_,.nil⟩,s0⟩
 ·rintro i σ H1 _ ⟨_,_,s1⟩
  exact SqL.of (s1 _ _ eA)
 ·rintro i v σ H1 hv ⟨⟨c3,c4,c5,c6,rfl⟩,hL,s1⟩
  obtain⟨t,ht,hi⟩:=qV_ iA hv
  have hmt:=Ag ht
  have lti:i<ts.length:=(AX.mp ht).1
  obtain⟨p,k1,rfl,hp,hk1⟩:=zY_ hi
  refine⟨p,_,rfl,SqT.of (s1 _ _ hp),rfl,_,_,rfl,_,_,rfl,rfl,?_⟩
  refine⟨_,rfl,b,rfl,⟨ws,SqL.of (s1 _ _ eB)⟩,?_⟩
  refine qL_ (xs:=ws) (λj σ H'=>(∃c5 c6,σ=[some (.ref a),some (.ref b),some (.ref l),some (.ref k1),some (.int t.2),c5,c6])/\LstAt H' l (prd (ts.take i) us++(us.take j).map λu=>(pad t.1 u.1,t.2*u.2))/\Same H H') ?_ ?_ ?_ ?_
  ·refine⟨⟨_,_,rfl⟩,?_,s1⟩
   rw[CP,CF,BP]
   exact hL
  ·rintro j σ H2 _ ⟨_,_,s2⟩
   exact SqL.of (s2 _ _ eB)
  ·rintro j w2 σ H2 hw ⟨⟨c5,c6,rfl⟩,⟨zs,eZ,iZ⟩,s2⟩
   obtain⟨u,hu,hj⟩:=qV_ iB hw
   have hmu:=Ag hu
   have luj:j<us.length:=(AX.mp hu).1
   have lz:=AQ iZ
   rw[AE,j2_,AA,AW,AW,Bh (by omega),Bh (by omega)]at lz
   have lz2:zs.length<=40000:=by
    have z1:i*us.length+j<(i+1)*us.length:=by rw[Cs];omega
    have z2:(i+1)*us.length<=ts.length*us.length:=CO _ lti
    omega
   have hlu:t.1.length=u.1.length:=by rw[ga.len t hmt,gb.len u hmu]
   obtain⟨p',k2,rfl,hp',hk2⟩:=zY_ hj
   refine⟨p',_,rfl,SqT.of (s2 _ _ hp'),rfl,_,_,rfl,_,_,rfl,rfl,?_⟩
   refine⟨_,rfl,.inl ⟨rfl,_,SqL.of eZ⟩,?_⟩
   refine⟨_,rfl,_,rfl,k1,k2,rfl,⟨_,SqT.of (s2 _ _ hk1)⟩,⟨_,SqT.of (s2 _ _ hk2)⟩,λbk D hD=>?_⟩
   refine aa7_ (α:=Int) (k1:=.tup) (k2:=.tup) hD (SqT.of (s2 _ _ hk1)) (SqT.of (s2 _ _ hk2)) (λσ=>∃c d,σ=[c,d]) (λi=>some (t.1.getD i 0+u.1.getD i 0)) (small (by rw[AA,ga.len t hmt];omega)) ?_ ?_ ?_
   ·exact⟨_,_,rfl⟩
   ·rintro i x y p2 σ H2 Yes No hx hy h2 ⟨c,d,rfl⟩ s3 yes no
    obtain rfl:V.int (t.1.getD i 0)=x:=by
     rw[AV]at hx
     rw[AO]
     cases e:t.1[i]? with
     |none=>rw[e]at hx;cases hx
     |some c=>rw[e]at hx;exact AZ hx
    obtain rfl:V.int (u.1.getD i 0)=y:=by
     rw[AV]at hy
     rw[AO]
     cases e:u.1[i]? with
     |none=>rw[e]at hy;cases hy
     |some c=>rw[e]at hy;exact AZ hy
    refine⟨p2,_,rfl,SqT.of qc_,rfl,_,_,rfl,_,_,rfl,rfl,?_⟩
    refine yV_ ?_
    refine⟨_,rfl,_,rfl,_,_,rfl,rfl,?_⟩
    exact yes _ _ _ _ ⟨_,_,rfl⟩ (qd_ h2 _) rfl rfl
   rintro H3 s3 ⟨ys,eD,iD⟩
   rw[zK_ iD,ahh_ _ _ hlu]at eD
   refine⟨D,_,rfl,.inl ⟨SqL.of eD,λr hr2=>?_⟩⟩
   have s4:=qd_ hr2 (.tup ((pad t.1 u.1).map V.int))
   refine⟨_,rfl,_,rfl,_,_,rfl,rfl,⟨zW_ (ga.num t hmt) hx1,zW_ (gb.num u hmu) hy1⟩,(by show 2<=sizeLine;decide),λr2 h5=>?_⟩
   have s5:=qd_ h5 (.tup [.ref r,.int (t.2*u.2)])
   have s345:=s3.trans (s4.trans s5)
   have eZ3:=s345 _ _ eZ
   refine⟨l,zs,_,rfl,rfl,eZ3,zE_ (by omega),⟨_,_,rfl⟩,⟨zs++[.ref r2],qc_,?_⟩,λb' o e'=>?_⟩
   ·rw[qI_ hu,Aj,<-AY]
    have t6:∀o,Tups _ (upd _ l o):=λo r' ys e'=>by
     rw[qk_ (zH_ e' eZ3 (by intro z;cases z))];exact e'
    exact CC (Its.mono ((Tups.same s345).trans (t6 _)) iZ) (Dat.mono (t6 _) (zo_ (t:=(pad t.1 u.1,t.2*u.2)) qc_ (s5 _ _ qc_)))
   ·rw[qk_ (qn_ e' hl0)]
    exact s345 _ _ (s2 b' o e')
  ·rintro σ H2 ⟨⟨c5,c6,rfl⟩,hL2,s2⟩
   rw[AU (show us.length<=ws.length by omega)]at hL2
   refine⟨⟨_,_,_,_,rfl⟩,?_,s2⟩
   rw[qI_ ht,ajq_]
   exact hL2
 ·rintro σ H1 ⟨⟨c3,c4,c5,c6,rfl⟩,hL,s1⟩
  rw[AU (by omega)]at hL
  refine⟨_,rfl,l,_,rfl,hL,agc_ (ga.prd gb) n1,by rw[j2_];omega,λr H2 hr s2 h2=>?_⟩
  exact q r H2 (s1.free hr) (s1.trans s2) h2
theorem abn_(m:Nat):(List.replicate m (0:Int)).sum=0:=by
 induction m with
 |zero=>rfl
 |succ m ih=>rw[Ap,Ad,ih];rfl
def wv:Nat->Nat->List (List Int)
 |0,w=>if w=0 then [[]] else []
 |n+1,w=>(List.range (w+1)).flatMap λ(x:Nat)=>(wv n (w-x)).map ((x:Int) :: ·)
theorem agf_:∀{l:List Int},(∀y∈l,0<=y)->0<=l.sum
 |[],_=>By _
 |x::l,h=>by
  have h1:=h x (AD ..)
  have h2:=agf_ (l:=l) λy hy=>h y (AC _ hy)
  rw[Ad]
  omega
theorem ahv_:∀(n w:Nat)(l:List Int),l.length=n->(∀x∈l,0<=x)->l.sum=(w:Int)->l∈wv n w
 |0,w,l,h,_,hs=>by
  rw[BJ.mp h]at hs ⊢
  have e:w=0:=by
   have:(0:Int)=(w:Int):=hs
   omega
  rw[e]
  exact AT.mpr rfl
 |n+1,w,[],h,_,_=>by simp at h
 |n+1,w,x::l,h,hx,hs=>by
  have h1:=hx x (AD ..)
  have h2:=agf_ (l:=l) λy hy=>hx y (AC _ hy)
  rw[Ad]at hs
  refine BE.mpr ⟨x.toNat,Ar.mpr (by omega),AR.mpr ⟨l,ahv_ n (w-x.toNat) l (by simpa using h) (λy hy=>hx y (AC _ hy)) (by omega),?_⟩⟩
  rw[CZ h1]
theorem an9_:∀n∈List.range 5,∀w∈List.range 9,(wv n w).length<=165:=by decide +kernel
structure Fac(n k:Nat)(f:List Mon):Prop where
 deg:Deg n k 1 f
 one:∀t∈f,t.1.sum=(k:Int)
 len:f.length<=165
theorem ajd_{k:Int}{ts:List Mon}(h:∀t∈ts,t.1.sum=k):∀t∈norm ts,t.1.sum=k:=λt ht=>by
 obtain⟨u,hu,e⟩:=qC_ ht
 rw[<-e]
 exact h u hu
theorem aj6_{n k b:Nat}{ts:List Mon}(h:Deg n k b ts)(h1:∀t∈ts,t.1.sum=(k:Int))(n4:n<=4)(k8:k<=8):(norm ts).length<=165:=by
 have nd:((norm ts).map (·.1)).Nodup:=by
  rw[List.Nodup,B0]
  refine(qM_ ts).ord.imp λ{x y} z e=>?_
  rw[e,ze_]at z
  cases z
 have sub:∀p∈(norm ts).map (·.1),p∈wv n k:=λp hp=>by
  obtain⟨t,ht,rfl⟩:=AR.mp hp
  obtain⟨u,hu,e⟩:=qC_ ht
  rw[<-e]
  exact ahv_ n k _ (h.len u hu) (h.nn u hu) (h1 u hu)
 have:=List.Nodup.length_le_of_subset nd sub
 rw[AA]at this
 have:=an9_ n (Ar.mpr (by omega)) k (Ar.mpr (by omega))
 omega
theorem ala_{n x y:Nat}{k l:Int}{b c:Nat}{ts us:List Mon}(ga:Deg n x b ts)(gb:Deg n y c us)(h:∀t∈ts,t.1.sum=k)(h':∀t∈us,t.1.sum=l):∀t∈prd ts us,t.1.sum=k+l:=λt ht=>by
 obtain⟨a,ha,ht⟩:=BE.mp ht
 obtain⟨b,hb,rfl⟩:=AR.mp ht
 rw[vz_ (by rw[ga.len a ha,gb.len b hb]),h a ha,h' b hb]
def y7_(ff:Nat->List Mon)(acc:List Mon)(k:Nat):List Mon:=norm (prd acc (ff k))
def zP_(ff:Nat->List Mon)(n:Nat)(ks:List Nat):List Mon:=ks.foldl (y7_ ff) [(List.replicate n 0,1)]
theorem aaq_(ff:Nat->List Mon)(n:Nat)(ks:List Nat)(k:Nat):zP_ ff n (ks++[k])=y7_ ff (zP_ ff n ks) k:=by
 unfold zP_
 rw[Bq]
 rfl
theorem ab4_{ff:Nat->List Mon}{n:Nat}(n1:1<=n)(n4:n<=4)(hf:∀k,1<=k->k<=8->Fac n k (ff k)):∀ks:List Nat,ks.sum<=8->(∀k∈ks,1<=k)->Deg n ks.sum (1+19*ks.length) (zP_ ff n ks)/\(∀t∈zP_ ff n ks,t.1.sum=(ks.sum:Int))/\(zP_ ff n ks).length<=165:=by
 refine zI_ (λ_ _=>⟨⟨λt ht=>?_,λt ht x hx=>?_,λt ht=>?_,λt ht=>?_⟩,λt ht=>?_,by show 1<=165;decide⟩) λks k ih hs h1=>?_
 ·rw[AT.mp ht];exact As
 ·rw[AT.mp ht]at hx
  rw[(DU.mp hx).2];exact By _
 ·rw[AT.mp ht]
  show(List.replicate n (0:Int)).sum<=_
  rw[abn_];exact By _
 ·rw[AT.mp ht]
  show(1:Int).natAbs<2^1
  decide
 ·rw[AT.mp ht]
  exact abn_ n
 ·rw[B1,Bw]at hs
  obtain⟨d,o,l⟩:=ih (by omega) λx hx=>h1 x (At _ hx)
  have k1:=h1 k (Af _ (AT.mpr rfl))
  have fk:=hf k k1 (by omega)
  rw[aaq_]
  have dp:=d.prd fk.deg
  have op:=ala_ d fk.deg o fk.one
  have e:(((ks++[k]).sum:Nat):Int)=(ks.sum:Int)+(k:Int):=by rw[B1,Bw];omega
  have lp:(prd (zP_ ff n ks) (ff k)).length<2^18:=by
   rw[j2_]
   have:=C0 l fk.len
   exact BN this (by decide)
  refine⟨(dp.norm lp).mono (by rw[B1,Bw];exact AF _) ?_,?_,?_⟩
  ·rw[AE,Aq]
   omega
  ·rw[e]
   exact ajd_ op
  ·refine aj6_ (k:=ks.sum+k) dp (λt ht=>?_) n4 hs
   rw[op t ht]
   omega
abbrev nPr:List Str:=["many", "factors", "result", "factor"]
theorem scPr:FnScope nPr ["many", "factors"] (qh_ sPr):=⟨rfl,rfl,rfl,by decide +kernel,rfl,by decide +kernel,by decide +kernel⟩
def spPr:Sp:=λvs H Q _=>∃(ff:Nat->List Mon)(n:Nat)(a:Addr)(xs:List Addr)(ks:List Nat),vs=[.int n,.ref a]/\1<=n/\n<=4/\(∀k,1<=k->k<=8->Fac n k (ff k))/\H a=some (.lst (xs.map V.ref))/\Paired (λx k=>LstAt H x (ff k)) xs ks/\ks.sum<=8/\ks.length<=8/\(∀k∈ks,1<=k) /\
 ∀(l:Addr)(H':Hp),H l=none->Same H H'->LstAt H' l (zP_ ff n ks)->Q (.ref l) H'
theorem aq8_(F:Fun K "product" "product" sPr f fd)(GM:Has P w K mg base 3 "multiplied" ["one", "other"] aay_):FnOk P w K mg base CX0 4 f fd ["many", "factors"] spPr:=by
 refine F.ok scPr (λvs H Q E h=>?_) (λcdv A outer s H vs Q E hr h=>?_)
 ·obtain⟨ff,n,a,xs,ks,rfl,_⟩:=h
  rfl
 obtain⟨ff,n,a,xs,ks,rfl,n1,n4,hf,ha,hx,hs,hk8,hk1,q⟩:=h
 refine⟨_,qe_ (qo_ (i:=2) scPr.nd rfl (Or.inl rfl) (qJ_ (qa_ (qs_ (qa_ (ql_ z5_ (qs_ (qa_ qg_ qb_)) (pv 0)) (qa_ qg_ qb_))) qb_)))
  (qe_ (qE_ Al rfl (qz_ (pv 1)) (qj_ (i:=3) scPr.nd rfl (Or.inl rfl)) (qf_ (qo_ (i:=2) scPr.nd rfl (Or.inl rfl) (qi_ GM hr rfl (qa_ (pv 2) (qa_ (pv 3) qb_))))))
  (qf_ (qm_ (pv 2)))),?_⟩
 have lx:=AQ hx
 refine⟨(by show 1<=sizeLine;decide),λt0 h0=>?_⟩
 have s0:=qd_ h0 (.tup [.int 0])
 refine⟨_,rfl,t0,[0],_,rfl,rfl,qc_,by simp,by omega,by omega,small (by show 1*_<=100000;omega),λt1 H1 s1 h1=>?_⟩
 rw[xD_,Ax]at h1
 refine⟨(by show 2<=sizeLine;decide),λt2 h2=>⟨(by show 1<=sizeLine;decide),λl0 h3=>?_⟩⟩
 have s2:=qd_ h2 (.tup [.ref t1,.int 1])
 have s3:=qd_ h3 (.lst [.ref t2])
 have sA:=s0.trans (s1.trans (s2.trans s3))
 refine⟨_,rfl,a,rfl,⟨_,SqL.of (sA _ _ ha)⟩,?_⟩
 refine qL_ (xs:=xs.map V.ref) (λi σ H'=>(∃(l:Addr)(c3:Option V),σ=[some (.int n),some (.ref a),some (.ref l),c3]/\LstAt H' l (zP_ ff n (ks.take i))/\H l=none)/\Same H H') ?_ ?_ ?_ ?_
 ·refine⟨⟨l0,_,rfl,⟨[.ref t2],qc_,.cons (zo_ (t:=(List.replicate n 0,1)) (s3 _ _ qc_) (s3 _ _ (s2 _ _ h1))) .nil⟩,s0.free (s1.free (s2.free h3))⟩,sA⟩
 ·rintro i σ H4 _ ⟨_,sH⟩
  exact SqL.of (sH _ _ ha)
 ·rintro i v σ H4 hv ⟨⟨l,c3,rfl,hL,fl⟩,sH⟩
  obtain⟨x,hxi,rfl⟩:∃x,xs[i]?=some x/\V.ref x=v:=by
   rw[AV]at hv
   cases e:xs[i]? with
   |none=>rw[e]at hv;cases hv
   |some y=>rw[e]at hv;exact⟨y,rfl,AZ hv⟩
  obtain⟨k,hk,hLx⟩:=Paired.get hx hxi
  have et:=qI_ hk
  have st:(ks.take (i+1)).sum<=8:=by
   have e:ks.sum=(ks.take (i+1)).sum+(ks.drop (i+1)).sum:=by rw[<-B1,BI]
   omega
  have st':=st
  rw[et,B1,Bw]at st'
  obtain⟨d,_,ln⟩:=ab4_ n1 n4 hf (ks.take i) (by omega) λx hx=>hk1 x (BC hx)
  have lt:(ks.take i).length<=8:=by rw[AW];omega
  have fk:=hf k (hk1 k (Ag hk)) (by omega)
  refine⟨_,rfl,_,rfl,l,x,n,_,_,_,_,_,_,rfl,hL,hLx.mono sH,d,fk.deg,n1,n4,by omega,by decide,?_,λl5 H5 hl5 s5 h5=>?_⟩
  ·exact Ac (C0 ln fk.len) (by decide)
  ·refine⟨⟨l5,_,rfl,?_,sH.free hl5⟩,sH.trans s5⟩
   rw[et,aaq_]
   exact h5
 ·rintro σ H4 ⟨⟨l,c3,rfl,hL,fl⟩,sH⟩
  rw[AA,AU (by omega)]at hL
  exact⟨_,rfl,q l H4 fl sH hL⟩
abbrev nUn:List Str:=["many", "some", "place", "unlike"]
theorem scUn:FnScope nUn ["many", "some"] (qh_ sUn):=⟨rfl,rfl,rfl,by decide +kernel,rfl,by decide +kernel,by decide +kernel⟩
def spUn:Sp:=λvs H Q _=>∃(n:Nat)(a:Addr)(ts:List Mon),vs=[.int n,.ref a]/\1<=n/\n<=4/\LstAt H a ts/\(∀t∈ts,t.1.length=n)/\ts.length<=1000/\Even n ts/\∀H',Same H H'->Q .non H'
theorem ahw_(ts:List Mon):norm (ts++ngt (norm ts))=[]:=by
 rw[<-ajr_ ts]
 exact zv_ λF=>by rw[jd_,jd_,je_,je_,qq_]
theorem apl_(F:Fun K "uneven" "uneven" sUn f fd)(GC:Has P w K mg base 3 "refuse_bad_count" ["many"] yI_)(GL:Has P w K mg base 3 "less" nPl (ve_ λts us=>ts++ngt us))(GX:Has P w K mg base 3 "exchanged" ["some", "place"] af3_)(mr:mg "range" = none):FnOk P w K mg base CX0 4 f fd ["many", "some"] spUn:=by
 refine F.ok scUn (λvs H Q E h=>?_) (λcdv A outer s H vs Q E hr h=>?_)
 ·obtain⟨n,a,ts,rfl,_⟩:=h
  rfl
 obtain⟨n,a,ts,rfl,n1,n4,hA,hl,hz,hE,q⟩:=h
 have hM:=BN (B2 (by decide:Dat.dep Mon+1<=64) _) hr.units
 refine⟨_,qe_ (qK_ (qi_ GC hr rfl (qa_ (pv 0) qb_)))
  (qe_ (qE_ Al rfl (zw_ rfl mr (qa_ (ql_ zD_ (pv 0) qg_) qb_)) (qj_ (i:=2) scUn.nd rfl (Or.inl rfl))
   (qe_ (qo_ (i:=3) scUn.nd rfl (Or.inl rfl) (qi_ GL hr rfl (qa_ (pv 1) (qa_ (qi_ GX hr rfl (qa_ (pv 1) (qa_ (pv 2) qb_))) qb_))))
   (qf_ (q0_ (qy_ (anc_ (α:=Mon) hM) (pv 3) (qJ_ qb_) (qv_ _)) (qf_ jj_) qG_))))
  (qf_ (qm_ agk_))),?_⟩
 refine⟨_,rfl,n,rfl,by omega,by omega,?_⟩
 refine⟨_,rfl,_,_,rfl,rfl,_,rfl,by omega,by omega,?_⟩
 rw[show((n:Int)-1).toNat=n-1 by omega]
 have ne:∀{t:Mon},t.1.length=n->t.1≠[]:=λ{t} h e=>by
  rw[e]at h
  simp at h
  omega
 refine z3_ (lo:=0) (n:=n-1) (λi σ H'=>(∃c2 c3,σ=[some (.int n),some (.ref a),c2,c3])/\Same H H') ?_ ?_ ?_
 ·exact⟨⟨_,_,rfl⟩,λ_ _ e=>e⟩
 ·rintro i σ H1 hi ⟨⟨c2,c3,rfl⟩,s1⟩
  rw[B8]
  refine⟨_,rfl,_,rfl,_,rfl,a,n,i,ts,rfl,hA.mono s1,hl,by omega,by omega,by omega,λl2 H2 h2 s2 hL2=>?_⟩
  have e:L2.Pl.exch ts i=norm ts:=hE i (by omega)
  rw[e]at hL2
  have nl:=zn_ ts
  refine⟨a,l2,ts,norm ts,rfl,hA.mono (s1.trans s2),hL2,λt ht=>ne (hl t ht),λt ht=>?_,by omega,λl3 H3 h3 s3 hL3=>?_⟩
  ·obtain⟨u,hu,e⟩:=qC_ ht
   rw[<-e]
   exact ne (hl u hu)
  have e0:=ahw_ ts
  show jy_ 3 (.ref l3) _ H3 _
  rw[show norm ((λts us=>ts++ngt us) ts (norm ts))=[] from e0]at hL3
  refine⟨_,rfl,(by show 0<=sizeLine;decide),λl4 h4=>?_⟩
  have s4:=qd_ h4 (.lst [])
  refine⟨l3,l4,[],[],rfl,rfl,hL3.mono s4,⟨[],qc_,.nil⟩,_,rfl,?_⟩
  rw[ye_]
  exact ji_ ⟨⟨_,_,rfl⟩,s1.trans (s2.trans (s3.trans s4))⟩
 ·rintro σ H1 ⟨_,s1⟩
  exact q H1 s1
abbrev nRu:List Str:=["many", "some", "found"]
theorem scRu:FnScope nRu ["many", "some"] (qh_ sRu):=⟨rfl,rfl,rfl,by decide +kernel,rfl,by decide +kernel,by decide +kernel⟩
theorem apu_(F:Fun K "refuse_uneven" "refuse_uneven" sRu f fd)(GU:Has P w K mg base 4 "uneven" ["many", "some"] spUn):FnOk P w K mg base CX0 5 f fd ["many", "some"] spUn:=by
 refine F.ok scRu (λvs H Q E h=>?_) (λcdv A outer s H vs Q E hr h=>?_)
 ·obtain⟨n,a,ts,rfl,_⟩:=h
  rfl
 obtain⟨n,a,ts,rfl,n1,n4,hA,hl,hz,hE,q⟩:=h
 refine⟨_,qe_ (qo_ (i:=2) scRu.nd rfl (Or.inl rfl) (qi_ GU hr rfl (qa_ (pv 0) (qa_ (pv 1) qb_)))) (qf_ (q0_ (qy_ ak8_ (pv 2) agk_ (qv_ _)) (qf_ jj_) qG_)),?_⟩
 refine⟨_,rfl,_,rfl,n,a,ts,rfl,n1,n4,hA,hl,hz,hE,λH1 s1=>?_⟩
 exact⟨_,rfl,rfl,_,rfl,ji_ (q H1 s1)⟩
def But(d:Addr)(H H':Hp):Prop:=∀b o,b≠d->H b=some o->H' b=some o
theorem af2_{α:Type}[Dat α]{K:PySem.W.Frag}{k1:SK}{a:Addr}{xs:List V}{σ0:St}{H1:Hp}{D:Addr}{R:Hp->Prop}{g:TG}{tc:TT}{te:TE}(hD:H1 D=none)(hl:k1.is K H1 a xs)(Sp:St->Prop)(out:Nat->Option α)(hn:xs.length<=sizeLine)(h0:Sp σ0)
  (hturn:∀(i:Nat)(x:V)(p:Addr)(σ':St)(H':Hp)(Yes:V->St->Hp->Prop)(No:St->Hp->Prop),xs[i]?=some x->H' p=none->Sp σ'->Same H1 H'->(∀y σ2 H4 a,Sp σ2->Same H' H4->out i=some a->Dat.is H4 y a->Yes y σ2 H4)->(∀σ2 H3,Sp σ2->Same H' H3->out i=none->No σ2 H3) ->
   g (.ref p) σ' (upd H' p (.tup [.int i,x])) λσ2 H2=>tc σ2 H2 λok H3=>if ok=true then te σ2 H3 λy H4=>Yes y σ2 H4 else No σ2 H3)
  (hend:∀H',Same H1 H'->LstAt H' D ((List.range xs.length).filterMap out)->R H') :
  ∃W:Nat->Nat->St->Hp->Prop,(∃m,W 0 m σ0 (upd H1 D (.lst [])))/\∀i m σ' H',W i m σ' H' ->
  ((Ite K k1 a).stop i H'/\R H')∨((Ite K k1 a).go i H'/\∃N:St->Hp->Prop,(∀σ'' H'',N σ'' H''->∃m',m'<m/\W (i+1) m' σ'' H'') /\
   ∀x H'',(Ite K k1 a).yld i H' x H''->g x σ' H'' λσ2 H2=>tc σ2 H2 λok H3=>if ok=true then te σ2 H3 λy H4=>∃ys,H4 D=some (.lst ys)/\ys.length<sizeLine/\N σ2 (upd H4 D (.lst (ys++[y]))) else N σ2 H3):=by
 refine ju_ (Q:=λ_ H=>R H) (n:=xs.length) hD Sp out hn h0 (λH' e=>⟨xs,SK.same e hl,AF _⟩) (λi H' hi e=>⟨xs,xs[i],SK.same e hl,AJ hi⟩) (λi σ' H' Yes No hi hS hH hy hn x H'' y=>?_) hend
 obtain⟨p,x,rfl,hp,rfl,hx⟩:=y
 exact hturn i x p σ' H' Yes No (hx xs (SK.same hH hl)) hp hS hH hy hn
def prL(n:Nat)(fs:List (List Mon)):List Mon:=fs.foldl (λacc f=>norm (prd acc f)) [(List.replicate n 0,1)]
theorem ajl_(n:Nat)(fs:List (List Mon))(f:List Mon):prL n (fs++[f])=norm (prd (prL n fs) f):=by
 unfold prL
 rw[Bq]
 rfl
def akg_:Sp:=λvs H Q _=>∃(n:Nat)(a:Addr)(xs:List Addr)(fs:List (List Mon)),vs=[.int n,.ref a]/\1<=n/\n<=4/\H a=some (.lst (xs.map V.ref))/\Paired (λx f=>LstAt H x f) xs fs/\(∀i f,fs[i]?=some f->Deg n 100 1000 (prL n (fs.take i))/\Deg n 100 1000 f/\(prL n (fs.take i)).length*f.length<=40000) /\
 ∀(l:Addr)(H':Hp),H l=none->Same H H'->LstAt H' l (prL n fs)->Q (.ref l) H'
theorem am9_(F:Fun K "product" "product" sPr f fd)(GM:Has P w K mg base 3 "multiplied" ["one", "other"] aay_):FnOk P w K mg base CX0 4 f fd ["many", "factors"] akg_:=by
 refine F.ok scPr (λvs H Q E h=>?_) (λcdv A outer s H vs Q E hr h=>?_)
 ·obtain⟨n,a,xs,fs,rfl,_⟩:=h
  rfl
 obtain⟨n,a,xs,fs,rfl,n1,n4,ha,hx,hb,q⟩:=h
 refine⟨_,qe_ (qo_ (i:=2) scPr.nd rfl (Or.inl rfl) (qJ_ (qa_ (qs_ (qa_ (ql_ z5_ (qs_ (qa_ qg_ qb_)) (pv 0)) (qa_ qg_ qb_))) qb_)))
  (qe_ (qE_ Al rfl (qz_ (pv 1)) (qj_ (i:=3) scPr.nd rfl (Or.inl rfl)) (qf_ (qo_ (i:=2) scPr.nd rfl (Or.inl rfl) (qi_ GM hr rfl (qa_ (pv 2) (qa_ (pv 3) qb_))))))
  (qf_ (qm_ (pv 2)))),?_⟩
 have lx:=AQ hx
 refine⟨(by show 1<=sizeLine;decide),λt0 h0=>?_⟩
 have s0:=qd_ h0 (.tup [.int 0])
 refine⟨_,rfl,t0,[0],_,rfl,rfl,qc_,by simp,by omega,by omega,small (by show 1*_<=100000;omega),λt1 H1 s1 h1=>?_⟩
 rw[xD_,Ax]at h1
 refine⟨(by show 2<=sizeLine;decide),λt2 h2=>⟨(by show 1<=sizeLine;decide),λl0 h3=>?_⟩⟩
 have s2:=qd_ h2 (.tup [.ref t1,.int 1])
 have s3:=qd_ h3 (.lst [.ref t2])
 have sA:=s0.trans (s1.trans (s2.trans s3))
 refine⟨_,rfl,a,rfl,⟨_,SqL.of (sA _ _ ha)⟩,?_⟩
 refine qL_ (xs:=xs.map V.ref) (λi σ H'=>(∃(l:Addr)(c3:Option V),σ=[some (.int n),some (.ref a),some (.ref l),c3]/\LstAt H' l (prL n (fs.take i))/\H l=none)/\Same H H') ?_ ?_ ?_ ?_
 ·refine⟨⟨l0,_,rfl,⟨[.ref t2],qc_,.cons (zo_ (t:=(List.replicate n 0,1)) (s3 _ _ qc_) (s3 _ _ (s2 _ _ h1))) .nil⟩,s0.free (s1.free (s2.free h3))⟩,sA⟩
 ·rintro i σ H4 _ ⟨_,sH⟩
  exact SqL.of (sH _ _ ha)
 ·rintro i v σ H4 hv ⟨⟨l,c3,rfl,hL,fl⟩,sH⟩
  obtain⟨x,hxi,rfl⟩:∃x,xs[i]?=some x/\V.ref x=v:=by
   rw[AV]at hv
   cases e:xs[i]? with
   |none=>rw[e]at hv;cases hv
   |some y=>rw[e]at hv;exact⟨y,rfl,AZ hv⟩
  obtain⟨k,hk,hLx⟩:=Paired.get hx hxi
  obtain⟨b1,b2,b3⟩:=hb i k hk
  refine⟨_,rfl,_,rfl,l,x,n,_,_,_,_,_,_,rfl,hL,hLx.mono sH,b1,b2,n1,n4,by decide,by decide,b3,λl5 H5 hl5 s5 h5=>?_⟩
  refine⟨⟨l5,_,rfl,?_,sH.free hl5⟩,sH.trans s5⟩
  rw[qI_ hk,ajl_]
  exact h5
 ·rintro σ H4 ⟨⟨l,c3,rfl,hL,fl⟩,sH⟩
  rw[AA,AU (by omega)]at hL
  exact⟨_,rfl,q l H4 fl sH hL⟩
theorem scFa:FnScope ["powers"] ["powers"] (qh_ sFa):=⟨rfl,rfl,rfl,by decide +kernel,rfl,by decide +kernel,by decide +kernel⟩
def isF(r:List Int):Bool:=zi_ (Dat.eqb (α:=Int)) r (dsc r)
theorem ac9_(r:List Int):isF r=true↔r=dsc r:=zZ_ Dat.eqb_iff _ _
def spFa:Sp:=λvs H Q _=>∃(p:Addr)(r:List Int),vs=[.ref p]/\H p=some (.tup (r.map V.int))/\∀H',Same H H'->Q (.bl (isF r)) H'
theorem aq3_(F:Fun K "falls" "falls" sFa f fd)(mt:mg "tuple" = none)(ms:mg "sorted" = none):FnOk P w K mg base CX0 2 f fd ["powers"] spFa:=by
 refine F.ok scFa (λvs H Q E h=>?_) (λcdv A outer s H vs Q E hr h=>?_)
 ·obtain⟨p,r,rfl,_⟩:=h
  rfl
 obtain⟨p,r,rfl,hp,q⟩:=h
 have hI:=BN (B2 (by decide:Dat.dep Int+1<=64) _) hr.units
 have h8:=hu8 hr
 refine⟨_,qf_ (qm_ (jC_ (acl_ (α:=Int) hI) (pv 0) (qO_ qP_ rfl mt BL (qa_ (vu_ rfl h8 rfl ms (qa_ (pv 0) qb_)) qb_)) (qv_ _))),?_⟩
 refine⟨_,rfl,_,rfl,p,r,rfl,SqT.of hp,λp4 m h4 pm so=>?_⟩
 rw[afp_ pm so]
 have s4:=qd_ h4 (.lst ((dsc r).map V.int))
 refine⟨p4,_,rfl,.inl ⟨SqL.of qc_,λt5 h5=>?_⟩⟩
 have s5:=qd_ h5 (.tup ((dsc r).map V.int))
 exact⟨r,dsc r,zd_ (s5 _ _ (s4 _ _ hp)),zd_ qc_,q _ (s4.trans s5)⟩
abbrev bRf:List Str:=["power"]
theorem ndRf:bRf.Nodup:=by decide +kernel
theorem scRf:FnScope ["powers"] ["powers"] (qh_ sRf):=⟨rfl,rfl,rfl,by decide +kernel,rfl,by decide +kernel,by decide +kernel⟩
def qB_(r:List Int):List Int:=r.filter λx=>decide (0<x)
def spRf:Sp:=λvs H Q _=>∃(p:Addr)(r:List Int),vs=[.ref p]/\H p=some (.tup (r.map V.int))/\r.length<=1000/\∀(t:Addr)(H':Hp),Same H H'->H' t=some (.tup ((qB_ r).map V.int))->Q (.ref t) H'
theorem apo_(F:Fun K "row_of" "row_of" sRf f fd)(mt:mg "tuple" = none):FnOk P w K mg base CX0 2 f fd ["powers"] spRf:=by
 refine F.ok scRf (λvs H Q E h=>?_) (λcdv A outer s H vs Q E hr h=>?_)
 ·obtain⟨p,r,rfl,_⟩:=h
  rfl
 obtain⟨p,r,rfl,hp,hl,q⟩:=h
 refine⟨_,qf_ (qm_ (qO_ qP_ rfl mt BL (qa_ (qN_ (N':=bRf) (src:=[none]) rfl (jB_ (pv 0)) (zb_ (qh_ sRf) ["powers"] (by decide +kernel))
   (λb=>qj_ (i:=0) ndRf rfl (Or.inl rfl)) (λb=>xr_ (qy_ j1_ (pv 0) qg_ (qv_ _))) (λb=>pv 0)) qb_))),?_⟩
 refine⟨_,rfl,p,rfl,⟨_,SqT.of hp⟩,λbk D hD=>?_⟩
 refine xc_ (α:=Int) hD (SqT.of hp) (λσ=>∃c,σ=[c]) (λi=>(r[i]?).bind λx=>if 0<x then some x else none) (small (by rw[AA];omega)) ⟨_,rfl⟩ ?_ ?_
 ·rintro i v σ H2 Yes No hv ⟨c,rfl⟩ s3 yes no
  obtain⟨x,hx,rfl⟩:∃x,r[i]?=some x/\V.int x=v:=by
   rw[AV]at hv
   cases e:r[i]? with
   |none=>rw[e]at hv;cases hv
   |some y=>rw[e]at hv;exact⟨y,rfl,AZ hv⟩
  refine⟨_,rfl,_,_,rfl,rfl,_,rfl,?_⟩
  by_cases c0:0<x
  ·exact xX_ c0 ⟨_,rfl,yes _ _ _ x ⟨_,rfl⟩ (Same.refl _) (by rw[hx];exact if_pos c0) rfl⟩
  ·exact jV_ c0 (no _ _ ⟨_,rfl⟩ (Same.refl _) (by rw[hx];exact if_neg c0))
 rintro H1 s1 ⟨ws,eD,iD⟩
 have e0:(List.range (r.map V.int).length).filterMap (λi=>(r[i]?).bind λx=>if 0<x then some x else none)=qB_ r:=by
  unfold qB_
  rw[AA,qT_,zS_]
  exact D9 _
 rw[zK_ iD,e0]at eD
 refine⟨D,_,rfl,.inl ⟨SqL.of eD,λt ht=>?_⟩⟩
 exact q t _ (s1.trans (qd_ ht _)) qc_
theorem scUa:FnScope ["many", "place"] ["many", "place"] (qh_ sUa):=⟨rfl,rfl,rfl,by decide +kernel,rfl,by decide +kernel,by decide +kernel⟩
def una(n k:Nat):List Int:=List.replicate k 0++[1]++List.replicate (n-k-1) 0
def spUa:Sp:=λvs H Q _=>∃(n k:Nat),vs=[.int n,.int k]/\k<n/\n<=4/\∀(t:Addr)(H':Hp),Same H H'->H' t=some (.tup ((una n k).map V.int))->Q (.ref t) H'
theorem aqk_(F:Fun K "unknown_alone" "unknown_alone" sUa f fd):FnOk P w K mg base CX0 2 f fd ["many", "place"] spUa:=by
 refine F.ok scUa (λvs H Q E h=>?_) (λcdv A outer s H vs Q E hr h=>?_)
 ·obtain⟨n,k,rfl,_⟩:=h
  rfl
 obtain⟨n,k,rfl,hk,n4,q⟩:=h
 refine⟨_,qf_ (qm_ (ql_ zl_ (ql_ zl_ (ql_ z5_ (qs_ (qa_ qg_ qb_)) (pv 1)) (qs_ (qa_ qg_ qb_))) (ql_ z5_ (qs_ (qa_ qg_ qb_)) (ql_ zD_ (ql_ zD_ (pv 0) (pv 1)) qg_)))),?_⟩
 refine⟨(by show 1<=sizeLine;decide),λt0 h0=>?_⟩
 have s0:=qd_ h0 (.tup [.int 0])
 refine⟨_,rfl,t0,[0],_,rfl,rfl,qc_,by simp,by omega,by omega,small (by show 1*_<=100000;omega),λt1 H1 s1 h1=>?_⟩
 rw[xD_,Ax]at h1
 refine⟨(by show 1<=sizeLine;decide),λt2 h2=>?_⟩
 have s2:=qd_ h2 (.tup [.int 1])
 refine zf_ (r:=List.replicate k 0) (r':=[1]) (s2 _ _ h1) qc_ (small (by rw[As];show k+1<=100000;omega)) λt3 H3 s3 h3=>?_
 refine⟨(by show 1<=sizeLine;decide),λt4 h4=>?_⟩
 have s4:=qd_ h4 (.tup [.int 0])
 refine⟨_,rfl,_,rfl,_,_,rfl,rfl,_,_,rfl,rfl,t4,[0],_,rfl,rfl,qc_,by simp,by omega,by omega,small (by show 1*_<=100000;omega),λt5 H5 s5 h5=>?_⟩
 rw[xD_,show((n:Int)-(k:Int)-1).toNat=n-k-1 by omega]at h5
 refine zf_ (r:=List.replicate k 0++[1]) (r':=List.replicate (n-k-1) 0) (s5 _ _ (s4 _ _ h3)) h5 (small (by rw[AE,As,As];show k+1+_<=100000;omega)) λt6 H6 s6 h6=>?_
 exact q t6 H6 (s0.trans (s1.trans (s2.trans (s3.trans (s4.trans (s5.trans s6)))))) h6
def dif1(n l e:Nat):List Mon:=[(una n e,1),(una n l,-1)]
def difR(n l:Nat):List (List Mon):=(List.range l).map (dif1 n l)
def y5_(n:Nat):List (List Mon):=(List.range n).flatMap (difR n)
def qt_(n:Nat):List Mon:=prL n (y5_ n)
def x7_(n d b:Nat)(ts:List Mon):Bool:=ts.all λt=>decide (t.1.length=n)&&t.1.all (λx=>decide (0<=x))&&decide (t.1.sum<=(d:Int))&&decide (t.2.natAbs<2^b)
theorem z6_{n d b:Nat}{ts:List Mon}(h:x7_ n d b ts=true):Deg n d b ts:=by
 unfold x7_ at h
 rw[AN]at h
 have k:∀t∈ts,((t.1.length=n/\∀x∈t.1,0<=x)/\t.1.sum<=(d:Int))/\t.2.natAbs<2^b:=λt ht=>by
  have:=h t ht
  rw[AH,AH,AH,decide_eq_true_eq,decide_eq_true_eq,decide_eq_true_eq,AN]at this
  exact⟨⟨⟨this.1.1.1,λx hx=>of_decide_eq_true (this.1.1.2 x hx)⟩,this.1.2⟩,this.2⟩
 exact⟨λt ht=>(k t ht).1.1.1,λt ht=>(k t ht).1.1.2,λt ht=>(k t ht).1.2,λt ht=>(k t ht).2⟩
theorem aha_:∀n∈[1,2,3,4],((List.range (y5_ n).length).all (λi=>x7_ n 6 10 (prL n ((y5_ n).take i))&&x7_ n 1 1 ((y5_ n).getD i [])&&decide ((prL n ((y5_ n).take i)).length*((y5_ n).getD i []).length<=100))&&x7_ n 6 10 (qt_ n)&&decide ((qt_ n).length<=24))=true:=by decide +kernel
abbrev nDf:List Str:=["many", "factors", "later", "earlier"]
theorem scDf:FnScope nDf ["many"] (qh_ sDf):=⟨rfl,rfl,rfl,by decide +kernel,rfl,by decide +kernel,by decide +kernel⟩
def spDf:Sp:=λvs H Q _=>∃n:Nat,vs=[.int n]/\n∈[1,2,3,4]/\∀(l:Addr)(H':Hp),H l=none->Same H H'->LstAt H' l (qt_ n)->Q (.ref l) H'
theorem ap4_(F:Fun K "differences" "differences" sDf f fd)(GU:Has P w K mg base 4 "unknown_alone" ["many", "place"] spUa)(GP:Has P w K mg base 4 "product" ["many", "factors"] akg_)(mr:mg "range" = none):FnOk P w K mg base CX0 5 f fd ["many"] spDf:=by
 refine F.ok scDf (λvs H Q E h=>?_) (λcdv A outer s H vs Q E hr h=>?_)
 ·obtain⟨n,rfl,_⟩:=h
  rfl
 obtain⟨n,rfl,hn,q⟩:=h
 have n14:1<=n/\n<=4:=by
  simp at hn
  omega
 obtain⟨n1,n4⟩:=n14
 refine⟨_,qe_ (qo_ (i:=1) scDf.nd rfl (Or.inl rfl) (qJ_ qb_))
  (qe_ (qE_ Al rfl (zw_ rfl mr (qa_ (pv 0) qb_)) (qj_ (i:=2) scDf.nd rfl (Or.inl rfl))
   (qf_ (qE_ Al rfl (zw_ rfl mr (qa_ (pv 2) qb_)) (qj_ (i:=3) scDf.nd rfl (Or.inl rfl))
    (qf_ (qK_ (jM_ BK BF BG q7_ (pv 1) (qa_ (qJ_ (qa_ (qs_ (qa_ (qi_ GU hr rfl (qa_ (pv 0) (qa_ (pv 3) qb_))) (qa_ qg_ qb_))) (qa_ (qs_ (qa_ (qi_ GU hr rfl (qa_ (pv 0) (qa_ (pv 2) qb_))) (qa_ (xm_ jU_ qg_) qb_))) qb_))) qb_)))))))
  (qf_ (qm_ (qi_ GP hr rfl (qa_ (pv 0) (qa_ (pv 1) qb_)))))),?_⟩
 refine⟨(by show 0<=sizeLine;decide),λp hp=>?_⟩
 have s0:=qd_ hp (.lst [])
 refine⟨_,rfl,(n:Int),rfl,by omega,by omega,?_⟩
 rw[Ax]
 refine z3_ (lo:=0) (n:=n) (λi σ H'=>∃(xs:List Addr)(c2 c3:Option V),σ=[some (.int n),some (.ref p),c2,c3]/\H' p=some (.lst (xs.map V.ref))/\Paired (λx f=>x≠p/\LstAt H' x f) xs ((List.range i).flatMap (difR n))/\xs.length<=4*i/\Same H H') ?_ ?_ ?_
 ·exact⟨[],_,_,rfl,qc_,.nil,by simp,s0⟩
 ·rintro i σ H1 hi ⟨xs,c2,c3,rfl,h1,hP,lx,s1⟩
  rw[B8]
  refine⟨_,rfl,(i:Int),rfl,by omega,by omega,?_⟩
  rw[Ax,BZ,Be,Bp]
  generalize (List.range i).flatMap (difR n)=pre at hP
  refine z3_ (lo:=0) (n:=i) (λj σ H'=>∃(xs:List Addr)(c3:Option V),σ=[some (.int n),some (.ref p),some (.int (i:Int)),c3]/\H' p=some (.lst (xs.map V.ref))/\Paired (λx f=>x≠p/\LstAt H' x f) xs (pre++(List.range j).map (dif1 n i))/\xs.length<=4*i+j/\Same H H') ?_ ?_ ?_
  ·exact⟨xs,_,rfl,h1,by rw[List.range_zero,CF,BP];exact hP,by omega,s1⟩
  ·rintro j σ H2 hj ⟨ys,c3',rfl,h2,hQ,ly,s2⟩
   rw[B8]
   refine⟨_,rfl,.inl ⟨rfl,_,SqL.of h2⟩,_,rfl,_,rfl,n,j,rfl,by omega,n4,λt3 H3 s3 h3=>?_⟩
   refine⟨(by show 2<=sizeLine;decide),λt4 h4=>?_⟩
   have s4:=qd_ h4 (.tup [.ref t3,.int 1])
   refine⟨_,rfl,_,rfl,n,i,rfl,hi,n4,λt5 H5 s5 h5=>?_⟩
   refine⟨_,rfl,(by show 2<=sizeLine;decide),λt6 h6=>⟨(by show 2<=sizeLine;decide),λl7 h7=>?_⟩⟩
   have s6:=qd_ h6 (.tup [.ref t5,.int (-1)])
   have s7:=qd_ h7 (.lst [.ref t4,.ref t6])
   have z:=s3.trans (s4.trans (s5.trans (s6.trans s7)))
   have h2z:=z _ _ h2
   have n7:l7≠p:=λe=>by
    have:=s6 _ _ (s5 _ _ (s4 _ _ (s3 _ _ h2)))
    rw[e,this]at h7
    cases h7
   have keep:∀{x:Addr}{f:List Mon}{G:Hp}{us:List V}(o:HO),x≠p->G p=some (.lst us)->LstAt G x f->LstAt (upd G p o) x f:=λ{x f G us} o nx hG ⟨ws,ew,iw⟩=>⟨ws,by rw[qk_ nx];exact ew,Its.mono (λq ys' e'=>by rw[qk_ (zH_ e' hG (by intro z;cases z))];exact e') iw⟩
   refine⟨p,_,_,rfl,rfl,h2z,zE_ (by rw[AA];omega),ys++[l7],_,rfl,?_,?_,by rw[AE,Aq];omega,xv_ hp (s2.trans z) _⟩
   ·rw[Aj]
    exact qc_
   ·rw[BZ,Aj,<-AY]
    refine Paired.app (Paired.mono (λx f q=>⟨q.1,keep _ q.1 h2z (q.2.mono z)⟩) hQ) (.cons ⟨n7,keep _ n7 h2z ⟨[.ref t4,.ref t6],qc_,.cons (zo_ (t:=(una n j,1)) (s7 _ _ (s6 _ _ (s5 _ _ qc_))) (s7 _ _ (s6 _ _ (s5 _ _ (s4 _ _ h3))))) (.cons (zo_ (t:=(una n i,-1)) (s7 _ _ qc_) (s7 _ _ (s6 _ _ h5))) .nil)⟩⟩ .nil)
  ·rintro σ H2 ⟨ys,c3',rfl,h2,hQ,ly,s2⟩
   exact⟨ys,_,_,rfl,h2,hQ,by omega,s2⟩
 ·rintro σ H1 ⟨xs,c2,c3,rfl,h1,hP,lx,s1⟩
  have dk:=aha_ n hn
  rw[AH,AH,AN]at dk
  refine⟨_,rfl,_,rfl,n,p,xs,y5_ n,rfl,n1,n4,h1,Paired.mono (λ_ _ q=>q.2) hP,λi g hg=>?_,λl H2 hl s2 hL=>q l H2 (s1.free hl) (s1.trans s2) hL⟩
  have:=dk.1.1 i (Ar.mpr (AX.mp hg).1)
  rw[AH,AH,decide_eq_true_eq,AO,hg]at this
  exact⟨(z6_ this.1.1).mono (by decide) (by decide),(z6_ this.1.2).mono (by decide) (by decide),Ac this.2 (by decide)⟩
def qr_(n:Nat)(p:List Int):List Int:=(List.range p.length).map λ(i:Nat)=>p.getD i 0-(n:Int)+1+(i:Int)
def bfL(n:Nat)(D:List Mon):List Mon:=(D.filter λt=>isF (qr_ n t.1)).map λt=>(qB_ (qr_ n t.1),t.2)
theorem ajp_(n:Nat)(D:List Mon)(t:Mon):bfL n (D++[t])=bfL n D++if isF (qr_ n t.1)=true then [(qB_ (qr_ n t.1),t.2)] else []:=by
 unfold bfL
 rw[List.filter_append,Aj]
 congr 1
 cases c:isF (qr_ n t.1)<;>simp [c]
def bfF(n:Nat)(ts:List Mon):List Mon:=bfL n (norm (prd ts (qt_ n)))
theorem af0_(n:Nat)(p:List Int):(List.range (p.map V.int).length).filterMap (λ(i:Nat)=>(p[i]?).bind λx=>some (x-(n:Int)+1+(i:Int)))=qr_ n p:=by
 rw[AA]
 unfold qr_
 have key:∀m,m<=p.length->(List.range m).filterMap (λ(i:Nat)=>(p[i]?).bind λx=>some (x-(n:Int)+1+(i:Int)))=(List.range m).map λ(i:Nat)=>p.getD i 0-(n:Int)+1+(i:Int):=by
  intro m
  induction m with
  |zero=>intro _;rfl
  |succ m ih =>
   intro hm
   rw[BZ,C8,Aj,ih (by omega)]
   congr 1
   have:p[m]?=some p[m]:=AJ (by omega)
   simp [this]
 exact key _ (AF _)
abbrev nBf:List Str:=["many", "some", "telling", "powers", "number", "lowered"]
abbrev bBf:List Str:=["place", "power", "many"]
theorem ndBf:bBf.Nodup:=by decide +kernel
theorem scBf:FnScope nBf ["many", "some"] (qh_ sBf):=⟨rfl,rfl,rfl,by decide +kernel,rfl,by decide +kernel,by decide +kernel⟩
def spBf:Sp:=λvs H Q _=>∃(n b:Nat)(a:Addr)(ts:List Mon),vs=[.int n,.ref a]/\1<=n/\n<=4/\LstAt H a ts/\Even n ts/\Deg n 8 b ts/\b<=90000/\ts.length<=1000/\∀(l:Addr)(H':Hp),H l=none->Same H H'->LstAt H' l (bfF n ts)->Q (.ref l) H'
theorem aqp_(F:Fun K "by_fillings" "by_fillings" sBf f fd)(GU:Has P w K mg base 8 "refuse_uneven" ["many", "some"] spUn)(GM:Has P w K mg base 8 "multiplied" ["one", "other"] aay_)(GD:Has P w K mg base 8 "differences" ["many"] spDf)(GF:Has P w K mg base 8 "falls" ["powers"] spFa)(GR:Has P w K mg base 8 "row_of" ["powers"] spRf)(mt:mg "tuple" = none)(me:mg "enumerate" = none):FnOk P w K mg base CX0 9 f fd ["many", "some"] spBf:=by
 refine F.ok scBf (λvs H Q E h=>?_) (λcdv A outer s H vs Q E hr h=>?_)
 ·obtain⟨n,b,a,ts,rfl,_⟩:=h
  rfl
 obtain⟨n,b,a,ts,rfl,n1,n4,hA,hE,hD,hb,hl,q⟩:=h
 have hn:n∈[1,2,3,4]:=by
  have:n=1∨n=2∨n=3∨n=4:=by omega
  rcases this with rfl|rfl|rfl|rfl<;>simp
 refine⟨_,qe_ (qK_ (qi_ GU hr rfl (qa_ (pv 0) (qa_ (pv 1) qb_))))
  (qe_ (qo_ (i:=2) scBf.nd rfl (Or.inl rfl) (qJ_ qb_))
  (qe_ (qE_ Al rfl (qz_ (qi_ GM hr rfl (qa_ (pv 1) (qa_ (qi_ GD hr rfl (qa_ (pv 0) qb_)) qb_)))) (zh_ rfl (qp_ (qj_ (i:=3) scBf.nd rfl (Or.inl rfl)) (qp_ (qj_ (i:=4) scBf.nd rfl (Or.inl rfl)) q6_)))
   (qe_ (qo_ (i:=5) scBf.nd rfl (Or.inl rfl) (qO_ qP_ rfl mt BL (qa_ (qN_ (N':=bBf) (src:=[none,none,some 0]) rfl (ac7_ .tup rfl me (qa_ (pv 3) qb_)) (zb_ (qh_ sBf) nBf (by decide +kernel))
    (λb=>zh_ rfl (qp_ (qj_ (i:=0) ndBf rfl (Or.inl rfl)) (qp_ (qj_ (i:=1) ndBf rfl (Or.inl rfl)) q6_))) (λb=>qX_) (λb=>ql_ qS_ (ql_ qS_ (ql_ zD_ (pv 1) (pv 2)) qg_) (pv 0))) qb_)))
   (qf_ (q0_ (vo_ (qi_ GF hr rfl (qa_ (pv 5) qb_))) (qf_ (qK_ (jM_ BK BF BG q7_ (pv 2) (qa_ (qs_ (qa_ (qi_ GR hr rfl (qa_ (pv 5) qb_)) (qa_ (pv 4) qb_))) qb_)))) qG_))))
  (qf_ (qm_ (pv 2))))),?_⟩
 have dk:=aha_ n hn
 rw[AH,AH,decide_eq_true_eq]at dk
 have dD:=z6_ dk.1.2
 have lD:=dk.2
 refine⟨_,rfl,_,rfl,n,a,ts,rfl,n1,n4,hA,hD.len,by omega,hE,λH1 s1=>?_⟩
 refine⟨(by show 0<=sizeLine;decide),λlT hT=>?_⟩
 have s2:=qd_ hT (.lst [])
 refine⟨_,rfl,_,rfl,n,rfl,hn,λl3 H3 h3 s3 hL3=>?_⟩
 have hm:ts.length*(qt_ n).length<=1000*24:=C0 hl lD
 refine⟨a,l3,n,8,6,b,10,ts,qt_ n,rfl,hA.mono (s1.trans (s2.trans s3)),hL3,hD,dD,n1,n4,by omega,by decide,by omega,λl4 H4 h4 s4 hL4=>?_⟩
 have hlen:∀t∈norm (prd ts (qt_ n)),t.1.length=n:=λt ht=>by
  obtain⟨u,hu,e⟩:=qC_ ht
  rw[<-e]
  exact(hD.prd dD).len u hu
 have few:(norm (prd ts (qt_ n))).length<=24000:=by
  have:=zn_ (prd ts (qt_ n))
  rw[j2_]at this
  omega
 unfold bfF at q
 generalize norm (prd ts (qt_ n))=W at hL4 hlen few q
 obtain⟨vs,eW,iW⟩:=hL4
 have lv:=AQ iW
 have sA:=s1.trans (s2.trans (s3.trans s4))
 have fT:H lT=none:=s1.free hT
 have z34:=s3.trans s4
 have n4T:l4≠lT:=λe=>by
  have:=s3 _ _ (qc_ (H:=H1) (a:=lT) (o:=.lst []))
  rw[e,this]at h4
  cases h4
 refine⟨l4,rfl,⟨_,SqL.of eW⟩,?_⟩
 refine qL_ (xs:=vs) (λi σ H'=>(∃c3 c4 c5,σ=[some (.int n),some (.ref a),some (.ref lT),c3,c4,c5])/\LstAt H' lT (bfL n (W.take i))/\But lT H4 H'/\Tups H4 H'/\Same H H') ?_ ?_ ?_ ?_
 ·exact⟨⟨_,_,_,rfl⟩,⟨[],z34 _ _ qc_,.nil⟩,λ_ _ _ e=>e,Tups.refl _,sA⟩
 ·rintro i σ H5 _ ⟨_,_,b5,_,_⟩
  exact SqL.of (b5 _ _ n4T eW)
 ·rintro i v σ H5 hv ⟨⟨c3,c4,c5,rfl⟩,hL5,b5,t5,s5⟩
  obtain⟨t,ht,hi⟩:=qV_ iW hv
  obtain⟨p,kk,rfl,hp,hkk⟩:=zY_ hi
  have li:i<W.length:=(AX.mp ht).1
  have tl:=hlen t (Ag ht)
  have hk5:=t5 _ _ hkk
  obtain⟨us,eU,iU⟩:=id hL5
  have lu:=AQ iU
  have lu2:(bfL n (W.take i)).length<=i:=by
   unfold bfL
   rw[AA]
   have:=CJ (λt:Mon=>isF (qr_ n t.1)) (W.take i)
   rw[AW]at this
   omega
  refine⟨p,_,rfl,SqT.of (t5 _ _ hp),rfl,_,_,rfl,_,_,rfl,rfl,?_⟩
  refine⟨_,rfl,kk,rfl,⟨_,SqT.of hk5⟩,λbk D hD'=>?_⟩
  refine af2_ (α:=Int) (k1:=.tup) (xs:=t.1.map V.int) hD' (SqT.of hk5) (λσ=>∃c d,σ=[c,d,some (.int n)]) (λi=>(t.1[i]?).bind λx=>some (x-(n:Int)+1+(i:Int))) (small (by rw[AA];omega)) ?_ ?_ ?_
  ·exact⟨_,_,rfl⟩
  ·rintro i v p2 σ H6 Yes No hv hp2 ⟨c,d,rfl⟩ s6 yes no
   obtain⟨x,hx,rfl⟩:∃x,t.1[i]?=some x/\V.int x=v:=by
    rw[AV]at hv
    cases e:t.1[i]? with
    |none=>rw[e]at hv;cases hv
    |some y=>rw[e]at hv;exact⟨y,rfl,AZ hv⟩
   refine⟨p2,_,rfl,SqT.of qc_,rfl,_,_,rfl,_,_,rfl,rfl,?_⟩
   refine yV_ ?_
   refine⟨_,rfl,_,rfl,_,_,rfl,rfl,_,_,rfl,rfl,_,rfl,_,_,rfl,rfl,?_⟩
   exact yes _ _ _ (x-(n:Int)+1+(i:Int)) ⟨_,_,rfl⟩ (qd_ hp2 _) (by rw[hx];rfl) rfl
  rintro H6 s6 ⟨ws,eD,iD⟩
  rw[zK_ iD,af0_]at eD
  refine⟨D,_,rfl,.inl ⟨SqL.of eD,λt7 h7=>?_⟩⟩
  have s7:=qd_ h7 (.tup ((qr_ n t.1).map V.int))
  have z67:=s6.trans s7
  refine⟨_,rfl,t7,qr_ n t.1,rfl,qc_,λH8 s8=>?_⟩
  have z68:=z67.trans s8
  have h78:=s8 _ _ (qc_ (H:=H6) (a:=t7) (o:=.tup ((qr_ n t.1).map V.int)))
  have ll:(qr_ n t.1).length<=1000:=by
   unfold qr_
   rw[AA,A0]
   omega
  rw[qI_ ht,ajp_]
  generalize isF (qr_ n t.1)=c
  cases c with
  |false =>
   refine⟨_,rfl,ji_ ⟨⟨_,_,_,rfl⟩,?_,λb o nb e=>z68 _ _ (b5 b o nb e),t5.trans (Tups.same z68),s5.trans z68⟩⟩
   rw[if_neg (by decide),BP]
   exact hL5.mono z68
  |true =>
   have eU8:=z68 _ _ eU
   refine⟨_,rfl,xp_ ⟨_,rfl,.inl ⟨rfl,_,SqL.of eU8⟩,_,rfl,t7,qr_ n t.1,rfl,h78,ll,λt9 H9 s9 h9=>?_⟩⟩
   refine⟨_,rfl,(by show 2<=sizeLine;decide),λt10 h10=>?_⟩
   have s10:=qd_ h10 (.tup [.ref t9,.int t.2])
   have zz:=z68.trans (s9.trans s10)
   have eU10:=zz _ _ eU
   refine⟨lT,us,_,rfl,rfl,eU10,zE_ (by omega),⟨_,_,_,rfl⟩,?_,λb o nb e=>?_,t5.trans ((Tups.same zz).trans (jp_ eU10 _)),λb o e=>?_⟩
   ·rw[if_pos rfl]
    exact⟨us++[.ref t10],qc_,Paired.app (Its.mono ((Tups.same zz).trans (jp_ eU10 _)) iU) (.cons (Dat.mono (jp_ eU10 _) (zo_ (t:=(qB_ (qr_ n t.1),t.2)) qc_ (s10 _ _ h9))) .nil)⟩
   ·rw[qk_ nb]
    exact zz _ _ (b5 b o nb e)
   ·rw[qk_ (qn_ e fT)]
    exact zz _ _ (s5 b o e)
 ·rintro σ H5 ⟨⟨c3,c4,c5,rfl⟩,hL5,b5,t5,s5⟩
  rw[AU (by omega)]at hL5
  exact⟨_,rfl,q lT H5 fT s5 hL5⟩
theorem ys_{r:List Int}(h:zq_ r=true):(∀x∈r,1<=x/\x<=8)/\(r.Pairwise λa b=>b<=a)/\r.sum<=8:=by
 unfold zq_ at h
 rw[AH,AH,AN,AN,decide_eq_true_eq]at h
 obtain⟨⟨h1,h2⟩,h3⟩:=h
 have p:∀x∈r,0<=x:=λx hx=>by have:=of_decide_eq_true (h1 x hx);omega
 refine⟨λx hx=>⟨of_decide_eq_true (h1 x hx),by have:=(jR_ p hx).1;omega⟩,?_,h3⟩
 have step:∀i,i+1<r.length->r.getD (i+1) 0<=r.getD i 0:=λi hi=>of_decide_eq_true (h2 i (Ar.mpr (by omega)))
 have all:∀k i,i+k<r.length->r.getD (i+k) 0<=r.getD i 0:=by
  intro k
  induction k with
  |zero=>intro i _;exact By _
  |succ k ih =>
   intro i hi
   have:=ih i (by omega)
   have:=step (i+k) (by omega)
   rw[show i+(k+1)=i+k+1 by omega]
   omega
 refine Bc.mpr λi j hi hj hij=>?_
 have:=all (j-i) i (by omega)
 rw[show i+(j-i)=j by omega,AO,AO,AJ hi,AJ hj]at this
 exact this
abbrev nCf:List Str:=["row", "least"]
abbrev bCf:List Str:=["number", "least"]
theorem ndCf:bCf.Nodup:=by decide +kernel
theorem scCf:FnScope nCf nCf (qh_ sCf):=⟨rfl,rfl,rfl,by decide +kernel,rfl,by decide +kernel,by decide +kernel⟩
def cfr(r:List Int)(k:Int):Int:=((r.filter λx=>decide (k<=x)).length:Int)
def spCf:Sp:=λvs H Q _=>∃(p:Addr)(r:List Int)(k:Int),vs=[.ref p,.int k]/\H p=some (.tup (r.map V.int))/\r.length<=1000/\∀H',Same H H'->Q (.int (cfr r k)) H'
theorem afu_(r:List Int)(c:Int->Prop)[DecidablePred c](n:Nat)(h:n=r.length):(List.range n).filterMap (λi=>(r[i]?).bind λx=>if c x then some x else none)=r.filter λx=>decide (c x):=by
 rw[h,qT_,zS_]
 exact D9 _
theorem aqj_(F:Fun K "count_from" "count_from" sCf f fd)(ml:mg "len" = none):FnOk P w K mg base CX0 2 f fd nCf spCf:=by
 refine F.ok scCf (λvs H Q E h=>?_) (λcdv A outer s H vs Q E hr h=>?_)
 ·obtain⟨p,r,k,rfl,_⟩:=h
  rfl
 obtain⟨p,r,k,rfl,hp,hl,q⟩:=h
 refine⟨_,qf_ (qm_ (qD_ q4_ rfl ml B6 (qa_ (qN_ (N':=bCf) (src:=[none,some 1]) rfl (jB_ (pv 0)) (zb_ (qh_ sCf) nCf (by decide +kernel))
   (λb=>qj_ (i:=0) ndCf rfl (Or.inl rfl)) (λb=>xr_ (qy_ ao4_ (pv 0) (pv 1) (qv_ _))) (λb=>pv 0)) qb_))),?_⟩
 refine⟨_,rfl,p,rfl,⟨_,SqT.of hp⟩,λbk D hD=>?_⟩
 refine xc_ (α:=Int) hD (SqT.of hp) (λσ=>∃c,σ=[c,some (.int k)]) (λi=>(r[i]?).bind λx=>if k<=x then some x else none) (small (by rw[AA];omega)) ?_ ?_ ?_
 ·exact⟨_,rfl⟩
 ·rintro i v σ H2 Yes No hv ⟨c,rfl⟩ s3 yes no
  obtain⟨x,hx,rfl⟩:∃x,r[i]?=some x/\V.int x=v:=by
   rw[AV]at hv
   cases e:r[i]? with
   |none=>rw[e]at hv;cases hv
   |some y=>rw[e]at hv;exact⟨y,rfl,AZ hv⟩
  refine⟨_,rfl,_,rfl,_,_,rfl,rfl,_,rfl,?_⟩
  by_cases c:k<=x
  ·refine xX_ c ⟨_,rfl,?_⟩
   exact yes _ _ _ x ⟨_,rfl⟩ (λ_ _ e=>e) (by rw[hx];exact if_pos c) rfl
  ·exact jV_ c (no _ _ ⟨_,rfl⟩ (λ_ _ e=>e) (by rw[hx];exact if_neg c))
 rintro H1 s1 ⟨ws,eD,iD⟩
 have lw:=AQ iD
 rw[afu_ r (λx=>k<=x) _ (by rw[AA])]at lw
 refine⟨D,_,rfl,.inl (SqL.of eD),?_⟩
 rw[lw]
 exact q H1 s1
abbrev nTo:List Str:=["row"]
abbrev bTo:List Str:=["place", "row"]
theorem ndTo:bTo.Nodup:=by decide +kernel
theorem scTo:FnScope nTo nTo (qh_ sTo):=⟨rfl,rfl,rfl,by decide +kernel,rfl,by decide +kernel,by decide +kernel⟩
def mxr(r:List Int):Int:=r.foldl max 0
def tov(r:List Int):List Int:=(List.range (mxr r).toNat).map λ(i:Nat)=>cfr r ((i:Int)+1)
theorem agy_{r:List Int}{M:Int}(nn:∀x∈r,0<=x)(h:(r=[]/\M=0)∨(M∈r/\∀x∈r,x<=M)):M=mxr r:=by
 have key:∀(l:List Int)(a:Int),(a<=l.foldl max a/\(∀x∈l,x<=l.foldl max a)/\(l.foldl max a=a∨l.foldl max a∈l)):=by
  intro l
  induction l with
  |nil=>intro a;exact⟨By _,by simp,.inl rfl⟩
  |cons y l ih =>
   intro a
   obtain⟨h1,h2,h3⟩:=ih (max a y)
   rw[BY]
   refine⟨by omega,λx hx=>?_,?_⟩
   ·rcases AL.mp hx with rfl|hx
    ·omega
    ·exact h2 x hx
   ·rcases h3 with h3|h3
    ·rw[h3]
     by_cases c:a<=y
     ·exact .inr (by rw[Int.max_eq_right c];exact AD ..)
     ·exact .inl (by rw[Int.max_eq_left (by omega)])
    ·exact .inr (AC _ h3)
 obtain⟨h1,h2,h3⟩:=key r 0
 unfold mxr
 rcases h with⟨rfl,rfl⟩|⟨hm,hM⟩
 ·rfl
 ·have a1:=h2 M hm
  rcases h3 with h3|h3
  ·have:=nn M hm
   omega
  ·have:=hM _ h3
   omega
def spTo:Sp:=λvs H Q _=>∃(p:Addr)(r:List Int),vs=[.ref p]/\H p=some (.tup (r.map V.int))/\r.length<=1000/\(∀x∈r,0<=x)/\mxr r<=1000/\∀(t:Addr)(H':Hp),Same H H'->H' t=some (.tup ((tov r).map V.int))->Q (.ref t) H'
theorem apr_(F:Fun K "turned_over" "turned_over" sTo f fd)(G:Has P w K mg base 2 "count_from" nCf spCf)(mx:mg "max" = none)(mr:mg "range" = none)(mt:mg "tuple" = none):FnOk P w K mg base CX0 3 f fd nTo spTo:=by
 refine F.ok scTo (λvs H Q E h=>?_) (λcdv A outer s H vs Q E hr h=>?_)
 ·obtain⟨p,r,rfl,_⟩:=h
  rfl
 obtain⟨p,r,rfl,hp,hl,nn,hm,q⟩:=h
 refine⟨_,qf_ (qm_ (qO_ qP_ rfl mt BL (qa_ (qN_ (N':=bTo) (src:=[none,some 0]) rfl
   (zw_ rfl mr (qa_ (amb_ rfl rfl mx (qa_ (pv 0) qb_)) qb_)) (zb_ (qh_ sTo) nTo (by decide +kernel))
   (λb=>qj_ (i:=0) ndTo rfl (Or.inl rfl)) (λb=>qX_) (λb=>qi_ G hr rfl (qa_ (pv 1) (qa_ (ql_ qS_ (pv 0) qg_) qb_)))) qb_))),?_⟩
 refine⟨_,rfl,p,r,rfl,.inr (SqT.of hp),λM hM=>?_⟩
 rw[agy_ nn hM]
 have m0:0<=mxr r:=by
  rw[<-agy_ nn hM]
  rcases hM with⟨_,rfl⟩|⟨hm,_⟩
  ·exact By _
  ·exact nn M hm
 refine⟨_,rfl,by omega,by omega,λbk D hD=>?_⟩
 refine vl_ (α:=Int) hD (λσ=>∃c,σ=[c,some (.ref p)]) (λ(i:Nat)=>some (cfr r ((i:Int)+1))) (small (by omega)) ?_ ?_ ?_
 ·exact⟨_,rfl⟩
 ·rintro i σ H2 Yes No hi ⟨c,rfl⟩ s3 yes no
  refine zV_ ?_
  refine⟨_,rfl,_,rfl,_,_,rfl,rfl,p,r,_,rfl,s3 _ _ hp,hl,λH4 s4=>?_⟩
  rw[B8]
  exact yes _ _ _ _ ⟨_,rfl⟩ s4 rfl rfl
 rintro H1 s1 ⟨ws,eD,iD⟩
 rw[zK_ iD,Aw]at eD
 refine⟨D,_,rfl,.inl ⟨SqL.of eD,λt ht=>?_⟩⟩
 exact q t _ (s1.trans (qd_ ht _)) qc_
def spTn:Sp:=λvs H Q _=>∃(p:Addr)(r:List Int),vs=[.ref p]/\H p=some (.tup (r.map V.int))/\r.length<=1000/\zq_ r=true/\(∀x∈r,0<=x)/\mxr r<=1000/\∀(t:Addr)(H':Hp),Same H H'->H' t=some (.tup ((tov r).map V.int))->Q (.ref t) H'
theorem scTn:FnScope nTo nTo (qh_ sTd):=⟨rfl,rfl,rfl,by decide +kernel,rfl,by decide +kernel,by decide +kernel⟩
theorem apn_(F:Fun K "turned" "turned" sTd f fd)(GR:Has P w K mg base 3 "refuse_bad_row" nRb yv_)(G:Has P w K mg base 3 "turned_over" nTo spTo):FnOk P w K mg base CX0 4 f fd nTo spTn:=by
 refine F.ok scTn (λvs H Q E h=>?_) (λcdv A outer s H vs Q E hr h=>?_)
 ·obtain⟨p,r,rfl,_⟩:=h
  rfl
 obtain⟨p,r,rfl,hp,hl,hB,h0,hx,q⟩:=h
 refine⟨_,qe_ (qK_ (qi_ GR hr rfl (qa_ (pv 0) qb_))) (qf_ (qm_ (qi_ G hr rfl (qa_ (pv 0) qb_)))),?_⟩
 refine⟨_,rfl,p,r,rfl,hp,hl,hB,λH1 s1=>?_⟩
 exact⟨_,rfl,p,r,rfl,s1 _ _ hp,hl,h0,hx,λt H2 s2 h2=>q t H2 (s1.trans s2) h2⟩
def rws:Nat->Nat->Nat->List (List Int)
 |0,_,_=>[[]]
 |m+1,top,left=>[]::(List.range (min top left)).flatMap λ(i:Nat)=>(rws m (i+1) (left-(i+1))).map λr=>((i+1:Nat):Int)::r
theorem xC_:∀(m:Nat)(r:List Int)(top left:Nat),r.length<=m->(r.Pairwise λa b=>b<=a)->(∀x∈r,0<x)->(∀x∈r,x<=(top:Int))->r.sum<=(left:Int)->r∈rws m top left
 |0,[],_,_,_,_,_,_,_=>by simp [rws]
 |0,x::r,_,_,h,_,_,_,_=>by simp at h
 |m+1,[],_,_,_,_,_,_,_=>by simp [rws]
 |m+1,x::r,top,left,h,f,p,t,s=>by
  obtain⟨f1,f2⟩:=Ah.mp f
  have px:=p x (AD ..)
  have tx:=t x (AD ..)
  rw[Ad]at s
  have r0:0<=r.sum:=by
   have:∀l:List Int,(∀y∈l,0<y)->0<=l.sum:=λl hl=>by
    induction l with
    |nil=>simp
    |cons y l ih =>
     rw[Ad]
     have:=hl y (AD ..)
     have:=ih λz hz=>hl z (AC _ hz)
     omega
   exact this r λy hy=>p y (AC _ hy)
  unfold rws
  refine AC _ (BE.mpr ⟨(x-1).toNat,Ar.mpr (by omega),AR.mpr ⟨r,xC_ m r _ _ (by simpa using h) f2 (λy hy=>p y (AC _ hy)) (λy hy=>?_) (by omega),?_⟩⟩)
  ·have:=f1 y hy
   omega
  ·rw[show(((x-1).toNat+1:Nat):Int)=x by omega]
def sfB(p:Pw):Bool:=(List.range (p.length-1)).all λi=>decide (p.getD (i+1) 0<p.getD i 0)
def rowK(n:Nat)(r:List Int):Bool:=((xn_ n r).all λp=>p.all (λx=>decide (0<=x))&&decide (p.sum<=8))
theorem an0_:∀n∈([1,2,3,4]:List Nat),(rws n 8 8).all (rowK n)=true:=by decide +kernel
def tri(n:Nat):Nat:=n*(n-1) / 2
theorem jE_:∀n∈([1,2,3,4]:List Nat),qt_ n=norm (q1_ n [])/\((qt_ n).head?.map (·.2))=some 1/\x7_ n (tri n) 10 (qt_ n)=true/\(qt_ n).length<=24/\(rws n 8 8).length<=53/\((List.range (n-1)).all λk=>decide (norm (sws (qt_ n) k)=norm (ngt (qt_ n))))=true:=by decide +kernel
theorem zz_{n:Nat}(n1:1<=n)(n4:n<=4):n∈([1,2,3,4]:List Nat):=by
 have:n=1∨n=2∨n=3∨n=4:=by omega
 rcases this with rfl|rfl|rfl|rfl<;>simp
theorem ag6_:∀p q:List Int,p.length=q.length->(p.Pairwise λa b=>b<=a)->(q.Pairwise λa b=>b<=a)->(∀x∈p,0<=x)->(∀x∈q,0<=x)->lxl q p=true->lxl (qB_ q) (qB_ p)=true
 |[],[],_,_,_,_,_,h=>by simp [lxl]at h
 |[],_::_,h,_,_,_,_,_=>by simp at h
 |_::_,[],h,_,_,_,_,_=>by simp at h
 |a::p,b::q,hl,fp,fq,np,nq,h=>by
  obtain⟨p1,p2⟩:=Ah.mp fp
  obtain⟨q1,q2⟩:=Ah.mp fq
  have a0:=np a (AD ..)
  have b0:=nq b (AD ..)
  have zero:∀l:List Int,(∀x∈l,x<=0)->qB_ l=[]:=λl hl=>by
   unfold qB_
   rw[ED]
   intro x hx
   have:=hl x hx
   simp
   omega
  by_cases e:b=a
  ·subst e
   have h':lxl q p=true:=by simpa [lxl]using h
   by_cases z:0<b
   ·have e1:qB_ (b::p)=b::qB_ p:=by unfold qB_;rw[Av];simp [z]
    have e2:qB_ (b::q)=b::qB_ q:=by unfold qB_;rw[Av];simp [z]
    rw[e1,e2]
    have ih:=ag6_ p q (by simpa using hl) p2 q2 (λx hx=>np x (AC _ hx)) (λx hx=>nq x (AC _ hx)) h'
    simpa [lxl]using ih
   ·exfalso
    have ep:p=q:=by
     have r1:∀l:List Int,(∀x∈l,x<=b)->(∀x∈l,0<=x)->l=List.replicate l.length 0:=λl h1 h2=>EO.mpr ⟨rfl,λx hx=>by have:=h1 x hx;have:=h2 x hx;omega⟩
     rw[r1 p p1 λx hx=>np x (AC _ hx),r1 q q1 λx hx=>nq x (AC _ hx)]
     rw[show p.length=q.length by simpa using hl]
    rw[ep]at h'
    have:=lin_lxl.irr q
    rw[this]at h'
    cases h'
  ·have h':b<a:=by simpa [lxl,e]using h
   have e1:qB_ (a::p)=a::qB_ p:=by unfold qB_;rw[Av];simp [show 0<a by omega]
   rw[e1]
   by_cases z:0<b
   ·have e2:qB_ (b::q)=b::qB_ q:=by unfold qB_;rw[Av];simp [z]
    rw[e2]
    simpa [lxl,e]using h'
   ·rw[zero (b::q) λx hx=>by
     rcases AL.mp hx with rfl|hx
     ·omega
     ·have:=q1 x hx;omega]
    rfl
theorem jm_{p:Pw}(h:isF p=true):p.Pairwise λa b=>b<=a:=by
 rw[(ac9_ p).mp h]
 exact yj_ p
structure Rw8(n:Nat)(r:List Int):Prop where
 len:r.length<=n
 fall:r.Pairwise λa b=>b<=a
 pos:∀x∈r,0<x
 sum:r.sum<=8
theorem Rw8.ok{n:Nat}{r:List Int}(n1:1<=n)(n4:n<=4)(h:Rw8 n r):rowK n r=true:=by
 have m:n∈([1,2,3,4]:List Nat):=by
  have:n=1∨n=2∨n=3∨n=4:=by omega
  rcases this with rfl|rfl|rfl|rfl<;>simp
 refine AN.mp (an0_ n m) r (xC_ n r 8 8 h.len h.fall h.pos (λx hx=>?_) h.sum)
 have:∀l:List Int,(∀y∈l,0<y)->∀x∈l,x<=l.sum:=λl=>by
  induction l with
  |nil=>intro _ x hx;simp at hx
  |cons y l ih =>
   intro hl x hx
   have s0:0<=l.sum:=by
    have:∀l:List Int,(∀y∈l,0<y)->0<=l.sum:=λl hl=>by
     induction l with
     |nil=>simp
     |cons y l ih =>
      rw[Ad]
      have:=hl y (AD ..)
      have:=ih λz hz=>hl z (AC _ hz)
      omega
    exact this l λz hz=>hl z (AC _ hz)
   rw[Ad]
   rcases AL.mp hx with rfl|hx
   ·omega
   ·have:=ih (λz hz=>hl z (AC _ hz)) x hx
    have:=hl y (AD ..)
    omega
 have:=this r h.pos x hx
 have:=h.sum
 show x<=(8:Int)
 omega
theorem Rw8.all{n:Nat}{r:List Int}(n1:1<=n)(n4:n<=4)(h:Rw8 n r):∀p∈xn_ n r,(∀x∈p,0<=x)/\p.sum<=8:=by
 have k:=h.ok n1 n4
 unfold rowK at k
 rw[AN]at k
 intro p hp
 have:=k p hp
 rw[AH,decide_eq_true_eq,AN]at this
 exact⟨λx hx=>of_decide_eq_true (this.1 x hx),this.2⟩
theorem Rw8.mem{n:Nat}{r:List Int}(h:Rw8 n r):r∈rws n 8 8:=by
 refine xC_ n r 8 8 h.len h.fall h.pos (λx hx=>?_) h.sum
 have:∀l:List Int,(∀y∈l,0<y)->∀x∈l,0<=l.sum/\x<=l.sum:=λl=>by
  induction l with
  |nil=>intro _ x hx;simp at hx
  |cons y l ih =>
   intro hl x hx
   rw[Ad]
   have py:=hl y (AD ..)
   have hl':∀z∈l,0<z:=λz hz=>hl z (AC _ hz)
   have s0:0<=l.sum:=by
    cases l with
    |nil=>simp
    |cons z l=>exact(ih hl' z (AD ..)).1
   rcases AL.mp hx with rfl|hx
   ·omega
   ·have:=ih hl' x hx
    omega
 have:=(this r h.pos x hx).2
 have:=h.sum
 show x<=(8:Int)
 omega
structure Alt(n:Nat)(A:List Mon):Prop where
 len:∀t∈A,t.1.length=n
 nn:∀t∈A,∀x∈t.1,0<=x
 alt:∀k,k+1<n->norm (sws A k)=norm (ngt A)
theorem ais_{r:List Int}(step:∀i,i+1<r.length->r.getD (i+1) 0<=r.getD i 0):r.Pairwise λa b=>b<=a:=by
 have all:∀k i,i+k<r.length->r.getD (i+k) 0<=r.getD i 0:=by
  intro k
  induction k with
  |zero=>intro i _;exact By _
  |succ k ih =>
   intro i hi
   have:=ih i (by omega)
   have:=step (i+k) (by omega)
   rw[show i+(k+1)=i+k+1 by omega]
   omega
 refine Bc.mpr λi j hi hj hij=>?_
 have:=all (j-i) i (by omega)
 rw[show i+(j-i)=j by omega,AO,AO,AJ hi,AJ hj]at this
 exact this
theorem ah9_{r:List Int}(h:r.Pairwise λa b=>b<=a){i:Nat}(hi:i+1<r.length):r.getD (i+1) 0<=r.getD i 0:=by
 have:=Bc.mp h i (i+1) (by omega) hi (by omega)
 rw[AO,AO,AJ hi,AJ (by omega:i<r.length)]
 exact this
theorem zU_(n:Nat)(p:Pw):(qr_ n p).length=p.length:=by unfold qr_;rw[AA,A0]
theorem j5_{n:Nat}{p:Pw}{i:Nat}(h:i<p.length):(qr_ n p).getD i 0=p.getD i 0-(n:Int)+1+(i:Int):=by
 unfold qr_
 rw[AO,AV,CA h]
 rfl
theorem ag4_(n:Nat)(p:Pw):sfB p=isF (qr_ n p):=by
 have key:sfB p=true↔isF (qr_ n p)=true:=by
  constructor
  ·intro h
   rw[ac9_]
   refine afp_ (.refl _) (ais_ λi hi=>?_)
   rw[zU_]at hi
   unfold sfB at h
   have:=of_decide_eq_true (AN.mp h i (Ar.mpr (by omega)))
   rw[j5_ hi,j5_ (by omega)]
   omega
  ·intro h
   have f:=jm_ h
   unfold sfB
   refine AN.mpr λi hi=>decide_eq_true ?_
   have hi:=Ar.mp hi
   have:=ah9_ f (i:=i) (by rw[zU_];omega)
   rw[j5_ (by omega),j5_ (by omega)]at this
   omega
 cases c:sfB p with
 |true=>rw[key.mp c]
 |false =>
  cases d:isF (qr_ n p) with
  |true=>rw[key.mpr d]at c;cases c
  |false=>rfl
theorem adv_:∀{l:List Int},(l.Pairwise λa b=>b<=a)->(∀x∈l,0<=x)->∀k,(qB_ l).getD k 0=l.getD k 0
 |[],_,_,_=>rfl
 |a::l,f,h,k=>by
  obtain⟨f1,f2⟩:=Ah.mp f
  by_cases z:0<a
  ·have e1:qB_ (a::l)=a::qB_ l:=by unfold qB_;rw[Av];simp [z]
   rw[e1]
   cases k with
   |zero=>rfl
   |succ k =>
    show(qB_ l).getD k 0=l.getD k 0
    exact adv_ f2 (λx hx=>h x (AC _ hx)) k
  ·have all:∀x∈a::l,x=0:=λx hx=>by
    have:=h x hx
    rcases AL.mp hx with rfl|hx
    ·omega
    ·have:=f1 x hx
     omega
   have e1:qB_ (a::l)=[]:=by
    unfold qB_
    rw[ED]
    intro x hx
    simp [all x hx]
   have e2:a::l=List.replicate (a::l).length 0:=EO.mpr ⟨rfl,all⟩
   rw[e1,e2,AO,AO,C1]
   by_cases c:k<(a::l).length
   ·rw[if_pos c];rfl
   ·rw[if_neg c];rfl
theorem vA_:∀{l:List Int},(∀x∈l,0<=x)->(qB_ l).sum=l.sum
 |[],_=>rfl
 |x::l,h=>by
  have ih:=vA_ (l:=l) λy hy=>h y (AC _ hy)
  have:=h x (AD ..)
  unfold qB_ at ih ⊢
  rw[Av]
  by_cases z:0<x
  ·rw[if_pos (decide_eq_true z),Ad,Ad,ih]
  ·rw[if_neg (by rw[decide_eq_true_eq];exact z),Ad,ih];omega
theorem vt_{n:Nat}{p:Pw}(hl:p.length=n)(hp:∀x∈p,0<=x)(f:isF (qr_ n p)=true):∀x∈qr_ n p,0<=x:=by
 intro x hx
 obtain⟨i,hi,e⟩:=Ec hx
 rw[zU_]at hi
 have fl:=jm_ f
 have last:(0:Int)<=(qr_ n p).getD (n-1) 0:=by
  rw[j5_ (by omega)]
  have:0<=p.getD (n-1) 0:=by
   rw[AO,AJ (by omega:n-1<p.length)]
   exact hp _ (CS _)
  omega
 rw[AO,AJ (by rw[zU_];omega)]at last
 by_cases c:i=n-1
 ·subst c
  rw[<-e]
  exact last
 ·have:=Bc.mp fl i (n-1) (by rw[zU_];omega) (by rw[zU_];omega) (by omega)
  rw[e]at this
  exact Int.le_trans last this
theorem ahf_{n:Nat}{p:Pw}(hl:p.length=n)(hp:∀x∈p,0<=x)(f:isF (qr_ n p)=true):ph n (qB_ (qr_ n p))=p:=by
 unfold ph
 refine Cg λi=>?_
 rw[AV]
 by_cases c:i<n
 ·rw[CA c,AJ (by omega:i<p.length)]
  show some ((qB_ (qr_ n p)).getD i 0+(n:Int)-1-(i:Int))=_
  rw[adv_ (jm_ f) (vt_ hl hp f),j5_ (by omega),AO,AJ (by omega:i<p.length)]
  show some (p[i]-(n:Int)+1+(i:Int)+(n:Int)-1-(i:Int))=some p[i]
  congr 1
  omega
 ·rw[Ch (by rw[A0];omega),Ch (by omega)]
  rfl
theorem ald_{n:Nat}{p:Pw}(n1:1<=n)(n4:n<=4)(hl:p.length=n):(qr_ n p).sum+(tri n:Int)=p.sum:=by
 have:n=1∨n=2∨n=3∨n=4:=by omega
 rcases this with rfl|rfl|rfl|rfl
 ·match p,hl with
  |[a],_=>simp [qr_,BZ,tri];try omega
 ·match p,hl with
  |[a,b],_=>simp [qr_,BZ,tri];omega
 ·match p,hl with
  |[a,b,c],_=>simp [qr_,BZ,tri];omega
 ·match p,hl with
  |[a,b,c,d],_=>simp [qr_,BZ,tri];omega
theorem alx_{n:Nat}{p:Pw}(n1:1<=n)(n4:n<=4)(hl:p.length=n)(hp:∀x∈p,0<=x)(hs:p.sum<=((8+tri n:Nat):Int))(f:isF (qr_ n p)=true):Rw8 n (qB_ (qr_ n p)):=by
 have nn:=vt_ hl hp f
 refine⟨?_,(jm_ f).filter _,λx hx=>of_decide_eq_true (BR.mp hx).2,?_⟩
 ·have:=CJ (λx:Int=>decide (0<x)) (qr_ n p)
  unfold qB_
  rw[zU_]at this
  omega
 ·rw[vA_ nn]
  have:=ald_ n1 n4 hl
  omega
theorem ag3_{n:Nat}{W:List Mon}(c:Canon W)(hl:∀t∈W,t.1.length=n)(hn:∀t∈W,∀x∈t.1,0<=x):Canon (bfL n W):=by
 unfold bfL
 refine⟨?_,λu hu=>?_⟩
 ·rw[B0]
  refine((c.ord.filter _).imp_of_mem λ{a b} ha hb h=>?_)
  obtain⟨a1,a2⟩:=BR.mp ha
  obtain⟨b1,b2⟩:=BR.mp hb
  have key:∀(p q:Pw)(k:Int),p.length=q.length->lxl q p=true->lxl ((List.range q.length).map λ(i:Nat)=>q.getD i 0-(n:Int)+k+(i:Int)) ((List.range p.length).map λ(i:Nat)=>p.getD i 0-(n:Int)+k+(i:Int))=true:=by
   intro p
   induction p with
   |nil=>intro q k h1 h2;cases q with
    |nil=>simp [lxl]at h2
    |cons=>simp at h1
   |cons x p ih =>
    intro q k h1 h2
    cases q with
    |nil=>simp at h1
    |cons y q =>
     rw[Am,Am,B3,B3,Ae,Ae,B4,B4]
     have e1:∀z:List Int,∀w:Int,((λ(i:Nat)=>(w::z).getD i 0-(n:Int)+k+(i:Int)) ∘ Nat.succ)=λ(i:Nat)=>z.getD i 0-(n:Int)+(k+1)+(i:Int):=λz w=>by
      funext i
      show z.getD i 0-(n:Int)+k+((i+1:Nat):Int)=_
      omega
     rw[e1,e1]
     by_cases e:y=x
     ·subst e
      have h2':lxl q p=true:=by simpa [lxl]using h2
      have:=ih q (k+1) (by simpa using h1) h2'
      simpa [lxl]using this
     ·have h2':y<x:=by simpa [lxl,e]using h2
      have e3:¬ (y-(n:Int)+k=x-(n:Int)+k):=by omega
      have e4:y-(n:Int)+k<x-(n:Int)+k:=by omega
      simp only[lxl,List.getD_cons_zero]
      simp [e]
      omega
  exact ag6_ _ _ (by rw[zU_,zU_,hl a a1,hl b b1]) (jm_ a2) (jm_ b2) (vt_ (hl a a1) (hn a a1) a2) (vt_ (hl b b1) (hn b b1) b2) (key a.1 b.1 1 ((hl a a1).trans (hl b b1).symm) h)
 ·obtain⟨t,ht,rfl⟩:=AR.mp hu
  exact c.num t (BR.mp ht).1
theorem abt_{n b:Nat}{S:List Mon}(n1:1<=n)(n4:n<=4)(hE:Even n S)(hD:Deg n 8 b S):Alt n (norm (prd S (qt_ n)))/\∀t∈norm (prd S (qt_ n)),t.1.sum<=((8+tri n:Nat):Int):=by
 obtain⟨d1,d2,d3,d4,d5,d6⟩:=jE_ n (zz_ n1 n4)
 have dD:=z6_ d3
 have pD:=hD.prd dD
 have mem:∀t∈norm (prd S (qt_ n)),∃u∈prd S (qt_ n),u.1=t.1:=λt ht=>qC_ ht
 refine⟨⟨λt ht=>?_,λt ht=>?_,λk hk=>?_⟩,λt ht=>?_⟩
 ·obtain⟨u,hu,e⟩:=mem t ht
  rw[<-e]
  exact pD.len u hu
 ·obtain⟨u,hu,e⟩:=mem t ht
  rw[<-e]
  exact pD.nn u hu
 ·have a1:=of_decide_eq_true (AN.mp d6 k (Ar.mpr (by omega)))
  rw[yi_ hD.len dD.len hk]
  refine zv_ λF=>?_
  have h1:norm (sws S k)=norm S:=hE k hk
  rw[h1,a1,qU_,qq_,je_,qq_]
  have:(λp=>sm (λq=>F (pad p q)) (norm (ngt (qt_ n))))=λp=>- sm (λq=>F (pad p q)) (qt_ n):=by
   funext p
   rw[qq_,je_]
  rw[this,qU_]
  have:=yJ_ (λp=>sm (λq=>F (pad p q)) (qt_ n)) (-1) S
  have e2:(λp=>(-1:Int)*sm (λq=>F (pad p q)) (qt_ n))=λp=>- sm (λq=>F (pad p q)) (qt_ n):=by
   funext p
   omega
  rw[e2]at this
  omega
 ·obtain⟨u,hu,e⟩:=mem t ht
  rw[<-e]
  exact pD.sum u hu
theorem yS_{n b:Nat}{S:List Mon}(n1:1<=n)(n4:n<=4)(hE:Even n S)(hD:Deg n 8 b S):Canon (bfF n S):=by
 obtain⟨hW,_⟩:=abt_ n1 n4 hE hD
 exact ag3_ (qM_ _) hW.len hW.nn
theorem aj3_{T:List Mon}(c:Canon T):Nd T:=by
 unfold Nd
 rw[List.Nodup,B0]
 refine c.ord.imp λ{x y} z e=>?_
 rw[e,ze_]at z
 cases z
theorem abk_{n:Nat}{S:List Mon}(n1:1<=n)(n4:n<=4)(hl:S.length<=1000):(bfF n S).length<=24000:=by
 obtain⟨_,_,_,d4,_,_⟩:=jE_ n (zz_ n1 n4)
 unfold bfF bfL
 rw[AA]
 have h1:=CJ (λt:Mon=>isF (qr_ n t.1)) (norm (prd S (qt_ n)))
 have h2:=zn_ (prd S (qt_ n))
 rw[j2_]at h2
 have:=C0 hl d4
 omega
theorem ac1_{n b:Nat}{S:List Mon}(n1:1<=n)(n4:n<=4)(hD:Deg n 8 b S)(hl:S.length<=1000):∀t∈bfF n S,t.2.natAbs<2^(b+25):=λt ht=>by
 obtain⟨_,_,d3,d4,_,_⟩:=jE_ n (zz_ n1 n4)
 have dD:=(hD.prd (z6_ d3)).norm (k:=15) (by rw[j2_];have:=C0 hl d4;omega)
 unfold bfF bfL at ht
 obtain⟨u,hu,rfl⟩:=AR.mp ht
 have:=dD.num u (BR.mp hu).1
 rw[show b+10+15=b+25 by omega]at this
 exact this
theorem ak1_{T:List Mon}{b:Nat}(c:Canon T)(h:∀t∈T,t.2.natAbs<2^b)(p:Pw):(cf T p).natAbs<2^b:=by
 by_cases q:∃t∈T,t.1=p
 ·obtain⟨t,ht,rfl⟩:=q
  rw[y9_ c ht]
  exact h t ht
 ·rw[zs_ λt ht e=>q ⟨t,ht,e⟩]
  exact Eo (by decide)
def jP_(n:Nat)(f g:List Mon):Int:=((bfF n f).map λt=>t.2*cf (bfF n g) t.1).sum
theorem aan_{K:PySem.W.Frag}{a:Addr}{xs:List V}{σ0:St}{H1:Hp}{D:Addr}{R:Hp->Prop}{g:TG}{tc:TT}{te:TE}(Pv:Nat->List V->St->Hp->Prop)(hn:xs.length<=sizeLine)(h0:Pv 0 [] σ0 (upd H1 D (.lst [])))(hs:∀i ys σ H,Pv i ys σ H->SqT K H a xs)
  (hturn:∀(i:Nat)(x:V)(ys:List V)(σ':St)(H':Hp)(Yes:V->St->Hp->Prop)(No:St->Hp->Prop),xs[i]?=some x->H' D=some (.lst ys)->Pv i ys σ' H'->(∀y σ2 H4,H4 D=some (.lst ys)->Pv (i+1) (ys++[y]) σ2 (upd H4 D (.lst (ys++[y])))->Yes y σ2 H4) ->
   g x σ' H' λσ2 H2=>tc σ2 H2 λok H3=>if ok=true then te σ2 H3 λy H4=>Yes y σ2 H4 else No σ2 H3)
  (hend:∀ys σ' H',H' D=some (.lst ys)->Pv xs.length ys σ' H'->R H') :
  ∃W:Nat->Nat->St->Hp->Prop,(∃m,W 0 m σ0 (upd H1 D (.lst [])))/\∀i m σ' H',W i m σ' H' ->
  ((Itt K a).stop i H'/\R H')∨((Itt K a).go i H'/\∃N:St->Hp->Prop,(∀σ'' H'',N σ'' H''->∃m',m'<m/\W (i+1) m' σ'' H'') /\
   ∀x H'',(Itt K a).yld i H' x H''->g x σ' H'' λσ2 H2=>tc σ2 H2 λok H3=>if ok=true then te σ2 H3 λy H4=>∃ys,H4 D=some (.lst ys)/\ys.length<sizeLine/\N σ2 (upd H4 D (.lst (ys++[y]))) else N σ2 H3):=by
 refine⟨λi m σ' H'=>m=xs.length-i/\i<=xs.length/\∃ys,ys.length<=i/\H' D=some (.lst ys)/\Pv i ys σ' H',⟨xs.length,by simp,An _,[],AF _,qc_,h0⟩,?_⟩
 rintro i m σ' H' ⟨rfl,hi,ys,ly,eD,pv⟩
 have l1:=hs i ys σ' H' pv
 by_cases hlt:i<xs.length
 ·refine .inr ⟨⟨xs,xs[i],l1,AJ hlt⟩,λσ2 H2=>∃ys,ys.length<=i+1/\H2 D=some (.lst ys)/\Pv (i+1) ys σ2 H2,λσ2 H2 c=>⟨xs.length-(i+1),by omega,rfl,hlt,c⟩,?_⟩
  rintro x H'' ⟨rfl,hx⟩
  exact hturn i x ys σ' H'' _ _ (hx xs l1) eD pv (λy σ2 H4 e4 p4=>⟨ys,e4,by omega,ys++[y],by simp;exact ly,qc_,p4⟩)
 ·obtain rfl:i=xs.length:=by omega
  exact .inl ⟨⟨xs,l1,AF _⟩,hend ys σ' H' eD pv⟩
theorem vB_{r:List Int}(h:zq_ r=true):(∀x∈r,1<=x)/\r.sum<=8:=by
 unfold zq_ at h
 rw[AH,AH,AN,decide_eq_true_eq]at h
 exact⟨λx hx=>of_decide_eq_true (h.1.1 x hx),h.2⟩
theorem j3_:∀(r:List Int),(∀x∈r,1<=x)->((r.map Int.toNat).sum:Int)=r.sum/\(r.length:Int)<=r.sum
 |[],_=>⟨rfl,By _⟩
 |x::r,h=>by
  obtain⟨a,b⟩:=j3_ r λy hy=>h y (AC _ hy)
  have:=h x (AD ..)
  rw[Ae,Ad,Ad,Am]
  omega
theorem vP_:∀{r:List Int},(∀x∈r,1<=x)->∀x∈r,x<=r.sum
 |[],_,x,hx=>by simp at hx
 |y::r,h,x,hx=>by
  have h0:=(j3_ r λz hz=>h z (AC _ hz)).2
  have h1:=h y (AD ..)
  rw[Ad]
  rcases AL.mp hx with rfl|hx
  ·omega
  ·have:=vP_ (λz hz=>h z (AC _ hz)) x hx
   omega
theorem akr_(x:Int)(k:Nat):(List.replicate k [x]).flatten=List.replicate k x:=by
 induction k with
 |zero=>rfl
 |succ k ih=>rw[Ap,BV,ih,Ap];rfl
abbrev nEl:List Str:=["many", "number"]
theorem scEl:FnScope nEl nEl (qh_ sEl):=⟨rfl,rfl,rfl,by decide +kernel,rfl,by decide +kernel,by decide +kernel⟩
def elF(n k:Nat):List Mon:=if n<k then [] else exch n (List.replicate k 1)
def spFf(ff:Nat->Nat->List Mon):Sp:=λvs H Q _=>∃n k:Nat,vs=[.int n,.int k]/\1<=n/\n<=4/\k<=8/\∀(a:Addr)(H':Hp),H a=none->Same H H'->LstAt H' a (ff n k)->Q (.ref a) H'
theorem aka_:∀k∈List.range 5,zq_ (List.replicate k 1)=true:=by decide +kernel
theorem apf_(F:Fun K "elementary" "elementary" sEl f fd)(GE:Has P w K mg base 6 "exchange_sum" nEx spEx):FnOk P w K mg base CX0 7 f fd nEl (spFf elF):=by
 refine F.ok scEl (λvs H Q E h=>?_) (λcdv A outer s H vs Q E hr h=>?_)
 ·obtain⟨n,k,rfl,_⟩:=h
  rfl
 obtain⟨n,k,rfl,n1,n4,k8,q⟩:=h
 refine⟨_,qe_ (q0_ (qy_ j1_ (pv 1) (pv 0) (qv_ _)) (qf_ (qm_ (qJ_ qb_))) qG_)
  (qf_ (qm_ (qi_ GE hr rfl (qa_ (pv 0) (qa_ (ql_ z5_ (qs_ (qa_ qg_ qb_)) (pv 1)) qb_))))),?_⟩
 refine⟨_,rfl,_,rfl,_,_,rfl,rfl,_,rfl,?_⟩
 by_cases c:n<k
 ·refine xX_ (by omega) ?_
  refine⟨(by show 0<=sizeLine;decide),λl hl=>q l _ hl (qd_ hl _) ⟨[],qc_,?_⟩⟩
  rw[elF,if_pos c]
  exact .nil
 ·refine jV_ (by omega) ?_
  refine⟨_,rfl,(by show 1<=sizeLine;decide),λt0 h0=>?_⟩
  have s0:=qd_ h0 (.tup [.int 1])
  refine⟨_,rfl,t0,[1],_,rfl,rfl,qc_,by simp,by omega,by omega,small (by show 1*_<=100000;omega),λt1 H1 s1 h1=>?_⟩
  rw[akr_,Ax]at h1
  refine⟨n,t1,List.replicate k 1,rfl,n1,n4,h1,by rw[As];omega,aka_ k (Ar.mpr (by omega)),λa H2 ha s2 hL=>?_⟩
  refine q a H2 (s0.free (s1.free ha)) (s0.trans (s1.trans s2)) ?_
  rw[elF,if_neg c]
  exact hL
def vw_(ff:Nat->Nat->List Mon):Sp:=λvs H Q _=>∃(n:Nat)(p:Addr)(r:List Int),vs=[.int n,.ref p]/\1<=n/\n<=4/\H p=some (.tup (r.map V.int))/\zq_ r=true/\∀(a:Addr)(H':Hp),H a=none->Same H H'->LstAt H' a (zP_ (ff n) n (r.map Int.toNat))->Q (.ref a) H'
abbrev nEp:List Str:=["many", "row"]
abbrev bEp:List Str:=["number", "many"]
theorem ndEp:bEp.Nodup:=by decide +kernel
theorem scEp:FnScope nEp nEp (qh_ sEp):=⟨rfl,rfl,rfl,by decide +kernel,rfl,by decide +kernel,by decide +kernel⟩
theorem apg_(F:Fun K "elementary_product" "elementary_product" sEp f fd)(GE:Has P w K mg base 7 "elementary" nEl (spFf elF))(GP:Has P w K mg base 7 "product" ["many", "factors"] spPr)(hF:∀n k:Nat,1<=n->n<=4->1<=k->k<=8->Fac n k (elF n k)):FnOk P w K mg base CX0 8 f fd nEp (vw_ elF):=by
 refine F.ok scEp (λvs H Q E h=>?_) (λcdv A outer s H vs Q E hr h=>?_)
 ·obtain⟨n,p,r,rfl,_⟩:=h
  rfl
 obtain⟨n,p,r,rfl,n1,n4,hp,hB,q⟩:=h
 refine⟨_,(qf_ (qm_ (qi_ GP hr rfl (qa_ (pv 0) (qa_ (qN_ (N':=bEp) (src:=[none,some 0]) rfl (jB_ (pv 1)) (zb_ (qh_ sEp) nEp (by decide +kernel))
   (λb=>qj_ (i:=0) ndEp rfl (Or.inl rfl)) (λb=>qX_) (λb=>qi_ GE hr rfl (qa_ (pv 1) (qa_ (pv 0) qb_)))) qb_))))),?_⟩
 obtain⟨low,s8⟩:=vB_ hB
 obtain⟨e8,l8⟩:=j3_ r low
 obtain⟨H1,eH1⟩:∃H1,H1=H:=⟨_,rfl⟩
 have s1:Same H H1:=by rw[eH1];exact λ_ _ e=>e
 rw[<-eH1]
 have hp1:=s1 _ _ hp
 refine⟨_,rfl,_,rfl,p,rfl,⟨_,SqT.of hp1⟩,λbk D hD=>?_⟩
 refine aan_ (xs:=r.map V.int) (λi ys σ H'=>(∃c,σ=[c,some (.int n)])/\(∀b o,H1 b=some o->H' b=some o)/\∃as:List Addr,ys=as.map V.ref/\Paired (λx k=>LstAt H' x (elF n k)/\x≠D) as ((r.map Int.toNat).take i)) (small (by rw[AA];omega)) ?_ ?_ ?_ ?_
 ·exact⟨⟨_,rfl⟩,qd_ hD _,[],rfl,.nil⟩
 ·rintro i ys σ H' ⟨_,sm,_⟩
  exact SqT.of (sm _ _ hp1)
 ·rintro i v ys σ H2 Yes No hv eD ⟨⟨c,rfl⟩,sm,as,rfl,hP⟩ yes
  obtain⟨x,hx,rfl⟩:∃x,r[i]?=some x/\V.int x=v:=by
   rw[AV]at hv
   cases e:r[i]? with
   |none=>rw[e]at hv;cases hv
   |some y=>rw[e]at hv;exact⟨y,rfl,AZ hv⟩
  have xm:=Ag hx
  have x1:=low x xm
  have x8:=vP_ low x xm
  refine zV_ ?_
  refine⟨_,rfl,_,rfl,n,x.toNat,by rw[CZ (by omega)];rfl,n1,n4,by omega,λa3 H3 h3 s3 hL=>?_⟩
  have eD3:=s3 _ _ eD
  have na:a3≠D:=λz=>by
   rw[z,eD]at h3
   cases h3
  have tD:∀o,∀{y:Addr}{f:List Mon},y≠D->LstAt H3 y f->LstAt (upd H3 D o) y f:=λo {y f} hy ⟨ws,ew,iw⟩=>⟨ws,by rw[qk_ hy];exact ew,Its.mono (λq ys' e'=>by rw[qk_ (zH_ e' eD3 (by intro z;cases z))];exact e') iw⟩
  refine yes _ _ _ eD3 ⟨⟨_,rfl⟩,λb o e=>?_,as++[a3],by rw[Aj];rfl,?_⟩
  ·rw[qk_ (qn_ e hD)]
   exact s3 _ _ (sm b o e)
  ·have ht':((r.map Int.toNat))[i]?=some x.toNat:=by rw[AV,hx];rfl
   rw[qI_ ht']
   exact CC (Paired.mapP hP λy k hk=>⟨tD _ hk.2 (hk.1.mono s3),hk.2⟩) ⟨tD _ na hL,na⟩
 ·rintro ys σ H2 eD ⟨_,sm,as,rfl,hP⟩
  rw[AA,<-AA (f:=Int.toNat),Bj]at hP
  refine⟨elF n,n,D,as,r.map Int.toNat,rfl,n1,n4,λk k1 k8=>hF n k n1 n4 k1 k8,eD,(Paired.mapP hP λy k hk=>hk.1),by omega,by rw[AA];omega,λk hk=>?_,λl H3 hl s3 hL=>?_⟩
  ·obtain⟨x,hx,rfl⟩:=AR.mp hk
   have:=low x hx
   omega
  ·have sA:Same H1 H2:=sm
   exact q l H3 (s1.free (sA.free hl)) (s1.trans (sA.trans s3)) hL
abbrev nEs:List Str:=["many", "row"]
theorem scEs:FnScope nEs nEs (qh_ sEs):=⟨rfl,rfl,rfl,by decide +kernel,rfl,by decide +kernel,by decide +kernel⟩
theorem aq1_(F:Fun K "elementary_sum" "elementary_sum" sEs f fd)(GR:Has P w K mg base 8 "refuse_bad_row" nRb yv_)(GC:Has P w K mg base 8 "refuse_bad_count" ["many"] yI_)(GE:Has P w K mg base 8 "elementary_product" nEp (vw_ elF)):FnOk P w K mg base CX0 9 f fd nEs (vw_ elF):=by
 refine F.ok scEs (λvs H Q E h=>?_) (λcdv A outer s H vs Q E hr h=>?_)
 ·obtain⟨n,p,r,rfl,_⟩:=h
  rfl
 obtain⟨n,p,r,rfl,n1,n4,hp,hB,q⟩:=h
 refine⟨_,qe_ (qK_ (qi_ GR hr rfl (qa_ (pv 1) qb_))) (qe_ (qK_ (qi_ GC hr rfl (qa_ (pv 0) qb_)))
  (qf_ (qm_ (qi_ GE hr rfl (qa_ (pv 0) (qa_ (pv 1) qb_)))))),?_⟩
 obtain⟨low,s8⟩:=vB_ hB
 obtain⟨e8,l8⟩:=j3_ r low
 refine⟨_,rfl,p,r,rfl,hp,by omega,hB,λH1 s1=>?_⟩
 refine⟨_,rfl,n,rfl,by omega,by omega,?_⟩
 exact⟨_,rfl,_,rfl,n,p,r,rfl,n1,n4,s1 _ _ hp,hB,λa H2 ha s2 hL=>q a H2 (s1.free ha) (s1.trans s2) hL⟩
abbrev nC:List Str:=["_law_script", "_law_k"]
theorem scC:FnScope nC nC (qh_ afa_):=⟨rfl,rfl,rfl,by decide +kernel,rfl,by decide +kernel,by decide +kernel⟩
def ahm_(K:PySem.W.Frag):Sp:=λvs H Q _=>∃(a:Addr)(ns:List Int)(k:Nat),vs=[.ref a,.int k]/\SqL K H a (ns.map V.int)/\Q (.int (xY_ ns k)) H
theorem alm_(F:Fun K "_law_cell" "_law_cell" afa_ f fd)(ml:mg "len" = none):FnOk P w K mg base CX0 2 f fd nC (ahm_ K):=by
 refine F.ok scC (λvs H Q E h=>?_) (λcdv A outer s H vs Q E hr h=>?_)
 ·obtain⟨a,ns,k,rfl,_⟩:=h
  rfl
 obtain⟨a,ns,k,rfl,hS,q⟩:=h
 refine⟨_,qe_ (q0_ (qy_ aav_ (pv 1) (qD_ q4_ rfl ml B6 (qa_ (pv 0) qb_)) (qv_ _)) (qf_ (qm_ (ql_ j8_ (qY_ qW_ (pv 0) (pv 1) (λ_ _=>rfl)) qg_))) qG_)
  (qf_ (qm_ qg_)),?_⟩
 refine⟨_,rfl,_,rfl,a,_,rfl,.inl hS,_,_,rfl,rfl,_,rfl,?_⟩
 unfold xY_ at q
 rw[AA]
 by_cases c:k<ns.length
 ·rw[if_pos c]at q
  refine xX_ (by omega) ⟨_,rfl,_,rfl,a,_,_,.int (ns.getD k 0),rfl,rfl,hS,?_,_,_,rfl,rfl,(by show(0:Int)<2147483647;decide),q⟩
  refine z7_ ?_
  rw[AV,AJ c]
  simp [c]
 ·rw[if_neg c]at q
  exact jV_ (by omega) q
def zO_(k:Int):List Int:=(List.range k.toNat).map λ(i:Nat)=>k-(i:Int)
def up:Nat->Int->Int->Int->List (List Int)
 |0,_,_,_=>[]
 |n+1,top,w,m=>if w=0 then [[]] else if m<=0 then [] else (zO_ (if w<top then w else top)).flatMap λf=>(up n f (w-f) (m-1)).map (f :: ·)
theorem vG_(n:Nat)(top m:Int):up (n+1) top 0 m=[[]]:=by simp [up]
theorem vD_(n:Nat)(top w m:Int)(h:w≠0)(hm:m<=0):up (n+1) top w m=[]:=by simp [up,h,hm]
theorem vO_(n:Nat)(top w m:Int)(h:w≠0)(hm:¬ m<=0):up (n+1) top w m=(zO_ (if w<top then w else top)).flatMap λf=>(up n f (w-f) (m-1)).map (f :: ·):=by simp [up,h,hm]
theorem vk_(f:Nat->Nat)(c:Nat):∀k,(∀i,i<k->f i<=2^(c+i))->((List.range k).map f).sum+2^c<=2^(c+k)
 |0,_=>by simp
 |k+1,h=>by
  have ih:=vk_ f c k λi hi=>h i (by omega)
  have hk:=h k (by omega)
  rw[BZ,Aj,B1,List.map_singleton,Bw]
  have e:2^(c+(k+1))=2^(c+k)+2^(c+k):=by rw[<-Nat.add_assoc,Nat.pow_succ];omega
  omega
theorem af1_:∀(n:Nat)(top w m:Int),0<=w->(up n top w m).length<=2^w.toNat
 |0,_,_,_,_=>by simp [up]
 |n+1,top,w,m,h0=>by
  by_cases h:w=0
  ·subst h;rw[vG_];simp
  by_cases hm:m<=0
  ·rw[vD_ n top w m h hm];simp
  rw[vO_ n top w m h hm]
  have hk:∀k:Int,k<=w->((zO_ k).flatMap λf=>(up n f (w-f) (m-1)).map (f :: ·)).length<=2^w.toNat:=by
   intro k hk
   rw[List.length_flatMap]
   unfold zO_
   rw[B4]
   have e:(List.map ((λf=>((up n f (w-f) (m-1)).map (f :: ·)).length) ∘ λ(i:Nat)=>k-(i:Int)) (List.range k.toNat))=(List.range k.toNat).map λ(i:Nat)=>(up n (k-(i:Int)) (w-(k-(i:Int))) (m-1)).length:=by
    apply B9;intro i _;simp
   rw[e]
   have q:=vk_ (λi=>(up n (k-(i:Int)) (w-(k-(i:Int))) (m-1)).length) (w-k).toNat k.toNat (λi hi=>by
    have ih:=af1_ n (k-(i:Int)) (w-(k-(i:Int))) (m-1) (by omega)
    have e2:(w-(k-(i:Int))).toNat=(w-k).toNat+i:=by omega
    rw[e2]at ih
    exact ih)
   by_cases hk0:0<=k
   ·have e3:(w-k).toNat+k.toNat=w.toNat:=by omega
    rw[e3]at q
    exact Ac (CT _ _) q
   ·have e4:k.toNat=0:=by omega
    rw[e4];simp
  apply hk
  split<;>omega
theorem agp_{k f:Int}(h:f∈zO_ k):1<=f/\f<=k:=by
 unfold zO_ at h
 obtain⟨i,hi,e⟩:=AR.mp h
 have:=Ar.mp hi
 omega
theorem ahr_:∀(n:Nat)(top w m:Int),0<=w->∀r∈up n top w m,(r.length:Int)<=w
 |0,_,_,_,_,r,h=>by simp [up]at h
 |n+1,top,w,m,h0,r,hr=>by
  by_cases h:w=0
  ·subst h;rw[vG_]at hr;simp at hr;subst hr;simp
  by_cases hm:m<=0
  ·rw[vD_ n top w m h hm]at hr;simp at hr
  rw[vO_ n top w m h hm]at hr
  obtain⟨f,hf,hr⟩:=BE.mp hr
  obtain⟨r',hr',rfl⟩:=AR.mp hr
  have z:=agp_ hf
  have zw:f<=w:=by
   have:(if w<top then w else top)<=w:=by split<;>omega
   omega
  have ih:=ahr_ n f (w-f) (m-1) (by omega) r' hr'
  rw[Am]
  omega
theorem adf_{α β:Type}(g:α->List β):∀{l:List α}{i:Nat}{a:α},l[i]?=some a->(l.take (i+1)).flatMap g=(l.take i).flatMap g++g a
 |[],i,a,e=>by simp at e
 |x::l,0,a,e=>by simp at e;subst e;simp
 |x::l,i+1,a,e=>by
  have ih:=adf_ g (l:=l) (i:=i) (a:=a) (by simpa using e)
  rw[CW,BW,ih,CW,BW,AY]
theorem ac6_{α β:Type}(g:α->List β):∀(l:List α)(i:Nat),((l.take i).flatMap g).length<=(l.flatMap g).length
 |[],i=>by simp
 |x::l,0=>by simp
 |x::l,i+1=>by
  have ih:=ac6_ g l i
  rw[CW,BW,BW,AE,AE]
  omega
theorem aio_{k:Int}{i:Nat}(h:i<k.toNat):(zO_ k)[i]?=some (k-(i:Int)):=by
 unfold zO_
 rw[AV,CA h]
 rfl
theorem agi_(k:Int):(zO_ k).length=k.toNat:=by unfold zO_;simp
theorem ah1_{n:Nat}{t w m:Int}(h0:0<=w)(h8:w<=8):(up n t w m).length<=256:=by
 have q:=af1_ n t w m h0
 have z:2^w.toNat<=2^8:=Cj (by decide) (by omega)
 exact Ac q z
theorem aob_{n:Nat}(h:n<=1000):n<sizeLine:=zE_ (by omega)
abbrev pUr:List Str:=["top", "weight", "most"]
def vW_(n:Nat):Sp:=λvs H Q _=>∃t w m:Int,vs=[.int t,.int w,.int m]/\0<=t/\0<=w/\w<=8/\w<n /\
 ∀(l:Addr)(H':Hp),H l=none->Same H H'->LstAt H' l (up n t w m)->Q (.ref l) H'
def aga_:Sp:=λvs H Q _=>∃w m:Int,vs=[.int w,.int m]/\0<=w/\w<=8 /\
 ∀(l:Addr)(H':Hp),H l=none->Same H H'->LstAt H' l (up 9 w w m)->Q (.ref l) H'
abbrev nUr:List Str:=["top", "weight", "most", "found", "first", "rest"]
theorem scUr:FnScope nUr pUr (qh_ sUr):=⟨rfl,rfl,rfl,by decide +kernel,rfl,by decide +kernel,by decide +kernel⟩
theorem ao9_{n:Nat}(F:Fun K "rows_up_to" "rows_up_to" sUr f fd)(G:FnOk P w K mg base CX0 n f fd pUr (vW_ n))(bF:Binds K fd pUr [])(mU:mg "rows_up_to" = some (.ref f))(mr:mg "range" = none)(mm:mg "min" = none) :
  FnOk P w K mg base CX0 (n+1) f fd pUr (vW_ (n+1)):=by
 refine F.ok scUr (λvs H Q E h=>?_) (λcdv A outer s H vs Q E hr h=>?_)
 ·obtain⟨t,w,m,rfl,_⟩:=h
  rfl
 obtain⟨t,w,m,rfl,ht,h0,h8,hn,q⟩:=h
 refine⟨_,qe_ (q0_ (qy_ vv_ (pv 1) qg_ (qv_ _)) (qf_ (qm_ (qJ_ (qa_ (qs_ qb_) qb_)))) qG_)
  (qe_ (q0_ (qy_ ao7_ (pv 2) qg_ (qv_ _)) (qf_ (qm_ (qJ_ qb_))) qG_)
  (qe_ (qo_ (i:=3) scUr.nd rfl (Or.inl rfl) (qJ_ qb_))
  (qe_ (qE_ Al rfl (ago_ rfl mr (qa_ (qD_ (agx_ rfl) rfl mm PyProof.Rows.boot_min (qa_ (pv 0) (qa_ (pv 1) qb_))) (qa_ qg_ (qa_ (xm_ jU_ qg_) qb_)))) (qj_ (i:=4) scUr.nd rfl (Or.inl rfl))
   (qf_ (qE_ Al rfl (qz_ (z9_ G hr rfl mU F.kp bF .nil j0_ (qa_ (pv 4) (qa_ (ql_ zD_ (pv 1) (pv 4)) (qa_ (ql_ zD_ (pv 2) qg_) qb_))))) (qj_ (i:=5) scUr.nd rfl (Or.inl rfl))
    (qf_ (qK_ (jM_ BK BF BG q7_ (pv 3) (qa_ (ql_ ac5_ (qs_ (qa_ (pv 4) qb_)) (pv 5)) qb_)))))))
  (qf_ (qm_ (pv 3)))))),?_⟩
 refine⟨_,rfl,rfl,_,rfl,?_⟩
 refine ite2 (λc=>?_) (λc=>?_)
 ·have c':V.int w=V.int 0:=of_decide_eq_true c
  have cw:w=0:=by injection c'
  subst cw
  refine⟨(by show 0<=sizeLine;decide),λp hp=>⟨(by show 1<=sizeLine;decide),λl hl=>?_⟩⟩
  have s1:Same H (upd H p (.tup [])):=qd_ hp _
  have s2:=qd_ hl (.lst [.ref p])
  refine q l _ (s1.free hl) (s1.trans s2) ⟨[.ref p],qc_,?_⟩
  rw[vG_]
  exact .cons ⟨p,[],rfl,s2 _ _ qc_,.nil⟩ .nil
 have cw:w≠0:=λz=>c (decide_eq_true (congrArg V.int z))
 refine⟨_,rfl,_,_,rfl,rfl,_,rfl,?_⟩
 refine ite2 (λc2=>?_) (λc2=>?_)
 ·have cm:m<=0:=of_decide_eq_true c2
  refine⟨(by show 0<=sizeLine;decide),λl hl=>?_⟩
  refine q l _ hl (qd_ hl _) ⟨[],qc_,?_⟩
  rw[vD_ n t w m cw cm]
  exact .nil
 have cm:¬ m<=0:=λz=>c2 (decide_eq_true z)
 refine⟨(by show 0<=sizeLine;decide),λl hl=>?_⟩
 have s0:Same H (upd H l (.lst [])):=qd_ hl _
 have tot:=vO_ n t w m cw cm
 have tl:(up (n+1) t w m).length<=256:=ah1_ h0 h8
 have hk0:0<=(if w<t then w else t):=by split<;>omega
 have hkw:(if w<t then w else t)<=w:=by split<;>omega
 generalize hk:(if w<t then w else t)=k at hk0 hkw tot
 rw[tot]at tl
 refine⟨_,rfl,_,rfl,_,_,rfl,_,rfl,_,_,rfl,⟨by rw[hk];omega,by rw[hk];omega,by decide,by decide⟩,?_⟩
 rw[hk]
 have ek:(k-0).toNat=k.toNat:=by rw[Int.sub_zero]
 rw[ek]
 refine ai6_ (hi:=k) (n:=k.toNat) (λi σ H'=>(∃a b,σ=[some (.int t),some (.int w),some (.int m),some (.ref l),a,b])/\Same H H'/\LstAt H' l (((zO_ k).take i).flatMap λf=>(up n f (w-f) (m-1)).map (f :: ·))) ?_ ?_ ?_
 ·exact⟨⟨_,_,rfl⟩,s0,[],qc_,by simpa using Paired.nil⟩
 ·rintro i σ H1 hi ⟨⟨a,b,rfl⟩,sH,hL⟩
  have hd:=aio_ hi
  have nx:=adf_ (λf=>(up n f (w-f) (m-1)).map (f :: ·)) hd
  have nle:=ac6_ (λf=>(up n f (w-f) (m-1)).map (f :: ·)) (zO_ k) (i+1)
  rw[nx]at nle
  generalize hpre:((zO_ k).take i).flatMap (λf=>(up n f (w-f) (m-1)).map (f :: ·))=pre at hL nx nle
  obtain⟨pv1,eL,iL⟩:=hL
  refine⟨_,rfl,_,rfl,_,rfl,_,_,rfl,rfl,_,rfl,_,_,rfl,rfl,k-(i:Int),w-(k-(i:Int)),m-1,rfl,by omega,by omega,by omega,by omega,λr H2 fr g1 e1=>?_⟩
  have rl:=ahr_ n (k-(i:Int)) (w-(k-(i:Int))) (m-1) (by omega)
  generalize up n (k-(i:Int)) (w-(k-(i:Int))) (m-1)=rest at e1 nx nle rl
  obtain⟨vs2,e2,i2⟩:=e1
  refine⟨r,rfl,⟨_,SqL.of e2⟩,?_⟩
  have hrl:r≠l:=(qn_ eL fr).symm
  have l2:=AQ i2
  refine qL_ (xs:=vs2) (λj σ H'=>(∃b,σ=[some (.int t),some (.int w),some (.int m),some (.ref l),some (.int (k-(i:Int))),b])/\Same H H'/\H' r=some (.lst vs2)/\Its H' vs2 rest/\LstAt H' l (pre++(rest.take j).map ((k-(i:Int)) :: ·))) ?_ ?_ ?_ ?_
  ·exact⟨⟨_,rfl⟩,sH.trans g1,e2,i2,pv1,g1 _ _ eL,by simpa using Its.mono (Tups.same g1) iL⟩
  ·rintro j σ H3 _ ⟨_,_,e3,_⟩
   exact SqL.of e3
  ·rintro j x σ H3 hx ⟨⟨b,rfl⟩,s3,e3,i3,pv2,eL3,iL3⟩
   obtain⟨row,hrow,hx2⟩:=Paired.get i3 hx
   obtain⟨px,rfl,hpx⟩:=q8_ hx2
   have len3:pv2.length<sizeLine:=by
    have z:=AQ iL3
    have jl:j<rest.length:=by
     have:=(AX.mp hrow).1
     exact this
    rw[AE,AA,AW]at z
    rw[AE,AA]at nle
    exact aob_ (by omega)
   have fin:∀(p:Addr)(H4:Hp),Same H3 H4->H4 p=some (.tup (((k-(i:Int))::row).map V.int)) ->
     adk_ (.ref l) [.ref p] H4 λ_ H5=>(∃b',[some (V.int t),some (.int w),some (.int m),some (.ref l),some (.int (k-(i:Int))),some (.ref px)]=[some (.int t),some (.int w),some (.int m),some (.ref l),some (.int (k-(i:Int))),b'])/\Same H H5/\H5 r=some (.lst vs2)/\Its H5 vs2 rest/\LstAt H5 l (pre++(rest.take (j+1)).map ((k-(i:Int)) :: ·)):=by
    intro p H4 s4 hp
    have eL4:=s4 _ _ eL3
    have t4:Tups H4 (upd H4 l (.lst (pv2++[.ref p]))):=jp_ eL4 _
    refine⟨l,pv2,.ref p,rfl,rfl,eL4,len3,⟨_,rfl⟩,xv_ hl (s3.trans s4) _,?_,Its.mono ((Tups.same s4).trans t4) i3,pv2++[.ref p],qc_,?_⟩
    ·rw[qk_ hrl];exact s4 _ _ e3
    ·have q1:(rest.take (j+1)).map ((k-(i:Int)) :: ·)=(rest.take j).map ((k-(i:Int)) :: ·)++[(k-(i:Int))::row]:=by
      rw[List.take_add_one,hrow];simp
     rw[q1,<-AY]
     exact CC (Its.mono ((Tups.same s4).trans t4) iL3) (Dat.mono t4 (zd_ hp))
   refine⟨_,rfl,.inl ⟨rfl,_,SqL.of eL3⟩,_,rfl,(by show 1<=sizeLine;decide),λp hp=>⟨_,rfl,p,px,[.int (k-(i:Int))],row.map V.int,rfl,rfl,SqT.of qc_,SqT.of (qd_ hp _ _ _ hpx),(by simp),?_,λz=>?_,λz p2 hp2=>?_⟩⟩
   ·have zr:=rl row (Ag hrow)
    rw[AA]
    exact small (by show 1+row.length<=100000;omega)
   ·have zr:row=[]:=by simpa using z
    subst zr
    exact fin p _ (qd_ hp _) qc_
   ·exact fin p2 _ ((qd_ hp _).trans (qd_ hp2 _)) qc_
  ·rintro σ H3 ⟨⟨b,rfl⟩,s3,e3,i3,hL3⟩
   refine⟨⟨_,_,rfl⟩,s3,?_⟩
   rw[nx]
   rw[l2,Bj]at hL3
   exact hL3
 ·rintro σ H1 ⟨⟨a,b,rfl⟩,sH,hL⟩
  refine⟨_,rfl,q l H1 hl sH ?_⟩
  rw[tot]
  have z:(zO_ k).take k.toNat=zO_ k:=by rw[<-agi_ k,Bj]
  rw[z]at hL
  exact hL
theorem aln_:FnOk P w K mg base CX0 0 f fd pUr (vW_ 0):=by
 have no:∀vs H Q E,¬ vW_ 0 vs H Q E:=λvs H Q E h=>by
  obtain⟨t,w,m,_,_,h0,_,h1,_⟩:=h
  omega
 exact⟨λvs H Q E h=>absurd h (no vs H Q E),λA outer s H args us vs Q E _ _ _ _ h=>absurd h (no vs H Q E)⟩
theorem ahe_(F:Fun K "rows_up_to" "rows_up_to" sUr f fd)(bF:Binds K fd pUr [])(mU:mg "rows_up_to" = some (.ref f))(mr:mg "range" = none)(mm:mg "min" = none):∀n,FnOk P w K mg base CX0 n f fd pUr (vW_ n)
 |0=>aln_
 |n+1=>ao9_ F (ahe_ F bF mU mr mm n) bF mU mr mm
theorem scRw:FnScope ["weight", "most"] ["weight", "most"] (qh_ sRw):=⟨rfl,rfl,rfl,by decide +kernel,rfl,by decide +kernel,by decide +kernel⟩
theorem ama_(F:Fun K "rows" "rows" sRw g gd)(G:FnOk P w K mg base CX0 9 f fd pUr (vW_ 9))(bF:Binds K fd pUr [])(kF:PySem.W.keepIn K (.ref f)=true)(mU:mg "rows_up_to" = some (.ref f)) :
  FnOk P w K mg base CX0 10 g gd ["weight", "most"] aga_:=by
 refine F.ok scRw (λvs H Q E h=>?_) (λcdv A outer s H vs Q E hr h=>?_)
 ·obtain⟨w,m,rfl,_⟩:=h
  rfl
 obtain⟨w,m,rfl,h0,h8,q⟩:=h
 refine⟨_,qf_ (qm_ (z9_ G hr rfl mU kF bF .nil j0_ (qa_ (pv 0) (qa_ (pv 0) (qa_ (pv 1) qb_))))),?_⟩
 exact⟨_,rfl,_,rfl,_,rfl,w,w,m,rfl,h0,h0,h8,by omega,q⟩
abbrev nWh:List Str:=["many", "number", "total", "row"]
theorem scWh:FnScope nWh ["many", "number"] (qh_ sWh):=⟨rfl,rfl,rfl,by decide +kernel,rfl,by decide +kernel,by decide +kernel⟩
def whP(n:Nat)(rs:List (List Int)):List Mon:=rs.foldl (λacc r=>norm (acc++exch n r)) []
def whF(n k:Nat):List Mon:=whP n (up 9 (k:Int) (k:Int) (n:Int))
theorem ab8_(n:Nat)(rs:List (List Int))(r:List Int):whP n (rs++[r])=norm (whP n rs++exch n r):=by
 unfold whP
 rw[Bq]
 rfl
theorem abo_{n:Nat}{r:List Int}(h:r.length<=n):∀t∈exch n r,t.1.length=n:=λt ht=>by
 unfold exch at ht
 obtain⟨q,hq,rfl⟩:=AR.mp ht
 rw[yP_ _ _ q hq,AE,As]
 omega
theorem acp_{n:Nat}{r:List Int}(n1:1<=n)(n4:n<=4)(h:r.length<=n):(exch n r).length<=24:=by
 unfold exch
 rw[AA]
 have ol:=xP_ 5 (r++List.replicate (n-r.length) 0)
 rw[AE,As,show r.length+(n-r.length)=n by omega]at ol
 have b4:bnd n<=24:=by
  have:n=1∨n=2∨n=3∨n=4:=by omega
  rcases this with e|e|e|e<;>rw[e]<;>decide
 omega
theorem amh_{n:Nat}(n1:1<=n)(n4:n<=4):∀rs:List (List Int),(∀r∈rs,r.length<=n)->(∀t∈whP n rs,t.1.length=n)/\(whP n rs).length<=24*rs.length:=by
 refine zI_ (λ_=>⟨λt ht=>by simp [whP]at ht,AF _⟩) λrs r ih h=>?_
 obtain⟨a,b⟩:=ih λx hx=>h x (At _ hx)
 have hr:=h r (Af _ (AT.mpr rfl))
 rw[ab8_]
 refine⟨λt ht=>?_,?_⟩
 ·obtain⟨u,hu,e⟩:=qC_ ht
  rw[<-e]
  exact(Ai.mp hu).elim (a u) (abo_ hr u)
 ·have l1:=zn_ (whP n rs++exch n r)
  have l2:=acp_ n1 n4 hr
  rw[AE]at l1
  rw[AE,Aq]
  omega
theorem alo_:∀n∈List.range 5,∀k∈List.range 9,(up 9 (k:Int) (k:Int) (n:Int)).all (λr=>zq_ r&&decide (r.length<=n))=true:=by decide +kernel
theorem app_(F:Fun K "whole" "whole" sWh f fd)(GR:Has P w K mg base 10 "rows" ["weight", "most"] aga_)(GE:Has P w K mg base 10 "exchange_sum" nEx spEx)(GP:Has P w K mg base 10 "plus" nPl (ve_ λts us=>ts++us)):FnOk P w K mg base CX0 11 f fd nEl (spFf whF):=by
 refine F.ok scWh (λvs H Q E h=>?_) (λcdv A outer s H vs Q E hr h=>?_)
 ·obtain⟨n,k,rfl,_⟩:=h
  rfl
 obtain⟨n,k,rfl,n1,n4,k8,q⟩:=h
 refine⟨_,qe_ (qo_ (i:=2) scWh.nd rfl (Or.inl rfl) (qJ_ qb_))
  (qe_ (qE_ Al rfl (qz_ (qi_ GR hr rfl (qa_ (pv 1) (qa_ (pv 0) qb_)))) (qj_ (i:=3) scWh.nd rfl (Or.inl rfl))
   (qf_ (qo_ (i:=2) scWh.nd rfl (Or.inl rfl) (qi_ GP hr rfl (qa_ (pv 2) (qa_ (qi_ GE hr rfl (qa_ (pv 0) (qa_ (pv 3) qb_))) qb_))))))
  (qf_ (qm_ (pv 2)))),?_⟩
 refine⟨(by show 0<=sizeLine;decide),λl0 h0=>?_⟩
 have s0:=qd_ h0 (.lst [])
 refine⟨_,rfl,_,rfl,(k:Int),(n:Int),rfl,by omega,by omega,λa H1 ha s1 hL=>?_⟩
 have ur:∀r∈up 9 (k:Int) (k:Int) (n:Int),zq_ r=true/\r.length<=n:=λr hr=>by
  have:=AN.mp (alo_ n (Ar.mpr (by omega)) k (Ar.mpr (by omega))) r hr
  rw[AH,decide_eq_true_eq]at this
  exact this
 have ul:(up 9 (k:Int) (k:Int) (n:Int)).length<=256:=ah1_ (by omega) (by omega)
 unfold whF at q
 generalize up 9 (k:Int) (k:Int) (n:Int)=rs at q ur ul hL
 obtain⟨vs,eL,iL⟩:=hL
 have lv:=AQ iL
 refine⟨a,rfl,⟨_,SqL.of eL⟩,?_⟩
 refine qL_ (xs:=vs) (λi σ H'=>(∃(l:Addr)(c3:Option V),σ=[some (.int n),some (.int k),some (.ref l),c3]/\LstAt H' l (whP n (rs.take i))/\H l=none)/\Same H1 H') ?_ ?_ ?_ ?_
 ·exact⟨⟨l0,_,rfl,⟨[],s1 _ _ qc_,.nil⟩,h0⟩,λ_ _ e=>e⟩
 ·rintro i σ H2 _ ⟨_,s2⟩
  exact SqL.of (s2 _ _ eL)
 ·rintro i v σ H2 hv ⟨⟨l,c3,rfl,hl,fl⟩,s2⟩
  obtain⟨r,hr',hi⟩:=qV_ iL hv
  obtain⟨pr,rfl,hpr⟩:=q8_ hi
  obtain⟨rB,rl⟩:=ur r (Ag hr')
  refine⟨_,rfl,_,rfl,_,rfl,n,pr,r,rfl,n1,n4,s2 _ _ hpr,rl,rB,λa3 H3 h3 s3 hL3=>?_⟩
  obtain⟨w1,w2⟩:=amh_ n1 n4 (rs.take i) λx hx=>(ur x (BC hx)).2
  rw[AW]at w2
  have e1:=abo_ rl
  have e2:=acp_ n1 n4 rl
  have ne:∀{t:Mon},t.1.length=n->t.1≠[]:=λ{t} h e=>by
   rw[e]at h
   simp at h
   omega
  refine⟨l,a3,_,_,rfl,hl.mono s3,hL3,λt ht=>ne (w1 t ht),λt ht=>ne (e1 t ht),by omega,λl4 H4 h4 s4 hL4=>?_⟩
  refine⟨⟨l4,_,rfl,?_,(s0.trans (s1.trans (s2.trans s3))).free h4⟩,s2.trans (s3.trans s4)⟩
  rw[qI_ hr',ab8_]
  exact hL4
 ·rintro σ H2 ⟨⟨l,c3,rfl,hl,fl⟩,s2⟩
  rw[lv,Bj]at hl
  exact⟨_,rfl,q l H2 fl (s0.trans (s1.trans s2)) hl⟩
abbrev nWs:List Str:=["many", "row"]
abbrev bWs:List Str:=["number", "many"]
theorem ndWs:bWs.Nodup:=by decide +kernel
theorem scWs:FnScope nWs nWs (qh_ sWs):=⟨rfl,rfl,rfl,by decide +kernel,rfl,by decide +kernel,by decide +kernel⟩
theorem ao1_(F:Fun K "whole_sum" "whole_sum" sWs f fd)(GR:Has P w K mg base 11 "refuse_bad_row" nRb yv_)(GC:Has P w K mg base 11 "refuse_bad_count" ["many"] yI_)(GE:Has P w K mg base 11 "whole" nEl (spFf whF))(GP:Has P w K mg base 11 "product" ["many", "factors"] spPr)(hF:∀n k:Nat,1<=n->n<=4->1<=k->k<=8->Fac n k (whF n k)):FnOk P w K mg base CX0 12 f fd nWs (vw_ whF):=by
 refine F.ok scWs (λvs H Q E h=>?_) (λcdv A outer s H vs Q E hr h=>?_)
 ·obtain⟨n,p,r,rfl,_⟩:=h
  rfl
 obtain⟨n,p,r,rfl,n1,n4,hp,hB,q⟩:=h
 refine⟨_,qe_ (qK_ (qi_ GR hr rfl (qa_ (pv 1) qb_))) (qe_ (qK_ (qi_ GC hr rfl (qa_ (pv 0) qb_)))
  (qf_ (qm_ (qi_ GP hr rfl (qa_ (pv 0) (qa_ (qN_ (N':=bWs) (src:=[none,some 0]) rfl (jB_ (pv 1)) (zb_ (qh_ sWs) nWs (by decide +kernel))
   (λb=>qj_ (i:=0) ndWs rfl (Or.inl rfl)) (λb=>qX_) (λb=>qi_ GE hr rfl (qa_ (pv 1) (qa_ (pv 0) qb_)))) qb_)))))),?_⟩
 obtain⟨low,s8⟩:=vB_ hB
 obtain⟨e8,l8⟩:=j3_ r low
 refine⟨_,rfl,p,r,rfl,hp,by omega,hB,λH1 s1=>?_⟩
 refine⟨_,rfl,n,rfl,by omega,by omega,?_⟩
 have hp1:=s1 _ _ hp
 refine⟨_,rfl,_,rfl,p,rfl,⟨_,SqT.of hp1⟩,λbk D hD=>?_⟩
 refine aan_ (xs:=r.map V.int) (λi ys σ H'=>(∃c,σ=[c,some (.int n)])/\(∀b o,H1 b=some o->H' b=some o)/\∃as:List Addr,ys=as.map V.ref/\Paired (λx k=>LstAt H' x (whF n k)/\x≠D) as ((r.map Int.toNat).take i)) (small (by rw[AA];omega)) ?_ ?_ ?_ ?_
 ·exact⟨⟨_,rfl⟩,qd_ hD _,[],rfl,.nil⟩
 ·rintro i ys σ H' ⟨_,sm,_⟩
  exact SqT.of (sm _ _ hp1)
 ·rintro i v ys σ H2 Yes No hv eD ⟨⟨c,rfl⟩,sm,as,rfl,hP⟩ yes
  obtain⟨x,hx,rfl⟩:∃x,r[i]?=some x/\V.int x=v:=by
   rw[AV]at hv
   cases e:r[i]? with
   |none=>rw[e]at hv;cases hv
   |some y=>rw[e]at hv;exact⟨y,rfl,AZ hv⟩
  have xm:=Ag hx
  have x1:=low x xm
  have x8:=vP_ low x xm
  refine zV_ ?_
  refine⟨_,rfl,_,rfl,n,x.toNat,by rw[CZ (by omega)];rfl,n1,n4,by omega,λa3 H3 h3 s3 hL=>?_⟩
  have eD3:=s3 _ _ eD
  have na:a3≠D:=λz=>by
   rw[z,eD]at h3
   cases h3
  have tD:∀o,∀{y:Addr}{f:List Mon},y≠D->LstAt H3 y f->LstAt (upd H3 D o) y f:=λo {y f} hy ⟨ws,ew,iw⟩=>⟨ws,by rw[qk_ hy];exact ew,Its.mono (λq ys' e'=>by rw[qk_ (zH_ e' eD3 (by intro z;cases z))];exact e') iw⟩
  refine yes _ _ _ eD3 ⟨⟨_,rfl⟩,λb o e=>?_,as++[a3],by rw[Aj];rfl,?_⟩
  ·rw[qk_ (qn_ e hD)]
   exact s3 _ _ (sm b o e)
  ·have ht':((r.map Int.toNat))[i]?=some x.toNat:=by rw[AV,hx];rfl
   rw[qI_ ht']
   exact CC (Paired.mapP hP λy k hk=>⟨tD _ hk.2 (hk.1.mono s3),hk.2⟩) ⟨tD _ na hL,na⟩
 ·rintro ys σ H2 eD ⟨_,sm,as,rfl,hP⟩
  rw[AA,<-AA (f:=Int.toNat),Bj]at hP
  refine⟨whF n,n,D,as,r.map Int.toNat,rfl,n1,n4,λk k1 k8=>hF n k n1 n4 k1 k8,eD,(Paired.mapP hP λy k hk=>hk.1),by omega,by rw[AA];omega,λk hk=>?_,λl H3 hl s3 hL=>?_⟩
  ·obtain⟨x,hx,rfl⟩:=AR.mp hk
   have:=low x hx
   omega
  ·have sA:Same H1 H2:=sm
   exact q l H3 (s1.free (sA.free hl)) (s1.trans (sA.trans s3)) hL
end
end L2.K72
set_option maxRecDepth 1000000
namespace L2.Ev
open L2.Pl
theorem yw_{α:Type}(h:Nat->Int)(g:α->Nat×Int):∀(l:List α)(acc:List (Nat×Int)),smK h (l.foldl (λacc x=>jA_ (acc.length+1) acc [g x]) acc)=smK h acc+smK h (l.map g)
 |[],acc=>by simp [smK]
 |x::l,acc=>by
  rw[BY,yw_ h g l,xf_,Ae]
  simp only[smK]
  omega
theorem aao_(h:Nat->Int)(e:Nat)(c:Int):∀kf:List (Nat×Int),smK h (kf.map λu=>(u.1+e,u.2*c))=c*smK (λk=>h (k+e)) kf
 |[]=>by simp [smK]
 |u::kf=>by
  rw[Ae]
  simp only[smK]
  rw[aao_ h e c kf,EA,<-C5,Ek u.2 c]
theorem xW_(g:Nat->Int):∀L:List Mon,smK g (L.map λt=>(code t.1,t.2))=sm (λp=>g (code p)) L
 |[]=>rfl
 |t::L=>by
  rw[Ae]
  simp only[smK,sm]
  rw[xW_ g L]
theorem vU_(h:Nat->Int)(kf:List (Nat×Int)):∀(A:List Mon)(acc:List (Nat×Int)),smK h (A.foldl (λacc t=>jA_ (acc.length+kf.length+1) acc (kf.map λu=>(u.1+code t.1,u.2*t.2))) acc)=smK h acc+sm (λq=>smK (λk=>h (k+code q)) kf) A
 |[],acc=>by simp [sm]
 |t::A,acc=>by
  rw[BY,vU_ h kf A,xf_,aao_]
  simp only[sm]
  omega
theorem yD_(G:Pw->Pw->Int)(A:List Mon):∀F:List Mon,sm (λp=>sm (λq=>G p q) A) F=sm (λq=>sm (λp=>G p q) F) A
 |[]=>by
  have z:∀A:List Mon,sm (λ_=>(0:Int)) A=0:=by
   intro A
   induction A with
   |nil=>rfl
   |cons t A ih=>simp only[sm,ih];omega
  show(0:Int)=sm (λq=>sm (λp=>G p q) []) A
  exact(z A).symm
 |t::F=>by
  show t.2*sm (λq=>G t.1 q) A+sm (λp=>sm (λq=>G p q) A) F=sm (λq=>t.2*G t.1 q+sm (λp=>G p q) F) A
  rw[aa9_,yJ_,yD_ G A F]
theorem jT_(p:List Int)(x:Int):code (p++[x])=16*code p+x.toNat:=by
 unfold code
 rw[Bq]
 rfl
def dec:Nat->Nat->List Int
 |0,_=>[]
 |m+1,k=>dec m (k / 16)++[((k%16:Nat):Int)]
theorem zL_:∀(m:Nat)(p:List Int),p.length=m->(∀x∈p,0<=x/\x<=15)->dec m (code p)=p
 |0,p,h,_=>by rw[BJ.mp h];rfl
 |m+1,p,h,b=>by
  have ne:p≠[]:=by intro z;rw[z]at h;simp at h
  obtain⟨as,x,e⟩:∃as x,p=as++[x]:=⟨_,_,(BB ne).symm⟩
  subst e
  rw[AE,Aq]at h
  have bx:=b x (by simp)
  rw[jT_]
  unfold dec
  rw[show(16*code as+x.toNat) / 16=code as by omega,show(16*code as+x.toNat)%16=x.toNat by omega,zL_ m as (by omega) λy hy=>b y (At _ hy),CZ bx.1]
theorem y0_:∀(m:Nat)(p q:List Int),p.length=m->q.length=m->(∀x∈p,0<=x)->(∀x∈q,0<=x)->code (pad p q)=code p+code q
 |0,p,q,h,g,_,_=>by rw[BJ.mp h,BJ.mp g];rfl
 |m+1,p,q,h,g,b,c=>by
  have ne:p≠[]:=by intro z;rw[z]at h;simp at h
  have ne2:q≠[]:=by intro z;rw[z]at g;simp at g
  obtain⟨as,x,e⟩:∃as x,p=as++[x]:=⟨_,_,(BB ne).symm⟩
  obtain⟨bs,y,e2⟩:∃bs y,q=bs++[y]:=⟨_,_,(BB ne2).symm⟩
  subst e e2
  rw[AE,Aq]at h g
  have x0:=b x (by simp)
  have y0:=c y (by simp)
  have ez:pad (as++[x]) (bs++[y])=pad as bs++[x+y]:=by
   unfold pad
   rw[List.zipWith_append (by omega)]
   rfl
  rw[ez,jT_,jT_,jT_,y0_ m as bs (by omega) (by omega) (λz hz=>b z (At _ hz)) λz hz=>c z (At _ hz)]
  omega
theorem jK_{n b:Nat}{p:List Int}(h:jF_ n b p=true):p.length=n/\∀x∈p,0<=x/\x<=(b:Int):=by
 unfold jF_ at h
 rw[AH,AN,beq_iff_eq]at h
 refine⟨h.1,λx hx=>?_⟩
 have:=h.2 x hx
 rw[AH,decide_eq_true_eq,decide_eq_true_eq]at this
 exact this
theorem v9_:∀{p q:List Int}{a b:Int},(∀x∈p,0<=x/\x<=a)->(∀x∈q,0<=x/\x<=b)->∀x∈pad p q,0<=x/\x<=a+b
 |[],q,_,_,_,_,x,hx=>by simp [pad]at hx
 |_::_,[],_,_,_,_,x,hx=>by simp [pad]at hx
 |y::p,z::q,a,b,hp,hq,x,hx=>by
  have e:pad (y::p) (z::q)=(y+z)::pad p q:=rfl
  rw[e]at hx
  rcases AL.mp hx with rfl|hx
  ·have:=hp y (AD ..)
   have:=hq z (AD ..)
   omega
  ·exact v9_ (λx hx=>hp x (AC _ hx)) (λx hx=>hq x (AC _ hx)) x hx
theorem ana_{n:Nat}{r:List Int}(h:chk n r=true):norm (prd (norm (qQ_ n r)) (norm (q1_ n [])))=norm (q1_ n r):=by
 unfold chk at h
 rw[AH,AH,AH,AN,AN,AN,beq_iff_eq]at h
 obtain⟨⟨⟨h1,h2⟩,h3⟩,h4⟩:=h
 have hF:∀t∈qQ_ n r,t.1.length=n/\∀x∈t.1,0<=x/\x<=(11:Int):=λt ht=>by
  unfold qQ_ at ht
  obtain⟨f,hf,rfl⟩:=AR.mp ht
  exact jK_ (h1 f hf)
 refine zv_ λf=>?_
 rw[qU_,qq_]
 have e1:(λp=>sm (λq=>f (pad p q)) (norm (q1_ n [])))=λp=>sm (λq=>f (pad p q)) (q1_ n []):=by funext p;rw[qq_]
 rw[e1]
 have e2:sm (λp=>sm (λq=>f (pad p q)) (q1_ n [])) (qQ_ n r)=sm (λp=>sm (λq=>f (dec n (code p+code q))) (q1_ n [])) (qQ_ n r):=by
  refine qw_ λt ht=>qw_ λu hu=>?_
  obtain⟨a1,a2⟩:=hF t ht
  obtain⟨b1,b2⟩:=jK_ (h2 u hu)
  rw[<-y0_ n t.1 u.1 a1 b1 (λx hx=>(a2 x hx).1) λx hx=>(b2 x hx).1,zL_ n (pad t.1 u.1) (yy_ a1 b1) λx hx=>by have:=v9_ a2 b2 x hx;omega]
 rw[e2,yD_]
 have e3:=congrArg (smK λk=>f (dec n k)) h4
 unfold xo_ sumK at e3
 rw[vU_,yw_ (λk=>f (dec n k)) (λt:Mon=>(code t.1,t.2)),xW_]at e3
 simp only[smK,B8]at e3
 have e4:∀g:Nat->Int,smK g (KF n r)=sm (λp=>g (code p)) (qQ_ n r):=λg=>by
  unfold KF
  rw[yw_ g (λf=>(code (pwf n f),(1:Int))),<-xW_]
  unfold qQ_
  rw[B4]
  simp only[smK,B8]
  rfl
 have e5:sm (λq=>sm (λp=>f (dec n (code p+code q))) (qQ_ n r)) (q1_ n [])=sm (λq=>smK (λk=>f (dec n (k+code q))) (KF n r)) (q1_ n []):=qw_ λt _=>(e4 λk=>f (dec n (k+code t.1))).symm
 rw[e5,e3]
 refine qw_ λt ht=>?_
 obtain⟨a1,a2⟩:=jK_ (h3 t ht)
 rw[zL_ n t.1 a1 a2]
theorem ara_:(gen 2 8 8).all (xQ_ 1)=true:=by decide +kernel
theorem aqs_:(gen 3 8 8).all (xQ_ 2)=true:=by decide +kernel
theorem akb_{α:Type}{x:α}{l:List α}(c m:Nat)(h:x∈l)(hl:l.length<=c*m)(hc:0<c):∃i,i<m/\x∈(l.drop (c*i)).take c:=by
 obtain⟨k,hk⟩:=EQ.mp h
 have lk:k<l.length:=(AX.mp hk).1
 have e:=Nat.div_add_mod k c
 have r:=Nat.mod_lt k hc
 refine⟨k / c,(Nat.div_lt_iff_lt_mul hc).mpr (by rw[Ct];omega),EQ.mpr ⟨k%c,?_⟩⟩
 rw[List.getElem?_take,if_pos r,DP,e]
 exact hk
def qu_(n c i:Nat):Bool:=(((gen (n+1) 8 8).drop (c*i)).take c).all (xQ_ n)
theorem apt_:(gen 4 8 8).length<=4*14:=by decide +kernel
theorem aqw_:(gen 5 8 8).length<=2*34:=by decide +kernel
theorem c3_0:qu_ 3 4 0=true:=by decide +kernel
theorem c3_1:qu_ 3 4 1=true:=by decide +kernel
theorem c3_2:qu_ 3 4 2=true:=by decide +kernel
theorem c3_3:qu_ 3 4 3=true:=by decide +kernel
theorem c3_4:qu_ 3 4 4=true:=by decide +kernel
theorem c3_5:qu_ 3 4 5=true:=by decide +kernel
theorem c3_6:qu_ 3 4 6=true:=by decide +kernel
theorem c3_7:qu_ 3 4 7=true:=by decide +kernel
theorem c3_8:qu_ 3 4 8=true:=by decide +kernel
theorem c3_9:qu_ 3 4 9=true:=by decide +kernel
theorem aqx_:qu_ 3 4 10=true:=by decide +kernel
theorem apw_:qu_ 3 4 11=true:=by decide +kernel
theorem aq5_:qu_ 3 4 12=true:=by decide +kernel
theorem aqe_:qu_ 3 4 13=true:=by decide +kernel
theorem c4_0:qu_ 4 2 0=true:=by decide +kernel
theorem c4_1:qu_ 4 2 1=true:=by decide +kernel
theorem c4_2:qu_ 4 2 2=true:=by decide +kernel
theorem c4_3:qu_ 4 2 3=true:=by decide +kernel
theorem c4_4:qu_ 4 2 4=true:=by decide +kernel
theorem c4_5:qu_ 4 2 5=true:=by decide +kernel
theorem c4_6:qu_ 4 2 6=true:=by decide +kernel
theorem c4_7:qu_ 4 2 7=true:=by decide +kernel
theorem c4_8:qu_ 4 2 8=true:=by decide +kernel
theorem c4_9:qu_ 4 2 9=true:=by decide +kernel
theorem apy_:qu_ 4 2 10=true:=by decide +kernel
theorem aqt_:qu_ 4 2 11=true:=by decide +kernel
theorem ap8_:qu_ 4 2 12=true:=by decide +kernel
theorem ap2_:qu_ 4 2 13=true:=by decide +kernel
theorem apk_:qu_ 4 2 14=true:=by decide +kernel
theorem aq2_:qu_ 4 2 15=true:=by decide +kernel
theorem aqa_:qu_ 4 2 16=true:=by decide +kernel
theorem ap1_:qu_ 4 2 17=true:=by decide +kernel
theorem ap0_:qu_ 4 2 18=true:=by decide +kernel
theorem apm_:qu_ 4 2 19=true:=by decide +kernel
theorem ao2_:qu_ 4 2 20=true:=by decide +kernel
theorem aph_:qu_ 4 2 21=true:=by decide +kernel
theorem apx_:qu_ 4 2 22=true:=by decide +kernel
theorem ard_:qu_ 4 2 23=true:=by decide +kernel
theorem ao0_:qu_ 4 2 24=true:=by decide +kernel
theorem apv_:qu_ 4 2 25=true:=by decide +kernel
theorem aqv_:qu_ 4 2 26=true:=by decide +kernel
theorem ap5_:qu_ 4 2 27=true:=by decide +kernel
theorem aqh_:qu_ 4 2 28=true:=by decide +kernel
theorem apq_:qu_ 4 2 29=true:=by decide +kernel
theorem aqz_:qu_ 4 2 30=true:=by decide +kernel
theorem aq4_:qu_ 4 2 31=true:=by decide +kernel
theorem aqy_:qu_ 4 2 32=true:=by decide +kernel
theorem ao6_:qu_ 4 2 33=true:=by decide +kernel
theorem aoc_:∀i,i<14->qu_ 3 4 i=true
 |0,_=>c3_0
 |1,_=>c3_1
 |2,_=>c3_2
 |3,_=>c3_3
 |4,_=>c3_4
 |5,_=>c3_5
 |6,_=>c3_6
 |7,_=>c3_7
 |8,_=>c3_8
 |9,_=>c3_9
 |10,_=>aqx_
 |11,_=>apw_
 |12,_=>aq5_
 |13,_=>aqe_
 |i+14,h=>absurd h (by omega)
theorem aon_:∀i,i<34->qu_ 4 2 i=true
 |0,_=>c4_0
 |1,_=>c4_1
 |2,_=>c4_2
 |3,_=>c4_3
 |4,_=>c4_4
 |5,_=>c4_5
 |6,_=>c4_6
 |7,_=>c4_7
 |8,_=>c4_8
 |9,_=>c4_9
 |10,_=>apy_
 |11,_=>aqt_
 |12,_=>ap8_
 |13,_=>ap2_
 |14,_=>apk_
 |15,_=>aq2_
 |16,_=>aqa_
 |17,_=>ap1_
 |18,_=>ap0_
 |19,_=>apm_
 |20,_=>ao2_
 |21,_=>aph_
 |22,_=>apx_
 |23,_=>ard_
 |24,_=>ao0_
 |25,_=>apv_
 |26,_=>aqv_
 |27,_=>ap5_
 |28,_=>aqh_
 |29,_=>apq_
 |30,_=>aqz_
 |31,_=>aq4_
 |32,_=>aqy_
 |33,_=>ao6_
 |i+34,h=>absurd h (by omega)
theorem aq9_:(gen 4 8 8).all (xQ_ 3)=true:=AN.mpr λr hr=>by
 obtain⟨i,hi,hx⟩:=akb_ 4 14 hr apt_ (by decide)
 exact AN.mp (aoc_ i hi) r hx
theorem ao5_:(gen 5 8 8).all (xQ_ 4)=true:=AN.mpr λr hr=>by
 obtain⟨i,hi,hx⟩:=akb_ 2 34 hr aqw_ (by decide)
 exact AN.mp (aon_ i hi) r hx
theorem alu_{n:Nat}(n1:1<=n)(n4:n<=4):∀r∈gen (n+1) 8 8,xQ_ n r=true:=by
 have h:n=1∨n=2∨n=3∨n=4:=by omega
 rcases h with rfl|rfl|rfl|rfl
 ·exact AN.mp ara_
 ·exact AN.mp aqs_
 ·exact AN.mp aq9_
 ·exact AN.mp ao5_
theorem aam_{n:Nat}(n4:n<=4){r:List Int}(h8:∀x∈r,0<=x/\x<=8){j:Nat}:∀i,i<=j->jx_ n (r.take j) i=jx_ n r i
 |0,_=>rfl
 |i+1,h=>by
  have ih:=aam_ n4 h8 (j:=j) i (by omega)
  unfold jx_
  rw[ih]
  unfold wnl
  have ok:=yB_ n4 h8 i
  have g:∀k,k<j->(r.take j).getD k 0=r.getD k 0:=λk hk=>by rw[AO,AO,List.getElem?_take,if_pos hk]
  have e:∀lines∈jx_ n r i,jW_ n (r.take j) lines=jW_ n r lines:=λlines hl=>by
   have:=(ok lines hl).1
   unfold jW_ lfn
   rw[g 0 (by omega),g lines.length (by omega)]
  generalize jx_ n r i=fs at e
  induction fs with
  |nil=>rfl
  |cons x fs ih2=>rw[BW,BW,e x (AD ..),ih2 λy hy=>e y (AC _ hy)]
theorem acb_:∀(r:List Int)(j:Nat),(∀x∈r,0<=x)->(r.take j).sum<=r.sum
 |[],j,_=>by simp
 |x::r,0,h=>by
  have:∀l:List Int,(∀y∈l,0<=y)->0<=l.sum:=by
   intro l
   induction l with
   |nil=>intro _;exact By _
   |cons y l ih =>
    intro hy
    have:=hy y (AD ..)
    have:=ih λz hz=>hy z (AC _ hz)
    rw[Ad]
    omega
  simpa using this (x::r) h
 |x::r,j+1,h=>by
  have:=acb_ r j λy hy=>h y (AC _ hy)
  rw[CW,Ad,Ad]
  omega
theorem vT_{n:Nat}{r:List Int}(n1:1<=n)(n4:n<=4)(hl:r.length<=n+1)(hb:∀x∈r,1<=x/\x<=8)(hp:r.Pairwise λa b=>b<=a)(hs:r.sum<=8) :
  (∀j,j<=r.length->(jx_ n r j).length<=1000)/\(r.length<=n->norm (prd (norm (qQ_ n r)) (norm (q1_ n [])))=norm (q1_ n r)/\∀t∈qQ_ n r,t.1.length=n/\∀x∈t.1,0<=x/\x<=(11:Int))/\(n<r.length->qQ_ n r=[]):=by
 have h8:∀x∈r,0<=x/\x<=8:=λx hx=>by have:=hb x hx;omega
 have key:∀j,xQ_ n (r.take j)=true:=λj=>alu_ n1 n4 _ (adq_ (n+1) 8 8 (r.take j) (by rw[AW];omega) (λx hx=>hb x (BC hx)) (hp.sublist (Da ..)) (by have:=acb_ r j λx hx=>(h8 x hx).1;omega))
 have kr:=key r.length
 rw[Bj]at kr
 unfold xQ_ at kr
 rw[AH,decide_eq_true_eq]at kr
 refine⟨λj hj=>?_,λc=>?_,λc=>?_⟩
 ·have kj:=key j
  unfold xQ_ at kj
  rw[AH,decide_eq_true_eq]at kj
  have:=kj.1
  unfold fil at this
  rw[AW,Bh hj,aam_ n4 h8 j (AF _)]at this
  exact this
 ·have k2:=kr.2
  rw[if_pos c]at k2
  refine⟨ana_ k2,λt ht=>?_⟩
  unfold chk at k2
  rw[AH,AH,AH,AN]at k2
  unfold qQ_ at ht
  obtain⟨f,hf,rfl⟩:=AR.mp ht
  exact jK_ (k2.1.1.1 f hf)
 ·have k2:=kr.2
  rw[if_neg (by omega)]at k2
  have e:fil n r=[]:=by simpa using k2
  unfold qQ_
  rw[e]
  rfl
end L2.Ev
namespace L2.K72
open PySem
open L2.Pl L2.Ev
section
variable{P:Program}{w:World}{K:PySem.W.Frag}{mg:Str->Option Value}{base:Heap}{f g:Addr}{fd gd:FuncData}
def CodeOf(f:List Mon)(F:List (Nat×Int)):Prop:=∀h:Nat->Int,smK h F=sm (λp=>h (Ev.code p)) f
theorem CodeOf.norm{f:List Mon}{F:List (Nat×Int)}(h:CodeOf f F):CodeOf (Pl.norm f) F:=λg=>by rw[h g,qq_]
theorem ait_(f:List Mon):CodeOf f (sumK f):=λh=>by
 unfold sumK
 rw[yw_ h (λt:Mon=>(Ev.code t.1,t.2)),xW_]
 simp only[smK,B8]
theorem CodeOf.mul{n:Nat}{f g:List Mon}{F:List (Nat×Int)}(hf:CodeOf f F)(lf:∀t∈f,t.1.length=n)(nf:∀t∈f,∀x∈t.1,0<=x)(lg:∀t∈g,t.1.length=n)(ng:∀t∈g,∀x∈t.1,0<=x):CodeOf (prd f g) (xo_ F g):=λh=>by
 unfold xo_
 rw[vU_,qU_]
 simp only[smK,B8]
 have e:(λq=>smK (λk=>h (k+Ev.code q)) F)=λq=>sm (λp=>h (Ev.code p+Ev.code q)) f:=by
  funext q
  exact hf _
 rw[e,<-yD_ (λp q=>h (Ev.code p+Ev.code q)) g f]
 refine qw_ λt ht=>qw_ λu hu=>?_
 show h (Ev.code t.1+Ev.code u.1)=h (Ev.code (pad t.1 u.1))
 rw[y0_ n _ _ (lf t ht) (lg u hu) (nf t ht) (ng u hu)]
def pwK(ff:Nat->List Mon)(ks:List Nat):List (Nat×Int):=ks.foldl (λacc k=>xo_ acc (ff k)) [(0,1)]
theorem aaf_{ff:Nat->List Mon}{n:Nat}(hf:∀k,1<=k->k<=8->Fac n k (ff k)):∀(ks:List Nat)(A:List Mon)(F:List (Nat×Int)),(∀k∈ks,1<=k/\k<=8)->CodeOf A F->(∀t∈A,t.1.length=n/\∀x∈t.1,0<=x)->CodeOf (ks.foldl (y7_ ff) A) (ks.foldl (λacc k=>xo_ acc (ff k)) F)
 |[],_,_,_,h,_=>h
 |k::ks,A,F,hk,h,hA=>by
  have k8:=hk k (AD ..)
  have fk:=(hf k k8.1 k8.2).deg
  refine aaf_ hf ks _ _ (λj hj=>hk j (AC _ hj)) (CodeOf.norm (h.mul (λt ht=>(hA t ht).1) (λt ht=>(hA t ht).2) fk.len fk.nn)) λt ht=>?_
  obtain⟨u,hu,e⟩:=qC_ ht
  rw[<-e]
  obtain⟨x,hx,hm⟩:=BE.mp hu
  obtain⟨y,hy,rfl⟩:=AR.mp hm
  exact⟨yy_ (hA x hx).1 (fk.len y hy),abg_ (hA x hx).2 (fk.nn y hy)⟩
theorem vZ_:∀n:Nat,Ev.code (List.replicate n (0:Int))=0
 |0=>rfl
 |n+1=>by
  rw[List.replicate_succ',jT_,vZ_ n]
  rfl
theorem yU_{ff:Nat->List Mon}{n:Nat}(hf:∀k,1<=k->k<=8->Fac n k (ff k)){ks:List Nat}(hk:∀k∈ks,1<=k/\k<=8):CodeOf (zP_ ff n ks) (pwK ff ks):=by
 refine aaf_ hf ks _ _ hk (λh=>?_) λt ht=>?_
 ·show(1:Int)*h 0+0=1*h (Ev.code (List.replicate n 0))+0
  rw[vZ_]
 ·rw[AT.mp ht]
  exact⟨As,λx hx=>by rw[(DU.mp hx).2];exact By _⟩
theorem agl_:∀n∈([1,2,3,4]:List Nat),((q1_ n []).all λt=>jF_ n 3 t.1)=true:=by decide +kernel
theorem ah3_{n:Nat}(n1:1<=n)(n4:n<=4):∀t∈q1_ n [],t.1.length=n/\∀x∈t.1,0<=x/\x<=(3:Int):=λt ht=>jK_ (AN.mp (agl_ n (zz_ n1 n4)) t ht)
theorem xL_{n:Nat}{f:List Mon}{F:List (Nat×Int)}(n1:1<=n)(n4:n<=4)(h:CodeOf f F)(lf:∀t∈f,t.1.length=n)(nf:∀t∈f,∀x∈t.1,0<=x):CodeOf (prd f (qt_ n)) (xo_ F (q1_ n [])):=λg=>by
 rw[h.mul lf nf (λt ht=>(ah3_ n1 n4 t ht).1) (λt ht x hx=>((ah3_ n1 n4 t ht).2 x hx).1) g,qU_,qU_]
 have e:(λp=>sm (λq=>g (Ev.code (pad p q))) (q1_ n []))=λp=>sm (λq=>g (Ev.code (pad p q))) (qt_ n):=by
  funext p
  rw[(jE_ n (zz_ n1 n4)).1,qq_]
 rw[e]
theorem aho_(h:Pw->Int):∀T:List Mon,(T.map λt=>t.2*h t.1).sum=sm h T
 |[]=>rfl
 |t::T=>by rw[Ae,Ad,aho_ h T];rfl
theorem ah0_(n:Nat)(h:Pw->Int):∀W:List Mon,sm h (bfL n W)=sm (λp=>if isF (qr_ n p)=true then h (qB_ (qr_ n p)) else 0) W
 |[]=>rfl
 |t::W=>by
  have ih:=ah0_ n h W
  unfold bfL at ih ⊢
  rw[Av]
  by_cases c:isF (qr_ n t.1)=true
  ·rw[if_pos c,Ae]
   show t.2*h (qB_ (qr_ n t.1))+sm h _=t.2*(if isF (qr_ n t.1)=true then h (qB_ (qr_ n t.1)) else 0)+_
   rw[ih,if_pos c]
  ·rw[if_neg c,ih]
   show _=t.2*(if isF (qr_ n t.1)=true then h (qB_ (qr_ n t.1)) else 0)+_
   rw[if_neg c]
   omega
theorem aco_{n:Nat}{p:Pw}(lp:p.length=n)(np:∀x∈p,0<=x)(fp:isF (qr_ n p)=true):∀{W:List Mon},(∀t∈W,t.1.length=n)->(∀t∈W,∀x∈t.1,0<=x)->cf (bfL n W) (qB_ (qr_ n p))=cf W p
 |[],_,_=>rfl
 |t::W,l,nn=>by
  have ih:=aco_ lp np fp (W:=W) (λu hu=>l u (AC _ hu)) λu hu=>nn u (AC _ hu)
  unfold bfL at ih ⊢
  rw[Av]
  have lt:=l t (AD ..)
  have nt:=nn t (AD ..)
  by_cases c:isF (qr_ n t.1)=true
  ·rw[if_pos c,Ae]
   show(if qB_ (qr_ n t.1)=qB_ (qr_ n p) then t.2 else 0)+cf _ _=(if t.1=p then t.2 else 0)+cf W p
   rw[ih]
   congr 1
   by_cases e:t.1=p
   ·rw[if_pos e,if_pos (by rw[e])]
   ·rw[if_neg e,if_neg λz=>e ?_]
    rw[<-ahf_ lt nt c,z,ahf_ lp np fp]
  ·rw[if_neg c,ih]
   show _=(if t.1=p then t.2 else 0)+cf W p
   rw[if_neg λe=>c (by rw[e];exact fp)]
   omega
def phi(n:Nat)(f g:List Mon):Int:=sm (λp=>if isF (qr_ n p)=true then cf (prd g (qt_ n)) p else 0) (prd f (qt_ n))
theorem yd_{n b:Nat}{f:List Mon}(n1:1<=n)(n4:n<=4)(hD:Deg n 8 b f):(∀t∈prd f (qt_ n),t.1.length=n)/\(∀t∈prd f (qt_ n),∀x∈t.1,0<=x)/\∀t∈prd f (qt_ n),∀x∈t.1,0<=x/\x<=(15:Int):=by
 have pD:=hD.prd (z6_ (jE_ n (zz_ n1 n4)).2.2.1)
 refine⟨pD.len,pD.nn,λt ht x hx=>⟨pD.nn t ht x hx,?_⟩⟩
 have:=(jR_ (pD.nn t ht) hx).1
 have:=pD.sum t ht
 have:tri n<=6:=by
  have:n=1∨n=2∨n=3∨n=4:=by omega
  rcases this with rfl|rfl|rfl|rfl<;>decide
 omega
theorem jh_{n b:Nat}{f g:List Mon}(n1:1<=n)(n4:n<=4)(dF:Deg n 8 b f)(dG:Deg n 8 b g):jP_ n f g=phi n f g:=by
 unfold jP_ phi
 rw[aho_]
 unfold bfF
 rw[ah0_,qq_]
 obtain⟨l1,m1,_⟩:=yd_ n1 n4 dF
 obtain⟨l2,m2,_⟩:=yd_ n1 n4 dG
 refine qw_ λt ht=>?_
 by_cases c:isF (qr_ n t.1)=true
 ·rw[if_pos c,if_pos c,aco_ (l1 t ht) (m1 t ht) c (λu hu=>?_) (λu hu=>?_),zt_]
  ·obtain⟨v,hv,e⟩:=qC_ hu
   rw[<-e]
   exact l2 v hv
  ·obtain⟨v,hv,e⟩:=qC_ hu
   rw[<-e]
   exact m2 v hv
 ·rw[if_neg c,if_neg c]
theorem adn_:∀A:List Mon,sm (λ_=>(0:Int)) A=0
 |[]=>rfl
 |t::A=>by
  show t.2*0+sm (λ_=>(0:Int)) A=0
  rw[adn_ A]
  omega
theorem ac2_(n:Nat)(f g:List Mon):phi n f g=sm (λp=>sm (λq=>if isF (qr_ n p)=true/\q=p then 1 else 0) (prd g (qt_ n))) (prd f (qt_ n)):=by
 unfold phi
 refine qw_ λt _=>?_
 by_cases c:isF (qr_ n t.1)=true
 ·rw[if_pos c,zN_]
  refine qw_ λu _=>?_
  by_cases e:u.1=t.1
  ·rw[if_pos e,if_pos ⟨c,e⟩]
  ·rw[if_neg e,if_neg λz=>e z.2]
 ·rw[if_neg c]
  have:(λq:Pw=>if isF (qr_ n t.1)=true/\q=t.1 then (1:Int) else 0)=λ_=>0:=by
   funext q
   rw[if_neg λz=>c z.1]
  rw[this,adn_]
theorem ab6_(n:Nat)(f g:List Mon):phi n f g=phi n g f:=by
 rw[ac2_,ac2_,yD_ (λp q=>if isF (qr_ n p)=true/\q=p then (1:Int) else 0)]
 refine qw_ λt _=>qw_ λu _=>?_
 by_cases e:t.1=u.1
 ·rw[e]
 ·rw[if_neg λz=>e z.2,if_neg λz=>e z.2.symm]
theorem ado_(n:Nat)(f g h:List Mon):phi n f (norm (g++h))=phi n f g+phi n f h:=by
 unfold phi
 rw[<-aa9_]
 refine qw_ λt _=>?_
 have e:cf (prd (norm (g++h)) (qt_ n)) t.1=cf (prd g (qt_ n)) t.1+cf (prd h (qt_ n)) t.1:=by
  rw[zN_,zN_,zN_,qU_,qq_,jd_,qU_,qU_]
 by_cases c:isF (qr_ n t.1)=true
 ·rw[if_pos c,if_pos c,if_pos c,e]
 ·rw[if_neg c,if_neg c,if_neg c]
  rfl
def ja_(n:Nat)(F:List (Nat×Int)):List (Nat×Int):=F.filter λu=>sfB (dec n u.1)
def xG_(G:List (Nat×Int))(c:Nat):Int:=smK (λd=>if d=c then 1 else 0) G
def dotK(F G:List (Nat×Int)):Int:=smK (xG_ G) F
theorem y6_(n:Nat)(h:Nat->Int):∀F:List (Nat×Int),smK (λc=>if sfB (dec n c)=true then h c else 0) F=smK h (ja_ n F)
 |[]=>rfl
 |u::F=>by
  have ih:=y6_ n h F
  unfold ja_ at ih ⊢
  rw[Av]
  by_cases c:sfB (dec n u.1)=true
  ·rw[if_pos c]
   show u.2*(if sfB (dec n u.1)=true then h u.1 else 0)+_=u.2*h u.1+_
   rw[if_pos c,ih]
  ·rw[if_neg c]
   show u.2*(if sfB (dec n u.1)=true then h u.1 else 0)+_=_
   rw[if_neg c,ih]
   omega
theorem abq_(n:Nat){c:Nat}(hc:sfB (dec n c)=true)(G:List (Nat×Int)):xG_ G c=xG_ (ja_ n G) c:=by
 unfold xG_
 rw[<-y6_]
 have:(λd=>if sfB (dec n d)=true then (if d=c then (1:Int) else 0) else 0)=λd=>if d=c then 1 else 0:=by
  funext d
  by_cases e:d=c
  ·rw[e,if_pos hc]
  ·rw[if_neg e]
   by_cases k:sfB (dec n d)=true
   ·rw[if_pos k]
   ·rw[if_neg k]
 rw[this]
theorem v7_{h g:Nat->Int}:∀{F:List (Nat×Int)},(∀u∈F,h u.1=g u.1)->smK h F=smK g F
 |[],_=>rfl
 |u::F,q=>by
  show u.2*h u.1+smK h F=u.2*g u.1+smK g F
  rw[q u (AD ..),v7_ λv hv=>q v (AC _ hv)]
theorem ajh_{n b:Nat}{f g:List Mon}{F G:List (Nat×Int)}(n1:1<=n)(n4:n<=4)(dF:Deg n 8 b f)(dG:Deg n 8 b g)(cF:CodeOf (prd f (qt_ n)) F)(cG:CodeOf (prd g (qt_ n)) G):phi n f g=dotK (ja_ n F) (ja_ n G):=by
 obtain⟨l1,_,m1⟩:=yd_ n1 n4 dF
 obtain⟨l2,_,m2⟩:=yd_ n1 n4 dG
 unfold dotK phi
 have e1:smK (xG_ (ja_ n G)) (ja_ n F)=smK (xG_ G) (ja_ n F):=v7_ λu hu=>(abq_ n (BR.mp hu).2 G).symm
 rw[e1,<-y6_,cF]
 refine qw_ λt ht=>?_
 rw[zL_ n t.1 (l1 t ht) (m1 t ht),<-ag4_ n t.1]
 by_cases c:sfB t.1=true
 ·rw[if_pos c,if_pos c]
  unfold xG_
  rw[cG,zN_]
  refine qw_ λu hu=>?_
  by_cases e:u.1=t.1
  ·rw[if_pos e,if_pos (by rw[e])]
  ·rw[if_neg e,if_neg λz=>e ?_]
   rw[<-zL_ n u.1 (l2 u hu) (m2 u hu),z,zL_ n t.1 (l1 t ht) (m1 t ht)]
 ·rw[if_neg c,if_neg c]
def wk(n:Nat)(r:List Int):List (Nat×Int):=ja_ n (xo_ (pwK (whF n) (r.map Int.toNat)) (q1_ n []))
def ek(n:Nat)(r:List Int):List (Nat×Int):=ja_ n (xo_ (sumK (exch n r)) (q1_ n []))
def vV_(n:Nat):Bool:=((rws n 6 6).map λr=>(r,wk n r)).all λa=>((rws n 6 6).map λr=>(r,ek n r)).all λb=>decide (a.1.sum≠b.1.sum)||decide (dotK a.2 b.2=if a.1=b.1 then 1 else 0)
theorem am2_:vV_ 1=true:=by decide +kernel
theorem anr_:vV_ 2=true:=by decide +kernel
theorem anh_:vV_ 3=true:=by decide +kernel
theorem aom_:vV_ 4=true:=by decide +kernel
def facB(n k:Nat)(f:List Mon):Bool:=f.all (λt=>decide (t.1.length=n)&&t.1.all (λx=>decide (0<=x))&&decide (t.1.sum=(k:Int))&&decide (t.2=1))&&decide (f.length<=165)
theorem af4_{n k:Nat}{f:List Mon}(h:facB n k f=true):Fac n k f:=by
 unfold facB at h
 rw[AH,AN,decide_eq_true_eq]at h
 have key:∀t∈f,((t.1.length=n/\∀x∈t.1,0<=x)/\t.1.sum=(k:Int))/\t.2=1:=λt ht=>by
  have:=h.1 t ht
  rw[AH,AH,AH,decide_eq_true_eq,decide_eq_true_eq,decide_eq_true_eq,AN]at this
  exact⟨⟨⟨this.1.1.1,λx hx=>of_decide_eq_true (this.1.1.2 x hx)⟩,this.1.2⟩,this.2⟩
 exact⟨⟨λt ht=>(key t ht).1.1.1,λt ht=>(key t ht).1.1.2,λt ht=>by rw[(key t ht).1.2];exact By _,λt ht=>by rw[(key t ht).2];decide⟩,λt ht=>(key t ht).1.2,h.2⟩
theorem aig_{n:Nat}(n1:1<=n)(n4:n<=4):vV_ n=true:=by
 have:n=1∨n=2∨n=3∨n=4:=by omega
 rcases this with rfl|rfl|rfl|rfl
 ·exact am2_
 ·exact anr_
 ·exact anh_
 ·exact aom_
structure Rw6(n:Nat)(r:List Int):Prop where
 r8:Rw8 n r
 s6:r.sum<=6
theorem Rw6.mem{n:Nat}{r:List Int}(h:Rw6 n r):r∈rws n 6 6:=by
 refine xC_ n r 6 6 h.r8.len h.r8.fall h.r8.pos (λx hx=>?_) h.s6
 have:=(jR_ (λy hy=>by have:=h.r8.pos y hy;omega) hx).1
 have:=h.s6
 show x<=(6:Int)
 omega
theorem al5_:∀n∈[1,2,3,4],∀k∈[1,2,3,4,5,6,7,8],(facB n k (elF n k)&&facB n k (whF n k))=true:=by decide +kernel
theorem zM_(n k:Nat)(n1:1<=n)(n4:n<=4)(k1:1<=k)(k8:k<=8):Fac n k (elF n k)/\Fac n k (whF n k):=by
 have hn:n∈[1,2,3,4]:=by
  have:n=1∨n=2∨n=3∨n=4:=by omega
  rcases this with rfl|rfl|rfl|rfl<;>simp
 have hk:k∈[1,2,3,4,5,6,7,8]:=by
  have:k=1∨k=2∨k=3∨k=4∨k=5∨k=6∨k=7∨k=8:=by omega
  rcases this with rfl|rfl|rfl|rfl|rfl|rfl|rfl|rfl<;>simp
 have:=al5_ n hn k hk
 rw[AH]at this
 exact⟨af4_ this.1,af4_ this.2⟩
def evB(n:Nat)(f:List Mon):Bool:=(List.range (n-1)).all λk=>decide (norm (sws f k)=norm f)
theorem xs_{n:Nat}{f:List Mon}(h:evB n f=true):Even n f:=λk hk=>of_decide_eq_true (AN.mp h k (Ar.mpr (by omega)))
def rowE(n:Nat)(r:List Int):Bool:=evB n (exch n r)&&x7_ n 8 1 (exch n r)&&decide ((exch n r).length<=24)&&zq_ r&&((List.range (n-1)).all λk=>decide (norm (sws (q1_ n r) k)=norm (ngt (q1_ n r))))&&decide (bfL n (norm (q1_ n r))=[(r,1)])
theorem aor_:∀n∈([1,2,3,4]:List Nat),(rws n 6 6).all (rowE n)=true:=by decide +kernel
theorem akp_:∀n∈([1,2,3,4]:List Nat),∀k∈[1,2,3,4,5,6],(evB n (elF n k)&&evB n (whF n k))=true:=by decide +kernel
abbrev nLr:List Str:=["_law_one", "_law_other", "_law_many", "_law_left", "_law_right"]
abbrev pLr:List Str:=["_law_one", "_law_other", "_law_many"]
theorem scLr:FnScope nLr pLr (qh_ sLr):=⟨rfl,rfl,rfl,by decide +kernel,rfl,by decide +kernel,by decide +kernel⟩
theorem vx_{c far w:Int}{n:Nat}(w0:0<=w)(n1:1<=n)(w8:w<=8):Rw8 n (jG_ (zF_ c far w n))/\(jG_ (zF_ c far w n)).sum<=w:=by
 obtain⟨pl,pn,ps⟩:=yp_ (c:=c) (far:=far) w0 n1
 have pm:(y3_ (zF_ c far w n)).Perm (zF_ c far w n):=DK _ _
 have so:(y3_ (zF_ c far w n)).Pairwise λa b=>b<=a:=(Dt (le:=λa b:Int=>decide (b<=a)) (λa b c h1 h2=>decide_eq_true (by have:=of_decide_eq_true h1;have:=of_decide_eq_true h2;omega)) (λa b=>by
  rcases Int.le_total a b with h|h
  ·rw[decide_eq_true h,El]
  ·rw[decide_eq_true h,Eg]) _).imp λh=>of_decide_eq_true h
 have sm:(jG_ (zF_ c far w n)).sum<=w:=by
  have:=vA_ (l:=y3_ (zF_ c far w n)) λx hx=>(pn x (pm.mem_iff.mp hx)).1
  unfold jG_
  unfold qB_ at this
  rw[this,yQ_ pm]
  omega
 refine⟨⟨?_,so.filter _,λx hx=>of_decide_eq_true (BR.mp hx).2,by omega⟩,sm⟩
 have:=ajz_ (zF_ c far w n)
 omega
def spLr:Sp:=λvs H Q _=>∃(c d:Int)(n:Nat),vs=[.int c,.int d,.int n]/\1<=n/\n<=4/\∀(p a b:Addr)(L R:List Int)(H':Hp),Same H H'->H' a=some (.tup (L.map V.int))->H' b=some (.tup (R.map V.int))->H' p=some (.tup [.ref a,.ref b])->Rw6 n L->Rw6 n R->L.sum=R.sum->Q (.ref p) H'
theorem ao3_(F:Fun K "_law_rows" "_law_rows" sLr f fd)(GR:Has P w K mg base 4 "_law_row" nRo aed_)(GP:Has P w K mg base 4 "_law_powers" pP ad8_)(ms:mg "sum" = none)(mt:mg "tuple" = none)(mi:mg "int" = none):FnOk P w K mg base CX0 5 f fd pLr spLr:=by
 refine F.ok scLr (λvs H Q E h=>?_) (λcdv A outer s H vs Q E hr h=>?_)
 ·obtain⟨c,d,n,rfl,_⟩:=h
  rfl
 obtain⟨c,d,n,rfl,n1,n4,q⟩:=h
 refine⟨_,qe_ (qo_ (i:=3) scLr.nd rfl (Or.inl rfl) (qi_ GR hr rfl (qa_ (qi_ GP hr rfl (qa_ (pv 0) (qa_ qg_ (qa_ (pv 2) (qa_ qg_ qb_))))) qb_)))
  (qe_ (qo_ (i:=4) scLr.nd rfl (Or.inl rfl) (qi_ GR hr rfl (qa_ (qi_ GP hr rfl (qa_ (pv 1) (qa_ qg_ (qa_ (pv 2) (qa_ (qD_ (z1_ rfl) rfl ms BU (qa_ (pv 3) qb_)) qb_))))) qb_)))
  (qe_ (q0_ (qy_ aav_ (qD_ (z1_ rfl) rfl ms BU (qa_ (pv 4) qb_)) (qD_ (z1_ rfl) rfl ms BU (qa_ (pv 3) qb_)) (qv_ _))
   (qe_ (qo_ (i:=4) scLr.nd rfl (Or.inl rfl) (qO_ qP_ rfl mt BL (qa_ (ql_ ag1_ (qJ_ (qa_ (qD_ (z1_ rfl) rfl ms BU (qa_ (pv 3) qb_)) qb_)) (qO_ aac_ rfl mi ER (qa_ (jC_ j1_ (qD_ (z1_ rfl) rfl ms BU (qa_ (pv 3) qb_)) qg_ (qv_ _)) qb_))) qb_)))
   (qf_ (q0_ (qy_ vv_ (ql_ j8_ (pv 1) qg_) qg_ (qv_ _)) (qf_ (qo_ (i:=4) scLr.nd rfl (Or.inl rfl) (pv 3))) qG_))) qG_)
  (qf_ (qm_ (qs_ (qa_ (pv 3) (qa_ (pv 4) qb_)))))))
  ,?_⟩
 obtain⟨L8,L6⟩:=vx_ (c:=c) (far:=3) (w:=6) (n:=n) (by decide) n1 (by decide)
 have lp:=(yp_ (c:=c) (far:=3) (w:=6) (by decide) n1).1
 refine⟨_,rfl,_,rfl,c,3,6,n,rfl,n1,by omega,by decide,by decide,by decide,by decide,λp1 H1 s1 h1=>?_⟩
 refine⟨p1,_,rfl,h1,by omega,λt2 H2 s2 h2=>?_⟩
 have s12:=s1.trans s2
 generalize jG_ (zF_ c 3 6 n)=L at h2 L8 L6
 have pos0:∀l:List Int,(∀y∈l,0<y)->0<=l.sum:=λl=>by
  induction l with
  |nil=>intro _;simp
  |cons y l ih =>
   intro h
   rw[Ad]
   have:=h y (AD ..)
   have:=ih λz hz=>h z (AC _ hz)
   omega
 have L0:=pos0 L L8.pos
 obtain⟨R8,R6⟩:=vx_ (c:=d) (far:=5) (w:=L.sum) (n:=n) L0 n1 (by omega)
 have lp2:=(yp_ (c:=d) (far:=5) (w:=L.sum) L0 n1).1
 refine⟨_,rfl,_,rfl,_,rfl,t2,L,rfl,SqT.of h2,d,5,L.sum,n,rfl,n1,by omega,by decide,by decide,L0,by omega,λp3 H3 s3 h3=>?_⟩
 refine⟨p3,_,rfl,h3,by omega,λt4 H4 s4 h4=>?_⟩
 have s34:=s3.trans s4
 generalize jG_ (zF_ d 5 L.sum n)=R at h4 R8 R6
 have h24:=s34 _ _ h2
 have zz:=s12.trans s34
 have six:Rw6 n L:=⟨L8,by omega⟩
 refine⟨_,rfl,t4,R,rfl,SqT.of h4,_,rfl,t2,L,rfl,SqT.of h24,_,_,rfl,rfl,_,rfl,?_⟩
 by_cases cl:R.sum<L.sum
 ·refine xX_ cl ?_
  refine⟨_,rfl,t2,L,rfl,SqT.of h24,(by show 1<=sizeLine;decide),λl5 h5=>?_⟩
  have s5:=qd_ h5 (.lst [.int L.sum])
  have R0:=pos0 R R8.pos
  have Lp:0<L.sum:=by omega
  refine⟨_,rfl,t2,L,rfl,SqT.of (s5 _ _ h24),_,_,rfl,rfl,_,rfl,?_⟩
  rw[decide_eq_true Lp]
  refine⟨l5,1,_,rfl,rfl,qc_,by decide,by decide,small (by show 1*1<=100000;decide),λl6 h6=>?_⟩
  have s6:=qd_ h6 (.lst [.int L.sum])
  refine⟨l6,[.int L.sum],rfl,.inl ⟨SqL.of qc_,λt7 h7=>?_⟩⟩
  have s7:=qd_ h7 (.tup [.int L.sum])
  have z7:=s5.trans (s6.trans s7)
  refine⟨_,rfl,_,_,rfl,rfl,(by show(0:Int)<3;decide),rfl,_,rfl,ite2 (λ_=>?_) (λ_=>?_)⟩
  ·refine⟨_,rfl,_,rfl,_,rfl,(by show 2<=sizeLine;decide),λp8 h8=>?_⟩
   have s8:=qd_ h8 (.tup [.ref t2,.ref t2])
   exact q p8 t2 t2 L L _ (zz.trans (z7.trans s8)) (s8 _ _ (z7 _ _ h24)) (s8 _ _ (z7 _ _ h24)) qc_ six six rfl
  ·refine⟨_,rfl,_,rfl,(by show 2<=sizeLine;decide),λp8 h8=>?_⟩
   have s8:=qd_ h8 (.tup [.ref t2,.ref t7])
   have e1:([L.sum]:List Int).sum=L.sum:=by simp
   refine q p8 t2 t7 L [L.sum] _ (zz.trans (z7.trans s8)) (s8 _ _ (z7 _ _ h24)) (s8 _ _ qc_) qc_ six ⟨⟨n1,Ca _ _,λx hx=>by rw[AT.mp hx];exact Lp,by rw[e1];omega⟩,by rw[e1];omega⟩ e1.symm
 ·refine jV_ cl ⟨_,rfl,_,rfl,(by show 2<=sizeLine;decide),λp6 h6=>?_⟩
  have s6:=qd_ h6 (.tup [.ref t2,.ref t4])
  exact q p6 t2 t4 L R _ (zz.trans s6) (s6 _ _ h24) (s6 _ _ h4) qc_ six ⟨R8,by omega⟩ (by omega)
abbrev nLf:List Str:=["least_numbers", "many", "found", "least", "longer", "line", "number"]
theorem scLf:FnScope nLf ["least_numbers", "many"] (qh_ sLf):=⟨rfl,rfl,rfl,by decide +kernel,rfl,by decide +kernel,by decide +kernel⟩
def spLf:Sp:=λvs H Q _=>∃(p:Addr)(n:Nat)(ls:List Int),vs=[.ref p,.int n]/\H p=some (.tup (ls.map V.int))/\n<=4/\ls.length<=8/\(∀x∈ls,0<=x/\x<=1000)/\∀(l:Addr)(H':Hp),H l=none->Same H H'->LstAt H' l (lf n ls)->Q (.ref l) H'
theorem aos_{line:List Int}{x M:Int}(h1:M∈line.drop (line.length-1)++[x])(h2:∀a∈line.drop (line.length-1)++[x],a<=M):M=mxl line x:=by
 by_cases c:line=[]
 ·subst c
  simp at h1
  rw[h1]
  rfl
 ·obtain⟨as,y,e⟩:∃as y,line=as++[y]:=⟨_,_,(BB c).symm⟩
  subst e
  have ed:(as++[y]).drop ((as++[y]).length-1)=[y]:=by
   rw[AE,Aq,Nat.add_sub_cancel,List.drop_left]
  rw[ed]at h1 h2
  unfold mxl
  rw[Eb,Du]
  have b1:=h2 y (by simp)
  have b2:=h2 x (by simp)
  simp at h1
  simp only[Option.some_or]
  split<;>omega
theorem ak5_{a:Int}{n j:Nat}(h:j<((n:Int)-a).toNat):(jz_ a n)[j]?=some (a+(j:Int)):=by
 unfold jz_
 rw[AV,CA h]
 rfl
theorem aiw_{H H':Hp}{l p:Addr}{ys:List V}{rs:List (List Int)}{r:List Int}(t:Tups H H')(i:Its H ys rs)(hp:H' p=some (.tup (r.map V.int)))(hl:H' l=some (.lst (ys++[.ref p]))):LstAt H' l (rs++[r]) :=
 ⟨_,hl,Paired.app (Its.mono t i) (.cons (zd_ hp) .nil)⟩
theorem api_(F:Fun K "lines_from" "lines_from" sLf f fd)(mr:mg "range" = none)(mx:mg "max" = none):FnOk P w K mg base CX0 2 f fd ["least_numbers", "many"] spLf:=by
 refine F.ok scLf (λvs H Q E h=>?_) (λcdv A outer s H vs Q E hr h=>?_)
 ·obtain⟨p,n,ls,rfl,_⟩:=h
  rfl
 obtain⟨p,n,ls,rfl,hp,n4,l8,nn',q⟩:=h
 have nn:∀x∈ls,0<=x:=λx hx=>(nn' x hx).1
 refine⟨_,qe_ (qo_ (i:=2) scLf.nd rfl (Or.inl rfl) (qJ_ (qa_ (qs_ qb_) qb_)))
  (qe_ (qE_ Al rfl (jB_ (pv 0)) (qj_ (i:=3) scLf.nd rfl (Or.inl rfl))
   (qe_ (qo_ (i:=4) scLf.nd rfl (Or.inl rfl) (qJ_ qb_))
   (qe_ (qE_ Al rfl (qz_ (pv 2)) (qj_ (i:=5) scLf.nd rfl (Or.inl rfl))
    (qf_ (qE_ Al rfl (ag8_ rfl mr (qa_ (qD_ (ahc_ rfl) rfl mx PyProof.Rows.boot_max (qa_ (ql_ zl_ (q3_ anq_ (pv 5) (q5_ (xm_ jU_ qg_)) zu_) (qs_ (qa_ (pv 3) qb_))) qb_)) (qa_ (pv 1) qb_))) (qj_ (i:=6) scLf.nd rfl (Or.inl rfl))
     (qf_ (qK_ (jM_ BK BF BG q7_ (pv 4) (qa_ (ql_ zl_ (pv 5) (qs_ (qa_ (pv 6) qb_))) qb_)))))))
   (qf_ (qo_ (i:=2) scLf.nd rfl (Or.inl rfl) (pv 4))))))
  (qf_ (qm_ (pv 2)))),?_⟩
 refine⟨(by show 0<=sizeLine;decide),λt0 h0=>⟨(by show 1<=sizeLine;decide),λl0 hl0=>?_⟩⟩
 have s0:=qd_ h0 (.tup [])
 have s1:=qd_ hl0 (.lst [.ref t0])
 refine⟨_,rfl,p,rfl,⟨_,SqT.of (s1 _ _ (s0 _ _ hp))⟩,?_⟩
 refine ad6_ (xs:=ls.map V.int) (λi σ H'=>(∃(l:Addr)(c3 c4 c5 c6:Option V),σ=[some (.ref p),some (.int n),some (.ref l),c3,c4,c5,c6]/\LstAt H' l (lf n (ls.take i))/\H l=none)/\Same H H') ?_ ?_ ?_ ?_
 ·exact⟨⟨l0,_,_,_,_,rfl,⟨[.ref t0],qc_,.cons (zd_ (r:=[]) (s1 _ _ qc_)) .nil⟩,s0.free hl0⟩,s0.trans s1⟩
 ·rintro i σ H1 _ ⟨_,sH⟩
  exact SqT.of (sH _ _ hp)
 ·rintro i v σ H1 hv ⟨⟨l,c3,c4,c5,c6,rfl,⟨us,eL,iL⟩,fl⟩,sH⟩
  obtain⟨x,hx,rfl⟩:∃x,ls[i]?=some x/\V.int x=v:=by
   rw[AV]at hv
   cases e:ls[i]? with
   |none=>rw[e]at hv;cases hv
   |some y=>rw[e]at hv;exact⟨y,rfl,AZ hv⟩
  have x0:=nn x (Ag hx)
  have il:i<ls.length:=(AX.mp hx).1
  have fl4:(lf n (ls.take i)).length<=4^8:=Ac (abw_ n4 rfl λy hy=>nn y (BC hy)) (Cj (by decide) (by rw[AW];omega))
  have st:lf n (ls.take (i+1))=yH_ n (lf n (ls.take i)) x:=by rw[qI_ hx,vN_]
  have s4:(yH_ n (lf n (ls.take i)) x).length<=4^8*4:=Ac (zB_ (jw_ n x) 4 _ λy _=>Ac (ack_ x0 y) n4) (CO 4 fl4)
  have e48:(4:Nat)^8*4<=1000000:=by decide
  have nnl:=aey_ (n:=n) (ls:=ls.take i) λy hy=>nn y (BC hy)
  generalize lf n (ls.take i)=fs at iL fl4 st s4 nnl
  have lu:=AQ iL
  refine⟨(by show 0<=sizeLine;decide),λl2 hl2=>?_⟩
  have s2:=qd_ hl2 (.lst [])
  refine⟨_,rfl,l,rfl,⟨_,SqL.of (s2 _ _ eL)⟩,?_⟩
  refine qL_ (xs:=us) (λj σ H'=>(∃c5 c6,σ=[some (.ref p),some (.int n),some (.ref l),some (.int x),some (.ref l2),c5,c6])/\Same H1 H'/\LstAt H' l2 ((fs.take j).flatMap (jw_ n x))) ?_ ?_ ?_ ?_
  ·exact⟨⟨_,_,rfl⟩,s2,⟨[],qc_,.nil⟩⟩
  ·rintro j σ H2 _ ⟨_,s3,_⟩
   exact SqL.of (s3 _ _ eL)
  ·rintro j v σ H2 hv ⟨⟨c5,c6,rfl⟩,s3,hY⟩
   obtain⟨line,hline,hi⟩:=qV_ iL hv
   obtain⟨a,rfl,ha⟩:=q8_ hi
   have ha2:=s3 _ _ ha
   have jl:j<fs.length:=(AX.mp hline).1
   have ln:=nnl line (Ag hline)
   rw[AW]at ln
   have tk:(fs.take (j+1)).flatMap (jw_ n x)=(fs.take j).flatMap (jw_ n x)++jw_ n x line:=by rw[qI_ hline,Be,Bp]
   have tl:((fs.take (j+1)).flatMap (jw_ n x)).length<=1000000:=Ac (aar_ _ _ _) (Ac s4 e48)
   refine⟨_,rfl,_,rfl,-1,rfl,a,line,rfl,rfl,rfl,ha2,λt1 H3 s4' ht1=>?_⟩
   refine⟨_,rfl,(by show 1<=sizeLine;decide),λt2 ht2=>?_⟩
   have s5:=qd_ ht2 (.tup [.int x])
   refine zf_ (r:=line.drop (line.length-1)) (r':=[x]) (s5 _ _ ht1) qc_ (small (by rw[Au];show _+1<=_;omega)) λt3 H4 s6 ht3=>?_
   refine⟨t3,line.drop (line.length-1)++[x],rfl,SqT.of ht3,by simp,λM m1 m2=>?_⟩
   have hM:=aos_ m1 m2
   have M0:0<=M:=by have:=ab0_ line x;omega
   have M9:M<=1000:=by
    rw[hM]
    unfold mxl
    have x9:=(nn' x (Ag hx)).2
    cases e:line.getLast? with
    |none=>exact x9
    |some y =>
     have:=(ln.2 y (Ea e)).2
     show(if y<x then x else y)<=1000
     split<;>omega
   have s14:Same H1 H4:=s3.trans (s4'.trans (s5.trans s6))
   have hY4:=hY.mono (s4'.trans (s5.trans s6))
   refine⟨_,rfl,M,n,rfl,⟨by omega,by omega,by omega,by omega⟩,?_⟩
   refine z3_ (lo:=M) (n:=((n:Int)-M).toNat) (λk σ H'=>(∃c6,σ=[some (.ref p),some (.int n),some (.ref l),some (.int x),some (.ref l2),some (.ref a),c6])/\Same H1 H'/\LstAt H' l2 ((fs.take j).flatMap (jw_ n x)++((jz_ M n).take k).map λk=>line++[k])) ?_ ?_ ?_
   ·refine⟨⟨_,rfl⟩,s14,?_⟩
    rw[CP,CF,BP]
    exact hY4
   ·rintro k σ H5 hk ⟨⟨c6,rfl⟩,s7,⟨ys,eY,iY⟩⟩
    have ly:=AQ iY
    have lr:(jz_ M n).length=((n:Int)-M).toNat:=by unfold jz_;rw[AA,A0]
    have e1:jw_ n x line=(jz_ M n).map λk=>line++[k]:=by rw[hM];rfl
    have l9:ys.length<=1000000:=by
     rw[ly]
     refine Ac ?_ tl
     rw[tk,e1,AE,AE,AA,AA,AW]
     omega
    refine⟨_,rfl,.inl ⟨rfl,_,SqL.of eY⟩,_,rfl,_,rfl,(by show 1<=sizeLine;decide),λt4 h4=>?_⟩
    have s8:=qd_ h4 (.tup [.int (M+(k:Int))])
    refine zf_ (r:=line) (r':=[M+(k:Int)]) (s8 _ _ (s7 _ _ ha)) qc_ (small (by show line.length+1<=_;omega)) λt5 H6 s9 ht5=>?_
    have eY6:=s9 _ _ (s8 _ _ eY)
    have s56:=s8.trans s9
    refine⟨l2,ys,.ref t5,rfl,rfl,eY6,BN l9 (by decide),⟨_,rfl⟩,λc o z=>?_,?_⟩
    ·rw[qk_ (qn_ z hl2)]
     exact s56 _ _ (s7 _ _ z)
    ·rw[qI_ (ak5_ hk),Aj,<-AY]
     refine aiw_ (H:=H5) (p:=t5) (λc xs z=>?_) iY ?_ qc_
     ·have z6:=s56 _ _ z
      rw[qk_ (zH_ z6 eY6 (by intro z;cases z))]
      exact z6
     ·rw[qk_ (zH_ ht5 eY6 (by intro z;cases z))]
      exact ht5
   ·rintro σ H5 ⟨⟨c6,rfl⟩,s7,hY5⟩
    refine⟨⟨_,_,rfl⟩,s7,?_⟩
    have lr:(jz_ M n).length=((n:Int)-M).toNat:=by unfold jz_;rw[AA,A0]
    rw[AU (l:=jz_ M n) (by rw[lr];exact AF _)]at hY5
    have e1:jw_ n x line=(jz_ M n).map λk=>line++[k]:=by rw[hM];rfl
    rw[tk,e1]
    exact hY5
  ·rintro σ H2 ⟨⟨c5,c6,rfl⟩,s3,hY⟩
   rw[AU (by omega)]at hY
   refine⟨_,rfl,⟨l2,_,_,_,_,rfl,?_,sH.free hl2⟩,sH.trans s3⟩
   rw[st]
   exact hY
 ·rintro σ H1 ⟨⟨l,c3,c4,c5,c6,rfl,hL,fl⟩,sH⟩
  rw[AA,Bj]at hL
  exact⟨_,rfl,q l _ fl sH hL⟩
abbrev nLn:List Str:=["lines", "inner", "outer", "place", "length", "above"]
abbrev bLn:List Str:=["number"]
theorem ndLn:bLn.Nodup:=by decide +kernel
theorem scLn:FnScope nLn ["lines", "inner", "outer"] (qh_ sLn):=⟨rfl,rfl,rfl,by decide +kernel,rfl,by decide +kernel,by decide +kernel⟩
def spLn:Sp:=λvs H Q _=>∃(a b c:Addr)(ls:List (List Int))(r:List Int),vs=[.ref a,.ref b,.ref c]/\Dat.is H (.ref a) ls/\H b=some (.tup ((List.replicate r.length (0:Int)).map V.int))/\H c=some (.tup (r.map V.int))/\ls.length<r.length/\r.length<=8/\(∀x∈r,0<=x/\x<=8)/\(∀l∈ls,LOk l) /\
 ∀(p:Addr)(H':Hp),Same H H'->H' p=some (.tup ((lfn r ls).map V.int))->Q (.ref p) H'
theorem vQ_{m k:Nat}(h:k<m):atI ((List.replicate m (0:Int)).map V.int) (k:Int)=some (.int 0):=by
 refine z7_ ?_
 rw[AV,C1,if_pos h]
 rfl
theorem alt_{r:List Int}{k:Nat}(h:k<r.length):atI (r.map V.int) (k:Int)=some (.int (r.getD k 0)):=by
 refine z7_ ?_
 rw[AV,AJ h,AO,AJ h]
 rfl
theorem yW_:∀k:Nat,(List.replicate k [(0:Int)]).flatten=List.replicate k 0
 |0=>rfl
 |k+1=>by rw[Ap,BV,yW_ k,Ap];rfl
theorem ah6_{α:Type}[D:Dat α]{H:Hp}{us:List V}{as:List α}{l:α}(h:Its H us (as++[l])):∃v,atI us (-1)=some v/\D.is H v l:=by
 have lu:=AQ h
 rw[AE,Aq]at lu
 obtain⟨v,e,hv⟩:=Paired.getR h (i:=as.length) (b:=l) (by simp)
 refine⟨v,?_,hv⟩
 unfold atI
 rw[abz_ (by omega)]
 show us[us.length-1]?=some v
 rw[show us.length-1=as.length by omega]
 exact e
theorem arb_(F:Fun K "least_for_next" "least_for_next" sLn f fd)(ml:mg "len" = none)(mt:mg "tuple" = none):FnOk P w K mg base CX0 2 f fd ["lines", "inner", "outer"] spLn:=by
 refine F.ok scLn (λvs H Q E h=>?_) (λcdv A outer s H vs Q E hr h=>?_)
 ·obtain⟨a,b,c,ls,r,rfl,_⟩:=h
  rfl
 obtain⟨a,b,c,ls,r,rfl,⟨a',us,ea,ha,iA⟩,hb,hc,lt,r8,h8,hL,q⟩:=h
 cases ea
 refine⟨_,qe_ (qo_ (i:=3) scLn.nd rfl (Or.inl rfl) (qD_ q4_ rfl ml B6 (qa_ (pv 0) qb_)))
  (qe_ (qo_ (i:=4) scLn.nd rfl (Or.inl rfl) (ql_ zD_ (qY_ xh_ (pv 2) (pv 3) (λ_ _=>rfl)) (qY_ xh_ (pv 1) (pv 3) (λ_ _=>rfl))))
  (qe_ (q0_ (qy_ vv_ (pv 3) qg_ (qv_ _)) (qf_ (qm_ (ql_ z5_ (qs_ (qa_ qg_ qb_)) (pv 4)))) qG_)
  (qe_ (qo_ (i:=5) scLn.nd rfl (Or.inl rfl) (ql_ zl_ (ql_ z5_ (qs_ (qa_ qg_ qb_)) (ql_ zD_ (qY_ xh_ (pv 1) (ql_ zD_ (pv 3) qg_) (λ_ _=>rfl)) (qY_ xh_ (pv 1) (pv 3) (λ_ _=>rfl))))
   (qO_ qP_ rfl mt BL (qa_ (qN_ (N':=bLn) (src:=[none]) rfl (jB_ (qY_ xh_ (pv 0) (xm_ jU_ qg_) (λ_ _=>rfl))) (zb_ (qh_ sLn) nLn (by decide +kernel))
    (λb=>qj_ (i:=0) ndLn rfl (Or.inl rfl)) (λb=>qX_) (λb=>ql_ qS_ (pv 0) qg_)) qb_))))
  (qf_ (qm_ (q3_ vg_ (pv 5) zu_ (q5_ (pv 4)))))))),?_⟩
 have lu:=AQ iA
 refine⟨_,rfl,a,us,rfl,.inr (SqT.of ha),?_⟩
 rw[lu]
 obtain⟨k,hk,k8⟩:∃k:Nat,r.getD ls.length 0=k/\k<=8:=by
  have g:r.getD ls.length 0=r[ls.length]:=by rw[AO,AJ lt];rfl
  have:=h8 r[ls.length] (CS _)
  exact⟨(r.getD ls.length 0).toNat,by omega,by omega⟩
 refine⟨_,rfl,_,rfl,c,_,_,.int (r.getD ls.length 0),rfl,rfl,SqT.of hc,alt_ lt,_,rfl,_,rfl,b,_,_,.int 0,rfl,rfl,SqT.of hb,vQ_ lt,_,_,rfl,rfl,?_⟩
 show jy_ 4 (V.int (r.getD ls.length 0-0)) _ _ _
 rw[Int.sub_zero,hk]
 refine⟨_,rfl,rfl,_,rfl,?_⟩
 by_cases e0:ls=[]
 ·subst e0
  refine xX_ rfl ?_
  refine⟨(by show 1<=sizeLine;decide),λt0 h0=>⟨_,rfl,t0,[0],k,rfl,rfl,qc_,by simp,by omega,by omega,small (by show 1*(k:Int).toNat<=_;omega),λt1 H1 s1 h1=>?_⟩⟩
  refine q t1 _ ((qd_ h0 _).trans s1) ?_
  rw[h1]
  unfold lfn
  have hk':r.getD 0 0=(k:Int):=hk
  show _=some (HO.tup ((List.replicate (r.getD 0 0).toNat (0:Int)).map V.int))
  rw[hk',Ax]
  rw[yW_]
 ·refine jV_ (λz=>e0 ?_) ?_
  ·injection z with z
   exact BJ.mp (by omega)
  obtain⟨as,l,e⟩:∃as l,ls=as++[l]:=⟨_,_,(BB e0).symm⟩
  have ll:ls.length=as.length+1:=by rw[e];simp
  obtain⟨hl8,hl0⟩:=hL l (by rw[e];simp)
  have iA':=iA
  rw[e]at iA'
  obtain⟨v,atv,hv⟩:=ah6_ iA'
  obtain⟨pl,rfl,hpl⟩:=q8_ hv
  have z1:atI ((List.replicate r.length (0:Int)).map V.int) ((ls.length:Int)-1)=some (.int 0):=by
   rw[show(ls.length:Int)-1=((as.length:Nat):Int) by omega]
   exact vQ_ (by omega)
  refine⟨(by show 1<=sizeLine;decide),λt0 h0=>?_⟩
  have s0:=qd_ h0 (.tup [.int 0])
  refine⟨_,rfl,_,rfl,_,_,rfl,rfl,b,_,_,.int 0,rfl,rfl,SqT.of (s0 _ _ hb),z1,_,rfl,_,rfl,b,_,_,.int 0,rfl,rfl,SqT.of (s0 _ _ hb),vQ_ lt,_,_,rfl,rfl,?_⟩
  refine⟨t0,[0],0,rfl,rfl,qc_,by simp,by decide,by decide,small (by decide),λt1 H1 s1 h1=>?_⟩
  have s01:=s0.trans s1
  refine⟨_,rfl,_,rfl,a,us,-1,.ref pl,rfl,rfl,SqT.of (s01 _ _ ha),atv,pl,rfl,⟨_,SqT.of (s01 _ _ hpl)⟩,λbk D hD=>?_⟩
  refine xc_ (α:=Int) hD (SqT.of (s01 _ _ hpl)) (λσ=>∃c,σ=[c]) (λi=>(l[i]?).bind λx=>some (x+1)) (small (by rw[AA];omega)) ?_ ?_ ?_
  ·exact⟨_,rfl⟩
  ·rintro i v σ H2 Yes No hv ⟨c,rfl⟩ s3 yes no
   obtain⟨x,hx,rfl⟩:∃x,l[i]?=some x/\V.int x=v:=by
    rw[AV]at hv
    cases e:l[i]? with
    |none=>rw[e]at hv;cases hv
    |some y=>rw[e]at hv;exact⟨y,rfl,AZ hv⟩
   refine zV_ ?_
   exact⟨_,rfl,_,_,rfl,rfl,yes _ _ _ (x+1) ⟨_,rfl⟩ (Same.refl _) (by rw[hx];rfl) rfl⟩
  rintro H2 s2 ⟨ws,eD,iD⟩
  have ez:(List.range (l.map V.int).length).filterMap (λi=>(l[i]?).bind λx=>some (x+1))=l.map (· + 1):=by
   rw[AA,qT_,Aw]
  rw[zK_ iD,ez]at eD
  refine⟨D,_,rfl,.inl ⟨SqL.of eD,λt4 h4=>?_⟩⟩
  have s4:=qd_ h4 (.tup ((l.map (· + 1)).map V.int))
  have h1':H1 t1=some (.tup (([]:List Int).map V.int)):=h1
  refine zf_ (r:=[]) (r':=l.map (· + 1)) (s4 _ _ (s2 _ _ h1')) qc_ (small (by rw[AA];show 0+_<=_;omega)) λt5 H5 s5 ht5=>?_
  refine⟨_,rfl,_,rfl,(k:Int),rfl,t5,l.map (· + 1),k,rfl,rfl,rfl,ht5,λt6 H6 s6 ht6=>?_⟩
  refine q t6 _ (s01.trans (s2.trans (s4.trans (s5.trans s6)))) ?_
  rw[ht6]
  have ef:lfn r ls=(l.map (· + 1)).take (r.getD ls.length 0).toNat:=by
   unfold lfn
   rw[e,Eb,Du]
   rfl
  rw[ef,hk,Ax]
abbrev nWn:List Str:=["many", "found", "inner", "outer", "longer", "lines", "line"]
theorem scWn:FnScope nWn ["many", "found", "inner", "outer"] (qh_ sWn):=⟨rfl,rfl,rfl,by decide +kernel,rfl,by decide +kernel,by decide +kernel⟩
def spWn:Sp:=λvs H Q _=>∃(a b c:Addr)(n j:Nat)(fs:List (List (List Int)))(r:List Int),vs=[.int n,.ref a,.ref b,.ref c]/\LstAt H a fs/\H b=some (.tup ((List.replicate r.length (0:Int)).map V.int))/\H c=some (.tup (r.map V.int))/\n<=4/\j<r.length/\r.length<=8/\(∀x∈r,0<=x/\x<=8)/\FOk r j fs/\(wnl n r fs).length<=1000 /\
 ∀(l:Addr)(H':Hp),H l=none->Same H H'->LstAt H' l (wnl n r fs)->Q (.ref l) H'
theorem ahx_{K:PySem.W.Frag}{H:Hp}{a b:Addr}{us:List V}{ls:List (List Int)}{l:List Int}{q:Addr}{Q:VK}(ha:H a=some (.tup us))(ia:Its H us ls)(hq:H q=some (.tup (l.map V.int)))(hb:H b=some (.tup [.ref q]))(hz:ls.length<=100)
  (g:∀p H',Same H H'->Dat.is H' (.ref p) (ls++[l])->Q (.ref p) H'):aem_ K (.ref a) (.ref b) H Q:=by
 have lu:=AQ ia
 refine⟨a,b,us,[.ref q],rfl,rfl,SqT.of ha,SqT.of hb,small (by show us.length+1<=_;omega),λe=>?_,(λ_ e=>by cases e),λ_ _ p hp=>?_⟩
 ·subst e
  cases ia
  exact g b H (Same.refl _) ⟨b,[.ref q],rfl,hb,.cons (zd_ hq) .nil⟩
 ·refine g p _ (qd_ hp _) ⟨p,us++[.ref q],rfl,qc_,?_⟩
  exact Paired.app (Its.mono (yT_ hp _) ia) (.cons (zd_ (qd_ hp _ _ _ hq)) .nil)
theorem aq7_(F:Fun K "with_next_line" "with_next_line" sWn f fd)(GL:Has P w K mg base 2 "lines_from" ["least_numbers", "many"] spLf)(GN:Has P w K mg base 2 "least_for_next" ["lines", "inner", "outer"] spLn):FnOk P w K mg base CX0 3 f fd ["many", "found", "inner", "outer"] spWn:=by
 refine F.ok scWn (λvs H Q E h=>?_) (λcdv A outer s H vs Q E hr h=>?_)
 ·obtain⟨a,b,c,n,j,fs,r,rfl,_⟩:=h
  rfl
 obtain⟨a,b,c,n,j,fs,r,rfl,⟨us,eL,iL⟩,hb,hc,n4,jr,r8,h8,hF,hw,q⟩:=h
 refine⟨_,qe_ (qo_ (i:=4) scWn.nd rfl (Or.inl rfl) (qJ_ qb_))
  (qe_ (qE_ Al rfl (qz_ (pv 1)) (qj_ (i:=5) scWn.nd rfl (Or.inl rfl))
   (qf_ (qE_ Al rfl (qz_ (qi_ GL hr rfl (qa_ (qi_ GN hr rfl (qa_ (pv 5) (qa_ (pv 2) (qa_ (pv 3) qb_)))) (qa_ (pv 0) qb_)))) (qj_ (i:=6) scWn.nd rfl (Or.inl rfl))
    (qf_ (qK_ (jM_ BK BF BG q7_ (pv 4) (qa_ (ql_ zl_ (pv 5) (qs_ (qa_ (pv 6) qb_))) qb_)))))))
  (qf_ (qm_ (pv 4)))),?_⟩
 have lu:=AQ iL
 refine⟨(by show 0<=sizeLine;decide),λl2 hl2=>?_⟩
 have s0:=qd_ hl2 (.lst [])
 refine⟨_,rfl,a,rfl,⟨_,SqL.of (s0 _ _ eL)⟩,?_⟩
 refine qL_ (xs:=us) (λi σ H'=>(∃c5 c6,σ=[some (.int n),some (.ref a),some (.ref b),some (.ref c),some (.ref l2),c5,c6])/\Same H H'/\LstAt H' l2 ((fs.take i).flatMap (jW_ n r))) ?_ ?_ ?_ ?_
 ·exact⟨⟨_,_,rfl⟩,s0,⟨[],qc_,.nil⟩⟩
 ·rintro i σ H1 _ ⟨_,s1,_⟩
  exact SqL.of (s1 _ _ eL)
 ·rintro i v σ H1 hv ⟨⟨c5,c6,rfl⟩,s1,hY⟩
  obtain⟨ls,hls,hi⟩:=qV_ iL hv
  obtain⟨p,ws,rfl,hp,ip⟩:=hi
  have hm:=Ag hls
  obtain⟨fl,fo⟩:=hF ls hm
  obtain⟨n1,n2⟩:=agg_ h8 fo
  have ll:(lf n (lfn r ls)).length<=4^8:=Ac (abw_ n4 rfl λy hy=>(n2 y hy).1) (Cj (by decide) n1)
  have tk:(fs.take (i+1)).flatMap (jW_ n r)=(fs.take i).flatMap (jW_ n r)++jW_ n r ls:=by rw[qI_ hls,Be,Bp]
  have tl:((fs.take (i+1)).flatMap (jW_ n r)).length<=1000:=Ac (aar_ _ _ _) hw
  refine⟨_,rfl,_,rfl,_,rfl,p,b,c,ls,r,rfl,⟨p,ws,rfl,s1 _ _ hp,Its.mono (Tups.same s1) ip⟩,s1 _ _ hb,s1 _ _ hc,by omega,r8,h8,fo,λt1 H2 s2 ht1=>?_⟩
  refine⟨_,rfl,t1,n,lfn r ls,rfl,ht1,n4,n1,n2,λl3 H3 fl3 s3 hL3=>?_⟩
  obtain⟨zs,eZ,iZ⟩:=hL3
  have lz:=AQ iZ
  have ew:jW_ n r ls=(lf n (lfn r ls)).map λl=>ls++[l]:=rfl
  have nnl:=aey_ (n:=n) λy hy=>(n2 y hy).1
  generalize lf n (lfn r ls)=ms at iZ ll lz ew nnl
  have s13:Same H1 H3:=s2.trans s3
  refine⟨l3,rfl,⟨_,SqL.of eZ⟩,?_⟩
  have hY3:=hY.mono s13
  have nl:l3≠l2:=by
   obtain⟨y1,e1,_⟩:=id hY
   exact(qn_ (s2 _ _ e1) fl3).symm
  refine qL_ (xs:=zs) (λk σ H'=>(∃c6,σ=[some (.int n),some (.ref a),some (.ref b),some (.ref c),some (.ref l2),some (.ref p),c6])/\Same H H'/\H' l3=some (.lst zs)/\Tups H3 H'/\LstAt H' l2 ((fs.take i).flatMap (jW_ n r)++(ms.take k).map λl=>ls++[l])) ?_ ?_ ?_ ?_
  ·refine⟨⟨_,rfl⟩,s1.trans s13,eZ,Tups.refl _,?_⟩
   rw[CP,CF,BP]
   exact hY3
  ·rintro k σ H4 _ ⟨_,_,h3,_⟩
   exact SqL.of h3
  ·rintro k v σ H4 hv ⟨⟨c6,rfl⟩,s4,h3,tp,⟨ys,eY,iY⟩⟩
   obtain⟨l,hl,hi⟩:=qV_ iZ hv
   obtain⟨pq,rfl,hpq⟩:=q8_ hi
   have ly:=AQ iY
   have l9:ys.length<=1000:=by
    rw[ly]
    refine Ac ?_ tl
    rw[tk,ew,AE,AE,AA,AA,AW]
    omega
   refine⟨_,rfl,.inl ⟨rfl,_,SqL.of eY⟩,_,rfl,_,rfl,(by show 1<=sizeLine;decide),λt4 h4=>?_⟩
   have s5:=qd_ h4 (.tup [.ref pq])
   refine ahx_ (us:=ws) (ls:=ls) (l:=l) (q:=pq) (s5 _ _ (s4 _ _ hp)) (Its.mono (Tups.same (s4.trans s5)) ip) (s5 _ _ (tp _ _ hpq)) qc_ (by omega) λt5 H6 s6 ht5=>?_
   have s46:=s5.trans s6
   have eY6:=s46 _ _ eY
   refine⟨l2,ys,.ref t5,rfl,rfl,eY6,zE_ (by omega),⟨_,rfl⟩,λc o z=>?_,?_,λc xs z=>?_,?_⟩
   ·rw[qk_ (qn_ z hl2)]
    exact s46 _ _ (s4 _ _ z)
   ·rw[qk_ nl]
    exact s46 _ _ h3
   ·have z6:=s46 _ _ (tp _ _ z)
    rw[qk_ (zH_ z6 eY6 (by intro z;cases z))]
    exact z6
   ·rw[qI_ hl,Aj,<-AY]
    refine⟨ys++[.ref t5],qc_,Paired.app (Its.mono (λc xs z=>?_) iY) (.cons (Dat.mono (λc xs z=>?_) ht5) .nil)⟩
    ·have z6:=s46 _ _ z
     rw[qk_ (zH_ z6 eY6 (by intro z;cases z))]
     exact z6
    ·rw[qk_ (zH_ z eY6 (by intro z;cases z))]
     exact z
  ·rintro σ H4 ⟨⟨c6,rfl⟩,s4,h3,tp,hY4⟩
   refine⟨⟨_,_,rfl⟩,s4,?_⟩
   rw[AU (l:=ms) (by omega)]at hY4
   rw[tk,ew]
   exact hY4
 ·rintro σ H1 ⟨⟨c5,c6,rfl⟩,s1,hY⟩
  rw[AU (by omega)]at hY
  exact⟨_,rfl,q l2 _ hl2 s1 hY⟩
abbrev nFil:List Str:=["many", "row", "inner", "found", "again"]
theorem scFil:FnScope nFil ["many", "row"] (qh_ sFil):=⟨rfl,rfl,rfl,by decide +kernel,rfl,by decide +kernel,by decide +kernel⟩
structure NR(n:Nat)(r:List Int):Prop where
 n1:1<=n
 n4:n<=4
 row:zq_ r=true
 len:r.length<=n+1
 few:∀j,j<=r.length->(jx_ n r j).length<=1000
def akn_:Sp:=λvs H Q _=>∃(p:Addr)(n:Nat)(r:List Int),vs=[.int n,.ref p]/\H p=some (.tup (r.map V.int))/\NR n r/\∀(l:Addr)(H':Hp),H l=none->Same H H'->LstAt H' l (fil n r)->Q (.ref l) H'
theorem any_(F:Fun K "fillings" "fillings" sFil f fd)(GB:Has P w K mg base 3 "refuse_bad_row" nRb yv_)(GC:Has P w K mg base 3 "refuse_bad_count" ["many"] yI_)(GW:Has P w K mg base 3 "with_next_line" ["many", "found", "inner", "outer"] spWn)(ml:mg "len" = none):FnOk P w K mg base CX0 4 f fd ["many", "row"] akn_:=by
 refine F.ok scFil (λvs H Q E h=>?_) (λcdv A outer s H vs Q E hr h=>?_)
 ·obtain⟨p,n,r,rfl,_⟩:=h
  rfl
 obtain⟨p,n,r,rfl,hp,nr,q⟩:=h
 obtain⟨n1,n4,hB,hl,few⟩:=nr
 refine⟨_,qe_ (qK_ (qi_ GB hr rfl (qa_ (pv 1) qb_)))
  (qe_ (qK_ (qi_ GC hr rfl (qa_ (pv 0) qb_)))
  (qe_ (qo_ (i:=2) scFil.nd rfl (Or.inl rfl) (ql_ z5_ (qs_ (qa_ qg_ qb_)) (qD_ q4_ rfl ml B6 (qa_ (pv 1) qb_))))
  (qe_ (qo_ (i:=3) scFil.nd rfl (Or.inl rfl) (qJ_ (qa_ (qs_ qb_) qb_)))
  (qe_ (qE_ Al rfl (jB_ (pv 1)) (qj_ (i:=4) scFil.nd rfl (Or.inl rfl))
   (qf_ (qo_ (i:=3) scFil.nd rfl (Or.inl rfl) (qi_ GW hr rfl (qa_ (pv 0) (qa_ (pv 3) (qa_ (pv 2) (qa_ (pv 1) qb_))))))))
  (qf_ (qm_ (pv 3))))))),?_⟩
 obtain⟨r1,r2,r3⟩:=ys_ hB
 have h8:∀x∈r,0<=x/\x<=8:=λx hx=>by have:=r1 x hx;omega
 refine⟨_,rfl,p,r,rfl,hp,by omega,hB,λH1 s1=>?_⟩
 refine⟨_,rfl,n,rfl,by omega,by omega,?_⟩
 refine⟨(by show 1<=sizeLine;decide),λt0 h0=>?_⟩
 have s2:=qd_ h0 (.tup [.int 0])
 refine⟨_,rfl,p,_,rfl,.inr (SqT.of (s2 _ _ (s1 _ _ hp))),?_⟩
 rw[AA]
 refine⟨t0,[0],(r.length:Int),rfl,rfl,qc_,by simp,by omega,by omega,small (by show 1*_<=_;omega),λt1 H2 s3 h1=>?_⟩
 rw[Ax,yW_]at h1
 refine⟨(by show 0<=sizeLine;decide),λt2 h2=>⟨(by show 1<=sizeLine;decide),λl0 hl0=>?_⟩⟩
 have s4:=qd_ h2 (.tup [])
 have s5:=qd_ hl0 (.lst [.ref t2])
 have sA:=s1.trans (s2.trans (s3.trans (s4.trans s5)))
 refine⟨_,rfl,p,rfl,⟨_,SqT.of (sA _ _ hp)⟩,?_⟩
 refine ad6_ (xs:=r.map V.int) (λi σ H'=>(∃(l:Addr)(c4:Option V),σ=[some (.int n),some (.ref p),some (.ref t1),some (.ref l),c4]/\LstAt H' l (jx_ n r i)/\H l=none)/\Same H H'/\H' t1=some (.tup ((List.replicate r.length (0:Int)).map V.int))) ?_ ?_ ?_ ?_
 ·exact⟨⟨l0,_,rfl,⟨[.ref t2],qc_,.cons ⟨t2,[],rfl,s5 _ _ qc_,.nil⟩ .nil⟩,s1.free (s2.free (s3.free (s4.free hl0)))⟩,sA,s5 _ _ (s4 _ _ h1)⟩
 ·rintro i σ H3 _ ⟨_,sH,_⟩
  exact SqT.of (sH _ _ hp)
 ·rintro i v σ H3 hv ⟨⟨l,c4,rfl,hL,fl⟩,sH,ht1⟩
  have il:i<r.length:=by
   have:=(AX.mp hv).1
   rwa [AA]at this
  refine⟨_,rfl,_,rfl,_,rfl,_,rfl,l,t1,p,n,i,jx_ n r i,r,rfl,hL,ht1,sH _ _ hp,n4,il,by omega,h8,yB_ n4 h8 i,few (i+1) il,λl' H4 fl' s6 hL'=>?_⟩
  exact⟨⟨l',_,rfl,hL',sH.free fl'⟩,sH.trans s6,s6 _ _ ht1⟩
 ·rintro σ H3 ⟨⟨l,c4,rfl,hL,fl⟩,sH,ht1⟩
  rw[AA]at hL
  exact⟨_,rfl,q l _ fl sH hL⟩
abbrev nPo:List Str:=["many", "filling"]
abbrev bPo:List Str:=["number", "filling"]
abbrev bPi:List Str:=["line", "number"]
theorem ndPo:bPo.Nodup:=by decide +kernel
theorem ndPi:bPi.Nodup:=by decide +kernel
theorem scPo:FnScope nPo nPo (qh_ sPo):=⟨rfl,rfl,rfl,by decide +kernel,rfl,by decide +kernel,by decide +kernel⟩
def amy_:Stmt->Scope
 |.FunctionDef _ _ (.Return (some (.Call _ (.ListComp _ _ sc _::_) _ _)) _::_) _ _ _ _ _ _ _=>sc
 |_=>{ kind:=.function,names:=[],isGenerator:=false,isCoroutine:=false }
def spPo:Sp:=λvs H Q _=>∃(a:Addr)(n:Nat)(fl:List (List Int)),vs=[.int n,.ref a]/\Dat.is H (.ref a) fl/\n<=4/\fl.length<=100/\∀(p:Addr)(H':Hp),Same H H'->H' p=some (.tup ((pwf n fl).map V.int))->Q (.ref p) H'
theorem ao8_(F:Fun K "powers_of" "powers_of" sPo f fd)(mt:mg "tuple" = none)(ms:mg "sum" = none)(mr:mg "range" = none):FnOk P w K mg base CX0 2 f fd nPo spPo:=by
 refine F.ok scPo (λvs H Q E h=>?_) (λcdv A outer s H vs Q E hr h=>?_)
 ·obtain⟨a,n,fl,rfl,_⟩:=h
  rfl
 obtain⟨a,n,fl,rfl,hA,n4,l9,q⟩:=h
 obtain⟨a',us,ea,ha,iA⟩:=hA
 cases ea
 refine⟨_,qf_ (qm_ (qO_ qP_ rfl mt BL (qa_ (ai0_ (N':=bPo) (z := "number") (src:=[none,some 1]) rfl (zw_ rfl mr (qa_ (pv 0) qb_)) (anj_ (qh_ sPo) nPo (by decide +kernel) (λ_ _=>rfl) (λ_=>rfl))
   (λb=>qj_ (i:=0) ndPo rfl (Or.inr rfl)) (λb=>qX_)
   (λb=>qD_ (v0_ rfl) rfl ms BU (qa_ (qN_ (N':=bPi) (src:=[none,some 0]) rfl (jB_ (pv 1)) (zb_ (relabel (amy_ sPo) { (default:Env) with scope:=qh_ sPo }) bPo (by decide +kernel))
    (λb2=>qj_ (i:=0) ndPi rfl (Or.inl rfl)) (λb2=>qX_) (λb2=>al3_ (pv 0) (qa_ (pv 1) qb_))) qb_))) qb_))),?_⟩
 have en:(n:Int).toNat=n:=by omega
 have lu:=AQ iA
 refine⟨_,rfl,(n:Int),rfl,by omega,by omega,λbk D hD=>?_⟩
 refine vl_ (α:=Int) hD (λσ=>∃c,σ=[c,some (.ref a)]) (λ(i:Nat)=>some ((fl.map λl=>((l.count (i:Int):Nat):Int)).sum)) (small (by omega)) ?_ ?_ ?_
 ·exact⟨_,rfl⟩
 ·rintro i σ H2 Yes No hi ⟨c,rfl⟩ s2 yes no
  refine zV_ ?_
  have e0:(0:Int)+(i:Int)=(i:Int):=by omega
  rw[e0]
  refine⟨_,rfl,a,rfl,⟨_,SqT.of (s2 _ _ ha)⟩,λbk2 D2 hD2=>?_⟩
  refine xc_ (α:=Int) hD2 (SqT.of (s2 _ _ ha)) (λσ=>∃c,σ=[c,some (.int (i:Int))]) (λj=>(fl[j]?).bind λl=>some ((l.count (i:Int):Nat):Int)) (small (by omega)) ?_ ?_ ?_
  ·exact⟨_,rfl⟩
  ·rintro j v σ H3 Yes2 No2 hv ⟨c2,rfl⟩ s3 yes2 no2
   obtain⟨l,hl,hi2⟩:=qV_ iA hv
   obtain⟨p,rfl,hp⟩:=q8_ hi2
   have hp3:=s3 _ _ (s2 _ _ hp)
   refine zV_ ?_
   exact⟨_,rfl,p,l,rfl,hp3,_,rfl,(i:Int),rfl,hp3,yes2 _ _ _ _ ⟨_,rfl⟩ (Same.refl _) (by rw[hl];rfl) rfl⟩
  ·rintro H3 s3 ⟨ws,eD,iD⟩
   have ez:(List.range us.length).filterMap (λj=>(fl[j]?).bind λl=>some ((l.count (i:Int):Nat):Int))=fl.map λl=>((l.count (i:Int):Nat):Int):=by
    rw[lu,qT_,Aw]
   rw[zK_ iD,ez]at eD
   exact⟨D2,_,rfl,SqL.of eD,yes _ _ _ _ ⟨_,rfl⟩ s3 rfl rfl⟩
 ·rintro H2 s2 ⟨ws,eD,iD⟩
  have ez:((List.range (n:Int).toNat).filterMap λ(i:Nat)=>some ((fl.map λl=>((l.count (i:Int):Nat):Int)).sum))=pwf n fl:=by
   rw[en,Aw]
   rfl
  rw[zK_ iD,ez]at eD
  refine⟨D,_,rfl,.inl ⟨SqL.of eD,λt h=>?_⟩⟩
  exact q t _ (s2.trans (qd_ h _)) qc_
abbrev nFs:List Str:=["many", "row"]
abbrev bFs:List Str:=["filling", "many"]
theorem ndFs:bFs.Nodup:=by decide +kernel
theorem scFs:FnScope nFs nFs (qh_ sFs):=⟨rfl,rfl,rfl,by decide +kernel,rfl,by decide +kernel,by decide +kernel⟩
def spFs:Sp:=λvs H Q _=>∃(p:Addr)(n:Nat)(r:List Int),vs=[.int n,.ref p]/\H p=some (.tup (r.map V.int))/\NR n r/\∀(l:Addr)(H':Hp),H l=none->Same H H'->LstAt H' l (norm (qQ_ n r))->Q (.ref l) H'
theorem alg_{n:Nat}{r:List Int}(nr:NR n r):∀f∈fil n r,f.length<=8:=λf hf=>by
 have h8:∀x∈r,0<=x/\x<=8:=λx hx=>by have:=(ys_ nr.row).1 x hx;omega
 have:=(yB_ nr.n4 h8 r.length f hf).1
 have:=nr.len
 have:=nr.n4
 omega
theorem ap3_(F:Fun K "filled_sum" "filled_sum" sFs f fd)(GG:Has P w K mg base 4 "gathered" ["terms"] xF_)(GP:Has P w K mg base 4 "powers_of" nPo spPo)(GF:Has P w K mg base 4 "fillings" ["many", "row"] akn_):FnOk P w K mg base CX0 5 f fd nFs spFs:=by
 refine F.ok scFs (λvs H Q E h=>?_) (λcdv A outer s H vs Q E hr h=>?_)
 ·obtain⟨p,n,r,rfl,_⟩:=h
  rfl
 obtain⟨p,n,r,rfl,hp,nr,q⟩:=h
 refine⟨_,qf_ (qm_ (qi_ GG hr rfl (qa_ (qN_ (N':=bFs) (src:=[none,some 0]) rfl (qz_ (qi_ GF hr rfl (qa_ (pv 0) (qa_ (pv 1) qb_)))) (zb_ (qh_ sFs) nFs (by decide +kernel))
   (λb=>qj_ (i:=0) ndFs rfl (Or.inl rfl)) (λb=>qX_) (λb=>qs_ (qa_ (qi_ GP hr rfl (qa_ (pv 1) (qa_ (pv 0) qb_))) (qa_ qg_ qb_)))) qb_))),?_⟩
 have fo:=alg_ nr
 have few:=nr.few r.length (AF _)
 have n1:=nr.n1
 refine⟨_,rfl,_,rfl,p,n,r,rfl,hp,nr,λl H1 hl s1 hL=>?_⟩
 obtain⟨us,eL,iL⟩:=id hL
 have lu:=AQ iL
 have few':(fil n r).length<=1000:=few
 refine⟨l,rfl,⟨_,SqL.of eL⟩,λbk D hD=>?_⟩
 refine zG_ (α:=Mon) hD (SqL.of eL) (λσ=>∃c,σ=[c,some (.int n)]) (λi=>((fil n r)[i]?).bind λf=>some (pwf n f,(1:Int))) (small (by omega)) ?_ ?_ ?_
 ·exact⟨_,rfl⟩
 ·rintro i v σ H2 Yes No hv ⟨c,rfl⟩ s2 yes no
  obtain⟨fl,hf,hi⟩:=qV_ iL hv
  have f8:=fo fl (Ag hf)
  obtain⟨pf,ws,rfl,hpf,ip⟩:=hi
  refine zV_ ?_
  refine⟨_,rfl,_,rfl,pf,n,fl,rfl,⟨pf,ws,rfl,s2 _ _ hpf,Its.mono (Tups.same s2) ip⟩,nr.n4,by omega,λt H3 s3 ht=>?_⟩
  refine⟨(by show 2<=sizeLine;decide),λt2 h2=>?_⟩
  exact yes _ _ _ (pwf n fl,1) ⟨_,rfl⟩ (s3.trans (qd_ h2 _)) (by rw[hf];rfl) (zo_ qc_ (qd_ h2 _ _ _ ht))
 ·rintro H2 s2 hD2
  have ez:(List.range us.length).filterMap (λi=>((fil n r)[i]?).bind λf=>some (pwf n f,(1:Int)))=qQ_ n r:=by
   rw[lu,qT_,Aw]
   rfl
  rw[ez]at hD2
  have lt:(qQ_ n r).length<=1000:=by unfold qQ_;rw[AA];exact few'
  refine⟨D,qQ_ n r,rfl,hD2,λt ht=>?_,by omega,λl2 H3 fl2 s3 hL3=>q l2 _ (s1.free (s2.free fl2)) (s1.trans (s2.trans s3)) hL3⟩
  unfold qQ_ at ht
  obtain⟨f,_,rfl⟩:=AR.mp ht
  intro z
  have:=akx_ n f
  have z':pwf n f=[]:=z
  rw[z']at this
  simp at this
  omega
theorem Rw6.all{n:Nat}{r:List Int}(n1:1<=n)(n4:n<=4)(h:Rw6 n r):Even n (exch n r)/\Deg n 8 1 (exch n r)/\(exch n r).length<=24/\zq_ r=true/\(∀k,k+1<n->norm (sws (q1_ n r) k)=norm (ngt (q1_ n r)))/\bfL n (norm (q1_ n r))=[(r,1)]:=by
 have:=AN.mp (aor_ n (zz_ n1 n4)) r h.mem
 unfold rowE at this
 rw[AH,AH,AH,AH,AH,decide_eq_true_eq,decide_eq_true_eq,AN]at this
 obtain⟨⟨⟨⟨⟨h1,h2⟩,h3⟩,h4⟩,h5⟩,h6⟩:=this
 exact⟨xs_ h1,z6_ h2,h3,h4,λk hk=>of_decide_eq_true (h5 k (Ar.mpr (by omega))),h6⟩
theorem Rw6.nat{n:Nat}{r:List Int}(h:Rw6 n r):(r.map Int.toNat).sum<=6/\(∀k∈r.map Int.toNat,1<=k/\k<=6)/\(r.map Int.toNat).length<=6:=by
 have s:=j3_ r λx hx=>by have:=h.r8.pos x hx;omega
 have s6:=h.s6
 refine⟨by omega,λk hk=>?_,by rw[AA];omega⟩
 obtain⟨x,hx,rfl⟩:=AR.mp hk
 have p:=h.r8.pos x hx
 have:=(jR_ (λy hy=>by have:=h.r8.pos y hy;omega) hx).1
 omega
def whR(n:Nat)(r:List Int):List Mon:=zP_ (whF n) n (r.map Int.toNat)
def elR(n:Nat)(r:List Int):List Mon:=zP_ (elF n) n (r.map Int.toNat)
theorem ags_{n:Nat}{ff:Nat->List Mon}{r:List Int}(n1:1<=n)(n4:n<=4)(hf:∀k,1<=k->k<=8->Fac n k (ff k))(h:Rw6 n r):Deg n 8 153 (zP_ ff n (r.map Int.toNat))/\(zP_ ff n (r.map Int.toNat)).length<=165:=by
 obtain⟨s,k,l⟩:=h.nat
 obtain⟨d,_,e⟩:=ab4_ n1 n4 hf (r.map Int.toNat) (by omega) λj hj=>(k j hj).1
 exact⟨d.mono (by omega) (by omega),e⟩
theorem vI_{n:Nat}{ff:Nat->List Mon}(n1:1<=n)(n4:n<=4)(hf:∀k,1<=k->k<=8->Fac n k (ff k))(he:∀k,1<=k->k<=6->Even n (ff k)):∀(ks:List Nat)(A:List Mon),(∀k∈ks,1<=k/\k<=6)->Even n A->(∀t∈A,t.1.length=n)->Even n (ks.foldl (y7_ ff) A)
 |[],_,_,h,_=>h
 |k::ks,A,hk,h,l=>by
  have k6:=hk k (AD ..)
  have fl:=(hf k k6.1 (by omega)).deg.len
  refine vI_ n1 n4 hf he ks _ (λj hj=>hk j (AC _ hj)) (aj8_ h (he k k6.1 k6.2) l fl).norm λt ht=>?_
  obtain⟨u,hu,e⟩:=qC_ ht
  rw[<-e]
  obtain⟨x,hx,hm⟩:=BE.mp hu
  obtain⟨y,hy,rfl⟩:=AR.mp hm
  exact yy_ (l x hx) (fl y hy)
theorem acd_:∀n∈([1,2,3,4]:List Nat),evB n [(List.replicate n 0,1)]=true:=by decide +kernel
theorem aag_{n k:Nat}(n1:1<=n)(n4:n<=4)(k1:1<=k)(k6:k<=6):Even n (elF n k)/\Even n (whF n k):=by
 have hk:k∈[1,2,3,4,5,6]:=by
  have:k=1∨k=2∨k=3∨k=4∨k=5∨k=6:=by omega
  rcases this with rfl|rfl|rfl|rfl|rfl|rfl<;>simp
 have:=akp_ n (zz_ n1 n4) k hk
 rw[AH]at this
 exact⟨xs_ this.1,xs_ this.2⟩
theorem ym_{n:Nat}{r:List Int}(n1:1<=n)(n4:n<=4)(h:Rw6 n r):Even n (whR n r)/\Deg n 8 153 (whR n r)/\(whR n r).length<=165:=by
 obtain⟨d,l⟩:=ags_ n1 n4 (λk a b=>(zM_ n k n1 n4 a b).2) h
 exact⟨vI_ n1 n4 (λk a b=>(zM_ n k n1 n4 a b).2) (λk a b=>(aag_ n1 n4 a b).2) _ _ h.nat.2.1 (xs_ (acd_ n (zz_ n1 n4))) λt ht=>by rw[AT.mp ht];exact As,d,l⟩
theorem akk_{n:Nat}{r:List Int}(n1:1<=n)(n4:n<=4)(h:Rw6 n r):Even n (elR n r)/\Deg n 8 153 (elR n r)/\(elR n r).length<=165:=by
 obtain⟨d,l⟩:=ags_ n1 n4 (λk a b=>(zM_ n k n1 n4 a b).1) h
 exact⟨vI_ n1 n4 (λk a b=>(zM_ n k n1 n4 a b).1) (λk a b=>(aag_ n1 n4 a b).1) _ _ h.nat.2.1 (xs_ (acd_ n (zz_ n1 n4))) λt ht=>by rw[AT.mp ht];exact As,d,l⟩
theorem ag2_{n:Nat}{L R:List Int}(n1:1<=n)(n4:n<=4)(hL:Rw6 n L)(hR:Rw6 n R)(e:L.sum=R.sum):phi n (whR n L) (exch n R)=if L=R then 1 else 0:=by
 obtain⟨_,dW,_⟩:=ym_ n1 n4 hL
 obtain⟨_,dE,_⟩:=hR.all n1 n4
 have dE:=dE.mono (d':=8) (b':=153) (by decide) (by decide)
 have cW:CodeOf (whR n L) (pwK (whF n) (L.map Int.toNat)):=yU_ (λk a b=>(zM_ n k n1 n4 a b).2) λk hk=>by have:=hL.nat.2.1 k hk;omega
 rw[ajh_ n1 n4 dW dE (xL_ n1 n4 cW dW.len dW.nn) (xL_ n1 n4 (ait_ _) dE.len dE.nn)]
 have k:=aig_ n1 n4
 unfold vV_ at k
 have k1:=AN.mp k (L,wk n L) (AR.mpr ⟨L,hL.mem,rfl⟩)
 have k2:=AN.mp k1 (R,ek n R) (AR.mpr ⟨R,hR.mem,rfl⟩)
 rw[DC,decide_eq_true_eq,decide_eq_true_eq]at k2
 rcases k2 with k2|k2
 ·exact absurd e k2
 ·exact k2
theorem p2{n:Nat}{L R:List Int}(n1:1<=n)(n4:n<=4)(hL:Rw6 n L)(hR:Rw6 n R)(e:L.sum=R.sum):jP_ n (whR n L) (exch n R)=if L=R then 1 else 0:=by
 obtain⟨_,dW,_⟩:=ym_ n1 n4 hL
 obtain⟨_,dE,_⟩:=hR.all n1 n4
 rw[jh_ n1 n4 dW (dE.mono (by decide) (by decide)),ag2_ n1 n4 hL hR e]
theorem p3{n:Nat}{L R:List Int}(n1:1<=n)(n4:n<=4)(hL:Rw6 n L)(hR:Rw6 n R)(e:L.sum=R.sum):jP_ n (exch n L) (whR n R)=if L=R then 1 else 0:=by
 obtain⟨_,dW,_⟩:=ym_ n1 n4 hR
 obtain⟨_,dE,_⟩:=hL.all n1 n4
 rw[jh_ n1 n4 (dE.mono (by decide) (by decide)) dW,ab6_,ag2_ n1 n4 hR hL e.symm]
 by_cases z:L=R
 ·rw[if_pos z,if_pos z.symm]
 ·rw[if_neg z,if_neg λy=>z y.symm]
theorem p1{n:Nat}{L R:List Int}(n1:1<=n)(n4:n<=4)(hL:Rw6 n L)(hR:Rw6 n R):jP_ n (norm (qQ_ n L)) (norm (qQ_ n R))=if L=R then 1 else 0:=by
 have one:∀r,Rw6 n r->bfF n (norm (qQ_ n r))=[(r,1)]:=λr h=>by
  obtain⟨_,_,_,hB,_,hb⟩:=h.all n1 n4
  obtain⟨r1,r2,r3⟩:=ys_ hB
  have:=((vT_ n1 n4 (by have:=h.r8.len;omega) r1 r2 r3).2.1 h.r8.len).1
  unfold bfF
  rw[(jE_ n (zz_ n1 n4)).1,this,hb]
 unfold jP_
 rw[one L hL,one R hR]
 show(1:Int)*((if R=L then 1 else 0)+0)+0=_
 by_cases z:L=R
 ·rw[if_pos z,if_pos z.symm];rfl
 ·rw[if_neg z,if_neg λy=>z y.symm];rfl
abbrev nPy:List Str:=["_law_cells", "_law_many", "_law_terms", "_law_cell_here", "_law_row_here"]
abbrev pPy:List Str:=["_law_cells", "_law_many"]
theorem scPy:FnScope nPy pPy (qh_ aep_):=⟨rfl,rfl,rfl,by decide +kernel,rfl,by decide +kernel,by decide +kernel⟩
def xk_(n:Nat)(c:Int):Mon:=(jG_ (zF_ c 21 4 n),zJ_ c 22 2000000000-1000000000)
def rowG(n:Nat)(r:List Int):Bool:=evB n (evG n (r,1))&&x7_ n 8 1 (evG n (r,1))
theorem afx_:∀n∈([1,2,3,4]:List Nat),(rws n 6 6).all (rowG n)=true:=by decide +kernel
theorem aku_(n:Nat)(t:Mon):evG n t=scl t.2 (evG n (t.1,1)):=by
 unfold evG scl
 rw[B4]
 refine B9 λp _=>?_
 show(p,t.2)=(p,t.2*1)
 rw[Int.mul_one]
theorem v1_{n:Nat}(n1:1<=n)(n4:n<=4):∀T:List Mon,(∀t∈T,Rw6 n t.1)->Even n (T.flatMap (evG n))
 |[],_=>λk _=>rfl
 |t::T,h=>by
  rw[BW]
  have k:=AN.mp (afx_ n (zz_ n1 n4)) t.1 (h t (AD ..)).mem
  unfold rowG at k
  rw[AH]at k
  refine yN_ ?_ (v1_ n1 n4 T λu hu=>h u (AC _ hu))
  rw[aku_]
  exact aj9_ _ (xs_ k.1)
theorem ajf_{n b:Nat}(n1:1<=n)(n4:n<=4){T:List Mon}(h:∀t∈T,Rw6 n t.1)(hb:∀t∈T,t.2.natAbs<2^b):Deg n 8 b (T.flatMap (evG n)):=by
 have key:∀u∈T.flatMap (evG n),∃t∈T,∃p∈xn_ n t.1,u=(p,t.2):=λu hu=>by
  obtain⟨t,ht,hm⟩:=BE.mp hu
  obtain⟨p,hp,rfl⟩:=AR.mp hm
  exact⟨t,ht,p,hp,rfl⟩
 have one:∀t∈T,Deg n 8 1 (evG n (t.1,1)):=λt ht=>by
  have k:=AN.mp (afx_ n (zz_ n1 n4)) t.1 (h t ht).mem
  unfold rowG at k
  rw[AH]at k
  exact z6_ k.2
 have at_:∀t∈T,∀p∈xn_ n t.1,(p,(1:Int))∈evG n (t.1,1):=λt _ p hp=>AR.mpr ⟨p,hp,rfl⟩
 refine⟨λu hu=>?_,λu hu=>?_,λu hu=>?_,λu hu=>?_⟩
 ·obtain⟨t,ht,p,hp,rfl⟩:=key u hu
  exact(one t ht).len (p,1) (at_ t ht p hp)
 ·obtain⟨t,ht,p,hp,rfl⟩:=key u hu
  exact(one t ht).nn (p,1) (at_ t ht p hp)
 ·obtain⟨t,ht,p,hp,rfl⟩:=key u hu
  exact(one t ht).sum (p,1) (at_ t ht p hp)
 ·obtain⟨t,ht,p,hp,rfl⟩:=key u hu
  exact hb t ht
def afz_:Sp:=λvs H Q _=>∃(a:Addr)(cs:List Int)(n:Nat),vs=[.ref a,.int n]/\H a=some (.lst (cs.map V.int))/\cs.length<=2/\1<=n/\n<=4/\∀(l:Addr)(S:List Mon)(H':Hp),H l=none->Same H H'->LstAt H' l S->S.length<=48->Even n S->Deg n 8 60 S->Q (.ref l) H'
theorem ak6_(F:Fun K "_law_poly" "_law_poly" aep_ f fd)(GR:Has P w K mg base 5 "_law_row" nRo aed_)(GP:Has P w K mg base 5 "_law_powers" pP ad8_)(GH:Has P w K mg base 5 "_law_thing" ["_law_cell_here", "_law_k", "_law_many"] yE_)(GS:Has P w K mg base 5 "_law_sum" ["_law_terms"] ae1_)(GE:Has P w K mg base 5 "_law_even" pEv agv_):FnOk P w K mg base CX0 6 f fd pPy afz_:=by
 refine F.ok scPy (λvs H Q E h=>?_) (λcdv A outer s H vs Q E hr h=>?_)
 ·obtain⟨a,cs,n,rfl,_⟩:=h
  rfl
 obtain⟨a,cs,n,rfl,hA,lC,n1,n4,q⟩:=h
 refine⟨_,qe_ (qo_ (i:=2) scPy.nd rfl (Or.inl rfl) (qJ_ qb_))
  (qe_ (qE_ Al rfl (qz_ (pv 0)) (qj_ (i:=3) scPy.nd rfl (Or.inl rfl))
   (qe_ (qo_ (i:=4) scPy.nd rfl (Or.inl rfl) (qi_ GR hr rfl (qa_ (qi_ GP hr rfl (qa_ (pv 3) (qa_ qg_ (qa_ (pv 1) (qa_ qg_ qb_))))) qb_)))
   (qf_ (qK_ (jM_ BK BF BG q7_ (pv 2) (qa_ (qs_ (qa_ (pv 4) (qa_ (ql_ zD_ (qi_ GH hr rfl (qa_ (pv 3) (qa_ qg_ (qa_ (ql_ z2_ qg_ (ql_ ahy_ qg_ qg_)) qb_)))) (ql_ ahy_ qg_ qg_)) qb_))) qb_))))))
  (qf_ (qm_ (qi_ GE hr rfl (qa_ (qi_ GS hr rfl (qa_ (pv 2) qb_)) (qa_ (pv 1) qb_)))))),?_⟩
 refine⟨(by show 0<=sizeLine;decide),λl hl=>?_⟩
 have s0:=qd_ hl (.lst [])
 refine⟨_,rfl,a,rfl,⟨_,SqL.of (s0 _ _ hA)⟩,?_⟩
 refine qL_ (xs:=cs.map V.int) (λi σ H'=>(∃c3 c4,σ=[some (.ref a),some (.int n),some (.ref l),c3,c4])/\LstAt H' l ((cs.take i).map (xk_ n))/\Same H H') ⟨⟨_,_,rfl⟩,⟨[],qc_,.nil⟩,s0⟩ ?_ ?_ ?_
 ·rintro i σ H1 _ ⟨_,_,s1⟩
  exact SqL.of (s1 _ _ hA)
 ·rintro i v σ H1 hv ⟨⟨c3,c4,rfl⟩,⟨us,eU,iU⟩,s1⟩
  obtain⟨c,hc,rfl⟩:∃c,cs[i]?=some c/\V.int c=v:=by
   rw[AV]at hv
   cases e:cs[i]? with
   |none=>rw[e]at hv;cases hv
   |some y=>rw[e]at hv;exact⟨y,rfl,AZ hv⟩
  have lu:=AQ iU
  refine⟨_,rfl,_,rfl,c,21,4,n,rfl,n1,by omega,by decide,by decide,by decide,by decide,λp2 H2 s2 h2=>?_⟩
  have lp:=(yp_ (c:=c) (far:=21) (w:=4) (by decide) n1).1
  refine⟨p2,_,rfl,h2,by omega,λt3 H3 s3 h3=>?_⟩
  have z3:=s2.trans s3
  have eU3:=z3 _ _ eU
  refine⟨_,rfl,.inl ⟨rfl,_,SqL.of eU3⟩,_,rfl,_,rfl,?_⟩
  have e9:(10:Int)^(9:Int).toNat=1000000000:=by decide
  refine⟨_,_,rfl,rfl,⟨by decide,by decide,by decide⟩,_,_,rfl,rfl,.inl ⟨by decide,by decide⟩,c,22,2000000000,by rw[e9];rfl,by decide,by decide,by decide,_,_,rfl,rfl,⟨by decide,by decide,by decide⟩,_,_,rfl,rfl,(by show 2<=sizeLine;decide),λt4 h4=>?_⟩
  rw[e9]
  have s4:=qd_ h4 (.tup [.ref t3,.int (zJ_ c 22 2000000000-1000000000)])
  have eU4:=s4 _ _ eU3
  refine⟨l,us,_,rfl,rfl,eU4,zE_ (by rw[AA,AW]at lu;omega),⟨_,_,rfl⟩,?_,xv_ hl (s1.trans (z3.trans s4)) _⟩
  rw[qI_ hc,Aj]
  exact⟨us++[.ref t4],qc_,CC (Its.mono ((Tups.same (z3.trans s4)).trans (jp_ eU4 _)) iU) (Dat.mono (jp_ eU4 _) (zo_ (t:=xk_ n c) qc_ (s4 _ _ h3)))⟩
 ·rintro σ H1 ⟨⟨c3,c4,rfl⟩,hL,s1⟩
  rw[AA,AU (AF _)]at hL
  refine⟨_,rfl,l,_,rfl,hL,by rw[AA];omega,λl2 H2 hl2 s2 hL2=>?_⟩
  have rT:∀t∈norm (cs.map (xk_ n)),Rw6 n t.1:=λt ht=>by
   obtain⟨u,hu,e⟩:=qC_ ht
   obtain⟨c,_,rfl⟩:=AR.mp hu
   rw[<-e]
   obtain⟨r8,r4⟩:=vx_ (c:=c) (far:=21) (w:=4) (n:=n) (by decide) n1 (by decide)
   exact⟨r8,by show(jG_ (zF_ c 21 4 n)).sum<=6;omega⟩
  have lT:(norm (cs.map (xk_ n))).length<=2:=by
   have:=zn_ (cs.map (xk_ n))
   rw[AA]at this
   omega
  have bT:∀t∈norm (cs.map (xk_ n)),t.2.natAbs<2^40:=λt ht=>by
   have e:=y9_ (qM_ _) ht
   rw[zt_]at e
   have b:=xM_ (b:=31) t.1 (ts:=cs.map (xk_ n)) λu hu=>by
    obtain⟨x,_,rfl⟩:=AR.mp hu
    have t0:=y4_ (c:=x) (k:=22) (m:=2000000000) (by decide)
    have t1:=yY_ (c:=x) (k:=22) (m:=2000000000) (by decide)
    show(zJ_ x 22 2000000000-1000000000).natAbs<2^31
    omega
   rw[e,AA]at b
   have:=CO (2^31) lC
   omega
  generalize norm (cs.map (xk_ n))=T at hL2 rT lT bT
  refine⟨_,rfl,l2,T,n,rfl,hL2,by omega,n1,n4,λt ht=>(rT t ht).r8.len,λl3 H3 hl3 s3 hL3 lS lens=>?_⟩
  have fE:=yZ_ (T:=T) (λt ht=>(rT t ht).r8.len) n4 (by omega) T.length
  rw[Bj]at fE
  have lF:=zB_ (evG n) 24 T λt ht=>by
   unfold evG
   rw[AA]
   exact(xU_ (rT t ht).r8.len n4).1
  have lN:=zn_ (T.flatMap (evG n))
  exact q l3 _ H3 (s1.free (s2.free hl3)) (s1.trans (s2.trans s3)) hL3 (by omega) (v1_ n1 n4 T rT).norm (((ajf_ n1 n4 rT bT).norm (k:=10) (by omega)).mono (by decide) (by decide))
theorem acy_{T l:List Mon}(pm:l.Perm T)(so:l.Pairwise λa b=>tlt a b=false)(nd:(T.map (·.1)).Nodup)(num:∀t∈T,t.2≠0):l=norm T:=by
 have nd':(l.map (·.1)).Nodup:=(pm.map (·.1)).nodup_iff.mpr nd
 refine yA_ ⟨?_,λt ht=>num t (pm.mem_iff.mp ht)⟩ λp=>adw_ pm p
 rw[List.Nodup,B0]at nd'
 refine(so.and nd').imp λ{a b} z=>?_
 have z1:=z.1
 unfold tlt at z1
 rw[if_neg z.2]at z1
 cases c:lxl b.1 a.1 with
 |true=>rfl
 |false=>exact absurd (jv_ z1 c) z.2
abbrev nFp:List Str:=["telling"]
abbrev bFp:List Str:=["row", "number"]
theorem ndFp:bFp.Nodup:=by decide +kernel
theorem scFp:FnScope nFp nFp (qh_ sFlp):=⟨rfl,rfl,rfl,by decide +kernel,rfl,by decide +kernel,by decide +kernel⟩
def rowT(r:List Int):Bool:=zq_ r&&zq_ (tov r)&&decide (tov (tov r)=r)&&decide (r.length<=8)&&decide (mxr r<=8)&&r.all (λx=>decide (0<=x))&&decide ((r.take 1).sum=mxr r)
theorem am3_:(rws 8 8 8).all rowT=true:=by decide +kernel
theorem Rw8.t{r:List Int}(h:Rw8 8 r):zq_ r=true/\zq_ (tov r)=true/\tov (tov r)=r/\r.length<=8/\mxr r<=8/\(∀x∈r,0<=x)/\(r.take 1).sum=mxr r:=by
 have:=AN.mp am3_ r h.mem
 unfold rowT at this
 rw[AH,AH,AH,AH,AH,AH,decide_eq_true_eq,decide_eq_true_eq,decide_eq_true_eq,AN,decide_eq_true_eq]at this
 obtain⟨⟨⟨⟨⟨⟨h1,h2⟩,h3⟩,h4⟩,h5⟩,h6⟩,h7⟩:=this
 exact⟨h1,h2,h3,h4,h5,λx hx=>of_decide_eq_true (h6 x hx),h7⟩
def xZ_(t:Mon):Mon:=(tov t.1,t.2)
def flT(T:List Mon):List Mon:=norm (T.map xZ_)
structure Tel8(T:List Mon):Prop where
 c:Canon T
 r:∀t∈T,Rw8 8 t.1
theorem afv_{r:List Int}(h:Rw8 8 r):Rw8 8 (tov r):=by
 obtain⟨r1,r2,r3⟩:=ys_ h.t.2.1
 refine⟨?_,r2,λx hx=>by have:=(r1 x hx).1;omega,r3⟩
 have:=h.t.2.2.2.2.1
 unfold tov
 rw[AA,A0]
 omega
theorem am7_{T:List Mon}(h:Tel8 T):Nd (T.map xZ_):=by
 unfold Nd
 rw[B4,List.Nodup,B0]
 refine h.c.ord.imp_of_mem λ{x y} hx hy z e=>?_
 have e:tov x.1=tov y.1:=e
 have:=(h.r x hx).t.2.2.1
 rw[e,(h.r y hy).t.2.2.1]at this
 rw[this,ze_]at z
 cases z
theorem afm_(F:Pw->Int):∀T:List Mon,sm F (T.map xZ_)=sm (λp=>F (tov p)) T
 |[]=>rfl
 |t::T=>by
  rw[Ae]
  show t.2*F (tov t.1)+sm F (T.map xZ_)=t.2*F (tov t.1)+sm (λp=>F (tov p)) T
  rw[afm_ F T]
def ake_:Sp:=λvs H Q _=>∃(a:Addr)(T:List Mon),vs=[.ref a]/\LstAt H a T/\T.length<=100000/\Tel8 T/\∀(l:Addr)(H':Hp),H l=none->Same H H'->LstAt H' l (flT T)->Q (.ref l) H'
theorem amu_(F:Fun K "flipped" "flipped" sFlp f fd)(GT:Has P w K mg base 4 "turned" nTo spTn)(ms:mg "sorted" = none):FnOk P w K mg base CX0 5 f fd nFp ake_:=by
 refine F.ok scFp (λvs H Q E h=>?_) (λcdv A outer s H vs Q E hr h=>?_)
 ·obtain⟨a,T,rfl,_⟩:=h
  rfl
 obtain⟨a,T,rfl,hL,lT,hT,q⟩:=h
 have h8:=hu8 hr
 refine⟨_,qf_ (qm_ (vn_ (α:=Mon) rfl h8 rfl ms (qa_ (qN_ (N':=bFp) (src:=[none,none]) rfl (qz_ (pv 0)) (zb_ (qh_ sFlp) nFp (by decide +kernel))
   (λb=>zh_ rfl (qp_ (qj_ (i:=0) ndFp rfl (Or.inl rfl)) (qp_ (qj_ (i:=1) ndFp rfl (Or.inl rfl)) q6_))) (λb=>qX_)
   (λb=>qs_ (qa_ (qi_ GT hr rfl (qa_ (pv 0) qb_)) (qa_ (pv 1) qb_)))) qb_))),?_⟩
 obtain⟨ws,eB,iB⟩:=hL
 have lb:=AQ iB
 refine⟨_,rfl,a,rfl,⟨_,SqL.of eB⟩,λbk D hD=>?_⟩
 refine zG_ (α:=Mon) hD (SqL.of eB) (λσ=>∃c d,σ=[c,d]) (λi=>(T[i]?).bind λt=>some (xZ_ t)) (small (by omega)) ⟨_,_,rfl⟩ ?_ ?_
 ·rintro i x σ H2 Yes No hx ⟨c,d,rfl⟩ s3 yes no
  obtain⟨t,ht,hi⟩:=qV_ iB hx
  obtain⟨p,kk,rfl,hp,hkk⟩:=zY_ hi
  obtain⟨r1,r2,r3,r4,r5,r6,r7⟩:=(hT.r t (Ag ht)).t
  refine⟨p,_,rfl,SqT.of (s3 _ _ hp),rfl,_,_,rfl,_,_,rfl,rfl,?_⟩
  refine yV_ ?_
  refine⟨_,rfl,kk,t.1,rfl,s3 _ _ hkk,by omega,r1,r6,by omega,λt5 H5 s5 h5=>⟨_,rfl,(by show 2<=sizeLine;decide),λp6 h6=>?_⟩⟩
  have s6:=qd_ h6 (.tup [.ref t5,.int t.2])
  exact yes _ _ _ (xZ_ t) ⟨_,_,rfl⟩ (s5.trans s6) (by rw[ht];rfl) (zo_ (t:=xZ_ t) qc_ (s6 _ _ h5))
 ·rintro H2 s3 h2
  rw[lb,qT_,Aw]at h2
  refine⟨D,T.map xZ_,rfl,h2,λ_ _=>trivial,λp vs l' hp pm so it=>?_⟩
  have e1:l'=flT T:=acy_ pm so (am7_ hT) λt ht=>by
   obtain⟨u,hu,rfl⟩:=AR.mp ht
   exact hT.c.num u hu
  rw[e1]at it
  exact q p _ (s3.free hp) (s3.trans (qd_ hp _)) ⟨vs,qc_,Its.mono (yT_ hp _) it⟩
theorem an5_{n:Nat}{A B D:List Mon}{d:Mon}{r:List Mon}(eD:D=d::r)(cD:Canon D)(hD:∀t∈D,t.1.length=n)(hA:∀t∈A,t.1.length=n)(hB:∀t∈B,t.1.length=n)(e:norm (prd A D)=norm (prd B D)):norm A=norm B:=by
 have z:∀F,sm F (prd (norm (A++ngt B)) D)=0:=λF=>by
  rw[qU_,qq_,jd_,je_,<-qU_,<-qU_,<-qq_ F (prd A D),e,qq_]
  omega
 have lX:∀t∈norm (A++ngt B),t.1.length=n:=λt ht=>by
  obtain⟨u,hu,e⟩:=qC_ ht
  rw[<-e]
  rcases Ai.mp hu with hu|hu
  ·exact hA u hu
  ·obtain⟨v,hv,rfl⟩:=AR.mp hu
   exact hB v hv
 have nil:norm (A++ngt B)=[]:=by
  cases c:norm (A++ngt B) with
  |nil=>rfl
  |cons t s =>
   exfalso
   have cX:=qM_ (A++ngt B)
   rw[c]at cX lX z
   subst eD
   have tp:=(aah_ cX).prd (aah_ cD) lX hD (lX t (AD ..)) (hD d (AD ..))
   have a:=tp.at_
   rw[zN_,z]at a
   have t0:=cX.num t (AD ..)
   have d0:=cD.num d (AD ..)
   rcases Int.mul_eq_zero.mp a.symm with h|h
   ·exact t0 h
   ·exact d0 h
 refine zv_ λF=>?_
 have:sm F (norm (A++ngt B))=0:=by rw[nil];rfl
 rw[qq_,jd_,je_]at this
 omega
theorem abi_{n:Nat}{r:List Int}(n1:1<=n)(n4:n<=4)(h:Rw6 n r):Even n (norm (qQ_ n r)):=λk hk=>by
 obtain⟨_,_,_,hB,hA,_⟩:=h.all n1 n4
 obtain⟨r1,r2,r3⟩:=ys_ hB
 obtain⟨e0,f0⟩:=(vT_ n1 n4 (by have:=h.r8.len;omega) r1 r2 r3).2.1 h.r8.len
 obtain⟨d1,d2,d3,d4,d5,d6⟩:=jE_ n (zz_ n1 n4)
 have dD:=z6_ d3
 rw[<-d1]at e0
 have lF:∀t∈norm (qQ_ n r),t.1.length=n:=λt ht=>by
  obtain⟨u,hu,e⟩:=qC_ ht
  rw[<-e]
  exact(f0 u hu).1
 obtain⟨d,rr,eD⟩:∃d r,qt_ n=d::r:=by
  cases c:qt_ n with
  |nil=>rw[c]at d2;cases d2
  |cons d r=>exact⟨d,r,rfl⟩
 have cD:Canon (qt_ n):=by rw[d1];exact qM_ _
 have lS:∀t∈sws (norm (qQ_ n r)) k,t.1.length=n:=λt ht=>by
  obtain⟨u,hu,rfl⟩:=AR.mp ht
  show(swp u.1 k).length=n
  rw[yn_ (by rw[lF u hu];exact hk)]
  exact lF u hu
 refine an5_ eD cD dD.len lS lF (zv_ λG=>?_)
 have a1:norm (sws (qt_ n) k)=norm (ngt (qt_ n)):=of_decide_eq_true (AN.mp d6 k (Ar.mpr (by omega)))
 have l1:=yi_ lF dD.len hk
 rw[e0,a1]at l1
 have z:=congrArg (sm G) l1
 rw[qq_,qq_,zQ_,qq_,<-zQ_,<-qq_ G (sws (q1_ n r) k),hA k hk,qq_,je_,qU_,qq_]at z
 have e1:(λp=>sm (λq=>G (pad p q)) (norm (ngt (qt_ n))))=λp=>(-1:Int)*sm (λq=>G (pad p q)) (qt_ n):=by
  funext p
  rw[qq_,je_]
  omega
 rw[e1,yJ_,<-qU_]at z
 have z2:sm G (prd (norm (qQ_ n r)) (qt_ n))=sm G (q1_ n r):=by rw[<-qq_ G (prd _ _),e0,qq_]
 omega
theorem aiu_:∀n∈([1,2,3,4]:List Nat),((rws n 6 6).all λr=>(fil n r).all λf=>decide ((pwf n f).sum<=8))=true:=by decide +kernel
theorem adl_{n:Nat}{r:List Int}(n1:1<=n)(n4:n<=4)(h:Rw6 n r):Deg n 8 153 (norm (qQ_ n r))/\(norm (qQ_ n r)).length<=1000/\NR n r:=by
 obtain⟨_,_,_,hB,hA,_⟩:=h.all n1 n4
 obtain⟨r1,r2,r3⟩:=ys_ hB
 obtain⟨a1,a2,_⟩:=vT_ n1 n4 (by have:=h.r8.len;omega) r1 r2 r3
 obtain⟨_,f0⟩:=a2 h.r8.len
 have few:=a1 r.length (AF _)
 have lT:(qQ_ n r).length<=1000:=by unfold qQ_;rw[AA];exact few
 have s:=AN.mp (aiu_ n (zz_ n1 n4)) r h.mem
 have d:Deg n 8 1 (qQ_ n r):=⟨λt ht=>(f0 t ht).1,λt ht x hx=>((f0 t ht).2 x hx).1,λt ht=>by
  unfold qQ_ at ht
  obtain⟨f,hf,rfl⟩:=AR.mp ht
  exact of_decide_eq_true (AN.mp s f hf),λt ht=>by
  unfold qQ_ at ht
  obtain⟨f,hf,rfl⟩:=AR.mp ht
  show(1:Int).natAbs<2^1
  decide⟩
 have l:=zn_ (qQ_ n r)
 exact⟨(d.norm (k:=10) (by omega)).mono (by decide) (by decide),by omega,n1,n4,hB,by have:=h.r8.len;omega,a1⟩
def lk(n:Nat)(r:List Int):List (Nat×Int):=ja_ n (xo_ (pwK (elF n) (r.map Int.toNat)) (q1_ n []))
def vJ_(n:Nat)(F:List (Nat×Int))(r:List Int):Int:=if r.length<=n then xG_ F (Ev.code (ph n r)) else 0
def chkQ(n:Nat):Bool:=((rws n n n).map λL=>(lk n L,wk n L)).all λa=>(rws 8 8 8).all λr=>decide (vJ_ n a.1 (tov r)=vJ_ n a.2 r)
theorem aj1_:∀n∈([1,2,3,4]:List Nat),chkQ n=true:=by decide +kernel
def rowH(n:Nat)(r:List Int):Bool:=isF (qr_ n (ph n r))&&decide (qB_ (qr_ n (ph n r))=r)&&jF_ n 15 (ph n r)
theorem an1_:∀n∈([1,2,3,4]:List Nat),(rws n 8 8).all (rowH n)=true:=by decide +kernel
theorem agh_{n b:Nat}{f:List Mon}{F:List (Nat×Int)}{r:List Int}(n1:1<=n)(n4:n<=4)(dF:Deg n 8 b f)(cF:CodeOf (prd f (qt_ n)) F)(h:Rw8 8 r):cf (bfF n f) r=vJ_ n (ja_ n F) r:=by
 obtain⟨l1,m1,b1⟩:=yd_ n1 n4 dF
 have lW:∀t∈norm (prd f (qt_ n)),t.1.length=n:=λt ht=>by
  obtain⟨u,hu,e⟩:=qC_ ht
  rw[<-e]
  exact l1 u hu
 have mW:∀t∈norm (prd f (qt_ n)),∀x∈t.1,0<=x:=λt ht=>by
  obtain⟨u,hu,e⟩:=qC_ ht
  rw[<-e]
  exact m1 u hu
 unfold vJ_ bfF
 by_cases c:r.length<=n
 ·rw[if_pos c]
  have R:Rw8 n r:=⟨c,h.fall,h.pos,h.sum⟩
  have k:=AN.mp (an1_ n (zz_ n1 n4)) r R.mem
  unfold rowH at k
  rw[AH,AH,decide_eq_true_eq]at k
  obtain⟨⟨k1,k2⟩,k3⟩:=k
  obtain⟨s1,s2⟩:=jK_ k3
  have e:=aco_ s1 (λx hx=>(s2 x hx).1) k1 lW mW
  rw[k2,zt_]at e
  rw[e,<-abq_ n (by rw[zL_ n _ s1 s2,ag4_ n];exact k1)]
  unfold xG_
  rw[cF,zN_]
  refine qw_ λu hu=>?_
  by_cases e:u.1=ph n r
  ·rw[if_pos e,if_pos (by rw[e])]
  ·rw[if_neg e,if_neg λz=>e ?_]
   rw[<-zL_ n u.1 (l1 u hu) (b1 u hu),z,zL_ n _ s1 s2]
 ·rw[if_neg c]
  refine zs_ λt ht e=>c ?_
  unfold bfL at ht
  obtain⟨u,hu,rfl⟩:=AR.mp ht
  have e:qB_ (qr_ n u.1)=r:=e
  rw[<-e]
  have:=CJ (λx:Int=>decide (0<x)) (qr_ n u.1)
  rw[zU_,lW u (BR.mp hu).1]at this
  exact this
theorem acf_{n b:Nat}{S:List Mon}(n1:1<=n)(n4:n<=4)(hE:Even n S)(hD:Deg n 8 b S):Tel8 (bfF n S):=by
 obtain⟨hW,sW⟩:=abt_ n1 n4 hE hD
 refine⟨yS_ n1 n4 hE hD,λt ht=>?_⟩
 unfold bfF bfL at ht
 obtain⟨u,hu,rfl⟩:=AR.mp ht
 obtain⟨u1,u2⟩:=BR.mp hu
 have R:=alx_ n1 n4 (hW.len u u1) (hW.nn u u1) (sW u u1) u2
 exact⟨Ac R.len (by omega),R.fall,R.pos,R.sum⟩
theorem p4{n:Nat}{L:List Int}(n1:1<=n)(n4:n<=4)(hL:Rw6 n L)(s:L.sum<=(n:Int)):flT (bfF n (elR n L))=bfF n (whR n L):=by
 obtain⟨eE,dE,_⟩:=akk_ n1 n4 hL
 obtain⟨eW,dW,_⟩:=ym_ n1 n4 hL
 have tE:=acf_ n1 n4 eE dE
 have tW:=acf_ n1 n4 eW dW
 have hk:∀k∈L.map Int.toNat,1<=k/\k<=8:=λk hk=>by have:=hL.nat.2.1 k hk;omega
 have cE:CodeOf (elR n L) (pwK (elF n) (L.map Int.toNat)):=yU_ (λk a b=>(zM_ n k n1 n4 a b).1) hk
 have cW:CodeOf (whR n L) (pwK (whF n) (L.map Int.toNat)):=yU_ (λk a b=>(zM_ n k n1 n4 a b).2) hk
 have kE:=λr h=>agh_ (r:=r) n1 n4 dE (xL_ n1 n4 cE dE.len dE.nn) h
 have kW:=λr h=>agh_ (r:=r) n1 n4 dW (xL_ n1 n4 cW dW.len dW.nn) h
 have mem:L∈rws n n n:=xC_ n L n n hL.r8.len hL.r8.fall hL.r8.pos (λx hx=>by
  have:=(jR_ (λy hy=>by have:=hL.r8.pos y hy;omega) hx).1
  omega) s
 have q:=AN.mp (aj1_ n (zz_ n1 n4)) (lk n L,wk n L) (AR.mpr ⟨L,mem,rfl⟩)
 refine xR_ (qM_ _) tW.c λp=>?_
 show cf (norm ((bfF n (elR n L)).map xZ_)) p=_
 rw[zt_]
 by_cases hp:Rw8 8 p
 ·have q2:=of_decide_eq_true (AN.mp q p hp.mem)
  rw[kW p hp]
  show _=vJ_ n (wk n L) p
  rw[<-q2]
  show _=vJ_ n (ja_ n _) (tov p)
  rw[<-kE (tov p) (afv_ hp),zN_,afm_,zN_]
  refine qw_ λt ht=>?_
  have i1:=(tE.r t ht).t.2.2.1
  have i2:=hp.t.2.2.1
  by_cases e:t.1=tov p
  ·rw[if_pos e,if_pos (by rw[e,i2])]
  ·rw[if_neg e,if_neg λz=>e (by rw[<-z,i1])]
 ·rw[zs_ λt ht e=>hp ?_,zs_ λt ht e=>hp (by rw[<-e];exact tW.r t ht)]
  obtain⟨u,hu,rfl⟩:=AR.mp ht
  rw[<-e]
  exact afv_ (tE.r u hu)
end
end L2.K72
set_option maxHeartbeats 4000000
namespace L2.Ev
open PySem PySem.Spec PyProof.Rows L2 L2.Pl
theorem abx_:typeLookup (.type "list") "keys" = pure none:=by rw[typeLookup_type,builtinLookup_eq_fast];kernel_rfl
section
variable{prog:Program}{w:World}{A:Around}{E:Value->Shared->Prop}
theorem af9_{s:Shared}{a:Addr}{o:Obj}{xs:Array Value}{k:Nat}{Q:Option Value->Shared->Prop}(hx:s.heap.get? a=some o)(hc:o.cls=.type "list")(hdat:o.data=.seq xs k)(hd:o.dict=none)(hA:A.handled=none)
  (h:∀h' tk,(∀b ob,s.heap.get? b=some ob->h'.get? b=some ob)->Q none { s with heap:=h',toks:=tk }):wpAny (model prog w) A (getAttr? (.ref a) "keys") Q E s:=by
 obtain⟨c,dct,dat,sl⟩:=o
 simp only at hc hdat hd
 subst hc hdat hd
 obtain⟨hp,g,d,tk,os⟩:=s
 have hT:∀tk',(⟨hp,g,d,tk',os⟩:Shared).TypeIs (.ref a) "list" := λ_=>⟨_,hx,rfl⟩
 have f1:=sub_AttributeError
 have f3:=Cz.lookup
 have f4:=Cz.bind (.ref a)
 have f5:=am_list_getattr_none
 unfold getAttr? getAttrBy? getAttrBy
 repeat (any_goals (first|assumption|exact hT _|((with_reducible show wpAny _ _ (call (Value.builtin "list.__getattribute__") _ _) _ _ _);refine call_meets Cz (hT _) am_entry_list_getattribute (F.args_list_getattribute_2 _ _) (meets_getattribute_miss_list a xs k sl "keys" _ abx_ (by decide +kernel) (by decide +kernel)) ⟨hx,hA,λh' tk' e hx'=>?_⟩)|wp_step))
 obtain⟨t',u',he⟩:=hx'.there
 show wpAny _ _ (getattributeRaised _ _ _ _ _ _ _) _ _ _
 unfold getattributeRaised
 repeat (any_goals (first|assumption|wp_step))
 exact h _ _ hx'.keeps
abbrev xS_:=Addr×List Key×Addr×Value
def x6_(prog:Program)(w:World)(h:Heap)(r:xS_):Prop:=(∃o n,h.get? r.1=some o/\o.cls=.type "tuple" /\ o.data=.seq #[.ref r.2.2.1,r.2.2.2] n)/\(tupleKind (qF_ prog w)).is h r.2.1 r.2.2.1
theorem vL_{h h':Heap}{a x:Addr}{ks:List Key}{ox:Obj}(hx:h.get? x=some ox)(hc:ox.cls≠.type "tuple")(hk:∀b o,b≠x->h.get? b=some o->h'.get? b=some o)(q:(tupleKind (qF_ prog w)).is h ks a):(tupleKind (qF_ prog w)).is h' ks a:=by
 obtain⟨o,its,n,h1,h2,h3⟩:=q
 refine⟨o,its,n,hk a o (λe=>?_) h1,h2,h3⟩
 subst e
 rw[hx]at h1
 cases h1
 exact hc h2
theorem x9_{h h':Heap}{x:Addr}{r:xS_}{ox:Obj}(hx:h.get? x=some ox)(hc:ox.cls≠.type "tuple")(hk:∀b o,b≠x->h.get? b=some o->h'.get? b=some o)(q:x6_ prog w h r):x6_ prog w h' r:=by
 obtain⟨⟨o,n,h1,h2,h3⟩,q2⟩:=q
 refine⟨⟨o,n,hk _ o (λe=>?_) h1,h2,h3⟩,vL_ hx hc hk q2⟩
 rw[e,hx]at h1
 cases h1
 exact hc h2
theorem x3_:entryFor table "dict.update.loop" = some Builtin.«dict.update.loop»:=entryFor_of_tree (by kernel_rfl)
theorem jg_:plainId "dict.update.loop" = true:=by decide +kernel
def aeo_(xs:List (List Key×Addr×Value))(rs:List xS_):List (List Key×Addr×Value):=rs.foldl (λxs r=>storedH xs r.2.1 r.2.2.1 r.2.2.2) xs
theorem aec_(xs:List (List Key×Addr×Value))(k:List Key)(a:Addr)(v:Value):(storedH xs k a v).length<=xs.length+1:=by
 unfold storedH
 split
 ·rw[AA];omega
 ·rw[AE];show _+1<=_;omega
theorem agm_{R:Result->Shared->Prop}{l it d:Addr}{rows:List xS_}(hu:A.in1.units<cLine)(hh:A.handled=none)(nl:l≠it)(nd:d≠it)(ld:l≠d) :
  ∀(m i:Nat)(s:Shared)(xs:List (List Key×Addr×Value)),rows.length-i=m->i<=rows.length->s.heap.IsListIter it l i->s.heap.IsList l (rows.map λr=>Value.ref r.1).toArray->s.heap.DictOfH (tupleKind (qF_ prog w)) d xs->(∀r∈rows,x6_ prog w s.heap r)->xs.length+m<=100000 ->
  (∀h' tk,h'.DictOfH (tupleKind (qF_ prog w)) d (aeo_ xs (rows.drop i))->(∀b o,b≠it->b≠d->s.heap.get? b=some o->h'.get? b=some o)->R (.ok (.ret .none)) { s with heap:=h',toks:=tk }) ->
  codeAny (model prog w) A (.builtin "dict.update.loop" ⟨[.ref d,.ref it,rawInt (i:Int),.none],[]⟩) R s:=by
 intro m
 induction m with
 |zero =>
  intro i s xs hm hi hit hl hd hp hz hR
  refine codeAny_builtin x3_ ?_
  rw[Ba jg_ _]
  unfold Builtin.«dict.update.loop»
  show wpAny _ A.in1 (pyNext (.ref it)>>=_) _ _ s
  refine wpAny_bind (wpAny_pyNext_list_end hh hit hl (by simp;omega) λh' he=>?_)
  show wpAny _ A.in1 (Builtin.Dict.addKeywords d []>>=_) _ _ _
  refine wpAny_bind (wpAny_pure (wpAny_pure (hR h' s.toks ?_ λb o hb _ e=>he b o hb e)))
  rw[Bb (by omega)]
  show h'.DictOfH _ d xs
  obtain⟨o,es,ep,h1,h2,h3,h4,h5,h6⟩:=hd
  obtain⟨oi,hoi,hci,_⟩:=hit
  exact⟨o,es,ep,he _ _ nd h1,h2,h3,h4,λx hx=>vL_ hoi (by rw[hci];decide) he (h5 x hx),h6⟩
 |succ m ih =>
  intro i s xs hm hi hit hl hd hp hz hR
  have hlt:i<rows.length:=by omega
  obtain⟨r,hr⟩:∃r,rows[i]?=some r:=⟨_,AJ hlt⟩
  refine codeAny_builtin x3_ ?_
  rw[Ba jg_ _]
  unfold Builtin.«dict.update.loop»
  show wpAny _ A.in1 (pyNext (.ref it)>>=_) _ _ s
  refine wpAny_bind (wpAny_pyNext_list_item hit hl (x:=.ref r.1) (by simp [hr]) λh1 hit1 hs1=>?_)
  obtain⟨oi,hoi,hci,_⟩:=id hit
  have k1:∀b o,b≠it->s.heap.get? b=some o->h1.get? b=some o:=λb o hb e=>hs1.extBut b o hb e
  have p1:=x9_ hoi (by rw[hci];decide) k1 (hp r (Ag hr))
  obtain⟨⟨o,n,e1,e2,e3⟩,key⟩:=id p1
  have d1:h1.DictOfH (tupleKind (qF_ prog w)) d xs:=by
   obtain⟨od,es,ep,a1,a2,a3,a4,a5,a6⟩:=hd
   exact⟨od,es,ep,k1 _ _ nd a1,a2,a3,a4,λx hx=>vL_ hoi (by rw[hci];decide) k1 (a5 x hx),a6⟩
  show wpAny _ A.in1 (holding [Value.ref r.1] _>>=_) _ _ _
  refine wpAny_bind (wpAny_holding ?_)
  refine wpAny_bind (wpAny_tryCatch ?_)
  unfold Builtin.Dict.pairItems
  refine wpAny_bind (wpAny_typeOf (T := "tuple") ⟨o,e1,e2⟩ ?_)
  rw[if_pos (by decide)]
  refine wpAny_bind (wpAny_seqItems e1 e3 ?_)
  refine wpAny_pure ?_
  show wpAny _ A.in1 (holding [Value.ref r.2.2.1,r.2.2.2] (dictSet d (.ref r.2.2.1) r.2.2.2)) _ _ _
  refine wpAny_holding (wpAny_dictSet_heap (hsz:=Ac (by omega:xs.length<=100000) (by decide)) hu key d1 λh2 d2 hs2=>?_)
  obtain⟨od,es,ep,a1,a2,a3,_⟩:=id d1
  have cd:od.cls≠.type "tuple" := by rw[a2.1];decide
  have k2:∀b o,b≠d->h1.get? b=some o->h2.get? b=some o:=λb o hb e=>(hs2.2 b hb).trans e
  refine wpAny_pure ⟨plainId_quiet jg_ _,?_⟩
  have ei:((i:Int)+1)=((i+1:Nat):Int):=by omega
  show codeAny _ A (.builtin "dict.update.loop" ⟨[.ref d,.ref it,rawInt ((i:Int)+1),.none],[]⟩) R _
  rw[ei]
  refine ih (i+1) _ (storedH xs r.2.1 r.2.2.1 r.2.2.2) (by omega) hlt ?_ ?_ d2 (λr' hr'=>?_) ?_ λh' tk dd kk=>?_
  ·obtain⟨oj,b1,b2,b3⟩:=hit1
   exact⟨oj,k2 _ _ (CG nd) b1,b2,b3⟩
  ·obtain⟨ol,b1,b2⟩:=hl
   exact⟨ol,k2 _ _ ld (k1 _ _ nl b1),b2⟩
  ·exact x9_ a1 cd k2 (x9_ hoi (by rw[hci];decide) k1 (hp r' hr'))
  ·have:=aec_ xs r.2.1 r.2.2.1 r.2.2.2
   omega
  ·refine hR h' tk ?_ λb o hb hb2 e=>kk b o hb hb2 (k2 b o hb2 (k1 b o hb e))
   have ed:rows.drop i=r::rows.drop (i+1):=by
    rw[Dd hlt]
    congr 1
    exact AZ ((AJ hlt).symm.trans hr)
   rw[ed]
   exact dd
theorem vh_{s:Shared}{l:Addr}{rows:List xS_}{Q:Value->Shared->Prop}(hu:A.in1.in1.units<cLine)(hh:A.handled=none)(hp:PlainL s.heap l (rows.map λr=>Value.ref r.1).toArray)(hr:∀r∈rows,x6_ prog w s.heap r)(hz:rows.length<=100000)
  (h:∀h' tk,h'.DictOfH (tupleKind (qF_ prog w)) s.heap.objs.size (aeo_ [] rows)->(∀b o,s.heap.get? b=some o->h'.get? b=some o)->Q (.ref s.heap.objs.size) { s with heap:=h',toks:=tk }) :
  wpAny (model prog w) A (call (.type "dict") [.ref l]) Q E s:=by
 refine callType_codes (Q₁:=λobj s₁=>obj=.ref s.heap.objs.size/\s₁={ s with heap:=s.heap.push { cls:=.type "dict",data:=.dict #[] } }) F.kt_called_dict (F.kt_typeCall_dict_1 _) F.entry_dict_init (kt_code_dict_new _ ⟨rfl,rfl⟩) ?_
 rintro obj s₁ ⟨rfl,rfl⟩
 have hn:(s.heap.push { cls:=.type "dict",data:=.dict #[] }).get? s.heap.objs.size=some { cls:=.type "dict",data:=.dict #[] }:=AI _ rfl
 have hk:∀b o,s.heap.get? b=some o->(s.heap.push { cls:=.type "dict",data:=.dict #[] }).get? b=some o:=λb o e=>AB _ e
 obtain⟨ol,n,el,cl,dt,dl⟩:=hp
 refine⟨⟨_,hn,rfl⟩,F.args_dict_init_2 _ _,?_⟩
 unfold Builtin.«dict.__init__»
 refine wpAny_bind ?_
 unfold Builtin.Dict.selfAndRest
 refine wpAny_bind (wpAny_notOrdered_dict ⟨_,hn,rfl⟩ ?_)
 show wpAny _ _ (pure (s.heap.objs.size,[Value.ref l])) _ _ _
 refine wpAny_pure ?_
 show wpAny _ _ (Builtin.Dict.updateFrom "dict.__init__" s.heap.objs.size (.ref l) [] .none) _ _ _
 unfold Builtin.Dict.updateFrom
 refine wpAny_bind (wpAny_typeOf (T := "list") ⟨_,hk _ _ el,cl⟩ ?_)
 rw[if_pos (by decide)]
 refine wpAny_bind (af9_ (hk _ _ el) cl dl dt hh λh1 tk1 k1=>?_)
 simp only[Option.isNone_none,if_true]
 refine wpAny_bind (wpAny_rule ?_)
 have hL:h1.IsList l (rows.map λr=>Value.ref r.1).toArray:=⟨ol,k1 _ _ (hk _ _ el),cl,n,dl⟩
 have hs1:s.heap.objs.size<h1.objs.size:=AK (k1 _ _ hn)
 refine wpAny_bind (wpAny_pyIter_list hL ?_)
 have k2:∀b o,h1.get? b=some o->(h1.push { cls:=.type "list_iterator",data:=.fields #[.ref l,.int 0 0] }).get? b=some o:=λb o e=>AB _ e
 have hl1:l<h1.objs.size:=AK (k1 _ _ (hk _ _ el))
 have kk:∀b o,s.heap.get? b=some o->(h1.push { cls:=.type "list_iterator",data:=.fields #[.ref l,.int 0 0] }).get? b=some o:=λb o e=>k2 _ _ (k1 _ _ (hk _ _ e))
 refine wpAny_pure ⟨plainId_quiet jg_ _,?_⟩
 refine agm_ (l:=l) (it:=h1.objs.size) (d:=s.heap.objs.size) (rows:=rows) hu hh (Ab hl1) (Ab hs1) (Ab (AK el)) rows.length 0 _ [] (by omega) (An _) ⟨_,AI _ rfl,rfl,rfl⟩ ⟨ol,kk _ _ el,cl,n,dl⟩ ⟨_,#[],0,k2 _ _ (k1 _ _ hn),⟨rfl,rfl,rfl⟩,rfl,rfl,(λx hx=>by simp at hx),List.nodup_nil⟩ (λr hr'=>?_) (by simpa using hz) λh' tk dd k3=>⟨rfl,h h' tk dd λb o e=>?_⟩
 ·obtain⟨⟨o,m,a1,a2,a3⟩,b,its,m',b1,b2⟩:=hr r hr'
  exact⟨⟨o,m,kk _ _ a1,a2,a3⟩,b,its,m',kk _ _ b1,b2⟩
 ·have hb:=AK e
  exact k3 b o (Ab (Nat.lt_trans hb hs1)) (Ab hb) (kk _ _ e)
end
theorem adg_{P:Program}{w:World}{H:Hp}{h:Heap}(ok:HOk P w H h):∀{us:List V}{ts:List Mon}{its:List Value},Its H us ts->Vals us its->∃rows:List xS_,its=rows.map (λr=>Value.ref r.1)/\(∀r∈rows,x6_ P w h r)/\Paired (λ(r:xS_)(t:Mon)=>r.2.1=t.1.map Sum.inl/\RelV (.int t.2) r.2.2.2/\H r.2.2.1=some (.tup (r.2.1.map kV))) rows ts
 |[],[],_,.nil,r=>by cases r;exact⟨[],rfl,(λr hr=>by simp at hr),.nil⟩
 |u::us,t::ts,_,.cons hi hr,.cons rv rr=>by
  obtain⟨rows,e,hp,pr⟩:=adg_ ok hr rr
  obtain⟨p,k,rfl,hpt,hk⟩:=zY_ hi
  cases rv
  have kk:H k=some (.tup ((t.1.map Sum.inl).map kV)):=by rw[jf_];exact hk
  have key:=x4_ ok kk
  obtain⟨_,its,r,o,h1,h2,n,h3⟩:=(show ObjOk P w H h p (.tup [.ref k,.int t.2]) from ok p _ hpt)
  cases r with
  |cons r1 r2=>cases r2 with
   |cons r2 r3 =>
    cases r3
    cases r1
    rename_i v2
    refine⟨(p,t.1.map Sum.inl,k,v2)::rows,by rw[Ae,<-e],λr hr=>?_,.cons ⟨rfl,r2,kk⟩ pr⟩
    rcases AL.mp hr with rfl|hr
    ·exact⟨⟨o,n,h1,h2,h3.1⟩,key⟩
    ·exact hp r hr
theorem ahq_{H:Hp}:∀{rows:List xS_}{ts:List Mon}{kvs:List (List Key×V)}{xs:List (List Key×Addr×Value)},Paired (λ(r:xS_)(t:Mon)=>r.2.1=t.1.map Sum.inl/\RelV (.int t.2) r.2.2.2/\H r.2.2.1=some (.tup (r.2.1.map kV))) rows ts->KT H kvs xs ->
  KT H (ts.foldl (λacc t=>zr_ acc (t.1.map Sum.inl) (.int t.2)) kvs) (aeo_ xs rows)
 |[],[],_,_,.nil,r=>r
 |r::rows,t::ts,_,_,.cons ⟨e1,e2,e3⟩ hr,rel=>by
  have:=ahq_ (kvs:=zr_ _ (t.1.map Sum.inl) (.int t.2)) (xs:=storedH _ r.2.1 r.2.2.1 r.2.2.2) hr (by rw[<-e1];exact rel.put r.2.1 e3 e2)
  exact this
theorem ads_:∀(ts d:List Mon),Nd (d++ts)->ts.foldl (λacc t=>zr_ acc (t.1.map Sum.inl) (.int t.2)) (toK d)=toK (d++ts)
 |[],d,_=>by rw[BP];rfl
 |t::ts,d,h=>by
  rw[BY,vX_]
  have hn:(d.any λkv=>decide (kv.1=t.1))=false:=by
   rw[List.any_eq_false]
   intro x hx e
   have e:=of_decide_eq_true e
   unfold Nd at h
   rw[Aj,List.nodup_append]at h
   exact h.2.2 x.1 (Ee hx) t.1 (Ee (AD ..)) e
  have ed:jJ_ d t.1 t.2=d++[t]:=by
   unfold jJ_
   rw[hn]
   rfl
  rw[ed,ads_ ts (d++[t]) (by rw[AY];exact h),AY]
  rfl
theorem ae2_{X:Cx}(hu:X.A.units+8<cLine)(hc:X.calm=true):CallR X (.type "dict") (λxs H Q=>∃(p:Addr)(ts:List Mon),xs=[.ref p]/\LstAt H p ts/\ts.length<=100000/\Nd ts/\∀d,H d=none->Q (.ref d) (upd H d (.dT (toK ts)))):=by
 intro pins s σ H xs us Q I r h
 obtain⟨p,ts,rfl,⟨vs,eL,iL⟩,hl,nd,q⟩:=h
 obtain⟨u,rfl,ru⟩:=zx_ r
 cases ru
 obtain⟨its,rv,ht,_⟩:=I.list (SqL.of eL)
 obtain⟨rows,e,hp,pr⟩:=adg_ I.hok iL rv
 subst e
 have lr:=AQ pr
 refine vh_ (by show X.A.units+1+1<cLine;omega) (I.ok.hd hc) ht hp (by omega) λh' tk dd k=>?_
 have hn:=I.hok.fresh (AF s.heap.objs.size)
 have rel:=ahq_ pr (show KT H [] [] from .nil)
 have e0:ts.foldl (λacc t=>zr_ acc (t.1.map Sum.inl) (.int t.2)) []=toK ts:=ads_ ts [] nd
 rw[e0]at rel
 refine⟨.ref s.heap.objs.size,_,I.laid (a:=s.heap.objs.size) (o:=.dT (toK ts)) (h':=h') (t':=tk) k (AF _) ?_,rfl,q _ hn⟩
 obtain⟨o,es,ep,h1,h2,h3,h4,_,h5⟩:=dd
 exact⟨by rw[yr_];exact Ac hl (by decide),beq_eq_false_iff_ne.mpr (CG (Ab I.big)),_,rel.keeps λc ys ec=>(by rw[qk_ (λz=>by rw[z,hn]at ec;cases ec)];exact ec),o,es,ep,h1,h2,h3,h4,h5⟩
end L2.Ev
namespace L2.K72
open PySem
open L2.Pl L2.Ev
section
variable{P:Program}{w:World}{K:PySem.W.Frag}{mg:Str->Option Value}{base:Heap}{f g:Addr}{fd gd:FuncData}
abbrev nPa:List Str:=["many", "one", "other", "telling", "numbers"]
abbrev pPa:List Str:=["many", "one", "other"]
abbrev bPa:List Str:=["row", "number", "numbers"]
theorem ndPa:bPa.Nodup:=by decide +kernel
theorem scPa:FnScope nPa pPa (qh_ aa6_):=⟨rfl,rfl,rfl,by decide +kernel,rfl,by decide +kernel,by decide +kernel⟩
def abj_:Sp:=λvs H Q _=>∃(n b:Nat)(a c:Addr)(ts us:List Mon),vs=[.int n,.ref a,.ref c]/\LstAt H a ts/\LstAt H c us/\ts.length<=1000/\us.length<=1000/\1<=n/\n<=4/\Deg n 8 b ts/\Deg n 8 b us/\b<=80000/\Even n ts/\Even n us/\∀H',Same H H'->Q (.int (jP_ n ts us)) H'
theorem alz_(F:Fun K "pair" "pair" aa6_ f fd)(GB:Has P w K mg base 9 "by_fillings" ["many", "some"] spBf)(md:mg "dict" = none)(ms:mg "sum" = none):FnOk P w K mg base CX0 10 f fd pPa abj_:=by
 refine F.ok scPa (λvs H Q E h=>?_) (λcdv A outer s H vs Q E hr h=>?_)
 ·obtain⟨n,b,a,c,ts,us,rfl,_⟩:=h
  rfl
 obtain⟨n,b,a,c,ts,us,rfl,hA,hC,hl,hl2,n1,n4,dT,dU,hb,eT,eU,qQ⟩:=h
 have h8:=hu8 hr
 have hu:=aa3_ hr
 refine⟨_,qe_ (qo_ (i:=3) scPa.nd rfl (Or.inl rfl) (qi_ GB hr rfl (qa_ (pv 0) (qa_ (pv 1) qb_))))
  (qe_ (qo_ (i:=4) scPa.nd rfl (by first|exact Or.inl rfl|exact Or.inr rfl) (qO_ (ae2_ h8 rfl) rfl md PyProof.Rows.boot_dict (qa_ (qi_ GB hr rfl (qa_ (pv 0) (qa_ (pv 2) qb_))) qb_)))
  (qf_ (qm_ (qD_ (v0_ rfl) rfl ms BU (qa_ (qN_ (N':=bPa) (src:=[none,none,some 4]) rfl (qz_ (pv 3)) (zb_ (qh_ aa6_) nPa (by decide +kernel))
   (λb=>zh_ rfl (qp_ (qj_ (i:=0) ndPa rfl (Or.inl rfl)) (qp_ (qj_ (i:=1) ndPa rfl (Or.inl rfl)) q6_))) (λb=>qX_)
   (λb=>ql_ adh_ (pv 1) (y2_ hu (pv 2) (pv 0) qg_ ⟨rfl,rfl,rfl,rfl⟩))) qb_))))),?_⟩
 refine⟨_,rfl,_,rfl,n,b,a,ts,rfl,n1,n4,hA,eT,dT,by omega,hl,λl1 H1 hl1 s1 hL1=>?_⟩
 refine⟨_,rfl,_,rfl,n,b,c,us,rfl,n1,n4,hC.mono s1,eU,dU,by omega,hl2,λl2 H2 hf2 s2 hL2=>?_⟩
 have c1:=yS_ n1 n4 eT dT
 have c2:=yS_ n1 n4 eU dU
 have b1:=ac1_ n1 n4 dT hl
 have b2:=ac1_ n1 n4 dU hl2
 have f1:=abk_ (S:=ts) n1 n4 hl
 have f2:=abk_ (S:=us) n1 n4 hl2
 unfold jP_ at qQ
 generalize bfF n ts=T1 at hL1 c1 b1 f1 qQ
 generalize bfF n us=T2 at hL2 c2 b2 f2 qQ
 have n2:=aj3_ c2
 refine⟨l2,T2,rfl,hL2,by omega,n2,λd hd=>?_⟩
 have s3:=qd_ hd (.dT (toK T2))
 obtain⟨ws,eB,iB⟩:=hL1.mono (s2.trans s3)
 have lb:=AQ iB
 refine⟨_,rfl,l1,rfl,⟨_,SqL.of eB⟩,λbk D hD=>?_⟩
 refine zG_ (α:=Int) hD (SqL.of eB) (λσ=>∃c e,σ=[c,e,some (.ref d)]) (λi=>(T1[i]?).bind λt=>some (t.2*cf T2 t.1)) (small (by omega)) ⟨_,_,rfl⟩ ?_ ?_
 ·rintro i x σ H4 Yes No hx ⟨c',e',rfl⟩ s4 yes no
  obtain⟨t,ht,hi⟩:=qV_ iB hx
  obtain⟨p,kk,rfl,hp,hkk⟩:=zY_ hi
  have mt:=Ag ht
  have hd4:H4 d=some (.dT (toK T2)):=s4 _ _ qc_
  have g:=DGet.t (k:=t.1.map Sum.inl) hd4 (by rw[jf_];exact s4 _ _ hkk)
  rw[yt_]at g
  have eg:(zj_ T2 t.1).getD 0=cf T2 t.1:=yq_ n2 t.1
  refine⟨p,_,rfl,SqT.of (s4 _ _ hp),rfl,_,_,rfl,_,_,rfl,rfl,?_⟩
  refine yV_ ?_
  refine⟨_,rfl,_,rfl,d,rfl,.inr ⟨_,.inl hd4⟩,_,rfl,_,g,t.2,cf T2 t.1,rfl,?_,⟨zW_ (b1 t mt) (by omega),zW_ (ak1_ c2 b2 t.1) (by omega)⟩,?_⟩
  ·rw[<-eg]
   cases zj_ T2 t.1<;>rfl
  ·exact yes _ _ _ _ ⟨_,_,rfl⟩ (Same.refl _) (by rw[ht];rfl) rfl
 ·rintro H4 s4 ⟨zs,eD,iD⟩
  have ez:(List.range ws.length).filterMap (λi=>(T1[i]?).bind λt=>some (t.2*cf T2 t.1))=T1.map λt=>t.2*cf T2 t.1:=by
   rw[lb,qT_,Aw]
  rw[zK_ iD,ez]at eD
  exact⟨D,_,rfl,SqL.of eD,qQ _ (s1.trans (s2.trans (s3.trans s4)))⟩
abbrev nGd:List Str:=["_law_many", "_law_left", "_law_right", "_law_due", "_law_small"]
abbrev pGd:List Str:=["_law_many", "_law_left", "_law_right"]
theorem scGd:FnScope nGd pGd (qh_ ae0_):=⟨rfl,rfl,rfl,by decide +kernel,rfl,by decide +kernel,by decide +kernel⟩
def af6_:Sp:=λvs H Q _=>∃(n:Nat)(a b:Addr)(L R:List Int),vs=[.int n,.ref a,.ref b]/\1<=n/\n<=4/\H a=some (.tup (L.map V.int))/\H b=some (.tup (R.map V.int))/\Rw6 n L/\Rw6 n R/\L.sum=R.sum/\∀H',Same H H'->Q (.bl true) H'
theorem alh_(F:Fun K "_law_good" "_law_good" ae0_ f fd)(GP:Has P w K mg base 13 "pair" pPa abj_)(GF:Has P w K mg base 13 "filled_sum" nFs spFs)(GW:Has P w K mg base 13 "whole_sum" nWs (vw_ whF))(GX:Has P w K mg base 13 "exchange_sum" nEx spEx)(GE:Has P w K mg base 13 "elementary_sum" nEs (vw_ elF))
  (GB:Has P w K mg base 13 "by_fillings" ["many", "some"] spBf) (GL:Has P w K mg base 13 "flipped" nFp ake_) (mi:mg "int" = none) (ms:mg "sum" = none):FnOk P w K mg base CX0 14 f fd pGd af6_:=by
 refine F.ok scGd (λvs H Q E h=>?_) (λcdv A outer s H vs Q E hr h=>?_)
 ·obtain⟨n,a,b,L,R,rfl,_⟩:=h
  rfl
 obtain⟨n,a,b,L,R,rfl,n1,n4,ha,hb,hL,hR,es,q⟩:=h
 have hI:=BN (B2 (by decide:Dat.dep Int+1<=64) _) hr.units
 have hM:=BN (B2 (by decide:Dat.dep Mon+1<=64) _) hr.units
 refine⟨_,qe_ (qo_ (i:=3) scGd.nd rfl (Or.inl rfl) (qO_ aac_ rfl mi ER (qa_ (jC_ (acl_ (α:=Int) hI) (pv 1) (pv 2) (qv_ _)) qb_)))
  (qe_ (q0_ (qy_ yl_ (qi_ GP hr rfl (qa_ (pv 0) (qa_ (qi_ GF hr rfl (qa_ (pv 0) (qa_ (pv 1) qb_))) (qa_ (qi_ GF hr rfl (qa_ (pv 0) (qa_ (pv 2) qb_))) qb_)))) (pv 3) (qv_ _)) (qf_ (qm_ x0_)) qG_)
  (qe_ (q0_ (qy_ yl_ (qi_ GP hr rfl (qa_ (pv 0) (qa_ (qi_ GW hr rfl (qa_ (pv 0) (qa_ (pv 1) qb_))) (qa_ (qi_ GX hr rfl (qa_ (pv 0) (qa_ (pv 2) qb_))) qb_)))) (pv 3) (qv_ _)) (qf_ (qm_ x0_)) qG_)
  (qe_ (q0_ (qy_ yl_ (qi_ GP hr rfl (qa_ (pv 0) (qa_ (qi_ GX hr rfl (qa_ (pv 0) (qa_ (pv 1) qb_))) (qa_ (qi_ GW hr rfl (qa_ (pv 0) (qa_ (pv 2) qb_))) qb_)))) (pv 3) (qv_ _)) (qf_ (qm_ x0_)) qG_)
  (qe_ (q0_ (qy_ j1_ (qD_ (z1_ rfl) rfl ms BU (qa_ (pv 1) qb_)) (pv 0) (qv_ _)) (qf_ (qm_ x0_)) qG_)
  (qe_ (qo_ (i:=4) scGd.nd rfl (Or.inl rfl) (qi_ GB hr rfl (qa_ (pv 0) (qa_ (qi_ GE hr rfl (qa_ (pv 0) (qa_ (pv 1) qb_))) qb_))))
  (qf_ (qm_ (jC_ (an2_ (α:=Mon) hM) (qi_ GL hr rfl (qa_ (pv 4) qb_)) (qi_ GB hr rfl (qa_ (pv 0) (qa_ (qi_ GW hr rfl (qa_ (pv 0) (qa_ (pv 1) qb_))) qb_))) (qv_ _))))))))),?_⟩
 obtain⟨wE,wD,wl⟩:=ym_ n1 n4 hL
 obtain⟨wE',wD',wl'⟩:=ym_ n1 n4 hR
 obtain⟨lE,lD,ll⟩:=akk_ n1 n4 hL
 obtain⟨xE1,xD1,xl1,xB1,_⟩:=hL.all n1 n4
 obtain⟨xE2,xD2,xl2,xB2,_⟩:=hR.all n1 n4
 obtain⟨fD1,fl1,nr1⟩:=adl_ n1 n4 hL
 obtain⟨fD2,fl2,nr2⟩:=adl_ n1 n4 hR
 refine⟨_,rfl,_,rfl,L,R,zd_ ha,zd_ hb,_,rfl,?_⟩
 have ev:(if zi_ (Dat.eqb (α:=Int)) L R=true then (1:Int) else 0)=if L=R then 1 else 0:=by
  by_cases z:L=R
  ·rw[if_pos z,if_pos ((zZ_ Dat.eqb_iff _ _).mpr z)]
  ·rw[if_neg z,if_neg λy=>z ((zZ_ Dat.eqb_iff _ _).mp y)]
 show jy_ 3 (V.int (if zi_ (Dat.eqb (α:=Int)) L R=true then 1 else 0)) _ _ _
 rw[ev]
 obtain⟨dv,edv⟩:∃dv,(if L=R then (1:Int) else 0)=dv:=⟨_,rfl⟩
 rw[edv]
 have q1:=p1 n1 n4 hL hR
 have q2:=p2 n1 n4 hL hR es
 have q3:=p3 n1 n4 hL hR es
 rw[edv]at q1 q2 q3
 refine⟨_,rfl,_,rfl,_,rfl,a,n,L,rfl,ha,nr1,λl1 H1 f1 s1 hL1=>?_⟩
 refine⟨_,rfl,_,rfl,b,n,R,rfl,s1 _ _ hb,nr2,λl2 H2 f2 s2 hL2=>?_⟩
 refine⟨n,153,l1,l2,_,_,rfl,hL1.mono s2,hL2,by omega,by omega,n1,n4,fD1,fD2,by decide,abi_ n1 n4 hL,abi_ n1 n4 hR,λH3 s3=>?_⟩
 rw[q1]
 refine⟨_,rfl,rfl,_,rfl,?_⟩
 rw[show(!decide (V.int dv=V.int dv))=false by rw[decide_eq_true rfl];rfl]
 refine ji_ ?_
 have z3:=s1.trans (s2.trans s3)
 refine⟨_,rfl,_,rfl,_,rfl,n,a,L,rfl,n1,n4,z3 _ _ ha,xB1,λl4 H4 f4 s4 hL4=>?_⟩
 have ne0:(!decide (V.int dv=V.int dv))=false:=by rw[decide_eq_true rfl];rfl
 have q2:jP_ n (zP_ (whF n) n (L.map Int.toNat)) (exch n R)=dv:=q2
 have q3:jP_ n (exch n L) (zP_ (whF n) n (R.map Int.toNat))=dv:=q3
 refine⟨_,rfl,_,rfl,n,b,R,rfl,n1,n4,(z3.trans s4) _ _ hb,hR.r8.len,xB2,λl5 H5 f5 s5 hL5=>?_⟩
 refine⟨n,153,l4,l5,_,_,rfl,hL4.mono s5,hL5,Ac wl (by decide),by omega,n1,n4,wD,xD2.mono (by decide) (by decide),by decide,wE,xE2,λH6 s6=>?_⟩
 rw[q2]
 refine⟨_,rfl,rfl,_,rfl,?_⟩
 rw[ne0]
 refine ji_ ?_
 have z6:=z3.trans (s4.trans (s5.trans s6))
 refine⟨_,rfl,_,rfl,_,rfl,n,a,L,rfl,n1,n4,z6 _ _ ha,hL.r8.len,xB1,λl7 H7 f7 s7 hL7=>?_⟩
 refine⟨_,rfl,_,rfl,n,b,R,rfl,n1,n4,(z6.trans s7) _ _ hb,xB2,λl8 H8 f8 s8 hL8=>?_⟩
 refine⟨n,153,l7,l8,_,_,rfl,hL7.mono s8,hL8,by omega,Ac wl' (by decide),n1,n4,xD1.mono (by decide) (by decide),wD',by decide,xE1,wE',λH9 s9=>?_⟩
 rw[q3]
 refine⟨_,rfl,rfl,_,rfl,?_⟩
 rw[ne0]
 refine ji_ ?_
 have z9:=z6.trans (s7.trans (s8.trans s9))
 refine⟨_,rfl,a,L,rfl,SqT.of (z9 _ _ ha),_,rfl,_,_,rfl,rfl,_,rfl,?_⟩
 by_cases cs:(n:Int)<L.sum
 ·exact xX_ cs (q _ z9)
 refine jV_ cs ?_
 refine⟨_,rfl,_,rfl,_,rfl,n,a,L,rfl,n1,n4,z9 _ _ ha,xB1,λl10 H10 f10 s10 hL10=>?_⟩
 refine⟨n,153,l10,_,rfl,n1,n4,hL10,lE,lD,by decide,Ac ll (by decide),λl11 H11 f11 s11 hL11=>?_⟩
 have few:=abk_ (S:=elR n L) n1 n4 (Ac ll (by decide))
 refine⟨_,rfl,l11,_,rfl,hL11,Ac few (by decide),acf_ n1 n4 lE lD,λl12 H12 f12 s12 hL12=>?_⟩
 have z12:=z9.trans (s10.trans (s11.trans s12))
 refine⟨_,rfl,_,rfl,_,rfl,n,a,L,rfl,n1,n4,z12 _ _ ha,xB1,λl13 H13 f13 s13 hL13=>?_⟩
 refine⟨n,153,l13,_,rfl,n1,n4,hL13,wE,wD,by decide,Ac wl (by decide),λl14 H14 f14 s14 hL14=>?_⟩
 refine⟨l12,l14,_,_,rfl,rfl,hL12.mono (s13.trans s14),hL14,?_⟩
 have e4:flT (bfF n (zP_ (elF n) n (L.map Int.toNat)))=bfF n (zP_ (whF n) n (L.map Int.toNat)):=p4 n1 n4 hL (by omega)
 rw[e4,ye_]
 exact q _ (z12.trans (s13.trans s14))
def aa2_(K:PySem.W.Frag):Sp:=λvs H Q _=>∃(a:Addr)(ns:List Int),vs=[.ref a]/\SqL K H a (ns.map V.int)/\ns.length<=63/\∀H',Q (.bl true) H'
abbrev nL:List Str:=["_law_script", "_law_many", "_law_cells", "_law_k", "_law_left", "_law_right", "_law_some", "_law_both"]
abbrev bL1:List Str:=["_law_k", "_law_cells", "_law_many"]
theorem ndL1:bL1.Nodup:=by decide +kernel
theorem scL:FnScope nL ["_law_script"] (qh_ sLaw):=⟨rfl,rfl,rfl,by decide +kernel,rfl,by decide +kernel,by decide +kernel⟩
theorem ab3_{H:Hp}{l D:Addr}{S:List Mon}{vs:List V}(h:LstAt H l S)(hD:H D=some (.lst vs))(ne:l≠D)(o:HO):LstAt (upd H D o) l S:=by
 obtain⟨ws,e,i⟩:=h
 refine⟨ws,by rw[qk_ ne];exact e,Its.mono (λp ys q=>?_) i⟩
 rw[qk_ (zH_ q hD (by intro z;cases z))]
 exact q
theorem xT_{n d b:Nat}{S:List Mon}(n1:1<=n)(h:Deg n d b S):∀t∈S,t.1≠[]:=λt ht z=>by
 have:=h.len t ht
 rw[z]at this
 have:0=n:=this
 omega
theorem amv_(F:Fun K "law" "law" sLaw f fd)(GC:Has P w K mg base 14 "_law_cell" nC (ahm_ K))(GR:Has P w K mg base 14 "_law_rows" pLr spLr)(GG:Has P w K mg base 14 "_law_good" pGd af6_)(GO:Has P w K mg base 14 "_law_poly" pPy afz_)
  (GP:Has P w K mg base 14 "pair" pPa abj_) (GA:Has P w K mg base 14 "plus" nPl (ve_ λa b=>a++b)) (mr:mg "range" = none) (mn:mg "len" = none):FnOk P w K mg base CX0 15 f fd ["_law_script"] (aa2_ K):=by
 refine F.ok scL (λvs H Q E h=>?_) (λcdv A outer s H vs Q E hr h=>?_)
 ·obtain⟨a,ns,rfl,_⟩:=h
  rfl
 obtain⟨a,ns,rfl,hS,h63,q⟩:=h
 refine⟨_,qe_ (qo_ (i:=1) scL.nd rfl (Or.inr rfl) (ql_ qS_ qg_ (ql_ j8_ (qi_ GC hr rfl (qa_ (pv 0) (qa_ qg_ qb_))) qg_)))
  (qe_ (qo_ (i:=2) scL.nd rfl (Or.inr rfl) (ql_ yc_ (q3_ yG_ (pv 0) (q5_ qg_) (q5_ qg_)) (qJ_ (qa_ qg_ (qa_ qg_ qb_)))))
  (qe_ (qE_ Al rfl (zw_ rfl mr (qa_ (ql_ alb_ (qD_ q4_ rfl mn B6 (qa_ (pv 2) qb_)) qg_) qb_)) (qj_ (i:=3) scL.nd rfl (Or.inl rfl))
   (qe_ (ahu_ (qi_ GR hr rfl (qa_ (qY_ qW_ (pv 2) (ql_ z2_ qg_ (pv 3)) (λ_ _=>rfl)) (qa_ (qY_ qW_ (pv 2) (ql_ qS_ (ql_ z2_ qg_ (pv 3)) qg_) (λ_ _=>rfl)) (qa_ (pv 1) qb_)))) (zh_ rfl (qp_ (qj_ (i:=4) scL.nd rfl (Or.inl rfl)) (qp_ (qj_ (i:=5) scL.nd rfl (Or.inl rfl)) q6_))))
   (qf_ (q0_ (aou_ (vo_ (qi_ GG hr rfl (qa_ (pv 1) (qa_ (pv 4) (qa_ (pv 5) qb_)))))) (qf_ (qm_ x0_)) qG_))))
  (qe_ (akw_ (i:=6) (N':=bL1) (src:=[none,some 2,some 1]) scL.nd rfl (Or.inl rfl) rfl rfl (zw_ rfl mr (qa_ qg_ qb_)) (zb_ (qh_ sLaw) nL (by decide +kernel))
    (λb=>qj_ (i:=0) ndL1 rfl (Or.inl rfl)) (λb=>qX_)
    (λb=>qi_ GO hr rfl (qa_ (q3_ yG_ (pv 1) (q5_ (ql_ z2_ qg_ (pv 0))) (q5_ (ql_ qS_ (ql_ z2_ qg_ (pv 0)) qg_))) (qa_ (pv 2) qb_))))
  (qe_ (q0_ (qy_ yl_ (qi_ GP hr rfl (qa_ (pv 1) (qa_ (qY_ qW_ (pv 6) qg_ (λ_ _=>rfl)) (qa_ (qY_ qW_ (pv 6) qg_ (λ_ _=>rfl)) qb_)))) (qi_ GP hr rfl (qa_ (pv 1) (qa_ (qY_ qW_ (pv 6) qg_ (λ_ _=>rfl)) (qa_ (qY_ qW_ (pv 6) qg_ (λ_ _=>rfl)) qb_)))) (qv_ _)) (qf_ (qm_ x0_)) qG_)
  (qe_ (qo_ (i:=7) scL.nd rfl (Or.inl rfl) (qi_ GA hr rfl (qa_ (qi_ GA hr rfl (qa_ (qY_ qW_ (pv 6) qg_ (λ_ _=>rfl)) (qa_ (qY_ qW_ (pv 6) qg_ (λ_ _=>rfl)) qb_))) (qa_ (qY_ qW_ (pv 6) qg_ (λ_ _=>rfl)) qb_))))
  (qf_ (qm_ (jC_ vv_ (qi_ GP hr rfl (qa_ (pv 1) (qa_ (qY_ qW_ (pv 6) qg_ (λ_ _=>rfl)) (qa_ (pv 7) qb_)))) (ql_ qS_ (qi_ GP hr rfl (qa_ (pv 1) (qa_ (qY_ qW_ (pv 6) qg_ (λ_ _=>rfl)) (qa_ (qY_ qW_ (pv 6) qg_ (λ_ _=>rfl)) qb_)))) (ql_ z2_ qg_ (qi_ GP hr rfl (qa_ (pv 1) (qa_ (qY_ qW_ (pv 6) qg_ (λ_ _=>rfl)) (qa_ (qY_ qW_ (pv 6) qg_ (λ_ _=>rfl)) qb_)))))) (qv_ _))))))))),?_⟩
 refine⟨_,rfl,a,ns,0,rfl,hS,_,_,rfl,rfl,(by show(0:Int)<4;decide),_,_,rfl,rfl,?_⟩
 obtain⟨n,hn,n1,n4⟩:∃n:Nat,1+xY_ ns 0%4=n/\1<=n/\n<=4:=by
  have h0:=D0 (xY_ ns 0) (show(4:Int)≠0 by decide)
  have h1:=DT (xY_ ns 0) (show(0:Int)<4 by decide)
  exact⟨(1+xY_ ns 0%4).toNat,by omega,by omega,by omega⟩
 show jy_ 1 (V.int (1+xY_ ns 0%4)) _ _ _
 rw[hn]
 refine⟨_,rfl,_,rfl,_,rfl,a,_,rfl,hS,λp1 h1=>?_⟩
 obtain⟨ds,eds,lds⟩:=v5_ ns 1 9
 have eds':za_ (ns.map V.int) (some 1) (some 9)=ds.map V.int:=eds
 rw[eds']
 have u1:=qd_ h1 (.lst (ds.map V.int))
 refine⟨(by show 2<=sizeLine;decide),λp2 h2=>?_⟩
 have u2:=qd_ h2 (.lst [V.int 0,V.int 1])
 refine⟨p1,p2,_,_,rfl,rfl,u2 _ _ qc_,qc_,small (by rw[AA];show ds.length+2<=100000;omega),λp3 h3=>?_⟩
 have u3:=qd_ h3 (.lst (ds.map V.int++[V.int 0,V.int 1]))
 have ex:ds.map V.int++[V.int 0,V.int 1]=(ds++[0,1]).map V.int:=by rw[Aj];rfl
 rw[ex]at u3 ⊢
 have hc:upd (upd (upd H p1 (.lst (ds.map V.int))) p2 (.lst [V.int 0,V.int 1])) p3 (.lst ((ds++[0,1]).map V.int)) p3=some (.lst ((ds++[0,1]).map V.int)):=qc_
 show jy_ 2 (.ref p3) _ (upd (upd (upd H p1 (.lst (ds.map V.int))) p2 (.lst [V.int 0,V.int 1])) p3 (.lst ((ds++[0,1]).map V.int))) _
 have le:(ds++[(0:Int),1]).length<=10:=by rw[AE];show _+2<=10;omega
 generalize upd (upd (upd H p1 (.lst (ds.map V.int))) p2 (.lst [V.int 0,V.int 1])) p3 (.lst ((ds++[0,1]).map V.int))=H0 at *
 generalize ds++[(0:Int),1]=es at *
 refine⟨_,rfl,p3,_,rfl,.inl (SqL.of hc),_,_,rfl,rfl,⟨by decide,by decide⟩,?_⟩
 rw[AA]
 refine⟨(es.length:Int) / 2,rfl,by omega,by omega,?_⟩
 refine z3_ (lo:=0) (n:=((es.length:Int) / 2).toNat) (λi σ H'=>(∃c3 c4 c5 c6 c7,σ=[some (.ref a),some (.int n),some (.ref p3),c3,c4,c5,c6,c7])/\Same H0 H') ⟨⟨_,_,_,_,_,rfl⟩,λ_ _ e=>e⟩ ?_ ?_
 ·rintro i σ H1 hi ⟨⟨c3,c4,c5,c6,c7,rfl⟩,s1⟩
  rw[B8]
  obtain⟨x,hx⟩:∃x,es[2*i]?=some x:=⟨es[2*i]'(by omega),AJ _⟩
  obtain⟨y,hy⟩:∃y,es[2*i+1]?=some y:=⟨es[2*i+1]'(by omega),AJ _⟩
  have hx':(es.map V.int)[2*i]?=some (.int x):=by rw[AV,hx];rfl
  have hy':(es.map V.int)[2*i+1]?=some (.int y):=by rw[AV,hy];rfl
  have ax:atI (es.map V.int) (2*(i:Int))=some (.int x):=by
   have:=z7_ (xs:=es.map V.int) (j:=2*i) hx'
   rw[show((2*i:Nat):Int)=2*(i:Int) by push_cast;rfl]at this
   exact this
  have ay:atI (es.map V.int) (2*(i:Int)+1)=some (.int y):=by
   have:=z7_ (xs:=es.map V.int) (j:=2*i+1) hy'
   rw[show((2*i+1:Nat):Int)=2*(i:Int)+1 by push_cast;rfl]at this
   exact this
  have c1:=SqL.of (K:=K) (s1 _ _ hc)
  refine⟨_,rfl,_,rfl,_,_,rfl,rfl,.inl ⟨by decide,by decide⟩,p3,_,_,.int x,rfl,rfl,c1,ax,?_⟩
  refine⟨_,rfl,_,rfl,_,_,rfl,rfl,.inl ⟨by decide,by decide⟩,_,_,rfl,rfl,p3,_,_,.int y,rfl,rfl,c1,ay,?_⟩
  refine⟨_,rfl,x,y,n,rfl,n1,n4,λp a2 b2 L R H2 s2 ha hb hp rL rR eLR=>?_⟩
  refine⟨p,_,rfl,SqT.of hp,rfl,_,_,rfl,_,_,rfl,rfl,?_⟩
  refine⟨_,rfl,_,rfl,_,rfl,n,a2,b2,L,R,rfl,n1,n4,ha,hb,rL,rR,eLR,λH3 s3=>?_⟩
  exact⟨_,rfl,ji_ ⟨⟨_,_,_,_,_,rfl⟩,s1.trans (s2.trans s3)⟩⟩
 rintro σ H1 ⟨⟨c3,c4,c5,c6,c7,rfl⟩,s1⟩
 have hc1:=s1 _ _ hc
 refine⟨3,rfl,by decide,by decide,λbk D hD=>?_⟩
 refine aih_ (λi ys σ H'=>(∃c,σ=[c,some (.ref p3),some (.int n)])/\Same H1 H'/\∃(ls:List Addr)(Ss:List (List Mon)),ys=ls.map V.ref/\ls.length=i/\Ss.length=i/\∀(j:Nat)(l:Addr)(S:List Mon),ls[j]?=some l->Ss[j]?=some S->l≠D/\LstAt H' l S/\Deg n 8 60 S/\S.length<=48/\Even n S) (small (by decide)) ?_ ?_ ?_
 ·exact⟨⟨_,rfl⟩,qd_ hD _,[],[],rfl,rfl,rfl,λj l S e=>by simp at e⟩
 ·rintro i ys σ H2 Yes No hi eD ⟨⟨c0,rfl⟩,s2,ls,Ss,rfl,ll,lS,hls⟩ yes no
  have e0:(0:Int)+(i:Int)=(i:Int):=by omega
  rw[e0]
  refine zV_ ?_
  have ea:(2:Int)*(i:Int)=((2*i:Nat):Int):=by push_cast;rfl
  have eb:(2:Int)*(i:Int)+2=((2*i+2:Nat):Int):=by push_cast;rfl
  refine⟨_,rfl,_,rfl,_,_,rfl,rfl,.inl ⟨by decide,by decide⟩,_,rfl,_,rfl,_,_,rfl,rfl,.inl ⟨by decide,by decide⟩,_,_,rfl,rfl,_,rfl,p3,_,rfl,SqL.of (s2 _ _ hc1),λp4 h4=>?_⟩
  rw[eb,ea]
  obtain⟨cs,ecs,lcs⟩:=v5_ es (2*i) (2*i+2)
  rw[ecs]
  have s3:=qd_ h4 (.lst (cs.map V.int))
  refine⟨_,rfl,p4,cs,n,rfl,qc_,by omega,n1,n4,λl S H4 hl s4 h4 m4 e4 d4=>?_⟩
  have s34:=s3.trans s4
  have eD4:=s34 _ _ eD
  have nlD:l≠D:=λz=>by rw[z,s3 _ _ eD]at hl;cases hl
  refine yes _ _ _ eD4 ⟨⟨_,rfl⟩,λb o e=>?_,ls++[l],Ss++[S],by rw[Aj];rfl,by rw[AE,ll];rfl,by rw[AE,lS];rfl,λj l' S' e1 e2=>?_⟩
  ·rw[qk_ (λz=>by rw[z,hD]at e;cases e)]
   exact s34 _ _ (s2 _ _ e)
  ·by_cases hj:j<i
   ·rw[CM (by omega)]at e1 e2
    obtain⟨k1,k2,k3⟩:=hls j l' S' e1 e2
    exact⟨k1,ab3_ (k2.mono s34) eD4 k1 _,k3⟩
   ·rw[CK (by omega)]at e1 e2
    have lj:=(AX.mp e1).1
    rw[Aq]at lj
    have j0:j-ls.length=0:=by omega
    have j1:j-Ss.length=0:=by omega
    rw[j0]at e1
    rw[j1]at e2
    have e1:l=l':=by simpa using e1
    have e2:S=S':=by simpa using e2
    subst e1 e2
    exact⟨nlD,ab3_ h4 eD4 nlD _,d4,m4,e4⟩
 rintro ys σ1 H2 eD ⟨_,s2,ls,Ss,rfl,ll,lS,hls⟩
 have ll:ls.length=3:=ll
 have lS:Ss.length=3:=lS
 match ls,ll,Ss,lS,hls,eD with
 |[x0,x1,x2],_,[S0,S1,S2],_,hls,eD =>
 obtain⟨_,k0,d0,m0,q0⟩:=hls 0 x0 S0 rfl rfl
 obtain⟨_,k1,d1,m1,q1⟩:=hls 1 x1 S1 rfl rfl
 obtain⟨_,k2,d2,m2,q2⟩:=hls 2 x2 S2 rfl rfl
 have eD:H2 D=some (.lst [.ref x0,.ref x1,.ref x2]):=eD
 clear hls
 have a0:atI [V.ref x0,.ref x1,.ref x2] 0=some (.ref x0):=z7_ (j:=0) rfl
 have a1:atI [V.ref x0,.ref x1,.ref x2] 1=some (.ref x1):=z7_ (j:=1) rfl
 have a2:atI [V.ref x0,.ref x1,.ref x2] 2=some (.ref x2):=z7_ (j:=2) rfl
 have g (H':Hp) (z:Same H2 H'):=SqL.of (K:=K) (z _ _ eD)
 have gr:Same H2 H2:=λ_ _ e=>e
 refine⟨_,rfl,_,rfl,D,_,_,.ref x0,rfl,rfl,g _ gr,a0,_,rfl,D,_,_,.ref x1,rfl,rfl,g _ gr,a1,n,60,x0,x1,S0,S1,rfl,k0,k1,by omega,by omega,n1,n4,d0,d1,by decide,q0,q1,λH3 s3=>?_⟩
 refine⟨_,rfl,_,rfl,D,_,_,.ref x1,rfl,rfl,g _ s3,a1,_,rfl,D,_,_,.ref x0,rfl,rfl,g _ s3,a0,n,60,x1,x0,S1,S0,rfl,k1.mono s3,k0.mono s3,by omega,by omega,n1,n4,d1,d0,by decide,q1,q0,λH4 s4=>?_⟩
 rw[jh_ n1 n4 d0 d1,jh_ n1 n4 d1 d0,ab6_ n S1 S0]
 refine⟨rfl,_,rfl,?_⟩
 rw[show(!decide (V.int (phi n S0 S1)=V.int (phi n S0 S1)))=false by rw[decide_eq_true rfl];rfl]
 refine ji_ ?_
 have z4:=s3.trans s4
 refine⟨_,rfl,D,_,_,.ref x1,rfl,rfl,g _ z4,a1,_,rfl,D,_,_,.ref x2,rfl,rfl,g _ z4,a2,x1,x2,S1,S2,rfl,k1.mono z4,k2.mono z4,xT_ n1 d1,xT_ n1 d2,by omega,λl5 H5 hl5 s5 h5=>?_⟩
 have z5:=z4.trans s5
 have ml:=zn_ (S1++S2)
 rw[AE]at ml
 have dl:Deg n 8 70 (norm (S1++S2)):=(d1.app d2).norm (k:=10) (by rw[AE];omega)
 have ql:Even n (norm (S1++S2)):=(yN_ q1 q2).norm
 refine⟨_,rfl,D,_,_,.ref x2,rfl,rfl,g _ z5,a2,l5,x2,norm (S1++S2),S2,rfl,h5,k2.mono z5,xT_ n1 dl,xT_ n1 d2,by omega,λl6 H6 hl6 s6 h6=>?_⟩
 have z6:=z5.trans s6
 have mm:=zn_ (norm (S1++S2)++S2)
 rw[AE]at mm
 have dm:Deg n 8 80 (norm (norm (S1++S2)++S2)):=(dl.app (d2.mono (by decide) (by decide))).norm (k:=10) (by rw[AE];omega)
 have qm:Even n (norm (norm (S1++S2)++S2)):=(yN_ ql q2).norm
 have d0':=d0.mono (d':=8) (b':=80) (by decide) (by decide)
 refine⟨_,rfl,_,rfl,D,_,_,.ref x0,rfl,rfl,g _ z6,a0,_,rfl,n,80,x0,l6,S0,norm (norm (S1++S2)++S2),rfl,k0.mono z6,h6,by omega,by omega,n1,n4,d0',dm,by decide,q0,qm,λH7 s7=>?_⟩
 have z7:=z6.trans s7
 refine⟨_,rfl,_,rfl,D,_,_,.ref x0,rfl,rfl,g _ z7,a0,_,rfl,D,_,_,.ref x1,rfl,rfl,g _ z7,a1,n,60,x0,x1,S0,S1,rfl,k0.mono z7,k1.mono z7,by omega,by omega,n1,n4,d0,d1,by decide,q0,q1,λH8 s8=>?_⟩
 have z8:=z7.trans s8
 refine⟨_,rfl,_,rfl,D,_,_,.ref x0,rfl,rfl,g _ z8,a0,_,rfl,D,_,_,.ref x2,rfl,rfl,g _ z8,a2,n,60,x0,x2,S0,S2,rfl,k0.mono z8,k2.mono z8,by omega,by omega,n1,n4,d0,d2,by decide,q0,q2,λH9 s9=>?_⟩
 refine⟨_,_,rfl,rfl,.inl ⟨by decide,by decide⟩,_,_,rfl,rfl,rfl,?_⟩
 rw[jh_ n1 n4 d0' dm,ado_,ado_,jh_ n1 n4 d0 d1,jh_ n1 n4 d0 d2]
 have eq:phi n S0 S1+phi n S0 S2+phi n S0 S2=phi n S0 S1+2*phi n S0 S2:=by omega
 rw[eq,decide_eq_true rfl]
 exact q H9
def FQ(K:PySem.W.Frag)(n:Str)(st:Stmt):Prop:=∃(f:Addr)(fd:FuncData),PySem.W.nsIn K mainGlobals n=some (some (.ref f))/\Fun K n n st f fd
theorem fq_mk{n:Str}{st:Stmt}{f:Addr}{oc:Value}{od an:Option Addr}{osl:Array (Option Value)}{kV doc pm cdv ct:Value}(a:PySem.W.nsIn K mainGlobals n=some (some (.ref f)))(l:K.lookup f=some ⟨oc,od,.func (PySem.W.fnOf n n (xE_ st) (j6_ st) (qh_ st) .none kV doc pm an cdv ct),osl⟩)
  (c:PySem.W.codeIn K cdv n=true) (k:PySem.W.keepIn K (.ref f)=true):FQ K n st:=⟨f,_,a,anx_ l c k⟩
theorem FQ.x{n:Str}{st:Stmt}{h:Heap}(q:FQ K n st)(X:K.In h)(G:h.Ns mainGlobals mg):∃f fd,Fun K n n st f fd/\PySem.W.keepIn K (.ref f)=true/\mg n=some (.ref f):=by
 obtain⟨f,fd,a,F⟩:=q
 exact⟨f,fd,F,F.kp,DZ X G a⟩
end
end L2.K72
namespace L2.K72
open PySem
open L2.Pl L2.Ev
theorem of1{α:Type}{C:List α->Prop}(h:∀a0,C [a0]):∀us:List α,us.length=1->C us
 |[a0],_=>h a0
theorem of2{α:Type}{C:List α->Prop}(h:∀a0 a1,C [a0,a1]):∀us:List α,us.length=2->C us
 |[a0,a1],_=>h a0 a1
theorem of3{α:Type}{C:List α->Prop}(h:∀a0 a1 a2,C [a0,a1,a2]):∀us:List α,us.length=3->C us
 |[a0,a1,a2],_=>h a0 a1 a2
theorem of4{α:Type}{C:List α->Prop}(h:∀a0 a1 a2 a3,C [a0,a1,a2,a3]):∀us:List α,us.length=4->C us
 |[a0,a1,a2,a3],_=>h a0 a1 a2 a3
theorem all_mk{l:PySem.W.OpenLaw}{w:World}{K:PySem.W.Frag}{h:Heap}{mg:Str->Option Value}{fa:Addr}(X:K.In h)(G:h.Ns mainGlobals mg)(hfa:mg "law" = some (.ref fa))
  (q1:FQ K "refuse_bad_count" sRc)
  (q2:FQ K "gathered" aax_)
  (q3:FQ K "plus" ad7_)
  (q4:FQ K "less" aaz_)
  (q5:FQ K "multiplied" sMul)
  (q6:FQ K "swapped" aef_)
  (q7:FQ K "exchanged" aaw_)
  (q8:FQ K "refuse_bad_row" sRbr)
  (q9:FQ K "rows_up_to" sUr)
  (q10:FQ K "rows" sRw)
  (q11:FQ K "count_from" sCf)
  (q12:FQ K "turned_over" sTo)
  (q13:FQ K "turned" sTd)
  (q14:FQ K "uneven" sUn)
  (q15:FQ K "refuse_uneven" sRu)
  (q16:FQ K "orders" sOr)
  (q17:FQ K "exchange_sum" sEx)
  (q18:FQ K "falls" sFa)
  (q19:FQ K "row_of" sRf)
  (q20:FQ K "product" sPr)
  (q21:FQ K "elementary" sEl)
  (q22:FQ K "elementary_product" sEp)
  (q23:FQ K "elementary_sum" sEs)
  (q24:FQ K "whole" sWh)
  (q25:FQ K "whole_sum" sWs)
  (q26:FQ K "lines_from" sLf)
  (q27:FQ K "least_for_next" sLn)
  (q28:FQ K "with_next_line" sWn)
  (q29:FQ K "fillings" sFil)
  (q30:FQ K "powers_of" sPo)
  (q31:FQ K "filled_sum" sFs)
  (q32:FQ K "unknown_alone" sUa)
  (q33:FQ K "differences" sDf)
  (q34:FQ K "by_fillings" sBf)
  (q35:FQ K "pair" aa6_)
  (q36:FQ K "flipped" sFlp)
  (q37:FQ K "_law_cell" afa_)
  (q38:FQ K "_law_thing" abv_)
  (q39:FQ K "_law_powers" sPow)
  (q40:FQ K "_law_sum" sSum)
  (q41:FQ K "_law_orders" aff_)
  (q42:FQ K "_law_row" sRow)
  (q43:FQ K "_law_even" aea_)
  (q44:FQ K "_law_rows" sLr)
  (q45:FQ K "_law_good" ae0_)
  (q46:FQ K "_law_poly" aep_)
  (q47:FQ K "law" sLaw)
  {tk1:Tok} (g1:PySem.W.nsIn K mainGlobals "MOST_UNKNOWNS" = some (some (.int 4 tk1)))
  {tk2:Tok} (g2:PySem.W.nsIn K mainGlobals "MOST_TOGETHER" = some (some (.int 8 tk2)))
  (z1:PySem.W.nsIn K mainGlobals "sorted" = some none)
  (z2:PySem.W.nsIn K mainGlobals "range" = some none)
  (z3:PySem.W.nsIn K mainGlobals "int" = some none)
  (z4:PySem.W.nsIn K mainGlobals "len" = some none)
  (z5:PySem.W.nsIn K mainGlobals "tuple" = some none)
  (z6:PySem.W.nsIn K mainGlobals "list" = some none)
  (z7:PySem.W.nsIn K mainGlobals "any" = some none)
  (z8:PySem.W.nsIn K mainGlobals "zip" = some none)
  (z9:PySem.W.nsIn K mainGlobals "sum" = some none)
  (z10:PySem.W.nsIn K mainGlobals "enumerate" = some none)
  (z11:PySem.W.nsIn K mainGlobals "max" = some none)
  (z12:PySem.W.nsIn K mainGlobals "min" = some none)
  (z13:PySem.W.nsIn K mainGlobals "dict" = some none)
  : ∃fd:FuncData,(∀(s:Shared)(v:Value),BindsTo s fd ⟨[v],[]⟩ [("_law_script",v)])/\∀base:Heap,K.In base->base.Ns mainGlobals mg->FnOk l.prog w K mg base CX0 15 fa fd ["_law_script"] (aa2_ K):=by
 obtain⟨f1,e1,F1,k1,A1⟩:=q1.x X G
 obtain⟨f2,e2,F2,k2,A2⟩:=q2.x X G
 obtain⟨f3,e3,F3,k3,A3⟩:=q3.x X G
 obtain⟨f4,e4,F4,k4,A4⟩:=q4.x X G
 obtain⟨f5,e5,F5,k5,A5⟩:=q5.x X G
 obtain⟨f6,e6,F6,k6,A6⟩:=q6.x X G
 obtain⟨f7,e7,F7,k7,A7⟩:=q7.x X G
 obtain⟨f8,e8,F8,k8,A8⟩:=q8.x X G
 obtain⟨f9,e9,F9,k9,A9⟩:=q9.x X G
 obtain⟨f10,e10,F10,k10,A10⟩:=q10.x X G
 obtain⟨f11,e11,F11,k11,A11⟩:=q11.x X G
 obtain⟨f12,e12,F12,k12,A12⟩:=q12.x X G
 obtain⟨f13,e13,F13,k13,A13⟩:=q13.x X G
 obtain⟨f14,e14,F14,k14,A14⟩:=q14.x X G
 obtain⟨f15,e15,F15,k15,A15⟩:=q15.x X G
 obtain⟨f16,e16,F16,k16,A16⟩:=q16.x X G
 obtain⟨f17,e17,F17,k17,A17⟩:=q17.x X G
 obtain⟨f18,e18,F18,k18,A18⟩:=q18.x X G
 obtain⟨f19,e19,F19,k19,A19⟩:=q19.x X G
 obtain⟨f20,e20,F20,k20,A20⟩:=q20.x X G
 obtain⟨f21,e21,F21,k21,A21⟩:=q21.x X G
 obtain⟨f22,e22,F22,k22,A22⟩:=q22.x X G
 obtain⟨f23,e23,F23,k23,A23⟩:=q23.x X G
 obtain⟨f24,e24,F24,k24,A24⟩:=q24.x X G
 obtain⟨f25,e25,F25,k25,A25⟩:=q25.x X G
 obtain⟨f26,e26,F26,k26,A26⟩:=q26.x X G
 obtain⟨f27,e27,F27,k27,A27⟩:=q27.x X G
 obtain⟨f28,e28,F28,k28,A28⟩:=q28.x X G
 obtain⟨f29,e29,F29,k29,A29⟩:=q29.x X G
 obtain⟨f30,e30,F30,k30,A30⟩:=q30.x X G
 obtain⟨f31,e31,F31,k31,A31⟩:=q31.x X G
 obtain⟨f32,e32,F32,k32,A32⟩:=q32.x X G
 obtain⟨f33,e33,F33,k33,A33⟩:=q33.x X G
 obtain⟨f34,e34,F34,k34,A34⟩:=q34.x X G
 obtain⟨f35,e35,F35,k35,A35⟩:=q35.x X G
 obtain⟨f36,e36,F36,k36,A36⟩:=q36.x X G
 obtain⟨f37,e37,F37,k37,A37⟩:=q37.x X G
 obtain⟨f38,e38,F38,k38,A38⟩:=q38.x X G
 obtain⟨f39,e39,F39,k39,A39⟩:=q39.x X G
 obtain⟨f40,e40,F40,k40,A40⟩:=q40.x X G
 obtain⟨f41,e41,F41,k41,A41⟩:=q41.x X G
 obtain⟨f42,e42,F42,k42,A42⟩:=q42.x X G
 obtain⟨f43,e43,F43,k43,A43⟩:=q43.x X G
 obtain⟨f44,e44,F44,k44,A44⟩:=q44.x X G
 obtain⟨f45,e45,F45,k45,A45⟩:=q45.x X G
 obtain⟨f46,e46,F46,k46,A46⟩:=q46.x X G
 obtain⟨f47,fd,a47,F47⟩:=q47
 have e:=hfa.symm.trans (DZ X G a47)
 cases e
 have c_MOST_UNKNOWNS:=DZ X G g1
 have c_MOST_TOGETHER:=DZ X G g2
 have m_sorted:=BH X G z1
 have m_range:=BH X G z2
 have m_int:=BH X G z3
 have m_len:=BH X G z4
 have m_tuple:=BH X G z5
 have m_list:=BH X G z6
 have m_any:=BH X G z7
 have m_zip:=BH X G z8
 have m_sum:=BH X G z9
 have m_enumerate:=BH X G z10
 have m_max:=BH X G z11
 have m_min:=BH X G z12
 have m_dict:=BH X G z13
 refine⟨fd,λs v=>?_,λbase _ _=>?_⟩
 ·obtain⟨_,_,_,_,_,_,_,_,_,rfl,_,_⟩:=F47.ex
  exact .of_eq rfl
 have G1:=Has.mk f1 e1 (ano_ (P:=l.prog) (w:=w) (base:=base) F1 c_MOST_UNKNOWNS) (F1.binds λ_ _ _ _ _ _=>of1 λ_=>rfl) k1 A1
 have G2:=Has.mk f2 e2 (akt_ (P:=l.prog) (w:=w) (base:=base) F2 m_sorted) (F2.binds λ_ _ _ _ _ _=>of1 λ_=>rfl) k2 A2
 have G3:=Has.mk f3 e3 (aky_ F3 (G2.lift (by decide))) (F3.binds λ_ _ _ _ _ _=>of2 λ_ _=>rfl) k3 A3
 have G4:=Has.mk f4 e4 (alp_ F4 (G2.lift (by decide))) (F4.binds λ_ _ _ _ _ _=>of2 λ_ _=>rfl) k4 A4
 have G6:=Has.mk f6 e6 (al4_ (P:=l.prog) (w:=w) (mg:=mg) (base:=base) F6) (F6.binds λ_ _ _ _ _ _=>of2 λ_ _=>rfl) k6 A6
 have G7:=Has.mk f7 e7 (al0_ F7 (G2.ok) G2.bd G2.kp G2.at_ (G6.ok) G6.bd G6.kp G6.at_) (F7.binds λ_ _ _ _ _ _=>of2 λ_ _=>rfl) k7 A7
 have G8:=Has.mk f8 e8 (amt_ (P:=l.prog) (w:=w) (base:=base) F8 c_MOST_TOGETHER m_any m_zip m_sum) (F8.binds λ_ _ _ _ _ _=>of1 λ_=>rfl) k8 A8
 have G5:=Has.mk f5 e5 (ami_ F5 (G2.lift (by decide)) m_tuple m_zip) (F5.binds λ_ _ _ _ _ _=>of2 λ_ _=>rfl) k5 A5
 have G14:=Has.mk f14 e14 (apl_ F14 (G1.lift (by decide)) (G4.lift (by decide)) (G7.lift (by decide)) m_range) (F14.binds λ_ _ _ _ _ _=>of2 λ_ _=>rfl) k14 A14
 have G15:=Has.mk f15 e15 (apu_ F15 (G14.lift (by decide))) (F15.binds λ_ _ _ _ _ _=>of2 λ_ _=>rfl) k15 A15
 have G9:=Has.mk f9 e9 (ahe_ (P:=l.prog) (w:=w) (base:=base) F9 (F9.binds λ_ _ _ _ _ _=>of3 λ_ _ _=>rfl) A9 m_range m_min 9) (F9.binds λ_ _ _ _ _ _=>of3 λ_ _ _=>rfl) k9 A9
 have G10:=Has.mk f10 e10 (ama_ F10 (G9.ok) G9.bd G9.kp G9.at_) (F10.binds λ_ _ _ _ _ _=>of2 λ_ _=>rfl) k10 A10
 have G16:=Has.mk f16 e16 (agj_ (P:=l.prog) (w:=w) (base:=base) F16 (F16.binds λ_ _ _ _ _ _=>of1 λ_=>rfl) A16 m_enumerate 5) (F16.binds λ_ _ _ _ _ _=>of1 λ_=>rfl) k16 A16
 have G17:=Has.mk f17 e17 (apb_ F17 (G8.lift (by decide)) (G1.lift (by decide)) (G16.lift (by decide)) m_len) (F17.binds λ_ _ _ _ _ _=>of2 λ_ _=>rfl) k17 A17
 have G18:=Has.mk f18 e18 (aq3_ (P:=l.prog) (w:=w) (base:=base) F18 m_tuple m_sorted) (F18.binds λ_ _ _ _ _ _=>of1 λ_=>rfl) k18 A18
 have G19:=Has.mk f19 e19 (apo_ (P:=l.prog) (w:=w) (base:=base) F19 m_tuple) (F19.binds λ_ _ _ _ _ _=>of1 λ_=>rfl) k19 A19
 have G20:=Has.mk f20 e20 (aq8_ F20 (G5.lift (by decide))) (F20.binds λ_ _ _ _ _ _=>of2 λ_ _=>rfl) k20 A20
 have GL:=Has.mk f20 e20 (am9_ F20 (G5.lift (by decide))) (F20.binds λ_ _ _ _ _ _=>of2 λ_ _=>rfl) k20 A20
 have G21:=Has.mk f21 e21 (apf_ F21 (G17.lift (by decide))) (F21.binds λ_ _ _ _ _ _=>of2 λ_ _=>rfl) k21 A21
 have G22:=Has.mk f22 e22 (apg_ F22 (G21.lift (by decide)) (G20.lift (by decide)) (λn k a b c d=>(zM_ n k a b c d).1)) (F22.binds λ_ _ _ _ _ _=>of2 λ_ _=>rfl) k22 A22
 have G23:=Has.mk f23 e23 (aq1_ F23 (G8.lift (by decide)) (G1.lift (by decide)) (G22.lift (by decide))) (F23.binds λ_ _ _ _ _ _=>of2 λ_ _=>rfl) k23 A23
 have G24:=Has.mk f24 e24 (app_ F24 (G10.lift (by decide)) (G17.lift (by decide)) (G3.lift (by decide))) (F24.binds λ_ _ _ _ _ _=>of2 λ_ _=>rfl) k24 A24
 have G25:=Has.mk f25 e25 (ao1_ F25 (G8.lift (by decide)) (G1.lift (by decide)) (G24.lift (by decide)) (G20.lift (by decide)) (λn k a b c d=>(zM_ n k a b c d).2)) (F25.binds λ_ _ _ _ _ _=>of2 λ_ _=>rfl) k25 A25
 have G26:=Has.mk f26 e26 (api_ (P:=l.prog) (w:=w) (base:=base) F26 m_range m_max) (F26.binds λ_ _ _ _ _ _=>of2 λ_ _=>rfl) k26 A26
 have G27:=Has.mk f27 e27 (arb_ (P:=l.prog) (w:=w) (base:=base) F27 m_len m_tuple) (F27.binds λ_ _ _ _ _ _=>of3 λ_ _ _=>rfl) k27 A27
 have G28:=Has.mk f28 e28 (aq7_ F28 (G26.lift (by decide)) (G27.lift (by decide))) (F28.binds λ_ _ _ _ _ _=>of4 λ_ _ _ _=>rfl) k28 A28
 have G29:=Has.mk f29 e29 (any_ F29 (G8.lift (by decide)) (G1.lift (by decide)) (G28.lift (by decide)) m_len) (F29.binds λ_ _ _ _ _ _=>of2 λ_ _=>rfl) k29 A29
 have G30:=Has.mk f30 e30 (ao8_ (P:=l.prog) (w:=w) (base:=base) F30 m_tuple m_sum m_range) (F30.binds λ_ _ _ _ _ _=>of2 λ_ _=>rfl) k30 A30
 have G31:=Has.mk f31 e31 (ap3_ F31 (G2.lift (by decide)) (G30.lift (by decide)) (G29.lift (by decide))) (F31.binds λ_ _ _ _ _ _=>of2 λ_ _=>rfl) k31 A31
 have G32:=Has.mk f32 e32 (aqk_ (P:=l.prog) (w:=w) (mg:=mg) (base:=base) F32) (F32.binds λ_ _ _ _ _ _=>of2 λ_ _=>rfl) k32 A32
 have G33:=Has.mk f33 e33 (ap4_ F33 (G32.lift (by decide)) (GL.lift (by decide)) m_range) (F33.binds λ_ _ _ _ _ _=>of1 λ_=>rfl) k33 A33
 have G34:=Has.mk f34 e34 (aqp_ F34 (G15.lift (by decide)) (G5.lift (by decide)) (G33.lift (by decide)) (G18.lift (by decide)) (G19.lift (by decide)) m_tuple m_enumerate) (F34.binds λ_ _ _ _ _ _=>of2 λ_ _=>rfl) k34 A34
 have G35:=Has.mk f35 e35 (alz_ F35 (G34.lift (by decide)) m_dict m_sum) (F35.binds λ_ _ _ _ _ _=>of3 λ_ _ _=>rfl) k35 A35
 have G11:=Has.mk f11 e11 (aqj_ (P:=l.prog) (w:=w) (base:=base) F11 m_len) (F11.binds λ_ _ _ _ _ _=>of2 λ_ _=>rfl) k11 A11
 have G12:=Has.mk f12 e12 (apr_ F12 (G11.lift (by decide)) m_max m_range m_tuple) (F12.binds λ_ _ _ _ _ _=>of1 λ_=>rfl) k12 A12
 have G13:=Has.mk f13 e13 (apn_ F13 (G8.lift (by decide)) (G12.lift (by decide))) (F13.binds λ_ _ _ _ _ _=>of1 λ_=>rfl) k13 A13
 have G36:=Has.mk f36 e36 (amu_ F36 (G13.lift (by decide)) m_sorted) (F36.binds λ_ _ _ _ _ _=>of1 λ_=>rfl) k36 A36
 have G37:=Has.mk f37 e37 (alm_ (P:=l.prog) (w:=w) (base:=base) F37 m_len) (F37.binds λ_ _ _ _ _ _=>of2 λ_ _=>rfl) k37 A37
 have G38:=Has.mk f38 e38 (aj0_ (P:=l.prog) (w:=w) (mg:=mg) (base:=base) F38) (F38.binds λ_ _ _ _ _ _=>of3 λ_ _ _=>rfl) k38 A38
 have G39:=Has.mk f39 e39 (aoj_ F39 (G38.ok) G38.bd G38.kp G38.at_ m_range m_tuple) (F39.binds λ_ _ _ _ _ _=>of4 λ_ _ _ _=>rfl) k39 A39
 have G40:=Has.mk f40 e40 (an4_ (P:=l.prog) (w:=w) (base:=base) F40 m_sorted) (F40.binds λ_ _ _ _ _ _=>of1 λ_=>rfl) k40 A40
 have G41:=Has.mk f41 e41 (al6_ (P:=l.prog) (w:=w) (base:=base) F41 m_list m_range m_len) (F41.binds λ_ _ _ _ _ _=>of1 λ_=>rfl) k41 A41
 have G42:=Has.mk f42 e42 (aoe_ (P:=l.prog) (w:=w) (base:=base) F42 m_tuple m_sorted) (F42.binds λ_ _ _ _ _ _=>of1 λ_=>rfl) k42 A42
 have G43:=Has.mk f43 e43 (akz_ F43 (G41.lift (by decide)) (G40.lift (by decide)) m_list m_len) (F43.binds λ_ _ _ _ _ _=>of2 λ_ _=>rfl) k43 A43
 have G44:=Has.mk f44 e44 (ao3_ F44 (G42.lift (by decide)) (G39.lift (by decide)) m_sum m_tuple m_int) (F44.binds λ_ _ _ _ _ _=>of3 λ_ _ _=>rfl) k44 A44
 have G45:=Has.mk f45 e45 (alh_ F45 (G35.lift (by decide)) (G31.lift (by decide)) (G25.lift (by decide)) (G17.lift (by decide)) (G23.lift (by decide)) (G34.lift (by decide)) (G36.lift (by decide)) m_int m_sum) (F45.binds λ_ _ _ _ _ _=>of3 λ_ _ _=>rfl) k45 A45
 have G46:=Has.mk f46 e46 (ak6_ F46 (G42.lift (by decide)) (G39.lift (by decide)) (G38.lift (by decide)) (G40.lift (by decide)) (G43.lift (by decide))) (F46.binds λ_ _ _ _ _ _=>of2 λ_ _=>rfl) k46 A46
 exact amv_ F47 (G37.lift (by decide)) (G44.lift (by decide)) (G45.lift (by decide)) (G46.lift (by decide)) (G35.lift (by decide)) (G3.lift (by decide)) m_range m_len
theorem walk{l:PySem.W.OpenLaw}{q:Program}{loose:List Str}{XP:(Str->Option Value)->Heap->Prop}{YP:World->Heap->Prop}{d:DefRec}{K:Params->PySem.W.Frag}(hn:l.most=some 63)(hdf:d.params.defaults=[])
  (hY:∀(w:World)(h:Heap),YP w h->(K w.params).In h)
  (F:∀(w:World)(mg:Str->Option Value)(fa:Addr)(h:Heap),(K w.params).In h->h.Ns mainGlobals mg->mg d.name=some (.ref fa) ->
   ∃fd:FuncData,(∀(s:Shared)(u:Value),BindsTo s fd ⟨[u],[]⟩ [("_law_script",u)])/\∀base:Heap,(K w.params).In base->base.Ns mainGlobals mg->FnOk l.prog w (K w.params) mg base CX0 15 fa fd ["_law_script"] (aa2_ (K w.params))) :
  PySem.W.WalkO q loose XP YP l.row.toRowW d [] (λf vs=>PySem.call f vs) :=
 L2.walk_of (n:=63) (k:=15) (x := "_law_script") (CX:=λ_=>CX0) (sp:=λw=>aa2_ (K w.params)) hn (by decide) hdf ⟨rfl,by decide,by decide⟩ hY F (λ_ _ a ns hl _ hS=>⟨a,ns,rfl,hS,hl,λ_=>rfl⟩) λ_ _ _ _ _ z=>z
end L2.K72
namespace PySem.W.Fast
def tw10245007850568985309:=0
def tw10250271446163434473:=0
def tw10266069049001305939:=0
def tw10284904793394309873:=0
def tw10297118321171947583:=0
def tw10308548173941818487:=0
def tw10327464367392109957:=0
def tw1032922799774028615:=0
def tw10362732280004314081:=0
def tw10401818257116750552:=0
def tw10431804944699376383:=0
def tw10448458080890335284:=0
def tw10487068337888716289:=0
def tw10539556436438643053:=0
def tw10559575274391003604:=0
def tw10597582072298645663:=0
def tw10727074180875076916:=0
def tw10793337104654809205:=0
def tw10812979650580621449:=0
def tw1090990728139747742:=0
def tw11088529140594200526:=0
def tw11148890596026475084:=0
def tw11150339080279231509:=0
def tw11177772452371921389:=0
def tw11242925711606904933:=0
def tw11289810988278663802:=0
def tw11323479935453866009:=0
def tw11398010652913219265:=0
def tw11469918905695834870:=0
def tw11511602766625742119:=0
def tw11580384340203849541:=0
def tw11659448367683638504:=0
def tw1170175706969093884:=0
def tw11737991570700561330:=0
def tw11844328837777452896:=0
def tw11951339111446949630:=0
def tw11995988008304133018:=0
def tw11998035143602067948:=0
def tw12105374707999751019:=0
def tw12113616069282758787:=0
def tw12126556162702310487:=0
def tw12186479608316689032:=0
def tw12187576074442577402:=0
def tw12211781526168058225:=0
def tw12258381229725202750:=0
def tw12277580274759579250:=0
def tw12282799498801184013:=0
def tw12354643940493885273:=0
def tw12393017679711109829:=0
def tw12406019958158315949:=0
def tw12426457728242197028:=0
def tw12440418557718707870:=0
def tw12456819403894962163:=0
def tw12506698215887661165:=0
def tw12537969249557922687:=0
def tw12661391592136959720:=0
def tw12833958489763343126:=0
def tw12851986622972608732:=0
def tw12904033817073834402:=0
def tw12967326576309696362:=0
def tw12971958936435921402:=0
def tw13055080264416810583:=0
def tw13080418819732167421:=0
def tw13119766120061044906:=0
def tw13235479564119958414:=0
def tw13341275738072576307:=0
def tw13444053618518251088:=0
def tw13497609524389322766:=0
def tw13530830973968742686:=0
def tw13542989420773364344:=0
def tw13599555933629766213:=0
def tw13608434382356312870:=0
def tw13691844717283562310:=0
def tw13698937589392825138:=0
def tw13704409916810716036:=0
def tw13768178583091910844:=0
def tw1377602005304503075:=0
def tw1392434540208209267:=0
def tw14026576909710350077:=0
def tw14119178925043706772:=0
def tw14175749434733410675:=0
def tw14235830271008552883:=0
def tw14252844693979608664:=0
def tw14272504932521965437:=0
def tw14278817233062984549:=0
def tw14336135061894042097:=0
def tw14388580741489004224:=0
def tw14512867233311847984:=0
def tw14548308902914461443:=0
def tw14565876836113599464:=0
def tw14673999790752087643:=0
def tw14756827344324625756:=0
def tw14803007064512311039:=0
def tw14803193452623172618:=0
def tw14827823750889472874:=0
def tw14836701208208763678:=0
def tw148442506065066615:=0
def tw15027299555389998607:=0
def tw15098058953813259023:=0
def tw15145492481845813615:=0
def tw15191157720437297198:=0
def tw15207577381892778306:=0
def tw15218678068942813129:=0
def tw15225650185478064518:=0
def tw15259397953954083036:=0
def tw15309437705443015893:=0
def tw15313358104259157087:=0
def tw15417670693723924851:=0
def tw15440626358692810876:=0
def tw15560102471532999510:=0
def tw15616474828512924375:=0
def tw15637895572151471224:=0
def tw15646435853986165488:=0
def tw15650909660912262714:=0
def tw15714902858418854131:=0
def tw15754990994508984694:=0
def tw15803042453404485224:=0
def tw15856167768172545033:=0
def tw1588383100212522931:=0
def tw15986575312523690309:=0
def tw16108726097586023319:=0
def tw16142471763502143588:=0
def tw16169933515879545859:=0
def tw16364451502453304118:=0
def tw16367972533553020340:=0
def tw16430443334864352599:=0
def tw16436999408741600248:=0
def tw16457015125712824607:=0
def tw16477625001170681030:=0
def tw1658787744803961497:=0
def tw16594462628209951807:=0
def tw16673647363862626130:=0
def tw16678242269092922212:=0
def tw1676105904904790365:=0
def tw16809059128495429786:=0
def tw16852248945976596980:=0
def tw16913776845554465006:=0
def tw16952186026108483007:=0
def tw17009331780035037394:=0
def tw1700942233920837745:=0
def tw17014440500353012097:=0
def tw17022571431128768863:=0
def tw17048519271689930635:=0
def tw17101437986962586967:=0
def tw17103845791444106500:=0
def tw17124144314321457907:=0
def tw1717412842913461158:=0
def tw17176231632722330587:=0
def tw17201694114053999254:=0
def tw17237732984215978390:=0
def tw17251369348432375911:=0
def tw17307839812343345919:=0
def tw17357206708217850211:=0
def tw17375118535097128002:=0
def tw1738186641181178189:=0
def tw17452114660581975545:=0
def tw17501167185093736245:=0
def tw17507146365400643814:=0
def tw17545101342404182239:=0
def tw17564337339816660576:=0
def tw17727551766730732545:=0
def tw17766446935522087008:=0
def tw17773675392473006320:=0
def tw17790075235801494480:=0
def tw17818011685845262697:=0
def tw17968188858754796706:=0
def tw18028073927450418473:=0
def tw1811800154575279891:=0
def tw18154473636451274329:=0
def tw18261844134510174081:=0
def tw18270679680278890566:=0
def tw18292819306357182631:=0
def tw18333238267563554681:=0
def tw18425017050314942674:=0
def tw18446634928539950986:=0
def tw1877807630139530813:=0
def tw1895018886955449643:=0
def tw2022208163879597646:=0
def tw2057601691636964832:=0
def tw2093810057216404134:=0
def tw2319760240240390017:=0
def tw2434081834692861661:=0
def tw2471839456466841132:=0
def tw2519715769607176031:=0
def tw2521766905013325212:=0
def tw2539801000490445844:=0
def tw2563784357967398295:=0
def tw2692763555159374171:=0
def tw2747518117908378202:=0
def tw2767144991377957229:=0
def tw2807619873177159481:=0
def tw2818834854926472639:=0
def tw2830686597410262896:=0
def tw2887589541965399159:=0
def tw2898401478418619865:=0
def tw2946554781722044219:=0
def tw2999568899008812307:=0
def tw310288973902188728:=0
def tw3103550879693637428:=0
def tw3118656289739443047:=0
def tw3126054533712002547:=0
def tw3138433400515550127:=0
def tw3145061591891678904:=0
def tw320642015735418958:=0
def tw3268417244515449236:=0
def tw327131183003691906:=0
def tw3289442443740363380:=0
def tw3304554717646494282:=0
def tw3319397240982259124:=0
def tw3369077804231057526:=0
def tw3371889039996073738:=0
def tw3398939264077356734:=0
def tw342638842611571220:=0
def tw3445208411370397909:=0
def tw3469832972212901245:=0
def tw3618344012974638503:=0
def tw3670792595373897541:=0
def tw3775361603583002170:=0
def tw3934439213181221619:=0
def tw3955041288997608498:=0
def tw397793500633412159:=0
def tw4016527982344609999:=0
def tw4078853560070839005:=0
def tw4134086882719496522:=0
def tw4283391749805936646:=0
def tw4300271688658050924:=0
def tw4339621473869082705:=0
def tw4408160638590555382:=0
def tw4424264722397232923:=0
def tw4464611558400689104:=0
def tw4478667634138061011:=0
def tw4506650424843022069:=0
def tw4633068813129531092:=0
def tw4645674386889037818:=0
def tw4727004412175222844:=0
def tw4754838659714437081:=0
def tw4766089066188155252:=0
def tw4805526855254081603:=0
def tw4869037646568817799:=0
def tw4994265366192734231:=0
def tw5035770356867863676:=0
def tw5050420378338698585:=0
def tw5161154456264300855:=0
def tw5206098652206876050:=0
def tw5210306321120155681:=0
def tw5340765701452990419:=0
def tw5359547651012712999:=0
def tw5361958960250432599:=0
def tw5413582580172173080:=0
def tw5447866251449873912:=0
def tw5460012639748471278:=0
def tw5473525581188960674:=0
def tw5479141955857532537:=0
def tw5487247414491001241:=0
def tw5521489307102038803:=0
def tw5592044580827995404:=0
def tw5602942589924174470:=0
def tw56223195319229943:=0
def tw5785014002663116758:=0
def tw6011667508501746631:=0
def tw6016805915138606023:=0
def tw6126985259596810975:=0
def tw6173649695735847369:=0
def tw6273581091594416474:=0
def tw6423647369460315813:=0
def tw6447198711251343746:=0
def tw6458472653684172730:=0
def tw6530115256556536785:=0
def tw6537742397165628963:=0
def tw6594944409160788761:=0
def tw6697913861700900254:=0
def tw6726067276001970873:=0
def tw67541030653611174:=0
def tw677287088530736494:=0
def tw6842422518642065342:=0
def tw6873451541684060288:=0
def tw6905727546797019655:=0
def tw6984424111872341216:=0
def tw7012319865125657616:=0
def tw7016748424365324215:=0
def tw7024552194594014446:=0
def tw7046806361755134154:=0
def tw7080411808054610011:=0
def tw7137152803318658046:=0
def tw7173848965716205969:=0
def tw7355114639191743385:=0
def tw7369384593509975176:=0
def tw7478306000037906187:=0
def tw7537201663117554661:=0
def tw7606567373038273460:=0
def tw7717186990562893108:=0
def tw7723447891043648528:=0
def tw7727266780589716170:=0
def tw7745601528894676479:=0
def tw7793852616514388887:=0
def tw7858623743920793082:=0
def tw7873385308853874925:=0
def tw7903306053922935257:=0
def tw7922086263457396685:=0
def tw7973723667160078079:=0
def tw8147972723225106828:=0
def tw815550242831823405:=0
def tw8163770334847570096:=0
def tw8180722708346868435:=0
def tw822520969128844709:=0
def tw8259302406607567113:=0
def tw8267286772486991081:=0
def tw8387687236682817346:=0
def tw8396004790338844716:=0
def tw842230647409235503:=0
def tw846062155301871434:=0
def tw8527830763339859945:=0
def tw8533759339654687925:=0
def tw8660318733142415956:=0
def tw8758177134313465186:=0
def tw8901271085319569801:=0
def tw8904586830605109054:=0
def tw8930803431290957153:=0
def tw898718610187073234:=0
def tw9102433769487786379:=0
def tw9107250163071509958:=0
def tw9160834880147097775:=0
def tw9171448770806799874:=0
def tw9192893482961207345:=0
def tw9239568540276186399:=0
def tw9294020779204950590:=0
def tw9300600351419837035:=0
def tw9324189996365808400:=0
def tw9352446648206274325:=0
def tw9365282182488484033:=0
def tw9375071349063076876:=0
def tw9414357905529509938:=0
def tw9439333947972029480:=0
def tw9494059204053198748:=0
def tw9500060096526492185:=0
def tw9532756071195476651:=0
def tw9587147211163259382:=0
def tw973191190275084557:=0
def tw9843622588077079839:=0
def tw9844843271517963499:=0
def tw9858189361398847492:=0
def tw9873690296262630134:=0
def tw9875854137933368846:=0
def tw9898637151507540103:=0
def tw99047516344109609:=0
def tw9962880918252132124:=0
end PySem.W.Fast
open PySem PySem.W PyProof.Rows
set_option maxRecDepth 100000 in
set_option maxHeartbeats 0 in
theorem PySem.Challenge.cw_evenform_k72_whole_pairing_holds : PySem.Challenge.rw_evenform_k72_whole_pairing.Holds := by
  w_on; o_law; k_head; (case hw => w_witness2)
  k_fill
  refine L2.K72.walk (l := PySem.Challenge.rw_evenform_k72_whole_pairing) rfl rfl (fun w h Y => PySem.W.kIn_of Y) ?F
  case F =>
    intro w mg fa h KX G hmg
    refine' L2.K72.all_mk KX G hmg ?q1 ?q2 ?q3 ?q4 ?q5 ?q6 ?q7 ?q8 ?q9 ?q10 ?q11 ?q12 ?q13 ?q14 ?q15 ?q16 ?q17 ?q18 ?q19 ?q20 ?q21 ?q22 ?q23 ?q24 ?q25 ?q26 ?q27 ?q28 ?q29 ?q30 ?q31 ?q32 ?q33 ?q34 ?q35 ?q36 ?q37 ?q38 ?q39 ?q40 ?q41 ?q42 ?q43 ?q44 ?q45 ?q46 ?q47 ?g1 ?g2 ?z1 ?z2 ?z3 ?z4 ?z5 ?z6 ?z7 ?z8 ?z9 ?z10 ?z11 ?z12 ?z13
    all_goals try (refine' L2.K72.fq_mk ?a ?l ?c ?k; (case a => k_is); (case l => k_is); (case c => k_is); (case k => k_is))
    (case g1 => k_is)
    (case g2 => k_is)
    all_goals k_is
