import PyProof.Rows.All
import Wide.All
import OpenK.AllK
import Wide.FinOn
import Lean
import PyProof.EqAt
import PyProof.EqKinds
import PyProof.TupleCall
import PyProof.Rows.SortRuns
import PyProof.DictItems
import PyProof.DictWalks
import PyProof.CollectIter
import PyProof.Rows.SortRev
import KE.KSortTup
import KE.KDictList
import OpenK.KOwn
import PyProof.NsDelKeeps
import PyProof.RulesAs
import KE.KIsAll
import PyProof.ExcArgsOwn
import KE.KMinBuiltin
import PyProof.Draws
import PyProof.EnumMake
import PyProof.Rows.EnumRows
import PyProof.ListMulRoad
import PyProof.EqAt
import PyProof.ListRange
import PyProof.EnumStmt
import KE.KRevIter
import KE.KSortTup
import KE.KDictList
import KE.KItemsList
import PyProof.Rows.SortRev
import PyProof.DictItems
import PyProof.DictWalks
import PyProof.CollectIter
import PySem.Challenge.RW_evenform_k62_whole_fillings_that_count
set_option Elab.async false
set_option linter.all false
def AA:=@List.length_map
def AB:=@PySem.Heap.get?_push_of_some
def AC:=@List.mem_cons_of_mem
def AD:=@List.mem_cons_self
def AE:=@List.getElem?_eq_getElem
def AF:=@List.getD_eq_getElem?_getD
def AG:=@Bool.and_eq_true
def AH:=@Nat.le_refl
def AI:=@List.all_eq_true
def AJ:=@Array.getElem?_eq_getElem
def AK:=@List.length_append
def AL:=@PySem.Heap.get?_push_size
def AM:=@PySem.Heap.lt_size
def AN:=@List.mem_cons
def AO:=@Array.length_toList
def AQ:=@List.size_toArray
def AR:=@List.getElem?_eq_some_iff
def AS:=@Bool.false_ne_true
def AT:=@PySem.Paired.length
def AU:=@PyProof.Rows.boot_isinstance
def AV:=@List.mem_map
def AW:=@Option.some.inj
def AX:=@List.append_assoc
def AY:=@List.length_cons
def AZ:=@Nat.lt_of_lt_of_le
def Aa:=@List.map_cons
def Ab:=@List.pairwise_cons
def Ac:=@List.getElem?_map
def Ad:=@List.mem_range
def Ae:=@Nat.zero_le
def Af:=@Nat.ne_of_lt
def Ag:=@Nat.le_trans
def Ah:=@List.mem_of_getElem?
def Ai:=@List.mem_append_right
def Aj:=@List.take_of_length_le
def Al:=@PySem.boot_len
def Am:=@List.mem_singleton
def An:=@List.length_take
def Ao:=@PySem.PassesOwn.never
def Ap:=@List.mem_append
def Aq:=@List.sum_cons
def Ar:=@List.filter_cons
def As:=@Array.getElem?_toList
def At:=@Int.toNat_natCast
def Au:=@Bool.false_eq_true
def Av:=@PySem.W.mg_none_of
def Aw:=@PySem.Heap.get?_update_other
def Ax:=@List.replicate_succ
def Ay:=@List.flatMap_cons
def Az:=@List.mem_append_left
def BA:=@List.lookup_cons
def BB:=@List.mem_flatMap
def BC:=@PySem.W.mg_of
def BD:=@List.length_eq_zero_iff
def BE:=@Array.toList_append
def BF:=@List.mem_of_mem_take
def BG:=@PyProof.Rows.callWith_type1
def BH:=@Nat.lt_of_le_of_lt
def BI:=@PySem.Heap.get?_update_self
def BJ:=@PyProof.Rows.boot_sum
def BK:=@Array.getElem?_eq_some_iff
def BL:=@List.Perm.append_right
def BM:=@List.filterMap_eq_map'
def BN:=@List.dropLast_concat_getLast
def BO:=@List.mem_filter
def BP:=@List.append_nil
def BQ:=@PyProof.Rows.slot_tuple_getitem
def BR:=@List.find?_cons
def BS:=@PySem.Obj.data_mapFields
def BU:=@List.map_append
def BV:=@List.pairwise_iff_getElem
def BW:=@List.filterMap_cons
def BX:=@Nat.le_of_lt
def BY:=@Ne.symm
def BZ:=@List.length_singleton
def Ba:=@List.take_append_drop
def Bb:=@List.Perm.append_left
def Bc:=@PySem.W.kia_one
def Be:=@PyProof.Rows.boot_tuple
def Bf:=@List.length_drop
def Bg:=@List.not_mem_nil
def Bh:=@Nat.lt_irrefl
def Bi:=@PySem.Heap.size_push
def Bj:=@List.flatten_cons
def Bl:=@Nat.add_le_add_left
def Bm:=@List.foldl_cons
def Bn:=@List.length_replicate
def Bo:=@List.getElem?_eq_none
def Bp:=@List.getElem_mem
def Bq:=@PySem.F.slot_dict_keyiterator_next
def Br:=@PySem.F.plainAttrs_list
def Bt:=@List.length_range
def Bu:=@List.length_nil
def Bv:=@PySem.Heap.SameBut.update
def Bw:=@List.map_congr_left
def Bx:=@List.length_reverse
def By:=@List.range_succ_eq_map
def Bz:=@List.perm_append_comm
def B2:=@PySem.Obj.isFreed_of_fields
def B3:=@List.drop_eq_getElem_cons
def B4:=@List.nodup_cons
def B5:=@List.range_succ
def B6:=@List.mem_of_mem_drop
def B7:=@Array.toList_reverse
def B8:=@Int.emod_nonneg
def B9:=@Nat.le_succ
def CA:=@List.zipWith_cons_cons
def CB:=@PySem.F.slot_tuple_mul
def CC:=@Int.le_refl
def CD:=@PyProof.Rows.boot_list
def CF:=@Nat.ne_of_gt
def CG:=@PySem.Calls.spliced_cons
def CH:=@List.zip_cons_cons
def CI:=@List.map_map
def CJ:=@Int.emod_lt_of_pos
def CK:=@Bool.or_eq_true
def CL:=@List.any_cons
def CM:=@PySem.F.slot_tuple_iterator_next
def CN:=@List.pairwise_map
def CO:=@List.pairwise_append
def CP:=@Nat.mul_le_mul_right
def CQ:=@List.take_zero
def CS:=@Int.zero_add
def CT:=@PySem.F.slot_list_append
def CU:=@PySem.F.type_list_append
def CV:=@PySem.mem_of_lookup
def CW:=@List.getElem_of_mem
def CY:=@List.take_succ_cons
def CZ:=@List.flatMap_append
def Ca:=@List.getElem?_range
def Cb:=@Int.mul_assoc
def Cc:=@List.nil_append
def Cd:=@Nat.min_eq_left
def Ce:=@List.getElem?_set_self
def Cf:=@PySem.Calls.callWith_builtin
def Cg:=@Array.getElem?_eq_none
def Ch:=@List.flatMap_singleton
def Ci:=@List.reverse_cons
def Cj:=@Array.toList_push
def Ck:=@List.ext_getElem?
def Cm:=@List.drop_zero
def Cn:=@PySem.Calls.evalArgs_plain
def Co:=@List.drop_length
def Cp:=@List.reverse_reverse
def Cq:=@Nat.le_add_right
def Cr:=@Nat.pow_le_pow_right
def Cs:=@List.getElem?_append_right
def Ct:=@Bool.false_or
def Cu:=@PySem.F.excBase_ValueError
def Cv:=@List.reverse_append
def Cw:=@Bool.eq_iff_iff
def Cy:=@List.getElem?_append_left
def Cz:=@List.forIn_cons
def C1:=@PySem.F.args_tuple_add_2
def C2:=@List.map_nil
def C3:=@Nat.succ_mul
def C4:=@Array.size_setIfInBounds
def C5:=@PySem.F.args_tuple_mul_2
def C6:=@Bool.and_false
def C7:=@List.getElem?_replicate
def C8:=@PySem.F.entry_tuple_add
def C9:=@List.pairwise_singleton
def DA:=@PySem.F.entry_tuple_mul
def DB:=@PySem.Obj.cls_mapFields
def DC:=@PySem.F.slot_tuple_add
def DD:=@Int.add_mul
def DE:=@List.all_cons
def DF:=@Bool.not_true
def DG:=@List.cons_append
def DH:=@List.take_length
def DI:=@Option.bind_some
def DJ:=@PySem.F.slot_dict_get
def DK:=@List.getElem?_reverse
def DL:=@PyProof.Rows.boot_max
def DM:=@Array.getElem?_setIfInBounds_ne
def DN:=@List.getElem?_set_ne
def DO:=@List.length_set
def DP:=@Nat.mul_comm
def DQ:=@PySem.F.args_dict_keyiterator_next_1
def DR:=@PySem.W.kat_nil
def DS:=@PySem.F.slot_zip_next
def DT:=@Int.mul_comm
def DU:=@List.mem_of_getLast?
def DV:=@List.Nodup.length_le_of_subset
def DW:=@List.sum_append
def DX:=@PySem.F.entry_dict_keyiterator_next
def DY:=@PySem.W.hideAll_get
def DZ:=@PyProof.Rows.lt_int
def Da:=@Int.toNat_of_nonneg
def Db:=@PySem.F.args_tuple_iterator_next_1
def Dc:=@List.forIn_nil
def Dd:=@PySem.W.of_hideAll
def De:=@List.mem_filterMap
def Df:=@PySem.SeqAt.EqAt.int_int
def Dg:=@Array.size_extract
def Dh:=@List.getElem?_drop
def Di:=@PySem.F.entry_tuple_iterator_next
def Dj:=@List.mem_replicate
def Dk:=@PySem.Calls.Name_function_global
def Dl:=@Array.perm_iff_toList_perm
def Dm:=@Nat.mul_lt_mul_of_lt_of_lt
def Dn:=@Nat.mul_lt_mul_of_pos_left
def Do:=@PySem.F.slot_tuple_getitem
def Dp:=@PyProof.Rows.boot_reversed
def Dq:=@List.take_sublist
def Dr:=@PySem.SeqAt.RcAt.tuples
def Ds:=@List.foldl_append
def Dt:=@Bool.not_eq_true'
def Du:=@PySem.F.plain_extend_loop
def Dv:=@List.filterMap_eq_nil_iff
def Dw:=@List.getElem?_take_of_lt
def Dx:=@PySem.AutoSeq1.sub_tuple_tuple
def Dy:=@Prod.ext
def Dz:=@Nat.min_self
def D0:=@List.zipIdx_cons
def D1:=@PySem.W.kat_cons
def D3:=@PySem.Heap.size_update
def D4:=@List.map_reverse
def D5:=@Option.getD_some
def D6:=@PySem.F.slot_tuple_count
def D7:=@Bool.not_eq_true
def D8:=@PySem.F.args_tuple_lt_2
def D9:=@PySem.F.args_dict_get_3
def EA:=@Nat.add_sub_cancel_left
def EB:=@PySem.F.plain_list_iadd
def EC:=@PySem.F.slot_tuple_rmul
def ED:=@List.getLast?_singleton
def EE:=@List.of_mem_zip
def EF:=@PySem.W.kat_yes
def EG:=@PySem.W.kat_one
def EI:=@PyProof.noPylong_small
def EJ:=@PySem.W.cellsFrom_some
def EK:=@PySem.F.entry_tuple_lt
def EL:=@PySem.Paired.snoc
def EM:=@PySem.F.entry_dict_get
def EN:=@Array.getElem?_extract
def EO:=@List.getElem_cons_drop
def EQ:=@List.map_id
def ER:=@Int.mul_add
def ES:=@Int.one_mul
def ET:=@List.filter_eq_nil_iff
def EU:=@Bool.false_and
def EV:=@PySem.F.slot_tuple_lt
def EW:=@Array.mem_of_getElem?
def EX:=@List.pairwise_and_iff
def EY:=@PySem.W.kat_no
def EZ:=@List.filterMap_append
def Ea:=@PySem.F.slot_int_rmul
def Eb:=@List.mem_iff_getElem?
def Ec:=@PyProof.Rows.boot_any
def Ed:=@List.eq_replicate_iff
def Ee:=@Nat.mul_le_mul
def Ef:=@Nat.not_lt
def Ei:=@List.getLast?_append
def Ej:=@List.drop_eq_nil_iff
def Ek:=@List.filter_sublist
def El:=@Nat.add_comm
def Em:=@List.all_map
def En:=@Nat.sub_zero
def Eo:=@Int.add_comm
def Ep:=@Int.sub_zero
def Er:=@Nat.pow_add
set_option maxRecDepth 100000
namespace L2
open PySem PySem.Spec PyProof.Rows
abbrev Key:=Sum Int Str
def yo_:Key->Value->Bool
 |.inl k,v=>Value.isInt k v
 |.inr x,v=>Value.isStrOf x v
def keyH(w:World):Key->Int
 |.inl k=>hashInt k
 |.inr x=>hashStr w x
theorem q2_:∀{k:Key}{v:Value},yo_ k v=true->(∃i t,k=Sum.inl i/\v=Value.int i t)∨(∃x t,k=Sum.inr x/\v=Value.str x t)
 |.inl i,v,h=>by
  obtain⟨t,e⟩:=Value.isInt_shape (k:=i) (v:=v) h
  exact .inl ⟨i,t,rfl,e⟩
 |.inr x,v,h=>by
  obtain⟨t,e⟩:=Value.isStrOf_shape (x:=x) (v:=v) h
  exact .inr ⟨x,t,rfl,e⟩
theorem aed_(i:Int)(t:Tok):yo_ (.inl i) (.int i t)=true:=by simp [yo_,Value.isInt]
theorem af3_(x:Str)(t:Tok):yo_ (.inr x) (.str x t)=true:=by simp [yo_,Value.isStrOf]
theorem aku_(a b:Int):decide ((Sum.inl a:Key)=Sum.inl b)=(a==b):=by
 by_cases e:a=b
 ·subst e;simp
 ·have h:¬ (Sum.inl a:Key)=Sum.inl b:=λq=>e (Sum.inl.inj q)
  rw[decide_eq_false h]
  exact(beq_eq_false_iff_ne.mpr e).symm
theorem amp_(a b:Str):decide ((Sum.inr a:Key)=Sum.inr b)=decide (a=b):=by
 by_cases e:a=b
 ·subst e;simp
 ·have h:¬ (Sum.inr a:Key)=Sum.inr b:=λq=>e (Sum.inr.inj q)
  rw[decide_eq_false h,decide_eq_false e]
theorem ak5_(a:Int)(b:Str):decide ((Sum.inl a:Key)=Sum.inr b)=false:=decide_eq_false (λq=>nomatch q)
theorem anm_(a:Str)(b:Int):decide ((Sum.inr a:Key)=Sum.inl b)=false:=decide_eq_false (λq=>nomatch q)
def qV_(prog:Program)(w:World):PySem.KeyKind prog w Key where
 is:=yo_
 hash:=keyH w
 inj:=λv a b ha hb=>by
  rcases q2_ ha with⟨i,t,rfl,rfl⟩|⟨x,t,rfl,rfl⟩
  ·rcases q2_ hb with⟨j,u,rfl,e⟩|⟨y,u,rfl,e⟩
   ·injection e with e1 _;rw[e1]
   ·exact nomatch e
  ·rcases q2_ hb with⟨j,u,rfl,e⟩|⟨y,u,rfl,e⟩
   ·exact nomatch e
   ·injection e with e1 _;rw[e1]
 byValue:=λk v h=>by
  rcases q2_ h with⟨i,t,rfl,rfl⟩|⟨x,t,rfl,rfl⟩<;>rfl
 pyHash:=λhv h=>by
  rcases q2_ hv with⟨i,t,rfl,rfl⟩|⟨x,t,rfl,rfl⟩
  ·exact wpAny_pyHash_int h
  ·exact wpAny_pyHash_str h
 eqBool:=λhu hv h=>by
  rcases q2_ hu with⟨i,t,rfl,rfl⟩|⟨x,t,rfl,rfl⟩
  ·rcases q2_ hv with⟨j,u,rfl,rfl⟩|⟨y,u,rfl,rfl⟩
   ·rw[aku_]at h;exact wpAny_eqBool_int h
   ·rw[ak5_]at h;exact SeqAt.EqAt.int_str i t y u _ _ _ _ h
  ·rcases q2_ hv with⟨j,u,rfl,rfl⟩|⟨y,u,rfl,rfl⟩
   ·rw[anm_]at h;exact SeqAt.EqAt.str_int x t j u _ _ _ _ h
   ·rw[amp_]at h;exact wpAny_eqBool_str h
 «strs»:=λk x t v h=>by
  rcases q2_ h with⟨i,u,rfl,e⟩|⟨y,u,rfl,e⟩
  ·exact nomatch e
  ·injection e with e1 _
   subst e1
   cases v<;>rfl
theorem ab7_(prog:Program)(w:World)(i:Int)(t:Tok):(qV_ prog w).is (.inl i) (.int i t)=true:=aed_ i t
theorem ab5_(prog:Program)(w:World)(x:Str)(t:Tok):(qV_ prog w).is (.inr x) (.str x t)=true:=af3_ x t
end L2
namespace L2
open PySem PySem.Spec PyProof.Rows
inductive V where
 |non|bl (b:Bool)|int (i:Int)|str (x:Str)|byt (b:Array UInt8)|flt (b:UInt64)|ref (a:Addr)|ty (n:String)
 deriving DecidableEq
def RelV:V->Value->Prop
 |.non,u=>u=Value.none
 |.bl b,u=>u=Value.bool b
 |.int i,u=>∃t,u=Value.int i t
 |.str x,u=>∃t,u=Value.str x t
 |.byt b,u=>∃t,u=Value.bytes b t
 |.flt b,u=>∃t,u=Value.float b t
 |.ref a,u=>u=Value.ref a
 |.ty n,u=>u=Value.type n
abbrev Vals:List V->List Value->Prop:=Paired RelV
theorem Vals.length{xs:List V}{us:List Value}(r:Vals xs us):xs.length=us.length:=AT r
theorem Vals.get:∀{xs:List V}{us:List Value}{i:Nat}{x:V},Vals xs us->xs[i]?=some x->∃u,us[i]?=some u/\RelV x u
 |_,_,_,_,.nil,e=>by simp at e
 |_,_,0,_,.cons r _,e=>by simp at e;subst e;exact⟨_,rfl,r⟩
 |_,_,i+1,x,.cons _ t,e=>by
  obtain⟨u,h1,h2⟩:=Vals.get (i:=i) (x:=x) t (by simpa using e)
  exact⟨u,by simpa using h1,h2⟩
theorem Vals.set{x:V}{u:Value}(r:RelV x u):∀{xs:List V}{us:List Value}(i:Nat),Vals xs us->Vals (xs.set i x) (us.set i u)
 |_,_,_,.nil=>.nil
 |_,_,0,.cons _ t=>.cons r t
 |_,_,i+1,.cons q t=>.cons q (Vals.set r i t)
theorem Vals.append:∀{xs ys:List V}{us ws:List Value},Vals xs us->Vals ys ws->Vals (xs++ys) (us++ws)
 |_,_,_,_,.nil,s=>s
 |_,_,_,_,.cons r t,s=>.cons r (Vals.append t s)
theorem Vals.take:∀{xs:List V}{us:List Value}(n:Nat),Vals xs us->Vals (xs.take n) (us.take n)
 |_,_,0,_=>.nil
 |_,_,_+1,.nil=>.nil
 |_,_,n+1,.cons r t=>.cons r (Vals.take n t)
theorem Vals.drop:∀{xs:List V}{us:List Value}(n:Nat),Vals xs us->Vals (xs.drop n) (us.drop n)
 |_,_,0,r=>r
 |_,_,_+1,.nil=>.nil
 |_,_,n+1,.cons _ t=>Vals.drop n t
def RelO:Option V->Option Value->Prop
 |some v,some u=>RelV v u
 |none,none=>True
 |_,_=>False
def KV{κ:Type}:List (κ×V)->List (κ×Value)->Prop:=Paired λ(p:κ×V)(q:κ×Value)=>p.1=q.1/\RelV p.2 q.2
def kV:Key->V
 |.inl i=>.int i
 |.inr x=>.str x
inductive HO where
 |lst (xs:List V)
 |tup (xs:List V)
 |dK (kvs:List (Key×V))|dT (kvs:List (List Key×V))
 |set (S:Int->Bool) (n:Nat)
 |ins (C dx:Addr) (fs:List (Str×V))
 |own (x:Addr)
 |xd (fs:List (Str×V))
 |met (f x:Addr)
 |rng (lo hi:Int)
 |frz (o:Obj) (u:HO)
 |tbl (ps:Array Value)
 |ext (φ:Heap->Prop)
abbrev Hp:=Addr->Option HO
def upd(H:Hp)(a:Addr)(o:HO):Hp:=λb=>if b=a then some o else H b
theorem qc_{H:Hp}{a:Addr}{o:HO}:upd H a o a=some o:=by unfold upd;rw[if_pos rfl]
theorem ql_{H:Hp}{a b:Addr}{o:HO}(h:b≠a):upd H a o b=H b:=by unfold upd;rw[if_neg h]
theorem zW_{H:Hp}{a b:Addr}{o u:HO}(h:H a=some o)(h':H b=some u)(d:o≠u):a≠b:=by
 intro e;subst e;rw[h]at h';exact d (AW h')
theorem qA_{H:Hp}{a b:Addr}{o:HO}(h:H a=some o)(h':H b=none):a≠b:=by
 intro e;subst e;rw[h]at h';cases h'
def TupN(h:Heap)(a:Addr)(items:Array Value):Prop:=∃o,h.get? a=some o/\o.cls=.type "tuple" /\ ∃n,o.data=.seq items n/\o.dict=none
theorem TupN.tup{h:Heap}{a:Addr}{items:Array Value}(x:TupN h a items):IsTup h a items:=let ⟨o,e,c,n,d,_⟩:=x;⟨o,e,c,n,d⟩
theorem TupN.new(h:Heap)(items:Array Value):TupN (h.push { cls:=.type "tuple",data:=.seq items }) h.objs.size items:=⟨_,AL _ rfl,rfl,0,rfl,rfl⟩
section
variable(P:Program)(w:World)
def ObjOk(H:Hp)(h:Heap)(a:Addr):HO->Prop
 |.lst xs=>xs.length<=sizeLine/\∃(its:List Value)(n:Nat),Vals xs its/\h.get? a=some { cls:=.type "list",data:=.seq its.toArray n }
 |.tup xs=>xs.length<=sizeLine/\∃its:List Value,Vals xs its/\TupN h a its.toArray
 |.dK kvs=>kvs.length<=sizeLine/\(a==sysModules)=false/\∃vs,KV kvs vs/\h.DictOf (qV_ P w) a vs
 |.dT kvs=>kvs.length<=sizeLine/\(a==sysModules)=false/\∃xs:List (List Key×Addr×Value),
   Paired (λ(p:List Key×V)(q:List Key×Addr×Value)=>p.1=q.1/\H q.2.1=some (.tup (p.1.map kV))/\RelV p.2 q.2.2) kvs xs /\
   ∃o es ep,h.get? a=some o/\o.ExactDict/\o.data=.dict es ep/\es.toList=xs.map (entryOfKey (tupleKind (qV_ P w)))/\(xs.map (·.1)).Nodup
 |.set S n=>h.SetOf (intKind P w) a S n
 |.ins C dx fs=>H dx=some (.own a)/\fs.length<=1000/\dx≠a/\h.get? a=some (PySem.W.instObj C dx) /\
   ∃mA,h.Ns1 dx mA/\(∀f,RelO (fs.lookup f) (mA f))/\PySem.Within mA (fs.map (·.1))
 |.own _=>∃o,h.get? a=some o
 |.xd fs=>∃mA,h.Ns1 a mA/\∀f,RelO (fs.lookup f) (mA f)
 |.rng lo hi=>∃t u v,h.get? a=some { cls:=.type "range",data:=.fields #[.int lo t,.int hi u,.int 1 v] }
 |.frz o u=>h.get? a=some o/\ObjOk H h a u
 |.tbl ps=>h.get? a=some { cls:=.none,data:=.fields ps }
 |.met f x=>h.get? a=some (PySem.W.methodObj (.ref f) (.ref x))
 |.ext φ=>φ h/\(∃o,h.get? a=some o)/\∀h1 h2:Heap,φ h1->(∀o,h1.get? a=some o->h2.get? a=some o)->φ h2
def HOk(H:Hp)(h:Heap):Prop:=∀a o,H a=some o->ObjOk P w H h a o
end
section
variable{P:Program}{w:World}{H H':Hp}{h h':Heap}{a:Addr}{o:HO}
theorem ObjOk.lt(x:ObjOk P w H h a o):a<h.objs.size:=by
 cases o with
 |lst xs=>obtain⟨_,_,_,_,e⟩:=x;exact AM e
 |tup xs=>obtain⟨_,_,_,p⟩:=x;exact p.tup.lt
 |dK kvs=>obtain⟨_,_,_,_,o,_,_,e,_⟩:=x;exact AM e
 |dT kvs=>obtain⟨_,_,_,_,o,_,_,e,_⟩:=x;exact AM e
 |set S n=>obtain⟨o,_,_,_,e,_⟩:=x;exact AM e
 |ins C dx fs=>obtain⟨_,_,_,e,_⟩:=x;exact AM e
 |own y=>obtain⟨_,e⟩:=x;exact AM e
 |xd fs=>obtain⟨_,⟨_,_,_,e,_⟩,_⟩:=x;exact AM e
 |rng lo hi=>obtain⟨_,_,_,e⟩:=x;exact AM e
 |frz ob u=>obtain⟨e,_⟩:=x;exact AM e
 |tbl ps=>exact AM (show h.get? a=some _ from x)
 |met f y=>exact AM (show h.get? a=some _ from x)
 |ext φ=>obtain⟨_,⟨_,e⟩,_⟩:=x;exact AM e
theorem Paired.mapP{α β:Type}{F G:α->β->Prop}:∀{l₁:List α}{l₂:List β},Paired F l₁ l₂->(∀a b,F a b->G a b)->Paired G l₁ l₂
 |_,_,.nil,_=>.nil
 |_,_,.cons r t,f=>.cons (f _ _ r) (Paired.mapP t f)
theorem ObjOk.stay(x:ObjOk P w H h a o)(k:∀b u,(b=a∨H b=some (.own a))->h.get? b=some u->h'.get? b=some u)
  (ho:∀b,H b=some (.own a)->H' b=some (.own a)) (ht:∀b xs,H b=some (.tup xs)->H' b=some (.tup xs)):ObjOk P w H' h' a o:=by
 induction o with
 |lst xs=>obtain⟨z,its,n,r,e⟩:=x;exact⟨z,its,n,r,k _ _ (.inl rfl) e⟩
 |tup xs=>obtain⟨z,its,r,ob,e,c⟩:=x;exact⟨z,its,r,ob,k _ _ (.inl rfl) e,c⟩
 |dK kvs=>obtain⟨z,y,vs,r,ob,es,ep,e,c⟩:=x;exact⟨z,y,vs,r,ob,es,ep,k _ _ (.inl rfl) e,c⟩
 |dT kvs =>
  obtain⟨z,y,xs,r,ob,es,ep,e,c⟩:=x
  exact⟨z,y,xs,Paired.mapP r λp q z=>⟨z.1,ht _ _ z.2.1,z.2.2⟩,ob,es,ep,k _ _ (.inl rfl) e,c⟩
 |set S n=>obtain⟨ob,es,ep,t,e,c⟩:=x;exact⟨ob,es,ep,t,k _ _ (.inl rfl) e,c⟩
 |ins C dx fs =>
  obtain⟨d,z,ne,e,mA,⟨od,es,ep,e2,c⟩,r⟩:=x
  exact⟨ho _ d,z,ne,k _ _ (.inl rfl) e,mA,⟨od,es,ep,k _ _ (.inr d) e2,c⟩,r⟩
 |own y=>obtain⟨ob,e⟩:=x;exact⟨ob,k _ _ (.inl rfl) e⟩
 |xd fs=>obtain⟨mA,⟨od,es,ep,e,c⟩,r⟩:=x;exact⟨mA,⟨od,es,ep,k _ _ (.inl rfl) e,c⟩,r⟩
 |rng lo hi=>obtain⟨t,u,v,e⟩:=x;exact⟨t,u,v,k _ _ (.inl rfl) e⟩
 |frz ob u ih=>obtain⟨e,q⟩:=x;exact⟨k _ _ (.inl rfl) e,ih q⟩
 |tbl ps =>
  have e:h.get? a=some { cls:=.none,data:=.fields ps }:=x
  show h'.get? a=some { cls:=.none,data:=.fields ps }
  exact k a _ (.inl rfl) e
 |met f y =>
  have e:h.get? a=some (PySem.W.methodObj (.ref f) (.ref y)):=x
  show h'.get? a=some (PySem.W.methodObj (.ref f) (.ref y))
  exact k a _ (.inl rfl) e
 |ext φ=>obtain⟨p,⟨o,e⟩,st⟩:=x;exact⟨st _ _ p λo q=>k _ _ (.inl rfl) q,⟨o,k _ _ (.inl rfl) e⟩,st⟩
theorem HOk.lt(x:HOk P w H h)(e:H a=some o):a<h.objs.size:=(x a o e).lt
theorem HOk.fresh(x:HOk P w H h)(e:h.objs.size<=a):H a=none:=by
 cases q:H a with
 |none=>rfl
 |some u=>exact absurd (AZ (x.lt q) e) (Bh _)
theorem HOk.kept(x:HOk P w H h)(k:∀b u,h.get? b=some u->h'.get? b=some u):HOk P w H h':=λa o e =>
 (x a o e).stay (λb u _ q=>k b u q) (λ_ q=>q) λ_ _ q=>q
theorem HOk.laid(x:HOk P w H h)(k:∀b u,h.get? b=some u->h'.get? b=some u)(hp:h.objs.size<=a)(new:ObjOk P w (upd H a o) h' a o):HOk P w (upd H a o) h':=λb u e=>by
 have hn:=x.fresh hp
 by_cases hb:b=a
 ·subst hb;rw[qc_]at e;cases e;exact new
 ·rw[ql_ hb]at e
  exact(x b u e).stay (λc v _ q=>k c v q) (λc q=>by rw[ql_ (qA_ q hn)];exact q) λc xs q=>by rw[ql_ (qA_ q hn)];exact q
end
def Rd(H:Hp)(a:Addr)(u:HO):Prop:=H a=some u∨∃o,H a=some (.frz o u)
theorem Rd.of{H:Hp}{a:Addr}{u:HO}(h:H a=some u):Rd H a u:=.inl h
theorem Rd.ok{P:Program}{w:World}{H:Hp}{h:Heap}{a:Addr}{u:HO}(r:Rd H a u)(x:HOk P w H h):ObjOk P w H h a u:=by
 rcases r with r|⟨o,r⟩
 ·exact x a u r
 ·obtain⟨_,q⟩:=x a _ r
  exact q
def Mut:Option HO->Prop
 |some (.lst _)=>True
 |some (.dK _)=>True
 |some (.dT _)=>True
 |some (.set _ _)=>True
 |some (.ins _ _ _)=>True
 |some (.ext _)=>True
 |_=>False
section
variable{P:Program}{w:World}{H:Hp}{h h':Heap}{x e:Addr}{o':HO}
theorem HOk.write(ok:HOk P w H h)(mu:Mut (H x))(he:e=x∨H e=some (.own x))(k:∀b u,b≠e->h.get? b=some u->h'.get? b=some u)(heo:∃u,h'.get? e=some u)
  (new:ObjOk P w (upd H x o') h' x o'):HOk P w (upd H x o') h':=λb u q=>by
 have nown:∀c y,H c=some (.own y)->c≠x:=λc y r z=>by subst z;rw[r]at mu;exact mu
 have ntup:∀c xs,H c=some (.tup xs)->c≠x:=λc xs r z=>by subst z;rw[r]at mu;exact mu
 by_cases hb:b=x
 ·subst hb;rw[qc_]at q;cases q;exact new
 ·rw[ql_ hb]at q
  by_cases hbe:b=e
  ·have q':H b=some (.own x):=by
    rcases he with z|z
    ·exact absurd (hbe.trans z) hb
    ·rw[hbe];exact z
   rw[q]at q';cases q'
   obtain⟨v,hv⟩:=heo
   exact⟨v,by rw[hbe];exact hv⟩
  ·refine(ok b u q).stay (λc v hc r=>k c v ?_ r) (λc r=>by rw[ql_ (nown c b r)];exact r) λc xs r=>by rw[ql_ (ntup c xs r)];exact r
   rcases hc with rfl|hc
   ·exact hbe
   ·rintro rfl
    rcases he with z|z
    ·exact nown c b hc z
    ·rw[hc]at z;cases z;exact hb rfl
end
structure Un(fs ex:List Addr)(H H':Hp)(h h':Heap):Prop where
 keep:∀b o,h.get? b=some o->H b=none->b∉fs->b∉ex->h'.get? b=some o
 slot:∀b o,h.get? b=some o->H b=none->b∈fs->b∉ex->∃sl,h'.get? b=some { o with slots:=sl }
 free:∀b o,h.get? b=some o->H b=none->b∉ex->H' b=none
 there:∀b o,h.get? b=some o->b∉ex->∃o',h'.get? b=some o'
 tups:∀b xs,H b=some (.tup xs)->H' b=some (.tup xs)
 frzs:∀b o u,H b=some (.frz o u)->H' b=some (.frz o u)
 tbls:∀b ps,H b=some (.tbl ps)->∃more,H' b=some (.tbl (ps++more))
section
variable{fs fs' ex ex':List Addr}{H H1 H2:Hp}{h h1 h2 h':Heap}{a x e:Addr}{o:HO}
theorem Un.any(u:Un fs ex H H1 h h1){b:Addr}{ob:Obj}(q:h.get? b=some ob)(n:H b=none)(hx:b∉ex):∃sl,h1.get? b=some { ob with slots:=sl }:=by
 by_cases hb:b∈fs
 ·exact u.slot b ob q n hb hx
 ·exact⟨ob.slots,u.keep b ob q n hb hx⟩
theorem Un.trans(a:Un fs ex H H1 h h1)(b:Un fs ex H1 H2 h1 h2):Un fs ex H H2 h h2 where
 keep:=λc ob q n hc hx=>b.keep c ob (a.keep c ob q n hc hx) (a.free c ob q n hx) hc hx
 slot:=λc ob q n hc hx=>by
  obtain⟨sl,e1⟩:=a.slot c ob q n hc hx
  obtain⟨sl',e2⟩:=b.slot c _ e1 (a.free c ob q n hx) hc hx
  exact⟨sl',e2⟩
 free:=λc ob q n hx=>by
  obtain⟨o',e1⟩:=a.there c ob q hx
  exact b.free c o' e1 (a.free c ob q n hx) hx
 there:=λc ob q hx=>by
  obtain⟨o',e1⟩:=a.there c ob q hx
  exact b.there c o' e1 hx
 tups:=λc xs q=>b.tups c xs (a.tups c xs q)
 frzs:=λc ob xs q=>b.frzs c ob xs (a.frzs c ob xs q)
 tbls:=λc ps q=>by
  obtain⟨m1,e1⟩:=a.tbls c ps q
  obtain⟨m2,e2⟩:=b.tbls c _ e1
  exact⟨m1++m2,by rw[e2,Array.append_assoc]⟩
theorem Un.kept(k:∀b u,h.get? b=some u->h'.get? b=some u):Un fs ex H H h h' :=
 ⟨λb ob q _ _ _=>k b ob q,λb ob q _ _ _=>⟨ob.slots,k b ob q⟩,λ_ _ _ n _=>n,λb ob q _=>⟨ob,k b ob q⟩,λ_ _ q=>q,λ_ _ _ q=>q,λ_ ps q=>⟨#[],by rw[q];simp⟩⟩
theorem Un.refl:Un fs ex H H h h:=Un.kept λ_ _ q=>q
theorem Un.laid(k:∀b u,h.get? b=some u->h'.get? b=some u)(hp:h.objs.size<=a)(hn:H a=none):Un fs ex H (upd H a o) h h' where
 keep:=λb u q _ _ _=>k b u q
 slot:=λb u q _ _ _=>⟨u.slots,k b u q⟩
 free:=λb u q n _=>by rw[ql_ (Af (AZ (AM q) hp))];exact n
 there:=λb u q _=>⟨u,k b u q⟩
 tups:=λb xs q=>by rw[ql_ (qA_ q hn)];exact q
 frzs:=λb u xs q=>by rw[ql_ (qA_ q hn)];exact q
 tbls:=λb ps q=>⟨#[],by rw[ql_ (qA_ q hn),q];simp⟩
theorem Un.write(mu:Mut (H x))(he:e=x∨H e=some (.own x))(k:∀b u,b≠e->h.get? b=some u->h'.get? b=some u)(heo:∃u,h'.get? e=some u):Un fs ex H (upd H x o) h h':=by
 have hx:∀b,H b=none->b≠x:=λb n z=>by subst z;rw[n]at mu;exact mu
 have hb:∀b,H b=none->b≠e:=λb n z=>by
  subst z
  rcases he with r|r
  ·exact hx b n r
  ·rw[n]at r;cases r
 have hm:∀b u,H b=some u->¬ Mut (some u)->b≠x:=λb u q nm z=>by subst z;rw[q]at mu;exact nm mu
 refine⟨λb u q n _ _=>k b u (hb b n) q,λb u q n _ _=>⟨u.slots,k b u (hb b n) q⟩,λb u q n _=>by rw[ql_ (hx b n)];exact n,λb u q _=>?_,
  λb xs q=>by rw[ql_ (hm b _ q λz=>z)];exact q,λb u xs q=>by rw[ql_ (hm b _ q λz=>z)];exact q,λb ps q=>⟨#[],by rw[ql_ (hm b _ q λz=>z),q];simp⟩⟩
 by_cases hbe:b=e
 ·subst hbe;exact heo
 ·exact⟨u,k b u hbe q⟩
theorem Un.mono(u:Un fs ex H H1 h h1)(hs:∀b∈fs,b∈fs')(hx:∀b∈ex,b∈ex'):Un fs' ex' H H1 h h1 :=
 ⟨λb ob q n hb he=>u.keep b ob q n (λz=>hb (hs b z)) λz=>he (hx b z),λ_ _ q n _ he=>u.any q n λz=>he (hx _ z),λb ob q n he=>u.free b ob q n λz=>he (hx b z),λb ob q he=>u.there b ob q λz=>he (hx b z),u.tups,u.frzs,u.tbls⟩
end
def trk(h:Heap)(H:Hp):List Addr:=(List.range h.objs.size).filter λa=>(H a).isSome
def xJ_(h:Heap)(H:Hp):Heap:=PySem.W.hideAll h (trk h H)
theorem afa_(h:Heap)(H:Hp):(xJ_ h H).objs.size=h.objs.size:=PySem.W.hideAll_size _ _
theorem ahr_{h:Heap}{H:Hp}{b:Addr}{o:Obj}(e:h.get? b=some o)(n:H b=none):(xJ_ h H).get? b=some o :=
 DY _ e λhm=>by
  have q:(H b).isSome=true:=(BO.mp hm).2
  rw[n]at q;simp at q
theorem ajt_{h:Heap}{H:Hp}{b:Addr}{o:Obj}(e:(xJ_ h H).get? b=some o):h.get? b=some o/\H b=none:=by
 have e':h.get? b=some o:=Dd (trk h H) e
 refine⟨e',?_⟩
 cases q:H b with
 |none=>rfl
 |some x =>
  have hm:b∈trk h H:=BO.mpr ⟨Ad.mpr (AM e'),by simp [q]⟩
  have z:(xJ_ h H).get? b=none:=PySem.W.hideAll_none (trk h H) hm
  rw[z]at e;cases e
def ajl_(g h:Heap)(L:Addr):List (Addr×Obj):=(List.range h.objs.size).filterMap λa=>if a=L∨(g.get? a).isSome=true then none else (h.get? a).map λo=>(a,o)
def rest(g h:Heap)(L d:Addr):List (Addr×Obj):=(ajl_ g h L).filter λp=>decide (p.1≠d)
end L2
namespace L2
open PySem PySem.Spec PyProof.Rows
structure Mod(K:PySem.W.Frag)(mg:Str->Option Value)(base:Heap):Prop where
 kin:K.In base
 glob:base.Ns mainGlobals mg
 blt:∃mb,base.Ns builtinsNs mb/\∀x:Str,x ≠ "__name__" -> mb x=bootBuiltins x
 nolimit:base.NoLimit
structure Cx where
 prog:Program
 w:World
 K:PySem.W.Frag
 mg:Str->Option Value
 base:Heap
 A:Around
 N:List Str
 s₀:Shared
 H₀:Hp
 env:Env
 outer:List Env
 stack:List Env
 ex:List Addr
 fn:Str->Bool
 calm:Bool
 pn:List (Addr×Obj)
 xe:Value->Shared->Prop
def frs(l:List Env):List Addr:=l.filterMap (·.frame)
abbrev Cx.fs(X:Cx):List Addr:=frs X.outer
def Vis(sc:Scope)(x:Str):Prop:=sc.names.lookup x=some .local∨sc.names.lookup x=some .cell∨sc.names.lookup x=some .free
def Loc(sc:Scope)(x:Str):Prop:=sc.names.lookup x=some .local∨sc.names.lookup x=some .cell
def Look(env:Env)(h:Heap)(m:Str->Option Value)(x:Str)(u:Value):Prop :=
 (env.kindOf x=some .local/\m x=some u)∨((env.kindOf x=some .cell∨env.kindOf x=some .free)/\∃c,env.cells.lookup x=some c/\h.IsCell c (some u))
structure Cx.Ok(X:Cx):Prop where
 mod:Mod X.K X.mg X.base
 kind:X.env.scope.kind=.function
 glob:X.env.globals=mainGlobals
 blt:X.env.builtins=builtinsNs
 above:X.s₀.heap.objs.size<=X.env.locals
 inj:∀x y c,X.env.cells.lookup x=some c->X.env.cells.lookup y=some c->x=y
 has:∀x,(X.env.kindOf x=some .cell∨X.env.kindOf x=some .free)->∃c,X.env.cells.lookup x=some c
 cab:∀x c,X.fn x=true->X.env.cells.lookup x=some c->X.s₀.heap.objs.size<=c
 hd:X.calm=true->X.A.handled=none
 frames:X.A.frames=some X.stack
 stk:X.stack=X.outer∨(X.stack=X.env::X.outer/\X.env.frame=some X.env.locals)
 exf:∀b∈X.ex,b≠X.env.locals/\∀x c,X.env.cells.lookup x=some c->c≠b
 bs:∀b o,X.base.get? b=some o->X.s₀.heap.get? b=some o/\X.H₀ b=none
 bsz:X.base.objs.size<=X.s₀.heap.objs.size
 noex:∀b o,X.base.get? b=some o->b∉X.ex
 exfs:∀b∈X.ex,b∉X.fs
 funs:X.s₀.heap.FunFrames X.base X.outer
 frf:∀b∈X.fs,X.H₀ b=none
structure Inv(X:Cx)(pins:List (Addr×Obj))(σ:List (Option V))(H:Hp)(s:Shared):Prop where
 ok:X.Ok
 os:s.os=X.s₀.os
 bare:AllBare s.gens
 base:Un X.fs X.ex X.H₀ H X.s₀.heap s.heap
 loc:∃m,s.heap.Ns X.env.locals m/\∀(i:Nat)(x:Str)(v:V),X.N[i]?=some x->σ[i]?=some (some v)->Vis X.env.scope x->∃u,RelV v u/\Look X.env s.heap m x u
 cell:∀x c,X.env.cells.lookup x=some c->∃v,s.heap.IsCell c v
 free:H X.env.locals=none
 freeC:∀x c,X.env.cells.lookup x=some c->H c=none
 pin:∀p∈X.pn++pins,s.heap.get? p.1=some p.2/\H p.1=none/\p.1≠X.env.locals/\p.1∉X.fs/\∀v,p.2.data≠.cell v
 hok:HOk X.prog X.w H s.heap
 len:σ.length=X.N.length
section
variable{X:Cx}{pins:List (Addr×Obj)}{σ:List (Option V)}{H H':Hp}{s:Shared}{h':Heap}
theorem Cx.Ok.nofr(ok:X.Ok){b:Addr}{o:Obj}(e:X.base.get? b=some o):b∉X.fs:=λhb=>by
 have:=(ok.funs.mem hb).1
 rw[e]at this;cases this
theorem Inv.bs(I:Inv X pins σ H s):∀b o,X.base.get? b=some o->s.heap.get? b=some o/\H b=none:=λb o e =>
 ⟨I.base.keep b o (I.ok.bs b o e).1 (I.ok.bs b o e).2 (I.ok.nofr e) (I.ok.noex b o e),I.base.free b o (I.ok.bs b o e).1 (I.ok.bs b o e).2 (I.ok.noex b o e)⟩
theorem Inv.bk(I:Inv X pins σ H s):∀b o,X.base.get? b=some o->s.heap.get? b=some o:=λb o e=>(I.bs b o e).1
theorem Inv.mod(I:Inv X pins σ H s):Mod X.K X.mg X.base:=I.ok.mod
theorem Inv.kIn(I:Inv X pins σ H s):X.K.In s.heap:=I.ok.mod.kin.keeps I.bk
theorem Inv.nolimit(I:Inv X pins σ H s):s.heap.NoLimit:=I.ok.mod.nolimit.keeps I.bk
theorem Inv.lt(I:Inv X pins σ H s):X.env.locals<s.heap.objs.size:=let ⟨_,hn,_⟩:=I.loc;hn.lt
theorem Inv.sz(I:Inv X pins σ H s):X.s₀.heap.objs.size<=s.heap.objs.size:=Ag I.ok.above (BX I.lt)
theorem Inv.nofs(I:Inv X pins σ H s){a:Addr}(h:s.heap.objs.size<=a):a∉X.fs:=λhb=>by
 obtain⟨_,o,ho,_⟩:=I.ok.funs.mem hb
 exact absurd (AZ (AM ho) (Ag I.sz h)) (Bh _)
theorem Inv.cne(I:Inv X pins σ H s):∀x c,X.env.cells.lookup x=some c->c≠X.env.locals:=λx c e z=>by
 obtain⟨v,o,ho,hd⟩:=I.cell x c e
 obtain⟨m,⟨o',es,ep,ho',hd',_⟩,_⟩:=I.loc
 rw[z,ho']at ho;cases ho;rw[hd']at hd;cases hd
theorem Inv.funs(I:Inv X pins σ H s):s.heap.FunFrames X.base X.outer:=by
 have all:∀(l:List Env),(∀b∈frs l,b∈X.fs)->X.s₀.heap.FunFrames X.base l->s.heap.FunFrames X.base l:=by
  intro l
  induction l with
  |nil=>intro _ _;trivial
  |cons env r ih =>
   intro hs hl
   obtain⟨hk,⟨L,o,hf,hn,ho,hd⟩,hr⟩:=hl
   have hL:L∈X.fs:=hs L (by unfold frs;rw[BW,hf];exact AD)
   obtain⟨sl,e⟩:=I.base.slot L o ho (I.ok.frf L hL) hL λz=>I.ok.exfs L z hL
   exact⟨hk,⟨L,_,hf,hn,e,hd⟩,ih (λb hb=>hs b (by unfold frs;rw[BW,hf];exact AC _ hb)) hr⟩
 exact all X.outer (λ_ hb=>hb) I.ok.funs
theorem Inv.stack(I:Inv X pins σ H s):s.heap.FunFrames X.base X.stack:=by
 rcases I.ok.stk with e|⟨e,hf⟩
 ·rw[e];exact I.funs
 ·rw[e]
  obtain⟨m,hn,_⟩:=I.loc
  refine .cons (by rw[I.ok.kind];decide) hf hn ?_ I.funs
  exact Heap.get?_none_of_le (Ag I.ok.bsz I.ok.above)
theorem Inv.stkSub(I:Inv X pins σ H s):∀b∈frs X.stack,b∈X.env.locals::X.fs:=λb hb=>by
 rcases I.ok.stk with e|⟨e,hf⟩
 ·rw[e]at hb;exact AC _ hb
 ·rw[e]at hb
  unfold frs at hb
  rw[BW,hf]at hb
  exact hb
theorem Inv.stkFree(I:Inv X pins σ H s):∀b∈frs X.stack,H b=none:=λb hb=>by
 rcases AN.mp (I.stkSub b hb) with e|hb
 ·rw[e];exact I.free
 ·obtain⟨_,o,ho,_⟩:=I.ok.funs.mem hb
  exact I.base.free b o ho (I.ok.frf b hb) λz=>I.ok.exfs b z hb
theorem Inv.step{g':Array GenState}{t':Nat}{d':Drawn}{ch:List Addr}(I:Inv X pins σ H s)
  (hch:∀b∈ch,(b∈X.ex∨X.s₀.heap.objs.size<=b)/\b≠X.env.locals/\(∀x c,X.env.cells.lookup x=some c->c≠b)/\∀p∈X.pn++pins,p.1≠b)
  (keep:∀b o,b≠X.env.locals->b∉X.fs->b∉ch->s.heap.get? b=some o->H b=none->h'.get? b=some o)
  (slot:∀b o,b≠X.env.locals->b∈X.fs->b∉ch->s.heap.get? b=some o->H b=none->∃sl,h'.get? b=some { o with slots:=sl }) (free:∀b o,b∉ch->s.heap.get? b=some o->H b=none->H' b=none)
  (there:∀b o,b∉ch->s.heap.get? b=some o->∃o',h'.get? b=some o')
  (tups:∀b xs,H b=some (.tup xs)->H' b=some (.tup xs)) (frzs:∀b o u,H b=some (.frz o u)->H' b=some (.frz o u)) (tbls:∀b ps,H b=some (.tbl ps)->∃more,H' b=some (.tbl (ps++more)))
  (ns:∀m,s.heap.Ns X.env.locals m->h'.Ns X.env.locals m) (hok:HOk X.prog X.w H' h') (hg:AllBare g') :
  Inv X pins σ H' { s with heap:=h',gens:=g',drawn:=d',toks:=t' }:=by
 have neL:∀b o,X.s₀.heap.get? b=some o->b≠X.env.locals:=λb o e=>Af (AZ (AM e) I.ok.above)
 have neC:∀b o,X.s₀.heap.get? b=some o->b∉X.ex->b∉ch:=λb o e hx hb=>by
  rcases (hch b hb).1 with z|z
  ·exact hx z
  ·exact absurd (AZ (AM e) z) (Bh _)
 have cellK:∀x c,X.env.cells.lookup x=some c->∀v,s.heap.IsCell c v->h'.IsCell c v:=λx c e v ⟨o,ho,hd⟩=>by
  have nch:c∉ch:=λz=>(hch c z).2.2.1 x c e rfl
  by_cases hc:c∈X.fs
  ·obtain⟨sl,q⟩:=slot c o (I.cne x c e) hc nch ho (I.freeC x c e)
   exact⟨_,q,hd⟩
  ·exact⟨o,keep c o (I.cne x c e) hc nch ho (I.freeC x c e),hd⟩
 refine⟨I.ok,I.os,hg,⟨λb o e n hb hx=>?_,λb o e n hb hx=>?_,λb o e n hx=>?_,λb o e hx=>?_,λb xs e=>tups b xs (I.base.tups b xs e),λb o xs e=>frzs b o xs (I.base.frzs b o xs e),λb ps e=>?_⟩,?_,λx c e=>?_,?_,λx c e=>?_,λp hp=>?_,hok,I.len⟩
 ·exact keep b o (neL b o e) hb (neC b o e hx) (I.base.keep b o e n hb hx) (I.base.free b o e n hx)
 ·obtain⟨sl,e1⟩:=I.base.slot b o e n hb hx
  obtain⟨sl',e2⟩:=slot b _ (neL b o e) hb (neC b o e hx) e1 (I.base.free b o e n hx)
  exact⟨sl',e2⟩
 ·obtain⟨o',e1⟩:=I.base.there b o e hx
  exact free b o' (neC b o e hx) e1 (I.base.free b o e n hx)
 ·obtain⟨o',e1⟩:=I.base.there b o e hx
  exact there b o' (neC b o e hx) e1
 ·obtain⟨m1,e1⟩:=I.base.tbls b ps e
  obtain⟨m2,e2⟩:=tbls b _ e1
  exact⟨m1++m2,by rw[e2,Array.append_assoc]⟩
 ·obtain⟨m,hn,hl⟩:=I.loc
  refine⟨m,ns m hn,λi x v e1 e2 e3=>?_⟩
  obtain⟨u,r,l⟩:=hl i x v e1 e2 e3
  refine⟨u,r,?_⟩
  rcases l with l|⟨k,c,e,z⟩
  ·exact .inl l
  ·exact .inr ⟨k,c,e,cellK x c e _ z⟩
 ·obtain⟨v,z⟩:=I.cell x c e
  exact⟨v,cellK x c e v z⟩
 ·obtain⟨m,⟨o,_,_,ho,_⟩,_⟩:=I.loc
  exact free _ o (λz=>(hch _ z).2.1 rfl) ho I.free
 ·obtain⟨v,o,ho,hd⟩:=I.cell x c e
  exact free c o (λz=>(hch c z).2.2.1 x c e rfl) ho (I.freeC x c e)
 ·obtain⟨e,n,ne,nf,d⟩:=I.pin p hp
  have nch:p.1∉ch:=λz=>(hch p.1 z).2.2.2 p hp rfl
  exact⟨keep p.1 p.2 ne nf nch e n,free p.1 p.2 nch e n,ne,nf,d⟩
theorem Inv.un{t':Nat}(I:Inv X pins σ H s)(u:Un X.fs [] H H' s.heap h')(hok:HOk X.prog X.w H' h'):Inv X pins σ H' { s with heap:=h',toks:=t' }:=by
 obtain⟨m,⟨o,es,ep,ho,r⟩,_⟩:=id I.loc
 obtain⟨sl,hL⟩:=u.any ho I.free (by simp)
 exact I.step (g':=s.gens) (d':=s.drawn) (ch:=[]) (λ_ z=>nomatch z) (λb o _ hb _ e n=>u.keep b o e n hb (by simp)) (λb o _ hb _ e n=>u.slot b o e n hb (by simp)) (λb o _ e n=>u.free b o e n (by simp)) (λb o _ e=>u.there b o e (by simp)) u.tups u.frzs u.tbls (λm' hm=>by
  obtain⟨o',es',ep',ho',r'⟩:=hm
  rw[ho]at ho';cases ho'
  exact⟨_,es',ep',hL,r'⟩) hok I.bare
theorem Inv.call{g':Array GenState}{t':Nat}{d':Drawn}{ch:List Addr}(I:Inv X pins σ H s)(u:Un (frs X.stack) ch H H' s.heap h')(hok:HOk X.prog X.w H' h')(hg:AllBare g')
  (hch:∀b∈ch,(b∈X.ex∨X.s₀.heap.objs.size<=b)/\b≠X.env.locals/\(∀x c,X.env.cells.lookup x=some c->c≠b)/\∀p∈X.pn++pins,p.1≠b) :
  Inv X pins σ H' { s with heap:=h',gens:=g',drawn:=d',toks:=t' }:=by
 obtain⟨m,⟨o,es,ep,ho,r⟩,_⟩:=id I.loc
 obtain⟨sl,hL⟩:=u.any ho I.free λz=>(hch _ z).2.1 rfl
 exact I.step (ch:=ch) hch (λb o hL hb hc e n=>u.keep b o e n (λz=>(AN.mp (I.stkSub b z)).elim hL hb) hc) (λb o _ _ hc e n=>u.any e n hc) (λb o hc e n=>u.free b o e n hc) (λb o hc e=>u.there b o e hc) u.tups u.frzs u.tbls (λm' hm=>by
  obtain⟨o',es',ep',ho',r'⟩:=hm
  rw[ho]at ho';cases ho'
  exact⟨_,es',ep',hL,r'⟩) hok hg
theorem Inv.turned{t':Nat}{it:Addr}(I:Inv X pins σ H s)(k:∀b o,b≠it->s.heap.get? b=some o->h'.get? b=some o)(hn:H it=none)(hL:it≠X.env.locals)
  (h1:it∈X.ex∨X.s₀.heap.objs.size<=it) (h2:∀x c,X.env.cells.lookup x=some c->c≠it) (h3:∀p∈X.pn++pins,p.1≠it):Inv X pins σ H { s with heap:=h',toks:=t' }:=by
 have nit:∀b u,H b=some u->b≠it:=λb u e z=>by rw[z,hn]at e;cases e
 refine I.step (g':=s.gens) (d':=s.drawn) (ch:=[it]) (λb hb=>?_) (λb o _ _ hc e _=>k b o (λz=>hc (by simp [z])) e) (λb o _ _ hc e _=>⟨o.slots,k b o (λz=>hc (by simp [z])) e⟩) (λ_ _ _ _ n=>n)
  (λb o hc e=>⟨o,k b o (λz=>hc (by simp [z])) e⟩) (λ_ _ e=>e) (λ_ _ _ e=>e) (λb ps e=>⟨#[],by rw[e];simp⟩) (λm hm=>?_) (λb u e=>?_) I.bare
 ·have e:b=it:=by simpa using hb
  subst e
  exact⟨h1,hL,h2,h3⟩
 ·obtain⟨o,es,ep,ho,r⟩:=hm
  exact⟨o,es,ep,k _ o (BY hL) ho,r⟩
 ·refine(I.hok b u e).stay (λc v hc q=>k c v ?_ q) (λ_ q=>q) λ_ _ q=>q
  rcases hc with z|z
  ·rw[z];exact nit b u e
  ·exact nit c _ z
theorem Inv.tok(I:Inv X pins σ H s)(t:Nat):Inv X pins σ H { s with toks:=t }:=I.un (h':=s.heap) (t':=t) Un.refl I.hok
theorem Inv.kept{t':Nat}(I:Inv X pins σ H s)(k:∀b u,s.heap.get? b=some u->h'.get? b=some u):Inv X pins σ H { s with heap:=h',toks:=t' }:=I.un (Un.kept k) (I.hok.kept k)
theorem Inv.laid{a:Addr}{o:HO}{t':Nat}(I:Inv X pins σ H s)(k:∀b u,s.heap.get? b=some u->h'.get? b=some u)(hp:s.heap.objs.size<=a)(new:ObjOk X.prog X.w (upd H a o) h' a o) :
  Inv X pins σ (upd H a o) { s with heap:=h',toks:=t' }:=I.un (Un.laid k hp (I.hok.fresh hp)) (I.hok.laid k hp new)
theorem Inv.write{x e:Addr}{o:HO}{t':Nat}(I:Inv X pins σ H s)(mu:Mut (H x))(he:e=x∨H e=some (.own x))(k:∀b u,b≠e->s.heap.get? b=some u->h'.get? b=some u)(heo:∃u,h'.get? e=some u)
  (new:ObjOk X.prog X.w (upd H x o) h' x o):Inv X pins σ (upd H x o) { s with heap:=h',toks:=t' }:=I.un (Un.write mu he k heo) (I.hok.write mu he k heo new)
theorem Inv.pins_of{pins':List (Addr×Obj)}(I:Inv X pins σ H s)(h:∀p∈pins',s.heap.get? p.1=some p.2/\H p.1=none/\p.1≠X.env.locals/\p.1∉X.fs/\∀v,p.2.data≠.cell v):Inv X pins' σ H s :=
 ⟨I.ok,I.os,I.bare,I.base,I.loc,I.cell,I.free,I.freeC,λp hp=>(Ap.mp hp).elim (λz=>I.pin p (Az _ z)) (h p),I.hok,I.len⟩
theorem yH_{N:List Str}(hN:N.Nodup){i j:Nat}{x:Str}(a:N[i]?=some x)(b:N[j]?=some x):i=j:=by
 obtain⟨h1,e1⟩:=AR.mp a
 obtain⟨h2,e2⟩:=AR.mp b
 exact(List.getElem_inj hN).mp (e1.trans e2.symm)
theorem vK_{M:Model}{A:Around}{E:Value->Shared->Prop}{i:Nat}{x:Str}{v:V}{u:Value}{Q:Unit->Shared->Prop}(I:Inv X pins σ H s)(hN:X.N.Nodup)(hi:X.N[i]?=some x)(hx:Loc X.env.scope x)(r:RelV v u)
  (h:∀s',Inv X pins (σ.set i (some v)) H s'->(∃a,Heap.SameBut a s.heap s'.heap/\(a=X.env.locals∨X.env.cells.lookup x=some a))->Q () s') (hf:X.fn x=true∨X.env.scope.names.lookup x=some .local:=by first|exact .inl rfl|exact .inr rfl|assumption):wpAny M A (storeName X.env x u) Q E s:=by
 obtain⟨m,hn,hl⟩:=id I.loc
 have hcls:(X.env.scope.kind==.class||(X.env.scope.kind==.module&&X.env.locals != X.env.globals))=false:=by rw[I.ok.kind];rfl
 have hiσ:i<σ.length:=by rw[I.len];exact(AR.mp hi).1
 have cne:=I.cne
 have tracked:∀{a:Addr}{h':Heap},(∃o,s.heap.get? a=some o/\H a=none)->Heap.SameBut a s.heap h'->HOk X.prog X.w H h':=λ{a h'} ha hs b ob e=>by
  obtain⟨_,_,hfree⟩:=ha
  refine(I.hok b ob e).stay (λc w' hc q=>(hs.2 c ?_).trans q) (λ_ q=>q) λ_ _ q=>q
  rintro rfl
  rcases hc with rfl|hc
  ·rw[hfree]at e;cases e
  ·rw[hfree]at hc;cases hc
 rcases hx with hk|hk
 ·refine wpAny_storeName_local hk hn (λh' hn' hs=>?_) hcls
  obtain⟨oL,_,_,hoL,_⟩:=id hn
  refine h _ ⟨I.ok,I.os,I.bare,⟨λb o e n hb hx=>?_,λb o e n hb hx=>?_,I.base.free,λb o e hx=>?_,I.base.tups,I.base.frzs,I.base.tbls⟩,⟨_,hn',λj y v' e1 e2 e3=>?_⟩,λy c e=>?_,I.free,I.freeC,λp hp=>?_,tracked ⟨oL,hoL,I.free⟩ hs,by simpa using I.len⟩ ⟨_,hs,.inl rfl⟩
  ·exact(hs.2 b (Af (AZ (AM e) I.ok.above))).trans (I.base.keep b o e n hb hx)
  ·obtain⟨sl,e1⟩:=I.base.slot b o e n hb hx
   exact⟨sl,(hs.2 b (Af (AZ (AM e) I.ok.above))).trans e1⟩
  ·obtain⟨o',e1⟩:=I.base.there b o e hx
   exact⟨o',(hs.2 b (Af (AZ (AM e) I.ok.above))).trans e1⟩
  ·by_cases hj:j=i
   ·subst hj
    rw[hi]at e1;cases e1
    rw[Ce hiσ]at e2
    cases e2
    exact⟨u,r,.inl ⟨hk,by simp⟩⟩
   ·rw[DN (BY hj)]at e2
    obtain⟨u',r',q⟩:=hl j y v' e1 e2 e3
    refine⟨u',r',?_⟩
    rcases q with⟨k,e⟩|⟨k,c,e,z⟩
    ·refine .inl ⟨k,?_⟩
     have:y≠x:=λe=>hj (yH_ hN e1 (e▸hi))
     simp [this,e]
    ·exact .inr ⟨k,c,e,z.sameBut hs (cne y c e)⟩
  ·obtain⟨w',z⟩:=I.cell y c e
   exact⟨w',z.sameBut hs (cne y c e)⟩
  ·obtain⟨e,n,ne,nf,d⟩:=I.pin p hp
   exact⟨(hs.2 p.1 ne).trans e,n,ne,nf,d⟩
 ·have hfn:X.fn x=true:=by
   rcases hf with z|z
   ·exact z
   ·rw[z]at hk;cases hk
  obtain⟨c,hc⟩:=I.ok.has x (.inl hk)
  obtain⟨w',z⟩:=I.cell x c hc
  refine wpAny_storeName_cell I.ok.kind hk hc z (λh' hc' hs=>?_)
  obtain⟨oc,hoc,hocd⟩:=id z
  refine h { s with heap:=h' } ⟨I.ok,I.os,I.bare,⟨λb o e n hb hx=>?_,λb o e n hb hx=>?_,I.base.free,λb o e hx=>?_,I.base.tups,I.base.frzs,I.base.tbls⟩,⟨m,hn.sameBut hs (BY (cne x c hc)),λj y v' e1 e2 e3=>?_⟩,λy c' e=>?_,I.free,I.freeC,λp hp=>?_,tracked ⟨oc,hoc,I.freeC x c hc⟩ hs,by simpa using I.len⟩ ⟨c,hs,.inr hc⟩
  ·exact(hs.2 b (Af (AZ (AM e) (I.ok.cab x c hfn hc)))).trans (I.base.keep b o e n hb hx)
  ·obtain⟨sl,e1⟩:=I.base.slot b o e n hb hx
   exact⟨sl,(hs.2 b (Af (AZ (AM e) (I.ok.cab x c hfn hc)))).trans e1⟩
  ·obtain⟨o',e1⟩:=I.base.there b o e hx
   exact⟨o',(hs.2 b (Af (AZ (AM e) (I.ok.cab x c hfn hc)))).trans e1⟩
  ·by_cases hj:j=i
   ·subst hj
    rw[hi]at e1;cases e1
    rw[Ce hiσ]at e2
    cases e2
    exact⟨u,r,.inr ⟨.inl hk,c,hc,hc'⟩⟩
   ·rw[DN (BY hj)]at e2
    obtain⟨u',r',q⟩:=hl j y v' e1 e2 e3
    refine⟨u',r',?_⟩
    rcases q with q|⟨k,c',e,z'⟩
    ·exact .inl q
    ·refine .inr ⟨k,c',e,z'.sameBut hs ?_⟩
     rintro rfl
     exact hj (yH_ hN e1 (I.ok.inj _ _ _ e hc▸hi))
  ·by_cases hcc:c'=c
   ·subst hcc;exact⟨_,hc'⟩
   ·obtain⟨w2,z2⟩:=I.cell y c' e
    exact⟨w2,z2.sameBut hs hcc⟩
  ·obtain⟨e,n,ne,nf,d⟩:=I.pin p hp
   refine⟨(hs.2 p.1 ?_).trans e,n,ne,nf,d⟩
   intro q
   rw[q,hoc]at e
   have q':oc=p.2:=AW e
   exact d w' (by rw[<-q'];exact hocd)
theorem yy_{M:Model}{A:Around}{E:Value->Shared->Prop}{i:Nat}{x:Str}{v:V}{u:Value}{Q:Unit->Shared->Prop}(I:Inv X pins σ H s)(hN:X.N.Nodup)(hi:X.N[i]?=some x)(hx:Loc X.env.scope x)(r:RelV v u)
  (h:∀s',Inv X pins (σ.set i (some v)) H s'->Q () s') (hf:X.fn x=true∨X.env.scope.names.lookup x=some .local:=by first|exact .inl rfl|exact .inr rfl|assumption):wpAny M A (storeName X.env x u) Q E s :=
 vK_ I hN hi hx r (λs' I' _=>h s' I') hf
theorem Inv.call'{s':Shared}{ch:List Addr}(I:Inv X pins σ H s)(ho:s'.os=s.os)(u:Un (frs X.stack) ch H H' s.heap s'.heap)(hok:HOk X.prog X.w H' s'.heap)(hg:AllBare s'.gens)
  (hch:∀b∈ch,(b∈X.ex∨X.s₀.heap.objs.size<=b)/\b≠X.env.locals/\(∀x c,X.env.cells.lookup x=some c->c≠b)/\∀p∈X.pn++pins,p.1≠b):Inv X pins σ H' s':=by
 obtain⟨h',g',d',t',o'⟩:=s'
 have e:o'=s.os:=ho
 subst e
 exact I.call (g':=g') (t':=t') (d':=d') u hok hg hch
end
abbrev XK:=Value->Option Addr->Hp->Prop
abbrev St:=List (Option V)
abbrev VK:=V->Hp->Prop
abbrev TE:=St->Hp->VK->Prop
abbrev TT:=St->Hp->(Bool->Hp->Prop)->Prop
abbrev TA:=St->Hp->(List V->Hp->Prop)->Prop
structure Ends where
 nx:St->Hp->Prop
 rt:VK
 bk:St->Hp->Prop:=λ_ _=>False
 ct:St->Hp->Prop:=λ_ _=>False
abbrev TS:=Ends->St->Hp->Prop
def EP(X:Cx)(pins:List (Addr×Obj))(σ:St)(Q:VK)(u:Value)(s':Shared):Prop:=∃v H',Inv X pins σ H' s'/\RelV v u/\Q v H'
def TP(X:Cx)(pins:List (Addr×Obj))(σ:St)(Q:Bool->Hp->Prop)(b:Bool)(s':Shared):Prop:=∃H',Inv X pins σ H' s'/\Q b H'
def AP(X:Cx)(pins:List (Addr×Obj))(σ:St)(Q:List V->Hp->Prop)(us:List Value)(s':Shared):Prop:=∃vs H',Inv X pins σ H' s'/\Vals vs us/\Q vs H'
def SP(X:Cx)(pins:List (Addr×Obj))(D:Ends)(f:Flow)(s':Shared):Prop :=
 match f with
 |.next=>∃σ' H',Inv X pins σ' H' s'/\D.nx σ' H'
 |.brk=>∃σ' H',Inv X pins σ' H' s'/\D.bk σ' H'
 |.cont=>∃σ' H',Inv X pins σ' H' s'/\D.ct σ' H'
 |.ret u=>∃v σ' H',Inv X pins σ' H' s'/\RelV v u/\D.rt v H'
def PE(X:Cx)(e:Expr)(t:TE):Prop :=
 ∀(pins:List (Addr×Obj))(s:Shared)(σ:St)(H:Hp)(Q:VK),Inv X pins σ H s->t σ H Q->wpAny (model X.prog X.w) X.A (eval e X.env) (EP X pins σ Q) X.xe s
def PT(X:Cx)(e:Expr)(t:TT):Prop :=
 ∀(pins:List (Addr×Obj))(s:Shared)(σ:St)(H:Hp)(Q:Bool->Hp->Prop),Inv X pins σ H s->t σ H Q->wpAny (model X.prog X.w) X.A (isTrue e X.env (eval e X.env)) (TP X pins σ Q) X.xe s
def PW(X:Cx)(e:Expr)(t:TT):Prop :=
 ∀(whole:Sem Value)(pins:List (Addr×Obj))(s:Shared)(σ:St)(H:Hp)(Q:Bool->Hp->Prop),Inv X pins σ H s->t σ H Q->wpAny (model X.prog X.w) X.A (isTrue e X.env whole) (TP X pins σ Q) X.xe s
theorem PW.pt{X:Cx}{e:Expr}{t:TT}(h:PW X e t):PT X e t:=h _
def PA(X:Cx)(es:List Expr)(t:TA):Prop :=
 ∀(pos:Pos)(pins:List (Addr×Obj))(s:Shared)(σ:St)(H:Hp)(Q:List V->Hp->Prop),Inv X pins σ H s->t σ H Q->wpAny (model X.prog X.w) X.A (spliced (backTo pos (starEach es X.env))) (AP X pins σ Q) X.xe s
def PS(X:Cx)(st:Stmt)(t:TS):Prop :=
 ∀(pins:List (Addr×Obj))(s:Shared)(σ:St)(H:Hp)(D:Ends),Inv X pins σ H s->t D σ H->wpAny (model X.prog X.w) X.A (exec st X.env) (SP X pins D) X.xe s
def PSs(X:Cx)(st:List Stmt)(t:TS):Prop :=
 ∀(pins:List (Addr×Obj))(s:Shared)(σ:St)(H:Hp)(D:Ends),Inv X pins σ H s->t D σ H->wpAny (model X.prog X.w) X.A (execs st X.env) (SP X pins D) X.xe s
theorem thn{α:Type}{t:Sem α}{Q Q':α->Shared->Prop}{M:Model}{A:Around}{E:Value->Shared->Prop}{s:Shared}(h:wpAny M A t Q E s)(hQ:∀a s,Q a s->Q' a s):wpAny M A t Q' E s:=wpAny_mono h hQ λ_ _ x=>x
end L2
namespace L2
open PySem PySem.Spec PyProof.Rows
section
variable{X:Cx}
theorem bin{a b:Expr}{ta tb:TE}(ha:PE X a ta)(hb:PE X b tb){pins:List (Addr×Obj)}{s:Shared}{σ:St}{H:Hp}{R:V->V->Hp->Prop}(I:Inv X pins σ H s)(h:ta σ H λx H1=>tb σ H1 λy H2=>R x y H2)
  {α:Type} {Q:α->Shared->Prop} {f:Value->Value->Sem α}
  (hf:∀v u s2 x y H2,Inv X pins σ H2 s2->RelV x v->RelV y u->R x y H2->wpAny (model X.prog X.w) X.A (f v u) Q X.xe s2) :
  wpAny (model X.prog X.w) X.A (eval a X.env) (λv s₁=>wpAny (model X.prog X.w) X.A (eval b X.env) (λu s₂=>wpAny (model X.prog X.w) X.A (f v u) Q X.xe s₂) X.xe s₁) X.xe s:=by
 refine thn (ha pins s σ H _ I h) λv s1 ⟨x,H1,I1,r1,q1⟩=>?_
 refine thn (hb pins s1 σ H1 _ I1 q1) λu s2 ⟨y,H2,I2,r2,q2⟩=>?_
 exact hf v u s2 x y H2 I2 r1 r2 q2
def tVar(i:Nat):TE:=λσ H Q=>∃v,σ[i]?=some (some v)/\Q v H
def tC(v:V):TE:=λ_ H Q=>Q v H
theorem afz_{i:Nat}{x:Str}{pos:Pos}(hN:X.N[i]?=some x)(hv:Vis X.env.scope x)(hd:(x==("__debug__" : Str))=false:=by decide)(hcd:(x==("__classdict__" : Str))=false:=by decide):PE X (.Name x pos) (tVar i):=by
 intro pins s σ H Q I h
 obtain⟨v,e,h⟩:=h
 obtain⟨m,hn,hl⟩:=I.loc
 obtain⟨u,r,l⟩:=hl i x v hN e hv
 have fin:EP X pins σ Q u s:=⟨v,H,I,r,h⟩
 rcases l with⟨hk,hm⟩|⟨hk,c,hc,hcell⟩
 ·exact wpAny_Name (wpAny_loadName_local I.ok.kind hk hn hm fin) hd
 ·rcases hk with hk|hk
  ·exact wpAny_Name (wpAny_loadName_cell I.ok.kind hk hc hcell fin) hd
  ·exact wpAny_Name (wpAny_loadName_free I.ok.kind hk hc hcell fin hcd) hd
theorem qf_{i j pos}:PE X (.Constant (.int i) j pos) (tC (.int i)):=λ_ _ _ H _ I h=>wpAny_Constant_int ⟨.int i,H,I.tok _,⟨_,rfl⟩,h⟩
theorem q3_{b j pos}:PE X (.Constant (.bool b) j pos) (tC (.bl b)):=λ_ _ _ H _ I h=>Constant_bool ⟨.bl b,H,I,rfl,h⟩
theorem aeh_{j pos}:PE X (.Constant .none j pos) (tC .non):=λ_ _ _ H _ I h=>Constant_none ⟨.non,H,I,rfl,h⟩
theorem j0_{x j pos}:PE X (.Constant (.str x) j pos) (tC (.str x)):=λ_ _ _ H _ I h=>Calls.Constant_str ⟨.str x,H,I.tok _,⟨_,rfl⟩,h⟩
def Gl(X:Cx)(x:Str):Prop:=X.env.kindOf x=some .globalImplicit
theorem xt_{E:Value->Shared->Prop}{pins:List (Addr×Obj)}{s:Shared}{σ:St}{H:Hp}{x:Str}{u:Value}{pos:Pos}{Q:Value->Shared->Prop}(I:Inv X pins σ H s)(hg:Gl X x)(hm:X.mg x=some u)(h:Q u s)
  (hd:(x==("__debug__" : Str))=false:=by decide):wpAny (model X.prog X.w) X.A (eval (.Name x pos) X.env) Q E s :=
 Dk I.ok.kind hg (Calls.loadGlobal_global (by rw[I.ok.glob];exact I.mod.glob.keeps I.bk) hm h) hd
theorem zH_{E:Value->Shared->Prop}{pins:List (Addr×Obj)}{s:Shared}{σ:St}{H:Hp}{x:Str}{u:Value}{pos:Pos}{Q:Value->Shared->Prop}(I:Inv X pins σ H s)(hg:Gl X x)(hm:X.mg x=none)(hv:bootBuiltins x=some u)(h:Q u s)
  (hn:x ≠ "__name__" := by decide) (hd:(x==("__debug__" : Str))=false:=by decide):wpAny (model X.prog X.w) X.A (eval (.Name x pos) X.env) Q E s:=by
 obtain⟨mb,h1,h2⟩:=I.mod.blt
 exact Dk I.ok.kind hg (Calls.loadGlobal_builtin (by rw[I.ok.glob];exact I.mod.glob.keeps I.bk) hm (by rw[I.ok.blt];exact h1.keeps I.bk) ((h2 x hn).trans hv) h) hd
theorem qZ_{x:Str}{v:V}{u:Value}{pos:Pos}(hg:Gl X x)(hm:X.mg x=some u)(r:RelV v u)(hd:(x==("__debug__" : Str))=false:=by decide):PE X (.Name x pos) (tC v) :=
 λ_ _ _ H _ I h=>xt_ I hg hm ⟨v,H,I,r,h⟩ hd
theorem jP_{x:Str}{v:V}{u:Value}{pos:Pos}(hg:Gl X x)(hm:X.mg x=none)(hv:bootBuiltins x=some u)(r:RelV v u)(hn:x ≠ "__name__" := by decide)(hd:(x==("__debug__" : Str))=false:=by decide):PE X (.Name x pos) (tC v) :=
 λ_ _ _ H _ I h=>zH_ I hg hm hv ⟨v,H,I,r,h⟩ hn hd
variable{a b:Expr}{ta tb:TE}{pos:Pos}
def PC(X:Cx)(op:CmpOp)(a b:Expr)(t:TE):Prop :=
 ∀(pins:List (Addr×Obj))(s:Shared)(σ:St)(H:Hp)(Q:VK),Inv X pins σ H s->t σ H Q ->
  wpAny (model X.prog X.w) X.A (eval a X.env) (λv s₁=>wpAny (model X.prog X.w) X.A (eval b X.env) (λu s₂=>wpAny (model X.prog X.w) X.A (compareOp op v u) (EP X pins σ Q) X.xe s₂) X.xe s₁) X.xe s
theorem agu_(b:Expr){op:CmpOp}(h:op≠.In)(h2:op≠.NotIn):behindInMarks op b=false:=by
 have e1:(op==CmpOp.In)=false:=by cases op<;>first|rfl|exact absurd rfl h
 have e2:(op==CmpOp.NotIn)=false:=by cases op<;>first|rfl|exact absurd rfl h2
 cases b<;>simp [behindInMarks,e1,e2]
def tB(t:TE):TT:=λσ H Q=>t σ H λx H1=>∃c,x=.bl c/\Q c H1
theorem asp_{op:CmpOp}{t:TE}(h:PC X op a b t)(h1:behindInMarks op b=false:=by first|exact agu_ _ (by decide) (by decide)|rfl):PT X (.Compare a [op] [b] pos) (tB t):=by
 intro pins s σ H Q I hw
 refine wpAny_isTrue_Compare1 (thn (h pins s σ H _ I hw) λv s1 h1=>thn h1 λu s2 h2=>thn h2 λc s3 ⟨x,H1,I1,r1,q1⟩=>?_) h1
 obtain⟨d,rfl,q⟩:=q1
 cases r1
 exact wpAny_truthy_bool ⟨H1,I1,q⟩
theorem zd_{e:Expr}{t:TE}(h:PE X e t)(he:∀whole,isTrue e X.env whole=(do let v <-whole;standAt e.pos;holding [v] (truthy v)):=by intro _;rfl):PT X e (tB t):=by
 intro pins s σ H Q I hw
 refine isTrue_plain (thn (h pins s σ H _ I hw) λv s1 ⟨x,H1,I1,r1,q1⟩=>?_) (he _)
 obtain⟨d,rfl,q⟩:=q1
 cases r1
 exact wpAny_truthy_bool ⟨H1,I1,q⟩
variable{tA tB':TT}{rest:List Expr}
def tAnd(t u:TT):TT:=λσ H Q=>t σ H λc H1=>if c=true then u σ H1 Q else Q false H1
def tOr(t u:TT):TT:=λσ H Q=>t σ H λc H1=>if c=true then Q true H1 else u σ H1 Q
def tNot(t:TT):TT:=λσ H Q=>t σ H λc H1=>Q (!c) H1
theorem xp_(ha:PT X a tA):PW X (.BoolOp .And [a] pos) tA:=by
 intro wh pins s σ H Q I h
 refine isTrue_and (thn (ha pins s σ H Q I h) λc s1 e=>?_)
 cases c with
 |true=>exact isTrue_and_nil e
 |false=>exact e
theorem z4_(ha:PT X a tA):PW X (.BoolOp .Or [a] pos) tA:=by
 intro wh pins s σ H Q I h
 refine isTrue_or (thn (ha pins s σ H Q I h) λc s1 e=>?_)
 cases c with
 |false=>exact isTrue_or_nil e
 |true=>exact e
theorem xQ_(ha:PT X a tA)(hb:PW X (.BoolOp .And (b::rest) pos) tB'):PW X (.BoolOp .And (a::b::rest) pos) (tAnd tA tB'):=by
 intro wh pins s σ H Q I h
 refine isTrue_and (thn (ha pins s σ H _ I h) λc s1 ⟨H1,I1,q1⟩=>?_)
 cases c with
 |true=>exact hb wh pins s1 σ H1 Q I1 q1
 |false=>exact⟨H1,I1,q1⟩
theorem jl_(ha:PT X a tA)(hb:PW X (.BoolOp .Or (b::rest) pos) tB'):PW X (.BoolOp .Or (a::b::rest) pos) (tOr tA tB'):=by
 intro wh pins s σ H Q I h
 refine isTrue_or (thn (ha pins s σ H _ I h) λc s1 ⟨H1,I1,q1⟩=>?_)
 cases c with
 |true=>exact⟨H1,I1,q1⟩
 |false=>exact hb wh pins s1 σ H1 Q I1 q1
theorem zQ_(ha:PT X a tA):PT X (.UnaryOp .Not a pos) (tNot tA):=by
 intro pins s σ H Q I h
 exact isTrue_not (ha pins s σ H (λc H1=>Q (!c) H1) I h)
def aqi_(ta tb:TE):TE:=λσ H Q=>ta σ H λx H1=>∃c,x=.bl c/\if c=true then tb σ H1 Q else Q (.bl false) H1
theorem agb_{op}{t:TE}(h:PE X a t):PE X (.BoolOp op [a] pos) t:=λpins s σ H Q I hw=>BoolOp_one (h pins s σ H Q I hw)
theorem ae2_(ha:PE X a ta)(hb:PE X (.BoolOp .And (b::rest) pos) tb):PE X (.BoolOp .And (a::b::rest) pos) (aqi_ ta tb):=by
 intro pins s σ H Q I h
 refine BoolOp_and (thn (ha pins s σ H _ I h) λv s1 ⟨x,H1,I1,r1,q1⟩=>?_)
 obtain⟨c,rfl,q1⟩:=q1
 cases r1
 refine wpAny_truthy_bool ?_
 cases c with
 |true=>exact hb pins s1 σ H1 Q I1 q1
 |false=>exact⟨.bl false,H1,I1,rfl,q1⟩
end
end L2
namespace L2
open PySem PySem.Spec PyProof.Rows
def SqL(K:PySem.W.Frag)(H:Hp)(a:Addr)(xs:List V):Prop :=
 Rd H a (.lst xs) ∨
  ∃(o:Obj)(its:Array Value)(n:Nat),K.lookup a=some o/\o.cls=.type "list" /\ o.dict=none/\o.data=.seq its n/\its.size<=sizeLine/\Vals xs its.toList
def SqT(K:PySem.W.Frag)(H:Hp)(a:Addr)(xs:List V):Prop :=
 Rd H a (.tup xs) ∨
  ∃(o:Obj)(its:Array Value)(n:Nat),K.lookup a=some o/\o.cls=.type "tuple" /\ o.data=.seq its n/\its.size<=sizeLine/\Vals xs its.toList
def absV:Value->Option V
 |.none=>some .non
 |.bool b=>some (.bl b)
 |.int i _=>some (.int i)
 |.str x _=>some (.str x)
 |.bytes b _=>some (.byt b)
 |.float b _=>some (.flt b)
 |.ref a=>some (.ref a)
 |.type n=>some (.ty n)
 |_=>none
theorem RelV.abs{x:V}{u:Value}(r:RelV x u):absV u=some x:=by
 cases x with
 |non=>cases r;rfl
 |bl _=>cases r;rfl
 |int _=>obtain⟨t,rfl⟩:=r;rfl
 |str _=>obtain⟨t,rfl⟩:=r;rfl
 |byt _=>obtain⟨t,rfl⟩:=r;rfl
 |flt _=>obtain⟨t,rfl⟩:=r;rfl
 |ref _=>cases r;rfl
 |ty _=>cases r;rfl
theorem RelV.inj{x y:V}{u:Value}(r:RelV x u)(q:RelV y u):x=y:=AW (r.abs.symm.trans q.abs)
theorem Vals.inj:∀{xs ys:List V}{us:List Value},Vals xs us->Vals ys us->xs=ys
 |_,_,_,.nil,.nil=>rfl
 |_,_,_,.cons r t,.cons r' t'=>by rw[r.inj r',Vals.inj t t']
section
variable{X:Cx}{pins:List (Addr×Obj)}{σ:St}{H:Hp}{s:Shared}{a:Addr}{xs ys:List V}
theorem SqL.of{K:PySem.W.Frag}(h:H a=some (.lst xs)):SqL K H a xs:=.inl (.inl h)
theorem SqT.of{K:PySem.W.Frag}(h:H a=some (.tup xs)):SqT K H a xs:=.inl (.inl h)
theorem Inv.list(I:Inv X pins σ H s)(h:SqL X.K H a xs):∃its:List Value,Vals xs its/\PlainL s.heap a its.toArray/\xs.length<=sizeLine:=by
 rcases h with h|⟨o,its,n,hk,hc,hd,hs,hz,r⟩
 ·obtain⟨z,its,n,r,e⟩:=h.ok I.hok
  exact⟨its,r,⟨_,n,e,rfl,rfl,rfl⟩,z⟩
 ·refine⟨its.toList,r,⟨o,n,I.kIn a o hk,hc,hd,by simpa using hs⟩,?_⟩
  have e:=r.length
  simp only[AO]at e
  omega
theorem Inv.tuple(I:Inv X pins σ H s)(h:SqT X.K H a xs):∃its:List Value,Vals xs its/\IsTup s.heap a its.toArray/\xs.length<=sizeLine:=by
 rcases h with h|⟨o,its,n,hk,hc,hs,hz,r⟩
 ·obtain⟨z,its,r,p⟩:=h.ok I.hok
  exact⟨its,r,p.tup,z⟩
 ·refine⟨its.toList,r,⟨o,I.kIn a o hk,hc,n,by simpa using hs⟩,?_⟩
  have e:=r.length
  simp only[AO]at e
  omega
theorem Inv.list_inj(I:Inv X pins σ H s)(h:SqL X.K H a xs)(h':SqL X.K H a ys):xs=ys:=by
 obtain⟨its,r,⟨o,n,e,_,_,d⟩,_⟩:=I.list h
 obtain⟨its',r',⟨o',n',e',_,_,d'⟩,_⟩:=I.list h'
 rw[e]at e';cases e'
 rw[d]at d'
 injection d' with d1 _
 have:its=its':=by simpa using congrArg Array.toList d1
 subst this
 exact r.inj r'
theorem Inv.tuple_inj(I:Inv X pins σ H s)(h:SqT X.K H a xs)(h':SqT X.K H a ys):xs=ys:=by
 obtain⟨its,r,⟨o,e,_,n,d⟩,_⟩:=I.tuple h
 obtain⟨its',r',⟨o',e',_,n',d'⟩,_⟩:=I.tuple h'
 rw[e]at e';cases e'
 rw[d]at d'
 injection d' with d1 _
 have:its=its':=by simpa using congrArg Array.toList d1
 subst this
 exact r.inj r'
end
abbrev Cx.wish(X:Cx)(E:Value->Shared->Prop):Cx:={ X with xe:=E }
abbrev Cx.nox(X:Cx):Cx:=X.wish λ_ _=>False
theorem Cx.Ok.wish{X:Cx}(ok:X.Ok)(E:Value->Shared->Prop):(X.wish E).Ok :=
 ⟨ok.mod,ok.kind,ok.glob,ok.blt,ok.above,ok.inj,ok.has,ok.cab,ok.hd,ok.frames,ok.stk,ok.exf,ok.bs,ok.bsz,ok.noex,ok.exfs,ok.funs,ok.frf⟩
theorem Cx.Ok.unwish{X:Cx}{E:Value->Shared->Prop}(ok:(X.wish E).Ok):X.Ok :=
 ⟨ok.mod,ok.kind,ok.glob,ok.blt,ok.above,ok.inj,ok.has,ok.cab,ok.hd,ok.frames,ok.stk,ok.exf,ok.bs,ok.bsz,ok.noex,ok.exfs,ok.funs,ok.frf⟩
section
variable{X:Cx}{pins:List (Addr×Obj)}{σ:St}{H:Hp}{s:Shared}{E:Value->Shared->Prop}
theorem Inv.wish(I:Inv X pins σ H s)(E:Value->Shared->Prop):Inv (X.wish E) pins σ H s:=⟨I.ok.wish E,I.os,I.bare,I.base,I.loc,I.cell,I.free,I.freeC,I.pin,I.hok,I.len⟩
theorem Inv.unwish(I:Inv (X.wish E) pins σ H s):Inv X pins σ H s:=⟨I.ok.unwish,I.os,I.bare,I.base,I.loc,I.cell,I.free,I.freeC,I.pin,I.hok,I.len⟩
theorem SP.unwish{D:Ends}{f:Flow}{s':Shared}(h:SP (X.wish E) pins D f s'):SP X pins D f s':=by
 cases f with
 |next=>obtain⟨σ',H',I,q⟩:=h;exact⟨σ',H',I.unwish,q⟩
 |brk=>obtain⟨σ',H',I,q⟩:=h;exact⟨σ',H',I.unwish,q⟩
 |cont=>obtain⟨σ',H',I,q⟩:=h;exact⟨σ',H',I.unwish,q⟩
 |ret u=>obtain⟨v,σ',H',I,r,q⟩:=h;exact⟨v,σ',H',I.unwish,r,q⟩
theorem PSs.nox{st:List Stmt}{t:TS}(h:PSs X.nox st t):PSs X st t:=λpins s σ H D I hw =>
 wpAny_mono (h pins s σ H D (I.wish _) hw) (λ_ _ q=>q.unwish) λ_ _ z=>False.elim z
end
section
variable{X:Cx}{st:Stmt}{rest:List Stmt}{t u:TS}{e:Expr}{te:TE}{pos:Pos}
def ao3_:TS:=λD σ H=>D.nx σ H
def tSeq(t u:TS):TS:=λD σ H=>t { D with nx:=u D } σ H
theorem qt_:PSs X [] ao3_:=λ_ _ σ H _ I h=>wpAny_execs_nil ⟨σ,H,I,h⟩
theorem qe_(h1:PS X st t)(h2:PSs X rest u):PSs X (st::rest) (tSeq t u):=by
 intro pins s σ H D I h
 refine wpAny_execs_cons (thn (h1 pins s σ H { D with nx:=u D } I h) λf s1 q=>?_)
 cases f with
 |next =>
  obtain⟨σ',H',I',q⟩:=q
  exact h2 pins s1 σ' H' D I' q
 |ret v=>exact q
 |brk=>exact q
 |cont=>exact q
theorem qg_(h1:PS X st t):PSs X [st] t:=by
 intro pins s σ H D I h
 refine wpAny_execs_cons (thn (h1 pins s σ H D I h) λf s1 q=>?_)
 cases f with
 |next=>exact wpAny_execs_nil q
 |ret v=>exact q
 |brk=>exact q
 |cont=>exact q
theorem Inv.quiet{pins:List (Addr×Obj)}{σ:St}{H:Hp}{s:Shared}(I:Inv X pins σ H s):interactive X.env=false:=by simp [interactive,I.ok.kind]
def apv_(te:TE):TS:=λD σ H=>te σ H λ_ H1=>D.nx σ H1
theorem zp_(he:PE X e te)(hs:swapsWith e none pos.line X.env=pure false:=by rfl):PS X (.Expr e pos) (apv_ te):=by
 intro pins s σ H D I h
 exact wpAny_Expr_any (thn (he pins s σ H _ I h) λv s1 ⟨x,H1,I1,r1,q1⟩=>⟨σ,H1,I1,q1⟩) I.quiet hs
def tRet(te:TE):TS:=λD σ H=>te σ H D.rt
theorem qq_(he:PE X e te):PS X (.Return (some e) pos) (tRet te):=by
 intro pins s σ H D I h
 exact wpAny_Return_some (thn (he pins s σ H _ I h) λv s1 ⟨x,H1,I1,r1,q1⟩=>⟨x,σ,H1,I1,r1,q1⟩)
def tIfS(c:TT)(t u:TS):TS:=λD σ H=>c σ H λb H1=>if b=true then t D σ H1 else u D σ H1
theorem qD_{c:Expr}{a b:List Stmt}{tc:TT}(hc:PT X c tc)(ha:PSs X a t)(hb:PSs X b u):PS X (.If c a b pos) (tIfS tc t u):=by
 intro pins s σ H D I h
 refine wpAny_If (thn (hc pins s σ H _ I h) λd s1 ⟨H1,I1,q1⟩=>?_)
 cases d with
 |true=>exact ha pins s1 σ H1 D I1 q1
 |false=>exact hb pins s1 σ H1 D I1 q1
def am8_:TS:=λ_ _ _=>False
theorem aar_:PS X st am8_:=λ_ _ _ _ _ _ h=>h.elim
end
abbrev TG:=V->St->Hp->(St->Hp->Prop)->Prop
abbrev TGs:=List V->St->Hp->(St->Hp->Prop)->Prop
def PG(X:Cx)(target:Expr)(t:TG):Prop :=
 ∀(pins:List (Addr×Obj))(s:Shared)(σ:St)(H:Hp)(v:V)(u:Value)(Q:St->Hp->Prop),Inv X pins σ H s->RelV v u->t v σ H Q ->
  wpAny (model X.prog X.w) X.A (assign target X.env u) (λ_ s'=>∃σ' H',Inv X pins σ' H' s'/\Q σ' H') X.xe s
def PGs(X:Cx)(ts:List Expr)(t:TGs):Prop :=
 ∀(pins:List (Addr×Obj))(s:Shared)(σ:St)(H:Hp)(vs:List V)(us:List Value)(Q:St->Hp->Prop),Inv X pins σ H s->Vals vs us->t vs σ H Q ->
  wpAny (model X.prog X.w) X.A (assignInOrder ((assignEach ts X.env).map (·.2)) us) (λ_ s'=>∃σ' H',Inv X pins σ' H' s'/\Q σ' H') X.xe s
abbrev TSet:=V->V->V->Hp->(Hp->Prop)->Prop
def PSet(X:Cx)(t:TSet):Prop :=
 ∀(pins:List (Addr×Obj))(s:Shared)(σ:St)(H:Hp)(o i v:V)(ov iv u:Value)(Q:Hp->Prop),Inv X pins σ H s->RelV o ov->RelV i iv->RelV v u->t o i v H Q ->
  wpAny (model X.prog X.w) X.A (setItem ov iv u) (λ_ s'=>∃H',Inv X pins σ H' s'/\Q H') X.xe s
abbrev TIp:=V->V->Hp->VK->Prop
def PIp(X:Cx)(op:Operator)(t:TIp):Prop :=
 ∀(pins:List (Addr×Obj))(s:Shared)(σ:St)(H:Hp)(x y:V)(v u:Value)(Q:VK),Inv X pins σ H s->RelV x v->RelV y u->t x y H Q ->
  wpAny (model X.prog X.w) X.A (inplaceOp op v u) (EP X pins σ Q) X.xe s
section
variable{X:Cx}{pos:Pos}
def zy_(i:Nat):TG:=λv σ H Q=>Q (σ.set i (some v)) H
theorem qk_{i:Nat}{x:Str}(hN:X.N.Nodup)(hi:X.N[i]?=some x)(hx:Loc X.env.scope x)(hf:X.fn x=true∨X.env.scope.names.lookup x=some .local:=by first|exact .inl rfl|exact .inr rfl|assumption):PG X (.Name x pos) (zy_ i):=by
 intro pins s σ H v u Q I r h
 exact wpAny_assign_Name (yy_ I hN hi hx r (λs' I'=>⟨_,H,I',h⟩) hf)
def gNil:TGs:=λvs σ H Q=>vs=[]/\Q σ H
def apw_(t:TG)(u:TGs):TGs:=λvs σ H Q=>∃v r,vs=v::r/\t v σ H λσ' H'=>u r σ' H' Q
theorem zT_:PGs X [] gNil:=by
 intro pins s σ H vs us Q I r h
 obtain⟨e,h⟩:=h
 subst e
 cases r
 exact assignInOrder_nil ⟨σ,H,I,h⟩
theorem qK_{e:Expr}{es:List Expr}{t:TG}{u:TGs}(h1:PG X e t)(h2:PGs X es u)
  (hs:(assignEach (e::es) X.env).map (·.2)=assign e X.env::(assignEach es X.env).map (·.2):=by rfl):PGs X (e::es) (apw_ t u):=by
 intro pins s σ H vs us Q I r h
 obtain⟨v,vr,e1,h⟩:=h
 subst e1
 cases r with
 |cons r rr =>
  rw[hs]
  refine assignInOrder_cons (thn (h1 pins s σ H _ _ _ I r h) λ_ s1 ⟨σ1,H1,I1,q1⟩=>?_)
  exact h2 pins s1 σ1 H1 _ _ Q I1 rr q1
def gTup(K:PySem.W.Frag)(n:Nat)(t:TGs):TG:=λv σ H Q=>∃a xs,v=.ref a/\SqT K H a xs/\xs.length=n/\t xs σ H Q
theorem jk_{es:List Expr}{k:Nat}{t:TGs}{n:Nat}(hc:X.calm=true)(h:PGs X es t)
  (hn:(assignEach es X.env).length=n:=by rfl) (hst:(assignEach es X.env).findIdx? (·.1)=none:=by rfl):PG X (.Tuple es k pos) (gTup X.K n t):=by
 intro pins s σ H v u Q I r hw
 obtain⟨a,xs,e1,hq,hl,hw⟩:=hw
 subst e1
 cases r
 obtain⟨its,rv,ht,hz⟩:=I.tuple hq
 refine assign_Tuple_tuple (I.ok.hd hc) ht (by simp [hn,<-hl,rv.length]) hst λh' hx=>?_
 have I1:Inv X pins σ H { s with heap:=h' }:=I.kept (t':=s.toks) λb o e=>hx b o (Af (AM e)) e
 exact h pins _ σ H xs _ Q I1 (by simpa using rv) hw
def gSub(to ti:TE)(t:TSet):TG:=λv σ H Q=>to σ H λo H1=>ti σ H1 λi H2=>t o i v H2 λH3=>Q σ H3
theorem afr_{o i:Expr}{to ti:TE}{t:TSet}(ho:PE X o to)(hi:PE X i ti)(hs:PSet X t)
  (ha:∀v,assign (.Subscript o i pos) X.env v=(do
   let ov <-holding [v] (eval o X.env)
   let iv <-holding [v,ov] (eval i X.env)
   standAt pos
   holding [v,ov,iv] (setItem ov iv v)
   release [v,ov,iv] []):=by intro _;rfl):PG X (.Subscript o i pos) (gSub to ti t):=by
 intro pins s σ H v u Q I r h
 rw[ha]
 refine wpAny_bind (wpAny_holding (thn (ho pins s σ H _ I h) λov s1 ⟨x,H1,I1,r1,q1⟩=>?_))
 refine wpAny_bind (wpAny_holding (thn (hi pins s1 σ H1 _ I1 q1) λiv s2 ⟨y,H2,I2,r2,q2⟩=>?_))
 refine wpAny_bind (wpAny_standAt (wpAny_bind (wpAny_holding (thn (hs pins s2 σ H2 x y v ov iv u _ I2 r1 r2 r q2) λ_ s3 ⟨H3,I3,q3⟩=>?_))))
 exact wpAny_release ⟨σ,H3,I3,q3⟩
def tAsg(te:TE)(g:TG):TS:=λD σ H=>te σ H λx H1=>g x σ H1 D.nx
theorem abi_{tg e:Expr}{te:TE}{g:TG}(he:PE X e te)(hg:PG X tg g)(hs:swapsWithSole [tg] e pos.line X.env=pure false:=by rfl)(hw:swappedStores [tg] e X.env=pure none:=by rfl)
  (h1:(assignEach [tg] X.env).map (·.2)=[assign tg X.env]:=by rfl):PS X (.Assign [tg] e pos) (tAsg te g):=by
 intro pins s σ H D I h
 refine wpAny_Assign_stores (thn (he pins s σ H _ I h) λv s1 ⟨x,H1,I1,r1,q1⟩=>?_) hs hw
 rw[h1]
 exact thn (hg pins s1 σ H1 x v _ I1 r1 q1) λ_ s2 q=>q
theorem qp_{i:Nat}{x:Str}{e:Expr}{te:TE}{pos':Pos}(hN:X.N.Nodup)(hi:X.N[i]?=some x)(hx:Loc X.env.scope x)(he:PE X e te)(hs:swapsWith e (some (.Name x pos')) pos.line X.env=pure false:=by rfl)(hf:X.fn x=true∨X.env.scope.names.lookup x=some .local:=by first|exact .inl rfl|exact .inr rfl|assumption) :
  PS X (.Assign [.Name x pos'] e pos) (tAsg te (zy_ i)):=by
 intro pins s σ H D I h
 refine wpAny_Assign_Name (thn (he pins s σ H _ I h) λv s1 ⟨y,H1,I1,r1,q1⟩=>?_) hs
 exact yy_ I1 hN hi hx r1 (λs2 I2=>⟨_,H1,I2,q1⟩) hf
def an9_(to ti te:TE)(tget:V->V->Hp->VK->Prop)(tip:TIp)(tset:TSet):TS:=λD σ H=>to σ H λo H1=>ti σ H1 λi H2=>tget o i H2 λx H3=>te σ H3 λy H4=>tip x y H4 λz H5=>tset o i z H5 λH6=>D.nx σ H6
def PGet(X:Cx)(t:V->V->Hp->VK->Prop):Prop :=
 ∀(pins:List (Addr×Obj))(s:Shared)(σ:St)(H:Hp)(o i:V)(ov iv:Value)(Q:VK),Inv X pins σ H s->RelV o ov->RelV i iv->t o i H Q ->
  wpAny (model X.prog X.w) X.A (getItem ov iv) (EP X pins σ Q) X.xe s
theorem akl_{o i e:Expr}{to ti te:TE}{tget:V->V->Hp->VK->Prop}{tip:TIp}{tset:TSet}{op:Operator}{tpos:Pos}(ho:PE X o to)(hi:PE X i ti)(hg:PGet X tget)(he:PE X e te)(hp:PIp X op tip)(hs:PSet X tset)
  (ha:∀ov iv new,augStore i ov iv new=(do holding [new,ov,iv] (setItem ov iv new);release [new,ov,iv] [];pure .next):=by intros;rfl):PS X (.AugAssign (.Subscript o i tpos) op e pos) (an9_ to ti te tget tip tset):=by
 intro pins s σ H D I h
 refine wpAny_AugAssign_SubscriptAny (thn (ho pins s σ H _ I h) λov s1 ⟨x1,H1,I1,r1,q1⟩=>?_) ha
 refine thn (hi pins s1 σ H1 _ I1 q1) λiv s2 ⟨x2,H2,I2,r2,q2⟩=>?_
 refine thn (hg pins s2 σ H2 x1 x2 ov iv _ I2 r1 r2 q2) λold s3 ⟨x3,H3,I3,r3,q3⟩=>?_
 refine thn (he pins s3 σ H3 _ I3 q3) λv s4 ⟨x4,H4,I4,r4,q4⟩=>?_
 refine thn (hp pins s4 σ H4 x3 x4 old v _ I4 r3 r4 q4) λnew s5 ⟨x5,H5,I5,r5,q5⟩=>?_
 exact thn (hs pins s5 σ H5 x1 x2 x5 ov iv new _ I5 r1 r2 r5 q5) λ_ s6 ⟨H6,I6,q6⟩=>⟨σ,H6,I6,q6⟩
def ipI(f:Int->Int->Int):TIp:=λx y H Q=>∃i j,x=.int i/\y=.int j/\Q (.int (f i j)) H
theorem amo_:PIp X .Add (ipI λi j=>i+j):=by
 intro pins s σ H x y v u Q I r1 r2 h
 obtain⟨i,j,e1,e2,q⟩:=h
 subst e1;subst e2
 obtain⟨t,rfl⟩:=r1
 obtain⟨t',rfl⟩:=r2
 exact iadd_int ⟨.int _,H,I.tok _,⟨_,rfl⟩,q⟩
end
section
variable{X:Cx}{pos:Pos}
def anx_(c:TT)(tb:TS):TS:=λD σ H=>∃W:Nat->St->Hp->Prop,(∃m,W m σ H)/\∀m σ H,W m σ H ->
 c σ H λb H1=>if b=true then ∃N:St->Hp->Prop,(∀σ' H',N σ' H'->∃m',m'<m/\W m' σ' H')/\tb { D with nx:=N,ct:=N,bk:=D.nx } σ H1 else D.nx σ H1
theorem ahq_{c:Expr}{body:List Stmt}{tc:TT}{tb:TS}(hp:PassesOwn (model X.prog X.w) X.A X.env X.xe)(hc:PT X c tc)(hb:PSs X body tb):PS X (.While c body [] pos) (anx_ tc tb):=by
 intro pins s σ H D I h
 obtain⟨W,⟨m0,w0⟩,turn⟩:=h
 refine wpAny_While (codeAny_whileLoop (λn s'=>∃σ' H',Inv X pins σ' H' s'/\W n σ' H') ?_ m0 ⟨σ,H,I,w0⟩)
 rintro n s1 ⟨σ1,H1,I1,w1⟩
 refine wpAny_passesOwn hp (thn (hc pins s1 σ1 H1 _ I1 (turn n σ1 H1 w1)) λb s2 ⟨H2,I2,q2⟩=>?_)
 cases b with
 |true =>
  obtain⟨N,hN,q2⟩:=q2
  rw[if_pos rfl]
  refine wpAny_passesOwn hp (thn (hb pins s2 σ1 H2 _ I2 q2) λf s3 q3=>?_)
  cases f with
  |next =>
   obtain⟨σ3,H3,I3,n3⟩:=q3
   obtain⟨m',hm,w3⟩:=hN σ3 H3 n3
   exact⟨m',hm,σ3,H3,I3,w3⟩
  |cont =>
   obtain⟨σ3,H3,I3,n3⟩:=q3
   obtain⟨m',hm,w3⟩:=hN σ3 H3 n3
   exact⟨m',hm,σ3,H3,I3,w3⟩
  |brk=>exact q3
  |ret v=>exact q3
 |false =>
  rw[if_neg AS]
  exact wpAny_execs_nil ⟨σ1,H2,I2,q2⟩
end
structure It where
 go:Nat->Hp->Prop
 yld:Nat->Hp->V->Hp->Prop
 stop:Nat->Hp->Prop
def js_(X:Cx)(pins:List (Addr×Obj))(H:Hp)(b:Addr):Prop :=
 H b=none/\b≠X.env.locals/\b∉X.fs/\(b∈X.ex∨X.s₀.heap.objs.size<=b)/\(∀x c,X.env.cells.lookup x=some c->c≠b)/\∀p∈X.pn++pins,p.1≠b
theorem Inv.fpOk{X:Cx}{pins:List (Addr×Obj)}{σ:St}{H H':Hp}{s:Shared}{b:Addr}(I:Inv X pins σ H s)(hb:s.heap.objs.size<=b)(hn:H' b=none):js_ X pins H' b:=by
 refine⟨hn,CF (AZ I.lt hb),I.nofs hb,.inr (Ag I.sz hb),λx c e z=>?_,λp hp z=>?_⟩
 ·obtain⟨v,q⟩:=I.cell x c e
  exact absurd (AZ q.lt (by rw[z];exact hb)) (Bh _)
 ·exact absurd (AZ (AM (I.pin p hp).1) (by rw[z];exact hb)) (Bh _)
structure Turn(P:Program)(w:World)(K:PySem.W.Frag)(tg:Expr)(J:It)(fp:List Addr)(it:Addr)(tn:Nat->Heap->Prop):Prop where
 mem:it∈fp
 obj:∀i h,tn i h->∀b∈fp,∃o,h.get? b=some o/\∀v,o.data≠.cell v
 keep:∀i h h',tn i h->(∀b∈fp,∀o,h.get? b=some o->h'.get? b=some o)->tn i h'
 item:∀(X:Cx),X.prog=P->X.w=w->X.K=K->X.calm=true->∀(i:Nat)(pins:List (Addr×Obj))(s:Shared)(σ:St)(H:Hp)(E:Value->Shared->Prop),Inv X pins σ H s->(∀b∈fp,js_ X pins H b)->tn i s.heap->J.go i H ->
  wpAny (model P w) X.A (pyNext (.ref it)) (λr s1=>∃u,r=some u /\
   wpAny (model P w) X.A (letOwnedTupleGo tg (.ref it) u) (λ_ s2=>∃x H',Inv X pins σ H' s2/\RelV x u/\J.yld i H x H'/\tn (i+1) s2.heap/\∀b∈fp,H' b=none) E s1) E s
 done:∀(X:Cx),X.prog=P->X.w=w->X.K=K->X.calm=true->∀(i:Nat)(pins:List (Addr×Obj))(s:Shared)(σ:St)(H:Hp)(E:Value->Shared->Prop),Inv X pins σ H s->(∀b∈fp,js_ X pins H b)->tn i s.heap->J.stop i H ->
  wpAny (model P w) X.A (pyNext (.ref it)) (λr s1=>r=none/\Inv X pins σ H s1) E s
 self:∀(A:Around)(i:Nat)(s:Shared)(Q:Value->Shared->Prop)(E:Value->Shared->Prop),tn i s.heap->Q (.ref it) s->wpAny (model P w) A (pyIter (.ref it)) Q E s
abbrev TI:=St->Hp->(It->Hp->Prop)->Prop
def PIE(X:Cx)(pins:List (Addr×Obj))(σ:St)(tg:Expr)(R:It->Hp->Prop)(itv:Value)(s2:Shared):Prop :=
 ∃(it:Addr)(fp:List Addr)(tn:Nat->Heap->Prop)(J:It)(H':Hp),itv=.ref it/\Inv X pins σ H' s2/\Turn X.prog X.w X.K tg J fp it tn/\tn 0 s2.heap/\(∀b∈fp,js_ X pins H' b)/\R J H'
def PI(X:Cx)(tg iter:Expr)(wi:TI):Prop :=
 ∀(pins:List (Addr×Obj))(s:Shared)(σ:St)(H:Hp)(R:It->Hp->Prop),Inv X pins σ H s->wi σ H R ->
  wpAny (model X.prog X.w) X.A (eval iter X.env) (λv s1=>wpAny (model X.prog X.w) X.A (pyIter v) (PIE X pins σ tg R) X.xe s1) X.xe s
theorem yf_{M:Model}{A:Around}{E:Value->Shared->Prop}{s:Shared}{tg:Expr}{it:Addr}{u:Value}{o:Obj}{n:String}{vs:Array Value}{Q:Unit->Shared->Prop}(ho:s.heap.get? it=some o)(hc:o.cls=.type n)(hd:o.data=.fields vs)
  (hn:["enumerate", "zip", "dict_itemiterator", "dict_reverseitemiterator", "odict_iterator", "itertools.zip_longest", "itertools.pairwise"].contains n=false) (hQ:Q () s):wpAny M A (letOwnedTupleGo tg (.ref it) u) Q E s:=by
 unfold letOwnedTupleGo
 cases tg<;>first
  |exact wpAny_pure hQ
  | (cases u<;>first
    |exact wpAny_pure hQ
    | (refine wpAny_bind (wpAny_load ho ?_)
       rw[hc,hd]
       show wpAny M A (if (["enumerate", "zip", "dict_itemiterator", "dict_reverseitemiterator", "odict_iterator", "itertools.zip_longest", "itertools.pairwise"].contains n&&vs[0]?==some (rawInt _))=true then _ else _) Q E s
       rw[if_neg (by intro h;rw[hn,EU]at h;cases h)]
       exact wpAny_pure hQ))
def Itl(K:PySem.W.Frag)(a:Addr):It :=
 ⟨λi H=>∃xs x,SqL K H a xs/\xs[i]?=some x,λi H x H'=>H'=H/\∀xs,SqL K H a xs->xs[i]?=some x,λi H=>∃xs,SqL K H a xs/\xs.length<=i⟩
def Itt(K:PySem.W.Frag)(a:Addr):It :=
 ⟨λi H=>∃xs x,SqT K H a xs/\xs[i]?=some x,λi H x H'=>H'=H/\∀xs,SqT K H a xs->xs[i]?=some x,λi H=>∃xs,SqT K H a xs/\xs.length<=i⟩
def Itr(lo:Int)(n:Nat):It:=⟨λi _=>i<n,λi H x H'=>H'=H/\x=.int (lo+i),λi _=>n<=i⟩
theorem aek_{P:Program}{w:World}{K:PySem.W.Frag}{tg:Expr}(a it:Addr):Turn P w K tg (Itl K a) [it] it (λi h=>h.IsListIter it a i) where
 mem:=by simp
 obj:=λi h st b hb=>by
  have e:b=it:=by simpa using hb
  subst e
  obtain⟨o,e,c,d⟩:=st
  exact⟨o,e,λv z=>by rw[d]at z;cases z⟩
 keep:=λi h h' st k=>st.at λo e=>k it (by simp) o e
 item:=by
  intro X hP hw hK hc i pins s σ H E I hf st hg
  subst hP hw hK
  obtain⟨xs,x,hq,hx⟩:=hg
  obtain⟨its,rv,p,hz⟩:=I.list hq
  obtain⟨u,hu,ru⟩:=rv.get hx
  obtain⟨f0,f1,f2,f3,f4,f5⟩:=hf it (by simp)
  refine wpAny_pyNext_list_item st p.isList (x:=u) (by simpa using hu) λh' st' sb=>?_
  have I1:Inv X pins σ H { s with heap:=h' }:=I.turned (t':=s.toks) (λb o hb e=>(sb.2 b hb).trans e) f0 f1 f3 f4 f5
  obtain⟨o,e,c,d⟩:=id st'
  exact⟨u,rfl,yf_ (s:={ s with heap:=h' }) e c d (by decide) ⟨x,H,I1,ru,⟨rfl,λys hy=>by rw[I.list_inj hy hq];exact hx⟩,st',λb hb=>(hf b hb).1⟩⟩
 done:=by
  intro X hP hw hK hc i pins s σ H E I hf st hg
  subst hP hw hK
  obtain⟨xs,hq,hx⟩:=hg
  obtain⟨its,rv,p,hz⟩:=I.list hq
  obtain⟨f0,f1,f2,f3,f4,f5⟩:=hf it (by simp)
  have hl:=rv.length
  exact wpAny_pyNext_list_end (I.ok.hd hc) st p.isList (by simp;omega) λh' eb=>⟨rfl,I.turned (t':=s.toks) (λb o hb e=>eb b o hb e) f0 f1 f3 f4 f5⟩
 self:=λ_ _ _ _ _ st h=>wpAny_pyIter_listiter st h
theorem ac6_{P:Program}{w:World}{K:PySem.W.Frag}{tg:Expr}(a it:Addr):Turn P w K tg (Itt K a) [it] it (λi h=>h.IsTupleIter it a i) where
 mem:=by simp
 obj:=λi h st b hb=>by
  have e:b=it:=by simpa using hb
  subst e
  obtain⟨o,e,c,d⟩:=st
  exact⟨o,e,λv z=>by rw[d]at z;cases z⟩
 keep:=λi h h' st k=>st.at λo e=>k it (by simp) o e
 item:=by
  intro X hP hw hK hc i pins s σ H E I hf st hg
  subst hP hw hK
  obtain⟨xs,x,hq,hx⟩:=hg
  obtain⟨its,rv,p,hz⟩:=I.tuple hq
  obtain⟨u,hu,ru⟩:=rv.get hx
  obtain⟨f0,f1,f2,f3,f4,f5⟩:=hf it (by simp)
  refine wpAny_pyNext_tuple_item st (show s.heap.IsTuple a its.toArray from p) (x:=u) (by simpa using hu) λh' st' sb=>?_
  have I1:Inv X pins σ H { s with heap:=h' }:=I.turned (t':=s.toks) (λb o hb e=>(sb.2 b hb).trans e) f0 f1 f3 f4 f5
  obtain⟨o,e,c,d⟩:=id st'
  exact⟨u,rfl,yf_ (s:={ s with heap:=h' }) e c d (by decide) ⟨x,H,I1,ru,⟨rfl,λys hy=>by rw[I.tuple_inj hy hq];exact hx⟩,st',λb hb=>(hf b hb).1⟩⟩
 done:=by
  intro X hP hw hK hc i pins s σ H E I hf st hg
  subst hP hw hK
  obtain⟨xs,hq,hx⟩:=hg
  obtain⟨its,rv,p,hz⟩:=I.tuple hq
  obtain⟨f0,f1,f2,f3,f4,f5⟩:=hf it (by simp)
  have hl:=rv.length
  exact wpAny_pyNext_tuple_end (I.ok.hd hc) st (show s.heap.IsTuple a its.toArray from p) (by simp;omega) λh' eb=>⟨rfl,I.turned (t':=s.toks) (λb o hb e=>eb b o hb e) f0 f1 f3 f4 f5⟩
 self:=λ_ _ _ _ _ st h=>wpAny_pyIter_tupleiter st h
theorem adq_{P:Program}{w:World}{K:PySem.W.Frag}{tg:Expr}(it:Addr)(lo:Int)(n:Nat):Turn P w K tg (Itr lo n) [it] it (λi h=>IsRangeIter h it (lo+(i:Nat)*1) ((n:Int)-(i:Nat)) 1) where
 mem:=by simp
 obj:=λi h st b hb=>by
  have e:b=it:=by simpa using hb
  subst e
  exact⟨_,st,λv z=>by
   have z':Data.fields _=Data.cell v:=z
   cases z'⟩
 keep:=λi h h' st k=>k it (by simp) _ st
 item:=by
  intro X hP hw hK hc i pins s σ H E I hf st hg
  subst hP hw hK
  obtain⟨f0,f1,f2,f3,f4,f5⟩:=hf it (by simp)
  have W:=Walks.range (prog:=X.prog) (w:=X.w) (I.ok.hd hc) it lo 1 n
  refine W.item i s _ _ hg st λv h' tk hv st' kk=>?_
  obtain⟨t,rfl⟩:=hv
  have I1:Inv X pins σ H { s with heap:=h',toks:=tk }:=I.turned (λb o hb e=>kk b o (by simpa using hb) e) f0 f1 f3 f4 f5
  refine⟨_,rfl,yf_ (s:={ s with heap:=h',toks:=tk }) (n := "range_iterator") st' rfl rfl (by decide) ⟨.int (lo+i),H,I1,⟨t,?_⟩,⟨rfl,rfl⟩,st',λb hb=>(hf b hb).1⟩⟩
  rw[Int.mul_one]
 done:=by
  intro X hP hw hK hc i pins s σ H E I hf st hg
  subst hP hw hK
  obtain⟨f0,f1,f2,f3,f4,f5⟩:=hf it (by simp)
  exact wpAny_pyNext_range_end (I.ok.hd hc) st (by have:n<=i:=hg;omega) λh' eb=>⟨rfl,I.turned (t':=s.toks) (λb o hb e=>eb b o hb e) f0 f1 f3 f4 f5⟩
 self:=λ_ _ _ _ _ st h=>wpAny_pyIter_rangeiter st h
end L2
namespace L2
open PySem PySem.Spec PyProof.Rows
section
variable{X:Cx}{tg:Expr}
def ap2_(K:PySem.W.Frag)(tl:TE):TI:=λσ H R=>tl σ H λx H1=>∃a,x=.ref a/\(∃xs,SqL K H1 a xs)/\R (Itl K a) H1
def iTup(K:PySem.W.Frag)(tl:TE):TI:=λσ H R=>tl σ H λx H1=>∃a,x=.ref a/\(∃xs,SqT K H1 a xs)/\R (Itt K a) H1
theorem q0_{l:Expr}{tl:TE}(hl:PE X l tl):PI X tg l (ap2_ X.K tl):=by
 intro pins s σ H R I h
 refine thn (hl pins s σ H _ I h) λv s1 ⟨x,H1,I1,r1,q1⟩=>?_
 obtain⟨a,e,⟨xs,hq⟩,q⟩:=q1
 subst e
 cases r1
 obtain⟨its,rv,p,hz⟩:=I1.list hq
 refine wpAny_pyIter_list p.isList ?_
 refine⟨s1.heap.objs.size,[s1.heap.objs.size],_,_,H1,rfl,I1.kept (t':=s1.toks) λb o e=>AB _ e,aek_ a _,⟨_,AL _ rfl,rfl,rfl⟩,λb hb=>?_,q⟩
 have e:b=s1.heap.objs.size:=by simpa using hb
 subst e
 exact I1.fpOk (AH _) (I1.hok.fresh (AH _))
theorem z3_{l:Expr}{tl:TE}(hl:PE X l tl):PI X tg l (iTup X.K tl):=by
 intro pins s σ H R I h
 refine thn (hl pins s σ H _ I h) λv s1 ⟨x,H1,I1,r1,q1⟩=>?_
 obtain⟨a,e,⟨xs,hq⟩,q⟩:=q1
 subst e
 cases r1
 obtain⟨its,rv,p,hz⟩:=I1.tuple hq
 refine wpAny_pyIter_tuple (show s1.heap.IsTuple a its.toArray from p) ?_
 refine⟨s1.heap.objs.size,[s1.heap.objs.size],_,_,H1,rfl,I1.kept (t':=s1.toks) λb o e=>AB _ e,ac6_ a _,⟨_,AL _ rfl,rfl,rfl⟩,λb hb=>?_,q⟩
 have e:b=s1.heap.objs.size:=by simpa using hb
 subst e
 exact I1.fpOk (AH _) (I1.hok.fresh (AH _))
theorem abj_{pins:List (Addr×Obj)}{σ:St}{H:Hp}{s:Shared}{R:It->Hp->Prop}{E:Value->Shared->Prop}{lo hi:Int}{t u v:Tok}{tk:Nat}(I:Inv X pins σ H s)(h1:-(2^62)<=lo)(h2:lo<2^62)(h3:-(2^62)<=hi)(h4:hi<2^62)
  (q:R (Itr lo (hi-lo).toNat) H):wpAny (model X.prog X.w) X.A (pyIter (.ref s.heap.objs.size)) (PIE X pins σ tg R) E { s with heap:=s.heap.push { cls:=.type "range",data:=.fields #[.int lo t,.int hi u,.int 1 v] },toks:=tk }:=by
 refine wpAny_pyIter_range (IsRange.new ..) (small_one h1 h2 h3 h4) ?_
 have I1:Inv X pins σ H { s with heap:=s.heap.push { cls:=.type "range",data:=.fields #[.int lo t,.int hi u,.int 1 v] },toks:=tk }:=I.kept λb o e=>AB _ e
 refine⟨(s.heap.push { cls:=.type "range",data:=.fields #[.int lo t,.int hi u,.int 1 v] }).objs.size,[(s.heap.push { cls:=.type "range",data:=.fields #[.int lo t,.int hi u,.int 1 v] }).objs.size],_,_,H,rfl,
  I1.kept (t':=tk) λb o e=>AB _ e,adq_ _ lo (hi-lo).toNat,?_,λb hb=>?_,q⟩
 ·have e1:lo+((0:Nat):Int)*1=lo:=by simp
  have e2:(((hi-lo).toNat:Nat):Int)-((0:Nat):Int)=Builtin.Range.rangeSize lo hi 1:=by rw[rangeSize_one];split<;>omega
  show IsRangeIter _ _ (lo+((0:Nat):Int)*1) ((((hi-lo).toNat:Nat):Int)-((0:Nat):Int)) 1
  rw[e1,e2]
  exact AL _ rfl
 ·have e:b=(s.heap.push { cls:=.type "range",data:=.fields #[.int lo t,.int hi u,.int 1 v] }).objs.size:=by simpa using hb
  subst e
  exact I1.fpOk (AH _) (I1.hok.fresh (AH _))
def aqg_(ta:TA):TI:=λσ H R=>ta σ H λvs H1=>∃j:Int,vs=[.int j]/\-(2^62)<=j/\j<2^62/\R (Itr 0 j.toNat) H1
def aor_(ta:TA):TI:=λσ H R=>ta σ H λvs H1=>∃i j:Int,vs=[.int i,.int j]/\(-(2^62)<=i/\i<2^62/\-(2^62)<=j/\j<2^62)/\R (Itr i (j-i).toNat) H1
theorem zA_{a:Expr}{ta:TA}{p pos:Pos}(hg:Gl X "range")(hm:X.mg "range" = none)(ha:PA X [a] ta)(hs:starEach [a] X.env=[(false,eval a X.env)]:=by rfl):PI X tg (.Call (.Name "range" p) [a] [] pos) (aqg_ ta):=by
 intro pins s σ H R I h
 refine Call_ (zH_ I hg hm boot_range (BG (thn (ha pos pins s σ H _ I h) λus s1 ⟨vs,H1,I1,r1,q1⟩=>?_) hs rfl))
 obtain⟨j,e,q1,q2,q⟩:=q1
 subst e
 cases r1 with
 |cons r rr =>
  cases rr
  obtain⟨t,rfl⟩:=r
  exact call_range_1 (abj_ I1 (by omega) (by omega) q1 q2 (by simpa using q))
theorem x2_{a b:Expr}{ta:TA}{p pos:Pos}(hg:Gl X "range")(hm:X.mg "range" = none)(ha:PA X [a,b] ta)(hs:starEach [a,b] X.env=[(false,eval a X.env),(false,eval b X.env)]:=by rfl)(hs2:starEach [b] X.env=[(false,eval b X.env)]:=by rfl) :
  PI X tg (.Call (.Name "range" p) [a,b] [] pos) (aor_ ta):=by
 intro pins s σ H R I h
 refine Call_ (zH_ I hg hm boot_range (BG (thn (ha pos pins s σ H _ I h) λus s1 ⟨vs,H1,I1,r1,q1⟩=>?_) (by rw[hs,hs2]) (by rw[hs2];rfl)))
 obtain⟨i,j,e,⟨q1,q2,q3,q4⟩,q⟩:=q1
 subst e
 cases r1 with
 |cons r rr =>
  cases rr with
  |cons r' rr =>
   cases rr
   obtain⟨t,rfl⟩:=r
   obtain⟨t',rfl⟩:=r'
   exact call_range_2 (abj_ I1 q1 q2 q3 q4 q)
def tFor(wi:TI)(g:TG)(tb:TS):TS:=λD σ H=>wi σ H λJ H1=>∃W:Nat->Nat->St->Hp->Prop,(∃m,W 0 m σ H1)/\∀i m σ H,W i m σ H ->
 (J.stop i H/\D.nx σ H)∨(J.go i H/\∃N:St->Hp->Prop,(∀σ' H',N σ' H'->∃m',m'<m/\W (i+1) m' σ' H')/\∀x H',J.yld i H x H'->g x σ H' λσ2 H2=>tb { D with nx:=N,ct:=N,bk:=D.nx } σ2 H2)
def xr_(fp:List Addr)(h:Heap):List (Addr×Obj):=fp.filterMap λb=>(h.get? b).map λo=>(b,o)
theorem zV_{fp:List Addr}{h:Heap}{b:Addr}{o:Obj}(hb:b∈fp)(e:h.get? b=some o):(b,o)∈xr_ fp h:=De.mpr ⟨b,hb,by rw[e];rfl⟩
theorem ad8_{fp:List Addr}{h:Heap}{p:Addr×Obj}(hp:p∈xr_ fp h):p.1∈fp/\h.get? p.1=some p.2:=by
 obtain⟨b,hb,e⟩:=De.mp hp
 cases q:h.get? b with
 |none=>rw[q]at e;cases e
 |some o =>
  rw[q]at e
  have e':(b,o)=p:=AW e
  subst e'
  exact⟨hb,q⟩
theorem Inv.pinned{pins:List (Addr×Obj)}{σ:St}{H:Hp}{s:Shared}{fp:List Addr}(I:Inv X pins σ H s)(hf:∀b∈fp,js_ X pins H b)(ho:∀b∈fp,∃o,s.heap.get? b=some o/\∀v,o.data≠.cell v):Inv X (pins++xr_ fp s.heap) σ H s :=
 I.pins_of λp hp=>(Ap.mp hp).elim (λz=>I.pin p (Ai _ z)) λz=>by
  obtain⟨hb,e⟩:=ad8_ z
  obtain⟨f0,f1,f2,_⟩:=hf p.1 hb
  obtain⟨o,e',d⟩:=ho p.1 hb
  rw[e]at e';cases e'
  exact⟨e,f0,f1,f2,d⟩
theorem Inv.unpinned{pins pl:List (Addr×Obj)}{σ:St}{H:Hp}{s:Shared}(I:Inv X (pins++pl) σ H s):Inv X pins σ H s:=I.pins_of λp hp=>I.pin p (Ai _ (Az _ hp))
theorem qL_{iter:Expr}{body:List Stmt}{wi:TI}{g:TG}{tb:TS}{pos:Pos}(hp:PassesOwn (model X.prog X.w) X.A X.env X.xe)(hc:X.calm=true)(hi:PI X tg iter wi)(hg:PG X tg g)(hb:PSs X body tb)
  (hs:∀x,foldedSetIterable iter X.env x=pure x:=by intro _;rfl):PS X (.For tg iter body [] pos) (tFor wi g tb):=by
 intro pins s σ H D I h
 refine wpAny_For (thn (hi pins s σ H _ I h) λv s1 h1=>thn h1 λitv s2 h2=>?_) hs
 obtain⟨it,fp,tn,J,H2,e,I2,T,st2,f2,W,⟨m0,w0⟩,turn⟩:=h2
 subst e
 have stat:∀{H':Hp},(∀b∈fp,H' b=none)->∀b∈fp,js_ X pins H' b:=λhn b hb=>⟨hn b hb,(f2 b hb).2⟩
 refine codeAny_forLoop_any (λn s'=>∃i σ' H',Inv X pins σ' H' s'/\tn i s'.heap/\(∀b∈fp,H' b=none)/\W i n σ' H') ?_ m0 ⟨0,σ,H2,I2,st2,λb hb=>(f2 b hb).1,w0⟩
 rintro n s3 ⟨i,σ3,H3,I3,st3,fr3,w3⟩
 rcases turn i n σ3 H3 w3 with⟨stop,qn⟩|⟨go,N,hN,step⟩
 ·refine wpAny_passesOwn hp (thn (T.done X rfl rfl rfl hc i pins s3 σ3 H3 X.xe I3 (stat fr3) st3 stop) λr s4 ⟨hr,I4⟩=>?_)
  subst hr
  exact wpAny_execs_nil ⟨σ3,H3,I4,qn⟩
 ·refine wpAny_passesOwn hp (thn (T.item X rfl rfl rfl hc i pins s3 σ3 H3 X.xe I3 (stat fr3) st3 go) λr s4 ⟨u,hr,h4⟩=>?_)
  subst hr
  refine wpAny_passesOwn hp (thn h4 λ_ s5 ⟨x,H5,I5,r5,y5,st5,fr5⟩=>?_)
  have I5':=I5.pinned (stat fr5) (T.obj _ _ st5)
  refine wpAny_passesOwn hp (thn (hg _ s5 σ3 H5 x u _ I5' r5 (step x H5 y5)) λ_ s6 ⟨σ6,H6,I6,q6⟩=>?_)
  refine wpAny_passesOwn hp (thn (hb _ s6 σ6 H6 _ I6 q6) λf s7 q7=>?_)
  have again:∀{σ7:St}{H7:Hp},Inv X (pins++xr_ fp s5.heap) σ7 H7 s7->N σ7 H7->∃m,m<n/\∃i σ' H',Inv X pins σ' H' s7/\tn i s7.heap/\(∀b∈fp,H' b=none)/\W i m σ' H':=λ{σ7 H7} I7 n7=>by
   obtain⟨m',hm,w7⟩:=hN σ7 H7 n7
   refine⟨m',hm,i+1,σ7,H7,I7.unpinned,T.keep _ _ _ st5 λb hb o e=>(I7.pin (b,o) (Ai _ (Ai _ (zV_ hb e)))).1,λb hb=>?_,w7⟩
   obtain⟨o,e,d⟩:=T.obj _ _ st5 b hb
   exact(I7.pin (b,o) (Ai _ (Ai _ (zV_ hb e)))).2.1
  cases f with
  |next=>obtain⟨σ7,H7,I7,n7⟩:=q7;exact again I7 n7
  |cont=>obtain⟨σ7,H7,I7,n7⟩:=q7;exact again I7 n7
  |brk=>obtain⟨σ7,H7,I7,q7⟩:=q7;exact⟨σ7,H7,I7.unpinned,q7⟩
  |ret v=>obtain⟨x7,σ7,H7,I7,r7,q7⟩:=q7;exact⟨x7,σ7,H7,I7.unpinned,r7,q7⟩
end
theorem zk_{K:PySem.W.Frag}{a:Addr}{xs:List V}{g:TG}{tb:TS}{D:Ends}{σ:St}{H:Hp}(Pv:Nat->St->Hp->Prop)(h0:Pv 0 σ H)(hl:∀i σ H,i<=xs.length->Pv i σ H->SqL K H a xs)
  (hs:∀i x σ H,xs[i]?=some x->Pv i σ H->g x σ H λσ2 H2=>tb { D with nx:=Pv (i+1),ct:=Pv (i+1),bk:=D.nx } σ2 H2) (hd:∀σ H,Pv xs.length σ H->D.nx σ H) :
  ∃W:Nat->Nat->St->Hp->Prop,(∃m,W 0 m σ H)/\∀i m σ H,W i m σ H ->
   ((Itl K a).stop i H/\D.nx σ H)∨((Itl K a).go i H/\∃N:St->Hp->Prop,(∀σ' H',N σ' H'->∃m',m'<m/\W (i+1) m' σ' H')/\∀x H',(Itl K a).yld i H x H'->g x σ H' λσ2 H2=>tb { D with nx:=N,ct:=N,bk:=D.nx } σ2 H2):=by
 refine⟨λi m σ H=>m=xs.length-i/\i<=xs.length/\Pv i σ H,⟨xs.length,by simp,Ae _,h0⟩,?_⟩
 rintro i m σ H ⟨rfl,hi,p⟩
 have q:=hl i σ H hi p
 by_cases hlt:i<xs.length
 ·refine .inr ⟨⟨xs,xs[i],q,by simp [hlt]⟩,Pv (i+1),λσ' H' p'=>⟨xs.length-(i+1),by omega,rfl,hlt,p'⟩,λx H' y=>?_⟩
  obtain⟨e,y⟩:=y
  subst e
  exact hs i x σ _ (y xs q) p
 ·have e:i=xs.length:=by omega
  subst e
  exact .inl ⟨⟨xs,q,AH _⟩,hd σ H p⟩
theorem xv_{K:PySem.W.Frag}{a:Addr}{xs:List V}{g:TG}{tb:TS}{D:Ends}{σ:St}{H:Hp}(Pv:Nat->St->Hp->Prop)(h0:Pv 0 σ H)(hl:∀i σ H,i<=xs.length->Pv i σ H->SqT K H a xs)
  (hs:∀i x σ H,xs[i]?=some x->Pv i σ H->g x σ H λσ2 H2=>tb { D with nx:=Pv (i+1),ct:=Pv (i+1),bk:=D.nx } σ2 H2) (hd:∀σ H,Pv xs.length σ H->D.nx σ H) :
  ∃W:Nat->Nat->St->Hp->Prop,(∃m,W 0 m σ H)/\∀i m σ H,W i m σ H ->
   ((Itt K a).stop i H/\D.nx σ H)∨((Itt K a).go i H/\∃N:St->Hp->Prop,(∀σ' H',N σ' H'->∃m',m'<m/\W (i+1) m' σ' H')/\∀x H',(Itt K a).yld i H x H'->g x σ H' λσ2 H2=>tb { D with nx:=N,ct:=N,bk:=D.nx } σ2 H2):=by
 refine⟨λi m σ H=>m=xs.length-i/\i<=xs.length/\Pv i σ H,⟨xs.length,by simp,Ae _,h0⟩,?_⟩
 rintro i m σ H ⟨rfl,hi,p⟩
 have q:=hl i σ H hi p
 by_cases hlt:i<xs.length
 ·refine .inr ⟨⟨xs,xs[i],q,by simp [hlt]⟩,Pv (i+1),λσ' H' p'=>⟨xs.length-(i+1),by lia,rfl,hlt,p'⟩,λx H' y=>?_⟩
  obtain⟨e,y⟩:=y
  subst e
  exact hs i x σ _ (y xs q) p
 ·have e:i=xs.length:=by lia
  subst e
  exact .inl ⟨⟨xs,q,AH _⟩,hd σ H p⟩
theorem jc_{lo:Int}{n:Nat}{g:TG}{tb:TS}{D:Ends}{σ:St}{H:Hp}(Pv:Nat->St->Hp->Prop)(h0:Pv 0 σ H)
  (hs:∀i σ H,i<n->Pv i σ H->g (.int (lo+i)) σ H λσ2 H2=>tb { D with nx:=Pv (i+1),ct:=Pv (i+1),bk:=D.nx } σ2 H2) (hd:∀σ H,Pv n σ H->D.nx σ H) :
  ∃W:Nat->Nat->St->Hp->Prop,(∃m,W 0 m σ H)/\∀i m σ H,W i m σ H ->
   ((Itr lo n).stop i H/\D.nx σ H)∨((Itr lo n).go i H/\∃N:St->Hp->Prop,(∀σ' H',N σ' H'->∃m',m'<m/\W (i+1) m' σ' H')/\∀x H',(Itr lo n).yld i H x H'->g x σ H' λσ2 H2=>tb { D with nx:=N,ct:=N,bk:=D.nx } σ2 H2):=by
 refine⟨λi m σ H=>m=n-i/\i<=n/\Pv i σ H,⟨n,by simp,Ae _,h0⟩,?_⟩
 rintro i m σ H ⟨rfl,hi,p⟩
 by_cases hlt:i<n
 ·refine .inr ⟨hlt,Pv (i+1),λσ' H' p'=>⟨n-(i+1),by omega,rfl,hlt,p'⟩,λx H' y=>?_⟩
  obtain⟨e,y⟩:=y
  subst e y
  exact hs i σ _ hlt p
 ·have e:i=n:=by omega
  subst e
  exact .inl ⟨AH _,hd σ H p⟩
end L2
namespace L2
open PySem PySem.Spec PyProof.Rows
abbrev R2:=V->V->Hp->VK->Prop
def OpR(X:Cx)(f:Value->Value->Sem Value)(r:R2):Prop :=
 ∀(pins:List (Addr×Obj))(s:Shared)(σ:St)(H:Hp)(x y:V)(v u:Value)(Q:VK),Inv X pins σ H s->RelV x v->RelV y u->r x y H Q ->
  wpAny (model X.prog X.w) X.A (f v u) (EP X pins σ Q) X.xe s
def UnR(X:Cx)(f:Value->Sem Value)(r:V->Hp->VK->Prop):Prop :=
 ∀(pins:List (Addr×Obj))(s:Shared)(σ:St)(H:Hp)(x:V)(v:Value)(Q:VK),Inv X pins σ H s->RelV x v->r x H Q ->
  wpAny (model X.prog X.w) X.A (f v) (EP X pins σ Q) X.xe s
def CallR(X:Cx)(f:Value)(r:List V->Hp->VK->Prop):Prop :=
 ∀(pins:List (Addr×Obj))(s:Shared)(σ:St)(H:Hp)(xs:List V)(us:List Value)(Q:VK),Inv X pins σ H s->Vals xs us->r xs H Q ->
  wpAny (model X.prog X.w) X.A (call f us) (EP X pins σ Q) X.xe s
def tOp(r:R2)(ta tb:TE):TE:=λσ H Q=>ta σ H λx H1=>tb σ H1 λy H2=>r x y H2 Q
def tUn(r:V->Hp->VK->Prop)(ta:TE):TE:=λσ H Q=>ta σ H λx H1=>r x H1 Q
def rI(C:Int->Int->Prop)(g:Int->Int->V):R2:=λx y H Q=>∃i j,x=.int i/\y=.int j/\C i j/\Q (g i j) H
def rI0(g:Int->Int->V):R2:=λx y H Q=>∃i j,x=.int i/\y=.int j/\Q (g i j) H
def rU(g:Int->V):V->Hp->VK->Prop:=λx H Q=>∃i,x=.int i/\Q (g i) H
section
variable{X:Cx}{a b c:Expr}{ta tb tc:TE}{pos:Pos}
theorem binT(ha:PE X a ta)(hb:PE X b tb){pins:List (Addr×Obj)}{s:Shared}{σ:St}{H:Hp}{R:V->V->Hp->Prop}(I:Inv X pins σ H s)
  (h:ta σ H λx H1=>tb σ H1 λy H2=>R x y H2) {Q:Value->Shared->Prop} {f:Value->Value->Sem Value}
  (hf:∀v u s2 x y H2,Inv X pins σ H2 s2->RelV x v->RelV y u->R x y H2->wpAny (model X.prog X.w) X.A (f v u) Q X.xe s2) :
  wpAny (model X.prog X.w) X.A (eval a X.env) (λv s₁=>wpAny (model X.prog X.w) X.A (eval b X.env) (λu s₂=>wpAny (model X.prog X.w) X.A (f v u) Q X.xe s₂) X.xe s₁) X.xe s:=by
 refine thn (ha pins s σ H _ I h) λv s1 ⟨x,H1,I1,r1,q1⟩=>?_
 refine thn (hb pins s1 σ H1 _ I1 q1) λu s2 ⟨y,H2,I2,r2,q2⟩=>?_
 exact hf v u s2 x y H2 I2 r1 r2 q2
theorem qj_{op:Operator}{r:R2}(ho:OpR X (binaryOp op) r)(ha:PE X a ta)(hb:PE X b tb):PE X (.BinOp a op b pos) (tOp r ta tb):=by
 intro pins s σ H Q I h
 exact wpAny_BinOp (binT ha hb I h λv u s2 x y H2 I2 rx ry q=>ho pins s2 σ H2 x y v u Q I2 rx ry q)
theorem v8_{op:UnaryOp}{r:V->Hp->VK->Prop}(ho:UnR X (unaryOp op) r)(ha:PE X a ta):PE X (.UnaryOp op a pos) (tUn r ta):=by
 intro pins s σ H Q I h
 exact UnaryOp_ (thn (ha pins s σ H _ I h) λv s1 ⟨x,H1,I1,r1,q1⟩=>ho pins s1 σ H1 x v Q I1 r1 q1)
theorem opI{f:Value->Value->Sem Value}{C:Int->Int->Prop}{g:Int->Int->Int}
  (rule:∀(i j:Int)(t u:Tok)(s:Shared)(Q:Value->Shared->Prop)(E:Value->Shared->Prop),C i j->Q (.int (g i j) s.toks) { s with toks:=s.toks+1 }->wpAny (model X.prog X.w) X.A (f (.int i t) (.int j u)) Q E s) :
  OpR X f (rI C λi j=>.int (g i j)):=by
 intro pins s σ H x y v u Q I rx ry h
 obtain⟨i,j,rfl,rfl,hc,q⟩:=h
 obtain⟨t,rfl⟩:=rx
 obtain⟨t',rfl⟩:=ry
 exact rule i j t t' s _ _ hc ⟨.int (g i j),H,I.tok _,⟨_,rfl⟩,q⟩
theorem opI0{f:Value->Value->Sem Value}{g:Int->Int->Int}
  (rule:∀(i j:Int)(t u:Tok)(s:Shared)(Q:Value->Shared->Prop)(E:Value->Shared->Prop),Q (.int (g i j) s.toks) { s with toks:=s.toks+1 }->wpAny (model X.prog X.w) X.A (f (.int i t) (.int j u)) Q E s) :
  OpR X f (rI0 λi j=>.int (g i j)):=by
 intro pins s σ H x y v u Q I rx ry h
 obtain⟨i,j,rfl,rfl,q⟩:=h
 obtain⟨t,rfl⟩:=rx
 obtain⟨t',rfl⟩:=ry
 exact rule i j t t' s _ _ ⟨.int (g i j),H,I.tok _,⟨_,rfl⟩,q⟩
theorem opB0{f:Value->Value->Sem Value}{g:Int->Int->Bool}
  (rule:∀(i j:Int)(t u:Tok)(s:Shared)(Q:Value->Shared->Prop)(E:Value->Shared->Prop),Q (.bool (g i j)) s->wpAny (model X.prog X.w) X.A (f (.int i t) (.int j u)) Q E s) :
  OpR X f (rI0 λi j=>.bl (g i j)):=by
 intro pins s σ H x y v u Q I rx ry h
 obtain⟨i,j,rfl,rfl,q⟩:=h
 obtain⟨t,rfl⟩:=rx
 obtain⟨t',rfl⟩:=ry
 exact rule i j t t' s _ _ ⟨.bl (g i j),H,I,rfl,q⟩
def CDiv(i j:Int):Prop:=0<j/\j<1073741824
def CPow(i j:Int):Prop:=0<=j/\j<=1000000/\i.natAbs<2^64
def CMul(i j:Int):Prop:=(-(2^64)<i/\i<2^64)∨(-(2^64)<j/\j<2^64)
theorem CMul.ok{i j:Int}(h:CMul i j):IntMulOk i j:=by
 rcases h with⟨h1,h2⟩|⟨h1,h2⟩
 ·exact .of_left (intBits_le_64 h1 h2)
 ·exact .of_right (intBits_le_64 h1 h2)
theorem zP_:OpR X (binaryOp .Add) (rI0 λi j=>.int (i+j)):=opI0 λ_ _ _ _ _ _ _ q=>add_int q
theorem qU_:OpR X (binaryOp .Sub) (rI0 λi j=>.int (i-j)):=opI0 λ_ _ _ _ _ _ _ q=>sub_int q
theorem zL_:OpR X (binaryOp .FloorDiv) (rI CDiv λi j=>.int (i / j)):=opI λi j _ _ _ _ _ hc q=>by
 have h1:(0:Int)<j:=hc.1
 have h2:j<1073741824:=hc.2
 exact floordiv_int (by omega) (by rw[Int.fdiv_eq_ediv_of_nonneg i (by omega)];exact q) (.inl (EI (by omega)))
theorem z1_:OpR X (binaryOp .Mod) (rI (λ_ j=>0<j) λi j=>.int (i%j)):=opI λi j _ _ _ _ _ hc q=>by
 have h1:(0:Int)<j:=hc
 exact mod_int' (by omega) (by rw[Int.fmod_eq_emod_of_nonneg i (by omega)];exact q)
theorem abh_:OpR X (binaryOp .Pow) (rI CPow λi j=>.int (i^j.toNat)):=opI λ_ _ _ _ _ _ _ hc q=>pow_int_small hc.1 hc.2.1 hc.2.2 q
theorem unI{f:Value->Sem Value}{g:Int->Int}
  (rule:∀(i:Int)(t:Tok)(s:Shared)(Q:Value->Shared->Prop)(E:Value->Shared->Prop),Q (.int (g i) s.toks) { s with toks:=s.toks+1 }->wpAny (model X.prog X.w) X.A (f (.int i t)) Q E s) :
  UnR X f (rU λi=>.int (g i)):=by
 intro pins s σ H x v Q I rx h
 obtain⟨i,rfl,q⟩:=h
 obtain⟨t,rfl⟩:=rx
 exact rule i t s _ _ ⟨.int (g i),H,I.tok _,⟨_,rfl⟩,q⟩
theorem yR_:UnR X (unaryOp .USub) (rU λi=>.int (-i)):=unI λ_ _ _ _ _ q=>neg_int q
end
def scal:V->V->Bool
 |.non,.non=>true|.non,.int _=>true|.int _,.non=>true|.non,.bl _=>true|.bl _,.non=>true|.non,.str _=>true|.str _,.non=>true
 |.int _,.int _=>true|.bl _,.bl _=>true|.str _,.str _=>true|.byt _,.byt _=>true
 |.int _,.str _=>true|.str _,.int _=>true|.bl _,.str _=>true|.str _,.bl _=>true
 |_,_=>false
def rEq:R2:=λx y H Q=>scal x y=true/\Q (.bl (decide (x=y))) H
def rNe:R2:=λx y H Q=>scal x y=true/\Q (.bl (!decide (x=y))) H
theorem acq_{i j:Int}:decide (V.int i=V.int j)=(i==j):=by
 rw[Cw]
 simp
theorem aec_{i j:Bool}:decide (V.bl i=V.bl j)=(i==j):=by
 rw[Cw]
 simp
theorem acl_{i j:Str}:decide (V.str i=V.str j)=(i==j):=by
 rw[Cw]
 simp
theorem acj_{i j:Array UInt8}:decide (V.byt i=V.byt j)=(i.toList==j.toList):=by
 rw[Cw]
 cases i
 cases j
 simp
section
variable{X:Cx}{a b c:Expr}{ta tb tc:TE}{pos:Pos}
theorem qz_{pins:List (Addr×Obj)}{σ:St}{H:Hp}{s:Shared}{Q:VK}{k k':Bool}(I:Inv X pins σ H s)(q:Q (.bl k) H)(e:k=k'):EP X pins σ Q (.bool k') s:=by
 subst e
 exact⟨.bl k,H,I,rfl,q⟩
theorem v9_:OpR X (compareOp .Eq) rEq:=by
 intro pins s σ H x y v u Q I rx ry h
 obtain⟨hs,q⟩:=h
 cases x with
 |non =>
  cases rx
  cases y with
  |non=>cases ry;exact PySem.EqNone.eq_none_none (qz_ I q (by simp))
  |bl j=>cases ry;exact PySem.EqNone.eq_none_bool (qz_ I q (by simp))
  |int j=>obtain⟨t',rfl⟩:=ry;exact PySem.EqNone.eq_none_int (qz_ I q (by simp))
  |str j=>obtain⟨t',rfl⟩:=ry;exact PySem.EqNone.eq_none_str (qz_ I q (by simp))
  |_=>exact absurd (show false=true from hs) AS
 |bl i =>
  cases rx
  cases y with
  |non=>cases ry;exact PySem.EqNone.eq_bool_none (qz_ I q (by simp))
  |bl j=>cases ry;exact eq_bool (qz_ I q aec_)
  |str j=>obtain⟨t',rfl⟩:=ry;exact PySem.EqMixed.eq_bool_str (qz_ I q (by simp))
  |_=>exact absurd (show false=true from hs) AS
 |int i =>
  obtain⟨t,rfl⟩:=rx
  cases y with
  |non=>cases ry;exact PySem.EqNone.eq_int_none (qz_ I q (by simp))
  |int j=>obtain⟨t',rfl⟩:=ry;exact eq_int (qz_ I q acq_)
  |str j=>obtain⟨t',rfl⟩:=ry;exact PySem.EqMixed.eq_int_str (qz_ I q (by simp))
  |_=>exact absurd (show false=true from hs) AS
 |str i =>
  obtain⟨t,rfl⟩:=rx
  cases y with
  |non=>cases ry;exact PySem.EqNone.eq_str_none (qz_ I q (by simp))
  |bl j=>cases ry;exact PySem.EqMixed.eq_str_bool (qz_ I q (by simp))
  |int j=>obtain⟨t',rfl⟩:=ry;exact PySem.EqMixed.eq_str_int (qz_ I q (by simp))
  |str j=>obtain⟨t',rfl⟩:=ry;exact eq_str (qz_ I q acl_)
  |_=>exact absurd (show false=true from hs) AS
 |byt i =>
  obtain⟨t,rfl⟩:=rx
  cases y with
  |byt j=>obtain⟨t',rfl⟩:=ry;exact PySem.W.eq_bytes (qz_ I q acj_)
  |_=>exact absurd (show false=true from hs) AS
 |_=>cases y<;>exact absurd (show false=true from hs) AS
theorem xe_:OpR X (compareOp .NotEq) rNe:=by
 intro pins s σ H x y v u Q I rx ry h
 obtain⟨hs,q⟩:=h
 cases x with
 |non =>
  cases rx
  cases y with
  |non=>cases ry;exact PySem.EqNone.ne_none_none (qz_ I q (by simp))
  |bl j=>cases ry;exact PySem.EqNone.ne_none_bool (qz_ I q (by simp))
  |int j=>obtain⟨t',rfl⟩:=ry;exact PySem.EqNone.ne_none_int (qz_ I q (by simp))
  |str j=>obtain⟨t',rfl⟩:=ry;exact PySem.EqNone.ne_none_str (qz_ I q (by simp))
  |_=>exact absurd (show false=true from hs) AS
 |bl i =>
  cases rx
  cases y with
  |non=>cases ry;exact PySem.EqNone.ne_bool_none (qz_ I q (by simp))
  |bl j=>cases ry;exact ne_bool (qz_ I q (congrArg not aec_))
  |str j=>obtain⟨t',rfl⟩:=ry;exact PySem.EqMixed.ne_bool_str (qz_ I q (by simp))
  |_=>exact absurd (show false=true from hs) AS
 |int i =>
  obtain⟨t,rfl⟩:=rx
  cases y with
  |non=>cases ry;exact PySem.EqNone.ne_int_none (qz_ I q (by simp))
  |int j=>obtain⟨t',rfl⟩:=ry;exact ne_int (qz_ I q (congrArg not acq_))
  |str j=>obtain⟨t',rfl⟩:=ry;exact PySem.EqMixed.ne_int_str (qz_ I q (by simp))
  |_=>exact absurd (show false=true from hs) AS
 |str i =>
  obtain⟨t,rfl⟩:=rx
  cases y with
  |non=>cases ry;exact PySem.EqNone.ne_str_none (qz_ I q (by simp))
  |bl j=>cases ry;exact PySem.EqMixed.ne_str_bool (qz_ I q (by simp))
  |int j=>obtain⟨t',rfl⟩:=ry;exact PySem.EqMixed.ne_str_int (qz_ I q (by simp))
  |str j=>obtain⟨t',rfl⟩:=ry;exact ne_str (qz_ I q (congrArg not acl_))
  |_=>exact absurd (show false=true from hs) AS
 |byt i =>
  obtain⟨t,rfl⟩:=rx
  cases y with
  |byt j=>obtain⟨t',rfl⟩:=ry;exact PySem.W.ne_bytes (qz_ I q (congrArg not acj_))
  |_=>exact absurd (show false=true from hs) AS
 |_=>cases y<;>exact absurd (show false=true from hs) AS
theorem yg_:OpR X (compareOp .Lt) (rI0 λi j=>.bl (decide (i<j))):=opB0 λ_ _ _ _ _ _ _ q=>lt_int q
theorem v5_:OpR X (compareOp .LtE) (rI0 λi j=>.bl (decide (i<=j))):=opB0 λ_ _ _ _ _ _ _ q=>le_int q
theorem zl_:OpR X (compareOp .Gt) (rI0 λi j=>.bl (decide (j<i))):=opB0 λ_ _ _ _ _ _ _ q=>gt_int q
theorem ape_:OpR X (compareOp .GtE) (rI0 λi j=>.bl (decide (j<=i))):=opB0 λ_ _ _ _ _ _ _ q=>ge_int q
theorem ame_:OpR X (compareOp .Is) (λx y H Q=>y=.non/\Q (.bl (decide (x=.non))) H):=by
 intro pins s σ H x y v u Q I rx ry h
 obtain⟨rfl,q⟩:=h
 cases ry
 refine is_none_gen (qz_ I q ?_)
 cases x<;>first
  |(cases rx;rfl)
  |(obtain⟨t,rfl⟩:=rx;rfl)
theorem OpR.or{f:Value->Value->Sem Value}{r r':R2}(h:OpR X f r)(h':OpR X f r'):OpR X f (λx y H Q=>r x y H Q∨r' x y H Q):=by
 intro pins s σ H x y v u Q I rx ry q
 rcases q with q|q
 ·exact h pins s σ H x y v u Q I rx ry q
 ·exact h' pins s σ H x y v u Q I rx ry q
theorem qn_(b:Expr){op:CmpOp}(h:op≠.In:=by decide)(h2:op≠.NotIn:=by decide):behindInMarks op b=false:=by
 have e1:(op==CmpOp.In)=false:=by cases op<;>first|rfl|exact absurd rfl h
 have e2:(op==CmpOp.NotIn)=false:=by cases op<;>first|rfl|exact absurd rfl h2
 cases b<;>simp [behindInMarks,e1,e2]
theorem zX_{op:CmpOp}{r:R2}(ho:OpR X (compareOp op) r)(ha:PE X a ta)(hb:PE X b tb)(hm:behindInMarks op b=false):PE X (.Compare a [op] [b] pos) (tOp r ta tb):=by
 intro pins s σ H Q I h
 exact wpAny_Compare1 (binT ha hb I h λv u s2 x y H2 I2 rx ry q=>ho pins s2 σ H2 x y v u Q I2 rx ry q) hm
def an8_(t:TE):TT:=λσ H Q=>t σ H λx H'=>∃k,x=.bl k/\Q k H'
theorem qo_{op:CmpOp}{r:R2}(ho:OpR X (compareOp op) r)(ha:PE X a ta)(hb:PE X b tb)(hm:behindInMarks op b=false):PT X (.Compare a [op] [b] pos) (an8_ (tOp r ta tb)):=by
 intro pins s σ H Q I h
 refine wpAny_isTrue_Compare1 (thn (ha pins s σ H _ I h) λv s1 ⟨x,H1,I1,r1,q1⟩=>thn (hb pins s1 σ H1 _ I1 q1) λu s2 ⟨y,H2,I2,r2,q2⟩ =>
  thn (ho pins s2 σ H2 x y v u _ I2 r1 r2 q2) λc s3 ⟨z,H3,I3,r3,k,e,q3⟩=>?_) hm
 subst e
 cases r3
 exact wpAny_truthy_bool ⟨H3,I3,q3⟩
theorem xV_:(sizeLine:Nat)<2^63:=by rw[sizeLine_eq];decide
theorem jn_{x:V}{us:List Value}(r:Vals [x] us):∃u,us=[u]/\RelV x u:=by
 cases r with
 |cons r1 r2=>cases r2;exact⟨_,rfl,r1⟩
theorem jD_{x y:V}{us:List Value}(r:Vals [x,y] us):∃u w',us=[u,w']/\RelV x u/\RelV y w':=by
 cases r with
 |cons r1 r2 =>
  cases r2 with
  |cons r3 r4=>cases r4;exact⟨_,_,rfl,r1,r3⟩
theorem vQ_(hc:X.calm=true):CallR X (.builtin "max") (λxs H Q=>∃i j,xs=[.int i,.int j]/\Q (.int (if j>i then j else i)) H):=by
 intro pins s σ H xs us Q I r h
 obtain⟨i,j,rfl,q⟩:=h
 obtain⟨u,w',rfl,⟨t,rfl⟩,⟨t',rfl⟩⟩:=jD_ r
 refine max_two_ints (I.ok.hd hc) λh' tk k=>⟨_,H,I.kept k,?_,q⟩
 by_cases hj:j>i
 ·rw[if_pos hj,if_pos hj];exact⟨_,rfl⟩
 ·rw[if_neg hj,if_neg hj];exact⟨_,rfl⟩
theorem afx_(hc:X.calm=true):CallR X (.builtin "min") (λxs H Q=>∃i j,xs=[.int i,.int j]/\Q (.int (if j<i then j else i)) H):=by
 intro pins s σ H xs us Q I r h
 obtain⟨i,j,rfl,q⟩:=h
 obtain⟨u,w',rfl,⟨t,rfl⟩,⟨t',rfl⟩⟩:=jD_ r
 refine min_two_ints (I.ok.hd hc) λh' tk k=>⟨_,H,I.kept k,?_,q⟩
 by_cases hj:j<i
 ·rw[if_pos hj,if_pos hj];exact⟨_,rfl⟩
 ·rw[if_neg hj,if_neg hj];exact⟨_,rfl⟩
end
end L2
namespace L2
open PySem PySem.Spec PyProof.Rows
structure ObjM(h:Heap)(x dx C:Addr)(mA:Str->Option Value):Prop where
 obj:h.get? x=some (PySem.W.instObj C dx)
 ns:h.Ns1 dx mA
 ne:dx≠x
theorem af5_{h:Heap}{dx:Addr}{mA:Str->Option Value}(n:h.Ns1 dx mA):∃od,h.get? dx=some od/\∀name,PySem.W.lookIn name od=some (mA name):=by
 obtain⟨o,es,ep,ho,hd,hk,_,hm⟩:=n
 refine⟨o,ho,λname=>?_⟩
 have e:=hm name
 unfold nsFind findBy at e
 rw[<-Array.find?_toList]at e
 unfold PySem.W.lookIn
 rw[hd]
 dsimp only
 split
 ·rename_i y q
  rw[q]at e
  exact congrArg some e
 ·rename_i q
  rw[q]at e
  have a:es.toList.any (·.refKey)=false:=by
   rw[List.any_eq_false]
   intro y hy
   obtain⟨z,t,hkey⟩:=hk y (Array.mem_toList_iff.mp hy)
   simp [DictEntry.refKey,hkey]
  have a':¬ es.toList.any (·.refKey)=true:=by rw[a];exact AS
  rw[if_neg a']
  exact congrArg some e
theorem ObjM.look{h:Heap}{x dx C:Addr}{mA:Str->Option Value}(I:ObjM h x dx C mA):∃od,PySem.W.InstAt h x (PySem.W.instObj C dx) C (some od)/\∀name,PySem.W.lookIn name od=some (mA name) :=
 let ⟨od,ho,hl⟩:=af5_ I.ns
 ⟨od,⟨I.obj,rfl,rfl,ho⟩,hl⟩
theorem RelO.some_of{v:V}{o:Option Value}(r:RelO (some v) o):∃u,o=some u/\RelV v u:=by
 cases o with
 |none=>exact(show False from r).elim
 |some u=>exact⟨u,rfl,r⟩
section
variable{P:Program}{w:World}{H H':Hp}{h h':Heap}{a C dx:Addr}{fs fs':List (Str×V)}
theorem ajv_(hok:HOk P w H h)(e:H a=some (.ins C dx fs)):∃mA,ObjM h a dx C mA/\(∀f,RelO (fs.lookup f) (mA f))/\PySem.Within mA (fs.map (·.1))/\fs.length<=1000/\H dx=some (.own a):=by
 obtain⟨d,z,ne,ob,mA,n,r,q⟩:=(show ObjOk P w H h a (.ins C dx fs) from hok a _ e)
 exact⟨mA,⟨ob,n,ne⟩,r,q,z,d⟩
end
structure Cls(K:PySem.W.Frag)(C:Addr):Prop where
 pg:PySem.W.plainGet K C Str.empty=true
 hd:PySem.W.hasDictIn K C=true
 po:PySem.W.plainOver K C=true
 sa:PySem.W.findIn K (.ref C) "__setattr__" = some (some (.builtin "object.__setattr__"))
theorem Cls.get{K:PySem.W.Frag}{C:Addr}(c:Cls K C)(f:Str):PySem.W.plainGet K C f=true:=c.pg
structure Con(K:PySem.W.Frag)(C:Addr)(f:Str)(v:V)(u:Value):Prop where
 at_:PySem.W.findIn K (.ref C) f=some (some u)
 rel:RelV v u
 get:PySem.W.specialIn K u "__get__" = some none
 cp:PySem.W.copiedNames.contains f=false
structure Meth(K:PySem.W.Frag)(C:Addr)(m:Str)(f:Addr):Prop where
 at_:PySem.W.findIn K (.ref C) m=some (some (.ref f))
 fn:PySem.W.isFn K (.ref f)=true
 kp:PySem.W.keepIn K (.ref f)=true
section
variable{X:Cx}{pins:List (Addr×Obj)}{σ:St}{H:Hp}{s:Shared}{a C dx:Addr}{fs:List (Str×V)}{f:Str}{v:V}{A:Around}{E:Value->Shared->Prop}
theorem Inv.made(I:Inv X pins σ H s):Inv X pins σ (upd (upd H s.heap.objs.size (.own (s.heap.objs.size+1))) (s.heap.objs.size+1) (.ins C s.heap.objs.size []))
  { s with heap:=(s.heap.push PySem.W.emptyDict).push (PySem.W.instObj C s.heap.objs.size) }:=by
 have e1:(s.heap.push PySem.W.emptyDict).get? s.heap.objs.size=some PySem.W.emptyDict:=AL s.heap rfl
 have e2:((s.heap.push PySem.W.emptyDict).push (PySem.W.instObj C s.heap.objs.size)).get? (s.heap.objs.size+1)=some (PySem.W.instObj C s.heap.objs.size):=by
  have:=AL (s.heap.push PySem.W.emptyDict) (o:=PySem.W.instObj C s.heap.objs.size) rfl
  rwa [Bi]at this
 have e3:(s.heap.push PySem.W.emptyDict).Ns s.heap.objs.size (λ_=>none):=⟨PySem.W.emptyDict,#[],_,e1,rfl,(λe he=>absurd he (by simp)),λ_=>rfl⟩
 have I1:=I.laid (a:=s.heap.objs.size) (o:=.own (s.heap.objs.size+1)) (h':=s.heap.push PySem.W.emptyDict) (t':=s.toks) (λb u q=>AB _ q) (AH _) ⟨_,e1⟩
 refine I1.laid (a:=s.heap.objs.size+1) (o:=.ins C s.heap.objs.size []) (t':=s.toks) (λb u q=>AB _ q) (Nat.le_of_eq (Bi _ _)) ?_
 have ne:s.heap.objs.size≠s.heap.objs.size+1:=Af (Nat.lt_succ_self _)
 refine⟨by rw[ql_ ne,qc_],Ae _,ne,e2,λ_=>none,(Heap.Ns1.of_empty e3).at λo q=>AB _ q,λ_=>True.intro,λy hy=>absurd rfl hy⟩
end
section
variable{X:Cx}{pins:List (Addr×Obj)}{σ:St}{H:Hp}{s:Shared}{A:Around}{E:Value->Shared->Prop}{Q:Value->Shared->Prop}{c:Value}{b:Bool}
inductive TyOf (K:PySem.W.Frag) (H:Hp):V->Value->Prop where
 |non:TyOf K H .non (.type "NoneType")
 |bl (x:Bool):TyOf K H (.bl x) (.type "bool")
 |int (i:Int):TyOf K H (.int i) (.type "int")
 |str (x:Str):TyOf K H (.str x) (.type "str")
 |flt (x:UInt64):TyOf K H (.flt x) (.type "float")
 |lst {a:Addr} {xs:List V} (e:H a=some (.lst xs)):TyOf K H (.ref a) (.type "list")
 |frz {a:Addr} {o:Obj} {xs:List V} (e:H a=some (.frz o (.lst xs))):TyOf K H (.ref a) (.type "list")
 |tup {a:Addr} {xs:List V} (e:H a=some (.tup xs)):TyOf K H (.ref a) (.type "tuple")
 |dK {a:Addr} {kvs:List (Key×V)} (e:H a=some (.dK kvs)):TyOf K H (.ref a) (.type "dict")
 |dT {a:Addr} {kvs:List (List Key×V)} (e:H a=some (.dT kvs)):TyOf K H (.ref a) (.type "dict")
 |ins {a C dx:Addr} {fs:List (Str×V)} (e:H a=some (.ins C dx fs)) (cl:Cls K C) (ha:PySem.W.findIn K (.ref C) "__class__" = some (some (.builtin "object.__class__")))
   (hn:PySem.W.specialIn K (.builtin "object.__class__") "__get__" = some (some (.builtin "getset_descriptor.__get__"))) (htk:PySem.W.takesIn K (.builtin "object.__class__")=some true)
   (hm:PySem.W.mroIn K C (.type "object")=some true):TyOf K H (.ref a) (.ref C)
theorem afb_{x:V}{u t:Value}(I:Inv X pins σ H s)(rx:RelV x u)(ty:TyOf X.K H x t)(e:PySem.W.kitOne X.K t c=some b)(h:∀tk,Q (.bool b) { s with toks:=tk }) :
  wpAny (model X.prog X.w) A (call (.builtin "isinstance") [u,c]) Q E s:=by
 cases ty with
 |non=>cases(show u=Value.none from rx);exact Bc PySem.W.kitx_none I.kIn True.intro e (λz=>nomatch z) h
 |bl y=>cases(show u=Value.bool y from rx);exact Bc PySem.W.kitx_bool I.kIn True.intro e (λz=>nomatch z) h
 |int i=>obtain⟨t,q⟩:=(show ∃t,u=Value.int i t from rx);cases q;exact Bc PySem.W.kitx_int I.kIn True.intro e (λz=>nomatch z) h
 |str y=>obtain⟨t,q⟩:=(show ∃t,u=Value.str y t from rx);cases q;exact Bc PySem.W.kitx_str I.kIn True.intro e (λz=>nomatch z) h
 |flt y=>obtain⟨t,q⟩:=(show ∃t,u=Value.float y t from rx);cases q;exact Bc PySem.W.kitx_float I.kIn True.intro e (λz=>nomatch z) h
 |@lst a xs ea =>
  cases(show u=Value.ref a from rx)
  obtain⟨_,_,n,_,h1⟩:=(show ObjOk X.prog X.w H s.heap a (.lst xs) from I.hok a _ ea)
  exact Bc PySem.W.kitx_list I.kIn ⟨_,h1,rfl⟩ e (λz=>nomatch z) h
 |@frz a ob xs ea =>
  cases(show u=Value.ref a from rx)
  obtain⟨_,_,_,n,_,h1⟩:=(show ObjOk X.prog X.w H s.heap a (.frz ob (.lst xs)) from I.hok a _ ea)
  exact Bc PySem.W.kitx_list I.kIn ⟨_,h1,rfl⟩ e (λz=>nomatch z) h
 |@tup a xs ea =>
  cases(show u=Value.ref a from rx)
  obtain⟨_,_,_,p⟩:=(show ObjOk X.prog X.w H s.heap a (.tup xs) from I.hok a _ ea)
  obtain⟨o,h1,h2,_⟩:=p
  exact Bc PySem.W.kitx_tuple I.kIn ⟨o,h1,h2⟩ e (λz=>nomatch z) h
 |@dK a kvs ea =>
  cases(show u=Value.ref a from rx)
  obtain⟨_,_,vs,_,p⟩:=(show ObjOk X.prog X.w H s.heap a (.dK kvs) from I.hok a _ ea)
  obtain⟨o,es,ep,h1,h2,_⟩:=p
  exact Bc PySem.W.kitx_dict I.kIn ⟨o,h1,h2.1⟩ e (λz=>nomatch z) h
 |@dT a kvs ea =>
  cases(show u=Value.ref a from rx)
  obtain⟨_,_,xs,_,o,es,ep,h1,h2,_⟩:=(show ObjOk X.prog X.w H s.heap a (.dT kvs) from I.hok a _ ea)
  exact Bc PySem.W.kitx_dict I.kIn ⟨o,h1,h2.1⟩ e (λz=>nomatch z) h
 |@ins a C dx fs ea cl ha hn htk hm =>
  cases(show u=Value.ref a from rx)
  obtain⟨mA,O,_⟩:=ajv_ I.hok ea
  obtain⟨od,J,_⟩:=O.look
  exact Bc (PySem.W.kitx_own (cl.get _) cl.hd ha hn htk hm) I.kIn J e (λz=>nomatch z) h
end
end L2
namespace L2
open PySem PySem.Spec PyProof.Rows
structure Room(k:Nat)(A:Around):Prop where
 hd:A.handled=none
 dp:A.depth+3*k+5<recursionLimit
 un:A.units+16*k+200<cLine
theorem Room.mono{j k:Nat}{A:Around}(r:Room k A)(h:j<=k):Room j A:=⟨r.hd,by have:=r.dp;omega,by have:=r.un;omega⟩
theorem Room.deeper{k:Nat}{A:Around}(r:Room (k+1) A)(env:Env):Room k (A.deeper env) :=
 ⟨r.hd,by have:=r.dp;show A.depth+1+3*k+5<_;omega,by have:=r.un;show A.units+3+16*k+200<_;omega⟩
theorem Room.in1{k:Nat}{A:Around}(r:Room (k+1) A):Room k A.in1 :=
 ⟨r.hd,by have:=r.dp;show A.depth+3*k+5<_;omega,by have:=r.un;show A.units+1+16*k+200<_;omega⟩
theorem Room.depth{k:Nat}{A:Around}(r:Room k A):A.depth<recursionLimit:=by have:=r.dp;omega
theorem Room.units{k:Nat}{A:Around}(r:Room k A):A.units+64<cLine:=by have:=r.un;omega
def tNil:TA:=λ_ H Q=>Q [] H
def ai4_(ta:TE)(tr:TA):TA:=λσ H Q=>ta σ H λx H1=>tr σ H1 λxs H2=>Q (x::xs) H2
section
variable{X:Cx}{e:Expr}{es:List Expr}{te:TE}{t:TA}{pos:Pos}
theorem qb_:PA X [] tNil:=λ_ _ _ _ H Q I h=>Calls.spliced_nil ⟨[],H,I,.nil,h⟩
theorem qa_(ha:PE X e te)(hr:PA X es t)(hs:starEach (e::es) X.env=(false,eval e X.env)::starEach es X.env:=by rfl):PA X (e::es) (ai4_ te t):=by
 intro pos pins s σ H Q I h
 rw[hs]
 show wpAny _ _ (spliced ((false,eval e X.env)::backTo pos (starEach es X.env))) _ _ s
 refine CG (thn (ha pins s σ H _ I h) λu s1 ⟨x,H1,I1,r1,q1⟩=>?_)
 exact thn (hr pos pins s1 σ H1 _ I1 q1) λus s2 ⟨xs,H2,I2,r2,q2⟩=>⟨x::xs,H2,I2,.cons r1 r2,q2⟩
def tTup(t:TA):TE:=λσ H Q=>t σ H λxs H1=>xs.length<=sizeLine/\∀p,H1 p=none->Q (.ref p) (upd H1 p (.tup xs))
def tLst(t:TA):TE:=λσ H Q=>t σ H λxs H1=>xs.length<=sizeLine/\∀p,H1 p=none->Q (.ref p) (upd H1 p (.lst xs))
theorem qu_{x1}(h:PA X es t):PE X (.Tuple es x1 pos) (tTup t):=by
 intro pins s σ H Q I hq
 refine wpAny_Tuple_spliced (thn (h pos pins s σ H _ I hq) λus s1 ⟨xs,H1,I1,r,z,q⟩=>⟨by rw[<-r.length];exact z,?_⟩)
 have hf:H1 s1.heap.objs.size=none:=I1.hok.fresh (AH _)
 refine⟨.ref s1.heap.objs.size,upd H1 s1.heap.objs.size (.tup xs),I1.laid (t':=s1.toks) (λb u e=>AB _ e) (AH _) ?_,rfl,q _ hf⟩
 exact⟨z,us,r,⟨_,AL _ rfl,rfl,_,rfl,rfl⟩⟩
theorem qE_(h:PA X es t):PE X (.List es pos) (tLst t):=by
 intro pins s σ H Q I hq
 refine wpAny_List_spliced (thn (h pos pins s σ H _ I hq) λus s1 ⟨xs,H1,I1,r,z,q⟩=>⟨by rw[<-r.length];exact z,?_⟩)
 have hf:H1 s1.heap.objs.size=none:=I1.hok.fresh (AH _)
 refine⟨.ref s1.heap.objs.size,upd H1 s1.heap.objs.size (.lst xs),I1.laid (t':=s1.toks) (λb u e=>AB _ e) (AH _) ?_,rfl,q _ hf⟩
 exact⟨z,us,0,r,AL _ rfl⟩
end
abbrev Sp:=List V->Hp->VK->XK->Prop
abbrev CXT:=List Env->Hp->Shared->XK->Value->Shared->Prop
structure Env0(P:Program)(w:World)(K:PySem.W.Frag)(mg:Str->Option Value)(base:Heap)(A:Around)(outer:List Env)(s:Shared)(H:Hp):Prop where
 frames:A.frames=some outer
 mod:Mod K mg base
 bs:∀b o,base.get? b=some o->s.heap.get? b=some o/\H b=none
 bsz:base.objs.size<=s.heap.objs.size
 funs:s.heap.FunFrames base outer
 frf:∀b∈frs outer,H b=none
 hok:HOk P w H s.heap
 bare:AllBare s.gens
def CE(outer:List Env)(P:Program)(w:World)(H:Hp)(s:Shared)(Q:VK)(u:Value)(s':Shared):Prop :=
 ∃v H',s'.os=s.os/\AllBare s'.gens/\Un (frs outer) [] H H' s.heap s'.heap/\HOk P w H' s'.heap/\RelV v u/\Q v H'
def CR(CX:CXT)(outer:List Env)(P:Program)(w:World)(H:Hp)(s:Shared)(Q:VK)(E:XK)(r:Result)(s':Shared):Prop :=
 match r with
 |.ok (.ret u)=>CE outer P w H s Q u s'
 |.ok _=>False
 |.error e=>CX outer H s E e s'
structure FnOk(P:Program)(w:World)(K:PySem.W.Frag)(mg:Str->Option Value)(base:Heap)(CX:CXT)(k:Nat)(f:Addr)(fd:FuncData)(ps:List Str)(sp:Sp):Prop where
 len:∀vs H Q E,sp vs H Q E->vs.length=ps.length
 run:∀(A:Around)(outer:List Env)(s:Shared)(H:Hp)(args:Args)(us:List Value)(vs:List V)(Q:VK)(E:XK),Room k A->Env0 P w K mg base A outer s H->BindsTo s fd args (ps.zip us)->Vals vs us->sp vs H Q E ->
  codeAny (model P w) A (.call (.ref f) args) (CR CX outer P w H s Q E) s
theorem FnOk.mono{P:Program}{w:World}{K:PySem.W.Frag}{mg:Str->Option Value}{base:Heap}{CX:CXT}{j k:Nat}{f:Addr}{fd:FuncData}{ps:List Str}{sp:Sp}(F:FnOk P w K mg base CX j f fd ps sp)(h:j<=k) :
  FnOk P w K mg base CX k f fd ps sp:=⟨F.len,λA outer s H args us vs Q E hr=>F.run A outer s H args us vs Q E (hr.mono h)⟩
theorem Env0.in1{P:Program}{w:World}{K:PySem.W.Frag}{mg:Str->Option Value}{base:Heap}{A:Around}{outer:List Env}{s:Shared}{H:Hp}(e:Env0 P w K mg base A outer s H) :
  Env0 P w K mg base A.in1 outer s H:=⟨e.frames,e.mod,e.bs,e.bsz,e.funs,e.frf,e.hok,e.bare⟩
section
variable{X:Cx}{pins:List (Addr×Obj)}{σ:St}{H:Hp}{s s':Shared}
theorem Inv.env0(I:Inv X pins σ H s):Env0 X.prog X.w X.K X.mg X.base X.A X.stack s H :=
 ⟨I.ok.frames,I.ok.mod,I.bs,Ag I.ok.bsz I.sz,I.stack,I.stkFree,I.hok,I.bare⟩
theorem Inv.after{Q:VK}{u:Value}(I:Inv X pins σ H s)(h:CE X.stack X.prog X.w H s Q u s'):EP X pins σ Q u s':=by
 obtain⟨v,H',os,bare,un,hok,r,q⟩:=h
 obtain⟨hh,g,d,t,os'⟩:=s'
 obtain rfl:os'=s.os:=os
 exact⟨v,H',I.call (h':=hh) (g':=g) (d':=d) (t':=t) (ch:=[]) un hok bare (λb z=>absurd z (by simp)),r,q⟩
end
def aii_(sp:Sp)(dvs:List V)(E:XK)(t:TA):TE:=λσ H Q=>t σ H λvs H1=>sp (vs++dvs) H1 Q E
def Binds(K:PySem.W.Frag)(fd:FuncData)(ps:List Str)(ds:List Value):Prop :=
 ∀(s:Shared)(us:List Value),K.In s.heap->(us++ds).length=ps.length->BindsTo s fd ⟨us,[]⟩ (ps.zip (us++ds))
theorem Binds.all{K:PySem.W.Frag}{fd:FuncData}{ps:List Str}(h:∀us:List Value,us.length=ps.length->bindArgs fd ⟨us,[]⟩=pure (ps.zip us)):Binds K fd ps []:=λs us _ hl=>by
 rw[BP]at hl ⊢
 exact .of_eq (h us hl)
def y5_(CX:CXT)(X:Cx)(E:XK):Prop:=∀(pins:List (Addr×Obj))(σ:St)(H:Hp)(s:Shared)(e:Value)(s':Shared),Inv X pins σ H s->CX X.stack H s E e s'->X.xe e s'
section
variable{X:Cx}{CX:CXT}{k:Nat}{f C:Addr}{fd:FuncData}{ps:List Str}{sp:Sp}{dvs:List V}{ds:List Value}{E:XK}{x m:Str}{p pos apos:Pos}{e o:Expr}{es:List Expr}{ta:TE}{t:TA}
theorem aln_{pins:List (Addr×Obj)}{σ:St}{H:Hp}{s:Shared}{Q:VK}{us:List Value}{vs:List V}(F:FnOk X.prog X.w X.K X.mg X.base CX k f fd ps sp)(hr:Room k X.A)(hb:Binds X.K fd ps ds)(hd:Vals dvs ds)(hx:y5_ CX X E)
  (I:Inv X pins σ H s) (r:Vals vs us) (h:sp (vs++dvs) H Q E):wpAny (model X.prog X.w) X.A (call (.ref f) us) (EP X pins σ Q) X.xe s:=by
 have r2:Vals (vs++dvs) (us++ds):=r.append hd
 have hl:(us++ds).length=ps.length:=by rw[<-r2.length];exact F.len _ _ _ _ h
 refine wpAny_call (codeAny_mono (F.run X.A X.stack s H ⟨us,[]⟩ (us++ds) (vs++dvs) Q E hr I.env0 (hb s us I.kIn hl) r2 h) λr s' hq=>?_)
 cases r with
 |error e=>exact hx pins σ H s e s' I hq
 |ok fl =>
  cases fl with
  |ret u=>exact I.after hq
  |next=>exact False.elim hq
  |brk=>exact False.elim hq
  |cont=>exact False.elim hq
theorem xx_(F:FnOk X.prog X.w X.K X.mg X.base CX k f fd ps sp)(hr:Room k X.A)(hg:Gl X x)(hm:X.mg x=some (.ref f))(hk:PySem.W.keepIn X.K (.ref f)=true)(hb:Binds X.K fd ps ds)(hd:Vals dvs ds)(hx:y5_ CX X E)
  (ha:PA X (e::es) t) (hdb:(x==("__debug__" : Str))=false:=by decide) (he:starEach (e::es) X.env=(false,eval e X.env)::starEach es X.env:=by rfl) (hpl:(backTo pos (starEach es X.env)).any (·.1)=false:=by rfl) :
  PE X (.Call (.Name x p) (e::es) [] pos) (aii_ sp dvs E t):=by
 intro pins s σ H Q I h
 refine wpAny_Call_Name_kw (xt_ I hg hm ?_ hdb)
 refine PySem.W.callWith_K (h₀:=X.base) I.ok.mod.kin hk (thn (ha pos pins s σ H _ I h) λus s1 ⟨vs,H1,I1,r,q⟩=>⟨I1.kIn,?_⟩) he hpl
 exact aln_ F hr hb hd hx I1 r q
structure Mk(K:PySem.W.Frag)(C f:Addr):Prop where
 makes:PySem.W.makesIn K C=true
 init:PySem.W.findIn K (.ref C) "__init__" = some (some (.ref f))
 fn:PySem.W.isFn K (.ref f)=true
 kp:PySem.W.keepIn K (.ref C)=true
end
section
variable{X:Cx}{CX:CXT}{k:Nat}{f C:Addr}{fd:FuncData}{ps ks:List Str}{sp:Sp}{E:XK}{x m:Str}{p pos apos kpos:Pos}{e o:Expr}{es:List Expr}{kws:List Keyword}{te ta:TE}{t tk:TA}{nm:Option Str}
structure KBinds(K:PySem.W.Frag)(fd:FuncData)(ps ks:List Str)(g:List Value->List Value->List Value)(gV:List V->List V->List V):Prop where
 to:∀(s:Shared)(us ws:List Value),K.In s.heap->(g us ws).length=ps.length->BindsTo s fd ⟨us,ks.zip ws⟩ (ps.zip (g us ws))
 rel:∀{vs:List V}{us:List Value}{zs:List V}{ws:List Value},Vals vs us->Vals zs ws->Vals (gV vs zs) (g us ws)
variable{g:List Value->List Value->List Value}{gV:List V->List V->List V}
end
structure FnScope(N P:List Str)(sc:Scope):Prop where
 kind:sc.kind=.function
 co:sc.isCoroutine=false
 gen:sc.isGenerator=false
 nd:N.Nodup
 pre:N.take P.length=P
 par:∀x∈P,sc.names.lookup x=some .local∨sc.names.lookup x=some .cell
 nofree:∀y∈sc.names,y.2≠.free
theorem vO_{kindOf:Str->Option NameKind}{x:Str}:∀{binds:List (Str×Value)}{m:Str->Option Value},(∀v,(x,v)∉binds)->bindL kindOf binds m x=m x
 |[],_,_=>rfl
 |(n,v)::r,m,h=>by
  unfold bindL
  rw[vO_ λw hw=>h w (AC _ hw)]
  split
  ·have:x≠n:=by rintro rfl;exact h v AD
   simp [this]
  ·rfl
theorem vR_{kindOf:Str->Option NameKind}{x:Str}:∀{binds:List (Str×Value)}{m:Str->Option Value},(∀v,(x,v)∉binds)->bindC kindOf binds m x=m x
 |[],_,_=>rfl
 |(n,v)::r,m,h=>by
  unfold bindC
  rw[vR_ λw hw=>h w (AC _ hw)]
  split
  ·rfl
  ·have:x≠n:=by rintro rfl;exact h v AD
   simp [this]
theorem vP_{kindOf:Str->Option NameKind}{x:Str}{v:Value}:∀{P:List Str}{vs:List Value}{i:Nat}{m:Str->Option Value},P.Nodup->P[i]?=some x->vs[i]?=some v->kindOf x=some .local ->
  bindL kindOf (P.zip vs) m x=some v
 |[],_,_,_,_,h,_,_=>by simp at h
 |_::_,[],_,_,_,_,h,_=>by simp at h
 |p::P,w::vs,0,m,nd,h1,h2,hk=>by
  simp at h1 h2;subst h1;subst h2
  show bindL kindOf ((p,w)::P.zip vs) m p=_
  unfold bindL
  rw[vO_ λv hv=>(B4.mp nd).1 (EE hv).1,if_pos hk]
  simp
 |p::P,w::vs,i+1,m,nd,h1,h2,hk=>by
  show bindL kindOf ((p,w)::P.zip vs) m x=_
  unfold bindL
  exact vP_ (i:=i) (B4.mp nd).2 (by simpa using h1) (by simpa using h2) hk
theorem vF_{kindOf:Str->Option NameKind}{x:Str}{v:Value}:∀{P:List Str}{vs:List Value}{i:Nat}{m:Str->Option Value},P.Nodup->P[i]?=some x->vs[i]?=some v->kindOf x≠some .local ->
  bindC kindOf (P.zip vs) m x=some v
 |[],_,_,_,_,h,_,_=>by simp at h
 |_::_,[],_,_,_,_,h,_=>by simp at h
 |p::P,w::vs,0,m,nd,h1,h2,hk=>by
  simp at h1 h2;subst h1;subst h2
  show bindC kindOf ((p,w)::P.zip vs) m p=_
  unfold bindC
  rw[vR_ λv hv=>(B4.mp nd).1 (EE hv).1,if_neg hk]
  simp
 |p::P,w::vs,i+1,m,nd,h1,h2,hk=>by
  show bindC kindOf ((p,w)::P.zip vs) m x=_
  unfold bindC
  exact vF_ (i:=i) (B4.mp nd).2 (by simpa using h1) (by simpa using h2) hk
def jJ_(N:List Str)(vs:List V):St:=vs.map some++List.replicate (N.length-vs.length) none
def zv_(CX:CXT)(P:Program)(w:World)(K:PySem.W.Frag)(mg:Str->Option Value)(base:Heap)(N:List Str)(qual:Str)(scope:Scope)(f:Addr)(cd:Value)(A:Around)(outer:List Env)(s:Shared)(H:Hp)(E:XK):Cx where
 prog:=P
 w:=w
 K:=K
 mg:=mg
 base:=base
 A:=A.deeper (envOfC qual scope s.heap.objs.size f cd)
 N:=N
 s₀:=s
 H₀:=H
 env:=envOfC qual scope s.heap.objs.size f cd
 outer:=outer
 stack:=envOfC qual scope s.heap.objs.size f cd::outer
 ex:=[]
 calm:=true
 fn:=λ_=>true
 pn:=[]
 xe:=λe s'=>wpAny (model P w) (A.deeper (envOfC qual scope s.heap.objs.size f cd)) (leaving (envOfC qual scope s.heap.objs.size f cd) e) (λ_ s''=>CX outer H s E e s'') (λe' s''=>CX outer H s E e' s'') s'
theorem aal_{sc:Scope}{n:Nat}{x:Str}(h:sc.names.lookup x=some .cell):∃c,(cellsFrom n sc.names []).lookup x=some c:=by
 have q:=EJ sc.names n [] (.inl h)
 exact Option.isSome_iff_exists.mp q
theorem aex_{CX:CXT}{P:Program}{w:World}{K:PySem.W.Frag}{mg:Str->Option Value}{base:Heap}{N ps:List Str}{qual:Str}{scope:Scope}{f:Addr}{cd:Value}{A:Around}{outer:List Env}{s s1:Shared}{H:Hp}{E:XK}{us:List Value}{vs:List V}
  (S:FnScope N ps scope) (hd:A.handled=none) (e0:Env0 P w K mg base A outer s H) (hl:vs.length=ps.length) (r:Vals vs us)
  (x:InCallC s s.heap.objs.size (bindL (envOfC qual scope s.heap.objs.size f cd).kindOf (ps.zip us) λ_=>none) (cellsFrom (s.heap.objs.size+1) scope.names []) (bindC (envOfC qual scope s.heap.objs.size f cd).kindOf (ps.zip us) λ_=>none) s1) :
  Inv (zv_ CX P w K mg base N qual scope f cd A outer s H E) [] (jJ_ N vs) H s1:=by
 have hpl:ps.length<=N.length:=by have:=congrArg List.length S.pre;rw[An]at this;omega
 obtain⟨h1,tk,rfl,hk⟩:=x.done
 have noA:∀b:Addr,b∉(zv_ CX P w K mg base N qual scope f cd A outer s H E).ex:=λb z=>absurd (show b∈([]:List Addr) from z) (by simp)
 refine⟨⟨e0.mod,S.kind,rfl,rfl,AH _,λy z c h1 h2=>?_,λy hy=>?_,λy c _ h=>?_,λ_=>hd,Around.frames_deeper e0.frames,.inr ⟨rfl,rfl⟩,λb z=>absurd z (noA b),e0.bs,e0.bsz,λb _ _=>noA b,λb z=>absurd z (noA b),e0.funs,e0.frf⟩,
  rfl,e0.bare,Un.kept hk,⟨_,x.toInCall.ns,λi y v h1 h2 h3=>?_⟩,λy c h=>⟨_,x.cell y c h⟩,e0.hok.fresh (AH _),λy c h=>?_,λp hp=>absurd (show p∈([]:List (Addr×Obj)) from hp) (by simp),e0.hok.kept hk,?_⟩
 ·exact name_of_addr x.apart (CV h1) (CV h2)
 ·have hy:scope.names.lookup y=some .cell∨scope.names.lookup y=some .free:=hy
  rcases hy with hy|hy
  ·exact aal_ hy
  ·exact absurd rfl (S.nofree _ (CV hy))
 ·exact BX (x.above y c (CV h))
 ·have hi:i<vs.length:=by
   unfold jJ_ at h2
   by_cases hi:i<vs.length
   ·exact hi
   ·rw[Cs (by simpa using hi)]at h2
    rw[C7]at h2
    split at h2<;>cases h2
  have ha:vs[i]?=some v:=by
   unfold jJ_ at h2
   rw[Cy (by simpa using hi),Ac]at h2
   cases e:vs[i]? with
   |none=>rw[e]at h2;cases h2
   |some a=>rw[e]at h2;cases h2;rfl
  obtain⟨u,hu,rv⟩:=r.get ha
  have hp:ps[i]?=some y:=by
   rw[<-S.pre,Dw (by omega)];exact h1
  have ndP:ps.Nodup:=by rw[<-S.pre];exact S.nd.sublist (Dq _ _)
  refine⟨u,rv,?_⟩
  rcases S.par y (Ah hp) with k|k
  ·exact .inl ⟨k,vP_ ndP hp hu k⟩
  ·obtain⟨c,e⟩:=aal_ (n:=s.heap.objs.size+1) k
   refine .inr ⟨.inl k,c,e,?_⟩
   have q:=x.cell y c e
   rw[vF_ ndP hp hu (by show scope.names.lookup y≠_;rw[k];decide)]at q
   exact q
 ·exact e0.hok.fresh (BX (x.above y c (CV h)))
 ·unfold jJ_
  show _=N.length
  rw[AK,AA,Bn]
  omega
theorem ait_{CX:CXT}{P:Program}{w:World}{K:PySem.W.Frag}{mg:Str->Option Value}{base:Heap}{k:Nat}{f:Addr}{name qual:Str}{params:Arguments}{body:List Stmt}{scope:Scope}{dV kV doc pm cdv ct oc:Value}{an od:Option Addr}
  {osl:Array (Option Value)} {N ps:List Str} {sp:Sp} (lk:K.lookup f=some ⟨oc,od,.func (PySem.W.fnOf name qual params body scope dV kV doc pm an cdv ct),osl⟩) (hcd:PySem.W.codeIn K cdv qual=true) (S:FnScope N ps scope)
  (len:∀vs H Q E,sp vs H Q E->vs.length=ps.length)
  (hbody:∀(A:Around)(outer:List Env)(s:Shared)(H:Hp)(vs:List V)(Q:VK)(E:XK),Room k (A.deeper (envOfC qual scope s.heap.objs.size f cdv))->sp vs H Q E ->
   ∃t,PSs (zv_ CX P w K mg base N qual scope f cdv A outer s H E) body t/\t { nx:=λ_ H'=>Q .non H',rt:=Q } (jJ_ N vs) H) :
  FnOk P w K mg base CX (k+1) f (PySem.W.fnOf name qual params body scope dV kV doc pm an cdv ct) ps sp:=by
 refine⟨len,λA outer s H args us vs Q E hr e0 hb r hsp=>?_⟩
 have hl:=len _ _ _ _ hsp
 have KX:K.In s.heap:=e0.mod.kin.keeps λb o e=>(e0.bs b o e).1
 have lim:s.heap.NoLimit:=e0.mod.nolimit.keeps λb o e=>(e0.bs b o e).1
 have hkind:∀y∈ps.zip us,scope.names.lookup y.1=some .local∨(scope.names.lookup y.1=some .cell/\((cellsFrom (s.heap.objs.size+1) scope.names []).lookup y.1).isSome=true):=λ⟨n,v⟩ hy=>by
  rcases S.par n (EE hy).1 with q|q
  ·exact .inl q
  ·exact .inr ⟨q,EJ _ _ _ (.inl q)⟩
 refine codeAny_call_function hr.depth (KX _ _ lk) rfl S.co S.gen rfl (PySem.W.codeRec_of KX hcd) (hb _ _ _ _ ?_)
 refine wpAny_newFunctionEnv_cells S.kind hkind λenv he s1 x=>?_
 subst he
 refine⟨lim.keeps x.toInCall.keep,codeAny_func ?_⟩
 obtain⟨t,ht,hq⟩:=hbody A outer s H vs Q E (hr.deeper _) hsp
 have I:Inv (zv_ CX P w K mg base N qual scope f cdv A outer s H E) [] (jJ_ N vs) H s1:=aex_ S hr.hd e0 hl r x
 refine wpAny_mono (ht [] s1 (jJ_ N vs) H _ I hq) (λfl s' hs=>?_) λe s' hs=>hs
 have fin:∀{σ':St}{H':Hp}{v:V}{u:Value},Inv (zv_ CX P w K mg base N qual scope f cdv A outer s H E) [] σ' H' s'->RelV v u->Q v H'->CE outer P w H s Q u s' :=
  λ{σ' H' v u} J rv q=>⟨v,H',J.os,J.bare,J.base,J.hok,rv,q⟩
 cases fl with
 |ret u =>
  obtain⟨v,σ',H',J,rv,q⟩:=hs
  exact fin J rv q
 |next =>
  obtain⟨σ',H',J,q⟩:=hs
  exact fin (v:=V.non) (u:=Value.none) J rfl q
 |brk =>
  obtain⟨_,_,_,q⟩:=hs
  exact False.elim q
 |cont =>
  obtain⟨_,_,_,q⟩:=hs
  exact False.elim q
end L2
namespace L2
open PySem PySem.Spec PyProof.Rows
section
variable{X:Cx}{x:Str}{p pos:Pos}{e:Expr}{es:List Expr}{t:TA}{id T:String}{r:List V->Hp->VK->Prop}
def tCB(r:List V->Hp->VK->Prop)(t:TA):TE:=λσ H Q=>t σ H λvs H1=>r vs H1 Q
theorem qh_(hc:CallR X (.builtin id) r)(hg:Gl X x)(hm:X.mg x=none)(hv:bootBuiltins x=some (.builtin id))(ha:PA X (e::es) t)(hn:x ≠ "__name__" := by decide)(hdb:(x==("__debug__" : Str))=false:=by decide)
  (he:starEach (e::es) X.env=(false,eval e X.env)::starEach es X.env:=by rfl) (hpl:(backTo pos (starEach es X.env)).any (·.1)=false:=by rfl):PE X (.Call (.Name x p) (e::es) [] pos) (tCB r t):=by
 intro pins s σ H Q I h
 refine wpAny_Call_Name_kw (zH_ I hg hm hv ?_ hn hdb)
 exact PyProof.Rows.callWith_builtin1 (thn (ha pos pins s σ H _ I h) λus s1 ⟨vs,H1,I1,r1,q1⟩=>hc pins s1 σ H1 vs us Q I1 r1 q1) he hpl
theorem zC_(hc:CallR X (.type T) r)(hg:Gl X x)(hm:X.mg x=none)(hv:bootBuiltins x=some (.type T))(ha:PA X (e::es) t)(hn:x ≠ "__name__" := by decide)(hdb:(x==("__debug__" : Str))=false:=by decide)
  (he:starEach (e::es) X.env=(false,eval e X.env)::starEach es X.env:=by rfl) (hpl:(backTo pos (starEach es X.env)).any (·.1)=false:=by rfl):PE X (.Call (.Name x p) (e::es) [] pos) (tCB r t):=by
 intro pins s σ H Q I h
 refine wpAny_Call_Name_kw (zH_ I hg hm hv ?_ hn hdb)
 exact BG (thn (ha pos pins s σ H _ I h) λus s1 ⟨vs,H1,I1,r1,q1⟩=>hc pins s1 σ H1 vs us Q I1 r1 q1) he hpl
end
end L2
namespace HT
open PySem PyProof.Rows
def lexLt:List Int->List Int->Bool
 |[],[]=>false
 |[],_::_=>true
 |_::_,[]=>false
 |x::xs,y::ys=>if x=y then lexLt xs ys else decide (x<y)
theorem lexLt_cons(x y:Int)(xs ys:List Int):lexLt (x::xs) (y::ys)=if x=y then lexLt xs ys else decide (x<y):=rfl
theorem lexLt_nil_nil:lexLt [] []=false:=rfl
theorem lexLt_nil_cons(y:Int)(ys:List Int):lexLt [] (y::ys)=true:=rfl
theorem lexLt_cons_nil(x:Int)(xs:List Int):lexLt (x::xs) []=false:=rfl
theorem eqAt_int(A:Around)(s:Shared)(a:Int)(t:Tok)(c:Int)(u:Tok):∃e,SeqAt.EqAt A s (.int a t) (.int c u) e/\(e=true↔a=c) :=
 ⟨(a==c),Df a t c u,by simp⟩
theorem agm_(A:Around)(s:Shared)(a:Int)(t:Tok)(c:Int)(u:Tok)(prog:Program)(w:World)(E:Value->Shared->Prop)(Q:Value->Shared->Prop)(h:Q (.bool (decide (a<c))) s) :
  wpAny (model prog w) A (richCompare .Lt (.int a t) (.int c u)) Q E s :=
 (DZ h:wpAny (model prog w) A (compareOp .Lt (.int a t) (.int c u)) Q E s)
section
open PySem.SeqAt
open PySem.AutoSeq1 (wpAny_loadPart')
open PySem.MeetsSeq PySem.MeetsSeq2 PySem.MeetsSeq3
theorem v3_(l b:Addr)(items items2:Array Value)(n n2:Nat)(dd dd2:Option Addr)(sl sl2:Array (Option Value))(ns ms:List Int)(hi:IntsAre items.toList ns)(hj:IntsAre items2.toList ms) :
  Meets (Builtin.«tuple.__lt__» ⟨[.ref l,.ref b],[]⟩)
   (λ_ R s=>s.heap.get? l=some { cls:=.type "tuple",dict:=dd,data:=.seq items n,slots:=sl }/\s.heap.get? b=some { cls:=.type "tuple",dict:=dd2,data:=.seq items2 n2,slots:=sl2 } /\
    R (.ok (.ret (.bool (lexLt ns ms)))) s) :=
 .of_wp λprog w A R s h=>by
  obtain⟨hp,g,d,tk,os⟩:=s;obtain⟨hl,hb,h⟩:=h
  have f2:=Dx
  have z1:items.size=ns.length:=by rw[<-hi.length];simp
  have z2:items2.size=ms.length:=by rw[<-hj.length];simp
  wp_walk using wpAny_loadPart' hl,wpAny_loadPart' hb,wpAny_forIn_list _ (λrest b s'=>b.1=none/\s'=⟨hp,g,d,tk,os⟩/\∃(vs ws:List Value)(ns' ms':List Int),rest=vs.zip ws /\
   IntsAre vs ns'/\IntsAre ws ms'/\ns'.length+items2.size=ms'.length+items.size/\R (.ok (.ret (.bool (lexLt ns' ms')))) ⟨hp,g,d,tk,os⟩) _
  case turn =>
   rintro⟨y,x⟩ rest b s' ⟨hb',rfl,vs,ws,ns',ms',hz,hvi,hwi,hlen,hR⟩
   cases hvi with
   |nil=>rw[List.zip_nil_left]at hz;cases hz
   |cons a t hvi' =>
    cases hwi with
    |nil=>rw[List.zip_nil_right]at hz;cases hz
    |cons c u hwi' =>
     rw[CH]at hz
     injection hz with hyx hrest
     injection hyx with hy hx
     subst hy hx
     rw[lexLt_cons]at hR
     simp only[AY]at hlen
     obtain⟨e,he,hiff⟩:=eqAt_int A.in1 ⟨hp,g,d,tk,os⟩ a t c u
     refine wpAny_bind (he prog w _ _ ?_)
     cases e with
     |true =>
      rw[if_pos (hiff.mp rfl)]at hR
      wp_walk
      exact⟨rfl,rfl,_,_,_,_,hrest,hvi',hwi',by omega,hR⟩
     |false =>
      rw[if_neg (λq=>absurd (hiff.mpr q) AS)]at hR
      have hri:=agm_ A.in1 ⟨hp,g,d,tk,os⟩ a t c u prog w
      wp_walk using hri
      exact⟨_,rfl,by simpa using hR⟩
  case fin =>
   rintro⟨b1,b2⟩ s' ⟨hb',rfl,vs,ws,ns',ms',hz,hvi,hwi,hlen,hR⟩
   simp only at hb'
   subst hb'
   have hv:lexLt ns' ms'=decide (items.size<items2.size):=by
    cases hvi with
    |nil =>
     cases hwi with
     |nil =>
      simp only[Bu]at hlen
      rw[lexLt_nil_nil]
      exact(decide_eq_false (by omega)).symm
     |cons c u hw =>
      simp only[Bu,AY]at hlen
      rw[lexLt_nil_cons]
      exact(decide_eq_true (by omega)).symm
    |cons a t hv =>
     cases hwi with
     |nil =>
      simp only[Bu,AY]at hlen
      rw[lexLt_cons_nil]
      exact(decide_eq_false (by omega)).symm
     |cons c u hw =>
      rw[CH]at hz
      cases hz
   rw[hv]at hR
   wp_walk
   exact⟨_,rfl,by simpa [Builtin.Tuple.tupleCompareSizes]using hR⟩
  case h =>
   exact⟨rfl,rfl,items.toList,items2.toList,ns,ms,rfl,hi,hj,by omega,h⟩
end
section
variable{prog:Program}{w:World}{A:Around}{E:Value->Shared->Prop}{s:Shared}
theorem lt_tupInts{l b:Addr}{items items2:Array Value}{ns ms:List Int}{Q:Value->Shared->Prop}(hl:IsTup s.heap l items)(hb:IsTup s.heap b items2)(hi:IntsAre items.toList ns)(hj:IntsAre items2.toList ms)
  (hu:A.units<cLine) (h:Q (.bool (lexLt ns ms)) s):wpAny (model prog w) A (compareOp .Lt (.ref l) (.ref b)) Q E s:=by
 obtain⟨⟨cls,dd,data,sl⟩,ho,hc,n,hd⟩:=id hl
 obtain⟨⟨cls2,dd2,data2,sl2⟩,ho2,hc2,n2,hd2⟩:=id hb
 simp only at hc hd hc2 hd2
 subst hc hd hc2 hd2
 exact richCompare_meets_room (op:=.Lt) ⟨_,ho,rfl⟩ ⟨_,ho2,rfl⟩ EV EK (D8 _ _) (v3_ l b items items2 n n2 dd dd2 sl sl2 ns ms hi hj)
  ⟨ho,ho2,show Value.bool (lexLt ns ms)≠Value.notImplemented/\Q (.bool (lexLt ns ms)) s from⟨(λx=>nomatch x),h⟩⟩ hu
theorem cat_tup{t b:Addr}{vs ws:List Value}{Q:Value->Shared->Prop}(ht:IsTup s.heap t vs.toArray)(hb:IsTup s.heap b ws.toArray)(hv:vs≠[])
  (h1:ws=[]->Q (.ref t) s) (h2:ws≠[]->Q (.ref s.heap.objs.size) { s with heap:=s.heap.push { cls:=.type "tuple",data:=.seq (vs++ws).toArray } })
  (hsz:vs.length+ws.length<=sizeLine):wpAny (model prog w) A (binaryOp .Add (.ref t) (.ref b)) Q E s:=by
 obtain⟨⟨cls,dd,data,sl⟩,ho,hc,n,hd⟩:=id ht
 obtain⟨⟨cls2,dd2,data2,sl2⟩,ho2,hc2,n2,hd2⟩:=id hb
 simp only at hc hd hc2 hd2
 subst hc hd hc2 hd2
 have e:vs.toArray++ws.toArray=(vs++ws).toArray:=by simp
 by_cases hw:ws=[]
 ·exact concat_meets ⟨_,ho,rfl⟩ ⟨_,ho2,rfl⟩ noFill_tuple_add seq_tuple_add DC C8 (C1 _ _)
   (tuple_addW1 t b vs.toArray ws.toArray n n2 dd dd2 sl sl2 (by simpa using hv) (by simp [hw])) ⟨ho,ho2,h1 hw⟩
 ·refine concat_meets ⟨_,ho,rfl⟩ ⟨_,ho2,rfl⟩ noFill_tuple_add seq_tuple_add DC C8 (C1 _ _)
   (tuple_addW2 t b vs.toArray ws.toArray n n2 dd dd2 sl sl2 (by simpa using hv) (by simpa using hw) (by rw[AQ,AQ];exact hsz)) ⟨ho,ho2,?_⟩
  rw[e]
  exact h2 hw
def sIx(n d:Nat):Option Int->Nat
 |none=>d
 |some v=>if v<0 then (v+(n:Int)).toNat else min v.toNat n
theorem sIx_none(n d:Nat):sIx n d none=d:=rfl
theorem sIx_nat(n d k:Nat):sIx n d (some (k:Int))=min k n:=by
 show(if (k:Int)<0 then ((k:Int)+(n:Int)).toNat else min (k:Int).toNat n)=min k n
 rw[if_neg (by omega),At]
theorem al5_(n d:Nat)(hd:d<=n)(o:Option Int):sIx n d o<=n:=by
 cases o with
 |none=>exact hd
 |some v =>
  show(if v<0 then (v+(n:Int)).toNat else min v.toNat n)<=n
  by_cases hv:v<0
  ·rw[if_pos hv];omega
  ·rw[if_neg hv];exact Nat.min_le_right _ _
theorem ac2_(v:Int)(n d:Nat):(if v<0 then max (v+(n:Int)) 0 else min v (n:Int))=((sIx n d (some v):Nat):Int):=by
 show(if v<0 then max (v+(n:Int)) 0 else min v (n:Int))=(((if v<0 then (v+(n:Int)).toNat else min v.toNat n):Nat):Int)
 by_cases hv:v<0
 ·simp only[if_pos hv];omega
 ·simp only[if_neg hv];omega
theorem ad4_(lo hi:Option Int)(n:Nat):Builtin.Slice.sliceAdjust lo hi 1 (n:Int)=(((sIx n 0 lo:Nat):Int),((sIx n n hi:Nat):Int)):=by
 have h1:¬ ((1:Int)<0):=by omega
 unfold Builtin.Slice.sliceAdjust
 simp only[h1,if_false]
 refine Dy ?_ ?_
 ·cases lo with
  |none=>rfl
  |some v=>exact ac2_ v n 0
 ·cases hi with
  |none=>rfl
  |some v=>exact ac2_ v n n
theorem adb_(i j:Nat):Builtin.Slice.slicePlaces (i:Int) (j:Int) 1=j-i:=by
 unfold Builtin.Slice.slicePlaces
 have h1:(1:Int)>0:=by omega
 simp only[h1,if_true,Int.ediv_one]
 split<;>omega
theorem y1_{v:Value}{o:Option Int}{Q:Option Int->Shared->Prop}(p:IsPart v o)(h:Q o s):wpAny (model prog w) A (Builtin.Slice.slicePartIndex v) Q E s:=by
 cases p with
 |none=>exact slicePart_none h
 |int i t=>exact slicePart_int h
theorem sliceApplied_gen{sl:Addr}{vl vu:Value}{lo hi:Option Int}{n:Nat}{Q:Int×Int×Nat->Shared->Prop}(hs:s.heap.IsSliceOf sl vl vu .none)(pl:IsPart vl lo)(pu:IsPart vu hi)
  (h:Q (((sIx n 0 lo:Nat):Int),1,sIx n n hi-sIx n 0 lo) s):wpAny (model prog w) A (Builtin.Slice.sliceApplied (.ref sl) (pure (n:Int))) Q E s:=by
 obtain⟨os,hos,hcs,hds⟩:=id hs
 unfold Builtin.Slice.sliceApplied Builtin.Slice.sliceFields
 refine wpAny_bind (wpAny_bind (wpAny_field hos hds (x:=vl) rfl (wpAny_bind (wpAny_field hos hds (x:=vu) rfl (wpAny_bind (wpAny_field hos hds (x:=.none) rfl (wpAny_pure ?_)))))))
 refine wpAny_bind (slicePart_none ?_)
 show wpAny _ _ (if ((1:Int)==0)=true then _ else _) _ _ s
 rw[if_neg (by decide)]
 refine wpAny_bind (y1_ pl (wpAny_bind (y1_ pu (wpAny_bind (wpAny_pure ?_)))))
 show wpAny _ _ (match Builtin.Slice.sliceAdjust lo hi 1 (n:Int) with|(lo,hi)=>pure (lo,(1:Int),Builtin.Slice.slicePlaces lo hi 1)) _ _ s
 rw[ad4_ lo hi n]
 show wpAny _ _ (pure (((sIx n 0 lo:Nat):Int),(1:Int),Builtin.Slice.slicePlaces ((sIx n 0 lo:Nat):Int) ((sIx n n hi:Nat):Int) 1)) _ _ s
 rw[adb_]
 exact wpAny_pure h
theorem ahe_(xs:Array Value)(i k:Nat):((List.range k).filterMap λ(m:Nat)=>xs[((i:Int)+(m:Int)*1).toNat]?).toArray=((xs.toList.drop i).take k).toArray:=by
 have e:(λ(m:Nat)=>xs[((i:Int)+(m:Int)*1).toNat]?)=λm=>xs[i+m]?:=by
  funext m
  have:((i:Int)+(m:Int)*1).toNat=i+m:=by omega
  rw[this]
 rw[e]
 have:=pick_run xs i k
 rw[List.filterMap_map]at this
 have e2:((λx=>xs[x]?) ∘ λx=>i+x)=λm=>xs[i+m]?:=rfl
 rw[e2]at this
 rw[this]
theorem getItem_tuple_cut{t sl:Addr}{items:Array Value}{vl vu:Value}{lo hi:Option Int}{Q:Value->Shared->Prop}(ht:IsTup s.heap t items)(hs:s.heap.IsSliceOf sl vl vu .none)(pl:IsPart vl lo)(pu:IsPart vu hi)
  (hw:¬ (sIx items.size 0 lo=0/\sIx items.size items.size hi=items.size))
  (h:Q (.ref s.heap.objs.size) { s with heap:=s.heap.push { cls:=.type "tuple",data:=.seq ((items.toList.drop (sIx items.size 0 lo)).take (sIx items.size items.size hi-sIx items.size 0 lo)).toArray } })
  (hsz:items.size<=sizeLine):wpAny (model prog w) A (getItem (.ref t) (.ref sl)) Q E s:=by
 have htake:sizeOk (.seq ((items.toList.drop (sIx items.size 0 lo)).take (sIx items.size items.size hi-sIx items.size 0 lo)).toArray):=by
  show((items.toList.drop (sIx items.size 0 lo)).take (sIx items.size items.size hi-sIx items.size 0 lo)).toArray.size<=sizeLine
  rw[AQ,An,Bf,AO]
  omega
 have hj:sIx items.size items.size hi<=items.size:=al5_ _ _ (AH _) hi
 obtain⟨os,hos,hcs,hds⟩:=id hs
 have hTs:s.TypeIs (.ref sl) "slice" := ⟨os,hos,hcs⟩
 unfold getItem
 try with_reducible refine wpAny_holding ?_
 first|refine wpAny_bind (wpAny_pure ?_)|skip
 refine wpAny_bind (wpAny_sequenceKey ht.typeIs (by decide) ?_)
 refine wpAny_bind (wpAny_callSpecial?_slot (name:=Str.ofString "__getitem__") ht.typeIs BQ
  (wpAny_call_entry BQ ht.typeIs entry_tuple_getitem ?_ (args_tuple_getitem _ _)))
 show wpAny _ _ (Builtin.Tuple.tupleItemsOf (.ref t)>>=_) _ _ s
 refine wpAny_bind (tupleItemsOf_ ht ?_)
 refine wpAny_bind (wpAny_typeOf hTs ?_)
 rw[if_pos (by decide)]
 refine wpAny_bind (sliceApplied_gen hs pl pu ?_)
 have hno:¬ ((((sIx items.size 0 lo:Nat):Int)==0&&(1:Int)==1&&(sIx items.size items.size hi-sIx items.size 0 lo)==items.size)=true):=by
  intro q
  rw[AG,AG]at q
  have q1:((sIx items.size 0 lo:Nat):Int)=0:=eq_of_beq q.1.1
  have q2:sIx items.size items.size hi-sIx items.size 0 lo=items.size:=eq_of_beq q.2
  exact hw ⟨by omega,by omega⟩
 show wpAny _ _ (if (((sIx items.size 0 lo:Nat):Int)==0&&(1:Int)==1&&(sIx items.size items.size hi-sIx items.size 0 lo)==items.size)=true then _ else _) _ _ s
 rw[if_neg hno,ahe_]
 first
  |exact wpAny_bind (m:=Builtin.Tuple.tupleExact _) (wpAny_newObj_type (wpAny_pure ⟨_,rfl,wpAny_pure h⟩) htake)
  |exact wpAny_bind (m:=Builtin.Tuple.tupleExact _) (wpAny_newObj_type (wpAny_bind (wpAny_pure (wpAny_pure ⟨_,rfl,wpAny_pure h⟩))) htake)
  |exact wpAny_bind (wpAny_bind (m:=Builtin.Tuple.tupleExact _) (wpAny_newObj_type (wpAny_pure (wpAny_pure ⟨_,rfl,wpAny_pure h⟩)) htake))
  |exact wpAny_bind (wpAny_bind (m:=Builtin.Tuple.tupleExact _) (wpAny_newObj_type (wpAny_pure ⟨_,rfl,wpAny_pure h⟩) htake))
end
end HT
namespace L2
open PySem PySem.Spec PyProof.Rows
abbrev TO:=St->Hp->(Option Int->Hp->Prop)->Prop
def PO(X:Cx)(e:Option Expr)(t:TO):Prop :=
 ∀(pins:List (Addr×Obj))(s:Shared)(σ:St)(H:Hp)(Q:Option Int->Hp->Prop),Inv X pins σ H s->t σ H Q ->
  wpAny (model X.prog X.w) X.A (evalPart e X.env) (λu s'=>∃o H',Inv X pins σ H' s'/\IsPart u o/\Q o H') X.xe s
def aj3_:TO:=λ_ H Q=>Q none H
def aps_(t:TE):TO:=λσ H Q=>t σ H λx H1=>∃i,x=.int i/\Q (some i) H1
theorem q1_{ns:List Int}:∀{us:List Value},Vals (ns.map V.int) us->IntsAre us ns:=by
 induction ns with
 |nil=>intro us r;rw[C2]at r;cases r;exact .nil
 |cons n ns ih =>
  intro us r
  rw[Aa]at r
  cases r with
  |cons r1 r2 =>
   obtain⟨t,e⟩:=r1
   subst e
   exact .cons n t (ih r2)
section
variable{X:Cx}{e:Expr}{te:TE}{lo hi:Option Expr}{tl th:TO}{pos p2:Pos}
theorem jQ_:PO X none aj3_:=by
 intro pins s σ H Q I h
 rw[evalPart_none]
 exact wpAny_pure ⟨none,H,I,.none,h⟩
theorem jN_(h:PE X e te):PO X (some e) (aps_ te):=by
 intro pins s σ H Q I hw
 rw[evalPart_some]
 refine thn (h pins s σ H _ I hw) λu s1 ⟨x,H1,I1,r1,q1⟩=>?_
 obtain⟨i,rfl,q⟩:=q1
 obtain⟨t,rfl⟩:=r1
 exact⟨some i,H1,I1,.int i t,q⟩
def SlR(X:Cx)(r:V->Option Int->Option Int->Hp->VK->Prop):Prop :=
 ∀(pins:List (Addr×Obj))(s:Shared)(σ:St)(H:Hp)(x:V)(v vl vu:Value)(lo hi:Option Int)(sl:Addr)(Q:VK),Inv X pins σ H s->RelV x v->s.heap.IsSliceOf sl vl vu .none->IsPart vl lo->IsPart vu hi->r x lo hi H Q ->
  ∃T id,typeLookup (.type T) "__getitem__" = pure (some (.builtin id))/\s.TypeIs v T/\wpAny (model X.prog X.w) X.A (getItem v (.ref sl)) (EP X pins σ Q) X.xe s
theorem SlR.or{r r':V->Option Int->Option Int->Hp->VK->Prop}(h:SlR X r)(h':SlR X r'):SlR X (λx lo hi H Q=>r x lo hi H Q∨r' x lo hi H Q):=by
 intro pins s σ H x v vl vu lo hi sl Q I rx hs pl pu q
 rcases q with q|q
 ·exact h pins s σ H x v vl vu lo hi sl Q I rx hs pl pu q
 ·exact h' pins s σ H x v vl vu lo hi sl Q I rx hs pl pu q
def tSl(r:V->Option Int->Option Int->Hp->VK->Prop)(te:TE)(tl th:TO):TE:=λσ H Q=>te σ H λx H1=>tl σ H1 λl H2=>th σ H2 λu H3=>r x l u H3 Q
theorem jy_{r:V->Option Int->Option Int->Hp->VK->Prop}(hr:SlR X r)(he:PE X e te)(hl:PO X lo tl)(hu:PO X hi th):PE X (.Subscript e (.Slice lo hi none p2) pos) (tSl r te tl th):=by
 intro pins s σ H Q I h
 refine Subscript_ (thn (he pins s σ H _ I h) λv s1 ⟨x,H1,I1,r1,q1⟩=>?_)
 refine wpAny_Slice (thn (hl pins s1 σ H1 _ I1 q1) λvl s2 ⟨l,H2,I2,pl,q2⟩=>thn (hu pins s2 σ H2 _ I2 q2) λvu s3 ⟨u,H3,I3,pu,q3⟩=>?_)
 rw[evalPart_none]
 refine wpAny_pure ?_
 have I4:Inv X pins σ H3 { s3 with heap:=s3.heap.push { cls:=.type "slice",data:=.fields #[vl,vu,.none] } }:=I3.kept (t':=s3.toks) λb ob q=>AB _ q
 obtain⟨T,id,hT,ht,hg⟩:=hr pins { s3 with heap:=s3.heap.push { cls:=.type "slice",data:=.fields #[vl,vu,.none] } } σ H3 x v vl vu l u s3.heap.objs.size Q I4 r1 (Heap.IsSliceOf.new ..) pl pu q3
 show wpAny (model X.prog X.w) X.A (subscriptTail e (.Slice lo hi none p2) v (.ref s3.heap.objs.size)) (EP X pins σ Q) X.xe { s3 with heap:=s3.heap.push { cls:=.type "slice",data:=.fields #[vl,vu,.none] } }
 exact tail_any (ops:=[.ref s3.heap.objs.size,v]) ht hT hg (by with_unfolding_all rfl)
def jx_(xs:List V)(lo hi:Option Int):List V:=(xs.drop (HT.sIx xs.length 0 lo)).take (HT.sIx xs.length xs.length hi-HT.sIx xs.length 0 lo)
theorem yp_(xs:List V)(lo hi:Option Int):(jx_ xs lo hi).length<=xs.length:=by
 unfold jx_
 rw[An,Bf]
 omega
def rSlT(K:PySem.W.Frag):V->Option Int->Option Int->Hp->VK->Prop:=λx lo hi H Q=>∃a xs,x=.ref a/\SqT K H a xs /\
 ¬ (HT.sIx xs.length 0 lo=0/\HT.sIx xs.length xs.length hi=xs.length)/\∀p,H p=none->Q (.ref p) (upd H p (.tup (jx_ xs lo hi)))
theorem y7_:SlR X (rSlT X.K):=by
 intro pins s σ H x v vl vu lo hi sl Q I rx hs pl pu h
 obtain⟨a,xs,rfl,hx,hw,q⟩:=h
 cases rx
 obtain⟨its,r,ht,hz⟩:=I.tuple hx
 have hlen:its.toArray.size=xs.length:=by rw[AQ];exact r.length.symm
 refine⟨"tuple",_,BQ.lookup,ht.typeIs,?_⟩
 refine HT.getItem_tuple_cut ht hs pl pu (by rw[hlen];exact hw) ?_ (by rw[hlen];exact hz)
 rw[hlen]
 refine⟨.ref s.heap.objs.size,_,I.laid (t':=s.toks) (o:=.tup (jx_ xs lo hi)) (λb ob q=>AB _ q) (AH _) ?_,rfl,q _ (I.hok.fresh (AH _))⟩
 exact⟨Ag (yp_ xs lo hi) hz,_,(r.drop (HT.sIx xs.length 0 lo)).take (HT.sIx xs.length xs.length hi-HT.sIx xs.length 0 lo),TupN.new _ _⟩
def ao2_(K:PySem.W.Frag):R2:=λx y H Q=>∃a b xs ys,x=.ref a/\y=.ref b/\SqT K H a xs/\SqT K H b ys/\xs≠[]/\xs.length+ys.length<=sizeLine /\
 (ys=[]->Q (.ref a) H)/\(ys≠[]->∀p,H p=none->Q (.ref p) (upd H p (.tup (xs++ys))))
theorem Vals.nil_iff{xs:List V}{us:List Value}(r:Vals xs us):us=[]↔xs=[]:=by
 cases r with
 |nil=>simp
 |cons _ _=>simp
theorem ab9_:OpR X (binaryOp .Add) (ao2_ X.K):=by
 intro pins s σ H x y v u Q I rx ry h
 obtain⟨a,b,xs,ys,rfl,rfl,ha,hb,hx,hz,q1,q2⟩:=h
 cases rx
 cases ry
 obtain⟨its,r1,p1,_⟩:=I.tuple ha
 obtain⟨its2,r2,p2,_⟩:=I.tuple hb
 refine HT.cat_tup p1 p2 (λz=>hx (r1.nil_iff.mp z)) (λz=>⟨.ref a,H,I,rfl,q1 (r2.nil_iff.mp z)⟩) (λz=>?_) (by rw[<-r1.length,<-r2.length];exact hz)
 refine⟨.ref s.heap.objs.size,_,I.laid (t':=s.toks) (o:=.tup (xs++ys)) (λb ob q=>AB _ q) (AH _) ?_,rfl,q2 (λw=>z (r2.nil_iff.mpr w)) _ (I.hok.fresh (AH _))⟩
 exact⟨by rw[AK];exact hz,_,r1.append r2,TupN.new _ _⟩
end
end L2
namespace L2
open PySem PySem.Spec PyProof.Rows
def ixN(n:Nat)(i:Int):Option Nat:=if 0<=i then (if i<n then some i.toNat else none) else if -(n:Int)<=i then some (i+n).toNat else none
def atI{α:Type}(xs:List α)(i:Int):Option α:=(ixN xs.length i).bind λj=>xs[j]?
theorem aca_{n:Nat}{i:Int}{j:Nat}(h:ixN n i=some j):seqIndex? i n=some j/\j<n/\-(n:Int)<=i/\i<n:=by
 unfold ixN at h
 by_cases h0:0<=i
 ·rw[if_pos h0]at h
  by_cases h1:i<n
  ·rw[if_pos h1]at h
   have e:i.toNat=j:=AW h
   exact⟨by rw[seqIndex_of h0 h1,e],by omega,by omega,h1⟩
  ·rw[if_neg h1]at h;cases h
 ·rw[if_neg h0]at h
  by_cases h1:-(n:Int)<=i
  ·rw[if_pos h1]at h
   have e:(i+n).toNat=j:=AW h
   exact⟨by rw[seqIndex_neg (by omega) h1,e],by omega,h1,by omega⟩
  ·rw[if_neg h1]at h;cases h
theorem vz_{α:Type}{xs:List α}{i:Int}{v:α}(h:atI xs i=some v):∃j,seqIndex? i xs.length=some j/\xs[j]?=some v/\j<xs.length/\-(xs.length:Int)<=i/\i<xs.length:=by
 unfold atI at h
 cases e:ixN xs.length i with
 |none=>rw[e]at h;cases h
 |some j =>
  rw[e]at h
  obtain⟨h1,h2,h3,h4⟩:=aca_ e
  exact⟨j,h1,h,h2,h3,h4⟩
theorem qW_{α:Type}{xs:List α}{j:Nat}{v:α}(h:xs[j]?=some v):atI xs (j:Int)=some v:=by
 have hj:j<xs.length:=(AR.mp h).1
 have e:ixN xs.length (j:Int)=some j:=by
  unfold ixN
  rw[if_pos (by omega),if_pos (by omega)];simp
 unfold atI;rw[e];exact h
def ajd_(b:Expr):Prop:=∀o i,subscripted b false o i=operate [o,i] (getItem o i)
def IxR(X:Cx)(r:R2):Prop :=
 ∀(value slice:Expr)(pins:List (Addr×Obj))(s:Shared)(σ:St)(H:Hp)(x y:V)(v u:Value)(Q:VK),Inv X pins σ H s->RelV x v->RelV y u->r x y H Q ->
  subscripted slice false v u=operate [v,u] (getItem v u)->wpAny (model X.prog X.w) X.A (subscriptTail value slice v u) (EP X pins σ Q) X.xe s
def MtR(X:Cx)(id:String)(r:V->List V->Hp->VK->Prop):Prop :=
 ∀(pins:List (Addr×Obj))(s:Shared)(σ:St)(H:Hp)(x:V)(xs:List V)(v:Value)(us:List Value)(Q:VK),Inv X pins σ H s->RelV x v->Vals xs us->r x xs H Q ->
  wpAny (model X.prog X.w) X.A (call (.builtin id) (v::us)) (EP X pins σ Q) X.xe s
section
variable{X:Cx}{a b:Expr}{ta tb:TE}{pos:Pos}
theorem IxR.or{r r':R2}(h:IxR X r)(h':IxR X r'):IxR X (λx y H Q=>r x y H Q∨r' x y H Q):=by
 intro value slice pins s σ H x y v u Q I rx ry q hs
 rcases q with q|q
 ·exact h value slice pins s σ H x y v u Q I rx ry q hs
 ·exact h' value slice pins s σ H x y v u Q I rx ry q hs
theorem MtR.or{id:String}{r r':V->List V->Hp->VK->Prop}(h:MtR X id r)(h':MtR X id r'):MtR X id (λx xs H Q=>r x xs H Q∨r' x xs H Q):=by
 intro pins s σ H x xs v us Q I rx rs q
 rcases q with q|q
 ·exact h pins s σ H x xs v us Q I rx rs q
 ·exact h' pins s σ H x xs v us Q I rx rs q
theorem qs_{r:R2}(hr:IxR X r)(ha:PE X a ta)(hb:PE X b tb)(hs:ajd_ b):PE X (.Subscript a b pos) (tOp r ta tb):=by
 intro pins s σ H Q I h
 exact Subscript_ (binT ha hb I h λv u s2 x y H2 I2 rx ry q=>hr a b pins s2 σ H2 x y v u Q I2 rx ry q (hs _ _))
def rIxL(K:PySem.W.Frag):R2:=λx y H Q=>∃p xs i v,x=.ref p/\y=.int i/\SqL K H p xs/\atI xs i=some v/\Q v H
def rIxT(K:PySem.W.Frag):R2:=λx y H Q=>∃p xs i v,x=.ref p/\y=.int i/\SqT K H p xs/\atI xs i=some v/\Q v H
theorem qN_:IxR X (rIxL X.K):=by
 intro value slice pins s σ H x y v u Q I rx ry h hs
 obtain⟨p,xs,i,z,rfl,rfl,hq,he,q⟩:=h
 cases rx
 obtain⟨t,rfl⟩:=ry
 obtain⟨its,r,pl,hz⟩:=I.list hq
 obtain⟨j,h1,h2,h3,h4,h5⟩:=vz_ he
 obtain⟨w,ew,rw'⟩:=r.get h2
 have hl:=r.length
 have hn:=xV_
 have fin:EP X pins σ Q w s:=⟨z,H,I,rw',q⟩
 by_cases h0:0<=i
 ·have hj:i.toNat=j:=by
   rw[seqIndex_of h0 h5]at h1
   exact AW h1
  exact item_listR pl.isList h0 (by omega) (by rw[hj];simpa using ew) fin hs
 ·have hj:(i+(its.toArray.size:Int)).toNat=j:=by
   rw[seqIndex_neg (by omega) h4]at h1
   rw[AQ,<-hl]
   exact AW h1
  exact subscriptTail_builtinR (x:=w) pl.isList.typeIs slot_list_getitem.lookup
   (wpAny_getItem_list_neg (Q:=λr s'=>r=w/\EP X pins σ Q r s') pl.isList (by omega) (by rw[AQ]<;>omega) (by omega) (by rw[hj];simpa using ew) ⟨rfl,fin⟩) hs
theorem qB_:IxR X (rIxT X.K):=by
 intro value slice pins s σ H x y v u Q I rx ry h hs
 obtain⟨p,xs,i,z,rfl,rfl,hq,he,q⟩:=h
 cases rx
 obtain⟨t,rfl⟩:=ry
 obtain⟨its,r,pl,hz⟩:=I.tuple hq
 obtain⟨j,h1,h2,h3,h4,h5⟩:=vz_ he
 obtain⟨w,ew,rw'⟩:=r.get h2
 have hl:=r.length
 have hn:=xV_
 have fin:EP X pins σ Q w s:=⟨z,H,I,rw',q⟩
 exact subscriptTail_builtinR (x:=w) pl.typeIs slot_tuple_getitem.lookup
  (getItem_tuple (j:=j) (Q:=λr s'=>r=w/\EP X pins σ Q r s') pl (by omega) (by omega) (by rw[AQ,<-hl];exact h1) (by simpa using ew) ⟨rfl,fin⟩) hs
theorem adt_(its:List Value)(n j:Nat)(u:Value):Obj.mapSeq (·.setIfInBounds j u) { cls:=.type "list",data:=.seq its.toArray n }={ cls:=.type "list",data:=.seq (its.set j u).toArray n }:=by
 simp [Obj.mapSeq]
theorem Inv.lst{pins:List (Addr×Obj)}{σ:St}{H:Hp}{s:Shared}{p:Addr}{xs:List V}(I:Inv X pins σ H s)(h:H p=some (.lst xs)) :
  ∃(its:List Value)(n:Nat),Vals xs its/\s.heap.get? p=some { cls:=.type "list",data:=.seq its.toArray n }/\xs.length<=sizeLine:=by
 obtain⟨z,its,n,r,e⟩:=I.hok p _ h
 exact⟨its,n,r,e,z⟩
theorem Inv.lstUpd{pins:List (Addr×Obj)}{σ:St}{H:Hp}{s:Shared}{p:Addr}{xs ys:List V}{its its':List Value}{n n':Nat}{f:Obj->Obj}(I:Inv X pins σ H s)(h:H p=some (.lst xs))
  (ho:s.heap.get? p=some { cls:=.type "list",data:=.seq its.toArray n }) (hf:f { cls:=.type "list",data:=.seq its.toArray n }={ cls:=.type "list",data:=.seq its'.toArray n' }) (r:Vals ys its') (hz:ys.length<=sizeLine) (t:Nat) :
  Inv X pins σ (upd H p (.lst ys)) { s with heap:=s.heap.update p f,toks:=t }:=by
 have e:(s.heap.update p f).get? p=some { cls:=.type "list",data:=.seq its'.toArray n' }:=by
  rw[BI f ho (by rw[hf]<;>rfl),hf]
 refine I.write (x:=p) (e:=p) (by rw[h];trivial) (.inl rfl) (λb u hb q=>(Aw _ _ (BY hb)).trans q) ⟨_,e⟩ ?_
 exact⟨hz,its',n',r,e⟩
def apq_:V->V->V->Hp->(Hp->Prop)->Prop:=λo i v H Q=>∃p xs k j,o=.ref p/\i=.int k/\H p=some (.lst xs)/\ixN xs.length k=some j/\Q (upd H p (.lst (xs.set j v)))
theorem yM_:PSet X apq_:=by
 intro pins s σ H o i v ov iv u Q I ro ri rv h
 obtain⟨p,xs,k,j,rfl,rfl,hp,hj,q⟩:=h
 cases ro
 obtain⟨t,rfl⟩:=ri
 obtain⟨its,n,r,ho,hz⟩:=I.lst hp
 obtain⟨h1,h2,h3,h4⟩:=aca_ hj
 have hl:=r.length
 have hn:=xV_
 have I':Inv X pins σ (upd H p (.lst (xs.set j v))) { s with heap:=s.heap.update p (Obj.mapSeq (·.setIfInBounds j u)) } :=
  I.lstUpd hp ho (adt_ its n j u) (r.set rv j) (by rw[DO];exact hz) s.toks
 by_cases h0:0<=k
 ·have hk:k.toNat=j:=by
   rw[seqIndex_of h0 h4]at h1
   exact AW h1
  exact PySem.W.ki_setAt ho h0 (by omega) (by rw[AQ,<-hl];exact h4) (by rw[hk];exact⟨_,I',q⟩)
 ·have hk:(k+(its.toArray.size:Int)).toNat=j:=by
   rw[seqIndex_neg (by omega) h3]at h1
   rw[AQ,<-hl]
   exact AW h1
  exact PySem.W.ki_setBack ho (by omega) (by rw[AQ,<-hl];exact h3) (by omega) (by rw[hk];exact⟨_,I',q⟩)
theorem aan_(lo hi:Option Int)(n:Nat):(sliceBounds lo hi none n).1=((HT.sIx n 0 lo:Nat):Int)/\(sliceBounds lo hi none n).2.1=((HT.sIx n n hi:Nat):Int)/\(sliceBounds lo hi none n).2.2=1:=by
 refine⟨?_,?_,rfl⟩
 ·cases lo with
  |none=>simp [sliceBounds,HT.sIx]
  |some i =>
   simp only[sliceBounds,HT.sIx,Option.getD_none,show(1:Int)>0 by decide,if_true]
   by_cases h:i<0
   ·simp only[h,if_true]<;>omega
   ·simp only[h,if_false]<;>omega
 ·cases hi with
  |none=>simp [sliceBounds,HT.sIx]
  |some i =>
   simp only[sliceBounds,HT.sIx,Option.getD_none,show(1:Int)>0 by decide,if_true]
   by_cases h:i<0
   ·simp only[h,if_true]<;>omega
   ·simp only[h,if_false]<;>omega
theorem v2_(its:List Value)(lo hi:Option Int):slicePick its.toArray lo hi none=((its.drop (HT.sIx its.length 0 lo)).take (HT.sIx its.length its.length hi-HT.sIx its.length 0 lo)).toArray:=by
 obtain⟨h1,h2,h3⟩:=aan_ lo hi its.toArray.size
 unfold slicePick
 rw[h1,h2,h3]
 simp only[sliceRange_one,pick_run,AQ]<;>rfl
def rSlL(K:PySem.W.Frag):V->Option Int->Option Int->Hp->VK->Prop:=λx lo hi H Q=>∃a xs,x=.ref a/\SqL K H a xs/\∀p,H p=none->Q (.ref p) (upd H p (.lst (jx_ xs lo hi)))
theorem ajf_:SlR X (rSlL X.K):=by
 intro pins s σ H x v vl vu lo hi sl Q I rx hs pl pu h
 obtain⟨a,xs,rfl,hx,q⟩:=h
 cases rx
 obtain⟨its,r,ht,hz⟩:=I.list hx
 have hlen:=r.length
 refine⟨"list",_,slot_list_getitem.lookup,ht.isList.typeIs,?_⟩
 refine wpAny_getItem_list_slice ht.isList hs pl pu .none (by simp) ?_ (by rw[AQ]<;>omega)
 rw[v2_,<-hlen]
 refine⟨.ref s.heap.objs.size,_,I.laid (t':=s.toks) (o:=.lst (jx_ xs lo hi)) (λb ob q=>AB _ q) (AH _) ?_,rfl,q _ (I.hok.fresh (AH _))⟩
 exact⟨Ag (yp_ xs lo hi) hz,_,0,(r.drop (HT.sIx xs.length 0 lo)).take (HT.sIx xs.length xs.length hi-HT.sIx xs.length 0 lo),AL _ rfl⟩
theorem qm_:CallR X (.builtin "len") (λxs H Q=>∃p ys,xs=[.ref p]/\(SqL X.K H p ys∨SqT X.K H p ys)/\Q (.int ys.length) H):=by
 intro pins s σ H xs us Q I r h
 obtain⟨p,ys,rfl,hq,q⟩:=h
 obtain⟨u,rfl,rx⟩:=jn_ r
 cases rx
 have hn:=xV_
 rcases hq with hq|hq
 ·obtain⟨its,r',pl,hz⟩:=I.list hq
  have hlen:=r'.length
  exact Calls.call_len_list pl.isList (by simp only[AQ]<;>omega) ⟨.int ys.length,H,I.tok _,⟨s.toks+1,by rw[AQ,hlen]⟩,q⟩
 ·obtain⟨its,r',pl,hz⟩:=I.tuple hq
  have hlen:=r'.length
  exact len_tuple pl (by simp only[AQ]<;>omega) ⟨.int ys.length,H,I.tok _,⟨s.toks+1,by rw[AQ,hlen]⟩,q⟩
theorem CallR.or{f:Value}{r r':List V->Hp->VK->Prop}(h:CallR X f r)(h':CallR X f r'):CallR X f (λxs H Q=>r xs H Q∨r' xs H Q):=by
 intro pins s σ H xs us Q I rs q
 rcases q with q|q
 ·exact h pins s σ H xs us Q I rs q
 ·exact h' pins s σ H xs us Q I rs q
theorem jY_:CallR X (.type "list") (λxs H Q=>∃p ys,xs=[.ref p]/\(SqL X.K H p ys∨SqT X.K H p ys)/\∀l,H l=none->Q (.ref l) (upd H l (.lst ys))):=by
 intro pins s σ H xs us Q I r h
 obtain⟨p,ys,rfl,hq,q⟩:=h
 obtain⟨u,rfl,rx⟩:=jn_ r
 cases rx
 have fin:∀(its:List Value),Vals ys its->ys.length<=sizeLine->∀(h':Heap)(c':Nat),(∀b o',s.heap.get? b=some o'->h'.get? b=some o') ->
   h'.get? s.heap.objs.size=some { cls:=.type "list",dict:=none,data:=.seq its.toArray c',slots:=#[] }->EP X pins σ Q (.ref s.heap.objs.size) { s with heap:=h' }:=λits r' hz h' c' kp e =>
  ⟨.ref s.heap.objs.size,_,I.laid (t':=s.toks) kp (AH _) (show ObjOk X.prog X.w _ h' _ (.lst ys) from⟨hz,its,c',r',e⟩),rfl,q _ (I.hok.fresh (AH _))⟩
 rcases hq with hq|hq
 ·obtain⟨its,r',pl,hz⟩:=I.list hq
  have hlen:=r'.length
  obtain⟨o,ho,hc,n,hd⟩:=pl.isList
  exact call_list_seq p (.inl rfl) ho hc hd (λh' c' kp e=>fin its r' hz h' c' kp e) (by simp only[AQ]<;>omega)
 ·obtain⟨its,r',pl,hz⟩:=I.tuple hq
  have hlen:=r'.length
  obtain⟨o,ho,hc,n,hd⟩:=pl
  exact call_list_seq p (.inr rfl) ho hc hd (λh' c' kp e=>fin its r' hz h' c' kp e) (by simp only[AQ]<;>omega)
theorem zG_:CallR X (.type "tuple") (λxs H Q=>∃p ys,xs=[.ref p]/\((SqL X.K H p ys/\∀l,H l=none->Q (.ref l) (upd H l (.tup ys)))∨(SqT X.K H p ys/\Q (.ref p) H))):=by
 intro pins s σ H xs us Q I r h
 obtain⟨p,ys,rfl,h⟩:=h
 obtain⟨u,rfl,rx⟩:=jn_ r
 cases rx
 rcases h with⟨hq,q⟩|⟨hq,q⟩
 ·obtain⟨its,r',pl,hz⟩:=I.list hq
  have hlen:=r'.length
  refine call_tuple_list pl.isList (λh' kp=>?_) (by simp only[AQ]<;>omega)
  have I1:Inv X pins σ H { s with heap:=h' }:=I.kept (t':=s.toks) kp
  have I2:Inv X pins σ (upd H h'.objs.size (.tup ys)) { s with heap:=h'.push { cls:=.type "tuple",data:=.seq its.toArray } } :=
   I1.laid (t':=s.toks) (λb o e=>AB _ e) (AH _) (show ObjOk X.prog X.w _ _ _ (.tup ys) from⟨hz,its,r',TupN.new _ _⟩)
  exact⟨.ref h'.objs.size,_,I2,rfl,q _ (I1.hok.fresh (AH _))⟩
 ·obtain⟨its,r',pl,hz⟩:=I.tuple hq
  exact call_tuple_same pl ⟨.ref p,H,I,rfl,q⟩
def tyV(K:PySem.W.Frag)(T:String)(x:V)(H:Hp):Prop:=match x with
 |.str _=>T = "str"
 |.int _=>T = "int"
 |.ref p=>(T = "list" /\ ∃xs,SqL K H p xs)∨(T = "tuple" /\ ∃o,K.lookup p=some o/\o.cls=.type "tuple" /\ o.dict=none) ∨
   (T = "dict" /\ ((∃kvs,H p=some (.dK kvs))∨∃kvs,H p=some (.dT kvs)))∨(T = "set" /\ ∃S n,H p=some (.set S n))
 |_=>False
theorem aep_{pins:List (Addr×Obj)}{σ:St}{H:Hp}{s:Shared}{T:String}{x:V}{v:Value}(I:Inv X pins σ H s)(r:RelV x v)(ty:tyV X.K T x H) :
  s.TypeIs v T/\∀a,v=.ref a->∃ob,s.heap.get? a=some ob/\ob.dict=none:=by
 cases x with
 |str z =>
  obtain⟨t,rfl⟩:=r
  cases(show T = "str" from ty)
  exact⟨typeIs_str s z t,λ_ e=>nomatch e⟩
 |int i =>
  obtain⟨t,rfl⟩:=r
  cases(show T = "int" from ty)
  exact⟨typeIs_int s i t,λ_ e=>nomatch e⟩
 |ref p =>
  cases r
  rcases ty with⟨rfl,xs,hq⟩|⟨rfl,o,hk,hc,hd⟩|⟨rfl,hk⟩|⟨rfl,S,n,hk⟩
  ·obtain⟨its,_,pl,_⟩:=I.list hq
   refine⟨pl.isList.typeIs,λa e=>?_⟩
   cases e
   obtain⟨o,n,e,c,hd,_⟩:=pl
   exact⟨o,e,hd⟩
  ·refine⟨⟨o,I.kIn p o hk,hc⟩,λa e=>?_⟩
   cases e
   exact⟨o,I.kIn _ o hk,hd⟩
  ·have z:∃o,s.heap.get? p=some o/\o.ExactDict:=by
    rcases hk with⟨kvs,hk⟩|⟨kvs,hk⟩
    ·obtain⟨_,_,_,_,o,_,_,e,ex,_⟩:=I.hok p _ hk
     exact⟨o,e,ex⟩
    ·obtain⟨_,_,_,_,o,_,_,e,ex,_⟩:=I.hok p _ hk
     exact⟨o,e,ex⟩
   obtain⟨o,e,ex⟩:=z
   refine⟨⟨o,e,ex.1⟩,λa e2=>?_⟩
   cases e2
   exact⟨o,e,ex.2.1⟩
  ·obtain⟨o,_,_,_,e,ex,_⟩:=I.hok p _ hk
   refine⟨⟨o,e,ex.1⟩,λa e2=>?_⟩
   cases e2
   exact⟨o,e,ex.2.1⟩
 |_=>exact False.elim ty
def tBM0(K:PySem.W.Frag)(T:String)(r:V->List V->Hp->VK->Prop)(to:TE):TE:=λσ H Q=>to σ H λx H1=>tyV K T x H1/\r x [] H1 Q
def tBM(K:PySem.W.Frag)(T:String)(r:V->List V->Hp->VK->Prop)(to:TE)(t:TA):TE:=λσ H Q=>to σ H λx H1=>tyV K T x H1/\t σ H1 λxs H2=>r x xs H2 Q
variable{o e:Expr}{es:List Expr}{to:TE}{t:TA}{name:Str}{apos cpos:Pos}{T id:String}{r:V->List V->Hp->VK->Prop}
theorem amr_(pa:PlainAttrs T)(slot:Slot T name id)(hty:typeOf (.builtin id)=pure (.type "method_descriptor"))(hm:MtR X id r)(ho:PE X o to)
  (hbase:attributeBase o name X.env (eval o X.env)=eval o X.env:=by rfl) (hline:(apos.endLine==cpos.line)=true:=by rfl):PE X (.Call (.Attribute o name apos) [] [] cpos) (tBM0 X.K T r to):=by
 intro pins s σ H Q I h
 refine wpAny_Call_method0_late hbase hline (thn (ho pins s σ H _ I h) λv s1 ⟨x,H1,I1,r1,ty,q1⟩=>?_)
 obtain⟨h1,h2⟩:=aep_ I1 r1 ty
 exact⟨T,id,pa,slot,hty,h1,h2,Cf rfl (PySem.evalArgs_none (hm pins s1 σ H1 x [] v [] Q I1 r1 .nil q1))⟩
theorem y0_(pa:PlainAttrs T)(slot:Slot T name id)(hty:typeOf (.builtin id)=pure (.type "method_descriptor"))(hm:MtR X id r)(ho:PE X o to)(ha:PA X (e::es) t)
  (hbase:attributeBase o name X.env (eval o X.env)=eval o X.env:=by rfl)
  (hfew:((backTo cpos (starEach (e::es) X.env)).all (λx=>!x.1)&&(backToKw cpos (keywordEach [] X.env)).all (λx=>x.1.isSome)
   && decide ((e::es).length+([]:List Keyword).length+(if ([]:List Keyword).isEmpty then 0 else 1)<30))=true:=by rfl)
  (hline:(apos.endLine==cpos.line)=true:=by rfl) (hs:starEach (e::es) X.env=(false,eval e X.env)::starEach es X.env:=by rfl) (hplain:(backTo cpos (starEach es X.env)).any (·.1)=false:=by rfl) :
  PE X (.Call (.Attribute o name apos) (e::es) [] cpos) (tBM X.K T r to t):=by
 intro pins s σ H Q I h
 refine wpAny_Call_method_late hbase hfew hline rfl (thn (ho pins s σ H _ I h) λv s1 ⟨x,H1,I1,r1,ty,q1⟩=>?_)
 obtain⟨h1,h2⟩:=aep_ I1 r1 ty
 refine⟨T,id,pa,slot,hty,h1,h2,?_⟩
 have hA:=ha cpos pins s1 σ H1 _ I1 q1
 rw[hs]at hA ⊢
 refine Cf (by show(false||(backTo cpos (starEach es X.env)).any (·.1))=false;rw[hplain]<;>rfl) (Cn ?_)
 exact thn hA λus s2 ⟨vs,H2,I2,r2,q2⟩=>hm pins s2 σ H2 x vs v us Q I2 r1 r2 q2
end
end L2
namespace L2
open PySem PySem.Spec PyProof.Rows
def MtM(X:Cx)(id:String)(r:V->List V->Hp->VK->Prop):Prop :=
 ∀(pins:List (Addr×Obj))(s:Shared)(σ:St)(H:Hp)(x:V)(xs:List V)(v:Value)(us:List Value)(Q:VK),Inv X pins σ H s->RelV x v->Vals xs us->r x xs H Q ->
  wpAny (model X.prog X.w) X.A (call (.builtin id) (v::us)) (EP X pins σ Q) X.xe s
theorem Vals.one:∀{x:V}{us:List Value},Vals [x] us->∃u,us=[u]/\RelV x u
 |_,_,.cons r .nil=>⟨_,rfl,r⟩
theorem Vals.two:∀{x y:V}{us:List Value},Vals [x,y] us->∃u v,us=[u,v]/\RelV x u/\RelV y v
 |_,_,_,.cons r (.cons q .nil)=>⟨_,_,rfl,r,q⟩
theorem Vals.zero:∀{us:List Value},Vals [] us->us=[]
 |_,.nil=>rfl
theorem Vals.dropLast{xs:List V}{us:List Value}(h:Vals xs us):Vals xs.dropLast us.dropLast:=by
 induction h with
 |nil=>exact .nil
 |cons r t ih =>
  cases t with
  |nil=>exact .nil
  |cons q t'=>exact .cons r ih
theorem Vals.eraseIdx:∀{xs:List V}{us:List Value}(i:Nat),Vals xs us->Vals (xs.eraseIdx i) (us.eraseIdx i)
 |_,_,_,.nil=>.nil
 |_,_,0,.cons _ t=>t
 |_,_,i+1,.cons r t=>.cons r (Vals.eraseIdx i t)
theorem Vals.reverse{xs:List V}{us:List Value}(h:Vals xs us):Vals xs.reverse us.reverse:=by
 induction h with
 |nil=>exact .nil
 |cons r t ih=>rw[Ci,Ci];exact Vals.append ih (.cons r .nil)
theorem Vals.rep{xs:List V}{us:List Value}(h:Vals xs us):∀k:Nat,Vals (List.replicate k xs).flatten (List.replicate k us).flatten
 |0=>.nil
 |k+1=>by
  rw[Ax,Ax,Bj,Bj]
  exact Vals.append h (Vals.rep h k)
theorem adh_{α:Type}(l:List α):l.eraseIdx (l.length-1)=l.dropLast:=by
 induction l with
 |nil=>rfl
 |cons a r ih =>
  cases r with
  |nil=>rfl
  |cons b r =>
   have e:(a::b::r).length-1=((b::r).length-1)+1:=by
    have h1:(a::b::r).length=r.length+2:=rfl
    have h2:(b::r).length=r.length+1:=rfl
    omega
   rw[e,List.eraseIdx_cons_succ,ih]
   all_goals rfl
theorem vG_(its:List Value):∀(k:Nat)(acc:List Value),
  List.foldl (λx1 x2=>x1++x2) acc.toArray (List.replicate k its.toArray)=(acc++(List.replicate k its).flatten).toArray
 |0,acc=>by simp
 |k+1,acc=>by
  have e:acc.toArray++its.toArray=(acc++its).toArray:=by simp
  have e2:(acc++its)++(List.replicate k its).flatten=acc++(List.replicate (k+1) its).flatten:=by
   rw[Ax,Bj,AX]
  rw[<-e2,<-vG_ its k (acc++its),<-e,Ax,Bm]
section
variable{X:Cx}{pins:List (Addr×Obj)}{σ:St}{H:Hp}{s:Shared}{l b:Addr}{xs ys zs:List V}
theorem Inv.lset{its its':List Value}{n:Nat}{f:Array Value->Array Value}{t':Nat}(I:Inv X pins σ H s)(hH:H l=some (.lst xs))
  (e:s.heap.get? l=some { cls:=.type "list",data:=.seq its.toArray n }) (hf:f its.toArray=its'.toArray) (hv:Vals ys its') (hz:ys.length<=sizeLine) :
  Inv X pins σ (upd H l (.lst ys)) { s with heap:=s.heap.update l (Obj.mapSeq f),toks:=t' }:=by
 have q:=PySem.IsL.update e f
 rw[hf]at q
 refine I.write (x:=l) (e:=l) (by rw[hH];exact trivial) (.inl rfl) (λb' u hb hu=>(Aw s.heap (Obj.mapSeq f) (BY hb)).trans hu) ⟨_,q⟩ ?_
 exact⟨hz,its',_,hv,q⟩
theorem Inv.lnew{its:List Value}{t':Nat}(I:Inv X pins σ H s)(hv:Vals ys its)(hz:ys.length<=sizeLine) :
  Inv X pins σ (upd H s.heap.objs.size (.lst ys)) { s with heap:=s.heap.push { cls:=.type "list",data:=.seq its.toArray },toks:=t' } :=
 I.laid (λ_ _ q=>AB _ q) (AH _) ⟨hz,its,0,hv,AL _ rfl⟩
theorem Inv.fresh(I:Inv X pins σ H s):H s.heap.objs.size=none:=I.hok.fresh (AH _)
theorem Inv.lstM(I:Inv X pins σ H s)(hH:H l=some (.lst xs)):xs.length<=sizeLine/\∃(its:List Value)(n:Nat),Vals xs its/\xs.length=its.length/\s.heap.get? l=some { cls:=.type "list",data:=.seq its.toArray n }:=by
 obtain⟨z,its,n,r,e⟩:=I.hok l _ hH
 exact⟨z,its,n,r,r.length,e⟩
theorem aau_{n:Nat}(h:n<=sizeLine):Builtin.List.listTooLong n=false:=by
 unfold Builtin.List.listTooLong
 exact decide_eq_false (by omega)
end
section
variable{X:Cx}
def acs_:V->List V->Hp->VK->Prop:=λx vs H Q=>∃l xs y,x=.ref l/\vs=[y]/\H l=some (.lst xs)/\xs.length<sizeLine/\Q .non (upd H l (.lst (xs++[y])))
theorem z9_:MtM X "list.append" acs_:=by
 intro pins s σ H x vs v us Q I rx rv h
 obtain⟨l,xs,y,rfl,rfl,hH,hz,q⟩:=h
 cases rx
 obtain⟨u,rfl,ru⟩:=rv.one
 obtain⟨z,its,n,r,hl,e⟩:=I.lstM hH
 refine call_meets F.slot_list_append ⟨_,e,rfl⟩ F.entry_list_append (F.args_list_append_2 _ _) (PySem.list_append l its.toArray n u (by rw[AQ];omega)) ⟨e,?_⟩
 refine⟨.non,_,I.lset (its':=its++[u]) hH e (by simp) (r.append (.cons ru .nil)) ?_,rfl,q⟩
 rw[AK,BZ]
 omega
def akh_:V->List V->Hp->VK->Prop:=λx vs H Q=>∃l b xs zs,x=.ref l/\vs=[.ref b]/\H l=some (.lst xs)/\H b=some (.lst zs)/\xs.length+zs.length<=sizeLine/\Q .non (upd H l (.lst (xs++zs)))
theorem aga_:MtM X "list.extend" akh_:=by
 intro pins s σ H x vs v us Q I rx rv h
 obtain⟨l,b,xs,zs,rfl,rfl,hH,hB,hz,q⟩:=h
 cases rx
 obtain⟨u,rfl,ru⟩:=rv.one
 cases ru
 obtain⟨z,its,n,r,hl,e⟩:=I.lstM hH
 obtain⟨z2,its2,n2,r2,hl2,e2⟩:=I.lstM hB
 have hsz:its.toArray.size+its2.toArray.size<=sizeLine:=by rw[AQ,AQ];omega
 have hlong:¬ (!its.toArray.isEmpty&&Builtin.List.listTooLong (its.toArray.size+its2.toArray.size))=true:=by
  rw[aau_ hsz,C6]
  exact AS
 refine call_meets F.slot_list_extend ⟨_,e,rfl⟩ F.entry_list_extend (F.args_list_extend_2 _ _)
  (AutoSeq1.list_extend_list_list_0 l its.toArray n b its2.toArray n2 hlong (by rw[AQ];omega) (by omega)) ⟨e,e2,?_⟩
 refine⟨.non,_,I.lset (its':=its++its2) hH e (by simp) (r.append r2) ?_,rfl,q⟩
 rw[AK]
 omega
def rPop:V->List V->Hp->VK->Prop:=λx vs H Q=>∃l xs y,x=.ref l/\vs=[]/\H l=some (.lst xs)/\xs[xs.length-1]?=some y/\Q y (upd H l (.lst xs.dropLast))
theorem asr_:MtM X "list.pop" rPop:=by
 intro pins s σ H x vs v us Q I rx rv h
 obtain⟨l,xs,y,rfl,rfl,hH,hy,q⟩:=h
 cases rx
 have hus:=rv.zero
 subst hus
 obtain⟨z,its,n,r,hl,e⟩:=I.lstM hH
 obtain⟨u,hu,ru⟩:=r.get hy
 have hy':its.toArray[its.toArray.size-1]?=some u:=by
  show its.toArray[its.length-1]?=some u
  rw[<-As,<-hl]
  exact hu
 refine call_meets F.slot_list_pop ⟨_,e,rfl⟩ F.entry_list_pop (F.args_list_pop_1 _) (MeetsSeq.list_pop_last l its.toArray n u hy' (by rw[AQ];omega)) ⟨e,?_⟩
 refine⟨y,_,I.lset (its':=its.dropLast) hH e ?_ r.dropLast ?_,ru,q⟩
 ·show its.toArray.eraseIdxIfInBounds (its.toArray.size-1)=its.dropLast.toArray
  rw[AQ,List.eraseIdxIfInBounds_toArray,adh_]
 ·rw[List.length_dropLast]
  omega
def ako_:V->List V->Hp->VK->Prop:=λx vs H Q=>∃l xs,x=.ref l/\vs=[]/\H l=some (.lst xs)/\Q .non (upd H l (.lst []))
theorem ahk_:MtM X "list.clear" ako_:=by
 intro pins s σ H x vs v us Q I rx rv h
 obtain⟨l,xs,rfl,rfl,hH,q⟩:=h
 cases rx
 have hus:=rv.zero
 subst hus
 obtain⟨z,its,n,r,hl,e⟩:=I.lstM hH
 refine call_meets F.slot_list_clear ⟨_,e,rfl⟩ F.entry_list_clear (F.args_list_clear_1 _) (AutoSeq1.list_clear_list_0 l its.toArray n (by rw[AQ];omega)) ⟨e,?_⟩
 exact⟨.non,_,I.lset (its':=[]) (ys:=[]) hH e rfl .nil (Ae _),rfl,q⟩
def rCat:R2:=λx y H Q=>∃l b xs zs,x=.ref l/\y=.ref b/\H l=some (.lst xs)/\H b=some (.lst zs)/\xs.length+zs.length<=sizeLine/\∀p,H p=none->Q (.ref p) (upd H p (.lst (xs++zs)))
theorem xU_:OpR X (binaryOp .Add) rCat:=by
 intro pins s σ H x y v u Q I rx ry h
 obtain⟨l,b,xs,zs,rfl,rfl,hH,hB,hz,q⟩:=h
 cases rx
 cases ry
 obtain⟨z,its,n,r,hl,e⟩:=I.lstM hH
 obtain⟨z2,its2,n2,r2,hl2,e2⟩:=I.lstM hB
 refine PySem.P.add_list e e2 ?_ (by rw[AQ,AQ];omega)
 have ea:its.toArray++its2.toArray=(its++its2).toArray:=by simp
 rw[ea]
 exact⟨.ref _,_,I.lnew (t':=s.toks) (r.append r2) (by rw[AK];omega),rfl,q _ I.fresh⟩
def rRep:R2:=λx y H Q=>∃l k xs,x=.ref l/\y=.int k/\H l=some (.lst xs)/\-(2^63)<=k/\k<2^63/\xs.length*k.toNat<=sizeLine /\
 ∀p,H p=none->Q (.ref p) (upd H p (.lst (List.replicate k.toNat xs).flatten))
theorem ac3_{α:Type}(xs:List α)(k:Nat):(List.replicate k xs).flatten.length=k*xs.length:=by
 induction k with
 |zero=>simp
 |succ k ih=>rw[Ax,Bj,AK,ih,C3,El]
theorem ami_:OpR X (binaryOp .Mult) rRep:=by
 intro pins s σ H x y v u Q I rx ry h
 obtain⟨l,k,xs,rfl,rfl,hH,h1,h2,hz,q⟩:=h
 cases rx
 obtain⟨t,rfl⟩:=ry
 obtain⟨z,its,n,r,hl,e⟩:=I.lstM hH
 have hlen:its.toArray.size*k.toNat<=sizeLine:=by rw[AQ,<-hl];exact hz
 have hcap:¬ its.toArray.size*k.toNat>(2^63-1) / 8:=by
  have:(sizeLine:Nat)<=(2^63-1) / 8:=by decide
  omega
 have hfit:¬ (!Builtin.List.listFitsIndex k)=true:=by
  rw[fitsIndex_both h1 h2]
  exact AS
 have hlong:¬ Builtin.List.listTooLong (its.toArray.size*k.toNat)=true:=by
  rw[aau_ hlen]
  exact AS
 have hnew:List.foldl (λx1 x2=>x1++x2) #[] (List.replicate (if its.toArray.isEmpty=true then 0 else k.toNat) its.toArray)=(List.replicate k.toNat its).flatten.toArray:=by
  have f0:∀m:Nat,List.foldl (λx1 x2=>x1++x2) #[] (List.replicate m its.toArray)=(List.replicate m its).flatten.toArray:=λm=>by
   have:=vG_ its m []
   rw[Cc]at this
   exact this
  rw[f0]
  cases its with
  |nil=>simp
  |cons a r'=>rw[if_neg (by simp)]
 refine wpAny_binaryOp_repeat_ref (T := "list") (U := "int") (by decide) ⟨_,e,rfl⟩ (λs'=>typeIs_int s' k t) noFill_list_mul F.fills_int_mul F.slot_int_rmul repeat_list F.slot_int_index.lookup
  (call_meets F.slot_int_rmul (typeIs_int s k t) F.entry_int_rmul (F.args_int_rmul_2 _ _) (int___rmul___int_list k t l its.toArray n)
   ⟨e,rfl,⟨_,e,rfl⟩,call_meets F.slot_list_mul ⟨_,e,rfl⟩ F.entry_list_mul (F.args_list_mul_2 _ _) (AutoListH.list___mul___list_int_3 l its.toArray n k t hfit hcap hlong) ⟨e,?_⟩⟩)
 rw[hnew]
 exact⟨.ref _,_,I.lnew (t':=s.toks) (r.rep k.toNat) (by rw[ac3_,DP];exact hz),rfl,q _ I.fresh⟩
end
end L2
namespace Att
open PySem PySem.W PySem.Calls PyProof.Rows
theorem y2_{P:Params}{h:Heap}:∀(ns:List Int)(vs:List Value),WellAll P h vs (ns.map WData.int)->IntsAre vs ns:=by
 intro ns
 induction ns with
 |nil =>
  intro vs w
  rw[C2]at w
  cases w
  exact .nil
 |cons n ns ih =>
  intro vs w
  rw[Aa]at w
  cases w with
  |cons a b =>
   cases a
   exact .cons _ _ (ih _ b)
theorem agc_{l:OpenLaw}{n:Nat}(hn:l.most=some n){P:Params}{h:Heap}{args:List WData}{vals:List Value}
  (hpre:l.row.toRowW.claim.pre args=true) (hwl:WellAll P h vals args) :
  ∃a vs ns,vals=[Value.ref a]/\args=[WData.list (ns.map WData.int)]/\h.get? a=some { cls:=.type "list",data:=.seq vs.toArray }/\IntsAre vs ns/\ns.length<=n:=by
 have hsh:WShape.hasAll [] args [.list .int]=true:=(pre_splitW hpre).1
 have hc:l.pre.holds [] { args:=args }=true:=(pre_splitW hpre).2
 obtain⟨d,r,rfl,h1,h2⟩:=hasAllW_cons hsh
 obtain rfl:=hasAllW_nil h2
 obtain⟨xs,rfl,h3⟩:=hasW_list h1
 obtain⟨ns,rfl⟩:=items_int h3
 have hlen:ns.length<=n:=by
  unfold OpenLaw.pre at hc
  have h4:(WTm.not (.lt (.lit (.int (n:Int))) (.len (.arg 0)))).holds [] { args:=[.list (ns.map .int)] }=true:=by
   have h4:=(holds_andW hc).1
   rw[hn]at h4
   exact h4
  have h5:=condW_of h4 (w_not (w_lt w_lit (w_len_list (w_arg rfl))))
  rw[AA]at h5
  refine Nat.le_of_not_lt λq=>?_
  have q':(n:Int)<((ns.length:Nat):Int):=by omega
  first
   |(rw[decide_eq_true q']at h5;exact absurd h5 (by decide))
   |(simp at h5;omega)
 cases hwl with
 |cons w1 w2 =>
  cases w2
  cases w1 with
  |list ho hall=>exact⟨_,_,ns,rfl,rfl,ho,y2_ ns _ hall,hlen⟩
theorem aeb_(l:OpenLaw)(args:List WData):l.row.toRowW.claim.post args (.bool true) args=true :=
 postW_of (r:=l.row.toRowW) (X:=(true==true))
  (show WShape.has [] (.bool true) .bool=true by first|rfl|decide|simp [WShape.has,WShape.arms,WShape.armsAll])
  (show(WTm.eq .res (.lit (.bool true))).value [] { args:=args,res:=some (.bool true),after:=args }=some (.bool (true==true)) from w_eq_bool (w_res rfl) w_lit) rfl
theorem attach_call{l:OpenLaw}{n:Nat}{q:Program}{loose:List Str}{XP:(Str->Option Value)->Heap->Prop}{YP:World->Heap->Prop}{d:DefRec}
  (hn:l.most=some n) (hdf:d.params.defaults=[])
  (call:∀(w:World)(s₀ s₁:Shared)(mg mb:Str->Option Value)(fa:Addr)(o:Obj)(pm cd doc:Value)(a:Addr)(vs:List Value)(ns:List Int),
   Ground q loose [] XP w s₀ mg mb s₁.heap->YP w s₁.heap ->
   s₁.heap.get? fa=some o->o.data=.func (docDef d.name d.params d.body d.scope pm cd doc)->s₁.heap.CodeRec cd d.name->mg d.name=some (.ref fa) ->
   s₁.heap.get? a=some { cls:=.type "list",data:=.seq vs.toArray }->IntsAre vs ns->ns.length<=n->s₁.gens=#[] ->
   codeAny (model l.prog w) callerA (.call (.ref fa) ⟨[.ref a],[]⟩) (λr s'=>r=.ok (.ret (.bool true))/\OldK s₁.heap s'.heap/\s'.os=s₁.os/\AllBare s'.gens) s₁) :
  WalkO q loose XP YP l.row.toRowW d [] (λf vs=>PySem.call f vs):=by
 intro w s₀ s₁ mg mb G Y fa o pm cd doc dV kV ho hd hcd hD hmg hg args vals as hpre hlay hrd hwl hlo
 obtain rfl:dV=.none:=Dflts.none hD hdf
 obtain rfl:kV=.none:=Dflts.noKw hD
 obtain⟨a,vs,ns,rfl,rfl,hobj,hints,hlen⟩:=agc_ hn hpre hwl
 refine enter_call (codeAny_mono (call w s₀ s₁ mg mb fa o pm cd doc a vs ns G Y ho (fd_plain hd) hcd hmg hobj hints hlen hg) λr s' hq=>?_)
 obtain⟨rfl,h2,h3,h4⟩:=hq
 exact⟨.inl ⟨.bool true,.bool true,[],rfl,λ_=>rfl,.bool true,aeb_ l _,λ_=>⟨List.Pairwise.nil,λ_ hm=>(nomatch hm)⟩⟩,h2,h3,h4⟩
section
variable{prog:Program}{w:World}{A:Around}{E:Value->Shared->Prop}{s:Shared}{K:Frag}
def asq_(h:Heap)(L d:Addr):List (Addr×Obj):=(List.range h.objs.size).filterMap λa=>if a=L∨a=d then none else (h.get? a).map λo=>(a,o)
end
end Att
namespace L2
open PySem PySem.Spec PyProof.Rows
theorem vL_:∀{vs:List Value}{ns:List Int},IntsAre vs ns->Vals (ns.map V.int) vs
 |_,_,.nil=>.nil
 |_,_,.cons n t h=>.cons ⟨t,rfl⟩ (vL_ h)
def Only(H:Hp):Prop:=∀b,H b=none∨∃o xs,H b=some (.frz o (.lst xs))
theorem ahv_{P:Program}{w:World}{K:PySem.W.Frag}{mg mb:Str->Option Value}{CX:CXT}{k:Nat}{fa a:Addr}{fd:FuncData}{x:Str}{sp:Sp}{s₁:Shared}{vs:List Value}{ns:List Int}
  (KX:K.In s₁.heap) (hns:s₁.heap.Ns mainGlobals mg) (hb:s₁.heap.Ns builtinsNs mb) (hbb:∀x:Str,x ≠ "__name__" -> mb x=bootBuiltins x) (hlim:s₁.heap.NoLimit) (hg:s₁.gens=#[])
  (ha:s₁.heap.get? a=some { cls:=.type "list",data:=.seq vs.toArray }) (hi:IntsAre vs ns) (hl:ns.length<=sizeLine) (hr:Room k callerA)
  (F:∀base:Heap,K.In base->base.Ns mainGlobals mg->FnOk P w K mg base CX k fa fd [x] sp) (hbind:∀(s:Shared)(u:Value),BindsTo s fd ⟨[u],[]⟩ [(x,u)])
  (hsp:∀H:Hp,Only H->SqL K H a (ns.map V.int)->sp [.ref a] H (λv _=>v=.bl true) λ_ _ _=>False)
  (hCX:∀H e s',CX [] H s₁ (λ_ _ _=>False) e s'->False) :
  codeAny (model P w) callerA (.call (.ref fa) ⟨[.ref a],[]⟩) (λr s'=>r=.ok (.ret (.bool true))/\OldK s₁.heap s'.heap/\s'.os=s₁.os/\AllBare s'.gens) s₁:=by
 have rv:=vL_ hi
 have lenV:=hi.length
 have core:∀H:Hp,Only H->SqL K H a (ns.map V.int)->HOk P w H s₁.heap->(∀b,H b≠none->b=a)->(H a≠none->K.lookup a=none) ->
   codeAny (model P w) callerA (.call (.ref fa) ⟨[.ref a],[]⟩) (λr s'=>r=.ok (.ret (.bool true))/\OldK s₁.heap s'.heap/\s'.os=s₁.os/\AllBare s'.gens) s₁:=by
  intro H hO hS hok hA hK
  have base_of:∀{b:Addr}{o:Obj},s₁.heap.get? b=some o->H b=none->(xJ_ s₁.heap H).get? b=some o:=λe n=>ahr_ e n
  have noA:∀{b:Addr}{o:Obj}{es:Array DictEntry}{ep:Nat},s₁.heap.get? b=some o->o.data=.dict es ep->H b=none:=λ{b o es ep} e d=>by
   cases q:H b with
   |none=>rfl
   |some u =>
    have e':b=a:=hA b (by rw[q];simp)
    subst e'
    rw[ha]at e;cases e
    have d':Data.seq vs.toArray _=Data.dict es ep:=d
    cases d'
  have nsK:∀{b:Addr}{m:Str->Option Value},s₁.heap.Ns b m->(xJ_ s₁.heap H).Ns b m:=λ{b m} ⟨o,es,ep,e,d,r⟩=>⟨o,es,ep,base_of e (noA e d),d,r⟩
  have hKb:K.In (xJ_ s₁.heap H):=λb o e=>base_of (KX b o e) (by
   cases q:H b with
   |none=>rfl
   |some u =>
    have e':b=a:=hA b (by rw[q];simp)
    subst e'
    rw[hK (by rw[q];simp)]at e;cases e)
  have hM:Mod K mg (xJ_ s₁.heap H):=⟨hKb,nsK hns,⟨mb,nsK hb,hbb⟩,let ⟨mc,h1,h2⟩:=hlim;⟨mc,nsK h1,h2⟩⟩
  have e0:Env0 P w K mg (xJ_ s₁.heap H) callerA [] s₁ H:=⟨rfl,hM,λb o e=>ajt_ e,Nat.le_of_eq (afa_ _ _),trivial,λb hb=>absurd (show b∈([]:List Addr) from hb) (by simp),hok,.of_eq hg⟩
  refine codeAny_mono ((F _ hKb (nsK hns)).run callerA [] s₁ H ⟨[.ref a],[]⟩ [.ref a] [.ref a] _ _ hr e0 (hbind s₁ (.ref a)) (.cons rfl .nil) (hsp H hO hS)) λr s' h=>?_
  cases r with
  |error e=>exact(hCX H e s' h).elim
  |ok fl =>
   cases fl with
   |next=>exact False.elim h
   |brk=>exact False.elim h
   |cont=>exact False.elim h
   |ret u =>
    obtain⟨v,H',os,bare,un,hok',r',q⟩:=h
    have q':v=.bl true:=q
    subst q'
    obtain rfl:u=Value.bool true:=r'
    refine⟨rfl,OldK.of_keep λb o e=>?_,os,bare⟩
    cases q:H b with
    |none=>exact un.keep b o e q (by intro z;exact absurd (show b∈([]:List Addr) from z) (by simp)) (by simp)
    |some u =>
     rcases hO b with z|⟨ob,xs,z⟩
     ·rw[q]at z;cases z
     ·have z2:=un.frzs b ob _ z
      obtain⟨e1,_⟩:=hok b _ z
      obtain⟨e2,_⟩:=hok' b _ z2
      rw[e]at e1;cases e1
      exact e2
 cases hk:K.lookup a with
 |some o =>
  have e:=KX a o hk
  rw[ha]at e
  cases e
  refine core (λ_=>none) (λ_=>.inl rfl) (.inr ⟨_,vs.toArray,_,hk,rfl,rfl,rfl,by rw[AQ,lenV];exact hl,by simpa using rv⟩) (λb u z=>by have z':(none:Option HO)=some u:=z;cases z') (λb z=>absurd rfl z) λz=>absurd rfl z
 |none =>
  refine core (λb=>if b=a then some (.frz { cls:=.type "list",data:=.seq vs.toArray } (.lst (ns.map V.int))) else none) (λb=>?_) (.inl (.inr ⟨{ cls:=.type "list",data:=.seq vs.toArray },if_pos rfl⟩)) (λb u z=>?_) (λb z=>?_) λ_=>hk
  ·by_cases hb:b=a
   ·exact .inr ⟨_,_,if_pos hb⟩
   ·exact .inl (if_neg hb)
  ·by_cases hb:b=a
   ·have z':=(if_pos hb).symm.trans z
    cases z'
    subst hb
    exact⟨ha,by rw[AA];exact hl,vs,_,rv,ha⟩
   ·have z':=(if_neg hb).symm.trans z
    cases z'
  ·by_cases hb:b=a
   ·exact hb
   ·exact absurd (if_neg hb) z
end L2
namespace L2
open PySem PySem.Spec PyProof.Rows
theorem walk_of{l:PySem.W.OpenLaw}{n k:Nat}{q:Program}{loose:List Str}{XP:(Str->Option Value)->Heap->Prop}{YP:World->Heap->Prop}{d:DefRec}{K:Params->PySem.W.Frag}{CX:World->CXT}{sp:World->Sp}{x:Str}
  (hn:l.most=some n) (hn2:n<=sizeLine) (hdf:d.params.defaults=[]) (hr:Room k callerA)
  (hY:∀(w:World)(h:Heap),YP w h->(K w.params).In h)
  (F:∀(w:World)(mg:Str->Option Value)(fa:Addr)(h:Heap),(K w.params).In h->h.Ns mainGlobals mg->mg d.name=some (.ref fa) ->
   ∃fd:FuncData,(∀(s:Shared)(u:Value),BindsTo s fd ⟨[u],[]⟩ [(x,u)]) /\
    ∀base:Heap,(K w.params).In base->base.Ns mainGlobals mg->FnOk l.prog w (K w.params) mg base (CX w) k fa fd [x] (sp w))
  (hsp:∀(w:World)(H:Hp)(a:Addr)(ns:List Int),ns.length<=n->Only H->SqL (K w.params) H a (ns.map V.int)->sp w [.ref a] H (λv _=>v=.bl true) λ_ _ _=>False)
  (hCX:∀(w:World)(H:Hp)(s:Shared)(e:Value)(s':Shared),CX w [] H s (λ_ _ _=>False) e s'->False) :
  PySem.W.WalkO q loose XP YP l.row.toRowW d [] (λf vs=>PySem.call f vs):=by
 refine Att.attach_call hn hdf λw s₀ s₁ mg mb fa o pm cd doc a vs ns G Y ho hd hcd hmg hobj hints hlen hg=>?_
 have KX:=hY w _ Y
 obtain⟨fd,hb,hF⟩:=F w mg fa _ KX G.T.g hmg
 exact ahv_ KX G.T.g G.T.b G.T.builtins G.T.nolimit hg hobj hints (Ag hlen hn2) hr hF hb (λH hO hS=>hsp w H a ns hlen hO hS) λH e s'=>hCX w H s₁ e s'
end L2
namespace L2
open PySem PySem.Spec PyProof.Rows
def xq_(s:Stmt):Arguments:=match s with
 |.FunctionDef _ a _ _ _ _ _ _ _ _=>a
 |_=>{ posonlyargs:=[],args:=[],vararg:=none,kwonlyargs:=[],kw_defaults:=[],kwarg:=none,defaults:=[] }
def jv_(s:Stmt):List Stmt:=match s with
 |.FunctionDef _ _ b _ _ _ _ _ _ _=>b
 |_=>[]
def qi_(s:Stmt):Scope:=match s with
 |.FunctionDef _ _ _ _ _ _ sc _ _ _=>sc
 |_=>{ kind:=.function,names:=[],isGenerator:=false,isCoroutine:=false }
abbrev CX0:CXT:=λ_ _ _ _ _ _=>False
abbrev E0:XK:=λ_ _ _=>False
theorem ai7_{X:Cx}:y5_ CX0 X E0:=λ_ _ _ _ _ _ _ h=>h.elim
structure Fun(K:PySem.W.Frag)(x qual:Str)(st:Stmt)(f:Addr)(fd:FuncData):Prop where
 ex:∃(oc:Value)(od:Option Addr)(kV doc pm:Value)(an:Option Addr)(cdv ct:Value)(osl:Array (Option Value)),
  fd=PySem.W.fnOf x qual (xq_ st) (jv_ st) (qi_ st) .none kV doc pm an cdv ct/\K.lookup f=some ⟨oc,od,.func fd,osl⟩/\PySem.W.codeIn K cdv qual=true
 kp:PySem.W.keepIn K (.ref f)=true
section
variable{P:Program}{w:World}{K:PySem.W.Frag}{mg:Str->Option Value}{base:Heap}
theorem Fun.ok{x qual:Str}{st:Stmt}{f:Addr}{fd:FuncData}{N ps:List Str}{k:Nat}{sp:Sp}(F:Fun K x qual st f fd)(S:FnScope N ps (qi_ st))(len:∀vs H Q E,sp vs H Q E->vs.length=ps.length)
  (hbody:∀(cdv:Value)(A:Around)(outer:List Env)(s:Shared)(H:Hp)(vs:List V)(Q:VK)(E:XK),Room k (A.deeper (envOfC qual (qi_ st) s.heap.objs.size f cdv))->sp vs H Q E ->
   ∃t,PSs (zv_ CX0 P w K mg base N qual (qi_ st) f cdv A outer s H E).nox (jv_ st) t/\t { nx:=λ_ H'=>Q .non H',rt:=Q } (jJ_ N vs) H):FnOk P w K mg base CX0 (k+1) f fd ps sp:=by
 obtain⟨oc,od,kV,doc,pm,an,cdv,ct,osl,rfl,lk,hcd⟩:=F.ex
 refine ait_ lk hcd S len λA outer s H vs Q E hr hsp=>?_
 obtain⟨t,h,q⟩:=hbody cdv A outer s H vs Q E hr hsp
 exact⟨t,h.nox,q⟩
theorem Fun.binds{x qual:Str}{st:Stmt}{f:Addr}{fd:FuncData}{ps:List Str}(F:Fun K x qual st f fd)
  (h:∀(kV doc pm:Value)(an:Option Addr)(cdv ct:Value)(us:List Value),us.length=ps.length->bindArgs (PySem.W.fnOf x qual (xq_ st) (jv_ st) (qi_ st) .none kV doc pm an cdv ct) ⟨us,[]⟩=pure (ps.zip us)):Binds K fd ps []:=by
 obtain⟨oc,od,kV,doc,pm,an,cdv,ct,osl,rfl,lk,hcd⟩:=F.ex
 exact .all (h kV doc pm an cdv ct)
theorem anu_{x qual:Str}{st:Stmt}{f:Addr}{oc:Value}{od an:Option Addr}{osl:Array (Option Value)}{kV doc pm cdv ct:Value}(l:K.lookup f=some ⟨oc,od,.func (PySem.W.fnOf x qual (xq_ st) (jv_ st) (qi_ st) .none kV doc pm an cdv ct),osl⟩)
  (c:PySem.W.codeIn K cdv qual=true) (k:PySem.W.keepIn K (.ref f)=true):Fun K x qual st f (PySem.W.fnOf x qual (xq_ st) (jv_ st) (qi_ st) .none kV doc pm an cdv ct):=⟨⟨oc,od,kV,doc,pm,an,cdv,ct,osl,rfl,l,c⟩,k⟩
end
theorem aaa_{A:Around}{k:Nat}(hr:Room k A):A.units+1<cLine:=BH (Bl (by decide:1<=64) _) hr.units
section
variable{X:Cx}
theorem pv(i:Nat){x:Str}{pos:Pos}(hN:X.N[i]?=some x:=by rfl)(hv:Vis X.env.scope x:=by first|exact Or.inl rfl|exact Or.inr (Or.inl rfl)|exact Or.inr (Or.inr rfl))(hd:(x==("__debug__" : Str))=false:=by decide)
  (hcd:(x==("__classdict__" : Str))=false:=by decide):PE X (.Name x pos) (tVar i):=afz_ hN hv hd hcd
end
theorem q6_{A B:Prop}(h:B):if false=true then A else B:=by
 rw[if_neg AS]
 exact h
theorem zY_{A B:Prop}(h:A):if true=true then A else B:=by
 rw[if_pos rfl]
 exact h
theorem ite2{c A B:Prop}[Decidable c](h1:c->A)(h2:¬ c->B):if c then A else B:=by
 by_cases h:c
 ·rw[if_pos h]
  exact h1 h
 ·rw[if_neg h]
  exact h2 h
def Same(H H':Hp):Prop:=∀b o,H b=some o->H' b=some o
theorem Same.refl(H:Hp):Same H H:=λ_ _ h=>h
theorem Same.trans{H H1 H2:Hp}(a:Same H H1)(b:Same H1 H2):Same H H2:=λc o h=>b c o (a c o h)
theorem Same.free{H H':Hp}(e:Same H H'){l:Addr}(h:H' l=Option.none):H l=Option.none:=by
 cases q:H l with
 |none=>rfl
 |some o =>
  rw[e l o q]at h
  cases h
theorem Same.seq{K:PySem.W.Frag}{H H':Hp}{a:Addr}{xs:List V}(e:Same H H')(h:SqL K H a xs):SqL K H' a xs:=by
 rcases h with(h|⟨o,h⟩)|h
 ·exact .inl (.inl (e _ _ h))
 ·exact .inl (.inr ⟨o,e _ _ h⟩)
 ·exact .inr h
end L2
namespace L2
open PySem PySem.Spec PyProof.Rows
section
variable{κ:Type}[DecidableEq κ]
def jh_(kvs:List (κ×V))(k:κ):Option V:=(kvs.find? λkv=>decide (kv.1=k)).map (·.2)
def z0_(kvs:List (κ×V))(k:κ)(v:V):List (κ×V) :=
 if (kvs.any λkv=>decide (kv.1=k))=true then kvs.map (λkv=>if kv.1=k then (kv.1,v) else kv) else kvs++[(k,v)]
def aiq_(kvs:List (κ×V))(k:κ):List (κ×V):=kvs.filter λkv=>decide (kv.1≠k)
theorem xK_{p:κ×V}{r:List (κ×V)}{k:κ}(e:p.1=k):jh_ (p::r) k=some p.2:=by simp [jh_,BR,e]
theorem xF_{p:κ×V}{r:List (κ×V)}{k:κ}(e:¬ p.1=k):jh_ (p::r) k=jh_ r k:=by simp [jh_,BR,e]
theorem abm_(k:κ):∀kvs:List (κ×V),(kvs.any λkv=>decide (kv.1=k))=(jh_ kvs k).isSome
 |[]=>rfl
 |p::r=>by
  rw[CL]
  by_cases e:p.1=k
  ·simp only[xK_ e,decide_eq_true e,Bool.true_or,Option.isSome_some]
  ·rw[xF_ e,decide_eq_false e,Ct];exact abm_ k r
theorem yq_(kvs:List (κ×V))(k:κ)(v:V):(z0_ kvs k v).length<=kvs.length+1:=by
 unfold z0_
 split
 ·rw[AA];omega
 ·rw[AK,AY,Bu];omega
theorem RelO.isSome_eq{o:Option V}{u:Option Value}(r:RelO o u):o.isSome=u.isSome:=by
 cases o with
 |none=>cases u with
  |none=>rfl
  |some _=>exact(show False from r).elim
 |some _=>cases u with
  |none=>exact(show False from r).elim
  |some _=>rfl
theorem RelO.getD{o:Option V}{u:Option Value}{d:V}{d':Value}(r:RelO o u)(rd:RelV d d'):RelV (o.getD d) (u.getD d'):=by
 cases o with
 |none=>cases u with
  |none=>exact rd
  |some _=>exact(show False from r).elim
 |some _=>cases u with
  |none=>exact(show False from r).elim
  |some _=>exact r
theorem KV.val{kvs:List (κ×V)}{vs:List (κ×Value)}(r:KV kvs vs)(k:κ):RelO (jh_ kvs k) (valueAt vs k):=by
 unfold KV at r
 induction r with
 |nil=>exact True.intro
 |@cons p q ps qs h t ih =>
  obtain⟨h1,h2⟩:=h
  by_cases e:p.1=k
  ·have e':q.1=k:=h1.symm.trans e
   have b:valueAt (q::qs) k=some q.2:=by simp [valueAt,BR,e']
   rw[xK_ e,b];exact h2
  ·have e':¬ q.1=k:=λz=>e (h1.trans z)
   have b:valueAt (q::qs) k=valueAt qs k:=by simp [valueAt,BR,e']
   rw[xF_ e,b];exact ih
theorem KV.any{kvs:List (κ×V)}{vs:List (κ×Value)}(r:KV kvs vs)(k:κ):(kvs.any λkv=>decide (kv.1=k))=vs.any λkv=>decide (kv.1=k):=by
 unfold KV at r
 induction r with
 |nil=>rfl
 |cons h t ih=>rw[CL,CL,ih,h.1]
theorem KV.repl{kvs:List (κ×V)}{vs:List (κ×Value)}(r:KV kvs vs)(k:κ){y:V}{u:Value}(ry:RelV y u) :
  KV (kvs.map λkv=>if kv.1=k then (kv.1,y) else kv) (vs.map λkv=>if kv.1=k then (kv.1,u) else kv):=by
 unfold KV at r ⊢
 induction r with
 |nil=>exact .nil
 |@cons p q ps qs h t ih =>
  rw[Aa,Aa]
  refine .cons ?_ ih
  obtain⟨h1,h2⟩:=h
  by_cases e:p.1=k
  ·rw[if_pos e,if_pos (h1.symm.trans e)];exact⟨h1,ry⟩
  ·rw[if_neg e,if_neg (λz=>e (h1.trans z))];exact⟨h1,h2⟩
theorem KV.put{kvs:List (κ×V)}{vs:List (κ×Value)}(r:KV kvs vs)(k:κ){y:V}{u:Value}(ry:RelV y u):KV (z0_ kvs k y) (stored vs k u):=by
 unfold z0_ stored
 rw[r.any k]
 by_cases e:(vs.any λkv=>decide (kv.1=k))=true
 ·rw[if_pos e,if_pos e];exact r.repl k ry
 ·rw[if_neg e,if_neg e];exact EL r ⟨rfl,ry⟩
theorem KV.drop{kvs:List (κ×V)}{vs:List (κ×Value)}(r:KV kvs vs)(k:κ):KV (aiq_ kvs k) (without vs k):=by
 unfold KV at r ⊢
 unfold aiq_ without
 induction r with
 |nil=>exact .nil
 |@cons p q ps qs h t ih =>
  obtain⟨h1,h2⟩:=h
  rw[Ar,Ar]
  by_cases e:p.1=k
  ·have a:¬ decide (p.1≠k)=true:=by simp [e]
   have b:¬ decide (q.1≠k)=true:=by simp [h1.symm.trans e]
   rw[if_neg a,if_neg b];exact ih
  ·have e':¬ q.1=k:=λz=>e (h1.trans z)
   have a:decide (p.1≠k)=true:=by simp [e]
   have b:decide (q.1≠k)=true:=by simp [e']
   rw[if_pos a,if_pos b];exact .cons ⟨h1,h2⟩ ih
theorem KV.keys{kvs:List (κ×V)}{vs:List (κ×Value)}(r:KV kvs vs):kvs.map (·.1)=vs.map (·.1):=by
 unfold KV at r
 induction r with
 |nil=>rfl
 |cons h t ih=>rw[Aa,Aa,ih,h.1]
theorem KV.length{kvs:List (κ×V)}{vs:List (κ×Value)}(r:KV kvs vs):kvs.length=vs.length:=AT r
end
theorem aac_{P:Program}{w:World}{k:Key}{u:Value}(r:RelV (kV k) u):(qV_ P w).is k u=true:=by
 cases k with
 |inl i=>obtain⟨t,e⟩:=(show ∃t,u=Value.int i t from r);subst e;exact ab7_ P w i t
 |inr x=>obtain⟨t,e⟩:=(show ∃t,u=Value.str x t from r);subst e;exact ab5_ P w x t
theorem vU_{P:Program}{w:World}:∀{ks:List Key}{us:List Value},Vals (ks.map kV) us->ItemsAre (qV_ P w) ks us
 |[],_,r=>by rw[C2]at r;cases r;exact .nil
 |k::ks,_,r=>by
  rw[Aa]at r
  cases r with
  |cons h t=>exact .cons (aac_ h) (vU_ t)
abbrev KT(H:Hp):List (List Key×V)->List (List Key×Addr×Value)->Prop:=Paired λp q=>p.1=q.1/\H q.2.1=some (.tup (p.1.map kV))/\RelV p.2 q.2.2
theorem KT.val{H:Hp}{kvs:List (List Key×V)}{xs:List (List Key×Addr×Value)}(r:KT H kvs xs)(k:List Key):RelO (jh_ kvs k) ((atKey xs k).map (·.2)):=by
 induction r with
 |nil=>exact True.intro
 |@cons p q ps qs h t ih =>
  obtain⟨h1,_,h2⟩:=h
  by_cases e:p.1=k
  ·have e':q.1=k:=h1.symm.trans e
   have b:atKey (q::qs) k=some q.2:=by simp [atKey,BR,e']
   rw[xK_ e,b];exact h2
  ·have e':¬ q.1=k:=λz=>e (h1.trans z)
   have b:atKey (q::qs) k=atKey qs k:=by simp [atKey,BR,e']
   rw[xF_ e,b];exact ih
theorem KT.repl{H:Hp}{kvs:List (List Key×V)}{xs:List (List Key×Addr×Value)}(r:KT H kvs xs)(k:List Key){y:V}{u:Value}(ry:RelV y u) :
  KT H (kvs.map λkv=>if kv.1=k then (kv.1,y) else kv) (xs.map (putAt k u)):=by
 induction r with
 |nil=>exact .nil
 |@cons p q ps qs h t ih =>
  rw[Aa,Aa]
  refine .cons ?_ ih
  obtain⟨h1,h2,h3⟩:=h
  unfold putAt
  by_cases e:p.1=k
  ·rw[if_pos e,if_pos (h1.symm.trans e)];exact⟨h1,h2,ry⟩
  ·rw[if_neg e,if_neg (λz=>e (h1.trans z))];exact⟨h1,h2,h3⟩
theorem KT.put{H:Hp}{kvs:List (List Key×V)}{xs:List (List Key×Addr×Value)}(r:KT H kvs xs)(k:List Key){b:Addr}{y:V}{u:Value}(hb:H b=some (.tup (k.map kV)))(ry:RelV y u) :
  KT H (z0_ kvs k y) (storedH xs k b u):=by
 have e:(kvs.any λkv=>decide (kv.1=k))=(atKey xs k).isSome:=by
  rw[abm_,(r.val k).isSome_eq,Option.isSome_map]
 unfold z0_ storedH
 rw[e]
 by_cases q:(atKey xs k).isSome=true
 ·rw[if_pos q,if_pos q];exact r.repl k ry
 ·rw[if_neg q,if_neg q];exact EL r ⟨rfl,hb,ry⟩
theorem KT.keeps{H H':Hp}{kvs:List (List Key×V)}{xs:List (List Key×Addr×Value)}(r:KT H kvs xs)(ht:∀b ys,H b=some (.tup ys)->H' b=some (.tup ys)):KT H' kvs xs :=
 Paired.mapP r λ_ _ z=>⟨z.1,ht _ _ z.2.1,z.2.2⟩
section
variable{P:Program}{w:World}{H:Hp}{h:Heap}{a:Addr}
theorem adc_{u:HO}(ok:HOk P w H h)(e:Rd H a u):ObjOk P w H h a u:=e.ok ok
theorem yP_{kvs:List (Key×V)}(ok:HOk P w H h)(e:Rd H a (.dK kvs)):kvs.length<=sizeLine/\(a==sysModules)=false/\∃vs,KV kvs vs/\h.DictOf (qV_ P w) a vs :=
 show ObjOk P w H h a (.dK kvs) from adc_ ok e
theorem ao1_{kvs:List (Key×V)}(ok:HOk P w H h)(e:H a=some (.dK kvs)):kvs.length<=sizeLine/\(a==sysModules)=false/\∃vs,KV kvs vs/\h.DictOf (qV_ P w) a vs:=yP_ ok (.inl e)
theorem yZ_{ks:List Key}(ok:HOk P w H h)(e:H a=some (.tup (ks.map kV))):(tupleKind (qV_ P w)).is h ks a:=by
 obtain⟨_,its,r,o,h1,h2,n,h3⟩:=(show ObjOk P w H h a (.tup (ks.map kV)) from ok a _ e)
 exact⟨o,its.toArray,n,h1,h2,h3.1,by simpa using vU_ r⟩
theorem yT_{kvs:List (List Key×V)}(ok:HOk P w H h)(e:Rd H a (.dT kvs)):kvs.length<=sizeLine/\(a==sysModules)=false /\
  ∃xs,KT H kvs xs/\h.DictOfH (tupleKind (qV_ P w)) a xs:=by
 obtain⟨z,y,xs,r,o,es,ep,h1,h2,h3,h4,h5⟩:=(show ObjOk P w H h a (.dT kvs) from adc_ ok e)
 refine⟨z,y,xs,r,o,es,ep,h1,h2,h3,h4,λx hx=>?_,h5⟩
 have all:∀{l:List (List Key×V)}{m:List (List Key×Addr×Value)},KT H l m->∀x∈m,(tupleKind (qV_ P w)).is h x.1 x.2.1:=by
  intro l m q
  induction q with
  |nil=>intro x hx;exact nomatch hx
  |@cons p q ps qs hq t ih =>
   intro x hx
   rcases AN.mp hx with e|hx
   ·subst e
    exact yZ_ ok (by rw[<-hq.1];exact hq.2.1)
   ·exact ih x hx
 exact all r x hx
theorem ap7_{kvs:List (List Key×V)}(ok:HOk P w H h)(e:H a=some (.dT kvs)):kvs.length<=sizeLine/\(a==sysModules)=false /\
  ∃xs,KT H kvs xs/\h.DictOfH (tupleKind (qV_ P w)) a xs:=yT_ ok (.inl e)
end
def DGet(H:Hp)(a:Addr)(y:V)(r:Option V):Prop :=
 (∃kvs k,Rd H a (.dK kvs)/\y=kV k/\r=jh_ kvs k)∨∃kvs k b,Rd H a (.dT kvs)/\y=.ref b/\H b=some (.tup (k.map kV))/\r=jh_ kvs k
def DPut(H:Hp)(a:Addr)(y v:V)(H':Hp):Prop :=
 (∃kvs k,H a=some (.dK kvs)/\y=kV k/\kvs.length<sizeLine/\H'=upd H a (.dK (z0_ kvs k v))) ∨
 ∃kvs k b,H a=some (.dT kvs)/\y=.ref b/\H b=some (.tup (k.map kV))/\kvs.length<sizeLine/\H'=upd H a (.dT (z0_ kvs k v))
theorem DGet.k{H:Hp}{a:Addr}{kvs:List (Key×V)}{k:Key}(e:H a=some (.dK kvs)):DGet H a (kV k) (jh_ kvs k):=.inl ⟨kvs,k,.inl e,rfl,rfl⟩
theorem DGet.t{H:Hp}{a b:Addr}{kvs:List (List Key×V)}{k:List Key}(e:H a=some (.dT kvs))(eb:H b=some (.tup (k.map kV))):DGet H a (.ref b) (jh_ kvs k):=.inr ⟨kvs,k,b,.inl e,rfl,eb,rfl⟩
theorem DPut.k{H:Hp}{a:Addr}{kvs:List (Key×V)}{k:Key}{v:V}(e:H a=some (.dK kvs))(hl:kvs.length<sizeLine):DPut H a (kV k) v (upd H a (.dK (z0_ kvs k v))):=.inl ⟨kvs,k,e,rfl,hl,rfl⟩
theorem DPut.t{H:Hp}{a b:Addr}{kvs:List (List Key×V)}{k:List Key}{v:V}(e:H a=some (.dT kvs))(eb:H b=some (.tup (k.map kV)))(hl:kvs.length<sizeLine) :
  DPut H a (.ref b) v (upd H a (.dT (z0_ kvs k v))):=.inr ⟨kvs,k,b,e,rfl,eb,hl,rfl⟩
section
variable{X:Cx}{pins:List (Addr×Obj)}{σ:St}{H:Hp}{s:Shared}{a:Addr}{y v:V}{u r:Value}{o:Option V}{A:Around}{E:Value->Shared->Prop}
theorem Inv.big(I:Inv X pins σ H s):sysModules<s.heap.objs.size:=by
 have h:mainGlobals<s.heap.objs.size:=(I.mod.glob.keeps I.bk).lt
 exact Nat.lt_trans (by decide) h
theorem aei_{Q:Value->Shared->Prop}(hu:A.units+1<cLine)(I:Inv X pins σ H s)(g:DGet H a y (some v))(ry:RelV y u)(h:∀w' s',Inv X pins σ H s'->RelV v w'->Q w' s') :
  wpAny (model X.prog X.w) A (getItem (.ref a) u) Q E s:=by
 rcases g with⟨kvs,k,e,ey,l⟩|⟨kvs,k,b,e,ey,eb,l⟩
 ·subst ey
  obtain⟨z,hd,vs,rel,dd⟩:=yP_ I.hok e
  obtain⟨w',hw,rw'⟩:=RelO.some_of (v:=v) (o:=valueAt vs k) (by rw[l];exact rel.val k)
  exact wpAny_getItem_of (aac_ ry) dd.mapOf hw (h w' _ (I.tok _) rw')
 ·subst ey
  cases(show u=Value.ref b from ry)
  obtain⟨z,hd,xs,rel,dd⟩:=yT_ I.hok e
  obtain⟨w',hw,rw'⟩:=RelO.some_of (v:=v) (o:=(atKey xs k).map (·.2)) (by rw[l];exact rel.val k)
  obtain⟨p,hp,hp2⟩:=Option.map_eq_some_iff.mp hw
  refine wpAny_getItem_heap (tupleKind_room_in1 hu) (yZ_ I.hok eb) dd hp ?_
  rw[hp2]
  exact h w' _ (I.tok _) rw'
theorem acg_{h':Heap}{t':Nat}{ob:HO}(I:Inv X pins σ H s)(mu:Mut (H a))(hs:Heap.SameBut a s.heap h')(he:∃q,h'.get? a=some q)(new:ObjOk X.prog X.w (upd H a ob) h' a ob) :
  Inv X pins σ (upd H a ob) { s with heap:=h',toks:=t' } :=
 I.write (x:=a) (e:=a) mu (.inl rfl) (λb q hb z=>(hs.2 b hb).trans z) he new
theorem alr_{P:Program}{w:World}{H':Hp}{h':Heap}{kvs:List (Key×V)}{vs:List (Key×Value)}(z:kvs.length<=sizeLine)(hd:(a==sysModules)=false)(rel:KV kvs vs)(dd:h'.DictOf (qV_ P w) a vs) :
  ObjOk P w H' h' a (.dK kvs):=⟨z,hd,vs,rel,dd⟩
theorem aeq_{H':Hp}{Q:Unit->Shared->Prop}(hu:A.units+1<cLine)(I:Inv X pins σ H s)(g:DPut H a y v H')(ry:RelV y u)(rv:RelV v r)(h:∀s',Inv X pins σ H' s'->Q () s') :
  wpAny (model X.prog X.w) A (setItem (.ref a) u r) Q E s:=by
 rcases g with⟨kvs,k,e,ey,l,eH⟩|⟨kvs,k,b,e,ey,eb,l,eH⟩
 ·subst ey eH
  obtain⟨z,hd,vs,rel,dd⟩:=ao1_ I.hok e
  have hz:vs.length<=sizeLine:=by rw[<-rel.length];exact z
  have hl:(z0_ kvs k v).length<=sizeLine:=by have:=yq_ kvs k v;omega
  refine wpAny_setItem_pairs (hsz:=hz) (aac_ ry) dd λh' dd' hs=>h _ ?_
  have he:∃q,h'.get? a=some q:=let ⟨q,_,_,hq,_⟩:=dd';⟨q,hq⟩
  exact acg_ I (by rw[e];exact True.intro) hs he (alr_ hl hd (rel.put k rv) dd')
 ·subst ey eH
  cases(show u=Value.ref b from ry)
  obtain⟨z,hd,xs,rel,dd⟩:=ap7_ I.hok e
  have hz:xs.length<=sizeLine:=by rw[<-AT rel];exact z
  have hl:(z0_ kvs k v).length<=sizeLine:=by have:=yq_ kvs k v;omega
  refine wpAny_setItem_heap (hsz:=hz) (tupleKind_room_in1 hu) (yZ_ I.hok eb) dd λh' dd' hs=>h _ ?_
  obtain⟨q,es,ep,hq,h2,h3,h4,_,h5⟩:=dd'
  refine acg_ I (by rw[e];exact True.intro) hs ⟨q,hq⟩ ⟨hl,hd,_,(rel.put k eb rv).keeps λc ys ec=>?_,q,es,ep,hq,h2,h3,h4,h5⟩
  rw[ql_ (zW_ ec e (λz=>nomatch z))]
  exact ec
end
def NoSl(i:Expr):Prop:=∀ov iv,subscripted i false ov iv=operate [ov,iv] (getItem ov iv)
theorem ajw_{prog:Program}{w:World}{A:Around}{E:Value->Shared->Prop}{s:Shared}{env:Env}{value slice:Expr}{pos:Pos}{T id:String}{Q:Value->Shared->Prop}
  (hl:typeLookup (.type T) "__getitem__" = pure (some (.builtin id))) (hs:NoSl slice)
  (h:wpAny (model prog w) A (eval value env) (λo s₁=>wpAny (model prog w) A (eval slice env) (λi s₂=>s₂.TypeIs o T/\wpAny (model prog w) A (getItem o i) Q E s₂) E s₁) E s) :
  wpAny (model prog w) A (eval (.Subscript value slice pos) env) Q E s:=by
 refine Subscript_ (wpAny_mono h (λo s₁ h₁=>wpAny_mono h₁ (λi s₂ h₂=>?_) λ_ _ x=>x) λ_ _ x=>x)
 obtain⟨hT,h₂⟩:=h₂
 unfold subscriptTail
 refine wpAny_bind ?_
 rw[getitemInPython_of_ne hT.not_modules]
 refine wpAny_bind (wpAny_specialOf hT hl ?_)
 have fin:wpAny (model prog w) A (subscripted slice false o i) (λr s₃=>wpAny (model prog w) A (letTemporaryGo value o r>>=λ_=>pure r) Q E s₃) E s₂:=by
  rw[hs o i]
  exact wpAny_operating (wpAny_mono h₂ (λr s₃ h₃=>wpAny_bind (wpAny_letTemporaryGo (wpAny_pure h₃))) λ_ _ x=>x)
 first
  |exact wpAny_pure (wpAny_bind fin)
  |exact wpAny_bind (wpAny_pure (wpAny_bind fin))
  |exact wpAny_bind fin
theorem ab1_{X:Cx}{pins:List (Addr×Obj)}{σ:St}{H:Hp}{s:Shared}{a:Addr}{y:V}{o:Option V}(I:Inv X pins σ H s)(g:DGet H a y o):s.TypeIs (.ref a) "dict" := by
 rcases g with⟨kvs,k,e,_,_⟩|⟨kvs,k,b,e,_,_,_⟩
 ·obtain⟨_,_,vs,_,dd⟩:=yP_ I.hok e
  exact dd.typeIs
 ·obtain⟨_,_,xs,_,dd⟩:=yT_ I.hok e
  exact dd.typeIs
def aom_(td ty:TE):TE:=λσ H Q=>td σ H λx H1=>ty σ H1 λy H2=>∃a v,x=.ref a/\DGet H2 a y (some v)/\Q v H2
def ap1_(td ty tv:TE):TS:=λD σ H=>tv σ H λv H1=>td σ H1 λx H2=>ty σ H2 λy H3=>∃a H4,x=.ref a/\DPut H3 a y v H4/\D.nx σ H4
section
variable{X:Cx}{o i e value:Expr}{pos pos' tpos:Pos}{td ty tv:TE}
theorem x6_(hu:X.A.units+1<cLine)(ho:PE X o td)(hi:PE X i ty)(hs:NoSl i):PE X (.Subscript o i pos) (aom_ td ty):=by
 intro pins s σ H Q I h
 refine ajw_ PySem.F.slot_dict_getitem.lookup hs (thn (ho pins s σ H _ I h) λu s1 ⟨x,H1,I1,rx,q1⟩=>thn (hi pins s1 σ H1 _ I1 q1) λiv s2 ⟨y,H2,I2,ry,a,v,ex,g,q2⟩=>?_)
 subst ex
 obtain rfl:u=Value.ref a:=rx
 exact⟨ab1_ I2 g,aei_ hu I2 g ry λw' s3 I3 rw'=>⟨v,H2,I3,rw',q2⟩⟩
theorem vv_(hu:X.A.units+1<cLine)(ho:PE X o td)(hi:PE X i ty)(hv:PE X value tv)(hs:swapsWith value (some (.Subscript o i pos')) pos.line X.env=pure false) :
  PS X (.Assign [.Subscript o i pos'] value pos) (ap1_ td ty tv):=by
 intro pins s σ H D I h
 refine wpAny_Assign_Subscript (thn (hv pins s σ H _ I h) λr s1 ⟨v,H1,I1,rv,q1⟩=>thn (ho pins s1 σ H1 _ I1 q1) λu s2 ⟨x,H2,I2,rx,q2⟩=>thn (hi pins s2 σ H2 _ I2 q2) λiv s3 ⟨y,H3,I3,ry,a,H4,ex,g,q3⟩=>?_) hs
 subst ex
 obtain rfl:u=Value.ref a:=rx
 exact aeq_ hu I3 g ry rv λs4 I4=>⟨σ,H4,I4,q3⟩
end
theorem ahd_{P:Program}{w:World}{H:Hp}(h:Heap)(hb:sysModules<h.objs.size):ObjOk P w H (h.push { cls:=.type "dict",data:=.dict #[] }) h.objs.size (.dT []) :=
 ⟨Ae _,beq_eq_false_iff_ne.mpr (BY (Af hb)),[],.nil,_,#[],0,AL _ rfl,⟨rfl,rfl,rfl⟩,rfl,rfl,List.nodup_nil⟩
def anl_:TE:=λ_ H Q=>∀p,H p=none->Q (.ref p) (upd H p (.dT []))
section
variable{X:Cx}{pos:Pos}
theorem yC_:PE X (.Dict [] [] pos) anl_:=λpins s σ H Q I h =>
 wpAny_Dict_empty ⟨.ref s.heap.objs.size,_,I.laid (a:=s.heap.objs.size) (o:=.dT []) (t':=s.toks) (λ_ _ q=>AB _ q) (AH _) (ahd_ s.heap I.big),rfl,h _ (I.hok.fresh (AH _))⟩
end
def alh_(kvs more:List (Key×V)):List (Key×V):=more.foldl (λacc kv=>z0_ acc kv.1 kv.2) kvs
theorem KV.merge:∀{more:List (Key×V)}{rs:List (Key×Value)}{kvs:List (Key×V)}{vs:List (Key×Value)},KV more rs->KV kvs vs->KV (alh_ kvs more) (merged vs rs):=by
 intro more rs kvs vs r
 unfold KV at r
 induction r generalizing kvs vs with
 |nil=>intro q;exact q
 |@cons p q ps qs h t ih =>
  intro r0
  have e:KV (z0_ kvs p.1 p.2) (stored vs q.1 q.2):=by
   have:=r0.put p.1 h.2
   rw[<-h.1];exact this
  exact ih e
structure M1(X:Cx)(o:Expr)(m:Str)(apos:Pos)(e:Expr)(cpos:Pos):Prop where
 base:attributeBase o m X.env (eval o X.env)=eval o X.env
 few:((backTo cpos (starEach [e] X.env)).all (λx=>!x.1)&&(backToKw cpos (keywordEach [] X.env)).all (λx=>x.1.isSome)
  && decide (([e]:List Expr).length+([]:List Keyword).length+(if ([]:List Keyword).isEmpty then 0 else 1)<30))=true
 line:(apos.endLine==cpos.line)=true
 trees:backTo cpos (starEach [e] X.env)=[(false,eval e X.env)]
structure M2(X:Cx)(o:Expr)(m:Str)(apos:Pos)(e f:Expr)(cpos:Pos):Prop where
 base:attributeBase o m X.env (eval o X.env)=eval o X.env
 few:((backTo cpos (starEach [e,f] X.env)).all (λx=>!x.1)&&(backToKw cpos (keywordEach [] X.env)).all (λx=>x.1.isSome)
  && decide (([e,f]:List Expr).length+([]:List Keyword).length+(if ([]:List Keyword).isEmpty then 0 else 1)<30))=true
 line:(apos.endLine==cpos.line)=true
 trees:backTo cpos (starEach [e,f] X.env)=[(false,eval e X.env),(false,eval f X.env)]
def IsD(H:Hp)(a:Addr):Prop:=(∃kvs,Rd H a (.dK kvs))∨∃kvs,Rd H a (.dT kvs)
theorem ak1_{X:Cx}{pins:List (Addr×Obj)}{σ:St}{H:Hp}{s:Shared}{a:Addr}(I:Inv X pins σ H s)(d:IsD H a) :
  s.TypeIs (.ref a) "dict" /\ (∀b,Value.ref a=.ref b->∃ob,s.heap.get? b=some ob/\ob.dict=none)/\(a==sysModules)=false:=by
 rcases d with⟨kvs,e⟩|⟨kvs,e⟩
 ·obtain⟨_,hd,vs,_,dd⟩:=yP_ I.hok e
  refine⟨dd.typeIs,λb q=>?_,hd⟩
  cases q
  obtain⟨ob,_,_,h1,h2,_⟩:=dd
  exact⟨ob,h1,h2.2.1⟩
 ·obtain⟨_,hd,xs,_,dd⟩:=yT_ I.hok e
  refine⟨dd.typeIs,λb q=>?_,hd⟩
  cases q
  obtain⟨ob,_,_,h1,h2,_⟩:=dd
  exact⟨ob,h1,h2.2.1⟩
section
variable{X:Cx}{pins:List (Addr×Obj)}{σ:St}{H:Hp}{s:Shared}{a:Addr}{y d:V}{u r:Value}{o:Option V}{A:Around}{E:Value->Shared->Prop}
theorem anq_{Q:Value->Shared->Prop}(hu:A.units+1<cLine)(I:Inv X pins σ H s)(g:DGet H a y o)(ry:RelV y u)(rd:RelV d r)(h:∀w' s',Inv X pins σ H s'->RelV (o.getD d) w'->Q w' s') :
  wpAny (model X.prog X.w) A (call (.builtin "dict.get") [.ref a,u,r]) Q E s:=by
 rcases g with⟨kvs,k,e,ey,l⟩|⟨kvs,k,b,e,ey,eb,l⟩
 ·subst ey
  obtain⟨z,hd,vs,rel,dd⟩:=yP_ I.hok e
  refine call_meetsIn DJ dd.typeIs EM (D9 _ _ _) (meets_dict_get_default (qV_ X.prog X.w) a (aac_ ry) hd r) ⟨_,dd.mapOf,h _ _ (I.tok _) ?_⟩
  rw[l]
  exact(rel.val k).getD rd
 ·subst ey
  cases(show u=Value.ref b from ry)
  obtain⟨z,hd,xs,rel,dd⟩:=yT_ I.hok e
  refine call_meetsIn DJ dd.typeIs EM (D9 _ _ _) (meetsH_dict_get_default (tupleKind (qV_ X.prog X.w)) a b hd r) ⟨tupleKind_room_in1 hu,k,xs,yZ_ I.hok eb,dd,h _ _ (I.tok _) ?_⟩
  rw[l]
  exact(rel.val k).getD rd
end
def aks_(td ty tx:TE):TE:=λσ H Q=>td σ H λx H1=>∃a,x=.ref a/\IsD H1 a/\ty σ H1 λy H2=>tx σ H2 λz H3=>∃o,DGet H3 a y o/\Q (o.getD z) H3
section
variable{X:Cx}{o e f:Expr}{apos cpos:Pos}{td ty tx:TE}
theorem yF_(hu:X.A.units+1<cLine)(ho:PE X o td)(he:PE X e ty)(hf:PE X f tx)(m:M2 X o "get" apos e f cpos):PE X (.Call (.Attribute o "get" apos) [e,f] [] cpos) (aks_ td ty tx):=by
 intro pins s σ H Q I h
 refine wpAny_Call_method m.base m.few m.line PySem.F.plainAttrs_dict DJ PySem.F.type_dict_get (thn (ho pins s σ H _ I h) λu s1 ⟨x,H1,I1,rx,a,ex,d,q1⟩=>?_)
 subst ex
 obtain rfl:u=Value.ref a:=rx
 obtain⟨t1,t2,_⟩:=ak1_ I1 d
 refine⟨t1,t2,?_⟩
 rw[m.trees]
 refine Cf rfl (Cn (CG (thn (he pins s1 σ H1 _ I1 q1) λiv s2 ⟨y,H2,I2,ry,q2⟩ =>
  CG (thn (hf pins s2 σ H2 _ I2 q2) λfv s3 ⟨z,H3,I3,rz,ov,g,q3⟩=>Calls.spliced_nil ?_))))
 exact anq_ hu I3 g ry rz λw' s4 I4 rw'=>⟨_,H3,I4,rw',q3⟩
end
end L2
namespace L2
open PySem PySem.Spec PyProof.Rows
end L2
namespace L2.Ev
open PySem PySem.Spec PyProof.Rows
theorem xz_(a b:Int):Builtin.Range.rangeSize a b (-1)=if b<a then a-b else 0:=by
 unfold Builtin.Range.rangeSize
 rw[if_neg (by decide)]
 by_cases h:a>b
 ·rw[if_pos h,if_pos (show b<a from h)]
  have e:-(-1:Int)=1:=rfl
  rw[e,Int.ediv_one]
  omega
 ·rw[if_neg h,if_neg (show ¬ b<a from h)]
theorem adu_{a b:Int}(ha:-(2^62)<=a)(ha':a<2^62)(hb:-(2^62)<=b)(hb':b<2^62):Builtin.Range.small a b (-1)=true:=by
 unfold Builtin.Range.small
 rw[xz_]
 simp only[Builtin.Range.rangeFitsLong,AG,CK,decide_eq_true_eq,beq_iff_eq,show ¬ ((-1:Int)>0) by decide,if_false]
 split<;>omega
def Itd(hi:Int)(n:Nat):It:=⟨λi _=>i<n,λi H x H'=>H'=H/\x=.int (hi-i),λi _=>n<=i⟩
theorem ab4_{P:Program}{w:World}{K:PySem.W.Frag}{tg:Expr}(it:Addr)(hi:Int)(n:Nat):Turn P w K tg (Itd hi n) [it] it (λi h=>IsRangeIter h it (hi+(i:Nat)*(-1)) ((n:Int)-(i:Nat)) (-1)) where
 mem:=by simp
 obj:=λi h st b hb=>by
  have e:b=it:=by simpa using hb
  subst e
  exact⟨_,st,λv z=>by
   have z':Data.fields _=Data.cell v:=z
   cases z'⟩
 keep:=λi h h' st k=>k it (by simp) _ st
 item:=by
  intro X hP hw hK hc i pins s σ H E I hf st hg
  subst hP hw hK
  obtain⟨f0,f1,f2,f3,f4,f5⟩:=hf it (by simp)
  have W:=Walks.range (prog:=X.prog) (w:=X.w) (I.ok.hd hc) it hi (-1) n
  refine W.item i s _ _ hg st λv h' tk hv st' kk=>?_
  obtain⟨t,rfl⟩:=hv
  have I1:Inv X pins σ H { s with heap:=h',toks:=tk }:=I.turned (λb o hb e=>kk b o (by simpa using hb) e) f0 f1 f3 f4 f5
  refine⟨_,rfl,yf_ (s:={ s with heap:=h',toks:=tk }) (n := "range_iterator") st' rfl rfl (by decide) ⟨.int (hi-i),H,I1,⟨t,?_⟩,⟨rfl,rfl⟩,st',λb hb=>(hf b hb).1⟩⟩
  have e:hi+(i:Int)*(-1)=hi-(i:Int):=by omega
  rw[e]
 done:=by
  intro X hP hw hK hc i pins s σ H E I hf st hg
  subst hP hw hK
  obtain⟨f0,f1,f2,f3,f4,f5⟩:=hf it (by simp)
  exact wpAny_pyNext_range_end (I.ok.hd hc) st (by have:n<=i:=hg;omega) λh' eb=>⟨rfl,I.turned (t':=s.toks) (λb o hb e=>eb b o hb e) f0 f1 f3 f4 f5⟩
 self:=λ_ _ _ _ _ st h=>wpAny_pyIter_rangeiter st h
section
variable{X:Cx}{tg:Expr}
theorem aer_{pins:List (Addr×Obj)}{σ:St}{H:Hp}{s:Shared}{R:It->Hp->Prop}{E:Value->Shared->Prop}{hi lo:Int}{t u v:Tok}{tk:Nat}(I:Inv X pins σ H s)(h1:-(2^62)<=hi)(h2:hi<2^62)(h3:-(2^62)<=lo)(h4:lo<2^62)
  (q:R (Itd hi (hi-lo).toNat) H):wpAny (model X.prog X.w) X.A (pyIter (.ref s.heap.objs.size)) (PIE X pins σ tg R) E { s with heap:=s.heap.push { cls:=.type "range",data:=.fields #[.int hi t,.int lo u,.int (-1) v] },toks:=tk }:=by
 refine wpAny_pyIter_range (IsRange.new ..) (adu_ h1 h2 h3 h4) ?_
 have I1:Inv X pins σ H { s with heap:=s.heap.push { cls:=.type "range",data:=.fields #[.int hi t,.int lo u,.int (-1) v] },toks:=tk }:=I.kept λb o e=>AB _ e
 refine⟨(s.heap.push { cls:=.type "range",data:=.fields #[.int hi t,.int lo u,.int (-1) v] }).objs.size,[(s.heap.push { cls:=.type "range",data:=.fields #[.int hi t,.int lo u,.int (-1) v] }).objs.size],_,_,H,rfl,
  I1.kept (t':=tk) λb o e=>AB _ e,ab4_ _ hi (hi-lo).toNat,?_,λb hb=>?_,q⟩
 ·have e1:hi+((0:Nat):Int)*(-1)=hi:=by simp
  have e2:(((hi-lo).toNat:Nat):Int)-((0:Nat):Int)=Builtin.Range.rangeSize hi lo (-1):=by rw[xz_];split<;>omega
  show IsRangeIter _ _ (hi+((0:Nat):Int)*(-1)) ((((hi-lo).toNat:Nat):Int)-((0:Nat):Int)) (-1)
  rw[e1,e2]
  exact AL _ rfl
 ·have e:b=(s.heap.push { cls:=.type "range",data:=.fields #[.int hi t,.int lo u,.int (-1) v] }).objs.size:=by simpa using hb
  subst e
  exact I1.fpOk (AH _) (I1.hok.fresh (AH _))
def aqc_(ta:TA):TI:=λσ H R=>ta σ H λvs H1=>∃i j:Int,vs=[.int i,.int j,.int (-1)]/\(-(2^62)<=i/\i<2^62/\-(2^62)<=j/\j<2^62)/\R (Itd i (i-j).toNat) H1
theorem af4_{a b c:Expr}{ta:TA}{p pos:Pos}(hg:Gl X "range")(hm:X.mg "range" = none)(ha:PA X [a,b,c] ta)(hs:starEach [a,b,c] X.env=(false,eval a X.env)::starEach [b,c] X.env:=by rfl)(hs2:(backTo pos (starEach [b,c] X.env)).any (·.1)=false:=by rfl) :
  PI X tg (.Call (.Name "range" p) [a,b,c] [] pos) (aqc_ ta):=by
 intro pins s σ H R I h
 refine Call_ (zH_ I hg hm boot_range (BG (thn (ha pos pins s σ H _ I h) λus s1 ⟨vs,H1,I1,r1,q1⟩=>?_) hs hs2))
 obtain⟨i,j,e,⟨q1,q2,q3,q4⟩,q⟩:=q1
 subst e
 cases r1 with
 |cons r rr =>
  cases rr with
  |cons r' rr =>
   cases rr with
   |cons r'' rr =>
    cases rr
    obtain⟨t,rfl⟩:=r
    obtain⟨t',rfl⟩:=r'
    obtain⟨t'',rfl⟩:=r''
    exact call_range_3 (by decide) (aer_ I1 q1 q2 q3 q4 q) (Or.inl (EI (by decide)))
end
theorem ah2_{hi:Int}{n:Nat}{g:TG}{tb:TS}{D:Ends}{σ:St}{H:Hp}(Pv:Nat->St->Hp->Prop)(h0:Pv 0 σ H)
  (hs:∀i σ H,i<n->Pv i σ H->g (.int (hi-i)) σ H λσ2 H2=>tb { D with nx:=Pv (i+1),ct:=Pv (i+1),bk:=D.nx } σ2 H2) (hd:∀σ H,Pv n σ H->D.nx σ H) :
  ∃W:Nat->Nat->St->Hp->Prop,(∃m,W 0 m σ H)/\∀i m σ H,W i m σ H ->
   ((Itd hi n).stop i H/\D.nx σ H)∨((Itd hi n).go i H/\∃N:St->Hp->Prop,(∀σ' H',N σ' H'->∃m',m'<m/\W (i+1) m' σ' H')/\∀x H',(Itd hi n).yld i H x H'->g x σ H' λσ2 H2=>tb { D with nx:=N,ct:=N,bk:=D.nx } σ2 H2):=by
 refine⟨λi m σ H=>m=n-i/\i<=n/\Pv i σ H,⟨n,by simp,Ae _,h0⟩,?_⟩
 rintro i m σ H ⟨rfl,hi,p⟩
 by_cases hlt:i<n
 ·refine .inr ⟨hlt,Pv (i+1),λσ' H' p'=>⟨n-(i+1),by omega,rfl,hlt,p'⟩,λx H' y=>?_⟩
  obtain⟨e,y⟩:=y
  subst e y
  exact hs i σ _ hlt p
 ·have e:i=n:=by omega
  subst e
  exact .inl ⟨AH _,hd σ H p⟩
section
variable{X:Cx}
theorem z2_:CallR X (.builtin "isinstance") (λxs H Q=>∃x t T b,xs=[x,.ty T]/\TyOf X.K H x t/\PySem.W.kitOne X.K t (.type T)=some b/\Q (.bl b) H):=by
 intro pins s σ H xs us Q I r h
 obtain⟨x,t,T,b,rfl,ty,e,q⟩:=h
 obtain⟨u,v,rfl,r1,r2⟩:=jD_ r
 obtain rfl:v=Value.type T:=r2
 exact afb_ I r1 ty e λtk=>⟨.bl b,H,I.tok tk,rfl,q⟩
theorem ahh_{t:Addr}{vs:List Value}{ns:List Int}{s:Shared}{prog:Program}{w:World}{A:Around}{E:Value->Shared->Prop}{Q:Value->Shared->Prop}(hh:A.handled=none)(hl:s.heap.IsTuple t vs.toArray)(hi:IntsAre vs ns)
  (h:∀h' tk t',(∀b o,s.heap.get? b=some o->h'.get? b=some o)->Q (.int ns.sum t') { s with heap:=h',toks:=tk }) :
  wpAny (model prog w) A (call (.builtin "sum") [.ref t]) Q E s:=by
 obtain⟨xs,hx⟩:=hi.allInts.items
 have hn:numsOf vs.toArray.toList=ns:=by rw[show vs.toArray.toList=vs from rfl,hi.numsOf]
 rw[hx]at hl hn
 rw[nums_intItems]at hn
 refine PySem.W.ktm_sumG hh hl λh' tk t' hk=>?_
 have:=h h' tk t' hk
 rw[preSum_eq,Aj (by simp),hn]
 exact this
theorem zt_(hc:X.calm=true):CallR X (.builtin "sum") (λxs H Q=>∃(p:Addr)(ns:List Int),xs=[.ref p]/\SqT X.K H p (ns.map V.int)/\Q (.int ns.sum) H):=by
 intro pins s σ H xs us Q I r h
 obtain⟨p,ns,rfl,hq,q⟩:=h
 obtain⟨u,rfl,ru⟩:=jn_ r
 cases ru
 obtain⟨its,rv,ht,_⟩:=I.tuple hq
 exact ahh_ (I.ok.hd hc) (show s.heap.IsTuple p its.toArray from ht) (q1_ rv) λh' tk t' hk=>⟨.int ns.sum,H,I.kept (t':=tk) hk,⟨t',rfl⟩,q⟩
end
def Tups(H H':Hp):Prop:=∀p xs,H p=some (.tup xs)->H' p=some (.tup xs)
theorem Tups.refl(H:Hp):Tups H H:=λ_ _ h=>h
theorem Tups.trans{H H1 H2:Hp}(a:Tups H H1)(b:Tups H1 H2):Tups H H2:=λp xs h=>b p xs (a p xs h)
theorem Tups.same{H H':Hp}(a:Same H H'):Tups H H':=λp xs h=>a p _ h
class Dat (α:Type) where
 is:Hp->V->α->Prop
 mono:∀{H H':Hp}{v:V}{a:α},Tups H H'->is H v a->is H' v a
 inj:∀{H:Hp}{v:V}{a b:α},is H v a->is H v b->a=b
 dep:Nat
 eqb:α->α->Bool
 eqb_iff:∀a b,eqb a b=true↔a=b
 eqAt:∀{X:Cx}{pins:List (Addr×Obj)}{σ:St}{H:Hp}{s:Shared}{A:Around}{v v':V}{u u':Value}{a b:α},Inv X pins σ H s->A.units+dep<cLine->is H v a->is H v' b->RelV v u->RelV v' u'->SeqAt.EqAt A s u u' (eqb a b)
instance:Dat Int where
 is:=λ_ v n=>v=.int n
 mono:=λ_ h=>h
 inj:=λh h'=>by rw[h]at h';cases h';rfl
 dep:=0
 eqb:=λa b=>a==b
 eqb_iff:=λa b=>by simp
 eqAt:=λI hu h h' r r'=>by
  subst h h'
  obtain⟨t,rfl⟩:=r
  obtain⟨t',rfl⟩:=r'
  exact Df _ _ _ _
theorem Paired.get{α β:Type}{F:α->β->Prop}:∀{l:List α}{m:List β}(r:Paired F l m){i:Nat}{a:α},l[i]?=some a->∃b,m[i]?=some b/\F a b
 |_,_,.nil,_,_,e=>by simp at e
 |_,_,.cons r t,0,_,e=>by simp at e;subst e;exact⟨_,rfl,r⟩
 |_,_,.cons r t,i+1,a,e=>by
  obtain⟨b,h1,h2⟩:=Paired.get t (i:=i) (a:=a) (by simpa using e)
  exact⟨b,by simpa using h1,h2⟩
theorem Paired.getR{α β:Type}{F:α->β->Prop}:∀{l:List α}{m:List β}(r:Paired F l m){i:Nat}{b:β},m[i]?=some b->∃a,l[i]?=some a/\F a b
 |_,_,.nil,_,_,e=>by simp at e
 |_,_,.cons r t,0,_,e=>by simp at e;subst e;exact⟨_,rfl,r⟩
 |_,_,.cons r t,i+1,b,e=>by
  obtain⟨a,h1,h2⟩:=Paired.getR t (i:=i) (b:=b) (by simpa using e)
  exact⟨a,by simpa using h1,h2⟩
theorem Paired.injR{α β:Type}{F:α->β->Prop}(hf:∀a b b',F a b->F a b'->b=b'):∀{l:List α}{m m':List β},Paired F l m->Paired F l m'->m=m'
 |_,_,_,.nil,.nil=>rfl
 |_,_,_,.cons r t,.cons r' t'=>by rw[hf _ _ _ r r',Paired.injR hf t t']
theorem Paired.app{α β:Type}{F:α->β->Prop}:∀{l l':List α}{m m':List β},Paired F l m->Paired F l' m'->Paired F (l++l') (m++m')
 |_,_,_,_,.nil,h=>h
 |_,_,_,_,.cons r t,h=>.cons r (Paired.app t h)
def ze_{α:Type}(e:α->α->Bool):List α->List α->Bool
 |[],[]=>true
 |a::l,b::m=>e a b&&ze_ e l m
 |_,_=>false
theorem jB_{α:Type}{e:α->α->Bool}(h:∀a b,e a b=true↔a=b):∀l m,ze_ e l m=true↔l=m
 |[],[]=>by simp [ze_]
 |[],_::_=>by simp [ze_]
 |_::_,[]=>by simp [ze_]
 |a::l,b::m=>by simp [ze_,h a b,jB_ h l m]
def eAt{α:Type}(e:α->α->Bool)(l m:List α)(j:Nat):Bool:=match l[j]?,m[j]? with
 |some a,some b=>e a b
 |_,_=>false
theorem j4_{α:Type}(e:α->α->Bool):∀l m:List α,((List.range (min l.length m.length)).all (eAt e l m)&&l.length==m.length)=ze_ e l m
 |[],[]=>by simp [ze_]
 |[],_::_=>by simp [ze_]
 |_::_,[]=>by simp [ze_]
 |a::l,b::m=>by
  have ih:=j4_ e l m
  show((List.range (min (l.length+1) (m.length+1))).all (eAt e (a::l) (b::m))&&(l.length+1==m.length+1))=(e a b&&ze_ e l m)
  rw[<-ih,Nat.add_min_add_right,By,DE,Em]
  have e0:eAt e (a::l) (b::m) 0=e a b:=rfl
  have e1:(eAt e (a::l) (b::m) ∘ Nat.succ)=eAt e l m:=by funext j;rfl
  have e2:(l.length+1==m.length+1)=(l.length==m.length):=by simp
  rw[e0,e1,e2,Bool.and_assoc]
section
variable{α:Type}[D:Dat α]
abbrev Its(H:Hp)(vs:List V)(l:List α):Prop:=Paired (λv a=>D.is H v a) vs l
theorem Its.mono{H H':Hp}{vs:List V}{l:List α}(t:Tups H H')(h:Its H vs l):Its H' vs l:=Paired.mono (λ_ _ q=>D.mono t q) h
theorem Its.inj{H:Hp}{vs:List V}{l m:List α}(h:Its H vs l)(h':Its H vs m):l=m:=Paired.injR (F:=λv a=>D.is H v a) (λ_ _ _ q q'=>D.inj q q') h h'
theorem j1_{X:Cx}{pins:List (Addr×Obj)}{σ:St}{H:Hp}{s:Shared}{A:Around}{vs vs':List V}{its its':List Value}{l m:List α}(I:Inv X pins σ H s)(hu:A.units+D.dep<cLine)(h:Its H vs l)(h':Its H vs' m)(r:Vals vs its)(r':Vals vs' its') :
  ∀j (h1:j<its.toArray.size) (h2:j<its'.toArray.size),SeqAt.EqAt A s its.toArray[j] its'.toArray[j] (eAt D.eqb l m j):=by
 intro j h1 h2
 have l1:=r.length
 have l2:=r'.length
 have k1:j<its.length:=by simpa using h1
 have k2:j<its'.length:=by simpa using h2
 have g1:vs[j]?=some vs[j]:=AE (by omega)
 have g2:vs'[j]?=some vs'[j]:=AE (by omega)
 obtain⟨u,e1,ru⟩:=r.get g1
 obtain⟨u',e2,ru'⟩:=r'.get g2
 obtain⟨a,f1,ra⟩:=Paired.get h g1
 obtain⟨b,f2,rb⟩:=Paired.get h' g2
 have q1:its.toArray[j]=u:=by
  have:its[j]=u:=by rw[AE k1]at e1;exact AW e1
  simpa using this
 have q2:its'.toArray[j]=u':=by
  have:its'[j]=u':=by rw[AE k2]at e2;exact AW e2
  simpa using this
 have q3:eAt D.eqb l m j=D.eqb a b:=by unfold eAt;rw[f1,f2]
 rw[q1,q2,q3]
 exact D.eqAt I hu ra rb ru ru'
instance datList:Dat (List α) where
 is:=λH v l=>∃p vs,v=.ref p/\H p=some (.tup vs)/\Its H vs l
 mono:=λt ⟨p,vs,e,h,i⟩=>⟨p,vs,e,t p vs h,Its.mono t i⟩
 inj:=λ⟨p,vs,e,h,i⟩ ⟨p',vs',e',h',i'⟩=>by
  subst e
  cases e'
  rw[h]at h'
  cases h'
  exact Its.inj i i'
 dep:=D.dep+1
 eqb:=ze_ D.eqb
 eqb_iff:=jB_ D.eqb_iff
 eqAt:=λ{X pins σ H s A v v' u u' l m} I hu h h' r r'=>by
  obtain⟨p,vs,rfl,h,i⟩:=h
  obtain⟨p',vs',rfl,h',i'⟩:=h'
  cases r
  cases r'
  by_cases e:p=p'
  ·subst e
   rw[h]at h'
   cases h'
   have q:l=m:=Its.inj i i'
   rw[(jB_ D.eqb_iff l m).mpr q]
   exact SeqAt.EqAt.same _
  ·obtain⟨its,rv,ht,_⟩:=I.tuple (SqT.of h)
   obtain⟨its',rv',ht',_⟩:=I.tuple (SqT.of h')
   have hl:its.toArray.size=l.length:=by have:=rv.length;have:=AT i;simp;omega
   have hm:its'.toArray.size=m.length:=by have:=rv'.length;have:=AT i';simp;omega
   have q:=Dr (A:=A) (s:=s) (e:=eAt D.eqb l m) (show s.heap.IsTuple p its.toArray from ht) (show s.heap.IsTuple p' its'.toArray from ht') (by omega)
    (j1_ I (A:=A.in1) (by show A.units+1+D.dep<cLine;omega) i i' rv rv')
   rw[hl,hm,j4_]at q
   exact SeqAt.EqAt.of_refs e q
def LstAt(H:Hp)(a:Addr)(l:List α):Prop:=∃vs,H a=some (.lst vs)/\Its H vs l
theorem LstAt.mono{H H':Hp}{a:Addr}{l:List α}(e:Same H H')(h:LstAt H a l):LstAt H' a l:=by
 obtain⟨vs,q,i⟩:=h
 exact⟨vs,e _ _ q,Its.mono (Tups.same e) i⟩
end
section
variable{α β:Type}[D:Dat α][D2:Dat β]
instance datPair:Dat (α×β) where
 is:=λH v x=>∃p a b,v=.ref p/\H p=some (.tup [a,b])/\D.is H a x.1/\D2.is H b x.2
 mono:=λt ⟨p,a,b,e,h,i,j⟩=>⟨p,a,b,e,t _ _ h,D.mono t i,D2.mono t j⟩
 inj:=λ⟨p,a,b,e,h,i,j⟩ ⟨p',a',b',e',h',i',j'⟩=>by
  subst e
  cases e'
  rw[h]at h'
  cases h'
  exact Dy (D.inj i i') (D2.inj j j')
 dep:=max D.dep D2.dep+1
 eqb:=λx y=>D.eqb x.1 y.1&&D2.eqb x.2 y.2
 eqb_iff:=λx y=>by rw[AG,D.eqb_iff,D2.eqb_iff,Prod.ext_iff]
 eqAt:=λ{X pins σ H s A v v' u u' l m} I hu h h' r r'=>by
  obtain⟨p,a,b,rfl,h,i,j⟩:=h
  obtain⟨p',a',b',rfl,h',i',j'⟩:=h'
  cases r
  cases r'
  by_cases e:p=p'
  ·subst e
   rw[h]at h'
   cases h'
   rw[(D.eqb_iff _ _).mpr (D.inj i i'),(D2.eqb_iff _ _).mpr (D2.inj j j')]
   exact SeqAt.EqAt.same _
  ·obtain⟨its,rv,ht,_⟩:=I.tuple (SqT.of h)
   obtain⟨its',rv',ht',_⟩:=I.tuple (SqT.of h')
   obtain⟨w1,w2,rfl,r1,r2⟩:=jD_ rv
   obtain⟨z1,z2,rfl,t1,t2⟩:=jD_ rv'
   have q:=Dr (A:=A) (s:=s) (e:=λk=>if k=0 then D.eqb l.1 m.1 else D2.eqb l.2 m.2) (show s.heap.IsTuple p _ from ht) (show s.heap.IsTuple p' _ from ht') (by omega)
    (λk h1 h2=>by
     have hk:k=0∨k=1:=by
      have:k<2:=h1
      omega
     rcases hk with rfl|rfl
     ·exact D.eqAt (A:=A.in1) I (by show A.units+1+D.dep<cLine;omega) i i' r1 t1
     ·exact D2.eqAt (A:=A.in1) I (by show A.units+1+D2.dep<cLine;omega) j j' r2 t2)
   have e2:((List.range (min [w1,w2].toArray.size [z1,z2].toArray.size)).all (λk=>if k=0 then D.eqb l.1 m.1 else D2.eqb l.2 m.2)&&[w1,w2].toArray.size==[z1,z2].toArray.size)=(D.eqb l.1 m.1&&D2.eqb l.2 m.2):=by
    simp [B5]
   rw[e2]at q
   exact SeqAt.EqAt.of_refs e q
end
section
variable{X:Cx}{α:Type}[D:Dat α]
theorem ahu_{pins:List (Addr×Obj)}{σ:St}{H:Hp}{s:Shared}{A:Around}{a b:Addr}{l m:List α}(I:Inv X pins σ H s)(hu:A.units+(D.dep+1)<cLine)(ha:LstAt H a l)(hb:LstAt H b m) :
  SeqAt.RcAt A s (.ref a) (.ref b) (ze_ D.eqb l m):=by
 obtain⟨vs,ha,i⟩:=ha
 obtain⟨vs',hb,i'⟩:=hb
 obtain⟨its,rv,ht,_⟩:=I.list (SqL.of ha)
 obtain⟨its',rv',ht',_⟩:=I.list (SqL.of hb)
 have hl:its.toArray.size=l.length:=by have:=rv.length;have:=AT i;simp;omega
 have hm:its'.toArray.size=m.length:=by have:=rv'.length;have:=AT i';simp;omega
 have all:=j4_ D.eqb l m
 by_cases e:l.length=m.length
 ·have q:=SeqAt.RcAt.lists (A:=A) (s:=s) (e:=eAt D.eqb l m) ht.isList ht'.isList (by omega) (by omega) (j1_ I (A:=A.in1) (by show A.units+1+D.dep<cLine;omega) i i' rv rv')
  rw[hl]at q
  rw[e,Dz,beq_self_eq_true,Bool.and_true,<-e]at all
  rw[all]at q
  exact q
 ·have q:=SeqAt.RcAt.lists_lengths (A:=A) (s:=s) ht.isList ht'.isList (by rw[hl,hm];simpa using e) (by omega)
  rw[show(l.length==m.length)=false by simpa using e,C6]at all
  rw[<-all]
  exact q
theorem ad0_{pins:List (Addr×Obj)}{σ:St}{H:Hp}{s:Shared}{A:Around}{a b:Addr}{l m:List α}(I:Inv X pins σ H s)(hu:A.units+(D.dep+1)<cLine)(ha:LstAt H a l)(hb:LstAt H b m) :
  SeqAt.RcNeAt A s (.ref a) (.ref b) (!ze_ D.eqb l m):=by
 obtain⟨vs,ha,i⟩:=ha
 obtain⟨vs',hb,i'⟩:=hb
 obtain⟨its,rv,ht,_⟩:=I.list (SqL.of ha)
 obtain⟨its',rv',ht',_⟩:=I.list (SqL.of hb)
 have hl:its.toArray.size=l.length:=by have:=rv.length;have:=AT i;simp;omega
 have hm:its'.toArray.size=m.length:=by have:=rv'.length;have:=AT i';simp;omega
 have all:=j4_ D.eqb l m
 by_cases e:l.length=m.length
 ·have q:=SeqAt.RcNeAt.lists (A:=A) (s:=s) (e:=eAt D.eqb l m) ht.isList ht'.isList (by omega) (by omega) (j1_ I (A:=A.in1) (by show A.units+1+D.dep<cLine;omega) i i' rv rv')
  rw[hl]at q
  rw[e,Dz,beq_self_eq_true,Bool.and_true,<-e]at all
  rw[all]at q
  exact q
 ·have q:=SeqAt.RcNeAt.lists_lengths (A:=A) (s:=s) ht.isList ht'.isList (by rw[hl,hm];simpa using e) (by omega)
  rw[show(l.length==m.length)=false by simpa using e,C6]at all
  rw[<-all]
  exact q
def rEqL(α:Type)[Dat α]:R2:=λx y H Q=>∃(a b:Addr)(l m:List α),x=.ref a/\y=.ref b/\LstAt H a l/\LstAt H b m/\Q (.bl (ze_ (Dat.eqb (α:=α)) l m)) H
def rNeL(α:Type)[Dat α]:R2:=λx y H Q=>∃(a b:Addr)(l m:List α),x=.ref a/\y=.ref b/\LstAt H a l/\LstAt H b m/\Q (.bl (!ze_ (Dat.eqb (α:=α)) l m)) H
theorem aah_(hu:X.A.units+(D.dep+1)<cLine):OpR X (compareOp .Eq) (rEqL α):=by
 intro pins s σ H x y v u Q I rx ry h
 obtain⟨a,b,l,m,rfl,rfl,ha,hb,q⟩:=h
 cases rx
 cases ry
 exact(ahu_ I hu ha hb) X.prog X.w X.xe _ ⟨.bl _,H,I,rfl,q⟩
theorem xs_(hu:X.A.units+(D.dep+1)<cLine):OpR X (compareOp .NotEq) (rNeL α):=by
 intro pins s σ H x y v u Q I rx ry h
 obtain⟨a,b,l,m,rfl,rfl,ha,hb,q⟩:=h
 cases rx
 cases ry
 exact(ad0_ I hu ha hb) X.prog X.w X.xe _ ⟨.bl _,H,I,rfl,q⟩
end
end L2.Ev
namespace L2.Ts
open PySem PyProof.Rows
def kv(rk:Keyed->Nat)(xs:Array Keyed)(i:Nat):Nat:=match xs[i]? with
 |some p=>rk p
 |none=>0
def Srt(rk:Keyed->Nat)(xs:Array Keyed)(a b:Nat):Prop:=∀i j,a<=i->i<=j->j<b->kv rk xs i<=kv rk xs j
def Des(rk:Keyed->Nat)(xs:Array Keyed)(a b:Nat):Prop:=∀i j,a<=i->i<=j->j<b->kv rk xs j<=kv rk xs i
theorem qC_{rk:Keyed->Nat}{xs:Array Keyed}{i:Nat}{p:Keyed}(h:xs[i]?=some p):kv rk xs i=rk p:=by unfold kv;rw[h]
theorem zi_{rk:Keyed->Nat}{xs ys:Array Keyed}{i j:Nat}(h:xs[i]?=ys[j]?):kv rk xs i=kv rk ys j:=by unfold kv;rw[h]
structure Nx(lo:Nat)(st st':SortSt):Prop where
 kind:kindOf st'=kindOf st
 failed:failedOf st'=failedOf st
 pend:pendingOf st'=pendingOf st
 perm:(arrOf st').Perm (arrOf st)
 below:∀k:Nat,k<lo->(arrOf st')[k]?=(arrOf st)[k]?
theorem Nx.refl(lo:Nat)(st:SortSt):Nx lo st st:=⟨rfl,rfl,rfl,Array.Perm.refl _,λ_ _=>rfl⟩
theorem Nx.trans{lo:Nat}{a b c:SortSt}(h:Nx lo a b)(q:Nx lo b c):Nx lo a c:=⟨q.kind.trans h.kind,q.failed.trans h.failed,q.pend.trans h.pend,q.perm.trans h.perm,λk hk=>(q.below k hk).trans (h.below k hk)⟩
theorem Nx.size{lo:Nat}{a b:SortSt}(h:Nx lo a b):(arrOf b).size=(arrOf a).size:=h.perm.size_eq
theorem jG_{rk:Keyed->Nat}{xs:Array Keyed}{i j:Nat}(hj:j<=xs.size)(k:Nat):kv rk (mirror xs i j ((j-i) / 2)) k=if i<=k/\k<j then kv rk xs (i+j-1-k) else kv rk xs k:=by
 have e:=getElem?_mirror_all (i:=i) hj k
 split
 ·rename_i h;rw[if_pos h]at e;exact zi_ e
 ·rename_i h;rw[if_neg h]at e;exact zi_ e
theorem vS_{rk:Keyed->Nat}{xs:Array Keyed}{src d:Nat}(hs:src<xs.size)(hd:d<=src)(k:Nat) :
  kv rk (bubble xs src d) k=if k=src-d then kv rk xs src else if src-d<k/\k<=src then kv rk xs (k-1) else kv rk xs k:=by
 have e:=getElem?_bubble hs d hd k
 split
 ·rename_i h;rw[if_pos h]at e;exact zi_ e
 ·rename_i h
  rw[if_neg h]at e
  split
  ·rename_i h2;rw[if_pos h2]at e;exact zi_ e
  ·rename_i h2;rw[if_neg h2]at e;exact zi_ e
theorem xj_{lo i j:Nat}{st:SortSt}(hi:lo<=i)(hj:j<=(arrOf st).size):Nx lo st (setArr st (mirror (arrOf st) i j ((j-i) / 2))) :=
 ⟨rfl,rfl,rfl,mirror_perm _ _ _ _,λk hk=>by
  have e:=getElem?_mirror_all (xs:=arrOf st) (i:=i) hj k
  rw[if_neg (by lia)]at e
  exact e⟩
theorem afk_{lo src d:Nat}{st:SortSt}(hi:lo<=src-d)(hs:src<(arrOf st).size)(hd:d<=src):Nx lo st (setArr st (bubble (arrOf st) src d)) :=
 ⟨rfl,rfl,rfl,bubble_perm _ _ _,λk hk=>by
  have e:=getElem?_bubble (xs:=arrOf st) hs d hd k
  rw[if_neg (by lia),if_neg (by lia)]at e
  exact e⟩
section
variable{prog:Program}{w:World}{A:Around}{E:Value->Shared->Prop}{s:Shared}{κ:SortKind}{M:Keyed->Prop}{rk:Keyed->Nat}
def Ask(prog:Program)(w:World)(A:Around)(s:Shared)(κ:SortKind)(M:Keyed->Prop)(rk:Keyed->Nat):Prop :=
 ∀x y,M x->M y->∀Q:Bool->Shared->Prop,Q (decide (rk x<rk y)) s->wpAny (model prog w) A (keyLt' κ x.1 y.1) Q (λ_ _=>False) s
theorem x1_(h:Ask prog w A s κ M rk){x y:Keyed}{st:SortSt}{Q:Option Bool->SortSt->Prop}(hk:kindOf st=κ)(hx:M x)(hy:M y)(q:Q (some (decide (rk x<rk y))) st) :
  wpS (model prog w) A E s (lt' x y) Q st:=by
 rw[lt'_eq]
 refine wpS_bind (wpS_get ?_)
 rw[hk]
 refine wpS_bind (wpS_lift (wpAny_attempt (wpAny_mono (h x y hx hy (λb s'=>s'=s/\b=decide (rk x<rk y)) ⟨rfl,rfl⟩) (λb s' hb=>?_) λ_ _ z=>z.elim)))
 obtain⟨h1,rfl⟩:=hb
 exact⟨h1,wpS_pure q⟩
theorem qG_{arr:Array Keyed}{i:Nat}{p:Keyed}{st:SortSt}{Q:Keyed->SortSt->Prop}(h:arr[i]?=some p)(q:Q p st):wpS (model prog w) A E s (elem' arr i) Q st:=by
 rw[elem'_eq,h]
 exact wpS_pure q
def All(M:Keyed->Prop)(xs:Array Keyed):Prop:=∀(i:Nat) p,xs[i]?=some p->M p
theorem All.perm{xs ys:Array Keyed}(h:All M xs)(p:ys.Perm xs):All M ys:=λi x e=>by
 have hm:x∈xs:=p.mem_iff.mp (EW e)
 obtain⟨j,hj,ej⟩:=Array.getElem_of_mem hm
 exact h j x (by rw[AJ hj,ej])
theorem xa_(h:Ask prog w A s κ M rk){i j:Nat}{st:SortSt}{Q:Option Bool->SortSt->Prop}(hk:kindOf st=κ)(ha:All M (arrOf st))(hi:i<(arrOf st).size)(hj:j<(arrOf st).size)
  (q:Q (some (decide (kv rk (arrOf st) i<kv rk (arrOf st) j))) st):wpS (model prog w) A E s (ltAt' i j) Q st:=by
 have ei:(arrOf st)[i]?=some (arrOf st)[i]:=AJ hi
 have ej:(arrOf st)[j]?=some (arrOf st)[j]:=AJ hj
 rw[ltAt'_eq]
 refine wpS_bind (wpS_get ?_)
 refine wpS_bind (qG_ ei (wpS_bind (qG_ ej (x1_ h hk (ha _ _ ei) (ha _ _ ej) ?_))))
 rw[qC_ ei,qC_ ej]at q
 exact q
theorem amm_(h:Ask prog w A s κ M rk){lo nrem:Nat}{st:SortSt}{Q:Option Nat->SortSt->Prop}(hk:kindOf st=κ)(ha:All M (arrOf st))(hn:1<=nrem)(hz:lo+nrem<=(arrOf st).size)
  (q:∀n st',Nx lo st st'->1<=n->n<=nrem->Srt rk (arrOf st') lo (lo+n)->Q (some n) st'):wpS (model prog w) A E s (countRun' lo nrem) Q st:=by
 rw[countRun'_eq]
 have asc:∀(st1:SortSt)(a:Nat)(R:Option (Option Nat)×Nat->SortSt->Prop),Nx lo st st1->1<=a->a<=nrem->Srt rk (arrOf st1) lo (lo+a) ->
   (∀n,a<=n->n<=nrem->Srt rk (arrOf st1) lo (lo+n)->(n=nrem∨kv rk (arrOf st1) (lo+n)<kv rk (arrOf st1) (lo+n-1))->R (none,n) st1) ->
   wpS (model prog w) A E s (forIn [a:nrem] ((none,a):Option (Option Nat)×Nat) λ_ r=>do
    let x <-ltAt' (lo+r.2) (lo+r.2-1)
    match x with
    |some c=>if c=true then pure (ForInStep.done (none,r.2)) else pure (ForInStep.yield (none,r.2+1))
    |_=>pure (ForInStep.done (some none,r.2))) R st1:=by
  intro st1 a R n1 ha1 han hs hR
  refine wpS_forRange (I:=λx c st'=>st'=st1/\c=(none,x)/\Srt rk (arrOf st1) lo (lo+x)) ?step ?fin ⟨rfl,rfl,hs⟩
  case fin =>
   rintro c st' ⟨rfl,rfl,hs'⟩
   rw[show max a nrem=nrem by lia]at hs' ⊢
   exact hR nrem han (AH _) hs' (.inl rfl)
  case step =>
   rintro x c st' hax hxn ⟨rfl,rfl,hs'⟩
   dsimp only
   have hsz:=n1.size
   refine wpS_bind (xa_ h (n1.kind.trans hk) (ha.perm n1.perm) (by lia) (by lia) ?_)
   by_cases hl:kv rk (arrOf st') (lo+x)<kv rk (arrOf st') (lo+x-1)
   ·simp only[hl,decide_true,if_true]
    exact wpS_pure (hR x hax (by lia) hs' (.inr hl))
   ·simp only[hl,decide_false,Au,if_false]
    refine wpS_pure ⟨rfl,rfl,λi j hi hij hj=>?_⟩
    by_cases hjx:j<lo+x
    ·exact hs' i j hi hij hjx
    ·have ej:j=lo+x:=by lia
     subst ej
     by_cases hi':i=lo+x
     ·subst hi';exact AH _
     ·have:=hs' i (lo+x-1) hi (by lia) (by lia)
      lia
 have one:Srt rk (arrOf st) lo (lo+1):=λi j h1 h2 h3=>by
  have e:i=j:=by lia
  subst e
  exact AH _
 refine wpS_bind (asc st 1 _ (Nx.refl _ _) (AH _) hn one λn hn1 hn2 hs hnd=>?_)
 dsimp only
 by_cases hnn:n=nrem
 ·subst hnn
  rw[if_pos (by simp)]
  exact wpS_pure (q n st (Nx.refl _ _) hn1 (AH _) hs)
 rw[if_neg (by simpa using hnn)]
 have hlt:kv rk (arrOf st) (lo+n)<kv rk (arrOf st) (lo+n-1):=hnd.resolve_left hnn
 have key:∀K:StateT SortSt Sem (Option Nat),(∀st1,Nx lo st st1->Des rk (arrOf st1) lo (lo+n+1)->wpS (model prog w) A E s K Q st1) ->
   wpS (model prog w) A E s (if n>1 then do
    let x <-ltAt' lo (lo+n-1)
    match x with
    |some c=>if c=true then pure (some n) else do
     reverseSlice' lo (lo+n)
     K
    |_=>pure none
   else K) Q st:=by
  intro K hK
  by_cases h1:n>1
  ·rw[if_pos h1]
   refine wpS_bind (xa_ h hk ha (by lia) (by lia) ?_)
   by_cases hl:kv rk (arrOf st) lo<kv rk (arrOf st) (lo+n-1)
   ·simp only[hl,decide_true,if_true]
    exact wpS_pure (q n st (Nx.refl _ _) hn1 hn2 hs)
   ·simp only[hl,decide_false,Au,if_false]
    refine wpS_bind (wpS_reverse (hK _ (xj_ (AH _) (by lia)) ?_))
    have alike:∀k,lo<=k->k<lo+n->kv rk (arrOf st) k=kv rk (arrOf st) lo:=λk h2 h3=>by
     have e1:=hs lo k (AH _) h2 h3
     have e2:=hs k (lo+n-1) h2 (by lia) (by lia)
     lia
    have same:∀k,kv rk (mirror (arrOf st) lo (lo+n) ((lo+n-lo) / 2)) k=kv rk (arrOf st) k:=λk=>by
     rw[jG_ (by lia)]
     split
     ·rw[alike _ (by lia) (by lia),alike k (by lia) (by lia)]
     ·rfl
    intro i j hi hij hj
    show kv rk (mirror (arrOf st) lo (lo+n) ((lo+n-lo) / 2)) j<=kv rk (mirror (arrOf st) lo (lo+n) ((lo+n-lo) / 2)) i
    rw[same,same]
    by_cases hj':j<lo+n
    ·rw[alike j (by lia) hj',alike i hi (by lia)];exact AH _
    ·have ej:j=lo+n:=by lia
     subst ej
     by_cases hi':i<lo+n
     ·have e1:=alike i hi hi'
      have e2:=alike (lo+n-1) (by lia) (by lia)
      lia
     ·have ei:i=lo+n:=by lia
      subst ei;exact AH _
  ·rw[if_neg h1]
   have en:n=1:=by lia
   subst en
   refine hK st (Nx.refl _ _) λi j hi hij hj=>?_
   by_cases e:i=j
   ·subst e;exact AH _
   ·have e1:i=lo:=by lia
    have e2:j=lo+1:=by lia
    subst e1 e2
    exact BX hlt
 refine key _ λst1 n1 hd=>?_
 have sz1:=n1.size
 refine wpS_bind (wpS_lift (wpAny_rule ⟨rfl,?_⟩))
 refine wpS_bind (wpS_mono (wpS_forRange (I:=λx c st'=>∃neq,c=(none,x,neq)/\Nx lo st st'/\Des rk (arrOf st') lo (lo+x)/\neq+1<=x/\(∀i,lo+x-(neq+1)<=i->i<lo+x->kv rk (arrOf st') i=kv rk (arrOf st') (lo+x-1)))
  (Q:=λc st'=>∃x neq,c=(none,x,neq)/\n+1<=x/\x<=nrem/\Nx lo st st'/\Des rk (arrOf st') lo (lo+x)/\neq+1<=x/\(∀i,lo+x-(neq+1)<=i->i<lo+x->kv rk (arrOf st') i=kv rk (arrOf st') (lo+x-1)))
  ?step ?fin ⟨0,rfl,n1,hd,by lia,λi h1 h2=>by congr 1;lia⟩) ?post)
 case fin =>
  rintro c st' ⟨neq,rfl,n',hd',hq,he⟩
  rw[show max (n+1) nrem=nrem by lia]at hd' hq he ⊢
  exact⟨nrem,neq,rfl,by lia,AH _,n',hd',hq,he⟩
 case step =>
  rintro x c st' hax hxn ⟨neq,rfl,n',hd',hq,he⟩
  dsimp only
  have sz':=n'.size
  have grow:∀st2,Nx lo st st2->(∀k,kv rk (arrOf st2) k=kv rk (arrOf st') k)->kv rk (arrOf st') (lo+x)<=kv rk (arrOf st') (lo+x-1)->Des rk (arrOf st2) lo (lo+(x+1)):=by
   intro st2 _ e hle i j hi hij hj
   rw[e,e]
   by_cases hjx:j<lo+x
   ·exact hd' i j hi hij hjx
   ·have ej:j=lo+x:=by lia
    subst ej
    by_cases hi':i=lo+x
    ·subst hi';exact AH _
    ·have:=hd' i (lo+x-1) hi (by lia) (by lia)
     lia
  refine wpS_bind (xa_ h (n'.kind.trans hk) (ha.perm n'.perm) (by lia) (by lia) ?_)
  by_cases hl:kv rk (arrOf st') (lo+x)<kv rk (arrOf st') (lo+x-1)
  ·simp only[hl,decide_true,if_true]
   by_cases hq0:neq>0
   ·rw[if_pos hq0]
    have n2:Nx lo st' (setArr st' (mirror (arrOf st') (lo+x-(neq+1)) (lo+x) ((lo+x-(lo+x-(neq+1))) / 2))):=xj_ (by lia) (by lia)
    have same:∀k,kv rk (mirror (arrOf st') (lo+x-(neq+1)) (lo+x) ((lo+x-(lo+x-(neq+1))) / 2)) k=kv rk (arrOf st') k:=λk=>by
     rw[jG_ (by lia)]
     split
     ·rw[he _ (by lia) (by lia),he k (by lia) (by lia)]
     ·rfl
    refine wpS_bind (wpS_reverse (wpS_pure ⟨0,rfl,n'.trans n2,grow _ (n'.trans n2) same (BX hl),by lia,λi h1 h2=>by congr 1;lia⟩))
   ·rw[if_neg hq0]
    exact wpS_pure ⟨0,rfl,n',grow _ n' (λ_=>rfl) (BX hl),by lia,λi h1 h2=>by congr 1;lia⟩
  ·simp only[hl,decide_false,Au,if_false]
   refine wpS_bind (xa_ h (n'.kind.trans hk) (ha.perm n'.perm) (by lia) (by lia) ?_)
   by_cases hl2:kv rk (arrOf st') (lo+x-1)<kv rk (arrOf st') (lo+x)
   ·simp only[hl2,decide_true,if_true]
    exact wpS_pure ⟨x,neq,rfl,hax,by lia,n',hd',hq,he⟩
   ·simp only[hl2,decide_false,Au,if_false]
    refine wpS_pure ⟨neq+1,rfl,n',grow _ n' (λ_=>rfl) (by lia),by lia,λi h1 h2=>?_⟩
    rw[show lo+(x+1)-1=lo+x by lia]
    by_cases hi':i=lo+x
    ·subst hi';rfl
    ·rw[he i (by lia) (by lia)];lia
 case post =>
  rintro c st' ⟨x,neq,rfl,hx1,hx2,n',hd',hq,he⟩
  dsimp only
  have sz':=n'.size
  have last:∀(K:Option (Option Nat)×Nat->StateT SortSt Sem (Option Nat)),(∀m,K (none,m)=pure (some m))->∀st2,Nx lo st st2->Des rk (arrOf st2) lo (lo+x)->wpS (model prog w) A E s (do
    reverseSlice' lo (lo+x)
    let r <-forIn [x:nrem] ((none,x):Option (Option Nat)×Nat) λ_ r=>do
     let x <-ltAt' (lo+r.2) (lo+r.2-1)
     match x with
     |some c=>if c=true then pure (ForInStep.done (none,r.2)) else pure (ForInStep.yield (none,r.2+1))
     |_=>pure (ForInStep.done (some none,r.2))
    K r) Q st2:=by
   intro K hK st2 n2 hd2
   have sz2:=n2.size
   refine wpS_bind (wpS_reverse ?_)
   have n3:Nx lo st2 (setArr st2 (mirror (arrOf st2) lo (lo+x) ((lo+x-lo) / 2))):=xj_ (AH _) (by lia)
   refine wpS_bind (asc _ x _ (n2.trans n3) (by lia) hx2 ?_ λm hm1 hm2 hs _=>?_)
   ·intro i j hi hij hj
    show kv rk (mirror (arrOf st2) lo (lo+x) ((lo+x-lo) / 2)) i<=kv rk (mirror (arrOf st2) lo (lo+x) ((lo+x-lo) / 2)) j
    rw[jG_ (by lia),jG_ (by lia),if_pos (by lia),if_pos (by lia)]
    exact hd2 _ _ (by lia) (by lia) (by lia)
   ·rw[hK];exact wpS_pure (q m _ (n2.trans n3) (by lia) hm2 hs)
  by_cases hq0:neq>0
  ·rw[if_pos hq0]
   have n2:Nx lo st' (setArr st' (mirror (arrOf st') (lo+x-(neq+1)) (lo+x) ((lo+x-(lo+x-(neq+1))) / 2))):=xj_ (by lia) (by lia)
   have same:∀k,kv rk (mirror (arrOf st') (lo+x-(neq+1)) (lo+x) ((lo+x-(lo+x-(neq+1))) / 2)) k=kv rk (arrOf st') k:=λk=>by
    rw[jG_ (by lia)]
    split
    ·rw[he _ (by lia) (by lia),he k (by lia) (by lia)]
    ·rfl
   refine wpS_bind (wpS_reverse (last _ (λ_=>rfl) _ (n'.trans n2) λi j hi hij hj=>?_))
   show kv rk (mirror _ _ _ _) j<=kv rk (mirror _ _ _ _) i
   rw[same,same]
   exact hd' i j hi hij hj
  ·rw[if_neg hq0]
   exact last _ (λ_=>rfl) st' n' hd'
theorem ak2_(h:Ask prog w A s κ M rk){lo n ok:Nat}{st:SortSt}{Q:Bool->SortSt->Prop}(hk:kindOf st=κ)(ha:All M (arrOf st))(hn:lo+n<=(arrOf st).size)(hok:ok<=n)(hs:Srt rk (arrOf st) lo (lo+ok))
  (q:∀st',Nx lo st st'->Srt rk (arrOf st') lo (lo+n)->Q true st'):wpS (model prog w) A E s (binarySort' lo n ok) Q st:=by
 rw[binarySort'_eq]
 refine wpS_bind (wpS_mono (wpS_forRange (I:=λk c st'=>c=(none,())/\Nx lo st st'/\Srt rk (arrOf st') lo (lo+min k n))
  (Q:=λc st'=>c=(none,())/\Nx lo st st'/\Srt rk (arrOf st') lo (lo+n)) ?step ?fin ?init) ?post)
 case post =>
  rintro c st' ⟨rfl,n',hs'⟩
  exact wpS_pure (q st' n' hs')
 case init =>
  refine⟨rfl,Nx.refl _ _,λi j hi hij hj=>?_⟩
  by_cases h1:ok=0
  ·have e:i=j:=by lia
   subst e;exact AH _
  ·exact hs i j hi hij (by lia)
 case fin =>
  rintro c st' ⟨hc,n',hs'⟩
  refine⟨hc,n',?_⟩
  rwa [show min (max (max ok 1) n) n=n by lia]at hs'
 case step =>
  rintro k c st' hak hkn ⟨rfl,n',hs'⟩
  rw[show min k n=k by lia]at hs'
  have sz':=n'.size
  refine wpS_bind (wpS_mono (wpS_forRange (I:=λx c st''=>st''=st'/\∃l r,c=(none,l,r)/\l<=r/\r<=k/\r-l<=k-x /\
    (∀i,i<l->kv rk (arrOf st') (lo+i)<=kv rk (arrOf st') (lo+k))/\(∀i,r<=i->i<k->kv rk (arrOf st') (lo+k)<kv rk (arrOf st') (lo+i)))
   (Q:=λc st''=>st''=st'/\∃l r,c=(none,l,r)/\l<=k /\
    (∀i,i<l->kv rk (arrOf st') (lo+i)<=kv rk (arrOf st') (lo+k))/\(∀i,l<=i->i<k->kv rk (arrOf st') (lo+k)<kv rk (arrOf st') (lo+i))) ?istep ?ifin ?iinit) ?ipost)
  case iinit=>exact⟨rfl,0,k,rfl,by lia,by lia,by lia,λi hi=>by lia,λi h1 h2=>by lia⟩
  case ifin =>
   rintro c st'' ⟨rfl,l,r,rfl,hlr,hrk,hm,hlo,hhi⟩
   have e:l=r:=by lia
   subst e
   exact⟨rfl,l,l,rfl,hrk,hlo,hhi⟩
  case istep =>
   rintro x c st'' _ hxk ⟨rfl,l,r,rfl,hlr,hrk,hm,hlo,hhi⟩
   dsimp only
   by_cases hge:l ≥ r
   ·rw[if_pos hge]
    have e:l=r:=by lia
    subst e
    exact wpS_pure ⟨rfl,l,l,rfl,hrk,hlo,hhi⟩
   ·rw[if_neg hge]
    refine wpS_bind (xa_ h (n'.kind.trans hk) (ha.perm n'.perm) (by lia) (by lia) ?_)
    by_cases hl:kv rk (arrOf st'') (lo+k)<kv rk (arrOf st'') (lo+(l+r) / 2)
    ·simp only[hl,decide_true,if_true]
     refine wpS_pure ⟨rfl,l,(l+r) / 2,rfl,by lia,by lia,by lia,hlo,λi h1 h2=>?_⟩
     exact AZ hl (hs' _ _ (by lia) (by lia) (by lia))
    ·simp only[hl,decide_false,Au,if_false]
     refine wpS_pure ⟨rfl,(l+r) / 2+1,r,rfl,by lia,by lia,by lia,λi h1=>?_,hhi⟩
     exact Ag (hs' (lo+i) (lo+(l+r) / 2) (by lia) (by lia) (by lia)) (Ef.mp hl)
  case ipost =>
   rintro c st'' ⟨rfl,l,r,rfl,hlk,hlo,hhi⟩
   show wpS _ _ _ _ (do moveDown' (lo+k) (lo+l);pure (ForInStep.yield (none,()))) _ _
   rw[moveDown'_eq]
   refine wpS_bind (wpS_modify (wpS_pure ⟨rfl,n'.trans (afk_ (by lia) (by lia) (by lia)),?_⟩))
   rw[show min (k+1) n=k+1 by lia]
   intro i j hi hij hj
   show kv rk (bubble (arrOf st'') (lo+k) (lo+k-(lo+l))) i<=kv rk (bubble (arrOf st'') (lo+k) (lo+k-(lo+l))) j
   rw[vS_ (by lia) (by lia),vS_ (by lia) (by lia),show lo+k-(lo+k-(lo+l))=lo+l by lia]
   have hlo':∀z,lo<=z->z<lo+l->kv rk (arrOf st'') z<=kv rk (arrOf st'') (lo+k):=λz h1 h2=>by
    have:=hlo (z-lo) (by lia)
    rwa [show lo+(z-lo)=z by lia]at this
   have hhi':∀z,lo+l<=z->z<lo+k->kv rk (arrOf st'') (lo+k)<kv rk (arrOf st'') z:=λz h1 h2=>by
    have:=hhi (z-lo) (by lia) (by lia)
    rwa [show lo+(z-lo)=z by lia]at this
   repeat' split
   all_goals first
    |(exfalso;lia)
    |exact AH _
    |exact hlo' _ (by lia) (by lia)
    |exact BX (hhi' _ (by lia) (by lia))
    |exact hs' _ _ (by lia) (by lia) (by lia)
end
end L2.Ts
namespace L2.Ts
open PySem PyProof.Rows
def xo_:Bool->Keyed->Array Keyed->Nat->Nat->Nat->StateT SortSt Sem (Option Nat):=sortPriv% PySem.Builtin.gallop
section
variable{prog:Program}{w:World}{A:Around}{E:Value->Shared->Prop}{s:Shared}{κ:SortKind}{M:Keyed->Prop}{rk:Keyed->Nat}
def Bd(rk:Keyed->Nat)(left:Bool)(key:Keyed)(arr:Array Keyed)(i:Nat):Prop:=if left=true then kv rk arr i<rk key else kv rk arr i<=rk key
theorem z8_(h:Ask prog w A s κ M rk){left:Bool}{key:Keyed}{arr:Array Keyed}{base n hint:Nat}{st:SortSt}{Q:Option Nat->SortSt->Prop}(hk:kindOf st=κ)(hM:M key)(ha:All M arr)(hz:base+n<=arr.size)(hh:hint<n)
  (hs:Srt rk arr base (base+n)) (q:∀p,p<=n->(∀i,base<=i->i<base+p->Bd rk left key arr i)->(∀i,base+p<=i->i<base+n->¬ Bd rk left key arr i)->Q (some p) st) :
  wpS (model prog w) A E s (xo_ left key arr base n hint) Q st:=by
 have mono:∀i j,base<=i->i<=j->j<base+n->Bd rk left key arr j->Bd rk left key arr i:=λi j h1 h2 h3 b=>by
  have:=hs i j h1 h2 h3
  unfold Bd at b ⊢
  cases left
  ·simp only[Au,if_false]at b ⊢;lia
  ·simp only[if_true]at b ⊢;lia
 have asks:∀(i:Nat)(R:Option Bool->SortSt->Prop),i<n->(Bd rk left key arr (base+i)->R (some true) st)->(¬ Bd rk left key arr (base+i)->R (some false) st) ->
   wpS (model prog w) A E s (do
    let x <-elem' arr (base+i)
    if left=true then lt' x key else do
     let r <-lt' key x
     pure (r.map λb=>!b)) R st:=by
  intro i R hi r1 r2
  have ei:arr[base+i]?=some arr[base+i]:=AJ (by lia)
  refine wpS_bind (qG_ ei ?_)
  have ev:=qC_ (rk:=rk) ei
  cases left
  ·rw[if_neg (by decide)]
   refine wpS_bind (x1_ h hk hM (ha _ _ ei) (wpS_pure ?_))
   by_cases c:rk key<rk arr[base+i]
   ·rw[decide_eq_true c]
    refine r2 λb=>?_
    unfold Bd at b
    rw[if_neg (by decide),ev]at b
    lia
   ·rw[decide_eq_false c]
    refine r1 ?_
    unfold Bd
    rw[if_neg (by decide),ev]
    lia
  ·rw[if_pos rfl]
   refine x1_ h hk (ha _ _ ei) hM ?_
   by_cases c:rk arr[base+i]<rk key
   ·rw[decide_eq_true c]
    refine r1 ?_
    unfold Bd
    rw[if_pos rfl,ev]
    exact c
   ·rw[decide_eq_false c]
    refine r2 λb=>?_
    unfold Bd at b
    rw[if_pos rfl,ev]at b
    exact c b
 have srch:∀(K:Option (Option Nat)×Nat×Nat->StateT SortSt Sem (Option Nat)),(∀l p,K (none,l,p)=pure (some p))->∀lo hi,lo<=hi->hi<=n->(∀i,base<=i->i<base+lo->Bd rk left key arr i)->(∀i,base+hi<=i->i<base+n->¬ Bd rk left key arr i) ->
   ∀body,(∀x l p,body x (none,l,p)=if l ≥ p then pure (ForInStep.done (none,l,p)) else do
    let c <-(do
     let x <-elem' arr (base+(l+(p-l) / 2))
     if left=true then lt' x key else do
      let r <-lt' key x
      pure (r.map λb=>!b))
    match c with
    |some more=>if more=true then pure (ForInStep.yield (none,l+(p-l) / 2+1,p)) else pure (ForInStep.yield (none,l,l+(p-l) / 2))
    |_=>pure (ForInStep.done (some none,l,p))) ->
   wpS (model prog w) A E s (do let r <-forIn [0:n] ((none,lo,hi):Option (Option Nat)×Nat×Nat) body;K r) Q st:=by
  intro K hK lo hi hlh hhn h1 h2 body hb
  refine wpS_bind (wpS_forRange (I:=λx c st'=>st'=st/\∃l p,c=(none,l,p)/\l<=p/\p<=n/\p-l<=n-x/\(∀i,base<=i->i<base+l->Bd rk left key arr i)/\(∀i,base+p<=i->i<base+n->¬ Bd rk left key arr i)) ?step ?fin ⟨rfl,lo,hi,rfl,hlh,hhn,by lia,h1,h2⟩)
  case fin =>
   rintro c st' ⟨rfl,l,p,rfl,a1,a2,a3,a4,a5⟩
   have e:l=p:=by lia
   subst e
   rw[hK]
   exact wpS_pure (q l a2 a4 a5)
  case step =>
   rintro x c st' _ hx ⟨rfl,l,p,rfl,a1,a2,a3,a4,a5⟩
   rw[hb]
   by_cases c:l ≥ p
   ·rw[if_pos c]
    have e:l=p:=by lia
    subst e
    refine wpS_pure ?_
    show wpS _ _ _ _ (K (none,l,l)) Q st'
    rw[hK]
    exact wpS_pure (q l a2 a4 a5)
   ·rw[if_neg c]
    refine wpS_bind (asks _ _ (by lia) (λb=>?_) λb=>?_)
    ·refine wpS_pure ⟨rfl,l+(p-l) / 2+1,p,rfl,by lia,a2,by lia,λi i1 i2=>?_,a5⟩
     exact mono i _ i1 (by lia) (by lia) b
    ·refine wpS_pure ⟨rfl,l,l+(p-l) / 2,rfl,by lia,by lia,by lia,a4,λi i1 i2=>?_⟩
     exact λbi=>b (mono _ i (by lia) i1 i2 bi)
 refine wpS_bind (asks hint _ hh (λb=>?_) λb=>?_)
 ·dsimp only
  rw[if_pos rfl]
  refine wpS_bind (wpS_mono (wpS_forRange (I:=λx c st'=>st'=st/\∃l p,c=(none,l,p)/\l<p/\x<p/\l<n-hint/\Bd rk left key arr (base+(hint+l)))
   (Q:=λc st'=>st'=st/\∃l p,c=(none,l,p)/\l<p/\l<n-hint/\Bd rk left key arr (base+(hint+l))/\(n-hint<=p∨(p<n-hint/\¬ Bd rk left key arr (base+(hint+p))))) ?step ?fin ⟨rfl,0,1,rfl,by lia,by lia,by lia,b⟩) ?post)
  case fin =>
   rintro c st' ⟨rfl,l,p,rfl,a1,a2,a3,a4⟩
   exact⟨rfl,l,p,rfl,a1,a3,a4,.inl (by lia)⟩
  case step =>
   rintro x c st' _ hx ⟨rfl,l,p,rfl,a1,a2,a3,a4⟩
   dsimp only
   by_cases c:p ≥ n-hint
   ·rw[if_pos c]
    exact wpS_pure ⟨rfl,l,p,rfl,a1,a3,a4,.inl c⟩
   ·rw[if_neg c]
    refine wpS_bind (asks _ _ (by lia) (λb=>?_) λb=>?_)
    ·exact wpS_pure ⟨rfl,p,2*p+1,rfl,by lia,by lia,by lia,b⟩
    ·exact wpS_pure ⟨rfl,l,p,rfl,a1,a3,a4,.inr ⟨by lia,b⟩⟩
  case post =>
   rintro c st' ⟨rfl,l,p,rfl,a1,a2,a3,a4⟩
   dsimp only
   refine srch _ (λ_ _=>rfl) _ _ ?_ ?_ (λi i1 i2=>mono i _ i1 (by lia) (by lia) a3) (λi i1 i2 bi=>?_) _ λx l p=>rfl
   ·lia
   ·lia
   ·rcases a4 with a4|⟨a4,a5⟩
    ·lia
    ·exact a5 (mono _ i (by lia) (by lia) i2 bi)
 ·dsimp only
  rw[if_neg (by decide)]
  refine wpS_bind (wpS_mono (wpS_forRange (I:=λx c st'=>st'=st/\∃l p,c=(none,l,p)/\l<p/\x<p/\l<hint+1/\¬ Bd rk left key arr (base+(hint-l)))
   (Q:=λc st'=>st'=st/\∃l p,c=(none,l,p)/\l<p/\l<hint+1/\¬ Bd rk left key arr (base+(hint-l))/\(hint+1<=p∨(p<hint+1/\Bd rk left key arr (base+(hint-p))))) ?step ?fin ⟨rfl,0,1,rfl,by lia,by lia,by lia,b⟩) ?post)
  case fin =>
   rintro c st' ⟨rfl,l,p,rfl,a1,a2,a3,a4⟩
   exact⟨rfl,l,p,rfl,a1,a3,a4,.inl (by lia)⟩
  case step =>
   rintro x c st' _ hx ⟨rfl,l,p,rfl,a1,a2,a3,a4⟩
   dsimp only
   by_cases c:p ≥ hint+1
   ·rw[if_pos c]
    exact wpS_pure ⟨rfl,l,p,rfl,a1,a3,a4,.inl c⟩
   ·rw[if_neg c]
    refine wpS_bind (asks _ _ (by lia) (λb=>?_) λb=>?_)
    ·exact wpS_pure ⟨rfl,l,p,rfl,a1,a3,a4,.inr ⟨by lia,b⟩⟩
    ·exact wpS_pure ⟨rfl,p,2*p+1,rfl,by lia,by lia,by lia,b⟩
  case post =>
   rintro c st' ⟨rfl,l,p,rfl,a1,a2,a3,a4⟩
   dsimp only
   refine srch _ (λ_ _=>rfl) _ _ ?_ ?_ (λi i1 i2=>?_) (λi i1 i2 bi=>a3 (mono _ i (by lia) (by lia) i2 bi)) _ λx l p=>rfl
   ·lia
   ·lia
   ·rcases a4 with a4|⟨a4,a5⟩
    ·lia
    ·exact mono i _ i1 (by lia) (by lia) a5
end
end L2.Ts
namespace L2.Ts
open PySem PyProof.Rows
abbrev Up(rk:Keyed->Nat)(l:List Keyed):Prop:=l.Pairwise λx y=>rk x<=rk y
structure J(rk:Keyed->Nat)(la lb o:List Keyed)(ia ib:Nat):Prop where
 ha:ia<=la.length
 hb:ib<=lb.length
 perm:o.Perm (la.take ia++lb.take ib)
 srt:Up rk o
 ua:∀x∈o,∀y∈la.drop ia,rk x<=rk y
 ub:∀x∈o,∀y∈lb.drop ib,rk x<=rk y
def Good(rk:Keyed->Nat)(la lb r:List Keyed):Prop:=r.Perm (la++lb)/\Up rk r
variable{rk:Keyed->Nat}{la lb o:List Keyed}{ia ib na nb k:Nat}
theorem zU_{α:Type}(l:List α)(i k:Nat):l.drop i=(l.drop i).take k++l.drop (i+k):=by
 rw[<-List.drop_drop]
 exact(Ba k (l.drop i)).symm
theorem jI_{α:Type}(l:List α)(i k:Nat):l.take (i+k)=l.take i++(l.drop i).take k:=List.take_add
theorem Up.drop{l:List Keyed}(h:Up rk l)(i:Nat):Up rk (l.drop i):=h.sublist (List.drop_sublist i l)
theorem Up.take{l:List Keyed}(h:Up rk l)(i:Nat):Up rk (l.take i):=h.sublist (Dq i l)
theorem Up.app{l m:List Keyed}(h:Up rk l)(q:Up rk m)(c:∀x∈l,∀y∈m,rk x<=rk y):Up rk (l++m):=CO.mpr ⟨h,q,c⟩
theorem J.a(j:J rk la lb o ia ib)(sa:Up rk la)(hk:ia+k<=la.length)(h:∀x∈(la.drop ia).take k,∀y∈lb.drop ib,rk x<=rk y):J rk la lb (o++(la.drop ia).take k) (ia+k) ib:=by
 have sd:=zU_ la ia k
 have up:=sa.drop ia
 rw[sd]at up
 have cr:=(CO.mp up).2.2
 refine⟨hk,j.hb,?_,j.srt.app ((sa.drop ia).take k) λx hx y hy=>j.ua x hx y (BF hy),λx hx y hy=>?_,λx hx y hy=>?_⟩
 ·rw[jI_,AX]
  refine(BL _ j.perm).trans ?_
  rw[AX]
  exact Bb _ Bz
 ·rcases Ap.mp hx with hx|hx
  ·exact j.ua x hx y (by rw[sd];exact Ai _ hy)
  ·exact cr x hx y hy
 ·rcases Ap.mp hx with hx|hx
  ·exact j.ub x hx y hy
  ·exact h x hx y hy
theorem J.b(j:J rk la lb o ia ib)(sb:Up rk lb)(hk:ib+k<=lb.length)(h:∀x∈(lb.drop ib).take k,∀y∈la.drop ia,rk x<=rk y):J rk la lb (o++(lb.drop ib).take k) ia (ib+k):=by
 have sd:=zU_ lb ib k
 have up:=sb.drop ib
 rw[sd]at up
 have cr:=(CO.mp up).2.2
 refine⟨j.ha,hk,?_,j.srt.app ((sb.drop ib).take k) λx hx y hy=>j.ub x hx y (BF hy),λx hx y hy=>?_,λx hx y hy=>?_⟩
 ·rw[jI_,<-AX]
  exact BL _ j.perm
 ·rcases Ap.mp hx with hx|hx
  ·exact j.ua x hx y hy
  ·exact h x hx y hy
 ·rcases Ap.mp hx with hx|hx
  ·exact j.ub x hx y (by rw[sd];exact Ai _ hy)
  ·exact cr x hx y hy
theorem J.all(j:J rk la lb o ia ib):(o++la.drop ia++lb.drop ib).Perm (la++lb):=by
 have e:(la.take ia++lb.take ib++la.drop ia++lb.drop ib).Perm (la++lb):=by
  have e1:(la++lb)=(la.take ia++la.drop ia)++(lb.take ib++lb.drop ib):=by rw[Ba,Ba]
  rw[e1,AX,AX,AX]
  refine Bb _ ?_
  rw[<-AX,<-AX]
  exact BL _ Bz
 exact(BL _ (BL _ j.perm)).trans e
theorem J.done(j:J rk la lb o ia ib)(sa:Up rk la)(sb:Up rk lb)(h:ia=la.length∨ib=lb.length):Good rk la lb (o++la.drop ia++lb.drop ib):=by
 refine⟨j.all,?_⟩
 rcases h with h|h
 ·rw[h,Co,BP]
  exact j.srt.app (sb.drop ib) j.ub
 ·rw[h,Co,BP]
  exact j.srt.app (sa.drop ia) j.ua
theorem J.last(j:J rk la lb o ia ib)(sa:Up rk la)(sb:Up rk lb)(h:∀y∈lb,∀x∈la.drop ia,rk y<=rk x):Good rk la lb (o++lb.drop ib++la.drop ia):=by
 refine⟨?_,(j.srt.app (sb.drop ib) j.ub).app (sa.drop ia) λx hx y hy=>?_⟩
 ·refine List.Perm.trans ?_ j.all
  rw[AX,AX]
  exact Bb _ Bz
 ·rcases Ap.mp hx with hx|hx
  ·exact j.ua x hx y hy
  ·exact h x (B6 hx) y hy
structure J2(rk:Keyed->Nat)(la lb o:List Keyed)(na nb:Nat):Prop where
 ha:na<=la.length
 hb:nb<=lb.length
 perm:o.Perm (la.drop na++lb.drop nb)
 srt:Up rk o
 ua:∀x∈la.take na,∀y∈o,rk x<=rk y
 ub:∀x∈lb.take nb,∀y∈o,rk x<=rk y
theorem J2.a(j:J2 rk la lb o (na+k) nb)(sa:Up rk la)(h:∀x∈(la.drop na).take k,∀y∈lb.take nb,rk y<=rk x):J2 rk la lb ((la.drop na).take k++o) na nb:=by
 have sd:=jI_ la na k
 have up:=sa.take (na+k)
 rw[sd]at up
 have cr:=(CO.mp up).2.2
 have j1:=j.ha
 refine⟨by lia,j.hb,?_,((sa.drop na).take k).app j.srt λx hx y hy=>j.ua x (by rw[sd];exact Ai _ hx) y hy,λx hx y hy=>?_,λx hx y hy=>?_⟩
 ·have e:la.drop na++lb.drop nb=(la.drop na).take k++(la.drop (na+k)++lb.drop nb):=by rw[<-AX,<-zU_ la na k]
  rw[e]
  exact Bb _ j.perm
 ·rcases Ap.mp hy with hy|hy
  ·exact cr x hx y hy
  ·exact j.ua x (by rw[sd];exact Az _ hx) y hy
 ·rcases Ap.mp hy with hy|hy
  ·exact h y hy x hx
  ·exact j.ub x hx y hy
theorem J2.b(j:J2 rk la lb o na (nb+k))(sb:Up rk lb)(h:∀x∈(lb.drop nb).take k,∀y∈la.take na,rk y<=rk x):J2 rk la lb ((lb.drop nb).take k++o) na nb:=by
 have sd:=jI_ lb nb k
 have up:=sb.take (nb+k)
 rw[sd]at up
 have cr:=(CO.mp up).2.2
 have j1:=j.hb
 refine⟨j.ha,by lia,?_,((sb.drop nb).take k).app j.srt λx hx y hy=>j.ub x (by rw[sd];exact Ai _ hx) y hy,λx hx y hy=>?_,λx hx y hy=>?_⟩
 ·have e:la.drop na++lb.drop nb=la.drop na++(lb.drop nb).take k++lb.drop (nb+k):=by rw[AX,<-zU_ lb nb k]
  rw[e]
  refine(Bb _ j.perm).trans ?_
  rw[<-AX]
  exact BL _ Bz
 ·rcases Ap.mp hy with hy|hy
  ·exact h y hy x hx
  ·exact j.ua x hx y hy
 ·rcases Ap.mp hy with hy|hy
  ·exact cr x hx y hy
  ·exact j.ub x (by rw[sd];exact Az _ hx) y hy
theorem J2.all(j:J2 rk la lb o na nb):(la.take na++lb.take nb++o).Perm (la++lb):=by
 have e:(la.take na++lb.take nb++(la.drop na++lb.drop nb)).Perm (la++lb):=by
  have e1:(la++lb)=(la.take na++la.drop na)++(lb.take nb++lb.drop nb):=by rw[Ba,Ba]
  rw[e1,AX,AX]
  refine Bb _ ?_
  rw[<-AX,<-AX]
  exact BL _ Bz
 exact(Bb _ j.perm).trans e
theorem J2.done(j:J2 rk la lb o na nb)(sa:Up rk la)(sb:Up rk lb)(h:na=0∨nb=0):Good rk la lb (la.take na++lb.take nb++o):=by
 refine⟨j.all,?_⟩
 rcases h with h|h
 ·rw[h,CQ,Cc]
  exact(sb.take nb).app j.srt j.ub
 ·rw[h,CQ,BP]
  exact(sa.take na).app j.srt j.ua
theorem J2.first(j:J2 rk la lb o na nb)(sa:Up rk la)(sb:Up rk lb)(h:∀y∈lb.take nb,∀x∈la,rk y<=rk x):Good rk la lb (lb.take nb++la.take na++o):=by
 refine⟨?_,((sb.take nb).app (sa.take na) λx hx y hy=>h x hx y (BF hy)).app j.srt λx hx y hy=>?_⟩
 ·refine List.Perm.trans ?_ j.all
  exact BL _ Bz
 ·rcases Ap.mp hx with hx|hx
  ·exact j.ub x hx y hy
  ·exact j.ua x hx y hy
def agg_:Array Keyed->Array Keyed->StateT SortSt Sem (Array Keyed):=sortPriv% PySem.Builtin.mergeLo
def ahg_:Array Keyed->Array Keyed->StateT SortSt Sem (Array Keyed):=sortPriv% PySem.Builtin.mergeHi
structure Gs(st st':SortSt):Prop where
 kind:kindOf st'=kindOf st
 arr:arrOf st'=arrOf st
 pend:pendingOf st'=pendingOf st
 failed:failedOf st'=failedOf st
theorem Gs.refl(st:SortSt):Gs st st:=⟨rfl,rfl,rfl,rfl⟩
theorem Gs.trans{a b c:SortSt}(h:Gs a b)(q:Gs b c):Gs a c:=⟨q.kind.trans h.kind,q.arr.trans h.arr,q.pend.trans h.pend,q.failed.trans h.failed⟩
theorem xy_(st:SortSt)(g:Nat):Gs st (SortSt.mk' (kindOf st) (arrOf st) (pendingOf st) g (failedOf st)):=⟨rfl,rfl,rfl,rfl⟩
theorem je_{xs:Array Keyed}{i k:Nat}{x:Keyed}(h:x∈(xs.toList.drop i).take k):∃j,i<=j/\j<i+k/\j<xs.size/\kv rk xs j=rk x/\xs[j]?=some x:=by
 obtain⟨m,hm,e⟩:=CW h
 have l:=hm
 rw[An,Bf,AO]at l
 have e2:xs[i+m]?=some x:=by
  rw[List.getElem_take,List.getElem_drop]at e
  rw[<-e,<-As]
  exact AE (by rw[AO];lia)
 exact⟨i+m,by lia,by lia,by lia,qC_ e2,e2⟩
theorem z5_{xs:Array Keyed}{i:Nat}{x:Keyed}(h:x∈xs.toList.drop i):∃j,i<=j/\j<xs.size/\kv rk xs j=rk x:=by
 have h':x∈(xs.toList.drop i).take xs.size:=by
  rw[Aj (by rw[Bf,AO];lia)]
  exact h
 obtain⟨j,h1,_,h3,h4,_⟩:=je_ (rk:=rk) h'
 exact⟨j,h1,h3,h4⟩
theorem xX_{xs:Array Keyed}{i:Nat}{x:Keyed}(h:x∈xs.toList.take i):∃j,j<i/\j<xs.size/\kv rk xs j=rk x:=by
 have h':x∈(xs.toList.drop 0).take i:=by rw[Cm];exact h
 obtain⟨j,h1,h2,h3,h4,_⟩:=je_ (rk:=rk) h'
 exact⟨j,by lia,h3,h4⟩
theorem zr_{xs:Array Keyed}(h:Up rk xs.toList):Srt rk xs 0 xs.size:=λi j _ hij hj=>by
 by_cases e:i=j
 ·subst e;exact AH _
 ·have q:=BV.mp h i j (by rw[AO];lia) (by rw[AO];lia) (by lia)
  have ei:xs[i]?=some xs[i]:=AJ (by lia)
  have ej:xs[j]?=some xs[j]:=AJ (by lia)
  rw[qC_ ei,qC_ ej]
  simpa using q
theorem afm_{xs:Array Keyed}{i k:Nat}(h:Srt rk xs i (i+k))(hz:i+k<=xs.size):Up rk (xs.toList.drop i |>.take k):=by
 refine BV.mpr λp q hp hq hpq=>?_
 have l:=hq
 rw[An,Bf,AO]at l
 have ep:xs[i+p]?=some xs[i+p]:=AJ (by lia)
 have eq:xs[i+q]?=some xs[i+q]:=AJ (by lia)
 have r:=h (i+p) (i+q) (by lia) (by lia) (by lia)
 rw[qC_ ep,qC_ eq]at r
 simpa [List.getElem_take,List.getElem_drop]using r
theorem jb_{xs:Array Keyed}{i:Nat}{x:Keyed}(h:xs[i]?=some x):(xs.toList.drop i).take 1=[x]:=by
 obtain⟨hi,e⟩:=BK.mp h
 have hl:i<xs.toList.length:=by rw[AO];exact hi
 rw[B3 hl,CY,CQ]
 rw[Array.getElem_toList,e]
theorem zb_(xs:Array Keyed)(i j:Nat):(xs.extract i j).toList=(xs.toList.drop i).take (j-i):=by
 rw[Array.toList_extract,List.extract_eq_drop_take]
theorem yd_(xs:Array Keyed)(i:Nat):(xs.extract i xs.size).toList=xs.toList.drop i:=by
 rw[zb_,Aj (by rw[Bf,AO];lia)]
theorem y4_(xs:Array Keyed)(i:Nat):(xs.extract 0 i).toList=xs.toList.take i:=by
 rw[zb_,Cm,En]
section
variable{prog:Program}{w:World}{A:Around}{E:Value->Shared->Prop}{s:Shared}{κ:SortKind}{M:Keyed->Prop}
theorem ye_{σ α:Type}{c:Prop}[Decidable c]{x y:StateT σ Sem α}{Q:α->σ->Prop}{st:σ}(h1:c->wpS (model prog w) A E s x Q st)(h2:¬ c->wpS (model prog w) A E s y Q st):wpS (model prog w) A E s (if c then x else y) Q st:=by
 by_cases h:c
 ·rw[if_pos h];exact h1 h
 ·rw[if_neg h];exact h2 h
abbrev LoC:=Option (Array Keyed)×Array Keyed×Nat×Nat×Nat×Nat×Nat
def l3(a b:Array Keyed)(out:Array Keyed)(ia ib g ac bc:Nat):StateT SortSt Sem (ForInStep LoC):=do
 let x <-elem' a ia
 if (ia+1+1==a.size)=true then pure (.done (some (out.push x++b.extract ib b.size++a.extract (ia+1) a.size),out.push x,ia+1,ib,g,ac,bc))
 else if (decide (ac<7)&&decide (bc<7))=true then pure (.done (none,out.push x,ia+1,ib,g,ac,bc))
 else pure (.yield (none,out.push x,ia+1,ib,g,ac,bc))
def l2(a b:Array Keyed)(out:Array Keyed)(ia ib g ac bc0:Nat):StateT SortSt Sem (ForInStep LoC):=do
 let x <-elem' b ib
 if (ib+1==b.size)=true then pure (.done (some (out.push x++a.extract ia a.size++b.extract (ib+1) b.size),out.push x,ia,ib+1,g,ac,bc0))
 else do
  let y <-elem' a ia
  let r <-xo_ true y b (ib+1) (b.size-(ib+1)) 0
  match r with
  |some k =>
   if k>0 then
    if (ib+1+k==b.size)=true then pure (.done (some (out.push x++b.extract (ib+1) (ib+1+k)++a.extract ia a.size++b.extract (ib+1+k) b.size),out.push x++b.extract (ib+1) (ib+1+k),ia,ib+1+k,g,ac,k))
    else l3 a b (out.push x++b.extract (ib+1) (ib+1+k)) ia (ib+1+k) g ac k
   else l3 a b (out.push x) ia (ib+1) g ac k
  |_=>pure (.done (some (out.push x++a.extract ia a.size++b.extract (ib+1) b.size),out.push x,ia,ib+1,g,ac,bc0))
def l1(a b:Array Keyed)(out:Array Keyed)(ia ib g ac0 bc0:Nat):StateT SortSt Sem (ForInStep LoC):=do
 let y <-elem' b ib
 let r <-xo_ false y a ia (a.size-ia) 0
 match r with
 |some k =>
  if k>0 then
   if (ia+k+1==a.size)=true then pure (.done (some (out++a.extract ia (ia+k)++b.extract ib b.size++a.extract (ia+k) a.size),out++a.extract ia (ia+k),ia+k,ib,g,k,bc0))
   else if (ia+k==a.size)=true then pure (.done (some (out++a.extract ia (ia+k)++a.extract (ia+k) a.size++b.extract ib b.size),out++a.extract ia (ia+k),ia+k,ib,g,k,bc0))
   else l2 a b (out++a.extract ia (ia+k)) (ia+k) ib g k bc0
  else l2 a b out ia ib g k bc0
 |_=>pure (.done (some (out++a.extract ia a.size++b.extract ib b.size),out,ia,ib,g,ac0,bc0))
structure MPre(M:Keyed->Prop)(rk:Keyed->Nat)(a b:Array Keyed):Prop where
 ma:All M a
 mb:All M b
 sa:Up rk a.toList
 sb:Up rk b.toList
 za:0<a.size
 zb:0<b.size
 fst:kv rk b 0<kv rk a 0
 lst:∀i,i<b.size->kv rk b i<kv rk a (a.size-1)
variable{a b:Array Keyed}
theorem MPre.done(m:MPre M rk a b){out:Array Keyed}(j:J rk a.toList b.toList out.toList ia ib)(h:ia=a.size∨ib=b.size):Good rk a.toList b.toList (out++a.extract ia a.size++b.extract ib b.size).toList:=by
 rw[BE,BE,yd_,yd_]
 exact j.done m.sa m.sb (by rw[AO,AO];exact h)
theorem MPre.last(m:MPre M rk a b){out:Array Keyed}(j:J rk a.toList b.toList out.toList ia ib)(h:ia+1=a.size):Good rk a.toList b.toList (out++b.extract ib b.size++a.extract ia a.size).toList:=by
 rw[BE,BE,yd_,yd_]
 refine j.last m.sa m.sb λy hy x hx=>?_
 obtain⟨p,p1,p2,p3⟩:=z5_ (rk:=rk) (i:=0) (by rw[Cm];exact hy)
 obtain⟨r,r1,r2,r3⟩:=z5_ (rk:=rk) hx
 have e:r=a.size-1:=by lia
 have:=m.lst p p2
 rw[e]at r3
 lia
theorem MPre.pushA(m:MPre M rk a b){out:Array Keyed}{x:Keyed}(j:J rk a.toList b.toList out.toList ia ib)(hx:a[ia]?=some x)(h:∀i,ib<=i->i<b.size->kv rk a ia<=kv rk b i):J rk a.toList b.toList (out.push x).toList (ia+1) ib:=by
 obtain⟨hi,_⟩:=BK.mp hx
 have q:=j.a (k:=1) m.sa (by rw[AO];lia) (λz hz y hy=>by
  rw[jb_ hx]at hz
  rw[Am.mp hz]
  obtain⟨r,r1,r2,r3⟩:=z5_ (rk:=rk) hy
  have:=h r r1 r2
  rw[qC_ hx]at this
  lia)
 rw[jb_ hx]at q
 rw[Cj]
 exact q
theorem MPre.pushB(m:MPre M rk a b){out:Array Keyed}{x:Keyed}(j:J rk a.toList b.toList out.toList ia ib)(hx:b[ib]?=some x)(h:∀i,ia<=i->i<a.size->kv rk b ib<=kv rk a i):J rk a.toList b.toList (out.push x).toList ia (ib+1):=by
 obtain⟨hi,_⟩:=BK.mp hx
 have q:=j.b (k:=1) m.sb (by rw[AO];lia) (λz hz y hy=>by
  rw[jb_ hx]at hz
  rw[Am.mp hz]
  obtain⟨r,r1,r2,r3⟩:=z5_ (rk:=rk) hy
  have:=h r r1 r2
  rw[qC_ hx]at this
  lia)
 rw[jb_ hx]at q
 rw[Cj]
 exact q
theorem MPre.appA(m:MPre M rk a b){out:Array Keyed}(j:J rk a.toList b.toList out.toList ia ib)(hk:ia+k<=a.size)(h:∀p,ia<=p->p<ia+k->∀i,ib<=i->i<b.size->kv rk a p<=kv rk b i):J rk a.toList b.toList (out++a.extract ia (ia+k)).toList (ia+k) ib:=by
 have q:=j.a (k:=k) m.sa (by rw[AO];lia) (λz hz y hy=>by
  obtain⟨p,p1,p2,p3,p4,_⟩:=je_ (rk:=rk) hz
  obtain⟨r,r1,r2,r3⟩:=z5_ (rk:=rk) hy
  have:=h p p1 p2 r r1 r2
  lia)
 rw[BE,zb_,EA]
 exact q
theorem MPre.appB(m:MPre M rk a b){out:Array Keyed}(j:J rk a.toList b.toList out.toList ia ib)(hk:ib+k<=b.size)(h:∀p,ib<=p->p<ib+k->∀i,ia<=i->i<a.size->kv rk b p<=kv rk a i):J rk a.toList b.toList (out++b.extract ib (ib+k)).toList ia (ib+k):=by
 have q:=j.b (k:=k) m.sb (by rw[AO];lia) (λz hz y hy=>by
  obtain⟨p,p1,p2,p3,p4,_⟩:=je_ (rk:=rk) hz
  obtain⟨r,r1,r2,r3⟩:=z5_ (rk:=rk) hy
  have:=h p p1 p2 r r1 r2
  lia)
 rw[BE,zb_,EA]
 exact q
def LoR(rk:Keyed->Nat)(a b:Array Keyed)(p:Nat)(st:SortSt)(c:LoC)(st':SortSt):Prop:=Gs st st' /\
 ((∃r,c.1=some r/\Good rk a.toList b.toList r.toList)∨(c.1=none/\J rk a.toList b.toList c.2.1.toList c.2.2.1 c.2.2.2.1/\c.2.2.1+1<a.size/\c.2.2.2.1<b.size/\p<=c.2.2.1+c.2.2.2.1))
theorem aiw_(m:MPre M rk a b){out:Array Keyed}{g ac bc p:Nat}{st st':SortSt}{R:ForInStep LoC->SortSt->Prop}(gs:Gs st st')(j:J rk a.toList b.toList out.toList ia ib)(h1:ia+1<a.size)(h2:ib<b.size)(hp:p<=ia+ib)
  (h:∀i,ib<=i->i<b.size->kv rk a ia<=kv rk b i) (d:∀c,LoR rk a b p st c st'->R (.done c) st') (y:∀c,c.1=none->LoR rk a b p st c st'->R (.yield c) st'):wpS (model prog w) A E s (l3 a b out ia ib g ac bc) R st':=by
 have ea:a[ia]?=some a[ia]:=AJ (by lia)
 refine wpS_bind (qG_ ea ?_)
 have j':=m.pushA j ea h
 by_cases c:ia+1+1=a.size
 ·rw[if_pos (by simpa using c)]
  exact wpS_pure (d _ ⟨gs,.inl ⟨_,rfl,m.last j' c⟩⟩)
 ·rw[if_neg (by simpa using c)]
  have on:LoR rk a b p st (none,out.push a[ia],ia+1,ib,g,ac,bc) st':=⟨gs,.inr ⟨rfl,j',(by show ia+1+1<a.size;lia),h2,(by show p<=ia+1+ib;lia)⟩⟩
  split
  ·exact wpS_pure (d _ on)
  ·exact wpS_pure (y _ rfl on)
theorem aja_(hA:Ask prog w A s κ M rk)(m:MPre M rk a b){out:Array Keyed}{g ac bc p:Nat}{st st':SortSt}{R:ForInStep LoC->SortSt->Prop}(hk:kindOf st=κ)(gs:Gs st st')(j:J rk a.toList b.toList out.toList ia ib)(h1:ia+1<a.size)(h2:ib<b.size)(hp:p<=ia+ib)
  (h:∀i,ia<=i->i<a.size->kv rk b ib<=kv rk a i) (d:∀c,LoR rk a b p st c st'->R (.done c) st') (y:∀c,c.1=none->LoR rk a b p st c st'->R (.yield c) st'):wpS (model prog w) A E s (l2 a b out ia ib g ac bc) R st':=by
 have eb:b[ib]?=some b[ib]:=AJ h2
 have ea:a[ia]?=some a[ia]:=AJ (by lia)
 refine wpS_bind (qG_ eb ?_)
 have j':=m.pushB j eb h
 by_cases c:ib+1=b.size
 ·rw[if_pos (by simpa using c)]
  exact wpS_pure (d _ ⟨gs,.inl ⟨_,rfl,m.done j' (.inr c)⟩⟩)
 ·rw[if_neg (by simpa using c)]
  refine wpS_bind (qG_ ea (wpS_bind (z8_ hA (gs.kind.trans hk) (m.ma _ _ ea) m.mb (by lia) (by lia) (λi k a1 a2 a3=>zr_ m.sb i k (Ae _) a2 (by lia)) λk k1 k2 k3=>?_)))
  have sA:=zr_ m.sa
  have lt:∀i,ib+1<=i->i<ib+1+k->kv rk b i<kv rk a ia:=λi i1 i2=>by
   have:=k2 i i1 i2
   unfold Bd at this
   rw[if_pos rfl,<-qC_ (rk:=rk) ea]at this
   exact this
  have ge:∀i,ib+1+k<=i->i<b.size->kv rk a ia<=kv rk b i:=λi i1 i2=>by
   have:=k3 i i1 (by lia)
   unfold Bd at this
   rw[if_pos rfl,<-qC_ (rk:=rk) ea]at this
   lia
  dsimp only
  by_cases k0:k>0
  ·rw[if_pos k0]
   have j2:=m.appB (k:=k) j' (by lia) (λp p1 p2 i i1 i2=>by
    have q1:=lt p p1 p2
    have q2:=sA ia i (Ae _) i1 i2
    lia)
   by_cases c2:ib+1+k=b.size
   ·rw[if_pos (by simpa using c2)]
    exact wpS_pure (d _ ⟨gs,.inl ⟨_,rfl,m.done j2 (.inr c2)⟩⟩)
   ·rw[if_neg (by simpa using c2)]
    exact aiw_ m gs j2 h1 (by lia) (by lia) ge d y
  ·rw[if_neg k0]
   exact aiw_ m gs j' h1 (by lia) (by lia) (λi i1 i2=>ge i (by lia) i2) d y
theorem ai1_(hA:Ask prog w A s κ M rk)(m:MPre M rk a b){out:Array Keyed}{g ac bc p:Nat}{st st':SortSt}{R:ForInStep LoC->SortSt->Prop}(hk:kindOf st=κ)(gs:Gs st st')(j:J rk a.toList b.toList out.toList ia ib)(h1:ia+1<a.size)(h2:ib<b.size)(hp:p<=ia+ib)
  (d:∀c,LoR rk a b p st c st'->R (.done c) st') (y:∀c,c.1=none->LoR rk a b p st c st'->R (.yield c) st'):wpS (model prog w) A E s (l1 a b out ia ib g ac bc) R st':=by
 have eb:b[ib]?=some b[ib]:=AJ h2
 refine wpS_bind (qG_ eb (wpS_bind (z8_ hA (gs.kind.trans hk) (m.mb _ _ eb) m.ma (by lia) (by lia) (λi k a1 a2 a3=>zr_ m.sa i k (Ae _) a2 (by lia)) λk k1 k2 k3=>?_)))
 have sB:=zr_ m.sb
 have le:∀i,ia<=i->i<ia+k->kv rk a i<=kv rk b ib:=λi i1 i2=>by
  have:=k2 i i1 i2
  unfold Bd at this
  rw[if_neg (by decide),<-qC_ (rk:=rk) eb]at this
  exact this
 have gt:∀i,ia+k<=i->i<a.size->kv rk b ib<=kv rk a i:=λi i1 i2=>by
  have:=k3 i i1 (by lia)
  unfold Bd at this
  rw[if_neg (by decide),<-qC_ (rk:=rk) eb]at this
  lia
 dsimp only
 by_cases k0:k>0
 ·rw[if_pos k0]
  have j2:=m.appA (k:=k) j (by lia) (λp p1 p2 i i1 i2=>by
   have q1:=le p p1 p2
   have q2:=sB ib i (Ae _) i1 i2
   lia)
  by_cases c:ia+k+1=a.size
  ·rw[if_pos (by simpa using c)]
   exact wpS_pure (d _ ⟨gs,.inl ⟨_,rfl,m.last j2 c⟩⟩)
  rw[if_neg (by simpa using c)]
  by_cases c2:ia+k=a.size
  ·rw[if_pos (by simpa using c2)]
   exact wpS_pure (d _ ⟨gs,.inl ⟨_,rfl,m.done j2 (.inl c2)⟩⟩)
  ·rw[if_neg (by simpa using c2)]
   exact aja_ hA m hk gs j2 (by lia) h2 (by lia) gt d y
 ·rw[if_neg k0]
  exact aja_ hA m hk gs j h1 h2 hp (λi i1 i2=>gt i (by lia) i2) d y
theorem apj_(hA:Ask prog w A s κ M rk){st:SortSt}{Q:Array Keyed->SortSt->Prop}(hk:kindOf st=κ)(m:MPre M rk a b)
  (q:∀r st',Gs st st'->Good rk a.toList b.toList r.toList->Q r st'):wpS (model prog w) A E s (agg_ a b) Q st:=by
 refine wpS_bind (wpS_lift (wpAny_rule ⟨rfl,?_⟩))
 have za:=m.za
 have zb:=m.zb
 have eb0:b[0]?=some b[0]:=AJ zb
 have sA:=zr_ m.sa
 have sB:=zr_ m.sb
 have j0:J rk a.toList b.toList (#[]:Array Keyed).toList 0 0:=⟨Ae _,Ae _,by simp,List.Pairwise.nil,λx hx=>by simp at hx,λx hx=>by simp at hx⟩
 have j1:J rk a.toList b.toList (#[b[0]]:Array Keyed).toList 0 1:=m.pushB j0 eb0 λi i1 i2=>Ag (BX m.fst) (sA 0 i (Ae _) i1 i2)
 refine wpS_bind (qG_ eb0 ?_)
 by_cases c1:1=b.size
 ·rw[if_pos (by simpa using c1)]
  exact wpS_pure (q _ st (Gs.refl _) (m.done j1 (.inr c1)))
 rw[if_neg (by simpa using c1)]
 by_cases c2:0+1=a.size
 ·rw[if_pos (by simpa using c2)]
  exact wpS_pure (q _ st (Gs.refl _) (m.last j1 c2))
 rw[if_neg (by simpa using c2)]
 refine wpS_bind (wpS_get ?_)
 refine wpS_bind (wpS_mono (wpS_forRange (I:=λx c st'=>Gs st st'/\c.1=none/\J rk a.toList b.toList c.2.1.toList c.2.2.1 c.2.2.2.1/\c.2.2.1+1<a.size/\c.2.2.2.1<b.size/\x+1<=c.2.2.1+c.2.2.2.1)
  (Q:=λc st'=>Gs st st'/\∃r,c.1=some r/\Good rk a.toList b.toList r.toList) ?step ?fin ⟨Gs.refl _,rfl,j1,by show 0+1<a.size;lia,by show 1<b.size;lia,AH _⟩) ?post)
 case post =>
  rintro⟨c,rest⟩ st' ⟨gs,r,e,g⟩
  have e':c=some r:=e
  subst e'
  exact wpS_pure (q r st' gs g)
 case fin =>
  rintro⟨c,out,ia,ib,g⟩ st' ⟨gs,e,j,h1,h2,h3⟩
  exfalso
  dsimp only at h1 h2 h3
  lia
 case step =>
  rintro x ⟨c,out,ia,ib,g⟩ st' _ hx ⟨gs,e,j,h1,h2,h3⟩
  dsimp only at e j h1 h2 h3
  subst e
  refine wpS_bind (wpS_mono (wpS_forRange (I:=λy c st''=>st''=st'/\c.1=none/\J rk a.toList b.toList c.2.1.toList c.2.2.1 c.2.2.2.1/\c.2.2.1+1<a.size/\c.2.2.2.1<b.size/\x+1+min y 1<=c.2.2.1+c.2.2.2.1)
   (Q:=λc st''=>st''=st'/\((∃r,c.1=some r/\Good rk a.toList b.toList r.toList)∨(c.1=none/\J rk a.toList b.toList c.2.1.toList c.2.2.1 c.2.2.2.1/\c.2.2.1+1<a.size/\c.2.2.2.1<b.size/\x+2<=c.2.2.1+c.2.2.2.1))) ?step1 ?fin1 ⟨rfl,rfl,j,h1,h2,by show x+1+min 0 1<=ia+ib;lia⟩) ?post1)
  case fin1 =>
   rintro⟨c,out,ia,ib,ac,bc⟩ st'' ⟨e1,e,j,h1,h2,h3⟩
   refine⟨e1,.inr ⟨e,j,h1,h2,?_⟩⟩
   dsimp only at h3 ⊢
   lia
  case step1 =>
   rintro y ⟨c,out,ia,ib,ac,bc⟩ st'' _ hy ⟨e1,e,j,h1,h2,h3⟩
   subst e1
   dsimp only at e j h1 h2 h3
   subst e
   have eb:b[ib]?=some b[ib]:=AJ h2
   have ea:a[ia]?=some a[ia]:=AJ (by lia)
   refine wpS_bind (qG_ eb (wpS_bind (qG_ ea (wpS_bind (x1_ hA (gs.kind.trans hk) (m.mb _ _ eb) (m.ma _ _ ea) ?_)))))
   by_cases c:rk b[ib]<rk a[ia]
   ·rw[decide_eq_true c]
    dsimp only
    rw[if_pos rfl]
    refine wpS_bind (qG_ eb ?_)
    have j':=m.pushB j eb λi i1 i2=>by
     have q1:=sA ia i (Ae _) i1 i2
     rw[qC_ ea]at q1
     rw[qC_ eb]
     lia
    by_cases c3:ib+1=b.size
    ·rw[if_pos (by simpa using c3)]
     exact wpS_pure ⟨rfl,.inl ⟨_,rfl,m.done j' (.inr c3)⟩⟩
    rw[if_neg (by simpa using c3)]
    split
    ·exact wpS_pure ⟨rfl,.inr ⟨rfl,j',h1,by dsimp only;lia,by dsimp only;lia⟩⟩
    ·exact wpS_pure ⟨rfl,rfl,j',h1,by dsimp only;lia,by dsimp only;lia⟩
   ·rw[decide_eq_false c]
    dsimp only
    rw[if_neg (by decide)]
    refine wpS_bind (qG_ ea ?_)
    have j':=m.pushA j ea λi i1 i2=>by
     have q1:=sB ib i (Ae _) i1 i2
     rw[qC_ eb]at q1
     rw[qC_ ea]
     lia
    by_cases c3:ia+1+1=a.size
    ·rw[if_pos (by simpa using c3)]
     exact wpS_pure ⟨rfl,.inl ⟨_,rfl,m.last j' c3⟩⟩
    rw[if_neg (by simpa using c3)]
    split
    ·exact wpS_pure ⟨rfl,.inr ⟨rfl,j',by dsimp only;lia,h2,by dsimp only;lia⟩⟩
    ·exact wpS_pure ⟨rfl,rfl,j',by dsimp only;lia,h2,by dsimp only;lia⟩
  case post1 =>
   rintro⟨c,out,ia,ib,ac,bc⟩ st'' ⟨e1,h⟩
   subst e1
   rcases h with⟨r,e,g1⟩|⟨e,j,h1,h2,h3⟩
   ·have e':c=some r:=e
    subst e'
    exact wpS_pure ⟨gs,r,rfl,g1⟩
   ·dsimp only at e j h1 h2 h3
    subst e
    refine wpS_bind (wpS_lift (wpAny_rule ⟨rfl,?_⟩))
    refine wpS_bind (wpS_mono (wpS_forRange (I:=λ_ c st3=>c.1=none/\LoR rk a b (x+2) st c st3) (Q:=λc st3=>LoR rk a b (x+2) st c st3) ?step2 ?fin2 ⟨rfl,gs,.inr ⟨rfl,j,h1,h2,h3⟩⟩) ?post2)
    case fin2 =>
     rintro c st3 ⟨_,hc⟩
     exact hc
    case step2 =>
     rintro y ⟨c,out,ia,ib,g2,ac,bc⟩ st3 _ hy ⟨e,gs3,hc⟩
     have e':c=none:=e
     subst e'
     rcases hc with⟨r,er,_⟩|⟨_,j,h1,h2,h3⟩
     ·cases er
     dsimp only at j h1 h2 h3
     refine ye_ (λ_=>?_) (λ_=>?_)
     ·refine wpS_bind (wpS_modify ?_)
      exact ai1_ hA m hk (gs3.trans (xy_ st3 (g2-1))) j h1 h2 h3 (λc hc=>hc) (λc e hc=>⟨e,hc⟩)
     ·refine wpS_bind (wpS_modify ?_)
      exact ai1_ hA m hk (gs3.trans (xy_ st3 g2)) j h1 h2 h3 (λc hc=>hc) (λc e hc=>⟨e,hc⟩)
    case post2 =>
     rintro⟨c,out,ia,ib,g2,ac,bc⟩ st3 ⟨gs3,hc⟩
     rcases hc with⟨r,er,g3⟩|⟨er,j,h1,h2,h3⟩
     ·have e':c=some r:=er
      subst e'
      exact wpS_pure ⟨gs3,r,rfl,g3⟩
     ·have e':c=none:=er
      subst e'
      dsimp only at j h1 h2 h3 ⊢
      refine wpS_bind (wpS_modify (wpS_pure ⟨gs3.trans (xy_ st3 (g2+1)),rfl,j,h1,h2,by dsimp only;lia⟩))
end
end L2.Ts
namespace L2.Ts
open PySem PyProof.Rows
section
variable{rk:Keyed->Nat}{na nb k:Nat}{prog:Program}{w:World}{A:Around}{E:Value->Shared->Prop}{s:Shared}{κ:SortKind}{M:Keyed->Prop}
abbrev HiC:=Option (Array Keyed)×Nat×Nat×Array Keyed×Nat×Nat×Nat
def r3(a b:Array Keyed)(out:Array Keyed)(na nb g ac bc:Nat):StateT SortSt Sem (ForInStep HiC):=do
 let x <-elem' a (na-1)
 if (na-1==0)=true then pure (.done (some (a.extract 0 (na-1)++b.extract 0 nb++(out.push x).reverse),na-1,nb,out.push x,g,ac,bc))
 else if (decide (ac<7)&&decide (bc<7))=true then pure (.done (none,na-1,nb,out.push x,g,ac,bc))
 else pure (.yield (none,na-1,nb,out.push x,g,ac,bc))
def r2(a b:Array Keyed)(out:Array Keyed)(na nb g ac bc0:Nat):StateT SortSt Sem (ForInStep HiC):=do
 let x <-elem' b (nb-1)
 if (nb-1==1)=true then pure (.done (some (b.extract 0 (nb-1)++a.extract 0 na++(out.push x).reverse),na,nb-1,out.push x,g,ac,bc0))
 else do
  let y <-elem' a (na-1)
  let r <-xo_ true y b 0 (nb-1) (nb-1-1)
  match r with
  |some p =>
   if nb-1-p>0 then
    if (p==1)=true then pure (.done (some (b.extract 0 p++a.extract 0 na++(out.push x++(b.extract p (nb-1)).reverse).reverse),na,p,out.push x++(b.extract p (nb-1)).reverse,g,ac,nb-1-p))
    else if (p==0)=true then pure (.done (some (a.extract 0 na++b.extract 0 p++(out.push x++(b.extract p (nb-1)).reverse).reverse),na,p,out.push x++(b.extract p (nb-1)).reverse,g,ac,nb-1-p))
    else r3 a b (out.push x++(b.extract p (nb-1)).reverse) na p g ac (nb-1-p)
   else r3 a b (out.push x) na (nb-1) g ac (nb-1-p)
  |_=>pure (.done (some (a.extract 0 na++b.extract 0 (nb-1)++(out.push x).reverse),na,nb-1,out.push x,g,ac,bc0))
def r1(a b:Array Keyed)(out:Array Keyed)(na nb g ac0 bc0:Nat):StateT SortSt Sem (ForInStep HiC):=do
 let y <-elem' b (nb-1)
 let r <-xo_ false y a 0 na (na-1)
 match r with
 |some p =>
  if na-p>0 then
   if (p==0)=true then pure (.done (some (a.extract 0 p++b.extract 0 nb++(out++(a.extract p na).reverse).reverse),p,nb,out++(a.extract p na).reverse,g,na-p,bc0))
   else r2 a b (out++(a.extract p na).reverse) p nb g (na-p) bc0
  else r2 a b out na nb g (na-p) bc0
 |_=>pure (.done (some (a.extract 0 na++b.extract 0 nb++out.reverse),na,nb,out,g,ac0,bc0))
variable{a b:Array Keyed}
theorem MPre.done2(m:MPre M rk a b){out:Array Keyed}(j:J2 rk a.toList b.toList out.toList.reverse na nb)(h:na=0∨nb=0):Good rk a.toList b.toList (a.extract 0 na++b.extract 0 nb++out.reverse).toList:=by
 rw[BE,BE,y4_,y4_,B7]
 exact j.done m.sa m.sb h
theorem MPre.first2(m:MPre M rk a b){out:Array Keyed}(j:J2 rk a.toList b.toList out.toList.reverse na nb)(h:nb=1):Good rk a.toList b.toList (b.extract 0 nb++a.extract 0 na++out.reverse).toList:=by
 rw[BE,BE,y4_,y4_,B7]
 refine j.first m.sa m.sb λy hy x hx=>?_
 obtain⟨p,p1,p2,p3⟩:=xX_ (rk:=rk) hy
 obtain⟨r,r1,r2,r3⟩:=z5_ (rk:=rk) (i:=0) (by rw[Cm];exact hx)
 have e:p=0:=by lia
 have:=m.fst
 have:=zr_ m.sa 0 r (AH _) (Ae _) r2
 rw[e]at p3
 lia
theorem MPre.pushA2(m:MPre M rk a b){out:Array Keyed}{x:Keyed}(j:J2 rk a.toList b.toList out.toList.reverse na nb)(h1:0<na)(hx:a[na-1]?=some x)(h:∀i,i<nb->i<b.size->kv rk b i<=kv rk a (na-1)):J2 rk a.toList b.toList (out.push x).toList.reverse (na-1) nb:=by
 have e:na-1+1=na:=by lia
 rw[<-e]at j
 have q:=j.a (k:=1) m.sa (λz hz y hy=>by
  rw[jb_ hx]at hz
  rw[Am.mp hz]
  obtain⟨r,r1,r2,r3⟩:=xX_ (rk:=rk) hy
  have:=h r r1 r2
  rw[qC_ hx]at this
  lia)
 rw[jb_ hx]at q
 rw[Cj,Cv]
 exact q
theorem MPre.pushB2(m:MPre M rk a b){out:Array Keyed}{x:Keyed}(j:J2 rk a.toList b.toList out.toList.reverse na nb)(h1:0<nb)(hx:b[nb-1]?=some x)(h:∀i,i<na->i<a.size->kv rk a i<=kv rk b (nb-1)):J2 rk a.toList b.toList (out.push x).toList.reverse na (nb-1):=by
 have e:nb-1+1=nb:=by lia
 rw[<-e]at j
 have q:=j.b (k:=1) m.sb (λz hz y hy=>by
  rw[jb_ hx]at hz
  rw[Am.mp hz]
  obtain⟨r,r1,r2,r3⟩:=xX_ (rk:=rk) hy
  have:=h r r1 r2
  rw[qC_ hx]at this
  lia)
 rw[jb_ hx]at q
 rw[Cj,Cv]
 exact q
theorem MPre.appA2(m:MPre M rk a b){out:Array Keyed}{p:Nat}(j:J2 rk a.toList b.toList out.toList.reverse na nb)(hp:p<=na)(h:∀r,p<=r->r<na->∀i,i<nb->i<b.size->kv rk b i<=kv rk a r):J2 rk a.toList b.toList (out++(a.extract p na).reverse).toList.reverse p nb:=by
 have e:p+(na-p)=na:=by lia
 rw[<-e]at j
 have q:=j.a (k:=na-p) m.sa (λz hz y hy=>by
  obtain⟨r,r1,r2,r3,r4,_⟩:=je_ (rk:=rk) hz
  obtain⟨i,i1,i2,i3⟩:=xX_ (rk:=rk) hy
  have:=h r r1 (by lia) i i1 i2
  lia)
 rw[BE,B7,Cv,Cp,zb_]
 exact q
theorem MPre.appB2(m:MPre M rk a b){out:Array Keyed}{p:Nat}(j:J2 rk a.toList b.toList out.toList.reverse na nb)(hp:p<=nb)(h:∀r,p<=r->r<nb->∀i,i<na->i<a.size->kv rk a i<=kv rk b r):J2 rk a.toList b.toList (out++(b.extract p nb).reverse).toList.reverse na p:=by
 have e:p+(nb-p)=nb:=by lia
 rw[<-e]at j
 have q:=j.b (k:=nb-p) m.sb (λz hz y hy=>by
  obtain⟨r,r1,r2,r3,r4,_⟩:=je_ (rk:=rk) hz
  obtain⟨i,i1,i2,i3⟩:=xX_ (rk:=rk) hy
  have:=h r r1 (by lia) i i1 i2
  lia)
 rw[BE,B7,Cv,Cp,zb_]
 exact q
def HiR(rk:Keyed->Nat)(a b:Array Keyed)(p:Nat)(st:SortSt)(c:HiC)(st':SortSt):Prop:=Gs st st' /\
 ((∃r,c.1=some r/\Good rk a.toList b.toList r.toList)∨(c.1=none/\J2 rk a.toList b.toList c.2.2.2.1.toList.reverse c.2.1 c.2.2.1/\1<=c.2.1/\2<=c.2.2.1/\p+c.2.1+c.2.2.1<=a.size+b.size))
theorem J2.za(j:J2 rk a.toList b.toList o na nb):na<=a.size:=by have:=j.ha;rwa [AO]at this
theorem J2.zb(j:J2 rk a.toList b.toList o na nb):nb<=b.size:=by have:=j.hb;rwa [AO]at this
theorem ai5_(m:MPre M rk a b){out:Array Keyed}{g ac bc p:Nat}{st st':SortSt}{R:ForInStep HiC->SortSt->Prop}(gs:Gs st st')(j:J2 rk a.toList b.toList out.toList.reverse na nb)(h1:1<=na)(h2:2<=nb)(hp:p+na+nb<=a.size+b.size)
  (h:∀i,i<nb->i<b.size->kv rk b i<=kv rk a (na-1)) (d:∀c,HiR rk a b p st c st'->R (.done c) st') (y:∀c,c.1=none->HiR rk a b p st c st'->R (.yield c) st'):wpS (model prog w) A E s (r3 a b out na nb g ac bc) R st':=by
 have z:=j.za
 have ea:a[na-1]?=some a[na-1]:=AJ (by lia)
 refine wpS_bind (qG_ ea ?_)
 have j':=m.pushA2 j h1 ea h
 by_cases c:na-1=0
 ·rw[if_pos (by simpa using c)]
  exact wpS_pure (d _ ⟨gs,.inl ⟨_,rfl,m.done2 j' (.inl c)⟩⟩)
 ·rw[if_neg (by simpa using c)]
  have on:HiR rk a b p st (none,na-1,nb,out.push a[na-1],g,ac,bc) st':=⟨gs,.inr ⟨rfl,j',(by show 1<=na-1;lia),h2,(by show p+(na-1)+nb<=a.size+b.size;lia)⟩⟩
  split
  ·exact wpS_pure (d _ on)
  ·exact wpS_pure (y _ rfl on)
theorem aij_(hA:Ask prog w A s κ M rk)(m:MPre M rk a b){out:Array Keyed}{g ac bc p:Nat}{st st':SortSt}{R:ForInStep HiC->SortSt->Prop}(hk:kindOf st=κ)(gs:Gs st st')(j:J2 rk a.toList b.toList out.toList.reverse na nb)(h1:1<=na)(h2:2<=nb)(hp:p+na+nb<=a.size+b.size)
  (h:∀i,i<na->i<a.size->kv rk a i<=kv rk b (nb-1)) (d:∀c,HiR rk a b p st c st'->R (.done c) st') (y:∀c,c.1=none->HiR rk a b p st c st'->R (.yield c) st'):wpS (model prog w) A E s (r2 a b out na nb g ac bc) R st':=by
 have z:=j.za
 have z2:=j.zb
 have ea:a[na-1]?=some a[na-1]:=AJ (by lia)
 have eb:b[nb-1]?=some b[nb-1]:=AJ (by lia)
 refine wpS_bind (qG_ eb ?_)
 have j':=m.pushB2 j (by lia) eb h
 by_cases c:nb-1=1
 ·rw[if_pos (by simpa using c)]
  exact wpS_pure (d _ ⟨gs,.inl ⟨_,rfl,m.first2 j' c⟩⟩)
 ·rw[if_neg (by simpa using c)]
  refine wpS_bind (qG_ ea (wpS_bind (z8_ hA (gs.kind.trans hk) (m.ma _ _ ea) m.mb (by lia) (by lia) (λi k a1 a2 a3=>zr_ m.sb i k (Ae _) a2 (by lia)) λr k1 k2 k3=>?_)))
  have sA:=zr_ m.sa
  have lt:∀i,i<r->kv rk b i<kv rk a (na-1):=λi i2=>by
   have:=k2 i (Ae _) (by lia)
   unfold Bd at this
   rw[if_pos rfl,<-qC_ (rk:=rk) ea]at this
   exact this
  have ge:∀i,r<=i->i<nb-1->kv rk a (na-1)<=kv rk b i:=λi i1 i2=>by
   have:=k3 i (by lia) (by lia)
   unfold Bd at this
   rw[if_pos rfl,<-qC_ (rk:=rk) ea]at this
   lia
  dsimp only
  by_cases k0:nb-1-r>0
  ·rw[if_pos k0]
   have j2:=m.appB2 (p:=r) j' (by lia) (λq q1 q2 i i1 i2=>by
    have e1:=ge q q1 q2
    have e2:=sA i (na-1) (Ae _) (by lia) (by lia)
    lia)
   by_cases c2:r=1
   ·rw[if_pos (by simpa using c2)]
    exact wpS_pure (d _ ⟨gs,.inl ⟨_,rfl,m.first2 j2 c2⟩⟩)
   rw[if_neg (by simpa using c2)]
   by_cases c3:r=0
   ·rw[if_pos (by simpa using c3)]
    exact wpS_pure (d _ ⟨gs,.inl ⟨_,rfl,m.done2 j2 (.inr c3)⟩⟩)
   ·rw[if_neg (by simpa using c3)]
    exact ai5_ m gs j2 h1 (by lia) (by lia) (λi i1 i2=>BX (lt i i1)) d y
  ·rw[if_neg k0]
   exact ai5_ m gs j' h1 (by lia) (by lia) (λi i1 i2=>BX (lt i (by lia))) d y
theorem ai2_(hA:Ask prog w A s κ M rk)(m:MPre M rk a b){out:Array Keyed}{g ac bc p:Nat}{st st':SortSt}{R:ForInStep HiC->SortSt->Prop}(hk:kindOf st=κ)(gs:Gs st st')(j:J2 rk a.toList b.toList out.toList.reverse na nb)(h1:1<=na)(h2:2<=nb)(hp:p+na+nb<=a.size+b.size)
  (d:∀c,HiR rk a b p st c st'->R (.done c) st') (y:∀c,c.1=none->HiR rk a b p st c st'->R (.yield c) st'):wpS (model prog w) A E s (r1 a b out na nb g ac bc) R st':=by
 have z:=j.za
 have z2:=j.zb
 have eb:b[nb-1]?=some b[nb-1]:=AJ (by lia)
 refine wpS_bind (qG_ eb (wpS_bind (z8_ hA (gs.kind.trans hk) (m.mb _ _ eb) m.ma (by lia) (by lia) (λi k a1 a2 a3=>zr_ m.sa i k (Ae _) a2 (by lia)) λr k1 k2 k3=>?_)))
 have sB:=zr_ m.sb
 have le:∀i,i<r->kv rk a i<=kv rk b (nb-1):=λi i2=>by
  have:=k2 i (Ae _) (by lia)
  unfold Bd at this
  rw[if_neg (by decide),<-qC_ (rk:=rk) eb]at this
  exact this
 have gt:∀i,r<=i->i<na->kv rk b (nb-1)<=kv rk a i:=λi i1 i2=>by
  have:=k3 i (by lia) (by lia)
  unfold Bd at this
  rw[if_neg (by decide),<-qC_ (rk:=rk) eb]at this
  lia
 dsimp only
 by_cases k0:na-r>0
 ·rw[if_pos k0]
  have j2:=m.appA2 (p:=r) j (by lia) (λq q1 q2 i i1 i2=>by
   have e1:=gt q q1 q2
   have e2:=sB i (nb-1) (Ae _) (by lia) (by lia)
   lia)
  by_cases c:r=0
  ·rw[if_pos (by simpa using c)]
   exact wpS_pure (d _ ⟨gs,.inl ⟨_,rfl,m.done2 j2 (.inl c)⟩⟩)
  ·rw[if_neg (by simpa using c)]
   exact aij_ hA m hk gs j2 (by lia) h2 (by lia) (λi i1 i2=>le i i1) d y
 ·rw[if_neg k0]
  exact aij_ hA m hk gs j h1 h2 hp (λi i1 i2=>le i (by lia)) d y
theorem aob_(hA:Ask prog w A s κ M rk){st:SortSt}{Q:Array Keyed->SortSt->Prop}(hk:kindOf st=κ)(m:MPre M rk a b)
  (q:∀r st',Gs st st'->Good rk a.toList b.toList r.toList->Q r st'):wpS (model prog w) A E s (ahg_ a b) Q st:=by
 refine wpS_bind (wpS_lift (wpAny_rule ⟨rfl,?_⟩))
 have za:=m.za
 have zb:=m.zb
 have ea0:a[a.size-1]?=some a[a.size-1]:=AJ (by lia)
 have sA:=zr_ m.sa
 have sB:=zr_ m.sb
 have j0:J2 rk a.toList b.toList (#[]:Array Keyed).toList.reverse a.size b.size:=⟨by rw[AO];exact AH _,by rw[AO];exact AH _,by simp [List.drop_of_length_le],List.Pairwise.nil,λx hx y hy=>by simp at hy,λx hx y hy=>by simp at hy⟩
 have j1:J2 rk a.toList b.toList (#[a[a.size-1]]:Array Keyed).toList.reverse (a.size-1) b.size:=m.pushA2 j0 za ea0 λi i1 i2=>BX (m.lst i i2)
 refine wpS_bind (qG_ ea0 ?_)
 by_cases c1:a.size-1=0
 ·rw[if_pos (by simpa using c1)]
  exact wpS_pure (q _ st (Gs.refl _) (m.done2 j1 (.inl c1)))
 rw[if_neg (by simpa using c1)]
 by_cases c2:b.size=1
 ·rw[if_pos (by simpa using c2)]
  exact wpS_pure (q _ st (Gs.refl _) (m.first2 j1 c2))
 rw[if_neg (by simpa using c2)]
 refine wpS_bind (wpS_get ?_)
 refine wpS_bind (wpS_mono (wpS_forRange (I:=λx c st'=>Gs st st'/\c.1=none/\J2 rk a.toList b.toList c.2.2.2.1.toList.reverse c.2.1 c.2.2.1/\1<=c.2.1/\2<=c.2.2.1/\x+1+c.2.1+c.2.2.1<=a.size+b.size)
  (Q:=λc st'=>Gs st st'/\∃r,c.1=some r/\Good rk a.toList b.toList r.toList) ?step ?fin ⟨Gs.refl _,rfl,j1,by show 1<=a.size-1;lia,by show 2<=b.size;lia,by show 0+1+(a.size-1)+b.size<=a.size+b.size;lia⟩) ?post)
 case post =>
  rintro⟨c,rest⟩ st' ⟨gs,r,e,g⟩
  have e':c=some r:=e
  subst e'
  exact wpS_pure (q r st' gs g)
 case fin =>
  rintro⟨c,na,nb,out,g⟩ st' ⟨gs,e,j,h1,h2,h3⟩
  exfalso
  dsimp only at h1 h2 h3
  lia
 case step =>
  rintro x ⟨c,na,nb,out,g⟩ st' _ hx ⟨gs,e,j,h1,h2,h3⟩
  dsimp only at e j h1 h2 h3
  subst e
  refine wpS_bind (wpS_mono (wpS_forRange (I:=λy c st''=>st''=st'/\c.1=none/\J2 rk a.toList b.toList c.2.2.2.1.toList.reverse c.2.1 c.2.2.1/\1<=c.2.1/\2<=c.2.2.1/\x+1+min y 1+c.2.1+c.2.2.1<=a.size+b.size)
   (Q:=λc st''=>st''=st'/\((∃r,c.1=some r/\Good rk a.toList b.toList r.toList)∨(c.1=none/\J2 rk a.toList b.toList c.2.2.2.1.toList.reverse c.2.1 c.2.2.1/\1<=c.2.1/\2<=c.2.2.1/\x+2+c.2.1+c.2.2.1<=a.size+b.size))) ?step1 ?fin1 ⟨rfl,rfl,j,h1,h2,by show x+1+min 0 1+na+nb<=a.size+b.size;lia⟩) ?post1)
  case fin1 =>
   rintro⟨c,na,nb,out,ac,bc⟩ st'' ⟨e1,e,j,h1,h2,h3⟩
   refine⟨e1,.inr ⟨e,j,h1,h2,?_⟩⟩
   dsimp only at h3 ⊢
   lia
  case step1 =>
   rintro y ⟨c,na,nb,out,ac,bc⟩ st'' _ hy ⟨e1,e,j,h1,h2,h3⟩
   subst e1
   dsimp only at e j h1 h2 h3
   subst e
   have z:=j.za
   have z2:=j.zb
   have eb:b[nb-1]?=some b[nb-1]:=AJ (by lia)
   have ea:a[na-1]?=some a[na-1]:=AJ (by lia)
   refine wpS_bind (qG_ eb (wpS_bind (qG_ ea (wpS_bind (x1_ hA (gs.kind.trans hk) (m.mb _ _ eb) (m.ma _ _ ea) ?_)))))
   by_cases c:rk b[nb-1]<rk a[na-1]
   ·rw[decide_eq_true c]
    dsimp only
    rw[if_pos rfl]
    refine wpS_bind (qG_ ea ?_)
    have j':=m.pushA2 j h1 ea λi i1 i2=>by
     have q1:=sB i (nb-1) (Ae _) (by lia) (by lia)
     rw[qC_ eb]at q1
     rw[qC_ ea]
     lia
    by_cases c3:na-1=0
    ·rw[if_pos (by simpa using c3)]
     exact wpS_pure ⟨rfl,.inl ⟨_,rfl,m.done2 j' (.inl c3)⟩⟩
    rw[if_neg (by simpa using c3)]
    split
    ·exact wpS_pure ⟨rfl,.inr ⟨rfl,j',by dsimp only;lia,h2,by dsimp only;lia⟩⟩
    ·exact wpS_pure ⟨rfl,rfl,j',by dsimp only;lia,h2,by dsimp only;lia⟩
   ·rw[decide_eq_false c]
    dsimp only
    rw[if_neg (by decide)]
    refine wpS_bind (qG_ eb ?_)
    have j':=m.pushB2 j (by lia) eb λi i1 i2=>by
     have q1:=sA i (na-1) (Ae _) (by lia) (by lia)
     rw[qC_ ea]at q1
     rw[qC_ eb]
     lia
    by_cases c3:nb-1=1
    ·rw[if_pos (by simpa using c3)]
     exact wpS_pure ⟨rfl,.inl ⟨_,rfl,m.first2 j' c3⟩⟩
    rw[if_neg (by simpa using c3)]
    split
    ·exact wpS_pure ⟨rfl,.inr ⟨rfl,j',h1,by dsimp only;lia,by dsimp only;lia⟩⟩
    ·exact wpS_pure ⟨rfl,rfl,j',h1,by dsimp only;lia,by dsimp only;lia⟩
  case post1 =>
   rintro⟨c,na,nb,out,ac,bc⟩ st'' ⟨e1,h⟩
   subst e1
   rcases h with⟨r,e,g1⟩|⟨e,j,h1,h2,h3⟩
   ·have e':c=some r:=e
    subst e'
    exact wpS_pure ⟨gs,r,rfl,g1⟩
   ·dsimp only at e j h1 h2 h3
    subst e
    refine wpS_bind (wpS_lift (wpAny_rule ⟨rfl,?_⟩))
    refine wpS_bind (wpS_mono (wpS_forRange (I:=λ_ c st3=>c.1=none/\HiR rk a b (x+2) st c st3) (Q:=λc st3=>HiR rk a b (x+2) st c st3) ?step2 ?fin2 ⟨rfl,gs,.inr ⟨rfl,j,h1,h2,h3⟩⟩) ?post2)
    case fin2 =>
     rintro c st3 ⟨_,hc⟩
     exact hc
    case step2 =>
     rintro y ⟨c,na,nb,out,g2,ac,bc⟩ st3 _ hy ⟨e,gs3,hc⟩
     have e':c=none:=e
     subst e'
     rcases hc with⟨r,er,_⟩|⟨_,j,h1,h2,h3⟩
     ·cases er
     dsimp only at j h1 h2 h3
     refine ye_ (λ_=>?_) (λ_=>?_)
     ·refine wpS_bind (wpS_modify ?_)
      exact ai2_ hA m hk (gs3.trans (xy_ st3 (g2-1))) j h1 h2 h3 (λc hc=>hc) (λc e hc=>⟨e,hc⟩)
     ·refine wpS_bind (wpS_modify ?_)
      exact ai2_ hA m hk (gs3.trans (xy_ st3 g2)) j h1 h2 h3 (λc hc=>hc) (λc e hc=>⟨e,hc⟩)
    case post2 =>
     rintro⟨c,na,nb,out,g2,ac,bc⟩ st3 ⟨gs3,hc⟩
     rcases hc with⟨r,er,g3⟩|⟨er,j,h1,h2,h3⟩
     ·have e':c=some r:=er
      subst e'
      exact wpS_pure ⟨gs3,r,rfl,g3⟩
     ·have e':c=none:=er
      subst e'
      dsimp only at j h1 h2 h3 ⊢
      refine wpS_bind (wpS_modify (wpS_pure ⟨gs3.trans (xy_ st3 (g2+1)),rfl,j,h1,h2,by dsimp only;lia⟩))
end
end L2.Ts
namespace L2.Ts
open PySem PyProof.Rows
abbrev Run:=Nat×Nat×Nat
theorem age_{α:Type}{L R:List α}{x y z:α}{p:Array α}(hp:p.toList=L++x::y::R):((p.setIfInBounds L.length z).eraseIdxIfInBounds (L.length+1)).toList=L++z::R:=by
 have hz:p.size=L.length+2+R.length:=by rw[<-AO,hp];simp;lia
 rw[Array.eraseIdxIfInBounds]
 rw[dif_pos (by rw[C4];lia),Array.toList_eraseIdx,Array.toList_setIfInBounds,hp]
 rw[List.set_append_right _ _ (AH _),Nat.sub_self,List.set_cons_zero,List.eraseIdx_append_of_length_le (by lia),show L.length+1-L.length=1 by lia]
 rfl
theorem aam_(o:Nat):∀(l:List Keyed)(n:Nat)(xs:Array Keyed),o+n+l.length<=xs.size->∀k:Nat,
  ((l.zipIdx n).foldl (λa (x:Keyed×Nat)=>a.setIfInBounds (o+x.2) x.1) xs)[k]?=if o+n<=k/\k<o+n+l.length then l[k-(o+n)]? else xs[k]?
 |[],n,xs,_,k=>by
  rw[if_neg (by simp)];rfl
 |x::l,n,xs,h,k=>by
  rw[AY]at h
  rw[D0,Bm,aam_ o l (n+1) _ (by rw[C4];lia) k,AY]
  by_cases c:o+(n+1)<=k/\k<o+(n+1)+l.length
  ·rw[if_pos c,if_pos (by lia),show k-(o+n)=(k-(o+(n+1)))+1 by lia,List.getElem?_cons_succ]
  ·rw[if_neg c]
   by_cases c2:k=o+n
   ·subst c2
    rw[if_pos (by lia),Nat.sub_self,List.getElem?_cons_zero,Array.getElem?_setIfInBounds_self_of_lt (by lia)]
   ·rw[if_neg (by lia),DM (by lia)]
theorem y8_{rk:Keyed->Nat}{xs:Array Keyed}{i j m:Nat}(h:i+m<j):kv rk (xs.extract i j) m=kv rk xs (i+m):=by
 refine zi_ ?_
 rw[EN]
 by_cases c:m<min j xs.size-i
 ·rw[if_pos c]
 ·rw[if_neg c,Cg (by lia)]
theorem ajm_{σ:Type}{M:Model}{A:Around}{E:Value->Shared->Prop}{s:Shared}{x:σ}{Q:PUnit->σ->Prop}{st:σ}(h:Q ⟨⟩ x):wpS M A E s (set x:StateT σ Sem PUnit) Q st:=by
 unfold wpS
 rw[StateT.run_set]
 exact wpAny_pure ⟨rfl,h⟩
section
variable{rk:Keyed->Nat}{prog:Program}{w:World}{A:Around}{E:Value->Shared->Prop}{s:Shared}{κ:SortKind}{M:Keyed->Prop}
theorem ao5_(h:Ask prog w A s κ M rk){st:SortSt}{Q:Bool->SortSt->Prop}(hk:kindOf st=κ)(ha:All M (arrOf st))(hf:failedOf st=none){L R:List Run}{sa na pa sb nb pb:Nat}(hp:(pendingOf st).toList=L++(sa,na,pa)::(sb,nb,pb)::R)
  (e:sb=sa+na) (h1:1<=na) (h2:1<=nb) (hz:sb+nb<=(arrOf st).size) (s1:Srt rk (arrOf st) sa (sa+na)) (s2:Srt rk (arrOf st) sb (sb+nb))
  (q:∀st',kindOf st'=κ->failedOf st'=none->(pendingOf st').toList=L++(sa,na+nb,pa)::R->(arrOf st').Perm (arrOf st)->(∀k:Nat,k<sa∨sa+na+nb<=k->(arrOf st')[k]?=(arrOf st)[k]?)->Srt rk (arrOf st') sa (sa+(na+nb))->Q true st') :
  wpS (model prog w) A E s (mergeAt' L.length) Q st:=by
 subst e
 have g0:(pendingOf st)[L.length]?=some (sa,na,pa):=by rw[<-As,hp];simp
 have g1:(pendingOf st)[L.length+1]?=some (sa+na,nb,pb):=by rw[<-As,hp];simp
 have er:=age_ (z:=(sa,na+nb,pa)) hp
 refine wpS_bind (wpS_get ?_)
 rw[g0,g1]
 dsimp only
 refine wpS_bind (ajm_ ?_)
 have eb:(arrOf st)[sa+na]?=some (arrOf st)[sa+na]:=AJ (by lia)
 refine wpS_bind (qG_ eb (wpS_bind (z8_ h (arr:=arrOf st) (st:=SortSt.mk' (kindOf st) (arrOf st) _ (gallopOf st) (failedOf st)) hk (ha _ _ eb) ha (by lia) (by lia) s1 λk k1 k2 k3=>?_)))
 have a1:∀i,sa<=i->i<sa+k->kv rk (arrOf st) i<=kv rk (arrOf st) (sa+na):=λi i1 i2=>by
  have:=k2 i i1 i2
  unfold Bd at this
  rw[if_neg (by decide),<-qC_ (rk:=rk) eb]at this
  exact this
 have a2:∀i,sa+k<=i->i<sa+na->kv rk (arrOf st) (sa+na)<kv rk (arrOf st) i:=λi i1 i2=>by
  have:=k3 i i1 (by lia)
  unfold Bd at this
  rw[if_neg (by decide),<-qC_ (rk:=rk) eb]at this
  lia
 dsimp only
 by_cases c1:na-k=0
 ·rw[if_pos (by simpa using c1)]
  refine wpS_pure (q _ hk hf er (Array.Perm.refl _) (λ_ _=>rfl) λi j i1 ij j1=>?_)
  show kv rk (arrOf st) i<=kv rk (arrOf st) j
  by_cases cj:j<sa+na
  ·exact s1 i j i1 ij cj
  ·by_cases ci:i<sa+na
   ·have b1:=a1 i i1 (by lia)
    have b2:=s2 (sa+na) j (AH _) (by lia) (by lia)
    lia
   ·exact s2 i j (by lia) ij (by lia)
 rw[if_neg (by simpa using c1)]
 have el:(arrOf st)[sa+k+(na-k)-1]?=some (arrOf st)[sa+k+(na-k)-1]:=AJ (by lia)
 refine wpS_bind (qG_ el (wpS_bind (z8_ h (arr:=arrOf st) (st:=SortSt.mk' (kindOf st) (arrOf st) _ (gallopOf st) (failedOf st)) hk (ha _ _ el) ha (by lia) (by lia) s2 λn n1 n2 n3=>?_)))
 have b1:∀i,sa+na<=i->i<sa+na+n->kv rk (arrOf st) i<kv rk (arrOf st) (sa+na-1):=λi i1 i2=>by
  have:=n2 i i1 i2
  unfold Bd at this
  rw[if_pos rfl,<-qC_ (rk:=rk) el,show sa+k+(na-k)-1=sa+na-1 by lia]at this
  exact this
 have b2:∀i,sa+na+n<=i->i<sa+na+nb->kv rk (arrOf st) (sa+na-1)<=kv rk (arrOf st) i:=λi i1 i2=>by
  have:=n3 i i1 i2
  unfold Bd at this
  rw[if_pos rfl,<-qC_ (rk:=rk) el,show sa+k+(na-k)-1=sa+na-1 by lia]at this
  lia
 dsimp only
 by_cases c2:n=0
 ·exfalso
  have d1:=a2 (sa+na-1) (by lia) (by lia)
  have d2:=b2 (sa+na) (by lia) (by lia)
  lia
 rw[if_neg (by simpa using c2)]
 have mp:MPre M rk ((arrOf st).extract (sa+k) (sa+na)) ((arrOf st).extract (sa+na) (sa+na+n)):=by
  have zx:((arrOf st).extract (sa+k) (sa+na)).size=na-k:=by rw[Dg];lia
  have zy:((arrOf st).extract (sa+na) (sa+na+n)).size=n:=by rw[Dg];lia
  have sub:∀i j,All M ((arrOf st).extract i j):=λi j m x hx=>by
   rw[EN]at hx
   split at hx
   ·exact ha _ _ hx
   ·cases hx
  refine⟨sub _ _,sub _ _,?_,?_,by lia,by lia,?_,λi hi=>?_⟩
  ·rw[zb_,show sa+na-(sa+k)=na-k by lia]
   exact afm_ (λi j i1 ij j1=>s1 i j (by lia) ij (by lia)) (by lia)
  ·rw[zb_,show sa+na+n-(sa+na)=n by lia]
   exact afm_ (λi j i1 ij j1=>s2 i j i1 ij (by lia)) (by lia)
  ·rw[y8_ (by lia),y8_ (by lia)]
   exact a2 _ (by lia) (by lia)
  ·rw[zx,y8_ (by lia),y8_ (by lia),show sa+k+(na-k-1)=sa+na-1 by lia]
   exact b1 _ (by lia) (by lia)
 have fin:∀(r:Array Keyed)(st2:SortSt),Gs (SortSt.mk' (kindOf st) (arrOf st) (((pendingOf st).setIfInBounds L.length (sa,na+nb,pa)).eraseIdxIfInBounds (L.length+1)) (gallopOf st) (failedOf st)) st2 ->
   Good rk ((arrOf st).extract (sa+k) (sa+na)).toList ((arrOf st).extract (sa+na) (sa+na+n)).toList r.toList ->
   Q true (SortSt.mk' (kindOf st2) (r.toList.zipIdx.foldl (λa (x:Keyed×Nat)=>a.setIfInBounds (sa+k+x.2) x.1) (arrOf st2)) (pendingOf st2) (gallopOf st2) (failedOf st2))/\failedOf st2=none:=by
  intro r st2 gs gd
  have e1:arrOf st2=arrOf st:=gs.arr
  have e2:failedOf st2=none:=gs.failed.trans hf
  refine⟨?_,e2⟩
  rw[e1]
  have lr:r.toList.length=(na-k)+n:=by
   have:=gd.1.length_eq
   simp only[AK,AO,Dg]at this
   rw[AO]
   lia
  have wr:=aam_ (sa+k) r.toList 0 (arrOf st) (by lia)
  generalize hxs:r.toList.zipIdx.foldl (λa (x:Keyed×Nat)=>a.setIfInBounds (sa+k+x.2) x.1) (arrOf st)=xs' at wr ⊢
  have zs:xs'.size=(arrOf st).size:=by
   have key:∀(l:List (Keyed×Nat))(ys:Array Keyed),(l.foldl (λa (x:Keyed×Nat)=>a.setIfInBounds (sa+k+x.2) x.1) ys).size=ys.size:=by
    intro l
    induction l with
    |nil=>intro ys;rfl
    |cons z l ih=>intro ys;rw[Bm,ih,C4]
   rw[<-hxs]
   exact key _ _
  have whole:xs'.toList=(arrOf st).toList.take (sa+k)++r.toList++(arrOf st).toList.drop (sa+na+n):=by
   refine Ck λi=>?_
   rw[As,wr i]
   have lt:((arrOf st).toList.take (sa+k)).length=sa+k:=by rw[An,AO];lia
   by_cases c:i<sa+k
   ·rw[if_neg (by lia),AX,Cy (by lia),Dw c,As]
   ·by_cases c':i<sa+na+n
    ·rw[if_pos (by lia),Cy (by rw[AK,lt];lia),Cs (by lia),lt]
     rfl
    ·rw[if_neg (by lia),Cs (by rw[AK,lt];lia),AK,lt,Dh,As]
     congr 1
     lia
  have old:(arrOf st).toList=(arrOf st).toList.take (sa+k)++(((arrOf st).extract (sa+k) (sa+na)).toList++((arrOf st).extract (sa+na) (sa+na+n)).toList)++(arrOf st).toList.drop (sa+na+n):=by
   have f1:(arrOf st).toList=(arrOf st).toList.take (sa+k)++(arrOf st).toList.drop (sa+k):=(Ba _ _).symm
   have f2:=zU_ (arrOf st).toList (sa+k) (na-k)
   have f3:=zU_ (arrOf st).toList (sa+na) n
   rw[show sa+k+(na-k)=sa+na by lia]at f2
   rw[zb_,zb_,show sa+na-(sa+k)=na-k by lia,show sa+na+n-(sa+na)=n by lia]
   rw[AX,AX,<-f3,<-f2]
   exact f1
  have pm:xs'.Perm (arrOf st):=by
   refine Dl.mpr ?_
   rw[whole]
   refine List.Perm.trans ?_ (List.Perm.of_eq old.symm)
   exact BL _ (Bb _ gd.1)
  have kvw:∀i,kv rk xs' i=if sa+k<=i/\i<sa+na+n then kv rk r (i-(sa+k)) else kv rk (arrOf st) i:=λi=>by
   have q1:=wr i
   by_cases c:sa+k<=i/\i<sa+na+n
   ·rw[if_pos c]
    rw[if_pos (by lia)]at q1
    exact zi_ (by rw[q1,As];rfl)
   ·rw[if_neg c]
    rw[if_neg (by lia)]at q1
    exact zi_ q1
  have src:∀m,m<(na-k)+n->∃j,sa+k<=j/\j<sa+na+n/\kv rk r m=kv rk (arrOf st) j:=λm hm=>by
   have hm':m<r.size:=by rw[<-AO];lia
   have em:r[m]?=some r[m]:=AJ hm'
   have mem:r[m]∈r.toList:=by simp
   rcases Ap.mp (gd.1.mem_iff.mp mem) with hm1|hm1
   ·rw[zb_]at hm1
    obtain⟨j,j1,j2,j3,j4,_⟩:=je_ (rk:=rk) hm1
    exact⟨j,j1,by lia,by rw[qC_ em,j4]⟩
   ·rw[zb_]at hm1
    obtain⟨j,j1,j2,j3,j4,_⟩:=je_ (rk:=rk) hm1
    exact⟨j,by lia,by lia,by rw[qC_ em,j4]⟩
  have sr:=zr_ gd.2
  refine q _ (gs.kind.trans hk) e2 ((congrArg Array.toList gs.pend).trans er) pm (λi hi=>?_) λi j i1 ij j1=>?_
  ·have q1:=wr i
   rw[if_neg (by lia)]at q1
   exact q1
  ·show kv rk xs' i<=kv rk xs' j
   have left:∀z y,sa<=z->z<sa+k->sa+k<=y->y<sa+na+nb->kv rk (arrOf st) z<=kv rk (arrOf st) y:=λz y z1 z2 y1 y2=>by
    by_cases c:y<sa+na
    ·exact s1 z y z1 (by lia) c
    ·have d1:=a1 z z1 z2
     have d2:=s2 (sa+na) y (AH _) (by lia) y2
     lia
   have right:∀z y,sa+k<=z->z<sa+na+n->sa+na+n<=y->y<sa+na+nb->kv rk (arrOf st) z<=kv rk (arrOf st) y:=λz y z1 z2 y1 y2=>by
    by_cases c:z<sa+na
    ·have d1:=s1 z (sa+na-1) (by lia) (by lia) (by lia)
     have d2:=b2 y y1 y2
     lia
    ·exact s2 z y (by lia) (by lia) y2
   rw[kvw i,kvw j]
   by_cases ci:sa+k<=i/\i<sa+na+n
   ·rw[if_pos ci]
    by_cases cj:sa+k<=j/\j<sa+na+n
    ·rw[if_pos cj]
     exact sr _ _ (Ae _) (by lia) (by rw[<-AO];lia)
    ·rw[if_neg cj]
     obtain⟨z,z1,z2,z3⟩:=src (i-(sa+k)) (by lia)
     rw[z3]
     exact right z j z1 z2 (by lia) (by lia)
   ·rw[if_neg ci]
    by_cases cj:sa+k<=j/\j<sa+na+n
    ·rw[if_pos cj]
     obtain⟨z,z1,z2,z3⟩:=src (j-(sa+k)) (by lia)
     rw[z3]
     exact left i z i1 (by lia) z1 (by lia)
    ·rw[if_neg cj]
     by_cases c5:i<sa+k
     ·by_cases c6:j<sa+k
      ·exact s1 i j i1 ij (by lia)
      ·exact left i j i1 c5 (by lia) (by lia)
     ·exact s2 i j (by lia) ij (by lia)
 have go:∀(r:Array Keyed)(st2:SortSt),Gs (SortSt.mk' (kindOf st) (arrOf st) (((pendingOf st).setIfInBounds L.length (sa,na+nb,pa)).eraseIdxIfInBounds (L.length+1)) (gallopOf st) (failedOf st)) st2 ->
   Good rk ((arrOf st).extract (sa+k) (sa+na)).toList ((arrOf st).extract (sa+na) (sa+na+n)).toList r.toList ->
   wpS (model prog w) A E s (do
    modify λt=>SortSt.mk' (kindOf t) (r.toList.zipIdx.foldl (λa (x:Keyed×Nat)=>a.setIfInBounds (sa+k+x.2) x.1) (arrOf t)) (pendingOf t) (gallopOf t) (failedOf t)
    let t <-get
    pure (failedOf t).isNone) Q st2:=by
  intro r st2 gs gd
  obtain⟨f1,f2⟩:=fin r st2 gs gd
  refine wpS_bind (wpS_modify (wpS_bind (wpS_get (wpS_pure ?_))))
  have e3:(failedOf st2).isNone=true:=by rw[f2];rfl
  show Q (failedOf st2).isNone _
  rw[e3]
  exact f1
 refine ye_ (λ_=>?_) (λ_=>?_)
 ·exact wpS_bind (apj_ h hk mp λr st2 gs gd=>go r st2 gs gd)
 ·exact wpS_bind (aob_ h hk mp λr st2 gs gd=>go r st2 gs gd)
def Runs(rk:Keyed->Nat)(xs:Array Keyed):List Run->Nat->Nat->Prop
 |[],a,e=>a=e
 |r::l,a,e=>r.1=a/\1<=r.2.1/\Srt rk xs a (a+r.2.1)/\Runs rk xs l (a+r.2.1) e
theorem Runs.le{xs:Array Keyed}:∀{l:List Run}{a e:Nat},Runs rk xs l a e->a+l.length<=e
 |[],a,e,h=>by have:a=e:=h;simp;lia
 |r::l,a,e,⟨h1,h2,h3,h4⟩=>by
  have:=Runs.le h4
  rw[AY]
  lia
theorem Runs.app{xs:Array Keyed}:∀{l m:List Run}{a e:Nat},Runs rk xs (l++m) a e->∃z,Runs rk xs l a z/\Runs rk xs m z e
 |[],m,a,e,h=>⟨a,rfl,h⟩
 |r::l,m,a,e,⟨h1,h2,h3,h4⟩=>by
  obtain⟨z,z1,z2⟩:=Runs.app h4
  exact⟨z,⟨h1,h2,h3,z1⟩,z2⟩
theorem Runs.join{xs:Array Keyed}:∀{l m:List Run}{a z e:Nat},Runs rk xs l a z->Runs rk xs m z e->Runs rk xs (l++m) a e
 |[],m,a,z,e,h,q=>by have:a=z:=h;subst this;exact q
 |r::l,m,a,z,e,⟨h1,h2,h3,h4⟩,q=>⟨h1,h2,h3,Runs.join h4 q⟩
theorem Runs.same{xs ys:Array Keyed}:∀{l:List Run}{a e:Nat},Runs rk xs l a e->(∀k,a<=k->k<e->kv rk ys k=kv rk xs k)->Runs rk ys l a e
 |[],a,e,h,_=>h
 |r::l,a,e,⟨h1,h2,h3,h4⟩,q=>by
  have le:=Runs.le h4
  refine⟨h1,h2,λi j i1 ij j1=>?_,Runs.same h4 λk k1 k2=>q k (by lia) k2⟩
  rw[q i i1 (by lia),q j (by lia) (by lia)]
  exact h3 i j i1 ij j1
theorem Runs.modify{xs:Array Keyed}{f:Run->Run}(hf:∀r,(f r).1=r.1/\(f r).2.1=r.2.1):∀{l:List Run}{a e:Nat},Runs rk xs l a e->∀i,Runs rk xs (l.modify i f) a e
 |[],a,e,h,i=>by cases i<;>exact h
 |r::l,a,e,⟨h1,h2,h3,h4⟩,0=>by
  obtain⟨f1,f2⟩:=hf r
  show Runs rk xs (f r::l) a e
  exact⟨f1.trans h1,by lia,by rw[f2];exact h3,by rw[f2];exact h4⟩
 |r::l,a,e,⟨h1,h2,h3,h4⟩,i+1=>⟨h1,h2,h3,Runs.modify hf h4 i⟩
structure Tb(rk:Keyed->Nat)(κ:SortKind)(a₀:Array Keyed)(lo:Nat)(st:SortSt):Prop where
 kind:kindOf st=κ
 failed:failedOf st=none
 perm:(arrOf st).Perm a₀
 runs:Runs rk (arrOf st) (pendingOf st).toList 0 lo
theorem Tb.size{a₀:Array Keyed}{lo:Nat}{st:SortSt}(t:Tb rk κ a₀ lo st):(arrOf st).size=a₀.size:=t.perm.size_eq
theorem aax_(h:Ask prog w A s κ M rk){a₀:Array Keyed}{lo i:Nat}{st:SortSt}{Q:Bool->SortSt->Prop}(hM:All M a₀)(t:Tb rk κ a₀ lo st)(hlo:lo<=a₀.size)(hi:i+1<(pendingOf st).size)
  (q:∀st',Tb rk κ a₀ lo st'->(pendingOf st').size+1=(pendingOf st).size->(∀k:Nat,lo<=k->(arrOf st')[k]?=(arrOf st)[k]?)->Q true st'):wpS (model prog w) A E s (mergeAt' i) Q st:=by
 obtain⟨L,x,y,R,e,el⟩:∃L x y R,(pendingOf st).toList=L++x::y::R/\L.length=i:=by
  have hl:i+1<(pendingOf st).toList.length:=by rw[AO];exact hi
  refine⟨(pendingOf st).toList.take i,(pendingOf st).toList[i],(pendingOf st).toList[i+1],(pendingOf st).toList.drop (i+2),?_,by rw[An];lia⟩
  rw[EO hl,EO,Ba]
 subst el
 obtain⟨sa,na,pa⟩:=x
 obtain⟨sb,nb,pb⟩:=y
 have r:=t.runs
 rw[e]at r
 obtain⟨z,r1,r2⟩:=r.app
 obtain⟨x1,x2,x3,x4⟩:=r2
 obtain⟨y1,y2,y3,y4⟩:=x4
 dsimp only at x1 x2 x3 y1 y2 y3 y4
 subst x1
 have le:=y4.le
 have sz:=t.size
 refine ao5_ h t.kind (hM.perm t.perm) t.failed e y1 x2 y2 (by lia) x3 (by rw[y1];exact y3) λst' k1 k2 k3 k4 k5 k6=>?_
 have sm:∀k,k<sa∨sa+na+nb<=k->kv rk (arrOf st') k=kv rk (arrOf st) k:=λk hk=>zi_ (k5 k hk)
 refine q st' ⟨k1,k2,k4.trans t.perm,?_⟩ ?_ λk hk=>k5 k (.inr (by lia))
 ·rw[k3]
  refine(r1.same λk _ hk=>sm k (.inl hk)).join ⟨rfl,by dsimp only;lia,k6,?_⟩
  dsimp only
  rw[show sa+(na+nb)=sa+na+nb by lia]
  exact y4.same λk hk _=>sm k (.inr hk)
 ·rw[<-AO,<-AO,k3,e]
  simp
  lia
theorem ajj_(h:Ask prog w A s κ M rk){st:SortSt}{Q:Unit->SortSt->Prop}(hk:kindOf st=κ)(hM:All M (arrOf st))(hf:failedOf st=none)(hp:pendingOf st=#[])(h1:1<=(arrOf st).size)
  (q:∀st',(arrOf st').Perm (arrOf st)->failedOf st'=none->Srt rk (arrOf st') 0 (arrOf st).size->Q () st'):wpS (model prog w) A E s sortRuns' Q st:=by
 rw[sortRuns'_eq]
 refine wpS_bind (wpS_get ?_)
 generalize ha₀:arrOf st=a₀ at hM h1 q
 dsimp only
 have t0:Tb rk κ a₀ 0 st:=⟨hk,hf,by rw[ha₀],by rw[hp];rfl⟩
 refine wpS_bind (wpS_mono (wpS_forRange (I:=λx c st'=>c.1=none/\Tb rk κ a₀ c.2 st'/\c.2<=a₀.size/\(x<=c.2∨c.2=a₀.size)) (Q:=λc st'=>c.1=none/\Tb rk κ a₀ a₀.size st') ?step ?fin ⟨rfl,t0,Ae _,.inl (AH _)⟩) ?post)
 case fin =>
  rintro⟨c,lo⟩ st' ⟨e,t,hl,hx⟩
  dsimp only at e t hl hx
  have el:lo=a₀.size:=by lia
  subst el
  exact⟨e,t⟩
 case step =>
  rintro x ⟨c,lo⟩ st' _ hx ⟨e,t,hl,hxl⟩
  dsimp only at e t hl hxl ⊢
  subst e
  by_cases c1:lo ≥ a₀.size
  ·rw[if_pos c1]
   have el:lo=a₀.size:=by lia
   subst el
   exact wpS_pure ⟨rfl,t⟩
  rw[if_neg c1]
  have sz:=t.size
  refine wpS_bind (amm_ h t.kind (hM.perm t.perm) (by lia) (by lia) λn st2 nx n1 n2 ns=>?_)
  have t2:Tb rk κ a₀ lo st2:=⟨nx.kind.trans t.kind,nx.failed.trans t.failed,nx.perm.trans t.perm,by rw[nx.pend];exact t.runs.same λk _ hk=>zi_ (nx.below k hk)⟩
  dsimp only
  generalize hforce:min (a₀.size-lo) (minRun' a₀.size a₀.size 0)=force
  have rest:∀(K1 K2:StateT SortSt Sem (ForInStep (Option Unit×Nat)))(Z:ForInStep (Option Unit×Nat)->SortSt->Prop),
    (∀st3,Tb rk κ a₀ lo st3->1<=force->lo+force<=a₀.size->Srt rk (arrOf st3) lo (lo+force)->wpS (model prog w) A E s K1 Z st3) ->
    (∀st3,Tb rk κ a₀ lo st3->1<=n->lo+n<=a₀.size->Srt rk (arrOf st3) lo (lo+n)->wpS (model prog w) A E s K2 Z st3) ->
    wpS (model prog w) A E s (if n<minRun' a₀.size a₀.size 0 then do
     liftM (rule "list.sort.binary-insertion")
     let r <-binarySort' lo force n
     if (!r)=true then pure (ForInStep.done (some (),lo)) else K1
    else K2) Z st2:=by
   intro K1 K2 Z hK1 hK2
   have sz2:=t2.size
   by_cases c2:n<minRun' a₀.size a₀.size 0
   ·rw[if_pos c2]
    refine wpS_bind (wpS_lift (wpAny_rule ⟨rfl,?_⟩))
    refine wpS_bind (ak2_ h t2.kind (hM.perm t2.perm) (by lia) (by lia) ns λst3 nx3 ns3=>?_)
    simp only[DF,Au,if_false]
    exact hK1 st3 ⟨nx3.kind.trans t2.kind,nx3.failed.trans t2.failed,nx3.perm.trans t2.perm,by rw[nx3.pend];exact t2.runs.same λk _ hk=>zi_ (nx3.below k hk)⟩ (by lia) (by lia) ns3
   ·rw[if_neg c2]
    exact hK2 st2 t2 n1 (by lia) ns
  have push:∀(m:Nat) st4,Tb rk κ a₀ lo st4->1<=m->Srt rk (arrOf st4) lo (lo+m)->Tb rk κ a₀ (lo+m) (setPending st4 ((pendingOf st4).push (lo,m,0))):=λm st4 t4 m1 ns4=>by
   refine⟨t4.kind,t4.failed,t4.perm,?_⟩
   show Runs rk (arrOf st4) ((pendingOf st4).push (lo,m,0)).toList 0 (lo+m)
   rw[Cj]
   exact t4.runs.join ⟨rfl,m1,ns4,rfl⟩
  have relabel:∀(f:Run->Run) st4,(∀r,(f r).1=r.1/\(f r).2.1=r.2.1)->Tb rk κ a₀ lo st4->Tb rk κ a₀ lo (setPending st4 ((pendingOf st4).modify ((pendingOf st4).size-1) f)):=λf st4 hf t4=>by
   refine⟨t4.kind,t4.failed,t4.perm,?_⟩
   show Runs rk (arrOf st4) ((pendingOf st4).modify ((pendingOf st4).size-1) f).toList 0 lo
   rw[Array.toList_modify]
   exact t4.runs.modify hf _
  have inner:∀(m:Nat)(st3:SortSt)(pw:Nat)(K:Option Unit×Unit->StateT SortSt Sem (ForInStep (Option Unit×Nat)))(Z:ForInStep (Option Unit×Nat)->SortSt->Prop),Tb rk κ a₀ lo st3->Srt rk (arrOf st3) lo (lo+m) ->
    (∀st4,Tb rk κ a₀ lo st4->Srt rk (arrOf st4) lo (lo+m)->wpS (model prog w) A E s (K (none,())) Z st4) ->
    wpS (model prog w) A E s (do
     let r <-forIn [0:a₀.size] ((none,()):Option Unit×Unit) λ_ _=>do
      let z <-get
      match (if (pendingOf z).size>1 then (pendingOf z)[(pendingOf z).size-2]? else none) with
      |some (_,_,old)=>if old<=pw then pure (ForInStep.done (none,())) else do
       let ok <-mergeAt' ((pendingOf z).size-2)
       if (!ok)=true then pure (ForInStep.done (some (),())) else pure (ForInStep.yield (none,()))
      |_=>pure (ForInStep.done (none,()))
     K r) Z st3:=by
   intro m st3 pw K Z t3 ns hK
   refine wpS_bind (wpS_mono (wpS_forRange (I:=λ_ c st'=>c.1=none/\Tb rk κ a₀ lo st'/\Srt rk (arrOf st') lo (lo+m)) (Q:=λc st'=>c.1=none/\Tb rk κ a₀ lo st'/\Srt rk (arrOf st') lo (lo+m)) ?step3 (λc st' hc=>hc) ⟨rfl,t3,ns⟩) ?post3)
   case step3 =>
    rintro y ⟨c,u⟩ st4 _ hy ⟨e,t4,ns4⟩
    have e':c=none:=e
    subst e'
    refine wpS_bind (wpS_get ?_)
    by_cases c4:(pendingOf st4).size>1
    ·rw[if_pos c4]
     have eg:(pendingOf st4)[(pendingOf st4).size-2]?=some (pendingOf st4)[(pendingOf st4).size-2]:=AJ (by lia)
     rw[eg]
     generalize (pendingOf st4)[(pendingOf st4).size-2]=z
     obtain⟨z1,z2,z3⟩:=z
     dsimp only
     refine ye_ (λ_=>wpS_pure ⟨rfl,t4,ns4⟩) λ_=>?_
     refine wpS_bind (aax_ h hM t4 hl (by lia) λst5 t5 _ k5=>?_)
     simp only[DF,Au,if_false]
     refine wpS_pure ⟨rfl,t5,λi j i1 ij j1=>?_⟩
     rw[zi_ (rk:=rk) (k5 i i1),zi_ (rk:=rk) (k5 j (by lia))]
     exact ns4 i j i1 ij j1
    ·rw[if_neg c4]
     exact wpS_pure ⟨rfl,t4,ns4⟩
   case post3 =>
    rintro⟨c,u⟩ st4 ⟨e,t4,ns4⟩
    have e':c=none:=e
    subst e'
    exact hK st4 t4 ns4
  refine rest _ _ _ (λst3 t3 n1 n2 ns=>?_) (λst3 t3 n1 n2 ns=>?_)
  all_goals
   refine wpS_bind (wpS_get ?_)
   cases hb:(pendingOf st3).back? with
   |none=>exact wpS_bind (wpS_modify (wpS_pure ⟨rfl,push _ st3 t3 n1 ns,n2,by dsimp only;lia⟩))
   |some z =>
    obtain⟨s1,n3,p3⟩:=z
    dsimp only
    refine inner _ st3 _ _ _ t3 ns λst4 t4 ns4=>?_
    exact wpS_bind (wpS_modify (wpS_bind (wpS_modify (wpS_pure ⟨rfl,push _ _ (relabel _ st4 (λr=>⟨rfl,rfl⟩) t4) n1 ns4,n2,by dsimp only;lia⟩))))
 case post =>
  rintro⟨c,lo⟩ st' ⟨e,t⟩
  have e':c=none:=e
  subst e'
  dsimp only
  have sz:=t.size
  have r0:=t.runs.le
  rw[AO]at r0
  refine wpS_bind (wpS_mono (wpS_forRange (I:=λx c st2=>c.1=none/\Tb rk κ a₀ a₀.size st2/\((pendingOf st2).size<=1∨(pendingOf st2).size+x<=a₀.size)) (Q:=λc st2=>c.1=none/\Tb rk κ a₀ a₀.size st2/\(pendingOf st2).size<=1) ?step4 ?fin4 ⟨rfl,t,.inr (by lia)⟩) ?post4)
  case fin4 =>
   rintro c st2 ⟨e,t,h3⟩
   exact⟨e,t,by lia⟩
  case step4 =>
   rintro x ⟨c,u⟩ st2 _ hx ⟨e,t2,h3⟩
   have e':c=none:=e
   subst e'
   refine wpS_bind (wpS_get ?_)
   by_cases c1:(pendingOf st2).size<=1
   ·rw[if_pos c1]
    exact wpS_pure ⟨rfl,t2,c1⟩
   rw[if_neg c1]
   have fin:∀i,i+1<(pendingOf st2).size->∀(K:Bool->StateT SortSt Sem (ForInStep (Option Unit×Unit)))(Z:ForInStep (Option Unit×Unit)->SortSt->Prop),K true=pure (.yield (none,())) ->
     (∀st5,Tb rk κ a₀ a₀.size st5->((pendingOf st5).size<=1∨(pendingOf st5).size+(x+1)<=a₀.size)->Z (.yield (none,())) st5)->wpS (model prog w) A E s (do
     let r <-mergeAt' i
     K r) Z st2:=by
    intro i hi K Z hK hZ
    refine wpS_bind (aax_ h hM t2 (AH _) hi λst5 t5 z5 _=>?_)
    rw[hK]
    exact wpS_pure (hZ st5 t5 (by lia))
   have both:∀(c:Bool)(i:Nat),i+2=(pendingOf st2).size->(if c=true then i-1 else i)+1<(pendingOf st2).size:=λc i hi=>by
    split<;>lia
   refine fin _ (both _ _ ?_) (λr=>_) _ ?_ (λst5 t5 h5=>⟨rfl,t5,h5⟩)
   ·lia
   ·rfl
  case post4 =>
   rintro⟨c,u⟩ st2 ⟨e,t2,h3⟩
   have e':c=none:=e
   subst e'
   refine wpS_pure (q st2 t2.perm t2.failed ?_)
   have r:=t2.runs
   rw[<-AO]at h3
   match hl:(pendingOf st2).toList,h3,r with
   |[],_,r=>have:0=a₀.size:=r;lia
   |[z],_,r =>
    obtain⟨r1,r2,r3,r4⟩:=r
    have r4':0+z.2.1=a₀.size:=r4
    rw[r4']at r3
    exact r3
   |_::_::_,h3,_=>simp at h3
end
end L2.Ts
namespace L2.Rw
open PySem
def RawD(h:Heap)(d:Addr)(es:Array DictEntry)(ep:Nat):Prop:=∃o,h.get? d=some o/\o.ExactDict/\o.data=.dict es ep
theorem RawD.keep{h h':Heap}{d:Addr}{es:Array DictEntry}{ep:Nat}(x:RawD h d es ep)(k:∀o,h.get? d=some o->h'.get? d=some o):RawD h' d es ep:=let ⟨o,e,r⟩:=x;⟨o,k o e,r⟩
theorem RawD.lt{h:Heap}{d:Addr}{es:Array DictEntry}{ep:Nat}(x:RawD h d es ep):d<h.objs.size:=let ⟨_,e,_⟩:=x;AM e
theorem RawD.type{s:Shared}{d:Addr}{es:Array DictEntry}{ep:Nat}(x:RawD s.heap d es ep):s.TypeIs (.ref d) "dict" := let ⟨o,e,c,_⟩:=x;⟨o,e,c.1⟩
section
variable{prog:Program}{w:World}{A:Around}{E:Value->Shared->Prop}{s:Shared}{d it:Addr}{es:Array DictEntry}{ep i:Nat}
theorem abe_{Q:Value->Shared->Prop}(hd:(d==sysModules)=false)(hm:RawD s.heap d es ep)
  (hQ:Q (.ref s.heap.objs.size) { s with heap:=s.heap.push { cls:=.type "dict_keyiterator",data:=.fields #[.ref d,.int 0 0,.int es.size 0,.int ep 0] } }):wpAny (model prog w) A (pyIter (.ref d)) Q E s:=by
 have hT:=hm.type
 obtain⟨o,ho,_,hdat⟩:=hm
 refine wpAny_pyIter_slot hT F.slot_dict_iter (wpAny_call_entry F.slot_dict_iter hT F.entry_dict_iter ?_ (F.args_dict_iter_1 _))
 unfold Builtin.«dict.__iter__»
 refine wpAny_bind ?_
 unfold Builtin.Dict.dictSlotNone
 refine wpAny_bind (wpAny_notOrdered_dict hT (wpAny_pure ?_))
 show wpAny _ _ (Builtin.Dict.showsAll d>>=_) _ _ s
 unfold Builtin.Dict.showsAll
 rw[if_neg (by rw[hd];decide)]
 refine wpAny_bind (wpAny_pure (wpAny_bind (wpAny_dictEntries ho hdat (wpAny_bind (wpAny_dictEpoch ho hdat ?_)))))
 refine wpAny_bind (wpAny_newObj_type (wpAny_pure ⟨_,rfl, "dict_keyiterator",_,⟨_,AL _ rfl,rfl⟩,Bq.lookup,?_⟩))
 simpa [rawInt]using hQ
theorem aa0_{Q:Option Value->Shared->Prop}(hit:s.heap.IsKeyIter it d i es.size ep)(hm:RawD s.heap d es ep)(hi:i<es.size)
  (hQ:∀h',h'.IsKeyIter it d (i+1) es.size ep->Heap.SameBut it s.heap h'->Q (some es[i].key) { s with heap:=h' }):wpAny (model prog w) A (pyNext (.ref it)) Q E s:=by
 obtain⟨o,ho,hc,hd⟩:=id hit
 obtain⟨od,hod,_,hdd⟩:=hm
 have hT:=hit.typeIs
 unfold pyNext
 refine wpAny_bind (wpAny_attempt (wpAny_callSpecial?_slot (name:=Str.ofString "__next__") hT Bq (wpAny_call_entry Bq hT DX ?_ (DQ _))))
 refine wpAny_bind (wpAny_pure (wpAny_bind (wpAny_bind ?_)))
 first|refine wpAny_bind (wpAny_typeNameOfWhole_keyiter hT (wpAny_pure ?_))|refine wpAny_bind (wpAny_typeNameOf_keyiter hT (wpAny_pure ?_))
 refine wpAny_bind (wpAny_fieldsOf ho hd ?_)
 have own:Builtin.Dict_items.ownsTuple "dict_keyiterator" = false:=by decide
 simp only[own,Au,if_false]
 show wpAny _ _ (if (Value.ref d==Value.none)=true then _ else _) _ _ s
 rw[if_neg (show ¬ ((Value.ref d==Value.none)=true) from AS)]
 refine wpAny_bind (wpAny_pure (wpAny_bind (wpAny_dictEntries hod hdd ?_)))
 rw[if_neg (by simp)]
 refine wpAny_bind (wpAny_pure (wpAny_bind (wpAny_dictEpoch hod hdd ?_)))
 rw[if_neg (by simp)]
 refine wpAny_pure ?_
 simp only[show ¬ ((i:Int)<0) from by lia,if_false,At,AJ hi]
 refine wpAny_bind ?_
 first|refine wpAny_bind (wpAny_typeNameOfWhole_keyiter hT (wpAny_pure ?_))|refine wpAny_bind (wpAny_typeNameOf_keyiter hT (wpAny_pure ?_))
 refine wpAny_bind (wpAny_isOneOf_keyiter hT ?_)
 show wpAny _ _ (setField (.ref it) 1 (rawInt ((i:Int)+1))>>=_) _ _ s
 refine wpAny_bind (wpAny_setField ho hd (by simp) ?_)
 have on:(s.heap.update it (Obj.mapFields (·.setIfInBounds 1 (rawInt ((i:Int)+1))))).IsKeyIter it d (i+1) es.size ep :=
  ⟨_,BI _ ho (B2 (BS hd _)),(DB ..).trans hc,by rw[BS hd];simp [rawInt]⟩
 refine wpAny_bind (wpAny_holding (wpAny_bind (wpAny_isOneOf_keyiter (s:={ s with heap:=s.heap.update it (Obj.mapFields (·.setIfInBounds 1 (rawInt ((i:Int)+1)))) }) on.typeIs ?_)))
 show wpAny _ _ (pure es[i].key) _ _ _
 exact wpAny_pure (wpAny_pure ⟨_,rfl,wpAny_pure (hQ _ on (Bv ..))⟩)
theorem acu_{Q:Option Value->Shared->Prop}(hh:A.handled=none)(hit:s.heap.IsKeyIter it d i es.size ep)(hm:RawD s.heap d es ep)(hi:es.size<=i)
  (hQ:∀h',Heap.ExtBut it s.heap h'->Q none { s with heap:=h' }):wpAny (model prog w) A (pyNext (.ref it)) Q E s:=by
 obtain⟨o,ho,hc,hd⟩:=id hit
 obtain⟨od,hod,_,hdd⟩:=hm
 have hT:=hit.typeIs
 unfold pyNext
 refine wpAny_bind (wpAny_attempt (wpAny_callSpecial?_slot (name:=Str.ofString "__next__") hT Bq (wpAny_call_entry Bq hT DX ?_ (DQ _))))
 refine wpAny_bind (wpAny_pure (wpAny_bind (wpAny_bind ?_)))
 first|refine wpAny_bind (wpAny_typeNameOfWhole_keyiter hT (wpAny_pure ?_))|refine wpAny_bind (wpAny_typeNameOf_keyiter hT (wpAny_pure ?_))
 refine wpAny_bind (wpAny_fieldsOf ho hd ?_)
 have own:Builtin.Dict_items.ownsTuple "dict_keyiterator" = false:=by decide
 simp only[own,Au,if_false]
 show wpAny _ _ (if (Value.ref d==Value.none)=true then _ else _) _ _ s
 rw[if_neg (show ¬ ((Value.ref d==Value.none)=true) from AS)]
 refine wpAny_bind (wpAny_pure (wpAny_bind (wpAny_dictEntries hod hdd ?_)))
 rw[if_neg (by simp)]
 refine wpAny_bind (wpAny_pure (wpAny_bind (wpAny_dictEpoch hod hdd ?_)))
 rw[if_neg (by simp)]
 refine wpAny_pure ?_
 simp only[show ¬ ((i:Int)<0) from by lia,if_false,At,Cg hi]
 refine wpAny_bind ?_
 first|refine wpAny_bind (wpAny_typeNameOfWhole_keyiter hT (wpAny_pure ?_))|refine wpAny_bind (wpAny_typeNameOf_keyiter hT (wpAny_pure ?_))
 show wpAny _ _ (setField (.ref it) 0 .none>>=_) _ _ s
 refine wpAny_bind (wpAny_setField ho hd (by simp) ?_)
 show wpAny _ _ (newExc (.type "StopIteration") []>>=_) _ _ _
 refine wpAny_bind ?_
 simp only[newExc,newTuple]
 refine wpAny_bind (wpAny_newObj_type ?_ (by size_fits))
 refine wpAny_bind (m:=firstArgMember _ _) (wpAny_of_eq (a:=Value.none) (by first|rfl|(simp only[firstArgMember];rfl)) ?_)
 refine wpAny_newObj_type ?_ (by size_fits)
 simp only[raiseNew]
 refine wpAny_bind (wpAny_handled ?_)
 rw[show A.in1.handled=none from hh]
 refine wpAny_bind (wpAny_pure (wpAny_throw ?_))
 refine wpAny_bind (wpAny_isInstance (T := "StopIteration") (b:=true) ⟨_,AL _ rfl,rfl⟩ isSubtype_stop ?_)
 exact wpAny_pure (hQ _ (((Bv ..).extBut.push _).push _))
theorem afv_(hh:A.handled=none)(I d:Addr)(hne:d≠I)(es:Array DictEntry)(ep:Nat) :
  Walks prog w A I [I,d] [I] es.size (λi v=>∃h:i<es.size,v=es[i].key) (λi h=>h.IsKeyIter I d i es.size ep/\RawD h d es ep) where
 sub:=λb hb=>by simp at hb;simp [hb]
 frame:=λ_ _ _ st hk=>⟨st.1.at λo e=>hk I (by simp) o e,st.2.keep λo e=>hk d (by simp) o e⟩
 item:=λi s Q E hi st hQ=>aa0_ st.1 st.2 hi λh' on hs=>hQ es[i].key h' s.toks ⟨hi,rfl⟩ ⟨on,st.2.keep λo e=>hs.extBut _ _ hne e⟩ λb o hb e=>hs.extBut b o (λz=>hb (by simp [z])) e
 done:=λs Q E st hQ=>acu_ hh st.1 st.2 (AH _) λh' he=>hQ h' s.toks λb o hb e=>he b o (λz=>hb (by simp [z])) e
 self:=λ_ _ _ _ st hQ=>wpAny_pyIter_keyiter st.1 hQ
end
end L2.Rw
namespace L2.Pl
abbrev Pw:=List Int
abbrev Mon:=List Int×Int
def lxl:Pw->Pw->Bool
 |[],[]=>false
 |[],_::_=>true
 |_::_,[]=>false
 |x::xs,y::ys=>if x=y then lxl xs ys else decide (x<y)
theorem q7_:∀a:Pw,lxl a a=false
 |[]=>rfl
 |x::xs=>by simp [lxl,q7_ xs]
theorem zs_:∀{a b c:Pw},lxl a b=true->lxl b c=true->lxl a c=true
 |[],[],c,h,_=>by simp [lxl]at h
 |[],_::_,[],_,h=>by simp [lxl]at h
 |[],_::_,_::_,_,_=>rfl
 |_::_,[],_,h,_=>by simp [lxl]at h
 |_::_,_::_,[],_,h=>by simp [lxl]at h
 |x::xs,y::ys,z::zs,h,q=>by
  simp only[lxl]at h q ⊢
  split at h
  ·rename_i e
   subst e
   split at q
   ·rename_i e
    subst e
    rw[if_pos rfl]
    exact zs_ h q
   ·rename_i e
    rw[if_neg e]
    exact q
  ·rename_i e
   have h':=of_decide_eq_true h
   split at q
   ·rename_i e2
    subst e2
    rw[if_neg e]
    exact h
   ·have q':=of_decide_eq_true q
    rw[if_neg (by lia)]
    exact decide_eq_true (by lia)
theorem ju_:∀{a b:Pw},lxl a b=false->lxl b a=false->a=b
 |[],[],_,_=>rfl
 |[],_::_,h,_=>by simp [lxl]at h
 |_::_,[],_,h=>by simp [lxl]at h
 |x::xs,y::ys,h,q=>by
  simp only[lxl]at h q
  by_cases e:x=y
  ·subst e
   rw[if_pos rfl]at h q
   rw[ju_ h q]
  ·rw[if_neg e]at h
   rw[if_neg (λz=>e z.symm)]at q
   have h':=of_decide_eq_false h
   have q':=of_decide_eq_false q
   lia
structure Lin{α:Type}(lt:α->α->Bool):Prop where
 irr:∀a,lt a a=false
 trans:∀{a b c},lt a b=true->lt b c=true->lt a c=true
 tri:∀{a b},lt a b=false->lt b a=false->a=b
theorem lin_lxl:Lin lxl:=⟨q7_,zs_,ju_⟩
def tlt(a b:Mon):Bool:=if a.1=b.1 then decide (a.2<b.2) else lxl a.1 b.1
theorem ajr_:Lin tlt where
 irr:=λa=>by simp [tlt]
 trans:=λ{a b c} h q=>by
  unfold tlt at h q ⊢
  by_cases e1:a.1=b.1
  ·rw[if_pos e1]at h
   by_cases e2:b.1=c.1
   ·rw[if_pos e2]at q
    rw[if_pos (e1.trans e2)]
    have:=of_decide_eq_true h
    have:=of_decide_eq_true q
    exact decide_eq_true (by lia)
   ·rw[if_neg e2]at q
    rw[if_neg (λz=>e2 (e1.symm.trans z)),e1]
    exact q
  ·rw[if_neg e1]at h
   by_cases e2:b.1=c.1
   ·rw[<-e2,if_neg e1]
    exact h
   ·rw[if_neg e2]at q
    have t:=zs_ h q
    rw[if_neg (λz=>by rw[z,q7_]at t;cases t)]
    exact t
 tri:=λ{a b} h q=>by
  unfold tlt at h q
  by_cases e:a.1=b.1
  ·rw[if_pos e]at h
   rw[if_pos e.symm]at q
   have:=of_decide_eq_false h
   have:=of_decide_eq_false q
   exact Dy e (by lia)
  ·rw[if_neg e]at h
   rw[if_neg (λz=>e z.symm)]at q
   exact absurd (ju_ h q) e
def xP_{α:Type}(lt:α->α->Bool)(l:List α)(a:α):Nat:=(l.filter (lt · a)).length
theorem vb_{α:Type}{lt:α->α->Bool}(L:Lin lt){l:List α}{a b:α}(ha:a∈l):lt a b=true↔xP_ lt l a<xP_ lt l b:=by
 constructor
 ·intro h
  unfold xP_
  have key:∀m:List α,(m.filter (lt · a)).length<=(m.filter (lt · b)).length/\(a∈m->(m.filter (lt · a)).length<(m.filter (lt · b)).length):=by
   intro m
   induction m with
   |nil=>simp
   |cons x m ih =>
    rw[Ar,Ar]
    by_cases c:lt x a=true
    ·rw[if_pos c,if_pos (L.trans c h)]
     simp only[AY]
     refine⟨by lia,λhm=>?_⟩
     rcases AN.mp hm with e|hm
     ·subst e;rw[L.irr]at c;cases c
     ·have:=ih.2 hm;lia
    ·rw[if_neg c]
     by_cases c2:lt x b=true
     ·rw[if_pos c2]
      simp only[AY]
      exact⟨by lia,λ_=>by lia⟩
     ·rw[if_neg c2]
      refine⟨ih.1,λhm=>?_⟩
      rcases AN.mp hm with e|hm
      ·subst e;exact absurd h c2
      ·exact ih.2 hm
  exact(key l).2 ha
 ·intro h
  cases c:lt a b with
  |true=>rfl
  |false =>
   exfalso
   have key:∀m:List α,(m.filter (lt · b)).length<=(m.filter (lt · a)).length:=by
    intro m
    induction m with
    |nil=>simp
    |cons x m ih =>
     rw[Ar,Ar]
     by_cases c1:lt x b=true
     ·have c2:lt x a=true:=by
       cases c3:lt x a with
       |true=>rfl
       |false =>
        cases c4:lt a x with
        |true =>
         rw[L.trans c4 c1]at c;cases c
        |false =>
         have e:=L.tri c3 c4
         subst e
         rw[c1]at c;cases c
      rw[if_pos c1,if_pos c2]
      simp only[AY]
      lia
     ·rw[if_neg c1]
      split
      ·simp only[AY];lia
      ·exact ih
   have:=key l
   unfold xP_ at h
   lia
def cf:List Mon->Pw->Int
 |[],_=>0
 |t::r,p=>(if t.1=p then t.2 else 0)+cf r p
theorem xg_(p:Pw):∀a b:List Mon,cf (a++b) p=cf a p+cf b p
 |[],b=>by simp [cf]
 |t::a,b=>by simp only[DG,cf,xg_ p a b];lia
theorem aj1_{a b:List Mon}(h:a.Perm b)(p:Pw):cf a p=cf b p:=by
 induction h with
 |nil=>rfl
 |cons x _ ih=>simp only[cf,ih]
 |swap x y l=>simp only[cf];lia
 |trans _ _ i1 i2=>exact i1.trans i2
theorem zo_{p:Pw}:∀{l:List Mon},(∀t∈l,t.1≠p)->cf l p=0
 |[],_=>rfl
 |t::r,h=>by
  simp only[cf]
  rw[if_neg (h t (AD ..)),zo_ λx hx=>h x (AC _ hx)]
  rfl
structure Canon(l:List Mon):Prop where
 ord:l.Pairwise λa b=>lxl b.1 a.1=true
 num:∀t∈l,t.2≠0
theorem Canon.tail{t:Mon}{l:List Mon}(h:Canon (t::l)):Canon l:=⟨(Ab.mp h.ord).2,λx hx=>h.num x (AC _ hx)⟩
theorem Canon.head{t:Mon}{l:List Mon}(h:Canon (t::l)):cf (t::l) t.1=t.2:=by
 have o:=(Ab.mp h.ord).1
 simp only[cf]
 rw[if_pos trivial,zo_ λx hx e=>by have:=o x hx;rw[e,q7_]at this;cases this]
 lia
theorem Canon.above{l:List Mon}(h:Canon l){p:Pw}(q:∀t∈l,lxl t.1 p=true):cf l p=0:=zo_ λt ht e=>by
 have:=q t ht
 rw[e,q7_]at this
 cases this
theorem yG_:∀{a b:List Mon},Canon a->Canon b->(∀p,cf a p=cf b p)->a=b
 |[],[],_,_,_=>rfl
 |[],t::b,_,hb,e=>by
  have:=e t.1
  rw[hb.head]at this
  exact absurd this.symm (hb.num t (AD ..))
 |t::a,[],ha,_,e=>by
  have:=e t.1
  rw[ha.head]at this
  exact absurd this (ha.num t (AD ..))
 |t::a,u::b,ha,hb,e=>by
  have oa:=(Ab.mp ha.ord).1
  have ob:=(Ab.mp hb.ord).1
  have k1:lxl t.1 u.1=false:=by
   cases c:lxl t.1 u.1 with
   |false=>rfl
   |true =>
    have z:=e u.1
    rw[hb.head,ha.above λx hx=>by
     rcases AN.mp hx with rfl|hx
     ·exact c
     ·exact zs_ (oa x hx) c]at z
    exact absurd z.symm (hb.num u (AD ..))
  have k2:lxl u.1 t.1=false:=by
   cases c:lxl u.1 t.1 with
   |false=>rfl
   |true =>
    have z:=e t.1
    rw[ha.head,hb.above λx hx=>by
     rcases AN.mp hx with rfl|hx
     ·exact c
     ·exact zs_ (ob x hx) c]at z
    exact absurd z (ha.num t (AD ..))
  have e1:t.1=u.1:=ju_ k1 k2
  have e2:t.2=u.2:=by
   have z:=e t.1
   rw[ha.head,e1,hb.head]at z
   exact z
  have e3:t=u:=Dy e1 e2
  subst e3
  rw[yG_ ha.tail hb.tail λp=>by
   have z:=e p
   simp only[cf]at z
   lia]
def ins(t:Mon):List Mon->List Mon
 |[]=>if t.2=0 then [] else [t]
 |u::r=>if t.1=u.1 then (if u.2+t.2=0 then r else (u.1,u.2+t.2)::r) else if lxl u.1 t.1=true then (if t.2=0 then u::r else t::u::r) else u::ins t r
theorem af9_(t:Mon)(p:Pw):∀l:List Mon,cf (ins t l) p=(if t.1=p then t.2 else 0)+cf l p
 |[]=>by
  unfold ins
  split
  ·rename_i h;simp [cf,h]
  ·simp [cf]
 |u::r=>by
  unfold ins
  split
  ·rename_i h
   split
   ·rename_i z
    simp only[cf]
    by_cases e:u.1=p
    ·rw[if_pos e,if_pos (h.trans e)];lia
    ·rw[if_neg e,if_neg (λq=>e (h.symm.trans q))];lia
   ·simp only[cf]
    by_cases e:u.1=p
    ·rw[if_pos e,if_pos e,if_pos (h.trans e)];lia
    ·rw[if_neg e,if_neg e,if_neg (λq=>e (h.symm.trans q))];lia
  ·split
   ·split
    ·rename_i z;rw[z];simp only[cf];split<;>lia
    ·simp only[cf]
   ·simp only[cf,af9_ t p r];lia
theorem vT_(t:Mon){q:Pw}:∀{l:List Mon},(∀x∈l,lxl x.1 q=true)->lxl t.1 q=true->∀x∈ins t l,lxl x.1 q=true
 |[],_,ht,x,hx=>by
  unfold ins at hx
  split at hx
  ·simp at hx
  ·rw[Am.mp hx];exact ht
 |u::r,h,ht,x,hx=>by
  have hr:∀x∈r,lxl x.1 q=true:=λy hy=>h y (AC _ hy)
  have hu:=h u (AD ..)
  unfold ins at hx
  split at hx
  ·split at hx
   ·exact hr x hx
   ·rcases AN.mp hx with rfl|hx
    ·exact hu
    ·exact hr x hx
  ·split at hx
   ·split at hx
    ·exact h x hx
    ·rcases AN.mp hx with rfl|hx
     ·exact ht
     ·exact h x hx
   ·rcases AN.mp hx with rfl|hx
    ·exact hu
    ·exact vT_ t hr ht x hx
theorem v1_(t:Mon):∀{l:List Mon},Canon l->Canon (ins t l)
 |[],_=>by
  unfold ins
  split
  ·exact⟨.nil,λx hx=>by simp at hx⟩
  ·rename_i h
   exact⟨C9 _ _,λx hx=>by rw[Am.mp hx];exact h⟩
 |u::r,h=>by
  obtain⟨o1,o2⟩:=Ab.mp h.ord
  have nr:∀x∈r,x.2≠0:=λx hx=>h.num x (AC _ hx)
  have nu:=h.num u (AD ..)
  unfold ins
  split
  ·split
   ·exact h.tail
   ·rename_i z
    refine⟨Ab.mpr ⟨o1,o2⟩,λx hx=>?_⟩
    rcases AN.mp hx with rfl|hx
    ·exact z
    ·exact nr x hx
  ·rename_i ne
   split
   ·rename_i lt
    split
    ·exact h
    ·rename_i z
     refine⟨Ab.mpr ⟨λx hx=>?_,h.ord⟩,λx hx=>?_⟩
     ·rcases AN.mp hx with rfl|hx
      ·exact lt
      ·exact zs_ (o1 x hx) lt
     ·rcases AN.mp hx with rfl|hx
      ·exact z
      ·exact h.num x hx
   ·rename_i lt
    have c:=v1_ t h.tail
    have tu:lxl t.1 u.1=true:=by
     cases k:lxl t.1 u.1 with
     |true=>rfl
     |false=>exact absurd (ju_ k (by simpa using lt)) ne
    refine⟨Ab.mpr ⟨λx hx=>vT_ t o1 tu x hx,c.ord⟩,λx hx=>?_⟩
    rcases AN.mp hx with rfl|hx
    ·exact nu
    ·exact c.num x hx
def norm(ts:List Mon):List Mon:=ts.foldr ins []
theorem qF_:∀ts:List Mon,Canon (norm ts)
 |[]=>⟨.nil,λx hx=>by simp [norm]at hx⟩
 |t::r=>v1_ t (qF_ r)
theorem zj_(p:Pw):∀ts:List Mon,cf (norm ts) p=cf ts p
 |[]=>rfl
 |t::r=>by
  show cf (ins t (norm r)) p=_
  rw[af9_,zj_ p r]
  rfl
theorem vq_{l ts:List Mon}(c:Canon l)(e:∀p,cf l p=cf ts p):l=norm ts:=yG_ c (qF_ ts) λp=>by rw[e,zj_]
theorem yO_{a b:List Mon}(e:∀p,cf a p=cf b p):norm a=norm b:=yG_ (qF_ a) (qF_ b) λp=>by rw[zj_,zj_,e]
theorem xY_{l:List Mon}(c:Canon l):norm l=l:=(vq_ c λ_=>rfl).symm
theorem qY_{ts:List Mon}{t:Mon}(h:t∈norm ts):∃u∈ts,u.1=t.1:=by
 have c:=qF_ ts
 have:cf (norm ts) t.1=t.2:=by
  have key:∀l:List Mon,Canon l->t∈l->cf l t.1=t.2:=by
   intro l
   induction l with
   |nil=>intro _ hm;simp at hm
   |cons u l ih =>
    intro c hm
    rcases AN.mp hm with e|hm
    ·subst e;exact c.head
    ·have o:=(Ab.mp c.ord).1 t hm
     simp only[cf]
     rw[if_neg (λe=>by rw[e,q7_]at o;cases o),ih c.tail hm]
     lia
  exact key _ c h
 rw[zj_]at this
 false_or_by_contra
 rename_i n
 have z:cf ts t.1=0:=zo_ λu hu e=>n ⟨u,hu,e⟩
 exact c.num t h (by lia)
theorem ac4_(t:Mon):∀l:List Mon,(ins t l).length<=l.length+1
 |[]=>by unfold ins;split<;>simp
 |u::r=>by
  unfold ins
  split
  ·split
   ·simp;lia
   ·simp
  ·split
   ·split<;>simp
   ·have:=ac4_ t r;simp;lia
theorem yr_:∀ts:List Mon,(norm ts).length<=ts.length
 |[]=>AH _
 |t::r=>by
  have h1:=ac4_ t (norm r)
  have h2:=yr_ r
  show(ins t (norm r)).length<=r.length+1
  lia
def qX_(d:List Mon)(p:Pw):Option Int:=(d.find? λkv=>decide (kv.1=p)).map (·.2)
def j5_(d:List Mon)(p:Pw)(n:Int):List Mon:=if (d.any λkv=>decide (kv.1=p))=true then d.map (λkv=>if kv.1=p then (kv.1,n) else kv) else d++[(p,n)]
abbrev Nd(d:List Mon):Prop:=(d.map (·.1)).Nodup
theorem vr_:∀{d:List Mon},Nd d->∀p,(qX_ d p).getD 0=cf d p
 |[],_,p=>rfl
 |t::r,h,p=>by
  obtain⟨h1,h2⟩:=B4.mp (show(t.1::r.map (·.1)).Nodup from h)
  simp only[cf]
  by_cases e:t.1=p
  ·subst e
   have z:cf r t.1=0:=zo_ λu hu e=>h1 (e▸AV.mpr ⟨u,hu,rfl⟩)
   simp [qX_,BR,z]
  ·have ih:=vr_ h2 p
   rw[if_neg e,<-ih]
   simp [qX_,BR,e]
theorem vZ_(d:List Mon)(p:Pw)(n:Int):(j5_ d p n).map (·.1)=if p∈d.map (·.1) then d.map (·.1) else d.map (·.1)++[p]:=by
 unfold j5_
 have ha:(d.any λkv=>decide (kv.1=p))=true↔p∈d.map (·.1):=by simp
 by_cases c:p∈d.map (·.1)
 ·rw[if_pos (ha.mpr c),if_pos c,CI]
  apply Bw
  intro x _
  simp only[Function.comp]
  split<;>rfl
 ·rw[if_neg (λz=>c (ha.mp z)),if_neg c,BU]
  rfl
theorem ajz_{d:List Mon}(h:Nd d)(p:Pw)(n:Int):Nd (j5_ d p n):=by
 unfold Nd
 rw[vZ_]
 split
 ·exact h
 ·rename_i c
  exact List.nodup_append.mpr ⟨h,by simp,λa ha b hb e=>by
   rw[Am.mp hb]at e
   exact c (e▸ha)⟩
theorem akd_{d:List Mon}(h:Nd d)(p:Pw)(n:Int)(q:Pw):cf (j5_ d p n) q=if p=q then n else cf d q:=by
 unfold j5_
 by_cases c:(d.any λkv=>decide (kv.1=p))=true
 ·rw[if_pos c]
  have key:∀l:List Mon,Nd l->(l.any λkv=>decide (kv.1=p))=true->cf (l.map λkv=>if kv.1=p then (kv.1,n) else kv) q=if p=q then n else cf l q:=by
   intro l
   induction l with
   |nil=>intro _ z;simp at z
   |cons t r ih =>
    intro hn ha
    obtain⟨h1,h2⟩:=B4.mp (show(t.1::r.map (·.1)).Nodup from hn)
    rw[Aa]
    by_cases e:t.1=p
    ·subst e
     have same:(r.map λkv=>if kv.1=t.1 then (kv.1,n) else kv)=r:=by
      conv=>rhs;rw[<-EQ r]
      apply Bw
      intro x hx
      have ne:¬ x.1=t.1:=λe=>h1 (by rw[<-e];exact AV.mpr ⟨x,hx,rfl⟩)
      rw[if_neg ne]
      rfl
     rw[if_pos rfl,same]
     simp only[cf]
     by_cases e2:t.1=q
     ·rw[if_pos e2,if_pos e2]
      have z:cf r q=0:=zo_ λu hu e=>h1 (by rw[e2,<-e];exact AV.mpr ⟨u,hu,rfl⟩)
      lia
     ·rw[if_neg e2,if_neg e2,if_neg e2]
    ·have ha':(r.any λkv=>decide (kv.1=p))=true:=by simpa [CL,e]using ha
     rw[if_neg e]
     simp only[cf]
     rw[ih h2 ha']
     by_cases e2:p=q
     ·rw[if_pos e2,if_neg (λz=>e (z.trans e2.symm)),if_pos e2];lia
     ·rw[if_neg e2,if_neg e2]
  exact key d h c
 ·rw[if_neg c,xg_]
  simp only[cf]
  by_cases e:p=q
  ·subst e
   rw[if_pos rfl,if_pos rfl]
   have z:cf d p=0:=zo_ λu hu e=>c (List.any_eq_true.mpr ⟨u,hu,decide_eq_true e⟩)
   lia
  ·rw[if_neg e,if_neg e];lia
def qv_(ts:List Mon):List Mon:=ts.foldl (λd t=>j5_ d t.1 ((qX_ d t.1).getD 0+t.2)) []
theorem zB_(ts:List Mon)(t:Mon):qv_ (ts++[t])=j5_ (qv_ ts) t.1 ((qX_ (qv_ ts) t.1).getD 0+t.2):=by
 unfold qv_;rw[Ds];rfl
theorem xb_{α:Type}{P:List α->Prop}(h0:P [])(hs:∀l x,P l->P (l++[x])):∀l,P l:=by
 intro l
 rw[<-Cp l]
 induction l.reverse with
 |nil=>exact h0
 |cons x l ih=>rw[Ci];exact hs _ _ ih
theorem jU_:∀ts:List Mon,Nd (qv_ ts):=xb_ (by simp [qv_,Nd]) λl t h=>by rw[zB_];exact ajz_ h _ _
theorem vf_(q:Pw):∀ts:List Mon,cf (qv_ ts) q=cf ts q:=xb_ rfl λl t h=>by
 rw[zB_,akd_ (jU_ l),xg_,vr_ (jU_ l)]
 simp only[cf]
 by_cases e:t.1=q
 ·rw[if_pos e,if_pos e,e,h];lia
 ·rw[if_neg e,if_neg e,h];lia
theorem aaj_(d:List Mon)(p:Pw)(n:Int):(j5_ d p n).length<=d.length+1:=by
 unfold j5_
 split<;>simp
theorem xA_:∀ts:List Mon,(qv_ ts).length<=ts.length:=xb_ (AH _) λl t h=>by
 rw[zB_]
 have:=aaj_ (qv_ l) t.1 ((qX_ (qv_ l) t.1).getD 0+t.2)
 simp
 lia
theorem ags_{p:Pw}:∀ts:List Mon,p∈(qv_ ts).map (·.1)->p∈ts.map (·.1):=xb_ (by simp [qv_]) λl t h hp=>by
 rw[zB_,vZ_]at hp
 rw[BU]
 split at hp
 ·exact Az _ (h hp)
 ·rcases Ap.mp hp with z|z
  ·exact Az _ (h z)
  ·exact Ai _ (by rw[Am.mp z];simp)
theorem aea_{d:List Mon}{p:Pw}(h:p∈d.map (·.1)):∃n,qX_ d p=some n:=by
 obtain⟨x,hx,e⟩:=AV.mp h
 unfold qX_
 cases c:d.find? λkv=>decide (kv.1=p) with
 |none=>exact absurd (decide_eq_true e) (by simpa using List.find?_eq_none.mp c x hx)
 |some y=>exact⟨y.2,rfl⟩
theorem xG_(p:Pw):∀l:List Mon,cf (l.filter λt=>decide (t.2≠0)) p=cf l p
 |[]=>rfl
 |t::r=>by
  rw[Ar]
  by_cases c:t.2≠0
  ·rw[if_pos (decide_eq_true c)]
   simp only[cf,xG_ p r]
  ·rw[if_neg (by simpa using c)]
   simp only[cf,xG_ p r]
   split<;>lia
theorem agr_{ts l:List Mon}(hp:l.Perm ((qv_ ts).filter λt=>decide (t.2≠0)))(ho:l.Pairwise λa b=>tlt a b=false):l=norm ts:=by
 refine vq_ ⟨?_,λt ht=>?_⟩ λp=>?_
 ·have nd:(l.map (·.1)).Nodup:=((hp.map (·.1)).nodup_iff).mpr ((jU_ ts).sublist (Ek.map _))
  rw[List.Nodup,CN]at nd
  refine(EX.mpr ⟨ho,nd⟩).imp λ{a b} h=>?_
  obtain⟨h1,h2⟩:=h
  unfold tlt at h1
  rw[if_neg h2]at h1
  cases c:lxl b.1 a.1 with
  |true=>rfl
  |false=>exact absurd (ju_ h1 c) h2
 ·have:=(BO.mp (hp.mem_iff.mp ht)).2
  simpa using this
 ·rw[aj1_ hp,xG_,vf_]
theorem aj8_{ts:List Mon}{ks:List Pw}(hp:ks.Perm ((qv_ ts).map (·.1)))(ho:ks.Pairwise λa b=>lxl a b=false) :
  (ks.filter λk=>decide ((qX_ (qv_ ts) k).getD 0≠0)).map (λk=>(k,(qX_ (qv_ ts) k).getD 0))=norm ts:=by
 have nd:ks.Nodup:=(hp.nodup_iff).mpr (jU_ ts)
 have so:ks.Pairwise λa b=>lxl b a=true:=(EX.mpr ⟨ho,nd⟩).imp λ{a b} h=>by
  cases c:lxl b a with
  |true=>rfl
  |false=>exact absurd (ju_ h.1 c) h.2
 have g:∀p,(qX_ (qv_ ts) p).getD 0=cf ts p:=λp=>by rw[vr_ (jU_ ts),vf_]
 have e:(ks.filter λk=>decide ((qX_ (qv_ ts) k).getD 0≠0)).map (λk=>(k,(qX_ (qv_ ts) k).getD 0))=(ks.filter λk=>decide (cf ts k≠0)).map λk=>(k,cf ts k):=by
  simp only[g]
 rw[e]
 refine vq_ ⟨?_,λt ht=>?_⟩ λp=>?_
 ·rw[CN]
  exact so.sublist Ek
 ·obtain⟨k,hk,rfl⟩:=AV.mp ht
  simpa using (BO.mp hk).2
 ·have key:∀l:List Pw,l.Nodup->cf ((l.filter λk=>decide (cf ts k≠0)).map λk=>(k,cf ts k)) p=if p∈l then cf ts p else 0:=by
   intro l
   induction l with
   |nil=>intro _;rfl
   |cons a l ih =>
    intro hn
    obtain⟨h1,h2⟩:=B4.mp hn
    have ih':=ih h2
    rw[Ar]
    by_cases c:cf ts a≠0
    ·rw[if_pos (decide_eq_true c),Aa]
     simp only[cf]
     rw[ih']
     by_cases e:a=p
     ·subst e
      rw[if_pos rfl,if_neg h1,if_pos (AD ..)];lia
     ·rw[if_neg e]
      by_cases m:p∈l
      ·rw[if_pos m,if_pos (AC _ m)];lia
      ·rw[if_neg m,if_neg (λz=>(AN.mp z).elim (λq=>e q.symm) m)];lia
    ·rw[if_neg (by simpa using c),ih']
     have c':cf ts a=0:=by lia
     by_cases e:a=p
     ·subst e
      rw[if_neg h1,if_pos (AD ..),c']
     ·by_cases m:p∈l
      ·rw[if_pos m,if_pos (AC _ m)]
      ·rw[if_neg m,if_neg (λz=>(AN.mp z).elim (λq=>e q.symm) m)]
  rw[key ks nd]
  by_cases m:p∈ks
  ·rw[if_pos m]
  ·rw[if_neg m,<-vf_ p ts]
   exact(zo_ λu hu e=>m (hp.mem_iff.mpr (AV.mpr ⟨u,hu,e⟩))).symm
end L2.Pl
namespace L2.Ev
open PySem PySem.Spec PyProof.Rows
open L2.Ts L2.Pl
theorem aip_:∀a b:List Int,HT.lexLt a b=lxl a b
 |[],[]=>by rw[HT.lexLt_nil_nil];rfl
 |[],_::_=>by rw[HT.lexLt_nil_cons];rfl
 |_::_,[]=>by rw[HT.lexLt_cons_nil];rfl
 |x::xs,y::ys=>by
  rw[HT.lexLt_cons]
  simp only[lxl]
  split
  ·exact aip_ xs ys
  ·rfl
section
variable{prog:Program}{w:World}{A:Around}{E:Value->Shared->Prop}{s:Shared}{b fin:Bool}{Q:Bool->Shared->Prop}
theorem aa3_:∀{vs ws:List Value}{ns ms:List Int}{i:Nat},IntsAre vs ns->IntsAre ws ms->(fin=decide (ns.length<ms.length))->Q (lxl ns ms) s->PySem.W.KatLex prog w A b fin Q (vs.zip ws) i s
 |[],[],_,_,i,.nil,.nil,e,q=>by
  subst e
  exact DR q
 |[],_::_,_,_,i,.nil,.cons _ _ _,e,q=>by
  subst e
  refine DR ?_
  simpa [lxl]using q
 |_::_,[],_,_,i,.cons _ _ _,.nil,e,q=>by
  subst e
  refine DR ?_
  simpa [lxl]using q
 |_,_,_,_,i,.cons a t hv,.cons c u hw,e,q=>by
  rw[CH]
  simp only[lxl]at q
  obtain⟨eq,he,hiff⟩:=HT.eqAt_int A s a t c u
  refine D1 (he prog w _ _ ?_)
  cases eq with
  |true =>
   rw[if_pos (hiff.mp rfl)]at q
   refine EF (aa3_ hv hw ?_ q)
   rw[e]
   simp
  |false =>
   rw[if_neg (λz=>absurd (hiff.mpr z) AS)]at q
   refine EY ?_
   cases hb:(b&&i==0) with
   |true=>exact oneLt_int q
   |false =>
    refine EG _ _ ?_
    exact DZ q
end
section
variable{X:Cx}{pins:List (Addr×Obj)}{σ:St}{H:Hp}{s:Shared}
class Srtd (α:Type) [D:Dat α] where
 lt:α->α->Bool
 lin:Lin lt
 plain:Bool
 ok:α->Prop
 first:∀{X:Cx}{pins:List (Addr×Obj)}{σ:St}{H:Hp}{s:Shared}{v:V}{a:α},Inv X pins σ H s->D.is H v a->ok a ->
  ∃(p:Addr)(o:Obj)(xs:Array Value)(n:Nat)(f:Value),RelV v (.ref p)/\s.heap.get? p=some o/\o.cls=.type "tuple" /\ o.data=.seq xs n/\xs[0]?=some f/\PySem.W.Looks (model X.prog X.w) s.heap (typeOf f) (if plain=true then .type "int" else .type "tuple")
 asks:∀{X:Cx}{pins:List (Addr×Obj)}{σ:St}{H:Hp}{s:Shared}{A:Around}{v v':V}{u u':Value}{a b:α},Inv X pins σ H s->A.units+4<cLine->D.is H v a->D.is H v' b->ok a->ok b->RelV v u->RelV v' u' ->
  ∀Q:Bool->Shared->Prop,Q (lt a b) s->wpAny (model X.prog X.w) A (keyLt' (tuples' plain) u u') Q (λ_ _=>False) s
theorem qO_{H:Hp}{v:V}{r:List Int}(h:Dat.is H v r):∃p,v=.ref p/\H p=some (.tup (r.map V.int)):=by
 obtain⟨p,vs,e,q,i⟩:=h
 have ei:∀{vs:List V}{ns:List Int},Its H vs ns->vs=ns.map V.int:=by
  intro vs ns i
  induction i with
  |nil=>rfl
  |cons r t ih=>rw[Aa,<-ih];exact congrArg (· :: _) r
 rw[ei i]at q
 exact⟨p,e,q⟩
theorem zR_{H:Hp}{p:Addr}{r:List Int}(h:H p=some (.tup (r.map V.int))):Dat.is H (.ref p) r:=by
 have ei:∀ns:List Int,Its H (ns.map V.int) ns:=by
  intro ns
  induction ns with
  |nil=>exact .nil
  |cons n r ih=>exact .cons rfl ih
 exact⟨p,_,rfl,h,ei r⟩
theorem jw_{a:Addr}{xs:List V}(I:Inv X pins σ H s)(h:H a=some (.tup xs)):∃(o:Obj)(its:List Value)(n:Nat),s.heap.get? a=some o/\o.cls=.type "tuple" /\ o.data=.seq its.toArray n/\Vals xs its:=by
 obtain⟨its,rv,ht,_⟩:=I.tuple (SqT.of h)
 obtain⟨o,ho,hc,n,hd⟩:=ht
 exact⟨o,its,n,ho,hc,hd,rv⟩
instance srtList:Srtd (List Int) where
 lt:=lxl
 lin:=lin_lxl
 plain:=true
 ok:=λa=>a≠[]
 first:=λ{X pins σ H s v a} I h ok=>by
  obtain⟨p,rfl,hp⟩:=qO_ h
  obtain⟨o,its,n,ho,hc,hd,rv⟩:=jw_ I hp
  cases a with
  |nil=>exact absurd rfl ok
  |cons x a =>
   rw[Aa]at rv
   cases rv with
   |cons r t =>
    obtain⟨tk,rfl⟩:=r
    exact⟨p,o,_,n,_,rfl,ho,hc,hd,rfl,PySem.W.Looks.of_pure rfl⟩
 asks:=λ{X pins σ H s A v v' u u' a b} I hu h h' ok ok' r r' Q q=>by
  obtain⟨p,rfl,hp⟩:=qO_ h
  obtain⟨p',rfl,hp'⟩:=qO_ h'
  obtain⟨o,its,n,ho,hc,hd,rv⟩:=jw_ I hp
  obtain⟨o',its',n',ho',hc',hd',rv'⟩:=jw_ I hp'
  cases r
  cases r'
  refine PySem.W.kat_lt ho hd ho' hd' (aa3_ (q1_ rv) (q1_ rv') ?_ q)
  have l1:=rv.length
  have l2:=rv'.length
  simp only[AA]at l1 l2
  simp only[AQ]
  rw[l1,l2]
instance srtTm:Srtd (List Int×Int) where
 lt:=tlt
 lin:=ajr_
 plain:=false
 ok:=λ_=>True
 first:=λ{X pins σ H s v a} I h ok=>by
  obtain⟨p,x,y,rfl,hp,hx,hy⟩:=h
  obtain⟨o,its,n,ho,hc,hd,rv⟩:=jw_ I hp
  obtain⟨p2,rfl,hp2⟩:=qO_ hx
  obtain⟨o2,its2,n2,ho2,hc2,hd2,rv2⟩:=jw_ I hp2
  obtain⟨w1,w2,rfl,r1,r2⟩:=jD_ rv
  cases r1
  refine⟨p,o,_,n,_,rfl,ho,hc,hd,rfl,?_⟩
  rw[if_neg (by decide),<-hc2]
  exact(PySem.W.Looks.ld ho2).andThen .now
 asks:=λ{X pins σ H s A v v' u u' a b} I hu h h' ok ok' r r' Q q=>by
  obtain⟨p,x,y,rfl,hp,hx,hy⟩:=h
  obtain⟨p',x',y',rfl,hp',hx',hy'⟩:=h'
  obtain⟨o,its,n,ho,hc,hd,rv⟩:=jw_ I hp
  obtain⟨o',its',n',ho',hc',hd',rv'⟩:=jw_ I hp'
  cases r
  cases r'
  obtain⟨w1,w2,rfl,r1,r2⟩:=jD_ rv
  obtain⟨z1,z2,rfl,t1,t2⟩:=jD_ rv'
  refine PySem.W.kat_lt ho hd ho' hd' ?_
  show PySem.W.KatLex _ _ _ _ _ _ [(w1,z1),(w2,z2)] 0 s
  have e1:=Dat.eqAt (A:=A) I (by show A.units+(0+1)<cLine;omega) hx hx' r1 t1
  refine D1 (e1 _ _ _ _ ?_)
  unfold tlt at q
  cases c:Dat.eqb a.1 b.1 with
  |true =>
   have e:=(Dat.eqb_iff a.1 b.1).mp c
   rw[if_pos e]at q
   refine EF ?_
   have hy2:y=.int a.2:=hy
   have hy2':y'=.int b.2:=hy'
   subst hy2 hy2'
   obtain⟨k1,rfl⟩:=r2
   obtain⟨k2,rfl⟩:=t2
   obtain⟨eq,he,hiff⟩:=HT.eqAt_int A s a.2 k1 b.2 k2
   refine D1 (he _ _ _ _ ?_)
   cases eq with
   |true =>
    have e2:=hiff.mp rfl
    rw[decide_eq_false (by omega)]at q
    refine EF (DR ?_)
    simpa using q
   |false =>
    refine EY (EG _ _ ?_)
    exact DZ q
  |false =>
   have e:¬ a.1=b.1:=λz=>by rw[(Dat.eqb_iff a.1 b.1).mpr z]at c;cases c
   rw[if_neg e]at q
   refine EY (EG _ _ ?_)
   obtain⟨p2,rfl,hp2⟩:=qO_ hx
   obtain⟨p2',rfl,hp2'⟩:=qO_ hx'
   cases r1
   cases t1
   obtain⟨its,r1,q1,_⟩:=I.tuple (SqT.of hp2)
   obtain⟨its2,r2,q2,_⟩:=I.tuple (SqT.of hp2')
   have i1:IntsAre its.toArray.toList a.1:=q1_ r1
   have i2:IntsAre its2.toArray.toList b.1:=q1_ r2
   refine HT.lt_tupInts q1 q2 i1 i2 (by omega) ?_
   rw[aip_]
   exact q
end
end L2.Ev
namespace L2.Ts
open PySem PyProof.Rows
section
variable{prog:Program}{w:World}{A:Around}{E:Value->Shared->Prop}{s:Shared}{κ:SortKind}{M:Keyed->Prop}{rk:Keyed->Nat}
theorem aa8_(vs:List Value):(vs.zip vs).map (·.2)=vs:=List.map_snd_zip (AH _)
theorem af6_{a:Addr}{vs:List Value}{n:Nat}{P:PySem.Fin->Shared->Prop}(ho:s.heap.get? a=some (seqObj "list" vs.toArray n))(hz:vs.length<=sizeLine)(hM:∀v∈vs,M (v,v))
  (hk:∀h',(∀b o,b≠a->s.heap.get? b=some o->h'.get? b=some o)->2<=vs.length->(∀(Q:SortKind->Shared->Prop)(E':Value->Shared->Prop),Q κ { s with heap:=h' }->wpAny (model prog w) A (keyKind' vs.toArray) Q E' { s with heap:=h' })/\Ask prog w A { s with heap:=h' } κ M rk)
  (h:∀out:List Value,out.Perm vs->(out.Pairwise λx y=>rk (y,y)<=rk (x,x))->P (.done (.ret .none)) { s with heap:=sortedHeap s.heap a vs out.toArray }) :
  wpAny (model prog w) A (Builtin.«list.sort» ⟨[.ref a],[(Str.ofString "reverse",.bool true)]⟩) P E s:=by
 rw[list_sort_rev]
 have ha:a<s.heap.objs.size:=AM ho
 have hsz:vs.toArray.size=vs.length:=by simp
 refine wpAny_bind (listItems_at ho rfl (wpAny_bind (listUpdate_at ho rfl ?_ (by rw[hsz];exact hz) (by simp))))
 obtain⟨e1,ho1⟩:∃e1,(s.heap.update a (Obj.mapSeq λ_=>#[])).get? a=some (seqObj "list" #[] e1):=⟨_,get?_update_seq ho (λ_=>#[])⟩
 refine wpAny_bind (seqEpoch_at ho1 rfl (wpAny_bind (wpAny_newTuple ?_ (by simpa using hz))))
 refine wpAny_bind (wpAny_newList (wpAny_holding ?_))
 have ho6:(((s.heap.update a (Obj.mapSeq λ_=>#[])).push (seqObj "tuple" vs.toArray 0)).push (seqObj "list" #[] 0)).get? a=some (seqObj "list" #[] e1):=by
  rw[Heap.get?_push_ne _ _ _ (by rw[size_push',D3];exact Af (Nat.lt_succ_of_lt ha)),Heap.get?_push_ne _ _ _ (by rw[D3];exact Af ha)]
  exact ho1
 have keep:∀b o,b≠a->s.heap.get? b=some o->(((s.heap.update a (Obj.mapSeq λ_=>#[])).push (seqObj "tuple" vs.toArray 0)).push (seqObj "list" #[] 0)).get? b=some o:=λb o hb e =>
  AB _ (AB _ ((Aw _ _ (BY hb)).trans e))
 show wpAny (model prog w) A _ P E { s with heap:=((s.heap.update a (Obj.mapSeq λ_=>#[])).push (seqObj "tuple" vs.toArray 0)).push (seqObj "list" #[] 0) }
 dsimp only
 simp only[if_true]
 refine wpAny_bind (wpAny_rule ?_)
 by_cases h2:vs.toArray.size<2
 ·rw[if_pos h2,if_pos h2]
  refine wpAny_bind (wpAny_pure ?_)
  rw[StateT.run_pure]
  refine wpAny_bind (wpAny_pure ?_)
  dsimp only
  have eo:((arrOf (SortSt.mk' general' (vs.toArray.zip vs.toArray).reverse #[] 7 none)).map (·.2)).reverse=vs.toArray:=by
   show((vs.toArray.zip vs.toArray).reverse.map (·.2)).reverse=vs.toArray
   apply Array.ext'
   simp only[B7,Array.toList_map,Array.toList_zip,D4,Cp]
   exact aa8_ vs
  refine wpAny_bind (seqEpoch_at ho6 rfl (wpAny_bind (listUpdate_at ho6 rfl ?_ (by simp) ?_)))
  ·simp only[bne_self_eq_false,Au,if_false]
   refine wpAny_pure ?_
   have q:=h vs (List.Perm.refl _) (by
    match vs,hsz,h2 with
    |[],_,_=>exact .nil
    |[x],_,_=>exact C9 _ _
    |_::_::_,_,h2=>exfalso;simp at h2;lia)
   unfold sortedHeap at q
   rw[eo]
   exact q
  ·rw[eo,hsz];lia
 ·rw[if_neg h2,if_neg h2]
  obtain⟨k1,k2⟩:=hk _ keep (by lia)
  refine wpAny_bind (k1 _ _ ?_)
  have all:All M (arrOf (SortSt.mk' κ (vs.toArray.zip vs.toArray).reverse #[] 7 none)):=λi p hp=>by
   have hm:p∈(vs.toArray.zip vs.toArray).reverse:=EW hp
   have hm2:p∈vs.zip vs:=by
    have:p∈(vs.toArray.zip vs.toArray).toList:=by simpa using Array.mem_reverse.mp hm
    simpa using this
   obtain⟨e,m⟩:=mem_zip_self hm2
   have:p=(p.1,p.1):=Dy rfl e.symm
   rw[this]
   exact hM _ m
  have z0:(arrOf (SortSt.mk' κ (vs.toArray.zip vs.toArray).reverse #[] 7 none)).size=vs.length:=by
   show(vs.toArray.zip vs.toArray).reverse.size=vs.length
   simp
  refine wpAny_bind (wpAny_mono (ajj_ k2 (st:=SortSt.mk' κ (vs.toArray.zip vs.toArray).reverse #[] 7 none) (Q:=λ_ st'=>(arrOf st').Perm (vs.toArray.zip vs.toArray).reverse/\failedOf st'=none/\Srt rk (arrOf st') 0 vs.length) rfl all rfl rfl (by rw[z0];lia)
   λst' a1 a2 a3=>⟨a1,a2,by rw[z0]at a3;exact a3⟩) ?_ λ_ _ e=>e)
  rintro⟨⟨⟩,st'⟩ s' ⟨rfl,hp,hf,hs⟩
  dsimp only
  have zs:(arrOf st').size=vs.length:=by rw[hp.size_eq];exact z0
  have lp:(arrOf st').toList.Perm (vs.zip vs):=by
   have:=Dl.mp hp
   rw[B7]at this
   exact this.trans ((List.reverse_perm _).trans (List.Perm.of_eq (by simp)))
  have eo:((arrOf st').map (·.2)).reverse=(((arrOf st').toList.map (·.2)).reverse).toArray:=by
   apply Array.ext'
   simp
  refine wpAny_bind (seqEpoch_at ho6 rfl (wpAny_bind (listUpdate_at ho6 rfl ?_ (by simp) ?_)))
  ·rw[hf]
   simp only[bne_self_eq_false,Au,if_false]
   refine wpAny_pure ?_
   have q:=h (((arrOf st').toList.map (·.2)).reverse) ?_ ?_
   ·unfold sortedHeap at q
    rw[eo]
    exact q
   ·have:=lp.map (·.2)
    rw[aa8_]at this
    exact(List.reverse_perm _).trans this
   ·rw[List.pairwise_reverse,CN]
    refine BV.mpr λi j hi hj hij=>?_
    have li:i<(arrOf st').size:=by simpa using hi
    have lj:j<(arrOf st').size:=by simpa using hj
    have q:=hs i j (Ae _) (BX hij) (by lia)
    rw[qC_ (AJ li),qC_ (AJ lj)]at q
    have twin:∀p∈(arrOf st').toList,p=(p.2,p.2):=λp m=>Dy (mem_zip_self (lp.mem_iff.mp m)).1 rfl
    have ei:=twin (arrOf st').toList[i] (Bp _)
    have ej:=twin (arrOf st').toList[j] (Bp _)
    rw[<-ei,<-ej]
    simpa using q
  ·rw[Array.size_reverse,Array.size_map,zs];lia
theorem abx_{r:Addr}{vs:List Value}{Q:Value->Shared->Prop}(hz:vs.length<=sizeLine)(hM:∀v∈vs,M (v,v))
  (hc:∀(Q':List Value->Shared->Prop),(∀h' tk,(∀b o,s.heap.get? b=some o->h'.get? b=some o)->s.heap.objs.size<=h'.objs.size->Q' vs { s with heap:=h',toks:=tk })->wpAny (model prog w) A.in1 (collect (.ref r)) Q' E s)
  (hk:∀h' tk,(∀b o,s.heap.get? b=some o->h'.get? b=some o)->2<=vs.length->(∀(Q':SortKind->Shared->Prop)(E':Value->Shared->Prop),Q' κ { s with heap:=h',toks:=tk }->wpAny (model prog w) A.in1.in1 (keyKind' vs.toArray) Q' E' { s with heap:=h',toks:=tk })/\Ask prog w A.in1.in1 { s with heap:=h',toks:=tk } κ M rk)
  (h:∀h' tk D e (out:List Value),out.Perm vs->(out.Pairwise λx y=>rk (y,y)<=rk (x,x))->(∀b o,s.heap.get? b=some o->h'.get? b=some o)->s.heap.objs.size<=D->h'.get? D=some (seqObj "list" out.toArray e)->Q (.ref D) { s with heap:=h',toks:=tk }) :
  wpAny (model prog w) A (call (.builtin "sorted") [.ref r] [(Str.ofString "reverse",.bool true)]) Q E s:=by
 refine call_function_entry_kw kind_sorted plain_sorted entry_sorted (args_sorted_rev _ _) ?_
 unfold Builtin.«sorted»
 refine wpAny_bind (m:=checkCount "sorted" 1 1 _) (wpAny_pure ?_)
 refine wpAny_bind (hc _ λh' tk kp sz=>?_)
 refine wpAny_bind (wpAny_newList ?_ hz)
 have hoL:(h'.push (seqObj "list" vs.toArray 0)).get? h'.objs.size=some (seqObj "list" vs.toArray 0):=AL _ rfl
 have lt:∀b o,s.heap.get? b=some o->b<h'.objs.size:=λb o e=>AM (kp b o e)
 refine wpAny_bind (wpAny_holding (wpAny_call_entry_kw slot_list_sort ⟨_,hoL,rfl⟩ entry_list_sort (af6_ (s:={ s with heap:=h'.push (seqObj "list" vs.toArray 0),toks:=tk }) (κ:=κ) (M:=M) (rk:=rk) hoL hz hM (λh2 k2 l2=>?_) λout p o=>⟨_,rfl,?_⟩) (args_list_sort_rev _ _)))
 ·exact hk h2 tk (λb o e=>k2 b o (Af (lt b o e)) (AB _ (kp b o e))) l2
 ·obtain⟨c,hc'⟩:=sortedHeap_at (vs:=vs) (out:=out.toArray) hoL
  refine wpAny_pure ⟨_,rfl,h _ tk h'.objs.size c out p o (λb o e=>?_) sz hc'⟩
  have ne:b≠h'.objs.size:=Af (lt b o e)
  unfold sortedHeap
  refine(Aw _ _ (BY ne)).trans (AB _ (AB _ ((Aw _ _ (BY ne)).trans (AB _ (kp b o e)))))
end
end L2.Ts
namespace L2.Rw
open PySem PySem.W PySem.Calls PyProof.Rows PySem.Spec
section
variable{prog:Program}{w:World}{A:Around}{E:Value->Shared->Prop}{s:Shared}{d:Addr}{es:Array DictEntry}{ep:Nat}
theorem aka_(lo:(d==sysModules)=false):KdlSrc prog w "dict" d d es.size (λi v=>∃h:i<es.size,v=es[i].key) (λh=>RawD h d es ep) where
 type:=λ_ hm=>hm.type
 there:=λ_ hm=>⟨hm.lt,hm.lt⟩
 keep:=λ_ _ hm hk=>hm.keep λo e=>hk d (.inl rfl) o e
 notList:=by decide
 notTuple:=by decide
 hint:=λ_ _ _ _ hm hq=>kdl_hint_dict hm.type hq
 iter:=λ_ _ hh hm=>⟨_,_,(λ_ _ hq=>abe_ lo hm hq),afv_ hh _ d (Af hm.lt) es ep,⟨⟨_,AL _ rfl,rfl,rfl⟩,hm.keep λo e=>AB _ e⟩⟩
theorem ab6_{T:String}{r:Addr}{n:Nat}{P:Nat->Value->Prop}{OK:Heap->Prop}{Q:List Value->Shared->Prop}(K:KdlSrc prog w T r d n P OK)(hh:A.handled=none)(hok:OK s.heap)(hn:n<=sizeLine)
  (hQ:∀h' tk acc,(∀b o,s.heap.get? b=some o->h'.get? b=some o)->s.heap.objs.size<=h'.objs.size->ItemsOf P acc n->Q acc.toList { s with heap:=h',toks:=tk }):wpAny (model prog w) A (collect (.ref r)) Q E s:=by
 obtain⟨tr,td⟩:=K.there _ hok
 unfold collect
 refine wpAny_bind (wpAny_runValue (codeAny_builtin PySem.F.entry_proto_collect ?_))
 rw[Around.under_plainId PySem.F.plain_proto_collect _]
 show wpAny _ A.in1 (newList []>>=λl=>again (.builtin "list.__iadd__" ⟨[l,.ref r],[]⟩)) _ _ s
 refine wpAny_bind (wpAny_newObj_type (wpAny_pure ⟨plainId_quiet EB _,codeAny_builtin PySem.F.entry_list_iadd ?_⟩))
 rw[Around.under_plainId EB _]
 have hok1:=K.keep _ (s.heap.push { cls:=.type "list",data:=.seq ([]:List Value).toArray }) hok λb _ o e=>AB _ e
 have key:=kdl_extend (A:=A) (s:={ s with heap:=s.heap.push { cls:=.type "list",data:=.seq ([]:List Value).toArray } })
  (R:=λ(q:Result)(s':Shared)=>∃(h':Heap)(tk:Nat)(acc:Array Value)(c:Nat),q=.ok (.ret (.ref s.heap.objs.size))/\s'={ s with heap:=h',toks:=tk }/\(∀b o,s.heap.get? b=some o->h'.get? b=some o)/\h'.get? s.heap.objs.size=some { cls:=.type "list",dict:=none,data:=.seq acc c,slots:=#[] }/\ItemsOf P acc n)
  K hh hok1 s.heap.objs.size (CF tr) (CF td) (.ref s.heap.objs.size) 0 (AL _ rfl)
  (λh' tk acc c kp hS it=>⟨h',tk,acc,c,rfl,rfl,λb o e=>kp b o (Af (AM e)) (AB _ e),hS,it⟩) hn
 have fin:∀(q:Result)(s':Shared),(∃(h':Heap)(tk:Nat)(acc:Array Value)(c:Nat),q=.ok (.ret (.ref s.heap.objs.size))/\s'={ s with heap:=h',toks:=tk }/\(∀b o,s.heap.get? b=some o->h'.get? b=some o)/\h'.get? s.heap.objs.size=some { cls:=.type "list",dict:=none,data:=.seq acc c,slots:=#[] }/\ItemsOf P acc n) ->
   q=.ok (.ret (.ref s.heap.objs.size))/\wpAny (model prog w) A (load s.heap.objs.size>>=λo=>match o.data with|.seq xs _=>pure xs.toList|_=>unsupported "internal:collect") Q E s':=by
  rintro q s' ⟨h',tk,acc,c,rfl,rfl,kp,hS,it⟩
  exact⟨rfl,wpAny_bind (wpAny_load hS (wpAny_pure (hQ h' tk acc kp (BX (AM hS)) it)))⟩
 refine wpAny_mono key (λf s' x=>?_) λe s' x=>?_
 ·cases f with
  |done f =>
   obtain⟨e,q⟩:=fin _ _ x
   cases e
   exact q
  |again c₁ =>
   refine⟨x.1,codeAny_mono x.2 λq s₂ y=>?_⟩
   obtain⟨e,q⟩:=fin _ _ y
   subst e
   exact q
 ·obtain⟨e',_⟩:=fin _ _ x
  cases e'
end
end L2.Rw
namespace L2.Ev
open PySem PySem.Spec PyProof.Rows
def zn_(cells:List (Str×Addr)):List (Str×NameKind)->List (Str×Addr)->List (Str×Addr)
 |[],acc=>acc
 |(n,k)::r,acc=>if (k==NameKind.free)=true then zn_ cells r ((n,(cells.lookup n).getD 0)::acc) else zn_ cells r acc
theorem xL_{env:Env}(names:List (Str×NameKind))(h:∀x∈names,x.2=.free->∃c,env.cells.lookup x.1=some c)(acc:List (Str×Addr)) :
  (do
   let mut cs:=acc
   for (name,kind) in names do
    if kind==.free then cs:=(name,<-cellOf env name)::cs
   return cs:Sem (List (Str×Addr)))=pure (zn_ env.cells names acc):=by
 induction names generalizing acc with
 |nil=>simp [zn_]
 |cons x r ih =>
  obtain⟨n,k⟩:=x
  have hr:∀x∈r,x.2=.free->∃c,env.cells.lookup x.1=some c:=λx hx=>h x (AC _ hx)
  by_cases hk:k=.free
  ·subst hk
   obtain⟨c,hc⟩:=h (n,.free) AD rfl
   have ih':=ih hr ((n,c)::acc)
   simp only[Cz,beq_self_eq_true,if_true,cellOf,hc,zn_,D5,pure_bind]at ih' ⊢
   exact ih'
  ·have hb:(k==NameKind.free)=false:=by simpa using hk
   have ih':=ih hr acc
   simp only[Cz,hb,Au,if_false,zn_,pure_bind]at ih' ⊢
   exact ih'
theorem jM_{cells:List (Str×Addr)}:∀{names:List (Str×NameKind)}{acc:List (Str×Addr)},(∀x∈names,x.2=.free->∃c,cells.lookup x.1=some c)->(∀x c,acc.lookup x=some c->cells.lookup x=some c) ->
  ∀x c,(zn_ cells names acc).lookup x=some c->cells.lookup x=some c
 |[],acc,_,ha,x,c,e=>ha x c e
 |(n,k)::r,acc,h,ha,x,c,e=>by
  have hr:∀x∈r,x.2=.free->∃c,cells.lookup x.1=some c:=λx hx=>h x (AC _ hx)
  unfold zn_ at e
  by_cases hk:(k==NameKind.free)=true
  ·rw[if_pos hk]at e
   refine jM_ hr (λy d e'=>?_) x c e
   obtain⟨c0,hc0⟩:=h (n,k) AD (by simpa using hk)
   rw[BA]at e'
   cases hy:y==n with
   |true =>
    rw[hy]at e'
    have e1:y=n:=by simpa using hy
    subst e1
    have e2:(cells.lookup y).getD 0=d:=by simpa using e'
    have hc1:cells.lookup y=some c0:=hc0
    rw[hc1]at e2 ⊢
    simpa using e2
   |false=>rw[hy]at e';exact ha y d e'
  ·rw[if_neg hk]at e
   exact jM_ hr ha x c e
theorem jf_{cells:List (Str×Addr)}:∀{names:List (Str×NameKind)}{acc:List (Str×Addr)}{x:Str},((∃c,acc.lookup x=some c)∨(x,NameKind.free)∈names)->∃c,(zn_ cells names acc).lookup x=some c
 |[],acc,x,h=>by
  rcases h with h|h
  ·exact h
  ·simp at h
 |(n,k)::r,acc,x,h=>by
  unfold zn_
  by_cases hk:(k==NameKind.free)=true
  ·rw[if_pos hk]
   refine jf_ ?_
   rw[BA]
   cases hy:x==n with
   |true=>exact .inl ⟨_,rfl⟩
   |false =>
    rcases h with h|h
    ·exact .inl h
    ·rcases AN.mp h with e|h
     ·injection e with e1 e2
      subst e1
      simp at hy
     ·exact .inr h
  ·rw[if_neg hk]
   refine jf_ ?_
   rcases h with h|h
   ·exact .inl h
   ·rcases AN.mp h with e|h
    ·injection e with e1 e2
     subst e2
     simp at hk
    ·exact .inr h
theorem mem_of_lookup{α β:Type}[BEq α][LawfulBEq α]:∀{l:List (α×β)}{x:α}{k:β},l.lookup x=some k->(x,k)∈l
 |[],_,_,h=>by simp at h
 |(n,j)::r,x,k,h=>by
  rw[BA]at h
  cases hy:x==n with
  |true =>
   rw[hy]at h
   have e1:x=n:=by simpa using hy
   have e2:j=k:=by simpa using h
   subst e1 e2
   exact AD
  |false=>rw[hy]at h;exact AC _ (mem_of_lookup h)
theorem zx_{env:Env}:∀{names:List (Str×NameKind)}{x:Str}{k:NameKind},(∀y∈names,y.2≠.cell)->(k=.cell∨k=.free) ->
  (names.map λ(n,k)=>if (k==NameKind.free&&env.scope.kind==.function&&env.kindOf n==some .cell) then (n,NameKind.cell) else (n,k)).lookup x=some k->(x,NameKind.free)∈names
 |[],_,_,_,_,h=>by simp at h
 |(n,j)::r,x,k,hc,hk,h=>by
  have hr:∀y∈r,y.2≠.cell:=λy hy=>hc y (AC _ hy)
  have hj:j≠.cell:=hc (n,j) AD
  have h':List.lookup x ((if (j==NameKind.free&&env.scope.kind==.function&&env.kindOf n==some .cell)=true then (n,NameKind.cell) else (n,j))::r.map λ(n,k)=>if (k==NameKind.free&&env.scope.kind==.function&&env.kindOf n==some .cell) then (n,NameKind.cell) else (n,k))=some k:=h
  by_cases c:(j==NameKind.free&&env.scope.kind==.function&&env.kindOf n==some .cell)=true
  ·rw[if_pos c,BA]at h'
   simp only[AG]at c
   have ej:j=.free:=by simpa using c.1.1
   cases hy:x==n with
   |true =>
    have e1:x=n:=by simpa using hy
    subst e1 ej
    exact AD
   |false=>rw[hy]at h';exact AC _ (zx_ hr hk h')
  ·rw[if_neg c,BA]at h'
   cases hy:x==n with
   |true =>
    rw[hy]at h'
    have e1:x=n:=by simpa using hy
    have e2:j=k:=by simpa using h'
    subst e1 e2
    rcases hk with hk|hk
    ·exact absurd hk hj
    ·subst hk;exact AD
   |false=>rw[hy]at h';exact AC _ (zx_ hr hk h')
theorem xc_{env:Env}:∀{names:List (Str×NameKind)}{x:Str},names.lookup x=some .free ->
  (names.map λ(n,k)=>if (k==NameKind.free&&env.scope.kind==.function&&env.kindOf n==some .cell) then (n,NameKind.cell) else (n,k)).lookup x=some .cell ∨
  (names.map λ(n,k)=>if (k==NameKind.free&&env.scope.kind==.function&&env.kindOf n==some .cell) then (n,NameKind.cell) else (n,k)).lookup x=some .free
 |[],_,h=>by simp at h
 |(n,j)::r,x,h=>by
  have key:∀(z:Str×NameKind),z=(if (j==NameKind.free&&env.scope.kind==.function&&env.kindOf n==some .cell)=true then (n,NameKind.cell) else (n,j)) ->
   (List.lookup x (z::r.map λ(n,k)=>if (k==NameKind.free&&env.scope.kind==.function&&env.kindOf n==some .cell) then (n,NameKind.cell) else (n,k))=some .cell ∨
    List.lookup x (z::r.map λ(n,k)=>if (k==NameKind.free&&env.scope.kind==.function&&env.kindOf n==some .cell) then (n,NameKind.cell) else (n,k))=some .free):=by
   intro z hz
   rw[BA]at h
   cases hy:x==n with
   |true =>
    rw[hy]at h
    have e2:j=.free:=by simpa using h
    subst e2
    by_cases c:(NameKind.free==NameKind.free&&env.scope.kind==.function&&env.kindOf n==some .cell)=true
    ·rw[if_pos c]at hz;subst hz;left;rw[BA,hy]
    ·rw[if_neg c]at hz;subst hz;right;rw[BA,hy]
   |false =>
    rw[hy]at h
    have ih:=xc_ (env:=env) h
    have hz1:z.1=n:=by rw[hz];split<;>rfl
    obtain⟨z1,z2⟩:=z
    simp only at hz1
    subst hz1
    rw[BA,hy]
    exact ih
  exact key _ rfl
structure Bk where
 C:Addr
 s:Shared
 H:Hp
 ex:List Addr
abbrev blk(X:Cx)(N':List Str)(scope:Scope)(b:Bk):Cx :=
 { X with N:=N',s₀:=b.s,H₀:=b.H,env:=compEnvC scope (zn_ X.env.cells scope.names []) b.C X.env,outer:=X.stack,stack:=X.stack,ex:=b.ex,fn:=λ_=>false,pn:=[],xe:=λ_ _=>False }
structure BkScope(X:Cx)(N':List Str)(src:List (Option Nat))(scope:Scope):Prop where
 kind:scope.kind=.function
 nocell:∀y∈scope.names,y.2≠.cell
 names:∀y∈scope.names,y.2=.local->scope.names.lookup y.1=some .local
 frees:∀y∈scope.names,y.2=.free->X.env.kindOf y.1=some .cell∨X.env.kindOf y.1=some .free
 len:src.length=N'.length
 out:∀i j:Nat,src[i]?=some (some j)->∃x:Str,N'[i]?=some x/\X.N[j]?=some x/\scope.names.lookup x=some .free
def jL_(src:List (Option Nat))(σ:St):St:=src.map λo=>o.bind λj=>(σ[j]?).bind id
def PTs(X:Cx)(ifs:List Expr)(t:TT):Prop :=
 ∀(pins:List (Addr×Obj))(s:Shared)(σ:St)(H:Hp)(Q:Bool->Hp->Prop),Inv X pins σ H s->t σ H Q ->
  wpAny (model X.prog X.w) X.A (forIn ifs true λc r=>if r=true then do let ok <-isTrue c X.env (eval c X.env);pure (ForInStep.yield ok) else pure (ForInStep.yield r)) (TP X pins σ Q) X.xe s
def tYes:TT:=λ_ H Q=>Q true H
theorem zz_{X:Cx}:PTs X [] tYes:=λ_ _ _ H _ I h=>wpAny_tests_nil ⟨H,I,h⟩
theorem z6_{X:Cx}{c:Expr}{t:TT}(h:PT X c t):PTs X [c] t:=λpins s σ H Q I q=>wpAny_tests_one (h pins s σ H Q I q)
def yN_(src:List (Option Nat))(wi:TI)(g:Bk->TG)(tc:Bk->TT)(te:Bk->TE):TE:=λσ H Q=>wi σ H λJ H1=>∀(b:Bk)(D:Addr),H1 D=none ->
 ∃W:Nat->Nat->St->Hp->Prop,(∃m,W 0 m (jL_ src σ) (upd H1 D (.lst [])))/\∀i m σ' H',W i m σ' H' ->
  (J.stop i H'/\Q (.ref D) H')∨(J.go i H'/\∃N:St->Hp->Prop,(∀σ'' H'',N σ'' H''->∃m',m'<m/\W (i+1) m' σ'' H'') /\
   ∀x H'',J.yld i H' x H''->g b x σ' H'' λσ2 H2=>tc b σ2 H2 λok H3=>if ok=true then te b σ2 H3 λy H4=>∃ys,H4 D=some (.lst ys)/\ys.length<sizeLine/\N σ2 (upd H4 D (.lst (ys++[y]))) else N σ2 H3)
section
variable{prog:Program}{w:World}{A:Around}{R:Result->Shared->Prop}{s:Shared}
theorem xW_{elt target iter:Expr}{ifs:List Expr}{scope:Scope}{pos:Pos}{it acc:Value}{env:Env}(I:Nat->Shared->Prop)
  (turn:∀n s,I n s->wpAny (model prog w) A (pyNext it) (λr s₁=>match r with
   |none=>R (.ok .next) s₁
   |some v=>wpAny (model prog w) A (letOwnedTupleGo target it v) (λ_ s₁'=>wpAny (model prog w) A (assign target env v) (λ_ s₂ =>
     wpAny (model prog w) A (forIn ifs true λc r=>if r=true then do let ok <-isTrue c env (eval c env);pure (ForInStep.yield ok) else pure (ForInStep.yield r)) (λok s₃ =>
      if ok=true then wpAny (model prog w) A (eval elt env) (λx s₄ =>
       wpAny (model prog w) A (call (.builtin "list.append") [acc,x]) (λ_ s₅=>∃m,m<n/\I m s₅) (λ_ _=>False) s₄) (λ_ _=>False) s₃
      else ∃m,m<n/\I m s₃) (λ_ _=>False) s₂) (λ_ _=>False) s₁') (λ_ _=>False) s₁) (λ_ _=>False) s)
  (n:Nat) (h:I n s) :
  codeAny (model prog w) A (.compLoop (.ListComp elt [⟨target,iter,ifs,0⟩] scope pos) 0 it acc env) R s:=by
 refine codeAny_loop rfl I (λn s hI=>?_) n h
 show wpAny _ A ((compTurn (.ListComp elt [⟨target,iter,ifs,0⟩] scope pos) 0 it acc env).onRaise (λx=>do noteFrame x env;theTreesLotGoes x)) _ _ s
 refine wpAny_noted ?_
 rw[compTurn_list]
 refine wpAny_bind (wpAny_standAt (wpAny_bind (wpAny_mono (turn n s hI) (λr s₁ h₁=>?_) λ_ _ h'=>h'.elim)))
 cases r with
 |none=>exact wpAny_pure h₁
 |some v =>
  refine wpAny_bind (wpAny_mono h₁ (λ_ s₁' h₁'=>?_) λ_ _ h'=>h'.elim)
  refine wpAny_bind (wpAny_mono h₁' (λ_ s₂ h₂=>wpAny_bind (wpAny_mono h₂ (λok s₃ h₃=>?_) λ_ _ h'=>h'.elim)) λ_ _ h'=>h'.elim)
  cases ok with
  |false=>exact wpAny_pure ⟨rfl,h₃⟩
  |true =>
   exact wpAny_bind (wpAny_bind (wpAny_mono h₃ (λx s₄ h₄=>wpAny_bind (wpAny_mono h₄ (λ_ s₅ h₅=>wpAny_pure (wpAny_pure ⟨rfl,h₅⟩)) λ_ _ h'=>h'.elim)) λ_ _ h'=>h'.elim))
end
theorem vI_{X:Cx}{elt tg iter:Expr}{ifs:List Expr}{scope:Scope}{pos pos':Pos}{N':List Str}{src:List (Option Nat)}{wi:TI}{g:Bk->TG}{tc:Bk->TT}{te:Bk->TE}(hc:X.calm=true)(hi:PI X tg iter wi)(S:BkScope X N' src scope)
  (hg:∀b,PG (blk X N' scope b) tg (g b)) (ht:∀b,PTs (blk X N' scope b) ifs (tc b)) (he:∀b,PE (blk X N' scope b) elt (te b)) (hs:∀x,foldedSetIterable iter X.env x=pure x) (use:Option (Value->Sem Unit)) (R:Value->Shared->Prop)
  {pins:List (Addr×Obj)} {s:Shared} {σ:St} {H:Hp} {Q:V->Hp->Prop} (I:Inv X pins σ H s) (h:yN_ src wi g tc te σ H Q)
  (fin:∀(D C:Addr)(H5:Hp)(s6:Shared)(m:Str->Option Value),s6.heap.Ns C m->js_ X pins H5 C->(∀h',Heap.SameBut C s6.heap h'->Inv X pins σ H5 { s6 with heap:=h' })->Q (.ref D) H5->compPost (model X.prog X.w) X.A X.xe use R (.ref D) C (.ok .next) s6) :
  wpAny (model X.prog X.w) X.A (comprehension (.ListComp elt [⟨tg,iter,ifs,0⟩] scope pos) scope X.env pos' (newList []) false (eval iter X.env) use) R X.xe s:=by
 have hfr:∀x∈scope.names,x.2=.free->∃c,X.env.cells.lookup x.1=some c:=λx hx hf=>I.ok.has x.1 (S.frees x hx hf)
 have clS:∀x c,(zn_ X.env.cells scope.names []).lookup x=some c->X.env.cells.lookup x=some c:=jM_ hfr (λx c e=>by simp at e)
 refine wpAny_comprehension_free (use:=use) rfl hs (xL_ scope.names hfr []) S.kind S.names ?_
 refine thn (hi pins s σ H _ I h) λv s1 h1=>thn h1 λitv s2 h2=>?_
 obtain⟨it,fp,tn,J,H2,rfl,I2,T,st2,f2,h3⟩:=h2
 have hD:H2 s2.heap.objs.size=none:=I2.fresh
 refine wpAny_newObj_type ?_
 have I3:Inv X pins σ (upd H2 s2.heap.objs.size (.lst [])) { s2 with heap:=s2.heap.push { cls:=.type "list",data:=.seq ([]:List Value).toArray } } :=
  I2.laid (t':=s2.toks) (λb u e=>AB _ e) (AH _) ⟨Ae _,[],0,.nil,AL _ rfl⟩
 have hfp:∀b∈fp,b<s2.heap.objs.size:=λb hb=>by
  obtain⟨o,e,_⟩:=T.obj _ _ st2 b hb
  exact AM e
 have st3:tn 0 (s2.heap.push { cls:=.type "list",data:=.seq ([]:List Value).toArray }):=T.keep _ _ _ st2 λb _ o e=>AB _ e
 generalize hs3:({ s2 with heap:=s2.heap.push { cls:=.type "list",data:=.seq ([]:List Value).toArray } }:Shared)=s3 at I3 ⊢
 have st3':tn 0 s3.heap:=by rw[<-hs3];exact st3
 have hsz3:s3.heap.objs.size=s2.heap.objs.size+1:=by rw[<-hs3];exact Bi ..
 have fp3:∀b∈fp,(upd H2 s2.heap.objs.size (.lst [])) b=none:=λb hb=>by rw[ql_ (Af (hfp b hb))];exact(f2 b hb).1
 generalize hDe:s2.heap.objs.size=D at *
 generalize hH3:upd H2 D (.lst [])=H3 at *
 refine wpAny_newFunctionEnv S.nocell (by intro y hy;simp at hy) (λh₁ hns₁ hsb₁=>?_) S.kind
 have old:∀b o,s3.heap.get? b=some o->h₁.get? b=some o:=λb o e=>hsb₁.extBut b o (Af (AM e)) (AB _ e)
 have Yok:(blk X N' scope ⟨s3.heap.objs.size,s3,H3,fp⟩).Ok:=by
  refine⟨I.ok.mod,S.kind,I.ok.glob,I.ok.blt,AH _,λx y c e1 e2=>I.ok.inj x y c (clS x c e1) (clS y c e2),λx hx=>?_,λx c z=>(by cases z),I.ok.hd,I.ok.frames,.inl rfl,λb hb=>⟨?_,λx c e=>(f2 b hb).2.2.2.2.1 x c (clS x c e)⟩,I3.bs,?_,λb o e hb=>?_,λb hb z=>?_,I3.stack,I3.stkFree⟩
  ·have hx':(x,NameKind.free)∈scope.names:=by
    rcases hx with hx|hx
    ·exact zx_ (env:=X.env) S.nocell (.inl rfl) hx
    ·exact zx_ (env:=X.env) S.nocell (.inr rfl) hx
   exact jf_ (.inr hx')
  ·exact Af (AZ (hfp b hb) (by rw[hsz3];exact B9 _))
  ·exact Ag I.ok.bsz I3.sz
  ·rcases (f2 b hb).2.2.2.1 with z|z
   ·exact I.ok.noex b o e z
   ·exact absurd (AZ (AM e) (Ag I.ok.bsz z)) (Bh _)
  ·rcases AN.mp (I3.stkSub b z) with e|e
   ·exact(f2 b hb).2.1 e
   ·exact(f2 b hb).2.2.1 e
 generalize hY:blk X N' scope ⟨s3.heap.objs.size,s3,H3,fp⟩=Y at Yok
 have I4:Inv (blk X N' scope ⟨s3.heap.objs.size,s3,H3,fp⟩) [] (jL_ src σ) H3 { s3 with heap:=h₁,toks:=s3.toks+([]:List (Str×Value)).length }:=by
  subst hY
  refine⟨Yok,rfl,I3.bare,Un.kept old,⟨_,hns₁,λi x v e1 e2 e3=>?_⟩,λx c e=>?_,I3.fresh,λx c e=>I3.freeC x c (clS x c e),λp hp=>by simp at hp,I3.hok.kept old,?_⟩
  ·unfold jL_ at e2
   rw[Ac]at e2
   cases hsrc:src[i]? with
   |none=>rw[hsrc]at e2;cases e2
   |some o =>
    rw[hsrc]at e2
    cases o with
    |none=>have e2':some (none:Option V)=some (some v):=e2;cases e2'
    |some j =>
     have e2':some ((σ[j]?).bind id)=some (some v):=e2
     have e2'':(σ[j]?).bind id=some v:=AW e2'
     have hσ:σ[j]?=some (some v):=by
      cases q:σ[j]? with
      |none=>rw[q]at e2'';cases e2''
      |some z =>
       rw[q]at e2''
       have:z=some v:=e2''
       rw[this]
     obtain⟨x',n1,n2,n3⟩:=S.out i j hsrc
     have ex:x'=x:=AW (n1.symm.trans e1)
     subst ex
     obtain⟨m0,_,hl⟩:=I3.loc
     have hk:=S.frees (x',.free) (mem_of_lookup n3) rfl
     have hvis:Vis X.env.scope x':=hk.elim (λz=>.inr (.inl z)) λz=>.inr (.inr z)
     obtain⟨u,r,l⟩:=hl j x' v n2 hσ hvis
     refine⟨u,r,.inr ?_⟩
     rcases l with⟨l1,_⟩|⟨_,c,l2,o,l3,l4⟩
     ·rcases hk with z|z
      ·rw[show X.env.kindOf x'=some .local from l1]at z;cases z
      ·rw[show X.env.kindOf x'=some .local from l1]at z;cases z
     ·obtain⟨c',hc'⟩:=jf_ (cells:=X.env.cells) (names:=scope.names) (acc:=[]) (.inr (mem_of_lookup n3))
      have e4:=clS x' c' hc'
      rw[l2]at e4
      cases e4
      exact⟨xc_ (env:=X.env) n3,c,hc',o,old _ _ l3,l4⟩
  ·obtain⟨v,o,ho,hd⟩:=I3.cell x c (clS x c e)
   exact⟨v,o,old _ _ ho,hd⟩
  ·show(jL_ src σ).length=N'.length
   unfold jL_
   rw[AA]
   exact S.len
 obtain⟨W,⟨m0,w0⟩,turn⟩:=h3 ⟨s3.heap.objs.size,s3,H3,fp⟩ D hD
 rw[hH3]at w0
 have loop:codeAny (model X.prog X.w) X.A (.compLoop (.ListComp elt [⟨tg,iter,ifs,0⟩] scope pos) 0 (.ref it) (.ref D) (blk X N' scope ⟨s3.heap.objs.size,s3,H3,fp⟩).env)
   (compPost (model X.prog X.w) X.A X.xe use R (.ref D) s3.heap.objs.size) { s3 with heap:=h₁,toks:=s3.toks+([]:List (Str×Value)).length }:=by
  have stat:∀{H':Hp},(∀b∈fp,H' b=none)->∀b∈fp,js_ (blk X N' scope ⟨s3.heap.objs.size,s3,H3,fp⟩) [] H' b:=λhn b hb =>
   ⟨hn b hb,(I4.ok.exf b hb).1,I4.ok.exfs b hb,.inl hb,(I4.ok.exf b hb).2,λp hp=>by simp at hp⟩
  refine xW_ (λn s'=>∃i σ' H',Inv (blk X N' scope ⟨s3.heap.objs.size,s3,H3,fp⟩) [] σ' H' s'/\tn i s'.heap/\(∀b∈fp,H' b=none)/\W i n σ' H') ?_ m0
   ⟨0,_,H3,I4,T.keep _ _ _ st3' λb _ o e=>old b o e,fp3,w0⟩
  rintro n s5 ⟨i,σ5,H5,I5,st5,fr5,w5⟩
  rcases turn i n σ5 H5 w5 with⟨stop,qn⟩|⟨go,N,hN,step⟩
  ·refine thn (T.done (blk X N' scope ⟨s3.heap.objs.size,s3,H3,fp⟩) rfl rfl rfl hc i [] s5 σ5 H5 _ I5 (stat fr5) st5 stop) λr s6 ⟨hr,I6⟩=>?_
   subst hr
   obtain⟨m,hn,_⟩:=I6.loc
   have hC:H5 s3.heap.objs.size=none:=I6.free
   refine fin D s3.heap.objs.size H5 s6 m hn (I3.fpOk (AH _) hC) (λh' sb=>?_) qn
   have nC:∀b o,s3.heap.get? b=some o->b≠s3.heap.objs.size:=λb o e=>Af (AM e)
   have keep:∀b o,b≠s3.heap.objs.size->s6.heap.get? b=some o->h'.get? b=some o:=λb o hb e=>(sb.2 b hb).trans e
   have hok:HOk X.prog X.w H5 h':=λb u e=>(I6.hok b u e).stay (λc v hc q=>keep c v (by
    rcases hc with z|z
    ·rw[z];intro z2;rw[z2,hC]at e;cases e
    ·intro z2;rw[z2,hC]at z;cases z) q) (λ_ q=>q) λ_ _ q=>q
   have u6:Un (frs X.stack) fp H3 H5 s3.heap s6.heap:=I6.base
   have un:Un (frs X.stack) fp H3 H5 s3.heap h':=⟨λb o e n hb hx=>keep b o (nC b o e) (u6.keep b o e n hb hx),λb o e n hb hx=>by
     obtain⟨sl,q⟩:=u6.slot b o e n hb hx
     exact⟨sl,keep b _ (nC b o e) q⟩,u6.free,λb o e hx=>by
     obtain⟨o',q⟩:=u6.there b o e hx
     exact⟨o',keep b _ (nC b o e) q⟩,u6.tups,u6.frzs,u6.tbls⟩
   refine I3.call' (s':={ s6 with heap:=h' }) (ch:=fp) I6.os un hok I6.bare λb hb=>?_
   exact⟨(f2 b hb).2.2.2.1,(f2 b hb).2.1,(f2 b hb).2.2.2.2.1,(f2 b hb).2.2.2.2.2⟩
  ·refine thn (T.item (blk X N' scope ⟨s3.heap.objs.size,s3,H3,fp⟩) rfl rfl rfl hc i [] s5 σ5 H5 _ I5 (stat fr5) st5 go) λr s6 ⟨u,hr,h6⟩=>?_
   subst hr
   refine thn h6 λ_ s7 ⟨x,H7,I7,r7,y7,st7,fr7⟩=>?_
   have I7':=I7.pinned (stat fr7) (T.obj _ _ st7)
   have again:∀{σ9:St}{H9:Hp}{s9:Shared},Inv (blk X N' scope ⟨s3.heap.objs.size,s3,H3,fp⟩) ([]++xr_ fp s7.heap) σ9 H9 s9->N σ9 H9->∃m,m<n/\∃i σ' H',Inv (blk X N' scope ⟨s3.heap.objs.size,s3,H3,fp⟩) [] σ' H' s9/\tn i s9.heap/\(∀b∈fp,H' b=none)/\W i m σ' H':=λ{σ9 H9 s9} I9 n9=>by
    obtain⟨m',hm,w9⟩:=hN σ9 H9 n9
    refine⟨m',hm,i+1,σ9,H9,I9.unpinned,T.keep _ _ _ st7 λb hb o e=>(I9.pin (b,o) (Ai _ (Ai _ (zV_ hb e)))).1,λb hb=>?_,w9⟩
    obtain⟨o,e,d⟩:=T.obj _ _ st7 b hb
    exact(I9.pin (b,o) (Ai _ (Ai _ (zV_ hb e)))).2.1
   refine thn (hg _ _ s7 σ5 H7 x u _ I7' r7 (step x H7 y7)) λ_ s8 ⟨σ8,H8,I8,q8⟩=>?_
   refine thn (ht _ _ s8 σ8 H8 _ I8 q8) λok s9 ⟨H9,I9,q9⟩=>?_
   cases ok with
   |false=>exact again I9 q9
   |true =>
    refine thn (he _ _ s9 σ8 H9 _ I9 q9) λyv s10 ⟨y,H10,I10,r10,ys,e10,l10,n10⟩=>?_
    refine thn (z9_ _ s10 σ8 H10 (.ref D) [y] (.ref D) [yv] (λ_ H11=>N σ8 H11) I10 rfl (.cons r10 .nil) ⟨D,ys,y,rfl,rfl,e10,l10,n10⟩) λ_ s11 ⟨_,H11,I11,_,n11⟩=>again I11 n11
 have self:=T.self X.A 0 { s3 with heap:=h₁,toks:=s3.toks+([]:List (Str×Value)).length } (λit' s'=>codeAny (model X.prog X.w) X.A (.compLoop (.ListComp elt [⟨tg,iter,ifs,0⟩] scope pos) 0 it' (.ref D) (blk X N' scope ⟨s3.heap.objs.size,s3,H3,fp⟩).env)
   (compPost (model X.prog X.w) X.A X.xe use R (.ref D) s3.heap.objs.size) s') (notedBy (model X.prog X.w) X.A (blk X N' scope ⟨s3.heap.objs.size,s3,H3,fp⟩).env λx s'=>compPost (model X.prog X.w) X.A X.xe use R (.ref D) s3.heap.objs.size (.error x) s')
   (T.keep _ _ _ st3' λb _ o e=>old b o e) loop
 exact codeAny_compStart_list loop self
theorem q8_{X:Cx}{elt tg iter:Expr}{ifs:List Expr}{scope:Scope}{pos:Pos}{N':List Str}{src:List (Option Nat)}{wi:TI}{g:Bk->TG}{tc:Bk->TT}{te:Bk->TE}(hc:X.calm=true)(hi:PI X tg iter wi)(S:BkScope X N' src scope)
  (hg:∀b,PG (blk X N' scope b) tg (g b)) (ht:∀b,PTs (blk X N' scope b) ifs (tc b)) (he:∀b,PE (blk X N' scope b) elt (te b)) (hs:∀x,foldedSetIterable iter X.env x=pure x:=by intro _;rfl) :
  PE X (.ListComp elt [⟨tg,iter,ifs,0⟩] scope pos) (yN_ src wi g tc te):=by
 intro pins s σ H Q I h
 rw[eval_ListComp]
 exact vI_ hc hi S hg ht he hs none (EP X pins σ Q) I h λD C H5 s6 m hn _ k q=>⟨m,hn,λh' sb=>⟨.ref D,H5,k h' sb,rfl,q⟩⟩
theorem vu_{X:Cx}{elt tg iter:Expr}{ifs:List Expr}{scope:Scope}{pos spos py:Pos}{N':List Str}{src:List (Option Nat)}{wi:TI}{g:Bk->TG}{tc:Bk->TT}{te:Bk->TE}{i:Nat}{y:Str}(hN:X.N.Nodup)(hy:X.N[i]?=some y)(hx:Loc X.env.scope y)
  (hw:swapsWith (.ListComp elt [⟨tg,iter,ifs,0⟩] scope pos) (some (.Name y py)) spos.line X.env=pure true) (hc:X.calm=true) (hi:PI X tg iter wi) (S:BkScope X N' src scope)
  (hg:∀b,PG (blk X N' scope b) tg (g b)) (ht:∀b,PTs (blk X N' scope b) ifs (tc b)) (he:∀b,PE (blk X N' scope b) elt (te b)) (hs:∀x,foldedSetIterable iter X.env x=pure x:=by intro _;rfl)
  (hf:X.fn y=true∨X.env.scope.names.lookup y=some .local:=by first|exact .inl rfl|exact .inr rfl|assumption) :
  PS X (.Assign [.Name y py] (.ListComp elt [⟨tg,iter,ifs,0⟩] scope pos) spos) (tAsg (yN_ src wi g tc te) (zy_ i)):=by
 intro pins s σ H D I h
 rw[exec_Assign_Name_used _ _ _ _ hw]
 refine wpAny_bind (wpAny_standAt (wpAny_bind ?_))
 show wpAny _ X.A (do let _ <-comprehension (.ListComp elt [⟨tg,iter,ifs,0⟩] scope pos) scope X.env _ (newList []) false (eval iter X.env) (some (assign (.Name y py) X.env))) _ _ s
 refine wpAny_bind (wpAny_mono (vI_ hc hi S hg ht he hs (some (assign (.Name y py) X.env)) (λ_ s'=>SP X pins D .next s') I h ?_) (λ_ s' hq=>wpAny_pure (wpAny_pure hq)) λ_ _ e=>e)
 intro L C H5 s6 m hn fp k q
 show wpAny _ X.A (assign (.Name y py) X.env (.ref L)) _ _ _
 have I6:Inv X pins σ H5 s6:=k s6.heap ⟨rfl,λ_ _=>rfl⟩
 refine wpAny_assign_Name (vK_ I6 hN hy hx (v:=.ref L) rfl (λs7 I7 ⟨a,sb,ha⟩=>?_) hf)
 have hCa:C≠a:=by
  rcases ha with rfl|ha
  ·exact fp.2.1
  ·exact λz=>fp.2.2.2.2.1 _ _ ha z.symm
 refine⟨m,hn.sameBut sb hCa,λh' sb'=>⟨_,H5,?_,q⟩⟩
 have keep:∀b o,b≠C->s7.heap.get? b=some o->h'.get? b=some o:=λb o hb e=>(sb'.2 b hb).trans e
 have hok:HOk X.prog X.w H5 h':=λb u e=>(I7.hok b u e).stay (λc v hc' q'=>keep c v (by
  rcases hc' with z|z
  ·rw[z];intro z2;rw[z2,fp.1]at e;cases e
  ·intro z2;rw[z2,fp.1]at z;cases z) q') (λ_ q'=>q') λ_ _ q'=>q'
 refine I7.call' (s':={ s7 with heap:=h' }) (ch:=[C]) rfl ⟨λb o e n hb hx'=>keep b o (λz=>hx' (by rw[z];exact AD ..)) e,λb o e n hb hx'=>⟨o.slots,keep b o (λz=>hx' (by rw[z];exact AD ..)) e⟩,λb o e n hx'=>n,λb o e hx'=>⟨o,keep b o (λz=>hx' (by rw[z];exact AD ..)) e⟩,λ_ _ e=>e,λ_ _ _ e=>e,λ_ ps e=>⟨#[],by rw[Array.append_empty];exact e⟩⟩ hok I7.bare λb hb=>?_
 rw[Am.mp hb]
 exact⟨fp.2.2.2.1,fp.2.1,fp.2.2.2.2.1,fp.2.2.2.2.2⟩
end L2.Ev
namespace L2.Ev
open PySem PySem.Spec PyProof.Rows
theorem jH_{α:Type}[Dat α]{J:It}{n:Nat}{σ0:St}{H1:Hp}{D:Addr}{Q:V->Hp->Prop}{g:TG}{tc:TT}{te:TE}(hD:H1 D=none)(Sp:St->Prop)(out:Nat->Option α)(hn:n<=sizeLine)(h0:Sp σ0)
  (hstop:∀H',Same H1 H'->J.stop n H') (hgo:∀i H',i<n->Same H1 H'->J.go i H')
  (hturn:∀(i:Nat)(σ':St)(H':Hp)(Yes:V->St->Hp->Prop)(No:St->Hp->Prop),i<n->Sp σ'->Same H1 H'->(∀y σ2 H4 a,Sp σ2->Same H' H4->out i=some a->Dat.is H4 y a->Yes y σ2 H4)->(∀σ2 H3,Sp σ2->Same H' H3->out i=none->No σ2 H3) ->
   ∀x H'',J.yld i H' x H''->g x σ' H'' λσ2 H2=>tc σ2 H2 λok H3=>if ok=true then te σ2 H3 λy H4=>Yes y σ2 H4 else No σ2 H3)
  (hend:∀H',Same H1 H'->LstAt H' D ((List.range n).filterMap out)->Q (.ref D) H') :
  ∃W:Nat->Nat->St->Hp->Prop,(∃m,W 0 m σ0 (upd H1 D (.lst [])))/\∀i m σ' H',W i m σ' H' ->
  (J.stop i H'/\Q (.ref D) H')∨(J.go i H'/\∃N:St->Hp->Prop,(∀σ'' H'',N σ'' H''->∃m',m'<m/\W (i+1) m' σ'' H'') /\
   ∀x H'',J.yld i H' x H''->g x σ' H'' λσ2 H2=>tc σ2 H2 λok H3=>if ok=true then te σ2 H3 λy H4=>∃ys,H4 D=some (.lst ys)/\ys.length<sizeLine/\N σ2 (upd H4 D (.lst (ys++[y]))) else N σ2 H3):=by
 have s1:∀{H':Hp}(o:HO),Same H1 H'->Same H1 (upd H' D o):=λo e b u q=>by rw[ql_ (qA_ q hD)];exact e b u q
 refine⟨λi m σ' H'=>m=n-i/\i<=n/\Sp σ'/\Same H1 H'/\LstAt H' D ((List.range i).filterMap out),⟨n,by simp,Ae _,h0,s1 _ (Same.refl _),[],qc_,.nil⟩,?_⟩
 rintro i m σ' H' ⟨rfl,hi,hS,hH,hL⟩
 by_cases hlt:i<n
 ·refine .inr ⟨hgo i H' hlt hH,λσ2 H2=>Sp σ2/\Same H1 H2/\LstAt H2 D ((List.range (i+1)).filterMap out),λσ2 H2 ⟨a,b,c⟩=>⟨n-(i+1),by omega,rfl,hlt,a,b,c⟩,?_⟩
  obtain⟨vs,eD,iD⟩:=hL
  have lv:vs.length<=i:=by
   have:=AT iD
   have:=List.length_filterMap_le out (List.range i)
   rw[Bt]at this
   omega
  refine hturn i σ' H' (λy σ2 H4=>∃ys,H4 D=some (.lst ys)/\ys.length<sizeLine/\(λσ2 H2=>Sp σ2/\Same H1 H2/\LstAt H2 D ((List.range (i+1)).filterMap out)) σ2 (upd H4 D (.lst (ys++[y])))) _ hlt hS hH (λy σ2 H4 a a1 a2 a3 a4=>?_) (λσ2 H3 a1 a2 a3=>?_)
  ·have e4:=a2 _ _ eD
   have t4:Tups H4 (upd H4 D (.lst (vs++[y]))):=λp ys q=>by rw[ql_ (zW_ q e4 (by intro z;cases z))];exact q
   refine⟨vs,e4,by omega,a1,s1 _ (hH.trans a2),vs++[y],qc_,?_⟩
   rw[B5,EZ,BW,a3]
   exact EL (Its.mono ((Tups.same a2).trans t4) iD) (Dat.mono t4 a4)
  ·refine⟨a1,hH.trans a2,vs,a2 _ _ eD,?_⟩
   rw[B5,EZ,BW,a3]
   simpa using Its.mono (Tups.same a2) iD
 ·have e:i=n:=by omega
  subst e
  exact .inl ⟨hstop H' hH,hend H' hH hL⟩
inductive SK
 |lst
 |tup
def SK.iter:SK->Heap->Addr->Addr->Nat->Prop
 |.lst,h,i,l,k=>h.IsListIter i l k
 |.tup,h,i,l,k=>h.IsTupleIter i l k
def SK.seq:SK->Heap->Addr->Array Value->Prop
 |.lst,h,l,xs=>h.IsList l xs
 |.tup,h,l,xs=>h.IsTuple l xs
def SK.ob:SK->Addr->Obj
 |.lst,l=>{ cls:=.type "list_iterator",data:=.fields #[.ref l,.int 0 0] }
 |.tup,l=>{ cls:=.type "tuple_iterator",data:=.fields #[.ref l,.int 0 0] }
def SK.is(K:PySem.W.Frag)(H:Hp)(l:Addr)(xs:List V):SK->Prop
 |.lst=>SqL K H l xs
 |.tup=>SqT K H l xs
theorem SK.iter_keep{k:SK}{h h':Heap}{i l:Addr}{n:Nat}(x:k.iter h i l n)(e:∀o,h.get? i=some o->h'.get? i=some o):k.iter h' i l n:=by
 cases k with
 |lst=>obtain⟨o,a,b⟩:=x;exact⟨o,e o a,b⟩
 |tup=>obtain⟨o,a,b⟩:=x;exact⟨o,e o a,b⟩
theorem SK.seq_keep{k:SK}{h h':Heap}{l:Addr}{xs:Array Value}(x:k.seq h l xs)(e:∀o,h.get? l=some o->h'.get? l=some o):k.seq h' l xs:=by
 cases k with
 |lst=>obtain⟨o,a,b⟩:=x;exact⟨o,e o a,b⟩
 |tup=>obtain⟨o,a,b⟩:=x;exact⟨o,e o a,b⟩
theorem SK.iter_new{k:SK}{h:Heap}{i l:Addr}(e:h.get? i=some (k.ob l)):k.iter h i l 0:=by
 cases k with
 |lst=>exact⟨_,e,rfl,rfl⟩
 |tup=>exact⟨_,e,rfl,rfl⟩
theorem SK.at{X:Cx}{pins:List (Addr×Obj)}{σ:St}{H:Hp}{s:Shared}{l:Addr}{xs:List V}{k:SK}(I:Inv X pins σ H s)(h:k.is X.K H l xs):∃its:List Value,Vals xs its/\k.seq s.heap l its.toArray:=by
 cases k with
 |lst=>obtain⟨its,r,p,_⟩:=I.list h;exact⟨its,r,p.isList⟩
 |tup=>obtain⟨its,r,p,_⟩:=I.tuple h;exact⟨its,r,p⟩
theorem SK.inj{X:Cx}{pins:List (Addr×Obj)}{σ:St}{H:Hp}{s:Shared}{l:Addr}{xs ys:List V}{k:SK}(I:Inv X pins σ H s)(h:k.is X.K H l xs)(h':k.is X.K H l ys):xs=ys:=by
 cases k with
 |lst=>exact I.list_inj h h'
 |tup=>exact I.tuple_inj h h'
section
variable{prog:Program}{w:World}{A:Around}{E:Value->Shared->Prop}{s:Shared}
theorem aho_{it t:Addr}{i:Nat}{items:Array Value}{x:Value}{Q:Value->Shared->Prop}(hit:s.heap.IsTupleIter it t i)(ht:s.heap.IsTuple t items)(hx:items[i]?=some x)
  (hQ:∀h',h'.IsTupleIter it t (i+1)->Heap.SameBut it s.heap h'->Q x { s with heap:=h' }):wpAny (model prog w) A (Builtin.SmallTypes.nextOf (.ref it)) Q E s:=by
 obtain⟨ob,hob,hcl,hdt⟩:=id hit
 obtain⟨o2,ho2,_,n2,hd2⟩:=ht
 unfold Builtin.SmallTypes.nextOf
 refine wpAny_bind (wpAny_callSpecial?_slot (name:=Str.ofString "__next__") hit.typeIs CM (wpAny_call_entry CM hit.typeIs Di ?_ (Db _)))
 show wpAny _ _ (field (.ref it) 0>>=λ_=>_) _ _ s
 refine wpAny_bind (wpAny_field hob hdt (x:=Value.ref t) rfl ?_)
 show wpAny _ _ (if (Value.ref t==Value.none)=true then _ else (_:Sem _)) _ _ s
 rw[if_neg (show ¬ (Value.ref t==Value.none)=true from λz=>AS z)]
 show wpAny _ _ (field (.ref it) 1>>=λ_=>_) _ _ s
 refine wpAny_bind (wpAny_field hob hdt (x:=Value.int i 0) rfl ?_)
 show wpAny _ _ (seqItems? (.ref t)>>=λ_=>_) _ _ s
 refine wpAny_bind (wpAny_seqItems ho2 hd2 ?_)
 simp only[At,hx]
 refine wpAny_bind (wpAny_setField hob hdt (by simp) (wpAny_pure ⟨x,rfl,wpAny_pure (hQ _ ⟨_,BI _ hob (B2 (BS hdt _)),(DB ..).trans hcl,?_⟩ (Bv ..))⟩))
 rw[BS hdt]
 simp [rawInt]
theorem aid_{it t:Addr}{i:Nat}{items:Array Value}{Q:Value->Shared->Prop}(hh:A.handled=none)(hit:s.heap.IsTupleIter it t i)(ht:s.heap.IsTuple t items)(hx:items[i]?=none)
  (hE:∀h' e,Heap.ExtBut it s.heap h'->(∃o,h'.get? e=some o/\o.cls=.type "StopIteration")->E (.ref e) { s with heap:=h' }):wpAny (model prog w) A (Builtin.SmallTypes.nextOf (.ref it)) Q E s:=by
 obtain⟨ob,hob,hcl,hdt⟩:=id hit
 obtain⟨o2,ho2,_,n2,hd2⟩:=ht
 unfold Builtin.SmallTypes.nextOf
 refine wpAny_bind (wpAny_callSpecial?_slot (name:=Str.ofString "__next__") hit.typeIs CM (wpAny_call_entry CM hit.typeIs Di ?_ (Db _)))
 show wpAny _ _ (field (.ref it) 0>>=λ_=>_) _ _ s
 refine wpAny_bind (wpAny_field hob hdt (x:=Value.ref t) rfl ?_)
 show wpAny _ _ (if (Value.ref t==Value.none)=true then _ else (_:Sem _)) _ _ s
 rw[if_neg (show ¬ (Value.ref t==Value.none)=true from λz=>AS z)]
 show wpAny _ _ (field (.ref it) 1>>=λ_=>_) _ _ s
 refine wpAny_bind (wpAny_field hob hdt (x:=Value.int i 0) rfl ?_)
 show wpAny _ _ (seqItems? (.ref t)>>=λ_=>_) _ _ s
 refine wpAny_bind (wpAny_seqItems ho2 hd2 ?_)
 simp only[At,hx]
 refine wpAny_bind (wpAny_rule (wpAny_bind (wpAny_setField hob hdt (by simp) ?_)))
 show wpAny _ _ (newExc (.type "StopIteration") []>>=λ_=>_) _ _ _
 refine wpAny_bind ?_
 simp only[newExc,newTuple]
 refine wpAny_bind (wpAny_newObj_type ?_ (by size_fits))
 refine wpAny_bind (m:=firstArgMember _ _) (wpAny_of_eq (a:=Value.none) (by first|rfl|(simp only[firstArgMember];rfl)) (wpAny_newObj_type ?_ (by size_fits)))
 simp only[raiseNew]
 refine wpAny_bind (wpAny_handled ?_)
 first|rw[show A.in1.handled=none from hh]|rw[hh]
 refine wpAny_bind (wpAny_pure (wpAny_throw (hE _ _ (((Bv ..).extBut.push _).push _) ⟨_,AL _ rfl,rfl⟩)))
theorem SK.next{k:SK}{it l:Addr}{i:Nat}{items:Array Value}{x:Value}{Q:Value->Shared->Prop}(hit:k.iter s.heap it l i)(hl:k.seq s.heap l items)(hx:items[i]?=some x)
  (hQ:∀h',k.iter h' it l (i+1)->Heap.SameBut it s.heap h'->Q x { s with heap:=h' }):wpAny (model prog w) A (Builtin.SmallTypes.nextOf (.ref it)) Q E s:=by
 cases k with
 |lst=>exact wpAny_nextOf_list_item hit hl hx hQ
 |tup=>exact aho_ hit hl hx hQ
theorem SK.stop{k:SK}{it l:Addr}{i:Nat}{items:Array Value}{Q:Value->Shared->Prop}(hh:A.handled=none)(hit:k.iter s.heap it l i)(hl:k.seq s.heap l items)(hx:items[i]?=none)
  (hE:∀h' e,Heap.ExtBut it s.heap h'->(∃o,h'.get? e=some o/\o.cls=.type "StopIteration")->E (.ref e) { s with heap:=h' }):wpAny (model prog w) A (Builtin.SmallTypes.nextOf (.ref it)) Q E s:=by
 cases k with
 |lst=>exact wpAny_nextOf_list_end hh hit hl hx hE
 |tup=>exact aid_ hh hit hl hx hE
structure ZAp(z TI TO i1 i2:Addr):Prop where
 a1:TI≠z
 a2:TO≠z
 a3:i1≠z
 a4:i2≠z
 a5:TI≠TO
 a6:TI≠i1
 a7:TI≠i2
 a8:TO≠i1
 a9:TO≠i2
 b1:i1≠i2
structure ZSt(k1 k2:SK)(z TI TO i1 i2 l1 l2:Addr)(i:Nat)(h:Heap):Prop where
 hz:IsZip h z TI TO .none
 hTI:IsPair h TI (.ref i1) (.ref i2)
 hTO:∃a b,IsPair h TO a b
 h1:k1.iter h i1 l1 i
 h2:k2.iter h i2 l2 i
theorem alp_{k1 k2:SK}{z TI TO i1 i2 l1 l2:Addr}{i:Nat}{xs ys:Array Value}{x y:Value}{Q:Option Value->Shared->Prop}(D:ZAp z TI TO i1 i2)(Z:ZSt k1 k2 z TI TO i1 i2 l1 l2 i s.heap)(hl1:k1.seq s.heap l1 xs)(hl2:k2.seq s.heap l2 ys)
  (n1:l1≠z/\l1≠i1) (n2:l2≠z/\l2≠i1/\l2≠TO) (hx:xs[i]?=some x) (hy:ys[i]?=some y)
  (hQ:∀h',IsZip h' z TI TO (rawInt s.heap.objs.size)->IsPair h' TI (.ref i1) (.ref i2)->IsPair h' TO x y->k1.iter h' i1 l1 (i+1)->k2.iter h' i2 l2 (i+1)->IsPair h' s.heap.objs.size x y ->
   (∀c o,c≠z->c≠TO->c≠i1->c≠i2->s.heap.get? c=some o->h'.get? c=some o)->Q (some (.ref s.heap.objs.size)) { s with heap:=h' }):wpAny (model prog w) A (pyNext (.ref z)) Q E s:=by
 obtain⟨hz,hTI,⟨a,b,hTO⟩,h1,h2⟩:=Z
 have hT:s.TypeIs (.ref z) "zip" := ⟨_,hz,rfl⟩
 unfold pyNext
 refine wpAny_bind (wpAny_attempt (wpAny_callSpecial?_slot (name:=Str.ofString "__next__") hT DS (wpAny_call_entry DS hT F.entry_zip_next ?_ (F.args_zip_next_1 _))))
 show wpAny _ _ (field (.ref z) 2>>=λ_=>_) _ _ _
 refine wpAny_bind (wpAny_field hz rfl (x:=Value.bool false) rfl ?_)
 show wpAny _ _ (field (.ref z) 3>>=λ_=>_) _ _ _
 refine wpAny_bind (wpAny_field hz rfl (x:=Value.ref TI) rfl (wpAny_bind (wpAny_seqItems hTI rfl ?_)))
 show wpAny _ _ (Builtin.SmallTypes.ownedTupleIsFree (.ref z)>>=λ_=>_) _ _ _
 refine wpAny_bind ?_
 unfold Builtin.SmallTypes.ownedTupleIsFree
 refine wpAny_bind (wpAny_field hz rfl (x:=Value.none) rfl (wpAny_pure ?_))
 simp only[if_true]
 refine wpAny_bind (wpAny_rule (wpAny_bind (wpAny_field hz rfl (x:=Value.ref TO) rfl (wpAny_bind (wpAny_setField_rec hz (by simp) λh₁ hz₁ hs₁=>?_)))))
 have z1:IsZip h₁ z TI TO .ellipsis:=hz₁
 refine wpAny_bind ?_
 simp only[D0,List.zipIdx_nil,Cz,Dc]
 refine wpAny_bind (wpAny_bind (wpAny_onRaise ?_))
 show wpAny _ _ (Builtin.SmallTypes.nextOf (.ref i1)>>=λ_=>_) _ _ _
 refine wpAny_bind (SK.next (SK.iter_keep h1 λo e=>hs₁.extBut _ _ D.a3 e) (SK.seq_keep hl1 λo e=>hs₁.extBut _ _ n1.1 e) hx λh₂ p₂ hs₂=>wpAny_pure ?_)
 have t2:IsPair h₂ TO a b:=hs₂.extBut _ _ D.a8 (hs₁.extBut _ _ D.a2 hTO)
 refine wpAny_bind (wpAny_seqItems t2 rfl (wpAny_bind (wpAny_updateSeq_pair t2 λh₃ q₃ hs₃=>?_)))
 have t3:IsPair h₃ TO x b:=q₃
 refine wpAny_bind (wpAny_letGo (wpAny_pure (wpAny_bind (wpAny_bind (wpAny_onRaise ?_)))))
 show wpAny _ _ (Builtin.SmallTypes.nextOf (.ref i2)>>=λ_=>_) _ _ _
 refine wpAny_bind (SK.next (SK.iter_keep h2 λo e=>hs₃.extBut _ _ D.a9.symm (hs₂.extBut _ _ D.b1.symm (hs₁.extBut _ _ D.a4 e))) (SK.seq_keep hl2 λo e=>hs₃.extBut _ _ n2.2.2 (hs₂.extBut _ _ n2.2.1 (hs₁.extBut _ _ n2.1 e))) hy λh₄ p₄ hs₄=>wpAny_pure ?_)
 have t4:IsPair h₄ TO x b:=hs₄.extBut _ _ D.a9 t3
 refine wpAny_bind (wpAny_seqItems t4 rfl (wpAny_bind (wpAny_updateSeq_pair t4 λh₅ q₅ hs₅=>?_)))
 have t5:IsPair h₅ TO x y:=q₅
 refine wpAny_bind (wpAny_letGo (wpAny_pure (wpAny_pure (wpAny_bind (wpAny_seqItems t5 rfl (wpAny_bind (wpAny_newTuple ?_)))))))
 have sz:h₅.objs.size=s.heap.objs.size:=by rw[hs₅.1,hs₄.1,hs₃.1,hs₂.1,hs₁.1]
 have z5:IsZip h₅ z TI TO .ellipsis:=hs₅.extBut _ _ D.a2.symm (hs₄.extBut _ _ D.a4.symm (hs₃.extBut _ _ D.a2.symm (hs₂.extBut _ _ D.a3.symm z1)))
 have k5:∀c o,c≠z->c≠TO->c≠i1->c≠i2->s.heap.get? c=some o->h₅.get? c=some o:=λc o c1 c2 c3 c4 e=>hs₅.extBut _ _ c2 (hs₄.extBut _ _ c4 (hs₃.extBut _ _ c2 (hs₂.extBut _ _ c3 (hs₁.extBut _ _ c1 e))))
 have r1:k1.iter h₅ i1 l1 (i+1):=SK.iter_keep p₂ λo e=>hs₅.extBut _ _ D.a8.symm (hs₄.extBut _ _ D.b1 (hs₃.extBut _ _ D.a8.symm e))
 have r2:k2.iter h₅ i2 l2 (i+1):=SK.iter_keep p₄ λo e=>hs₅.extBut _ _ D.a9.symm e
 show wpAny _ _ (Builtin.SmallTypes.ownedTupleHandOut (.ref z) (.ref h₅.objs.size)>>=λ_=>_) _ _ _
 refine wpAny_bind ?_
 unfold Builtin.SmallTypes.ownedTupleHandOut
 have z6:IsZip (h₅.push { cls:=.type "tuple",data:=.seq #[x,y] }) z TI TO .ellipsis:=AB _ z5
 refine wpAny_bind (wpAny_setField_rec z6 (by simp) λh₇ q₇ hs₇=>?_)
 have z7:IsZip h₇ z TI TO (rawInt h₅.objs.size):=q₇
 refine wpAny_setField_rec z7 (by simp) λh₈ q₈ hs₈=>?_
 have z8:IsZip h₈ z TI TO (rawInt h₅.objs.size):=q₈
 have zlt:z<h₅.objs.size:=AM z5
 have up:∀c o,c≠z->h₅.get? c=some o->h₈.get? c=some o:=λc o c1 e=>hs₈.extBut _ _ c1 (hs₇.extBut _ _ c1 (AB _ e))
 have t8:IsPair h₈ h₅.objs.size x y:=hs₈.extBut _ _ (CF zlt) (hs₇.extBut _ _ (CF zlt) (AL _ rfl))
 rw[sz]at z8 t8
 refine wpAny_pure ⟨_,rfl,?_⟩
 show wpAny _ _ _ _ _ _
 refine wpAny_pure ?_
 have fin:=hQ h₈ z8 (up _ _ D.a1 (k5 _ _ D.a1 D.a5 D.a6 D.a7 hTI)) (up _ _ D.a2 t5) (SK.iter_keep r1 λo e=>up _ o D.a3 e) (SK.iter_keep r2 λo e=>up _ o D.a4 e) t8 λc o c1 c2 c3 c4 e=>up c o c1 (k5 c o c1 c2 c3 c4 e)
 show Q (some (.ref h₅.objs.size)) _
 rw[sz]
 exact fin
theorem aox_{k1 k2:SK}{z TI TO i1 i2 l1 l2:Addr}{i:Nat}{xs ys:Array Value}{Q:Option Value->Shared->Prop}(hh:A.handled=none)(D:ZAp z TI TO i1 i2)(Z:ZSt k1 k2 z TI TO i1 i2 l1 l2 i s.heap)(hl1:k1.seq s.heap l1 xs)(hl2:k2.seq s.heap l2 ys)
  (n1:l1≠z/\l1≠i1) (n2:l2≠z/\l2≠i1/\l2≠TO) (hend:xs[i]?=none∨ys[i]?=none)
  (hQ:∀h',(∀c o,c≠z->c≠TO->c≠i1->c≠i2->s.heap.get? c=some o->h'.get? c=some o)->Q none { s with heap:=h' }):wpAny (model prog w) A (pyNext (.ref z)) Q E s:=by
 obtain⟨hz,hTI,⟨a,b,hTO⟩,h1,h2⟩:=Z
 have hT:s.TypeIs (.ref z) "zip" := ⟨_,hz,rfl⟩
 have stop:∀(h':Heap)(e:Addr),(∃o,h'.get? e=some o/\o.cls=.type "StopIteration")->(∀c o,c≠z->c≠TO->c≠i1->c≠i2->s.heap.get? c=some o->h'.get? c=some o) ->
   wpAny (model prog w) A (isInstance (.ref e) (.type "StopIteration")>>=λb=>if b=true then pure none else throw (.ref e)) Q E { s with heap:=h' }:=by
  rintro h' e ⟨o,ho,hc⟩ hk
  exact wpAny_bind (wpAny_isInstance (T := "StopIteration") (b:=true) ⟨o,ho,hc⟩ isSubtype_stop (wpAny_pure (hQ _ hk)))
 unfold pyNext
 refine wpAny_bind (wpAny_attempt (wpAny_callSpecial?_slot (name:=Str.ofString "__next__") hT DS (wpAny_call_entry DS hT F.entry_zip_next ?_ (F.args_zip_next_1 _))))
 show wpAny _ _ (field (.ref z) 2>>=λ_=>_) _ _ _
 refine wpAny_bind (wpAny_field hz rfl (x:=Value.bool false) rfl ?_)
 show wpAny _ _ (field (.ref z) 3>>=λ_=>_) _ _ _
 refine wpAny_bind (wpAny_field hz rfl (x:=Value.ref TI) rfl (wpAny_bind (wpAny_seqItems hTI rfl ?_)))
 show wpAny _ _ (Builtin.SmallTypes.ownedTupleIsFree (.ref z)>>=λ_=>_) _ _ _
 refine wpAny_bind ?_
 unfold Builtin.SmallTypes.ownedTupleIsFree
 refine wpAny_bind (wpAny_field hz rfl (x:=Value.none) rfl (wpAny_pure ?_))
 simp only[if_true]
 refine wpAny_bind (wpAny_rule (wpAny_bind (wpAny_field hz rfl (x:=Value.ref TO) rfl (wpAny_bind (wpAny_setField_rec hz (by simp) λh₁ hz₁ hs₁=>?_)))))
 have z1:IsZip h₁ z TI TO .ellipsis:=hz₁
 refine wpAny_bind ?_
 simp only[D0,List.zipIdx_nil,Cz,Dc]
 refine wpAny_bind (wpAny_bind (wpAny_onRaise ?_))
 show wpAny _ _ (Builtin.SmallTypes.nextOf (.ref i1)>>=λ_=>_) _ _ _
 cases hx:xs[i]? with
 |none =>
  refine wpAny_bind (SK.stop hh (SK.iter_keep h1 λo e=>hs₁.extBut _ _ D.a3 e) (SK.seq_keep hl1 λo e=>hs₁.extBut _ _ n1.1 e) hx λh₂ e hs₂ he=>?_)
  obtain⟨oe,hoe,hce⟩:=he
  have z2:IsZip h₂ z TI TO .ellipsis:=hs₂ _ _ D.a3.symm z1
  have ez:e≠z:=λq=>by subst q;rw[z2]at hoe;cases hoe;simp at hce
  refine wpAny_setField_rec z2 (by simp) λh₃ _ hs₃=>?_
  exact stop h₃ e ⟨oe,hs₃.extBut _ _ ez hoe,hce⟩ λc o c1 _ c3 _ q=>hs₃.extBut _ _ c1 (hs₂ _ _ c3 (hs₁.extBut _ _ c1 q))
 |some x =>
  have hy:ys[i]?=none:=by
   rcases hend with h|h
   ·rw[hx]at h;cases h
   ·exact h
  refine wpAny_bind (SK.next (SK.iter_keep h1 λo e=>hs₁.extBut _ _ D.a3 e) (SK.seq_keep hl1 λo e=>hs₁.extBut _ _ n1.1 e) hx λh₂ p₂ hs₂=>wpAny_pure ?_)
  have t2:IsPair h₂ TO a b:=hs₂.extBut _ _ D.a8 (hs₁.extBut _ _ D.a2 hTO)
  refine wpAny_bind (wpAny_seqItems t2 rfl (wpAny_bind (wpAny_updateSeq_pair t2 λh₃ q₃ hs₃=>?_)))
  refine wpAny_bind (wpAny_letGo (wpAny_pure (wpAny_bind (wpAny_bind (wpAny_onRaise ?_)))))
  show wpAny _ _ (Builtin.SmallTypes.nextOf (.ref i2)>>=λ_=>_) _ _ _
  refine wpAny_bind (SK.stop hh (SK.iter_keep h2 λo e=>hs₃.extBut _ _ D.a9.symm (hs₂.extBut _ _ D.b1.symm (hs₁.extBut _ _ D.a4 e))) (SK.seq_keep hl2 λo e=>hs₃.extBut _ _ n2.2.2 (hs₂.extBut _ _ n2.2.1 (hs₁.extBut _ _ n2.1 e))) hy λh₄ e hs₄ he=>?_)
  obtain⟨oe,hoe,hce⟩:=he
  have z4:IsZip h₄ z TI TO .ellipsis:=hs₄ _ _ D.a4.symm (hs₃.extBut _ _ D.a2.symm (hs₂.extBut _ _ D.a3.symm z1))
  have ez:e≠z:=λq=>by subst q;rw[z4]at hoe;cases hoe;simp at hce
  refine wpAny_setField_rec z4 (by simp) λh₅ _ hs₅=>?_
  exact stop h₅ e ⟨oe,hs₅.extBut _ _ ez hoe,hce⟩ λc o c1 c2 c3 c4 q=>hs₅.extBut _ _ c1 (hs₄ _ _ c4 (hs₃.extBut _ _ c2 (hs₂.extBut _ _ c3 (hs₁.extBut _ _ c1 q))))
end
end L2.Ev
namespace L2.Ev
open PySem PySem.Spec PyProof.Rows
abbrev zh1(k1:SK)(h:Heap)(l1:Addr):Heap:=h.push (k1.ob l1)
abbrev zh2(k1 k2:SK)(h:Heap)(l1 l2:Addr):Heap:=(zh1 k1 h l1).push (k2.ob l2)
abbrev zh3(k1 k2:SK)(h:Heap)(l1 l2:Addr):Heap:=(zh2 k1 k2 h l1 l2).push { cls:=.type "tuple",data:=.seq #[.ref h.objs.size,.ref (zh1 k1 h l1).objs.size] }
abbrev zh4(k1 k2:SK)(h:Heap)(l1 l2:Addr):Heap:=(zh3 k1 k2 h l1 l2).push { cls:=.type "tuple",data:=.seq #[.none,.none] }
abbrev zh5(k1 k2:SK)(h:Heap)(l1 l2:Addr):Heap:=(zh4 k1 k2 h l1 l2).push { cls:=.type "zip",data:=.fields #[.none,.bool false,.bool false,.ref (zh2 k1 k2 h l1 l2).objs.size,.ref (zh3 k1 k2 h l1 l2).objs.size] }
theorem SK.seq_push{k:SK}{h:Heap}{l:Addr}{xs:Array Value}(x:k.seq h l xs)(o:Obj):k.seq (h.push o) l xs:=SK.seq_keep x λ_ e=>AB _ e
set_option maxHeartbeats 8000000 in
theorem aoq_(k1 k2:SK)(l1 l2:Addr)(xs ys:Array Value) :
  Meets (Builtin.«zip.__new__» ⟨[.type "zip",.ref l1,.ref l2],[]⟩) (λ_ R s=>k1.seq s.heap l1 xs/\k2.seq s.heap l2 ys/\R (.ok (.ret (.ref (zh4 k1 k2 s.heap l1 l2).objs.size))) { s with heap:=zh5 k1 k2 s.heap l1 l2 }) :=
 .of_wp λprog w A R s h=>by
  obtain⟨hp,g,d,tk,os⟩:=s
  obtain⟨hl1,hl2,h⟩:=h
  have hsub:=sub_zip
  have q1:k1.seq (Shared.heap ⟨hp,g,d,tk,os⟩) l1 xs:=hl1
  have q2:k2.seq (Shared.heap ⟨hp.push (k1.ob l1),g,d,tk,os⟩) l2 ys:=SK.seq_push hl2 _
  cases k1 with
  |lst =>
   cases k2 with
   |lst =>
    have w1:Heap.IsList (Shared.heap ⟨hp,g,d,tk,os⟩) l1 xs:=q1
    have w2:Heap.IsList (Shared.heap ⟨hp.push { cls:=.type "list_iterator",data:=.fields #[.ref l1,.int 0 0] },g,d,tk,os⟩) l2 ys:=q2
    wp_walk using wpAny_pyIter_list w1,wpAny_pyIter_list w2
    exact⟨_,rfl,h⟩
   |tup =>
    have w1:Heap.IsList (Shared.heap ⟨hp,g,d,tk,os⟩) l1 xs:=q1
    have w2:Heap.IsTuple (Shared.heap ⟨hp.push { cls:=.type "list_iterator",data:=.fields #[.ref l1,.int 0 0] },g,d,tk,os⟩) l2 ys:=q2
    wp_walk using wpAny_pyIter_list w1,wpAny_pyIter_tuple w2
    exact⟨_,rfl,h⟩
  |tup =>
   cases k2 with
   |lst =>
    have w1:Heap.IsTuple (Shared.heap ⟨hp,g,d,tk,os⟩) l1 xs:=q1
    have w2:Heap.IsList (Shared.heap ⟨hp.push { cls:=.type "tuple_iterator",data:=.fields #[.ref l1,.int 0 0] },g,d,tk,os⟩) l2 ys:=q2
    wp_walk using wpAny_pyIter_tuple w1,wpAny_pyIter_list w2
    exact⟨_,rfl,h⟩
   |tup =>
    have w1:Heap.IsTuple (Shared.heap ⟨hp,g,d,tk,os⟩) l1 xs:=q1
    have w2:Heap.IsTuple (Shared.heap ⟨hp.push { cls:=.type "tuple_iterator",data:=.fields #[.ref l1,.int 0 0] },g,d,tk,os⟩) l2 ys:=q2
    wp_walk using wpAny_pyIter_tuple w1,wpAny_pyIter_tuple w2
    exact⟨_,rfl,h⟩
theorem aj5_(n:Nat):ZAp (n+4) (n+2) (n+3) n (n+1):=by
 constructor<;>(show(_:Nat)≠_)<;>omega
theorem anj_{k1 k2:SK}{l1 l2:Addr}{xs ys:Array Value}{Q:Value->Shared->Prop}{prog:Program}{w:World}{A:Around}{E:Value->Shared->Prop}{s:Shared}(hl1:k1.seq s.heap l1 xs)(hl2:k2.seq s.heap l2 ys)
  (h:∀h',ZSt k1 k2 (s.heap.objs.size+4) (s.heap.objs.size+2) (s.heap.objs.size+3) s.heap.objs.size (s.heap.objs.size+1) l1 l2 0 h'->(∀c o,s.heap.get? c=some o->h'.get? c=some o)->Q (.ref (s.heap.objs.size+4)) { s with heap:=h' }) :
  wpAny (model prog w) A (call (.type "zip") [.ref l1,.ref l2]) Q E s:=by
 refine callType_new F.called_zip (by decide) (F.typeCall_zip_2 _ _) (F.newCall_zip_2 _ _) (λobj=>F.args_object_init_3 obj _ _) F.entry_zip_new (aoq_ k1 k2 l1 l2 xs ys) ⟨hl1,hl2,?_⟩
 have e1:(zh1 k1 s.heap l1).objs.size=s.heap.objs.size+1:=Bi ..
 have e2:(zh2 k1 k2 s.heap l1 l2).objs.size=s.heap.objs.size+2:=by rw[Bi,e1]
 have e3:(zh3 k1 k2 s.heap l1 l2).objs.size=s.heap.objs.size+3:=by rw[Bi,e2]
 have e4:(zh4 k1 k2 s.heap l1 l2).objs.size=s.heap.objs.size+4:=by rw[Bi,e3]
 have g5:(zh5 k1 k2 s.heap l1 l2).get? (zh4 k1 k2 s.heap l1 l2).objs.size=some _:=AL _ rfl
 have g4:(zh5 k1 k2 s.heap l1 l2).get? (zh3 k1 k2 s.heap l1 l2).objs.size=some _:=AB _ (AL _ rfl)
 have g3:(zh5 k1 k2 s.heap l1 l2).get? (zh2 k1 k2 s.heap l1 l2).objs.size=some _:=AB _ (AB _ (AL _ rfl))
 have f2:(k2.ob l2).isFreed=false:=by cases k2<;>rfl
 have f1:(k1.ob l1).isFreed=false:=by cases k1<;>rfl
 have g2:(zh5 k1 k2 s.heap l1 l2).get? (zh1 k1 s.heap l1).objs.size=some (k2.ob l2):=AB _ (AB _ (AB _ (AL _ f2)))
 have g1:(zh5 k1 k2 s.heap l1 l2).get? s.heap.objs.size=some (k1.ob l1):=AB _ (AB _ (AB _ (AB _ (AL _ f1))))
 have fin:=h (zh5 k1 k2 s.heap l1 l2) ⟨by rw[e2,e3,e4]at g5;exact g5,by rw[e1,e2]at g3;exact g3,⟨_,_,by rw[e3]at g4;exact g4⟩,SK.iter_new g1,SK.iter_new (by rw[e1]at g2;exact g2)⟩
  λc o e=>AB _ (AB _ (AB _ (AB _ (AB _ e))))
 rw[<-e4]at fin
 exact⟨⟨_,g5,rfl⟩,fin⟩
def Itz(K:PySem.W.Frag)(k1 k2:SK)(a b:Addr):It :=
 ⟨λi H=>∃xs ys x y,k1.is K H a xs/\k2.is K H b ys/\xs[i]?=some x/\ys[i]?=some y,
  λi H v H'=>∃p x y,v=.ref p/\H p=none/\H'=upd H p (.tup [x,y])/\(∀xs,k1.is K H a xs->xs[i]?=some x)/\∀ys,k2.is K H b ys->ys[i]?=some y,
  λi H=>∃xs ys,k1.is K H a xs/\k2.is K H b ys/\(xs.length<=i∨ys.length<=i)⟩
theorem jm_{X:Cx}{pins:List (Addr×Obj)}{σ:St}{H:Hp}{s:Shared}{a c:Addr}{xs:List V}{k:SK}(I:Inv X pins σ H s)(h:k.is X.K H a xs)(f:js_ X pins H c):a≠c:=by
 intro e
 subst e
 have known:∀o,X.K.lookup a=some o->False:=λo q=>by
  have e:=I.ok.mod.kin a o q
  rcases f.2.2.2.1 with z|z
  ·exact I.ok.noex a o e z
  ·exact absurd (AZ (AM e) (Ag I.ok.bsz z)) (Bh _)
 cases k with
 |lst =>
  rcases h with(h|⟨o,h⟩)|⟨o,_,_,q,_⟩
  ·rw[f.1]at h;cases h
  ·rw[f.1]at h;cases h
  ·exact known o q
 |tup =>
  rcases h with(h|⟨o,h⟩)|⟨o,_,_,q,_⟩
  ·rw[f.1]at h;cases h
  ·rw[f.1]at h;cases h
  ·exact known o q
theorem acc_{X:Cx}{pins:List (Addr×Obj)}{σ:St}{H H':Hp}{s:Shared}{h':Heap}{t':Nat}{ch:List Addr}(I:Inv X pins σ H s)(hf:∀b∈ch,js_ X pins H b)(k:∀b o,b∉ch->s.heap.get? b=some o->h'.get? b=some o)
  (new:∀b,b<s.heap.objs.size->H' b=H b) (hok:HOk X.prog X.w H' h'):Inv X pins σ H' { s with heap:=h',toks:=t' }:=by
 have lt:∀{b u},H b=some u->b<s.heap.objs.size:=λe=>I.hok.lt e
 refine I.step (g':=s.gens) (d':=s.drawn) (ch:=ch) (λb hb=>⟨(hf b hb).2.2.2.1,(hf b hb).2.1,(hf b hb).2.2.2.2.1,(hf b hb).2.2.2.2.2⟩) (λb o _ _ hc e _=>k b o hc e) (λb o _ _ hc e _=>⟨o.slots,k b o hc e⟩) (λb o _ e n=>by rw[new b (AM e)];exact n)
  (λb o hc e=>⟨o,k b o hc e⟩) (λb xs e=>by rw[new b (lt e)];exact e) (λb o u e=>by rw[new b (lt e)];exact e) (λb ps e=>⟨#[],by rw[new b (lt e),e];simp⟩) (λm hm=>?_) hok I.bare
 obtain⟨o,es,ep,ho,r⟩:=hm
 exact⟨o,es,ep,k _ o (λz=>(hf _ z).2.1 rfl) ho,r⟩
theorem agp_{P:Program}{w:World}{K:PySem.W.Frag}{elts:List Expr}{x1}{pos:Pos}(k1 k2:SK)(a b z TI TO i1 i2:Addr)(D:ZAp z TI TO i1 i2) :
  Turn P w K (.Tuple elts x1 pos) (Itz K k1 k2 a b) [z,TI,TO,i1,i2] z (λi h=>ZSt k1 k2 z TI TO i1 i2 a b i h) where
 mem:=by simp
 obj:=λi h st c hc=>by
  obtain⟨hz,hTI,⟨u,v,hTO⟩,h1,h2⟩:=st
  have it:∀{k:SK}{i l:Addr}{n:Nat},k.iter h i l n->∃o,h.get? i=some o/\∀v,o.data≠.cell v:=λ{k i l n} x=>by
   cases k with
   |lst=>obtain⟨o,e,_,d⟩:=x;exact⟨o,e,λv q=>by rw[d]at q;cases q⟩
   |tup=>obtain⟨o,e,_,d⟩:=x;exact⟨o,e,λv q=>by rw[d]at q;cases q⟩
  simp only[AN,Bg,or_false]at hc
  rcases hc with rfl|rfl|rfl|rfl|rfl
  ·exact⟨_,hz,λv q=>by cases(show Data.fields _=Data.cell v from q)⟩
  ·exact⟨_,hTI,λv q=>by cases(show Data.seq _ _=Data.cell v from q)⟩
  ·exact⟨_,hTO,λv q=>by cases(show Data.seq _ _=Data.cell v from q)⟩
  ·exact it h1
  ·exact it h2
 keep:=λi h h' st k=>by
  obtain⟨hz,hTI,⟨u,v,hTO⟩,h1,h2⟩:=st
  exact⟨k z (by simp) _ hz,k TI (by simp) _ hTI,⟨u,v,k TO (by simp) _ hTO⟩,SK.iter_keep h1 λo e=>k i1 (by simp) o e,SK.iter_keep h2 λo e=>k i2 (by simp) o e⟩
 item:=by
  intro X hP hw hK hc i pins s σ H E I hf st hg
  subst hP hw hK
  obtain⟨xs,ys,x,y,q1,q2,hx,hy⟩:=hg
  obtain⟨its,r1,p1⟩:=SK.at I q1
  obtain⟨its',r2,p2⟩:=SK.at I q2
  obtain⟨u,hu,ru⟩:=r1.get hx
  obtain⟨v,hv,rv⟩:=r2.get hy
  have fz:=hf z (by simp)
  have fTO:=hf TO (by simp)
  have f1:=hf i1 (by simp)
  have f2:=hf i2 (by simp)
  refine alp_ D st p1 p2 ⟨jm_ I q1 fz,jm_ I q1 f1⟩ ⟨jm_ I q2 fz,jm_ I q2 f1,jm_ I q2 fTO⟩ (x:=u) (y:=v) (by simpa using hu) (by simpa using hv) λh' a1 a2 a3 a4 a5 a6 a7=>?_
  refine⟨_,rfl,wpAny_letOwnedTupleGo_zip (s:={ s with heap:=h' }) a1 λh'' b1 b2=>?_⟩
  have kp:∀c o,c∉[z,TO,i1,i2]->s.heap.get? c=some o->h''.get? c=some o:=λc o hc e=>by
   simp only[AN,Bg,or_false,not_or]at hc
   exact b2.extBut _ _ hc.1 (a7 c o hc.1 hc.2.1 hc.2.2.1 hc.2.2.2 e)
  have zlt:z<s.heap.objs.size:=AM st.hz
  have hT:IsPair h'' s.heap.objs.size u v:=b2.extBut _ _ (CF zlt) a6
  have hf4:∀c∈[z,TO,i1,i2],js_ X pins H c:=λc hc=>by
   simp only[AN,Bg,or_false]at hc
   rcases hc with rfl|rfl|rfl|rfl
   ·exact fz
   ·exact fTO
   ·exact f1
   ·exact f2
  have hn:H s.heap.objs.size=none:=I.fresh
  have hok:HOk X.prog X.w (upd H s.heap.objs.size (.tup [x,y])) h'':=λc o e=>by
   by_cases hc:c=s.heap.objs.size
   ·subst hc
    rw[qc_]at e
    cases e
    exact⟨by show 2<=sizeLine;decide,[u,v],.cons ru (.cons rv .nil),⟨_,hT,rfl,_,rfl,rfl⟩⟩
   ·rw[ql_ hc]at e
    refine(I.hok c o e).stay (λd v2 hd q=>kp d v2 (λm=>?_) q) (λd q=>by rw[ql_ (qA_ q hn)];exact q) λd xs q=>by rw[ql_ (qA_ q hn)];exact q
    have z:=(hf4 d m).1
    rcases hd with rfl|hd
    ·rw[e]at z;cases z
    ·rw[hd]at z;cases z
  have I9:Inv X pins σ (upd H s.heap.objs.size (.tup [x,y])) { s with heap:=h'',toks:=s.toks }:=acc_ (s:=s) I hf4 kp (λc hc=>ql_ (Af hc)) hok
  refine⟨.ref s.heap.objs.size,upd H s.heap.objs.size (.tup [x,y]),I9,rfl,⟨s.heap.objs.size,x,y,rfl,hn,rfl,λzs hz=>by rw[SK.inj I hz q1];exact hx,λzs hz=>by rw[SK.inj I hz q2];exact hy⟩,?_,λc hc=>?_⟩
  ·exact⟨b1,b2.extBut _ _ D.a1 a2,⟨u,v,b2.extBut _ _ D.a2 a3⟩,SK.iter_keep a4 λo e=>b2.extBut _ _ D.a3 e,SK.iter_keep a5 λo e=>b2.extBut _ _ D.a4 e⟩
  ·obtain⟨o,e⟩:∃o,s.heap.get? c=some o:=by
    obtain⟨hz,hTI,⟨u,v,hTO⟩,h1,h2⟩:=st
    simp only[AN,Bg,or_false]at hc
    rcases hc with rfl|rfl|rfl|rfl|rfl
    ·exact⟨_,hz⟩
    ·exact⟨_,hTI⟩
    ·exact⟨_,hTO⟩
    ·cases k1 with
     |lst=>obtain⟨o,e,_⟩:=h1;exact⟨o,e⟩
     |tup=>obtain⟨o,e,_⟩:=h1;exact⟨o,e⟩
    ·cases k2 with
     |lst=>obtain⟨o,e,_⟩:=h2;exact⟨o,e⟩
     |tup=>obtain⟨o,e,_⟩:=h2;exact⟨o,e⟩
   rw[ql_ (Af (AM e))]
   exact(hf c hc).1
 done:=by
  intro X hP hw hK hc i pins s σ H E I hf st hg
  subst hP hw hK
  obtain⟨xs,ys,q1,q2,hx⟩:=hg
  obtain⟨its,r1,p1⟩:=SK.at I q1
  obtain⟨its',r2,p2⟩:=SK.at I q2
  have fz:=hf z (by simp)
  have fTO:=hf TO (by simp)
  have f1:=hf i1 (by simp)
  have f2:=hf i2 (by simp)
  have l1:=r1.length
  have l2:=r2.length
  refine aox_ (I.ok.hd hc) D st p1 p2 ⟨jm_ I q1 fz,jm_ I q1 f1⟩ ⟨jm_ I q2 fz,jm_ I q2 f1,jm_ I q2 fTO⟩ (hx.imp (λq=>by simp;omega) λq=>by simp;omega) λh' a7=>⟨rfl,?_⟩
  have hf4:∀c∈[z,TO,i1,i2],js_ X pins H c:=λc hc=>by
   simp only[AN,Bg,or_false]at hc
   rcases hc with rfl|rfl|rfl|rfl
   ·exact fz
   ·exact fTO
   ·exact f1
   ·exact f2
  have kp:∀c o,c∉[z,TO,i1,i2]->s.heap.get? c=some o->h'.get? c=some o:=λc o hc e=>by
   simp only[AN,Bg,or_false,not_or]at hc
   exact a7 c o hc.1 hc.2.1 hc.2.2.1 hc.2.2.2 e
  refine acc_ (h':=h') (t':=s.toks) I hf4 kp (λc _=>rfl) λc o e=>?_
  refine(I.hok c o e).stay (λd v2 hd q=>kp d v2 (λm=>?_) q) (λd q=>q) λd xs q=>q
  have z:=(hf4 d m).1
  rcases hd with rfl|hd
  ·rw[e]at z;cases z
  ·rw[hd]at z;cases z
 self:=λ_ _ _ _ _ st h=>wpAny_pyIter_zip st.hz h
def iZip(K:PySem.W.Frag)(k1 k2:SK)(ta:TA):TI:=λσ H R=>ta σ H λvs H1=>∃a b,vs=[.ref a,.ref b]/\(∃xs,k1.is K H1 a xs)/\(∃ys,k2.is K H1 b ys)/\R (Itz K k1 k2 a b) H1
theorem yU_{X:Cx}{ea eb:Expr}{ta:TA}{p pos tp:Pos}{elts:List Expr}{x1}(k1 k2:SK)(hg:Gl X "zip")(hm:X.mg "zip" = none)(ha:PA X [ea,eb] ta)(hs:starEach [ea,eb] X.env=(false,eval ea X.env)::starEach [eb] X.env:=by rfl)(hs2:(backTo pos (starEach [eb] X.env)).any (·.1)=false:=by rfl) :
  PI X (.Tuple elts x1 tp) (.Call (.Name "zip" p) [ea,eb] [] pos) (iZip X.K k1 k2 ta):=by
 intro pins s σ H R I h
 refine Call_ (zH_ I hg hm boot_zip (BG (thn (ha pos pins s σ H _ I h) λus s1 ⟨vs,H1,I1,r1,q1⟩=>?_) hs hs2))
 obtain⟨a,b,rfl,⟨xs,ex⟩,⟨ys,ey⟩,q⟩:=q1
 obtain⟨u,v,rfl,ru,rv⟩:=jD_ r1
 cases ru
 cases rv
 obtain⟨its,r1,p1⟩:=SK.at I1 ex
 obtain⟨its',r2,p2⟩:=SK.at I1 ey
 refine anj_ p1 p2 λh' Z kp=>?_
 refine wpAny_pyIter_zip Z.hz ?_
 have I2:Inv X pins σ H1 { s1 with heap:=h' }:=I1.kept (t':=s1.toks) kp
 refine⟨_,[s1.heap.objs.size+4,s1.heap.objs.size+2,s1.heap.objs.size+3,s1.heap.objs.size,s1.heap.objs.size+1],_,_,H1,rfl,I2,agp_ k1 k2 a b _ _ _ _ _ (aj5_ _),Z,λc hc=>?_,q⟩
 have ge:s1.heap.objs.size<=c:=by
  simp only[AN,Bg,or_false]at hc
  rcases hc with rfl|rfl|rfl|rfl|rfl
  ·exact Cq _ _
  ·exact Cq _ _
  ·exact Cq _ _
  ·exact AH _
  ·exact Cq _ _
 exact I1.fpOk ge (I1.hok.fresh ge)
end L2.Ev
namespace L2.Ev
open PySem PySem.Spec PyProof.Rows
open L2.Ts L2.Pl L2.Rw
section
variable{X:Cx}{α:Type}[D:Dat α][S:Srtd α]
noncomputable def xR_(α:Type)[D:Dat α][S:Srtd α](H:Hp)(l:List α)(p:Keyed):Nat:=by
 classical exact if h:∃a:α,∃v,RelV v p.1/\D.is H v a then xP_ S.lt l h.choose else 0
theorem yi_{H:Hp}{l:List α}{p:Keyed}{v:V}{a:α}(r:RelV v p.1)(h:D.is H v a):xR_ α H l p=xP_ S.lt l a:=by
 unfold xR_
 have e:∃a:α,∃v,RelV v p.1/\D.is H v a:=⟨a,v,r,h⟩
 rw[dif_pos e]
 obtain⟨v',r',h'⟩:=e.choose_spec
 have:v'=v:=RelV.inj r' r
 subst this
 rw[D.inj h' h]
theorem Paired.perm{β γ:Type}{F:β->γ->Prop}{l l':List β}(p:l'.Perm l):∀{m:List γ},Paired F l m->∃m',m'.Perm m/\Paired F l' m':=by
 induction p with
 |nil=>intro m h;exact⟨m,List.Perm.refl _,h⟩
 |cons x _ ih =>
  intro m h
  cases h with
  |cons r t =>
   obtain⟨m',p',h'⟩:=ih t
   exact⟨_::m',p'.cons _,.cons r h'⟩
 |swap x y l =>
  intro m h
  cases h with
  |cons r t =>
   cases t with
   |cons r2 t2=>exact⟨_,List.Perm.swap _ _ _,.cons r2 (.cons r t2)⟩
 |trans _ _ i1 i2 =>
  intro m h
  obtain⟨m1,p1,h1⟩:=i2 h
  obtain⟨m2,p2,h2⟩:=i1 h1
  exact⟨m2,p2.trans p1,h2⟩
theorem Paired.mem{β γ:Type}{F:β->γ->Prop}{l:List β}{m:List γ}(h:Paired F l m){x:β}(hx:x∈l):∃y∈m,F x y:=by
 induction h with
 |nil=>cases hx
 |cons r t ih =>
  rcases AN.mp hx with e|hx
  ·subst e;exact⟨_,AD ..,r⟩
  ·obtain⟨y,hy,f⟩:=ih hx
   exact⟨y,AC _ hy,f⟩
abbrev xn_(α:Type)[D:Dat α](H:Hp)(its:List Value)(l:List α):Prop:=Paired (λu a=>∃v,RelV v u/\D.is H v a) its l
theorem aci_{H:Hp}:∀{vs:List V}{its:List Value}{l:List α},Vals vs its->Its H vs l->xn_ α H its l
 |_,_,_,.nil,.nil=>.nil
 |_,_,_,.cons r t,.cons q u=>.cons ⟨_,r,q⟩ (aci_ t u)
theorem akn_{H:Hp}{its:List Value}{l:List α}(h:xn_ α H its l):∃vs,Vals vs its/\Its H vs l:=by
 induction h with
 |nil=>exact⟨[],.nil,.nil⟩
 |cons r t ih =>
  obtain⟨v,rv,d⟩:=r
  obtain⟨vs,a,b⟩:=ih
  exact⟨v::vs,.cons rv a,.cons d b⟩
theorem ab3_{H:Hp}{l0:List α}{out:List Value}{m:List α}(h:xn_ α H out m)(hm:∀a∈m,a∈l0)(o:out.Pairwise λx y=>xR_ α H l0 (y,y)<=xR_ α H l0 (x,x)):m.Pairwise λa b=>S.lt a b=false:=by
 induction h with
 |nil=>exact .nil
 |@cons x a xs m r t ih =>
  obtain⟨o1,o2⟩:=Ab.mp o
  refine Ab.mpr ⟨λb hb=>?_,ih (λb hb=>hm b (AC _ hb)) o2⟩
  obtain⟨y,hy,e⟩:∃y∈xs,∃v,RelV v y/\D.is H v b:=by
   have key:∀{xs:List Value}{m:List α},xn_ α H xs m->b∈m->∃y∈xs,∃v,RelV v y/\D.is H v b:=by
    intro xs m t
    induction t with
    |nil=>intro z;cases z
    |cons r t ih =>
     intro z
     rcases AN.mp z with e|z
     ·subst e;exact⟨_,AD ..,r⟩
     ·obtain⟨y,hy,f⟩:=ih z
      exact⟨y,AC _ hy,f⟩
   exact key t hb
  obtain⟨v,rv,dv⟩:=r
  obtain⟨v2,rv2,dv2⟩:=e
  have q:=o1 y hy
  rw[yi_ (p:=(y,y)) rv2 dv2,yi_ (p:=(x,x)) rv dv]at q
  cases c:S.lt a b with
  |false=>rfl
  |true =>
   have:=(vb_ S.lin (hm a (AD ..))).mp c
   lia
theorem afj_{pins:List (Addr×Obj)}{σ:St}{H:Hp}{s:Shared}{its:List Value}{l:List α}{A:Around}(hu:A.units+4<cLine)(hb:xn_ α H its l)(hok:∀a∈l,S.ok a)(I:Inv X pins σ H s)(h2:2<=its.length) :
  (∀(Q:SortKind->Shared->Prop)(E':Value->Shared->Prop),Q (tuples' S.plain) s->wpAny (model X.prog X.w) A (keyKind' its.toArray) Q E' s) /\
  Ask X.prog X.w A s (tuples' S.plain) (λp=>∃a∈l,∃v,RelV v p.1/\D.is H v a) (xR_ α H l):=by
 constructor
 ·intro Q E' q
  have fs:∀{its:List Value}{l:List α},xn_ α H its l->(∀a∈l,S.ok a)->∃fs:List Value,fs.length=its.length/\PySem.W.KatTups s.heap its fs/\∀f∈fs,PySem.W.Looks (model X.prog X.w) s.heap (typeOf f) (if S.plain=true then .type "int" else .type "tuple"):=by
   intro its l hb
   induction hb with
   |nil=>intro _;exact⟨[],rfl,PySem.W.KatTups.nil,λf hf=>by cases hf⟩
   |@cons u0 a0 _ _ r t ih =>
    intro ok
    obtain⟨fs,f1,f2,f3⟩:=ih λa ha=>ok a (AC _ ha)
    obtain⟨v,rv,dv⟩:=r
    obtain⟨p,o,xs,n,f,rp,ho,hc,hd,hf,lk⟩:=S.first I dv (ok _ (AD ..))
    have e:u0=Value.ref p:=by
     cases v with
     |ref a =>
      have e1:Value.ref p=Value.ref a:=rp
      have e2:u0=Value.ref a:=rv
      rw[e2,e1]
     |_=>first|(obtain⟨_,e⟩:=rp;cases e)|cases rp
    subst e
    refine⟨f::fs,by simp [f1],PySem.W.KatTups.cons ho hc hd hf f2,λg hg=>?_⟩
    rcases AN.mp hg with e|hg
    ·subst e;exact lk
    ·exact f3 g hg
  obtain⟨fs,f1,f2,f3⟩:=fs hb hok
  refine PySem.W.kat_kind f2 (by lia) f3 (by split<;>decide) ?_
  cases c:S.plain with
  |true=>rw[c]at q;exact q
  |false=>rw[c]at q;exact q
 ·intro x y hx hy Q q
  obtain⟨a,ha,v,rv,dv⟩:=hx
  obtain⟨b,hb',v',rv',dv'⟩:=hy
  refine S.asks I hu dv dv' (hok a ha) (hok b hb') rv rv' Q ?_
  rw[yi_ rv dv,yi_ rv' dv']at q
  have e:decide (xP_ S.lt l a<xP_ S.lt l b)=S.lt a b:=by
   cases c:S.lt a b with
   |true=>exact decide_eq_true ((vb_ S.lin ha).mp c)
   |false=>exact decide_eq_false λz=>by rw[(vb_ S.lin ha).mpr z]at c;cases c
  rw[e]at q
  exact q
def als_(α:Type)[D:Dat α][S:Srtd α](ta:TA):TE:=λσ H Q=>ta σ H λvs H1=>∃(a:Addr)(l:List α),vs=[.ref a]/\LstAt H1 a l/\(∀b∈l,S.ok b) /\
 ∀(p:Addr)(vs:List V)(l':List α),H1 p=none->l'.Perm l->(l'.Pairwise λa b=>S.lt a b=false)->Its H1 vs l'->Q (.ref p) (upd H1 p (.lst vs))
theorem ada_{pins:List (Addr×Obj)}{σ:St}{H:Hp}{s:Shared}{its out:List Value}{l:List α}{Q:VK}{h':Heap}{tk:Nat}{P:Addr}{e:Nat}(I:Inv X pins σ H s)(hb:xn_ α H its l)(hz:its.length<=sizeLine)(p:out.Perm its)
  (o:out.Pairwise λx y=>xR_ α H l (y,y)<=xR_ α H l (x,x)) (kp:∀b o,s.heap.get? b=some o->h'.get? b=some o) (hP:s.heap.objs.size<=P) (hg:h'.get? P=some (seqObj "list" out.toArray e))
  (q:∀(p:Addr)(vs:List V)(l':List α),H p=none->l'.Perm l->(l'.Pairwise λa b=>S.lt a b=false)->Its H vs l'->Q (.ref p) (upd H p (.lst vs))):EP X pins σ Q (.ref P) { s with heap:=h',toks:=tk }:=by
 obtain⟨m,pm,bm⟩:=Paired.perm p hb
 obtain⟨vs,v1,v2⟩:=akn_ bm
 have lz:vs.length<=sizeLine:=by rw[v1.length,p.length_eq];exact hz
 refine⟨.ref P,upd H P (.lst vs),I.laid (a:=P) (o:=.lst vs) (t':=tk) kp hP ⟨lz,out,e,v1,hg⟩,rfl,q P vs m (I.hok.fresh hP) pm (ab3_ bm (λa ha=>pm.mem_iff.mp ha) o) v2⟩
theorem yY_{pins:List (Addr×Obj)}{σ:St}{H:Hp}{s:Shared}{r:Addr}{its:List Value}{l:List α}{Q:VK}(hu:X.A.units+8<cLine)(I:Inv X pins σ H s)(hb:xn_ α H its l)(hz:its.length<=sizeLine)(hok:∀a∈l,S.ok a)
  (hcol:∀(Q':List Value->Shared->Prop),(∀h' tk,(∀b o,s.heap.get? b=some o->h'.get? b=some o)->s.heap.objs.size<=h'.objs.size->Q' its { s with heap:=h',toks:=tk })->wpAny (model X.prog X.w) X.A.in1 (collect (.ref r)) Q' X.xe s)
  (q:∀(p:Addr)(vs:List V)(l':List α),H p=none->l'.Perm l->(l'.Pairwise λa b=>S.lt a b=false)->Its H vs l'->Q (.ref p) (upd H p (.lst vs))) :
  wpAny (model X.prog X.w) X.A (call (.builtin "sorted") [.ref r] [(Str.ofString "reverse",.bool true)]) (EP X pins σ Q) X.xe s:=by
 refine abx_ (κ:=tuples' S.plain) (M:=λp=>∃a∈l,∃v,RelV v p.1/\D.is H v a) (rk:=xR_ α H l) hz (λv hv=>?_) hcol (λh' tk kp l2=>?_) λh' tk P e out p o kp hP hg=>?_
 ·obtain⟨a,ha,d⟩:=Paired.mem hb hv
  exact⟨a,ha,d⟩
 ·exact afj_ (A:=X.A.in1.in1) (by show X.A.units+1+1+4<cLine;lia) hb hok (I.kept (t':=tk) kp) l2
 ·exact ada_ I hb hz p o kp hP hg q
theorem ads_{e:Expr}{ta:TA}{p pos kp kq:Pos}{j}(hc:X.calm=true)(hu:X.A.units+8<cLine)(hg:Gl X "sorted")(hm:X.mg "sorted" = none)(ha:PA X [e] ta)
  (h1:backTo pos (starEach [e] X.env)=(false,eval e X.env)::backTo pos (starEach [] X.env):=by rfl) (h2:(backTo pos (starEach [e] X.env)).any (·.1)=false:=by rfl) :
  PE X (.Call (.Name "sorted" p) [e] [⟨some (Str.ofString "reverse"),.Constant (.bool true) j kq,kp⟩] pos) (als_ α ta):=by
 intro pins s σ H Q I h
 refine wpAny_Call_Name_kw (zH_ I hg hm boot_sorted ?_)
 refine callWith_kw (thn (ha pos pins s σ H _ I h) λus s1 ⟨vs,H1,I1,r1,q1⟩=>?_) h1 h2
 obtain⟨a,l,rfl,⟨vs,hL,hI⟩,hok,q⟩:=q1
 obtain⟨u,rfl,ru⟩:=jn_ r1
 cases ru
 refine kws_cons (Constant_bool (kws_nil ?_))
 obtain⟨its,rv,ht,hz⟩:=I1.list (SqL.of hL)
 refine yY_ hu I1 (aci_ rv hI) (by rw[<-rv.length];exact hz) hok (λQ' q'=>collect_list ht.isList (q' _ _ (λb o e=>?_) ?_) (by rw[<-rv.length];exact hz)) q
 ·exact(Aw _ _ (CF (AM e))).trans (AB _ e)
 ·rw[D3,size_push'];exact B9 _
end
def toK(d:List Mon):List (List Key×V):=d.map λt=>(t.1.map Sum.inl,V.int t.2)
theorem yk_:∀{a b:List Int},(a.map Sum.inl:List Key)=b.map Sum.inl->a=b
 |[],[],_=>rfl
 |[],_::_,e=>by simp at e
 |_::_,[],e=>by simp at e
 |x::xs,y::ys,e=>by
  rw[Aa,Aa]at e
  injection e with e1 e2
  injection e1 with e1
  rw[e1,yk_ e2]
theorem jt_(k:List Int):(k.map Sum.inl:List Key).map kV=k.map V.int:=by rw[CI];rfl
theorem xw_(d:List Mon)(p:Pw):jh_ (toK d) (p.map Sum.inl)=(qX_ d p).map V.int:=by
 induction d with
 |nil=>rfl
 |cons t r ih =>
  have e0:toK (t::r)=(t.1.map Sum.inl,V.int t.2)::toK r:=rfl
  rw[e0]
  by_cases e:t.1=p
  ·rw[xK_ (p:=(t.1.map Sum.inl,V.int t.2)) (by rw[e])]
   simp [qX_,BR,e]
  ·rw[xF_ (p:=(t.1.map Sum.inl,V.int t.2)) (λz=>e (yk_ z)),ih]
   simp [qX_,BR,e]
theorem vn_(d:List Mon)(p:Pw)(n:Int):z0_ (toK d) (p.map Sum.inl) (V.int n)=toK (j5_ d p n):=by
 have ea:((toK d).any λkv=>decide (kv.1=p.map Sum.inl))=d.any λkv=>decide (kv.1=p):=by
  unfold toK
  rw[List.any_map]
  congr 1
  funext t
  show decide ((t.1.map Sum.inl:List Key)=p.map Sum.inl)=decide (t.1=p)
  by_cases e:t.1=p
  ·rw[decide_eq_true e,decide_eq_true (by rw[e])]
  ·rw[decide_eq_false e,decide_eq_false λz=>e (yk_ z)]
 unfold z0_ j5_
 rw[ea]
 split
 ·unfold toK
  rw[CI,CI]
  apply Bw
  intro t _
  simp only[Function.comp]
  by_cases e:t.1=p
  ·rw[if_pos (by rw[e]),if_pos e]
  ·rw[if_neg (λz=>e (yk_ z)),if_neg e]
 ·unfold toK
  rw[BU]
  rfl
theorem x7_(d:List Mon):(toK d).length=d.length:=AA _
theorem aao_{X:Cx}{pins:List (Addr×Obj)}{σ:St}{H:Hp}{s:Shared}{a:Addr}{d:List Mon}(I:Inv X pins σ H s)(h:Rd H a (.dT (toK d))) :
  d.length<=sizeLine/\(a==sysModules)=false/\∃(es:Array DictEntry)(ep:Nat),RawD s.heap a es ep/\es.size=d.length /\
   Paired (λ(e:DictEntry)(t:Mon)=>(∃p,e.key=.ref p/\H p=some (.tup (t.1.map V.int)))/\RelV (.int t.2) e.val) es.toList d:=by
 obtain⟨z,y,xs,r,o,es,ep,h1,h2,h3,h4,h5⟩:=(show ObjOk X.prog X.w H s.heap a (.dT (toK d)) from adc_ I.hok h)
 have key:∀{d:List Mon}{xs:List (List Key×Addr×Value)},KT H (toK d) xs->Paired (λ(e:DictEntry)(t:Mon)=>(∃p,e.key=.ref p/\H p=some (.tup (t.1.map V.int)))/\RelV (.int t.2) e.val) (xs.map (entryOfKey (tupleKind (qV_ X.prog X.w)))) d:=by
  intro d
  induction d with
  |nil=>intro xs r;cases r;exact .nil
  |cons t d ih =>
   intro xs r
   cases r with
   |cons q qs =>
    refine .cons ⟨⟨_,rfl,?_⟩,q.2.2⟩ (ih qs)
    have:=q.2.1
    rw[<-jt_]
    exact this
 have kp:=key r
 rw[<-h4]at kp
 refine⟨by rw[<-x7_];exact z,y,es,ep,⟨o,h1,h2,h3⟩,?_,kp⟩
 rw[<-AO]
 exact AT kp
section
variable{X:Cx}
def anp_(ta:TA):TE:=λσ H Q=>ta σ H λvs H1=>∃(a:Addr)(d:List Mon),vs=[.ref a]/\Rd H1 a (.dT (toK d))/\(∀t∈d,t.1≠[]) /\
 ∀(p:Addr)(vs:List V)(ks:List Pw),H1 p=none->ks.Perm (d.map (·.1))->(ks.Pairwise λa b=>lxl a b=false)->Its H1 vs ks->Q (.ref p) (upd H1 p (.lst vs))
theorem ad1_{e:Expr}{ta:TA}{p pos kp kq:Pos}{j}(hc:X.calm=true)(hu:X.A.units+8<cLine)(hg:Gl X "sorted")(hm:X.mg "sorted" = none)(ha:PA X [e] ta)
  (h1:backTo pos (starEach [e] X.env)=(false,eval e X.env)::backTo pos (starEach [] X.env):=by rfl) (h2:(backTo pos (starEach [e] X.env)).any (·.1)=false:=by rfl) :
  PE X (.Call (.Name "sorted" p) [e] [⟨some (Str.ofString "reverse"),.Constant (.bool true) j kq,kp⟩] pos) (anp_ ta):=by
 intro pins s σ H Q I h
 refine wpAny_Call_Name_kw (zH_ I hg hm boot_sorted ?_)
 refine callWith_kw (thn (ha pos pins s σ H _ I h) λus s1 ⟨vs,H1,I1,r1,q1⟩=>?_) h1 h2
 obtain⟨a,d,rfl,hR,hne,q⟩:=q1
 obtain⟨u,rfl,ru⟩:=jn_ r1
 cases ru
 refine kws_cons (Constant_bool (kws_nil ?_))
 obtain⟨z,lo,es,ep,raw,sz,ent⟩:=aao_ I1 hR
 have hb:xn_ (List Int) H1 (es.toList.map (·.key)) (d.map (·.1)):=by
  have key:∀{l:List DictEntry}{d:List Mon},Paired (λ(e:DictEntry)(t:Mon)=>(∃p,e.key=.ref p/\H1 p=some (.tup (t.1.map V.int)))/\RelV (.int t.2) e.val) l d->xn_ (List Int) H1 (l.map (·.key)) (d.map (·.1)):=by
   intro l d h
   induction h with
   |nil=>exact .nil
   |cons r t ih =>
    obtain⟨⟨p,e1,e2⟩,_⟩:=r
    exact .cons ⟨.ref p,e1,zR_ e2⟩ ih
  exact key ent
 have ln:(es.toList.map (·.key)).length<=sizeLine:=by rw[AA,AO,sz];exact z
 refine yY_ hu I1 hb ln (λk hk=>?_) (λQ' q'=>ab6_ (aka_ lo) (I1.ok.hd hc) raw (by rw[sz];exact z) λh' tk acc kp szz it=>?_) q
 ·obtain⟨t,ht,rfl⟩:=AV.mp hk
  exact hne t ht
 ·have e:acc.toList=es.toList.map (·.key):=by
   refine Ck λi=>?_
   rw[As,Ac,As]
   by_cases c:i<es.size
   ·have ci:i<acc.size:=by rw[it.1];exact c
    obtain⟨_,e⟩:=it.2 i acc[i] (AJ ci)
    rw[AJ ci,AJ c,e]
    rfl
   ·rw[Cg (by rw[it.1];lia),Cg (by lia)]
    rfl
  rw[e]
  exact q' h' tk kp szz
end
theorem aes_{H:Hp}{X:Cx}{pins:List (Addr×Obj)}{σ:St}{s:Shared}{a:Addr}{o:Obj}{d:List Mon}{es:Array DictEntry}{ep:Nat}(hd:o.data=.dict es ep)(I:Inv X pins σ H s)(h:H a=some (.frz o (.dT (toK d)))) :
  RawD s.heap a es ep/\es.size=d.length/\Paired (λ(e:DictEntry)(t:Mon)=>(∃p,e.key=.ref p/\H p=some (.tup (t.1.map V.int)))/\RelV (.int t.2) e.val) es.toList d:=by
 obtain⟨_,_,es',ep',⟨o',h1,h2,h3⟩,h4,h5⟩:=aao_ I (.inr ⟨o,h⟩)
 obtain⟨h0,_⟩:=(show ObjOk X.prog X.w H s.heap a (.frz o (.dT (toK d))) from I.hok a _ h)
 rw[h0]at h1
 cases h1
 rw[hd]at h3
 cases h3
 exact⟨⟨o,h0,h2,hd⟩,h4,h5⟩
end L2.Ev
namespace L2.Ev
open PySem
open L2.Pl
theorem qd_{H:Hp}{p:Addr}(h:H p=none)(o:HO):Same H (upd H p o):=λb u q=>by rw[ql_ (qA_ q h)];exact q
theorem j7_{n:Nat}(h:n<=100000):n<sizeLine:=BH h (by decide)
theorem small{n:Nat}(h:n<=100000):n<=sizeLine:=BX (j7_ h)
theorem hu8{A:Around}{k:Nat}(hr:Room k A):A.units+8<cLine:=BH (Bl (by decide:8<=64) _) hr.units
def v6_(scope:Scope)(N N':List Str)(o:Option Nat)(i:Nat):Bool:=match o with
 |none=>true
 |some j=>match N'[i]? with
  |some x=>decide (N[j]?=some x)&&decide (scope.names.lookup x=some NameKind.free)
  |none=>false
def afe_(sc scope:Scope)(N N':List Str)(src:List (Option Nat)):Bool :=
 decide (scope.kind=.function)&&scope.names.all (λy=>decide (y.2≠NameKind.cell))&&scope.names.all (λy=>!decide (y.2=NameKind.local)||decide (scope.names.lookup y.1=some NameKind.local)) &&
 scope.names.all (λy=>!decide (y.2=NameKind.free)||(decide (sc.names.lookup y.1=some NameKind.cell)||decide (sc.names.lookup y.1=some NameKind.free)))&&decide (src.length=N'.length) &&
 (List.range src.length).all λi=>v6_ scope N N' (src.getD i none) i
theorem zq_{X:Cx}{N':List Str}{src:List (Option Nat)}{scope:Scope}(sc:Scope)(N:List Str)(h:afe_ sc scope N N' src=true)(e1:X.env.scope=sc:=by rfl)(e2:X.N=N:=by rfl):BkScope X N' src scope:=by
 subst e1 e2
 unfold afe_ at h
 simp only[AG,decide_eq_true_eq,AI,CK,Dt,decide_eq_false_iff_not]at h
 obtain⟨⟨⟨⟨⟨h1,h2⟩,h3⟩,h4⟩,h5⟩,h6⟩:=h
 refine⟨h1,h2,λy hy e=>(h3 y hy).resolve_left λz=>z e,λy hy e=>(h4 y hy).resolve_left λz=>z e,h5,λi j e=>?_⟩
 obtain⟨hi,ei⟩:=AR.mp e
 have q:=h6 i (Ad.mpr hi)
 rw[AF,e]at q
 unfold v6_ at q
 simp only[D5]at q
 cases c:N'[i]? with
 |none=>rw[c]at q;cases q
 |some x =>
  rw[c]at q
  simp only[AG,decide_eq_true_eq]at q
  exact⟨x,rfl,q.1,q.2⟩
theorem Same.tseq{K:PySem.W.Frag}{H H':Hp}{a:Addr}{xs:List V}(e:Same H H')(h:SqT K H a xs):SqT K H' a xs:=by
 rcases h with(h|⟨o,h⟩)|h
 ·exact .inl (.inl (e _ _ h))
 ·exact .inl (.inr ⟨o,e _ _ h⟩)
 ·exact .inr h
theorem SK.same{K:PySem.W.Frag}{H H':Hp}{a:Addr}{xs:List V}{k:SK}(e:Same H H')(h:k.is K H a xs):k.is K H' a xs:=by
 cases k with
 |lst=>exact Same.seq e h
 |tup=>exact Same.tseq e h
theorem xl_{α:Type}[Dat α]{K:PySem.W.Frag}{a:Addr}{xs:List V}{σ0:St}{H1:Hp}{D:Addr}{R:Hp->Prop}{g:TG}{tc:TT}{te:TE}(hD:H1 D=none)(hl:SqL K H1 a xs)(Sp:St->Prop)(out:Nat->Option α)(hn:xs.length<=sizeLine)(h0:Sp σ0)
  (hturn:∀(i:Nat)(x:V)(σ':St)(H':Hp)(Yes:V->St->Hp->Prop)(No:St->Hp->Prop),xs[i]?=some x->Sp σ'->Same H1 H'->(∀y σ2 H4 a,Sp σ2->Same H' H4->out i=some a->Dat.is H4 y a->Yes y σ2 H4)->(∀σ2 H3,Sp σ2->Same H' H3->out i=none->No σ2 H3) ->
   g x σ' H' λσ2 H2=>tc σ2 H2 λok H3=>if ok=true then te σ2 H3 λy H4=>Yes y σ2 H4 else No σ2 H3)
  (hend:∀H',Same H1 H'->LstAt H' D ((List.range xs.length).filterMap out)->R H') :
  ∃W:Nat->Nat->St->Hp->Prop,(∃m,W 0 m σ0 (upd H1 D (.lst [])))/\∀i m σ' H',W i m σ' H' ->
  ((Itl K a).stop i H'/\R H')∨((Itl K a).go i H'/\∃N:St->Hp->Prop,(∀σ'' H'',N σ'' H''->∃m',m'<m/\W (i+1) m' σ'' H'') /\
   ∀x H'',(Itl K a).yld i H' x H''->g x σ' H'' λσ2 H2=>tc σ2 H2 λok H3=>if ok=true then te σ2 H3 λy H4=>∃ys,H4 D=some (.lst ys)/\ys.length<sizeLine/\N σ2 (upd H4 D (.lst (ys++[y]))) else N σ2 H3):=by
 refine jH_ (Q:=λ_ H=>R H) (n:=xs.length) hD Sp out hn h0 (λH' e=>⟨xs,Same.seq e hl,AH _⟩) (λi H' hi e=>⟨xs,xs[i],Same.seq e hl,AE hi⟩) (λi σ' H' Yes No hi hS hH hy hn x H'' y=>?_) hend
 obtain⟨rfl,y⟩:=y
 exact hturn i x σ' H'' Yes No (y xs (Same.seq hH hl)) hS hH hy hn
theorem j3_{α:Type}[Dat α]{K:PySem.W.Frag}{a:Addr}{xs:List V}{σ0:St}{H1:Hp}{D:Addr}{R:Hp->Prop}{g:TG}{tc:TT}{te:TE}(hD:H1 D=none)(hl:SqT K H1 a xs)(Sp:St->Prop)(out:Nat->Option α)(hn:xs.length<=sizeLine)(h0:Sp σ0)
  (hturn:∀(i:Nat)(x:V)(σ':St)(H':Hp)(Yes:V->St->Hp->Prop)(No:St->Hp->Prop),xs[i]?=some x->Sp σ'->Same H1 H'->(∀y σ2 H4 a,Sp σ2->Same H' H4->out i=some a->Dat.is H4 y a->Yes y σ2 H4)->(∀σ2 H3,Sp σ2->Same H' H3->out i=none->No σ2 H3) ->
   g x σ' H' λσ2 H2=>tc σ2 H2 λok H3=>if ok=true then te σ2 H3 λy H4=>Yes y σ2 H4 else No σ2 H3)
  (hend:∀H',Same H1 H'->LstAt H' D ((List.range xs.length).filterMap out)->R H') :
  ∃W:Nat->Nat->St->Hp->Prop,(∃m,W 0 m σ0 (upd H1 D (.lst [])))/\∀i m σ' H',W i m σ' H' ->
  ((Itt K a).stop i H'/\R H')∨((Itt K a).go i H'/\∃N:St->Hp->Prop,(∀σ'' H'',N σ'' H''->∃m',m'<m/\W (i+1) m' σ'' H'') /\
   ∀x H'',(Itt K a).yld i H' x H''->g x σ' H'' λσ2 H2=>tc σ2 H2 λok H3=>if ok=true then te σ2 H3 λy H4=>∃ys,H4 D=some (.lst ys)/\ys.length<sizeLine/\N σ2 (upd H4 D (.lst (ys++[y]))) else N σ2 H3):=by
 refine jH_ (Q:=λ_ H=>R H) (n:=xs.length) hD Sp out hn h0 (λH' e=>⟨xs,Same.tseq e hl,AH _⟩) (λi H' hi e=>⟨xs,xs[i],Same.tseq e hl,AE hi⟩) (λi σ' H' Yes No hi hS hH hy hn x H'' y=>?_) hend
 obtain⟨rfl,y⟩:=y
 exact hturn i x σ' H'' Yes No (y xs (Same.tseq hH hl)) hS hH hy hn
theorem jo_{α:Type}[Dat α]{lo:Int}{n:Nat}{σ0:St}{H1:Hp}{D:Addr}{R:Hp->Prop}{g:TG}{tc:TT}{te:TE}(hD:H1 D=none)(Sp:St->Prop)(out:Nat->Option α)(hn:n<=sizeLine)(h0:Sp σ0)
  (hturn:∀(i:Nat)(σ':St)(H':Hp)(Yes:V->St->Hp->Prop)(No:St->Hp->Prop),i<n->Sp σ'->Same H1 H'->(∀y σ2 H4 a,Sp σ2->Same H' H4->out i=some a->Dat.is H4 y a->Yes y σ2 H4)->(∀σ2 H3,Sp σ2->Same H' H3->out i=none->No σ2 H3) ->
   g (.int (lo+i)) σ' H' λσ2 H2=>tc σ2 H2 λok H3=>if ok=true then te σ2 H3 λy H4=>Yes y σ2 H4 else No σ2 H3)
  (hend:∀H',Same H1 H'->LstAt H' D ((List.range n).filterMap out)->R H') :
  ∃W:Nat->Nat->St->Hp->Prop,(∃m,W 0 m σ0 (upd H1 D (.lst [])))/\∀i m σ' H',W i m σ' H' ->
  ((Itr lo n).stop i H'/\R H')∨((Itr lo n).go i H'/\∃N:St->Hp->Prop,(∀σ'' H'',N σ'' H''->∃m',m'<m/\W (i+1) m' σ'' H'') /\
   ∀x H'',(Itr lo n).yld i H' x H''->g x σ' H'' λσ2 H2=>tc σ2 H2 λok H3=>if ok=true then te σ2 H3 λy H4=>∃ys,H4 D=some (.lst ys)/\ys.length<sizeLine/\N σ2 (upd H4 D (.lst (ys++[y]))) else N σ2 H3):=by
 refine jH_ (Q:=λ_ H=>R H) (n:=n) hD Sp out hn h0 (λH' e=>AH _) (λi H' hi e=>hi) (λi σ' H' Yes No hi hS hH hy hn x H'' y=>?_) hend
 obtain⟨rfl,rfl⟩:=y
 exact hturn i σ' H'' Yes No hi hS hH hy hn
theorem xB_{α:Type}[Dat α]{K:PySem.W.Frag}{k1 k2:SK}{a b:Addr}{xs ys:List V}{σ0:St}{H1:Hp}{D:Addr}{R:Hp->Prop}{g:TG}{tc:TT}{te:TE}(hD:H1 D=none)(hl:k1.is K H1 a xs)(hl2:k2.is K H1 b ys)(Sp:St->Prop)(out:Nat->Option α)(hn:min xs.length ys.length<=sizeLine)(h0:Sp σ0)
  (hturn:∀(i:Nat)(x y:V)(p:Addr)(σ':St)(H':Hp)(Yes:V->St->Hp->Prop)(No:St->Hp->Prop),xs[i]?=some x->ys[i]?=some y->H' p=none->Sp σ'->Same H1 H'->(∀y σ2 H4 a,Sp σ2->Same H' H4->out i=some a->Dat.is H4 y a->Yes y σ2 H4)->(∀σ2 H3,Sp σ2->Same H' H3->out i=none->No σ2 H3) ->
   g (.ref p) σ' (upd H' p (.tup [x,y])) λσ2 H2=>tc σ2 H2 λok H3=>if ok=true then te σ2 H3 λy H4=>Yes y σ2 H4 else No σ2 H3)
  (hend:∀H',Same H1 H'->LstAt H' D ((List.range (min xs.length ys.length)).filterMap out)->R H') :
  ∃W:Nat->Nat->St->Hp->Prop,(∃m,W 0 m σ0 (upd H1 D (.lst [])))/\∀i m σ' H',W i m σ' H' ->
  ((Itz K k1 k2 a b).stop i H'/\R H')∨((Itz K k1 k2 a b).go i H'/\∃N:St->Hp->Prop,(∀σ'' H'',N σ'' H''->∃m',m'<m/\W (i+1) m' σ'' H'') /\
   ∀x H'',(Itz K k1 k2 a b).yld i H' x H''->g x σ' H'' λσ2 H2=>tc σ2 H2 λok H3=>if ok=true then te σ2 H3 λy H4=>∃ys,H4 D=some (.lst ys)/\ys.length<sizeLine/\N σ2 (upd H4 D (.lst (ys++[y]))) else N σ2 H3):=by
 refine jH_ (Q:=λ_ H=>R H) (n:=min xs.length ys.length) hD Sp out hn h0 (λH' e=>⟨xs,ys,SK.same e hl,SK.same e hl2,by omega⟩) (λi H' hi e=>⟨xs,ys,xs[i],ys[i],SK.same e hl,SK.same e hl2,AE (by omega),AE (by omega)⟩) (λi σ' H' Yes No hi hS hH hy hn x H'' y=>?_) hend
 obtain⟨p,x,y,rfl,hp,rfl,hx,hy2⟩:=y
 exact hturn i x y p σ' H' Yes No (hx xs (SK.same hH hl)) (hy2 ys (SK.same hH hl2)) hp hS hH hy hn
theorem zg_{α β:Type}(f:α->Option β)(l:List α):(List.range l.length).filterMap (λi=>(l[i]?).bind f)=l.filterMap f:=by
 induction l with
 |nil=>rfl
 |cons x l ih =>
  rw[AY,By,BW,List.filterMap_map,BW]
  have e:((λi=>((x::l)[i]?).bind f) ∘ Nat.succ)=λi=>(l[i]?).bind f:=by funext i;simp
  rw[e,ih]
  simp
theorem zI_{α β:Type}(c:α->Prop)[DecidablePred c](g:α->β)(l:List α):l.filterMap (λk=>if c k then some (g k) else none)=(l.filter λk=>decide (c k)).map g:=by
 induction l with
 |nil=>rfl
 |cons x l ih =>
  rw[BW,Ar]
  by_cases h:c x
  ·rw[if_pos h,if_pos (decide_eq_true h),Aa,ih]
  ·rw[if_neg h,if_neg (by simpa using h),ih]
theorem q4_{α:Type}[D:Dat α]{H:Hp}{vs:List V}{l:List α}(h:Its H vs l){i:Nat}{x:V}(e:vs[i]?=some x):∃a,l[i]?=some a/\D.is H x a:=Paired.get h e
theorem zJ_{α:Type}{l:List α}{i:Nat}{x:α}(e:l[i]?=some x):l.take (i+1)=l.take i++[x]:=by
 obtain⟨h,rfl⟩:=AR.mp e
 rw[List.take_succ_eq_append_getElem h]
theorem xM_{H:Hp}{x:V}{t:Mon}(h:Dat.is H x t):∃p q,x=.ref p/\H p=some (.tup [.ref q,.int t.2])/\H q=some (.tup (t.1.map V.int)):=by
 obtain⟨p,a,b,rfl,hp,ha,hb⟩:=h
 obtain⟨q,rfl,hq⟩:=qO_ ha
 have hb':b=.int t.2:=hb
 subst hb'
 exact⟨p,q,rfl,hp,hq⟩
theorem abt_{H:Hp}{p q:Addr}{t:Mon}(hp:H p=some (.tup [.ref q,.int t.2]))(hq:H q=some (.tup (t.1.map V.int))):Dat.is H (.ref p) t:=⟨p,_,_,rfl,hp,zR_ hq,rfl⟩
theorem abs_{H:Hp}{p:Addr}(h:H p=none)(o:HO):Tups H (upd H p o):=Tups.same (qd_ h o)
theorem yesT{σ:St}{H:Hp}{A B:Hp->Prop}(h:A H):tYes σ H (λok H3=>if ok=true then A H3 else B H3):=zY_ (A:=A H) (B:=B H) h
theorem z7_{i:Nat}{v:V}{σ:St}{H:Hp}{A B:St->Hp->Prop}(h:A (σ.set i (some v)) H):zy_ i v σ H (λσ2 H2=>tYes σ2 H2 λok H3=>if ok=true then A σ2 H3 else B σ2 H3):=zY_ (A:=A (σ.set i (some v)) H) (B:=B (σ.set i (some v)) H) h
end L2.Ev
namespace L2.Ev
open PySem PySem.Spec PyProof.Rows
open L2.Pl
section
variable{X:Cx}
def CBig(i j:Int):Prop:=i.natAbs<2^100000/\j.natAbs<2^100000
theorem aag_{x:Int}(h:x.natAbs<2^100000):Builtin.Int.intBits x<=2^20:=by
 unfold Builtin.Int.intBits
 split
 ·exact Ae _
 ·rename_i c
  have hx:x.natAbs≠0:=by
   intro z
   exact c (by simpa using Int.natAbs_eq_zero.mp z)
  have:=(Nat.log2_lt hx).mpr h
  have e:(2:Nat)^20=1048576:=by decide
  lia
theorem acb_:OpR X (binaryOp .Mult) (rI CBig λi j=>.int (i*j)):=opI λ_ _ _ _ _ _ _ hc q=>mul_int q (.of_bits (aag_ hc.1) (aag_ hc.2))
def ac9_(K:PySem.W.Frag):R2:=λx y H Q=>∃a b xs ys,x=.ref a/\y=.ref b/\SqT K H a xs/\SqT K H b ys/\xs.length+ys.length<=sizeLine /\
 (xs=[]->Q (.ref b) H)/\(xs≠[]->ys=[]->Q (.ref a) H)/\(xs≠[]->ys≠[]->∀p,H p=none->Q (.ref p) (upd H p (.tup (xs++ys))))
theorem zh_:OpR X (binaryOp .Add) (ac9_ X.K):=by
 intro pins s σ H x y v u Q I rx ry h
 obtain⟨a,b,xs,ys,rfl,rfl,ha,hb,hz,q0,q1,q2⟩:=h
 by_cases hx:xs=[]
 ·cases rx
  cases ry
  obtain⟨its,r1,p1,_⟩:=I.tuple ha
  obtain⟨its2,r2,p2,_⟩:=I.tuple hb
  obtain⟨⟨cls,dd,data,sl⟩,ho,hc,n,hd⟩:=id p1
  obtain⟨⟨cls2,dd2,data2,sl2⟩,ho2,hc2,n2,hd2⟩:=id p2
  simp only at hc hd hc2 hd2
  subst hc hd hc2 hd2
  have e0:its=[]:=r1.nil_iff.mpr hx
  exact concat_meets ⟨_,ho,rfl⟩ ⟨_,ho2,rfl⟩ noFill_tuple_add seq_tuple_add DC C8 (C1 _ _)
   (tuple_addW0 a b its.toArray its2.toArray n n2 dd dd2 sl sl2 (by rw[e0];rfl)) ⟨ho,ho2,⟨.ref b,H,I,rfl,q0 hx⟩⟩
 ·exact ab9_ pins s σ H (.ref a) (.ref b) v u Q I rx ry ⟨a,b,xs,ys,rfl,rfl,ha,hb,hx,hz,q1 hx,q2 hx⟩
theorem zc_{K:PySem.W.Frag}{H:Hp}{a b:Addr}{r r':List Int}{Q:VK}(ha:H a=some (.tup (r.map V.int)))(hb:H b=some (.tup (r'.map V.int)))(hz:r.length+r'.length<=sizeLine)
  (q:∀p H',Same H H'->H' p=some (.tup ((r++r').map V.int))->Q (.ref p) H'):ac9_ K (.ref a) (.ref b) H Q:=by
 refine⟨a,b,_,_,rfl,rfl,SqT.of ha,SqT.of hb,by simpa using hz,λe=>?_,λ_ e=>?_,λ_ _ p hp=>?_⟩
 ·have e':r=[]:=by simpa using e
  refine q b H (Same.refl _) ?_
  rw[e',Cc]
  exact hb
 ·have e':r'=[]:=by simpa using e
  refine q a H (Same.refl _) ?_
  rw[e',BP]
  exact ha
 ·refine q p _ (qd_ hp _) ?_
  rw[BU]
  exact qc_
theorem ae7_{l:Addr}{vs:List Value}{ns:List Int}{s:Shared}{prog:Program}{w:World}{A:Around}{E:Value->Shared->Prop}{Q:Value->Shared->Prop}(hh:A.handled=none)(hl:s.heap.IsList l vs.toArray)(hi:IntsAre vs ns)
  (h:∀h' tk t',(∀b o,s.heap.get? b=some o->h'.get? b=some o)->Q (.int ns.sum t') { s with heap:=h',toks:=tk }) :
  wpAny (model prog w) A (call (.builtin "sum") [.ref l]) Q E s:=by
 obtain⟨xs,hx⟩:=hi.allInts.items
 have hn:numsOf vs.toArray.toList=ns:=by rw[show vs.toArray.toList=vs from rfl,hi.numsOf]
 rw[hx]at hl hn
 rw[nums_intItems]at hn
 obtain⟨o,ho,hc,n,hd⟩:=id hl
 have hne:l≠s.heap.objs.size:=Af (AM ho)
 have hsz:(intItems xs).size=xs.size:=by simp [intItems]
 have W:=(Walks.list (prog:=prog) (w:=w) (A:=A.in1) hh s.heap.objs.size l hne (intItems xs)).toS
 rw[hsz]at W
 refine call_sum_walkAnyS (wpAny_pyIter_list hl ?_)
 refine⟨s.heap.objs.size,_,_,_,_,_,_,numAt xs,rfl,W,⟨⟨_,AL _ rfl,rfl,rfl⟩,hl.at λo e=>AB _ e⟩,λb hb=>?_,λi v hP=>intItems_at hP,λs' t' hm=>?_⟩
 ·rcases AN.mp hb with rfl|hb
  ·exact AM (AL _ rfl)
  ·obtain rfl:=Am.mp hb
   exact AM (AB _ ho)
 ·obtain⟨h',g',d',tk',os'⟩:=s'
  have e1:g'=s.gens:=hm.gens
  have e2:d'=s.drawn:=hm.drawn
  have e3:os'=s.os:=hm.os
  subst e1 e2 e3
  have q:=h h' tk' t' λb o e=>hm.heap b o (λhb=>absurd (AM e) ((Am.mp hb)▸Bh _)) (AB _ e)
  rw[preSum_eq,Aj (by simp),hn]
  exact q
theorem zF_{H:Hp}{vs:List V}{ns:List Int}(i:Its H vs ns):vs=ns.map V.int:=by
 induction i with
 |nil=>rfl
 |cons r t ih=>rw[Aa,<-ih];exact congrArg (· :: _) r
theorem aib_{H:Hp}(ns:List Int):Its H (ns.map V.int) ns:=by
 induction ns with
 |nil=>exact .nil
 |cons n r ih=>exact .cons rfl ih
theorem af1_(hc:X.calm=true):CallR X (.builtin "sum") (λxs H Q=>∃(p:Addr)(ns:List Int),xs=[.ref p]/\SqL X.K H p (ns.map V.int)/\Q (.int ns.sum) H):=by
 intro pins s σ H xs us Q I r h
 obtain⟨p,ns,rfl,hq,q⟩:=h
 obtain⟨u,rfl,ru⟩:=jn_ r
 cases ru
 obtain⟨its,rv,ht,_⟩:=I.list hq
 exact ae7_ (I.ok.hd hc) ht.isList (q1_ rv) λh' tk t' hk=>⟨.int ns.sum,H,I.kept (t':=tk) hk,⟨t',rfl⟩,q⟩
theorem aba_{bs:List Bool}{its:List Value}(r:Vals (bs.map V.bl) its){i:Nat}{v:Value}(h:its.toArray[i]?=some v):∃b,bs[i]?=some b/\v=.bool b:=by
 have h':its[i]?=some v:=by simpa using h
 have hi:i<its.length:=(AR.mp h').1
 have hb:i<bs.length:=by have:=r.length;rw[AA]at this;lia
 have e:(bs.map V.bl)[i]?=some (V.bl bs[i]):=by rw[Ac,AE hb];rfl
 obtain⟨u,e1,r1⟩:=r.get e
 rw[h']at e1
 cases e1
 exact⟨bs[i],AE hb,r1⟩
theorem aew_{bs:List Bool}(n:Nat)(hn:n=bs.length):(List.range n).all (λi=>bs.getD i false)=bs.all id:=by
 subst hn
 induction bs with
 |nil=>rfl
 |cons b bs ih =>
  rw[AY,By,DE,Em,DE]
  have e:((λi=>(b::bs).getD i false) ∘ Nat.succ)=λi=>bs.getD i false:=by funext i;simp
  rw[e,ih]
  rfl
theorem aeu_{bs:List Bool}(n:Nat)(hn:n=bs.length):(List.range n).any (λi=>bs.getD i false)=bs.any id:=by
 subst hn
 induction bs with
 |nil=>rfl
 |cons b bs ih =>
  rw[AY,By,CL,List.any_map,CL]
  have e:((λi=>(b::bs).getD i false) ∘ Nat.succ)=λi=>bs.getD i false:=by funext i;simp
  rw[e,ih]
  rfl
theorem yV_{pins:List (Addr×Obj)}{σ:St}{H:Hp}{s:Shared}{o:Obj}{s':Shared}(I:Inv X pins σ H s)(hm:Moved [s.heap.objs.size] (λa b=>b=a) { s with heap:=s.heap.push o } s'):Inv X pins σ H s':=by
 obtain⟨h',g',d',tk',os'⟩:=s'
 have e1:g'=s.gens:=hm.gens
 have e2:d'=s.drawn:=hm.drawn
 have e3:os'=s.os:=hm.os
 subst e1 e2 e3
 exact I.kept (t':=tk') λb o e=>hm.heap b o (λhb=>absurd (AM e) ((Am.mp hb)▸Bh _)) (AB _ e)
theorem ae3_(hc:X.calm=true):CallR X (.builtin "all") (λxs H Q=>∃(p:Addr)(bs:List Bool),xs=[.ref p]/\SqL X.K H p (bs.map V.bl)/\Q (.bl (bs.all id)) H):=by
 intro pins s σ H xs us Q I r h
 obtain⟨p,bs,rfl,hq,q⟩:=h
 obtain⟨u,rfl,ru⟩:=jn_ r
 cases ru
 obtain⟨its,rv,ht,_⟩:=I.list hq
 have hl:=ht.isList
 obtain⟨o,ho,_⟩:=id hl
 have W:=(Walks.list (prog:=X.prog) (w:=X.w) (A:=X.A.in1) (I.ok.hd hc) s.heap.objs.size p (Af (AM ho)) its.toArray).toS
 refine call_all_walkS (wpAny_pyIter_list hl ⟨s.heap.objs.size,_,_,_,_,_,_,λi=>bs.getD i false,rfl,W,⟨⟨_,AL _ rfl,rfl,rfl⟩,hl.at λo e=>AB _ e⟩,λi v s2 Q2 E2 hP q2=>?_,λs' hm=>?_⟩)
 ·obtain⟨b,hb,rfl⟩:=aba_ rv hP
  refine wpAny_truthy_bool ?_
  have e:bs.getD i false=b:=by rw[AF,hb];rfl
  have q2:Q2 (bs.getD i false) s2:=q2
  rw[e]at q2
  exact q2
 ·refine⟨.bl (bs.all id),H,yV_ I hm,?_,q⟩
  have e:=aew_ (bs:=bs) its.toArray.size (by have:=rv.length;simp at this ⊢;lia)
  rw[e]
  rfl
theorem v0_(hc:X.calm=true):CallR X (.builtin "any") (λxs H Q=>∃(p:Addr)(bs:List Bool),xs=[.ref p]/\SqL X.K H p (bs.map V.bl)/\Q (.bl (bs.any id)) H):=by
 intro pins s σ H xs us Q I r h
 obtain⟨p,bs,rfl,hq,q⟩:=h
 obtain⟨u,rfl,ru⟩:=jn_ r
 cases ru
 obtain⟨its,rv,ht,_⟩:=I.list hq
 have hl:=ht.isList
 obtain⟨o,ho,_⟩:=id hl
 have W:=(Walks.list (prog:=X.prog) (w:=X.w) (A:=X.A.in1) (I.ok.hd hc) s.heap.objs.size p (Af (AM ho)) its.toArray).toS
 refine call_any_walkS (wpAny_pyIter_list hl ⟨s.heap.objs.size,_,_,_,_,_,_,λi=>bs.getD i false,rfl,W,⟨⟨_,AL _ rfl,rfl,rfl⟩,hl.at λo e=>AB _ e⟩,λi v s2 Q2 E2 hP q2=>?_,λs' hm=>?_⟩)
 ·obtain⟨b,hb,rfl⟩:=aba_ rv hP
  refine wpAny_truthy_bool ?_
  have e:bs.getD i false=b:=by rw[AF,hb];rfl
  have q2:Q2 (bs.getD i false) s2:=q2
  rw[e]at q2
  exact q2
 ·refine⟨.bl (bs.any id),H,yV_ I hm,?_,q⟩
  have e:=aeu_ (bs:=bs) its.toArray.size (by have:=rv.length;simp at this ⊢;lia)
  rw[e]
  rfl
instance datBool:Dat Bool where
 is:=λ_ v b=>v=.bl b
 mono:=λ_ h=>h
 inj:=λh h'=>by rw[h]at h';cases h';rfl
 dep:=0
 eqb:=λa b=>a==b
 eqb_iff:=λa b=>by simp
 eqAt:=λ{X pins σ H s A v v' u u' a b} I hu h h' r r'=>by
  subst h h'
  cases r
  cases r'
  exact SeqAt.EqAt.bool_bool _ _
theorem xS_{H:Hp}{vs:List V}{bs:List Bool}(i:Its H vs bs):vs=bs.map V.bl:=by
 induction i with
 |nil=>rfl
 |cons r t ih=>rw[Aa,<-ih];exact congrArg (· :: _) r
theorem ajs_{α:Type}[D:Dat α]{pins:List (Addr×Obj)}{σ:St}{H:Hp}{s:Shared}{A:Around}{a b:Addr}{l m:List α}(I:Inv X pins σ H s)(hu:A.units+(D.dep+1)<cLine)(ha:Dat.is H (.ref a) l)(hb:Dat.is H (.ref b) m) :
  SeqAt.RcAt A s (.ref a) (.ref b) (ze_ D.eqb l m)/\SeqAt.RcNeAt A s (.ref a) (.ref b) (!ze_ D.eqb l m):=by
 obtain⟨p,vs,e,h,i⟩:=ha
 cases e
 obtain⟨p',vs',e',h',i'⟩:=hb
 cases e'
 obtain⟨its,rv,ht,_⟩:=I.tuple (SqT.of h)
 obtain⟨its',rv',ht',_⟩:=I.tuple (SqT.of h')
 have hl:its.toArray.size=l.length:=by have:=rv.length;have:=AT i;simp;lia
 have hm:its'.toArray.size=m.length:=by have:=rv'.length;have:=AT i';simp;lia
 have q:=Dr (A:=A) (s:=s) (e:=eAt D.eqb l m) (show s.heap.IsTuple a its.toArray from ht) (show s.heap.IsTuple b its'.toArray from ht') (by lia) (j1_ I (A:=A.in1) (by show A.units+1+D.dep<cLine;lia) i i' rv rv')
 have q2:=SeqAt.RcNeAt.tuples (A:=A) (s:=s) (e:=eAt D.eqb l m) (show s.heap.IsTuple a its.toArray from ht) (show s.heap.IsTuple b its'.toArray from ht') (by lia) (j1_ I (A:=A.in1) (by show A.units+1+D.dep<cLine;lia) i i' rv rv')
 rw[hl,hm,j4_]at q q2
 exact⟨q,q2⟩
def rEqT(α:Type)[Dat α]:R2:=λx y H Q=>∃(l m:List α),Dat.is H x l/\Dat.is H y m/\Q (.bl (ze_ (Dat.eqb (α:=α)) l m)) H
theorem an2_{α:Type}[D:Dat α](hu:X.A.units+(D.dep+1)<cLine):OpR X (compareOp .Eq) (rEqT α):=by
 intro pins s σ H x y v u Q I rx ry h
 obtain⟨l,m,ha,hb,q⟩:=h
 obtain⟨p,_,rfl,_⟩:=id ha
 obtain⟨p',_,rfl,_⟩:=id hb
 cases rx
 cases ry
 exact(ajs_ I hu ha hb).1 X.prog X.w X.xe _ ⟨.bl _,H,I,rfl,q⟩
end
end L2.Ev
namespace L2.Pl
def mval(ps pt:List Int):Int:=(ps.zip pt).foldl (λv x=>v*x.2^x.1.toNat) 1
theorem ad7_{a b:Int}{x y:Nat}(ha:a.natAbs<2^x)(hb:b.natAbs<2^y):(a*b).natAbs<2^(x+y):=by
 rw[Int.natAbs_mul,Er]
 exact Dm ha hb
theorem zf_{a:Int}{x y:Nat}(h:a.natAbs<2^x)(hxy:x<=y):a.natAbs<2^y:=AZ h (Cr (by decide) hxy)
def swp(p:List Int)(k:Nat):List Int:=p.take k++[p.getD (k+1) 0,p.getD k 0]++p.drop (k+2)
theorem vt_{p:List Int}{k:Nat}(h:k+1<p.length):(swp p k).length=p.length:=by
 unfold swp
 simp
 omega
theorem xu_{p:List Int}{k:Nat}(h:k+1<p.length){x:Int}(hx:x∈swp p k):x∈p:=by
 unfold swp at hx
 rcases Ap.mp hx with hx|hx
 ·rcases Ap.mp hx with hx|hx
  ·exact BF hx
  ·have e1:p.getD (k+1) 0=p[k+1]:=by simp [h]
   have e2:p.getD k 0=p[k]:=by simp [show k<p.length by omega]
   rw[e1,e2]at hx
   rcases AN.mp hx with rfl|hx
   ·exact Bp _
   ·rw[Am.mp hx];exact Bp _
 ·exact B6 hx
structure Good(n b:Nat)(ts:List Mon):Prop where
 len:∀t∈ts,t.1.length=n
 pow:∀t∈ts,∀x∈t.1,0<=x/\x<=8
 num:∀t∈ts,t.2.natAbs<2^b
theorem Good.ne{n b:Nat}{ts:List Mon}(h:Good (n+1) b ts):∀t∈ts,t.1≠[]:=λt ht e=>by
 have:=h.len t ht
 rw[e]at this
 simp at this
theorem Good.mono{n b c:Nat}{ts:List Mon}(h:Good n b ts)(hbc:b<=c):Good n c ts:=⟨h.len,h.pow,λt ht=>zf_ (h.num t ht) hbc⟩
theorem j9_{b:Nat}(p:Pw):∀{ts:List Mon},(∀t∈ts,t.2.natAbs<2^b)->(cf ts p).natAbs<=ts.length*2^b
 |[],_=>by simp [cf]
 |t::r,h=>by
  have ih:=j9_ p (ts:=r) λx hx=>h x (AC _ hx)
  have h1:=h t (AD ..)
  simp only[cf]
  have h2:=Int.natAbs_add_le (if t.1=p then t.2 else 0) (cf r p)
  have h3:(if t.1=p then t.2 else (0:Int)).natAbs<=2^b:=by
   split
   ·omega
   ·simp
  rw[AY,C3]
  omega
theorem x4_{l:List Mon}(c:Canon l){t:Mon}(ht:t∈l):cf l t.1=t.2:=by
 induction l with
 |nil=>cases ht
 |cons u l ih =>
  rcases AN.mp ht with e|ht
  ·subst e;exact c.head
  ·have o:=(Ab.mp c.ord).1 t ht
   simp only[cf]
   rw[if_neg (λe=>by rw[e,q7_]at o;cases o),ih c.tail ht]
   omega
theorem Good.norm{n b k:Nat}{ts:List Mon}(h:Good n b ts)(hk:ts.length<2^k):Good n (b+k) (norm ts):=by
 refine⟨λt ht=>?_,λt ht=>?_,λt ht=>?_⟩
 ·obtain⟨u,hu,e⟩:=qY_ ht
  rw[<-e];exact h.len u hu
 ·obtain⟨u,hu,e⟩:=qY_ ht
  rw[<-e];exact h.pow u hu
 ·have e:=x4_ (qF_ ts) ht
  rw[zj_]at e
  rw[<-e]
  refine BH (j9_ t.1 h.num) ?_
  rw[Er,DP]
  exact Dn hk (Nat.pow_pos (by decide))
theorem Good.swp{n b k:Nat}{ts:List Mon}(h:Good n b ts)(hk:k+1<n):Good n b (ts.map λt=>(swp t.1 k,t.2)):=by
 refine⟨λt ht=>?_,λt ht=>?_,λt ht=>?_⟩<;>obtain⟨u,hu,rfl⟩:=AV.mp ht
 ·show(Pl.swp u.1 k).length=n
  rw[vt_ (by rw[h.len u hu];exact hk),h.len u hu]
 ·intro x hx
  exact h.pow u hu x (xu_ (by rw[h.len u hu];exact hk) hx)
 ·exact h.num u hu
end L2.Pl
namespace L2.Pl
def ass_(c k m:Int):Int:=(c%2147483647*48271+69621*k*k+7*k)%2147483629*((c%2147483647*48271+69621*k*k+7*k)%2147483629)%2147483587%m
theorem yX_{x:Int}:∀{l:List Int},(∀y∈l,0<=y)->x∈l->x<=l.sum/\0<=l.sum
 |[],_,h=>by cases h
 |y::l,hl,h=>by
  have hl':∀z∈l,0<=z:=λz hz=>hl z (AC _ hz)
  have hy:=hl y (AD ..)
  have s0:0<=l.sum:=by
   have key:∀m:List Int,(∀z∈m,0<=z)->0<=m.sum:=by
    intro m
    induction m with
    |nil=>intro _;simp
    |cons a m ih =>
     intro hm
     have:=hm a (AD ..)
     have:=ih λz hz=>hm z (AC _ hz)
     rw[Aq];omega
   exact key l hl'
  rw[Aq]
  rcases AN.mp h with rfl|h
  ·omega
  ·have:=(yX_ hl' h).1
   omega
end L2.Pl
namespace L2.Ev
open PySem
open L2.Pl
theorem za_{c A B:Prop}[Decidable c](h:¬ c)(b:B):if decide c=true then A else B:=by
 rw[decide_eq_false h]
 exact q6_ b
theorem zD_{c A B:Prop}[Decidable c](h:c)(a:A):if decide c=true then A else B:=by
 rw[decide_eq_true h]
 exact zY_ a
theorem apm_{c A B:Prop}[Decidable c](h:c)(b:B):if (!decide c)=true then A else B:=by
 rw[decide_eq_true h]
 exact q6_ b
theorem apz_{c A B:Prop}[Decidable c](h:¬ c)(a:A):if (!decide c)=true then A else B:=by
 rw[decide_eq_false h]
 exact zY_ a
theorem xH_(K:PySem.W.Frag)(T:String):PySem.W.kitOne K (.type T) (.type T)=some true:=if_pos (beq_self_eq_true _)
theorem aa9_(K:PySem.W.Frag):PySem.W.kitOne K (.type "int") (.type "bool")=some false:=by
 show(if (Value.type "int" == Value.type "bool")=true then some true else (if PySem.W.kitMeta "bool" = true then (fastBuiltinMro "int").map (·.contains (.type "bool")) else none))=some false
 decide +kernel
theorem ahb_{n:Nat}(h:1<=n):ixN n (-1)=some (n-1):=by
 unfold ixN
 rw[if_neg (by decide),if_pos (by omega)]
 congr 1
 omega
end L2.Ev
namespace L2.Pl
def sm(f:Pw->Int):List Mon->Int
 |[]=>0
 |t::r=>t.2*f t.1+sm f r
theorem jX_(f:Pw->Int):∀a b:List Mon,sm f (a++b)=sm f a+sm f b
 |[],b=>by simp [sm]
 |t::a,b=>by simp only[DG,sm];rw[jX_ f a b];lia
theorem aev_(f:Pw->Int)(t:Mon):∀l:List Mon,sm f (ins t l)=t.2*f t.1+sm f l
 |[]=>by
  unfold ins
  split
  ·rename_i h
   simp [sm,h]
  ·simp [sm]
 |u::l=>by
  unfold ins
  split
  ·rename_i h
   split
   ·rename_i h2
    simp only[sm]
    rw[<-Int.add_assoc,h,<-DD,Eo t.2,h2]
    simp
   ·simp only[sm]
    rw[h,DD]
    lia
  ·split
   ·split
    ·rename_i h
     simp only[sm];rw[h];lia
    ·simp only[sm]
   ·simp only[sm];rw[aev_ f t l];lia
theorem qy_(f:Pw->Int):∀ts:List Mon,sm f (norm ts)=sm f ts
 |[]=>rfl
 |t::r=>by
  show sm f (ins t (norm r))=_
  rw[aev_,qy_ f r]
  rfl
theorem zm_(p:Pw):∀ts:List Mon,cf ts p=sm (λq=>if q=p then 1 else 0) ts
 |[]=>rfl
 |t::r=>by
  simp only[cf,sm]
  rw[zm_ p r]
  split<;>simp
theorem zK_{a b:List Mon}(h:∀f,sm f a=sm f b):norm a=norm b:=yO_ λp=>by rw[zm_,zm_,h]
theorem qT_{f g:Pw->Int}:∀{ts:List Mon},(∀t∈ts,f t.1=g t.1)->sm f ts=sm g ts
 |[],_=>rfl
 |t::r,h=>by
  simp only[sm]
  rw[h t (AD ..),qT_ λx hx=>h x (AC _ hx)]
theorem afn_(f g:Pw->Int):∀ts:List Mon,sm (λp=>f p+g p) ts=sm f ts+sm g ts
 |[]=>rfl
 |t::r=>by simp only[sm];rw[afn_ f g r,ER];lia
theorem abk_(f:Pw->Int)(c:Int):∀ts:List Mon,sm (λp=>f p*c) ts=sm f ts*c
 |[]=>by simp [sm]
 |t::r=>by simp only[sm];rw[abk_ f c r,DD,Cb]
theorem vc_(f:Pw->Int)(c:Int)(ts:List Mon):sm (λp=>c*f p) ts=c*sm f ts:=by
 rw[DT,<-abk_]
 exact qT_ λt _=>DT _ _
def pad(p q:Pw):Pw:=List.zipWith (· + ·) p q
def prd(a b:List Mon):List Mon:=a.flatMap λt=>b.map λu=>(pad t.1 u.1,t.2*u.2)
def ngt(a:List Mon):List Mon:=a.map λt=>(t.1,-t.2)
def sws(a:List Mon)(k:Nat):List Mon:=a.map λt=>(swp t.1 k,t.2)
theorem jF_(f:Pw->Int):∀a:List Mon,sm f (ngt a)=- sm f a
 |[]=>rfl
 |t::r=>by
  have:=jF_ f r
  unfold ngt at this ⊢
  rw[Aa]
  simp only[sm]
  rw[this,Int.neg_mul]
  lia
theorem zO_(f:Pw->Int)(k:Nat):∀a:List Mon,sm f (sws a k)=sm (λp=>f (swp p k)) a
 |[]=>rfl
 |t::r=>by
  have:=zO_ f k r
  unfold sws at this ⊢
  rw[Aa]
  simp only[sm]
  rw[this]
theorem afs_(f:Pw->Int)(t:Mon):∀b:List Mon,sm f (b.map λu=>(pad t.1 u.1,t.2*u.2))=t.2*sm (λq=>f (pad t.1 q)) b
 |[]=>by simp [sm]
 |u::r=>by
  rw[Aa]
  simp only[sm]
  rw[afs_ f t r,ER,Cb]
theorem qR_(f:Pw->Int)(b:List Mon):∀a:List Mon,sm f (prd a b)=sm (λp=>sm (λq=>f (pad p q)) b) a
 |[]=>rfl
 |t::r=>by
  have:=qR_ f b r
  unfold prd at this ⊢
  rw[Ay,jX_,this,afs_]
  rfl
theorem vX_:∀p q r:Pw,pad (pad p q) r=pad p (pad q r)
 |[],q,r=>by simp [pad]
 |_::_,[],r=>by simp [pad]
 |_::_,_::_,[]=>by simp [pad]
 |x::p,y::q,z::r=>by
  have:=vX_ p q r
  unfold pad at this ⊢
  simp only[CA]
  rw[this,Int.add_assoc]
theorem acz_{p q:Pw}{n:Nat}(h:p.length=n)(g:q.length=n):(pad p q).length=n:=by
 unfold pad
 rw[List.length_zipWith,h,g,Dz]
theorem vs_:∀{p q:Pw},p.length=q.length->(pad p q).sum=p.sum+q.sum
 |[],[],_=>rfl
 |x::p,y::q,h=>by
  have:=vs_ (p:=p) (q:=q) (by simpa using h)
  unfold pad at this ⊢
  simp only[CA,Aq]
  rw[this];lia
theorem afp_:∀{p q:Pw},(∀x∈p,0<=x)->(∀x∈q,0<=x)->∀x∈pad p q,0<=x
 |[],_,_,_,x,hx=>by simp [pad]at hx
 |_::_,[],_,_,x,hx=>by simp [pad]at hx
 |a::p,b::q,hp,hq,x,hx=>by
  unfold pad at hx
  rw[CA]at hx
  rcases AN.mp hx with rfl|hx
  ·have:=hp a (AD ..)
   have:=hq b (AD ..)
   lia
  ·exact afp_ (λy hy=>hp y (AC _ hy)) (λy hy=>hq y (AC _ hy)) x hx
theorem agx_(l:List (Int×Int)):∀v:Int,l.foldl (λv x=>v*x.2^x.1.toNat) v=v*l.foldl (λv x=>v*x.2^x.1.toNat) 1:=by
 induction l with
 |nil=>intro v;simp
 |cons x l ih =>
  intro v
  rw[Bm,Bm,ih,ih (1*_),ES,Cb]
theorem jd_(x y:Int)(p pt:List Int):mval (x::p) (y::pt)=y^x.toNat*mval p pt:=by
 unfold mval
 rw[CH,Bm,agx_,ES]
theorem zu_(x y:Int)(p:List Int):swp (x::y::p) 0=y::x::p:=by simp [swp]
theorem zw_(x:Int)(p:List Int)(k:Nat):swp (x::p) (k+1)=x::swp p k:=by simp [swp]
theorem ah1_:∀{k:Nat}{p pt:List Int},k+1<p.length->p.length=pt.length->mval (swp p k) pt=mval p (swp pt k)
 |0,x::y::p,a::b::pt,_,_=>by
  rw[zu_,zu_,jd_,jd_,jd_,jd_,Int.mul_left_comm]
 |k+1,x::p,a::pt,h1,h2=>by
  rw[zw_,zw_,jd_,jd_,ah1_ (by simpa using h1) (by simpa using h2)]
theorem vd_:∀{k:Nat}{p:List Int},k+1<p.length->swp (swp p k) k=p
 |0,x::y::p,_=>by rw[zu_,zu_]
 |k+1,x::p,h=>by rw[zw_,zw_,vd_ (by simpa using h)]
theorem acf_:∀{k:Nat}{p q:List Int},k+1<p.length->p.length=q.length->swp (pad p q) k=pad (swp p k) (swp q k)
 |0,x::y::p,a::b::q,_,_=>by
  rw[zu_,zu_]
  show swp ((x+a)::(y+b)::pad p q) 0=(y+b)::(x+a)::pad p q
  rw[zu_]
 |k+1,x::p,a::q,h1,h2=>by
  rw[zw_,zw_]
  show swp ((x+a)::pad p q) (k+1)=(x+a)::pad (swp p k) (swp q k)
  rw[zw_,acf_ (by simpa using h1) (by simpa using h2)]
theorem vE_{a b:List Mon}{n k:Nat}(ha:∀t∈a,t.1.length=n)(hb:∀t∈b,t.1.length=n)(hk:k+1<n):norm (sws (norm (prd a b)) k)=norm (prd (norm (sws a k)) (norm (sws b k))):=by
 refine zK_ λf=>?_
 rw[zO_,qy_,qR_,qR_,qy_,zO_]
 refine qT_ λt ht=>?_
 rw[qy_,zO_]
 refine qT_ λu hu=>?_
 rw[acf_ (by rw[ha t ht];exact hk) (by rw[ha t ht,hb u hu])]
structure Deg(n d b:Nat)(ts:List Mon):Prop where
 len:∀t∈ts,t.1.length=n
 nn:∀t∈ts,∀x∈t.1,0<=x
 sum:∀t∈ts,t.1.sum<=d
 num:∀t∈ts,t.2.natAbs<2^b
theorem Deg.good{n d b:Nat}{ts:List Mon}(h:Deg n d b ts)(hd:d<=8):Good n b ts:=by
 refine⟨h.len,λt ht x hx=>⟨h.nn t ht x hx,?_⟩,h.num⟩
 have:=(yX_ (h.nn t ht) hx).1
 have:=h.sum t ht
 lia
theorem Deg.mono{n d b d' b':Nat}{ts:List Mon}(h:Deg n d b ts)(hd:d<=d')(hb:b<=b'):Deg n d' b' ts :=
 ⟨h.len,h.nn,λt ht=>by have:=h.sum t ht;lia,λt ht=>zf_ (h.num t ht) hb⟩
theorem Deg.norm{n d b k:Nat}{ts:List Mon}(h:Deg n d b ts)(hk:ts.length<2^k):Deg n d (b+k) (Pl.norm ts):=by
 refine⟨λt ht=>?_,λt ht=>?_,λt ht=>?_,λt ht=>?_⟩
 ·obtain⟨u,hu,e⟩:=qY_ ht
  rw[<-e];exact h.len u hu
 ·obtain⟨u,hu,e⟩:=qY_ ht
  rw[<-e];exact h.nn u hu
 ·obtain⟨u,hu,e⟩:=qY_ ht
  rw[<-e];exact h.sum u hu
 ·have e:=x4_ (qF_ ts) ht
  rw[zj_]at e
  rw[<-e]
  refine BH (j9_ t.1 h.num) ?_
  rw[Er,DP]
  exact Dn hk (Nat.pow_pos (by decide))
theorem Deg.ngt{n d b:Nat}{ts:List Mon}(h:Deg n d b ts):Deg n d b (Pl.ngt ts):=by
 refine⟨λt ht=>?_,λt ht=>?_,λt ht=>?_,λt ht=>?_⟩<;>obtain⟨u,hu,rfl⟩:=AV.mp ht
 ·exact h.len u hu
 ·exact h.nn u hu
 ·exact h.sum u hu
 ·show(-u.2).natAbs<_
  rw[Int.natAbs_neg];exact h.num u hu
theorem vl_:∀{k:Nat}{p:List Int},k+1<p.length->(swp p k).sum=p.sum
 |0,x::y::p,_=>by rw[zu_];simp only[Aq];lia
 |k+1,x::p,h=>by rw[zw_];simp only[Aq];rw[vl_ (by simpa using h)]
theorem Deg.sws{n d b k:Nat}{ts:List Mon}(h:Deg n d b ts)(hk:k+1<n):Deg n d b (Pl.sws ts k):=by
 refine⟨λt ht=>?_,λt ht=>?_,λt ht=>?_,λt ht=>?_⟩<;>obtain⟨u,hu,rfl⟩:=AV.mp ht
 ·show(Pl.swp u.1 k).length=n
  rw[vt_ (by rw[h.len u hu];exact hk),h.len u hu]
 ·intro x hx
  exact h.nn u hu x (xu_ (by rw[h.len u hu];exact hk) hx)
 ·show(Pl.swp u.1 k).sum<=d
  rw[vl_ (by rw[h.len u hu];exact hk)];exact h.sum u hu
 ·exact h.num u hu
theorem Deg.prd{n d b d' b':Nat}{ts us:List Mon}(h:Deg n d b ts)(q:Deg n d' b' us):Deg n (d+d') (b+b') (Pl.prd ts us):=by
 have key:∀t∈Pl.prd ts us,∃x∈ts,∃y∈us,t=(pad x.1 y.1,x.2*y.2):=λt ht=>by
  obtain⟨x,hx,ht⟩:=BB.mp ht
  obtain⟨y,hy,rfl⟩:=AV.mp ht
  exact⟨x,hx,y,hy,rfl⟩
 refine⟨λt ht=>?_,λt ht=>?_,λt ht=>?_,λt ht=>?_⟩<;>obtain⟨x,hx,y,hy,rfl⟩:=key t ht
 ·exact acz_ (h.len x hx) (q.len y hy)
 ·exact afp_ (h.nn x hx) (q.nn y hy)
 ·show(pad x.1 y.1).sum<=_
  rw[vs_ (by rw[h.len x hx,q.len y hy])]
  have:=h.sum x hx
  have:=q.sum y hy
  lia
 ·exact ad7_ (h.num x hx) (q.num y hy)
theorem yh_(a b:List Mon):(prd a b).length=a.length*b.length:=by
 induction a with
 |nil=>simp [prd]
 |cons t r ih =>
  unfold prd at ih ⊢
  rw[Ay,AK,ih,AA,AY,C3,El]
end L2.Pl
namespace L2.Pl
theorem xZ_:∀{p a q:Pw}{n:Nat},p.length=n->a.length=n->q.length=n->lxl p a=true->lxl (pad p q) (pad a q)=true
 |[],[],_,_,_,_,_,h=>by simp [lxl]at h
 |[],_::_,_,_,h1,h2,_,_=>by simp at h1 h2;omega
 |_::_,[],_,_,h1,h2,_,_=>by simp at h1 h2;omega
 |_::_,_::_,[],_,h1,_,h3,_=>by simp at h1 h3;omega
 |x::p,y::a,z::q,n,h1,h2,h3,h=>by
  unfold pad
  simp only[CA,lxl]at h ⊢
  simp only[AY]at h1 h2 h3
  by_cases e:x=y
  ·subst e
   rw[if_pos rfl]at h ⊢
   exact xZ_ (n:=p.length) rfl (by omega) (by omega) h
  ·rw[if_neg e]at h
   have:=of_decide_eq_true h
   rw[if_neg (by omega)]
   exact decide_eq_true (by omega)
theorem jV_:∀p q:Pw,pad p q=pad q p
 |[],[]=>rfl
 |[],_::_=>rfl
 |_::_,[]=>rfl
 |x::p,y::q=>by
  have:=jV_ p q
  unfold pad at this ⊢
  simp only[CA]
  rw[this,Eo]
structure Top(f:List Mon)(a:Pw)(x:Int):Prop where
 at_:cf f a=x
 top:∀t∈f,t.1=a∨lxl t.1 a=true
theorem Top.norm{f:List Mon}{a:Pw}{x:Int}(h:Top f a x):Top (norm f) a x:=⟨by rw[zj_];exact h.at_,λt ht=>by
 obtain⟨u,hu,e⟩:=qY_ ht
 rw[<-e]
 exact h.top u hu⟩
theorem Top.head{f:List Mon}{a:Pw}{x:Int}(c:Canon f)(h:Top f a x)(hx:x≠0):∃r,f=(a,x)::r:=by
 cases f with
 |nil=>exact absurd h.at_ (λz=>hx z.symm)
 |cons t r =>
  have o:=(Ab.mp c.ord).1
  have e:t.1=a:=by
   rcases h.top t (AD ..) with e|e
   ·exact e
   ·have z:=h.at_
    rw[c.above λu hu=>by
     rcases AN.mp hu with rfl|hu
     ·exact e
     ·exact zs_ (o u hu) e]at z
    exact absurd z.symm hx
  have e2:t.2=x:=by
   rw[<-h.at_,<-e,c.head]
  exact⟨r,by rw[<-e,<-e2]⟩
theorem vY_{t:Mon}{r:List Mon}(c:Canon (t::r)):Top (t::r) t.1 t.2:=⟨c.head,λu hu=>by
 rcases AN.mp hu with rfl|hu
 ·exact .inl rfl
 ·exact .inr ((Ab.mp c.ord).1 u hu)⟩
theorem Top.prd{f g:List Mon}{a b:Pw}{x y:Int}{n:Nat}(hf:Top f a x)(hg:Top g b y)(lf:∀t∈f,t.1.length=n)(lg:∀t∈g,t.1.length=n)(la:a.length=n)(lb:b.length=n):Top (prd f g) (pad a b) (x*y):=by
 have cmp:∀t∈f,∀u∈g,pad t.1 u.1=pad a b/\t.1=a/\u.1=b∨lxl (pad t.1 u.1) (pad a b)=true/\¬ (t.1=a/\u.1=b):=λt ht u hu=>by
  rcases hf.top t ht with e|e<;>rcases hg.top u hu with e'|e'
  ·exact .inl ⟨by rw[e,e'],e,e'⟩
  ·refine .inr ⟨?_,λz=>by rw[z.2,q7_]at e';cases e'⟩
   rw[e,jV_ a,jV_ a]
   exact xZ_ (lg u hu) lb la e'
  ·refine .inr ⟨?_,λz=>by rw[z.1,q7_]at e;cases e⟩
   rw[e']
   exact xZ_ (lf t ht) la lb e
  ·refine .inr ⟨?_,λz=>by rw[z.1,q7_]at e;cases e⟩
   refine zs_ (xZ_ (lf t ht) la (lg u hu) e) ?_
   rw[jV_ a,jV_ a]
   exact xZ_ (lg u hu) lb la e'
 refine⟨?_,λt ht=>?_⟩
 ·rw[zm_,qR_,<-hf.at_,<-hg.at_,zm_ a,zm_ b,<-abk_]
  refine qT_ λt ht=>?_
  rw[<-vc_ (λq=>if q=b then 1 else 0)]
  refine qT_ λu hu=>?_
  rcases cmp t ht u hu with⟨e,e1,e2⟩|⟨e,e1⟩
  ·rw[if_pos e,if_pos e1,if_pos e2];rfl
  ·rw[if_neg (λz=>by rw[z,q7_]at e;cases e)]
   by_cases c:t.1=a
   ·rw[if_pos c,if_neg (λz=>e1 ⟨c,z⟩)];rfl
   ·rw[if_neg c];simp
 ·obtain⟨u,hu,ht⟩:=BB.mp ht
  obtain⟨v,hv,rfl⟩:=AV.mp ht
  rcases cmp u hu v hv with⟨e,_⟩|⟨e,_⟩
  ·exact .inl e
  ·exact .inr e
def Even(n:Nat)(f:List Mon):Prop:=∀k,k+1<n->norm (sws f k)=norm f
theorem Even.norm{n:Nat}{f:List Mon}(h:Even n f):Even n (norm f):=λk hk=>by
 rw[xY_ (qF_ f)]
 exact(zK_ λF=>by rw[zO_,qy_,zO_]).trans (h k hk)
theorem ah6_{n:Nat}{a b:List Mon}(ha:Even n a)(hb:Even n b)(la:∀t∈a,t.1.length=n)(lb:∀t∈b,t.1.length=n):Even n (prd a b):=λk hk=>by
 have h:=vE_ la lb hk
 rw[ha k hk,hb k hk]at h
 have e1:L2.Pl.norm (sws (L2.Pl.norm (prd a b)) k)=L2.Pl.norm (sws (prd a b) k):=zK_ λF=>by rw[zO_,qy_,zO_]
 have e2:L2.Pl.norm (prd (L2.Pl.norm a) (L2.Pl.norm b))=L2.Pl.norm (prd a b):=zK_ λF=>by
  rw[qR_,qy_,qR_]
  exact qT_ λt _=>qy_ _ _
 rw[<-e1,h,e2]
def scl(c:Int)(f:List Mon):List Mon:=f.map λt=>(t.1,c*t.2)
theorem aa1_(F:Pw->Int)(c:Int):∀f:List Mon,sm F (scl c f)=c*sm F f
 |[]=>by simp [scl,sm]
 |t::r=>by
  have:=aa1_ F c r
  unfold scl at this ⊢
  rw[Aa]
  simp only[sm]
  rw[this,ER,Cb]
theorem yc_(c:Int)(f:List Mon):(scl c f).length=f.length:=AA _
end L2.Pl
namespace L2.Pl
def Ak(a b:List Mon):Prop:=∀f:Pw->Int,sm f a=sm f b
theorem Ak.symm{a b:List Mon}(h:Ak a b):Ak b a:=λf=>(h f).symm
theorem Ak.trans{a b c:List Mon}(h:Ak a b)(g:Ak b c):Ak a c:=λf=>(h f).trans (g f)
theorem Ak.norm(a:List Mon):Ak (norm a) a:=λf=>qy_ f a
theorem Ak.prd{a b c d:List Mon}(h:Ak a b)(g:Ak c d):Ak (L2.Pl.prd a c) (L2.Pl.prd b d):=λf=>by
 rw[qR_,qR_,h]
 congr 1
 funext p
 exact g _
theorem amd_(a b c:List Mon):Ak (prd (prd a b) c) (prd a (prd b c)):=λf=>by
 rw[qR_,qR_,qR_]
 congr 1
 funext p
 rw[qR_]
 congr 1
 funext q
 congr 1
 funext r
 rw[vX_]
end L2.Pl
namespace L2.Ev
open PySem
open L2.Pl
structure Has(P:Program)(w:World)(K:PySem.W.Frag)(mg:Str->Option Value)(base:Heap)(k:Nat)(x:Str)(ps:List Str)(sp:Sp) where
 f:Addr
 fd:FuncData
 ok:FnOk P w K mg base CX0 k f fd ps sp
 bd:Binds K fd ps []
 kp:PySem.W.keepIn K (.ref f)=true
 at_:mg x=some (.ref f)
def Has.lift{P:Program}{w:World}{K:PySem.W.Frag}{mg:Str->Option Value}{base:Heap}{j k:Nat}{x:Str}{ps:List Str}{sp:Sp}(G:Has P w K mg base j x ps sp)(h:j<=k):Has P w K mg base k x ps sp:=⟨G.f,G.fd,G.ok.mono h,G.bd,G.kp,G.at_⟩
theorem qr_{X:Cx}{k:Nat}{x:Str}{ps:List Str}{sp:Sp}{p pos:Pos}{e:Expr}{es:List Expr}{t:TA}(G:Has X.prog X.w X.K X.mg X.base k x ps sp)(hr:Room k X.A)(hg:Gl X x)
  (ha:PA X (e::es) t) (hdb:(x==("__debug__" : Str))=false:=by decide) (he:starEach (e::es) X.env=(false,eval e X.env)::starEach es X.env:=by rfl) (hpl:(backTo pos (starEach es X.env)).any (·.1)=false:=by rfl) :
  PE X (.Call (.Name x p) (e::es) [] pos) (aii_ sp [] E0 t):=xx_ G.ok hr hg G.at_ G.kp G.bd .nil ai7_ ha hdb he hpl
theorem q5_{α:Type}[D:Dat α](l:List α):ze_ (Dat.eqb (α:=α)) l l=true:=(jB_ Dat.eqb_iff _ _).mpr rfl
end L2.Ev
namespace L2.Ev
open PySem PyProof.Rows
open L2.Pl
end L2.Ev
namespace L2.Ev
open PySem
open L2.Pl
end L2.Ev
set_option maxHeartbeats 4000000
namespace L2.Ev
open PySem PySem.Spec PyProof.Rows
open PySem.W PySem.Calls
def yW_(h:Heap)(e:Addr)(od:Option Addr):Prop:=∃ob,h.get? e=some ob/\ob.dict=od
theorem ahl_{o:Obj}{f:Array Value->Array Value}:(Obj.mapFields f o).dict=o.dict:=by
 obtain⟨_,_,da,_⟩:=o
 cases da<;>rfl
def xE_(base:Heap)(l:List Env)(e:Addr)(cls a0:Value)(od:Option Addr)(h:Heap):Prop:=Heap.FlyingW base l e cls a0 h/\yW_ h e od
section
variable{M:Model}{A:Around}{E:Value->Shared->Prop}{s:Shared}
theorem afh_{base:Heap}{env:Env}{outer:List Env}{L e:Addr}{oe:Obj}{vs:Array Value}{head a0:Value}{hadNext:Bool}{Q:Unit->Shared->Prop}
  (hfr:A.frames=some (env::outer)) (hl:s.heap.FunFrames base (env::outer)) (hf:env.frame=some L)
  (he:s.heap.get? e=some oe) (hkb:base.StaysIn s.heap) (hen:base.get? e=none) (hd:oe.data=.fields vs) (hsz:1<vs.size) (h0:vs[0]?=some a0)
  (h:∀h',Heap.NotedW base (env::outer) e oe.cls a0 (rawInt L) s.heap h'->yW_ h' e oe.dict->Q () { s with heap:=h' }) :
  wpAny M A (do let a <-frameOf env;let pl <-entryPlaceOf L hadNext;let b <-EntryCells.newEntry head a .none (rawInt L) .none pl;setField (.ref e) 1 b) Q E s:=by
 have nfr:e∉(env::outer).filterMap (·.frame):=λhm=>by
  obtain⟨_,o,ho,hnf⟩:=hl.mem hm
  rw[he]at ho;cases ho;exact hnf vs hd
 refine wpAny_bind (wpAny_frameOf_fun hfr hl hf λh1 hs=>wpAny_bind (wpAny_entryPlaceOf λpl hpl=>?_))
 have e1:h1.get? e=some oe:=(hs.2.1 e nfr).trans he
 have k1:base.StaysIn h1:=λb o z=>(hs.2.1 b λhm=>by rw[(hl.mem hm).1]at z;cases z).trans (hkb b o z)
 have Te:h1.objs.size≠e:=CF (AM e1)
 unfold EntryCells.newEntry newFields
 refine wpAny_bind (wpAny_newObj_type ?_ (hpl.sizeOk5 _ _ _ _ _))
 generalize hrec:([head,.ref L,.none,rawInt L,.none]++(if pl.isEmpty then List.replicate 6 Value.none else pl)).toArray=rec
 have r3:rec[3]?=some (rawInt L):=by
  rw[<-hrec]
  simp
 have e2:=AB (h:=h1) { cls:=.type "traceback",dict:=none,data:=.fields rec } e1
 have T2:(h1.push { cls:=.type "traceback",dict:=none,data:=.fields rec }).get? h1.objs.size=some { cls:=.type "traceback",dict:=none,data:=.fields rec }:=AL h1 rfl
 generalize hp2:h1.push { cls:=.type "traceback",dict:=none,data:=.fields rec }=h2 at e2 T2
 have old2:∀b o,h1.get? b=some o->h2.get? b=some o:=λb o z=>by rw[<-hp2];exact AB _ z
 have d3:=BS hd (·.setIfInBounds 1 (Value.ref h1.objs.size))
 have e3:=BI (Obj.mapFields (·.setIfInBounds 1 (Value.ref h1.objs.size))) e2 (B2 d3)
 have T3:=(Aw h2 (Obj.mapFields (·.setIfInBounds 1 (Value.ref h1.objs.size))) (BY Te)).trans T2
 have keep:∀b o,b≠e->h1.get? b=some o->(h2.update e (Obj.mapFields (·.setIfInBounds 1 (Value.ref h1.objs.size)))).get? b=some o:=λb o hb z=>(Aw _ _ (BY hb)).trans (old2 b o z)
 have nrec:∀b o,s.heap.get? b=some o->(∀vs,o.data≠.fields vs)->b≠e:=λb o z hnf q=>by
  rw[q,he]at z;cases z;exact hnf vs hd
 refine wpAny_setField e2 hd hsz (h _ ⟨λb o z=>keep b o (λq=>by rw[q,hen]at z;cases z) (k1 b o z),hl.of_keeps λb o z hnf=>?_,?_,λb o z hnf=>?_⟩ ⟨_,e3,ahl_⟩)
 ·obtain⟨sl,q⟩:=hs.2.2 b o z
  exact⟨_,keep b _ (nrec b o z hnf) q,rfl⟩
 ·exact⟨_,_,h1.objs.size,_,_,e3,⟨DB _ _,by rw[DM (by decide)];exact h0⟩,d3,by simp [hsz],k1.fresh,Te,T3,rfl,r3⟩
 ·obtain⟨sl,q⟩:=hs.2.2 b o z
  exact⟨sl,keep b _ (nrec b o z hnf) q⟩
theorem aab_{base:Heap}{l:List Env}{e:Addr}{cls a0 fl:Value}{od:Option Addr}{Q:Unit->Shared->Prop}
  (hkb:base.StaysIn s.heap) (hen:base.get? e=none) (hl:s.heap.FunFrames base l) (ht:s.heap.TracedAtW base e cls a0 fl) (hd0:yW_ s.heap e od)
  (h:∀h',xE_ base l e cls a0 od h'->s.heap.UpToSlots h'->Q () { s with heap:=h' }):wpAny M A (setFlight (.ref e) none) Q E s:=by
 obtain⟨oe,vs,T,oT,ts,he,hcls,hd,h1,hnT,hTe,hT,hdT,h3⟩:=ht
 obtain⟨ob,hob,hod⟩:=hd0
 rw[he]at hob
 cases hob
 have z3:3<ts.size:=(BK.mp h3).1
 have dT:=BS hdT (·.setIfInBounds 3 ((none:Option Addr).elim Value.none λf=>rawInt f))
 have oth:∀b,b≠T->(s.heap.update T (Obj.mapFields (·.setIfInBounds 3 ((none:Option Addr).elim Value.none λf=>rawInt f)))).get? b=s.heap.get? b:=λb hb=>Aw _ _ (BY hb)
 have nrec:∀b o,s.heap.get? b=some o->(∀vs,o.data≠.fields vs)->b≠T:=λb o hb hnf q=>by
  rw[q,hT]at hb;cases hb;exact hnf ts hdT
 have he':=(oth e (BY hTe)).trans he
 unfold setFlight
 refine wpAny_bind (wpAny_field he hd h1 ?_)
 rw[if_pos (show(Value.ref T != Value.none)=true from by simp)]
 refine wpAny_setField hT hdT z3 (h _ ⟨⟨λb o z=>(oth b λq=>by rw[q,hnT]at z;cases z).trans (hkb b o z),hen,hl.of_keeps λb o hb hnf=>⟨o,(oth b (nrec b o hb hnf)).trans hb,rfl⟩,?_⟩,⟨oe,he',hod⟩⟩ λb o hb hnf=>⟨o.slots,(oth b (nrec b o hb hnf)).trans hb⟩)
 exact⟨oe,vs,T,_,_,he',hcls,hd,h1,hnT,hTe,BI _ hT (B2 dT),dT,by simp [z3]⟩
theorem ai0_{base:Heap}{env:Env}{outer:List Env}{L e:Addr}{cls a0:Value}{od:Option Addr}{Q:Unit->Shared->Prop}
  (hfr:A.frames=some (env::outer)) (hf:env.frame=some L) (hfl:xE_ base (env::outer) e cls a0 od s.heap)
  (h:∀h',Heap.HeldW base (env::outer) e cls a0 L h'->yW_ h' e od->s.heap.UpToSlots h'->Q () { s with heap:=h' }):wpAny M A (noteFrame (.ref e) env) Q E s:=by
 obtain⟨⟨f1,f2,f3,oe,vs,T,oT,ts,he,⟨hcls,h0⟩,hd,h1,hnT,hTe,hT,hdT,h3⟩,od',hod,hdd⟩:=hfl
 rw[he]at hod
 cases hod
 subst hcls hdd
 unfold noteFrame
 simp only[hf]
 refine wpAny_bind (wpAny_field he hd h1 ?_)
 rw[if_pos (show(Value.ref T != Value.none)=true from by simp)]
 refine wpAny_bind (wpAny_field hT hdT h3 ?_)
 rw[if_neg (show ¬ ((Value.none==rawInt L)=true) from by simp [rawInt])]
 refine wpAny_bind (wpAny_setField hT hdT (BK.mp h3).1 ?_)
 have oth:∀b,b≠T->(s.heap.update T (Obj.mapFields (·.setIfInBounds 3 Value.none))).get? b=s.heap.get? b:=λb hb=>Aw _ _ (BY hb)
 have nrec:∀b o,s.heap.get? b=some o->(∀vs,o.data≠.fields vs)->b≠T:=λb o hb hnf q=>by
  rw[q,hT]at hb;cases hb;exact hnf ts hdT
 refine afh_ hfr (f3.of_keeps λb o hb hnf=>⟨o,(oth b (nrec b o hb hnf)).trans hb,rfl⟩) hf ((oth e (BY hTe)).trans he)
  (λb o z=>(oth b λq=>by rw[q,hnT]at z;cases z).trans (f1 b o z)) f2 hd (BK.mp h1).1 h0 λh' ⟨x1,x2,x3,x4⟩ xd=>?_
 exact h h' ⟨x1,f2,x2,x3⟩ xd λb o hb hnf=>x4 b o ((oth b (nrec b o hb hnf)).trans hb) hnf
theorem adi_{base:Heap}{env:Env}{outer:List Env}{L e:Addr}{cls a0:Value}{od:Option Addr}{Q:Unit->Shared->Prop}
  (hfr:A.frames=some (env::outer)) (hf:env.frame=some L) (hfl:xE_ base (env::outer) e cls a0 od s.heap)
  (hQ:∀h',xE_ base outer e cls a0 od h'->s.heap.UpToSlots h'->Q () { s with heap:=h' }):wpAny M A (leaving env (.ref e)) Q E s:=by
 unfold leaving
 refine wpAny_bind (ai0_ hfr hf hfl λh1 ⟨k1,k2,k3,k4⟩ kd sm=>aab_ (s:={ s with heap:=h1 }) k1 k2 k3 k4 kd λh2 ⟨⟨x1,x2,⟨_,_,x3⟩,x4⟩,xd⟩ sm2=>?_)
 exact hQ h2 ⟨⟨x1,x2,x3,x4⟩,xd⟩ (sm.trans sm2)
theorem am1_{base:Heap}{env:Env}{outer:List Env}{L e:Addr}{oe:Obj}{vs:Array Value}{a0:Value}{Q:Unit->Shared->Prop}
  (hfr:A.frames=some (env::outer)) (hl:s.heap.FunFrames base (env::outer)) (hf:env.frame=some L)
  (he:s.heap.get? e=some oe) (hkb:base.StaysIn s.heap) (hen:base.get? e=none) (hd:oe.data=.fields vs) (h1:vs[1]?=some .none) (h0:vs[0]?=some a0)
  (hQ:∀h',xE_ base outer e oe.cls a0 oe.dict h'->s.heap.UpToSlots h'->Q () { s with heap:=h' }):wpAny M A (leaving env (.ref e)) Q E s:=by
 unfold leaving noteFrame
 simp only[hf]
 refine wpAny_bind (wpAny_bind (wpAny_field he hd h1 ?_))
 rw[if_neg (by decide)]
 refine afh_ hfr hl hf he hkb hen hd (BK.mp h1).1 h0 λh1 ⟨k1,k3,k4,sm⟩ kd=>aab_ (s:={ s with heap:=h1 }) k1 hen k3 k4 kd λh2 ⟨⟨x1,x2,⟨_,_,x3⟩,x4⟩,xd⟩ sm2=>?_
 exact hQ h2 ⟨⟨x1,x2,x3,x4⟩,xd⟩ (Heap.UpToSlots.trans sm sm2)
end
end L2.Ev
namespace L2.Ev
open PySem PySem.Spec PyProof.Rows
open L2.Pl
theorem ObjOk.got{P:Program}{w:World}{H:Hp}{h:Heap}{a:Addr}{o:HO}(x:ObjOk P w H h a o):∃ob,h.get? a=some ob:=by
 cases o with
 |lst xs=>obtain⟨_,_,_,_,e⟩:=x;exact⟨_,e⟩
 |tup xs=>obtain⟨_,_,_,ob,e,_⟩:=x;exact⟨_,e⟩
 |dK kvs=>obtain⟨_,_,_,_,o,_,_,e,_⟩:=x;exact⟨_,e⟩
 |dT kvs=>obtain⟨_,_,_,_,o,_,_,e,_⟩:=x;exact⟨_,e⟩
 |set S n=>obtain⟨o,_,_,_,e,_⟩:=x;exact⟨_,e⟩
 |ins C dx fs=>obtain⟨_,_,_,e,_⟩:=x;exact⟨_,e⟩
 |own y=>exact x
 |xd fs=>obtain⟨_,⟨_,_,_,e,_⟩,_⟩:=x;exact⟨_,e⟩
 |rng lo hi=>obtain⟨_,_,_,e⟩:=x;exact⟨_,e⟩
 |frz ob u=>obtain⟨e,_⟩:=x;exact⟨_,e⟩
 |tbl ps=>exact⟨_,(show h.get? a=some _ from x)⟩
 |met f y=>exact⟨_,(show h.get? a=some _ from x)⟩
 |ext φ=>obtain⟨_,e,_⟩:=x;exact e
structure Bs(l:List Env)(H:Hp)(h:Heap)(H':Hp)(B:Heap):Prop where
 old:∀b o,h.get? b=some o->b∉frs l->∃o',B.get? b=some o'/\(H b=none->o'=o)
 trk:∀b u,H' b=some u->∃o,B.get? b=some o
structure Fly(P:Program)(w:World)(l:List Env)(H:Hp)(s:Shared)(a:Addr)(cls a0:Value)(od:Option Addr)(H':Hp)(s':Shared):Prop where
 os:s'.os=s.os
 bare:AllBare s'.gens
 un:Un (frs l) [] H H' s.heap s'.heap
 hok:HOk P w H' s'.heap
 fly:∃B,Bs l H s.heap H' B/\xE_ B l a cls a0 od s'.heap
def CX1(P:Program)(w:World):CXT:=λl H s E e s'=>∃a cls a0 od H',e=.ref a/\Fly P w l H s a cls a0 od H' s'/\E cls od H'
section
variable{X:Cx}{pins:List (Addr×Obj)}{σ:St}{H H':Hp}{s s':Shared}{B:Heap}
theorem x5_(I:Inv X pins σ H s)(os:s'.os=s.os)(bare:AllBare s'.gens)(un:Un (frs X.stack) [] H H' s.heap s'.heap)(hok:HOk X.prog X.w H' s'.heap)(bs:Bs X.stack H s.heap H' B)(st0:B.StaysIn s'.heap){h':Heap}(st:B.StaysIn h')(sm:s'.heap.UpToSlots h') :
  Inv X pins σ H' { s' with heap:=h' }:=by
 have fr:∀b o,s.heap.get? b=some o->b∈frs X.stack->∀vs,o.data≠.fields vs:=λb o e hb=>by
  obtain⟨_,o',e',d⟩:=I.stack.mem hb
  rw[e]at e';cases e'
  exact d
 have slot:∀b o,s.heap.get? b=some o->b∈frs X.stack->∃sl,h'.get? b=some { o with slots:=sl }:=λb o e hb=>by
  obtain⟨sl,e1⟩:=un.slot b o e (I.stkFree b hb) hb (by simp)
  obtain⟨sl2,e2⟩:=sm b _ e1 (fr b o e hb)
  exact⟨sl2,e2⟩
 refine I.call' (s':={ s' with heap:=h' }) (ch:=[]) os ⟨λb o e n hb _=>?_,λb o e n hb _=>slot b o e hb,un.free,λb o e _=>?_,un.tups,un.frzs,un.tbls⟩ (λb u e=>?_) bare λb hb=>by simp at hb
 ·obtain⟨o',e1,e2⟩:=bs.old b o e hb
  rw[e2 n]at e1
  exact st _ _ e1
 ·by_cases hb:b∈frs X.stack
  ·obtain⟨sl,e1⟩:=slot b o e hb
   exact⟨_,e1⟩
  ·obtain⟨o',e1,_⟩:=bs.old b o e hb
   exact⟨o',st _ _ e1⟩
 ·have key:∀c v u',H' c=some u'->s'.heap.get? c=some v->h'.get? c=some v:=λc v u' hc q=>by
   obtain⟨o,e1⟩:=bs.trk c u' hc
   have:=st0 _ _ e1
   rw[q]at this
   cases this
   exact st _ _ e1
  refine(hok b u e).stay (λc v hc q=>?_) (λ_ q=>q) λ_ _ q=>q
  rcases hc with z|z
  ·subst z;exact key c v u e q
  ·exact key c v _ z q
end
section
variable{P:Program}{w:World}{K:PySem.W.Frag}{mg:Str->Option Value}{base:Heap}{N:List Str}{qual:Str}{scope:Scope}{f:Addr}{cdv:Value}{A:Around}{outer:List Env}{s0:Shared}{H0:Hp}{E:XK}
theorem acr_{pins:List (Addr×Obj)}{σ:St}{H H':Hp}{s s':Shared}{B:Heap}{a:Addr}{cls a0:Value}{od:Option Addr}(I:Inv (zv_ (CX1 P w) P w K mg base N qual scope f cdv A outer s0 H0 E) pins σ H s)(I':Inv (zv_ (CX1 P w) P w K mg base N qual scope f cdv A outer s0 H0 E) pins σ H' s')
  (bs:Bs (zv_ (CX1 P w) P w K mg base N qual scope f cdv A outer s0 H0 E).stack H s.heap H' B) (fl:xE_ B outer a cls a0 od s'.heap):Fly P w outer H0 s0 a cls a0 od H' s':=by
 refine⟨I'.os,I'.bare,I'.base,I'.hok,B,⟨λb o e hb=>?_,bs.trk⟩,fl⟩
 obtain⟨o1,e1⟩:=I.base.there b o e (by show b∉([]:List Addr);simp)
 have hL:b∉frs (zv_ (CX1 P w) P w K mg base N qual scope f cdv A outer s0 H0 E).stack:=λz=>by
  rcases AN.mp (I.stkSub b z) with z|z
  ·have:=I.ok.above
   have:=AM e
   rw[z]at this
   exact absurd (AZ this I.ok.above) (Bh _)
  ·exact hb z
 obtain⟨o2,e2,e3⟩:=bs.old b o1 e1 hL
 refine⟨o2,e2,λn=>?_⟩
 have k:=I.base.keep b o e n hb (by show b∉([]:List Addr);simp)
 rw[e1]at k
 cases k
 exact e3 (I.base.free b o e n (by show b∉([]:List Addr);simp))
theorem adp_:y5_ (CX1 P w) (zv_ (CX1 P w) P w K mg base N qual scope f cdv A outer s0 H0 E) E:=by
 rintro pins σ H s e s' I ⟨a,cls,a0,od,H',rfl,F,hE⟩
 obtain⟨os,bare,un,hok,B,bs,fl⟩:=F
 show wpAny _ _ (leaving _ (.ref a)) _ _ s'
 refine adi_ (outer:=outer) I.ok.frames rfl fl λh' fl' sm=>?_
 have I':=x5_ I os bare un hok bs fl.1.1 fl'.1.1 sm
 exact⟨a,cls,a0,od,H',rfl,acr_ I I' bs fl',hE⟩
def Rs(X:Cx)(E:XK):Prop:=∀(pins:List (Addr×Obj))(σ:St)(H:Hp)(s:Shared)(h2:Heap)(e C:Addr)(vs:List Value),Inv X pins σ H s->Heap.MadeExcOf s.heap h2 e (.ref C) vs->E (.ref C) none H->X.xe (.ref e) { s with heap:=h2 }
theorem rs1:Rs (zv_ (CX1 P w) P w K mg base N qual scope f cdv A outer s0 H0 E) E:=by
 intro pins σ H s h2 e C vs I hx hE
 show wpAny _ _ (leaving _ (.ref e)) _ _ _
 have hin:∀env∈(zv_ (CX1 P w) P w K mg base N qual scope f cdv A outer s0 H0 E).stack,∀b,env.frame=some b->b∈frs (zv_ (CX1 P w) P w K mg base N qual scope f cdv A outer s0 H0 E).stack:=λenv he b hb=>De.mpr ⟨env,he,hb⟩
 have bs:Bs (zv_ (CX1 P w) P w K mg base N qual scope f cdv A outer s0 H0 E).stack H s.heap H (PySem.W.hideAll s.heap (frs (zv_ (CX1 P w) P w K mg base N qual scope f cdv A outer s0 H0 E).stack)):=by
  refine⟨λb o e hb=>⟨o,DY _ e hb,λ_=>rfl⟩,λb u e=>?_⟩
  obtain⟨o,q⟩:=ObjOk.got (I.hok b u e)
  exact⟨o,DY _ q λz=>by rw[I.stkFree b z]at e;cases e⟩
 have st0:(PySem.W.hideAll s.heap (frs (zv_ (CX1 P w) P w K mg base N qual scope f cdv A outer s0 H0 E).stack)).StaysIn h2:=λb o q=>hx.keeps b o (Dd _ q)
 obtain⟨t,he,htn,ht⟩:=hx.there
 have hen:(PySem.W.hideAll s.heap (frs (zv_ (CX1 P w) P w K mg base N qual scope f cdv A outer s0 H0 E).stack)).get? e=none:=by
  cases hq:(PySem.W.hideAll s.heap (frs (zv_ (CX1 P w) P w K mg base N qual scope f cdv A outer s0 H0 E).stack)).get? e with
  |none=>rfl
  |some o'=>have:=Dd _ hq;rw[hx.new]at this;cases this
 refine am1_ (s:={ s with heap:=h2 }) (outer:=outer) (a0:=.ref t) I.ok.frames ((PySem.W.funFrames_hide I.stack hin).of_keeps λb o hb _=>⟨o,hx.keeps b o hb,rfl⟩) rfl he st0 hen rfl rfl rfl λh' fl sm=>?_
 have I':=x5_ (s':={ s with heap:=h2 }) I rfl I.bare (Un.kept hx.keeps) (I.hok.kept hx.keeps) bs st0 fl.1.1 sm
 exact⟨e,.ref C,.ref t,none,H,rfl,acr_ I I' bs fl,hE⟩
theorem Fun.okx{x qual:Str}{st:Stmt}{f:Addr}{fd:FuncData}{N ps:List Str}{k:Nat}{sp:Sp}(F:Fun K x qual st f fd)(S:FnScope N ps (qi_ st))(len:∀vs H Q E,sp vs H Q E->vs.length=ps.length)
  (hbody:∀(cdv:Value)(A:Around)(outer:List Env)(s:Shared)(H:Hp)(vs:List V)(Q:VK)(E:XK),Room k (A.deeper (envOfC qual (qi_ st) s.heap.objs.size f cdv))->sp vs H Q E ->
   ∃t,PSs (zv_ (CX1 P w) P w K mg base N qual (qi_ st) f cdv A outer s H E) (jv_ st) t/\t { nx:=λ_ H'=>Q .non H',rt:=Q } (jJ_ N vs) H):FnOk P w K mg base (CX1 P w) (k+1) f fd ps sp:=by
 obtain⟨oc,od,kV,doc,pm,an,cdv,ct,osl,rfl,lk,hcd⟩:=F.ex
 exact ait_ lk hcd S len λA outer s H vs Q E hr hsp=>hbody cdv A outer s H vs Q E hr hsp
end
theorem afu_{K:PySem.W.Frag}{h:Heap}{C:Addr}{bmB:List Value}{newId:String}(X:K.In h)(q:PySem.W.excIn K C bmB newId=true) :
  ∃bm N nm qn bs hdct sn sub ab col dd k0 k1 k2 k3 k5 mN,h.get? C=some (excClassObj nm qn C N bs bm hdct sn sub ab col dd k0 k1 k2 k3 k5 newId)/\h.Ns N mN/\mN "__init__" = none/\OwnTail h bmB bm:=by
 unfold PySem.W.excIn at q
 split at q
 ·rename_i dd cd sl ho
  split at q
  ·rename_i C' bm k0 k1 k2 k3 n k5 hm hs
   simp only[AG,beq_iff_eq,Dt]at q
   obtain⟨⟨⟨⟨⟨rfl,rfl⟩,hdel⟩,ht⟩,hok⟩,hni⟩:=q
   obtain⟨nm,bs,mro,ns,qn,hd,sn,sub,ab,col,del⟩:=cd
   dsimp only at hm hdel hok hni
   subst hm hdel
   have hsl:sl=#[k0,k1,k2,k3,some (.builtin n),k5]:=by
    obtain⟨l⟩:=sl
    simp only at hs
    rw[hs]
   subst hsl
   exact⟨bm,ns,nm,qn,bs,hd,sn,sub,ab,col,dd,k0,k1,k2,k3,k5,_,X _ _ ho,.of_isNs (PySem.W.isNs_of_in X hok),PySem.W.nsMap_none_of_in X hok hni,PySem.W.tail_of_in X ht⟩
  ·cases q
 ·cases q
def ak7_(C:Addr)(E:XK)(ta:TA):TS:=λ_ σ H=>ta σ H λvs H1=>vs.length<=sizeLine/\E (.ref C) none H1
theorem yI_{X:Cx}{E:XK}{x:Str}{C:Addr}{bmB:List Value}{B newId initId:String}{np cpos pos:Pos}{e:Expr}{es:List Expr}{ta:TA}(hc:X.calm=true)(R:Rs X E)(FB:ExcBaseFacts B newId initId bmB)(hg:Gl X x)(hm:X.mg x=some (.ref C))(q:PySem.W.excIn X.K C bmB newId=true)
  (ha:PA X (e::es) ta) (hdb:(x==("__debug__" : Str))=false:=by decide) (he:starEach (e::es) X.env=(false,eval e X.env)::starEach es X.env:=by rfl) (hpl:(backTo cpos (starEach es X.env)).any (·.1)=false:=by rfl) :
  PS X (.Raise (some (.Call (.Name x np) (e::es) [] cpos)) none pos) (ak7_ C E ta):=by
 intro pins s σ H D I h
 obtain⟨bm,N,nm,qn,bs,hdct,sn,sub,ab,col,dd,k0,k1,k2,k3,k5,mN,hC,hN,hni,T⟩:=afu_ I.mod.kin q
 refine wpAny_Raise_call_subT (C:=C) (nm:=nm) (q:=qn) (N:=N) (bs:=bs) (bm:=bm) (hdct:=hdct) (sn:=sn) (sub:=sub) (ab:=ab) (col:=col) (dd:=dd) (k0:=k0) (k1:=k1) (k2:=k2) (k3:=k3) (k5:=k5)
  FB (mN:=mN) (T.hasType FB.hasBase) (I.ok.hd hc) (by rw[he];show(false||(backTo cpos (starEach es X.env)).any (·.1))=false;rw[hpl];rfl) hni (xt_ I hg hm ⟨rfl,?_⟩ hdb)
 have h0:=ha cpos pins s σ H _ I h
 rw[he]at h0 ⊢
 refine Cn (wpAny_mono h0 (λus s2 ⟨vs,H1,I1,r,hl,hE⟩=>?_) λ_ _ y=>y)
 refine⟨rfl,by rw[<-r.length];exact hl,I1.bk _ _ hC,hN.keeps I1.bk,T.keeps I1.bk,λh' e' hx=>R pins σ H1 s2 h' e' C us I1 hx hE⟩
end L2.Ev
namespace L2.Ev
open PySem PySem.Spec PyProof.Rows
open L2.Pl
theorem ab2_{K:PySem.W.Frag}{M:Model}{A:Around}{E:Value->Shared->Prop}{s:Shared}{e C C0:Addr}{oe:Obj}{Q:Bool->Shared->Prop}(X:K.In s.heap)(he:s.heap.get? e=some oe)(hc:oe.cls=.ref C)
  (k1:PySem.W.kitCls K (.ref C) (.ref C0)=some true) (k2:PySem.W.kitCls K (.ref C0) (.type "BaseException")=some true) (h:Q true s):wpAny M A (excMatches (.ref e) (.ref C0)) Q E s:=by
 obtain⟨t1,i1,s1⟩:=PySem.W.kit_cls (M:=M) X k1
 obtain⟨_,_,s2⟩:=PySem.W.kit_cls (M:=M) X k2
 have keep:∀b o,s.heap.get? b=some o->s.heap.get? b=some o:=λ_ _ q=>q
 unfold excMatches isInstance
 refine wpAny_bind (wpAny_bind (t1 A _ _ s keep (wpAny_of_eq tc_notTuple ?_)))
 simp only[Au,if_false]
 refine wpAny_bind (wpAny_pure ?_)
 simp only[Cz,Dc]
 unfold isExcClass
 refine wpAny_bind (wpAny_bind (wpAny_bind (wpAny_bind (i1 A _ _ s keep ?_))))
 simp only[if_true]
 refine s2 A _ _ s keep ?_
 simp only[DF,Au,if_false]
 refine wpAny_pure (wpAny_pure ?_)
 have ty:PySem.W.Looks M s.heap (typeOf (.ref e)) (.ref C):=hc▸(PySem.W.Looks.ld he).andThen .now
 refine wpAny_bind (ty A _ _ s keep ?_)
 refine wpAny_bind (wpAny_bind (wpAny_bind (s1 A _ _ s keep ?_)))
 simp only[if_true]
 refine wpAny_pure (wpAny_pure ?_)
 exact wpAny_pure h
def xE(a:Addr)(cls:Value)(od:Option Addr):HO:=.ext λh=>∃ob vs,h.get? a=some ob/\ob.cls=cls/\ob.data=.fields vs/\ob.dict=od
abbrev excO(a:Addr)(cls:Value):HO:=xE a cls none
section
variable{X:Cx}{pins:List (Addr×Obj)}{σ:St}{H H':Hp}{s s':Shared}{B:Heap}{a:Addr}{cls a0:Value}{od:Option Addr}
theorem apk_(I:Inv X pins σ H s)(I':Inv X pins σ H' s')(bs:Bs X.stack H s.heap H' B)(fl:xE_ B X.stack a cls a0 od s'.heap):Inv X pins σ (upd H' a (xE a cls od)) s'/\H' a=none:=by
 obtain⟨⟨st,hB,ff,oe,vs,T,oT,ts,he,⟨hc,_⟩,hd,_⟩,ox,hox,hod⟩:=fl
 rw[he]at hox
 cases hox
 have hn:H' a=none:=by
  cases q:H' a with
  |none=>rfl
  |some u=>obtain⟨o,e⟩:=bs.trk a u q;rw[hB]at e;cases e
 have notfr:a∉frs X.stack:=λz=>by
  obtain⟨_,o,e,d⟩:=ff.mem z
  rw[he]at e;cases e
  exact d vs hd
 have notold:∀o,s.heap.get? a=some o->False:=λo e=>by
  obtain⟨o',e',_⟩:=bs.old a o e notfr
  rw[hB]at e';cases e'
 have s0n:∀o,X.s₀.heap.get? a=some o->a∉X.ex->False:=λo e hx=>by
  obtain⟨o',e'⟩:=I.base.there a o e hx
  exact notold o' e'
 have nL:X.env.locals≠a:=λz=>by
  obtain⟨m,⟨o,es,ep,ho,hd',_⟩,_⟩:=I'.loc
  rw[z,he]at ho;cases ho
  rw[hd]at hd';cases hd'
 have nC:∀x c,X.env.cells.lookup x=some c->c≠a:=λx c e z=>by
  obtain⟨v,o,ho,hd'⟩:=I'.cell x c e
  rw[z,he]at ho;cases ho
  rw[hd]at hd';cases hd'
 have nP:∀p∈X.pn++pins,p.1≠a:=λp hp z=>by
  obtain⟨e,_⟩:=I.pin p hp
  rw[z]at e
  exact notold _ e
 have neq:∀b u,H' b=some u->b≠a:=λb u e z=>by rw[z,hn]at e;cases e
 refine⟨⟨I'.ok,I'.os,I'.bare,⟨I'.base.keep,I'.base.slot,λb o e n hx=>?_,I'.base.there,λb xs e=>?_,λb o u e=>?_,λb ps e=>?_⟩,I'.loc,I'.cell,?_,λx c e=>?_,λp hp=>?_,λb u e=>?_,I'.len⟩,hn⟩
 ·have q:=I'.base.free b o e n hx
  by_cases z:b=a
  ·subst z;exact(s0n o e hx).elim
  ·rw[ql_ z];exact q
 ·have q:=I'.base.tups b xs e
  rw[ql_ (neq _ _ q)];exact q
 ·have q:=I'.base.frzs b o u e
  rw[ql_ (neq _ _ q)];exact q
 ·obtain⟨more,q⟩:=I'.base.tbls b ps e
  exact⟨more,by rw[ql_ (neq _ _ q)];exact q⟩
 ·rw[ql_ nL];exact I'.free
 ·rw[ql_ (nC x c e)];exact I'.freeC x c e
 ·obtain⟨q1,q2,q3⟩:=I'.pin p hp
  exact⟨q1,by rw[ql_ (nP p hp)];exact q2,q3⟩
 ·by_cases z:b=a
  ·subst z
   rw[qc_]at e
   cases e
   exact⟨⟨oe,vs,he,hc,hd,hod⟩,⟨oe,he⟩,λh1 h2 ⟨ob,ws,k1,k2,k3⟩ k=>⟨ob,ws,k _ k1,k2,k3⟩⟩
  ·rw[ql_ z]at e
   exact(I'.hok b u e).stay (λ_ _ _ q=>q) (λc q=>by rw[ql_ (neq _ _ q)];exact q) λc xs q=>by rw[ql_ (neq _ _ q)];exact q
theorem amx_{M:Model}{A:Around}{E:Value->Shared->Prop}{i:Nat}{x:Str}{pos:Pos}{Q:Unit->Shared->Prop}(I:Inv X pins σ H s)(hN:X.N.Nodup)(hi:X.N[i]?=some x)(hx:X.env.scope.names.lookup x=some .local)
  (h:∀s',Inv X pins (σ.set i none) H s'->Q () s'):wpAny M A (do bindName X.env x .none;unbindBehindTheSuite X.env x pos) Q E s:=by
 obtain⟨m,hn,hl⟩:=id I.loc
 have hcls:(X.env.scope.kind==.class||(X.env.scope.kind==.module&&X.env.locals != X.env.globals))=false:=by rw[I.ok.kind];rfl
 have hiσ:i<σ.length:=by rw[I.len];exact(AR.mp hi).1
 have cne:=I.cne
 refine wpAny_nameGoes_keeps hx hn hcls λh' v hn' hs=>?_
 obtain⟨oL,_,_,hoL,_⟩:=id hn
 refine h _ ⟨I.ok,I.os,I.bare,⟨λb o e n hb hx=>?_,λb o e n hb hx=>?_,I.base.free,λb o e hx=>?_,I.base.tups,I.base.frzs,I.base.tbls⟩,⟨_,hn',λj y v' e1 e2 e3=>?_⟩,λy c e=>?_,I.free,I.freeC,λp hp=>?_,λb ob e=>?_,by simpa using I.len⟩
 ·exact(hs.2 b (Af (AZ (AM e) I.ok.above))).trans (I.base.keep b o e n hb hx)
 ·obtain⟨sl,e1⟩:=I.base.slot b o e n hb hx
  exact⟨sl,(hs.2 b (Af (AZ (AM e) I.ok.above))).trans e1⟩
 ·obtain⟨o',e1⟩:=I.base.there b o e hx
  exact⟨o',(hs.2 b (Af (AZ (AM e) I.ok.above))).trans e1⟩
 ·by_cases hj:j=i
  ·subst hj
   rw[Ce hiσ]at e2
   cases e2
  ·rw[DN (BY hj)]at e2
   obtain⟨u',r',q⟩:=hl j y v' e1 e2 e3
   refine⟨u',r',?_⟩
   rcases q with⟨k,e⟩|⟨k,c,e,z⟩
   ·refine .inl ⟨k,?_⟩
    have:y≠x:=λe=>hj (yH_ hN e1 (e▸hi))
    simp [this,e]
   ·exact .inr ⟨k,c,e,z.sameBut hs (cne y c e)⟩
 ·obtain⟨w',z⟩:=I.cell y c e
  exact⟨w',z.sameBut hs (cne y c e)⟩
 ·obtain⟨e,n,ne,nf,d⟩:=I.pin p hp
  exact⟨(hs.2 p.1 ne).trans e,n,ne,nf,d⟩
 ·refine(I.hok b ob e).stay (λc w' hc q=>(hs.2 c ?_).trans q) (λ_ q=>q) λ_ _ q=>q
  intro z
  rcases hc with hc|hc
  ·rw[<-hc,z,I.free]at e;cases e
  ·rw[z,I.free]at hc;cases hc
end
abbrev Cx.mk1(X:Cx)(e:Value):Cx:={ X with A:=X.A.mark (some e),calm:=false,xe:=λ_ _=>False }
abbrev Cx.pin1(X:Cx)(pn:List (Addr×Obj))(T:Value->Shared->Prop):Cx:={ X with pn:=pn,xe:=T }
section
variable{X:Cx}{pins:List (Addr×Obj)}{σ:St}{H:Hp}{s:Shared}
theorem ala_(ok:X.Ok)(e:Value):(Cx.mk1 X e).Ok:=⟨ok.mod,ok.kind,ok.glob,ok.blt,ok.above,ok.inj,ok.has,ok.cab,λz=>(by cases z),ok.frames,ok.stk,ok.exf,ok.bs,ok.bsz,ok.noex,ok.exfs,ok.funs,ok.frf⟩
theorem acw_(I:Inv X pins σ H s)(e:Value):Inv (Cx.mk1 X e) pins σ H s:=⟨ala_ I.ok e,I.os,I.bare,I.base,I.loc,I.cell,I.free,I.freeC,I.pin,I.hok,I.len⟩
theorem aj2_(ok:X.Ok){e:Value}(I:Inv (Cx.mk1 X e) pins σ H s):Inv X pins σ H s:=⟨ok,I.os,I.bare,I.base,I.loc,I.cell,I.free,I.freeC,I.pin,I.hok,I.len⟩
theorem ajk_(ok:X.Ok)(pn:List (Addr×Obj))(T:Value->Shared->Prop):(Cx.pin1 X pn T).Ok:=⟨ok.mod,ok.kind,ok.glob,ok.blt,ok.above,ok.inj,ok.has,ok.cab,ok.hd,ok.frames,ok.stk,ok.exf,ok.bs,ok.bsz,ok.noex,ok.exfs,ok.funs,ok.frf⟩
theorem agn_(I:Inv X pins σ H s)(T:Value->Shared->Prop):Inv (Cx.pin1 X (X.pn++pins) T) [] σ H s:=⟨ajk_ I.ok _ T,I.os,I.bare,I.base,I.loc,I.cell,I.free,I.freeC,λp hp=>I.pin p (by rw[BP]at hp;exact hp),I.hok,I.len⟩
theorem jj_(ok:X.Ok){T:Value->Shared->Prop}{pins':List (Addr×Obj)}(I:Inv (Cx.pin1 X (X.pn++pins) T) pins' σ H s):Inv X pins σ H s:=⟨ok,I.os,I.bare,I.base,I.loc,I.cell,I.free,I.freeC,λp hp=>I.pin p (Az _ hp),I.hok,I.len⟩
end
def adr_(X:Cx)(σ0:St)(E:XK):Prop:=∀(pins:List (Addr×Obj))(H:Hp)(s:Shared)(e:Value)(s':Shared),Inv X pins σ0 H s->CX1 X.prog X.w X.stack H s E e s'->X.xe e s'
def ank_(σ0:St)(sp:Sp)(E:XK)(t:TA):TE:=λσ H Q=>σ=σ0/\t σ H λvs H1=>sp vs H1 Q E
theorem agl_{X:Cx}{k:Nat}{f:Addr}{fd:FuncData}{ps:List Str}{sp:Sp}{E:XK}{σ0:St}{x:Str}{p pos:Pos}{e:Expr}{es:List Expr}{t:TA}(F:FnOk X.prog X.w X.K X.mg X.base (CX1 X.prog X.w) k f fd ps sp)(hr:Room k X.A)(hg:Gl X x)(hm:X.mg x=some (.ref f))(hk:PySem.W.keepIn X.K (.ref f)=true)(hb:Binds X.K fd ps [])(hx:adr_ X σ0 E)
  (ha:PA X (e::es) t) (hdb:(x==("__debug__" : Str))=false:=by decide) (he:starEach (e::es) X.env=(false,eval e X.env)::starEach es X.env:=by rfl) (hpl:(backTo pos (starEach es X.env)).any (·.1)=false:=by rfl) :
  PE X (.Call (.Name x p) (e::es) [] pos) (ank_ σ0 sp E t):=by
 intro pins s σ H Q I h
 obtain⟨rfl,h⟩:=h
 refine wpAny_Call_Name_kw (xt_ I hg hm ?_ hdb)
 refine PySem.W.callWith_K (h₀:=X.base) I.ok.mod.kin hk (thn (ha pos pins s σ H _ I h) λus s1 ⟨vs,H1,I1,r,q⟩=>⟨I1.kIn,?_⟩) he hpl
 have hl:us.length=ps.length:=by rw[<-r.length];exact F.len _ _ _ _ q
 have hbd:=hb s1 us I1.kIn (by rw[BP];exact hl)
 rw[BP]at hbd
 refine wpAny_call (codeAny_mono (F.run X.A X.stack s1 H1 ⟨us,[]⟩ us vs Q E hr I1.env0 hbd r q) λr' s' hq=>?_)
 cases r' with
 |error e'=>exact hx pins H1 s1 e' s' I1 hq
 |ok fl =>
  cases fl with
  |ret u=>exact I1.after hq
  |next=>exact False.elim hq
  |brk=>exact False.elim hq
  |cont=>exact False.elim hq
def EH(K:PySem.W.Frag)(C0:Addr)(i j:Nat)(D:Ends)(σ:St):XK:=λcls od H'=>∃C:Addr,cls=.ref C/\PySem.W.kitCls K (.ref C) (.ref C0)=some true /\
 ∀a,H' a=none->D.nx (((σ.set i (some (.ref a))).set j (some (.ref a))).set i none) (upd H' a (xE a cls od))
theorem amg_{X:Cx}{x n y:Str}{C0:Addr}{body:List Stmt}{np py pn ap hp pos:Pos}{i j:Nat}{tb:St->XK->TS}(hst:X.stack=X.env::X.outer)(hfr:X.env.frame=some X.env.locals)
  (hN:X.N.Nodup) (hi:X.N[i]?=some n) (li:X.env.scope.names.lookup n=some .local) (hj:X.N[j]?=some y) (lj:X.env.scope.names.lookup y=some .local) (hg:Gl X x) (hm:X.mg x=some (.ref C0)) (kC:PySem.W.kitCls X.K (.ref C0) (.type "BaseException")=some true)
  (hb:∀(pn':List (Addr×Obj))(T:Value->Shared->Prop)(σ0:St)(E:XK),adr_ (Cx.pin1 X pn' T) σ0 E->PSs (Cx.pin1 X pn' T) body (tb σ0 E)) (hd1:(n==("__debug__" : Str))=false:=by decide) (hd2:(n==("__classdict__" : Str))=false:=by decide) (hd3:(x==("__debug__" : Str))=false:=by decide) :
  PS X (.Try body [.ExceptHandler (some (.Name x np)) (some n) [.Assign [.Name y py] (.Name n pn) ap] hp] [] [] pos) (λD σ H=>tb σ (EH X.K C0 i j D σ) D σ H):=by
 intro pins s σ H D I h
 rw[arm_exec_Try]
 refine wpAny_bind (wpAny_standAt (wpAny_tryStmt_except ?_))
 have hP:adr_ (Cx.pin1 X (X.pn++pins) λe s₁=>wpAny (model X.prog X.w) X.A (noteFrame e X.env) (λ_ s₂=>wpAny (model X.prog X.w) X.A (setFlight e none) (λ_ s₃ =>
   wpAny (model X.prog X.w) X.A (handleBy e X.env [.ExceptHandler (some (.Name x np)) (some n) [.Assign [.Name y py] (.Name n pn) ap] hp]) (SP X pins D) X.xe s₃) X.xe s₂) X.xe s₁) σ (EH X.K C0 i j D σ):=by
  rintro pins' H1 s1 e s' J ⟨a,cls,a0,od,H',rfl,F,C,rfl,kC',hE⟩
  have I1:Inv X pins σ H1 s1:=jj_ I.ok J
  obtain⟨os,bare,un,hok,B,bs,fl⟩:=F
  have bs:Bs X.stack H1 s1.heap H' B:=bs
  have fl:xE_ B X.stack a (.ref C) a0 od s'.heap:=fl
  have fl':=fl
  rw[hst]at fl'
  show wpAny _ X.A (noteFrame (.ref a) X.env) _ _ s'
  refine ai0_ (outer:=X.outer) (by rw[I1.ok.frames,hst]) hfr fl' λh4 ⟨m1,m2,m3,m4⟩ md sm4=>?_
  refine aab_ (s:={ s' with heap:=h4 }) m1 m2 m3 m4 md λh5 fly5 sm5=>?_
  have sm45:=sm4.trans sm5
  have I5:=x5_ I1 os bare un hok bs fl.1.1 fly5.1.1 sm45
  obtain⟨ob,hob,hobc⟩:=fly5.1.there
  refine wpAny_handleBy_cons (codeAny_handlers_test (xt_ (X:=Cx.mk1 X (.ref a)) (acw_ I5 (.ref a)) hg hm (ab2_ I5.kIn hob hobc kC' kC ?_) hd3)) (by intro q;cases q)
  refine codeAny_handlers_suite_as ?_
  obtain⟨⟨n1,n2,n3,n4⟩,nd⟩:=fly5
  refine aab_ (s:={ s' with heap:=h5 }) n1 n2 n3 n4.at nd λh6 fly6 sm6=>?_
  have I6:=x5_ I1 os bare un hok bs fl.1.1 fly6.1.1 (sm45.trans sm6)
  obtain⟨I6',hn⟩:=apk_ I1 I6 bs (by rw[hst];exact fly6)
  refine yy_ (X:=X) I6' hN hi (Or.inl li) (v:=.ref a) rfl (λs7 I7=>?_) (.inr li)
  have hlt:i<σ.length:=by rw[I1.len];exact(AR.mp hi).1
  have ps:=qg_ (qp_ (X:=Cx.mk1 X (.ref a)) (pos:=ap) (pos':=py) hN hj (Or.inl lj) (afz_ (pos:=pn) hi (Or.inl li) hd1 hd2) rfl (.inr lj))
  refine wpAny_mono (ps pins s7 (σ.set i (some (.ref a))) (upd H' a (xE a (.ref C) od)) { nx:=λσ8 H8=>σ8=(σ.set i (some (.ref a))).set j (some (.ref a))/\H8=upd H' a (xE a (.ref C) od),rt:=λ_ _=>False } (acw_ I7 (.ref a)) ⟨.ref a,Ce hlt,rfl,rfl⟩) (λfw s8 q=>?_) (λ_ _ z=>False.elim z)
  cases fw with
  |next =>
   obtain⟨σ8,H8,J8,rfl,rfl⟩:=q
   exact amx_ (aj2_ I.ok J8) hN hi li λs9 I9=>⟨_,_,I9,hE a hn⟩
  |brk=>obtain⟨_,_,_,z⟩:=q;exact z.elim
  |cont=>obtain⟨_,_,_,z⟩:=q;exact z.elim
  |ret u=>obtain⟨_,_,_,_,_,z⟩:=q;exact z.elim
 refine wpAny_mono (hb _ _ σ _ hP [] s σ H D (agn_ I _) h) (λfw s₁ q=>?_) λe s₁ q=>q
 cases fw with
 |next=>obtain⟨σ',H',J,q⟩:=q;exact wpAny_execs_nil ⟨σ',H',jj_ I.ok J,q⟩
 |brk=>obtain⟨σ',H',J,q⟩:=q;exact⟨σ',H',jj_ I.ok J,q⟩
 |cont=>obtain⟨σ',H',J,q⟩:=q;exact⟨σ',H',jj_ I.ok J,q⟩
 |ret u=>obtain⟨v,σ',H',J,r,q⟩:=q;exact⟨v,σ',H',jj_ I.ok J,r,q⟩
end L2.Ev
namespace L2.Ev
open PySem PySem.Spec PyProof.Rows
open PySem.W
open PySem PySem.Calls PyProof.Rows Builtin Builtin.ObjectAttr Builtin.Getset_descriptor
section
variable{prog:Program}{w:World}{A:Around}{E:Value->Shared->Prop}{K:Frag}{h:Heap}{g:Array GenState}{d:Drawn}{t:Nat}{os:OsState}{a C:Addr}{o:Obj}
theorem ac7_{tp:Value}{R:Result->Shared->Prop}(X:K.In h)(L0:Looks (model prog w) h (typeOf (.ref a)) (.ref C))(hm:mroIn K C (.type "object")=some true)
  (hq:R (.ok (.ret (.ref C))) ⟨h,g,d,t,os⟩):codeAny (model prog w) A (.call (.builtin "getset_descriptor.__get__") ⟨[.builtin "object.__class__",.ref a,tp],[]⟩) R ⟨h,g,d,t,os⟩:=by
 have L1:=looks_mroIn (M:=model prog w) X hm
 refine codeAny_call_builtin KF.slot_gs.plain KF.entry_gs (KF.slot_gs.check _ _ _ _ _ _ _ _ KF.type_class (KF.args_gs _ _ _) ?_)
 unfold Builtin.«getset_descriptor.__get__» descrGet
 rw[dga_obj]
 refine wpAny_bind (wpAny_pure ?_)
 unfold descrGetter descrCheckInstance descrNameAndClass isInstance
 simp only[KF.owner_class]
 repeat lk
 refine⟨Code.quiet_builtin _ (by decide +kernel),codeAny_builtin KF.entry_class ?_⟩
 unfold Builtin.«object.__class__» shownTypeOf
 repeat lk
 exact hq
theorem aak_{tk:Tok}{Q:Fin->Shared->Prop}(X:K.In h)(L0:Looks (model prog w) h (typeOf (.ref a)) (.ref C))(hm:mroIn K C (.type "object")=some true)(hcl:findIn K (.ref C) "__class__" = some (some (.builtin "object.__class__")))
  (hx:h.get? a=some o) (hc:o.cls=.ref C) (hq:Q (.done (.ret (.ref C))) ⟨h,g,d,t,os⟩) :
  wpAny (model prog w) A (Builtin.«object.__getattribute__» ⟨[.ref a,.str "__class__" tk],[]⟩) Q E ⟨h,g,d,t,os⟩:=by
 have L2:=looks_findIn (M:=model prog w) X hcl
 have f5:=KF.type_class
 have f6:=F.slot_gs_get.lookup
 have f7:=F.slot_gs_set.lookup
 repeat (any_goals (first|assumption|(with_reducible refine wpAny_loadPart_at hx ?_;rw[hc])|with_reducible refine L2.at ?_|wp_step))
 refine ac7_ X L0 hm ?_
 repeat (any_goals (first|assumption|wp_step))
theorem afy_{M:Model}{nameV:Value}{Q:Unit->Shared->Prop}(L0:Looks M h (typeOf (.ref a)) (.ref C))(LB:Looks M h (isSubtype (.ref C) (.type "BaseException")) true)
  (hq:Q () ⟨h,g,d,t,os⟩):wpAny M A (checkBuiltinCall "BaseException.__getattribute__" ⟨[.ref a,nameV],[]⟩) Q E ⟨h,g,d,t,os⟩:=by
 have hk:builtinKind "BaseException.__getattribute__" = some .slot:=by decide +kernel
 have hsplit:splitId "BaseException.__getattribute__" = some ("BaseException", "__getattribute__"):=by decide +kernel
 have ha:=F.args_bexc_ga (.ref a) nameV
 have LI:Looks M h (isInstance (.ref a) (.type "BaseException")) true:=L0.andThen LB
 simp only[checkBuiltinCall,hk,hsplit]
 refine wpAny_bind (LI.at ?_)
 repeat (first|assumption|wp_step)
theorem abz_{tk:Tok}{R:Result->Shared->Prop}(X:K.In h)(hm:mroIn K C (.type "object")=some true)(hb:mroIn K C (.type "BaseException")=some true)(hcl:findIn K (.ref C) "__class__" = some (some (.builtin "object.__class__")))
  (hx:h.get? a=some o) (hc:o.cls=.ref C) (hq:R (.ok (.ret (.ref C))) ⟨h,g,d,t,os⟩) :
  codeAny (model prog w) A (.call (.builtin "BaseException.__getattribute__") ⟨[.ref a,.str "__class__" tk],[]⟩) R ⟨h,g,d,t,os⟩:=by
 have L0:Looks (model prog w) h (typeOf (.ref a)) (.ref C):=hc▸(Looks.ld hx).andThen .now
 exact codeAny_call_builtin F.excAttr_ValueError.ga.plain F.entry_bexc_ga (afy_ L0 (looks_mroIn X hb) (aak_ X L0 hm hcl hx hc hq))
theorem afd_{tk:Tok}{Q:Value->Shared->Prop}(X:K.In h)(hm:mroIn K C (.type "object")=some true)(hb:mroIn K C (.type "BaseException")=some true)(hcl:findIn K (.ref C) "__class__" = some (some (.builtin "object.__class__")))
  (hga:findIn K (.ref C) "__getattribute__" = some (some (.builtin "BaseException.__getattribute__"))) (hgt:findIn K (.ref C) "__getattr__" = some none)
  (hx:h.get? a=some o) (hc:o.cls=.ref C) (hq:Q (.ref C) ⟨h,g,d,t,os⟩):wpAny (model prog w) A (getAttrBy (.ref a) (.str "__class__" tk) false) Q E ⟨h,g,d,t,os⟩:=by
 have f3:=F.excAttr_ValueError.ga.bind (.ref a)
 have hx2:(Value.builtin "BaseException.__getattribute__" == Value.builtin "object.__getattribute__")=false:=by decide +kernel
 have hx1:(onTheHeap (Value.ref C)&&Value.builtin "BaseException.__getattribute__" == Value.builtin "object.__getattribute__")=false:=by rw[hx2];rfl
 have L1:=looks_findIn (M:=model prog w) X hga
 have L2:=looks_findIn (M:=model prog w) X hgt
 repeat (any_goals (first|assumption|(with_reducible refine wpAny_loadPart_at hx ?_;rw[hc])|with_reducible refine L1.at ?_|with_reducible refine L2.at ?_|wp_step))
 refine abz_ X hm hb hcl hx hc ?_
 repeat (any_goals (first|assumption|wp_step))
theorem abv_{Q:Option Value->Shared->Prop}(X:K.In h)(hm:mroIn K C (.type "object")=some true)(hb:mroIn K C (.type "BaseException")=some true)(hcl:findIn K (.ref C) "__class__" = some (some (.builtin "object.__class__")))
  (hga:findIn K (.ref C) "__getattribute__" = some (some (.builtin "BaseException.__getattribute__"))) (hgt:findIn K (.ref C) "__getattr__" = some none)
  (hx:h.get? a=some o) (hc:o.cls=.ref C) (hq:Q (some (.ref C)) ⟨h,g,d,t+1,os⟩):wpAny (model prog w) A (getAttr? (.ref a) "__class__") Q E ⟨h,g,d,t,os⟩:=by
 unfold getAttr? getAttrBy?
 repeat (any_goals (first|assumption|with_reducible apply afd_ X hm hb hcl hga hgt hx hc|wp_step))
end
structure ExcK(K:Frag)(C:Addr):Prop where
 obj:mroIn K C (.type "object")=some true
 exc:mroIn K C (.type "BaseException")=some true
 cls:findIn K (.ref C) "__class__" = some (some (.builtin "object.__class__"))
 ga:findIn K (.ref C) "__getattribute__" = some (some (.builtin "BaseException.__getattribute__"))
 gt:findIn K (.ref C) "__getattr__" = some none
 is:(clsIn K C).isSome=true
theorem ah0_{K:Frag}{a C:Addr}(k:ExcK K C):KitX K (.ref a) (.ref C) (λh=>∃o,h.get? a=some o/\o.cls=.ref C) where
 ty:=λM h _ ⟨o,hx,hc⟩=>hc▸(Looks.ld hx).andThen .now
 it:=λ_ _ X _=>by
  have z0:=k.is
  unfold clsIn at z0
  split at z0
  ·rename_i c' d' cd' sl' ho
   intro A' Q' E' s' kk q
   unfold isType loadHead
   exact wpAny_bind (wpAny_loadPart (kk _ _ (X _ _ ho)) (wpAny_pure q))
  ·cases z0
 ne:=λh tp dd its n sl X htp=>by
  refine Bool.eq_false_iff.mpr λq=>?_
  have e:C=tp:=Value.ref.inj (beq_iff_eq.mp q)
  subst e
  have z0:=k.is
  unfold clsIn at z0
  split at z0
  ·rename_i c' d' cd' sl' ho
   have:=X _ _ ho
   rw[htp]at this
   cases this
  ·cases z0
 ca:=λ{prog w A E Q s} X ⟨o,hx,hc⟩ q=>by
  obtain⟨hh,g,d,t,os⟩:=s
  exact abv_ X k.obj k.exc k.cls k.ga k.gt hx hc q
section
variable{X:Cx}
theorem abw_:CallR X (.builtin "isinstance") (λxs H Q=>∃od a C c u b,xs=[.ref a,c]/\H a=some (xE a (.ref C) od)/\ExcK X.K C/\RelV c u/\(∀u',RelV c u'->u'=u)/\kitOne X.K (.ref C) u=some b/\Q (.bl b) H):=by
 intro pins s σ H xs us Q I r h
 obtain⟨od,a,C,c,u,b,rfl,ha,k,_,uni,e,q⟩:=h
 obtain⟨u1,v,rfl,r1,r2⟩:=jD_ r
 cases r1
 have hv:=uni v r2
 subst hv
 obtain⟨⟨ob,vs,hx,hc,_⟩,_⟩:=(show ObjOk X.prog X.w H s.heap a (xE a (.ref C) od) from I.hok a _ ha)
 exact kia_one (ah0_ k) I.kIn ⟨ob,hx,hc⟩ e (λz=>nomatch z) λtk=>⟨.bl b,H,I.tok tk,rfl,q⟩
theorem qM_:CallR X (.builtin "isinstance") (λxs H Q=>∃a C c u b,xs=[.ref a,c]/\H a=some (excO a (.ref C))/\ExcK X.K C/\RelV c u/\(∀u',RelV c u'->u'=u)/\kitOne X.K (.ref C) u=some b/\Q (.bl b) H) :=
 λpins s σ H xs us Q I r h=>abw_ pins s σ H xs us Q I r ⟨none,h⟩
end
end L2.Ev
namespace L2.Ev
open PySem PySem.Spec PyProof.Rows
open L2.Pl
end L2.Ev
namespace L2.Ev
open PySem PySem.Spec PyProof.Rows
open L2.Pl
end L2.Ev
namespace L2.Ev
open PySem PyProof.Rows
open L2.Pl
end L2.Ev
namespace L2.Ev
open PySem PySem.Spec PyProof.Rows
open L2.Pl
structure ESt(k:SK)(e it l:Addr)(i:Nat)(h:Heap):Prop where
 he:∃old,IsEnum h e it (i:Int) old
 hi:k.iter h it l i
end L2.Ev
namespace L2.Ev
open PySem PySem.Spec PyProof.Rows
open L2.Pl
instance datStr:Dat Str where
 is:=λ_ v b=>v=.str b
 mono:=λ_ h=>h
 inj:=λh h'=>by rw[h]at h';cases h';rfl
 dep:=0
 eqb:=λa b=>a==b
 eqb_iff:=λa b=>beq_iff_eq
 eqAt:=λ{X pins σ H s A v v' u u' a b} I hu h h' r r'=>by
  subst h h'
  obtain⟨t,rfl⟩:=r
  obtain⟨t',rfl⟩:=r'
  exact SeqAt.EqAt.str_str _ _ _ _
section
variable{prog:Program}{w:World}{A:Around}{E:Value->Shared->Prop}{s:Shared}
theorem ab0_{t sl:Addr}{items:Array Value}{vl vu:Value}{lo hi:Option Int}{Q:Value->Shared->Prop}(ht:IsTup s.heap t items)(hs:s.heap.IsSliceOf sl vl vu .none)(pl:IsPart vl lo)(pu:IsPart vu hi)
  (w1:HT.sIx items.size 0 lo=0) (w2:HT.sIx items.size items.size hi=items.size) (h:Q (.ref t) s):wpAny (model prog w) A (getItem (.ref t) (.ref sl)) Q E s:=by
 obtain⟨os,hos,hcs,hds⟩:=id hs
 have hTs:s.TypeIs (.ref sl) "slice" := ⟨os,hos,hcs⟩
 unfold getItem
 try with_reducible refine wpAny_holding ?_
 first|refine wpAny_bind (wpAny_pure ?_)|skip
 refine wpAny_bind (wpAny_sequenceKey ht.typeIs (by decide) (wpAny_bind (wpAny_callSpecial?_slot (name:=Str.ofString "__getitem__") ht.typeIs BQ (wpAny_call_entry BQ ht.typeIs entry_tuple_getitem ?_ (args_tuple_getitem _ _)))))
 show wpAny _ _ (Builtin.Tuple.tupleItemsOf (.ref t)>>=λ_=>_) _ _ s
 refine wpAny_bind (tupleItemsOf_ ht (wpAny_bind (wpAny_typeOf hTs ?_)))
 rw[if_pos (by decide)]
 refine wpAny_bind (HT.sliceApplied_gen hs pl pu ?_)
 rw[w1,w2]
 show wpAny _ _ (if (((0:Nat):Int)==0&&(1:Int)==1&&(items.size-0)==items.size)=true then _ else _) _ _ s
 rw[if_pos (by simp)]
 refine wpAny_bind ?_
 refine wpAny_bind (m:=Builtin.Tuple.tupleIsExact (.ref t)) ?_
 unfold Builtin.Tuple.tupleIsExact
 refine wpAny_bind (wpAny_typeOf ht.typeIs (wpAny_pure (wpAny_pure ?_)))
 rw[if_pos (by decide)]
 exact wpAny_bind (wpAny_rule (wpAny_pure ⟨_,rfl,wpAny_pure h⟩))
end
section
variable{X:Cx}
def ao7_(K:PySem.W.Frag):V->Option Int->Option Int->Hp->VK->Prop:=λx lo hi H Q=>∃a xs,x=.ref a/\SqT K H a xs/\HT.sIx xs.length 0 lo=0/\HT.sIx xs.length xs.length hi=xs.length/\Q (.ref a) H
theorem yl_:SlR X (ao7_ X.K):=by
 intro pins s σ H x v vl vu lo hi sl Q I rx hs pl pu h
 obtain⟨a,xs,rfl,hx,w1,w2,q⟩:=h
 cases rx
 obtain⟨its,r,ht,hz⟩:=I.tuple hx
 have hlen:its.toArray.size=xs.length:=by rw[AQ];exact r.length.symm
 exact⟨"tuple",_,BQ.lookup,ht.typeIs,ab0_ ht hs pl pu (by rw[hlen];exact w1) (by rw[hlen];exact w2) ⟨.ref a,H,I,rfl,q⟩⟩
theorem akc_:SlR X (λx lo hi H Q=>∃(a:Addr)(r:List Int),x=.ref a/\lo=some 1/\hi=none/\H a=some (.tup (r.map V.int))/\∀(p:Addr)(H':Hp),Same H H'->H' p=some (.tup ((r.drop 1).map V.int))->Q (.ref p) H'):=by
 intro pins s σ H x v vl vu lo hi sl Q I rx hs pl pu h
 obtain⟨a,r,rfl,rfl,rfl,ha,q⟩:=h
 cases r with
 |nil=>exact yl_ pins s σ H _ v vl vu _ _ sl Q I rx hs pl pu ⟨a,[],rfl,SqT.of ha,rfl,rfl,q a H (λ_ _ e=>e) ha⟩
 |cons n r =>
  refine y7_ pins s σ H _ v vl vu _ _ sl Q I rx hs pl pu ⟨a,_,rfl,SqT.of ha,λz=>?_,λp hp=>?_⟩
  ·have z1:=z.1
   rw[show(1:Int)=((1:Nat):Int) from rfl,HT.sIx_nat,AA,AY]at z1
   omega
  ·refine q p _ (qd_ hp _) ?_
   rw[qc_]
   unfold jx_
   rw[show(1:Int)=((1:Nat):Int) from rfl,HT.sIx_nat,HT.sIx_none,AA,AY,Cd (by omega),Aj (by simp),List.map_drop]
theorem agd_:SlR X (λx lo hi H Q=>∃(a:Addr)(r:List Int)(k:Nat),x=.ref a/\lo=none/\hi=some (k:Int)/\H a=some (.tup (r.map V.int))/\∀(p:Addr)(H':Hp),Same H H'->H' p=some (.tup ((r.take k).map V.int))->Q (.ref p) H'):=by
 intro pins s σ H x v vl vu lo hi sl Q I rx hs pl pu h
 obtain⟨a,r,k,rfl,rfl,rfl,ha,q⟩:=h
 by_cases c:r.length<=k
 ·refine yl_ pins s σ H _ v vl vu _ _ sl Q I rx hs pl pu ⟨a,_,rfl,SqT.of ha,HT.sIx_none _ _,?_,q a H (λ_ _ e=>e) (by rw[Aj c];exact ha)⟩
  rw[HT.sIx_nat,AA]
  omega
 ·refine y7_ pins s σ H _ v vl vu _ _ sl Q I rx hs pl pu ⟨a,_,rfl,SqT.of ha,λz=>?_,λp hp=>?_⟩
  ·have z2:=z.2
   rw[HT.sIx_nat,AA]at z2
   omega
  ·refine q p _ (qd_ hp _) ?_
   rw[qc_]
   unfold jx_
   rw[HT.sIx_nat,HT.sIx_none,AA,Cm,En,Cd (by omega),List.map_take]
theorem ae8_:PGet X (λo i H Q=>∃(p:Addr)(xs:List V)(k:Nat)(z:V),o=.ref p/\i=.int k/\H p=some (.lst xs)/\xs[k]?=some z/\Q z H):=by
 intro pins s σ H o i ov iv Q I ro ri h
 obtain⟨p,xs,k,z,rfl,rfl,hp,hz,q⟩:=h
 cases ro
 obtain⟨t,rfl⟩:=ri
 obtain⟨its,r,pl,hl⟩:=I.list (SqL.of hp)
 obtain⟨u,hu,ru⟩:=r.get hz
 have lt:k<xs.length:=(AR.mp hz).1
 have hn:=xV_
 exact wpAny_getItem_list pl.isList (by omega) (by omega) (by rw[At];simpa using hu) ⟨z,H,I,ru,q⟩
end
end L2.Ev
namespace L2.Ev
open PySem PySem.Spec PyProof.Rows
open L2.Pl
end L2.Ev
namespace L2.Ev
open PySem PySem.Spec PyProof.Rows
open L2.Pl
theorem yK_:fillsNumberSlot (.type "tuple") "mul" = pure false :=
 PySem.fillsNumberSlot_seq (id := "tuple.__mul__") (r:=some (.builtin "tuple.__rmul__")) CB.lookup (by decide +kernel) EC.lookup (by decide +kernel)
theorem aaw_:seqRepeat? (.type "tuple")=pure (some (.builtin "tuple.__mul__")):=by
 unfold seqRepeat?
 rw[PySem.seqSlot_of (T := "tuple") (name := "__mul__") (id := "tuple.__mul__") CB.lookup (by decide +kernel),PySem.seqSlot_of (T := "tuple") (name := "__rmul__") (id := "tuple.__rmul__") EC.lookup (by decide +kernel)]
 rfl
theorem aa4_(a:Int)(t:Tok)(l:Addr)(items:Array Value)(n:Nat)(dd:Option Addr)(sl:Array (Option Value)) :
  Meets (Builtin.«int.__rmul__» ⟨[.int a t,.ref l],[]⟩) (λ_ R s=>s.heap.get? l=some ⟨.type "tuple",dd,.seq items n,sl⟩/\R (.ok (.ret Value.notImplemented)) s) :=
 .of_wp λprog w A R s h=>by
  obtain⟨hp,g,d,tk,os⟩:=s
  obtain⟨hl,h⟩:=h
  wp_walk
  exact⟨_,rfl,h⟩
theorem ahn_(l:Addr)(items:Array Value)(n:Nat)(dd:Option Addr)(sl:Array (Option Value))(u:Tok) :
  Meets (Builtin.«tuple.__mul__» ⟨[.ref l,.int 1 u],[]⟩) (λ_ R s=>s.heap.get? l=some ⟨.type "tuple",dd,.seq items n,sl⟩/\R (.ok (.ret (.ref l))) s) :=
 .of_wp λprog w A R s h=>by
  obtain⟨hp,g,d,tk,os⟩:=s
  obtain⟨hl,h⟩:=h
  have hc:(items.isEmpty||(1:Int)==1)=true:=by rw[beq_self_eq_true,Bool.or_true]
  wp_walk
  exact⟨_,rfl,h⟩
theorem agi_(l:Addr)(items:Array Value)(n:Nat)(dd:Option Addr)(sl:Array (Option Value))(k:Int)(u:Tok)(hi:items.isEmpty=false)(h0:k<=0)(h1:-(2^63)<=k) :
  Meets (Builtin.«tuple.__mul__» ⟨[.ref l,.int k u],[]⟩) (λ_ R s=>s.heap.get? l=some ⟨.type "tuple",dd,.seq items n,sl⟩/\R (.ok (.ret (.ref s.heap.objs.size))) { s with heap:=s.heap.push { cls:=.type "tuple",data:=.seq #[] } }) :=
 .of_wp λprog w A R s h=>by
  obtain⟨hp,g,d,tk,os⟩:=s
  obtain⟨hl,h⟩:=h
  have hf:¬ (decide (k < -(2^63))||decide (k ≥ 2^63))=true:=by rw[decide_eq_false (by omega),decide_eq_false (by omega)];exact AS
  have hc:¬ (items.isEmpty||k==1)=true:=by rw[hi,show(k==1)=false from beq_eq_false_iff_ne.mpr (by omega)];exact AS
  have hz:(decide (k<=0)||items.isEmpty)=true:=by rw[decide_eq_true h0];rfl
  wp_walk
  refine wpAny_ite_false (decide_eq_false hf) ?_
  wp_walk
  refine wpAny_ite_false (decide_eq_false hc) ?_
  wp_walk
  exact⟨_,rfl,h⟩
theorem agz_(l:Addr)(items:Array Value)(n:Nat)(dd:Option Addr)(sl:Array (Option Value))(k:Int)(u:Tok)(hi:items.isEmpty=false)(h0:2<=k)(h1:k<2^63)(hz:items.size*k.toNat<=sizeLine) :
  Meets (Builtin.«tuple.__mul__» ⟨[.ref l,.int k u],[]⟩) (λ_ R s=>s.heap.get? l=some ⟨.type "tuple",dd,.seq items n,sl⟩/\R (.ok (.ret (.ref s.heap.objs.size))) { s with heap:=s.heap.push { cls:=.type "tuple",data:=.seq ((List.replicate k.toNat items).foldl (λx1 x2=>x1++x2) #[]) } }) :=
 .of_wp λprog w A R s h=>by
  obtain⟨hp,g,d,tk,os⟩:=s
  obtain⟨hl,h⟩:=h
  have e:(items.size:Int)*k=((items.size*k.toNat:Nat):Int):=by rw[Int.natCast_mul,Da (by omega)]
  have hs:(sizeLine:Nat)<=(2^63-1) / 8:=by decide
  have hf:¬ (decide (k < -(2^63))||decide (k ≥ 2^63))=true:=by rw[decide_eq_false (by omega),decide_eq_false (by omega)];exact AS
  have hc:¬ (items.isEmpty||k==1)=true:=by rw[hi,show(k==1)=false from beq_eq_false_iff_ne.mpr (by omega)];exact AS
  have hz1:¬ (decide (k<=0)||items.isEmpty)=true:=by rw[decide_eq_false (by omega),hi];exact AS
  have hm:¬ (items.size:Int)*k>(2^63-1) / 8:=by rw[e];omega
  have ht:¬ Builtin.Tuple.tupleTooMany ((items.size:Int)*k)=true:=by
   unfold Builtin.Tuple.tupleTooMany
   rw[e,decide_eq_false (by omega)]
   exact AS
  have hsz:sizeOk (.seq ((List.replicate k.toNat items).foldl (λx1 x2=>x1++x2) #[])):=by
   show((List.replicate k.toNat items).foldl (λx1 x2=>x1++x2) #[]).size<=sizeLine
   have:∀(m:Nat)(acc:Array Value),((List.replicate m items).foldl (λx1 x2=>x1++x2) acc).size=acc.size+items.size*m:=by
    intro m
    induction m with
    |zero=>intro acc;simp
    |succ m ih=>intro acc;rw[Ax,Bm,ih,Array.size_append,Nat.mul_succ];omega
   rw[this]
   simpa using hz
  wp_walk
  refine wpAny_ite_false (decide_eq_false hf) ?_
  wp_walk
  refine wpAny_ite_false (decide_eq_false hc) ?_
  wp_walk
  refine wpAny_ite_false (decide_eq_false hz1) ?_
  wp_walk
  refine wpAny_ite_false (decide_eq_false hm) ?_
  wp_walk
  refine wpAny_ite_false (decide_eq_false ht) ?_
  wp_walk
  refine wpAny_ite_false (decide_eq_false (Ef.mpr hsz)) ?_
  wp_walk
  exact⟨_,rfl,h⟩
theorem ahs_(r:List Int)(k:Nat):(List.replicate k (r.map V.int)).flatten=((List.replicate k r).flatten).map V.int:=by
 induction k with
 |zero=>rfl
 |succ k ih=>rw[Ax,Ax,Bj,Bj,BU,ih]
theorem adl_(l:List Value):∀m:Nat,(List.replicate m l.toArray).foldl (λx1 x2=>x1++x2) #[]=(List.replicate m l).flatten.toArray:=λm=>by
 have:∀(m:Nat)(acc:List Value),(List.replicate m l.toArray).foldl (λx1 x2=>x1++x2) acc.toArray=(acc++(List.replicate m l).flatten).toArray:=by
  intro m
  induction m with
  |zero=>intro acc;simp
  |succ m ih =>
   intro acc
   rw[Ax,Bm,List.append_toArray,ih,Ax,Bj,AX]
 exact this m []
section
variable{X:Cx}
theorem yn_:OpR X (binaryOp .Mult) (λx y H Q=>∃(p:Addr)(r:List Int)(k:Int),x=.ref p/\y=.int k/\H p=some (.tup (r.map V.int))/\r≠[]/\-(2^63)<=k/\k<2^63/\r.length*k.toNat<=sizeLine /\
  ∀(t:Addr)(H':Hp),Same H H'->H' t=some (.tup (((List.replicate k.toNat r).flatten).map V.int))->Q (.ref t) H'):=by
 intro pins s σ H x y v u Q I rx ry h
 obtain⟨p,r,k,rfl,rfl,hp,hne,h1,h2,hz,q⟩:=h
 cases rx
 obtain⟨t,rfl⟩:=ry
 obtain⟨its,rv,p1,_⟩:=I.tuple (SqT.of hp)
 obtain⟨⟨cls,dd,data,sl⟩,ho,hc,n,hd⟩:=id p1
 simp only at hc hd
 subst hc hd
 have hl:=rv.length
 rw[AA]at hl
 have hi:its.toArray.isEmpty=false:=by
  cases its with
  |nil=>exact absurd (BD.mp (by rw[hl];rfl)) hne
  |cons a b=>rfl
 refine wpAny_binaryOp_repeat_ref (T := "tuple") (U := "int") (by decide) ⟨_,ho,rfl⟩ (λs'=>typeIs_int s' k t) yK_ PySem.F.fills_int_mul Ea aaw_ PySem.F.slot_int_index.lookup
  (call_meets Ea (typeIs_int s k t) PySem.F.entry_int_rmul (PySem.F.args_int_rmul_2 _ _) (aa4_ k t p its.toArray n dd sl) ⟨ho,rfl,⟨_,ho,rfl⟩,?_⟩)
 by_cases c1:k=1
 ·subst c1
  refine call_meets CB ⟨_,ho,rfl⟩ DA (C5 _ _) (ahn_ p its.toArray n dd sl t) ⟨ho,?_⟩
  exact⟨.ref p,H,I,rfl,q p H (λ_ _ e=>e) (by rw[hp];simp)⟩
 ·by_cases c0:k<=0
  ·refine call_meets CB ⟨_,ho,rfl⟩ DA (C5 _ _) (agi_ p its.toArray n dd sl k t hi c0 h1) ⟨ho,?_⟩
   refine⟨.ref s.heap.objs.size,upd H s.heap.objs.size (.tup []),I.laid (t':=s.toks) (o:=.tup []) (λb ob q=>AB _ q) (AH _) ⟨Ae _,[],.nil,TupN.new _ _⟩,rfl,q _ _ (qd_ I.fresh _) ?_⟩
   rw[qc_,show k.toNat=0 by omega]
   rfl
  ·refine call_meets CB ⟨_,ho,rfl⟩ DA (C5 _ _) (agz_ p its.toArray n dd sl k t hi (by omega) h2 (by rw[AQ,<-hl];exact hz)) ⟨ho,?_⟩
   rw[adl_]
   refine⟨.ref s.heap.objs.size,upd H s.heap.objs.size (.tup ((List.replicate k.toNat (r.map V.int)).flatten)),I.laid (t':=s.toks) (o:=.tup ((List.replicate k.toNat (r.map V.int)).flatten)) (λb ob q=>AB _ q) (AH _) ⟨?_,_,rv.rep k.toNat,TupN.new _ _⟩,rfl,q _ _ (qd_ I.fresh _) ?_⟩
   ·rw[ac3_,AA,DP];exact hz
   ·rw[qc_,ahs_]
end
end L2.Ev
namespace L2.Ev
open PySem PySem.Spec PyProof.Rows
open L2.Ts L2.Pl L2.Rw
def Itk(a:Addr)(o:Obj)(d:List Mon):It :=
 ⟨λi H=>H a=some (.frz o (.dT (toK d)))/\i<d.length,
  λi H v H'=>∃q t,v=.ref q/\d[i]?=some t/\H q=some (.tup (t.1.map V.int))/\H'=H,
  λi H=>H a=some (.frz o (.dT (toK d)))/\d.length<=i⟩
theorem ae9_{P:Program}{w:World}{K:PySem.W.Frag}{tg:Expr}(a it:Addr)(o:Obj)(d:List Mon)(es:Array DictEntry)(ep:Nat)(hd:o.data=.dict es ep) :
  Turn P w K tg (Itk a o d) [it] it (λi h=>h.IsKeyIter it a i es.size ep) where
 mem:=by simp
 obj:=λi h st b hb=>by
  obtain⟨o',e1,e2,e3⟩:=st
  have e:b=it:=by simpa using hb
  subst e
  exact⟨o',e1,λv z=>by rw[e3]at z;cases z⟩
 keep:=λi h h' st k=>st.at λo e=>k it (by simp) o e
 item:=by
  intro X hP hw hK hc i pins s σ H E I hf st hg
  subst hP hw hK
  obtain⟨hg,hi⟩:=hg
  obtain⟨raw,sz,ent⟩:=aes_ hd I hg
  obtain⟨f0,f1,f2,f3,f4,f5⟩:=hf it (by simp)
  have hi':i<es.size:=by omega
  have ei:es.toList[i]?=some es[i]:=by rw[As,AJ hi']
  obtain⟨t,et,⟨q,eq1,eq2⟩,rt⟩:=Paired.get ent ei
  refine aa0_ st raw hi' λh' on sb=>?_
  have I1:Inv X pins σ H { s with heap:=h' }:=I.turned (t':=s.toks) (λb o hb e=>(sb.2 b hb).trans e) f0 f1 f3 f4 f5
  obtain⟨o',e1,e2,e3⟩:=id on
  exact⟨_,rfl,yf_ (s:={ s with heap:=h' }) e1 e2 e3 (by decide) ⟨.ref q,H,I1,by rw[eq1];rfl,⟨q,t,rfl,et,eq2,rfl⟩,on,λb hb=>(hf b hb).1⟩⟩
 done:=by
  intro X hP hw hK hc i pins s σ H E I hf st hg
  subst hP hw hK
  obtain⟨hg,hi⟩:=hg
  obtain⟨raw,sz,ent⟩:=aes_ hd I hg
  obtain⟨f0,f1,f2,f3,f4,f5⟩:=hf it (by simp)
  exact acu_ (I.ok.hd hc) st raw (by omega) λh' eb=>⟨rfl,I.turned (t':=s.toks) (λb o hb e=>eb b o hb e) f0 f1 f3 f4 f5⟩
 self:=λ_ _ _ _ _ st h=>wpAny_pyIter_keyiter st h
def ap9_(te:TE):TI:=λσ H R=>te σ H λx H1=>∃(a:Addr)(d:List Mon),x=.ref a/\H1 a=some (.dT (toK d))/\∀o:Obj,R (Itk a o d) (upd H1 a (.frz o (.dT (toK d))))
theorem akj_{X:Cx}{tg eo:Expr}{te:TE}(ho:PE X eo te):PI X tg eo (ap9_ te):=by
 intro pins s σ H R I h
 refine thn (ho pins s σ H _ I h) λv s1 ⟨x,H1,I1,r1,q1⟩=>?_
 obtain⟨a,d,rfl,hd,q⟩:=q1
 cases r1
 obtain⟨z,lo,es,ep,raw,sz,ent⟩:=aao_ I1 (.inl hd)
 obtain⟨o,ho,hx,hdat⟩:=id raw
 refine abe_ lo raw ?_
 have I2:Inv X pins σ H1 { s1 with heap:=s1.heap.push { cls:=.type "dict_keyiterator",data:=.fields #[.ref a,.int 0 0,.int es.size 0,.int ep 0] } }:=I1.kept (t':=s1.toks) λb u e=>AB _ e
 have hn:H1 s1.heap.objs.size=none:=I1.hok.fresh (AH _)
 have ho2:(s1.heap.push { cls:=.type "dict_keyiterator",data:=.fields #[.ref a,.int 0 0,.int es.size 0,.int ep 0] }).get? a=some o:=AB _ ho
 have I3:Inv X pins σ (upd H1 a (.frz o (.dT (toK d)))) { s1 with heap:=s1.heap.push { cls:=.type "dict_keyiterator",data:=.fields #[.ref a,.int 0 0,.int es.size 0,.int ep 0] } }:=by
  refine I2.write (x:=a) (e:=a) (o:=.frz o (.dT (toK d))) (t':=s1.toks) (by rw[hd];exact True.intro) (.inl rfl) (λb u _ e=>e) ⟨o,ho2⟩ ⟨ho2,?_⟩
  refine(I2.hok a _ hd).stay (λb u _ e=>e) (λb e=>?_) λb xs e=>?_
  ·rw[ql_ (zW_ e hd (by intro z;cases z))];exact e
  ·rw[ql_ (zW_ e hd (by intro z;cases z))];exact e
 refine⟨_,[s1.heap.objs.size],_,_,_,rfl,I3,ae9_ a s1.heap.objs.size o d es ep hdat,⟨_,AL _ rfl,rfl,rfl⟩,λb hb=>?_,q o⟩
 have eb:b=s1.heap.objs.size:=by simpa using hb
 subst eb
 refine I1.fpOk (AH _) ?_
 rw[ql_ (qA_ hd hn).symm]
 exact hn
theorem afc_{α:Type}[Dat α]{a:Addr}{o:Obj}{d:List Mon}{σ0:St}{H1:Hp}{D:Addr}{R:Hp->Prop}{g:TG}{tc:TT}{te:TE}(hD:H1 D=none)(hl:H1 a=some (.frz o (.dT (toK d))))(Sp:St->Prop)(out:Nat->Option α)(hn:d.length<=sizeLine)(h0:Sp σ0)
  (hturn:∀(i:Nat)(t:Mon)(q:Addr)(σ':St)(H':Hp)(Yes:V->St->Hp->Prop)(No:St->Hp->Prop),d[i]?=some t->H' q=some (.tup (t.1.map V.int))->Sp σ'->Same H1 H'->(∀y σ2 H4 a,Sp σ2->Same H' H4->out i=some a->Dat.is H4 y a->Yes y σ2 H4)->(∀σ2 H3,Sp σ2->Same H' H3->out i=none->No σ2 H3) ->
   g (.ref q) σ' H' λσ2 H2=>tc σ2 H2 λok H3=>if ok=true then te σ2 H3 λy H4=>Yes y σ2 H4 else No σ2 H3)
  (hend:∀H',Same H1 H'->LstAt H' D ((List.range d.length).filterMap out)->R H') :
  ∃W:Nat->Nat->St->Hp->Prop,(∃m,W 0 m σ0 (upd H1 D (.lst [])))/\∀i m σ' H',W i m σ' H' ->
  ((Itk a o d).stop i H'/\R H')∨((Itk a o d).go i H'/\∃N:St->Hp->Prop,(∀σ'' H'',N σ'' H''->∃m',m'<m/\W (i+1) m' σ'' H'') /\
   ∀x H'',(Itk a o d).yld i H' x H''->g x σ' H'' λσ2 H2=>tc σ2 H2 λok H3=>if ok=true then te σ2 H3 λy H4=>∃ys,H4 D=some (.lst ys)/\ys.length<sizeLine/\N σ2 (upd H4 D (.lst (ys++[y]))) else N σ2 H3):=by
 refine jH_ (Q:=λ_ H=>R H) (n:=d.length) hD Sp out hn h0 (λH' e=>⟨e _ _ hl,AH _⟩) (λi H' hi e=>⟨e _ _ hl,hi⟩) (λi σ' H' Yes No hi hS hH hy hn x H'' y=>?_) hend
 obtain⟨q,t,rfl,ht,hq,rfl⟩:=y
 exact hturn i t q σ' H'' Yes No ht hq hS hH hy hn
end L2.Ev
namespace L2.Ev
open PySem PySem.Spec PyProof.Rows
theorem jE_{env:Env}:∀{names:List (Str×NameKind)}{x:Str}{k:NameKind},(k=.cell∨k=.free) ->
  (names.map λ(n,k)=>if (k==NameKind.free&&env.scope.kind==.function&&env.kindOf n==some .cell) then (n,NameKind.cell) else (n,k)).lookup x=some k->(x,NameKind.free)∈names∨(x,NameKind.cell)∈names
 |[],_,_,_,h=>by simp at h
 |(n,j)::r,x,k,hk,h=>by
  have h':List.lookup x ((if (j==NameKind.free&&env.scope.kind==.function&&env.kindOf n==some .cell)=true then (n,NameKind.cell) else (n,j))::r.map λ(n,k)=>if (k==NameKind.free&&env.scope.kind==.function&&env.kindOf n==some .cell) then (n,NameKind.cell) else (n,k))=some k:=h
  by_cases c:(j==NameKind.free&&env.scope.kind==.function&&env.kindOf n==some .cell)=true
  ·rw[if_pos c,BA]at h'
   simp only[AG]at c
   have ej:j=.free:=by simpa using c.1.1
   cases hy:x==n with
   |true =>
    have e1:x=n:=by simpa using hy
    subst e1 ej
    exact .inl AD
   |false=>rw[hy]at h';exact(jE_ hk h').imp (AC _) (AC _)
  ·rw[if_neg c,BA]at h'
   cases hy:x==n with
   |true =>
    rw[hy]at h'
    have e1:x=n:=by simpa using hy
    have e2:j=k:=by simpa using h'
    subst e1 e2
    rcases hk with hk|hk
    ·subst hk;exact .inr AD
    ·subst hk;exact .inl AD
   |false=>rw[hy]at h';exact(jE_ hk h').imp (AC _) (AC _)
abbrev zM_(X:Cx)(N':List Str)(z:Str)(scope:Scope)(b:Bk):Cx :=
 { X with N:=N',s₀:=b.s,H₀:=b.H,env:=compEnvC scope ((z,b.C+1)::zn_ X.env.cells scope.names []) b.C X.env,outer:=X.stack,stack:=X.stack,ex:=b.ex,fn:=λx=>x==z,pn:=[],xe:=λ_ _=>False }
structure BkScopeC(X:Cx)(N':List Str)(src:List (Option Nat))(z:Str)(scope:Scope):Prop where
 kind:scope.kind=.function
 cells:∀n acc,cellsFrom n scope.names acc=(z,n)::acc
 push:∀h:Heap,pushCells h scope.names=h.push { cls:=.type "cell",data:=.cell none }
 own:∀y∈scope.names,y.2=.cell->y.1=z
 isz:scope.names.lookup z=some .cell
 names:∀y∈scope.names,y.2=.local->scope.names.lookup y.1=some .local
 frees:∀y∈scope.names,y.2=.free->X.env.kindOf y.1=some .cell∨X.env.kindOf y.1=some .free
 len:src.length=N'.length
 out:∀i j:Nat,src[i]?=some (some j)->∃x:Str,N'[i]?=some x/\X.N[j]?=some x/\scope.names.lookup x=some .free
theorem aby_{M:Model}{A:Around}{E:Value->Shared->Prop}{s:Shared}{scope:Scope}{globals:Addr}{closure:List (Str×Addr)}{qual:Str}{func:Option Addr}{code:Value}{outer:Env}{builtins:Addr}{Q:Env->Shared->Prop}{z:Str}
  (hc:∀n acc,cellsFrom n scope.names acc=(z,n)::acc) (hp:∀h:Heap,pushCells h scope.names=h.push { cls:=.type "cell",data:=.cell none })
  (hQ:Q (newEnv scope s.heap.objs.size globals ((z,s.heap.objs.size+1)::closure) qual func code (some outer) builtins) { s with heap:=(s.heap.push { cls:=.type "dict",data:=.dict #[] }).push { cls:=.type "cell",data:=.cell none } }) :
  wpAny M A (newFunctionEnv scope globals closure [] qual func code (some outer) builtins) Q E s:=by
 simp only[newFunctionEnv,Option.isSome_some,if_true]
 refine wpAny_bind (wpAny_alloc ?_)
 refine wpAny_bind (wpAny_layCells _ (λname kind cells=>by cases hkc:kind==NameKind.cell<;>simp [hkc]) _ _ _ _ ?_)
 rw[hc,hp,show({ s with heap:=s.heap.push { cls:=.type "dict",data:=.dict #[] } }:Shared).heap.objs.size=s.heap.objs.size+1 from Bi ..]
 rw[Dc]
 exact wpAny_bind (wpAny_pure (wpAny_pure hQ))
theorem adx_{X:Cx}{elt tg iter:Expr}{ifs:List Expr}{scope:Scope}{pos pos':Pos}{N':List Str}{z:Str}{src:List (Option Nat)}{wi:TI}{g:Bk->TG}{tc:Bk->TT}{te:Bk->TE}(hc:X.calm=true)(hi:PI X tg iter wi)(S:BkScopeC X N' src z scope)
  (hg:∀b,PG (zM_ X N' z scope b) tg (g b)) (ht:∀b,PTs (zM_ X N' z scope b) ifs (tc b)) (he:∀b,PE (zM_ X N' z scope b) elt (te b)) (hs:∀x,foldedSetIterable iter X.env x=pure x) (use:Option (Value->Sem Unit)) (R:Value->Shared->Prop)
  {pins:List (Addr×Obj)} {s:Shared} {σ:St} {H:Hp} {Q:V->Hp->Prop} (I:Inv X pins σ H s) (h:yN_ src wi g tc te σ H Q)
  (fin:∀(D C:Addr)(H5:Hp)(s6:Shared)(m:Str->Option Value),s6.heap.Ns C m->js_ X pins H5 C->(∀h',Heap.SameBut C s6.heap h'->Inv X pins σ H5 { s6 with heap:=h' })->Q (.ref D) H5->compPost (model X.prog X.w) X.A X.xe use R (.ref D) C (.ok .next) s6) :
  wpAny (model X.prog X.w) X.A (comprehension (.ListComp elt [⟨tg,iter,ifs,0⟩] scope pos) scope X.env pos' (newList []) false (eval iter X.env) use) R X.xe s:=by
 have hfr:∀x∈scope.names,x.2=.free->∃c,X.env.cells.lookup x.1=some c:=λx hx hf=>I.ok.has x.1 (S.frees x hx hf)
 have clS:∀x c,(zn_ X.env.cells scope.names []).lookup x=some c->X.env.cells.lookup x=some c:=jM_ hfr (λx c e=>by simp at e)
 refine wpAny_comprehension_free (use:=use) rfl hs (xL_ scope.names hfr []) S.kind S.names ?_
 refine thn (hi pins s σ H _ I h) λv s1 h1=>thn h1 λitv s2 h2=>?_
 obtain⟨it,fp,tn,J,H2,rfl,I2,T,st2,f2,h3⟩:=h2
 have hD:H2 s2.heap.objs.size=none:=I2.fresh
 refine wpAny_newObj_type ?_
 have I3:Inv X pins σ (upd H2 s2.heap.objs.size (.lst [])) { s2 with heap:=s2.heap.push { cls:=.type "list",data:=.seq ([]:List Value).toArray } } :=
  I2.laid (t':=s2.toks) (λb u e=>AB _ e) (AH _) ⟨Ae _,[],0,.nil,AL _ rfl⟩
 have hfp:∀b∈fp,b<s2.heap.objs.size:=λb hb=>by
  obtain⟨o,e,_⟩:=T.obj _ _ st2 b hb
  exact AM e
 have st3:tn 0 (s2.heap.push { cls:=.type "list",data:=.seq ([]:List Value).toArray }):=T.keep _ _ _ st2 λb _ o e=>AB _ e
 generalize hs3:({ s2 with heap:=s2.heap.push { cls:=.type "list",data:=.seq ([]:List Value).toArray } }:Shared)=s3 at I3 ⊢
 have st3':tn 0 s3.heap:=by rw[<-hs3];exact st3
 have hsz3:s3.heap.objs.size=s2.heap.objs.size+1:=by rw[<-hs3];exact Bi ..
 have fp3:∀b∈fp,(upd H2 s2.heap.objs.size (.lst [])) b=none:=λb hb=>by rw[ql_ (Af (hfp b hb))];exact(f2 b hb).1
 generalize hDe:s2.heap.objs.size=D at *
 generalize hH3:upd H2 D (.lst [])=H3 at *
 refine aby_ S.cells S.push ?_
 generalize hh1:(s3.heap.push { cls:=.type "dict",data:=.dict #[] }).push { cls:=.type "cell",data:=.cell none }=h₁
 have hns₁:h₁.Ns s3.heap.objs.size (λ_=>none):=by rw[<-hh1];exact(Heap.Ns.new s3.heap (.type "dict")).keeps λb o e=>AB _ e
 have old:∀b o,s3.heap.get? b=some o->h₁.get? b=some o:=λb o e=>by rw[<-hh1];exact AB _ (AB _ e)
 have hz1:h₁.get? (s3.heap.objs.size+1)=some { cls:=.type "cell",data:=.cell none }:=by
  rw[<-hh1,<-Bi s3.heap { cls:=.type "dict",data:=.dict #[] }];exact AL _ rfl
 have lk:∀x c,((z,s3.heap.objs.size+1)::zn_ X.env.cells scope.names []).lookup x=some c->(x=z/\c=s3.heap.objs.size+1)∨X.env.cells.lookup x=some c:=λx c e=>by
  rw[BA]at e
  cases hy:x==z with
  |true=>rw[hy]at e;exact .inl ⟨by simpa using hy,(AW e).symm⟩
  |false=>rw[hy]at e;exact .inr (clS x c e)
 have low:∀x c,X.env.cells.lookup x=some c->c<s3.heap.objs.size:=λx c e=>by
  obtain⟨v,o,ho,hd⟩:=I3.cell x c e
  exact AM ho
 have Yok:(zM_ X N' z scope ⟨s3.heap.objs.size,s3,H3,fp⟩).Ok:=by
  refine⟨I.ok.mod,S.kind,I.ok.glob,I.ok.blt,AH _,λx y c e1 e2=>?_,λx hx=>?_,λx c q e=>?_,I.ok.hd,I.ok.frames,.inl rfl,λb hb=>⟨?_,λx c e=>?_⟩,I3.bs,?_,λb o e hb=>?_,λb hb z=>?_,I3.stack,I3.stkFree⟩
  ·rcases lk x c e1 with⟨q1,q2⟩|q1<;>rcases lk y c e2 with⟨q3,q4⟩|q3
   ·rw[q1,q3]
   ·exact absurd (low y c q3) (by rw[q2];exact Ef.mpr (B9 _))
   ·exact absurd (low x c q1) (by rw[q4];exact Ef.mpr (B9 _))
   ·exact I.ok.inj x y c q1 q3
  ·have hx':(x,NameKind.free)∈scope.names∨(x,NameKind.cell)∈scope.names:=by
    rcases hx with hx|hx
    ·exact jE_ (env:=X.env) (.inl rfl) hx
    ·exact jE_ (env:=X.env) (.inr rfl) hx
   show ∃c,((z,s3.heap.objs.size+1)::zn_ X.env.cells scope.names []).lookup x=some c
   rw[BA]
   cases hy:x==z with
   |true=>exact⟨_,rfl⟩
   |false =>
    rcases hx' with hx'|hx'
    ·exact jf_ (.inr hx')
    ·have:=S.own _ hx' rfl
     simp at hy
     exact absurd this hy
  ·rcases lk x c e with⟨_,q2⟩|q1
   ·rw[q2];exact B9 _
   ·have q':x=z:=by simpa using q
    have e':((z,s3.heap.objs.size+1)::zn_ X.env.cells scope.names []).lookup x=some c:=e
    rw[q',BA,beq_self_eq_true]at e'
    have e'':s3.heap.objs.size+1=c:=AW e'
    rw[<-e''];exact B9 _
  ·exact Af (AZ (hfp b hb) (by rw[hsz3];exact B9 _))
  ·rcases lk x c e with⟨_,q2⟩|q1
   ·rw[q2];exact CF (AZ (hfp b hb) (by rw[hsz3];exact Ag (B9 _) (B9 _)))
   ·exact(f2 b hb).2.2.2.2.1 x c q1
  ·exact Ag I.ok.bsz I3.sz
  ·rcases (f2 b hb).2.2.2.1 with z|z
   ·exact I.ok.noex b o e z
   ·exact absurd (AZ (AM e) (Ag I.ok.bsz z)) (Bh _)
  ·rcases AN.mp (I3.stkSub b z) with e|e
   ·exact(f2 b hb).2.1 e
   ·exact(f2 b hb).2.2.1 e
 generalize hY:zM_ X N' z scope ⟨s3.heap.objs.size,s3,H3,fp⟩=Y at Yok
 have I4:Inv (zM_ X N' z scope ⟨s3.heap.objs.size,s3,H3,fp⟩) [] (jL_ src σ) H3 { s3 with heap:=h₁ }:=by
  subst hY
  refine⟨Yok,rfl,I3.bare,Un.kept old,⟨_,hns₁,λi x v e1 e2 e3=>?_⟩,λx c e=>?_,I3.fresh,λx c e=>?_,λp hp=>by simp at hp,I3.hok.kept old,?_⟩
  ·unfold jL_ at e2
   rw[Ac]at e2
   cases hsrc:src[i]? with
   |none=>rw[hsrc]at e2;cases e2
   |some o =>
    rw[hsrc]at e2
    cases o with
    |none=>have e2':some (none:Option V)=some (some v):=e2;cases e2'
    |some j =>
     have e2':some ((σ[j]?).bind id)=some (some v):=e2
     have e2'':(σ[j]?).bind id=some v:=AW e2'
     have hσ:σ[j]?=some (some v):=by
      cases q:σ[j]? with
      |none=>rw[q]at e2'';cases e2''
      |some z =>
       rw[q]at e2''
       have:z=some v:=e2''
       rw[this]
     obtain⟨x',n1,n2,n3⟩:=S.out i j hsrc
     have ex:x'=x:=AW (n1.symm.trans e1)
     subst ex
     obtain⟨m0,_,hl⟩:=I3.loc
     have hk:=S.frees (x',.free) (mem_of_lookup n3) rfl
     have hvis:Vis X.env.scope x':=hk.elim (λz=>.inr (.inl z)) λz=>.inr (.inr z)
     obtain⟨u,r,l⟩:=hl j x' v n2 hσ hvis
     refine⟨u,r,.inr ?_⟩
     rcases l with⟨l1,_⟩|⟨_,c,l2,o,l3,l4⟩
     ·rcases hk with z|z
      ·rw[show X.env.kindOf x'=some .local from l1]at z;cases z
      ·rw[show X.env.kindOf x'=some .local from l1]at z;cases z
     ·obtain⟨c',hc'⟩:=jf_ (cells:=X.env.cells) (names:=scope.names) (acc:=[]) (.inr (mem_of_lookup n3))
      have e4:=clS x' c' hc'
      rw[l2]at e4
      cases e4
      have xz:(x'==z)=false:=by
       cases hy:x'==z with
       |false=>rfl
       |true =>
        have q:x'=z:=by simpa using hy
        rw[q,S.isz]at n3
        cases n3
      exact⟨xc_ (env:=X.env) n3,c,by show((z,s3.heap.objs.size+1)::zn_ X.env.cells scope.names []).lookup x'=some c;rw[BA,xz];exact hc',o,old _ _ l3,l4⟩
  ·rcases lk x c e with⟨_,q2⟩|q1
   ·rw[q2];exact⟨none,_,hz1,rfl⟩
   ·obtain⟨v,o,ho,hd⟩:=I3.cell x c q1
    exact⟨v,o,old _ _ ho,hd⟩
  ·rcases lk x c e with⟨_,q2⟩|q1
   ·rw[q2];exact I3.hok.fresh (B9 _)
   ·exact I3.freeC x c q1
  ·show(jL_ src σ).length=N'.length
   unfold jL_
   rw[AA]
   exact S.len
 obtain⟨W,⟨m0,w0⟩,turn⟩:=h3 ⟨s3.heap.objs.size,s3,H3,fp⟩ D hD
 rw[hH3]at w0
 have loop:codeAny (model X.prog X.w) X.A (.compLoop (.ListComp elt [⟨tg,iter,ifs,0⟩] scope pos) 0 (.ref it) (.ref D) (zM_ X N' z scope ⟨s3.heap.objs.size,s3,H3,fp⟩).env)
   (compPost (model X.prog X.w) X.A X.xe use R (.ref D) s3.heap.objs.size) { s3 with heap:=h₁ }:=by
  have stat:∀{H':Hp},(∀b∈fp,H' b=none)->∀b∈fp,js_ (zM_ X N' z scope ⟨s3.heap.objs.size,s3,H3,fp⟩) [] H' b:=λhn b hb =>
   ⟨hn b hb,(I4.ok.exf b hb).1,I4.ok.exfs b hb,.inl hb,(I4.ok.exf b hb).2,λp hp=>by simp at hp⟩
  refine xW_ (λn s'=>∃i σ' H',Inv (zM_ X N' z scope ⟨s3.heap.objs.size,s3,H3,fp⟩) [] σ' H' s'/\tn i s'.heap/\(∀b∈fp,H' b=none)/\W i n σ' H') ?_ m0
   ⟨0,_,H3,I4,T.keep _ _ _ st3' λb _ o e=>old b o e,fp3,w0⟩
  rintro n s5 ⟨i,σ5,H5,I5,st5,fr5,w5⟩
  rcases turn i n σ5 H5 w5 with⟨stop,qn⟩|⟨go,N,hN,step⟩
  ·refine thn (T.done (zM_ X N' z scope ⟨s3.heap.objs.size,s3,H3,fp⟩) rfl rfl rfl hc i [] s5 σ5 H5 _ I5 (stat fr5) st5 stop) λr s6 ⟨hr,I6⟩=>?_
   subst hr
   obtain⟨m,hn,_⟩:=I6.loc
   have hC:H5 s3.heap.objs.size=none:=I6.free
   refine fin D s3.heap.objs.size H5 s6 m hn (I3.fpOk (AH _) hC) (λh' sb=>?_) qn
   have nC:∀b o,s3.heap.get? b=some o->b≠s3.heap.objs.size:=λb o e=>Af (AM e)
   have keep:∀b o,b≠s3.heap.objs.size->s6.heap.get? b=some o->h'.get? b=some o:=λb o hb e=>(sb.2 b hb).trans e
   have hok:HOk X.prog X.w H5 h':=λb u e=>(I6.hok b u e).stay (λc v hc q=>keep c v (by
    rcases hc with z|z
    ·rw[z];intro z2;rw[z2,hC]at e;cases e
    ·intro z2;rw[z2,hC]at z;cases z) q) (λ_ q=>q) λ_ _ q=>q
   have u6:Un (frs X.stack) fp H3 H5 s3.heap s6.heap:=I6.base
   have un:Un (frs X.stack) fp H3 H5 s3.heap h':=⟨λb o e n hb hx=>keep b o (nC b o e) (u6.keep b o e n hb hx),λb o e n hb hx=>by
     obtain⟨sl,q⟩:=u6.slot b o e n hb hx
     exact⟨sl,keep b _ (nC b o e) q⟩,u6.free,λb o e hx=>by
     obtain⟨o',q⟩:=u6.there b o e hx
     exact⟨o',keep b _ (nC b o e) q⟩,u6.tups,u6.frzs,u6.tbls⟩
   refine I3.call' (s':={ s6 with heap:=h' }) (ch:=fp) I6.os un hok I6.bare λb hb=>?_
   exact⟨(f2 b hb).2.2.2.1,(f2 b hb).2.1,(f2 b hb).2.2.2.2.1,(f2 b hb).2.2.2.2.2⟩
  ·refine thn (T.item (zM_ X N' z scope ⟨s3.heap.objs.size,s3,H3,fp⟩) rfl rfl rfl hc i [] s5 σ5 H5 _ I5 (stat fr5) st5 go) λr s6 ⟨u,hr,h6⟩=>?_
   subst hr
   refine thn h6 λ_ s7 ⟨x,H7,I7,r7,y7,st7,fr7⟩=>?_
   have I7':=I7.pinned (stat fr7) (T.obj _ _ st7)
   have again:∀{σ9:St}{H9:Hp}{s9:Shared},Inv (zM_ X N' z scope ⟨s3.heap.objs.size,s3,H3,fp⟩) ([]++xr_ fp s7.heap) σ9 H9 s9->N σ9 H9->∃m,m<n/\∃i σ' H',Inv (zM_ X N' z scope ⟨s3.heap.objs.size,s3,H3,fp⟩) [] σ' H' s9/\tn i s9.heap/\(∀b∈fp,H' b=none)/\W i m σ' H':=λ{σ9 H9 s9} I9 n9=>by
    obtain⟨m',hm,w9⟩:=hN σ9 H9 n9
    refine⟨m',hm,i+1,σ9,H9,I9.unpinned,T.keep _ _ _ st7 λb hb o e=>(I9.pin (b,o) (Ai _ (Ai _ (zV_ hb e)))).1,λb hb=>?_,w9⟩
    obtain⟨o,e,d⟩:=T.obj _ _ st7 b hb
    exact(I9.pin (b,o) (Ai _ (Ai _ (zV_ hb e)))).2.1
   refine thn (hg _ _ s7 σ5 H7 x u _ I7' r7 (step x H7 y7)) λ_ s8 ⟨σ8,H8,I8,q8⟩=>?_
   refine thn (ht _ _ s8 σ8 H8 _ I8 q8) λok s9 ⟨H9,I9,q9⟩=>?_
   cases ok with
   |false=>exact again I9 q9
   |true =>
    refine thn (he _ _ s9 σ8 H9 _ I9 q9) λyv s10 ⟨y,H10,I10,r10,ys,e10,l10,n10⟩=>?_
    refine thn (z9_ _ s10 σ8 H10 (.ref D) [y] (.ref D) [yv] (λ_ H11=>N σ8 H11) I10 rfl (.cons r10 .nil) ⟨D,ys,y,rfl,rfl,e10,l10,n10⟩) λ_ s11 ⟨_,H11,I11,_,n11⟩=>again I11 n11
 have self:=T.self X.A 0 { s3 with heap:=h₁ } (λit' s'=>codeAny (model X.prog X.w) X.A (.compLoop (.ListComp elt [⟨tg,iter,ifs,0⟩] scope pos) 0 it' (.ref D) (zM_ X N' z scope ⟨s3.heap.objs.size,s3,H3,fp⟩).env)
   (compPost (model X.prog X.w) X.A X.xe use R (.ref D) s3.heap.objs.size) s') (notedBy (model X.prog X.w) X.A (zM_ X N' z scope ⟨s3.heap.objs.size,s3,H3,fp⟩).env λx s'=>compPost (model X.prog X.w) X.A X.xe use R (.ref D) s3.heap.objs.size (.error x) s')
   (T.keep _ _ _ st3' λb _ o e=>old b o e) loop
 exact codeAny_compStart_list loop self
theorem aat_{X:Cx}{elt tg iter:Expr}{ifs:List Expr}{scope:Scope}{pos:Pos}{N':List Str}{z:Str}{src:List (Option Nat)}{wi:TI}{g:Bk->TG}{tc:Bk->TT}{te:Bk->TE}(hc:X.calm=true)(hi:PI X tg iter wi)(S:BkScopeC X N' src z scope)
  (hg:∀b,PG (zM_ X N' z scope b) tg (g b)) (ht:∀b,PTs (zM_ X N' z scope b) ifs (tc b)) (he:∀b,PE (zM_ X N' z scope b) elt (te b)) (hs:∀x,foldedSetIterable iter X.env x=pure x:=by intro _;rfl) :
  PE X (.ListComp elt [⟨tg,iter,ifs,0⟩] scope pos) (yN_ src wi g tc te):=by
 intro pins s σ H Q I h
 rw[eval_ListComp]
 exact adx_ hc hi S hg ht he hs none (EP X pins σ Q) I h λD C H5 s6 m hn _ k q=>⟨m,hn,λh' sb=>⟨.ref D,H5,k h' sb,rfl,q⟩⟩
def ac5_(sc scope:Scope)(N N':List Str)(src:List (Option Nat))(z:Str):Bool :=
 decide (scope.kind=.function)&&scope.names.all (λy=>!decide (y.2=NameKind.cell)||decide (y.1=z))&&decide (scope.names.lookup z=some NameKind.cell)&&scope.names.all (λy=>!decide (y.2=NameKind.local)||decide (scope.names.lookup y.1=some NameKind.local)) &&
 scope.names.all (λy=>!decide (y.2=NameKind.free)||(decide (sc.names.lookup y.1=some NameKind.cell)||decide (sc.names.lookup y.1=some NameKind.free)))&&decide (src.length=N'.length) &&
 (List.range src.length).all λi=>v6_ scope N N' (src.getD i none) i
theorem aey_{X:Cx}{N':List Str}{src:List (Option Nat)}{scope:Scope}{z:Str}(sc:Scope)(N:List Str)(h:ac5_ sc scope N N' src z=true)(hc:∀n acc,cellsFrom n scope.names acc=(z,n)::acc)(hp:∀h:Heap,pushCells h scope.names=h.push { cls:=.type "cell",data:=.cell none })
  (e1:X.env.scope=sc:=by rfl) (e2:X.N=N:=by rfl):BkScopeC X N' src z scope:=by
 subst e1 e2
 unfold ac5_ at h
 simp only[AG,decide_eq_true_eq,AI,CK,Dt,decide_eq_false_iff_not]at h
 obtain⟨⟨⟨⟨⟨⟨h1,h2⟩,h0⟩,h3⟩,h4⟩,h5⟩,h6⟩:=h
 refine⟨h1,hc,hp,λy hy e=>(h2 y hy).resolve_left λq=>q e,h0,λy hy e=>(h3 y hy).resolve_left λz=>z e,λy hy e=>(h4 y hy).resolve_left λz=>z e,h5,λi j e=>?_⟩
 obtain⟨hi,ei⟩:=AR.mp e
 have q:=h6 i (Ad.mpr hi)
 rw[AF,e]at q
 unfold v6_ at q
 simp only[D5]at q
 cases c:N'[i]? with
 |none=>rw[c]at q;cases q
 |some x =>
  rw[c]at q
  simp only[AG,decide_eq_true_eq]at q
  exact⟨x,rfl,q.1,q.2⟩
end L2.Ev
namespace L2.Rw
open PySem PySem.W PySem.Calls PyProof.Rows PySem.Spec
end L2.Rw
namespace L2.Ev
open PySem PySem.Spec PyProof.Rows
open L2.Ts L2.Pl L2.Rw
end L2.Ev
namespace L2.Rw
open PySem PySem.W PySem.Calls PyProof.Rows PySem.Spec
open PySem.SeqAt
open PySem.AutoSeq1 (wpAny_loadPart')
open PySem.MeetsSeq PySem.MeetsSeq2 PySem.MeetsSeq3
end L2.Rw
namespace L2.Ev
open PySem PySem.Spec PyProof.Rows
open L2.Ts L2.Pl L2.Rw
end L2.Ev
namespace L2.Ev
open PySem PySem.Spec PyProof.Rows
open L2.Pl
section
variable{X:Cx}
theorem ah4_{t:Addr}{vs:List Value}{ns:List Int}{s:Shared}{prog:Program}{w:World}{A:Around}{E:Value->Shared->Prop}{Q:Value->Shared->Prop}(hh:A.handled=none)(hl:s.heap.IsTuple t vs.toArray)(hi:IntsAre vs ns)(hne:ns≠[])
  (h:∀h' tk M t',(∀b o,s.heap.get? b=some o->h'.get? b=some o)->M∈ns->(∀a∈ns,a<=M)->Q (.int M t') { s with heap:=h',toks:=tk }) :
  wpAny (model prog w) A (call (.builtin "max") [.ref t]) Q E s:=by
 obtain⟨xs,hx⟩:=hi.allInts.items
 have hn:numsOf vs.toArray.toList=ns:=by rw[show vs.toArray.toList=vs from rfl,hi.numsOf]
 rw[hx]at hl hn
 rw[nums_intItems]at hn
 have hsz:0<xs.size:=by
  rw[<-hn]at hne
  rcases Nat.eq_zero_or_pos xs.size with z|z
  ·exact absurd (by rw[List.map_eq_nil_iff,Array.toList_eq_nil_iff,<-Array.size_eq_zero_iff];exact z) hne
  ·exact z
 obtain⟨o,ho,_⟩:=id hl
 have hne':t≠s.heap.objs.size:=Af (AM ho)
 refine call_max_walk (wpAny_pyIter_tuple hl ?_)
 refine⟨s.heap.objs.size,_,_,_,_,_,_,rfl,Walks.tuple (A:=A.in1) hh s.heap.objs.size t hne' (intItems xs),⟨⟨_,AL _ rfl,rfl,rfl⟩,hl.at λo e=>AB _ e⟩,λb hb=>?_,by simpa [intItems]using hsz,CmpOf.ints_gt (numAt xs) (λ_ _=>intItems_at),λv h' tk hP hk=>?_⟩
 ·rcases AN.mp hb with rfl|hb
  ·exact AM (AL _ rfl)
  ·obtain rfl:=Am.mp hb
   exact AM (AB _ ho)
 ·have hP:(intItems xs)[argBest (λi j=>decide (numAt xs i>numAt xs j)) (xs.size-1)]?=some v:=by simpa [intItems]using hP
  obtain⟨t',rfl⟩:=intItems_at hP
  obtain⟨h1,h2⟩:=argBest_gt (numAt xs) (xs.size-1)
  refine h h' tk _ t' (λb o e=>hk b o (λhb=>absurd (AM e) ((Am.mp hb)▸Bh _)) (AB _ e)) ?_ λa ha=>?_
  ·rw[<-hn,numAt_eq];exact getD_mem (by rw[AA,AO];omega)
  ·rw[<-hn]at ha
   obtain⟨j,hj,rfl⟩:=mem_getD ha
   rw[AA,AO]at hj
   rw[<-numAt_eq];exact h2 j (by omega)
theorem aef_(hc:X.calm=true):CallR X (.builtin "max") (λxs H Q=>∃(p:Addr)(ns:List Int),xs=[.ref p]/\SqT X.K H p (ns.map V.int)/\ns≠[]/\∀M,M∈ns->(∀a∈ns,a<=M)->Q (.int M) H):=by
 intro pins s σ H xs us Q I r h
 obtain⟨p,ns,rfl,hq,hne,q⟩:=h
 obtain⟨u,rfl,ru⟩:=jn_ r
 cases ru
 obtain⟨its,rv,ht,_⟩:=I.tuple hq
 exact ah4_ (I.ok.hd hc) (show s.heap.IsTuple p its.toArray from ht) (q1_ rv) hne λh' tk M t' hk m1 m2=>⟨.int M,H,I.kept (t':=tk) hk,⟨t',rfl⟩,q M m1 m2⟩
theorem anw_:SlR X (λx lo hi H Q=>∃(a:Addr)(r:List Int),x=.ref a/\lo=some (-1)/\hi=none/\H a=some (.tup (r.map V.int))/\∀(p:Addr)(H':Hp),Same H H'->H' p=some (.tup ((r.drop (r.length-1)).map V.int))->Q (.ref p) H'):=by
 intro pins s σ H x v vl vu lo hi sl Q I rx hs pl pu h
 obtain⟨a,r,rfl,rfl,rfl,ha,q⟩:=h
 have e:HT.sIx (r.map V.int).length 0 (some (-1))=r.length-1:=by
  rw[AA]
  show(if (-1:Int)<0 then ((-1:Int)+(r.length:Int)).toNat else min (-1:Int).toNat r.length)=_
  rw[if_pos (by decide)]
  omega
 by_cases c:r.length-1=0
 ·exact yl_ pins s σ H _ v vl vu _ _ sl Q I rx hs pl pu ⟨a,_,rfl,SqT.of ha,by rw[e];exact c,HT.sIx_none _ _,q a H (λ_ _ e=>e) (by rw[c];exact ha)⟩
 ·refine y7_ pins s σ H _ v vl vu _ _ sl Q I rx hs pl pu ⟨a,_,rfl,SqT.of ha,λz=>?_,λp hp=>?_⟩
  ·have z1:=z.1
   rw[e]at z1
   exact c z1
  ·refine q p _ (qd_ hp _) ?_
   rw[qc_]
   unfold jx_
   rw[e,HT.sIx_none,Aj (by rw[Bf];omega),List.map_drop]
theorem ad5_{its:List Value}{r:List Int}{n:Int}(h:IntsAre its r):its.countP (λy=>match y with|.int x _=>x==n|_=>false)=r.count n:=by
 induction h with
 |nil=>rfl
 |cons x t _ ih=>rw[List.countP_cons,List.count_cons,ih]
theorem ajh_{A:Around}{s:Shared}{its:List Value}{r:List Int}{n:Int}{t:Tok}(h:IntsAre its r):∀y,y∈its.toArray->SeqAt.EqAt A s y (.int n t) (match y with|.int x _=>x==n|_=>false):=by
 have key:∀y∈its,SeqAt.EqAt A s y (.int n t) (match y with|.int x _=>x==n|_=>false):=by
  induction h with
  |nil=>intro y hy;cases hy
  |cons x tk _ ih =>
   intro y hy
   rcases AN.mp hy with e|hy
   ·subst e;exact Df _ _ _ _
   ·exact ih y hy
 exact λy hy=>key y (by simpa using hy)
def aoh_(to:TE)(t:TA):TE:=λσ H Q=>to σ H λx H1=>∃(p:Addr)(r:List Int),x=.ref p/\H1 p=some (.tup (r.map V.int))/\t σ H1 λvs H2=>∃n:Int,vs=[.int n]/\H2 p=some (.tup (r.map V.int))/\Q (.int (r.count n:Nat)) H2
theorem akf_{o e:Expr}{to:TE}{t:TA}{apos cpos:Pos}(ho:PE X o to)(he:PA X [e] t)
  (hbase:attributeBase o "count" X.env (eval o X.env)=eval o X.env:=by rfl)
  (hfew:((backTo cpos (starEach [e] X.env)).all (λx=>!x.1)&&(backToKw cpos (keywordEach [] X.env)).all (λx=>x.1.isSome)
   && decide ([e].length+([]:List Keyword).length+(if ([]:List Keyword).isEmpty then 0 else 1)<30))=true:=by rfl)
  (hline:(apos.endLine==cpos.line)=true:=by rfl) (hs:starEach [e] X.env=(false,eval e X.env)::starEach [] X.env:=by rfl) (hplain:(backTo cpos (starEach [] X.env)).any (·.1)=false:=by rfl) :
  PE X (.Call (.Attribute o "count" apos) [e] [] cpos) (aoh_ to t):=by
 intro pins s σ H Q I h
 refine wpAny_Call_method_late hbase hfew hline rfl (thn (ho pins s σ H _ I h) λv s1 ⟨x,H1,I1,r1,p,r,e1,hp,q1⟩=>?_)
 subst e1
 cases r1
 obtain⟨_,its,rv,o1,g1,c1,n1,d1,dn⟩:=(show ObjOk X.prog X.w H1 s1.heap p (.tup (r.map V.int)) from I1.hok p _ hp)
 refine⟨"tuple", "tuple.count",PySem.F.plainAttrs_tuple,D6,PySem.F.type_tuple_count,⟨o1,g1,c1⟩,λb eb=>?_,?_⟩
 ·cases eb
  exact⟨o1,g1,dn⟩
 have hA:=he cpos pins s1 σ H1 _ I1 q1
 rw[hs]at hA ⊢
 refine Cf (by show(false||(backTo cpos (starEach [] X.env)).any (·.1))=false;rw[hplain]<;>rfl) (Cn ?_)
 refine thn hA λus s2 ⟨vs,H2,I2,r2,n,e2,hp2,q2⟩=>?_
 subst e2
 obtain⟨u,rfl,ru⟩:=jn_ r2
 obtain⟨tk,rfl⟩:=ru
 obtain⟨_,its2,rv2,o2,g2,c2,n2,d2,dn2⟩:=(show ObjOk X.prog X.w H2 s2.heap p (.tup (r.map V.int)) from I2.hok p _ hp2)
 have ii:IntsAre its2 r:=q1_ rv2
 obtain⟨cls,dd,data,sl⟩:=o2
 simp only at c2 d2 dn2
 subst c2 d2 dn2
 refine call_meets D6 ⟨_,g2,rfl⟩ PySem.F.entry_tuple_count (PySem.F.args_tuple_count_2 _ _) (SeqAt.tuple_countAt p its2.toArray n2 none sl (.int n tk) _) ⟨g2,ajh_ ii,?_⟩
 exact⟨.int (r.count n:Nat),H2,I2.tok _,⟨s2.toks,by rw[<-ad5_ ii]⟩,q2⟩
end
end L2.Ev
namespace L2.Ev
open PySem PySem.Spec PyProof.Rows
open L2.Ts L2.Pl L2.Rw
section
variable{X:Cx}
theorem abn_:∀{a b:List Int},a.Perm b->(a.Pairwise λx y=>y<=x)->(b.Pairwise λx y=>y<=x)->a=b
 |[],b,h,_,_=>(List.nil_perm.mp h).symm
 |x::a,[],h,_,_=>absurd h.symm (by simp)
 |x::a,y::b,h,ha,hb=>by
  obtain⟨a1,a2⟩:=Ab.mp ha
  obtain⟨b1,b2⟩:=Ab.mp hb
  have e:x=y:=by
   have h1:x∈y::b:=h.mem_iff.mp (AD ..)
   have h2:y∈x::a:=h.mem_iff.mpr (AD ..)
   rcases AN.mp h1 with e|m1
   ·exact e
   ·rcases AN.mp h2 with e|m2
    ·exact e.symm
    ·have:=b1 x m1
     have:=a1 y m2
     omega
  subst e
  rw[abn_ (List.perm_cons x |>.mp h) a2 b2]
def vx_(x:Int):List Int->List Int
 |[]=>[x]
 |y::l=>if y<=x then x::y::l else y::vx_ x l
def dsc(l:List Int):List Int:=l.foldr vx_ []
theorem xO_(x:Int):∀l,(vx_ x l).Perm (x::l)
 |[]=>.refl _
 |y::l=>by
  unfold vx_
  split
  ·exact .refl _
  ·exact((xO_ x l).cons y).trans (.swap ..)
theorem yQ_(x:Int):∀{l:List Int},(l.Pairwise λa b=>b<=a)->((vx_ x l).Pairwise λa b=>b<=a)
 |[],_=>C9 _ _
 |y::l,h=>by
  obtain⟨h1,h2⟩:=Ab.mp h
  unfold vx_
  split
  ·rename_i c
   exact Ab.mpr ⟨λz hz=>(AN.mp hz).elim (λe=>e▸c) λm=>by have:=h1 z m;omega,h⟩
  ·rename_i c
   refine Ab.mpr ⟨λz hz=>?_,yQ_ x h2⟩
   rcases AN.mp ((xO_ x l).mem_iff.mp hz) with e|m
   ·omega
   ·exact h1 z m
theorem abd_:∀l,(dsc l).Perm l
 |[]=>.refl _
 |x::l=>(xO_ x (dsc l)).trans ((abd_ l).cons x)
theorem xT_:∀l,(dsc l).Pairwise λa b=>b<=a
 |[]=>.nil
 |x::l=>yQ_ x (xT_ l)
theorem akt_{a l:List Int}(h:a.Perm l)(f:a.Pairwise λx y=>y<=x):a=dsc l:=abn_ (h.trans (abd_ l).symm) f (xT_ l)
end
end L2.Ev
set_option maxHeartbeats 4000000
namespace L2.Ev
open PySem PySem.Spec PyProof.Rows L2 L2.Pl
end L2.Ev
set_option maxHeartbeats 4000000
namespace L2.Ev
open PySem PySem.Spec PyProof.Rows
open L2.Ts L2.Pl L2.Rw
end L2.Ev
namespace L2.Ev
open L2.Pl
def jp_(a:Int)(n:Nat):List Int:=(List.range ((n:Int)-a).toNat).map λ(i:Nat)=>a+(i:Int)
def mxl(line:List Int)(least:Int):Int:=match line.getLast? with
 |some x=>if x<least then least else x
 |none=>least
def jr_(n:Nat)(least:Int)(line:List Int):List (List Int):=(jp_ (mxl line least) n).map λk=>line++[k]
def yb_(n:Nat)(found:List (List Int))(least:Int):List (List Int):=found.flatMap (jr_ n least)
def lf(n:Nat)(ls:List Int):List (List Int):=ls.foldl (yb_ n) [[]]
def lfn(r:List Int)(lines:List (List Int)):List Int:=match lines.getLast? with
 |none=>List.replicate (r.getD 0 0).toNat 0
 |some l=>(l.map (· + 1)).take (r.getD lines.length 0).toNat
def yv_(n:Nat)(r:List Int)(lines:List (List Int)):List (List (List Int)):=(lf n (lfn r lines)).map λl=>lines++[l]
def wnl(n:Nat)(r:List Int)(fs:List (List (List Int))):List (List (List Int)):=fs.flatMap (yv_ n r)
def zZ_(n:Nat)(r:List Int):Nat->List (List (List Int))
 |0=>[[]]
 |j+1=>wnl n r (zZ_ n r j)
def fil(n:Nat)(r:List Int):List (List (List Int)):=zZ_ n r r.length
def pwf(n:Nat)(f:List (List Int)):List Int:=(List.range n).map λ(k:Nat)=>((f.map λl=>((l.count (k:Int):Nat):Int)).sum)
def qx_(n:Nat)(r:List Int):List Mon:=(fil n r).map λf=>(pwf n f,1)
def ao0_(i:Int)(t:Mon):List Mon:=(List.range (t.1.length+1)).map λ(k:Nat)=>(t.1.take k++[i]++t.1.drop k,t.2*(1-2*(((t.1.length:Int)-(k:Int))%2)))
def sgo:Nat->List Mon
 |0=>[([],1)]
 |n+1=>(sgo n).flatMap (ao0_ (n:Int))
def ph(n:Nat)(r:List Int):List Int:=(List.range n).map λ(k:Nat)=>r.getD k 0+(n:Int)-1-(k:Int)
def qI_(n:Nat)(r:List Int):List Mon:=(sgo n).map λt=>(t.1.map λk=>(ph n r).getD k.toNat 0,t.2)
theorem abb_(line:List Int)(least:Int):least<=mxl line least:=by
 unfold mxl
 split
 ·split<;>lia
 ·exact CC _
theorem ah9_{a:Int}{n:Nat}(h:0<=a):(jp_ a n).length<=n:=by
 unfold jp_
 rw[AA,Bt]
 lia
theorem aay_{n:Nat}{least:Int}(h:0<=least)(line:List Int):(jr_ n least line).length<=n:=by
 unfold jr_
 rw[AA]
 exact ah9_ (Int.le_trans h (abb_ _ _))
theorem yL_{α β:Type}(g:α->List β)(B:Nat):∀l:List α,(∀x∈l,(g x).length<=B)->(l.flatMap g).length<=l.length*B
 |[],_=>by simp
 |x::l,h=>by
  have h1:=h x (AD ..)
  have h2:=yL_ g B l λy hy=>h y (AC _ hy)
  rw[Ay,AK,AY,C3]
  lia
theorem vD_{α β:Type}(g:α->List β)(l:List α)(i:Nat):((l.take i).flatMap g).length<=(l.flatMap g).length:=by
 have e:l.flatMap g=(l.take i).flatMap g++(l.drop i).flatMap g:=by rw[<-CZ,Ba]
 rw[e,AK]
 lia
theorem vy_(n:Nat)(ls:List Int)(x:Int):lf n (ls++[x])=yb_ n (lf n ls) x:=by
 unfold lf
 rw[Ds]
 rfl
theorem abc_{n:Nat}(hn:n<=4):∀{m:Nat}{ls:List Int},ls.length=m->(∀x∈ls,0<=x)->(lf n ls).length<=4^m
 |0,ls,h,_=>by
  rw[BD.mp h]
  exact AH _
 |m+1,ls,h,nn=>by
  have ne:ls≠[]:=by intro z;rw[z]at h;simp at h
  obtain⟨as,x,e⟩:∃as x,ls=as++[x]:=⟨_,_,(BN ne).symm⟩
  subst e
  rw[AK,BZ]at h
  have ih:=abc_ hn (m:=m) (ls:=as) (by lia) λy hy=>nn y (Az _ hy)
  rw[vy_]
  have:=yL_ (jr_ n x) 4 (lf n as) λy _=>Ag (aay_ (nn x (by simp)) y) hn
  rw[Nat.pow_succ]
  unfold yb_
  lia
theorem adk_{n:Nat}{ls:List Int}(nn:∀x∈ls,0<=x):∀l∈lf n ls,l.length=ls.length/\∀x∈l,0<=x/\x<(n:Int):=by
 have key:∀m (ls:List Int),ls.length=m->(∀x∈ls,0<=x)->∀l∈lf n ls,l.length=ls.length/\∀x∈l,0<=x/\x<(n:Int):=by
  intro m
  induction m with
  |zero =>
   intro ls h _ l hl
   rw[BD.mp h]at hl ⊢
   have e:l=[]:=by simpa [lf]using hl
   rw[e]
   exact⟨rfl,λx hx=>by cases hx⟩
  |succ m ih =>
   intro ls h nn l hl
   have ne:ls≠[]:=by intro z;rw[z]at h;simp at h
   obtain⟨as,x,e⟩:∃as x,ls=as++[x]:=⟨_,_,(BN ne).symm⟩
   subst e
   rw[AK,BZ]at h
   rw[vy_]at hl
   unfold yb_ at hl
   obtain⟨y,hy,hl⟩:=BB.mp hl
   obtain⟨i1,i2⟩:=ih as (by lia) (λy hy=>nn y (Az _ hy)) y hy
   unfold jr_ jp_ at hl
   obtain⟨k,hk,rfl⟩:=AV.mp hl
   obtain⟨j,hj,rfl⟩:=AV.mp hk
   have hj:=Ad.mp hj
   refine⟨by simp [i1],λz hz=>?_⟩
   rcases Ap.mp hz with hz|hz
   ·exact i2 z hz
   ·have:=abb_ y x
    have:=nn x (by simp)
    rw[Am.mp hz]
    lia
 exact key ls.length ls rfl nn
def LOk(l:List Int):Prop:=l.length<=8/\∀x∈l,0<=x/\x<=4
def FOk(r:List Int)(j:Nat)(fs:List (List (List Int))):Prop:=∀lines∈fs,lines.length=j/\∀l∈lines,LOk l
theorem ano_{r:List Int}(h8:∀x∈r,0<=x/\x<=8){lines:List (List Int)}(hl:∀l∈lines,LOk l):(lfn r lines).length<=8/\∀x∈lfn r lines,0<=x/\x<=1000:=by
 have g8:∀k,(r.getD k 0).toNat<=8:=λk=>by
  rw[AF]
  cases e:r[k]? with
  |none=>decide
  |some x =>
   have:=h8 x (Ah e)
   simp
   lia
 unfold lfn
 cases e:lines.getLast? with
 |none=>exact⟨by simpa using g8 0,λx hx=>by have:=(Dj.mp hx).2;lia⟩
 |some l =>
  have hm:=DU e
  refine⟨by rw[An];have:=g8 lines.length;lia,λx hx=>?_⟩
  obtain⟨y,hy,rfl⟩:=AV.mp (BF hx)
  have:=(hl l hm).2 y hy
  lia
theorem yj_{n:Nat}{r:List Int}(hn:n<=4)(h8:∀x∈r,0<=x/\x<=8):∀j,FOk r j (zZ_ n r j)
 |0=>λlines hl=>by
  have e:lines=[]:=by simpa [zZ_]using hl
  rw[e]
  exact⟨rfl,λl hl=>by cases hl⟩
 |j+1=>λlines hl=>by
  have ih:=yj_ hn h8 j
  unfold zZ_ wnl at hl
  obtain⟨fs,hf,hl⟩:=BB.mp hl
  obtain⟨a1,a2⟩:=ih fs hf
  unfold yv_ at hl
  obtain⟨l,hll,rfl⟩:=AV.mp hl
  obtain⟨b1,b2⟩:=ano_ h8 a2
  obtain⟨c1,c2⟩:=adk_ (λx hx=>(b2 x hx).1) l hll
  refine⟨by simp [a1],λz hz=>?_⟩
  rcases Ap.mp hz with hz|hz
  ·exact a2 z hz
  ·rw[Am.mp hz]
   exact⟨by lia,λx hx=>by have:=c2 x hx;lia⟩
theorem aj7_(n:Nat)(f:List (List Int)):(pwf n f).length=n:=by unfold pwf;rw[AA,Bt]
def gen:Nat->Nat->Nat->List (List Int)
 |0,_,_=>[[]]
 |k+1,top,w=>[]::(List.range top).flatMap λi=>if i+1<=w then (gen k (i+1) (w-(i+1))).map (λr=>((i:Int)+1)::r) else []
theorem acn_:∀(k top w:Nat)(r:List Int),r.length<=k->(∀x∈r,1<=x/\x<=(top:Int))->(r.Pairwise λa b=>b<=a)->r.sum<=(w:Int)->r∈gen k top w
 |0,_,_,r,h,_,_,_=>by
  rw[BD.mp (Nat.le_zero.mp h)]
  exact Am.mpr rfl
 |k+1,top,w,[],_,_,_,_=>AD ..
 |k+1,top,w,x::r,h,hx,hp,hs=>by
  obtain⟨x1,x2⟩:=hx x (AD ..)
  obtain⟨i,rfl⟩:∃i:Nat,x=(i:Int)+1:=⟨(x-1).toNat,by lia⟩
  obtain⟨p1,p2⟩:=Ab.mp hp
  have pos:∀l:List Int,(∀y∈l,1<=y)->0<=l.sum:=by
   intro l
   induction l with
   |nil=>intro _;exact CC _
   |cons y l ih =>
    intro hy
    have:=hy y (AD ..)
    have:=ih λz hz=>hy z (AC _ hz)
    rw[Aq]
    lia
  have r0:=pos r λy hy=>(hx y (AC _ hy)).1
  rw[Aq]at hs
  have iw:i+1<=w:=by lia
  refine AC _ (BB.mpr ⟨i,Ad.mpr (by lia),?_⟩)
  rw[if_pos iw]
  refine AV.mpr ⟨r,acn_ k (i+1) (w-(i+1)) r (by simp at h;lia) (λy hy=>⟨(hx y (AC _ hy)).1,by have:=p1 y hy;lia⟩) p2 (by lia),rfl⟩
def code(p:List Int):Nat:=p.foldl (λa x=>16*a+x.toNat) 0
def ji_:Nat->List (Nat×Int)->List (Nat×Int)->List (Nat×Int)
 |0,a,b=>a++b
 |_,[],b=>b
 |_,a,[]=>a
 |f+1,(k,x)::a,(l,y)::b=>if k<l then (l,y)::ji_ f ((k,x)::a) b else if l<k then (k,x)::ji_ f a ((l,y)::b) else if x+y=0 then ji_ f a b else (k,x+y)::ji_ f a b
def smK(h:Nat->Int):List (Nat×Int)->Int
 |[]=>0
 |t::l=>t.2*h t.1+smK h l
theorem ab8_(h:Nat->Int):∀a b,smK h (a++b)=smK h a+smK h b
 |[],b=>by simp [smK]
 |t::a,b=>by simp only[DG,smK,ab8_ h a b];lia
theorem j8_(h:Nat->Int):∀f a b,smK h (ji_ f a b)=smK h a+smK h b
 |0,a,b=>by unfold ji_;exact ab8_ h a b
 |f+1,[],b=>by simp [ji_,smK]
 |f+1,t::a,[]=>by simp [ji_,smK]
 |f+1,(k,x)::a,(l,y)::b=>by
  unfold ji_
  split
  ·have:=j8_ h f ((k,x)::a) b
   simp only[smK]at this ⊢
   lia
  ·split
   ·have:=j8_ h f a ((l,y)::b)
    simp only[smK]at this ⊢
    lia
   ·have e:k=l:=by lia
    subst e
    have:=j8_ h f a b
    split
    ·rename_i z
     have z2:x*h k+y*h k=0:=by rw[<-DD,z,Int.zero_mul]
     simp only[smK]at this ⊢
     lia
    ·simp only[smK,DD]at this ⊢
     lia
def KF(n:Nat)(r:List Int):List (Nat×Int):=(fil n r).foldl (λacc f=>ji_ (acc.length+1) acc [(code (pwf n f),1)]) []
def mulK(kf:List (Nat×Int))(A:List Mon):List (Nat×Int):=A.foldl (λacc t=>ji_ (acc.length+kf.length+1) acc (kf.map λu=>(u.1+code t.1,u.2*t.2))) []
def sumK(A:List Mon):List (Nat×Int):=A.foldl (λacc t=>ji_ (acc.length+1) acc [(code t.1,t.2)]) []
def jR_(n b:Nat)(p:List Int):Bool:=p.length==n&&p.all λx=>decide (0<=x)&&decide (x<=(b:Int))
def chk(n:Nat)(r:List Int):Bool:=((fil n r).all λf=>jR_ n 11 (pwf n f))&&((qI_ n []).all λt=>jR_ n 4 t.1)&&((qI_ n r).all λt=>jR_ n 15 t.1)&&mulK (KF n r) (qI_ n [])==sumK (qI_ n r)
def xD_(n:Nat)(r:List Int):Bool:=decide ((fil n r).length<=1000)&&(if r.length<=n then chk n r else (fil n r).isEmpty)
end L2.Ev
namespace L2.Ev
open PySem PySem.Spec PyProof.Rows
open L2.Pl
namespace RF
theorem yJ_:Manifest.owners.lookup (String.ofList ['d','e','s','r','e','v','e','r'].reverse)=some Manifest.sig_reversed:=by kernel_rfl
theorem slot_next:Slot "reversed" "__next__" "reversed.__next__" :=
 .of (owner := "reversed") (n := "__next__") (by rw[typeLookup_type,builtinLookup_eq_fast];kernel_rfl) (by decide +kernel) (by decide +kernel) (by decide +kernel)
  (by first|exact .inl (by decide +kernel)|exact .inr (by decide +kernel)) (by rw[isSubtype_type];kernel_rfl)
theorem entry_next:entryFor table "reversed.__next__" = some Builtin.«reversed.__next__»:=entryFor_of_tree (by kernel_rfl)
theorem args_next(a:Value):argsOk "reversed.__next__" ⟨[a],[]⟩:=by
 unfold argsOk;rw[signature?_of (id := "reversed.__next__") (n:=['_','_','t','x','e','n','_','_']) (o:=['d','e','s','r','e','v','e','r']) (by kernel_rfl) yJ_];kernel_rfl
theorem slot_iter:Slot "reversed" "__iter__" "reversed.__iter__" :=
 .of (owner := "reversed") (n := "__iter__") (by rw[typeLookup_type,builtinLookup_eq_fast];kernel_rfl) (by decide +kernel) (by decide +kernel) (by decide +kernel)
  (by first|exact .inl (by decide +kernel)|exact .inr (by decide +kernel)) (by rw[isSubtype_type];kernel_rfl)
theorem args_iter(a:Value):argsOk "reversed.__iter__" ⟨[a],[]⟩:=by
 unfold argsOk;rw[signature?_of (id := "reversed.__iter__") (n:=['_','_','r','e','t','i','_','_']) (o:=['d','e','s','r','e','v','e','r']) (by kernel_rfl) yJ_];kernel_rfl
theorem entry_iter:entryFor table "reversed.__iter__" = some Builtin.«dict_keyiterator.__iter__» :=
 entryFor_alias (id' := "dict_keyiterator.__iter__") (by kernel_rfl) (by first|rfl|decide +kernel|(unfold String.splitOn;simp +decide [String.splitOnAux])) (by decide +kernel) (by kernel_rfl)
theorem slot_hint:Slot "reversed" "__length_hint__" "reversed.__length_hint__" :=
 .of (owner := "reversed") (n := "__length_hint__") (by rw[typeLookup_type,builtinLookup_eq_fast];kernel_rfl) (by decide +kernel) (by decide +kernel) (by decide +kernel)
  (by first|exact .inl (by decide +kernel)|exact .inr (by decide +kernel)) (by rw[isSubtype_type];kernel_rfl)
theorem args_hint(a:Value):argsOk "reversed.__length_hint__" ⟨[a],[]⟩:=by
 unfold argsOk;rw[signature?_of (id := "reversed.__length_hint__") (n := "__length_hint__".toList.reverse) (o:=['d','e','s','r','e','v','e','r']) (by kernel_rfl) yJ_];kernel_rfl
theorem entry_hint:entryFor table "reversed.__length_hint__" = some Builtin.«reversed.__length_hint__»:=entryFor_of_tree (by kernel_rfl)
theorem aft_:Slot "reversed" "__init__" "object.__init__" :=
 .of (owner := "object") (n := "__init__") (by rw[typeLookup_type,builtinLookup_eq_fast];kernel_rfl) (by decide +kernel) (by decide +kernel) (by decide +kernel)
  (by first|exact .inl (by decide +kernel)|exact .inr (by decide +kernel)) (by rw[isSubtype_type];kernel_rfl)
theorem called:TypeCalled "reversed" "reversed.__new__" "object.__init__" :=
 ⟨by decide +kernel,by decide +kernel,⟨_,_,PySem.F.mro_reversed⟩,PySem.F.made_reversed,by decide +kernel,by rw[isSubtype_type];kernel_rfl,aft_⟩
theorem nolen:typeLookup (.type "reversed") "__len__" = pure none:=by rw[typeLookup_type,builtinLookup_eq_fast];kernel_rfl
theorem norev:typeLookup (.type "tuple") "__reversed__" = pure none:=by rw[typeLookup_type,builtinLookup_eq_fast];kernel_rfl
end RF
def rvO(l:Addr)(i:Int):Obj:={ cls:=.type "reversed",data:=.fields #[.ref l,rawInt i] }
def IsRv(h:Heap)(a l:Addr)(i:Int):Prop:=∃o,h.get? a=some o/\o.cls=.type "reversed" /\ o.data=.fields #[.ref l,rawInt i]
section
variable{prog:Program}{w:World}{A:Around}{E:Value->Shared->Prop}{s:Shared}
theorem IsRv.typeIs{a l:Addr}{i:Int}(x:IsRv s.heap a l i):s.TypeIs (.ref a) "reversed" := let ⟨o,ho,hc,_⟩:=x;⟨o,ho,hc⟩
theorem aou_(l:Addr)(xs:Array Value)(hn:(xs.size:Int)<2^63):Meets (Builtin.«reversed.__new__» ⟨[.type "reversed",.ref l],[]⟩) (λ_ R s=>IsTup s.heap l xs/\R (.ok (.ret (.ref s.heap.objs.size))) { s with heap:=s.heap.push (rvO l (xs.size-1)),toks:=s.toks+1+1 }) :=
 .of_wp λprog w A R s h=>by
  obtain⟨hT,h⟩:=h
  have ty:s.TypeIs (.ref l) "tuple" := hT.typeIs
  unfold Builtin.«reversed.__new__»
  refine wpAny_bind (wpAny_of_eq (newClass_reversed _) ?_)
  try dsimp only
  refine wpAny_bind (wpAny_of_eq (a:=()) (by first|rfl|kernel_rfl) ?_)
  refine wpAny_bind (wpAny_of_eq (a:=()) (by first|rfl|kernel_rfl) ?_)
  try dsimp only
  refine wpAny_bind (wpAny_specialOf ty RF.norev ?_)
  try dsimp only
  show wpAny _ _ (_>>=λ_=>_) _ _ _
  refine wpAny_bind ?_
  refine wpAny_bind (wpAny_isInstance (T := "tuple") (b:=false) ty (by rw[isSubtype_type];kernel_rfl) ?_)
  try dsimp only
  refine wpAny_ite_split (λhab=>absurd hab (by decide)) (λ_=>?_)
  refine wpAny_bind (wpAny_specialOf ty Do.lookup ?_)
  try dsimp only
  refine wpAny_ite_split (λ_=>wpAny_pure ?_) (λhab=>absurd (by decide) hab)
  refine wpAny_ite_split (λhab=>absurd hab (by decide)) (λ_=>?_)
  refine wpAny_bind (len_tuple hT hn ?_)
  refine wpAny_bind (m:=asInt? _) (wpAny_pure ?_)
  try dsimp only
  unfold Builtin.SmallTypes.newRecord
  exact wpAny_bind (wpAny_newObj_type (wpAny_pure ⟨_,rfl,h⟩))
theorem aez_{l:Addr}{xs:Array Value}{Q:Value->Shared->Prop}(hn:(xs.size:Int)<2^63)(hl:IsTup s.heap l xs)
  (h:Q (.ref s.heap.objs.size) { s with heap:=s.heap.push (rvO l (xs.size-1)),toks:=s.toks+1+1 }):wpAny (model prog w) A (call (.type "reversed") [.ref l]) Q E s :=
 callType_new RF.called (by decide) (PySem.F.typeCall_reversed_1 _) (PySem.F.newCall_reversed_1 _) (λobj=>PySem.F.args_object_init_2 obj _) PySem.F.entry_reversed_new (aou_ l xs hn) ⟨hl,⟨_,AL _ rfl,rfl⟩,h⟩
theorem ae6_{it l:Addr}{i:Nat}{xs:Array Value}{x:Value}{Q:Option Value->Shared->Prop}(hn:(xs.size:Int)<2^63)(hit:IsRv s.heap it l (i:Int))(hl:IsTup s.heap l xs)(hx:xs[i]?=some x)
  (hQ:∀h',IsRv h' it l ((i:Int)-1)->Heap.SameBut it s.heap h'->Q (some x) { s with heap:=h',toks:=s.toks+1 }):wpAny (model prog w) A (pyNext (.ref it)) Q E s:=by
 obtain⟨o,ho,hc,hd⟩:=id hit
 have lt:=(BK.mp hx).1
 unfold pyNext
 refine wpAny_bind (wpAny_attempt (wpAny_callSpecial?_slot (name:=Str.ofString "__next__") hit.typeIs RF.slot_next
  (wpAny_call_entry RF.slot_next hit.typeIs RF.entry_next ?_ (RF.args_next _))))
 unfold Builtin.«reversed.__next__»
 refine wpAny_bind (wpAny_of_eq (a:=(Value.ref it,[])) rfl ?_)
 try dsimp only
 refine wpAny_bind (wpAny_field ho hd (x:=.ref l) rfl ?_)
 refine wpAny_bind (wpAny_field ho hd (x:=rawInt (i:Int)) rfl ?_)
 show wpAny _ _ (if (i:Int)<0 then _ else _) _ _ s
 rw[if_neg (by omega)]
 refine wpAny_bind (wpAny_specialOf (T := "tuple") hl.typeIs Do.lookup ?_)
 refine wpAny_ite_split (λhab=>absurd hab (by decide)) (λ_=>?_)
 refine wpAny_bind (wpAny_mkInt ?_)
 obtain⟨j,h1,h2,_⟩:=vz_ (qW_ (xs:=xs.toList) (j:=i) (v:=x) (by rw[As];exact hx))
 refine wpAny_bind (wpAny_attempt (getItem_tuple (j:=j) (x:=x) hl (by omega) (by omega) (by rw[AO]at h1;exact h1) (by rw[As]at h2;exact h2) ?_))
 try dsimp only
 refine wpAny_bind (wpAny_field ho hd (x:=rawInt (i:Int)) rfl ?_)
 show wpAny _ _ (setField (.ref it) 1 (rawInt ((i:Int)-1))>>=_) _ _ _
 refine wpAny_bind (wpAny_setField ho hd (by simp) ?_)
 refine wpAny_pure ⟨x,rfl,wpAny_pure (hQ _ ?_ (Bv ..))⟩
 exact⟨_,BI _ ho (B2 (BS hd _)),(DB ..).trans hc,by
  rw[BS hd];simp⟩
theorem ai3_{it l:Addr}{Q:Option Value->Shared->Prop}(hh:A.handled=none)(hit:IsRv s.heap it l (-1))
  (hQ:∀h',Heap.ExtBut it s.heap h'->Q none { s with heap:=h' }):wpAny (model prog w) A (pyNext (.ref it)) Q E s:=by
 obtain⟨o,ho,hc,hd⟩:=id hit
 unfold pyNext
 refine wpAny_bind (wpAny_attempt (wpAny_callSpecial?_slot (name:=Str.ofString "__next__") hit.typeIs RF.slot_next
  (wpAny_call_entry RF.slot_next hit.typeIs RF.entry_next ?_ (RF.args_next _))))
 unfold Builtin.«reversed.__next__»
 refine wpAny_bind (wpAny_of_eq (a:=(Value.ref it,[])) rfl ?_)
 try dsimp only
 refine wpAny_bind (wpAny_field ho hd (x:=.ref l) rfl ?_)
 refine wpAny_bind (wpAny_field ho hd (x:=rawInt (-1)) rfl ?_)
 show wpAny _ _ (if (-1:Int)<0 then _ else _) _ _ s
 rw[if_pos (by decide)]
 refine wpAny_bind (wpAny_rule ?_)
 refine wpAny_bind ?_
 show wpAny _ _ (setField (.ref it) 1 (rawInt (-1))>>=λ_=>setField (.ref it) 0 .none) _ _ _
 refine wpAny_bind (wpAny_setField ho hd (by simp) ?_)
 have ho2:=BI (Obj.mapFields (·.set! 1 (rawInt (-1)))) ho (B2 (BS hd _))
 refine wpAny_setField ho2 (BS hd _) (by simp) ?_
 refine wpAny_bind ?_
 show wpAny _ _ (newExc (.type "StopIteration") []>>=_) _ _ _
 refine wpAny_bind ?_
 simp only[newExc,newTuple]
 refine wpAny_bind (wpAny_newObj_type ?_ (by size_fits))
 refine wpAny_bind (m:=firstArgMember _ _) (wpAny_of_eq (a:=Value.none) (by first|rfl|(simp only[firstArgMember];rfl)) ?_)
 refine wpAny_newObj_type ?_ (by size_fits)
 simp only[raiseNew]
 refine wpAny_bind (wpAny_handled ?_)
 first|rw[show A.in1.handled=none from hh]|rw[hh]
 refine wpAny_bind (wpAny_pure (wpAny_throw ?_))
 refine wpAny_bind (wpAny_isInstance (T := "StopIteration") (b:=true) ⟨_,AL _ rfl,rfl⟩ isSubtype_stop ?_)
 exact wpAny_pure (hQ _ ((((Bv ..).extBut.trans (Bv ..).extBut).push _).push _))
theorem aos_(hh:A.handled=none)(I l:Addr)(hne:l≠I)(xs:Array Value)(hn:(xs.size:Int)<2^63) :
  Walks prog w A I [I,l] [I] xs.size (λi v=>xs[xs.size-1-i]?=some v) (λi h=>i<=xs.size/\IsRv h I l ((xs.size:Int)-1-(i:Int))/\IsTup h l xs) where
 sub:=λb hb=>by simp at hb;simp [hb]
 frame:=λ_ _ _ x hk=>⟨x.1,let ⟨o,ho,r⟩:=x.2.1;⟨o,hk I (by simp) _ ho,r⟩,let ⟨o,ho,r⟩:=x.2.2;⟨o,hk l (by simp) _ ho,r⟩⟩
 item:=λi s Q E hi x hQ=>by
  have e:(xs.size:Int)-1-(i:Int)=((xs.size-1-i:Nat):Int):=by omega
  have hit:=x.2.1
  rw[e]at hit
  have hx:xs[xs.size-1-i]?=some (xs[xs.size-1-i]'(by omega)):=AJ (by omega)
  refine ae6_ hn hit x.2.2 hx λh' hit' hs'=>?_
  have e2:((xs.size-1-i:Nat):Int)-1=(xs.size:Int)-1-((i+1:Nat):Int):=by omega
  rw[e2]at hit'
  exact hQ _ h' _ hx ⟨hi,hit',let ⟨o,ho,r⟩:=x.2.2;⟨o,(hs'.2 l hne).trans ho,r⟩⟩ λb o hb eo=>hs'.extBut b o (λh=>hb (by simp [h])) eo
 done:=λs Q E x hQ=>by
  have e:(xs.size:Int)-1-(xs.size:Int)=-1:=by omega
  have hit:=x.2.1
  rw[e]at hit
  exact ai3_ hh hit λh' he'=>hQ h' s.toks λb o hb eo=>he' b o (λh=>hb (by simp [h])) eo
 self:=λ_ _ _ _ x hQ=>by
  refine wpAny_pyIter_slot x.2.1.typeIs RF.slot_iter (wpAny_call_entry RF.slot_iter x.2.1.typeIs RF.entry_iter ?_ (RF.args_iter _))
  show wpAny _ _ (ret (.ref I)) _ _ _
  exact wpAny_pure ⟨_,rfl, "reversed",_,x.2.1.typeIs,RF.slot_next.lookup,hQ⟩
theorem ana_{it l:Addr}{xs:Array Value}{Q:Bool->Shared->Prop}(hn:xs.size<=2^24)(hit:IsRv s.heap it l ((xs.size:Int)-1))(hl:IsTup s.heap l xs)
  (hQ:∀b tk,Q b { s with toks:=tk }):wpAny (model prog w) A (Builtin.List.listLengthHint (.ref it)) Q E s:=by
 obtain⟨o,ho,hc,hd⟩:=id hit
 unfold Builtin.List.listLengthHint
 refine wpAny_bind (wpAny_specialOf hit.typeIs RF.nolen ?_)
 try dsimp only
 refine wpAny_ite_split (λhab=>absurd hab (by decide +kernel)) (λ_=>?_)
 refine wpAny_ite_split (λhab=>absurd hab (by decide)) (λ_=>?_)
 refine wpAny_bind (wpAny_specialOf hit.typeIs RF.slot_hint.lookup ?_)
 generalize hid:("reversed.__length_hint__" : String)=id0
 wp_delta
 rw[show splitId id0=some ("reversed", "__length_hint__") from by subst hid;decide +kernel]
 subst hid
 refine wpAny_bind (wpAny_isInstance (T := "reversed") (b:=true) hit.typeIs (by rw[isSubtype_type];kernel_rfl) ?_)
 refine wpAny_ite_split (λhab=>absurd hab (by decide)) (λ_=>?_)
 refine wpAny_ite_split (λhab=>absurd hab (by decide +kernel)) (λ_=>?_)
 refine wpAny_bind (wpAny_rule ?_)
 refine wpAny_bind (wpAny_of_eq (RF.slot_hint.bind _) ?_)
 try dsimp only
 refine wpAny_bind (wpAny_attempt (wpAny_call_entry RF.slot_hint hit.typeIs RF.entry_hint ?_ (RF.args_hint _)))
 unfold Builtin.«reversed.__length_hint__»
 refine wpAny_bind (wpAny_of_eq (a:=Value.ref it) rfl ?_)
 refine wpAny_bind (wpAny_field ho hd (x:=.ref l) rfl ?_)
 refine wpAny_ite_split (λhab=>absurd hab AS) (λ_=>?_)
 refine wpAny_bind (len_tuple hl (by omega) ?_)
 refine wpAny_bind (m:=asInt? _) (wpAny_pure ?_)
 try dsimp only
 refine wpAny_bind (wpAny_field ho hd (x:=rawInt ((xs.size:Int)-1)) rfl ?_)
 show wpAny _ _ (if (xs.size:Int)<((xs.size:Int)-1)+1 then _ else _) _ _ _
 rw[if_neg (by omega)]
 show wpAny _ _ (mkInt (((xs.size:Int)-1)+1)>>=λv=>ret v) _ _ _
 refine wpAny_bind (wpAny_mkInt (wpAny_pure ⟨_,rfl,?_⟩))
 try dsimp only
 refine wpAny_bind (m:=asInt? _) (wpAny_pure ?_)
 have hsz:((xs.size:Int)-1)+1=xs.size:=by omega
 have htl:Builtin.List.listTooLong (((xs.size:Int)-1)+1).toNat=false:=by rw[hsz];simp [Builtin.List.listTooLong,sizeLine];omega
 have hfi:Builtin.List.listFitsIndex (((xs.size:Int)-1)+1)=true:=by rw[hsz];simp [Builtin.List.listFitsIndex];omega
 try dsimp only
 rw[hfi,if_neg (by decide),if_neg (by omega),htl,if_neg (by decide)]
 exact wpAny_pure (hQ _ _)
theorem ahf_{R:Result->Shared->Prop}{r l:Addr}{xs:Array Value}(hh:A.handled=none)(hr:IsRv s.heap r l ((xs.size:Int)-1))(hl:IsTup s.heap l xs)(hlen:xs.size<=2^24)(S:Addr)(res:Value)(c₀:Nat)(hS:s.heap.get? S=some { cls:=.type "list",data:=.seq #[] c₀ })
  (hR:∀h' tk acc' c',(∀b o,b≠S->b≠r->s.heap.get? b=some o->h'.get? b=some o)->h'.get? S=some { cls:=.type "list",dict:=none,data:=.seq acc' c',slots:=#[] } ->
   ItemsOf (λi v=>xs[xs.size-1-i]?=some v) acc' xs.size->R (.ok (.ret res)) { s with heap:=h',toks:=tk }) :
  wpAny (model prog w) A.in1 (Builtin.List.listExtendWith (.ref S) (.ref r) res)
   (λfin s'=>match fin with|.done f=>R (.ok f) s'|.again c'=>c'.quiet=true/\codeAny (model prog w) A c' R s') (λe s'=>R (.error e) s') s:=by
 obtain⟨o,ho,hc,hd⟩:=id hr
 obtain⟨ol,hol,hcl,_,hdl⟩:=id hl
 have hSr:S≠r:=λe=>by rw[e,ho]at hS;cases hS;cases hd
 have hSl:S≠l:=λe=>by rw[e,hol]at hS;cases hS;exact absurd (show Value.type "list" = Value.type "tuple" from hcl) (by decide)
 have hlr:l≠r:=λe=>by rw[e,ho]at hol;cases hol;rw[hd]at hdl;cases hdl
 have hSf:S∉[r,l]:=λhm=>by
  rcases AN.mp hm with e|e
  ·exact hSr e
  ·exact hSl (Am.mp e)
 have W:=(aos_ (prog:=prog) (w:=w) (A:=A.in1) hh r l hlr xs (by omega)).toS
 have key:∀(h:Heap)(c₁ tk:Nat),(∀b o,b≠S->s.heap.get? b=some o->h.get? b=some o) ->
   h.get? S=some { cls:=.type "list",data:=.seq #[] c₁ }->codeAny (model prog w) A (.builtin "list.extend.loop" ⟨[.ref S,.ref r,res],[]⟩) R { s with heap:=h,toks:=tk }:=by
  intro h c₁ tk hk hS₁
  refine codeAny_extend_loopS W (by rw[sizeLine_eq];omega) S hSf res xs.size 0 _ #[] c₁ rfl (Ae _) ⟨Ae _,⟨o,hk _ _ (BY hSr) ho,hc,by rw[hd];simp⟩,⟨ol,hk _ _ (BY hSl) hol,hcl,_,hdl⟩⟩ hS₁ (ItemsOf.nil _) λs' acc' c' hm hS' hacc=>?_
  rw[Moved.eq_with hm]
  refine hR s'.heap s'.toks acc' c' (λb o hb hb2 e=>hm.heap b o (λhmem=>?_) (hk b o hb e)) hS' hacc
  rcases AN.mp hmem with e'|hmem
  ·exact hb e'
  ·exact hb2 (Am.mp hmem)
 unfold Builtin.List.listExtendWith
 refine wpAny_bind (wpAny_typeOf (T := "reversed") hr.typeIs ?_)
 have h1:Builtin.List.listSameRef (.ref S) (.ref r)=false:=by simp [Builtin.List.listSameRef,hSr]
 have h2:(Value.type "reversed" == Value.type "list")=false:=by decide
 have h3:(Value.type "reversed" == Value.type "tuple")=false:=by decide
 simp only[h1,h2,h3,Bool.or_false,Au,if_false]
 refine wpAny_bind (W.self 0 s _ _ ⟨Ae _,⟨o,ho,hc,by rw[hd];simp⟩,hl⟩ ?_)
 refine wpAny_bind (wpAny_holding (ana_ hlen hr hl λb tk=>?_))
 refine wpAny_ite_split (λ_=>?_) (λ_=>wpAny_pure ⟨plainId_quiet Du _,key _ c₀ _ (λb o _ e=>e) hS⟩)
 refine wpAny_bind (wpAny_rule ?_)
 refine wpAny_bind ?_
 show wpAny _ _ (updateSeq S (·.push .none)>>=λ_=>updateSeq S (·.pop)) _ _ _
 refine wpAny_bind (wpAny_updateSeq hS rfl ?_)
 have hS₂:=BI (Obj.mapSeq (·.push Value.none)) hS rfl
 refine wpAny_updateSeq (hz:=by seq_fits) hS₂ rfl ?_
 have hS₃:=BI (Obj.mapSeq (·.pop)) hS₂ rfl
 exact wpAny_pure ⟨plainId_quiet Du _,key _ _ _ (λb o hb e=>(Aw _ _ (BY hb)).trans ((Aw _ _ (BY hb)).trans e)) hS₃⟩
theorem ak3_{R:Result->Shared->Prop}{r l:Addr}{xs:Array Value}(hh:A.handled=none)(hr:IsRv s.heap r l ((xs.size:Int)-1))(hl:IsTup s.heap l xs)(hlen:xs.size<=2^24)(S:Addr)(hS:s.heap.get? S=some { cls:=.type "list",data:=.seq #[] })
  (hR:∀h' tk acc' c',(∀b o,b≠S->b≠r->s.heap.get? b=some o->h'.get? b=some o)->h'.get? S=some { cls:=.type "list",dict:=none,data:=.seq acc' c',slots:=#[] } ->
   ItemsOf (λi v=>xs[xs.size-1-i]?=some v) acc' xs.size->R (.ok (.ret .none)) { s with heap:=h',toks:=tk }) :
  wpAny (model prog w) A.in1 (Builtin.«list.__init__» ⟨[.ref S,.ref r],[]⟩)
   (λfin s'=>match fin with|.done f=>R (.ok f) s'|.again c'=>c'.quiet=true/\codeAny (model prog w) A c' R s') (λe s'=>R (.error e) s') s:=by
 obtain⟨o,ho,hc,hd⟩:=id hr
 obtain⟨ol,hol,hcl,_,hdl⟩:=id hl
 have hSr:S≠r:=λe=>by rw[e,ho]at hS;cases hS;cases hd
 have hSl:S≠l:=λe=>by rw[e,hol]at hS;cases hS;exact absurd (show Value.type "list" = Value.type "tuple" from hcl) (by decide)
 show wpAny _ _ (do let old <-Builtin.List.listItems (.ref S);Builtin.List.listUpdate (.ref S) (λ_=>#[]);letGo old.toList.reverse;Builtin.List.listExtendWith (.ref S) (.ref r) .none) _ _ s
 refine wpAny_bind ?_
 unfold Builtin.List.listItems
 refine wpAny_bind (wpAny_seqItems hS rfl (wpAny_pure ?_))
 show wpAny _ _ (updateSeq S (λ_=>#[])>>=λ_=>letGo (#[]:Array Value).toList.reverse>>=λ_=>Builtin.List.listExtendWith (.ref S) (.ref r) .none) _ _ s
 refine wpAny_bind (wpAny_updateSeq hS rfl ?_)
 have hS₂:=BI (Obj.mapSeq (λ_=>(#[]:Array Value))) hS rfl
 have oth:∀b o,b≠S->s.heap.get? b=some o->(s.heap.update S (Obj.mapSeq (λ_=>(#[]:Array Value)))).get? b=some o :=
  λb o hb e=>(Aw _ _ (BY hb)).trans e
 refine wpAny_bind (wpAny_letGo ?_)
 refine ahf_ (xs:=xs) hh ⟨o,oth r _ (BY hSr) ho,hc,hd⟩ ⟨ol,oth l _ (BY hSl) hol,hcl,_,hdl⟩ hlen S .none _ hS₂ λh' tk acc' c' hk hS' hacc=>?_
 exact hR h' tk acc' c' (λb o hb hb2 e=>hk b o hb hb2 (oth b o hb e)) hS' hacc
theorem anv_{Q:Value->Shared->Prop}{r l:Addr}{xs:Array Value}(hh:A.handled=none)(hr:IsRv s.heap r l ((xs.size:Int)-1))(hl:IsTup s.heap l xs)(hlen:xs.size<=2^24)
  (hQ:∀h' tk acc' c',(∀b o,b≠r->s.heap.get? b=some o->h'.get? b=some o) ->
   h'.get? s.heap.objs.size=some { cls:=.type "list",dict:=none,data:=.seq acc' c',slots:=#[] }->ItemsOf (λi v=>xs[xs.size-1-i]?=some v) acc' xs.size->Q (.ref s.heap.objs.size) { s with heap:=h',toks:=tk }) :
  wpAny (model prog w) A (call (.type "list") [.ref r]) Q E s:=by
 refine callType_codes (Q₁:=λobj s₁=>obj=.ref s.heap.objs.size/\s₁={ s with heap:=s.heap.push { cls:=.type "list",data:=.seq #[] } }) PySem.F.called_list (PySem.F.typeCall_list_1 _) PySem.F.entry_list_init
  (code_list_new _ ⟨rfl,rfl⟩) λobj s₁ h₁=>?_
 obtain⟨rfl,rfl⟩:=h₁
 have hS:(s.heap.push { cls:=.type "list",data:=.seq #[] }).get? s.heap.objs.size=some { cls:=.type "list",data:=.seq #[] }:=AL _ rfl
 refine⟨⟨_,hS,rfl⟩,PySem.F.args_list_init_2 _ _,ak3_ (A:=A.in1) (xs:=xs) (l:=l) hh (let ⟨o,ho,q⟩:=hr;⟨o,AB _ ho,q⟩) (let ⟨o,ho,q⟩:=hl;⟨o,AB _ ho,q⟩) hlen _ hS λh' tk acc' c' hk hS' hacc=>?_⟩
 exact⟨rfl,hQ h' tk acc' c' (λb o hb e=>hk b o (Af (AM e)) hb (AB _ e)) hS' hacc⟩
end
section
variable{X:Cx}
def ah3_(K:PySem.W.Frag)(ta:TE):TE:=λσ H Q=>ta σ H λv H1=>∃(a:Addr)(ys:List V),v=.ref a/\SqT K H1 a ys/\ys.length<=100000/\∀l,H1 l=none->Q (.ref l) (upd H1 l (.lst ys.reverse))
theorem xN_:∀{ys:List V}{us:List Value},Vals ys us->Vals ys.reverse us.reverse
 |_,_,.nil=>.nil
 |_,_,.cons a b=>by
  rw[Ci,Ci]
  exact(xN_ b).append (.cons a .nil)
theorem ah5_{ys:List V}{us:List Value}{acc:Array Value}(h:Vals ys us)(i:ItemsOf (λi v=>us.toArray[us.toArray.size-1-i]?=some v) acc us.toArray.size):Vals ys.reverse acc.toList:=by
 have e:acc.toList=us.reverse:=by
  refine Ck λk=>?_
  have sz:=i.1
  simp only[AQ]at sz
  by_cases hk:k<us.length
  ·have:=i.2 k acc[k] (AJ (by omega))
   simp only[AQ,List.getElem?_toArray]at this
   rw[As,AJ (by omega),DK hk,this]
  ·rw[Bo (by rw[AO];omega),Bo (by rw[Bx];omega)]
 rw[e]
 exact xN_ h
theorem adg_{a:Expr}{ta:TE}{p pos p2 pos2:Pos}(hc:X.calm=true)(hg:Gl X "list")(hm:X.mg "list" = none)(hg2:Gl X "reversed")(hm2:X.mg "reversed" = none)(ha:PE X a ta)
  (hs:starEach [a] X.env=(false,eval a X.env)::starEach [] X.env:=by rfl) (hs2:backTo pos2 (starEach [] X.env)=[]:=by rfl)
  (he:starEach [.Call (.Name "reversed" p2) [a] [] pos2] X.env=(false,eval (.Call (.Name "reversed" p2) [a] [] pos2) X.env)::starEach [] X.env:=by rfl) (hpl:(backTo pos (starEach [] X.env)).any (·.1)=false:=by rfl) (hnil:backTo pos (starEach [] X.env)=[]:=by rfl) :
  PE X (.Call (.Name "list" p) [.Call (.Name "reversed" p2) [a] [] pos2] [] pos) (ah3_ X.K ta):=by
 intro pins s σ H Q I h
 refine wpAny_Call_Name_kw (zH_ I hg hm CD ?_)
 refine BG ?_ he hpl
 rw[he]
 show wpAny _ _ (spliced ((false,eval (.Call (.Name "reversed" p2) [a] [] pos2) X.env)::backTo pos (starEach [] X.env))) _ _ s
 rw[hnil]
 refine CG (wpAny_Call_Name_kw (zH_ I hg2 hm2 Dp (BG ?_ hs (by rw[hs2];rfl))))
 rw[hs]
 show wpAny _ _ (spliced ((false,eval a X.env)::backTo pos2 (starEach [] X.env))) _ _ s
 rw[hs2]
 refine CG (thn (ha pins s σ H _ I h) λu s1 ⟨v,H1,I1,rv,a',ys,e,hT,hl,q⟩=>wpAny_pure ?_)
 subst e
 cases rv
 obtain⟨us,r,pl,hz⟩:=I1.tuple hT
 have ln:=r.length
 refine aez_ (by simp only[AQ];omega) pl ?_
 refine wpAny_pure ?_
 have e1:(s1.heap.push (rvO a' ((us.toArray.size:Int)-1))).objs.size=s1.heap.objs.size+1:=Bi ..
 refine anv_ (xs:=us.toArray) (l:=a') (I1.ok.hd hc) ⟨_,AL _ rfl,rfl,rfl⟩ (let ⟨o,ho,q⟩:=pl;⟨o,AB _ ho,q⟩) (by simp only[AQ];omega) λh' tk acc c kp hS it=>?_
 have kp':∀b o,s1.heap.get? b=some o->h'.get? b=some o:=λb o e=>kp b o (Af (AM e)) (AB _ e)
 have sz:s1.heap.objs.size<=(s1.heap.push (rvO a' ((us.toArray.size:Int)-1))).objs.size:=by rw[e1];omega
 have vv:=ah5_ r it
 refine⟨.ref _,_,I1.laid (t':=tk) kp' sz (show ObjOk X.prog X.w _ h' _ (.lst _) from⟨?_,acc.toList,c,vv,by rw[Array.toArray_toList];exact hS⟩),rfl,q _ (I1.hok.fresh sz)⟩
 rw[Bx]
 exact Ag hl (by decide)
end
end L2.Ev
namespace L2.Ev
open PySem PySem.Spec PyProof.Rows
open L2.Pl
def Itv(K:PySem.W.Frag)(a:Addr)(n:Nat):It :=
 ⟨λi H=>∃xs x,SqT K H a xs/\xs.length=n/\xs.reverse[i]?=some x,λi H x H'=>H'=H/\∀xs,SqT K H a xs->xs.reverse[i]?=some x,λi H=>i=n⟩
theorem agt_{P:Program}{w:World}{K:PySem.W.Frag}{tg:Expr}(a it:Addr)(n:Nat)(hn:n<=100000):Turn P w K tg (Itv K a n) [it] it (λi h=>IsRv h it a ((n:Int)-1-(i:Int))) where
 mem:=by simp
 obj:=λi h st b hb=>by
  have e:b=it:=by simpa using hb
  subst e
  obtain⟨o,e,c,d⟩:=st
  exact⟨o,e,λv z=>by rw[d]at z;cases z⟩
 keep:=λi h h' st k=>let ⟨o,e,r⟩:=st;⟨o,k it (by simp) o e,r⟩
 item:=by
  intro X hP hw hK hc i pins s σ H E I hf st hg
  subst hP hw hK
  obtain⟨xs,x,hq,hl,hx⟩:=hg
  obtain⟨its,rv,p,hz⟩:=I.tuple hq
  have ln:=rv.length
  have il:i<xs.length:=by
   have:=(AR.mp hx).1
   rwa [Bx]at this
  rw[DK il]at hx
  obtain⟨u,hu,ru⟩:=rv.get hx
  have fi:=hf it (by simp)
  obtain⟨f0,f1,f2,f3,f4,f5⟩:=id fi
  have ne:a≠it:=jm_ (k:=.tup) I hq fi
  have e1:(n:Int)-1-(i:Int)=((xs.length-1-i:Nat):Int):=by omega
  have hit:=st
  rw[e1]at hit
  refine ae6_ (xs:=its.toArray) (i:=xs.length-1-i) (by simp only[AQ];omega) hit p (by simpa using hu) λh' st' sb=>?_
  have I1:Inv X pins σ H { s with heap:=h',toks:=s.toks+1 }:=I.turned (t':=s.toks+1) (λb o hb e=>(sb.2 b hb).trans e) f0 f1 f3 f4 f5
  obtain⟨o,e,c,d⟩:=id st'
  refine⟨u,rfl,yf_ (s:={ s with heap:=h',toks:=s.toks+1 }) e c d (by decide) ⟨x,H,I1,ru,⟨rfl,λys hy=>?_⟩,?_,λb hb=>(hf b hb).1⟩⟩
  ·rw[I.tuple_inj hy hq,DK il]
   exact hx
  ·show IsRv h' it a ((n:Int)-1-((i+1:Nat):Int))
   rw[show(n:Int)-1-((i+1:Nat):Int)=((xs.length-1-i:Nat):Int)-1 by omega]
   exact st'
 done:=by
  intro X hP hw hK hc i pins s σ H E I hf st hg
  subst hP hw hK
  obtain⟨f0,f1,f2,f3,f4,f5⟩:=hf it (by simp)
  have e:i=n:=hg
  have hit:=st
  rw[show(n:Int)-1-(i:Int)=-1 by omega]at hit
  exact ai3_ (I.ok.hd hc) hit λh' eb=>⟨rfl,I.turned (t':=s.toks) (λb o hb e=>eb b o hb e) f0 f1 f3 f4 f5⟩
 self:=λ_ _ _ _ _ st hQ=>by
  refine wpAny_pyIter_slot st.typeIs RF.slot_iter (wpAny_call_entry RF.slot_iter st.typeIs RF.entry_iter ?_ (RF.args_iter _))
  show wpAny _ _ (ret (.ref it)) _ _ _
  exact wpAny_pure ⟨_,rfl, "reversed",_,st.typeIs,RF.slot_next.lookup,hQ⟩
def iRev(K:PySem.W.Frag)(ta:TE):TI:=λσ H R=>ta σ H λv H1=>∃(a:Addr)(xs:List V),v=.ref a/\SqT K H1 a xs/\xs.length<=100000/\R (Itv K a xs.length) H1
theorem an1_{X:Cx}{tg ea:Expr}{ta:TE}{p pos:Pos}(hg:Gl X "reversed")(hm:X.mg "reversed" = none)(ha:PE X ea ta)(hs:starEach [ea] X.env=(false,eval ea X.env)::starEach [] X.env:=by rfl)(hs2:backTo pos (starEach [] X.env)=[]:=by rfl) :
  PI X tg (.Call (.Name "reversed" p) [ea] [] pos) (iRev X.K ta):=by
 intro pins s σ H R I h
 refine wpAny_Call_Name_kw (zH_ I hg hm Dp (BG ?_ hs (by rw[hs2];rfl)))
 rw[hs]
 show wpAny _ _ (spliced ((false,eval ea X.env)::backTo pos (starEach [] X.env))) _ _ s
 rw[hs2]
 refine CG (thn (ha pins s σ H _ I h) λu s1 ⟨v,H1,I1,rv,a',ys,e,hT,hl,q⟩=>wpAny_pure ?_)
 subst e
 cases rv
 obtain⟨us,r,pl,hz⟩:=I1.tuple hT
 have ln:=r.length
 refine aez_ (by simp only[AQ];omega) pl ?_
 have st:IsRv (s1.heap.push (rvO a' ((us.toArray.size:Int)-1))) s1.heap.objs.size a' ((us.toArray.size:Int)-1):=⟨_,AL _ rfl,rfl,rfl⟩
 refine wpAny_pyIter_slot st.typeIs RF.slot_iter (wpAny_call_entry RF.slot_iter st.typeIs RF.entry_iter ?_ (RF.args_iter _))
 show wpAny _ _ (ret (.ref _)) _ _ _
 refine wpAny_pure ⟨_,rfl, "reversed",_,st.typeIs,RF.slot_next.lookup,?_⟩
 refine⟨s1.heap.objs.size,[s1.heap.objs.size],_,_,H1,rfl,I1.kept (t':=s1.toks+1+1) λb o e=>AB _ e,agt_ a' _ ys.length hl,?_,λb hb=>?_,q⟩
 ·show IsRv _ _ _ ((ys.length:Int)-1-((0:Nat):Int))
  rw[show(ys.length:Int)-1-((0:Nat):Int)=(us.toArray.size:Int)-1 by simp only[AQ];omega]
  exact st
 ·have e:b=s1.heap.objs.size:=by simpa using hb
  subst e
  exact I1.fpOk (AH _) (I1.hok.fresh (AH _))
theorem akg_{K:PySem.W.Frag}{a:Addr}{xs:List V}{g:TG}{tb:TS}{D:Ends}{σ:St}{H:Hp}(Pv:Nat->St->Hp->Prop)(h0:Pv 0 σ H)(hl:∀i σ H,i<=xs.length->Pv i σ H->SqT K H a xs)
  (hs:∀i x σ H,xs.reverse[i]?=some x->Pv i σ H->g x σ H λσ2 H2=>tb { D with nx:=Pv (i+1),ct:=Pv (i+1),bk:=D.nx } σ2 H2) (hd:∀σ H,Pv xs.length σ H->D.nx σ H) :
  ∃W:Nat->Nat->St->Hp->Prop,(∃m,W 0 m σ H)/\∀i m σ H,W i m σ H ->
   ((Itv K a xs.length).stop i H/\D.nx σ H)∨((Itv K a xs.length).go i H/\∃N:St->Hp->Prop,(∀σ' H',N σ' H'->∃m',m'<m/\W (i+1) m' σ' H')/\∀x H',(Itv K a xs.length).yld i H x H'->g x σ H' λσ2 H2=>tb { D with nx:=N,ct:=N,bk:=D.nx } σ2 H2):=by
 refine⟨λi m σ H=>m=xs.length-i/\i<=xs.length/\Pv i σ H,⟨xs.length,by simp,Ae _,h0⟩,?_⟩
 rintro i m σ H ⟨rfl,hi,p⟩
 have q:=hl i σ H hi p
 by_cases hlt:i<xs.length
 ·refine .inr ⟨⟨xs,xs.reverse[i]'(by rw[Bx];exact hlt),q,rfl,AE _⟩,Pv (i+1),λσ' H' p'=>⟨xs.length-(i+1),by omega,rfl,hlt,p'⟩,λx H' y=>?_⟩
  obtain⟨e,y⟩:=y
  subst e
  exact hs i x σ _ (y xs q) p
 ·have e:i=xs.length:=by omega
  subst e
  exact .inl ⟨rfl,hd σ H p⟩
end L2.Ev
set_option maxRecDepth 1000000
namespace L2.Ev
open L2.Pl
theorem x9_{α:Type}(h:Nat->Int)(g:α->Nat×Int):∀(l:List α)(acc:List (Nat×Int)),smK h (l.foldl (λacc x=>ji_ (acc.length+1) acc [g x]) acc)=smK h acc+smK h (l.map g)
 |[],acc=>by simp [smK]
 |x::l,acc=>by
  rw[Bm,x9_ h g l,j8_,Aa]
  simp only[smK]
  omega
theorem vJ_(h:Nat->Int)(e:Nat)(c:Int):∀kf:List (Nat×Int),smK h (kf.map λu=>(u.1+e,u.2*c))=c*smK (λk=>h (k+e)) kf
 |[]=>by simp [smK]
 |u::kf=>by
  rw[Aa]
  simp only[smK]
  rw[vJ_ h e c kf,ER,<-Cb,DT u.2 c]
theorem xC_(g:Nat->Int):∀L:List Mon,smK g (L.map λt=>(code t.1,t.2))=sm (λp=>g (code p)) L
 |[]=>rfl
 |t::L=>by
  rw[Aa]
  simp only[smK,sm]
  rw[xC_ g L]
theorem vA_(h:Nat->Int)(kf:List (Nat×Int)):∀(A:List Mon)(acc:List (Nat×Int)),smK h (A.foldl (λacc t=>ji_ (acc.length+kf.length+1) acc (kf.map λu=>(u.1+code t.1,u.2*t.2))) acc)=smK h acc+sm (λq=>smK (λk=>h (k+code q)) kf) A
 |[],acc=>by simp [sm]
 |t::A,acc=>by
  rw[Bm,vA_ h kf A,j8_,vJ_]
  simp only[sm]
  omega
theorem vp_(G:Pw->Pw->Int)(A:List Mon):∀F:List Mon,sm (λp=>sm (λq=>G p q) A) F=sm (λq=>sm (λp=>G p q) F) A
 |[]=>by
  have z:∀A:List Mon,sm (λ_=>(0:Int)) A=0:=by
   intro A
   induction A with
   |nil=>rfl
   |cons t A ih=>simp only[sm,ih];omega
  show(0:Int)=sm (λq=>sm (λp=>G p q) []) A
  exact(z A).symm
 |t::F=>by
  show t.2*sm (λq=>G t.1 q) A+sm (λp=>sm (λq=>G p q) A) F=sm (λq=>t.2*G t.1 q+sm (λp=>G p q) F) A
  rw[afn_,vc_,vp_ G A F]
theorem xk_(p:List Int)(x:Int):code (p++[x])=16*code p+x.toNat:=by
 unfold code
 rw[Ds]
 rfl
def dec:Nat->Nat->List Int
 |0,_=>[]
 |m+1,k=>dec m (k / 16)++[((k%16:Nat):Int)]
theorem j2_:∀(m:Nat)(p:List Int),p.length=m->(∀x∈p,0<=x/\x<=15)->dec m (code p)=p
 |0,p,h,_=>by rw[BD.mp h];rfl
 |m+1,p,h,b=>by
  have ne:p≠[]:=by intro z;rw[z]at h;simp at h
  obtain⟨as,x,e⟩:∃as x,p=as++[x]:=⟨_,_,(BN ne).symm⟩
  subst e
  rw[AK,BZ]at h
  have bx:=b x (by simp)
  rw[xk_]
  unfold dec
  rw[show(16*code as+x.toNat) / 16=code as by omega,show(16*code as+x.toNat)%16=x.toNat by omega,j2_ m as (by omega) λy hy=>b y (Az _ hy),Da bx.1]
theorem yE_:∀(m:Nat)(p q:List Int),p.length=m->q.length=m->(∀x∈p,0<=x)->(∀x∈q,0<=x)->code (pad p q)=code p+code q
 |0,p,q,h,g,_,_=>by rw[BD.mp h,BD.mp g];rfl
 |m+1,p,q,h,g,b,c=>by
  have ne:p≠[]:=by intro z;rw[z]at h;simp at h
  have ne2:q≠[]:=by intro z;rw[z]at g;simp at g
  obtain⟨as,x,e⟩:∃as x,p=as++[x]:=⟨_,_,(BN ne).symm⟩
  obtain⟨bs,y,e2⟩:∃bs y,q=bs++[y]:=⟨_,_,(BN ne2).symm⟩
  subst e e2
  rw[AK,BZ]at h g
  have x0:=b x (by simp)
  have y0:=c y (by simp)
  have ez:pad (as++[x]) (bs++[y])=pad as bs++[x+y]:=by
   unfold pad
   rw[List.zipWith_append (by omega)]
   rfl
  rw[ez,xk_,xk_,xk_,yE_ m as bs (by omega) (by omega) (λz hz=>b z (Az _ hz)) λz hz=>c z (Az _ hz)]
  omega
theorem jZ_{n b:Nat}{p:List Int}(h:jR_ n b p=true):p.length=n/\∀x∈p,0<=x/\x<=(b:Int):=by
 unfold jR_ at h
 rw[AG,AI,beq_iff_eq]at h
 refine⟨h.1,λx hx=>?_⟩
 have:=h.2 x hx
 rw[AG,decide_eq_true_eq,decide_eq_true_eq]at this
 exact this
theorem vV_:∀{p q:List Int}{a b:Int},(∀x∈p,0<=x/\x<=a)->(∀x∈q,0<=x/\x<=b)->∀x∈pad p q,0<=x/\x<=a+b
 |[],q,_,_,_,_,x,hx=>by simp [pad]at hx
 |_::_,[],_,_,_,_,x,hx=>by simp [pad]at hx
 |y::p,z::q,a,b,hp,hq,x,hx=>by
  have e:pad (y::p) (z::q)=(y+z)::pad p q:=rfl
  rw[e]at hx
  rcases AN.mp hx with rfl|hx
  ·have:=hp y (AD ..)
   have:=hq z (AD ..)
   omega
  ·exact vV_ (λx hx=>hp x (AC _ hx)) (λx hx=>hq x (AC _ hx)) x hx
theorem akx_{n:Nat}{r:List Int}(h:chk n r=true):norm (prd (norm (qx_ n r)) (norm (qI_ n [])))=norm (qI_ n r):=by
 unfold chk at h
 rw[AG,AG,AG,AI,AI,AI,beq_iff_eq]at h
 obtain⟨⟨⟨h1,h2⟩,h3⟩,h4⟩:=h
 have hF:∀t∈qx_ n r,t.1.length=n/\∀x∈t.1,0<=x/\x<=(11:Int):=λt ht=>by
  unfold qx_ at ht
  obtain⟨f,hf,rfl⟩:=AV.mp ht
  exact jZ_ (h1 f hf)
 refine zK_ λf=>?_
 rw[qR_,qy_]
 have e1:(λp=>sm (λq=>f (pad p q)) (norm (qI_ n [])))=λp=>sm (λq=>f (pad p q)) (qI_ n []):=by funext p;rw[qy_]
 rw[e1]
 have e2:sm (λp=>sm (λq=>f (pad p q)) (qI_ n [])) (qx_ n r)=sm (λp=>sm (λq=>f (dec n (code p+code q))) (qI_ n [])) (qx_ n r):=by
  refine qT_ λt ht=>qT_ λu hu=>?_
  obtain⟨a1,a2⟩:=hF t ht
  obtain⟨b1,b2⟩:=jZ_ (h2 u hu)
  rw[<-yE_ n t.1 u.1 a1 b1 (λx hx=>(a2 x hx).1) λx hx=>(b2 x hx).1,j2_ n (pad t.1 u.1) (acz_ a1 b1) λx hx=>by have:=vV_ a2 b2 x hx;omega]
 rw[e2,vp_]
 have e3:=congrArg (smK λk=>f (dec n k)) h4
 unfold mulK sumK at e3
 rw[vA_,x9_ (λk=>f (dec n k)) (λt:Mon=>(code t.1,t.2)),xC_]at e3
 simp only[smK,CS]at e3
 have e4:∀g:Nat->Int,smK g (KF n r)=sm (λp=>g (code p)) (qx_ n r):=λg=>by
  unfold KF
  rw[x9_ g (λf=>(code (pwf n f),(1:Int))),<-xC_]
  unfold qx_
  rw[CI]
  simp only[smK,CS]
  rfl
 have e5:sm (λq=>sm (λp=>f (dec n (code p+code q))) (qx_ n r)) (qI_ n [])=sm (λq=>smK (λk=>f (dec n (k+code q))) (KF n r)) (qI_ n []):=qT_ λt _=>(e4 λk=>f (dec n (k+code t.1))).symm
 rw[e5,e3]
 refine qT_ λt ht=>?_
 obtain⟨a1,a2⟩:=jZ_ (h3 t ht)
 rw[j2_ n t.1 a1 a2]
theorem apr_:(gen 2 8 8).all (xD_ 1)=true:=by decide +kernel
theorem ap8_:(gen 3 8 8).all (xD_ 2)=true:=by decide +kernel
theorem aim_{α:Type}{x:α}{l:List α}(c m:Nat)(h:x∈l)(hl:l.length<=c*m)(hc:0<c):∃i,i<m/\x∈(l.drop (c*i)).take c:=by
 obtain⟨k,hk⟩:=Eb.mp h
 have lk:k<l.length:=(AR.mp hk).1
 have e:=Nat.div_add_mod k c
 have r:=Nat.mod_lt k hc
 refine⟨k / c,(Nat.div_lt_iff_lt_mul hc).mpr (by rw[DP];omega),Eb.mpr ⟨k%c,?_⟩⟩
 rw[List.getElem?_take,if_pos r,Dh,e]
 exact hk
def qw_(n c i:Nat):Bool:=(((gen (n+1) 8 8).drop (c*i)).take c).all (xD_ n)
theorem aqb_:(gen 4 8 8).length<=4*14:=by decide +kernel
theorem api_:(gen 5 8 8).length<=2*34:=by decide +kernel
theorem c3_0:qw_ 3 4 0=true:=by decide +kernel
theorem c3_1:qw_ 3 4 1=true:=by decide +kernel
theorem c3_2:qw_ 3 4 2=true:=by decide +kernel
theorem c3_3:qw_ 3 4 3=true:=by decide +kernel
theorem c3_4:qw_ 3 4 4=true:=by decide +kernel
theorem c3_5:qw_ 3 4 5=true:=by decide +kernel
theorem c3_6:qw_ 3 4 6=true:=by decide +kernel
theorem c3_7:qw_ 3 4 7=true:=by decide +kernel
theorem c3_8:qw_ 3 4 8=true:=by decide +kernel
theorem c3_9:qw_ 3 4 9=true:=by decide +kernel
theorem ao6_:qw_ 3 4 10=true:=by decide +kernel
theorem aok_:qw_ 3 4 11=true:=by decide +kernel
theorem aon_:qw_ 3 4 12=true:=by decide +kernel
theorem aoj_:qw_ 3 4 13=true:=by decide +kernel
theorem c4_0:qw_ 4 2 0=true:=by decide +kernel
theorem c4_1:qw_ 4 2 1=true:=by decide +kernel
theorem c4_2:qw_ 4 2 2=true:=by decide +kernel
theorem c4_3:qw_ 4 2 3=true:=by decide +kernel
theorem c4_4:qw_ 4 2 4=true:=by decide +kernel
theorem c4_5:qw_ 4 2 5=true:=by decide +kernel
theorem c4_6:qw_ 4 2 6=true:=by decide +kernel
theorem c4_7:qw_ 4 2 7=true:=by decide +kernel
theorem c4_8:qw_ 4 2 8=true:=by decide +kernel
theorem c4_9:qw_ 4 2 9=true:=by decide +kernel
theorem app_:qw_ 4 2 10=true:=by decide +kernel
theorem apy_:qw_ 4 2 11=true:=by decide +kernel
theorem aod_:qw_ 4 2 12=true:=by decide +kernel
theorem ao9_:qw_ 4 2 13=true:=by decide +kernel
theorem aoi_:qw_ 4 2 14=true:=by decide +kernel
theorem ao8_:qw_ 4 2 15=true:=by decide +kernel
theorem aof_:qw_ 4 2 16=true:=by decide +kernel
theorem aqj_:qw_ 4 2 17=true:=by decide +kernel
theorem an7_:qw_ 4 2 18=true:=by decide +kernel
theorem an4_:qw_ 4 2 19=true:=by decide +kernel
theorem ap5_:qw_ 4 2 20=true:=by decide +kernel
theorem apu_:qw_ 4 2 21=true:=by decide +kernel
theorem apx_:qw_ 4 2 22=true:=by decide +kernel
theorem aoe_:qw_ 4 2 23=true:=by decide +kernel
theorem apb_:qw_ 4 2 24=true:=by decide +kernel
theorem apl_:qw_ 4 2 25=true:=by decide +kernel
theorem ap6_:qw_ 4 2 26=true:=by decide +kernel
theorem aot_:qw_ 4 2 27=true:=by decide +kernel
theorem aov_:qw_ 4 2 28=true:=by decide +kernel
theorem aqh_:qw_ 4 2 29=true:=by decide +kernel
theorem aop_:qw_ 4 2 30=true:=by decide +kernel
theorem ap4_:qw_ 4 2 31=true:=by decide +kernel
theorem an6_:qw_ 4 2 32=true:=by decide +kernel
theorem apt_:qw_ 4 2 33=true:=by decide +kernel
theorem am5_:∀i,i<14->qw_ 3 4 i=true
 |0,_=>c3_0
 |1,_=>c3_1
 |2,_=>c3_2
 |3,_=>c3_3
 |4,_=>c3_4
 |5,_=>c3_5
 |6,_=>c3_6
 |7,_=>c3_7
 |8,_=>c3_8
 |9,_=>c3_9
 |10,_=>ao6_
 |11,_=>aok_
 |12,_=>aon_
 |13,_=>aoj_
 |i+14,h=>absurd h (by omega)
theorem and_:∀i,i<34->qw_ 4 2 i=true
 |0,_=>c4_0
 |1,_=>c4_1
 |2,_=>c4_2
 |3,_=>c4_3
 |4,_=>c4_4
 |5,_=>c4_5
 |6,_=>c4_6
 |7,_=>c4_7
 |8,_=>c4_8
 |9,_=>c4_9
 |10,_=>app_
 |11,_=>apy_
 |12,_=>aod_
 |13,_=>ao9_
 |14,_=>aoi_
 |15,_=>ao8_
 |16,_=>aof_
 |17,_=>aqj_
 |18,_=>an7_
 |19,_=>an4_
 |20,_=>ap5_
 |21,_=>apu_
 |22,_=>apx_
 |23,_=>aoe_
 |24,_=>apb_
 |25,_=>apl_
 |26,_=>ap6_
 |27,_=>aot_
 |28,_=>aov_
 |29,_=>aqh_
 |30,_=>aop_
 |31,_=>ap4_
 |32,_=>an6_
 |33,_=>apt_
 |i+34,h=>absurd h (by omega)
theorem apg_:(gen 4 8 8).all (xD_ 3)=true:=AI.mpr λr hr=>by
 obtain⟨i,hi,hx⟩:=aim_ 4 14 hr aqb_ (by decide)
 exact AI.mp (am5_ i hi) r hx
theorem aoa_:(gen 5 8 8).all (xD_ 4)=true:=AI.mpr λr hr=>by
 obtain⟨i,hi,hx⟩:=aim_ 2 34 hr api_ (by decide)
 exact AI.mp (and_ i hi) r hx
theorem ajc_{n:Nat}(n1:1<=n)(n4:n<=4):∀r∈gen (n+1) 8 8,xD_ n r=true:=by
 have h:n=1∨n=2∨n=3∨n=4:=by omega
 rcases h with rfl|rfl|rfl|rfl
 ·exact AI.mp apr_
 ·exact AI.mp ap8_
 ·exact AI.mp apg_
 ·exact AI.mp aoa_
theorem vW_{n:Nat}(n4:n<=4){r:List Int}(h8:∀x∈r,0<=x/\x<=8){j:Nat}:∀i,i<=j->zZ_ n (r.take j) i=zZ_ n r i
 |0,_=>rfl
 |i+1,h=>by
  have ih:=vW_ n4 h8 (j:=j) i (by omega)
  unfold zZ_
  rw[ih]
  unfold wnl
  have ok:=yj_ n4 h8 i
  have g:∀k,k<j->(r.take j).getD k 0=r.getD k 0:=λk hk=>by rw[AF,AF,List.getElem?_take,if_pos hk]
  have e:∀lines∈zZ_ n r i,yv_ n (r.take j) lines=yv_ n r lines:=λlines hl=>by
   have:=(ok lines hl).1
   unfold yv_ lfn
   rw[g 0 (by omega),g lines.length (by omega)]
  generalize zZ_ n r i=fs at e
  induction fs with
  |nil=>rfl
  |cons x fs ih2=>rw[Ay,Ay,e x (AD ..),ih2 λy hy=>e y (AC _ hy)]
theorem abf_:∀(r:List Int)(j:Nat),(∀x∈r,0<=x)->(r.take j).sum<=r.sum
 |[],j,_=>by simp
 |x::r,0,h=>by
  have:∀l:List Int,(∀y∈l,0<=y)->0<=l.sum:=by
   intro l
   induction l with
   |nil=>intro _;exact CC _
   |cons y l ih =>
    intro hy
    have:=hy y (AD ..)
    have:=ih λz hz=>hy z (AC _ hz)
    rw[Aq]
    omega
  simpa using this (x::r) h
 |x::r,j+1,h=>by
  have:=abf_ r j λy hy=>h y (AC _ hy)
  rw[CY,Aq,Aq]
  omega
theorem vC_{n:Nat}{r:List Int}(n1:1<=n)(n4:n<=4)(hl:r.length<=n+1)(hb:∀x∈r,1<=x/\x<=8)(hp:r.Pairwise λa b=>b<=a)(hs:r.sum<=8) :
  (∀j,j<=r.length->(zZ_ n r j).length<=1000)/\(r.length<=n->norm (prd (norm (qx_ n r)) (norm (qI_ n [])))=norm (qI_ n r)/\∀t∈qx_ n r,t.1.length=n/\∀x∈t.1,0<=x/\x<=(11:Int))/\(n<r.length->qx_ n r=[]):=by
 have h8:∀x∈r,0<=x/\x<=8:=λx hx=>by have:=hb x hx;omega
 have key:∀j,xD_ n (r.take j)=true:=λj=>ajc_ n1 n4 _ (acn_ (n+1) 8 8 (r.take j) (by rw[An];omega) (λx hx=>hb x (BF hx)) (hp.sublist (Dq ..)) (by have:=abf_ r j λx hx=>(h8 x hx).1;omega))
 have kr:=key r.length
 rw[DH]at kr
 unfold xD_ at kr
 rw[AG,decide_eq_true_eq]at kr
 refine⟨λj hj=>?_,λc=>?_,λc=>?_⟩
 ·have kj:=key j
  unfold xD_ at kj
  rw[AG,decide_eq_true_eq]at kj
  have:=kj.1
  unfold fil at this
  rw[An,Cd hj,vW_ n4 h8 j (AH _)]at this
  exact this
 ·have k2:=kr.2
  rw[if_pos c]at k2
  refine⟨akx_ k2,λt ht=>?_⟩
  unfold chk at k2
  rw[AG,AG,AG,AI]at k2
  unfold qx_ at ht
  obtain⟨f,hf,rfl⟩:=AV.mp ht
  exact jZ_ (k2.1.1.1 f hf)
 ·have k2:=kr.2
  rw[if_neg (by omega)]at k2
  have e:fil n r=[]:=by simpa using k2
  unfold qx_
  rw[e]
  rfl
end L2.Ev
set_option maxHeartbeats 4000000
namespace L2.K62
open PySem
open L2.Pl L2.Ev
def top(i:Nat):Stmt:=PySem.Challenge.pw_evenform_k62_whole_fillings_that_count.main.body.getD i (.Pass ⟨0,0,0,0⟩)
abbrev sRc:Stmt:=top 18
abbrev v4_:Stmt:=top 19
abbrev sRbr:Stmt:=top 21
abbrev sLf:Stmt:=top 23
abbrev sLn:Stmt:=top 24
abbrev sWn:Stmt:=top 25
abbrev sFil:Stmt:=top 26
abbrev sPo:Stmt:=top 27
abbrev sFs:Stmt:=top 28
abbrev sLw:Stmt:=top 30
abbrev sRb:Stmt:=top 31
abbrev sGo:Stmt:=top 32
abbrev sCtd:Stmt:=top 33
abbrev sRws:Stmt:=top 36
abbrev y9_:Stmt:=top 37
abbrev sTim:Stmt:=top 39
abbrev sPut:Stmt:=top 40
abbrev ya_:Stmt:=top 41
abbrev sDr:Stmt:=top 42
abbrev vh_:Stmt:=top 43
abbrev sSh:Stmt:=top 44
abbrev sLi:Stmt:=top 45
abbrev sRi:Stmt:=top 46
abbrev sRd:Stmt:=top 47
abbrev sFlg:Stmt:=top 48
abbrev sRfs:Stmt:=top 49
abbrev sLaw:Stmt:=top 50
section
variable{P:Program}{w:World}{K:PySem.W.Frag}{mg:Str->Option Value}{base:Heap}{f g:Addr}{fd gd:FuncData}
theorem amv_{P:Program}{w:World}{K:PySem.W.Frag}{mg:Str->Option Value}{base:Heap}{N:List Str}{qual:Str}{scope:Scope}{f:Addr}{cdv:Value}{A:Around}{outer:List Env}{s0:Shared}{H0:Hp}{E:XK}:PassesOwn (model P w) (A.deeper (PyProof.Rows.envOfC qual scope s0.heap.objs.size f cdv)) (PyProof.Rows.envOfC qual scope s0.heap.objs.size f cdv) (zv_ (CX1 P w) P w K mg base N qual scope f cdv A outer s0 H0 E).xe:=PassesOwn.leaving
structure HasX(P:Program)(w:World)(K:PySem.W.Frag)(mg:Str->Option Value)(base:Heap)(k:Nat)(x:Str)(ps:List Str)(sp:Sp) where
 f:Addr
 fd:FuncData
 ok:FnOk P w K mg base (CX1 P w) k f fd ps sp
 bd:Binds K fd ps []
 kp:PySem.W.keepIn K (.ref f)=true
 at_:mg x=some (.ref f)
abbrev bmV:List Value:=[.type "ValueError",.type "Exception",.type "BaseException",.type "object"]
structure Exc1(K:PySem.W.Frag)(mg:Str->Option Value)(x:Str)(C:Addr):Prop where
 at_:mg x=some (.ref C)
 is:PySem.W.excIn K C bmV "ValueError.__new__" = true
theorem y6_{K:PySem.W.Frag}{C:Addr}{bm:List Value}{n:String}(q:PySem.W.excIn K C bm n=true):(PySem.W.clsIn K C).isSome=true:=by
 unfold PySem.W.excIn at q
 split at q
 ·rename_i dd cd sl ho
  unfold PySem.W.clsIn
  rw[ho]
  rfl
 ·cases q
theorem adj_{K:PySem.W.Frag}{C C0:Addr}{b:Bool}(h:PySem.W.kitOne K (.ref C) (.ref C0)=some b)(ne:C≠C0):PySem.W.kitCls K (.ref C) (.ref C0)=some b:=by
 unfold PySem.W.kitOne at h
 rwa [if_neg (λz=>ne (by injection (beq_iff_eq.mp z)))]at h
theorem adz_{K:PySem.W.Frag}{C:Addr}{T:String}{b:Bool}(h:PySem.W.kitOne K (.ref C) (.type T)=some b):PySem.W.kitCls K (.ref C) (.type T)=some b:=by
 unfold PySem.W.kitOne at h
 rwa [if_neg (λz=>by cases beq_iff_eq.mp z)]at h
theorem jz_{H H':Hp}{l:Addr}(h:H l=none)(e:Same H H')(o:HO):Same H (upd H' l o):=λb u q=>by rw[ql_ (qA_ q h)];exact e b u q
theorem act_{H:Hp}{l:Addr}{xs:List V}(h:H l=some (.lst xs))(o:HO):Tups H (upd H l o):=λp ys q=>by
 rw[ql_ (zW_ q h (by intro z;cases z))];exact q
abbrev nRc:List Str:=["many"]
theorem scRc:FnScope nRc ["many"] (qi_ sRc):=⟨rfl,rfl,rfl,by decide +kernel,rfl,by decide +kernel,by decide +kernel⟩
def aio_:Sp:=λvs H Q _=>∃n:Int,vs=[.int n]/\1<=n/\n<=4/\Q .non H
theorem alk_{tk:Tok}(F:Fun K "refuse_bad_count" "refuse_bad_count" sRc f fd)(gU:mg "MOST_UNKNOWNS" = some (.int 4 tk)):FnOk P w K mg base CX0 2 f fd ["many"] aio_:=by
 refine F.ok scRc (λvs H Q E h=>?_) (λcdv A outer s H vs Q E hr h=>?_)
 ·obtain⟨n,rfl,_⟩:=h
  rfl
 obtain⟨n,rfl,n1,n4,q⟩:=h
 refine⟨_,qg_ (qD_ (PW.pt (jl_ (qo_ yg_ (pv 0) qf_ (qn_ _)) (z4_ (qo_ zl_ (pv 0) (qZ_ (v:=.int 4) rfl gU ⟨_,rfl⟩) (qn_ _))))) (qg_ aar_) qt_),?_⟩
 exact⟨_,rfl,_,_,rfl,rfl,_,rfl,za_ (by omega) ⟨_,rfl,_,_,rfl,rfl,_,rfl,za_ (by omega) q⟩⟩
def qH_(r:List Int):Bool:=r.all (λx=>decide (1<=x))&&((List.range (r.length-1)).all λi=>decide (r.getD (i+1) 0<=r.getD i 0))&&decide (r.sum<=8)
abbrev nRb:List Str:=["row"]
abbrev bRb:List Str:=["number"]
abbrev bRb2:List Str:=["number", "later"]
theorem ndRb:bRb.Nodup:=by decide +kernel
theorem aiu_:bRb2.Nodup:=by decide +kernel
theorem scRb:FnScope nRb nRb (qi_ sRbr):=⟨rfl,rfl,rfl,by decide +kernel,rfl,by decide +kernel,by decide +kernel⟩
def ad2_(cBR:Addr):Sp:=λvs H Q E=>∃(p:Addr)(r:List Int),vs=[.ref p]/\H p=some (.tup (r.map V.int))/\r.length<=1000/\(qH_ r=true->∀H',Same H H'->Q .non H')/\(qH_ r=false->∀H',Same H H'->E (.ref cBR) none H')
theorem aj6_(r:List Int):(r.map λx=>decide (x<1)).any id=!(r.all λx=>decide (1<=x)):=by
 induction r with
 |nil=>rfl
 |cons x r ih =>
  rw[Aa,CL,DE,ih,Bool.not_and]
  have:id (decide (x<1))=!decide (1<=x):=by
   by_cases c:x<1
   ·simp [c]
   ·simp [c,show 1<=x by omega]
  rw[this]
theorem agq_(l:List Nat)(r:List Int):(l.map λi=>decide (r.getD i 0<r.getD (i+1) 0)).any id=!(l.all λi=>decide (r.getD (i+1) 0<=r.getD i 0)):=by
 induction l with
 |nil=>rfl
 |cons i l ih =>
  rw[Aa,CL,DE,ih,Bool.not_and]
  have:id (decide (r.getD i 0<r.getD (i+1) 0))=!decide (r.getD (i+1) 0<=r.getD i 0):=by
   by_cases c:r.getD i 0<r.getD (i+1) 0
   ·rw[decide_eq_true c,decide_eq_false (by omega)];rfl
   ·rw[decide_eq_false c,decide_eq_true (by omega)];rfl
  rw[this]
theorem x3_{r:List Int}{i:Nat}{v:V}(h:(r.map V.int)[i]?=some v):v=.int (r.getD i 0)/\i<r.length:=by
 rw[Ac]at h
 rw[AF]
 cases e:r[i]? with
 |none=>rw[e]at h;cases h
 |some c=>rw[e]at h;exact⟨(AW h).symm,(AR.mp e).1⟩
theorem aem_{tk:Tok}{cBR:Addr}(F:Fun K "refuse_bad_row" "refuse_bad_row" sRbr f fd)(gU:mg "MOST_TOGETHER" = some (.int 8 tk))(X1:Exc1 K mg "BadRow" cBR)(ma:mg "any" = none)(mz:mg "zip" = none)(ms:mg "sum" = none):FnOk P w K mg base (CX1 P w) 2 f fd nRb (ad2_ cBR):=by
 refine Fun.okx F scRb (λvs H Q E h=>?_) (λcdv A outer s H vs Q E hr h=>?_)
 ·obtain⟨p,r,rfl,_⟩:=h
  rfl
 obtain⟨p,r,rfl,hp,hl,q,e⟩:=h
 refine⟨_,qe_ (qD_ (zd_ (qh_ (v0_ rfl) rfl ma Ec (qa_ (q8_ (N':=bRb) (src:=[none]) rfl (z3_ (pv 0)) (zq_ (qi_ sRbr) nRb (by decide +kernel))
    (λb=>qk_ (i:=0) ndRb rfl (Or.inl rfl)) (λb=>zz_) (λb=>zX_ yg_ (pv 0) qf_ (qn_ _))) qb_))) (qg_ (yI_ rfl rs1 Cu rfl X1.at_ X1.is (qa_ j0_ qb_))) qt_)
  (qe_ (qD_ (zd_ (qh_ (v0_ rfl) rfl ma Ec (qa_ (q8_ (N':=bRb2) (src:=[none,none]) rfl (yU_ .tup .tup rfl mz (qa_ (pv 0) (qa_ (jy_ akc_ (pv 0) (jN_ qf_) jQ_) qb_))) (zq_ (qi_ sRbr) nRb (by decide +kernel))
    (λb=>jk_ rfl (qK_ (qk_ (i:=0) aiu_ rfl (Or.inl rfl)) (qK_ (qk_ (i:=1) aiu_ rfl (Or.inl rfl)) zT_))) (λb=>zz_) (λb=>zX_ zl_ (pv 1) (pv 0) (qn_ _))) qb_))) (qg_ (yI_ rfl rs1 Cu rfl X1.at_ X1.is (qa_ j0_ qb_))) qt_)
  (qg_ (qD_ (qo_ zl_ (qh_ (zt_ rfl) rfl ms BJ (qa_ (pv 0) qb_)) (qZ_ (v:=.int 8) rfl gU ⟨_,rfl⟩) (qn_ _)) (qg_ (yI_ rfl rs1 Cu rfl X1.at_ X1.is (qa_ j0_ qb_))) qt_))),?_⟩
 have sz:1<=sizeLine:=by decide
 refine⟨_,rfl,p,rfl,⟨_,SqT.of hp⟩,λbk D hD=>?_⟩
 refine j3_ (α:=Bool) hD (SqT.of hp) (λσ=>∃c,σ=[c]) (λi=>(r[i]?).bind λx=>some (decide (x<1))) (small (by rw[AA];omega)) ?_ ?_ ?_
 ·exact⟨_,rfl⟩
 ·rintro i v σ H2 Yes No hv ⟨c,rfl⟩ s3 yes no
  obtain⟨x,hx,rfl⟩:∃x,r[i]?=some x/\V.int x=v:=by
   rw[Ac]at hv
   cases e:r[i]? with
   |none=>rw[e]at hv;cases hv
   |some y=>rw[e]at hv;exact⟨y,rfl,AW hv⟩
  refine z7_ ?_
  refine⟨_,rfl,_,_,rfl,rfl,?_⟩
  exact yes _ _ _ _ ⟨_,rfl⟩ (λ_ _ e=>e) (by rw[hx];rfl) rfl
 rintro H1 s1 ⟨ws,eD,iD⟩
 have e0:(List.range (r.map V.int).length).filterMap (λi=>(r[i]?).bind λx=>some (decide (x<1)))=r.map λx=>decide (x<1):=by
  rw[AA,zg_,BM]
 rw[xS_ iD,e0]at eD
 refine⟨D,_,rfl,SqL.of eD,_,rfl,?_⟩
 rw[aj6_]
 cases c1:r.all λx=>decide (1<=x) with
 |false=>exact zY_ ⟨sz,e (by unfold qH_;rw[c1];rfl) _ s1⟩
 |true =>
 refine q6_ ?_
 have hp1:=s1 _ _ hp
 refine⟨_,rfl,_,rfl,1,rfl,p,r,rfl,rfl,rfl,hp1,λt H2 s2 ht=>⟨p,t,rfl,⟨_,SqT.of (s2 _ _ hp1)⟩,⟨_,SqT.of ht⟩,λbk2 D2 hD2=>?_⟩⟩
 refine xB_ (α:=Bool) (k1:=.tup) (k2:=.tup) hD2 (SqT.of (s2 _ _ hp1)) (SqT.of ht) (λσ=>∃c d,σ=[c,d]) (λi=>some (decide (r.getD i 0<r.getD (i+1) 0))) (small (by rw[AA,AA];omega)) ?_ ?_ ?_
 ·exact⟨_,_,rfl⟩
 ·rintro i x y p2 σ H3 Yes No hx hy h2 ⟨c,d,rfl⟩ s3 yes no
  obtain⟨rfl,_⟩:=x3_ hx
  obtain⟨rfl,_⟩:=x3_ hy
  refine⟨p2,_,rfl,SqT.of qc_,rfl,_,_,rfl,_,_,rfl,rfl,?_⟩
  refine yesT ?_
  refine⟨_,rfl,_,rfl,_,_,rfl,rfl,?_⟩
  refine yes _ _ _ _ ⟨_,_,rfl⟩ (qd_ h2 _) rfl ?_
  show V.bl (decide (r.getD i 0<(r.drop 1).getD i 0))=V.bl (decide (r.getD i 0<r.getD (i+1) 0))
  rw[show(r.drop 1).getD i 0=r.getD (i+1) 0 by rw[AF,Dh,AF,El 1 i]]
 rintro H4 s4 ⟨ws2,eD2,iD2⟩
 have e1:(List.range (min (r.map V.int).length ((r.drop 1).map V.int).length)).filterMap (λi=>some (decide (r.getD i 0<r.getD (i+1) 0)))=(List.range (r.length-1)).map λi=>decide (r.getD i 0<r.getD (i+1) 0):=by
  rw[AA,AA,Bf,Nat.min_eq_right (by omega),BM]
 rw[xS_ iD2,e1]at eD2
 have s14:=s1.trans (s2.trans s4)
 refine⟨D2,_,rfl,SqL.of eD2,_,rfl,?_⟩
 rw[agq_]
 cases c2:(List.range (r.length-1)).all λi=>decide (r.getD (i+1) 0<=r.getD i 0) with
 |false=>exact zY_ ⟨sz,e (by unfold qH_;rw[c1,c2];rfl) _ s14⟩
 |true =>
 refine q6_ ?_
 refine⟨_,rfl,p,r,rfl,SqT.of (s14 _ _ hp),_,_,rfl,rfl,_,rfl,?_⟩
 by_cases c3:8<r.sum
 ·exact zD_ c3 ⟨sz,e (by unfold qH_;rw[c1,c2,decide_eq_false (by omega)];rfl) _ s14⟩
 ·exact za_ c3 (q (by unfold qH_;rw[c1,c2,decide_eq_true (by omega)];rfl) _ s14)
theorem aae_{k:Nat}{ps:List Str}{sp sp':Sp}(F:FnOk P w K mg base (CX1 P w) k f fd ps sp)(h:∀vs H Q E,sp' vs H Q E->sp vs H Q E0):FnOk P w K mg base CX0 k f fd ps sp' :=
 ⟨λvs H Q E q=>F.len vs H Q E0 (h _ _ _ _ q),λA outer s H args us vs Q E hr he hb hv hs=>codeAny_mono (F.run A outer s H args us vs Q E0 hr he hb hv (h _ _ _ _ hs)) λr s' z=>by
  cases r with
  |ok fl=>cases fl<;>exact z
  |error e=>obtain⟨_,_,_,_,_,_,_,y⟩:=z;exact y.elim⟩
def air_:Sp:=λvs H Q _=>∃(p:Addr)(r:List Int),vs=[.ref p]/\H p=some (.tup (r.map V.int))/\r.length<=1000/\qH_ r=true/\∀H',Same H H'->Q .non H'
theorem aeo_{cBR:Addr}(F:FnOk P w K mg base (CX1 P w) 2 f fd nRb (ad2_ cBR)):FnOk P w K mg base CX0 2 f fd nRb air_:=aae_ F λvs H Q E ⟨p,r,e,hp,hl,hB,q⟩=>⟨p,r,e,hp,hl,λ_=>q,λz=>by rw[hB]at z;cases z⟩
abbrev nG:List Str:=["terms", "numbers", "powers", "number"]
abbrev bG:List Str:=["powers", "numbers"]
theorem ndG:bG.Nodup:=by decide +kernel
theorem scG:FnScope nG ["terms"] (qi_ v4_):=⟨rfl,rfl,rfl,by decide +kernel,rfl,by decide +kernel,by decide +kernel⟩
def af0_:Sp:=λvs H Q _=>∃(a:Addr)(ts:List Mon),vs=[.ref a]/\LstAt H a ts/\(∀t∈ts,t.1≠[])/\ts.length<=100000/\∀(l:Addr)(H':Hp),H l=none->Same H H'->LstAt H' l (norm ts)->Q (.ref l) H'
theorem aji_(F:Fun K "gathered" "gathered" v4_ f fd)(ms:mg "sorted" = none):FnOk P w K mg base CX0 2 f fd ["terms"] af0_:=by
 refine F.ok scG (λvs H Q E h=>?_) (λcdv A outer s H vs Q E hr h=>?_)
 ·obtain⟨a,ts,rfl,_⟩:=h
  rfl
 obtain⟨a,ts,rfl,hL,hne,hlen,q⟩:=h
 have hu:=aaa_ hr
 have h8:=hu8 hr
 refine⟨_,qe_ (qp_ (i:=1) scG.nd rfl (Or.inr rfl) yC_)
  (qe_ (qL_ Ao rfl (q0_ (pv 0)) (jk_ rfl (qK_ (qk_ (i:=2) scG.nd rfl (Or.inl rfl)) (qK_ (qk_ (i:=3) scG.nd rfl (Or.inl rfl)) zT_)))
   (qg_ (vv_ hu (pv 1) (pv 2) (qj_ zP_ (yF_ hu (pv 1) (pv 2) qf_ ⟨rfl,rfl,rfl,rfl⟩) (pv 3)) rfl)))
  (qg_ (qq_ (q8_ (N':=bG) (src:=[none,some 1]) rfl (q0_ (ad1_ rfl h8 rfl ms (qa_ (pv 1) qb_)))
   (zq_ (qi_ v4_) nG (by decide +kernel))
   (λb=>qk_ (i:=0) ndG rfl (Or.inl rfl))
   (λb=>z6_ (qo_ xe_ (x6_ hu (pv 1) (pv 0) (λ_ _=>rfl)) qf_ (qn_ _)))
   (λb=>qu_ (qa_ (pv 0) (qa_ (x6_ hu (pv 1) (pv 0) (λ_ _=>rfl)) qb_))))))),?_⟩
 intro d hd
 obtain⟨vs,eL,iL⟩:=hL
 have lv:=AT iL
 have s0:Same H (upd H d (.dT [])):=qd_ hd _
 refine⟨_,rfl,a,rfl,⟨vs,SqL.of (s0 _ _ eL)⟩,?_⟩
 refine zk_ (xs:=vs) (λi σ H'=>(∃c2 c3,σ=[some (.ref a),some (.ref d),c2,c3])/\H' d=some (.dT (toK (qv_ (ts.take i))))/\Same H H') ?_ ?_ ?_ ?_
 ·exact⟨⟨_,_,rfl⟩,qc_,s0⟩
 ·rintro i σ H1 _ ⟨_,_,s1⟩
  exact SqL.of (s1 _ _ eL)
 ·rintro i x σ H1 hx ⟨⟨c2,c3,rfl⟩,h1,s1⟩
  obtain⟨t,ht,hi⟩:=q4_ iL hx
  obtain⟨p,k,rfl,hp,hk⟩:=xM_ hi
  have hk1:=s1 _ _ hk
  refine⟨p,_,rfl,SqT.of (s1 _ _ hp),rfl,_,_,rfl,_,_,rfl,rfl,?_⟩
  have g:=DGet.t (k:=t.1.map Sum.inl) h1 (by rw[jt_];exact hk1)
  rw[xw_]at g
  refine⟨_,rfl,d,rfl,.inr ⟨_,.inl h1⟩,_,rfl,_,g,_,rfl,(qX_ (qv_ (ts.take i)) t.1).getD 0,t.2,?_,rfl,_,rfl,_,rfl,d,_,rfl,DPut.t (k:=t.1.map Sum.inl) h1 (by rw[jt_];exact hk1) ?_,?_⟩
  ·cases qX_ (qv_ (ts.take i)) t.1<;>rfl
  ·rw[x7_]
   have:=xA_ (ts.take i)
   rw[An]at this
   exact j7_ (by omega)
  ·refine⟨⟨_,_,rfl⟩,?_,λb o e=>?_⟩
   ·rw[zJ_ ht,zB_,<-vn_]
    exact qc_
   ·rw[ql_ (qA_ e hd)]
    exact s1 b o e
 ·rintro σ H1 ⟨⟨c2,c3,rfl⟩,h1,s1⟩
  rw[Aj (by omega)]at h1
  have hnd:∀t∈qv_ ts,t.1≠[]:=λt ht=>by
   obtain⟨u,hu,e⟩:=AV.mp (ags_ ts (AV.mpr ⟨t,ht,rfl⟩))
   rw[<-e]
   exact hne u hu
  refine⟨_,rfl,d,qv_ ts,rfl,.inl h1,hnd,λp vs' ks hp pm so it=>?_⟩
  have s2:Same H1 (upd H1 p (.lst vs')):=qd_ hp _
  refine⟨p,rfl,⟨_,SqL.of qc_⟩,λb D hD=>?_⟩
  have lk:=AT it
  have ln:vs'.length<=100000:=by
   have:=pm.length_eq
   rw[AA]at this
   have:=xA_ ts
   omega
  refine xl_ (α:=Mon) hD (SqL.of qc_) (λσ=>∃c,σ=[c,some (.ref d)]) (λi=>(ks[i]?).bind λk=>if (qX_ (qv_ ts) k).getD 0≠0 then some (k,(qX_ (qv_ ts) k).getD 0) else none) (small ln) ⟨_,rfl⟩ ?_ ?_
  ·rintro i x σ H2 Yes No hx ⟨c,rfl⟩ s3 yes no
   obtain⟨k,hk,hi⟩:=q4_ it hx
   obtain⟨pk,rfl,hpk⟩:=qO_ hi
   have hpk3:=s3 _ _ (s2 _ _ hpk)
   have hd3:=s3 _ _ (s2 _ _ h1)
   obtain⟨n,hn⟩:=aea_ (pm.mem_iff.mp (Ah hk))
   have g:=DGet.t (k:=k.map Sum.inl) hd3 (by rw[jt_];exact hpk3)
   rw[xw_,hn]at g
   refine⟨_,rfl,_,rfl,d,.int n,rfl,g,rfl,_,rfl,?_⟩
   by_cases c0:n=0
   ·subst c0
    refine q6_ ?_
    exact no _ _ ⟨_,rfl⟩ (Same.refl _) (by rw[hk,DI,hn,if_neg (by simp)])
   ·have e0:(!decide (V.int n=V.int 0))=true:=by
     rw[decide_eq_false (λz=>c0 (by injection z))]
     rfl
    rw[e0]
    refine zY_ ⟨_,rfl,_,rfl,_,rfl,d,.int n,rfl,g,(by show 2<=sizeLine;decide),λr hr=>?_⟩
    exact yes _ _ _ (k,n) ⟨_,rfl⟩ (qd_ hr _) (by rw[hk,DI,hn,if_pos (by simpa using c0)];rfl) (abt_ qc_ (qd_ hr _ _ _ hpk3))
  ·intro H2 s3 hL
   refine q D H2 (s1.free (s2.free hD)) (s1.trans (s2.trans s3)) ?_
   have e:=aj8_ pm so
   rw[<-zI_,<-zg_,<-lk]at e
   rw[<-e]
   exact hL
def But(d:Addr)(H H':Hp):Prop:=∀b o,b≠d->H b=some o->H' b=some o
theorem afw_(p q:Pw)(h:p.length=q.length):(List.range (min (p.map V.int).length (q.map V.int).length)).filterMap (λi=>some (p.getD i 0+q.getD i 0))=pad p q:=by
 rw[BM,AA,AA,<-h,Dz]
 refine Ck λi=>?_
 unfold pad
 rw[Ac,List.getElem?_zipWith]
 by_cases c:i<p.length
 ·rw[Ca c,AE c,AE (by omega:i<q.length)]
  simp [c,(by omega:i<q.length)]
 ·rw[Bo (by rw[Bt];omega),Bo (by omega:p.length<=i)]
  rfl
theorem agy_(a b:List Mon)(t:Mon):prd (a++[t]) b=prd a b++b.map λu=>(pad t.1 u.1,t.2*u.2):=by
 unfold prd
 rw[CZ,Ch]
def prL(n:Nat)(fs:List (List Mon)):List Mon:=fs.foldl (λacc f=>norm (prd acc f)) [(List.replicate n 0,1)]
def isF(r:List Int):Bool:=ze_ (Dat.eqb (α:=Int)) r (dsc r)
theorem aco_(r:List Int):isF r=true↔r=dsc r:=jB_ Dat.eqb_iff _ _
def qJ_(r:List Int):List Int:=r.filter λx=>decide (0<x)
def una(n k:Nat):List Int:=List.replicate k 0++[1]++List.replicate (n-k-1) 0
def dif1(n l e:Nat):List Mon:=[(una n e,1),(una n l,-1)]
def difR(n l:Nat):List (List Mon):=(List.range l).map (dif1 n l)
def difs(n:Nat):List (List Mon):=(List.range n).flatMap (difR n)
def qS_(n:Nat):List Mon:=prL n (difs n)
def degB(n d b:Nat)(ts:List Mon):Bool:=ts.all λt=>decide (t.1.length=n)&&t.1.all (λx=>decide (0<=x))&&decide (t.1.sum<=(d:Int))&&decide (t.2.natAbs<2^b)
theorem ym_{n d b:Nat}{ts:List Mon}(h:degB n d b ts=true):Deg n d b ts:=by
 unfold degB at h
 rw[AI]at h
 have k:∀t∈ts,((t.1.length=n/\∀x∈t.1,0<=x)/\t.1.sum<=(d:Int))/\t.2.natAbs<2^b:=λt ht=>by
  have:=h t ht
  rw[AG,AG,AG,decide_eq_true_eq,decide_eq_true_eq,decide_eq_true_eq,AI]at this
  exact⟨⟨⟨this.1.1.1,λx hx=>of_decide_eq_true (this.1.1.2 x hx)⟩,this.1.2⟩,this.2⟩
 exact⟨λt ht=>(k t ht).1.1.1,λt ht=>(k t ht).1.1.2,λt ht=>(k t ht).1.2,λt ht=>(k t ht).2⟩
def qP_(n:Nat)(p:List Int):List Int:=(List.range p.length).map λ(i:Nat)=>p.getD i 0-(n:Int)+1+(i:Int)
def bfL(n:Nat)(D:List Mon):List Mon:=(D.filter λt=>isF (qP_ n t.1)).map λt=>(qJ_ (qP_ n t.1),t.2)
def bfF(n:Nat)(ts:List Mon):List Mon:=bfL n (norm (prd ts (qS_ n)))
abbrev nLf:List Str:=["least_numbers", "many", "found", "least", "longer", "line", "number"]
theorem scLf:FnScope nLf ["least_numbers", "many"] (qi_ sLf):=⟨rfl,rfl,rfl,by decide +kernel,rfl,by decide +kernel,by decide +kernel⟩
def spLf:Sp:=λvs H Q _=>∃(p:Addr)(n:Nat)(ls:List Int),vs=[.ref p,.int n]/\H p=some (.tup (ls.map V.int))/\n<=4/\ls.length<=8/\(∀x∈ls,0<=x/\x<=1000)/\∀(l:Addr)(H':Hp),H l=none->Same H H'->LstAt H' l (lf n ls)->Q (.ref l) H'
theorem alg_{line:List Int}{x M:Int}(h1:M∈line.drop (line.length-1)++[x])(h2:∀a∈line.drop (line.length-1)++[x],a<=M):M=mxl line x:=by
 by_cases c:line=[]
 ·subst c
  simp at h1
  rw[h1]
  rfl
 ·obtain⟨as,y,e⟩:∃as y,line=as++[y]:=⟨_,_,(BN c).symm⟩
  subst e
  have ed:(as++[y]).drop ((as++[y]).length-1)=[y]:=by
   rw[AK,BZ,Nat.add_sub_cancel,List.drop_left]
  rw[ed]at h1 h2
  unfold mxl
  rw[Ei,ED]
  have b1:=h2 y (by simp)
  have b2:=h2 x (by simp)
  simp at h1
  simp only[Option.some_or]
  split<;>omega
theorem aje_{a:Int}{n j:Nat}(h:j<((n:Int)-a).toNat):(jp_ a n)[j]?=some (a+(j:Int)):=by
 unfold jp_
 rw[Ac,Ca h]
 rfl
theorem agw_{H H':Hp}{l p:Addr}{ys:List V}{rs:List (List Int)}{r:List Int}(t:Tups H H')(i:Its H ys rs)(hp:H' p=some (.tup (r.map V.int)))(hl:H' l=some (.lst (ys++[.ref p]))):LstAt H' l (rs++[r]) :=
 ⟨_,hl,Paired.app (Its.mono t i) (.cons (zR_ hp) .nil)⟩
theorem aqa_(F:Fun K "lines_from" "lines_from" sLf f fd)(mr:mg "range" = none)(mx:mg "max" = none):FnOk P w K mg base CX0 2 f fd ["least_numbers", "many"] spLf:=by
 refine F.ok scLf (λvs H Q E h=>?_) (λcdv A outer s H vs Q E hr h=>?_)
 ·obtain⟨p,n,ls,rfl,_⟩:=h
  rfl
 obtain⟨p,n,ls,rfl,hp,n4,l8,nn',q⟩:=h
 have nn:∀x∈ls,0<=x:=λx hx=>(nn' x hx).1
 refine⟨_,qe_ (qp_ (i:=2) scLf.nd rfl (Or.inl rfl) (qE_ (qa_ (qu_ qb_) qb_)))
  (qe_ (qL_ Ao rfl (z3_ (pv 0)) (qk_ (i:=3) scLf.nd rfl (Or.inl rfl))
   (qe_ (qp_ (i:=4) scLf.nd rfl (Or.inl rfl) (qE_ qb_))
   (qe_ (qL_ Ao rfl (q0_ (pv 2)) (qk_ (i:=5) scLf.nd rfl (Or.inl rfl))
    (qg_ (qL_ Ao rfl (x2_ rfl mr (qa_ (qh_ (aef_ rfl) rfl mx DL (qa_ (qj_ zh_ (jy_ anw_ (pv 5) (jN_ (v8_ yR_ qf_)) jQ_) (qu_ (qa_ (pv 3) qb_))) qb_)) (qa_ (pv 1) qb_))) (qk_ (i:=6) scLf.nd rfl (Or.inl rfl))
     (qg_ (zp_ (y0_ Br CT CU z9_ (pv 4) (qa_ (qj_ zh_ (pv 5) (qu_ (qa_ (pv 6) qb_))) qb_)))))))
   (qg_ (qp_ (i:=2) scLf.nd rfl (Or.inl rfl) (pv 4))))))
  (qg_ (qq_ (pv 2)))),?_⟩
 refine⟨(by show 0<=sizeLine;decide),λt0 h0=>⟨(by show 1<=sizeLine;decide),λl0 hl0=>?_⟩⟩
 have s0:=qd_ h0 (.tup [])
 have s1:=qd_ hl0 (.lst [.ref t0])
 refine⟨_,rfl,p,rfl,⟨_,SqT.of (s1 _ _ (s0 _ _ hp))⟩,?_⟩
 refine xv_ (xs:=ls.map V.int) (λi σ H'=>(∃(l:Addr)(c3 c4 c5 c6:Option V),σ=[some (.ref p),some (.int n),some (.ref l),c3,c4,c5,c6]/\LstAt H' l (lf n (ls.take i))/\H l=none)/\Same H H') ?_ ?_ ?_ ?_
 ·exact⟨⟨l0,_,_,_,_,rfl,⟨[.ref t0],qc_,.cons (zR_ (r:=[]) (s1 _ _ qc_)) .nil⟩,s0.free hl0⟩,s0.trans s1⟩
 ·rintro i σ H1 _ ⟨_,sH⟩
  exact SqT.of (sH _ _ hp)
 ·rintro i v σ H1 hv ⟨⟨l,c3,c4,c5,c6,rfl,⟨us,eL,iL⟩,fl⟩,sH⟩
  obtain⟨x,hx,rfl⟩:∃x,ls[i]?=some x/\V.int x=v:=by
   rw[Ac]at hv
   cases e:ls[i]? with
   |none=>rw[e]at hv;cases hv
   |some y=>rw[e]at hv;exact⟨y,rfl,AW hv⟩
  have x0:=nn x (Ah hx)
  have il:i<ls.length:=(AR.mp hx).1
  have fl4:(lf n (ls.take i)).length<=4^8:=Ag (abc_ n4 rfl λy hy=>nn y (BF hy)) (Cr (by decide) (by rw[An];omega))
  have st:lf n (ls.take (i+1))=yb_ n (lf n (ls.take i)) x:=by rw[zJ_ hx,vy_]
  have s4:(yb_ n (lf n (ls.take i)) x).length<=4^8*4:=Ag (yL_ (jr_ n x) 4 _ λy _=>Ag (aay_ x0 y) n4) (CP 4 fl4)
  have e48:(4:Nat)^8*4<=1000000:=by decide
  have nnl:=adk_ (n:=n) (ls:=ls.take i) λy hy=>nn y (BF hy)
  generalize lf n (ls.take i)=fs at iL fl4 st s4 nnl
  have lu:=AT iL
  refine⟨(by show 0<=sizeLine;decide),λl2 hl2=>?_⟩
  have s2:=qd_ hl2 (.lst [])
  refine⟨_,rfl,l,rfl,⟨_,SqL.of (s2 _ _ eL)⟩,?_⟩
  refine zk_ (xs:=us) (λj σ H'=>(∃c5 c6,σ=[some (.ref p),some (.int n),some (.ref l),some (.int x),some (.ref l2),c5,c6])/\Same H1 H'/\LstAt H' l2 ((fs.take j).flatMap (jr_ n x))) ?_ ?_ ?_ ?_
  ·exact⟨⟨_,_,rfl⟩,s2,⟨[],qc_,.nil⟩⟩
  ·rintro j σ H2 _ ⟨_,s3,_⟩
   exact SqL.of (s3 _ _ eL)
  ·rintro j v σ H2 hv ⟨⟨c5,c6,rfl⟩,s3,hY⟩
   obtain⟨line,hline,hi⟩:=q4_ iL hv
   obtain⟨a,rfl,ha⟩:=qO_ hi
   have ha2:=s3 _ _ ha
   have jl:j<fs.length:=(AR.mp hline).1
   have ln:=nnl line (Ah hline)
   rw[An]at ln
   have tk:(fs.take (j+1)).flatMap (jr_ n x)=(fs.take j).flatMap (jr_ n x)++jr_ n x line:=by rw[zJ_ hline,CZ,Ch]
   have tl:((fs.take (j+1)).flatMap (jr_ n x)).length<=1000000:=Ag (vD_ _ _ _) (Ag s4 e48)
   refine⟨_,rfl,_,rfl,-1,rfl,a,line,rfl,rfl,rfl,ha2,λt1 H3 s4' ht1=>?_⟩
   refine⟨_,rfl,(by show 1<=sizeLine;decide),λt2 ht2=>?_⟩
   have s5:=qd_ ht2 (.tup [.int x])
   refine zc_ (r:=line.drop (line.length-1)) (r':=[x]) (s5 _ _ ht1) qc_ (small (by rw[Bf];show _+1<=_;omega)) λt3 H4 s6 ht3=>?_
   refine⟨t3,line.drop (line.length-1)++[x],rfl,SqT.of ht3,by simp,λM m1 m2=>?_⟩
   have hM:=alg_ m1 m2
   have M0:0<=M:=by have:=abb_ line x;omega
   have M9:M<=1000:=by
    rw[hM]
    unfold mxl
    have x9:=(nn' x (Ah hx)).2
    cases e:line.getLast? with
    |none=>exact x9
    |some y =>
     have:=(ln.2 y (DU e)).2
     show(if y<x then x else y)<=1000
     split<;>omega
   have s14:Same H1 H4:=s3.trans (s4'.trans (s5.trans s6))
   have hY4:=hY.mono (s4'.trans (s5.trans s6))
   refine⟨_,rfl,M,n,rfl,⟨by omega,by omega,by omega,by omega⟩,?_⟩
   refine jc_ (lo:=M) (n:=((n:Int)-M).toNat) (λk σ H'=>(∃c6,σ=[some (.ref p),some (.int n),some (.ref l),some (.int x),some (.ref l2),some (.ref a),c6])/\Same H1 H'/\LstAt H' l2 ((fs.take j).flatMap (jr_ n x)++((jp_ M n).take k).map λk=>line++[k])) ?_ ?_ ?_
   ·refine⟨⟨_,rfl⟩,s14,?_⟩
    rw[CQ,C2,BP]
    exact hY4
   ·rintro k σ H5 hk ⟨⟨c6,rfl⟩,s7,⟨ys,eY,iY⟩⟩
    have ly:=AT iY
    have lr:(jp_ M n).length=((n:Int)-M).toNat:=by unfold jp_;rw[AA,Bt]
    have e1:jr_ n x line=(jp_ M n).map λk=>line++[k]:=by rw[hM];rfl
    have l9:ys.length<=1000000:=by
     rw[ly]
     refine Ag ?_ tl
     rw[tk,e1,AK,AK,AA,AA,An]
     omega
    refine⟨_,rfl,.inl ⟨rfl,_,SqL.of eY⟩,_,rfl,_,rfl,(by show 1<=sizeLine;decide),λt4 h4=>?_⟩
    have s8:=qd_ h4 (.tup [.int (M+(k:Int))])
    refine zc_ (r:=line) (r':=[M+(k:Int)]) (s8 _ _ (s7 _ _ ha)) qc_ (small (by show line.length+1<=_;omega)) λt5 H6 s9 ht5=>?_
    have eY6:=s9 _ _ (s8 _ _ eY)
    have s56:=s8.trans s9
    refine⟨l2,ys,.ref t5,rfl,rfl,eY6,BH l9 (by decide),⟨_,rfl⟩,λc o z=>?_,?_⟩
    ·rw[ql_ (qA_ z hl2)]
     exact s56 _ _ (s7 _ _ z)
    ·rw[zJ_ (aje_ hk),BU,<-AX]
     refine agw_ (H:=H5) (p:=t5) (λc xs z=>?_) iY ?_ qc_
     ·have z6:=s56 _ _ z
      rw[ql_ (zW_ z6 eY6 (by intro z;cases z))]
      exact z6
     ·rw[ql_ (zW_ ht5 eY6 (by intro z;cases z))]
      exact ht5
   ·rintro σ H5 ⟨⟨c6,rfl⟩,s7,hY5⟩
    refine⟨⟨_,_,rfl⟩,s7,?_⟩
    have lr:(jp_ M n).length=((n:Int)-M).toNat:=by unfold jp_;rw[AA,Bt]
    rw[Aj (l:=jp_ M n) (by rw[lr];exact AH _)]at hY5
    have e1:jr_ n x line=(jp_ M n).map λk=>line++[k]:=by rw[hM];rfl
    rw[tk,e1]
    exact hY5
  ·rintro σ H2 ⟨⟨c5,c6,rfl⟩,s3,hY⟩
   rw[Aj (by omega)]at hY
   refine⟨_,rfl,⟨l2,_,_,_,_,rfl,?_,sH.free hl2⟩,sH.trans s3⟩
   rw[st]
   exact hY
 ·rintro σ H1 ⟨⟨l,c3,c4,c5,c6,rfl,hL,fl⟩,sH⟩
  rw[AA,DH]at hL
  exact⟨_,rfl,q l _ fl sH hL⟩
abbrev nLn:List Str:=["lines", "inner", "outer", "place", "length", "above"]
abbrev bLn:List Str:=["number"]
theorem ndLn:bLn.Nodup:=by decide +kernel
theorem scLn:FnScope nLn ["lines", "inner", "outer"] (qi_ sLn):=⟨rfl,rfl,rfl,by decide +kernel,rfl,by decide +kernel,by decide +kernel⟩
def jq_(d r:List Int)(lines:List (List Int)):List Int:=match lines.getLast? with
 |none=>List.replicate (r.getD 0 0-d.getD 0 0).toNat 0
 |some l=>(List.replicate (d.getD (lines.length-1) 0-d.getD lines.length 0).toNat 0++l.map (· + 1)).take (r.getD lines.length 0-d.getD lines.length 0).toNat
def xm_(n:Nat)(d r:List Int)(lines:List (List Int)):List (List (List Int)):=(lf n (jq_ d r lines)).map λl=>lines++[l]
def wnG(n:Nat)(d r:List Int)(fs:List (List (List Int))):List (List (List Int)):=fs.flatMap (xm_ n d r)
def inB(d r:List Int):Bool:=decide (d.length=r.length)&&(List.range r.length).all λk=>decide (0<=d.getD k 0)&&decide (d.getD k 0<=r.getD k 0)&&decide (r.getD k 0<=8)&&decide (d.getD k 0<=d.getD (k-1) 0)
theorem ae0_{d r:List Int}(h:inB d r=true):d.length=r.length/\∀k,k<r.length->0<=d.getD k 0/\d.getD k 0<=r.getD k 0/\r.getD k 0<=8/\d.getD k 0<=d.getD (k-1) 0:=by
 unfold inB at h
 rw[AG,decide_eq_true_eq,AI]at h
 refine⟨h.1,λk hk=>?_⟩
 have:=h.2 k (Ad.mpr hk)
 rw[AG,AG,AG,decide_eq_true_eq,decide_eq_true_eq,decide_eq_true_eq,decide_eq_true_eq]at this
 exact⟨this.1.1.1,this.1.1.2,this.1.2,this.2⟩
theorem xi_(m k:Nat):(List.replicate m (0:Int)).getD k 0=0:=by
 rw[AF,C7]
 split<;>rfl
theorem ae1_(m:Nat)(r:List Int)(ls:List (List Int)):jq_ (List.replicate m 0) r ls=lfn r ls:=by
 unfold jq_ lfn
 cases ls.getLast? with
 |none=>simp only[xi_,Ep]
 |some l=>simp only[xi_,Ep];rfl
theorem aaq_(n m:Nat)(r:List Int)(fs:List (List (List Int))):wnG n (List.replicate m 0) r fs=wnl n r fs:=by
 unfold wnG wnl
 have:xm_ n (List.replicate m 0) r=yv_ n r:=by
  funext ls
  unfold xm_ yv_
  rw[ae1_]
 rw[this]
theorem aki_{d r:List Int}(hi:inB d r=true){lines:List (List Int)}(lt:lines.length<r.length)(hl:∀l∈lines,LOk l):(jq_ d r lines).length<=8/\∀x∈jq_ d r lines,0<=x/\x<=1000:=by
 obtain⟨_,h⟩:=ae0_ hi
 unfold jq_
 cases e:lines.getLast? with
 |none =>
  have:=h 0 (by omega)
  refine⟨?_,λx hx=>by have:=(Dj.mp hx).2;omega⟩
  show(List.replicate (r.getD 0 0-d.getD 0 0).toNat (0:Int)).length<=8
  rw[Bn]
  omega
 |some l =>
  have hm:=DU e
  have:=h lines.length lt
  refine⟨?_,λx hx=>?_⟩
  ·show((List.replicate _ (0:Int)++l.map (· + 1)).take _).length<=8
   rw[An]
   omega
  ·rcases Ap.mp (BF hx) with hx|hx
   ·have:=(Dj.mp hx).2
    omega
   ·obtain⟨y,hy,rfl⟩:=AV.mp hx
    have:=(hl l hm).2 y hy
    omega
def spLn:Sp:=λvs H Q _=>∃(a b c:Addr)(ls:List (List Int))(d r:List Int),vs=[.ref a,.ref b,.ref c]/\Dat.is H (.ref a) ls/\H b=some (.tup (d.map V.int))/\H c=some (.tup (r.map V.int))/\ls.length<r.length/\inB d r=true/\(∀l∈ls,LOk l) /\
 ∀(p:Addr)(H':Hp),Same H H'->H' p=some (.tup ((jq_ d r ls).map V.int))->Q (.ref p) H'
theorem qQ_{r:List Int}{k:Nat}(h:k<r.length):atI (r.map V.int) (k:Int)=some (.int (r.getD k 0)):=by
 refine qW_ ?_
 rw[Ac,AE h,AF,AE h]
 rfl
theorem j6_:∀k:Nat,(List.replicate k [(0:Int)]).flatten=List.replicate k 0
 |0=>rfl
 |k+1=>by rw[Ax,Bj,j6_ k,Ax];rfl
theorem ag0_{α:Type}[D:Dat α]{H:Hp}{us:List V}{as:List α}{l:α}(h:Its H us (as++[l])):∃v,atI us (-1)=some v/\D.is H v l:=by
 have lu:=AT h
 rw[AK,BZ]at lu
 obtain⟨v,e,hv⟩:=Paired.getR h (i:=as.length) (b:=l) (by simp)
 refine⟨v,?_,hv⟩
 unfold atI
 rw[ahb_ (by omega)]
 show us[us.length-1]?=some v
 rw[show us.length-1=as.length by omega]
 exact e
theorem aqf_(F:Fun K "least_for_next" "least_for_next" sLn f fd)(ml:mg "len" = none)(mt:mg "tuple" = none):FnOk P w K mg base CX0 2 f fd ["lines", "inner", "outer"] spLn:=by
 refine F.ok scLn (λvs H Q E h=>?_) (λcdv A outer s H vs Q E hr h=>?_)
 ·obtain⟨a,b,c,ls,d,r,rfl,_⟩:=h
  rfl
 obtain⟨a,b,c,ls,d,r,rfl,⟨a',us,ea,ha,iA⟩,hb,hc,lt,hi,hL,q⟩:=h
 obtain⟨ld,hI⟩:=ae0_ hi
 obtain⟨i0,i1,i2,i3⟩:=hI ls.length lt
 cases ea
 refine⟨_,qe_ (qp_ (i:=3) scLn.nd rfl (Or.inl rfl) (qh_ qm_ rfl ml Al (qa_ (pv 0) qb_)))
  (qe_ (qp_ (i:=4) scLn.nd rfl (Or.inl rfl) (qj_ qU_ (qs_ qB_ (pv 2) (pv 3) (λ_ _=>rfl)) (qs_ qB_ (pv 1) (pv 3) (λ_ _=>rfl))))
  (qe_ (qD_ (qo_ v9_ (pv 3) qf_ (qn_ _)) (qg_ (qq_ (qj_ yn_ (qu_ (qa_ qf_ qb_)) (pv 4)))) qt_)
  (qe_ (qp_ (i:=5) scLn.nd rfl (Or.inl rfl) (qj_ zh_ (qj_ yn_ (qu_ (qa_ qf_ qb_)) (qj_ qU_ (qs_ qB_ (pv 1) (qj_ qU_ (pv 3) qf_) (λ_ _=>rfl)) (qs_ qB_ (pv 1) (pv 3) (λ_ _=>rfl))))
   (zC_ zG_ rfl mt Be (qa_ (q8_ (N':=bLn) (src:=[none]) rfl (z3_ (qs_ qB_ (pv 0) (v8_ yR_ qf_) (λ_ _=>rfl))) (zq_ (qi_ sLn) nLn (by decide +kernel))
    (λb=>qk_ (i:=0) ndLn rfl (Or.inl rfl)) (λb=>zz_) (λb=>qj_ zP_ (pv 0) qf_)) qb_))))
  (qg_ (qq_ (jy_ agd_ (pv 5) jQ_ (jN_ (pv 4)))))))),?_⟩
 have lu:=AT iA
 refine⟨_,rfl,a,us,rfl,.inr (SqT.of ha),?_⟩
 rw[lu]
 obtain⟨k,hk,k8⟩:∃k:Nat,r.getD ls.length 0-d.getD ls.length 0=k/\k<=8:=⟨(r.getD ls.length 0-d.getD ls.length 0).toNat,by omega,by omega⟩
 refine⟨_,rfl,_,rfl,c,_,_,.int (r.getD ls.length 0),rfl,rfl,SqT.of hc,qQ_ lt,_,rfl,_,rfl,b,_,_,.int (d.getD ls.length 0),rfl,rfl,SqT.of hb,qQ_ (by omega),_,_,rfl,rfl,?_⟩
 show zy_ 4 (V.int (r.getD ls.length 0-d.getD ls.length 0)) _ _ _
 rw[hk]
 refine⟨_,rfl,rfl,_,rfl,?_⟩
 by_cases e0:ls=[]
 ·subst e0
  refine zD_ rfl ?_
  refine⟨(by show 1<=sizeLine;decide),λt0 h0=>⟨_,rfl,t0,[0],k,rfl,rfl,qc_,by simp,by omega,by omega,small (by show 1*(k:Int).toNat<=_;omega),λt1 H1 s1 h1=>?_⟩⟩
  refine q t1 _ ((qd_ h0 _).trans s1) ?_
  rw[h1]
  unfold jq_
  have hk':r.getD 0 0-d.getD 0 0=(k:Int):=hk
  show _=some (HO.tup ((List.replicate (r.getD 0 0-d.getD 0 0).toNat (0:Int)).map V.int))
  rw[hk',At]
  rw[j6_]
 ·refine za_ (λz=>e0 ?_) ?_
  ·injection z with z
   exact BD.mp (by omega)
  obtain⟨as,l,e⟩:∃as l,ls=as++[l]:=⟨_,_,(BN e0).symm⟩
  have ll:ls.length=as.length+1:=by rw[e];simp
  obtain⟨hl8,hl0⟩:=hL l (by rw[e];simp)
  have iA':=iA
  rw[e]at iA'
  obtain⟨v,atv,hv⟩:=ag0_ iA'
  obtain⟨pl,rfl,hpl⟩:=qO_ hv
  have z1:atI (d.map V.int) ((ls.length:Int)-1)=some (.int (d.getD (ls.length-1) 0)):=by
   rw[show(ls.length:Int)-1=((ls.length-1:Nat):Int) by omega]
   exact qQ_ (by omega)
  refine⟨(by show 1<=sizeLine;decide),λt0 h0=>?_⟩
  have s0:=qd_ h0 (.tup [.int 0])
  refine⟨_,rfl,_,rfl,_,_,rfl,rfl,b,_,_,.int (d.getD (ls.length-1) 0),rfl,rfl,SqT.of (s0 _ _ hb),z1,_,rfl,_,rfl,b,_,_,.int (d.getD ls.length 0),rfl,rfl,SqT.of (s0 _ _ hb),qQ_ (by omega),_,_,rfl,rfl,?_⟩
  have i4:=hI (ls.length-1) (by omega)
  refine⟨t0,[0],_,rfl,rfl,qc_,by simp,by omega,by omega,small (by show 1*(d.getD (ls.length-1) 0-d.getD ls.length 0).toNat<=_;omega),λt1 H1 s1 h1=>?_⟩
  rw[j6_]at h1
  have s01:=s0.trans s1
  refine⟨_,rfl,_,rfl,a,us,-1,.ref pl,rfl,rfl,SqT.of (s01 _ _ ha),atv,pl,rfl,⟨_,SqT.of (s01 _ _ hpl)⟩,λbk D hD=>?_⟩
  refine j3_ (α:=Int) hD (SqT.of (s01 _ _ hpl)) (λσ=>∃c,σ=[c]) (λi=>(l[i]?).bind λx=>some (x+1)) (small (by rw[AA];omega)) ?_ ?_ ?_
  ·exact⟨_,rfl⟩
  ·rintro i v σ H2 Yes No hv ⟨c,rfl⟩ s3 yes no
   obtain⟨x,hx,rfl⟩:∃x,l[i]?=some x/\V.int x=v:=by
    rw[Ac]at hv
    cases e:l[i]? with
    |none=>rw[e]at hv;cases hv
    |some y=>rw[e]at hv;exact⟨y,rfl,AW hv⟩
   refine z7_ ?_
   exact⟨_,rfl,_,_,rfl,rfl,yes _ _ _ (x+1) ⟨_,rfl⟩ (Same.refl _) (by rw[hx];rfl) rfl⟩
  rintro H2 s2 ⟨ws,eD,iD⟩
  have ez:(List.range (l.map V.int).length).filterMap (λi=>(l[i]?).bind λx=>some (x+1))=l.map (· + 1):=by
   rw[AA,zg_,BM]
  rw[zF_ iD,ez]at eD
  refine⟨D,_,rfl,.inl ⟨SqL.of eD,λt4 h4=>?_⟩⟩
  have s4:=qd_ h4 (.tup ((l.map (· + 1)).map V.int))
  refine zc_ (r:=List.replicate (d.getD (ls.length-1) 0-d.getD ls.length 0).toNat 0) (r':=l.map (· + 1)) (s4 _ _ (s2 _ _ h1)) qc_ (small (by rw[AA,Bn];omega)) λt5 H5 s5 ht5=>?_
  refine⟨_,rfl,_,rfl,(k:Int),rfl,t5,List.replicate (d.getD (ls.length-1) 0-d.getD ls.length 0).toNat 0++l.map (· + 1),k,rfl,rfl,rfl,ht5,λt6 H6 s6 ht6=>?_⟩
  refine q t6 _ (s01.trans (s2.trans (s4.trans (s5.trans s6)))) ?_
  rw[ht6]
  have ef:jq_ d r ls=(List.replicate (d.getD (ls.length-1) 0-d.getD ls.length 0).toNat 0++l.map (· + 1)).take (r.getD ls.length 0-d.getD ls.length 0).toNat:=by
   unfold jq_
   rw[e,Ei,ED]
   rfl
  rw[ef,hk,At]
abbrev nWn:List Str:=["many", "found", "inner", "outer", "longer", "lines", "line"]
theorem scWn:FnScope nWn ["many", "found", "inner", "outer"] (qi_ sWn):=⟨rfl,rfl,rfl,by decide +kernel,rfl,by decide +kernel,by decide +kernel⟩
def spWn:Sp:=λvs H Q _=>∃(a b c:Addr)(n j:Nat)(fs:List (List (List Int)))(d r:List Int),vs=[.int n,.ref a,.ref b,.ref c]/\LstAt H a fs/\H b=some (.tup (d.map V.int))/\H c=some (.tup (r.map V.int))/\n<=4/\j<r.length/\r.length<=8/\inB d r=true/\FOk r j fs/\(wnG n d r fs).length<=1000 /\
 ∀(l:Addr)(H':Hp),H l=none->Same H H'->LstAt H' l (wnG n d r fs)->Q (.ref l) H'
theorem aej_{K:PySem.W.Frag}{H:Hp}{a b:Addr}{us:List V}{ls:List (List Int)}{l:List Int}{q:Addr}{Q:VK}(ha:H a=some (.tup us))(ia:Its H us ls)(hq:H q=some (.tup (l.map V.int)))(hb:H b=some (.tup [.ref q]))(hz:ls.length<=100)
  (g:∀p H',Same H H'->Dat.is H' (.ref p) (ls++[l])->Q (.ref p) H'):ac9_ K (.ref a) (.ref b) H Q:=by
 have lu:=AT ia
 refine⟨a,b,us,[.ref q],rfl,rfl,SqT.of ha,SqT.of hb,small (by show us.length+1<=_;omega),λe=>?_,(λ_ e=>by cases e),λ_ _ p hp=>?_⟩
 ·subst e
  cases ia
  exact g b H (Same.refl _) ⟨b,[.ref q],rfl,hb,.cons (zR_ hq) .nil⟩
 ·refine g p _ (qd_ hp _) ⟨p,us++[.ref q],rfl,qc_,?_⟩
  exact Paired.app (Its.mono (abs_ hp _) ia) (.cons (zR_ (qd_ hp _ _ _ hq)) .nil)
theorem an5_(F:Fun K "with_next_line" "with_next_line" sWn f fd)(GL:Has P w K mg base 2 "lines_from" ["least_numbers", "many"] spLf)(GN:Has P w K mg base 2 "least_for_next" ["lines", "inner", "outer"] spLn):FnOk P w K mg base CX0 3 f fd ["many", "found", "inner", "outer"] spWn:=by
 refine F.ok scWn (λvs H Q E h=>?_) (λcdv A outer s H vs Q E hr h=>?_)
 ·obtain⟨a,b,c,n,j,fs,d,r,rfl,_⟩:=h
  rfl
 obtain⟨a,b,c,n,j,fs,d,r,rfl,⟨us,eL,iL⟩,hb,hc,n4,jr,r8,hi,hF,hw,q⟩:=h
 refine⟨_,qe_ (qp_ (i:=4) scWn.nd rfl (Or.inl rfl) (qE_ qb_))
  (qe_ (qL_ Ao rfl (q0_ (pv 1)) (qk_ (i:=5) scWn.nd rfl (Or.inl rfl))
   (qg_ (qL_ Ao rfl (q0_ (qr_ GL hr rfl (qa_ (qr_ GN hr rfl (qa_ (pv 5) (qa_ (pv 2) (qa_ (pv 3) qb_)))) (qa_ (pv 0) qb_)))) (qk_ (i:=6) scWn.nd rfl (Or.inl rfl))
    (qg_ (zp_ (y0_ Br CT CU z9_ (pv 4) (qa_ (qj_ zh_ (pv 5) (qu_ (qa_ (pv 6) qb_))) qb_)))))))
  (qg_ (qq_ (pv 4)))),?_⟩
 have lu:=AT iL
 refine⟨(by show 0<=sizeLine;decide),λl2 hl2=>?_⟩
 have s0:=qd_ hl2 (.lst [])
 refine⟨_,rfl,a,rfl,⟨_,SqL.of (s0 _ _ eL)⟩,?_⟩
 refine zk_ (xs:=us) (λi σ H'=>(∃c5 c6,σ=[some (.int n),some (.ref a),some (.ref b),some (.ref c),some (.ref l2),c5,c6])/\Same H H'/\LstAt H' l2 ((fs.take i).flatMap (xm_ n d r))) ?_ ?_ ?_ ?_
 ·exact⟨⟨_,_,rfl⟩,s0,⟨[],qc_,.nil⟩⟩
 ·rintro i σ H1 _ ⟨_,s1,_⟩
  exact SqL.of (s1 _ _ eL)
 ·rintro i v σ H1 hv ⟨⟨c5,c6,rfl⟩,s1,hY⟩
  obtain⟨ls,hls,hI⟩:=q4_ iL hv
  obtain⟨p,ws,rfl,hp,ip⟩:=hI
  have hm:=Ah hls
  obtain⟨fl,fo⟩:=hF ls hm
  obtain⟨n1,n2⟩:=aki_ hi (lines:=ls) (by omega) fo
  have ll:(lf n (jq_ d r ls)).length<=4^8:=Ag (abc_ n4 rfl λy hy=>(n2 y hy).1) (Cr (by decide) n1)
  have tk:(fs.take (i+1)).flatMap (xm_ n d r)=(fs.take i).flatMap (xm_ n d r)++xm_ n d r ls:=by rw[zJ_ hls,CZ,Ch]
  have tl:((fs.take (i+1)).flatMap (xm_ n d r)).length<=1000:=Ag (vD_ _ _ _) hw
  refine⟨_,rfl,_,rfl,_,rfl,p,b,c,ls,d,r,rfl,⟨p,ws,rfl,s1 _ _ hp,Its.mono (Tups.same s1) ip⟩,s1 _ _ hb,s1 _ _ hc,by omega,hi,fo,λt1 H2 s2 ht1=>?_⟩
  refine⟨_,rfl,t1,n,jq_ d r ls,rfl,ht1,n4,n1,n2,λl3 H3 fl3 s3 hL3=>?_⟩
  obtain⟨zs,eZ,iZ⟩:=hL3
  have lz:=AT iZ
  have ew:xm_ n d r ls=(lf n (jq_ d r ls)).map λl=>ls++[l]:=rfl
  have nnl:=adk_ (n:=n) λy hy=>(n2 y hy).1
  generalize lf n (jq_ d r ls)=ms at iZ ll lz ew nnl
  have s13:Same H1 H3:=s2.trans s3
  refine⟨l3,rfl,⟨_,SqL.of eZ⟩,?_⟩
  have hY3:=hY.mono s13
  have nl:l3≠l2:=by
   obtain⟨y1,e1,_⟩:=id hY
   exact(qA_ (s2 _ _ e1) fl3).symm
  refine zk_ (xs:=zs) (λk σ H'=>(∃c6,σ=[some (.int n),some (.ref a),some (.ref b),some (.ref c),some (.ref l2),some (.ref p),c6])/\Same H H'/\H' l3=some (.lst zs)/\Tups H3 H'/\LstAt H' l2 ((fs.take i).flatMap (xm_ n d r)++(ms.take k).map λl=>ls++[l])) ?_ ?_ ?_ ?_
  ·refine⟨⟨_,rfl⟩,s1.trans s13,eZ,Tups.refl _,?_⟩
   rw[CQ,C2,BP]
   exact hY3
  ·rintro k σ H4 _ ⟨_,_,h3,_⟩
   exact SqL.of h3
  ·rintro k v σ H4 hv ⟨⟨c6,rfl⟩,s4,h3,tp,⟨ys,eY,iY⟩⟩
   obtain⟨l,hl,hi⟩:=q4_ iZ hv
   obtain⟨pq,rfl,hpq⟩:=qO_ hi
   have ly:=AT iY
   have l9:ys.length<=1000:=by
    rw[ly]
    refine Ag ?_ tl
    rw[tk,ew,AK,AK,AA,AA,An]
    omega
   refine⟨_,rfl,.inl ⟨rfl,_,SqL.of eY⟩,_,rfl,_,rfl,(by show 1<=sizeLine;decide),λt4 h4=>?_⟩
   have s5:=qd_ h4 (.tup [.ref pq])
   refine aej_ (us:=ws) (ls:=ls) (l:=l) (q:=pq) (s5 _ _ (s4 _ _ hp)) (Its.mono (Tups.same (s4.trans s5)) ip) (s5 _ _ (tp _ _ hpq)) qc_ (by omega) λt5 H6 s6 ht5=>?_
   have s46:=s5.trans s6
   have eY6:=s46 _ _ eY
   refine⟨l2,ys,.ref t5,rfl,rfl,eY6,j7_ (by omega),⟨_,rfl⟩,λc o z=>?_,?_,λc xs z=>?_,?_⟩
   ·rw[ql_ (qA_ z hl2)]
    exact s46 _ _ (s4 _ _ z)
   ·rw[ql_ nl]
    exact s46 _ _ h3
   ·have z6:=s46 _ _ (tp _ _ z)
    rw[ql_ (zW_ z6 eY6 (by intro z;cases z))]
    exact z6
   ·rw[zJ_ hl,BU,<-AX]
    refine⟨ys++[.ref t5],qc_,Paired.app (Its.mono (λc xs z=>?_) iY) (.cons (Dat.mono (λc xs z=>?_) ht5) .nil)⟩
    ·have z6:=s46 _ _ z
     rw[ql_ (zW_ z6 eY6 (by intro z;cases z))]
     exact z6
    ·rw[ql_ (zW_ z eY6 (by intro z;cases z))]
     exact z
  ·rintro σ H4 ⟨⟨c6,rfl⟩,s4,h3,tp,hY4⟩
   refine⟨⟨_,_,rfl⟩,s4,?_⟩
   rw[Aj (l:=ms) (by omega)]at hY4
   rw[tk,ew]
   exact hY4
 ·rintro σ H1 ⟨⟨c5,c6,rfl⟩,s1,hY⟩
  rw[Aj (by omega)]at hY
  exact⟨_,rfl,q l2 _ hl2 s1 hY⟩
abbrev nFil:List Str:=["many", "row", "inner", "found", "again"]
theorem scFil:FnScope nFil ["many", "row"] (qi_ sFil):=⟨rfl,rfl,rfl,by decide +kernel,rfl,by decide +kernel,by decide +kernel⟩
theorem xf_{r:List Int}(h:qH_ r=true):(∀x∈r,1<=x/\x<=8)/\(r.Pairwise λa b=>b<=a)/\r.sum<=8:=by
 unfold qH_ at h
 rw[AG,AG,AI,AI,decide_eq_true_eq]at h
 obtain⟨⟨h1,h2⟩,h3⟩:=h
 have p:∀x∈r,0<=x:=λx hx=>by have:=of_decide_eq_true (h1 x hx);omega
 refine⟨λx hx=>⟨of_decide_eq_true (h1 x hx),by have:=(yX_ p hx).1;omega⟩,?_,h3⟩
 have step:∀i,i+1<r.length->r.getD (i+1) 0<=r.getD i 0:=λi hi=>of_decide_eq_true (h2 i (Ad.mpr (by omega)))
 have all:∀k i,i+k<r.length->r.getD (i+k) 0<=r.getD i 0:=by
  intro k
  induction k with
  |zero=>intro i _;exact CC _
  |succ k ih =>
   intro i hi
   have:=ih i (by omega)
   have:=step (i+k) (by omega)
   rw[show i+(k+1)=i+k+1 by omega]
   omega
 refine BV.mpr λi j hi hj hij=>?_
 have:=all (j-i) i (by omega)
 rw[show i+(j-i)=j by omega,AF,AF,AE hi,AE hj]at this
 exact this
structure NR(n:Nat)(r:List Int):Prop where
 n1:1<=n
 n4:n<=4
 row:qH_ r=true
 len:r.length<=8
 few:∀j,j<=r.length->(zZ_ n r j).length<=1000
def aik_:Sp:=λvs H Q _=>∃(p:Addr)(n:Nat)(r:List Int),vs=[.int n,.ref p]/\H p=some (.tup (r.map V.int))/\NR n r/\∀(l:Addr)(H':Hp),H l=none->Same H H'->LstAt H' l (fil n r)->Q (.ref l) H'
theorem al7_(F:Fun K "fillings" "fillings" sFil f fd)(GB:Has P w K mg base 3 "refuse_bad_row" nRb air_)(GC:Has P w K mg base 3 "refuse_bad_count" ["many"] aio_)(GW:Has P w K mg base 3 "with_next_line" ["many", "found", "inner", "outer"] spWn)(ml:mg "len" = none):FnOk P w K mg base CX0 4 f fd ["many", "row"] aik_:=by
 refine F.ok scFil (λvs H Q E h=>?_) (λcdv A outer s H vs Q E hr h=>?_)
 ·obtain⟨p,n,r,rfl,_⟩:=h
  rfl
 obtain⟨p,n,r,rfl,hp,nr,q⟩:=h
 obtain⟨n1,n4,hB,hl,few⟩:=nr
 refine⟨_,qe_ (zp_ (qr_ GB hr rfl (qa_ (pv 1) qb_)))
  (qe_ (zp_ (qr_ GC hr rfl (qa_ (pv 0) qb_)))
  (qe_ (qp_ (i:=2) scFil.nd rfl (Or.inl rfl) (qj_ yn_ (qu_ (qa_ qf_ qb_)) (qh_ qm_ rfl ml Al (qa_ (pv 1) qb_))))
  (qe_ (qp_ (i:=3) scFil.nd rfl (Or.inl rfl) (qE_ (qa_ (qu_ qb_) qb_)))
  (qe_ (qL_ Ao rfl (z3_ (pv 1)) (qk_ (i:=4) scFil.nd rfl (Or.inl rfl))
   (qg_ (qp_ (i:=3) scFil.nd rfl (Or.inl rfl) (qr_ GW hr rfl (qa_ (pv 0) (qa_ (pv 3) (qa_ (pv 2) (qa_ (pv 1) qb_))))))))
  (qg_ (qq_ (pv 3))))))),?_⟩
 obtain⟨r1,r2,r3⟩:=xf_ hB
 have h8:∀x∈r,0<=x/\x<=8:=λx hx=>by have:=r1 x hx;omega
 have hi:inB (List.replicate r.length 0) r=true:=by
  unfold inB
  rw[AG,decide_eq_true_eq,AI]
  refine⟨Bn ..,λk hk=>?_⟩
  have hk:=Ad.mp hk
  have e:r.getD k 0=r[k]:=by rw[AF,AE hk];rfl
  have:=h8 r[k] (Bp _)
  rw[xi_,xi_,e,decide_eq_true (show(0:Int)<=0 by decide),decide_eq_true (show(0:Int)<=r[k] by omega),decide_eq_true (show r[k]<=8 by omega)]
  rfl
 refine⟨_,rfl,p,r,rfl,hp,by omega,hB,λH1 s1=>?_⟩
 refine⟨_,rfl,n,rfl,by omega,by omega,?_⟩
 refine⟨(by show 1<=sizeLine;decide),λt0 h0=>?_⟩
 have s2:=qd_ h0 (.tup [.int 0])
 refine⟨_,rfl,p,_,rfl,.inr (SqT.of (s2 _ _ (s1 _ _ hp))),?_⟩
 rw[AA]
 refine⟨t0,[0],(r.length:Int),rfl,rfl,qc_,by simp,by omega,by omega,small (by show 1*_<=_;omega),λt1 H2 s3 h1=>?_⟩
 rw[At,j6_]at h1
 refine⟨(by show 0<=sizeLine;decide),λt2 h2=>⟨(by show 1<=sizeLine;decide),λl0 hl0=>?_⟩⟩
 have s4:=qd_ h2 (.tup [])
 have s5:=qd_ hl0 (.lst [.ref t2])
 have sA:=s1.trans (s2.trans (s3.trans (s4.trans s5)))
 refine⟨_,rfl,p,rfl,⟨_,SqT.of (sA _ _ hp)⟩,?_⟩
 refine xv_ (xs:=r.map V.int) (λi σ H'=>(∃(l:Addr)(c4:Option V),σ=[some (.int n),some (.ref p),some (.ref t1),some (.ref l),c4]/\LstAt H' l (zZ_ n r i)/\H l=none)/\Same H H'/\H' t1=some (.tup ((List.replicate r.length (0:Int)).map V.int))) ?_ ?_ ?_ ?_
 ·exact⟨⟨l0,_,rfl,⟨[.ref t2],qc_,.cons ⟨t2,[],rfl,s5 _ _ qc_,.nil⟩ .nil⟩,s1.free (s2.free (s3.free (s4.free hl0)))⟩,sA,s5 _ _ (s4 _ _ h1)⟩
 ·rintro i σ H3 _ ⟨_,sH,_⟩
  exact SqT.of (sH _ _ hp)
 ·rintro i v σ H3 hv ⟨⟨l,c4,rfl,hL,fl⟩,sH,ht1⟩
  have il:i<r.length:=by
   have:=(AR.mp hv).1
   rwa [AA]at this
  refine⟨_,rfl,_,rfl,_,rfl,_,rfl,l,t1,p,n,i,zZ_ n r i,List.replicate r.length 0,r,rfl,hL,ht1,sH _ _ hp,n4,il,by omega,hi,yj_ n4 h8 i,(by rw[aaq_];exact few (i+1) il),λl' H4 fl' s6 hL'=>?_⟩
  rw[aaq_]at hL'
  exact⟨⟨l',_,rfl,hL',sH.free fl'⟩,sH.trans s6,s6 _ _ ht1⟩
 ·rintro σ H3 ⟨⟨l,c4,rfl,hL,fl⟩,sH,ht1⟩
  rw[AA]at hL
  exact⟨_,rfl,q l _ fl sH hL⟩
abbrev nPo:List Str:=["many", "filling"]
abbrev bPo:List Str:=["number", "filling"]
abbrev bPi:List Str:=["line", "number"]
theorem ndPo:bPo.Nodup:=by decide +kernel
theorem ndPi:bPi.Nodup:=by decide +kernel
theorem scPo:FnScope nPo nPo (qi_ sPo):=⟨rfl,rfl,rfl,by decide +kernel,rfl,by decide +kernel,by decide +kernel⟩
def agf_:Stmt->Scope
 |.FunctionDef _ _ (.Return (some (.Call _ (.ListComp _ _ sc _::_) _ _)) _::_) _ _ _ _ _ _ _=>sc
 |_=>{ kind:=.function,names:=[],isGenerator:=false,isCoroutine:=false }
def spPo:Sp:=λvs H Q _=>∃(a:Addr)(n:Nat)(fl:List (List Int)),vs=[.int n,.ref a]/\Dat.is H (.ref a) fl/\n<=4/\fl.length<=100/\∀(p:Addr)(H':Hp),Same H H'->H' p=some (.tup ((pwf n fl).map V.int))->Q (.ref p) H'
theorem aqd_(F:Fun K "powers_of" "powers_of" sPo f fd)(mt:mg "tuple" = none)(ms:mg "sum" = none)(mr:mg "range" = none):FnOk P w K mg base CX0 2 f fd nPo spPo:=by
 refine F.ok scPo (λvs H Q E h=>?_) (λcdv A outer s H vs Q E hr h=>?_)
 ·obtain⟨a,n,fl,rfl,_⟩:=h
  rfl
 obtain⟨a,n,fl,rfl,hA,n4,l9,q⟩:=h
 obtain⟨a',us,ea,ha,iA⟩:=hA
 cases ea
 refine⟨_,qg_ (qq_ (zC_ zG_ rfl mt Be (qa_ (aat_ (N':=bPo) (z := "number") (src:=[none,some 1]) rfl (zA_ rfl mr (qa_ (pv 0) qb_)) (aey_ (qi_ sPo) nPo (by decide +kernel) (λ_ _=>rfl) (λ_=>rfl))
   (λb=>qk_ (i:=0) ndPo rfl (Or.inr rfl)) (λb=>zz_)
   (λb=>qh_ (af1_ rfl) rfl ms BJ (qa_ (q8_ (N':=bPi) (src:=[none,some 0]) rfl (z3_ (pv 1)) (zq_ (relabel (agf_ sPo) { (default:Env) with scope:=qi_ sPo }) bPo (by decide +kernel))
    (λb2=>qk_ (i:=0) ndPi rfl (Or.inl rfl)) (λb2=>zz_) (λb2=>akf_ (pv 0) (qa_ (pv 1) qb_))) qb_))) qb_))),?_⟩
 have en:(n:Int).toNat=n:=by omega
 have lu:=AT iA
 refine⟨_,rfl,(n:Int),rfl,by omega,by omega,λbk D hD=>?_⟩
 refine jo_ (α:=Int) hD (λσ=>∃c,σ=[c,some (.ref a)]) (λ(i:Nat)=>some ((fl.map λl=>((l.count (i:Int):Nat):Int)).sum)) (small (by omega)) ?_ ?_ ?_
 ·exact⟨_,rfl⟩
 ·rintro i σ H2 Yes No hi ⟨c,rfl⟩ s2 yes no
  refine z7_ ?_
  have e0:(0:Int)+(i:Int)=(i:Int):=by omega
  rw[e0]
  refine⟨_,rfl,a,rfl,⟨_,SqT.of (s2 _ _ ha)⟩,λbk2 D2 hD2=>?_⟩
  refine j3_ (α:=Int) hD2 (SqT.of (s2 _ _ ha)) (λσ=>∃c,σ=[c,some (.int (i:Int))]) (λj=>(fl[j]?).bind λl=>some ((l.count (i:Int):Nat):Int)) (small (by omega)) ?_ ?_ ?_
  ·exact⟨_,rfl⟩
  ·rintro j v σ H3 Yes2 No2 hv ⟨c2,rfl⟩ s3 yes2 no2
   obtain⟨l,hl,hi2⟩:=q4_ iA hv
   obtain⟨p,rfl,hp⟩:=qO_ hi2
   have hp3:=s3 _ _ (s2 _ _ hp)
   refine z7_ ?_
   exact⟨_,rfl,p,l,rfl,hp3,_,rfl,(i:Int),rfl,hp3,yes2 _ _ _ _ ⟨_,rfl⟩ (Same.refl _) (by rw[hl];rfl) rfl⟩
  ·rintro H3 s3 ⟨ws,eD,iD⟩
   have ez:(List.range us.length).filterMap (λj=>(fl[j]?).bind λl=>some ((l.count (i:Int):Nat):Int))=fl.map λl=>((l.count (i:Int):Nat):Int):=by
    rw[lu,zg_,BM]
   rw[zF_ iD,ez]at eD
   exact⟨D2,_,rfl,SqL.of eD,yes _ _ _ _ ⟨_,rfl⟩ s3 rfl rfl⟩
 ·rintro H2 s2 ⟨ws,eD,iD⟩
  have ez:((List.range (n:Int).toNat).filterMap λ(i:Nat)=>some ((fl.map λl=>((l.count (i:Int):Nat):Int)).sum))=pwf n fl:=by
   rw[en,BM]
   rfl
  rw[zF_ iD,ez]at eD
  refine⟨D,_,rfl,.inl ⟨SqL.of eD,λt h=>?_⟩⟩
  exact q t _ (s2.trans (qd_ h _)) qc_
abbrev nFs:List Str:=["many", "row"]
abbrev bFs:List Str:=["filling", "many"]
theorem ndFs:bFs.Nodup:=by decide +kernel
theorem scFs:FnScope nFs nFs (qi_ sFs):=⟨rfl,rfl,rfl,by decide +kernel,rfl,by decide +kernel,by decide +kernel⟩
def spFs:Sp:=λvs H Q _=>∃(p:Addr)(n:Nat)(r:List Int),vs=[.int n,.ref p]/\H p=some (.tup (r.map V.int))/\NR n r/\∀(l:Addr)(H':Hp),H l=none->Same H H'->LstAt H' l (norm (qx_ n r))->Q (.ref l) H'
theorem aj4_{n:Nat}{r:List Int}(nr:NR n r):∀f∈fil n r,f.length<=8:=λf hf=>by
 have h8:∀x∈r,0<=x/\x<=8:=λx hx=>by have:=(xf_ nr.row).1 x hx;omega
 have:=(yj_ nr.n4 h8 r.length f hf).1
 have:=nr.len
 have:=nr.n4
 omega
theorem aoo_(F:Fun K "filled_sum" "filled_sum" sFs f fd)(GG:Has P w K mg base 4 "gathered" ["terms"] af0_)(GP:Has P w K mg base 4 "powers_of" nPo spPo)(GF:Has P w K mg base 4 "fillings" ["many", "row"] aik_):FnOk P w K mg base CX0 5 f fd nFs spFs:=by
 refine F.ok scFs (λvs H Q E h=>?_) (λcdv A outer s H vs Q E hr h=>?_)
 ·obtain⟨p,n,r,rfl,_⟩:=h
  rfl
 obtain⟨p,n,r,rfl,hp,nr,q⟩:=h
 refine⟨_,qg_ (qq_ (qr_ GG hr rfl (qa_ (q8_ (N':=bFs) (src:=[none,some 0]) rfl (q0_ (qr_ GF hr rfl (qa_ (pv 0) (qa_ (pv 1) qb_)))) (zq_ (qi_ sFs) nFs (by decide +kernel))
   (λb=>qk_ (i:=0) ndFs rfl (Or.inl rfl)) (λb=>zz_) (λb=>qu_ (qa_ (qr_ GP hr rfl (qa_ (pv 1) (qa_ (pv 0) qb_))) (qa_ qf_ qb_)))) qb_))),?_⟩
 have fo:=aj4_ nr
 have few:=nr.few r.length (AH _)
 have n1:=nr.n1
 refine⟨_,rfl,_,rfl,p,n,r,rfl,hp,nr,λl H1 hl s1 hL=>?_⟩
 obtain⟨us,eL,iL⟩:=id hL
 have lu:=AT iL
 have few':(fil n r).length<=1000:=few
 refine⟨l,rfl,⟨_,SqL.of eL⟩,λbk D hD=>?_⟩
 refine xl_ (α:=Mon) hD (SqL.of eL) (λσ=>∃c,σ=[c,some (.int n)]) (λi=>((fil n r)[i]?).bind λf=>some (pwf n f,(1:Int))) (small (by omega)) ?_ ?_ ?_
 ·exact⟨_,rfl⟩
 ·rintro i v σ H2 Yes No hv ⟨c,rfl⟩ s2 yes no
  obtain⟨fl,hf,hi⟩:=q4_ iL hv
  have f8:=fo fl (Ah hf)
  obtain⟨pf,ws,rfl,hpf,ip⟩:=hi
  refine z7_ ?_
  refine⟨_,rfl,_,rfl,pf,n,fl,rfl,⟨pf,ws,rfl,s2 _ _ hpf,Its.mono (Tups.same s2) ip⟩,nr.n4,by omega,λt H3 s3 ht=>?_⟩
  refine⟨(by show 2<=sizeLine;decide),λt2 h2=>?_⟩
  exact yes _ _ _ (pwf n fl,1) ⟨_,rfl⟩ (s3.trans (qd_ h2 _)) (by rw[hf];rfl) (abt_ qc_ (qd_ h2 _ _ _ ht))
 ·rintro H2 s2 hD2
  have ez:(List.range us.length).filterMap (λi=>((fil n r)[i]?).bind λf=>some (pwf n f,(1:Int)))=qx_ n r:=by
   rw[lu,zg_,BM]
   rfl
  rw[ez]at hD2
  have lt:(qx_ n r).length<=1000:=by unfold qx_;rw[AA];exact few'
  refine⟨D,qx_ n r,rfl,hD2,λt ht=>?_,by omega,λl2 H3 fl2 s3 hL3=>q l2 _ (s1.free (s2.free fl2)) (s1.trans (s2.trans s3)) hL3⟩
  unfold qx_ at ht
  obtain⟨f,_,rfl⟩:=AV.mp ht
  intro z
  have:=aj7_ n f
  have z':pwf n f=[]:=z
  rw[z']at this
  simp at this
  omega
def rws:Nat->Nat->Nat->List (List Int)
 |0,_,_=>[[]]
 |m+1,top,left=>[]::(List.range (min top left)).flatMap λ(i:Nat)=>(rws m (i+1) (left-(i+1))).map λr=>((i+1:Nat):Int)::r
theorem vj_:∀(m:Nat)(r:List Int)(top left:Nat),r.length<=m->(r.Pairwise λa b=>b<=a)->(∀x∈r,0<x)->(∀x∈r,x<=(top:Int))->r.sum<=(left:Int)->r∈rws m top left
 |0,[],_,_,_,_,_,_,_=>by simp [rws]
 |0,x::r,_,_,h,_,_,_,_=>by simp at h
 |m+1,[],_,_,_,_,_,_,_=>by simp [rws]
 |m+1,x::r,top,left,h,f,p,t,s=>by
  obtain⟨f1,f2⟩:=Ab.mp f
  have px:=p x (AD ..)
  have tx:=t x (AD ..)
  rw[Aq]at s
  have r0:0<=r.sum:=by
   have:∀l:List Int,(∀y∈l,0<y)->0<=l.sum:=λl hl=>by
    induction l with
    |nil=>simp
    |cons y l ih =>
     rw[Aq]
     have:=hl y (AD ..)
     have:=ih λz hz=>hl z (AC _ hz)
     omega
   exact this r λy hy=>p y (AC _ hy)
  unfold rws
  refine AC _ (BB.mpr ⟨(x-1).toNat,Ad.mpr (by omega),AV.mpr ⟨r,vj_ m r _ _ (by simpa using h) f2 (λy hy=>p y (AC _ hy)) (λy hy=>?_) (by omega),?_⟩⟩)
  ·have:=f1 y hy
   omega
  ·rw[show(((x-1).toNat+1:Nat):Int)=x by omega]
def sfB(p:Pw):Bool:=(List.range (p.length-1)).all λi=>decide (p.getD (i+1) 0<p.getD i 0)
def rowK(n:Nat)(r:List Int):Bool:=decide ((qI_ n r).filter (λt=>sfB t.1)=[(ph n r,1)])&&((List.range (n-1)).all λk=>decide (norm (sws (qI_ n r) k)=norm (ngt (qI_ n r))))&&((qI_ n r).all λt=>decide (t.1.length=n)&&t.1.all λx=>decide (0<=x))&&qH_ r
theorem amf_:∀n∈([1,2,3,4]:List Nat),(rws n 8 8).all (rowK n)=true:=by decide +kernel
def tri(n:Nat):Nat:=n*(n-1) / 2
theorem jS_:∀n∈([1,2,3,4]:List Nat),qS_ n=norm (qI_ n [])/\((qS_ n).head?.map (·.2))=some 1/\degB n (tri n) 10 (qS_ n)=true/\(qS_ n).length<=24/\(rws n 8 8).length<=53/\((List.range (n-1)).all λk=>decide (norm (sws (qS_ n) k)=norm (ngt (qS_ n))))=true:=by decide +kernel
theorem xd_{n:Nat}(n1:1<=n)(n4:n<=4):n∈([1,2,3,4]:List Nat):=by
 have:n=1∨n=2∨n=3∨n=4:=by omega
 rcases this with rfl|rfl|rfl|rfl<;>simp
theorem aff_:∀p q:List Int,p.length=q.length->(p.Pairwise λa b=>b<=a)->(q.Pairwise λa b=>b<=a)->(∀x∈p,0<=x)->(∀x∈q,0<=x)->lxl q p=true->lxl (qJ_ q) (qJ_ p)=true
 |[],[],_,_,_,_,_,h=>by simp [lxl]at h
 |[],_::_,h,_,_,_,_,_=>by simp at h
 |_::_,[],h,_,_,_,_,_=>by simp at h
 |a::p,b::q,hl,fp,fq,np,nq,h=>by
  obtain⟨p1,p2⟩:=Ab.mp fp
  obtain⟨q1,q2⟩:=Ab.mp fq
  have a0:=np a (AD ..)
  have b0:=nq b (AD ..)
  have zero:∀l:List Int,(∀x∈l,x<=0)->qJ_ l=[]:=λl hl=>by
   unfold qJ_
   rw[ET]
   intro x hx
   have:=hl x hx
   simp
   omega
  by_cases e:b=a
  ·subst e
   have h':lxl q p=true:=by simpa [lxl]using h
   by_cases z:0<b
   ·have e1:qJ_ (b::p)=b::qJ_ p:=by unfold qJ_;rw[Ar];simp [z]
    have e2:qJ_ (b::q)=b::qJ_ q:=by unfold qJ_;rw[Ar];simp [z]
    rw[e1,e2]
    have ih:=aff_ p q (by simpa using hl) p2 q2 (λx hx=>np x (AC _ hx)) (λx hx=>nq x (AC _ hx)) h'
    simpa [lxl]using ih
   ·exfalso
    have ep:p=q:=by
     have r1:∀l:List Int,(∀x∈l,x<=b)->(∀x∈l,0<=x)->l=List.replicate l.length 0:=λl h1 h2=>Ed.mpr ⟨rfl,λx hx=>by have:=h1 x hx;have:=h2 x hx;omega⟩
     rw[r1 p p1 λx hx=>np x (AC _ hx),r1 q q1 λx hx=>nq x (AC _ hx)]
     rw[show p.length=q.length by simpa using hl]
    rw[ep]at h'
    have:=lin_lxl.irr q
    rw[this]at h'
    cases h'
  ·have h':b<a:=by simpa [lxl,e]using h
   have e1:qJ_ (a::p)=a::qJ_ p:=by unfold qJ_;rw[Ar];simp [show 0<a by omega]
   rw[e1]
   by_cases z:0<b
   ·have e2:qJ_ (b::q)=b::qJ_ q:=by unfold qJ_;rw[Ar];simp [z]
    rw[e2]
    simpa [lxl,e]using h'
   ·rw[zero (b::q) λx hx=>by
     rcases AN.mp hx with rfl|hx
     ·omega
     ·have:=q1 x hx;omega]
    rfl
theorem ja_{p:Pw}(h:isF p=true):p.Pairwise λa b=>b<=a:=by
 rw[(aco_ p).mp h]
 exact xT_ p
structure Rw8(n:Nat)(r:List Int):Prop where
 len:r.length<=n
 fall:r.Pairwise λa b=>b<=a
 pos:∀x∈r,0<x
 sum:r.sum<=8
theorem Rw8.ok{n:Nat}{r:List Int}(n1:1<=n)(n4:n<=4)(h:Rw8 n r):rowK n r=true:=by
 have m:n∈([1,2,3,4]:List Nat):=by
  have:n=1∨n=2∨n=3∨n=4:=by omega
  rcases this with rfl|rfl|rfl|rfl<;>simp
 refine AI.mp (amf_ n m) r (vj_ n r 8 8 h.len h.fall h.pos (λx hx=>?_) h.sum)
 have:∀l:List Int,(∀y∈l,0<y)->∀x∈l,x<=l.sum:=λl=>by
  induction l with
  |nil=>intro _ x hx;simp at hx
  |cons y l ih =>
   intro hl x hx
   have s0:0<=l.sum:=by
    have:∀l:List Int,(∀y∈l,0<y)->0<=l.sum:=λl hl=>by
     induction l with
     |nil=>simp
     |cons y l ih =>
      rw[Aq]
      have:=hl y (AD ..)
      have:=ih λz hz=>hl z (AC _ hz)
      omega
    exact this l λz hz=>hl z (AC _ hz)
   rw[Aq]
   rcases AN.mp hx with rfl|hx
   ·omega
   ·have:=ih (λz hz=>hl z (AC _ hz)) x hx
    have:=hl y (AD ..)
    omega
 have:=this r h.pos x hx
 have:=h.sum
 show x<=(8:Int)
 omega
theorem Rw8.all{n:Nat}{r:List Int}(n1:1<=n)(n4:n<=4)(h:Rw8 n r):(qI_ n r).filter (λt=>sfB t.1)=[(ph n r,1)]/\(∀k,k+1<n->norm (sws (qI_ n r) k)=norm (ngt (qI_ n r)))/\(∀t∈qI_ n r,t.1.length=n/\∀x∈t.1,0<=x)/\qH_ r=true:=by
 have k:=h.ok n1 n4
 unfold rowK at k
 rw[AG,AG,AG,decide_eq_true_eq,AI,AI]at k
 obtain⟨⟨⟨k1,k2⟩,k3⟩,k5⟩:=k
 refine⟨k1,λi hi=>of_decide_eq_true (k2 i (Ad.mpr (by omega))),λt ht=>?_,k5⟩
 have:=k3 t ht
 rw[AG,decide_eq_true_eq,AI]at this
 exact⟨this.1,λx hx=>of_decide_eq_true (this.2 x hx)⟩
theorem Rw8.mem{n:Nat}{r:List Int}(h:Rw8 n r):r∈rws n 8 8:=by
 refine vj_ n r 8 8 h.len h.fall h.pos (λx hx=>?_) h.sum
 have:∀l:List Int,(∀y∈l,0<y)->∀x∈l,0<=l.sum/\x<=l.sum:=λl=>by
  induction l with
  |nil=>intro _ x hx;simp at hx
  |cons y l ih =>
   intro hl x hx
   rw[Aq]
   have py:=hl y (AD ..)
   have hl':∀z∈l,0<z:=λz hz=>hl z (AC _ hz)
   have s0:0<=l.sum:=by
    cases l with
    |nil=>simp
    |cons z l=>exact(ih hl' z (AD ..)).1
   rcases AN.mp hx with rfl|hx
   ·omega
   ·have:=ih hl' x hx
    omega
 have:=(this r h.pos x hx).2
 have:=h.sum
 show x<=(8:Int)
 omega
def msr:List Int->Int
 |[]=>0
 |_::l=>l.sum+msr l
theorem ach_:∀{l:List Int},(∀y∈l,0<=y)->0<=l.sum
 |[],_=>CC _
 |x::l,h=>by
  have h1:=h x (AD ..)
  have h2:=ach_ (l:=l) λy hy=>h y (AC _ hy)
  rw[Aq]
  omega
theorem abu_:∀{l:List Int},(∀y∈l,0<=y)->0<=msr l
 |[],_=>CC _
 |x::l,h=>by
  have h1:=ach_ (l:=l) λy hy=>h y (AC _ hy)
  have h2:=abu_ (l:=l) λy hy=>h y (AC _ hy)
  unfold msr
  omega
theorem vo_:∀{k:Nat}{p:List Int},k+1<p.length->p.getD k 0<p.getD (k+1) 0->msr (swp p k)<msr p
 |_,[],h,_=>by simp at h
 |0,[x],h,_=>by simp at h
 |0,x::y::l,_,q=>by
  rw[zu_]
  have q:x<y:=q
  simp only[msr,Aq]
  omega
 |k+1,x::l,h,q=>by
  rw[zw_]
  have hl:k+1<l.length:=by simpa using h
  have ih:=vo_ (k:=k) (p:=l) hl q
  have:=vl_ (k:=k) (p:=l) hl
  simp only[msr]
  omega
theorem yB_:∀{k:Nat}{p:List Int},k+1<p.length->p.getD k 0=p.getD (k+1) 0->swp p k=p
 |_,[],h,_=>by simp at h
 |0,[x],h,_=>by simp at h
 |0,x::y::l,_,q=>by
  rw[zu_]
  have q:x=y:=q
  rw[q]
 |k+1,x::l,h,q=>by
  rw[zw_]
  have hl:k+1<l.length:=by simpa using h
  rw[yB_ (k:=k) (p:=l) hl q]
theorem agh_{n:Nat}(D:Pw->Int)(hD:∀p k,p.length=n->k+1<n->D (swp p k)=- D p)(h0:∀p,p.length=n->(∀x∈p,0<=x)->sfB p=true->D p=0) :
  ∀(m:Nat)(p:Pw),(msr p).toNat<=m->p.length=n->(∀x∈p,0<=x)->D p=0:=by
 intro m
 induction m with
 |zero =>
  intro p hm hl hn
  cases c:sfB p with
  |true=>exact h0 p hl hn c
  |false =>
   obtain⟨i,hi,q⟩:∃i,i+1<p.length/\¬ p.getD (i+1) 0<p.getD i 0:=by
    unfold sfB at c
    rw[List.all_eq_false]at c
    obtain⟨i,hi,q⟩:=c
    exact⟨i,by have:=Ad.mp hi;omega,by simpa using q⟩
   have hd:=hD p i hl (by omega)
   by_cases e:p.getD i 0=p.getD (i+1) 0
   ·rw[yB_ hi e]at hd
    omega
   ·have:=vo_ hi (by omega)
    have:=abu_ (l:=swp p i) λx hx=>hn x (xu_ hi hx)
    omega
 |succ m ih =>
  intro p hm hl hn
  cases c:sfB p with
  |true=>exact h0 p hl hn c
  |false =>
   obtain⟨i,hi,q⟩:∃i,i+1<p.length/\¬ p.getD (i+1) 0<p.getD i 0:=by
    unfold sfB at c
    rw[List.all_eq_false]at c
    obtain⟨i,hi,q⟩:=c
    exact⟨i,by have:=Ad.mp hi;omega,by simpa using q⟩
   have hd:=hD p i hl (by omega)
   by_cases e:p.getD i 0=p.getD (i+1) 0
   ·rw[yB_ hi e]at hd
    omega
   ·have h1:=vo_ hi (by omega)
    have h2:=abu_ (l:=swp p i) λx hx=>hn x (xu_ hi hx)
    have:=ih (swp p i) (by omega) (by rw[vt_ hi];exact hl) λx hx=>hn x (xu_ hi hx)
    omega
theorem al3_{A:List Mon}{n k:Nat}{q:Pw}(hA:∀t∈A,t.1.length=n)(hq:q.length=n)(hk:k+1<n):cf (sws A k) q=cf A (swp q k):=by
 rw[zm_,zO_,zm_]
 refine qT_ λt ht=>?_
 have lt:=hA t ht
 by_cases e:swp t.1 k=q
 ·rw[if_pos e,if_pos]
  rw[<-e,vd_ (by omega)]
 ·rw[if_neg e,if_neg]
  intro z
  exact e (by rw[z,vd_ (by omega)])
theorem alj_(A:List Mon)(q:Pw):cf (ngt A) q=- cf A q:=by rw[zm_,jF_,zm_]
structure Alt(n:Nat)(A:List Mon):Prop where
 len:∀t∈A,t.1.length=n
 nn:∀t∈A,∀x∈t.1,0<=x
 alt:∀k,k+1<n->norm (sws A k)=norm (ngt A)
theorem Alt.sw{n k:Nat}{A:List Mon}(h:Alt n A)(hk:k+1<n){p:Pw}(hp:p.length=n):cf A (swp p k)=- cf A p:=by
 rw[<-al3_ h.len hp hk,<-zj_,h.alt k hk,zj_,alj_]
theorem amk_{n:Nat}{A B:List Mon}(hA:Alt n A)(hB:Alt n B)(e:∀p,p.length=n->(∀x∈p,0<=x)->sfB p=true->cf A p=cf B p):norm A=norm B:=by
 refine yO_ λp=>?_
 by_cases h:p.length=n/\∀x∈p,0<=x
 ·have:=agh_ (n:=n) (λp=>cf A p-cf B p) (λp k hp hk=>by show cf A (swp p k)-cf B (swp p k)=- (cf A p-cf B p);rw[hA.sw hk hp,hB.sw hk hp];omega) (λp hl hn hs=>by have:=e p hl hn hs;show cf A p-cf B p=0;omega) _ p (AH _) h.1 h.2
  have:cf A p-cf B p=0:=this
  omega
 ·rw[zo_ λt ht e=>h ⟨by rw[<-e];exact hA.len t ht,by rw[<-e];exact hA.nn t ht⟩,zo_ λt ht e=>h ⟨by rw[<-e];exact hB.len t ht,by rw[<-e];exact hB.nn t ht⟩]
theorem vH_(g:Pw->Bool){p:Pw}(hp:g p=true):∀A:List Mon,cf (A.filter λt=>g t.1) p=cf A p
 |[]=>rfl
 |t::A=>by
  have ih:=vH_ g hp A
  rw[Ar]
  by_cases c:g t.1=true
  ·rw[if_pos c]
   show(if t.1=p then t.2 else 0)+_=(if t.1=p then t.2 else 0)+_
   rw[ih]
  ·rw[if_neg c,ih]
   show _=(if t.1=p then t.2 else 0)+_
   rw[if_neg (λe=>c (by rw[e];exact hp))]
   omega
theorem aas_{r:List Int}(step:∀i,i+1<r.length->r.getD (i+1) 0<=r.getD i 0):r.Pairwise λa b=>b<=a:=by
 have all:∀k i,i+k<r.length->r.getD (i+k) 0<=r.getD i 0:=by
  intro k
  induction k with
  |zero=>intro i _;exact CC _
  |succ k ih =>
   intro i hi
   have:=ih i (by omega)
   have:=step (i+k) (by omega)
   rw[show i+(k+1)=i+k+1 by omega]
   omega
 refine BV.mpr λi j hi hj hij=>?_
 have:=all (j-i) i (by omega)
 rw[show i+(j-i)=j by omega,AF,AF,AE hi,AE hj]at this
 exact this
theorem ah7_{r:List Int}(h:r.Pairwise λa b=>b<=a){i:Nat}(hi:i+1<r.length):r.getD (i+1) 0<=r.getD i 0:=by
 have:=BV.mp h i (i+1) (by omega) hi (by omega)
 rw[AF,AF,AE hi,AE (by omega:i<r.length)]
 exact this
theorem zS_(n:Nat)(p:Pw):(qP_ n p).length=p.length:=by unfold qP_;rw[AA,Bt]
theorem jO_{n:Nat}{p:Pw}{i:Nat}(h:i<p.length):(qP_ n p).getD i 0=p.getD i 0-(n:Int)+1+(i:Int):=by
 unfold qP_
 rw[AF,Ac,Ca h]
 rfl
theorem alv_(n:Nat)(p:Pw):sfB p=isF (qP_ n p):=by
 have key:sfB p=true↔isF (qP_ n p)=true:=by
  constructor
  ·intro h
   rw[aco_]
   refine akt_ (.refl _) (aas_ λi hi=>?_)
   rw[zS_]at hi
   unfold sfB at h
   have:=of_decide_eq_true (AI.mp h i (Ad.mpr (by omega)))
   rw[jO_ hi,jO_ (by omega)]
   omega
  ·intro h
   have f:=ja_ h
   unfold sfB
   refine AI.mpr λi hi=>decide_eq_true ?_
   have hi:=Ad.mp hi
   have:=ah7_ f (i:=i) (by rw[zS_];omega)
   rw[jO_ (by omega),jO_ (by omega)]at this
   omega
 cases c:sfB p with
 |true=>rw[key.mp c]
 |false =>
  cases d:isF (qP_ n p) with
  |true=>rw[key.mpr d]at c;cases c
  |false=>rfl
theorem acm_:∀{l:List Int},(l.Pairwise λa b=>b<=a)->(∀x∈l,0<=x)->∀k,(qJ_ l).getD k 0=l.getD k 0
 |[],_,_,_=>rfl
 |a::l,f,h,k=>by
  obtain⟨f1,f2⟩:=Ab.mp f
  by_cases z:0<a
  ·have e1:qJ_ (a::l)=a::qJ_ l:=by unfold qJ_;rw[Ar];simp [z]
   rw[e1]
   cases k with
   |zero=>rfl
   |succ k =>
    show(qJ_ l).getD k 0=l.getD k 0
    exact acm_ f2 (λx hx=>h x (AC _ hx)) k
  ·have all:∀x∈a::l,x=0:=λx hx=>by
    have:=h x hx
    rcases AN.mp hx with rfl|hx
    ·omega
    ·have:=f1 x hx
     omega
   have e1:qJ_ (a::l)=[]:=by
    unfold qJ_
    rw[ET]
    intro x hx
    simp [all x hx]
   have e2:a::l=List.replicate (a::l).length 0:=Ed.mpr ⟨rfl,all⟩
   rw[e1,e2,AF,AF,C7]
   by_cases c:k<(a::l).length
   ·rw[if_pos c];rfl
   ·rw[if_neg c];rfl
theorem acy_:∀{l:List Int},(∀x∈l,0<=x)->(qJ_ l).sum=l.sum
 |[],_=>rfl
 |x::l,h=>by
  have ih:=acy_ (l:=l) λy hy=>h y (AC _ hy)
  have:=h x (AD ..)
  unfold qJ_ at ih ⊢
  rw[Ar]
  by_cases z:0<x
  ·rw[if_pos (decide_eq_true z),Aq,Aq,ih]
  ·rw[if_neg (by rw[decide_eq_true_eq];exact z),Aq,ih];omega
theorem yS_{n:Nat}{p:Pw}(hl:p.length=n)(hp:∀x∈p,0<=x)(f:isF (qP_ n p)=true):∀x∈qP_ n p,0<=x:=by
 intro x hx
 obtain⟨i,hi,e⟩:=CW hx
 rw[zS_]at hi
 have fl:=ja_ f
 have last:(0:Int)<=(qP_ n p).getD (n-1) 0:=by
  rw[jO_ (by omega)]
  have:0<=p.getD (n-1) 0:=by
   rw[AF,AE (by omega:n-1<p.length)]
   exact hp _ (Bp _)
  omega
 rw[AF,AE (by rw[zS_];omega)]at last
 by_cases c:i=n-1
 ·subst c
  rw[<-e]
  exact last
 ·have:=BV.mp fl i (n-1) (by rw[zS_];omega) (by rw[zS_];omega) (by omega)
  rw[e]at this
  exact Int.le_trans last this
theorem abr_{n:Nat}{p:Pw}(hl:p.length=n)(hp:∀x∈p,0<=x)(f:isF (qP_ n p)=true):ph n (qJ_ (qP_ n p))=p:=by
 unfold ph
 refine Ck λi=>?_
 rw[Ac]
 by_cases c:i<n
 ·rw[Ca c,AE (by omega:i<p.length)]
  show some ((qJ_ (qP_ n p)).getD i 0+(n:Int)-1-(i:Int))=_
  rw[acm_ (ja_ f) (yS_ hl hp f),jO_ (by omega),AF,AE (by omega:i<p.length)]
  show some (p[i]-(n:Int)+1+(i:Int)+(n:Int)-1-(i:Int))=some p[i]
  congr 1
  omega
 ·rw[Bo (by rw[Bt];omega),Bo (by omega)]
  rfl
theorem ajb_{n:Nat}{p:Pw}(n1:1<=n)(n4:n<=4)(hl:p.length=n):(qP_ n p).sum+(tri n:Int)=p.sum:=by
 have:n=1∨n=2∨n=3∨n=4:=by omega
 rcases this with rfl|rfl|rfl|rfl
 ·match p,hl with
  |[a],_=>simp [qP_,B5,tri];try omega
 ·match p,hl with
  |[a,b],_=>simp [qP_,B5,tri];omega
 ·match p,hl with
  |[a,b,c],_=>simp [qP_,B5,tri];omega
 ·match p,hl with
  |[a,b,c,d],_=>simp [qP_,B5,tri];omega
theorem aj9_{n:Nat}{p:Pw}(n1:1<=n)(n4:n<=4)(hl:p.length=n)(hp:∀x∈p,0<=x)(hs:p.sum<=((8+tri n:Nat):Int))(f:isF (qP_ n p)=true):Rw8 n (qJ_ (qP_ n p)):=by
 have nn:=yS_ hl hp f
 refine⟨?_,(ja_ f).filter _,λx hx=>of_decide_eq_true (BO.mp hx).2,?_⟩
 ·have:=List.length_filter_le (λx:Int=>decide (0<x)) (qP_ n p)
  unfold qJ_
  rw[zS_]at this
  omega
 ·rw[acy_ nn]
  have:=ajb_ n1 n4 hl
  omega
theorem af8_{n:Nat}{W:List Mon}(c:Canon W)(hl:∀t∈W,t.1.length=n)(hn:∀t∈W,∀x∈t.1,0<=x):Canon (bfL n W):=by
 unfold bfL
 refine⟨?_,λu hu=>?_⟩
 ·rw[CN]
  refine((c.ord.filter _).imp_of_mem λ{a b} ha hb h=>?_)
  obtain⟨a1,a2⟩:=BO.mp ha
  obtain⟨b1,b2⟩:=BO.mp hb
  have key:∀(p q:Pw)(k:Int),p.length=q.length->lxl q p=true->lxl ((List.range q.length).map λ(i:Nat)=>q.getD i 0-(n:Int)+k+(i:Int)) ((List.range p.length).map λ(i:Nat)=>p.getD i 0-(n:Int)+k+(i:Int))=true:=by
   intro p
   induction p with
   |nil=>intro q k h1 h2;cases q with
    |nil=>simp [lxl]at h2
    |cons=>simp at h1
   |cons x p ih =>
    intro q k h1 h2
    cases q with
    |nil=>simp at h1
    |cons y q =>
     rw[AY,AY,By,By,Aa,Aa,CI,CI]
     have e1:∀z:List Int,∀w:Int,((λ(i:Nat)=>(w::z).getD i 0-(n:Int)+k+(i:Int)) ∘ Nat.succ)=λ(i:Nat)=>z.getD i 0-(n:Int)+(k+1)+(i:Int):=λz w=>by
      funext i
      show z.getD i 0-(n:Int)+k+((i+1:Nat):Int)=_
      omega
     rw[e1,e1]
     by_cases e:y=x
     ·subst e
      have h2':lxl q p=true:=by simpa [lxl]using h2
      have:=ih q (k+1) (by simpa using h1) h2'
      simpa [lxl]using this
     ·have h2':y<x:=by simpa [lxl,e]using h2
      have e3:¬ (y-(n:Int)+k=x-(n:Int)+k):=by omega
      have e4:y-(n:Int)+k<x-(n:Int)+k:=by omega
      simp only[lxl,List.getD_cons_zero]
      simp [e]
      omega
  exact aff_ _ _ (by rw[zS_,zS_,hl a a1,hl b b1]) (ja_ a2) (ja_ b2) (yS_ (hl a a1) (hn a a1) a2) (yS_ (hl b b1) (hn b b1) b2) (key a.1 b.1 1 ((hl a a1).trans (hl b b1).symm) h)
 ·obtain⟨t,ht,rfl⟩:=AV.mp hu
  exact c.num t (BO.mp ht).1
theorem afg_{n:Nat}{T:List Mon}(n1:1<=n)(n4:n<=4)(c:Canon T)(h:∀t∈T,Rw8 n t.1):T.length<=53:=by
 have nd:(T.map (·.1)).Nodup:=by
  rw[List.Nodup,CN]
  refine c.ord.imp λ{x y} z e=>?_
  rw[e,q7_]at z
  cases z
 have sub:∀p∈T.map (·.1),p∈rws n 8 8:=λp hp=>by
  obtain⟨t,ht,rfl⟩:=AV.mp hp
  exact(h t ht).mem
 have:=DV nd sub
 rw[AA]at this
 exact Ag this (jS_ n (xd_ n1 n4)).2.2.2.2.1
def flG(n:Nat)(t:Mon):List Mon:=(norm (qx_ n t.1)).map λu=>(u.1,u.2*t.2)
theorem jT_(F:Pw->Int)(g:Mon->List Mon):∀T:List Mon,sm F (T.flatMap g)=(T.map λt=>sm F (g t)).sum
 |[]=>rfl
 |t::T=>by rw[Ay,jX_,jT_ F g T,Aa,Aq]
theorem zN_(F:Pw->Int)(c:Int):∀A:List Mon,sm F (A.map λu=>(u.1,u.2*c))=sm F A*c
 |[]=>by simp [sm]
 |t::A=>by
  rw[Aa]
  show t.2*c*F t.1+sm F (A.map _)=(t.2*F t.1+sm F A)*c
  rw[zN_ F c A,DD,Cb,DT c,Cb]
theorem al1_{n:Nat}{A B D:List Mon}{d:Mon}{r:List Mon}(eD:D=d::r)(cD:Canon D)(hD:∀t∈D,t.1.length=n)(hA:∀t∈A,t.1.length=n)(hB:∀t∈B,t.1.length=n)(e:norm (prd A D)=norm (prd B D)):norm A=norm B:=by
 have z:∀F,sm F (prd (norm (A++ngt B)) D)=0:=λF=>by
  rw[qR_,qy_,jX_,jF_,<-qR_,<-qR_,<-qy_ F (prd A D),e,qy_]
  omega
 have lX:∀t∈norm (A++ngt B),t.1.length=n:=λt ht=>by
  obtain⟨u,hu,e⟩:=qY_ ht
  rw[<-e]
  rcases Ap.mp hu with hu|hu
  ·exact hA u hu
  ·obtain⟨v,hv,rfl⟩:=AV.mp hu
   exact hB v hv
 have nil:norm (A++ngt B)=[]:=by
  cases c:norm (A++ngt B) with
  |nil=>rfl
  |cons t s =>
   exfalso
   have cX:=qF_ (A++ngt B)
   rw[c]at cX lX z
   subst eD
   have tp:=(vY_ cX).prd (vY_ cD) lX hD (lX t (AD ..)) (hD d (AD ..))
   have a:=tp.at_
   rw[zm_,z]at a
   have t0:=cX.num t (AD ..)
   have d0:=cD.num d (AD ..)
   rcases Int.mul_eq_zero.mp a.symm with h|h
   ·exact t0 h
   ·exact d0 h
 refine zK_ λF=>?_
 have:sm F (norm (A++ngt B))=0:=by rw[nil];rfl
 rw[qy_,jX_,jF_]at this
 omega
structure Fills(n:Nat)(S T:List Mon):Prop where
 canon:Canon T
 rows:∀t∈T,Rw8 n t.1
 few:T.length<=53
 sum:norm (T.flatMap (flG n))=S
theorem agk_{n b:Nat}{S:List Mon}(n1:1<=n)(n4:n<=4)(hE:Even n S)(hD:Deg n 8 b S):Alt n (norm (prd S (qS_ n)))/\∀t∈norm (prd S (qS_ n)),t.1.sum<=((8+tri n:Nat):Int):=by
 obtain⟨d1,d2,d3,d4,d5,d6⟩:=jS_ n (xd_ n1 n4)
 have dD:=ym_ d3
 have pD:=hD.prd dD
 have mem:∀t∈norm (prd S (qS_ n)),∃u∈prd S (qS_ n),u.1=t.1:=λt ht=>qY_ ht
 refine⟨⟨λt ht=>?_,λt ht=>?_,λk hk=>?_⟩,λt ht=>?_⟩
 ·obtain⟨u,hu,e⟩:=mem t ht
  rw[<-e]
  exact pD.len u hu
 ·obtain⟨u,hu,e⟩:=mem t ht
  rw[<-e]
  exact pD.nn u hu
 ·have a1:=of_decide_eq_true (AI.mp d6 k (Ad.mpr (by omega)))
  rw[vE_ hD.len dD.len hk]
  refine zK_ λF=>?_
  have h1:norm (sws S k)=norm S:=hE k hk
  rw[h1,a1,qR_,qy_,jF_,qy_]
  have:(λp=>sm (λq=>F (pad p q)) (norm (ngt (qS_ n))))=λp=>- sm (λq=>F (pad p q)) (qS_ n):=by
   funext p
   rw[qy_,jF_]
  rw[this,qR_]
  have:=vc_ (λp=>sm (λq=>F (pad p q)) (qS_ n)) (-1) S
  have e2:(λp=>(-1:Int)*sm (λq=>F (pad p q)) (qS_ n))=λp=>- sm (λq=>F (pad p q)) (qS_ n):=by
   funext p
   omega
  rw[e2]at this
  omega
 ·obtain⟨u,hu,e⟩:=mem t ht
  rw[<-e]
  exact pD.sum u hu
theorem ao4_{n b:Nat}{S:List Mon}(n1:1<=n)(n4:n<=4)(cS:Canon S)(hE:Even n S)(hD:Deg n 8 b S):Fills n S (bfF n S):=by
 obtain⟨hW,sW⟩:=agk_ n1 n4 hE hD
 obtain⟨d1,d2,d3,d4,d5,d6⟩:=jS_ n (xd_ n1 n4)
 have dD:=ym_ d3
 have cW:=qF_ (prd S (qS_ n))
 have cT:Canon (bfF n S):=af8_ cW hW.len hW.nn
 have rT:∀t∈bfF n S,Rw8 n t.1:=λt ht=>by
  unfold bfF bfL at ht
  obtain⟨u,hu,rfl⟩:=AV.mp ht
  obtain⟨u1,u2⟩:=BO.mp hu
  exact aj9_ n1 n4 (hW.len u u1) (hW.nn u u1) (sW u u1) u2
 refine⟨cT,rT,afg_ n1 n4 cT rT,?_⟩
 have fT:∀t∈bfF n S,norm (prd (norm (qx_ n t.1)) (norm (qI_ n [])))=norm (qI_ n t.1)/\∀u∈qx_ n t.1,u.1.length=n:=λt ht=>by
  have R:=rT t ht
  obtain⟨r1,r2,r3⟩:=xf_ (R.all n1 n4).2.2.2
  have:=(vC_ n1 n4 (by have:=R.len;omega) r1 r2 r3).2.1 R.len
  exact⟨this.1,λu hu=>(this.2 u hu).1⟩
 obtain⟨d,r,eD⟩:∃d r,qS_ n=d::r:=by
  cases c:qS_ n with
  |nil=>rw[c]at d2;cases d2
  |cons d r=>exact⟨d,r,rfl⟩
 have cD:Canon (qS_ n):=by rw[d1];exact qF_ _
 have lG:∀t∈(bfF n S).flatMap (flG n),t.1.length=n:=λt ht=>by
  obtain⟨u,hu,hm⟩:=BB.mp ht
  obtain⟨v,hv,rfl⟩:=AV.mp hm
  obtain⟨x,hx,e⟩:=qY_ hv
  show v.1.length=n
  rw[<-e]
  exact(fT u hu).2 x hx
 refine Eq.trans ?_ (xY_ cS)
 refine al1_ eD cD dD.len lG hD.len ?_
 have e1:norm (prd ((bfF n S).flatMap (flG n)) (qS_ n))=norm ((bfF n S).flatMap λt=>(qI_ n t.1).map λu=>(u.1,u.2*t.2)):=by
  refine zK_ λF=>?_
  rw[qR_,jT_,jT_]
  congr 1
  refine Bw λt ht=>?_
  unfold flG
  rw[zN_,zN_,<-qR_,<-qy_ F (prd _ _),d1,(fT t ht).1,qy_]
 rw[e1,<-xY_ cW]
 refine amk_ ⟨λt ht=>?_,λt ht=>?_,λk hk=>?_⟩ hW λp hl hp hs=>?_
 ·obtain⟨u,hu,hm⟩:=BB.mp ht
  obtain⟨v,hv,rfl⟩:=AV.mp hm
  exact(((rT u hu).all n1 n4).2.2.1 v hv).1
 ·obtain⟨u,hu,hm⟩:=BB.mp ht
  obtain⟨v,hv,rfl⟩:=AV.mp hm
  exact(((rT u hu).all n1 n4).2.2.1 v hv).2
 ·refine zK_ λF=>?_
  rw[zO_,jF_,jT_,jT_]
  have:∀T:List Mon,(∀t∈T,Rw8 n t.1)->(T.map λt=>sm (λp=>F (swp p k)) ((qI_ n t.1).map λu=>(u.1,u.2*t.2))).sum=- (T.map λt=>sm F ((qI_ n t.1).map λu=>(u.1,u.2*t.2))).sum:=λT=>by
   induction T with
   |nil=>intro _;rfl
   |cons t T ih =>
    intro h
    have ih:=ih λu hu=>h u (AC _ hu)
    have a:=((h t (AD ..)).all n1 n4).2.1 k hk
    rw[Aa,Aa,Aq,Aq,ih,zN_,zN_,<-zO_,<-qy_ F (sws _ _),a,qy_,jF_,Int.neg_mul]
    omega
  exact this _ rT
 ·have fp:isF (qP_ n p)=true:=by rw[<-alv_];exact hs
  rw[zm_,jT_]
  have e2:((bfF n S).map λt=>cf ((qI_ n t.1).map λu=>(u.1,u.2*t.2)) p)=(bfF n S).map λt=>if ph n t.1=p then t.2 else 0:=by
   refine Bw λt ht=>?_
   rw[zm_,zN_,<-zm_,<-vH_ sfB hs,((rT t ht).all n1 n4).1]
   show((if ph n t.1=p then 1 else 0)+0)*t.2=_
   by_cases e:ph n t.1=p
   ·rw[if_pos e,if_pos e];omega
   ·rw[if_neg e,if_neg e];omega
  have e0:((bfF n S).map λt=>sm (λq=>if q=p then 1 else 0) ((qI_ n t.1).map λu=>(u.1,u.2*t.2)))=(bfF n S).map λt=>cf ((qI_ n t.1).map λu=>(u.1,u.2*t.2)) p:=Bw λt _=>(zm_ _ _).symm
  rw[e0,e2]
  unfold bfF
  have lW:=hW.len
  have nW:=hW.nn
  generalize norm (prd S (qS_ n))=W at lW nW
  have key:∀W:List Mon,(∀t∈W,t.1.length=n)->(∀t∈W,∀x∈t.1,0<=x)->((bfL n W).map λt=>if ph n t.1=p then t.2 else 0).sum=cf W p:=λW=>by
   induction W with
   |nil=>intro _ _;rfl
   |cons t W ih =>
    intro l1 l2
    have ih:=ih (λu hu=>l1 u (AC _ hu)) λu hu=>l2 u (AC _ hu)
    show _=(if t.1=p then t.2 else 0)+cf W p
    rw[<-ih]
    unfold bfL
    rw[Ar]
    by_cases c:isF (qP_ n t.1)=true
    ·rw[if_pos c,Aa,Aa,Aq]
     show(if ph n (qJ_ (qP_ n t.1))=p then t.2 else 0)+_=_
     rw[abr_ (l1 t (AD ..)) (l2 t (AD ..)) c]
    ·rw[if_neg c,if_neg (λe=>c (by rw[e];exact fp))]
     omega
  exact key W lW nW
abbrev nLw:List Str:=["one", "third"]
abbrev bLw:List Str:=["number", "most"]
theorem ndLw:bLw.Nodup:=by decide +kernel
theorem scLw:FnScope nLw nLw (qi_ sLw):=⟨rfl,rfl,rfl,by decide +kernel,rfl,by decide +kernel,by decide +kernel⟩
def wiB(a b:List Int):Bool:=decide (a.length<=b.length)&&(List.range (min a.length b.length)).all λi=>decide (a.getD i 0<=b.getD i 0)
def spLw:Sp:=λvs H Q _=>∃(p q:Addr)(a b:List Int),vs=[.ref p,.ref q]/\H p=some (.tup (a.map V.int))/\H q=some (.tup (b.map V.int))/\a.length<=8/\b.length<=8/\∀H',Same H H'->Q (.bl (wiB a b)) H'
theorem apc_(F:Fun K "lies_within" "lies_within" sLw f fd)(mn:mg "len" = none)(ma:mg "all" = none)(mz:mg "zip" = none):FnOk P w K mg base CX0 2 f fd nLw spLw:=by
 refine F.ok scLw (λvs H Q E h=>?_) (λcdv A outer s H vs Q E hr h=>?_)
 ·obtain⟨p,q,a,b,rfl,_⟩:=h
  rfl
 obtain⟨p,q,a,b,rfl,hp,hq,a8,b8,qQ⟩:=h
 refine⟨_,qg_ (qq_ (ae2_ (zX_ v5_ (qh_ qm_ rfl mn Al (qa_ (pv 0) qb_)) (qh_ qm_ rfl mn Al (qa_ (pv 1) qb_)) (qn_ _))
  (agb_ (qh_ (ae3_ rfl) rfl ma PyProof.Rows.boot_all (qa_ (q8_ (N':=bLw) (src:=[none,none]) rfl (yU_ .tup .tup rfl mz (qa_ (pv 0) (qa_ (pv 1) qb_))) (zq_ (qi_ sLw) nLw (by decide +kernel))
   (λb=>jk_ rfl (qK_ (qk_ (i:=0) ndLw rfl (Or.inl rfl)) (qK_ (qk_ (i:=1) ndLw rfl (Or.inl rfl)) zT_))) (λb=>zz_) (λb=>zX_ v5_ (pv 0) (pv 1) (qn_ _))) qb_))))),?_⟩
 refine⟨_,rfl,p,_,rfl,.inr (SqT.of hp),_,rfl,q,_,rfl,.inr (SqT.of hq),?_⟩
 refine⟨_,_,rfl,rfl,_,rfl,?_⟩
 rw[AA,AA]
 by_cases c:(a.length:Int)<=b.length
 ·refine zD_ c ?_
  refine⟨_,rfl,_,rfl,p,q,rfl,⟨_,SqT.of hp⟩,⟨_,SqT.of hq⟩,λbk D hD=>?_⟩
  refine xB_ (α:=Bool) (k1:=.tup) (k2:=.tup) hD (SqT.of hp) (SqT.of hq) (λσ=>∃c d,σ=[c,d]) (λi=>some (decide (a.getD i 0<=b.getD i 0))) (small (by rw[AA,AA];omega)) ?_ ?_ ?_
  ·exact⟨_,_,rfl⟩
  ·rintro i x y p2 σ H3 Yes No hx hy h2 ⟨c,d,rfl⟩ s3 yes no
   obtain⟨rfl,_⟩:=x3_ hx
   obtain⟨rfl,_⟩:=x3_ hy
   refine⟨p2,_,rfl,SqT.of qc_,rfl,_,_,rfl,_,_,rfl,rfl,?_⟩
   refine yesT ?_
   refine⟨_,rfl,_,rfl,_,_,rfl,rfl,?_⟩
   exact yes _ _ _ _ ⟨_,_,rfl⟩ (qd_ h2 _) rfl rfl
  rintro H4 s4 ⟨ws2,eD2,iD2⟩
  rw[xS_ iD2,AA,AA,BM]at eD2
  refine⟨D,_,rfl,SqL.of eD2,?_⟩
  have e:wiB a b=((List.range (min a.length b.length)).map λi=>decide (a.getD i 0<=b.getD i 0)).all id:=by
   unfold wiB
   rw[decide_eq_true (by omega:a.length<=b.length),Bool.true_and,Em]
   rfl
  rw[<-e]
  exact qQ _ s4
 ·refine za_ c ?_
  have e:wiB a b=false:=by
   unfold wiB
   rw[decide_eq_false (by omega),EU]
  rw[e]at qQ
  exact qQ _ (Same.refl _)
abbrev nRk:List Str:=["lines", "numbers", "line"]
theorem scRk:FnScope nRk ["lines"] (qi_ sRb):=⟨rfl,rfl,rfl,by decide +kernel,rfl,by decide +kernel,by decide +kernel⟩
def spRk:Sp:=λvs H Q _=>∃(a:Addr)(ls:List (List Int)),vs=[.ref a]/\Dat.is H (.ref a) ls/\ls.length<=8/\(∀l∈ls,l.length<=8)/\∀(l:Addr)(H':Hp),H l=none->Same H H'->H' l=some (.lst ((ls.flatMap List.reverse).map V.int))->Q (.ref l) H'
theorem acv_:∀{ls:List (List Int)},(∀l∈ls,l.length<=8)->(ls.flatMap List.reverse).length<=8*ls.length
 |[],_=>AH _
 |l::ls,h=>by
  rw[Ay,AK,Bx,AY]
  have:=acv_ λx hx=>h x (AC _ hx)
  have:=h l (AD ..)
  omega
theorem apd_(F:Fun K "read_backward" "read_backward" sRb f fd)(ml:mg "list" = none)(mr:mg "reversed" = none):FnOk P w K mg base CX0 2 f fd ["lines"] spRk:=by
 refine F.ok scRk (λvs H Q E h=>?_) (λcdv A outer s H vs Q E hr h=>?_)
 ·obtain⟨a,ls,rfl,_⟩:=h
  rfl
 obtain⟨a,ls,rfl,⟨a',us,ea,ha,iA⟩,l8,h8,q⟩:=h
 cases ea
 refine⟨_,qe_ (qp_ (i:=1) scRk.nd rfl (Or.inl rfl) (qE_ qb_))
  (qe_ (qL_ Ao rfl (z3_ (pv 0)) (qk_ (i:=2) scRk.nd rfl (Or.inl rfl))
   (qg_ (zp_ (y0_ Br PySem.F.slot_list_extend PySem.F.type_list_extend aga_ (pv 1) (qa_ (adg_ rfl rfl ml rfl mr (pv 2)) qb_)))))
  (qg_ (qq_ (pv 1)))),?_⟩
 have lu:=AT iA
 refine⟨(by show 0<=sizeLine;decide),λl hl=>?_⟩
 have s0:=qd_ hl (.lst [])
 refine⟨_,rfl,a,rfl,⟨_,SqT.of (s0 _ _ ha)⟩,?_⟩
 refine xv_ (xs:=us) (λi σ H'=>(∃c2,σ=[some (.ref a),some (.ref l),c2])/\Same H H'/\H' l=some (.lst (((ls.take i).flatMap List.reverse).map V.int))) ?_ ?_ ?_ ?_
 ·exact⟨⟨_,rfl⟩,s0,qc_⟩
 ·rintro i σ H1 _ ⟨_,s1,_⟩
  exact SqT.of (s1 _ _ ha)
 ·rintro i v σ H1 hv ⟨⟨c2,rfl⟩,s1,h1⟩
  obtain⟨x,hx,hi⟩:=q4_ iA hv
  obtain⟨p,rfl,hp⟩:=qO_ hi
  have b1:=acv_ (ls:=ls.take i) λy hy=>h8 y (BF hy)
  rw[An]at b1
  have b2:=h8 x (Ah hx)
  refine⟨_,rfl,.inl ⟨rfl,_,SqL.of h1⟩,_,rfl,p,_,rfl,SqT.of (s1 _ _ hp),by rw[AA];omega,λm hm=>?_⟩
  have s2:=qd_ hm (.lst (x.map V.int).reverse)
  refine⟨l,m,_,_,rfl,rfl,s2 _ _ h1,qc_,small (by rw[AA,Bx,AA];omega),⟨_,rfl⟩,jz_ hl (s1.trans s2) _,?_⟩
  rw[qc_,zJ_ hx,CZ,Ch,BU,D4]
 ·rintro σ H1 ⟨⟨c2,rfl⟩,s1,h1⟩
  rw[Aj (by omega)]at h1
  exact⟨_,rfl,q l _ hl s1 h1⟩
def goF(o:List Int):List Int->List Int->Bool
 |_,[]=>true
 |c,x::xs=>if o.getD x.toNat 0<(c.set x.toNat (c.getD x.toNat 0+1)).getD x.toNat 0 then false else if 0<x/\(c.set x.toNat (c.getD x.toNat 0+1)).getD (x.toNat-1) 0<(c.set x.toNat (c.getD x.toNat 0+1)).getD x.toNat 0 then false else goF o (c.set x.toNat (c.getD x.toNat 0+1)) xs
def goB(o:List Int)(ls:List (List Int)):Bool:=goF o (List.replicate o.length 0) (ls.flatMap List.reverse)
abbrev nGo:List Str:=["lines", "other", "counts", "number"]
theorem scGo:FnScope nGo ["lines", "other"] (qi_ sGo):=⟨rfl,rfl,rfl,by decide +kernel,rfl,by decide +kernel,by decide +kernel⟩
def spGo:Sp:=λvs H Q _=>∃(a b:Addr)(ls:List (List Int))(o:List Int),vs=[.ref a,.ref b]/\Dat.is H (.ref a) ls/\H b=some (.tup (o.map V.int))/\ls.length<=8/\(∀l∈ls,l.length<=8/\∀x∈l,0<=x/\x<(o.length:Int))/\o.length<=8/\∀H',Same H H'->Q (.bl (goB o ls)) H'
theorem vM_(ps:List Int)(j:Nat)(x:Int):(ps.map V.int).set j (V.int x)=(ps.set j x).map V.int:=by rw[List.map_set]
theorem yz_{n j:Nat}(h:j<n):ixN n (j:Int)=some j:=by
 unfold ixN
 rw[if_pos (by omega),if_pos (by omega),At]
theorem x8_{ps:List Int}{k:Nat}(h:k<ps.length):(ps.map V.int)[k]?=some (.int (ps.getD k 0)):=by
 rw[Ac,AE h,AF,AE h]
 rfl
theorem aog_(F:Fun K "may_go_on" "may_go_on" sGo f fd)(GR:Has P w K mg base 2 "read_backward" ["lines"] spRk)(mn:mg "len" = none):FnOk P w K mg base CX0 3 f fd ["lines", "other"] spGo:=by
 refine F.ok scGo (λvs H Q E h=>?_) (λcdv A outer s H vs Q E hr h=>?_)
 ·obtain⟨a,b,ls,o,rfl,_⟩:=h
  rfl
 obtain⟨a,b,ls,o,rfl,hA,hb,l8,h8,o8,q⟩:=h
 refine⟨_,qe_ (qp_ (i:=2) scGo.nd rfl (Or.inl rfl) (qj_ ami_ (qE_ (qa_ qf_ qb_)) (qh_ qm_ rfl mn Al (qa_ (pv 1) qb_))))
  (qe_ (qL_ Ao rfl (q0_ (qr_ GR hr rfl (qa_ (pv 0) qb_))) (qk_ (i:=3) scGo.nd rfl (Or.inl rfl))
   (qe_ (akl_ (pv 2) (pv 3) ae8_ qf_ amo_ yM_)
   (qe_ (qD_ (qo_ zl_ (qs_ qN_ (pv 2) (pv 3) (λ_ _=>rfl)) (qs_ qB_ (pv 1) (pv 3) (λ_ _=>rfl)) (qn_ _)) (qg_ (qq_ q3_)) qt_)
   (qg_ (qD_ (PW.pt (xQ_ (qo_ zl_ (pv 3) qf_ (qn_ _)) (xp_ (qo_ zl_ (qs_ qN_ (pv 2) (pv 3) (λ_ _=>rfl)) (qs_ qN_ (pv 2) (qj_ qU_ (pv 3) qf_) (λ_ _=>rfl)) (qn_ _))))) (qg_ (qq_ q3_)) qt_)))))
  (qg_ (qq_ q3_))),?_⟩
 refine⟨(by show 1<=sizeLine;decide),λt0 h0=>?_⟩
 have s0:=qd_ h0 (.lst [.int 0])
 refine⟨_,rfl,b,_,rfl,.inr (SqT.of (s0 _ _ hb)),?_⟩
 rw[AA]
 refine⟨t0,_,_,rfl,rfl,qc_,by omega,by omega,small (by show 1*(o.length:Int).toNat<=_;omega),λc hcn=>?_⟩
 have e1:(List.replicate (o.length:Int).toNat [V.int 0]).flatten=(List.replicate o.length (0:Int)).map V.int:=by
  rw[At]
  generalize o.length=k
  induction k with
  |zero=>rfl
  |succ k ih=>rw[Ax,Bj,ih,Ax];rfl
 rw[e1]
 have s1:=qd_ hcn (.lst ((List.replicate o.length (0:Int)).map V.int))
 have fc:H c=none:=s0.free hcn
 have s01:=s0.trans s1
 have hA1:Dat.is (upd (upd H t0 (.lst [.int 0])) c (.lst ((List.replicate o.length (0:Int)).map V.int))) (.ref a) ls:=Dat.mono (Tups.same s01) hA
 have hc1:upd (upd H t0 (.lst [.int 0])) c (.lst ((List.replicate o.length (0:Int)).map V.int)) c=some (.lst ((List.replicate o.length (0:Int)).map V.int)):=qc_
 show zy_ 2 (.ref c) _ (upd (upd H t0 (.lst [.int 0])) c (.lst ((List.replicate o.length (0:Int)).map V.int))) _
 generalize upd (upd H t0 (.lst [.int 0])) c (.lst ((List.replicate o.length (0:Int)).map V.int))=H1 at *
 refine⟨_,rfl,a,ls,rfl,hA1,l8,λx hx=>(h8 x hx).1,λm H2 hm s2 h2=>?_⟩
 have bx:∀x∈ls.flatMap List.reverse,0<=x/\x<(o.length:Int):=λx hx=>by
  obtain⟨y,hy,hm⟩:=BB.mp hx
  exact(h8 y hy).2 x (List.mem_reverse.mp hm)
 have e2:goB o ls=goF o (List.replicate o.length 0) (ls.flatMap List.reverse):=rfl
 generalize ls.flatMap List.reverse=xs at *
 have mc:m≠c:=λz=>by rw[z,hc1]at hm;cases hm
 refine⟨m,rfl,⟨_,SqL.of h2⟩,?_⟩
 refine zk_ (xs:=xs.map V.int) (λi σ H'=>(∃c3,σ=[some (.ref a),some (.ref b),some (.ref c),c3])/\Same H H'/\H' m=some (.lst (xs.map V.int))/\∃cs:List Int,H' c=some (.lst (cs.map V.int))/\cs.length=o.length/\goF o cs (xs.drop i)=goB o ls) ?_ ?_ ?_ ?_
 ·exact⟨⟨_,rfl⟩,s01.trans s2,h2,_,s2 _ _ hc1,Bn ..,by rw[e2];rfl⟩
 ·rintro i σ H3 _ ⟨_,_,h3,_⟩
  exact SqL.of h3
 ·rintro i v σ H3 hv ⟨⟨c3,rfl⟩,s3,h3,cs,hcs,lcs,eg⟩
  obtain⟨rfl,il⟩:=x3_ hv
  have xi:xs.getD i 0∈xs:=by
   rw[AF,AE il]
   exact Bp _
  have ed:xs.drop i=xs.getD i 0::xs.drop (i+1):=by
   rw[B3 il,AF,AE il]
   rfl
  rw[ed]at eg
  obtain⟨b0,b1⟩:=bx _ xi
  obtain⟨k,hk⟩:∃k:Nat,xs.getD i 0=k:=⟨(xs.getD i 0).toNat,by omega⟩
  rw[hk]at eg b1 ⊢
  have ko:k<o.length:=by omega
  unfold goF at eg
  rw[At]at eg
  refine⟨_,rfl,_,rfl,c,_,k,_,rfl,rfl,hcs,x8_ (by omega),?_⟩
  refine⟨_,_,rfl,rfl,c,_,_,k,rfl,rfl,hcs,yz_ (by rw[AA];omega),?_⟩
  rw[vM_]
  have l1:(cs.set k (cs.getD k 0+1)).length=o.length:=by rw[DO];exact lcs
  have s4:=jz_ fc s3 (.lst ((cs.set k (cs.getD k 0+1)).map V.int))
  have h4:upd H3 c (.lst ((cs.set k (cs.getD k 0+1)).map V.int)) c=_:=qc_
  have h4m:upd H3 c (.lst ((cs.set k (cs.getD k 0+1)).map V.int)) m=some (.lst (xs.map V.int)):=by rw[ql_ mc];exact h3
  generalize upd H3 c (.lst ((cs.set k (cs.getD k 0+1)).map V.int))=H4 at *
  generalize cs.set k (cs.getD k 0+1)=c1 at *
  have g1:atI (c1.map V.int) (k:Int)=some (.int (c1.getD k 0)):=qW_ (x8_ (by omega))
  refine⟨_,rfl,_,rfl,c,_,_,_,rfl,rfl,SqL.of h4,g1,_,rfl,_,rfl,b,_,_,_,rfl,rfl,SqT.of (s4 _ _ hb),qW_ (x8_ ko),_,_,rfl,rfl,_,rfl,?_⟩
  by_cases z1:o.getD k 0<c1.getD k 0
  ·refine zD_ z1 ?_
   rw[if_pos z1]at eg
   rw[<-eg]at q
   exact q _ s4
  refine za_ z1 ?_
  rw[if_neg z1]at eg
  refine⟨_,rfl,_,_,rfl,rfl,_,rfl,?_⟩
  by_cases z2:0<(k:Int)
  ·refine zD_ z2 ?_
   have g2:atI (c1.map V.int) ((k:Int)-1)=some (.int (c1.getD (k-1) 0)):=by
    rw[show(k:Int)-1=((k-1:Nat):Int) by omega]
    exact qW_ (x8_ (by omega))
   refine⟨_,rfl,_,rfl,c,_,_,_,rfl,rfl,SqL.of h4,g1,_,rfl,_,rfl,_,_,rfl,rfl,c,_,_,_,rfl,rfl,SqL.of h4,g2,_,_,rfl,rfl,_,rfl,?_⟩
   by_cases z3:c1.getD (k-1) 0<c1.getD k 0
   ·refine zD_ z3 ?_
    rw[if_pos ⟨z2,z3⟩]at eg
    rw[<-eg]at q
    exact q _ s4
   ·refine za_ z3 ?_
    rw[if_neg λy=>z3 y.2]at eg
    exact⟨⟨_,rfl⟩,s4,h4m,c1,h4,l1,eg⟩
  ·refine za_ z2 ?_
   rw[if_neg λy=>z2 y.1]at eg
   exact⟨⟨_,rfl⟩,s4,h4m,c1,h4,l1,eg⟩
 ·rintro σ H3 ⟨⟨c3,rfl⟩,s3,h3,cs,hcs,lcs,eg⟩
  rw[AA,Co]at eg
  have:goB o ls=true:=eg.symm
  rw[this]at q
  exact q _ s3
def cjF(o d r:List Int):Nat->List (List (List Int))
 |0=>[[]]
 |j+1=>(wnG o.length d r (cjF o d r j)).filter (goB o)
def jg_(a r:List Int):List Int:=a++List.replicate (r.length-a.length) 0
def q9_(a o r:List Int):List (List (List Int)):=if wiB a r=true then cjF o (jg_ a r) r r.length else []
def adf_(o:List Int)(j:Nat)(ls:List (List Int)):Bool:=decide (ls.length=j)&&ls.all λl=>decide (l.length<=8)&&l.all λx=>decide (0<=x)&&decide (x<(o.length:Int))
theorem aav_{o:List Int}{j:Nat}{ls:List (List Int)}(h:adf_ o j ls=true):ls.length=j/\∀l∈ls,l.length<=8/\∀x∈l,0<=x/\x<(o.length:Int):=by
 unfold adf_ at h
 rw[AG,decide_eq_true_eq,AI]at h
 refine⟨h.1,λl hl=>?_⟩
 have:=h.2 l hl
 rw[AG,decide_eq_true_eq,AI]at this
 refine⟨this.1,λx hx=>?_⟩
 have:=this.2 x hx
 rw[AG,decide_eq_true_eq,decide_eq_true_eq]at this
 exact this
def adv_(o d r:List Int)(j:Nat):Bool:=decide ((wnG o.length d r (cjF o d r j)).length<=1000)&&(wnG o.length d r (cjF o d r j)).all (adf_ o (j+1))
def xI_(a o r:List Int):Bool:=qH_ a&&qH_ o&&qH_ r&&decide (a.sum+o.sum=r.sum)&&decide (o.length<=4)&&decide (r.length<=8)&&decide (a.length<=8)&&(!wiB a r||(inB (jg_ a r) r&&(List.range r.length).all (adv_ o (jg_ a r) r)))
abbrev nCt:List Str:=["one", "other", "third", "inner", "found", "again"]
abbrev pCt:List Str:=["one", "other", "third"]
abbrev bCt:List Str:=["lines", "other"]
theorem ndCt:bCt.Nodup:=by decide +kernel
theorem scCt:FnScope nCt pCt (qi_ sCtd):=⟨rfl,rfl,rfl,by decide +kernel,rfl,by decide +kernel,by decide +kernel⟩
def adw_(c1:Addr):Sp:=λvs H Q E=>∃(p1 p2 p3:Addr)(a o r:List Int),vs=[.ref p1,.ref p2,.ref p3]/\H p1=some (.tup (a.map V.int))/\H p2=some (.tup (o.map V.int))/\H p3=some (.tup (r.map V.int))/\a.length<=1000/\o.length<=1000/\r.length<=1000 /\
 ((qH_ a&&qH_ o&&qH_ r)=false->∀H',Same H H'->E (.ref c1) none H')/\((qH_ a&&qH_ o&&qH_ r)=true->(a.sum+o.sum=r.sum->xI_ a o r=true)/\∀(l:Addr)(H':Hp),H l=none->Same H H'->LstAt H' l (if a.sum+o.sum=r.sum then q9_ a o r else [])->Q (.ref l) H')
theorem yt_{α:Type}(p:α->Bool):∀l:List α,l.filterMap (λx=>if p x=true then some x else none)=l.filter p
 |[]=>rfl
 |x::l=>by
  rw[Ar,BW]
  by_cases c:p x=true
  ·rw[if_pos c,if_pos c,<-yt_ p l]
  ·rw[if_neg c,if_neg c,<-yt_ p l]
theorem jK_{b:Bool}{A B:Prop}(h:b=false)(x:B):if b=true then A else B:=by rw[h];exact x
theorem ae5_{c1:Addr}(F:Fun K "counted" "counted" sCtd f fd)(GB:HasX P w K mg base 3 "refuse_bad_row" nRb (ad2_ c1))(GL:Has P w K mg base 3 "lies_within" nLw spLw)(GW:Has P w K mg base 3 "with_next_line" ["many", "found", "inner", "outer"] spWn)(GG:Has P w K mg base 3 "may_go_on" ["lines", "other"] spGo)
  (mn:mg "len" = none) (ms:mg "sum" = none):FnOk P w K mg base (CX1 P w) 4 f fd pCt (adw_ c1):=by
 refine Fun.okx F scCt (λvs H Q E h=>?_) (λcdv A outer s H vs Q E hr h=>?_)
 ·obtain⟨p1,p2,p3,a,o,r,rfl,_⟩:=h
  rfl
 obtain⟨p1,p2,p3,a,o,r,rfl,h1,h2,h3,a9,o9,r9,ex,q⟩:=h
 refine⟨_,qe_ (zp_ (xx_ GB.ok hr rfl GB.at_ GB.kp GB.bd .nil adp_ (qa_ (pv 0) qb_)))
  (qe_ (zp_ (xx_ GB.ok hr rfl GB.at_ GB.kp GB.bd .nil adp_ (qa_ (pv 1) qb_)))
  (qe_ (zp_ (xx_ GB.ok hr rfl GB.at_ GB.kp GB.bd .nil adp_ (qa_ (pv 2) qb_)))
  (qe_ (qD_ (PW.pt (jl_ (qo_ xe_ (qj_ zP_ (qh_ (zt_ rfl) rfl ms BJ (qa_ (pv 0) qb_)) (qh_ (zt_ rfl) rfl ms BJ (qa_ (pv 1) qb_))) (qh_ (zt_ rfl) rfl ms BJ (qa_ (pv 2) qb_)) (qn_ _))
   (z4_ (zQ_ (zd_ (qr_ GL hr rfl (qa_ (pv 0) (qa_ (pv 2) qb_)))))))) (qg_ (qq_ (qE_ qb_))) qt_)
  (qe_ (qp_ (i:=3) scCt.nd rfl (Or.inl rfl) (qj_ zh_ (pv 0) (qj_ yn_ (qu_ (qa_ qf_ qb_)) (qj_ qU_ (qh_ qm_ rfl mn Al (qa_ (pv 2) qb_)) (qh_ qm_ rfl mn Al (qa_ (pv 0) qb_))))))
  (qe_ (qp_ (i:=4) scCt.nd rfl (Or.inl rfl) (qE_ (qa_ (qu_ qb_) qb_)))
  (qe_ (qL_ amv_ rfl (z3_ (pv 2)) (qk_ (i:=5) scCt.nd rfl (Or.inl rfl))
   (qg_ (vu_ (i:=4) (N':=bCt) (src:=[none,some 1]) scCt.nd rfl (Or.inl rfl) rfl rfl (q0_ (qr_ GW hr rfl (qa_ (qh_ qm_ rfl mn Al (qa_ (pv 1) qb_)) (qa_ (pv 4) (qa_ (pv 3) (qa_ (pv 2) qb_)))))) (zq_ (qi_ sCtd) nCt (by decide +kernel))
    (λb=>qk_ (i:=0) ndCt rfl (Or.inl rfl)) (λb=>z6_ (zd_ (qr_ GG hr rfl (qa_ (pv 0) (qa_ (pv 1) qb_))))) (λb=>pv 0))))
  (qg_ (qq_ (pv 4))))))))),?_⟩
 refine⟨_,rfl,p1,a,rfl,h1,a9,λra H1 s1=>?_,λra H1 s1=>ex (by rw[ra];rfl) H1 s1⟩
 refine⟨_,rfl,p2,o,rfl,s1 _ _ h2,o9,λro H2 s2=>?_,λro H2 s2=>ex (by rw[ra,ro];rfl) H2 (s1.trans s2)⟩
 have z2:=s1.trans s2
 refine⟨_,rfl,p3,r,rfl,z2 _ _ h3,r9,λrr H3 s3=>?_,λrr H3 s3=>ex (by rw[ra,ro,rr];rfl) H3 (z2.trans s3)⟩
 have z3:=z2.trans s3
 obtain⟨hB,q⟩:=q (by rw[ra,ro,rr];rfl)
 refine⟨_,rfl,p1,a,rfl,SqT.of (z3 _ _ h1),_,rfl,p2,o,rfl,SqT.of (z3 _ _ h2),_,_,rfl,rfl,_,rfl,p3,r,rfl,SqT.of (z3 _ _ h3),rfl,_,rfl,?_⟩
 by_cases es:a.sum+o.sum=r.sum
 case neg =>
  have ne:(!decide (V.int (a.sum+o.sum)=V.int r.sum))=true:=by rw[decide_eq_false λz=>es (by injection z)];rfl
  rw[ne]
  refine zY_ ⟨(by show 0<=sizeLine;decide),λl hl=>?_⟩
  refine q l _ (z3.free hl) (z3.trans (qd_ hl _)) ?_
  rw[if_neg es]
  exact⟨[],qc_,.nil⟩
 have hB:=hB es
 rw[if_pos es]at q
 unfold xI_ at hB
 simp only[AG,decide_eq_true_eq]at hB
 obtain⟨⟨⟨⟨⟨⟨⟨_,_⟩,_⟩,_⟩,o4⟩,r8⟩,a8⟩,hX⟩:=hB
 have ne:(!decide (V.int (a.sum+o.sum)=V.int r.sum))=false:=by rw[es,decide_eq_true rfl];rfl
 refine jK_ ne ?_
 refine⟨_,rfl,_,rfl,p1,p3,a,r,rfl,z3 _ _ h1,z3 _ _ h3,a8,r8,λH4 s4=>?_⟩
 have z4:=z3.trans s4
 refine⟨_,rfl,?_⟩
 by_cases c:wiB a r=true
 case neg =>
  rw[D7]at c
  rw[c]
  refine zY_ ⟨(by show 0<=sizeLine;decide),λl hl=>?_⟩
  refine q l _ (z4.free hl) (z4.trans (qd_ hl _)) ?_
  unfold q9_
  rw[c,if_neg (by decide)]
  exact⟨[],qc_,.nil⟩
 rw[c]at hX ⊢
 simp only[DF,Ct,AG,AI]at hX
 obtain⟨hI,hS⟩:=hX
 refine q6_ ?_
 have la:a.length<=r.length:=by
  unfold wiB at c
  rw[AG,decide_eq_true_eq]at c
  exact c.1
 refine⟨_,rfl,(by show 1<=sizeLine;decide),λt0 h0=>?_⟩
 have s5:=qd_ h0 (.tup [.int 0])
 have z5:=z4.trans s5
 refine⟨_,rfl,p3,_,rfl,.inr (SqT.of (z5 _ _ h3)),_,rfl,p1,_,rfl,.inr (SqT.of (z5 _ _ h1)),_,_,rfl,rfl,?_⟩
 rw[AA,AA]
 refine⟨t0,[0],_,rfl,rfl,qc_,by simp,by omega,by omega,small (by show 1*((r.length:Int)-a.length).toNat<=_;omega),λt1 H6 s6 h6=>?_⟩
 rw[j6_,show((r.length:Int)-(a.length:Int)).toNat=r.length-a.length by omega]at h6
 have z6:=z5.trans s6
 refine zc_ (r:=a) (r':=List.replicate (r.length-a.length) 0) (z6 _ _ h1) h6 (small (by rw[Bn];omega)) λt2 H7 s7 h7=>?_
 have z7:=z6.trans s7
 refine⟨(by show 0<=sizeLine;decide),λt3 h8=>⟨(by show 1<=sizeLine;decide),λl0 hl0=>?_⟩⟩
 have s8:=qd_ h8 (.tup [])
 have s9:=qd_ hl0 (.lst [.ref t3])
 have zA:=z7.trans (s8.trans s9)
 have h7:H7 t2=some (.tup ((jg_ a r).map V.int)):=h7
 refine⟨_,rfl,p3,rfl,⟨_,SqT.of (zA _ _ h3)⟩,?_⟩
 refine xv_ (xs:=r.map V.int) (λi σ H'=>(∃(l:Addr)(c5:Option V),σ=[some (.ref p1),some (.ref p2),some (.ref p3),some (.ref t2),some (.ref l),c5]/\LstAt H' l (cjF o (jg_ a r) r i)/\H l=none)/\Same H H'/\H' t2=some (.tup ((jg_ a r).map V.int))) ?_ ?_ ?_ ?_
 ·exact⟨⟨l0,_,rfl,⟨[.ref t3],qc_,.cons ⟨t3,[],rfl,s9 _ _ qc_,.nil⟩ .nil⟩,z7.free (s8.free hl0)⟩,zA,s9 _ _ (s8 _ _ h7)⟩
 ·rintro i σ G _ ⟨_,sG,_⟩
  exact SqT.of (sG _ _ h3)
 ·rintro i v σ G hv ⟨⟨l,c5,rfl,hL,fl⟩,sG,ht2⟩
  have il:i<r.length:=by
   have:=(AR.mp hv).1
   rwa [AA]at this
  have st:=hS i (Ad.mpr il)
  unfold adv_ at st
  rw[AG,decide_eq_true_eq,AI]at st
  obtain⟨few,lin⟩:=st
  have fo:FOk r i (cjF o (jg_ a r) r i):=λlines hl=>by
   cases i with
   |zero =>
    have e:lines=[]:=by simpa [cjF]using hl
    rw[e]
    exact⟨rfl,λl hl=>by cases hl⟩
   |succ j =>
    have st:=hS j (Ad.mpr (by omega))
    unfold adv_ at st
    rw[AG,decide_eq_true_eq,AI]at st
    unfold cjF at hl
    obtain⟨b1,b2⟩:=aav_ (st.2 lines (BO.mp hl).1)
    refine⟨b1,λl hl=>⟨(b2 l hl).1,λx hx=>?_⟩⟩
    have:=(b2 l hl).2 x hx
    omega
  refine⟨_,rfl,p2,_,rfl,.inr (SqT.of (sG _ _ h2)),_,rfl,_,rfl,_,rfl,l,t2,p3,o.length,i,cjF o (jg_ a r) r i,jg_ a r,r,(by rw[AA];rfl),hL,ht2,sG _ _ h3,o4,il,r8,hI,fo,few,λl' G2 fl' s10 hL'=>?_⟩
  have ej:cjF o (jg_ a r) r (i+1)=(wnG o.length (jg_ a r) r (cjF o (jg_ a r) r i)).filter (goB o):=rfl
  rw[ej]
  generalize wnG o.length (jg_ a r) r (cjF o (jg_ a r) r i)=W at hL' few lin
  obtain⟨us,eU,iU⟩:=hL'
  have lu:=AT iU
  refine⟨l',rfl,⟨_,SqL.of eU⟩,λbk D hD=>?_⟩
  have sG2:=sG.trans s10
  refine xl_ (α:=List (List Int)) hD (SqL.of eU) (λσ=>∃c,σ=[c,some (.ref p2)]) (λk=>(W[k]?).bind λx=>if goB o x=true then some x else none) (small (by omega)) ?_ ?_ ?_
  ·exact⟨_,rfl⟩
  ·rintro k v σ G3 Yes No hv ⟨c,rfl⟩ s11 yes no
   obtain⟨x,hx,hi⟩:=q4_ iU hv
   obtain⟨xa,ws,rfl,hxa,iX⟩:=hi
   obtain⟨b1,b2⟩:=aav_ (lin x (Ah hx))
   have hX3:Dat.is G3 (.ref xa) x:=⟨xa,ws,rfl,s11 _ _ hxa,Its.mono (Tups.same s11) iX⟩
   refine⟨_,rfl,_,rfl,xa,p2,x,o,rfl,hX3,s11 _ _ (sG2 _ _ h2),by omega,b2,by omega,λG4 s12=>?_⟩
   refine⟨_,rfl,?_⟩
   by_cases g:goB o x=true
   ·rw[g]
    exact zY_ ⟨_,rfl,yes _ _ _ x ⟨_,rfl⟩ s12 (by rw[hx];exact if_pos g) (Dat.mono (Tups.same s12) hX3)⟩
   ·rw[D7]at g
    rw[g]
    exact q6_ (no _ _ ⟨_,rfl⟩ s12 (by rw[hx];exact if_neg (by rw[g];decide)))
  rintro G5 s13 hD5
  rw[lu,zg_,yt_]at hD5
  exact⟨⟨D,_,rfl,hD5,sG2.free hD⟩,sG2.trans s13,s13 _ _ (s10 _ _ ht2)⟩
 ·rintro σ G ⟨⟨l,c5,rfl,hL,fl⟩,sG,_⟩
  rw[AA]at hL
  refine⟨_,rfl,q l _ fl sG ?_⟩
  unfold q9_
  rw[if_pos c]
  exact hL
def spCt:Sp:=λvs H Q _=>∃(p1 p2 p3:Addr)(a o r:List Int),vs=[.ref p1,.ref p2,.ref p3]/\H p1=some (.tup (a.map V.int))/\H p2=some (.tup (o.map V.int))/\H p3=some (.tup (r.map V.int))/\(qH_ a&&qH_ o&&qH_ r)=true/\a.length<=1000/\o.length<=1000/\r.length<=1000/\(a.sum+o.sum=r.sum->xI_ a o r=true)/\∀(l:Addr)(H':Hp),H l=none->Same H H'->LstAt H' l (if a.sum+o.sum=r.sum then q9_ a o r else [])->Q (.ref l) H'
theorem ahp_{c1:Addr}(F:FnOk P w K mg base (CX1 P w) 4 f fd pCt (adw_ c1)):FnOk P w K mg base CX0 4 f fd pCt spCt:=aae_ F λvs H Q E ⟨p1,p2,p3,a,o,r,e,h1,h2,h3,hB,la,lo,lr,hS,q⟩=>⟨p1,p2,p3,a,o,r,e,h1,h2,h3,la,lo,lr,(λz=>by rw[hB]at z;cases z),λ_=>⟨hS,q⟩⟩
def wv:Nat->Nat->List (List Int)
 |0,w=>if w=0 then [[]] else []
 |n+1,w=>(List.range (w+1)).flatMap λ(x:Nat)=>(wv n (w-x)).map ((x:Int) :: ·)
theorem ae4_:∀{l:List Int},(∀y∈l,0<=y)->0<=l.sum
 |[],_=>CC _
 |x::l,h=>by
  have h1:=h x (AD ..)
  have h2:=ae4_ (l:=l) λy hy=>h y (AC _ hy)
  rw[Aq]
  omega
theorem ael_:∀(n w:Nat)(l:List Int),l.length=n->(∀x∈l,0<=x)->l.sum=(w:Int)->l∈wv n w
 |0,w,l,h,_,hs=>by
  rw[BD.mp h]at hs ⊢
  have e:w=0:=by
   have:(0:Int)=(w:Int):=hs
   omega
  rw[e]
  exact Am.mpr rfl
 |n+1,w,[],h,_,_=>by simp at h
 |n+1,w,x::l,h,hx,hs=>by
  have h1:=hx x (AD ..)
  have h2:=ae4_ (l:=l) λy hy=>hx y (AC _ hy)
  rw[Aq]at hs
  refine BB.mpr ⟨x.toNat,Ad.mpr (by omega),AV.mpr ⟨l,ael_ n (w-x.toNat) l (by simpa using h) (λy hy=>hx y (AC _ hy)) (by omega),?_⟩⟩
  rw[Da h1]
theorem am4_:∀n∈List.range 5,∀w∈List.range 9,(wv n w).length<=165:=by decide +kernel
theorem aap_{k:Int}{ts:List Mon}(h:∀t∈ts,t.1.sum=k):∀t∈norm ts,t.1.sum=k:=λt ht=>by
 obtain⟨u,hu,e⟩:=qY_ ht
 rw[<-e]
 exact h u hu
theorem abp_{n k b:Nat}{ts:List Mon}(h:Deg n k b ts)(h1:∀t∈ts,t.1.sum=(k:Int))(n4:n<=4)(k8:k<=8):(norm ts).length<=165:=by
 have nd:((norm ts).map (·.1)).Nodup:=by
  rw[List.Nodup,CN]
  refine(qF_ ts).ord.imp λ{x y} z e=>?_
  rw[e,q7_]at z
  cases z
 have sub:∀p∈(norm ts).map (·.1),p∈wv n k:=λp hp=>by
  obtain⟨t,ht,rfl⟩:=AV.mp hp
  obtain⟨u,hu,e⟩:=qY_ ht
  rw[<-e]
  exact ael_ n k _ (h.len u hu) (h.nn u hu) (h1 u hu)
 have:=DV nd sub
 rw[AA]at this
 have:=am4_ n (Ad.mpr (by omega)) k (Ad.mpr (by omega))
 omega
theorem akm_{n x y:Nat}{k l:Int}{b c:Nat}{ts us:List Mon}(ga:Deg n x b ts)(gb:Deg n y c us)(h:∀t∈ts,t.1.sum=k)(h':∀t∈us,t.1.sum=l):∀t∈prd ts us,t.1.sum=k+l:=λt ht=>by
 obtain⟨a,ha,ht⟩:=BB.mp ht
 obtain⟨b,hb,rfl⟩:=AV.mp ht
 rw[vs_ (by rw[ga.len a ha,gb.len b hb]),h a ha,h' b hb]
def CodeOf(f:List Mon)(F:List (Nat×Int)):Prop:=∀h:Nat->Int,smK h F=sm (λp=>h (Ev.code p)) f
theorem CodeOf.norm{f:List Mon}{F:List (Nat×Int)}(h:CodeOf f F):CodeOf (Pl.norm f) F:=λg=>by rw[h g,qy_]
theorem aie_(f:List Mon):CodeOf f (sumK f):=λh=>by
 unfold sumK
 rw[x9_ h (λt:Mon=>(Ev.code t.1,t.2)),xC_]
 simp only[smK,CS]
theorem CodeOf.mul{n:Nat}{f g:List Mon}{F:List (Nat×Int)}(hf:CodeOf f F)(lf:∀t∈f,t.1.length=n)(nf:∀t∈f,∀x∈t.1,0<=x)(lg:∀t∈g,t.1.length=n)(ng:∀t∈g,∀x∈t.1,0<=x):CodeOf (prd f g) (mulK F g):=λh=>by
 unfold mulK
 rw[vA_,qR_]
 simp only[smK,CS]
 have e:(λq=>smK (λk=>h (k+Ev.code q)) F)=λq=>sm (λp=>h (Ev.code p+Ev.code q)) f:=by
  funext q
  exact hf _
 rw[e,<-vp_ (λp q=>h (Ev.code p+Ev.code q)) g f]
 refine qT_ λt ht=>qT_ λu hu=>?_
 show h (Ev.code t.1+Ev.code u.1)=h (Ev.code (pad t.1 u.1))
 rw[yE_ n _ _ (lf t ht) (lg u hu) (nf t ht) (ng u hu)]
theorem aee_{n:Nat}{p:Pw}(lp:p.length=n)(np:∀x∈p,0<=x)(fp:isF (qP_ n p)=true):∀{W:List Mon},(∀t∈W,t.1.length=n)->(∀t∈W,∀x∈t.1,0<=x)->cf (bfL n W) (qJ_ (qP_ n p))=cf W p
 |[],_,_=>rfl
 |t::W,l,nn=>by
  have ih:=aee_ lp np fp (W:=W) (λu hu=>l u (AC _ hu)) λu hu=>nn u (AC _ hu)
  unfold bfL at ih ⊢
  rw[Ar]
  have lt:=l t (AD ..)
  have nt:=nn t (AD ..)
  by_cases c:isF (qP_ n t.1)=true
  ·rw[if_pos c,Aa]
   show(if qJ_ (qP_ n t.1)=qJ_ (qP_ n p) then t.2 else 0)+cf _ _=(if t.1=p then t.2 else 0)+cf W p
   rw[ih]
   congr 1
   by_cases e:t.1=p
   ·rw[if_pos e,if_pos (by rw[e])]
   ·rw[if_neg e,if_neg λz=>e ?_]
    rw[<-abr_ lt nt c,z,abr_ lp np fp]
  ·rw[if_neg c,ih]
   show _=(if t.1=p then t.2 else 0)+cf W p
   rw[if_neg λe=>c (by rw[e];exact fp)]
   omega
theorem amc_{n b:Nat}{f:List Mon}(n1:1<=n)(n4:n<=4)(hD:Deg n 8 b f):(∀t∈prd f (qS_ n),t.1.length=n)/\(∀t∈prd f (qS_ n),∀x∈t.1,0<=x)/\∀t∈prd f (qS_ n),∀x∈t.1,0<=x/\x<=(15:Int):=by
 have pD:=hD.prd (ym_ (jS_ n (xd_ n1 n4)).2.2.1)
 refine⟨pD.len,pD.nn,λt ht x hx=>⟨pD.nn t ht x hx,?_⟩⟩
 have:=(yX_ (pD.nn t ht) hx).1
 have:=pD.sum t ht
 have:tri n<=6:=by
  have:n=1∨n=2∨n=3∨n=4:=by omega
  rcases this with rfl|rfl|rfl|rfl<;>decide
 omega
def getK(G:List (Nat×Int))(c:Nat):Int:=smK (λd=>if d=c then 1 else 0) G
def rowH(n:Nat)(r:List Int):Bool:=isF (qP_ n (ph n r))&&decide (qJ_ (qP_ n (ph n r))=r)&&jR_ n 15 (ph n r)
theorem amz_:∀n∈([1,2,3,4]:List Nat),(rws n 8 8).all (rowH n)=true:=by decide +kernel
theorem apn_{n b:Nat}{f:List Mon}{F:List (Nat×Int)}{r:List Int}(n1:1<=n)(n4:n<=4)(dF:Deg n 8 b f)(cF:CodeOf (prd f (qS_ n)) F)(R:Rw8 n r):cf (bfF n f) r=getK F (Ev.code (ph n r)):=by
 obtain⟨l1,m1,b1⟩:=amc_ n1 n4 dF
 have lW:∀t∈norm (prd f (qS_ n)),t.1.length=n:=λt ht=>by
  obtain⟨u,hu,e⟩:=qY_ ht
  rw[<-e]
  exact l1 u hu
 have mW:∀t∈norm (prd f (qS_ n)),∀x∈t.1,0<=x:=λt ht=>by
  obtain⟨u,hu,e⟩:=qY_ ht
  rw[<-e]
  exact m1 u hu
 unfold bfF
 have k:=AI.mp (amz_ n (xd_ n1 n4)) r R.mem
 unfold rowH at k
 rw[AG,AG,decide_eq_true_eq]at k
 obtain⟨⟨k1,k2⟩,k3⟩:=k
 obtain⟨s1,s2⟩:=jZ_ k3
 have e:=aee_ s1 (λx hx=>(s2 x hx).1) k1 lW mW
 rw[k2,zj_]at e
 rw[e]
 unfold getK
 rw[cF,zm_]
 refine qT_ λu hu=>?_
 by_cases e:u.1=ph n r
 ·rw[if_pos e,if_pos (by rw[e])]
 ·rw[if_neg e,if_neg λz=>e ?_]
  rw[<-j2_ n u.1 (l1 u hu) (b1 u hu),z,j2_ n _ s1 s2]
def R4:List (List Int):=rws 4 4 4
def evC(n:Nat)(f:List Mon):Bool:=(List.range (n-1)).all λk=>decide (norm (sws f k)=norm f)
def monB(n:Nat)(s:Int)(t:Mon):Bool:=decide (t.1.length=n)&&t.1.all (λx=>decide (0<=x))&&decide (t.1.sum=s)&&decide (t.2=1)
def filB(n:Nat)(r:List Int):Bool:=qH_ r&&(List.range (r.length+1)).all (λj=>decide ((zZ_ n r j).length<=1000))&&(qx_ n r).all (monB n r.sum)&&evC n (qx_ n r)&&decide (r.length<=4)&&decide (r.sum<=4)&&decide (0<=r.sum)&&(decide (r.length<=n)||(qx_ n r).isEmpty)
theorem ams_:∀n∈([1,2,3,4]:List Nat),R4.all (filB n)=true:=by decide +kernel
structure FilOk(n:Nat)(r:List Int):Prop where
 rb:qH_ r=true
 few:∀j,j<=r.length->(zZ_ n r j).length<=1000
 deg:Deg n 4 1 (qx_ n r)
 one:∀t∈qx_ n r,t.1.sum=r.sum
 ev:Even n (qx_ n r)
 l4:r.length<=4
 s4:r.sum<=4
 s0:0<=r.sum
 nil:¬ r.length<=n->qx_ n r=[]
theorem jW_{n:Nat}{r:List Int}(n1:1<=n)(n4:n<=4)(h:r∈R4):FilOk n r:=by
 have k:=AI.mp (ams_ n (xd_ n1 n4)) r h
 unfold filB at k
 simp only[AG,decide_eq_true_eq,AI]at k
 obtain⟨⟨⟨⟨⟨⟨⟨k1,k2⟩,k3⟩,k4⟩,k5⟩,k6⟩,k7⟩,k8⟩:=k
 have mon:∀t∈qx_ n r,t.1.length=n/\(∀x∈t.1,0<=x)/\t.1.sum=r.sum/\t.2=1:=λt ht=>by
  have:=k3 t ht
  unfold monB at this
  simp only[AG,decide_eq_true_eq,AI]at this
  exact⟨this.1.1.1,this.1.1.2,this.1.2,this.2⟩
 refine⟨k1,λj hj=>k2 j (Ad.mpr (by omega)),⟨λt ht=>(mon t ht).1,λt ht=>(mon t ht).2.1,λt ht=>by rw[(mon t ht).2.2.1];omega,λt ht=>by rw[(mon t ht).2.2.2];decide⟩,λt ht=>(mon t ht).2.2.1,λk hk=>?_,k5,k6,k7,λz=>?_⟩
 ·unfold evC at k4
  exact of_decide_eq_true (AI.mp k4 k (Ad.mpr (by omega)))
 ·rw[CK,decide_eq_true_eq]at k8
  rcases k8 with k8|k8
  ·exact absurd k8 z
  ·exact List.isEmpty_iff.mp k8
def fiN(n:Nat)(r:List Int):List Mon:=norm (qx_ n r)
def prF(n:Nat)(a b:List Int):List Mon:=norm (prd (fiN n a) (fiN n b))
structure FiN(n:Nat)(r:List Int)(A:List Mon):Prop where
 deg:Deg n 4 11 A
 one:∀t∈A,t.1.sum=r.sum
 few:A.length<=165
 ev:Even n A
theorem FilOk.fin{n:Nat}{r:List Int}(n4:n<=4)(h:FilOk n r):FiN n r (fiN n r):=by
 have lt:(qx_ n r).length<=1000:=by
  unfold qx_ fil
  rw[AA]
  exact h.few _ (AH _)
 refine⟨(h.deg.norm (k:=10) (by omega)),aap_ h.one,?_,h.ev.norm⟩
 obtain⟨k,hk⟩:∃k:Nat,r.sum=k:=⟨r.sum.toNat,by have:=h.s0;omega⟩
 have:=h.s4
 exact abp_ (n:=n) (k:=k) (b:=1) ⟨h.deg.len,h.deg.nn,λt ht=>by rw[h.one t ht,hk];exact CC _,h.deg.num⟩ (λt ht=>by rw[h.one t ht,hk]) n4 (by omega)
structure PrOk(n:Nat)(a b:List Int)(S:List Mon):Prop where
 deg:Deg n 8 50 S
 ev:Even n S
 few:S.length<=165
 canon:Canon S
 one:∀t∈S,t.1.sum=a.sum+b.sum
theorem aig_{n:Nat}{a b:List Int}(n1:1<=n)(n4:n<=4)(ha:a∈R4)(hb:b∈R4):PrOk n a b (prF n a b):=by
 have A0:=jW_ n1 n4 ha
 have B0:=jW_ n1 n4 hb
 have A:=A0.fin n4
 have B:=B0.fin n4
 have d:=A.deg.prd B.deg
 have o:=akm_ A.deg B.deg A.one B.one
 have lp:(prd (fiN n a) (fiN n b)).length<2^20:=by
  rw[yh_]
  have:=Ee A.few B.few
  omega
 refine⟨(d.norm (k:=20) lp).mono (by decide) (by decide),(ah6_ A.ev B.ev A.deg.len B.deg.len).norm,?_,qF_ _,aap_ o⟩
 obtain⟨k,hk⟩:∃k:Nat,a.sum+b.sum=k:=⟨(a.sum+b.sum).toNat,by have:=A0.s0;have:=B0.s0;omega⟩
 have:=A0.s4
 have:=B0.s4
 exact abp_ (n:=n) (k:=k) (b:=11+11) ⟨d.len,d.nn,λt ht=>by rw[o t ht,hk];exact CC _,d.num⟩ (λt ht=>by rw[o t ht,hk]) n4 (by omega)
def gK(n:Nat)(a b:List Int):List (Nat×Int):=mulK (sumK (qx_ n a)) (qI_ n b)
theorem acd_(a:List Mon):Ak (norm a) a:=λf=>qy_ f a
theorem ajx_{n:Nat}{a b:List Int}(n1:1<=n)(n4:n<=4)(ha:a∈R4)(hb:b∈R4)(lb:b.length<=n):CodeOf (prd (prF n a b) (qS_ n)) (gK n a b):=by
 have A0:=jW_ n1 n4 ha
 have B0:=jW_ n1 n4 hb
 obtain⟨r1,r2,r3⟩:=xf_ B0.rb
 obtain⟨e0,_⟩:=(vC_ n1 n4 (by omega) r1 r2 r3).2.1 lb
 have R:Rw8 n b:=⟨lb,r2,λx hx=>by have:=r1 x hx;omega,r3⟩
 have al:=(R.all n1 n4).2.2.1
 have c:=(aie_ (qx_ n a)).mul (n:=n) A0.deg.len A0.deg.nn (λt ht=>(al t ht).1) (λt ht=>(al t ht).2)
 have k:Ak (prd (prF n a b) (qS_ n)) (prd (qx_ n a) (qI_ n b)):=λf=>by
  have d1:=(jS_ n (xd_ n1 n4)).1
  rw[(Ak.prd (acd_ (prd (fiN n a) (fiN n b))) (λ_=>rfl):Ak (prd (prF n a b) (qS_ n)) (prd (prd (fiN n a) (fiN n b)) (qS_ n))) f,amd_,d1]
  have x:Ak (prd (fiN n b) (norm (qI_ n []))) (qI_ n b):=λf=>by
   rw[<-qy_ f (prd _ _)]
   unfold fiN
   rw[e0,qy_]
  exact(Ak.prd (acd_ (qx_ n a)) x:Ak (prd (fiN n a) (prd (fiN n b) (norm (qI_ n [])))) (prd (qx_ n a) (qI_ n b))) f
 intro h
 rw[k]
 exact c h
theorem ajg_{n b:Nat}{S:List Mon}(n1:1<=n)(n4:n<=4)(hD:Deg n 8 b S)(hl:S.length<=1000):∀t∈bfF n S,t.2.natAbs<2^(b+25):=λt ht=>by
 obtain⟨_,_,d3,d4,_,_⟩:=jS_ n (xd_ n1 n4)
 have dD:=(hD.prd (ym_ d3)).norm (k:=15) (by rw[yh_];have:=Ee hl d4;omega)
 unfold bfF bfL at ht
 obtain⟨u,hu,rfl⟩:=AV.mp ht
 have:=dD.num u (BO.mp hu).1
 rw[show b+10+15=b+25 by omega]at this
 exact this
end
end L2.K62
set_option maxHeartbeats 4000000
namespace HT
open PySem PyProof.Rows
def lexL:List (List Int)->List (List Int)->Bool
 |[],[]=>false
 |[],_::_=>true
 |_::_,[]=>false
 |x::xs,y::ys=>if x=y then lexL xs ys else lexLt x y
theorem afo_(x y:List Int)(xs ys:List (List Int)):lexL (x::xs) (y::ys)=if x=y then lexL xs ys else lexLt x y:=rfl
def alf_(A:Around)(s:Shared)(v u:Value)(a b:List Int):Prop :=
 (∃e,SeqAt.EqAt A s v u e/\(e=true↔a=b))/\∀(prog:Program)(w:World)(E:Value->Shared->Prop)(Q:Value->Shared->Prop),Q (.bool (lexLt a b)) s->wpAny (model prog w) A (richCompare .Lt v u) Q E s
inductive ItemsAt (A:Around) (s:Shared):List Value->List Value->List (List Int)->List (List Int)->Prop
 |nn:ItemsAt A s [] [] [] []
 |nc (us bs):us.length=bs.length->ItemsAt A s [] us [] bs
 |cn (vs as):vs.length=as.length->ItemsAt A s vs [] as []
 |cc {v u a b vs us as bs}:alf_ A s v u a b->ItemsAt A s vs us as bs->ItemsAt A s (v::vs) (u::us) (a::as) (b::bs)
section
open PySem.SeqAt
open PySem.AutoSeq1 (wpAny_loadPart')
open PySem.MeetsSeq PySem.MeetsSeq2 PySem.MeetsSeq3
theorem tuple_lt_rows(l b:Addr)(items items2:Array Value)(n n2:Nat)(dd dd2:Option Addr)(sl sl2:Array (Option Value))(ns ms:List (List Int))(h1:items.size=ns.length)(h2:items2.size=ms.length) :
  Meets (Builtin.«tuple.__lt__» ⟨[.ref l,.ref b],[]⟩)
   (λA R s=>s.heap.get? l=some { cls:=.type "tuple",dict:=dd,data:=.seq items n,slots:=sl }/\s.heap.get? b=some { cls:=.type "tuple",dict:=dd2,data:=.seq items2 n2,slots:=sl2 } /\
    ItemsAt A.in1 s items.toList items2.toList ns ms/\R (.ok (.ret (.bool (lexL ns ms)))) s) :=
 .of_wp λprog w A R s h=>by
  obtain⟨hp,g,d,tk,os⟩:=s;obtain⟨hl,hb,hit,h⟩:=h
  have f2:=Dx
  wp_walk using wpAny_loadPart' hl,wpAny_loadPart' hb,wpAny_forIn_list _ (λrest b s'=>b.1=none/\s'=⟨hp,g,d,tk,os⟩/\∃(vs ws:List Value)(ns' ms':List (List Int)),rest=vs.zip ws /\
   ItemsAt A.in1 ⟨hp,g,d,tk,os⟩ vs ws ns' ms'/\ns'.length+items2.size=ms'.length+items.size/\R (.ok (.ret (.bool (lexL ns' ms')))) ⟨hp,g,d,tk,os⟩) _
  case turn =>
   rintro⟨y,x⟩ rest b s' ⟨hb',rfl,vs,ws,ns',ms',hz,hvi,hlen,hR⟩
   cases hvi with
   |nn=>cases hz
   |nc us bs e=>rw[List.zip_nil_left]at hz;cases hz
   |cn us bs e=>rw[List.zip_nil_right]at hz;cases hz
   |cc hi hr =>
    rw[CH]at hz
    injection hz with hyx hrest
    injection hyx with hy hx
    subst hy hx
    rw[afo_]at hR
    simp only[AY]at hlen
    obtain⟨⟨e,he,hiff⟩,hlt⟩:=hi
    refine wpAny_bind (he prog w _ _ ?_)
    cases e with
    |true =>
     rw[if_pos (hiff.mp rfl)]at hR
     wp_walk
     exact⟨rfl,rfl,_,_,_,_,hrest,hr,by omega,hR⟩
    |false =>
     rw[if_neg (λq=>absurd (hiff.mpr q) AS)]at hR
     have hri:=hlt prog w
     wp_walk using hri
     exact⟨_,rfl,by simpa using hR⟩
  case fin =>
   rintro⟨b1,b2⟩ s' ⟨hb',rfl,vs,ws,ns',ms',hz,hvi,hlen,hR⟩
   simp only at hb'
   subst hb'
   have hv:lexL ns' ms'=decide (items.size<items2.size):=by
    cases hvi with
    |nn =>
     simp only[Bu]at hlen
     exact(decide_eq_false (by omega)).symm
    |nc us bs e =>
     cases ms' with
     |nil =>
      simp only[Bu]at hlen
      exact(decide_eq_false (by omega)).symm
     |cons c r =>
      simp only[Bu,AY]at hlen
      exact(decide_eq_true (by omega)).symm
    |cn us bs e =>
     cases ns' with
     |nil =>
      simp only[Bu]at hlen
      exact(decide_eq_false (by omega)).symm
     |cons c r =>
      simp only[Bu,AY]at hlen
      exact(decide_eq_false (by omega)).symm
    |cc hi hr =>
     rw[CH]at hz
     cases hz
   rw[hv]at hR
   wp_walk
   exact⟨_,rfl,by simpa [Builtin.Tuple.tupleCompareSizes]using hR⟩
  case h =>
   exact⟨rfl,rfl,items.toList,items2.toList,ns,ms,rfl,hit,by omega,h⟩
end
end HT
namespace L2.Ev
open PySem PySem.Spec PyProof.Rows L2 L2.Pl
theorem aa6_{X:Cx}{pins:List (Addr×Obj)}{σ:St}{H:Hp}{s:Shared}{A:Around}(I:Inv X pins σ H s)(hu:A.units+2<cLine):∀{vs us:List V}{as bs:List (List Int)}{ivs ius:List Value},Its H vs as->Its H us bs->Vals vs ivs->Vals us ius->HT.ItemsAt A s ivs ius as bs
 |[],[],_,_,_,_,.nil,.nil,.nil,.nil=>.nn
 |[],_::_,_,_,_,_,.nil,h2,.nil,r2=>.nc _ _ (by rw[<-r2.length,AT h2])
 |_::_,[],_,_,_,_,h1,.nil,r1,.nil=>.cn _ _ (by rw[<-r1.length,AT h1])
 |v::vs,u::us,_,_,_,_,.cons h1 t1,.cons h2 t2,.cons r1 q1,.cons r2 q2=>by
  refine .cc ⟨⟨_,Dat.eqAt (α:=List Int) I (by show A.units+(0+1)<cLine;omega) h1 h2 r1 r2,Dat.eqb_iff _ _⟩,λprog w E Q q=>?_⟩ (aa6_ I hu t1 t2 q1 q2)
  obtain⟨p,rfl,hp⟩:=qO_ h1
  obtain⟨p',rfl,hp'⟩:=qO_ h2
  cases r1
  cases r2
  obtain⟨its,s1,p1,_⟩:=I.tuple (SqT.of hp)
  obtain⟨its2,s2,p2,_⟩:=I.tuple (SqT.of hp')
  exact HT.lt_tupInts (prog:=prog) (w:=w) p1 p2 (q1_ s1) (q1_ s2) (by omega) q
def aol_:R2:=λx y H Q=>∃(l m:List (List Int)),Dat.is H x l/\Dat.is H y m/\Q (.bl (HT.lexL l m)) H
theorem ajo_{X:Cx}(hu:X.A.units+3<cLine):OpR X (compareOp .Lt) aol_:=by
 intro pins s σ H x y v u Q I rx ry h
 obtain⟨l,m,⟨a,vs,rfl,ha,ia⟩,⟨b,us,rfl,hb,ib⟩,q⟩:=h
 cases rx
 cases ry
 obtain⟨its,r1,p1,_⟩:=I.tuple (SqT.of ha)
 obtain⟨its2,r2,p2,_⟩:=I.tuple (SqT.of hb)
 obtain⟨⟨cls,dd,data,sl⟩,ho,hc,n,hd⟩:=id p1
 obtain⟨⟨cls2,dd2,data2,sl2⟩,ho2,hc2,n2,hd2⟩:=id p2
 simp only at hc hd hc2 hd2
 subst hc hd hc2 hd2
 have l1:its.toArray.size=l.length:=by have:=r1.length;have:=AT ia;simp;omega
 have l2:its2.toArray.size=m.length:=by have:=r2.length;have:=AT ib;simp;omega
 refine richCompare_meets_room (op:=.Lt) ⟨_,ho,rfl⟩ ⟨_,ho2,rfl⟩ EV EK (D8 _ _) (HT.tuple_lt_rows a b its.toArray its2.toArray n n2 dd dd2 sl sl2 l m l1 l2)
  ⟨ho,ho2,aa6_ I ?_ ia ib r1 r2,show Value.bool (HT.lexL l m)≠Value.notImplemented/\_ from⟨(λx=>nomatch x),⟨.bl (HT.lexL l m),H,I,rfl,q⟩⟩⟩ (by omega)
 show X.A.units+1+2<cLine
 omega
end L2.Ev
namespace L2.K62
open PySem
open L2.Pl L2.Ev
section
variable{P:Program}{w:World}{K:PySem.W.Frag}{mg:Str->Option Value}{base:Heap}{f g:Addr}{fd gd:FuncData}
def R8:List (List Int):=rws 8 8 8
def flt(r:List Int):List Int:=(List.range (r.take 1).sum.toNat).map λ(k:Nat)=>((r.filter λx=>decide ((k:Int)<x)).length:Int)
def linK(ls:List (List Int))(a r:List Int)(k:Nat):Bool:=decide ((ls.getD k []).length<=8)&&decide (((ls.getD k []).length:Int)=max (r.getD k 0-a.getD k 0) 0)&&(List.range (ls.getD k []).length).all λi=>decide (0<=(ls.getD k []).getD i 0)&&(decide (i=0)||decide ((ls.getD k []).getD (i-1) 0<=(ls.getD k []).getD i 0))
def yw_(ls:List (List Int))(a r:List Int):Bool:=decide (ls.length=r.length)&&(List.range r.length).all (linK ls a r)
def risP(ls:List (List Int))(u v t:Int)(k p:Nat):Bool:=decide ((p:Int)<max u v)||decide (t<=(p:Int))||(decide (u<=(p:Int))&&decide (v<=(p:Int))&&decide ((p:Int)-u<(ls.getD k []).length)&&decide ((p:Int)-v<(ls.getD (k+1) []).length)&&decide ((ls.getD k []).getD ((p:Int)-u).toNat 0<(ls.getD (k+1) []).getD ((p:Int)-v).toNat 0))
def risB(ls:List (List Int))(a r:List Int):Bool:=(List.range (r.length-1)).all λk=>(List.range 9).all (risP ls (a.getD k 0) (a.getD (k+1) 0) (r.getD (k+1) 0) k)
def rdW:List Int->List Int->Option (List Int)
 |c,[]=>some c
 |c,x::xs=>if 0<=x/\x<=7 then (if 0<x/\(c.set x.toNat (c.getD x.toNat 0+1)).getD (x.toNat-1) 0<(c.set x.toNat (c.getD x.toNat 0+1)).getD x.toNat 0 then none else rdW (c.set x.toNat (c.getD x.toNat 0+1)) xs) else none
def redB(ls:List (List Int))(o:List Int):Bool:=decide (((rdW (List.replicate 9 0) (ls.flatMap List.reverse)).map λc=>c.filter λx=>decide (0<x))=some o)
def ascB(l:List (List (List Int))):Bool:=(List.range (l.length-1)).all λi=>HT.lexL (l.getD i []) (l.getD (i+1) [])
def fndB(a b r:List Int):Bool:=xI_ a b r&&(q9_ a b r).all (λls=>yw_ ls a r&&risB ls a r&&redB ls b)&&ascB (q9_ a b r)&&decide ((q9_ a b r).length<=1000)&&(wiB a r||(q9_ a b r).isEmpty)
def jA_(a:List Int):Bool:=R4.all λb=>(R8.filter λr=>decide (r.sum=a.sum+b.sum)).all λr=>fndB a b r&&(decide (r.length<=4)||decide ((q9_ a b r).length=(q9_ (flt a) (flt b) (flt r)).length))
def jC_(a:List Int):Bool:=R4.all λb=>((rws 4 8 8).filter λr=>decide (r.sum=a.sum+b.sum)).all λr=>decide (getK (gK 4 a b) (Ev.code (ph 4 r))=((q9_ a b r).length:Int))
def rw8B(n:Nat)(w:Int)(r:List Int):Bool:=decide (r.length<=n)&&(List.range (r.length-1)).all (λi=>decide (r.getD (i+1) 0<=r.getD i 0))&&r.all (λx=>decide (0<x))&&decide (r.sum=w)
theorem al9_{n:Nat}{w:Int}{r:List Int}(w8:w<=8)(h:rw8B n w r=true):Rw8 n r/\r.sum=w:=by
 unfold rw8B at h
 simp only[AG,decide_eq_true_eq,AI]at h
 obtain⟨⟨⟨h1,h2⟩,h3⟩,h4⟩:=h
 exact⟨⟨h1,aas_ λi hi=>h2 i (Ad.mpr (by omega)),h3,by omega⟩,h4⟩
theorem amy_:(rws 4 8 8).all (λr=>rw8B 4 r.sum r&&decide (r.sum<=8))=true:=by decide +kernel
theorem ais_:R4.all (λr=>R4.contains (flt r)&&decide ((flt r).sum=r.sum))=true:=by decide +kernel
theorem aix_:R8.all (λr=>qH_ r&&decide (r.length<=8)&&decide (0<=r.sum)&&decide (r.sum<=8)&&(if r.length<=4 then (rws 4 8 8).contains r else (rws 4 8 8).contains (flt r)&&decide ((flt r).sum=r.sum)))=true:=by decide +kernel
theorem R4_8:R4.all (λr=>R8.contains r&&decide (r.length<=4)&&decide (r.sum<=4))=true:=by decide +kernel
theorem ani_:jC_ (R4.getD 0 [])=true:=by decide +kernel
theorem amj_:jC_ (R4.getD 1 [])=true:=by decide +kernel
theorem alu_:jC_ (R4.getD 2 [])=true:=by decide +kernel
theorem alo_:jC_ (R4.getD 3 [])=true:=by decide +kernel
theorem alq_:jC_ (R4.getD 4 [])=true:=by decide +kernel
theorem aky_:jC_ (R4.getD 5 [])=true:=by decide +kernel
theorem aly_:jC_ (R4.getD 6 [])=true:=by decide +kernel
theorem al6_:jC_ (R4.getD 7 [])=true:=by decide +kernel
theorem alm_:jC_ (R4.getD 8 [])=true:=by decide +kernel
theorem amh_:jC_ (R4.getD 9 [])=true:=by decide +kernel
theorem akk_:jC_ (R4.getD 10 [])=true:=by decide +kernel
theorem aju_:jC_ (R4.getD 11 [])=true:=by decide +kernel
theorem ahj_:∀a∈R4,jC_ a=true:=λa ha=>by
 obtain⟨i,hi,rfl⟩:=CW ha
 have hl:R4.length=12:=by decide +kernel
 have e:R4[i]=R4.getD i []:=by rw[AF,AE hi];rfl
 rw[e]
 rw[hl]at hi
 clear e
 match i,hi with
 |0,_=>exact ani_
 |1,_=>exact amj_
 |2,_=>exact alu_
 |3,_=>exact alo_
 |4,_=>exact alq_
 |5,_=>exact aky_
 |6,_=>exact aly_
 |7,_=>exact al6_
 |8,_=>exact alm_
 |9,_=>exact amh_
 |10,_=>exact akk_
 |11,_=>exact aju_
theorem al2_:jA_ (R4.getD 0 [])=true:=by decide +kernel
theorem alw_:jA_ (R4.getD 1 [])=true:=by decide +kernel
theorem akz_:jA_ (R4.getD 2 [])=true:=by decide +kernel
theorem amu_:jA_ (R4.getD 3 [])=true:=by decide +kernel
theorem ane_:jA_ (R4.getD 4 [])=true:=by decide +kernel
theorem am3_:jA_ (R4.getD 5 [])=true:=by decide +kernel
theorem alc_:jA_ (R4.getD 6 [])=true:=by decide +kernel
theorem ant_:jA_ (R4.getD 7 [])=true:=by decide +kernel
theorem aml_:jA_ (R4.getD 8 [])=true:=by decide +kernel
theorem am9_:jA_ (R4.getD 9 [])=true:=by decide +kernel
theorem ake_:jA_ (R4.getD 10 [])=true:=by decide +kernel
theorem ajq_:jA_ (R4.getD 11 [])=true:=by decide +kernel
theorem aia_:∀a∈R4,jA_ a=true:=λa ha=>by
 obtain⟨i,hi,rfl⟩:=CW ha
 have hl:R4.length=12:=by decide +kernel
 have e:R4[i]=R4.getD i []:=by rw[AF,AE hi];rfl
 rw[e]
 rw[hl]at hi
 clear e
 match i,hi with
 |0,_=>exact al2_
 |1,_=>exact alw_
 |2,_=>exact akz_
 |3,_=>exact amu_
 |4,_=>exact ane_
 |5,_=>exact am3_
 |6,_=>exact alc_
 |7,_=>exact ant_
 |8,_=>exact aml_
 |9,_=>exact am9_
 |10,_=>exact ake_
 |11,_=>exact ajq_
theorem cnt4{a b r:List Int}(ha:a∈R4)(hb:b∈R4)(hr:r∈rws 4 8 8)(hs:r.sum=a.sum+b.sum):cf (bfF 4 (prF 4 a b)) r=((q9_ a b r).length:Int):=by
 have n1:1<=4:=by decide
 have n4:4<=4:=by decide
 have k:=AI.mp (AI.mp (ahj_ a ha) b hb) r (BO.mpr ⟨hr,decide_eq_true hs⟩)
 have q:=AI.mp amy_ r hr
 rw[AG,decide_eq_true_eq]at q
 rw[apn_ n1 n4 (aig_ n1 n4 ha hb).deg (ajx_ n1 n4 ha hb (jW_ n1 n4 hb).l4) (al9_ q.2 q.1).1]
 exact of_decide_eq_true k
structure Fnd(a b r:List Int):Prop where
 cb:xI_ a b r=true
 each:∀ls∈q9_ a b r,yw_ ls a r=true/\risB ls a r=true/\redB ls b=true
 asc:∀i,i+1<(q9_ a b r).length->HT.lexL ((q9_ a b r).getD i []) ((q9_ a b r).getD (i+1) [])=true
 few:(q9_ a b r).length<=1000
 nil:wiB a r=false->q9_ a b r=[]
theorem fnd{a b r:List Int}(ha:a∈R4)(hb:b∈R4)(hr:r∈R8)(hs:r.sum=a.sum+b.sum):Fnd a b r/\(r.length<=4->cf (bfF 4 (prF 4 a b)) r=((q9_ a b r).length:Int))/\(¬ r.length<=4->flt a∈R4/\flt b∈R4/\cf (bfF 4 (prF 4 (flt a) (flt b))) (flt r)=((q9_ a b r).length:Int)):=by
 have k:=AI.mp (AI.mp (aia_ a ha) b hb) r (BO.mpr ⟨hr,decide_eq_true hs⟩)
 rw[AG]at k
 obtain⟨k,k5⟩:=k
 unfold fndB ascB at k
 simp only[AG,decide_eq_true_eq,AI]at k
 obtain⟨⟨⟨⟨k1,k2⟩,k3⟩,k4⟩,k6⟩:=k
 have R:=AI.mp aix_ r hr
 simp only[AG,decide_eq_true_eq]at R
 have R:=R.2
 refine⟨⟨k1,λls hl=>⟨(k2 ls hl).1.1,(k2 ls hl).1.2,(k2 ls hl).2⟩,λi hi=>k3 i (Ad.mpr (by omega)),k4,λz=>?_⟩,λc=>?_,λc=>?_⟩
 ·rw[z,Ct]at k6
  exact List.isEmpty_iff.mp k6
 ·rw[if_pos c]at R
  exact cnt4 ha hb (by simpa using R) hs
 ·rw[if_neg c,AG,decide_eq_true_eq]at R
  have fa:=AI.mp ais_ a ha
  have fb:=AI.mp ais_ b hb
  rw[AG,decide_eq_true_eq]at fa fb
  have ra:flt a∈R4:=by simpa using fa.1
  have rb:flt b∈R4:=by simpa using fb.1
  rw[decide_eq_false c,Ct,decide_eq_true_eq]at k5
  refine⟨ra,rb,?_⟩
  rw[k5,cnt4 ra rb (by simpa using R.1) (by rw[R.2,hs,fa.2,fb.2])]
def zE_(k:Int):List Int:=(List.range k.toNat).map λ(i:Nat)=>k-(i:Int)
def up:Nat->Int->Int->Int->List (List Int)
 |0,_,_,_=>[]
 |n+1,top,w,m=>if w=0 then [[]] else if m<=0 then [] else (zE_ (if w<top then w else top)).flatMap λf=>(up n f (w-f) (m-1)).map (f :: ·)
theorem vg_(n:Nat)(top m:Int):up (n+1) top 0 m=[[]]:=by simp [up]
theorem vk_(n:Nat)(top w m:Int)(h:w≠0)(hm:m<=0):up (n+1) top w m=[]:=by simp [up,h,hm]
theorem vB_(n:Nat)(top w m:Int)(h:w≠0)(hm:¬ m<=0):up (n+1) top w m=(zE_ (if w<top then w else top)).flatMap λf=>(up n f (w-f) (m-1)).map (f :: ·):=by simp [up,h,hm]
theorem y3_(f:Nat->Nat)(c:Nat):∀k,(∀i,i<k->f i<=2^(c+i))->((List.range k).map f).sum+2^c<=2^(c+k)
 |0,_=>by simp
 |k+1,h=>by
  have ih:=y3_ f c k λi hi=>h i (by omega)
  have hk:=h k (by omega)
  rw[B5,BU,DW,List.map_singleton,List.sum_singleton]
  have e:2^(c+(k+1))=2^(c+k)+2^(c+k):=by rw[<-Nat.add_assoc,Nat.pow_succ];omega
  omega
theorem ad9_:∀(n:Nat)(top w m:Int),0<=w->(up n top w m).length<=2^w.toNat
 |0,_,_,_,_=>by simp [up]
 |n+1,top,w,m,h0=>by
  by_cases h:w=0
  ·subst h;rw[vg_];simp
  by_cases hm:m<=0
  ·rw[vk_ n top w m h hm];simp
  rw[vB_ n top w m h hm]
  have hk:∀k:Int,k<=w->((zE_ k).flatMap λf=>(up n f (w-f) (m-1)).map (f :: ·)).length<=2^w.toNat:=by
   intro k hk
   rw[List.length_flatMap]
   unfold zE_
   rw[CI]
   have e:(List.map ((λf=>((up n f (w-f) (m-1)).map (f :: ·)).length) ∘ λ(i:Nat)=>k-(i:Int)) (List.range k.toNat))=(List.range k.toNat).map λ(i:Nat)=>(up n (k-(i:Int)) (w-(k-(i:Int))) (m-1)).length:=by
    apply Bw;intro i _;simp
   rw[e]
   have q:=y3_ (λi=>(up n (k-(i:Int)) (w-(k-(i:Int))) (m-1)).length) (w-k).toNat k.toNat (λi hi=>by
    have ih:=ad9_ n (k-(i:Int)) (w-(k-(i:Int))) (m-1) (by omega)
    have e2:(w-(k-(i:Int))).toNat=(w-k).toNat+i:=by omega
    rw[e2]at ih
    exact ih)
   by_cases hk0:0<=k
   ·have e3:(w-k).toNat+k.toNat=w.toNat:=by omega
    rw[e3]at q
    exact Ag (Cq _ _) q
   ·have e4:k.toNat=0:=by omega
    rw[e4];simp
  apply hk
  split<;>omega
theorem afl_{k f:Int}(h:f∈zE_ k):1<=f/\f<=k:=by
 unfold zE_ at h
 obtain⟨i,hi,e⟩:=AV.mp h
 have:=Ad.mp hi
 omega
theorem af2_:∀(n:Nat)(top w m:Int),0<=w->∀r∈up n top w m,(r.length:Int)<=w
 |0,_,_,_,_,r,h=>by simp [up]at h
 |n+1,top,w,m,h0,r,hr=>by
  by_cases h:w=0
  ·subst h;rw[vg_]at hr;simp at hr;subst hr;simp
  by_cases hm:m<=0
  ·rw[vk_ n top w m h hm]at hr;simp at hr
  rw[vB_ n top w m h hm]at hr
  obtain⟨f,hf,hr⟩:=BB.mp hr
  obtain⟨r',hr',rfl⟩:=AV.mp hr
  have z:=afl_ hf
  have zw:f<=w:=by
   have:(if w<top then w else top)<=w:=by split<;>omega
   omega
  have ih:=af2_ n f (w-f) (m-1) (by omega) r' hr'
  rw[AY]
  omega
theorem ack_{α β:Type}(g:α->List β):∀{l:List α}{i:Nat}{a:α},l[i]?=some a->(l.take (i+1)).flatMap g=(l.take i).flatMap g++g a
 |[],i,a,e=>by simp at e
 |x::l,0,a,e=>by simp at e;subst e;simp
 |x::l,i+1,a,e=>by
  have ih:=ack_ g (l:=l) (i:=i) (a:=a) (by simpa using e)
  rw[CY,Ay,ih,CY,Ay,AX]
theorem ac1_{α β:Type}(g:α->List β):∀(l:List α)(i:Nat),((l.take i).flatMap g).length<=(l.flatMap g).length
 |[],i=>by simp
 |x::l,0=>by simp
 |x::l,i+1=>by
  have ih:=ac1_ g l i
  rw[CY,Ay,Ay,AK,AK]
  omega
theorem ag9_{k:Int}{i:Nat}(h:i<k.toNat):(zE_ k)[i]?=some (k-(i:Int)):=by
 unfold zE_
 rw[Ac,Ca h]
 rfl
theorem afi_(k:Int):(zE_ k).length=k.toNat:=by unfold zE_;simp
theorem amb_{n:Nat}{t w m:Int}(h0:0<=w)(h8:w<=8):(up n t w m).length<=256:=by
 have q:=ad9_ n t w m h0
 have z:2^w.toNat<=2^8:=Cr (by decide) (by omega)
 exact Ag q z
abbrev pU:List Str:=["_law_weight", "_law_most", "_law_top"]
def va_(n:Nat):Sp:=λvs H Q _=>∃t w m:Int,vs=[.int w,.int m,.int t]/\0<=t/\0<=w/\w<=8/\w<n /\
 ∀(l:Addr)(H':Hp),H l=none->Same H H'->LstAt H' l (up n t w m)->Q (.ref l) H'
abbrev nU:List Str:=["_law_weight", "_law_most", "_law_top", "_law_found", "_law_first", "_law_rest"]
theorem scU:FnScope nU pU (qi_ sRws):=⟨rfl,rfl,rfl,by decide +kernel,rfl,by decide +kernel,by decide +kernel⟩
theorem al0_{n:Nat}(h:n<=1000):n<sizeLine:=j7_ (by omega)
theorem aph_{n:Nat}(F:Fun K "_law_rows" "_law_rows" sRws f fd)(G:FnOk P w K mg base CX0 n f fd pU (va_ n))(bF:Binds K fd pU [])(mU:mg "_law_rows" = some (.ref f))(mr:mg "range" = none)(mm:mg "min" = none) :
  FnOk P w K mg base CX0 (n+1) f fd pU (va_ (n+1)):=by
 refine F.ok scU (λvs H Q E h=>?_) (λcdv A outer s H vs Q E hr h=>?_)
 ·obtain⟨t,w,m,rfl,_⟩:=h
  rfl
 obtain⟨t,w,m,rfl,ht,h0,h8,hn,q⟩:=h
 refine⟨_,qe_ (qD_ (qo_ v9_ (pv 0) qf_ (qn_ _)) (qg_ (qq_ (qE_ (qa_ (qu_ qb_) qb_)))) qt_)
  (qe_ (qp_ (i:=3) scU.nd rfl (Or.inl rfl) (qE_ qb_))
  (qe_ (qD_ (qo_ zl_ (pv 1) qf_ (qn_ _)) (qg_ (qL_ Ao rfl (af4_ rfl mr (qa_ (qh_ (afx_ rfl) rfl mm PyProof.Rows.boot_min (qa_ (pv 0) (qa_ (pv 2) qb_))) (qa_ qf_ (qa_ (v8_ yR_ qf_) qb_)))) (qk_ (i:=4) scU.nd rfl (Or.inl rfl))
   (qg_ (qL_ Ao rfl (q0_ (xx_ G hr rfl mU F.kp bF .nil ai7_ (qa_ (qj_ qU_ (pv 0) (pv 4)) (qa_ (qj_ qU_ (pv 1) qf_) (qa_ (pv 4) qb_))))) (qk_ (i:=5) scU.nd rfl (Or.inl rfl))
    (qg_ (zp_ (y0_ Br CT CU z9_ (pv 3) (qa_ (qj_ ab9_ (qu_ (qa_ (pv 4) qb_)) (pv 5)) qb_)))))))) qt_)
  (qg_ (qq_ (pv 3))))),?_⟩
 refine⟨_,rfl,rfl,_,rfl,?_⟩
 refine ite2 (λc=>?_) (λc=>?_)
 ·have c':V.int w=V.int 0:=of_decide_eq_true c
  have cw:w=0:=by injection c'
  subst cw
  refine⟨(by show 0<=sizeLine;decide),λp hp=>⟨(by show 1<=sizeLine;decide),λl hl=>?_⟩⟩
  have s1:Same H (upd H p (.tup [])):=qd_ hp _
  have s2:=qd_ hl (.lst [.ref p])
  refine q l _ (s1.free hl) (s1.trans s2) ⟨[.ref p],qc_,?_⟩
  rw[vg_]
  exact .cons ⟨p,[],rfl,s2 _ _ qc_,.nil⟩ .nil
 have cw:w≠0:=λz=>c (decide_eq_true (congrArg V.int z))
 refine⟨(by show 0<=sizeLine;decide),λl hl=>?_⟩
 have s0:Same H (upd H l (.lst [])):=qd_ hl _
 refine⟨_,rfl,_,_,rfl,rfl,_,rfl,?_⟩
 by_cases c2:¬ 0<m
 ·have cm:m<=0:=by omega
  refine za_ c2 ⟨_,rfl,?_⟩
  refine q l _ hl s0 ⟨[],qc_,?_⟩
  rw[vk_ n t w m cw cm]
  exact .nil
 have cm:¬ m<=0:=by omega
 refine zD_ (by omega) ?_
 have tot:=vB_ n t w m cw cm
 have tl:(up (n+1) t w m).length<=256:=amb_ h0 h8
 have hmin:(if t<w then t else w)=(if w<t then w else t):=by split<;>split<;>omega
 have hk0:0<=(if w<t then w else t):=by split<;>omega
 have hkw:(if w<t then w else t)<=w:=by split<;>omega
 generalize hk:(if w<t then w else t)=k at hk0 hkw tot
 rw[tot]at tl
 refine⟨_,rfl,_,rfl,_,_,rfl,_,rfl,_,_,rfl,⟨by rw[hmin,hk];omega,by rw[hmin,hk];omega,by decide,by decide⟩,?_⟩
 rw[hmin,hk]
 have ek:(k-0).toNat=k.toNat:=by rw[Ep]
 rw[ek]
 refine ah2_ (hi:=k) (n:=k.toNat) (λi σ H'=>(∃a b,σ=[some (.int w),some (.int m),some (.int t),some (.ref l),a,b])/\Same H H'/\LstAt H' l (((zE_ k).take i).flatMap λf=>(up n f (w-f) (m-1)).map (f :: ·))) ?_ ?_ ?_
 ·exact⟨⟨_,_,rfl⟩,s0,[],qc_,by simpa using Paired.nil⟩
 ·rintro i σ H1 hi ⟨⟨a,b,rfl⟩,sH,hL⟩
  have hd:=ag9_ hi
  have nx:=ack_ (λf=>(up n f (w-f) (m-1)).map (f :: ·)) hd
  have nle:=ac1_ (λf=>(up n f (w-f) (m-1)).map (f :: ·)) (zE_ k) (i+1)
  rw[nx]at nle
  generalize hpre:((zE_ k).take i).flatMap (λf=>(up n f (w-f) (m-1)).map (f :: ·))=pre at hL nx nle
  obtain⟨pv1,eL,iL⟩:=hL
  refine⟨_,rfl,_,rfl,_,_,rfl,rfl,_,rfl,_,_,rfl,rfl,_,rfl,k-(i:Int),w-(k-(i:Int)),m-1,rfl,by omega,by omega,by omega,by omega,λr H2 fr g1 e1=>?_⟩
  have rl:=af2_ n (k-(i:Int)) (w-(k-(i:Int))) (m-1) (by omega)
  generalize up n (k-(i:Int)) (w-(k-(i:Int))) (m-1)=rest at e1 nx nle rl
  obtain⟨vs2,e2,i2⟩:=e1
  refine⟨r,rfl,⟨_,SqL.of e2⟩,?_⟩
  have hrl:r≠l:=(qA_ eL fr).symm
  have l2:=AT i2
  refine zk_ (xs:=vs2) (λj σ H'=>(∃b,σ=[some (.int w),some (.int m),some (.int t),some (.ref l),some (.int (k-(i:Int))),b])/\Same H H'/\H' r=some (.lst vs2)/\Its H' vs2 rest/\LstAt H' l (pre++(rest.take j).map ((k-(i:Int)) :: ·))) ?_ ?_ ?_ ?_
  ·exact⟨⟨_,rfl⟩,sH.trans g1,e2,i2,pv1,g1 _ _ eL,by simpa using Its.mono (Tups.same g1) iL⟩
  ·rintro j σ H3 _ ⟨_,_,e3,_⟩
   exact SqL.of e3
  ·rintro j x σ H3 hx ⟨⟨b,rfl⟩,s3,e3,i3,pv2,eL3,iL3⟩
   obtain⟨row,hrow,hx2⟩:=Paired.get i3 hx
   obtain⟨px,rfl,hpx⟩:=qO_ hx2
   have len3:pv2.length<sizeLine:=by
    have z:=AT iL3
    have jl:j<rest.length:=by
     have:=(AR.mp hrow).1
     exact this
    rw[AK,AA,An]at z
    rw[AK,AA]at nle
    exact al0_ (by omega)
   have fin:∀(p:Addr)(H4:Hp),Same H3 H4->H4 p=some (.tup (((k-(i:Int))::row).map V.int)) ->
     acs_ (.ref l) [.ref p] H4 λ_ H5=>(∃b',[some (V.int w),some (.int m),some (.int t),some (.ref l),some (.int (k-(i:Int))),some (.ref px)]=[some (.int w),some (.int m),some (.int t),some (.ref l),some (.int (k-(i:Int))),b'])/\Same H H5/\H5 r=some (.lst vs2)/\Its H5 vs2 rest/\LstAt H5 l (pre++(rest.take (j+1)).map ((k-(i:Int)) :: ·)):=by
    intro p H4 s4 hp
    have eL4:=s4 _ _ eL3
    have t4:Tups H4 (upd H4 l (.lst (pv2++[.ref p]))):=act_ eL4 _
    refine⟨l,pv2,.ref p,rfl,rfl,eL4,len3,⟨_,rfl⟩,jz_ hl (s3.trans s4) _,?_,Its.mono ((Tups.same s4).trans t4) i3,pv2++[.ref p],qc_,?_⟩
    ·rw[ql_ hrl];exact s4 _ _ e3
    ·have q1:(rest.take (j+1)).map ((k-(i:Int)) :: ·)=(rest.take j).map ((k-(i:Int)) :: ·)++[(k-(i:Int))::row]:=by
      rw[List.take_add_one,hrow];simp
     rw[q1,<-AX]
     exact EL (Its.mono ((Tups.same s4).trans t4) iL3) (Dat.mono t4 (zR_ hp))
   refine⟨_,rfl,.inl ⟨rfl,_,SqL.of eL3⟩,_,rfl,(by show 1<=sizeLine;decide),λp hp=>⟨_,rfl,p,px,[.int (k-(i:Int))],row.map V.int,rfl,rfl,SqT.of qc_,SqT.of (qd_ hp _ _ _ hpx),(by simp),?_,λz=>?_,λz p2 hp2=>?_⟩⟩
   ·have zr:=rl row (Ah hrow)
    rw[AA]
    exact small (by show 1+row.length<=100000;omega)
   ·have zr:row=[]:=by simpa using z
    subst zr
    exact fin p _ (qd_ hp _) qc_
   ·exact fin p2 _ ((qd_ hp _).trans (qd_ hp2 _)) qc_
  ·rintro σ H3 ⟨⟨b,rfl⟩,s3,e3,i3,hL3⟩
   refine⟨⟨_,_,rfl⟩,s3,?_⟩
   rw[nx]
   rw[l2,DH]at hL3
   exact hL3
 ·rintro σ H1 ⟨⟨a,b,rfl⟩,sH,hL⟩
  refine⟨_,rfl,q l H1 hl sH ?_⟩
  rw[tot]
  have z:(zE_ k).take k.toNat=zE_ k:=by rw[<-afi_ k,DH]
  rw[z]at hL
  exact hL
theorem aai_:FnOk P w K mg base CX0 0 f fd pU (va_ 0):=by
 have no:∀vs H Q E,¬ va_ 0 vs H Q E:=λvs H Q E h=>by
  obtain⟨t,w,m,_,_,h0,_,h1,_⟩:=h
  omega
 exact⟨λvs H Q E h=>absurd h (no vs H Q E),λA outer s H args us vs Q E _ _ _ _ h=>absurd h (no vs H Q E)⟩
theorem af7_(F:Fun K "_law_rows" "_law_rows" sRws f fd)(bF:Binds K fd pU [])(mU:mg "_law_rows" = some (.ref f))(mr:mg "range" = none)(mm:mg "min" = none):∀n,FnOk P w K mg base CX0 n f fd pU (va_ n)
 |0=>aai_
 |n+1=>aph_ F (af7_ F bF mU mr mm n) bF mU mr mm
abbrev nDr:List Str:=["_law_cell_here", "_law_weight", "_law_some"]
abbrev pDr:List Str:=["_law_cell_here", "_law_weight"]
theorem scDr:FnScope nDr pDr (qi_ sDr):=⟨rfl,rfl,rfl,by decide +kernel,rfl,by decide +kernel,by decide +kernel⟩
theorem any_:∀w∈List.range 9,(up 9 (w:Int) (w:Int) (w:Int)).all (λr=>R8.contains r&&decide (r.sum=(w:Int))&&(decide (4<w)||R4.contains r))=true/\0<(up 9 (w:Int) (w:Int) (w:Int)).length:=by decide +kernel
def spDr:Sp:=λvs H Q _=>∃(c:Int)(w:Nat),vs=[.int c,.int w]/\w<=8/\∀(p:Addr)(r:List Int)(H':Hp),Same H H'->H' p=some (.tup (r.map V.int))->r∈R8->r.sum=(w:Int)->(w<=4->r∈R4)->Q (.ref p) H'
theorem apo_(F:Fun K "_law_drawn" "_law_drawn" sDr f fd)(GR:Has P w K mg base 9 "_law_rows" pU (va_ 9))(mn:mg "len" = none):FnOk P w K mg base CX0 10 f fd pDr spDr:=by
 refine F.ok scDr (λvs H Q E h=>?_) (λcdv A outer s H vs Q E hr h=>?_)
 ·obtain⟨c,w,rfl,_⟩:=h
  rfl
 obtain⟨c,w,rfl,w8,q⟩:=h
 refine⟨_,qe_ (qp_ (i:=2) scDr.nd rfl (Or.inl rfl) (qr_ GR hr rfl (qa_ (pv 1) (qa_ (pv 1) (qa_ (pv 1) qb_)))))
  (qg_ (qq_ (qs_ qN_ (pv 2) (qj_ z1_ (pv 0) (qh_ qm_ rfl mn Al (qa_ (pv 2) qb_))) (λ_ _=>rfl)))),?_⟩
 obtain⟨al,pos⟩:=any_ w (Ad.mpr (by omega))
 refine⟨_,rfl,_,rfl,_,rfl,w,w,w,rfl,by omega,by omega,by omega,by omega,λl H1 hl s1 hL=>?_⟩
 generalize up 9 (w:Int) (w:Int) (w:Int)=rs at *
 obtain⟨us,eU,iU⟩:=hL
 have lu:=AT iU
 have lr:0<(us.length:Int):=by omega
 have i0:=B8 c (show(us.length:Int)≠0 by omega)
 have i1:=CJ c lr
 obtain⟨i,hi⟩:∃i:Nat,c%(us.length:Int)=i:=⟨(c%(us.length:Int)).toNat,by omega⟩
 have il:i<us.length:=by omega
 obtain⟨r,hr',hI⟩:=q4_ iU (AE il)
 obtain⟨p,ep,hp⟩:=qO_ hI
 have k:=AI.mp al r (Ah hr')
 simp only[AG,CK,decide_eq_true_eq]at k
 obtain⟨⟨k1,k2⟩,k3⟩:=k
 refine⟨_,rfl,_,rfl,_,rfl,l,_,rfl,.inl (SqL.of eU),_,_,rfl,rfl,lr,l,us,_,.ref p,rfl,rfl,SqL.of eU,?_,q p r H1 s1 hp (by simpa using k1) k2 λz=>?_⟩
 ·show atI us (c%(us.length:Int))=_
  rw[hi]
  exact qW_ (by rw[AE il,ep])
 ·rcases k3 with k3|k3
  ·omega
  ·simpa using k3
abbrev bFt:List Str:=["_law_k", "_law_row"]
abbrev bFi:List Str:=["_law_number", "_law_k"]
theorem ndFt:bFt.Nodup:=by decide +kernel
theorem ndFi:bFi.Nodup:=by decide +kernel
theorem scFt:FnScope ["_law_row"] ["_law_row"] (qi_ vh_):=⟨rfl,rfl,rfl,by decide +kernel,rfl,by decide +kernel,by decide +kernel⟩
def ail_:Sp:=λvs H Q _=>∃(p:Addr)(r:List Int),vs=[.ref p]/\H p=some (.tup (r.map V.int))/\r∈R8/\∀(t:Addr)(H':Hp),Same H H'->H' t=some (.tup ((flt r).map V.int))->Q (.ref t) H'
theorem R8_1:R8.all (λr=>decide (0<=(r.take 1).sum)&&decide ((r.take 1).sum<=8)&&decide (r.length<=8))=true:=by decide +kernel
theorem anc_(F:Fun K "_law_flat" "_law_flat" vh_ f fd)(mt:mg "tuple" = none)(ms:mg "sum" = none)(mr:mg "range" = none)(mn:mg "len" = none):FnOk P w K mg base CX0 2 f fd ["_law_row"] ail_:=by
 refine F.ok scFt (λvs H Q E h=>?_) (λcdv A outer s H vs Q E hr h=>?_)
 ·obtain⟨p,r,rfl,_⟩:=h
  rfl
 obtain⟨p,r,rfl,hp,h8,q⟩:=h
 have k:=AI.mp R8_1 r h8
 simp only[AG,decide_eq_true_eq]at k
 obtain⟨⟨k1,k2⟩,k3⟩:=k
 refine⟨_,qg_ (qq_ (zC_ zG_ rfl mt Be (qa_ (aat_ (N':=bFt) (z := "_law_k") (src:=[none,some 0]) rfl (zA_ rfl mr (qa_ (qh_ (zt_ rfl) rfl ms BJ (qa_ (jy_ agd_ (pv 0) jQ_ (jN_ qf_)) qb_)) qb_)) (aey_ (qi_ vh_) ["_law_row"] (by decide +kernel) (λ_ _=>rfl) (λ_=>rfl))
   (λb=>qk_ (i:=0) ndFt rfl (Or.inr rfl)) (λb=>zz_)
   (λb=>qh_ qm_ rfl mn Al (qa_ (q8_ (N':=bFi) (src:=[none,some 0]) rfl (z3_ (pv 1)) (zq_ (relabel (agf_ vh_) { (default:Env) with scope:=qi_ vh_ }) bFt (by decide +kernel))
    (λb2=>qk_ (i:=0) ndFi rfl (Or.inl rfl)) (λb2=>z6_ (qo_ zl_ (pv 0) (pv 1) (qn_ _))) (λb2=>pv 0)) qb_))) qb_))),?_⟩
 refine⟨_,rfl,_,rfl,p,r,1,rfl,rfl,rfl,hp,λt1 H1 s1 h1=>?_⟩
 refine⟨t1,_,rfl,SqT.of h1,_,rfl,by omega,by omega,λbk D hD=>?_⟩
 have hp1:=s1 _ _ hp
 refine jo_ (α:=Int) hD (λσ=>∃c,σ=[c,some (.ref p)]) (λ(i:Nat)=>some ((r.filter λx=>decide ((i:Int)<x)).length:Int)) (small (by omega)) ?_ ?_ ?_
 ·exact⟨_,rfl⟩
 ·rintro i σ H2 Yes No hi ⟨c,rfl⟩ s2 yes no
  refine z7_ ?_
  have e0:(0:Int)+(i:Int)=(i:Int):=by omega
  rw[e0]
  have hp2:=s2 _ _ hp1
  refine⟨_,rfl,p,rfl,⟨_,SqT.of hp2⟩,λbk2 D2 hD2=>?_⟩
  refine j3_ (α:=Int) hD2 (SqT.of hp2) (λσ=>∃c,σ=[c,some (.int (i:Int))]) (λj=>(r[j]?).bind λx=>if (i:Int)<x then some x else none) (small (by rw[AA];omega)) ?_ ?_ ?_
  ·exact⟨_,rfl⟩
  ·rintro j v σ H3 Yes2 No2 hv ⟨c2,rfl⟩ s3 yes2 no2
   obtain⟨x,hx,rfl⟩:∃x,r[j]?=some x/\V.int x=v:=by
    rw[Ac]at hv
    cases e:r[j]? with
    |none=>rw[e]at hv;cases hv
    |some y=>rw[e]at hv;exact⟨y,rfl,AW hv⟩
   refine⟨_,rfl,_,rfl,_,_,rfl,rfl,_,rfl,?_⟩
   by_cases c0:(i:Int)<x
   ·exact zD_ c0 ⟨_,rfl,yes2 _ _ _ x ⟨_,rfl⟩ (Same.refl _) (by rw[hx];exact if_pos c0) rfl⟩
   ·exact za_ c0 (no2 _ _ ⟨_,rfl⟩ (Same.refl _) (by rw[hx];exact if_neg c0))
  ·rintro H3 s3 ⟨ws,eD,iD⟩
   have ez:(List.range (r.map V.int).length).filterMap (λj=>(r[j]?).bind λx=>if (i:Int)<x then some x else none)=r.filter λx=>decide ((i:Int)<x):=by
    rw[AA,zg_,zI_]
    exact EQ _
   rw[zF_ iD,ez]at eD
   refine⟨D2,_,rfl,.inl (SqL.of eD),?_⟩
   rw[AA]
   exact yes _ _ _ _ ⟨_,rfl⟩ s3 rfl rfl
 ·rintro H2 s2 ⟨ws,eD,iD⟩
  have ez:((List.range ((r.take 1).sum).toNat).filterMap λ(i:Nat)=>some ((r.filter λx=>decide ((i:Int)<x)).length:Int))=flt r:=by
   rw[BM]
   rfl
  rw[zF_ iD,ez]at eD
  refine⟨D,_,rfl,.inl ⟨SqL.of eD,λt h=>?_⟩⟩
  exact q t _ (s1.trans (s2.trans (qd_ h _))) qc_
theorem acp_:∀{d:List Mon},Nd d->∀{t:Mon},t∈d->qX_ d t.1=some t.2
 |[],_,t,h=>by simp at h
 |u::r,h,t,ht=>by
  obtain⟨h1,h2⟩:=B4.mp (show(u.1::r.map (·.1)).Nodup from h)
  rcases AN.mp ht with rfl|ht
  ·simp [qX_,BR]
  ·have e:¬ u.1=t.1:=λz=>h1 (z▸AV.mpr ⟨t,ht,rfl⟩)
   have ih:=acp_ h2 ht
   unfold qX_ at ih ⊢
   rw[BR,decide_eq_false e]
   exact ih
abbrev bPn:List Str:=["_law_powers", "_law_total"]
theorem ndPn:bPn.Nodup:=by decide +kernel
theorem scPn:FnScope ["_law_total"] ["_law_total"] (qi_ y9_):=⟨rfl,rfl,rfl,by decide +kernel,rfl,by decide +kernel,by decide +kernel⟩
def vw_:Sp:=λvs H Q _=>∃(a:Addr)(ts:List Mon),vs=[.ref a]/\H a=some (.dT (toK (qv_ ts)))/\ts.length<=100000/\∀(l:Addr)(H':Hp),H l=none->(∀b u,b≠a->H b=some u->H' b=some u)->LstAt H' l (norm ts)->Q (.ref l) H'
theorem agv_(F:Fun K "_law_plain" "_law_plain" y9_ f fd)(ms:mg "sorted" = none):FnOk P w K mg base CX0 2 f fd ["_law_total"] vw_:=by
 refine F.ok scPn (λvs H Q E h=>?_) (λcdv A outer s H vs Q E hr h=>?_)
 ·obtain⟨a,ts,rfl,_⟩:=h
  rfl
 obtain⟨d,ts,rfl,h1,hlen,q⟩:=h
 have hu:=aaa_ hr
 have h8:=hu8 hr
 refine⟨_,qg_ (qq_ (ads_ (α:=Mon) rfl h8 rfl ms (qa_ (q8_ (N':=bPn) (src:=[none,some 0]) rfl (akj_ (pv 0)) (zq_ (qi_ y9_) ["_law_total"] (by decide +kernel))
   (λb=>qk_ (i:=0) ndPn rfl (Or.inl rfl))
   (λb=>z6_ (qo_ xe_ (x6_ hu (pv 1) (pv 0) (λ_ _=>rfl)) qf_ (qn_ _)))
   (λb=>qu_ (qa_ (pv 0) (qa_ (x6_ hu (pv 1) (pv 0) (λ_ _=>rfl)) qb_)))) qb_))),?_⟩
 have dl:=xA_ ts
 refine⟨_,rfl,d,qv_ ts,rfl,h1,λo b D hD=>?_⟩
 have hd1:(upd H d (.frz o (.dT (toK (qv_ ts))))) d=some (.frz o (.dT (toK (qv_ ts)))):=qc_
 have dD:D≠d:=λz=>by rw[z,hd1]at hD;cases hD
 refine afc_ (α:=Mon) hD hd1 (λσ=>∃c,σ=[c,some (.ref d)]) (λi=>((qv_ ts)[i]?).bind λt=>if t.2≠0 then some t else none) (small (by omega)) ⟨_,rfl⟩ ?_ ?_
 ·rintro i t k σ H2 Yes No ht hk ⟨c,rfl⟩ s3 yes no
  have hd3:=s3 _ _ hd1
  have g:DGet H2 d (.ref k) (jh_ (toK (qv_ ts)) (t.1.map Sum.inl)):=.inr ⟨_,_,k,.inr ⟨o,hd3⟩,rfl,by rw[jt_];exact hk,rfl⟩
  rw[xw_,acp_ (jU_ ts) (Ah ht)]at g
  refine⟨_,rfl,_,rfl,d,.int t.2,rfl,g,rfl,_,rfl,?_⟩
  by_cases c0:t.2=0
  ·have e0:(!decide (V.int t.2=V.int 0))=false:=by rw[decide_eq_true (congrArg V.int c0)];rfl
   rw[e0]
   refine q6_ ?_
   exact no _ _ ⟨_,rfl⟩ (Same.refl _) (by rw[ht,DI,if_neg (by simpa using c0)])
  ·have e0:(!decide (V.int t.2=V.int 0))=true:=by
    rw[decide_eq_false (λz=>c0 (by injection z))]
    rfl
   rw[e0]
   refine zY_ ⟨_,rfl,_,rfl,_,rfl,d,.int t.2,rfl,g,(by show 2<=sizeLine;decide),λr hr=>?_⟩
   exact yes _ _ _ t ⟨_,rfl⟩ (qd_ hr _) (by rw[ht,DI,if_pos (by simpa using c0)]) (abt_ qc_ (qd_ hr _ _ _ hk))
 ·intro H2 s3 hL
  refine⟨D,_,rfl,hL,λ_ _=>True.intro,λp vs' l' hp pm so it=>?_⟩
  have s4:=s3.trans (qd_ hp (.lst vs'))
  have fp:=s3.free hp
  have pd:p≠d:=λz=>by rw[z,hd1]at fp;cases fp
  refine q p _ (by rw[ql_ pd]at fp;exact fp) (λb u hb e=>s4 b u (by rw[ql_ hb];exact e)) ⟨vs',qc_,?_⟩
  have e:l'=norm ts:=by
   refine agr_ ?_ so
   rw[zg_,zI_ (λt:Mon=>t.2≠0) (λt=>t),List.map_id']at pm
   exact pm
  rw[<-e]
  exact Its.mono (abs_ hp _) it
abbrev nTm:List Str:=["_law_one", "_law_other", "_law_total", "_law_left", "_law_number", "_law_right", "_law_count", "_law_powers"]
abbrev bTm:List Str:=["_law_a", "_law_b"]
theorem ndTm:bTm.Nodup:=by decide +kernel
theorem scTm:FnScope nTm ["_law_one", "_law_other"] (qi_ sTim):=⟨rfl,rfl,rfl,by decide +kernel,rfl,by decide +kernel,by decide +kernel⟩
def aih_:Sp:=λvs H Q _=>∃(a b:Addr)(n d e x y:Nat)(ts us:List Mon),vs=[.ref a,.ref b]/\LstAt H a ts/\LstAt H b us/\Deg n d x ts/\Deg n e y us/\1<=n/\n<=4/\x<=100000/\y<=100000/\ts.length*us.length<=40000 /\
 ∀(l:Addr)(H':Hp),H l=none->Same H H'->LstAt H' l (norm (prd ts us))->Q (.ref l) H'
theorem amt_(F:Fun K "_law_times" "_law_times" sTim f fd)(GP:Has P w K mg base 2 "_law_plain" ["_law_total"] vw_)(mt:mg "tuple" = none)(mz:mg "zip" = none):FnOk P w K mg base CX0 3 f fd ["_law_one", "_law_other"] aih_:=by
 refine F.ok scTm (λvs H Q E h=>?_) (λcdv A outer s H vs Q E hr h=>?_)
 ·obtain⟨a,b,n,d,e,x,y,ts,us,rfl,_⟩:=h
  rfl
 obtain⟨a,b,n,d,e,x,y,ts,us,rfl,hA,hB,ga,gb,n1,n4,hx1,hy1,hml,q⟩:=h
 have hu:=aaa_ hr
 refine⟨_,qe_ (qp_ (i:=2) scTm.nd rfl (Or.inl rfl) yC_)
  (qe_ (qL_ Ao rfl (q0_ (pv 0)) (jk_ rfl (qK_ (qk_ (i:=3) scTm.nd rfl (Or.inl rfl)) (qK_ (qk_ (i:=4) scTm.nd rfl (Or.inl rfl)) zT_)))
   (qg_ (qL_ Ao rfl (q0_ (pv 1)) (jk_ rfl (qK_ (qk_ (i:=5) scTm.nd rfl (Or.inl rfl)) (qK_ (qk_ (i:=6) scTm.nd rfl (Or.inl rfl)) zT_)))
    (qe_ (qp_ (i:=7) scTm.nd rfl (Or.inl rfl)
     (zC_ zG_ rfl mt Be (qa_ (q8_ (N':=bTm) (src:=[none,none]) rfl
      (yU_ .tup .tup rfl mz (qa_ (pv 3) (qa_ (pv 5) qb_))) (zq_ (qi_ sTim) nTm (by decide +kernel))
      (λb=>jk_ rfl (qK_ (qk_ (i:=0) ndTm rfl (Or.inl rfl)) (qK_ (qk_ (i:=1) ndTm rfl (Or.inl rfl)) zT_)))
      (λb=>zz_)
      (λb=>qj_ zP_ (pv 0) (pv 1))) qb_)))
    (qg_ (vv_ hu (pv 2) (pv 7) (qj_ zP_ (yF_ hu (pv 2) (pv 7) qf_ ⟨rfl,rfl,rfl,rfl⟩) (qj_ acb_ (pv 4) (pv 6))) rfl))))))
  (qg_ (qq_ (qr_ GP hr rfl (qa_ (pv 2) qb_))))),?_⟩
 obtain⟨vs,eA,iA⟩:=id hA
 obtain⟨ws,eB,iB⟩:=id hB
 have lva:=AT iA
 have lvb:=AT iB
 intro l hl0
 have s0:Same H (upd H l (.dT [])):=qd_ hl0 _
 refine⟨_,rfl,a,rfl,⟨vs,SqL.of (s0 _ _ eA)⟩,?_⟩
 refine zk_ (xs:=vs) (λi σ H'=>(∃c3 c4 c5 c6 c7,σ=[some (.ref a),some (.ref b),some (.ref l),c3,c4,c5,c6,c7])/\H' l=some (.dT (toK (qv_ (prd (ts.take i) us))))/\Same H H') ?_ ?_ ?_ ?_
 ·exact⟨⟨_,_,_,_,_,rfl⟩,qc_,s0⟩
 ·rintro i σ H1 _ ⟨_,_,s1⟩
  exact SqL.of (s1 _ _ eA)
 ·rintro i v σ H1 hv ⟨⟨c3,c4,c5,c6,c7,rfl⟩,hL,s1⟩
  obtain⟨t,ht,hi⟩:=q4_ iA hv
  have hmt:=Ah ht
  have lti:i<ts.length:=(AR.mp ht).1
  obtain⟨p,k1,rfl,hp,hk1⟩:=xM_ hi
  refine⟨p,_,rfl,SqT.of (s1 _ _ hp),rfl,_,_,rfl,_,_,rfl,rfl,?_⟩
  refine⟨_,rfl,b,rfl,⟨ws,SqL.of (s1 _ _ eB)⟩,?_⟩
  refine zk_ (xs:=ws) (λj σ H'=>(∃c5 c6 c7,σ=[some (.ref a),some (.ref b),some (.ref l),some (.ref k1),some (.int t.2),c5,c6,c7])/\H' l=some (.dT (toK (qv_ (prd (ts.take i) us++(us.take j).map λu=>(pad t.1 u.1,t.2*u.2)))))/\Same H H') ?_ ?_ ?_ ?_
  ·refine⟨⟨_,_,_,rfl⟩,?_,s1⟩
   rw[CQ,C2,BP]
   exact hL
  ·rintro j σ H2 _ ⟨_,_,s2⟩
   exact SqL.of (s2 _ _ eB)
  ·rintro j w2 σ H2 hw ⟨⟨c5,c6,c7,rfl⟩,eZ,s2⟩
   obtain⟨u,hu2,hj⟩:=q4_ iB hw
   have hmu:=Ah hu2
   have luj:j<us.length:=(AR.mp hu2).1
   have lz:=xA_ (prd (ts.take i) us++(us.take j).map λu=>(pad t.1 u.1,t.2*u.2))
   rw[AK,yh_,AA,An,An,Cd (by omega),Cd (by omega)]at lz
   have lz2:(qv_ (prd (ts.take i) us++(us.take j).map λu=>(pad t.1 u.1,t.2*u.2))).length<=40000:=by
    have z1:i*us.length+j<(i+1)*us.length:=by rw[C3];omega
    have z2:(i+1)*us.length<=ts.length*us.length:=CP _ lti
    omega
   have hlu:t.1.length=u.1.length:=by rw[ga.len t hmt,gb.len u hmu]
   obtain⟨p',k2,rfl,hp',hk2⟩:=xM_ hj
   refine⟨p',_,rfl,SqT.of (s2 _ _ hp'),rfl,_,_,rfl,_,_,rfl,rfl,?_⟩
   refine⟨_,rfl,_,rfl,k1,k2,rfl,⟨_,SqT.of (s2 _ _ hk1)⟩,⟨_,SqT.of (s2 _ _ hk2)⟩,λbk D hD=>?_⟩
   refine xB_ (α:=Int) (k1:=.tup) (k2:=.tup) hD (SqT.of (s2 _ _ hk1)) (SqT.of (s2 _ _ hk2)) (λσ=>∃c d,σ=[c,d]) (λi=>some (t.1.getD i 0+u.1.getD i 0)) (small (by rw[AA,ga.len t hmt];omega)) ?_ ?_ ?_
   ·exact⟨_,_,rfl⟩
   ·rintro i x y p2 σ H2 Yes No hx hy h2 ⟨c,d,rfl⟩ s3 yes no
    obtain rfl:V.int (t.1.getD i 0)=x:=by
     rw[Ac]at hx
     rw[AF]
     cases e:t.1[i]? with
     |none=>rw[e]at hx;cases hx
     |some c=>rw[e]at hx;exact AW hx
    obtain rfl:V.int (u.1.getD i 0)=y:=by
     rw[Ac]at hy
     rw[AF]
     cases e:u.1[i]? with
     |none=>rw[e]at hy;cases hy
     |some c=>rw[e]at hy;exact AW hy
    refine⟨p2,_,rfl,SqT.of qc_,rfl,_,_,rfl,_,_,rfl,rfl,?_⟩
    refine yesT ?_
    refine⟨_,rfl,_,rfl,_,_,rfl,rfl,?_⟩
    exact yes _ _ _ _ ⟨_,_,rfl⟩ (qd_ h2 _) rfl rfl
   rintro H3 s3 ⟨ys,eD,iD⟩
   rw[zF_ iD,afw_ _ _ hlu]at eD
   refine⟨D,_,rfl,.inl ⟨SqL.of eD,λr hr2=>?_⟩⟩
   have s4:=qd_ hr2 (.tup ((pad t.1 u.1).map V.int))
   have s34:=s3.trans s4
   have h1:=s34 _ _ eZ
   have hk:(upd H3 r (.tup ((pad t.1 u.1).map V.int))) r=some (.tup ((pad t.1 u.1).map V.int)):=qc_
   have g:=DGet.t (k:=(pad t.1 u.1).map Sum.inl) h1 (by rw[jt_];exact hk)
   rw[xw_]at g
   refine⟨_,rfl,l,rfl,.inr ⟨_,.inl h1⟩,_,rfl,_,g,_,rfl,_,rfl,_,_,rfl,rfl,⟨zf_ (ga.num t hmt) hx1,zf_ (gb.num u hmu) hy1⟩,(qX_ (qv_ (prd (ts.take i) us++(us.take j).map λu=>(pad t.1 u.1,t.2*u.2))) (pad t.1 u.1)).getD 0,t.2*u.2,?_,rfl,_,rfl,_,rfl,l,_,rfl,DPut.t (k:=(pad t.1 u.1).map Sum.inl) h1 (by rw[jt_];exact hk) ?_,?_⟩
   ·cases qX_ (qv_ (prd (ts.take i) us++(us.take j).map λu=>(pad t.1 u.1,t.2*u.2))) (pad t.1 u.1)<;>rfl
   ·rw[x7_]
    exact j7_ (by omega)
   ·refine⟨⟨_,_,_,rfl⟩,?_,λb' o e'=>?_⟩
    ·rw[zJ_ hu2,BU,<-AX]
     show _=some (HO.dT (toK (qv_ (_++[(pad t.1 u.1,t.2*u.2)]))))
     rw[zB_,<-vn_]
     exact qc_
    ·rw[ql_ (qA_ e' hl0)]
     exact s34 _ _ (s2 b' o e')
  ·rintro σ H2 ⟨⟨c5,c6,c7,rfl⟩,hL2,s2⟩
   rw[Aj (show us.length<=ws.length by omega)]at hL2
   refine⟨⟨_,_,_,_,_,rfl⟩,?_,s2⟩
   rw[zJ_ ht,agy_]
   exact hL2
 ·rintro σ H1 ⟨⟨c3,c4,c5,c6,c7,rfl⟩,hL,s1⟩
  rw[Aj (by omega)]at hL
  refine⟨_,rfl,l,_,rfl,hL,by rw[yh_];omega,λr H2 hr s2 h2=>?_⟩
  exact q r H2 (s1.free hr) (λb' u' e'=>s2 b' u' (qA_ e' hl0) (s1 b' u' e')) h2
abbrev nPt:List Str:=["_law_total", "_law_some", "_law_number", "_law_powers", "_law_count"]
abbrev pPt:List Str:=["_law_total", "_law_some", "_law_number"]
theorem scPt:FnScope nPt pPt (qi_ sPut):=⟨rfl,rfl,rfl,by decide +kernel,rfl,by decide +kernel,by decide +kernel⟩
def ain_:Sp:=λvs H Q _=>∃(d a:Addr)(x:Int)(acc us:List Mon),vs=[.ref d,.ref a,.int x]/\H d=some (.dT (toK (qv_ acc)))/\LstAt H a us/\(qv_ acc).length+us.length<=100000/\x.natAbs<2^100000/\(∀t∈us,t.2.natAbs<2^100000) /\
 ∀H',But d H H'->H' d=some (.dT (toK (qv_ (acc++scl x us))))->Q (.ref d) H'
theorem vN_(acc us:List Mon):(qv_ (acc++us)).length<=(qv_ acc).length+us.length:=by
 revert us
 refine xb_ ?_ λus t ih=>?_
 ·rw[BP];exact AH _
 ·rw[<-AX,zB_,AK,BZ]
  have:=aaj_ (qv_ (acc++us)) t.1 ((qX_ (qv_ (acc++us)) t.1).getD 0+t.2)
  omega
theorem ah8_(x:Int)(us:List Mon)(t:Mon):scl x (us++[t])=scl x us++[(t.1,x*t.2)]:=by
 unfold scl
 rw[BU]
 rfl
theorem ak4_(F:Fun K "_law_put" "_law_put" sPut f fd):FnOk P w K mg base CX0 2 f fd pPt ain_:=by
 refine F.ok scPt (λvs H Q E h=>?_) (λcdv A outer s H vs Q E hr h=>?_)
 ·obtain⟨d,a,x,acc,us,rfl,_⟩:=h
  rfl
 obtain⟨d,a,x,acc,us,rfl,hd,hA,hz,hx,hn,q⟩:=h
 have hu:=aaa_ hr
 refine⟨_,qe_ (qL_ Ao rfl (q0_ (pv 1)) (jk_ rfl (qK_ (qk_ (i:=3) scPt.nd rfl (Or.inl rfl)) (qK_ (qk_ (i:=4) scPt.nd rfl (Or.inl rfl)) zT_)))
   (qg_ (vv_ hu (pv 0) (pv 3) (qj_ zP_ (yF_ hu (pv 0) (pv 3) qf_ ⟨rfl,rfl,rfl,rfl⟩) (qj_ acb_ (pv 2) (pv 4))) rfl)))
  (qg_ (qq_ (pv 0))),?_⟩
 obtain⟨vs,eA,iA⟩:=id hA
 have lv:=AT iA
 have na:a≠d:=zW_ eA hd (by intro z;cases z)
 refine⟨_,rfl,a,rfl,⟨vs,SqL.of eA⟩,?_⟩
 refine zk_ (xs:=vs) (λi σ H'=>(∃c3 c4,σ=[some (.ref d),some (.ref a),some (.int x),c3,c4])/\H' d=some (.dT (toK (qv_ (acc++scl x (us.take i)))))/\But d H H') ?_ ?_ ?_ ?_
 ·refine⟨⟨_,_,rfl⟩,?_,λ_ _ _ e=>e⟩
  rw[CQ,show scl x []=[] from rfl,BP]
  exact hd
 ·rintro i σ H1 _ ⟨_,_,s1⟩
  exact SqL.of (s1 _ _ na eA)
 ·rintro i v σ H1 hv ⟨⟨c3,c4,rfl⟩,h1,s1⟩
  obtain⟨t,ht,hi⟩:=q4_ iA hv
  have hmt:=Ah ht
  have lti:i<us.length:=(AR.mp ht).1
  obtain⟨p,k1,rfl,hp,hk1⟩:=xM_ hi
  have hp1:=s1 _ _ (zW_ hp hd (by intro z;cases z)) hp
  have hk:=s1 _ _ (zW_ hk1 hd (by intro z;cases z)) hk1
  refine⟨p,_,rfl,SqT.of hp1,rfl,_,_,rfl,_,_,rfl,rfl,?_⟩
  have g:=DGet.t (k:=t.1.map Sum.inl) h1 (by rw[jt_];exact hk)
  rw[xw_]at g
  have ls:=vN_ acc (scl x (us.take i))
  rw[yc_,An]at ls
  refine⟨_,rfl,d,rfl,.inr ⟨_,.inl h1⟩,_,rfl,_,g,_,rfl,_,rfl,_,_,rfl,rfl,⟨hx,hn t hmt⟩,(qX_ (qv_ (acc++scl x (us.take i))) t.1).getD 0,x*t.2,?_,rfl,_,rfl,_,rfl,d,_,rfl,DPut.t (k:=t.1.map Sum.inl) h1 (by rw[jt_];exact hk) ?_,?_⟩
  ·cases qX_ (qv_ (acc++scl x (us.take i))) t.1<;>rfl
  ·rw[x7_]
   exact j7_ (by omega)
  ·refine⟨⟨_,_,rfl⟩,?_,λb' o nb e'=>?_⟩
   ·rw[zJ_ ht,ah8_,<-AX]
    show _=some (HO.dT (toK (qv_ (_++[(t.1,x*t.2)]))))
    rw[zB_,<-vn_]
    exact qc_
   ·rw[ql_ nb]
    exact s1 b' o nb e'
 ·rintro σ H1 ⟨⟨c3,c4,rfl⟩,h1,s1⟩
  rw[Aj (by omega)]at h1
  exact⟨_,rfl,q H1 s1 h1⟩
def p4(r:List Int):Pw:=r++List.replicate (4-r.length) 0
def topB(r:List Int):Bool:=decide (cf (qx_ 4 r) (p4 r)=1)&&(qx_ 4 r).all (λt=>decide (t.1=p4 r)||lxl t.1 (p4 r))&&decide (qJ_ (p4 r)=r)
theorem am2_:(rws 4 8 8).all topB=true:=by decide +kernel
theorem apa_:(rws 4 8 8).all (λr=>(rws 4 8 8).all λs=>!lxl r s||lxl (p4 r) (p4 s))=true:=by decide +kernel
theorem acx_{r:List Int}(R:Rw8 4 r):Top (norm (qx_ 4 r)) (p4 r) 1/\qJ_ (p4 r)=r:=by
 have k:=AI.mp am2_ r R.mem
 unfold topB at k
 simp only[AG,decide_eq_true_eq,AI]at k
 obtain⟨⟨k1,k2⟩,k3⟩:=k
 exact⟨Top.norm ⟨k1,λt ht=>by simpa using k2 t ht⟩,k3⟩
theorem afq_{t:Mon}(R:Rw8 4 t.1):Top (flG 4 t) (p4 t.1) t.2:=by
 have T:=(acx_ R).1
 refine⟨?_,λu hu=>?_⟩
 ·unfold flG
  rw[zm_,zN_,<-zm_,T.at_,ES]
 ·unfold flG at hu
  obtain⟨v,hv,rfl⟩:=AV.mp hu
  exact T.top v hv
theorem aj0_{t:Mon}{T:List Mon}(c:Canon (t::T))(h:∀u∈t::T,Rw8 4 u.1):Top (norm ((t::T).flatMap (flG 4))) (p4 t.1) t.2:=by
 refine Top.norm ?_
 have T0:=afq_ (h t (AD ..))
 have below:∀u∈T.flatMap (flG 4),lxl u.1 (p4 t.1)=true:=λu hu=>by
  obtain⟨s,hs,hu⟩:=BB.mp hu
  have R:=h s (AC _ hs)
  have o:=(Ab.mp c.ord).1 s hs
  have k:=AI.mp (AI.mp apa_ s.1 R.mem) t.1 (h t (AD ..)).mem
  rw[o,DF,Ct]at k
  rcases (afq_ R).top u hu with e|e
  ·rw[e];exact k
  ·exact zs_ e k
 rw[Ay]
 refine⟨?_,λu hu=>?_⟩
 ·rw[xg_,T0.at_,zo_ λu hu e=>?_,Int.add_zero]
  have:=below u hu
  rw[e,q7_]at this
  cases this
 ·rcases Ap.mp hu with hu|hu
  ·exact T0.top u hu
  ·exact .inr (below u hu)
def lft(T:List Mon):List Mon:=norm (T.flatMap (flG 4))
theorem aht_(t:Mon)(T:List Mon):norm (scl 1 (lft (t::T))++scl (0-t.2) (norm (qx_ 4 t.1)))=lft T:=by
 refine zK_ λF=>?_
 unfold lft
 rw[jX_,aa1_,aa1_,qy_,Ay,jX_]
 show 1*(sm F ((norm (qx_ 4 t.1)).map λu=>(u.1,u.2*t.2))+_)+_=_
 rw[zN_,ES,Int.sub_mul,Int.zero_mul,DT t.2]
 omega
theorem ahz_{t:Mon}{T:List Mon}(c:Canon (t::T))(h:∀u∈t::T,Rw8 4 u.1):∃r,lft (t::T)=(p4 t.1,t.2)::r:=Top.head (qF_ _) (aj0_ c h) (c.num t (AD ..))
theorem ys_{n:Nat}{r:List Int}(nr:NR n r):(∀t∈norm (qx_ n r),t.2.natAbs<2^12)/\(norm (qx_ n r)).length<=1000:=by
 have lt:(qx_ n r).length<=1000:=by
  unfold qx_ fil
  rw[AA]
  exact nr.few _ (AH _)
 refine⟨λt ht=>?_,Ag (yr_ _) lt⟩
 have e:=x4_ (qF_ _) ht
 rw[zj_]at e
 have b:=j9_ (b:=1) t.1 (ts:=qx_ n r) λu hu=>by
  unfold qx_ at hu
  obtain⟨x,_,rfl⟩:=AV.mp hu
  show(1:Int).natAbs<2^1
  decide
 rw[e]at b
 have:=CP (2^1) lt
 omega
theorem Rw8.nr{n:Nat}{r:List Int}(n1:1<=n)(n4:n<=4)(h:Rw8 n r):NR n r:=by
 have hB:=(h.all n1 n4).2.2.2
 obtain⟨r1,r2,r3⟩:=xf_ hB
 exact⟨n1,n4,hB,by have:=h.len;omega,(vC_ n1 n4 (by have:=h.len;omega) r1 r2 r3).1⟩
theorem abg_(g:Mon->List Mon)(m:Nat):∀T:List Mon,(∀t∈T,(g t).length<=m)->(T.flatMap g).length<=T.length*m
 |[],_=>Ae _
 |t::T,h=>by
  rw[Ay,AK,AY,C3]
  have:=h t (AD ..)
  have:=abg_ g m T λu hu=>h u (AC _ hu)
  omega
theorem ald_{T:List Mon}(h:∀u∈T,Rw8 4 u.1)(hb:∀u∈T,u.2.natAbs<2^75)(hl:T.length<=53):(lft T).length<=53000/\∀t∈lft T,t.2.natAbs<2^100000:=by
 have l1:(T.flatMap (flG 4)).length<=T.length*1000:=abg_ _ _ _ λt ht=>by
  unfold flG
  rw[AA]
  exact(ys_ ((h t ht).nr (by decide) (by decide))).2
 have l2:T.length*1000<=53*1000:=CP _ hl
 refine⟨Ag (yr_ _) (by omega),λt ht=>?_⟩
 have e:=x4_ (qF_ _) ht
 rw[zj_]at e
 have b:=j9_ (b:=87) t.1 (ts:=T.flatMap (flG 4)) λu hu=>by
  obtain⟨s,hs,hu⟩:=BB.mp hu
  unfold flG at hu
  obtain⟨v,hv,rfl⟩:=AV.mp hu
  show(v.2*s.2).natAbs<2^87
  have a1:=(ys_ ((h s hs).nr (by decide) (by decide))).1 v hv
  have a2:=hb s hs
  rw[Int.natAbs_mul,show(2:Nat)^87=2^12*2^75 from rfl]
  exact Dm a1 a2
 rw[e]at b
 have:=CP (2^87) (Ag l1 l2)
 refine zf_ (show t.2.natAbs<2^107 from ?_) (by decide)
 have:53*1000*2^87<2^107:=by decide
 omega
abbrev nSh:List Str:=["_law_one", "_law_other", "_law_third", "_law_left", "_law_powers", "_law_number", "_law_row"]
abbrev pSh:List Str:=["_law_one", "_law_other", "_law_third"]
abbrev bSh:List Str:=["_law_power"]
theorem ndSh:bSh.Nodup:=by decide +kernel
theorem scSh:FnScope nSh pSh (qi_ sSh):=⟨rfl,rfl,rfl,by decide +kernel,rfl,by decide +kernel,by decide +kernel⟩
def spSh:Sp:=λvs H Q _=>∃(p q t:Addr)(a b r:List Int),vs=[.ref p,.ref q,.ref t]/\H p=some (.tup (a.map V.int))/\H q=some (.tup (b.map V.int))/\H t=some (.tup (r.map V.int))/\a∈R4/\b∈R4/\∀H',Same H H'->Q (.int (cf (bfF 4 (prF 4 a b)) r)) H'
def ShW(p q t:Addr)(T:List Mon)(r:List Int)(H:Hp)(m:Nat)(σ:St)(H':Hp):Prop:=∃(k:Nat)(l:Addr)(c4 c5 c6:Option V),m=T.length-k/\k<=T.length/\σ=[some (.ref p),some (.ref q),some (.ref t),some (.ref l),c4,c5,c6]/\LstAt H' l (lft (T.drop k))/\Same H H'/\∀u∈T.take k,u.1≠r
theorem FilOk.nr{n:Nat}{r:List Int}(n1:1<=n)(n4:n<=4)(h:FilOk n r):NR n r:=⟨n1,n4,h.rb,by have:=h.l4;omega,h.few⟩
theorem aqe_(F:Fun K "_law_share" "_law_share" sSh f fd)(GF:Has P w K mg base 9 "filled_sum" nFs spFs)(GI:Has P w K mg base 9 "_law_times" ["_law_one", "_law_other"] aih_)(GP:Has P w K mg base 9 "_law_put" pPt ain_)(GN:Has P w K mg base 9 "_law_plain" ["_law_total"] vw_)(mt:mg "tuple" = none):FnOk P w K mg base CX0 10 f fd pSh spSh:=by
 refine F.ok scSh (λvs H Q E h=>?_) (λcdv A outer s H vs Q E hr h=>?_)
 ·obtain⟨p,q,t,a,b,r,rfl,_⟩:=h
  rfl
 obtain⟨p,q,t,a,b,r,rfl,hp,hq,ht,ra,rb,qQ⟩:=h
 have hM:=BH (Bl (by decide:Dat.dep Mon+1<=64) _) hr.units
 have hI:=BH (Bl (by decide:Dat.dep Int+1<=64) _) hr.units
 refine⟨_,qe_ (qp_ (i:=3) scSh.nd rfl (Or.inl rfl) (qr_ GI hr rfl (qa_ (qr_ GF hr rfl (qa_ qf_ (qa_ (pv 0) qb_))) (qa_ (qr_ GF hr rfl (qa_ qf_ (qa_ (pv 1) qb_))) qb_))))
  (qe_ (ahq_ Ao (qo_ (xs_ (α:=Mon) hM) (pv 3) (qE_ qb_) (qn_ _))
   (qe_ (abi_ (qs_ qN_ (pv 3) qf_ (λ_ _=>rfl)) (jk_ rfl (qK_ (qk_ (i:=4) scSh.nd rfl (Or.inl rfl)) (qK_ (qk_ (i:=5) scSh.nd rfl (Or.inl rfl)) zT_))))
   (qe_ (qp_ (i:=6) scSh.nd rfl (Or.inl rfl) (zC_ zG_ rfl mt Be (qa_ (q8_ (N':=bSh) (src:=[none]) rfl (z3_ (pv 4)) (zq_ (qi_ sSh) nSh (by decide +kernel))
    (λb=>qk_ (i:=0) ndSh rfl (Or.inl rfl)) (λb=>z6_ (qo_ zl_ (pv 0) qf_ (qn_ _))) (λb=>pv 0)) qb_)))
   (qe_ (qD_ (qo_ (an2_ (α:=Int) hI) (pv 6) (pv 2) (qn_ _)) (qg_ (qq_ (pv 5))) qt_)
   (qg_ (qp_ (i:=3) scSh.nd rfl (Or.inl rfl) (qr_ GN hr rfl (qa_ (qr_ GP hr rfl (qa_ (qr_ GP hr rfl (qa_ yC_ (qa_ (pv 3) (qa_ qf_ qb_)))) (qa_ (qr_ GF hr rfl (qa_ qf_ (qa_ (pv 6) qb_))) (qa_ (qj_ qU_ qf_ (pv 5)) qb_)))) qb_))))))))
  (qg_ (qq_ qf_))),?_⟩
 have n1:1<=4:=by decide
 have n4:4<=4:=by decide
 have A0:=jW_ n1 n4 ra
 have B0:=jW_ n1 n4 rb
 have A1:=A0.fin n4
 have B1:=B0.fin n4
 have P0:=aig_ n1 n4 ra rb
 have FT:=ao4_ n1 n4 P0.canon P0.ev P0.deg
 have bt:=ajg_ n1 n4 P0.deg (Ag P0.few (by decide))
 refine⟨_,rfl,p,4,a,rfl,hp,A0.nr n1 n4,λl3 H3 f3 s3 h3=>?_⟩
 refine⟨_,rfl,q,4,b,rfl,s3 _ _ hq,B0.nr n1 n4,λl4 H4 f4 s4 h4=>?_⟩
 refine⟨l3,l4,4,4,4,11,11,fiN 4 a,fiN 4 b,rfl,h3.mono s4,h4,A1.deg,B1.deg,n1,n4,by decide,by decide,Ag (Ee A1.few B1.few) (by decide),λl5 H5 f5 s5 h5=>?_⟩
 have z5:=s3.trans (s4.trans s5)
 have h5:LstAt H5 l5 (prF 4 a b):=h5
 rw[<-FT.sum]at h5
 have hC:=FT.canon
 have hR:=FT.rows
 have hF:=FT.few
 generalize bfF 4 (prF 4 a b)=T at *
 refine⟨ShW p q t T r H,⟨_,0,l5,none,none,none,rfl,Ae _,rfl,h5,z5,λu hu=>by cases hu⟩,?_⟩
 rintro m σ H6 ⟨k,l,c4,c5,c6,rfl,hk,rfl,hL,s6,hn⟩
 refine⟨_,rfl,(by show 0<=sizeLine;decide),λe0 h7=>?_⟩
 have s7:=qd_ h7 (.lst [])
 refine⟨l,e0,_,[],rfl,rfl,hL.mono s7,⟨[],qc_,.nil⟩,_,rfl,?_⟩
 have hL7:=hL.mono s7
 have z7:=s6.trans s7
 generalize upd H6 e0 (.lst [])=G at *
 cases ed:T.drop k with
 |nil =>
  rw[show lft []=[] from rfl,q5_]
  refine q6_ ?_
  have e:cf T r=0:=zo_ λu hu=>hn u (by
   have:=Ej.mp ed
   rw[Aj this]
   exact hu)
  rw[e]at qQ
  exact qQ _ z7
 |cons u R =>
  have kl:k<T.length:=by
   refine Nat.lt_of_not_le λz=>?_
   rw[Ej.mpr z]at ed
   cases ed
  have ed2:=B3 kl
  rw[ed]at ed2
  injection ed2 with eu eR
  have um:u∈T:=by rw[eu];exact Bp _
  have cD:Canon (u::R):=by
   rw[<-ed]
   exact⟨hC.ord.sublist (List.drop_sublist _ _),λx hx=>hC.num x (B6 hx)⟩
  have rD:∀x∈u::R,Rw8 4 x.1:=λx hx=>hR x (B6 (by rw[ed];exact hx))
  obtain⟨rest,eH⟩:=ahz_ cD rD
  have lk:=ald_ rD (λx hx=>bt x (B6 (by rw[ed];exact hx))) (by rw[<-ed,Bf];omega)
  have st:=aht_ u R
  rw[ed]at hL7
  obtain⟨tpr,tpo⟩:=acx_ (hR u um)
  rw[eH]at hL7 lk st ⊢
  rw[show ze_ (Dat.eqb (α:=Mon)) ((p4 u.1,u.2)::rest) []=false from rfl]
  refine zY_ ⟨λσ' H'=>∃m',m'<T.length-k/\ShW p q t T r H m' σ' H',λ_ _ z=>z,?_⟩
  obtain⟨vsL,eL,iL⟩:=id hL7
  have lL:=AT iL
  obtain⟨x,hx,hi⟩:=q4_ iL (AE (show 0<vsL.length by rw[lL,AY];omega))
  cases hx
  obtain⟨p0,k0,ev,hp0,hk0⟩:=xM_ hi
  have at0:atI vsL (0:Int)=some (.ref p0):=qW_ (j:=0) (by rw[AE (show 0<vsL.length by rw[lL,AY];omega),ev])
  have hk0:G k0=some (.tup ((p4 u.1).map V.int)):=hk0
  have hp0:G p0=some (.tup [.ref k0,.int u.2]):=hp0
  refine⟨_,rfl,l,_,_,.ref p0,rfl,rfl,SqL.of eL,at0,p0,_,rfl,SqT.of hp0,rfl,_,_,rfl,_,_,rfl,rfl,?_⟩
  refine⟨_,rfl,k0,rfl,⟨_,SqT.of hk0⟩,λbk D hD=>?_⟩
  refine j3_ (α:=Int) hD (SqT.of hk0) (λσ=>∃c,σ=[c]) (λi=>((p4 u.1)[i]?).bind λx=>if 0<x then some x else none) (small (by rw[AA];unfold p4;rw[AK,Bn];have:=(hR u um).len;omega)) ⟨_,rfl⟩ ?_ ?_
  ·rintro i v σ H2 Yes No hv ⟨c,rfl⟩ s3 yes no
   obtain⟨x,hx,rfl⟩:∃x,(p4 u.1)[i]?=some x/\V.int x=v:=by
    rw[Ac]at hv
    cases e:(p4 u.1)[i]? with
    |none=>rw[e]at hv;cases hv
    |some y=>rw[e]at hv;exact⟨y,rfl,AW hv⟩
   refine⟨_,rfl,_,_,rfl,rfl,_,rfl,?_⟩
   by_cases c0:0<x
   ·exact zD_ c0 ⟨_,rfl,yes _ _ _ x ⟨_,rfl⟩ (Same.refl _) (by rw[hx];exact if_pos c0) rfl⟩
   ·exact za_ c0 (no _ _ ⟨_,rfl⟩ (Same.refl _) (by rw[hx];exact if_neg c0))
  rintro H1 s1 ⟨ws,eD,iD⟩
  have e0:(List.range ((p4 u.1).map V.int).length).filterMap (λi=>((p4 u.1)[i]?).bind λx=>if 0<x then some x else none)=u.1:=by
   rw[AA,zg_,zI_]
   exact(EQ _).trans tpo
  rw[zF_ iD,e0]at eD
  refine⟨D,_,rfl,.inl ⟨SqL.of eD,λt6 ht6=>?_⟩⟩
  have s8:=s1.trans (qd_ ht6 (.tup (u.1.map V.int)))
  have h8:upd H1 t6 (.tup (u.1.map V.int)) t6=some (.tup (u.1.map V.int)):=qc_
  have z8:=z7.trans s8
  show zy_ 6 (.ref t6) _ (upd H1 t6 (.tup (u.1.map V.int))) _
  generalize upd H1 t6 (.tup (u.1.map V.int))=G8 at *
  refine⟨_,rfl,_,rfl,u.1,r,zR_ h8,zR_ (z8 _ _ ht),_,rfl,?_⟩
  by_cases er:u.1=r
  ·rw[er,q5_]
   have:=x4_ hC um
   rw[er]at this
   rw[this]at qQ
   exact zY_ ⟨_,rfl,qQ _ z8⟩
  have ef:ze_ (Dat.eqb (α:=Int)) u.1 r=false:=by
   cases c:ze_ (Dat.eqb (α:=Int)) u.1 r with
   |false=>rfl
   |true=>exact absurd ((jB_ Dat.eqb_iff _ _).mp c) er
  rw[ef]
  refine q6_ ?_
  intro d hd
  have s9:=qd_ hd (.dT [])
  have d9:upd G8 d (.dT []) d=some (.dT (toK (qv_ []))):=qc_
  have hL9:=hL7.mono (s8.trans s9)
  have h9:=s9 _ _ h8
  have nG:∀b o,G8 b=some o->b≠d:=λb o e z=>by rw[z,hd]at e;cases e
  generalize upd G8 d (.dT [])=G9 at *
  refine⟨_,rfl,d,l,1,[],_,rfl,d9,hL9,?_,zf_ (show(1:Int).natAbs<2^1 by decide) (by decide),lk.2,λHa ba ha=>?_⟩
  ·have:=lk.1
   have:(qv_ ([]:List Mon)).length=0:=rfl
   omega
  rw[Cc]at ha
  have la:=vN_ [] (scl 1 ((p4 u.1,u.2)::rest))
  rw[Cc,yc_]at la
  have nr:=(hR u um).nr n1 n4
  obtain⟨fb,fl⟩:=ys_ nr
  have h10:=ba _ _ (nG _ _ h8) h9
  refine⟨_,rfl,t6,4,u.1,rfl,h10,nr,λlb Hb fb' sb hb=>?_⟩
  refine⟨_,rfl,_,_,rfl,rfl,d,lb,0-u.2,_,_,rfl,sb _ _ ha,hb,?_,?_,λx hx=>zf_ (fb x hx) (by decide),λHc bc hc=>?_⟩
  ·have:=lk.1
   have:(qv_ ([]:List Mon)).length=0:=rfl
   omega
  ·have:=bt u um
   exact zf_ (show(0-u.2).natAbs<2^75 by omega) (by decide)
  refine⟨d,_,rfl,hc,?_,λlz Hz fz bz hz=>?_⟩
  ·rw[AK,yc_,yc_]
   have:=lk.1
   omega
  rw[st]at hz
  have zz:Same H Hz:=λb o e=>by
   have e8:=z8 _ _ e
   have nd:=nG _ _ e8
   exact bz _ _ nd (bc _ _ nd (sb _ _ (ba _ _ nd (s9 _ _ e8))))
  refine⟨T.length-(k+1),by omega,k+1,lz,_,_,_,rfl,by omega,rfl,by rw[<-eR];exact hz,zz,λx hx=>?_⟩
  rw[List.take_succ,AE kl,Ap]at hx
  rcases hx with hx|hx
  ·exact hn x hx
  ·have ex:x=T[k]:=by simpa using hx
   rw[ex,<-eu]
   exact er
theorem aad_{H:Hp}{us:List V}{ls:List (List Int)}(i:Its H us ls){k:Nat}(hk:k<ls.length):∃p,atI us (k:Int)=some (.ref p)/\H p=some (.tup ((ls.getD k []).map V.int)):=by
 have lu:=AT i
 obtain⟨x,hx,hi⟩:=q4_ i (AE (show k<us.length by omega))
 obtain⟨p,ep,hp⟩:=qO_ hi
 refine⟨p,qW_ (by rw[AE (show k<us.length by omega),ep]),?_⟩
 rw[AF,hx]
 exact hp
theorem x0_{X:Cx}{st:Stmt}{t:TS}(I:St->Hp->Prop)(h:PS X st t):PS X st (λD σ H=>t { D with nx:=I } σ H/\∀σ' H',I σ' H'->D.nx σ' H'):=by
 intro pins s σ H D inv q
 refine thn (h pins s σ H { D with nx:=I } inv q.1) λfl s' e=>?_
 cases fl with
 |next=>obtain⟨σ',H',i,n⟩:=e;exact⟨σ',H',i,q.2 _ _ n⟩
 |brk=>exact e
 |cont=>exact e
 |ret u=>exact e
theorem yA_{a:List Int}{k:Nat}(h:a.length<=k):a.getD k 0=0:=by
 rw[AF,Bo h]
 rfl
theorem yD_{c A R:Prop}[Decidable c](hA:c->R->A)(r:R):if decide c=true then A else R:=by
 by_cases e:c
 ·exact zD_ e (hA e r)
 ·exact za_ e r
abbrev nLi:List Str:=["_law_some", "_law_one", "_law_third", "_law_k", "_law_start", "_law_place"]
abbrev pLi:List Str:=["_law_some", "_law_one", "_law_third"]
theorem scLi:FnScope nLi pLi (qi_ sLi):=⟨rfl,rfl,rfl,by decide +kernel,rfl,by decide +kernel,by decide +kernel⟩
def spLi:Sp:=λvs H Q _=>∃(s p q:Addr)(ls:List (List Int))(a r:List Int),vs=[.ref s,.ref p,.ref q]/\Dat.is H (.ref s) ls/\H p=some (.tup (a.map V.int))/\H q=some (.tup (r.map V.int))/\yw_ ls a r=true/\a.length<=8/\r.length<=8/\∀H',Same H H'->Q (.bl true) H'
theorem aoc_(F:Fun K "_law_lines" "_law_lines" sLi f fd)(mi:mg "isinstance" = none)(mt:mg "tuple" = none)(mi1:mg "int" = none)(mb:mg "bool" = none)(mn:mg "len" = none)(mr:mg "range" = none)(mx:mg "max" = none):FnOk P w K mg base CX0 2 f fd pLi spLi:=by
 refine F.ok scLi (λvs H Q E h=>?_) (λcdv A outer s H vs Q E hr h=>?_)
 ·obtain⟨s,p,q,ls,a,r,rfl,_⟩:=h
  rfl
 obtain⟨s0,p,q0,ls,a,r,rfl,⟨s',us,es,hs,iS⟩,hp,hq,hB,a8,r8,q⟩:=h
 cases es
 unfold yw_ linK at hB
 simp only[AG,CK,decide_eq_true_eq,AI]at hB
 obtain⟨hl,hK⟩:=hB
 have lu:=AT iS
 refine⟨_,(qe_ (qD_ (PW.pt (jl_ (zQ_ (zd_ (qh_ z2_ rfl mi AU (qa_ (pv 0) (qa_ (jP_ (v:=.ty "tuple") rfl mt Be rfl) qb_))))) (z4_ (qo_ xe_ (qh_ qm_ rfl mn Al (qa_ (pv 0) qb_)) (qh_ qm_ rfl mn Al (qa_ (pv 2) qb_)) (qn_ _))))) (qg_ (qq_ q3_)) qt_)
  (qe_ (qL_ Ao rfl (zA_ rfl mr (qa_ (qh_ qm_ rfl mn Al (qa_ (pv 2) qb_)) qb_)) (qk_ (i:=3) scLi.nd rfl (Or.inl rfl)) (qe_ (qp_ (i:=4) scLi.nd rfl (Or.inl rfl) qf_)
  (qe_ (x0_ (λσ H'=>∃(k:Nat)(c5:Option V),σ=[some (.ref s0),some (.ref p),some (.ref q0),some (.int k),some (.int (a.getD k 0)),c5]/\k<r.length/\Same H H') (qD_ (qo_ yg_ (pv 3) (qh_ qm_ rfl mn Al (qa_ (pv 1) qb_)) (qn_ _)) (qg_ (qp_ (i:=4) scLi.nd rfl (Or.inl rfl) (qs_ qB_ (pv 1) (pv 3) (λ_ _=>rfl)))) qt_))
  (qe_ (qD_ (PW.pt (jl_ (zQ_ (zd_ (qh_ z2_ rfl mi AU (qa_ (qs_ qB_ (pv 0) (pv 3) (λ_ _=>rfl)) (qa_ (jP_ (v:=.ty "tuple") rfl mt Be rfl) qb_))))) (z4_ (qo_ xe_ (qh_ qm_ rfl mn Al (qa_ (qs_ qB_ (pv 0) (pv 3) (λ_ _=>rfl)) qb_)) (qh_ (vQ_ rfl) rfl mx DL (qa_ (qj_ qU_ (qs_ qB_ (pv 2) (pv 3) (λ_ _=>rfl)) (pv 4)) (qa_ qf_ qb_))) (qn_ _))))) (qg_ (qq_ q3_)) qt_)
  (qg_ (qL_ Ao rfl (zA_ rfl mr (qa_ (qh_ qm_ rfl mn Al (qa_ (qs_ qB_ (pv 0) (pv 3) (λ_ _=>rfl)) qb_)) qb_)) (qk_ (i:=5) scLi.nd rfl (Or.inl rfl)) (qe_ (qD_ (PW.pt (jl_ (zQ_ (zd_ (qh_ z2_ rfl mi AU (qa_ (qs_ qB_ (qs_ qB_ (pv 0) (pv 3) (λ_ _=>rfl)) (pv 5) (λ_ _=>rfl)) (qa_ (jP_ (v:=.ty "int") rfl mi1 PyProof.Rows.boot_int rfl) qb_))))) (jl_ (zd_ (qh_ z2_ rfl mi AU (qa_ (qs_ qB_ (qs_ qB_ (pv 0) (pv 3) (λ_ _=>rfl)) (pv 5) (λ_ _=>rfl)) (qa_ (jP_ (v:=.ty "bool") rfl mb PyProof.Rows.boot_bool rfl) qb_)))) (z4_ (qo_ yg_ (qs_ qB_ (qs_ qB_ (pv 0) (pv 3) (λ_ _=>rfl)) (pv 5) (λ_ _=>rfl)) qf_ (qn_ _)))))) (qg_ (qq_ q3_)) qt_)
  (qg_ (qD_ (PW.pt (xQ_ (qo_ zl_ (pv 5) qf_ (qn_ _)) (xp_ (qo_ zl_ (qs_ qB_ (qs_ qB_ (pv 0) (pv 3) (λ_ _=>rfl)) (qj_ qU_ (pv 5) qf_) (λ_ _=>rfl)) (qs_ qB_ (qs_ qB_ (pv 0) (pv 3) (λ_ _=>rfl)) (pv 5) (λ_ _=>rfl)) (qn_ _))))) (qg_ (qq_ q3_)) qt_)))))))))
  (qg_ (qq_ q3_)))),?_⟩
 refine⟨_,rfl,_,_,_,_,rfl,TyOf.tup hs,xH_ _ _,_,rfl,q6_ ?_⟩
 refine⟨_,rfl,s0,_,rfl,.inr (SqT.of hs),_,rfl,q0,_,rfl,.inr (SqT.of hq),rfl,_,rfl,jK_ (by rw[AA,lu,hl,decide_eq_true rfl];rfl) ?_⟩
 refine⟨_,rfl,q0,_,rfl,.inr (SqT.of hq),_,rfl,by rw[AA];omega,by rw[AA];omega,?_⟩
 rw[At,AA]
 refine jc_ (lo:=0) (n:=r.length) (λi σ H'=>(∃c3 c4 c5,σ=[some (.ref s0),some (.ref p),some (.ref q0),c3,c4,c5])/\Same H H') ?_ ?_ ?_
 ·exact⟨⟨_,_,_,rfl⟩,Same.refl _⟩
 ·rintro i σ H1 hi ⟨⟨c3,c4,c5,rfl⟩,s1⟩
  rw[CS]
  refine⟨?_,?_⟩
  ·refine⟨_,rfl,_,rfl,p,_,rfl,.inr (SqT.of (s1 _ _ hp)),_,_,rfl,rfl,_,rfl,?_⟩
   rw[AA]
   by_cases c:(i:Int)<(a.length:Int)
   ·exact zD_ c ⟨_,rfl,_,rfl,p,_,_,.int (a.getD i 0),rfl,rfl,SqT.of (s1 _ _ hp),qQ_ (by omega),⟨i,_,rfl,hi,s1⟩⟩
   ·refine za_ c ⟨i,c5,?_,hi,s1⟩
    rw[yA_ (a:=a) (by omega)]
    rfl
  clear hi s1
  rintro σ H2 ⟨k,c5,rfl,hk,s2⟩
  obtain⟨⟨le8,hlen⟩,hin⟩:=hK k (Ad.mpr hk)
  obtain⟨pk,atk,hpk⟩:=aad_ iS (show k<ls.length by omega)
  have hs2:=s2 _ _ hs
  have hpk2:=s2 _ _ hpk
  refine⟨_,rfl,_,rfl,s0,_,_,.ref pk,rfl,rfl,SqT.of hs2,atk,_,_,_,_,rfl,TyOf.tup hpk2,xH_ _ _,_,rfl,q6_ ?_⟩
  refine⟨_,rfl,_,rfl,s0,_,_,.ref pk,rfl,rfl,SqT.of hs2,atk,pk,_,rfl,.inr (SqT.of hpk2),_,rfl,_,rfl,q0,_,_,.int (r.getD k 0),rfl,rfl,SqT.of (s2 _ _ hq),qQ_ hk,_,rfl,_,_,rfl,rfl,_,_,rfl,rfl,_,rfl,jK_ ?_ ?_⟩
  ·rw[AA,hlen,decide_eq_true]
   ·rfl
   ·congr 1
    split<;>omega
  refine⟨_,rfl,_,rfl,s0,_,_,.ref pk,rfl,rfl,SqT.of hs2,atk,pk,_,rfl,.inr (SqT.of hpk2),_,rfl,by rw[AA];omega,by rw[AA];omega,?_⟩
  rw[At,AA]
  refine jc_ (lo:=0) (n:=(ls.getD k []).length) (λj σ H'=>(∃c5,σ=[some (.ref s0),some (.ref p),some (.ref q0),some (.int k),some (.int (a.getD k 0)),c5])/\Same H H') ?_ ?_ ?_
  ·exact⟨⟨_,rfl⟩,s2⟩
  ·rintro j σ H3 hj ⟨⟨c5,rfl⟩,s3⟩
   rw[CS]
   have hs3:=s3 _ _ hs
   have hpk3:=s3 _ _ hpk
   obtain⟨n0,up⟩:=hin j (Ad.mpr hj)
   have gj:=qQ_ (r:=ls.getD k []) hj
   refine⟨_,rfl,_,rfl,s0,_,_,.ref pk,rfl,rfl,SqT.of hs3,atk,_,rfl,pk,_,_,.int ((ls.getD k []).getD j 0),rfl,rfl,SqT.of hpk3,gj,_,_,_,_,rfl,TyOf.int _,xH_ _ _,_,rfl,q6_ ?_⟩
   refine⟨_,rfl,_,rfl,s0,_,_,.ref pk,rfl,rfl,SqT.of hs3,atk,_,rfl,pk,_,_,.int ((ls.getD k []).getD j 0),rfl,rfl,SqT.of hpk3,gj,_,_,_,_,rfl,TyOf.int _,aa9_ _,_,rfl,q6_ ?_⟩
   refine⟨_,rfl,_,rfl,s0,_,_,.ref pk,rfl,rfl,SqT.of hs3,atk,_,rfl,pk,_,_,.int ((ls.getD k []).getD j 0),rfl,rfl,SqT.of hpk3,gj,_,_,rfl,rfl,_,rfl,za_ (by omega) ?_⟩
   refine⟨_,rfl,_,_,rfl,rfl,_,rfl,?_⟩
   refine yD_ (λci hG=>?_) (q6_ ?_)
   ·have gj':atI ((ls.getD k []).map V.int) ((j:Int)-1)=some (.int ((ls.getD k []).getD (j-1) 0)):=by
     rw[show(j:Int)-1=((j-1:Nat):Int) by omega]
     exact qQ_ (by omega)
    refine⟨_,rfl,_,rfl,s0,_,_,.ref pk,rfl,rfl,SqT.of hs3,atk,_,rfl,_,_,rfl,rfl,pk,_,_,.int ((ls.getD k []).getD (j-1) 0),rfl,rfl,SqT.of hpk3,gj',_,rfl,_,rfl,s0,_,_,.ref pk,rfl,rfl,SqT.of hs3,atk,_,rfl,pk,_,_,.int ((ls.getD k []).getD j 0),rfl,rfl,SqT.of hpk3,gj,_,_,rfl,rfl,_,rfl,?_⟩
    rw[decide_eq_false (by omega)]
    exact hG
   ·exact⟨⟨_,rfl⟩,s3⟩
  ·rintro σ H3 ⟨⟨c5,rfl⟩,s3⟩
   exact⟨⟨_,_,_,rfl⟩,s3⟩
 ·rintro σ H1 ⟨_,s1⟩
  exact q H1 s1
abbrev nRi:List Str:=["_law_some", "_law_one", "_law_third", "_law_k", "_law_above", "_law_here", "_law_place"]
theorem scRi:FnScope nRi pLi (qi_ sRi):=⟨rfl,rfl,rfl,by decide +kernel,rfl,by decide +kernel,by decide +kernel⟩
def spRi:Sp:=λvs H Q _=>∃(s p q:Addr)(ls:List (List Int))(a r:List Int),vs=[.ref s,.ref p,.ref q]/\Dat.is H (.ref s) ls/\H p=some (.tup (a.map V.int))/\H q=some (.tup (r.map V.int))/\ls.length=r.length/\risB ls a r=true/\a.length<=8/\r.length<=8/\(∀x∈a,0<=x/\x<=8)/\(∀x∈r,0<=x/\x<=8)/\∀H',Same H H'->Q (.bl true) H'
theorem yx_{a:List Int}(h:∀x∈a,0<=x/\x<=8)(k:Nat):0<=a.getD k 0/\a.getD k 0<=8:=by
 rw[AF]
 cases e:a[k]? with
 |none=>decide
 |some x=>exact h x (Ah e)
theorem ap0_(F:Fun K "_law_rises" "_law_rises" sRi f fd)(mn:mg "len" = none)(mr:mg "range" = none)(mx:mg "max" = none):FnOk P w K mg base CX0 2 f fd pLi spRi:=by
 refine F.ok scRi (λvs H Q E h=>?_) (λcdv A outer s H vs Q E hr h=>?_)
 ·obtain⟨s,p,q,ls,a,r,rfl,_⟩:=h
  rfl
 obtain⟨s0,p,q0,ls,a,r,rfl,⟨s',us,es,hs,iS⟩,hp,hq,hl,hB,a8,r8,a9,r9,q⟩:=h
 cases es
 unfold risB at hB
 simp only[AI]at hB
 have lu:=AT iS
 refine⟨_,(qe_ (qL_ Ao rfl (x2_ rfl mr (qa_ qf_ (qa_ (qh_ qm_ rfl mn Al (qa_ (pv 2) qb_)) qb_))) (qk_ (i:=3) scRi.nd rfl (Or.inl rfl)) (qe_ (qp_ (i:=4) scRi.nd rfl (Or.inl rfl) qf_)
  (qe_ (qp_ (i:=5) scRi.nd rfl (Or.inl rfl) qf_)
  (qe_ (x0_ (λσ H'=>∃(k:Nat)(c6:Option V),σ=[some (.ref s0),some (.ref p),some (.ref q0),some (.int ((k:Int)+1)),some (.int (a.getD k 0)),some (.int 0),c6]/\k+1<r.length/\Same H H') (qD_ (qo_ yg_ (qj_ qU_ (pv 3) qf_) (qh_ qm_ rfl mn Al (qa_ (pv 1) qb_)) (qn_ _)) (qg_ (qp_ (i:=4) scRi.nd rfl (Or.inl rfl) (qs_ qB_ (pv 1) (qj_ qU_ (pv 3) qf_) (λ_ _=>rfl)))) qt_))
  (qe_ (x0_ (λσ H'=>∃(k:Nat)(c6:Option V),σ=[some (.ref s0),some (.ref p),some (.ref q0),some (.int ((k:Int)+1)),some (.int (a.getD k 0)),some (.int (a.getD (k+1) 0)),c6]/\k+1<r.length/\Same H H') (qD_ (qo_ yg_ (pv 3) (qh_ qm_ rfl mn Al (qa_ (pv 1) qb_)) (qn_ _)) (qg_ (qp_ (i:=5) scRi.nd rfl (Or.inl rfl) (qs_ qB_ (pv 1) (pv 3) (λ_ _=>rfl)))) qt_))
  (qg_ (qL_ Ao rfl (x2_ rfl mr (qa_ (qh_ (vQ_ rfl) rfl mx DL (qa_ (pv 4) (qa_ (pv 5) qb_))) (qa_ (qs_ qB_ (pv 2) (pv 3) (λ_ _=>rfl)) qb_))) (qk_ (i:=6) scRi.nd rfl (Or.inl rfl)) (qg_ (qD_ (qo_ ape_ (qs_ qB_ (qs_ qB_ (pv 0) (qj_ qU_ (pv 3) qf_) (λ_ _=>rfl)) (qj_ qU_ (pv 6) (pv 4)) (λ_ _=>rfl)) (qs_ qB_ (qs_ qB_ (pv 0) (pv 3) (λ_ _=>rfl)) (qj_ qU_ (pv 6) (pv 5)) (λ_ _=>rfl)) (qn_ _)) (qg_ (qq_ q3_)) qt_)))))))))
  (qg_ (qq_ q3_))),?_⟩
 refine⟨_,rfl,q0,_,rfl,.inr (SqT.of hq),_,_,rfl,⟨by decide,by decide,by rw[AA];omega,by rw[AA];omega⟩,?_⟩
 rw[AA]
 refine jc_ (lo:=1) (n:=((r.length:Int)-1).toNat) (λi σ H'=>(∃c3 c4 c5 c6,σ=[some (.ref s0),some (.ref p),some (.ref q0),c3,c4,c5,c6])/\Same H H') ?_ ?_ ?_
 ·exact⟨⟨_,_,_,_,rfl⟩,Same.refl _⟩
 ·rintro i σ H1 hi ⟨⟨c3,c4,c5,c6,rfl⟩,s1⟩
  rw[Eo 1 (i:Int)]
  refine⟨?_,?_⟩
  ·refine⟨_,rfl,_,_,rfl,rfl,_,rfl,p,_,rfl,.inr (SqT.of (s1 _ _ hp)),_,_,rfl,rfl,_,rfl,?_⟩
   rw[AA]
   by_cases c:(i:Int)+1-1<(a.length:Int)
   ·refine zD_ c ⟨_,rfl,_,rfl,_,_,rfl,rfl,p,_,_,.int (a.getD i 0),rfl,rfl,SqT.of (s1 _ _ hp),?_,⟨i,_,rfl,by omega,s1⟩⟩
    rw[show(i:Int)+1-1=(i:Int) by omega]
    exact qQ_ (by omega)
   ·refine za_ c ⟨i,c6,?_,by omega,s1⟩
    rw[yA_ (a:=a) (by omega)]
    rfl
  clear hi s1
  rintro σ H2 ⟨k,c6,rfl,hk,s2⟩
  refine⟨?_,?_⟩
  ·refine⟨_,rfl,_,rfl,p,_,rfl,.inr (SqT.of (s2 _ _ hp)),_,_,rfl,rfl,_,rfl,?_⟩
   rw[AA]
   by_cases c:(k:Int)+1<(a.length:Int)
   ·refine zD_ c ⟨_,rfl,_,rfl,p,_,_,.int (a.getD (k+1) 0),rfl,rfl,SqT.of (s2 _ _ hp),?_,⟨k,_,rfl,hk,s2⟩⟩
    exact qQ_ (k:=k+1) (by omega)
   ·refine za_ c ⟨k,c6,?_,hk,s2⟩
    rw[yA_ (a:=a) (show a.length<=k+1 by omega)]
  clear hk s2
  rintro σ H3 ⟨k,c6,rfl,hk,s3⟩
  have hB:=hB k (Ad.mpr (by omega))
  obtain⟨pk,atk,hpk⟩:=aad_ iS (show k<ls.length by omega)
  obtain⟨pl,atl,hpl⟩:=aad_ iS (show k+1<ls.length by omega)
  have atk:atI us ((k:Int)+1-1)=some (.ref pk):=by
   rw[show(k:Int)+1-1=(k:Int) by omega]
   exact atk
  obtain⟨u0,u8⟩:=yx_ a9 k
  obtain⟨v0,v8⟩:=yx_ a9 (k+1)
  obtain⟨t0,t8⟩:=yx_ r9 (k+1)
  have gr:atI (r.map V.int) ((k:Int)+1)=some (.int (r.getD (k+1) 0)):=qQ_ (k:=k+1) hk
  generalize r.getD (k+1) 0=t at *
  generalize a.getD (k+1) 0=v at *
  generalize a.getD k 0=u at *
  refine⟨_,rfl,_,rfl,_,_,rfl,_,rfl,_,rfl,q0,_,_,.int t,rfl,rfl,SqT.of (s3 _ _ hq),gr,_,_,rfl,?_,?_⟩
  ·refine⟨?_,?_,by omega,by omega⟩<;>(split<;>omega)
  have em:(if v>u then v else u)=max u v:=by split<;>omega
  rw[em]
  refine jc_ (lo:=max u v) (n:=(t-max u v).toNat) (λj σ H'=>(∃c6,σ=[some (.ref s0),some (.ref p),some (.ref q0),some (.int ((k:Int)+1)),some (.int u),some (.int v),c6])/\Same H H') ?_ ?_ ?_
  ·exact⟨⟨_,rfl⟩,s3⟩
  ·rintro j σ H4 hj ⟨⟨c6,rfl⟩,s4⟩
   obtain⟨n,hn⟩:∃n:Nat,max u v+(j:Int)=n:=⟨(max u v+(j:Int)).toNat,by omega⟩
   rw[hn]
   have x:=hB n (Ad.mpr (by omega))
   unfold risP at x
   rw[decide_eq_false (by omega),decide_eq_false (by omega)]at x
   simp only[Ct,AG,decide_eq_true_eq]at x
   obtain⟨⟨⟨⟨x1,x2⟩,x3⟩,x4⟩,x5⟩:=x
   have g1:atI ((ls.getD k []).map V.int) ((n:Int)-u)=some (.int ((ls.getD k []).getD ((n:Int)-u).toNat 0)):=by
    rw[show(n:Int)-u=((((n:Int)-u).toNat:Nat):Int) by omega]
    exact qQ_ (by omega)
   have g2:atI ((ls.getD (k+1) []).map V.int) ((n:Int)-v)=some (.int ((ls.getD (k+1) []).getD ((n:Int)-v).toNat 0)):=by
    rw[show(n:Int)-v=((((n:Int)-v).toNat:Nat):Int) by omega]
    exact qQ_ (by omega)
   refine⟨_,rfl,_,rfl,_,_,rfl,rfl,s0,_,_,.ref pk,rfl,rfl,SqT.of (s4 _ _ hs),atk,_,rfl,_,rfl,_,_,rfl,rfl,pk,_,_,_,rfl,rfl,SqT.of (s4 _ _ hpk),g1,_,rfl,_,rfl,s0,_,_,.ref pl,rfl,rfl,SqT.of (s4 _ _ hs),atl,_,rfl,_,rfl,_,_,rfl,rfl,pl,_,_,_,rfl,rfl,SqT.of (s4 _ _ hpl),g2,_,_,rfl,rfl,_,rfl,za_ (by omega) ?_⟩
   exact⟨⟨_,rfl⟩,s4⟩
  ·rintro σ H4 ⟨⟨c6,rfl⟩,s4⟩
   exact⟨⟨_,_,_,_,rfl⟩,s4⟩
 ·rintro σ H1 ⟨_,s1⟩
  exact q H1 s1
abbrev nRd:List Str:=["_law_some", "_law_other", "_law_counts", "_law_line", "_law_number"]
abbrev pRd:List Str:=["_law_some", "_law_other"]
abbrev bRd:List Str:=["_law_k"]
abbrev bRe:List Str:=["_law_count"]
theorem ndRd:bRd.Nodup:=by decide +kernel
theorem ndRe:bRe.Nodup:=by decide +kernel
theorem scRd:FnScope nRd pRd (qi_ sRd):=⟨rfl,rfl,rfl,by decide +kernel,rfl,by decide +kernel,by decide +kernel⟩
def spRd:Sp:=λvs H Q _=>∃(s p:Addr)(ls:List (List Int))(o:List Int),vs=[.ref s,.ref p]/\Dat.is H (.ref s) ls/\H p=some (.tup (o.map V.int))/\redB ls o=true/\(∀l∈ls,l.length<=8)/\∀H',Same H H'->Q (.bl true) H'
theorem agj_{c:List Int}{x:Int}{xs:List Int}{F:List Int}(h:rdW c (x::xs)=some F):∃k:Nat,x=k/\k<=7/\¬ (0<(k:Int)/\(c.set k (c.getD k 0+1)).getD (k-1) 0<(c.set k (c.getD k 0+1)).getD k 0)/\rdW (c.set k (c.getD k 0+1)) xs=some F:=by
 unfold rdW at h
 by_cases c1:0<=x/\x<=7
 ·rw[if_pos c1]at h
  obtain⟨k,rfl⟩:∃k:Nat,x=k:=⟨x.toNat,by omega⟩
  rw[At]at h
  by_cases c2:0<(k:Int)/\(c.set k (c.getD k 0+1)).getD (k-1) 0<(c.set k (c.getD k 0+1)).getD k 0
  ·rw[if_pos c2]at h
   cases h
  ·rw[if_neg c2]at h
   exact⟨k,rfl,by omega,c2,h⟩
 ·rw[if_neg c1]at h
  cases h
theorem aoz_(F:Fun K "_law_read" "_law_read" sRd f fd)(mr:mg "range" = none)(mv:mg "reversed" = none)(ml:mg "list" = none):FnOk P w K mg base CX0 2 f fd pRd spRd:=by
 refine F.ok scRd (λvs H Q E h=>?_) (λcdv A outer s H vs Q E hr h=>?_)
 ·obtain⟨s,p,ls,o,rfl,_⟩:=h
  rfl
 obtain⟨s0,p,ls,o,rfl,⟨s',us,es,hs,iS⟩,hp,hB,l8,q⟩:=h
 cases es
 have hI:=BH (Bl (by decide:Dat.dep Int+1<=64) _) hr.units
 have lu:=AT iS
 obtain⟨cF,hF,eF⟩:∃cF,rdW (List.replicate 9 0) (ls.flatMap List.reverse)=some cF/\(cF.filter λx=>decide (0<x))=o:=by
  unfold redB at hB
  have:=of_decide_eq_true hB
  cases e:rdW (List.replicate 9 0) (ls.flatMap List.reverse) with
  |none=>rw[e]at this;cases this
  |some c=>rw[e]at this;exact⟨c,rfl,AW this⟩
 refine⟨_,(qe_ (vu_ (i:=2) (N':=bRd) (src:=[none]) scRd.nd rfl (Or.inl rfl) rfl rfl (zA_ rfl mr (qa_ qf_ qb_)) (zq_ (qi_ sRd) nRd (by decide +kernel)) (λb=>qk_ (i:=0) ndRd rfl (Or.inl rfl)) (λb=>zz_) (λb=>qf_))
  (qe_ (qL_ Ao rfl (z3_ (pv 0)) (qk_ (i:=3) scRd.nd rfl (Or.inl rfl)) (qg_ (qL_ Ao rfl (an1_ rfl mv (pv 3)) (qk_ (i:=4) scRd.nd rfl (Or.inl rfl)) (qe_ (qD_ (qo_ zl_ (pv 4) qf_ (qn_ _)) (qg_ (qq_ q3_)) qt_)
  (qe_ (abi_ (qj_ zP_ (qs_ qN_ (pv 2) (pv 4) (λ_ _=>rfl)) qf_) (afr_ (pv 2) (pv 4) yM_))
  (qg_ (qD_ (PW.pt (xQ_ (qo_ zl_ (pv 4) qf_ (qn_ _)) (xp_ (qo_ zl_ (qs_ qN_ (pv 2) (pv 4) (λ_ _=>rfl)) (qs_ qN_ (pv 2) (qj_ qU_ (pv 4) qf_) (λ_ _=>rfl)) (qn_ _))))) (qg_ (qq_ q3_)) qt_)))))))
  (qg_ (qq_ (zX_ (aah_ (α:=Int) hI) (q8_ (N':=bRe) (src:=[none]) rfl (q0_ (pv 2)) (zq_ (qi_ sRd) nRd (by decide +kernel)) (λb=>qk_ (i:=0) ndRe rfl (Or.inl rfl)) (λb=>z6_ (qo_ zl_ (pv 0) qf_ (qn_ _))) (λb=>pv 0)) (zC_ jY_ rfl ml CD (qa_ (pv 1) qb_)) (qn_ _)))))),?_⟩
 refine⟨_,rfl,by decide,by decide,λbk D hD=>?_⟩
 refine jo_ (α:=Int) hD (λσ=>∃c,σ=[c]) (λ(i:Nat)=>some 0) (small (by decide)) ?_ ?_ ?_
 ·exact⟨_,rfl⟩
 ·rintro i σ H2 Yes No hi ⟨c,rfl⟩ s2 yes no
  exact z7_ (yes _ _ _ _ ⟨_,rfl⟩ (Same.refl _) rfl rfl)
 rintro H1 s1 ⟨ws,eD,iD⟩
 have e9:(List.range ((9:Int)).toNat).filterMap (λ(i:Nat)=>some (0:Int))=List.replicate 9 0:=by decide
 rw[zF_ iD,e9]at eD
 refine⟨_,rfl,s0,rfl,⟨_,SqT.of (s1 _ _ hs)⟩,?_⟩
 refine xv_ (xs:=us) (λi σ H'=>(∃c3 c4,σ=[some (.ref s0),some (.ref p),some (.ref D),c3,c4])/\Same H H'/\∃cs:List Int,H' D=some (.lst (cs.map V.int))/\cs.length=9/\rdW cs ((ls.drop i).flatMap List.reverse)=some cF) ?_ ?_ ?_ ?_
 ·exact⟨⟨_,_,rfl⟩,s1,_,eD,rfl,hF⟩
 ·rintro i σ H2 _ ⟨_,s2,_⟩
  exact SqT.of (s2 _ _ hs)
 ·rintro i v σ H2 hv ⟨⟨c3,c4,rfl⟩,s2,cs,hcs,lcs,eg⟩
  obtain⟨l,hl,hi⟩:=q4_ iS hv
  obtain⟨pl,rfl,hpl⟩:=qO_ hi
  have ll:=l8 l (Ah hl)
  obtain⟨il,el⟩:=AR.mp hl
  have ed:ls.drop i=l::ls.drop (i+1):=by rw[B3 il,el]
  rw[ed,Ay]at eg
  refine⟨_,rfl,pl,_,rfl,SqT.of (s2 _ _ hpl),by rw[AA];omega,?_⟩
  refine akg_ (xs:=l.map V.int) (λj σ H'=>(∃c4,σ=[some (.ref s0),some (.ref p),some (.ref D),some (.ref pl),c4])/\Same H H'/\∃cs:List Int,H' D=some (.lst (cs.map V.int))/\cs.length=9/\rdW cs (l.reverse.drop j++(ls.drop (i+1)).flatMap List.reverse)=some cF) ?_ ?_ ?_ ?_
  ·exact⟨⟨_,rfl⟩,s2,cs,hcs,lcs,eg⟩
  ·rintro j σ H3 _ ⟨_,s3,_⟩
   exact SqT.of (s3 _ _ hpl)
  ·clear eg hcs lcs
   rintro j v σ H3 hv ⟨⟨c4,rfl⟩,s3,cs,hcs,lcs,eg⟩
   rw[<-D4]at hv
   obtain⟨x,hx,rfl⟩:∃x,l.reverse[j]?=some x/\V.int x=v:=by
    rw[Ac]at hv
    cases e:l.reverse[j]? with
    |none=>rw[e]at hv;cases hv
    |some y=>rw[e]at hv;exact⟨y,rfl,AW hv⟩
   obtain⟨jl,ex⟩:=AR.mp hx
   rw[B3 jl,ex,DG]at eg
   obtain⟨k,rfl,k7,no,eg⟩:=agj_ eg
   refine⟨_,rfl,_,_,rfl,rfl,_,rfl,za_ (by omega) ?_⟩
   refine⟨_,rfl,_,rfl,D,_,_,.int (cs.getD k 0),rfl,rfl,SqL.of hcs,qQ_ (by omega),_,_,rfl,rfl,_,rfl,_,rfl,D,_,_,k,rfl,rfl,hcs,yz_ (by rw[AA];omega),?_⟩
   rw[vM_]
   have l1:(cs.set k (cs.getD k 0+1)).length=9:=by rw[DO];exact lcs
   have s4:=jz_ hD s3 (.lst ((cs.set k (cs.getD k 0+1)).map V.int))
   have h4:upd H3 D (.lst ((cs.set k (cs.getD k 0+1)).map V.int)) D=_:=qc_
   generalize upd H3 D (.lst ((cs.set k (cs.getD k 0+1)).map V.int))=H4 at *
   generalize cs.set k (cs.getD k 0+1)=c1 at *
   refine⟨_,rfl,_,_,rfl,rfl,_,rfl,?_⟩
   refine yD_ (λci hG=>?_) (q6_ ?_)
   ·have g2:atI (c1.map V.int) ((k:Int)-1)=some (.int (c1.getD (k-1) 0)):=by
     rw[show(k:Int)-1=((k-1:Nat):Int) by omega]
     exact qQ_ (by omega)
    refine⟨_,rfl,_,rfl,D,_,_,_,rfl,rfl,SqL.of h4,qQ_ (by omega),_,rfl,_,rfl,_,_,rfl,rfl,D,_,_,_,rfl,rfl,SqL.of h4,g2,_,_,rfl,rfl,_,rfl,?_⟩
    rw[decide_eq_false λz=>no ⟨ci,z⟩]
    exact hG
   ·exact⟨⟨_,rfl⟩,s4,c1,h4,l1,eg⟩
  ·rintro σ H3 ⟨⟨c4,rfl⟩,s3,cs,hcs,lcs,eg⟩
   rw[AA,<-Bx,Co,Cc]at eg
   exact⟨⟨_,_,rfl⟩,s3,cs,hcs,lcs,eg⟩
 ·rintro σ H2 ⟨⟨c3,c4,rfl⟩,s2,cs,hcs,lcs,eg⟩
  rw[lu,Co]at eg
  have ec:cs=cF:=AW eg
  subst ec
  refine⟨_,rfl,D,rfl,⟨_,SqL.of hcs⟩,λbk2 D2 hD2=>?_⟩
  refine xl_ (α:=Int) hD2 (SqL.of hcs) (λσ=>∃c,σ=[c]) (λi=>(cs[i]?).bind λx=>if 0<x then some x else none) (small (by rw[AA];omega)) ⟨_,rfl⟩ ?_ ?_
  ·rintro i v σ H3 Yes No hv ⟨c,rfl⟩ s3 yes no
   obtain⟨x,hx,rfl⟩:∃x,cs[i]?=some x/\V.int x=v:=by
    rw[Ac]at hv
    cases e:cs[i]? with
    |none=>rw[e]at hv;cases hv
    |some y=>rw[e]at hv;exact⟨y,rfl,AW hv⟩
   refine⟨_,rfl,_,_,rfl,rfl,_,rfl,?_⟩
   by_cases c0:0<x
   ·exact zD_ c0 ⟨_,rfl,yes _ _ _ x ⟨_,rfl⟩ (Same.refl _) (by rw[hx];exact if_pos c0) rfl⟩
   ·exact za_ c0 (no _ _ ⟨_,rfl⟩ (Same.refl _) (by rw[hx];exact if_neg c0))
  rintro H3 s3 h3
  have e0:(List.range (cs.map V.int).length).filterMap (λi=>(cs[i]?).bind λx=>if 0<x then some x else none)=o:=by
   rw[AA,zg_,zI_]
   exact(EQ _).trans eF
  rw[e0]at h3
  have z3:=s2.trans s3
  refine⟨_,rfl,p,_,rfl,.inr (SqT.of (z3 _ _ hp)),λt h4=>?_⟩
  have s4:=qd_ h4 (.lst (o.map V.int))
  refine⟨D2,t,o,o,rfl,rfl,h3.mono s4,⟨_,qc_,aib_ o⟩,?_⟩
  rw[q5_]
  exact q _ (z3.trans s4)
theorem ace_{X:Cx}{x:Str}{j}{pos:Pos}{es:List Expr}{t:TA}(hr:PA X es t):PA X (.Constant (.str x) j pos::es) (ai4_ (tC (.str x)) t):=qa_ j0_ hr rfl
theorem ac0_{X:Cx}:∀xs:List (Str×Nat×Pos),PA X (xs.map λq=>Expr.Constant (.str q.1) q.2.1 q.2.2) (λσ H Q=>Q (xs.map λq=>V.str q.1) H)
 |[]=>qb_
 |q::r=>λpos pins s σ H Q I h=>(qa_ (X:=X) (e:=Expr.Constant (.str q.1) q.2.1 q.2.2) j0_ (ac0_ r) rfl) pos pins s σ H Q I h
def ai8_(xs:List Str):TE:=λ_ H Q=>xs.length<=sizeLine/\∀p,H p=none->Q (.ref p) (upd H p (.lst (xs.map V.str)))
theorem ajn_{X:Cx}{pl:Pos}(xs:List (Str×Nat×Pos)):PE X (.List (xs.map λq=>Expr.Constant (.str q.1) q.2.1 q.2.2) pl) (ai8_ (xs.map λq=>q.1)):=λpins s σ H Q I h=>(qE_ (pos:=pl) (ac0_ xs)) pins s σ H Q I ⟨by rw[AA];have:=h.1;rwa [AA]at this,λp hp=>by have:=h.2 p hp;rwa [CI]at this⟩
@[irreducible] def yu_ (p:Prop):Prop:=p
theorem ag8_{X:Cx}{i:Nat}{x:Str}{pos' pl pos:Pos}(xs:List (Str×Nat×Pos))(hN:X.N.Nodup)(hi:X.N[i]?=some x)(hx:Loc X.env.scope x)(hf:X.fn x=true∨X.env.scope.names.lookup x=some .local) :
  yu_ (PS X (.Assign [.Name x pos'] (.List (xs.map λq=>Expr.Constant (.str q.1) q.2.1 q.2.2) pl) pos) (tAsg (ai8_ (xs.map λq=>q.1)) (zy_ i))):=by
 unfold yu_
 exact qp_ hN hi hx (ajn_ xs) rfl hf
theorem aen_{X:Cx}{st:Stmt}{rest:List Stmt}{t u:TS}(h1:yu_ (PS X st t))(h2:PSs X rest u):yu_ (PSs X (st::rest) (tSeq t u)):=by
 unfold yu_ at h1 ⊢
 exact qe_ h1 h2
theorem aeg_{X:Cx}{st:Stmt}{rest:List Stmt}{t u:TS}(h1:PS X st t)(h2:yu_ (PSs X rest u)):PSs X (st::rest) (tSeq t u):=by
 unfold yu_ at h2
 exact qe_ h1 h2
def Says(K:PySem.W.Frag)(C:Addr)(ds:List Addr)(bs:List Bool):Prop:=ds.length=bs.length/\∀(i:Nat)(d:Addr)(b:Bool),ds[i]?=some d->bs[i]?=some b->PySem.W.kitOne K (.ref C) (.ref d)=some b
abbrev nF:List Str:=["_law_caught", "_law_some", "_law_names", "_law_found"]
abbrev bF:List Str:=["_law_name", "_law_truth"]
theorem ndF:bF.Nodup:=by decide +kernel
theorem scF:FnScope nF ["_law_caught"] (qi_ ya_):=⟨rfl,rfl,rfl,by decide +kernel,rfl,by decide +kernel,by decide +kernel⟩
def exN:List Str:=["count", "powers", "great", "row", "weights", "long", "uneven", "kind", "by", "text", "line", "badname", "name"]
def ad6_(bs:List Bool):List Str:=(List.range 13).filterMap λi=>if bs.getD i false=true then some (exN.getD i "") else none
theorem aoy_{bs:List Bool}{i:Nat}{v:V}(h:(bs.map V.bl)[i]?=some v):v=.bl (bs.getD i false):=by
 rw[Ac]at h
 rw[AF]
 cases e:bs[i]? with
 |none=>rw[e]at h;cases h
 |some c=>rw[e]at h;exact(AW h).symm
theorem akq_{xs:List Str}{i:Nat}{v:V}(h:(xs.map V.str)[i]?=some v):v=.str (xs.getD i ""):=by
 rw[Ac]at h
 rw[AF]
 cases e:xs[i]? with
 |none=>rw[e]at h;cases h
 |some c=>rw[e]at h;exact(AW h).symm
def aaz_(K:PySem.W.Frag)(ds:List Addr):Sp:=λvs H Q _=>∃(c C:Addr)(bs:List Bool),vs=[.ref c]/\H c=some (excO c (.ref C))/\ExcK K C/\PySem.W.kitOne K (.ref C) (.type "ValueError")=some true/\Says K C ds bs/\∀(l:Addr)(H':Hp),H l=none->Same H H'->LstAt H' l (ad6_ bs)->Q (.ref l) H'
theorem aet_{d0 d1 d2 d3 d4 d5 d6 d7 d8 d9 d10 d11 d12:Addr}(F:Fun K "_law_called" "_law_called" ya_ f fd)(mi:mg "isinstance" = none)(mz:mg "zip" = none)(mv:mg "ValueError" = none)(m0:mg "BadCount" = some (.ref d0))(m1:mg "BadPowers" = some (.ref d1))(m2:mg "TooGreat" = some (.ref d2))(m3:mg "BadRow" = some (.ref d3))(m4:mg "UnlikeWeights" = some (.ref d4))(m5:mg "TooLong" = some (.ref d5))(m6:mg "Uneven" = some (.ref d6))(m7:mg "NoKind" = some (.ref d7))(m8:mg "NotBy" = some (.ref d8))(m9:mg "NoText" = some (.ref d9))(m10:mg "NoLine" = some (.ref d10))(m11:mg "BadName" = some (.ref d11))(m12:mg "NoName" = some (.ref d12)):FnOk P w K mg base CX0 2 f fd ["_law_caught"] (aaz_ K [d0,d1,d2,d3,d4,d5,d6,d7,d8,d9,d10,d11,d12]):=by
 refine F.ok scF (λvs H Q E h=>?_) (λcdv A outer s H vs Q E hr h=>?_)
 ·obtain⟨c,C,bs,rfl,_⟩:=h
  rfl
 obtain⟨c,C,bs,rfl,hc,hk,hv,⟨hl,hs⟩,q⟩:=h
 match bs,hl,hs,q with
 |[b0,b1,b2,b3,b4,b5,b6,b7,b8,b9,b10,b11,b12],_,hs,q =>
 have k0:=hs 0 _ _ rfl rfl
 have k1:=hs 1 _ _ rfl rfl
 have k2:=hs 2 _ _ rfl rfl
 have k3:=hs 3 _ _ rfl rfl
 have k4:=hs 4 _ _ rfl rfl
 have k5:=hs 5 _ _ rfl rfl
 have k6:=hs 6 _ _ rfl rfl
 have k7:=hs 7 _ _ rfl rfl
 have k8:=hs 8 _ _ rfl rfl
 have k9:=hs 9 _ _ rfl rfl
 have k10:=hs 10 _ _ rfl rfl
 have k11:=hs 11 _ _ rfl rfl
 have k12:=hs 12 _ _ rfl rfl
 refine⟨_,qe_ (qD_ (qo_ ame_ (pv 0) aeh_ (qn_ _)) (qg_ (qq_ (qE_ qb_))) qt_)
  (qe_ (qp_ (i:=1) scF.nd rfl (Or.inl rfl) (qE_ (qa_ (qh_ qM_ rfl mi AU (qa_ (pv 0) (qa_ (qZ_ (v:=.ref d0) rfl m0 rfl) qb_))) (qa_ (qh_ qM_ rfl mi AU (qa_ (pv 0) (qa_ (qZ_ (v:=.ref d1) rfl m1 rfl) qb_))) (qa_ (qh_ qM_ rfl mi AU (qa_ (pv 0) (qa_ (qZ_ (v:=.ref d2) rfl m2 rfl) qb_))) qb_)))))
  (qe_ (qp_ (i:=1) scF.nd rfl (Or.inl rfl) (qj_ xU_ (pv 1) (qE_ (qa_ (qh_ qM_ rfl mi AU (qa_ (pv 0) (qa_ (qZ_ (v:=.ref d3) rfl m3 rfl) qb_))) (qa_ (qh_ qM_ rfl mi AU (qa_ (pv 0) (qa_ (qZ_ (v:=.ref d4) rfl m4 rfl) qb_))) (qa_ (qh_ qM_ rfl mi AU (qa_ (pv 0) (qa_ (qZ_ (v:=.ref d5) rfl m5 rfl) qb_))) qb_))))))
  (qe_ (qp_ (i:=1) scF.nd rfl (Or.inl rfl) (qj_ xU_ (pv 1) (qE_ (qa_ (qh_ qM_ rfl mi AU (qa_ (pv 0) (qa_ (qZ_ (v:=.ref d6) rfl m6 rfl) qb_))) (qa_ (qh_ qM_ rfl mi AU (qa_ (pv 0) (qa_ (qZ_ (v:=.ref d7) rfl m7 rfl) qb_))) (qa_ (qh_ qM_ rfl mi AU (qa_ (pv 0) (qa_ (qZ_ (v:=.ref d8) rfl m8 rfl) qb_))) qb_))))))
  (qe_ (qp_ (i:=1) scF.nd rfl (Or.inl rfl) (qj_ xU_ (pv 1) (qE_ (qa_ (qh_ qM_ rfl mi AU (qa_ (pv 0) (qa_ (qZ_ (v:=.ref d9) rfl m9 rfl) qb_))) (qa_ (qh_ qM_ rfl mi AU (qa_ (pv 0) (qa_ (qZ_ (v:=.ref d10) rfl m10 rfl) qb_))) (qa_ (qh_ qM_ rfl mi AU (qa_ (pv 0) (qa_ (qZ_ (v:=.ref d11) rfl m11 rfl) qb_))) qb_))))))
  (aeg_ (zp_ (y0_ Br CT CU z9_ (pv 1) (qa_ (qh_ qM_ rfl mi AU (qa_ (pv 0) (qa_ (qZ_ (v:=.ref d12) rfl m12 rfl) qb_))) qb_)))
  (aen_ (ag8_ (i:=2) [(_,_,_),(_,_,_),(_,_,_),(_,_,_),(_,_,_),(_,_,_),(_,_,_),(_,_,_),(_,_,_),(_,_,_),(_,_,_)] scF.nd rfl (Or.inl rfl) (Or.inr rfl))
  (qe_ (qp_ (i:=2) scF.nd rfl (Or.inl rfl) (qj_ xU_ (pv 2) (qE_ (ace_ (ace_ qb_)))))
  (qe_ (vu_ (i:=3) (N':=bF) (src:=[none,none]) scF.nd rfl (Or.inl rfl) rfl rfl (yU_ .lst .lst rfl mz (qa_ (pv 2) (qa_ (pv 1) qb_))) (zq_ (qi_ ya_) nF (by decide +kernel))
   (λb=>jk_ rfl (qK_ (qk_ (i:=0) ndF rfl (Or.inl rfl)) (qK_ (qk_ (i:=1) ndF rfl (Or.inl rfl)) zT_))) (λb=>z6_ (zd_ (pv 1))) (λb=>pv 0))
  (qe_ (qD_ (zd_ (qh_ qM_ rfl mi AU (qa_ (pv 0) (qa_ (jP_ (v:=.ty "ValueError") rfl mv PyProof.Rows.Boot.«ValueError» rfl) qb_)))) (qg_ (qq_ (pv 3))) qt_)
  (qg_ aar_)))))))))),?_⟩
 refine⟨_,rfl,rfl,_,rfl,za_ (by intro z;cases z) ?_⟩
 refine⟨_,rfl,c,C,_,_,_,rfl,hc,hk,rfl,λ_ z=>z,k0,_,rfl,c,C,_,_,_,rfl,hc,hk,rfl,λ_ z=>z,k1,_,rfl,c,C,_,_,_,rfl,hc,hk,rfl,λ_ z=>z,k2,(by show 3<=sizeLine;decide),λp0 h0=>?_⟩
 have s0:=qd_ h0 (.lst [.bl b0,.bl b1,.bl b2])
 have hc0:=s0 _ _ hc
 have e0:upd H p0 (.lst [.bl b0,.bl b1,.bl b2]) p0=some (.lst [.bl b0,.bl b1,.bl b2]):=qc_
 have z0:Same H (upd H p0 (.lst [.bl b0,.bl b1,.bl b2])):=s0
 generalize upd H p0 (.lst [.bl b0,.bl b1,.bl b2])=G0 at *
 refine⟨_,rfl,_,rfl,c,C,_,_,_,rfl,hc0,hk,rfl,λ_ z=>z,k3,_,rfl,c,C,_,_,_,rfl,hc0,hk,rfl,λ_ z=>z,k4,_,rfl,c,C,_,_,_,rfl,hc0,hk,rfl,λ_ z=>z,k5,(by show 3<=sizeLine;decide),λr1 hr1=>?_⟩
 have u1:=qd_ hr1 (.lst [.bl b3,.bl b4,.bl b5])
 refine⟨p0,r1,_,_,rfl,rfl,u1 _ _ e0,qc_,small (by show 6<=100000;decide),λp1 hp1=>?_⟩
 have v1:=u1.trans (qd_ hp1 (.lst [.bl b0,.bl b1,.bl b2,.bl b3,.bl b4,.bl b5]))
 have hc1:=v1 _ _ hc0
 have z1:Same H (upd (upd G0 r1 (.lst [.bl b3,.bl b4,.bl b5])) p1 (.lst [.bl b0,.bl b1,.bl b2,.bl b3,.bl b4,.bl b5])):=z0.trans v1
 have e1:upd (upd G0 r1 (.lst [.bl b3,.bl b4,.bl b5])) p1 (.lst [.bl b0,.bl b1,.bl b2,.bl b3,.bl b4,.bl b5]) p1=some (.lst [.bl b0,.bl b1,.bl b2,.bl b3,.bl b4,.bl b5]):=qc_
 generalize hG1:upd (upd G0 r1 (.lst [.bl b3,.bl b4,.bl b5])) p1 (.lst [.bl b0,.bl b1,.bl b2,.bl b3,.bl b4,.bl b5])=G1 at *
 show zy_ 1 (.ref p1) _ (upd (upd G0 r1 (.lst [.bl b3,.bl b4,.bl b5])) p1 (.lst [.bl b0,.bl b1,.bl b2,.bl b3,.bl b4,.bl b5])) _
 rw[hG1]
 refine⟨_,rfl,_,rfl,c,C,_,_,_,rfl,hc1,hk,rfl,λ_ z=>z,k6,_,rfl,c,C,_,_,_,rfl,hc1,hk,rfl,λ_ z=>z,k7,_,rfl,c,C,_,_,_,rfl,hc1,hk,rfl,λ_ z=>z,k8,(by show 3<=sizeLine;decide),λr2 hr2=>?_⟩
 have u2:=qd_ hr2 (.lst [.bl b6,.bl b7,.bl b8])
 refine⟨p1,r2,_,_,rfl,rfl,u2 _ _ e1,qc_,small (by show 9<=100000;decide),λp2 hp2=>?_⟩
 have v2:=u2.trans (qd_ hp2 (.lst [.bl b0,.bl b1,.bl b2,.bl b3,.bl b4,.bl b5,.bl b6,.bl b7,.bl b8]))
 have hc2:=v2 _ _ hc1
 have z2:Same H (upd (upd G1 r2 (.lst [.bl b6,.bl b7,.bl b8])) p2 (.lst [.bl b0,.bl b1,.bl b2,.bl b3,.bl b4,.bl b5,.bl b6,.bl b7,.bl b8])):=z1.trans v2
 have e2:upd (upd G1 r2 (.lst [.bl b6,.bl b7,.bl b8])) p2 (.lst [.bl b0,.bl b1,.bl b2,.bl b3,.bl b4,.bl b5,.bl b6,.bl b7,.bl b8]) p2=some (.lst [.bl b0,.bl b1,.bl b2,.bl b3,.bl b4,.bl b5,.bl b6,.bl b7,.bl b8]):=qc_
 generalize hG2:upd (upd G1 r2 (.lst [.bl b6,.bl b7,.bl b8])) p2 (.lst [.bl b0,.bl b1,.bl b2,.bl b3,.bl b4,.bl b5,.bl b6,.bl b7,.bl b8])=G2 at *
 show zy_ 1 (.ref p2) _ (upd (upd G1 r2 (.lst [.bl b6,.bl b7,.bl b8])) p2 (.lst [.bl b0,.bl b1,.bl b2,.bl b3,.bl b4,.bl b5,.bl b6,.bl b7,.bl b8])) _
 rw[hG2]
 refine⟨_,rfl,_,rfl,c,C,_,_,_,rfl,hc2,hk,rfl,λ_ z=>z,k9,_,rfl,c,C,_,_,_,rfl,hc2,hk,rfl,λ_ z=>z,k10,_,rfl,c,C,_,_,_,rfl,hc2,hk,rfl,λ_ z=>z,k11,(by show 3<=sizeLine;decide),λr3 hr3=>?_⟩
 have u3:=qd_ hr3 (.lst [.bl b9,.bl b10,.bl b11])
 refine⟨p2,r3,_,_,rfl,rfl,u3 _ _ e2,qc_,small (by show 12<=100000;decide),λp3 hp3=>?_⟩
 have v3:=u3.trans (qd_ hp3 (.lst [.bl b0,.bl b1,.bl b2,.bl b3,.bl b4,.bl b5,.bl b6,.bl b7,.bl b8,.bl b9,.bl b10,.bl b11]))
 have fp3:H p3=none:=z2.free (u3.free hp3)
 have hc3:=v3 _ _ hc2
 have z3:Same H (upd (upd G2 r3 (.lst [.bl b9,.bl b10,.bl b11])) p3 (.lst [.bl b0,.bl b1,.bl b2,.bl b3,.bl b4,.bl b5,.bl b6,.bl b7,.bl b8,.bl b9,.bl b10,.bl b11])):=z2.trans v3
 have e3:upd (upd G2 r3 (.lst [.bl b9,.bl b10,.bl b11])) p3 (.lst [.bl b0,.bl b1,.bl b2,.bl b3,.bl b4,.bl b5,.bl b6,.bl b7,.bl b8,.bl b9,.bl b10,.bl b11]) p3=some (.lst [.bl b0,.bl b1,.bl b2,.bl b3,.bl b4,.bl b5,.bl b6,.bl b7,.bl b8,.bl b9,.bl b10,.bl b11]):=qc_
 generalize hG3:upd (upd G2 r3 (.lst [.bl b9,.bl b10,.bl b11])) p3 (.lst [.bl b0,.bl b1,.bl b2,.bl b3,.bl b4,.bl b5,.bl b6,.bl b7,.bl b8,.bl b9,.bl b10,.bl b11])=G3 at *
 show zy_ 1 (.ref p3) _ (upd (upd G2 r3 (.lst [.bl b9,.bl b10,.bl b11])) p3 (.lst [.bl b0,.bl b1,.bl b2,.bl b3,.bl b4,.bl b5,.bl b6,.bl b7,.bl b8,.bl b9,.bl b10,.bl b11])) _
 rw[hG3]
 refine⟨_,rfl,.inl ⟨rfl,_,SqL.of e3⟩,_,rfl,c,C,_,_,_,rfl,hc3,hk,rfl,λ_ z=>z,k12,p3,_,_,rfl,rfl,e3,j7_ (by show 12<=100000;decide),?_⟩
 have z4:Same H (upd G3 p3 (.lst ([.bl b0,.bl b1,.bl b2,.bl b3,.bl b4,.bl b5,.bl b6,.bl b7,.bl b8,.bl b9,.bl b10,.bl b11]++[.bl b12]))):=jz_ fp3 z3 _
 have e4:upd G3 p3 (.lst ([.bl b0,.bl b1,.bl b2,.bl b3,.bl b4,.bl b5,.bl b6,.bl b7,.bl b8,.bl b9,.bl b10,.bl b11]++[.bl b12])) p3=some (.lst ([.bl b0,.bl b1,.bl b2,.bl b3,.bl b4,.bl b5,.bl b6,.bl b7,.bl b8,.bl b9,.bl b10,.bl b11]++[.bl b12])):=qc_
 have hc4:=z4 _ _ hc
 generalize upd G3 p3 (.lst ([.bl b0,.bl b1,.bl b2,.bl b3,.bl b4,.bl b5,.bl b6,.bl b7,.bl b8,.bl b9,.bl b10,.bl b11]++[.bl b12]))=G4 at *
 refine⟨(by show 11<=sizeLine;decide),λp5 h5=>?_⟩
 have s5:=qd_ h5 (.lst [.str "count",.str "powers",.str "great",.str "row",.str "weights",.str "long",.str "uneven",.str "kind",.str "by",.str "text",.str "line"])
 have e5:upd G4 p5 (.lst [.str "count",.str "powers",.str "great",.str "row",.str "weights",.str "long",.str "uneven",.str "kind",.str "by",.str "text",.str "line"]) p5=some (.lst [.str "count",.str "powers",.str "great",.str "row",.str "weights",.str "long",.str "uneven",.str "kind",.str "by",.str "text",.str "line"]):=qc_
 have z5:=z4.trans s5
 have f4:=s5 _ _ e4
 have hc5:=s5 _ _ hc4
 show zy_ 2 (.ref p5) _ (upd G4 p5 (.lst [.str "count",.str "powers",.str "great",.str "row",.str "weights",.str "long",.str "uneven",.str "kind",.str "by",.str "text",.str "line"])) _
 generalize upd G4 p5 (.lst [.str "count",.str "powers",.str "great",.str "row",.str "weights",.str "long",.str "uneven",.str "kind",.str "by",.str "text",.str "line"])=G5 at *
 refine⟨_,rfl,(by show 2<=sizeLine;decide),λp6 h6=>?_⟩
 have s6:=qd_ h6 (.lst [.str "badname",.str "name"])
 refine⟨p5,p6,_,_,rfl,rfl,s6 _ _ e5,qc_,small (by show 13<=100000;decide),λp7 h7=>?_⟩
 have s7:=s6.trans (qd_ h7 (.lst (exN.map V.str)))
 have e7:upd (upd G5 p6 (.lst [.str "badname",.str "name"])) p7 (.lst (exN.map V.str)) p7=some (.lst (exN.map V.str)):=qc_
 have z7:=z5.trans s7
 have f7:=s7 _ _ f4
 have hc7:=s7 _ _ hc5
 show zy_ 2 (.ref p7) _ (upd (upd G5 p6 (.lst [.str "badname",.str "name"])) p7 (.lst (exN.map V.str))) _
 generalize upd (upd G5 p6 (.lst [.str "badname",.str "name"])) p7 (.lst (exN.map V.str))=G7 at *
 have f7':G7 p3=some (.lst ([b0,b1,b2,b3,b4,b5,b6,b7,b8,b9,b10,b11,b12].map V.bl)):=f7
 generalize hbs:[b0,b1,b2,b3,b4,b5,b6,b7,b8,b9,b10,b11,b12]=bs at *
 have lbs:bs.length=13:=by rw[<-hbs];rfl
 refine⟨_,rfl,_,rfl,p7,p3,rfl,⟨_,SqL.of e7⟩,⟨_,SqL.of f7'⟩,λbk D hD=>?_⟩
 refine xB_ (α:=Str) (k1:=.lst) (k2:=.lst) hD (SqL.of e7) (SqL.of f7') (λσ=>∃c d,σ=[c,d]) (λi=>if bs.getD i false=true then some (exN.getD i "") else none) (small (by rw[AA,AA];omega)) ?_ ?_ ?_
 ·exact⟨_,_,rfl⟩
 ·rintro i x y p2 σ H2 Yes No hx hy h2 ⟨c,d,rfl⟩ s3 yes no
  obtain rfl:=akq_ hx
  obtain rfl:=aoy_ hy
  refine⟨p2,_,rfl,SqT.of qc_,rfl,_,_,rfl,_,_,rfl,rfl,?_⟩
  refine⟨_,rfl,_,rfl,?_⟩
  cases cb:bs.getD i false with
  |true=>exact zY_ ⟨_,rfl,yes _ _ _ (exN.getD i "") ⟨_,_,rfl⟩ (qd_ h2 _) (by rw[if_pos cb]) rfl⟩
  |false=>exact q6_ (no _ _ ⟨_,_,rfl⟩ (qd_ h2 _) (by rw[cb];rfl))
 rintro H8 s8 h8
 have en:(List.range (min (exN.map V.str).length (bs.map V.bl).length)).filterMap (λi=>if bs.getD i false=true then some (exN.getD i "") else none)=ad6_ bs:=by
  rw[AA,AA,lbs]
  rfl
 rw[en]at h8
 refine⟨_,rfl,c,C,.ty "ValueError",.type "ValueError",_,rfl,s8 _ _ hc7,hk,rfl,λ_ z=>z,hv,_,rfl,zY_ ⟨_,rfl,?_⟩⟩
 exact q D H8 (z7.free hD) (z7.trans s8) h8
def flR:List Bool:=[false,false,false,true,false,false,false,false,false,false,false,false,false]
theorem ajy_:ad6_ flR=(["row"]:List Str):=by decide +kernel
structure Told(K:PySem.W.Frag)(ds:List Addr)(C0 C:Addr)(bs:List Bool):Prop where
 k:ExcK K C
 v:PySem.W.kitOne K (.ref C) (.type "ValueError")=some true
 s:Says K C ds bs
 w:PySem.W.kitOne K (.ref C) (.ref C0)=some true
 n:C≠C0
theorem alt_{X:Cx}:SlR X (λx lo hi H Q=>∃(a:Addr)(r:List Int),x=.ref a/\lo=none/\hi=some (-1)/\H a=some (.tup (r.map V.int))/\∀(p:Addr)(H':Hp),Same H H'->H' p=some (.tup ((r.take (r.length-1)).map V.int))->Q (.ref p) H'):=by
 intro pins s σ H x v vl vu lo hi sl Q I rx hs pl pu h
 obtain⟨a,r,rfl,rfl,rfl,ha,q⟩:=h
 have e:HT.sIx (r.map V.int).length (r.map V.int).length (some (-1))=r.length-1:=by
  rw[AA]
  show(if (-1:Int)<0 then ((-1:Int)+(r.length:Int)).toNat else min (-1:Int).toNat r.length)=_
  rw[if_pos (by decide)]
  omega
 by_cases c:r.length=0
 ·refine yl_ pins s σ H _ v vl vu _ _ sl Q I rx hs pl pu ⟨a,_,rfl,SqT.of ha,HT.sIx_none _ _,?_,q a H (λ_ _ e=>e) (by rw[Aj (by omega)];exact ha)⟩
  rw[e,AA]
  omega
 ·refine y7_ pins s σ H _ v vl vu _ _ sl Q I rx hs pl pu ⟨a,_,rfl,SqT.of ha,λz=>?_,λp hp=>?_⟩
  ·have z2:=z.2
   rw[e,AA]at z2
   omega
  ·refine q p _ (qd_ hp _) ?_
   rw[qc_]
   unfold jx_
   rw[e,HT.sIx_none,Cm,En,List.map_take]
abbrev nFl:List Str:=["_law_three", "_law_caught", "e"]
theorem scFl:FnScope nFl ["_law_three"] (qi_ sFlg):=⟨rfl,rfl,rfl,by decide +kernel,rfl,by decide +kernel,by decide +kernel⟩
def ai6_:Sp:=λvs H Q _=>∃(l p1 p2 p3:Addr)(a o r:List Int),vs=[.ref l]/\H l=some (.lst [.ref p1,.ref p2,.ref p3])/\H p1=some (.tup (a.map V.int))/\H p2=some (.tup (o.map V.int))/\H p3=some (.tup (r.map V.int))/\a.length<=1000/\o.length<=1000/\r.length<=1000/\(qH_ a&&qH_ o&&qH_ r)=false/\∀(l:Addr)(H':Hp),H l=none->Same H H'->LstAt H' l (["row"]:List Str)->Q (.ref l) H'
theorem ann_{c1 C0:Addr}{ds:List Addr}(F:Fun K "_law_flags" "_law_flags" sFlg f fd)(GM:HasX P w K mg base 10 "counted" pCt (adw_ c1))(GC:Has P w K mg base 10 "_law_called" ["_law_caught"] (aaz_ K ds))(mE:mg "EvenError" = some (.ref C0))(kE:PySem.W.kitOne K (.ref C0) (.type "BaseException")=some true)(t:Told K ds C0 c1 flR):FnOk P w K mg base CX0 11 f fd ["_law_three"] ai6_:=by
 refine F.ok scFl (λvs H Q E h=>?_) (λcdv A outer s H vs Q E hr h=>?_)
 ·obtain⟨l,p1,p2,p3,a,o,r,rfl,_⟩:=h
  rfl
 obtain⟨l,p1,p2,p3,a,o,r,rfl,hl,h1,h2,h3,a9,o9,r9,bad,qQ⟩:=h
 refine⟨_,qe_ (qp_ (i:=1) scFl.nd rfl (Or.inl rfl) aeh_)
  (qe_ (amg_ (i:=2) (j:=1) rfl rfl scFl.nd rfl rfl rfl rfl rfl mE (adz_ kE) (λpn' T σ0 E' hx =>
   qg_ (zp_ (agl_ GM.ok hr rfl GM.at_ GM.kp GM.bd hx (qa_ (qs_ (r:=rIxL K) qN_ (pv 0) qf_ (λ_ _=>rfl)) (qa_ (qs_ (r:=rIxL K) qN_ (pv 0) qf_ (λ_ _=>rfl)) (qa_ (qs_ (r:=rIxL K) qN_ (pv 0) qf_ (λ_ _=>rfl)) qb_)))))))
  (qg_ (qq_ (qr_ GC hr rfl (qa_ (pv 1) qb_))))),?_⟩
 refine⟨rfl,_,rfl,l,_,_,.ref p1,rfl,rfl,SqL.of hl,qW_ (j:=0) rfl,_,rfl,l,_,_,.ref p2,rfl,rfl,SqL.of hl,qW_ (j:=1) rfl,_,rfl,l,_,_,.ref p3,rfl,rfl,SqL.of hl,qW_ (j:=2) rfl,p1,p2,p3,a,o,r,rfl,h1,h2,h3,a9,o9,r9,λ_ H1 s1=>?_,λz=>by rw[bad]at z;cases z⟩
 refine⟨c1,rfl,adj_ t.w t.n,λc hc=>?_⟩
 have s2:=qd_ hc (excO c (.ref c1))
 refine⟨_,rfl,c,c1,flR,rfl,qc_,t.k,t.v,t.s,λl H' hl s3 hL=>?_⟩
 rw[ajy_]at hL
 exact qQ l H' (s1.free (s2.free hl)) (s1.trans (s2.trans s3)) hL
theorem ve_{l:List Int}{x:Int}(h:x∈l)(hx:x<1):qH_ l=false:=by
 cases c:qH_ l with
 |false=>rfl
 |true =>
  have:=(xf_ c).1 x h
  omega
theorem vm_{l:List Int}(h:8<l.sum):qH_ l=false:=by
 cases c:qH_ l with
 |false=>rfl
 |true =>
  have:=(xf_ c).2.2
  omega
theorem akb_:R8.all (λr=>!qH_ ([1]++r++[2]))=true:=by decide +kernel
theorem xh_{r:List Int}(h:r∈R8):r.length<=8/\0<=r.sum/\qH_ r=true:=by
 have:=AI.mp aix_ r h
 simp only[AG,decide_eq_true_eq]at this
 exact⟨this.1.1.1.2,this.1.1.2,this.1.1.1.1⟩
def BadAt(H:Hp)(b:Addr):Prop:=∃t:List Int,H b=some (.tup (t.map V.int))/\t.length<=1000/\qH_ t=false
theorem BadAt.mono{H H':Hp}{b:Addr}(h:BadAt H b)(s:Same H H'):BadAt H' b:=let ⟨t,h1,h2⟩:=h;⟨t,s _ _ h1,h2⟩
theorem ap3_{H:Hp}{p1 p2 p3 b:Addr}{a o r:List Int}{pl:Nat}(hp:pl<3)(h1:H p1=some (.tup (a.map V.int)))(h2:H p2=some (.tup (o.map V.int)))(h3:H p3=some (.tup (r.map V.int)))(a9:a.length<=1000)(o9:o.length<=1000)(r9:r.length<=1000)(hb:BadAt H b) :
  ∃(q1 q2 q3:Addr)(a' o' r':List Int),[V.ref p1,V.ref p2,V.ref p3].set pl (V.ref b)=[.ref q1,.ref q2,.ref q3]/\H q1=some (.tup (a'.map V.int))/\H q2=some (.tup (o'.map V.int))/\H q3=some (.tup (r'.map V.int))/\a'.length<=1000/\o'.length<=1000/\r'.length<=1000/\(qH_ a'&&qH_ o'&&qH_ r')=false:=by
 obtain⟨t,ht,l9,bad⟩:=hb
 have:pl=0∨pl=1∨pl=2:=by omega
 rcases this with rfl|rfl|rfl
 ·exact⟨b,p2,p3,t,o,r,rfl,ht,h2,h3,l9,o9,r9,by rw[bad];rfl⟩
 ·exact⟨p1,b,p3,a,t,r,rfl,h1,ht,h3,a9,l9,r9,by rw[bad,C6];rfl⟩
 ·exact⟨p1,p2,b,a,o,t,rfl,h1,h2,ht,a9,o9,l9,by rw[bad,C6]⟩
abbrev nRf:List Str:=["_law_some", "_law_cell_here", "_law_place", "_law_row", "_law_bad", "_law_bent", "_law_one"]
abbrev pRf:List Str:=["_law_some", "_law_cell_here"]
abbrev bRf:List Str:=["_law_k", "_law_bad", "_law_cell_here"]
theorem ndRf:bRf.Nodup:=by decide +kernel
theorem scRf:FnScope nRf pRf (qi_ sRfs):=⟨rfl,rfl,rfl,by decide +kernel,rfl,by decide +kernel,by decide +kernel⟩
def ai9_:Sp:=λvs H Q _=>∃(l p1 p2 p3:Addr)(a o r:List Int)(c:Int),vs=[.ref l,.int c]/\H l=some (.lst [.ref p1,.ref p2,.ref p3])/\H p1=some (.tup (a.map V.int))/\H p2=some (.tup (o.map V.int))/\H p3=some (.tup (r.map V.int))/\a∈R8/\o∈R8/\r∈R8/\∀H',Same H H'->Q (.bl true) H'
theorem at3{H:Hp}{p1 p2 p3:Addr}{a o r:List Int}{pl:Nat}(hp:pl<3)(h1:H p1=some (.tup (a.map V.int)))(h2:H p2=some (.tup (o.map V.int)))(h3:H p3=some (.tup (r.map V.int)))(ra:a∈R8)(ro:o∈R8)(rr:r∈R8):∃(p:Addr)(t:List Int),atI [V.ref p1,V.ref p2,V.ref p3] (pl:Int)=some (.ref p)/\H p=some (.tup (t.map V.int))/\t∈R8:=by
 have:pl=0∨pl=1∨pl=2:=by omega
 rcases this with rfl|rfl|rfl
 ·exact⟨p1,a,qW_ (j:=0) rfl,h1,ra⟩
 ·exact⟨p2,o,qW_ (j:=1) rfl,h2,ro⟩
 ·exact⟨p3,r,qW_ (j:=2) rfl,h3,rr⟩
def BadI(l pr:Addr)(c:Int)(pl k:Nat)(H:Hp):St->Hp->Prop:=λσ H'=>∃(lb:Addr)(bs:List Addr),σ=[some (.ref l),some (.int c),some (.int pl),some (.ref pr),some (.ref lb),none,none]/\Same H H'/\H' lb=some (.lst (bs.map V.ref))/\bs.length=k/\∀b∈bs,BadAt H' b
theorem akw_(F:Fun K "_law_refuses" "_law_refuses" sRfs f fd)(GF:Has P w K mg base 11 "_law_flags" ["_law_three"] ai6_)(ml:mg "list" = none)(mr:mg "range" = none):FnOk P w K mg base CX0 12 f fd pRf ai9_:=by
 refine F.ok scRf (λvs H Q E h=>?_) (λcdv A outer s H vs Q E hr h=>?_)
 ·obtain⟨l,p1,p2,p3,a,o,r,c,rfl,_⟩:=h
  rfl
 obtain⟨l,p1,p2,p3,a,o,r,c,rfl,hl,h1,h2,h3,ra,ro,rr,qQ⟩:=h
 have hX:=BH (Bl (by decide:Dat.dep Str+1<=64) _) hr.units
 obtain⟨pl,hpl,p3'⟩:∃n:Nat,c%3=n/\n<3:=by
  have h0:=B8 c (show(3:Int)≠0 by decide)
  have h1:=CJ c (show(0:Int)<3 by decide)
  exact⟨(c%3).toNat,by omega,by omega⟩
 obtain⟨pr,t,atp,hpr,rt⟩:=at3 p3' h1 h2 h3 ra ro rr
 obtain⟨t8,t0,tB⟩:=xh_ rt
 refine⟨_,(qe_ (qp_ (i:=2) scRf.nd rfl (Or.inl rfl) (qj_ z1_ (pv 1) qf_))
  (qe_ (qp_ (i:=3) scRf.nd rfl (Or.inl rfl) (qs_ qN_ (pv 0) (pv 2) (λ_ _=>rfl)))
  (qe_ (x0_ (BadI l pr c pl 4 H) (qp_ (i:=4) scRf.nd rfl (Or.inr rfl) (qE_ (qa_ (qj_ zh_ (pv 3) (qu_ (qa_ qf_ qb_))) (qa_ (qj_ zh_ (qu_ (qa_ qf_ qb_)) (pv 3)) (qa_ (qj_ zh_ (pv 3) (qu_ (qa_ qf_ qb_))) (qa_ (qj_ zh_ (jy_ alt_ (pv 3) jQ_ (jN_ (v8_ yR_ qf_))) (qu_ (qa_ (qj_ qU_ (qj_ qU_ qf_ qf_) (qj_ z1_ (qj_ zL_ (pv 1) qf_) (qj_ abh_ qf_ qf_))) qb_))) qb_)))))))
  (qe_ (x0_ (BadI l pr c pl 7 H) (qp_ (i:=4) scRf.nd rfl (Or.inr rfl) (qj_ xU_ (pv 4) (qE_ (qa_ (qj_ zh_ (qj_ zh_ (qu_ (qa_ qf_ qb_)) (pv 3)) (qu_ (qa_ qf_ qb_))) (qa_ (qj_ zh_ (qu_ (qa_ (qj_ zP_ (qj_ abh_ qf_ qf_) (qj_ z1_ (qj_ zL_ (pv 1) qf_) (qj_ abh_ qf_ qf_))) qb_)) (pv 3)) (qa_ (qj_ zh_ (pv 3) (qu_ (qa_ qf_ (qa_ qf_ (qa_ qf_ (qa_ qf_ (qa_ qf_ (qa_ qf_ (qa_ qf_ (qa_ qf_ (qa_ qf_ qb_))))))))))) qb_)))))))
  (qe_ (qp_ (i:=5) scRf.nd rfl (Or.inl rfl) (zC_ jY_ rfl ml CD (qa_ (pv 0) qb_)))
  (qe_ (qL_ Ao rfl (q0_ (qE_ (qa_ (qs_ qN_ (pv 4) (qj_ z1_ (qj_ zL_ (pv 1) qf_) qf_) (λ_ _=>rfl)) (qa_ (qu_ (qa_ qf_ (qa_ qf_ qb_))) (qa_ (qu_ (qa_ qf_ (qa_ qf_ qb_))) qb_))))) (qk_ (i:=6) scRf.nd rfl (Or.inl rfl)) (qe_ (abi_ (pv 6) (afr_ (pv 5) (pv 2) yM_))
  (qg_ (qD_ (qo_ (xs_ (α:=Str) hX) (qr_ GF hr rfl (qa_ (pv 5) qb_)) (qE_ (qa_ j0_ qb_)) (qn_ _)) (qg_ (qq_ q3_)) qt_))))
  (qg_ (qq_ (zX_ (aah_ (α:=Str) hX) (qr_ GF hr rfl (qa_ (q8_ (N':=bRf) (src:=[none,some 4,some 1]) rfl (zA_ rfl mr (qa_ qf_ qb_)) (zq_ (qi_ sRfs) nRf (by decide +kernel)) (λb=>qk_ (i:=0) ndRf rfl (Or.inl rfl)) (λb=>zz_) (λb=>(qs_ qN_ (pv 1) (qj_ z1_ (qj_ zL_ (pv 2) qf_) qf_) (λ_ _=>rfl)))) qb_)) (qE_ (qa_ j0_ qb_)) (qn_ _)))))))))),?_⟩
 refine⟨_,rfl,_,_,rfl,rfl,(by show(0:Int)<3;decide),?_⟩
 show zy_ 2 (V.int (c%3)) _ _ _
 rw[hpl]
 refine⟨_,rfl,_,rfl,l,_,_,.ref pr,rfl,rfl,SqL.of hl,atp,?_⟩
 refine⟨?_,?_⟩
 ·refine⟨_,rfl,(by show 1<=sizeLine;decide),λu0 g0=>?_⟩
  have s0:=qd_ g0 (.tup (([0]:List Int).map V.int))
  refine zc_ (r:=t) (r':=[0]) (s0 _ _ hpr) qc_ (small (by show t.length+1<=_;omega)) λb1 H1 s1 e1=>?_
  have z1:=s0.trans s1
  refine⟨(by show 1<=sizeLine;decide),λu1 g1=>⟨_,rfl,?_⟩⟩
  have v1:=qd_ g1 (.tup (([0]:List Int).map V.int))
  refine zc_ (r:=[0]) (r':=t) qc_ ((z1.trans v1) _ _ hpr) (small (by show 1+t.length<=_;omega)) λb2 H2 s2 e2=>?_
  have z2:=z1.trans (v1.trans s2)
  refine⟨_,rfl,(by show 1<=sizeLine;decide),λu2 g2=>?_⟩
  have v2:=qd_ g2 (.tup (([9]:List Int).map V.int))
  refine zc_ (r:=t) (r':=[9]) ((z2.trans v2) _ _ hpr) qc_ (small (by show t.length+1<=_;omega)) λb3 H3 s3 e3=>?_
  have z3:=z2.trans (v2.trans s3)
  refine⟨_,rfl,1,rfl,-1,rfl,pr,t,rfl,rfl,rfl,z3 _ _ hpr,λu3 H4 v3 g3=>?_⟩
  have z4:=z3.trans v3
  refine⟨_,_,rfl,rfl,_,rfl,_,_,rfl,rfl,⟨by decide,by decide⟩,_,_,rfl,rfl,⟨by decide,by decide,by decide⟩,_,_,rfl,rfl,(by show(0:Int)<10^50;decide),_,_,rfl,rfl,(by show 1<=sizeLine;decide),λu4 g4=>?_⟩
  have x0:0<=c / 15%(10^(50:Int).toNat):=B8 _ (by show(10:Int)^50≠0;decide)
  have v4:=qd_ g4 (.tup (([0-1-c / 15%(10^(50:Int).toNat)]:List Int).map V.int))
  refine zc_ (r:=t.take (t.length-1)) (r':=[0-1-c / 15%(10^(50:Int).toNat)]) (v4 _ _ g3) qc_ (small (by rw[An];show _+1<=_;omega)) λb4 H5 s5 e4=>?_
  have z5:=z4.trans (v4.trans s5)
  refine⟨(by show 4<=sizeLine;decide),λlb gb=>?_⟩
  have v5:=qd_ gb (.lst ([b1,b2,b3,b4].map V.ref))
  refine⟨lb,[b1,b2,b3,b4],rfl,z5.trans v5,qc_,rfl,λb hb=>?_⟩
  have y3:=(v3.trans (v4.trans s5)).trans v5
  have y2:=(v2.trans s3).trans y3
  have y1:=(v1.trans s2).trans y2
  simp only[AN,Bg,or_false]at hb
  rcases hb with rfl|rfl|rfl|rfl
  ·exact⟨_,y1 _ _ e1,by rw[AK];show _+1<=1000;omega,ve_ (x:=0) (by simp) (by decide)⟩
  ·exact⟨_,y2 _ _ e2,by rw[AK];show 1+_<=1000;omega,ve_ (x:=0) (by simp) (by decide)⟩
  ·exact⟨_,y3 _ _ e3,by rw[AK];show _+1<=1000;omega,vm_ (by rw[DW];show 8<_+9;omega)⟩
  ·exact⟨_,v5 _ _ e4,by rw[AK,An];show _+1<=1000;omega,ve_ (x:=0-1-c / 15%(10^(50:Int).toNat)) (by simp) (by omega)⟩
 rintro σ H1 ⟨lb,bs,rfl,s1,hlb,l4,hbs⟩
 refine⟨?_,?_⟩
 ·refine⟨_,rfl,(by show 1<=sizeLine;decide),λu0 g0=>⟨_,rfl,?_⟩⟩
  have v0:=qd_ g0 (.tup (([1]:List Int).map V.int))
  refine zc_ (r:=[1]) (r':=t) qc_ ((s1.trans v0) _ _ hpr) (small (by show 1+t.length<=_;omega)) λu1 H2 s2 e1=>?_
  have z2:=v0.trans s2
  refine⟨(by show 1<=sizeLine;decide),λu2 g2=>?_⟩
  have v2:=qd_ g2 (.tup (([2]:List Int).map V.int))
  refine zc_ (r:=[1]++t) (r':=[2]) (v2 _ _ e1) qc_ (small (by rw[AK];show 1+t.length+1<=_;omega)) λb5 H3 s3 e5=>?_
  have z3:=z2.trans (v2.trans s3)
  refine⟨_,_,rfl,rfl,⟨by decide,by decide,by decide⟩,_,rfl,_,_,rfl,rfl,⟨by decide,by decide⟩,_,_,rfl,rfl,⟨by decide,by decide,by decide⟩,_,_,rfl,rfl,(by show(0:Int)<10^50;decide),_,_,rfl,rfl,(by show 1<=sizeLine;decide),λu4 g4=>⟨_,rfl,?_⟩⟩
  have x0:0<=c / 15%(10^(50:Int).toNat):=B8 _ (by show(10:Int)^50≠0;decide)
  have x1:(8:Int)<10^(50:Int).toNat:=by decide
  have v4:=qd_ g4 (.tup (([10^(50:Int).toNat+c / 15%(10^(50:Int).toNat)]:List Int).map V.int))
  refine zc_ (r:=[10^(50:Int).toNat+c / 15%(10^(50:Int).toNat)]) (r':=t) qc_ ((s1.trans (z3.trans v4)) _ _ hpr) (small (by show 1+t.length<=_;omega)) λb6 H5 s5 e6=>?_
  have z5:=z3.trans (v4.trans s5)
  refine⟨_,rfl,(by show 9<=sizeLine;decide),λu6 g6=>?_⟩
  have v6:=qd_ g6 (.tup (([1,1,1,1,1,1,1,1,1]:List Int).map V.int))
  refine zc_ (r:=t) (r':=[1,1,1,1,1,1,1,1,1]) ((s1.trans (z5.trans v6)) _ _ hpr) qc_ (small (by show t.length+9<=_;omega)) λb7 H7 s7 e7=>?_
  have z7:=z5.trans (v6.trans s7)
  refine⟨(by show 3<=sizeLine;decide),λl3 g3=>?_⟩
  have v7:=qd_ g3 (.lst ([b5,b6,b7].map V.ref))
  refine⟨lb,l3,_,_,rfl,rfl,(z7.trans v7) _ _ hlb,qc_,small (by rw[AA,l4];show 4+3<=_;decide),λln gn=>?_⟩
  have v8:=qd_ gn (.lst (bs.map V.ref++[b5,b6,b7].map V.ref))
  have y7:=v7.trans v8
  have y5:=(v6.trans s7).trans y7
  have y3:=(v4.trans s5).trans y5
  refine⟨ln,bs++[b5,b6,b7],rfl,s1.trans (z7.trans y7),by rw[BU];exact qc_,by rw[AK,l4];rfl,λb hb=>?_⟩
  rcases Ap.mp hb with hb|hb
  ·exact(hbs b hb).mono (z7.trans y7)
  simp only[AN,Bg,or_false]at hb
  rcases hb with rfl|rfl|rfl
  ·refine⟨_,y3 _ _ e5,by rw[AK,AK];show 1+_+1<=1000;omega,?_⟩
   have:=AI.mp akb_ t rt
   simpa using this
  ·exact⟨_,y5 _ _ e6,by rw[AK];show 1+_<=1000;omega,vm_ (by rw[DW,List.sum_singleton];omega)⟩
  ·exact⟨_,y7 _ _ e7,by rw[AK];show _+9<=1000;omega,vm_ (by rw[DW];show 8<_+9;omega)⟩
 clear hlb l4 hbs s1
 rintro σ H2 ⟨lb,bs,rfl,s2,hlb,l7,hbs⟩
 refine⟨_,rfl,l,_,rfl,.inl (SqL.of (s2 _ _ hl)),λlt gt=>?_⟩
 have v2:=qd_ gt (.lst [V.ref p1,V.ref p2,V.ref p3])
 have z3:=s2.trans v2
 have hlt:upd H2 lt (.lst [V.ref p1,V.ref p2,V.ref p3]) lt=some (.lst [V.ref p1,V.ref p2,V.ref p3]):=qc_
 have hlb3:=v2 _ _ hlb
 have fl:H lt=none:=s2.free gt
 have hbs3:∀b∈bs,BadAt (upd H2 lt (.lst [V.ref p1,V.ref p2,V.ref p3])) b:=λb hb=>(hbs b hb).mono v2
 show zy_ 5 (.ref lt) _ (upd H2 lt (.lst [V.ref p1,V.ref p2,V.ref p3])) _
 have nlt:lb≠lt:=λz=>by rw[z,gt]at hlb;cases hlb
 have nbl:∀b∈bs,b≠lt:=λb hb z=>by
  obtain⟨t,ht,_⟩:=hbs b hb
  rw[z,gt]at ht
  cases ht
 clear hlb hbs
 generalize upd H2 lt (.lst [V.ref p1,V.ref p2,V.ref p3])=H3 at *
 obtain⟨k,hk,k7⟩:∃n:Nat,c / 3%7=n/\n<7:=by
  have h0:=B8 (c / 3) (show(7:Int)≠0 by decide)
  have h1:=CJ (c / 3) (show(0:Int)<7 by decide)
  exact⟨(c / 3%7).toNat,by omega,by omega⟩
 obtain⟨bk,ebk⟩:∃b,bs[k]?=some b:=⟨_,AE (by omega)⟩
 have mbk:=Ah ebk
 have atb:atI (bs.map V.ref) (c / 3%7)=some (.ref bk):=by
  rw[hk]
  exact qW_ (by rw[Ac,ebk];rfl)
 refine⟨_,rfl,_,rfl,_,_,rfl,rfl,⟨by decide,by decide⟩,_,_,rfl,rfl,(by show(0:Int)<7;decide),lb,_,_,.ref bk,rfl,rfl,SqL.of hlb3,atb,?_⟩
 refine⟨(by show 2<=sizeLine;decide),λt1 g1=>⟨(by show 2<=sizeLine;decide),λt2 g2=>⟨(by show 3<=sizeLine;decide),λlo go=>?_⟩⟩⟩
 have w1:=qd_ g1 (.tup [V.int 1,V.int 2])
 have w2:=qd_ g2 (.tup [V.int 5,V.int 4])
 have w3:=qd_ go (.lst [V.ref bk,V.ref t1,V.ref t2])
 have w:=w1.trans (w2.trans w3)
 have bad:∀x∈[bk,t1,t2],BadAt (upd (upd (upd H3 t1 (.tup [V.int 1,V.int 2])) t2 (.tup [V.int 5,V.int 4])) lo (.lst [V.ref bk,V.ref t1,V.ref t2])) x/\x≠lt:=λx hx=>by
  simp only[AN,Bg,or_false]at hx
  rcases hx with rfl|rfl|rfl
  ·exact⟨(hbs3 _ mbk).mono w,nbl _ mbk⟩
  ·refine⟨⟨[1,2],(w2.trans w3) _ _ qc_,by decide,by decide⟩,λz=>?_⟩
   rw[z,hlt]at g1
   cases g1
  ·refine⟨⟨[5,4],w3 _ _ qc_,by decide,by decide⟩,λz=>?_⟩
   rw[z,w1 _ _ hlt]at g2
   cases g2
 have hlo:upd (upd (upd H3 t1 (.tup [V.int 1,V.int 2])) t2 (.tup [V.int 5,V.int 4])) lo (.lst [V.ref bk,V.ref t1,V.ref t2]) lo=some (.lst [V.ref bk,V.ref t1,V.ref t2]):=qc_
 have nlo:lo≠lt:=λz=>by
  rw[z,w2 _ _ (w1 _ _ hlt)]at go
  cases go
 have hlt4:=w _ _ hlt
 have hlb4:=w _ _ hlb3
 have z4:=z3.trans w
 refine⟨lo,rfl,⟨_,SqL.of hlo⟩,?_⟩
 have hbk4:=bad bk (AD ..)
 show ∃W:Nat->Nat->St->Hp->Prop,(∃m,W 0 m _ (upd (upd (upd H3 t1 (.tup [V.int 1,V.int 2])) t2 (.tup [V.int 5,V.int 4])) lo (.lst [V.ref bk,V.ref t1,V.ref t2])))/\_
 generalize upd (upd (upd H3 t1 (.tup [V.int 1,V.int 2])) t2 (.tup [V.int 5,V.int 4])) lo (.lst [V.ref bk,V.ref t1,V.ref t2])=H4 at *
 have a9:=(xh_ ra).1
 have o9:=(xh_ ro).1
 have r9:=(xh_ rr).1
 refine zk_ (xs:=[V.ref bk,V.ref t1,V.ref t2]) (λi σ H'=>(∃c6,σ=[some (.ref l),some (.int c),some (.int pl),some (.ref pr),some (.ref lb),some (.ref lt),c6])/\Same H H'/\(∀b o,b≠lt->H4 b=some o->H' b=some o)/\∃ys:List V,H' lt=some (.lst ys)/\ys.length=3/\∀v,ys.set pl v=[V.ref p1,V.ref p2,V.ref p3].set pl v) ?_ ?_ ?_ ?_
 ·exact⟨⟨_,rfl⟩,z4,λ_ _ _ e=>e,_,hlt4,rfl,λ_=>rfl⟩
 ·rintro i σ H5 _ ⟨_,_,k5,_⟩
  exact SqL.of (k5 _ _ nlo hlo)
 ·rintro i v σ H5 hv ⟨⟨c6,rfl⟩,s5,k5,ys,hys,ly,sy⟩
  obtain⟨b,rfl,hb⟩:∃b,v=.ref b/\b∈[bk,t1,t2]:=by
   have:([bk,t1,t2].map V.ref)[i]?=some v:=hv
   rw[Ac]at this
   cases e:[bk,t1,t2][i]? with
   |none=>rw[e]at this;cases this
   |some b=>rw[e]at this;exact⟨b,(AW this).symm,Ah e⟩
  obtain⟨⟨tb,htb,tb9,tbB⟩,nb⟩:=bad b hb
  refine⟨_,rfl,_,rfl,_,rfl,lt,ys,_,pl,rfl,rfl,hys,yz_ (by omega),?_⟩
  rw[sy]
  have s6:=jz_ fl s5 (.lst ([V.ref p1,V.ref p2,V.ref p3].set pl (V.ref b)))
  have k6:∀x o,x≠lt->H4 x=some o->upd H5 lt (.lst ([V.ref p1,V.ref p2,V.ref p3].set pl (V.ref b))) x=some o:=λx o ne e=>by rw[ql_ ne];exact k5 _ _ ne e
  have h6:upd H5 lt (.lst ([V.ref p1,V.ref p2,V.ref p3].set pl (V.ref b))) lt=some (.lst ([V.ref p1,V.ref p2,V.ref p3].set pl (V.ref b))):=qc_
  generalize upd H5 lt (.lst ([V.ref p1,V.ref p2,V.ref p3].set pl (V.ref b)))=H6 at *
  obtain⟨q1,q2,q3,a',o',r',eq,g1,g2,g3,l1,l2,l3,bd⟩:=ap3_ p3' (s6 _ _ h1) (s6 _ _ h2) (s6 _ _ h3) (by omega) (by omega) (by omega) ⟨tb,k6 _ _ nb htb,tb9,tbB⟩
  have h6':=h6
  rw[eq]at h6
  refine⟨_,rfl,lt,q1,q2,q3,a',o',r',rfl,h6,g1,g2,g3,l1,l2,l3,bd,λla Ga fa xa La=>?_⟩
  refine⟨(by show 1<=sizeLine;decide),λka hka=>?_⟩
  have ya:=qd_ hka (.lst [.str "row"])
  refine⟨la,ka,(["row"]:List Str),(["row"]:List Str),rfl,rfl,La.mono ya,⟨[.str "row"],qc_,.cons rfl .nil⟩,_,rfl,jK_ (by rw[q5_];rfl) ?_⟩
  have za:=xa.trans ya
  refine⟨⟨_,rfl⟩,s6.trans za,λx o ne e=>za _ _ (k6 _ _ ne e),_,za _ _ h6',by rw[DO];rfl,λv=>by rw[List.set_set]⟩
 rintro σ H5 ⟨⟨c6,rfl⟩,s5,k5,ys,hys,ly,sy⟩
 have hlb5:=k5 _ _ nlt hlb4
 obtain⟨⟨tb,htb,tb9,tbB⟩,nb⟩:=hbk4
 have htb5:=k5 _ _ nb htb
 refine⟨_,rfl,by decide,by decide,λbk' D hD=>?_⟩
 refine jo_ (α:=List Int) hD (λσ=>∃c',σ=[c',some (.ref lb),some (.int c)]) (λ(i:Nat)=>some tb) (small (by decide)) ?_ ?_ ?_
 ·exact⟨_,rfl⟩
 ·rintro i σ H6 Yes No hi ⟨c',rfl⟩ s6 yes no
  refine z7_ ?_
  exact⟨_,rfl,_,rfl,_,_,rfl,rfl,⟨by decide,by decide⟩,_,_,rfl,rfl,(by show(0:Int)<7;decide),lb,_,_,.ref bk,rfl,rfl,SqL.of (s6 _ _ hlb5),atb,yes _ _ _ _ ⟨_,rfl⟩ (Same.refl _) rfl (zR_ (s6 _ _ htb5))⟩
 rintro H6 s6 hD6
 have e3:(List.range ((3:Int)).toNat).filterMap (λ(i:Nat)=>some tb)=[tb,tb,tb]:=rfl
 rw[e3]at hD6
 obtain⟨us,eU,iU⟩:=hD6
 match us,iU with
 |[v1,v2,v3],.cons i1 (.cons i2 (.cons i3 .nil)) =>
 obtain⟨q1,rfl,g1⟩:=qO_ i1
 obtain⟨q2,rfl,g2⟩:=qO_ i2
 obtain⟨q3,rfl,g3⟩:=qO_ i3
 refine⟨D,q1,q2,q3,tb,tb,tb,rfl,eU,g1,g2,g3,tb9,tb9,tb9,by rw[tbB];rfl,λla Ga fa xa La=>?_⟩
 refine⟨(by show 1<=sizeLine;decide),λka hka=>?_⟩
 have ya:=qd_ hka (.lst [.str "row"])
 refine⟨la,ka,(["row"]:List Str),(["row"]:List Str),rfl,rfl,La.mono ya,⟨[.str "row"],qc_,.cons rfl .nil⟩,?_⟩
 rw[q5_]
 exact qQ _ (s5.trans (s6.trans (xa.trans ya)))
theorem vi_{X:Cx}{st:Stmt}{t:TS}(h:PS X st t):PS X st (λD σ H=>∃I:St->Hp->Prop,t { D with nx:=I } σ H/\∀σ' H',I σ' H'->D.nx σ' H'):=by
 intro pins s σ H D inv ⟨I,q1,q2⟩
 refine thn (h pins s σ H { D with nx:=I } inv q1) λfl s' e=>?_
 cases fl with
 |next=>obtain⟨σ',H',i,n⟩:=e;exact⟨σ',H',i,q2 _ _ n⟩
 |brk=>exact e
 |cont=>exact e
 |ret u=>exact e
def v7_(K:PySem.W.Frag):Sp:=λvs H Q _=>∃(a:Addr)(ns:List Int),vs=[.ref a]/\SqL K H a (ns.map V.int)/\ns.length<=63/\∀H',Q (.bl true) H'
abbrev nL:List Str:=["_law_script", "_law_cell_here", "_law_one", "_law_other", "_law_weight", "_law_third", "_law_found", "_law_k", "_law_within", "_law_kept"]
abbrev bL:List Str:=["_law_k", "_law_one", "_law_third"]
theorem ndL:bL.Nodup:=by decide +kernel
theorem scL:FnScope nL ["_law_script"] (qi_ sLaw):=⟨rfl,rfl,rfl,by decide +kernel,rfl,by decide +kernel,by decide +kernel⟩
theorem akr_{a r:List Int}(h:a.length<=r.length):decide (V.int (((List.range a.length).filterMap λ(i:Nat)=>if r.getD i 0<a.getD i 0 then some (i:Int) else none).length:Int)=V.int 0)=wiB a r:=by
 unfold wiB
 rw[decide_eq_true h,Bool.true_and,Cd h,Cw,decide_eq_true_eq,AI]
 constructor
 ·intro e i hi
  have e0:(((List.range a.length).filterMap λ(i:Nat)=>if r.getD i 0<a.getD i 0 then some (i:Int) else none).length:Int)=0:=by injection e
  have e2:((List.range a.length).filterMap λ(i:Nat)=>if r.getD i 0<a.getD i 0 then some (i:Int) else none)=[]:=BD.mp (by omega)
  have e1:=Dv.mp e2 i hi
  refine decide_eq_true (Int.not_lt.mp λc=>?_)
  rw[if_pos c]at e1
  cases e1
 ·intro e
  rw[Dv.mpr λi hi=>?_]
  ·rfl
  ·have:=of_decide_eq_true (e i hi)
   rw[if_neg (by omega)]
theorem aiv_{r:List Int}(h:r∈R4):r∈R8/\r.length<=4/\r.sum<=4:=by
 have:=AI.mp R4_8 r h
 simp only[AG,decide_eq_true_eq]at this
 exact⟨by simpa using this.1.1,this.1.2,this.2⟩
theorem aiy_{r:List Int}(h:r∈R8):∀x∈r,0<=x/\x<=8:=λx hx=>by
 have:=(xf_ (xh_ h).2.2).1 x hx
 omega
theorem aiz_{H:Hp}{us:List V}{F:List (List (List Int))}(i:Its H us F){k:Nat}(hk:k<us.length):∃p,atI us (k:Int)=some (.ref p)/\Dat.is H (.ref p) (F.getD k []):=by
 obtain⟨x,hx,hi⟩:=q4_ i (AE hk)
 obtain⟨p,ws,e,h2,i2⟩:=id hi
 refine⟨p,qW_ (by rw[AE hk,e]),?_⟩
 rw[AF,hx,<-e]
 exact hi
structure Fd(a b r:List Int)(F:List (List (List Int))):Prop where
 each:∀k,k<F.length->yw_ (F.getD k []) a r=true/\risB (F.getD k []) a r=true/\redB (F.getD k []) b=true
 asc:∀i,i+1<F.length->HT.lexL (F.getD i []) (F.getD (i+1) [])=true
 few:F.length<=1000
 off:r.sum≠a.sum+b.sum->F=[]
 nil:wiB a r=false->F=[]
 c4:r.sum=a.sum+b.sum->r.length<=4->cf (bfF 4 (prF 4 a b)) r=(F.length:Int)
 c8:r.sum=a.sum+b.sum->¬ r.length<=4->flt a∈R4/\flt b∈R4/\cf (bfF 4 (prF 4 (flt a) (flt b))) (flt r)=(F.length:Int)
theorem apf_{a b r:List Int}(ha:a∈R4)(hb:b∈R4)(hr:r∈R8):Fd a b r (if a.sum+b.sum=r.sum then q9_ a b r else []):=by
 by_cases c:a.sum+b.sum=r.sum
 ·rw[if_pos c]
  obtain⟨f,f4,f8⟩:=fnd ha hb hr c.symm
  refine⟨λk hk=>f.each _ ?_,f.asc,f.few,λz=>absurd c.symm z,f.nil,λ_=>f4,λ_=>f8⟩
  rw[AF,AE hk]
  exact Bp _
 ·rw[if_neg c]
  exact⟨λk hk=>absurd hk (Nat.not_lt_zero _),λi hi=>absurd hi (Nat.not_lt_zero _),by decide,λ_=>rfl,λ_=>rfl,λz=>absurd z.symm c,λz=>absurd z.symm c⟩
theorem aow_{ls:List (List Int)}{a r:List Int}(h:yw_ ls a r=true):ls.length=r.length/\∀l∈ls,l.length<=8:=by
 unfold yw_ linK at h
 simp only[AG,CK,decide_eq_true_eq,AI]at h
 refine⟨h.1,λl hl=>?_⟩
 obtain⟨k,hk,rfl⟩:=CW hl
 have:=(h.2 k (Ad.mpr (by omega))).1.1
 rwa [AF,AE hk]at this
theorem k_0:xI_ [] [] []=true/\q9_ [] [] []=[[]]:=by decide +kernel
theorem k_2:xI_ [2] [1] [1,1,1]=true/\q9_ [2] [1] [1,1,1]=[]:=by decide +kernel
theorem k_1:xI_ [1] [1] [2]=true/\q9_ [1] [1] [2]=[[[0]]]:=by decide +kernel
theorem ak0_(F:Fun K "law" "law" sLaw f fd)(GD:Has P w K mg base 13 "_law_drawn" pDr spDr)(GK:Has P w K mg base 13 "counted" pCt spCt)(GL:Has P w K mg base 13 "_law_lines" pLi spLi)(GR:Has P w K mg base 13 "_law_rises" pLi spRi)(GE:Has P w K mg base 13 "_law_read" pRd spRd)(GS:Has P w K mg base 13 "_law_share" pSh spSh)(GT:Has P w K mg base 13 "_law_flat" ["_law_row"] ail_)(GX:Has P w K mg base 13 "_law_refuses" pRf ai9_)
  (mi:mg "isinstance" = none) (ms:mg "sum" = none) (mn:mg "len" = none) (mr:mg "range" = none) (ml:mg "list" = none):FnOk P w K mg base CX0 14 f fd ["_law_script"] (v7_ K):=by
 refine F.ok scL (λvs H Q E h=>?_) (λcdv A outer s H vs Q E hr h=>?_)
 ·obtain⟨a,ns,rfl,_⟩:=h
  rfl
 obtain⟨a0,ns,rfl,hS,h63,q⟩:=h
 have hF:=BH (Bl (by decide:Dat.dep (List (List Int))+1<=64) _) hr.units
 have h3:=BH (Bl (by decide:3<=64) _) hr.units
 refine⟨_,(qe_ (qL_ Ao rfl (q0_ (jy_ ajf_ (pv 0) jQ_ (jN_ qf_))) (qk_ (i:=1) scL.nd rfl (Or.inl rfl)) (qe_ (qp_ (i:=2) scL.nd rfl (Or.inr rfl) (qr_ GD hr rfl (qa_ (qj_ zL_ (pv 1) qf_) (qa_ (qj_ z1_ (pv 1) qf_) qb_))))
  (qe_ (qp_ (i:=3) scL.nd rfl (Or.inl rfl) (qr_ GD hr rfl (qa_ (qj_ zL_ (pv 1) qf_) (qa_ (qj_ z1_ (qj_ zL_ (pv 1) qf_) qf_) qb_))))
  (qe_ (qp_ (i:=4) scL.nd rfl (Or.inl rfl) (qj_ zP_ (qh_ (zt_ rfl) rfl ms BJ (qa_ (pv 2) qb_)) (qh_ (zt_ rfl) rfl ms BJ (qa_ (pv 3) qb_))))
  (qe_ (vi_ (qD_ (qo_ v9_ (qj_ z1_ (qj_ zL_ (pv 1) qf_) qf_) qf_ (qn_ _)) (qg_ (qp_ (i:=4) scL.nd rfl (Or.inl rfl) (qj_ z1_ (qj_ zP_ (pv 4) qf_) qf_))) qt_))
  (qe_ (qp_ (i:=5) scL.nd rfl (Or.inr rfl) (qr_ GD hr rfl (qa_ (qj_ zL_ (pv 1) qf_) (qa_ (pv 4) qb_))))
  (qe_ (qp_ (i:=6) scL.nd rfl (Or.inl rfl) (qr_ GK hr rfl (qa_ (pv 2) (qa_ (pv 3) (qa_ (pv 5) qb_)))))
  (qe_ (qD_ (zQ_ (zd_ (qh_ z2_ rfl mi AU (qa_ (pv 6) (qa_ (jP_ (v:=.ty "list") rfl ml CD rfl) qb_))))) (qg_ (qq_ q3_)) qt_)
  (qe_ (qL_ Ao rfl (zA_ rfl mr (qa_ (qh_ qm_ rfl mn Al (qa_ (pv 6) qb_)) qb_)) (qk_ (i:=7) scL.nd rfl (Or.inl rfl)) (qe_ (qD_ (PW.pt (jl_ (zQ_ (zd_ (qr_ GL hr rfl (qa_ (qs_ qN_ (pv 6) (pv 7) (λ_ _=>rfl)) (qa_ (pv 2) (qa_ (pv 5) qb_)))))) (z4_ (zQ_ (zd_ (qr_ GR hr rfl (qa_ (qs_ qN_ (pv 6) (pv 7) (λ_ _=>rfl)) (qa_ (pv 2) (qa_ (pv 5) qb_))))))))) (qg_ (qq_ q3_)) qt_)
  (qg_ (qD_ (PW.pt (jl_ (zQ_ (zd_ (qr_ GE hr rfl (qa_ (qs_ qN_ (pv 6) (pv 7) (λ_ _=>rfl)) (qa_ (pv 3) qb_))))) (z4_ (PW.pt (xQ_ (qo_ zl_ (pv 7) qf_ (qn_ _)) (xp_ (zQ_ (qo_ (ajo_ h3) (qs_ qN_ (pv 6) (qj_ qU_ (pv 7) qf_) (λ_ _=>rfl)) (qs_ qN_ (pv 6) (pv 7) (λ_ _=>rfl)) (qn_ _))))))))) (qg_ (qq_ q3_)) qt_))))
  (qe_ (vi_ (qp_ (i:=8) scL.nd rfl (Or.inl rfl) (ae2_ (zX_ v5_ (qh_ qm_ rfl mn Al (qa_ (pv 2) qb_)) (qh_ qm_ rfl mn Al (qa_ (pv 5) qb_)) (qn_ _)) (agb_ (zX_ v9_ (qh_ qm_ rfl mn Al (qa_ (q8_ (N':=bL) (src:=[none,some 2,some 5]) rfl (zA_ rfl mr (qa_ (qh_ qm_ rfl mn Al (qa_ (pv 2) qb_)) qb_)) (zq_ (qi_ sLaw) nL (by decide +kernel)) (λb=>qk_ (i:=0) ndL rfl (Or.inl rfl)) (λb=>z6_ (qo_ zl_ (qs_ qB_ (pv 1) (pv 0) (λ_ _=>rfl)) (qs_ qB_ (pv 2) (pv 0) (λ_ _=>rfl)) (qn_ _))) (λb=>pv 0)) qb_)) qf_ (qn_ _))))))
  (qe_ (vi_ (qD_ (PW.pt (jl_ (qo_ xe_ (pv 4) (qj_ zP_ (qh_ (zt_ rfl) rfl ms BJ (qa_ (pv 2) qb_)) (qh_ (zt_ rfl) rfl ms BJ (qa_ (pv 3) qb_))) (qn_ _)) (z4_ (zQ_ (zd_ (pv 8)))))) (qg_ (qD_ (qo_ (xs_ (α:=List (List Int)) hF) (pv 6) (qE_ qb_) (qn_ _)) (qg_ (qq_ q3_)) qt_)) (qg_ (qD_ (PW.pt (xQ_ (qo_ v5_ (qh_ qm_ rfl mn Al (qa_ (pv 5) qb_)) qf_ (qn_ _)) (xp_ (qo_ xe_ (qh_ qm_ rfl mn Al (qa_ (pv 6) qb_)) (qr_ GS hr rfl (qa_ (pv 2) (qa_ (pv 3) (qa_ (pv 5) qb_)))) (qn_ _))))) (qg_ (qq_ q3_)) (qg_ (qD_ (qo_ zl_ (qh_ qm_ rfl mn Al (qa_ (pv 5) qb_)) qf_ (qn_ _)) (qg_ (qD_ (qo_ xe_ (qh_ qm_ rfl mn Al (qa_ (pv 6) qb_)) (qr_ GS hr rfl (qa_ (qr_ GT hr rfl (qa_ (pv 2) qb_)) (qa_ (qr_ GT hr rfl (qa_ (pv 3) qb_)) (qa_ (qr_ GT hr rfl (qa_ (pv 5) qb_)) qb_)))) (qn_ _)) (qg_ (qq_ q3_)) qt_)) qt_))))))
  (qe_ (qp_ (i:=9) scL.nd rfl (Or.inl rfl) (zC_ jY_ rfl ml CD (qa_ (pv 6) qb_)))
  (qe_ (zp_ (amr_ Br PySem.F.slot_list_clear PySem.F.type_list_clear ahk_ (pv 6)))
  (qg_ (qD_ (PW.pt (jl_ (zQ_ (zd_ (qr_ GX hr rfl (qa_ (qE_ (qa_ (pv 2) (qa_ (pv 3) (qa_ (pv 5) qb_)))) (qa_ (qj_ zL_ (pv 1) qf_) qb_))))) (z4_ (qo_ (xs_ (α:=List (List Int)) hF) (qr_ GK hr rfl (qa_ (pv 2) (qa_ (pv 3) (qa_ (pv 5) qb_)))) (pv 9) (qn_ _))))) (qg_ (qq_ q3_)) qt_)))))))))))))))
  (qe_ (qD_ (PW.pt (jl_ (qo_ (xs_ (α:=List (List Int)) hF) (qr_ GK hr rfl (qa_ (qu_ qb_) (qa_ (qu_ qb_) (qa_ (qu_ qb_) qb_)))) (qE_ (qa_ (qu_ qb_) qb_)) (qn_ _)) (z4_ (qo_ (xs_ (α:=List (List Int)) hF) (qr_ GK hr rfl (qa_ (qu_ (qa_ qf_ qb_)) (qa_ (qu_ (qa_ qf_ qb_)) (qa_ (qu_ (qa_ qf_ (qa_ qf_ (qa_ qf_ qb_)))) qb_)))) (qE_ qb_) (qn_ _))))) (qg_ (qq_ q3_)) qt_)
  (qg_ (qq_ (zX_ (aah_ (α:=List (List Int)) hF) (qr_ GK hr rfl (qa_ (qu_ (qa_ qf_ qb_)) (qa_ (qu_ (qa_ qf_ qb_)) (qa_ (qu_ (qa_ qf_ qb_)) qb_)))) (qE_ (qa_ (qu_ (qa_ (qu_ (qa_ qf_ qb_)) qb_)) qb_)) (qn_ _)))))),?_⟩
 refine⟨_,rfl,_,rfl,a0,_,rfl,hS,λlc hlc=>?_⟩
 have sp:=qd_ hlc (.lst (jx_ (ns.map V.int) none (some 4)))
 have allI:∀x∈jx_ (ns.map V.int) none (some 4),∃c:Int,x=.int c:=by
  intro x hx
  have hx:=B6 (BF hx)
  obtain⟨c,_,rfl⟩:=AV.mp hx
  exact⟨c,rfl⟩
 generalize jx_ (ns.map V.int) none (some 4)=cells at allI sp
 refine⟨lc,rfl,⟨_,SqL.of qc_⟩,?_⟩
 refine zk_ (xs:=cells) (λi σ H'=>(∃c1 c2 c3 c4 c5 c6 c7 c8 c9,σ=[some (.ref a0),c1,c2,c3,c4,c5,c6,c7,c8,c9])/\Same (upd H lc (.lst cells)) H') ?_ ?_ ?_ ?_
 ·exact⟨⟨_,_,_,_,_,_,_,_,_,rfl⟩,Same.refl _⟩
 ·rintro i σ H1 _ ⟨_,s1⟩
  exact SqL.of (s1 _ _ qc_)
 ·rintro i x σ H1 hx ⟨⟨c1,c2,c3,c4,c5,c6,c7,c8,c9,rfl⟩,s1⟩
  obtain⟨c,rfl⟩:=allI x (Ah hx)
  obtain⟨w1,hw1,w15⟩:∃w:Nat,c%5=w/\w<5:=by
   have h0:=B8 c (show(5:Int)≠0 by decide)
   have h1:=CJ c (show(0:Int)<5 by decide)
   exact⟨(c%5).toNat,by omega,by omega⟩
  obtain⟨w2,hw2,w25⟩:∃w:Nat,c / 5%5=w/\w<5:=by
   have h0:=B8 (c / 5) (show(5:Int)≠0 by decide)
   have h1:=CJ (c / 5) (show(0:Int)<5 by decide)
   exact⟨(c / 5%5).toNat,by omega,by omega⟩
  refine⟨_,rfl,_,_,rfl,rfl,⟨by decide,by decide⟩,_,rfl,_,_,rfl,rfl,(by show(0:Int)<5;decide),c / 25,w1,(by show [V.int (c / 25),V.int (c%5)]=_;rw[hw1]),by omega,λp a H2 s2 hp _ ea ra=>?_⟩
  have ra:=ra (by omega)
  refine⟨_,rfl,_,_,rfl,rfl,⟨by decide,by decide⟩,_,rfl,_,_,rfl,rfl,⟨by decide,by decide⟩,_,_,rfl,rfl,(by show(0:Int)<5;decide),c / 175,w2,(by show [V.int (c / 175),V.int (c / 5%5)]=_;rw[hw2]),by omega,λq0 b H3 s3 hq _ eb rb=>?_⟩
  have rb:=rb (by omega)
  have hp:=s3 _ _ hp
  have z3:=s1.trans (s2.trans s3)
  clear s1 s2 s3
  obtain⟨a8,al,as⟩:=aiv_ ra
  obtain⟨b8,bl,bs⟩:=aiv_ rb
  obtain⟨_,a0',aB⟩:=xh_ a8
  obtain⟨_,b0',bB⟩:=xh_ b8
  refine⟨_,rfl,p,a,rfl,SqT.of hp,_,rfl,q0,b,rfl,SqT.of hq,_,_,rfl,rfl,?_⟩
  show zy_ 4 (V.int (a.sum+b.sum)) _ _ _
  refine⟨λσ H'=>∃w:Nat,w<=8/\H3=H'/\σ=[some (.ref a0),some (.int c),some (.ref p),some (.ref q0),some (.int w),c5,c6,c7,c8,c9],?_,?_⟩
  ·refine⟨_,rfl,_,_,rfl,rfl,⟨by decide,by decide⟩,_,_,rfl,rfl,(by show(0:Int)<8;decide),rfl,_,rfl,?_⟩
   by_cases e5:V.int (c / 1225%8)=V.int 5
   ·refine zD_ e5 ⟨_,rfl,_,_,rfl,rfl,_,_,rfl,rfl,(by show(0:Int)<9;decide),?_⟩
    have h0:=B8 (a.sum+b.sum+1) (show(9:Int)≠0 by decide)
    have h1:=CJ (a.sum+b.sum+1) (show(0:Int)<9 by decide)
    refine⟨((a.sum+b.sum+1)%9).toNat,by omega,rfl,?_⟩
    rw[show((((a.sum+b.sum+1)%9).toNat:Nat):Int)=(a.sum+b.sum+1)%9 by omega]
    rfl
   ·refine za_ e5 ⟨(a.sum+b.sum).toNat,by omega,rfl,?_⟩
    rw[show(((a.sum+b.sum).toNat:Nat):Int)=a.sum+b.sum by omega]
    rfl
  rintro σ _ ⟨w,w8,rfl,rfl⟩
  refine⟨_,rfl,_,_,rfl,rfl,⟨by decide,by decide⟩,_,rfl,c / 9800,w,rfl,w8,λt r H4 s4 ht rr er _=>?_⟩
  have hp:=s4 _ _ hp
  have hq:=s4 _ _ hq
  have z4:=z3.trans s4
  clear z3 s4
  obtain⟨rl,r0,rB⟩:=xh_ rr
  have fd0:=apf_ ra rb rr
  have hcb:a.sum+b.sum=r.sum->xI_ a b r=true:=λe=>(fnd ra rb rr e.symm).1.cb
  refine⟨_,rfl,_,rfl,_,rfl,p,q0,t,a,b,r,rfl,hp,hq,ht,by rw[aB,bB,rB];rfl,by omega,by omega,by omega,hcb,λl H5 f5 s5 h5=>?_⟩
  have fl:upd H lc (.lst cells) l=none:=z4.free f5
  have hp5:=s5 _ _ hp
  have hq5:=s5 _ _ hq
  have ht5:=s5 _ _ ht
  have z5:=z4.trans s5
  obtain⟨FD,eFD⟩:∃F,(if a.sum+b.sum=r.sum then q9_ a b r else [])=F:=⟨_,rfl⟩
  rw[eFD]at h5 fd0
  obtain⟨us,eU,iU⟩:=h5
  have lu:=AT iU
  have few:=fd0.few
  refine⟨_,rfl,_,_,_,_,rfl,TyOf.lst eU,xH_ _ _,_,rfl,q6_ ?_⟩
  refine⟨_,rfl,l,_,rfl,.inl (SqL.of eU),_,rfl,by omega,by omega,?_⟩
  rw[At]
  refine jc_ (lo:=0) (n:=us.length) (λi σ H'=>(∃c7,σ=[some (.ref a0),some (.int c),some (.ref p),some (.ref q0),some (.int w),some (.ref t),some (.ref l),c7,c8,c9])/\Same H5 H') ?_ ?_ ?_
  ·exact⟨⟨_,rfl⟩,Same.refl _⟩
  ·rintro k σ H6 hk ⟨⟨c7,rfl⟩,s6⟩
   rw[CS]
   obtain⟨xa,atk,dk⟩:=aiz_ iU hk
   obtain⟨e1,e2,e3⟩:=fd0.each k (by omega)
   obtain⟨l1,l2⟩:=aow_ e1
   refine⟨_,rfl,_,rfl,l,_,_,.ref xa,rfl,rfl,SqL.of (s6 _ _ eU),atk,_,rfl,_,rfl,xa,p,t,_,a,r,rfl,Dat.mono (Tups.same s6) dk,s6 _ _ hp5,s6 _ _ ht5,e1,by omega,by omega,λH7 s7=>⟨_,rfl,q6_ ?_⟩⟩
   have s7:=s6.trans s7
   refine⟨_,rfl,_,rfl,l,_,_,.ref xa,rfl,rfl,SqL.of (s7 _ _ eU),atk,_,rfl,_,rfl,xa,p,t,_,a,r,rfl,Dat.mono (Tups.same s7) dk,s7 _ _ hp5,s7 _ _ ht5,l1,e2,by omega,by omega,aiy_ a8,aiy_ rr,λH8 s8=>⟨_,rfl,q6_ ?_⟩⟩
   have s8:=s7.trans s8
   refine⟨_,rfl,_,rfl,l,_,_,.ref xa,rfl,rfl,SqL.of (s8 _ _ eU),atk,_,rfl,xa,q0,_,b,rfl,Dat.mono (Tups.same s8) dk,s8 _ _ hq5,e3,l2,λH9 s9=>⟨_,rfl,q6_ ?_⟩⟩
   have s9:=s8.trans s9
   refine⟨_,rfl,_,_,rfl,rfl,_,rfl,?_⟩
   refine yD_ (λci hG=>?_) (q6_ ?_)
   ·obtain⟨j,rfl⟩:∃j,k=j+1:=⟨k-1,by omega⟩
    obtain⟨xb,atj,dj⟩:=aiz_ iU (show j<us.length by omega)
    have as:=fd0.asc j (by omega)
    refine⟨_,rfl,_,rfl,_,_,rfl,rfl,l,_,_,.ref xb,rfl,rfl,SqL.of (s9 _ _ eU),(by show atI us (((j+1:Nat):Int)-1)=_;rw[show((j+1:Nat):Int)-1=(j:Int) by omega];exact atj),_,rfl,_,rfl,l,_,_,.ref xa,rfl,rfl,SqL.of (s9 _ _ eU),atk,_,_,Dat.mono (Tups.same s9) dj,Dat.mono (Tups.same s9) dk,_,rfl,?_⟩
    rw[as]
    exact hG
   ·exact⟨⟨_,rfl⟩,s9⟩
  clear c7
  rintro σ H6 ⟨⟨c7,rfl⟩,s6⟩
  refine⟨λσ H'=>Same H6 H'/\σ=[some (.ref a0),some (.int c),some (.ref p),some (.ref q0),some (.int w),some (.ref t),some (.ref l),c7,some (.bl (wiB a r)),c9],?_,?_⟩
  ·refine⟨_,rfl,p,_,rfl,.inr (SqT.of (s6 _ _ hp5)),_,rfl,t,_,rfl,.inr (SqT.of (s6 _ _ ht5)),?_⟩
   refine⟨_,_,rfl,rfl,_,rfl,?_⟩
   rw[AA,AA]
   by_cases cl:(a.length:Int)<=r.length
   ·refine zD_ cl ?_
    refine⟨_,rfl,p,_,rfl,.inr (SqT.of (s6 _ _ hp5)),_,rfl,by rw[AA];omega,by rw[AA];omega,λbk D hD=>?_⟩
    rw[At,AA]
    refine jo_ (α:=Int) hD (λσ=>∃c',σ=[c',some (.ref p),some (.ref t)]) (λ(i:Nat)=>if r.getD i 0<a.getD i 0 then some (i:Int) else none) (small (by omega)) ?_ ?_ ?_
    ·exact⟨_,rfl⟩
    ·rintro j σ G Yes No hj ⟨c',rfl⟩ sG yes no
     rw[CS]
     refine⟨_,rfl,_,rfl,p,_,_,.int (a.getD j 0),rfl,rfl,SqT.of (sG _ _ (s6 _ _ hp5)),qQ_ (by omega),_,rfl,_,rfl,t,_,_,.int (r.getD j 0),rfl,rfl,SqT.of (sG _ _ (s6 _ _ ht5)),qQ_ (by omega),_,_,rfl,rfl,_,rfl,?_⟩
     by_cases c0:r.getD j 0<a.getD j 0
     ·exact zD_ c0 ⟨_,rfl,yes _ _ _ (j:Int) ⟨_,rfl⟩ (Same.refl _) (if_pos c0) rfl⟩
     ·exact za_ c0 (no _ _ ⟨_,rfl⟩ (Same.refl _) (if_neg c0))
    rintro G sG ⟨ws,eD,iD⟩
    rw[zF_ iD]at eD
    refine⟨D,_,rfl,.inl (SqL.of eD),rfl,?_⟩
    rw[AA,akr_ (by omega)]
    exact⟨sG,rfl⟩
   ·refine za_ cl ⟨Same.refl _,?_⟩
    have e:wiB a r=false:=by
     unfold wiB
     rw[decide_eq_false (by omega),EU]
    rw[e]
    rfl
  rintro σ H7 ⟨s7,rfl⟩
  have s7:=s6.trans s7
  clear s6
  have eU7:=s7 _ _ eU
  have iU7:=Its.mono (Tups.same s7) iU
  have hp7:=s7 _ _ hp5
  have hq7:=s7 _ _ hq5
  have ht7:=s7 _ _ ht5
  have nilI:FD=[]->∀{D:Ends}{σ:St}{X:Prop},(∀H',Same H7 H'->D.nx σ H')->σ=[some (.ref a0),some (.int c),some (.ref p),some (.ref q0),some (.int w),some (.ref t),some (.ref l),c7,some (.bl (wiB a r)),c9]->True:=λ_ _ _ _ _ _=>trivial
  clear nilI
  refine⟨λσ H'=>Same H7 H'/\σ=[some (.ref a0),some (.int c),some (.ref p),some (.ref q0),some (.int w),some (.ref t),some (.ref l),c7,some (.bl (wiB a r)),c9],?_,?_⟩
  ·refine⟨_,rfl,_,rfl,p,a,rfl,SqT.of hp7,_,rfl,q0,b,rfl,SqT.of hq7,_,_,rfl,rfl,rfl,_,rfl,?_⟩
   by_cases ew:(w:Int)=a.sum+b.sum
   case neg =>
    have e0:=fd0.off (by omega)
    refine apz_ (λz=>ew (by injection z)) ?_
    refine⟨_,rfl,(by show 0<=sizeLine;decide),λe9 g9=>?_⟩
    have v9:=qd_ g9 (.lst [])
    refine⟨l,e9,FD,[],rfl,rfl,(show LstAt H7 l FD from⟨us,eU7,iU7⟩).mono v9,⟨[],qc_,.nil⟩,_,rfl,?_⟩
    rw[e0,q5_]
    exact q6_ ⟨v9,rfl⟩
   refine apm_ (by rw[ew]) ?_
   refine⟨_,rfl,_,rfl,?_⟩
   by_cases cw:wiB a r=true
   case neg =>
    rw[D7]at cw
    have e0:=fd0.nil cw
    rw[cw]
    refine zY_ ?_
    refine⟨_,rfl,(by show 0<=sizeLine;decide),λe9 g9=>?_⟩
    have v9:=qd_ g9 (.lst [])
    refine⟨l,e9,FD,[],rfl,rfl,(show LstAt H7 l FD from⟨us,eU7,iU7⟩).mono v9,⟨[],qc_,.nil⟩,_,rfl,?_⟩
    rw[e0,q5_]
    exact q6_ ⟨v9,rfl⟩
   rw[cw]
   refine q6_ ?_
   refine⟨_,rfl,t,_,rfl,.inr (SqT.of ht7),_,_,rfl,rfl,_,rfl,?_⟩
   rw[AA]
   by_cases r4:(r.length:Int)<=4
   ·refine zD_ r4 ?_
    have c4:=fd0.c4 (by omega) (by omega)
    refine⟨_,rfl,l,_,rfl,.inl (SqL.of eU7),_,rfl,_,rfl,_,rfl,p,q0,t,a,b,r,rfl,hp7,hq7,ht7,ra,rb,λH8 s8=>?_⟩
    rw[c4,lu]
    refine⟨rfl,_,rfl,jK_ (by rw[decide_eq_true rfl];rfl) ?_⟩
    refine⟨_,rfl,t,_,rfl,.inr (SqT.of (s8 _ _ ht7)),_,_,rfl,rfl,_,rfl,?_⟩
    rw[AA]
    exact za_ (by omega) ⟨s8,rfl⟩
   ·refine za_ r4 ?_
    obtain⟨fa,fb,c8'⟩:=fd0.c8 (by omega) (by omega)
    refine⟨_,rfl,t,_,rfl,.inr (SqT.of ht7),_,_,rfl,rfl,_,rfl,?_⟩
    rw[AA]
    refine zD_ (by omega) ?_
    refine⟨_,rfl,l,_,rfl,.inl (SqL.of eU7),_,rfl,p,a,rfl,hp7,a8,λta G1 g1 ha1=>?_⟩
    refine⟨_,rfl,q0,b,rfl,g1 _ _ hq7,b8,λtb G2 g2 hb2=>?_⟩
    refine⟨_,rfl,t,r,rfl,g2 _ _ (g1 _ _ ht7),rr,λtr G3 g3 hr3=>?_⟩
    refine⟨ta,tb,tr,flt a,flt b,flt r,rfl,g3 _ _ (g2 _ _ ha1),g3 _ _ hb2,hr3,fa,fb,λG4 g4=>?_⟩
    rw[c8',lu]
    exact⟨rfl,_,rfl,jK_ (by rw[decide_eq_true rfl];rfl) ⟨g1.trans (g2.trans (g3.trans g4)),rfl⟩⟩
  rintro σ H8 ⟨s8,rfl⟩
  have s8:=s7.trans s8
  have z8:=z5.trans s8
  have eU8:=s8 _ _ eU
  have iU8:=Its.mono (Tups.same s8) iU
  refine⟨_,rfl,l,us,rfl,.inl (SqL.of eU8),λlk hk=>?_⟩
  have v1:=qd_ hk (.lst us)
  have nl:lk≠l:=λz=>by rw[z,eU8]at hk;cases hk
  have eU9:=v1 _ _ eU8
  refine⟨_,rfl,.inl ⟨rfl,_,SqL.of eU9⟩,l,us,rfl,rfl,eU9,?_⟩
  have t2:=act_ eU9 (.lst [])
  have hk2:upd (upd H8 lk (.lst us)) l (.lst []) lk=some (.lst us):=by rw[ql_ nl];exact qc_
  have iU9:=Its.mono t2 (Its.mono (Tups.same v1) iU8)
  have hp9:=t2 _ _ (v1 _ _ (s8 _ _ hp5))
  have hq9:=t2 _ _ (v1 _ _ (s8 _ _ hq5))
  have ht9:=t2 _ _ (v1 _ _ (s8 _ _ ht5))
  have z9:=jz_ fl (z8.trans v1) (.lst [])
  generalize upd (upd H8 lk (.lst us)) l (.lst [])=G9 at *
  refine⟨_,rfl,_,rfl,_,rfl,(by show 3<=sizeLine;decide),λl3 g3=>?_⟩
  have v3:=qd_ g3 (.lst [.ref p,.ref q0,.ref t])
  refine⟨_,rfl,_,_,rfl,rfl,⟨by decide,by decide⟩,l3,p,q0,t,a,b,r,c / 7,rfl,qc_,v3 _ _ hp9,v3 _ _ hq9,v3 _ _ ht9,a8,b8,rr,λG4 g4=>⟨_,rfl,q6_ ?_⟩⟩
  have v4:=v3.trans g4
  refine⟨_,rfl,_,rfl,_,rfl,p,q0,t,a,b,r,rfl,v4 _ _ hp9,v4 _ _ hq9,v4 _ _ ht9,by rw[aB,bB,rB];rfl,by omega,by omega,by omega,hcb,λl5 G5 _ g5 h5=>?_⟩
  rw[eFD]at h5
  refine⟨_,rfl,l5,lk,_,_,rfl,rfl,h5,(show LstAt G9 lk FD from⟨us,hk2,iU9⟩).mono (v4.trans g5),_,rfl,jK_ (by rw[q5_];rfl) ?_⟩
  exact⟨⟨_,_,_,_,_,_,_,_,_,rfl⟩,z9.trans (v4.trans g5)⟩
 rintro σ H1 ⟨⟨c1,c2,c3,c4,c5,c6,c7,c8,c9,rfl⟩,s1⟩
 refine⟨(by show 0<=sizeLine;decide),λt1 g1=>⟨(by show 0<=sizeLine;decide),λt2 g2=>⟨(by show 0<=sizeLine;decide),λt3 g3=>?_⟩⟩⟩
 have v1:=qd_ g1 (.tup [])
 have v2:=qd_ g2 (.tup [])
 have v3:=qd_ g3 (.tup [])
 refine⟨t1,t2,t3,[],[],[],rfl,v3 _ _ (v2 _ _ qc_),v3 _ _ qc_,qc_,rfl,by decide,by decide,by decide,λ_=>k_0.1,λl4 G4 _ w4 h4=>?_⟩
 rw[if_pos (by decide),k_0.2]at h4
 refine⟨(by show 0<=sizeLine;decide),λt5 g5=>⟨(by show 1<=sizeLine;decide),λl6 g6=>?_⟩⟩
 have v5:=qd_ g5 (.tup [])
 have v6:=qd_ g6 (.lst [.ref t5])
 refine⟨l4,l6,_,_,rfl,rfl,(h4.mono v5).mono v6,(⟨[.ref t5],qc_,.cons ⟨t5,[],rfl,v6 _ _ qc_,.nil⟩ .nil⟩:LstAt _ l6 ([[]]:List (List (List Int)))),_,rfl,jK_ (by rw[q5_];rfl) ?_⟩
 refine⟨(by show 1<=sizeLine;decide),λt1 g1=>⟨(by show 1<=sizeLine;decide),λt2 g2=>⟨(by show 3<=sizeLine;decide),λt3 g3=>?_⟩⟩⟩
 have v1:=qd_ g1 (.tup [.int 2])
 have v2:=qd_ g2 (.tup [.int 1])
 have v3:=qd_ g3 (.tup [.int 1,.int 1,.int 1])
 refine⟨t1,t2,t3,[2],[1],[1,1,1],rfl,v3 _ _ (v2 _ _ qc_),v3 _ _ qc_,qc_,by decide,by decide,by decide,by decide,λ_=>k_2.1,λl4 G4 _ w4 h4=>?_⟩
 rw[if_pos (by decide),k_2.2]at h4
 refine⟨(by show 0<=sizeLine;decide),λl6 g6=>?_⟩
 have v6:=qd_ g6 (.lst [])
 refine⟨l4,l6,_,_,rfl,rfl,h4.mono v6,(⟨[],qc_,.nil⟩:LstAt _ l6 ([]:List (List (List Int)))),_,rfl,jK_ (by rw[q5_];rfl) ?_⟩
 refine⟨(by show 1<=sizeLine;decide),λt1 g1=>⟨(by show 1<=sizeLine;decide),λt2 g2=>⟨(by show 1<=sizeLine;decide),λt3 g3=>?_⟩⟩⟩
 have v1:=qd_ g1 (.tup [.int 1])
 have v2:=qd_ g2 (.tup [.int 1])
 have v3:=qd_ g3 (.tup [.int 2])
 refine⟨t1,t2,t3,[1],[1],[2],rfl,v3 _ _ (v2 _ _ qc_),v3 _ _ qc_,qc_,by decide,by decide,by decide,by decide,λ_=>k_1.1,λl4 G4 _ w4 h4=>?_⟩
 rw[if_pos (by decide),k_1.2]at h4
 refine⟨(by show 1<=sizeLine;decide),λt5 g5=>⟨(by show 1<=sizeLine;decide),λt6 g6=>⟨(by show 1<=sizeLine;decide),λl7 g7=>?_⟩⟩⟩
 have v5:=qd_ g5 (.tup [.int 0])
 have v6:=qd_ g6 (.tup [.ref t5])
 have v7:=qd_ g7 (.lst [.ref t6])
 have r0:Dat.is (upd (upd (upd G4 t5 (.tup [.int 0])) t6 (.tup [.ref t5])) l7 (.lst [.ref t6])) (.ref t5) ([0]:List Int):=zR_ (v7 _ _ (v6 _ _ qc_))
 refine⟨l4,l7,_,_,rfl,rfl,((h4.mono v5).mono v6).mono v7,(⟨[.ref t6],qc_,.cons ⟨t6,[.ref t5],rfl,v7 _ _ qc_,.cons r0 .nil⟩ .nil⟩:LstAt _ l7 ([[[0]]]:List (List (List Int)))),?_⟩
 rw[q5_]
 exact q _
def FQ(K:PySem.W.Frag)(n:Str)(st:Stmt):Prop:=∃(f:Addr)(fd:FuncData),PySem.W.nsIn K mainGlobals n=some (some (.ref f))/\Fun K n n st f fd
theorem fq_mk{n:Str}{st:Stmt}{f:Addr}{oc:Value}{od an:Option Addr}{osl:Array (Option Value)}{kV doc pm cdv ct:Value}(a:PySem.W.nsIn K mainGlobals n=some (some (.ref f)))(l:K.lookup f=some ⟨oc,od,.func (PySem.W.fnOf n n (xq_ st) (jv_ st) (qi_ st) .none kV doc pm an cdv ct),osl⟩)
  (c:PySem.W.codeIn K cdv n=true) (k:PySem.W.keepIn K (.ref f)=true):FQ K n st:=⟨f,_,a,anu_ l c k⟩
theorem FQ.x{n:Str}{st:Stmt}{h:Heap}(q:FQ K n st)(X:K.In h)(G:h.Ns mainGlobals mg):∃f fd,Fun K n n st f fd/\PySem.W.keepIn K (.ref f)=true/\mg n=some (.ref f):=by
 obtain⟨f,fd,a,F⟩:=q
 exact⟨f,fd,F,F.kp,BC X G a⟩
theorem ajp_{K:PySem.W.Frag}{C:Addr}{ds:List Addr}{bs:List Bool}(h:Paired (λd b=>PySem.W.kitOne K (.ref C) (.ref d)=some b) ds bs):Says K C ds bs:=⟨AT h,λi d b h1 h2=>by
 obtain⟨b',e,q⟩:=Paired.get h h1
 rw[h2]at e
 cases e
 exact q⟩
structure TQ(K:PySem.W.Frag)(ds:List Addr)(C C0:Addr)(fl:List Bool):Prop where
 a:PySem.W.mroIn K C (.type "object")=some true
 b:PySem.W.mroIn K C (.type "BaseException")=some true
 c:PySem.W.findIn K (.ref C) "__class__" = some (some (.builtin "object.__class__"))
 d:PySem.W.findIn K (.ref C) "__getattribute__" = some (some (.builtin "BaseException.__getattribute__"))
 e:PySem.W.findIn K (.ref C) "__getattr__" = some none
 v:PySem.W.kitOne K (.ref C) (.type "ValueError")=some true
 w:PySem.W.kitOne K (.ref C) (.ref C0)=some true
 n:C≠C0
 s:Paired (λd b=>PySem.W.kitOne K (.ref C) (.ref d)=some b) ds fl
theorem TQ.told{ds:List Addr}{C C0:Addr}{fl:List Bool}(t:TQ K ds C C0 fl)(i:(PySem.W.clsIn K C).isSome=true):Told K ds C0 C fl:=⟨⟨t.a,t.b,t.c,t.d,t.e,i⟩,t.v,ajp_ t.s,t.w,t.n⟩
def HasX.lift{j k:Nat}{x:Str}{ps:List Str}{sp:Sp}(h:HasX P w K mg base j x ps sp)(le:j<=k):HasX P w K mg base k x ps sp:=⟨h.f,h.fd,h.ok.mono le,h.bd,h.kp,h.at_⟩
end
end L2.K62
namespace L2.K62
open PySem
open L2.Pl L2.Ev
theorem of1{α:Type}{C:List α->Prop}(h:∀a0,C [a0]):∀us:List α,us.length=1->C us
 |[a0],_=>h a0
theorem of2{α:Type}{C:List α->Prop}(h:∀a0 a1,C [a0,a1]):∀us:List α,us.length=2->C us
 |[a0,a1],_=>h a0 a1
theorem of3{α:Type}{C:List α->Prop}(h:∀a0 a1 a2,C [a0,a1,a2]):∀us:List α,us.length=3->C us
 |[a0,a1,a2],_=>h a0 a1 a2
theorem of4{α:Type}{C:List α->Prop}(h:∀a0 a1 a2 a3,C [a0,a1,a2,a3]):∀us:List α,us.length=4->C us
 |[a0,a1,a2,a3],_=>h a0 a1 a2 a3
theorem all_mk{l:PySem.W.OpenLaw}{w:World}{K:PySem.W.Frag}{h:Heap}{mg:Str->Option Value}{fa:Addr}(X:K.In h)(G:h.Ns mainGlobals mg)(hfa:mg "law" = some (.ref fa))
  (q1:FQ K "refuse_bad_count" sRc)
  (q2:FQ K "gathered" v4_)
  (q3:FQ K "refuse_bad_row" sRbr)
  (q4:FQ K "lines_from" sLf)
  (q5:FQ K "least_for_next" sLn)
  (q6:FQ K "with_next_line" sWn)
  (q7:FQ K "fillings" sFil)
  (q8:FQ K "powers_of" sPo)
  (q9:FQ K "filled_sum" sFs)
  (q10:FQ K "lies_within" sLw)
  (q11:FQ K "read_backward" sRb)
  (q12:FQ K "may_go_on" sGo)
  (q13:FQ K "counted" sCtd)
  (q14:FQ K "_law_rows" sRws)
  (q15:FQ K "_law_plain" y9_)
  (q16:FQ K "_law_times" sTim)
  (q17:FQ K "_law_put" sPut)
  (q18:FQ K "_law_called" ya_)
  (q19:FQ K "_law_drawn" sDr)
  (q20:FQ K "_law_flat" vh_)
  (q21:FQ K "_law_share" sSh)
  (q22:FQ K "_law_lines" sLi)
  (q23:FQ K "_law_rises" sRi)
  (q24:FQ K "_law_read" sRd)
  (q25:FQ K "_law_flags" sFlg)
  (q26:FQ K "_law_refuses" sRfs)
  (q27:FQ K "law" sLaw)
  {tk1:Tok} (g1:PySem.W.nsIn K mainGlobals "MOST_UNKNOWNS" = some (some (.int 4 tk1)))
  {tk2:Tok} (g2:PySem.W.nsIn K mainGlobals "MOST_TOGETHER" = some (some (.int 8 tk2)))
  {d0 d1 d2 d3 d4 d5 d6 d7 d8 d9 d10 d11 d12 d13:Addr}
  (y0:PySem.W.nsIn K mainGlobals "BadCount" = some (some (.ref d0)))
  (y1:PySem.W.nsIn K mainGlobals "BadPowers" = some (some (.ref d1)))
  (y2:PySem.W.nsIn K mainGlobals "TooGreat" = some (some (.ref d2)))
  (y3:PySem.W.nsIn K mainGlobals "BadRow" = some (some (.ref d3)))
  (y4:PySem.W.nsIn K mainGlobals "UnlikeWeights" = some (some (.ref d4)))
  (y5:PySem.W.nsIn K mainGlobals "TooLong" = some (some (.ref d5)))
  (y6:PySem.W.nsIn K mainGlobals "Uneven" = some (some (.ref d6)))
  (y7:PySem.W.nsIn K mainGlobals "NoKind" = some (some (.ref d7)))
  (y8:PySem.W.nsIn K mainGlobals "NotBy" = some (some (.ref d8)))
  (y9:PySem.W.nsIn K mainGlobals "NoText" = some (some (.ref d9)))
  (y10:PySem.W.nsIn K mainGlobals "NoLine" = some (some (.ref d10)))
  (y11:PySem.W.nsIn K mainGlobals "BadName" = some (some (.ref d11)))
  (y12:PySem.W.nsIn K mainGlobals "NoName" = some (some (.ref d12)))
  (y13:PySem.W.nsIn K mainGlobals "EvenError" = some (some (.ref d13)))
  (x0:PySem.W.excIn K d0 bmV "ValueError.__new__" = true)
  (x3:PySem.W.excIn K d3 bmV "ValueError.__new__" = true)
  (t0:TQ K [d0,d1,d2,d3,d4,d5,d6,d7,d8,d9,d10,d11,d12] d0 d13 [true,false,false,false,false,false,false,false,false,false,false,false,false])
  (t3:TQ K [d0,d1,d2,d3,d4,d5,d6,d7,d8,d9,d10,d11,d12] d3 d13 [false,false,false,true,false,false,false,false,false,false,false,false,false])
  (wE:PySem.W.kitOne K (.ref d13) (.type "BaseException")=some true)
  (z1:PySem.W.nsIn K mainGlobals "sorted" = some none)
  (z2:PySem.W.nsIn K mainGlobals "range" = some none)
  (z3:PySem.W.nsIn K mainGlobals "isinstance" = some none)
  (z4:PySem.W.nsIn K mainGlobals "int" = some none)
  (z5:PySem.W.nsIn K mainGlobals "bool" = some none)
  (z6:PySem.W.nsIn K mainGlobals "len" = some none)
  (z7:PySem.W.nsIn K mainGlobals "tuple" = some none)
  (z8:PySem.W.nsIn K mainGlobals "list" = some none)
  (z9:PySem.W.nsIn K mainGlobals "all" = some none)
  (z10:PySem.W.nsIn K mainGlobals "any" = some none)
  (z11:PySem.W.nsIn K mainGlobals "zip" = some none)
  (z12:PySem.W.nsIn K mainGlobals "sum" = some none)
  (z13:PySem.W.nsIn K mainGlobals "max" = some none)
  (z14:PySem.W.nsIn K mainGlobals "min" = some none)
  (z15:PySem.W.nsIn K mainGlobals "reversed" = some none)
  (z16:PySem.W.nsIn K mainGlobals "ValueError" = some none)
  : ∃fd:FuncData,(∀(s:Shared)(v:Value),BindsTo s fd ⟨[v],[]⟩ [("_law_script",v)])/\∀base:Heap,K.In base->base.Ns mainGlobals mg->FnOk l.prog w K mg base CX0 14 fa fd ["_law_script"] (v7_ K):=by
 obtain⟨f1,e1,F1,k1,A1⟩:=q1.x X G
 obtain⟨f2,e2,F2,k2,A2⟩:=q2.x X G
 obtain⟨f3,e3,F3,k3,A3⟩:=q3.x X G
 obtain⟨f4,e4,F4,k4,A4⟩:=q4.x X G
 obtain⟨f5,e5,F5,k5,A5⟩:=q5.x X G
 obtain⟨f6,e6,F6,k6,A6⟩:=q6.x X G
 obtain⟨f7,e7,F7,k7,A7⟩:=q7.x X G
 obtain⟨f8,e8,F8,k8,A8⟩:=q8.x X G
 obtain⟨f9,e9,F9,k9,A9⟩:=q9.x X G
 obtain⟨f10,e10,F10,k10,A10⟩:=q10.x X G
 obtain⟨f11,e11,F11,k11,A11⟩:=q11.x X G
 obtain⟨f12,e12,F12,k12,A12⟩:=q12.x X G
 obtain⟨f13,e13,F13,k13,A13⟩:=q13.x X G
 obtain⟨f14,e14,F14,k14,A14⟩:=q14.x X G
 obtain⟨f15,e15,F15,k15,A15⟩:=q15.x X G
 obtain⟨f16,e16,F16,k16,A16⟩:=q16.x X G
 obtain⟨f17,e17,F17,k17,A17⟩:=q17.x X G
 obtain⟨f18,e18,F18,k18,A18⟩:=q18.x X G
 obtain⟨f19,e19,F19,k19,A19⟩:=q19.x X G
 obtain⟨f20,e20,F20,k20,A20⟩:=q20.x X G
 obtain⟨f21,e21,F21,k21,A21⟩:=q21.x X G
 obtain⟨f22,e22,F22,k22,A22⟩:=q22.x X G
 obtain⟨f23,e23,F23,k23,A23⟩:=q23.x X G
 obtain⟨f24,e24,F24,k24,A24⟩:=q24.x X G
 obtain⟨f25,e25,F25,k25,A25⟩:=q25.x X G
 obtain⟨f26,e26,F26,k26,A26⟩:=q26.x X G
 obtain⟨f27,fd,a27,F27⟩:=q27
 have e:=hfa.symm.trans (BC X G a27)
 cases e
 have c_MOST_UNKNOWNS:=BC X G g1
 have c_MOST_TOGETHER:=BC X G g2
 have m_sorted:=Av X G z1
 have m_range:=Av X G z2
 have m_isinstance:=Av X G z3
 have m_int:=Av X G z4
 have m_bool:=Av X G z5
 have m_len:=Av X G z6
 have m_tuple:=Av X G z7
 have m_list:=Av X G z8
 have m_all:=Av X G z9
 have m_any:=Av X G z10
 have m_zip:=Av X G z11
 have m_sum:=Av X G z12
 have m_max:=Av X G z13
 have m_min:=Av X G z14
 have m_reversed:=Av X G z15
 have m_ValueError:=Av X G z16
 refine⟨fd,λs v=>?_,λbase _ _=>?_⟩
 ·obtain⟨_,_,_,_,_,_,_,_,_,rfl,_,_⟩:=F27.ex
  exact .of_eq rfl
 have T0:=t0.told (y6_ x0)
 have T3:=t3.told (y6_ x3)
 have M0:=BC X G y0
 have M1:=BC X G y1
 have M2:=BC X G y2
 have M3:=BC X G y3
 have M4:=BC X G y4
 have M5:=BC X G y5
 have M6:=BC X G y6
 have M7:=BC X G y7
 have M8:=BC X G y8
 have M9:=BC X G y9
 have M10:=BC X G y10
 have M11:=BC X G y11
 have M12:=BC X G y12
 have M13:=BC X G y13
 have G1:=Has.mk f1 e1 (alk_ (P:=l.prog) (w:=w) (base:=base) F1 c_MOST_UNKNOWNS) (F1.binds λ_ _ _ _ _ _=>of1 λ_=>rfl) k1 A1
 have G2:=Has.mk f2 e2 (aji_ (P:=l.prog) (w:=w) (base:=base) F2 m_sorted) (F2.binds λ_ _ _ _ _ _=>of1 λ_=>rfl) k2 A2
 have XB:=HasX.mk f3 e3 (aem_ (P:=l.prog) (w:=w) (base:=base) F3 c_MOST_TOGETHER ⟨M3,x3⟩ m_any m_zip m_sum) (F3.binds λ_ _ _ _ _ _=>of1 λ_=>rfl) k3 A3
 have G3:=Has.mk f3 e3 (aeo_ (aem_ (P:=l.prog) (w:=w) (base:=base) F3 c_MOST_TOGETHER ⟨M3,x3⟩ m_any m_zip m_sum)) (F3.binds λ_ _ _ _ _ _=>of1 λ_=>rfl) k3 A3
 have G4:=Has.mk f4 e4 (aqa_ (P:=l.prog) (w:=w) (base:=base) F4 m_range m_max) (F4.binds λ_ _ _ _ _ _=>of2 λ_ _=>rfl) k4 A4
 have G5:=Has.mk f5 e5 (aqf_ (P:=l.prog) (w:=w) (base:=base) F5 m_len m_tuple) (F5.binds λ_ _ _ _ _ _=>of3 λ_ _ _=>rfl) k5 A5
 have G6:=Has.mk f6 e6 (an5_ F6 (G4.lift (by decide)) (G5.lift (by decide))) (F6.binds λ_ _ _ _ _ _=>of4 λ_ _ _ _=>rfl) k6 A6
 have G7:=Has.mk f7 e7 (al7_ F7 (G3.lift (by decide)) (G1.lift (by decide)) (G6.lift (by decide)) m_len) (F7.binds λ_ _ _ _ _ _=>of2 λ_ _=>rfl) k7 A7
 have G8:=Has.mk f8 e8 (aqd_ (P:=l.prog) (w:=w) (base:=base) F8 m_tuple m_sum m_range) (F8.binds λ_ _ _ _ _ _=>of2 λ_ _=>rfl) k8 A8
 have G9:=Has.mk f9 e9 (aoo_ F9 (G2.lift (by decide)) (G8.lift (by decide)) (G7.lift (by decide))) (F9.binds λ_ _ _ _ _ _=>of2 λ_ _=>rfl) k9 A9
 have G10:=Has.mk f10 e10 (apc_ (P:=l.prog) (w:=w) (base:=base) F10 m_len m_all m_zip) (F10.binds λ_ _ _ _ _ _=>of2 λ_ _=>rfl) k10 A10
 have G11:=Has.mk f11 e11 (apd_ (P:=l.prog) (w:=w) (base:=base) F11 m_list m_reversed) (F11.binds λ_ _ _ _ _ _=>of1 λ_=>rfl) k11 A11
 have G12:=Has.mk f12 e12 (aog_ F12 (G11.lift (by decide)) m_len) (F12.binds λ_ _ _ _ _ _=>of2 λ_ _=>rfl) k12 A12
 have XK:=HasX.mk f13 e13 (ae5_ F13 (XB.lift (by decide)) (G10.lift (by decide)) (G6.lift (by decide)) (G12.lift (by decide)) m_len m_sum) (F13.binds λ_ _ _ _ _ _=>of3 λ_ _ _=>rfl) k13 A13
 have G13:=Has.mk f13 e13 (ahp_ (ae5_ F13 (XB.lift (by decide)) (G10.lift (by decide)) (G6.lift (by decide)) (G12.lift (by decide)) m_len m_sum)) (F13.binds λ_ _ _ _ _ _=>of3 λ_ _ _=>rfl) k13 A13
 have G14:=Has.mk f14 e14 (af7_ (P:=l.prog) (w:=w) (base:=base) F14 (F14.binds λ_ _ _ _ _ _=>of3 λ_ _ _=>rfl) A14 m_range m_min 9) (F14.binds λ_ _ _ _ _ _=>of3 λ_ _ _=>rfl) k14 A14
 have G15:=Has.mk f15 e15 (agv_ (P:=l.prog) (w:=w) (base:=base) F15 m_sorted) (F15.binds λ_ _ _ _ _ _=>of1 λ_=>rfl) k15 A15
 have G16:=Has.mk f16 e16 (amt_ F16 (G15.lift (by decide)) m_tuple m_zip) (F16.binds λ_ _ _ _ _ _=>of2 λ_ _=>rfl) k16 A16
 have G17:=Has.mk f17 e17 (ak4_ (P:=l.prog) (w:=w) (mg:=mg) (base:=base) F17) (F17.binds λ_ _ _ _ _ _=>of3 λ_ _ _=>rfl) k17 A17
 have G18:=Has.mk f18 e18 (aet_ (P:=l.prog) (w:=w) (base:=base) F18 m_isinstance m_zip m_ValueError M0 M1 M2 M3 M4 M5 M6 M7 M8 M9 M10 M11 M12) (F18.binds λ_ _ _ _ _ _=>of1 λ_=>rfl) k18 A18
 have G19:=Has.mk f19 e19 (apo_ F19 (G14.lift (by decide)) m_len) (F19.binds λ_ _ _ _ _ _=>of2 λ_ _=>rfl) k19 A19
 have G20:=Has.mk f20 e20 (anc_ (P:=l.prog) (w:=w) (base:=base) F20 m_tuple m_sum m_range m_len) (F20.binds λ_ _ _ _ _ _=>of1 λ_=>rfl) k20 A20
 have G21:=Has.mk f21 e21 (aqe_ F21 (G9.lift (by decide)) (G16.lift (by decide)) (G17.lift (by decide)) (G15.lift (by decide)) m_tuple) (F21.binds λ_ _ _ _ _ _=>of3 λ_ _ _=>rfl) k21 A21
 have G22:=Has.mk f22 e22 (aoc_ (P:=l.prog) (w:=w) (base:=base) F22 m_isinstance m_tuple m_int m_bool m_len m_range m_max) (F22.binds λ_ _ _ _ _ _=>of3 λ_ _ _=>rfl) k22 A22
 have G23:=Has.mk f23 e23 (ap0_ (P:=l.prog) (w:=w) (base:=base) F23 m_len m_range m_max) (F23.binds λ_ _ _ _ _ _=>of3 λ_ _ _=>rfl) k23 A23
 have G24:=Has.mk f24 e24 (aoz_ (P:=l.prog) (w:=w) (base:=base) F24 m_range m_reversed m_list) (F24.binds λ_ _ _ _ _ _=>of2 λ_ _=>rfl) k24 A24
 have G25:=Has.mk f25 e25 (ann_ F25 (XK.lift (by decide)) (G18.lift (by decide)) M13 wE T3) (F25.binds λ_ _ _ _ _ _=>of1 λ_=>rfl) k25 A25
 have G26:=Has.mk f26 e26 (akw_ F26 (G25.lift (by decide)) m_list m_range) (F26.binds λ_ _ _ _ _ _=>of2 λ_ _=>rfl) k26 A26
 exact ak0_ F27 (G19.lift (by decide)) (G13.lift (by decide)) (G22.lift (by decide)) (G23.lift (by decide)) (G24.lift (by decide)) (G21.lift (by decide)) (G20.lift (by decide)) (G26.lift (by decide)) m_isinstance m_sum m_len m_range m_list
theorem walk{l:PySem.W.OpenLaw}{q:Program}{loose:List Str}{XP:(Str->Option Value)->Heap->Prop}{YP:World->Heap->Prop}{d:DefRec}{K:Params->PySem.W.Frag}(hn:l.most=some 63)(hdf:d.params.defaults=[])
  (hY:∀(w:World)(h:Heap),YP w h->(K w.params).In h)
  (F:∀(w:World)(mg:Str->Option Value)(fa:Addr)(h:Heap),(K w.params).In h->h.Ns mainGlobals mg->mg d.name=some (.ref fa) ->
   ∃fd:FuncData,(∀(s:Shared)(u:Value),BindsTo s fd ⟨[u],[]⟩ [("_law_script",u)])/\∀base:Heap,(K w.params).In base->base.Ns mainGlobals mg->FnOk l.prog w (K w.params) mg base CX0 14 fa fd ["_law_script"] (v7_ (K w.params))) :
  PySem.W.WalkO q loose XP YP l.row.toRowW d [] (λf vs=>PySem.call f vs) :=
 L2.walk_of (n:=63) (k:=14) (x := "_law_script") (CX:=λ_=>CX0) (sp:=λw=>v7_ (K w.params)) hn (by decide) hdf ⟨rfl,by decide,by decide⟩ hY F (λ_ _ a ns hl _ hS=>⟨a,ns,rfl,hS,hl,λ_=>rfl⟩) λ_ _ _ _ _ z=>z
end L2.K62
namespace PySem.W.Fast
def tw10001065415686000611:=0
def tw10060670160773875608:=0
def tw10239000530574833253:=0
def tw10250647233246726908:=0
def tw10337630920182752533:=0
def tw10338203933825039694:=0
def tw1034434738731476752:=0
def tw10468985355511234132:=0
def tw10606112785951274706:=0
def tw10619744369886393375:=0
def tw10631347662310689710:=0
def tw10675202205412186511:=0
def tw10746789889243719278:=0
def tw1078988986303089292:=0
def tw10845735455417255121:=0
def tw1088884727635713171:=0
def tw10906305361536561604:=0
def tw10930016476337736193:=0
def tw10964302128405987242:=0
def tw11080877038373826558:=0
def tw11118288534485680413:=0
def tw11214755611372982053:=0
def tw11233640492390784813:=0
def tw11236931522322193406:=0
def tw11274603040877664092:=0
def tw11277501878646792614:=0
def tw11285107930406916600:=0
def tw11299309269807480670:=0
def tw11320955946038552467:=0
def tw11323363373405566020:=0
def tw11324932225978713205:=0
def tw11339697527579769350:=0
def tw11348755897573462650:=0
def tw11353940113231077398:=0
def tw11364591959841960836:=0
def tw11383862005971788479:=0
def tw11469374330201352472:=0
def tw11481041879584279120:=0
def tw11489969736613054729:=0
def tw1161249422236860574:=0
def tw1162698337059038208:=0
def tw11710595371378990122:=0
def tw11736884466341465743:=0
def tw11949129605632766772:=0
def tw11963461837964174618:=0
def tw11980993586565623678:=0
def tw11983069037432367155:=0
def tw1198621106511253569:=0
def tw11986720823076020260:=0
def tw12030005572553792975:=0
def tw12066267459113997162:=0
def tw12096614771025211364:=0
def tw12147650948216597110:=0
def tw12157005796711435976:=0
def tw1216541367683739971:=0
def tw12193262684110815462:=0
def tw12209682735033124756:=0
def tw12232571149487301040:=0
def tw12365199421572330704:=0
def tw12372479437702134450:=0
def tw12385539408956987498:=0
def tw12387834790334703966:=0
def tw12413177896332741587:=0
def tw12429949446172615160:=0
def tw12449189731307822171:=0
def tw12462789638861969697:=0
def tw12493671006442556201:=0
def tw12504237913084382782:=0
def tw12533512464827541792:=0
def tw12827359550803908756:=0
def tw12851573654182298174:=0
def tw12869619859715090237:=0
def tw12972175472872377600:=0
def tw12984679915946197965:=0
def tw13001640594909365842:=0
def tw13025181859912040938:=0
def tw130736353513768789:=0
def tw13162709028191355968:=0
def tw13314848973428752528:=0
def tw13350705218478324350:=0
def tw1341712399614032597:=0
def tw13442076091883923363:=0
def tw1346751820389823039:=0
def tw13510272761171165004:=0
def tw1353912097458740578:=0
def tw13589018195652654190:=0
def tw13664490401306364064:=0
def tw13704322316117820118:=0
def tw1373926091171112446:=0
def tw13770573818904086944:=0
def tw13828214990943498730:=0
def tw13853241858805211923:=0
def tw13931863352506893103:=0
def tw14082766653050361852:=0
def tw14137251793702397218:=0
def tw14139431743017623249:=0
def tw14145573389318339228:=0
def tw14212231466772676708:=0
def tw14262468901049672700:=0
def tw14299867021477770662:=0
def tw14318278881166415695:=0
def tw1433626131582721492:=0
def tw14337021659168375303:=0
def tw14369492686941582405:=0
def tw14378782101207942508:=0
def tw14402085512033135046:=0
def tw14479132194819631379:=0
def tw14522917575503873005:=0
def tw14540563261251013969:=0
def tw14569376363857361836:=0
def tw14580795256000271059:=0
def tw14660673313118264174:=0
def tw14661294470350855862:=0
def tw14686208371973222943:=0
def tw14740517160429064213:=0
def tw14870153537425623617:=0
def tw14889490354501853655:=0
def tw14954176319702554540:=0
def tw14979041121025772497:=0
def tw14994603353905049275:=0
def tw15008243303850980894:=0
def tw15092797713994183386:=0
def tw15131251422488748585:=0
def tw15132117653250324590:=0
def tw1517619096466126028:=0
def tw15195461790088317584:=0
def tw15198434663940446863:=0
def tw15203225365463082464:=0
def tw15212095599499715236:=0
def tw15217166308847161685:=0
def tw15380374292788063442:=0
def tw15393551739658705548:=0
def tw15480381261567601367:=0
def tw15582733658061752285:=0
def tw15628808225990748023:=0
def tw15707087067691464607:=0
def tw15738139794019017440:=0
def tw15742695461714451479:=0
def tw15756006784140793245:=0
def tw1578439228503031153:=0
def tw15839058219065826763:=0
def tw1584646100972839579:=0
def tw1588906793642540962:=0
def tw15925435625350899590:=0
def tw15979471996199273709:=0
def tw15988563918326692789:=0
def tw159905061403021514:=0
def tw16025256012741004624:=0
def tw16030028487163385994:=0
def tw16033448164056988379:=0
def tw16123827869188177075:=0
def tw16138571851441618192:=0
def tw1617267112063213299:=0
def tw1618386745701842548:=0
def tw16250253412317634410:=0
def tw16303438066879338147:=0
def tw16310455122445918251:=0
def tw16405953516388880578:=0
def tw16431400869561818553:=0
def tw1647327257982869317:=0
def tw16510950332876962939:=0
def tw16529527927211459579:=0
def tw16551948006984472084:=0
def tw16664589716701717234:=0
def tw16687366769905652510:=0
def tw16775735389202116304:=0
def tw16791323834137955905:=0
def tw16820638686765808179:=0
def tw1689508472028891657:=0
def tw16918432727891126788:=0
def tw16941090970627192121:=0
def tw17048702333347758987:=0
def tw17063602599060932406:=0
def tw17076807770165363549:=0
def tw17083693767271721717:=0
def tw17105081211746676968:=0
def tw17145182232308502184:=0
def tw17193241504017247640:=0
def tw17241034662758889907:=0
def tw17290627340262704787:=0
def tw1736107964521800504:=0
def tw17376399864495073525:=0
def tw17469843795422760797:=0
def tw17482326169190894693:=0
def tw17487869421329395708:=0
def tw17532790108077591495:=0
def tw17568191950107136384:=0
def tw17597577080136472701:=0
def tw17618414567299843090:=0
def tw17628379287111731121:=0
def tw17755079370751349846:=0
def tw17780925121914308231:=0
def tw17953764315214493534:=0
def tw17957692495043084575:=0
def tw17980779009926891483:=0
def tw17991447938107441022:=0
def tw17999347137791281232:=0
def tw18008280353632125953:=0
def tw1802170460626080118:=0
def tw18100102422572375860:=0
def tw18107684147390701759:=0
def tw18183295600904173456:=0
def tw18199650040852843915:=0
def tw18206126894325104007:=0
def tw1822442619857604584:=0
def tw18233894364434364184:=0
def tw1824440125027397865:=0
def tw18248180589931916080:=0
def tw18289067625231153267:=0
def tw1834203142513237008:=0
def tw18387846027679200099:=0
def tw18426302614189489642:=0
def tw1992269421557837578:=0
def tw2101740320791281399:=0
def tw212346972491266112:=0
def tw2217889864363164714:=0
def tw2380474793571221764:=0
def tw2394226042585184222:=0
def tw2486433014386519142:=0
def tw2594723095904091823:=0
def tw2609766370087167401:=0
def tw2625156216449339753:=0
def tw2806801403070761583:=0
def tw282267783137312414:=0
def tw2822708561044599811:=0
def tw2825691894480598129:=0
def tw2881024910509947961:=0
def tw3014445508908474360:=0
def tw3022893175800025561:=0
def tw3158237290943666200:=0
def tw3183865312682067920:=0
def tw3236858358277977257:=0
def tw3304992429132011024:=0
def tw3313071160444213782:=0
def tw3336592870325915681:=0
def tw342764944721004160:=0
def tw3494012133545143263:=0
def tw3554594055433121214:=0
def tw3581656903211959950:=0
def tw3604103866535068716:=0
def tw36541780045816726:=0
def tw3782036707415301423:=0
def tw3847269636439570037:=0
def tw3913285488129559755:=0
def tw3991850352082576266:=0
def tw4066598945273050574:=0
def tw40904868548456042:=0
def tw4106467363197683402:=0
def tw4134752359501102202:=0
def tw4144994400151497911:=0
def tw4284146768011892537:=0
def tw4295462109582918492:=0
def tw4312348872216772415:=0
def tw4341787053909674805:=0
def tw4396098688170128586:=0
def tw4451778053104267420:=0
def tw4488727339950260847:=0
def tw4519076180138027189:=0
def tw4542994590675545246:=0
def tw4569481598482590902:=0
def tw4609414380370153843:=0
def tw4619413618642926465:=0
def tw470717788019182375:=0
def tw4732782123553637988:=0
def tw4775097413199575843:=0
def tw4811956206960607827:=0
def tw4930058311867361295:=0
def tw5126546211426138351:=0
def tw5158597333390977147:=0
def tw5170422474860583585:=0
def tw5181601202556046525:=0
def tw5261464130152258457:=0
def tw5379561562643356150:=0
def tw5510529225115930453:=0
def tw5524314285561007565:=0
def tw5539575320056891253:=0
def tw5540750792897693741:=0
def tw5558662988859221314:=0
def tw566485173001167710:=0
def tw5718316000220227929:=0
def tw5735825093054446562:=0
def tw5748310508226645096:=0
def tw5748478702389865520:=0
def tw5797585383239267441:=0
def tw5928765319734567479:=0
def tw5978024062413245387:=0
def tw6027416424850264294:=0
def tw6070846543539282552:=0
def tw6114262244454916216:=0
def tw6179537796781882730:=0
def tw6187180551214179066:=0
def tw6198234277855965095:=0
def tw6211938940582099665:=0
def tw6217814137849632136:=0
def tw6260180026373859431:=0
def tw6287754756021595987:=0
def tw630359693001382027:=0
def tw6352128546462061616:=0
def tw6387975933423837057:=0
def tw6498456214361072682:=0
def tw6510953870977323152:=0
def tw6545976505766249062:=0
def tw6553636348200526070:=0
def tw6649870493452449326:=0
def tw6670771241955362348:=0
def tw6700583934777108217:=0
def tw6808797535055719383:=0
def tw6843424268471009683:=0
def tw6910321681642106272:=0
def tw6944926419983297831:=0
def tw6946210745591228303:=0
def tw7002671653361946192:=0
def tw7047191321921822495:=0
def tw7075423202407730478:=0
def tw7085864414526107011:=0
def tw717054696655411185:=0
def tw7216859904943489712:=0
def tw7287346572737929016:=0
def tw7333110917773685360:=0
def tw7367906908977552234:=0
def tw7474433665233636162:=0
def tw748527148023543678:=0
def tw7494006278764569631:=0
def tw7494766154260896517:=0
def tw7500514212855262982:=0
def tw7500764576944018834:=0
def tw7582511736078053863:=0
def tw7706638090737664479:=0
def tw7745931934657967831:=0
def tw7760814880833426722:=0
def tw783853388234254461:=0
def tw7838943247423841951:=0
def tw784837951986028483:=0
def tw7886207564345636025:=0
def tw7904021593965726060:=0
def tw7954151208451181443:=0
def tw805406192511804147:=0
def tw8060769466029578874:=0
def tw810750602694107942:=0
def tw8131020411697431750:=0
def tw8190327700120519528:=0
def tw8234286689013759067:=0
def tw8241264498879026718:=0
def tw8248599183427508695:=0
def tw8271298769764477814:=0
def tw8389912226425839087:=0
def tw846703879753278070:=0
def tw847235041123215573:=0
def tw848431292458218456:=0
def tw8488760932096388319:=0
def tw8501685957372172709:=0
def tw8510892697064249283:=0
def tw8540724582624428758:=0
def tw8591750008462528283:=0
def tw8667788054219951230:=0
def tw8701331766880236012:=0
def tw8735264805150202998:=0
def tw8738216793057738115:=0
def tw8742544028383687292:=0
def tw874339403936927623:=0
def tw8754294591694020570:=0
def tw8850124844985886439:=0
def tw8965583148133918679:=0
def tw9065273083120231118:=0
def tw9081789407073654352:=0
def tw9162936141580953152:=0
def tw9310962325834675785:=0
def tw9361106290717094876:=0
def tw9474713682491256698:=0
def tw9550143941143319627:=0
def tw9617468667800067151:=0
def tw9683001407016987769:=0
def tw9689764499235375198:=0
def tw9716905687422226532:=0
def tw9719248556346966937:=0
def tw9778741406246727109:=0
def tw9794121008203172412:=0
def tw9839066790319615496:=0
def tw9916077805003050183:=0
def tw992143592495431997:=0
def tw9921718913980669964:=0
end PySem.W.Fast
open PySem PySem.W PyProof.Rows
set_option maxRecDepth 100000 in
set_option maxHeartbeats 0 in
theorem PySem.Challenge.cw_evenform_k62_whole_fillings_that_count_holds : PySem.Challenge.rw_evenform_k62_whole_fillings_that_count.Holds := by
  w_on; o_law; k_head; (case hw => w_witness2)
  k_fill
  refine L2.K62.walk (l := PySem.Challenge.rw_evenform_k62_whole_fillings_that_count) rfl rfl (fun w h Y => PySem.W.kIn_of Y) ?F
  case F =>
    intro w mg fa h KX G hmg
    refine' L2.K62.all_mk KX G hmg ?q1 ?q2 ?q3 ?q4 ?q5 ?q6 ?q7 ?q8 ?q9 ?q10 ?q11 ?q12 ?q13 ?q14 ?q15 ?q16 ?q17 ?q18 ?q19 ?q20 ?q21 ?q22 ?q23 ?q24 ?q25 ?q26 ?q27 ?g1 ?g2 ?y0 ?y1 ?y2 ?y3 ?y4 ?y5 ?y6 ?y7 ?y8 ?y9 ?y10 ?y11 ?y12 ?y13 ?x0 ?x3 ?t0 ?t3 ?wE ?z1 ?z2 ?z3 ?z4 ?z5 ?z6 ?z7 ?z8 ?z9 ?z10 ?z11 ?z12 ?z13 ?z14 ?z15 ?z16
    all_goals try (refine' L2.K62.fq_mk ?a ?l ?c ?k; (case a => k_is); (case l => k_is); (case c => k_is); (case k => k_is))
    (case g1 => k_is)
    (case g2 => k_is)
    (case y0 => k_is)
    (case y1 => k_is)
    (case y2 => k_is)
    (case y3 => k_is)
    (case y4 => k_is)
    (case y5 => k_is)
    (case y6 => k_is)
    (case y7 => k_is)
    (case y8 => k_is)
    (case y9 => k_is)
    (case y10 => k_is)
    (case y11 => k_is)
    (case y12 => k_is)
    (case y13 => k_is)
    (case x0 => k_exc)
    (case x3 => k_exc)
    (case t0 => constructor; (case a => k_is); (case b => k_is); (case c => k_is); (case d => k_is); (case e => k_is); (case v => kit_is); (case w => kit_is); (case n => decide); (case s => (repeat (refine .cons (by kit_is) ?_)); exact .nil))
    (case t3 => constructor; (case a => k_is); (case b => k_is); (case c => k_is); (case d => k_is); (case e => k_is); (case v => kit_is); (case w => kit_is); (case n => decide); (case s => (repeat (refine .cons (by kit_is) ?_)); exact .nil))
    (case wE => kit_is)
    all_goals k_is
