import PyProof.Rows.All
import Wide.All
import OpenK.AllK
import Wide.FinOn
import Lean
import PyProof.EqAt
import PyProof.EqKinds
import PyProof.TupleCall
import PyProof.Rows.SortRuns
import PyProof.DictItems
import PyProof.DictWalks
import PyProof.CollectIter
import PyProof.Rows.SortRev
import KE.KSortTup
import KE.KDictList
import OpenK.KOwn
import PyProof.NsDelKeeps
import PyProof.RulesAs
import KE.KIsAll
import PyProof.ExcArgsOwn
import KE.KMinBuiltin
import PyProof.Draws
import PyProof.EnumMake
import PyProof.Rows.EnumRows
import PyProof.ListMulRoad
import PyProof.EqAt
import PyProof.Rows.StrJoinMade
import PyProof.Rows.StrJoin2
import PyProof.StrBlockG
import PyProof.SliceStr2
import PyProof.FString2
import PyProof.StrLaws
import PyProof.Rows.CatFin
import PyProof.StrCalls
import PyProof.StrCalls2
import PyProof.StrLawsChain
import PyProof.StrLawsTight
import PyProof.StrWalks
import PyProof.FString5
import PyProof.Rows.StrItems
import PyProof.Rows.StrSplitAre
import KE.KIntText
import PyProof.Rows.StrCut
import KE.KSortTup
import KE.KDictList
import KE.KItemsList
import PyProof.Rows.SortRev
import PyProof.DictItems
import PyProof.DictWalks
import PyProof.CollectIter
import PySem.Challenge.RW_evenform_k96_whole_texts_bent
set_option Elab.async false
set_option linter.all false
def AA:=@PySem.Heap.get?_push_of_some
def AB:=@Nat.le_refl
def AC:=@Array.getElem?_eq_getElem
def AD:=@List.mem_cons_of_mem
def AE:=@PySem.Heap.get?_push_size
def AF:=@List.length_map
def AG:=@PySem.Heap.lt_size
def AH:=@List.mem_cons_self
def AI:=@List.mem_cons
def AJ:=@Array.length_toList
def AK:=@List.getElem?_eq_getElem
def AL:=@Bool.false_ne_true
def AM:=@PyProof.Rows.boot_isinstance
def AN:=@List.length_cons
def AO:=@Nat.lt_of_lt_of_le
def AQ:=@List.length_append
def AR:=@List.append_assoc
def AS:=@List.size_toArray
def AT:=@Nat.ne_of_lt
def AU:=@Nat.zero_le
def AV:=@List.mem_append_right
def AW:=@List.take_of_length_le
def AX:=@Option.some.inj
def AY:=@List.getElem?_eq_some_iff
def AZ:=@Nat.le_trans
def Aa:=@List.mem_append
def Ab:=@List.map_cons
def Ac:=@List.getElem?_map
def Ad:=@List.mem_singleton
def Ae:=@Array.getElem?_eq_some_iff
def Af:=@PySem.W.mg_of
def Ag:=@Bool.false_eq_true
def Ah:=@PySem.Heap.get?_update_other
def Ai:=@PySem.Paired.length
def Aj:=@Array.getElem?_toList
def Al:=@PySem.W.mg_none_of
def Am:=@Array.toList_append
def An:=@Int.toNat_natCast
def Ao:=@List.filterMap_cons
def Ap:=@List.length_drop
def Aq:=@List.mem_of_getElem?
def Ar:=@List.pairwise_cons
def As:=@List.length_take
def At:=@List.Perm.append_right
def Au:=@PySem.boot_len
def Av:=@List.map_append
def Aw:=@List.not_mem_nil
def Ax:=@List.take_append_drop
def Ay:=@List.mem_append_left
def Az:=@List.mem_map
def A0:=@Int.emod_lt_of_pos
def BA:=@PySem.PassesOwn.never
def BB:=@List.drop_of_length_le
def BC:=@PySem.F.plainAttrs_str
def BD:=@List.sum_cons
def BE:=@Nat.le_of_lt
def BF:=@List.Perm.append_left
def BG:=@PyProof.Rows.boot_int
def BH:=@PySem.W.kia_one
def BI:=@Bool.and_eq_true
def BJ:=@Nat.lt_irrefl
def BK:=@List.getD_eq_getElem?_getD
def BL:=@PySem.F.excBase_ValueError
def BM:=@PySem.Heap.size_push
def BN:=@List.find?_cons
def BO:=@Int.emod_nonneg
def BP:=@Ne.symm
def BQ:=@List.perm_append_comm
def BR:=@PySem.F.slot_dict_itemiterator_next
def BS:=@List.filter_cons
def BU:=@List.lookup_cons
def BV:=@List.mem_of_mem_take
def BW:=@PySem.F.slot_dict_keyiterator_next
def BX:=@PyProof.Rows.boot_tuple
def BY:=@List.append_nil
def BZ:=@List.replicate_succ
def Ba:=@List.range_succ_eq_map
def Bb:=@Array.getElem?_eq_none
def Bc:=@PySem.Txt.slice_le
def Be:=@PySem.Heap.get?_update_self
def Bf:=@Nat.lt_of_le_of_lt
def Bg:=@PySem.Obj.data_mapFields
def Bh:=@Nat.ne_of_gt
def Bi:=@Bool.eq_iff_iff
def Bj:=@Array.toList_reverse
def Bl:=@List.length_filterMap_le
def Bm:=@PySem.F.slot_list_append
def Bn:=@PySem.F.type_list_append
def Bo:=@PySem.F.plainAttrs_list
def Bp:=@List.drop_zero
def Bq:=@PyProof.Rows.callWith_type1
def Br:=@PySem.F.slot_str_startswith
def Bt:=@PySem.F.type_str_startswith
def Bu:=@List.nodup_cons
def Bv:=@PySem.Obj.isFreed_of_fields
def Bw:=@Nat.min_eq_left
def Bx:=@PySem.F.slot_tuple_iterator_next
def By:=@List.pairwise_append
def Bz:=@List.mem_of_mem_drop
def B0:=@Nat.min_eq_right
def B1:=@PySem.mem_of_lookup
def B2:=@PySem.Heap.SameBut.update
def B3:=@List.range_succ
def B4:=@List.forIn_cons
def B5:=@List.getElem?_set_self
def B6:=@List.flatten_cons
def B7:=@Array.toList_push
def B8:=@List.reverse_reverse
def B9:=@List.getElem?_append_right
def CA:=@List.all_cons
def CB:=@List.any_cons
def CC:=@Nat.add_le_add_left
def CD:=@List.reverse_append
def CF:=@List.map_congr_left
def CG:=@List.takeWhile_cons
def CH:=@List.getElem?_append_left
def CI:=@List.length_nil
def CJ:=@List.foldl_cons
def CK:=@List.pairwise_iff_getElem
def CL:=@Array.size_setIfInBounds
def CM:=@List.filterMap_map
def CN:=@PySem.F.slot_str_getitem
def CO:=@PySem.Calls.callWith_builtin
def CP:=@PySem.Paired.snoc
def CQ:=@PySem.F.slot_str_split
def CS:=@PySem.F.type_str_split
def CT:=@List.getElem_mem
def CU:=@Nat.le_add_right
def CV:=@Option.bind_some
def CW:=@List.length_singleton
def CY:=@PySem.F.slot_dict_get
def CZ:=@List.filterMap_append
def Ca:=@PyProof.Rows.boot_sum
def Cb:=@Array.getElem?_setIfInBounds_ne
def Cc:=@PySem.F.args_dict_itemiterator_next_1
def Cd:=@PyProof.Rows.toString_length_le
def Ce:=@List.mem_filter
def Cf:=@List.getElem?_set_ne
def Cg:=@PySem.Calls.evalArgs_plain
def Ch:=@PySem.F.args_dict_keyiterator_next_1
def Ci:=@PySem.F.entry_dict_itemiterator_next
def Cj:=@List.map_map
def Ck:=@PySem.W.kat_nil
def Cm:=@PySem.F.slot_zip_next
def Cn:=@Nat.pow_le_pow_right
def Co:=@PySem.Heap.of_hide
def Cp:=@PySem.F.entry_dict_keyiterator_next
def Cq:=@PySem.W.hideAll_get
def Cr:=@PyProof.Rows.lt_int
def Cs:=@List.take_zero
def Ct:=@PySem.F.args_tuple_iterator_next_1
def Cu:=@List.dropLast_concat_getLast
def Cv:=@Nat.le_succ
def Cw:=@PySem.W.of_hideAll
def Cy:=@List.mem_filterMap
def Cz:=@PySem.Calls.spliced_cons
def C1:=@PySem.SeqAt.EqAt.int_int
def C2:=@List.zip_cons_cons
def C3:=@PySem.Heap.IsSliceOf.new
def C4:=@Array.size_extract
def C5:=@PySem.F.entry_tuple_iterator_next
def C6:=@List.sum_singleton
def C7:=@PySem.F.args_str_split_2
def C8:=@PySem.Calls.Name_function_global
def C9:=@Array.perm_iff_toList_perm
def DA:=@Nat.mul_lt_mul_of_pos_left
def DB:=@List.map_drop
def DC:=@List.reverse_cons
def DD:=@PySem.SeqAt.RcAt.tuples
def DE:=@PySem.Obj.cls_mapFields
def DF:=@List.pairwise_map
def DG:=@PySem.F.entry_str_split
def DH:=@List.getElem?_take_of_lt
def DI:=@List.drop_length
def DJ:=@Nat.sub_self
def DK:=@List.zipIdx_cons
def DL:=@PySem.W.kat_cons
def DM:=@PySem.Heap.size_update
def DN:=@Option.getD_some
def DO:=@List.all_eq_true
def DP:=@PySem.F.slot_str_split
def DQ:=@Nat.min_le_right
def DR:=@PySem.Heap.hide_ne
def DS:=@PySem.F.args_dict_get_3
def DT:=@PySem.F.plainAttrs_dict
def DU:=@Nat.add_sub_cancel_left
def DV:=@List.pairwise_singleton
def DW:=@PySem.F.plain_list_iadd
def DX:=@PyProof.Rows.part_short
def DY:=@List.of_mem_zip
def DZ:=@PySem.SeqAt.EqAt.same
def Da:=@PySem.W.kat_yes
def Db:=@PySem.W.kat_one
def Dc:=@List.sum_append
def Dd:=@PyProof.noPylong_small
def De:=@PySem.W.cellsFrom_some
def Df:=@Option.map_eq_some_iff
def Dg:=@PySem.F.entry_dict_get
def Dh:=@Array.getElem?_extract
def Di:=@List.getElem_cons_drop
def Dj:=@PySem.F.slot_dict_items_iter
def Dk:=@List.filterMap_eq_map'
def Dl:=@List.length_replicate
def Dm:=@Bool.and_false
def Dn:=@Array.mem_of_getElem?
def Do:=@List.set_append_right
def Dp:=@List.pairwise_and_iff
def Dq:=@PySem.W.kat_no
def Dr:=@List.forIn_nil
def Ds:=@PySem.StrLaws.glued_eq_join
def Dt:=@PySem.Heap.hide_self
def Du:=@PyProof.Rows.split_le
def Dv:=@PyProof.Rows.boot_str
def Dx:=@Prod.ext
def Dz:=@List.dropLast_concat
def D0:=@List.getLastD_concat
def D4:=@Bool.not_true
def D5:=@List.getElem_of_mem
def D6:=@List.take_succ_cons
def D7:=@List.filter_sublist
def D8:=@List.toList_toArray
def D9:=@List.dropWhile_cons
def EA:=@List.map_nil
def EB:=@Nat.mul_comm
def EC:=@Nat.sub_zero
set_option maxRecDepth 100000
namespace L2
open PySem PySem.Spec PyProof.Rows
abbrev Key:=Sum Int Str
def xz_:Key->Value->Bool
 |.inl k,v=>Value.isInt k v
 |.inr x,v=>Value.isStrOf x v
def keyH(w:World):Key->Int
 |.inl k=>hashInt k
 |.inr x=>hashStr w x
theorem qX_:∀{k:Key}{v:Value},xz_ k v=true->(∃i t,k=Sum.inl i/\v=Value.int i t)∨(∃x t,k=Sum.inr x/\v=Value.str x t)
 |.inl i,v,h=>by
  obtain⟨t,e⟩:=Value.isInt_shape (k:=i) (v:=v) h
  exact .inl ⟨i,t,rfl,e⟩
 |.inr x,v,h=>by
  obtain⟨t,e⟩:=Value.isStrOf_shape (x:=x) (v:=v) h
  exact .inr ⟨x,t,rfl,e⟩
theorem adk_(i:Int)(t:Tok):xz_ (.inl i) (.int i t)=true:=by simp [xz_,Value.isInt]
theorem ab1_(x:Str)(t:Tok):xz_ (.inr x) (.str x t)=true:=by simp [xz_,Value.isStrOf]
theorem aja_(a b:Int):decide ((Sum.inl a:Key)=Sum.inl b)=(a==b):=by
 by_cases e:a=b
 ·subst e;simp
 ·have h:¬ (Sum.inl a:Key)=Sum.inl b:=λq=>e (Sum.inl.inj q)
  rw[decide_eq_false h]
  exact(beq_eq_false_iff_ne.mpr e).symm
theorem aik_(a b:Str):decide ((Sum.inr a:Key)=Sum.inr b)=decide (a=b):=by
 by_cases e:a=b
 ·subst e;simp
 ·have h:¬ (Sum.inr a:Key)=Sum.inr b:=λq=>e (Sum.inr.inj q)
  rw[decide_eq_false h,decide_eq_false e]
theorem ahh_(a:Int)(b:Str):decide ((Sum.inl a:Key)=Sum.inr b)=false:=decide_eq_false (λq=>nomatch q)
theorem ai8_(a:Str)(b:Int):decide ((Sum.inr a:Key)=Sum.inl b)=false:=decide_eq_false (λq=>nomatch q)
def qS_(prog:Program)(w:World):PySem.KeyKind prog w Key where
 is:=xz_
 hash:=keyH w
 inj:=λv a b ha hb=>by
  rcases qX_ ha with⟨i,t,rfl,rfl⟩|⟨x,t,rfl,rfl⟩
  ·rcases qX_ hb with⟨j,u,rfl,e⟩|⟨y,u,rfl,e⟩
   ·injection e with e1 _;rw[e1]
   ·exact nomatch e
  ·rcases qX_ hb with⟨j,u,rfl,e⟩|⟨y,u,rfl,e⟩
   ·exact nomatch e
   ·injection e with e1 _;rw[e1]
 byValue:=λk v h=>by
  rcases qX_ h with⟨i,t,rfl,rfl⟩|⟨x,t,rfl,rfl⟩<;>rfl
 pyHash:=λhv h=>by
  rcases qX_ hv with⟨i,t,rfl,rfl⟩|⟨x,t,rfl,rfl⟩
  ·exact wpAny_pyHash_int h
  ·exact wpAny_pyHash_str h
 eqBool:=λhu hv h=>by
  rcases qX_ hu with⟨i,t,rfl,rfl⟩|⟨x,t,rfl,rfl⟩
  ·rcases qX_ hv with⟨j,u,rfl,rfl⟩|⟨y,u,rfl,rfl⟩
   ·rw[aja_]at h;exact wpAny_eqBool_int h
   ·rw[ahh_]at h;exact SeqAt.EqAt.int_str i t y u _ _ _ _ h
  ·rcases qX_ hv with⟨j,u,rfl,rfl⟩|⟨y,u,rfl,rfl⟩
   ·rw[ai8_]at h;exact SeqAt.EqAt.str_int x t j u _ _ _ _ h
   ·rw[aik_]at h;exact wpAny_eqBool_str h
 «strs»:=λk x t v h=>by
  rcases qX_ h with⟨i,u,rfl,e⟩|⟨y,u,rfl,e⟩
  ·exact nomatch e
  ·injection e with e1 _
   subst e1
   cases v<;>rfl
theorem vJ_(prog:Program)(w:World)(i:Int)(t:Tok):(qS_ prog w).is (.inl i) (.int i t)=true:=adk_ i t
theorem vP_(prog:Program)(w:World)(x:Str)(t:Tok):(qS_ prog w).is (.inr x) (.str x t)=true:=ab1_ x t
end L2
namespace L2
open PySem PySem.Spec PyProof.Rows
inductive V where
 |non|bl (b:Bool)|int (i:Int)|str (x:Str)|byt (b:Array UInt8)|flt (b:UInt64)|ref (a:Addr)|ty (n:String)
 deriving DecidableEq
def RelV:V->Value->Prop
 |.non,u=>u=Value.none
 |.bl b,u=>u=Value.bool b
 |.int i,u=>∃t,u=Value.int i t
 |.str x,u=>∃t,u=Value.str x t
 |.byt b,u=>∃t,u=Value.bytes b t
 |.flt b,u=>∃t,u=Value.float b t
 |.ref a,u=>u=Value.ref a
 |.ty n,u=>u=Value.type n
abbrev Vals:List V->List Value->Prop:=Paired RelV
theorem Vals.length{xs:List V}{us:List Value}(r:Vals xs us):xs.length=us.length:=Ai r
theorem Vals.get:∀{xs:List V}{us:List Value}{i:Nat}{x:V},Vals xs us->xs[i]?=some x->∃u,us[i]?=some u/\RelV x u
 |_,_,_,_,.nil,e=>by simp at e
 |_,_,0,_,.cons r _,e=>by simp at e;subst e;exact⟨_,rfl,r⟩
 |_,_,i+1,x,.cons _ t,e=>by
  obtain⟨u,h1,h2⟩:=Vals.get (i:=i) (x:=x) t (by simpa using e)
  exact⟨u,by simpa using h1,h2⟩
theorem Vals.set{x:V}{u:Value}(r:RelV x u):∀{xs:List V}{us:List Value}(i:Nat),Vals xs us->Vals (xs.set i x) (us.set i u)
 |_,_,_,.nil=>.nil
 |_,_,0,.cons _ t=>.cons r t
 |_,_,i+1,.cons q t=>.cons q (Vals.set r i t)
theorem Vals.append:∀{xs ys:List V}{us ws:List Value},Vals xs us->Vals ys ws->Vals (xs++ys) (us++ws)
 |_,_,_,_,.nil,s=>s
 |_,_,_,_,.cons r t,s=>.cons r (Vals.append t s)
theorem Vals.take:∀{xs:List V}{us:List Value}(n:Nat),Vals xs us->Vals (xs.take n) (us.take n)
 |_,_,0,_=>.nil
 |_,_,_+1,.nil=>.nil
 |_,_,n+1,.cons r t=>.cons r (Vals.take n t)
theorem Vals.drop:∀{xs:List V}{us:List Value}(n:Nat),Vals xs us->Vals (xs.drop n) (us.drop n)
 |_,_,0,r=>r
 |_,_,_+1,.nil=>.nil
 |_,_,n+1,.cons _ t=>Vals.drop n t
def RelO:Option V->Option Value->Prop
 |some v,some u=>RelV v u
 |none,none=>True
 |_,_=>False
def KV{κ:Type}:List (κ×V)->List (κ×Value)->Prop:=Paired λ(p:κ×V)(q:κ×Value)=>p.1=q.1/\RelV p.2 q.2
def kV:Key->V
 |.inl i=>.int i
 |.inr x=>.str x
inductive HO where
 |lst (xs:List V)
 |tup (xs:List V)
 |dK (kvs:List (Key×V))|dT (kvs:List (List Key×V))
 |set (S:Int->Bool) (n:Nat)
 |ins (C dx:Addr) (fs:List (Str×V))
 |own (x:Addr)
 |xd (fs:List (Str×V))
 |met (f x:Addr)
 |rng (lo hi:Int)
 |frz (o:Obj) (u:HO)
 |tbl (ps:Array Value)
 |ext (φ:Heap->Prop)
abbrev Hp:=Addr->Option HO
def upd(H:Hp)(a:Addr)(o:HO):Hp:=λb=>if b=a then some o else H b
theorem qd_{H:Hp}{a:Addr}{o:HO}:upd H a o a=some o:=by unfold upd;rw[if_pos rfl]
theorem ql_{H:Hp}{a b:Addr}{o:HO}(h:b≠a):upd H a o b=H b:=by unfold upd;rw[if_neg h]
theorem x2_{H:Hp}{a b:Addr}{o u:HO}(h:H a=some o)(h':H b=some u)(d:o≠u):a≠b:=by
 intro e;subst e;rw[h]at h';exact d (AX h')
theorem qv_{H:Hp}{a b:Addr}{o:HO}(h:H a=some o)(h':H b=none):a≠b:=by
 intro e;subst e;rw[h]at h';cases h'
def TupN(h:Heap)(a:Addr)(items:Array Value):Prop:=∃o,h.get? a=some o/\o.cls=.type "tuple" /\ ∃n,o.data=.seq items n/\o.dict=none
theorem TupN.tup{h:Heap}{a:Addr}{items:Array Value}(x:TupN h a items):IsTup h a items:=let ⟨o,e,c,n,d,_⟩:=x;⟨o,e,c,n,d⟩
theorem TupN.new(h:Heap)(items:Array Value):TupN (h.push { cls:=.type "tuple",data:=.seq items }) h.objs.size items:=⟨_,AE _ rfl,rfl,0,rfl,rfl⟩
section
variable(P:Program)(w:World)
def ObjOk(H:Hp)(h:Heap)(a:Addr):HO->Prop
 |.lst xs=>xs.length<=sizeLine/\∃(its:List Value)(n:Nat),Vals xs its/\h.get? a=some { cls:=.type "list",data:=.seq its.toArray n }
 |.tup xs=>xs.length<=sizeLine/\∃its:List Value,Vals xs its/\TupN h a its.toArray
 |.dK kvs=>kvs.length<=sizeLine/\(a==sysModules)=false/\∃vs,KV kvs vs/\h.DictOf (qS_ P w) a vs
 |.dT kvs=>kvs.length<=sizeLine/\(a==sysModules)=false/\∃xs:List (List Key×Addr×Value),
   Paired (λ(p:List Key×V)(q:List Key×Addr×Value)=>p.1=q.1/\H q.2.1=some (.tup (p.1.map kV))/\RelV p.2 q.2.2) kvs xs /\
   ∃o es ep,h.get? a=some o/\o.ExactDict/\o.data=.dict es ep/\es.toList=xs.map (entryOfKey (tupleKind (qS_ P w)))/\(xs.map (·.1)).Nodup
 |.set S n=>h.SetOf (intKind P w) a S n
 |.ins C dx fs=>H dx=some (.own a)/\fs.length<=1000/\dx≠a/\h.get? a=some (PySem.W.instObj C dx) /\
   ∃mA,h.Ns1 dx mA/\(∀f,RelO (fs.lookup f) (mA f))/\PySem.Within mA (fs.map (·.1))
 |.own _=>∃o,h.get? a=some o
 |.xd fs=>∃mA,h.Ns1 a mA/\∀f,RelO (fs.lookup f) (mA f)
 |.rng lo hi=>∃t u v,h.get? a=some { cls:=.type "range",data:=.fields #[.int lo t,.int hi u,.int 1 v] }
 |.frz o u=>h.get? a=some o/\ObjOk H h a u
 |.tbl ps=>h.get? a=some { cls:=.none,data:=.fields ps }
 |.met f x=>h.get? a=some (PySem.W.methodObj (.ref f) (.ref x))
 |.ext φ=>φ h/\(∃o,h.get? a=some o)/\∀h1 h2:Heap,φ h1->(∀o,h1.get? a=some o->h2.get? a=some o)->φ h2
def HOk(H:Hp)(h:Heap):Prop:=∀a o,H a=some o->ObjOk P w H h a o
end
section
variable{P:Program}{w:World}{H H':Hp}{h h':Heap}{a:Addr}{o:HO}
theorem ObjOk.lt(x:ObjOk P w H h a o):a<h.objs.size:=by
 cases o with
 |lst xs=>obtain⟨_,_,_,_,e⟩:=x;exact AG e
 |tup xs=>obtain⟨_,_,_,p⟩:=x;exact p.tup.lt
 |dK kvs=>obtain⟨_,_,_,_,o,_,_,e,_⟩:=x;exact AG e
 |dT kvs=>obtain⟨_,_,_,_,o,_,_,e,_⟩:=x;exact AG e
 |set S n=>obtain⟨o,_,_,_,e,_⟩:=x;exact AG e
 |ins C dx fs=>obtain⟨_,_,_,e,_⟩:=x;exact AG e
 |own y=>obtain⟨_,e⟩:=x;exact AG e
 |xd fs=>obtain⟨_,⟨_,_,_,e,_⟩,_⟩:=x;exact AG e
 |rng lo hi=>obtain⟨_,_,_,e⟩:=x;exact AG e
 |frz ob u=>obtain⟨e,_⟩:=x;exact AG e
 |tbl ps=>exact AG (show h.get? a=some _ from x)
 |met f y=>exact AG (show h.get? a=some _ from x)
 |ext φ=>obtain⟨_,⟨_,e⟩,_⟩:=x;exact AG e
theorem Paired.mapP{α β:Type}{F G:α->β->Prop}:∀{l₁:List α}{l₂:List β},Paired F l₁ l₂->(∀a b,F a b->G a b)->Paired G l₁ l₂
 |_,_,.nil,_=>.nil
 |_,_,.cons r t,f=>.cons (f _ _ r) (Paired.mapP t f)
theorem ObjOk.stay(x:ObjOk P w H h a o)(k:∀b u,(b=a∨H b=some (.own a))->h.get? b=some u->h'.get? b=some u)
  (ho:∀b,H b=some (.own a)->H' b=some (.own a)) (ht:∀b xs,H b=some (.tup xs)->H' b=some (.tup xs)):ObjOk P w H' h' a o:=by
 induction o with
 |lst xs=>obtain⟨z,its,n,r,e⟩:=x;exact⟨z,its,n,r,k _ _ (.inl rfl) e⟩
 |tup xs=>obtain⟨z,its,r,ob,e,c⟩:=x;exact⟨z,its,r,ob,k _ _ (.inl rfl) e,c⟩
 |dK kvs=>obtain⟨z,y,vs,r,ob,es,ep,e,c⟩:=x;exact⟨z,y,vs,r,ob,es,ep,k _ _ (.inl rfl) e,c⟩
 |dT kvs =>
  obtain⟨z,y,xs,r,ob,es,ep,e,c⟩:=x
  exact⟨z,y,xs,Paired.mapP r λp q z=>⟨z.1,ht _ _ z.2.1,z.2.2⟩,ob,es,ep,k _ _ (.inl rfl) e,c⟩
 |set S n=>obtain⟨ob,es,ep,t,e,c⟩:=x;exact⟨ob,es,ep,t,k _ _ (.inl rfl) e,c⟩
 |ins C dx fs =>
  obtain⟨d,z,ne,e,mA,⟨od,es,ep,e2,c⟩,r⟩:=x
  exact⟨ho _ d,z,ne,k _ _ (.inl rfl) e,mA,⟨od,es,ep,k _ _ (.inr d) e2,c⟩,r⟩
 |own y=>obtain⟨ob,e⟩:=x;exact⟨ob,k _ _ (.inl rfl) e⟩
 |xd fs=>obtain⟨mA,⟨od,es,ep,e,c⟩,r⟩:=x;exact⟨mA,⟨od,es,ep,k _ _ (.inl rfl) e,c⟩,r⟩
 |rng lo hi=>obtain⟨t,u,v,e⟩:=x;exact⟨t,u,v,k _ _ (.inl rfl) e⟩
 |frz ob u ih=>obtain⟨e,q⟩:=x;exact⟨k _ _ (.inl rfl) e,ih q⟩
 |tbl ps =>
  have e:h.get? a=some { cls:=.none,data:=.fields ps }:=x
  show h'.get? a=some { cls:=.none,data:=.fields ps }
  exact k a _ (.inl rfl) e
 |met f y =>
  have e:h.get? a=some (PySem.W.methodObj (.ref f) (.ref y)):=x
  show h'.get? a=some (PySem.W.methodObj (.ref f) (.ref y))
  exact k a _ (.inl rfl) e
 |ext φ=>obtain⟨p,⟨o,e⟩,st⟩:=x;exact⟨st _ _ p λo q=>k _ _ (.inl rfl) q,⟨o,k _ _ (.inl rfl) e⟩,st⟩
theorem HOk.lt(x:HOk P w H h)(e:H a=some o):a<h.objs.size:=(x a o e).lt
theorem HOk.fresh(x:HOk P w H h)(e:h.objs.size<=a):H a=none:=by
 cases q:H a with
 |none=>rfl
 |some u=>exact absurd (AO (x.lt q) e) (BJ _)
theorem HOk.kept(x:HOk P w H h)(k:∀b u,h.get? b=some u->h'.get? b=some u):HOk P w H h':=λa o e =>
 (x a o e).stay (λb u _ q=>k b u q) (λ_ q=>q) λ_ _ q=>q
theorem HOk.laid(x:HOk P w H h)(k:∀b u,h.get? b=some u->h'.get? b=some u)(hp:h.objs.size<=a)(new:ObjOk P w (upd H a o) h' a o):HOk P w (upd H a o) h':=λb u e=>by
 have hn:=x.fresh hp
 by_cases hb:b=a
 ·subst hb;rw[qd_]at e;cases e;exact new
 ·rw[ql_ hb]at e
  exact(x b u e).stay (λc v _ q=>k c v q) (λc q=>by rw[ql_ (qv_ q hn)];exact q) λc xs q=>by rw[ql_ (qv_ q hn)];exact q
end
def Rd(H:Hp)(a:Addr)(u:HO):Prop:=H a=some u∨∃o,H a=some (.frz o u)
theorem Rd.of{H:Hp}{a:Addr}{u:HO}(h:H a=some u):Rd H a u:=.inl h
theorem Rd.ok{P:Program}{w:World}{H:Hp}{h:Heap}{a:Addr}{u:HO}(r:Rd H a u)(x:HOk P w H h):ObjOk P w H h a u:=by
 rcases r with r|⟨o,r⟩
 ·exact x a u r
 ·obtain⟨_,q⟩:=x a _ r
  exact q
def Mut:Option HO->Prop
 |some (.lst _)=>True
 |some (.dK _)=>True
 |some (.dT _)=>True
 |some (.set _ _)=>True
 |some (.ins _ _ _)=>True
 |some (.ext _)=>True
 |_=>False
section
variable{P:Program}{w:World}{H:Hp}{h h':Heap}{x e:Addr}{o':HO}
theorem HOk.write(ok:HOk P w H h)(mu:Mut (H x))(he:e=x∨H e=some (.own x))(k:∀b u,b≠e->h.get? b=some u->h'.get? b=some u)(heo:∃u,h'.get? e=some u)
  (new:ObjOk P w (upd H x o') h' x o'):HOk P w (upd H x o') h':=λb u q=>by
 have nown:∀c y,H c=some (.own y)->c≠x:=λc y r z=>by subst z;rw[r]at mu;exact mu
 have ntup:∀c xs,H c=some (.tup xs)->c≠x:=λc xs r z=>by subst z;rw[r]at mu;exact mu
 by_cases hb:b=x
 ·subst hb;rw[qd_]at q;cases q;exact new
 ·rw[ql_ hb]at q
  by_cases hbe:b=e
  ·have q':H b=some (.own x):=by
    rcases he with z|z
    ·exact absurd (hbe.trans z) hb
    ·rw[hbe];exact z
   rw[q]at q';cases q'
   obtain⟨v,hv⟩:=heo
   exact⟨v,by rw[hbe];exact hv⟩
  ·refine(ok b u q).stay (λc v hc r=>k c v ?_ r) (λc r=>by rw[ql_ (nown c b r)];exact r) λc xs r=>by rw[ql_ (ntup c xs r)];exact r
   rcases hc with rfl|hc
   ·exact hbe
   ·rintro rfl
    rcases he with z|z
    ·exact nown c b hc z
    ·rw[hc]at z;cases z;exact hb rfl
end
structure Un(fs ex:List Addr)(H H':Hp)(h h':Heap):Prop where
 keep:∀b o,h.get? b=some o->H b=none->b∉fs->b∉ex->h'.get? b=some o
 slot:∀b o,h.get? b=some o->H b=none->b∈fs->b∉ex->∃sl,h'.get? b=some { o with slots:=sl }
 free:∀b o,h.get? b=some o->H b=none->b∉ex->H' b=none
 there:∀b o,h.get? b=some o->b∉ex->∃o',h'.get? b=some o'
 tups:∀b xs,H b=some (.tup xs)->H' b=some (.tup xs)
 frzs:∀b o u,H b=some (.frz o u)->H' b=some (.frz o u)
 tbls:∀b ps,H b=some (.tbl ps)->∃more,H' b=some (.tbl (ps++more))
section
variable{fs fs' ex ex':List Addr}{H H1 H2:Hp}{h h1 h2 h':Heap}{a x e:Addr}{o:HO}
theorem Un.any(u:Un fs ex H H1 h h1){b:Addr}{ob:Obj}(q:h.get? b=some ob)(n:H b=none)(hx:b∉ex):∃sl,h1.get? b=some { ob with slots:=sl }:=by
 by_cases hb:b∈fs
 ·exact u.slot b ob q n hb hx
 ·exact⟨ob.slots,u.keep b ob q n hb hx⟩
theorem Un.trans(a:Un fs ex H H1 h h1)(b:Un fs ex H1 H2 h1 h2):Un fs ex H H2 h h2 where
 keep:=λc ob q n hc hx=>b.keep c ob (a.keep c ob q n hc hx) (a.free c ob q n hx) hc hx
 slot:=λc ob q n hc hx=>by
  obtain⟨sl,e1⟩:=a.slot c ob q n hc hx
  obtain⟨sl',e2⟩:=b.slot c _ e1 (a.free c ob q n hx) hc hx
  exact⟨sl',e2⟩
 free:=λc ob q n hx=>by
  obtain⟨o',e1⟩:=a.there c ob q hx
  exact b.free c o' e1 (a.free c ob q n hx) hx
 there:=λc ob q hx=>by
  obtain⟨o',e1⟩:=a.there c ob q hx
  exact b.there c o' e1 hx
 tups:=λc xs q=>b.tups c xs (a.tups c xs q)
 frzs:=λc ob xs q=>b.frzs c ob xs (a.frzs c ob xs q)
 tbls:=λc ps q=>by
  obtain⟨m1,e1⟩:=a.tbls c ps q
  obtain⟨m2,e2⟩:=b.tbls c _ e1
  exact⟨m1++m2,by rw[e2,Array.append_assoc]⟩
theorem Un.kept(k:∀b u,h.get? b=some u->h'.get? b=some u):Un fs ex H H h h' :=
 ⟨λb ob q _ _ _=>k b ob q,λb ob q _ _ _=>⟨ob.slots,k b ob q⟩,λ_ _ _ n _=>n,λb ob q _=>⟨ob,k b ob q⟩,λ_ _ q=>q,λ_ _ _ q=>q,λ_ ps q=>⟨#[],by rw[q];simp⟩⟩
theorem Un.refl:Un fs ex H H h h:=Un.kept λ_ _ q=>q
theorem Un.laid(k:∀b u,h.get? b=some u->h'.get? b=some u)(hp:h.objs.size<=a)(hn:H a=none):Un fs ex H (upd H a o) h h' where
 keep:=λb u q _ _ _=>k b u q
 slot:=λb u q _ _ _=>⟨u.slots,k b u q⟩
 free:=λb u q n _=>by rw[ql_ (AT (AO (AG q) hp))];exact n
 there:=λb u q _=>⟨u,k b u q⟩
 tups:=λb xs q=>by rw[ql_ (qv_ q hn)];exact q
 frzs:=λb u xs q=>by rw[ql_ (qv_ q hn)];exact q
 tbls:=λb ps q=>⟨#[],by rw[ql_ (qv_ q hn),q];simp⟩
theorem Un.write(mu:Mut (H x))(he:e=x∨H e=some (.own x))(k:∀b u,b≠e->h.get? b=some u->h'.get? b=some u)(heo:∃u,h'.get? e=some u):Un fs ex H (upd H x o) h h':=by
 have hx:∀b,H b=none->b≠x:=λb n z=>by subst z;rw[n]at mu;exact mu
 have hb:∀b,H b=none->b≠e:=λb n z=>by
  subst z
  rcases he with r|r
  ·exact hx b n r
  ·rw[n]at r;cases r
 have hm:∀b u,H b=some u->¬ Mut (some u)->b≠x:=λb u q nm z=>by subst z;rw[q]at mu;exact nm mu
 refine⟨λb u q n _ _=>k b u (hb b n) q,λb u q n _ _=>⟨u.slots,k b u (hb b n) q⟩,λb u q n _=>by rw[ql_ (hx b n)];exact n,λb u q _=>?_,
  λb xs q=>by rw[ql_ (hm b _ q λz=>z)];exact q,λb u xs q=>by rw[ql_ (hm b _ q λz=>z)];exact q,λb ps q=>⟨#[],by rw[ql_ (hm b _ q λz=>z),q];simp⟩⟩
 by_cases hbe:b=e
 ·subst hbe;exact heo
 ·exact⟨u,k b u hbe q⟩
theorem Un.mono(u:Un fs ex H H1 h h1)(hs:∀b∈fs,b∈fs')(hx:∀b∈ex,b∈ex'):Un fs' ex' H H1 h h1 :=
 ⟨λb ob q n hb he=>u.keep b ob q n (λz=>hb (hs b z)) λz=>he (hx b z),λ_ _ q n _ he=>u.any q n λz=>he (hx _ z),λb ob q n he=>u.free b ob q n λz=>he (hx b z),λb ob q he=>u.there b ob q λz=>he (hx b z),u.tups,u.frzs,u.tbls⟩
end
def trk(h:Heap)(H:Hp):List Addr:=(List.range h.objs.size).filter λa=>(H a).isSome
def j9_(h:Heap)(H:Hp):Heap:=PySem.W.hideAll h (trk h H)
theorem acl_(h:Heap)(H:Hp):(j9_ h H).objs.size=h.objs.size:=PySem.W.hideAll_size _ _
theorem adq_{h:Heap}{H:Hp}{b:Addr}{o:Obj}(e:h.get? b=some o)(n:H b=none):(j9_ h H).get? b=some o :=
 Cq _ e λhm=>by
  have q:(H b).isSome=true:=(Ce.mp hm).2
  rw[n]at q;simp at q
theorem ag9_{h:Heap}{H:Hp}{b:Addr}{o:Obj}(e:(j9_ h H).get? b=some o):h.get? b=some o/\H b=none:=by
 have e':h.get? b=some o:=Cw (trk h H) e
 refine⟨e',?_⟩
 cases q:H b with
 |none=>rfl
 |some x =>
  have hm:b∈trk h H:=Ce.mpr ⟨List.mem_range.mpr (AG e'),by simp [q]⟩
  have z:(j9_ h H).get? b=none:=PySem.W.hideAll_none (trk h H) hm
  rw[z]at e;cases e
def agz_(g h:Heap)(L:Addr):List (Addr×Obj):=(List.range h.objs.size).filterMap λa=>if a=L∨(g.get? a).isSome=true then none else (h.get? a).map λo=>(a,o)
def zn_(g h:Heap)(L d:Addr):List (Addr×Obj):=(agz_ g h L).filter λp=>decide (p.1≠d)
end L2
namespace L2
open PySem PySem.Spec PyProof.Rows
structure Mod(K:PySem.W.Frag)(mg:Str->Option Value)(base:Heap):Prop where
 kin:K.In base
 glob:base.Ns mainGlobals mg
 blt:∃mb,base.Ns builtinsNs mb/\∀x:Str,x ≠ "__name__" -> mb x=bootBuiltins x
 nolimit:base.NoLimit
structure Cx where
 prog:Program
 w:World
 K:PySem.W.Frag
 mg:Str->Option Value
 base:Heap
 A:Around
 N:List Str
 s₀:Shared
 H₀:Hp
 env:Env
 outer:List Env
 stack:List Env
 ex:List Addr
 fn:Str->Bool
 calm:Bool
 pn:List (Addr×Obj)
 xe:Value->Shared->Prop
def frs(l:List Env):List Addr:=l.filterMap (·.frame)
abbrev Cx.fs(X:Cx):List Addr:=frs X.outer
def Vis(sc:Scope)(x:Str):Prop:=sc.names.lookup x=some .local∨sc.names.lookup x=some .cell∨sc.names.lookup x=some .free
def Loc(sc:Scope)(x:Str):Prop:=sc.names.lookup x=some .local∨sc.names.lookup x=some .cell
def Look(env:Env)(h:Heap)(m:Str->Option Value)(x:Str)(u:Value):Prop :=
 (env.kindOf x=some .local/\m x=some u)∨((env.kindOf x=some .cell∨env.kindOf x=some .free)/\∃c,env.cells.lookup x=some c/\h.IsCell c (some u))
structure Cx.Ok(X:Cx):Prop where
 mod:Mod X.K X.mg X.base
 kind:X.env.scope.kind=.function
 glob:X.env.globals=mainGlobals
 blt:X.env.builtins=builtinsNs
 above:X.s₀.heap.objs.size<=X.env.locals
 inj:∀x y c,X.env.cells.lookup x=some c->X.env.cells.lookup y=some c->x=y
 has:∀x,(X.env.kindOf x=some .cell∨X.env.kindOf x=some .free)->∃c,X.env.cells.lookup x=some c
 cab:∀x c,X.fn x=true->X.env.cells.lookup x=some c->X.s₀.heap.objs.size<=c
 hd:X.calm=true->X.A.handled=none
 frames:X.A.frames=some X.stack
 stk:X.stack=X.outer∨(X.stack=X.env::X.outer/\X.env.frame=some X.env.locals)
 exf:∀b∈X.ex,b≠X.env.locals/\∀x c,X.env.cells.lookup x=some c->c≠b
 bs:∀b o,X.base.get? b=some o->X.s₀.heap.get? b=some o/\X.H₀ b=none
 bsz:X.base.objs.size<=X.s₀.heap.objs.size
 noex:∀b o,X.base.get? b=some o->b∉X.ex
 exfs:∀b∈X.ex,b∉X.fs
 funs:X.s₀.heap.FunFrames X.base X.outer
 frf:∀b∈X.fs,X.H₀ b=none
structure Inv(X:Cx)(pins:List (Addr×Obj))(σ:List (Option V))(H:Hp)(s:Shared):Prop where
 ok:X.Ok
 os:s.os=X.s₀.os
 bare:AllBare s.gens
 base:Un X.fs X.ex X.H₀ H X.s₀.heap s.heap
 loc:∃m,s.heap.Ns X.env.locals m/\∀(i:Nat)(x:Str)(v:V),X.N[i]?=some x->σ[i]?=some (some v)->Vis X.env.scope x->∃u,RelV v u/\Look X.env s.heap m x u
 cell:∀x c,X.env.cells.lookup x=some c->∃v,s.heap.IsCell c v
 free:H X.env.locals=none
 freeC:∀x c,X.env.cells.lookup x=some c->H c=none
 pin:∀p∈X.pn++pins,s.heap.get? p.1=some p.2/\H p.1=none/\p.1≠X.env.locals/\p.1∉X.fs/\∀v,p.2.data≠.cell v
 hok:HOk X.prog X.w H s.heap
 len:σ.length=X.N.length
section
variable{X:Cx}{pins:List (Addr×Obj)}{σ:List (Option V)}{H H':Hp}{s:Shared}{h':Heap}
theorem Cx.Ok.nofr(ok:X.Ok){b:Addr}{o:Obj}(e:X.base.get? b=some o):b∉X.fs:=λhb=>by
 have:=(ok.funs.mem hb).1
 rw[e]at this;cases this
theorem Inv.bs(I:Inv X pins σ H s):∀b o,X.base.get? b=some o->s.heap.get? b=some o/\H b=none:=λb o e =>
 ⟨I.base.keep b o (I.ok.bs b o e).1 (I.ok.bs b o e).2 (I.ok.nofr e) (I.ok.noex b o e),I.base.free b o (I.ok.bs b o e).1 (I.ok.bs b o e).2 (I.ok.noex b o e)⟩
theorem Inv.bk(I:Inv X pins σ H s):∀b o,X.base.get? b=some o->s.heap.get? b=some o:=λb o e=>(I.bs b o e).1
theorem Inv.mod(I:Inv X pins σ H s):Mod X.K X.mg X.base:=I.ok.mod
theorem Inv.kIn(I:Inv X pins σ H s):X.K.In s.heap:=I.ok.mod.kin.keeps I.bk
theorem Inv.nolimit(I:Inv X pins σ H s):s.heap.NoLimit:=I.ok.mod.nolimit.keeps I.bk
theorem Inv.lt(I:Inv X pins σ H s):X.env.locals<s.heap.objs.size:=let ⟨_,hn,_⟩:=I.loc;hn.lt
theorem Inv.sz(I:Inv X pins σ H s):X.s₀.heap.objs.size<=s.heap.objs.size:=AZ I.ok.above (BE I.lt)
theorem Inv.nofs(I:Inv X pins σ H s){a:Addr}(h:s.heap.objs.size<=a):a∉X.fs:=λhb=>by
 obtain⟨_,o,ho,_⟩:=I.ok.funs.mem hb
 exact absurd (AO (AG ho) (AZ I.sz h)) (BJ _)
theorem Inv.cne(I:Inv X pins σ H s):∀x c,X.env.cells.lookup x=some c->c≠X.env.locals:=λx c e z=>by
 obtain⟨v,o,ho,hd⟩:=I.cell x c e
 obtain⟨m,⟨o',es,ep,ho',hd',_⟩,_⟩:=I.loc
 rw[z,ho']at ho;cases ho;rw[hd']at hd;cases hd
theorem Inv.funs(I:Inv X pins σ H s):s.heap.FunFrames X.base X.outer:=by
 have all:∀(l:List Env),(∀b∈frs l,b∈X.fs)->X.s₀.heap.FunFrames X.base l->s.heap.FunFrames X.base l:=by
  intro l
  induction l with
  |nil=>intro _ _;trivial
  |cons env r ih =>
   intro hs hl
   obtain⟨hk,⟨L,o,hf,hn,ho,hd⟩,hr⟩:=hl
   have hL:L∈X.fs:=hs L (by unfold frs;rw[Ao,hf];exact AH)
   obtain⟨sl,e⟩:=I.base.slot L o ho (I.ok.frf L hL) hL λz=>I.ok.exfs L z hL
   exact⟨hk,⟨L,_,hf,hn,e,hd⟩,ih (λb hb=>hs b (by unfold frs;rw[Ao,hf];exact AD _ hb)) hr⟩
 exact all X.outer (λ_ hb=>hb) I.ok.funs
theorem Inv.stack(I:Inv X pins σ H s):s.heap.FunFrames X.base X.stack:=by
 rcases I.ok.stk with e|⟨e,hf⟩
 ·rw[e];exact I.funs
 ·rw[e]
  obtain⟨m,hn,_⟩:=I.loc
  refine .cons (by rw[I.ok.kind];decide) hf hn ?_ I.funs
  exact Heap.get?_none_of_le (AZ I.ok.bsz I.ok.above)
theorem Inv.stkSub(I:Inv X pins σ H s):∀b∈frs X.stack,b∈X.env.locals::X.fs:=λb hb=>by
 rcases I.ok.stk with e|⟨e,hf⟩
 ·rw[e]at hb;exact AD _ hb
 ·rw[e]at hb
  unfold frs at hb
  rw[Ao,hf]at hb
  exact hb
theorem Inv.stkFree(I:Inv X pins σ H s):∀b∈frs X.stack,H b=none:=λb hb=>by
 rcases AI.mp (I.stkSub b hb) with e|hb
 ·rw[e];exact I.free
 ·obtain⟨_,o,ho,_⟩:=I.ok.funs.mem hb
  exact I.base.free b o ho (I.ok.frf b hb) λz=>I.ok.exfs b z hb
theorem Inv.step{g':Array GenState}{t':Nat}{d':Drawn}{ch:List Addr}(I:Inv X pins σ H s)
  (hch:∀b∈ch,(b∈X.ex∨X.s₀.heap.objs.size<=b)/\b≠X.env.locals/\(∀x c,X.env.cells.lookup x=some c->c≠b)/\∀p∈X.pn++pins,p.1≠b)
  (keep:∀b o,b≠X.env.locals->b∉X.fs->b∉ch->s.heap.get? b=some o->H b=none->h'.get? b=some o)
  (slot:∀b o,b≠X.env.locals->b∈X.fs->b∉ch->s.heap.get? b=some o->H b=none->∃sl,h'.get? b=some { o with slots:=sl }) (free:∀b o,b∉ch->s.heap.get? b=some o->H b=none->H' b=none)
  (there:∀b o,b∉ch->s.heap.get? b=some o->∃o',h'.get? b=some o')
  (tups:∀b xs,H b=some (.tup xs)->H' b=some (.tup xs)) (frzs:∀b o u,H b=some (.frz o u)->H' b=some (.frz o u)) (tbls:∀b ps,H b=some (.tbl ps)->∃more,H' b=some (.tbl (ps++more)))
  (ns:∀m,s.heap.Ns X.env.locals m->h'.Ns X.env.locals m) (hok:HOk X.prog X.w H' h') (hg:AllBare g') :
  Inv X pins σ H' { s with heap:=h',gens:=g',drawn:=d',toks:=t' }:=by
 have neL:∀b o,X.s₀.heap.get? b=some o->b≠X.env.locals:=λb o e=>AT (AO (AG e) I.ok.above)
 have neC:∀b o,X.s₀.heap.get? b=some o->b∉X.ex->b∉ch:=λb o e hx hb=>by
  rcases (hch b hb).1 with z|z
  ·exact hx z
  ·exact absurd (AO (AG e) z) (BJ _)
 have cellK:∀x c,X.env.cells.lookup x=some c->∀v,s.heap.IsCell c v->h'.IsCell c v:=λx c e v ⟨o,ho,hd⟩=>by
  have nch:c∉ch:=λz=>(hch c z).2.2.1 x c e rfl
  by_cases hc:c∈X.fs
  ·obtain⟨sl,q⟩:=slot c o (I.cne x c e) hc nch ho (I.freeC x c e)
   exact⟨_,q,hd⟩
  ·exact⟨o,keep c o (I.cne x c e) hc nch ho (I.freeC x c e),hd⟩
 refine⟨I.ok,I.os,hg,⟨λb o e n hb hx=>?_,λb o e n hb hx=>?_,λb o e n hx=>?_,λb o e hx=>?_,λb xs e=>tups b xs (I.base.tups b xs e),λb o xs e=>frzs b o xs (I.base.frzs b o xs e),λb ps e=>?_⟩,?_,λx c e=>?_,?_,λx c e=>?_,λp hp=>?_,hok,I.len⟩
 ·exact keep b o (neL b o e) hb (neC b o e hx) (I.base.keep b o e n hb hx) (I.base.free b o e n hx)
 ·obtain⟨sl,e1⟩:=I.base.slot b o e n hb hx
  obtain⟨sl',e2⟩:=slot b _ (neL b o e) hb (neC b o e hx) e1 (I.base.free b o e n hx)
  exact⟨sl',e2⟩
 ·obtain⟨o',e1⟩:=I.base.there b o e hx
  exact free b o' (neC b o e hx) e1 (I.base.free b o e n hx)
 ·obtain⟨o',e1⟩:=I.base.there b o e hx
  exact there b o' (neC b o e hx) e1
 ·obtain⟨m1,e1⟩:=I.base.tbls b ps e
  obtain⟨m2,e2⟩:=tbls b _ e1
  exact⟨m1++m2,by rw[e2,Array.append_assoc]⟩
 ·obtain⟨m,hn,hl⟩:=I.loc
  refine⟨m,ns m hn,λi x v e1 e2 e3=>?_⟩
  obtain⟨u,r,l⟩:=hl i x v e1 e2 e3
  refine⟨u,r,?_⟩
  rcases l with l|⟨k,c,e,z⟩
  ·exact .inl l
  ·exact .inr ⟨k,c,e,cellK x c e _ z⟩
 ·obtain⟨v,z⟩:=I.cell x c e
  exact⟨v,cellK x c e v z⟩
 ·obtain⟨m,⟨o,_,_,ho,_⟩,_⟩:=I.loc
  exact free _ o (λz=>(hch _ z).2.1 rfl) ho I.free
 ·obtain⟨v,o,ho,hd⟩:=I.cell x c e
  exact free c o (λz=>(hch c z).2.2.1 x c e rfl) ho (I.freeC x c e)
 ·obtain⟨e,n,ne,nf,d⟩:=I.pin p hp
  have nch:p.1∉ch:=λz=>(hch p.1 z).2.2.2 p hp rfl
  exact⟨keep p.1 p.2 ne nf nch e n,free p.1 p.2 nch e n,ne,nf,d⟩
theorem Inv.un{t':Nat}(I:Inv X pins σ H s)(u:Un X.fs [] H H' s.heap h')(hok:HOk X.prog X.w H' h'):Inv X pins σ H' { s with heap:=h',toks:=t' }:=by
 obtain⟨m,⟨o,es,ep,ho,r⟩,_⟩:=id I.loc
 obtain⟨sl,hL⟩:=u.any ho I.free (by simp)
 exact I.step (g':=s.gens) (d':=s.drawn) (ch:=[]) (λ_ z=>nomatch z) (λb o _ hb _ e n=>u.keep b o e n hb (by simp)) (λb o _ hb _ e n=>u.slot b o e n hb (by simp)) (λb o _ e n=>u.free b o e n (by simp)) (λb o _ e=>u.there b o e (by simp)) u.tups u.frzs u.tbls (λm' hm=>by
  obtain⟨o',es',ep',ho',r'⟩:=hm
  rw[ho]at ho';cases ho'
  exact⟨_,es',ep',hL,r'⟩) hok I.bare
theorem Inv.call{g':Array GenState}{t':Nat}{d':Drawn}{ch:List Addr}(I:Inv X pins σ H s)(u:Un (frs X.stack) ch H H' s.heap h')(hok:HOk X.prog X.w H' h')(hg:AllBare g')
  (hch:∀b∈ch,(b∈X.ex∨X.s₀.heap.objs.size<=b)/\b≠X.env.locals/\(∀x c,X.env.cells.lookup x=some c->c≠b)/\∀p∈X.pn++pins,p.1≠b) :
  Inv X pins σ H' { s with heap:=h',gens:=g',drawn:=d',toks:=t' }:=by
 obtain⟨m,⟨o,es,ep,ho,r⟩,_⟩:=id I.loc
 obtain⟨sl,hL⟩:=u.any ho I.free λz=>(hch _ z).2.1 rfl
 exact I.step (ch:=ch) hch (λb o hL hb hc e n=>u.keep b o e n (λz=>(AI.mp (I.stkSub b z)).elim hL hb) hc) (λb o _ _ hc e n=>u.any e n hc) (λb o hc e n=>u.free b o e n hc) (λb o hc e=>u.there b o e hc) u.tups u.frzs u.tbls (λm' hm=>by
  obtain⟨o',es',ep',ho',r'⟩:=hm
  rw[ho]at ho';cases ho'
  exact⟨_,es',ep',hL,r'⟩) hok hg
theorem Inv.turned{t':Nat}{it:Addr}(I:Inv X pins σ H s)(k:∀b o,b≠it->s.heap.get? b=some o->h'.get? b=some o)(hn:H it=none)(hL:it≠X.env.locals)
  (h1:it∈X.ex∨X.s₀.heap.objs.size<=it) (h2:∀x c,X.env.cells.lookup x=some c->c≠it) (h3:∀p∈X.pn++pins,p.1≠it):Inv X pins σ H { s with heap:=h',toks:=t' }:=by
 have nit:∀b u,H b=some u->b≠it:=λb u e z=>by rw[z,hn]at e;cases e
 refine I.step (g':=s.gens) (d':=s.drawn) (ch:=[it]) (λb hb=>?_) (λb o _ _ hc e _=>k b o (λz=>hc (by simp [z])) e) (λb o _ _ hc e _=>⟨o.slots,k b o (λz=>hc (by simp [z])) e⟩) (λ_ _ _ _ n=>n)
  (λb o hc e=>⟨o,k b o (λz=>hc (by simp [z])) e⟩) (λ_ _ e=>e) (λ_ _ _ e=>e) (λb ps e=>⟨#[],by rw[e];simp⟩) (λm hm=>?_) (λb u e=>?_) I.bare
 ·have e:b=it:=by simpa using hb
  subst e
  exact⟨h1,hL,h2,h3⟩
 ·obtain⟨o,es,ep,ho,r⟩:=hm
  exact⟨o,es,ep,k _ o (BP hL) ho,r⟩
 ·refine(I.hok b u e).stay (λc v hc q=>k c v ?_ q) (λ_ q=>q) λ_ _ q=>q
  rcases hc with z|z
  ·rw[z];exact nit b u e
  ·exact nit c _ z
theorem Inv.tok(I:Inv X pins σ H s)(t:Nat):Inv X pins σ H { s with toks:=t }:=I.un (h':=s.heap) (t':=t) Un.refl I.hok
theorem Inv.kept{t':Nat}(I:Inv X pins σ H s)(k:∀b u,s.heap.get? b=some u->h'.get? b=some u):Inv X pins σ H { s with heap:=h',toks:=t' }:=I.un (Un.kept k) (I.hok.kept k)
theorem Inv.laid{a:Addr}{o:HO}{t':Nat}(I:Inv X pins σ H s)(k:∀b u,s.heap.get? b=some u->h'.get? b=some u)(hp:s.heap.objs.size<=a)(new:ObjOk X.prog X.w (upd H a o) h' a o) :
  Inv X pins σ (upd H a o) { s with heap:=h',toks:=t' }:=I.un (Un.laid k hp (I.hok.fresh hp)) (I.hok.laid k hp new)
theorem Inv.write{x e:Addr}{o:HO}{t':Nat}(I:Inv X pins σ H s)(mu:Mut (H x))(he:e=x∨H e=some (.own x))(k:∀b u,b≠e->s.heap.get? b=some u->h'.get? b=some u)(heo:∃u,h'.get? e=some u)
  (new:ObjOk X.prog X.w (upd H x o) h' x o):Inv X pins σ (upd H x o) { s with heap:=h',toks:=t' }:=I.un (Un.write mu he k heo) (I.hok.write mu he k heo new)
theorem Inv.pins_of{pins':List (Addr×Obj)}(I:Inv X pins σ H s)(h:∀p∈pins',s.heap.get? p.1=some p.2/\H p.1=none/\p.1≠X.env.locals/\p.1∉X.fs/\∀v,p.2.data≠.cell v):Inv X pins' σ H s :=
 ⟨I.ok,I.os,I.bare,I.base,I.loc,I.cell,I.free,I.freeC,λp hp=>(Aa.mp hp).elim (λz=>I.pin p (Ay _ z)) (h p),I.hok,I.len⟩
theorem xT_{N:List Str}(hN:N.Nodup){i j:Nat}{x:Str}(a:N[i]?=some x)(b:N[j]?=some x):i=j:=by
 obtain⟨h1,e1⟩:=AY.mp a
 obtain⟨h2,e2⟩:=AY.mp b
 exact(List.getElem_inj hN).mp (e1.trans e2.symm)
theorem ab5_{M:Model}{A:Around}{E:Value->Shared->Prop}{i:Nat}{x:Str}{v:V}{u:Value}{Q:Unit->Shared->Prop}(I:Inv X pins σ H s)(hN:X.N.Nodup)(hi:X.N[i]?=some x)(hx:Loc X.env.scope x)(r:RelV v u)
  (h:∀s',Inv X pins (σ.set i (some v)) H s'->(∃a,Heap.SameBut a s.heap s'.heap/\(a=X.env.locals∨X.env.cells.lookup x=some a))->Q () s') (hf:X.fn x=true∨X.env.scope.names.lookup x=some .local:=by first|exact .inl rfl|exact .inr rfl|assumption):wpAny M A (storeName X.env x u) Q E s:=by
 obtain⟨m,hn,hl⟩:=id I.loc
 have hcls:(X.env.scope.kind==.class||(X.env.scope.kind==.module&&X.env.locals != X.env.globals))=false:=by rw[I.ok.kind];rfl
 have hiσ:i<σ.length:=by rw[I.len];exact(AY.mp hi).1
 have cne:=I.cne
 have tracked:∀{a:Addr}{h':Heap},(∃o,s.heap.get? a=some o/\H a=none)->Heap.SameBut a s.heap h'->HOk X.prog X.w H h':=λ{a h'} ha hs b ob e=>by
  obtain⟨_,_,hfree⟩:=ha
  refine(I.hok b ob e).stay (λc w' hc q=>(hs.2 c ?_).trans q) (λ_ q=>q) λ_ _ q=>q
  rintro rfl
  rcases hc with rfl|hc
  ·rw[hfree]at e;cases e
  ·rw[hfree]at hc;cases hc
 rcases hx with hk|hk
 ·refine wpAny_storeName_local hk hn (λh' hn' hs=>?_) hcls
  obtain⟨oL,_,_,hoL,_⟩:=id hn
  refine h _ ⟨I.ok,I.os,I.bare,⟨λb o e n hb hx=>?_,λb o e n hb hx=>?_,I.base.free,λb o e hx=>?_,I.base.tups,I.base.frzs,I.base.tbls⟩,⟨_,hn',λj y v' e1 e2 e3=>?_⟩,λy c e=>?_,I.free,I.freeC,λp hp=>?_,tracked ⟨oL,hoL,I.free⟩ hs,by simpa using I.len⟩ ⟨_,hs,.inl rfl⟩
  ·exact(hs.2 b (AT (AO (AG e) I.ok.above))).trans (I.base.keep b o e n hb hx)
  ·obtain⟨sl,e1⟩:=I.base.slot b o e n hb hx
   exact⟨sl,(hs.2 b (AT (AO (AG e) I.ok.above))).trans e1⟩
  ·obtain⟨o',e1⟩:=I.base.there b o e hx
   exact⟨o',(hs.2 b (AT (AO (AG e) I.ok.above))).trans e1⟩
  ·by_cases hj:j=i
   ·subst hj
    rw[hi]at e1;cases e1
    rw[B5 hiσ]at e2
    cases e2
    exact⟨u,r,.inl ⟨hk,by simp⟩⟩
   ·rw[Cf (BP hj)]at e2
    obtain⟨u',r',q⟩:=hl j y v' e1 e2 e3
    refine⟨u',r',?_⟩
    rcases q with⟨k,e⟩|⟨k,c,e,z⟩
    ·refine .inl ⟨k,?_⟩
     have:y≠x:=λe=>hj (xT_ hN e1 (e▸hi))
     simp [this,e]
    ·exact .inr ⟨k,c,e,z.sameBut hs (cne y c e)⟩
  ·obtain⟨w',z⟩:=I.cell y c e
   exact⟨w',z.sameBut hs (cne y c e)⟩
  ·obtain⟨e,n,ne,nf,d⟩:=I.pin p hp
   exact⟨(hs.2 p.1 ne).trans e,n,ne,nf,d⟩
 ·have hfn:X.fn x=true:=by
   rcases hf with z|z
   ·exact z
   ·rw[z]at hk;cases hk
  obtain⟨c,hc⟩:=I.ok.has x (.inl hk)
  obtain⟨w',z⟩:=I.cell x c hc
  refine wpAny_storeName_cell I.ok.kind hk hc z (λh' hc' hs=>?_)
  obtain⟨oc,hoc,hocd⟩:=id z
  refine h { s with heap:=h' } ⟨I.ok,I.os,I.bare,⟨λb o e n hb hx=>?_,λb o e n hb hx=>?_,I.base.free,λb o e hx=>?_,I.base.tups,I.base.frzs,I.base.tbls⟩,⟨m,hn.sameBut hs (BP (cne x c hc)),λj y v' e1 e2 e3=>?_⟩,λy c' e=>?_,I.free,I.freeC,λp hp=>?_,tracked ⟨oc,hoc,I.freeC x c hc⟩ hs,by simpa using I.len⟩ ⟨c,hs,.inr hc⟩
  ·exact(hs.2 b (AT (AO (AG e) (I.ok.cab x c hfn hc)))).trans (I.base.keep b o e n hb hx)
  ·obtain⟨sl,e1⟩:=I.base.slot b o e n hb hx
   exact⟨sl,(hs.2 b (AT (AO (AG e) (I.ok.cab x c hfn hc)))).trans e1⟩
  ·obtain⟨o',e1⟩:=I.base.there b o e hx
   exact⟨o',(hs.2 b (AT (AO (AG e) (I.ok.cab x c hfn hc)))).trans e1⟩
  ·by_cases hj:j=i
   ·subst hj
    rw[hi]at e1;cases e1
    rw[B5 hiσ]at e2
    cases e2
    exact⟨u,r,.inr ⟨.inl hk,c,hc,hc'⟩⟩
   ·rw[Cf (BP hj)]at e2
    obtain⟨u',r',q⟩:=hl j y v' e1 e2 e3
    refine⟨u',r',?_⟩
    rcases q with q|⟨k,c',e,z'⟩
    ·exact .inl q
    ·refine .inr ⟨k,c',e,z'.sameBut hs ?_⟩
     rintro rfl
     exact hj (xT_ hN e1 (I.ok.inj _ _ _ e hc▸hi))
  ·by_cases hcc:c'=c
   ·subst hcc;exact⟨_,hc'⟩
   ·obtain⟨w2,z2⟩:=I.cell y c' e
    exact⟨w2,z2.sameBut hs hcc⟩
  ·obtain⟨e,n,ne,nf,d⟩:=I.pin p hp
   refine⟨(hs.2 p.1 ?_).trans e,n,ne,nf,d⟩
   intro q
   rw[q,hoc]at e
   have q':oc=p.2:=AX e
   exact d w' (by rw[<-q'];exact hocd)
theorem xP_{M:Model}{A:Around}{E:Value->Shared->Prop}{i:Nat}{x:Str}{v:V}{u:Value}{Q:Unit->Shared->Prop}(I:Inv X pins σ H s)(hN:X.N.Nodup)(hi:X.N[i]?=some x)(hx:Loc X.env.scope x)(r:RelV v u)
  (h:∀s',Inv X pins (σ.set i (some v)) H s'->Q () s') (hf:X.fn x=true∨X.env.scope.names.lookup x=some .local:=by first|exact .inl rfl|exact .inr rfl|assumption):wpAny M A (storeName X.env x u) Q E s :=
 ab5_ I hN hi hx r (λs' I' _=>h s' I') hf
theorem Inv.call'{s':Shared}{ch:List Addr}(I:Inv X pins σ H s)(ho:s'.os=s.os)(u:Un (frs X.stack) ch H H' s.heap s'.heap)(hok:HOk X.prog X.w H' s'.heap)(hg:AllBare s'.gens)
  (hch:∀b∈ch,(b∈X.ex∨X.s₀.heap.objs.size<=b)/\b≠X.env.locals/\(∀x c,X.env.cells.lookup x=some c->c≠b)/\∀p∈X.pn++pins,p.1≠b):Inv X pins σ H' s':=by
 obtain⟨h',g',d',t',o'⟩:=s'
 have e:o'=s.os:=ho
 subst e
 exact I.call (g':=g') (t':=t') (d':=d') u hok hg hch
end
abbrev XK:=Value->Option Addr->Hp->Prop
abbrev St:=List (Option V)
abbrev VK:=V->Hp->Prop
abbrev TE:=St->Hp->VK->Prop
abbrev TT:=St->Hp->(Bool->Hp->Prop)->Prop
abbrev TA:=St->Hp->(List V->Hp->Prop)->Prop
structure Ends where
 nx:St->Hp->Prop
 rt:VK
 bk:St->Hp->Prop:=λ_ _=>False
 ct:St->Hp->Prop:=λ_ _=>False
abbrev TS:=Ends->St->Hp->Prop
def EP(X:Cx)(pins:List (Addr×Obj))(σ:St)(Q:VK)(u:Value)(s':Shared):Prop:=∃v H',Inv X pins σ H' s'/\RelV v u/\Q v H'
def TP(X:Cx)(pins:List (Addr×Obj))(σ:St)(Q:Bool->Hp->Prop)(b:Bool)(s':Shared):Prop:=∃H',Inv X pins σ H' s'/\Q b H'
def AP(X:Cx)(pins:List (Addr×Obj))(σ:St)(Q:List V->Hp->Prop)(us:List Value)(s':Shared):Prop:=∃vs H',Inv X pins σ H' s'/\Vals vs us/\Q vs H'
def SP(X:Cx)(pins:List (Addr×Obj))(D:Ends)(f:Flow)(s':Shared):Prop :=
 match f with
 |.next=>∃σ' H',Inv X pins σ' H' s'/\D.nx σ' H'
 |.brk=>∃σ' H',Inv X pins σ' H' s'/\D.bk σ' H'
 |.cont=>∃σ' H',Inv X pins σ' H' s'/\D.ct σ' H'
 |.ret u=>∃v σ' H',Inv X pins σ' H' s'/\RelV v u/\D.rt v H'
def PE(X:Cx)(e:Expr)(t:TE):Prop :=
 ∀(pins:List (Addr×Obj))(s:Shared)(σ:St)(H:Hp)(Q:VK),Inv X pins σ H s->t σ H Q->wpAny (model X.prog X.w) X.A (eval e X.env) (EP X pins σ Q) X.xe s
def PT(X:Cx)(e:Expr)(t:TT):Prop :=
 ∀(pins:List (Addr×Obj))(s:Shared)(σ:St)(H:Hp)(Q:Bool->Hp->Prop),Inv X pins σ H s->t σ H Q->wpAny (model X.prog X.w) X.A (isTrue e X.env (eval e X.env)) (TP X pins σ Q) X.xe s
def PW(X:Cx)(e:Expr)(t:TT):Prop :=
 ∀(whole:Sem Value)(pins:List (Addr×Obj))(s:Shared)(σ:St)(H:Hp)(Q:Bool->Hp->Prop),Inv X pins σ H s->t σ H Q->wpAny (model X.prog X.w) X.A (isTrue e X.env whole) (TP X pins σ Q) X.xe s
theorem PW.pt{X:Cx}{e:Expr}{t:TT}(h:PW X e t):PT X e t:=h _
def PA(X:Cx)(es:List Expr)(t:TA):Prop :=
 ∀(pos:Pos)(pins:List (Addr×Obj))(s:Shared)(σ:St)(H:Hp)(Q:List V->Hp->Prop),Inv X pins σ H s->t σ H Q->wpAny (model X.prog X.w) X.A (spliced (backTo pos (starEach es X.env))) (AP X pins σ Q) X.xe s
def PS(X:Cx)(st:Stmt)(t:TS):Prop :=
 ∀(pins:List (Addr×Obj))(s:Shared)(σ:St)(H:Hp)(D:Ends),Inv X pins σ H s->t D σ H->wpAny (model X.prog X.w) X.A (exec st X.env) (SP X pins D) X.xe s
def PSs(X:Cx)(st:List Stmt)(t:TS):Prop :=
 ∀(pins:List (Addr×Obj))(s:Shared)(σ:St)(H:Hp)(D:Ends),Inv X pins σ H s->t D σ H->wpAny (model X.prog X.w) X.A (execs st X.env) (SP X pins D) X.xe s
theorem thn{α:Type}{t:Sem α}{Q Q':α->Shared->Prop}{M:Model}{A:Around}{E:Value->Shared->Prop}{s:Shared}(h:wpAny M A t Q E s)(hQ:∀a s,Q a s->Q' a s):wpAny M A t Q' E s:=wpAny_mono h hQ λ_ _ x=>x
end L2
namespace L2
open PySem PySem.Spec PyProof.Rows
section
variable{X:Cx}
theorem bin{a b:Expr}{ta tb:TE}(ha:PE X a ta)(hb:PE X b tb){pins:List (Addr×Obj)}{s:Shared}{σ:St}{H:Hp}{R:V->V->Hp->Prop}(I:Inv X pins σ H s)(h:ta σ H λx H1=>tb σ H1 λy H2=>R x y H2)
  {α:Type} {Q:α->Shared->Prop} {f:Value->Value->Sem α}
  (hf:∀v u s2 x y H2,Inv X pins σ H2 s2->RelV x v->RelV y u->R x y H2->wpAny (model X.prog X.w) X.A (f v u) Q X.xe s2) :
  wpAny (model X.prog X.w) X.A (eval a X.env) (λv s₁=>wpAny (model X.prog X.w) X.A (eval b X.env) (λu s₂=>wpAny (model X.prog X.w) X.A (f v u) Q X.xe s₂) X.xe s₁) X.xe s:=by
 refine thn (ha pins s σ H _ I h) λv s1 ⟨x,H1,I1,r1,q1⟩=>?_
 refine thn (hb pins s1 σ H1 _ I1 q1) λu s2 ⟨y,H2,I2,r2,q2⟩=>?_
 exact hf v u s2 x y H2 I2 r1 r2 q2
def j6_(i:Nat):TE:=λσ H Q=>∃v,σ[i]?=some (some v)/\Q v H
def tC(v:V):TE:=λ_ H Q=>Q v H
theorem ac9_{i:Nat}{x:Str}{pos:Pos}(hN:X.N[i]?=some x)(hv:Vis X.env.scope x)(hd:(x==("__debug__" : Str))=false:=by decide)(hcd:(x==("__classdict__" : Str))=false:=by decide):PE X (.Name x pos) (j6_ i):=by
 intro pins s σ H Q I h
 obtain⟨v,e,h⟩:=h
 obtain⟨m,hn,hl⟩:=I.loc
 obtain⟨u,r,l⟩:=hl i x v hN e hv
 have fin:EP X pins σ Q u s:=⟨v,H,I,r,h⟩
 rcases l with⟨hk,hm⟩|⟨hk,c,hc,hcell⟩
 ·exact wpAny_Name (wpAny_loadName_local I.ok.kind hk hn hm fin) hd
 ·rcases hk with hk|hk
  ·exact wpAny_Name (wpAny_loadName_cell I.ok.kind hk hc hcell fin) hd
  ·exact wpAny_Name (wpAny_loadName_free I.ok.kind hk hc hcell fin hcd) hd
theorem qe_{i j pos}:PE X (.Constant (.int i) j pos) (tC (.int i)):=λ_ _ _ H _ I h=>wpAny_Constant_int ⟨.int i,H,I.tok _,⟨_,rfl⟩,h⟩
theorem jz_{b j pos}:PE X (.Constant (.bool b) j pos) (tC (.bl b)):=λ_ _ _ H _ I h=>Constant_bool ⟨.bl b,H,I,rfl,h⟩
theorem zl_{j pos}:PE X (.Constant .none j pos) (tC .non):=λ_ _ _ H _ I h=>Constant_none ⟨.non,H,I,rfl,h⟩
theorem qh_{x j pos}:PE X (.Constant (.str x) j pos) (tC (.str x)):=λ_ _ _ H _ I h=>Calls.Constant_str ⟨.str x,H,I.tok _,⟨_,rfl⟩,h⟩
def Gl(X:Cx)(x:Str):Prop:=X.env.kindOf x=some .globalImplicit
theorem jX_{E:Value->Shared->Prop}{pins:List (Addr×Obj)}{s:Shared}{σ:St}{H:Hp}{x:Str}{u:Value}{pos:Pos}{Q:Value->Shared->Prop}(I:Inv X pins σ H s)(hg:Gl X x)(hm:X.mg x=some u)(h:Q u s)
  (hd:(x==("__debug__" : Str))=false:=by decide):wpAny (model X.prog X.w) X.A (eval (.Name x pos) X.env) Q E s :=
 C8 I.ok.kind hg (Calls.loadGlobal_global (by rw[I.ok.glob];exact I.mod.glob.keeps I.bk) hm h) hd
theorem z5_{E:Value->Shared->Prop}{pins:List (Addr×Obj)}{s:Shared}{σ:St}{H:Hp}{x:Str}{u:Value}{pos:Pos}{Q:Value->Shared->Prop}(I:Inv X pins σ H s)(hg:Gl X x)(hm:X.mg x=none)(hv:bootBuiltins x=some u)(h:Q u s)
  (hn:x ≠ "__name__" := by decide) (hd:(x==("__debug__" : Str))=false:=by decide):wpAny (model X.prog X.w) X.A (eval (.Name x pos) X.env) Q E s:=by
 obtain⟨mb,h1,h2⟩:=I.mod.blt
 exact C8 I.ok.kind hg (Calls.loadGlobal_builtin (by rw[I.ok.glob];exact I.mod.glob.keeps I.bk) hm (by rw[I.ok.blt];exact h1.keeps I.bk) ((h2 x hn).trans hv) h) hd
theorem qL_{x:Str}{v:V}{u:Value}{pos:Pos}(hg:Gl X x)(hm:X.mg x=some u)(r:RelV v u)(hd:(x==("__debug__" : Str))=false:=by decide):PE X (.Name x pos) (tC v) :=
 λ_ _ _ H _ I h=>jX_ I hg hm ⟨v,H,I,r,h⟩ hd
theorem ji_{x:Str}{v:V}{u:Value}{pos:Pos}(hg:Gl X x)(hm:X.mg x=none)(hv:bootBuiltins x=some u)(r:RelV v u)(hn:x ≠ "__name__" := by decide)(hd:(x==("__debug__" : Str))=false:=by decide):PE X (.Name x pos) (tC v) :=
 λ_ _ _ H _ I h=>z5_ I hg hm hv ⟨v,H,I,r,h⟩ hn hd
variable{a b:Expr}{ta tb:TE}{pos:Pos}
def PC(X:Cx)(op:CmpOp)(a b:Expr)(t:TE):Prop :=
 ∀(pins:List (Addr×Obj))(s:Shared)(σ:St)(H:Hp)(Q:VK),Inv X pins σ H s->t σ H Q ->
  wpAny (model X.prog X.w) X.A (eval a X.env) (λv s₁=>wpAny (model X.prog X.w) X.A (eval b X.env) (λu s₂=>wpAny (model X.prog X.w) X.A (compareOp op v u) (EP X pins σ Q) X.xe s₂) X.xe s₁) X.xe s
theorem aee_(b:Expr){op:CmpOp}(h:op≠.In)(h2:op≠.NotIn):behindInMarks op b=false:=by
 have e1:(op==CmpOp.In)=false:=by cases op<;>first|rfl|exact absurd rfl h
 have e2:(op==CmpOp.NotIn)=false:=by cases op<;>first|rfl|exact absurd rfl h2
 cases b<;>simp [behindInMarks,e1,e2]
def tB(t:TE):TT:=λσ H Q=>t σ H λx H1=>∃c,x=.bl c/\Q c H1
theorem all_{op:CmpOp}{t:TE}(h:PC X op a b t)(h1:behindInMarks op b=false:=by first|exact aee_ _ (by decide) (by decide)|rfl):PT X (.Compare a [op] [b] pos) (tB t):=by
 intro pins s σ H Q I hw
 refine wpAny_isTrue_Compare1 (thn (h pins s σ H _ I hw) λv s1 h1=>thn h1 λu s2 h2=>thn h2 λc s3 ⟨x,H1,I1,r1,q1⟩=>?_) h1
 obtain⟨d,rfl,q⟩:=q1
 cases r1
 exact wpAny_truthy_bool ⟨H1,I1,q⟩
theorem zm_{e:Expr}{t:TE}(h:PE X e t)(he:∀whole,isTrue e X.env whole=(do let v <-whole;standAt e.pos;holding [v] (truthy v)):=by intro _;rfl):PT X e (tB t):=by
 intro pins s σ H Q I hw
 refine isTrue_plain (thn (h pins s σ H _ I hw) λv s1 ⟨x,H1,I1,r1,q1⟩=>?_) (he _)
 obtain⟨d,rfl,q⟩:=q1
 cases r1
 exact wpAny_truthy_bool ⟨H1,I1,q⟩
variable{tA tB':TT}{zn_:List Expr}
def tAnd(t u:TT):TT:=λσ H Q=>t σ H λc H1=>if c=true then u σ H1 Q else Q false H1
def tOr(t u:TT):TT:=λσ H Q=>t σ H λc H1=>if c=true then Q true H1 else u σ H1 Q
def tNot(t:TT):TT:=λσ H Q=>t σ H λc H1=>Q (!c) H1
theorem jI_(ha:PT X a tA):PW X (.BoolOp .And [a] pos) tA:=by
 intro wh pins s σ H Q I h
 refine isTrue_and (thn (ha pins s σ H Q I h) λc s1 e=>?_)
 cases c with
 |true=>exact isTrue_and_nil e
 |false=>exact e
theorem zx_(ha:PT X a tA):PW X (.BoolOp .Or [a] pos) tA:=by
 intro wh pins s σ H Q I h
 refine isTrue_or (thn (ha pins s σ H Q I h) λc s1 e=>?_)
 cases c with
 |false=>exact isTrue_or_nil e
 |true=>exact e
theorem xl_(ha:PT X a tA)(hb:PW X (.BoolOp .And (b::zn_) pos) tB'):PW X (.BoolOp .And (a::b::zn_) pos) (tAnd tA tB'):=by
 intro wh pins s σ H Q I h
 refine isTrue_and (thn (ha pins s σ H _ I h) λc s1 ⟨H1,I1,q1⟩=>?_)
 cases c with
 |true=>exact hb wh pins s1 σ H1 Q I1 q1
 |false=>exact⟨H1,I1,q1⟩
theorem zB_(ha:PT X a tA)(hb:PW X (.BoolOp .Or (b::zn_) pos) tB'):PW X (.BoolOp .Or (a::b::zn_) pos) (tOr tA tB'):=by
 intro wh pins s σ H Q I h
 refine isTrue_or (thn (ha pins s σ H _ I h) λc s1 ⟨H1,I1,q1⟩=>?_)
 cases c with
 |true=>exact⟨H1,I1,q1⟩
 |false=>exact hb wh pins s1 σ H1 Q I1 q1
theorem jt_(ha:PT X a tA):PT X (.UnaryOp .Not a pos) (tNot tA):=by
 intro pins s σ H Q I h
 exact isTrue_not (ha pins s σ H (λc H1=>Q (!c) H1) I h)
def aj6_(ta tb:TE):TE:=λσ H Q=>ta σ H λx H1=>∃c,x=.bl c/\if c=true then tb σ H1 Q else Q (.bl false) H1
def ajy_(ta:TE):TE:=λσ H Q=>ta σ H λx H1=>∃c,x=.bl c/\Q (.bl (!c)) H1
theorem acf_{op}{t:TE}(h:PE X a t):PE X (.BoolOp op [a] pos) t:=λpins s σ H Q I hw=>BoolOp_one (h pins s σ H Q I hw)
theorem abp_(ha:PE X a ta)(hb:PE X (.BoolOp .And (b::zn_) pos) tb):PE X (.BoolOp .And (a::b::zn_) pos) (aj6_ ta tb):=by
 intro pins s σ H Q I h
 refine BoolOp_and (thn (ha pins s σ H _ I h) λv s1 ⟨x,H1,I1,r1,q1⟩=>?_)
 obtain⟨c,rfl,q1⟩:=q1
 cases r1
 refine wpAny_truthy_bool ?_
 cases c with
 |true=>exact hb pins s1 σ H1 Q I1 q1
 |false=>exact⟨.bl false,H1,I1,rfl,q1⟩
theorem aie_(ha:PE X a ta):PE X (.UnaryOp .Not a pos) (ajy_ ta):=by
 intro pins s σ H Q I h
 refine UnaryOp_ (thn (ha pins s σ H _ I h) λv s1 ⟨x,H1,I1,r1,q1⟩=>?_)
 obtain⟨c,rfl,q1⟩:=q1
 cases r1
 exact not_of (wpAny_truthy_bool ⟨.bl (!c),H1,I1,rfl,q1⟩)
end
end L2
namespace L2
open PySem PySem.Spec PyProof.Rows
def SqL(K:PySem.W.Frag)(H:Hp)(a:Addr)(xs:List V):Prop :=
 Rd H a (.lst xs) ∨
  ∃(o:Obj)(its:Array Value)(n:Nat),K.lookup a=some o/\o.cls=.type "list" /\ o.dict=none/\o.data=.seq its n/\its.size<=sizeLine/\Vals xs its.toList
def SqT(K:PySem.W.Frag)(H:Hp)(a:Addr)(xs:List V):Prop :=
 Rd H a (.tup xs) ∨
  ∃(o:Obj)(its:Array Value)(n:Nat),K.lookup a=some o/\o.cls=.type "tuple" /\ o.data=.seq its n/\its.size<=sizeLine/\Vals xs its.toList
def absV:Value->Option V
 |.none=>some .non
 |.bool b=>some (.bl b)
 |.int i _=>some (.int i)
 |.str x _=>some (.str x)
 |.bytes b _=>some (.byt b)
 |.float b _=>some (.flt b)
 |.ref a=>some (.ref a)
 |.type n=>some (.ty n)
 |_=>none
theorem RelV.abs{x:V}{u:Value}(r:RelV x u):absV u=some x:=by
 cases x with
 |non=>cases r;rfl
 |bl _=>cases r;rfl
 |int _=>obtain⟨t,rfl⟩:=r;rfl
 |str _=>obtain⟨t,rfl⟩:=r;rfl
 |byt _=>obtain⟨t,rfl⟩:=r;rfl
 |flt _=>obtain⟨t,rfl⟩:=r;rfl
 |ref _=>cases r;rfl
 |ty _=>cases r;rfl
theorem RelV.inj{x y:V}{u:Value}(r:RelV x u)(q:RelV y u):x=y:=AX (r.abs.symm.trans q.abs)
theorem Vals.inj:∀{xs ys:List V}{us:List Value},Vals xs us->Vals ys us->xs=ys
 |_,_,_,.nil,.nil=>rfl
 |_,_,_,.cons r t,.cons r' t'=>by rw[r.inj r',Vals.inj t t']
section
variable{X:Cx}{pins:List (Addr×Obj)}{σ:St}{H:Hp}{s:Shared}{a:Addr}{xs ys:List V}
theorem SqL.of{K:PySem.W.Frag}(h:H a=some (.lst xs)):SqL K H a xs:=.inl (.inl h)
theorem SqT.of{K:PySem.W.Frag}(h:H a=some (.tup xs)):SqT K H a xs:=.inl (.inl h)
theorem Inv.list(I:Inv X pins σ H s)(h:SqL X.K H a xs):∃its:List Value,Vals xs its/\PlainL s.heap a its.toArray/\xs.length<=sizeLine:=by
 rcases h with h|⟨o,its,n,hk,hc,hd,hs,hz,r⟩
 ·obtain⟨z,its,n,r,e⟩:=h.ok I.hok
  exact⟨its,r,⟨_,n,e,rfl,rfl,rfl⟩,z⟩
 ·refine⟨its.toList,r,⟨o,n,I.kIn a o hk,hc,hd,by simpa using hs⟩,?_⟩
  have e:=r.length
  simp only[AJ]at e
  omega
theorem Inv.tuple(I:Inv X pins σ H s)(h:SqT X.K H a xs):∃its:List Value,Vals xs its/\IsTup s.heap a its.toArray/\xs.length<=sizeLine:=by
 rcases h with h|⟨o,its,n,hk,hc,hs,hz,r⟩
 ·obtain⟨z,its,r,p⟩:=h.ok I.hok
  exact⟨its,r,p.tup,z⟩
 ·refine⟨its.toList,r,⟨o,I.kIn a o hk,hc,n,by simpa using hs⟩,?_⟩
  have e:=r.length
  simp only[AJ]at e
  omega
theorem Inv.list_inj(I:Inv X pins σ H s)(h:SqL X.K H a xs)(h':SqL X.K H a ys):xs=ys:=by
 obtain⟨its,r,⟨o,n,e,_,_,d⟩,_⟩:=I.list h
 obtain⟨its',r',⟨o',n',e',_,_,d'⟩,_⟩:=I.list h'
 rw[e]at e';cases e'
 rw[d]at d'
 injection d' with d1 _
 have:its=its':=by simpa using congrArg Array.toList d1
 subst this
 exact r.inj r'
theorem Inv.tuple_inj(I:Inv X pins σ H s)(h:SqT X.K H a xs)(h':SqT X.K H a ys):xs=ys:=by
 obtain⟨its,r,⟨o,e,_,n,d⟩,_⟩:=I.tuple h
 obtain⟨its',r',⟨o',e',_,n',d'⟩,_⟩:=I.tuple h'
 rw[e]at e';cases e'
 rw[d]at d'
 injection d' with d1 _
 have:its=its':=by simpa using congrArg Array.toList d1
 subst this
 exact r.inj r'
end
abbrev Cx.wish(X:Cx)(E:Value->Shared->Prop):Cx:={ X with xe:=E }
abbrev Cx.nox(X:Cx):Cx:=X.wish λ_ _=>False
theorem Cx.Ok.wish{X:Cx}(ok:X.Ok)(E:Value->Shared->Prop):(X.wish E).Ok :=
 ⟨ok.mod,ok.kind,ok.glob,ok.blt,ok.above,ok.inj,ok.has,ok.cab,ok.hd,ok.frames,ok.stk,ok.exf,ok.bs,ok.bsz,ok.noex,ok.exfs,ok.funs,ok.frf⟩
theorem Cx.Ok.unwish{X:Cx}{E:Value->Shared->Prop}(ok:(X.wish E).Ok):X.Ok :=
 ⟨ok.mod,ok.kind,ok.glob,ok.blt,ok.above,ok.inj,ok.has,ok.cab,ok.hd,ok.frames,ok.stk,ok.exf,ok.bs,ok.bsz,ok.noex,ok.exfs,ok.funs,ok.frf⟩
section
variable{X:Cx}{pins:List (Addr×Obj)}{σ:St}{H:Hp}{s:Shared}{E:Value->Shared->Prop}
theorem Inv.wish(I:Inv X pins σ H s)(E:Value->Shared->Prop):Inv (X.wish E) pins σ H s:=⟨I.ok.wish E,I.os,I.bare,I.base,I.loc,I.cell,I.free,I.freeC,I.pin,I.hok,I.len⟩
theorem Inv.unwish(I:Inv (X.wish E) pins σ H s):Inv X pins σ H s:=⟨I.ok.unwish,I.os,I.bare,I.base,I.loc,I.cell,I.free,I.freeC,I.pin,I.hok,I.len⟩
theorem SP.unwish{D:Ends}{f:Flow}{s':Shared}(h:SP (X.wish E) pins D f s'):SP X pins D f s':=by
 cases f with
 |next=>obtain⟨σ',H',I,q⟩:=h;exact⟨σ',H',I.unwish,q⟩
 |brk=>obtain⟨σ',H',I,q⟩:=h;exact⟨σ',H',I.unwish,q⟩
 |cont=>obtain⟨σ',H',I,q⟩:=h;exact⟨σ',H',I.unwish,q⟩
 |ret u=>obtain⟨v,σ',H',I,r,q⟩:=h;exact⟨v,σ',H',I.unwish,r,q⟩
theorem PSs.nox{st:List Stmt}{t:TS}(h:PSs X.nox st t):PSs X st t:=λpins s σ H D I hw =>
 wpAny_mono (h pins s σ H D (I.wish _) hw) (λ_ _ q=>q.unwish) λ_ _ z=>False.elim z
end
section
variable{X:Cx}{st:Stmt}{zn_:List Stmt}{t u:TS}{e:Expr}{te:TE}{pos:Pos}
def aki_:TS:=λD σ H=>D.nx σ H
def tSeq(t u:TS):TS:=λD σ H=>t { D with nx:=u D } σ H
theorem qq_:PSs X [] aki_:=λ_ _ σ H _ I h=>wpAny_execs_nil ⟨σ,H,I,h⟩
theorem qc_(h1:PS X st t)(h2:PSs X zn_ u):PSs X (st::zn_) (tSeq t u):=by
 intro pins s σ H D I h
 refine wpAny_execs_cons (thn (h1 pins s σ H { D with nx:=u D } I h) λf s1 q=>?_)
 cases f with
 |next =>
  obtain⟨σ',H',I',q⟩:=q
  exact h2 pins s1 σ' H' D I' q
 |ret v=>exact q
 |brk=>exact q
 |cont=>exact q
theorem qg_(h1:PS X st t):PSs X [st] t:=by
 intro pins s σ H D I h
 refine wpAny_execs_cons (thn (h1 pins s σ H D I h) λf s1 q=>?_)
 cases f with
 |next=>exact wpAny_execs_nil q
 |ret v=>exact q
 |brk=>exact q
 |cont=>exact q
theorem Inv.quiet{pins:List (Addr×Obj)}{σ:St}{H:Hp}{s:Shared}(I:Inv X pins σ H s):interactive X.env=false:=by simp [interactive,I.ok.kind]
def akl_(te:TE):TS:=λD σ H=>te σ H λ_ H1=>D.nx σ H1
theorem jg_(he:PE X e te)(hs:swapsWith e none pos.line X.env=pure false:=by rfl):PS X (.Expr e pos) (akl_ te):=by
 intro pins s σ H D I h
 exact wpAny_Expr_any (thn (he pins s σ H _ I h) λv s1 ⟨x,H1,I1,r1,q1⟩=>⟨σ,H1,I1,q1⟩) I.quiet hs
def tRet(te:TE):TS:=λD σ H=>te σ H D.rt
theorem qp_(he:PE X e te):PS X (.Return (some e) pos) (tRet te):=by
 intro pins s σ H D I h
 exact wpAny_Return_some (thn (he pins s σ H _ I h) λv s1 ⟨x,H1,I1,r1,q1⟩=>⟨x,σ,H1,I1,r1,q1⟩)
def tIfS(c:TT)(t u:TS):TS:=λD σ H=>c σ H λb H1=>if b=true then t D σ H1 else u D σ H1
theorem qt_{c:Expr}{a b:List Stmt}{tc:TT}(hc:PT X c tc)(ha:PSs X a t)(hb:PSs X b u):PS X (.If c a b pos) (tIfS tc t u):=by
 intro pins s σ H D I h
 refine wpAny_If (thn (hc pins s σ H _ I h) λd s1 ⟨H1,I1,q1⟩=>?_)
 cases d with
 |true=>exact ha pins s1 σ H1 D I1 q1
 |false=>exact hb pins s1 σ H1 D I1 q1
end
abbrev TG:=V->St->Hp->(St->Hp->Prop)->Prop
abbrev TGs:=List V->St->Hp->(St->Hp->Prop)->Prop
def PG(X:Cx)(target:Expr)(t:TG):Prop :=
 ∀(pins:List (Addr×Obj))(s:Shared)(σ:St)(H:Hp)(v:V)(u:Value)(Q:St->Hp->Prop),Inv X pins σ H s->RelV v u->t v σ H Q ->
  wpAny (model X.prog X.w) X.A (assign target X.env u) (λ_ s'=>∃σ' H',Inv X pins σ' H' s'/\Q σ' H') X.xe s
def PGs(X:Cx)(ts:List Expr)(t:TGs):Prop :=
 ∀(pins:List (Addr×Obj))(s:Shared)(σ:St)(H:Hp)(vs:List V)(us:List Value)(Q:St->Hp->Prop),Inv X pins σ H s->Vals vs us->t vs σ H Q ->
  wpAny (model X.prog X.w) X.A (assignInOrder ((assignEach ts X.env).map (·.2)) us) (λ_ s'=>∃σ' H',Inv X pins σ' H' s'/\Q σ' H') X.xe s
abbrev TSet:=V->V->V->Hp->(Hp->Prop)->Prop
def PSet(X:Cx)(t:TSet):Prop :=
 ∀(pins:List (Addr×Obj))(s:Shared)(σ:St)(H:Hp)(o i v:V)(ov iv u:Value)(Q:Hp->Prop),Inv X pins σ H s->RelV o ov->RelV i iv->RelV v u->t o i v H Q ->
  wpAny (model X.prog X.w) X.A (setItem ov iv u) (λ_ s'=>∃H',Inv X pins σ H' s'/\Q H') X.xe s
section
variable{X:Cx}{pos:Pos}
def qU_(i:Nat):TG:=λv σ H Q=>Q (σ.set i (some v)) H
theorem qz_{i:Nat}{x:Str}(hN:X.N.Nodup)(hi:X.N[i]?=some x)(hx:Loc X.env.scope x)(hf:X.fn x=true∨X.env.scope.names.lookup x=some .local:=by first|exact .inl rfl|exact .inr rfl|assumption):PG X (.Name x pos) (qU_ i):=by
 intro pins s σ H v u Q I r h
 exact wpAny_assign_Name (xP_ I hN hi hx r (λs' I'=>⟨_,H,I',h⟩) hf)
def gNil:TGs:=λvs σ H Q=>vs=[]/\Q σ H
def akk_(t:TG)(u:TGs):TGs:=λvs σ H Q=>∃v r,vs=v::r/\t v σ H λσ' H'=>u r σ' H' Q
theorem zV_:PGs X [] gNil:=by
 intro pins s σ H vs us Q I r h
 obtain⟨e,h⟩:=h
 subst e
 cases r
 exact assignInOrder_nil ⟨σ,H,I,h⟩
theorem qR_{e:Expr}{es:List Expr}{t:TG}{u:TGs}(h1:PG X e t)(h2:PGs X es u)
  (hs:(assignEach (e::es) X.env).map (·.2)=assign e X.env::(assignEach es X.env).map (·.2):=by rfl):PGs X (e::es) (akk_ t u):=by
 intro pins s σ H vs us Q I r h
 obtain⟨v,vr,e1,h⟩:=h
 subst e1
 cases r with
 |cons r rr =>
  rw[hs]
  refine assignInOrder_cons (thn (h1 pins s σ H _ _ _ I r h) λ_ s1 ⟨σ1,H1,I1,q1⟩=>?_)
  exact h2 pins s1 σ1 H1 _ _ Q I1 rr q1
def gTup(K:PySem.W.Frag)(n:Nat)(t:TGs):TG:=λv σ H Q=>∃a xs,v=.ref a/\SqT K H a xs/\xs.length=n/\t xs σ H Q
theorem jk_{es:List Expr}{k:Nat}{t:TGs}{n:Nat}(hc:X.calm=true)(h:PGs X es t)
  (hn:(assignEach es X.env).length=n:=by rfl) (hst:(assignEach es X.env).findIdx? (·.1)=none:=by rfl):PG X (.Tuple es k pos) (gTup X.K n t):=by
 intro pins s σ H v u Q I r hw
 obtain⟨a,xs,e1,hq,hl,hw⟩:=hw
 subst e1
 cases r
 obtain⟨its,rv,ht,hz⟩:=I.tuple hq
 refine assign_Tuple_tuple (I.ok.hd hc) ht (by simp [hn,<-hl,rv.length]) hst λh' hx=>?_
 have I1:Inv X pins σ H { s with heap:=h' }:=I.kept (t':=s.toks) λb o e=>hx b o (AT (AG e)) e
 exact h pins _ σ H xs _ Q I1 (by simpa using rv) hw
def gSub(to ti:TE)(t:TSet):TG:=λv σ H Q=>to σ H λo H1=>ti σ H1 λi H2=>t o i v H2 λH3=>Q σ H3
theorem vf_{o i:Expr}{to ti:TE}{t:TSet}(ho:PE X o to)(hi:PE X i ti)(hs:PSet X t)
  (ha:∀v,assign (.Subscript o i pos) X.env v=(do
   let ov <-holding [v] (eval o X.env)
   let iv <-holding [v,ov] (eval i X.env)
   standAt pos
   holding [v,ov,iv] (setItem ov iv v)
   release [v,ov,iv] []):=by intro _;rfl):PG X (.Subscript o i pos) (gSub to ti t):=by
 intro pins s σ H v u Q I r h
 rw[ha]
 refine wpAny_bind (wpAny_holding (thn (ho pins s σ H _ I h) λov s1 ⟨x,H1,I1,r1,q1⟩=>?_))
 refine wpAny_bind (wpAny_holding (thn (hi pins s1 σ H1 _ I1 q1) λiv s2 ⟨y,H2,I2,r2,q2⟩=>?_))
 refine wpAny_bind (wpAny_standAt (wpAny_bind (wpAny_holding (thn (hs pins s2 σ H2 x y v ov iv u _ I2 r1 r2 r q2) λ_ s3 ⟨H3,I3,q3⟩=>?_))))
 exact wpAny_release ⟨σ,H3,I3,q3⟩
def tAsg(te:TE)(g:TG):TS:=λD σ H=>te σ H λx H1=>g x σ H1 D.nx
theorem vd_{tg e:Expr}{te:TE}{g:TG}(he:PE X e te)(hg:PG X tg g)(hs:swapsWithSole [tg] e pos.line X.env=pure false:=by rfl)(hw:swappedStores [tg] e X.env=pure none:=by rfl)
  (h1:(assignEach [tg] X.env).map (·.2)=[assign tg X.env]:=by rfl):PS X (.Assign [tg] e pos) (tAsg te g):=by
 intro pins s σ H D I h
 refine wpAny_Assign_stores (thn (he pins s σ H _ I h) λv s1 ⟨x,H1,I1,r1,q1⟩=>?_) hs hw
 rw[h1]
 exact thn (hg pins s1 σ H1 x v _ I1 r1 q1) λ_ s2 q=>q
theorem qj_{i:Nat}{x:Str}{e:Expr}{te:TE}{pos':Pos}(hN:X.N.Nodup)(hi:X.N[i]?=some x)(hx:Loc X.env.scope x)(he:PE X e te)(hs:swapsWith e (some (.Name x pos')) pos.line X.env=pure false:=by rfl)(hf:X.fn x=true∨X.env.scope.names.lookup x=some .local:=by first|exact .inl rfl|exact .inr rfl|assumption) :
  PS X (.Assign [.Name x pos'] e pos) (tAsg te (qU_ i)):=by
 intro pins s σ H D I h
 refine wpAny_Assign_Name (thn (he pins s σ H _ I h) λv s1 ⟨y,H1,I1,r1,q1⟩=>?_) hs
 exact xP_ I1 hN hi hx r1 (λs2 I2=>⟨_,H1,I2,q1⟩) hf
end
section
variable{X:Cx}{pos:Pos}
def ais_(c:TT)(tb:TS):TS:=λD σ H=>∃W:Nat->St->Hp->Prop,(∃m,W m σ H)/\∀m σ H,W m σ H ->
 c σ H λb H1=>if b=true then ∃N:St->Hp->Prop,(∀σ' H',N σ' H'->∃m',m'<m/\W m' σ' H')/\tb { D with nx:=N,ct:=N,bk:=D.nx } σ H1 else D.nx σ H1
theorem aev_{c:Expr}{body:List Stmt}{tc:TT}{tb:TS}(hp:PassesOwn (model X.prog X.w) X.A X.env X.xe)(hc:PT X c tc)(hb:PSs X body tb):PS X (.While c body [] pos) (ais_ tc tb):=by
 intro pins s σ H D I h
 obtain⟨W,⟨m0,w0⟩,turn⟩:=h
 refine wpAny_While (codeAny_whileLoop (λn s'=>∃σ' H',Inv X pins σ' H' s'/\W n σ' H') ?_ m0 ⟨σ,H,I,w0⟩)
 rintro n s1 ⟨σ1,H1,I1,w1⟩
 refine wpAny_passesOwn hp (thn (hc pins s1 σ1 H1 _ I1 (turn n σ1 H1 w1)) λb s2 ⟨H2,I2,q2⟩=>?_)
 cases b with
 |true =>
  obtain⟨N,hN,q2⟩:=q2
  rw[if_pos rfl]
  refine wpAny_passesOwn hp (thn (hb pins s2 σ1 H2 _ I2 q2) λf s3 q3=>?_)
  cases f with
  |next =>
   obtain⟨σ3,H3,I3,n3⟩:=q3
   obtain⟨m',hm,w3⟩:=hN σ3 H3 n3
   exact⟨m',hm,σ3,H3,I3,w3⟩
  |cont =>
   obtain⟨σ3,H3,I3,n3⟩:=q3
   obtain⟨m',hm,w3⟩:=hN σ3 H3 n3
   exact⟨m',hm,σ3,H3,I3,w3⟩
  |brk=>exact q3
  |ret v=>exact q3
 |false =>
  rw[if_neg AL]
  exact wpAny_execs_nil ⟨σ1,H2,I2,q2⟩
end
structure It where
 go:Nat->Hp->Prop
 yld:Nat->Hp->V->Hp->Prop
 stop:Nat->Hp->Prop
def zQ_(X:Cx)(pins:List (Addr×Obj))(H:Hp)(b:Addr):Prop :=
 H b=none/\b≠X.env.locals/\b∉X.fs/\(b∈X.ex∨X.s₀.heap.objs.size<=b)/\(∀x c,X.env.cells.lookup x=some c->c≠b)/\∀p∈X.pn++pins,p.1≠b
theorem Inv.fpOk{X:Cx}{pins:List (Addr×Obj)}{σ:St}{H H':Hp}{s:Shared}{b:Addr}(I:Inv X pins σ H s)(hb:s.heap.objs.size<=b)(hn:H' b=none):zQ_ X pins H' b:=by
 refine⟨hn,Bh (AO I.lt hb),I.nofs hb,.inr (AZ I.sz hb),λx c e z=>?_,λp hp z=>?_⟩
 ·obtain⟨v,q⟩:=I.cell x c e
  exact absurd (AO q.lt (by rw[z];exact hb)) (BJ _)
 ·exact absurd (AO (AG (I.pin p hp).1) (by rw[z];exact hb)) (BJ _)
structure Turn(P:Program)(w:World)(K:PySem.W.Frag)(tg:Expr)(J:It)(fp:List Addr)(it:Addr)(tn:Nat->Heap->Prop):Prop where
 mem:it∈fp
 obj:∀i h,tn i h->∀b∈fp,∃o,h.get? b=some o/\∀v,o.data≠.cell v
 keep:∀i h h',tn i h->(∀b∈fp,∀o,h.get? b=some o->h'.get? b=some o)->tn i h'
 item:∀(X:Cx),X.prog=P->X.w=w->X.K=K->X.calm=true->∀(i:Nat)(pins:List (Addr×Obj))(s:Shared)(σ:St)(H:Hp)(E:Value->Shared->Prop),Inv X pins σ H s->(∀b∈fp,zQ_ X pins H b)->tn i s.heap->J.go i H ->
  wpAny (model P w) X.A (pyNext (.ref it)) (λr s1=>∃u,r=some u /\
   wpAny (model P w) X.A (letOwnedTupleGo tg (.ref it) u) (λ_ s2=>∃x H',Inv X pins σ H' s2/\RelV x u/\J.yld i H x H'/\tn (i+1) s2.heap/\∀b∈fp,H' b=none) E s1) E s
 done:∀(X:Cx),X.prog=P->X.w=w->X.K=K->X.calm=true->∀(i:Nat)(pins:List (Addr×Obj))(s:Shared)(σ:St)(H:Hp)(E:Value->Shared->Prop),Inv X pins σ H s->(∀b∈fp,zQ_ X pins H b)->tn i s.heap->J.stop i H ->
  wpAny (model P w) X.A (pyNext (.ref it)) (λr s1=>r=none/\Inv X pins σ H s1) E s
 self:∀(A:Around)(i:Nat)(s:Shared)(Q:Value->Shared->Prop)(E:Value->Shared->Prop),tn i s.heap->Q (.ref it) s->wpAny (model P w) A (pyIter (.ref it)) Q E s
abbrev TI:=St->Hp->(It->Hp->Prop)->Prop
def PIE(X:Cx)(pins:List (Addr×Obj))(σ:St)(tg:Expr)(R:It->Hp->Prop)(itv:Value)(s2:Shared):Prop :=
 ∃(it:Addr)(fp:List Addr)(tn:Nat->Heap->Prop)(J:It)(H':Hp),itv=.ref it/\Inv X pins σ H' s2/\Turn X.prog X.w X.K tg J fp it tn/\tn 0 s2.heap/\(∀b∈fp,zQ_ X pins H' b)/\R J H'
def PI(X:Cx)(tg iter:Expr)(wi:TI):Prop :=
 ∀(pins:List (Addr×Obj))(s:Shared)(σ:St)(H:Hp)(R:It->Hp->Prop),Inv X pins σ H s->wi σ H R ->
  wpAny (model X.prog X.w) X.A (eval iter X.env) (λv s1=>wpAny (model X.prog X.w) X.A (pyIter v) (PIE X pins σ tg R) X.xe s1) X.xe s
theorem yd_{M:Model}{A:Around}{E:Value->Shared->Prop}{s:Shared}{tg:Expr}{it:Addr}{u:Value}{o:Obj}{n:String}{vs:Array Value}{Q:Unit->Shared->Prop}(ho:s.heap.get? it=some o)(hc:o.cls=.type n)(hd:o.data=.fields vs)
  (hn:["enumerate", "zip", "dict_itemiterator", "dict_reverseitemiterator", "odict_iterator", "itertools.zip_longest", "itertools.pairwise"].contains n=false) (hQ:Q () s):wpAny M A (letOwnedTupleGo tg (.ref it) u) Q E s:=by
 unfold letOwnedTupleGo
 cases tg<;>first
  |exact wpAny_pure hQ
  | (cases u<;>first
    |exact wpAny_pure hQ
    | (refine wpAny_bind (wpAny_load ho ?_)
       rw[hc,hd]
       show wpAny M A (if (["enumerate", "zip", "dict_itemiterator", "dict_reverseitemiterator", "odict_iterator", "itertools.zip_longest", "itertools.pairwise"].contains n&&vs[0]?==some (rawInt _))=true then _ else _) Q E s
       rw[if_neg (by intro h;rw[hn,Bool.false_and]at h;cases h)]
       exact wpAny_pure hQ))
def Itl(K:PySem.W.Frag)(a:Addr):It :=
 ⟨λi H=>∃xs x,SqL K H a xs/\xs[i]?=some x,λi H x H'=>H'=H/\∀xs,SqL K H a xs->xs[i]?=some x,λi H=>∃xs,SqL K H a xs/\xs.length<=i⟩
def Itt(K:PySem.W.Frag)(a:Addr):It :=
 ⟨λi H=>∃xs x,SqT K H a xs/\xs[i]?=some x,λi H x H'=>H'=H/\∀xs,SqT K H a xs->xs[i]?=some x,λi H=>∃xs,SqT K H a xs/\xs.length<=i⟩
def Itr(lo:Int)(n:Nat):It:=⟨λi _=>i<n,λi H x H'=>H'=H/\x=.int (lo+i),λi _=>n<=i⟩
theorem acx_{P:Program}{w:World}{K:PySem.W.Frag}{tg:Expr}(a it:Addr):Turn P w K tg (Itl K a) [it] it (λi h=>h.IsListIter it a i) where
 mem:=by simp
 obj:=λi h st b hb=>by
  have e:b=it:=by simpa using hb
  subst e
  obtain⟨o,e,c,d⟩:=st
  exact⟨o,e,λv z=>by rw[d]at z;cases z⟩
 keep:=λi h h' st k=>st.at λo e=>k it (by simp) o e
 item:=by
  intro X hP hw hK hc i pins s σ H E I hf st hg
  subst hP hw hK
  obtain⟨xs,x,hq,hx⟩:=hg
  obtain⟨its,rv,p,hz⟩:=I.list hq
  obtain⟨u,hu,ru⟩:=rv.get hx
  obtain⟨f0,f1,f2,f3,f4,f5⟩:=hf it (by simp)
  refine wpAny_pyNext_list_item st p.isList (x:=u) (by simpa using hu) λh' st' sb=>?_
  have I1:Inv X pins σ H { s with heap:=h' }:=I.turned (t':=s.toks) (λb o hb e=>(sb.2 b hb).trans e) f0 f1 f3 f4 f5
  obtain⟨o,e,c,d⟩:=id st'
  exact⟨u,rfl,yd_ (s:={ s with heap:=h' }) e c d (by decide) ⟨x,H,I1,ru,⟨rfl,λys hy=>by rw[I.list_inj hy hq];exact hx⟩,st',λb hb=>(hf b hb).1⟩⟩
 done:=by
  intro X hP hw hK hc i pins s σ H E I hf st hg
  subst hP hw hK
  obtain⟨xs,hq,hx⟩:=hg
  obtain⟨its,rv,p,hz⟩:=I.list hq
  obtain⟨f0,f1,f2,f3,f4,f5⟩:=hf it (by simp)
  have hl:=rv.length
  exact wpAny_pyNext_list_end (I.ok.hd hc) st p.isList (by simp;omega) λh' eb=>⟨rfl,I.turned (t':=s.toks) (λb o hb e=>eb b o hb e) f0 f1 f3 f4 f5⟩
 self:=λ_ _ _ _ _ st h=>wpAny_pyIter_listiter st h
theorem aav_{P:Program}{w:World}{K:PySem.W.Frag}{tg:Expr}(a it:Addr):Turn P w K tg (Itt K a) [it] it (λi h=>h.IsTupleIter it a i) where
 mem:=by simp
 obj:=λi h st b hb=>by
  have e:b=it:=by simpa using hb
  subst e
  obtain⟨o,e,c,d⟩:=st
  exact⟨o,e,λv z=>by rw[d]at z;cases z⟩
 keep:=λi h h' st k=>st.at λo e=>k it (by simp) o e
 item:=by
  intro X hP hw hK hc i pins s σ H E I hf st hg
  subst hP hw hK
  obtain⟨xs,x,hq,hx⟩:=hg
  obtain⟨its,rv,p,hz⟩:=I.tuple hq
  obtain⟨u,hu,ru⟩:=rv.get hx
  obtain⟨f0,f1,f2,f3,f4,f5⟩:=hf it (by simp)
  refine wpAny_pyNext_tuple_item st (show s.heap.IsTuple a its.toArray from p) (x:=u) (by simpa using hu) λh' st' sb=>?_
  have I1:Inv X pins σ H { s with heap:=h' }:=I.turned (t':=s.toks) (λb o hb e=>(sb.2 b hb).trans e) f0 f1 f3 f4 f5
  obtain⟨o,e,c,d⟩:=id st'
  exact⟨u,rfl,yd_ (s:={ s with heap:=h' }) e c d (by decide) ⟨x,H,I1,ru,⟨rfl,λys hy=>by rw[I.tuple_inj hy hq];exact hx⟩,st',λb hb=>(hf b hb).1⟩⟩
 done:=by
  intro X hP hw hK hc i pins s σ H E I hf st hg
  subst hP hw hK
  obtain⟨xs,hq,hx⟩:=hg
  obtain⟨its,rv,p,hz⟩:=I.tuple hq
  obtain⟨f0,f1,f2,f3,f4,f5⟩:=hf it (by simp)
  have hl:=rv.length
  exact wpAny_pyNext_tuple_end (I.ok.hd hc) st (show s.heap.IsTuple a its.toArray from p) (by simp;omega) λh' eb=>⟨rfl,I.turned (t':=s.toks) (λb o hb e=>eb b o hb e) f0 f1 f3 f4 f5⟩
 self:=λ_ _ _ _ _ st h=>wpAny_pyIter_tupleiter st h
theorem abd_{P:Program}{w:World}{K:PySem.W.Frag}{tg:Expr}(it:Addr)(lo:Int)(n:Nat):Turn P w K tg (Itr lo n) [it] it (λi h=>IsRangeIter h it (lo+(i:Nat)*1) ((n:Int)-(i:Nat)) 1) where
 mem:=by simp
 obj:=λi h st b hb=>by
  have e:b=it:=by simpa using hb
  subst e
  exact⟨_,st,λv z=>by
   have z':Data.fields _=Data.cell v:=z
   cases z'⟩
 keep:=λi h h' st k=>k it (by simp) _ st
 item:=by
  intro X hP hw hK hc i pins s σ H E I hf st hg
  subst hP hw hK
  obtain⟨f0,f1,f2,f3,f4,f5⟩:=hf it (by simp)
  have W:=Walks.range (prog:=X.prog) (w:=X.w) (I.ok.hd hc) it lo 1 n
  refine W.item i s _ _ hg st λv h' tk hv st' kk=>?_
  obtain⟨t,rfl⟩:=hv
  have I1:Inv X pins σ H { s with heap:=h',toks:=tk }:=I.turned (λb o hb e=>kk b o (by simpa using hb) e) f0 f1 f3 f4 f5
  refine⟨_,rfl,yd_ (s:={ s with heap:=h',toks:=tk }) (n := "range_iterator") st' rfl rfl (by decide) ⟨.int (lo+i),H,I1,⟨t,?_⟩,⟨rfl,rfl⟩,st',λb hb=>(hf b hb).1⟩⟩
  rw[Int.mul_one]
 done:=by
  intro X hP hw hK hc i pins s σ H E I hf st hg
  subst hP hw hK
  obtain⟨f0,f1,f2,f3,f4,f5⟩:=hf it (by simp)
  exact wpAny_pyNext_range_end (I.ok.hd hc) st (by have:n<=i:=hg;omega) λh' eb=>⟨rfl,I.turned (t':=s.toks) (λb o hb e=>eb b o hb e) f0 f1 f3 f4 f5⟩
 self:=λ_ _ _ _ _ st h=>wpAny_pyIter_rangeiter st h
end L2
namespace L2
open PySem PySem.Spec PyProof.Rows
section
variable{X:Cx}{tg:Expr}
def ajz_(K:PySem.W.Frag)(tl:TE):TI:=λσ H R=>tl σ H λx H1=>∃a,x=.ref a/\(∃xs,SqL K H1 a xs)/\R (Itl K a) H1
def iTup(K:PySem.W.Frag)(tl:TE):TI:=λσ H R=>tl σ H λx H1=>∃a,x=.ref a/\(∃xs,SqT K H1 a xs)/\R (Itt K a) H1
theorem zG_{l:Expr}{tl:TE}(hl:PE X l tl):PI X tg l (ajz_ X.K tl):=by
 intro pins s σ H R I h
 refine thn (hl pins s σ H _ I h) λv s1 ⟨x,H1,I1,r1,q1⟩=>?_
 obtain⟨a,e,⟨xs,hq⟩,q⟩:=q1
 subst e
 cases r1
 obtain⟨its,rv,p,hz⟩:=I1.list hq
 refine wpAny_pyIter_list p.isList ?_
 refine⟨s1.heap.objs.size,[s1.heap.objs.size],_,_,H1,rfl,I1.kept (t':=s1.toks) λb o e=>AA _ e,acx_ a _,⟨_,AE _ rfl,rfl,rfl⟩,λb hb=>?_,q⟩
 have e:b=s1.heap.objs.size:=by simpa using hb
 subst e
 exact I1.fpOk (AB _) (I1.hok.fresh (AB _))
theorem ain_{l:Expr}{tl:TE}(hl:PE X l tl):PI X tg l (iTup X.K tl):=by
 intro pins s σ H R I h
 refine thn (hl pins s σ H _ I h) λv s1 ⟨x,H1,I1,r1,q1⟩=>?_
 obtain⟨a,e,⟨xs,hq⟩,q⟩:=q1
 subst e
 cases r1
 obtain⟨its,rv,p,hz⟩:=I1.tuple hq
 refine wpAny_pyIter_tuple (show s1.heap.IsTuple a its.toArray from p) ?_
 refine⟨s1.heap.objs.size,[s1.heap.objs.size],_,_,H1,rfl,I1.kept (t':=s1.toks) λb o e=>AA _ e,aav_ a _,⟨_,AE _ rfl,rfl,rfl⟩,λb hb=>?_,q⟩
 have e:b=s1.heap.objs.size:=by simpa using hb
 subst e
 exact I1.fpOk (AB _) (I1.hok.fresh (AB _))
theorem aeg_{pins:List (Addr×Obj)}{σ:St}{H:Hp}{s:Shared}{R:It->Hp->Prop}{E:Value->Shared->Prop}{lo hi:Int}{t u v:Tok}{tk:Nat}(I:Inv X pins σ H s)(h1:-(2^62)<=lo)(h2:lo<2^62)(h3:-(2^62)<=hi)(h4:hi<2^62)
  (q:R (Itr lo (hi-lo).toNat) H):wpAny (model X.prog X.w) X.A (pyIter (.ref s.heap.objs.size)) (PIE X pins σ tg R) E { s with heap:=s.heap.push { cls:=.type "range",data:=.fields #[.int lo t,.int hi u,.int 1 v] },toks:=tk }:=by
 refine wpAny_pyIter_range (IsRange.new ..) (small_one h1 h2 h3 h4) ?_
 have I1:Inv X pins σ H { s with heap:=s.heap.push { cls:=.type "range",data:=.fields #[.int lo t,.int hi u,.int 1 v] },toks:=tk }:=I.kept λb o e=>AA _ e
 refine⟨(s.heap.push { cls:=.type "range",data:=.fields #[.int lo t,.int hi u,.int 1 v] }).objs.size,[(s.heap.push { cls:=.type "range",data:=.fields #[.int lo t,.int hi u,.int 1 v] }).objs.size],_,_,H,rfl,
  I1.kept (t':=tk) λb o e=>AA _ e,abd_ _ lo (hi-lo).toNat,?_,λb hb=>?_,q⟩
 ·have e1:lo+((0:Nat):Int)*1=lo:=by simp
  have e2:(((hi-lo).toNat:Nat):Int)-((0:Nat):Int)=Builtin.Range.rangeSize lo hi 1:=by rw[rangeSize_one];split<;>omega
  show IsRangeIter _ _ (lo+((0:Nat):Int)*1) ((((hi-lo).toNat:Nat):Int)-((0:Nat):Int)) 1
  rw[e1,e2]
  exact AE _ rfl
 ·have e:b=(s.heap.push { cls:=.type "range",data:=.fields #[.int lo t,.int hi u,.int 1 v] }).objs.size:=by simpa using hb
  subst e
  exact I1.fpOk (AB _) (I1.hok.fresh (AB _))
def ake_(ta:TA):TI:=λσ H R=>ta σ H λvs H1=>∃j:Int,vs=[.int j]/\-(2^62)<=j/\j<2^62/\R (Itr 0 j.toNat) H1
theorem xu_{a:Expr}{ta:TA}{p pos:Pos}(hg:Gl X "range")(hm:X.mg "range" = none)(ha:PA X [a] ta)(hs:starEach [a] X.env=[(false,eval a X.env)]:=by rfl):PI X tg (.Call (.Name "range" p) [a] [] pos) (ake_ ta):=by
 intro pins s σ H R I h
 refine Call_ (z5_ I hg hm boot_range (Bq (thn (ha pos pins s σ H _ I h) λus s1 ⟨vs,H1,I1,r1,q1⟩=>?_) hs rfl))
 obtain⟨j,e,q1,q2,q⟩:=q1
 subst e
 cases r1 with
 |cons r rr =>
  cases rr
  obtain⟨t,rfl⟩:=r
  exact call_range_1 (aeg_ I1 (by omega) (by omega) q1 q2 (by simpa using q))
def tFor(wi:TI)(g:TG)(tb:TS):TS:=λD σ H=>wi σ H λJ H1=>∃W:Nat->Nat->St->Hp->Prop,(∃m,W 0 m σ H1)/\∀i m σ H,W i m σ H ->
 (J.stop i H/\D.nx σ H)∨(J.go i H/\∃N:St->Hp->Prop,(∀σ' H',N σ' H'->∃m',m'<m/\W (i+1) m' σ' H')/\∀x H',J.yld i H x H'->g x σ H' λσ2 H2=>tb { D with nx:=N,ct:=N,bk:=D.nx } σ2 H2)
def jS_(fp:List Addr)(h:Heap):List (Addr×Obj):=fp.filterMap λb=>(h.get? b).map λo=>(b,o)
theorem zt_{fp:List Addr}{h:Heap}{b:Addr}{o:Obj}(hb:b∈fp)(e:h.get? b=some o):(b,o)∈jS_ fp h:=Cy.mpr ⟨b,hb,by rw[e];rfl⟩
theorem adc_{fp:List Addr}{h:Heap}{p:Addr×Obj}(hp:p∈jS_ fp h):p.1∈fp/\h.get? p.1=some p.2:=by
 obtain⟨b,hb,e⟩:=Cy.mp hp
 cases q:h.get? b with
 |none=>rw[q]at e;cases e
 |some o =>
  rw[q]at e
  have e':(b,o)=p:=AX e
  subst e'
  exact⟨hb,q⟩
theorem Inv.pinned{pins:List (Addr×Obj)}{σ:St}{H:Hp}{s:Shared}{fp:List Addr}(I:Inv X pins σ H s)(hf:∀b∈fp,zQ_ X pins H b)(ho:∀b∈fp,∃o,s.heap.get? b=some o/\∀v,o.data≠.cell v):Inv X (pins++jS_ fp s.heap) σ H s :=
 I.pins_of λp hp=>(Aa.mp hp).elim (λz=>I.pin p (AV _ z)) λz=>by
  obtain⟨hb,e⟩:=adc_ z
  obtain⟨f0,f1,f2,_⟩:=hf p.1 hb
  obtain⟨o,e',d⟩:=ho p.1 hb
  rw[e]at e';cases e'
  exact⟨e,f0,f1,f2,d⟩
theorem Inv.unpinned{pins pl:List (Addr×Obj)}{σ:St}{H:Hp}{s:Shared}(I:Inv X (pins++pl) σ H s):Inv X pins σ H s:=I.pins_of λp hp=>I.pin p (AV _ (Ay _ hp))
theorem zf_{iter:Expr}{body:List Stmt}{wi:TI}{g:TG}{tb:TS}{pos:Pos}(hp:PassesOwn (model X.prog X.w) X.A X.env X.xe)(hc:X.calm=true)(hi:PI X tg iter wi)(hg:PG X tg g)(hb:PSs X body tb)
  (hs:∀x,foldedSetIterable iter X.env x=pure x:=by intro _;rfl):PS X (.For tg iter body [] pos) (tFor wi g tb):=by
 intro pins s σ H D I h
 refine wpAny_For (thn (hi pins s σ H _ I h) λv s1 h1=>thn h1 λitv s2 h2=>?_) hs
 obtain⟨it,fp,tn,J,H2,e,I2,T,st2,f2,W,⟨m0,w0⟩,turn⟩:=h2
 subst e
 have stat:∀{H':Hp},(∀b∈fp,H' b=none)->∀b∈fp,zQ_ X pins H' b:=λhn b hb=>⟨hn b hb,(f2 b hb).2⟩
 refine codeAny_forLoop_any (λn s'=>∃i σ' H',Inv X pins σ' H' s'/\tn i s'.heap/\(∀b∈fp,H' b=none)/\W i n σ' H') ?_ m0 ⟨0,σ,H2,I2,st2,λb hb=>(f2 b hb).1,w0⟩
 rintro n s3 ⟨i,σ3,H3,I3,st3,fr3,w3⟩
 rcases turn i n σ3 H3 w3 with⟨stop,qn⟩|⟨go,N,hN,step⟩
 ·refine wpAny_passesOwn hp (thn (T.done X rfl rfl rfl hc i pins s3 σ3 H3 X.xe I3 (stat fr3) st3 stop) λr s4 ⟨hr,I4⟩=>?_)
  subst hr
  exact wpAny_execs_nil ⟨σ3,H3,I4,qn⟩
 ·refine wpAny_passesOwn hp (thn (T.item X rfl rfl rfl hc i pins s3 σ3 H3 X.xe I3 (stat fr3) st3 go) λr s4 ⟨u,hr,h4⟩=>?_)
  subst hr
  refine wpAny_passesOwn hp (thn h4 λ_ s5 ⟨x,H5,I5,r5,y5,st5,fr5⟩=>?_)
  have I5':=I5.pinned (stat fr5) (T.obj _ _ st5)
  refine wpAny_passesOwn hp (thn (hg _ s5 σ3 H5 x u _ I5' r5 (step x H5 y5)) λ_ s6 ⟨σ6,H6,I6,q6⟩=>?_)
  refine wpAny_passesOwn hp (thn (hb _ s6 σ6 H6 _ I6 q6) λf s7 q7=>?_)
  have again:∀{σ7:St}{H7:Hp},Inv X (pins++jS_ fp s5.heap) σ7 H7 s7->N σ7 H7->∃m,m<n/\∃i σ' H',Inv X pins σ' H' s7/\tn i s7.heap/\(∀b∈fp,H' b=none)/\W i m σ' H':=λ{σ7 H7} I7 n7=>by
   obtain⟨m',hm,w7⟩:=hN σ7 H7 n7
   refine⟨m',hm,i+1,σ7,H7,I7.unpinned,T.keep _ _ _ st5 λb hb o e=>(I7.pin (b,o) (AV _ (AV _ (zt_ hb e)))).1,λb hb=>?_,w7⟩
   obtain⟨o,e,d⟩:=T.obj _ _ st5 b hb
   exact(I7.pin (b,o) (AV _ (AV _ (zt_ hb e)))).2.1
  cases f with
  |next=>obtain⟨σ7,H7,I7,n7⟩:=q7;exact again I7 n7
  |cont=>obtain⟨σ7,H7,I7,n7⟩:=q7;exact again I7 n7
  |brk=>obtain⟨σ7,H7,I7,q7⟩:=q7;exact⟨σ7,H7,I7.unpinned,q7⟩
  |ret v=>obtain⟨x7,σ7,H7,I7,r7,q7⟩:=q7;exact⟨x7,σ7,H7,I7.unpinned,r7,q7⟩
end
theorem zZ_{K:PySem.W.Frag}{a:Addr}{xs:List V}{g:TG}{tb:TS}{D:Ends}{σ:St}{H:Hp}(Pv:Nat->St->Hp->Prop)(h0:Pv 0 σ H)(hl:∀i σ H,i<=xs.length->Pv i σ H->SqL K H a xs)
  (hs:∀i x σ H,xs[i]?=some x->Pv i σ H->g x σ H λσ2 H2=>tb { D with nx:=Pv (i+1),ct:=Pv (i+1),bk:=D.nx } σ2 H2) (hd:∀σ H,Pv xs.length σ H->D.nx σ H) :
  ∃W:Nat->Nat->St->Hp->Prop,(∃m,W 0 m σ H)/\∀i m σ H,W i m σ H ->
   ((Itl K a).stop i H/\D.nx σ H)∨((Itl K a).go i H/\∃N:St->Hp->Prop,(∀σ' H',N σ' H'->∃m',m'<m/\W (i+1) m' σ' H')/\∀x H',(Itl K a).yld i H x H'->g x σ H' λσ2 H2=>tb { D with nx:=N,ct:=N,bk:=D.nx } σ2 H2):=by
 refine⟨λi m σ H=>m=xs.length-i/\i<=xs.length/\Pv i σ H,⟨xs.length,by simp,AU _,h0⟩,?_⟩
 rintro i m σ H ⟨rfl,hi,p⟩
 have q:=hl i σ H hi p
 by_cases hlt:i<xs.length
 ·refine .inr ⟨⟨xs,xs[i],q,by simp [hlt]⟩,Pv (i+1),λσ' H' p'=>⟨xs.length-(i+1),by omega,rfl,hlt,p'⟩,λx H' y=>?_⟩
  obtain⟨e,y⟩:=y
  subst e
  exact hs i x σ _ (y xs q) p
 ·have e:i=xs.length:=by omega
  subst e
  exact .inl ⟨⟨xs,q,AB _⟩,hd σ H p⟩
theorem xr_{lo:Int}{n:Nat}{g:TG}{tb:TS}{D:Ends}{σ:St}{H:Hp}(Pv:Nat->St->Hp->Prop)(h0:Pv 0 σ H)
  (hs:∀i σ H,i<n->Pv i σ H->g (.int (lo+i)) σ H λσ2 H2=>tb { D with nx:=Pv (i+1),ct:=Pv (i+1),bk:=D.nx } σ2 H2) (hd:∀σ H,Pv n σ H->D.nx σ H) :
  ∃W:Nat->Nat->St->Hp->Prop,(∃m,W 0 m σ H)/\∀i m σ H,W i m σ H ->
   ((Itr lo n).stop i H/\D.nx σ H)∨((Itr lo n).go i H/\∃N:St->Hp->Prop,(∀σ' H',N σ' H'->∃m',m'<m/\W (i+1) m' σ' H')/\∀x H',(Itr lo n).yld i H x H'->g x σ H' λσ2 H2=>tb { D with nx:=N,ct:=N,bk:=D.nx } σ2 H2):=by
 refine⟨λi m σ H=>m=n-i/\i<=n/\Pv i σ H,⟨n,by simp,AU _,h0⟩,?_⟩
 rintro i m σ H ⟨rfl,hi,p⟩
 by_cases hlt:i<n
 ·refine .inr ⟨hlt,Pv (i+1),λσ' H' p'=>⟨n-(i+1),by omega,rfl,hlt,p'⟩,λx H' y=>?_⟩
  obtain⟨e,y⟩:=y
  subst e y
  exact hs i σ _ hlt p
 ·have e:i=n:=by omega
  subst e
  exact .inl ⟨AB _,hd σ H p⟩
end L2
namespace L2
open PySem PySem.Spec PyProof.Rows
abbrev R2:=V->V->Hp->VK->Prop
def OpR(X:Cx)(f:Value->Value->Sem Value)(r:R2):Prop :=
 ∀(pins:List (Addr×Obj))(s:Shared)(σ:St)(H:Hp)(x y:V)(v u:Value)(Q:VK),Inv X pins σ H s->RelV x v->RelV y u->r x y H Q ->
  wpAny (model X.prog X.w) X.A (f v u) (EP X pins σ Q) X.xe s
def UnR(X:Cx)(f:Value->Sem Value)(r:V->Hp->VK->Prop):Prop :=
 ∀(pins:List (Addr×Obj))(s:Shared)(σ:St)(H:Hp)(x:V)(v:Value)(Q:VK),Inv X pins σ H s->RelV x v->r x H Q ->
  wpAny (model X.prog X.w) X.A (f v) (EP X pins σ Q) X.xe s
def CallR(X:Cx)(f:Value)(r:List V->Hp->VK->Prop):Prop :=
 ∀(pins:List (Addr×Obj))(s:Shared)(σ:St)(H:Hp)(xs:List V)(us:List Value)(Q:VK),Inv X pins σ H s->Vals xs us->r xs H Q ->
  wpAny (model X.prog X.w) X.A (call f us) (EP X pins σ Q) X.xe s
def tOp(r:R2)(ta tb:TE):TE:=λσ H Q=>ta σ H λx H1=>tb σ H1 λy H2=>r x y H2 Q
def tUn(r:V->Hp->VK->Prop)(ta:TE):TE:=λσ H Q=>ta σ H λx H1=>r x H1 Q
def rI(C:Int->Int->Prop)(g:Int->Int->V):R2:=λx y H Q=>∃i j,x=.int i/\y=.int j/\C i j/\Q (g i j) H
def rI0(g:Int->Int->V):R2:=λx y H Q=>∃i j,x=.int i/\y=.int j/\Q (g i j) H
def rU(g:Int->V):V->Hp->VK->Prop:=λx H Q=>∃i,x=.int i/\Q (g i) H
section
variable{X:Cx}{a b c:Expr}{ta tb tc:TE}{pos:Pos}
theorem binT(ha:PE X a ta)(hb:PE X b tb){pins:List (Addr×Obj)}{s:Shared}{σ:St}{H:Hp}{R:V->V->Hp->Prop}(I:Inv X pins σ H s)
  (h:ta σ H λx H1=>tb σ H1 λy H2=>R x y H2) {Q:Value->Shared->Prop} {f:Value->Value->Sem Value}
  (hf:∀v u s2 x y H2,Inv X pins σ H2 s2->RelV x v->RelV y u->R x y H2->wpAny (model X.prog X.w) X.A (f v u) Q X.xe s2) :
  wpAny (model X.prog X.w) X.A (eval a X.env) (λv s₁=>wpAny (model X.prog X.w) X.A (eval b X.env) (λu s₂=>wpAny (model X.prog X.w) X.A (f v u) Q X.xe s₂) X.xe s₁) X.xe s:=by
 refine thn (ha pins s σ H _ I h) λv s1 ⟨x,H1,I1,r1,q1⟩=>?_
 refine thn (hb pins s1 σ H1 _ I1 q1) λu s2 ⟨y,H2,I2,r2,q2⟩=>?_
 exact hf v u s2 x y H2 I2 r1 r2 q2
theorem qi_{op:Operator}{r:R2}(ho:OpR X (binaryOp op) r)(ha:PE X a ta)(hb:PE X b tb):PE X (.BinOp a op b pos) (tOp r ta tb):=by
 intro pins s σ H Q I h
 exact wpAny_BinOp (binT ha hb I h λv u s2 x y H2 I2 rx ry q=>ho pins s2 σ H2 x y v u Q I2 rx ry q)
theorem yS_{op:UnaryOp}{r:V->Hp->VK->Prop}(ho:UnR X (unaryOp op) r)(ha:PE X a ta):PE X (.UnaryOp op a pos) (tUn r ta):=by
 intro pins s σ H Q I h
 exact UnaryOp_ (thn (ha pins s σ H _ I h) λv s1 ⟨x,H1,I1,r1,q1⟩=>ho pins s1 σ H1 x v Q I1 r1 q1)
theorem opI{f:Value->Value->Sem Value}{C:Int->Int->Prop}{g:Int->Int->Int}
  (rule:∀(i j:Int)(t u:Tok)(s:Shared)(Q:Value->Shared->Prop)(E:Value->Shared->Prop),C i j->Q (.int (g i j) s.toks) { s with toks:=s.toks+1 }->wpAny (model X.prog X.w) X.A (f (.int i t) (.int j u)) Q E s) :
  OpR X f (rI C λi j=>.int (g i j)):=by
 intro pins s σ H x y v u Q I rx ry h
 obtain⟨i,j,rfl,rfl,hc,q⟩:=h
 obtain⟨t,rfl⟩:=rx
 obtain⟨t',rfl⟩:=ry
 exact rule i j t t' s _ _ hc ⟨.int (g i j),H,I.tok _,⟨_,rfl⟩,q⟩
theorem opI0{f:Value->Value->Sem Value}{g:Int->Int->Int}
  (rule:∀(i j:Int)(t u:Tok)(s:Shared)(Q:Value->Shared->Prop)(E:Value->Shared->Prop),Q (.int (g i j) s.toks) { s with toks:=s.toks+1 }->wpAny (model X.prog X.w) X.A (f (.int i t) (.int j u)) Q E s) :
  OpR X f (rI0 λi j=>.int (g i j)):=by
 intro pins s σ H x y v u Q I rx ry h
 obtain⟨i,j,rfl,rfl,q⟩:=h
 obtain⟨t,rfl⟩:=rx
 obtain⟨t',rfl⟩:=ry
 exact rule i j t t' s _ _ ⟨.int (g i j),H,I.tok _,⟨_,rfl⟩,q⟩
theorem opB0{f:Value->Value->Sem Value}{g:Int->Int->Bool}
  (rule:∀(i j:Int)(t u:Tok)(s:Shared)(Q:Value->Shared->Prop)(E:Value->Shared->Prop),Q (.bool (g i j)) s->wpAny (model X.prog X.w) X.A (f (.int i t) (.int j u)) Q E s) :
  OpR X f (rI0 λi j=>.bl (g i j)):=by
 intro pins s σ H x y v u Q I rx ry h
 obtain⟨i,j,rfl,rfl,q⟩:=h
 obtain⟨t,rfl⟩:=rx
 obtain⟨t',rfl⟩:=ry
 exact rule i j t t' s _ _ ⟨.bl (g i j),H,I,rfl,q⟩
def CDiv(i j:Int):Prop:=0<j/\j<1073741824
def CPow(i j:Int):Prop:=0<=j/\j<=1000000/\i.natAbs<2^64
def CMul(i j:Int):Prop:=(-(2^64)<i/\i<2^64)∨(-(2^64)<j/\j<2^64)
theorem CMul.ok{i j:Int}(h:CMul i j):IntMulOk i j:=by
 rcases h with⟨h1,h2⟩|⟨h1,h2⟩
 ·exact .of_left (intBits_le_64 h1 h2)
 ·exact .of_right (intBits_le_64 h1 h2)
theorem qM_:OpR X (binaryOp .Add) (rI0 λi j=>.int (i+j)):=opI0 λ_ _ _ _ _ _ _ q=>add_int q
theorem x8_:OpR X (binaryOp .Sub) (rI0 λi j=>.int (i-j)):=opI0 λ_ _ _ _ _ _ _ q=>sub_int q
theorem xn_:OpR X (binaryOp .Mult) (rI CMul λi j=>.int (i*j)):=opI λ_ _ _ _ _ _ _ hc q=>mul_int q hc.ok
theorem zX_:OpR X (binaryOp .FloorDiv) (rI CDiv λi j=>.int (i / j)):=opI λi j _ _ _ _ _ hc q=>by
 have h1:(0:Int)<j:=hc.1
 have h2:j<1073741824:=hc.2
 exact floordiv_int (by omega) (by rw[Int.fdiv_eq_ediv_of_nonneg i (by omega)];exact q) (.inl (Dd (by omega)))
theorem q1_:OpR X (binaryOp .Mod) (rI (λ_ j=>0<j) λi j=>.int (i%j)):=opI λi j _ _ _ _ _ hc q=>by
 have h1:(0:Int)<j:=hc
 exact mod_int' (by omega) (by rw[Int.fmod_eq_emod_of_nonneg i (by omega)];exact q)
theorem ahw_:OpR X (binaryOp .Pow) (rI CPow λi j=>.int (i^j.toNat)):=opI λ_ _ _ _ _ _ _ hc q=>pow_int_small hc.1 hc.2.1 hc.2.2 q
theorem unI{f:Value->Sem Value}{g:Int->Int}
  (rule:∀(i:Int)(t:Tok)(s:Shared)(Q:Value->Shared->Prop)(E:Value->Shared->Prop),Q (.int (g i) s.toks) { s with toks:=s.toks+1 }->wpAny (model X.prog X.w) X.A (f (.int i t)) Q E s) :
  UnR X f (rU λi=>.int (g i)):=by
 intro pins s σ H x v Q I rx h
 obtain⟨i,rfl,q⟩:=h
 obtain⟨t,rfl⟩:=rx
 exact rule i t s _ _ ⟨.int (g i),H,I.tok _,⟨_,rfl⟩,q⟩
theorem yf_:UnR X (unaryOp .USub) (rU λi=>.int (-i)):=unI λ_ _ _ _ _ q=>neg_int q
end
def scal:V->V->Bool
 |.non,.non=>true|.non,.int _=>true|.int _,.non=>true|.non,.bl _=>true|.bl _,.non=>true|.non,.str _=>true|.str _,.non=>true
 |.int _,.int _=>true|.bl _,.bl _=>true|.str _,.str _=>true|.byt _,.byt _=>true
 |.int _,.str _=>true|.str _,.int _=>true|.bl _,.str _=>true|.str _,.bl _=>true
 |_,_=>false
def rEq:R2:=λx y H Q=>scal x y=true/\Q (.bl (decide (x=y))) H
def rNe:R2:=λx y H Q=>scal x y=true/\Q (.bl (!decide (x=y))) H
theorem aak_{i j:Int}:decide (V.int i=V.int j)=(i==j):=by
 rw[Bi]
 simp
theorem ab2_{i j:Bool}:decide (V.bl i=V.bl j)=(i==j):=by
 rw[Bi]
 simp
theorem vT_{i j:Str}:decide (V.str i=V.str j)=(i==j):=by
 rw[Bi]
 simp
theorem v3_{i j:Array UInt8}:decide (V.byt i=V.byt j)=(i.toList==j.toList):=by
 rw[Bi]
 cases i
 cases j
 simp
section
variable{X:Cx}{a b c:Expr}{ta tb tc:TE}{pos:Pos}
theorem qu_{pins:List (Addr×Obj)}{σ:St}{H:Hp}{s:Shared}{Q:VK}{k k':Bool}(I:Inv X pins σ H s)(q:Q (.bl k) H)(e:k=k'):EP X pins σ Q (.bool k') s:=by
 subst e
 exact⟨.bl k,H,I,rfl,q⟩
theorem qH_:OpR X (compareOp .Eq) rEq:=by
 intro pins s σ H x y v u Q I rx ry h
 obtain⟨hs,q⟩:=h
 cases x with
 |non =>
  cases rx
  cases y with
  |non=>cases ry;exact PySem.EqNone.eq_none_none (qu_ I q (by simp))
  |bl j=>cases ry;exact PySem.EqNone.eq_none_bool (qu_ I q (by simp))
  |int j=>obtain⟨t',rfl⟩:=ry;exact PySem.EqNone.eq_none_int (qu_ I q (by simp))
  |str j=>obtain⟨t',rfl⟩:=ry;exact PySem.EqNone.eq_none_str (qu_ I q (by simp))
  |_=>exact absurd (show false=true from hs) AL
 |bl i =>
  cases rx
  cases y with
  |non=>cases ry;exact PySem.EqNone.eq_bool_none (qu_ I q (by simp))
  |bl j=>cases ry;exact eq_bool (qu_ I q ab2_)
  |str j=>obtain⟨t',rfl⟩:=ry;exact PySem.EqMixed.eq_bool_str (qu_ I q (by simp))
  |_=>exact absurd (show false=true from hs) AL
 |int i =>
  obtain⟨t,rfl⟩:=rx
  cases y with
  |non=>cases ry;exact PySem.EqNone.eq_int_none (qu_ I q (by simp))
  |int j=>obtain⟨t',rfl⟩:=ry;exact eq_int (qu_ I q aak_)
  |str j=>obtain⟨t',rfl⟩:=ry;exact PySem.EqMixed.eq_int_str (qu_ I q (by simp))
  |_=>exact absurd (show false=true from hs) AL
 |str i =>
  obtain⟨t,rfl⟩:=rx
  cases y with
  |non=>cases ry;exact PySem.EqNone.eq_str_none (qu_ I q (by simp))
  |bl j=>cases ry;exact PySem.EqMixed.eq_str_bool (qu_ I q (by simp))
  |int j=>obtain⟨t',rfl⟩:=ry;exact PySem.EqMixed.eq_str_int (qu_ I q (by simp))
  |str j=>obtain⟨t',rfl⟩:=ry;exact eq_str (qu_ I q vT_)
  |_=>exact absurd (show false=true from hs) AL
 |byt i =>
  obtain⟨t,rfl⟩:=rx
  cases y with
  |byt j=>obtain⟨t',rfl⟩:=ry;exact PySem.W.eq_bytes (qu_ I q v3_)
  |_=>exact absurd (show false=true from hs) AL
 |_=>cases y<;>exact absurd (show false=true from hs) AL
theorem xL_:OpR X (compareOp .NotEq) rNe:=by
 intro pins s σ H x y v u Q I rx ry h
 obtain⟨hs,q⟩:=h
 cases x with
 |non =>
  cases rx
  cases y with
  |non=>cases ry;exact PySem.EqNone.ne_none_none (qu_ I q (by simp))
  |bl j=>cases ry;exact PySem.EqNone.ne_none_bool (qu_ I q (by simp))
  |int j=>obtain⟨t',rfl⟩:=ry;exact PySem.EqNone.ne_none_int (qu_ I q (by simp))
  |str j=>obtain⟨t',rfl⟩:=ry;exact PySem.EqNone.ne_none_str (qu_ I q (by simp))
  |_=>exact absurd (show false=true from hs) AL
 |bl i =>
  cases rx
  cases y with
  |non=>cases ry;exact PySem.EqNone.ne_bool_none (qu_ I q (by simp))
  |bl j=>cases ry;exact ne_bool (qu_ I q (congrArg not ab2_))
  |str j=>obtain⟨t',rfl⟩:=ry;exact PySem.EqMixed.ne_bool_str (qu_ I q (by simp))
  |_=>exact absurd (show false=true from hs) AL
 |int i =>
  obtain⟨t,rfl⟩:=rx
  cases y with
  |non=>cases ry;exact PySem.EqNone.ne_int_none (qu_ I q (by simp))
  |int j=>obtain⟨t',rfl⟩:=ry;exact ne_int (qu_ I q (congrArg not aak_))
  |str j=>obtain⟨t',rfl⟩:=ry;exact PySem.EqMixed.ne_int_str (qu_ I q (by simp))
  |_=>exact absurd (show false=true from hs) AL
 |str i =>
  obtain⟨t,rfl⟩:=rx
  cases y with
  |non=>cases ry;exact PySem.EqNone.ne_str_none (qu_ I q (by simp))
  |bl j=>cases ry;exact PySem.EqMixed.ne_str_bool (qu_ I q (by simp))
  |int j=>obtain⟨t',rfl⟩:=ry;exact PySem.EqMixed.ne_str_int (qu_ I q (by simp))
  |str j=>obtain⟨t',rfl⟩:=ry;exact ne_str (qu_ I q (congrArg not vT_))
  |_=>exact absurd (show false=true from hs) AL
 |byt i =>
  obtain⟨t,rfl⟩:=rx
  cases y with
  |byt j=>obtain⟨t',rfl⟩:=ry;exact PySem.W.ne_bytes (qu_ I q (congrArg not v3_))
  |_=>exact absurd (show false=true from hs) AL
 |_=>cases y<;>exact absurd (show false=true from hs) AL
theorem yU_:OpR X (compareOp .Lt) (rI0 λi j=>.bl (decide (i<j))):=opB0 λ_ _ _ _ _ _ _ q=>lt_int q
theorem jD_:OpR X (compareOp .Gt) (rI0 λi j=>.bl (decide (j<i))):=opB0 λ_ _ _ _ _ _ _ q=>gt_int q
theorem acq_:OpR X (compareOp .In) (λx y H Q=>∃i j,x=.str i/\y=.str j/\Q (.bl (!(Builtin.Str.occurrences j i 0 j.length 1).isEmpty)) H):=by
 intro pins s σ H x y v u Q I rx ry h
 obtain⟨i,j,rfl,rfl,q⟩:=h
 obtain⟨t,rfl⟩:=rx
 obtain⟨t',rfl⟩:=ry
 exact in_str (qu_ I q rfl)
theorem abu_:OpR X (compareOp .Is) (λx y H Q=>y=.non/\Q (.bl (decide (x=.non))) H):=by
 intro pins s σ H x y v u Q I rx ry h
 obtain⟨rfl,q⟩:=h
 cases ry
 refine is_none_gen (qu_ I q ?_)
 cases x<;>first
  |(cases rx;rfl)
  |(obtain⟨t,rfl⟩:=rx;rfl)
theorem aaa_:OpR X (compareOp .IsNot) (λx y H Q=>y=.non/\Q (.bl (!decide (x=.non))) H):=by
 intro pins s σ H x y v u Q I rx ry h
 obtain⟨rfl,q⟩:=h
 cases ry
 refine isnot_none_gen (qu_ I q ?_)
 cases x<;>first
  |(cases rx;rfl)
  |(obtain⟨t,rfl⟩:=rx;rfl)
theorem OpR.or{f:Value->Value->Sem Value}{r r':R2}(h:OpR X f r)(h':OpR X f r'):OpR X f (λx y H Q=>r x y H Q∨r' x y H Q):=by
 intro pins s σ H x y v u Q I rx ry q
 rcases q with q|q
 ·exact h pins s σ H x y v u Q I rx ry q
 ·exact h' pins s σ H x y v u Q I rx ry q
theorem qn_(b:Expr){op:CmpOp}(h:op≠.In:=by decide)(h2:op≠.NotIn:=by decide):behindInMarks op b=false:=by
 have e1:(op==CmpOp.In)=false:=by cases op<;>first|rfl|exact absurd rfl h
 have e2:(op==CmpOp.NotIn)=false:=by cases op<;>first|rfl|exact absurd rfl h2
 cases b<;>simp [behindInMarks,e1,e2]
theorem xE_{op:CmpOp}{r:R2}(ho:OpR X (compareOp op) r)(ha:PE X a ta)(hb:PE X b tb)(hm:behindInMarks op b=false):PE X (.Compare a [op] [b] pos) (tOp r ta tb):=by
 intro pins s σ H Q I h
 exact wpAny_Compare1 (binT ha hb I h λv u s2 x y H2 I2 rx ry q=>ho pins s2 σ H2 x y v u Q I2 rx ry q) hm
def afx_(t:TE):TT:=λσ H Q=>t σ H λx H'=>∃k,x=.bl k/\Q k H'
theorem qk_{op:CmpOp}{r:R2}(ho:OpR X (compareOp op) r)(ha:PE X a ta)(hb:PE X b tb)(hm:behindInMarks op b=false):PT X (.Compare a [op] [b] pos) (afx_ (tOp r ta tb)):=by
 intro pins s σ H Q I h
 refine wpAny_isTrue_Compare1 (thn (ha pins s σ H _ I h) λv s1 ⟨x,H1,I1,r1,q1⟩=>thn (hb pins s1 σ H1 _ I1 q1) λu s2 ⟨y,H2,I2,r2,q2⟩ =>
  thn (ho pins s2 σ H2 x y v u _ I2 r1 r2 q2) λc s3 ⟨z,H3,I3,r3,k,e,q3⟩=>?_) hm
 subst e
 cases r3
 exact wpAny_truthy_bool ⟨H3,I3,q3⟩
def ajg_(r r':R2)(ta tb tc:TE):TE:=λσ H Q=>ta σ H λx H1=>tb σ H1 λy H2=>r x y H2 λz H3=>∃k,z=.bl k /\
 (if k=true then tc σ H3 λw' H4=>r' y w' H4 Q else Q (.bl false) H3)
theorem ad2_{op op':CmpOp}{r r':R2}(ho:OpR X (compareOp op) r)(ho':OpR X (compareOp op') r')(ha:PE X a ta)(hb:PE X b tb)(hc:PE X c tc)
  (hm:lastMarks [op,op'] [b,c]=false:=by with_unfolding_all rfl):PT X (.Compare a [op,op'] [b,c] pos) (afx_ (ajg_ r r' ta tb tc)):=by
 intro pins s σ H Q I h
 refine isTrue_chain (thn (ha pins s σ H _ I h) λv s1 ⟨x,H1,I1,r1,q1⟩=>test_link (thn (hb pins s1 σ H1 _ I1 q1) λu s2 ⟨y,H2,I2,r2,q2⟩ =>
  thn (ho pins s2 σ H2 x y v u _ I2 r1 r2 q2) λd s3 ⟨z,H3,I3,r3,k,e,q3⟩=>?_)) hm
 subst e
 cases r3
 refine wpAny_truthy_bool ?_
 cases k with
 |false =>
  obtain⟨k',e',q'⟩:=q3
  cases e'
  exact ite_ff ⟨H3,I3,q'⟩
 |true =>
  refine ite_tt (test_last (thn (hc pins s3 σ H3 _ I3 q3) λw' s4 ⟨z',H4,I4,r4,q4⟩=>thn (ho' pins s4 σ H4 y z' u w' _ I4 r2 r4 q4) λd' s5 ⟨z2,H5,I5,r5,k2,e2,q5⟩=>?_))
  subst e2
  cases r5
  exact wpAny_truthy_bool ⟨H5,I5,q5⟩
theorem jQ_:(sizeLine:Nat)<2^63:=by rw[sizeLine_eq];decide
theorem qY_:OpR X (binaryOp .Add) (λx y H Q=>∃i j,x=.str i/\y=.str j/\i.length+j.length<=sizeLine/\Q (.str (i++j)) H):=by
 intro pins s σ H x y v u Q I rx ry h
 obtain⟨i,j,rfl,rfl,hz,q⟩:=h
 obtain⟨t,rfl⟩:=rx
 obtain⟨t',rfl⟩:=ry
 exact add_str (λt' tk=>⟨.str (i++j),H,I.tok _,⟨_,rfl⟩,q⟩) hz
theorem zd_{x:V}{us:List Value}(r:Vals [x] us):∃u,us=[u]/\RelV x u:=by
 cases r with
 |cons r1 r2=>cases r2;exact⟨_,rfl,r1⟩
theorem z2_{x y:V}{us:List Value}(r:Vals [x,y] us):∃u w',us=[u,w']/\RelV x u/\RelV y w':=by
 cases r with
 |cons r1 r2 =>
  cases r2 with
  |cons r3 r4=>cases r4;exact⟨_,_,rfl,r1,r3⟩
theorem aep_:CallR X (.builtin "abs") (λxs H Q=>∃i,xs=[.int i]/\Q (.int (if i<0 then -i else i)) H):=by
 intro pins s σ H xs us Q I r h
 obtain⟨i,rfl,q⟩:=h
 obtain⟨u,rfl,t,rfl⟩:=zd_ r
 exact call_abs_int λu tk=>⟨.int (if i<0 then -i else i),H,I.tok _,⟨_,rfl⟩,q⟩
theorem xw_:CallR X (.type "str") (λxs H Q=>∃i,xs=[.int i]/\i.natAbs.log2<1920/\Q (.str (toString i)) H):=by
 intro pins s σ H xs us Q I r h
 obtain⟨i,rfl,hz,q⟩:=h
 obtain⟨u,rfl,t,rfl⟩:=zd_ r
 exact PySem.P.str_of_int hz ⟨.str _,H,I.tok _,⟨_,rfl⟩,q⟩
end
end L2
namespace L2
open PySem PySem.Spec PyProof.Rows
structure ObjM(h:Heap)(x dx C:Addr)(mA:Str->Option Value):Prop where
 obj:h.get? x=some (PySem.W.instObj C dx)
 ns:h.Ns1 dx mA
 ne:dx≠x
theorem ade_{h:Heap}{dx:Addr}{mA:Str->Option Value}(n:h.Ns1 dx mA):∃od,h.get? dx=some od/\∀name,PySem.W.lookIn name od=some (mA name):=by
 obtain⟨o,es,ep,ho,hd,hk,_,hm⟩:=n
 refine⟨o,ho,λname=>?_⟩
 have e:=hm name
 unfold nsFind findBy at e
 rw[<-Array.find?_toList]at e
 unfold PySem.W.lookIn
 rw[hd]
 dsimp only
 split
 ·rename_i y q
  rw[q]at e
  exact congrArg some e
 ·rename_i q
  rw[q]at e
  have a:es.toList.any (·.refKey)=false:=by
   rw[List.any_eq_false]
   intro y hy
   obtain⟨z,t,hkey⟩:=hk y (Array.mem_toList_iff.mp hy)
   simp [DictEntry.refKey,hkey]
  have a':¬ es.toList.any (·.refKey)=true:=by rw[a];exact AL
  rw[if_neg a']
  exact congrArg some e
theorem ObjM.look{h:Heap}{x dx C:Addr}{mA:Str->Option Value}(I:ObjM h x dx C mA):∃od,PySem.W.InstAt h x (PySem.W.instObj C dx) C (some od)/\∀name,PySem.W.lookIn name od=some (mA name) :=
 let ⟨od,ho,hl⟩:=ade_ I.ns
 ⟨od,⟨I.obj,rfl,rfl,ho⟩,hl⟩
theorem RelO.some_of{v:V}{o:Option Value}(r:RelO (some v) o):∃u,o=some u/\RelV v u:=by
 cases o with
 |none=>exact(show False from r).elim
 |some u=>exact⟨u,rfl,r⟩
section
variable{P:Program}{w:World}{H H':Hp}{h h':Heap}{a C dx:Addr}{fs fs':List (Str×V)}
theorem agf_(hok:HOk P w H h)(e:H a=some (.ins C dx fs)):∃mA,ObjM h a dx C mA/\(∀f,RelO (fs.lookup f) (mA f))/\PySem.Within mA (fs.map (·.1))/\fs.length<=1000/\H dx=some (.own a):=by
 obtain⟨d,z,ne,ob,mA,n,r,q⟩:=(show ObjOk P w H h a (.ins C dx fs) from hok a _ e)
 exact⟨mA,⟨ob,n,ne⟩,r,q,z,d⟩
end
structure Cls(K:PySem.W.Frag)(C:Addr):Prop where
 pg:PySem.W.plainGet K C Str.empty=true
 hd:PySem.W.hasDictIn K C=true
 po:PySem.W.plainOver K C=true
 sa:PySem.W.findIn K (.ref C) "__setattr__" = some (some (.builtin "object.__setattr__"))
theorem Cls.get{K:PySem.W.Frag}{C:Addr}(c:Cls K C)(f:Str):PySem.W.plainGet K C f=true:=c.pg
structure Con(K:PySem.W.Frag)(C:Addr)(f:Str)(v:V)(u:Value):Prop where
 at_:PySem.W.findIn K (.ref C) f=some (some u)
 rel:RelV v u
 get:PySem.W.specialIn K u "__get__" = some none
 cp:PySem.W.copiedNames.contains f=false
structure Meth(K:PySem.W.Frag)(C:Addr)(m:Str)(f:Addr):Prop where
 at_:PySem.W.findIn K (.ref C) m=some (some (.ref f))
 fn:PySem.W.isFn K (.ref f)=true
 kp:PySem.W.keepIn K (.ref f)=true
section
variable{X:Cx}{pins:List (Addr×Obj)}{σ:St}{H:Hp}{s:Shared}{a C dx:Addr}{fs:List (Str×V)}{f:Str}{v:V}{A:Around}{E:Value->Shared->Prop}
theorem Inv.made(I:Inv X pins σ H s):Inv X pins σ (upd (upd H s.heap.objs.size (.own (s.heap.objs.size+1))) (s.heap.objs.size+1) (.ins C s.heap.objs.size []))
  { s with heap:=(s.heap.push PySem.W.emptyDict).push (PySem.W.instObj C s.heap.objs.size) }:=by
 have e1:(s.heap.push PySem.W.emptyDict).get? s.heap.objs.size=some PySem.W.emptyDict:=AE s.heap rfl
 have e2:((s.heap.push PySem.W.emptyDict).push (PySem.W.instObj C s.heap.objs.size)).get? (s.heap.objs.size+1)=some (PySem.W.instObj C s.heap.objs.size):=by
  have:=AE (s.heap.push PySem.W.emptyDict) (o:=PySem.W.instObj C s.heap.objs.size) rfl
  rwa [BM]at this
 have e3:(s.heap.push PySem.W.emptyDict).Ns s.heap.objs.size (λ_=>none):=⟨PySem.W.emptyDict,#[],_,e1,rfl,(λe he=>absurd he (by simp)),λ_=>rfl⟩
 have I1:=I.laid (a:=s.heap.objs.size) (o:=.own (s.heap.objs.size+1)) (h':=s.heap.push PySem.W.emptyDict) (t':=s.toks) (λb u q=>AA _ q) (AB _) ⟨_,e1⟩
 refine I1.laid (a:=s.heap.objs.size+1) (o:=.ins C s.heap.objs.size []) (t':=s.toks) (λb u q=>AA _ q) (Nat.le_of_eq (BM _ _)) ?_
 have ne:s.heap.objs.size≠s.heap.objs.size+1:=AT (Nat.lt_succ_self _)
 refine⟨by rw[ql_ ne,qd_],AU _,ne,e2,λ_=>none,(Heap.Ns1.of_empty e3).at λo q=>AA _ q,λ_=>True.intro,λy hy=>absurd rfl hy⟩
end
section
variable{X:Cx}{pins:List (Addr×Obj)}{σ:St}{H:Hp}{s:Shared}{A:Around}{E:Value->Shared->Prop}{Q:Value->Shared->Prop}{c:Value}{b:Bool}
inductive TyOf (K:PySem.W.Frag) (H:Hp):V->Value->Prop where
 |non:TyOf K H .non (.type "NoneType")
 |bl (x:Bool):TyOf K H (.bl x) (.type "bool")
 |int (i:Int):TyOf K H (.int i) (.type "int")
 |str (x:Str):TyOf K H (.str x) (.type "str")
 |flt (x:UInt64):TyOf K H (.flt x) (.type "float")
 |lst {a:Addr} {xs:List V} (e:H a=some (.lst xs)):TyOf K H (.ref a) (.type "list")
 |frz {a:Addr} {o:Obj} {xs:List V} (e:H a=some (.frz o (.lst xs))):TyOf K H (.ref a) (.type "list")
 |tup {a:Addr} {xs:List V} (e:H a=some (.tup xs)):TyOf K H (.ref a) (.type "tuple")
 |dK {a:Addr} {kvs:List (Key×V)} (e:H a=some (.dK kvs)):TyOf K H (.ref a) (.type "dict")
 |dT {a:Addr} {kvs:List (List Key×V)} (e:H a=some (.dT kvs)):TyOf K H (.ref a) (.type "dict")
 |ins {a C dx:Addr} {fs:List (Str×V)} (e:H a=some (.ins C dx fs)) (cl:Cls K C) (ha:PySem.W.findIn K (.ref C) "__class__" = some (some (.builtin "object.__class__")))
   (hn:PySem.W.specialIn K (.builtin "object.__class__") "__get__" = some (some (.builtin "getset_descriptor.__get__"))) (htk:PySem.W.takesIn K (.builtin "object.__class__")=some true)
   (hm:PySem.W.mroIn K C (.type "object")=some true):TyOf K H (.ref a) (.ref C)
theorem ab4_{x:V}{u t:Value}(I:Inv X pins σ H s)(rx:RelV x u)(ty:TyOf X.K H x t)(e:PySem.W.kitOne X.K t c=some b)(h:∀tk,Q (.bool b) { s with toks:=tk }) :
  wpAny (model X.prog X.w) A (call (.builtin "isinstance") [u,c]) Q E s:=by
 cases ty with
 |non=>cases(show u=Value.none from rx);exact BH PySem.W.kitx_none I.kIn True.intro e (λz=>nomatch z) h
 |bl y=>cases(show u=Value.bool y from rx);exact BH PySem.W.kitx_bool I.kIn True.intro e (λz=>nomatch z) h
 |int i=>obtain⟨t,q⟩:=(show ∃t,u=Value.int i t from rx);cases q;exact BH PySem.W.kitx_int I.kIn True.intro e (λz=>nomatch z) h
 |str y=>obtain⟨t,q⟩:=(show ∃t,u=Value.str y t from rx);cases q;exact BH PySem.W.kitx_str I.kIn True.intro e (λz=>nomatch z) h
 |flt y=>obtain⟨t,q⟩:=(show ∃t,u=Value.float y t from rx);cases q;exact BH PySem.W.kitx_float I.kIn True.intro e (λz=>nomatch z) h
 |@lst a xs ea =>
  cases(show u=Value.ref a from rx)
  obtain⟨_,_,n,_,h1⟩:=(show ObjOk X.prog X.w H s.heap a (.lst xs) from I.hok a _ ea)
  exact BH PySem.W.kitx_list I.kIn ⟨_,h1,rfl⟩ e (λz=>nomatch z) h
 |@frz a ob xs ea =>
  cases(show u=Value.ref a from rx)
  obtain⟨_,_,_,n,_,h1⟩:=(show ObjOk X.prog X.w H s.heap a (.frz ob (.lst xs)) from I.hok a _ ea)
  exact BH PySem.W.kitx_list I.kIn ⟨_,h1,rfl⟩ e (λz=>nomatch z) h
 |@tup a xs ea =>
  cases(show u=Value.ref a from rx)
  obtain⟨_,_,_,p⟩:=(show ObjOk X.prog X.w H s.heap a (.tup xs) from I.hok a _ ea)
  obtain⟨o,h1,h2,_⟩:=p
  exact BH PySem.W.kitx_tuple I.kIn ⟨o,h1,h2⟩ e (λz=>nomatch z) h
 |@dK a kvs ea =>
  cases(show u=Value.ref a from rx)
  obtain⟨_,_,vs,_,p⟩:=(show ObjOk X.prog X.w H s.heap a (.dK kvs) from I.hok a _ ea)
  obtain⟨o,es,ep,h1,h2,_⟩:=p
  exact BH PySem.W.kitx_dict I.kIn ⟨o,h1,h2.1⟩ e (λz=>nomatch z) h
 |@dT a kvs ea =>
  cases(show u=Value.ref a from rx)
  obtain⟨_,_,xs,_,o,es,ep,h1,h2,_⟩:=(show ObjOk X.prog X.w H s.heap a (.dT kvs) from I.hok a _ ea)
  exact BH PySem.W.kitx_dict I.kIn ⟨o,h1,h2.1⟩ e (λz=>nomatch z) h
 |@ins a C dx fs ea cl ha hn htk hm =>
  cases(show u=Value.ref a from rx)
  obtain⟨mA,O,_⟩:=agf_ I.hok ea
  obtain⟨od,J,_⟩:=O.look
  exact BH (PySem.W.kitx_own (cl.get _) cl.hd ha hn htk hm) I.kIn J e (λz=>nomatch z) h
end
end L2
namespace L2
open PySem PySem.Spec PyProof.Rows
structure Room(k:Nat)(A:Around):Prop where
 hd:A.handled=none
 dp:A.depth+3*k+5<recursionLimit
 un:A.units+16*k+200<cLine
theorem Room.mono{j k:Nat}{A:Around}(r:Room k A)(h:j<=k):Room j A:=⟨r.hd,by have:=r.dp;omega,by have:=r.un;omega⟩
theorem Room.deeper{k:Nat}{A:Around}(r:Room (k+1) A)(env:Env):Room k (A.deeper env) :=
 ⟨r.hd,by have:=r.dp;show A.depth+1+3*k+5<_;omega,by have:=r.un;show A.units+3+16*k+200<_;omega⟩
theorem Room.in1{k:Nat}{A:Around}(r:Room (k+1) A):Room k A.in1 :=
 ⟨r.hd,by have:=r.dp;show A.depth+3*k+5<_;omega,by have:=r.un;show A.units+1+16*k+200<_;omega⟩
theorem Room.depth{k:Nat}{A:Around}(r:Room k A):A.depth<recursionLimit:=by have:=r.dp;omega
theorem Room.units{k:Nat}{A:Around}(r:Room k A):A.units+64<cLine:=by have:=r.un;omega
def tNil:TA:=λ_ H Q=>Q [] H
def x1_(ta:TE)(tr:TA):TA:=λσ H Q=>ta σ H λx H1=>tr σ H1 λxs H2=>Q (x::xs) H2
section
variable{X:Cx}{e:Expr}{es:List Expr}{te:TE}{t:TA}{pos:Pos}
theorem qb_:PA X [] tNil:=λ_ _ _ _ H Q I h=>Calls.spliced_nil ⟨[],H,I,.nil,h⟩
theorem qa_(ha:PE X e te)(hr:PA X es t)(hs:starEach (e::es) X.env=(false,eval e X.env)::starEach es X.env:=by rfl):PA X (e::es) (x1_ te t):=by
 intro pos pins s σ H Q I h
 rw[hs]
 show wpAny _ _ (spliced ((false,eval e X.env)::backTo pos (starEach es X.env))) _ _ s
 refine Cz (thn (ha pins s σ H _ I h) λu s1 ⟨x,H1,I1,r1,q1⟩=>?_)
 exact thn (hr pos pins s1 σ H1 _ I1 q1) λus s2 ⟨xs,H2,I2,r2,q2⟩=>⟨x::xs,H2,I2,.cons r1 r2,q2⟩
def tTup(t:TA):TE:=λσ H Q=>t σ H λxs H1=>xs.length<=sizeLine/\∀p,H1 p=none->Q (.ref p) (upd H1 p (.tup xs))
def tLst(t:TA):TE:=λσ H Q=>t σ H λxs H1=>xs.length<=sizeLine/\∀p,H1 p=none->Q (.ref p) (upd H1 p (.lst xs))
theorem zw_{x1}(h:PA X es t):PE X (.Tuple es x1 pos) (tTup t):=by
 intro pins s σ H Q I hq
 refine wpAny_Tuple_spliced (thn (h pos pins s σ H _ I hq) λus s1 ⟨xs,H1,I1,r,z,q⟩=>⟨by rw[<-r.length];exact z,?_⟩)
 have hf:H1 s1.heap.objs.size=none:=I1.hok.fresh (AB _)
 refine⟨.ref s1.heap.objs.size,upd H1 s1.heap.objs.size (.tup xs),I1.laid (t':=s1.toks) (λb u e=>AA _ e) (AB _) ?_,rfl,q _ hf⟩
 exact⟨z,us,r,⟨_,AE _ rfl,rfl,_,rfl,rfl⟩⟩
theorem qD_(h:PA X es t):PE X (.List es pos) (tLst t):=by
 intro pins s σ H Q I hq
 refine wpAny_List_spliced (thn (h pos pins s σ H _ I hq) λus s1 ⟨xs,H1,I1,r,z,q⟩=>⟨by rw[<-r.length];exact z,?_⟩)
 have hf:H1 s1.heap.objs.size=none:=I1.hok.fresh (AB _)
 refine⟨.ref s1.heap.objs.size,upd H1 s1.heap.objs.size (.lst xs),I1.laid (t':=s1.toks) (λb u e=>AA _ e) (AB _) ?_,rfl,q _ hf⟩
 exact⟨z,us,0,r,AE _ rfl⟩
end
abbrev Sp:=List V->Hp->VK->XK->Prop
abbrev CXT:=List Env->Hp->Shared->XK->Value->Shared->Prop
structure Env0(P:Program)(w:World)(K:PySem.W.Frag)(mg:Str->Option Value)(base:Heap)(A:Around)(outer:List Env)(s:Shared)(H:Hp):Prop where
 frames:A.frames=some outer
 mod:Mod K mg base
 bs:∀b o,base.get? b=some o->s.heap.get? b=some o/\H b=none
 bsz:base.objs.size<=s.heap.objs.size
 funs:s.heap.FunFrames base outer
 frf:∀b∈frs outer,H b=none
 hok:HOk P w H s.heap
 bare:AllBare s.gens
def CE(outer:List Env)(P:Program)(w:World)(H:Hp)(s:Shared)(Q:VK)(u:Value)(s':Shared):Prop :=
 ∃v H',s'.os=s.os/\AllBare s'.gens/\Un (frs outer) [] H H' s.heap s'.heap/\HOk P w H' s'.heap/\RelV v u/\Q v H'
def CR(CX:CXT)(outer:List Env)(P:Program)(w:World)(H:Hp)(s:Shared)(Q:VK)(E:XK)(r:Result)(s':Shared):Prop :=
 match r with
 |.ok (.ret u)=>CE outer P w H s Q u s'
 |.ok _=>False
 |.error e=>CX outer H s E e s'
structure FnOk(P:Program)(w:World)(K:PySem.W.Frag)(mg:Str->Option Value)(base:Heap)(CX:CXT)(k:Nat)(f:Addr)(fd:FuncData)(ps:List Str)(sp:Sp):Prop where
 len:∀vs H Q E,sp vs H Q E->vs.length=ps.length
 run:∀(A:Around)(outer:List Env)(s:Shared)(H:Hp)(args:Args)(us:List Value)(vs:List V)(Q:VK)(E:XK),Room k A->Env0 P w K mg base A outer s H->BindsTo s fd args (ps.zip us)->Vals vs us->sp vs H Q E ->
  codeAny (model P w) A (.call (.ref f) args) (CR CX outer P w H s Q E) s
theorem FnOk.mono{P:Program}{w:World}{K:PySem.W.Frag}{mg:Str->Option Value}{base:Heap}{CX:CXT}{j k:Nat}{f:Addr}{fd:FuncData}{ps:List Str}{sp:Sp}(F:FnOk P w K mg base CX j f fd ps sp)(h:j<=k) :
  FnOk P w K mg base CX k f fd ps sp:=⟨F.len,λA outer s H args us vs Q E hr=>F.run A outer s H args us vs Q E (hr.mono h)⟩
theorem Env0.in1{P:Program}{w:World}{K:PySem.W.Frag}{mg:Str->Option Value}{base:Heap}{A:Around}{outer:List Env}{s:Shared}{H:Hp}(e:Env0 P w K mg base A outer s H) :
  Env0 P w K mg base A.in1 outer s H:=⟨e.frames,e.mod,e.bs,e.bsz,e.funs,e.frf,e.hok,e.bare⟩
section
variable{X:Cx}{pins:List (Addr×Obj)}{σ:St}{H:Hp}{s s':Shared}
theorem Inv.env0(I:Inv X pins σ H s):Env0 X.prog X.w X.K X.mg X.base X.A X.stack s H :=
 ⟨I.ok.frames,I.ok.mod,I.bs,AZ I.ok.bsz I.sz,I.stack,I.stkFree,I.hok,I.bare⟩
theorem Inv.after{Q:VK}{u:Value}(I:Inv X pins σ H s)(h:CE X.stack X.prog X.w H s Q u s'):EP X pins σ Q u s':=by
 obtain⟨v,H',os,bare,un,hok,r,q⟩:=h
 obtain⟨hh,g,d,t,os'⟩:=s'
 obtain rfl:os'=s.os:=os
 exact⟨v,H',I.call (h':=hh) (g':=g) (d':=d) (t':=t) (ch:=[]) un hok bare (λb z=>absurd z (by simp)),r,q⟩
end
def aap_(sp:Sp)(dvs:List V)(E:XK)(t:TA):TE:=λσ H Q=>t σ H λvs H1=>sp (vs++dvs) H1 Q E
def Binds(K:PySem.W.Frag)(fd:FuncData)(ps:List Str)(ds:List Value):Prop :=
 ∀(s:Shared)(us:List Value),K.In s.heap->(us++ds).length=ps.length->BindsTo s fd ⟨us,[]⟩ (ps.zip (us++ds))
theorem Binds.all{K:PySem.W.Frag}{fd:FuncData}{ps:List Str}(h:∀us:List Value,us.length=ps.length->bindArgs fd ⟨us,[]⟩=pure (ps.zip us)):Binds K fd ps []:=λs us _ hl=>by
 rw[BY]at hl ⊢
 exact .of_eq (h us hl)
def xj_(CX:CXT)(X:Cx)(E:XK):Prop:=∀(pins:List (Addr×Obj))(σ:St)(H:Hp)(s:Shared)(e:Value)(s':Shared),Inv X pins σ H s->CX X.stack H s E e s'->X.xe e s'
section
variable{X:Cx}{CX:CXT}{k:Nat}{f C:Addr}{fd:FuncData}{ps:List Str}{sp:Sp}{dvs:List V}{ds:List Value}{E:XK}{x m:Str}{p pos apos:Pos}{e o:Expr}{es:List Expr}{ta:TE}{t:TA}
theorem aje_{pins:List (Addr×Obj)}{σ:St}{H:Hp}{s:Shared}{Q:VK}{us:List Value}{vs:List V}(F:FnOk X.prog X.w X.K X.mg X.base CX k f fd ps sp)(hr:Room k X.A)(hb:Binds X.K fd ps ds)(hd:Vals dvs ds)(hx:xj_ CX X E)
  (I:Inv X pins σ H s) (r:Vals vs us) (h:sp (vs++dvs) H Q E):wpAny (model X.prog X.w) X.A (call (.ref f) us) (EP X pins σ Q) X.xe s:=by
 have r2:Vals (vs++dvs) (us++ds):=r.append hd
 have hl:(us++ds).length=ps.length:=by rw[<-r2.length];exact F.len _ _ _ _ h
 refine wpAny_call (codeAny_mono (F.run X.A X.stack s H ⟨us,[]⟩ (us++ds) (vs++dvs) Q E hr I.env0 (hb s us I.kIn hl) r2 h) λr s' hq=>?_)
 cases r with
 |error e=>exact hx pins σ H s e s' I hq
 |ok fl =>
  cases fl with
  |ret u=>exact I.after hq
  |next=>exact False.elim hq
  |brk=>exact False.elim hq
  |cont=>exact False.elim hq
theorem zc_(F:FnOk X.prog X.w X.K X.mg X.base CX k f fd ps sp)(hr:Room k X.A)(hg:Gl X x)(hm:X.mg x=some (.ref f))(hk:PySem.W.keepIn X.K (.ref f)=true)(hb:Binds X.K fd ps ds)(hd:Vals dvs ds)(hx:xj_ CX X E)
  (ha:PA X (e::es) t) (hdb:(x==("__debug__" : Str))=false:=by decide) (he:starEach (e::es) X.env=(false,eval e X.env)::starEach es X.env:=by rfl) (hpl:(backTo pos (starEach es X.env)).any (·.1)=false:=by rfl) :
  PE X (.Call (.Name x p) (e::es) [] pos) (aap_ sp dvs E t):=by
 intro pins s σ H Q I h
 refine wpAny_Call_Name_kw (jX_ I hg hm ?_ hdb)
 refine PySem.W.callWith_K (h₀:=X.base) I.ok.mod.kin hk (thn (ha pos pins s σ H _ I h) λus s1 ⟨vs,H1,I1,r,q⟩=>⟨I1.kIn,?_⟩) he hpl
 exact aje_ F hr hb hd hx I1 r q
structure Mk(K:PySem.W.Frag)(C f:Addr):Prop where
 makes:PySem.W.makesIn K C=true
 init:PySem.W.findIn K (.ref C) "__init__" = some (some (.ref f))
 fn:PySem.W.isFn K (.ref f)=true
 kp:PySem.W.keepIn K (.ref C)=true
end
section
variable{X:Cx}{CX:CXT}{k:Nat}{f C:Addr}{fd:FuncData}{ps ks:List Str}{sp:Sp}{E:XK}{x m:Str}{p pos apos kpos:Pos}{e o:Expr}{es:List Expr}{kws:List Keyword}{te ta:TE}{t tk:TA}{nm:Option Str}
structure KBinds(K:PySem.W.Frag)(fd:FuncData)(ps ks:List Str)(g:List Value->List Value->List Value)(gV:List V->List V->List V):Prop where
 to:∀(s:Shared)(us ws:List Value),K.In s.heap->(g us ws).length=ps.length->BindsTo s fd ⟨us,ks.zip ws⟩ (ps.zip (g us ws))
 rel:∀{vs:List V}{us:List Value}{zs:List V}{ws:List Value},Vals vs us->Vals zs ws->Vals (gV vs zs) (g us ws)
variable{g:List Value->List Value->List Value}{gV:List V->List V->List V}
end
structure FnScope(N P:List Str)(sc:Scope):Prop where
 kind:sc.kind=.function
 co:sc.isCoroutine=false
 gen:sc.isGenerator=false
 nd:N.Nodup
 pre:N.take P.length=P
 par:∀x∈P,sc.names.lookup x=some .local∨sc.names.lookup x=some .cell
 nofree:∀y∈sc.names,y.2≠.free
theorem yJ_{kindOf:Str->Option NameKind}{x:Str}:∀{binds:List (Str×Value)}{m:Str->Option Value},(∀v,(x,v)∉binds)->bindL kindOf binds m x=m x
 |[],_,_=>rfl
 |(n,v)::r,m,h=>by
  unfold bindL
  rw[yJ_ λw hw=>h w (AD _ hw)]
  split
  ·have:x≠n:=by rintro rfl;exact h v AH
   simp [this]
  ·rfl
theorem yM_{kindOf:Str->Option NameKind}{x:Str}:∀{binds:List (Str×Value)}{m:Str->Option Value},(∀v,(x,v)∉binds)->bindC kindOf binds m x=m x
 |[],_,_=>rfl
 |(n,v)::r,m,h=>by
  unfold bindC
  rw[yM_ λw hw=>h w (AD _ hw)]
  split
  ·rfl
  ·have:x≠n:=by rintro rfl;exact h v AH
   simp [this]
theorem yz_{kindOf:Str->Option NameKind}{x:Str}{v:Value}:∀{P:List Str}{vs:List Value}{i:Nat}{m:Str->Option Value},P.Nodup->P[i]?=some x->vs[i]?=some v->kindOf x=some .local ->
  bindL kindOf (P.zip vs) m x=some v
 |[],_,_,_,_,h,_,_=>by simp at h
 |_::_,[],_,_,_,_,h,_=>by simp at h
 |p::P,w::vs,0,m,nd,h1,h2,hk=>by
  simp at h1 h2;subst h1;subst h2
  show bindL kindOf ((p,w)::P.zip vs) m p=_
  unfold bindL
  rw[yJ_ λv hv=>(Bu.mp nd).1 (DY hv).1,if_pos hk]
  simp
 |p::P,w::vs,i+1,m,nd,h1,h2,hk=>by
  show bindL kindOf ((p,w)::P.zip vs) m x=_
  unfold bindL
  exact yz_ (i:=i) (Bu.mp nd).2 (by simpa using h1) (by simpa using h2) hk
theorem yy_{kindOf:Str->Option NameKind}{x:Str}{v:Value}:∀{P:List Str}{vs:List Value}{i:Nat}{m:Str->Option Value},P.Nodup->P[i]?=some x->vs[i]?=some v->kindOf x≠some .local ->
  bindC kindOf (P.zip vs) m x=some v
 |[],_,_,_,_,h,_,_=>by simp at h
 |_::_,[],_,_,_,_,h,_=>by simp at h
 |p::P,w::vs,0,m,nd,h1,h2,hk=>by
  simp at h1 h2;subst h1;subst h2
  show bindC kindOf ((p,w)::P.zip vs) m p=_
  unfold bindC
  rw[yM_ λv hv=>(Bu.mp nd).1 (DY hv).1,if_neg hk]
  simp
 |p::P,w::vs,i+1,m,nd,h1,h2,hk=>by
  show bindC kindOf ((p,w)::P.zip vs) m x=_
  unfold bindC
  exact yy_ (i:=i) (Bu.mp nd).2 (by simpa using h1) (by simpa using h2) hk
def jd_(N:List Str)(vs:List V):St:=vs.map some++List.replicate (N.length-vs.length) none
def q8_(CX:CXT)(P:Program)(w:World)(K:PySem.W.Frag)(mg:Str->Option Value)(base:Heap)(N:List Str)(qual:Str)(scope:Scope)(f:Addr)(cd:Value)(A:Around)(outer:List Env)(s:Shared)(H:Hp)(E:XK):Cx where
 prog:=P
 w:=w
 K:=K
 mg:=mg
 base:=base
 A:=A.deeper (envOfC qual scope s.heap.objs.size f cd)
 N:=N
 s₀:=s
 H₀:=H
 env:=envOfC qual scope s.heap.objs.size f cd
 outer:=outer
 stack:=envOfC qual scope s.heap.objs.size f cd::outer
 ex:=[]
 calm:=true
 fn:=λ_=>true
 pn:=[]
 xe:=λe s'=>wpAny (model P w) (A.deeper (envOfC qual scope s.heap.objs.size f cd)) (leaving (envOfC qual scope s.heap.objs.size f cd) e) (λ_ s''=>CX outer H s E e s'') (λe' s''=>CX outer H s E e' s'') s'
theorem vy_{sc:Scope}{n:Nat}{x:Str}(h:sc.names.lookup x=some .cell):∃c,(cellsFrom n sc.names []).lookup x=some c:=by
 have q:=De sc.names n [] (.inl h)
 exact Option.isSome_iff_exists.mp q
theorem ab8_{CX:CXT}{P:Program}{w:World}{K:PySem.W.Frag}{mg:Str->Option Value}{base:Heap}{N ps:List Str}{qual:Str}{scope:Scope}{f:Addr}{cd:Value}{A:Around}{outer:List Env}{s s1:Shared}{H:Hp}{E:XK}{us:List Value}{vs:List V}
  (S:FnScope N ps scope) (hd:A.handled=none) (e0:Env0 P w K mg base A outer s H) (hl:vs.length=ps.length) (r:Vals vs us)
  (x:InCallC s s.heap.objs.size (bindL (envOfC qual scope s.heap.objs.size f cd).kindOf (ps.zip us) λ_=>none) (cellsFrom (s.heap.objs.size+1) scope.names []) (bindC (envOfC qual scope s.heap.objs.size f cd).kindOf (ps.zip us) λ_=>none) s1) :
  Inv (q8_ CX P w K mg base N qual scope f cd A outer s H E) [] (jd_ N vs) H s1:=by
 have hpl:ps.length<=N.length:=by have:=congrArg List.length S.pre;rw[As]at this;omega
 obtain⟨h1,tk,rfl,hk⟩:=x.done
 have noA:∀b:Addr,b∉(q8_ CX P w K mg base N qual scope f cd A outer s H E).ex:=λb z=>absurd (show b∈([]:List Addr) from z) (by simp)
 refine⟨⟨e0.mod,S.kind,rfl,rfl,AB _,λy z c h1 h2=>?_,λy hy=>?_,λy c _ h=>?_,λ_=>hd,Around.frames_deeper e0.frames,.inr ⟨rfl,rfl⟩,λb z=>absurd z (noA b),e0.bs,e0.bsz,λb _ _=>noA b,λb z=>absurd z (noA b),e0.funs,e0.frf⟩,
  rfl,e0.bare,Un.kept hk,⟨_,x.toInCall.ns,λi y v h1 h2 h3=>?_⟩,λy c h=>⟨_,x.cell y c h⟩,e0.hok.fresh (AB _),λy c h=>?_,λp hp=>absurd (show p∈([]:List (Addr×Obj)) from hp) (by simp),e0.hok.kept hk,?_⟩
 ·exact name_of_addr x.apart (B1 h1) (B1 h2)
 ·have hy:scope.names.lookup y=some .cell∨scope.names.lookup y=some .free:=hy
  rcases hy with hy|hy
  ·exact vy_ hy
  ·exact absurd rfl (S.nofree _ (B1 hy))
 ·exact BE (x.above y c (B1 h))
 ·have hi:i<vs.length:=by
   unfold jd_ at h2
   by_cases hi:i<vs.length
   ·exact hi
   ·rw[B9 (by simpa using hi)]at h2
    rw[List.getElem?_replicate]at h2
    split at h2<;>cases h2
  have ha:vs[i]?=some v:=by
   unfold jd_ at h2
   rw[CH (by simpa using hi),Ac]at h2
   cases e:vs[i]? with
   |none=>rw[e]at h2;cases h2
   |some a=>rw[e]at h2;cases h2;rfl
  obtain⟨u,hu,rv⟩:=r.get ha
  have hp:ps[i]?=some y:=by
   rw[<-S.pre,DH (by omega)];exact h1
  have ndP:ps.Nodup:=by rw[<-S.pre];exact S.nd.sublist (List.take_sublist _ _)
  refine⟨u,rv,?_⟩
  rcases S.par y (Aq hp) with k|k
  ·exact .inl ⟨k,yz_ ndP hp hu k⟩
  ·obtain⟨c,e⟩:=vy_ (n:=s.heap.objs.size+1) k
   refine .inr ⟨.inl k,c,e,?_⟩
   have q:=x.cell y c e
   rw[yy_ ndP hp hu (by show scope.names.lookup y≠_;rw[k];decide)]at q
   exact q
 ·exact e0.hok.fresh (BE (x.above y c (B1 h)))
 ·unfold jd_
  show _=N.length
  rw[AQ,AF,Dl]
  omega
theorem afe_{CX:CXT}{P:Program}{w:World}{K:PySem.W.Frag}{mg:Str->Option Value}{base:Heap}{k:Nat}{f:Addr}{name qual:Str}{params:Arguments}{body:List Stmt}{scope:Scope}{dV kV doc pm cdv ct oc:Value}{an od:Option Addr}
  {osl:Array (Option Value)} {N ps:List Str} {sp:Sp} (lk:K.lookup f=some ⟨oc,od,.func (PySem.W.fnOf name qual params body scope dV kV doc pm an cdv ct),osl⟩) (hcd:PySem.W.codeIn K cdv qual=true) (S:FnScope N ps scope)
  (len:∀vs H Q E,sp vs H Q E->vs.length=ps.length)
  (hbody:∀(A:Around)(outer:List Env)(s:Shared)(H:Hp)(vs:List V)(Q:VK)(E:XK),Room k (A.deeper (envOfC qual scope s.heap.objs.size f cdv))->sp vs H Q E ->
   ∃t,PSs (q8_ CX P w K mg base N qual scope f cdv A outer s H E) body t/\t { nx:=λ_ H'=>Q .non H',rt:=Q } (jd_ N vs) H) :
  FnOk P w K mg base CX (k+1) f (PySem.W.fnOf name qual params body scope dV kV doc pm an cdv ct) ps sp:=by
 refine⟨len,λA outer s H args us vs Q E hr e0 hb r hsp=>?_⟩
 have hl:=len _ _ _ _ hsp
 have KX:K.In s.heap:=e0.mod.kin.keeps λb o e=>(e0.bs b o e).1
 have lim:s.heap.NoLimit:=e0.mod.nolimit.keeps λb o e=>(e0.bs b o e).1
 have hkind:∀y∈ps.zip us,scope.names.lookup y.1=some .local∨(scope.names.lookup y.1=some .cell/\((cellsFrom (s.heap.objs.size+1) scope.names []).lookup y.1).isSome=true):=λ⟨n,v⟩ hy=>by
  rcases S.par n (DY hy).1 with q|q
  ·exact .inl q
  ·exact .inr ⟨q,De _ _ _ (.inl q)⟩
 refine codeAny_call_function hr.depth (KX _ _ lk) rfl S.co S.gen rfl (PySem.W.codeRec_of KX hcd) (hb _ _ _ _ ?_)
 refine wpAny_newFunctionEnv_cells S.kind hkind λenv he s1 x=>?_
 subst he
 refine⟨lim.keeps x.toInCall.keep,codeAny_func ?_⟩
 obtain⟨t,ht,hq⟩:=hbody A outer s H vs Q E (hr.deeper _) hsp
 have I:Inv (q8_ CX P w K mg base N qual scope f cdv A outer s H E) [] (jd_ N vs) H s1:=ab8_ S hr.hd e0 hl r x
 refine wpAny_mono (ht [] s1 (jd_ N vs) H _ I hq) (λfl s' hs=>?_) λe s' hs=>hs
 have fin:∀{σ':St}{H':Hp}{v:V}{u:Value},Inv (q8_ CX P w K mg base N qual scope f cdv A outer s H E) [] σ' H' s'->RelV v u->Q v H'->CE outer P w H s Q u s' :=
  λ{σ' H' v u} J rv q=>⟨v,H',J.os,J.bare,J.base,J.hok,rv,q⟩
 cases fl with
 |ret u =>
  obtain⟨v,σ',H',J,rv,q⟩:=hs
  exact fin J rv q
 |next =>
  obtain⟨σ',H',J,q⟩:=hs
  exact fin (v:=V.non) (u:=Value.none) J rfl q
 |brk =>
  obtain⟨_,_,_,q⟩:=hs
  exact False.elim q
 |cont =>
  obtain⟨_,_,_,q⟩:=hs
  exact False.elim q
end L2
namespace L2
open PySem PySem.Spec PyProof.Rows
section
variable{X:Cx}{x:Str}{p pos:Pos}{e:Expr}{es:List Expr}{t:TA}{id T:String}{r:List V->Hp->VK->Prop}
def tCB(r:List V->Hp->VK->Prop)(t:TA):TE:=λσ H Q=>t σ H λvs H1=>r vs H1 Q
theorem qo_(hc:CallR X (.builtin id) r)(hg:Gl X x)(hm:X.mg x=none)(hv:bootBuiltins x=some (.builtin id))(ha:PA X (e::es) t)(hn:x ≠ "__name__" := by decide)(hdb:(x==("__debug__" : Str))=false:=by decide)
  (he:starEach (e::es) X.env=(false,eval e X.env)::starEach es X.env:=by rfl) (hpl:(backTo pos (starEach es X.env)).any (·.1)=false:=by rfl):PE X (.Call (.Name x p) (e::es) [] pos) (tCB r t):=by
 intro pins s σ H Q I h
 refine wpAny_Call_Name_kw (z5_ I hg hm hv ?_ hn hdb)
 exact PyProof.Rows.callWith_builtin1 (thn (ha pos pins s σ H _ I h) λus s1 ⟨vs,H1,I1,r1,q1⟩=>hc pins s1 σ H1 vs us Q I1 r1 q1) he hpl
theorem qO_(hc:CallR X (.type T) r)(hg:Gl X x)(hm:X.mg x=none)(hv:bootBuiltins x=some (.type T))(ha:PA X (e::es) t)(hn:x ≠ "__name__" := by decide)(hdb:(x==("__debug__" : Str))=false:=by decide)
  (he:starEach (e::es) X.env=(false,eval e X.env)::starEach es X.env:=by rfl) (hpl:(backTo pos (starEach es X.env)).any (·.1)=false:=by rfl):PE X (.Call (.Name x p) (e::es) [] pos) (tCB r t):=by
 intro pins s σ H Q I h
 refine wpAny_Call_Name_kw (z5_ I hg hm hv ?_ hn hdb)
 exact Bq (thn (ha pos pins s σ H _ I h) λus s1 ⟨vs,H1,I1,r1,q1⟩=>hc pins s1 σ H1 vs us Q I1 r1 q1) he hpl
end
end L2
namespace HT
open PySem PyProof.Rows
def lexLt:List Int->List Int->Bool
 |[],[]=>false
 |[],_::_=>true
 |_::_,[]=>false
 |x::xs,y::ys=>if x=y then lexLt xs ys else decide (x<y)
theorem lexLt_cons(x y:Int)(xs ys:List Int):lexLt (x::xs) (y::ys)=if x=y then lexLt xs ys else decide (x<y):=rfl
theorem lexLt_nil_nil:lexLt [] []=false:=rfl
theorem lexLt_nil_cons(y:Int)(ys:List Int):lexLt [] (y::ys)=true:=rfl
theorem lexLt_cons_nil(x:Int)(xs:List Int):lexLt (x::xs) []=false:=rfl
theorem eqAt_int(A:Around)(s:Shared)(a:Int)(t:Tok)(c:Int)(u:Tok):∃e,SeqAt.EqAt A s (.int a t) (.int c u) e/\(e=true↔a=c) :=
 ⟨(a==c),C1 a t c u,by simp⟩
theorem ad6_(A:Around)(s:Shared)(a:Int)(t:Tok)(c:Int)(u:Tok)(prog:Program)(w:World)(E:Value->Shared->Prop)(Q:Value->Shared->Prop)(h:Q (.bool (decide (a<c))) s) :
  wpAny (model prog w) A (richCompare .Lt (.int a t) (.int c u)) Q E s :=
 (Cr h:wpAny (model prog w) A (compareOp .Lt (.int a t) (.int c u)) Q E s)
section
open PySem.SeqAt
open PySem.AutoSeq1 (wpAny_loadPart')
open PySem.MeetsSeq PySem.MeetsSeq2 PySem.MeetsSeq3
theorem yP_(l b:Addr)(items items2:Array Value)(n n2:Nat)(dd dd2:Option Addr)(sl sl2:Array (Option Value))(ns ms:List Int)(hi:IntsAre items.toList ns)(hj:IntsAre items2.toList ms) :
  Meets (Builtin.«tuple.__lt__» ⟨[.ref l,.ref b],[]⟩)
   (λ_ R s=>s.heap.get? l=some { cls:=.type "tuple",dict:=dd,data:=.seq items n,slots:=sl }/\s.heap.get? b=some { cls:=.type "tuple",dict:=dd2,data:=.seq items2 n2,slots:=sl2 } /\
    R (.ok (.ret (.bool (lexLt ns ms)))) s) :=
 .of_wp λprog w A R s h=>by
  obtain⟨hp,g,d,tk,os⟩:=s;obtain⟨hl,hb,h⟩:=h
  have f2:=AutoSeq1.sub_tuple_tuple
  have z1:items.size=ns.length:=by rw[<-hi.length];simp
  have z2:items2.size=ms.length:=by rw[<-hj.length];simp
  wp_walk using wpAny_loadPart' hl,wpAny_loadPart' hb,wpAny_forIn_list _ (λzn_ b s'=>b.1=none/\s'=⟨hp,g,d,tk,os⟩/\∃(vs ws:List Value)(ns' ms':List Int),zn_=vs.zip ws /\
   IntsAre vs ns'/\IntsAre ws ms'/\ns'.length+items2.size=ms'.length+items.size/\R (.ok (.ret (.bool (lexLt ns' ms')))) ⟨hp,g,d,tk,os⟩) _
  case turn =>
   rintro⟨y,x⟩ zn_ b s' ⟨hb',rfl,vs,ws,ns',ms',hz,hvi,hwi,hlen,hR⟩
   cases hvi with
   |nil=>rw[List.zip_nil_left]at hz;cases hz
   |cons a t hvi' =>
    cases hwi with
    |nil=>rw[List.zip_nil_right]at hz;cases hz
    |cons c u hwi' =>
     rw[C2]at hz
     injection hz with hyx hrest
     injection hyx with hy hx
     subst hy hx
     rw[lexLt_cons]at hR
     simp only[AN]at hlen
     obtain⟨e,he,hiff⟩:=eqAt_int A.in1 ⟨hp,g,d,tk,os⟩ a t c u
     refine wpAny_bind (he prog w _ _ ?_)
     cases e with
     |true =>
      rw[if_pos (hiff.mp rfl)]at hR
      wp_walk
      exact⟨rfl,rfl,_,_,_,_,hrest,hvi',hwi',by omega,hR⟩
     |false =>
      rw[if_neg (λq=>absurd (hiff.mpr q) AL)]at hR
      have hri:=ad6_ A.in1 ⟨hp,g,d,tk,os⟩ a t c u prog w
      wp_walk using hri
      exact⟨_,rfl,by simpa using hR⟩
  case fin =>
   rintro⟨b1,b2⟩ s' ⟨hb',rfl,vs,ws,ns',ms',hz,hvi,hwi,hlen,hR⟩
   simp only at hb'
   subst hb'
   have hv:lexLt ns' ms'=decide (items.size<items2.size):=by
    cases hvi with
    |nil =>
     cases hwi with
     |nil =>
      simp only[CI]at hlen
      rw[lexLt_nil_nil]
      exact(decide_eq_false (by omega)).symm
     |cons c u hw =>
      simp only[CI,AN]at hlen
      rw[lexLt_nil_cons]
      exact(decide_eq_true (by omega)).symm
    |cons a t hv =>
     cases hwi with
     |nil =>
      simp only[CI,AN]at hlen
      rw[lexLt_cons_nil]
      exact(decide_eq_false (by omega)).symm
     |cons c u hw =>
      rw[C2]at hz
      cases hz
   rw[hv]at hR
   wp_walk
   exact⟨_,rfl,by simpa [Builtin.Tuple.tupleCompareSizes]using hR⟩
  case h =>
   exact⟨rfl,rfl,items.toList,items2.toList,ns,ms,rfl,hi,hj,by omega,h⟩
end
section
variable{prog:Program}{w:World}{A:Around}{E:Value->Shared->Prop}{s:Shared}
theorem lt_tupInts{l b:Addr}{items items2:Array Value}{ns ms:List Int}{Q:Value->Shared->Prop}(hl:IsTup s.heap l items)(hb:IsTup s.heap b items2)(hi:IntsAre items.toList ns)(hj:IntsAre items2.toList ms)
  (hu:A.units<cLine) (h:Q (.bool (lexLt ns ms)) s):wpAny (model prog w) A (compareOp .Lt (.ref l) (.ref b)) Q E s:=by
 obtain⟨⟨cls,dd,data,sl⟩,ho,hc,n,hd⟩:=id hl
 obtain⟨⟨cls2,dd2,data2,sl2⟩,ho2,hc2,n2,hd2⟩:=id hb
 simp only at hc hd hc2 hd2
 subst hc hd hc2 hd2
 exact richCompare_meets_room (op:=.Lt) ⟨_,ho,rfl⟩ ⟨_,ho2,rfl⟩ PySem.F.slot_tuple_lt PySem.F.entry_tuple_lt (PySem.F.args_tuple_lt_2 _ _) (yP_ l b items items2 n n2 dd dd2 sl sl2 ns ms hi hj)
  ⟨ho,ho2,show Value.bool (lexLt ns ms)≠Value.notImplemented/\Q (.bool (lexLt ns ms)) s from⟨(λx=>nomatch x),h⟩⟩ hu
def sIx(n d:Nat):Option Int->Nat
 |none=>d
 |some v=>if v<0 then (v+(n:Int)).toNat else min v.toNat n
theorem sIx_none(n d:Nat):sIx n d none=d:=rfl
theorem sIx_nat(n d k:Nat):sIx n d (some (k:Int))=min k n:=by
 show(if (k:Int)<0 then ((k:Int)+(n:Int)).toNat else min (k:Int).toNat n)=min k n
 rw[if_neg (by omega),An]
end
end HT
namespace L2
open PySem PySem.Spec PyProof.Rows
abbrev TO:=St->Hp->(Option Int->Hp->Prop)->Prop
def PO(X:Cx)(e:Option Expr)(t:TO):Prop :=
 ∀(pins:List (Addr×Obj))(s:Shared)(σ:St)(H:Hp)(Q:Option Int->Hp->Prop),Inv X pins σ H s->t σ H Q ->
  wpAny (model X.prog X.w) X.A (evalPart e X.env) (λu s'=>∃o H',Inv X pins σ H' s'/\IsPart u o/\Q o H') X.xe s
def yx_:TO:=λ_ H Q=>Q none H
def aa2_(t:TE):TO:=λσ H Q=>t σ H λx H1=>∃i,x=.int i/\Q (some i) H1
theorem zq_{ns:List Int}:∀{us:List Value},Vals (ns.map V.int) us->IntsAre us ns:=by
 induction ns with
 |nil=>intro us r;rw[EA]at r;cases r;exact .nil
 |cons n ns ih =>
  intro us r
  rw[Ab]at r
  cases r with
  |cons r1 r2 =>
   obtain⟨t,e⟩:=r1
   subst e
   exact .cons n t (ih r2)
section
variable{X:Cx}{e:Expr}{te:TE}{lo hi:Option Expr}{tl th:TO}{pos p2:Pos}
theorem qy_:PO X none yx_:=by
 intro pins s σ H Q I h
 rw[evalPart_none]
 exact wpAny_pure ⟨none,H,I,.none,h⟩
theorem qr_(h:PE X e te):PO X (some e) (aa2_ te):=by
 intro pins s σ H Q I hw
 rw[evalPart_some]
 refine thn (h pins s σ H _ I hw) λu s1 ⟨x,H1,I1,r1,q1⟩=>?_
 obtain⟨i,rfl,q⟩:=q1
 obtain⟨t,rfl⟩:=r1
 exact⟨some i,H1,I1,.int i t,q⟩
def SlR(X:Cx)(r:V->Option Int->Option Int->Hp->VK->Prop):Prop :=
 ∀(pins:List (Addr×Obj))(s:Shared)(σ:St)(H:Hp)(x:V)(v vl vu:Value)(lo hi:Option Int)(sl:Addr)(Q:VK),Inv X pins σ H s->RelV x v->s.heap.IsSliceOf sl vl vu .none->IsPart vl lo->IsPart vu hi->r x lo hi H Q ->
  ∃T id,typeLookup (.type T) "__getitem__" = pure (some (.builtin id))/\s.TypeIs v T/\wpAny (model X.prog X.w) X.A (getItem v (.ref sl)) (EP X pins σ Q) X.xe s
theorem SlR.or{r r':V->Option Int->Option Int->Hp->VK->Prop}(h:SlR X r)(h':SlR X r'):SlR X (λx lo hi H Q=>r x lo hi H Q∨r' x lo hi H Q):=by
 intro pins s σ H x v vl vu lo hi sl Q I rx hs pl pu q
 rcases q with q|q
 ·exact h pins s σ H x v vl vu lo hi sl Q I rx hs pl pu q
 ·exact h' pins s σ H x v vl vu lo hi sl Q I rx hs pl pu q
def tSl(r:V->Option Int->Option Int->Hp->VK->Prop)(te:TE)(tl th:TO):TE:=λσ H Q=>te σ H λx H1=>tl σ H1 λl H2=>th σ H2 λu H3=>r x l u H3 Q
theorem qs_{r:V->Option Int->Option Int->Hp->VK->Prop}(hr:SlR X r)(he:PE X e te)(hl:PO X lo tl)(hu:PO X hi th):PE X (.Subscript e (.Slice lo hi none p2) pos) (tSl r te tl th):=by
 intro pins s σ H Q I h
 refine Subscript_ (thn (he pins s σ H _ I h) λv s1 ⟨x,H1,I1,r1,q1⟩=>?_)
 refine wpAny_Slice (thn (hl pins s1 σ H1 _ I1 q1) λvl s2 ⟨l,H2,I2,pl,q2⟩=>thn (hu pins s2 σ H2 _ I2 q2) λvu s3 ⟨u,H3,I3,pu,q3⟩=>?_)
 rw[evalPart_none]
 refine wpAny_pure ?_
 have I4:Inv X pins σ H3 { s3 with heap:=s3.heap.push { cls:=.type "slice",data:=.fields #[vl,vu,.none] } }:=I3.kept (t':=s3.toks) λb ob q=>AA _ q
 obtain⟨T,id,hT,ht,hg⟩:=hr pins { s3 with heap:=s3.heap.push { cls:=.type "slice",data:=.fields #[vl,vu,.none] } } σ H3 x v vl vu l u s3.heap.objs.size Q I4 r1 (C3 ..) pl pu q3
 show wpAny (model X.prog X.w) X.A (subscriptTail e (.Slice lo hi none p2) v (.ref s3.heap.objs.size)) (EP X pins σ Q) X.xe { s3 with heap:=s3.heap.push { cls:=.type "slice",data:=.fields #[vl,vu,.none] } }
 exact tail_any (ops:=[.ref s3.heap.objs.size,v]) ht hT hg (by with_unfolding_all rfl)
def qJ_(xs:List V)(lo hi:Option Int):List V:=(xs.drop (HT.sIx xs.length 0 lo)).take (HT.sIx xs.length xs.length hi-HT.sIx xs.length 0 lo)
theorem zz_(xs:List V)(lo hi:Option Int):(qJ_ xs lo hi).length<=xs.length:=by
 unfold qJ_
 rw[As,Ap]
 omega
end
end L2
namespace L2
open PySem PySem.Spec PyProof.Rows
def ixN(n:Nat)(i:Int):Option Nat:=if 0<=i then (if i<n then some i.toNat else none) else if -(n:Int)<=i then some (i+n).toNat else none
def atI{α:Type}(xs:List α)(i:Int):Option α:=(ixN xs.length i).bind λj=>xs[j]?
theorem aai_{n:Nat}{i:Int}{j:Nat}(h:ixN n i=some j):seqIndex? i n=some j/\j<n/\-(n:Int)<=i/\i<n:=by
 unfold ixN at h
 by_cases h0:0<=i
 ·rw[if_pos h0]at h
  by_cases h1:i<n
  ·rw[if_pos h1]at h
   have e:i.toNat=j:=AX h
   exact⟨by rw[seqIndex_of h0 h1,e],by omega,by omega,h1⟩
  ·rw[if_neg h1]at h;cases h
 ·rw[if_neg h0]at h
  by_cases h1:-(n:Int)<=i
  ·rw[if_pos h1]at h
   have e:(i+n).toNat=j:=AX h
   exact⟨by rw[seqIndex_neg (by omega) h1,e],by omega,h1,by omega⟩
  ·rw[if_neg h1]at h;cases h
theorem yn_{α:Type}{xs:List α}{i:Int}{v:α}(h:atI xs i=some v):∃j,seqIndex? i xs.length=some j/\xs[j]?=some v/\j<xs.length/\-(xs.length:Int)<=i/\i<xs.length:=by
 unfold atI at h
 cases e:ixN xs.length i with
 |none=>rw[e]at h;cases h
 |some j =>
  rw[e]at h
  obtain⟨h1,h2,h3,h4⟩:=aai_ e
  exact⟨j,h1,h,h2,h3,h4⟩
theorem q2_{α:Type}{xs:List α}{j:Nat}{v:α}(h:xs[j]?=some v):atI xs (j:Int)=some v:=by
 have hj:j<xs.length:=(AY.mp h).1
 have e:ixN xs.length (j:Int)=some j:=by
  unfold ixN
  rw[if_pos (by omega),if_pos (by omega)];simp
 unfold atI;rw[e];exact h
theorem vv_{α:Type}(xs:List α)(v:α):atI (xs++[v]) (-1)=some v:=by
 have hl:(xs++[v]).length=xs.length+1:=by simp
 have e:ixN (xs++[v]).length (-1)=some xs.length:=by
  unfold ixN
  rw[hl,if_neg (by decide),if_pos (by omega)]
  congr 1
  omega
 unfold atI
 rw[e]
 show(xs++[v])[xs.length]?=some v
 simp
def ags_(b:Expr):Prop:=∀o i,subscripted b false o i=operate [o,i] (getItem o i)
def IxR(X:Cx)(r:R2):Prop :=
 ∀(value slice:Expr)(pins:List (Addr×Obj))(s:Shared)(σ:St)(H:Hp)(x y:V)(v u:Value)(Q:VK),Inv X pins σ H s->RelV x v->RelV y u->r x y H Q ->
  subscripted slice false v u=operate [v,u] (getItem v u)->wpAny (model X.prog X.w) X.A (subscriptTail value slice v u) (EP X pins σ Q) X.xe s
def MtR(X:Cx)(id:String)(r:V->List V->Hp->VK->Prop):Prop :=
 ∀(pins:List (Addr×Obj))(s:Shared)(σ:St)(H:Hp)(x:V)(xs:List V)(v:Value)(us:List Value)(Q:VK),Inv X pins σ H s->RelV x v->Vals xs us->r x xs H Q ->
  wpAny (model X.prog X.w) X.A (call (.builtin id) (v::us)) (EP X pins σ Q) X.xe s
section
variable{X:Cx}{a b:Expr}{ta tb:TE}{pos:Pos}
theorem IxR.or{r r':R2}(h:IxR X r)(h':IxR X r'):IxR X (λx y H Q=>r x y H Q∨r' x y H Q):=by
 intro value slice pins s σ H x y v u Q I rx ry q hs
 rcases q with q|q
 ·exact h value slice pins s σ H x y v u Q I rx ry q hs
 ·exact h' value slice pins s σ H x y v u Q I rx ry q hs
theorem MtR.or{id:String}{r r':V->List V->Hp->VK->Prop}(h:MtR X id r)(h':MtR X id r'):MtR X id (λx xs H Q=>r x xs H Q∨r' x xs H Q):=by
 intro pins s σ H x xs v us Q I rx rs q
 rcases q with q|q
 ·exact h pins s σ H x xs v us Q I rx rs q
 ·exact h' pins s σ H x xs v us Q I rx rs q
theorem qF_{r:R2}(hr:IxR X r)(ha:PE X a ta)(hb:PE X b tb)(hs:ags_ b):PE X (.Subscript a b pos) (tOp r ta tb):=by
 intro pins s σ H Q I h
 exact Subscript_ (binT ha hb I h λv u s2 x y H2 I2 rx ry q=>hr a b pins s2 σ H2 x y v u Q I2 rx ry q (hs _ _))
def rIxL(K:PySem.W.Frag):R2:=λx y H Q=>∃p xs i v,x=.ref p/\y=.int i/\SqL K H p xs/\atI xs i=some v/\Q v H
def rIxT(K:PySem.W.Frag):R2:=λx y H Q=>∃p xs i v,x=.ref p/\y=.int i/\SqT K H p xs/\atI xs i=some v/\Q v H
def rIxS:R2:=λx y H Q=>∃z i c,x=.str z/\y=.int i/\z.length<=sizeLine/\atI z.cps.toList i=some c/\Q (.str ⟨#[c]⟩) H
theorem qP_:IxR X (rIxL X.K):=by
 intro value slice pins s σ H x y v u Q I rx ry h hs
 obtain⟨p,xs,i,z,rfl,rfl,hq,he,q⟩:=h
 cases rx
 obtain⟨t,rfl⟩:=ry
 obtain⟨its,r,pl,hz⟩:=I.list hq
 obtain⟨j,h1,h2,h3,h4,h5⟩:=yn_ he
 obtain⟨w,ew,rw'⟩:=r.get h2
 have hl:=r.length
 have hn:=jQ_
 have fin:EP X pins σ Q w s:=⟨z,H,I,rw',q⟩
 by_cases h0:0<=i
 ·have hj:i.toNat=j:=by
   rw[seqIndex_of h0 h5]at h1
   exact AX h1
  exact item_listR pl.isList h0 (by omega) (by rw[hj];simpa using ew) fin hs
 ·have hj:(i+(its.toArray.size:Int)).toNat=j:=by
   rw[seqIndex_neg (by omega) h4]at h1
   rw[AS,<-hl]
   exact AX h1
  exact subscriptTail_builtinR (x:=w) pl.isList.typeIs slot_list_getitem.lookup
   (wpAny_getItem_list_neg (Q:=λr s'=>r=w/\EP X pins σ Q r s') pl.isList (by omega) (by rw[AS]<;>omega) (by omega) (by rw[hj];simpa using ew) ⟨rfl,fin⟩) hs
theorem z9_:IxR X (rIxT X.K):=by
 intro value slice pins s σ H x y v u Q I rx ry h hs
 obtain⟨p,xs,i,z,rfl,rfl,hq,he,q⟩:=h
 cases rx
 obtain⟨t,rfl⟩:=ry
 obtain⟨its,r,pl,hz⟩:=I.tuple hq
 obtain⟨j,h1,h2,h3,h4,h5⟩:=yn_ he
 obtain⟨w,ew,rw'⟩:=r.get h2
 have hl:=r.length
 have hn:=jQ_
 have fin:EP X pins σ Q w s:=⟨z,H,I,rw',q⟩
 exact subscriptTail_builtinR (x:=w) pl.typeIs slot_tuple_getitem.lookup
  (getItem_tuple (j:=j) (Q:=λr s'=>r=w/\EP X pins σ Q r s') pl (by omega) (by omega) (by rw[AS,<-hl];exact h1) (by simpa using ew) ⟨rfl,fin⟩) hs
theorem xv_:IxR X rIxS:=by
 intro value slice pins s σ H x y v u Q I rx ry h hs
 obtain⟨z,i,c,rfl,rfl,hz,he,q⟩:=h
 obtain⟨t,rfl⟩:=rx
 obtain⟨t',rfl⟩:=ry
 obtain⟨j,h1,h2,h3,h4,h5⟩:=yn_ he
 have hl:z.cps.toList.length=z.length:=by simp [Str.length]
 rw[hl]at h1 h4 h5
 have hn:=jQ_
 exact tail_any (typeIs_str s z t) slot_str_getitem.lookup (getItem_str (c:=c) (by
  have e1:decide (i < -(2^63:Int))=false:=decide_eq_false (by omega)
  have e2:decide (i ≥ 2^63)=false:=decide_eq_false (by omega)
  rw[e1,e2,Bool.or_false]) (by rw[h1];simpa using h2) ⟨.str ⟨#[c]⟩,H,I.tok _,⟨_,rfl⟩,q⟩) hs
theorem aax_(its:List Value)(n j:Nat)(u:Value):Obj.mapSeq (·.setIfInBounds j u) { cls:=.type "list",data:=.seq its.toArray n }={ cls:=.type "list",data:=.seq (its.set j u).toArray n }:=by
 simp [Obj.mapSeq]
theorem Inv.lst{pins:List (Addr×Obj)}{σ:St}{H:Hp}{s:Shared}{p:Addr}{xs:List V}(I:Inv X pins σ H s)(h:H p=some (.lst xs)) :
  ∃(its:List Value)(n:Nat),Vals xs its/\s.heap.get? p=some { cls:=.type "list",data:=.seq its.toArray n }/\xs.length<=sizeLine:=by
 obtain⟨z,its,n,r,e⟩:=I.hok p _ h
 exact⟨its,n,r,e,z⟩
theorem Inv.lstUpd{pins:List (Addr×Obj)}{σ:St}{H:Hp}{s:Shared}{p:Addr}{xs ys:List V}{its its':List Value}{n n':Nat}{f:Obj->Obj}(I:Inv X pins σ H s)(h:H p=some (.lst xs))
  (ho:s.heap.get? p=some { cls:=.type "list",data:=.seq its.toArray n }) (hf:f { cls:=.type "list",data:=.seq its.toArray n }={ cls:=.type "list",data:=.seq its'.toArray n' }) (r:Vals ys its') (hz:ys.length<=sizeLine) (t:Nat) :
  Inv X pins σ (upd H p (.lst ys)) { s with heap:=s.heap.update p f,toks:=t }:=by
 have e:(s.heap.update p f).get? p=some { cls:=.type "list",data:=.seq its'.toArray n' }:=by
  rw[Be f ho (by rw[hf]<;>rfl),hf]
 refine I.write (x:=p) (e:=p) (by rw[h];trivial) (.inl rfl) (λb u hb q=>(Ah _ _ (BP hb)).trans q) ⟨_,e⟩ ?_
 exact⟨hz,its',n',r,e⟩
def ajw_:V->V->V->Hp->(Hp->Prop)->Prop:=λo i v H Q=>∃p xs k j,o=.ref p/\i=.int k/\H p=some (.lst xs)/\ixN xs.length k=some j/\Q (upd H p (.lst (xs.set j v)))
theorem xU_:PSet X ajw_:=by
 intro pins s σ H o i v ov iv u Q I ro ri rv h
 obtain⟨p,xs,k,j,rfl,rfl,hp,hj,q⟩:=h
 cases ro
 obtain⟨t,rfl⟩:=ri
 obtain⟨its,n,r,ho,hz⟩:=I.lst hp
 obtain⟨h1,h2,h3,h4⟩:=aai_ hj
 have hl:=r.length
 have hn:=jQ_
 have I':Inv X pins σ (upd H p (.lst (xs.set j v))) { s with heap:=s.heap.update p (Obj.mapSeq (·.setIfInBounds j u)) } :=
  I.lstUpd hp ho (aax_ its n j u) (r.set rv j) (by rw[List.length_set];exact hz) s.toks
 by_cases h0:0<=k
 ·have hk:k.toNat=j:=by
   rw[seqIndex_of h0 h4]at h1
   exact AX h1
  exact PySem.W.ki_setAt ho h0 (by omega) (by rw[AS,<-hl];exact h4) (by rw[hk];exact⟨_,I',q⟩)
 ·have hk:(k+(its.toArray.size:Int)).toNat=j:=by
   rw[seqIndex_neg (by omega) h3]at h1
   rw[AS,<-hl]
   exact AX h1
  exact PySem.W.ki_setBack ho (by omega) (by rw[AS,<-hl];exact h3) (by omega) (by rw[hk];exact⟨_,I',q⟩)
theorem vl_(lo hi:Option Int)(n:Nat):(sliceBounds lo hi none n).1=((HT.sIx n 0 lo:Nat):Int)/\(sliceBounds lo hi none n).2.1=((HT.sIx n n hi:Nat):Int)/\(sliceBounds lo hi none n).2.2=1:=by
 refine⟨?_,?_,rfl⟩
 ·cases lo with
  |none=>simp [sliceBounds,HT.sIx]
  |some i =>
   simp only[sliceBounds,HT.sIx,Option.getD_none,show(1:Int)>0 by decide,if_true]
   by_cases h:i<0
   ·simp only[h,if_true]<;>omega
   ·simp only[h,if_false]<;>omega
 ·cases hi with
  |none=>simp [sliceBounds,HT.sIx]
  |some i =>
   simp only[sliceBounds,HT.sIx,Option.getD_none,show(1:Int)>0 by decide,if_true]
   by_cases h:i<0
   ·simp only[h,if_true]<;>omega
   ·simp only[h,if_false]<;>omega
theorem yN_(its:List Value)(lo hi:Option Int):slicePick its.toArray lo hi none=((its.drop (HT.sIx its.length 0 lo)).take (HT.sIx its.length its.length hi-HT.sIx its.length 0 lo)).toArray:=by
 obtain⟨h1,h2,h3⟩:=vl_ lo hi its.toArray.size
 unfold slicePick
 rw[h1,h2,h3]
 simp only[sliceRange_one,pick_run,AS]<;>rfl
def rSlL(K:PySem.W.Frag):V->Option Int->Option Int->Hp->VK->Prop:=λx lo hi H Q=>∃a xs,x=.ref a/\SqL K H a xs/\∀p,H p=none->Q (.ref p) (upd H p (.lst (qJ_ xs lo hi)))
theorem jL_:SlR X (rSlL X.K):=by
 intro pins s σ H x v vl vu lo hi sl Q I rx hs pl pu h
 obtain⟨a,xs,rfl,hx,q⟩:=h
 cases rx
 obtain⟨its,r,ht,hz⟩:=I.list hx
 have hlen:=r.length
 refine⟨"list",_,slot_list_getitem.lookup,ht.isList.typeIs,?_⟩
 refine wpAny_getItem_list_slice ht.isList hs pl pu .none (by simp) ?_ (by rw[AS]<;>omega)
 rw[yN_,<-hlen]
 refine⟨.ref s.heap.objs.size,_,I.laid (t':=s.toks) (o:=.lst (qJ_ xs lo hi)) (λb ob q=>AA _ q) (AB _) ?_,rfl,q _ (I.hok.fresh (AB _))⟩
 exact⟨AZ (zz_ xs lo hi) hz,_,0,(r.drop (HT.sIx xs.length 0 lo)).take (HT.sIx xs.length xs.length hi-HT.sIx xs.length 0 lo),AE _ rfl⟩
def jx_:V->Bool
 |.non=>true
 |.bl _=>true
 |.int _=>true
 |.str _=>true
 |_=>false
def eqV:V->V->Bool
 |.non,.non=>true
 |.bl a,.bl b=>a==b
 |.bl a,.int b=>(if a then 1 else 0)==b
 |.int a,.bl b=>a==(if b then 1 else 0)
 |.int a,.int b=>a==b
 |.str a,.str b=>a==b
 |_,_=>false
theorem ai2_{A:Around}{s:Shared}{y x:V}{u v:Value}(ry:RelV y u)(rx:RelV x v)(fy:jx_ y=true)(fx:jx_ x=true):SeqAt.EqAt A s u v (eqV y x):=by
 cases y with
 |non =>
  cases ry
  cases x with
  |non=>cases rx;exact DZ _
  |bl b=>cases rx;exact SeqAt.EqAt.none_bool b
  |int b=>obtain⟨t,rfl⟩:=rx;exact SeqAt.EqAt.none_int b t
  |str b=>obtain⟨t,rfl⟩:=rx;exact SeqAt.EqAt.none_str b t
  |_=>exact absurd (show false=true from fx) AL
 |bl a =>
  cases ry
  cases x with
  |non=>cases rx;exact SeqAt.EqAt.bool_none a
  |bl b=>cases rx;exact SeqAt.EqAt.bool_bool a b
  |int b=>obtain⟨t,rfl⟩:=rx;exact SeqAt.EqAt.bool_int a b t
  |str b=>obtain⟨t,rfl⟩:=rx;exact SeqAt.EqAt.bool_str a b t
  |_=>exact absurd (show false=true from fx) AL
 |int a =>
  obtain⟨t',rfl⟩:=ry
  cases x with
  |non=>cases rx;exact SeqAt.EqAt.int_none a t'
  |bl b=>cases rx;exact SeqAt.EqAt.int_bool a t' b
  |int b=>obtain⟨t,rfl⟩:=rx;exact C1 a t' b t
  |str b=>obtain⟨t,rfl⟩:=rx;exact SeqAt.EqAt.int_str a t' b t
  |_=>exact absurd (show false=true from fx) AL
 |str a =>
  obtain⟨t',rfl⟩:=ry
  cases x with
  |non=>cases rx;exact SeqAt.EqAt.str_none a t'
  |bl b=>cases rx;exact SeqAt.EqAt.str_bool a t' b
  |int b=>obtain⟨t,rfl⟩:=rx;exact SeqAt.EqAt.str_int a t' b t
  |str b=>obtain⟨t,rfl⟩:=rx;exact SeqAt.EqAt.str_str a t' b t
  |_=>exact absurd (show false=true from fx) AL
 |_=>exact absurd (show false=true from fy) AL
def eqU(x:V)(u:Value):Bool:=match u with
 |.none=>eqV .non x
 |.bool b=>eqV (.bl b) x
 |.int i _=>eqV (.int i) x
 |.str z _=>eqV (.str z) x
 |_=>false
theorem add_{x y:V}{u:Value}(r:RelV y u)(f:jx_ y=true):eqU x u=eqV y x:=by
 cases y with
 |non=>cases r;rfl
 |bl b=>cases r;rfl
 |int i=>obtain⟨t,rfl⟩:=r;rfl
 |str z=>obtain⟨t,rfl⟩:=r;rfl
 |_=>exact absurd (show false=true from f) AL
theorem yq_{x:V}:∀{xs:List V}{us:List Value},Vals xs us->xs.all jx_=true->us.any (eqU x)=xs.any λy=>eqV y x
 |_,_,.nil,_=>rfl
 |y::xs,u::us,.cons r t,f=>by
  rw[CA,BI]at f
  rw[CB,CB,add_ r f.1,yq_ t f.2]
theorem xN_{A:Around}{s:Shared}{x:V}{v:Value}(rx:RelV x v)(fx:jx_ x=true):∀{xs:List V}{us:List Value},Vals xs us->xs.all jx_=true->∀u∈us,SeqAt.EqAt A s u v (eqU x u)
 |_,_,.nil,_=>λu hu=>by cases hu
 |y::xs,u::us,.cons r t,f=>λu' hu=>by
  rw[CA,BI]at f
  rcases AI.mp hu with rfl|hu
  ·rw[add_ r f.1];exact ai2_ r rx f.1 fx
  ·exact xN_ rx fx t f.2 u' hu
def inV(x:V)(xs:List V):Bool:=xs.any λy=>eqV y x
def rIn(K:PySem.W.Frag)(neg:Bool):R2:=λx y H Q=>∃p xs,y=.ref p/\(SqL K H p xs∨SqT K H p xs)/\jx_ x=true/\xs.all jx_=true/\Q (.bl (if neg then !inV x xs else inV x xs)) H
theorem xh_:OpR X (compareOp .NotIn) (rIn X.K true):=by
 intro pins s σ H x y v u Q I rx ry h
 obtain⟨p,xs,rfl,hq,fx,fs,q⟩:=h
 cases ry
 rcases hq with hq|hq
 ·obtain⟨its,r,pl,hz⟩:=I.list hq
  refine SeqAt.notIn_listAt (eqU x) pl.isList (λw hw=>xN_ rx fx r fs w (by simpa using hw)) ⟨.bl _,H,I,rfl,?_⟩
  rw[show its.toArray.any (eqU x)=its.any (eqU x) by simp,yq_ r fs]
  exact q
 ·obtain⟨its,r,pl,hz⟩:=I.tuple hq
  refine SeqAt.notIn_tupleAt (eqU x) pl (λw hw=>xN_ rx fx r fs w (by simpa using hw)) ⟨.bl _,H,I,rfl,?_⟩
  rw[show its.toArray.any (eqU x)=its.any (eqU x) by simp,yq_ r fs]
  exact q
theorem q0_:CallR X (.builtin "len") (λxs H Q=>∃p ys,xs=[.ref p]/\(SqL X.K H p ys∨SqT X.K H p ys)/\Q (.int ys.length) H):=by
 intro pins s σ H xs us Q I r h
 obtain⟨p,ys,rfl,hq,q⟩:=h
 obtain⟨u,rfl,rx⟩:=zd_ r
 cases rx
 have hn:=jQ_
 rcases hq with hq|hq
 ·obtain⟨its,r',pl,hz⟩:=I.list hq
  have hlen:=r'.length
  exact Calls.call_len_list pl.isList (by simp only[AS]<;>omega) ⟨.int ys.length,H,I.tok _,⟨s.toks+1,by rw[AS,hlen]⟩,q⟩
 ·obtain⟨its,r',pl,hz⟩:=I.tuple hq
  have hlen:=r'.length
  exact len_tuple pl (by simp only[AS]<;>omega) ⟨.int ys.length,H,I.tok _,⟨s.toks+1,by rw[AS,hlen]⟩,q⟩
theorem zb_:CallR X (.builtin "len") (λxs H Q=>∃z,xs=[.str z]/\z.length<=sizeLine/\Q (.int z.length) H):=by
 intro pins s σ H xs us Q I r h
 obtain⟨z,rfl,hz,q⟩:=h
 obtain⟨u,rfl,t,rfl⟩:=zd_ r
 have hn:=jQ_
 exact len_str (by omega) ⟨.int z.length,H,I.tok _,⟨_,rfl⟩,q⟩
theorem CallR.or{f:Value}{r r':List V->Hp->VK->Prop}(h:CallR X f r)(h':CallR X f r'):CallR X f (λxs H Q=>r xs H Q∨r' xs H Q):=by
 intro pins s σ H xs us Q I rs q
 rcases q with q|q
 ·exact h pins s σ H xs us Q I rs q
 ·exact h' pins s σ H xs us Q I rs q
theorem zC_:CallR X (.type "tuple") (λxs H Q=>∃p ys,xs=[.ref p]/\((SqL X.K H p ys/\∀l,H l=none->Q (.ref l) (upd H l (.tup ys)))∨(SqT X.K H p ys/\Q (.ref p) H))):=by
 intro pins s σ H xs us Q I r h
 obtain⟨p,ys,rfl,h⟩:=h
 obtain⟨u,rfl,rx⟩:=zd_ r
 cases rx
 rcases h with⟨hq,q⟩|⟨hq,q⟩
 ·obtain⟨its,r',pl,hz⟩:=I.list hq
  have hlen:=r'.length
  refine call_tuple_list pl.isList (λh' kp=>?_) (by simp only[AS]<;>omega)
  have I1:Inv X pins σ H { s with heap:=h' }:=I.kept (t':=s.toks) kp
  have I2:Inv X pins σ (upd H h'.objs.size (.tup ys)) { s with heap:=h'.push { cls:=.type "tuple",data:=.seq its.toArray } } :=
   I1.laid (t':=s.toks) (λb o e=>AA _ e) (AB _) (show ObjOk X.prog X.w _ _ _ (.tup ys) from⟨hz,its,r',TupN.new _ _⟩)
  exact⟨.ref h'.objs.size,_,I2,rfl,q _ (I1.hok.fresh (AB _))⟩
 ·obtain⟨its,r',pl,hz⟩:=I.tuple hq
  exact call_tuple_same pl ⟨.ref p,H,I,rfl,q⟩
def tyV(K:PySem.W.Frag)(T:String)(x:V)(H:Hp):Prop:=match x with
 |.str _=>T = "str"
 |.int _=>T = "int"
 |.ref p=>(T = "list" /\ ∃xs,SqL K H p xs)∨(T = "tuple" /\ ∃o,K.lookup p=some o/\o.cls=.type "tuple" /\ o.dict=none) ∨
   (T = "dict" /\ ((∃kvs,H p=some (.dK kvs))∨∃kvs,H p=some (.dT kvs)))∨(T = "set" /\ ∃S n,H p=some (.set S n))
 |_=>False
theorem aiv_{pins:List (Addr×Obj)}{σ:St}{H:Hp}{s:Shared}{T:String}{x:V}{v:Value}(I:Inv X pins σ H s)(r:RelV x v)(ty:tyV X.K T x H) :
  s.TypeIs v T/\∀a,v=.ref a->∃ob,s.heap.get? a=some ob/\ob.dict=none:=by
 cases x with
 |str z =>
  obtain⟨t,rfl⟩:=r
  cases(show T = "str" from ty)
  exact⟨typeIs_str s z t,λ_ e=>nomatch e⟩
 |int i =>
  obtain⟨t,rfl⟩:=r
  cases(show T = "int" from ty)
  exact⟨typeIs_int s i t,λ_ e=>nomatch e⟩
 |ref p =>
  cases r
  rcases ty with⟨rfl,xs,hq⟩|⟨rfl,o,hk,hc,hd⟩|⟨rfl,hk⟩|⟨rfl,S,n,hk⟩
  ·obtain⟨its,_,pl,_⟩:=I.list hq
   refine⟨pl.isList.typeIs,λa e=>?_⟩
   cases e
   obtain⟨o,n,e,c,hd,_⟩:=pl
   exact⟨o,e,hd⟩
  ·refine⟨⟨o,I.kIn p o hk,hc⟩,λa e=>?_⟩
   cases e
   exact⟨o,I.kIn _ o hk,hd⟩
  ·have z:∃o,s.heap.get? p=some o/\o.ExactDict:=by
    rcases hk with⟨kvs,hk⟩|⟨kvs,hk⟩
    ·obtain⟨_,_,_,_,o,_,_,e,ex,_⟩:=I.hok p _ hk
     exact⟨o,e,ex⟩
    ·obtain⟨_,_,_,_,o,_,_,e,ex,_⟩:=I.hok p _ hk
     exact⟨o,e,ex⟩
   obtain⟨o,e,ex⟩:=z
   refine⟨⟨o,e,ex.1⟩,λa e2=>?_⟩
   cases e2
   exact⟨o,e,ex.2.1⟩
  ·obtain⟨o,_,_,_,e,ex,_⟩:=I.hok p _ hk
   refine⟨⟨o,e,ex.1⟩,λa e2=>?_⟩
   cases e2
   exact⟨o,e,ex.2.1⟩
 |_=>exact False.elim ty
def tBM(K:PySem.W.Frag)(T:String)(r:V->List V->Hp->VK->Prop)(to:TE)(t:TA):TE:=λσ H Q=>to σ H λx H1=>tyV K T x H1/\t σ H1 λxs H2=>r x xs H2 Q
variable{o e:Expr}{es:List Expr}{to:TE}{t:TA}{name:Str}{apos cpos:Pos}{T id:String}{r:V->List V->Hp->VK->Prop}
theorem zu_(pa:PlainAttrs T)(slot:Slot T name id)(hty:typeOf (.builtin id)=pure (.type "method_descriptor"))(hm:MtR X id r)(ho:PE X o to)(ha:PA X (e::es) t)
  (hbase:attributeBase o name X.env (eval o X.env)=eval o X.env:=by rfl)
  (hfew:((backTo cpos (starEach (e::es) X.env)).all (λx=>!x.1)&&(backToKw cpos (keywordEach [] X.env)).all (λx=>x.1.isSome)
   && decide ((e::es).length+([]:List Keyword).length+(if ([]:List Keyword).isEmpty then 0 else 1)<30))=true:=by rfl)
  (hline:(apos.endLine==cpos.line)=true:=by rfl) (hs:starEach (e::es) X.env=(false,eval e X.env)::starEach es X.env:=by rfl) (hplain:(backTo cpos (starEach es X.env)).any (·.1)=false:=by rfl) :
  PE X (.Call (.Attribute o name apos) (e::es) [] cpos) (tBM X.K T r to t):=by
 intro pins s σ H Q I h
 refine wpAny_Call_method_late hbase hfew hline rfl (thn (ho pins s σ H _ I h) λv s1 ⟨x,H1,I1,r1,ty,q1⟩=>?_)
 obtain⟨h1,h2⟩:=aiv_ I1 r1 ty
 refine⟨T,id,pa,slot,hty,h1,h2,?_⟩
 have hA:=ha cpos pins s1 σ H1 _ I1 q1
 rw[hs]at hA ⊢
 refine CO (by show(false||(backTo cpos (starEach es X.env)).any (·.1))=false;rw[hplain]<;>rfl) (Cg ?_)
 exact thn hA λus s2 ⟨vs,H2,I2,r2,q2⟩=>hm pins s2 σ H2 x vs v us Q I2 r1 r2 q2
end
end L2
namespace L2
open PySem PySem.Spec PyProof.Rows
def MtM(X:Cx)(id:String)(r:V->List V->Hp->VK->Prop):Prop :=
 ∀(pins:List (Addr×Obj))(s:Shared)(σ:St)(H:Hp)(x:V)(xs:List V)(v:Value)(us:List Value)(Q:VK),Inv X pins σ H s->RelV x v->Vals xs us->r x xs H Q ->
  wpAny (model X.prog X.w) X.A (call (.builtin id) (v::us)) (EP X pins σ Q) X.xe s
theorem Vals.one:∀{x:V}{us:List Value},Vals [x] us->∃u,us=[u]/\RelV x u
 |_,_,.cons r .nil=>⟨_,rfl,r⟩
theorem Vals.two:∀{x y:V}{us:List Value},Vals [x,y] us->∃u v,us=[u,v]/\RelV x u/\RelV y v
 |_,_,_,.cons r (.cons q .nil)=>⟨_,_,rfl,r,q⟩
theorem Vals.reverse{xs:List V}{us:List Value}(h:Vals xs us):Vals xs.reverse us.reverse:=by
 induction h with
 |nil=>exact .nil
 |cons r t ih=>rw[DC,DC];exact Vals.append ih (.cons r .nil)
theorem Vals.rep{xs:List V}{us:List Value}(h:Vals xs us):∀k:Nat,Vals (List.replicate k xs).flatten (List.replicate k us).flatten
 |0=>.nil
 |k+1=>by
  rw[BZ,BZ,B6,B6]
  exact Vals.append h (Vals.rep h k)
theorem yA_(its:List Value):∀(k:Nat)(acc:List Value),
  List.foldl (λx1 x2=>x1++x2) acc.toArray (List.replicate k its.toArray)=(acc++(List.replicate k its).flatten).toArray
 |0,acc=>by simp
 |k+1,acc=>by
  have e:acc.toArray++its.toArray=(acc++its).toArray:=by simp
  have e2:(acc++its)++(List.replicate k its).flatten=acc++(List.replicate (k+1) its).flatten:=by
   rw[BZ,B6,AR]
  rw[<-e2,<-yA_ its k (acc++its),<-e,BZ,CJ]
section
variable{X:Cx}{pins:List (Addr×Obj)}{σ:St}{H:Hp}{s:Shared}{l b:Addr}{xs ys zs:List V}
theorem Inv.lset{its its':List Value}{n:Nat}{f:Array Value->Array Value}{t':Nat}(I:Inv X pins σ H s)(hH:H l=some (.lst xs))
  (e:s.heap.get? l=some { cls:=.type "list",data:=.seq its.toArray n }) (hf:f its.toArray=its'.toArray) (hv:Vals ys its') (hz:ys.length<=sizeLine) :
  Inv X pins σ (upd H l (.lst ys)) { s with heap:=s.heap.update l (Obj.mapSeq f),toks:=t' }:=by
 have q:=PySem.IsL.update e f
 rw[hf]at q
 refine I.write (x:=l) (e:=l) (by rw[hH];exact trivial) (.inl rfl) (λb' u hb hu=>(Ah s.heap (Obj.mapSeq f) (BP hb)).trans hu) ⟨_,q⟩ ?_
 exact⟨hz,its',_,hv,q⟩
theorem Inv.lnew{its:List Value}{t':Nat}(I:Inv X pins σ H s)(hv:Vals ys its)(hz:ys.length<=sizeLine) :
  Inv X pins σ (upd H s.heap.objs.size (.lst ys)) { s with heap:=s.heap.push { cls:=.type "list",data:=.seq its.toArray },toks:=t' } :=
 I.laid (λ_ _ q=>AA _ q) (AB _) ⟨hz,its,0,hv,AE _ rfl⟩
theorem Inv.fresh(I:Inv X pins σ H s):H s.heap.objs.size=none:=I.hok.fresh (AB _)
theorem Inv.lstM(I:Inv X pins σ H s)(hH:H l=some (.lst xs)):xs.length<=sizeLine/\∃(its:List Value)(n:Nat),Vals xs its/\xs.length=its.length/\s.heap.get? l=some { cls:=.type "list",data:=.seq its.toArray n }:=by
 obtain⟨z,its,n,r,e⟩:=I.hok l _ hH
 exact⟨z,its,n,r,r.length,e⟩
theorem vo_{n:Nat}(h:n<=sizeLine):Builtin.List.listTooLong n=false:=by
 unfold Builtin.List.listTooLong
 exact decide_eq_false (by omega)
end
section
variable{X:Cx}
def ahe_:V->List V->Hp->VK->Prop:=λx vs H Q=>∃l xs y,x=.ref l/\vs=[y]/\H l=some (.lst xs)/\xs.length<sizeLine/\Q .non (upd H l (.lst (xs++[y])))
theorem zk_:MtM X "list.append" ahe_:=by
 intro pins s σ H x vs v us Q I rx rv h
 obtain⟨l,xs,y,rfl,rfl,hH,hz,q⟩:=h
 cases rx
 obtain⟨u,rfl,ru⟩:=rv.one
 obtain⟨z,its,n,r,hl,e⟩:=I.lstM hH
 refine call_meets F.slot_list_append ⟨_,e,rfl⟩ F.entry_list_append (F.args_list_append_2 _ _) (PySem.list_append l its.toArray n u (by rw[AS];omega)) ⟨e,?_⟩
 refine⟨.non,_,I.lset (its':=its++[u]) hH e (by simp) (r.append (.cons ru .nil)) ?_,rfl,q⟩
 rw[AQ,CW]
 omega
def agl_:V->List V->Hp->VK->Prop:=λx vs H Q=>∃l b xs zs,x=.ref l/\vs=[.ref b]/\H l=some (.lst xs)/\H b=some (.lst zs)/\xs.length+zs.length<=sizeLine/\Q .non (upd H l (.lst (xs++zs)))
theorem ako_:MtM X "list.extend" agl_:=by
 intro pins s σ H x vs v us Q I rx rv h
 obtain⟨l,b,xs,zs,rfl,rfl,hH,hB,hz,q⟩:=h
 cases rx
 obtain⟨u,rfl,ru⟩:=rv.one
 cases ru
 obtain⟨z,its,n,r,hl,e⟩:=I.lstM hH
 obtain⟨z2,its2,n2,r2,hl2,e2⟩:=I.lstM hB
 have hsz:its.toArray.size+its2.toArray.size<=sizeLine:=by rw[AS,AS];omega
 have hlong:¬ (!its.toArray.isEmpty&&Builtin.List.listTooLong (its.toArray.size+its2.toArray.size))=true:=by
  rw[vo_ hsz,Dm]
  exact AL
 refine call_meets F.slot_list_extend ⟨_,e,rfl⟩ F.entry_list_extend (F.args_list_extend_2 _ _)
  (AutoSeq1.list_extend_list_list_0 l its.toArray n b its2.toArray n2 hlong (by rw[AS];omega) (by omega)) ⟨e,e2,?_⟩
 refine⟨.non,_,I.lset (its':=its++its2) hH e (by simp) (r.append r2) ?_,rfl,q⟩
 rw[AQ]
 omega
def rCat:R2:=λx y H Q=>∃l b xs zs,x=.ref l/\y=.ref b/\H l=some (.lst xs)/\H b=some (.lst zs)/\xs.length+zs.length<=sizeLine/\∀p,H p=none->Q (.ref p) (upd H p (.lst (xs++zs)))
theorem zi_:OpR X (binaryOp .Add) rCat:=by
 intro pins s σ H x y v u Q I rx ry h
 obtain⟨l,b,xs,zs,rfl,rfl,hH,hB,hz,q⟩:=h
 cases rx
 cases ry
 obtain⟨z,its,n,r,hl,e⟩:=I.lstM hH
 obtain⟨z2,its2,n2,r2,hl2,e2⟩:=I.lstM hB
 refine PySem.P.add_list e e2 ?_ (by rw[AS,AS];omega)
 have ea:its.toArray++its2.toArray=(its++its2).toArray:=by simp
 rw[ea]
 exact⟨.ref _,_,I.lnew (t':=s.toks) (r.append r2) (by rw[AQ];omega),rfl,q _ I.fresh⟩
def rRep:R2:=λx y H Q=>∃l k xs,x=.ref l/\y=.int k/\H l=some (.lst xs)/\-(2^63)<=k/\k<2^63/\xs.length*k.toNat<=sizeLine /\
 ∀p,H p=none->Q (.ref p) (upd H p (.lst (List.replicate k.toNat xs).flatten))
theorem aha_{α:Type}(xs:List α)(k:Nat):(List.replicate k xs).flatten.length=k*xs.length:=by
 induction k with
 |zero=>simp
 |succ k ih=>rw[BZ,B6,AQ,ih,Nat.succ_mul,Nat.add_comm]
theorem aiu_:OpR X (binaryOp .Mult) rRep:=by
 intro pins s σ H x y v u Q I rx ry h
 obtain⟨l,k,xs,rfl,rfl,hH,h1,h2,hz,q⟩:=h
 cases rx
 obtain⟨t,rfl⟩:=ry
 obtain⟨z,its,n,r,hl,e⟩:=I.lstM hH
 have hlen:its.toArray.size*k.toNat<=sizeLine:=by rw[AS,<-hl];exact hz
 have hcap:¬ its.toArray.size*k.toNat>(2^63-1) / 8:=by
  have:(sizeLine:Nat)<=(2^63-1) / 8:=by decide
  omega
 have hfit:¬ (!Builtin.List.listFitsIndex k)=true:=by
  rw[fitsIndex_both h1 h2]
  exact AL
 have hlong:¬ Builtin.List.listTooLong (its.toArray.size*k.toNat)=true:=by
  rw[vo_ hlen]
  exact AL
 have hnew:List.foldl (λx1 x2=>x1++x2) #[] (List.replicate (if its.toArray.isEmpty=true then 0 else k.toNat) its.toArray)=(List.replicate k.toNat its).flatten.toArray:=by
  have f0:∀m:Nat,List.foldl (λx1 x2=>x1++x2) #[] (List.replicate m its.toArray)=(List.replicate m its).flatten.toArray:=λm=>by
   have:=yA_ its m []
   rw[List.nil_append]at this
   exact this
  rw[f0]
  cases its with
  |nil=>simp
  |cons a r'=>rw[if_neg (by simp)]
 refine wpAny_binaryOp_repeat_ref (T := "list") (U := "int") (by decide) ⟨_,e,rfl⟩ (λs'=>typeIs_int s' k t) noFill_list_mul F.fills_int_mul F.slot_int_rmul repeat_list F.slot_int_index.lookup
  (call_meets F.slot_int_rmul (typeIs_int s k t) F.entry_int_rmul (F.args_int_rmul_2 _ _) (int___rmul___int_list k t l its.toArray n)
   ⟨e,rfl,⟨_,e,rfl⟩,call_meets F.slot_list_mul ⟨_,e,rfl⟩ F.entry_list_mul (F.args_list_mul_2 _ _) (AutoListH.list___mul___list_int_3 l its.toArray n k t hfit hcap hlong) ⟨e,?_⟩⟩)
 rw[hnew]
 exact⟨.ref _,_,I.lnew (t':=s.toks) (r.rep k.toNat) (by rw[aha_,EB];exact hz),rfl,q _ I.fresh⟩
end
end L2
namespace Att
open PySem PySem.W PySem.Calls PyProof.Rows
theorem yh_{P:Params}{h:Heap}:∀(ns:List Int)(vs:List Value),WellAll P h vs (ns.map WData.int)->IntsAre vs ns:=by
 intro ns
 induction ns with
 |nil =>
  intro vs w
  rw[EA]at w
  cases w
  exact .nil
 |cons n ns ih =>
  intro vs w
  rw[Ab]at w
  cases w with
  |cons a b =>
   cases a
   exact .cons _ _ (ih _ b)
theorem acr_{l:OpenLaw}{n:Nat}(hn:l.most=some n){P:Params}{h:Heap}{args:List WData}{vals:List Value}
  (hpre:l.row.toRowW.claim.pre args=true) (hwl:WellAll P h vals args) :
  ∃a vs ns,vals=[Value.ref a]/\args=[WData.list (ns.map WData.int)]/\h.get? a=some { cls:=.type "list",data:=.seq vs.toArray }/\IntsAre vs ns/\ns.length<=n:=by
 have hsh:WShape.hasAll [] args [.list .int]=true:=(pre_splitW hpre).1
 have hc:l.pre.holds [] { args:=args }=true:=(pre_splitW hpre).2
 obtain⟨d,r,rfl,h1,h2⟩:=hasAllW_cons hsh
 obtain rfl:=hasAllW_nil h2
 obtain⟨xs,rfl,h3⟩:=hasW_list h1
 obtain⟨ns,rfl⟩:=items_int h3
 have hlen:ns.length<=n:=by
  unfold OpenLaw.pre at hc
  have h4:(WTm.not (.lt (.lit (.int (n:Int))) (.len (.arg 0)))).holds [] { args:=[.list (ns.map .int)] }=true:=by
   have h4:=(holds_andW hc).1
   rw[hn]at h4
   exact h4
  have h5:=condW_of h4 (w_not (w_lt w_lit (w_len_list (w_arg rfl))))
  rw[AF]at h5
  refine Nat.le_of_not_lt λq=>?_
  have q':(n:Int)<((ns.length:Nat):Int):=by omega
  first
   |(rw[decide_eq_true q']at h5;exact absurd h5 (by decide))
   |(simp at h5;omega)
 cases hwl with
 |cons w1 w2 =>
  cases w2
  cases w1 with
  |list ho hall=>exact⟨_,_,ns,rfl,rfl,ho,yh_ ns _ hall,hlen⟩
theorem adh_(l:OpenLaw)(args:List WData):l.row.toRowW.claim.post args (.bool true) args=true :=
 postW_of (r:=l.row.toRowW) (X:=(true==true))
  (show WShape.has [] (.bool true) .bool=true by first|rfl|decide|simp [WShape.has,WShape.arms,WShape.armsAll])
  (show(WTm.eq .res (.lit (.bool true))).value [] { args:=args,res:=some (.bool true),after:=args }=some (.bool (true==true)) from w_eq_bool (w_res rfl) w_lit) rfl
theorem attach_call{l:OpenLaw}{n:Nat}{q:Program}{loose:List Str}{XP:(Str->Option Value)->Heap->Prop}{YP:World->Heap->Prop}{d:DefRec}
  (hn:l.most=some n) (hdf:d.params.defaults=[])
  (call:∀(w:World)(s₀ s₁:Shared)(mg mb:Str->Option Value)(fa:Addr)(o:Obj)(pm cd doc:Value)(a:Addr)(vs:List Value)(ns:List Int),
   Ground q loose [] XP w s₀ mg mb s₁.heap->YP w s₁.heap ->
   s₁.heap.get? fa=some o->o.data=.func (docDef d.name d.params d.body d.scope pm cd doc)->s₁.heap.CodeRec cd d.name->mg d.name=some (.ref fa) ->
   s₁.heap.get? a=some { cls:=.type "list",data:=.seq vs.toArray }->IntsAre vs ns->ns.length<=n->s₁.gens=#[] ->
   codeAny (model l.prog w) callerA (.call (.ref fa) ⟨[.ref a],[]⟩) (λr s'=>r=.ok (.ret (.bool true))/\OldK s₁.heap s'.heap/\s'.os=s₁.os/\AllBare s'.gens) s₁) :
  WalkO q loose XP YP l.row.toRowW d [] (λf vs=>PySem.call f vs):=by
 intro w s₀ s₁ mg mb G Y fa o pm cd doc dV kV ho hd hcd hD hmg hg args vals as hpre hlay hrd hwl hlo
 obtain rfl:dV=.none:=Dflts.none hD hdf
 obtain rfl:kV=.none:=Dflts.noKw hD
 obtain⟨a,vs,ns,rfl,rfl,hobj,hints,hlen⟩:=acr_ hn hpre hwl
 refine enter_call (codeAny_mono (call w s₀ s₁ mg mb fa o pm cd doc a vs ns G Y ho (fd_plain hd) hcd hmg hobj hints hlen hg) λr s' hq=>?_)
 obtain⟨rfl,h2,h3,h4⟩:=hq
 exact⟨.inl ⟨.bool true,.bool true,[],rfl,λ_=>rfl,.bool true,adh_ l _,λ_=>⟨List.Pairwise.nil,λ_ hm=>(nomatch hm)⟩⟩,h2,h3,h4⟩
section
variable{prog:Program}{w:World}{A:Around}{E:Value->Shared->Prop}{s:Shared}{K:Frag}
def alm_(h:Heap)(L d:Addr):List (Addr×Obj):=(List.range h.objs.size).filterMap λa=>if a=L∨a=d then none else (h.get? a).map λo=>(a,o)
end
end Att
namespace L2
open PySem PySem.Spec PyProof.Rows
theorem yH_:∀{vs:List Value}{ns:List Int},IntsAre vs ns->Vals (ns.map V.int) vs
 |_,_,.nil=>.nil
 |_,_,.cons n t h=>.cons ⟨t,rfl⟩ (yH_ h)
def Only(H:Hp):Prop:=∀b,H b=none∨∃o xs,H b=some (.frz o (.lst xs))
theorem aek_{P:Program}{w:World}{K:PySem.W.Frag}{mg mb:Str->Option Value}{CX:CXT}{k:Nat}{fa a:Addr}{fd:FuncData}{x:Str}{sp:Sp}{s₁:Shared}{vs:List Value}{ns:List Int}
  (KX:K.In s₁.heap) (hns:s₁.heap.Ns mainGlobals mg) (hb:s₁.heap.Ns builtinsNs mb) (hbb:∀x:Str,x ≠ "__name__" -> mb x=bootBuiltins x) (hlim:s₁.heap.NoLimit) (hg:s₁.gens=#[])
  (ha:s₁.heap.get? a=some { cls:=.type "list",data:=.seq vs.toArray }) (hi:IntsAre vs ns) (hl:ns.length<=sizeLine) (hr:Room k callerA)
  (F:∀base:Heap,K.In base->base.Ns mainGlobals mg->FnOk P w K mg base CX k fa fd [x] sp) (hbind:∀(s:Shared)(u:Value),BindsTo s fd ⟨[u],[]⟩ [(x,u)])
  (hsp:∀H:Hp,Only H->SqL K H a (ns.map V.int)->sp [.ref a] H (λv _=>v=.bl true) λ_ _ _=>False)
  (hCX:∀H e s',CX [] H s₁ (λ_ _ _=>False) e s'->False) :
  codeAny (model P w) callerA (.call (.ref fa) ⟨[.ref a],[]⟩) (λr s'=>r=.ok (.ret (.bool true))/\OldK s₁.heap s'.heap/\s'.os=s₁.os/\AllBare s'.gens) s₁:=by
 have rv:=yH_ hi
 have lenV:=hi.length
 have core:∀H:Hp,Only H->SqL K H a (ns.map V.int)->HOk P w H s₁.heap->(∀b,H b≠none->b=a)->(H a≠none->K.lookup a=none) ->
   codeAny (model P w) callerA (.call (.ref fa) ⟨[.ref a],[]⟩) (λr s'=>r=.ok (.ret (.bool true))/\OldK s₁.heap s'.heap/\s'.os=s₁.os/\AllBare s'.gens) s₁:=by
  intro H hO hS hok hA hK
  have base_of:∀{b:Addr}{o:Obj},s₁.heap.get? b=some o->H b=none->(j9_ s₁.heap H).get? b=some o:=λe n=>adq_ e n
  have noA:∀{b:Addr}{o:Obj}{es:Array DictEntry}{ep:Nat},s₁.heap.get? b=some o->o.data=.dict es ep->H b=none:=λ{b o es ep} e d=>by
   cases q:H b with
   |none=>rfl
   |some u =>
    have e':b=a:=hA b (by rw[q];simp)
    subst e'
    rw[ha]at e;cases e
    have d':Data.seq vs.toArray _=Data.dict es ep:=d
    cases d'
  have nsK:∀{b:Addr}{m:Str->Option Value},s₁.heap.Ns b m->(j9_ s₁.heap H).Ns b m:=λ{b m} ⟨o,es,ep,e,d,r⟩=>⟨o,es,ep,base_of e (noA e d),d,r⟩
  have hKb:K.In (j9_ s₁.heap H):=λb o e=>base_of (KX b o e) (by
   cases q:H b with
   |none=>rfl
   |some u =>
    have e':b=a:=hA b (by rw[q];simp)
    subst e'
    rw[hK (by rw[q];simp)]at e;cases e)
  have hM:Mod K mg (j9_ s₁.heap H):=⟨hKb,nsK hns,⟨mb,nsK hb,hbb⟩,let ⟨mc,h1,h2⟩:=hlim;⟨mc,nsK h1,h2⟩⟩
  have e0:Env0 P w K mg (j9_ s₁.heap H) callerA [] s₁ H:=⟨rfl,hM,λb o e=>ag9_ e,Nat.le_of_eq (acl_ _ _),trivial,λb hb=>absurd (show b∈([]:List Addr) from hb) (by simp),hok,.of_eq hg⟩
  refine codeAny_mono ((F _ hKb (nsK hns)).run callerA [] s₁ H ⟨[.ref a],[]⟩ [.ref a] [.ref a] _ _ hr e0 (hbind s₁ (.ref a)) (.cons rfl .nil) (hsp H hO hS)) λr s' h=>?_
  cases r with
  |error e=>exact(hCX H e s' h).elim
  |ok fl =>
   cases fl with
   |next=>exact False.elim h
   |brk=>exact False.elim h
   |cont=>exact False.elim h
   |ret u =>
    obtain⟨v,H',os,bare,un,hok',r',q⟩:=h
    have q':v=.bl true:=q
    subst q'
    obtain rfl:u=Value.bool true:=r'
    refine⟨rfl,OldK.of_keep λb o e=>?_,os,bare⟩
    cases q:H b with
    |none=>exact un.keep b o e q (by intro z;exact absurd (show b∈([]:List Addr) from z) (by simp)) (by simp)
    |some u =>
     rcases hO b with z|⟨ob,xs,z⟩
     ·rw[q]at z;cases z
     ·have z2:=un.frzs b ob _ z
      obtain⟨e1,_⟩:=hok b _ z
      obtain⟨e2,_⟩:=hok' b _ z2
      rw[e]at e1;cases e1
      exact e2
 cases hk:K.lookup a with
 |some o =>
  have e:=KX a o hk
  rw[ha]at e
  cases e
  refine core (λ_=>none) (λ_=>.inl rfl) (.inr ⟨_,vs.toArray,_,hk,rfl,rfl,rfl,by rw[AS,lenV];exact hl,by simpa using rv⟩) (λb u z=>by have z':(none:Option HO)=some u:=z;cases z') (λb z=>absurd rfl z) λz=>absurd rfl z
 |none =>
  refine core (λb=>if b=a then some (.frz { cls:=.type "list",data:=.seq vs.toArray } (.lst (ns.map V.int))) else none) (λb=>?_) (.inl (.inr ⟨{ cls:=.type "list",data:=.seq vs.toArray },if_pos rfl⟩)) (λb u z=>?_) (λb z=>?_) λ_=>hk
  ·by_cases hb:b=a
   ·exact .inr ⟨_,_,if_pos hb⟩
   ·exact .inl (if_neg hb)
  ·by_cases hb:b=a
   ·have z':=(if_pos hb).symm.trans z
    cases z'
    subst hb
    exact⟨ha,by rw[AF];exact hl,vs,_,rv,ha⟩
   ·have z':=(if_neg hb).symm.trans z
    cases z'
  ·by_cases hb:b=a
   ·exact hb
   ·exact absurd (if_neg hb) z
end L2
namespace L2
open PySem PySem.Spec PyProof.Rows
theorem walk_of{l:PySem.W.OpenLaw}{n k:Nat}{q:Program}{loose:List Str}{XP:(Str->Option Value)->Heap->Prop}{YP:World->Heap->Prop}{d:DefRec}{K:Params->PySem.W.Frag}{CX:World->CXT}{sp:World->Sp}{x:Str}
  (hn:l.most=some n) (hn2:n<=sizeLine) (hdf:d.params.defaults=[]) (hr:Room k callerA)
  (hY:∀(w:World)(h:Heap),YP w h->(K w.params).In h)
  (F:∀(w:World)(mg:Str->Option Value)(fa:Addr)(h:Heap),(K w.params).In h->h.Ns mainGlobals mg->mg d.name=some (.ref fa) ->
   ∃fd:FuncData,(∀(s:Shared)(u:Value),BindsTo s fd ⟨[u],[]⟩ [(x,u)]) /\
    ∀base:Heap,(K w.params).In base->base.Ns mainGlobals mg->FnOk l.prog w (K w.params) mg base (CX w) k fa fd [x] (sp w))
  (hsp:∀(w:World)(H:Hp)(a:Addr)(ns:List Int),ns.length<=n->Only H->SqL (K w.params) H a (ns.map V.int)->sp w [.ref a] H (λv _=>v=.bl true) λ_ _ _=>False)
  (hCX:∀(w:World)(H:Hp)(s:Shared)(e:Value)(s':Shared),CX w [] H s (λ_ _ _=>False) e s'->False) :
  PySem.W.WalkO q loose XP YP l.row.toRowW d [] (λf vs=>PySem.call f vs):=by
 refine Att.attach_call hn hdf λw s₀ s₁ mg mb fa o pm cd doc a vs ns G Y ho hd hcd hmg hobj hints hlen hg=>?_
 have KX:=hY w _ Y
 obtain⟨fd,hb,hF⟩:=F w mg fa _ KX G.T.g hmg
 exact aek_ KX G.T.g G.T.b G.T.builtins G.T.nolimit hg hobj hints (AZ hlen hn2) hr hF hb (λH hO hS=>hsp w H a ns hlen hO hS) λH e s'=>hCX w H s₁ e s'
end L2
namespace L2
open PySem PySem.Spec PyProof.Rows
def jV_(s:Stmt):Arguments:=match s with
 |.FunctionDef _ a _ _ _ _ _ _ _ _=>a
 |_=>{ posonlyargs:=[],args:=[],vararg:=none,kwonlyargs:=[],kw_defaults:=[],kwarg:=none,defaults:=[] }
def zO_(s:Stmt):List Stmt:=match s with
 |.FunctionDef _ _ b _ _ _ _ _ _ _=>b
 |_=>[]
def qm_(s:Stmt):Scope:=match s with
 |.FunctionDef _ _ _ _ _ _ sc _ _ _=>sc
 |_=>{ kind:=.function,names:=[],isGenerator:=false,isCoroutine:=false }
abbrev CX0:CXT:=λ_ _ _ _ _ _=>False
abbrev E0:XK:=λ_ _ _=>False
theorem xI_{X:Cx}:xj_ CX0 X E0:=λ_ _ _ _ _ _ _ h=>h.elim
structure Fun(K:PySem.W.Frag)(x qual:Str)(st:Stmt)(f:Addr)(fd:FuncData):Prop where
 ex:∃(oc:Value)(od:Option Addr)(kV doc pm:Value)(an:Option Addr)(cdv ct:Value)(osl:Array (Option Value)),
  fd=PySem.W.fnOf x qual (jV_ st) (zO_ st) (qm_ st) .none kV doc pm an cdv ct/\K.lookup f=some ⟨oc,od,.func fd,osl⟩/\PySem.W.codeIn K cdv qual=true
 kp:PySem.W.keepIn K (.ref f)=true
section
variable{P:Program}{w:World}{K:PySem.W.Frag}{mg:Str->Option Value}{base:Heap}
theorem Fun.ok{x qual:Str}{st:Stmt}{f:Addr}{fd:FuncData}{N ps:List Str}{k:Nat}{sp:Sp}(F:Fun K x qual st f fd)(S:FnScope N ps (qm_ st))(len:∀vs H Q E,sp vs H Q E->vs.length=ps.length)
  (hbody:∀(cdv:Value)(A:Around)(outer:List Env)(s:Shared)(H:Hp)(vs:List V)(Q:VK)(E:XK),Room k (A.deeper (envOfC qual (qm_ st) s.heap.objs.size f cdv))->sp vs H Q E ->
   ∃t,PSs (q8_ CX0 P w K mg base N qual (qm_ st) f cdv A outer s H E).nox (zO_ st) t/\t { nx:=λ_ H'=>Q .non H',rt:=Q } (jd_ N vs) H):FnOk P w K mg base CX0 (k+1) f fd ps sp:=by
 obtain⟨oc,od,kV,doc,pm,an,cdv,ct,osl,rfl,lk,hcd⟩:=F.ex
 refine afe_ lk hcd S len λA outer s H vs Q E hr hsp=>?_
 obtain⟨t,h,q⟩:=hbody cdv A outer s H vs Q E hr hsp
 exact⟨t,h.nox,q⟩
theorem Fun.binds{x qual:Str}{st:Stmt}{f:Addr}{fd:FuncData}{ps:List Str}(F:Fun K x qual st f fd)
  (h:∀(kV doc pm:Value)(an:Option Addr)(cdv ct:Value)(us:List Value),us.length=ps.length->bindArgs (PySem.W.fnOf x qual (jV_ st) (zO_ st) (qm_ st) .none kV doc pm an cdv ct) ⟨us,[]⟩=pure (ps.zip us)):Binds K fd ps []:=by
 obtain⟨oc,od,kV,doc,pm,an,cdv,ct,osl,rfl,lk,hcd⟩:=F.ex
 exact .all (h kV doc pm an cdv ct)
theorem ahk_{x qual:Str}{st:Stmt}{f:Addr}{oc:Value}{od an:Option Addr}{osl:Array (Option Value)}{kV doc pm cdv ct:Value}(l:K.lookup f=some ⟨oc,od,.func (PySem.W.fnOf x qual (jV_ st) (zO_ st) (qm_ st) .none kV doc pm an cdv ct),osl⟩)
  (c:PySem.W.codeIn K cdv qual=true) (k:PySem.W.keepIn K (.ref f)=true):Fun K x qual st f (PySem.W.fnOf x qual (jV_ st) (zO_ st) (qm_ st) .none kV doc pm an cdv ct):=⟨⟨oc,od,kV,doc,pm,an,cdv,ct,osl,rfl,l,c⟩,k⟩
end
theorem afy_{A:Around}{k:Nat}(hr:Room k A):A.units+1<cLine:=Bf (CC (by decide:1<=64) _) hr.units
section
variable{X:Cx}
theorem pv(i:Nat){x:Str}{pos:Pos}(hN:X.N[i]?=some x:=by rfl)(hv:Vis X.env.scope x:=by first|exact Or.inl rfl|exact Or.inr (Or.inl rfl)|exact Or.inr (Or.inr rfl))(hd:(x==("__debug__" : Str))=false:=by decide)
  (hcd:(x==("__classdict__" : Str))=false:=by decide):PE X (.Name x pos) (j6_ i):=ac9_ hN hv hd hcd
end
theorem zj_{A B:Prop}(h:B):if false=true then A else B:=by
 rw[if_neg AL]
 exact h
theorem ja_{A B:Prop}(h:A):if true=true then A else B:=by
 rw[if_pos rfl]
 exact h
theorem ite2{c A B:Prop}[Decidable c](h1:c->A)(h2:¬ c->B):if c then A else B:=by
 by_cases h:c
 ·rw[if_pos h]
  exact h1 h
 ·rw[if_neg h]
  exact h2 h
def Same(H H':Hp):Prop:=∀b o,H b=some o->H' b=some o
theorem Same.refl(H:Hp):Same H H:=λ_ _ h=>h
theorem Same.trans{H H1 H2:Hp}(a:Same H H1)(b:Same H1 H2):Same H H2:=λc o h=>b c o (a c o h)
theorem Same.free{H H':Hp}(e:Same H H'){l:Addr}(h:H' l=Option.none):H l=Option.none:=by
 cases q:H l with
 |none=>rfl
 |some o =>
  rw[e l o q]at h
  cases h
theorem Same.seq{K:PySem.W.Frag}{H H':Hp}{a:Addr}{xs:List V}(e:Same H H')(h:SqL K H a xs):SqL K H' a xs:=by
 rcases h with(h|⟨o,h⟩)|h
 ·exact .inl (.inl (e _ _ h))
 ·exact .inl (.inr ⟨o,e _ _ h⟩)
 ·exact .inr h
end L2
namespace L2
open PySem PySem.Spec PyProof.Rows
section
variable{κ:Type}[DecidableEq κ]
def z1_(kvs:List (κ×V))(k:κ):Option V:=(kvs.find? λkv=>decide (kv.1=k)).map (·.2)
def zv_(kvs:List (κ×V))(k:κ)(v:V):List (κ×V) :=
 if (kvs.any λkv=>decide (kv.1=k))=true then kvs.map (λkv=>if kv.1=k then (kv.1,v) else kv) else kvs++[(k,v)]
def afg_(kvs:List (κ×V))(k:κ):List (κ×V):=kvs.filter λkv=>decide (kv.1≠k)
theorem j4_{p:κ×V}{r:List (κ×V)}{k:κ}(e:p.1=k):z1_ (p::r) k=some p.2:=by simp [z1_,BN,e]
theorem j8_{p:κ×V}{r:List (κ×V)}{k:κ}(e:¬ p.1=k):z1_ (p::r) k=z1_ r k:=by simp [z1_,BN,e]
theorem va_(k:κ):∀kvs:List (κ×V),(kvs.any λkv=>decide (kv.1=k))=(z1_ kvs k).isSome
 |[]=>rfl
 |p::r=>by
  rw[CB]
  by_cases e:p.1=k
  ·simp only[j4_ e,decide_eq_true e,Bool.true_or,Option.isSome_some]
  ·rw[j8_ e,decide_eq_false e,Bool.false_or];exact va_ k r
theorem xM_(kvs:List (κ×V))(k:κ)(v:V):(zv_ kvs k v).length<=kvs.length+1:=by
 unfold zv_
 split
 ·rw[AF];omega
 ·rw[AQ,AN,CI];omega
theorem RelO.isSome_eq{o:Option V}{u:Option Value}(r:RelO o u):o.isSome=u.isSome:=by
 cases o with
 |none=>cases u with
  |none=>rfl
  |some _=>exact(show False from r).elim
 |some _=>cases u with
  |none=>exact(show False from r).elim
  |some _=>rfl
theorem RelO.getD{o:Option V}{u:Option Value}{d:V}{d':Value}(r:RelO o u)(rd:RelV d d'):RelV (o.getD d) (u.getD d'):=by
 cases o with
 |none=>cases u with
  |none=>exact rd
  |some _=>exact(show False from r).elim
 |some _=>cases u with
  |none=>exact(show False from r).elim
  |some _=>exact r
theorem KV.val{kvs:List (κ×V)}{vs:List (κ×Value)}(r:KV kvs vs)(k:κ):RelO (z1_ kvs k) (valueAt vs k):=by
 unfold KV at r
 induction r with
 |nil=>exact True.intro
 |@cons p q ps qs h t ih =>
  obtain⟨h1,h2⟩:=h
  by_cases e:p.1=k
  ·have e':q.1=k:=h1.symm.trans e
   have b:valueAt (q::qs) k=some q.2:=by simp [valueAt,BN,e']
   rw[j4_ e,b];exact h2
  ·have e':¬ q.1=k:=λz=>e (h1.trans z)
   have b:valueAt (q::qs) k=valueAt qs k:=by simp [valueAt,BN,e']
   rw[j8_ e,b];exact ih
theorem KV.any{kvs:List (κ×V)}{vs:List (κ×Value)}(r:KV kvs vs)(k:κ):(kvs.any λkv=>decide (kv.1=k))=vs.any λkv=>decide (kv.1=k):=by
 unfold KV at r
 induction r with
 |nil=>rfl
 |cons h t ih=>rw[CB,CB,ih,h.1]
theorem KV.repl{kvs:List (κ×V)}{vs:List (κ×Value)}(r:KV kvs vs)(k:κ){y:V}{u:Value}(ry:RelV y u) :
  KV (kvs.map λkv=>if kv.1=k then (kv.1,y) else kv) (vs.map λkv=>if kv.1=k then (kv.1,u) else kv):=by
 unfold KV at r ⊢
 induction r with
 |nil=>exact .nil
 |@cons p q ps qs h t ih =>
  rw[Ab,Ab]
  refine .cons ?_ ih
  obtain⟨h1,h2⟩:=h
  by_cases e:p.1=k
  ·rw[if_pos e,if_pos (h1.symm.trans e)];exact⟨h1,ry⟩
  ·rw[if_neg e,if_neg (λz=>e (h1.trans z))];exact⟨h1,h2⟩
theorem KV.put{kvs:List (κ×V)}{vs:List (κ×Value)}(r:KV kvs vs)(k:κ){y:V}{u:Value}(ry:RelV y u):KV (zv_ kvs k y) (stored vs k u):=by
 unfold zv_ stored
 rw[r.any k]
 by_cases e:(vs.any λkv=>decide (kv.1=k))=true
 ·rw[if_pos e,if_pos e];exact r.repl k ry
 ·rw[if_neg e,if_neg e];exact CP r ⟨rfl,ry⟩
theorem KV.drop{kvs:List (κ×V)}{vs:List (κ×Value)}(r:KV kvs vs)(k:κ):KV (afg_ kvs k) (without vs k):=by
 unfold KV at r ⊢
 unfold afg_ without
 induction r with
 |nil=>exact .nil
 |@cons p q ps qs h t ih =>
  obtain⟨h1,h2⟩:=h
  rw[BS,BS]
  by_cases e:p.1=k
  ·have a:¬ decide (p.1≠k)=true:=by simp [e]
   have b:¬ decide (q.1≠k)=true:=by simp [h1.symm.trans e]
   rw[if_neg a,if_neg b];exact ih
  ·have e':¬ q.1=k:=λz=>e (h1.trans z)
   have a:decide (p.1≠k)=true:=by simp [e]
   have b:decide (q.1≠k)=true:=by simp [e']
   rw[if_pos a,if_pos b];exact .cons ⟨h1,h2⟩ ih
theorem KV.keys{kvs:List (κ×V)}{vs:List (κ×Value)}(r:KV kvs vs):kvs.map (·.1)=vs.map (·.1):=by
 unfold KV at r
 induction r with
 |nil=>rfl
 |cons h t ih=>rw[Ab,Ab,ih,h.1]
theorem KV.length{kvs:List (κ×V)}{vs:List (κ×Value)}(r:KV kvs vs):kvs.length=vs.length:=Ai r
end
theorem yY_{P:Program}{w:World}{k:Key}{u:Value}(r:RelV (kV k) u):(qS_ P w).is k u=true:=by
 cases k with
 |inl i=>obtain⟨t,e⟩:=(show ∃t,u=Value.int i t from r);subst e;exact vJ_ P w i t
 |inr x=>obtain⟨t,e⟩:=(show ∃t,u=Value.str x t from r);subst e;exact vP_ P w x t
theorem yK_{P:Program}{w:World}:∀{ks:List Key}{us:List Value},Vals (ks.map kV) us->ItemsAre (qS_ P w) ks us
 |[],_,r=>by rw[EA]at r;cases r;exact .nil
 |k::ks,_,r=>by
  rw[Ab]at r
  cases r with
  |cons h t=>exact .cons (yY_ h) (yK_ t)
abbrev KT(H:Hp):List (List Key×V)->List (List Key×Addr×Value)->Prop:=Paired λp q=>p.1=q.1/\H q.2.1=some (.tup (p.1.map kV))/\RelV p.2 q.2.2
theorem KT.val{H:Hp}{kvs:List (List Key×V)}{xs:List (List Key×Addr×Value)}(r:KT H kvs xs)(k:List Key):RelO (z1_ kvs k) ((atKey xs k).map (·.2)):=by
 induction r with
 |nil=>exact True.intro
 |@cons p q ps qs h t ih =>
  obtain⟨h1,_,h2⟩:=h
  by_cases e:p.1=k
  ·have e':q.1=k:=h1.symm.trans e
   have b:atKey (q::qs) k=some q.2:=by simp [atKey,BN,e']
   rw[j4_ e,b];exact h2
  ·have e':¬ q.1=k:=λz=>e (h1.trans z)
   have b:atKey (q::qs) k=atKey qs k:=by simp [atKey,BN,e']
   rw[j8_ e,b];exact ih
theorem KT.repl{H:Hp}{kvs:List (List Key×V)}{xs:List (List Key×Addr×Value)}(r:KT H kvs xs)(k:List Key){y:V}{u:Value}(ry:RelV y u) :
  KT H (kvs.map λkv=>if kv.1=k then (kv.1,y) else kv) (xs.map (putAt k u)):=by
 induction r with
 |nil=>exact .nil
 |@cons p q ps qs h t ih =>
  rw[Ab,Ab]
  refine .cons ?_ ih
  obtain⟨h1,h2,h3⟩:=h
  unfold putAt
  by_cases e:p.1=k
  ·rw[if_pos e,if_pos (h1.symm.trans e)];exact⟨h1,h2,ry⟩
  ·rw[if_neg e,if_neg (λz=>e (h1.trans z))];exact⟨h1,h2,h3⟩
theorem KT.put{H:Hp}{kvs:List (List Key×V)}{xs:List (List Key×Addr×Value)}(r:KT H kvs xs)(k:List Key){b:Addr}{y:V}{u:Value}(hb:H b=some (.tup (k.map kV)))(ry:RelV y u) :
  KT H (zv_ kvs k y) (storedH xs k b u):=by
 have e:(kvs.any λkv=>decide (kv.1=k))=(atKey xs k).isSome:=by
  rw[va_,(r.val k).isSome_eq,Option.isSome_map]
 unfold zv_ storedH
 rw[e]
 by_cases q:(atKey xs k).isSome=true
 ·rw[if_pos q,if_pos q];exact r.repl k ry
 ·rw[if_neg q,if_neg q];exact CP r ⟨rfl,hb,ry⟩
theorem KT.keeps{H H':Hp}{kvs:List (List Key×V)}{xs:List (List Key×Addr×Value)}(r:KT H kvs xs)(ht:∀b ys,H b=some (.tup ys)->H' b=some (.tup ys)):KT H' kvs xs :=
 Paired.mapP r λ_ _ z=>⟨z.1,ht _ _ z.2.1,z.2.2⟩
section
variable{P:Program}{w:World}{H:Hp}{h:Heap}{a:Addr}
theorem aa3_{u:HO}(ok:HOk P w H h)(e:Rd H a u):ObjOk P w H h a u:=e.ok ok
theorem x3_{kvs:List (Key×V)}(ok:HOk P w H h)(e:Rd H a (.dK kvs)):kvs.length<=sizeLine/\(a==sysModules)=false/\∃vs,KV kvs vs/\h.DictOf (qS_ P w) a vs :=
 show ObjOk P w H h a (.dK kvs) from aa3_ ok e
theorem aji_{kvs:List (Key×V)}(ok:HOk P w H h)(e:H a=some (.dK kvs)):kvs.length<=sizeLine/\(a==sysModules)=false/\∃vs,KV kvs vs/\h.DictOf (qS_ P w) a vs:=x3_ ok (.inl e)
theorem yg_{ks:List Key}(ok:HOk P w H h)(e:H a=some (.tup (ks.map kV))):(tupleKind (qS_ P w)).is h ks a:=by
 obtain⟨_,its,r,o,h1,h2,n,h3⟩:=(show ObjOk P w H h a (.tup (ks.map kV)) from ok a _ e)
 exact⟨o,its.toArray,n,h1,h2,h3.1,by simpa using yK_ r⟩
theorem x4_{kvs:List (List Key×V)}(ok:HOk P w H h)(e:Rd H a (.dT kvs)):kvs.length<=sizeLine/\(a==sysModules)=false /\
  ∃xs,KT H kvs xs/\h.DictOfH (tupleKind (qS_ P w)) a xs:=by
 obtain⟨z,y,xs,r,o,es,ep,h1,h2,h3,h4,h5⟩:=(show ObjOk P w H h a (.dT kvs) from aa3_ ok e)
 refine⟨z,y,xs,r,o,es,ep,h1,h2,h3,h4,λx hx=>?_,h5⟩
 have all:∀{l:List (List Key×V)}{m:List (List Key×Addr×Value)},KT H l m->∀x∈m,(tupleKind (qS_ P w)).is h x.1 x.2.1:=by
  intro l m q
  induction q with
  |nil=>intro x hx;exact nomatch hx
  |@cons p q ps qs hq t ih =>
   intro x hx
   rcases AI.mp hx with e|hx
   ·subst e
    exact yg_ ok (by rw[<-hq.1];exact hq.2.1)
   ·exact ih x hx
 exact all r x hx
theorem akd_{kvs:List (List Key×V)}(ok:HOk P w H h)(e:H a=some (.dT kvs)):kvs.length<=sizeLine/\(a==sysModules)=false /\
  ∃xs,KT H kvs xs/\h.DictOfH (tupleKind (qS_ P w)) a xs:=x4_ ok (.inl e)
end
def DGet(H:Hp)(a:Addr)(y:V)(r:Option V):Prop :=
 (∃kvs k,Rd H a (.dK kvs)/\y=kV k/\r=z1_ kvs k)∨∃kvs k b,Rd H a (.dT kvs)/\y=.ref b/\H b=some (.tup (k.map kV))/\r=z1_ kvs k
def DPut(H:Hp)(a:Addr)(y v:V)(H':Hp):Prop :=
 (∃kvs k,H a=some (.dK kvs)/\y=kV k/\kvs.length<sizeLine/\H'=upd H a (.dK (zv_ kvs k v))) ∨
 ∃kvs k b,H a=some (.dT kvs)/\y=.ref b/\H b=some (.tup (k.map kV))/\kvs.length<sizeLine/\H'=upd H a (.dT (zv_ kvs k v))
theorem DGet.k{H:Hp}{a:Addr}{kvs:List (Key×V)}{k:Key}(e:H a=some (.dK kvs)):DGet H a (kV k) (z1_ kvs k):=.inl ⟨kvs,k,.inl e,rfl,rfl⟩
theorem DGet.t{H:Hp}{a b:Addr}{kvs:List (List Key×V)}{k:List Key}(e:H a=some (.dT kvs))(eb:H b=some (.tup (k.map kV))):DGet H a (.ref b) (z1_ kvs k):=.inr ⟨kvs,k,b,.inl e,rfl,eb,rfl⟩
theorem DPut.k{H:Hp}{a:Addr}{kvs:List (Key×V)}{k:Key}{v:V}(e:H a=some (.dK kvs))(hl:kvs.length<sizeLine):DPut H a (kV k) v (upd H a (.dK (zv_ kvs k v))):=.inl ⟨kvs,k,e,rfl,hl,rfl⟩
theorem DPut.t{H:Hp}{a b:Addr}{kvs:List (List Key×V)}{k:List Key}{v:V}(e:H a=some (.dT kvs))(eb:H b=some (.tup (k.map kV)))(hl:kvs.length<sizeLine) :
  DPut H a (.ref b) v (upd H a (.dT (zv_ kvs k v))):=.inr ⟨kvs,k,b,e,rfl,eb,hl,rfl⟩
section
variable{X:Cx}{pins:List (Addr×Obj)}{σ:St}{H:Hp}{s:Shared}{a:Addr}{y v:V}{u r:Value}{o:Option V}{A:Around}{E:Value->Shared->Prop}
theorem Inv.big(I:Inv X pins σ H s):sysModules<s.heap.objs.size:=by
 have h:mainGlobals<s.heap.objs.size:=(I.mod.glob.keeps I.bk).lt
 exact Nat.lt_trans (by decide) h
theorem acu_{Q:Value->Shared->Prop}(hu:A.units+1<cLine)(I:Inv X pins σ H s)(g:DGet H a y (some v))(ry:RelV y u)(h:∀w' s',Inv X pins σ H s'->RelV v w'->Q w' s') :
  wpAny (model X.prog X.w) A (getItem (.ref a) u) Q E s:=by
 rcases g with⟨kvs,k,e,ey,l⟩|⟨kvs,k,b,e,ey,eb,l⟩
 ·subst ey
  obtain⟨z,hd,vs,rel,dd⟩:=x3_ I.hok e
  obtain⟨w',hw,rw'⟩:=RelO.some_of (v:=v) (o:=valueAt vs k) (by rw[l];exact rel.val k)
  exact wpAny_getItem_of (yY_ ry) dd.mapOf hw (h w' _ (I.tok _) rw')
 ·subst ey
  cases(show u=Value.ref b from ry)
  obtain⟨z,hd,xs,rel,dd⟩:=x4_ I.hok e
  obtain⟨w',hw,rw'⟩:=RelO.some_of (v:=v) (o:=(atKey xs k).map (·.2)) (by rw[l];exact rel.val k)
  obtain⟨p,hp,hp2⟩:=Df.mp hw
  refine wpAny_getItem_heap (tupleKind_room_in1 hu) (yg_ I.hok eb) dd hp ?_
  rw[hp2]
  exact h w' _ (I.tok _) rw'
theorem vY_{h':Heap}{t':Nat}{ob:HO}(I:Inv X pins σ H s)(mu:Mut (H a))(hs:Heap.SameBut a s.heap h')(he:∃q,h'.get? a=some q)(new:ObjOk X.prog X.w (upd H a ob) h' a ob) :
  Inv X pins σ (upd H a ob) { s with heap:=h',toks:=t' } :=
 I.write (x:=a) (e:=a) mu (.inl rfl) (λb q hb z=>(hs.2 b hb).trans z) he new
theorem aih_{P:Program}{w:World}{H':Hp}{h':Heap}{kvs:List (Key×V)}{vs:List (Key×Value)}(z:kvs.length<=sizeLine)(hd:(a==sysModules)=false)(rel:KV kvs vs)(dd:h'.DictOf (qS_ P w) a vs) :
  ObjOk P w H' h' a (.dK kvs):=⟨z,hd,vs,rel,dd⟩
theorem acc_{H':Hp}{Q:Unit->Shared->Prop}(hu:A.units+1<cLine)(I:Inv X pins σ H s)(g:DPut H a y v H')(ry:RelV y u)(rv:RelV v r)(h:∀s',Inv X pins σ H' s'->Q () s') :
  wpAny (model X.prog X.w) A (setItem (.ref a) u r) Q E s:=by
 rcases g with⟨kvs,k,e,ey,l,eH⟩|⟨kvs,k,b,e,ey,eb,l,eH⟩
 ·subst ey eH
  obtain⟨z,hd,vs,rel,dd⟩:=aji_ I.hok e
  have hz:vs.length<=sizeLine:=by rw[<-rel.length];exact z
  have hl:(zv_ kvs k v).length<=sizeLine:=by have:=xM_ kvs k v;omega
  refine wpAny_setItem_pairs (hsz:=hz) (yY_ ry) dd λh' dd' hs=>h _ ?_
  have he:∃q,h'.get? a=some q:=let ⟨q,_,_,hq,_⟩:=dd';⟨q,hq⟩
  exact vY_ I (by rw[e];exact True.intro) hs he (aih_ hl hd (rel.put k rv) dd')
 ·subst ey eH
  cases(show u=Value.ref b from ry)
  obtain⟨z,hd,xs,rel,dd⟩:=akd_ I.hok e
  have hz:xs.length<=sizeLine:=by rw[<-Ai rel];exact z
  have hl:(zv_ kvs k v).length<=sizeLine:=by have:=xM_ kvs k v;omega
  refine wpAny_setItem_heap (hsz:=hz) (tupleKind_room_in1 hu) (yg_ I.hok eb) dd λh' dd' hs=>h _ ?_
  obtain⟨q,es,ep,hq,h2,h3,h4,_,h5⟩:=dd'
  refine vY_ I (by rw[e];exact True.intro) hs ⟨q,hq⟩ ⟨hl,hd,_,(rel.put k eb rv).keeps λc ys ec=>?_,q,es,ep,hq,h2,h3,h4,h5⟩
  rw[ql_ (x2_ ec e (λz=>nomatch z))]
  exact ec
end
def NoSl(i:Expr):Prop:=∀ov iv,subscripted i false ov iv=operate [ov,iv] (getItem ov iv)
theorem agq_{prog:Program}{w:World}{A:Around}{E:Value->Shared->Prop}{s:Shared}{env:Env}{value slice:Expr}{pos:Pos}{T id:String}{Q:Value->Shared->Prop}
  (hl:typeLookup (.type T) "__getitem__" = pure (some (.builtin id))) (hs:NoSl slice)
  (h:wpAny (model prog w) A (eval value env) (λo s₁=>wpAny (model prog w) A (eval slice env) (λi s₂=>s₂.TypeIs o T/\wpAny (model prog w) A (getItem o i) Q E s₂) E s₁) E s) :
  wpAny (model prog w) A (eval (.Subscript value slice pos) env) Q E s:=by
 refine Subscript_ (wpAny_mono h (λo s₁ h₁=>wpAny_mono h₁ (λi s₂ h₂=>?_) λ_ _ x=>x) λ_ _ x=>x)
 obtain⟨hT,h₂⟩:=h₂
 unfold subscriptTail
 refine wpAny_bind ?_
 rw[getitemInPython_of_ne hT.not_modules]
 refine wpAny_bind (wpAny_specialOf hT hl ?_)
 have fin:wpAny (model prog w) A (subscripted slice false o i) (λr s₃=>wpAny (model prog w) A (letTemporaryGo value o r>>=λ_=>pure r) Q E s₃) E s₂:=by
  rw[hs o i]
  exact wpAny_operating (wpAny_mono h₂ (λr s₃ h₃=>wpAny_bind (wpAny_letTemporaryGo (wpAny_pure h₃))) λ_ _ x=>x)
 first
  |exact wpAny_pure (wpAny_bind fin)
  |exact wpAny_bind (wpAny_pure (wpAny_bind fin))
  |exact wpAny_bind fin
theorem vO_{X:Cx}{pins:List (Addr×Obj)}{σ:St}{H:Hp}{s:Shared}{a:Addr}{y:V}{o:Option V}(I:Inv X pins σ H s)(g:DGet H a y o):s.TypeIs (.ref a) "dict" := by
 rcases g with⟨kvs,k,e,_,_⟩|⟨kvs,k,b,e,_,_,_⟩
 ·obtain⟨_,_,vs,_,dd⟩:=x3_ I.hok e
  exact dd.typeIs
 ·obtain⟨_,_,xs,_,dd⟩:=x4_ I.hok e
  exact dd.typeIs
def ajq_(td ty:TE):TE:=λσ H Q=>td σ H λx H1=>ty σ H1 λy H2=>∃a v,x=.ref a/\DGet H2 a y (some v)/\Q v H2
def aj1_(td ty tv:TE):TS:=λD σ H=>tv σ H λv H1=>td σ H1 λx H2=>ty σ H2 λy H3=>∃a H4,x=.ref a/\DPut H3 a y v H4/\D.nx σ H4
section
variable{X:Cx}{o i e value:Expr}{pos pos' tpos:Pos}{td ty tv:TE}
theorem v9_(hu:X.A.units+1<cLine)(ho:PE X o td)(hi:PE X i ty)(hs:NoSl i):PE X (.Subscript o i pos) (ajq_ td ty):=by
 intro pins s σ H Q I h
 refine agq_ PySem.F.slot_dict_getitem.lookup hs (thn (ho pins s σ H _ I h) λu s1 ⟨x,H1,I1,rx,q1⟩=>thn (hi pins s1 σ H1 _ I1 q1) λiv s2 ⟨y,H2,I2,ry,a,v,ex,g,q2⟩=>?_)
 subst ex
 obtain rfl:u=Value.ref a:=rx
 exact⟨vO_ I2 g,acu_ hu I2 g ry λw' s3 I3 rw'=>⟨v,H2,I3,rw',q2⟩⟩
theorem aac_(hu:X.A.units+1<cLine)(ho:PE X o td)(hi:PE X i ty)(hv:PE X value tv)(hs:swapsWith value (some (.Subscript o i pos')) pos.line X.env=pure false) :
  PS X (.Assign [.Subscript o i pos'] value pos) (aj1_ td ty tv):=by
 intro pins s σ H D I h
 refine wpAny_Assign_Subscript (thn (hv pins s σ H _ I h) λr s1 ⟨v,H1,I1,rv,q1⟩=>thn (ho pins s1 σ H1 _ I1 q1) λu s2 ⟨x,H2,I2,rx,q2⟩=>thn (hi pins s2 σ H2 _ I2 q2) λiv s3 ⟨y,H3,I3,ry,a,H4,ex,g,q3⟩=>?_) hs
 subst ex
 obtain rfl:u=Value.ref a:=rx
 exact acc_ hu I3 g ry rv λs4 I4=>⟨σ,H4,I4,q3⟩
end
theorem ad5_{P:Program}{w:World}{H:Hp}(h:Heap)(hb:sysModules<h.objs.size):ObjOk P w H (h.push { cls:=.type "dict",data:=.dict #[] }) h.objs.size (.dT []) :=
 ⟨AU _,beq_eq_false_iff_ne.mpr (BP (AT hb)),[],.nil,_,#[],0,AE _ rfl,⟨rfl,rfl,rfl⟩,rfl,rfl,List.nodup_nil⟩
def ahq_:TE:=λ_ H Q=>∀p,H p=none->Q (.ref p) (upd H p (.dT []))
section
variable{X:Cx}{pos:Pos}
theorem vx_:PE X (.Dict [] [] pos) ahq_:=λpins s σ H Q I h =>
 wpAny_Dict_empty ⟨.ref s.heap.objs.size,_,I.laid (a:=s.heap.objs.size) (o:=.dT []) (t':=s.toks) (λ_ _ q=>AA _ q) (AB _) (ad5_ s.heap I.big),rfl,h _ (I.hok.fresh (AB _))⟩
end
def ah5_(kvs more:List (Key×V)):List (Key×V):=more.foldl (λacc kv=>zv_ acc kv.1 kv.2) kvs
theorem KV.merge:∀{more:List (Key×V)}{rs:List (Key×Value)}{kvs:List (Key×V)}{vs:List (Key×Value)},KV more rs->KV kvs vs->KV (ah5_ kvs more) (merged vs rs):=by
 intro more rs kvs vs r
 unfold KV at r
 induction r generalizing kvs vs with
 |nil=>intro q;exact q
 |@cons p q ps qs h t ih =>
  intro r0
  have e:KV (zv_ kvs p.1 p.2) (stored vs q.1 q.2):=by
   have:=r0.put p.1 h.2
   rw[<-h.1];exact this
  exact ih e
structure M1(X:Cx)(o:Expr)(m:Str)(apos:Pos)(e:Expr)(cpos:Pos):Prop where
 base:attributeBase o m X.env (eval o X.env)=eval o X.env
 few:((backTo cpos (starEach [e] X.env)).all (λx=>!x.1)&&(backToKw cpos (keywordEach [] X.env)).all (λx=>x.1.isSome)
  && decide (([e]:List Expr).length+([]:List Keyword).length+(if ([]:List Keyword).isEmpty then 0 else 1)<30))=true
 line:(apos.endLine==cpos.line)=true
 trees:backTo cpos (starEach [e] X.env)=[(false,eval e X.env)]
structure M2(X:Cx)(o:Expr)(m:Str)(apos:Pos)(e f:Expr)(cpos:Pos):Prop where
 base:attributeBase o m X.env (eval o X.env)=eval o X.env
 few:((backTo cpos (starEach [e,f] X.env)).all (λx=>!x.1)&&(backToKw cpos (keywordEach [] X.env)).all (λx=>x.1.isSome)
  && decide (([e,f]:List Expr).length+([]:List Keyword).length+(if ([]:List Keyword).isEmpty then 0 else 1)<30))=true
 line:(apos.endLine==cpos.line)=true
 trees:backTo cpos (starEach [e,f] X.env)=[(false,eval e X.env),(false,eval f X.env)]
def IsD(H:Hp)(a:Addr):Prop:=(∃kvs,Rd H a (.dK kvs))∨∃kvs,Rd H a (.dT kvs)
theorem aij_{X:Cx}{pins:List (Addr×Obj)}{σ:St}{H:Hp}{s:Shared}{a:Addr}(I:Inv X pins σ H s)(d:IsD H a) :
  s.TypeIs (.ref a) "dict" /\ (∀b,Value.ref a=.ref b->∃ob,s.heap.get? b=some ob/\ob.dict=none)/\(a==sysModules)=false:=by
 rcases d with⟨kvs,e⟩|⟨kvs,e⟩
 ·obtain⟨_,hd,vs,_,dd⟩:=x3_ I.hok e
  refine⟨dd.typeIs,λb q=>?_,hd⟩
  cases q
  obtain⟨ob,_,_,h1,h2,_⟩:=dd
  exact⟨ob,h1,h2.2.1⟩
 ·obtain⟨_,hd,xs,_,dd⟩:=x4_ I.hok e
  refine⟨dd.typeIs,λb q=>?_,hd⟩
  cases q
  obtain⟨ob,_,_,h1,h2,_⟩:=dd
  exact⟨ob,h1,h2.2.1⟩
section
variable{X:Cx}{pins:List (Addr×Obj)}{σ:St}{H:Hp}{s:Shared}{a:Addr}{y d:V}{u r:Value}{o:Option V}{A:Around}{E:Value->Shared->Prop}
theorem ah1_{Q:Value->Shared->Prop}(hu:A.units+1<cLine)(I:Inv X pins σ H s)(g:DGet H a y o)(ry:RelV y u)(rd:RelV d r)(h:∀w' s',Inv X pins σ H s'->RelV (o.getD d) w'->Q w' s') :
  wpAny (model X.prog X.w) A (call (.builtin "dict.get") [.ref a,u,r]) Q E s:=by
 rcases g with⟨kvs,k,e,ey,l⟩|⟨kvs,k,b,e,ey,eb,l⟩
 ·subst ey
  obtain⟨z,hd,vs,rel,dd⟩:=x3_ I.hok e
  refine call_meetsIn CY dd.typeIs Dg (DS _ _ _) (meets_dict_get_default (qS_ X.prog X.w) a (yY_ ry) hd r) ⟨_,dd.mapOf,h _ _ (I.tok _) ?_⟩
  rw[l]
  exact(rel.val k).getD rd
 ·subst ey
  cases(show u=Value.ref b from ry)
  obtain⟨z,hd,xs,rel,dd⟩:=x4_ I.hok e
  refine call_meetsIn CY dd.typeIs Dg (DS _ _ _) (meetsH_dict_get_default (tupleKind (qS_ X.prog X.w)) a b hd r) ⟨tupleKind_room_in1 hu,k,xs,yg_ I.hok eb,dd,h _ _ (I.tok _) ?_⟩
  rw[l]
  exact(rel.val k).getD rd
end
def aig_(td ty tx:TE):TE:=λσ H Q=>td σ H λx H1=>∃a,x=.ref a/\IsD H1 a/\ty σ H1 λy H2=>tx σ H2 λz H3=>∃o,DGet H3 a y o/\Q (o.getD z) H3
section
variable{X:Cx}{o e f:Expr}{apos cpos:Pos}{td ty tx:TE}
theorem y4_(hu:X.A.units+1<cLine)(ho:PE X o td)(he:PE X e ty)(hf:PE X f tx)(m:M2 X o "get" apos e f cpos):PE X (.Call (.Attribute o "get" apos) [e,f] [] cpos) (aig_ td ty tx):=by
 intro pins s σ H Q I h
 refine wpAny_Call_method m.base m.few m.line DT CY PySem.F.type_dict_get (thn (ho pins s σ H _ I h) λu s1 ⟨x,H1,I1,rx,a,ex,d,q1⟩=>?_)
 subst ex
 obtain rfl:u=Value.ref a:=rx
 obtain⟨t1,t2,_⟩:=aij_ I1 d
 refine⟨t1,t2,?_⟩
 rw[m.trees]
 refine CO rfl (Cg (Cz (thn (he pins s1 σ H1 _ I1 q1) λiv s2 ⟨y,H2,I2,ry,q2⟩ =>
  Cz (thn (hf pins s2 σ H2 _ I2 q2) λfv s3 ⟨z,H3,I3,rz,ov,g,q3⟩=>Calls.spliced_nil ?_))))
 exact ah1_ hu I3 g ry rz λw' s4 I4 rw'=>⟨_,H3,I4,rw',q3⟩
end
end L2
namespace L2
open PySem PySem.Spec PyProof.Rows
end L2
namespace L2.Ev
open PySem PySem.Spec PyProof.Rows
section
variable{X:Cx}
theorem zy_:CallR X (.builtin "isinstance") (λxs H Q=>∃x t T b,xs=[x,.ty T]/\TyOf X.K H x t/\PySem.W.kitOne X.K t (.type T)=some b/\Q (.bl b) H):=by
 intro pins s σ H xs us Q I r h
 obtain⟨x,t,T,b,rfl,ty,e,q⟩:=h
 obtain⟨u,v,rfl,r1,r2⟩:=z2_ r
 obtain rfl:v=Value.type T:=r2
 exact ab4_ I r1 ty e λtk=>⟨.bl b,H,I.tok tk,rfl,q⟩
theorem aea_{t:Addr}{vs:List Value}{ns:List Int}{s:Shared}{prog:Program}{w:World}{A:Around}{E:Value->Shared->Prop}{Q:Value->Shared->Prop}(hh:A.handled=none)(hl:s.heap.IsTuple t vs.toArray)(hi:IntsAre vs ns)
  (h:∀h' tk t',(∀b o,s.heap.get? b=some o->h'.get? b=some o)->Q (.int ns.sum t') { s with heap:=h',toks:=tk }) :
  wpAny (model prog w) A (call (.builtin "sum") [.ref t]) Q E s:=by
 obtain⟨xs,hx⟩:=hi.allInts.items
 have hn:numsOf vs.toArray.toList=ns:=by rw[show vs.toArray.toList=vs from rfl,hi.numsOf]
 rw[hx]at hl hn
 rw[nums_intItems]at hn
 refine PySem.W.ktm_sumG hh hl λh' tk t' hk=>?_
 have:=h h' tk t' hk
 rw[preSum_eq,AW (by simp),hn]
 exact this
theorem ac0_(hc:X.calm=true):CallR X (.builtin "sum") (λxs H Q=>∃(p:Addr)(ns:List Int),xs=[.ref p]/\SqT X.K H p (ns.map V.int)/\Q (.int ns.sum) H):=by
 intro pins s σ H xs us Q I r h
 obtain⟨p,ns,rfl,hq,q⟩:=h
 obtain⟨u,rfl,ru⟩:=zd_ r
 cases ru
 obtain⟨its,rv,ht,_⟩:=I.tuple hq
 exact aea_ (I.ok.hd hc) (show s.heap.IsTuple p its.toArray from ht) (zq_ rv) λh' tk t' hk=>⟨.int ns.sum,H,I.kept (t':=tk) hk,⟨t',rfl⟩,q⟩
end
def Tups(H H':Hp):Prop:=∀p xs,H p=some (.tup xs)->H' p=some (.tup xs)
theorem Tups.trans{H H1 H2:Hp}(a:Tups H H1)(b:Tups H1 H2):Tups H H2:=λp xs h=>b p xs (a p xs h)
theorem Tups.same{H H':Hp}(a:Same H H'):Tups H H':=λp xs h=>a p _ h
class Dat (α:Type) where
 is:Hp->V->α->Prop
 mono:∀{H H':Hp}{v:V}{a:α},Tups H H'->is H v a->is H' v a
 inj:∀{H:Hp}{v:V}{a b:α},is H v a->is H v b->a=b
 dep:Nat
 eqb:α->α->Bool
 eqb_iff:∀a b,eqb a b=true↔a=b
 eqAt:∀{X:Cx}{pins:List (Addr×Obj)}{σ:St}{H:Hp}{s:Shared}{A:Around}{v v':V}{u u':Value}{a b:α},Inv X pins σ H s->A.units+dep<cLine->is H v a->is H v' b->RelV v u->RelV v' u'->SeqAt.EqAt A s u u' (eqb a b)
instance:Dat Int where
 is:=λ_ v n=>v=.int n
 mono:=λ_ h=>h
 inj:=λh h'=>by rw[h]at h';cases h';rfl
 dep:=0
 eqb:=λa b=>a==b
 eqb_iff:=λa b=>by simp
 eqAt:=λI hu h h' r r'=>by
  subst h h'
  obtain⟨t,rfl⟩:=r
  obtain⟨t',rfl⟩:=r'
  exact C1 _ _ _ _
theorem Paired.get{α β:Type}{F:α->β->Prop}:∀{l:List α}{m:List β}(r:Paired F l m){i:Nat}{a:α},l[i]?=some a->∃b,m[i]?=some b/\F a b
 |_,_,.nil,_,_,e=>by simp at e
 |_,_,.cons r t,0,_,e=>by simp at e;subst e;exact⟨_,rfl,r⟩
 |_,_,.cons r t,i+1,a,e=>by
  obtain⟨b,h1,h2⟩:=Paired.get t (i:=i) (a:=a) (by simpa using e)
  exact⟨b,by simpa using h1,h2⟩
theorem Paired.injR{α β:Type}{F:α->β->Prop}(hf:∀a b b',F a b->F a b'->b=b'):∀{l:List α}{m m':List β},Paired F l m->Paired F l m'->m=m'
 |_,_,_,.nil,.nil=>rfl
 |_,_,_,.cons r t,.cons r' t'=>by rw[hf _ _ _ r r',Paired.injR hf t t']
def zE_{α:Type}(e:α->α->Bool):List α->List α->Bool
 |[],[]=>true
 |a::l,b::m=>e a b&&zE_ e l m
 |_,_=>false
theorem jZ_{α:Type}{e:α->α->Bool}(h:∀a b,e a b=true↔a=b):∀l m,zE_ e l m=true↔l=m
 |[],[]=>by simp [zE_]
 |[],_::_=>by simp [zE_]
 |_::_,[]=>by simp [zE_]
 |a::l,b::m=>by simp [zE_,h a b,jZ_ h l m]
def eAt{α:Type}(e:α->α->Bool)(l m:List α)(j:Nat):Bool:=match l[j]?,m[j]? with
 |some a,some b=>e a b
 |_,_=>false
theorem xS_{α:Type}(e:α->α->Bool):∀l m:List α,((List.range (min l.length m.length)).all (eAt e l m)&&l.length==m.length)=zE_ e l m
 |[],[]=>by simp [zE_]
 |[],_::_=>by simp [zE_]
 |_::_,[]=>by simp [zE_]
 |a::l,b::m=>by
  have ih:=xS_ e l m
  show((List.range (min (l.length+1) (m.length+1))).all (eAt e (a::l) (b::m))&&(l.length+1==m.length+1))=(e a b&&zE_ e l m)
  rw[<-ih,Nat.add_min_add_right,Ba,CA,List.all_map]
  have e0:eAt e (a::l) (b::m) 0=e a b:=rfl
  have e1:(eAt e (a::l) (b::m) ∘ Nat.succ)=eAt e l m:=by funext j;rfl
  have e2:(l.length+1==m.length+1)=(l.length==m.length):=by simp
  rw[e0,e1,e2,Bool.and_assoc]
section
variable{α:Type}[D:Dat α]
abbrev Its(H:Hp)(vs:List V)(l:List α):Prop:=Paired (λv a=>D.is H v a) vs l
theorem Its.mono{H H':Hp}{vs:List V}{l:List α}(t:Tups H H')(h:Its H vs l):Its H' vs l:=Paired.mono (λ_ _ q=>D.mono t q) h
theorem Its.inj{H:Hp}{vs:List V}{l m:List α}(h:Its H vs l)(h':Its H vs m):l=m:=Paired.injR (F:=λv a=>D.is H v a) (λ_ _ _ q q'=>D.inj q q') h h'
theorem vp_{X:Cx}{pins:List (Addr×Obj)}{σ:St}{H:Hp}{s:Shared}{A:Around}{vs vs':List V}{its its':List Value}{l m:List α}(I:Inv X pins σ H s)(hu:A.units+D.dep<cLine)(h:Its H vs l)(h':Its H vs' m)(r:Vals vs its)(r':Vals vs' its') :
  ∀j (h1:j<its.toArray.size) (h2:j<its'.toArray.size),SeqAt.EqAt A s its.toArray[j] its'.toArray[j] (eAt D.eqb l m j):=by
 intro j h1 h2
 have l1:=r.length
 have l2:=r'.length
 have k1:j<its.length:=by simpa using h1
 have k2:j<its'.length:=by simpa using h2
 have g1:vs[j]?=some vs[j]:=AK (by omega)
 have g2:vs'[j]?=some vs'[j]:=AK (by omega)
 obtain⟨u,e1,ru⟩:=r.get g1
 obtain⟨u',e2,ru'⟩:=r'.get g2
 obtain⟨a,f1,ra⟩:=Paired.get h g1
 obtain⟨b,f2,rb⟩:=Paired.get h' g2
 have q1:its.toArray[j]=u:=by
  have:its[j]=u:=by rw[AK k1]at e1;exact AX e1
  simpa using this
 have q2:its'.toArray[j]=u':=by
  have:its'[j]=u':=by rw[AK k2]at e2;exact AX e2
  simpa using this
 have q3:eAt D.eqb l m j=D.eqb a b:=by unfold eAt;rw[f1,f2]
 rw[q1,q2,q3]
 exact D.eqAt I hu ra rb ru ru'
instance datList:Dat (List α) where
 is:=λH v l=>∃p vs,v=.ref p/\H p=some (.tup vs)/\Its H vs l
 mono:=λt ⟨p,vs,e,h,i⟩=>⟨p,vs,e,t p vs h,Its.mono t i⟩
 inj:=λ⟨p,vs,e,h,i⟩ ⟨p',vs',e',h',i'⟩=>by
  subst e
  cases e'
  rw[h]at h'
  cases h'
  exact Its.inj i i'
 dep:=D.dep+1
 eqb:=zE_ D.eqb
 eqb_iff:=jZ_ D.eqb_iff
 eqAt:=λ{X pins σ H s A v v' u u' l m} I hu h h' r r'=>by
  obtain⟨p,vs,rfl,h,i⟩:=h
  obtain⟨p',vs',rfl,h',i'⟩:=h'
  cases r
  cases r'
  by_cases e:p=p'
  ·subst e
   rw[h]at h'
   cases h'
   have q:l=m:=Its.inj i i'
   rw[(jZ_ D.eqb_iff l m).mpr q]
   exact DZ _
  ·obtain⟨its,rv,ht,_⟩:=I.tuple (SqT.of h)
   obtain⟨its',rv',ht',_⟩:=I.tuple (SqT.of h')
   have hl:its.toArray.size=l.length:=by have:=rv.length;have:=Ai i;simp;omega
   have hm:its'.toArray.size=m.length:=by have:=rv'.length;have:=Ai i';simp;omega
   have q:=DD (A:=A) (s:=s) (e:=eAt D.eqb l m) (show s.heap.IsTuple p its.toArray from ht) (show s.heap.IsTuple p' its'.toArray from ht') (by omega)
    (vp_ I (A:=A.in1) (by show A.units+1+D.dep<cLine;omega) i i' rv rv')
   rw[hl,hm,xS_]at q
   exact SeqAt.EqAt.of_refs e q
def LstAt(H:Hp)(a:Addr)(l:List α):Prop:=∃vs,H a=some (.lst vs)/\Its H vs l
theorem LstAt.mono{H H':Hp}{a:Addr}{l:List α}(e:Same H H')(h:LstAt H a l):LstAt H' a l:=by
 obtain⟨vs,q,i⟩:=h
 exact⟨vs,e _ _ q,Its.mono (Tups.same e) i⟩
end
section
variable{α β:Type}[D:Dat α][D2:Dat β]
instance datPair:Dat (α×β) where
 is:=λH v x=>∃p a b,v=.ref p/\H p=some (.tup [a,b])/\D.is H a x.1/\D2.is H b x.2
 mono:=λt ⟨p,a,b,e,h,i,j⟩=>⟨p,a,b,e,t _ _ h,D.mono t i,D2.mono t j⟩
 inj:=λ⟨p,a,b,e,h,i,j⟩ ⟨p',a',b',e',h',i',j'⟩=>by
  subst e
  cases e'
  rw[h]at h'
  cases h'
  exact Dx (D.inj i i') (D2.inj j j')
 dep:=max D.dep D2.dep+1
 eqb:=λx y=>D.eqb x.1 y.1&&D2.eqb x.2 y.2
 eqb_iff:=λx y=>by rw[BI,D.eqb_iff,D2.eqb_iff,Prod.ext_iff]
 eqAt:=λ{X pins σ H s A v v' u u' l m} I hu h h' r r'=>by
  obtain⟨p,a,b,rfl,h,i,j⟩:=h
  obtain⟨p',a',b',rfl,h',i',j'⟩:=h'
  cases r
  cases r'
  by_cases e:p=p'
  ·subst e
   rw[h]at h'
   cases h'
   rw[(D.eqb_iff _ _).mpr (D.inj i i'),(D2.eqb_iff _ _).mpr (D2.inj j j')]
   exact DZ _
  ·obtain⟨its,rv,ht,_⟩:=I.tuple (SqT.of h)
   obtain⟨its',rv',ht',_⟩:=I.tuple (SqT.of h')
   obtain⟨w1,w2,rfl,r1,r2⟩:=z2_ rv
   obtain⟨z1,z2,rfl,t1,t2⟩:=z2_ rv'
   have q:=DD (A:=A) (s:=s) (e:=λk=>if k=0 then D.eqb l.1 m.1 else D2.eqb l.2 m.2) (show s.heap.IsTuple p _ from ht) (show s.heap.IsTuple p' _ from ht') (by omega)
    (λk h1 h2=>by
     have hk:k=0∨k=1:=by
      have:k<2:=h1
      omega
     rcases hk with rfl|rfl
     ·exact D.eqAt (A:=A.in1) I (by show A.units+1+D.dep<cLine;omega) i i' r1 t1
     ·exact D2.eqAt (A:=A.in1) I (by show A.units+1+D2.dep<cLine;omega) j j' r2 t2)
   have e2:((List.range (min [w1,w2].toArray.size [z1,z2].toArray.size)).all (λk=>if k=0 then D.eqb l.1 m.1 else D2.eqb l.2 m.2)&&[w1,w2].toArray.size==[z1,z2].toArray.size)=(D.eqb l.1 m.1&&D2.eqb l.2 m.2):=by
    simp [B3]
   rw[e2]at q
   exact SeqAt.EqAt.of_refs e q
end
section
variable{X:Cx}{α:Type}[D:Dat α]
theorem aem_{pins:List (Addr×Obj)}{σ:St}{H:Hp}{s:Shared}{A:Around}{a b:Addr}{l m:List α}(I:Inv X pins σ H s)(hu:A.units+(D.dep+1)<cLine)(ha:LstAt H a l)(hb:LstAt H b m) :
  SeqAt.RcAt A s (.ref a) (.ref b) (zE_ D.eqb l m):=by
 obtain⟨vs,ha,i⟩:=ha
 obtain⟨vs',hb,i'⟩:=hb
 obtain⟨its,rv,ht,_⟩:=I.list (SqL.of ha)
 obtain⟨its',rv',ht',_⟩:=I.list (SqL.of hb)
 have hl:its.toArray.size=l.length:=by have:=rv.length;have:=Ai i;simp;omega
 have hm:its'.toArray.size=m.length:=by have:=rv'.length;have:=Ai i';simp;omega
 have all:=xS_ D.eqb l m
 by_cases e:l.length=m.length
 ·have q:=SeqAt.RcAt.lists (A:=A) (s:=s) (e:=eAt D.eqb l m) ht.isList ht'.isList (by omega) (by omega) (vp_ I (A:=A.in1) (by show A.units+1+D.dep<cLine;omega) i i' rv rv')
  rw[hl]at q
  rw[e,Nat.min_self,beq_self_eq_true,Bool.and_true,<-e]at all
  rw[all]at q
  exact q
 ·have q:=SeqAt.RcAt.lists_lengths (A:=A) (s:=s) ht.isList ht'.isList (by rw[hl,hm];simpa using e) (by omega)
  rw[show(l.length==m.length)=false by simpa using e,Dm]at all
  rw[<-all]
  exact q
def rEqL(α:Type)[Dat α]:R2:=λx y H Q=>∃(a b:Addr)(l m:List α),x=.ref a/\y=.ref b/\LstAt H a l/\LstAt H b m/\Q (.bl (zE_ (Dat.eqb (α:=α)) l m)) H
theorem aho_(hu:X.A.units+(D.dep+1)<cLine):OpR X (compareOp .Eq) (rEqL α):=by
 intro pins s σ H x y v u Q I rx ry h
 obtain⟨a,b,l,m,rfl,rfl,ha,hb,q⟩:=h
 cases rx
 cases ry
 exact(aem_ I hu ha hb) X.prog X.w X.xe _ ⟨.bl _,H,I,rfl,q⟩
end
end L2.Ev
namespace L2.Ts
open PySem PyProof.Rows
def kv(rk:Keyed->Nat)(xs:Array Keyed)(i:Nat):Nat:=match xs[i]? with
 |some p=>rk p
 |none=>0
def Srt(rk:Keyed->Nat)(xs:Array Keyed)(a b:Nat):Prop:=∀i j,a<=i->i<=j->j<b->kv rk xs i<=kv rk xs j
def Des(rk:Keyed->Nat)(xs:Array Keyed)(a b:Nat):Prop:=∀i j,a<=i->i<=j->j<b->kv rk xs j<=kv rk xs i
theorem qx_{rk:Keyed->Nat}{xs:Array Keyed}{i:Nat}{p:Keyed}(h:xs[i]?=some p):kv rk xs i=rk p:=by unfold kv;rw[h]
theorem q6_{rk:Keyed->Nat}{xs ys:Array Keyed}{i j:Nat}(h:xs[i]?=ys[j]?):kv rk xs i=kv rk ys j:=by unfold kv;rw[h]
structure Nx(lo:Nat)(st st':SortSt):Prop where
 kind:kindOf st'=kindOf st
 failed:failedOf st'=failedOf st
 pend:pendingOf st'=pendingOf st
 perm:(arrOf st').Perm (arrOf st)
 below:∀k:Nat,k<lo->(arrOf st')[k]?=(arrOf st)[k]?
theorem Nx.refl(lo:Nat)(st:SortSt):Nx lo st st:=⟨rfl,rfl,rfl,Array.Perm.refl _,λ_ _=>rfl⟩
theorem Nx.trans{lo:Nat}{a b c:SortSt}(h:Nx lo a b)(q:Nx lo b c):Nx lo a c:=⟨q.kind.trans h.kind,q.failed.trans h.failed,q.pend.trans h.pend,q.perm.trans h.perm,λk hk=>(q.below k hk).trans (h.below k hk)⟩
theorem Nx.size{lo:Nat}{a b:SortSt}(h:Nx lo a b):(arrOf b).size=(arrOf a).size:=h.perm.size_eq
theorem z8_{rk:Keyed->Nat}{xs:Array Keyed}{i j:Nat}(hj:j<=xs.size)(k:Nat):kv rk (mirror xs i j ((j-i) / 2)) k=if i<=k/\k<j then kv rk xs (i+j-1-k) else kv rk xs k:=by
 have e:=getElem?_mirror_all (i:=i) hj k
 split
 ·rename_i h;rw[if_pos h]at e;exact q6_ e
 ·rename_i h;rw[if_neg h]at e;exact q6_ e
theorem yF_{rk:Keyed->Nat}{xs:Array Keyed}{src d:Nat}(hs:src<xs.size)(hd:d<=src)(k:Nat) :
  kv rk (bubble xs src d) k=if k=src-d then kv rk xs src else if src-d<k/\k<=src then kv rk xs (k-1) else kv rk xs k:=by
 have e:=getElem?_bubble hs d hd k
 split
 ·rename_i h;rw[if_pos h]at e;exact q6_ e
 ·rename_i h
  rw[if_neg h]at e
  split
  ·rename_i h2;rw[if_pos h2]at e;exact q6_ e
  ·rename_i h2;rw[if_neg h2]at e;exact q6_ e
theorem jB_{lo i j:Nat}{st:SortSt}(hi:lo<=i)(hj:j<=(arrOf st).size):Nx lo st (setArr st (mirror (arrOf st) i j ((j-i) / 2))) :=
 ⟨rfl,rfl,rfl,mirror_perm _ _ _ _,λk hk=>by
  have e:=getElem?_mirror_all (xs:=arrOf st) (i:=i) hj k
  rw[if_neg (by lia)]at e
  exact e⟩
theorem ac8_{lo src d:Nat}{st:SortSt}(hi:lo<=src-d)(hs:src<(arrOf st).size)(hd:d<=src):Nx lo st (setArr st (bubble (arrOf st) src d)) :=
 ⟨rfl,rfl,rfl,bubble_perm _ _ _,λk hk=>by
  have e:=getElem?_bubble (xs:=arrOf st) hs d hd k
  rw[if_neg (by lia),if_neg (by lia)]at e
  exact e⟩
section
variable{prog:Program}{w:World}{A:Around}{E:Value->Shared->Prop}{s:Shared}{κ:SortKind}{M:Keyed->Prop}{rk:Keyed->Nat}
def Ask(prog:Program)(w:World)(A:Around)(s:Shared)(κ:SortKind)(M:Keyed->Prop)(rk:Keyed->Nat):Prop :=
 ∀x y,M x->M y->∀Q:Bool->Shared->Prop,Q (decide (rk x<rk y)) s->wpAny (model prog w) A (keyLt' κ x.1 y.1) Q (λ_ _=>False) s
theorem xf_(h:Ask prog w A s κ M rk){x y:Keyed}{st:SortSt}{Q:Option Bool->SortSt->Prop}(hk:kindOf st=κ)(hx:M x)(hy:M y)(q:Q (some (decide (rk x<rk y))) st) :
  wpS (model prog w) A E s (lt' x y) Q st:=by
 rw[lt'_eq]
 refine wpS_bind (wpS_get ?_)
 rw[hk]
 refine wpS_bind (wpS_lift (wpAny_attempt (wpAny_mono (h x y hx hy (λb s'=>s'=s/\b=decide (rk x<rk y)) ⟨rfl,rfl⟩) (λb s' hb=>?_) λ_ _ z=>z.elim)))
 obtain⟨h1,rfl⟩:=hb
 exact⟨h1,wpS_pure q⟩
theorem qC_{arr:Array Keyed}{i:Nat}{p:Keyed}{st:SortSt}{Q:Keyed->SortSt->Prop}(h:arr[i]?=some p)(q:Q p st):wpS (model prog w) A E s (elem' arr i) Q st:=by
 rw[elem'_eq,h]
 exact wpS_pure q
def All(M:Keyed->Prop)(xs:Array Keyed):Prop:=∀(i:Nat) p,xs[i]?=some p->M p
theorem All.perm{xs ys:Array Keyed}(h:All M xs)(p:ys.Perm xs):All M ys:=λi x e=>by
 have hm:x∈xs:=p.mem_iff.mp (Dn e)
 obtain⟨j,hj,ej⟩:=Array.getElem_of_mem hm
 exact h j x (by rw[AC hj,ej])
theorem jl_(h:Ask prog w A s κ M rk){i j:Nat}{st:SortSt}{Q:Option Bool->SortSt->Prop}(hk:kindOf st=κ)(ha:All M (arrOf st))(hi:i<(arrOf st).size)(hj:j<(arrOf st).size)
  (q:Q (some (decide (kv rk (arrOf st) i<kv rk (arrOf st) j))) st):wpS (model prog w) A E s (ltAt' i j) Q st:=by
 have ei:(arrOf st)[i]?=some (arrOf st)[i]:=AC hi
 have ej:(arrOf st)[j]?=some (arrOf st)[j]:=AC hj
 rw[ltAt'_eq]
 refine wpS_bind (wpS_get ?_)
 refine wpS_bind (qC_ ei (wpS_bind (qC_ ej (xf_ h hk (ha _ _ ei) (ha _ _ ej) ?_))))
 rw[qx_ ei,qx_ ej]at q
 exact q
theorem ahx_(h:Ask prog w A s κ M rk){lo nrem:Nat}{st:SortSt}{Q:Option Nat->SortSt->Prop}(hk:kindOf st=κ)(ha:All M (arrOf st))(hn:1<=nrem)(hz:lo+nrem<=(arrOf st).size)
  (q:∀n st',Nx lo st st'->1<=n->n<=nrem->Srt rk (arrOf st') lo (lo+n)->Q (some n) st'):wpS (model prog w) A E s (countRun' lo nrem) Q st:=by
 rw[countRun'_eq]
 have asc:∀(st1:SortSt)(a:Nat)(R:Option (Option Nat)×Nat->SortSt->Prop),Nx lo st st1->1<=a->a<=nrem->Srt rk (arrOf st1) lo (lo+a) ->
   (∀n,a<=n->n<=nrem->Srt rk (arrOf st1) lo (lo+n)->(n=nrem∨kv rk (arrOf st1) (lo+n)<kv rk (arrOf st1) (lo+n-1))->R (none,n) st1) ->
   wpS (model prog w) A E s (forIn [a:nrem] ((none,a):Option (Option Nat)×Nat) λ_ r=>do
    let x <-ltAt' (lo+r.2) (lo+r.2-1)
    match x with
    |some c=>if c=true then pure (ForInStep.done (none,r.2)) else pure (ForInStep.yield (none,r.2+1))
    |_=>pure (ForInStep.done (some none,r.2))) R st1:=by
  intro st1 a R n1 ha1 han hs hR
  refine wpS_forRange (I:=λx c st'=>st'=st1/\c=(none,x)/\Srt rk (arrOf st1) lo (lo+x)) ?step ?fin ⟨rfl,rfl,hs⟩
  case fin =>
   rintro c st' ⟨rfl,rfl,hs'⟩
   rw[show max a nrem=nrem by lia]at hs' ⊢
   exact hR nrem han (AB _) hs' (.inl rfl)
  case step =>
   rintro x c st' hax hxn ⟨rfl,rfl,hs'⟩
   dsimp only
   have hsz:=n1.size
   refine wpS_bind (jl_ h (n1.kind.trans hk) (ha.perm n1.perm) (by lia) (by lia) ?_)
   by_cases hl:kv rk (arrOf st') (lo+x)<kv rk (arrOf st') (lo+x-1)
   ·simp only[hl,decide_true,if_true]
    exact wpS_pure (hR x hax (by lia) hs' (.inr hl))
   ·simp only[hl,decide_false,Ag,if_false]
    refine wpS_pure ⟨rfl,rfl,λi j hi hij hj=>?_⟩
    by_cases hjx:j<lo+x
    ·exact hs' i j hi hij hjx
    ·have ej:j=lo+x:=by lia
     subst ej
     by_cases hi':i=lo+x
     ·subst hi';exact AB _
     ·have:=hs' i (lo+x-1) hi (by lia) (by lia)
      lia
 have one:Srt rk (arrOf st) lo (lo+1):=λi j h1 h2 h3=>by
  have e:i=j:=by lia
  subst e
  exact AB _
 refine wpS_bind (asc st 1 _ (Nx.refl _ _) (AB _) hn one λn hn1 hn2 hs hnd=>?_)
 dsimp only
 by_cases hnn:n=nrem
 ·subst hnn
  rw[if_pos (by simp)]
  exact wpS_pure (q n st (Nx.refl _ _) hn1 (AB _) hs)
 rw[if_neg (by simpa using hnn)]
 have hlt:kv rk (arrOf st) (lo+n)<kv rk (arrOf st) (lo+n-1):=hnd.resolve_left hnn
 have key:∀K:StateT SortSt Sem (Option Nat),(∀st1,Nx lo st st1->Des rk (arrOf st1) lo (lo+n+1)->wpS (model prog w) A E s K Q st1) ->
   wpS (model prog w) A E s (if n>1 then do
    let x <-ltAt' lo (lo+n-1)
    match x with
    |some c=>if c=true then pure (some n) else do
     reverseSlice' lo (lo+n)
     K
    |_=>pure none
   else K) Q st:=by
  intro K hK
  by_cases h1:n>1
  ·rw[if_pos h1]
   refine wpS_bind (jl_ h hk ha (by lia) (by lia) ?_)
   by_cases hl:kv rk (arrOf st) lo<kv rk (arrOf st) (lo+n-1)
   ·simp only[hl,decide_true,if_true]
    exact wpS_pure (q n st (Nx.refl _ _) hn1 hn2 hs)
   ·simp only[hl,decide_false,Ag,if_false]
    refine wpS_bind (wpS_reverse (hK _ (jB_ (AB _) (by lia)) ?_))
    have alike:∀k,lo<=k->k<lo+n->kv rk (arrOf st) k=kv rk (arrOf st) lo:=λk h2 h3=>by
     have e1:=hs lo k (AB _) h2 h3
     have e2:=hs k (lo+n-1) h2 (by lia) (by lia)
     lia
    have same:∀k,kv rk (mirror (arrOf st) lo (lo+n) ((lo+n-lo) / 2)) k=kv rk (arrOf st) k:=λk=>by
     rw[z8_ (by lia)]
     split
     ·rw[alike _ (by lia) (by lia),alike k (by lia) (by lia)]
     ·rfl
    intro i j hi hij hj
    show kv rk (mirror (arrOf st) lo (lo+n) ((lo+n-lo) / 2)) j<=kv rk (mirror (arrOf st) lo (lo+n) ((lo+n-lo) / 2)) i
    rw[same,same]
    by_cases hj':j<lo+n
    ·rw[alike j (by lia) hj',alike i hi (by lia)];exact AB _
    ·have ej:j=lo+n:=by lia
     subst ej
     by_cases hi':i<lo+n
     ·have e1:=alike i hi hi'
      have e2:=alike (lo+n-1) (by lia) (by lia)
      lia
     ·have ei:i=lo+n:=by lia
      subst ei;exact AB _
  ·rw[if_neg h1]
   have en:n=1:=by lia
   subst en
   refine hK st (Nx.refl _ _) λi j hi hij hj=>?_
   by_cases e:i=j
   ·subst e;exact AB _
   ·have e1:i=lo:=by lia
    have e2:j=lo+1:=by lia
    subst e1 e2
    exact BE hlt
 refine key _ λst1 n1 hd=>?_
 have sz1:=n1.size
 refine wpS_bind (wpS_lift (wpAny_rule ⟨rfl,?_⟩))
 refine wpS_bind (wpS_mono (wpS_forRange (I:=λx c st'=>∃neq,c=(none,x,neq)/\Nx lo st st'/\Des rk (arrOf st') lo (lo+x)/\neq+1<=x/\(∀i,lo+x-(neq+1)<=i->i<lo+x->kv rk (arrOf st') i=kv rk (arrOf st') (lo+x-1)))
  (Q:=λc st'=>∃x neq,c=(none,x,neq)/\n+1<=x/\x<=nrem/\Nx lo st st'/\Des rk (arrOf st') lo (lo+x)/\neq+1<=x/\(∀i,lo+x-(neq+1)<=i->i<lo+x->kv rk (arrOf st') i=kv rk (arrOf st') (lo+x-1)))
  ?step ?fin ⟨0,rfl,n1,hd,by lia,λi h1 h2=>by congr 1;lia⟩) ?post)
 case fin =>
  rintro c st' ⟨neq,rfl,n',hd',hq,he⟩
  rw[show max (n+1) nrem=nrem by lia]at hd' hq he ⊢
  exact⟨nrem,neq,rfl,by lia,AB _,n',hd',hq,he⟩
 case step =>
  rintro x c st' hax hxn ⟨neq,rfl,n',hd',hq,he⟩
  dsimp only
  have sz':=n'.size
  have grow:∀st2,Nx lo st st2->(∀k,kv rk (arrOf st2) k=kv rk (arrOf st') k)->kv rk (arrOf st') (lo+x)<=kv rk (arrOf st') (lo+x-1)->Des rk (arrOf st2) lo (lo+(x+1)):=by
   intro st2 _ e hle i j hi hij hj
   rw[e,e]
   by_cases hjx:j<lo+x
   ·exact hd' i j hi hij hjx
   ·have ej:j=lo+x:=by lia
    subst ej
    by_cases hi':i=lo+x
    ·subst hi';exact AB _
    ·have:=hd' i (lo+x-1) hi (by lia) (by lia)
     lia
  refine wpS_bind (jl_ h (n'.kind.trans hk) (ha.perm n'.perm) (by lia) (by lia) ?_)
  by_cases hl:kv rk (arrOf st') (lo+x)<kv rk (arrOf st') (lo+x-1)
  ·simp only[hl,decide_true,if_true]
   by_cases hq0:neq>0
   ·rw[if_pos hq0]
    have n2:Nx lo st' (setArr st' (mirror (arrOf st') (lo+x-(neq+1)) (lo+x) ((lo+x-(lo+x-(neq+1))) / 2))):=jB_ (by lia) (by lia)
    have same:∀k,kv rk (mirror (arrOf st') (lo+x-(neq+1)) (lo+x) ((lo+x-(lo+x-(neq+1))) / 2)) k=kv rk (arrOf st') k:=λk=>by
     rw[z8_ (by lia)]
     split
     ·rw[he _ (by lia) (by lia),he k (by lia) (by lia)]
     ·rfl
    refine wpS_bind (wpS_reverse (wpS_pure ⟨0,rfl,n'.trans n2,grow _ (n'.trans n2) same (BE hl),by lia,λi h1 h2=>by congr 1;lia⟩))
   ·rw[if_neg hq0]
    exact wpS_pure ⟨0,rfl,n',grow _ n' (λ_=>rfl) (BE hl),by lia,λi h1 h2=>by congr 1;lia⟩
  ·simp only[hl,decide_false,Ag,if_false]
   refine wpS_bind (jl_ h (n'.kind.trans hk) (ha.perm n'.perm) (by lia) (by lia) ?_)
   by_cases hl2:kv rk (arrOf st') (lo+x-1)<kv rk (arrOf st') (lo+x)
   ·simp only[hl2,decide_true,if_true]
    exact wpS_pure ⟨x,neq,rfl,hax,by lia,n',hd',hq,he⟩
   ·simp only[hl2,decide_false,Ag,if_false]
    refine wpS_pure ⟨neq+1,rfl,n',grow _ n' (λ_=>rfl) (by lia),by lia,λi h1 h2=>?_⟩
    rw[show lo+(x+1)-1=lo+x by lia]
    by_cases hi':i=lo+x
    ·subst hi';rfl
    ·rw[he i (by lia) (by lia)];lia
 case post =>
  rintro c st' ⟨x,neq,rfl,hx1,hx2,n',hd',hq,he⟩
  dsimp only
  have sz':=n'.size
  have last:∀(K:Option (Option Nat)×Nat->StateT SortSt Sem (Option Nat)),(∀m,K (none,m)=pure (some m))->∀st2,Nx lo st st2->Des rk (arrOf st2) lo (lo+x)->wpS (model prog w) A E s (do
    reverseSlice' lo (lo+x)
    let r <-forIn [x:nrem] ((none,x):Option (Option Nat)×Nat) λ_ r=>do
     let x <-ltAt' (lo+r.2) (lo+r.2-1)
     match x with
     |some c=>if c=true then pure (ForInStep.done (none,r.2)) else pure (ForInStep.yield (none,r.2+1))
     |_=>pure (ForInStep.done (some none,r.2))
    K r) Q st2:=by
   intro K hK st2 n2 hd2
   have sz2:=n2.size
   refine wpS_bind (wpS_reverse ?_)
   have n3:Nx lo st2 (setArr st2 (mirror (arrOf st2) lo (lo+x) ((lo+x-lo) / 2))):=jB_ (AB _) (by lia)
   refine wpS_bind (asc _ x _ (n2.trans n3) (by lia) hx2 ?_ λm hm1 hm2 hs _=>?_)
   ·intro i j hi hij hj
    show kv rk (mirror (arrOf st2) lo (lo+x) ((lo+x-lo) / 2)) i<=kv rk (mirror (arrOf st2) lo (lo+x) ((lo+x-lo) / 2)) j
    rw[z8_ (by lia),z8_ (by lia),if_pos (by lia),if_pos (by lia)]
    exact hd2 _ _ (by lia) (by lia) (by lia)
   ·rw[hK];exact wpS_pure (q m _ (n2.trans n3) (by lia) hm2 hs)
  by_cases hq0:neq>0
  ·rw[if_pos hq0]
   have n2:Nx lo st' (setArr st' (mirror (arrOf st') (lo+x-(neq+1)) (lo+x) ((lo+x-(lo+x-(neq+1))) / 2))):=jB_ (by lia) (by lia)
   have same:∀k,kv rk (mirror (arrOf st') (lo+x-(neq+1)) (lo+x) ((lo+x-(lo+x-(neq+1))) / 2)) k=kv rk (arrOf st') k:=λk=>by
    rw[z8_ (by lia)]
    split
    ·rw[he _ (by lia) (by lia),he k (by lia) (by lia)]
    ·rfl
   refine wpS_bind (wpS_reverse (last _ (λ_=>rfl) _ (n'.trans n2) λi j hi hij hj=>?_))
   show kv rk (mirror _ _ _ _) j<=kv rk (mirror _ _ _ _) i
   rw[same,same]
   exact hd' i j hi hij hj
  ·rw[if_neg hq0]
   exact last _ (λ_=>rfl) st' n' hd'
theorem aip_(h:Ask prog w A s κ M rk){lo n ok:Nat}{st:SortSt}{Q:Bool->SortSt->Prop}(hk:kindOf st=κ)(ha:All M (arrOf st))(hn:lo+n<=(arrOf st).size)(hok:ok<=n)(hs:Srt rk (arrOf st) lo (lo+ok))
  (q:∀st',Nx lo st st'->Srt rk (arrOf st') lo (lo+n)->Q true st'):wpS (model prog w) A E s (binarySort' lo n ok) Q st:=by
 rw[binarySort'_eq]
 refine wpS_bind (wpS_mono (wpS_forRange (I:=λk c st'=>c=(none,())/\Nx lo st st'/\Srt rk (arrOf st') lo (lo+min k n))
  (Q:=λc st'=>c=(none,())/\Nx lo st st'/\Srt rk (arrOf st') lo (lo+n)) ?step ?fin ?init) ?post)
 case post =>
  rintro c st' ⟨rfl,n',hs'⟩
  exact wpS_pure (q st' n' hs')
 case init =>
  refine⟨rfl,Nx.refl _ _,λi j hi hij hj=>?_⟩
  by_cases h1:ok=0
  ·have e:i=j:=by lia
   subst e;exact AB _
  ·exact hs i j hi hij (by lia)
 case fin =>
  rintro c st' ⟨hc,n',hs'⟩
  refine⟨hc,n',?_⟩
  rwa [show min (max (max ok 1) n) n=n by lia]at hs'
 case step =>
  rintro k c st' hak hkn ⟨rfl,n',hs'⟩
  rw[show min k n=k by lia]at hs'
  have sz':=n'.size
  refine wpS_bind (wpS_mono (wpS_forRange (I:=λx c st''=>st''=st'/\∃l r,c=(none,l,r)/\l<=r/\r<=k/\r-l<=k-x /\
    (∀i,i<l->kv rk (arrOf st') (lo+i)<=kv rk (arrOf st') (lo+k))/\(∀i,r<=i->i<k->kv rk (arrOf st') (lo+k)<kv rk (arrOf st') (lo+i)))
   (Q:=λc st''=>st''=st'/\∃l r,c=(none,l,r)/\l<=k /\
    (∀i,i<l->kv rk (arrOf st') (lo+i)<=kv rk (arrOf st') (lo+k))/\(∀i,l<=i->i<k->kv rk (arrOf st') (lo+k)<kv rk (arrOf st') (lo+i))) ?istep ?ifin ?iinit) ?ipost)
  case iinit=>exact⟨rfl,0,k,rfl,by lia,by lia,by lia,λi hi=>by lia,λi h1 h2=>by lia⟩
  case ifin =>
   rintro c st'' ⟨rfl,l,r,rfl,hlr,hrk,hm,hlo,hhi⟩
   have e:l=r:=by lia
   subst e
   exact⟨rfl,l,l,rfl,hrk,hlo,hhi⟩
  case istep =>
   rintro x c st'' _ hxk ⟨rfl,l,r,rfl,hlr,hrk,hm,hlo,hhi⟩
   dsimp only
   by_cases hge:l ≥ r
   ·rw[if_pos hge]
    have e:l=r:=by lia
    subst e
    exact wpS_pure ⟨rfl,l,l,rfl,hrk,hlo,hhi⟩
   ·rw[if_neg hge]
    refine wpS_bind (jl_ h (n'.kind.trans hk) (ha.perm n'.perm) (by lia) (by lia) ?_)
    by_cases hl:kv rk (arrOf st'') (lo+k)<kv rk (arrOf st'') (lo+(l+r) / 2)
    ·simp only[hl,decide_true,if_true]
     refine wpS_pure ⟨rfl,l,(l+r) / 2,rfl,by lia,by lia,by lia,hlo,λi h1 h2=>?_⟩
     exact AO hl (hs' _ _ (by lia) (by lia) (by lia))
    ·simp only[hl,decide_false,Ag,if_false]
     refine wpS_pure ⟨rfl,(l+r) / 2+1,r,rfl,by lia,by lia,by lia,λi h1=>?_,hhi⟩
     exact AZ (hs' (lo+i) (lo+(l+r) / 2) (by lia) (by lia) (by lia)) (Nat.not_lt.mp hl)
  case ipost =>
   rintro c st'' ⟨rfl,l,r,rfl,hlk,hlo,hhi⟩
   show wpS _ _ _ _ (do moveDown' (lo+k) (lo+l);pure (ForInStep.yield (none,()))) _ _
   rw[moveDown'_eq]
   refine wpS_bind (wpS_modify (wpS_pure ⟨rfl,n'.trans (ac8_ (by lia) (by lia) (by lia)),?_⟩))
   rw[show min (k+1) n=k+1 by lia]
   intro i j hi hij hj
   show kv rk (bubble (arrOf st'') (lo+k) (lo+k-(lo+l))) i<=kv rk (bubble (arrOf st'') (lo+k) (lo+k-(lo+l))) j
   rw[yF_ (by lia) (by lia),yF_ (by lia) (by lia),show lo+k-(lo+k-(lo+l))=lo+l by lia]
   have hlo':∀z,lo<=z->z<lo+l->kv rk (arrOf st'') z<=kv rk (arrOf st'') (lo+k):=λz h1 h2=>by
    have:=hlo (z-lo) (by lia)
    rwa [show lo+(z-lo)=z by lia]at this
   have hhi':∀z,lo+l<=z->z<lo+k->kv rk (arrOf st'') (lo+k)<kv rk (arrOf st'') z:=λz h1 h2=>by
    have:=hhi (z-lo) (by lia) (by lia)
    rwa [show lo+(z-lo)=z by lia]at this
   repeat' split
   all_goals first
    |(exfalso;lia)
    |exact AB _
    |exact hlo' _ (by lia) (by lia)
    |exact BE (hhi' _ (by lia) (by lia))
    |exact hs' _ _ (by lia) (by lia) (by lia)
end
end L2.Ts
namespace L2.Ts
open PySem PyProof.Rows
def jM_:Bool->Keyed->Array Keyed->Nat->Nat->Nat->StateT SortSt Sem (Option Nat):=sortPriv% PySem.Builtin.gallop
section
variable{prog:Program}{w:World}{A:Around}{E:Value->Shared->Prop}{s:Shared}{κ:SortKind}{M:Keyed->Prop}{rk:Keyed->Nat}
def Bd(rk:Keyed->Nat)(left:Bool)(key:Keyed)(arr:Array Keyed)(i:Nat):Prop:=if left=true then kv rk arr i<rk key else kv rk arr i<=rk key
theorem zP_(h:Ask prog w A s κ M rk){left:Bool}{key:Keyed}{arr:Array Keyed}{base n hint:Nat}{st:SortSt}{Q:Option Nat->SortSt->Prop}(hk:kindOf st=κ)(hM:M key)(ha:All M arr)(hz:base+n<=arr.size)(hh:hint<n)
  (hs:Srt rk arr base (base+n)) (q:∀p,p<=n->(∀i,base<=i->i<base+p->Bd rk left key arr i)->(∀i,base+p<=i->i<base+n->¬ Bd rk left key arr i)->Q (some p) st) :
  wpS (model prog w) A E s (jM_ left key arr base n hint) Q st:=by
 have mono:∀i j,base<=i->i<=j->j<base+n->Bd rk left key arr j->Bd rk left key arr i:=λi j h1 h2 h3 b=>by
  have:=hs i j h1 h2 h3
  unfold Bd at b ⊢
  cases left
  ·simp only[Ag,if_false]at b ⊢;lia
  ·simp only[if_true]at b ⊢;lia
 have asks:∀(i:Nat)(R:Option Bool->SortSt->Prop),i<n->(Bd rk left key arr (base+i)->R (some true) st)->(¬ Bd rk left key arr (base+i)->R (some false) st) ->
   wpS (model prog w) A E s (do
    let x <-elem' arr (base+i)
    if left=true then lt' x key else do
     let r <-lt' key x
     pure (r.map λb=>!b)) R st:=by
  intro i R hi r1 r2
  have ei:arr[base+i]?=some arr[base+i]:=AC (by lia)
  refine wpS_bind (qC_ ei ?_)
  have ev:=qx_ (rk:=rk) ei
  cases left
  ·rw[if_neg (by decide)]
   refine wpS_bind (xf_ h hk hM (ha _ _ ei) (wpS_pure ?_))
   by_cases c:rk key<rk arr[base+i]
   ·rw[decide_eq_true c]
    refine r2 λb=>?_
    unfold Bd at b
    rw[if_neg (by decide),ev]at b
    lia
   ·rw[decide_eq_false c]
    refine r1 ?_
    unfold Bd
    rw[if_neg (by decide),ev]
    lia
  ·rw[if_pos rfl]
   refine xf_ h hk (ha _ _ ei) hM ?_
   by_cases c:rk arr[base+i]<rk key
   ·rw[decide_eq_true c]
    refine r1 ?_
    unfold Bd
    rw[if_pos rfl,ev]
    exact c
   ·rw[decide_eq_false c]
    refine r2 λb=>?_
    unfold Bd at b
    rw[if_pos rfl,ev]at b
    exact c b
 have srch:∀(K:Option (Option Nat)×Nat×Nat->StateT SortSt Sem (Option Nat)),(∀l p,K (none,l,p)=pure (some p))->∀lo hi,lo<=hi->hi<=n->(∀i,base<=i->i<base+lo->Bd rk left key arr i)->(∀i,base+hi<=i->i<base+n->¬ Bd rk left key arr i) ->
   ∀body,(∀x l p,body x (none,l,p)=if l ≥ p then pure (ForInStep.done (none,l,p)) else do
    let c <-(do
     let x <-elem' arr (base+(l+(p-l) / 2))
     if left=true then lt' x key else do
      let r <-lt' key x
      pure (r.map λb=>!b))
    match c with
    |some more=>if more=true then pure (ForInStep.yield (none,l+(p-l) / 2+1,p)) else pure (ForInStep.yield (none,l,l+(p-l) / 2))
    |_=>pure (ForInStep.done (some none,l,p))) ->
   wpS (model prog w) A E s (do let r <-forIn [0:n] ((none,lo,hi):Option (Option Nat)×Nat×Nat) body;K r) Q st:=by
  intro K hK lo hi hlh hhn h1 h2 body hb
  refine wpS_bind (wpS_forRange (I:=λx c st'=>st'=st/\∃l p,c=(none,l,p)/\l<=p/\p<=n/\p-l<=n-x/\(∀i,base<=i->i<base+l->Bd rk left key arr i)/\(∀i,base+p<=i->i<base+n->¬ Bd rk left key arr i)) ?step ?fin ⟨rfl,lo,hi,rfl,hlh,hhn,by lia,h1,h2⟩)
  case fin =>
   rintro c st' ⟨rfl,l,p,rfl,a1,a2,a3,a4,a5⟩
   have e:l=p:=by lia
   subst e
   rw[hK]
   exact wpS_pure (q l a2 a4 a5)
  case step =>
   rintro x c st' _ hx ⟨rfl,l,p,rfl,a1,a2,a3,a4,a5⟩
   rw[hb]
   by_cases c:l ≥ p
   ·rw[if_pos c]
    have e:l=p:=by lia
    subst e
    refine wpS_pure ?_
    show wpS _ _ _ _ (K (none,l,l)) Q st'
    rw[hK]
    exact wpS_pure (q l a2 a4 a5)
   ·rw[if_neg c]
    refine wpS_bind (asks _ _ (by lia) (λb=>?_) λb=>?_)
    ·refine wpS_pure ⟨rfl,l+(p-l) / 2+1,p,rfl,by lia,a2,by lia,λi i1 i2=>?_,a5⟩
     exact mono i _ i1 (by lia) (by lia) b
    ·refine wpS_pure ⟨rfl,l,l+(p-l) / 2,rfl,by lia,by lia,by lia,a4,λi i1 i2=>?_⟩
     exact λbi=>b (mono _ i (by lia) i1 i2 bi)
 refine wpS_bind (asks hint _ hh (λb=>?_) λb=>?_)
 ·dsimp only
  rw[if_pos rfl]
  refine wpS_bind (wpS_mono (wpS_forRange (I:=λx c st'=>st'=st/\∃l p,c=(none,l,p)/\l<p/\x<p/\l<n-hint/\Bd rk left key arr (base+(hint+l)))
   (Q:=λc st'=>st'=st/\∃l p,c=(none,l,p)/\l<p/\l<n-hint/\Bd rk left key arr (base+(hint+l))/\(n-hint<=p∨(p<n-hint/\¬ Bd rk left key arr (base+(hint+p))))) ?step ?fin ⟨rfl,0,1,rfl,by lia,by lia,by lia,b⟩) ?post)
  case fin =>
   rintro c st' ⟨rfl,l,p,rfl,a1,a2,a3,a4⟩
   exact⟨rfl,l,p,rfl,a1,a3,a4,.inl (by lia)⟩
  case step =>
   rintro x c st' _ hx ⟨rfl,l,p,rfl,a1,a2,a3,a4⟩
   dsimp only
   by_cases c:p ≥ n-hint
   ·rw[if_pos c]
    exact wpS_pure ⟨rfl,l,p,rfl,a1,a3,a4,.inl c⟩
   ·rw[if_neg c]
    refine wpS_bind (asks _ _ (by lia) (λb=>?_) λb=>?_)
    ·exact wpS_pure ⟨rfl,p,2*p+1,rfl,by lia,by lia,by lia,b⟩
    ·exact wpS_pure ⟨rfl,l,p,rfl,a1,a3,a4,.inr ⟨by lia,b⟩⟩
  case post =>
   rintro c st' ⟨rfl,l,p,rfl,a1,a2,a3,a4⟩
   dsimp only
   refine srch _ (λ_ _=>rfl) _ _ ?_ ?_ (λi i1 i2=>mono i _ i1 (by lia) (by lia) a3) (λi i1 i2 bi=>?_) _ λx l p=>rfl
   ·lia
   ·lia
   ·rcases a4 with a4|⟨a4,a5⟩
    ·lia
    ·exact a5 (mono _ i (by lia) (by lia) i2 bi)
 ·dsimp only
  rw[if_neg (by decide)]
  refine wpS_bind (wpS_mono (wpS_forRange (I:=λx c st'=>st'=st/\∃l p,c=(none,l,p)/\l<p/\x<p/\l<hint+1/\¬ Bd rk left key arr (base+(hint-l)))
   (Q:=λc st'=>st'=st/\∃l p,c=(none,l,p)/\l<p/\l<hint+1/\¬ Bd rk left key arr (base+(hint-l))/\(hint+1<=p∨(p<hint+1/\Bd rk left key arr (base+(hint-p))))) ?step ?fin ⟨rfl,0,1,rfl,by lia,by lia,by lia,b⟩) ?post)
  case fin =>
   rintro c st' ⟨rfl,l,p,rfl,a1,a2,a3,a4⟩
   exact⟨rfl,l,p,rfl,a1,a3,a4,.inl (by lia)⟩
  case step =>
   rintro x c st' _ hx ⟨rfl,l,p,rfl,a1,a2,a3,a4⟩
   dsimp only
   by_cases c:p ≥ hint+1
   ·rw[if_pos c]
    exact wpS_pure ⟨rfl,l,p,rfl,a1,a3,a4,.inl c⟩
   ·rw[if_neg c]
    refine wpS_bind (asks _ _ (by lia) (λb=>?_) λb=>?_)
    ·exact wpS_pure ⟨rfl,l,p,rfl,a1,a3,a4,.inr ⟨by lia,b⟩⟩
    ·exact wpS_pure ⟨rfl,p,2*p+1,rfl,by lia,by lia,by lia,b⟩
  case post =>
   rintro c st' ⟨rfl,l,p,rfl,a1,a2,a3,a4⟩
   dsimp only
   refine srch _ (λ_ _=>rfl) _ _ ?_ ?_ (λi i1 i2=>?_) (λi i1 i2 bi=>a3 (mono _ i (by lia) (by lia) i2 bi)) _ λx l p=>rfl
   ·lia
   ·lia
   ·rcases a4 with a4|⟨a4,a5⟩
    ·lia
    ·exact mono i _ i1 (by lia) (by lia) a5
end
end L2.Ts
namespace L2.Ts
open PySem PyProof.Rows
abbrev Up(rk:Keyed->Nat)(l:List Keyed):Prop:=l.Pairwise λx y=>rk x<=rk y
structure J(rk:Keyed->Nat)(la lb o:List Keyed)(ia ib:Nat):Prop where
 ha:ia<=la.length
 hb:ib<=lb.length
 perm:o.Perm (la.take ia++lb.take ib)
 srt:Up rk o
 ua:∀x∈o,∀y∈la.drop ia,rk x<=rk y
 ub:∀x∈o,∀y∈lb.drop ib,rk x<=rk y
def Good(rk:Keyed->Nat)(la lb r:List Keyed):Prop:=r.Perm (la++lb)/\Up rk r
variable{rk:Keyed->Nat}{la lb o:List Keyed}{ia ib na nb k:Nat}
theorem zo_{α:Type}(l:List α)(i k:Nat):l.drop i=(l.drop i).take k++l.drop (i+k):=by
 rw[<-List.drop_drop]
 exact(Ax k (l.drop i)).symm
theorem jc_{α:Type}(l:List α)(i k:Nat):l.take (i+k)=l.take i++(l.drop i).take k:=List.take_add
theorem Up.drop{l:List Keyed}(h:Up rk l)(i:Nat):Up rk (l.drop i):=h.sublist (List.drop_sublist i l)
theorem Up.take{l:List Keyed}(h:Up rk l)(i:Nat):Up rk (l.take i):=h.sublist (List.take_sublist i l)
theorem Up.app{l m:List Keyed}(h:Up rk l)(q:Up rk m)(c:∀x∈l,∀y∈m,rk x<=rk y):Up rk (l++m):=By.mpr ⟨h,q,c⟩
theorem J.a(j:J rk la lb o ia ib)(sa:Up rk la)(hk:ia+k<=la.length)(h:∀x∈(la.drop ia).take k,∀y∈lb.drop ib,rk x<=rk y):J rk la lb (o++(la.drop ia).take k) (ia+k) ib:=by
 have sd:=zo_ la ia k
 have up:=sa.drop ia
 rw[sd]at up
 have cr:=(By.mp up).2.2
 refine⟨hk,j.hb,?_,j.srt.app ((sa.drop ia).take k) λx hx y hy=>j.ua x hx y (BV hy),λx hx y hy=>?_,λx hx y hy=>?_⟩
 ·rw[jc_,AR]
  refine(At _ j.perm).trans ?_
  rw[AR]
  exact BF _ BQ
 ·rcases Aa.mp hx with hx|hx
  ·exact j.ua x hx y (by rw[sd];exact AV _ hy)
  ·exact cr x hx y hy
 ·rcases Aa.mp hx with hx|hx
  ·exact j.ub x hx y hy
  ·exact h x hx y hy
theorem J.b(j:J rk la lb o ia ib)(sb:Up rk lb)(hk:ib+k<=lb.length)(h:∀x∈(lb.drop ib).take k,∀y∈la.drop ia,rk x<=rk y):J rk la lb (o++(lb.drop ib).take k) ia (ib+k):=by
 have sd:=zo_ lb ib k
 have up:=sb.drop ib
 rw[sd]at up
 have cr:=(By.mp up).2.2
 refine⟨j.ha,hk,?_,j.srt.app ((sb.drop ib).take k) λx hx y hy=>j.ub x hx y (BV hy),λx hx y hy=>?_,λx hx y hy=>?_⟩
 ·rw[jc_,<-AR]
  exact At _ j.perm
 ·rcases Aa.mp hx with hx|hx
  ·exact j.ua x hx y hy
  ·exact h x hx y hy
 ·rcases Aa.mp hx with hx|hx
  ·exact j.ub x hx y (by rw[sd];exact AV _ hy)
  ·exact cr x hx y hy
theorem J.all(j:J rk la lb o ia ib):(o++la.drop ia++lb.drop ib).Perm (la++lb):=by
 have e:(la.take ia++lb.take ib++la.drop ia++lb.drop ib).Perm (la++lb):=by
  have e1:(la++lb)=(la.take ia++la.drop ia)++(lb.take ib++lb.drop ib):=by rw[Ax,Ax]
  rw[e1,AR,AR,AR]
  refine BF _ ?_
  rw[<-AR,<-AR]
  exact At _ BQ
 exact(At _ (At _ j.perm)).trans e
theorem J.done(j:J rk la lb o ia ib)(sa:Up rk la)(sb:Up rk lb)(h:ia=la.length∨ib=lb.length):Good rk la lb (o++la.drop ia++lb.drop ib):=by
 refine⟨j.all,?_⟩
 rcases h with h|h
 ·rw[h,DI,BY]
  exact j.srt.app (sb.drop ib) j.ub
 ·rw[h,DI,BY]
  exact j.srt.app (sa.drop ia) j.ua
theorem J.last(j:J rk la lb o ia ib)(sa:Up rk la)(sb:Up rk lb)(h:∀y∈lb,∀x∈la.drop ia,rk y<=rk x):Good rk la lb (o++lb.drop ib++la.drop ia):=by
 refine⟨?_,(j.srt.app (sb.drop ib) j.ub).app (sa.drop ia) λx hx y hy=>?_⟩
 ·refine List.Perm.trans ?_ j.all
  rw[AR,AR]
  exact BF _ BQ
 ·rcases Aa.mp hx with hx|hx
  ·exact j.ua x hx y hy
  ·exact h x (Bz hx) y hy
structure J2(rk:Keyed->Nat)(la lb o:List Keyed)(na nb:Nat):Prop where
 ha:na<=la.length
 hb:nb<=lb.length
 perm:o.Perm (la.drop na++lb.drop nb)
 srt:Up rk o
 ua:∀x∈la.take na,∀y∈o,rk x<=rk y
 ub:∀x∈lb.take nb,∀y∈o,rk x<=rk y
theorem J2.a(j:J2 rk la lb o (na+k) nb)(sa:Up rk la)(h:∀x∈(la.drop na).take k,∀y∈lb.take nb,rk y<=rk x):J2 rk la lb ((la.drop na).take k++o) na nb:=by
 have sd:=jc_ la na k
 have up:=sa.take (na+k)
 rw[sd]at up
 have cr:=(By.mp up).2.2
 have j1:=j.ha
 refine⟨by lia,j.hb,?_,((sa.drop na).take k).app j.srt λx hx y hy=>j.ua x (by rw[sd];exact AV _ hx) y hy,λx hx y hy=>?_,λx hx y hy=>?_⟩
 ·have e:la.drop na++lb.drop nb=(la.drop na).take k++(la.drop (na+k)++lb.drop nb):=by rw[<-AR,<-zo_ la na k]
  rw[e]
  exact BF _ j.perm
 ·rcases Aa.mp hy with hy|hy
  ·exact cr x hx y hy
  ·exact j.ua x (by rw[sd];exact Ay _ hx) y hy
 ·rcases Aa.mp hy with hy|hy
  ·exact h y hy x hx
  ·exact j.ub x hx y hy
theorem J2.b(j:J2 rk la lb o na (nb+k))(sb:Up rk lb)(h:∀x∈(lb.drop nb).take k,∀y∈la.take na,rk y<=rk x):J2 rk la lb ((lb.drop nb).take k++o) na nb:=by
 have sd:=jc_ lb nb k
 have up:=sb.take (nb+k)
 rw[sd]at up
 have cr:=(By.mp up).2.2
 have j1:=j.hb
 refine⟨j.ha,by lia,?_,((sb.drop nb).take k).app j.srt λx hx y hy=>j.ub x (by rw[sd];exact AV _ hx) y hy,λx hx y hy=>?_,λx hx y hy=>?_⟩
 ·have e:la.drop na++lb.drop nb=la.drop na++(lb.drop nb).take k++lb.drop (nb+k):=by rw[AR,<-zo_ lb nb k]
  rw[e]
  refine(BF _ j.perm).trans ?_
  rw[<-AR]
  exact At _ BQ
 ·rcases Aa.mp hy with hy|hy
  ·exact h y hy x hx
  ·exact j.ua x hx y hy
 ·rcases Aa.mp hy with hy|hy
  ·exact cr x hx y hy
  ·exact j.ub x (by rw[sd];exact Ay _ hx) y hy
theorem J2.all(j:J2 rk la lb o na nb):(la.take na++lb.take nb++o).Perm (la++lb):=by
 have e:(la.take na++lb.take nb++(la.drop na++lb.drop nb)).Perm (la++lb):=by
  have e1:(la++lb)=(la.take na++la.drop na)++(lb.take nb++lb.drop nb):=by rw[Ax,Ax]
  rw[e1,AR,AR]
  refine BF _ ?_
  rw[<-AR,<-AR]
  exact At _ BQ
 exact(BF _ j.perm).trans e
theorem J2.done(j:J2 rk la lb o na nb)(sa:Up rk la)(sb:Up rk lb)(h:na=0∨nb=0):Good rk la lb (la.take na++lb.take nb++o):=by
 refine⟨j.all,?_⟩
 rcases h with h|h
 ·rw[h,Cs,List.nil_append]
  exact(sb.take nb).app j.srt j.ub
 ·rw[h,Cs,BY]
  exact(sa.take na).app j.srt j.ua
theorem J2.first(j:J2 rk la lb o na nb)(sa:Up rk la)(sb:Up rk lb)(h:∀y∈lb.take nb,∀x∈la,rk y<=rk x):Good rk la lb (lb.take nb++la.take na++o):=by
 refine⟨?_,((sb.take nb).app (sa.take na) λx hx y hy=>h x hx y (BV hy)).app j.srt λx hx y hy=>?_⟩
 ·refine List.Perm.trans ?_ j.all
  exact At _ BQ
 ·rcases Aa.mp hx with hx|hx
  ·exact j.ub x hx y hy
  ·exact j.ua x hx y hy
def aeq_:Array Keyed->Array Keyed->StateT SortSt Sem (Array Keyed):=sortPriv% PySem.Builtin.mergeLo
def afd_:Array Keyed->Array Keyed->StateT SortSt Sem (Array Keyed):=sortPriv% PySem.Builtin.mergeHi
structure Gs(st st':SortSt):Prop where
 kind:kindOf st'=kindOf st
 arr:arrOf st'=arrOf st
 pend:pendingOf st'=pendingOf st
 failed:failedOf st'=failedOf st
theorem Gs.refl(st:SortSt):Gs st st:=⟨rfl,rfl,rfl,rfl⟩
theorem Gs.trans{a b c:SortSt}(h:Gs a b)(q:Gs b c):Gs a c:=⟨q.kind.trans h.kind,q.arr.trans h.arr,q.pend.trans h.pend,q.failed.trans h.failed⟩
theorem jO_(st:SortSt)(g:Nat):Gs st (SortSt.mk' (kindOf st) (arrOf st) (pendingOf st) g (failedOf st)):=⟨rfl,rfl,rfl,rfl⟩
theorem zH_{xs:Array Keyed}{i k:Nat}{x:Keyed}(h:x∈(xs.toList.drop i).take k):∃j,i<=j/\j<i+k/\j<xs.size/\kv rk xs j=rk x/\xs[j]?=some x:=by
 obtain⟨m,hm,e⟩:=D5 h
 have l:=hm
 rw[As,Ap,AJ]at l
 have e2:xs[i+m]?=some x:=by
  rw[List.getElem_take,List.getElem_drop]at e
  rw[<-e,<-Aj]
  exact AK (by rw[AJ];lia)
 exact⟨i+m,by lia,by lia,by lia,qx_ e2,e2⟩
theorem zD_{xs:Array Keyed}{i:Nat}{x:Keyed}(h:x∈xs.toList.drop i):∃j,i<=j/\j<xs.size/\kv rk xs j=rk x:=by
 have h':x∈(xs.toList.drop i).take xs.size:=by
  rw[AW (by rw[Ap,AJ];lia)]
  exact h
 obtain⟨j,h1,_,h3,h4,_⟩:=zH_ (rk:=rk) h'
 exact⟨j,h1,h3,h4⟩
theorem xs_{xs:Array Keyed}{i:Nat}{x:Keyed}(h:x∈xs.toList.take i):∃j,j<i/\j<xs.size/\kv rk xs j=rk x:=by
 have h':x∈(xs.toList.drop 0).take i:=by rw[Bp];exact h
 obtain⟨j,h1,h2,h3,h4,_⟩:=zH_ (rk:=rk) h'
 exact⟨j,by lia,h3,h4⟩
theorem q9_{xs:Array Keyed}(h:Up rk xs.toList):Srt rk xs 0 xs.size:=λi j _ hij hj=>by
 by_cases e:i=j
 ·subst e;exact AB _
 ·have q:=CK.mp h i j (by rw[AJ];lia) (by rw[AJ];lia) (by lia)
  have ei:xs[i]?=some xs[i]:=AC (by lia)
  have ej:xs[j]?=some xs[j]:=AC (by lia)
  rw[qx_ ei,qx_ ej]
  simpa using q
theorem ab3_{xs:Array Keyed}{i k:Nat}(h:Srt rk xs i (i+k))(hz:i+k<=xs.size):Up rk (xs.toList.drop i |>.take k):=by
 refine CK.mpr λp q hp hq hpq=>?_
 have l:=hq
 rw[As,Ap,AJ]at l
 have ep:xs[i+p]?=some xs[i+p]:=AC (by lia)
 have eq:xs[i+q]?=some xs[i+q]:=AC (by lia)
 have r:=h (i+p) (i+q) (by lia) (by lia) (by lia)
 rw[qx_ ep,qx_ eq]at r
 simpa [List.getElem_take,List.getElem_drop]using r
theorem zN_{xs:Array Keyed}{i:Nat}{x:Keyed}(h:xs[i]?=some x):(xs.toList.drop i).take 1=[x]:=by
 obtain⟨hi,e⟩:=Ae.mp h
 have hl:i<xs.toList.length:=by rw[AJ];exact hi
 rw[List.drop_eq_getElem_cons hl,D6,Cs]
 rw[Array.getElem_toList,e]
theorem q3_(xs:Array Keyed)(i j:Nat):(xs.extract i j).toList=(xs.toList.drop i).take (j-i):=by
 rw[Array.toList_extract,List.extract_eq_drop_take]
theorem xC_(xs:Array Keyed)(i:Nat):(xs.extract i xs.size).toList=xs.toList.drop i:=by
 rw[q3_,AW (by rw[Ap,AJ];lia)]
theorem x6_(xs:Array Keyed)(i:Nat):(xs.extract 0 i).toList=xs.toList.take i:=by
 rw[q3_,Bp,EC]
section
variable{prog:Program}{w:World}{A:Around}{E:Value->Shared->Prop}{s:Shared}{κ:SortKind}{M:Keyed->Prop}
theorem xH_{σ α:Type}{c:Prop}[Decidable c]{x y:StateT σ Sem α}{Q:α->σ->Prop}{st:σ}(h1:c->wpS (model prog w) A E s x Q st)(h2:¬ c->wpS (model prog w) A E s y Q st):wpS (model prog w) A E s (if c then x else y) Q st:=by
 by_cases h:c
 ·rw[if_pos h];exact h1 h
 ·rw[if_neg h];exact h2 h
abbrev LoC:=Option (Array Keyed)×Array Keyed×Nat×Nat×Nat×Nat×Nat
def l3(a b:Array Keyed)(out:Array Keyed)(ia ib g ac bc:Nat):StateT SortSt Sem (ForInStep LoC):=do
 let x <-elem' a ia
 if (ia+1+1==a.size)=true then pure (.done (some (out.push x++b.extract ib b.size++a.extract (ia+1) a.size),out.push x,ia+1,ib,g,ac,bc))
 else if (decide (ac<7)&&decide (bc<7))=true then pure (.done (none,out.push x,ia+1,ib,g,ac,bc))
 else pure (.yield (none,out.push x,ia+1,ib,g,ac,bc))
def l2(a b:Array Keyed)(out:Array Keyed)(ia ib g ac bc0:Nat):StateT SortSt Sem (ForInStep LoC):=do
 let x <-elem' b ib
 if (ib+1==b.size)=true then pure (.done (some (out.push x++a.extract ia a.size++b.extract (ib+1) b.size),out.push x,ia,ib+1,g,ac,bc0))
 else do
  let y <-elem' a ia
  let r <-jM_ true y b (ib+1) (b.size-(ib+1)) 0
  match r with
  |some k =>
   if k>0 then
    if (ib+1+k==b.size)=true then pure (.done (some (out.push x++b.extract (ib+1) (ib+1+k)++a.extract ia a.size++b.extract (ib+1+k) b.size),out.push x++b.extract (ib+1) (ib+1+k),ia,ib+1+k,g,ac,k))
    else l3 a b (out.push x++b.extract (ib+1) (ib+1+k)) ia (ib+1+k) g ac k
   else l3 a b (out.push x) ia (ib+1) g ac k
  |_=>pure (.done (some (out.push x++a.extract ia a.size++b.extract (ib+1) b.size),out.push x,ia,ib+1,g,ac,bc0))
def l1(a b:Array Keyed)(out:Array Keyed)(ia ib g ac0 bc0:Nat):StateT SortSt Sem (ForInStep LoC):=do
 let y <-elem' b ib
 let r <-jM_ false y a ia (a.size-ia) 0
 match r with
 |some k =>
  if k>0 then
   if (ia+k+1==a.size)=true then pure (.done (some (out++a.extract ia (ia+k)++b.extract ib b.size++a.extract (ia+k) a.size),out++a.extract ia (ia+k),ia+k,ib,g,k,bc0))
   else if (ia+k==a.size)=true then pure (.done (some (out++a.extract ia (ia+k)++a.extract (ia+k) a.size++b.extract ib b.size),out++a.extract ia (ia+k),ia+k,ib,g,k,bc0))
   else l2 a b (out++a.extract ia (ia+k)) (ia+k) ib g k bc0
  else l2 a b out ia ib g k bc0
 |_=>pure (.done (some (out++a.extract ia a.size++b.extract ib b.size),out,ia,ib,g,ac0,bc0))
structure MPre(M:Keyed->Prop)(rk:Keyed->Nat)(a b:Array Keyed):Prop where
 ma:All M a
 mb:All M b
 sa:Up rk a.toList
 sb:Up rk b.toList
 za:0<a.size
 zb:0<b.size
 fst:kv rk b 0<kv rk a 0
 lst:∀i,i<b.size->kv rk b i<kv rk a (a.size-1)
variable{a b:Array Keyed}
theorem MPre.done(m:MPre M rk a b){out:Array Keyed}(j:J rk a.toList b.toList out.toList ia ib)(h:ia=a.size∨ib=b.size):Good rk a.toList b.toList (out++a.extract ia a.size++b.extract ib b.size).toList:=by
 rw[Am,Am,xC_,xC_]
 exact j.done m.sa m.sb (by rw[AJ,AJ];exact h)
theorem MPre.last(m:MPre M rk a b){out:Array Keyed}(j:J rk a.toList b.toList out.toList ia ib)(h:ia+1=a.size):Good rk a.toList b.toList (out++b.extract ib b.size++a.extract ia a.size).toList:=by
 rw[Am,Am,xC_,xC_]
 refine j.last m.sa m.sb λy hy x hx=>?_
 obtain⟨p,p1,p2,p3⟩:=zD_ (rk:=rk) (i:=0) (by rw[Bp];exact hy)
 obtain⟨r,r1,r2,r3⟩:=zD_ (rk:=rk) hx
 have e:r=a.size-1:=by lia
 have:=m.lst p p2
 rw[e]at r3
 lia
theorem MPre.pushA(m:MPre M rk a b){out:Array Keyed}{x:Keyed}(j:J rk a.toList b.toList out.toList ia ib)(hx:a[ia]?=some x)(h:∀i,ib<=i->i<b.size->kv rk a ia<=kv rk b i):J rk a.toList b.toList (out.push x).toList (ia+1) ib:=by
 obtain⟨hi,_⟩:=Ae.mp hx
 have q:=j.a (k:=1) m.sa (by rw[AJ];lia) (λz hz y hy=>by
  rw[zN_ hx]at hz
  rw[Ad.mp hz]
  obtain⟨r,r1,r2,r3⟩:=zD_ (rk:=rk) hy
  have:=h r r1 r2
  rw[qx_ hx]at this
  lia)
 rw[zN_ hx]at q
 rw[B7]
 exact q
theorem MPre.pushB(m:MPre M rk a b){out:Array Keyed}{x:Keyed}(j:J rk a.toList b.toList out.toList ia ib)(hx:b[ib]?=some x)(h:∀i,ia<=i->i<a.size->kv rk b ib<=kv rk a i):J rk a.toList b.toList (out.push x).toList ia (ib+1):=by
 obtain⟨hi,_⟩:=Ae.mp hx
 have q:=j.b (k:=1) m.sb (by rw[AJ];lia) (λz hz y hy=>by
  rw[zN_ hx]at hz
  rw[Ad.mp hz]
  obtain⟨r,r1,r2,r3⟩:=zD_ (rk:=rk) hy
  have:=h r r1 r2
  rw[qx_ hx]at this
  lia)
 rw[zN_ hx]at q
 rw[B7]
 exact q
theorem MPre.appA(m:MPre M rk a b){out:Array Keyed}(j:J rk a.toList b.toList out.toList ia ib)(hk:ia+k<=a.size)(h:∀p,ia<=p->p<ia+k->∀i,ib<=i->i<b.size->kv rk a p<=kv rk b i):J rk a.toList b.toList (out++a.extract ia (ia+k)).toList (ia+k) ib:=by
 have q:=j.a (k:=k) m.sa (by rw[AJ];lia) (λz hz y hy=>by
  obtain⟨p,p1,p2,p3,p4,_⟩:=zH_ (rk:=rk) hz
  obtain⟨r,r1,r2,r3⟩:=zD_ (rk:=rk) hy
  have:=h p p1 p2 r r1 r2
  lia)
 rw[Am,q3_,DU]
 exact q
theorem MPre.appB(m:MPre M rk a b){out:Array Keyed}(j:J rk a.toList b.toList out.toList ia ib)(hk:ib+k<=b.size)(h:∀p,ib<=p->p<ib+k->∀i,ia<=i->i<a.size->kv rk b p<=kv rk a i):J rk a.toList b.toList (out++b.extract ib (ib+k)).toList ia (ib+k):=by
 have q:=j.b (k:=k) m.sb (by rw[AJ];lia) (λz hz y hy=>by
  obtain⟨p,p1,p2,p3,p4,_⟩:=zH_ (rk:=rk) hz
  obtain⟨r,r1,r2,r3⟩:=zD_ (rk:=rk) hy
  have:=h p p1 p2 r r1 r2
  lia)
 rw[Am,q3_,DU]
 exact q
def LoR(rk:Keyed->Nat)(a b:Array Keyed)(p:Nat)(st:SortSt)(c:LoC)(st':SortSt):Prop:=Gs st st' /\
 ((∃r,c.1=some r/\Good rk a.toList b.toList r.toList)∨(c.1=none/\J rk a.toList b.toList c.2.1.toList c.2.2.1 c.2.2.2.1/\c.2.2.1+1<a.size/\c.2.2.2.1<b.size/\p<=c.2.2.1+c.2.2.2.1))
theorem afu_(m:MPre M rk a b){out:Array Keyed}{g ac bc p:Nat}{st st':SortSt}{R:ForInStep LoC->SortSt->Prop}(gs:Gs st st')(j:J rk a.toList b.toList out.toList ia ib)(h1:ia+1<a.size)(h2:ib<b.size)(hp:p<=ia+ib)
  (h:∀i,ib<=i->i<b.size->kv rk a ia<=kv rk b i) (d:∀c,LoR rk a b p st c st'->R (.done c) st') (y:∀c,c.1=none->LoR rk a b p st c st'->R (.yield c) st'):wpS (model prog w) A E s (l3 a b out ia ib g ac bc) R st':=by
 have ea:a[ia]?=some a[ia]:=AC (by lia)
 refine wpS_bind (qC_ ea ?_)
 have j':=m.pushA j ea h
 by_cases c:ia+1+1=a.size
 ·rw[if_pos (by simpa using c)]
  exact wpS_pure (d _ ⟨gs,.inl ⟨_,rfl,m.last j' c⟩⟩)
 ·rw[if_neg (by simpa using c)]
  have on:LoR rk a b p st (none,out.push a[ia],ia+1,ib,g,ac,bc) st':=⟨gs,.inr ⟨rfl,j',(by show ia+1+1<a.size;lia),h2,(by show p<=ia+1+ib;lia)⟩⟩
  split
  ·exact wpS_pure (d _ on)
  ·exact wpS_pure (y _ rfl on)
theorem afo_(hA:Ask prog w A s κ M rk)(m:MPre M rk a b){out:Array Keyed}{g ac bc p:Nat}{st st':SortSt}{R:ForInStep LoC->SortSt->Prop}(hk:kindOf st=κ)(gs:Gs st st')(j:J rk a.toList b.toList out.toList ia ib)(h1:ia+1<a.size)(h2:ib<b.size)(hp:p<=ia+ib)
  (h:∀i,ia<=i->i<a.size->kv rk b ib<=kv rk a i) (d:∀c,LoR rk a b p st c st'->R (.done c) st') (y:∀c,c.1=none->LoR rk a b p st c st'->R (.yield c) st'):wpS (model prog w) A E s (l2 a b out ia ib g ac bc) R st':=by
 have eb:b[ib]?=some b[ib]:=AC h2
 have ea:a[ia]?=some a[ia]:=AC (by lia)
 refine wpS_bind (qC_ eb ?_)
 have j':=m.pushB j eb h
 by_cases c:ib+1=b.size
 ·rw[if_pos (by simpa using c)]
  exact wpS_pure (d _ ⟨gs,.inl ⟨_,rfl,m.done j' (.inr c)⟩⟩)
 ·rw[if_neg (by simpa using c)]
  refine wpS_bind (qC_ ea (wpS_bind (zP_ hA (gs.kind.trans hk) (m.ma _ _ ea) m.mb (by lia) (by lia) (λi k a1 a2 a3=>q9_ m.sb i k (AU _) a2 (by lia)) λk k1 k2 k3=>?_)))
  have sA:=q9_ m.sa
  have lt:∀i,ib+1<=i->i<ib+1+k->kv rk b i<kv rk a ia:=λi i1 i2=>by
   have:=k2 i i1 i2
   unfold Bd at this
   rw[if_pos rfl,<-qx_ (rk:=rk) ea]at this
   exact this
  have ge:∀i,ib+1+k<=i->i<b.size->kv rk a ia<=kv rk b i:=λi i1 i2=>by
   have:=k3 i i1 (by lia)
   unfold Bd at this
   rw[if_pos rfl,<-qx_ (rk:=rk) ea]at this
   lia
  dsimp only
  by_cases k0:k>0
  ·rw[if_pos k0]
   have j2:=m.appB (k:=k) j' (by lia) (λp p1 p2 i i1 i2=>by
    have q1:=lt p p1 p2
    have q2:=sA ia i (AU _) i1 i2
    lia)
   by_cases c2:ib+1+k=b.size
   ·rw[if_pos (by simpa using c2)]
    exact wpS_pure (d _ ⟨gs,.inl ⟨_,rfl,m.done j2 (.inr c2)⟩⟩)
   ·rw[if_neg (by simpa using c2)]
    exact afu_ m gs j2 h1 (by lia) (by lia) ge d y
  ·rw[if_neg k0]
   exact afu_ m gs j' h1 (by lia) (by lia) (λi i1 i2=>ge i (by lia) i2) d y
theorem aft_(hA:Ask prog w A s κ M rk)(m:MPre M rk a b){out:Array Keyed}{g ac bc p:Nat}{st st':SortSt}{R:ForInStep LoC->SortSt->Prop}(hk:kindOf st=κ)(gs:Gs st st')(j:J rk a.toList b.toList out.toList ia ib)(h1:ia+1<a.size)(h2:ib<b.size)(hp:p<=ia+ib)
  (d:∀c,LoR rk a b p st c st'->R (.done c) st') (y:∀c,c.1=none->LoR rk a b p st c st'->R (.yield c) st'):wpS (model prog w) A E s (l1 a b out ia ib g ac bc) R st':=by
 have eb:b[ib]?=some b[ib]:=AC h2
 refine wpS_bind (qC_ eb (wpS_bind (zP_ hA (gs.kind.trans hk) (m.mb _ _ eb) m.ma (by lia) (by lia) (λi k a1 a2 a3=>q9_ m.sa i k (AU _) a2 (by lia)) λk k1 k2 k3=>?_)))
 have sB:=q9_ m.sb
 have le:∀i,ia<=i->i<ia+k->kv rk a i<=kv rk b ib:=λi i1 i2=>by
  have:=k2 i i1 i2
  unfold Bd at this
  rw[if_neg (by decide),<-qx_ (rk:=rk) eb]at this
  exact this
 have gt:∀i,ia+k<=i->i<a.size->kv rk b ib<=kv rk a i:=λi i1 i2=>by
  have:=k3 i i1 (by lia)
  unfold Bd at this
  rw[if_neg (by decide),<-qx_ (rk:=rk) eb]at this
  lia
 dsimp only
 by_cases k0:k>0
 ·rw[if_pos k0]
  have j2:=m.appA (k:=k) j (by lia) (λp p1 p2 i i1 i2=>by
   have q1:=le p p1 p2
   have q2:=sB ib i (AU _) i1 i2
   lia)
  by_cases c:ia+k+1=a.size
  ·rw[if_pos (by simpa using c)]
   exact wpS_pure (d _ ⟨gs,.inl ⟨_,rfl,m.last j2 c⟩⟩)
  rw[if_neg (by simpa using c)]
  by_cases c2:ia+k=a.size
  ·rw[if_pos (by simpa using c2)]
   exact wpS_pure (d _ ⟨gs,.inl ⟨_,rfl,m.done j2 (.inl c2)⟩⟩)
  ·rw[if_neg (by simpa using c2)]
   exact afo_ hA m hk gs j2 (by lia) h2 (by lia) gt d y
 ·rw[if_neg k0]
  exact afo_ hA m hk gs j h1 h2 hp (λi i1 i2=>gt i (by lia) i2) d y
theorem ajr_(hA:Ask prog w A s κ M rk){st:SortSt}{Q:Array Keyed->SortSt->Prop}(hk:kindOf st=κ)(m:MPre M rk a b)
  (q:∀r st',Gs st st'->Good rk a.toList b.toList r.toList->Q r st'):wpS (model prog w) A E s (aeq_ a b) Q st:=by
 refine wpS_bind (wpS_lift (wpAny_rule ⟨rfl,?_⟩))
 have za:=m.za
 have zb:=m.zb
 have eb0:b[0]?=some b[0]:=AC zb
 have sA:=q9_ m.sa
 have sB:=q9_ m.sb
 have j0:J rk a.toList b.toList (#[]:Array Keyed).toList 0 0:=⟨AU _,AU _,by simp,List.Pairwise.nil,λx hx=>by simp at hx,λx hx=>by simp at hx⟩
 have j1:J rk a.toList b.toList (#[b[0]]:Array Keyed).toList 0 1:=m.pushB j0 eb0 λi i1 i2=>AZ (BE m.fst) (sA 0 i (AU _) i1 i2)
 refine wpS_bind (qC_ eb0 ?_)
 by_cases c1:1=b.size
 ·rw[if_pos (by simpa using c1)]
  exact wpS_pure (q _ st (Gs.refl _) (m.done j1 (.inr c1)))
 rw[if_neg (by simpa using c1)]
 by_cases c2:0+1=a.size
 ·rw[if_pos (by simpa using c2)]
  exact wpS_pure (q _ st (Gs.refl _) (m.last j1 c2))
 rw[if_neg (by simpa using c2)]
 refine wpS_bind (wpS_get ?_)
 refine wpS_bind (wpS_mono (wpS_forRange (I:=λx c st'=>Gs st st'/\c.1=none/\J rk a.toList b.toList c.2.1.toList c.2.2.1 c.2.2.2.1/\c.2.2.1+1<a.size/\c.2.2.2.1<b.size/\x+1<=c.2.2.1+c.2.2.2.1)
  (Q:=λc st'=>Gs st st'/\∃r,c.1=some r/\Good rk a.toList b.toList r.toList) ?step ?fin ⟨Gs.refl _,rfl,j1,by show 0+1<a.size;lia,by show 1<b.size;lia,AB _⟩) ?post)
 case post =>
  rintro⟨c,zn_⟩ st' ⟨gs,r,e,g⟩
  have e':c=some r:=e
  subst e'
  exact wpS_pure (q r st' gs g)
 case fin =>
  rintro⟨c,out,ia,ib,g⟩ st' ⟨gs,e,j,h1,h2,h3⟩
  exfalso
  dsimp only at h1 h2 h3
  lia
 case step =>
  rintro x ⟨c,out,ia,ib,g⟩ st' _ hx ⟨gs,e,j,h1,h2,h3⟩
  dsimp only at e j h1 h2 h3
  subst e
  refine wpS_bind (wpS_mono (wpS_forRange (I:=λy c st''=>st''=st'/\c.1=none/\J rk a.toList b.toList c.2.1.toList c.2.2.1 c.2.2.2.1/\c.2.2.1+1<a.size/\c.2.2.2.1<b.size/\x+1+min y 1<=c.2.2.1+c.2.2.2.1)
   (Q:=λc st''=>st''=st'/\((∃r,c.1=some r/\Good rk a.toList b.toList r.toList)∨(c.1=none/\J rk a.toList b.toList c.2.1.toList c.2.2.1 c.2.2.2.1/\c.2.2.1+1<a.size/\c.2.2.2.1<b.size/\x+2<=c.2.2.1+c.2.2.2.1))) ?step1 ?fin1 ⟨rfl,rfl,j,h1,h2,by show x+1+min 0 1<=ia+ib;lia⟩) ?post1)
  case fin1 =>
   rintro⟨c,out,ia,ib,ac,bc⟩ st'' ⟨e1,e,j,h1,h2,h3⟩
   refine⟨e1,.inr ⟨e,j,h1,h2,?_⟩⟩
   dsimp only at h3 ⊢
   lia
  case step1 =>
   rintro y ⟨c,out,ia,ib,ac,bc⟩ st'' _ hy ⟨e1,e,j,h1,h2,h3⟩
   subst e1
   dsimp only at e j h1 h2 h3
   subst e
   have eb:b[ib]?=some b[ib]:=AC h2
   have ea:a[ia]?=some a[ia]:=AC (by lia)
   refine wpS_bind (qC_ eb (wpS_bind (qC_ ea (wpS_bind (xf_ hA (gs.kind.trans hk) (m.mb _ _ eb) (m.ma _ _ ea) ?_)))))
   by_cases c:rk b[ib]<rk a[ia]
   ·rw[decide_eq_true c]
    dsimp only
    rw[if_pos rfl]
    refine wpS_bind (qC_ eb ?_)
    have j':=m.pushB j eb λi i1 i2=>by
     have q1:=sA ia i (AU _) i1 i2
     rw[qx_ ea]at q1
     rw[qx_ eb]
     lia
    by_cases c3:ib+1=b.size
    ·rw[if_pos (by simpa using c3)]
     exact wpS_pure ⟨rfl,.inl ⟨_,rfl,m.done j' (.inr c3)⟩⟩
    rw[if_neg (by simpa using c3)]
    split
    ·exact wpS_pure ⟨rfl,.inr ⟨rfl,j',h1,by dsimp only;lia,by dsimp only;lia⟩⟩
    ·exact wpS_pure ⟨rfl,rfl,j',h1,by dsimp only;lia,by dsimp only;lia⟩
   ·rw[decide_eq_false c]
    dsimp only
    rw[if_neg (by decide)]
    refine wpS_bind (qC_ ea ?_)
    have j':=m.pushA j ea λi i1 i2=>by
     have q1:=sB ib i (AU _) i1 i2
     rw[qx_ eb]at q1
     rw[qx_ ea]
     lia
    by_cases c3:ia+1+1=a.size
    ·rw[if_pos (by simpa using c3)]
     exact wpS_pure ⟨rfl,.inl ⟨_,rfl,m.last j' c3⟩⟩
    rw[if_neg (by simpa using c3)]
    split
    ·exact wpS_pure ⟨rfl,.inr ⟨rfl,j',by dsimp only;lia,h2,by dsimp only;lia⟩⟩
    ·exact wpS_pure ⟨rfl,rfl,j',by dsimp only;lia,h2,by dsimp only;lia⟩
  case post1 =>
   rintro⟨c,out,ia,ib,ac,bc⟩ st'' ⟨e1,h⟩
   subst e1
   rcases h with⟨r,e,g1⟩|⟨e,j,h1,h2,h3⟩
   ·have e':c=some r:=e
    subst e'
    exact wpS_pure ⟨gs,r,rfl,g1⟩
   ·dsimp only at e j h1 h2 h3
    subst e
    refine wpS_bind (wpS_lift (wpAny_rule ⟨rfl,?_⟩))
    refine wpS_bind (wpS_mono (wpS_forRange (I:=λ_ c st3=>c.1=none/\LoR rk a b (x+2) st c st3) (Q:=λc st3=>LoR rk a b (x+2) st c st3) ?step2 ?fin2 ⟨rfl,gs,.inr ⟨rfl,j,h1,h2,h3⟩⟩) ?post2)
    case fin2 =>
     rintro c st3 ⟨_,hc⟩
     exact hc
    case step2 =>
     rintro y ⟨c,out,ia,ib,g2,ac,bc⟩ st3 _ hy ⟨e,gs3,hc⟩
     have e':c=none:=e
     subst e'
     rcases hc with⟨r,er,_⟩|⟨_,j,h1,h2,h3⟩
     ·cases er
     dsimp only at j h1 h2 h3
     refine xH_ (λ_=>?_) (λ_=>?_)
     ·refine wpS_bind (wpS_modify ?_)
      exact aft_ hA m hk (gs3.trans (jO_ st3 (g2-1))) j h1 h2 h3 (λc hc=>hc) (λc e hc=>⟨e,hc⟩)
     ·refine wpS_bind (wpS_modify ?_)
      exact aft_ hA m hk (gs3.trans (jO_ st3 g2)) j h1 h2 h3 (λc hc=>hc) (λc e hc=>⟨e,hc⟩)
    case post2 =>
     rintro⟨c,out,ia,ib,g2,ac,bc⟩ st3 ⟨gs3,hc⟩
     rcases hc with⟨r,er,g3⟩|⟨er,j,h1,h2,h3⟩
     ·have e':c=some r:=er
      subst e'
      exact wpS_pure ⟨gs3,r,rfl,g3⟩
     ·have e':c=none:=er
      subst e'
      dsimp only at j h1 h2 h3 ⊢
      refine wpS_bind (wpS_modify (wpS_pure ⟨gs3.trans (jO_ st3 (g2+1)),rfl,j,h1,h2,by dsimp only;lia⟩))
end
end L2.Ts
namespace L2.Ts
open PySem PyProof.Rows
section
variable{rk:Keyed->Nat}{na nb k:Nat}{prog:Program}{w:World}{A:Around}{E:Value->Shared->Prop}{s:Shared}{κ:SortKind}{M:Keyed->Prop}
abbrev HiC:=Option (Array Keyed)×Nat×Nat×Array Keyed×Nat×Nat×Nat
def r3(a b:Array Keyed)(out:Array Keyed)(na nb g ac bc:Nat):StateT SortSt Sem (ForInStep HiC):=do
 let x <-elem' a (na-1)
 if (na-1==0)=true then pure (.done (some (a.extract 0 (na-1)++b.extract 0 nb++(out.push x).reverse),na-1,nb,out.push x,g,ac,bc))
 else if (decide (ac<7)&&decide (bc<7))=true then pure (.done (none,na-1,nb,out.push x,g,ac,bc))
 else pure (.yield (none,na-1,nb,out.push x,g,ac,bc))
def r2(a b:Array Keyed)(out:Array Keyed)(na nb g ac bc0:Nat):StateT SortSt Sem (ForInStep HiC):=do
 let x <-elem' b (nb-1)
 if (nb-1==1)=true then pure (.done (some (b.extract 0 (nb-1)++a.extract 0 na++(out.push x).reverse),na,nb-1,out.push x,g,ac,bc0))
 else do
  let y <-elem' a (na-1)
  let r <-jM_ true y b 0 (nb-1) (nb-1-1)
  match r with
  |some p =>
   if nb-1-p>0 then
    if (p==1)=true then pure (.done (some (b.extract 0 p++a.extract 0 na++(out.push x++(b.extract p (nb-1)).reverse).reverse),na,p,out.push x++(b.extract p (nb-1)).reverse,g,ac,nb-1-p))
    else if (p==0)=true then pure (.done (some (a.extract 0 na++b.extract 0 p++(out.push x++(b.extract p (nb-1)).reverse).reverse),na,p,out.push x++(b.extract p (nb-1)).reverse,g,ac,nb-1-p))
    else r3 a b (out.push x++(b.extract p (nb-1)).reverse) na p g ac (nb-1-p)
   else r3 a b (out.push x) na (nb-1) g ac (nb-1-p)
  |_=>pure (.done (some (a.extract 0 na++b.extract 0 (nb-1)++(out.push x).reverse),na,nb-1,out.push x,g,ac,bc0))
def r1(a b:Array Keyed)(out:Array Keyed)(na nb g ac0 bc0:Nat):StateT SortSt Sem (ForInStep HiC):=do
 let y <-elem' b (nb-1)
 let r <-jM_ false y a 0 na (na-1)
 match r with
 |some p =>
  if na-p>0 then
   if (p==0)=true then pure (.done (some (a.extract 0 p++b.extract 0 nb++(out++(a.extract p na).reverse).reverse),p,nb,out++(a.extract p na).reverse,g,na-p,bc0))
   else r2 a b (out++(a.extract p na).reverse) p nb g (na-p) bc0
  else r2 a b out na nb g (na-p) bc0
 |_=>pure (.done (some (a.extract 0 na++b.extract 0 nb++out.reverse),na,nb,out,g,ac0,bc0))
variable{a b:Array Keyed}
theorem MPre.done2(m:MPre M rk a b){out:Array Keyed}(j:J2 rk a.toList b.toList out.toList.reverse na nb)(h:na=0∨nb=0):Good rk a.toList b.toList (a.extract 0 na++b.extract 0 nb++out.reverse).toList:=by
 rw[Am,Am,x6_,x6_,Bj]
 exact j.done m.sa m.sb h
theorem MPre.first2(m:MPre M rk a b){out:Array Keyed}(j:J2 rk a.toList b.toList out.toList.reverse na nb)(h:nb=1):Good rk a.toList b.toList (b.extract 0 nb++a.extract 0 na++out.reverse).toList:=by
 rw[Am,Am,x6_,x6_,Bj]
 refine j.first m.sa m.sb λy hy x hx=>?_
 obtain⟨p,p1,p2,p3⟩:=xs_ (rk:=rk) hy
 obtain⟨r,r1,r2,r3⟩:=zD_ (rk:=rk) (i:=0) (by rw[Bp];exact hx)
 have e:p=0:=by lia
 have:=m.fst
 have:=q9_ m.sa 0 r (AB _) (AU _) r2
 rw[e]at p3
 lia
theorem MPre.pushA2(m:MPre M rk a b){out:Array Keyed}{x:Keyed}(j:J2 rk a.toList b.toList out.toList.reverse na nb)(h1:0<na)(hx:a[na-1]?=some x)(h:∀i,i<nb->i<b.size->kv rk b i<=kv rk a (na-1)):J2 rk a.toList b.toList (out.push x).toList.reverse (na-1) nb:=by
 have e:na-1+1=na:=by lia
 rw[<-e]at j
 have q:=j.a (k:=1) m.sa (λz hz y hy=>by
  rw[zN_ hx]at hz
  rw[Ad.mp hz]
  obtain⟨r,r1,r2,r3⟩:=xs_ (rk:=rk) hy
  have:=h r r1 r2
  rw[qx_ hx]at this
  lia)
 rw[zN_ hx]at q
 rw[B7,CD]
 exact q
theorem MPre.pushB2(m:MPre M rk a b){out:Array Keyed}{x:Keyed}(j:J2 rk a.toList b.toList out.toList.reverse na nb)(h1:0<nb)(hx:b[nb-1]?=some x)(h:∀i,i<na->i<a.size->kv rk a i<=kv rk b (nb-1)):J2 rk a.toList b.toList (out.push x).toList.reverse na (nb-1):=by
 have e:nb-1+1=nb:=by lia
 rw[<-e]at j
 have q:=j.b (k:=1) m.sb (λz hz y hy=>by
  rw[zN_ hx]at hz
  rw[Ad.mp hz]
  obtain⟨r,r1,r2,r3⟩:=xs_ (rk:=rk) hy
  have:=h r r1 r2
  rw[qx_ hx]at this
  lia)
 rw[zN_ hx]at q
 rw[B7,CD]
 exact q
theorem MPre.appA2(m:MPre M rk a b){out:Array Keyed}{p:Nat}(j:J2 rk a.toList b.toList out.toList.reverse na nb)(hp:p<=na)(h:∀r,p<=r->r<na->∀i,i<nb->i<b.size->kv rk b i<=kv rk a r):J2 rk a.toList b.toList (out++(a.extract p na).reverse).toList.reverse p nb:=by
 have e:p+(na-p)=na:=by lia
 rw[<-e]at j
 have q:=j.a (k:=na-p) m.sa (λz hz y hy=>by
  obtain⟨r,r1,r2,r3,r4,_⟩:=zH_ (rk:=rk) hz
  obtain⟨i,i1,i2,i3⟩:=xs_ (rk:=rk) hy
  have:=h r r1 (by lia) i i1 i2
  lia)
 rw[Am,Bj,CD,B8,q3_]
 exact q
theorem MPre.appB2(m:MPre M rk a b){out:Array Keyed}{p:Nat}(j:J2 rk a.toList b.toList out.toList.reverse na nb)(hp:p<=nb)(h:∀r,p<=r->r<nb->∀i,i<na->i<a.size->kv rk a i<=kv rk b r):J2 rk a.toList b.toList (out++(b.extract p nb).reverse).toList.reverse na p:=by
 have e:p+(nb-p)=nb:=by lia
 rw[<-e]at j
 have q:=j.b (k:=nb-p) m.sb (λz hz y hy=>by
  obtain⟨r,r1,r2,r3,r4,_⟩:=zH_ (rk:=rk) hz
  obtain⟨i,i1,i2,i3⟩:=xs_ (rk:=rk) hy
  have:=h r r1 (by lia) i i1 i2
  lia)
 rw[Am,Bj,CD,B8,q3_]
 exact q
def HiR(rk:Keyed->Nat)(a b:Array Keyed)(p:Nat)(st:SortSt)(c:HiC)(st':SortSt):Prop:=Gs st st' /\
 ((∃r,c.1=some r/\Good rk a.toList b.toList r.toList)∨(c.1=none/\J2 rk a.toList b.toList c.2.2.2.1.toList.reverse c.2.1 c.2.2.1/\1<=c.2.1/\2<=c.2.2.1/\p+c.2.1+c.2.2.1<=a.size+b.size))
theorem J2.za(j:J2 rk a.toList b.toList o na nb):na<=a.size:=by have:=j.ha;rwa [AJ]at this
theorem J2.zb(j:J2 rk a.toList b.toList o na nb):nb<=b.size:=by have:=j.hb;rwa [AJ]at this
theorem af0_(m:MPre M rk a b){out:Array Keyed}{g ac bc p:Nat}{st st':SortSt}{R:ForInStep HiC->SortSt->Prop}(gs:Gs st st')(j:J2 rk a.toList b.toList out.toList.reverse na nb)(h1:1<=na)(h2:2<=nb)(hp:p+na+nb<=a.size+b.size)
  (h:∀i,i<nb->i<b.size->kv rk b i<=kv rk a (na-1)) (d:∀c,HiR rk a b p st c st'->R (.done c) st') (y:∀c,c.1=none->HiR rk a b p st c st'->R (.yield c) st'):wpS (model prog w) A E s (r3 a b out na nb g ac bc) R st':=by
 have z:=j.za
 have ea:a[na-1]?=some a[na-1]:=AC (by lia)
 refine wpS_bind (qC_ ea ?_)
 have j':=m.pushA2 j h1 ea h
 by_cases c:na-1=0
 ·rw[if_pos (by simpa using c)]
  exact wpS_pure (d _ ⟨gs,.inl ⟨_,rfl,m.done2 j' (.inl c)⟩⟩)
 ·rw[if_neg (by simpa using c)]
  have on:HiR rk a b p st (none,na-1,nb,out.push a[na-1],g,ac,bc) st':=⟨gs,.inr ⟨rfl,j',(by show 1<=na-1;lia),h2,(by show p+(na-1)+nb<=a.size+b.size;lia)⟩⟩
  split
  ·exact wpS_pure (d _ on)
  ·exact wpS_pure (y _ rfl on)
theorem afw_(hA:Ask prog w A s κ M rk)(m:MPre M rk a b){out:Array Keyed}{g ac bc p:Nat}{st st':SortSt}{R:ForInStep HiC->SortSt->Prop}(hk:kindOf st=κ)(gs:Gs st st')(j:J2 rk a.toList b.toList out.toList.reverse na nb)(h1:1<=na)(h2:2<=nb)(hp:p+na+nb<=a.size+b.size)
  (h:∀i,i<na->i<a.size->kv rk a i<=kv rk b (nb-1)) (d:∀c,HiR rk a b p st c st'->R (.done c) st') (y:∀c,c.1=none->HiR rk a b p st c st'->R (.yield c) st'):wpS (model prog w) A E s (r2 a b out na nb g ac bc) R st':=by
 have z:=j.za
 have z2:=j.zb
 have ea:a[na-1]?=some a[na-1]:=AC (by lia)
 have eb:b[nb-1]?=some b[nb-1]:=AC (by lia)
 refine wpS_bind (qC_ eb ?_)
 have j':=m.pushB2 j (by lia) eb h
 by_cases c:nb-1=1
 ·rw[if_pos (by simpa using c)]
  exact wpS_pure (d _ ⟨gs,.inl ⟨_,rfl,m.first2 j' c⟩⟩)
 ·rw[if_neg (by simpa using c)]
  refine wpS_bind (qC_ ea (wpS_bind (zP_ hA (gs.kind.trans hk) (m.ma _ _ ea) m.mb (by lia) (by lia) (λi k a1 a2 a3=>q9_ m.sb i k (AU _) a2 (by lia)) λr k1 k2 k3=>?_)))
  have sA:=q9_ m.sa
  have lt:∀i,i<r->kv rk b i<kv rk a (na-1):=λi i2=>by
   have:=k2 i (AU _) (by lia)
   unfold Bd at this
   rw[if_pos rfl,<-qx_ (rk:=rk) ea]at this
   exact this
  have ge:∀i,r<=i->i<nb-1->kv rk a (na-1)<=kv rk b i:=λi i1 i2=>by
   have:=k3 i (by lia) (by lia)
   unfold Bd at this
   rw[if_pos rfl,<-qx_ (rk:=rk) ea]at this
   lia
  dsimp only
  by_cases k0:nb-1-r>0
  ·rw[if_pos k0]
   have j2:=m.appB2 (p:=r) j' (by lia) (λq q1 q2 i i1 i2=>by
    have e1:=ge q q1 q2
    have e2:=sA i (na-1) (AU _) (by lia) (by lia)
    lia)
   by_cases c2:r=1
   ·rw[if_pos (by simpa using c2)]
    exact wpS_pure (d _ ⟨gs,.inl ⟨_,rfl,m.first2 j2 c2⟩⟩)
   rw[if_neg (by simpa using c2)]
   by_cases c3:r=0
   ·rw[if_pos (by simpa using c3)]
    exact wpS_pure (d _ ⟨gs,.inl ⟨_,rfl,m.done2 j2 (.inr c3)⟩⟩)
   ·rw[if_neg (by simpa using c3)]
    exact af0_ m gs j2 h1 (by lia) (by lia) (λi i1 i2=>BE (lt i i1)) d y
  ·rw[if_neg k0]
   exact af0_ m gs j' h1 (by lia) (by lia) (λi i1 i2=>BE (lt i (by lia))) d y
theorem afp_(hA:Ask prog w A s κ M rk)(m:MPre M rk a b){out:Array Keyed}{g ac bc p:Nat}{st st':SortSt}{R:ForInStep HiC->SortSt->Prop}(hk:kindOf st=κ)(gs:Gs st st')(j:J2 rk a.toList b.toList out.toList.reverse na nb)(h1:1<=na)(h2:2<=nb)(hp:p+na+nb<=a.size+b.size)
  (d:∀c,HiR rk a b p st c st'->R (.done c) st') (y:∀c,c.1=none->HiR rk a b p st c st'->R (.yield c) st'):wpS (model prog w) A E s (r1 a b out na nb g ac bc) R st':=by
 have z:=j.za
 have z2:=j.zb
 have eb:b[nb-1]?=some b[nb-1]:=AC (by lia)
 refine wpS_bind (qC_ eb (wpS_bind (zP_ hA (gs.kind.trans hk) (m.mb _ _ eb) m.ma (by lia) (by lia) (λi k a1 a2 a3=>q9_ m.sa i k (AU _) a2 (by lia)) λr k1 k2 k3=>?_)))
 have sB:=q9_ m.sb
 have le:∀i,i<r->kv rk a i<=kv rk b (nb-1):=λi i2=>by
  have:=k2 i (AU _) (by lia)
  unfold Bd at this
  rw[if_neg (by decide),<-qx_ (rk:=rk) eb]at this
  exact this
 have gt:∀i,r<=i->i<na->kv rk b (nb-1)<=kv rk a i:=λi i1 i2=>by
  have:=k3 i (by lia) (by lia)
  unfold Bd at this
  rw[if_neg (by decide),<-qx_ (rk:=rk) eb]at this
  lia
 dsimp only
 by_cases k0:na-r>0
 ·rw[if_pos k0]
  have j2:=m.appA2 (p:=r) j (by lia) (λq q1 q2 i i1 i2=>by
   have e1:=gt q q1 q2
   have e2:=sB i (nb-1) (AU _) (by lia) (by lia)
   lia)
  by_cases c:r=0
  ·rw[if_pos (by simpa using c)]
   exact wpS_pure (d _ ⟨gs,.inl ⟨_,rfl,m.done2 j2 (.inl c)⟩⟩)
  ·rw[if_neg (by simpa using c)]
   exact afw_ hA m hk gs j2 (by lia) h2 (by lia) (λi i1 i2=>le i i1) d y
 ·rw[if_neg k0]
  exact afw_ hA m hk gs j h1 h2 hp (λi i1 i2=>le i (by lia)) d y
theorem ajt_(hA:Ask prog w A s κ M rk){st:SortSt}{Q:Array Keyed->SortSt->Prop}(hk:kindOf st=κ)(m:MPre M rk a b)
  (q:∀r st',Gs st st'->Good rk a.toList b.toList r.toList->Q r st'):wpS (model prog w) A E s (afd_ a b) Q st:=by
 refine wpS_bind (wpS_lift (wpAny_rule ⟨rfl,?_⟩))
 have za:=m.za
 have zb:=m.zb
 have ea0:a[a.size-1]?=some a[a.size-1]:=AC (by lia)
 have sA:=q9_ m.sa
 have sB:=q9_ m.sb
 have j0:J2 rk a.toList b.toList (#[]:Array Keyed).toList.reverse a.size b.size:=⟨by rw[AJ];exact AB _,by rw[AJ];exact AB _,by simp [BB],List.Pairwise.nil,λx hx y hy=>by simp at hy,λx hx y hy=>by simp at hy⟩
 have j1:J2 rk a.toList b.toList (#[a[a.size-1]]:Array Keyed).toList.reverse (a.size-1) b.size:=m.pushA2 j0 za ea0 λi i1 i2=>BE (m.lst i i2)
 refine wpS_bind (qC_ ea0 ?_)
 by_cases c1:a.size-1=0
 ·rw[if_pos (by simpa using c1)]
  exact wpS_pure (q _ st (Gs.refl _) (m.done2 j1 (.inl c1)))
 rw[if_neg (by simpa using c1)]
 by_cases c2:b.size=1
 ·rw[if_pos (by simpa using c2)]
  exact wpS_pure (q _ st (Gs.refl _) (m.first2 j1 c2))
 rw[if_neg (by simpa using c2)]
 refine wpS_bind (wpS_get ?_)
 refine wpS_bind (wpS_mono (wpS_forRange (I:=λx c st'=>Gs st st'/\c.1=none/\J2 rk a.toList b.toList c.2.2.2.1.toList.reverse c.2.1 c.2.2.1/\1<=c.2.1/\2<=c.2.2.1/\x+1+c.2.1+c.2.2.1<=a.size+b.size)
  (Q:=λc st'=>Gs st st'/\∃r,c.1=some r/\Good rk a.toList b.toList r.toList) ?step ?fin ⟨Gs.refl _,rfl,j1,by show 1<=a.size-1;lia,by show 2<=b.size;lia,by show 0+1+(a.size-1)+b.size<=a.size+b.size;lia⟩) ?post)
 case post =>
  rintro⟨c,zn_⟩ st' ⟨gs,r,e,g⟩
  have e':c=some r:=e
  subst e'
  exact wpS_pure (q r st' gs g)
 case fin =>
  rintro⟨c,na,nb,out,g⟩ st' ⟨gs,e,j,h1,h2,h3⟩
  exfalso
  dsimp only at h1 h2 h3
  lia
 case step =>
  rintro x ⟨c,na,nb,out,g⟩ st' _ hx ⟨gs,e,j,h1,h2,h3⟩
  dsimp only at e j h1 h2 h3
  subst e
  refine wpS_bind (wpS_mono (wpS_forRange (I:=λy c st''=>st''=st'/\c.1=none/\J2 rk a.toList b.toList c.2.2.2.1.toList.reverse c.2.1 c.2.2.1/\1<=c.2.1/\2<=c.2.2.1/\x+1+min y 1+c.2.1+c.2.2.1<=a.size+b.size)
   (Q:=λc st''=>st''=st'/\((∃r,c.1=some r/\Good rk a.toList b.toList r.toList)∨(c.1=none/\J2 rk a.toList b.toList c.2.2.2.1.toList.reverse c.2.1 c.2.2.1/\1<=c.2.1/\2<=c.2.2.1/\x+2+c.2.1+c.2.2.1<=a.size+b.size))) ?step1 ?fin1 ⟨rfl,rfl,j,h1,h2,by show x+1+min 0 1+na+nb<=a.size+b.size;lia⟩) ?post1)
  case fin1 =>
   rintro⟨c,na,nb,out,ac,bc⟩ st'' ⟨e1,e,j,h1,h2,h3⟩
   refine⟨e1,.inr ⟨e,j,h1,h2,?_⟩⟩
   dsimp only at h3 ⊢
   lia
  case step1 =>
   rintro y ⟨c,na,nb,out,ac,bc⟩ st'' _ hy ⟨e1,e,j,h1,h2,h3⟩
   subst e1
   dsimp only at e j h1 h2 h3
   subst e
   have z:=j.za
   have z2:=j.zb
   have eb:b[nb-1]?=some b[nb-1]:=AC (by lia)
   have ea:a[na-1]?=some a[na-1]:=AC (by lia)
   refine wpS_bind (qC_ eb (wpS_bind (qC_ ea (wpS_bind (xf_ hA (gs.kind.trans hk) (m.mb _ _ eb) (m.ma _ _ ea) ?_)))))
   by_cases c:rk b[nb-1]<rk a[na-1]
   ·rw[decide_eq_true c]
    dsimp only
    rw[if_pos rfl]
    refine wpS_bind (qC_ ea ?_)
    have j':=m.pushA2 j h1 ea λi i1 i2=>by
     have q1:=sB i (nb-1) (AU _) (by lia) (by lia)
     rw[qx_ eb]at q1
     rw[qx_ ea]
     lia
    by_cases c3:na-1=0
    ·rw[if_pos (by simpa using c3)]
     exact wpS_pure ⟨rfl,.inl ⟨_,rfl,m.done2 j' (.inl c3)⟩⟩
    rw[if_neg (by simpa using c3)]
    split
    ·exact wpS_pure ⟨rfl,.inr ⟨rfl,j',by dsimp only;lia,h2,by dsimp only;lia⟩⟩
    ·exact wpS_pure ⟨rfl,rfl,j',by dsimp only;lia,h2,by dsimp only;lia⟩
   ·rw[decide_eq_false c]
    dsimp only
    rw[if_neg (by decide)]
    refine wpS_bind (qC_ eb ?_)
    have j':=m.pushB2 j (by lia) eb λi i1 i2=>by
     have q1:=sA i (na-1) (AU _) (by lia) (by lia)
     rw[qx_ ea]at q1
     rw[qx_ eb]
     lia
    by_cases c3:nb-1=1
    ·rw[if_pos (by simpa using c3)]
     exact wpS_pure ⟨rfl,.inl ⟨_,rfl,m.first2 j' c3⟩⟩
    rw[if_neg (by simpa using c3)]
    split
    ·exact wpS_pure ⟨rfl,.inr ⟨rfl,j',h1,by dsimp only;lia,by dsimp only;lia⟩⟩
    ·exact wpS_pure ⟨rfl,rfl,j',h1,by dsimp only;lia,by dsimp only;lia⟩
  case post1 =>
   rintro⟨c,na,nb,out,ac,bc⟩ st'' ⟨e1,h⟩
   subst e1
   rcases h with⟨r,e,g1⟩|⟨e,j,h1,h2,h3⟩
   ·have e':c=some r:=e
    subst e'
    exact wpS_pure ⟨gs,r,rfl,g1⟩
   ·dsimp only at e j h1 h2 h3
    subst e
    refine wpS_bind (wpS_lift (wpAny_rule ⟨rfl,?_⟩))
    refine wpS_bind (wpS_mono (wpS_forRange (I:=λ_ c st3=>c.1=none/\HiR rk a b (x+2) st c st3) (Q:=λc st3=>HiR rk a b (x+2) st c st3) ?step2 ?fin2 ⟨rfl,gs,.inr ⟨rfl,j,h1,h2,h3⟩⟩) ?post2)
    case fin2 =>
     rintro c st3 ⟨_,hc⟩
     exact hc
    case step2 =>
     rintro y ⟨c,na,nb,out,g2,ac,bc⟩ st3 _ hy ⟨e,gs3,hc⟩
     have e':c=none:=e
     subst e'
     rcases hc with⟨r,er,_⟩|⟨_,j,h1,h2,h3⟩
     ·cases er
     dsimp only at j h1 h2 h3
     refine xH_ (λ_=>?_) (λ_=>?_)
     ·refine wpS_bind (wpS_modify ?_)
      exact afp_ hA m hk (gs3.trans (jO_ st3 (g2-1))) j h1 h2 h3 (λc hc=>hc) (λc e hc=>⟨e,hc⟩)
     ·refine wpS_bind (wpS_modify ?_)
      exact afp_ hA m hk (gs3.trans (jO_ st3 g2)) j h1 h2 h3 (λc hc=>hc) (λc e hc=>⟨e,hc⟩)
    case post2 =>
     rintro⟨c,na,nb,out,g2,ac,bc⟩ st3 ⟨gs3,hc⟩
     rcases hc with⟨r,er,g3⟩|⟨er,j,h1,h2,h3⟩
     ·have e':c=some r:=er
      subst e'
      exact wpS_pure ⟨gs3,r,rfl,g3⟩
     ·have e':c=none:=er
      subst e'
      dsimp only at j h1 h2 h3 ⊢
      refine wpS_bind (wpS_modify (wpS_pure ⟨gs3.trans (jO_ st3 (g2+1)),rfl,j,h1,h2,by dsimp only;lia⟩))
end
end L2.Ts
namespace L2.Ts
open PySem PyProof.Rows
abbrev Run:=Nat×Nat×Nat
theorem ac6_{α:Type}{L R:List α}{x y z:α}{p:Array α}(hp:p.toList=L++x::y::R):((p.setIfInBounds L.length z).eraseIdxIfInBounds (L.length+1)).toList=L++z::R:=by
 have hz:p.size=L.length+2+R.length:=by rw[<-AJ,hp];simp;lia
 rw[Array.eraseIdxIfInBounds]
 rw[dif_pos (by rw[CL];lia),Array.toList_eraseIdx,Array.toList_setIfInBounds,hp]
 rw[Do _ _ (AB _),DJ,List.set_cons_zero,List.eraseIdx_append_of_length_le (by lia),show L.length+1-L.length=1 by lia]
 rfl
theorem vg_(o:Nat):∀(l:List Keyed)(n:Nat)(xs:Array Keyed),o+n+l.length<=xs.size->∀k:Nat,
  ((l.zipIdx n).foldl (λa (x:Keyed×Nat)=>a.setIfInBounds (o+x.2) x.1) xs)[k]?=if o+n<=k/\k<o+n+l.length then l[k-(o+n)]? else xs[k]?
 |[],n,xs,_,k=>by
  rw[if_neg (by simp)];rfl
 |x::l,n,xs,h,k=>by
  rw[AN]at h
  rw[DK,CJ,vg_ o l (n+1) _ (by rw[CL];lia) k,AN]
  by_cases c:o+(n+1)<=k/\k<o+(n+1)+l.length
  ·rw[if_pos c,if_pos (by lia),show k-(o+n)=(k-(o+(n+1)))+1 by lia,List.getElem?_cons_succ]
  ·rw[if_neg c]
   by_cases c2:k=o+n
   ·subst c2
    rw[if_pos (by lia),DJ,List.getElem?_cons_zero,Array.getElem?_setIfInBounds_self_of_lt (by lia)]
   ·rw[if_neg (by lia),Cb (by lia)]
theorem x5_{rk:Keyed->Nat}{xs:Array Keyed}{i j m:Nat}(h:i+m<j):kv rk (xs.extract i j) m=kv rk xs (i+m):=by
 refine q6_ ?_
 rw[Dh]
 by_cases c:m<min j xs.size-i
 ·rw[if_pos c]
 ·rw[if_neg c,Bb (by lia)]
theorem agd_{σ:Type}{M:Model}{A:Around}{E:Value->Shared->Prop}{s:Shared}{x:σ}{Q:PUnit->σ->Prop}{st:σ}(h:Q ⟨⟩ x):wpS M A E s (set x:StateT σ Sem PUnit) Q st:=by
 unfold wpS
 rw[StateT.run_set]
 exact wpAny_pure ⟨rfl,h⟩
section
variable{rk:Keyed->Nat}{prog:Program}{w:World}{A:Around}{E:Value->Shared->Prop}{s:Shared}{κ:SortKind}{M:Keyed->Prop}
theorem aj5_(h:Ask prog w A s κ M rk){st:SortSt}{Q:Bool->SortSt->Prop}(hk:kindOf st=κ)(ha:All M (arrOf st))(hf:failedOf st=none){L R:List Run}{sa na pa sb nb pb:Nat}(hp:(pendingOf st).toList=L++(sa,na,pa)::(sb,nb,pb)::R)
  (e:sb=sa+na) (h1:1<=na) (h2:1<=nb) (hz:sb+nb<=(arrOf st).size) (s1:Srt rk (arrOf st) sa (sa+na)) (s2:Srt rk (arrOf st) sb (sb+nb))
  (q:∀st',kindOf st'=κ->failedOf st'=none->(pendingOf st').toList=L++(sa,na+nb,pa)::R->(arrOf st').Perm (arrOf st)->(∀k:Nat,k<sa∨sa+na+nb<=k->(arrOf st')[k]?=(arrOf st)[k]?)->Srt rk (arrOf st') sa (sa+(na+nb))->Q true st') :
  wpS (model prog w) A E s (mergeAt' L.length) Q st:=by
 subst e
 have g0:(pendingOf st)[L.length]?=some (sa,na,pa):=by rw[<-Aj,hp];simp
 have g1:(pendingOf st)[L.length+1]?=some (sa+na,nb,pb):=by rw[<-Aj,hp];simp
 have er:=ac6_ (z:=(sa,na+nb,pa)) hp
 refine wpS_bind (wpS_get ?_)
 rw[g0,g1]
 dsimp only
 refine wpS_bind (agd_ ?_)
 have eb:(arrOf st)[sa+na]?=some (arrOf st)[sa+na]:=AC (by lia)
 refine wpS_bind (qC_ eb (wpS_bind (zP_ h (arr:=arrOf st) (st:=SortSt.mk' (kindOf st) (arrOf st) _ (gallopOf st) (failedOf st)) hk (ha _ _ eb) ha (by lia) (by lia) s1 λk k1 k2 k3=>?_)))
 have a1:∀i,sa<=i->i<sa+k->kv rk (arrOf st) i<=kv rk (arrOf st) (sa+na):=λi i1 i2=>by
  have:=k2 i i1 i2
  unfold Bd at this
  rw[if_neg (by decide),<-qx_ (rk:=rk) eb]at this
  exact this
 have a2:∀i,sa+k<=i->i<sa+na->kv rk (arrOf st) (sa+na)<kv rk (arrOf st) i:=λi i1 i2=>by
  have:=k3 i i1 (by lia)
  unfold Bd at this
  rw[if_neg (by decide),<-qx_ (rk:=rk) eb]at this
  lia
 dsimp only
 by_cases c1:na-k=0
 ·rw[if_pos (by simpa using c1)]
  refine wpS_pure (q _ hk hf er (Array.Perm.refl _) (λ_ _=>rfl) λi j i1 ij j1=>?_)
  show kv rk (arrOf st) i<=kv rk (arrOf st) j
  by_cases cj:j<sa+na
  ·exact s1 i j i1 ij cj
  ·by_cases ci:i<sa+na
   ·have b1:=a1 i i1 (by lia)
    have b2:=s2 (sa+na) j (AB _) (by lia) (by lia)
    lia
   ·exact s2 i j (by lia) ij (by lia)
 rw[if_neg (by simpa using c1)]
 have el:(arrOf st)[sa+k+(na-k)-1]?=some (arrOf st)[sa+k+(na-k)-1]:=AC (by lia)
 refine wpS_bind (qC_ el (wpS_bind (zP_ h (arr:=arrOf st) (st:=SortSt.mk' (kindOf st) (arrOf st) _ (gallopOf st) (failedOf st)) hk (ha _ _ el) ha (by lia) (by lia) s2 λn n1 n2 n3=>?_)))
 have b1:∀i,sa+na<=i->i<sa+na+n->kv rk (arrOf st) i<kv rk (arrOf st) (sa+na-1):=λi i1 i2=>by
  have:=n2 i i1 i2
  unfold Bd at this
  rw[if_pos rfl,<-qx_ (rk:=rk) el,show sa+k+(na-k)-1=sa+na-1 by lia]at this
  exact this
 have b2:∀i,sa+na+n<=i->i<sa+na+nb->kv rk (arrOf st) (sa+na-1)<=kv rk (arrOf st) i:=λi i1 i2=>by
  have:=n3 i i1 i2
  unfold Bd at this
  rw[if_pos rfl,<-qx_ (rk:=rk) el,show sa+k+(na-k)-1=sa+na-1 by lia]at this
  lia
 dsimp only
 by_cases c2:n=0
 ·exfalso
  have d1:=a2 (sa+na-1) (by lia) (by lia)
  have d2:=b2 (sa+na) (by lia) (by lia)
  lia
 rw[if_neg (by simpa using c2)]
 have mp:MPre M rk ((arrOf st).extract (sa+k) (sa+na)) ((arrOf st).extract (sa+na) (sa+na+n)):=by
  have zx:((arrOf st).extract (sa+k) (sa+na)).size=na-k:=by rw[C4];lia
  have zy:((arrOf st).extract (sa+na) (sa+na+n)).size=n:=by rw[C4];lia
  have sub:∀i j,All M ((arrOf st).extract i j):=λi j m x hx=>by
   rw[Dh]at hx
   split at hx
   ·exact ha _ _ hx
   ·cases hx
  refine⟨sub _ _,sub _ _,?_,?_,by lia,by lia,?_,λi hi=>?_⟩
  ·rw[q3_,show sa+na-(sa+k)=na-k by lia]
   exact ab3_ (λi j i1 ij j1=>s1 i j (by lia) ij (by lia)) (by lia)
  ·rw[q3_,show sa+na+n-(sa+na)=n by lia]
   exact ab3_ (λi j i1 ij j1=>s2 i j i1 ij (by lia)) (by lia)
  ·rw[x5_ (by lia),x5_ (by lia)]
   exact a2 _ (by lia) (by lia)
  ·rw[zx,x5_ (by lia),x5_ (by lia),show sa+k+(na-k-1)=sa+na-1 by lia]
   exact b1 _ (by lia) (by lia)
 have fin:∀(r:Array Keyed)(st2:SortSt),Gs (SortSt.mk' (kindOf st) (arrOf st) (((pendingOf st).setIfInBounds L.length (sa,na+nb,pa)).eraseIdxIfInBounds (L.length+1)) (gallopOf st) (failedOf st)) st2 ->
   Good rk ((arrOf st).extract (sa+k) (sa+na)).toList ((arrOf st).extract (sa+na) (sa+na+n)).toList r.toList ->
   Q true (SortSt.mk' (kindOf st2) (r.toList.zipIdx.foldl (λa (x:Keyed×Nat)=>a.setIfInBounds (sa+k+x.2) x.1) (arrOf st2)) (pendingOf st2) (gallopOf st2) (failedOf st2))/\failedOf st2=none:=by
  intro r st2 gs gd
  have e1:arrOf st2=arrOf st:=gs.arr
  have e2:failedOf st2=none:=gs.failed.trans hf
  refine⟨?_,e2⟩
  rw[e1]
  have lr:r.toList.length=(na-k)+n:=by
   have:=gd.1.length_eq
   simp only[AQ,AJ,C4]at this
   rw[AJ]
   lia
  have wr:=vg_ (sa+k) r.toList 0 (arrOf st) (by lia)
  generalize hxs:r.toList.zipIdx.foldl (λa (x:Keyed×Nat)=>a.setIfInBounds (sa+k+x.2) x.1) (arrOf st)=xs' at wr ⊢
  have zs:xs'.size=(arrOf st).size:=by
   have key:∀(l:List (Keyed×Nat))(ys:Array Keyed),(l.foldl (λa (x:Keyed×Nat)=>a.setIfInBounds (sa+k+x.2) x.1) ys).size=ys.size:=by
    intro l
    induction l with
    |nil=>intro ys;rfl
    |cons z l ih=>intro ys;rw[CJ,ih,CL]
   rw[<-hxs]
   exact key _ _
  have whole:xs'.toList=(arrOf st).toList.take (sa+k)++r.toList++(arrOf st).toList.drop (sa+na+n):=by
   refine List.ext_getElem? λi=>?_
   rw[Aj,wr i]
   have lt:((arrOf st).toList.take (sa+k)).length=sa+k:=by rw[As,AJ];lia
   by_cases c:i<sa+k
   ·rw[if_neg (by lia),AR,CH (by lia),DH c,Aj]
   ·by_cases c':i<sa+na+n
    ·rw[if_pos (by lia),CH (by rw[AQ,lt];lia),B9 (by lia),lt]
     rfl
    ·rw[if_neg (by lia),B9 (by rw[AQ,lt];lia),AQ,lt,List.getElem?_drop,Aj]
     congr 1
     lia
  have old:(arrOf st).toList=(arrOf st).toList.take (sa+k)++(((arrOf st).extract (sa+k) (sa+na)).toList++((arrOf st).extract (sa+na) (sa+na+n)).toList)++(arrOf st).toList.drop (sa+na+n):=by
   have f1:(arrOf st).toList=(arrOf st).toList.take (sa+k)++(arrOf st).toList.drop (sa+k):=(Ax _ _).symm
   have f2:=zo_ (arrOf st).toList (sa+k) (na-k)
   have f3:=zo_ (arrOf st).toList (sa+na) n
   rw[show sa+k+(na-k)=sa+na by lia]at f2
   rw[q3_,q3_,show sa+na-(sa+k)=na-k by lia,show sa+na+n-(sa+na)=n by lia]
   rw[AR,AR,<-f3,<-f2]
   exact f1
  have pm:xs'.Perm (arrOf st):=by
   refine C9.mpr ?_
   rw[whole]
   refine List.Perm.trans ?_ (List.Perm.of_eq old.symm)
   exact At _ (BF _ gd.1)
  have kvw:∀i,kv rk xs' i=if sa+k<=i/\i<sa+na+n then kv rk r (i-(sa+k)) else kv rk (arrOf st) i:=λi=>by
   have q1:=wr i
   by_cases c:sa+k<=i/\i<sa+na+n
   ·rw[if_pos c]
    rw[if_pos (by lia)]at q1
    exact q6_ (by rw[q1,Aj];rfl)
   ·rw[if_neg c]
    rw[if_neg (by lia)]at q1
    exact q6_ q1
  have src:∀m,m<(na-k)+n->∃j,sa+k<=j/\j<sa+na+n/\kv rk r m=kv rk (arrOf st) j:=λm hm=>by
   have hm':m<r.size:=by rw[<-AJ];lia
   have em:r[m]?=some r[m]:=AC hm'
   have mem:r[m]∈r.toList:=by simp
   rcases Aa.mp (gd.1.mem_iff.mp mem) with hm1|hm1
   ·rw[q3_]at hm1
    obtain⟨j,j1,j2,j3,j4,_⟩:=zH_ (rk:=rk) hm1
    exact⟨j,j1,by lia,by rw[qx_ em,j4]⟩
   ·rw[q3_]at hm1
    obtain⟨j,j1,j2,j3,j4,_⟩:=zH_ (rk:=rk) hm1
    exact⟨j,by lia,by lia,by rw[qx_ em,j4]⟩
  have sr:=q9_ gd.2
  refine q _ (gs.kind.trans hk) e2 ((congrArg Array.toList gs.pend).trans er) pm (λi hi=>?_) λi j i1 ij j1=>?_
  ·have q1:=wr i
   rw[if_neg (by lia)]at q1
   exact q1
  ·show kv rk xs' i<=kv rk xs' j
   have left:∀z y,sa<=z->z<sa+k->sa+k<=y->y<sa+na+nb->kv rk (arrOf st) z<=kv rk (arrOf st) y:=λz y z1 z2 y1 y2=>by
    by_cases c:y<sa+na
    ·exact s1 z y z1 (by lia) c
    ·have d1:=a1 z z1 z2
     have d2:=s2 (sa+na) y (AB _) (by lia) y2
     lia
   have right:∀z y,sa+k<=z->z<sa+na+n->sa+na+n<=y->y<sa+na+nb->kv rk (arrOf st) z<=kv rk (arrOf st) y:=λz y z1 z2 y1 y2=>by
    by_cases c:z<sa+na
    ·have d1:=s1 z (sa+na-1) (by lia) (by lia) (by lia)
     have d2:=b2 y y1 y2
     lia
    ·exact s2 z y (by lia) (by lia) y2
   rw[kvw i,kvw j]
   by_cases ci:sa+k<=i/\i<sa+na+n
   ·rw[if_pos ci]
    by_cases cj:sa+k<=j/\j<sa+na+n
    ·rw[if_pos cj]
     exact sr _ _ (AU _) (by lia) (by rw[<-AJ];lia)
    ·rw[if_neg cj]
     obtain⟨z,z1,z2,z3⟩:=src (i-(sa+k)) (by lia)
     rw[z3]
     exact right z j z1 z2 (by lia) (by lia)
   ·rw[if_neg ci]
    by_cases cj:sa+k<=j/\j<sa+na+n
    ·rw[if_pos cj]
     obtain⟨z,z1,z2,z3⟩:=src (j-(sa+k)) (by lia)
     rw[z3]
     exact left i z i1 (by lia) z1 (by lia)
    ·rw[if_neg cj]
     by_cases c5:i<sa+k
     ·by_cases c6:j<sa+k
      ·exact s1 i j i1 ij (by lia)
      ·exact left i j i1 c5 (by lia) (by lia)
     ·exact s2 i j (by lia) ij (by lia)
 have go:∀(r:Array Keyed)(st2:SortSt),Gs (SortSt.mk' (kindOf st) (arrOf st) (((pendingOf st).setIfInBounds L.length (sa,na+nb,pa)).eraseIdxIfInBounds (L.length+1)) (gallopOf st) (failedOf st)) st2 ->
   Good rk ((arrOf st).extract (sa+k) (sa+na)).toList ((arrOf st).extract (sa+na) (sa+na+n)).toList r.toList ->
   wpS (model prog w) A E s (do
    modify λt=>SortSt.mk' (kindOf t) (r.toList.zipIdx.foldl (λa (x:Keyed×Nat)=>a.setIfInBounds (sa+k+x.2) x.1) (arrOf t)) (pendingOf t) (gallopOf t) (failedOf t)
    let t <-get
    pure (failedOf t).isNone) Q st2:=by
  intro r st2 gs gd
  obtain⟨f1,f2⟩:=fin r st2 gs gd
  refine wpS_bind (wpS_modify (wpS_bind (wpS_get (wpS_pure ?_))))
  have e3:(failedOf st2).isNone=true:=by rw[f2];rfl
  show Q (failedOf st2).isNone _
  rw[e3]
  exact f1
 refine xH_ (λ_=>?_) (λ_=>?_)
 ·exact wpS_bind (ajr_ h hk mp λr st2 gs gd=>go r st2 gs gd)
 ·exact wpS_bind (ajt_ h hk mp λr st2 gs gd=>go r st2 gs gd)
def Runs(rk:Keyed->Nat)(xs:Array Keyed):List Run->Nat->Nat->Prop
 |[],a,e=>a=e
 |r::l,a,e=>r.1=a/\1<=r.2.1/\Srt rk xs a (a+r.2.1)/\Runs rk xs l (a+r.2.1) e
theorem Runs.le{xs:Array Keyed}:∀{l:List Run}{a e:Nat},Runs rk xs l a e->a+l.length<=e
 |[],a,e,h=>by have:a=e:=h;simp;lia
 |r::l,a,e,⟨h1,h2,h3,h4⟩=>by
  have:=Runs.le h4
  rw[AN]
  lia
theorem Runs.app{xs:Array Keyed}:∀{l m:List Run}{a e:Nat},Runs rk xs (l++m) a e->∃z,Runs rk xs l a z/\Runs rk xs m z e
 |[],m,a,e,h=>⟨a,rfl,h⟩
 |r::l,m,a,e,⟨h1,h2,h3,h4⟩=>by
  obtain⟨z,z1,z2⟩:=Runs.app h4
  exact⟨z,⟨h1,h2,h3,z1⟩,z2⟩
theorem Runs.join{xs:Array Keyed}:∀{l m:List Run}{a z e:Nat},Runs rk xs l a z->Runs rk xs m z e->Runs rk xs (l++m) a e
 |[],m,a,z,e,h,q=>by have:a=z:=h;subst this;exact q
 |r::l,m,a,z,e,⟨h1,h2,h3,h4⟩,q=>⟨h1,h2,h3,Runs.join h4 q⟩
theorem Runs.same{xs ys:Array Keyed}:∀{l:List Run}{a e:Nat},Runs rk xs l a e->(∀k,a<=k->k<e->kv rk ys k=kv rk xs k)->Runs rk ys l a e
 |[],a,e,h,_=>h
 |r::l,a,e,⟨h1,h2,h3,h4⟩,q=>by
  have le:=Runs.le h4
  refine⟨h1,h2,λi j i1 ij j1=>?_,Runs.same h4 λk k1 k2=>q k (by lia) k2⟩
  rw[q i i1 (by lia),q j (by lia) (by lia)]
  exact h3 i j i1 ij j1
theorem Runs.modify{xs:Array Keyed}{f:Run->Run}(hf:∀r,(f r).1=r.1/\(f r).2.1=r.2.1):∀{l:List Run}{a e:Nat},Runs rk xs l a e->∀i,Runs rk xs (l.modify i f) a e
 |[],a,e,h,i=>by cases i<;>exact h
 |r::l,a,e,⟨h1,h2,h3,h4⟩,0=>by
  obtain⟨f1,f2⟩:=hf r
  show Runs rk xs (f r::l) a e
  exact⟨f1.trans h1,by lia,by rw[f2];exact h3,by rw[f2];exact h4⟩
 |r::l,a,e,⟨h1,h2,h3,h4⟩,i+1=>⟨h1,h2,h3,Runs.modify hf h4 i⟩
structure Tb(rk:Keyed->Nat)(κ:SortKind)(a₀:Array Keyed)(lo:Nat)(st:SortSt):Prop where
 kind:kindOf st=κ
 failed:failedOf st=none
 perm:(arrOf st).Perm a₀
 runs:Runs rk (arrOf st) (pendingOf st).toList 0 lo
theorem Tb.size{a₀:Array Keyed}{lo:Nat}{st:SortSt}(t:Tb rk κ a₀ lo st):(arrOf st).size=a₀.size:=t.perm.size_eq
theorem vz_(h:Ask prog w A s κ M rk){a₀:Array Keyed}{lo i:Nat}{st:SortSt}{Q:Bool->SortSt->Prop}(hM:All M a₀)(t:Tb rk κ a₀ lo st)(hlo:lo<=a₀.size)(hi:i+1<(pendingOf st).size)
  (q:∀st',Tb rk κ a₀ lo st'->(pendingOf st').size+1=(pendingOf st).size->(∀k:Nat,lo<=k->(arrOf st')[k]?=(arrOf st)[k]?)->Q true st'):wpS (model prog w) A E s (mergeAt' i) Q st:=by
 obtain⟨L,x,y,R,e,el⟩:∃L x y R,(pendingOf st).toList=L++x::y::R/\L.length=i:=by
  have hl:i+1<(pendingOf st).toList.length:=by rw[AJ];exact hi
  refine⟨(pendingOf st).toList.take i,(pendingOf st).toList[i],(pendingOf st).toList[i+1],(pendingOf st).toList.drop (i+2),?_,by rw[As];lia⟩
  rw[Di hl,Di,Ax]
 subst el
 obtain⟨sa,na,pa⟩:=x
 obtain⟨sb,nb,pb⟩:=y
 have r:=t.runs
 rw[e]at r
 obtain⟨z,r1,r2⟩:=r.app
 obtain⟨x1,x2,x3,x4⟩:=r2
 obtain⟨y1,y2,y3,y4⟩:=x4
 dsimp only at x1 x2 x3 y1 y2 y3 y4
 subst x1
 have le:=y4.le
 have sz:=t.size
 refine aj5_ h t.kind (hM.perm t.perm) t.failed e y1 x2 y2 (by lia) x3 (by rw[y1];exact y3) λst' k1 k2 k3 k4 k5 k6=>?_
 have sm:∀k,k<sa∨sa+na+nb<=k->kv rk (arrOf st') k=kv rk (arrOf st) k:=λk hk=>q6_ (k5 k hk)
 refine q st' ⟨k1,k2,k4.trans t.perm,?_⟩ ?_ λk hk=>k5 k (.inr (by lia))
 ·rw[k3]
  refine(r1.same λk _ hk=>sm k (.inl hk)).join ⟨rfl,by dsimp only;lia,k6,?_⟩
  dsimp only
  rw[show sa+(na+nb)=sa+na+nb by lia]
  exact y4.same λk hk _=>sm k (.inr hk)
 ·rw[<-AJ,<-AJ,k3,e]
  simp
  lia
theorem ahg_(h:Ask prog w A s κ M rk){st:SortSt}{Q:Unit->SortSt->Prop}(hk:kindOf st=κ)(hM:All M (arrOf st))(hf:failedOf st=none)(hp:pendingOf st=#[])(h1:1<=(arrOf st).size)
  (q:∀st',(arrOf st').Perm (arrOf st)->failedOf st'=none->Srt rk (arrOf st') 0 (arrOf st).size->Q () st'):wpS (model prog w) A E s sortRuns' Q st:=by
 rw[sortRuns'_eq]
 refine wpS_bind (wpS_get ?_)
 generalize ha₀:arrOf st=a₀ at hM h1 q
 dsimp only
 have t0:Tb rk κ a₀ 0 st:=⟨hk,hf,by rw[ha₀],by rw[hp];rfl⟩
 refine wpS_bind (wpS_mono (wpS_forRange (I:=λx c st'=>c.1=none/\Tb rk κ a₀ c.2 st'/\c.2<=a₀.size/\(x<=c.2∨c.2=a₀.size)) (Q:=λc st'=>c.1=none/\Tb rk κ a₀ a₀.size st') ?step ?fin ⟨rfl,t0,AU _,.inl (AB _)⟩) ?post)
 case fin =>
  rintro⟨c,lo⟩ st' ⟨e,t,hl,hx⟩
  dsimp only at e t hl hx
  have el:lo=a₀.size:=by lia
  subst el
  exact⟨e,t⟩
 case step =>
  rintro x ⟨c,lo⟩ st' _ hx ⟨e,t,hl,hxl⟩
  dsimp only at e t hl hxl ⊢
  subst e
  by_cases c1:lo ≥ a₀.size
  ·rw[if_pos c1]
   have el:lo=a₀.size:=by lia
   subst el
   exact wpS_pure ⟨rfl,t⟩
  rw[if_neg c1]
  have sz:=t.size
  refine wpS_bind (ahx_ h t.kind (hM.perm t.perm) (by lia) (by lia) λn st2 nx n1 n2 ns=>?_)
  have t2:Tb rk κ a₀ lo st2:=⟨nx.kind.trans t.kind,nx.failed.trans t.failed,nx.perm.trans t.perm,by rw[nx.pend];exact t.runs.same λk _ hk=>q6_ (nx.below k hk)⟩
  dsimp only
  generalize hforce:min (a₀.size-lo) (minRun' a₀.size a₀.size 0)=force
  have zn_:∀(K1 K2:StateT SortSt Sem (ForInStep (Option Unit×Nat)))(Z:ForInStep (Option Unit×Nat)->SortSt->Prop),
    (∀st3,Tb rk κ a₀ lo st3->1<=force->lo+force<=a₀.size->Srt rk (arrOf st3) lo (lo+force)->wpS (model prog w) A E s K1 Z st3) ->
    (∀st3,Tb rk κ a₀ lo st3->1<=n->lo+n<=a₀.size->Srt rk (arrOf st3) lo (lo+n)->wpS (model prog w) A E s K2 Z st3) ->
    wpS (model prog w) A E s (if n<minRun' a₀.size a₀.size 0 then do
     liftM (rule "list.sort.binary-insertion")
     let r <-binarySort' lo force n
     if (!r)=true then pure (ForInStep.done (some (),lo)) else K1
    else K2) Z st2:=by
   intro K1 K2 Z hK1 hK2
   have sz2:=t2.size
   by_cases c2:n<minRun' a₀.size a₀.size 0
   ·rw[if_pos c2]
    refine wpS_bind (wpS_lift (wpAny_rule ⟨rfl,?_⟩))
    refine wpS_bind (aip_ h t2.kind (hM.perm t2.perm) (by lia) (by lia) ns λst3 nx3 ns3=>?_)
    simp only[D4,Ag,if_false]
    exact hK1 st3 ⟨nx3.kind.trans t2.kind,nx3.failed.trans t2.failed,nx3.perm.trans t2.perm,by rw[nx3.pend];exact t2.runs.same λk _ hk=>q6_ (nx3.below k hk)⟩ (by lia) (by lia) ns3
   ·rw[if_neg c2]
    exact hK2 st2 t2 n1 (by lia) ns
  have push:∀(m:Nat) st4,Tb rk κ a₀ lo st4->1<=m->Srt rk (arrOf st4) lo (lo+m)->Tb rk κ a₀ (lo+m) (setPending st4 ((pendingOf st4).push (lo,m,0))):=λm st4 t4 m1 ns4=>by
   refine⟨t4.kind,t4.failed,t4.perm,?_⟩
   show Runs rk (arrOf st4) ((pendingOf st4).push (lo,m,0)).toList 0 (lo+m)
   rw[B7]
   exact t4.runs.join ⟨rfl,m1,ns4,rfl⟩
  have relabel:∀(f:Run->Run) st4,(∀r,(f r).1=r.1/\(f r).2.1=r.2.1)->Tb rk κ a₀ lo st4->Tb rk κ a₀ lo (setPending st4 ((pendingOf st4).modify ((pendingOf st4).size-1) f)):=λf st4 hf t4=>by
   refine⟨t4.kind,t4.failed,t4.perm,?_⟩
   show Runs rk (arrOf st4) ((pendingOf st4).modify ((pendingOf st4).size-1) f).toList 0 lo
   rw[Array.toList_modify]
   exact t4.runs.modify hf _
  have inner:∀(m:Nat)(st3:SortSt)(pw:Nat)(K:Option Unit×Unit->StateT SortSt Sem (ForInStep (Option Unit×Nat)))(Z:ForInStep (Option Unit×Nat)->SortSt->Prop),Tb rk κ a₀ lo st3->Srt rk (arrOf st3) lo (lo+m) ->
    (∀st4,Tb rk κ a₀ lo st4->Srt rk (arrOf st4) lo (lo+m)->wpS (model prog w) A E s (K (none,())) Z st4) ->
    wpS (model prog w) A E s (do
     let r <-forIn [0:a₀.size] ((none,()):Option Unit×Unit) λ_ _=>do
      let z <-get
      match (if (pendingOf z).size>1 then (pendingOf z)[(pendingOf z).size-2]? else none) with
      |some (_,_,old)=>if old<=pw then pure (ForInStep.done (none,())) else do
       let ok <-mergeAt' ((pendingOf z).size-2)
       if (!ok)=true then pure (ForInStep.done (some (),())) else pure (ForInStep.yield (none,()))
      |_=>pure (ForInStep.done (none,()))
     K r) Z st3:=by
   intro m st3 pw K Z t3 ns hK
   refine wpS_bind (wpS_mono (wpS_forRange (I:=λ_ c st'=>c.1=none/\Tb rk κ a₀ lo st'/\Srt rk (arrOf st') lo (lo+m)) (Q:=λc st'=>c.1=none/\Tb rk κ a₀ lo st'/\Srt rk (arrOf st') lo (lo+m)) ?step3 (λc st' hc=>hc) ⟨rfl,t3,ns⟩) ?post3)
   case step3 =>
    rintro y ⟨c,u⟩ st4 _ hy ⟨e,t4,ns4⟩
    have e':c=none:=e
    subst e'
    refine wpS_bind (wpS_get ?_)
    by_cases c4:(pendingOf st4).size>1
    ·rw[if_pos c4]
     have eg:(pendingOf st4)[(pendingOf st4).size-2]?=some (pendingOf st4)[(pendingOf st4).size-2]:=AC (by lia)
     rw[eg]
     generalize (pendingOf st4)[(pendingOf st4).size-2]=z
     obtain⟨z1,z2,z3⟩:=z
     dsimp only
     refine xH_ (λ_=>wpS_pure ⟨rfl,t4,ns4⟩) λ_=>?_
     refine wpS_bind (vz_ h hM t4 hl (by lia) λst5 t5 _ k5=>?_)
     simp only[D4,Ag,if_false]
     refine wpS_pure ⟨rfl,t5,λi j i1 ij j1=>?_⟩
     rw[q6_ (rk:=rk) (k5 i i1),q6_ (rk:=rk) (k5 j (by lia))]
     exact ns4 i j i1 ij j1
    ·rw[if_neg c4]
     exact wpS_pure ⟨rfl,t4,ns4⟩
   case post3 =>
    rintro⟨c,u⟩ st4 ⟨e,t4,ns4⟩
    have e':c=none:=e
    subst e'
    exact hK st4 t4 ns4
  refine zn_ _ _ _ (λst3 t3 n1 n2 ns=>?_) (λst3 t3 n1 n2 ns=>?_)
  all_goals
   refine wpS_bind (wpS_get ?_)
   cases hb:(pendingOf st3).back? with
   |none=>exact wpS_bind (wpS_modify (wpS_pure ⟨rfl,push _ st3 t3 n1 ns,n2,by dsimp only;lia⟩))
   |some z =>
    obtain⟨s1,n3,p3⟩:=z
    dsimp only
    refine inner _ st3 _ _ _ t3 ns λst4 t4 ns4=>?_
    exact wpS_bind (wpS_modify (wpS_bind (wpS_modify (wpS_pure ⟨rfl,push _ _ (relabel _ st4 (λr=>⟨rfl,rfl⟩) t4) n1 ns4,n2,by dsimp only;lia⟩))))
 case post =>
  rintro⟨c,lo⟩ st' ⟨e,t⟩
  have e':c=none:=e
  subst e'
  dsimp only
  have sz:=t.size
  have r0:=t.runs.le
  rw[AJ]at r0
  refine wpS_bind (wpS_mono (wpS_forRange (I:=λx c st2=>c.1=none/\Tb rk κ a₀ a₀.size st2/\((pendingOf st2).size<=1∨(pendingOf st2).size+x<=a₀.size)) (Q:=λc st2=>c.1=none/\Tb rk κ a₀ a₀.size st2/\(pendingOf st2).size<=1) ?step4 ?fin4 ⟨rfl,t,.inr (by lia)⟩) ?post4)
  case fin4 =>
   rintro c st2 ⟨e,t,h3⟩
   exact⟨e,t,by lia⟩
  case step4 =>
   rintro x ⟨c,u⟩ st2 _ hx ⟨e,t2,h3⟩
   have e':c=none:=e
   subst e'
   refine wpS_bind (wpS_get ?_)
   by_cases c1:(pendingOf st2).size<=1
   ·rw[if_pos c1]
    exact wpS_pure ⟨rfl,t2,c1⟩
   rw[if_neg c1]
   have fin:∀i,i+1<(pendingOf st2).size->∀(K:Bool->StateT SortSt Sem (ForInStep (Option Unit×Unit)))(Z:ForInStep (Option Unit×Unit)->SortSt->Prop),K true=pure (.yield (none,())) ->
     (∀st5,Tb rk κ a₀ a₀.size st5->((pendingOf st5).size<=1∨(pendingOf st5).size+(x+1)<=a₀.size)->Z (.yield (none,())) st5)->wpS (model prog w) A E s (do
     let r <-mergeAt' i
     K r) Z st2:=by
    intro i hi K Z hK hZ
    refine wpS_bind (vz_ h hM t2 (AB _) hi λst5 t5 z5 _=>?_)
    rw[hK]
    exact wpS_pure (hZ st5 t5 (by lia))
   have both:∀(c:Bool)(i:Nat),i+2=(pendingOf st2).size->(if c=true then i-1 else i)+1<(pendingOf st2).size:=λc i hi=>by
    split<;>lia
   refine fin _ (both _ _ ?_) (λr=>_) _ ?_ (λst5 t5 h5=>⟨rfl,t5,h5⟩)
   ·lia
   ·rfl
  case post4 =>
   rintro⟨c,u⟩ st2 ⟨e,t2,h3⟩
   have e':c=none:=e
   subst e'
   refine wpS_pure (q st2 t2.perm t2.failed ?_)
   have r:=t2.runs
   rw[<-AJ]at h3
   match hl:(pendingOf st2).toList,h3,r with
   |[],_,r=>have:0=a₀.size:=r;lia
   |[z],_,r =>
    obtain⟨r1,r2,r3,r4⟩:=r
    have r4':0+z.2.1=a₀.size:=r4
    rw[r4']at r3
    exact r3
   |_::_::_,h3,_=>simp at h3
end
end L2.Ts
namespace L2.Rw
open PySem
def RawD(h:Heap)(d:Addr)(es:Array DictEntry)(ep:Nat):Prop:=∃o,h.get? d=some o/\o.ExactDict/\o.data=.dict es ep
theorem RawD.keep{h h':Heap}{d:Addr}{es:Array DictEntry}{ep:Nat}(x:RawD h d es ep)(k:∀o,h.get? d=some o->h'.get? d=some o):RawD h' d es ep:=let ⟨o,e,r⟩:=x;⟨o,k o e,r⟩
theorem RawD.lt{h:Heap}{d:Addr}{es:Array DictEntry}{ep:Nat}(x:RawD h d es ep):d<h.objs.size:=let ⟨_,e,_⟩:=x;AG e
theorem RawD.type{s:Shared}{d:Addr}{es:Array DictEntry}{ep:Nat}(x:RawD s.heap d es ep):s.TypeIs (.ref d) "dict" := let ⟨o,e,c,_⟩:=x;⟨o,e,c.1⟩
section
variable{prog:Program}{w:World}{A:Around}{E:Value->Shared->Prop}{s:Shared}{d it:Addr}{es:Array DictEntry}{ep i:Nat}
theorem ae0_{Q:Value->Shared->Prop}(hd:(d==sysModules)=false)(hm:RawD s.heap d es ep)
  (hQ:Q (.ref s.heap.objs.size) { s with heap:=s.heap.push { cls:=.type "dict_keyiterator",data:=.fields #[.ref d,.int 0 0,.int es.size 0,.int ep 0] } }):wpAny (model prog w) A (pyIter (.ref d)) Q E s:=by
 have hT:=hm.type
 obtain⟨o,ho,_,hdat⟩:=hm
 refine wpAny_pyIter_slot hT F.slot_dict_iter (wpAny_call_entry F.slot_dict_iter hT F.entry_dict_iter ?_ (F.args_dict_iter_1 _))
 unfold Builtin.«dict.__iter__»
 refine wpAny_bind ?_
 unfold Builtin.Dict.dictSlotNone
 refine wpAny_bind (wpAny_notOrdered_dict hT (wpAny_pure ?_))
 show wpAny _ _ (Builtin.Dict.showsAll d>>=_) _ _ s
 unfold Builtin.Dict.showsAll
 rw[if_neg (by rw[hd];decide)]
 refine wpAny_bind (wpAny_pure (wpAny_bind (wpAny_dictEntries ho hdat (wpAny_bind (wpAny_dictEpoch ho hdat ?_)))))
 refine wpAny_bind (wpAny_newObj_type (wpAny_pure ⟨_,rfl, "dict_keyiterator",_,⟨_,AE _ rfl,rfl⟩,BW.lookup,?_⟩))
 simpa [rawInt]using hQ
theorem adp_{Q:Option Value->Shared->Prop}(hit:s.heap.IsKeyIter it d i es.size ep)(hm:RawD s.heap d es ep)(hi:i<es.size)
  (hQ:∀h',h'.IsKeyIter it d (i+1) es.size ep->Heap.SameBut it s.heap h'->Q (some es[i].key) { s with heap:=h' }):wpAny (model prog w) A (pyNext (.ref it)) Q E s:=by
 obtain⟨o,ho,hc,hd⟩:=id hit
 obtain⟨od,hod,_,hdd⟩:=hm
 have hT:=hit.typeIs
 unfold pyNext
 refine wpAny_bind (wpAny_attempt (wpAny_callSpecial?_slot (name:=Str.ofString "__next__") hT BW (wpAny_call_entry BW hT Cp ?_ (Ch _))))
 refine wpAny_bind (wpAny_pure (wpAny_bind (wpAny_bind ?_)))
 first|refine wpAny_bind (wpAny_typeNameOfWhole_keyiter hT (wpAny_pure ?_))|refine wpAny_bind (wpAny_typeNameOf_keyiter hT (wpAny_pure ?_))
 refine wpAny_bind (wpAny_fieldsOf ho hd ?_)
 have own:Builtin.Dict_items.ownsTuple "dict_keyiterator" = false:=by decide
 simp only[own,Ag,if_false]
 show wpAny _ _ (if (Value.ref d==Value.none)=true then _ else _) _ _ s
 rw[if_neg (show ¬ ((Value.ref d==Value.none)=true) from AL)]
 refine wpAny_bind (wpAny_pure (wpAny_bind (wpAny_dictEntries hod hdd ?_)))
 rw[if_neg (by simp)]
 refine wpAny_bind (wpAny_pure (wpAny_bind (wpAny_dictEpoch hod hdd ?_)))
 rw[if_neg (by simp)]
 refine wpAny_pure ?_
 simp only[show ¬ ((i:Int)<0) from by lia,if_false,An,AC hi]
 refine wpAny_bind ?_
 first|refine wpAny_bind (wpAny_typeNameOfWhole_keyiter hT (wpAny_pure ?_))|refine wpAny_bind (wpAny_typeNameOf_keyiter hT (wpAny_pure ?_))
 refine wpAny_bind (wpAny_isOneOf_keyiter hT ?_)
 show wpAny _ _ (setField (.ref it) 1 (rawInt ((i:Int)+1))>>=_) _ _ s
 refine wpAny_bind (wpAny_setField ho hd (by simp) ?_)
 have on:(s.heap.update it (Obj.mapFields (·.setIfInBounds 1 (rawInt ((i:Int)+1))))).IsKeyIter it d (i+1) es.size ep :=
  ⟨_,Be _ ho (Bv (Bg hd _)),(DE ..).trans hc,by rw[Bg hd];simp [rawInt]⟩
 refine wpAny_bind (wpAny_holding (wpAny_bind (wpAny_isOneOf_keyiter (s:={ s with heap:=s.heap.update it (Obj.mapFields (·.setIfInBounds 1 (rawInt ((i:Int)+1)))) }) on.typeIs ?_)))
 show wpAny _ _ (pure es[i].key) _ _ _
 exact wpAny_pure (wpAny_pure ⟨_,rfl,wpAny_pure (hQ _ on (B2 ..))⟩)
theorem ag6_{Q:Option Value->Shared->Prop}(hh:A.handled=none)(hit:s.heap.IsKeyIter it d i es.size ep)(hm:RawD s.heap d es ep)(hi:es.size<=i)
  (hQ:∀h',Heap.ExtBut it s.heap h'->Q none { s with heap:=h' }):wpAny (model prog w) A (pyNext (.ref it)) Q E s:=by
 obtain⟨o,ho,hc,hd⟩:=id hit
 obtain⟨od,hod,_,hdd⟩:=hm
 have hT:=hit.typeIs
 unfold pyNext
 refine wpAny_bind (wpAny_attempt (wpAny_callSpecial?_slot (name:=Str.ofString "__next__") hT BW (wpAny_call_entry BW hT Cp ?_ (Ch _))))
 refine wpAny_bind (wpAny_pure (wpAny_bind (wpAny_bind ?_)))
 first|refine wpAny_bind (wpAny_typeNameOfWhole_keyiter hT (wpAny_pure ?_))|refine wpAny_bind (wpAny_typeNameOf_keyiter hT (wpAny_pure ?_))
 refine wpAny_bind (wpAny_fieldsOf ho hd ?_)
 have own:Builtin.Dict_items.ownsTuple "dict_keyiterator" = false:=by decide
 simp only[own,Ag,if_false]
 show wpAny _ _ (if (Value.ref d==Value.none)=true then _ else _) _ _ s
 rw[if_neg (show ¬ ((Value.ref d==Value.none)=true) from AL)]
 refine wpAny_bind (wpAny_pure (wpAny_bind (wpAny_dictEntries hod hdd ?_)))
 rw[if_neg (by simp)]
 refine wpAny_bind (wpAny_pure (wpAny_bind (wpAny_dictEpoch hod hdd ?_)))
 rw[if_neg (by simp)]
 refine wpAny_pure ?_
 simp only[show ¬ ((i:Int)<0) from by lia,if_false,An,Bb hi]
 refine wpAny_bind ?_
 first|refine wpAny_bind (wpAny_typeNameOfWhole_keyiter hT (wpAny_pure ?_))|refine wpAny_bind (wpAny_typeNameOf_keyiter hT (wpAny_pure ?_))
 show wpAny _ _ (setField (.ref it) 0 .none>>=_) _ _ s
 refine wpAny_bind (wpAny_setField ho hd (by simp) ?_)
 show wpAny _ _ (newExc (.type "StopIteration") []>>=_) _ _ _
 refine wpAny_bind ?_
 simp only[newExc,newTuple]
 refine wpAny_bind (wpAny_newObj_type ?_ (by size_fits))
 refine wpAny_bind (m:=firstArgMember _ _) (wpAny_of_eq (a:=Value.none) (by first|rfl|(simp only[firstArgMember];rfl)) ?_)
 refine wpAny_newObj_type ?_ (by size_fits)
 simp only[raiseNew]
 refine wpAny_bind (wpAny_handled ?_)
 rw[show A.in1.handled=none from hh]
 refine wpAny_bind (wpAny_pure (wpAny_throw ?_))
 refine wpAny_bind (wpAny_isInstance (T := "StopIteration") (b:=true) ⟨_,AE _ rfl,rfl⟩ isSubtype_stop ?_)
 exact wpAny_pure (hQ _ (((B2 ..).extBut.push _).push _))
theorem abr_(hh:A.handled=none)(I d:Addr)(hne:d≠I)(es:Array DictEntry)(ep:Nat) :
  Walks prog w A I [I,d] [I] es.size (λi v=>∃h:i<es.size,v=es[i].key) (λi h=>h.IsKeyIter I d i es.size ep/\RawD h d es ep) where
 sub:=λb hb=>by simp at hb;simp [hb]
 frame:=λ_ _ _ st hk=>⟨st.1.at λo e=>hk I (by simp) o e,st.2.keep λo e=>hk d (by simp) o e⟩
 item:=λi s Q E hi st hQ=>adp_ st.1 st.2 hi λh' on hs=>hQ es[i].key h' s.toks ⟨hi,rfl⟩ ⟨on,st.2.keep λo e=>hs.extBut _ _ hne e⟩ λb o hb e=>hs.extBut b o (λz=>hb (by simp [z])) e
 done:=λs Q E st hQ=>ag6_ hh st.1 st.2 (AB _) λh' he=>hQ h' s.toks λb o hb e=>he b o (λz=>hb (by simp [z])) e
 self:=λ_ _ _ _ st hQ=>wpAny_pyIter_keyiter st.1 hQ
theorem ac2_{Q:Value->Shared->Prop}(hd:(d==sysModules)=false)(hm:RawD s.heap d es ep)
  (hQ:Q (.ref s.heap.objs.size) { s with heap:=s.heap.push { cls:=.type "dict_items",data:=.fields #[.ref d] } }):wpAny (model prog w) A (call (.builtin "dict.items") [.ref d]) Q E s:=by
 have hT:=hm.type
 refine wpAny_call_entry F.slot_dict_items hT F.entry_dict_items ?_ (F.args_dict_items_1 _)
 unfold Builtin.«dict.items»
 refine wpAny_bind ?_
 unfold Builtin.Dict.noArgs
 refine wpAny_bind (wpAny_notOrdered_dict hT (wpAny_pure ?_))
 show wpAny _ _ (Builtin.Dict.showsAll d>>=_) _ _ s
 unfold Builtin.Dict.showsAll
 rw[if_neg (by rw[hd];decide)]
 exact wpAny_bind (wpAny_pure (wpAny_bind (wpAny_newObj_type (wpAny_pure ⟨_,rfl,hQ⟩))))
theorem aar_{v:Addr}{Q:Value->Shared->Prop}(hv:s.heap.IsItemsView v d)(hm:RawD s.heap d es ep)
  (hQ:Q (.ref s.heap.objs.size) { s with heap:=s.heap.push { cls:=.type "dict_itemiterator",data:=.fields #[.none,.bool false,.ref d,.int 0 0,.int es.size 0,.int ep 0,.none,.none] } }) :
  wpAny (model prog w) A (pyIter (.ref v)) Q E s:=by
 obtain⟨ov,hov,hcv,hdv⟩:=id hv
 obtain⟨o,ho,_,hdat⟩:=hm
 refine wpAny_pyIter_slot hv.typeIs Dj (wpAny_call_entry Dj hv.typeIs F.entry_dict_items_iter ?_ (F.args_dict_items_iter_1 _))
 unfold Builtin.«dict_items.__iter__»
 refine wpAny_bind (wpAny_pure (wpAny_bind ?_))
 unfold Builtin.Dict_items.dictOf
 refine wpAny_bind (wpAny_field hov hdv (x:=.ref d) rfl (wpAny_pure (wpAny_bind ?_)))
 unfold Builtin.Dict_items.newIterator
 refine wpAny_bind (wpAny_dictEntries ho hdat (wpAny_bind (wpAny_dictEpoch ho hdat ?_)))
 have own:Builtin.Dict_items.ownsTuple "dict_itemiterator" = true:=by decide
 simp only[own,if_true]
 refine wpAny_newObj_type (wpAny_pure ⟨_,rfl, "dict_itemiterator",_,⟨_,AE _ rfl,rfl⟩,BR.lookup,?_⟩)
  (by simp only[sizeOk,Builtin.Dict_items.ownedTupleFields,AS,AQ,AN,CI,sizeLine_eq];lia)
 simpa [rawInt,Builtin.Dict_items.ownedTupleFields]using hQ
theorem acp_{ok ov:Value}{Q:Option Value->Shared->Prop}(hit:IsItemIter s.heap it d i es.size ep ok ov)(hm:RawD s.heap d es ep)(hi:i<es.size)
  (hQ:∀h',IsItemIterOut h' it d (i+1) es.size ep es[i].key es[i].val s.heap.objs.size->h'.get? s.heap.objs.size=some { cls:=.type "tuple",data:=.seq #[es[i].key,es[i].val] }->h'.objs.size=s.heap.objs.size+1 ->
   (∀b o,b≠it->s.heap.get? b=some o->h'.get? b=some o)->Q (some (.ref s.heap.objs.size)) { s with heap:=h' }):wpAny (model prog w) A (pyNext (.ref it)) Q E s:=by
 obtain⟨hp,g,dr,tk,os⟩:=s
 obtain⟨od,hod,_,hdd⟩:=hm
 have hT:Shared.TypeIs ⟨hp,g,dr,tk,os⟩ (.ref it) "dict_itemiterator" := ⟨_,hit,rfl⟩
 unfold pyNext
 refine wpAny_bind (wpAny_attempt (wpAny_callSpecial?_slot (name:=Str.ofString "__next__") hT BR (wpAny_call_entry BR hT Ci ?_ (Cc _))))
 refine wpAny_bind (wpAny_pure (wpAny_bind (wpAny_bind ?_)))
 first|refine wpAny_bind (wpAny_typeNameOfWhole_itemiter hT (wpAny_pure ?_))|refine wpAny_bind (wpAny_typeNameOf_itemiter hT (wpAny_pure ?_))
 refine wpAny_bind (wpAny_fieldsOf hit rfl ?_)
 have own:Builtin.Dict_items.ownsTuple "dict_itemiterator" = true:=by decide
 simp only[own,if_true]
 show wpAny _ _ (if (Value.ref d==Value.none)=true then _ else _) _ _ _
 rw[if_neg (show ¬ ((Value.ref d==Value.none)=true) from AL)]
 refine wpAny_bind (wpAny_pure (wpAny_bind (wpAny_dictEntries hod hdd ?_)))
 rw[if_neg (by simp)]
 refine wpAny_bind (wpAny_pure (wpAny_bind (wpAny_dictEpoch hod hdd ?_)))
 rw[if_neg (by simp)]
 refine wpAny_pure ?_
 simp only[show ¬ ((i:Int)<0) from by lia,if_false,An,AC hi]
 refine wpAny_bind ?_
 first|refine wpAny_bind (wpAny_typeNameOfWhole_itemiter hT (wpAny_pure ?_))|refine wpAny_bind (wpAny_typeNameOf_itemiter hT (wpAny_pure ?_))
 refine wpAny_bind (wpAny_isOneOf_itemiter hT ?_)
 show wpAny _ _ (setField (.ref it) 3 (rawInt ((i:Int)+1))>>=_) _ _ ⟨hp,g,dr,tk,os⟩
 refine wpAny_bind (wpAny_setField_rec hit (by simp) λh₁ he₁ hs₁=>?_)
 replace hs₁:Heap.SameBut it hp h₁:=hs₁
 replace he₁:IsItemIter h₁ it d (i+1) es.size ep ok ov:=by
  have e:((i+1:Nat):Int)=(i:Int)+1:=by lia
  unfold IsItemIter;rw[e];simpa [rawInt]using he₁
 have hT₁:Shared.TypeIs ⟨h₁,g,dr,tk,os⟩ (.ref it) "dict_itemiterator" := ⟨_,he₁,rfl⟩
 refine wpAny_bind (wpAny_holding (wpAny_bind (wpAny_isOneOf_itemiter hT₁ (wpAny_bind (wpAny_isOneOf_itemiter hT₁ ?_)))))
 show wpAny _ _ (Builtin.Dict_items.pairFromOwner (.ref it) 6 es[i].key es[i].val) _ _ ⟨h₁,g,dr,tk,os⟩
 unfold Builtin.Dict_items.pairFromOwner
 refine wpAny_bind (wpAny_newTuple ?_)
 have he₂:IsItemIter (h₁.push { cls:=.type "tuple",data:=.seq #[es[i].key,es[i].val] }) it d (i+1) es.size ep ok ov:=AA _ he₁
 generalize hh₂:h₁.push { cls:=.type "tuple",data:=.seq #[es[i].key,es[i].val] }=h₂ at he₂
 have hz₁:h₁.objs.size=hp.objs.size:=hs₁.1
 have hil:it<hp.objs.size:=AG hit
 have ht₂:h₂.get? hp.objs.size=some { cls:=.type "tuple",data:=.seq #[es[i].key,es[i].val] }:=by rw[<-hh₂,<-hz₁];exact AE _ rfl
 have hz₂:h₂.objs.size=hp.objs.size+1:=by rw[<-hh₂,BM,hz₁]
 have hk₂:∀b o,b≠it->hp.get? b=some o->h₂.get? b=some o:=λb o hb e=>by rw[<-hh₂];exact AA _ (hs₁.extBut b o hb e)
 show wpAny _ _ (Builtin.Dict_items.ownedTupleIsFree (.ref it)>>=_) _ _ ⟨h₂,g,dr,tk,os⟩
 rw[hz₁]
 clear hh₂ he₁ hs₁ hT₁ hz₁ h₁
 refine wpAny_bind ?_
 unfold Builtin.Dict_items.ownedTupleIsFree
 refine wpAny_bind (wpAny_field he₂ rfl (x:=.none) rfl (wpAny_pure ?_))
 simp only[if_true]
 refine wpAny_bind (wpAny_field he₂ rfl (x:=ok) rfl (wpAny_bind (wpAny_field he₂ rfl (x:=ov) rfl ?_)))
 refine wpAny_bind (wpAny_setField_rec he₂ (by simp) λh₃ he₃ hs₃=>?_)
 replace hs₃:Heap.SameBut it h₂ h₃:=hs₃
 replace he₃:IsItemIter h₃ it d (i+1) es.size ep es[i].key ov:=he₃
 refine wpAny_bind (wpAny_setField_rec he₃ (by simp) λh₄ he₄ hs₄=>?_)
 replace hs₄:Heap.SameBut it h₃ h₄:=hs₄
 replace he₄:IsItemIter h₄ it d (i+1) es.size ep es[i].key es[i].val:=he₄
 refine wpAny_bind (wpAny_setField_rec he₄ (by simp) λh₅ he₅ hs₅=>?_)
 replace hs₅:Heap.SameBut it h₄ h₅:=hs₅
 replace he₅:IsItemIterOut h₅ it d (i+1) es.size ep es[i].key es[i].val hp.objs.size:=he₅
 refine wpAny_bind (wpAny_setField_rec he₅ (by simp) λh₆ he₆ hs₆=>?_)
 replace hs₆:Heap.SameBut it h₅ h₆:=hs₆
 replace he₆:IsItemIterOut h₆ it d (i+1) es.size ep es[i].key es[i].val hp.objs.size:=he₆
 have up:∀b o,b≠it->h₂.get? b=some o->h₆.get? b=some o:=λb o hb e=>hs₆.extBut b o hb (hs₅.extBut b o hb (hs₄.extBut b o hb (hs₃.extBut b o hb e)))
 refine wpAny_bind (wpAny_letGo (wpAny_pure (wpAny_pure ⟨_,rfl,wpAny_pure (hQ h₆ he₆ (up _ _ (Bh hil) ht₂) ?_ λb o hb e=>up b o hb (hk₂ b o hb e))⟩)))
 show h₆.objs.size=hp.objs.size+1
 rw[hs₆.1,hs₅.1,hs₄.1,hs₃.1,hz₂]
theorem ad9_{ok ov:Value}{Q:Option Value->Shared->Prop}(hh:A.handled=none)(hit:IsItemIter s.heap it d i es.size ep ok ov)(hm:RawD s.heap d es ep)(hi:es.size<=i)
  (hQ:∀h',Heap.ExtBut it s.heap h'->Q none { s with heap:=h' }):wpAny (model prog w) A (pyNext (.ref it)) Q E s:=by
 obtain⟨od,hod,_,hdd⟩:=hm
 have hT:s.TypeIs (.ref it) "dict_itemiterator" := ⟨_,hit,rfl⟩
 unfold pyNext
 refine wpAny_bind (wpAny_attempt (wpAny_callSpecial?_slot (name:=Str.ofString "__next__") hT BR (wpAny_call_entry BR hT Ci ?_ (Cc _))))
 refine wpAny_bind (wpAny_pure (wpAny_bind (wpAny_bind ?_)))
 first|refine wpAny_bind (wpAny_typeNameOfWhole_itemiter hT (wpAny_pure ?_))|refine wpAny_bind (wpAny_typeNameOf_itemiter hT (wpAny_pure ?_))
 refine wpAny_bind (wpAny_fieldsOf hit rfl ?_)
 have own:Builtin.Dict_items.ownsTuple "dict_itemiterator" = true:=by decide
 simp only[own,if_true]
 show wpAny _ _ (if (Value.ref d==Value.none)=true then _ else _) _ _ s
 rw[if_neg (show ¬ ((Value.ref d==Value.none)=true) from AL)]
 refine wpAny_bind (wpAny_pure (wpAny_bind (wpAny_dictEntries hod hdd ?_)))
 rw[if_neg (by simp)]
 refine wpAny_bind (wpAny_pure (wpAny_bind (wpAny_dictEpoch hod hdd ?_)))
 rw[if_neg (by simp)]
 refine wpAny_pure ?_
 simp only[show ¬ ((i:Int)<0) from by lia,if_false,An,Bb hi]
 refine wpAny_bind ?_
 first|refine wpAny_bind (wpAny_typeNameOfWhole_itemiter hT (wpAny_pure ?_))|refine wpAny_bind (wpAny_typeNameOf_itemiter hT (wpAny_pure ?_))
 show wpAny _ _ (setField (.ref it) 2 .none>>=_) _ _ s
 refine wpAny_bind (wpAny_setField hit rfl (by simp) ?_)
 show wpAny _ _ (newExc (.type "StopIteration") []>>=_) _ _ _
 refine wpAny_bind ?_
 simp only[newExc,newTuple]
 refine wpAny_bind (wpAny_newObj_type ?_ (by size_fits))
 refine wpAny_bind (m:=firstArgMember _ _) (wpAny_of_eq (a:=Value.none) (by first|rfl|(simp only[firstArgMember];rfl)) ?_)
 refine wpAny_newObj_type ?_ (by size_fits)
 simp only[raiseNew]
 refine wpAny_bind (wpAny_handled ?_)
 rw[show A.in1.handled=none from hh]
 refine wpAny_bind (wpAny_pure (wpAny_throw ?_))
 refine wpAny_bind (wpAny_isInstance (T := "StopIteration") (b:=true) ⟨_,AE _ rfl,rfl⟩ isSubtype_stop ?_)
 exact wpAny_pure (hQ _ (((B2 ..).extBut.push _).push _))
end
end L2.Rw
namespace L2.Pl
abbrev Pw:=List Int
abbrev Mon:=List Int×Int
def lxl:Pw->Pw->Bool
 |[],[]=>false
 |[],_::_=>true
 |_::_,[]=>false
 |x::xs,y::ys=>if x=y then lxl xs ys else decide (x<y)
theorem z0_:∀a:Pw,lxl a a=false
 |[]=>rfl
 |x::xs=>by simp [lxl,z0_ xs]
theorem zL_:∀{a b c:Pw},lxl a b=true->lxl b c=true->lxl a c=true
 |[],[],c,h,_=>by simp [lxl]at h
 |[],_::_,[],_,h=>by simp [lxl]at h
 |[],_::_,_::_,_,_=>rfl
 |_::_,[],_,h,_=>by simp [lxl]at h
 |_::_,_::_,[],_,h=>by simp [lxl]at h
 |x::xs,y::ys,z::zs,h,q=>by
  simp only[lxl]at h q ⊢
  split at h
  ·rename_i e
   subst e
   split at q
   ·rename_i e
    subst e
    rw[if_pos rfl]
    exact zL_ h q
   ·rename_i e
    rw[if_neg e]
    exact q
  ·rename_i e
   have h':=of_decide_eq_true h
   split at q
   ·rename_i e2
    subst e2
    rw[if_neg e]
    exact h
   ·have q':=of_decide_eq_true q
    rw[if_neg (by lia)]
    exact decide_eq_true (by lia)
theorem zY_:∀{a b:Pw},lxl a b=false->lxl b a=false->a=b
 |[],[],_,_=>rfl
 |[],_::_,h,_=>by simp [lxl]at h
 |_::_,[],_,h=>by simp [lxl]at h
 |x::xs,y::ys,h,q=>by
  simp only[lxl]at h q
  by_cases e:x=y
  ·subst e
   rw[if_pos rfl]at h q
   rw[zY_ h q]
  ·rw[if_neg e]at h
   rw[if_neg (λz=>e z.symm)]at q
   have h':=of_decide_eq_false h
   have q':=of_decide_eq_false q
   lia
structure Lin{α:Type}(lt:α->α->Bool):Prop where
 irr:∀a,lt a a=false
 trans:∀{a b c},lt a b=true->lt b c=true->lt a c=true
 tri:∀{a b},lt a b=false->lt b a=false->a=b
theorem agy_:Lin lxl:=⟨z0_,zL_,zY_⟩
def tlt(a b:Mon):Bool:=if a.1=b.1 then decide (a.2<b.2) else lxl a.1 b.1
theorem ahb_:Lin tlt where
 irr:=λa=>by simp [tlt]
 trans:=λ{a b c} h q=>by
  unfold tlt at h q ⊢
  by_cases e1:a.1=b.1
  ·rw[if_pos e1]at h
   by_cases e2:b.1=c.1
   ·rw[if_pos e2]at q
    rw[if_pos (e1.trans e2)]
    have:=of_decide_eq_true h
    have:=of_decide_eq_true q
    exact decide_eq_true (by lia)
   ·rw[if_neg e2]at q
    rw[if_neg (λz=>e2 (e1.symm.trans z)),e1]
    exact q
  ·rw[if_neg e1]at h
   by_cases e2:b.1=c.1
   ·rw[<-e2,if_neg e1]
    exact h
   ·rw[if_neg e2]at q
    have t:=zL_ h q
    rw[if_neg (λz=>by rw[z,z0_]at t;cases t)]
    exact t
 tri:=λ{a b} h q=>by
  unfold tlt at h q
  by_cases e:a.1=b.1
  ·rw[if_pos e]at h
   rw[if_pos e.symm]at q
   have:=of_decide_eq_false h
   have:=of_decide_eq_false q
   exact Dx e (by lia)
  ·rw[if_neg e]at h
   rw[if_neg (λz=>e z.symm)]at q
   exact absurd (zY_ h q) e
def xi_{α:Type}(lt:α->α->Bool)(l:List α)(a:α):Nat:=(l.filter (lt · a)).length
theorem yv_{α:Type}{lt:α->α->Bool}(L:Lin lt){l:List α}{a b:α}(ha:a∈l):lt a b=true↔xi_ lt l a<xi_ lt l b:=by
 constructor
 ·intro h
  unfold xi_
  have key:∀m:List α,(m.filter (lt · a)).length<=(m.filter (lt · b)).length/\(a∈m->(m.filter (lt · a)).length<(m.filter (lt · b)).length):=by
   intro m
   induction m with
   |nil=>simp
   |cons x m ih =>
    rw[BS,BS]
    by_cases c:lt x a=true
    ·rw[if_pos c,if_pos (L.trans c h)]
     simp only[AN]
     refine⟨by lia,λhm=>?_⟩
     rcases AI.mp hm with e|hm
     ·subst e;rw[L.irr]at c;cases c
     ·have:=ih.2 hm;lia
    ·rw[if_neg c]
     by_cases c2:lt x b=true
     ·rw[if_pos c2]
      simp only[AN]
      exact⟨by lia,λ_=>by lia⟩
     ·rw[if_neg c2]
      refine⟨ih.1,λhm=>?_⟩
      rcases AI.mp hm with e|hm
      ·subst e;exact absurd h c2
      ·exact ih.2 hm
  exact(key l).2 ha
 ·intro h
  cases c:lt a b with
  |true=>rfl
  |false =>
   exfalso
   have key:∀m:List α,(m.filter (lt · b)).length<=(m.filter (lt · a)).length:=by
    intro m
    induction m with
    |nil=>simp
    |cons x m ih =>
     rw[BS,BS]
     by_cases c1:lt x b=true
     ·have c2:lt x a=true:=by
       cases c3:lt x a with
       |true=>rfl
       |false =>
        cases c4:lt a x with
        |true =>
         rw[L.trans c4 c1]at c;cases c
        |false =>
         have e:=L.tri c3 c4
         subst e
         rw[c1]at c;cases c
      rw[if_pos c1,if_pos c2]
      simp only[AN]
      lia
     ·rw[if_neg c1]
      split
      ·simp only[AN];lia
      ·exact ih
   have:=key l
   unfold xi_ at h
   lia
def cf:List Mon->Pw->Int
 |[],_=>0
 |t::r,p=>(if t.1=p then t.2 else 0)+cf r p
theorem xt_(p:Pw):∀a b:List Mon,cf (a++b) p=cf a p+cf b p
 |[],b=>by simp [cf]
 |t::a,b=>by simp only[List.cons_append,cf,xt_ p a b];lia
theorem ag7_{a b:List Mon}(h:a.Perm b)(p:Pw):cf a p=cf b p:=by
 induction h with
 |nil=>rfl
 |cons x _ ih=>simp only[cf,ih]
 |swap x y l=>simp only[cf];lia
 |trans _ _ i1 i2=>exact i1.trans i2
theorem zM_{p:Pw}:∀{l:List Mon},(∀t∈l,t.1≠p)->cf l p=0
 |[],_=>rfl
 |t::r,h=>by
  simp only[cf]
  rw[if_neg (h t (AH ..)),zM_ λx hx=>h x (AD _ hx)]
  rfl
structure Canon(l:List Mon):Prop where
 ord:l.Pairwise λa b=>lxl b.1 a.1=true
 num:∀t∈l,t.2≠0
theorem Canon.tail{t:Mon}{l:List Mon}(h:Canon (t::l)):Canon l:=⟨(Ar.mp h.ord).2,λx hx=>h.num x (AD _ hx)⟩
theorem Canon.head{t:Mon}{l:List Mon}(h:Canon (t::l)):cf (t::l) t.1=t.2:=by
 have o:=(Ar.mp h.ord).1
 simp only[cf]
 rw[if_pos trivial,zM_ λx hx e=>by have:=o x hx;rw[e,z0_]at this;cases this]
 lia
theorem Canon.above{l:List Mon}(h:Canon l){p:Pw}(q:∀t∈l,lxl t.1 p=true):cf l p=0:=zM_ λt ht e=>by
 have:=q t ht
 rw[e,z0_]at this
 cases this
theorem xQ_:∀{a b:List Mon},Canon a->Canon b->(∀p,cf a p=cf b p)->a=b
 |[],[],_,_,_=>rfl
 |[],t::b,_,hb,e=>by
  have:=e t.1
  rw[hb.head]at this
  exact absurd this.symm (hb.num t (AH ..))
 |t::a,[],ha,_,e=>by
  have:=e t.1
  rw[ha.head]at this
  exact absurd this (ha.num t (AH ..))
 |t::a,u::b,ha,hb,e=>by
  have oa:=(Ar.mp ha.ord).1
  have ob:=(Ar.mp hb.ord).1
  have k1:lxl t.1 u.1=false:=by
   cases c:lxl t.1 u.1 with
   |false=>rfl
   |true =>
    have z:=e u.1
    rw[hb.head,ha.above λx hx=>by
     rcases AI.mp hx with rfl|hx
     ·exact c
     ·exact zL_ (oa x hx) c]at z
    exact absurd z.symm (hb.num u (AH ..))
  have k2:lxl u.1 t.1=false:=by
   cases c:lxl u.1 t.1 with
   |false=>rfl
   |true =>
    have z:=e t.1
    rw[ha.head,hb.above λx hx=>by
     rcases AI.mp hx with rfl|hx
     ·exact c
     ·exact zL_ (ob x hx) c]at z
    exact absurd z (ha.num t (AH ..))
  have e1:t.1=u.1:=zY_ k1 k2
  have e2:t.2=u.2:=by
   have z:=e t.1
   rw[ha.head,e1,hb.head]at z
   exact z
  have e3:t=u:=Dx e1 e2
  subst e3
  rw[xQ_ ha.tail hb.tail λp=>by
   have z:=e p
   simp only[cf]at z
   lia]
def ins(t:Mon):List Mon->List Mon
 |[]=>if t.2=0 then [] else [t]
 |u::r=>if t.1=u.1 then (if u.2+t.2=0 then r else (u.1,u.2+t.2)::r) else if lxl u.1 t.1=true then (if t.2=0 then u::r else t::u::r) else u::ins t r
theorem abq_(t:Mon)(p:Pw):∀l:List Mon,cf (ins t l) p=(if t.1=p then t.2 else 0)+cf l p
 |[]=>by
  unfold ins
  split
  ·rename_i h;simp [cf,h]
  ·simp [cf]
 |u::r=>by
  unfold ins
  split
  ·rename_i h
   split
   ·rename_i z
    simp only[cf]
    by_cases e:u.1=p
    ·rw[if_pos e,if_pos (h.trans e)];lia
    ·rw[if_neg e,if_neg (λq=>e (h.symm.trans q))];lia
   ·simp only[cf]
    by_cases e:u.1=p
    ·rw[if_pos e,if_pos e,if_pos (h.trans e)];lia
    ·rw[if_neg e,if_neg e,if_neg (λq=>e (h.symm.trans q))];lia
  ·split
   ·split
    ·rename_i z;rw[z];simp only[cf];split<;>lia
    ·simp only[cf]
   ·simp only[cf,abq_ t p r];lia
theorem yE_(t:Mon){q:Pw}:∀{l:List Mon},(∀x∈l,lxl x.1 q=true)->lxl t.1 q=true->∀x∈ins t l,lxl x.1 q=true
 |[],_,ht,x,hx=>by
  unfold ins at hx
  split at hx
  ·simp at hx
  ·rw[Ad.mp hx];exact ht
 |u::r,h,ht,x,hx=>by
  have hr:∀x∈r,lxl x.1 q=true:=λy hy=>h y (AD _ hy)
  have hu:=h u (AH ..)
  unfold ins at hx
  split at hx
  ·split at hx
   ·exact hr x hx
   ·rcases AI.mp hx with rfl|hx
    ·exact hu
    ·exact hr x hx
  ·split at hx
   ·split at hx
    ·exact h x hx
    ·rcases AI.mp hx with rfl|hx
     ·exact ht
     ·exact h x hx
   ·rcases AI.mp hx with rfl|hx
    ·exact hu
    ·exact yE_ t hr ht x hx
theorem yB_(t:Mon):∀{l:List Mon},Canon l->Canon (ins t l)
 |[],_=>by
  unfold ins
  split
  ·exact⟨.nil,λx hx=>by simp at hx⟩
  ·rename_i h
   exact⟨DV _ _,λx hx=>by rw[Ad.mp hx];exact h⟩
 |u::r,h=>by
  obtain⟨o1,o2⟩:=Ar.mp h.ord
  have nr:∀x∈r,x.2≠0:=λx hx=>h.num x (AD _ hx)
  have nu:=h.num u (AH ..)
  unfold ins
  split
  ·split
   ·exact h.tail
   ·rename_i z
    refine⟨Ar.mpr ⟨o1,o2⟩,λx hx=>?_⟩
    rcases AI.mp hx with rfl|hx
    ·exact z
    ·exact nr x hx
  ·rename_i ne
   split
   ·rename_i lt
    split
    ·exact h
    ·rename_i z
     refine⟨Ar.mpr ⟨λx hx=>?_,h.ord⟩,λx hx=>?_⟩
     ·rcases AI.mp hx with rfl|hx
      ·exact lt
      ·exact zL_ (o1 x hx) lt
     ·rcases AI.mp hx with rfl|hx
      ·exact z
      ·exact h.num x hx
   ·rename_i lt
    have c:=yB_ t h.tail
    have tu:lxl t.1 u.1=true:=by
     cases k:lxl t.1 u.1 with
     |true=>rfl
     |false=>exact absurd (zY_ k (by simpa using lt)) ne
    refine⟨Ar.mpr ⟨λx hx=>yE_ t o1 tu x hx,c.ord⟩,λx hx=>?_⟩
    rcases AI.mp hx with rfl|hx
    ·exact nu
    ·exact c.num x hx
def norm(ts:List Mon):List Mon:=ts.foldr ins []
theorem qZ_:∀ts:List Mon,Canon (norm ts)
 |[]=>⟨.nil,λx hx=>by simp [norm]at hx⟩
 |t::r=>yB_ t (qZ_ r)
theorem zs_(p:Pw):∀ts:List Mon,cf (norm ts) p=cf ts p
 |[]=>rfl
 |t::r=>by
  show cf (ins t (norm r)) p=_
  rw[abq_,zs_ p r]
  rfl
theorem yo_{l ts:List Mon}(c:Canon l)(e:∀p,cf l p=cf ts p):l=norm ts:=xQ_ c (qZ_ ts) λp=>by rw[e,zs_]
theorem abi_{a b:List Mon}(e:∀p,cf a p=cf b p):norm a=norm b:=xQ_ (qZ_ a) (qZ_ b) λp=>by rw[zs_,zs_,e]
theorem acg_{l:List Mon}(c:Canon l):norm l=l:=(yo_ c λ_=>rfl).symm
theorem zh_{ts:List Mon}{t:Mon}(h:t∈norm ts):∃u∈ts,u.1=t.1:=by
 have c:=qZ_ ts
 have:cf (norm ts) t.1=t.2:=by
  have key:∀l:List Mon,Canon l->t∈l->cf l t.1=t.2:=by
   intro l
   induction l with
   |nil=>intro _ hm;simp at hm
   |cons u l ih =>
    intro c hm
    rcases AI.mp hm with e|hm
    ·subst e;exact c.head
    ·have o:=(Ar.mp c.ord).1 t hm
     simp only[cf]
     rw[if_neg (λe=>by rw[e,z0_]at o;cases o),ih c.tail hm]
     lia
  exact key _ c h
 rw[zs_]at this
 false_or_by_contra
 rename_i n
 have z:cf ts t.1=0:=zM_ λu hu e=>n ⟨u,hu,e⟩
 exact c.num t h (by lia)
theorem aah_(t:Mon):∀l:List Mon,(ins t l).length<=l.length+1
 |[]=>by unfold ins;split<;>simp
 |u::r=>by
  unfold ins
  split
  ·split
   ·simp;lia
   ·simp
  ·split
   ·split<;>simp
   ·have:=aah_ t r;simp;lia
theorem jY_:∀ts:List Mon,(norm ts).length<=ts.length
 |[]=>AB _
 |t::r=>by
  have h1:=aah_ t (norm r)
  have h2:=jY_ r
  show(ins t (norm r)).length<=r.length+1
  lia
def q7_(d:List Mon)(p:Pw):Option Int:=(d.find? λkv=>decide (kv.1=p)).map (·.2)
def jq_(d:List Mon)(p:Pw)(n:Int):List Mon:=if (d.any λkv=>decide (kv.1=p))=true then d.map (λkv=>if kv.1=p then (kv.1,n) else kv) else d++[(p,n)]
abbrev Nd(d:List Mon):Prop:=(d.map (·.1)).Nodup
theorem yj_:∀{d:List Mon},Nd d->∀p,(q7_ d p).getD 0=cf d p
 |[],_,p=>rfl
 |t::r,h,p=>by
  obtain⟨h1,h2⟩:=Bu.mp (show(t.1::r.map (·.1)).Nodup from h)
  simp only[cf]
  by_cases e:t.1=p
  ·subst e
   have z:cf r t.1=0:=zM_ λu hu e=>h1 (e▸Az.mpr ⟨u,hu,rfl⟩)
   simp [q7_,BN,z]
  ·have ih:=yj_ h2 p
   rw[if_neg e,<-ih]
   simp [q7_,BN,e]
theorem yG_(d:List Mon)(p:Pw)(n:Int):(jq_ d p n).map (·.1)=if p∈d.map (·.1) then d.map (·.1) else d.map (·.1)++[p]:=by
 unfold jq_
 have ha:(d.any λkv=>decide (kv.1=p))=true↔p∈d.map (·.1):=by simp
 by_cases c:p∈d.map (·.1)
 ·rw[if_pos (ha.mpr c),if_pos c,Cj]
  apply CF
  intro x _
  simp only[Function.comp]
  split<;>rfl
 ·rw[if_neg (λz=>c (ha.mp z)),if_neg c,Av]
  rfl
theorem age_{d:List Mon}(h:Nd d)(p:Pw)(n:Int):Nd (jq_ d p n):=by
 unfold Nd
 rw[yG_]
 split
 ·exact h
 ·rename_i c
  exact List.nodup_append.mpr ⟨h,by simp,λa ha b hb e=>by
   rw[Ad.mp hb]at e
   exact c (e▸ha)⟩
theorem agc_{d:List Mon}(h:Nd d)(p:Pw)(n:Int)(q:Pw):cf (jq_ d p n) q=if p=q then n else cf d q:=by
 unfold jq_
 by_cases c:(d.any λkv=>decide (kv.1=p))=true
 ·rw[if_pos c]
  have key:∀l:List Mon,Nd l->(l.any λkv=>decide (kv.1=p))=true->cf (l.map λkv=>if kv.1=p then (kv.1,n) else kv) q=if p=q then n else cf l q:=by
   intro l
   induction l with
   |nil=>intro _ z;simp at z
   |cons t r ih =>
    intro hn ha
    obtain⟨h1,h2⟩:=Bu.mp (show(t.1::r.map (·.1)).Nodup from hn)
    rw[Ab]
    by_cases e:t.1=p
    ·subst e
     have same:(r.map λkv=>if kv.1=t.1 then (kv.1,n) else kv)=r:=by
      conv=>rhs;rw[<-List.map_id r]
      apply CF
      intro x hx
      have ne:¬ x.1=t.1:=λe=>h1 (by rw[<-e];exact Az.mpr ⟨x,hx,rfl⟩)
      rw[if_neg ne]
      rfl
     rw[if_pos rfl,same]
     simp only[cf]
     by_cases e2:t.1=q
     ·rw[if_pos e2,if_pos e2]
      have z:cf r q=0:=zM_ λu hu e=>h1 (by rw[e2,<-e];exact Az.mpr ⟨u,hu,rfl⟩)
      lia
     ·rw[if_neg e2,if_neg e2,if_neg e2]
    ·have ha':(r.any λkv=>decide (kv.1=p))=true:=by simpa [CB,e]using ha
     rw[if_neg e]
     simp only[cf]
     rw[ih h2 ha']
     by_cases e2:p=q
     ·rw[if_pos e2,if_neg (λz=>e (z.trans e2.symm)),if_pos e2];lia
     ·rw[if_neg e2,if_neg e2]
  exact key d h c
 ·rw[if_neg c,xt_]
  simp only[cf]
  by_cases e:p=q
  ·subst e
   rw[if_pos rfl,if_pos rfl]
   have z:cf d p=0:=zM_ λu hu e=>c (List.any_eq_true.mpr ⟨u,hu,decide_eq_true e⟩)
   lia
  ·rw[if_neg e,if_neg e];lia
def qI_(ts:List Mon):List Mon:=ts.foldl (λd t=>jq_ d t.1 ((q7_ d t.1).getD 0+t.2)) []
theorem zJ_(ts:List Mon)(t:Mon):qI_ (ts++[t])=jq_ (qI_ ts) t.1 ((q7_ (qI_ ts) t.1).getD 0+t.2):=by
 unfold qI_;rw[List.foldl_append];rfl
theorem jp_{α:Type}{P:List α->Prop}(h0:P [])(hs:∀l x,P l->P (l++[x])):∀l,P l:=by
 intro l
 rw[<-B8 l]
 induction l.reverse with
 |nil=>exact h0
 |cons x l ih=>rw[DC];exact hs _ _ ih
theorem jJ_:∀ts:List Mon,Nd (qI_ ts):=jp_ (by simp [qI_,Nd]) λl t h=>by rw[zJ_];exact age_ h _ _
theorem yi_(q:Pw):∀ts:List Mon,cf (qI_ ts) q=cf ts q:=jp_ rfl λl t h=>by
 rw[zJ_,agc_ (jJ_ l),xt_,yj_ (jJ_ l)]
 simp only[cf]
 by_cases e:t.1=q
 ·rw[if_pos e,if_pos e,e,h];lia
 ·rw[if_neg e,if_neg e,h];lia
theorem afc_(d:List Mon)(p:Pw)(n:Int):(jq_ d p n).length<=d.length+1:=by
 unfold jq_
 split<;>simp
theorem j1_:∀ts:List Mon,(qI_ ts).length<=ts.length:=jp_ (AB _) λl t h=>by
 rw[zJ_]
 have:=afc_ (qI_ l) t.1 ((q7_ (qI_ l) t.1).getD 0+t.2)
 simp
 lia
theorem ae3_{p:Pw}:∀ts:List Mon,p∈(qI_ ts).map (·.1)->p∈ts.map (·.1):=jp_ (by simp [qI_]) λl t h hp=>by
 rw[zJ_,yG_]at hp
 rw[Av]
 split at hp
 ·exact Ay _ (h hp)
 ·rcases Aa.mp hp with z|z
  ·exact Ay _ (h z)
  ·exact AV _ (by rw[Ad.mp z];simp)
theorem ab9_{d:List Mon}{p:Pw}(h:p∈d.map (·.1)):∃n,q7_ d p=some n:=by
 obtain⟨x,hx,e⟩:=Az.mp h
 unfold q7_
 cases c:d.find? λkv=>decide (kv.1=p) with
 |none=>exact absurd (decide_eq_true e) (by simpa using List.find?_eq_none.mp c x hx)
 |some y=>exact⟨y.2,rfl⟩
theorem xb_(p:Pw):∀l:List Mon,cf (l.filter λt=>decide (t.2≠0)) p=cf l p
 |[]=>rfl
 |t::r=>by
  rw[BS]
  by_cases c:t.2≠0
  ·rw[if_pos (decide_eq_true c)]
   simp only[cf,xb_ p r]
  ·rw[if_neg (by simpa using c)]
   simp only[cf,xb_ p r]
   split<;>lia
theorem afb_{ts l:List Mon}(hp:l.Perm ((qI_ ts).filter λt=>decide (t.2≠0)))(ho:l.Pairwise λa b=>tlt a b=false):l=norm ts:=by
 refine yo_ ⟨?_,λt ht=>?_⟩ λp=>?_
 ·have nd:(l.map (·.1)).Nodup:=((hp.map (·.1)).nodup_iff).mpr ((jJ_ ts).sublist (D7.map _))
  rw[List.Nodup,DF]at nd
  refine(Dp.mpr ⟨ho,nd⟩).imp λ{a b} h=>?_
  obtain⟨h1,h2⟩:=h
  unfold tlt at h1
  rw[if_neg h2]at h1
  cases c:lxl b.1 a.1 with
  |true=>rfl
  |false=>exact absurd (zY_ h1 c) h2
 ·have:=(Ce.mp (hp.mem_iff.mp ht)).2
  simpa using this
 ·rw[ag7_ hp,xb_,yi_]
theorem agp_{ts:List Mon}{ks:List Pw}(hp:ks.Perm ((qI_ ts).map (·.1)))(ho:ks.Pairwise λa b=>lxl a b=false) :
  (ks.filter λk=>decide ((q7_ (qI_ ts) k).getD 0≠0)).map (λk=>(k,(q7_ (qI_ ts) k).getD 0))=norm ts:=by
 have nd:ks.Nodup:=(hp.nodup_iff).mpr (jJ_ ts)
 have so:ks.Pairwise λa b=>lxl b a=true:=(Dp.mpr ⟨ho,nd⟩).imp λ{a b} h=>by
  cases c:lxl b a with
  |true=>rfl
  |false=>exact absurd (zY_ h.1 c) h.2
 have g:∀p,(q7_ (qI_ ts) p).getD 0=cf ts p:=λp=>by rw[yj_ (jJ_ ts),yi_]
 have e:(ks.filter λk=>decide ((q7_ (qI_ ts) k).getD 0≠0)).map (λk=>(k,(q7_ (qI_ ts) k).getD 0))=(ks.filter λk=>decide (cf ts k≠0)).map λk=>(k,cf ts k):=by
  simp only[g]
 rw[e]
 refine yo_ ⟨?_,λt ht=>?_⟩ λp=>?_
 ·rw[DF]
  exact so.sublist D7
 ·obtain⟨k,hk,rfl⟩:=Az.mp ht
  simpa using (Ce.mp hk).2
 ·have key:∀l:List Pw,l.Nodup->cf ((l.filter λk=>decide (cf ts k≠0)).map λk=>(k,cf ts k)) p=if p∈l then cf ts p else 0:=by
   intro l
   induction l with
   |nil=>intro _;rfl
   |cons a l ih =>
    intro hn
    obtain⟨h1,h2⟩:=Bu.mp hn
    have ih':=ih h2
    rw[BS]
    by_cases c:cf ts a≠0
    ·rw[if_pos (decide_eq_true c),Ab]
     simp only[cf]
     rw[ih']
     by_cases e:a=p
     ·subst e
      rw[if_pos rfl,if_neg h1,if_pos (AH ..)];lia
     ·rw[if_neg e]
      by_cases m:p∈l
      ·rw[if_pos m,if_pos (AD _ m)];lia
      ·rw[if_neg m,if_neg (λz=>(AI.mp z).elim (λq=>e q.symm) m)];lia
    ·rw[if_neg (by simpa using c),ih']
     have c':cf ts a=0:=by lia
     by_cases e:a=p
     ·subst e
      rw[if_neg h1,if_pos (AH ..),c']
     ·by_cases m:p∈l
      ·rw[if_pos m,if_pos (AD _ m)]
      ·rw[if_neg m,if_neg (λz=>(AI.mp z).elim (λq=>e q.symm) m)]
  rw[key ks nd]
  by_cases m:p∈ks
  ·rw[if_pos m]
  ·rw[if_neg m,<-yi_ p ts]
   exact(zM_ λu hu e=>m (hp.mem_iff.mpr (Az.mpr ⟨u,hu,e⟩))).symm
end L2.Pl
namespace L2.Ev
open PySem PySem.Spec PyProof.Rows
open L2.Ts L2.Pl
theorem aff_:∀a b:List Int,HT.lexLt a b=lxl a b
 |[],[]=>by rw[HT.lexLt_nil_nil];rfl
 |[],_::_=>by rw[HT.lexLt_nil_cons];rfl
 |_::_,[]=>by rw[HT.lexLt_cons_nil];rfl
 |x::xs,y::ys=>by
  rw[HT.lexLt_cons]
  simp only[lxl]
  split
  ·exact aff_ xs ys
  ·rfl
section
variable{prog:Program}{w:World}{A:Around}{E:Value->Shared->Prop}{s:Shared}{b fin:Bool}{Q:Bool->Shared->Prop}
theorem vw_:∀{vs ws:List Value}{ns ms:List Int}{i:Nat},IntsAre vs ns->IntsAre ws ms->(fin=decide (ns.length<ms.length))->Q (lxl ns ms) s->PySem.W.KatLex prog w A b fin Q (vs.zip ws) i s
 |[],[],_,_,i,.nil,.nil,e,q=>by
  subst e
  exact Ck q
 |[],_::_,_,_,i,.nil,.cons _ _ _,e,q=>by
  subst e
  refine Ck ?_
  simpa [lxl]using q
 |_::_,[],_,_,i,.cons _ _ _,.nil,e,q=>by
  subst e
  refine Ck ?_
  simpa [lxl]using q
 |_,_,_,_,i,.cons a t hv,.cons c u hw,e,q=>by
  rw[C2]
  simp only[lxl]at q
  obtain⟨eq,he,hiff⟩:=HT.eqAt_int A s a t c u
  refine DL (he prog w _ _ ?_)
  cases eq with
  |true =>
   rw[if_pos (hiff.mp rfl)]at q
   refine Da (vw_ hv hw ?_ q)
   rw[e]
   simp
  |false =>
   rw[if_neg (λz=>absurd (hiff.mpr z) AL)]at q
   refine Dq ?_
   cases hb:(b&&i==0) with
   |true=>exact oneLt_int q
   |false =>
    refine Db _ _ ?_
    exact Cr q
end
section
variable{X:Cx}{pins:List (Addr×Obj)}{σ:St}{H:Hp}{s:Shared}
class Srtd (α:Type) [D:Dat α] where
 lt:α->α->Bool
 lin:Lin lt
 plain:Bool
 ok:α->Prop
 first:∀{X:Cx}{pins:List (Addr×Obj)}{σ:St}{H:Hp}{s:Shared}{v:V}{a:α},Inv X pins σ H s->D.is H v a->ok a ->
  ∃(p:Addr)(o:Obj)(xs:Array Value)(n:Nat)(f:Value),RelV v (.ref p)/\s.heap.get? p=some o/\o.cls=.type "tuple" /\ o.data=.seq xs n/\xs[0]?=some f/\PySem.W.Looks (model X.prog X.w) s.heap (typeOf f) (if plain=true then .type "int" else .type "tuple")
 asks:∀{X:Cx}{pins:List (Addr×Obj)}{σ:St}{H:Hp}{s:Shared}{A:Around}{v v':V}{u u':Value}{a b:α},Inv X pins σ H s->A.units+4<cLine->D.is H v a->D.is H v' b->ok a->ok b->RelV v u->RelV v' u' ->
  ∀Q:Bool->Shared->Prop,Q (lt a b) s->wpAny (model X.prog X.w) A (keyLt' (tuples' plain) u u') Q (λ_ _=>False) s
theorem z6_{H:Hp}{v:V}{r:List Int}(h:Dat.is H v r):∃p,v=.ref p/\H p=some (.tup (r.map V.int)):=by
 obtain⟨p,vs,e,q,i⟩:=h
 have ei:∀{vs:List V}{ns:List Int},Its H vs ns->vs=ns.map V.int:=by
  intro vs ns i
  induction i with
  |nil=>rfl
  |cons r t ih=>rw[Ab,<-ih];exact congrArg (· :: _) r
 rw[ei i]at q
 exact⟨p,e,q⟩
theorem acm_{H:Hp}{p:Addr}{r:List Int}(h:H p=some (.tup (r.map V.int))):Dat.is H (.ref p) r:=by
 have ei:∀ns:List Int,Its H (ns.map V.int) ns:=by
  intro ns
  induction ns with
  |nil=>exact .nil
  |cons n r ih=>exact .cons rfl ih
 exact⟨p,_,rfl,h,ei r⟩
theorem zU_{a:Addr}{xs:List V}(I:Inv X pins σ H s)(h:H a=some (.tup xs)):∃(o:Obj)(its:List Value)(n:Nat),s.heap.get? a=some o/\o.cls=.type "tuple" /\ o.data=.seq its.toArray n/\Vals xs its:=by
 obtain⟨its,rv,ht,_⟩:=I.tuple (SqT.of h)
 obtain⟨o,ho,hc,n,hd⟩:=ht
 exact⟨o,its,n,ho,hc,hd,rv⟩
instance srtList:Srtd (List Int) where
 lt:=lxl
 lin:=agy_
 plain:=true
 ok:=λa=>a≠[]
 first:=λ{X pins σ H s v a} I h ok=>by
  obtain⟨p,rfl,hp⟩:=z6_ h
  obtain⟨o,its,n,ho,hc,hd,rv⟩:=zU_ I hp
  cases a with
  |nil=>exact absurd rfl ok
  |cons x a =>
   rw[Ab]at rv
   cases rv with
   |cons r t =>
    obtain⟨tk,rfl⟩:=r
    exact⟨p,o,_,n,_,rfl,ho,hc,hd,rfl,PySem.W.Looks.of_pure rfl⟩
 asks:=λ{X pins σ H s A v v' u u' a b} I hu h h' ok ok' r r' Q q=>by
  obtain⟨p,rfl,hp⟩:=z6_ h
  obtain⟨p',rfl,hp'⟩:=z6_ h'
  obtain⟨o,its,n,ho,hc,hd,rv⟩:=zU_ I hp
  obtain⟨o',its',n',ho',hc',hd',rv'⟩:=zU_ I hp'
  cases r
  cases r'
  refine PySem.W.kat_lt ho hd ho' hd' (vw_ (zq_ rv) (zq_ rv') ?_ q)
  have l1:=rv.length
  have l2:=rv'.length
  simp only[AF]at l1 l2
  simp only[AS]
  rw[l1,l2]
instance srtTm:Srtd (List Int×Int) where
 lt:=tlt
 lin:=ahb_
 plain:=false
 ok:=λ_=>True
 first:=λ{X pins σ H s v a} I h ok=>by
  obtain⟨p,x,y,rfl,hp,hx,hy⟩:=h
  obtain⟨o,its,n,ho,hc,hd,rv⟩:=zU_ I hp
  obtain⟨p2,rfl,hp2⟩:=z6_ hx
  obtain⟨o2,its2,n2,ho2,hc2,hd2,rv2⟩:=zU_ I hp2
  obtain⟨w1,w2,rfl,r1,r2⟩:=z2_ rv
  cases r1
  refine⟨p,o,_,n,_,rfl,ho,hc,hd,rfl,?_⟩
  rw[if_neg (by decide),<-hc2]
  exact(PySem.W.Looks.ld ho2).andThen .now
 asks:=λ{X pins σ H s A v v' u u' a b} I hu h h' ok ok' r r' Q q=>by
  obtain⟨p,x,y,rfl,hp,hx,hy⟩:=h
  obtain⟨p',x',y',rfl,hp',hx',hy'⟩:=h'
  obtain⟨o,its,n,ho,hc,hd,rv⟩:=zU_ I hp
  obtain⟨o',its',n',ho',hc',hd',rv'⟩:=zU_ I hp'
  cases r
  cases r'
  obtain⟨w1,w2,rfl,r1,r2⟩:=z2_ rv
  obtain⟨z1,z2,rfl,t1,t2⟩:=z2_ rv'
  refine PySem.W.kat_lt ho hd ho' hd' ?_
  show PySem.W.KatLex _ _ _ _ _ _ [(w1,z1),(w2,z2)] 0 s
  have e1:=Dat.eqAt (A:=A) I (by show A.units+(0+1)<cLine;omega) hx hx' r1 t1
  refine DL (e1 _ _ _ _ ?_)
  unfold tlt at q
  cases c:Dat.eqb a.1 b.1 with
  |true =>
   have e:=(Dat.eqb_iff a.1 b.1).mp c
   rw[if_pos e]at q
   refine Da ?_
   have hy2:y=.int a.2:=hy
   have hy2':y'=.int b.2:=hy'
   subst hy2 hy2'
   obtain⟨k1,rfl⟩:=r2
   obtain⟨k2,rfl⟩:=t2
   obtain⟨eq,he,hiff⟩:=HT.eqAt_int A s a.2 k1 b.2 k2
   refine DL (he _ _ _ _ ?_)
   cases eq with
   |true =>
    have e2:=hiff.mp rfl
    rw[decide_eq_false (by omega)]at q
    refine Da (Ck ?_)
    simpa using q
   |false =>
    refine Dq (Db _ _ ?_)
    exact Cr q
  |false =>
   have e:¬ a.1=b.1:=λz=>by rw[(Dat.eqb_iff a.1 b.1).mpr z]at c;cases c
   rw[if_neg e]at q
   refine Dq (Db _ _ ?_)
   obtain⟨p2,rfl,hp2⟩:=z6_ hx
   obtain⟨p2',rfl,hp2'⟩:=z6_ hx'
   cases r1
   cases t1
   obtain⟨its,r1,q1,_⟩:=I.tuple (SqT.of hp2)
   obtain⟨its2,r2,q2,_⟩:=I.tuple (SqT.of hp2')
   have i1:IntsAre its.toArray.toList a.1:=zq_ r1
   have i2:IntsAre its2.toArray.toList b.1:=zq_ r2
   refine HT.lt_tupInts q1 q2 i1 i2 (by omega) ?_
   rw[aff_]
   exact q
end
end L2.Ev
namespace L2.Ts
open PySem PyProof.Rows
section
variable{prog:Program}{w:World}{A:Around}{E:Value->Shared->Prop}{s:Shared}{κ:SortKind}{M:Keyed->Prop}{rk:Keyed->Nat}
theorem vn_(vs:List Value):(vs.zip vs).map (·.2)=vs:=List.map_snd_zip (AB _)
theorem acd_{a:Addr}{vs:List Value}{n:Nat}{P:PySem.Fin->Shared->Prop}(ho:s.heap.get? a=some (seqObj "list" vs.toArray n))(hz:vs.length<=sizeLine)(hM:∀v∈vs,M (v,v))
  (hk:∀h',(∀b o,b≠a->s.heap.get? b=some o->h'.get? b=some o)->2<=vs.length->(∀(Q:SortKind->Shared->Prop)(E':Value->Shared->Prop),Q κ { s with heap:=h' }->wpAny (model prog w) A (keyKind' vs.toArray) Q E' { s with heap:=h' })/\Ask prog w A { s with heap:=h' } κ M rk)
  (h:∀out:List Value,out.Perm vs->(out.Pairwise λx y=>rk (y,y)<=rk (x,x))->P (.done (.ret .none)) { s with heap:=sortedHeap s.heap a vs out.toArray }) :
  wpAny (model prog w) A (Builtin.«list.sort» ⟨[.ref a],[(Str.ofString "reverse",.bool true)]⟩) P E s:=by
 rw[list_sort_rev]
 have ha:a<s.heap.objs.size:=AG ho
 have hsz:vs.toArray.size=vs.length:=by simp
 refine wpAny_bind (listItems_at ho rfl (wpAny_bind (listUpdate_at ho rfl ?_ (by rw[hsz];exact hz) (by simp))))
 obtain⟨e1,ho1⟩:∃e1,(s.heap.update a (Obj.mapSeq λ_=>#[])).get? a=some (seqObj "list" #[] e1):=⟨_,get?_update_seq ho (λ_=>#[])⟩
 refine wpAny_bind (seqEpoch_at ho1 rfl (wpAny_bind (wpAny_newTuple ?_ (by simpa using hz))))
 refine wpAny_bind (wpAny_newList (wpAny_holding ?_))
 have ho6:(((s.heap.update a (Obj.mapSeq λ_=>#[])).push (seqObj "tuple" vs.toArray 0)).push (seqObj "list" #[] 0)).get? a=some (seqObj "list" #[] e1):=by
  rw[Heap.get?_push_ne _ _ _ (by rw[size_push',DM];exact AT (Nat.lt_succ_of_lt ha)),Heap.get?_push_ne _ _ _ (by rw[DM];exact AT ha)]
  exact ho1
 have keep:∀b o,b≠a->s.heap.get? b=some o->(((s.heap.update a (Obj.mapSeq λ_=>#[])).push (seqObj "tuple" vs.toArray 0)).push (seqObj "list" #[] 0)).get? b=some o:=λb o hb e =>
  AA _ (AA _ ((Ah _ _ (BP hb)).trans e))
 show wpAny (model prog w) A _ P E { s with heap:=((s.heap.update a (Obj.mapSeq λ_=>#[])).push (seqObj "tuple" vs.toArray 0)).push (seqObj "list" #[] 0) }
 dsimp only
 simp only[if_true]
 refine wpAny_bind (wpAny_rule ?_)
 by_cases h2:vs.toArray.size<2
 ·rw[if_pos h2,if_pos h2]
  refine wpAny_bind (wpAny_pure ?_)
  rw[StateT.run_pure]
  refine wpAny_bind (wpAny_pure ?_)
  dsimp only
  have eo:((arrOf (SortSt.mk' general' (vs.toArray.zip vs.toArray).reverse #[] 7 none)).map (·.2)).reverse=vs.toArray:=by
   show((vs.toArray.zip vs.toArray).reverse.map (·.2)).reverse=vs.toArray
   apply Array.ext'
   simp only[Bj,Array.toList_map,Array.toList_zip,List.map_reverse,B8]
   exact vn_ vs
  refine wpAny_bind (seqEpoch_at ho6 rfl (wpAny_bind (listUpdate_at ho6 rfl ?_ (by simp) ?_)))
  ·simp only[bne_self_eq_false,Ag,if_false]
   refine wpAny_pure ?_
   have q:=h vs (List.Perm.refl _) (by
    match vs,hsz,h2 with
    |[],_,_=>exact .nil
    |[x],_,_=>exact DV _ _
    |_::_::_,_,h2=>exfalso;simp at h2;lia)
   unfold sortedHeap at q
   rw[eo]
   exact q
  ·rw[eo,hsz];lia
 ·rw[if_neg h2,if_neg h2]
  obtain⟨k1,k2⟩:=hk _ keep (by lia)
  refine wpAny_bind (k1 _ _ ?_)
  have all:All M (arrOf (SortSt.mk' κ (vs.toArray.zip vs.toArray).reverse #[] 7 none)):=λi p hp=>by
   have hm:p∈(vs.toArray.zip vs.toArray).reverse:=Dn hp
   have hm2:p∈vs.zip vs:=by
    have:p∈(vs.toArray.zip vs.toArray).toList:=by simpa using Array.mem_reverse.mp hm
    simpa using this
   obtain⟨e,m⟩:=mem_zip_self hm2
   have:p=(p.1,p.1):=Dx rfl e.symm
   rw[this]
   exact hM _ m
  have z0:(arrOf (SortSt.mk' κ (vs.toArray.zip vs.toArray).reverse #[] 7 none)).size=vs.length:=by
   show(vs.toArray.zip vs.toArray).reverse.size=vs.length
   simp
  refine wpAny_bind (wpAny_mono (ahg_ k2 (st:=SortSt.mk' κ (vs.toArray.zip vs.toArray).reverse #[] 7 none) (Q:=λ_ st'=>(arrOf st').Perm (vs.toArray.zip vs.toArray).reverse/\failedOf st'=none/\Srt rk (arrOf st') 0 vs.length) rfl all rfl rfl (by rw[z0];lia)
   λst' a1 a2 a3=>⟨a1,a2,by rw[z0]at a3;exact a3⟩) ?_ λ_ _ e=>e)
  rintro⟨⟨⟩,st'⟩ s' ⟨rfl,hp,hf,hs⟩
  dsimp only
  have zs:(arrOf st').size=vs.length:=by rw[hp.size_eq];exact z0
  have lp:(arrOf st').toList.Perm (vs.zip vs):=by
   have:=C9.mp hp
   rw[Bj]at this
   exact this.trans ((List.reverse_perm _).trans (List.Perm.of_eq (by simp)))
  have eo:((arrOf st').map (·.2)).reverse=(((arrOf st').toList.map (·.2)).reverse).toArray:=by
   apply Array.ext'
   simp
  refine wpAny_bind (seqEpoch_at ho6 rfl (wpAny_bind (listUpdate_at ho6 rfl ?_ (by simp) ?_)))
  ·rw[hf]
   simp only[bne_self_eq_false,Ag,if_false]
   refine wpAny_pure ?_
   have q:=h (((arrOf st').toList.map (·.2)).reverse) ?_ ?_
   ·unfold sortedHeap at q
    rw[eo]
    exact q
   ·have:=lp.map (·.2)
    rw[vn_]at this
    exact(List.reverse_perm _).trans this
   ·rw[List.pairwise_reverse,DF]
    refine CK.mpr λi j hi hj hij=>?_
    have li:i<(arrOf st').size:=by simpa using hi
    have lj:j<(arrOf st').size:=by simpa using hj
    have q:=hs i j (AU _) (BE hij) (by lia)
    rw[qx_ (AC li),qx_ (AC lj)]at q
    have twin:∀p∈(arrOf st').toList,p=(p.2,p.2):=λp m=>Dx (mem_zip_self (lp.mem_iff.mp m)).1 rfl
    have ei:=twin (arrOf st').toList[i] (CT _)
    have ej:=twin (arrOf st').toList[j] (CT _)
    rw[<-ei,<-ej]
    simpa using q
  ·rw[Array.size_reverse,Array.size_map,zs];lia
theorem vK_{r:Addr}{vs:List Value}{Q:Value->Shared->Prop}(hz:vs.length<=sizeLine)(hM:∀v∈vs,M (v,v))
  (hc:∀(Q':List Value->Shared->Prop),(∀h' tk,(∀b o,s.heap.get? b=some o->h'.get? b=some o)->s.heap.objs.size<=h'.objs.size->Q' vs { s with heap:=h',toks:=tk })->wpAny (model prog w) A.in1 (collect (.ref r)) Q' E s)
  (hk:∀h' tk,(∀b o,s.heap.get? b=some o->h'.get? b=some o)->2<=vs.length->(∀(Q':SortKind->Shared->Prop)(E':Value->Shared->Prop),Q' κ { s with heap:=h',toks:=tk }->wpAny (model prog w) A.in1.in1 (keyKind' vs.toArray) Q' E' { s with heap:=h',toks:=tk })/\Ask prog w A.in1.in1 { s with heap:=h',toks:=tk } κ M rk)
  (h:∀h' tk D e (out:List Value),out.Perm vs->(out.Pairwise λx y=>rk (y,y)<=rk (x,x))->(∀b o,s.heap.get? b=some o->h'.get? b=some o)->s.heap.objs.size<=D->h'.get? D=some (seqObj "list" out.toArray e)->Q (.ref D) { s with heap:=h',toks:=tk }) :
  wpAny (model prog w) A (call (.builtin "sorted") [.ref r] [(Str.ofString "reverse",.bool true)]) Q E s:=by
 refine call_function_entry_kw kind_sorted plain_sorted entry_sorted (args_sorted_rev _ _) ?_
 unfold Builtin.«sorted»
 refine wpAny_bind (m:=checkCount "sorted" 1 1 _) (wpAny_pure ?_)
 refine wpAny_bind (hc _ λh' tk kp sz=>?_)
 refine wpAny_bind (wpAny_newList ?_ hz)
 have hoL:(h'.push (seqObj "list" vs.toArray 0)).get? h'.objs.size=some (seqObj "list" vs.toArray 0):=AE _ rfl
 have lt:∀b o,s.heap.get? b=some o->b<h'.objs.size:=λb o e=>AG (kp b o e)
 refine wpAny_bind (wpAny_holding (wpAny_call_entry_kw slot_list_sort ⟨_,hoL,rfl⟩ entry_list_sort (acd_ (s:={ s with heap:=h'.push (seqObj "list" vs.toArray 0),toks:=tk }) (κ:=κ) (M:=M) (rk:=rk) hoL hz hM (λh2 k2 l2=>?_) λout p o=>⟨_,rfl,?_⟩) (args_list_sort_rev _ _)))
 ·exact hk h2 tk (λb o e=>k2 b o (AT (lt b o e)) (AA _ (kp b o e))) l2
 ·obtain⟨c,hc'⟩:=sortedHeap_at (vs:=vs) (out:=out.toArray) hoL
  refine wpAny_pure ⟨_,rfl,h _ tk h'.objs.size c out p o (λb o e=>?_) sz hc'⟩
  have ne:b≠h'.objs.size:=AT (lt b o e)
  unfold sortedHeap
  refine(Ah _ _ (BP ne)).trans (AA _ (AA _ ((Ah _ _ (BP ne)).trans (AA _ (kp b o e)))))
end
end L2.Ts
namespace L2.Rw
open PySem PySem.W PySem.Calls PyProof.Rows PySem.Spec
section
variable{prog:Program}{w:World}{A:Around}{E:Value->Shared->Prop}{s:Shared}{d:Addr}{es:Array DictEntry}{ep:Nat}
theorem ag4_(lo:(d==sysModules)=false):KdlSrc prog w "dict" d d es.size (λi v=>∃h:i<es.size,v=es[i].key) (λh=>RawD h d es ep) where
 type:=λ_ hm=>hm.type
 there:=λ_ hm=>⟨hm.lt,hm.lt⟩
 keep:=λ_ _ hm hk=>hm.keep λo e=>hk d (.inl rfl) o e
 notList:=by decide
 notTuple:=by decide
 hint:=λ_ _ _ _ hm hq=>kdl_hint_dict hm.type hq
 iter:=λ_ _ hh hm=>⟨_,_,(λ_ _ hq=>ae0_ lo hm hq),abr_ hh _ d (AT hm.lt) es ep,⟨⟨_,AE _ rfl,rfl,rfl⟩,hm.keep λo e=>AA _ e⟩⟩
theorem vM_{T:String}{r:Addr}{n:Nat}{P:Nat->Value->Prop}{OK:Heap->Prop}{Q:List Value->Shared->Prop}(K:KdlSrc prog w T r d n P OK)(hh:A.handled=none)(hok:OK s.heap)(hn:n<=sizeLine)
  (hQ:∀h' tk acc,(∀b o,s.heap.get? b=some o->h'.get? b=some o)->s.heap.objs.size<=h'.objs.size->ItemsOf P acc n->Q acc.toList { s with heap:=h',toks:=tk }):wpAny (model prog w) A (collect (.ref r)) Q E s:=by
 obtain⟨tr,td⟩:=K.there _ hok
 unfold collect
 refine wpAny_bind (wpAny_runValue (codeAny_builtin PySem.F.entry_proto_collect ?_))
 rw[Around.under_plainId PySem.F.plain_proto_collect _]
 show wpAny _ A.in1 (newList []>>=λl=>again (.builtin "list.__iadd__" ⟨[l,.ref r],[]⟩)) _ _ s
 refine wpAny_bind (wpAny_newObj_type (wpAny_pure ⟨plainId_quiet DW _,codeAny_builtin PySem.F.entry_list_iadd ?_⟩))
 rw[Around.under_plainId DW _]
 have hok1:=K.keep _ (s.heap.push { cls:=.type "list",data:=.seq ([]:List Value).toArray }) hok λb _ o e=>AA _ e
 have key:=kdl_extend (A:=A) (s:={ s with heap:=s.heap.push { cls:=.type "list",data:=.seq ([]:List Value).toArray } })
  (R:=λ(q:Result)(s':Shared)=>∃(h':Heap)(tk:Nat)(acc:Array Value)(c:Nat),q=.ok (.ret (.ref s.heap.objs.size))/\s'={ s with heap:=h',toks:=tk }/\(∀b o,s.heap.get? b=some o->h'.get? b=some o)/\h'.get? s.heap.objs.size=some { cls:=.type "list",dict:=none,data:=.seq acc c,slots:=#[] }/\ItemsOf P acc n)
  K hh hok1 s.heap.objs.size (Bh tr) (Bh td) (.ref s.heap.objs.size) 0 (AE _ rfl)
  (λh' tk acc c kp hS it=>⟨h',tk,acc,c,rfl,rfl,λb o e=>kp b o (AT (AG e)) (AA _ e),hS,it⟩) hn
 have fin:∀(q:Result)(s':Shared),(∃(h':Heap)(tk:Nat)(acc:Array Value)(c:Nat),q=.ok (.ret (.ref s.heap.objs.size))/\s'={ s with heap:=h',toks:=tk }/\(∀b o,s.heap.get? b=some o->h'.get? b=some o)/\h'.get? s.heap.objs.size=some { cls:=.type "list",dict:=none,data:=.seq acc c,slots:=#[] }/\ItemsOf P acc n) ->
   q=.ok (.ret (.ref s.heap.objs.size))/\wpAny (model prog w) A (load s.heap.objs.size>>=λo=>match o.data with|.seq xs _=>pure xs.toList|_=>unsupported "internal:collect") Q E s':=by
  rintro q s' ⟨h',tk,acc,c,rfl,rfl,kp,hS,it⟩
  exact⟨rfl,wpAny_bind (wpAny_load hS (wpAny_pure (hQ h' tk acc kp (BE (AG hS)) it)))⟩
 refine wpAny_mono key (λf s' x=>?_) λe s' x=>?_
 ·cases f with
  |done f =>
   obtain⟨e,q⟩:=fin _ _ x
   cases e
   exact q
  |again c₁ =>
   refine⟨x.1,codeAny_mono x.2 λq s₂ y=>?_⟩
   obtain⟨e,q⟩:=fin _ _ y
   subst e
   exact q
 ·obtain⟨e',_⟩:=fin _ _ x
  cases e'
end
end L2.Rw
namespace L2.Ev
open PySem PySem.Spec PyProof.Rows
def zp_(cells:List (Str×Addr)):List (Str×NameKind)->List (Str×Addr)->List (Str×Addr)
 |[],acc=>acc
 |(n,k)::r,acc=>if (k==NameKind.free)=true then zp_ cells r ((n,(cells.lookup n).getD 0)::acc) else zp_ cells r acc
theorem xd_{env:Env}(names:List (Str×NameKind))(h:∀x∈names,x.2=.free->∃c,env.cells.lookup x.1=some c)(acc:List (Str×Addr)) :
  (do
   let mut cs:=acc
   for (name,kind) in names do
    if kind==.free then cs:=(name,<-cellOf env name)::cs
   return cs:Sem (List (Str×Addr)))=pure (zp_ env.cells names acc):=by
 induction names generalizing acc with
 |nil=>simp [zp_]
 |cons x r ih =>
  obtain⟨n,k⟩:=x
  have hr:∀x∈r,x.2=.free->∃c,env.cells.lookup x.1=some c:=λx hx=>h x (AD _ hx)
  by_cases hk:k=.free
  ·subst hk
   obtain⟨c,hc⟩:=h (n,.free) AH rfl
   have ih':=ih hr ((n,c)::acc)
   simp only[B4,beq_self_eq_true,if_true,cellOf,hc,zp_,DN,pure_bind]at ih' ⊢
   exact ih'
  ·have hb:(k==NameKind.free)=false:=by simpa using hk
   have ih':=ih hr acc
   simp only[B4,hb,Ag,if_false,zp_,pure_bind]at ih' ⊢
   exact ih'
theorem jf_{cells:List (Str×Addr)}:∀{names:List (Str×NameKind)}{acc:List (Str×Addr)},(∀x∈names,x.2=.free->∃c,cells.lookup x.1=some c)->(∀x c,acc.lookup x=some c->cells.lookup x=some c) ->
  ∀x c,(zp_ cells names acc).lookup x=some c->cells.lookup x=some c
 |[],acc,_,ha,x,c,e=>ha x c e
 |(n,k)::r,acc,h,ha,x,c,e=>by
  have hr:∀x∈r,x.2=.free->∃c,cells.lookup x.1=some c:=λx hx=>h x (AD _ hx)
  unfold zp_ at e
  by_cases hk:(k==NameKind.free)=true
  ·rw[if_pos hk]at e
   refine jf_ hr (λy d e'=>?_) x c e
   obtain⟨c0,hc0⟩:=h (n,k) AH (by simpa using hk)
   rw[BU]at e'
   cases hy:y==n with
   |true =>
    rw[hy]at e'
    have e1:y=n:=by simpa using hy
    subst e1
    have e2:(cells.lookup y).getD 0=d:=by simpa using e'
    have hc1:cells.lookup y=some c0:=hc0
    rw[hc1]at e2 ⊢
    simpa using e2
   |false=>rw[hy]at e';exact ha y d e'
  ·rw[if_neg hk]at e
   exact jf_ hr ha x c e
theorem zI_{cells:List (Str×Addr)}:∀{names:List (Str×NameKind)}{acc:List (Str×Addr)}{x:Str},((∃c,acc.lookup x=some c)∨(x,NameKind.free)∈names)->∃c,(zp_ cells names acc).lookup x=some c
 |[],acc,x,h=>by
  rcases h with h|h
  ·exact h
  ·simp at h
 |(n,k)::r,acc,x,h=>by
  unfold zp_
  by_cases hk:(k==NameKind.free)=true
  ·rw[if_pos hk]
   refine zI_ ?_
   rw[BU]
   cases hy:x==n with
   |true=>exact .inl ⟨_,rfl⟩
   |false =>
    rcases h with h|h
    ·exact .inl h
    ·rcases AI.mp h with e|h
     ·injection e with e1 e2
      subst e1
      simp at hy
     ·exact .inr h
  ·rw[if_neg hk]
   refine zI_ ?_
   rcases h with h|h
   ·exact .inl h
   ·rcases AI.mp h with e|h
    ·injection e with e1 e2
     subst e2
     simp at hk
    ·exact .inr h
theorem mem_of_lookup{α β:Type}[BEq α][LawfulBEq α]:∀{l:List (α×β)}{x:α}{k:β},l.lookup x=some k->(x,k)∈l
 |[],_,_,h=>by simp at h
 |(n,j)::r,x,k,h=>by
  rw[BU]at h
  cases hy:x==n with
  |true =>
   rw[hy]at h
   have e1:x=n:=by simpa using hy
   have e2:j=k:=by simpa using h
   subst e1 e2
   exact AH
  |false=>rw[hy]at h;exact AD _ (mem_of_lookup h)
theorem qT_{env:Env}:∀{names:List (Str×NameKind)}{x:Str}{k:NameKind},(∀y∈names,y.2≠.cell)->(k=.cell∨k=.free) ->
  (names.map λ(n,k)=>if (k==NameKind.free&&env.scope.kind==.function&&env.kindOf n==some .cell) then (n,NameKind.cell) else (n,k)).lookup x=some k->(x,NameKind.free)∈names
 |[],_,_,_,_,h=>by simp at h
 |(n,j)::r,x,k,hc,hk,h=>by
  have hr:∀y∈r,y.2≠.cell:=λy hy=>hc y (AD _ hy)
  have hj:j≠.cell:=hc (n,j) AH
  have h':List.lookup x ((if (j==NameKind.free&&env.scope.kind==.function&&env.kindOf n==some .cell)=true then (n,NameKind.cell) else (n,j))::r.map λ(n,k)=>if (k==NameKind.free&&env.scope.kind==.function&&env.kindOf n==some .cell) then (n,NameKind.cell) else (n,k))=some k:=h
  by_cases c:(j==NameKind.free&&env.scope.kind==.function&&env.kindOf n==some .cell)=true
  ·rw[if_pos c,BU]at h'
   simp only[BI]at c
   have ej:j=.free:=by simpa using c.1.1
   cases hy:x==n with
   |true =>
    have e1:x=n:=by simpa using hy
    subst e1 ej
    exact AH
   |false=>rw[hy]at h';exact AD _ (qT_ hr hk h')
  ·rw[if_neg c,BU]at h'
   cases hy:x==n with
   |true =>
    rw[hy]at h'
    have e1:x=n:=by simpa using hy
    have e2:j=k:=by simpa using h'
    subst e1 e2
    rcases hk with hk|hk
    ·exact absurd hk hj
    ·subst hk;exact AH
   |false=>rw[hy]at h';exact AD _ (qT_ hr hk h')
theorem js_{env:Env}:∀{names:List (Str×NameKind)}{x:Str},names.lookup x=some .free ->
  (names.map λ(n,k)=>if (k==NameKind.free&&env.scope.kind==.function&&env.kindOf n==some .cell) then (n,NameKind.cell) else (n,k)).lookup x=some .cell ∨
  (names.map λ(n,k)=>if (k==NameKind.free&&env.scope.kind==.function&&env.kindOf n==some .cell) then (n,NameKind.cell) else (n,k)).lookup x=some .free
 |[],_,h=>by simp at h
 |(n,j)::r,x,h=>by
  have key:∀(z:Str×NameKind),z=(if (j==NameKind.free&&env.scope.kind==.function&&env.kindOf n==some .cell)=true then (n,NameKind.cell) else (n,j)) ->
   (List.lookup x (z::r.map λ(n,k)=>if (k==NameKind.free&&env.scope.kind==.function&&env.kindOf n==some .cell) then (n,NameKind.cell) else (n,k))=some .cell ∨
    List.lookup x (z::r.map λ(n,k)=>if (k==NameKind.free&&env.scope.kind==.function&&env.kindOf n==some .cell) then (n,NameKind.cell) else (n,k))=some .free):=by
   intro z hz
   rw[BU]at h
   cases hy:x==n with
   |true =>
    rw[hy]at h
    have e2:j=.free:=by simpa using h
    subst e2
    by_cases c:(NameKind.free==NameKind.free&&env.scope.kind==.function&&env.kindOf n==some .cell)=true
    ·rw[if_pos c]at hz;subst hz;left;rw[BU,hy]
    ·rw[if_neg c]at hz;subst hz;right;rw[BU,hy]
   |false =>
    rw[hy]at h
    have ih:=js_ (env:=env) h
    have hz1:z.1=n:=by rw[hz];split<;>rfl
    obtain⟨z1,z2⟩:=z
    simp only at hz1
    subst hz1
    rw[BU,hy]
    exact ih
  exact key _ rfl
structure Bk where
 C:Addr
 s:Shared
 H:Hp
 ex:List Addr
abbrev blk(X:Cx)(N':List Str)(scope:Scope)(b:Bk):Cx :=
 { X with N:=N',s₀:=b.s,H₀:=b.H,env:=compEnvC scope (zp_ X.env.cells scope.names []) b.C X.env,outer:=X.stack,stack:=X.stack,ex:=b.ex,fn:=λ_=>false,pn:=[],xe:=λ_ _=>False }
structure BkScope(X:Cx)(N':List Str)(src:List (Option Nat))(scope:Scope):Prop where
 kind:scope.kind=.function
 nocell:∀y∈scope.names,y.2≠.cell
 names:∀y∈scope.names,y.2=.local->scope.names.lookup y.1=some .local
 frees:∀y∈scope.names,y.2=.free->X.env.kindOf y.1=some .cell∨X.env.kindOf y.1=some .free
 len:src.length=N'.length
 out:∀i j:Nat,src[i]?=some (some j)->∃x:Str,N'[i]?=some x/\X.N[j]?=some x/\scope.names.lookup x=some .free
def je_(src:List (Option Nat))(σ:St):St:=src.map λo=>o.bind λj=>(σ[j]?).bind id
def PTs(X:Cx)(ifs:List Expr)(t:TT):Prop :=
 ∀(pins:List (Addr×Obj))(s:Shared)(σ:St)(H:Hp)(Q:Bool->Hp->Prop),Inv X pins σ H s->t σ H Q ->
  wpAny (model X.prog X.w) X.A (forIn ifs true λc r=>if r=true then do let ok <-isTrue c X.env (eval c X.env);pure (ForInStep.yield ok) else pure (ForInStep.yield r)) (TP X pins σ Q) X.xe s
def tYes:TT:=λ_ H Q=>Q true H
theorem ys_{X:Cx}:PTs X [] tYes:=λ_ _ _ H _ I h=>wpAny_tests_nil ⟨H,I,h⟩
theorem vZ_{X:Cx}{c:Expr}{t:TT}(h:PT X c t):PTs X [c] t:=λpins s σ H Q I q=>wpAny_tests_one (h pins s σ H Q I q)
def yZ_(src:List (Option Nat))(wi:TI)(g:Bk->TG)(tc:Bk->TT)(te:Bk->TE):TE:=λσ H Q=>wi σ H λJ H1=>∀(b:Bk)(D:Addr),H1 D=none ->
 ∃W:Nat->Nat->St->Hp->Prop,(∃m,W 0 m (je_ src σ) (upd H1 D (.lst [])))/\∀i m σ' H',W i m σ' H' ->
  (J.stop i H'/\Q (.ref D) H')∨(J.go i H'/\∃N:St->Hp->Prop,(∀σ'' H'',N σ'' H''->∃m',m'<m/\W (i+1) m' σ'' H'') /\
   ∀x H'',J.yld i H' x H''->g b x σ' H'' λσ2 H2=>tc b σ2 H2 λok H3=>if ok=true then te b σ2 H3 λy H4=>∃ys,H4 D=some (.lst ys)/\ys.length<sizeLine/\N σ2 (upd H4 D (.lst (ys++[y]))) else N σ2 H3)
section
variable{prog:Program}{w:World}{A:Around}{R:Result->Shared->Prop}{s:Shared}
theorem vb_{elt target iter:Expr}{ifs:List Expr}{scope:Scope}{pos:Pos}{it acc:Value}{env:Env}(I:Nat->Shared->Prop)
  (turn:∀n s,I n s->wpAny (model prog w) A (pyNext it) (λr s₁=>match r with
   |none=>R (.ok .next) s₁
   |some v=>wpAny (model prog w) A (letOwnedTupleGo target it v) (λ_ s₁'=>wpAny (model prog w) A (assign target env v) (λ_ s₂ =>
     wpAny (model prog w) A (forIn ifs true λc r=>if r=true then do let ok <-isTrue c env (eval c env);pure (ForInStep.yield ok) else pure (ForInStep.yield r)) (λok s₃ =>
      if ok=true then wpAny (model prog w) A (eval elt env) (λx s₄ =>
       wpAny (model prog w) A (call (.builtin "list.append") [acc,x]) (λ_ s₅=>∃m,m<n/\I m s₅) (λ_ _=>False) s₄) (λ_ _=>False) s₃
      else ∃m,m<n/\I m s₃) (λ_ _=>False) s₂) (λ_ _=>False) s₁') (λ_ _=>False) s₁) (λ_ _=>False) s)
  (n:Nat) (h:I n s) :
  codeAny (model prog w) A (.compLoop (.ListComp elt [⟨target,iter,ifs,0⟩] scope pos) 0 it acc env) R s:=by
 refine codeAny_loop rfl I (λn s hI=>?_) n h
 show wpAny _ A ((compTurn (.ListComp elt [⟨target,iter,ifs,0⟩] scope pos) 0 it acc env).onRaise (λx=>do noteFrame x env;theTreesLotGoes x)) _ _ s
 refine wpAny_noted ?_
 rw[compTurn_list]
 refine wpAny_bind (wpAny_standAt (wpAny_bind (wpAny_mono (turn n s hI) (λr s₁ h₁=>?_) λ_ _ h'=>h'.elim)))
 cases r with
 |none=>exact wpAny_pure h₁
 |some v =>
  refine wpAny_bind (wpAny_mono h₁ (λ_ s₁' h₁'=>?_) λ_ _ h'=>h'.elim)
  refine wpAny_bind (wpAny_mono h₁' (λ_ s₂ h₂=>wpAny_bind (wpAny_mono h₂ (λok s₃ h₃=>?_) λ_ _ h'=>h'.elim)) λ_ _ h'=>h'.elim)
  cases ok with
  |false=>exact wpAny_pure ⟨rfl,h₃⟩
  |true =>
   exact wpAny_bind (wpAny_bind (wpAny_mono h₃ (λx s₄ h₄=>wpAny_bind (wpAny_mono h₄ (λ_ s₅ h₅=>wpAny_pure (wpAny_pure ⟨rfl,h₅⟩)) λ_ _ h'=>h'.elim)) λ_ _ h'=>h'.elim))
end
theorem ac4_{X:Cx}{elt tg iter:Expr}{ifs:List Expr}{scope:Scope}{pos pos':Pos}{N':List Str}{src:List (Option Nat)}{wi:TI}{g:Bk->TG}{tc:Bk->TT}{te:Bk->TE}(hc:X.calm=true)(hi:PI X tg iter wi)(S:BkScope X N' src scope)
  (hg:∀b,PG (blk X N' scope b) tg (g b)) (ht:∀b,PTs (blk X N' scope b) ifs (tc b)) (he:∀b,PE (blk X N' scope b) elt (te b)) (hs:∀x,foldedSetIterable iter X.env x=pure x) (use:Option (Value->Sem Unit)) (R:Value->Shared->Prop)
  {pins:List (Addr×Obj)} {s:Shared} {σ:St} {H:Hp} {Q:V->Hp->Prop} (I:Inv X pins σ H s) (h:yZ_ src wi g tc te σ H Q)
  (fin:∀(D C:Addr)(H5:Hp)(s6:Shared)(m:Str->Option Value),s6.heap.Ns C m->zQ_ X pins H5 C->(∀h',Heap.SameBut C s6.heap h'->Inv X pins σ H5 { s6 with heap:=h' })->Q (.ref D) H5->compPost (model X.prog X.w) X.A X.xe use R (.ref D) C (.ok .next) s6) :
  wpAny (model X.prog X.w) X.A (comprehension (.ListComp elt [⟨tg,iter,ifs,0⟩] scope pos) scope X.env pos' (newList []) false (eval iter X.env) use) R X.xe s:=by
 have hfr:∀x∈scope.names,x.2=.free->∃c,X.env.cells.lookup x.1=some c:=λx hx hf=>I.ok.has x.1 (S.frees x hx hf)
 have clS:∀x c,(zp_ X.env.cells scope.names []).lookup x=some c->X.env.cells.lookup x=some c:=jf_ hfr (λx c e=>by simp at e)
 refine wpAny_comprehension_free (use:=use) rfl hs (xd_ scope.names hfr []) S.kind S.names ?_
 refine thn (hi pins s σ H _ I h) λv s1 h1=>thn h1 λitv s2 h2=>?_
 obtain⟨it,fp,tn,J,H2,rfl,I2,T,st2,f2,h3⟩:=h2
 have hD:H2 s2.heap.objs.size=none:=I2.fresh
 refine wpAny_newObj_type ?_
 have I3:Inv X pins σ (upd H2 s2.heap.objs.size (.lst [])) { s2 with heap:=s2.heap.push { cls:=.type "list",data:=.seq ([]:List Value).toArray } } :=
  I2.laid (t':=s2.toks) (λb u e=>AA _ e) (AB _) ⟨AU _,[],0,.nil,AE _ rfl⟩
 have hfp:∀b∈fp,b<s2.heap.objs.size:=λb hb=>by
  obtain⟨o,e,_⟩:=T.obj _ _ st2 b hb
  exact AG e
 have st3:tn 0 (s2.heap.push { cls:=.type "list",data:=.seq ([]:List Value).toArray }):=T.keep _ _ _ st2 λb _ o e=>AA _ e
 generalize hs3:({ s2 with heap:=s2.heap.push { cls:=.type "list",data:=.seq ([]:List Value).toArray } }:Shared)=s3 at I3 ⊢
 have st3':tn 0 s3.heap:=by rw[<-hs3];exact st3
 have hsz3:s3.heap.objs.size=s2.heap.objs.size+1:=by rw[<-hs3];exact BM ..
 have fp3:∀b∈fp,(upd H2 s2.heap.objs.size (.lst [])) b=none:=λb hb=>by rw[ql_ (AT (hfp b hb))];exact(f2 b hb).1
 generalize hDe:s2.heap.objs.size=D at *
 generalize hH3:upd H2 D (.lst [])=H3 at *
 refine wpAny_newFunctionEnv S.nocell (by intro y hy;simp at hy) (λh₁ hns₁ hsb₁=>?_) S.kind
 have old:∀b o,s3.heap.get? b=some o->h₁.get? b=some o:=λb o e=>hsb₁.extBut b o (AT (AG e)) (AA _ e)
 have Yok:(blk X N' scope ⟨s3.heap.objs.size,s3,H3,fp⟩).Ok:=by
  refine⟨I.ok.mod,S.kind,I.ok.glob,I.ok.blt,AB _,λx y c e1 e2=>I.ok.inj x y c (clS x c e1) (clS y c e2),λx hx=>?_,λx c z=>(by cases z),I.ok.hd,I.ok.frames,.inl rfl,λb hb=>⟨?_,λx c e=>(f2 b hb).2.2.2.2.1 x c (clS x c e)⟩,I3.bs,?_,λb o e hb=>?_,λb hb z=>?_,I3.stack,I3.stkFree⟩
  ·have hx':(x,NameKind.free)∈scope.names:=by
    rcases hx with hx|hx
    ·exact qT_ (env:=X.env) S.nocell (.inl rfl) hx
    ·exact qT_ (env:=X.env) S.nocell (.inr rfl) hx
   exact zI_ (.inr hx')
  ·exact AT (AO (hfp b hb) (by rw[hsz3];exact Cv _))
  ·exact AZ I.ok.bsz I3.sz
  ·rcases (f2 b hb).2.2.2.1 with z|z
   ·exact I.ok.noex b o e z
   ·exact absurd (AO (AG e) (AZ I.ok.bsz z)) (BJ _)
  ·rcases AI.mp (I3.stkSub b z) with e|e
   ·exact(f2 b hb).2.1 e
   ·exact(f2 b hb).2.2.1 e
 generalize hY:blk X N' scope ⟨s3.heap.objs.size,s3,H3,fp⟩=Y at Yok
 have I4:Inv (blk X N' scope ⟨s3.heap.objs.size,s3,H3,fp⟩) [] (je_ src σ) H3 { s3 with heap:=h₁,toks:=s3.toks+([]:List (Str×Value)).length }:=by
  subst hY
  refine⟨Yok,rfl,I3.bare,Un.kept old,⟨_,hns₁,λi x v e1 e2 e3=>?_⟩,λx c e=>?_,I3.fresh,λx c e=>I3.freeC x c (clS x c e),λp hp=>by simp at hp,I3.hok.kept old,?_⟩
  ·unfold je_ at e2
   rw[Ac]at e2
   cases hsrc:src[i]? with
   |none=>rw[hsrc]at e2;cases e2
   |some o =>
    rw[hsrc]at e2
    cases o with
    |none=>have e2':some (none:Option V)=some (some v):=e2;cases e2'
    |some j =>
     have e2':some ((σ[j]?).bind id)=some (some v):=e2
     have e2'':(σ[j]?).bind id=some v:=AX e2'
     have hσ:σ[j]?=some (some v):=by
      cases q:σ[j]? with
      |none=>rw[q]at e2'';cases e2''
      |some z =>
       rw[q]at e2''
       have:z=some v:=e2''
       rw[this]
     obtain⟨x',n1,n2,n3⟩:=S.out i j hsrc
     have ex:x'=x:=AX (n1.symm.trans e1)
     subst ex
     obtain⟨m0,_,hl⟩:=I3.loc
     have hk:=S.frees (x',.free) (mem_of_lookup n3) rfl
     have hvis:Vis X.env.scope x':=hk.elim (λz=>.inr (.inl z)) λz=>.inr (.inr z)
     obtain⟨u,r,l⟩:=hl j x' v n2 hσ hvis
     refine⟨u,r,.inr ?_⟩
     rcases l with⟨l1,_⟩|⟨_,c,l2,o,l3,l4⟩
     ·rcases hk with z|z
      ·rw[show X.env.kindOf x'=some .local from l1]at z;cases z
      ·rw[show X.env.kindOf x'=some .local from l1]at z;cases z
     ·obtain⟨c',hc'⟩:=zI_ (cells:=X.env.cells) (names:=scope.names) (acc:=[]) (.inr (mem_of_lookup n3))
      have e4:=clS x' c' hc'
      rw[l2]at e4
      cases e4
      exact⟨js_ (env:=X.env) n3,c,hc',o,old _ _ l3,l4⟩
  ·obtain⟨v,o,ho,hd⟩:=I3.cell x c (clS x c e)
   exact⟨v,o,old _ _ ho,hd⟩
  ·show(je_ src σ).length=N'.length
   unfold je_
   rw[AF]
   exact S.len
 obtain⟨W,⟨m0,w0⟩,turn⟩:=h3 ⟨s3.heap.objs.size,s3,H3,fp⟩ D hD
 rw[hH3]at w0
 have loop:codeAny (model X.prog X.w) X.A (.compLoop (.ListComp elt [⟨tg,iter,ifs,0⟩] scope pos) 0 (.ref it) (.ref D) (blk X N' scope ⟨s3.heap.objs.size,s3,H3,fp⟩).env)
   (compPost (model X.prog X.w) X.A X.xe use R (.ref D) s3.heap.objs.size) { s3 with heap:=h₁,toks:=s3.toks+([]:List (Str×Value)).length }:=by
  have stat:∀{H':Hp},(∀b∈fp,H' b=none)->∀b∈fp,zQ_ (blk X N' scope ⟨s3.heap.objs.size,s3,H3,fp⟩) [] H' b:=λhn b hb =>
   ⟨hn b hb,(I4.ok.exf b hb).1,I4.ok.exfs b hb,.inl hb,(I4.ok.exf b hb).2,λp hp=>by simp at hp⟩
  refine vb_ (λn s'=>∃i σ' H',Inv (blk X N' scope ⟨s3.heap.objs.size,s3,H3,fp⟩) [] σ' H' s'/\tn i s'.heap/\(∀b∈fp,H' b=none)/\W i n σ' H') ?_ m0
   ⟨0,_,H3,I4,T.keep _ _ _ st3' λb _ o e=>old b o e,fp3,w0⟩
  rintro n s5 ⟨i,σ5,H5,I5,st5,fr5,w5⟩
  rcases turn i n σ5 H5 w5 with⟨stop,qn⟩|⟨go,N,hN,step⟩
  ·refine thn (T.done (blk X N' scope ⟨s3.heap.objs.size,s3,H3,fp⟩) rfl rfl rfl hc i [] s5 σ5 H5 _ I5 (stat fr5) st5 stop) λr s6 ⟨hr,I6⟩=>?_
   subst hr
   obtain⟨m,hn,_⟩:=I6.loc
   have hC:H5 s3.heap.objs.size=none:=I6.free
   refine fin D s3.heap.objs.size H5 s6 m hn (I3.fpOk (AB _) hC) (λh' sb=>?_) qn
   have nC:∀b o,s3.heap.get? b=some o->b≠s3.heap.objs.size:=λb o e=>AT (AG e)
   have keep:∀b o,b≠s3.heap.objs.size->s6.heap.get? b=some o->h'.get? b=some o:=λb o hb e=>(sb.2 b hb).trans e
   have hok:HOk X.prog X.w H5 h':=λb u e=>(I6.hok b u e).stay (λc v hc q=>keep c v (by
    rcases hc with z|z
    ·rw[z];intro z2;rw[z2,hC]at e;cases e
    ·intro z2;rw[z2,hC]at z;cases z) q) (λ_ q=>q) λ_ _ q=>q
   have u6:Un (frs X.stack) fp H3 H5 s3.heap s6.heap:=I6.base
   have un:Un (frs X.stack) fp H3 H5 s3.heap h':=⟨λb o e n hb hx=>keep b o (nC b o e) (u6.keep b o e n hb hx),λb o e n hb hx=>by
     obtain⟨sl,q⟩:=u6.slot b o e n hb hx
     exact⟨sl,keep b _ (nC b o e) q⟩,u6.free,λb o e hx=>by
     obtain⟨o',q⟩:=u6.there b o e hx
     exact⟨o',keep b _ (nC b o e) q⟩,u6.tups,u6.frzs,u6.tbls⟩
   refine I3.call' (s':={ s6 with heap:=h' }) (ch:=fp) I6.os un hok I6.bare λb hb=>?_
   exact⟨(f2 b hb).2.2.2.1,(f2 b hb).2.1,(f2 b hb).2.2.2.2.1,(f2 b hb).2.2.2.2.2⟩
  ·refine thn (T.item (blk X N' scope ⟨s3.heap.objs.size,s3,H3,fp⟩) rfl rfl rfl hc i [] s5 σ5 H5 _ I5 (stat fr5) st5 go) λr s6 ⟨u,hr,h6⟩=>?_
   subst hr
   refine thn h6 λ_ s7 ⟨x,H7,I7,r7,y7,st7,fr7⟩=>?_
   have I7':=I7.pinned (stat fr7) (T.obj _ _ st7)
   have again:∀{σ9:St}{H9:Hp}{s9:Shared},Inv (blk X N' scope ⟨s3.heap.objs.size,s3,H3,fp⟩) ([]++jS_ fp s7.heap) σ9 H9 s9->N σ9 H9->∃m,m<n/\∃i σ' H',Inv (blk X N' scope ⟨s3.heap.objs.size,s3,H3,fp⟩) [] σ' H' s9/\tn i s9.heap/\(∀b∈fp,H' b=none)/\W i m σ' H':=λ{σ9 H9 s9} I9 n9=>by
    obtain⟨m',hm,w9⟩:=hN σ9 H9 n9
    refine⟨m',hm,i+1,σ9,H9,I9.unpinned,T.keep _ _ _ st7 λb hb o e=>(I9.pin (b,o) (AV _ (AV _ (zt_ hb e)))).1,λb hb=>?_,w9⟩
    obtain⟨o,e,d⟩:=T.obj _ _ st7 b hb
    exact(I9.pin (b,o) (AV _ (AV _ (zt_ hb e)))).2.1
   refine thn (hg _ _ s7 σ5 H7 x u _ I7' r7 (step x H7 y7)) λ_ s8 ⟨σ8,H8,I8,q8⟩=>?_
   refine thn (ht _ _ s8 σ8 H8 _ I8 q8) λok s9 ⟨H9,I9,q9⟩=>?_
   cases ok with
   |false=>exact again I9 q9
   |true =>
    refine thn (he _ _ s9 σ8 H9 _ I9 q9) λyv s10 ⟨y,H10,I10,r10,ys,e10,l10,n10⟩=>?_
    refine thn (zk_ _ s10 σ8 H10 (.ref D) [y] (.ref D) [yv] (λ_ H11=>N σ8 H11) I10 rfl (.cons r10 .nil) ⟨D,ys,y,rfl,rfl,e10,l10,n10⟩) λ_ s11 ⟨_,H11,I11,_,n11⟩=>again I11 n11
 have self:=T.self X.A 0 { s3 with heap:=h₁,toks:=s3.toks+([]:List (Str×Value)).length } (λit' s'=>codeAny (model X.prog X.w) X.A (.compLoop (.ListComp elt [⟨tg,iter,ifs,0⟩] scope pos) 0 it' (.ref D) (blk X N' scope ⟨s3.heap.objs.size,s3,H3,fp⟩).env)
   (compPost (model X.prog X.w) X.A X.xe use R (.ref D) s3.heap.objs.size) s') (notedBy (model X.prog X.w) X.A (blk X N' scope ⟨s3.heap.objs.size,s3,H3,fp⟩).env λx s'=>compPost (model X.prog X.w) X.A X.xe use R (.ref D) s3.heap.objs.size (.error x) s')
   (T.keep _ _ _ st3' λb _ o e=>old b o e) loop
 exact codeAny_compStart_list loop self
theorem xA_{X:Cx}{elt tg iter:Expr}{ifs:List Expr}{scope:Scope}{pos:Pos}{N':List Str}{src:List (Option Nat)}{wi:TI}{g:Bk->TG}{tc:Bk->TT}{te:Bk->TE}(hc:X.calm=true)(hi:PI X tg iter wi)(S:BkScope X N' src scope)
  (hg:∀b,PG (blk X N' scope b) tg (g b)) (ht:∀b,PTs (blk X N' scope b) ifs (tc b)) (he:∀b,PE (blk X N' scope b) elt (te b)) (hs:∀x,foldedSetIterable iter X.env x=pure x:=by intro _;rfl) :
  PE X (.ListComp elt [⟨tg,iter,ifs,0⟩] scope pos) (yZ_ src wi g tc te):=by
 intro pins s σ H Q I h
 rw[eval_ListComp]
 exact ac4_ hc hi S hg ht he hs none (EP X pins σ Q) I h λD C H5 s6 m hn _ k q=>⟨m,hn,λh' sb=>⟨.ref D,H5,k h' sb,rfl,q⟩⟩
end L2.Ev
namespace L2.Ev
open PySem PySem.Spec PyProof.Rows
theorem jC_{α:Type}[Dat α]{J:It}{n:Nat}{σ0:St}{H1:Hp}{D:Addr}{Q:V->Hp->Prop}{g:TG}{tc:TT}{te:TE}(hD:H1 D=none)(Sp:St->Prop)(out:Nat->Option α)(hn:n<=sizeLine)(h0:Sp σ0)
  (hstop:∀H',Same H1 H'->J.stop n H') (hgo:∀i H',i<n->Same H1 H'->J.go i H')
  (hturn:∀(i:Nat)(σ':St)(H':Hp)(Yes:V->St->Hp->Prop)(No:St->Hp->Prop),i<n->Sp σ'->Same H1 H'->(∀y σ2 H4 a,Sp σ2->Same H' H4->out i=some a->Dat.is H4 y a->Yes y σ2 H4)->(∀σ2 H3,Sp σ2->Same H' H3->out i=none->No σ2 H3) ->
   ∀x H'',J.yld i H' x H''->g x σ' H'' λσ2 H2=>tc σ2 H2 λok H3=>if ok=true then te σ2 H3 λy H4=>Yes y σ2 H4 else No σ2 H3)
  (hend:∀H',Same H1 H'->LstAt H' D ((List.range n).filterMap out)->Q (.ref D) H') :
  ∃W:Nat->Nat->St->Hp->Prop,(∃m,W 0 m σ0 (upd H1 D (.lst [])))/\∀i m σ' H',W i m σ' H' ->
  (J.stop i H'/\Q (.ref D) H')∨(J.go i H'/\∃N:St->Hp->Prop,(∀σ'' H'',N σ'' H''->∃m',m'<m/\W (i+1) m' σ'' H'') /\
   ∀x H'',J.yld i H' x H''->g x σ' H'' λσ2 H2=>tc σ2 H2 λok H3=>if ok=true then te σ2 H3 λy H4=>∃ys,H4 D=some (.lst ys)/\ys.length<sizeLine/\N σ2 (upd H4 D (.lst (ys++[y]))) else N σ2 H3):=by
 have s1:∀{H':Hp}(o:HO),Same H1 H'->Same H1 (upd H' D o):=λo e b u q=>by rw[ql_ (qv_ q hD)];exact e b u q
 refine⟨λi m σ' H'=>m=n-i/\i<=n/\Sp σ'/\Same H1 H'/\LstAt H' D ((List.range i).filterMap out),⟨n,by simp,AU _,h0,s1 _ (Same.refl _),[],qd_,.nil⟩,?_⟩
 rintro i m σ' H' ⟨rfl,hi,hS,hH,hL⟩
 by_cases hlt:i<n
 ·refine .inr ⟨hgo i H' hlt hH,λσ2 H2=>Sp σ2/\Same H1 H2/\LstAt H2 D ((List.range (i+1)).filterMap out),λσ2 H2 ⟨a,b,c⟩=>⟨n-(i+1),by omega,rfl,hlt,a,b,c⟩,?_⟩
  obtain⟨vs,eD,iD⟩:=hL
  have lv:vs.length<=i:=by
   have:=Ai iD
   have:=Bl out (List.range i)
   rw[List.length_range]at this
   omega
  refine hturn i σ' H' (λy σ2 H4=>∃ys,H4 D=some (.lst ys)/\ys.length<sizeLine/\(λσ2 H2=>Sp σ2/\Same H1 H2/\LstAt H2 D ((List.range (i+1)).filterMap out)) σ2 (upd H4 D (.lst (ys++[y])))) _ hlt hS hH (λy σ2 H4 a a1 a2 a3 a4=>?_) (λσ2 H3 a1 a2 a3=>?_)
  ·have e4:=a2 _ _ eD
   have t4:Tups H4 (upd H4 D (.lst (vs++[y]))):=λp ys q=>by rw[ql_ (x2_ q e4 (by intro z;cases z))];exact q
   refine⟨vs,e4,by omega,a1,s1 _ (hH.trans a2),vs++[y],qd_,?_⟩
   rw[B3,CZ,Ao,a3]
   exact CP (Its.mono ((Tups.same a2).trans t4) iD) (Dat.mono t4 a4)
  ·refine⟨a1,hH.trans a2,vs,a2 _ _ eD,?_⟩
   rw[B3,CZ,Ao,a3]
   simpa using Its.mono (Tups.same a2) iD
 ·have e:i=n:=by omega
  subst e
  exact .inl ⟨hstop H' hH,hend H' hH hL⟩
inductive SK
 |lst
 |tup
def SK.iter:SK->Heap->Addr->Addr->Nat->Prop
 |.lst,h,i,l,k=>h.IsListIter i l k
 |.tup,h,i,l,k=>h.IsTupleIter i l k
def SK.seq:SK->Heap->Addr->Array Value->Prop
 |.lst,h,l,xs=>h.IsList l xs
 |.tup,h,l,xs=>h.IsTuple l xs
def SK.ob:SK->Addr->Obj
 |.lst,l=>{ cls:=.type "list_iterator",data:=.fields #[.ref l,.int 0 0] }
 |.tup,l=>{ cls:=.type "tuple_iterator",data:=.fields #[.ref l,.int 0 0] }
def SK.is(K:PySem.W.Frag)(H:Hp)(l:Addr)(xs:List V):SK->Prop
 |.lst=>SqL K H l xs
 |.tup=>SqT K H l xs
theorem SK.iter_keep{k:SK}{h h':Heap}{i l:Addr}{n:Nat}(x:k.iter h i l n)(e:∀o,h.get? i=some o->h'.get? i=some o):k.iter h' i l n:=by
 cases k with
 |lst=>obtain⟨o,a,b⟩:=x;exact⟨o,e o a,b⟩
 |tup=>obtain⟨o,a,b⟩:=x;exact⟨o,e o a,b⟩
theorem SK.seq_keep{k:SK}{h h':Heap}{l:Addr}{xs:Array Value}(x:k.seq h l xs)(e:∀o,h.get? l=some o->h'.get? l=some o):k.seq h' l xs:=by
 cases k with
 |lst=>obtain⟨o,a,b⟩:=x;exact⟨o,e o a,b⟩
 |tup=>obtain⟨o,a,b⟩:=x;exact⟨o,e o a,b⟩
theorem SK.iter_new{k:SK}{h:Heap}{i l:Addr}(e:h.get? i=some (k.ob l)):k.iter h i l 0:=by
 cases k with
 |lst=>exact⟨_,e,rfl,rfl⟩
 |tup=>exact⟨_,e,rfl,rfl⟩
theorem SK.at{X:Cx}{pins:List (Addr×Obj)}{σ:St}{H:Hp}{s:Shared}{l:Addr}{xs:List V}{k:SK}(I:Inv X pins σ H s)(h:k.is X.K H l xs):∃its:List Value,Vals xs its/\k.seq s.heap l its.toArray:=by
 cases k with
 |lst=>obtain⟨its,r,p,_⟩:=I.list h;exact⟨its,r,p.isList⟩
 |tup=>obtain⟨its,r,p,_⟩:=I.tuple h;exact⟨its,r,p⟩
theorem SK.inj{X:Cx}{pins:List (Addr×Obj)}{σ:St}{H:Hp}{s:Shared}{l:Addr}{xs ys:List V}{k:SK}(I:Inv X pins σ H s)(h:k.is X.K H l xs)(h':k.is X.K H l ys):xs=ys:=by
 cases k with
 |lst=>exact I.list_inj h h'
 |tup=>exact I.tuple_inj h h'
section
variable{prog:Program}{w:World}{A:Around}{E:Value->Shared->Prop}{s:Shared}
theorem ae1_{it t:Addr}{i:Nat}{items:Array Value}{x:Value}{Q:Value->Shared->Prop}(hit:s.heap.IsTupleIter it t i)(ht:s.heap.IsTuple t items)(hx:items[i]?=some x)
  (hQ:∀h',h'.IsTupleIter it t (i+1)->Heap.SameBut it s.heap h'->Q x { s with heap:=h' }):wpAny (model prog w) A (Builtin.SmallTypes.nextOf (.ref it)) Q E s:=by
 obtain⟨ob,hob,hcl,hdt⟩:=id hit
 obtain⟨o2,ho2,_,n2,hd2⟩:=ht
 unfold Builtin.SmallTypes.nextOf
 refine wpAny_bind (wpAny_callSpecial?_slot (name:=Str.ofString "__next__") hit.typeIs Bx (wpAny_call_entry Bx hit.typeIs C5 ?_ (Ct _)))
 show wpAny _ _ (field (.ref it) 0>>=λ_=>_) _ _ s
 refine wpAny_bind (wpAny_field hob hdt (x:=Value.ref t) rfl ?_)
 show wpAny _ _ (if (Value.ref t==Value.none)=true then _ else (_:Sem _)) _ _ s
 rw[if_neg (show ¬ (Value.ref t==Value.none)=true from λz=>AL z)]
 show wpAny _ _ (field (.ref it) 1>>=λ_=>_) _ _ s
 refine wpAny_bind (wpAny_field hob hdt (x:=Value.int i 0) rfl ?_)
 show wpAny _ _ (seqItems? (.ref t)>>=λ_=>_) _ _ s
 refine wpAny_bind (wpAny_seqItems ho2 hd2 ?_)
 simp only[An,hx]
 refine wpAny_bind (wpAny_setField hob hdt (by simp) (wpAny_pure ⟨x,rfl,wpAny_pure (hQ _ ⟨_,Be _ hob (Bv (Bg hdt _)),(DE ..).trans hcl,?_⟩ (B2 ..))⟩))
 rw[Bg hdt]
 simp [rawInt]
theorem adn_{it t:Addr}{i:Nat}{items:Array Value}{Q:Value->Shared->Prop}(hh:A.handled=none)(hit:s.heap.IsTupleIter it t i)(ht:s.heap.IsTuple t items)(hx:items[i]?=none)
  (hE:∀h' e,Heap.ExtBut it s.heap h'->(∃o,h'.get? e=some o/\o.cls=.type "StopIteration")->E (.ref e) { s with heap:=h' }):wpAny (model prog w) A (Builtin.SmallTypes.nextOf (.ref it)) Q E s:=by
 obtain⟨ob,hob,hcl,hdt⟩:=id hit
 obtain⟨o2,ho2,_,n2,hd2⟩:=ht
 unfold Builtin.SmallTypes.nextOf
 refine wpAny_bind (wpAny_callSpecial?_slot (name:=Str.ofString "__next__") hit.typeIs Bx (wpAny_call_entry Bx hit.typeIs C5 ?_ (Ct _)))
 show wpAny _ _ (field (.ref it) 0>>=λ_=>_) _ _ s
 refine wpAny_bind (wpAny_field hob hdt (x:=Value.ref t) rfl ?_)
 show wpAny _ _ (if (Value.ref t==Value.none)=true then _ else (_:Sem _)) _ _ s
 rw[if_neg (show ¬ (Value.ref t==Value.none)=true from λz=>AL z)]
 show wpAny _ _ (field (.ref it) 1>>=λ_=>_) _ _ s
 refine wpAny_bind (wpAny_field hob hdt (x:=Value.int i 0) rfl ?_)
 show wpAny _ _ (seqItems? (.ref t)>>=λ_=>_) _ _ s
 refine wpAny_bind (wpAny_seqItems ho2 hd2 ?_)
 simp only[An,hx]
 refine wpAny_bind (wpAny_rule (wpAny_bind (wpAny_setField hob hdt (by simp) ?_)))
 show wpAny _ _ (newExc (.type "StopIteration") []>>=λ_=>_) _ _ _
 refine wpAny_bind ?_
 simp only[newExc,newTuple]
 refine wpAny_bind (wpAny_newObj_type ?_ (by size_fits))
 refine wpAny_bind (m:=firstArgMember _ _) (wpAny_of_eq (a:=Value.none) (by first|rfl|(simp only[firstArgMember];rfl)) (wpAny_newObj_type ?_ (by size_fits)))
 simp only[raiseNew]
 refine wpAny_bind (wpAny_handled ?_)
 first|rw[show A.in1.handled=none from hh]|rw[hh]
 refine wpAny_bind (wpAny_pure (wpAny_throw (hE _ _ (((B2 ..).extBut.push _).push _) ⟨_,AE _ rfl,rfl⟩)))
theorem SK.next{k:SK}{it l:Addr}{i:Nat}{items:Array Value}{x:Value}{Q:Value->Shared->Prop}(hit:k.iter s.heap it l i)(hl:k.seq s.heap l items)(hx:items[i]?=some x)
  (hQ:∀h',k.iter h' it l (i+1)->Heap.SameBut it s.heap h'->Q x { s with heap:=h' }):wpAny (model prog w) A (Builtin.SmallTypes.nextOf (.ref it)) Q E s:=by
 cases k with
 |lst=>exact wpAny_nextOf_list_item hit hl hx hQ
 |tup=>exact ae1_ hit hl hx hQ
theorem SK.stop{k:SK}{it l:Addr}{i:Nat}{items:Array Value}{Q:Value->Shared->Prop}(hh:A.handled=none)(hit:k.iter s.heap it l i)(hl:k.seq s.heap l items)(hx:items[i]?=none)
  (hE:∀h' e,Heap.ExtBut it s.heap h'->(∃o,h'.get? e=some o/\o.cls=.type "StopIteration")->E (.ref e) { s with heap:=h' }):wpAny (model prog w) A (Builtin.SmallTypes.nextOf (.ref it)) Q E s:=by
 cases k with
 |lst=>exact wpAny_nextOf_list_end hh hit hl hx hE
 |tup=>exact adn_ hh hit hl hx hE
structure ZAp(z TI TO i1 i2:Addr):Prop where
 a1:TI≠z
 a2:TO≠z
 a3:i1≠z
 a4:i2≠z
 a5:TI≠TO
 a6:TI≠i1
 a7:TI≠i2
 a8:TO≠i1
 a9:TO≠i2
 b1:i1≠i2
structure ZSt(k1 k2:SK)(z TI TO i1 i2 l1 l2:Addr)(i:Nat)(h:Heap):Prop where
 hz:IsZip h z TI TO .none
 hTI:IsPair h TI (.ref i1) (.ref i2)
 hTO:∃a b,IsPair h TO a b
 h1:k1.iter h i1 l1 i
 h2:k2.iter h i2 l2 i
theorem aht_{k1 k2:SK}{z TI TO i1 i2 l1 l2:Addr}{i:Nat}{xs ys:Array Value}{x y:Value}{Q:Option Value->Shared->Prop}(D:ZAp z TI TO i1 i2)(Z:ZSt k1 k2 z TI TO i1 i2 l1 l2 i s.heap)(hl1:k1.seq s.heap l1 xs)(hl2:k2.seq s.heap l2 ys)
  (n1:l1≠z/\l1≠i1) (n2:l2≠z/\l2≠i1/\l2≠TO) (hx:xs[i]?=some x) (hy:ys[i]?=some y)
  (hQ:∀h',IsZip h' z TI TO (rawInt s.heap.objs.size)->IsPair h' TI (.ref i1) (.ref i2)->IsPair h' TO x y->k1.iter h' i1 l1 (i+1)->k2.iter h' i2 l2 (i+1)->IsPair h' s.heap.objs.size x y ->
   (∀c o,c≠z->c≠TO->c≠i1->c≠i2->s.heap.get? c=some o->h'.get? c=some o)->Q (some (.ref s.heap.objs.size)) { s with heap:=h' }):wpAny (model prog w) A (pyNext (.ref z)) Q E s:=by
 obtain⟨hz,hTI,⟨a,b,hTO⟩,h1,h2⟩:=Z
 have hT:s.TypeIs (.ref z) "zip" := ⟨_,hz,rfl⟩
 unfold pyNext
 refine wpAny_bind (wpAny_attempt (wpAny_callSpecial?_slot (name:=Str.ofString "__next__") hT Cm (wpAny_call_entry Cm hT F.entry_zip_next ?_ (F.args_zip_next_1 _))))
 show wpAny _ _ (field (.ref z) 2>>=λ_=>_) _ _ _
 refine wpAny_bind (wpAny_field hz rfl (x:=Value.bool false) rfl ?_)
 show wpAny _ _ (field (.ref z) 3>>=λ_=>_) _ _ _
 refine wpAny_bind (wpAny_field hz rfl (x:=Value.ref TI) rfl (wpAny_bind (wpAny_seqItems hTI rfl ?_)))
 show wpAny _ _ (Builtin.SmallTypes.ownedTupleIsFree (.ref z)>>=λ_=>_) _ _ _
 refine wpAny_bind ?_
 unfold Builtin.SmallTypes.ownedTupleIsFree
 refine wpAny_bind (wpAny_field hz rfl (x:=Value.none) rfl (wpAny_pure ?_))
 simp only[if_true]
 refine wpAny_bind (wpAny_rule (wpAny_bind (wpAny_field hz rfl (x:=Value.ref TO) rfl (wpAny_bind (wpAny_setField_rec hz (by simp) λh₁ hz₁ hs₁=>?_)))))
 have z1:IsZip h₁ z TI TO .ellipsis:=hz₁
 refine wpAny_bind ?_
 simp only[DK,List.zipIdx_nil,B4,Dr]
 refine wpAny_bind (wpAny_bind (wpAny_onRaise ?_))
 show wpAny _ _ (Builtin.SmallTypes.nextOf (.ref i1)>>=λ_=>_) _ _ _
 refine wpAny_bind (SK.next (SK.iter_keep h1 λo e=>hs₁.extBut _ _ D.a3 e) (SK.seq_keep hl1 λo e=>hs₁.extBut _ _ n1.1 e) hx λh₂ p₂ hs₂=>wpAny_pure ?_)
 have t2:IsPair h₂ TO a b:=hs₂.extBut _ _ D.a8 (hs₁.extBut _ _ D.a2 hTO)
 refine wpAny_bind (wpAny_seqItems t2 rfl (wpAny_bind (wpAny_updateSeq_pair t2 λh₃ q₃ hs₃=>?_)))
 have t3:IsPair h₃ TO x b:=q₃
 refine wpAny_bind (wpAny_letGo (wpAny_pure (wpAny_bind (wpAny_bind (wpAny_onRaise ?_)))))
 show wpAny _ _ (Builtin.SmallTypes.nextOf (.ref i2)>>=λ_=>_) _ _ _
 refine wpAny_bind (SK.next (SK.iter_keep h2 λo e=>hs₃.extBut _ _ D.a9.symm (hs₂.extBut _ _ D.b1.symm (hs₁.extBut _ _ D.a4 e))) (SK.seq_keep hl2 λo e=>hs₃.extBut _ _ n2.2.2 (hs₂.extBut _ _ n2.2.1 (hs₁.extBut _ _ n2.1 e))) hy λh₄ p₄ hs₄=>wpAny_pure ?_)
 have t4:IsPair h₄ TO x b:=hs₄.extBut _ _ D.a9 t3
 refine wpAny_bind (wpAny_seqItems t4 rfl (wpAny_bind (wpAny_updateSeq_pair t4 λh₅ q₅ hs₅=>?_)))
 have t5:IsPair h₅ TO x y:=q₅
 refine wpAny_bind (wpAny_letGo (wpAny_pure (wpAny_pure (wpAny_bind (wpAny_seqItems t5 rfl (wpAny_bind (wpAny_newTuple ?_)))))))
 have sz:h₅.objs.size=s.heap.objs.size:=by rw[hs₅.1,hs₄.1,hs₃.1,hs₂.1,hs₁.1]
 have z5:IsZip h₅ z TI TO .ellipsis:=hs₅.extBut _ _ D.a2.symm (hs₄.extBut _ _ D.a4.symm (hs₃.extBut _ _ D.a2.symm (hs₂.extBut _ _ D.a3.symm z1)))
 have k5:∀c o,c≠z->c≠TO->c≠i1->c≠i2->s.heap.get? c=some o->h₅.get? c=some o:=λc o c1 c2 c3 c4 e=>hs₅.extBut _ _ c2 (hs₄.extBut _ _ c4 (hs₃.extBut _ _ c2 (hs₂.extBut _ _ c3 (hs₁.extBut _ _ c1 e))))
 have r1:k1.iter h₅ i1 l1 (i+1):=SK.iter_keep p₂ λo e=>hs₅.extBut _ _ D.a8.symm (hs₄.extBut _ _ D.b1 (hs₃.extBut _ _ D.a8.symm e))
 have r2:k2.iter h₅ i2 l2 (i+1):=SK.iter_keep p₄ λo e=>hs₅.extBut _ _ D.a9.symm e
 show wpAny _ _ (Builtin.SmallTypes.ownedTupleHandOut (.ref z) (.ref h₅.objs.size)>>=λ_=>_) _ _ _
 refine wpAny_bind ?_
 unfold Builtin.SmallTypes.ownedTupleHandOut
 have z6:IsZip (h₅.push { cls:=.type "tuple",data:=.seq #[x,y] }) z TI TO .ellipsis:=AA _ z5
 refine wpAny_bind (wpAny_setField_rec z6 (by simp) λh₇ q₇ hs₇=>?_)
 have z7:IsZip h₇ z TI TO (rawInt h₅.objs.size):=q₇
 refine wpAny_setField_rec z7 (by simp) λh₈ q₈ hs₈=>?_
 have z8:IsZip h₈ z TI TO (rawInt h₅.objs.size):=q₈
 have zlt:z<h₅.objs.size:=AG z5
 have up:∀c o,c≠z->h₅.get? c=some o->h₈.get? c=some o:=λc o c1 e=>hs₈.extBut _ _ c1 (hs₇.extBut _ _ c1 (AA _ e))
 have t8:IsPair h₈ h₅.objs.size x y:=hs₈.extBut _ _ (Bh zlt) (hs₇.extBut _ _ (Bh zlt) (AE _ rfl))
 rw[sz]at z8 t8
 refine wpAny_pure ⟨_,rfl,?_⟩
 show wpAny _ _ _ _ _ _
 refine wpAny_pure ?_
 have fin:=hQ h₈ z8 (up _ _ D.a1 (k5 _ _ D.a1 D.a5 D.a6 D.a7 hTI)) (up _ _ D.a2 t5) (SK.iter_keep r1 λo e=>up _ o D.a3 e) (SK.iter_keep r2 λo e=>up _ o D.a4 e) t8 λc o c1 c2 c3 c4 e=>up c o c1 (k5 c o c1 c2 c3 c4 e)
 show Q (some (.ref h₅.objs.size)) _
 rw[sz]
 exact fin
theorem ajp_{k1 k2:SK}{z TI TO i1 i2 l1 l2:Addr}{i:Nat}{xs ys:Array Value}{Q:Option Value->Shared->Prop}(hh:A.handled=none)(D:ZAp z TI TO i1 i2)(Z:ZSt k1 k2 z TI TO i1 i2 l1 l2 i s.heap)(hl1:k1.seq s.heap l1 xs)(hl2:k2.seq s.heap l2 ys)
  (n1:l1≠z/\l1≠i1) (n2:l2≠z/\l2≠i1/\l2≠TO) (hend:xs[i]?=none∨ys[i]?=none)
  (hQ:∀h',(∀c o,c≠z->c≠TO->c≠i1->c≠i2->s.heap.get? c=some o->h'.get? c=some o)->Q none { s with heap:=h' }):wpAny (model prog w) A (pyNext (.ref z)) Q E s:=by
 obtain⟨hz,hTI,⟨a,b,hTO⟩,h1,h2⟩:=Z
 have hT:s.TypeIs (.ref z) "zip" := ⟨_,hz,rfl⟩
 have stop:∀(h':Heap)(e:Addr),(∃o,h'.get? e=some o/\o.cls=.type "StopIteration")->(∀c o,c≠z->c≠TO->c≠i1->c≠i2->s.heap.get? c=some o->h'.get? c=some o) ->
   wpAny (model prog w) A (isInstance (.ref e) (.type "StopIteration")>>=λb=>if b=true then pure none else throw (.ref e)) Q E { s with heap:=h' }:=by
  rintro h' e ⟨o,ho,hc⟩ hk
  exact wpAny_bind (wpAny_isInstance (T := "StopIteration") (b:=true) ⟨o,ho,hc⟩ isSubtype_stop (wpAny_pure (hQ _ hk)))
 unfold pyNext
 refine wpAny_bind (wpAny_attempt (wpAny_callSpecial?_slot (name:=Str.ofString "__next__") hT Cm (wpAny_call_entry Cm hT F.entry_zip_next ?_ (F.args_zip_next_1 _))))
 show wpAny _ _ (field (.ref z) 2>>=λ_=>_) _ _ _
 refine wpAny_bind (wpAny_field hz rfl (x:=Value.bool false) rfl ?_)
 show wpAny _ _ (field (.ref z) 3>>=λ_=>_) _ _ _
 refine wpAny_bind (wpAny_field hz rfl (x:=Value.ref TI) rfl (wpAny_bind (wpAny_seqItems hTI rfl ?_)))
 show wpAny _ _ (Builtin.SmallTypes.ownedTupleIsFree (.ref z)>>=λ_=>_) _ _ _
 refine wpAny_bind ?_
 unfold Builtin.SmallTypes.ownedTupleIsFree
 refine wpAny_bind (wpAny_field hz rfl (x:=Value.none) rfl (wpAny_pure ?_))
 simp only[if_true]
 refine wpAny_bind (wpAny_rule (wpAny_bind (wpAny_field hz rfl (x:=Value.ref TO) rfl (wpAny_bind (wpAny_setField_rec hz (by simp) λh₁ hz₁ hs₁=>?_)))))
 have z1:IsZip h₁ z TI TO .ellipsis:=hz₁
 refine wpAny_bind ?_
 simp only[DK,List.zipIdx_nil,B4,Dr]
 refine wpAny_bind (wpAny_bind (wpAny_onRaise ?_))
 show wpAny _ _ (Builtin.SmallTypes.nextOf (.ref i1)>>=λ_=>_) _ _ _
 cases hx:xs[i]? with
 |none =>
  refine wpAny_bind (SK.stop hh (SK.iter_keep h1 λo e=>hs₁.extBut _ _ D.a3 e) (SK.seq_keep hl1 λo e=>hs₁.extBut _ _ n1.1 e) hx λh₂ e hs₂ he=>?_)
  obtain⟨oe,hoe,hce⟩:=he
  have z2:IsZip h₂ z TI TO .ellipsis:=hs₂ _ _ D.a3.symm z1
  have ez:e≠z:=λq=>by subst q;rw[z2]at hoe;cases hoe;simp at hce
  refine wpAny_setField_rec z2 (by simp) λh₃ _ hs₃=>?_
  exact stop h₃ e ⟨oe,hs₃.extBut _ _ ez hoe,hce⟩ λc o c1 _ c3 _ q=>hs₃.extBut _ _ c1 (hs₂ _ _ c3 (hs₁.extBut _ _ c1 q))
 |some x =>
  have hy:ys[i]?=none:=by
   rcases hend with h|h
   ·rw[hx]at h;cases h
   ·exact h
  refine wpAny_bind (SK.next (SK.iter_keep h1 λo e=>hs₁.extBut _ _ D.a3 e) (SK.seq_keep hl1 λo e=>hs₁.extBut _ _ n1.1 e) hx λh₂ p₂ hs₂=>wpAny_pure ?_)
  have t2:IsPair h₂ TO a b:=hs₂.extBut _ _ D.a8 (hs₁.extBut _ _ D.a2 hTO)
  refine wpAny_bind (wpAny_seqItems t2 rfl (wpAny_bind (wpAny_updateSeq_pair t2 λh₃ q₃ hs₃=>?_)))
  refine wpAny_bind (wpAny_letGo (wpAny_pure (wpAny_bind (wpAny_bind (wpAny_onRaise ?_)))))
  show wpAny _ _ (Builtin.SmallTypes.nextOf (.ref i2)>>=λ_=>_) _ _ _
  refine wpAny_bind (SK.stop hh (SK.iter_keep h2 λo e=>hs₃.extBut _ _ D.a9.symm (hs₂.extBut _ _ D.b1.symm (hs₁.extBut _ _ D.a4 e))) (SK.seq_keep hl2 λo e=>hs₃.extBut _ _ n2.2.2 (hs₂.extBut _ _ n2.2.1 (hs₁.extBut _ _ n2.1 e))) hy λh₄ e hs₄ he=>?_)
  obtain⟨oe,hoe,hce⟩:=he
  have z4:IsZip h₄ z TI TO .ellipsis:=hs₄ _ _ D.a4.symm (hs₃.extBut _ _ D.a2.symm (hs₂.extBut _ _ D.a3.symm z1))
  have ez:e≠z:=λq=>by subst q;rw[z4]at hoe;cases hoe;simp at hce
  refine wpAny_setField_rec z4 (by simp) λh₅ _ hs₅=>?_
  exact stop h₅ e ⟨oe,hs₅.extBut _ _ ez hoe,hce⟩ λc o c1 c2 c3 c4 q=>hs₅.extBut _ _ c1 (hs₄ _ _ c4 (hs₃.extBut _ _ c2 (hs₂.extBut _ _ c3 (hs₁.extBut _ _ c1 q))))
end
end L2.Ev
namespace L2.Ev
open PySem PySem.Spec PyProof.Rows
abbrev zh1(k1:SK)(h:Heap)(l1:Addr):Heap:=h.push (k1.ob l1)
abbrev zh2(k1 k2:SK)(h:Heap)(l1 l2:Addr):Heap:=(zh1 k1 h l1).push (k2.ob l2)
abbrev zh3(k1 k2:SK)(h:Heap)(l1 l2:Addr):Heap:=(zh2 k1 k2 h l1 l2).push { cls:=.type "tuple",data:=.seq #[.ref h.objs.size,.ref (zh1 k1 h l1).objs.size] }
abbrev zh4(k1 k2:SK)(h:Heap)(l1 l2:Addr):Heap:=(zh3 k1 k2 h l1 l2).push { cls:=.type "tuple",data:=.seq #[.none,.none] }
abbrev zh5(k1 k2:SK)(h:Heap)(l1 l2:Addr):Heap:=(zh4 k1 k2 h l1 l2).push { cls:=.type "zip",data:=.fields #[.none,.bool false,.bool false,.ref (zh2 k1 k2 h l1 l2).objs.size,.ref (zh3 k1 k2 h l1 l2).objs.size] }
theorem SK.seq_push{k:SK}{h:Heap}{l:Addr}{xs:Array Value}(x:k.seq h l xs)(o:Obj):k.seq (h.push o) l xs:=SK.seq_keep x λ_ e=>AA _ e
set_option maxHeartbeats 8000000 in
theorem ajk_(k1 k2:SK)(l1 l2:Addr)(xs ys:Array Value) :
  Meets (Builtin.«zip.__new__» ⟨[.type "zip",.ref l1,.ref l2],[]⟩) (λ_ R s=>k1.seq s.heap l1 xs/\k2.seq s.heap l2 ys/\R (.ok (.ret (.ref (zh4 k1 k2 s.heap l1 l2).objs.size))) { s with heap:=zh5 k1 k2 s.heap l1 l2 }) :=
 .of_wp λprog w A R s h=>by
  obtain⟨hp,g,d,tk,os⟩:=s
  obtain⟨hl1,hl2,h⟩:=h
  have hsub:=sub_zip
  have q1:k1.seq (Shared.heap ⟨hp,g,d,tk,os⟩) l1 xs:=hl1
  have q2:k2.seq (Shared.heap ⟨hp.push (k1.ob l1),g,d,tk,os⟩) l2 ys:=SK.seq_push hl2 _
  cases k1 with
  |lst =>
   cases k2 with
   |lst =>
    have w1:Heap.IsList (Shared.heap ⟨hp,g,d,tk,os⟩) l1 xs:=q1
    have w2:Heap.IsList (Shared.heap ⟨hp.push { cls:=.type "list_iterator",data:=.fields #[.ref l1,.int 0 0] },g,d,tk,os⟩) l2 ys:=q2
    wp_walk using wpAny_pyIter_list w1,wpAny_pyIter_list w2
    exact⟨_,rfl,h⟩
   |tup =>
    have w1:Heap.IsList (Shared.heap ⟨hp,g,d,tk,os⟩) l1 xs:=q1
    have w2:Heap.IsTuple (Shared.heap ⟨hp.push { cls:=.type "list_iterator",data:=.fields #[.ref l1,.int 0 0] },g,d,tk,os⟩) l2 ys:=q2
    wp_walk using wpAny_pyIter_list w1,wpAny_pyIter_tuple w2
    exact⟨_,rfl,h⟩
  |tup =>
   cases k2 with
   |lst =>
    have w1:Heap.IsTuple (Shared.heap ⟨hp,g,d,tk,os⟩) l1 xs:=q1
    have w2:Heap.IsList (Shared.heap ⟨hp.push { cls:=.type "tuple_iterator",data:=.fields #[.ref l1,.int 0 0] },g,d,tk,os⟩) l2 ys:=q2
    wp_walk using wpAny_pyIter_tuple w1,wpAny_pyIter_list w2
    exact⟨_,rfl,h⟩
   |tup =>
    have w1:Heap.IsTuple (Shared.heap ⟨hp,g,d,tk,os⟩) l1 xs:=q1
    have w2:Heap.IsTuple (Shared.heap ⟨hp.push { cls:=.type "tuple_iterator",data:=.fields #[.ref l1,.int 0 0] },g,d,tk,os⟩) l2 ys:=q2
    wp_walk using wpAny_pyIter_tuple w1,wpAny_pyIter_tuple w2
    exact⟨_,rfl,h⟩
theorem agh_(n:Nat):ZAp (n+4) (n+2) (n+3) n (n+1):=by
 constructor<;>(show(_:Nat)≠_)<;>omega
theorem ahm_{k1 k2:SK}{l1 l2:Addr}{xs ys:Array Value}{Q:Value->Shared->Prop}{prog:Program}{w:World}{A:Around}{E:Value->Shared->Prop}{s:Shared}(hl1:k1.seq s.heap l1 xs)(hl2:k2.seq s.heap l2 ys)
  (h:∀h',ZSt k1 k2 (s.heap.objs.size+4) (s.heap.objs.size+2) (s.heap.objs.size+3) s.heap.objs.size (s.heap.objs.size+1) l1 l2 0 h'->(∀c o,s.heap.get? c=some o->h'.get? c=some o)->Q (.ref (s.heap.objs.size+4)) { s with heap:=h' }) :
  wpAny (model prog w) A (call (.type "zip") [.ref l1,.ref l2]) Q E s:=by
 refine callType_new F.called_zip (by decide) (F.typeCall_zip_2 _ _) (F.newCall_zip_2 _ _) (λobj=>F.args_object_init_3 obj _ _) F.entry_zip_new (ajk_ k1 k2 l1 l2 xs ys) ⟨hl1,hl2,?_⟩
 have e1:(zh1 k1 s.heap l1).objs.size=s.heap.objs.size+1:=BM ..
 have e2:(zh2 k1 k2 s.heap l1 l2).objs.size=s.heap.objs.size+2:=by rw[BM,e1]
 have e3:(zh3 k1 k2 s.heap l1 l2).objs.size=s.heap.objs.size+3:=by rw[BM,e2]
 have e4:(zh4 k1 k2 s.heap l1 l2).objs.size=s.heap.objs.size+4:=by rw[BM,e3]
 have g5:(zh5 k1 k2 s.heap l1 l2).get? (zh4 k1 k2 s.heap l1 l2).objs.size=some _:=AE _ rfl
 have g4:(zh5 k1 k2 s.heap l1 l2).get? (zh3 k1 k2 s.heap l1 l2).objs.size=some _:=AA _ (AE _ rfl)
 have g3:(zh5 k1 k2 s.heap l1 l2).get? (zh2 k1 k2 s.heap l1 l2).objs.size=some _:=AA _ (AA _ (AE _ rfl))
 have f2:(k2.ob l2).isFreed=false:=by cases k2<;>rfl
 have f1:(k1.ob l1).isFreed=false:=by cases k1<;>rfl
 have g2:(zh5 k1 k2 s.heap l1 l2).get? (zh1 k1 s.heap l1).objs.size=some (k2.ob l2):=AA _ (AA _ (AA _ (AE _ f2)))
 have g1:(zh5 k1 k2 s.heap l1 l2).get? s.heap.objs.size=some (k1.ob l1):=AA _ (AA _ (AA _ (AA _ (AE _ f1))))
 have fin:=h (zh5 k1 k2 s.heap l1 l2) ⟨by rw[e2,e3,e4]at g5;exact g5,by rw[e1,e2]at g3;exact g3,⟨_,_,by rw[e3]at g4;exact g4⟩,SK.iter_new g1,SK.iter_new (by rw[e1]at g2;exact g2)⟩
  λc o e=>AA _ (AA _ (AA _ (AA _ (AA _ e))))
 rw[<-e4]at fin
 exact⟨⟨_,g5,rfl⟩,fin⟩
def Itz(K:PySem.W.Frag)(k1 k2:SK)(a b:Addr):It :=
 ⟨λi H=>∃xs ys x y,k1.is K H a xs/\k2.is K H b ys/\xs[i]?=some x/\ys[i]?=some y,
  λi H v H'=>∃p x y,v=.ref p/\H p=none/\H'=upd H p (.tup [x,y])/\(∀xs,k1.is K H a xs->xs[i]?=some x)/\∀ys,k2.is K H b ys->ys[i]?=some y,
  λi H=>∃xs ys,k1.is K H a xs/\k2.is K H b ys/\(xs.length<=i∨ys.length<=i)⟩
theorem z3_{X:Cx}{pins:List (Addr×Obj)}{σ:St}{H:Hp}{s:Shared}{a c:Addr}{xs:List V}{k:SK}(I:Inv X pins σ H s)(h:k.is X.K H a xs)(f:zQ_ X pins H c):a≠c:=by
 intro e
 subst e
 have known:∀o,X.K.lookup a=some o->False:=λo q=>by
  have e:=I.ok.mod.kin a o q
  rcases f.2.2.2.1 with z|z
  ·exact I.ok.noex a o e z
  ·exact absurd (AO (AG e) (AZ I.ok.bsz z)) (BJ _)
 cases k with
 |lst =>
  rcases h with(h|⟨o,h⟩)|⟨o,_,_,q,_⟩
  ·rw[f.1]at h;cases h
  ·rw[f.1]at h;cases h
  ·exact known o q
 |tup =>
  rcases h with(h|⟨o,h⟩)|⟨o,_,_,q,_⟩
  ·rw[f.1]at h;cases h
  ·rw[f.1]at h;cases h
  ·exact known o q
theorem xG_{X:Cx}{pins:List (Addr×Obj)}{σ:St}{H H':Hp}{s:Shared}{h':Heap}{t':Nat}{ch:List Addr}(I:Inv X pins σ H s)(hf:∀b∈ch,zQ_ X pins H b)(k:∀b o,b∉ch->s.heap.get? b=some o->h'.get? b=some o)
  (new:∀b,b<s.heap.objs.size->H' b=H b) (hok:HOk X.prog X.w H' h'):Inv X pins σ H' { s with heap:=h',toks:=t' }:=by
 have lt:∀{b u},H b=some u->b<s.heap.objs.size:=λe=>I.hok.lt e
 refine I.step (g':=s.gens) (d':=s.drawn) (ch:=ch) (λb hb=>⟨(hf b hb).2.2.2.1,(hf b hb).2.1,(hf b hb).2.2.2.2.1,(hf b hb).2.2.2.2.2⟩) (λb o _ _ hc e _=>k b o hc e) (λb o _ _ hc e _=>⟨o.slots,k b o hc e⟩) (λb o _ e n=>by rw[new b (AG e)];exact n)
  (λb o hc e=>⟨o,k b o hc e⟩) (λb xs e=>by rw[new b (lt e)];exact e) (λb o u e=>by rw[new b (lt e)];exact e) (λb ps e=>⟨#[],by rw[new b (lt e),e];simp⟩) (λm hm=>?_) hok I.bare
 obtain⟨o,es,ep,ho,r⟩:=hm
 exact⟨o,es,ep,k _ o (λz=>(hf _ z).2.1 rfl) ho,r⟩
theorem adz_{P:Program}{w:World}{K:PySem.W.Frag}{elts:List Expr}{x1}{pos:Pos}(k1 k2:SK)(a b z TI TO i1 i2:Addr)(D:ZAp z TI TO i1 i2) :
  Turn P w K (.Tuple elts x1 pos) (Itz K k1 k2 a b) [z,TI,TO,i1,i2] z (λi h=>ZSt k1 k2 z TI TO i1 i2 a b i h) where
 mem:=by simp
 obj:=λi h st c hc=>by
  obtain⟨hz,hTI,⟨u,v,hTO⟩,h1,h2⟩:=st
  have it:∀{k:SK}{i l:Addr}{n:Nat},k.iter h i l n->∃o,h.get? i=some o/\∀v,o.data≠.cell v:=λ{k i l n} x=>by
   cases k with
   |lst=>obtain⟨o,e,_,d⟩:=x;exact⟨o,e,λv q=>by rw[d]at q;cases q⟩
   |tup=>obtain⟨o,e,_,d⟩:=x;exact⟨o,e,λv q=>by rw[d]at q;cases q⟩
  simp only[AI,Aw,or_false]at hc
  rcases hc with rfl|rfl|rfl|rfl|rfl
  ·exact⟨_,hz,λv q=>by cases(show Data.fields _=Data.cell v from q)⟩
  ·exact⟨_,hTI,λv q=>by cases(show Data.seq _ _=Data.cell v from q)⟩
  ·exact⟨_,hTO,λv q=>by cases(show Data.seq _ _=Data.cell v from q)⟩
  ·exact it h1
  ·exact it h2
 keep:=λi h h' st k=>by
  obtain⟨hz,hTI,⟨u,v,hTO⟩,h1,h2⟩:=st
  exact⟨k z (by simp) _ hz,k TI (by simp) _ hTI,⟨u,v,k TO (by simp) _ hTO⟩,SK.iter_keep h1 λo e=>k i1 (by simp) o e,SK.iter_keep h2 λo e=>k i2 (by simp) o e⟩
 item:=by
  intro X hP hw hK hc i pins s σ H E I hf st hg
  subst hP hw hK
  obtain⟨xs,ys,x,y,q1,q2,hx,hy⟩:=hg
  obtain⟨its,r1,p1⟩:=SK.at I q1
  obtain⟨its',r2,p2⟩:=SK.at I q2
  obtain⟨u,hu,ru⟩:=r1.get hx
  obtain⟨v,hv,rv⟩:=r2.get hy
  have fz:=hf z (by simp)
  have fTO:=hf TO (by simp)
  have f1:=hf i1 (by simp)
  have f2:=hf i2 (by simp)
  refine aht_ D st p1 p2 ⟨z3_ I q1 fz,z3_ I q1 f1⟩ ⟨z3_ I q2 fz,z3_ I q2 f1,z3_ I q2 fTO⟩ (x:=u) (y:=v) (by simpa using hu) (by simpa using hv) λh' a1 a2 a3 a4 a5 a6 a7=>?_
  refine⟨_,rfl,wpAny_letOwnedTupleGo_zip (s:={ s with heap:=h' }) a1 λh'' b1 b2=>?_⟩
  have kp:∀c o,c∉[z,TO,i1,i2]->s.heap.get? c=some o->h''.get? c=some o:=λc o hc e=>by
   simp only[AI,Aw,or_false,not_or]at hc
   exact b2.extBut _ _ hc.1 (a7 c o hc.1 hc.2.1 hc.2.2.1 hc.2.2.2 e)
  have zlt:z<s.heap.objs.size:=AG st.hz
  have hT:IsPair h'' s.heap.objs.size u v:=b2.extBut _ _ (Bh zlt) a6
  have hf4:∀c∈[z,TO,i1,i2],zQ_ X pins H c:=λc hc=>by
   simp only[AI,Aw,or_false]at hc
   rcases hc with rfl|rfl|rfl|rfl
   ·exact fz
   ·exact fTO
   ·exact f1
   ·exact f2
  have hn:H s.heap.objs.size=none:=I.fresh
  have hok:HOk X.prog X.w (upd H s.heap.objs.size (.tup [x,y])) h'':=λc o e=>by
   by_cases hc:c=s.heap.objs.size
   ·subst hc
    rw[qd_]at e
    cases e
    exact⟨by show 2<=sizeLine;decide,[u,v],.cons ru (.cons rv .nil),⟨_,hT,rfl,_,rfl,rfl⟩⟩
   ·rw[ql_ hc]at e
    refine(I.hok c o e).stay (λd v2 hd q=>kp d v2 (λm=>?_) q) (λd q=>by rw[ql_ (qv_ q hn)];exact q) λd xs q=>by rw[ql_ (qv_ q hn)];exact q
    have z:=(hf4 d m).1
    rcases hd with rfl|hd
    ·rw[e]at z;cases z
    ·rw[hd]at z;cases z
  have I9:Inv X pins σ (upd H s.heap.objs.size (.tup [x,y])) { s with heap:=h'',toks:=s.toks }:=xG_ (s:=s) I hf4 kp (λc hc=>ql_ (AT hc)) hok
  refine⟨.ref s.heap.objs.size,upd H s.heap.objs.size (.tup [x,y]),I9,rfl,⟨s.heap.objs.size,x,y,rfl,hn,rfl,λzs hz=>by rw[SK.inj I hz q1];exact hx,λzs hz=>by rw[SK.inj I hz q2];exact hy⟩,?_,λc hc=>?_⟩
  ·exact⟨b1,b2.extBut _ _ D.a1 a2,⟨u,v,b2.extBut _ _ D.a2 a3⟩,SK.iter_keep a4 λo e=>b2.extBut _ _ D.a3 e,SK.iter_keep a5 λo e=>b2.extBut _ _ D.a4 e⟩
  ·obtain⟨o,e⟩:∃o,s.heap.get? c=some o:=by
    obtain⟨hz,hTI,⟨u,v,hTO⟩,h1,h2⟩:=st
    simp only[AI,Aw,or_false]at hc
    rcases hc with rfl|rfl|rfl|rfl|rfl
    ·exact⟨_,hz⟩
    ·exact⟨_,hTI⟩
    ·exact⟨_,hTO⟩
    ·cases k1 with
     |lst=>obtain⟨o,e,_⟩:=h1;exact⟨o,e⟩
     |tup=>obtain⟨o,e,_⟩:=h1;exact⟨o,e⟩
    ·cases k2 with
     |lst=>obtain⟨o,e,_⟩:=h2;exact⟨o,e⟩
     |tup=>obtain⟨o,e,_⟩:=h2;exact⟨o,e⟩
   rw[ql_ (AT (AG e))]
   exact(hf c hc).1
 done:=by
  intro X hP hw hK hc i pins s σ H E I hf st hg
  subst hP hw hK
  obtain⟨xs,ys,q1,q2,hx⟩:=hg
  obtain⟨its,r1,p1⟩:=SK.at I q1
  obtain⟨its',r2,p2⟩:=SK.at I q2
  have fz:=hf z (by simp)
  have fTO:=hf TO (by simp)
  have f1:=hf i1 (by simp)
  have f2:=hf i2 (by simp)
  have l1:=r1.length
  have l2:=r2.length
  refine ajp_ (I.ok.hd hc) D st p1 p2 ⟨z3_ I q1 fz,z3_ I q1 f1⟩ ⟨z3_ I q2 fz,z3_ I q2 f1,z3_ I q2 fTO⟩ (hx.imp (λq=>by simp;omega) λq=>by simp;omega) λh' a7=>⟨rfl,?_⟩
  have hf4:∀c∈[z,TO,i1,i2],zQ_ X pins H c:=λc hc=>by
   simp only[AI,Aw,or_false]at hc
   rcases hc with rfl|rfl|rfl|rfl
   ·exact fz
   ·exact fTO
   ·exact f1
   ·exact f2
  have kp:∀c o,c∉[z,TO,i1,i2]->s.heap.get? c=some o->h'.get? c=some o:=λc o hc e=>by
   simp only[AI,Aw,or_false,not_or]at hc
   exact a7 c o hc.1 hc.2.1 hc.2.2.1 hc.2.2.2 e
  refine xG_ (h':=h') (t':=s.toks) I hf4 kp (λc _=>rfl) λc o e=>?_
  refine(I.hok c o e).stay (λd v2 hd q=>kp d v2 (λm=>?_) q) (λd q=>q) λd xs q=>q
  have z:=(hf4 d m).1
  rcases hd with rfl|hd
  ·rw[e]at z;cases z
  ·rw[hd]at z;cases z
 self:=λ_ _ _ _ _ st h=>wpAny_pyIter_zip st.hz h
def iZip(K:PySem.W.Frag)(k1 k2:SK)(ta:TA):TI:=λσ H R=>ta σ H λvs H1=>∃a b,vs=[.ref a,.ref b]/\(∃xs,k1.is K H1 a xs)/\(∃ys,k2.is K H1 b ys)/\R (Itz K k1 k2 a b) H1
theorem adg_{X:Cx}{ea eb:Expr}{ta:TA}{p pos tp:Pos}{elts:List Expr}{x1}(k1 k2:SK)(hg:Gl X "zip")(hm:X.mg "zip" = none)(ha:PA X [ea,eb] ta)(hs:starEach [ea,eb] X.env=(false,eval ea X.env)::starEach [eb] X.env:=by rfl)(hs2:(backTo pos (starEach [eb] X.env)).any (·.1)=false:=by rfl) :
  PI X (.Tuple elts x1 tp) (.Call (.Name "zip" p) [ea,eb] [] pos) (iZip X.K k1 k2 ta):=by
 intro pins s σ H R I h
 refine Call_ (z5_ I hg hm boot_zip (Bq (thn (ha pos pins s σ H _ I h) λus s1 ⟨vs,H1,I1,r1,q1⟩=>?_) hs hs2))
 obtain⟨a,b,rfl,⟨xs,ex⟩,⟨ys,ey⟩,q⟩:=q1
 obtain⟨u,v,rfl,ru,rv⟩:=z2_ r1
 cases ru
 cases rv
 obtain⟨its,r1,p1⟩:=SK.at I1 ex
 obtain⟨its',r2,p2⟩:=SK.at I1 ey
 refine ahm_ p1 p2 λh' Z kp=>?_
 refine wpAny_pyIter_zip Z.hz ?_
 have I2:Inv X pins σ H1 { s1 with heap:=h' }:=I1.kept (t':=s1.toks) kp
 refine⟨_,[s1.heap.objs.size+4,s1.heap.objs.size+2,s1.heap.objs.size+3,s1.heap.objs.size,s1.heap.objs.size+1],_,_,H1,rfl,I2,adz_ k1 k2 a b _ _ _ _ _ (agh_ _),Z,λc hc=>?_,q⟩
 have ge:s1.heap.objs.size<=c:=by
  simp only[AI,Aw,or_false]at hc
  rcases hc with rfl|rfl|rfl|rfl|rfl
  ·exact CU _ _
  ·exact CU _ _
  ·exact CU _ _
  ·exact AB _
  ·exact CU _ _
 exact I1.fpOk ge (I1.hok.fresh ge)
end L2.Ev
namespace L2.Ev
open PySem PySem.Spec PyProof.Rows
open L2.Ts L2.Pl L2.Rw
section
variable{X:Cx}{α:Type}[D:Dat α][S:Srtd α]
noncomputable def xk_(α:Type)[D:Dat α][S:Srtd α](H:Hp)(l:List α)(p:Keyed):Nat:=by
 classical exact if h:∃a:α,∃v,RelV v p.1/\D.is H v a then xi_ S.lt l h.choose else 0
theorem xB_{H:Hp}{l:List α}{p:Keyed}{v:V}{a:α}(r:RelV v p.1)(h:D.is H v a):xk_ α H l p=xi_ S.lt l a:=by
 unfold xk_
 have e:∃a:α,∃v,RelV v p.1/\D.is H v a:=⟨a,v,r,h⟩
 rw[dif_pos e]
 obtain⟨v',r',h'⟩:=e.choose_spec
 have:v'=v:=RelV.inj r' r
 subst this
 rw[D.inj h' h]
theorem Paired.perm{β γ:Type}{F:β->γ->Prop}{l l':List β}(p:l'.Perm l):∀{m:List γ},Paired F l m->∃m',m'.Perm m/\Paired F l' m':=by
 induction p with
 |nil=>intro m h;exact⟨m,List.Perm.refl _,h⟩
 |cons x _ ih =>
  intro m h
  cases h with
  |cons r t =>
   obtain⟨m',p',h'⟩:=ih t
   exact⟨_::m',p'.cons _,.cons r h'⟩
 |swap x y l =>
  intro m h
  cases h with
  |cons r t =>
   cases t with
   |cons r2 t2=>exact⟨_,List.Perm.swap _ _ _,.cons r2 (.cons r t2)⟩
 |trans _ _ i1 i2 =>
  intro m h
  obtain⟨m1,p1,h1⟩:=i2 h
  obtain⟨m2,p2,h2⟩:=i1 h1
  exact⟨m2,p2.trans p1,h2⟩
theorem Paired.mem{β γ:Type}{F:β->γ->Prop}{l:List β}{m:List γ}(h:Paired F l m){x:β}(hx:x∈l):∃y∈m,F x y:=by
 induction h with
 |nil=>cases hx
 |cons r t ih =>
  rcases AI.mp hx with e|hx
  ·subst e;exact⟨_,AH ..,r⟩
  ·obtain⟨y,hy,f⟩:=ih hx
   exact⟨y,AD _ hy,f⟩
abbrev jE_(α:Type)[D:Dat α](H:Hp)(its:List Value)(l:List α):Prop:=Paired (λu a=>∃v,RelV v u/\D.is H v a) its l
theorem vR_{H:Hp}:∀{vs:List V}{its:List Value}{l:List α},Vals vs its->Its H vs l->jE_ α H its l
 |_,_,_,.nil,.nil=>.nil
 |_,_,_,.cons r t,.cons q u=>.cons ⟨_,r,q⟩ (vR_ t u)
theorem ag1_{H:Hp}{its:List Value}{l:List α}(h:jE_ α H its l):∃vs,Vals vs its/\Its H vs l:=by
 induction h with
 |nil=>exact⟨[],.nil,.nil⟩
 |cons r t ih =>
  obtain⟨v,rv,d⟩:=r
  obtain⟨vs,a,b⟩:=ih
  exact⟨v::vs,.cons rv a,.cons d b⟩
theorem vL_{H:Hp}{l0:List α}{out:List Value}{m:List α}(h:jE_ α H out m)(hm:∀a∈m,a∈l0)(o:out.Pairwise λx y=>xk_ α H l0 (y,y)<=xk_ α H l0 (x,x)):m.Pairwise λa b=>S.lt a b=false:=by
 induction h with
 |nil=>exact .nil
 |@cons x a xs m r t ih =>
  obtain⟨o1,o2⟩:=Ar.mp o
  refine Ar.mpr ⟨λb hb=>?_,ih (λb hb=>hm b (AD _ hb)) o2⟩
  obtain⟨y,hy,e⟩:∃y∈xs,∃v,RelV v y/\D.is H v b:=by
   have key:∀{xs:List Value}{m:List α},jE_ α H xs m->b∈m->∃y∈xs,∃v,RelV v y/\D.is H v b:=by
    intro xs m t
    induction t with
    |nil=>intro z;cases z
    |cons r t ih =>
     intro z
     rcases AI.mp z with e|z
     ·subst e;exact⟨_,AH ..,r⟩
     ·obtain⟨y,hy,f⟩:=ih z
      exact⟨y,AD _ hy,f⟩
   exact key t hb
  obtain⟨v,rv,dv⟩:=r
  obtain⟨v2,rv2,dv2⟩:=e
  have q:=o1 y hy
  rw[xB_ (p:=(y,y)) rv2 dv2,xB_ (p:=(x,x)) rv dv]at q
  cases c:S.lt a b with
  |false=>rfl
  |true =>
   have:=(yv_ S.lin (hm a (AH ..))).mp c
   lia
theorem adi_{pins:List (Addr×Obj)}{σ:St}{H:Hp}{s:Shared}{its:List Value}{l:List α}{A:Around}(hu:A.units+4<cLine)(hb:jE_ α H its l)(hok:∀a∈l,S.ok a)(I:Inv X pins σ H s)(h2:2<=its.length) :
  (∀(Q:SortKind->Shared->Prop)(E':Value->Shared->Prop),Q (tuples' S.plain) s->wpAny (model X.prog X.w) A (keyKind' its.toArray) Q E' s) /\
  Ask X.prog X.w A s (tuples' S.plain) (λp=>∃a∈l,∃v,RelV v p.1/\D.is H v a) (xk_ α H l):=by
 constructor
 ·intro Q E' q
  have fs:∀{its:List Value}{l:List α},jE_ α H its l->(∀a∈l,S.ok a)->∃fs:List Value,fs.length=its.length/\PySem.W.KatTups s.heap its fs/\∀f∈fs,PySem.W.Looks (model X.prog X.w) s.heap (typeOf f) (if S.plain=true then .type "int" else .type "tuple"):=by
   intro its l hb
   induction hb with
   |nil=>intro _;exact⟨[],rfl,PySem.W.KatTups.nil,λf hf=>by cases hf⟩
   |@cons u0 a0 _ _ r t ih =>
    intro ok
    obtain⟨fs,f1,f2,f3⟩:=ih λa ha=>ok a (AD _ ha)
    obtain⟨v,rv,dv⟩:=r
    obtain⟨p,o,xs,n,f,rp,ho,hc,hd,hf,lk⟩:=S.first I dv (ok _ (AH ..))
    have e:u0=Value.ref p:=by
     cases v with
     |ref a =>
      have e1:Value.ref p=Value.ref a:=rp
      have e2:u0=Value.ref a:=rv
      rw[e2,e1]
     |_=>first|(obtain⟨_,e⟩:=rp;cases e)|cases rp
    subst e
    refine⟨f::fs,by simp [f1],PySem.W.KatTups.cons ho hc hd hf f2,λg hg=>?_⟩
    rcases AI.mp hg with e|hg
    ·subst e;exact lk
    ·exact f3 g hg
  obtain⟨fs,f1,f2,f3⟩:=fs hb hok
  refine PySem.W.kat_kind f2 (by lia) f3 (by split<;>decide) ?_
  cases c:S.plain with
  |true=>rw[c]at q;exact q
  |false=>rw[c]at q;exact q
 ·intro x y hx hy Q q
  obtain⟨a,ha,v,rv,dv⟩:=hx
  obtain⟨b,hb',v',rv',dv'⟩:=hy
  refine S.asks I hu dv dv' (hok a ha) (hok b hb') rv rv' Q ?_
  rw[xB_ rv dv,xB_ rv' dv']at q
  have e:decide (xi_ S.lt l a<xi_ S.lt l b)=S.lt a b:=by
   cases c:S.lt a b with
   |true=>exact decide_eq_true ((yv_ S.lin ha).mp c)
   |false=>exact decide_eq_false λz=>by rw[(yv_ S.lin ha).mpr z]at c;cases c
  rw[e]at q
  exact q
def ai5_(α:Type)[D:Dat α][S:Srtd α](ta:TA):TE:=λσ H Q=>ta σ H λvs H1=>∃(a:Addr)(l:List α),vs=[.ref a]/\LstAt H1 a l/\(∀b∈l,S.ok b) /\
 ∀(p:Addr)(vs:List V)(l':List α),H1 p=none->l'.Perm l->(l'.Pairwise λa b=>S.lt a b=false)->Its H1 vs l'->Q (.ref p) (upd H1 p (.lst vs))
theorem aa7_{pins:List (Addr×Obj)}{σ:St}{H:Hp}{s:Shared}{its out:List Value}{l:List α}{Q:VK}{h':Heap}{tk:Nat}{P:Addr}{e:Nat}(I:Inv X pins σ H s)(hb:jE_ α H its l)(hz:its.length<=sizeLine)(p:out.Perm its)
  (o:out.Pairwise λx y=>xk_ α H l (y,y)<=xk_ α H l (x,x)) (kp:∀b o,s.heap.get? b=some o->h'.get? b=some o) (hP:s.heap.objs.size<=P) (hg:h'.get? P=some (seqObj "list" out.toArray e))
  (q:∀(p:Addr)(vs:List V)(l':List α),H p=none->l'.Perm l->(l'.Pairwise λa b=>S.lt a b=false)->Its H vs l'->Q (.ref p) (upd H p (.lst vs))):EP X pins σ Q (.ref P) { s with heap:=h',toks:=tk }:=by
 obtain⟨m,pm,bm⟩:=Paired.perm p hb
 obtain⟨vs,v1,v2⟩:=ag1_ bm
 have lz:vs.length<=sizeLine:=by rw[v1.length,p.length_eq];exact hz
 refine⟨.ref P,upd H P (.lst vs),I.laid (a:=P) (o:=.lst vs) (t':=tk) kp hP ⟨lz,out,e,v1,hg⟩,rfl,q P vs m (I.hok.fresh hP) pm (vL_ bm (λa ha=>pm.mem_iff.mp ha) o) v2⟩
theorem ye_{pins:List (Addr×Obj)}{σ:St}{H:Hp}{s:Shared}{r:Addr}{its:List Value}{l:List α}{Q:VK}(hu:X.A.units+8<cLine)(I:Inv X pins σ H s)(hb:jE_ α H its l)(hz:its.length<=sizeLine)(hok:∀a∈l,S.ok a)
  (hcol:∀(Q':List Value->Shared->Prop),(∀h' tk,(∀b o,s.heap.get? b=some o->h'.get? b=some o)->s.heap.objs.size<=h'.objs.size->Q' its { s with heap:=h',toks:=tk })->wpAny (model X.prog X.w) X.A.in1 (collect (.ref r)) Q' X.xe s)
  (q:∀(p:Addr)(vs:List V)(l':List α),H p=none->l'.Perm l->(l'.Pairwise λa b=>S.lt a b=false)->Its H vs l'->Q (.ref p) (upd H p (.lst vs))) :
  wpAny (model X.prog X.w) X.A (call (.builtin "sorted") [.ref r] [(Str.ofString "reverse",.bool true)]) (EP X pins σ Q) X.xe s:=by
 refine vK_ (κ:=tuples' S.plain) (M:=λp=>∃a∈l,∃v,RelV v p.1/\D.is H v a) (rk:=xk_ α H l) hz (λv hv=>?_) hcol (λh' tk kp l2=>?_) λh' tk P e out p o kp hP hg=>?_
 ·obtain⟨a,ha,d⟩:=Paired.mem hb hv
  exact⟨a,ha,d⟩
 ·exact adi_ (A:=X.A.in1.in1) (by show X.A.units+1+1+4<cLine;lia) hb hok (I.kept (t':=tk) kp) l2
 ·exact aa7_ I hb hz p o kp hP hg q
theorem aay_{e:Expr}{ta:TA}{p pos kp kq:Pos}{j}(hc:X.calm=true)(hu:X.A.units+8<cLine)(hg:Gl X "sorted")(hm:X.mg "sorted" = none)(ha:PA X [e] ta)
  (h1:backTo pos (starEach [e] X.env)=(false,eval e X.env)::backTo pos (starEach [] X.env):=by rfl) (h2:(backTo pos (starEach [e] X.env)).any (·.1)=false:=by rfl) :
  PE X (.Call (.Name "sorted" p) [e] [⟨some (Str.ofString "reverse"),.Constant (.bool true) j kq,kp⟩] pos) (ai5_ α ta):=by
 intro pins s σ H Q I h
 refine wpAny_Call_Name_kw (z5_ I hg hm boot_sorted ?_)
 refine callWith_kw (thn (ha pos pins s σ H _ I h) λus s1 ⟨vs,H1,I1,r1,q1⟩=>?_) h1 h2
 obtain⟨a,l,rfl,⟨vs,hL,hI⟩,hok,q⟩:=q1
 obtain⟨u,rfl,ru⟩:=zd_ r1
 cases ru
 refine kws_cons (Constant_bool (kws_nil ?_))
 obtain⟨its,rv,ht,hz⟩:=I1.list (SqL.of hL)
 refine ye_ hu I1 (vR_ rv hI) (by rw[<-rv.length];exact hz) hok (λQ' q'=>collect_list ht.isList (q' _ _ (λb o e=>?_) ?_) (by rw[<-rv.length];exact hz)) q
 ·exact(Ah _ _ (Bh (AG e))).trans (AA _ e)
 ·rw[DM,size_push'];exact Cv _
end
def toK(d:List Mon):List (List Key×V):=d.map λt=>(t.1.map Sum.inl,V.int t.2)
theorem xx_:∀{a b:List Int},(a.map Sum.inl:List Key)=b.map Sum.inl->a=b
 |[],[],_=>rfl
 |[],_::_,e=>by simp at e
 |_::_,[],e=>by simp at e
 |x::xs,y::ys,e=>by
  rw[Ab,Ab]at e
  injection e with e1 e2
  injection e1 with e1
  rw[e1,xx_ e2]
theorem jP_(k:List Int):(k.map Sum.inl:List Key).map kV=k.map V.int:=by rw[Cj];rfl
theorem yt_(d:List Mon)(p:Pw):z1_ (toK d) (p.map Sum.inl)=(q7_ d p).map V.int:=by
 induction d with
 |nil=>rfl
 |cons t r ih =>
  have e0:toK (t::r)=(t.1.map Sum.inl,V.int t.2)::toK r:=rfl
  rw[e0]
  by_cases e:t.1=p
  ·rw[j4_ (p:=(t.1.map Sum.inl,V.int t.2)) (by rw[e])]
   simp [q7_,BN,e]
  ·rw[j8_ (p:=(t.1.map Sum.inl,V.int t.2)) (λz=>e (xx_ z)),ih]
   simp [q7_,BN,e]
theorem vV_(d:List Mon)(p:Pw)(n:Int):zv_ (toK d) (p.map Sum.inl) (V.int n)=toK (jq_ d p n):=by
 have ea:((toK d).any λkv=>decide (kv.1=p.map Sum.inl))=d.any λkv=>decide (kv.1=p):=by
  unfold toK
  rw[List.any_map]
  congr 1
  funext t
  show decide ((t.1.map Sum.inl:List Key)=p.map Sum.inl)=decide (t.1=p)
  by_cases e:t.1=p
  ·rw[decide_eq_true e,decide_eq_true (by rw[e])]
  ·rw[decide_eq_false e,decide_eq_false λz=>e (xx_ z)]
 unfold zv_ jq_
 rw[ea]
 split
 ·unfold toK
  rw[Cj,Cj]
  apply CF
  intro t _
  simp only[Function.comp]
  by_cases e:t.1=p
  ·rw[if_pos (by rw[e]),if_pos e]
  ·rw[if_neg (λz=>e (xx_ z)),if_neg e]
 ·unfold toK
  rw[Av]
  rfl
theorem yp_(d:List Mon):(toK d).length=d.length:=AF _
theorem y7_{X:Cx}{pins:List (Addr×Obj)}{σ:St}{H:Hp}{s:Shared}{a:Addr}{d:List Mon}(I:Inv X pins σ H s)(h:Rd H a (.dT (toK d))) :
  d.length<=sizeLine/\(a==sysModules)=false/\∃(es:Array DictEntry)(ep:Nat),RawD s.heap a es ep/\es.size=d.length /\
   Paired (λ(e:DictEntry)(t:Mon)=>(∃p,e.key=.ref p/\H p=some (.tup (t.1.map V.int)))/\RelV (.int t.2) e.val) es.toList d:=by
 obtain⟨z,y,xs,r,o,es,ep,h1,h2,h3,h4,h5⟩:=(show ObjOk X.prog X.w H s.heap a (.dT (toK d)) from aa3_ I.hok h)
 have key:∀{d:List Mon}{xs:List (List Key×Addr×Value)},KT H (toK d) xs->Paired (λ(e:DictEntry)(t:Mon)=>(∃p,e.key=.ref p/\H p=some (.tup (t.1.map V.int)))/\RelV (.int t.2) e.val) (xs.map (entryOfKey (tupleKind (qS_ X.prog X.w)))) d:=by
  intro d
  induction d with
  |nil=>intro xs r;cases r;exact .nil
  |cons t d ih =>
   intro xs r
   cases r with
   |cons q qs =>
    refine .cons ⟨⟨_,rfl,?_⟩,q.2.2⟩ (ih qs)
    have:=q.2.1
    rw[<-jP_]
    exact this
 have kp:=key r
 rw[<-h4]at kp
 refine⟨by rw[<-yp_];exact z,y,es,ep,⟨o,h1,h2,h3⟩,?_,kp⟩
 rw[<-AJ]
 exact Ai kp
section
variable{X:Cx}
def ahi_(ta:TA):TE:=λσ H Q=>ta σ H λvs H1=>∃(a:Addr)(d:List Mon),vs=[.ref a]/\Rd H1 a (.dT (toK d))/\(∀t∈d,t.1≠[]) /\
 ∀(p:Addr)(vs:List V)(ks:List Pw),H1 p=none->ks.Perm (d.map (·.1))->(ks.Pairwise λa b=>lxl a b=false)->Its H1 vs ks->Q (.ref p) (upd H1 p (.lst vs))
theorem aaq_{e:Expr}{ta:TA}{p pos kp kq:Pos}{j}(hc:X.calm=true)(hu:X.A.units+8<cLine)(hg:Gl X "sorted")(hm:X.mg "sorted" = none)(ha:PA X [e] ta)
  (h1:backTo pos (starEach [e] X.env)=(false,eval e X.env)::backTo pos (starEach [] X.env):=by rfl) (h2:(backTo pos (starEach [e] X.env)).any (·.1)=false:=by rfl) :
  PE X (.Call (.Name "sorted" p) [e] [⟨some (Str.ofString "reverse"),.Constant (.bool true) j kq,kp⟩] pos) (ahi_ ta):=by
 intro pins s σ H Q I h
 refine wpAny_Call_Name_kw (z5_ I hg hm boot_sorted ?_)
 refine callWith_kw (thn (ha pos pins s σ H _ I h) λus s1 ⟨vs,H1,I1,r1,q1⟩=>?_) h1 h2
 obtain⟨a,d,rfl,hR,hne,q⟩:=q1
 obtain⟨u,rfl,ru⟩:=zd_ r1
 cases ru
 refine kws_cons (Constant_bool (kws_nil ?_))
 obtain⟨z,lo,es,ep,raw,sz,ent⟩:=y7_ I1 hR
 have hb:jE_ (List Int) H1 (es.toList.map (·.key)) (d.map (·.1)):=by
  have key:∀{l:List DictEntry}{d:List Mon},Paired (λ(e:DictEntry)(t:Mon)=>(∃p,e.key=.ref p/\H1 p=some (.tup (t.1.map V.int)))/\RelV (.int t.2) e.val) l d->jE_ (List Int) H1 (l.map (·.key)) (d.map (·.1)):=by
   intro l d h
   induction h with
   |nil=>exact .nil
   |cons r t ih =>
    obtain⟨⟨p,e1,e2⟩,_⟩:=r
    exact .cons ⟨.ref p,e1,acm_ e2⟩ ih
  exact key ent
 have ln:(es.toList.map (·.key)).length<=sizeLine:=by rw[AF,AJ,sz];exact z
 refine ye_ hu I1 hb ln (λk hk=>?_) (λQ' q'=>vM_ (ag4_ lo) (I1.ok.hd hc) raw (by rw[sz];exact z) λh' tk acc kp szz it=>?_) q
 ·obtain⟨t,ht,rfl⟩:=Az.mp hk
  exact hne t ht
 ·have e:acc.toList=es.toList.map (·.key):=by
   refine List.ext_getElem? λi=>?_
   rw[Aj,Ac,Aj]
   by_cases c:i<es.size
   ·have ci:i<acc.size:=by rw[it.1];exact c
    obtain⟨_,e⟩:=it.2 i acc[i] (AC ci)
    rw[AC ci,AC c,e]
    rfl
   ·rw[Bb (by rw[it.1];lia),Bb (by lia)]
    rfl
  rw[e]
  exact q' h' tk kp szz
end
def Iti(a:Addr)(o:Obj)(d:List Mon):It :=
 ⟨λi H=>H a=some (.frz o (.dT (toK d)))/\i<d.length,
  λi H v H'=>∃p q t,v=.ref p/\H p=none/\d[i]?=some t/\H q=some (.tup (t.1.map V.int))/\H'=upd H p (.tup [.ref q,.int t.2]),
  λi H=>H a=some (.frz o (.dT (toK d)))/\d.length<=i⟩
theorem acz_{H:Hp}{X:Cx}{pins:List (Addr×Obj)}{σ:St}{s:Shared}{a:Addr}{o:Obj}{d:List Mon}{es:Array DictEntry}{ep:Nat}(hd:o.data=.dict es ep)(I:Inv X pins σ H s)(h:H a=some (.frz o (.dT (toK d)))) :
  RawD s.heap a es ep/\es.size=d.length/\Paired (λ(e:DictEntry)(t:Mon)=>(∃p,e.key=.ref p/\H p=some (.tup (t.1.map V.int)))/\RelV (.int t.2) e.val) es.toList d:=by
 obtain⟨_,_,es',ep',⟨o',h1,h2,h3⟩,h4,h5⟩:=y7_ I (.inr ⟨o,h⟩)
 obtain⟨h0,_⟩:=(show ObjOk X.prog X.w H s.heap a (.frz o (.dT (toK d))) from I.hok a _ h)
 rw[h0]at h1
 cases h1
 rw[hd]at h3
 cases h3
 exact⟨⟨o,h0,h2,hd⟩,h4,h5⟩
theorem abm_{P:Program}{w:World}{K:PySem.W.Frag}{elts:List Expr}{x1}{pos:Pos}(a it:Addr)(o:Obj)(d:List Mon)(es:Array DictEntry)(ep:Nat)(hd:o.data=.dict es ep) :
  Turn P w K (.Tuple elts x1 pos) (Iti a o d) [it] it (λi h=>∃ok ov,IsItemIter h it a i es.size ep ok ov) where
 mem:=by simp
 obj:=λi h st b hb=>by
  obtain⟨ok,ov,st⟩:=st
  have e:b=it:=by simpa using hb
  subst e
  exact⟨_,st,λv z=>by cases(show Data.fields _=Data.cell v from z)⟩
 keep:=λi h h' st k=>by
  obtain⟨ok,ov,st⟩:=st
  exact⟨ok,ov,k it (by simp) _ st⟩
 item:=by
  intro X hP hw hK hc i pins s σ H E I hf st hg
  subst hP hw hK
  obtain⟨ok,ov,st⟩:=st
  obtain⟨hg,hi⟩:=hg
  obtain⟨raw,sz,ent⟩:=acz_ hd I hg
  have f1:=hf it (by simp)
  have hi':i<es.size:=by lia
  have ei:es.toList[i]?=some es[i]:=by rw[Aj,AC hi']
  obtain⟨t,et,⟨q,eq1,eq2⟩,rt⟩:=Paired.get ent ei
  refine acp_ st raw hi' λh' a1 a2 a3 a4=>?_
  refine⟨_,rfl,wpAny_letOwnedTupleGo_items (s:={ s with heap:=h' }) a1 λh'' b1 b2=>?_⟩
  have kp:∀c u,c∉[it]->s.heap.get? c=some u->h''.get? c=some u:=λc u hc e=>by
   have hc:c≠it:=by simpa using hc
   exact b2.extBut _ _ hc (a4 c u hc e)
  have ilt:it<s.heap.objs.size:=AG st
  have hT:h''.get? s.heap.objs.size=some { cls:=.type "tuple",data:=.seq #[es[i].key,es[i].val] }:=b2.extBut _ _ (Bh ilt) a2
  have hn:H s.heap.objs.size=none:=I.fresh
  have hok:HOk X.prog X.w (upd H s.heap.objs.size (.tup [.ref q,.int t.2])) h'':=λc u e=>by
   by_cases hc:c=s.heap.objs.size
   ·subst hc
    rw[qd_]at e
    cases e
    exact⟨by show 2<=sizeLine;decide,[es[i].key,es[i].val],.cons (by rw[eq1];rfl) (.cons rt .nil),⟨_,hT,rfl,_,rfl,rfl⟩⟩
   ·rw[ql_ hc]at e
    refine(I.hok c u e).stay (λd v2 hd q=>kp d v2 (λm=>?_) q) (λd q=>by rw[ql_ (qv_ q hn)];exact q) λd xs q=>by rw[ql_ (qv_ q hn)];exact q
    have ed:d=it:=by simpa using m
    have z:=f1.1
    rw[<-ed]at z
    rcases hd with rfl|hd
    ·rw[e]at z;cases z
    ·rw[hd]at z;cases z
  have I9:Inv X pins σ (upd H s.heap.objs.size (.tup [.ref q,.int t.2])) { s with heap:=h'',toks:=s.toks }:=xG_ (s:=s) I hf kp (λc hc=>ql_ (AT hc)) hok
  refine⟨.ref s.heap.objs.size,_,I9,rfl,⟨s.heap.objs.size,q,t,rfl,hn,et,eq2,rfl⟩,⟨_,_,b1⟩,λc hc=>?_⟩
  have ec:c=it:=by simpa using hc
  subst ec
  rw[ql_ (AT ilt)]
  exact f1.1
 done:=by
  intro X hP hw hK hc i pins s σ H E I hf st hg
  subst hP hw hK
  obtain⟨ok,ov,st⟩:=st
  obtain⟨hg,hi⟩:=hg
  obtain⟨raw,sz,ent⟩:=acz_ hd I hg
  have f1:=hf it (by simp)
  refine ad9_ (I.ok.hd hc) st raw (by lia) λh' a7=>⟨rfl,?_⟩
  have kp:∀c u,c∉[it]->s.heap.get? c=some u->h'.get? c=some u:=λc u hc e=>a7 c u (by simpa using hc) e
  refine xG_ (h':=h') (t':=s.toks) I hf kp (λc _=>rfl) λc u e=>?_
  refine(I.hok c u e).stay (λd v2 hd q=>kp d v2 (λm=>?_) q) (λd q=>q) λd xs q=>q
  have ed:d=it:=by simpa using m
  have z:=f1.1
  rw[<-ed]at z
  rcases hd with rfl|hd
  ·rw[e]at z;cases z
  ·rw[hd]at z;cases z
 self:=λA i s Q E st h=>by
  obtain⟨ok,ov,st⟩:=st
  exact PySem.W.kcp_self st h
def ahs_(te:TE):TI:=λσ H R=>te σ H λx H1=>∃(a:Addr)(d:List Mon),x=.ref a/\H1 a=some (.dT (toK d))/\∀o:Obj,R (Iti a o d) (upd H1 a (.frz o (.dT (toK d))))
theorem ae8_{X:Cx}{eo:Expr}{te:TE}{apos pos tp:Pos}{elts:List Expr}{x1}(ho:PE X eo te)(hbase:attributeBase eo "items" X.env (eval eo X.env)=eval eo X.env:=by rfl)(hline:(apos.endLine==pos.line)=true:=by rfl) :
  PI X (.Tuple elts x1 tp) (.Call (.Attribute eo "items" apos) [] [] pos) (ahs_ te):=by
 intro pins s σ H R I h
 refine wpAny_Call_method0_late hbase hline (thn (ho pins s σ H _ I h) λv s1 ⟨x,H1,I1,r1,q1⟩=>?_)
 obtain⟨a,d,rfl,hd,q⟩:=q1
 cases r1
 obtain⟨z,lo,es,ep,raw,sz,ent⟩:=y7_ I1 (.inl hd)
 obtain⟨o,ho,hx,hdat⟩:=id raw
 refine⟨"dict", "dict.items",DT,PySem.F.slot_dict_items,PySem.F.type_dict_items,raw.type,λb e=>?_,CO rfl (PySem.evalArgs_none (ac2_ lo raw ?_))⟩
 ·cases e
  exact⟨o,ho,hx.2.1⟩
 have kp1:∀b u,s1.heap.get? b=some u->(s1.heap.push { cls:=.type "dict_items",data:=.fields #[.ref a] }).get? b=some u:=λb u e=>AA _ e
 refine aar_ (s:={ s1 with heap:=s1.heap.push { cls:=.type "dict_items",data:=.fields #[.ref a] } }) ⟨_,AE _ rfl,rfl,rfl⟩ (raw.keep λo e=>kp1 _ _ e) ?_
 generalize hh:s1.heap.push { cls:=.type "dict_items",data:=.fields #[.ref a] }=h1 at kp1
 have I2:Inv X pins σ H1 { s1 with heap:=h1.push { cls:=.type "dict_itemiterator",data:=.fields #[.none,.bool false,.ref a,.int 0 0,.int es.size 0,.int ep 0,.none,.none] } } :=
  I1.kept (t':=s1.toks) λb u e=>AA _ (kp1 b u e)
 have hn:H1 h1.objs.size=none:=I1.hok.fresh (by rw[<-hh,BM];exact Cv _)
 have ge:s1.heap.objs.size<=h1.objs.size:=by rw[<-hh,BM];exact Cv _
 have ho2:(h1.push { cls:=.type "dict_itemiterator",data:=.fields #[.none,.bool false,.ref a,.int 0 0,.int es.size 0,.int ep 0,.none,.none] }).get? a=some o:=AA _ (kp1 _ _ ho)
 have I3:Inv X pins σ (upd H1 a (.frz o (.dT (toK d)))) { s1 with heap:=h1.push { cls:=.type "dict_itemiterator",data:=.fields #[.none,.bool false,.ref a,.int 0 0,.int es.size 0,.int ep 0,.none,.none] } }:=by
  refine I2.write (x:=a) (e:=a) (o:=.frz o (.dT (toK d))) (t':=s1.toks) (by rw[hd];exact True.intro) (.inl rfl) (λb u _ e=>e) ⟨o,ho2⟩ ⟨ho2,?_⟩
  refine(I2.hok a _ hd).stay (λb u _ e=>e) (λb e=>?_) λb xs e=>?_
  ·rw[ql_ (x2_ e hd (by intro z;cases z))];exact e
  ·rw[ql_ (x2_ e hd (by intro z;cases z))];exact e
 refine⟨_,[h1.objs.size],_,_,_,rfl,I3,abm_ a h1.objs.size o d es ep hdat,⟨_,_,AE _ rfl⟩,λb hb=>?_,q o⟩
 have eb:b=h1.objs.size:=by simpa using hb
 subst eb
 refine I1.fpOk ge ?_
 rw[ql_ (qv_ hd hn).symm]
 exact hn
end L2.Ev
namespace L2.Ev
open PySem
open L2.Pl
theorem qf_{H:Hp}{p:Addr}(h:H p=none)(o:HO):Same H (upd H p o):=λb u q=>by rw[ql_ (qv_ q h)];exact q
theorem x7_{n:Nat}(h:n<=100000):n<sizeLine:=Bf h (by decide)
theorem small{n:Nat}(h:n<=100000):n<=sizeLine:=BE (x7_ h)
theorem hu8{A:Around}{k:Nat}(hr:Room k A):A.units+8<cLine:=Bf (CC (by decide:8<=64) _) hr.units
def afh_(scope:Scope)(N N':List Str)(o:Option Nat)(i:Nat):Bool:=match o with
 |none=>true
 |some j=>match N'[i]? with
  |some x=>decide (N[j]?=some x)&&decide (scope.names.lookup x=some NameKind.free)
  |none=>false
def adl_(sc scope:Scope)(N N':List Str)(src:List (Option Nat)):Bool :=
 decide (scope.kind=.function)&&scope.names.all (λy=>decide (y.2≠NameKind.cell))&&scope.names.all (λy=>!decide (y.2=NameKind.local)||decide (scope.names.lookup y.1=some NameKind.local)) &&
 scope.names.all (λy=>!decide (y.2=NameKind.free)||(decide (sc.names.lookup y.1=some NameKind.cell)||decide (sc.names.lookup y.1=some NameKind.free)))&&decide (src.length=N'.length) &&
 (List.range src.length).all λi=>afh_ scope N N' (src.getD i none) i
theorem yb_{X:Cx}{N':List Str}{src:List (Option Nat)}{scope:Scope}(sc:Scope)(N:List Str)(h:adl_ sc scope N N' src=true)(e1:X.env.scope=sc:=by rfl)(e2:X.N=N:=by rfl):BkScope X N' src scope:=by
 subst e1 e2
 unfold adl_ at h
 simp only[BI,decide_eq_true_eq,DO,Bool.or_eq_true,Bool.not_eq_true',decide_eq_false_iff_not]at h
 obtain⟨⟨⟨⟨⟨h1,h2⟩,h3⟩,h4⟩,h5⟩,h6⟩:=h
 refine⟨h1,h2,λy hy e=>(h3 y hy).resolve_left λz=>z e,λy hy e=>(h4 y hy).resolve_left λz=>z e,h5,λi j e=>?_⟩
 obtain⟨hi,ei⟩:=AY.mp e
 have q:=h6 i (List.mem_range.mpr hi)
 rw[BK,e]at q
 unfold afh_ at q
 simp only[DN]at q
 cases c:N'[i]? with
 |none=>rw[c]at q;cases q
 |some x =>
  rw[c]at q
  simp only[BI,decide_eq_true_eq]at q
  exact⟨x,rfl,q.1,q.2⟩
theorem Same.tseq{K:PySem.W.Frag}{H H':Hp}{a:Addr}{xs:List V}(e:Same H H')(h:SqT K H a xs):SqT K H' a xs:=by
 rcases h with(h|⟨o,h⟩)|h
 ·exact .inl (.inl (e _ _ h))
 ·exact .inl (.inr ⟨o,e _ _ h⟩)
 ·exact .inr h
theorem SK.same{K:PySem.W.Frag}{H H':Hp}{a:Addr}{xs:List V}{k:SK}(e:Same H H')(h:k.is K H a xs):k.is K H' a xs:=by
 cases k with
 |lst=>exact Same.seq e h
 |tup=>exact Same.tseq e h
theorem yD_{α:Type}[Dat α]{K:PySem.W.Frag}{a:Addr}{xs:List V}{σ0:St}{H1:Hp}{D:Addr}{R:Hp->Prop}{g:TG}{tc:TT}{te:TE}(hD:H1 D=none)(hl:SqL K H1 a xs)(Sp:St->Prop)(out:Nat->Option α)(hn:xs.length<=sizeLine)(h0:Sp σ0)
  (hturn:∀(i:Nat)(x:V)(σ':St)(H':Hp)(Yes:V->St->Hp->Prop)(No:St->Hp->Prop),xs[i]?=some x->Sp σ'->Same H1 H'->(∀y σ2 H4 a,Sp σ2->Same H' H4->out i=some a->Dat.is H4 y a->Yes y σ2 H4)->(∀σ2 H3,Sp σ2->Same H' H3->out i=none->No σ2 H3) ->
   g x σ' H' λσ2 H2=>tc σ2 H2 λok H3=>if ok=true then te σ2 H3 λy H4=>Yes y σ2 H4 else No σ2 H3)
  (hend:∀H',Same H1 H'->LstAt H' D ((List.range xs.length).filterMap out)->R H') :
  ∃W:Nat->Nat->St->Hp->Prop,(∃m,W 0 m σ0 (upd H1 D (.lst [])))/\∀i m σ' H',W i m σ' H' ->
  ((Itl K a).stop i H'/\R H')∨((Itl K a).go i H'/\∃N:St->Hp->Prop,(∀σ'' H'',N σ'' H''->∃m',m'<m/\W (i+1) m' σ'' H'') /\
   ∀x H'',(Itl K a).yld i H' x H''->g x σ' H'' λσ2 H2=>tc σ2 H2 λok H3=>if ok=true then te σ2 H3 λy H4=>∃ys,H4 D=some (.lst ys)/\ys.length<sizeLine/\N σ2 (upd H4 D (.lst (ys++[y]))) else N σ2 H3):=by
 refine jC_ (Q:=λ_ H=>R H) (n:=xs.length) hD Sp out hn h0 (λH' e=>⟨xs,Same.seq e hl,AB _⟩) (λi H' hi e=>⟨xs,xs[i],Same.seq e hl,AK hi⟩) (λi σ' H' Yes No hi hS hH hy hn x H'' y=>?_) hend
 obtain⟨rfl,y⟩:=y
 exact hturn i x σ' H'' Yes No (y xs (Same.seq hH hl)) hS hH hy hn
theorem aeh_{α:Type}[Dat α]{K:PySem.W.Frag}{a:Addr}{xs:List V}{σ0:St}{H1:Hp}{D:Addr}{R:Hp->Prop}{g:TG}{tc:TT}{te:TE}(hD:H1 D=none)(hl:SqT K H1 a xs)(Sp:St->Prop)(out:Nat->Option α)(hn:xs.length<=sizeLine)(h0:Sp σ0)
  (hturn:∀(i:Nat)(x:V)(σ':St)(H':Hp)(Yes:V->St->Hp->Prop)(No:St->Hp->Prop),xs[i]?=some x->Sp σ'->Same H1 H'->(∀y σ2 H4 a,Sp σ2->Same H' H4->out i=some a->Dat.is H4 y a->Yes y σ2 H4)->(∀σ2 H3,Sp σ2->Same H' H3->out i=none->No σ2 H3) ->
   g x σ' H' λσ2 H2=>tc σ2 H2 λok H3=>if ok=true then te σ2 H3 λy H4=>Yes y σ2 H4 else No σ2 H3)
  (hend:∀H',Same H1 H'->LstAt H' D ((List.range xs.length).filterMap out)->R H') :
  ∃W:Nat->Nat->St->Hp->Prop,(∃m,W 0 m σ0 (upd H1 D (.lst [])))/\∀i m σ' H',W i m σ' H' ->
  ((Itt K a).stop i H'/\R H')∨((Itt K a).go i H'/\∃N:St->Hp->Prop,(∀σ'' H'',N σ'' H''->∃m',m'<m/\W (i+1) m' σ'' H'') /\
   ∀x H'',(Itt K a).yld i H' x H''->g x σ' H'' λσ2 H2=>tc σ2 H2 λok H3=>if ok=true then te σ2 H3 λy H4=>∃ys,H4 D=some (.lst ys)/\ys.length<sizeLine/\N σ2 (upd H4 D (.lst (ys++[y]))) else N σ2 H3):=by
 refine jC_ (Q:=λ_ H=>R H) (n:=xs.length) hD Sp out hn h0 (λH' e=>⟨xs,Same.tseq e hl,AB _⟩) (λi H' hi e=>⟨xs,xs[i],Same.tseq e hl,AK hi⟩) (λi σ' H' Yes No hi hS hH hy hn x H'' y=>?_) hend
 obtain⟨rfl,y⟩:=y
 exact hturn i x σ' H'' Yes No (y xs (Same.tseq hH hl)) hS hH hy hn
theorem aa5_{α:Type}[Dat α]{a:Addr}{o:Obj}{d:List Mon}{σ0:St}{H1:Hp}{D:Addr}{R:Hp->Prop}{g:TG}{tc:TT}{te:TE}(hD:H1 D=none)(hl:H1 a=some (.frz o (.dT (toK d))))(Sp:St->Prop)(out:Nat->Option α)(hn:d.length<=sizeLine)(h0:Sp σ0)
  (hturn:∀(i:Nat)(t:Mon)(p q:Addr)(σ':St)(H':Hp)(Yes:V->St->Hp->Prop)(No:St->Hp->Prop),d[i]?=some t->H' p=none->H' q=some (.tup (t.1.map V.int))->Sp σ'->Same H1 H'->(∀y σ2 H4 a,Sp σ2->Same H' H4->out i=some a->Dat.is H4 y a->Yes y σ2 H4)->(∀σ2 H3,Sp σ2->Same H' H3->out i=none->No σ2 H3) ->
   g (.ref p) σ' (upd H' p (.tup [.ref q,.int t.2])) λσ2 H2=>tc σ2 H2 λok H3=>if ok=true then te σ2 H3 λy H4=>Yes y σ2 H4 else No σ2 H3)
  (hend:∀H',Same H1 H'->LstAt H' D ((List.range d.length).filterMap out)->R H') :
  ∃W:Nat->Nat->St->Hp->Prop,(∃m,W 0 m σ0 (upd H1 D (.lst [])))/\∀i m σ' H',W i m σ' H' ->
  ((Iti a o d).stop i H'/\R H')∨((Iti a o d).go i H'/\∃N:St->Hp->Prop,(∀σ'' H'',N σ'' H''->∃m',m'<m/\W (i+1) m' σ'' H'') /\
   ∀x H'',(Iti a o d).yld i H' x H''->g x σ' H'' λσ2 H2=>tc σ2 H2 λok H3=>if ok=true then te σ2 H3 λy H4=>∃ys,H4 D=some (.lst ys)/\ys.length<sizeLine/\N σ2 (upd H4 D (.lst (ys++[y]))) else N σ2 H3):=by
 refine jC_ (Q:=λ_ H=>R H) (n:=d.length) hD Sp out hn h0 (λH' e=>⟨e _ _ hl,AB _⟩) (λi H' hi e=>⟨e _ _ hl,hi⟩) (λi σ' H' Yes No hi hS hH hy hn x H'' y=>?_) hend
 obtain⟨p,q,t,rfl,hp,ht,hq,rfl⟩:=y
 exact hturn i t p q σ' H' Yes No ht hp hq hS hH hy hn
theorem aeu_{α:Type}[Dat α]{K:PySem.W.Frag}{k1 k2:SK}{a b:Addr}{xs ys:List V}{σ0:St}{H1:Hp}{D:Addr}{R:Hp->Prop}{g:TG}{tc:TT}{te:TE}(hD:H1 D=none)(hl:k1.is K H1 a xs)(hl2:k2.is K H1 b ys)(Sp:St->Prop)(out:Nat->Option α)(hn:min xs.length ys.length<=sizeLine)(h0:Sp σ0)
  (hturn:∀(i:Nat)(x y:V)(p:Addr)(σ':St)(H':Hp)(Yes:V->St->Hp->Prop)(No:St->Hp->Prop),xs[i]?=some x->ys[i]?=some y->H' p=none->Sp σ'->Same H1 H'->(∀y σ2 H4 a,Sp σ2->Same H' H4->out i=some a->Dat.is H4 y a->Yes y σ2 H4)->(∀σ2 H3,Sp σ2->Same H' H3->out i=none->No σ2 H3) ->
   g (.ref p) σ' (upd H' p (.tup [x,y])) λσ2 H2=>tc σ2 H2 λok H3=>if ok=true then te σ2 H3 λy H4=>Yes y σ2 H4 else No σ2 H3)
  (hend:∀H',Same H1 H'->LstAt H' D ((List.range (min xs.length ys.length)).filterMap out)->R H') :
  ∃W:Nat->Nat->St->Hp->Prop,(∃m,W 0 m σ0 (upd H1 D (.lst [])))/\∀i m σ' H',W i m σ' H' ->
  ((Itz K k1 k2 a b).stop i H'/\R H')∨((Itz K k1 k2 a b).go i H'/\∃N:St->Hp->Prop,(∀σ'' H'',N σ'' H''->∃m',m'<m/\W (i+1) m' σ'' H'') /\
   ∀x H'',(Itz K k1 k2 a b).yld i H' x H''->g x σ' H'' λσ2 H2=>tc σ2 H2 λok H3=>if ok=true then te σ2 H3 λy H4=>∃ys,H4 D=some (.lst ys)/\ys.length<sizeLine/\N σ2 (upd H4 D (.lst (ys++[y]))) else N σ2 H3):=by
 refine jC_ (Q:=λ_ H=>R H) (n:=min xs.length ys.length) hD Sp out hn h0 (λH' e=>⟨xs,ys,SK.same e hl,SK.same e hl2,by omega⟩) (λi H' hi e=>⟨xs,ys,xs[i],ys[i],SK.same e hl,SK.same e hl2,AK (by omega),AK (by omega)⟩) (λi σ' H' Yes No hi hS hH hy hn x H'' y=>?_) hend
 obtain⟨p,x,y,rfl,hp,rfl,hx,hy2⟩:=y
 exact hturn i x y p σ' H' Yes No (hx xs (SK.same hH hl)) (hy2 ys (SK.same hH hl2)) hp hS hH hy hn
theorem z7_{α β:Type}(f:α->Option β)(l:List α):(List.range l.length).filterMap (λi=>(l[i]?).bind f)=l.filterMap f:=by
 induction l with
 |nil=>rfl
 |cons x l ih =>
  rw[AN,Ba,Ao,CM,Ao]
  have e:((λi=>((x::l)[i]?).bind f) ∘ Nat.succ)=λi=>(l[i]?).bind f:=by funext i;simp
  rw[e,ih]
  simp
theorem xe_{α β:Type}(c:α->Prop)[DecidablePred c](g:α->β)(l:List α):l.filterMap (λk=>if c k then some (g k) else none)=(l.filter λk=>decide (c k)).map g:=by
 induction l with
 |nil=>rfl
 |cons x l ih =>
  rw[Ao,BS]
  by_cases h:c x
  ·rw[if_pos h,if_pos (decide_eq_true h),Ab,ih]
  ·rw[if_neg h,if_neg (by simpa using h),ih]
theorem jm_{α:Type}[D:Dat α]{H:Hp}{vs:List V}{l:List α}(h:Its H vs l){i:Nat}{x:V}(e:vs[i]?=some x):∃a,l[i]?=some a/\D.is H x a:=Paired.get h e
theorem jj_{α:Type}{l:List α}{i:Nat}{x:α}(e:l[i]?=some x):l.take (i+1)=l.take i++[x]:=by
 obtain⟨h,rfl⟩:=AY.mp e
 rw[List.take_succ_eq_append_getElem h]
theorem xp_{H:Hp}{x:V}{t:Mon}(h:Dat.is H x t):∃p q,x=.ref p/\H p=some (.tup [.ref q,.int t.2])/\H q=some (.tup (t.1.map V.int)):=by
 obtain⟨p,a,b,rfl,hp,ha,hb⟩:=h
 obtain⟨q,rfl,hq⟩:=z6_ ha
 have hb':b=.int t.2:=hb
 subst hb'
 exact⟨p,q,rfl,hp,hq⟩
theorem jo_{H:Hp}{p q:Addr}{t:Mon}(hp:H p=some (.tup [.ref q,.int t.2]))(hq:H q=some (.tup (t.1.map V.int))):Dat.is H (.ref p) t:=⟨p,_,_,rfl,hp,acm_ hq,rfl⟩
theorem aei_{H:Hp}{p:Addr}(h:H p=none)(o:HO):Tups H (upd H p o):=Tups.same (qf_ h o)
theorem yesT{σ:St}{H:Hp}{A B:Hp->Prop}(h:A H):tYes σ H (λok H3=>if ok=true then A H3 else B H3):=ja_ (A:=A H) (B:=B H) h
theorem v6_{i:Nat}{v:V}{σ:St}{H:Hp}{A B:St->Hp->Prop}(h:A (σ.set i (some v)) H):qU_ i v σ H (λσ2 H2=>tYes σ2 H2 λok H3=>if ok=true then A σ2 H3 else B σ2 H3):=ja_ (A:=A (σ.set i (some v)) H) (B:=B (σ.set i (some v)) H) h
end L2.Ev
namespace L2.Ev
open PySem PySem.Spec PyProof.Rows
open L2.Pl
section
variable{X:Cx}
def CBig(i j:Int):Prop:=i.natAbs<2^100000/\j.natAbs<2^100000
theorem vt_{x:Int}(h:x.natAbs<2^100000):Builtin.Int.intBits x<=2^20:=by
 unfold Builtin.Int.intBits
 split
 ·exact AU _
 ·rename_i c
  have hx:x.natAbs≠0:=by
   intro z
   exact c (by simpa using Int.natAbs_eq_zero.mp z)
  have:=(Nat.log2_lt hx).mpr h
  have e:(2:Nat)^20=1048576:=by decide
  lia
theorem v7_:OpR X (binaryOp .Mult) (rI CBig λi j=>.int (i*j)):=opI λ_ _ _ _ _ _ _ hc q=>mul_int q (.of_bits (vt_ hc.1) (vt_ hc.2))
theorem ac3_{l:Addr}{vs:List Value}{ns:List Int}{s:Shared}{prog:Program}{w:World}{A:Around}{E:Value->Shared->Prop}{Q:Value->Shared->Prop}(hh:A.handled=none)(hl:s.heap.IsList l vs.toArray)(hi:IntsAre vs ns)
  (h:∀h' tk t',(∀b o,s.heap.get? b=some o->h'.get? b=some o)->Q (.int ns.sum t') { s with heap:=h',toks:=tk }) :
  wpAny (model prog w) A (call (.builtin "sum") [.ref l]) Q E s:=by
 obtain⟨xs,hx⟩:=hi.allInts.items
 have hn:numsOf vs.toArray.toList=ns:=by rw[show vs.toArray.toList=vs from rfl,hi.numsOf]
 rw[hx]at hl hn
 rw[nums_intItems]at hn
 obtain⟨o,ho,hc,n,hd⟩:=id hl
 have hne:l≠s.heap.objs.size:=AT (AG ho)
 have hsz:(intItems xs).size=xs.size:=by simp [intItems]
 have W:=(Walks.list (prog:=prog) (w:=w) (A:=A.in1) hh s.heap.objs.size l hne (intItems xs)).toS
 rw[hsz]at W
 refine call_sum_walkAnyS (wpAny_pyIter_list hl ?_)
 refine⟨s.heap.objs.size,_,_,_,_,_,_,numAt xs,rfl,W,⟨⟨_,AE _ rfl,rfl,rfl⟩,hl.at λo e=>AA _ e⟩,λb hb=>?_,λi v hP=>intItems_at hP,λs' t' hm=>?_⟩
 ·rcases AI.mp hb with rfl|hb
  ·exact AG (AE _ rfl)
  ·obtain rfl:=Ad.mp hb
   exact AG (AA _ ho)
 ·obtain⟨h',g',d',tk',os'⟩:=s'
  have e1:g'=s.gens:=hm.gens
  have e2:d'=s.drawn:=hm.drawn
  have e3:os'=s.os:=hm.os
  subst e1 e2 e3
  have q:=h h' tk' t' λb o e=>hm.heap b o (λhb=>absurd (AG e) ((Ad.mp hb)▸BJ _)) (AA _ e)
  rw[preSum_eq,AW (by simp),hn]
  exact q
theorem yL_(hc:X.calm=true):CallR X (.builtin "sum") (λxs H Q=>∃(p:Addr)(ns:List Int),xs=[.ref p]/\SqL X.K H p (ns.map V.int)/\Q (.int ns.sum) H):=by
 intro pins s σ H xs us Q I r h
 obtain⟨p,ns,rfl,hq,q⟩:=h
 obtain⟨u,rfl,ru⟩:=zd_ r
 cases ru
 obtain⟨its,rv,ht,_⟩:=I.list hq
 exact ac3_ (I.ok.hd hc) ht.isList (zq_ rv) λh' tk t' hk=>⟨.int ns.sum,H,I.kept (t':=tk) hk,⟨t',rfl⟩,q⟩
theorem aet_{bs:List Bool}{its:List Value}(r:Vals (bs.map V.bl) its){i:Nat}{v:Value}(h:its.toArray[i]?=some v):∃b,bs[i]?=some b/\v=.bool b:=by
 have h':its[i]?=some v:=by simpa using h
 have hi:i<its.length:=(AY.mp h').1
 have hb:i<bs.length:=by have:=r.length;rw[AF]at this;lia
 have e:(bs.map V.bl)[i]?=some (V.bl bs[i]):=by rw[Ac,AK hb];rfl
 obtain⟨u,e1,r1⟩:=r.get e
 rw[h']at e1
 cases e1
 exact⟨bs[i],AK hb,r1⟩
theorem abt_{bs:List Bool}(n:Nat)(hn:n=bs.length):(List.range n).all (λi=>bs.getD i false)=bs.all id:=by
 subst hn
 induction bs with
 |nil=>rfl
 |cons b bs ih =>
  rw[AN,Ba,CA,List.all_map,CA]
  have e:((λi=>(b::bs).getD i false) ∘ Nat.succ)=λi=>bs.getD i false:=by funext i;simp
  rw[e,ih]
  rfl
theorem abn_{pins:List (Addr×Obj)}{σ:St}{H:Hp}{s:Shared}{o:Obj}{s':Shared}(I:Inv X pins σ H s)(hm:Moved [s.heap.objs.size] (λa b=>b=a) { s with heap:=s.heap.push o } s'):Inv X pins σ H s':=by
 obtain⟨h',g',d',tk',os'⟩:=s'
 have e1:g'=s.gens:=hm.gens
 have e2:d'=s.drawn:=hm.drawn
 have e3:os'=s.os:=hm.os
 subst e1 e2 e3
 exact I.kept (t':=tk') λb o e=>hm.heap b o (λhb=>absurd (AG e) ((Ad.mp hb)▸BJ _)) (AA _ e)
theorem aby_(hc:X.calm=true):CallR X (.builtin "all") (λxs H Q=>∃(p:Addr)(bs:List Bool),xs=[.ref p]/\SqL X.K H p (bs.map V.bl)/\Q (.bl (bs.all id)) H):=by
 intro pins s σ H xs us Q I r h
 obtain⟨p,bs,rfl,hq,q⟩:=h
 obtain⟨u,rfl,ru⟩:=zd_ r
 cases ru
 obtain⟨its,rv,ht,_⟩:=I.list hq
 have hl:=ht.isList
 obtain⟨o,ho,_⟩:=id hl
 have W:=(Walks.list (prog:=X.prog) (w:=X.w) (A:=X.A.in1) (I.ok.hd hc) s.heap.objs.size p (AT (AG ho)) its.toArray).toS
 refine call_all_walkS (wpAny_pyIter_list hl ⟨s.heap.objs.size,_,_,_,_,_,_,λi=>bs.getD i false,rfl,W,⟨⟨_,AE _ rfl,rfl,rfl⟩,hl.at λo e=>AA _ e⟩,λi v s2 Q2 E2 hP q2=>?_,λs' hm=>?_⟩)
 ·obtain⟨b,hb,rfl⟩:=aet_ rv hP
  refine wpAny_truthy_bool ?_
  have e:bs.getD i false=b:=by rw[BK,hb];rfl
  have q2:Q2 (bs.getD i false) s2:=q2
  rw[e]at q2
  exact q2
 ·refine⟨.bl (bs.all id),H,abn_ I hm,?_,q⟩
  have e:=abt_ (bs:=bs) its.toArray.size (by have:=rv.length;simp at this ⊢;lia)
  rw[e]
  rfl
instance datBool:Dat Bool where
 is:=λ_ v b=>v=.bl b
 mono:=λ_ h=>h
 inj:=λh h'=>by rw[h]at h';cases h';rfl
 dep:=0
 eqb:=λa b=>a==b
 eqb_iff:=λa b=>by simp
 eqAt:=λ{X pins σ H s A v v' u u' a b} I hu h h' r r'=>by
  subst h h'
  cases r
  cases r'
  exact SeqAt.EqAt.bool_bool _ _
theorem ac1_{H:Hp}{vs:List V}{bs:List Bool}(i:Its H vs bs):vs=bs.map V.bl:=by
 induction i with
 |nil=>rfl
 |cons r t ih=>rw[Ab,<-ih];exact congrArg (· :: _) r
theorem af7_{α β:Type}[D:Dat α][D2:Dat β]{pins:List (Addr×Obj)}{σ:St}{H:Hp}{s:Shared}{A:Around}{x y:V}{u v:Value}{l m:α×β}(I:Inv X pins σ H s)(hu:A.units+(max D.dep D2.dep+1)<cLine)(ha:Dat.is H x l)(hb:Dat.is H y m)(rx:RelV x u)(ry:RelV y v) :
  SeqAt.RcAt A s u v (Dat.eqb l m)/\SeqAt.RcNeAt A s u v (!Dat.eqb l m):=by
 obtain⟨p,a,b,rfl,h,i,j⟩:=ha
 obtain⟨p',a',b',rfl,h',i',j'⟩:=hb
 cases rx
 cases ry
 obtain⟨its,rv,ht,_⟩:=I.tuple (SqT.of h)
 obtain⟨its',rv',ht',_⟩:=I.tuple (SqT.of h')
 obtain⟨w1,w2,rfl,r1,r2⟩:=z2_ rv
 obtain⟨z1,z2,rfl,t1,t2⟩:=z2_ rv'
 have each:∀k (h1:k<[w1,w2].toArray.size) (h2:k<[z1,z2].toArray.size),SeqAt.EqAt A.in1 s [w1,w2].toArray[k] [z1,z2].toArray[k] (if k=0 then D.eqb l.1 m.1 else D2.eqb l.2 m.2):=λk h1 h2=>by
  have hk:k=0∨k=1:=by
   have:k<2:=h1
   lia
  rcases hk with rfl|rfl
  ·exact D.eqAt (A:=A.in1) I (by show A.units+1+D.dep<cLine;lia) i i' r1 t1
  ·exact D2.eqAt (A:=A.in1) I (by show A.units+1+D2.dep<cLine;lia) j j' r2 t2
 have q:=DD (A:=A) (s:=s) (show s.heap.IsTuple p _ from ht) (show s.heap.IsTuple p' _ from ht') (by lia) each
 have q2:=SeqAt.RcNeAt.tuples (A:=A) (s:=s) (show s.heap.IsTuple p _ from ht) (show s.heap.IsTuple p' _ from ht') (by lia) each
 have e2:((List.range (min [w1,w2].toArray.size [z1,z2].toArray.size)).all (λk=>if k=0 then D.eqb l.1 m.1 else D2.eqb l.2 m.2)&&[w1,w2].toArray.size==[z1,z2].toArray.size)=(D.eqb l.1 m.1&&D2.eqb l.2 m.2):=by
  simp [B3]
 rw[e2]at q q2
 exact⟨q,q2⟩
def rNeP(α β:Type)[Dat α][Dat β]:R2:=λx y H Q=>∃(l m:α×β),Dat.is H x l/\Dat.is H y m/\Q (.bl (!Dat.eqb l m)) H
theorem ajb_{α β:Type}[D:Dat α][D2:Dat β](hu:X.A.units+(max D.dep D2.dep+1)<cLine):OpR X (compareOp .NotEq) (rNeP α β):=by
 intro pins s σ H x y v u Q I rx ry h
 obtain⟨l,m,ha,hb,q⟩:=h
 exact(af7_ I hu ha hb rx ry).2 X.prog X.w X.xe _ ⟨.bl _,H,I,rfl,q⟩
end
theorem agn_{K:PySem.W.Frag}{k1 k2:SK}{a b:Addr}{xs ys:List V}{g:TG}{tb:TS}{D:Ends}{σ:St}{H:Hp}(Pv:Nat->St->Hp->Prop)(h0:Pv 0 σ H)(hl:∀i σ H,Pv i σ H->k1.is K H a xs/\k2.is K H b ys)
  (hs:∀i x y p σ H,xs[i]?=some x->ys[i]?=some y->H p=none->Pv i σ H->g (.ref p) σ (upd H p (.tup [x,y])) λσ2 H2=>tb { D with nx:=Pv (i+1),ct:=Pv (i+1),bk:=D.nx } σ2 H2) (hd:∀σ H,Pv (min xs.length ys.length) σ H->D.nx σ H) :
  ∃W:Nat->Nat->St->Hp->Prop,(∃m,W 0 m σ H)/\∀i m σ H,W i m σ H ->
   ((Itz K k1 k2 a b).stop i H/\D.nx σ H)∨((Itz K k1 k2 a b).go i H/\∃N:St->Hp->Prop,(∀σ' H',N σ' H'->∃m',m'<m/\W (i+1) m' σ' H')/\∀x H',(Itz K k1 k2 a b).yld i H x H'->g x σ H' λσ2 H2=>tb { D with nx:=N,ct:=N,bk:=D.nx } σ2 H2):=by
 refine⟨λi m σ H=>m=min xs.length ys.length-i/\i<=min xs.length ys.length/\Pv i σ H,⟨min xs.length ys.length,by simp,AU _,h0⟩,?_⟩
 rintro i m σ H ⟨rfl,hi,p⟩
 obtain⟨l1,l2⟩:=hl i σ H p
 by_cases hlt:i<min xs.length ys.length
 ·refine .inr ⟨⟨xs,ys,xs[i],ys[i],l1,l2,AK (by lia),AK (by lia)⟩,Pv (i+1),λσ' H' p'=>⟨min xs.length ys.length-(i+1),by lia,rfl,hlt,p'⟩,λx H' y=>?_⟩
  obtain⟨q,x,y,rfl,hq,rfl,hx,hy⟩:=y
  exact hs i x y q σ H (hx xs l1) (hy ys l2) hq p
 ·have e:i=min xs.length ys.length:=by lia
  subst e
  exact .inl ⟨⟨xs,ys,l1,l2,by lia⟩,hd σ H p⟩
end L2.Ev
namespace L2.Pl
theorem zg_{a:Int}{x y:Nat}(h:a.natAbs<2^x)(hxy:x<=y):a.natAbs<2^y:=AO h (Cn (by decide) hxy)
def swp(p:List Int)(k:Nat):List Int:=p.take k++[p.getD (k+1) 0,p.getD k 0]++p.drop (k+2)
theorem aab_{p:List Int}{k:Nat}(h:k+1<p.length):(swp p k).length=p.length:=by
 unfold swp
 simp
 omega
theorem vS_{p:List Int}{k:Nat}(h:k+1<p.length){x:Int}(hx:x∈swp p k):x∈p:=by
 unfold swp at hx
 rcases Aa.mp hx with hx|hx
 ·rcases Aa.mp hx with hx|hx
  ·exact BV hx
  ·have e1:p.getD (k+1) 0=p[k+1]:=by simp [h]
   have e2:p.getD k 0=p[k]:=by simp [show k<p.length by omega]
   rw[e1,e2]at hx
   rcases AI.mp hx with rfl|hx
   ·exact CT _
   ·rw[Ad.mp hx];exact CT _
 ·exact Bz hx
structure Good(n b:Nat)(ts:List Mon):Prop where
 len:∀t∈ts,t.1.length=n
 pow:∀t∈ts,∀x∈t.1,0<=x/\x<=8
 num:∀t∈ts,t.2.natAbs<2^b
theorem Good.ne{n b:Nat}{ts:List Mon}(h:Good (n+1) b ts):∀t∈ts,t.1≠[]:=λt ht e=>by
 have:=h.len t ht
 rw[e]at this
 simp at this
theorem Good.mono{n b c:Nat}{ts:List Mon}(h:Good n b ts)(hbc:b<=c):Good n c ts:=⟨h.len,h.pow,λt ht=>zg_ (h.num t ht) hbc⟩
theorem j0_{b:Nat}(p:Pw):∀{ts:List Mon},(∀t∈ts,t.2.natAbs<2^b)->(cf ts p).natAbs<=ts.length*2^b
 |[],_=>by simp [cf]
 |t::r,h=>by
  have ih:=j0_ p (ts:=r) λx hx=>h x (AD _ hx)
  have h1:=h t (AH ..)
  simp only[cf]
  have h2:=Int.natAbs_add_le (if t.1=p then t.2 else 0) (cf r p)
  have h3:(if t.1=p then t.2 else (0:Int)).natAbs<=2^b:=by
   split
   ·omega
   ·simp
  rw[AN,Nat.succ_mul]
  omega
theorem y3_{l:List Mon}(c:Canon l){t:Mon}(ht:t∈l):cf l t.1=t.2:=by
 induction l with
 |nil=>cases ht
 |cons u l ih =>
  rcases AI.mp ht with e|ht
  ·subst e;exact c.head
  ·have o:=(Ar.mp c.ord).1 t ht
   simp only[cf]
   rw[if_neg (λe=>by rw[e,z0_]at o;cases o),ih c.tail ht]
   omega
theorem Good.norm{n b k:Nat}{ts:List Mon}(h:Good n b ts)(hk:ts.length<2^k):Good n (b+k) (norm ts):=by
 refine⟨λt ht=>?_,λt ht=>?_,λt ht=>?_⟩
 ·obtain⟨u,hu,e⟩:=zh_ ht
  rw[<-e];exact h.len u hu
 ·obtain⟨u,hu,e⟩:=zh_ ht
  rw[<-e];exact h.pow u hu
 ·have e:=y3_ (qZ_ ts) ht
  rw[zs_]at e
  rw[<-e]
  refine Bf (j0_ t.1 h.num) ?_
  rw[Nat.pow_add,EB]
  exact DA hk (Nat.pow_pos (by decide))
theorem Good.swp{n b k:Nat}{ts:List Mon}(h:Good n b ts)(hk:k+1<n):Good n b (ts.map λt=>(swp t.1 k,t.2)):=by
 refine⟨λt ht=>?_,λt ht=>?_,λt ht=>?_⟩<;>obtain⟨u,hu,rfl⟩:=Az.mp ht
 ·show(Pl.swp u.1 k).length=n
  rw[aab_ (by rw[h.len u hu];exact hk),h.len u hu]
 ·intro x hx
  exact h.pow u hu x (vS_ (by rw[h.len u hu];exact hk) hx)
 ·exact h.num u hu
end L2.Pl
namespace L2.Pl
def q5_(c k m:Int):Int:=(c%2147483647*48271+69621*k*k+7*k)%2147483629*((c%2147483647*48271+69621*k*k+7*k)%2147483629)%2147483587%m
theorem xO_{c k m:Int}(h:0<m):0<=q5_ c k m:=BO _ (by omega)
theorem xX_{c k m:Int}(h:0<m):q5_ c k m<m:=A0 _ h
def qQ_(c far w:Int):Nat->List Int×Int
 |0=>([],w)
 |n+1=>((qQ_ c far w n).1++[q5_ c (far+n) ((qQ_ c far w n).2+1)],(qQ_ c far w n).2-q5_ c (far+n) ((qQ_ c far w n).2+1))
theorem j5_{c far w:Int}(hw:0<=w):∀n,(qQ_ c far w n).1.length=n/\(∀x∈(qQ_ c far w n).1,0<=x)/\(qQ_ c far w n).1.sum+(qQ_ c far w n).2=w/\0<=(qQ_ c far w n).2
 |0=>by simp [qQ_];exact hw
 |n+1=>by
  obtain⟨h1,h2,h3,h4⟩:=j5_ (c:=c) (far:=far) hw n
  have t0:=xO_ (c:=c) (k:=far+n) (show 0<(qQ_ c far w n).2+1 by omega)
  have t1:=xX_ (c:=c) (k:=far+n) (show 0<(qQ_ c far w n).2+1 by omega)
  simp only[qQ_]
  refine⟨by simp [h1],λx hx=>?_,?_,by omega⟩
  ·rcases Aa.mp hx with hx|hx
   ·exact h2 x hx
   ·rw[Ad.mp hx];exact t0
  ·rw[Dc,C6];omega
def padd(l:List Int)(x:Int):List Int:=l.dropLast++[l.getLastD 0+x]
def q4_(c far w:Int)(n:Nat):List Int:=if q5_ c (far+11) 3=0 then padd (qQ_ c far w n).1 (qQ_ c far w n).2 else (qQ_ c far w n).1
def jn_(c far w:Int)(n:Nat):List Int:=(q4_ c far w n).drop (q5_ c (far+12) n).toNat++(q4_ c far w n).take (q5_ c (far+12) n).toNat
theorem vB_{x:Int}:∀{l:List Int},(∀y∈l,0<=y)->x∈l->x<=l.sum/\0<=l.sum
 |[],_,h=>by cases h
 |y::l,hl,h=>by
  have hl':∀z∈l,0<=z:=λz hz=>hl z (AD _ hz)
  have hy:=hl y (AH ..)
  have s0:0<=l.sum:=by
   have key:∀m:List Int,(∀z∈m,0<=z)->0<=m.sum:=by
    intro m
    induction m with
    |nil=>intro _;simp
    |cons a m ih =>
     intro hm
     have:=hm a (AH ..)
     have:=ih λz hz=>hm z (AD _ hz)
     rw[BD];omega
   exact key l hl'
  rw[BD]
  rcases AI.mp h with rfl|h
  ·omega
  ·have:=(vB_ hl' h).1
   omega
theorem vj_{c far w:Int}(hw:0<=w){n:Nat}(hn:1<=n):(q4_ c far w n).length=n/\(∀x∈q4_ c far w n,0<=x)/\(q4_ c far w n).sum<=w:=by
 obtain⟨h1,h2,h3,h4⟩:=j5_ (c:=c) (far:=far) hw n
 unfold q4_
 split
 ·unfold padd
  have ne:(qQ_ c far w n).1≠[]:=by intro z;rw[z]at h1;simp at h1;omega
  obtain⟨l,x,e⟩:∃l x,(qQ_ c far w n).1=l++[x]:=⟨_,_,(Cu ne).symm⟩
  rw[e]at h1 h2 h3 ⊢
  rw[Dz,D0]
  rw[Dc,C6]at h3
  refine⟨by simpa using h1,λy hy=>?_,?_⟩
  ·rcases Aa.mp hy with hy|hy
   ·exact h2 y (Ay _ hy)
   ·rw[Ad.mp hy]
    have:=h2 x (by simp)
    omega
  ·rw[Dc,C6];omega
 ·exact⟨h1,h2,by omega⟩
theorem ae2_{a b:List Int}(h:a.Perm b):a.sum=b.sum:=by
 induction h with
 |nil=>rfl
 |cons x _ ih=>rw[BD,BD,ih]
 |swap x y l=>rw[BD,BD,BD,BD];omega
 |trans _ _ a b=>exact a.trans b
theorem ag0_{c far w:Int}(hw:0<=w){n:Nat}(hn:1<=n):(jn_ c far w n).length=n/\(∀x∈jn_ c far w n,0<=x/\x<=w)/\(jn_ c far w n).sum<=w:=by
 obtain⟨h1,h2,h3⟩:=vj_ (c:=c) (far:=far) hw hn
 have pm:(jn_ c far w n).Perm (q4_ c far w n):=by
  unfold jn_
  exact BQ.trans (by rw[Ax])
 have sm:(jn_ c far w n).sum=(q4_ c far w n).sum:=ae2_ pm
 refine⟨by rw[pm.length_eq,h1],λx hx=>?_,by rw[sm];exact h3⟩
 have hx':=pm.mem_iff.mp hx
 exact⟨h2 x hx',by have:=(vB_ h2 hx').1;omega⟩
def j3_(ns:List Int)(k:Nat):Int:=if k<ns.length then ns.getD k 0%2147483647 else 0
end L2.Pl
namespace L2.Ev
open PySem
open L2.Pl
theorem qw_{c A B:Prop}[Decidable c](h:¬ c)(b:B):if decide c=true then A else B:=by
 rw[decide_eq_false h]
 exact zj_ b
theorem qB_{c A B:Prop}[Decidable c](h:c)(a:A):if decide c=true then A else B:=by
 rw[decide_eq_true h]
 exact ja_ a
theorem aas_{c A B:Prop}[Decidable c](h:c)(b:B):if (!decide c)=true then A else B:=by
 rw[decide_eq_true h]
 exact zj_ b
theorem aj4_{c A B:Prop}[Decidable c](h:¬ c)(a:A):if (!decide c)=true then A else B:=by
 rw[decide_eq_false h]
 exact ja_ a
theorem xa_(K:PySem.W.Frag)(T:String):PySem.W.kitOne K (.type T) (.type T)=some true:=if_pos (beq_self_eq_true _)
theorem vs_(K:PySem.W.Frag):PySem.W.kitOne K (.type "int") (.type "bool")=some false:=by
 show(if (Value.type "int" == Value.type "bool")=true then some true else (if PySem.W.kitMeta "bool" = true then (fastBuiltinMro "int").map (·.contains (.type "bool")) else none))=some false
 decide +kernel
theorem ae7_{n:Nat}(h:1<=n):ixN n (-1)=some (n-1):=by
 unfold ixN
 rw[if_neg (by decide),if_pos (by omega)]
 congr 1
 omega
theorem aex_{α:Type}(l:List α)(x y:α):(l++[x]).set ((l++[x]).length-1) y=l++[y]:=by
 rw[AQ,CW,Nat.add_sub_cancel,Do _ _ (AB _),DJ]
 rfl
theorem agt_(ps:List V)(k:Nat):qJ_ ps (some (k:Int)) none=ps.drop k:=by
 unfold qJ_
 rw[HT.sIx_none,HT.sIx_nat,AW (by rw[Ap];omega)]
 by_cases c:k<=ps.length
 ·rw[Bw c]
 ·rw[B0 (by omega),BB (AB _),BB (by omega)]
theorem ahf_(ps:List V)(k:Nat):qJ_ ps none (some (k:Int))=ps.take k:=by
 unfold qJ_
 rw[HT.sIx_none,HT.sIx_nat,Bp,EC]
 by_cases c:k<=ps.length
 ·rw[Bw c]
 ·rw[B0 (by omega),AW (AB _),AW (by omega)]
end L2.Ev
namespace L2.Pl
def sm(f:Pw->Int):List Mon->Int
 |[]=>0
 |t::r=>t.2*f t.1+sm f r
theorem abw_(f:Pw->Int)(t:Mon):∀l:List Mon,sm f (ins t l)=t.2*f t.1+sm f l
 |[]=>by
  unfold ins
  split
  ·rename_i h
   simp [sm,h]
  ·simp [sm]
 |u::l=>by
  unfold ins
  split
  ·rename_i h
   split
   ·rename_i h2
    simp only[sm]
    rw[<-Int.add_assoc,h,<-Int.add_mul,Int.add_comm t.2,h2]
    simp
   ·simp only[sm]
    rw[h,Int.add_mul]
    lia
  ·split
   ·split
    ·rename_i h
     simp only[sm];rw[h];lia
    ·simp only[sm]
   ·simp only[sm];rw[abw_ f t l];lia
theorem yu_(f:Pw->Int):∀ts:List Mon,sm f (norm ts)=sm f ts
 |[]=>rfl
 |t::r=>by
  show sm f (ins t (norm r))=_
  rw[abw_,yu_ f r]
  rfl
theorem aa9_(p:Pw):∀ts:List Mon,cf ts p=sm (λq=>if q=p then 1 else 0) ts
 |[]=>rfl
 |t::r=>by
  simp only[cf,sm]
  rw[aa9_ p r]
  split<;>simp
theorem ag3_{a b:List Mon}(h:∀f,sm f a=sm f b):norm a=norm b:=abi_ λp=>by rw[aa9_,aa9_,h]
def sws(a:List Mon)(k:Nat):List Mon:=a.map λt=>(swp t.1 k,t.2)
theorem y8_(f:Pw->Int)(k:Nat):∀a:List Mon,sm f (sws a k)=sm (λp=>f (swp p k)) a
 |[]=>rfl
 |t::r=>by
  have:=y8_ f k r
  unfold sws at this ⊢
  rw[Ab]
  simp only[sm]
  rw[this]
theorem aef_(x y:Int)(p:List Int):swp (x::y::p) 0=y::x::p:=by simp [swp]
theorem ad4_(x:Int)(p:List Int)(k:Nat):swp (x::p) (k+1)=x::swp p k:=by simp [swp]
structure Deg(n d b:Nat)(ts:List Mon):Prop where
 len:∀t∈ts,t.1.length=n
 nn:∀t∈ts,∀x∈t.1,0<=x
 sum:∀t∈ts,t.1.sum<=d
 num:∀t∈ts,t.2.natAbs<2^b
theorem Deg.good{n d b:Nat}{ts:List Mon}(h:Deg n d b ts)(hd:d<=8):Good n b ts:=by
 refine⟨h.len,λt ht x hx=>⟨h.nn t ht x hx,?_⟩,h.num⟩
 have:=(vB_ (h.nn t ht) hx).1
 have:=h.sum t ht
 lia
theorem Deg.mono{n d b d' b':Nat}{ts:List Mon}(h:Deg n d b ts)(hd:d<=d')(hb:b<=b'):Deg n d' b' ts :=
 ⟨h.len,h.nn,λt ht=>by have:=h.sum t ht;lia,λt ht=>zg_ (h.num t ht) hb⟩
theorem Deg.norm{n d b k:Nat}{ts:List Mon}(h:Deg n d b ts)(hk:ts.length<2^k):Deg n d (b+k) (Pl.norm ts):=by
 refine⟨λt ht=>?_,λt ht=>?_,λt ht=>?_,λt ht=>?_⟩
 ·obtain⟨u,hu,e⟩:=zh_ ht
  rw[<-e];exact h.len u hu
 ·obtain⟨u,hu,e⟩:=zh_ ht
  rw[<-e];exact h.nn u hu
 ·obtain⟨u,hu,e⟩:=zh_ ht
  rw[<-e];exact h.sum u hu
 ·have e:=y3_ (qZ_ ts) ht
  rw[zs_]at e
  rw[<-e]
  refine Bf (j0_ t.1 h.num) ?_
  rw[Nat.pow_add,EB]
  exact DA hk (Nat.pow_pos (by decide))
theorem vQ_:∀{k:Nat}{p:List Int},k+1<p.length->(swp p k).sum=p.sum
 |0,x::y::p,_=>by rw[aef_];simp only[BD];lia
 |k+1,x::p,h=>by rw[ad4_];simp only[BD];rw[vQ_ (by simpa using h)]
theorem Deg.sws{n d b k:Nat}{ts:List Mon}(h:Deg n d b ts)(hk:k+1<n):Deg n d b (Pl.sws ts k):=by
 refine⟨λt ht=>?_,λt ht=>?_,λt ht=>?_,λt ht=>?_⟩<;>obtain⟨u,hu,rfl⟩:=Az.mp ht
 ·show(Pl.swp u.1 k).length=n
  rw[aab_ (by rw[h.len u hu];exact hk),h.len u hu]
 ·intro x hx
  exact h.nn u hu x (vS_ (by rw[h.len u hu];exact hk) hx)
 ·show(Pl.swp u.1 k).sum<=d
  rw[vQ_ (by rw[h.len u hu];exact hk)];exact h.sum u hu
 ·exact h.num u hu
end L2.Pl
namespace L2.Pl
structure Top(f:List Mon)(a:Pw)(x:Int):Prop where
 at_:cf f a=x
 top:∀t∈f,t.1=a∨lxl t.1 a=true
theorem Top.norm{f:List Mon}{a:Pw}{x:Int}(h:Top f a x):Top (norm f) a x:=⟨by rw[zs_];exact h.at_,λt ht=>by
 obtain⟨u,hu,e⟩:=zh_ ht
 rw[<-e]
 exact h.top u hu⟩
def Even(n:Nat)(f:List Mon):Prop:=∀k,k+1<n->norm (sws f k)=norm f
theorem Even.norm{n:Nat}{f:List Mon}(h:Even n f):Even n (norm f):=λk hk=>by
 rw[acg_ (qZ_ f)]
 exact(ag3_ λF=>by rw[y8_,yu_,y8_]).trans (h k hk)
end L2.Pl
namespace L2.Pl
def Ak(a b:List Mon):Prop:=∀f:Pw->Int,sm f a=sm f b
theorem Ak.symm{a b:List Mon}(h:Ak a b):Ak b a:=λf=>(h f).symm
theorem Ak.trans{a b c:List Mon}(h:Ak a b)(g:Ak b c):Ak a c:=λf=>(h f).trans (g f)
theorem Ak.norm(a:List Mon):Ak (norm a) a:=λf=>yu_ f a
end L2.Pl
namespace L2.Ev
open PySem
open L2.Pl
structure Has(P:Program)(w:World)(K:PySem.W.Frag)(mg:Str->Option Value)(base:Heap)(k:Nat)(x:Str)(ps:List Str)(sp:Sp) where
 f:Addr
 fd:FuncData
 ok:FnOk P w K mg base CX0 k f fd ps sp
 bd:Binds K fd ps []
 kp:PySem.W.keepIn K (.ref f)=true
 at_:mg x=some (.ref f)
def Has.lift{P:Program}{w:World}{K:PySem.W.Frag}{mg:Str->Option Value}{base:Heap}{j k:Nat}{x:Str}{ps:List Str}{sp:Sp}(G:Has P w K mg base j x ps sp)(h:j<=k):Has P w K mg base k x ps sp:=⟨G.f,G.fd,G.ok.mono h,G.bd,G.kp,G.at_⟩
theorem qV_{X:Cx}{k:Nat}{x:Str}{ps:List Str}{sp:Sp}{p pos:Pos}{e:Expr}{es:List Expr}{t:TA}(G:Has X.prog X.w X.K X.mg X.base k x ps sp)(hr:Room k X.A)(hg:Gl X x)
  (ha:PA X (e::es) t) (hdb:(x==("__debug__" : Str))=false:=by decide) (he:starEach (e::es) X.env=(false,eval e X.env)::starEach es X.env:=by rfl) (hpl:(backTo pos (starEach es X.env)).any (·.1)=false:=by rfl) :
  PE X (.Call (.Name x p) (e::es) [] pos) (aap_ sp [] E0 t):=zc_ G.ok hr hg G.at_ G.kp G.bd .nil xI_ ha hdb he hpl
theorem abv_{α:Type}[D:Dat α](l:List α):zE_ (Dat.eqb (α:=α)) l l=true:=(jZ_ Dat.eqb_iff _ _).mpr rfl
end L2.Ev
namespace L2.Ev
open PySem PyProof.Rows
open L2.Pl
end L2.Ev
namespace L2.Ev
open PySem
open L2.Pl
end L2.Ev
set_option maxHeartbeats 4000000
namespace L2.Ev
open PySem PySem.Spec PyProof.Rows
open PySem.W PySem.Calls
def jR_(h:Heap)(e:Addr)(od:Option Addr):Prop:=∃ob,h.get? e=some ob/\ob.dict=od
theorem ad0_{o:Obj}{f:Array Value->Array Value}:(Obj.mapFields f o).dict=o.dict:=by
 obtain⟨_,_,da,_⟩:=o
 cases da<;>rfl
def jv_(base:Heap)(l:List Env)(e:Addr)(cls a0:Value)(od:Option Addr)(h:Heap):Prop:=Heap.FlyingW base l e cls a0 h/\jR_ h e od
section
variable{M:Model}{A:Around}{E:Value->Shared->Prop}{s:Shared}
theorem vC_{base:Heap}{env:Env}{outer:List Env}{L e:Addr}{oe:Obj}{vs:Array Value}{head a0:Value}{hadNext:Bool}{Q:Unit->Shared->Prop}
  (hfr:A.frames=some (env::outer)) (hl:s.heap.FunFrames base (env::outer)) (hf:env.frame=some L)
  (he:s.heap.get? e=some oe) (hkb:base.StaysIn s.heap) (hen:base.get? e=none) (hd:oe.data=.fields vs) (hsz:1<vs.size) (h0:vs[0]?=some a0)
  (h:∀h',Heap.NotedW base (env::outer) e oe.cls a0 (rawInt L) s.heap h'->jR_ h' e oe.dict->Q () { s with heap:=h' }) :
  wpAny M A (do let a <-frameOf env;let pl <-entryPlaceOf L hadNext;let b <-EntryCells.newEntry head a .none (rawInt L) .none pl;setField (.ref e) 1 b) Q E s:=by
 have nfr:e∉(env::outer).filterMap (·.frame):=λhm=>by
  obtain⟨_,o,ho,hnf⟩:=hl.mem hm
  rw[he]at ho;cases ho;exact hnf vs hd
 refine wpAny_bind (wpAny_frameOf_fun hfr hl hf λh1 hs=>wpAny_bind (wpAny_entryPlaceOf λpl hpl=>?_))
 have e1:h1.get? e=some oe:=(hs.2.1 e nfr).trans he
 have k1:base.StaysIn h1:=λb o z=>(hs.2.1 b λhm=>by rw[(hl.mem hm).1]at z;cases z).trans (hkb b o z)
 have Te:h1.objs.size≠e:=Bh (AG e1)
 unfold EntryCells.newEntry newFields
 refine wpAny_bind (wpAny_newObj_type ?_ (hpl.sizeOk5 _ _ _ _ _))
 generalize hrec:([head,.ref L,.none,rawInt L,.none]++(if pl.isEmpty then List.replicate 6 Value.none else pl)).toArray=rec
 have r3:rec[3]?=some (rawInt L):=by
  rw[<-hrec]
  simp
 have e2:=AA (h:=h1) { cls:=.type "traceback",dict:=none,data:=.fields rec } e1
 have T2:(h1.push { cls:=.type "traceback",dict:=none,data:=.fields rec }).get? h1.objs.size=some { cls:=.type "traceback",dict:=none,data:=.fields rec }:=AE h1 rfl
 generalize hp2:h1.push { cls:=.type "traceback",dict:=none,data:=.fields rec }=h2 at e2 T2
 have old2:∀b o,h1.get? b=some o->h2.get? b=some o:=λb o z=>by rw[<-hp2];exact AA _ z
 have d3:=Bg hd (·.setIfInBounds 1 (Value.ref h1.objs.size))
 have e3:=Be (Obj.mapFields (·.setIfInBounds 1 (Value.ref h1.objs.size))) e2 (Bv d3)
 have T3:=(Ah h2 (Obj.mapFields (·.setIfInBounds 1 (Value.ref h1.objs.size))) (BP Te)).trans T2
 have keep:∀b o,b≠e->h1.get? b=some o->(h2.update e (Obj.mapFields (·.setIfInBounds 1 (Value.ref h1.objs.size)))).get? b=some o:=λb o hb z=>(Ah _ _ (BP hb)).trans (old2 b o z)
 have nrec:∀b o,s.heap.get? b=some o->(∀vs,o.data≠.fields vs)->b≠e:=λb o z hnf q=>by
  rw[q,he]at z;cases z;exact hnf vs hd
 refine wpAny_setField e2 hd hsz (h _ ⟨λb o z=>keep b o (λq=>by rw[q,hen]at z;cases z) (k1 b o z),hl.of_keeps λb o z hnf=>?_,?_,λb o z hnf=>?_⟩ ⟨_,e3,ad0_⟩)
 ·obtain⟨sl,q⟩:=hs.2.2 b o z
  exact⟨_,keep b _ (nrec b o z hnf) q,rfl⟩
 ·exact⟨_,_,h1.objs.size,_,_,e3,⟨DE _ _,by rw[Cb (by decide)];exact h0⟩,d3,by simp [hsz],k1.fresh,Te,T3,rfl,r3⟩
 ·obtain⟨sl,q⟩:=hs.2.2 b o z
  exact⟨sl,keep b _ (nrec b o z hnf) q⟩
theorem xJ_{base:Heap}{l:List Env}{e:Addr}{cls a0 fl:Value}{od:Option Addr}{Q:Unit->Shared->Prop}
  (hkb:base.StaysIn s.heap) (hen:base.get? e=none) (hl:s.heap.FunFrames base l) (ht:s.heap.TracedAtW base e cls a0 fl) (hd0:jR_ s.heap e od)
  (h:∀h',jv_ base l e cls a0 od h'->s.heap.UpToSlots h'->Q () { s with heap:=h' }):wpAny M A (setFlight (.ref e) none) Q E s:=by
 obtain⟨oe,vs,T,oT,ts,he,hcls,hd,h1,hnT,hTe,hT,hdT,h3⟩:=ht
 obtain⟨ob,hob,hod⟩:=hd0
 rw[he]at hob
 cases hob
 have z3:3<ts.size:=(Ae.mp h3).1
 have dT:=Bg hdT (·.setIfInBounds 3 ((none:Option Addr).elim Value.none λf=>rawInt f))
 have oth:∀b,b≠T->(s.heap.update T (Obj.mapFields (·.setIfInBounds 3 ((none:Option Addr).elim Value.none λf=>rawInt f)))).get? b=s.heap.get? b:=λb hb=>Ah _ _ (BP hb)
 have nrec:∀b o,s.heap.get? b=some o->(∀vs,o.data≠.fields vs)->b≠T:=λb o hb hnf q=>by
  rw[q,hT]at hb;cases hb;exact hnf ts hdT
 have he':=(oth e (BP hTe)).trans he
 unfold setFlight
 refine wpAny_bind (wpAny_field he hd h1 ?_)
 rw[if_pos (show(Value.ref T != Value.none)=true from by simp)]
 refine wpAny_setField hT hdT z3 (h _ ⟨⟨λb o z=>(oth b λq=>by rw[q,hnT]at z;cases z).trans (hkb b o z),hen,hl.of_keeps λb o hb hnf=>⟨o,(oth b (nrec b o hb hnf)).trans hb,rfl⟩,?_⟩,⟨oe,he',hod⟩⟩ λb o hb hnf=>⟨o.slots,(oth b (nrec b o hb hnf)).trans hb⟩)
 exact⟨oe,vs,T,_,_,he',hcls,hd,h1,hnT,hTe,Be _ hT (Bv dT),dT,by simp [z3]⟩
theorem aba_{base:Heap}{env:Env}{outer:List Env}{L e:Addr}{cls a0:Value}{od:Option Addr}{Q:Unit->Shared->Prop}
  (hfr:A.frames=some (env::outer)) (hf:env.frame=some L) (hfl:jv_ base (env::outer) e cls a0 od s.heap)
  (h:∀h',Heap.HeldW base (env::outer) e cls a0 L h'->jR_ h' e od->s.heap.UpToSlots h'->Q () { s with heap:=h' }):wpAny M A (noteFrame (.ref e) env) Q E s:=by
 obtain⟨⟨f1,f2,f3,oe,vs,T,oT,ts,he,⟨hcls,h0⟩,hd,h1,hnT,hTe,hT,hdT,h3⟩,od',hod,hdd⟩:=hfl
 rw[he]at hod
 cases hod
 subst hcls hdd
 unfold noteFrame
 simp only[hf]
 refine wpAny_bind (wpAny_field he hd h1 ?_)
 rw[if_pos (show(Value.ref T != Value.none)=true from by simp)]
 refine wpAny_bind (wpAny_field hT hdT h3 ?_)
 rw[if_neg (show ¬ ((Value.none==rawInt L)=true) from by simp [rawInt])]
 refine wpAny_bind (wpAny_setField hT hdT (Ae.mp h3).1 ?_)
 have oth:∀b,b≠T->(s.heap.update T (Obj.mapFields (·.setIfInBounds 3 Value.none))).get? b=s.heap.get? b:=λb hb=>Ah _ _ (BP hb)
 have nrec:∀b o,s.heap.get? b=some o->(∀vs,o.data≠.fields vs)->b≠T:=λb o hb hnf q=>by
  rw[q,hT]at hb;cases hb;exact hnf ts hdT
 refine vC_ hfr (f3.of_keeps λb o hb hnf=>⟨o,(oth b (nrec b o hb hnf)).trans hb,rfl⟩) hf ((oth e (BP hTe)).trans he)
  (λb o z=>(oth b λq=>by rw[q,hnT]at z;cases z).trans (f1 b o z)) f2 hd (Ae.mp h1).1 h0 λh' ⟨x1,x2,x3,x4⟩ xd=>?_
 exact h h' ⟨x1,f2,x2,x3⟩ xd λb o hb hnf=>x4 b o ((oth b (nrec b o hb hnf)).trans hb) hnf
theorem abk_{base:Heap}{env:Env}{outer:List Env}{L e:Addr}{cls a0:Value}{od:Option Addr}{Q:Unit->Shared->Prop}
  (hfr:A.frames=some (env::outer)) (hf:env.frame=some L) (hfl:jv_ base (env::outer) e cls a0 od s.heap)
  (hQ:∀h',jv_ base outer e cls a0 od h'->s.heap.UpToSlots h'->Q () { s with heap:=h' }):wpAny M A (leaving env (.ref e)) Q E s:=by
 unfold leaving
 refine wpAny_bind (aba_ hfr hf hfl λh1 ⟨k1,k2,k3,k4⟩ kd sm=>xJ_ (s:={ s with heap:=h1 }) k1 k2 k3 k4 kd λh2 ⟨⟨x1,x2,⟨_,_,x3⟩,x4⟩,xd⟩ sm2=>?_)
 exact hQ h2 ⟨⟨x1,x2,x3,x4⟩,xd⟩ (sm.trans sm2)
theorem aiw_{base:Heap}{env:Env}{outer:List Env}{L e:Addr}{oe:Obj}{vs:Array Value}{a0:Value}{Q:Unit->Shared->Prop}
  (hfr:A.frames=some (env::outer)) (hl:s.heap.FunFrames base (env::outer)) (hf:env.frame=some L)
  (he:s.heap.get? e=some oe) (hkb:base.StaysIn s.heap) (hen:base.get? e=none) (hd:oe.data=.fields vs) (h1:vs[1]?=some .none) (h0:vs[0]?=some a0)
  (hQ:∀h',jv_ base outer e oe.cls a0 oe.dict h'->s.heap.UpToSlots h'->Q () { s with heap:=h' }):wpAny M A (leaving env (.ref e)) Q E s:=by
 unfold leaving noteFrame
 simp only[hf]
 refine wpAny_bind (wpAny_bind (wpAny_field he hd h1 ?_))
 rw[if_neg (by decide)]
 refine vC_ hfr hl hf he hkb hen hd (Ae.mp h1).1 h0 λh1 ⟨k1,k3,k4,sm⟩ kd=>xJ_ (s:={ s with heap:=h1 }) k1 hen k3 k4 kd λh2 ⟨⟨x1,x2,⟨_,_,x3⟩,x4⟩,xd⟩ sm2=>?_
 exact hQ h2 ⟨⟨x1,x2,x3,x4⟩,xd⟩ (Heap.UpToSlots.trans sm sm2)
end
end L2.Ev
namespace L2.Ev
open PySem PySem.Spec PyProof.Rows
open L2.Pl
theorem ObjOk.got{P:Program}{w:World}{H:Hp}{h:Heap}{a:Addr}{o:HO}(x:ObjOk P w H h a o):∃ob,h.get? a=some ob:=by
 cases o with
 |lst xs=>obtain⟨_,_,_,_,e⟩:=x;exact⟨_,e⟩
 |tup xs=>obtain⟨_,_,_,ob,e,_⟩:=x;exact⟨_,e⟩
 |dK kvs=>obtain⟨_,_,_,_,o,_,_,e,_⟩:=x;exact⟨_,e⟩
 |dT kvs=>obtain⟨_,_,_,_,o,_,_,e,_⟩:=x;exact⟨_,e⟩
 |set S n=>obtain⟨o,_,_,_,e,_⟩:=x;exact⟨_,e⟩
 |ins C dx fs=>obtain⟨_,_,_,e,_⟩:=x;exact⟨_,e⟩
 |own y=>exact x
 |xd fs=>obtain⟨_,⟨_,_,_,e,_⟩,_⟩:=x;exact⟨_,e⟩
 |rng lo hi=>obtain⟨_,_,_,e⟩:=x;exact⟨_,e⟩
 |frz ob u=>obtain⟨e,_⟩:=x;exact⟨_,e⟩
 |tbl ps=>exact⟨_,(show h.get? a=some _ from x)⟩
 |met f y=>exact⟨_,(show h.get? a=some _ from x)⟩
 |ext φ=>obtain⟨_,e,_⟩:=x;exact e
structure Bs(l:List Env)(H:Hp)(h:Heap)(H':Hp)(B:Heap):Prop where
 old:∀b o,h.get? b=some o->b∉frs l->∃o',B.get? b=some o'/\(H b=none->o'=o)
 trk:∀b u,H' b=some u->∃o,B.get? b=some o
structure Fly(P:Program)(w:World)(l:List Env)(H:Hp)(s:Shared)(a:Addr)(cls a0:Value)(od:Option Addr)(H':Hp)(s':Shared):Prop where
 os:s'.os=s.os
 bare:AllBare s'.gens
 un:Un (frs l) [] H H' s.heap s'.heap
 hok:HOk P w H' s'.heap
 fly:∃B,Bs l H s.heap H' B/\jv_ B l a cls a0 od s'.heap
def CX1(P:Program)(w:World):CXT:=λl H s E e s'=>∃a cls a0 od H',e=.ref a/\Fly P w l H s a cls a0 od H' s'/\E cls od H'
section
variable{X:Cx}{pins:List (Addr×Obj)}{σ:St}{H H':Hp}{s s':Shared}{B:Heap}
theorem jW_(I:Inv X pins σ H s)(os:s'.os=s.os)(bare:AllBare s'.gens)(un:Un (frs X.stack) [] H H' s.heap s'.heap)(hok:HOk X.prog X.w H' s'.heap)(bs:Bs X.stack H s.heap H' B)(st0:B.StaysIn s'.heap){h':Heap}(st:B.StaysIn h')(sm:s'.heap.UpToSlots h') :
  Inv X pins σ H' { s' with heap:=h' }:=by
 have fr:∀b o,s.heap.get? b=some o->b∈frs X.stack->∀vs,o.data≠.fields vs:=λb o e hb=>by
  obtain⟨_,o',e',d⟩:=I.stack.mem hb
  rw[e]at e';cases e'
  exact d
 have slot:∀b o,s.heap.get? b=some o->b∈frs X.stack->∃sl,h'.get? b=some { o with slots:=sl }:=λb o e hb=>by
  obtain⟨sl,e1⟩:=un.slot b o e (I.stkFree b hb) hb (by simp)
  obtain⟨sl2,e2⟩:=sm b _ e1 (fr b o e hb)
  exact⟨sl2,e2⟩
 refine I.call' (s':={ s' with heap:=h' }) (ch:=[]) os ⟨λb o e n hb _=>?_,λb o e n hb _=>slot b o e hb,un.free,λb o e _=>?_,un.tups,un.frzs,un.tbls⟩ (λb u e=>?_) bare λb hb=>by simp at hb
 ·obtain⟨o',e1,e2⟩:=bs.old b o e hb
  rw[e2 n]at e1
  exact st _ _ e1
 ·by_cases hb:b∈frs X.stack
  ·obtain⟨sl,e1⟩:=slot b o e hb
   exact⟨_,e1⟩
  ·obtain⟨o',e1,_⟩:=bs.old b o e hb
   exact⟨o',st _ _ e1⟩
 ·have key:∀c v u',H' c=some u'->s'.heap.get? c=some v->h'.get? c=some v:=λc v u' hc q=>by
   obtain⟨o,e1⟩:=bs.trk c u' hc
   have:=st0 _ _ e1
   rw[q]at this
   cases this
   exact st _ _ e1
  refine(hok b u e).stay (λc v hc q=>?_) (λ_ q=>q) λ_ _ q=>q
  rcases hc with z|z
  ·subst z;exact key c v u e q
  ·exact key c v _ z q
end
section
variable{P:Program}{w:World}{K:PySem.W.Frag}{mg:Str->Option Value}{base:Heap}{N:List Str}{qual:Str}{scope:Scope}{f:Addr}{cdv:Value}{A:Around}{outer:List Env}{s0:Shared}{H0:Hp}{E:XK}
theorem yl_{pins:List (Addr×Obj)}{σ:St}{H H':Hp}{s s':Shared}{B:Heap}{a:Addr}{cls a0:Value}{od:Option Addr}(I:Inv (q8_ (CX1 P w) P w K mg base N qual scope f cdv A outer s0 H0 E) pins σ H s)(I':Inv (q8_ (CX1 P w) P w K mg base N qual scope f cdv A outer s0 H0 E) pins σ H' s')
  (bs:Bs (q8_ (CX1 P w) P w K mg base N qual scope f cdv A outer s0 H0 E).stack H s.heap H' B) (fl:jv_ B outer a cls a0 od s'.heap):Fly P w outer H0 s0 a cls a0 od H' s':=by
 refine⟨I'.os,I'.bare,I'.base,I'.hok,B,⟨λb o e hb=>?_,bs.trk⟩,fl⟩
 obtain⟨o1,e1⟩:=I.base.there b o e (by show b∉([]:List Addr);simp)
 have hL:b∉frs (q8_ (CX1 P w) P w K mg base N qual scope f cdv A outer s0 H0 E).stack:=λz=>by
  rcases AI.mp (I.stkSub b z) with z|z
  ·have:=I.ok.above
   have:=AG e
   rw[z]at this
   exact absurd (AO this I.ok.above) (BJ _)
  ·exact hb z
 obtain⟨o2,e2,e3⟩:=bs.old b o1 e1 hL
 refine⟨o2,e2,λn=>?_⟩
 have k:=I.base.keep b o e n hb (by show b∉([]:List Addr);simp)
 rw[e1]at k
 cases k
 exact e3 (I.base.free b o e n (by show b∉([]:List Addr);simp))
theorem yR_:xj_ (CX1 P w) (q8_ (CX1 P w) P w K mg base N qual scope f cdv A outer s0 H0 E) E:=by
 rintro pins σ H s e s' I ⟨a,cls,a0,od,H',rfl,F,hE⟩
 obtain⟨os,bare,un,hok,B,bs,fl⟩:=F
 show wpAny _ _ (leaving _ (.ref a)) _ _ s'
 refine abk_ (outer:=outer) I.ok.frames rfl fl λh' fl' sm=>?_
 have I':=jW_ I os bare un hok bs fl.1.1 fl'.1.1 sm
 exact⟨a,cls,a0,od,H',rfl,yl_ I I' bs fl',hE⟩
def Rs(X:Cx)(E:XK):Prop:=∀(pins:List (Addr×Obj))(σ:St)(H:Hp)(s:Shared)(h2:Heap)(e C:Addr)(vs:List Value),Inv X pins σ H s->Heap.MadeExcOf s.heap h2 e (.ref C) vs->E (.ref C) none H->X.xe (.ref e) { s with heap:=h2 }
theorem rs1:Rs (q8_ (CX1 P w) P w K mg base N qual scope f cdv A outer s0 H0 E) E:=by
 intro pins σ H s h2 e C vs I hx hE
 show wpAny _ _ (leaving _ (.ref e)) _ _ _
 have hin:∀env∈(q8_ (CX1 P w) P w K mg base N qual scope f cdv A outer s0 H0 E).stack,∀b,env.frame=some b->b∈frs (q8_ (CX1 P w) P w K mg base N qual scope f cdv A outer s0 H0 E).stack:=λenv he b hb=>Cy.mpr ⟨env,he,hb⟩
 have bs:Bs (q8_ (CX1 P w) P w K mg base N qual scope f cdv A outer s0 H0 E).stack H s.heap H (PySem.W.hideAll s.heap (frs (q8_ (CX1 P w) P w K mg base N qual scope f cdv A outer s0 H0 E).stack)):=by
  refine⟨λb o e hb=>⟨o,Cq _ e hb,λ_=>rfl⟩,λb u e=>?_⟩
  obtain⟨o,q⟩:=ObjOk.got (I.hok b u e)
  exact⟨o,Cq _ q λz=>by rw[I.stkFree b z]at e;cases e⟩
 have st0:(PySem.W.hideAll s.heap (frs (q8_ (CX1 P w) P w K mg base N qual scope f cdv A outer s0 H0 E).stack)).StaysIn h2:=λb o q=>hx.keeps b o (Cw _ q)
 obtain⟨t,he,htn,ht⟩:=hx.there
 have hen:(PySem.W.hideAll s.heap (frs (q8_ (CX1 P w) P w K mg base N qual scope f cdv A outer s0 H0 E).stack)).get? e=none:=by
  cases hq:(PySem.W.hideAll s.heap (frs (q8_ (CX1 P w) P w K mg base N qual scope f cdv A outer s0 H0 E).stack)).get? e with
  |none=>rfl
  |some o'=>have:=Cw _ hq;rw[hx.new]at this;cases this
 refine aiw_ (s:={ s with heap:=h2 }) (outer:=outer) (a0:=.ref t) I.ok.frames ((PySem.W.funFrames_hide I.stack hin).of_keeps λb o hb _=>⟨o,hx.keeps b o hb,rfl⟩) rfl he st0 hen rfl rfl rfl λh' fl sm=>?_
 have I':=jW_ (s':={ s with heap:=h2 }) I rfl I.bare (Un.kept hx.keeps) (I.hok.kept hx.keeps) bs st0 fl.1.1 sm
 exact⟨e,.ref C,.ref t,none,H,rfl,yl_ I I' bs fl,hE⟩
theorem Fun.okx{x qual:Str}{st:Stmt}{f:Addr}{fd:FuncData}{N ps:List Str}{k:Nat}{sp:Sp}(F:Fun K x qual st f fd)(S:FnScope N ps (qm_ st))(len:∀vs H Q E,sp vs H Q E->vs.length=ps.length)
  (hbody:∀(cdv:Value)(A:Around)(outer:List Env)(s:Shared)(H:Hp)(vs:List V)(Q:VK)(E:XK),Room k (A.deeper (envOfC qual (qm_ st) s.heap.objs.size f cdv))->sp vs H Q E ->
   ∃t,PSs (q8_ (CX1 P w) P w K mg base N qual (qm_ st) f cdv A outer s H E) (zO_ st) t/\t { nx:=λ_ H'=>Q .non H',rt:=Q } (jd_ N vs) H):FnOk P w K mg base (CX1 P w) (k+1) f fd ps sp:=by
 obtain⟨oc,od,kV,doc,pm,an,cdv,ct,osl,rfl,lk,hcd⟩:=F.ex
 exact afe_ lk hcd S len λA outer s H vs Q E hr hsp=>hbody cdv A outer s H vs Q E hr hsp
end
theorem adj_{K:PySem.W.Frag}{h:Heap}{C:Addr}{bmB:List Value}{newId:String}(X:K.In h)(q:PySem.W.excIn K C bmB newId=true) :
  ∃bm N nm qn bs hdct sn sub ab col dd k0 k1 k2 k3 k5 mN,h.get? C=some (excClassObj nm qn C N bs bm hdct sn sub ab col dd k0 k1 k2 k3 k5 newId)/\h.Ns N mN/\mN "__init__" = none/\OwnTail h bmB bm:=by
 unfold PySem.W.excIn at q
 split at q
 ·rename_i dd cd sl ho
  split at q
  ·rename_i C' bm k0 k1 k2 k3 n k5 hm hs
   simp only[BI,beq_iff_eq,Bool.not_eq_true']at q
   obtain⟨⟨⟨⟨⟨rfl,rfl⟩,hdel⟩,ht⟩,hok⟩,hni⟩:=q
   obtain⟨nm,bs,mro,ns,qn,hd,sn,sub,ab,col,del⟩:=cd
   dsimp only at hm hdel hok hni
   subst hm hdel
   have hsl:sl=#[k0,k1,k2,k3,some (.builtin n),k5]:=by
    obtain⟨l⟩:=sl
    simp only at hs
    rw[hs]
   subst hsl
   exact⟨bm,ns,nm,qn,bs,hd,sn,sub,ab,col,dd,k0,k1,k2,k3,k5,_,X _ _ ho,.of_isNs (PySem.W.isNs_of_in X hok),PySem.W.nsMap_none_of_in X hok hni,PySem.W.tail_of_in X ht⟩
  ·cases q
 ·cases q
def aim_(C:Addr)(E:XK)(ta:TA):TS:=λ_ σ H=>ta σ H λvs H1=>vs.length<=sizeLine/\E (.ref C) none H1
theorem zW_{X:Cx}{E:XK}{x:Str}{C:Addr}{bmB:List Value}{B newId initId:String}{np cpos pos:Pos}{e:Expr}{es:List Expr}{ta:TA}(hc:X.calm=true)(R:Rs X E)(FB:ExcBaseFacts B newId initId bmB)(hg:Gl X x)(hm:X.mg x=some (.ref C))(q:PySem.W.excIn X.K C bmB newId=true)
  (ha:PA X (e::es) ta) (hdb:(x==("__debug__" : Str))=false:=by decide) (he:starEach (e::es) X.env=(false,eval e X.env)::starEach es X.env:=by rfl) (hpl:(backTo cpos (starEach es X.env)).any (·.1)=false:=by rfl) :
  PS X (.Raise (some (.Call (.Name x np) (e::es) [] cpos)) none pos) (aim_ C E ta):=by
 intro pins s σ H D I h
 obtain⟨bm,N,nm,qn,bs,hdct,sn,sub,ab,col,dd,k0,k1,k2,k3,k5,mN,hC,hN,hni,T⟩:=adj_ I.mod.kin q
 refine wpAny_Raise_call_subT (C:=C) (nm:=nm) (q:=qn) (N:=N) (bs:=bs) (bm:=bm) (hdct:=hdct) (sn:=sn) (sub:=sub) (ab:=ab) (col:=col) (dd:=dd) (k0:=k0) (k1:=k1) (k2:=k2) (k3:=k3) (k5:=k5)
  FB (mN:=mN) (T.hasType FB.hasBase) (I.ok.hd hc) (by rw[he];show(false||(backTo cpos (starEach es X.env)).any (·.1))=false;rw[hpl];rfl) hni (jX_ I hg hm ⟨rfl,?_⟩ hdb)
 have h0:=ha cpos pins s σ H _ I h
 rw[he]at h0 ⊢
 refine Cg (wpAny_mono h0 (λus s2 ⟨vs,H1,I1,r,hl,hE⟩=>?_) λ_ _ y=>y)
 refine⟨rfl,by rw[<-r.length];exact hl,I1.bk _ _ hC,hN.keeps I1.bk,T.keeps I1.bk,λh' e' hx=>R pins σ H1 s2 h' e' C us I1 hx hE⟩
end L2.Ev
namespace L2.Ev
open PySem PySem.Spec PyProof.Rows
open L2.Pl
theorem vI_{K:PySem.W.Frag}{M:Model}{A:Around}{E:Value->Shared->Prop}{s:Shared}{e C C0:Addr}{oe:Obj}{Q:Bool->Shared->Prop}(X:K.In s.heap)(he:s.heap.get? e=some oe)(hc:oe.cls=.ref C)
  (k1:PySem.W.kitCls K (.ref C) (.ref C0)=some true) (k2:PySem.W.kitCls K (.ref C0) (.type "BaseException")=some true) (h:Q true s):wpAny M A (excMatches (.ref e) (.ref C0)) Q E s:=by
 obtain⟨t1,i1,s1⟩:=PySem.W.kit_cls (M:=M) X k1
 obtain⟨_,_,s2⟩:=PySem.W.kit_cls (M:=M) X k2
 have keep:∀b o,s.heap.get? b=some o->s.heap.get? b=some o:=λ_ _ q=>q
 unfold excMatches isInstance
 refine wpAny_bind (wpAny_bind (t1 A _ _ s keep (wpAny_of_eq tc_notTuple ?_)))
 simp only[Ag,if_false]
 refine wpAny_bind (wpAny_pure ?_)
 simp only[B4,Dr]
 unfold isExcClass
 refine wpAny_bind (wpAny_bind (wpAny_bind (wpAny_bind (i1 A _ _ s keep ?_))))
 simp only[if_true]
 refine s2 A _ _ s keep ?_
 simp only[D4,Ag,if_false]
 refine wpAny_pure (wpAny_pure ?_)
 have ty:PySem.W.Looks M s.heap (typeOf (.ref e)) (.ref C):=hc▸(PySem.W.Looks.ld he).andThen .now
 refine wpAny_bind (ty A _ _ s keep ?_)
 refine wpAny_bind (wpAny_bind (wpAny_bind (s1 A _ _ s keep ?_)))
 simp only[if_true]
 refine wpAny_pure (wpAny_pure ?_)
 exact wpAny_pure h
def xE(a:Addr)(cls:Value)(od:Option Addr):HO:=.ext λh=>∃ob vs,h.get? a=some ob/\ob.cls=cls/\ob.data=.fields vs/\ob.dict=od
section
variable{X:Cx}{pins:List (Addr×Obj)}{σ:St}{H H':Hp}{s s':Shared}{B:Heap}{a:Addr}{cls a0:Value}{od:Option Addr}
theorem ajn_(I:Inv X pins σ H s)(I':Inv X pins σ H' s')(bs:Bs X.stack H s.heap H' B)(fl:jv_ B X.stack a cls a0 od s'.heap):Inv X pins σ (upd H' a (xE a cls od)) s'/\H' a=none:=by
 obtain⟨⟨st,hB,ff,oe,vs,T,oT,ts,he,⟨hc,_⟩,hd,_⟩,ox,hox,hod⟩:=fl
 rw[he]at hox
 cases hox
 have hn:H' a=none:=by
  cases q:H' a with
  |none=>rfl
  |some u=>obtain⟨o,e⟩:=bs.trk a u q;rw[hB]at e;cases e
 have notfr:a∉frs X.stack:=λz=>by
  obtain⟨_,o,e,d⟩:=ff.mem z
  rw[he]at e;cases e
  exact d vs hd
 have notold:∀o,s.heap.get? a=some o->False:=λo e=>by
  obtain⟨o',e',_⟩:=bs.old a o e notfr
  rw[hB]at e';cases e'
 have s0n:∀o,X.s₀.heap.get? a=some o->a∉X.ex->False:=λo e hx=>by
  obtain⟨o',e'⟩:=I.base.there a o e hx
  exact notold o' e'
 have nL:X.env.locals≠a:=λz=>by
  obtain⟨m,⟨o,es,ep,ho,hd',_⟩,_⟩:=I'.loc
  rw[z,he]at ho;cases ho
  rw[hd]at hd';cases hd'
 have nC:∀x c,X.env.cells.lookup x=some c->c≠a:=λx c e z=>by
  obtain⟨v,o,ho,hd'⟩:=I'.cell x c e
  rw[z,he]at ho;cases ho
  rw[hd]at hd';cases hd'
 have nP:∀p∈X.pn++pins,p.1≠a:=λp hp z=>by
  obtain⟨e,_⟩:=I.pin p hp
  rw[z]at e
  exact notold _ e
 have neq:∀b u,H' b=some u->b≠a:=λb u e z=>by rw[z,hn]at e;cases e
 refine⟨⟨I'.ok,I'.os,I'.bare,⟨I'.base.keep,I'.base.slot,λb o e n hx=>?_,I'.base.there,λb xs e=>?_,λb o u e=>?_,λb ps e=>?_⟩,I'.loc,I'.cell,?_,λx c e=>?_,λp hp=>?_,λb u e=>?_,I'.len⟩,hn⟩
 ·have q:=I'.base.free b o e n hx
  by_cases z:b=a
  ·subst z;exact(s0n o e hx).elim
  ·rw[ql_ z];exact q
 ·have q:=I'.base.tups b xs e
  rw[ql_ (neq _ _ q)];exact q
 ·have q:=I'.base.frzs b o u e
  rw[ql_ (neq _ _ q)];exact q
 ·obtain⟨more,q⟩:=I'.base.tbls b ps e
  exact⟨more,by rw[ql_ (neq _ _ q)];exact q⟩
 ·rw[ql_ nL];exact I'.free
 ·rw[ql_ (nC x c e)];exact I'.freeC x c e
 ·obtain⟨q1,q2,q3⟩:=I'.pin p hp
  exact⟨q1,by rw[ql_ (nP p hp)];exact q2,q3⟩
 ·by_cases z:b=a
  ·subst z
   rw[qd_]at e
   cases e
   exact⟨⟨oe,vs,he,hc,hd,hod⟩,⟨oe,he⟩,λh1 h2 ⟨ob,ws,k1,k2,k3⟩ k=>⟨ob,ws,k _ k1,k2,k3⟩⟩
  ·rw[ql_ z]at e
   exact(I'.hok b u e).stay (λ_ _ _ q=>q) (λc q=>by rw[ql_ (neq _ _ q)];exact q) λc xs q=>by rw[ql_ (neq _ _ q)];exact q
theorem ah8_{M:Model}{A:Around}{E:Value->Shared->Prop}{i:Nat}{x:Str}{pos:Pos}{Q:Unit->Shared->Prop}(I:Inv X pins σ H s)(hN:X.N.Nodup)(hi:X.N[i]?=some x)(hx:X.env.scope.names.lookup x=some .local)
  (h:∀s',Inv X pins (σ.set i none) H s'->Q () s'):wpAny M A (do bindName X.env x .none;unbindBehindTheSuite X.env x pos) Q E s:=by
 obtain⟨m,hn,hl⟩:=id I.loc
 have hcls:(X.env.scope.kind==.class||(X.env.scope.kind==.module&&X.env.locals != X.env.globals))=false:=by rw[I.ok.kind];rfl
 have hiσ:i<σ.length:=by rw[I.len];exact(AY.mp hi).1
 have cne:=I.cne
 refine wpAny_nameGoes_keeps hx hn hcls λh' v hn' hs=>?_
 obtain⟨oL,_,_,hoL,_⟩:=id hn
 refine h _ ⟨I.ok,I.os,I.bare,⟨λb o e n hb hx=>?_,λb o e n hb hx=>?_,I.base.free,λb o e hx=>?_,I.base.tups,I.base.frzs,I.base.tbls⟩,⟨_,hn',λj y v' e1 e2 e3=>?_⟩,λy c e=>?_,I.free,I.freeC,λp hp=>?_,λb ob e=>?_,by simpa using I.len⟩
 ·exact(hs.2 b (AT (AO (AG e) I.ok.above))).trans (I.base.keep b o e n hb hx)
 ·obtain⟨sl,e1⟩:=I.base.slot b o e n hb hx
  exact⟨sl,(hs.2 b (AT (AO (AG e) I.ok.above))).trans e1⟩
 ·obtain⟨o',e1⟩:=I.base.there b o e hx
  exact⟨o',(hs.2 b (AT (AO (AG e) I.ok.above))).trans e1⟩
 ·by_cases hj:j=i
  ·subst hj
   rw[B5 hiσ]at e2
   cases e2
  ·rw[Cf (BP hj)]at e2
   obtain⟨u',r',q⟩:=hl j y v' e1 e2 e3
   refine⟨u',r',?_⟩
   rcases q with⟨k,e⟩|⟨k,c,e,z⟩
   ·refine .inl ⟨k,?_⟩
    have:y≠x:=λe=>hj (xT_ hN e1 (e▸hi))
    simp [this,e]
   ·exact .inr ⟨k,c,e,z.sameBut hs (cne y c e)⟩
 ·obtain⟨w',z⟩:=I.cell y c e
  exact⟨w',z.sameBut hs (cne y c e)⟩
 ·obtain⟨e,n,ne,nf,d⟩:=I.pin p hp
  exact⟨(hs.2 p.1 ne).trans e,n,ne,nf,d⟩
 ·refine(I.hok b ob e).stay (λc w' hc q=>(hs.2 c ?_).trans q) (λ_ q=>q) λ_ _ q=>q
  intro z
  rcases hc with hc|hc
  ·rw[<-hc,z,I.free]at e;cases e
  ·rw[z,I.free]at hc;cases hc
end
abbrev Cx.mk1(X:Cx)(e:Value):Cx:={ X with A:=X.A.mark (some e),calm:=false,xe:=λ_ _=>False }
abbrev Cx.pin1(X:Cx)(pn:List (Addr×Obj))(T:Value->Shared->Prop):Cx:={ X with pn:=pn,xe:=T }
section
variable{X:Cx}{pins:List (Addr×Obj)}{σ:St}{H:Hp}{s:Shared}
theorem ah0_(ok:X.Ok)(e:Value):(Cx.mk1 X e).Ok:=⟨ok.mod,ok.kind,ok.glob,ok.blt,ok.above,ok.inj,ok.has,ok.cab,λz=>(by cases z),ok.frames,ok.stk,ok.exf,ok.bs,ok.bsz,ok.noex,ok.exfs,ok.funs,ok.frf⟩
theorem v8_(I:Inv X pins σ H s)(e:Value):Inv (Cx.mk1 X e) pins σ H s:=⟨ah0_ I.ok e,I.os,I.bare,I.base,I.loc,I.cell,I.free,I.freeC,I.pin,I.hok,I.len⟩
theorem agg_(ok:X.Ok){e:Value}(I:Inv (Cx.mk1 X e) pins σ H s):Inv X pins σ H s:=⟨ok,I.os,I.bare,I.base,I.loc,I.cell,I.free,I.freeC,I.pin,I.hok,I.len⟩
theorem af5_(ok:X.Ok)(pn:List (Addr×Obj))(T:Value->Shared->Prop):(Cx.pin1 X pn T).Ok:=⟨ok.mod,ok.kind,ok.glob,ok.blt,ok.above,ok.inj,ok.has,ok.cab,ok.hd,ok.frames,ok.stk,ok.exf,ok.bs,ok.bsz,ok.noex,ok.exfs,ok.funs,ok.frf⟩
theorem ad1_(I:Inv X pins σ H s)(T:Value->Shared->Prop):Inv (Cx.pin1 X (X.pn++pins) T) [] σ H s:=⟨af5_ I.ok _ T,I.os,I.bare,I.base,I.loc,I.cell,I.free,I.freeC,λp hp=>I.pin p (by rw[BY]at hp;exact hp),I.hok,I.len⟩
theorem zS_(ok:X.Ok){T:Value->Shared->Prop}{pins':List (Addr×Obj)}(I:Inv (Cx.pin1 X (X.pn++pins) T) pins' σ H s):Inv X pins σ H s:=⟨ok,I.os,I.bare,I.base,I.loc,I.cell,I.free,I.freeC,λp hp=>I.pin p (Ay _ hp),I.hok,I.len⟩
end
def abh_(X:Cx)(σ0:St)(E:XK):Prop:=∀(pins:List (Addr×Obj))(H:Hp)(s:Shared)(e:Value)(s':Shared),Inv X pins σ0 H s->CX1 X.prog X.w X.stack H s E e s'->X.xe e s'
def ah7_(σ0:St)(sp:Sp)(E:XK)(t:TA):TE:=λσ H Q=>σ=σ0/\t σ H λvs H1=>sp vs H1 Q E
theorem ae4_{X:Cx}{k:Nat}{f:Addr}{fd:FuncData}{ps:List Str}{sp:Sp}{E:XK}{σ0:St}{x:Str}{p pos:Pos}{e:Expr}{es:List Expr}{t:TA}(F:FnOk X.prog X.w X.K X.mg X.base (CX1 X.prog X.w) k f fd ps sp)(hr:Room k X.A)(hg:Gl X x)(hm:X.mg x=some (.ref f))(hk:PySem.W.keepIn X.K (.ref f)=true)(hb:Binds X.K fd ps [])(hx:abh_ X σ0 E)
  (ha:PA X (e::es) t) (hdb:(x==("__debug__" : Str))=false:=by decide) (he:starEach (e::es) X.env=(false,eval e X.env)::starEach es X.env:=by rfl) (hpl:(backTo pos (starEach es X.env)).any (·.1)=false:=by rfl) :
  PE X (.Call (.Name x p) (e::es) [] pos) (ah7_ σ0 sp E t):=by
 intro pins s σ H Q I h
 obtain⟨rfl,h⟩:=h
 refine wpAny_Call_Name_kw (jX_ I hg hm ?_ hdb)
 refine PySem.W.callWith_K (h₀:=X.base) I.ok.mod.kin hk (thn (ha pos pins s σ H _ I h) λus s1 ⟨vs,H1,I1,r,q⟩=>⟨I1.kIn,?_⟩) he hpl
 have hl:us.length=ps.length:=by rw[<-r.length];exact F.len _ _ _ _ q
 have hbd:=hb s1 us I1.kIn (by rw[BY];exact hl)
 rw[BY]at hbd
 refine wpAny_call (codeAny_mono (F.run X.A X.stack s1 H1 ⟨us,[]⟩ us vs Q E hr I1.env0 hbd r q) λr' s' hq=>?_)
 cases r' with
 |error e'=>exact hx pins H1 s1 e' s' I1 hq
 |ok fl =>
  cases fl with
  |ret u=>exact I1.after hq
  |next=>exact False.elim hq
  |brk=>exact False.elim hq
  |cont=>exact False.elim hq
def EH(K:PySem.W.Frag)(C0:Addr)(i j:Nat)(D:Ends)(σ:St):XK:=λcls od H'=>∃C:Addr,cls=.ref C/\PySem.W.kitCls K (.ref C) (.ref C0)=some true /\
 ∀a,H' a=none->D.nx (((σ.set i (some (.ref a))).set j (some (.ref a))).set i none) (upd H' a (xE a cls od))
theorem ai7_{X:Cx}{x n y:Str}{C0:Addr}{body:List Stmt}{np py pn ap hp pos:Pos}{i j:Nat}{tb:St->XK->TS}(hst:X.stack=X.env::X.outer)(hfr:X.env.frame=some X.env.locals)
  (hN:X.N.Nodup) (hi:X.N[i]?=some n) (li:X.env.scope.names.lookup n=some .local) (hj:X.N[j]?=some y) (lj:X.env.scope.names.lookup y=some .local) (hg:Gl X x) (hm:X.mg x=some (.ref C0)) (kC:PySem.W.kitCls X.K (.ref C0) (.type "BaseException")=some true)
  (hb:∀(pn':List (Addr×Obj))(T:Value->Shared->Prop)(σ0:St)(E:XK),abh_ (Cx.pin1 X pn' T) σ0 E->PSs (Cx.pin1 X pn' T) body (tb σ0 E)) (hd1:(n==("__debug__" : Str))=false:=by decide) (hd2:(n==("__classdict__" : Str))=false:=by decide) (hd3:(x==("__debug__" : Str))=false:=by decide) :
  PS X (.Try body [.ExceptHandler (some (.Name x np)) (some n) [.Assign [.Name y py] (.Name n pn) ap] hp] [] [] pos) (λD σ H=>tb σ (EH X.K C0 i j D σ) D σ H):=by
 intro pins s σ H D I h
 rw[arm_exec_Try]
 refine wpAny_bind (wpAny_standAt (wpAny_tryStmt_except ?_))
 have hP:abh_ (Cx.pin1 X (X.pn++pins) λe s₁=>wpAny (model X.prog X.w) X.A (noteFrame e X.env) (λ_ s₂=>wpAny (model X.prog X.w) X.A (setFlight e none) (λ_ s₃ =>
   wpAny (model X.prog X.w) X.A (handleBy e X.env [.ExceptHandler (some (.Name x np)) (some n) [.Assign [.Name y py] (.Name n pn) ap] hp]) (SP X pins D) X.xe s₃) X.xe s₂) X.xe s₁) σ (EH X.K C0 i j D σ):=by
  rintro pins' H1 s1 e s' J ⟨a,cls,a0,od,H',rfl,F,C,rfl,kC',hE⟩
  have I1:Inv X pins σ H1 s1:=zS_ I.ok J
  obtain⟨os,bare,un,hok,B,bs,fl⟩:=F
  have bs:Bs X.stack H1 s1.heap H' B:=bs
  have fl:jv_ B X.stack a (.ref C) a0 od s'.heap:=fl
  have fl':=fl
  rw[hst]at fl'
  show wpAny _ X.A (noteFrame (.ref a) X.env) _ _ s'
  refine aba_ (outer:=X.outer) (by rw[I1.ok.frames,hst]) hfr fl' λh4 ⟨m1,m2,m3,m4⟩ md sm4=>?_
  refine xJ_ (s:={ s' with heap:=h4 }) m1 m2 m3 m4 md λh5 fly5 sm5=>?_
  have sm45:=sm4.trans sm5
  have I5:=jW_ I1 os bare un hok bs fl.1.1 fly5.1.1 sm45
  obtain⟨ob,hob,hobc⟩:=fly5.1.there
  refine wpAny_handleBy_cons (codeAny_handlers_test (jX_ (X:=Cx.mk1 X (.ref a)) (v8_ I5 (.ref a)) hg hm (vI_ I5.kIn hob hobc kC' kC ?_) hd3)) (by intro q;cases q)
  refine codeAny_handlers_suite_as ?_
  obtain⟨⟨n1,n2,n3,n4⟩,nd⟩:=fly5
  refine xJ_ (s:={ s' with heap:=h5 }) n1 n2 n3 n4.at nd λh6 fly6 sm6=>?_
  have I6:=jW_ I1 os bare un hok bs fl.1.1 fly6.1.1 (sm45.trans sm6)
  obtain⟨I6',hn⟩:=ajn_ I1 I6 bs (by rw[hst];exact fly6)
  refine xP_ (X:=X) I6' hN hi (Or.inl li) (v:=.ref a) rfl (λs7 I7=>?_) (.inr li)
  have hlt:i<σ.length:=by rw[I1.len];exact(AY.mp hi).1
  have ps:=qg_ (qj_ (X:=Cx.mk1 X (.ref a)) (pos:=ap) (pos':=py) hN hj (Or.inl lj) (ac9_ (pos:=pn) hi (Or.inl li) hd1 hd2) rfl (.inr lj))
  refine wpAny_mono (ps pins s7 (σ.set i (some (.ref a))) (upd H' a (xE a (.ref C) od)) { nx:=λσ8 H8=>σ8=(σ.set i (some (.ref a))).set j (some (.ref a))/\H8=upd H' a (xE a (.ref C) od),rt:=λ_ _=>False } (v8_ I7 (.ref a)) ⟨.ref a,B5 hlt,rfl,rfl⟩) (λfw s8 q=>?_) (λ_ _ z=>False.elim z)
  cases fw with
  |next =>
   obtain⟨σ8,H8,J8,rfl,rfl⟩:=q
   exact ah8_ (agg_ I.ok J8) hN hi li λs9 I9=>⟨_,_,I9,hE a hn⟩
  |brk=>obtain⟨_,_,_,z⟩:=q;exact z.elim
  |cont=>obtain⟨_,_,_,z⟩:=q;exact z.elim
  |ret u=>obtain⟨_,_,_,_,_,z⟩:=q;exact z.elim
 refine wpAny_mono (hb _ _ σ _ hP [] s σ H D (ad1_ I _) h) (λfw s₁ q=>?_) λe s₁ q=>q
 cases fw with
 |next=>obtain⟨σ',H',J,q⟩:=q;exact wpAny_execs_nil ⟨σ',H',zS_ I.ok J,q⟩
 |brk=>obtain⟨σ',H',J,q⟩:=q;exact⟨σ',H',zS_ I.ok J,q⟩
 |cont=>obtain⟨σ',H',J,q⟩:=q;exact⟨σ',H',zS_ I.ok J,q⟩
 |ret u=>obtain⟨v,σ',H',J,r,q⟩:=q;exact⟨v,σ',H',zS_ I.ok J,r,q⟩
end L2.Ev
namespace L2.Ev
open PySem PySem.Spec PyProof.Rows
open PySem.W
open PySem PySem.Calls PyProof.Rows Builtin Builtin.ObjectAttr Builtin.Getset_descriptor
section
variable{prog:Program}{w:World}{A:Around}{E:Value->Shared->Prop}{K:Frag}{h:Heap}{g:Array GenState}{d:Drawn}{t:Nat}{os:OsState}{a C:Addr}{o:Obj}
theorem abb_{tp:Value}{R:Result->Shared->Prop}(X:K.In h)(L0:Looks (model prog w) h (typeOf (.ref a)) (.ref C))(hm:mroIn K C (.type "object")=some true)
  (hq:R (.ok (.ret (.ref C))) ⟨h,g,d,t,os⟩):codeAny (model prog w) A (.call (.builtin "getset_descriptor.__get__") ⟨[.builtin "object.__class__",.ref a,tp],[]⟩) R ⟨h,g,d,t,os⟩:=by
 have L1:=looks_mroIn (M:=model prog w) X hm
 refine codeAny_call_builtin KF.slot_gs.plain KF.entry_gs (KF.slot_gs.check _ _ _ _ _ _ _ _ KF.type_class (KF.args_gs _ _ _) ?_)
 unfold Builtin.«getset_descriptor.__get__» descrGet
 rw[dga_obj]
 refine wpAny_bind (wpAny_pure ?_)
 unfold descrGetter descrCheckInstance descrNameAndClass isInstance
 simp only[KF.owner_class]
 repeat lk
 refine⟨Code.quiet_builtin _ (by decide +kernel),codeAny_builtin KF.entry_class ?_⟩
 unfold Builtin.«object.__class__» shownTypeOf
 repeat lk
 exact hq
theorem y9_{tk:Tok}{Q:Fin->Shared->Prop}(X:K.In h)(L0:Looks (model prog w) h (typeOf (.ref a)) (.ref C))(hm:mroIn K C (.type "object")=some true)(hcl:findIn K (.ref C) "__class__" = some (some (.builtin "object.__class__")))
  (hx:h.get? a=some o) (hc:o.cls=.ref C) (hq:Q (.done (.ret (.ref C))) ⟨h,g,d,t,os⟩) :
  wpAny (model prog w) A (Builtin.«object.__getattribute__» ⟨[.ref a,.str "__class__" tk],[]⟩) Q E ⟨h,g,d,t,os⟩:=by
 have L2:=looks_findIn (M:=model prog w) X hcl
 have f5:=KF.type_class
 have f6:=F.slot_gs_get.lookup
 have f7:=F.slot_gs_set.lookup
 repeat (any_goals (first|assumption|(with_reducible refine wpAny_loadPart_at hx ?_;rw[hc])|with_reducible refine L2.at ?_|wp_step))
 refine abb_ X L0 hm ?_
 repeat (any_goals (first|assumption|wp_step))
theorem aca_{M:Model}{nameV:Value}{Q:Unit->Shared->Prop}(L0:Looks M h (typeOf (.ref a)) (.ref C))(LB:Looks M h (isSubtype (.ref C) (.type "BaseException")) true)
  (hq:Q () ⟨h,g,d,t,os⟩):wpAny M A (checkBuiltinCall "BaseException.__getattribute__" ⟨[.ref a,nameV],[]⟩) Q E ⟨h,g,d,t,os⟩:=by
 have hk:builtinKind "BaseException.__getattribute__" = some .slot:=by decide +kernel
 have hsplit:splitId "BaseException.__getattribute__" = some ("BaseException", "__getattribute__"):=by decide +kernel
 have ha:=F.args_bexc_ga (.ref a) nameV
 have LI:Looks M h (isInstance (.ref a) (.type "BaseException")) true:=L0.andThen LB
 simp only[checkBuiltinCall,hk,hsplit]
 refine wpAny_bind (LI.at ?_)
 repeat (first|assumption|wp_step)
theorem vH_{tk:Tok}{R:Result->Shared->Prop}(X:K.In h)(hm:mroIn K C (.type "object")=some true)(hb:mroIn K C (.type "BaseException")=some true)(hcl:findIn K (.ref C) "__class__" = some (some (.builtin "object.__class__")))
  (hx:h.get? a=some o) (hc:o.cls=.ref C) (hq:R (.ok (.ret (.ref C))) ⟨h,g,d,t,os⟩) :
  codeAny (model prog w) A (.call (.builtin "BaseException.__getattribute__") ⟨[.ref a,.str "__class__" tk],[]⟩) R ⟨h,g,d,t,os⟩:=by
 have L0:Looks (model prog w) h (typeOf (.ref a)) (.ref C):=hc▸(Looks.ld hx).andThen .now
 exact codeAny_call_builtin F.excAttr_ValueError.ga.plain F.entry_bexc_ga (aca_ L0 (looks_mroIn X hb) (y9_ X L0 hm hcl hx hc hq))
theorem aco_{tk:Tok}{Q:Value->Shared->Prop}(X:K.In h)(hm:mroIn K C (.type "object")=some true)(hb:mroIn K C (.type "BaseException")=some true)(hcl:findIn K (.ref C) "__class__" = some (some (.builtin "object.__class__")))
  (hga:findIn K (.ref C) "__getattribute__" = some (some (.builtin "BaseException.__getattribute__"))) (hgt:findIn K (.ref C) "__getattr__" = some none)
  (hx:h.get? a=some o) (hc:o.cls=.ref C) (hq:Q (.ref C) ⟨h,g,d,t,os⟩):wpAny (model prog w) A (getAttrBy (.ref a) (.str "__class__" tk) false) Q E ⟨h,g,d,t,os⟩:=by
 have f3:=F.excAttr_ValueError.ga.bind (.ref a)
 have hx2:(Value.builtin "BaseException.__getattribute__" == Value.builtin "object.__getattribute__")=false:=by decide +kernel
 have hx1:(onTheHeap (Value.ref C)&&Value.builtin "BaseException.__getattribute__" == Value.builtin "object.__getattribute__")=false:=by rw[hx2];rfl
 have L1:=looks_findIn (M:=model prog w) X hga
 have L2:=looks_findIn (M:=model prog w) X hgt
 repeat (any_goals (first|assumption|(with_reducible refine wpAny_loadPart_at hx ?_;rw[hc])|with_reducible refine L1.at ?_|with_reducible refine L2.at ?_|wp_step))
 refine vH_ X hm hb hcl hx hc ?_
 repeat (any_goals (first|assumption|wp_step))
theorem vG_{Q:Option Value->Shared->Prop}(X:K.In h)(hm:mroIn K C (.type "object")=some true)(hb:mroIn K C (.type "BaseException")=some true)(hcl:findIn K (.ref C) "__class__" = some (some (.builtin "object.__class__")))
  (hga:findIn K (.ref C) "__getattribute__" = some (some (.builtin "BaseException.__getattribute__"))) (hgt:findIn K (.ref C) "__getattr__" = some none)
  (hx:h.get? a=some o) (hc:o.cls=.ref C) (hq:Q (some (.ref C)) ⟨h,g,d,t+1,os⟩):wpAny (model prog w) A (getAttr? (.ref a) "__class__") Q E ⟨h,g,d,t,os⟩:=by
 unfold getAttr? getAttrBy?
 repeat (any_goals (first|assumption|with_reducible apply aco_ X hm hb hcl hga hgt hx hc|wp_step))
end
structure ExcK(K:Frag)(C:Addr):Prop where
 obj:mroIn K C (.type "object")=some true
 exc:mroIn K C (.type "BaseException")=some true
 cls:findIn K (.ref C) "__class__" = some (some (.builtin "object.__class__"))
 ga:findIn K (.ref C) "__getattribute__" = some (some (.builtin "BaseException.__getattribute__"))
 gt:findIn K (.ref C) "__getattr__" = some none
 is:(clsIn K C).isSome=true
theorem ae9_{K:Frag}{a C:Addr}(k:ExcK K C):KitX K (.ref a) (.ref C) (λh=>∃o,h.get? a=some o/\o.cls=.ref C) where
 ty:=λM h _ ⟨o,hx,hc⟩=>hc▸(Looks.ld hx).andThen .now
 it:=λ_ _ X _=>by
  have z0:=k.is
  unfold clsIn at z0
  split at z0
  ·rename_i c' d' cd' sl' ho
   intro A' Q' E' s' kk q
   unfold isType loadHead
   exact wpAny_bind (wpAny_loadPart (kk _ _ (X _ _ ho)) (wpAny_pure q))
  ·cases z0
 ne:=λh tp dd its n sl X htp=>by
  refine Bool.eq_false_iff.mpr λq=>?_
  have e:C=tp:=Value.ref.inj (beq_iff_eq.mp q)
  subst e
  have z0:=k.is
  unfold clsIn at z0
  split at z0
  ·rename_i c' d' cd' sl' ho
   have:=X _ _ ho
   rw[htp]at this
   cases this
  ·cases z0
 ca:=λ{prog w A E Q s} X ⟨o,hx,hc⟩ q=>by
  obtain⟨hh,g,d,t,os⟩:=s
  exact vG_ X k.obj k.exc k.cls k.ga k.gt hx hc q
section
variable{X:Cx}
theorem qE_:CallR X (.builtin "isinstance") (λxs H Q=>∃od a C c u b,xs=[.ref a,c]/\H a=some (xE a (.ref C) od)/\ExcK X.K C/\RelV c u/\(∀u',RelV c u'->u'=u)/\kitOne X.K (.ref C) u=some b/\Q (.bl b) H):=by
 intro pins s σ H xs us Q I r h
 obtain⟨od,a,C,c,u,b,rfl,ha,k,_,uni,e,q⟩:=h
 obtain⟨u1,v,rfl,r1,r2⟩:=z2_ r
 cases r1
 have hv:=uni v r2
 subst hv
 obtain⟨⟨ob,vs,hx,hc,_⟩,_⟩:=(show ObjOk X.prog X.w H s.heap a (xE a (.ref C) od) from I.hok a _ ha)
 exact kia_one (ae9_ k) I.kIn ⟨ob,hx,hc⟩ e (λz=>nomatch z) λtk=>⟨.bl b,H,I.tok tk,rfl,q⟩
end
end L2.Ev
namespace L2.Ev
open PySem PySem.Spec PyProof.Rows
open L2.Pl
section
variable{X:Cx}
theorem xo_:CallR X (.type "int") (λxs H Q=>∃b,xs=[.bl b]/\Q (.int (if b then 1 else 0)) H):=by
 intro pins s σ H xs us Q I r h
 obtain⟨b,rfl,q⟩:=h
 obtain⟨u,rfl,ru⟩:=zd_ r
 cases ru
 exact call_int_bool ⟨.int (if b then 1 else 0),H,I.tok _,⟨_,rfl⟩,q⟩
end
end L2.Ev
namespace L2.Ev
open PySem PySem.Spec PyProof.Rows
open L2.Pl
end L2.Ev
namespace L2.Ev
open PySem PyProof.Rows
open L2.Pl
end L2.Ev
namespace L2.Ev
open PySem PySem.Spec PyProof.Rows
open L2.Pl
structure ESt(k:SK)(e it l:Addr)(i:Nat)(h:Heap):Prop where
 he:∃old,IsEnum h e it (i:Int) old
 hi:k.iter h it l i
end L2.Ev
namespace L2.Ev
open PySem PySem.Spec PyProof.Rows
open L2.Pl
instance datStr:Dat Str where
 is:=λ_ v b=>v=.str b
 mono:=λ_ h=>h
 inj:=λh h'=>by rw[h]at h';cases h';rfl
 dep:=0
 eqb:=λa b=>a==b
 eqb_iff:=λa b=>beq_iff_eq
 eqAt:=λ{X pins σ H s A v v' u u' a b} I hu h h' r r'=>by
  subst h h'
  obtain⟨t,rfl⟩:=r
  obtain⟨t',rfl⟩:=r'
  exact SeqAt.EqAt.str_str _ _ _ _
end L2.Ev
namespace L2.Ev
open PySem PySem.Spec PyProof.Rows
open L2.Pl
end L2.Ev
namespace L2.Ev
open PySem PySem.Spec PyProof.Rows
open L2.Pl
end L2.Ev
namespace L2.Ev
open PySem PySem.Spec PyProof.Rows
open L2.Ts L2.Pl L2.Rw
end L2.Ev
namespace L2.Ev
open PySem PySem.Spec PyProof.Rows
structure BkScopeC(X:Cx)(N':List Str)(src:List (Option Nat))(z:Str)(scope:Scope):Prop where
 kind:scope.kind=.function
 cells:∀n acc,cellsFrom n scope.names acc=(z,n)::acc
 push:∀h:Heap,pushCells h scope.names=h.push { cls:=.type "cell",data:=.cell none }
 own:∀y∈scope.names,y.2=.cell->y.1=z
 isz:scope.names.lookup z=some .cell
 names:∀y∈scope.names,y.2=.local->scope.names.lookup y.1=some .local
 frees:∀y∈scope.names,y.2=.free->X.env.kindOf y.1=some .cell∨X.env.kindOf y.1=some .free
 len:src.length=N'.length
 out:∀i j:Nat,src[i]?=some (some j)->∃x:Str,N'[i]?=some x/\X.N[j]?=some x/\scope.names.lookup x=some .free
end L2.Ev
namespace L2.Rw
open PySem PySem.W PySem.Calls PyProof.Rows PySem.Spec
end L2.Rw
namespace L2.Ev
open PySem PySem.Spec PyProof.Rows
open L2.Ts L2.Pl L2.Rw
end L2.Ev
namespace L2.Rw
open PySem PySem.W PySem.Calls PyProof.Rows PySem.Spec
open PySem.SeqAt
open PySem.AutoSeq1 (wpAny_loadPart')
open PySem.MeetsSeq PySem.MeetsSeq2 PySem.MeetsSeq3
end L2.Rw
namespace L2.Ev
open PySem PySem.Spec PyProof.Rows
open L2.Ts L2.Pl L2.Rw
end L2.Ev
namespace L2.Ev
open PySem PySem.Spec PyProof.Rows
open L2.Pl
end L2.Ev
namespace L2.Ev
open PySem PySem.Spec PyProof.Rows
open L2.Ts L2.Pl L2.Rw
end L2.Ev
set_option maxHeartbeats 4000000
namespace L2.Ev
open PySem PySem.Spec PyProof.Rows L2 L2.Pl
end L2.Ev
set_option maxHeartbeats 4000000
namespace L2.Ev
open PySem PySem.Spec PyProof.Rows
open L2.Ts L2.Pl L2.Rw
end L2.Ev
namespace L2.Ev
open PySem PySem.Spec PyProof.Rows
open L2.Pl
def tx(x:Str):List Nat:=x.cps.toList
theorem zR_{a b:Str}(h:tx a=tx b):a=b:=by
 cases a with
 |mk a =>
  cases b with
  |mk b=>exact congrArg Str.mk (Array.ext' h)
theorem zT_(a b:Str):tx (a++b)=tx a++tx b:=by
 show(a.cps++b.cps).toList=_
 rw[Am]
 rfl
theorem qA_(a:Str):(tx a).length=a.length:=AJ
theorem zr_(a b:Str):(a++b).length=a.length+b.length:=by rw[<-qA_,<-qA_,<-qA_,zT_,AQ]
def ze_(sep:List Nat):List (List Nat)->List Nat
 |[]=>[]
 |[x]=>x
 |x::y::r=>x++sep++ze_ sep (y::r)
theorem aga_(sep:Str)(l:List Str):tx (Txt.join sep l)=ze_ (tx sep) (l.map tx):=by
 show tx (Builtin.Str.glued sep l)=_
 rw[Ds]
 induction l with
 |nil=>rfl
 |cons x l ih =>
  cases l with
  |nil=>rfl
  |cons y l =>
   show tx (x++sep++Str.join sep (y::l))=tx x++tx sep++ze_ (tx sep) ((y::l).map tx)
   rw[zT_,zT_,ih]
end L2.Ev
namespace L2.Ev
open PySem PySem.Spec PyProof.Rows
open L2.Pl
section
variable{X:Cx}
theorem jA_:MtM X "str.startswith" (λx xs H Q=>∃a b:Str,x=.str a/\xs=[.str b]/\Q (.bl (Txt.startswith a b)) H):=by
 intro pins s σ H x xs v us Q I rx rs h
 obtain⟨a,b,rfl,rfl,q⟩:=h
 obtain⟨t,rfl⟩:=rx
 obtain⟨u,rfl,ru⟩:=zd_ rs
 obtain⟨t',rfl⟩:=ru
 exact SC.startswith ⟨.bl _,H,I,rfl,q⟩
theorem acn_:MtM X "str.lstrip" (λx xs H Q=>∃a b:Str,x=.str a/\xs=[.str b]/\a.length<=sizeLine/\Q (.str (Txt.lstripChars a b)) H):=by
 intro pins s σ H x xs v us Q I rx rs h
 obtain⟨a,b,rfl,rfl,hz,q⟩:=h
 obtain⟨t,rfl⟩:=rx
 obtain⟨u,rfl,ru⟩:=zd_ rs
 obtain⟨t',rfl⟩:=ru
 exact SC.lstripChars (λt' k=>⟨.str _,H,I.tok k,⟨t',rfl⟩,q⟩) hz
theorem yC_:∀(l:List (Str×Tok)),Vals ((l.map (·.1)).map V.str) (strValues l)
 |[]=>.nil
 |p::l=>.cons ⟨p.2,rfl⟩ (yC_ l)
theorem xW_:MtM X "str.split" (λx xs H Q=>∃a b:Str,x=.str a/\xs=[.str b]/\(b.length==0)=false/\a.length<=100000/\∀l,H l=none->Q (.ref l) (upd H l (.lst ((Txt.split a b).map V.str)))):=by
 intro pins s σ H x xs v us Q I rx rs h
 obtain⟨a,b,rfl,rfl,hb,hz,q⟩:=h
 obtain⟨t,rfl⟩:=rx
 obtain⟨u,rfl,ru⟩:=zd_ rs
 obtain⟨t',rfl⟩:=ru
 have sz:sizeLine=16777216:=rfl
 have fin:∀(l:List (Str×Tok))(k:Nat),l.map (·.1)=Txt.split a b->EP X pins σ Q (.ref s.heap.objs.size) { s with heap:=s.heap.push { cls:=.type "list",data:=.seq (strValues l).toArray },toks:=k }:=λl k e=>by
  refine⟨.ref _,_,I.laid (t':=k) (o:=.lst ((Txt.split a b).map V.str)) (λb o e=>AA _ e) (AB _) ?_,rfl,q _ (I.hok.fresh (AB _))⟩
  refine⟨?_,strValues l,0,by rw[<-e];exact yC_ l,AE _ rfl⟩
  rw[AF]
  have:=split_le a b
  omega
 cases h1:(decide (a.length<b.length)||decide (Builtin.Str.strKind a<Builtin.Str.strKind b))
 ·cases hf:(Builtin.Str.occurrences a b 0 a.length (a.length+1)).isEmpty
  ·have e:Txt.split a b=Builtin.Str.partsBetween a (Builtin.Str.occurrences a b 0 a.length (a.length+1)) b.length:=(if_neg (ne_true_of_eq_false h1)).trans (if_neg (ne_true_of_eq_false hf))
   have hz2:(Builtin.Str.partsBetween a (Builtin.Str.occurrences a b 0 a.length (a.length+1)) b.length).length<=sizeLine:=by
    rw[<-e]
    have:=split_le a b
    omega
   refine call_meets DP (typeIs_str _ _ _) DG (C7 _ _) (meets_str_split_sep a b t t' h1 hb hf (by omega) hz2) ?_
   show wants _ _ _ { s with toks:=_,heap:=s.heap.push { cls:=.type "list",data:=.seq (strsFrom s.toks (Builtin.Str.partsBetween a (Builtin.Str.occurrences a b 0 a.length (a.length+1)) b.length)).toArray } }
   rw[strsFrom_eq]
   exact fin _ _ ((numbered_texts _ _).trans e.symm)
  ·exact call_meets DP (typeIs_str _ _ _) DG (C7 _ _) (meets_str_split_not_found a b t t' h1 hb hf) (fin [(a,t)] s.toks ((if_neg (ne_true_of_eq_false h1)).trans (if_pos hf)).symm)
 ·exact call_meets DP (typeIs_str _ _ _) DG (C7 _ _) (meets_str_split_cannot_occur a b t t' h1) (fin [(a,t)] s.toks (if_pos h1).symm)
theorem jy_:CallR X (.type "int") (λxs H Q=>∃(z:Str)(n:Int),xs=[.str z]/\z.length<=640/\intText? z=some n/\Q (.int n) H):=by
 intro pins s σ H xs us Q I rs h
 obtain⟨z,n,rfl,hz,hn,q⟩:=h
 obtain⟨u,rfl,ru⟩:=zd_ rs
 obtain⟨t,rfl⟩:=ru
 exact PySem.W.KIN.call_text hn hz ⟨.int n,H,I.tok _,⟨_,rfl⟩,q⟩
theorem qW_:SlR X (λx lo hi H Q=>∃z:Str,x=.str z/\z.length<=sizeLine/\Q (.str (Txt.slice z lo hi)) H):=by
 intro pins s σ H x v vl vu lo hi sl Q I rx hs pl pu h
 obtain⟨z,rfl,hz,q⟩:=h
 obtain⟨t,rfl⟩:=rx
 have key:∀(l u:Option (Int×Tok)),l.map (·.1)=lo->u.map (·.1)=hi->∀Q':Value->Shared->Prop,(∀t' k,Q' (.str (Txt.slice z lo hi) t') { s with toks:=k })->(sliceMade z t l u none).post Q' s:=λl u e1 e2 Q' h=>by
  subst e1 e2
  exact post_val_or_str ⟨AZ (Bc z _ _) hz,h⟩
 cases pl with
 |none =>
  cases pu with
  |none=>exact⟨"str",_,CN.lookup,typeIs_str _ _ _,wpAny_getItem_str_slice (l:=none) (u:=none) (st:=none) hs rfl (key none none rfl rfl _ λt' k=>⟨.str _,H,I.tok k,⟨t',rfl⟩,q⟩)⟩
  |int j tj=>exact⟨"str",_,CN.lookup,typeIs_str _ _ _,wpAny_getItem_str_slice (l:=none) (u:=some (j,tj)) (st:=none) hs rfl (key none (some (j,tj)) rfl rfl _ λt' k=>⟨.str _,H,I.tok k,⟨t',rfl⟩,q⟩)⟩
 |int i ti =>
  cases pu with
  |none=>exact⟨"str",_,CN.lookup,typeIs_str _ _ _,wpAny_getItem_str_slice (l:=some (i,ti)) (u:=none) (st:=none) hs rfl (key (some (i,ti)) none rfl rfl _ λt' k=>⟨.str _,H,I.tok k,⟨t',rfl⟩,q⟩)⟩
  |int j tj=>exact⟨"str",_,CN.lookup,typeIs_str _ _ _,wpAny_getItem_str_slice (l:=some (i,ti)) (u:=some (j,tj)) (st:=none) hs rfl (key (some (i,ti)) (some (j,tj)) rfl rfl _ λt' k=>⟨.str _,H,I.tok k,⟨t',rfl⟩,q⟩)⟩
theorem ab0_:OpR X (compareOp .LtE) (λx y H Q=>∃i j:Str,x=.str i/\y=.str j/\Q (.bl (!decide (tx j<tx i))) H):=by
 intro pins s σ H x y v u Q I rx ry h
 obtain⟨i,j,rfl,rfl,q⟩:=h
 obtain⟨t,rfl⟩:=rx
 obtain⟨t',rfl⟩:=ry
 exact PySem.P.le_str ⟨.bl _,H,I,rfl,q⟩
def evL{α:Type}:List α->List α
 |[]=>[]
 |[x]=>[x]
 |x::_::r=>x::evL r
theorem aag_{α:Type}:∀(n:Nat)(l:List α),l.length<=n->∀m,(l.length+1) / 2<=m->(List.range m).filterMap (λk=>l[2*k]?)=evL l
 |_,[],_,m,_=>by
  have:(λk:Nat=>([]:List α)[2*k]?)=λ_=>none:=by funext k;rfl
  rw[this]
  induction m with
  |zero=>rfl
  |succ m ih=>rw[B3,CZ,Ao];simpa using ih (by simp)
 |n,[x],_,m,hm=>by
  obtain⟨m',rfl⟩:∃m',m=m'+1:=⟨m-1,by simp at hm;omega⟩
  rw[Ba,Ao]
  show x::_=_
  rw[CM]
  have:((λk:Nat=>[x][2*k]?) ∘ Nat.succ)=λ_=>none:=by
   funext k
   show [x][2*(k+1)]?=none
   rw[show 2*(k+1)=2*k+1+1 by omega]
   rfl
  rw[this,List.filterMap_eq_nil_iff.mpr λ_ _=>rfl]
  rfl
 |0,x::y::r,h,_,_=>by simp at h
 |n+1,x::y::r,h,m,hm=>by
  obtain⟨m',rfl⟩:∃m',m=m'+1:=⟨m-1,by simp at hm;omega⟩
  rw[Ba,Ao]
  show x::_=x::evL r
  rw[CM]
  have:((λk:Nat=>(x::y::r)[2*k]?) ∘ Nat.succ)=λk=>r[2*k]?:=by
   funext k
   show(x::y::r)[2*(k+1)]?=r[2*k]?
   rw[show 2*(k+1)=2*k+1+1 by omega]
   rfl
  rw[this,aag_ n r (by simp at h;omega) m' (by simp at hm;omega)]
theorem aiy_(its:List Value)(b:Bool):slicePick its.toArray (if b then some 1 else none) none (some 2)=(evL (its.drop (if b then 1 else 0))).toArray:=by
 unfold slicePick
 have hb:(sliceBounds (if b then some 1 else none) none (some 2) its.toArray.size)=((((min (if b then 1 else 0) its.length:Nat):Int)),(its.length:Int),2):=by
  cases b
  ·simp [sliceBounds]
  ·simp only[sliceBounds,if_true,DN,AS]
   congr 1
   show(if (2:Int)>0 then max 0 (min (if (1:Int)<0 then 1+(its.length:Int) else 1) its.length) else _)=_
   rw[if_pos (by decide),if_neg (by decide)]
   omega
 rw[hb]
 congr 1
 show((sliceRange ((min (if b then 1 else 0) its.length:Nat):Int) (its.length:Int) 2).filterMap (its.toArray[·]?))=_
 unfold sliceRange
 have hd:=aag_ (its.drop (if b then 1 else 0)).length (its.drop (if b then 1 else 0)) (AB _)
 have he:(its.drop (min (if b then 1 else 0) its.length))=its.drop (if b then 1 else 0):=by
  by_cases c:(if b then 1 else 0)<=its.length
  ·rw[Bw c]
  ·rw[B0 (by omega),DI,BB (by omega)]
 generalize min (if b then 1 else 0) its.length=a at he ⊢
 rw[<-he]at hd ⊢
 rw[CM]
 have fe:((λx:Nat=>its.toArray[x]?) ∘ λk:Nat=>((a:Int)+2*(k:Int)).toNat)=λk=>(its.drop a)[2*k]?:=by
  funext k
  show its.toArray[((a:Int)+2*(k:Int)).toNat]?=_
  rw[List.getElem?_drop,show((a:Int)+2*(k:Int)).toNat=a+2*k by omega,List.getElem?_toArray]
 rw[fe]
 refine hd _ ?_
 rw[Ap]
 simp only[show(2:Int)>0 by decide,if_true]
 split<;>omega
theorem vU_:∀(n:Nat){xs:List V}{us:List Value},xs.length<=n->Vals xs us->Vals (evL xs) (evL us)
 |_,_,_,_,.nil=>.nil
 |_,_,_,_,.cons a .nil=>.cons a .nil
 |0,_,_,h,.cons a (.cons b r)=>by simp at h
 |n+1,_,_,h,.cons a (.cons b r)=>.cons a (vU_ n (by simp at h;omega) r)
theorem ya_{α:Type}:∀(n:Nat)(l:List α),l.length<=n->(evL l).length=(l.length+1) / 2
 |_,[],_=>by simp [evL]
 |_,[x],_=>by simp [evL]
 |0,x::y::r,h=>by simp at h
 |n+1,x::y::r,h=>by
  show(evL r).length+1=_
  rw[ya_ n r (by simp at h;omega),AN,AN]
  omega
def tEv(K:PySem.W.Frag)(b:Bool)(te:TE):TE:=λσ H Q=>te σ H λx H1=>∃(a:Addr)(xs:List V),x=.ref a/\SqL K H1 a xs/\∀p,H1 p=none->Q (.ref p) (upd H1 p (.lst (evL (xs.drop (if b then 1 else 0)))))
theorem acv_{pins:List (Addr×Obj)}{σ:St}{H:Hp}{s:Shared}{Q:VK}{a:Addr}{xs:List V}{sl:Addr}{vl:Value}{t:Tok}(b:Bool)(I:Inv X pins σ H s)(hx:SqL X.K H a xs)(hs:s.heap.IsSliceOf sl vl .none (.int 2 t))(pl:IsPart vl (if b then some 1 else none))(q:∀p,H p=none->Q (.ref p) (upd H p (.lst (evL (xs.drop (if b then 1 else 0)))))) :
  wpAny (model X.prog X.w) X.A (getItem (.ref a) (.ref sl)) (EP X pins σ Q) X.xe s:=by
 obtain⟨its,r,ht,hz⟩:=I.list hx
 have hlen:=r.length
 refine wpAny_getItem_list_slice ht.isList hs pl .none (.int 2 t) (by simp) ?_ (by rw[AS]<;>omega)
 rw[aiy_]
 refine⟨.ref s.heap.objs.size,_,I.laid (t':=s.toks) (o:=.lst (evL (xs.drop (if b then 1 else 0)))) (λb ob q=>AA _ q) (AB _) ?_,rfl,q _ (I.hok.fresh (AB _))⟩
 refine⟨?_,_,0,vU_ _ (AB _) (r.drop _),AE _ rfl⟩
 rw[ya_ _ _ (AB _),Ap]
 omega
theorem ai1_{e:Expr}{te:TE}{j}{p p2 pos:Pos}(he:PE X e te):PE X (.Subscript e (.Slice none none (some (.Constant (.int 2) j p)) p2) pos) (tEv X.K false te):=by
 intro pins s σ H Q I h
 refine Subscript_ (thn (he pins s σ H _ I h) λv s1 ⟨x,H1,I1,r1,q1⟩=>?_)
 obtain⟨a,xs,rfl,hx,q⟩:=q1
 cases r1
 refine wpAny_Slice ?_
 rw[evalPart_none]
 refine wpAny_pure ?_
 refine wpAny_pure ?_
 rw[evalPart_some]
 refine thn ((qe_ (X:=X) (i:=2)) pins s1 σ H1 (λx H'=>x=.int 2/\H'=H1) I1 ⟨rfl,rfl⟩) λu s2 ⟨x,H2,I2,r2,e1,e2⟩=>?_
 subst e1 e2
 obtain⟨t,rfl⟩:=r2
 have I4:Inv X pins σ H2 { s2 with heap:=s2.heap.push { cls:=.type "slice",data:=.fields #[.none,.none,.int 2 t] } }:=I2.kept (t':=s2.toks) λb ob q=>AA _ q
 obtain⟨its,r,ht,hz⟩:=I4.list hx
 exact tail_any (ops:=[.ref a,.ref s2.heap.objs.size]) ht.isList.typeIs slot_list_getitem.lookup (acv_ false I4 hx (C3 ..) .none q) (by with_unfolding_all rfl)
theorem ah6_{e:Expr}{te:TE}{j j' p' }{p p2 pos:Pos}(he:PE X e te):PE X (.Subscript e (.Slice (some (.Constant (.int 1) j' p')) none (some (.Constant (.int 2) j p)) p2) pos) (tEv X.K true te):=by
 intro pins s σ H Q I h
 refine Subscript_ (thn (he pins s σ H _ I h) λv s1 ⟨x,H1,I1,r1,q1⟩=>?_)
 obtain⟨a,xs,rfl,hx,q⟩:=q1
 cases r1
 refine wpAny_Slice ?_
 rw[evalPart_some]
 refine thn ((qe_ (X:=X) (i:=1)) pins s1 σ H1 (λx H'=>x=.int 1/\H'=H1) I1 ⟨rfl,rfl⟩) λu s2 ⟨x,H2,I2,r2,e1,e2⟩=>?_
 subst e1 e2
 obtain⟨t1,rfl⟩:=r2
 rw[evalPart_none]
 refine wpAny_pure ?_
 rw[evalPart_some]
 refine thn ((qe_ (X:=X) (i:=2)) pins s2 σ H2 (λx H'=>x=.int 2/\H'=H2) I2 ⟨rfl,rfl⟩) λu s3 ⟨x,H3,I3,r3,e1,e2⟩=>?_
 subst e1 e2
 obtain⟨t,rfl⟩:=r3
 have I4:Inv X pins σ H3 { s3 with heap:=s3.heap.push { cls:=.type "slice",data:=.fields #[.int 1 t1,.none,.int 2 t] } }:=I3.kept (t':=s3.toks) λb ob q=>AA _ q
 obtain⟨its,r,ht,hz⟩:=I4.list hx
 exact tail_any (ops:=[.ref a,.ref s3.heap.objs.size]) ht.isList.typeIs slot_list_getitem.lookup (acv_ true I4 hx (C3 ..) (.int 1 t1) q) (by with_unfolding_all rfl)
def vq_(x:Str):It:=⟨λi _=>i<x.length,λi H v H'=>H'=H/\∃c,(tx x)[i]?=some c/\v=.str ⟨#[c]⟩,λi _=>x.length<=i⟩
theorem ad8_{P:Program}{w:World}{K:PySem.W.Frag}{tg:Expr}(x:Str)(t:Tok)(it:Addr):Turn P w K tg (vq_ x) [it] it (λi h=>i<=x.length/\h.IsStrIter it "str_ascii_iterator" x t i) where
 mem:=by simp
 obj:=λi h st b hb=>by
  have e:b=it:=by simpa using hb
  subst e
  obtain⟨_,o,e,c,d⟩:=st
  exact⟨o,e,λv z=>by rw[d]at z;cases z⟩
 keep:=λi h h' st k=>let ⟨l,o,e,r⟩:=st;⟨l,o,k it (by simp) o e,r⟩
 item:=by
  intro X hP hw hK hc i pins s σ H E I hf st hg
  subst hP hw hK
  have hg:i<x.length:=hg
  obtain⟨f0,f1,f2,f3,f4,f5⟩:=hf it (by simp)
  have hx:x.cps[i]?=some x.cps[i]:=AC hg
  refine wpAny_pyNext_ascii_item st.2 hx λh' st' sb=>?_
  have I1:Inv X pins σ H { s with heap:=h',toks:=s.toks+1 }:=I.turned (t':=s.toks+1) (λb o hb e=>(sb.2 b hb).trans e) f0 f1 f3 f4 f5
  obtain⟨o,e,c,d⟩:=id st'
  exact⟨_,rfl,yd_ (s:={ s with heap:=h',toks:=s.toks+1 }) e c d (by decide) ⟨.str ⟨#[x.cps[i]]⟩,H,I1,⟨_,rfl⟩,⟨rfl,_,by show x.cps.toList[i]?=_;rw[Aj];exact hx,rfl⟩,⟨hg,st'⟩,λb hb=>(hf b hb).1⟩⟩
 done:=by
  intro X hP hw hK hc i pins s σ H E I hf st hg
  subst hP hw hK
  have hg:x.length<=i:=hg
  obtain⟨f0,f1,f2,f3,f4,f5⟩:=hf it (by simp)
  exact wpAny_pyNext_ascii_end (I.ok.hd hc) st.2 (Bb hg) λh' eb=>⟨rfl,I.turned (t':=s.toks) (λb o hb e=>eb b o hb e) f0 f1 f3 f4 f5⟩
 self:=λ_ _ _ _ _ st h=>wpAny_pyIter_striter_ascii st.2 h
def iTxt(ta:TE):TI:=λσ H R=>ta σ H λv H1=>∃x:Str,v=.str x/\x.cps.all (· < 128)=true/\R (vq_ x) H1
theorem ai4_{tg e:Expr}{te:TE}(he:PE X e te):PI X tg e (iTxt te):=by
 intro pins s σ H R I h
 refine thn (he pins s σ H _ I h) λv s1 ⟨x,H1,I1,r1,q1⟩=>?_
 obtain⟨z,rfl,ha,q⟩:=q1
 obtain⟨t,rfl⟩:=r1
 refine wpAny_pyIter_ascii ha ?_
 refine⟨s1.heap.objs.size,[s1.heap.objs.size],_,_,H1,rfl,I1.kept (t':=s1.toks) λb o e=>AA _ e,ad8_ z t _,⟨AU _,_,AE _ rfl,rfl,rfl⟩,λb hb=>?_,q⟩
 have e:b=s1.heap.objs.size:=by simpa using hb
 subst e
 exact I1.fpOk (AB _) (I1.hok.fresh (AB _))
theorem agb_{x:Str}{g:TG}{tb:TS}{D:Ends}{σ:St}{H:Hp}(Pv:Nat->St->Hp->Prop)(h0:Pv 0 σ H)
  (hs:∀i c σ H,(tx x)[i]?=some c->Pv i σ H->g (.str ⟨#[c]⟩) σ H λσ2 H2=>tb { D with nx:=Pv (i+1),ct:=Pv (i+1),bk:=D.nx } σ2 H2) (hd:∀σ H,Pv x.length σ H->D.nx σ H) :
  ∃W:Nat->Nat->St->Hp->Prop,(∃m,W 0 m σ H)/\∀i m σ H,W i m σ H ->
   ((vq_ x).stop i H/\D.nx σ H)∨((vq_ x).go i H/\∃N:St->Hp->Prop,(∀σ' H',N σ' H'->∃m',m'<m/\W (i+1) m' σ' H')/\∀v H',(vq_ x).yld i H v H'->g v σ H' λσ2 H2=>tb { D with nx:=N,ct:=N,bk:=D.nx } σ2 H2):=by
 refine⟨λi m σ H=>m=x.length-i/\i<=x.length/\Pv i σ H,⟨x.length,by simp,AU _,h0⟩,?_⟩
 rintro i m σ H ⟨rfl,hi,p⟩
 by_cases hlt:i<x.length
 ·refine .inr ⟨hlt,Pv (i+1),λσ' H' p'=>⟨x.length-(i+1),by omega,rfl,hlt,p'⟩,λv H' y=>?_⟩
  obtain⟨e,c,hc,rfl⟩:=y
  subst e
  exact hs i c σ _ hc p
 ·have e:i=x.length:=by omega
  subst e
  exact .inl ⟨AB _,hd σ H p⟩
end
end L2.Ev
namespace L2.Ev
open PySem PySem.Spec PyProof.Rows
open L2.Pl
open Builtin.Str
theorem vE_(x:Str)(lo hi:Option Int)(a b:Nat)(e:strSliceIndices lo hi 1 x.length=(List.range (b-a)).map (λk=>a+k))(ha:a<=b)(hb:b<=x.length):tx (Txt.slice x lo hi)=((tx x).drop a).take (b-a):=by
 have p:=StrLaws.picks x.cps.toList (b-a) a (by rw[AJ];show a+(b-a)<=x.length;omega)
 unfold Txt.slice
 rw[e,AF,List.length_range]
 by_cases c:b-a=x.length
 ·rw[if_pos (by simp [c])]
  have e0:a=0:=by omega
  subst e0
  rw[Bp,AW]
  rw[qA_]
  omega
 ·rw[if_neg (by simp [c])]
  show((((List.range (b-a)).map λk=>a+k).filterMap (x.cps[·]?)).toArray).toList=_
  rw[D8]
  refine Eq.trans ?_ p
  congr 1
  funext i
  rw[Aj]
theorem yW_(i n:Nat):(max 0 (min (if (i:Int)<0 then (i:Int)+(n:Int) else (i:Int)) (n:Int)))=((min i n:Nat):Int):=by
 rw[if_neg (by omega)]
 omega
def aa6_(lo:Option Int)(n:Nat):Int:=match lo with
 |none=>0
 |some i=>max 0 (min (if i<0 then i+(n:Int) else i) (n:Int))
def aan_(hi:Option Int)(n:Nat):Int:=match hi with
 |none=>n
 |some i=>max 0 (min (if i<0 then i+(n:Int) else i) (n:Int))
theorem y5_(lo hi:Option Int)(a b n:Nat)(h1:aa6_ lo n=(a:Int))(h2:aan_ hi n=(b:Int)):strSliceIndices lo hi 1 n=(List.range (b-a)).map (λk=>a+k):=by
 have e:strSliceIndices lo hi 1 n=sliceRange (aa6_ lo n) (aan_ hi n) 1:=by
  cases lo<;>cases hi<;>first|rfl|simp [strSliceIndices,aa6_,aan_]
 rw[e,h1,h2]
 exact sliceRange_one a b
theorem jN_(x:Str)(n:Nat):tx (Txt.slice x none (some (n:Int)))=(tx x).take n:=by
 rw[vE_ x none (some (n:Int)) 0 (min n x.length) (y5_ _ _ _ _ _ rfl (yW_ n x.length)) (AU _) (DQ _ _),Bp,EC,<-qA_ x,<-List.take_take,List.take_length]
theorem jw_(x:Str)(n:Nat):tx (Txt.slice x (some (n:Int)) none)=(tx x).drop n:=by
 rw[vE_ x (some (n:Int)) none (min n x.length) x.length (y5_ _ _ _ _ _ (yW_ n x.length) rfl) (DQ _ _) (AB _),AW (by rw[Ap,qA_];exact AB _)]
 by_cases c:n<=x.length
 ·rw[Bw c]
 ·rw[B0 (by omega),BB (by rw[qA_];omega),BB (by rw[qA_];omega)]
theorem acw_(x:Str)(a b:Nat)(h:a<=b):tx (Txt.slice x (some (a:Int)) (some (b:Int)))=((tx x).drop a).take (b-a):=by
 rw[vE_ x (some (a:Int)) (some (b:Int)) (min a x.length) (min b x.length) (y5_ _ _ _ _ _ (yW_ a x.length) (yW_ b x.length)) (by omega) (DQ _ _)]
 by_cases c:a<=x.length
 ·rw[Bw c]
  by_cases d:b<=x.length
  ·rw[Bw d]
  ·rw[B0 (by omega),AW (by rw[Ap,qA_];omega),AW (by rw[Ap,qA_];omega)]
 ·rw[B0 (show x.length<=a by omega),BB (by rw[qA_];omega),BB (show(tx x).length<=a by rw[qA_];omega),List.take_nil,List.take_nil]
theorem xF_{a b:Str}{c:Nat}(hb:tx b=[c]):Txt.startswith a b=decide ((tx a).head?=some c):=by
 unfold Txt.startswith
 rw[StrLaws.subAt_eq]
 have lb:b.length=1:=by rw[<-qA_,hb];rfl
 show(decide (0+b.length<=a.length)&&(((tx a).drop 0).take b.length==tx b))=_
 rw[lb,hb,Bp,<-qA_ a]
 cases tx a with
 |nil=>rfl
 |cons x l =>
  rw[D6,Cs,List.head?_cons,decide_eq_true (by simp),Bool.true_and,Bi,decide_eq_true_eq]
  simp
theorem ack_(a b:Str):tx (Txt.lstripChars a b)=(tx a).dropWhile λc=>b.cps.contains c:=by
 show tx (Txt.stripBy b.cps.contains true false a)=_
 rw[stripBy_eq]
 show(strSub a (stripLo b.cps.contains true a) (stripHi b.cps.contains false a (stripLo b.cps.contains true a))).cps.toList=_
 rw[StrLaws.strSub_toList]
 show((tx a).drop ((tx a).takeWhile b.cps.contains).length).take (a.length-((tx a).takeWhile b.cps.contains).length)=_
 rw[AW (by rw[Ap,qA_];exact AB _)]
 generalize tx a=l
 induction l with
 |nil=>rfl
 |cons x l ih =>
  rw[CG,D9]
  by_cases c:b.cps.contains x=true
  ·rw[if_pos c,if_pos c,AN,List.drop_succ_cons]
   exact ih
  ·rw[if_neg c,if_neg c]
   rfl
theorem vh_(c:Nat):∀(u v:List (List Nat)),u≠[]->v≠[]->(∀w∈u,c∉w)->(∀w∈v,c∉w)->ze_ [c] u=ze_ [c] v->u=v:=by
 have key:∀(x y a b:List Nat),c∉x->c∉y->x++c::a=y++c::b->x=y/\a=b:=by
  intro x
  induction x with
  |nil =>
   intro y a b _ hy e
   cases y with
   |nil=>exact⟨rfl,by injection e⟩
   |cons y1 y =>
    injection e with e1 _
    exact absurd (by rw[e1];exact AH ..) hy
  |cons x1 x ih =>
   intro y a b hx hy e
   cases y with
   |nil =>
    injection e with e1 _
    exact absurd (by rw[<-e1];exact AH ..) hx
   |cons y1 y =>
    injection e with e1 e2
    obtain⟨h1,h2⟩:=ih y a b (λz=>hx (AD _ z)) (λz=>hy (AD _ z)) e2
    exact⟨by rw[e1,h1],h2⟩
 intro u
 induction u with
 |nil=>intro v h;exact absurd rfl h
 |cons x u ih =>
  intro v _ hv fu fv e
  cases v with
  |nil=>exact absurd rfl hv
  |cons y v =>
   have fx:=fu x (AH ..)
   have fy:=fv y (AH ..)
   cases u with
   |nil =>
    cases v with
    |nil=>have e:x=y:=e;rw[e]
    |cons y2 v =>
     have e:x=y++[c]++ze_ [c] (y2::v):=e
     exact absurd (by rw[e];simp) fx
   |cons x2 u =>
    cases v with
    |nil =>
     have e:x++[c]++ze_ [c] (x2::u)=y:=e
     exact absurd (by rw[<-e];simp) fy
    |cons y2 v =>
     have e:x++[c]++ze_ [c] (x2::u)=y++[c]++ze_ [c] (y2::v):=e
     rw[AR,AR]at e
     obtain⟨h1,h2⟩:=key x y _ _ fx fy e
     rw[h1,ih (y2::v) (by simp) (by simp) (λw hw=>fu w (AD _ hw)) (λw hw=>fv w (AD _ hw)) h2]
theorem xR_{x b:Str}{c:Nat}(hb:tx b=[c]):ze_ [c] ((Txt.split x b).map tx)=tx x/\(Txt.split x b).map tx≠[]/\∀w∈(Txt.split x b).map tx,c∉w:=by
 have eb:b=⟨#[c]⟩:=zR_ hb
 refine⟨?_,?_,λw hw=>?_⟩
 ·rw[<-hb,<-aga_]
  show tx (glued b (Txt.split x b))=_
  rw[Ds,StrLaws.join_split]
 ·intro z
  have:=split_pos x b
  rw[List.map_eq_nil_iff.mp z]at this
  exact absurd this (by decide)
 ·obtain⟨p,hp,rfl⟩:=Az.mp hw
  rw[eb]at hp
  exact StrLaws.split_free x c p hp
def dg(m:Nat):List Nat:=(Nat.toDigits 10 m).map Char.toNat
theorem ah4_(m:Nat):tx (Str.ofString (toString (m:Int)))=dg m:=PySem.W.KIN.signs_num m
theorem y1_{m:Nat}(h:m<10):dg m=[48+m]:=by
 unfold dg
 rw[Nat.toDigits_of_lt_base h]
 have:∀d:Nat,d<10->[Nat.digitChar d].map Char.toNat=[48+d]:=by decide
 exact this m h
theorem vr_{z:Str}(h:NumText.AllDigits (tx z))(h1:tx z≠[])(h2:z.length<=640):intText? z=some ((NumText.digitsVal (tx z):Nat):Int):=PySem.intText_digits h h1 (by omega)
end L2.Ev
namespace L2.Ev
open PySem PySem.Spec PyProof.Rows
open L2.Pl
structure ZTs(zx:Str)(zt:Tok)(z TI TO i1 i2 l2:Addr)(i:Nat)(h:Heap):Prop where
 hz:IsZip h z TI TO .none
 hTI:IsPair h TI (.ref i1) (.ref i2)
 hTO:∃a b,IsPair h TO a b
 h1:h.IsStrIter i1 "str_ascii_iterator" zx zt i
 h2:SK.tup.iter h i2 l2 i
end L2.Ev
set_option maxHeartbeats 4000000
namespace L2.Ev
open PySem PySem.Spec PyProof.Rows
open L2.Pl
section
variable{M:Model}{A:Around}{E:Value->Shared->Prop}{s:Shared}
theorem vN_{base:Heap}{env:Env}{outer:List Env}{L e:Addr}{cls a0 fl:Value}{od:Option Addr}{Q:Unit->Shared->Prop}
  (hfr:A.frames=some (env::outer)) (hf:env.frame=some L) (f1:base.StaysIn s.heap) (f2:base.get? e=none) (f3:s.heap.FunFrames base (env::outer)) (ht:s.heap.TracedAtW base e cls a0 fl) (hd0:jR_ s.heap e od)
  (hQ:∀h',jv_ base outer e cls a0 od h'->s.heap.UpToSlots h'->Q () { s with heap:=h' }):wpAny M A (leaving env (.ref e)) Q E s:=by
 obtain⟨oe,vs,T,oT,ts,he,⟨hcls,h0⟩,hd,h1,hnT,hTe,hT,hdT,h3⟩:=id ht
 obtain⟨od',hod,hdd⟩:=id hd0
 rw[he]at hod
 cases hod
 unfold leaving
 refine wpAny_bind ?_
 unfold noteFrame
 simp only[hf]
 refine wpAny_bind (wpAny_field he hd h1 ?_)
 rw[if_pos (show(Value.ref T != Value.none)=true from by simp)]
 refine wpAny_bind (wpAny_field hT hdT h3 ?_)
 by_cases hfl:(fl==rawInt L)=true
 ·rw[if_pos hfl]
  refine wpAny_pure (xJ_ f1 f2 f3 ht hd0 λh2 ⟨⟨x1,x2,⟨_,_,x3⟩,x4⟩,xd⟩ sm2=>?_)
  exact hQ h2 ⟨⟨x1,x2,x3,x4⟩,xd⟩ sm2
 ·rw[if_neg hfl]
  subst hcls hdd
  refine wpAny_bind (wpAny_setField hT hdT (Ae.mp h3).1 ?_)
  have oth:∀b,b≠T->(s.heap.update T (Obj.mapFields (·.setIfInBounds 3 Value.none))).get? b=s.heap.get? b:=λb hb=>Ah _ _ (BP hb)
  have nrec:∀b o,s.heap.get? b=some o->(∀vs,o.data≠.fields vs)->b≠T:=λb o hb hnf q=>by
   rw[q,hT]at hb;cases hb;exact hnf ts hdT
  refine vC_ hfr (f3.of_keeps λb o hb hnf=>⟨o,(oth b (nrec b o hb hnf)).trans hb,rfl⟩) hf ((oth e (BP hTe)).trans he)
   (λb o z=>(oth b λq=>by rw[q,hnT]at z;cases z).trans (f1 b o z)) f2 hd (Ae.mp h1).1 h0 λh' ⟨x1,x2,x3,x4⟩ xd=>?_
  refine xJ_ (s:={ s with heap:=h' }) x1 f2 x2 x3 xd λh2 ⟨⟨y1,y2,⟨_,_,y3⟩,y4⟩,yd⟩ sm2=>?_
  exact hQ h2 ⟨⟨y1,y2,y3,y4⟩,yd⟩ (Heap.UpToSlots.trans (λb o hb hnf=>x4 b o ((oth b (nrec b o hb hnf)).trans hb) hnf) sm2)
theorem jK_{h h' B B':Heap}(kB:∀b,B.get? b=none->B'.get? b=none):∀{l:List Env},h.FunFrames B l->(∀b∈frs l,∀o,h.get? b=some o->(∀vs,o.data≠.fields vs)->∃sl,h'.get? b=some { o with slots:=sl })->h'.FunFrames B' l
 |[],_,_=>trivial
 |env::r,⟨hk,⟨L,o,hf,hn,ho,hd⟩,hr⟩,kk=>by
  have hL:frs (env::r)=L::frs r:=by unfold frs;rw[Ao,hf]
  obtain⟨sl,q⟩:=kk L (by rw[hL];exact AH) o ho hd
  exact⟨hk,⟨L,_,hf,kB L hn,q,hd⟩,jK_ kB hr λb hb=>kk b (by rw[hL];exact AD _ hb)⟩
end
def Lv(X:Cx)(E:XK):Prop:=∀(pins:List (Addr×Obj))(σ:St)(H H':Hp)(s s':Shared)(a:Addr)(cls a0 fl:Value)(od:Option Addr)(B:Heap),Inv X pins σ H s ->
 s'.os=s.os->AllBare s'.gens->Un (frs X.stack) [] H H' s.heap s'.heap->HOk X.prog X.w H' s'.heap->Bs X.stack H s.heap H' B->B.StaysIn s'.heap->B.get? a=none->s'.heap.FunFrames B X.stack->s'.heap.TracedAtW B a cls a0 fl->jR_ s'.heap a od->E cls od H'->X.xe (.ref a) s'
theorem lv1{P:Program}{w:World}{K:PySem.W.Frag}{mg:Str->Option Value}{base:Heap}{N:List Str}{qual:Str}{scope:Scope}{f:Addr}{cdv:Value}{A:Around}{outer:List Env}{s0:Shared}{H0:Hp}{E:XK} :
  Lv (q8_ (CX1 P w) P w K mg base N qual scope f cdv A outer s0 H0 E) E:=by
 intro pins σ H H' s s' a cls a0 fl od B I os bare un hok bs st ha ff tr hd hE
 show wpAny _ _ (leaving _ (.ref a)) _ _ s'
 refine vN_ (outer:=outer) I.ok.frames rfl st ha ff tr hd λh' fl' sm=>?_
 have I':=jW_ I os bare un hok bs st fl'.1.1 sm
 exact⟨a,cls,a0,od,H',rfl,yl_ I I' bs fl',hE⟩
def XEb(X:Cx)(N':List Str)(scope:Scope)(b:Bk)(E:XK):Value->Shared->Prop:=λe s'=>∃pins σ H s,Inv (blk X N' scope b) pins σ H s/\CX1 X.prog X.w X.stack H s E e s'
abbrev blkx(X:Cx)(N':List Str)(scope:Scope)(b:Bk)(E:XK):Cx:=(blk X N' scope b).wish (XEb X N' scope b E)
theorem akn_{X:Cx}{N':List Str}{scope:Scope}{b:Bk}{E:XK}:xj_ (CX1 X.prog X.w) (blkx X N' scope b E) E:=λpins σ H s _ _ I h=>⟨pins,σ,H,s,I.unwish,h⟩
section
variable{prog:Program}{w:World}{A:Around}{R:Result->Shared->Prop}{s:Shared}
theorem yO_{elt target iter:Expr}{ifs:List Expr}{scope:Scope}{pos:Pos}{it acc:Value}{env:Env}(I:Nat->Shared->Prop)
  (turn:∀n s,I n s->wpAny (model prog w) A (pyNext it) (λr s₁=>match r with
   |none=>R (.ok .next) s₁
   |some v=>wpAny (model prog w) A (letOwnedTupleGo target it v) (λ_ s₁'=>wpAny (model prog w) A (assign target env v) (λ_ s₂ =>
     wpAny (model prog w) A (forIn ifs true λc r=>if r=true then do let ok <-isTrue c env (eval c env);pure (ForInStep.yield ok) else pure (ForInStep.yield r)) (λok s₃ =>
      if ok=true then wpAny (model prog w) A (eval elt env) (λx s₄ =>
       wpAny (model prog w) A (call (.builtin "list.append") [acc,x]) (λ_ s₅=>∃m,m<n/\I m s₅) (λ_ _=>False) s₄) (notedBy (model prog w) A env λx s'=>R (.error x) s') s₃
      else ∃m,m<n/\I m s₃) (λ_ _=>False) s₂) (λ_ _=>False) s₁') (λ_ _=>False) s₁) (λ_ _=>False) s)
  (n:Nat) (h:I n s) :
  codeAny (model prog w) A (.compLoop (.ListComp elt [⟨target,iter,ifs,0⟩] scope pos) 0 it acc env) R s:=by
 refine codeAny_loop rfl I (λn s hI=>?_) n h
 show wpAny _ A ((compTurn (.ListComp elt [⟨target,iter,ifs,0⟩] scope pos) 0 it acc env).onRaise (λx=>do noteFrame x env;theTreesLotGoes x)) _ _ s
 refine wpAny_noted ?_
 rw[compTurn_list]
 refine wpAny_bind (wpAny_standAt (wpAny_bind (wpAny_mono (turn n s hI) (λr s₁ h₁=>?_) λ_ _ h'=>h'.elim)))
 cases r with
 |none=>exact wpAny_pure h₁
 |some v =>
  refine wpAny_bind (wpAny_mono h₁ (λ_ s₁' h₁'=>?_) λ_ _ h'=>h'.elim)
  refine wpAny_bind (wpAny_mono h₁' (λ_ s₂ h₂=>wpAny_bind (wpAny_mono h₂ (λok s₃ h₃=>?_) λ_ _ h'=>h'.elim)) λ_ _ h'=>h'.elim)
  cases ok with
  |false=>exact wpAny_pure ⟨rfl,h₃⟩
  |true =>
   exact wpAny_bind (wpAny_bind (wpAny_mono h₃ (λx s₄ h₄=>wpAny_bind (wpAny_mono h₄ (λ_ s₅ h₅=>wpAny_pure (wpAny_pure ⟨rfl,h₅⟩)) λ_ _ h'=>h'.elim)) λ_ _ h'=>h'))
end
theorem abe_{X:Cx}{E:XK}{L:Addr}(hL:Lv X E)(hst:X.stack=X.env::X.outer)(hfm:X.env.frame=some L){pins:List (Addr×Obj)}{σ:St}{N':List Str}{scope:Scope}{b:Bk}
  (back:∀(pn':List (Addr×Obj))(σ6:St)(H6:Hp)(s6:Shared),Inv (blk X N' scope b) pn' σ6 H6 s6->∀h',Heap.SameBut b.C s6.heap h'->Inv X pins σ H6 { s6 with heap:=h' })
  {use:Option (Value->Sem Unit)} {R:Value->Shared->Prop} {acc x:Value} {s':Shared} (h:XEb X N' scope b E x s') :
  notedBy (model X.prog X.w) X.A (blk X N' scope b).env (λx s'=>compPost (model X.prog X.w) X.A X.xe use R acc b.C (.error x) s') x s':=by
 obtain⟨pn',σ6,H,s,Ib,a,cls,a0,od,H',rfl,F,hE⟩:=h
 obtain⟨os,bare,un,hok,B,bs,fl⟩:=F
 have IX:=back pn' σ6 H s Ib (s.heap.hide b.C) ⟨Heap.hide_size _ _,λc hc=>DR _ hc⟩
 have hC0:H b.C=none:=Ib.free
 have nCf:b.C∉frs X.stack:=λz=>by
  obtain⟨_,o,ho,_⟩:=Ib.ok.funs.mem z
  exact absurd (AO (AG ho) Ib.ok.above) (BJ _)
 obtain⟨m,hnC,_⟩:=Ib.loc
 obtain⟨oC,es,ep,hoC,hdC,rC⟩:=id hnC
 have hC':s'.heap.get? b.C=some oC:=un.keep _ _ hoC hC0 nCf (by simp)
 have hn':s'.heap.Ns b.C m:=⟨oC,es,ep,hC',hdC,rC⟩
 have hC1:H' b.C=none:=un.free _ _ hoC hC0 (by simp)
 show wpAny _ X.A (noteFrame (.ref a) (blk X N' scope b).env) _ _ s'
 have fr:X.A.frames=some (X.env::X.outer):=by rw[<-hst];exact IX.ok.frames
 have fl2:jv_ B (X.env::X.outer) a cls a0 od s'.heap:=by rw[<-hst];exact fl
 have ee:noteFrame (.ref a) (blk X N' scope b).env=noteFrame (.ref a) X.env:=rfl
 rw[ee]
 refine aba_ (outer:=X.outer) (L:=L) fr hfm fl2 λh1 hd dd sm=>?_
 obtain⟨f1,f2,f3,oe,vs,T,oT,ts,he,hcl,hdv,hv1,hnT,hTe,hT,hdT,hts⟩:=hd
 have hn1:=sm.ns hn'
 obtain⟨o1,es1,ep1,ho1,hd1,_⟩:=id hn1
 have aC:a≠b.C:=λz=>by rw[z,ho1]at he;cases he;rw[hd1]at hdv;cases hdv
 have TC:T≠b.C:=λz=>by rw[z,ho1]at hT;cases hT;rw[hd1]at hdT;cases hdT
 refine⟨m,hn1,λh2 sb cenv _=>?_⟩
 have he2:h2.get? a=some oe:=(sb.2 a aC).trans he
 have hT2:h2.get? T=some oT:=(sb.2 T TC).trans hT
 unfold PySem.passOn
 refine wpAny_bind (wpAny_field he2 hdv hv1 ?_)
 rw[if_neg (show ¬ ((Value.ref T==Value.none)=true) from by simp)]
 refine wpAny_bind ?_
 unfold setFlight
 refine wpAny_bind (wpAny_field he2 hdv hv1 ?_)
 rw[if_pos (show(Value.ref T != Value.none)=true from by simp)]
 refine wpAny_setField hT2 hdT (Ae.mp hts).1 (wpAny_throw ?_)
 have z3:3<ts.size:=(Ae.mp hts).1
 generalize (cenv.frame.elim Value.none λf=>rawInt f)=fv
 have dT:=Bg hdT (·.setIfInBounds 3 fv)
 have oth:∀c,c≠T->(h2.update T (Obj.mapFields (·.setIfInBounds 3 fv))).get? c=h2.get? c:=λc hc=>Ah _ _ (BP hc)
 have hTn:(h2.update T (Obj.mapFields (·.setIfInBounds 3 fv))).get? T=some (Obj.mapFields (·.setIfInBounds 3 fv) oT):=Be _ hT2 (Bv dT)
 generalize h2.update T (Obj.mapFields (·.setIfInBounds 3 fv))=h3 at oth hTn ⊢
 have nB:∀c,B.get? c=none->(B.hide b.C).get? c=none:=λc hc=>by
  cases q:(B.hide b.C).get? c with
  |none=>rfl
  |some o=>have:=Co q;rw[hc]at this;cases this
 have st3:(B.hide b.C).StaysIn h3:=λc o q=>by
  have hcC:c≠b.C:=λz=>by rw[z,Dt]at q;cases q
  have q':=Co q
  have hcT:c≠T:=λz=>by rw[z,hnT]at q';cases q'
  exact((oth c hcT).trans (sb.2 c hcC)).trans (f1 c o q')
 have slot1:∀c o,h1.get? c=some o->(∀vs,o.data≠.fields vs)->c≠b.C->h3.get? c=some o:=λc o q hnf hcC=>by
  have hcT:c≠T:=λz=>by rw[z,hT]at q;cases q;exact hnf ts hdT
  exact((oth c hcT).trans (sb.2 c hcC)).trans q
 have bs':Bs X.stack H (s.heap.hide b.C) H' (B.hide b.C):=by
  refine⟨λc o q hc=>?_,λc u q=>?_⟩
  ·have hcC:c≠b.C:=λz=>by rw[z,Dt]at q;cases q
   obtain⟨o',q1,q2⟩:=bs.old c o (Co q) hc
   exact⟨o',(DR _ hcC).trans q1,q2⟩
  ·have hcC:c≠b.C:=λz=>by rw[z,hC1]at q;cases q
   obtain⟨o',q1⟩:=bs.trk c u q
   exact⟨o',(DR _ hcC).trans q1⟩
 have stk:∀c o,(s.heap.hide b.C).get? c=some o->c∈frs X.stack->∃sl,h3.get? c=some { o with slots:=sl }:=λc o q hc=>by
  have hcC:c≠b.C:=λz=>by rw[z,Dt]at q;cases q
  obtain⟨_,o',q',d⟩:=IX.stack.mem hc
  have q0:(s.heap.hide b.C).get? c=some o':=q'
  rw[q]at q0;cases q0
  obtain⟨sl,e1⟩:=un.slot c o (Co q) (Ib.stkFree c hc) hc (by simp)
  obtain⟨sl2,e2⟩:=sm c _ e1 d
  exact⟨sl2,slot1 c _ e2 d hcC⟩
 have old3:∀c o,(s.heap.hide b.C).get? c=some o->c∉frs X.stack->∃o',h3.get? c=some o'/\(H c=none->o'=o):=λc o q hc=>by
  obtain⟨o',e1,e2⟩:=bs'.old c o q hc
  exact⟨o',st3 _ _ e1,e2⟩
 have un3:Un (frs X.stack) [] H H' (s.heap.hide b.C) h3:=by
  refine⟨λc o q n hc _=>?_,λc o q n hc _=>stk c o q hc,λc o q n hx=>un.free c o (Co q) n hx,λc o q _=>?_,un.tups,un.frzs,un.tbls⟩
  ·obtain⟨o',e1,e2⟩:=old3 c o q hc
   rw[e2 n]at e1
   exact e1
  ·by_cases hc:c∈frs X.stack
   ·obtain⟨sl,e1⟩:=stk c o q hc
    exact⟨_,e1⟩
   ·obtain⟨o',e1,_⟩:=old3 c o q hc
    exact⟨o',e1⟩
 have hok3:HOk X.prog X.w H' h3:=λc u e=>by
  have key:∀d v u',H' d=some u'->s'.heap.get? d=some v->h3.get? d=some v:=λd v u' hd' q=>by
   obtain⟨o,e1⟩:=bs.trk d u' hd'
   have:=fl2.1.1 _ _ e1
   rw[q]at this
   cases this
   have hdC':d≠b.C:=λz=>by rw[z,hC1]at hd';cases hd'
   exact st3 _ _ ((DR _ hdC').trans e1)
  refine(hok c u e).stay (λd v hd' q=>?_) (λ_ q=>q) λ_ _ q=>q
  rcases hd' with z|z
  ·subst z;exact key d v u e q
  ·exact key d v _ z q
 have ff3:h3.FunFrames (B.hide b.C) X.stack:=by
  rw[hst]
  refine jK_ nB f3 λc hc o q hnf=>⟨o.slots,slot1 c o q hnf λz=>?_⟩
  rw[<-hst]at hc
  exact nCf (z▸hc)
 have he3:h3.get? a=some oe:=(oth a (BP hTe)).trans he2
 obtain⟨ob,hob,hod⟩:=dd
 rw[he]at hob
 cases hob
 exact hL pins σ H H' _ { s' with heap:=h3 } a cls a0 fv od (B.hide b.C) IX os bare un3 hok3 bs' st3 (nB a f2) ff3 ⟨oe,vs,T,_,_,he3,hcl,hdv,hv1,nB T hnT,hTe,hTn,dT,by simp [z3]⟩ ⟨oe,he3,hod⟩ hE
theorem abl_{X:Cx}{E:XK}{L:Addr}{elt tg iter:Expr}{ifs:List Expr}{scope:Scope}{pos pos':Pos}{N':List Str}{src:List (Option Nat)}{wi:TI}{g:Bk->TG}{tc:Bk->TT}{te:Bk->TE}(hL:Lv X E)(hst:X.stack=X.env::X.outer)(hfm:X.env.frame=some L)(hc:X.calm=true)(hi:PI X tg iter wi)(S:BkScope X N' src scope)
  (hg:∀b,PG (blk X N' scope b) tg (g b)) (ht:∀b,PTs (blk X N' scope b) ifs (tc b)) (he:∀b,PE (blkx X N' scope b E) elt (te b)) (hs:∀x,foldedSetIterable iter X.env x=pure x) (use:Option (Value->Sem Unit)) (R:Value->Shared->Prop)
  {pins:List (Addr×Obj)} {s:Shared} {σ:St} {H:Hp} {Q:V->Hp->Prop} (I:Inv X pins σ H s) (h:yZ_ src wi g tc te σ H Q)
  (fin:∀(D C:Addr)(H5:Hp)(s6:Shared)(m:Str->Option Value),s6.heap.Ns C m->zQ_ X pins H5 C->(∀h',Heap.SameBut C s6.heap h'->Inv X pins σ H5 { s6 with heap:=h' })->Q (.ref D) H5->compPost (model X.prog X.w) X.A X.xe use R (.ref D) C (.ok .next) s6) :
  wpAny (model X.prog X.w) X.A (comprehension (.ListComp elt [⟨tg,iter,ifs,0⟩] scope pos) scope X.env pos' (newList []) false (eval iter X.env) use) R X.xe s:=by
 have hfr:∀x∈scope.names,x.2=.free->∃c,X.env.cells.lookup x.1=some c:=λx hx hf=>I.ok.has x.1 (S.frees x hx hf)
 have clS:∀x c,(zp_ X.env.cells scope.names []).lookup x=some c->X.env.cells.lookup x=some c:=jf_ hfr (λx c e=>by simp at e)
 refine wpAny_comprehension_free (use:=use) rfl hs (xd_ scope.names hfr []) S.kind S.names ?_
 refine thn (hi pins s σ H _ I h) λv s1 h1=>thn h1 λitv s2 h2=>?_
 obtain⟨it,fp,tn,J,H2,rfl,I2,T,st2,f2,h3⟩:=h2
 have hD:H2 s2.heap.objs.size=none:=I2.fresh
 refine wpAny_newObj_type ?_
 have I3:Inv X pins σ (upd H2 s2.heap.objs.size (.lst [])) { s2 with heap:=s2.heap.push { cls:=.type "list",data:=.seq ([]:List Value).toArray } } :=
  I2.laid (t':=s2.toks) (λb u e=>AA _ e) (AB _) ⟨AU _,[],0,.nil,AE _ rfl⟩
 have hfp:∀b∈fp,b<s2.heap.objs.size:=λb hb=>by
  obtain⟨o,e,_⟩:=T.obj _ _ st2 b hb
  exact AG e
 have st3:tn 0 (s2.heap.push { cls:=.type "list",data:=.seq ([]:List Value).toArray }):=T.keep _ _ _ st2 λb _ o e=>AA _ e
 generalize hs3:({ s2 with heap:=s2.heap.push { cls:=.type "list",data:=.seq ([]:List Value).toArray } }:Shared)=s3 at I3 ⊢
 have st3':tn 0 s3.heap:=by rw[<-hs3];exact st3
 have hsz3:s3.heap.objs.size=s2.heap.objs.size+1:=by rw[<-hs3];exact BM ..
 have fp3:∀b∈fp,(upd H2 s2.heap.objs.size (.lst [])) b=none:=λb hb=>by rw[ql_ (AT (hfp b hb))];exact(f2 b hb).1
 generalize hDe:s2.heap.objs.size=D at *
 generalize hH3:upd H2 D (.lst [])=H3 at *
 refine wpAny_newFunctionEnv S.nocell (by intro y hy;simp at hy) (λh₁ hns₁ hsb₁=>?_) S.kind
 have old:∀b o,s3.heap.get? b=some o->h₁.get? b=some o:=λb o e=>hsb₁.extBut b o (AT (AG e)) (AA _ e)
 have Yok:(blk X N' scope ⟨s3.heap.objs.size,s3,H3,fp⟩).Ok:=by
  refine⟨I.ok.mod,S.kind,I.ok.glob,I.ok.blt,AB _,λx y c e1 e2=>I.ok.inj x y c (clS x c e1) (clS y c e2),λx hx=>?_,λx c z=>(by cases z),I.ok.hd,I.ok.frames,.inl rfl,λb hb=>⟨?_,λx c e=>(f2 b hb).2.2.2.2.1 x c (clS x c e)⟩,I3.bs,?_,λb o e hb=>?_,λb hb z=>?_,I3.stack,I3.stkFree⟩
  ·have hx':(x,NameKind.free)∈scope.names:=by
    rcases hx with hx|hx
    ·exact qT_ (env:=X.env) S.nocell (.inl rfl) hx
    ·exact qT_ (env:=X.env) S.nocell (.inr rfl) hx
   exact zI_ (.inr hx')
  ·exact AT (AO (hfp b hb) (by rw[hsz3];exact Cv _))
  ·exact AZ I.ok.bsz I3.sz
  ·rcases (f2 b hb).2.2.2.1 with z|z
   ·exact I.ok.noex b o e z
   ·exact absurd (AO (AG e) (AZ I.ok.bsz z)) (BJ _)
  ·rcases AI.mp (I3.stkSub b z) with e|e
   ·exact(f2 b hb).2.1 e
   ·exact(f2 b hb).2.2.1 e
 generalize hY:blk X N' scope ⟨s3.heap.objs.size,s3,H3,fp⟩=Y at Yok
 have I4:Inv (blk X N' scope ⟨s3.heap.objs.size,s3,H3,fp⟩) [] (je_ src σ) H3 { s3 with heap:=h₁,toks:=s3.toks+([]:List (Str×Value)).length }:=by
  subst hY
  refine⟨Yok,rfl,I3.bare,Un.kept old,⟨_,hns₁,λi x v e1 e2 e3=>?_⟩,λx c e=>?_,I3.fresh,λx c e=>I3.freeC x c (clS x c e),λp hp=>by simp at hp,I3.hok.kept old,?_⟩
  ·unfold je_ at e2
   rw[Ac]at e2
   cases hsrc:src[i]? with
   |none=>rw[hsrc]at e2;cases e2
   |some o =>
    rw[hsrc]at e2
    cases o with
    |none=>have e2':some (none:Option V)=some (some v):=e2;cases e2'
    |some j =>
     have e2':some ((σ[j]?).bind id)=some (some v):=e2
     have e2'':(σ[j]?).bind id=some v:=AX e2'
     have hσ:σ[j]?=some (some v):=by
      cases q:σ[j]? with
      |none=>rw[q]at e2'';cases e2''
      |some z =>
       rw[q]at e2''
       have:z=some v:=e2''
       rw[this]
     obtain⟨x',n1,n2,n3⟩:=S.out i j hsrc
     have ex:x'=x:=AX (n1.symm.trans e1)
     subst ex
     obtain⟨m0,_,hl⟩:=I3.loc
     have hk:=S.frees (x',.free) (mem_of_lookup n3) rfl
     have hvis:Vis X.env.scope x':=hk.elim (λz=>.inr (.inl z)) λz=>.inr (.inr z)
     obtain⟨u,r,l⟩:=hl j x' v n2 hσ hvis
     refine⟨u,r,.inr ?_⟩
     rcases l with⟨l1,_⟩|⟨_,c,l2,o,l3,l4⟩
     ·rcases hk with z|z
      ·rw[show X.env.kindOf x'=some .local from l1]at z;cases z
      ·rw[show X.env.kindOf x'=some .local from l1]at z;cases z
     ·obtain⟨c',hc'⟩:=zI_ (cells:=X.env.cells) (names:=scope.names) (acc:=[]) (.inr (mem_of_lookup n3))
      have e4:=clS x' c' hc'
      rw[l2]at e4
      cases e4
      exact⟨js_ (env:=X.env) n3,c,hc',o,old _ _ l3,l4⟩
  ·obtain⟨v,o,ho,hd⟩:=I3.cell x c (clS x c e)
   exact⟨v,o,old _ _ ho,hd⟩
  ·show(je_ src σ).length=N'.length
   unfold je_
   rw[AF]
   exact S.len
 have back:∀(pn':List (Addr×Obj))(σ6:St)(H6:Hp)(s6:Shared),Inv (blk X N' scope ⟨s3.heap.objs.size,s3,H3,fp⟩) pn' σ6 H6 s6->∀h',Heap.SameBut s3.heap.objs.size s6.heap h'->Inv X pins σ H6 { s6 with heap:=h' }:=by
  intro pn' σ6 H5 s6 I6 h' sb
  have hC:H5 s3.heap.objs.size=none:=I6.free
  have nC:∀b o,s3.heap.get? b=some o->b≠s3.heap.objs.size:=λb o e=>AT (AG e)
  have keep:∀b o,b≠s3.heap.objs.size->s6.heap.get? b=some o->h'.get? b=some o:=λb o hb e=>(sb.2 b hb).trans e
  have hok:HOk X.prog X.w H5 h':=λb u e=>(I6.hok b u e).stay (λc v hc q=>keep c v (by
   rcases hc with z|z
   ·rw[z];intro z2;rw[z2,hC]at e;cases e
   ·intro z2;rw[z2,hC]at z;cases z) q) (λ_ q=>q) λ_ _ q=>q
  have u6:Un (frs X.stack) fp H3 H5 s3.heap s6.heap:=I6.base
  have un:Un (frs X.stack) fp H3 H5 s3.heap h':=⟨λb o e n hb hx=>keep b o (nC b o e) (u6.keep b o e n hb hx),λb o e n hb hx=>by
    obtain⟨sl,q⟩:=u6.slot b o e n hb hx
    exact⟨sl,keep b _ (nC b o e) q⟩,u6.free,λb o e hx=>by
    obtain⟨o',q⟩:=u6.there b o e hx
    exact⟨o',keep b _ (nC b o e) q⟩,u6.tups,u6.frzs,u6.tbls⟩
  refine I3.call' (s':={ s6 with heap:=h' }) (ch:=fp) I6.os un hok I6.bare λb hb=>?_
  exact⟨(f2 b hb).2.2.2.1,(f2 b hb).2.1,(f2 b hb).2.2.2.2.1,(f2 b hb).2.2.2.2.2⟩
 obtain⟨W,⟨m0,w0⟩,turn⟩:=h3 ⟨s3.heap.objs.size,s3,H3,fp⟩ D hD
 rw[hH3]at w0
 have loop:codeAny (model X.prog X.w) X.A (.compLoop (.ListComp elt [⟨tg,iter,ifs,0⟩] scope pos) 0 (.ref it) (.ref D) (blk X N' scope ⟨s3.heap.objs.size,s3,H3,fp⟩).env)
   (compPost (model X.prog X.w) X.A X.xe use R (.ref D) s3.heap.objs.size) { s3 with heap:=h₁,toks:=s3.toks+([]:List (Str×Value)).length }:=by
  have stat:∀{H':Hp},(∀b∈fp,H' b=none)->∀b∈fp,zQ_ (blk X N' scope ⟨s3.heap.objs.size,s3,H3,fp⟩) [] H' b:=λhn b hb =>
   ⟨hn b hb,(I4.ok.exf b hb).1,I4.ok.exfs b hb,.inl hb,(I4.ok.exf b hb).2,λp hp=>by simp at hp⟩
  refine yO_ (λn s'=>∃i σ' H',Inv (blk X N' scope ⟨s3.heap.objs.size,s3,H3,fp⟩) [] σ' H' s'/\tn i s'.heap/\(∀b∈fp,H' b=none)/\W i n σ' H') ?_ m0
   ⟨0,_,H3,I4,T.keep _ _ _ st3' λb _ o e=>old b o e,fp3,w0⟩
  rintro n s5 ⟨i,σ5,H5,I5,st5,fr5,w5⟩
  rcases turn i n σ5 H5 w5 with⟨stop,qn⟩|⟨go,N,hN,step⟩
  ·refine thn (T.done (blk X N' scope ⟨s3.heap.objs.size,s3,H3,fp⟩) rfl rfl rfl hc i [] s5 σ5 H5 _ I5 (stat fr5) st5 stop) λr s6 ⟨hr,I6⟩=>?_
   subst hr
   obtain⟨m,hn,_⟩:=I6.loc
   have hC:H5 s3.heap.objs.size=none:=I6.free
   exact fin D s3.heap.objs.size H5 s6 m hn (I3.fpOk (AB _) hC) (λh' sb=>back _ _ _ _ I6 h' sb) qn
  ·refine thn (T.item (blk X N' scope ⟨s3.heap.objs.size,s3,H3,fp⟩) rfl rfl rfl hc i [] s5 σ5 H5 _ I5 (stat fr5) st5 go) λr s6 ⟨u,hr,h6⟩=>?_
   subst hr
   refine thn h6 λ_ s7 ⟨x,H7,I7,r7,y7,st7,fr7⟩=>?_
   have I7':=I7.pinned (stat fr7) (T.obj _ _ st7)
   have again:∀{σ9:St}{H9:Hp}{s9:Shared},Inv (blk X N' scope ⟨s3.heap.objs.size,s3,H3,fp⟩) ([]++jS_ fp s7.heap) σ9 H9 s9->N σ9 H9->∃m,m<n/\∃i σ' H',Inv (blk X N' scope ⟨s3.heap.objs.size,s3,H3,fp⟩) [] σ' H' s9/\tn i s9.heap/\(∀b∈fp,H' b=none)/\W i m σ' H':=λ{σ9 H9 s9} I9 n9=>by
    obtain⟨m',hm,w9⟩:=hN σ9 H9 n9
    refine⟨m',hm,i+1,σ9,H9,I9.unpinned,T.keep _ _ _ st7 λb hb o e=>(I9.pin (b,o) (AV _ (AV _ (zt_ hb e)))).1,λb hb=>?_,w9⟩
    obtain⟨o,e,d⟩:=T.obj _ _ st7 b hb
    exact(I9.pin (b,o) (AV _ (AV _ (zt_ hb e)))).2.1
   refine thn (hg _ _ s7 σ5 H7 x u _ I7' r7 (step x H7 y7)) λ_ s8 ⟨σ8,H8,I8,q8⟩=>?_
   refine thn (ht _ _ s8 σ8 H8 _ I8 q8) λok s9 ⟨H9,I9,q9⟩=>?_
   cases ok with
   |false=>exact again I9 q9
   |true =>
    refine wpAny_mono (he _ _ s9 σ8 H9 _ (I9.wish _) q9) (λyv s10 ⟨y,H10,I10w,r10,ys,e10,l10,n10⟩=>?_) λx s10 hx=>abe_ hL hst hfm back hx
    have I10:=I10w.unwish
    refine thn (zk_ _ s10 σ8 H10 (.ref D) [y] (.ref D) [yv] (λ_ H11=>N σ8 H11) I10 rfl (.cons r10 .nil) ⟨D,ys,y,rfl,rfl,e10,l10,n10⟩) λ_ s11 ⟨_,H11,I11,_,n11⟩=>again I11 n11
 have self:=T.self X.A 0 { s3 with heap:=h₁,toks:=s3.toks+([]:List (Str×Value)).length } (λit' s'=>codeAny (model X.prog X.w) X.A (.compLoop (.ListComp elt [⟨tg,iter,ifs,0⟩] scope pos) 0 it' (.ref D) (blk X N' scope ⟨s3.heap.objs.size,s3,H3,fp⟩).env)
   (compPost (model X.prog X.w) X.A X.xe use R (.ref D) s3.heap.objs.size) s') (notedBy (model X.prog X.w) X.A (blk X N' scope ⟨s3.heap.objs.size,s3,H3,fp⟩).env λx s'=>compPost (model X.prog X.w) X.A X.xe use R (.ref D) s3.heap.objs.size (.error x) s')
   (T.keep _ _ _ st3' λb _ o e=>old b o e) loop
 exact codeAny_compStart_list loop self
theorem adx_{X:Cx}{E:XK}{L:Addr}{elt tg iter:Expr}{ifs:List Expr}{scope:Scope}{pos:Pos}{N':List Str}{src:List (Option Nat)}{wi:TI}{g:Bk->TG}{tc:Bk->TT}{te:Bk->TE}(hL:Lv X E)(hst:X.stack=X.env::X.outer)(hfm:X.env.frame=some L)(hc:X.calm=true)(hi:PI X tg iter wi)(S:BkScope X N' src scope)
  (hg:∀b,PG (blk X N' scope b) tg (g b)) (ht:∀b,PTs (blk X N' scope b) ifs (tc b)) (he:∀b,PE (blkx X N' scope b E) elt (te b)) (hs:∀x,foldedSetIterable iter X.env x=pure x:=by intro _;rfl) :
  PE X (.ListComp elt [⟨tg,iter,ifs,0⟩] scope pos) (yZ_ src wi g tc te):=by
 intro pins s σ H Q I h
 rw[eval_ListComp]
 exact abl_ hL hst hfm hc hi S hg ht he hs none (EP X pins σ Q) I h λD C H5 s6 m hn _ k q=>⟨m,hn,λh' sb=>⟨.ref D,H5,k h' sb,rfl,q⟩⟩
end L2.Ev
set_option maxHeartbeats 4000000
namespace L2.Ev
open PySem PySem.Spec PyProof.Rows
theorem xc_(b:Int):Builtin.Range.rangeSize 0 b 2=if 0<b then (b+1) / 2 else 0:=by
 unfold Builtin.Range.rangeSize
 rw[if_pos (by decide)]
 by_cases h:(0:Int)<b
 ·rw[if_pos h,if_pos h]
  omega
 ·rw[if_neg h,if_neg h]
theorem acb_{b:Int}(hb:-(2^62)<=b)(hb':b<2^62):Builtin.Range.small 0 b 2=true:=by
 unfold Builtin.Range.small
 rw[xc_]
 simp only[Builtin.Range.rangeFitsLong,BI,Bool.or_eq_true,decide_eq_true_eq,beq_iff_eq,show((2:Int)>0) by decide,if_true]
 split<;>omega
def Itt(n:Nat):It:=⟨λi _=>i<n,λi H x H'=>H'=H/\x=.int (2*i),λi _=>n<=i⟩
theorem aed_{P:Program}{w:World}{K:PySem.W.Frag}{tg:Expr}(it:Addr)(n:Nat):Turn P w K tg (Itt n) [it] it (λi h=>IsRangeIter h it (0+(i:Nat)*2) ((n:Int)-(i:Nat)) 2) where
 mem:=by simp
 obj:=λi h st b hb=>by
  have e:b=it:=by simpa using hb
  subst e
  exact⟨_,st,λv z=>by
   have z':Data.fields _=Data.cell v:=z
   cases z'⟩
 keep:=λi h h' st k=>k it (by simp) _ st
 item:=by
  intro X hP hw hK hc i pins s σ H E I hf st hg
  subst hP hw hK
  obtain⟨f0,f1,f2,f3,f4,f5⟩:=hf it (by simp)
  have W:=Walks.range (prog:=X.prog) (w:=X.w) (I.ok.hd hc) it 0 2 n
  refine W.item i s _ _ hg st λv h' tk hv st' kk=>?_
  obtain⟨t,rfl⟩:=hv
  have I1:Inv X pins σ H { s with heap:=h',toks:=tk }:=I.turned (λb o hb e=>kk b o (by simpa using hb) e) f0 f1 f3 f4 f5
  refine⟨_,rfl,yd_ (s:={ s with heap:=h',toks:=tk }) (n := "range_iterator") st' rfl rfl (by decide) ⟨.int (2*i),H,I1,⟨t,?_⟩,⟨rfl,rfl⟩,st',λb hb=>(hf b hb).1⟩⟩
  have e:0+(i:Int)*2=2*(i:Int):=by omega
  rw[e]
 done:=by
  intro X hP hw hK hc i pins s σ H E I hf st hg
  subst hP hw hK
  obtain⟨f0,f1,f2,f3,f4,f5⟩:=hf it (by simp)
  exact wpAny_pyNext_range_end (I.ok.hd hc) st (by have:n<=i:=hg;omega) λh' eb=>⟨rfl,I.turned (t':=s.toks) (λb o hb e=>eb b o hb e) f0 f1 f3 f4 f5⟩
 self:=λ_ _ _ _ _ st h=>wpAny_pyIter_rangeiter st h
section
variable{X:Cx}{tg:Expr}
theorem abo_{pins:List (Addr×Obj)}{σ:St}{H:Hp}{s:Shared}{R:It->Hp->Prop}{E:Value->Shared->Prop}{n:Nat}{t u v:Tok}{tk:Nat}(I:Inv X pins σ H s)(h4:(2*n:Int)<2^62)
  (q:R (Itt n) H):wpAny (model X.prog X.w) X.A (pyIter (.ref s.heap.objs.size)) (PIE X pins σ tg R) E { s with heap:=s.heap.push { cls:=.type "range",data:=.fields #[.int 0 t,.int (2*n) u,.int 2 v] },toks:=tk }:=by
 refine wpAny_pyIter_range (IsRange.new ..) (acb_ (by omega) h4) ?_
 have I1:Inv X pins σ H { s with heap:=s.heap.push { cls:=.type "range",data:=.fields #[.int 0 t,.int (2*n) u,.int 2 v] },toks:=tk }:=I.kept λb o e=>AA _ e
 refine⟨(s.heap.push { cls:=.type "range",data:=.fields #[.int 0 t,.int (2*n) u,.int 2 v] }).objs.size,[(s.heap.push { cls:=.type "range",data:=.fields #[.int 0 t,.int (2*n) u,.int 2 v] }).objs.size],_,_,H,rfl,
  I1.kept (t':=tk) λb o e=>AA _ e,aed_ _ n,?_,λb hb=>?_,q⟩
 ·have e1:(0:Int)+((0:Nat):Int)*2=0:=by simp
  have e2:((n:Nat):Int)-((0:Nat):Int)=Builtin.Range.rangeSize 0 (2*n) 2:=by rw[xc_];split<;>omega
  show IsRangeIter _ _ ((0:Int)+((0:Nat):Int)*2) (((n:Nat):Int)-((0:Nat):Int)) 2
  rw[e1,e2]
  exact AE _ rfl
 ·have e:b=(s.heap.push { cls:=.type "range",data:=.fields #[.int 0 t,.int (2*n) u,.int 2 v] }).objs.size:=by simpa using hb
  subst e
  exact I1.fpOk (AB _) (I1.hok.fresh (AB _))
def akh_(ta:TA):TI:=λσ H R=>ta σ H λvs H1=>∃n:Nat,vs=[.int 0,.int (2*n),.int 2]/\(2*n:Int)<2^62/\R (Itt n) H1
theorem ac5_{a b c:Expr}{ta:TA}{p pos:Pos}(hg:Gl X "range")(hm:X.mg "range" = none)(ha:PA X [a,b,c] ta)(hs:starEach [a,b,c] X.env=(false,eval a X.env)::starEach [b,c] X.env:=by rfl)(hs2:(backTo pos (starEach [b,c] X.env)).any (·.1)=false:=by rfl) :
  PI X tg (.Call (.Name "range" p) [a,b,c] [] pos) (akh_ ta):=by
 intro pins s σ H R I h
 refine Call_ (z5_ I hg hm boot_range (Bq (thn (ha pos pins s σ H _ I h) λus s1 ⟨vs,H1,I1,r1,q1⟩=>?_) hs hs2))
 obtain⟨n,e,q4,q⟩:=q1
 subst e
 cases r1 with
 |cons r rr =>
  cases rr with
  |cons r' rr =>
   cases rr with
   |cons r'' rr =>
    cases rr
    obtain⟨t,rfl⟩:=r
    obtain⟨t',rfl⟩:=r'
    obtain⟨t'',rfl⟩:=r''
    exact call_range_3 (by decide) (abo_ I1 q4 q) (Or.inl (Dd (by decide)))
theorem ag8_:OpR X (binaryOp .Mult) (λx y H Q=>∃(z:Str)(n:Nat),x=.str z/\y=.int n/\2<=n/\n<=1000/\z.length=1/\∀z':Str,z'.length=n->Q (.str z') H):=by
 intro pins s σ H x y v u Q I rx ry h
 obtain⟨z,n,rfl,rfl,h2,h3,hz,q⟩:=h
 obtain⟨t,rfl⟩:=rx
 obtain⟨t',rfl⟩:=ry
 have key:∀(k:Nat)(acc:Array Nat),((List.replicate k z.cps).foldl (· ++ ·) acc).size=acc.size+k:=by
  intro k
  induction k with
  |zero=>intro acc;rfl
  |succ k ih =>
   intro acc
   rw[BZ,CJ,ih,Array.size_append]
   have:z.cps.size=1:=hz
   omega
 have c1:((n:Int)==1||z.length==0)=false:=by
  rw[hz]
  have:((n:Int)==1)=false:=beq_eq_false_iff_ne.mpr (by omega)
  rw[this]
  rfl
 refine P.mul_str (by rw[decide_eq_false (by omega),decide_eq_false (by omega)];rfl) (λ_ _=>?_) (λ_ _=>?_) ?_
 ·rw[hz]
  have:(1:Int)<=(2^63-1) / (n:Int):=(Int.le_ediv_iff_mul_le (by omega)).mpr (by omega)
  omega
 ·rw[hz]
  unfold Builtin.Str.tooLong
  exact decide_eq_false (by rw[An];have:sizeLine=16777216:=rfl;omega)
 ·rw[if_neg (by omega),if_neg (by rw[c1];decide)]
  refine⟨?_,⟨.str _,H,I.tok _,⟨_,rfl⟩,q _ ?_⟩⟩
  ·show _<=sizeLine
   have e:=key n #[]
   have:sizeLine=16777216:=rfl
   rw[An]
   show((List.replicate n z.cps).foldl (· ++ ·) #[]).size<=sizeLine
   rw[e]
   simp
   omega
  ·have e:=key n #[]
   rw[An]
   show((List.replicate n z.cps).foldl (· ++ ·) #[]).size=n
   rw[e]
   simp
end
theorem agm_{n:Nat}{g:TG}{tb:TS}{D:Ends}{σ:St}{H:Hp}(Pv:Nat->St->Hp->Prop)(h0:Pv 0 σ H)
  (hs:∀(i:Nat) σ H,i<n->Pv i σ H->g (.int (2*i)) σ H λσ2 H2=>tb { D with nx:=Pv (i+1),ct:=Pv (i+1),bk:=D.nx } σ2 H2) (hd:∀σ H,Pv n σ H->D.nx σ H) :
  ∃W:Nat->Nat->St->Hp->Prop,(∃m,W 0 m σ H)/\∀i m σ H,W i m σ H ->
   ((Itt n).stop i H/\D.nx σ H)∨((Itt n).go i H/\∃N:St->Hp->Prop,(∀σ' H',N σ' H'->∃m',m'<m/\W (i+1) m' σ' H')/\∀x H',(Itt n).yld i H x H'->g x σ H' λσ2 H2=>tb { D with nx:=N,ct:=N,bk:=D.nx } σ2 H2):=by
 refine⟨λi m σ H=>m=n-i/\i<=n/\Pv i σ H,⟨n,by simp,AU _,h0⟩,?_⟩
 rintro i m σ H ⟨rfl,hi,p⟩
 by_cases hlt:i<n
 ·refine .inr ⟨hlt,Pv (i+1),λσ' H' p'=>⟨n-(i+1),by omega,rfl,hlt,p'⟩,λx H' y=>?_⟩
  obtain⟨e,y⟩:=y
  subst e y
  exact hs i σ _ hlt p
 ·have e:i=n:=by omega
  subst e
  exact .inl ⟨AB _,hd σ H p⟩
theorem ac7_{K:PySem.W.Frag}{k1 k2:SK}{a b:Addr}{xs ys:List V}{σ0:St}{H1:Hp}{D:Addr}{R:Hp->Prop}{g:TG}{tc:TT}{te:TE}{j:Nat}(hD:H1 D=none)(hl:k1.is K H1 a xs)(hl2:k2.is K H1 b ys)(Sp:St->Prop)(hx:j<xs.length)(hy:j<ys.length)(hj:j<sizeLine)(h0:Sp σ0)
  (hturn:∀(i:Nat)(x y:V)(p:Addr)(σ':St)(H':Hp)(Yes:V->St->Hp->Prop)(No:St->Hp->Prop),xs[i]?=some x->ys[i]?=some y->i<=j->H' p=none->Sp σ'->Same H1 H'->(∀y σ2 H4,i<j->Sp σ2->Same H' H4->Yes y σ2 H4) ->
   g (.ref p) σ' (upd H' p (.tup [x,y])) λσ2 H2=>tc σ2 H2 λok H3=>if ok=true then te σ2 H3 λy H4=>Yes y σ2 H4 else No σ2 H3) :
  ∃W:Nat->Nat->St->Hp->Prop,(∃m,W 0 m σ0 (upd H1 D (.lst [])))/\∀i m σ' H',W i m σ' H' ->
  ((Itz K k1 k2 a b).stop i H'/\R H')∨((Itz K k1 k2 a b).go i H'/\∃N:St->Hp->Prop,(∀σ'' H'',N σ'' H''->∃m',m'<m/\W (i+1) m' σ'' H'') /\
   ∀x H'',(Itz K k1 k2 a b).yld i H' x H''->g x σ' H'' λσ2 H2=>tc σ2 H2 λok H3=>if ok=true then te σ2 H3 λy H4=>∃ys,H4 D=some (.lst ys)/\ys.length<sizeLine/\N σ2 (upd H4 D (.lst (ys++[y]))) else N σ2 H3):=by
 have s1:∀{H':Hp}(o:HO),Same H1 H'->Same H1 (upd H' D o):=λo e b u q=>by rw[ql_ (qv_ q hD)];exact e b u q
 refine⟨λi m σ' H'=>m=j-i/\i<=j/\Sp σ'/\Same H1 H'/\∃vs,H' D=some (.lst vs)/\vs.length<=i,⟨j,by simp,AU _,h0,s1 _ (Same.refl _),[],qd_,AB _⟩,?_⟩
 rintro i m σ' H' ⟨rfl,hi,hS,hH,vs,eD,lv⟩
 refine .inr ⟨⟨xs,ys,xs[i],ys[i],SK.same hH hl,SK.same hH hl2,AK (by omega),AK (by omega)⟩,λσ2 H2=>i<j/\Sp σ2/\Same H1 H2/\∃vs,H2 D=some (.lst vs)/\vs.length<=i+1,λσ2 H2 ⟨z,a,b,c⟩=>⟨j-(i+1),by omega,rfl,z,a,b,c⟩,?_⟩
 intro x H'' y
 obtain⟨p,x,y,rfl,hp,rfl,hx2,hy2⟩:=y
 refine hturn i x y p σ' H' (λy σ2 H4=>∃ys,H4 D=some (.lst ys)/\ys.length<sizeLine/\(λσ2 H2=>i<j/\Sp σ2/\Same H1 H2/\∃vs,H2 D=some (.lst vs)/\vs.length<=i+1) σ2 (upd H4 D (.lst (ys++[y])))) _ (hx2 xs (SK.same hH hl)) (hy2 ys (SK.same hH hl2)) hi hp hS hH (λy σ2 H4 a0 a1 a2=>?_)
 exact⟨vs,a2 _ _ eD,by omega,a0,a1,s1 _ (hH.trans a2),_,qd_,by rw[AQ];simp;omega⟩
end L2.Ev
set_option maxHeartbeats 4000000
namespace L2.K96
open PySem
open L2.Pl L2.Ev
def top(i:Nat):Stmt:=PySem.Challenge.pw_evenform_k96_whole_texts_bent.main.body.getD i (.Pass ⟨0,0,0,0⟩)
abbrev sRc:Stmt:=top 18
abbrev yV_:Stmt:=top 19
abbrev sRs:Stmt:=top 24
abbrev sRn:Stmt:=top 25
abbrev sRp:Stmt:=top 26
abbrev sRt:Stmt:=top 27
abbrev sSt:Stmt:=top 28
abbrev yX_:Stmt:=top 29
abbrev vD_:Stmt:=top 31
abbrev vc_:Stmt:=top 32
abbrev y0_:Stmt:=top 33
abbrev aa0_:Stmt:=top 34
abbrev vm_:Stmt:=top 35
abbrev sPow:Stmt:=top 36
abbrev sSum:Stmt:=top 37
abbrev yT_:Stmt:=top 38
abbrev sUnk:Stmt:=top 39
abbrev sJo:Stmt:=top 40
abbrev sLsh:Stmt:=top 41
abbrev sLt:Stmt:=top 42
abbrev sLr:Stmt:=top 43
abbrev sOdd:Stmt:=top 44
abbrev aat_:Stmt:=top 45
abbrev sLaw:Stmt:=top 46
section
variable{P:Program}{w:World}{K:PySem.W.Frag}{mg:Str->Option Value}{base:Heap}{f g:Addr}{fd gd:FuncData}
theorem ajf_{P:Program}{w:World}{K:PySem.W.Frag}{mg:Str->Option Value}{base:Heap}{N:List Str}{qual:Str}{scope:Scope}{f:Addr}{cdv:Value}{A:Around}{outer:List Env}{s0:Shared}{H0:Hp}{E:XK}:PassesOwn (model P w) (A.deeper (PyProof.Rows.envOfC qual scope s0.heap.objs.size f cdv)) (PyProof.Rows.envOfC qual scope s0.heap.objs.size f cdv) (q8_ (CX1 P w) P w K mg base N qual scope f cdv A outer s0 H0 E).xe:=PassesOwn.leaving
structure HasX(P:Program)(w:World)(K:PySem.W.Frag)(mg:Str->Option Value)(base:Heap)(k:Nat)(x:Str)(ps:List Str)(sp:Sp) where
 f:Addr
 fd:FuncData
 ok:FnOk P w K mg base (CX1 P w) k f fd ps sp
 bd:Binds K fd ps []
 kp:PySem.W.keepIn K (.ref f)=true
 at_:mg x=some (.ref f)
abbrev bmV:List Value:=[.type "ValueError",.type "Exception",.type "BaseException",.type "object"]
structure Exc1(K:PySem.W.Frag)(mg:Str->Option Value)(x:Str)(C:Addr):Prop where
 at_:mg x=some (.ref C)
 is:PySem.W.excIn K C bmV "ValueError.__new__" = true
theorem aa4_{K:PySem.W.Frag}{C:Addr}{bm:List Value}{n:String}(q:PySem.W.excIn K C bm n=true):(PySem.W.clsIn K C).isSome=true:=by
 unfold PySem.W.excIn at q
 split at q
 ·rename_i dd cd sl ho
  unfold PySem.W.clsIn
  rw[ho]
  rfl
 ·cases q
theorem abf_{K:PySem.W.Frag}{C C0:Addr}{b:Bool}(h:PySem.W.kitOne K (.ref C) (.ref C0)=some b)(ne:C≠C0):PySem.W.kitCls K (.ref C) (.ref C0)=some b:=by
 unfold PySem.W.kitOne at h
 rwa [if_neg (λz=>ne (by injection (beq_iff_eq.mp z)))]at h
theorem aau_{K:PySem.W.Frag}{C:Addr}{T:String}{b:Bool}(h:PySem.W.kitOne K (.ref C) (.type T)=some b):PySem.W.kitCls K (.ref C) (.type T)=some b:=by
 unfold PySem.W.kitOne at h
 rwa [if_neg (λz=>by cases beq_iff_eq.mp z)]at h
theorem jh_{H H':Hp}{l:Addr}(h:H l=none)(e:Same H H')(o:HO):Same H (upd H' l o):=λb u q=>by rw[ql_ (qv_ q h)];exact e b u q
theorem yw_{H:Hp}{l:Addr}{xs:List V}(h:H l=some (.lst xs))(o:HO):Tups H (upd H l o):=λp ys q=>by
 rw[ql_ (x2_ q h (by intro z;cases z))];exact q
theorem jH_{X:Cx}{st:Stmt}{t:TS}(h:PS X st t):PS X st (λD σ H=>∃I:St->Hp->Prop,t { D with nx:=I } σ H/\∀σ' H',I σ' H'->D.nx σ' H'):=by
 intro pins s σ H D inv ⟨I,q1,q2⟩
 refine thn (h pins s σ H { D with nx:=I } inv q1) λfl s' e=>?_
 cases fl with
 |next=>obtain⟨σ',H',i,n⟩:=e;exact⟨σ',H',i,q2 _ _ n⟩
 |brk=>exact e
 |cont=>exact e
 |ret u=>exact e
abbrev nRc:List Str:=["many"]
theorem scRc:FnScope nRc ["many"] (qm_ sRc):=⟨rfl,rfl,rfl,by decide +kernel,rfl,by decide +kernel,by decide +kernel⟩
def ab7_(cBC:Addr):Sp:=λvs H Q E=>∃n:Int,vs=[.int n]/\(1<=n/\n<=4->Q .non H)/\(¬ (1<=n/\n<=4)->E (.ref cBC) none H)
theorem agx_{tk:Tok}{cBC:Addr}(F:Fun K "refuse_bad_count" "refuse_bad_count" sRc f fd)(gU:mg "MOST_UNKNOWNS" = some (.int 4 tk))(X1:Exc1 K mg "BadCount" cBC):FnOk P w K mg base (CX1 P w) 2 f fd ["many"] (ab7_ cBC):=by
 refine Fun.okx F scRc (λvs H Q E h=>?_) (λcdv A outer s H vs Q E hr h=>?_)
 ·obtain⟨n,rfl,_⟩:=h
  rfl
 obtain⟨n,rfl,q,e⟩:=h
 refine⟨_,qg_ (qt_ (PW.pt (zB_ (qk_ yU_ (pv 0) qe_ (qn_ _)) (zx_ (qk_ jD_ (pv 0) (qL_ (v:=.int 4) rfl gU ⟨_,rfl⟩) (qn_ _))))) (qg_ (zW_ rfl rs1 BL rfl X1.at_ X1.is (qa_ qh_ qb_))) qq_),?_⟩
 refine⟨_,rfl,_,_,rfl,rfl,_,rfl,?_⟩
 by_cases c1:n<1
 ·exact qB_ c1 (ja_ ⟨(by show 1<=sizeLine;decide),e (by omega)⟩)
 ·refine qw_ c1 ⟨_,rfl,_,_,rfl,rfl,_,rfl,?_⟩
  by_cases c2:4<n
  ·exact qB_ c2 ⟨(by show 1<=sizeLine;decide),e (by omega)⟩
  ·exact qw_ c2 (q (by omega))
abbrev nG:List Str:=["terms", "numbers", "powers", "number"]
abbrev bG:List Str:=["powers", "numbers"]
theorem ndG:bG.Nodup:=by decide +kernel
theorem scG:FnScope nG ["terms"] (qm_ yV_):=⟨rfl,rfl,rfl,by decide +kernel,rfl,by decide +kernel,by decide +kernel⟩
def acy_:Sp:=λvs H Q _=>∃(a:Addr)(ts:List Mon),vs=[.ref a]/\LstAt H a ts/\(∀t∈ts,t.1≠[])/\ts.length<=100000/\∀(l:Addr)(H':Hp),H l=none->Same H H'->LstAt H' l (norm ts)->Q (.ref l) H'
theorem af4_(F:Fun K "gathered" "gathered" yV_ f fd)(ms:mg "sorted" = none):FnOk P w K mg base CX0 2 f fd ["terms"] acy_:=by
 refine F.ok scG (λvs H Q E h=>?_) (λcdv A outer s H vs Q E hr h=>?_)
 ·obtain⟨a,ts,rfl,_⟩:=h
  rfl
 obtain⟨a,ts,rfl,hL,hne,hlen,q⟩:=h
 have hu:=afy_ hr
 have h8:=hu8 hr
 refine⟨_,qc_ (qj_ (i:=1) scG.nd rfl (Or.inr rfl) vx_)
  (qc_ (zf_ BA rfl (zG_ (pv 0)) (jk_ rfl (qR_ (qz_ (i:=2) scG.nd rfl (Or.inl rfl)) (qR_ (qz_ (i:=3) scG.nd rfl (Or.inl rfl)) zV_)))
   (qg_ (aac_ hu (pv 1) (pv 2) (qi_ qM_ (y4_ hu (pv 1) (pv 2) qe_ ⟨rfl,rfl,rfl,rfl⟩) (pv 3)) rfl)))
  (qg_ (qp_ (xA_ (N':=bG) (src:=[none,some 1]) rfl (zG_ (aaq_ rfl h8 rfl ms (qa_ (pv 1) qb_)))
   (yb_ (qm_ yV_) nG (by decide +kernel))
   (λb=>qz_ (i:=0) ndG rfl (Or.inl rfl))
   (λb=>vZ_ (qk_ xL_ (v9_ hu (pv 1) (pv 0) (λ_ _=>rfl)) qe_ (qn_ _)))
   (λb=>zw_ (qa_ (pv 0) (qa_ (v9_ hu (pv 1) (pv 0) (λ_ _=>rfl)) qb_))))))),?_⟩
 intro d hd
 obtain⟨vs,eL,iL⟩:=hL
 have lv:=Ai iL
 have s0:Same H (upd H d (.dT [])):=qf_ hd _
 refine⟨_,rfl,a,rfl,⟨vs,SqL.of (s0 _ _ eL)⟩,?_⟩
 refine zZ_ (xs:=vs) (λi σ H'=>(∃c2 c3,σ=[some (.ref a),some (.ref d),c2,c3])/\H' d=some (.dT (toK (qI_ (ts.take i))))/\Same H H') ?_ ?_ ?_ ?_
 ·exact⟨⟨_,_,rfl⟩,qd_,s0⟩
 ·rintro i σ H1 _ ⟨_,_,s1⟩
  exact SqL.of (s1 _ _ eL)
 ·rintro i x σ H1 hx ⟨⟨c2,c3,rfl⟩,h1,s1⟩
  obtain⟨t,ht,hi⟩:=jm_ iL hx
  obtain⟨p,k,rfl,hp,hk⟩:=xp_ hi
  have hk1:=s1 _ _ hk
  refine⟨p,_,rfl,SqT.of (s1 _ _ hp),rfl,_,_,rfl,_,_,rfl,rfl,?_⟩
  have g:=DGet.t (k:=t.1.map Sum.inl) h1 (by rw[jP_];exact hk1)
  rw[yt_]at g
  refine⟨_,rfl,d,rfl,.inr ⟨_,.inl h1⟩,_,rfl,_,g,_,rfl,(q7_ (qI_ (ts.take i)) t.1).getD 0,t.2,?_,rfl,_,rfl,_,rfl,d,_,rfl,DPut.t (k:=t.1.map Sum.inl) h1 (by rw[jP_];exact hk1) ?_,?_⟩
  ·cases q7_ (qI_ (ts.take i)) t.1<;>rfl
  ·rw[yp_]
   have:=j1_ (ts.take i)
   rw[As]at this
   exact x7_ (by omega)
  ·refine⟨⟨_,_,rfl⟩,?_,λb o e=>?_⟩
   ·rw[jj_ ht,zJ_,<-vV_]
    exact qd_
   ·rw[ql_ (qv_ e hd)]
    exact s1 b o e
 ·rintro σ H1 ⟨⟨c2,c3,rfl⟩,h1,s1⟩
  rw[AW (by omega)]at h1
  have hnd:∀t∈qI_ ts,t.1≠[]:=λt ht=>by
   obtain⟨u,hu,e⟩:=Az.mp (ae3_ ts (Az.mpr ⟨t,ht,rfl⟩))
   rw[<-e]
   exact hne u hu
  refine⟨_,rfl,d,qI_ ts,rfl,.inl h1,hnd,λp vs' ks hp pm so it=>?_⟩
  have s2:Same H1 (upd H1 p (.lst vs')):=qf_ hp _
  refine⟨p,rfl,⟨_,SqL.of qd_⟩,λb D hD=>?_⟩
  have lk:=Ai it
  have ln:vs'.length<=100000:=by
   have:=pm.length_eq
   rw[AF]at this
   have:=j1_ ts
   omega
  refine yD_ (α:=Mon) hD (SqL.of qd_) (λσ=>∃c,σ=[c,some (.ref d)]) (λi=>(ks[i]?).bind λk=>if (q7_ (qI_ ts) k).getD 0≠0 then some (k,(q7_ (qI_ ts) k).getD 0) else none) (small ln) ⟨_,rfl⟩ ?_ ?_
  ·rintro i x σ H2 Yes No hx ⟨c,rfl⟩ s3 yes no
   obtain⟨k,hk,hi⟩:=jm_ it hx
   obtain⟨pk,rfl,hpk⟩:=z6_ hi
   have hpk3:=s3 _ _ (s2 _ _ hpk)
   have hd3:=s3 _ _ (s2 _ _ h1)
   obtain⟨n,hn⟩:=ab9_ (pm.mem_iff.mp (Aq hk))
   have g:=DGet.t (k:=k.map Sum.inl) hd3 (by rw[jP_];exact hpk3)
   rw[yt_,hn]at g
   refine⟨_,rfl,_,rfl,d,.int n,rfl,g,rfl,_,rfl,?_⟩
   by_cases c0:n=0
   ·subst c0
    refine zj_ ?_
    exact no _ _ ⟨_,rfl⟩ (Same.refl _) (by rw[hk,CV,hn,if_neg (by simp)])
   ·have e0:(!decide (V.int n=V.int 0))=true:=by
     rw[decide_eq_false (λz=>c0 (by injection z))]
     rfl
    rw[e0]
    refine ja_ ⟨_,rfl,_,rfl,_,rfl,d,.int n,rfl,g,(by show 2<=sizeLine;decide),λr hr=>?_⟩
    exact yes _ _ _ (k,n) ⟨_,rfl⟩ (qf_ hr _) (by rw[hk,CV,hn,if_pos (by simpa using c0)];rfl) (jo_ qd_ (qf_ hr _ _ _ hpk3))
  ·intro H2 s3 hL
   refine q D H2 (s1.free (s2.free hD)) (s1.trans (s2.trans s3)) ?_
   have e:=agp_ pm so
   rw[<-xe_,<-z7_,<-lk]at e
   rw[<-e]
   exact hL
def ofL(l:List Nat):Str:=⟨l.toArray⟩
theorem z4_(l:List Nat):tx (ofL l)=l:=D8
theorem xy_(l:List Nat):(ofL l).length=l.length:=by rw[<-qA_,z4_]
def ltr(i:Nat):Nat:=([120,121,122,119]:List Nat).getD i 0
def pwT(c:Nat)(p:Int):List Nat:=if p=0 then [] else if p=1 then [c] else c::94::dg p.toNat
def zF_:Nat->List Int->List Nat
 |_,[]=>[]
 |i,p::ps=>pwT (ltr i) p++zF_ (i+1) ps
def jT_(r:List Nat):Int×List Nat:=match r with
 |y::d::r'=>if y=94/\50<=d/\d<=56 then ((d:Int)-48,r') else (1,y::d::r')
 |r=>(1,r)
def jr_(c:Nat)(l:List Nat):Int×List Nat:=match l with
 |[]=>(0,[])
 |x::r=>if x=c then jT_ r else (0,x::r)
def rpN:Nat->List Nat->List Int×List Nat
 |0,l=>([],l)
 |i+1,l=>((rpN i l).1++[(jr_ (ltr i) (rpN i l).2).1],(jr_ (ltr i) (rpN i l).2).2)
def rpO(n:Nat)(l:List Nat):Option (List Int):=if (rpN n l).2=[]/\(rpN n l).1.sum<=8 then some (rpN n l).1 else none
def isD(c:Nat):Bool:=decide (48<=c/\c<=57)
def rcO(l:List Nat):Option Int:=if l=[] then some 1 else if l.head?=some 48∨60<l.length then none else some ((NumText.digitsVal l:Nat):Int)
def rsO(l:List Nat):Option Int:=if l=[43] then some 1 else if l=[45] then some (-1) else none
def rtM:Option Int->Option (List Int)->Option Int->Option Mon
 |some c,some p,some x=>some (p,x*c)
 |_,_,_=>none
def rtO(n:Nat)(s w:List Nat):Option Mon:=if w=[] then none else rtM (rcO (w.takeWhile isD)) (rpO n (w.dropWhile isD)) (rsO s)
def jF_(l:List Nat):List Nat:=if l.head?=some 45 then [45]++[32]++l.drop 1 else [43]++[32]++l
theorem aix_:∀i,i<4->119<=ltr i/\ltr i<=122/\∀j,j<4->ltr i=ltr j->i=j:=by decide
theorem agw_{c:Nat}{p:Int}(h:p≠0):∃r,pwT c p=c::r:=by
 unfold pwT
 rw[if_neg h]
 by_cases e:p=1
 ·rw[if_pos e];exact⟨_,rfl⟩
 ·rw[if_neg e];exact⟨_,rfl⟩
theorem yk_:∀(ps:List Int)(j:Nat),(∀x∈ps,0<=x/\x<=8)->(zF_ j ps).length<=3*ps.length
 |[],_,_=>AB _
 |p::ps,j,h=>by
  unfold zF_
  have ih:=yk_ ps (j+1) λx hx=>h x (AD _ hx)
  have h1:=h p (AH ..)
  rw[AQ,AN]
  have:(pwT (ltr j) p).length<=3:=by
   unfold pwT
   split
   ·simp
   ·split
    ·simp
    ·rw[y1_ (by omega)]
     simp
  omega
theorem v0_:∀(ps:List Int)(j:Nat),(∀x∈ps,0<=x)->(zF_ j ps=[]↔ps.sum=0)
 |[],_,_=>by simp [zF_]
 |p::ps,j,h=>by
  have ih:=v0_ ps (j+1) λx hx=>h x (AD _ hx)
  have h1:=h p (AH ..)
  have h2:0<=ps.sum:=by
   have:∀l:List Int,(∀x∈l,0<=x)->0<=l.sum:=λl=>by
    induction l with
    |nil=>intro _;exact Int.le_refl _
    |cons y l ih=>intro hl;rw[BD];have:=hl y (AH ..);have:=ih λz hz=>hl z (AD _ hz);omega
   exact this ps λx hx=>h x (AD _ hx)
  unfold zF_
  rw[List.append_eq_nil_iff,ih,BD]
  constructor
  ·rintro⟨a,b⟩
   by_cases e:p=0
   ·omega
   ·obtain⟨r,er⟩:=agw_ (c:=ltr j) e
    rw[er]at a
    cases a
  ·intro e
   have:p=0:=by omega
   exact⟨by rw[this];rfl,by omega⟩
def toks(l:List (Bool×List Nat)):List (List Nat):=l.flatMap λx=>[[if x.1 then 45 else 43],x.2]
theorem yr_{b:Bool}{A B:Prop}(h:b=false)(x:B):if b=true then A else B:=by rw[h];exact x
theorem x0_{b:Bool}{A B:Prop}(h:b=true)(x:A):if b=true then A else B:=by rw[h];exact x
abbrev nRs:List Str:=["word"]
theorem scRs:FnScope nRs nRs (qm_ sRs):=⟨rfl,rfl,rfl,by decide +kernel,rfl,by decide +kernel,by decide +kernel⟩
def spRs(c1:Addr):Sp:=λvs H Q E=>∃z:Str,vs=[.str z]/\(rsO (tx z)=none->∀H',Same H H'->E (.ref c1) none H')/\∀x,rsO (tx z)=some x->Q (.int x) H
theorem aa8_:tx (Str.ofString "+")=[43]:=by decide +kernel
theorem xD_:tx (Str.ofString "-")=[45]:=by decide +kernel
theorem qK_{z:Str}{s:Str}{l:List Nat}(h:tx s=l):V.str z=V.str s↔tx z=l:=⟨λe=>by injection e with e;rw[e,h],λe=>by rw[zR_ (e.trans h.symm)]⟩
theorem akm_{c1:Addr}(F:Fun K "read_sign" "read_sign" sRs f fd)(X1:Exc1 K mg "NoText" c1):FnOk P w K mg base (CX1 P w) 2 f fd nRs (spRs c1):=by
 refine Fun.okx F scRs (λvs H Q E h=>?_) (λcdv A outer s H vs Q E hr h=>?_)
 ·obtain⟨z,rfl,_⟩:=h
  rfl
 obtain⟨z,rfl,e,q⟩:=h
 refine⟨_,qc_ (qt_ (qk_ qH_ (pv 0) qh_ (qn_ _)) (qg_ (qp_ qe_)) qq_)
  (qc_ (qt_ (qk_ qH_ (pv 0) qh_ (qn_ _)) (qg_ (qp_ (yS_ yf_ qe_))) qq_)
  (qg_ (zW_ rfl rs1 BL rfl X1.at_ X1.is (qa_ qh_ qb_)))),?_⟩
 refine⟨_,rfl,rfl,_,rfl,?_⟩
 by_cases c:tx z=[43]
 ·exact qB_ ((qK_ aa8_).mpr c) (q 1 (by unfold rsO;rw[if_pos c]))
 refine qw_ (λy=>c ((qK_ aa8_).mp y)) ?_
 refine⟨_,rfl,rfl,_,rfl,?_⟩
 by_cases c2:tx z=[45]
 ·exact qB_ ((qK_ xD_).mpr c2) ⟨_,rfl,q (-1) (by unfold rsO;rw[if_neg c,if_pos c2])⟩
 refine qw_ (λy=>c2 ((qK_ xD_).mp y)) ?_
 exact⟨(by show 1<=sizeLine;decide),e (by unfold rsO;rw[if_neg c,if_neg c2]) _ (Same.refl _)⟩
abbrev nRn:List Str:=["figures"]
theorem scRn:FnScope nRn nRn (qm_ sRn):=⟨rfl,rfl,rfl,by decide +kernel,rfl,by decide +kernel,by decide +kernel⟩
def spRn(c1:Addr):Sp:=λvs H Q E=>∃z:Str,vs=[.str z]/\NumText.AllDigits (tx z)/\z.length<=100000/\(rcO (tx z)=none->∀H',Same H H'->E (.ref c1) none H')/\∀x,rcO (tx z)=some x->Q (.int x) H
theorem za_:tx (Str.ofString "")=[]:=by decide +kernel
theorem j2_:tx (Str.ofString "0")=[48]:=by decide +kernel
theorem aj8_{c1:Addr}{tk:Tok}(F:Fun K "read_count" "read_count" sRn f fd)(X1:Exc1 K mg "NoText" c1)(gF:mg "MOST_FIGURES" = some (.int 60 tk))(mn:mg "len" = none)(mi:mg "int" = none):FnOk P w K mg base (CX1 P w) 2 f fd nRn (spRn c1):=by
 refine Fun.okx F scRn (λvs H Q E h=>?_) (λcdv A outer s H vs Q E hr h=>?_)
 ·obtain⟨z,rfl,_⟩:=h
  rfl
 obtain⟨z,rfl,hd,hl,e,q⟩:=h
 refine⟨_,qc_ (qt_ (qk_ qH_ (pv 0) qh_ (qn_ _)) (qg_ (qp_ qe_)) qq_)
  (qc_ (qt_ (PW.pt (zB_ (zm_ (zu_ BC Br Bt jA_ (pv 0) (qa_ qh_ qb_))) (zx_ (qk_ jD_ (qo_ zb_ rfl mn Au (qa_ (pv 0) qb_)) (qL_ (v:=.int 60) rfl gF ⟨_,rfl⟩) (qn_ _))))) (qg_ (zW_ rfl rs1 BL rfl X1.at_ X1.is (qa_ qh_ qb_))) qq_)
  (qg_ (qp_ (qO_ jy_ rfl mi BG (qa_ (pv 0) qb_))))),?_⟩
 have sz:sizeLine=16777216:=rfl
 refine⟨_,rfl,rfl,_,rfl,?_⟩
 by_cases c:tx z=[]
 ·exact qB_ ((qK_ za_).mpr c) (q 1 (by unfold rcO;rw[if_pos c]))
 refine qw_ (λy=>c ((qK_ za_).mp y)) ?_
 refine⟨_,rfl,rfl,z,_,rfl,rfl,_,rfl,?_⟩
 rw[xF_ j2_]
 by_cases c1:(tx z).head?=some 48
 ·exact qB_ c1 ⟨(by show 1<=sizeLine;decide),e (by unfold rcO;rw[if_neg c,if_pos (.inl c1)]) _ (Same.refl _)⟩
 refine qw_ c1 ?_
 refine⟨_,rfl,z,rfl,by omega,_,_,rfl,rfl,_,rfl,?_⟩
 by_cases c2:(60:Int)<(z.length:Int)
 ·exact qB_ c2 ⟨(by show 1<=sizeLine;decide),e (by unfold rcO;rw[if_neg c,if_pos (.inr (by rw[qA_];omega))]) _ (Same.refl _)⟩
 refine qw_ c2 ?_
 have e1:=vr_ hd c (by omega)
 exact⟨_,rfl,z,_,rfl,by omega,e1,q _ (by unfold rcO;rw[if_neg c,if_neg (λy=>y.elim c1 λy=>by rw[qA_]at y;omega)])⟩
abbrev nRp:List Str:=["many", "unknowns", "powers", "left", "letter", "power"]
abbrev pRp:List Str:=["many", "unknowns"]
theorem scRp:FnScope nRp pRp (qm_ sRp):=⟨rfl,rfl,rfl,by decide +kernel,rfl,by decide +kernel,by decide +kernel⟩
def spRp(c1:Addr):Sp:=λvs H Q E=>∃(n:Nat)(z:Str),vs=[.int n,.str z]/\n<=4/\z.length<=100000/\(rpO n (tx z)=none->∀H',Same H H'->E (.ref c1) none H')/\∀ps,rpO n (tx z)=some ps->∀(t:Addr)(H':Hp),Same H H'->H' t=some (.tup (ps.map V.int))->Q (.ref t) H'
def jb_:Str:=Str.ofString "xyzw"
theorem jU_:tx jb_=[120,121,122,119]:=by decide +kernel
theorem af6_{n i c:Nat}(hn:n<=4)(h:(tx (Txt.slice jb_ none (some (n:Int))))[i]?=some c):c=ltr i/\i<n:=by
 rw[jN_,jU_]at h
 have hi:i<n:=by
  have:=(AY.mp h).1
  rw[As]at this
  omega
 rw[List.getElem?_take,if_pos hi]at h
 refine⟨?_,hi⟩
 unfold ltr
 rw[BK,h]
 rfl
theorem adu_{n:Nat}(hn:n<=4):(Txt.slice jb_ none (some (n:Int))).length=n:=by
 rw[<-qA_,jN_,jU_,As]
 show min n 4=n
 omega
theorem aec_:∀n,n<=4->(Txt.slice jb_ none (some ((n:Nat):Int))).cps.all (· < 128)=true:=λn hn=>by
 have e:∀c∈tx (Txt.slice jb_ none (some ((n:Nat):Int))),c<128:=λc hc=>by
  rw[jN_,jU_]at hc
  have:=BV hc
  simp only[AI,Aw,or_false]at this
  omega
 rw[<-Array.all_toList]
 exact DO.mpr λc hc=>decide_eq_true (e c hc)
theorem jG_:∀(n:Nat)(l:List Nat),(rpN n l).1.length=n
 |0,_=>rfl
 |n+1,l=>by
  unfold rpN
  rw[AQ,jG_ n l]
  rfl
theorem aa1_:tx (Str.ofString "^")=[94]:=by decide +kernel
theorem akg_:tx (Str.ofString "2")=[50]:=by decide +kernel
theorem ajv_:tx (Str.ofString "8")=[56]:=by decide +kernel
theorem lt1(a b:Nat):decide ([a]<[b])=decide (a<b):=by
 rw[StrLaws.lt_cons_cons,StrLaws.lt_nil_nil,Dm,Bool.or_false]
theorem xm_(c:Nat):tx ⟨#[c]⟩=[c]:=rfl
theorem v1_{d:Nat}(h:48<=d/\d<=57):intText? ⟨#[d]⟩=some ((d:Int)-48):=by
 have e:=vr_ (z:=⟨#[d]⟩) (λc hc=>by rw[xm_,Ad]at hc;rw[hc];exact h) (by simp [xm_]) (by show 1<=640;decide)
 rw[e,xm_]
 congr 1
 show((0*10+(d-48):Nat):Int)=_
 omega
theorem ajs_{c1:Addr}{tl tg:Tok}(F:Fun K "read_powers" "read_powers" sRp f fd)(X1:Exc1 K mg "NoText" c1)(gL:mg "LETTERS" = some (.str jb_ tl))(gT:mg "MOST_TOGETHER" = some (.int 8 tg))(mi:mg "int" = none)(ms:mg "sum" = none)(mt:mg "tuple" = none):FnOk P w K mg base (CX1 P w) 2 f fd pRp (spRp c1):=by
 refine Fun.okx F scRp (λvs H Q E h=>?_) (λcdv A outer s H vs Q E hr h=>?_)
 ·obtain⟨n,z,rfl,_⟩:=h
  rfl
 obtain⟨n,z,rfl,n4,hz,e,q⟩:=h
 have sz:sizeLine=16777216:=rfl
 refine⟨_,qc_ (qj_ (i:=2) scRp.nd rfl (Or.inl rfl) (qD_ qb_))
  (qc_ (qj_ (i:=3) scRp.nd rfl (Or.inl rfl) (pv 1))
  (qc_ (zf_ ajf_ rfl (ai4_ (qs_ qW_ (qL_ (v:=.str jb_) rfl gL ⟨_,rfl⟩) qy_ (qr_ (pv 0)))) (qz_ (i:=4) scRp.nd rfl (Or.inl rfl))
   (qc_ (qj_ (i:=5) scRp.nd rfl (Or.inl rfl) qe_)
   (qc_ (jH_ (qt_ (zm_ (zu_ BC Br Bt jA_ (pv 3) (qa_ (pv 4) qb_)))
    (qc_ (qj_ (i:=5) scRp.nd rfl (Or.inl rfl) qe_)
    (qc_ (qj_ (i:=3) scRp.nd rfl (Or.inl rfl) (qs_ qW_ (pv 3) (qr_ qe_) qy_))
    (qg_ (qt_ (PW.pt (xl_ (zm_ (zu_ BC Br Bt jA_ (pv 3) (qa_ qh_ qb_))) (jI_ (ad2_ ab0_ ab0_ qh_ (qs_ qW_ (pv 3) (qr_ qe_) (qr_ qe_)) qh_))))
     (qc_ (qj_ (i:=5) scRp.nd rfl (Or.inl rfl) (qO_ jy_ rfl mi BG (qa_ (qF_ xv_ (pv 3) qe_ (λ_ _=>rfl)) qb_)))
     (qg_ (qj_ (i:=3) scRp.nd rfl (Or.inl rfl) (qs_ qW_ (pv 3) (qr_ qe_) qy_)))) qq_)))) qq_))
   (qg_ (jg_ (zu_ Bo Bm Bn zk_ (pv 2) (qa_ (pv 5) qb_)))))))
  (qc_ (qt_ (PW.pt (zB_ (qk_ xL_ (pv 3) qh_ (qn_ _)) (zx_ (qk_ jD_ (qo_ (yL_ rfl) rfl ms Ca (qa_ (pv 2) qb_)) (qL_ (v:=.int 8) rfl gT ⟨_,rfl⟩) (qn_ _))))) (qg_ (zW_ rfl rs1 BL rfl X1.at_ X1.is (qa_ qh_ qb_))) qq_)
  (qg_ (qp_ (qO_ zC_ rfl mt BX (qa_ (pv 2) qb_))))))),?_⟩
 refine⟨(by show 0<=sizeLine;decide),λl0 h0=>?_⟩
 have s0:=qf_ h0 (.lst [])
 refine⟨_,rfl,?_⟩
 refine⟨_,rfl,_,rfl,jb_,rfl,by decide +kernel,_,rfl,aec_ n n4,?_⟩
 refine agb_ (x:=Txt.slice jb_ none (some (n:Int))) (λi σ H'=>(∃(lf:Str)(c4 c5:Option V),σ=[some (.int n),some (.str z),some (.ref l0),some (.str lf),c4,c5]/\tx lf=(rpN i (tx z)).2/\lf.length<=100000)/\Same H H'/\H' l0=some (.lst ((rpN i (tx z)).1.map V.int))) ?_ ?_ ?_
 ·exact⟨⟨z,_,_,rfl,rfl,hz⟩,s0,qd_⟩
 ·rintro i c σ H1 hc ⟨⟨lf,c4,c5,rfl,et,hl⟩,s1,h1⟩
  obtain⟨rfl,hi⟩:=af6_ n4 hc
  obtain⟨st,hst⟩:∃st,jr_ (ltr i) (tx lf)=st:=⟨_,rfl⟩
  refine⟨λσ H'=>∃lf':Str,H1=H'/\σ=[some (.int n),some (.str z),some (.ref l0),some (.str lf'),some (.str ⟨#[ltr i]⟩),some (.int st.1)]/\tx lf'=st.2/\lf'.length<=100000,?_,?_⟩
  ·have fin:∀(lf':Str)(k:Int),st=(k,tx lf')->lf'.length<=100000->∃lf'':Str,H1=H1/\([some (.int n),some (.str z),some (.ref l0),some (.str lf'),some (.str ⟨#[ltr i]⟩),some (.int k)]:St)=[some (.int n),some (.str z),some (.ref l0),some (.str lf''),some (.str ⟨#[ltr i]⟩),some (.int st.1)]/\tx lf''=st.2/\lf''.length<=100000:=λlf' k e hl'=>by
    subst e
    exact⟨lf',rfl,rfl,rfl,hl'⟩
   refine⟨_,rfl,rfl,_,rfl,lf,_,rfl,rfl,_,rfl,?_⟩
   rw[xF_ (xm_ _)]
   cases etl:tx lf with
   |nil=>exact qw_ (by simp) (fin lf 0 (by rw[<-hst,etl];rfl) hl)
   |cons x r =>
    by_cases ex:x=ltr i
    case neg =>
     refine qw_ (λy=>ex (by injection y)) (fin lf 0 ?_ hl)
     rw[<-hst,etl]
     exact if_neg ex
    subst ex
    refine qB_ rfl ?_
    refine⟨_,rfl,_,rfl,lf,rfl,by omega,?_⟩
    have e1:tx (Txt.slice lf (some 1) none)=r:=by
     have:=jw_ lf 1
     rw[etl]at this
     exact this
    have l1:(Txt.slice lf (some 1) none).length<=100000:=AZ (Bc lf _ _) hl
    show qU_ 3 (.str (Txt.slice lf (some 1) none)) _ _ _
    generalize Txt.slice lf (some 1) none=lf1 at *
    have stp:jT_ r=st:=by
     rw[<-hst,etl]
     exact(if_pos rfl).symm
    have one:jT_ r=(1,r)->∃lf'':Str,H1=H1/\([some (.int n),some (.str z),some (.ref l0),some (.str lf1),some (.str ⟨#[ltr i]⟩),some (.int 1)]:St)=[some (.int n),some (.str z),some (.ref l0),some (.str lf''),some (.str ⟨#[ltr i]⟩),some (.int st.1)]/\tx lf''=st.2/\lf''.length<=100000:=λe=>fin lf1 1 (by rw[<-stp,e,e1]) l1
    refine⟨_,rfl,rfl,lf1,_,rfl,rfl,_,rfl,?_⟩
    rw[xF_ aa1_,e1]
    match r,e1,stp,one with
    |[],e1,stp,one=>exact qw_ (by simp) (one rfl)
    |y::r2,e1,stp,one =>
     by_cases ey:y=94
     case neg =>
      refine qw_ (λx=>ey (by injection x)) (one ?_)
      cases r2 with
      |nil=>rfl
      |cons d r3=>exact if_neg λz=>ey z.1
     subst ey
     refine qB_ rfl ?_
     have e2:tx (Txt.slice lf1 (some 1) (some 2))=r2.take 1:=by
      have:=acw_ lf1 1 2 (by decide)
      rw[e1]at this
      exact this
     refine⟨_,rfl,_,rfl,_,rfl,lf1,rfl,by omega,_,_,rfl,rfl,_,rfl,?_⟩
     rw[akg_,e2]
     cases r2 with
     |nil=>exact yr_ (by decide) ⟨_,rfl,zj_ (one rfl)⟩
     |cons d r3 =>
      rw[show(d::r3).take 1=[d] from rfl,lt1]
      by_cases d50:d<50
      ·exact yr_ (by rw[decide_eq_true d50];rfl) ⟨_,rfl,zj_ (one (if_neg λz=>by omega))⟩
      refine x0_ (by rw[decide_eq_false d50];rfl) ?_
      refine⟨_,_,rfl,rfl,_,rfl,?_⟩
      rw[ajv_,e2,show(d::r3).take 1=[d] from rfl,lt1]
      by_cases d56:56<d
      ·exact yr_ (by rw[decide_eq_true d56];rfl) (one (if_neg λz=>by omega))
      refine x0_ (by rw[decide_eq_false d56];rfl) ?_
      have at1:atI lf1.cps.toList (1:Int)=some d:=by
       show atI (tx lf1) ((1:Nat):Int)=_
       rw[e1]
       exact q2_ rfl
      refine⟨_,rfl,lf1,_,d,rfl,rfl,by omega,at1,_,_,rfl,(by show 1<=640;decide),v1_ (by omega),?_⟩
      refine⟨_,rfl,_,rfl,lf1,rfl,by omega,?_⟩
      have e3:tx (Txt.slice lf1 (some 2) none)=r3:=by
       have:=jw_ lf1 2
       rw[e1]at this
       exact this
      refine fin (Txt.slice lf1 (some 2) none) ((d:Int)-48) ?_ (AZ (Bc lf1 _ _) l1)
      rw[e3,<-stp]
      exact if_pos ⟨rfl,by omega,by omega⟩
  rintro σ _ ⟨lf',rfl,rfl,e1,l1⟩
  have ll:=jG_ i (tx z)
  refine⟨_,rfl,.inl ⟨rfl,_,SqL.of h1⟩,_,rfl,l0,_,_,rfl,rfl,h1,by rw[AF];omega,?_⟩
  rw[et]at hst
  subst hst
  refine⟨⟨lf',_,_,rfl,e1,l1⟩,jh_ h0 s1 _,?_⟩
  rw[qd_]
  show some (HO.lst ((rpN i (tx z)).1.map V.int++[V.int _]))=some (HO.lst (((rpN i (tx z)).1++[_]).map V.int))
  rw[Av]
  rfl
 ·rintro σ H1 ⟨⟨lf,c4,c5,rfl,et,hl⟩,s1,h1⟩
  rw[adu_ n4]at et h1
  refine⟨_,rfl,rfl,_,rfl,?_⟩
  by_cases c:tx lf=[]
  case neg =>
   refine aj4_ (λy=>c ((qK_ za_).mp y)) ⟨(by show 1<=sizeLine;decide),e ?_ _ s1⟩
   unfold rpO
   exact if_neg λy=>c (et.trans y.1)
  refine aas_ ((qK_ za_).mpr c) ?_
  refine⟨_,rfl,l0,_,rfl,SqL.of h1,_,_,rfl,rfl,_,rfl,?_⟩
  by_cases c8:8<(rpN n (tx z)).1.sum
  ·refine qB_ c8 ⟨(by show 1<=sizeLine;decide),e ?_ _ s1⟩
   unfold rpO
   exact if_neg λy=>by omega
  refine qw_ c8 ?_
  refine⟨_,rfl,l0,_,rfl,.inl ⟨SqL.of h1,λt ht=>?_⟩⟩
  refine q _ ?_ t _ (s1.trans (qf_ ht _)) qd_
  unfold rpO
  exact if_pos ⟨et.symm.trans c,by omega⟩
def figs:Str:=Str.ofString "0123456789"
theorem af8_:tx figs=[48,49,50,51,52,53,54,55,56,57]:=by decide +kernel
theorem ag5_(c:Nat):figs.cps.contains c=isD c:=by
 have e:figs.cps.contains c=(tx figs).contains c:=by
  show _=figs.cps.toList.contains c
  rw[Array.contains_toList]
 rw[e,af8_,Bi]
 unfold isD
 simp only[List.contains_iff_mem,AI,Aw,or_false,decide_eq_true_eq]
 omega
theorem yc_(f:Nat->Bool):∀(l:List Nat)(c:Nat),c∈l.takeWhile f->f c=true
 |[],_,h=>by cases h
 |x::l,c,h=>by
  rw[CG]at h
  by_cases e:f x=true
  ·rw[if_pos e]at h
   rcases AI.mp h with rfl|h
   ·exact e
   ·exact yc_ f l c h
  ·rw[if_neg e]at h
   cases h
theorem aer_(f:Nat->Bool)(l:List Nat):l.take (l.length-(l.dropWhile f).length)=l.takeWhile f:=by
 have e:=List.takeWhile_append_dropWhile (p:=f) (l:=l)
 have n:l.length-(l.dropWhile f).length=(l.takeWhile f).length:=by
  have:=congrArg List.length e
  rw[AQ]at this
  omega
 rw[n]
 conv=>lhs;arg 2;rw[<-e]
 rw[List.take_left']
 rfl
theorem ajl_:∀l:List Nat,NumText.AllDigits l->NumText.digitsVal l<10^l.length:=by
 refine jp_ (λ_=>by decide) λl c ih h=>?_
 have h1:=ih λx hx=>h x (Ay _ hx)
 have h2:=h c (by simp)
 rw[PySem.NumText.digitsVal_snoc,AQ,CW,Nat.pow_succ]
 omega
theorem afk_{l:List Nat}{x:Int}(hd:NumText.AllDigits l)(h:rcO l=some x):x.natAbs<2^200:=by
 unfold rcO at h
 by_cases c:l=[]
 ·rw[if_pos c]at h
  cases h
  decide
 rw[if_neg c]at h
 by_cases c2:l.head?=some 48∨60<l.length
 ·rw[if_pos c2]at h
  cases h
 rw[if_neg c2]at h
 cases h
 have:=ajl_ l hd
 have h2:(10:Nat)^l.length<=10^60:=Cn (by decide) (by omega)
 have h3:(10:Nat)^60<2^200:=by decide
 rw[Int.natAbs_natCast]
 omega
abbrev nRt:List Str:=["many", "sign", "word", "unknowns", "count"]
abbrev pRt:List Str:=["many", "sign", "word"]
theorem scRt:FnScope nRt pRt (qm_ sRt):=⟨rfl,rfl,rfl,by decide +kernel,rfl,by decide +kernel,by decide +kernel⟩
def spRt(c1:Addr):Sp:=λvs H Q E=>∃(n:Nat)(s w:Str),vs=[.int n,.str s,.str w]/\n<=4/\w.length<=100000/\(rtO n (tx s) (tx w)=none->∀H',Same H H'->E (.ref c1) none H')/\∀t,rtO n (tx s) (tx w)=some t->∀(p:Addr)(H':Hp),Same H H'->Dat.is H' (.ref p) t->Q (.ref p) H'
theorem akf_{c1:Addr}{tf:Tok}(F:Fun K "read_term" "read_term" sRt f fd)(X1:Exc1 K mg "NoText" c1)(GC:HasX P w K mg base 3 "read_count" nRn (spRn c1))(GP:HasX P w K mg base 3 "read_powers" pRp (spRp c1))(GS:HasX P w K mg base 3 "read_sign" nRs (spRs c1))(gF:mg "FIGURES" = some (.str figs tf))(mn:mg "len" = none):FnOk P w K mg base (CX1 P w) 4 f fd pRt (spRt c1):=by
 refine Fun.okx F scRt (λvs H Q E h=>?_) (λcdv A outer s H vs Q E hr h=>?_)
 ·obtain⟨n,s,w,rfl,_⟩:=h
  rfl
 obtain⟨n,sg,wd,rfl,n4,hw,e,q⟩:=h
 have sz:sizeLine=16777216:=rfl
 refine⟨_,qc_ (qt_ (qk_ qH_ (pv 2) qh_ (qn_ _)) (qg_ (zW_ rfl rs1 BL rfl X1.at_ X1.is (qa_ qh_ qb_))) qq_)
  (qc_ (qj_ (i:=3) scRt.nd rfl (Or.inl rfl) (zu_ BC PySem.F.slot_str_lstrip PySem.F.type_str_lstrip acn_ (pv 2) (qa_ (qL_ (v:=.str figs) rfl gF ⟨_,rfl⟩) qb_)))
  (qc_ (qj_ (i:=4) scRt.nd rfl (Or.inl rfl) (zc_ GC.ok hr rfl GC.at_ GC.kp GC.bd .nil yR_ (qa_ (qs_ qW_ (pv 2) qy_ (qr_ (qi_ x8_ (qo_ zb_ rfl mn Au (qa_ (pv 2) qb_)) (qo_ zb_ rfl mn Au (qa_ (pv 3) qb_))))) qb_)))
  (qg_ (qp_ (zw_ (qa_ (zc_ GP.ok hr rfl GP.at_ GP.kp GP.bd .nil yR_ (qa_ (pv 0) (qa_ (pv 3) qb_))) (qa_ (qi_ v7_ (zc_ GS.ok hr rfl GS.at_ GS.kp GS.bd .nil yR_ (qa_ (pv 1) qb_)) (pv 4)) qb_))))))),?_⟩
 refine⟨_,rfl,rfl,_,rfl,?_⟩
 by_cases c0:tx wd=[]
 ·exact qB_ ((qK_ za_).mpr c0) ⟨(by show 1<=sizeLine;decide),e (by unfold rtO;rw[if_pos c0]) _ (Same.refl _)⟩
 refine qw_ (λy=>c0 ((qK_ za_).mp y)) ?_
 refine⟨_,rfl,rfl,wd,_,rfl,rfl,by omega,?_⟩
 have eu:tx (Txt.lstripChars wd figs)=(tx wd).dropWhile isD:=by
  rw[ack_]
  congr 1
  funext c
  exact ag5_ c
 have lu:(Txt.lstripChars wd figs).length<=wd.length:=by
  rw[<-qA_,<-qA_,eu]
  exact(List.dropWhile_sublist _).length_le
 show qU_ 3 (.str (Txt.lstripChars wd figs)) _ _ _
 generalize Txt.lstripChars wd figs=u at *
 refine⟨_,rfl,_,rfl,wd,rfl,by omega,_,rfl,u,rfl,by omega,_,_,rfl,rfl,_,rfl,wd,rfl,by omega,?_⟩
 have ef:tx (Txt.slice wd none (some ((wd.length:Int)-(u.length:Int))))=(tx wd).takeWhile isD:=by
  rw[show(wd.length:Int)-(u.length:Int)=((wd.length-u.length:Nat):Int) by omega,jN_,<-qA_ wd,<-qA_ u,eu,aer_]
 have lf:(Txt.slice wd none (some ((wd.length:Int)-(u.length:Int)))).length<=100000:=AZ (Bc wd _ _) hw
 generalize Txt.slice wd none (some ((wd.length:Int)-(u.length:Int)))=fg at ef lf
 have ad:NumText.AllDigits (tx fg):=λc hc=>by
  rw[ef]at hc
  exact of_decide_eq_true (yc_ isD _ c hc)
 have er:rtO n (tx sg) (tx wd)=rtM (rcO (tx fg)) (rpO n (tx u)) (rsO (tx sg)):=by
  unfold rtO
  rw[if_neg c0,ef,eu]
 refine⟨fg,rfl,ad,lf,λec H' s'=>e (by rw[er,ec];rfl) H' s',λcn ec=>?_⟩
 refine⟨_,rfl,_,rfl,n,u,rfl,n4,by omega,λep H' s'=>e (by rw[er,ec,ep];rfl) H' s',λps ep t H1 s1 h1=>?_⟩
 refine⟨_,rfl,sg,rfl,λes H' s'=>e (by rw[er,ec,ep,es];rfl) H' (s1.trans s'),λx es=>?_⟩
 have cb:=afk_ ad ec
 have xb:x.natAbs<=1:=by
  unfold rsO at es
  split at es
  ·cases es;decide
  ·split at es
   ·cases es;decide
   ·cases es
 refine⟨_,rfl,_,_,rfl,rfl,⟨zg_ (show x.natAbs<2^1 by omega) (by decide),zg_ cb (by decide)⟩,?_⟩
 refine⟨(by show 2<=sizeLine;decide),λp2 g2=>?_⟩
 refine q (ps,x*cn) (by rw[er,ec,ep,es];rfl) p2 _ (s1.trans (qf_ g2 _)) ?_
 exact jo_ qd_ (qf_ g2 _ _ _ h1)
abbrev nSt:List Str:=["line"]
theorem scSt:FnScope nSt nSt (qm_ sSt):=⟨rfl,rfl,rfl,by decide +kernel,rfl,by decide +kernel,by decide +kernel⟩
def spSt:Sp:=λvs H Q _=>∃z:Str,vs=[.str z]/\z.length<=50000/\∀(l:Addr)(ys:List Str),H l=none->ze_ [32] (ys.map tx)=jF_ (tx z)->ys.map tx≠[]->(∀w∈ys.map tx,32∉w)->(∀y∈ys,y.length<=60000)->ys.length<=60000->Q (.ref l) (upd H l (.lst (ys.map V.str)))
theorem abj_:tx (Str.ofString " ")=[32]:=by decide +kernel
theorem aj2_:tx (Str.ofString "- ")=[45,32]:=by decide +kernel
theorem aju_:tx (Str.ofString "+ ")=[43,32]:=by decide +kernel
theorem aci_{H:Hp}{Q:VK}{x z:Str}(hx:tx x=jF_ (tx z))(hl:x.length<=50002)(q:∀(l:Addr)(ys:List Str),H l=none->ze_ [32] (ys.map tx)=jF_ (tx z)->ys.map tx≠[]->(∀w∈ys.map tx,32∉w)->(∀y∈ys,y.length<=60000)->ys.length<=60000->Q (.ref l) (upd H l (.lst (ys.map V.str)))) :
  ∃a b:Str,V.str x=.str a/\[V.str (Str.ofString " ")]=[V.str b]/\(b.length==0)=false/\a.length<=100000/\∀l,H l=none->Q (.ref l) (upd H l (.lst ((Txt.split a b).map V.str))):=by
 refine⟨x,_,rfl,rfl,by decide +kernel,by omega,λl hl'=>?_⟩
 obtain⟨h1,h2,h3⟩:=xR_ (x:=x) abj_
 have:=Du x (Str.ofString " ")
 exact q l _ hl' (h1.trans hx) h2 h3 (λy hy=>AZ (DX hy) (by omega)) (by omega)
theorem aj0_(F:Fun K "signs_and_terms" "signs_and_terms" sSt f fd):FnOk P w K mg base CX0 2 f fd nSt spSt:=by
 refine F.ok scSt (λvs H Q E h=>?_) (λcdv A outer s H vs Q E hr h=>?_)
 ·obtain⟨z,rfl,_⟩:=h
  rfl
 obtain⟨z,rfl,hz,q⟩:=h
 have sz:sizeLine=16777216:=rfl
 refine⟨_,qc_ (qt_ (zm_ (zu_ BC Br Bt jA_ (pv 0) (qa_ qh_ qb_)))
   (qg_ (qp_ (zu_ BC CQ CS xW_ (qi_ qY_ qh_ (qs_ qW_ (pv 0) (qr_ qe_) qy_)) (qa_ qh_ qb_)))) qq_)
  (qg_ (qp_ (zu_ BC CQ CS xW_ (qi_ qY_ qh_ (pv 0)) (qa_ qh_ qb_)))),?_⟩
 have l2:(Str.ofString "- ").length=2:=by decide +kernel
 have l3:(Str.ofString "+ ").length=2:=by decide +kernel
 refine⟨_,rfl,rfl,z,_,rfl,rfl,_,rfl,?_⟩
 rw[xF_ xD_]
 by_cases c:(tx z).head?=some 45
 ·refine qB_ c ?_
  have ls:=Bc z (some 1) none
  refine⟨_,rfl,_,rfl,z,rfl,by omega,_,_,rfl,rfl,by omega,rfl,?_⟩
  refine aci_ (z:=z) ?_ (by rw[zr_];omega) q
  rw[zT_,aj2_,show(some (1:Int))=some ((1:Nat):Int) from rfl,jw_]
  unfold jF_
  rw[if_pos c]
  rfl
 ·refine qw_ c ?_
  refine⟨_,rfl,_,_,rfl,rfl,by omega,rfl,?_⟩
  refine aci_ (z:=z) ?_ (by rw[zr_];omega) q
  rw[zT_,aju_]
  unfold jF_
  rw[if_neg c]
  rfl
abbrev afq_:List Str:=["many", "line", "words"]
abbrev abg_:List Str:=["many", "line"]
abbrev bRead:List Str:=["sign", "word", "many"]
theorem ab6_:bRead.Nodup:=by decide +kernel
theorem scRead:FnScope afq_ abg_ (qm_ yX_):=⟨rfl,rfl,rfl,by decide +kernel,rfl,by decide +kernel,by decide +kernel⟩
structure Tk(l:List Nat)(ws:List (List Nat)):Prop where
 ne:ws≠[]
 free:∀w∈ws,32∉w
 is:ze_ [32] ws=l
def rdL(n:Nat):List (List Nat)->Option (List Mon)
 |[]=>some []
 |[_]=>none
 |s::w::r=>match rtO n s w,rdL n r with
  |some t,some ts=>some (t::ts)
  |_,_=>none
def rdO(n:Nat)(l:List Nat)(ws:List (List Nat)):Option (List Mon):=if l=[48] then some [] else rdL n ws
theorem ace_{α:Type}(w:α)(r:List α):evL (w::r)=w::evL (r.drop 1):=by
 cases r<;>rfl
theorem xV_{n:Nat}{s w:List Nat}{r:List (List Nat)}{ts:List Mon}(h:rdL n (s::w::r)=some ts):∃t us,rtO n s w=some t/\rdL n r=some us/\ts=t::us:=by
 unfold rdL at h
 cases e1:rtO n s w with
 |none=>rw[e1]at h;cases h
 |some t =>
  cases e2:rdL n r with
  |none=>rw[e1,e2]at h;cases h
  |some us=>rw[e1,e2]at h;exact⟨t,us,rfl,rfl,(AX h).symm⟩
theorem xY_{n:Nat}:∀{ws:List (List Nat)}{ts:List Mon},rdL n ws=some ts->ws.length%2=0/\ts.length=(evL (ws.drop 1)).length/\∀(i:Nat)(s w:List Nat),(evL ws)[i]?=some s->(evL (ws.drop 1))[i]?=some w->∃t,ts[i]?=some t/\rtO n s w=some t
 |[],ts,h=>by
  cases h
  exact⟨rfl,rfl,λi s w h1=>by cases h1⟩
 |[_],ts,h=>by cases h
 |s::w::r,ts,h=>by
  obtain⟨t,us,e1,e2,rfl⟩:=xV_ h
  obtain⟨a,b,c⟩:=xY_ e2
  have e3:evL ((s::w::r).drop 1)=w::evL (r.drop 1):=ace_ w r
  refine⟨by rw[AN,AN];omega,by rw[e3,AN,AN,b],λi x y h1 h2=>?_⟩
  rw[e3]at h2
  cases i with
  |zero =>
   have q1:s=x:=AX h1
   have q2:w=y:=AX h2
   subst q1 q2
   exact⟨t,rfl,e1⟩
  |succ i=>exact c i x y h1 h2
theorem ve_{n:Nat}:∀{ws:List (List Nat)},rdL n ws=none->ws.length%2=0->∃(j:Nat)(s w:List Nat),(evL ws)[j]?=some s/\(evL (ws.drop 1))[j]?=some w/\rtO n s w=none
 |[],h,_=>by cases h
 |[_],_,h=>by cases h
 |s::w::r,h,h2=>by
  have e3:evL ((s::w::r).drop 1)=w::evL (r.drop 1):=ace_ w r
  cases e1:rtO n s w with
  |none=>exact⟨0,s,w,rfl,by rw[e3];rfl,e1⟩
  |some t =>
   cases e2:rdL n r with
   |some us=>unfold rdL at h;rw[e1,e2]at h;cases h
   |none =>
    obtain⟨j,x,y,a,b,c⟩:=ve_ e2 (by rw[AN,AN]at h2;omega)
    exact⟨j+1,x,y,a,by rw[e3];exact b,c⟩
theorem aad_{n:Nat}{ws:List (List Nat)}(h:ws.length%2=1):rdL n ws=none:=by
 cases e:rdL n ws with
 |none=>rfl
 |some ts=>have:=(xY_ e).1;omega
theorem agr_:∀(n:Nat)(l:List Str)(x:Str),l.length<=n->x∈evL l->x∈l:=by
 intro n
 induction n with
 |zero=>intro l x h hx;rw[List.length_eq_zero_iff.mp (Nat.le_zero.mp h)]at hx;cases hx
 |succ n ih =>
  intro l x h hx
  match l,hx with
  |[y],hx=>exact hx
  |y::z::r,hx =>
   rcases AI.mp hx with rfl|hx
   ·exact AH ..
   ·exact AD _ (AD _ (ih r x (by simp at h;omega) hx))
def v5_(c1:Addr):Sp:=λvs H Q E=>∃(n:Nat)(z:Str)(ws:List (List Nat)),vs=[.int n,.str z]/\1<=n/\n<=4/\z.length<=50000/\Tk (jF_ (tx z)) ws/\(rdO n (tx z) ws=none->∀H',Same H H'->E (.ref c1) none H')/\∀ts,rdO n (tx z) ws=some ts->∀(l:Addr)(H':Hp),H l=none->Same H H'->LstAt H' l (norm ts)->Q (.ref l) H'
theorem x9_{l:List Str}{i:Nat}{x:V}(h:(l.map V.str)[i]?=some x):∃s,l[i]?=some s/\V.str s=x:=by
 rw[Ac]at h
 cases e:l[i]? with
 |none=>rw[e]at h;cases h
 |some y=>rw[e]at h;exact⟨y,rfl,AX h⟩
theorem ju_{α β:Type}(g:α->β):∀(n:Nat)(l:List α),l.length<=n->(evL l).map g=evL (l.map g)
 |_,[],_=>rfl
 |_,[x],_=>rfl
 |0,x::y::r,h=>by simp at h
 |n+1,x::y::r,h=>by
  show g x::(evL r).map g=g x::evL (r.map g)
  rw[ju_ g n r (by simp at h;omega)]
theorem aam_{α:Type}(l:List α):(List.range l.length).filterMap (λi=>l[i]?)=l:=by
 have:=z7_ (some:α->Option α) l
 rw[List.filterMap_some]at this
 refine Eq.trans ?_ this
 congr 1
 funext i
 cases l[i]?<;>rfl
theorem v2_{n:Nat}{a c:Option Int}{l:List Nat}{t:Mon}(h:rtM a (rpO n l) c=some t):t.1.length=n:=by
 match a,e:rpO n l,c,h with
 |some a,some p,some x,h =>
  unfold rpO at e
  split at e
  ·cases e
   cases h
   exact jG_ _ _
  ·cases e
 |none,none,_,h=>cases h
 |none,some _,_,h=>cases h
 |some _,none,_,h=>cases h
 |some _,some _,none,h=>cases h
theorem agu_{c0 c1:Addr}(F:Fun K "read" "read" yX_ f fd)(GC:HasX P w K mg base 5 "refuse_bad_count" ["many"] (ab7_ c0))(GS:Has P w K mg base 5 "signs_and_terms" nSt spSt)(GT:HasX P w K mg base 5 "read_term" pRt (spRt c1))(GG:Has P w K mg base 5 "gathered" ["terms"] acy_)(X1:Exc1 K mg "NoText" c1)(mn:mg "len" = none)(mz:mg "zip" = none):FnOk P w K mg base (CX1 P w) 6 f fd abg_ (v5_ c1):=by
 refine Fun.okx F scRead (λvs H Q E h=>?_) (λcdv A outer s H vs Q E hr h=>?_)
 ·obtain⟨n,z,ws,rfl,_⟩:=h
  rfl
 obtain⟨n,z,ws,rfl,n1,n4,hz,tk,e,q⟩:=h
 have sz:sizeLine=16777216:=rfl
 refine⟨_,qc_ (jg_ (zc_ GC.ok hr rfl GC.at_ GC.kp GC.bd .nil yR_ (qa_ (pv 0) qb_)))
  (qc_ (qt_ (qk_ qH_ (pv 1) qh_ (qn_ _)) (qg_ (qp_ (qD_ qb_))) qq_)
  (qc_ (qj_ (i:=2) scRead.nd rfl (Or.inl rfl) (qV_ GS hr rfl (qa_ (pv 1) qb_)))
  (qc_ (qt_ (qk_ qH_ (qi_ q1_ (qo_ q0_ rfl mn Au (qa_ (pv 2) qb_)) qe_) qe_ (qn_ _)) (qg_ (zW_ rfl rs1 BL rfl X1.at_ X1.is (qa_ qh_ qb_))) qq_)
  (qg_ (qp_ (qV_ GG hr rfl (qa_ (adx_ lv1 rfl rfl (N':=bRead) (src:=[none,none,some 0]) rfl (adg_ .lst .lst rfl mz (qa_ (ai1_ (pv 2)) (qa_ (ah6_ (pv 2)) qb_))) (yb_ (qm_ yX_) afq_ (by decide +kernel))
   (λb=>jk_ rfl (qR_ (qz_ (i:=0) ab6_ rfl (Or.inl rfl)) (qR_ (qz_ (i:=1) ab6_ rfl (Or.inl rfl)) zV_))) (λb=>ys_) (λb=>zc_ GT.ok hr rfl GT.at_ GT.kp GT.bd .nil akn_ (qa_ (pv 2) (qa_ (pv 0) (qa_ (pv 1) qb_))))) qb_))))))),?_⟩
 refine⟨_,rfl,(n:Int),rfl,λhm=>?_,λhm=>absurd ⟨by omega,by omega⟩ hm⟩
 refine⟨_,rfl,rfl,_,rfl,?_⟩
 by_cases c:tx z=[48]
 ·exact qB_ ((qK_ j2_).mpr c) ⟨(by show 0<=sizeLine;decide),λl hl=>q [] (if_pos c) l _ hl (qf_ hl _) ⟨[],qd_,.nil⟩⟩
 have ro:rdO n (tx z) ws=rdL n ws:=if_neg c
 rw[ro]at e q
 refine qw_ (λy=>c ((qK_ j2_).mp y)) ?_
 refine⟨_,rfl,z,rfl,hz,λl ys hl g1 g2 g3 yl ym=>?_⟩
 have ey:ys.map tx=ws:=vh_ 32 _ _ g2 tk.ne g3 tk.free (g1.trans tk.is.symm)
 have s1:=qf_ hl (.lst (ys.map V.str))
 have hl1:upd H l (.lst (ys.map V.str)) l=some (.lst (ys.map V.str)):=qd_
 have ly:ys.length=ws.length:=by rw[<-ey,AF]
 show qU_ 2 (.ref l) _ (upd H l (.lst (ys.map V.str))) _
 generalize upd H l (.lst (ys.map V.str))=H1 at *
 refine⟨_,rfl,l,_,rfl,.inl (SqL.of hl1),_,_,rfl,rfl,(by show(0:Int)<2;decide),rfl,_,rfl,?_⟩
 by_cases odd:ws.length%2=1
 ·refine qB_ ?_ ⟨(by show 1<=sizeLine;decide),e (aad_ odd) _ s1⟩
  show V.int _=V.int 1
  rw[AF]
  congr 1
  omega
 refine qw_ (λy=>?_) ?_
 ·injection y with y
  rw[AF]at y
  omega
 refine⟨_,rfl,l,_,rfl,SqL.of hl1,λpa ga=>?_⟩
 have va:=qf_ ga (.lst (evL ((ys.map V.str).drop (if false then 1 else 0))))
 refine⟨_,rfl,l,_,rfl,SqL.of (va _ _ hl1),λpb gb=>?_⟩
 have vb:=qf_ gb (.lst (evL ((ys.map V.str).drop (if true then 1 else 0))))
 have ea:evL ((ys.map V.str).drop (if false then 1 else 0))=(evL ys).map V.str:=by
  rw[ju_ _ _ _ (AB _)]
  rfl
 have eb:evL ((ys.map V.str).drop (if true then 1 else 0))=(evL (ys.drop 1)).map V.str:=by
  rw[ju_ _ _ _ (AB _),DB]
  rfl
 have h2:upd (upd H1 pa (.lst (evL ((ys.map V.str).drop (if false then 1 else 0))))) pb (.lst (evL ((ys.map V.str).drop (if true then 1 else 0)))) pa=some (.lst ((evL ys).map V.str)):=by rw[<-ea];exact vb _ _ qd_
 have h3:upd (upd H1 pa (.lst (evL ((ys.map V.str).drop (if false then 1 else 0))))) pb (.lst (evL ((ys.map V.str).drop (if true then 1 else 0)))) pb=some (.lst ((evL (ys.drop 1)).map V.str)):=by rw[<-eb];exact qd_
 have z3:Same H (upd (upd H1 pa (.lst (evL ((ys.map V.str).drop (if false then 1 else 0))))) pb (.lst (evL ((ys.map V.str).drop (if true then 1 else 0))))):=s1.trans (va.trans vb)
 refine⟨pa,pb,rfl,⟨_,SqL.of h2⟩,⟨_,SqL.of h3⟩,λbk D hD=>?_⟩
 have l1:(evL ys).length=(evL ws).length:=by rw[<-ey,<-ju_ _ _ _ (AB _),AF]
 have l2:(evL (ys.drop 1)).length=(evL (ws.drop 1)).length:=by rw[<-ey,<-DB,<-ju_ _ _ _ (AB _),AF]
 have l3:=ya_ _ ys (AB _)
 have l4:=ya_ _ (ys.drop 1) (AB _)
 rw[Ap]at l4
 have w1:∀{i:Nat}{sx:Str},(evL ys)[i]?=some sx->(evL ws)[i]?=some (tx sx):=λ{i sx} ex=>by rw[<-ey,<-ju_ _ _ _ (AB _),Ac,ex];rfl
 have w2:∀{i:Nat}{sy:Str},(evL (ys.drop 1))[i]?=some sy->(evL (ws.drop 1))[i]?=some (tx sy):=λ{i sy} ex=>by rw[<-ey,<-DB,<-ju_ _ _ _ (AB _),Ac,ex];rfl
 have my:∀{i:Nat}{sy:Str},(evL (ys.drop 1))[i]?=some sy->sy.length<=60000:=λ{i sy} ex=>yl sy (Bz (agr_ _ _ _ (AB _) (Aq ex)))
 cases hrd:rdL n ws with
 |none =>
  obtain⟨j,sj,wj,j1,j2,j3⟩:=ve_ hrd (by omega)
  have k1:=(AY.mp j1).1
  have k2:=(AY.mp j2).1
  refine ac7_ (j:=j) (k1:=.lst) (k2:=.lst) hD (SqL.of h2) (SqL.of h3) (λσ=>∃c d,σ=[c,d,some (.int n)]) (by rw[AF];omega) (by rw[AF];omega) (by omega) ?_ ?_
  ·exact⟨_,_,rfl⟩
  rintro i x y p2 σ H4 Yes No hx hy hij hp2 ⟨cc,dd,rfl⟩ s4 yes
  obtain⟨sx,ex,rfl⟩:=x9_ hx
  obtain⟨sy,ey2,rfl⟩:=x9_ hy
  have my:=my ey2
  refine⟨p2,_,rfl,SqT.of qd_,rfl,_,_,rfl,_,_,rfl,rfl,?_⟩
  refine yesT ?_
  refine⟨_,rfl,_,rfl,_,rfl,n,sx,sy,rfl,by omega,by omega,λ_ H5 s5=>e hrd H5 (z3.trans (s4.trans ((qf_ hp2 _).trans s5))),λt et p5 H5 s5 h5=>?_⟩
  have hne:i≠j:=λz=>by
   subst z
   rw[w1 ex]at j1
   rw[w2 ey2]at j2
   cases j1
   cases j2
   rw[et]at j3
   cases j3
  exact yes _ _ _ (by omega) ⟨_,_,rfl⟩ ((qf_ hp2 _).trans s5)
 |some ts =>
 obtain⟨_,wl,wt⟩:=xY_ hrd
 refine aeu_ (α:=Mon) (k1:=.lst) (k2:=.lst) hD (SqL.of h2) (SqL.of h3) (λσ=>∃c d,σ=[c,d,some (.int n)]) (λi=>ts[i]?) (small (by rw[AF,AF];omega)) ?_ ?_ ?_
 ·exact⟨_,_,rfl⟩
 ·rintro i x y p2 σ H4 Yes No hx hy hp2 ⟨cc,dd,rfl⟩ s4 yes no
  obtain⟨sx,ex,rfl⟩:=x9_ hx
  obtain⟨sy,ey2,rfl⟩:=x9_ hy
  obtain⟨t,et,er⟩:=wt i _ _ (w1 ex) (w2 ey2)
  have my:=my ey2
  refine⟨p2,_,rfl,SqT.of qd_,rfl,_,_,rfl,_,_,rfl,rfl,?_⟩
  refine yesT ?_
  refine⟨_,rfl,_,rfl,_,rfl,n,sx,sy,rfl,by omega,by omega,(λz=>by rw[er]at z;cases z),λt' et' p5 H5 s5 h5=>?_⟩
  rw[er]at et'
  cases et'
  exact yes _ _ _ t ⟨_,_,rfl⟩ ((qf_ hp2 _).trans s5) et h5
 rintro H5 s5 h5
 have en:min ((evL ys).map V.str).length ((evL (ys.drop 1)).map V.str).length=ts.length:=by
  rw[AF,AF,wl,<-l2]
  omega
 rw[en,aam_]at h5
 refine⟨D,ts,rfl,h5,λt ht=>?_,by rw[wl,<-l2];omega,λl9 H9 f9 s9 h9=>?_⟩
 ·obtain⟨i,hi,rfl⟩:=D5 ht
  obtain⟨t,et,er⟩:=wt i _ _ (AK (show i<(evL ws).length by omega)) (AK (show i<(evL (ws.drop 1)).length by omega))
  rw[AK hi]at et
  cases et
  intro z0
  have:ts[i].1.length=n:=by
   unfold rtO at er
   split at er
   ·cases er
   ·exact v2_ er
  rw[z0]at this
  simp at this
  omega
 ·exact q ts hrd l9 H9 (z3.free (s5.free f9)) (z3.trans (s5.trans s9)) h9
abbrev nW:List Str:=["_law_found"]
theorem scW:FnScope nW ["_law_found"] (qm_ vD_):=⟨rfl,rfl,rfl,by decide +kernel,rfl,by decide +kernel,by decide +kernel⟩
def aae_:Sp:=λvs H Q _=>∃n:Int,vs=[.int n]/\Q (.bl true) H
theorem ado_(F:Fun K "_law_whole" "_law_whole" vD_ f fd)(mi:mg "isinstance" = none)(m1:mg "int" = none)(m2:mg "bool" = none):FnOk P w K mg base CX0 2 f fd ["_law_found"] aae_:=by
 refine F.ok scW (λvs H Q E h=>?_) (λcdv A outer s H vs Q E hr h=>?_)
 ·obtain⟨n,rfl,_⟩:=h
  rfl
 obtain⟨n,rfl,q⟩:=h
 refine⟨_,qg_ (qp_ (abp_ (qo_ zy_ rfl mi AM (qa_ (pv 0) (qa_ (ji_ (v:=.ty "int") rfl m1 BG rfl) qb_)))
  (acf_ (aie_ (qo_ zy_ rfl mi AM (qa_ (pv 0) (qa_ (ji_ (v:=.ty "bool") rfl m2 PyProof.Rows.boot_bool rfl) qb_))))))),?_⟩
 exact⟨_,rfl,_,_,_,_,rfl,TyOf.int _,xa_ _ _,_,rfl,ja_ ⟨_,rfl,_,_,_,_,rfl,TyOf.int _,vs_ _,_,rfl,q⟩⟩
abbrev nC:List Str:=["_law_script", "_law_k"]
theorem scC:FnScope nC nC (qm_ aa0_):=⟨rfl,rfl,rfl,by decide +kernel,rfl,by decide +kernel,by decide +kernel⟩
def ach_(K:PySem.W.Frag):Sp:=λvs H Q _=>∃(a:Addr)(ns:List Int)(k:Nat),vs=[.ref a,.int k]/\SqL K H a (ns.map V.int)/\Q (.int (j3_ ns k)) H
theorem af2_(F:Fun K "_law_cell" "_law_cell" aa0_ f fd)(ml:mg "len" = none):FnOk P w K mg base CX0 2 f fd nC (ach_ K):=by
 refine F.ok scC (λvs H Q E h=>?_) (λcdv A outer s H vs Q E hr h=>?_)
 ·obtain⟨a,ns,k,rfl,_⟩:=h
  rfl
 obtain⟨a,ns,k,rfl,hS,q⟩:=h
 refine⟨_,qc_ (qt_ (qk_ yU_ (pv 1) (qo_ q0_ rfl ml Au (qa_ (pv 0) qb_)) (qn_ _)) (qg_ (qp_ (qi_ q1_ (qF_ qP_ (pv 0) (pv 1) (λ_ _=>rfl)) qe_))) qq_)
  (qg_ (qp_ qe_)),?_⟩
 refine⟨_,rfl,_,rfl,a,_,rfl,.inl hS,_,_,rfl,rfl,_,rfl,?_⟩
 unfold j3_ at q
 rw[AF]
 by_cases c:k<ns.length
 ·rw[if_pos c]at q
  refine qB_ (by omega) ⟨_,rfl,_,rfl,a,_,_,.int (ns.getD k 0),rfl,rfl,hS,?_,_,_,rfl,rfl,(by show(0:Int)<2147483647;decide),q⟩
  refine q2_ ?_
  rw[Ac,AK c]
  simp [c]
 ·rw[if_neg c]at q
  exact qw_ (by omega) q
abbrev nT:List Str:=["_law_cell_here", "_law_k", "_law_many", "_law_number"]
theorem scT:FnScope nT ["_law_cell_here", "_law_k", "_law_many"] (qm_ vm_):=⟨rfl,rfl,rfl,by decide +kernel,rfl,by decide +kernel,by decide +kernel⟩
def xK_:Sp:=λvs H Q _=>∃c k m:Int,vs=[.int c,.int k,.int m]/\0<=k/\k<=100000/\0<m/\Q (.int (q5_ c k m)) H
theorem adt_(F:Fun K "_law_thing" "_law_thing" vm_ f fd):FnOk P w K mg base CX0 2 f fd ["_law_cell_here", "_law_k", "_law_many"] xK_:=by
 refine F.ok scT (λvs H Q E h=>?_) (λcdv A outer s H vs Q E hr h=>?_)
 ·obtain⟨c,k,m,rfl,_⟩:=h
  rfl
 obtain⟨c,k,m,rfl,k0,k1,m0,q⟩:=h
 refine⟨_,qc_ (qj_ (i:=3) scT.nd rfl (Or.inl rfl) (qi_ q1_ (qi_ qM_ (qi_ qM_ (qi_ xn_ (qi_ q1_ (pv 0) qe_) qe_) (qi_ xn_ (qi_ xn_ qe_ (pv 1)) (pv 1))) (qi_ xn_ qe_ (pv 1))) qe_))
  (qg_ (qp_ (qi_ q1_ (qi_ q1_ (qi_ xn_ (pv 3) (pv 3)) qe_) (pv 2)))),?_⟩
 have z0:0<=(c%2147483647*48271+69621*k*k+7*k)%2147483629:=BO _ (by decide)
 have z1:(c%2147483647*48271+69621*k*k+7*k)%2147483629<2147483629:=A0 _ (by decide)
 refine⟨_,rfl,_,_,rfl,rfl,(by show(0:Int)<2147483647;decide),_,_,rfl,rfl,.inr ⟨by decide,by decide⟩,_,rfl,_,_,rfl,rfl,.inl ⟨by decide,by decide⟩,_,rfl,_,_,rfl,rfl,.inr ⟨?_,?_⟩,_,_,rfl,rfl,_,rfl,_,_,rfl,rfl,.inl ⟨by decide,by decide⟩,_,_,rfl,rfl,_,_,rfl,rfl,(by show(0:Int)<2147483629;decide),?_⟩
 ·show -(2^64)<k;omega
 ·show k<2^64;omega
 refine⟨_,rfl,_,rfl,_,_,rfl,rfl,.inl ⟨?_,?_⟩,_,_,rfl,rfl,(by show(0:Int)<2147483587;decide),_,rfl,_,_,rfl,rfl,m0,q⟩
 ·show -(2^64)<_%_;omega
 ·show _%_<(2^64:Int);omega
abbrev pP:List Str:=["_law_cell_here", "_law_far", "_law_many", "_law_weight"]
abbrev nP:List Str:=["_law_cell_here", "_law_far", "_law_many", "_law_weight", "_law_found", "_law_left", "_law_k", "_law_turn"]
theorem scP:FnScope nP pP (qm_ sPow):=⟨rfl,rfl,rfl,by decide +kernel,rfl,by decide +kernel,by decide +kernel⟩
def af1_:Sp:=λvs H Q _=>∃(c far w:Int)(n:Nat),vs=[.int c,.int far,.int n,.int w]/\1<=n/\n<=100/\0<=far/\far<=500/\0<=w/\w<=100000/\∀p H',Same H H'->H' p=some (.tup ((jn_ c far w n).map V.int))->Q (.ref p) H'
theorem ahy_(F:Fun K "_law_powers" "_law_powers" sPow f fd)(G:FnOk P w K mg base CX0 2 g gd ["_law_cell_here", "_law_k", "_law_many"] xK_)(bT:Binds K gd ["_law_cell_here", "_law_k", "_law_many"] [])(kT:PySem.W.keepIn K (.ref g)=true)(mT:mg "_law_thing" = some (.ref g))
  (mr:mg "range" = none) (mt:mg "tuple" = none):FnOk P w K mg base CX0 3 f fd pP af1_:=by
 refine F.ok scP (λvs H Q E h=>?_) (λcdv A outer s H vs Q E hr h=>?_)
 ·obtain⟨c,far,w,n,rfl,_⟩:=h
  rfl
 obtain⟨c,far,w,n,rfl,n1,n2,f0,f1,w0,w1,q⟩:=h
 refine⟨_,qc_ (qj_ (i:=4) scP.nd rfl (Or.inl rfl) (qD_ qb_))
  (qc_ (qj_ (i:=5) scP.nd rfl (Or.inl rfl) (pv 3))
  (qc_ (zf_ BA rfl (xu_ rfl mr (qa_ (pv 2) qb_)) (qz_ (i:=6) scP.nd rfl (Or.inl rfl))
   (qc_ (jg_ (zu_ Bo Bm Bn zk_ (pv 4) (qa_ (zc_ G hr rfl mT kT bT .nil xI_ (qa_ (pv 0) (qa_ (qi_ qM_ (pv 1) (pv 6)) (qa_ (qi_ qM_ (pv 5) qe_) qb_)))) qb_)))
   (qg_ (qj_ (i:=5) scP.nd rfl (Or.inl rfl) (qi_ x8_ (pv 5) (qF_ qP_ (pv 4) (yS_ yf_ qe_) (λ_ _=>rfl)))))))
  (qc_ (qt_ (qk_ qH_ (zc_ G hr rfl mT kT bT .nil xI_ (qa_ (pv 0) (qa_ (qi_ qM_ (pv 1) qe_) (qa_ qe_ qb_)))) qe_ (qn_ _))
   (qg_ (vd_ (qi_ qM_ (qF_ qP_ (pv 4) (yS_ yf_ qe_) (λ_ _=>rfl)) (pv 5)) (vf_ (pv 4) (yS_ yf_ qe_) xU_))) qq_)
  (qc_ (qj_ (i:=7) scP.nd rfl (Or.inl rfl) (zc_ G hr rfl mT kT bT .nil xI_ (qa_ (pv 0) (qa_ (qi_ qM_ (pv 1) qe_) (qa_ (pv 2) qb_)))))
  (qg_ (qp_ (qO_ zC_ rfl mt BX (qa_ (qi_ zi_ (qs_ jL_ (pv 4) (qr_ (pv 7)) qy_) (qs_ jL_ (pv 4) qy_ (qr_ (pv 7)))) qb_)))))))),?_⟩
 refine⟨(by show 0<=sizeLine;decide),λl hl=>?_⟩
 have s0:=qf_ hl (.lst [])
 refine⟨_,rfl,_,rfl,n,rfl,by omega,by omega,?_⟩
 refine xr_ (n:=(n:Int).toNat) (λi σ H'=>(∃c6 c7,σ=[some (.int c),some (.int far),some (.int n),some (.int w),some (.ref l),some (.int (qQ_ c far w i).2),c6,c7])/\i<=n/\H' l=some (.lst ((qQ_ c far w i).1.map V.int))/\Same H H') ?_ ?_ ?_
 ·exact⟨⟨_,_,rfl⟩,AU _,qd_,s0⟩
 ·rintro i σ H1 hi ⟨⟨c6,c7,rfl⟩,i1,h1,s1⟩
  obtain⟨p1,p2,p3,p4⟩:=j5_ (c:=c) (far:=far) w0 i
  refine⟨_,rfl,.inl ⟨rfl,_,SqL.of h1⟩,?_⟩
  refine⟨_,rfl,_,rfl,_,rfl,_,_,rfl,rfl,_,rfl,_,_,rfl,rfl,c,far+(0+(i:Int)),_,rfl,by omega,by omega,by omega,?_⟩
  have e0:far+(0+(i:Int))=far+(i:Int):=by omega
  rw[e0]
  refine⟨l,_,_,rfl,rfl,h1,x7_ (by rw[AF,p1];omega),?_⟩
  refine⟨_,rfl,_,rfl,_,rfl,l,_,_,_,rfl,rfl,SqL.of qd_,vv_ _ _,_,_,rfl,rfl,⟨_,_,rfl⟩,by omega,?_,?_⟩
  ·rw[qd_]
   show some (HO.lst _)=some (HO.lst (((qQ_ c far w i).1++[_]).map V.int))
   rw[Av]
   rfl
  ·intro b o e
   rw[ql_ (qv_ e hl)]
   exact s1 b o e
 ·rintro σ H1 ⟨⟨c6,c7,rfl⟩,_,h1,s1⟩
  have en:(n:Int).toNat=n:=by omega
  rw[en]at h1
  rw[en]
  obtain⟨p1,p2,p3,p4⟩:=j5_ (c:=c) (far:=far) w0 n
  obtain⟨l1,l2,l3⟩:=vj_ (c:=c) (far:=far) w0 n1
  have fin:∀H2:Hp,H2 l=some (.lst ((q4_ c far w n).map V.int))->Same H H2->(tSeq (tAsg (aap_ xK_ [] E0 (x1_ (j6_ 0) (x1_ (tOp (rI0 λi j=>V.int (i+j)) (j6_ 1) (tC (V.int 12))) (x1_ (j6_ 2) tNil)))) (qU_ 7))
    (tRet (tCB (λxs H Q=>∃p ys,xs=[.ref p]/\((SqL K H p ys/\∀l,H l=none->Q (.ref l) (upd H l (.tup ys)))∨(SqT K H p ys/\Q (.ref p) H))) (x1_ (tOp rCat (tSl (rSlL K) (j6_ 4) (aa2_ (j6_ 7)) yx_) (tSl (rSlL K) (j6_ 4) yx_ (aa2_ (j6_ 7)))) tNil)))) { nx:=λ_ H'=>Q .non H',rt:=Q }
    [some (.int c),some (.int far),some (.int n),some (.int w),some (.ref l),some (.int (qQ_ c far w n).2),c6,c7] H2:=by
   intro H2 h2 s2
   have t0:=xO_ (c:=c) (k:=far+12) (show(0:Int)<(n:Int) by omega)
   have t1:=xX_ (c:=c) (k:=far+12) (show(0:Int)<(n:Int) by omega)
   refine⟨_,rfl,_,rfl,_,_,rfl,rfl,_,rfl,c,far+12,n,rfl,by omega,by omega,by omega,?_⟩
   obtain⟨t,ht⟩:∃t:Nat,q5_ c (far+12) n=t:=⟨(q5_ c (far+12) n).toNat,by omega⟩
   rw[ht]
   refine⟨_,rfl,_,rfl,_,rfl,l,_,rfl,SqL.of h2,λq1 hq1=>?_⟩
   have s3:=qf_ hq1 (.lst (qJ_ ((q4_ c far w n).map V.int) (some (t:Int)) none))
   refine⟨_,rfl,_,rfl,_,rfl,l,_,rfl,SqL.of (s3 _ _ h2),λq2 hq2=>?_⟩
   have s4:=qf_ hq2 (.lst (qJ_ ((q4_ c far w n).map V.int) none (some (t:Int))))
   refine⟨q1,q2,_,_,rfl,rfl,s4 _ _ qd_,qd_,?_,λq3 hq3=>?_⟩
   ·have z1:=zz_ ((q4_ c far w n).map V.int) (some (t:Int)) none
    have z2:=zz_ ((q4_ c far w n).map V.int) none (some (t:Int))
    rw[AF]at z1 z2
    exact small (by omega)
   have s5:=qf_ hq3 (.lst (qJ_ ((q4_ c far w n).map V.int) (some (t:Int)) none++qJ_ ((q4_ c far w n).map V.int) none (some (t:Int))))
   refine⟨q3,_,rfl,.inl ⟨SqL.of qd_,λq4 hq4=>?_⟩⟩
   have s6:=qf_ hq4 (.tup (qJ_ ((q4_ c far w n).map V.int) (some (t:Int)) none++qJ_ ((q4_ c far w n).map V.int) none (some (t:Int))))
   refine q q4 _ (s2.trans (s3.trans (s4.trans (s5.trans s6)))) ?_
   rw[qd_,agt_,ahf_]
   unfold jn_
   rw[ht,Av,DB,List.map_take]
   rfl
  refine⟨_,rfl,_,rfl,_,_,rfl,rfl,c,far+11,3,rfl,by omega,by omega,by decide,rfl,_,rfl,?_⟩
  refine ite2 (λe=>?_) (λe=>?_)
  ·have e':q5_ c (far+11) 3=0:=by
    have:=of_decide_eq_true e
    injection this
   have ne:(qQ_ c far w n).1≠[]:=by intro z;rw[z]at p1;simp at p1;omega
   obtain⟨m,x,em⟩:∃m x,(qQ_ c far w n).1=m++[x]:=⟨_,_,(Cu ne).symm⟩
   rw[em,Av]at h1
   refine⟨_,rfl,_,rfl,l,_,_,.int x,rfl,rfl,SqL.of h1,vv_ _ _,_,rfl,_,_,rfl,rfl,_,rfl,_,rfl,l,_,_,_,rfl,rfl,h1,ae7_ (by simp),?_⟩
   rw[List.map_singleton,aex_]
   refine fin _ ?_ λb o e2=>?_
   ·rw[qd_]
    unfold q4_
    rw[if_pos e',em]
    unfold padd
    rw[Dz,D0,Av]
    rfl
   ·rw[ql_ (qv_ e2 hl)]
    exact s1 b o e2
  ·have e':¬ q5_ c (far+11) 3=0:=λz=>e (decide_eq_true (congrArg V.int z))
   refine fin H1 ?_ s1
   unfold q4_
   rw[if_neg e']
   exact h1
abbrev nU:List Str:=["_law_terms", "_law_counts", "_law_powers_here", "_law_number"]
abbrev bU:List Str:=["_law_powers_here", "_law_number"]
theorem ndU:bU.Nodup:=by decide +kernel
theorem scU:FnScope nU ["_law_terms"] (qm_ sSum):=⟨rfl,rfl,rfl,by decide +kernel,rfl,by decide +kernel,by decide +kernel⟩
def aaz_:Sp:=λvs H Q _=>∃(a:Addr)(ts:List Mon),vs=[.ref a]/\LstAt H a ts/\ts.length<=100000/\∀(l:Addr)(H':Hp),H l=none->Same H H'->LstAt H' l (norm ts)->Q (.ref l) H'
theorem ahl_(F:Fun K "_law_sum" "_law_sum" sSum f fd)(ms:mg "sorted" = none):FnOk P w K mg base CX0 2 f fd ["_law_terms"] aaz_:=by
 refine F.ok scU (λvs H Q E h=>?_) (λcdv A outer s H vs Q E hr h=>?_)
 ·obtain⟨a,ts,rfl,_⟩:=h
  rfl
 obtain⟨a,ts,rfl,hL,hlen,q⟩:=h
 have hu:=afy_ hr
 have h8:=hu8 hr
 refine⟨_,qc_ (qj_ (i:=1) scU.nd rfl (Or.inl rfl) vx_)
  (qc_ (zf_ BA rfl (zG_ (pv 0)) (jk_ rfl (qR_ (qz_ (i:=2) scU.nd rfl (Or.inl rfl)) (qR_ (qz_ (i:=3) scU.nd rfl (Or.inl rfl)) zV_)))
   (qg_ (aac_ hu (pv 1) (pv 2) (qi_ qM_ (y4_ hu (pv 1) (pv 2) qe_ ⟨rfl,rfl,rfl,rfl⟩) (pv 3)) rfl)))
  (qg_ (qp_ (aay_ (α:=Mon) rfl h8 rfl ms (qa_ (xA_ (N':=bU) (src:=[none,none]) rfl (ae8_ (pv 1)) (yb_ (qm_ sSum) nU (by decide +kernel))
   (λb=>jk_ rfl (qR_ (qz_ (i:=0) ndU rfl (Or.inl rfl)) (qR_ (qz_ (i:=1) ndU rfl (Or.inl rfl)) zV_)))
   (λb=>vZ_ (qk_ xL_ (pv 1) qe_ (qn_ _)))
   (λb=>zw_ (qa_ (pv 0) (qa_ (pv 1) qb_)))) qb_))))),?_⟩
 intro d hd
 obtain⟨vs,eL,iL⟩:=hL
 have lv:=Ai iL
 have s0:Same H (upd H d (.dT [])):=qf_ hd _
 refine⟨_,rfl,a,rfl,⟨vs,SqL.of (s0 _ _ eL)⟩,?_⟩
 refine zZ_ (xs:=vs) (λi σ H'=>(∃c2 c3,σ=[some (.ref a),some (.ref d),c2,c3])/\H' d=some (.dT (toK (qI_ (ts.take i))))/\Same H H') ?_ ?_ ?_ ?_
 ·exact⟨⟨_,_,rfl⟩,qd_,s0⟩
 ·rintro i σ H1 _ ⟨_,_,s1⟩
  exact SqL.of (s1 _ _ eL)
 ·rintro i x σ H1 hx ⟨⟨c2,c3,rfl⟩,h1,s1⟩
  obtain⟨t,ht,hi⟩:=jm_ iL hx
  obtain⟨p,k,rfl,hp,hk⟩:=xp_ hi
  have hk1:=s1 _ _ hk
  refine⟨p,_,rfl,SqT.of (s1 _ _ hp),rfl,_,_,rfl,_,_,rfl,rfl,?_⟩
  have g:=DGet.t (k:=t.1.map Sum.inl) h1 (by rw[jP_];exact hk1)
  rw[yt_]at g
  refine⟨_,rfl,d,rfl,.inr ⟨_,.inl h1⟩,_,rfl,_,g,_,rfl,(q7_ (qI_ (ts.take i)) t.1).getD 0,t.2,?_,rfl,_,rfl,_,rfl,d,_,rfl,DPut.t (k:=t.1.map Sum.inl) h1 (by rw[jP_];exact hk1) ?_,?_⟩
  ·cases q7_ (qI_ (ts.take i)) t.1<;>rfl
  ·rw[yp_]
   have:=j1_ (ts.take i)
   rw[As]at this
   exact x7_ (by omega)
  ·refine⟨⟨_,_,rfl⟩,?_,λb o e=>?_⟩
   ·rw[jj_ ht,zJ_,<-vV_]
    exact qd_
   ·rw[ql_ (qv_ e hd)]
    exact s1 b o e
 ·rintro σ H1 ⟨⟨c2,c3,rfl⟩,h1,s1⟩
  rw[AW (by omega)]at h1
  have dl:=j1_ ts
  refine⟨_,rfl,d,qI_ ts,rfl,h1,λo b D hD=>?_⟩
  have hd1:(upd H1 d (.frz o (.dT (toK (qI_ ts))))) d=some (.frz o (.dT (toK (qI_ ts)))):=qd_
  have s2:Same H (upd H1 d (.frz o (.dT (toK (qI_ ts))))):=λb u e=>by
   rw[ql_ (qv_ e hd)]
   exact s1 b u e
  refine aa5_ (α:=Mon) hD hd1 (λσ=>∃c e,σ=[c,e]) (λi=>((qI_ ts)[i]?).bind λt=>if t.2≠0 then some t else none) (small (by omega)) ?_ ?_ ?_
  ·exact⟨_,_,rfl⟩
  ·rintro i t p k σ H2 Yes No ht hp hk ⟨c,e,rfl⟩ s3 yes no
   have s4:=qf_ hp (.tup [.ref k,.int t.2])
   refine⟨p,_,rfl,SqT.of qd_,rfl,_,_,rfl,_,_,rfl,rfl,?_⟩
   refine⟨_,rfl,rfl,_,rfl,?_⟩
   by_cases c0:t.2=0
   ·have e0:(!decide (V.int t.2=V.int 0))=false:=by rw[decide_eq_true (congrArg V.int c0)];rfl
    rw[e0]
    refine zj_ ?_
    exact no _ _ ⟨_,_,rfl⟩ s4 (by rw[ht,CV,if_neg (by simpa using c0)])
   ·have e0:(!decide (V.int t.2=V.int 0))=true:=by
     rw[decide_eq_false (λz=>c0 (by injection z))]
     rfl
    rw[e0]
    refine ja_ ⟨_,rfl,_,rfl,(by show 2<=sizeLine;decide),λr hr=>?_⟩
    have s5:=qf_ hr (.tup [.ref k,.int t.2])
    exact yes _ _ _ t ⟨_,_,rfl⟩ (s4.trans s5) (by rw[ht,CV,if_pos (by simpa using c0)]) (jo_ qd_ (s5 _ _ (s4 _ _ hk)))
  ·intro H2 s3 hL
   refine⟨D,_,rfl,hL,λ_ _=>True.intro,λp vs' l' hp pm so it=>?_⟩
   refine q p _ (s2.free (s3.free hp)) (s2.trans (s3.trans (qf_ hp _))) ⟨vs',qd_,?_⟩
   have e:l'=norm ts:=by
    refine afb_ ?_ so
    rw[z7_,xe_ (λt:Mon=>t.2≠0) (λt=>t),List.map_id']at pm
    exact pm
   rw[<-e]
   exact Its.mono (aei_ hp _) it
abbrev nM:List Str:=["_law_found", "_law_due", "_law_one", "_law_other"]
abbrev bM:List Str:=["_law_number"]
theorem ndM:bM.Nodup:=by decide +kernel
theorem scM:FnScope nM ["_law_found", "_law_due"] (qm_ yT_):=⟨rfl,rfl,rfl,by decide +kernel,rfl,by decide +kernel,by decide +kernel⟩
def abz_:Sp:=λvs H Q _=>∃(a b:Addr)(ts:List Mon),vs=[.ref a,.ref b]/\LstAt H a ts/\LstAt H b ts/\ts.length<=100000/\(∀t∈ts,t.1.length<=100)/\∀H',Same H H'->Q (.bl true) H'
theorem agj_(F:Fun K "_law_same" "_law_same" yT_ f fd)(G:FnOk P w K mg base CX0 2 g gd ["_law_found"] aae_)(bW:Binds K gd ["_law_found"] [])(kW:PySem.W.keepIn K (.ref g)=true)(mW:mg "_law_whole" = some (.ref g))
  (mi:mg "isinstance" = none) (ml:mg "list" = none) (mt:mg "tuple" = none) (mn:mg "len" = none) (mz:mg "zip" = none) (ma:mg "all" = none):FnOk P w K mg base CX0 3 f fd ["_law_found", "_law_due"] abz_:=by
 refine F.ok scM (λvs H Q E h=>?_) (λcdv A outer s H vs Q E hr h=>?_)
 ·obtain⟨a,b,ts,rfl,_⟩:=h
  rfl
 obtain⟨a,b,ts,rfl,⟨vs,eL,iL⟩,⟨vs2,eL2,iL2⟩,hlen,hpl,q⟩:=h
 refine⟨_,qc_ (qt_ (PW.pt (zB_ (jt_ (zm_ (qo_ zy_ rfl mi AM (qa_ (pv 0) (qa_ (ji_ (v:=.ty "list") rfl ml PyProof.Rows.boot_list rfl) qb_)))))
   (zx_ (qk_ xL_ (qo_ q0_ rfl mn Au (qa_ (pv 0) qb_)) (qo_ q0_ rfl mn Au (qa_ (pv 1) qb_)) (qn_ _))))) (qg_ (qp_ jz_)) qq_)
  (qc_ (zf_ BA rfl (adg_ .lst .lst rfl mz (qa_ (pv 0) (qa_ (pv 1) qb_))) (jk_ rfl (qR_ (qz_ (i:=2) scM.nd rfl (Or.inl rfl)) (qR_ (qz_ (i:=3) scM.nd rfl (Or.inl rfl)) zV_)))
   (qc_ (qt_ (PW.pt (zB_ (jt_ (zm_ (qo_ zy_ rfl mi AM (qa_ (pv 2) (qa_ (ji_ (v:=.ty "tuple") rfl mt BX rfl) qb_)))))
     (zB_ (qk_ xL_ (qo_ q0_ rfl mn Au (qa_ (pv 2) qb_)) qe_ (qn_ _))
     (zx_ (jt_ (zm_ (qo_ zy_ rfl mi AM (qa_ (qF_ z9_ (pv 2) qe_ (λ_ _=>rfl)) (qa_ (ji_ (v:=.ty "tuple") rfl mt BX rfl) qb_))))))))) (qg_ (qp_ jz_)) qq_)
   (qc_ (qt_ (PW.pt (zB_ (jt_ (zm_ (zc_ G hr rfl mW kW bW .nil xI_ (qa_ (qF_ z9_ (pv 2) qe_ (λ_ _=>rfl)) qb_))))
     (zx_ (jt_ (zm_ (qo_ (aby_ rfl) rfl ma PyProof.Rows.boot_all (qa_ (xA_ (N':=bM) (src:=[none]) rfl (ain_ (qF_ z9_ (pv 2) qe_ (λ_ _=>rfl))) (yb_ (qm_ yT_) nM (by decide +kernel))
      (λb=>qz_ (i:=0) ndM rfl (Or.inl rfl)) (λb=>ys_) (λb=>zc_ G hr rfl mW kW bW .nil xI_ (qa_ (pv 0) qb_))) qb_))))))) (qg_ (qp_ jz_)) qq_)
   (qg_ (qt_ (qk_ (ajb_ (α:=List Int) (β:=Int) (Bf (CC (by decide:max (Dat.dep (α:=List Int)) (Dat.dep (α:=Int))+1<=64) _) hr.units)) (pv 2) (pv 3) (qn_ _)) (qg_ (qp_ jz_)) qq_)))))
  (qg_ (qp_ jz_))),?_⟩
 have l1:=Ai iL
 have l2:=Ai iL2
 refine⟨_,rfl,_,_,_,_,rfl,TyOf.lst eL,xa_ _ _,_,rfl,zj_ ?_⟩
 refine⟨_,rfl,a,_,rfl,.inl (SqL.of eL),_,rfl,b,_,rfl,.inl (SqL.of eL2),rfl,_,rfl,aas_ (by rw[l1,l2]) ?_⟩
 refine⟨_,rfl,_,rfl,a,b,rfl,⟨_,SqL.of eL⟩,⟨_,SqL.of eL2⟩,?_⟩
 refine agn_ (xs:=vs) (ys:=vs2) (λi σ H'=>(∃c2 c3,σ=[some (.ref a),some (.ref b),c2,c3])/\Same H H') ?_ ?_ ?_ ?_
 ·exact⟨⟨_,_,rfl⟩,Same.refl _⟩
 ·rintro i σ H1 ⟨_,s1⟩
  exact⟨SqL.of (s1 _ _ eL),SqL.of (s1 _ _ eL2)⟩
 ·rintro i x y p σ H1 hx hy hp1 ⟨⟨c2,c3,rfl⟩,s1⟩
  obtain⟨t,ht,hi⟩:=jm_ iL hx
  obtain⟨t',ht',hi'⟩:=jm_ iL2 hy
  rw[ht]at ht'
  cases ht'
  have s2:=s1.trans (qf_ hp1 (.tup [x,y]))
  have d1:=Dat.mono (Tups.same s2) hi
  have d2:=Dat.mono (Tups.same s2) hi'
  refine⟨p,_,rfl,SqT.of qd_,rfl,_,_,rfl,_,_,rfl,rfl,?_⟩
  obtain⟨px,k,rfl,hpx,hk⟩:=xp_ d1
  refine⟨_,rfl,_,_,_,_,rfl,TyOf.tup hpx,xa_ _ _,_,rfl,zj_ ?_⟩
  refine⟨_,rfl,px,_,rfl,.inr (SqT.of hpx),rfl,_,rfl,aas_ rfl ?_⟩
  refine⟨_,rfl,px,_,_,_,rfl,rfl,SqT.of hpx,q2_ (j:=0) rfl,_,_,_,_,rfl,TyOf.tup hk,xa_ _ _,_,rfl,zj_ ?_⟩
  refine⟨_,rfl,px,_,_,_,rfl,rfl,SqT.of hpx,q2_ (j:=1) rfl,t.2,rfl,_,rfl,zj_ ?_⟩
  refine⟨_,rfl,px,_,_,_,rfl,rfl,SqT.of hpx,q2_ (j:=0) rfl,k,rfl,⟨_,SqT.of hk⟩,λbk D hD=>?_⟩
  refine aeh_ (α:=Bool) hD (SqT.of hk) (λσ=>∃c,σ=[c]) (λi=>(t.1[i]?).bind λ_=>some true) (small (by rw[AF];have:=hpl t (Aq ht);omega)) ?_ ?_ ?_
  ·exact⟨_,rfl⟩
  ·rintro j z σ H2 Yes No hz ⟨c,rfl⟩ s3 yes no
   rw[Ac]at hz
   obtain⟨n,hn,rfl⟩:=Df.mp hz
   refine v6_ ?_
   refine⟨_,rfl,n,rfl,?_⟩
   exact yes _ _ _ true ⟨_,rfl⟩ (Same.refl _) (by rw[hn];rfl) rfl
  ·rintro H2 s3 ⟨ws,eD,iD⟩
   have e:(List.range (t.1.map V.int).length).filterMap (λi=>(t.1[i]?).bind λ_=>some true)=t.1.map λ_=>true:=by
    rw[AF,z7_,Dk]
   rw[e]at iD
   rw[ac1_ iD]at eD
   refine⟨D,_,rfl,SqL.of eD,?_⟩
   have ea:(t.1.map λ_=>true).all id=true:=by simp
   rw[ea]
   refine⟨_,rfl,zj_ ?_⟩
   refine⟨_,rfl,_,rfl,t,t,Dat.mono (Tups.same s3) d1,Dat.mono (Tups.same s3) d2,_,rfl,?_⟩
   rw[(Dat.eqb_iff t t).mpr rfl]
   exact zj_ ⟨⟨_,_,rfl⟩,s2.trans s3⟩
 ·rintro σ H1 ⟨⟨c2,c3,rfl⟩,s1⟩
  exact q H1 s1
def ltO(n:Nat)(w:List Nat):Option Mon:=if w=[] then none else match rcO (w.takeWhile isD),rpO n (w.dropWhile isD) with
 |some c,some p=>some (p,c)
 |_,_=>none
theorem agv_{c i:Nat}(hi:i<10)(h:c≠48+i):Builtin.Str.subAt (Str.ofString "0123456789") ⟨#[c]⟩ i=false:=by
 unfold Builtin.Str.subAt
 have e:(Str.ofString "0123456789").cps.extract i (i+(Str.mk #[c]).length)=#[48+i]:=by
  have:∀j,j<10->(Str.ofString "0123456789").cps.extract j (j+1)=#[48+j]:=by decide +kernel
  exact this i hi
 rw[e]
 show(#[48+i]==#[c])=false
 exact beq_eq_false_iff_ne.mpr λz=>h (by injection z with z;injection z with z;exact z.symm)
theorem ahc_(c:Nat):(!(Builtin.Str.occurrences (Str.ofString "0123456789") ⟨#[c]⟩ 0 (Str.ofString "0123456789").length 1).isEmpty)=isD c:=by
 by_cases h:48<=c/\c<=57
 ·have e:isD c=true:=decide_eq_true h
  rw[e]
  have:∀d,d<10->(!(Builtin.Str.occurrences (Str.ofString "0123456789") ⟨#[48+d]⟩ 0 (Str.ofString "0123456789").length 1).isEmpty)=true:=by decide +kernel
  have e2:48+(c-48)=c:=by omega
  have:=this (c-48) (by omega)
  rw[e2]at this
  exact this
 ·have e:isD c=false:=decide_eq_false h
  rw[e]
  have hl:(Str.ofString "0123456789").length=10:=by decide +kernel
  have key:∀i,i+1<=10->Builtin.Str.subAt (Str.ofString "0123456789") ⟨#[c]⟩ i=false:=λi hi=>agv_ (by omega) λz=>h (by omega)
  rw[StrLaws.occ_eq]
  suffices H:∀(l:List Nat)(k:Nat),(forIn (m:=Id) l ((#[]:Array Nat),k) (StrLaws.occBody (Str.ofString "0123456789") ⟨#[c]⟩ (Str.ofString "0123456789").length 1)).run.fst=#[] by rw[H];rfl
  intro l
  induction l with
  |nil=>intro k;rfl
  |cons i r ih =>
   intro k
   have hi:¬ ((((#[]:Array Nat).size<1/\k<=i)/\i+(Str.mk #[c]).length<=(Str.ofString "0123456789").length)/\Builtin.Str.subAt (Str.ofString "0123456789") ⟨#[c]⟩ i=true):=λz=>by
    rw[key i (by rw[hl]at z;exact z.1.2)]at z
    cases z.2
   simp only[B4,StrLaws.occBody,if_neg hi]
   exact ih k
theorem s28:[V.str (Str.ofString "2"),V.str (Str.ofString "3"),V.str (Str.ofString "4"),V.str (Str.ofString "5"),V.str (Str.ofString "6"),V.str (Str.ofString "7"),V.str (Str.ofString "8")]=([50,51,52,53,54,55,56]:List Nat).map λc=>V.str ⟨#[c]⟩:=by decide +kernel
theorem in28{s:Str}{l:List Nat}(h:tx s=l)(cs:List Nat):inV (.str s) (cs.map λc=>V.str ⟨#[c]⟩)=cs.any λc=>decide (l=[c]):=by
 unfold inV
 rw[List.any_map]
 congr 1
 funext c
 show((⟨#[c]⟩:Str)==s)=decide (l=[c])
 rw[Bi,beq_iff_eq,decide_eq_true_eq]
 constructor
 ·intro e
  rw[<-h,<-e]
  rfl
 ·intro e
  exact zR_ (by rw[h,e];rfl)
theorem afr_(l:List Nat):(([50,51,52,53,54,55,56]:List Nat).any λc=>decide (l=[c]))=true ↔ ∃d,50<=d/\d<=56/\l=[d]:=by
 rw[List.any_eq_true]
 constructor
 ·rintro⟨c,hc,e⟩
  refine⟨c,?_,?_,of_decide_eq_true e⟩<;>(simp only[AI,Aw,or_false]at hc;omega)
 ·rintro⟨d,h1,h2,e⟩
  refine⟨d,?_,decide_eq_true e⟩
  simp only[AI,Aw,or_false]
  omega
theorem vu_{l r:List Nat}{i:Nat}(h:(rpN i l).2=94::r):∀k,i+k<=4->(rpN (i+k) l).2=94::r
 |0,_=>h
 |k+1,hk=>by
  have ih:=vu_ h k (by omega)
  show(jr_ (ltr (i+k)) (rpN (i+k) l).2).2=_
  rw[ih]
  have:=(aix_ (i+k) (by omega)).1
  show(if (94:Nat)=ltr (i+k) then jT_ r else (0,94::r)).2=_
  rw[if_neg (by omega)]
theorem act_{n i:Nat}{l r:List Nat}(h:(rpN i l).2=94::r)(hi:i<=n)(hn:n<=4):rpO n l=none:=by
 have:=vu_ h (n-i) (by omega)
 rw[show i+(n-i)=n by omega]at this
 unfold rpO
 rw[this]
 exact if_neg λz=>by cases z.1
theorem ago_{α:Type}(a:List α)(x y:α)(b:List α)(i:Nat)(h:a.length=i):(a++x::b).set i y=a++y::b:=by
 subst h
 induction a with
 |nil=>rfl
 |cons z a ih =>
  show z::(a++x::b).set a.length y=_
  rw[ih]
  rfl
theorem ahn_(f:Nat->Bool)(l:List Nat):(l.takeWhile f).length<=l.length:=(List.takeWhile_prefix f).length_le
theorem afs_(f:Nat->Bool):∀(l:List Nat)(k c:Nat),k<=(l.takeWhile f).length->l[k]?=some c->(f c=true↔k<(l.takeWhile f).length)
 |[],k,c,_,h=>by cases h
 |x::l,k,c,hk,h=>by
  rw[CG]at hk ⊢
  cases e:f x with
  |false =>
   rw[e]at hk
   have k0:k=0:=by simpa using hk
   subst k0
   have:x=c:=AX h
   subst this
   simp [e]
  |true =>
   rw[e]at hk
   cases k with
   |zero =>
    have:x=c:=AX h
    subst this
    simp [e]
   |succ k =>
    have:=afs_ f l k c (by simpa using hk) h
    rw[this]
    simp
theorem aaj_(f:Nat->Bool)(l:List Nat):l.take (l.takeWhile f).length=l.takeWhile f/\l.drop (l.takeWhile f).length=l.dropWhile f:=by
 induction l with
 |nil=>exact⟨rfl,rfl⟩
 |cons x l ih =>
  rw[CG,D9]
  cases f x with
  |false=>exact⟨rfl,rfl⟩
  |true=>exact⟨by simp [ih.1],by simp [ih.2]⟩
abbrev nLt:List Str:=["_law_many", "_law_word", "_law_k", "_law_head", "_law_rest", "_law_powers_here", "_law_j"]
abbrev pLt:List Str:=["_law_many", "_law_word"]
theorem scLt:FnScope nLt pLt (qm_ sLt):=⟨rfl,rfl,rfl,by decide +kernel,rfl,by decide +kernel,by decide +kernel⟩
def spLt:Sp:=λvs H Q _=>∃(n:Nat)(z:Str),vs=[.int n,.str z]/\1<=n/\n<=4/\z.length<=60000/\(ltO n (tx z)=none->∀H',Same H H'->Q .non H')/\∀t,ltO n (tx z)=some t->∀(p:Addr)(H':Hp),Same H H'->Dat.is H' (.ref p) t->Q (.ref p) H'
theorem xg_(x:Str):tx (Txt.slice x none (some 1))=(tx x).take 1:=jN_ x 1
theorem xq_{l:List Nat}{c:Nat}:l.take 1=[c]↔l.head?=some c:=by
 cases l with
 |nil=>simp
 |cons x l=>simp
theorem aj7_(F:Fun K "_law_term" "_law_term" sLt f fd)(mn:mg "len" = none)(mr:mg "range" = none)(mi:mg "int" = none)(ms:mg "sum" = none)(mt:mg "tuple" = none):FnOk P w K mg base CX0 2 f fd pLt spLt:=by
 refine F.ok scLt (λvs H Q E h=>?_) (λcdv A outer s H vs Q E hr h=>?_)
 ·obtain⟨n,z,rfl,_⟩:=h
  rfl
 obtain⟨n,z,rfl,n1,n4,hz,qn,qs⟩:=h
 have sz:sizeLine=16777216:=rfl
 refine⟨_,(qc_ (qj_ (i:=2) scLt.nd rfl (Or.inl rfl) qe_)
  (qc_ (jH_ (aev_ BA (PW.pt (xl_ (qk_ yU_ (pv 2) (qo_ zb_ rfl mn Au (qa_ (pv 1) qb_)) (qn_ _)) (jI_ (qk_ acq_ (qF_ xv_ (pv 1) (pv 2) (λ_ _=>rfl)) qh_ rfl)))) (qg_ (qj_ (i:=2) scLt.nd rfl (Or.inl rfl) (qi_ qM_ (pv 2) qe_)))))
  (qc_ (qj_ (i:=3) scLt.nd rfl (Or.inl rfl) (qs_ qW_ (pv 1) qy_ (qr_ (pv 2))))
  (qc_ (qj_ (i:=4) scLt.nd rfl (Or.inl rfl) (qs_ qW_ (pv 1) (qr_ (pv 2)) qy_))
  (qc_ (qt_ (PW.pt (zB_ (qk_ qH_ (pv 1) qh_ (qn_ _)) (zB_ (qk_ qH_ (qs_ qW_ (pv 3) qy_ (qr_ qe_)) qh_ (qn_ _)) (zx_ (qk_ jD_ (qo_ zb_ rfl mn Au (qa_ (pv 3) qb_)) qe_ (qn_ _)))))) (qg_ (qp_ zl_)) qq_)
  (qc_ (qj_ (i:=5) scLt.nd rfl (Or.inl rfl) (qi_ aiu_ (qD_ (qa_ qe_ qb_)) (pv 0)))
  (qc_ (zf_ BA rfl (xu_ rfl mr (qa_ (pv 0) qb_)) (qz_ (i:=6) scLt.nd rfl (Or.inl rfl)) (qg_ (qt_ (qk_ qH_ (qs_ qW_ (pv 4) qy_ (qr_ qe_)) (qF_ xv_ qh_ (pv 6) (λ_ _=>rfl)) (qn_ _)) (qc_ (qj_ (i:=4) scLt.nd rfl (Or.inl rfl) (qs_ qW_ (pv 4) (qr_ qe_) qy_))
  (qc_ (vd_ qe_ (vf_ (pv 5) (pv 6) xU_))
  (qg_ (qt_ (qk_ qH_ (qs_ qW_ (pv 4) qy_ (qr_ qe_)) qh_ (qn_ _)) (qc_ (qt_ (qk_ xh_ (qs_ qW_ (pv 4) (qr_ qe_) (qr_ qe_)) (zw_ (qa_ qh_ (qa_ qh_ (qa_ qh_ (qa_ qh_ (qa_ qh_ (qa_ qh_ (qa_ qh_ qb_)))))))) rfl) (qg_ (qp_ zl_)) qq_)
  (qc_ (vd_ (qO_ jy_ rfl mi BG (qa_ (qs_ qW_ (pv 4) (qr_ qe_) (qr_ qe_)) qb_)) (vf_ (pv 5) (pv 6) xU_))
  (qg_ (qj_ (i:=4) scLt.nd rfl (Or.inl rfl) (qs_ qW_ (pv 4) (qr_ qe_) qy_))))) qq_)))) qq_)))
  (qc_ (qt_ (PW.pt (zB_ (qk_ xL_ (pv 4) qh_ (qn_ _)) (zx_ (qk_ jD_ (qo_ (yL_ rfl) rfl ms Ca (qa_ (pv 5) qb_)) qe_ (qn_ _))))) (qg_ (qp_ zl_)) qq_)
  (qc_ (qt_ (qk_ qH_ (pv 3) qh_ (qn_ _)) (qg_ (qp_ (zw_ (qa_ (qO_ zC_ rfl mt BX (qa_ (pv 5) qb_)) (qa_ qe_ qb_))))) qq_)
  (qg_ (qp_ (zw_ (qa_ (qO_ zC_ rfl mt BX (qa_ (pv 5) qb_)) (qa_ (qO_ jy_ rfl mi BG (qa_ (pv 3) qb_)) qb_)))))))))))))),?_⟩
 obtain⟨T,hT⟩:∃T,((tx z).takeWhile isD).length=T:=⟨_,rfl⟩
 have T1:T<=z.length:=by rw[<-hT,<-qA_];exact ahn_ _ _
 refine⟨λσ H'=>H=H'/\σ=[some (.int n),some (.str z),some (.int T),none,none,none,none],?_,?_⟩
 ·refine⟨λm σ H'=>∃k:Nat,k<=T/\m=T-k/\σ=[some (.int n),some (.str z),some (.int k),none,none,none,none]/\H=H',⟨T,0,AU _,rfl,rfl,rfl⟩,?_⟩
  rintro m σ _ ⟨k,hk,rfl,rfl,rfl⟩
  have fin:k=T->H=H/\([some (.int n),some (.str z),some (.int k),none,none,none,none]:St)=[some (.int n),some (.str z),some (.int T),none,none,none,none]:=λe=>by rw[e];exact⟨rfl,rfl⟩
  refine⟨_,rfl,_,rfl,z,rfl,by omega,_,_,rfl,rfl,_,rfl,?_⟩
  by_cases c:(k:Int)<(z.length:Int)
  ·refine qB_ c ?_
   have hlt:k<(tx z).length:=by rw[qA_];omega
   obtain⟨d,hd⟩:∃d,(tx z)[k]?=some d:=⟨_,AK hlt⟩
   refine⟨_,rfl,_,rfl,z,_,d,rfl,rfl,by omega,q2_ hd,_,_,rfl,rfl,_,rfl,?_⟩
   rw[ahc_]
   have ta:=afs_ isD (tx z) k d (by rw[hT];exact hk) hd
   rw[hT]at ta
   cases e:isD d with
   |true =>
    have kT:=ta.mp e
    refine ja_ ?_
    refine⟨λσ' H'=>H=H'/\σ'=[some (.int n),some (.str z),some (.int ((k:Int)+1)),none,none,none,none],?_,?_⟩
    ·rintro σ' _ ⟨rfl,rfl⟩
     exact⟨T-(k+1),by omega,k+1,by omega,rfl,rfl,rfl⟩
    ·exact⟨_,rfl,_,_,rfl,rfl,rfl,rfl⟩
   |false =>
    refine zj_ (fin ?_)
    have:¬ k<T:=λz=>by rw[ta.mpr z]at e;cases e
    omega
  ·exact qw_ c (fin (by omega))
 rintro σ _ ⟨rfl,rfl⟩
 refine⟨_,rfl,_,rfl,_,rfl,z,rfl,by omega,?_⟩
 have e1:tx (Txt.slice z none (some (T:Int)))=(tx z).takeWhile isD:=by rw[jN_,<-hT,(aaj_ isD (tx z)).1]
 have l1:(Txt.slice z none (some (T:Int))).length<=60000:=AZ (Bc z _ _) hz
 show qU_ 3 (.str (Txt.slice z none (some (T:Int)))) _ _ _
 generalize Txt.slice z none (some (T:Int))=hd at *
 refine⟨_,rfl,_,rfl,_,rfl,z,rfl,by omega,?_⟩
 have e2:tx (Txt.slice z (some (T:Int)) none)=(tx z).dropWhile isD:=by rw[jw_,<-hT,(aaj_ isD (tx z)).2]
 have l2:(Txt.slice z (some (T:Int)) none).length<=60000:=AZ (Bc z _ _) hz
 show qU_ 4 (.str (Txt.slice z (some (T:Int)) none)) _ _ _
 generalize Txt.slice z (some (T:Int)) none=rs0 at *
 refine⟨_,rfl,rfl,_,rfl,?_⟩
 by_cases c0:tx z=[]
 ·exact qB_ ((qK_ za_).mpr c0) (qn (if_pos c0) _ (Same.refl _))
 refine qw_ (λy=>c0 ((qK_ za_).mp y)) ?_
 have lo:ltO n (tx z)=(match rcO (tx hd),rpO n (tx rs0) with|some c,some p=>some (p,c)|_,_=>none):=by
  unfold ltO
  rw[if_neg c0,e1,e2]
 refine⟨_,rfl,_,rfl,hd,rfl,by omega,rfl,_,rfl,?_⟩
 by_cases c1:(tx hd).head?=some 48
 ·refine qB_ ((qK_ j2_).mpr (by rw[xg_,xq_];exact c1)) (qn ?_ _ (Same.refl _))
  have:tx hd≠[]:=λy=>by rw[y]at c1;cases c1
  rw[lo,show rcO (tx hd)=none by unfold rcO;rw[if_neg this,if_pos (.inl c1)]]
 refine qw_ (λy=>c1 (by have:=(qK_ j2_).mp y;rw[xg_,xq_]at this;exact this)) ?_
 refine⟨_,rfl,hd,rfl,by omega,_,_,rfl,rfl,_,rfl,?_⟩
 by_cases c2:(60:Int)<(hd.length:Int)
 ·refine qB_ c2 (qn ?_ _ (Same.refl _))
  have:tx hd≠[]:=λy=>by have:=qA_ hd;rw[y]at this;simp at this;omega
  rw[lo,show rcO (tx hd)=none by unfold rcO;rw[if_neg this,if_pos (.inr (by rw[qA_];omega))]]
 refine qw_ c2 ?_
 have ad:NumText.AllDigits (tx hd):=λc hc=>by
  rw[e1]at hc
  exact of_decide_eq_true (yc_ isD _ c hc)
 obtain⟨cn,rc,rcI⟩:∃cn:Int,rcO (tx hd)=some cn/\((tx hd=[]/\cn=1)∨(tx hd≠[]/\intText? hd=some cn)):=by
  by_cases c:tx hd=[]
  ·exact⟨1,by unfold rcO;rw[if_pos c],.inl ⟨c,rfl⟩⟩
  ·exact⟨_,by unfold rcO;rw[if_neg c,if_neg (λy=>y.elim c1 λy=>by rw[qA_]at y;omega)],.inr ⟨c,vr_ ad c (by omega)⟩⟩
 rw[rc]at lo
 refine⟨(by show 1<=sizeLine;decide),λq1 g1=>?_⟩
 have v1:=qf_ g1 (.lst [V.int 0])
 refine⟨_,rfl,q1,_,_,rfl,rfl,qd_,by omega,by omega,small (by show 1*(n:Int).toNat<=_;omega),λl0 g0=>?_⟩
 have h0:H l0=none:=v1.free g0
 have v2:=qf_ g0 (.lst (List.replicate (n:Int).toNat [V.int 0]).flatten)
 have z2:=v1.trans v2
 have hl0:upd (upd H q1 (.lst [V.int 0])) l0 (.lst (List.replicate (n:Int).toNat [V.int 0]).flatten) l0=some (.lst (List.replicate n (V.int 0))):=by
  rw[qd_,An,List.flatten_replicate_singleton]
 show qU_ 5 (.ref l0) _ (upd (upd H q1 (.lst [V.int 0])) l0 (.lst (List.replicate (n:Int).toNat [V.int 0]).flatten)) _
 generalize upd (upd H q1 (.lst [V.int 0])) l0 (.lst (List.replicate (n:Int).toNat [V.int 0]).flatten)=H2 at *
 clear v1 v2 g1 g0
 refine⟨_,rfl,n,rfl,by omega,by omega,?_⟩
 rw[An]
 refine xr_ (lo:=0) (n:=n) (λi σ H'=>(∃(rs:Str)(c6:Option V),σ=[some (.int n),some (.str z),some (.int T),some (.str hd),some (.str rs),some (.ref l0),c6]/\tx rs=(rpN i (tx rs0)).2/\rs.length<=60000)/\Same H H'/\H' l0=some (.lst ((rpN i (tx rs0)).1.map V.int++List.replicate (n-i) (V.int 0)))) ?_ ?_ ?_
 ·exact⟨⟨rs0,_,rfl,rfl,l2⟩,z2,hl0⟩
 ·rintro i σ H3 hi ⟨⟨rs,c6,rfl,et,hl⟩,z3,h3⟩
  have ll:=jG_ i (tx rs0)
  have at1:atI (Str.ofString "xyzw").cps.toList ((0:Int)+(i:Nat))=some (ltr i):=by
   show atI (tx jb_) ((0:Int)+(i:Nat))=_
   rw[show(0:Int)+(i:Nat)=((i:Nat):Int) by omega,jU_]
   refine q2_ ?_
   have:∀j,j<4->([120,121,122,119]:List Nat)[j]?=some (ltr j):=by decide
   exact this i (by omega)
  have ixi:∀xs:List V,xs.length=n->ixN xs.length ((0:Int)+(i:Nat))=some i:=λxs e=>by
   unfold ixN
   rw[e,if_pos (by omega),if_pos (by omega)]
   congr 1
   omega
  have rep:List.replicate (n-i) (V.int 0)=V.int 0::List.replicate (n-(i+1)) (V.int 0):=by
   rw[show n-i=(n-(i+1))+1 by omega,BZ]
  have len1:∀y:V,((rpN i (tx rs0)).1.map V.int++y::List.replicate (n-(i+1)) (V.int 0)).length=n:=λy=>by
   rw[AQ,AF,ll,AN,Dl]
   omega
  have setv:∀x y:V,((rpN i (tx rs0)).1.map V.int++x::List.replicate (n-(i+1)) (V.int 0)).set i y=(rpN i (tx rs0)).1.map V.int++y::List.replicate (n-(i+1)) (V.int 0):=λx y=>ago_ _ _ _ _ _ (by rw[AF,ll])
  obtain⟨st,hst⟩:∃st,jr_ (ltr i) (tx rs)=st:=⟨_,rfl⟩
  have nx:rpN (i+1) (tx rs0)=((rpN i (tx rs0)).1++[st.1],st.2):=by
   show((rpN i (tx rs0)).1++[(jr_ (ltr i) (rpN i (tx rs0)).2).1],(jr_ (ltr i) (rpN i (tx rs0)).2).2)=_
   rw[<-et,hst]
  rw[rep]at h3
  have fin:∀(rs':Str)(x:Int)(H':Hp),st=(x,tx rs')->rs'.length<=60000->Same H H'->H' l0=some (.lst ((rpN i (tx rs0)).1.map V.int++V.int x::List.replicate (n-(i+1)) (V.int 0))) ->
    (∃(rs:Str)(c6:Option V),([some (.int n),some (.str z),some (.int T),some (.str hd),some (.str rs'),some (.ref l0),some (.int ((0:Int)+(i:Nat)))]:St)=[some (.int n),some (.str z),some (.int T),some (.str hd),some (.str rs),some (.ref l0),c6]/\tx rs=(rpN (i+1) (tx rs0)).2/\rs.length<=60000)/\Same H H'/\H' l0=some (.lst ((rpN (i+1) (tx rs0)).1.map V.int++List.replicate (n-(i+1)) (V.int 0))):=λrs' x H' e hl' z' h'=>by
   rw[nx,e]
   refine⟨⟨rs',_,rfl,rfl,hl'⟩,z',?_⟩
   rw[h',Av,AR]
   rfl
  refine⟨_,rfl,_,rfl,rs,rfl,by omega,_,rfl,_,_,_,rfl,rfl,by decide +kernel,at1,rfl,_,rfl,?_⟩
  have eq1:V.str (Txt.slice rs none (some 1))=V.str ⟨#[ltr i]⟩↔(tx rs).head?=some (ltr i):=by rw[qK_ (xm_ _),xg_,xq_]
  cases etl:tx rs with
  |nil =>
   refine qw_ (λy=>by have:=eq1.mp y;rw[etl]at this;cases this) ?_
   exact fin rs 0 _ (by rw[<-hst,etl];rfl) hl z3 h3
  |cons x r =>
   by_cases ex:x=ltr i
   case neg =>
    refine qw_ (λy=>ex (by have:=eq1.mp y;rw[etl]at this;injection this)) ?_
    refine fin rs 0 _ ?_ hl z3 h3
    rw[<-hst,etl]
    exact if_neg ex
   subst ex
   refine qB_ (eq1.mpr (by rw[etl];rfl)) ?_
   refine⟨_,rfl,_,rfl,rs,rfl,by omega,?_⟩
   have e3:tx (Txt.slice rs (some 1) none)=r:=by
    have:=jw_ rs 1
    rw[etl]at this
    exact this
   have l3:(Txt.slice rs (some 1) none).length<=60000:=AZ (Bc rs _ _) hl
   show qU_ 4 (.str (Txt.slice rs (some 1) none)) _ _ _
   generalize Txt.slice rs (some 1) none=rs1 at *
   have stp:jT_ r=st:=by
    rw[<-hst,etl]
    exact(if_pos rfl).symm
   refine⟨_,rfl,_,rfl,l0,_,_,i,rfl,rfl,h3,ixi _ (len1 _),?_⟩
   rw[setv]
   have z4:=jh_ h0 z3 (.lst ((rpN i (tx rs0)).1.map V.int++V.int 1::List.replicate (n-(i+1)) (V.int 0)))
   have h4:upd H3 l0 (.lst ((rpN i (tx rs0)).1.map V.int++V.int 1::List.replicate (n-(i+1)) (V.int 0))) l0=some (.lst ((rpN i (tx rs0)).1.map V.int++V.int 1::List.replicate (n-(i+1)) (V.int 0))):=qd_
   generalize upd H3 l0 (.lst ((rpN i (tx rs0)).1.map V.int++V.int 1::List.replicate (n-(i+1)) (V.int 0)))=H4 at *
   refine⟨_,rfl,_,rfl,rs1,rfl,by omega,rfl,_,rfl,?_⟩
   have eq2:V.str (Txt.slice rs1 none (some 1))=V.str (Str.ofString "^")↔(tx rs1).head?=some 94:=by rw[qK_ aa1_,xg_,xq_]
   rw[e3]at eq2
   match r,e3,stp,eq2 with
   |[],e3,stp,eq2 =>
    refine qw_ (λy=>by have:=eq2.mp y;cases this) ?_
    exact fin rs1 1 _ (by rw[<-stp,e3];rfl) l3 z4 h4
   |y::r2,e3,stp,eq2 =>
    by_cases ey:y=94
    case neg =>
     refine qw_ (λx=>ey (by have:=eq2.mp x;injection this)) ?_
     refine fin rs1 1 _ ?_ l3 z4 h4
     rw[<-stp,e3]
     cases r2 with
     |nil=>rfl
     |cons d r3=>exact if_neg λz=>ey z.1
    subst ey
    refine qB_ (eq2.mpr rfl) ?_
    have e4:tx (Txt.slice rs1 (some 1) (some 2))=r2.take 1:=by
     have:=acw_ rs1 1 2 (by decide)
     rw[e3]at this
     exact this
    have stuck:jT_ (94::r2)=(1,94::r2)->rpO n (tx rs0)=none:=λe=>by
     refine act_ (i:=i+1) (r:=r2) ?_ hi n4
     rw[nx,<-stp,e]
    refine⟨_,rfl,_,rfl,_,rfl,rs1,rfl,by omega,(by show 7<=sizeLine;decide),λq7 g7=>?_⟩
    have v7:=qf_ g7 (.tup [V.str (Str.ofString "2"),V.str (Str.ofString "3"),V.str (Str.ofString "4"),V.str (Str.ofString "5"),V.str (Str.ofString "6"),V.str (Str.ofString "7"),V.str (Str.ofString "8")])
    refine⟨q7,_,rfl,.inr (SqT.of qd_),rfl,rfl,_,rfl,?_⟩
    rw[s28]at v7 ⊢
    have h7:=v7 _ _ h4
    have z7:=z4.trans v7
    show if (!inV _ _)=true then _ else _
    rw[in28 e4]
    generalize upd H4 q7 (.tup (([50,51,52,53,54,55,56]:List Nat).map λc=>V.str ⟨#[c]⟩))=H7 at *
    by_cases cd:∃d,50<=d/\d<=56/\r2.take 1=[d]
    ·rw[(afr_ _).mpr cd]
     refine zj_ ?_
     obtain⟨d,d50,d56,ed⟩:=cd
     obtain⟨r3,rfl⟩:∃r3,r2=d::r3:=by
      cases r2 with
      |nil=>cases ed
      |cons x r3=>exact⟨r3,by injection ed with ed;rw[ed]⟩
     have es:Txt.slice rs1 (some 1) (some 2)=⟨#[d]⟩:=zR_ (by rw[e4];rfl)
     refine⟨_,rfl,_,rfl,_,rfl,rs1,rfl,by omega,_,(d:Int)-48,rfl,?_,?_,?_⟩
     ·rw[es]
      show 1<=640
      decide
     ·rw[es]
      exact v1_ (by omega)
     refine⟨_,rfl,_,rfl,l0,_,_,i,rfl,rfl,h7,ixi _ (len1 _),?_⟩
     rw[setv]
     refine⟨_,rfl,_,rfl,rs1,rfl,by omega,?_⟩
     have e5:tx (Txt.slice rs1 (some 2) none)=r3:=by
      have:=jw_ rs1 2
      rw[e3]at this
      exact this
     refine fin (Txt.slice rs1 (some 2) none) ((d:Int)-48) _ ?_ (AZ (Bc rs1 _ _) l3) (jh_ h0 z7 _) qd_
     rw[e5,<-stp]
     exact if_pos ⟨rfl,d50,d56⟩
    ·have:(([50,51,52,53,54,55,56]:List Nat).any λc=>decide (r2.take 1=[c]))=false:=by
      cases e:(([50,51,52,53,54,55,56]:List Nat).any λc=>decide (r2.take 1=[c])) with
      |false=>rfl
      |true=>exact absurd ((afr_ _).mp e) cd
     rw[this]
     refine ja_ (qn ?_ _ z7)
     rw[lo,stuck ?_]
     cases r2 with
     |nil=>rfl
     |cons d r3=>exact if_neg λz=>cd ⟨d,z.2.1,z.2.2,rfl⟩
 ·rintro σ H3 ⟨⟨rs,c6,rfl,et,hl⟩,z3,h3⟩
  rw[DJ,List.replicate_zero,BY]at h3
  have ll:=jG_ n (tx rs0)
  refine⟨_,rfl,rfl,_,rfl,?_⟩
  by_cases c:tx rs=[]
  case neg =>
   refine x0_ ?_ (qn ?_ _ z3)
   ·rw[decide_eq_false (λy=>c ((qK_ za_).mp y))];rfl
   ·rw[lo,show rpO n (tx rs0)=none from if_neg λy=>c (by rw[et];exact y.1)]
  refine yr_ (by rw[decide_eq_true ((qK_ za_).mpr c)];rfl) ?_
  refine⟨_,rfl,l0,_,rfl,SqL.of h3,_,_,rfl,rfl,_,rfl,?_⟩
  by_cases c8:8<(rpN n (tx rs0)).1.sum
  ·refine qB_ c8 (qn ?_ _ z3)
   rw[lo,show rpO n (tx rs0)=none from if_neg λy=>by omega]
  refine qw_ c8 ?_
  have rp:rpO n (tx rs0)=some (rpN n (tx rs0)).1:=if_pos ⟨by rw[<-et];exact c,by omega⟩
  rw[rp]at lo
  generalize (rpN n (tx rs0)).1=ps at *
  refine⟨_,rfl,rfl,_,rfl,?_⟩
  rcases rcI with⟨c3,rfl⟩|⟨c3,ci⟩
  ·refine qB_ ((qK_ za_).mpr c3) ?_
   refine⟨_,rfl,l0,_,rfl,.inl ⟨SqL.of h3,λt0 gt=>?_⟩⟩
   refine⟨(by show 2<=sizeLine;decide),λp2 g2=>?_⟩
   exact qs _ lo p2 _ (z3.trans ((qf_ gt _).trans (qf_ g2 _))) (jo_ qd_ (qf_ g2 _ _ _ qd_))
  ·refine qw_ (λy=>c3 ((qK_ za_).mp y)) ?_
   refine⟨_,rfl,l0,_,rfl,.inl ⟨SqL.of h3,λt0 gt=>?_⟩⟩
   refine⟨_,rfl,hd,cn,rfl,by omega,ci,(by show 2<=sizeLine;decide),λp2 g2=>?_⟩
   exact qs _ lo p2 _ (z3.trans ((qf_ gt _).trans (qf_ g2 _))) (jo_ qd_ (qf_ g2 _ _ _ qd_))
theorem ajo_(n:Nat)(s w:List Nat):rtO n s w=match ltO n w,rsO s with
  |some t,some x=>some (t.1,x*t.2)
  |_,_=>none:=by
 unfold rtO ltO
 by_cases c:w=[]
 ·rw[if_pos c,if_pos c]
 ·rw[if_neg c,if_neg c]
  cases rcO (w.takeWhile isD) with
  |none=>rfl
  |some c =>
   cases rpO n (w.dropWhile isD) with
   |none=>rfl
   |some p =>
    cases rsO s with
    |none=>rfl
    |some x=>rfl
theorem ym_{n:Nat}:∀{a b:List (List Nat)}{ts:List Mon},rdL n a=some ts->rdL n (a++b)=match rdL n b with
  |some us=>some (ts++us)
  |none=>none
 |[],b,ts,h=>by
  cases h
  cases e:rdL n b with
  |none=>exact e
  |some us=>exact e
 |[_],b,ts,h=>by cases h
 |s::w::r,b,ts,h=>by
  obtain⟨t,us,e1,e2,rfl⟩:=xV_ h
  have ih:=ym_ (b:=b) e2
  show(match rtO n s w,rdL n (r++b) with
   |some t,some ts=>some (t::ts)
   |_,_=>none)=_
  rw[e1,ih]
  cases rdL n b with
  |none=>rfl
  |some vs=>rfl
theorem agi_{n:Nat}{s w:List Nat}{r:List (List Nat)}(h:rtO n s w=none):rdL n (s::w::r)=none:=by
 unfold rdL
 rw[h]
theorem agk_{n:Nat}{s w:List Nat}{t:Mon}(h:rtO n s w=some t):rdL n [s,w]=some [t]:=by
 show(match rtO n s w,rdL n []with
  |some t,some ts=>some (t::ts)
  |_,_=>none)=_
 rw[h]
 rfl
theorem adr_{α:Type}{l:List α}{i:Nat}{x y:α}(h1:l[2*i]?=some x)(h2:l[2*i+1]?=some y):l.take (2*(i+1))=l.take (2*i)++[x,y]/\l=l.take (2*i)++x::y::l.drop (2*(i+1)):=by
 have e1:=jj_ h1
 have e2:=jj_ h2
 have e3:l.take (2*(i+1))=l.take (2*i)++[x,y]:=by
  rw[show 2*(i+1)=2*i+1+1 by omega,e2,e1,AR]
  rfl
 refine⟨e3,?_⟩
 have:=Ax (2*(i+1)) l
 rw[e3,AR]at this
 exact this.symm
theorem vW_(c:Nat)(t:List Nat)(r:List (List Nat)):ze_ [32] ((c::t)::r)=c::ze_ [32] (t::r):=by
 cases r<;>rfl
theorem abs_(a b:List Nat)(r:List (List Nat)):ze_ [32] (a::b::r)=a++[32]++ze_ [32] (b::r):=rfl
theorem ada_{l u:List Nat}{r:List (List Nat)}(h:ze_ [32] (u::r)=l):ze_ [32] (if u.head?=some 45 then [45]::u.drop 1::r else [43]::u::r)=jF_ l:=by
 by_cases c:u.head?=some 45
 ·rw[if_pos c]
  obtain⟨t,rfl⟩:∃t,u=45::t:=by
   cases u with
   |nil=>cases c
   |cons x t=>injection c with c;exact⟨t,by rw[c]⟩
  rw[vW_]at h
  rw[abs_,<-h]
  rfl
 ·rw[if_neg c,abs_,h]
  unfold jF_
  rw[if_neg]
  intro z
  rw[<-h]at z
  cases u with
  |nil =>
   cases r with
   |nil=>cases z
   |cons v r=>cases z
  |cons x t =>
   rw[vW_]at z
   exact c z
theorem ajj_(x:V)(r:List V):qJ_ (x::r) (some 1) none=r:=by
 unfold qJ_
 rw[show(some (1:Int))=some ((1:Nat):Int) from rfl,HT.sIx_nat,HT.sIx_none,Bw (by rw[AN];omega)]
 show r.take _=r
 exact AW (by rw[AN];omega)
theorem ajx_(a b:Int)(c:Bool):atI [V.int a,V.int b] (if c then 1 else 0)=some (.int (if c=true then b else a)):=by
 cases c<;>rfl
theorem spm:[V.str (Str.ofString "+"),V.str (Str.ofString "-")]=([43,45]:List Nat).map λc=>V.str ⟨#[c]⟩:=by decide +kernel
theorem ail_(l:List Nat):(([43,45]:List Nat).any λc=>decide (l=[c]))=(rsO l).isSome:=by
 unfold rsO
 by_cases c:l=[43]
 ·rw[if_pos c,c];rfl
 ·rw[if_neg c]
  by_cases d:l=[45]
  ·rw[if_pos d,d];rfl
  ·rw[if_neg d]
   show(decide (l=[43])||(decide (l=[45])||false))=false
   rw[decide_eq_false c,decide_eq_false d]
   rfl
theorem aid_{l:List Nat}{x:Int}(h:rsO l=some x)(c:Int):c*(if decide (l=[45])=true then 0-1 else 1)=x*c/\x.natAbs<=1:=by
 unfold rsO at h
 by_cases e:l=[43]
 ·rw[if_pos e]at h
  cases h
  rw[e,if_neg (by decide)]
  exact⟨by omega,by decide⟩
 ·rw[if_neg e]at h
  by_cases d:l=[45]
  ·rw[if_pos d]at h
   cases h
   rw[if_pos (decide_eq_true d)]
   exact⟨by omega,by decide⟩
  ·rw[if_neg d]at h
   cases h
theorem ads_{n:Nat}{w:List Nat}{t:Mon}(h:ltO n w=some t):t.2.natAbs<2^200:=by
 unfold ltO at h
 split at h
 ·cases h
 ·cases e1:rcO (w.takeWhile isD) with
  |none=>rw[e1]at h;cases h
  |some c =>
   cases e2:rpO n (w.dropWhile isD) with
   |none=>rw[e1,e2]at h;cases h
   |some p =>
    rw[e1,e2]at h
    have:=AX h
    subst this
    exact afk_ (λc hc=>of_decide_eq_true (yc_ isD _ c hc)) e1
abbrev nLr:List Str:=["_law_many", "_law_line", "_law_words", "_law_terms", "_law_k", "_law_term_here"]
abbrev pLr:List Str:=["_law_many", "_law_line"]
theorem scLr:FnScope nLr pLr (qm_ sLr):=⟨rfl,rfl,rfl,by decide +kernel,rfl,by decide +kernel,by decide +kernel⟩
def spLr:Sp:=λvs H Q _=>∃(n:Nat)(z:Str)(ws:List (List Nat)),vs=[.int n,.str z]/\1<=n/\n<=4/\z.length<=50000/\Tk (jF_ (tx z)) ws/\(rdO n (tx z) ws=none->∀H',Same H H'->Q .non H')/\∀ts,rdO n (tx z) ws=some ts->ts.length<=60000->∀(l:Addr)(H':Hp),H l=none->Same H H'->LstAt H' l (norm ts)->Q (.ref l) H'
theorem aj3_(F:Fun K "_law_read" "_law_read" sLr f fd)(GT:Has P w K mg base 5 "_law_term" pLt spLt)(GS:Has P w K mg base 5 "_law_sum" ["_law_terms"] aaz_)(mn:mg "len" = none)(mr:mg "range" = none)(mi:mg "int" = none):FnOk P w K mg base CX0 6 f fd pLr spLr:=by
 refine F.ok scLr (λvs H Q E h=>?_) (λcdv A outer s H vs Q E hr h=>?_)
 ·obtain⟨n,z,ws,rfl,_⟩:=h
  rfl
 obtain⟨n,z,ws,rfl,n1,n4,hz,tk,qn,qs⟩:=h
 have sz:sizeLine=16777216:=rfl
 refine⟨_,(qc_ (qt_ (qk_ qH_ (pv 1) qh_ (qn_ _)) (qg_ (qp_ (qD_ qb_))) qq_)
  (qc_ (qj_ (i:=2) scLr.nd rfl (Or.inl rfl) (zu_ BC CQ CS xW_ (pv 1) (qa_ qh_ qb_)))
  (qc_ (jH_ (qt_ (qk_ qH_ (qs_ qW_ (qF_ qP_ (pv 2) qe_ (λ_ _=>rfl)) qy_ (qr_ qe_)) qh_ (qn_ _)) (qg_ (qj_ (i:=2) scLr.nd rfl (Or.inl rfl) (qi_ zi_ (qD_ (qa_ qh_ (qa_ (qs_ qW_ (qF_ qP_ (pv 2) qe_ (λ_ _=>rfl)) (qr_ qe_) qy_) qb_))) (qs_ jL_ (pv 2) (qr_ qe_) qy_)))) (qg_ (qj_ (i:=2) scLr.nd rfl (Or.inl rfl) (qi_ zi_ (qD_ (qa_ qh_ qb_)) (pv 2))))))
  (qc_ (qt_ (qk_ qH_ (qi_ q1_ (qo_ q0_ rfl mn Au (qa_ (pv 2) qb_)) qe_) qe_ (qn_ _)) (qg_ (qp_ zl_)) qq_)
  (qc_ (qj_ (i:=3) scLr.nd rfl (Or.inl rfl) (qD_ qb_))
  (qc_ (zf_ BA rfl (ac5_ rfl mr (qa_ qe_ (qa_ (qo_ q0_ rfl mn Au (qa_ (pv 2) qb_)) (qa_ qe_ qb_)))) (qz_ (i:=4) scLr.nd rfl (Or.inl rfl)) (qc_ (qj_ (i:=5) scLr.nd rfl (Or.inl rfl) (qV_ GT hr rfl (qa_ (pv 0) (qa_ (qF_ qP_ (pv 2) (qi_ qM_ (pv 4) qe_) (λ_ _=>rfl)) qb_))))
  (qc_ (qt_ (PW.pt (zB_ (qk_ abu_ (pv 5) zl_ (qn_ _)) (zx_ (qk_ xh_ (qF_ qP_ (pv 2) (pv 4) (λ_ _=>rfl)) (zw_ (qa_ qh_ (qa_ qh_ qb_))) rfl)))) (qg_ (qp_ zl_)) qq_)
  (qg_ (jg_ (zu_ Bo Bm Bn zk_ (pv 3) (qa_ (zw_ (qa_ (qF_ z9_ (pv 5) qe_ (λ_ _=>rfl)) (qa_ (qi_ v7_ (qF_ z9_ (pv 5) qe_ (λ_ _=>rfl)) (qF_ qP_ (qD_ (qa_ qe_ (qa_ (qi_ x8_ qe_ qe_) qb_))) (qO_ xo_ rfl mi BG (qa_ (xE_ qH_ (qF_ qP_ (pv 2) (pv 4) (λ_ _=>rfl)) qh_ (qn_ _)) qb_)) (λ_ _=>rfl))) qb_))) qb_)))))))
  (qg_ (qp_ (qV_ GS hr rfl (qa_ (pv 3) qb_)))))))))),?_⟩
 refine⟨_,rfl,rfl,_,rfl,?_⟩
 by_cases c:tx z=[48]
 ·exact qB_ ((qK_ j2_).mpr c) ⟨(by show 0<=sizeLine;decide),λl hl=>qs [] (if_pos c) (by decide) l _ hl (qf_ hl _) ⟨[],qd_,.nil⟩⟩
 have ro:rdO n (tx z) ws=rdL n ws:=if_neg c
 rw[ro]at qn qs
 refine qw_ (λy=>c ((qK_ j2_).mp y)) ?_
 refine⟨_,rfl,rfl,z,_,rfl,rfl,by decide +kernel,by omega,λl0 g0=>?_⟩
 obtain⟨h1,h2,h3⟩:=xR_ (x:=z) abj_
 have h4:=Du z (Str.ofString " ")
 have h5:∀y∈Txt.split z (Str.ofString " "),y.length<=50000:=λy hy=>AZ (DX hy) hz
 have v0:=qf_ g0 (.lst ((Txt.split z (Str.ofString " ")).map V.str))
 have hl0:upd H l0 (.lst ((Txt.split z (Str.ofString " ")).map V.str)) l0=some (.lst ((Txt.split z (Str.ofString " ")).map V.str)):=qd_
 show qU_ 2 (.ref l0) _ (upd H l0 (.lst ((Txt.split z (Str.ofString " ")).map V.str))) _
 generalize upd H l0 (.lst ((Txt.split z (Str.ofString " ")).map V.str))=H1 at *
 cases eus:Txt.split z (Str.ofString " ") with
 |nil=>rw[eus]at h2;exact absurd rfl h2
 |cons u0 ur =>
 rw[eus]at h1 h2 h3 h4 h5 hl0
 have pw:=ada_ h1
 have lu:=h5 u0 (AH ..)
 have wsE:∀ys:List Str,ys.map tx=(if (tx u0).head?=some 45 then [45]::(tx u0).drop 1::ur.map tx else [43]::tx u0::ur.map tx)->ys.map tx=ws:=λys e=>by
  rw[e]
  refine vh_ 32 _ _ ?_ tk.ne ?_ tk.free (pw.trans tk.is.symm)
  ·split<;>simp
  ·have hu:32∉tx u0:=h3 _ (AH ..)
   have hr':∀w∈ur.map tx,32∉w:=λw hw=>h3 w (AD _ hw)
   intro w hw
   split at hw
   ·rcases AI.mp hw with rfl|hw
    ·simp
    rcases AI.mp hw with rfl|hw
    ·exact λz=>hu (Bz z)
    ·exact hr' w hw
   ·rcases AI.mp hw with rfl|hw
    ·simp
    rcases AI.mp hw with rfl|hw
    ·exact hu
    ·exact hr' w hw
 have at0:atI ((u0::ur).map V.str) (0:Int)=some (.str u0):=q2_ (j:=0) rfl
 have eq1:V.str (Txt.slice u0 none (some 1))=V.str (Str.ofString "-")↔(tx u0).head?=some 45:=by rw[qK_ xD_,xg_,xq_]
 refine⟨λσ H'=>∃(l2:Addr)(ys:List Str),σ=[some (.int n),some (.str z),some (.ref l2),none,none,none]/\Same H H'/\H' l2=some (.lst (ys.map V.str))/\ys.map tx=ws/\(∀y∈ys,y.length<=60000)/\ys.length<=60000,?_,?_⟩
 ·refine⟨_,rfl,l0,_,_,.str u0,rfl,rfl,SqL.of hl0,at0,_,rfl,u0,rfl,by omega,rfl,_,rfl,?_⟩
  have ll:(u0::ur).length=ur.length+1:=rfl
  by_cases c1:(tx u0).head?=some 45
  ·refine qB_ (eq1.mpr c1) ?_
   refine⟨_,rfl,l0,_,_,.str u0,rfl,rfl,SqL.of hl0,at0,_,rfl,u0,rfl,by omega,(by show 2<=sizeLine;decide),λq1 g1=>?_⟩
   have v1:=qf_ g1 (.lst [V.str (Str.ofString "-"),V.str (Txt.slice u0 (some 1) none)])
   refine⟨_,rfl,_,rfl,l0,_,rfl,SqL.of (v1 _ _ hl0),λq2 g2=>?_⟩
   have v2:=qf_ g2 (.lst (qJ_ ((u0::ur).map V.str) (some 1) none))
   refine⟨q1,q2,_,_,rfl,rfl,v2 _ _ qd_,qd_,?_,λq3 g3=>?_⟩
   ·have:=zz_ ((u0::ur).map V.str) (some 1) none
    rw[AF]at this
    show 2+_<=_
    omega
   have v3:=qf_ g3 (.lst ([V.str (Str.ofString "-"),V.str (Txt.slice u0 (some 1) none)]++qJ_ ((u0::ur).map V.str) (some 1) none))
   refine⟨q3,Str.ofString "-" :: Txt.slice u0 (some 1) none::ur,rfl,v0.trans (v1.trans (v2.trans v3)),?_,wsE _ ?_,λy hy=>?_,?_⟩
   ·rw[qd_,Ab,ajj_]
    rfl
   ·rw[if_pos c1,Ab,Ab,xD_]
    congr 2
    exact jw_ u0 1
   ·rcases AI.mp hy with rfl|hy
    ·decide +kernel
    rcases AI.mp hy with rfl|hy
    ·exact AZ (Bc u0 _ _) (by omega)
    ·have:=h5 y (AD _ hy)
     omega
   ·rw[AN,AN]
    omega
  ·refine qw_ (λy=>c1 (eq1.mp y)) ?_
   refine⟨(by show 1<=sizeLine;decide),λq1 g1=>?_⟩
   have v1:=qf_ g1 (.lst [V.str (Str.ofString "+")])
   refine⟨_,rfl,q1,l0,_,_,rfl,rfl,qd_,v1 _ _ hl0,?_,λq3 g3=>?_⟩
   ·rw[AF]
    show 1+_<=_
    omega
   have v3:=qf_ g3 (.lst ([V.str (Str.ofString "+")]++(u0::ur).map V.str))
   refine⟨q3,Str.ofString "+" :: u0::ur,rfl,v0.trans (v1.trans v3),?_,wsE _ ?_,λy hy=>?_,?_⟩
   ·rw[qd_]
    rfl
   ·rw[if_neg c1,Ab,aa8_]
    rfl
   ·rcases AI.mp hy with rfl|hy
    ·decide +kernel
    ·have:=h5 y hy
     omega
   ·rw[AN]
    omega
 rintro σ H2 ⟨l2,ys,rfl,z2,hl2,ey,yl,ym⟩
 clear wsE at0 eq1 pw
 have lyw:ws.length=ys.length:=by rw[<-ey,AF]
 refine⟨_,rfl,l2,_,rfl,.inl (SqL.of hl2),_,_,rfl,rfl,(by show(0:Int)<2;decide),rfl,_,rfl,?_⟩
 by_cases odd:ws.length%2=1
 ·refine qB_ ?_ (qn (aad_ odd) _ z2)
  show V.int _=V.int 1
  rw[AF]
  congr 1
  omega
 refine qw_ (λy=>?_) ?_
 ·injection y with y
  rw[AF]at y
  omega
 refine⟨(by show 0<=sizeLine;decide),λlt gt=>?_⟩
 have vt:=qf_ gt (.lst [])
 have ht0:H lt=none:=z2.free gt
 have h2t:upd H2 lt (.lst []) l2=some (.lst (ys.map V.str)):=vt _ _ hl2
 have n2t:l2≠lt:=λz=>by rw[z,gt]at hl2;cases hl2
 obtain⟨m,hm⟩:∃m,ws.length=2*m:=⟨ws.length / 2,by omega⟩
 have em:(((ys.map V.str).length:Nat):Int)=2*(m:Int):=by rw[AF];omega
 refine⟨_,rfl,l2,_,rfl,.inl (SqL.of h2t),m,by rw[em],by omega,?_⟩
 refine agm_ (n:=m) (λi σ H'=>(∃c4 c5,σ=[some (.int n),some (.str z),some (.ref l2),some (.ref lt),c4,c5])/\Same H H'/\H' l2=some (.lst (ys.map V.str))/\∃ts,LstAt H' lt ts/\rdL n (ws.take (2*i))=some ts/\ts.length=i) ?_ ?_ ?_
 ·exact⟨⟨_,_,rfl⟩,z2.trans vt,h2t,[],⟨[],qd_,.nil⟩,rfl,rfl⟩
 ·rintro i σ H3 hi ⟨⟨c4,c5,rfl⟩,z3,h3l,ts,⟨us,eT,iT⟩,rT,lT⟩
  have lus:=Ai iT
  obtain⟨sy,e1⟩:∃sy,ys[2*i]?=some sy:=⟨_,AK (by omega)⟩
  obtain⟨wy,e2⟩:∃wy,ys[2*i+1]?=some wy:=⟨_,AK (by omega)⟩
  have w1:ws[2*i]?=some (tx sy):=by rw[<-ey,Ac,e1];rfl
  have w2:ws[2*i+1]?=some (tx wy):=by rw[<-ey,Ac,e2];rfl
  obtain⟨t1,t2⟩:=adr_ w1 w2
  have bad:rtO n (tx sy) (tx wy)=none->rdL n ws=none:=λe=>by
   rw[t2,ym_ rT,agi_ e]
  have a1:atI (ys.map V.str) (2*(i:Int))=some (.str sy):=by
   rw[show 2*(i:Int)=((2*i:Nat):Int) by omega]
   exact q2_ (by rw[Ac,e1];rfl)
  have a2:atI (ys.map V.str) (2*(i:Int)+1)=some (.str wy):=by
   rw[show 2*(i:Int)+1=((2*i+1:Nat):Int) by omega]
   exact q2_ (by rw[Ac,e2];rfl)
  have lr:=ajo_ n (tx sy) (tx wy)
  refine⟨_,rfl,_,rfl,_,rfl,_,_,rfl,rfl,l2,_,_,.str wy,rfl,rfl,SqL.of h3l,a2,n,wy,rfl,n1,n4,yl wy (Aq e2),λln H4 s4=>?_,λt ls p H4 s4 hp=>?_⟩
  ·refine⟨_,rfl,rfl,_,rfl,?_⟩
   refine qB_ rfl (qn (bad ?_) _ (z3.trans s4))
   rw[lr,ln]
  rw[ls]at lr
  have h4l:=s4 _ _ h3l
  refine⟨_,rfl,rfl,_,rfl,?_⟩
  refine qw_ (λy=>by cases y) ?_
  refine⟨_,rfl,_,rfl,l2,_,_,.str sy,rfl,rfl,SqL.of h4l,a1,(by show 2<=sizeLine;decide),λq7 g7=>?_⟩
  have v7:=qf_ g7 (.tup [V.str (Str.ofString "+"),V.str (Str.ofString "-")])
  refine⟨q7,_,rfl,.inr (SqT.of qd_),rfl,rfl,_,rfl,?_⟩
  show if (!inV _ [V.str (Str.ofString "+"),V.str (Str.ofString "-")])=true then _ else _
  rw[show inV (.str sy) [V.str (Str.ofString "+"),V.str (Str.ofString "-")]=(rsO (tx sy)).isSome by rw[spm,in28 rfl,ail_]]
  have a4:=s4.trans v7
  have h7l:=v7 _ _ h4l
  have hp7:=Dat.mono (Tups.same v7) hp
  generalize upd H4 q7 (.tup [V.str (Str.ofString "+"),V.str (Str.ofString "-")])=H7 at *
  cases ers:rsO (tx sy) with
  |none =>
   refine ja_ (qn (bad ?_) _ (z3.trans a4))
   rw[lr,ers]
  |some x =>
  rw[ers]at lr
  refine zj_ ?_
  obtain⟨pp,kk,epp,hpp,hkk⟩:=xp_ hp7
  cases epp
  have tb:=ads_ ls
  obtain⟨rv,xb⟩:=aid_ ers t.2
  have eT7:=a4 _ _ eT
  refine⟨_,rfl,.inl ⟨rfl,_,SqL.of eT7⟩,_,rfl,p,_,_,.ref kk,rfl,rfl,SqT.of hpp,rfl,_,rfl,p,_,_,.int t.2,rfl,rfl,SqT.of hpp,rfl,_,_,rfl,rfl,(by show 2<=sizeLine;decide),λq3 g3=>?_⟩
  have v3:=qf_ g3 (.lst [.int 1,.int (0-1)])
  refine⟨_,rfl,_,rfl,l2,_,_,.str sy,rfl,rfl,SqL.of (v3 _ _ h7l),a1,rfl,_,rfl,q3,_,_,_,rfl,rfl,SqL.of qd_,ajx_ _ _ _,_,_,rfl,rfl,⟨zg_ tb (by decide),?_⟩,(by show 2<=sizeLine;decide),λp5 g5=>?_⟩
  ·have h1:∀b:Bool,(if b=true then (0-1:Int) else 1).natAbs<2^1:=by decide
   exact zg_ (h1 _) (by decide)
  have ed:decide (V.str sy=V.str (Str.ofString "-"))=decide (tx sy=[45]):=by
   rw[Bi,decide_eq_true_eq,decide_eq_true_eq,qK_ xD_]
  have en:t.2*(if decide (V.str sy=V.str (Str.ofString "-"))=true then 0-1 else 1)=x*t.2:=by rw[ed];exact rv
  have v4:=qf_ g5 (.tup [.ref kk,.int (t.2*(if decide (V.str sy=V.str (Str.ofString "-"))=true then 0-1 else 1))])
  have a6:=a4.trans (v3.trans v4)
  have h5:upd (upd H7 q3 (.lst [.int 1,.int (0-1)])) p5 (.tup [.ref kk,.int (t.2*(if decide (V.str sy=V.str (Str.ofString "-"))=true then 0-1 else 1))]) p5=some (.tup [.ref kk,.int (x*t.2)]):=by rw[qd_,en]
  have h6:=(v3.trans v4) _ _ hkk
  show ∃l xs y,_/\_/\upd (upd H7 q3 (.lst [.int 1,.int (0-1)])) p5 (.tup [.ref kk,.int (t.2*(if decide (V.str sy=V.str (Str.ofString "-"))=true then 0-1 else 1))]) l=_/\_/\_
  generalize upd (upd H7 q3 (.lst [.int 1,.int (0-1)])) p5 (.tup [.ref kk,.int (t.2*(if decide (V.str sy=V.str (Str.ofString "-"))=true then 0-1 else 1))])=H6 at *
  have eT6:=a6 _ _ eT
  refine⟨lt,us,_,rfl,rfl,eT6,by omega,?_⟩
  have t7:=yw_ eT6 (.lst (us++[.ref p5]))
  refine⟨⟨_,_,rfl⟩,jh_ ht0 (z3.trans a6) _,by rw[ql_ n2t];exact a6 _ _ h3l,ts++[(t.1,x*t.2)],⟨us++[.ref p5],qd_,CP (Its.mono ((Tups.same a6).trans t7) iT) (Dat.mono t7 (jo_ (t:=(t.1,x*t.2)) h5 h6))⟩,?_,by rw[AQ,lT];rfl⟩
  rw[t1,ym_ rT,agk_ lr]
 ·rintro σ H3 ⟨⟨c4,c5,rfl⟩,z3,h3l,ts,hT,rT,lT⟩
  rw[<-hm,List.take_length]at rT
  exact⟨_,rfl,lt,ts,rfl,hT,by omega,λld H4 f4 s4 h4'=>qs ts rT (by omega) ld H4 (z3.free f4) (z3.trans s4) h4'⟩
def qG_:Expr->Option Str
 |.Constant (.str x) _ _=>some x
 |_=>none
theorem abx_{e:Expr}(h:(qG_ e).isSome=true):∃x j p,e=.Constant (.str x) j p:=by
 unfold qG_ at h
 split at h
 ·exact⟨_,_,_,rfl⟩
 ·cases h
theorem vA_{X:Cx}:∀{es:List Expr},es.all (λe=>(qG_ e).isSome)=true->PA X es (λσ H Q=>Q ((es.filterMap qG_).map V.str) H)
 |[],_=>qb_
 |e::r,h=>by
  rw[CA,BI]at h
  obtain⟨x,j,p,rfl⟩:=abx_ h.1
  exact λpos pins s σ H Q I q=>(qa_ (X:=X) (e:=Expr.Constant (.str x) j p) qh_ (vA_ h.2) rfl) pos pins s σ H Q I q
def tTxs(es:List Expr):TE:=λ_ H Q=>∀p,H p=none->Q (.ref p) (upd H p (.lst ((es.filterMap qG_).map V.str)))
theorem vk_{X:Cx}{es:List Expr}{pl:Pos}(h:es.all (λe=>(qG_ e).isSome)=true)(hl:es.length<=100):PE X (.List es pl) (tTxs es):=λpins s σ H Q I q =>
 (qD_ (pos:=pl) (vA_ h)) pins s σ H Q I ⟨by
  have:=Bl qG_ es
  rw[AF]
  have:sizeLine=16777216:=rfl
  omega,q⟩
theorem aeb_:∃(es1 es2 es3:List Expr)(p1 p2 p3 p4 p5 p6 p7 p8 p9 p10 p11 p12 p13 p14 p15 p16 p17 p18 p19:Pos)(j:Nat),zO_ sOdd=[.Assign [.Name "_law_some" p1] (.List es1 p2) p3,.Assign [.Name "_law_some" p4] (.BinOp (.Name "_law_some" p5) .Add (.List es2 p6) p7) p8,.Assign [.Name "_law_some" p9] (.BinOp (.Name "_law_some" p10) .Add (.List es3 p11) p12) p13,.Return (some (.Subscript (.Name "_law_some" p14) (.BinOp (.Name "_law_cell_here" p15) .Mod (.Constant (.int 30) j p16) p17) p18)) p19] /\
  (es1.all (λe=>(qG_ e).isSome)&&es2.all (λe=>(qG_ e).isSome)&&es3.all (λe=>(qG_ e).isSome))=true/\((es1++es2++es3).length=30/\(es1.filterMap qG_++es2.filterMap qG_++es3.filterMap qG_).length=30)/\(es1.filterMap qG_++es2.filterMap qG_++es3.filterMap qG_).all (λx=>x.length<=10)=true:=by
 refine⟨_,_,_,_,_,_,_,_,_,_,_,_,_,_,_,_,_,_,_,_,_,_,_,rfl,?_,?_,?_⟩
 ·decide +kernel
 ·decide +kernel
 ·decide +kernel
section
variable{X:Cx}
theorem zA_:SlR X (λx lo hi H Q=>∃z:Str,x=.str z/\z.length<=sizeLine/\∀z':Str,z'.length<=z.length->Q (.str z') H):=by
 intro pins s σ H x v vl vu lo hi sl Q I rx hs pl pu ⟨z,e,h,q⟩
 exact qW_ pins s σ H x v vl vu lo hi sl Q I rx hs pl pu ⟨z,e,h,q _ (Bc z _ _)⟩
theorem qN_:OpR X (binaryOp .Add) (λx y H Q=>∃i j:Str,x=.str i/\y=.str j/\i.length+j.length<=sizeLine/\∀z':Str,z'.length=i.length+j.length->Q (.str z') H):=by
 intro pins s σ H x y v u Q I rx ry ⟨i,j,e1,e2,h,q⟩
 exact qY_ pins s σ H x y v u Q I rx ry ⟨i,j,e1,e2,h,q _ (zr_ i j)⟩
end
abbrev nOdd:List Str:=["_law_cell_here", "_law_some"]
theorem scOdd:FnScope nOdd ["_law_cell_here"] (qm_ sOdd):=⟨rfl,rfl,rfl,by decide +kernel,rfl,by decide +kernel,by decide +kernel⟩
def afl_:Sp:=λvs H Q _=>∃c:Int,vs=[.int c]/\∀(z:Str)(H':Hp),Same H H'->z.length<=10->Q (.str z) H'
theorem ah2_(F:Fun K "_law_odd" "_law_odd" sOdd f fd):FnOk P w K mg base CX0 2 f fd ["_law_cell_here"] afl_:=by
 refine F.ok scOdd (λvs H Q E h=>?_) (λcdv A outer s H vs Q E hr h=>?_)
 ·obtain⟨c,rfl,_⟩:=h
  rfl
 obtain⟨c,rfl,q⟩:=h
 have sz:sizeLine=16777216:=rfl
 obtain⟨es1,es2,es3,p1,p2,p3,p4,p5,p6,p7,p8,p9,p10,p11,p12,p13,p14,p15,p16,p17,p18,p19,j,hb,ha,⟨hl,hl2⟩,hs⟩:=aeb_
 rw[hb]
 simp only[BI]at ha
 rw[AQ,AQ]at hl
 refine⟨_,qc_ (qj_ (i:=1) scOdd.nd rfl (Or.inl rfl) (vk_ ha.1.1 (by omega)))
  (qc_ (qj_ (i:=1) scOdd.nd rfl (Or.inl rfl) (qi_ zi_ (pv 1) (vk_ ha.1.2 (by omega))))
  (qc_ (qj_ (i:=1) scOdd.nd rfl (Or.inl rfl) (qi_ zi_ (pv 1) (vk_ ha.2 (by omega))))
  (qg_ (qp_ (qF_ qP_ (pv 1) (qi_ q1_ (pv 0) qe_) (λ_ _=>rfl)))))),?_⟩
 have hs':∀x∈es1.filterMap qG_++es2.filterMap qG_++es3.filterMap qG_,x.length<=10:=λx hx=>of_decide_eq_true (DO.mp hs x hx)
 have f1:=Bl qG_ es1
 have f2:=Bl qG_ es2
 have f3:=Bl qG_ es3
 have k1:=λ(l:List Str)=>AF (as:=l) V.str
 refine λq1 g1=>⟨_,rfl,λq2 g2=>?_⟩
 have v1:=qf_ g1 (.lst ((es1.filterMap qG_).map V.str))
 have v2:=qf_ g2 (.lst ((es2.filterMap qG_).map V.str))
 refine⟨q1,q2,_,_,rfl,rfl,v2 _ _ qd_,qd_,by rw[k1,k1];omega,λq3 g3=>⟨_,rfl,λq4 g4=>?_⟩⟩
 have v3:=qf_ g3 (.lst ((es1.filterMap qG_).map V.str++(es2.filterMap qG_).map V.str))
 have v4:=qf_ g4 (.lst ((es3.filterMap qG_).map V.str))
 refine⟨q3,q4,_,_,rfl,rfl,v4 _ _ qd_,qd_,by rw[AQ,k1,k1,k1];omega,λq5 g5=>?_⟩
 have v5:=qf_ g5 (.lst ((es1.filterMap qG_).map V.str++(es2.filterMap qG_).map V.str++(es3.filterMap qG_).map V.str))
 have c0:=BO c (show(30:Int)≠0 by decide)
 have c1:=A0 c (show(0:Int)<30 by decide)
 obtain⟨k,hk,k30⟩:∃k:Nat,c%30=k/\k<30:=⟨(c%30).toNat,by omega,by omega⟩
 obtain⟨x,hx⟩:∃x,(es1.filterMap qG_++es2.filterMap qG_++es3.filterMap qG_)[k]?=some x:=⟨_,AK (by omega)⟩
 have at1:atI ((es1.filterMap qG_).map V.str++(es2.filterMap qG_).map V.str++(es3.filterMap qG_).map V.str) (c%30)=some (.str x):=by
  rw[hk,<-Av,<-Av]
  exact q2_ (by rw[Ac,hx];rfl)
 exact⟨_,rfl,_,rfl,_,_,rfl,rfl,(by show(0:Int)<30;decide),q5,_,_,.str x,rfl,rfl,SqL.of qd_,at1,q x _ (v1.trans (v2.trans (v3.trans (v4.trans v5)))) (hs' x (Aq hx))⟩
abbrev akc_:List Str:=["_law_line", "_law_cell_here", "_law_place", "_law_sign", "_law_way", "_law_turned_signs"]
abbrev abc_:List Str:=["_law_line", "_law_cell_here"]
theorem scBent:FnScope akc_ abc_ (qm_ aat_):=⟨rfl,rfl,rfl,by decide +kernel,rfl,by decide +kernel,by decide +kernel⟩
def adf_:Sp:=λvs H Q _=>∃(z:Str)(c:Int),vs=[.str z,.int c]/\z.length<=10000/\∀(z':Str)(H':Hp),Same H H'->z'.length<=50000->Q (.str z') H'
theorem afi_(a b c d:Str)(k:Int):∃z,atI [V.str a,V.str b,V.str c,V.str d] (k%4)=some (.str z)/\(z=a∨z=b∨z=c∨z=d):=by
 have h0:=BO k (show(4:Int)≠0 by decide)
 have h1:=A0 k (show(0:Int)<4 by decide)
 have:k%4=0∨k%4=1∨k%4=2∨k%4=3:=by omega
 rcases this with e|e|e|e
 ·exact⟨a,by rw[e];rfl,.inl rfl⟩
 ·exact⟨b,by rw[e];rfl,.inr (.inl rfl)⟩
 ·exact⟨c,by rw[e];rfl,.inr (.inr (.inl rfl))⟩
 ·exact⟨d,by rw[e];rfl,.inr (.inr (.inr rfl))⟩
theorem akj_(a b c:Str)(k:Int):∃z,atI [V.str a,V.str b,V.str c] (k%3)=some (.str z)/\(z=a∨z=b∨z=c):=by
 have h0:=BO k (show(3:Int)≠0 by decide)
 have h1:=A0 k (show(0:Int)<3 by decide)
 have:k%3=0∨k%3=1∨k%3=2:=by omega
 rcases this with e|e|e
 ·exact⟨a,by rw[e];rfl,.inl rfl⟩
 ·exact⟨b,by rw[e];rfl,.inr (.inl rfl)⟩
 ·exact⟨c,by rw[e];rfl,.inr (.inr rfl)⟩
theorem ahd_(F:Fun K "_law_bent" "_law_bent" aat_ f fd)(GH:Has P w K mg base 3 "_law_thing" ["_law_cell_here", "_law_k", "_law_many"] xK_)(GO:Has P w K mg base 3 "_law_odd" ["_law_cell_here"] afl_)(mn:mg "len" = none):FnOk P w K mg base CX0 4 f fd abc_ adf_:=by
 refine F.ok scBent (λvs H Q E h=>?_) (λcdv A outer s H vs Q E hr h=>?_)
 ·obtain⟨z,c,rfl,_⟩:=h
  rfl
 obtain⟨z,c,rfl,hz,q⟩:=h
 have sz:sizeLine=16777216:=rfl
 refine⟨_,(qc_ (qj_ (i:=2) scBent.nd rfl (Or.inl rfl) (qV_ GH hr rfl (qa_ (pv 1) (qa_ qe_ (qa_ (qi_ qM_ (qo_ zb_ rfl mn Au (qa_ (pv 0) qb_)) qe_) qb_)))))
  (qc_ (qj_ (i:=3) scBent.nd rfl (Or.inl rfl) (qF_ xv_ qh_ (qV_ GH hr rfl (qa_ (pv 1) (qa_ qe_ (qa_ qe_ qb_)))) (λ_ _=>rfl)))
  (qc_ (qj_ (i:=4) scBent.nd rfl (Or.inl rfl) (qi_ q1_ (pv 1) qe_))
  (qc_ (qt_ (qk_ qH_ (pv 4) qe_ (qn_ _)) (qg_ (qp_ (qi_ qN_ (qi_ qN_ (qs_ zA_ (pv 0) qy_ (qr_ (pv 2))) (pv 3)) (qs_ zA_ (pv 0) (qr_ (pv 2)) qy_)))) qq_)
  (qc_ (qt_ (qk_ qH_ (pv 4) qe_ (qn_ _)) (qg_ (qp_ (qi_ qN_ (qi_ qN_ (qs_ zA_ (pv 0) qy_ (qr_ (pv 2))) (pv 3)) (qs_ zA_ (pv 0) (qr_ (qi_ qM_ (pv 2) qe_)) qy_)))) qq_)
  (qc_ (qt_ (qk_ qH_ (pv 4) qe_ (qn_ _)) (qg_ (qp_ (qi_ qN_ (qs_ zA_ (pv 0) qy_ (qr_ (pv 2))) (qs_ zA_ (pv 0) (qr_ (qi_ qM_ (pv 2) qe_)) qy_)))) qq_)
  (qc_ (qt_ (qk_ qH_ (pv 4) qe_ (qn_ _)) (qc_ (qj_ (i:=5) scBent.nd rfl (Or.inl rfl) (qi_ qN_ (qs_ zA_ (pv 0) (qr_ (qi_ qM_ (pv 2) qe_)) (qr_ (qi_ qM_ (pv 2) qe_))) (qs_ zA_ (pv 0) (qr_ (pv 2)) (qr_ (qi_ qM_ (pv 2) qe_)))))
  (qg_ (qp_ (qi_ qN_ (qi_ qN_ (qs_ zA_ (pv 0) qy_ (qr_ (pv 2))) (pv 5)) (qs_ zA_ (pv 0) (qr_ (qi_ qM_ (pv 2) qe_)) qy_))))) qq_)
  (qc_ (qt_ (qk_ qH_ (pv 4) qe_ (qn_ _)) (qg_ (qp_ (qi_ qN_ (pv 0) (qF_ qP_ (qD_ (qa_ qh_ (qa_ qh_ (qa_ qh_ (qa_ qh_ qb_))))) (qi_ q1_ (qi_ zX_ (pv 1) qe_) qe_) (λ_ _=>rfl))))) qq_)
  (qc_ (qt_ (qk_ qH_ (pv 4) qe_ (qn_ _)) (qg_ (qp_ (qi_ qN_ (qF_ qP_ (qD_ (qa_ qh_ (qa_ qh_ (qa_ qh_ (qa_ qh_ qb_))))) (qi_ q1_ (qi_ zX_ (pv 1) qe_) qe_) (λ_ _=>rfl)) (pv 0)))) qq_)
  (qc_ (qt_ (qk_ qH_ (pv 4) qe_ (qn_ _)) (qg_ (qp_ (qV_ GO hr rfl (qa_ (qi_ zX_ (pv 1) qe_) qb_)))) qq_)
  (qc_ (qt_ (qk_ qH_ (pv 4) qe_ (qn_ _)) (qg_ (qp_ (qi_ qN_ (qi_ qN_ qh_ (qi_ ag8_ qh_ (qi_ qM_ qe_ (qi_ q1_ (qi_ zX_ (pv 1) qe_) qe_)))) (qF_ qP_ (qD_ (qa_ qh_ (qa_ qh_ (qa_ qh_ qb_)))) (qi_ q1_ (qi_ zX_ (pv 1) qe_) qe_) (λ_ _=>rfl))))) qq_)
  (qg_ (qp_ (pv 0)))))))))))))),?_⟩
 have th:∀m:Int,0<m->0<=q5_ c 32 m/\q5_ c 32 m<m:=λm hm=>⟨xO_ hm,xX_ hm⟩
 refine⟨_,rfl,_,rfl,z,rfl,by omega,_,_,rfl,rfl,c,31,(z.length:Int)+1,rfl,by decide,by decide,by omega,?_⟩
 show qU_ 2 (V.int (q5_ c 31 ((z.length:Int)+1))) _ _ _
 generalize q5_ c 31 ((z.length:Int)+1)=pl
 obtain⟨t0,t1⟩:=th 20 (by decide)
 obtain⟨sc,asc⟩:∃sc,atI (Str.ofString " +-xyzw^0123456789.a").cps.toList (q5_ c 32 20)=some sc:=by
  obtain⟨k,hk⟩:∃k:Nat,q5_ c 32 20=k:=⟨(q5_ c 32 20).toNat,by omega⟩
  have l20:(Str.ofString " +-xyzw^0123456789.a").cps.toList.length=20:=by decide +kernel
  exact⟨_,by rw[hk];exact q2_ (AK (by omega))⟩
 refine⟨_,rfl,c,32,20,rfl,by decide,by decide,by decide,_,_,sc,rfl,rfl,by decide +kernel,asc,?_⟩
 have ls:(Str.mk #[sc]).length=1:=rfl
 show qU_ 3 (V.str ⟨#[sc]⟩) _ _ _
 generalize (Str.mk #[sc])=sg at *
 refine⟨_,rfl,_,_,rfl,rfl,(by show(0:Int)<9;decide),?_⟩
 have S:=Same.refl H
 refine⟨_,rfl,rfl,_,rfl,?_⟩
 by_cases c1:V.int (c%9)=V.int 1
 ·refine qB_ c1 ?_
  refine⟨_,rfl,_,rfl,_,rfl,z,rfl,by omega,λa la=>?_⟩
  refine⟨_,rfl,_,_,rfl,rfl,by omega,λb lb=>?_⟩
  refine⟨_,rfl,_,rfl,_,rfl,z,rfl,by omega,λd ld=>?_⟩
  exact⟨_,_,rfl,rfl,by omega,λe le=>q e _ S (by omega)⟩
 refine qw_ c1 ?_
 refine⟨_,rfl,rfl,_,rfl,?_⟩
 by_cases c2:V.int (c%9)=V.int 2
 ·refine qB_ c2 ?_
  refine⟨_,rfl,_,rfl,_,rfl,z,rfl,by omega,λa la=>?_⟩
  refine⟨_,rfl,_,_,rfl,rfl,by omega,λb lb=>?_⟩
  refine⟨_,rfl,_,rfl,_,_,rfl,rfl,_,rfl,z,rfl,by omega,λd ld=>?_⟩
  exact⟨_,_,rfl,rfl,by omega,λe le=>q e _ S (by omega)⟩
 refine qw_ c2 ?_
 refine⟨_,rfl,rfl,_,rfl,?_⟩
 by_cases c3:V.int (c%9)=V.int 3
 ·refine qB_ c3 ?_
  refine⟨_,rfl,_,rfl,_,rfl,z,rfl,by omega,λa la=>?_⟩
  refine⟨_,rfl,_,rfl,_,_,rfl,rfl,_,rfl,z,rfl,by omega,λd ld=>?_⟩
  exact⟨_,_,rfl,rfl,by omega,λe le=>q e _ S (by omega)⟩
 refine qw_ c3 ?_
 refine⟨_,rfl,rfl,_,rfl,?_⟩
 by_cases c4:V.int (c%9)=V.int 4
 ·refine qB_ c4 ?_
  refine⟨_,rfl,_,rfl,_,_,rfl,rfl,_,rfl,_,rfl,_,_,rfl,rfl,_,rfl,z,rfl,by omega,λa la=>?_⟩
  refine⟨_,rfl,_,rfl,_,rfl,_,rfl,_,_,rfl,rfl,_,rfl,z,rfl,by omega,λb lb=>?_⟩
  refine⟨_,_,rfl,rfl,by omega,λt lt=>?_⟩
  refine⟨_,rfl,_,rfl,_,rfl,z,rfl,by omega,λd ld=>?_⟩
  refine⟨_,rfl,_,_,rfl,rfl,by omega,λe le=>?_⟩
  refine⟨_,rfl,_,rfl,_,_,rfl,rfl,_,rfl,z,rfl,by omega,λg lg=>?_⟩
  exact⟨_,_,rfl,rfl,by omega,λk lk=>q k _ S (by omega)⟩
 refine qw_ c4 ?_
 refine⟨_,rfl,rfl,_,rfl,?_⟩
 by_cases c5:V.int (c%9)=V.int 5
 ·refine qB_ c5 ?_
  obtain⟨t,at1,ht⟩:=afi_ (Str.ofString " ") (Str.ofString " + 1") (Str.ofString " - x") (Str.ofString " + x^8") (c / 9)
  have lt:t.length<=10:=by
   rcases ht with rfl|rfl|rfl|rfl<;>decide +kernel
  refine⟨_,rfl,(by show 4<=sizeLine;decide),λq1 g1=>?_⟩
  refine⟨_,rfl,_,_,rfl,rfl,⟨by decide,by decide⟩,_,_,rfl,rfl,(by show(0:Int)<4;decide),q1,_,_,.str t,rfl,rfl,SqL.of qd_,at1,?_⟩
  exact⟨_,_,rfl,rfl,by omega,λe le=>q e _ (qf_ g1 _) (by omega)⟩
 refine qw_ c5 ?_
 refine⟨_,rfl,rfl,_,rfl,?_⟩
 by_cases c6:V.int (c%9)=V.int 6
 ·refine qB_ c6 ?_
  obtain⟨t,at1,ht⟩:=afi_ (Str.ofString " ") (Str.ofString "1 + ") (Str.ofString "x - ") (Str.ofString "-") (c / 9)
  have lt:t.length<=10:=by
   rcases ht with rfl|rfl|rfl|rfl<;>decide +kernel
  refine⟨(by show 4<=sizeLine;decide),λq1 g1=>?_⟩
  refine⟨_,rfl,_,_,rfl,rfl,⟨by decide,by decide⟩,_,_,rfl,rfl,(by show(0:Int)<4;decide),q1,_,_,.str t,rfl,rfl,SqL.of qd_,at1,?_⟩
  exact⟨_,rfl,_,_,rfl,rfl,by omega,λe le=>q e _ (qf_ g1 _) (by omega)⟩
 refine qw_ c6 ?_
 refine⟨_,rfl,rfl,_,rfl,?_⟩
 by_cases c7:V.int (c%9)=V.int 7
 ·refine qB_ c7 ?_
  exact⟨_,rfl,_,_,rfl,rfl,⟨by decide,by decide⟩,_,rfl,λe H' s' le=>q e H' s' (by omega)⟩
 refine qw_ c7 ?_
 refine⟨_,rfl,rfl,_,rfl,?_⟩
 by_cases c8:V.int (c%9)=V.int 8
 ·refine qB_ c8 ?_
  obtain⟨t,at1,ht⟩:=akj_ (Str.ofString "") (Str.ofString "x") (Str.ofString "x^2") (c / 27)
  have lt:t.length<=10:=by
   rcases ht with rfl|rfl|rfl<;>decide +kernel
  have m0:=BO (c / 9) (show(3:Int)≠0 by decide)
  have m1:=A0 (c / 9) (show(0:Int)<3 by decide)
  have l1:(Str.ofString "1").length=1:=by decide +kernel
  refine⟨_,rfl,_,_,rfl,rfl,⟨by decide,by decide⟩,_,_,rfl,rfl,(by show(0:Int)<3;decide),_,_,rfl,rfl,_,(58+c / 9%3).toNat,rfl,?_,by omega,by omega,by decide +kernel,λa la=>?_⟩
  ·rw[Int.toNat_of_nonneg (by omega)]
  refine⟨_,_,rfl,rfl,by omega,λb lb=>?_⟩
  refine⟨(by show 3<=sizeLine;decide),λq1 g1=>?_⟩
  refine⟨_,rfl,_,_,rfl,rfl,⟨by decide,by decide⟩,_,_,rfl,rfl,(by show(0:Int)<3;decide),q1,_,_,.str t,rfl,rfl,SqL.of qd_,at1,?_⟩
  exact⟨_,_,rfl,rfl,by omega,λe le=>q e _ (qf_ g1 _) (by omega)⟩
 refine qw_ c8 ?_
 exact⟨_,rfl,q z _ S (by omega)⟩
def dig(i:Int):Str:=Str.ofString (toString i)
def ab(i:Int):Int:=if i<0 then -i else i
def caF(c b:Str):Str:=if c=Str.ofString "1" /\ b≠Str.ofString "" then b else c++b
def ljS(f:Str)(x:Bool×Str):Str:=if f=Str.ofString "" then (if x.1=true then Str.ofString "-" else Str.ofString "")++x.2 else f++(if x.1=true then Str.ofString " - " else Str.ofString " + ")++x.2
def ljF(l:List (Bool×Str)):Str:=if l.foldl ljS (Str.ofString "")=Str.ofString "" then Str.ofString "0" else l.foldl ljS (Str.ofString "")
theorem tx_e:tx (Str.ofString "")=[]:=by decide +kernel
theorem ajm_{f:Str}:f=Str.ofString "" ↔ tx f=[]:=⟨λe=>by rw[e,tx_e],λe=>zR_ (by rw[e,tx_e])⟩
theorem aaf_{i:Int}(h0:0<=i)(h:i<10^60):(dig i).length<=60:=Cd h0 (by decide) h
theorem acs_{i:Int}(h:i.natAbs<10^60):i.natAbs.log2<1920:=by
 by_cases c:i.natAbs=0
 ·rw[c];decide
 ·exact(Nat.log2_lt c).mpr (AO h (AZ (show(10:Nat)^60<=2^200 by decide) (Cn (by decide) (by decide))))
theorem xZ_:(Str.ofString "").length=0:=by decide +kernel
theorem afn_(t:Int):0<=ab t:=by unfold ab;split<;>omega
theorem afv_{t:Int}{N:Nat}(h:t.natAbs<N):ab t<N:=by unfold ab;split<;>omega
theorem aia_(c b:Str):(caF c b).length<=c.length+b.length:=by
 unfold caF
 split
 ·omega
 ·rw[zr_];omega
def wtF(p:List Int)(c:Int):Str:=caF (dig (ab c)) (ofL (zF_ 0 p))
theorem vi_:∀(p:List Int)(j:Nat),((List.range p.length).map λi=>pwT (ltr (j+i)) (p.getD i 0)).flatten=zF_ j p
 |[],_=>rfl
 |x::p,j=>by
  rw[AN,Ba,Ab,B6,Cj]
  unfold zF_
  have ih:=vi_ p (j+1)
  have e:((λi=>pwT (ltr (j+i)) ((x::p).getD i 0)) ∘ Nat.succ)=λi=>pwT (ltr (j+1+i)) (p.getD i 0):=by
   funext i
   show pwT (ltr (j+(i+1))) ((x::p).getD (i+1) 0)=_
   rw[show j+(i+1)=j+1+i by omega]
   rfl
  rw[e,ih]
  rfl
def Wr(n:Nat)(ts:List Mon):Prop:=ts.length<=20/\∀t∈ts,t.1.length=n/\(∀x∈t.1,0<=x/\x<=8)/\t.1.sum<=8/\t.2.natAbs<10^60
theorem adb_{p:List Int}{c:Int}(h4:p.length<=4)(h8:∀x∈p,0<=x/\x<=8)(hc:c.natAbs<10^60):(wtF p c).length<=100:=by
 have ul:=yk_ p 0 h8
 have dl:(dig (ab c)).length<=60:=aaf_ (afn_ c) (by exact_mod_cast afv_ hc)
 have:=aia_ (dig (ab c)) (ofL (zF_ 0 p))
 rw[xy_]at this
 unfold wtF
 omega
abbrev nJo:List Str:=["_law_shares", "_law_found", "_law_away", "_law_word"]
theorem scJo:FnScope nJo ["_law_shares"] (qm_ sJo):=⟨rfl,rfl,rfl,by decide +kernel,rfl,by decide +kernel,by decide +kernel⟩
def spJo:Sp:=λvs H Q _=>∃(l:Addr)(ws:List (Bool×Str)),vs=[.ref l]/\LstAt H l ws/\ws.length<=20/\(∀x∈ws,x.2.length<=1000)/\∀H',Same H H'->Q (.str (ljF ws)) H'
theorem vF_{H:Hp}{v:V}{x:Bool×Str}(h:Dat.is H v x):∃p,v=.ref p/\H p=some (.tup [.bl x.1,.str x.2]):=by
 obtain⟨p,a,b,rfl,hp,ha,hb⟩:=h
 have ha':a=.bl x.1:=ha
 have hb':b=.str x.2:=hb
 subst ha' hb'
 exact⟨p,rfl,hp⟩
theorem afm_(a b:Str)(c:Bool):atI [V.str a,V.str b] (if c then 1 else 0)=some (.str (if c=true then b else a)):=by
 cases c<;>rfl
theorem y2_:∀(l:List (Bool×Str))(f:Str)(B:Nat),(∀x∈l,x.2.length<=1000)->f.length<=B->(l.foldl ljS f).length<=B+l.length*1003
 |[],f,B,_,h=>by simpa using h
 |x::l,f,B,hx,h=>by
  rw[CJ,AN]
  have h1:=hx x (AH ..)
  have c1:(Str.ofString "-").length=1:=by decide +kernel
  have c3:(Str.ofString " - ").length=3:=by decide +kernel
  have c4:(Str.ofString " + ").length=3:=by decide +kernel
  have e:(ljS f x).length<=B+1003:=by
   unfold ljS
   split
   ·rw[zr_]
    split
    ·omega
    ·rw[xZ_];omega
   ·rw[zr_,zr_]
    split<;>omega
  have:=y2_ l (ljS f x) (B+1003) (λy hy=>hx y (AD _ hy)) e
  omega
theorem aj9_(F:Fun K "_law_joined" "_law_joined" sJo f fd)(mi:mg "int" = none):FnOk P w K mg base CX0 2 f fd ["_law_shares"] spJo:=by
 refine F.ok scJo (λvs H Q E h=>?_) (λcdv A outer s H vs Q E hr h=>?_)
 ·obtain⟨l,ws,rfl,_⟩:=h
  rfl
 obtain⟨l,ws,rfl,hL,hn,hw,q⟩:=h
 refine⟨_,qc_ (qj_ (i:=1) scJo.nd rfl (Or.inl rfl) qh_)
  (qc_ (zf_ BA rfl (zG_ (pv 0)) (jk_ rfl (qR_ (qz_ (i:=2) scJo.nd rfl (Or.inl rfl)) (qR_ (qz_ (i:=3) scJo.nd rfl (Or.inl rfl)) zV_)))
   (qg_ (qt_ (qk_ qH_ (pv 1) qh_ (qn_ _))
    (qg_ (qj_ (i:=1) scJo.nd rfl (Or.inl rfl) (qi_ qY_ (qF_ qP_ (qD_ (qa_ qh_ (qa_ qh_ qb_))) (qO_ xo_ rfl mi BG (qa_ (pv 2) qb_)) (λ_ _=>rfl)) (pv 3))))
    (qg_ (qj_ (i:=1) scJo.nd rfl (Or.inl rfl) (qi_ qY_ (qi_ qY_ (pv 1) (qF_ qP_ (qD_ (qa_ qh_ (qa_ qh_ qb_))) (qO_ xo_ rfl mi BG (qa_ (pv 2) qb_)) (λ_ _=>rfl))) (pv 3)))))))
  (qc_ (qt_ (qk_ qH_ (pv 1) qh_ (qn_ _)) (qg_ (qp_ qh_)) qq_)
  (qg_ (qp_ (pv 1))))),?_⟩
 obtain⟨us,eL,iL⟩:=id hL
 have lv:=Ai iL
 refine⟨_,rfl,l,rfl,⟨_,SqL.of eL⟩,?_⟩
 refine zZ_ (xs:=us) (λi σ H'=>(∃c2 c3,σ=[some (.ref l),some (.str ((ws.take i).foldl ljS (Str.ofString ""))),c2,c3])/\Same H H') ?_ ?_ ?_ ?_
 ·exact⟨⟨_,_,rfl⟩,Same.refl _⟩
 ·rintro i σ H1 _ ⟨_,s1⟩
  exact SqL.of (s1 _ _ eL)
 ·rintro i v σ H1 hv ⟨⟨c2,c3,rfl⟩,s1⟩
  obtain⟨x,hx,hi⟩:=jm_ iL hv
  obtain⟨p,rfl,hp⟩:=vF_ hi
  have w1:=hw x (Aq hx)
  have il:i<ws.length:=(AY.mp hx).1
  have fl:=y2_ (ws.take i) (Str.ofString "") 0 (λy hy=>hw y (BV hy)) (by rw[xZ_];exact AB _)
  rw[As]at fl
  have st:(ws.take (i+1)).foldl ljS (Str.ofString "")=ljS ((ws.take i).foldl ljS (Str.ofString "")) x:=by rw[jj_ hx,List.foldl_append];rfl
  generalize (ws.take i).foldl ljS (Str.ofString "")=g at fl st
  have c1:(Str.ofString "-").length=1:=by decide +kernel
  have c3':(Str.ofString " - ").length=3:=by decide +kernel
  have c4:(Str.ofString " + ").length=3:=by decide +kernel
  refine⟨p,_,rfl,SqT.of (s1 _ _ hp),rfl,_,_,rfl,_,_,rfl,rfl,?_⟩
  refine⟨_,rfl,rfl,_,rfl,?_⟩
  have lp:g=Str.ofString "" -> ljS g x=_:=λe=>if_pos e
  have ln:¬ g=Str.ofString "" -> ljS g x=_:=λe=>if_neg e
  by_cases e:g=Str.ofString ""
  ·rw[lp e]at st
   refine qB_ (congrArg V.str e) ?_
   refine⟨(by show 2<=sizeLine;decide),λl2 h2=>?_⟩
   refine⟨_,rfl,x.1,rfl,l2,_,_,_,rfl,rfl,SqL.of qd_,afm_ _ _ _,_,rfl,_,_,rfl,rfl,small ?_,?_⟩
   ·split
    ·show(Str.ofString "-").length+_<=_
     omega
    ·show(Str.ofString "").length+_<=_
     rw[xZ_];omega
   ·refine⟨⟨some (.bl x.1),some (.str x.2),?_⟩,s1.trans (qf_ h2 _)⟩
    rw[st]
    rfl
  ·rw[ln e]at st
   refine qw_ (λz=>e (by injection z)) ?_
   refine⟨_,rfl,(by show 2<=sizeLine;decide),λl2 h2=>?_⟩
   refine⟨_,rfl,x.1,rfl,l2,_,_,_,rfl,rfl,SqL.of qd_,afm_ _ _ _,g,_,rfl,rfl,small ?_,_,rfl,_,_,rfl,rfl,small ?_,?_⟩
   ·split
    ·show _+(Str.ofString " - ").length<=_
     omega
    ·show _+(Str.ofString " + ").length<=_
     omega
   ·rw[zr_]
    split
    ·show _+(Str.ofString " - ").length+_<=_
     omega
    ·show _+(Str.ofString " + ").length+_<=_
     omega
   ·refine⟨⟨some (.bl x.1),some (.str x.2),?_⟩,s1.trans (qf_ h2 _)⟩
    rw[st]
    rfl
 ·rintro σ H1 ⟨⟨c2,c3,rfl⟩,s1⟩
  rw[AW (by omega)]
  refine⟨_,rfl,rfl,_,rfl,?_⟩
  have q':=q _ s1
  unfold ljF at q'
  by_cases e:ws.foldl ljS (Str.ofString "")=Str.ofString ""
  ·rw[if_pos e]at q'
   exact qB_ (congrArg V.str e) q'
  ·rw[if_neg e]at q'
   exact qw_ (λz=>e (by injection z)) ⟨_,rfl,q'⟩
abbrev nUn:List Str:=["_law_powers_here", "_law_found", "_law_k"]
theorem scUn:FnScope nUn ["_law_powers_here"] (qm_ sUnk):=⟨rfl,rfl,rfl,by decide +kernel,rfl,by decide +kernel,by decide +kernel⟩
def j7_(i:Nat)(p:List Int):List Nat:=((List.range i).map λk=>pwT (ltr k) (p.getD k 0)).flatten
theorem yI_(i:Nat)(p:List Int):j7_ (i+1) p=j7_ i p++pwT (ltr i) (p.getD i 0):=by
 unfold j7_
 rw[B3,Av,List.flatten_append]
 simp
theorem ae6_(p:List Int):j7_ p.length p=zF_ 0 p:=by
 rw[<-vi_ p 0]
 unfold j7_
 congr 1
 refine CF λi _=>?_
 rw[Nat.zero_add]
theorem ajc_{c:Nat}{x:Int}(h:0<=x/\x<=8):(pwT c x).length<=3:=by
 unfold pwT
 split
 ·simp
 ·split
  ·simp
  ·rw[y1_ (by omega)]
   simp
theorem y6_:∀(i:Nat)(p:List Int),(∀k,0<=p.getD k 0/\p.getD k 0<=8)->(j7_ i p).length<=3*i
 |0,_,_=>AB _
 |i+1,p,h=>by
  rw[yI_,AQ]
  have:=y6_ i p h
  have:=ajc_ (c:=ltr i) (h i)
  omega
theorem ai6_{p:List Int}(h:∀x∈p,0<=x/\x<=8)(k:Nat):0<=p.getD k 0/\p.getD k 0<=8:=by
 rw[BK]
 cases e:p[k]? with
 |none=>decide
 |some x=>exact h x (Aq e)
def afz_:Sp:=λvs H Q _=>∃(a:Addr)(p:List Int),vs=[.ref a]/\H a=some (.tup (p.map V.int))/\p.length<=4/\(∀x∈p,0<=x/\x<=8)/\∀H',Same H H'->Q (.str (ofL (zF_ 0 p))) H'
theorem adm_{r:List Int}{k:Nat}(h:k<r.length):atI (r.map V.int) (k:Int)=some (.int (r.getD k 0)):=by
 refine q2_ ?_
 rw[Ac,AK h,BK,AK h]
 rfl
theorem aiz_(F:Fun K "_law_unknowns" "_law_unknowns" sUnk f fd)(mn:mg "len" = none)(mr:mg "range" = none)(mS:mg "str" = none):FnOk P w K mg base CX0 2 f fd ["_law_powers_here"] afz_:=by
 refine F.ok scUn (λvs H Q E h=>?_) (λcdv A outer s H vs Q E hr h=>?_)
 ·obtain⟨a,p,rfl,_⟩:=h
  rfl
 obtain⟨a,p,rfl,ha,h4,h8,q⟩:=h
 have sz:sizeLine=16777216:=rfl
 have g8:=ai6_ h8
 refine⟨_,qc_ (qj_ (i:=1) scUn.nd rfl (Or.inl rfl) qh_)
  (qc_ (zf_ BA rfl (xu_ rfl mr (qa_ (qo_ q0_ rfl mn Au (qa_ (pv 0) qb_)) qb_)) (qz_ (i:=2) scUn.nd rfl (Or.inl rfl))
   (qc_ (jH_ (qt_ (qk_ jD_ (qF_ z9_ (pv 0) (pv 2) (λ_ _=>rfl)) qe_ (qn_ _)) (qg_ (qj_ (i:=1) scUn.nd rfl (Or.inl rfl) (qi_ qY_ (pv 1) (qF_ xv_ qh_ (pv 2) (λ_ _=>rfl))))) qq_))
   (qg_ (qt_ (qk_ jD_ (qF_ z9_ (pv 0) (pv 2) (λ_ _=>rfl)) qe_ (qn_ _)) (qg_ (qj_ (i:=1) scUn.nd rfl (Or.inl rfl) (qi_ qY_ (qi_ qY_ (pv 1) qh_) (qO_ xw_ rfl mS Dv (qa_ (qF_ z9_ (pv 0) (pv 2) (λ_ _=>rfl)) qb_))))) qq_))))
  (qg_ (qp_ (pv 1)))),?_⟩
 refine⟨_,rfl,a,_,rfl,.inr (SqT.of ha),_,rfl,by rw[AF];omega,by rw[AF];omega,?_⟩
 rw[An,AF]
 refine xr_ (lo:=0) (n:=p.length) (λi σ H'=>(∃c2,σ=[some (.ref a),some (.str (ofL (j7_ i p))),c2])/\Same H H') ?_ ?_ ?_
 ·refine⟨⟨none,?_⟩,Same.refl _⟩
  rw[show ofL (j7_ 0 p)=Str.ofString "" from zR_ (by rw[z4_,za_];rfl)]
  rfl
 ·rintro i σ H1 hi ⟨⟨c2,rfl⟩,s1⟩
  rw[Int.zero_add]
  have x8:=g8 i
  have gi:=adm_ (r:=p) hi
  have l1:=y6_ i p g8
  have us:=yI_ i p
  generalize j7_ i p=u at *
  generalize p.getD i 0=x at *
  have lu:(ofL u).length=u.length:=xy_ u
  refine⟨λσ H'=>H1=H'/\σ=[some (.ref a),some (.str (ofL (u++if 0<x then [ltr i] else []))),some (.int i)],?_,?_⟩
  ·refine⟨_,rfl,_,rfl,a,_,_,.int x,rfl,rfl,SqT.of (s1 _ _ ha),gi,_,_,rfl,rfl,_,rfl,?_⟩
   by_cases c:0<x
   ·refine qB_ c ?_
    have at1:atI (Str.ofString "xyzw").cps.toList ((i:Nat):Int)=some (ltr i):=by
     show atI (tx jb_) ((i:Nat):Int)=_
     rw[jU_]
     refine q2_ ?_
     unfold ltr
     rw[BK,AK (show i<4 by omega)]
     rfl
    refine⟨_,rfl,_,rfl,_,_,ltr i,rfl,rfl,by decide +kernel,at1,_,_,rfl,rfl,?_,rfl,?_⟩
    ·show(ofL u).length+1<=sizeLine
     omega
    ·rw[if_pos c,show ofL (u++[ltr i])=ofL u++⟨#[ltr i]⟩ from zR_ (by rw[zT_,z4_,z4_];rfl)]
     rfl
   ·refine qw_ c ⟨rfl,?_⟩
    rw[if_neg c,BY]
    rfl
  rintro σ _ ⟨rfl,rfl⟩
  refine⟨_,rfl,_,rfl,a,_,_,.int x,rfl,rfl,SqT.of (s1 _ _ ha),gi,_,_,rfl,rfl,_,rfl,?_⟩
  rw[us]
  by_cases c:1<x
  ·refine qB_ c ?_
   have h10:(10:Nat)<=10^60:=by decide
   have l3:(Str.ofString (toString x)).length<=1:=Cd x8.1 (by decide) (show x<10^1 by omega)
   have l4:(Str.ofString "^").length=1:=by decide +kernel
   rw[if_pos (by omega)]
   have l5:(ofL (u++[ltr i])).length=u.length+1:=by rw[xy_,AQ];rfl
   refine⟨_,rfl,_,_,rfl,rfl,by omega,_,rfl,_,rfl,a,_,_,.int x,rfl,rfl,SqT.of (s1 _ _ ha),gi,x,rfl,acs_ (by omega),_,_,rfl,rfl,by rw[zr_];omega,⟨some (.int i),?_⟩,s1⟩
   rw[show ofL (u++pwT (ltr i) x)=ofL (u++[ltr i])++Str.ofString "^" ++ Str.ofString (toString x) from zR_ (by
    rw[zT_,zT_,z4_,z4_,aa1_,show x=((x.toNat:Nat):Int) by omega,ah4_]
    unfold pwT
    rw[if_neg (by omega),if_neg (by omega),An]
    simp)]
   rfl
  ·refine qw_ c ⟨⟨some (.int i),?_⟩,s1⟩
   have e:pwT (ltr i) x=if 0<x then [ltr i] else []:=by
    unfold pwT
    by_cases e0:x=0
    ·rw[if_pos e0,if_neg (by omega)]
    ·rw[if_neg e0,if_pos (by omega),if_pos (by omega)]
   rw[e]
 ·rintro σ H1 ⟨⟨c2,rfl⟩,s1⟩
  rw[ae6_]
  exact⟨_,rfl,q _ s1⟩
theorem akb_{p:List Int}{c:Int}(h8:∀x∈p,0<=x/\x<=8):wtF p c=(if dig (ab c)=Str.ofString "1" /\ 0<p.sum then Str.ofString "" else dig (ab c))++ofL (zF_ 0 p):=by
 have u0:=v0_ p 0 λx hx=>(h8 x hx).1
 have s0:0<=p.sum:=by
  have:∀l:List Int,(∀x∈l,0<=x/\x<=8)->0<=l.sum:=λl=>by
   induction l with
   |nil=>intro _;exact Int.le_refl _
   |cons y l ih=>intro hl;rw[BD];have:=hl y (AH ..);have:=ih λz hz=>hl z (AD _ hz);omega
  exact this p h8
 have ee:ofL (zF_ 0 p)=Str.ofString "" ↔ p.sum=0:=by
  rw[ajm_,z4_,u0]
 unfold wtF caF
 by_cases c1:dig (ab c)=Str.ofString "1" /\ 0<p.sum
 ·rw[if_pos c1,if_pos ⟨c1.1,λz=>by have:=ee.mp z;omega⟩]
  exact zR_ (by rw[zT_,tx_e];rfl)
 ·rw[if_neg c1,if_neg λz=>c1 ⟨z.1,by
   have h0:p.sum≠0:=λy=>z.2 (ee.mpr y)
   omega⟩]
abbrev nLs:List Str:=["_law_some", "_law_shares", "_law_powers_here", "_law_number", "_law_count"]
theorem scLs:FnScope nLs ["_law_some"] (qm_ sLsh):=⟨rfl,rfl,rfl,by decide +kernel,rfl,by decide +kernel,by decide +kernel⟩
def afj_:Sp:=λvs H Q _=>∃(a:Addr)(n:Nat)(ts:List Mon),vs=[.ref a]/\LstAt H a ts/\n<=4/\Wr n ts/\∀H',Same H H'->Q (.str (ljF (ts.map λt=>(decide (t.2<0),wtF t.1 t.2)))) H'
theorem ai3_(F:Fun K "_law_shown" "_law_shown" sLsh f fd)(GU:Has P w K mg base 3 "_law_unknowns" ["_law_powers_here"] afz_)(GJ:Has P w K mg base 3 "_law_joined" ["_law_shares"] spJo)(mS:mg "str" = none)(ma:mg "abs" = none)(ms:mg "sum" = none):FnOk P w K mg base CX0 4 f fd ["_law_some"] afj_:=by
 refine F.ok scLs (λvs H Q E h=>?_) (λcdv A outer s H vs Q E hr h=>?_)
 ·obtain⟨a,n,ts,rfl,_⟩:=h
  rfl
 obtain⟨a,n,ts,rfl,hL,n4,⟨h20,hW⟩,q⟩:=h
 have sz:sizeLine=16777216:=rfl
 obtain⟨us,eL,iL⟩:=id hL
 have lv:=Ai iL
 refine⟨_,qc_ (qj_ (i:=1) scLs.nd rfl (Or.inl rfl) (qD_ qb_))
  (qc_ (zf_ BA rfl (zG_ (pv 0)) (jk_ rfl (qR_ (qz_ (i:=2) scLs.nd rfl (Or.inl rfl)) (qR_ (qz_ (i:=3) scLs.nd rfl (Or.inl rfl)) zV_)))
   (qc_ (qj_ (i:=4) scLs.nd rfl (Or.inl rfl) (qO_ xw_ rfl mS Dv (qa_ (qo_ aep_ rfl ma PyProof.Rows.boot_abs (qa_ (pv 3) qb_)) qb_)))
   (qc_ (jH_ (qt_ (PW.pt (xl_ (qk_ qH_ (pv 4) qh_ (qn_ _)) (jI_ (qk_ jD_ (qo_ (ac0_ rfl) rfl ms Ca (qa_ (pv 2) qb_)) qe_ (qn_ _))))) (qg_ (qj_ (i:=4) scLs.nd rfl (Or.inl rfl) qh_)) qq_))
   (qg_ (jg_ (zu_ Bo Bm Bn zk_ (pv 1) (qa_ (zw_ (qa_ (xE_ yU_ (pv 3) qe_ (qn_ _)) (qa_ (qi_ qY_ (pv 4) (qV_ GU hr rfl (qa_ (pv 2) qb_))) qb_))) qb_)))))))
  (qg_ (qp_ (qV_ GJ hr rfl (qa_ (pv 1) qb_))))),?_⟩
 refine⟨(by show 0<=sizeLine;decide),λl0 h0=>?_⟩
 have s0:=qf_ h0 (.lst [])
 have na:a≠l0:=λz=>by rw[z,h0]at eL;cases eL
 refine⟨_,rfl,a,rfl,⟨_,SqL.of (s0 _ _ eL)⟩,?_⟩
 refine zZ_ (xs:=us) (λi σ H'=>(∃c2 c3 c4,σ=[some (.ref a),some (.ref l0),c2,c3,c4])/\Same H H'/\LstAt H' l0 ((ts.take i).map λt=>(decide (t.2<0),wtF t.1 t.2))) ?_ ?_ ?_ ?_
 ·exact⟨⟨_,_,_,rfl⟩,s0,[],qd_,.nil⟩
 ·rintro i σ H1 _ ⟨_,s1,_⟩
  exact SqL.of (s1 _ _ eL)
 ·rintro i v σ H1 hv ⟨⟨c2,c3,c4,rfl⟩,s1,ws,eW,iW⟩
  obtain⟨t,ht,hi⟩:=jm_ iL hv
  obtain⟨p,k,rfl,hp,hk⟩:=xp_ hi
  obtain⟨w1,w2,w3,w4⟩:=hW t (Aq ht)
  have lw:=Ai iW
  rw[AF,As]at lw
  refine⟨p,_,rfl,SqT.of (s1 _ _ hp),rfl,_,_,rfl,_,_,rfl,rfl,?_⟩
  have ab0:=afn_ t.2
  have ab1:=afv_ w4
  have dl:(dig (ab t.2)).length<=60:=aaf_ ab0 (by exact_mod_cast ab1)
  refine⟨_,rfl,t.2,rfl,?_⟩
  show ∃i,[V.int (ab t.2)]=[V.int i]/\i.natAbs.log2<1920/\_
  refine⟨ab t.2,rfl,acs_ (by omega),?_⟩
  show qU_ 4 (.str (dig (ab t.2))) _ _ _
  refine⟨λσ H'=>H1=H'/\σ=[some (.ref a),some (.ref l0),some (.ref k),some (.int t.2),some (.str (if dig (ab t.2)=Str.ofString "1" /\ 0<t.1.sum then Str.ofString "" else dig (ab t.2)))],?_,?_⟩
  ·refine⟨_,rfl,rfl,_,rfl,?_⟩
   by_cases e1:dig (ab t.2)=Str.ofString "1"
   ·refine qB_ (by rw[e1]) ?_
    refine⟨_,rfl,k,t.1,rfl,SqT.of (s1 _ _ hk),_,_,rfl,rfl,_,rfl,?_⟩
    by_cases e2:0<t.1.sum
    ·refine qB_ e2 ⟨rfl,?_⟩
     rw[if_pos ⟨e1,e2⟩]
     rfl
    ·refine qw_ e2 ⟨rfl,?_⟩
     rw[if_neg λz=>e2 z.2]
     rfl
   ·refine qw_ (λz=>e1 (by injection z)) ⟨rfl,?_⟩
    rw[if_neg λz=>e1 z.1]
    rfl
  rintro σ _ ⟨rfl,rfl⟩
  have lz:(if dig (ab t.2)=Str.ofString "1" /\ 0<t.1.sum then Str.ofString "" else dig (ab t.2)).length<=60:=by
   split
   ·rw[xZ_];omega
   ·exact dl
  have ul:=yk_ t.1 0 w2
  have we:=akb_ (p:=t.1) (c:=t.2) w2
  generalize (if dig (ab t.2)=Str.ofString "1" /\ 0<t.1.sum then Str.ofString "" else dig (ab t.2))=zz at *
  refine⟨_,rfl,.inl ⟨rfl,_,SqL.of eW⟩,_,rfl,_,_,rfl,rfl,_,rfl,_,rfl,k,t.1,rfl,s1 _ _ hk,by omega,w2,λH2 s2=>?_⟩
  refine⟨_,_,rfl,rfl,by rw[xy_];omega,(by show 2<=sizeLine;decide),λp3 g3=>?_⟩
  have v3:=qf_ g3 (.tup [.bl (decide (t.2<0)),.str (zz++ofL (zF_ 0 t.1))])
  have eW3:=v3 _ _ (s2 _ _ eW)
  refine⟨l0,_,_,rfl,rfl,eW3,by omega,⟨_,_,_,rfl⟩,jh_ h0 (s1.trans (s2.trans v3)) _,_,qd_,?_⟩
  rw[jj_ ht,Av]
  have t4:=yw_ eW3 (.lst (ws++[.ref p3]))
  refine CP (Its.mono ((Tups.same (s2.trans v3)).trans t4) iW) ?_
  show Dat.is _ (.ref p3) (decide (t.2<0),wtF t.1 t.2)
  rw[we]
  exact⟨p3,_,_,rfl,t4 _ _ qd_,rfl,rfl⟩
 ·rintro σ H1 ⟨⟨c2,c3,c4,rfl⟩,s1,hL1⟩
  rw[AW (by omega)]at hL1
  refine⟨_,rfl,l0,_,rfl,hL1,by rw[AF];exact h20,λx hx=>?_,λH2 s2=>q _ (s1.trans s2)⟩
  obtain⟨t,ht,rfl⟩:=Az.mp hx
  obtain⟨w1,w2,w3,w4⟩:=hW t ht
  exact AZ (adb_ (by omega) w2 w4) (by decide)
abbrev nF:List Str:=["_law_caught", "_law_flags_here"]
theorem scF:FnScope nF ["_law_caught"] (qm_ vc_):=⟨rfl,rfl,rfl,by decide +kernel,rfl,by decide +kernel,by decide +kernel⟩
def Says(K:PySem.W.Frag)(C:Addr)(ds:List Addr)(bs:List Bool):Prop:=ds.length=bs.length/\∀(i:Nat)(d:Addr)(b:Bool),ds[i]?=some d->bs[i]?=some b->PySem.W.kitOne K (.ref C) (.ref d)=some b
def v4_(K:PySem.W.Frag)(ds:List Addr):Sp:=λvs H Q _=>∃(od:Option Addr)(c C:Addr)(bs:List Bool),vs=[.ref c]/\H c=some (xE c (.ref C) od)/\ExcK K C/\Says K C ds bs/\∀(l:Addr)(H':Hp),H l=none->Same H H'->H' l=some (.lst (bs.map V.bl))->Q (.ref l) H'
theorem ae5_{d0 d1 d2 d3 d4 d5 d6 d7 d8 d9 d10 d11 d12:Addr}(F:Fun K "_law_flags" "_law_flags" vc_ f fd)(mi:mg "isinstance" = none)(m0:mg "BadCount" = some (.ref d0))(m1:mg "BadPowers" = some (.ref d1))(m2:mg "TooGreat" = some (.ref d2))(m3:mg "BadRow" = some (.ref d3))(m4:mg "UnlikeWeights" = some (.ref d4))(m5:mg "TooLong" = some (.ref d5))(m6:mg "Uneven" = some (.ref d6))(m7:mg "NoKind" = some (.ref d7))(m8:mg "NoText" = some (.ref d8))(m9:mg "NoLine" = some (.ref d9))(m10:mg "BadName" = some (.ref d10))(m11:mg "NoName" = some (.ref d11))(m12:mg "NotBy" = some (.ref d12)):FnOk P w K mg base CX0 2 f fd ["_law_caught"] (v4_ K [d0,d1,d2,d3,d4,d5,d6,d7,d8,d9,d10,d11,d12]):=by
 refine F.ok scF (λvs H Q E h=>?_) (λcdv A outer s H vs Q E hr h=>?_)
 ·obtain⟨od,c,C,bs,rfl,_⟩:=h
  rfl
 obtain⟨od,c,C,bs,rfl,hc,hk,⟨hl,hs⟩,q⟩:=h
 match bs,hl,hs,q with
 |[b0,b1,b2,b3,b4,b5,b6,b7,b8,b9,b10,b11,b12],_,hs,q =>
 have k0:=hs 0 _ _ rfl rfl
 have k1:=hs 1 _ _ rfl rfl
 have k2:=hs 2 _ _ rfl rfl
 have k3:=hs 3 _ _ rfl rfl
 have k4:=hs 4 _ _ rfl rfl
 have k5:=hs 5 _ _ rfl rfl
 have k6:=hs 6 _ _ rfl rfl
 have k7:=hs 7 _ _ rfl rfl
 have k8:=hs 8 _ _ rfl rfl
 have k9:=hs 9 _ _ rfl rfl
 have k10:=hs 10 _ _ rfl rfl
 have k11:=hs 11 _ _ rfl rfl
 have k12:=hs 12 _ _ rfl rfl
 refine⟨_,qc_ (qj_ (i:=1) scF.nd rfl (Or.inl rfl) (qD_ (qa_ (qo_ qE_ rfl mi AM (qa_ (pv 0) (qa_ (qL_ (v:=.ref d0) rfl m0 rfl) qb_))) (qa_ (qo_ qE_ rfl mi AM (qa_ (pv 0) (qa_ (qL_ (v:=.ref d1) rfl m1 rfl) qb_))) (qa_ (qo_ qE_ rfl mi AM (qa_ (pv 0) (qa_ (qL_ (v:=.ref d2) rfl m2 rfl) qb_))) qb_)))))
  (qc_ (qj_ (i:=1) scF.nd rfl (Or.inl rfl) (qi_ zi_ (pv 1) (qD_ (qa_ (qo_ qE_ rfl mi AM (qa_ (pv 0) (qa_ (qL_ (v:=.ref d3) rfl m3 rfl) qb_))) (qa_ (qo_ qE_ rfl mi AM (qa_ (pv 0) (qa_ (qL_ (v:=.ref d4) rfl m4 rfl) qb_))) qb_)))))
  (qc_ (qj_ (i:=1) scF.nd rfl (Or.inl rfl) (qi_ zi_ (pv 1) (qD_ (qa_ (qo_ qE_ rfl mi AM (qa_ (pv 0) (qa_ (qL_ (v:=.ref d5) rfl m5 rfl) qb_))) (qa_ (qo_ qE_ rfl mi AM (qa_ (pv 0) (qa_ (qL_ (v:=.ref d6) rfl m6 rfl) qb_))) (qa_ (qo_ qE_ rfl mi AM (qa_ (pv 0) (qa_ (qL_ (v:=.ref d7) rfl m7 rfl) qb_))) qb_))))))
  (qc_ (qj_ (i:=1) scF.nd rfl (Or.inl rfl) (qi_ zi_ (pv 1) (qD_ (qa_ (qo_ qE_ rfl mi AM (qa_ (pv 0) (qa_ (qL_ (v:=.ref d8) rfl m8 rfl) qb_))) (qa_ (qo_ qE_ rfl mi AM (qa_ (pv 0) (qa_ (qL_ (v:=.ref d9) rfl m9 rfl) qb_))) (qa_ (qo_ qE_ rfl mi AM (qa_ (pv 0) (qa_ (qL_ (v:=.ref d10) rfl m10 rfl) qb_))) qb_))))))
  (qg_ (qp_ (qi_ zi_ (pv 1) (qD_ (qa_ (qo_ qE_ rfl mi AM (qa_ (pv 0) (qa_ (qL_ (v:=.ref d11) rfl m11 rfl) qb_))) (qa_ (qo_ qE_ rfl mi AM (qa_ (pv 0) (qa_ (qL_ (v:=.ref d12) rfl m12 rfl) qb_))) qb_))))))))),?_⟩
 refine⟨_,rfl,od,c,C,_,_,_,rfl,hc,hk,rfl,λ_ z=>z,k0,_,rfl,od,c,C,_,_,_,rfl,hc,hk,rfl,λ_ z=>z,k1,_,rfl,od,c,C,_,_,_,rfl,hc,hk,rfl,λ_ z=>z,k2,(by show 3<=sizeLine;decide),λp0 h0=>?_⟩
 have s0:=qf_ h0 (.lst [.bl b0,.bl b1,.bl b2])
 have hc0:=s0 _ _ hc
 have e0:upd H p0 (.lst [.bl b0,.bl b1,.bl b2]) p0=some (.lst [.bl b0,.bl b1,.bl b2]):=qd_
 have z0:Same H (upd H p0 (.lst [.bl b0,.bl b1,.bl b2])):=s0
 generalize upd H p0 (.lst [.bl b0,.bl b1,.bl b2])=G0 at *
 refine⟨_,rfl,_,rfl,od,c,C,_,_,_,rfl,hc0,hk,rfl,λ_ z=>z,k3,_,rfl,od,c,C,_,_,_,rfl,hc0,hk,rfl,λ_ z=>z,k4,(by show 2<=sizeLine;decide),λr1 hr1=>?_⟩
 have u1:=qf_ hr1 (.lst [.bl b3,.bl b4])
 refine⟨p0,r1,_,_,rfl,rfl,u1 _ _ e0,qd_,small (by show 5<=100000;decide),λp1 hp1=>?_⟩
 have v1:=u1.trans (qf_ hp1 (.lst [.bl b0,.bl b1,.bl b2,.bl b3,.bl b4]))
 have hc1:=v1 _ _ hc0
 have z1:Same H (upd (upd G0 r1 (.lst [.bl b3,.bl b4])) p1 (.lst [.bl b0,.bl b1,.bl b2,.bl b3,.bl b4])):=z0.trans v1
 have e1:upd (upd G0 r1 (.lst [.bl b3,.bl b4])) p1 (.lst [.bl b0,.bl b1,.bl b2,.bl b3,.bl b4]) p1=some (.lst [.bl b0,.bl b1,.bl b2,.bl b3,.bl b4]):=qd_
 generalize hG1:upd (upd G0 r1 (.lst [.bl b3,.bl b4])) p1 (.lst [.bl b0,.bl b1,.bl b2,.bl b3,.bl b4])=G1 at *
 show qU_ 1 (.ref p1) _ (upd (upd G0 r1 (.lst [.bl b3,.bl b4])) p1 (.lst [.bl b0,.bl b1,.bl b2,.bl b3,.bl b4])) _
 rw[hG1]
 refine⟨_,rfl,_,rfl,od,c,C,_,_,_,rfl,hc1,hk,rfl,λ_ z=>z,k5,_,rfl,od,c,C,_,_,_,rfl,hc1,hk,rfl,λ_ z=>z,k6,_,rfl,od,c,C,_,_,_,rfl,hc1,hk,rfl,λ_ z=>z,k7,(by show 3<=sizeLine;decide),λr2 hr2=>?_⟩
 have u2:=qf_ hr2 (.lst [.bl b5,.bl b6,.bl b7])
 refine⟨p1,r2,_,_,rfl,rfl,u2 _ _ e1,qd_,small (by show 8<=100000;decide),λp2 hp2=>?_⟩
 have v2:=u2.trans (qf_ hp2 (.lst [.bl b0,.bl b1,.bl b2,.bl b3,.bl b4,.bl b5,.bl b6,.bl b7]))
 have hc2:=v2 _ _ hc1
 have z2:Same H (upd (upd G1 r2 (.lst [.bl b5,.bl b6,.bl b7])) p2 (.lst [.bl b0,.bl b1,.bl b2,.bl b3,.bl b4,.bl b5,.bl b6,.bl b7])):=z1.trans v2
 have e2:upd (upd G1 r2 (.lst [.bl b5,.bl b6,.bl b7])) p2 (.lst [.bl b0,.bl b1,.bl b2,.bl b3,.bl b4,.bl b5,.bl b6,.bl b7]) p2=some (.lst [.bl b0,.bl b1,.bl b2,.bl b3,.bl b4,.bl b5,.bl b6,.bl b7]):=qd_
 generalize hG2:upd (upd G1 r2 (.lst [.bl b5,.bl b6,.bl b7])) p2 (.lst [.bl b0,.bl b1,.bl b2,.bl b3,.bl b4,.bl b5,.bl b6,.bl b7])=G2 at *
 show qU_ 1 (.ref p2) _ (upd (upd G1 r2 (.lst [.bl b5,.bl b6,.bl b7])) p2 (.lst [.bl b0,.bl b1,.bl b2,.bl b3,.bl b4,.bl b5,.bl b6,.bl b7])) _
 rw[hG2]
 refine⟨_,rfl,_,rfl,od,c,C,_,_,_,rfl,hc2,hk,rfl,λ_ z=>z,k8,_,rfl,od,c,C,_,_,_,rfl,hc2,hk,rfl,λ_ z=>z,k9,_,rfl,od,c,C,_,_,_,rfl,hc2,hk,rfl,λ_ z=>z,k10,(by show 3<=sizeLine;decide),λr3 hr3=>?_⟩
 have u3:=qf_ hr3 (.lst [.bl b8,.bl b9,.bl b10])
 refine⟨p2,r3,_,_,rfl,rfl,u3 _ _ e2,qd_,small (by show 11<=100000;decide),λp3 hp3=>?_⟩
 have v3:=u3.trans (qf_ hp3 (.lst [.bl b0,.bl b1,.bl b2,.bl b3,.bl b4,.bl b5,.bl b6,.bl b7,.bl b8,.bl b9,.bl b10]))
 have hc3:=v3 _ _ hc2
 have z3:Same H (upd (upd G2 r3 (.lst [.bl b8,.bl b9,.bl b10])) p3 (.lst [.bl b0,.bl b1,.bl b2,.bl b3,.bl b4,.bl b5,.bl b6,.bl b7,.bl b8,.bl b9,.bl b10])):=z2.trans v3
 have e3:upd (upd G2 r3 (.lst [.bl b8,.bl b9,.bl b10])) p3 (.lst [.bl b0,.bl b1,.bl b2,.bl b3,.bl b4,.bl b5,.bl b6,.bl b7,.bl b8,.bl b9,.bl b10]) p3=some (.lst [.bl b0,.bl b1,.bl b2,.bl b3,.bl b4,.bl b5,.bl b6,.bl b7,.bl b8,.bl b9,.bl b10]):=qd_
 generalize hG3:upd (upd G2 r3 (.lst [.bl b8,.bl b9,.bl b10])) p3 (.lst [.bl b0,.bl b1,.bl b2,.bl b3,.bl b4,.bl b5,.bl b6,.bl b7,.bl b8,.bl b9,.bl b10])=G3 at *
 show qU_ 1 (.ref p3) _ (upd (upd G2 r3 (.lst [.bl b8,.bl b9,.bl b10])) p3 (.lst [.bl b0,.bl b1,.bl b2,.bl b3,.bl b4,.bl b5,.bl b6,.bl b7,.bl b8,.bl b9,.bl b10])) _
 rw[hG3]
 refine⟨_,rfl,_,rfl,od,c,C,_,_,_,rfl,hc3,hk,rfl,λ_ z=>z,k11,_,rfl,od,c,C,_,_,_,rfl,hc3,hk,rfl,λ_ z=>z,k12,(by show 2<=sizeLine;decide),λr4 hr4=>?_⟩
 have u4:=qf_ hr4 (.lst [.bl b11,.bl b12])
 refine⟨p3,r4,_,_,rfl,rfl,u4 _ _ e3,qd_,small (by show 13<=100000;decide),λp4 hp4=>?_⟩
 have v4:=u4.trans (qf_ hp4 (.lst [.bl b0,.bl b1,.bl b2,.bl b3,.bl b4,.bl b5,.bl b6,.bl b7,.bl b8,.bl b9,.bl b10,.bl b11,.bl b12]))
 exact q p4 _ (z3.free (u4.free hp4)) (z3.trans v4) qd_
abbrev nY1:List Str:=["_law_caught", "_law_name", "_law_names"]
abbrev bY1:List Str:=["_law_other", "_law_name"]
theorem ndY1:bY1.Nodup:=by decide +kernel
theorem scY1:FnScope nY1 ["_law_caught", "_law_name"] (qm_ y0_):=⟨rfl,rfl,rfl,by decide +kernel,rfl,by decide +kernel,by decide +kernel⟩
def exNames:List Str:=["BadCount", "BadPowers", "TooGreat", "BadRow", "UnlikeWeights", "TooLong", "Uneven", "NoKind", "NoText", "NoLine", "BadName", "NoName", "NotBy"]
def zK_(x:Str):List Bool:=exNames.map λy=>decide (V.str y=V.str x)
def acj_(K:PySem.W.Frag)(ds:List Addr):Sp:=λvs H Q _=>∃(od:Option Addr)(c C:Addr)(x:Str),vs=[.ref c,.str x]/\H c=some (xE c (.ref C) od)/\ExcK K C/\PySem.W.kitOne K (.ref C) (.type "ValueError")=some true/\Says K C ds (zK_ x)/\∀H',Same H H'->Q (.bl true) H'
theorem af3_{ds:List Addr}(F:Fun K "_law_only" "_law_only" y0_ f fd)(G:Has P w K mg base 2 "_law_flags" ["_law_caught"] (v4_ K ds))(mi:mg "isinstance" = none)(mv:mg "ValueError" = none):FnOk P w K mg base CX0 3 f fd ["_law_caught", "_law_name"] (acj_ K ds):=by
 refine F.ok scY1 (λvs H Q E h=>?_) (λcdv A outer s H vs Q E hr h=>?_)
 ·obtain⟨od,c,C,x,rfl,_⟩:=h
  rfl
 obtain⟨od,c,C,x,rfl,hc,hk,hv,hs,q⟩:=h
 have hB:=Bf (CC (by decide:Dat.dep Bool+1<=64) _) hr.units
 refine⟨_,qc_ (qj_ (i:=2) scY1.nd rfl (Or.inl rfl) (qD_ (qa_ qh_ (qa_ qh_ (qa_ qh_ (qa_ qh_ (qa_ qh_ (qa_ qh_ (qa_ qh_ (qa_ qh_ qb_))))))))))
  (qc_ (qj_ (i:=2) scY1.nd rfl (Or.inl rfl) (qi_ zi_ (pv 2) (qD_ (qa_ qh_ (qa_ qh_ (qa_ qh_ (qa_ qh_ (qa_ qh_ qb_))))))))
  (qg_ (qp_ (abp_ (qo_ qE_ rfl mi AM (qa_ (pv 0) (qa_ (ji_ (v:=.ty "ValueError") rfl mv PyProof.Rows.Boot.«ValueError» rfl) qb_)))
   (acf_ (xE_ (aho_ (α:=Bool) hB) (qV_ G hr rfl (qa_ (pv 0) qb_)) (xA_ (N':=bY1) (src:=[none,some 1]) rfl (zG_ (pv 2)) (yb_ (qm_ y0_) nY1 (by decide +kernel))
    (λb=>qz_ (i:=0) ndY1 rfl (Or.inl rfl)) (λb=>ys_) (λb=>xE_ qH_ (pv 0) (pv 1) (qn_ _))) (qn_ _))))))),?_⟩
 refine⟨(by show 8<=sizeLine;decide),λp0 h0=>?_⟩
 have s0:=qf_ h0 (.lst [.str "BadCount",.str "BadPowers",.str "TooGreat",.str "BadRow",.str "UnlikeWeights",.str "TooLong",.str "Uneven",.str "NoKind"])
 refine⟨_,rfl,(by show 5<=sizeLine;decide),λp1 h1=>?_⟩
 have s1:=qf_ h1 (.lst [.str "NoText",.str "NoLine",.str "BadName",.str "NoName",.str "NotBy"])
 refine⟨p0,p1,_,_,rfl,rfl,s1 _ _ qd_,qd_,small (by decide),λp2 h2=>?_⟩
 have s2:=qf_ h2 (.lst (exNames.map V.str))
 have e2:upd (upd (upd H p0 (.lst [.str "BadCount",.str "BadPowers",.str "TooGreat",.str "BadRow",.str "UnlikeWeights",.str "TooLong",.str "Uneven",.str "NoKind"])) p1 (.lst [.str "NoText",.str "NoLine",.str "BadName",.str "NoName",.str "NotBy"])) p2 (.lst (exNames.map V.str)) p2=some (.lst (exNames.map V.str)):=qd_
 have z:=s0.trans (s1.trans s2)
 have hc2:=z _ _ hc
 show qU_ 2 (.ref p2) _ (upd (upd (upd H p0 (.lst [.str "BadCount",.str "BadPowers",.str "TooGreat",.str "BadRow",.str "UnlikeWeights",.str "TooLong",.str "Uneven",.str "NoKind"])) p1 (.lst [.str "NoText",.str "NoLine",.str "BadName",.str "NoName",.str "NotBy"])) p2 (.lst (exNames.map V.str))) _
 generalize upd (upd (upd H p0 (.lst [.str "BadCount",.str "BadPowers",.str "TooGreat",.str "BadRow",.str "UnlikeWeights",.str "TooLong",.str "Uneven",.str "NoKind"])) p1 (.lst [.str "NoText",.str "NoLine",.str "BadName",.str "NoName",.str "NotBy"])) p2 (.lst (exNames.map V.str))=G0 at *
 refine⟨_,rfl,od,c,C,.ty "ValueError",.type "ValueError",_,rfl,hc2,hk,rfl,λ_ z=>z,hv,_,rfl,ja_ ?_⟩
 refine⟨_,rfl,od,c,C,zK_ x,rfl,hc2,hk,hs,λl G1 hl t1 e1=>?_⟩
 have e3:=t1 _ _ e2
 refine⟨_,rfl,p2,rfl,⟨_,SqL.of e3⟩,λbk D hD=>?_⟩
 refine yD_ (α:=Bool) hD (SqL.of e3) (λσ=>∃c0,σ=[c0,some (.str x)]) (λi=>(exNames[i]?).bind λy=>some (decide (V.str y=V.str x))) (small (by decide)) ?_ ?_ ?_
 ·exact⟨_,rfl⟩
 ·rintro i v σ H2 Yes No hv ⟨c0,rfl⟩ s3 yes no
  obtain⟨y,hy,rfl⟩:∃y,exNames[i]?=some y/\V.str y=v:=by
   rw[Ac]at hv
   cases e:exNames[i]? with
   |none=>rw[e]at hv;cases hv
   |some y=>rw[e]at hv;exact⟨y,rfl,AX hv⟩
  refine v6_ ?_
  refine⟨_,rfl,_,rfl,rfl,?_⟩
  exact yes _ _ _ _ ⟨_,rfl⟩ (λ_ _ e=>e) (by rw[hy];rfl) rfl
 rintro H2 s3 hL
 have e:(List.range (exNames.map V.str).length).filterMap (λi=>(exNames[i]?).bind λy=>some (decide (V.str y=V.str x)))=zK_ x:=by
  rw[AF,z7_,Dk]
  rfl
 rw[e]at hL
 refine⟨l,D,zK_ x,zK_ x,rfl,rfl,⟨_,s3 _ _ e1,?_⟩,hL,?_⟩
 ·induction zK_ x with
  |nil=>exact .nil
  |cons b r ih=>exact .cons rfl ih
 ·rw[abv_]
  exact q _ (z.trans (t1.trans s3))
structure Told(K:PySem.W.Frag)(ds:List Addr)(C0 C:Addr)(x:Str):Prop where
 k:ExcK K C
 v:PySem.W.kitOne K (.ref C) (.type "ValueError")=some true
 s:Says K C ds (zK_ x)
 w:PySem.W.kitOne K (.ref C) (.ref C0)=some true
 n:C≠C0
structure Tm(n:Nat)(ts:List Mon):Prop where
 each:∀t∈ts,t.1.length=n/\(∀x∈t.1,0<=x/\x<=8)/\t.1.sum<=8/\t.2.natAbs<2^193
theorem Tm.norm{n:Nat}{ts:List Mon}(h:Tm n ts)(hl:ts.length<=16):Wr n (norm ts)/\∀t∈norm ts,(t.1.length=n/\(∀x∈t.1,0<=x/\x<=8)/\t.1.sum<=8/\t.2.natAbs<10^60)/\t.2≠0:=by
 have key:∀t∈Pl.norm ts,(t.1.length=n/\(∀x∈t.1,0<=x/\x<=8)/\t.1.sum<=8/\t.2.natAbs<10^60)/\t.2≠0:=λt ht=>by
  obtain⟨u,hu,e⟩:=zh_ ht
  obtain⟨a,b,c,_⟩:=h.each u hu
  rw[e]at a b c
  refine⟨⟨a,b,c,?_⟩,(qZ_ ts).num t ht⟩
  have e2:=y3_ (qZ_ ts) ht
  rw[zs_]at e2
  have bd:=j0_ (b:=193) t.1 (ts:=ts) λu hu=>(h.each u hu).2.2.2
  rw[e2]at bd
  have:=Nat.mul_le_mul_right (2^193) hl
  have:16*2^193<10^60:=by decide
  omega
 exact⟨⟨AZ (jY_ ts) (by omega),λt ht=>(key t ht).1⟩,key⟩
theorem ah9_(a b d:Int)(k:Int):∃v,atI [V.int a,V.int b,V.int d] (k%3)=some (.int v)/\(v=a∨v=b∨v=d):=by
 have h0:=BO k (show(3:Int)≠0 by decide)
 have h1:=A0 k (show(0:Int)<3 by decide)
 have:k%3=0∨k%3=1∨k%3=2:=by omega
 rcases this with e|e|e
 ·exact⟨a,by rw[e];rfl,.inl rfl⟩
 ·exact⟨b,by rw[e];rfl,.inr (.inl rfl)⟩
 ·exact⟨d,by rw[e];rfl,.inr (.inr rfl)⟩
theorem aka_(l:List Nat):∃ws,Tk l ws:=by
 obtain⟨h1,h2,h3⟩:=xR_ (x:=ofL l) abj_
 rw[z4_]at h1
 exact⟨_,h2,h3,h1⟩
theorem vX_{n:Nat}:∀{ws:List (List Nat)}{ts:List Mon},rdL n ws=some ts->∀t∈ts,t.1.length=n
 |[],ts,h=>by cases h;intro t ht;cases ht
 |[_],ts,h=>by cases h
 |s::w::r,ts,h=>by
  obtain⟨t,us,e1,e2,rfl⟩:=xV_ h
  intro u hu
  rcases AI.mp hu with rfl|hu
  ·unfold rtO at e1
   split at e1
   ·cases e1
   ·exact v2_ e1
  ·exact vX_ e2 u hu
theorem ag2_{n:Nat}{l:List Nat}{ws:List (List Nat)}{ts:List Mon}(h:rdO n l ws=some ts):∀t∈ts,t.1.length=n:=by
 unfold rdO at h
 split at h
 ·cases h;intro t ht;cases ht
 ·exact vX_ h
abbrev nL:List Str:=["_law_script", "_law_many", "_law_terms", "_law_cell_here", "_law_powers_here", "_law_line", "_law_bent_here", "_law_due", "_law_found", "_law_caught", "e"]
theorem scL:FnScope nL ["_law_script"] (qm_ sLaw):=⟨rfl,rfl,rfl,by decide +kernel,rfl,by decide +kernel,by decide +kernel⟩
def yQ_(K:PySem.W.Frag):Sp:=λvs H Q _=>∃(a:Addr)(ns:List Int),vs=[.ref a]/\SqL K H a (ns.map V.int)/\ns.length<=63/\∀H',Q (.bl true) H'
theorem air_{c1 C0:Addr}{ds:List Addr}(F:Fun K "law" "law" sLaw f fd)(GC:Has P w K mg base 7 "_law_cell" nC (ach_ K))(GP:Has P w K mg base 7 "_law_powers" pP af1_)(GS:Has P w K mg base 7 "_law_sum" ["_law_terms"] aaz_)(GL:Has P w K mg base 7 "_law_shown" ["_law_some"] afj_)(GB:Has P w K mg base 7 "_law_bent" abc_ adf_)(GR:Has P w K mg base 7 "_law_read" pLr spLr)(GX:HasX P w K mg base 7 "read" abg_ (v5_ c1))(GO:Has P w K mg base 7 "_law_only" ["_law_caught", "_law_name"] (acj_ K ds))(GM:Has P w K mg base 7 "_law_same" ["_law_found", "_law_due"] abz_)
  (t:Told K ds C0 c1 "NoText") (mE:mg "EvenError" = some (.ref C0)) (kE:PySem.W.kitOne K (.ref C0) (.type "BaseException")=some true):FnOk P w K mg base CX0 8 f fd ["_law_script"] (yQ_ K):=by
 refine F.ok scL (λvs H Q E h=>?_) (λcdv A outer s H vs Q E hr h=>?_)
 ·obtain⟨a,ns,rfl,_⟩:=h
  rfl
 obtain⟨a0,ns,rfl,hS,h63,q⟩:=h
 have sz:sizeLine=16777216:=rfl
 refine⟨_,(qc_ (qj_ (i:=1) scL.nd rfl (Or.inl rfl) (qi_ qM_ qe_ (qi_ q1_ (qV_ GC hr rfl (qa_ (pv 0) (qa_ qe_ qb_))) qe_)))
  (qc_ (qj_ (i:=2) scL.nd rfl (Or.inl rfl) (qD_ qb_))
  (qc_ (zf_ BA rfl (zG_ (qs_ jL_ (pv 0) (qr_ qe_) (qr_ qe_))) (qz_ (i:=3) scL.nd rfl (Or.inl rfl)) (qc_ (qj_ (i:=4) scL.nd rfl (Or.inl rfl) (qV_ GP hr rfl (qa_ (pv 3) (qa_ qe_ (qa_ (pv 1) (qa_ (qF_ qP_ (qD_ (qa_ qe_ (qa_ qe_ qb_))) (qi_ q1_ (qi_ zX_ (pv 3) qe_) qe_) (λ_ _=>rfl)) qb_))))))
  (qg_ (jg_ (zu_ Bo Bm Bn zk_ (pv 2) (qa_ (zw_ (qa_ (pv 4) (qa_ (qF_ qP_ (qD_ (qa_ (qi_ x8_ qe_ qe_) (qa_ qe_ (qa_ (qi_ qM_ qe_ (qi_ q1_ (qi_ zX_ (pv 3) qe_) (qi_ ahw_ qe_ qe_))) qb_)))) (qi_ q1_ (pv 3) qe_) (λ_ _=>rfl)) qb_))) qb_))))))
  (qc_ (qj_ (i:=5) scL.nd rfl (Or.inl rfl) (qV_ GL hr rfl (qa_ (qV_ GS hr rfl (qa_ (pv 2) qb_)) qb_)))
  (qc_ (zf_ BA rfl (zG_ (qi_ zi_ (qs_ jL_ (pv 0) (qr_ qe_) (qr_ qe_)) (qD_ (qa_ qe_ (qa_ qe_ qb_))))) (qz_ (i:=3) scL.nd rfl (Or.inl rfl)) (qc_ (qj_ (i:=6) scL.nd rfl (Or.inl rfl) (qV_ GB hr rfl (qa_ (pv 5) (qa_ (pv 3) qb_))))
  (qc_ (qj_ (i:=7) scL.nd rfl (Or.inl rfl) (qV_ GR hr rfl (qa_ (pv 1) (qa_ (pv 6) qb_))))
  (qc_ (qj_ (i:=8) scL.nd rfl (Or.inl rfl) zl_)
  (qc_ (qj_ (i:=9) scL.nd rfl (Or.inl rfl) zl_)
  (qc_ (ai7_ (i:=10) (j:=9) rfl rfl scL.nd rfl rfl rfl rfl rfl mE (aau_ kE) (λpn' T σ0 E' hx=>qg_ (qj_ (i:=8) scL.nd rfl (Or.inl rfl) (ae4_ GX.ok hr rfl GX.at_ GX.kp GX.bd hx (qa_ (pv 1) (qa_ (pv 6) qb_))))))
  (qc_ (qt_ (PW.pt (xl_ (qk_ abu_ (pv 7) zl_ (qn_ _)) (jI_ (jt_ (zm_ (qV_ GO hr rfl (qa_ (pv 9) (qa_ qh_ qb_)))))))) (qg_ (qp_ jz_)) qq_)
  (qg_ (qt_ (PW.pt (xl_ (qk_ aaa_ (pv 7) zl_ (qn_ _)) (jI_ (PW.pt (zB_ (qk_ aaa_ (pv 9) zl_ (qn_ _)) (zx_ (jt_ (zm_ (qV_ GM hr rfl (qa_ (pv 8) (qa_ (pv 7) qb_))))))))))) (qg_ (qp_ jz_)) qq_)))))))))
  (qg_ (qp_ jz_))))))),?_⟩
 obtain⟨n,hn,n1,n4⟩:∃n:Nat,1+j3_ ns 0%4=n/\1<=n/\n<=4:=by
  have h0:=BO (j3_ ns 0) (show(4:Int)≠0 by decide)
  have h1:=A0 (j3_ ns 0) (show(0:Int)<4 by decide)
  exact⟨(1+j3_ ns 0%4).toNat,by omega,by omega,by omega⟩
 refine⟨_,rfl,a0,ns,0,rfl,hS,_,_,rfl,rfl,(by show(0:Int)<4;decide),_,_,rfl,rfl,?_⟩
 show qU_ 1 (V.int (1+j3_ ns 0%4)) _ _ _
 rw[hn]
 refine⟨(by show 0<=sizeLine;decide),λlt ht=>?_⟩
 have z1:=qf_ ht (.lst [])
 have e1:upd H lt (.lst []) lt=some (.lst []):=qd_
 show qU_ 2 (.ref lt) _ (upd H lt (.lst [])) _
 generalize upd H lt (.lst [])=H1 at *
 refine⟨_,rfl,_,rfl,_,rfl,a0,_,rfl,z1.seq hS,λlc hlc=>?_⟩
 have sp:=qf_ hlc (.lst (qJ_ (ns.map V.int) (some 1) (some 9)))
 have allC:∀lo hi,∀x∈qJ_ (ns.map V.int) lo hi,∃c:Int,x=.int c:=by
  intro lo hi x hx
  have hx:=Bz (BV hx)
  obtain⟨c,_,rfl⟩:=Az.mp hx
  exact⟨c,rfl⟩
 have allI:=allC (some 1) (some 9)
 have l8:(qJ_ (ns.map V.int) (some 1) (some 9)).length<=8:=by
  unfold qJ_
  rw[As,Ap,show(some (9:Int))=some ((9:Nat):Int) from rfl,show(some (1:Int))=some ((1:Nat):Int) from rfl,HT.sIx_nat,HT.sIx_nat]
  omega
 have nlt:lc≠lt:=λz=>by rw[z,e1]at hlc;cases hlc
 have z2:=z1.trans sp
 have e1:=sp _ _ e1
 have hcl:upd H1 lc (.lst (qJ_ (ns.map V.int) (some 1) (some 9))) lc=some (.lst (qJ_ (ns.map V.int) (some 1) (some 9))):=qd_
 generalize qJ_ (ns.map V.int) (some 1) (some 9)=cells at *
 generalize upd H1 lc (.lst cells)=H2 at *
 refine⟨lc,rfl,⟨_,SqL.of hcl⟩,?_⟩
 refine zZ_ (xs:=cells) (λi σ H'=>(∃c3 c4,σ=[some (.ref a0),some (.int n),some (.ref lt),c3,c4,none,none,none,none,none,none])/\H' lc=some (.lst cells)/\Same H H'/\∃ts:List Mon,LstAt H' lt ts/\Tm n ts/\ts.length=i) ?_ ?_ ?_ ?_
 ·exact⟨⟨_,_,rfl⟩,hcl,z2,[],⟨[],e1,.nil⟩,⟨λt h=>by cases h⟩,rfl⟩
 ·rintro i σ H3 _ ⟨_,h3,_⟩
  exact SqL.of h3
 ·rintro i x σ H3 hx ⟨⟨c3,c4,rfl⟩,h3c,z3,ts,⟨vt,eT,iT⟩,tm,lts⟩
  obtain⟨c,rfl⟩:=allI x (Aq hx)
  have il:i<cells.length:=(AY.mp hx).1
  have lvt:=Ai iT
  obtain⟨wt,aw,w0,w8⟩:∃wt:Int,atI [V.int 8,V.int 2] (c / 3%2)=some (.int wt)/\0<=wt/\wt<=8:=by
   have h0:=BO (c / 3) (show(2:Int)≠0 by decide)
   have h1:=A0 (c / 3) (show(0:Int)<2 by decide)
   have:c / 3%2=0∨c / 3%2=1:=by omega
   rcases this with e|e
   ·exact⟨8,by rw[e];rfl,by decide,by decide⟩
   ·exact⟨2,by rw[e];rfl,by decide,by decide⟩
  refine⟨_,rfl,_,rfl,(by show 2<=sizeLine;decide),λq1 g1=>?_⟩
  have v1:=qf_ g1 (.lst [.int 8,.int 2])
  refine⟨_,rfl,_,_,rfl,rfl,⟨by decide,by decide⟩,_,_,rfl,rfl,(by show(0:Int)<2;decide),q1,_,_,.int wt,rfl,rfl,SqL.of qd_,aw,c,3,wt,n,rfl,n1,by omega,by decide,by decide,w0,by omega,λpw H4 s4 h4=>?_⟩
  obtain⟨p1,p2,p3⟩:=ag0_ (c:=c) (far:=3) w0 n1
  have p8:∀x∈jn_ c 3 wt n,0<=x/\x<=8:=λx hx=>by have:=p2 x hx;omega
  have ps8:(jn_ c 3 wt n).sum<=8:=by omega
  generalize jn_ c 3 wt n=p at *
  have a4:=v1.trans s4
  clear v1 s4 p2 p3
  have eT4:=a4 _ _ eT
  refine⟨_,rfl,.inl ⟨rfl,_,SqL.of eT4⟩,_,rfl,_,_,rfl,rfl,_,rfl,_,_,rfl,rfl,⟨by decide,by decide⟩,_,_,rfl,rfl,⟨by decide,by decide,by decide⟩,_,_,rfl,rfl,(by show(0:Int)<10^58;decide),_,_,rfl,rfl,(by show 3<=sizeLine;decide),λq2 g2=>?_⟩
  have v2:=qf_ g2 (.lst [.int (0-1),.int 1,.int (1+c / 6%10^(58:Int).toNat)])
  obtain⟨v,av,hv⟩:=ah9_ (0-1) 1 (1+c / 6%10^(58:Int).toNat) c
  have vb:v.natAbs<2^193:=by
   have h0:=BO (c / 6) (show(10:Int)^(58:Int).toNat≠0 by decide)
   have h1:=A0 (c / 6) (show(0:Int)<10^(58:Int).toNat by decide)
   have e58:(10:Int)^(58:Int).toNat=((10^58:Nat):Int):=by decide
   rw[e58]at h0 h1 hv
   have:(10:Nat)^58<2^193:=by decide
   rcases hv with rfl|rfl|rfl
   ·decide
   ·decide
   ·omega
  refine⟨_,rfl,_,_,rfl,rfl,(by show(0:Int)<3;decide),q2,_,_,.int v,rfl,rfl,SqL.of qd_,av,(by show 2<=sizeLine;decide),λp5 g5=>?_⟩
  have v4:=qf_ g5 (.tup [.ref pw,.int v])
  have a6:=a4.trans (v2.trans v4)
  have h5:upd (upd H4 q2 (.lst [.int (0-1),.int 1,.int (1+c / 6%10^(58:Int).toNat)])) p5 (.tup [.ref pw,.int v]) p5=some (.tup [.ref pw,.int v]):=qd_
  have h6:=(v2.trans v4) _ _ h4
  show ∃l xs y,_/\_/\upd (upd H4 q2 (.lst [.int (0-1),.int 1,.int (1+c / 6%10^(58:Int).toNat)])) p5 (.tup [.ref pw,.int v]) l=_/\_/\_
  generalize upd (upd H4 q2 (.lst [.int (0-1),.int 1,.int (1+c / 6%10^(58:Int).toNat)])) p5 (.tup [.ref pw,.int v])=H6 at *
  have eT6:=a6 _ _ eT
  refine⟨lt,vt,_,rfl,rfl,eT6,by omega,?_⟩
  have t7:=yw_ eT6 (.lst (vt++[.ref p5]))
  refine⟨⟨_,_,rfl⟩,by rw[ql_ nlt];exact a6 _ _ h3c,jh_ ht (z3.trans a6) _,ts++[(p,v)],⟨vt++[.ref p5],qd_,CP (Its.mono ((Tups.same a6).trans t7) iT) (Dat.mono t7 (jo_ (t:=(p,v)) h5 h6))⟩,⟨λt ht=>?_⟩,by rw[AQ,lts];rfl⟩
  rcases Aa.mp ht with ht|ht
  ·exact tm.each t ht
  ·rw[Ad.mp ht]
   exact⟨p1,p8,ps8,vb⟩
 rintro σ H3 ⟨⟨c3,c4,rfl⟩,_,z3,ts,hT,tm,lts⟩
 obtain⟨wr,key⟩:=tm.norm (by omega)
 have nl:=jY_ ts
 refine⟨_,rfl,lt,ts,rfl,hT,by omega,λld H4 f4 s4 h4=>?_⟩
 refine⟨ld,n,norm ts,rfl,h4,n4,wr,λH5 s5=>?_⟩
 have lL:(ljF ((norm ts).map λt=>(decide (t.2<0),wtF t.1 t.2))).length<=10000:=by
  have h:=y2_ ((norm ts).map λt=>(decide (t.2<0),wtF t.1 t.2)) (Str.ofString "") 0 (λx hx=>by
   obtain⟨t,ht,rfl⟩:=Az.mp hx
   obtain⟨⟨k1,k2,k3,k4⟩,_⟩:=key t ht
   exact AZ (adb_ (by omega) k2 k4) (by decide)) (by rw[xZ_];exact AB _)
  rw[AF]at h
  unfold ljF
  split
  ·have:(Str.ofString "0").length=1:=by decide +kernel
   omega
  ·omega
 show qU_ 5 (.str (ljF ((norm ts).map λt=>(decide (t.2<0),wtF t.1 t.2)))) _ _ _
 generalize ljF ((norm ts).map λt=>(decide (t.2<0),wtF t.1 t.2))=L at *
 have z5:=z3.trans (s4.trans s5)
 clear wr key nl hT tm lts h4 f4 s4 s5 z3 z2 e1 allI l8 hcl
 refine⟨_,rfl,_,rfl,_,rfl,a0,_,rfl,z5.seq hS,λq1 g1=>?_⟩
 have v1:=qf_ g1 (.lst (qJ_ (ns.map V.int) (some 1) (some 63)))
 refine⟨(by show 2<=sizeLine;decide),λq2 g2=>?_⟩
 have v2:=qf_ g2 (.lst [V.int 9,V.int 1])
 have cl:=zz_ (ns.map V.int) (some 1) (some 63)
 rw[AF]at cl
 refine⟨q1,q2,_,_,rfl,rfl,v2 _ _ qd_,qd_,by show _+2<=_;omega,λlb hlb=>?_⟩
 have v3:=qf_ hlb (.lst (qJ_ (ns.map V.int) (some 1) (some 63)++[V.int 9,V.int 1]))
 have allJ:∀x∈qJ_ (ns.map V.int) (some 1) (some 63)++[V.int 9,V.int 1],∃c:Int,x=.int c:=λx hx=>by
  rcases Aa.mp hx with hx|hx
  ·exact allC _ _ x hx
  ·simp only[AI,Aw,or_false]at hx
   rcases hx with rfl|rfl
   ·exact⟨9,rfl⟩
   ·exact⟨1,rfl⟩
 have z6:=z5.trans (v1.trans (v2.trans v3))
 have hb6:upd (upd (upd _ q1 (.lst (qJ_ (ns.map V.int) (some 1) (some 63)))) q2 (.lst [V.int 9,V.int 1])) lb (.lst (qJ_ (ns.map V.int) (some 1) (some 63)++[V.int 9,V.int 1])) lb=some (.lst (qJ_ (ns.map V.int) (some 1) (some 63)++[V.int 9,V.int 1])):=qd_ (H:=upd (upd H5 q1 (.lst (qJ_ (ns.map V.int) (some 1) (some 63)))) q2 (.lst [V.int 9,V.int 1]))
 generalize qJ_ (ns.map V.int) (some 1) (some 63)++[V.int 9,V.int 1]=cells2 at *
 generalize upd (upd (upd H5 q1 (.lst (qJ_ (ns.map V.int) (some 1) (some 63)))) q2 (.lst [V.int 9,V.int 1])) lb (.lst cells2)=H6 at *
 refine⟨lb,rfl,⟨_,SqL.of hb6⟩,?_⟩
 refine zZ_ (xs:=cells2) (λi σ H'=>(∃c3 c4 c6 c7 c8 c9,σ=[some (.ref a0),some (.int n),some (.ref lt),c3,c4,some (.str L),c6,c7,c8,c9,none])/\H' lb=some (.lst cells2)) ?_ ?_ ?_ ?_
 ·exact⟨⟨_,_,_,_,_,_,rfl⟩,hb6⟩
 ·rintro i σ H7 _ ⟨_,h7⟩
  exact SqL.of h7
 ·rintro i x σ H7 hx ⟨⟨c3,c4,c6,c7,c8,c9,rfl⟩,h7⟩
  obtain⟨c,rfl⟩:=allJ x (Aq hx)
  refine⟨_,rfl,_,rfl,L,c,rfl,lL,λbz H8 s8 lbz=>?_⟩
  obtain⟨ws,tk⟩:=aka_ (jF_ (tx bz))
  refine⟨_,rfl,_,rfl,n,bz,ws,rfl,n1,n4,lbz,tk,λrn H9 s9=>?_,λus rs tl lf H9 f9 s9 h9=>?_⟩
  ·have a9:=s8.trans s9
   refine⟨rfl,_,rfl,_,rfl,n,bz,ws,rfl,n1,n4,lbz,tk,λ_ H10 s10=>?_,λus rs=>by rw[rn]at rs;cases rs⟩
   refine⟨c1,rfl,abf_ t.w t.n,λcc hc=>?_⟩
   have a11:=a9.trans (s10.trans (qf_ hc (xE cc (.ref c1) none)))
   refine⟨_,rfl,rfl,_,rfl,?_⟩
   refine qB_ rfl ?_
   refine⟨_,rfl,_,cc,c1,_,rfl,qd_,t.k,t.v,t.s,λH12 s12=>⟨_,rfl,zj_ ?_⟩⟩
   refine⟨_,rfl,rfl,_,rfl,?_⟩
   refine yr_ (by rfl) ?_
   exact⟨⟨_,_,_,_,_,_,rfl⟩,s12 _ _ (a11 _ _ h7)⟩
  ·have a9:=s8.trans s9
   refine⟨rfl,_,rfl,_,rfl,n,bz,ws,rfl,n1,n4,lbz,tk,(λrn=>by rw[rn]at rs;cases rs),λus' rs' lq H10 f10 s10 h10=>?_⟩
   rw[rs]at rs'
   cases rs'
   refine⟨_,rfl,rfl,_,rfl,?_⟩
   refine qw_ (λz=>by cases z) ?_
   refine⟨_,rfl,rfl,_,rfl,?_⟩
   refine x0_ (by rw[decide_eq_false (λz=>by cases z)];rfl) ?_
   refine⟨_,rfl,rfl,_,rfl,?_⟩
   refine yr_ (by rfl) ?_
   have nu:=jY_ us
   refine⟨_,rfl,_,rfl,lq,lf,norm us,rfl,h10,h9.mono s10,by omega,λu hu=>?_,λH12 s12=>⟨_,rfl,zj_ ?_⟩⟩
   ·obtain⟨u',hu',e⟩:=zh_ hu
    have:=ag2_ rs u' hu'
    rw[e]at this
    omega
   exact⟨⟨_,_,_,_,_,_,rfl⟩,s12 _ _ (s10 _ _ (a9 _ _ h7))⟩
 ·rintro σ H7 _
  exact q H7
def FQ(K:PySem.W.Frag)(n:Str)(st:Stmt):Prop:=∃(f:Addr)(fd:FuncData),PySem.W.nsIn K mainGlobals n=some (some (.ref f))/\Fun K n n st f fd
theorem fq_mk{n:Str}{st:Stmt}{f:Addr}{oc:Value}{od an:Option Addr}{osl:Array (Option Value)}{kV doc pm cdv ct:Value}(a:PySem.W.nsIn K mainGlobals n=some (some (.ref f)))(l:K.lookup f=some ⟨oc,od,.func (PySem.W.fnOf n n (jV_ st) (zO_ st) (qm_ st) .none kV doc pm an cdv ct),osl⟩)
  (c:PySem.W.codeIn K cdv n=true) (k:PySem.W.keepIn K (.ref f)=true):FQ K n st:=⟨f,_,a,ahk_ l c k⟩
theorem FQ.x{n:Str}{st:Stmt}{h:Heap}(q:FQ K n st)(X:K.In h)(G:h.Ns mainGlobals mg):∃f fd,Fun K n n st f fd/\PySem.W.keepIn K (.ref f)=true/\mg n=some (.ref f):=by
 obtain⟨f,fd,a,F⟩:=q
 exact⟨f,fd,F,F.kp,Af X G a⟩
theorem af9_{K:PySem.W.Frag}{C:Addr}{ds:List Addr}{bs:List Bool}(h:Paired (λd b=>PySem.W.kitOne K (.ref C) (.ref d)=some b) ds bs):Says K C ds bs:=⟨Ai h,λi d b h1 h2=>by
 obtain⟨b',e,q⟩:=Paired.get h h1
 rw[h2]at e
 cases e
 exact q⟩
structure TQ(K:PySem.W.Frag)(ds:List Addr)(C C0:Addr)(fl:List Bool):Prop where
 a:PySem.W.mroIn K C (.type "object")=some true
 b:PySem.W.mroIn K C (.type "BaseException")=some true
 c:PySem.W.findIn K (.ref C) "__class__" = some (some (.builtin "object.__class__"))
 d:PySem.W.findIn K (.ref C) "__getattribute__" = some (some (.builtin "BaseException.__getattribute__"))
 e:PySem.W.findIn K (.ref C) "__getattr__" = some none
 v:PySem.W.kitOne K (.ref C) (.type "ValueError")=some true
 w:PySem.W.kitOne K (.ref C) (.ref C0)=some true
 n:C≠C0
 s:Paired (λd b=>PySem.W.kitOne K (.ref C) (.ref d)=some b) ds fl
theorem TQ.told{ds:List Addr}{C C0:Addr}{fl:List Bool}{x:Str}(t:TQ K ds C C0 fl)(e:zK_ x=fl)(i:(PySem.W.clsIn K C).isSome=true):Told K ds C0 C x:=⟨⟨t.a,t.b,t.c,t.d,t.e,i⟩,t.v,by rw[e];exact af9_ t.s,t.w,t.n⟩
def HasX.lift{j k:Nat}{x:Str}{ps:List Str}{sp:Sp}(h:HasX P w K mg base j x ps sp)(le:j<=k):HasX P w K mg base k x ps sp:=⟨h.f,h.fd,h.ok.mono le,h.bd,h.kp,h.at_⟩
end
end L2.K96
namespace L2.K96
open PySem
open L2.Pl L2.Ev
theorem of1{α:Type}{C:List α->Prop}(h:∀a0,C [a0]):∀us:List α,us.length=1->C us
 |[a0],_=>h a0
theorem of2{α:Type}{C:List α->Prop}(h:∀a0 a1,C [a0,a1]):∀us:List α,us.length=2->C us
 |[a0,a1],_=>h a0 a1
theorem of3{α:Type}{C:List α->Prop}(h:∀a0 a1 a2,C [a0,a1,a2]):∀us:List α,us.length=3->C us
 |[a0,a1,a2],_=>h a0 a1 a2
theorem of4{α:Type}{C:List α->Prop}(h:∀a0 a1 a2 a3,C [a0,a1,a2,a3]):∀us:List α,us.length=4->C us
 |[a0,a1,a2,a3],_=>h a0 a1 a2 a3
theorem all_mk{l:PySem.W.OpenLaw}{w:World}{K:PySem.W.Frag}{h:Heap}{mg:Str->Option Value}{fa:Addr}(X:K.In h)(G:h.Ns mainGlobals mg)(hfa:mg "law" = some (.ref fa))
  (q1:FQ K "refuse_bad_count" sRc)
  (q2:FQ K "gathered" yV_)
  (q3:FQ K "read_sign" sRs)
  (q4:FQ K "read_count" sRn)
  (q5:FQ K "read_powers" sRp)
  (q6:FQ K "read_term" sRt)
  (q7:FQ K "signs_and_terms" sSt)
  (q8:FQ K "read" yX_)
  (q9:FQ K "_law_whole" vD_)
  (q10:FQ K "_law_flags" vc_)
  (q11:FQ K "_law_only" y0_)
  (q12:FQ K "_law_cell" aa0_)
  (q13:FQ K "_law_thing" vm_)
  (q14:FQ K "_law_powers" sPow)
  (q15:FQ K "_law_sum" sSum)
  (q16:FQ K "_law_same" yT_)
  (q17:FQ K "_law_unknowns" sUnk)
  (q18:FQ K "_law_joined" sJo)
  (q19:FQ K "_law_shown" sLsh)
  (q20:FQ K "_law_term" sLt)
  (q21:FQ K "_law_read" sLr)
  (q22:FQ K "_law_odd" sOdd)
  (q23:FQ K "_law_bent" aat_)
  (q24:FQ K "law" sLaw)
  {tk1:Tok} (g1:PySem.W.nsIn K mainGlobals "MOST_UNKNOWNS" = some (some (.int 4 tk1)))
  {tk2:Tok} (g2:PySem.W.nsIn K mainGlobals "MOST_TOGETHER" = some (some (.int 8 tk2)))
  {tk3:Tok} (g3:PySem.W.nsIn K mainGlobals "MOST_FIGURES" = some (some (.int 60 tk3)))
  {d0 d1 d2 d3 d4 d5 d6 d7 d8 d9 d10 d11 d12 d13:Addr} {tkL tkF:Tok}
  (y0:PySem.W.nsIn K mainGlobals "BadCount" = some (some (.ref d0)))
  (y1:PySem.W.nsIn K mainGlobals "BadPowers" = some (some (.ref d1)))
  (y2:PySem.W.nsIn K mainGlobals "TooGreat" = some (some (.ref d2)))
  (y3:PySem.W.nsIn K mainGlobals "BadRow" = some (some (.ref d3)))
  (y4:PySem.W.nsIn K mainGlobals "UnlikeWeights" = some (some (.ref d4)))
  (y5:PySem.W.nsIn K mainGlobals "TooLong" = some (some (.ref d5)))
  (y6:PySem.W.nsIn K mainGlobals "Uneven" = some (some (.ref d6)))
  (y7:PySem.W.nsIn K mainGlobals "NoKind" = some (some (.ref d7)))
  (y8:PySem.W.nsIn K mainGlobals "NoText" = some (some (.ref d8)))
  (y9:PySem.W.nsIn K mainGlobals "NoLine" = some (some (.ref d9)))
  (y10:PySem.W.nsIn K mainGlobals "BadName" = some (some (.ref d10)))
  (y11:PySem.W.nsIn K mainGlobals "NoName" = some (some (.ref d11)))
  (y12:PySem.W.nsIn K mainGlobals "NotBy" = some (some (.ref d12)))
  (y13:PySem.W.nsIn K mainGlobals "EvenError" = some (some (.ref d13)))
  (x8:PySem.W.excIn K d8 bmV "ValueError.__new__" = true)
  (t8:TQ K [d0,d1,d2,d3,d4,d5,d6,d7,d8,d9,d10,d11,d12] d8 d13 [false,false,false,false,false,false,false,false,true,false,false,false,false])
  (wE:PySem.W.kitOne K (.ref d13) (.type "BaseException")=some true)
  (x0:PySem.W.excIn K d0 bmV "ValueError.__new__" = true)
  (sL:PySem.W.nsIn K mainGlobals "LETTERS" = some (some (.str (Str.ofString "xyzw") tkL)))
  (sF:PySem.W.nsIn K mainGlobals "FIGURES" = some (some (.str (Str.ofString "0123456789") tkF)))
  (z1:PySem.W.nsIn K mainGlobals "sorted" = some none)
  (z2:PySem.W.nsIn K mainGlobals "range" = some none)
  (z3:PySem.W.nsIn K mainGlobals "isinstance" = some none)
  (z4:PySem.W.nsIn K mainGlobals "int" = some none)
  (z5:PySem.W.nsIn K mainGlobals "bool" = some none)
  (z6:PySem.W.nsIn K mainGlobals "str" = some none)
  (z7:PySem.W.nsIn K mainGlobals "abs" = some none)
  (z8:PySem.W.nsIn K mainGlobals "len" = some none)
  (z9:PySem.W.nsIn K mainGlobals "tuple" = some none)
  (z10:PySem.W.nsIn K mainGlobals "list" = some none)
  (z11:PySem.W.nsIn K mainGlobals "all" = some none)
  (z12:PySem.W.nsIn K mainGlobals "zip" = some none)
  (z13:PySem.W.nsIn K mainGlobals "sum" = some none)
  (z14:PySem.W.nsIn K mainGlobals "ValueError" = some none)
  : ∃fd:FuncData,(∀(s:Shared)(v:Value),BindsTo s fd ⟨[v],[]⟩ [("_law_script",v)])/\∀base:Heap,K.In base->base.Ns mainGlobals mg->FnOk l.prog w K mg base CX0 8 fa fd ["_law_script"] (yQ_ K):=by
 obtain⟨f1,e1,F1,k1,A1⟩:=q1.x X G
 obtain⟨f2,e2,F2,k2,A2⟩:=q2.x X G
 obtain⟨f3,e3,F3,k3,A3⟩:=q3.x X G
 obtain⟨f4,e4,F4,k4,A4⟩:=q4.x X G
 obtain⟨f5,e5,F5,k5,A5⟩:=q5.x X G
 obtain⟨f6,e6,F6,k6,A6⟩:=q6.x X G
 obtain⟨f7,e7,F7,k7,A7⟩:=q7.x X G
 obtain⟨f8,e8,F8,k8,A8⟩:=q8.x X G
 obtain⟨f9,e9,F9,k9,A9⟩:=q9.x X G
 obtain⟨f10,e10,F10,k10,A10⟩:=q10.x X G
 obtain⟨f11,e11,F11,k11,A11⟩:=q11.x X G
 obtain⟨f12,e12,F12,k12,A12⟩:=q12.x X G
 obtain⟨f13,e13,F13,k13,A13⟩:=q13.x X G
 obtain⟨f14,e14,F14,k14,A14⟩:=q14.x X G
 obtain⟨f15,e15,F15,k15,A15⟩:=q15.x X G
 obtain⟨f16,e16,F16,k16,A16⟩:=q16.x X G
 obtain⟨f17,e17,F17,k17,A17⟩:=q17.x X G
 obtain⟨f18,e18,F18,k18,A18⟩:=q18.x X G
 obtain⟨f19,e19,F19,k19,A19⟩:=q19.x X G
 obtain⟨f20,e20,F20,k20,A20⟩:=q20.x X G
 obtain⟨f21,e21,F21,k21,A21⟩:=q21.x X G
 obtain⟨f22,e22,F22,k22,A22⟩:=q22.x X G
 obtain⟨f23,e23,F23,k23,A23⟩:=q23.x X G
 obtain⟨f24,fd,a24,F24⟩:=q24
 have e:=hfa.symm.trans (Af X G a24)
 cases e
 have c_MOST_UNKNOWNS:=Af X G g1
 have c_MOST_TOGETHER:=Af X G g2
 have c_MOST_FIGURES:=Af X G g3
 have m_sorted:=Al X G z1
 have m_range:=Al X G z2
 have m_isinstance:=Al X G z3
 have m_int:=Al X G z4
 have m_bool:=Al X G z5
 have m_str:=Al X G z6
 have m_abs:=Al X G z7
 have m_len:=Al X G z8
 have m_tuple:=Al X G z9
 have m_list:=Al X G z10
 have m_all:=Al X G z11
 have m_zip:=Al X G z12
 have m_sum:=Al X G z13
 have m_ValueError:=Al X G z14
 refine⟨fd,λs v=>?_,λbase _ _=>?_⟩
 ·obtain⟨_,_,_,_,_,_,_,_,_,rfl,_,_⟩:=F24.ex
  exact .of_eq rfl
 have T8:=t8.told (x := "NoText") (by decide) (aa4_ x8)
 have M0:=Af X G y0
 have M1:=Af X G y1
 have M2:=Af X G y2
 have M3:=Af X G y3
 have M4:=Af X G y4
 have M5:=Af X G y5
 have M6:=Af X G y6
 have M7:=Af X G y7
 have M8:=Af X G y8
 have M9:=Af X G y9
 have M10:=Af X G y10
 have M11:=Af X G y11
 have M12:=Af X G y12
 have M13:=Af X G y13
 have c_L:mg "LETTERS" = some (.str jb_ tkL):=Af X G sL
 have c_F:mg "FIGURES" = some (.str figs tkF):=Af X G sF
 have G1:=HasX.mk f1 e1 (agx_ (P:=l.prog) (w:=w) (base:=base) F1 c_MOST_UNKNOWNS ⟨M0,x0⟩) (F1.binds λ_ _ _ _ _ _=>of1 λ_=>rfl) k1 A1
 have G2:=Has.mk f2 e2 (af4_ (P:=l.prog) (w:=w) (base:=base) F2 m_sorted) (F2.binds λ_ _ _ _ _ _=>of1 λ_=>rfl) k2 A2
 have G3:=HasX.mk f3 e3 (akm_ (P:=l.prog) (w:=w) (base:=base) F3 ⟨M8,x8⟩) (F3.binds λ_ _ _ _ _ _=>of1 λ_=>rfl) k3 A3
 have G4:=HasX.mk f4 e4 (aj8_ (P:=l.prog) (w:=w) (base:=base) F4 ⟨M8,x8⟩ c_MOST_FIGURES m_len m_int) (F4.binds λ_ _ _ _ _ _=>of1 λ_=>rfl) k4 A4
 have G5:=HasX.mk f5 e5 (ajs_ (P:=l.prog) (w:=w) (base:=base) F5 ⟨M8,x8⟩ c_L c_MOST_TOGETHER m_int m_sum m_tuple) (F5.binds λ_ _ _ _ _ _=>of2 λ_ _=>rfl) k5 A5
 have G6:=HasX.mk f6 e6 (akf_ F6 ⟨M8,x8⟩ (G4.lift (by decide)) (G5.lift (by decide)) (G3.lift (by decide)) c_F m_len) (F6.binds λ_ _ _ _ _ _=>of3 λ_ _ _=>rfl) k6 A6
 have G7:=Has.mk f7 e7 (aj0_ (P:=l.prog) (w:=w) (mg:=mg) (base:=base) F7) (F7.binds λ_ _ _ _ _ _=>of1 λ_=>rfl) k7 A7
 have G8:=HasX.mk f8 e8 (agu_ F8 (G1.lift (by decide)) (G7.lift (by decide)) (G6.lift (by decide)) (G2.lift (by decide)) ⟨M8,x8⟩ m_len m_zip) (F8.binds λ_ _ _ _ _ _=>of2 λ_ _=>rfl) k8 A8
 have G9:=Has.mk f9 e9 (ado_ (P:=l.prog) (w:=w) (base:=base) F9 m_isinstance m_int m_bool) (F9.binds λ_ _ _ _ _ _=>of1 λ_=>rfl) k9 A9
 have G10:=Has.mk f10 e10 (ae5_ (P:=l.prog) (w:=w) (base:=base) F10 m_isinstance M0 M1 M2 M3 M4 M5 M6 M7 M8 M9 M10 M11 M12) (F10.binds λ_ _ _ _ _ _=>of1 λ_=>rfl) k10 A10
 have G11:=Has.mk f11 e11 (af3_ F11 (G10.lift (by decide)) m_isinstance m_ValueError) (F11.binds λ_ _ _ _ _ _=>of2 λ_ _=>rfl) k11 A11
 have G12:=Has.mk f12 e12 (af2_ (P:=l.prog) (w:=w) (base:=base) F12 m_len) (F12.binds λ_ _ _ _ _ _=>of2 λ_ _=>rfl) k12 A12
 have G13:=Has.mk f13 e13 (adt_ (P:=l.prog) (w:=w) (mg:=mg) (base:=base) F13) (F13.binds λ_ _ _ _ _ _=>of3 λ_ _ _=>rfl) k13 A13
 have G14:=Has.mk f14 e14 (ahy_ F14 (G13.ok) G13.bd G13.kp G13.at_ m_range m_tuple) (F14.binds λ_ _ _ _ _ _=>of4 λ_ _ _ _=>rfl) k14 A14
 have G15:=Has.mk f15 e15 (ahl_ (P:=l.prog) (w:=w) (base:=base) F15 m_sorted) (F15.binds λ_ _ _ _ _ _=>of1 λ_=>rfl) k15 A15
 have G16:=Has.mk f16 e16 (agj_ F16 (G9.ok) G9.bd G9.kp G9.at_ m_isinstance m_list m_tuple m_len m_zip m_all) (F16.binds λ_ _ _ _ _ _=>of2 λ_ _=>rfl) k16 A16
 have G17:=Has.mk f17 e17 (aiz_ (P:=l.prog) (w:=w) (base:=base) F17 m_len m_range m_str) (F17.binds λ_ _ _ _ _ _=>of1 λ_=>rfl) k17 A17
 have G18:=Has.mk f18 e18 (aj9_ (P:=l.prog) (w:=w) (base:=base) F18 m_int) (F18.binds λ_ _ _ _ _ _=>of1 λ_=>rfl) k18 A18
 have G19:=Has.mk f19 e19 (ai3_ F19 (G17.lift (by decide)) (G18.lift (by decide)) m_str m_abs m_sum) (F19.binds λ_ _ _ _ _ _=>of1 λ_=>rfl) k19 A19
 have G20:=Has.mk f20 e20 (aj7_ (P:=l.prog) (w:=w) (base:=base) F20 m_len m_range m_int m_sum m_tuple) (F20.binds λ_ _ _ _ _ _=>of2 λ_ _=>rfl) k20 A20
 have G21:=Has.mk f21 e21 (aj3_ F21 (G20.lift (by decide)) (G15.lift (by decide)) m_len m_range m_int) (F21.binds λ_ _ _ _ _ _=>of2 λ_ _=>rfl) k21 A21
 have G22:=Has.mk f22 e22 (ah2_ (P:=l.prog) (w:=w) (mg:=mg) (base:=base) F22) (F22.binds λ_ _ _ _ _ _=>of1 λ_=>rfl) k22 A22
 have G23:=Has.mk f23 e23 (ahd_ F23 (G13.lift (by decide)) (G22.lift (by decide)) m_len) (F23.binds λ_ _ _ _ _ _=>of2 λ_ _=>rfl) k23 A23
 exact air_ F24 (G12.lift (by decide)) (G14.lift (by decide)) (G15.lift (by decide)) (G19.lift (by decide)) (G23.lift (by decide)) (G21.lift (by decide)) (G8.lift (by decide)) (G11.lift (by decide)) (G16.lift (by decide)) T8 M13 wE
theorem walk{l:PySem.W.OpenLaw}{q:Program}{loose:List Str}{XP:(Str->Option Value)->Heap->Prop}{YP:World->Heap->Prop}{d:DefRec}{K:Params->PySem.W.Frag}(hn:l.most=some 63)(hdf:d.params.defaults=[])
  (hY:∀(w:World)(h:Heap),YP w h->(K w.params).In h)
  (F:∀(w:World)(mg:Str->Option Value)(fa:Addr)(h:Heap),(K w.params).In h->h.Ns mainGlobals mg->mg d.name=some (.ref fa) ->
   ∃fd:FuncData,(∀(s:Shared)(u:Value),BindsTo s fd ⟨[u],[]⟩ [("_law_script",u)])/\∀base:Heap,(K w.params).In base->base.Ns mainGlobals mg->FnOk l.prog w (K w.params) mg base CX0 8 fa fd ["_law_script"] (yQ_ (K w.params))) :
  PySem.W.WalkO q loose XP YP l.row.toRowW d [] (λf vs=>PySem.call f vs) :=
 L2.walk_of (n:=63) (k:=8) (x := "_law_script") (CX:=λ_=>CX0) (sp:=λw=>yQ_ (K w.params)) hn (by decide) hdf ⟨rfl,by decide,by decide⟩ hY F (λ_ _ a ns hl _ hS=>⟨a,ns,rfl,hS,hl,λ_=>rfl⟩) λ_ _ _ _ _ z=>z
end L2.K96
namespace PySem.W.Fast
def tw10036446790291399887:=0
def tw10108163713546683344:=0
def tw10109735009677100670:=0
def tw10130492598559664082:=0
def tw10156819225718645093:=0
def tw10190903123904302553:=0
def tw10220465867680475294:=0
def tw10223144047047507206:=0
def tw10353697635874045724:=0
def tw103561569838296415:=0
def tw10405525759111020475:=0
def tw10411645355690169941:=0
def tw10472328139756830707:=0
def tw10550012765274496564:=0
def tw10605305154936456041:=0
def tw1070089359042979990:=0
def tw10709407229673156519:=0
def tw10849827435638504015:=0
def tw10855137845445405803:=0
def tw10966946029913293066:=0
def tw11012742107996511369:=0
def tw11055042875373790878:=0
def tw11088559744792713448:=0
def tw11092963976464800767:=0
def tw111152895803633291:=0
def tw11142493952861106698:=0
def tw11173236792769322262:=0
def tw11279026979738963054:=0
def tw11280270577626929389:=0
def tw11350683809204446372:=0
def tw11441425278573828247:=0
def tw11470461829766780789:=0
def tw11503585247873398205:=0
def tw11530886989950401440:=0
def tw11571902993230637443:=0
def tw11594075151114186835:=0
def tw11635258302127865374:=0
def tw11666630090752411207:=0
def tw11822741971138400958:=0
def tw11834287800490079837:=0
def tw11838826918265095927:=0
def tw11889992259167060933:=0
def tw11911145978446971826:=0
def tw11964373237696186233:=0
def tw12035890077063336601:=0
def tw12097413174901389145:=0
def tw12189156667363971412:=0
def tw12206081589561220583:=0
def tw12252998603617047670:=0
def tw12262939514315652873:=0
def tw12279006494329824962:=0
def tw12283129900026014722:=0
def tw12301616207345721530:=0
def tw12373395412185118201:=0
def tw12474783076325810784:=0
def tw12553771673066739088:=0
def tw1262964456250004964:=0
def tw12672476876698325748:=0
def tw12674525921008678437:=0
def tw12715538062866755484:=0
def tw127177378840439181:=0
def tw12888822941672133426:=0
def tw12907345455238982166:=0
def tw12914243738398891223:=0
def tw12925993517939179130:=0
def tw12978282335093674600:=0
def tw13005575224410922636:=0
def tw13024468920210525416:=0
def tw13065791931230807604:=0
def tw13101232207609668311:=0
def tw1310217225170747671:=0
def tw13113658194263765337:=0
def tw13124719817280950489:=0
def tw13128504521633215656:=0
def tw13254867989023384973:=0
def tw13304268000886107537:=0
def tw1333102389793434375:=0
def tw13352421141873660424:=0
def tw13373117307789873983:=0
def tw13523480993278184038:=0
def tw13567135311452213601:=0
def tw13623471353977026841:=0
def tw13690058832943299049:=0
def tw13758570781806473450:=0
def tw13790792425719428849:=0
def tw1382853006835204817:=0
def tw13841189222927828862:=0
def tw13939144561863967924:=0
def tw14063761580041136839:=0
def tw14098123200797463751:=0
def tw14128285423992045370:=0
def tw14140607296312801365:=0
def tw14146700247245790807:=0
def tw1417283999819463109:=0
def tw14225883341056090478:=0
def tw14338035819578780990:=0
def tw1434654175769683956:=0
def tw14371324897048231919:=0
def tw14402811652293783679:=0
def tw14479350149335957972:=0
def tw14524664227570249860:=0
def tw14544208924516589171:=0
def tw14557431387752209552:=0
def tw14593874797974929017:=0
def tw14607225570889247032:=0
def tw14645401517712997238:=0
def tw14684263342916609610:=0
def tw14685853822568402561:=0
def tw14728973298910818703:=0
def tw14735449191682371516:=0
def tw14784723986230837257:=0
def tw14792403231355650334:=0
def tw1480656666215626124:=0
def tw14819982803870953519:=0
def tw14871601102636565248:=0
def tw14914202878962731711:=0
def tw14957839689716829990:=0
def tw14978283572722170160:=0
def tw15075841313085269331:=0
def tw1510301131247037605:=0
def tw15103323745919524558:=0
def tw15119304687589113454:=0
def tw15124835378997968496:=0
def tw15131699751750663027:=0
def tw15253453644246601341:=0
def tw15275066505467592932:=0
def tw15316283904389500389:=0
def tw153299690586576120:=0
def tw15408678841327645503:=0
def tw1543933216301277001:=0
def tw15509927804668199792:=0
def tw15545268160241815781:=0
def tw15564418877842635524:=0
def tw15570592689466015014:=0
def tw15639389746149907076:=0
def tw15770840806353588255:=0
def tw15852664627334597087:=0
def tw15877186384764263515:=0
def tw15910518532620442885:=0
def tw15990883137487034880:=0
def tw16036715267525406763:=0
def tw16040106329602664590:=0
def tw16092268093755313409:=0
def tw16171810169372123199:=0
def tw16175925077267557742:=0
def tw16270542279356025730:=0
def tw16293361662581786081:=0
def tw16389997208224258999:=0
def tw16449536396352591386:=0
def tw16463781878127226289:=0
def tw16533720622516125702:=0
def tw16568727796716880730:=0
def tw16571114806660427151:=0
def tw16580815935958510195:=0
def tw16681699367123155955:=0
def tw16699111852714521945:=0
def tw16857140892540094959:=0
def tw16891567263957113183:=0
def tw16931721568176269686:=0
def tw17036369840590695961:=0
def tw17054254305056994553:=0
def tw17156762122753717948:=0
def tw17157600915432706818:=0
def tw17167776996527093418:=0
def tw17239632119350911119:=0
def tw1724350590992129660:=0
def tw17261593011556836723:=0
def tw17262406618939547946:=0
def tw17278346949766538325:=0
def tw17323936504565398862:=0
def tw17354894074118720030:=0
def tw17395794430721580414:=0
def tw17414410437937657066:=0
def tw17443921981389623:=0
def tw1747542706203351343:=0
def tw17624868267790811179:=0
def tw17679042463166842972:=0
def tw17696296989993219362:=0
def tw17719949359599606822:=0
def tw17722462939789539551:=0
def tw17727699500785392090:=0
def tw17727951210494964701:=0
def tw17739039517006631659:=0
def tw17741840985629188614:=0
def tw17760988832353792666:=0
def tw17793653321646358753:=0
def tw17805095168785132982:=0
def tw17841395746373363060:=0
def tw17847776827156639942:=0
def tw17935676188518841591:=0
def tw18040641928533927366:=0
def tw18067920272652570360:=0
def tw18077587472347555348:=0
def tw18267835147112592730:=0
def tw18339709182147895193:=0
def tw18365299215132335834:=0
def tw18377790515919718591:=0
def tw18383549961649454739:=0
def tw1971189138626599489:=0
def tw1986605328283027026:=0
def tw199023051136199828:=0
def tw1999541708877986349:=0
def tw2018284626732987744:=0
def tw2088549480137520771:=0
def tw2096519640273904003:=0
def tw213248774953817802:=0
def tw2253760748541096781:=0
def tw2328035299532894008:=0
def tw2332126636453500723:=0
def tw2334749490338704225:=0
def tw2471376921116583016:=0
def tw2567503706232034519:=0
def tw2592863822324922828:=0
def tw269650184735508773:=0
def tw2783788638158255437:=0
def tw2813969426446824831:=0
def tw2890910261070133583:=0
def tw293252631839556690:=0
def tw2937646701839235448:=0
def tw2990037542219403167:=0
def tw3047844654130306553:=0
def tw3070855856023443548:=0
def tw3108775046880648690:=0
def tw3180631578038931251:=0
def tw3252066997524646617:=0
def tw3300197208954036390:=0
def tw3373863037691880249:=0
def tw3383935467150883412:=0
def tw344828448704553587:=0
def tw3465427338718520039:=0
def tw3521787592042239889:=0
def tw3669888273023775412:=0
def tw370109140691054714:=0
def tw3721680320215480206:=0
def tw3765275802315511259:=0
def tw3792786309218563097:=0
def tw3866453625326398716:=0
def tw4012379701624808659:=0
def tw4023002379721908582:=0
def tw4084433340833404332:=0
def tw4089941517233174024:=0
def tw4097173690163314673:=0
def tw4118982094481255039:=0
def tw4173256843692968182:=0
def tw41889850919680625:=0
def tw4402322626372482217:=0
def tw4422163461087371180:=0
def tw4520744786122271891:=0
def tw4560539786998834677:=0
def tw4594195340297919615:=0
def tw4628041891152709869:=0
def tw4634601283053564711:=0
def tw4781809517034561499:=0
def tw4812651313465864061:=0
def tw4827256454417811909:=0
def tw4839264715368949934:=0
def tw4840607625668586865:=0
def tw500734979719190087:=0
def tw5067160986884890712:=0
def tw5125353812615925370:=0
def tw520920595932697507:=0
def tw5238973927770564557:=0
def tw526860461813999961:=0
def tw5355035996308530056:=0
def tw5355365826092465666:=0
def tw5384857401567762331:=0
def tw550326762118432886:=0
def tw5592787286154686793:=0
def tw5596975081131180925:=0
def tw5679840729898491071:=0
def tw5787785018384014370:=0
def tw5827909049890708146:=0
def tw5836010330223927788:=0
def tw5878936000513050592:=0
def tw5925197479729336234:=0
def tw5947784440552611073:=0
def tw5976850871157201952:=0
def tw6026916437989904281:=0
def tw6082472020776367936:=0
def tw6180934865917557512:=0
def tw6254060038046865989:=0
def tw6262475388391105606:=0
def tw6264965840981753519:=0
def tw6267024172168942184:=0
def tw6333395348473389715:=0
def tw6470796987264224385:=0
def tw6496516529651933258:=0
def tw65482492407753175:=0
def tw6631633094104975298:=0
def tw6645886788251345494:=0
def tw6665079047475596938:=0
def tw6731199264639636244:=0
def tw6774500896912972222:=0
def tw6778130800031585689:=0
def tw6782665551236028150:=0
def tw681070960597750911:=0
def tw6887171567815875177:=0
def tw6894873201472311690:=0
def tw6931934217586107104:=0
def tw6943638910330762615:=0
def tw6963867443963652920:=0
def tw6983385903064261813:=0
def tw6991080356214557118:=0
def tw6997701963569219319:=0
def tw7076124178253938421:=0
def tw7076912357020419216:=0
def tw7090936374259910206:=0
def tw711651232251995730:=0
def tw7168699170129958465:=0
def tw7425603068246263826:=0
def tw7431467337978421097:=0
def tw7463188074174631403:=0
def tw747812902596525309:=0
def tw751034281258839967:=0
def tw7576169272646333252:=0
def tw7653380286854672733:=0
def tw7657421420493007880:=0
def tw7681677691650403566:=0
def tw7733866925295695856:=0
def tw774878358717899615:=0
def tw7835662730143365372:=0
def tw7855354680394762186:=0
def tw7857110870691416383:=0
def tw7877291139084720493:=0
def tw7898075066072226620:=0
def tw7908095583502562166:=0
def tw7924248145150965729:=0
def tw8040422507585964467:=0
def tw8069787339081408970:=0
def tw8084293278171720071:=0
def tw808508988898570030:=0
def tw8142293714782239575:=0
def tw8147415543809946106:=0
def tw8152345867563437717:=0
def tw8158732663188147134:=0
def tw8169517335098959833:=0
def tw8269183367603084388:=0
def tw8403199308491601042:=0
def tw8422731967431218915:=0
def tw8525096164305545094:=0
def tw862399158895317442:=0
def tw8632184384953633494:=0
def tw8638203529162525424:=0
def tw8647963334487245837:=0
def tw8649634218587280877:=0
def tw8717124662822196270:=0
def tw8753131018695818143:=0
def tw880387478243897010:=0
def tw8812999109222489464:=0
def tw8962444673859007255:=0
def tw8994258538226135021:=0
def tw899886521139395598:=0
def tw9014155093159616624:=0
def tw9043070281435227420:=0
def tw9119343828324725608:=0
def tw9141019593864655792:=0
def tw9243118025459985610:=0
def tw9266973057422224758:=0
def tw9304896604580646657:=0
def tw9321691686326454185:=0
def tw9339018945782338987:=0
def tw9399650946937126799:=0
def tw9417069443843727636:=0
def tw9477396270370216365:=0
def tw9597904799757151165:=0
def tw9604004586471117538:=0
def tw9625669398828586759:=0
def tw9699386698510808129:=0
def tw9729369730292859498:=0
def tw9766611398816160820:=0
def tw9831285844831337353:=0
def tw9904013028899218201:=0
def tw9923490285207553234:=0
end PySem.W.Fast
open PySem PySem.W PyProof.Rows
set_option maxRecDepth 100000 in
set_option maxHeartbeats 0 in
theorem PySem.Challenge.cw_evenform_k96_whole_texts_bent_holds : PySem.Challenge.rw_evenform_k96_whole_texts_bent.Holds := by
  w_on; o_law; k_head; (case hw => w_witness2)
  k_fill
  refine L2.K96.walk (l := PySem.Challenge.rw_evenform_k96_whole_texts_bent) rfl rfl (fun w h Y => PySem.W.kIn_of Y) ?F
  case F =>
    intro w mg fa h KX G hmg
    refine' L2.K96.all_mk KX G hmg ?q1 ?q2 ?q3 ?q4 ?q5 ?q6 ?q7 ?q8 ?q9 ?q10 ?q11 ?q12 ?q13 ?q14 ?q15 ?q16 ?q17 ?q18 ?q19 ?q20 ?q21 ?q22 ?q23 ?q24 ?g1 ?g2 ?g3 ?y0 ?y1 ?y2 ?y3 ?y4 ?y5 ?y6 ?y7 ?y8 ?y9 ?y10 ?y11 ?y12 ?y13 ?x8 ?t8 ?wE ?x0 ?sL ?sF ?z1 ?z2 ?z3 ?z4 ?z5 ?z6 ?z7 ?z8 ?z9 ?z10 ?z11 ?z12 ?z13 ?z14
    all_goals try (refine' L2.K96.fq_mk ?a ?l ?c ?k; (case a => k_is); (case l => k_is); (case c => k_is); (case k => k_is))
    (case g1 => k_is)
    (case g2 => k_is)
    (case g3 => k_is)
    (case y0 => k_is)
    (case y1 => k_is)
    (case y2 => k_is)
    (case y3 => k_is)
    (case y4 => k_is)
    (case y5 => k_is)
    (case y6 => k_is)
    (case y7 => k_is)
    (case y8 => k_is)
    (case y9 => k_is)
    (case y10 => k_is)
    (case y11 => k_is)
    (case y12 => k_is)
    (case y13 => k_is)
    (case x8 => k_exc)
    (case t8 => constructor; (case a => k_is); (case b => k_is); (case c => k_is); (case d => k_is); (case e => k_is); (case v => kit_is); (case w => kit_is); (case n => decide); (case s => (repeat (refine .cons (by kit_is) ?_)); exact .nil))
    (case wE => kit_is)
    (case x0 => k_exc)
    (case sL => k_is)
    (case sF => k_is)
    all_goals k_is
