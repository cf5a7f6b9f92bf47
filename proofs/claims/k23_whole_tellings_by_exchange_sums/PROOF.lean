import PyProof.Rows.All
import Wide.All
import OpenK.AllK
import Wide.FinOn
import Lean
import PyProof.EqAt
import PyProof.EqKinds
import PyProof.TupleCall
import PyProof.Rows.SortRuns
import PyProof.DictItems
import PyProof.DictWalks
import PyProof.CollectIter
import PyProof.Rows.SortRev
import KE.KSortTup
import KE.KDictList
import OpenK.KOwn
import PyProof.NsDelKeeps
import PyProof.RulesAs
import KE.KIsAll
import PyProof.ExcArgsOwn
import KE.KMinBuiltin
import PyProof.Draws
import PyProof.EnumMake
import PyProof.Rows.EnumRows
import PyProof.ListMulRoad
import PyProof.ExcInit
import PyProof.ExcClass2
import OpenK.KMake
import PyProof.InstStoreFacts
import OpenK.KCls
import OpenK.KMore
import PyProof.EqAt
import KE.KSortTup
import KE.KDictList
import KE.KItemsList
import PyProof.Rows.SortRev
import PyProof.DictItems
import PyProof.DictWalks
import PyProof.CollectIter
import PySem.Challenge.RW_evenform_k23_whole_tellings_by_exchange
set_option Elab.async false
set_option linter.all false
set_option maxRecDepth 100000
namespace L2
open PySem PySem.Spec PyProof.Rows
abbrev Key:=Sum Int Str
def keyIs : Key → Value → Bool
  | .inl k,v=>Value.isInt k v
  | .inr x,v=>Value.isStrOf x v
def keyH (w : World) : Key → Int
  | .inl k=>hashInt k
  | .inr x=>hashStr w x
theorem keyIs_shape : ∀ {k : Key} {v : Value},keyIs k v = true → (∃ i t,k = Sum.inl i ∧ v = Value.int i t) ∨ (∃ x t,k = Sum.inr x ∧ v = Value.str x t)
  | .inl i,v,h=>by
    obtain ⟨t,e⟩:=Value.isInt_shape (k:=i) (v:=v) h
    exact .inl ⟨i,t,rfl,e⟩
  | .inr x,v,h=>by
    obtain ⟨t,e⟩:=Value.isStrOf_shape (x:=x) (v:=v) h
    exact .inr ⟨x,t,rfl,e⟩
theorem keyIs_int (i : Int) (t : Tok) : keyIs (.inl i) (.int i t) = true:=by simp [keyIs,Value.isInt]
theorem keyIs_str (x : Str) (t : Tok) : keyIs (.inr x) (.str x t) = true:=by simp [keyIs,Value.isStrOf]
theorem key_ll (a b : Int) : decide ((Sum.inl a : Key) = Sum.inl b) = (a == b):=by
  by_cases e : a = b
  · subst e; simp
  · have h : ¬ (Sum.inl a : Key) = Sum.inl b:=fun q=>e (Sum.inl.inj q)
    rw [decide_eq_false h]
    exact (beq_eq_false_iff_ne.mpr e).symm
theorem key_rr (a b : Str) : decide ((Sum.inr a : Key) = Sum.inr b) = decide (a = b):=by
  by_cases e : a = b
  · subst e; simp
  · have h : ¬ (Sum.inr a : Key) = Sum.inr b:=fun q=>e (Sum.inr.inj q)
    rw [decide_eq_false h,decide_eq_false e]
theorem key_lr (a : Int) (b : Str) : decide ((Sum.inl a : Key) = Sum.inr b) = false:=decide_eq_false (fun q=>nomatch q)
theorem key_rl (a : Str) (b : Int) : decide ((Sum.inr a : Key) = Sum.inl b) = false:=decide_eq_false (fun q=>nomatch q)
def mixKind (prog : Program) (w : World) : PySem.KeyKind prog w Key where
  is:=keyIs
  hash:=keyH w
  inj:=fun v a b ha hb=>by
    rcases keyIs_shape ha with ⟨i,t,rfl,rfl⟩ | ⟨x,t,rfl,rfl⟩
    · rcases keyIs_shape hb with ⟨j,u,rfl,e⟩ | ⟨y,u,rfl,e⟩
      · injection e with e1 _; rw [e1]
      · exact nomatch e
    · rcases keyIs_shape hb with ⟨j,u,rfl,e⟩ | ⟨y,u,rfl,e⟩
      · exact nomatch e
      · injection e with e1 _; rw [e1]
  byValue:=fun k v h=>by
    rcases keyIs_shape h with ⟨i,t,rfl,rfl⟩ | ⟨x,t,rfl,rfl⟩ <;> rfl
  pyHash:=fun hv h=>by
    rcases keyIs_shape hv with ⟨i,t,rfl,rfl⟩ | ⟨x,t,rfl,rfl⟩
    · exact wpAny_pyHash_int h
    · exact wpAny_pyHash_str h
  eqBool:=fun hu hv h=>by
    rcases keyIs_shape hu with ⟨i,t,rfl,rfl⟩ | ⟨x,t,rfl,rfl⟩
    · rcases keyIs_shape hv with ⟨j,u,rfl,rfl⟩ | ⟨y,u,rfl,rfl⟩
      · rw [key_ll] at h; exact wpAny_eqBool_int h
      · rw [key_lr] at h; exact SeqAt.EqAt.int_str i t y u _ _ _ _ h
    · rcases keyIs_shape hv with ⟨j,u,rfl,rfl⟩ | ⟨y,u,rfl,rfl⟩
      · rw [key_rl] at h; exact SeqAt.EqAt.str_int x t j u _ _ _ _ h
      · rw [key_rr] at h; exact wpAny_eqBool_str h
  «strs»:=fun k x t v h=>by
    rcases keyIs_shape h with ⟨i,u,rfl,e⟩ | ⟨y,u,rfl,e⟩
    · exact nomatch e
    · injection e with e1 _
      subst e1
      cases v <;> rfl
theorem mixKind_int (prog : Program) (w : World) (i : Int) (t : Tok) : (mixKind prog w).is (.inl i) (.int i t) = true:=keyIs_int i t
theorem mixKind_str (prog : Program) (w : World) (x : Str) (t : Tok) : (mixKind prog w).is (.inr x) (.str x t) = true:=keyIs_str x t
end L2
namespace L2
open PySem PySem.Spec PyProof.Rows
inductive V where
  | non | bl (b : Bool) | int (i : Int) | str (x : Str) | byt (b : Array UInt8) | flt (b : UInt64) | ref (a : Addr) | ty (n : String)
  deriving DecidableEq
def RelV : V → Value → Prop
  | .non,u=>u = Value.none
  | .bl b,u=>u = Value.bool b
  | .int i,u=>∃ t,u = Value.int i t
  | .str x,u=>∃ t,u = Value.str x t
  | .byt b,u=>∃ t,u = Value.bytes b t
  | .flt b,u=>∃ t,u = Value.float b t
  | .ref a,u=>u = Value.ref a
  | .ty n,u=>u = Value.type n
abbrev Vals : List V → List Value → Prop:=Paired RelV
theorem Vals.length {xs : List V} {us : List Value} (r : Vals xs us) : xs.length = us.length:=Paired.length r
theorem Vals.get : ∀ {xs : List V} {us : List Value} {i : Nat} {x : V},Vals xs us → xs[i]? = some x → ∃ u,us[i]? = some u ∧ RelV x u
  | _,_,_,_,.nil,e=>by simp at e
  | _,_,0,_,.cons r _,e=>by simp at e; subst e; exact ⟨_,rfl,r⟩
  | _,_,i + 1,x,.cons _ t,e=>by
    obtain ⟨u,h1,h2⟩:=Vals.get (i:=i) (x:=x) t (by simpa using e)
    exact ⟨u,by simpa using h1,h2⟩
theorem Vals.set {x : V} {u : Value} (r : RelV x u) : ∀ {xs : List V} {us : List Value} (i : Nat),Vals xs us → Vals (xs.set i x) (us.set i u)
  | _,_,_,.nil=>.nil
  | _,_,0,.cons _ t=>.cons r t
  | _,_,i + 1,.cons q t=>.cons q (Vals.set r i t)
theorem Vals.append : ∀ {xs ys : List V} {us ws : List Value},Vals xs us → Vals ys ws → Vals (xs ++ ys) (us ++ ws)
  | _,_,_,_,.nil,s=>s
  | _,_,_,_,.cons r t,s=>.cons r (Vals.append t s)
theorem Vals.take : ∀ {xs : List V} {us : List Value} (n : Nat),Vals xs us → Vals (xs.take n) (us.take n)
  | _,_,0,_=>.nil
  | _,_,_ + 1,.nil=>.nil
  | _,_,n + 1,.cons r t=>.cons r (Vals.take n t)
theorem Vals.drop : ∀ {xs : List V} {us : List Value} (n : Nat),Vals xs us → Vals (xs.drop n) (us.drop n)
  | _,_,0,r=>r
  | _,_,_ + 1,.nil=>.nil
  | _,_,n + 1,.cons _ t=>Vals.drop n t
def RelO : Option V → Option Value → Prop
  | some v,some u=>RelV v u
  | none,none=>True
  | _,_=>False
def KV {κ : Type} : List (κ × V) → List (κ × Value) → Prop:=Paired fun (p : κ × V) (q : κ × Value)=>p.1 = q.1 ∧ RelV p.2 q.2
def kV : Key → V
  | .inl i=>.int i
  | .inr x=>.str x
inductive HO where
  | lst (xs : List V)
  | tup (xs : List V)
  | dK (kvs : List (Key × V)) | dT (kvs : List (List Key × V))
  | set (S : Int → Bool) (n : Nat)
  | ins (C dx : Addr) (fs : List (Str × V))
  | own (x : Addr)
  | xd (fs : List (Str × V))
  | met (f x : Addr)
  | rng (lo hi : Int)
  | frz (o : Obj) (u : HO)
  | tbl (ps : Array Value)
  | ext (φ : Heap → Prop)
abbrev Hp:=Addr → Option HO
def upd (H : Hp) (a : Addr) (o : HO) : Hp:=fun b=>if b = a then some o else H b
theorem upd_same {H : Hp} {a : Addr} {o : HO} : upd H a o a = some o:=by unfold upd; rw [if_pos rfl]
theorem upd_ne {H : Hp} {a b : Addr} {o : HO} (h : b ≠ a) : upd H a o b = H b:=by unfold upd; rw [if_neg h]
theorem ne_of {H : Hp} {a b : Addr} {o u : HO} (h : H a = some o) (h' : H b = some u) (d : o ≠ u) : a ≠ b:=by
  intro e; subst e; rw [h] at h'; exact d (Option.some.inj h')
theorem ne_of_none {H : Hp} {a b : Addr} {o : HO} (h : H a = some o) (h' : H b = none) : a ≠ b:=by
  intro e; subst e; rw [h] at h'; cases h'
def TupN (h : Heap) (a : Addr) (items : Array Value) : Prop:=∃ o,h.get? a = some o ∧ o.cls = .type "tuple" ∧ ∃ n,o.data = .seq items n ∧ o.dict = none
theorem TupN.tup {h : Heap} {a : Addr} {items : Array Value} (x : TupN h a items) : IsTup h a items:=let ⟨o,e,c,n,d,_⟩:=x; ⟨o,e,c,n,d⟩
theorem TupN.new (h : Heap) (items : Array Value) : TupN (h.push { cls:=.type "tuple",data:=.seq items }) h.objs.size items:=⟨_,Heap.get?_push_size _ rfl,rfl,0,rfl,rfl⟩
section
variable (P : Program) (w : World)
def ObjOk (H : Hp) (h : Heap) (a : Addr) : HO → Prop
  | .lst xs=>xs.length ≤ sizeLine ∧ ∃ (its : List Value) (n : Nat),Vals xs its ∧ h.get? a = some { cls:=.type "list",data:=.seq its.toArray n }
  | .tup xs=>xs.length ≤ sizeLine ∧ ∃ its : List Value,Vals xs its ∧ TupN h a its.toArray
  | .dK kvs=>kvs.length ≤ sizeLine ∧ (a == sysModules) = false ∧ ∃ vs,KV kvs vs ∧ h.DictOf (mixKind P w) a vs
  | .dT kvs=>kvs.length ≤ sizeLine ∧ (a == sysModules) = false ∧ ∃ xs : List (List Key × Addr × Value),
      Paired (fun (p : List Key × V) (q : List Key × Addr × Value)=>p.1 = q.1 ∧ H q.2.1 = some (.tup (p.1.map kV)) ∧ RelV p.2 q.2.2) kvs xs ∧
      ∃ o es ep,h.get? a = some o ∧ o.ExactDict ∧ o.data = .dict es ep ∧ es.toList = xs.map (entryOfKey (tupleKind (mixKind P w))) ∧ (xs.map (·.1)).Nodup
  | .set S n=>h.SetOf (intKind P w) a S n
  | .ins C dx fs=>H dx = some (.own a) ∧ fs.length ≤ 1000 ∧ dx ≠ a ∧ h.get? a = some (PySem.W.instObj C dx) ∧
      ∃ mA,h.Ns1 dx mA ∧ (∀ f,RelO (fs.lookup f) (mA f)) ∧ PySem.Within mA (fs.map (·.1))
  | .own _=>∃ o,h.get? a = some o
  | .xd fs=>∃ mA,h.Ns1 a mA ∧ ∀ f,RelO (fs.lookup f) (mA f)
  | .rng lo hi=>∃ t u v,h.get? a = some { cls:=.type "range",data:=.fields #[.int lo t,.int hi u,.int 1 v] }
  | .frz o u=>h.get? a = some o ∧ ObjOk H h a u
  | .tbl ps=>h.get? a = some { cls:=.none,data:=.fields ps }
  | .met f x=>h.get? a = some (PySem.W.methodObj (.ref f) (.ref x))
  | .ext φ=>φ h ∧ (∃ o,h.get? a = some o) ∧ ∀ h1 h2 : Heap,φ h1 → (∀ o,h1.get? a = some o → h2.get? a = some o) → φ h2
def HOk (H : Hp) (h : Heap) : Prop:=∀ a o,H a = some o → ObjOk P w H h a o
end
section
variable {P : Program} {w : World} {H H' : Hp} {h h' : Heap} {a : Addr} {o : HO}
theorem ObjOk.lt (x : ObjOk P w H h a o) : a < h.objs.size:=by
  cases o with
  | lst xs=>obtain ⟨_,_,_,_,e⟩:=x; exact Heap.lt_size e
  | tup xs=>obtain ⟨_,_,_,p⟩:=x; exact p.tup.lt
  | dK kvs=>obtain ⟨_,_,_,_,o,_,_,e,_⟩:=x; exact Heap.lt_size e
  | dT kvs=>obtain ⟨_,_,_,_,o,_,_,e,_⟩:=x; exact Heap.lt_size e
  | set S n=>obtain ⟨o,_,_,_,e,_⟩:=x; exact Heap.lt_size e
  | ins C dx fs=>obtain ⟨_,_,_,e,_⟩:=x; exact Heap.lt_size e
  | own y=>obtain ⟨_,e⟩:=x; exact Heap.lt_size e
  | xd fs=>obtain ⟨_,⟨_,_,_,e,_⟩,_⟩:=x; exact Heap.lt_size e
  | rng lo hi=>obtain ⟨_,_,_,e⟩:=x; exact Heap.lt_size e
  | frz ob u=>obtain ⟨e,_⟩:=x; exact Heap.lt_size e
  | tbl ps=>exact Heap.lt_size (show h.get? a = some _ from x)
  | met f y=>exact Heap.lt_size (show h.get? a = some _ from x)
  | ext φ=>obtain ⟨_,⟨_,e⟩,_⟩:=x; exact Heap.lt_size e
theorem Paired.mapP {α β : Type} {F G : α → β → Prop} : ∀ {l₁ : List α} {l₂ : List β},Paired F l₁ l₂ → (∀ a b,F a b → G a b) → Paired G l₁ l₂
  | _,_,.nil,_=>.nil
  | _,_,.cons r t,f=>.cons (f _ _ r) (Paired.mapP t f)
theorem ObjOk.stay (x : ObjOk P w H h a o) (k : ∀ b u,(b = a ∨ H b = some (.own a)) → h.get? b = some u → h'.get? b = some u)
    (ho : ∀ b,H b = some (.own a) → H' b = some (.own a)) (ht : ∀ b xs,H b = some (.tup xs) → H' b = some (.tup xs)) : ObjOk P w H' h' a o:=by
  induction o with
  | lst xs=>obtain ⟨z,its,n,r,e⟩:=x; exact ⟨z,its,n,r,k _ _ (.inl rfl) e⟩
  | tup xs=>obtain ⟨z,its,r,ob,e,c⟩:=x; exact ⟨z,its,r,ob,k _ _ (.inl rfl) e,c⟩
  | dK kvs=>obtain ⟨z,y,vs,r,ob,es,ep,e,c⟩:=x; exact ⟨z,y,vs,r,ob,es,ep,k _ _ (.inl rfl) e,c⟩
  | dT kvs =>
    obtain ⟨z,y,xs,r,ob,es,ep,e,c⟩:=x
    exact ⟨z,y,xs,Paired.mapP r fun p q z=>⟨z.1,ht _ _ z.2.1,z.2.2⟩,ob,es,ep,k _ _ (.inl rfl) e,c⟩
  | set S n=>obtain ⟨ob,es,ep,t,e,c⟩:=x; exact ⟨ob,es,ep,t,k _ _ (.inl rfl) e,c⟩
  | ins C dx fs =>
    obtain ⟨d,z,ne,e,mA,⟨od,es,ep,e2,c⟩,r⟩:=x
    exact ⟨ho _ d,z,ne,k _ _ (.inl rfl) e,mA,⟨od,es,ep,k _ _ (.inr d) e2,c⟩,r⟩
  | own y=>obtain ⟨ob,e⟩:=x; exact ⟨ob,k _ _ (.inl rfl) e⟩
  | xd fs=>obtain ⟨mA,⟨od,es,ep,e,c⟩,r⟩:=x; exact ⟨mA,⟨od,es,ep,k _ _ (.inl rfl) e,c⟩,r⟩
  | rng lo hi=>obtain ⟨t,u,v,e⟩:=x; exact ⟨t,u,v,k _ _ (.inl rfl) e⟩
  | frz ob u ih=>obtain ⟨e,q⟩:=x; exact ⟨k _ _ (.inl rfl) e,ih q⟩
  | tbl ps =>
    have e : h.get? a = some { cls:=.none,data:=.fields ps }:=x
    show h'.get? a = some { cls:=.none,data:=.fields ps }
    exact k a _ (.inl rfl) e
  | met f y =>
    have e : h.get? a = some (PySem.W.methodObj (.ref f) (.ref y)):=x
    show h'.get? a = some (PySem.W.methodObj (.ref f) (.ref y))
    exact k a _ (.inl rfl) e
  | ext φ=>obtain ⟨p,⟨o,e⟩,st⟩:=x; exact ⟨st _ _ p fun o q=>k _ _ (.inl rfl) q,⟨o,k _ _ (.inl rfl) e⟩,st⟩
theorem HOk.lt (x : HOk P w H h) (e : H a = some o) : a < h.objs.size:=(x a o e).lt
theorem HOk.fresh (x : HOk P w H h) (e : h.objs.size ≤ a) : H a = none:=by
  cases q : H a with
  | none=>rfl
  | some u=>exact absurd (Nat.lt_of_lt_of_le (x.lt q) e) (Nat.lt_irrefl _)
theorem HOk.kept (x : HOk P w H h) (k : ∀ b u,h.get? b = some u → h'.get? b = some u) : HOk P w H h':=fun a o e =>
  (x a o e).stay (fun b u _ q=>k b u q) (fun _ q=>q) fun _ _ q=>q
theorem HOk.laid (x : HOk P w H h) (k : ∀ b u,h.get? b = some u → h'.get? b = some u) (hp : h.objs.size ≤ a) (new : ObjOk P w (upd H a o) h' a o) : HOk P w (upd H a o) h':=fun b u e=>by
  have hn:=x.fresh hp
  by_cases hb : b = a
  · subst hb; rw [upd_same] at e; cases e; exact new
  · rw [upd_ne hb] at e
    exact (x b u e).stay (fun c v _ q=>k c v q) (fun c q=>by rw [upd_ne (ne_of_none q hn)]; exact q) fun c xs q=>by rw [upd_ne (ne_of_none q hn)]; exact q
end
def Rd (H : Hp) (a : Addr) (u : HO) : Prop:=H a = some u ∨ ∃ o,H a = some (.frz o u)
theorem Rd.of {H : Hp} {a : Addr} {u : HO} (h : H a = some u) : Rd H a u:=.inl h
theorem Rd.ok {P : Program} {w : World} {H : Hp} {h : Heap} {a : Addr} {u : HO} (r : Rd H a u) (x : HOk P w H h) : ObjOk P w H h a u:=by
  rcases r with r | ⟨o,r⟩
  · exact x a u r
  · obtain ⟨_,q⟩:=x a _ r
    exact q
def Mut : Option HO → Prop
  | some (.lst _)=>True
  | some (.dK _)=>True
  | some (.dT _)=>True
  | some (.set _ _)=>True
  | some (.ins _ _ _)=>True
  | some (.ext _)=>True
  | _=>False
section
variable {P : Program} {w : World} {H : Hp} {h h' : Heap} {x e : Addr} {o' : HO}
theorem HOk.write (ok : HOk P w H h) (mu : Mut (H x)) (he : e = x ∨ H e = some (.own x)) (k : ∀ b u,b ≠ e → h.get? b = some u → h'.get? b = some u) (heo : ∃ u,h'.get? e = some u)
    (new : ObjOk P w (upd H x o') h' x o') : HOk P w (upd H x o') h':=fun b u q=>by
  have nown : ∀ c y,H c = some (.own y) → c ≠ x:=fun c y r z=>by subst z; rw [r] at mu; exact mu
  have ntup : ∀ c xs,H c = some (.tup xs) → c ≠ x:=fun c xs r z=>by subst z; rw [r] at mu; exact mu
  by_cases hb : b = x
  · subst hb; rw [upd_same] at q; cases q; exact new
  · rw [upd_ne hb] at q
    by_cases hbe : b = e
    · have q' : H b = some (.own x):=by
        rcases he with z | z
        · exact absurd (hbe.trans z) hb
        · rw [hbe]; exact z
      rw [q] at q'; cases q'
      obtain ⟨v,hv⟩:=heo
      exact ⟨v,by rw [hbe]; exact hv⟩
    · refine (ok b u q).stay (fun c v hc r=>k c v ?_ r) (fun c r=>by rw [upd_ne (nown c b r)]; exact r) fun c xs r=>by rw [upd_ne (ntup c xs r)]; exact r
      rcases hc with rfl | hc
      · exact hbe
      · rintro rfl
        rcases he with z | z
        · exact nown c b hc z
        · rw [hc] at z; cases z; exact hb rfl
end
structure Un (fs ex : List Addr) (H H' : Hp) (h h' : Heap) : Prop where
  keep : ∀ b o,h.get? b = some o → H b = none → b ∉ fs → b ∉ ex → h'.get? b = some o
  slot : ∀ b o,h.get? b = some o → H b = none → b ∈ fs → b ∉ ex → ∃ sl,h'.get? b = some { o with slots:=sl }
  free : ∀ b o,h.get? b = some o → H b = none → b ∉ ex → H' b = none
  there : ∀ b o,h.get? b = some o → b ∉ ex → ∃ o',h'.get? b = some o'
  tups : ∀ b xs,H b = some (.tup xs) → H' b = some (.tup xs)
  frzs : ∀ b o u,H b = some (.frz o u) → H' b = some (.frz o u)
  tbls : ∀ b ps,H b = some (.tbl ps) → ∃ more,H' b = some (.tbl (ps ++ more))
section
variable {fs fs' ex ex' : List Addr} {H H1 H2 : Hp} {h h1 h2 h' : Heap} {a x e : Addr} {o : HO}
theorem Un.any (u : Un fs ex H H1 h h1) {b : Addr} {ob : Obj} (q : h.get? b = some ob) (n : H b = none) (hx : b ∉ ex) : ∃ sl,h1.get? b = some { ob with slots:=sl }:=by
  by_cases hb : b ∈ fs
  · exact u.slot b ob q n hb hx
  · exact ⟨ob.slots,u.keep b ob q n hb hx⟩
theorem Un.trans (a : Un fs ex H H1 h h1) (b : Un fs ex H1 H2 h1 h2) : Un fs ex H H2 h h2 where
  keep:=fun c ob q n hc hx=>b.keep c ob (a.keep c ob q n hc hx) (a.free c ob q n hx) hc hx
  slot:=fun c ob q n hc hx=>by
    obtain ⟨sl,e1⟩:=a.slot c ob q n hc hx
    obtain ⟨sl',e2⟩:=b.slot c _ e1 (a.free c ob q n hx) hc hx
    exact ⟨sl',e2⟩
  free:=fun c ob q n hx=>by
    obtain ⟨o',e1⟩:=a.there c ob q hx
    exact b.free c o' e1 (a.free c ob q n hx) hx
  there:=fun c ob q hx=>by
    obtain ⟨o',e1⟩:=a.there c ob q hx
    exact b.there c o' e1 hx
  tups:=fun c xs q=>b.tups c xs (a.tups c xs q)
  frzs:=fun c ob xs q=>b.frzs c ob xs (a.frzs c ob xs q)
  tbls:=fun c ps q=>by
    obtain ⟨m1,e1⟩:=a.tbls c ps q
    obtain ⟨m2,e2⟩:=b.tbls c _ e1
    exact ⟨m1 ++ m2,by rw [e2,Array.append_assoc]⟩
theorem Un.kept (k : ∀ b u,h.get? b = some u → h'.get? b = some u) : Un fs ex H H h h' :=
  ⟨fun b ob q _ _ _=>k b ob q,fun b ob q _ _ _=>⟨ob.slots,k b ob q⟩,fun _ _ _ n _=>n,fun b ob q _=>⟨ob,k b ob q⟩,fun _ _ q=>q,fun _ _ _ q=>q,fun _ ps q=>⟨#[],by rw [q]; simp⟩⟩
theorem Un.refl : Un fs ex H H h h:=Un.kept fun _ _ q=>q
theorem Un.laid (k : ∀ b u,h.get? b = some u → h'.get? b = some u) (hp : h.objs.size ≤ a) (hn : H a = none) : Un fs ex H (upd H a o) h h' where
  keep:=fun b u q _ _ _=>k b u q
  slot:=fun b u q _ _ _=>⟨u.slots,k b u q⟩
  free:=fun b u q n _=>by rw [upd_ne (Nat.ne_of_lt (Nat.lt_of_lt_of_le (Heap.lt_size q) hp))]; exact n
  there:=fun b u q _=>⟨u,k b u q⟩
  tups:=fun b xs q=>by rw [upd_ne (ne_of_none q hn)]; exact q
  frzs:=fun b u xs q=>by rw [upd_ne (ne_of_none q hn)]; exact q
  tbls:=fun b ps q=>⟨#[],by rw [upd_ne (ne_of_none q hn),q]; simp⟩
theorem Un.write (mu : Mut (H x)) (he : e = x ∨ H e = some (.own x)) (k : ∀ b u,b ≠ e → h.get? b = some u → h'.get? b = some u) (heo : ∃ u,h'.get? e = some u) : Un fs ex H (upd H x o) h h':=by
  have hx : ∀ b,H b = none → b ≠ x:=fun b n z=>by subst z; rw [n] at mu; exact mu
  have hb : ∀ b,H b = none → b ≠ e:=fun b n z=>by
    subst z
    rcases he with r | r
    · exact hx b n r
    · rw [n] at r; cases r
  have hm : ∀ b u,H b = some u → ¬ Mut (some u) → b ≠ x:=fun b u q nm z=>by subst z; rw [q] at mu; exact nm mu
  refine ⟨fun b u q n _ _=>k b u (hb b n) q,fun b u q n _ _=>⟨u.slots,k b u (hb b n) q⟩,fun b u q n _=>by rw [upd_ne (hx b n)]; exact n,fun b u q _=>?_,
    fun b xs q=>by rw [upd_ne (hm b _ q fun z=>z)]; exact q,fun b u xs q=>by rw [upd_ne (hm b _ q fun z=>z)]; exact q,fun b ps q=>⟨#[],by rw [upd_ne (hm b _ q fun z=>z),q]; simp⟩⟩
  by_cases hbe : b = e
  · subst hbe; exact heo
  · exact ⟨u,k b u hbe q⟩
theorem Un.mono (u : Un fs ex H H1 h h1) (hs : ∀ b ∈ fs,b ∈ fs') (hx : ∀ b ∈ ex,b ∈ ex') : Un fs' ex' H H1 h h1 :=
  ⟨fun b ob q n hb he=>u.keep b ob q n (fun z=>hb (hs b z)) fun z=>he (hx b z),fun _ _ q n _ he=>u.any q n fun z=>he (hx _ z),fun b ob q n he=>u.free b ob q n fun z=>he (hx b z),fun b ob q he=>u.there b ob q fun z=>he (hx b z),u.tups,u.frzs,u.tbls⟩
end
def trk (h : Heap) (H : Hp) : List Addr:=(List.range h.objs.size).filter fun a=>(H a).isSome
def hidT (h : Heap) (H : Hp) : Heap:=PySem.W.hideAll h (trk h H)
theorem hidT_size (h : Heap) (H : Hp) : (hidT h H).objs.size = h.objs.size:=PySem.W.hideAll_size _ _
theorem hidT_get {h : Heap} {H : Hp} {b : Addr} {o : Obj} (e : h.get? b = some o) (n : H b = none) : (hidT h H).get? b = some o :=
  PySem.W.hideAll_get _ e fun hm=>by
    have q : (H b).isSome = true:=(List.mem_filter.mp hm).2
    rw [n] at q; simp at q
theorem of_hidT {h : Heap} {H : Hp} {b : Addr} {o : Obj} (e : (hidT h H).get? b = some o) : h.get? b = some o ∧ H b = none:=by
  have e' : h.get? b = some o:=PySem.W.of_hideAll (trk h H) e
  refine ⟨e',?_⟩
  cases q : H b with
  | none=>rfl
  | some x =>
    have hm : b ∈ trk h H:=List.mem_filter.mpr ⟨List.mem_range.mpr (Heap.lt_size e'),by simp [q]⟩
    have z : (hidT h H).get? b = none:=PySem.W.hideAll_none (trk h H) hm
    rw [z] at e; cases e
def allNews (g h : Heap) (L : Addr) : List (Addr × Obj):=(List.range h.objs.size).filterMap fun a=>if a = L ∨ (g.get? a).isSome = true then none else (h.get? a).map fun o=>(a,o)
def rest (g h : Heap) (L d : Addr) : List (Addr × Obj):=(allNews g h L).filter fun p=>decide (p.1 ≠ d)
end L2
namespace L2
open PySem PySem.Spec PyProof.Rows
structure Mod (K : PySem.W.Frag) (mg : Str → Option Value) (base : Heap) : Prop where
  kin : K.In base
  glob : base.Ns mainGlobals mg
  blt : ∃ mb,base.Ns builtinsNs mb ∧ ∀ x : Str,x ≠ "__name__" → mb x = bootBuiltins x
  nolimit : base.NoLimit
structure Cx where
  prog : Program
  w : World
  K : PySem.W.Frag
  mg : Str → Option Value
  base : Heap
  A : Around
  N : List Str
  s₀ : Shared
  H₀ : Hp
  env : Env
  outer : List Env
  stack : List Env
  ex : List Addr
  fn : Str → Bool
  calm : Bool
  pn : List (Addr × Obj)
  xe : Value → Shared → Prop
def frs (l : List Env) : List Addr:=l.filterMap (·.frame)
abbrev Cx.fs (X : Cx) : List Addr:=frs X.outer
def Vis (sc : Scope) (x : Str) : Prop:=sc.names.lookup x = some .local ∨ sc.names.lookup x = some .cell ∨ sc.names.lookup x = some .free
def Loc (sc : Scope) (x : Str) : Prop:=sc.names.lookup x = some .local ∨ sc.names.lookup x = some .cell
def Look (env : Env) (h : Heap) (m : Str → Option Value) (x : Str) (u : Value) : Prop :=
  (env.kindOf x = some .local ∧ m x = some u) ∨ ((env.kindOf x = some .cell ∨ env.kindOf x = some .free) ∧ ∃ c,env.cells.lookup x = some c ∧ h.IsCell c (some u))
structure Cx.Ok (X : Cx) : Prop where
  mod : Mod X.K X.mg X.base
  kind : X.env.scope.kind = .function
  glob : X.env.globals = mainGlobals
  blt : X.env.builtins = builtinsNs
  above : X.s₀.heap.objs.size ≤ X.env.locals
  inj : ∀ x y c,X.env.cells.lookup x = some c → X.env.cells.lookup y = some c → x = y
  has : ∀ x,(X.env.kindOf x = some .cell ∨ X.env.kindOf x = some .free) → ∃ c,X.env.cells.lookup x = some c
  cab : ∀ x c,X.fn x = true → X.env.cells.lookup x = some c → X.s₀.heap.objs.size ≤ c
  hd : X.calm = true → X.A.handled = none
  frames : X.A.frames = some X.stack
  stk : X.stack = X.outer ∨ (X.stack = X.env :: X.outer ∧ X.env.frame = some X.env.locals)
  exf : ∀ b ∈ X.ex,b ≠ X.env.locals ∧ ∀ x c,X.env.cells.lookup x = some c → c ≠ b
  bs : ∀ b o,X.base.get? b = some o → X.s₀.heap.get? b = some o ∧ X.H₀ b = none
  bsz : X.base.objs.size ≤ X.s₀.heap.objs.size
  noex : ∀ b o,X.base.get? b = some o → b ∉ X.ex
  exfs : ∀ b ∈ X.ex,b ∉ X.fs
  funs : X.s₀.heap.FunFrames X.base X.outer
  frf : ∀ b ∈ X.fs,X.H₀ b = none
structure Inv (X : Cx) (pins : List (Addr × Obj)) (σ : List (Option V)) (H : Hp) (s : Shared) : Prop where
  ok : X.Ok
  os : s.os = X.s₀.os
  bare : AllBare s.gens
  base : Un X.fs X.ex X.H₀ H X.s₀.heap s.heap
  loc : ∃ m,s.heap.Ns X.env.locals m ∧ ∀ (i : Nat) (x : Str) (v : V),X.N[i]? = some x → σ[i]? = some (some v) → Vis X.env.scope x → ∃ u,RelV v u ∧ Look X.env s.heap m x u
  cell : ∀ x c,X.env.cells.lookup x = some c → ∃ v,s.heap.IsCell c v
  free : H X.env.locals = none
  freeC : ∀ x c,X.env.cells.lookup x = some c → H c = none
  pin : ∀ p ∈ X.pn ++ pins,s.heap.get? p.1 = some p.2 ∧ H p.1 = none ∧ p.1 ≠ X.env.locals ∧ p.1 ∉ X.fs ∧ ∀ v,p.2.data ≠ .cell v
  hok : HOk X.prog X.w H s.heap
  len : σ.length = X.N.length
section
variable {X : Cx} {pins : List (Addr × Obj)} {σ : List (Option V)} {H H' : Hp} {s : Shared} {h' : Heap}
theorem Cx.Ok.nofr (ok : X.Ok) {b : Addr} {o : Obj} (e : X.base.get? b = some o) : b ∉ X.fs:=fun hb=>by
  have:=(ok.funs.mem hb).1
  rw [e] at this; cases this
theorem Inv.bs (I : Inv X pins σ H s) : ∀ b o,X.base.get? b = some o → s.heap.get? b = some o ∧ H b = none:=fun b o e =>
  ⟨I.base.keep b o (I.ok.bs b o e).1 (I.ok.bs b o e).2 (I.ok.nofr e) (I.ok.noex b o e),I.base.free b o (I.ok.bs b o e).1 (I.ok.bs b o e).2 (I.ok.noex b o e)⟩
theorem Inv.bk (I : Inv X pins σ H s) : ∀ b o,X.base.get? b = some o → s.heap.get? b = some o:=fun b o e=>(I.bs b o e).1
theorem Inv.mod (I : Inv X pins σ H s) : Mod X.K X.mg X.base:=I.ok.mod
theorem Inv.kIn (I : Inv X pins σ H s) : X.K.In s.heap:=I.ok.mod.kin.keeps I.bk
theorem Inv.nolimit (I : Inv X pins σ H s) : s.heap.NoLimit:=I.ok.mod.nolimit.keeps I.bk
theorem Inv.lt (I : Inv X pins σ H s) : X.env.locals < s.heap.objs.size:=let ⟨_,hn,_⟩:=I.loc; hn.lt
theorem Inv.sz (I : Inv X pins σ H s) : X.s₀.heap.objs.size ≤ s.heap.objs.size:=Nat.le_trans I.ok.above (Nat.le_of_lt I.lt)
theorem Inv.nofs (I : Inv X pins σ H s) {a : Addr} (h : s.heap.objs.size ≤ a) : a ∉ X.fs:=fun hb=>by
  obtain ⟨_,o,ho,_⟩:=I.ok.funs.mem hb
  exact absurd (Nat.lt_of_lt_of_le (Heap.lt_size ho) (Nat.le_trans I.sz h)) (Nat.lt_irrefl _)
theorem Inv.cne (I : Inv X pins σ H s) : ∀ x c,X.env.cells.lookup x = some c → c ≠ X.env.locals:=fun x c e z=>by
  obtain ⟨v,o,ho,hd⟩:=I.cell x c e
  obtain ⟨m,⟨o',es,ep,ho',hd',_⟩,_⟩:=I.loc
  rw [z,ho'] at ho; cases ho; rw [hd'] at hd; cases hd
theorem Inv.funs (I : Inv X pins σ H s) : s.heap.FunFrames X.base X.outer:=by
  have all : ∀ (l : List Env),(∀ b ∈ frs l,b ∈ X.fs) → X.s₀.heap.FunFrames X.base l → s.heap.FunFrames X.base l:=by
    intro l
    induction l with
    | nil=>intro _ _; trivial
    | cons env r ih =>
      intro hs hl
      obtain ⟨hk,⟨L,o,hf,hn,ho,hd⟩,hr⟩:=hl
      have hL : L ∈ X.fs:=hs L (by unfold frs; rw [List.filterMap_cons,hf]; exact List.mem_cons_self)
      obtain ⟨sl,e⟩:=I.base.slot L o ho (I.ok.frf L hL) hL fun z=>I.ok.exfs L z hL
      exact ⟨hk,⟨L,_,hf,hn,e,hd⟩,ih (fun b hb=>hs b (by unfold frs; rw [List.filterMap_cons,hf]; exact List.mem_cons_of_mem _ hb)) hr⟩
  exact all X.outer (fun _ hb=>hb) I.ok.funs
theorem Inv.stack (I : Inv X pins σ H s) : s.heap.FunFrames X.base X.stack:=by
  rcases I.ok.stk with e | ⟨e,hf⟩
  · rw [e]; exact I.funs
  · rw [e]
    obtain ⟨m,hn,_⟩:=I.loc
    refine .cons (by rw [I.ok.kind]; decide) hf hn ?_ I.funs
    exact Heap.get?_none_of_le (Nat.le_trans I.ok.bsz I.ok.above)
theorem Inv.stkSub (I : Inv X pins σ H s) : ∀ b ∈ frs X.stack,b ∈ X.env.locals :: X.fs:=fun b hb=>by
  rcases I.ok.stk with e | ⟨e,hf⟩
  · rw [e] at hb; exact List.mem_cons_of_mem _ hb
  · rw [e] at hb
    unfold frs at hb
    rw [List.filterMap_cons,hf] at hb
    exact hb
theorem Inv.stkFree (I : Inv X pins σ H s) : ∀ b ∈ frs X.stack,H b = none:=fun b hb=>by
  rcases List.mem_cons.mp (I.stkSub b hb) with e | hb
  · rw [e]; exact I.free
  · obtain ⟨_,o,ho,_⟩:=I.ok.funs.mem hb
    exact I.base.free b o ho (I.ok.frf b hb) fun z=>I.ok.exfs b z hb
theorem Inv.step {g' : Array GenState} {t' : Nat} {d' : Drawn} {ch : List Addr} (I : Inv X pins σ H s)
    (hch : ∀ b ∈ ch,(b ∈ X.ex ∨ X.s₀.heap.objs.size ≤ b) ∧ b ≠ X.env.locals ∧ (∀ x c,X.env.cells.lookup x = some c → c ≠ b) ∧ ∀ p ∈ X.pn ++ pins,p.1 ≠ b)
    (keep : ∀ b o,b ≠ X.env.locals → b ∉ X.fs → b ∉ ch → s.heap.get? b = some o → H b = none → h'.get? b = some o)
    (slot : ∀ b o,b ≠ X.env.locals → b ∈ X.fs → b ∉ ch → s.heap.get? b = some o → H b = none → ∃ sl,h'.get? b = some { o with slots:=sl }) (free : ∀ b o,b ∉ ch → s.heap.get? b = some o → H b = none → H' b = none)
    (there : ∀ b o,b ∉ ch → s.heap.get? b = some o → ∃ o',h'.get? b = some o')
    (tups : ∀ b xs,H b = some (.tup xs) → H' b = some (.tup xs)) (frzs : ∀ b o u,H b = some (.frz o u) → H' b = some (.frz o u)) (tbls : ∀ b ps,H b = some (.tbl ps) → ∃ more,H' b = some (.tbl (ps ++ more)))
    (ns : ∀ m,s.heap.Ns X.env.locals m → h'.Ns X.env.locals m) (hok : HOk X.prog X.w H' h') (hg : AllBare g') :
    Inv X pins σ H' { s with heap:=h',gens:=g',drawn:=d',toks:=t' }:=by
  have neL : ∀ b o,X.s₀.heap.get? b = some o → b ≠ X.env.locals:=fun b o e=>Nat.ne_of_lt (Nat.lt_of_lt_of_le (Heap.lt_size e) I.ok.above)
  have neC : ∀ b o,X.s₀.heap.get? b = some o → b ∉ X.ex → b ∉ ch:=fun b o e hx hb=>by
    rcases (hch b hb).1 with z | z
    · exact hx z
    · exact absurd (Nat.lt_of_lt_of_le (Heap.lt_size e) z) (Nat.lt_irrefl _)
  have cellK : ∀ x c,X.env.cells.lookup x = some c → ∀ v,s.heap.IsCell c v → h'.IsCell c v:=fun x c e v ⟨o,ho,hd⟩=>by
    have nch : c ∉ ch:=fun z=>(hch c z).2.2.1 x c e rfl
    by_cases hc : c ∈ X.fs
    · obtain ⟨sl,q⟩:=slot c o (I.cne x c e) hc nch ho (I.freeC x c e)
      exact ⟨_,q,hd⟩
    · exact ⟨o,keep c o (I.cne x c e) hc nch ho (I.freeC x c e),hd⟩
  refine ⟨I.ok,I.os,hg,⟨fun b o e n hb hx=>?_,fun b o e n hb hx=>?_,fun b o e n hx=>?_,fun b o e hx=>?_,fun b xs e=>tups b xs (I.base.tups b xs e),fun b o xs e=>frzs b o xs (I.base.frzs b o xs e),fun b ps e=>?_⟩,?_,fun x c e=>?_,?_,fun x c e=>?_,fun p hp=>?_,hok,I.len⟩
  · exact keep b o (neL b o e) hb (neC b o e hx) (I.base.keep b o e n hb hx) (I.base.free b o e n hx)
  · obtain ⟨sl,e1⟩:=I.base.slot b o e n hb hx
    obtain ⟨sl',e2⟩:=slot b _ (neL b o e) hb (neC b o e hx) e1 (I.base.free b o e n hx)
    exact ⟨sl',e2⟩
  · obtain ⟨o',e1⟩:=I.base.there b o e hx
    exact free b o' (neC b o e hx) e1 (I.base.free b o e n hx)
  · obtain ⟨o',e1⟩:=I.base.there b o e hx
    exact there b o' (neC b o e hx) e1
  · obtain ⟨m1,e1⟩:=I.base.tbls b ps e
    obtain ⟨m2,e2⟩:=tbls b _ e1
    exact ⟨m1 ++ m2,by rw [e2,Array.append_assoc]⟩
  · obtain ⟨m,hn,hl⟩:=I.loc
    refine ⟨m,ns m hn,fun i x v e1 e2 e3=>?_⟩
    obtain ⟨u,r,l⟩:=hl i x v e1 e2 e3
    refine ⟨u,r,?_⟩
    rcases l with l | ⟨k,c,e,z⟩
    · exact .inl l
    · exact .inr ⟨k,c,e,cellK x c e _ z⟩
  · obtain ⟨v,z⟩:=I.cell x c e
    exact ⟨v,cellK x c e v z⟩
  · obtain ⟨m,⟨o,_,_,ho,_⟩,_⟩:=I.loc
    exact free _ o (fun z=>(hch _ z).2.1 rfl) ho I.free
  · obtain ⟨v,o,ho,hd⟩:=I.cell x c e
    exact free c o (fun z=>(hch c z).2.2.1 x c e rfl) ho (I.freeC x c e)
  · obtain ⟨e,n,ne,nf,d⟩:=I.pin p hp
    have nch : p.1 ∉ ch:=fun z=>(hch p.1 z).2.2.2 p hp rfl
    exact ⟨keep p.1 p.2 ne nf nch e n,free p.1 p.2 nch e n,ne,nf,d⟩
theorem Inv.un {t' : Nat} (I : Inv X pins σ H s) (u : Un X.fs [] H H' s.heap h') (hok : HOk X.prog X.w H' h') : Inv X pins σ H' { s with heap:=h',toks:=t' }:=by
  obtain ⟨m,⟨o,es,ep,ho,r⟩,_⟩:=id I.loc
  obtain ⟨sl,hL⟩:=u.any ho I.free (by simp)
  exact I.step (g':=s.gens) (d':=s.drawn) (ch:=[]) (fun _ z=>nomatch z) (fun b o _ hb _ e n=>u.keep b o e n hb (by simp)) (fun b o _ hb _ e n=>u.slot b o e n hb (by simp)) (fun b o _ e n=>u.free b o e n (by simp)) (fun b o _ e=>u.there b o e (by simp)) u.tups u.frzs u.tbls (fun m' hm=>by
    obtain ⟨o',es',ep',ho',r'⟩:=hm
    rw [ho] at ho'; cases ho'
    exact ⟨_,es',ep',hL,r'⟩) hok I.bare
theorem Inv.call {g' : Array GenState} {t' : Nat} {d' : Drawn} {ch : List Addr} (I : Inv X pins σ H s) (u : Un (frs X.stack) ch H H' s.heap h') (hok : HOk X.prog X.w H' h') (hg : AllBare g')
    (hch : ∀ b ∈ ch,(b ∈ X.ex ∨ X.s₀.heap.objs.size ≤ b) ∧ b ≠ X.env.locals ∧ (∀ x c,X.env.cells.lookup x = some c → c ≠ b) ∧ ∀ p ∈ X.pn ++ pins,p.1 ≠ b) :
    Inv X pins σ H' { s with heap:=h',gens:=g',drawn:=d',toks:=t' }:=by
  obtain ⟨m,⟨o,es,ep,ho,r⟩,_⟩:=id I.loc
  obtain ⟨sl,hL⟩:=u.any ho I.free fun z=>(hch _ z).2.1 rfl
  exact I.step (ch:=ch) hch (fun b o hL hb hc e n=>u.keep b o e n (fun z=>(List.mem_cons.mp (I.stkSub b z)).elim hL hb) hc) (fun b o _ _ hc e n=>u.any e n hc) (fun b o hc e n=>u.free b o e n hc) (fun b o hc e=>u.there b o e hc) u.tups u.frzs u.tbls (fun m' hm=>by
    obtain ⟨o',es',ep',ho',r'⟩:=hm
    rw [ho] at ho'; cases ho'
    exact ⟨_,es',ep',hL,r'⟩) hok hg
theorem Inv.turned {t' : Nat} {it : Addr} (I : Inv X pins σ H s) (k : ∀ b o,b ≠ it → s.heap.get? b = some o → h'.get? b = some o) (hn : H it = none) (hL : it ≠ X.env.locals)
    (h1 : it ∈ X.ex ∨ X.s₀.heap.objs.size ≤ it) (h2 : ∀ x c,X.env.cells.lookup x = some c → c ≠ it) (h3 : ∀ p ∈ X.pn ++ pins,p.1 ≠ it) : Inv X pins σ H { s with heap:=h',toks:=t' }:=by
  have nit : ∀ b u,H b = some u → b ≠ it:=fun b u e z=>by rw [z,hn] at e; cases e
  refine I.step (g':=s.gens) (d':=s.drawn) (ch:=[it]) (fun b hb=>?_) (fun b o _ _ hc e _=>k b o (fun z=>hc (by simp [z])) e) (fun b o _ _ hc e _=>⟨o.slots,k b o (fun z=>hc (by simp [z])) e⟩) (fun _ _ _ _ n=>n)
    (fun b o hc e=>⟨o,k b o (fun z=>hc (by simp [z])) e⟩) (fun _ _ e=>e) (fun _ _ _ e=>e) (fun b ps e=>⟨#[],by rw [e]; simp⟩) (fun m hm=>?_) (fun b u e=>?_) I.bare
  · have e : b = it:=by simpa using hb
    subst e
    exact ⟨h1,hL,h2,h3⟩
  · obtain ⟨o,es,ep,ho,r⟩:=hm
    exact ⟨o,es,ep,k _ o (Ne.symm hL) ho,r⟩
  · refine (I.hok b u e).stay (fun c v hc q=>k c v ?_ q) (fun _ q=>q) fun _ _ q=>q
    rcases hc with z | z
    · rw [z]; exact nit b u e
    · exact nit c _ z
theorem Inv.tok (I : Inv X pins σ H s) (t : Nat) : Inv X pins σ H { s with toks:=t }:=I.un (h':=s.heap) (t':=t) Un.refl I.hok
theorem Inv.kept {t' : Nat} (I : Inv X pins σ H s) (k : ∀ b u,s.heap.get? b = some u → h'.get? b = some u) : Inv X pins σ H { s with heap:=h',toks:=t' }:=I.un (Un.kept k) (I.hok.kept k)
theorem Inv.laid {a : Addr} {o : HO} {t' : Nat} (I : Inv X pins σ H s) (k : ∀ b u,s.heap.get? b = some u → h'.get? b = some u) (hp : s.heap.objs.size ≤ a) (new : ObjOk X.prog X.w (upd H a o) h' a o) :
    Inv X pins σ (upd H a o) { s with heap:=h',toks:=t' }:=I.un (Un.laid k hp (I.hok.fresh hp)) (I.hok.laid k hp new)
theorem Inv.write {x e : Addr} {o : HO} {t' : Nat} (I : Inv X pins σ H s) (mu : Mut (H x)) (he : e = x ∨ H e = some (.own x)) (k : ∀ b u,b ≠ e → s.heap.get? b = some u → h'.get? b = some u) (heo : ∃ u,h'.get? e = some u)
    (new : ObjOk X.prog X.w (upd H x o) h' x o) : Inv X pins σ (upd H x o) { s with heap:=h',toks:=t' }:=I.un (Un.write mu he k heo) (I.hok.write mu he k heo new)
theorem Inv.pins_of {pins' : List (Addr × Obj)} (I : Inv X pins σ H s) (h : ∀ p ∈ pins',s.heap.get? p.1 = some p.2 ∧ H p.1 = none ∧ p.1 ≠ X.env.locals ∧ p.1 ∉ X.fs ∧ ∀ v,p.2.data ≠ .cell v) : Inv X pins' σ H s :=
  ⟨I.ok,I.os,I.bare,I.base,I.loc,I.cell,I.free,I.freeC,fun p hp=>(List.mem_append.mp hp).elim (fun z=>I.pin p (List.mem_append_left _ z)) (h p),I.hok,I.len⟩
theorem nodup_ix {N : List Str} (hN : N.Nodup) {i j : Nat} {x : Str} (a : N[i]? = some x) (b : N[j]? = some x) : i = j:=by
  obtain ⟨h1,e1⟩:=List.getElem?_eq_some_iff.mp a
  obtain ⟨h2,e2⟩:=List.getElem?_eq_some_iff.mp b
  exact (List.getElem_inj hN).mp (e1.trans e2.symm)
theorem store_ok2 {M : Model} {A : Around} {E : Value → Shared → Prop} {i : Nat} {x : Str} {v : V} {u : Value} {Q : Unit → Shared → Prop} (I : Inv X pins σ H s) (hN : X.N.Nodup) (hi : X.N[i]? = some x) (hx : Loc X.env.scope x) (r : RelV v u)
    (h : ∀ s',Inv X pins (σ.set i (some v)) H s' → (∃ a,Heap.SameBut a s.heap s'.heap ∧ (a = X.env.locals ∨ X.env.cells.lookup x = some a)) → Q () s') (hf : X.fn x = true ∨ X.env.scope.names.lookup x = some .local:=by first | exact .inl rfl | exact .inr rfl | assumption) : wpAny M A (storeName X.env x u) Q E s:=by
  obtain ⟨m,hn,hl⟩:=id I.loc
  have hcls : (X.env.scope.kind == .class || (X.env.scope.kind == .module && X.env.locals != X.env.globals)) = false:=by rw [I.ok.kind]; rfl
  have hiσ : i < σ.length:=by rw [I.len]; exact (List.getElem?_eq_some_iff.mp hi).1
  have cne:=I.cne
  have tracked : ∀ {a : Addr} {h' : Heap},(∃ o,s.heap.get? a = some o ∧ H a = none) → Heap.SameBut a s.heap h' → HOk X.prog X.w H h':=fun {a h'} ha hs b ob e=>by
    obtain ⟨_,_,hfree⟩:=ha
    refine (I.hok b ob e).stay (fun c w' hc q=>(hs.2 c ?_).trans q) (fun _ q=>q) fun _ _ q=>q
    rintro rfl
    rcases hc with rfl | hc
    · rw [hfree] at e; cases e
    · rw [hfree] at hc; cases hc
  rcases hx with hk | hk
  · refine wpAny_storeName_local hk hn (fun h' hn' hs=>?_) hcls
    obtain ⟨oL,_,_,hoL,_⟩:=id hn
    refine h _ ⟨I.ok,I.os,I.bare,⟨fun b o e n hb hx=>?_,fun b o e n hb hx=>?_,I.base.free,fun b o e hx=>?_,I.base.tups,I.base.frzs,I.base.tbls⟩,⟨_,hn',fun j y v' e1 e2 e3=>?_⟩,fun y c e=>?_,I.free,I.freeC,fun p hp=>?_,tracked ⟨oL,hoL,I.free⟩ hs,by simpa using I.len⟩ ⟨_,hs,.inl rfl⟩
    · exact (hs.2 b (Nat.ne_of_lt (Nat.lt_of_lt_of_le (Heap.lt_size e) I.ok.above))).trans (I.base.keep b o e n hb hx)
    · obtain ⟨sl,e1⟩:=I.base.slot b o e n hb hx
      exact ⟨sl,(hs.2 b (Nat.ne_of_lt (Nat.lt_of_lt_of_le (Heap.lt_size e) I.ok.above))).trans e1⟩
    · obtain ⟨o',e1⟩:=I.base.there b o e hx
      exact ⟨o',(hs.2 b (Nat.ne_of_lt (Nat.lt_of_lt_of_le (Heap.lt_size e) I.ok.above))).trans e1⟩
    · by_cases hj : j = i
      · subst hj
        rw [hi] at e1; cases e1
        rw [List.getElem?_set_self hiσ] at e2
        cases e2
        exact ⟨u,r,.inl ⟨hk,by simp⟩⟩
      · rw [List.getElem?_set_ne (Ne.symm hj)] at e2
        obtain ⟨u',r',q⟩:=hl j y v' e1 e2 e3
        refine ⟨u',r',?_⟩
        rcases q with ⟨k,e⟩ | ⟨k,c,e,z⟩
        · refine .inl ⟨k,?_⟩
          have : y ≠ x:=fun e=>hj (nodup_ix hN e1 (e ▸ hi))
          simp [this,e]
        · exact .inr ⟨k,c,e,z.sameBut hs (cne y c e)⟩
    · obtain ⟨w',z⟩:=I.cell y c e
      exact ⟨w',z.sameBut hs (cne y c e)⟩
    · obtain ⟨e,n,ne,nf,d⟩:=I.pin p hp
      exact ⟨(hs.2 p.1 ne).trans e,n,ne,nf,d⟩
  · have hfn : X.fn x = true:=by
      rcases hf with z | z
      · exact z
      · rw [z] at hk; cases hk
    obtain ⟨c,hc⟩:=I.ok.has x (.inl hk)
    obtain ⟨w',z⟩:=I.cell x c hc
    refine wpAny_storeName_cell I.ok.kind hk hc z (fun h' hc' hs=>?_)
    obtain ⟨oc,hoc,hocd⟩:=id z
    refine h { s with heap:=h' } ⟨I.ok,I.os,I.bare,⟨fun b o e n hb hx=>?_,fun b o e n hb hx=>?_,I.base.free,fun b o e hx=>?_,I.base.tups,I.base.frzs,I.base.tbls⟩,⟨m,hn.sameBut hs (Ne.symm (cne x c hc)),fun j y v' e1 e2 e3=>?_⟩,fun y c' e=>?_,I.free,I.freeC,fun p hp=>?_,tracked ⟨oc,hoc,I.freeC x c hc⟩ hs,by simpa using I.len⟩ ⟨c,hs,.inr hc⟩
    · exact (hs.2 b (Nat.ne_of_lt (Nat.lt_of_lt_of_le (Heap.lt_size e) (I.ok.cab x c hfn hc)))).trans (I.base.keep b o e n hb hx)
    · obtain ⟨sl,e1⟩:=I.base.slot b o e n hb hx
      exact ⟨sl,(hs.2 b (Nat.ne_of_lt (Nat.lt_of_lt_of_le (Heap.lt_size e) (I.ok.cab x c hfn hc)))).trans e1⟩
    · obtain ⟨o',e1⟩:=I.base.there b o e hx
      exact ⟨o',(hs.2 b (Nat.ne_of_lt (Nat.lt_of_lt_of_le (Heap.lt_size e) (I.ok.cab x c hfn hc)))).trans e1⟩
    · by_cases hj : j = i
      · subst hj
        rw [hi] at e1; cases e1
        rw [List.getElem?_set_self hiσ] at e2
        cases e2
        exact ⟨u,r,.inr ⟨.inl hk,c,hc,hc'⟩⟩
      · rw [List.getElem?_set_ne (Ne.symm hj)] at e2
        obtain ⟨u',r',q⟩:=hl j y v' e1 e2 e3
        refine ⟨u',r',?_⟩
        rcases q with q | ⟨k,c',e,z'⟩
        · exact .inl q
        · refine .inr ⟨k,c',e,z'.sameBut hs ?_⟩
          rintro rfl
          exact hj (nodup_ix hN e1 (I.ok.inj _ _ _ e hc ▸ hi))
    · by_cases hcc : c' = c
      · subst hcc; exact ⟨_,hc'⟩
      · obtain ⟨w2,z2⟩:=I.cell y c' e
        exact ⟨w2,z2.sameBut hs hcc⟩
    · obtain ⟨e,n,ne,nf,d⟩:=I.pin p hp
      refine ⟨(hs.2 p.1 ?_).trans e,n,ne,nf,d⟩
      intro q
      rw [q,hoc] at e
      have q' : oc = p.2:=Option.some.inj e
      exact d w' (by rw [← q']; exact hocd)
theorem store_ok {M : Model} {A : Around} {E : Value → Shared → Prop} {i : Nat} {x : Str} {v : V} {u : Value} {Q : Unit → Shared → Prop} (I : Inv X pins σ H s) (hN : X.N.Nodup) (hi : X.N[i]? = some x) (hx : Loc X.env.scope x) (r : RelV v u)
    (h : ∀ s',Inv X pins (σ.set i (some v)) H s' → Q () s') (hf : X.fn x = true ∨ X.env.scope.names.lookup x = some .local:=by first | exact .inl rfl | exact .inr rfl | assumption) : wpAny M A (storeName X.env x u) Q E s :=
  store_ok2 I hN hi hx r (fun s' I' _=>h s' I') hf
theorem Inv.call' {s' : Shared} {ch : List Addr} (I : Inv X pins σ H s) (ho : s'.os = s.os) (u : Un (frs X.stack) ch H H' s.heap s'.heap) (hok : HOk X.prog X.w H' s'.heap) (hg : AllBare s'.gens)
    (hch : ∀ b ∈ ch,(b ∈ X.ex ∨ X.s₀.heap.objs.size ≤ b) ∧ b ≠ X.env.locals ∧ (∀ x c,X.env.cells.lookup x = some c → c ≠ b) ∧ ∀ p ∈ X.pn ++ pins,p.1 ≠ b) : Inv X pins σ H' s':=by
  obtain ⟨h',g',d',t',o'⟩:=s'
  have e : o' = s.os:=ho
  subst e
  exact I.call (g':=g') (t':=t') (d':=d') u hok hg hch
end
abbrev XK:=Value → Option Addr → Hp → Prop
abbrev St:=List (Option V)
abbrev VK:=V → Hp → Prop
abbrev TE:=St → Hp → VK → Prop
abbrev TT:=St → Hp → (Bool → Hp → Prop) → Prop
abbrev TA:=St → Hp → (List V → Hp → Prop) → Prop
structure Ends where
  nx : St → Hp → Prop
  rt : VK
  bk : St → Hp → Prop:=fun _ _=>False
  ct : St → Hp → Prop:=fun _ _=>False
abbrev TS:=Ends → St → Hp → Prop
def EP (X : Cx) (pins : List (Addr × Obj)) (σ : St) (Q : VK) (u : Value) (s' : Shared) : Prop:=∃ v H',Inv X pins σ H' s' ∧ RelV v u ∧ Q v H'
def TP (X : Cx) (pins : List (Addr × Obj)) (σ : St) (Q : Bool → Hp → Prop) (b : Bool) (s' : Shared) : Prop:=∃ H',Inv X pins σ H' s' ∧ Q b H'
def AP (X : Cx) (pins : List (Addr × Obj)) (σ : St) (Q : List V → Hp → Prop) (us : List Value) (s' : Shared) : Prop:=∃ vs H',Inv X pins σ H' s' ∧ Vals vs us ∧ Q vs H'
def SP (X : Cx) (pins : List (Addr × Obj)) (D : Ends) (f : Flow) (s' : Shared) : Prop :=
  match f with
  | .next=>∃ σ' H',Inv X pins σ' H' s' ∧ D.nx σ' H'
  | .brk=>∃ σ' H',Inv X pins σ' H' s' ∧ D.bk σ' H'
  | .cont=>∃ σ' H',Inv X pins σ' H' s' ∧ D.ct σ' H'
  | .ret u=>∃ v σ' H',Inv X pins σ' H' s' ∧ RelV v u ∧ D.rt v H'
def PE (X : Cx) (e : Expr) (t : TE) : Prop :=
  ∀ (pins : List (Addr × Obj)) (s : Shared) (σ : St) (H : Hp) (Q : VK),Inv X pins σ H s → t σ H Q → wpAny (model X.prog X.w) X.A (eval e X.env) (EP X pins σ Q) X.xe s
def PT (X : Cx) (e : Expr) (t : TT) : Prop :=
  ∀ (pins : List (Addr × Obj)) (s : Shared) (σ : St) (H : Hp) (Q : Bool → Hp → Prop),Inv X pins σ H s → t σ H Q → wpAny (model X.prog X.w) X.A (isTrue e X.env (eval e X.env)) (TP X pins σ Q) X.xe s
def PW (X : Cx) (e : Expr) (t : TT) : Prop :=
  ∀ (whole : Sem Value) (pins : List (Addr × Obj)) (s : Shared) (σ : St) (H : Hp) (Q : Bool → Hp → Prop),Inv X pins σ H s → t σ H Q → wpAny (model X.prog X.w) X.A (isTrue e X.env whole) (TP X pins σ Q) X.xe s
theorem PW.pt {X : Cx} {e : Expr} {t : TT} (h : PW X e t) : PT X e t:=h _
def PA (X : Cx) (es : List Expr) (t : TA) : Prop :=
  ∀ (pos : Pos) (pins : List (Addr × Obj)) (s : Shared) (σ : St) (H : Hp) (Q : List V → Hp → Prop),Inv X pins σ H s → t σ H Q → wpAny (model X.prog X.w) X.A (spliced (backTo pos (starEach es X.env))) (AP X pins σ Q) X.xe s
def PS (X : Cx) (st : Stmt) (t : TS) : Prop :=
  ∀ (pins : List (Addr × Obj)) (s : Shared) (σ : St) (H : Hp) (D : Ends),Inv X pins σ H s → t D σ H → wpAny (model X.prog X.w) X.A (exec st X.env) (SP X pins D) X.xe s
def PSs (X : Cx) (st : List Stmt) (t : TS) : Prop :=
  ∀ (pins : List (Addr × Obj)) (s : Shared) (σ : St) (H : Hp) (D : Ends),Inv X pins σ H s → t D σ H → wpAny (model X.prog X.w) X.A (execs st X.env) (SP X pins D) X.xe s
theorem thn {α : Type} {t : Sem α} {Q Q' : α → Shared → Prop} {M : Model} {A : Around} {E : Value → Shared → Prop} {s : Shared} (h : wpAny M A t Q E s) (hQ : ∀ a s,Q a s → Q' a s) : wpAny M A t Q' E s:=wpAny_mono h hQ fun _ _ x=>x
end L2
namespace L2
open PySem PySem.Spec PyProof.Rows
section
variable {X : Cx}
theorem bin {a b : Expr} {ta tb : TE} (ha : PE X a ta) (hb : PE X b tb) {pins : List (Addr × Obj)} {s : Shared} {σ : St} {H : Hp} {R : V → V → Hp → Prop} (I : Inv X pins σ H s) (h : ta σ H fun x H1=>tb σ H1 fun y H2=>R x y H2)
    {α : Type} {Q : α → Shared → Prop} {f : Value → Value → Sem α}
    (hf : ∀ v u s2 x y H2,Inv X pins σ H2 s2 → RelV x v → RelV y u → R x y H2 → wpAny (model X.prog X.w) X.A (f v u) Q X.xe s2) :
    wpAny (model X.prog X.w) X.A (eval a X.env) (fun v s₁=>wpAny (model X.prog X.w) X.A (eval b X.env) (fun u s₂=>wpAny (model X.prog X.w) X.A (f v u) Q X.xe s₂) X.xe s₁) X.xe s:=by
  refine thn (ha pins s σ H _ I h) fun v s1 ⟨x,H1,I1,r1,q1⟩=>?_
  refine thn (hb pins s1 σ H1 _ I1 q1) fun u s2 ⟨y,H2,I2,r2,q2⟩=>?_
  exact hf v u s2 x y H2 I2 r1 r2 q2
def tVar (i : Nat) : TE:=fun σ H Q=>∃ v,σ[i]? = some (some v) ∧ Q v H
def tC (v : V) : TE:=fun _ H Q=>Q v H
theorem pe_var {i : Nat} {x : Str} {pos : Pos} (hN : X.N[i]? = some x) (hv : Vis X.env.scope x) (hd : (x == ("__debug__" : Str)) = false:=by decide) (hcd : (x == ("__classdict__" : Str)) = false:=by decide) : PE X (.Name x pos) (tVar i):=by
  intro pins s σ H Q I h
  obtain ⟨v,e,h⟩:=h
  obtain ⟨m,hn,hl⟩:=I.loc
  obtain ⟨u,r,l⟩:=hl i x v hN e hv
  have fin : EP X pins σ Q u s:=⟨v,H,I,r,h⟩
  rcases l with ⟨hk,hm⟩ | ⟨hk,c,hc,hcell⟩
  · exact wpAny_Name (wpAny_loadName_local I.ok.kind hk hn hm fin) hd
  · rcases hk with hk | hk
    · exact wpAny_Name (wpAny_loadName_cell I.ok.kind hk hc hcell fin) hd
    · exact wpAny_Name (wpAny_loadName_free I.ok.kind hk hc hcell fin hcd) hd
theorem pe_int {i j pos} : PE X (.Constant (.int i) j pos) (tC (.int i)):=fun _ _ _ H _ I h=>wpAny_Constant_int ⟨.int i,H,I.tok _,⟨_,rfl⟩,h⟩
theorem pe_bl {b j pos} : PE X (.Constant (.bool b) j pos) (tC (.bl b)):=fun _ _ _ H _ I h=>Constant_bool ⟨.bl b,H,I,rfl,h⟩
theorem pe_non {j pos} : PE X (.Constant .none j pos) (tC .non):=fun _ _ _ H _ I h=>Constant_none ⟨.non,H,I,rfl,h⟩
theorem pe_str {x j pos} : PE X (.Constant (.str x) j pos) (tC (.str x)):=fun _ _ _ H _ I h=>Calls.Constant_str ⟨.str x,H,I.tok _,⟨_,rfl⟩,h⟩
def Gl (X : Cx) (x : Str) : Prop:=X.env.kindOf x = some .globalImplicit
theorem ld_glob {E : Value → Shared → Prop} {pins : List (Addr × Obj)} {s : Shared} {σ : St} {H : Hp} {x : Str} {u : Value} {pos : Pos} {Q : Value → Shared → Prop} (I : Inv X pins σ H s) (hg : Gl X x) (hm : X.mg x = some u) (h : Q u s)
    (hd : (x == ("__debug__" : Str)) = false:=by decide) : wpAny (model X.prog X.w) X.A (eval (.Name x pos) X.env) Q E s :=
  Calls.Name_function_global I.ok.kind hg (Calls.loadGlobal_global (by rw [I.ok.glob]; exact I.mod.glob.keeps I.bk) hm h) hd
theorem ld_blt {E : Value → Shared → Prop} {pins : List (Addr × Obj)} {s : Shared} {σ : St} {H : Hp} {x : Str} {u : Value} {pos : Pos} {Q : Value → Shared → Prop} (I : Inv X pins σ H s) (hg : Gl X x) (hm : X.mg x = none) (hv : bootBuiltins x = some u) (h : Q u s)
    (hn : x ≠ "__name__" := by decide) (hd : (x == ("__debug__" : Str)) = false:=by decide) : wpAny (model X.prog X.w) X.A (eval (.Name x pos) X.env) Q E s:=by
  obtain ⟨mb,h1,h2⟩:=I.mod.blt
  exact Calls.Name_function_global I.ok.kind hg (Calls.loadGlobal_builtin (by rw [I.ok.glob]; exact I.mod.glob.keeps I.bk) hm (by rw [I.ok.blt]; exact h1.keeps I.bk) ((h2 x hn).trans hv) h) hd
theorem pe_glob {x : Str} {v : V} {u : Value} {pos : Pos} (hg : Gl X x) (hm : X.mg x = some u) (r : RelV v u) (hd : (x == ("__debug__" : Str)) = false:=by decide) : PE X (.Name x pos) (tC v) :=
  fun _ _ _ H _ I h=>ld_glob I hg hm ⟨v,H,I,r,h⟩ hd
theorem pe_bltn {x : Str} {v : V} {u : Value} {pos : Pos} (hg : Gl X x) (hm : X.mg x = none) (hv : bootBuiltins x = some u) (r : RelV v u) (hn : x ≠ "__name__" := by decide) (hd : (x == ("__debug__" : Str)) = false:=by decide) : PE X (.Name x pos) (tC v) :=
  fun _ _ _ H _ I h=>ld_blt I hg hm hv ⟨v,H,I,r,h⟩ hn hd
variable {a b : Expr} {ta tb : TE} {pos : Pos}
def PC (X : Cx) (op : CmpOp) (a b : Expr) (t : TE) : Prop :=
  ∀ (pins : List (Addr × Obj)) (s : Shared) (σ : St) (H : Hp) (Q : VK),Inv X pins σ H s → t σ H Q →
    wpAny (model X.prog X.w) X.A (eval a X.env) (fun v s₁=>wpAny (model X.prog X.w) X.A (eval b X.env) (fun u s₂=>wpAny (model X.prog X.w) X.A (compareOp op v u) (EP X pins σ Q) X.xe s₂) X.xe s₁) X.xe s
theorem nobehind (b : Expr) {op : CmpOp} (h : op ≠ .In) (h2 : op ≠ .NotIn) : behindInMarks op b = false:=by
  have e1 : (op == CmpOp.In) = false:=by cases op <;> first | rfl | exact absurd rfl h
  have e2 : (op == CmpOp.NotIn) = false:=by cases op <;> first | rfl | exact absurd rfl h2
  cases b <;> simp [behindInMarks,e1,e2]
def tB (t : TE) : TT:=fun σ H Q=>t σ H fun x H1=>∃ c,x = .bl c ∧ Q c H1
theorem pt_cmp {op : CmpOp} {t : TE} (h : PC X op a b t) (h1 : behindInMarks op b = false:=by first | exact nobehind _ (by decide) (by decide) | rfl) : PT X (.Compare a [op] [b] pos) (tB t):=by
  intro pins s σ H Q I hw
  refine wpAny_isTrue_Compare1 (thn (h pins s σ H _ I hw) fun v s1 h1=>thn h1 fun u s2 h2=>thn h2 fun c s3 ⟨x,H1,I1,r1,q1⟩=>?_) h1
  obtain ⟨d,rfl,q⟩:=q1
  cases r1
  exact wpAny_truthy_bool ⟨H1,I1,q⟩
theorem pt_val {e : Expr} {t : TE} (h : PE X e t) (he : ∀ whole,isTrue e X.env whole = (do let v ← whole; standAt e.pos; holding [v] (truthy v)):=by intro _; rfl) : PT X e (tB t):=by
  intro pins s σ H Q I hw
  refine isTrue_plain (thn (h pins s σ H _ I hw) fun v s1 ⟨x,H1,I1,r1,q1⟩=>?_) (he _)
  obtain ⟨d,rfl,q⟩:=q1
  cases r1
  exact wpAny_truthy_bool ⟨H1,I1,q⟩
variable {tA tB' : TT} {rest : List Expr}
def tAnd (t u : TT) : TT:=fun σ H Q=>t σ H fun c H1=>if c = true then u σ H1 Q else Q false H1
def tOr (t u : TT) : TT:=fun σ H Q=>t σ H fun c H1=>if c = true then Q true H1 else u σ H1 Q
def tNot (t : TT) : TT:=fun σ H Q=>t σ H fun c H1=>Q (!c) H1
theorem pw_and1 (ha : PT X a tA) : PW X (.BoolOp .And [a] pos) tA:=by
  intro wh pins s σ H Q I h
  refine isTrue_and (thn (ha pins s σ H Q I h) fun c s1 e=>?_)
  cases c with
  | true=>exact isTrue_and_nil e
  | false=>exact e
theorem pw_or1 (ha : PT X a tA) : PW X (.BoolOp .Or [a] pos) tA:=by
  intro wh pins s σ H Q I h
  refine isTrue_or (thn (ha pins s σ H Q I h) fun c s1 e=>?_)
  cases c with
  | false=>exact isTrue_or_nil e
  | true=>exact e
theorem pw_and (ha : PT X a tA) (hb : PW X (.BoolOp .And (b :: rest) pos) tB') : PW X (.BoolOp .And (a :: b :: rest) pos) (tAnd tA tB'):=by
  intro wh pins s σ H Q I h
  refine isTrue_and (thn (ha pins s σ H _ I h) fun c s1 ⟨H1,I1,q1⟩=>?_)
  cases c with
  | true=>exact hb wh pins s1 σ H1 Q I1 q1
  | false=>exact ⟨H1,I1,q1⟩
theorem pw_or (ha : PT X a tA) (hb : PW X (.BoolOp .Or (b :: rest) pos) tB') : PW X (.BoolOp .Or (a :: b :: rest) pos) (tOr tA tB'):=by
  intro wh pins s σ H Q I h
  refine isTrue_or (thn (ha pins s σ H _ I h) fun c s1 ⟨H1,I1,q1⟩=>?_)
  cases c with
  | true=>exact ⟨H1,I1,q1⟩
  | false=>exact hb wh pins s1 σ H1 Q I1 q1
theorem pt_not (ha : PT X a tA) : PT X (.UnaryOp .Not a pos) (tNot tA):=by
  intro pins s σ H Q I h
  exact isTrue_not (ha pins s σ H (fun c H1=>Q (!c) H1) I h)
def tAndV (ta tb : TE) : TE:=fun σ H Q=>ta σ H fun x H1=>∃ c,x = .bl c ∧ if c = true then tb σ H1 Q else Q (.bl false) H1
def tNotV (ta : TE) : TE:=fun σ H Q=>ta σ H fun x H1=>∃ c,x = .bl c ∧ Q (.bl (!c)) H1
theorem pe_one {op} {t : TE} (h : PE X a t) : PE X (.BoolOp op [a] pos) t:=fun pins s σ H Q I hw=>BoolOp_one (h pins s σ H Q I hw)
theorem pe_and (ha : PE X a ta) (hb : PE X (.BoolOp .And (b :: rest) pos) tb) : PE X (.BoolOp .And (a :: b :: rest) pos) (tAndV ta tb):=by
  intro pins s σ H Q I h
  refine BoolOp_and (thn (ha pins s σ H _ I h) fun v s1 ⟨x,H1,I1,r1,q1⟩=>?_)
  obtain ⟨c,rfl,q1⟩:=q1
  cases r1
  refine wpAny_truthy_bool ?_
  cases c with
  | true=>exact hb pins s1 σ H1 Q I1 q1
  | false=>exact ⟨.bl false,H1,I1,rfl,q1⟩
theorem pe_not (ha : PE X a ta) : PE X (.UnaryOp .Not a pos) (tNotV ta):=by
  intro pins s σ H Q I h
  refine UnaryOp_ (thn (ha pins s σ H _ I h) fun v s1 ⟨x,H1,I1,r1,q1⟩=>?_)
  obtain ⟨c,rfl,q1⟩:=q1
  cases r1
  exact not_of (wpAny_truthy_bool ⟨.bl (!c),H1,I1,rfl,q1⟩)
end
end L2
namespace L2
open PySem PySem.Spec PyProof.Rows
def SqL (K : PySem.W.Frag) (H : Hp) (a : Addr) (xs : List V) : Prop :=
  Rd H a (.lst xs) ∨
    ∃ (o : Obj) (its : Array Value) (n : Nat),K.lookup a = some o ∧ o.cls = .type "list" ∧ o.dict = none ∧ o.data = .seq its n ∧ its.size ≤ sizeLine ∧ Vals xs its.toList
def SqT (K : PySem.W.Frag) (H : Hp) (a : Addr) (xs : List V) : Prop :=
  Rd H a (.tup xs) ∨
    ∃ (o : Obj) (its : Array Value) (n : Nat),K.lookup a = some o ∧ o.cls = .type "tuple" ∧ o.data = .seq its n ∧ its.size ≤ sizeLine ∧ Vals xs its.toList
def absV : Value → Option V
  | .none=>some .non
  | .bool b=>some (.bl b)
  | .int i _=>some (.int i)
  | .str x _=>some (.str x)
  | .bytes b _=>some (.byt b)
  | .float b _=>some (.flt b)
  | .ref a=>some (.ref a)
  | .type n=>some (.ty n)
  | _=>none
theorem RelV.abs {x : V} {u : Value} (r : RelV x u) : absV u = some x:=by
  cases x with
  | non=>cases r; rfl
  | bl _=>cases r; rfl
  | int _=>obtain ⟨t,rfl⟩:=r; rfl
  | str _=>obtain ⟨t,rfl⟩:=r; rfl
  | byt _=>obtain ⟨t,rfl⟩:=r; rfl
  | flt _=>obtain ⟨t,rfl⟩:=r; rfl
  | ref _=>cases r; rfl
  | ty _=>cases r; rfl
theorem RelV.inj {x y : V} {u : Value} (r : RelV x u) (q : RelV y u) : x = y:=Option.some.inj (r.abs.symm.trans q.abs)
theorem Vals.inj : ∀ {xs ys : List V} {us : List Value},Vals xs us → Vals ys us → xs = ys
  | _,_,_,.nil,.nil=>rfl
  | _,_,_,.cons r t,.cons r' t'=>by rw [r.inj r',Vals.inj t t']
section
variable {X : Cx} {pins : List (Addr × Obj)} {σ : St} {H : Hp} {s : Shared} {a : Addr} {xs ys : List V}
theorem SqL.of {K : PySem.W.Frag} (h : H a = some (.lst xs)) : SqL K H a xs:=.inl (.inl h)
theorem SqT.of {K : PySem.W.Frag} (h : H a = some (.tup xs)) : SqT K H a xs:=.inl (.inl h)
theorem Inv.list (I : Inv X pins σ H s) (h : SqL X.K H a xs) : ∃ its : List Value,Vals xs its ∧ PlainL s.heap a its.toArray ∧ xs.length ≤ sizeLine:=by
  rcases h with h | ⟨o,its,n,hk,hc,hd,hs,hz,r⟩
  · obtain ⟨z,its,n,r,e⟩:=h.ok I.hok
    exact ⟨its,r,⟨_,n,e,rfl,rfl,rfl⟩,z⟩
  · refine ⟨its.toList,r,⟨o,n,I.kIn a o hk,hc,hd,by simpa using hs⟩,?_⟩
    have e:=r.length
    simp only [Array.length_toList] at e
    omega
theorem Inv.tuple (I : Inv X pins σ H s) (h : SqT X.K H a xs) : ∃ its : List Value,Vals xs its ∧ IsTup s.heap a its.toArray ∧ xs.length ≤ sizeLine:=by
  rcases h with h | ⟨o,its,n,hk,hc,hs,hz,r⟩
  · obtain ⟨z,its,r,p⟩:=h.ok I.hok
    exact ⟨its,r,p.tup,z⟩
  · refine ⟨its.toList,r,⟨o,I.kIn a o hk,hc,n,by simpa using hs⟩,?_⟩
    have e:=r.length
    simp only [Array.length_toList] at e
    omega
theorem Inv.list_inj (I : Inv X pins σ H s) (h : SqL X.K H a xs) (h' : SqL X.K H a ys) : xs = ys:=by
  obtain ⟨its,r,⟨o,n,e,_,_,d⟩,_⟩:=I.list h
  obtain ⟨its',r',⟨o',n',e',_,_,d'⟩,_⟩:=I.list h'
  rw [e] at e'; cases e'
  rw [d] at d'
  injection d' with d1 _
  have : its = its':=by simpa using congrArg Array.toList d1
  subst this
  exact r.inj r'
theorem Inv.tuple_inj (I : Inv X pins σ H s) (h : SqT X.K H a xs) (h' : SqT X.K H a ys) : xs = ys:=by
  obtain ⟨its,r,⟨o,e,_,n,d⟩,_⟩:=I.tuple h
  obtain ⟨its',r',⟨o',e',_,n',d'⟩,_⟩:=I.tuple h'
  rw [e] at e'; cases e'
  rw [d] at d'
  injection d' with d1 _
  have : its = its':=by simpa using congrArg Array.toList d1
  subst this
  exact r.inj r'
end
abbrev Cx.wish (X : Cx) (E : Value → Shared → Prop) : Cx:={ X with xe:=E }
abbrev Cx.nox (X : Cx) : Cx:=X.wish fun _ _=>False
theorem Cx.Ok.wish {X : Cx} (ok : X.Ok) (E : Value → Shared → Prop) : (X.wish E).Ok :=
  ⟨ok.mod,ok.kind,ok.glob,ok.blt,ok.above,ok.inj,ok.has,ok.cab,ok.hd,ok.frames,ok.stk,ok.exf,ok.bs,ok.bsz,ok.noex,ok.exfs,ok.funs,ok.frf⟩
theorem Cx.Ok.unwish {X : Cx} {E : Value → Shared → Prop} (ok : (X.wish E).Ok) : X.Ok :=
  ⟨ok.mod,ok.kind,ok.glob,ok.blt,ok.above,ok.inj,ok.has,ok.cab,ok.hd,ok.frames,ok.stk,ok.exf,ok.bs,ok.bsz,ok.noex,ok.exfs,ok.funs,ok.frf⟩
section
variable {X : Cx} {pins : List (Addr × Obj)} {σ : St} {H : Hp} {s : Shared} {E : Value → Shared → Prop}
theorem Inv.wish (I : Inv X pins σ H s) (E : Value → Shared → Prop) : Inv (X.wish E) pins σ H s:=⟨I.ok.wish E,I.os,I.bare,I.base,I.loc,I.cell,I.free,I.freeC,I.pin,I.hok,I.len⟩
theorem Inv.unwish (I : Inv (X.wish E) pins σ H s) : Inv X pins σ H s:=⟨I.ok.unwish,I.os,I.bare,I.base,I.loc,I.cell,I.free,I.freeC,I.pin,I.hok,I.len⟩
theorem SP.unwish {D : Ends} {f : Flow} {s' : Shared} (h : SP (X.wish E) pins D f s') : SP X pins D f s':=by
  cases f with
  | next=>obtain ⟨σ',H',I,q⟩:=h; exact ⟨σ',H',I.unwish,q⟩
  | brk=>obtain ⟨σ',H',I,q⟩:=h; exact ⟨σ',H',I.unwish,q⟩
  | cont=>obtain ⟨σ',H',I,q⟩:=h; exact ⟨σ',H',I.unwish,q⟩
  | ret u=>obtain ⟨v,σ',H',I,r,q⟩:=h; exact ⟨v,σ',H',I.unwish,r,q⟩
theorem PSs.nox {st : List Stmt} {t : TS} (h : PSs X.nox st t) : PSs X st t:=fun pins s σ H D I hw =>
  wpAny_mono (h pins s σ H D (I.wish _) hw) (fun _ _ q=>q.unwish) fun _ _ z=>False.elim z
end
section
variable {X : Cx} {st : Stmt} {rest : List Stmt} {t u : TS} {e : Expr} {te : TE} {pos : Pos}
def tNext : TS:=fun D σ H=>D.nx σ H
def tSeq (t u : TS) : TS:=fun D σ H=>t { D with nx:=u D } σ H
theorem pss_nil : PSs X [] tNext:=fun _ _ σ H _ I h=>wpAny_execs_nil ⟨σ,H,I,h⟩
theorem pss_cons (h1 : PS X st t) (h2 : PSs X rest u) : PSs X (st :: rest) (tSeq t u):=by
  intro pins s σ H D I h
  refine wpAny_execs_cons (thn (h1 pins s σ H { D with nx:=u D } I h) fun f s1 q=>?_)
  cases f with
  | next =>
    obtain ⟨σ',H',I',q⟩:=q
    exact h2 pins s1 σ' H' D I' q
  | ret v=>exact q
  | brk=>exact q
  | cont=>exact q
theorem pss_one (h1 : PS X st t) : PSs X [st] t:=by
  intro pins s σ H D I h
  refine wpAny_execs_cons (thn (h1 pins s σ H D I h) fun f s1 q=>?_)
  cases f with
  | next=>exact wpAny_execs_nil q
  | ret v=>exact q
  | brk=>exact q
  | cont=>exact q
theorem Inv.quiet {pins : List (Addr × Obj)} {σ : St} {H : Hp} {s : Shared} (I : Inv X pins σ H s) : interactive X.env = false:=by simp [interactive,I.ok.kind]
def tDrop (te : TE) : TS:=fun D σ H=>te σ H fun _ H1=>D.nx σ H1
theorem ps_expr (he : PE X e te) (hs : swapsWith e none pos.line X.env = pure false:=by rfl) : PS X (.Expr e pos) (tDrop te):=by
  intro pins s σ H D I h
  exact wpAny_Expr_any (thn (he pins s σ H _ I h) fun v s1 ⟨x,H1,I1,r1,q1⟩=>⟨σ,H1,I1,q1⟩) I.quiet hs
def tRet (te : TE) : TS:=fun D σ H=>te σ H D.rt
theorem ps_ret (he : PE X e te) : PS X (.Return (some e) pos) (tRet te):=by
  intro pins s σ H D I h
  exact wpAny_Return_some (thn (he pins s σ H _ I h) fun v s1 ⟨x,H1,I1,r1,q1⟩=>⟨x,σ,H1,I1,r1,q1⟩)
def tIfS (c : TT) (t u : TS) : TS:=fun D σ H=>c σ H fun b H1=>if b = true then t D σ H1 else u D σ H1
theorem ps_if {c : Expr} {a b : List Stmt} {tc : TT} (hc : PT X c tc) (ha : PSs X a t) (hb : PSs X b u) : PS X (.If c a b pos) (tIfS tc t u):=by
  intro pins s σ H D I h
  refine wpAny_If (thn (hc pins s σ H _ I h) fun d s1 ⟨H1,I1,q1⟩=>?_)
  cases d with
  | true=>exact ha pins s1 σ H1 D I1 q1
  | false=>exact hb pins s1 σ H1 D I1 q1
end
abbrev TG:=V → St → Hp → (St → Hp → Prop) → Prop
abbrev TGs:=List V → St → Hp → (St → Hp → Prop) → Prop
def PG (X : Cx) (target : Expr) (t : TG) : Prop :=
  ∀ (pins : List (Addr × Obj)) (s : Shared) (σ : St) (H : Hp) (v : V) (u : Value) (Q : St → Hp → Prop),Inv X pins σ H s → RelV v u → t v σ H Q →
    wpAny (model X.prog X.w) X.A (assign target X.env u) (fun _ s'=>∃ σ' H',Inv X pins σ' H' s' ∧ Q σ' H') X.xe s
def PGs (X : Cx) (ts : List Expr) (t : TGs) : Prop :=
  ∀ (pins : List (Addr × Obj)) (s : Shared) (σ : St) (H : Hp) (vs : List V) (us : List Value) (Q : St → Hp → Prop),Inv X pins σ H s → Vals vs us → t vs σ H Q →
    wpAny (model X.prog X.w) X.A (assignInOrder ((assignEach ts X.env).map (·.2)) us) (fun _ s'=>∃ σ' H',Inv X pins σ' H' s' ∧ Q σ' H') X.xe s
abbrev TSet:=V → V → V → Hp → (Hp → Prop) → Prop
def PSet (X : Cx) (t : TSet) : Prop :=
  ∀ (pins : List (Addr × Obj)) (s : Shared) (σ : St) (H : Hp) (o i v : V) (ov iv u : Value) (Q : Hp → Prop),Inv X pins σ H s → RelV o ov → RelV i iv → RelV v u → t o i v H Q →
    wpAny (model X.prog X.w) X.A (setItem ov iv u) (fun _ s'=>∃ H',Inv X pins σ H' s' ∧ Q H') X.xe s
section
variable {X : Cx} {pos : Pos}
def gName (i : Nat) : TG:=fun v σ H Q=>Q (σ.set i (some v)) H
theorem pg_name {i : Nat} {x : Str} (hN : X.N.Nodup) (hi : X.N[i]? = some x) (hx : Loc X.env.scope x) (hf : X.fn x = true ∨ X.env.scope.names.lookup x = some .local:=by first | exact .inl rfl | exact .inr rfl | assumption) : PG X (.Name x pos) (gName i):=by
  intro pins s σ H v u Q I r h
  exact wpAny_assign_Name (store_ok I hN hi hx r (fun s' I'=>⟨_,H,I',h⟩) hf)
def gNil : TGs:=fun vs σ H Q=>vs = [] ∧ Q σ H
def gCons (t : TG) (u : TGs) : TGs:=fun vs σ H Q=>∃ v r,vs = v :: r ∧ t v σ H fun σ' H'=>u r σ' H' Q
theorem pgs_nil : PGs X [] gNil:=by
  intro pins s σ H vs us Q I r h
  obtain ⟨e,h⟩:=h
  subst e
  cases r
  exact assignInOrder_nil ⟨σ,H,I,h⟩
theorem pgs_cons {e : Expr} {es : List Expr} {t : TG} {u : TGs} (h1 : PG X e t) (h2 : PGs X es u)
    (hs : (assignEach (e :: es) X.env).map (·.2) = assign e X.env :: (assignEach es X.env).map (·.2):=by rfl) : PGs X (e :: es) (gCons t u):=by
  intro pins s σ H vs us Q I r h
  obtain ⟨v,vr,e1,h⟩:=h
  subst e1
  cases r with
  | cons r rr =>
    rw [hs]
    refine assignInOrder_cons (thn (h1 pins s σ H _ _ _ I r h) fun _ s1 ⟨σ1,H1,I1,q1⟩=>?_)
    exact h2 pins s1 σ1 H1 _ _ Q I1 rr q1
def gTup (K : PySem.W.Frag) (n : Nat) (t : TGs) : TG:=fun v σ H Q=>∃ a xs,v = .ref a ∧ SqT K H a xs ∧ xs.length = n ∧ t xs σ H Q
theorem pg_tup {es : List Expr} {k : Nat} {t : TGs} {n : Nat} (hc : X.calm = true) (h : PGs X es t)
    (hn : (assignEach es X.env).length = n:=by rfl) (hst : (assignEach es X.env).findIdx? (·.1) = none:=by rfl) : PG X (.Tuple es k pos) (gTup X.K n t):=by
  intro pins s σ H v u Q I r hw
  obtain ⟨a,xs,e1,hq,hl,hw⟩:=hw
  subst e1
  cases r
  obtain ⟨its,rv,ht,hz⟩:=I.tuple hq
  refine assign_Tuple_tuple (I.ok.hd hc) ht (by simp [hn,← hl,rv.length]) hst fun h' hx=>?_
  have I1 : Inv X pins σ H { s with heap:=h' }:=I.kept (t':=s.toks) fun b o e=>hx b o (Nat.ne_of_lt (Heap.lt_size e)) e
  exact h pins _ σ H xs _ Q I1 (by simpa using rv) hw
def gSub (to ti : TE) (t : TSet) : TG:=fun v σ H Q=>to σ H fun o H1=>ti σ H1 fun i H2=>t o i v H2 fun H3=>Q σ H3
theorem pg_sub {o i : Expr} {to ti : TE} {t : TSet} (ho : PE X o to) (hi : PE X i ti) (hs : PSet X t)
    (ha : ∀ v,assign (.Subscript o i pos) X.env v = (do
      let ov ← holding [v] (eval o X.env)
      let iv ← holding [v,ov] (eval i X.env)
      standAt pos
      holding [v,ov,iv] (setItem ov iv v)
      release [v,ov,iv] []):=by intro _; rfl) : PG X (.Subscript o i pos) (gSub to ti t):=by
  intro pins s σ H v u Q I r h
  rw [ha]
  refine wpAny_bind (wpAny_holding (thn (ho pins s σ H _ I h) fun ov s1 ⟨x,H1,I1,r1,q1⟩=>?_))
  refine wpAny_bind (wpAny_holding (thn (hi pins s1 σ H1 _ I1 q1) fun iv s2 ⟨y,H2,I2,r2,q2⟩=>?_))
  refine wpAny_bind (wpAny_standAt (wpAny_bind (wpAny_holding (thn (hs pins s2 σ H2 x y v ov iv u _ I2 r1 r2 r q2) fun _ s3 ⟨H3,I3,q3⟩=>?_))))
  exact wpAny_release ⟨σ,H3,I3,q3⟩
def tAsg (te : TE) (g : TG) : TS:=fun D σ H=>te σ H fun x H1=>g x σ H1 D.nx
theorem ps_asg {tg e : Expr} {te : TE} {g : TG} (he : PE X e te) (hg : PG X tg g) (hs : swapsWithSole [tg] e pos.line X.env = pure false:=by rfl) (hw : swappedStores [tg] e X.env = pure none:=by rfl)
    (h1 : (assignEach [tg] X.env).map (·.2) = [assign tg X.env]:=by rfl) : PS X (.Assign [tg] e pos) (tAsg te g):=by
  intro pins s σ H D I h
  refine wpAny_Assign_stores (thn (he pins s σ H _ I h) fun v s1 ⟨x,H1,I1,r1,q1⟩=>?_) hs hw
  rw [h1]
  exact thn (hg pins s1 σ H1 x v _ I1 r1 q1) fun _ s2 q=>q
theorem ps_set {i : Nat} {x : Str} {e : Expr} {te : TE} {pos' : Pos} (hN : X.N.Nodup) (hi : X.N[i]? = some x) (hx : Loc X.env.scope x) (he : PE X e te) (hs : swapsWith e (some (.Name x pos')) pos.line X.env = pure false:=by rfl) (hf : X.fn x = true ∨ X.env.scope.names.lookup x = some .local:=by first | exact .inl rfl | exact .inr rfl | assumption) :
    PS X (.Assign [.Name x pos'] e pos) (tAsg te (gName i)):=by
  intro pins s σ H D I h
  refine wpAny_Assign_Name (thn (he pins s σ H _ I h) fun v s1 ⟨y,H1,I1,r1,q1⟩=>?_) hs
  exact store_ok I1 hN hi hx r1 (fun s2 I2=>⟨_,H1,I2,q1⟩) hf
end
section
variable {X : Cx} {pos : Pos}
end
structure It where
  go : Nat → Hp → Prop
  yld : Nat → Hp → V → Hp → Prop
  stop : Nat → Hp → Prop
def FpOk (X : Cx) (pins : List (Addr × Obj)) (H : Hp) (b : Addr) : Prop :=
  H b = none ∧ b ≠ X.env.locals ∧ b ∉ X.fs ∧ (b ∈ X.ex ∨ X.s₀.heap.objs.size ≤ b) ∧ (∀ x c,X.env.cells.lookup x = some c → c ≠ b) ∧ ∀ p ∈ X.pn ++ pins,p.1 ≠ b
theorem Inv.fpOk {X : Cx} {pins : List (Addr × Obj)} {σ : St} {H H' : Hp} {s : Shared} {b : Addr} (I : Inv X pins σ H s) (hb : s.heap.objs.size ≤ b) (hn : H' b = none) : FpOk X pins H' b:=by
  refine ⟨hn,Nat.ne_of_gt (Nat.lt_of_lt_of_le I.lt hb),I.nofs hb,.inr (Nat.le_trans I.sz hb),fun x c e z=>?_,fun p hp z=>?_⟩
  · obtain ⟨v,q⟩:=I.cell x c e
    exact absurd (Nat.lt_of_lt_of_le q.lt (by rw [z]; exact hb)) (Nat.lt_irrefl _)
  · exact absurd (Nat.lt_of_lt_of_le (Heap.lt_size (I.pin p hp).1) (by rw [z]; exact hb)) (Nat.lt_irrefl _)
structure Turn (P : Program) (w : World) (K : PySem.W.Frag) (tg : Expr) (J : It) (fp : List Addr) (it : Addr) (tn : Nat → Heap → Prop) : Prop where
  mem : it ∈ fp
  obj : ∀ i h,tn i h → ∀ b ∈ fp,∃ o,h.get? b = some o ∧ ∀ v,o.data ≠ .cell v
  keep : ∀ i h h',tn i h → (∀ b ∈ fp,∀ o,h.get? b = some o → h'.get? b = some o) → tn i h'
  item : ∀ (X : Cx),X.prog = P → X.w = w → X.K = K → X.calm = true → ∀ (i : Nat) (pins : List (Addr × Obj)) (s : Shared) (σ : St) (H : Hp) (E : Value → Shared → Prop),Inv X pins σ H s → (∀ b ∈ fp,FpOk X pins H b) → tn i s.heap → J.go i H →
    wpAny (model P w) X.A (pyNext (.ref it)) (fun r s1=>∃ u,r = some u ∧
      wpAny (model P w) X.A (letOwnedTupleGo tg (.ref it) u) (fun _ s2=>∃ x H',Inv X pins σ H' s2 ∧ RelV x u ∧ J.yld i H x H' ∧ tn (i + 1) s2.heap ∧ ∀ b ∈ fp,H' b = none) E s1) E s
  done : ∀ (X : Cx),X.prog = P → X.w = w → X.K = K → X.calm = true → ∀ (i : Nat) (pins : List (Addr × Obj)) (s : Shared) (σ : St) (H : Hp) (E : Value → Shared → Prop),Inv X pins σ H s → (∀ b ∈ fp,FpOk X pins H b) → tn i s.heap → J.stop i H →
    wpAny (model P w) X.A (pyNext (.ref it)) (fun r s1=>r = none ∧ Inv X pins σ H s1) E s
  self : ∀ (A : Around) (i : Nat) (s : Shared) (Q : Value → Shared → Prop) (E : Value → Shared → Prop),tn i s.heap → Q (.ref it) s → wpAny (model P w) A (pyIter (.ref it)) Q E s
abbrev TI:=St → Hp → (It → Hp → Prop) → Prop
def PIE (X : Cx) (pins : List (Addr × Obj)) (σ : St) (tg : Expr) (R : It → Hp → Prop) (itv : Value) (s2 : Shared) : Prop :=
  ∃ (it : Addr) (fp : List Addr) (tn : Nat → Heap → Prop) (J : It) (H' : Hp),itv = .ref it ∧ Inv X pins σ H' s2 ∧ Turn X.prog X.w X.K tg J fp it tn ∧ tn 0 s2.heap ∧ (∀ b ∈ fp,FpOk X pins H' b) ∧ R J H'
def PI (X : Cx) (tg iter : Expr) (wi : TI) : Prop :=
  ∀ (pins : List (Addr × Obj)) (s : Shared) (σ : St) (H : Hp) (R : It → Hp → Prop),Inv X pins σ H s → wi σ H R →
    wpAny (model X.prog X.w) X.A (eval iter X.env) (fun v s1=>wpAny (model X.prog X.w) X.A (pyIter v) (PIE X pins σ tg R) X.xe s1) X.xe s
theorem go_of {M : Model} {A : Around} {E : Value → Shared → Prop} {s : Shared} {tg : Expr} {it : Addr} {u : Value} {o : Obj} {n : String} {vs : Array Value} {Q : Unit → Shared → Prop} (ho : s.heap.get? it = some o) (hc : o.cls = .type n) (hd : o.data = .fields vs)
    (hn : ["enumerate", "zip", "dict_itemiterator", "dict_reverseitemiterator", "odict_iterator", "itertools.zip_longest", "itertools.pairwise"].contains n = false) (hQ : Q () s) : wpAny M A (letOwnedTupleGo tg (.ref it) u) Q E s:=by
  unfold letOwnedTupleGo
  cases tg <;> first
    | exact wpAny_pure hQ
    | (cases u <;> first
        | exact wpAny_pure hQ
        | (refine wpAny_bind (wpAny_load ho ?_)
           rw [hc,hd]
           show wpAny M A (if (["enumerate", "zip", "dict_itemiterator", "dict_reverseitemiterator", "odict_iterator", "itertools.zip_longest", "itertools.pairwise"].contains n && vs[0]? == some (rawInt _)) = true then _ else _) Q E s
           rw [if_neg (by intro h; rw [hn,Bool.false_and] at h; cases h)]
           exact wpAny_pure hQ))
def Itl (K : PySem.W.Frag) (a : Addr) : It :=
  ⟨fun i H=>∃ xs x,SqL K H a xs ∧ xs[i]? = some x,fun i H x H'=>H' = H ∧ ∀ xs,SqL K H a xs → xs[i]? = some x,fun i H=>∃ xs,SqL K H a xs ∧ xs.length ≤ i⟩
def Itt (K : PySem.W.Frag) (a : Addr) : It :=
  ⟨fun i H=>∃ xs x,SqT K H a xs ∧ xs[i]? = some x,fun i H x H'=>H' = H ∧ ∀ xs,SqT K H a xs → xs[i]? = some x,fun i H=>∃ xs,SqT K H a xs ∧ xs.length ≤ i⟩
def Itr (lo : Int) (n : Nat) : It:=⟨fun i _=>i < n,fun i H x H'=>H' = H ∧ x = .int (lo + i),fun i _=>n ≤ i⟩
theorem turn_list {P : Program} {w : World} {K : PySem.W.Frag} {tg : Expr} (a it : Addr) : Turn P w K tg (Itl K a) [it] it (fun i h=>h.IsListIter it a i) where
  mem:=by simp
  obj:=fun i h st b hb=>by
    have e : b = it:=by simpa using hb
    subst e
    obtain ⟨o,e,c,d⟩:=st
    exact ⟨o,e,fun v z=>by rw [d] at z; cases z⟩
  keep:=fun i h h' st k=>st.at fun o e=>k it (by simp) o e
  item:=by
    intro X hP hw hK hc i pins s σ H E I hf st hg
    subst hP hw hK
    obtain ⟨xs,x,hq,hx⟩:=hg
    obtain ⟨its,rv,p,hz⟩:=I.list hq
    obtain ⟨u,hu,ru⟩:=rv.get hx
    obtain ⟨f0,f1,f2,f3,f4,f5⟩:=hf it (by simp)
    refine wpAny_pyNext_list_item st p.isList (x:=u) (by simpa using hu) fun h' st' sb=>?_
    have I1 : Inv X pins σ H { s with heap:=h' }:=I.turned (t':=s.toks) (fun b o hb e=>(sb.2 b hb).trans e) f0 f1 f3 f4 f5
    obtain ⟨o,e,c,d⟩:=id st'
    exact ⟨u,rfl,go_of (s:={ s with heap:=h' }) e c d (by decide) ⟨x,H,I1,ru,⟨rfl,fun ys hy=>by rw [I.list_inj hy hq]; exact hx⟩,st',fun b hb=>(hf b hb).1⟩⟩
  done:=by
    intro X hP hw hK hc i pins s σ H E I hf st hg
    subst hP hw hK
    obtain ⟨xs,hq,hx⟩:=hg
    obtain ⟨its,rv,p,hz⟩:=I.list hq
    obtain ⟨f0,f1,f2,f3,f4,f5⟩:=hf it (by simp)
    have hl:=rv.length
    exact wpAny_pyNext_list_end (I.ok.hd hc) st p.isList (by simp; omega) fun h' eb=>⟨rfl,I.turned (t':=s.toks) (fun b o hb e=>eb b o hb e) f0 f1 f3 f4 f5⟩
  self:=fun _ _ _ _ _ st h=>wpAny_pyIter_listiter st h
theorem turn_tuple {P : Program} {w : World} {K : PySem.W.Frag} {tg : Expr} (a it : Addr) : Turn P w K tg (Itt K a) [it] it (fun i h=>h.IsTupleIter it a i) where
  mem:=by simp
  obj:=fun i h st b hb=>by
    have e : b = it:=by simpa using hb
    subst e
    obtain ⟨o,e,c,d⟩:=st
    exact ⟨o,e,fun v z=>by rw [d] at z; cases z⟩
  keep:=fun i h h' st k=>st.at fun o e=>k it (by simp) o e
  item:=by
    intro X hP hw hK hc i pins s σ H E I hf st hg
    subst hP hw hK
    obtain ⟨xs,x,hq,hx⟩:=hg
    obtain ⟨its,rv,p,hz⟩:=I.tuple hq
    obtain ⟨u,hu,ru⟩:=rv.get hx
    obtain ⟨f0,f1,f2,f3,f4,f5⟩:=hf it (by simp)
    refine wpAny_pyNext_tuple_item st (show s.heap.IsTuple a its.toArray from p) (x:=u) (by simpa using hu) fun h' st' sb=>?_
    have I1 : Inv X pins σ H { s with heap:=h' }:=I.turned (t':=s.toks) (fun b o hb e=>(sb.2 b hb).trans e) f0 f1 f3 f4 f5
    obtain ⟨o,e,c,d⟩:=id st'
    exact ⟨u,rfl,go_of (s:={ s with heap:=h' }) e c d (by decide) ⟨x,H,I1,ru,⟨rfl,fun ys hy=>by rw [I.tuple_inj hy hq]; exact hx⟩,st',fun b hb=>(hf b hb).1⟩⟩
  done:=by
    intro X hP hw hK hc i pins s σ H E I hf st hg
    subst hP hw hK
    obtain ⟨xs,hq,hx⟩:=hg
    obtain ⟨its,rv,p,hz⟩:=I.tuple hq
    obtain ⟨f0,f1,f2,f3,f4,f5⟩:=hf it (by simp)
    have hl:=rv.length
    exact wpAny_pyNext_tuple_end (I.ok.hd hc) st (show s.heap.IsTuple a its.toArray from p) (by simp; omega) fun h' eb=>⟨rfl,I.turned (t':=s.toks) (fun b o hb e=>eb b o hb e) f0 f1 f3 f4 f5⟩
  self:=fun _ _ _ _ _ st h=>wpAny_pyIter_tupleiter st h
theorem turn_range {P : Program} {w : World} {K : PySem.W.Frag} {tg : Expr} (it : Addr) (lo : Int) (n : Nat) : Turn P w K tg (Itr lo n) [it] it (fun i h=>IsRangeIter h it (lo + (i : Nat) * 1) ((n : Int) - (i : Nat)) 1) where
  mem:=by simp
  obj:=fun i h st b hb=>by
    have e : b = it:=by simpa using hb
    subst e
    exact ⟨_,st,fun v z=>by
      have z' : Data.fields _ = Data.cell v:=z
      cases z'⟩
  keep:=fun i h h' st k=>k it (by simp) _ st
  item:=by
    intro X hP hw hK hc i pins s σ H E I hf st hg
    subst hP hw hK
    obtain ⟨f0,f1,f2,f3,f4,f5⟩:=hf it (by simp)
    have W:=Walks.range (prog:=X.prog) (w:=X.w) (I.ok.hd hc) it lo 1 n
    refine W.item i s _ _ hg st fun v h' tk hv st' kk=>?_
    obtain ⟨t,rfl⟩:=hv
    have I1 : Inv X pins σ H { s with heap:=h',toks:=tk }:=I.turned (fun b o hb e=>kk b o (by simpa using hb) e) f0 f1 f3 f4 f5
    refine ⟨_,rfl,go_of (s:={ s with heap:=h',toks:=tk }) (n := "range_iterator") st' rfl rfl (by decide) ⟨.int (lo + i),H,I1,⟨t,?_⟩,⟨rfl,rfl⟩,st',fun b hb=>(hf b hb).1⟩⟩
    rw [Int.mul_one]
  done:=by
    intro X hP hw hK hc i pins s σ H E I hf st hg
    subst hP hw hK
    obtain ⟨f0,f1,f2,f3,f4,f5⟩:=hf it (by simp)
    exact wpAny_pyNext_range_end (I.ok.hd hc) st (by have : n ≤ i:=hg; omega) fun h' eb=>⟨rfl,I.turned (t':=s.toks) (fun b o hb e=>eb b o hb e) f0 f1 f3 f4 f5⟩
  self:=fun _ _ _ _ _ st h=>wpAny_pyIter_rangeiter st h
end L2
namespace L2
open PySem PySem.Spec PyProof.Rows
section
variable {X : Cx} {tg : Expr}
def iList (K : PySem.W.Frag) (tl : TE) : TI:=fun σ H R=>tl σ H fun x H1=>∃ a,x = .ref a ∧ (∃ xs,SqL K H1 a xs) ∧ R (Itl K a) H1
def iTup (K : PySem.W.Frag) (tl : TE) : TI:=fun σ H R=>tl σ H fun x H1=>∃ a,x = .ref a ∧ (∃ xs,SqT K H1 a xs) ∧ R (Itt K a) H1
theorem pi_list {l : Expr} {tl : TE} (hl : PE X l tl) : PI X tg l (iList X.K tl):=by
  intro pins s σ H R I h
  refine thn (hl pins s σ H _ I h) fun v s1 ⟨x,H1,I1,r1,q1⟩=>?_
  obtain ⟨a,e,⟨xs,hq⟩,q⟩:=q1
  subst e
  cases r1
  obtain ⟨its,rv,p,hz⟩:=I1.list hq
  refine wpAny_pyIter_list p.isList ?_
  refine ⟨s1.heap.objs.size,[s1.heap.objs.size],_,_,H1,rfl,I1.kept (t':=s1.toks) fun b o e=>Heap.get?_push_of_some _ e,turn_list a _,⟨_,Heap.get?_push_size _ rfl,rfl,rfl⟩,fun b hb=>?_,q⟩
  have e : b = s1.heap.objs.size:=by simpa using hb
  subst e
  exact I1.fpOk (Nat.le_refl _) (I1.hok.fresh (Nat.le_refl _))
theorem pi_tup {l : Expr} {tl : TE} (hl : PE X l tl) : PI X tg l (iTup X.K tl):=by
  intro pins s σ H R I h
  refine thn (hl pins s σ H _ I h) fun v s1 ⟨x,H1,I1,r1,q1⟩=>?_
  obtain ⟨a,e,⟨xs,hq⟩,q⟩:=q1
  subst e
  cases r1
  obtain ⟨its,rv,p,hz⟩:=I1.tuple hq
  refine wpAny_pyIter_tuple (show s1.heap.IsTuple a its.toArray from p) ?_
  refine ⟨s1.heap.objs.size,[s1.heap.objs.size],_,_,H1,rfl,I1.kept (t':=s1.toks) fun b o e=>Heap.get?_push_of_some _ e,turn_tuple a _,⟨_,Heap.get?_push_size _ rfl,rfl,rfl⟩,fun b hb=>?_,q⟩
  have e : b = s1.heap.objs.size:=by simpa using hb
  subst e
  exact I1.fpOk (Nat.le_refl _) (I1.hok.fresh (Nat.le_refl _))
theorem range_it {pins : List (Addr × Obj)} {σ : St} {H : Hp} {s : Shared} {R : It → Hp → Prop} {E : Value → Shared → Prop} {lo hi : Int} {t u v : Tok} {tk : Nat} (I : Inv X pins σ H s) (h1 : -(2 ^ 62) ≤ lo) (h2 : lo < 2 ^ 62) (h3 : -(2 ^ 62) ≤ hi) (h4 : hi < 2 ^ 62)
    (q : R (Itr lo (hi - lo).toNat) H) : wpAny (model X.prog X.w) X.A (pyIter (.ref s.heap.objs.size)) (PIE X pins σ tg R) E { s with heap:=s.heap.push { cls:=.type "range",data:=.fields #[.int lo t,.int hi u,.int 1 v] },toks:=tk }:=by
  refine wpAny_pyIter_range (IsRange.new ..) (small_one h1 h2 h3 h4) ?_
  have I1 : Inv X pins σ H { s with heap:=s.heap.push { cls:=.type "range",data:=.fields #[.int lo t,.int hi u,.int 1 v] },toks:=tk }:=I.kept fun b o e=>Heap.get?_push_of_some _ e
  refine ⟨(s.heap.push { cls:=.type "range",data:=.fields #[.int lo t,.int hi u,.int 1 v] }).objs.size,[(s.heap.push { cls:=.type "range",data:=.fields #[.int lo t,.int hi u,.int 1 v] }).objs.size],_,_,H,rfl,
    I1.kept (t':=tk) fun b o e=>Heap.get?_push_of_some _ e,turn_range _ lo (hi - lo).toNat,?_,fun b hb=>?_,q⟩
  · have e1 : lo + ((0 : Nat) : Int) * 1 = lo:=by simp
    have e2 : (((hi - lo).toNat : Nat) : Int) - ((0 : Nat) : Int) = Builtin.Range.rangeSize lo hi 1:=by rw [rangeSize_one]; split <;> omega
    show IsRangeIter _ _ (lo + ((0 : Nat) : Int) * 1) ((((hi - lo).toNat : Nat) : Int) - ((0 : Nat) : Int)) 1
    rw [e1,e2]
    exact Heap.get?_push_size _ rfl
  · have e : b = (s.heap.push { cls:=.type "range",data:=.fields #[.int lo t,.int hi u,.int 1 v] }).objs.size:=by simpa using hb
    subst e
    exact I1.fpOk (Nat.le_refl _) (I1.hok.fresh (Nat.le_refl _))
def iRng1 (ta : TA) : TI:=fun σ H R=>ta σ H fun vs H1=>∃ j : Int,vs = [.int j] ∧ -(2 ^ 62) ≤ j ∧ j < 2 ^ 62 ∧ R (Itr 0 j.toNat) H1
theorem pi_range1 {a : Expr} {ta : TA} {p pos : Pos} (hg : Gl X "range") (hm : X.mg "range" = none) (ha : PA X [a] ta) (hs : starEach [a] X.env = [(false,eval a X.env)]:=by rfl) : PI X tg (.Call (.Name "range" p) [a] [] pos) (iRng1 ta):=by
  intro pins s σ H R I h
  refine Call_ (ld_blt I hg hm boot_range (PyProof.Rows.callWith_type1 (thn (ha pos pins s σ H _ I h) fun us s1 ⟨vs,H1,I1,r1,q1⟩=>?_) hs rfl))
  obtain ⟨j,e,q1,q2,q⟩:=q1
  subst e
  cases r1 with
  | cons r rr =>
    cases rr
    obtain ⟨t,rfl⟩:=r
    exact call_range_1 (range_it I1 (by omega) (by omega) q1 q2 (by simpa using q))
def tFor (wi : TI) (g : TG) (tb : TS) : TS:=fun D σ H=>wi σ H fun J H1=>∃ W : Nat → Nat → St → Hp → Prop,(∃ m,W 0 m σ H1) ∧ ∀ i m σ H,W i m σ H →
  (J.stop i H ∧ D.nx σ H) ∨ (J.go i H ∧ ∃ N : St → Hp → Prop,(∀ σ' H',N σ' H' → ∃ m',m' < m ∧ W (i + 1) m' σ' H') ∧ ∀ x H',J.yld i H x H' → g x σ H' fun σ2 H2=>tb { D with nx:=N,ct:=N,bk:=D.nx } σ2 H2)
def pinsAt (fp : List Addr) (h : Heap) : List (Addr × Obj):=fp.filterMap fun b=>(h.get? b).map fun o=>(b,o)
theorem mem_pinsAt {fp : List Addr} {h : Heap} {b : Addr} {o : Obj} (hb : b ∈ fp) (e : h.get? b = some o) : (b,o) ∈ pinsAt fp h:=List.mem_filterMap.mpr ⟨b,hb,by rw [e]; rfl⟩
theorem of_pinsAt {fp : List Addr} {h : Heap} {p : Addr × Obj} (hp : p ∈ pinsAt fp h) : p.1 ∈ fp ∧ h.get? p.1 = some p.2:=by
  obtain ⟨b,hb,e⟩:=List.mem_filterMap.mp hp
  cases q : h.get? b with
  | none=>rw [q] at e; cases e
  | some o =>
    rw [q] at e
    have e' : (b,o) = p:=Option.some.inj e
    subst e'
    exact ⟨hb,q⟩
theorem Inv.pinned {pins : List (Addr × Obj)} {σ : St} {H : Hp} {s : Shared} {fp : List Addr} (I : Inv X pins σ H s) (hf : ∀ b ∈ fp,FpOk X pins H b) (ho : ∀ b ∈ fp,∃ o,s.heap.get? b = some o ∧ ∀ v,o.data ≠ .cell v) : Inv X (pins ++ pinsAt fp s.heap) σ H s :=
  I.pins_of fun p hp=>(List.mem_append.mp hp).elim (fun z=>I.pin p (List.mem_append_right _ z)) fun z=>by
    obtain ⟨hb,e⟩:=of_pinsAt z
    obtain ⟨f0,f1,f2,_⟩:=hf p.1 hb
    obtain ⟨o,e',d⟩:=ho p.1 hb
    rw [e] at e'; cases e'
    exact ⟨e,f0,f1,f2,d⟩
theorem Inv.unpinned {pins pl : List (Addr × Obj)} {σ : St} {H : Hp} {s : Shared} (I : Inv X (pins ++ pl) σ H s) : Inv X pins σ H s:=I.pins_of fun p hp=>I.pin p (List.mem_append_right _ (List.mem_append_left _ hp))
theorem ps_for {iter : Expr} {body : List Stmt} {wi : TI} {g : TG} {tb : TS} {pos : Pos} (hp : PassesOwn (model X.prog X.w) X.A X.env X.xe) (hc : X.calm = true) (hi : PI X tg iter wi) (hg : PG X tg g) (hb : PSs X body tb)
    (hs : ∀ x,foldedSetIterable iter X.env x = pure x:=by intro _; rfl) : PS X (.For tg iter body [] pos) (tFor wi g tb):=by
  intro pins s σ H D I h
  refine wpAny_For (thn (hi pins s σ H _ I h) fun v s1 h1=>thn h1 fun itv s2 h2=>?_) hs
  obtain ⟨it,fp,tn,J,H2,e,I2,T,st2,f2,W,⟨m0,w0⟩,turn⟩:=h2
  subst e
  have stat : ∀ {H' : Hp},(∀ b ∈ fp,H' b = none) → ∀ b ∈ fp,FpOk X pins H' b:=fun hn b hb=>⟨hn b hb,(f2 b hb).2⟩
  refine codeAny_forLoop_any (fun n s'=>∃ i σ' H',Inv X pins σ' H' s' ∧ tn i s'.heap ∧ (∀ b ∈ fp,H' b = none) ∧ W i n σ' H') ?_ m0 ⟨0,σ,H2,I2,st2,fun b hb=>(f2 b hb).1,w0⟩
  rintro n s3 ⟨i,σ3,H3,I3,st3,fr3,w3⟩
  rcases turn i n σ3 H3 w3 with ⟨stop,qn⟩ | ⟨go,N,hN,step⟩
  · refine wpAny_passesOwn hp (thn (T.done X rfl rfl rfl hc i pins s3 σ3 H3 X.xe I3 (stat fr3) st3 stop) fun r s4 ⟨hr,I4⟩=>?_)
    subst hr
    exact wpAny_execs_nil ⟨σ3,H3,I4,qn⟩
  · refine wpAny_passesOwn hp (thn (T.item X rfl rfl rfl hc i pins s3 σ3 H3 X.xe I3 (stat fr3) st3 go) fun r s4 ⟨u,hr,h4⟩=>?_)
    subst hr
    refine wpAny_passesOwn hp (thn h4 fun _ s5 ⟨x,H5,I5,r5,y5,st5,fr5⟩=>?_)
    have I5':=I5.pinned (stat fr5) (T.obj _ _ st5)
    refine wpAny_passesOwn hp (thn (hg _ s5 σ3 H5 x u _ I5' r5 (step x H5 y5)) fun _ s6 ⟨σ6,H6,I6,q6⟩=>?_)
    refine wpAny_passesOwn hp (thn (hb _ s6 σ6 H6 _ I6 q6) fun f s7 q7=>?_)
    have again : ∀ {σ7 : St} {H7 : Hp},Inv X (pins ++ pinsAt fp s5.heap) σ7 H7 s7 → N σ7 H7 → ∃ m,m < n ∧ ∃ i σ' H',Inv X pins σ' H' s7 ∧ tn i s7.heap ∧ (∀ b ∈ fp,H' b = none) ∧ W i m σ' H':=fun {σ7 H7} I7 n7=>by
      obtain ⟨m',hm,w7⟩:=hN σ7 H7 n7
      refine ⟨m',hm,i + 1,σ7,H7,I7.unpinned,T.keep _ _ _ st5 fun b hb o e=>(I7.pin (b,o) (List.mem_append_right _ (List.mem_append_right _ (mem_pinsAt hb e)))).1,fun b hb=>?_,w7⟩
      obtain ⟨o,e,d⟩:=T.obj _ _ st5 b hb
      exact (I7.pin (b,o) (List.mem_append_right _ (List.mem_append_right _ (mem_pinsAt hb e)))).2.1
    cases f with
    | next=>obtain ⟨σ7,H7,I7,n7⟩:=q7; exact again I7 n7
    | cont=>obtain ⟨σ7,H7,I7,n7⟩:=q7; exact again I7 n7
    | brk=>obtain ⟨σ7,H7,I7,q7⟩:=q7; exact ⟨σ7,H7,I7.unpinned,q7⟩
    | ret v=>obtain ⟨x7,σ7,H7,I7,r7,q7⟩:=q7; exact ⟨x7,σ7,H7,I7.unpinned,r7,q7⟩
end
theorem for_list {K : PySem.W.Frag} {a : Addr} {xs : List V} {g : TG} {tb : TS} {D : Ends} {σ : St} {H : Hp} (Pv : Nat → St → Hp → Prop) (h0 : Pv 0 σ H) (hl : ∀ i σ H,i ≤ xs.length → Pv i σ H → SqL K H a xs)
    (hs : ∀ i x σ H,xs[i]? = some x → Pv i σ H → g x σ H fun σ2 H2=>tb { D with nx:=Pv (i + 1),ct:=Pv (i + 1),bk:=D.nx } σ2 H2) (hd : ∀ σ H,Pv xs.length σ H → D.nx σ H) :
    ∃ W : Nat → Nat → St → Hp → Prop,(∃ m,W 0 m σ H) ∧ ∀ i m σ H,W i m σ H →
      ((Itl K a).stop i H ∧ D.nx σ H) ∨ ((Itl K a).go i H ∧ ∃ N : St → Hp → Prop,(∀ σ' H',N σ' H' → ∃ m',m' < m ∧ W (i + 1) m' σ' H') ∧ ∀ x H',(Itl K a).yld i H x H' → g x σ H' fun σ2 H2=>tb { D with nx:=N,ct:=N,bk:=D.nx } σ2 H2):=by
  refine ⟨fun i m σ H=>m = xs.length - i ∧ i ≤ xs.length ∧ Pv i σ H,⟨xs.length,by simp,Nat.zero_le _,h0⟩,?_⟩
  rintro i m σ H ⟨rfl,hi,p⟩
  have q:=hl i σ H hi p
  by_cases hlt : i < xs.length
  · refine .inr ⟨⟨xs,xs[i],q,by simp [hlt]⟩,Pv (i + 1),fun σ' H' p'=>⟨xs.length - (i + 1),by omega,rfl,hlt,p'⟩,fun x H' y=>?_⟩
    obtain ⟨e,y⟩:=y
    subst e
    exact hs i x σ _ (y xs q) p
  · have e : i = xs.length:=by omega
    subst e
    exact .inl ⟨⟨xs,q,Nat.le_refl _⟩,hd σ H p⟩
theorem for_range {lo : Int} {n : Nat} {g : TG} {tb : TS} {D : Ends} {σ : St} {H : Hp} (Pv : Nat → St → Hp → Prop) (h0 : Pv 0 σ H)
    (hs : ∀ i σ H,i < n → Pv i σ H → g (.int (lo + i)) σ H fun σ2 H2=>tb { D with nx:=Pv (i + 1),ct:=Pv (i + 1),bk:=D.nx } σ2 H2) (hd : ∀ σ H,Pv n σ H → D.nx σ H) :
    ∃ W : Nat → Nat → St → Hp → Prop,(∃ m,W 0 m σ H) ∧ ∀ i m σ H,W i m σ H →
      ((Itr lo n).stop i H ∧ D.nx σ H) ∨ ((Itr lo n).go i H ∧ ∃ N : St → Hp → Prop,(∀ σ' H',N σ' H' → ∃ m',m' < m ∧ W (i + 1) m' σ' H') ∧ ∀ x H',(Itr lo n).yld i H x H' → g x σ H' fun σ2 H2=>tb { D with nx:=N,ct:=N,bk:=D.nx } σ2 H2):=by
  refine ⟨fun i m σ H=>m = n - i ∧ i ≤ n ∧ Pv i σ H,⟨n,by simp,Nat.zero_le _,h0⟩,?_⟩
  rintro i m σ H ⟨rfl,hi,p⟩
  by_cases hlt : i < n
  · refine .inr ⟨hlt,Pv (i + 1),fun σ' H' p'=>⟨n - (i + 1),by omega,rfl,hlt,p'⟩,fun x H' y=>?_⟩
    obtain ⟨e,y⟩:=y
    subst e y
    exact hs i σ _ hlt p
  · have e : i = n:=by omega
    subst e
    exact .inl ⟨Nat.le_refl _,hd σ H p⟩
end L2
namespace L2
open PySem PySem.Spec PyProof.Rows
abbrev R2:=V → V → Hp → VK → Prop
def OpR (X : Cx) (f : Value → Value → Sem Value) (r : R2) : Prop :=
  ∀ (pins : List (Addr × Obj)) (s : Shared) (σ : St) (H : Hp) (x y : V) (v u : Value) (Q : VK),Inv X pins σ H s → RelV x v → RelV y u → r x y H Q →
    wpAny (model X.prog X.w) X.A (f v u) (EP X pins σ Q) X.xe s
def UnR (X : Cx) (f : Value → Sem Value) (r : V → Hp → VK → Prop) : Prop :=
  ∀ (pins : List (Addr × Obj)) (s : Shared) (σ : St) (H : Hp) (x : V) (v : Value) (Q : VK),Inv X pins σ H s → RelV x v → r x H Q →
    wpAny (model X.prog X.w) X.A (f v) (EP X pins σ Q) X.xe s
def CallR (X : Cx) (f : Value) (r : List V → Hp → VK → Prop) : Prop :=
  ∀ (pins : List (Addr × Obj)) (s : Shared) (σ : St) (H : Hp) (xs : List V) (us : List Value) (Q : VK),Inv X pins σ H s → Vals xs us → r xs H Q →
    wpAny (model X.prog X.w) X.A (call f us) (EP X pins σ Q) X.xe s
def tOp (r : R2) (ta tb : TE) : TE:=fun σ H Q=>ta σ H fun x H1=>tb σ H1 fun y H2=>r x y H2 Q
def tUn (r : V → Hp → VK → Prop) (ta : TE) : TE:=fun σ H Q=>ta σ H fun x H1=>r x H1 Q
def rI (C : Int → Int → Prop) (g : Int → Int → V) : R2:=fun x y H Q=>∃ i j,x = .int i ∧ y = .int j ∧ C i j ∧ Q (g i j) H
def rI0 (g : Int → Int → V) : R2:=fun x y H Q=>∃ i j,x = .int i ∧ y = .int j ∧ Q (g i j) H
def rU (g : Int → V) : V → Hp → VK → Prop:=fun x H Q=>∃ i,x = .int i ∧ Q (g i) H
section
variable {X : Cx} {a b c : Expr} {ta tb tc : TE} {pos : Pos}
theorem binT (ha : PE X a ta) (hb : PE X b tb) {pins : List (Addr × Obj)} {s : Shared} {σ : St} {H : Hp} {R : V → V → Hp → Prop} (I : Inv X pins σ H s)
    (h : ta σ H fun x H1=>tb σ H1 fun y H2=>R x y H2) {Q : Value → Shared → Prop} {f : Value → Value → Sem Value}
    (hf : ∀ v u s2 x y H2,Inv X pins σ H2 s2 → RelV x v → RelV y u → R x y H2 → wpAny (model X.prog X.w) X.A (f v u) Q X.xe s2) :
    wpAny (model X.prog X.w) X.A (eval a X.env) (fun v s₁=>wpAny (model X.prog X.w) X.A (eval b X.env) (fun u s₂=>wpAny (model X.prog X.w) X.A (f v u) Q X.xe s₂) X.xe s₁) X.xe s:=by
  refine thn (ha pins s σ H _ I h) fun v s1 ⟨x,H1,I1,r1,q1⟩=>?_
  refine thn (hb pins s1 σ H1 _ I1 q1) fun u s2 ⟨y,H2,I2,r2,q2⟩=>?_
  exact hf v u s2 x y H2 I2 r1 r2 q2
theorem pe_op {op : Operator} {r : R2} (ho : OpR X (binaryOp op) r) (ha : PE X a ta) (hb : PE X b tb) : PE X (.BinOp a op b pos) (tOp r ta tb):=by
  intro pins s σ H Q I h
  exact wpAny_BinOp (binT ha hb I h fun v u s2 x y H2 I2 rx ry q=>ho pins s2 σ H2 x y v u Q I2 rx ry q)
theorem pe_un {op : UnaryOp} {r : V → Hp → VK → Prop} (ho : UnR X (unaryOp op) r) (ha : PE X a ta) : PE X (.UnaryOp op a pos) (tUn r ta):=by
  intro pins s σ H Q I h
  exact UnaryOp_ (thn (ha pins s σ H _ I h) fun v s1 ⟨x,H1,I1,r1,q1⟩=>ho pins s1 σ H1 x v Q I1 r1 q1)
theorem opI {f : Value → Value → Sem Value} {C : Int → Int → Prop} {g : Int → Int → Int}
    (rule : ∀ (i j : Int) (t u : Tok) (s : Shared) (Q : Value → Shared → Prop) (E : Value → Shared → Prop),C i j → Q (.int (g i j) s.toks) { s with toks:=s.toks + 1 } → wpAny (model X.prog X.w) X.A (f (.int i t) (.int j u)) Q E s) :
    OpR X f (rI C fun i j=>.int (g i j)):=by
  intro pins s σ H x y v u Q I rx ry h
  obtain ⟨i,j,rfl,rfl,hc,q⟩:=h
  obtain ⟨t,rfl⟩:=rx
  obtain ⟨t',rfl⟩:=ry
  exact rule i j t t' s _ _ hc ⟨.int (g i j),H,I.tok _,⟨_,rfl⟩,q⟩
theorem opI0 {f : Value → Value → Sem Value} {g : Int → Int → Int}
    (rule : ∀ (i j : Int) (t u : Tok) (s : Shared) (Q : Value → Shared → Prop) (E : Value → Shared → Prop),Q (.int (g i j) s.toks) { s with toks:=s.toks + 1 } → wpAny (model X.prog X.w) X.A (f (.int i t) (.int j u)) Q E s) :
    OpR X f (rI0 fun i j=>.int (g i j)):=by
  intro pins s σ H x y v u Q I rx ry h
  obtain ⟨i,j,rfl,rfl,q⟩:=h
  obtain ⟨t,rfl⟩:=rx
  obtain ⟨t',rfl⟩:=ry
  exact rule i j t t' s _ _ ⟨.int (g i j),H,I.tok _,⟨_,rfl⟩,q⟩
theorem opB0 {f : Value → Value → Sem Value} {g : Int → Int → Bool}
    (rule : ∀ (i j : Int) (t u : Tok) (s : Shared) (Q : Value → Shared → Prop) (E : Value → Shared → Prop),Q (.bool (g i j)) s → wpAny (model X.prog X.w) X.A (f (.int i t) (.int j u)) Q E s) :
    OpR X f (rI0 fun i j=>.bl (g i j)):=by
  intro pins s σ H x y v u Q I rx ry h
  obtain ⟨i,j,rfl,rfl,q⟩:=h
  obtain ⟨t,rfl⟩:=rx
  obtain ⟨t',rfl⟩:=ry
  exact rule i j t t' s _ _ ⟨.bl (g i j),H,I,rfl,q⟩
def CDiv (i j : Int) : Prop:=0 < j ∧ j < 1073741824
def CPow (i j : Int) : Prop:=0 ≤ j ∧ j ≤ 1000000 ∧ i.natAbs < 2 ^ 64
def CMul (i j : Int) : Prop:=(-(2 ^ 64) < i ∧ i < 2 ^ 64) ∨ (-(2 ^ 64) < j ∧ j < 2 ^ 64)
theorem CMul.ok {i j : Int} (h : CMul i j) : IntMulOk i j:=by
  rcases h with ⟨h1,h2⟩ | ⟨h1,h2⟩
  · exact .of_left (intBits_le_64 h1 h2)
  · exact .of_right (intBits_le_64 h1 h2)
theorem op_add : OpR X (binaryOp .Add) (rI0 fun i j=>.int (i + j)):=opI0 fun _ _ _ _ _ _ _ q=>add_int q
theorem op_sub : OpR X (binaryOp .Sub) (rI0 fun i j=>.int (i - j)):=opI0 fun _ _ _ _ _ _ _ q=>sub_int q
theorem op_mul : OpR X (binaryOp .Mult) (rI CMul fun i j=>.int (i * j)):=opI fun _ _ _ _ _ _ _ hc q=>mul_int q hc.ok
theorem op_fdiv : OpR X (binaryOp .FloorDiv) (rI CDiv fun i j=>.int (i / j)):=opI fun i j _ _ _ _ _ hc q=>by
  have h1 : (0 : Int) < j:=hc.1
  have h2 : j < 1073741824:=hc.2
  exact floordiv_int (by omega) (by rw [Int.fdiv_eq_ediv_of_nonneg i (by omega)]; exact q) (.inl (PyProof.noPylong_small (by omega)))
theorem op_mod : OpR X (binaryOp .Mod) (rI (fun _ j=>0 < j) fun i j=>.int (i % j)):=opI fun i j _ _ _ _ _ hc q=>by
  have h1 : (0 : Int) < j:=hc
  exact mod_int' (by omega) (by rw [Int.fmod_eq_emod_of_nonneg i (by omega)]; exact q)
theorem op_pow : OpR X (binaryOp .Pow) (rI CPow fun i j=>.int (i ^ j.toNat)):=opI fun _ _ _ _ _ _ _ hc q=>pow_int_small hc.1 hc.2.1 hc.2.2 q
theorem unI {f : Value → Sem Value} {g : Int → Int}
    (rule : ∀ (i : Int) (t : Tok) (s : Shared) (Q : Value → Shared → Prop) (E : Value → Shared → Prop),Q (.int (g i) s.toks) { s with toks:=s.toks + 1 } → wpAny (model X.prog X.w) X.A (f (.int i t)) Q E s) :
    UnR X f (rU fun i=>.int (g i)):=by
  intro pins s σ H x v Q I rx h
  obtain ⟨i,rfl,q⟩:=h
  obtain ⟨t,rfl⟩:=rx
  exact rule i t s _ _ ⟨.int (g i),H,I.tok _,⟨_,rfl⟩,q⟩
theorem un_neg : UnR X (unaryOp .USub) (rU fun i=>.int (-i)):=unI fun _ _ _ _ _ q=>neg_int q
end
def scal : V → V → Bool
  | .non,.non=>true | .non,.int _=>true | .int _,.non=>true | .non,.bl _=>true | .bl _,.non=>true | .non,.str _=>true | .str _,.non=>true
  | .int _,.int _=>true | .bl _,.bl _=>true | .str _,.str _=>true | .byt _,.byt _=>true
  | .int _,.str _=>true | .str _,.int _=>true | .bl _,.str _=>true | .str _,.bl _=>true
  | _,_=>false
def rEq : R2:=fun x y H Q=>scal x y = true ∧ Q (.bl (decide (x = y))) H
def rNe : R2:=fun x y H Q=>scal x y = true ∧ Q (.bl (!decide (x = y))) H
theorem dec_int {i j : Int} : decide (V.int i = V.int j) = (i == j):=by
  rw [Bool.eq_iff_iff]
  simp
theorem dec_bl {i j : Bool} : decide (V.bl i = V.bl j) = (i == j):=by
  rw [Bool.eq_iff_iff]
  simp
theorem dec_str {i j : Str} : decide (V.str i = V.str j) = (i == j):=by
  rw [Bool.eq_iff_iff]
  simp
theorem dec_byt {i j : Array UInt8} : decide (V.byt i = V.byt j) = (i.toList == j.toList):=by
  rw [Bool.eq_iff_iff]
  cases i
  cases j
  simp
section
variable {X : Cx} {a b c : Expr} {ta tb tc : TE} {pos : Pos}
theorem fin_bl {pins : List (Addr × Obj)} {σ : St} {H : Hp} {s : Shared} {Q : VK} {k k' : Bool} (I : Inv X pins σ H s) (q : Q (.bl k) H) (e : k = k') : EP X pins σ Q (.bool k') s:=by
  subst e
  exact ⟨.bl k,H,I,rfl,q⟩
theorem op_eq : OpR X (compareOp .Eq) rEq:=by
  intro pins s σ H x y v u Q I rx ry h
  obtain ⟨hs,q⟩:=h
  cases x with
  | non =>
    cases rx
    cases y with
    | non=>cases ry; exact PySem.EqNone.eq_none_none (fin_bl I q (by simp))
    | bl j=>cases ry; exact PySem.EqNone.eq_none_bool (fin_bl I q (by simp))
    | int j=>obtain ⟨t',rfl⟩:=ry; exact PySem.EqNone.eq_none_int (fin_bl I q (by simp))
    | str j=>obtain ⟨t',rfl⟩:=ry; exact PySem.EqNone.eq_none_str (fin_bl I q (by simp))
    | _=>exact absurd (show false = true from hs) Bool.false_ne_true
  | bl i =>
    cases rx
    cases y with
    | non=>cases ry; exact PySem.EqNone.eq_bool_none (fin_bl I q (by simp))
    | bl j=>cases ry; exact eq_bool (fin_bl I q dec_bl)
    | str j=>obtain ⟨t',rfl⟩:=ry; exact PySem.EqMixed.eq_bool_str (fin_bl I q (by simp))
    | _=>exact absurd (show false = true from hs) Bool.false_ne_true
  | int i =>
    obtain ⟨t,rfl⟩:=rx
    cases y with
    | non=>cases ry; exact PySem.EqNone.eq_int_none (fin_bl I q (by simp))
    | int j=>obtain ⟨t',rfl⟩:=ry; exact eq_int (fin_bl I q dec_int)
    | str j=>obtain ⟨t',rfl⟩:=ry; exact PySem.EqMixed.eq_int_str (fin_bl I q (by simp))
    | _=>exact absurd (show false = true from hs) Bool.false_ne_true
  | str i =>
    obtain ⟨t,rfl⟩:=rx
    cases y with
    | non=>cases ry; exact PySem.EqNone.eq_str_none (fin_bl I q (by simp))
    | bl j=>cases ry; exact PySem.EqMixed.eq_str_bool (fin_bl I q (by simp))
    | int j=>obtain ⟨t',rfl⟩:=ry; exact PySem.EqMixed.eq_str_int (fin_bl I q (by simp))
    | str j=>obtain ⟨t',rfl⟩:=ry; exact eq_str (fin_bl I q dec_str)
    | _=>exact absurd (show false = true from hs) Bool.false_ne_true
  | byt i =>
    obtain ⟨t,rfl⟩:=rx
    cases y with
    | byt j=>obtain ⟨t',rfl⟩:=ry; exact PySem.W.eq_bytes (fin_bl I q dec_byt)
    | _=>exact absurd (show false = true from hs) Bool.false_ne_true
  | _=>cases y <;> exact absurd (show false = true from hs) Bool.false_ne_true
theorem op_ne : OpR X (compareOp .NotEq) rNe:=by
  intro pins s σ H x y v u Q I rx ry h
  obtain ⟨hs,q⟩:=h
  cases x with
  | non =>
    cases rx
    cases y with
    | non=>cases ry; exact PySem.EqNone.ne_none_none (fin_bl I q (by simp))
    | bl j=>cases ry; exact PySem.EqNone.ne_none_bool (fin_bl I q (by simp))
    | int j=>obtain ⟨t',rfl⟩:=ry; exact PySem.EqNone.ne_none_int (fin_bl I q (by simp))
    | str j=>obtain ⟨t',rfl⟩:=ry; exact PySem.EqNone.ne_none_str (fin_bl I q (by simp))
    | _=>exact absurd (show false = true from hs) Bool.false_ne_true
  | bl i =>
    cases rx
    cases y with
    | non=>cases ry; exact PySem.EqNone.ne_bool_none (fin_bl I q (by simp))
    | bl j=>cases ry; exact ne_bool (fin_bl I q (congrArg not dec_bl))
    | str j=>obtain ⟨t',rfl⟩:=ry; exact PySem.EqMixed.ne_bool_str (fin_bl I q (by simp))
    | _=>exact absurd (show false = true from hs) Bool.false_ne_true
  | int i =>
    obtain ⟨t,rfl⟩:=rx
    cases y with
    | non=>cases ry; exact PySem.EqNone.ne_int_none (fin_bl I q (by simp))
    | int j=>obtain ⟨t',rfl⟩:=ry; exact ne_int (fin_bl I q (congrArg not dec_int))
    | str j=>obtain ⟨t',rfl⟩:=ry; exact PySem.EqMixed.ne_int_str (fin_bl I q (by simp))
    | _=>exact absurd (show false = true from hs) Bool.false_ne_true
  | str i =>
    obtain ⟨t,rfl⟩:=rx
    cases y with
    | non=>cases ry; exact PySem.EqNone.ne_str_none (fin_bl I q (by simp))
    | bl j=>cases ry; exact PySem.EqMixed.ne_str_bool (fin_bl I q (by simp))
    | int j=>obtain ⟨t',rfl⟩:=ry; exact PySem.EqMixed.ne_str_int (fin_bl I q (by simp))
    | str j=>obtain ⟨t',rfl⟩:=ry; exact ne_str (fin_bl I q (congrArg not dec_str))
    | _=>exact absurd (show false = true from hs) Bool.false_ne_true
  | byt i =>
    obtain ⟨t,rfl⟩:=rx
    cases y with
    | byt j=>obtain ⟨t',rfl⟩:=ry; exact PySem.W.ne_bytes (fin_bl I q (congrArg not dec_byt))
    | _=>exact absurd (show false = true from hs) Bool.false_ne_true
  | _=>cases y <;> exact absurd (show false = true from hs) Bool.false_ne_true
theorem op_lt : OpR X (compareOp .Lt) (rI0 fun i j=>.bl (decide (i < j))):=opB0 fun _ _ _ _ _ _ _ q=>lt_int q
theorem op_gt : OpR X (compareOp .Gt) (rI0 fun i j=>.bl (decide (j < i))):=opB0 fun _ _ _ _ _ _ _ q=>gt_int q
theorem op_isN : OpR X (compareOp .Is) (fun x y H Q=>y = .non ∧ Q (.bl (decide (x = .non))) H):=by
  intro pins s σ H x y v u Q I rx ry h
  obtain ⟨rfl,q⟩:=h
  cases ry
  refine is_none_gen (fin_bl I q ?_)
  cases x <;> first
    | (cases rx; rfl)
    | (obtain ⟨t,rfl⟩:=rx; rfl)
theorem op_notN : OpR X (compareOp .IsNot) (fun x y H Q=>y = .non ∧ Q (.bl (!decide (x = .non))) H):=by
  intro pins s σ H x y v u Q I rx ry h
  obtain ⟨rfl,q⟩:=h
  cases ry
  refine isnot_none_gen (fin_bl I q ?_)
  cases x <;> first
    | (cases rx; rfl)
    | (obtain ⟨t,rfl⟩:=rx; rfl)
theorem OpR.or {f : Value → Value → Sem Value} {r r' : R2} (h : OpR X f r) (h' : OpR X f r') : OpR X f (fun x y H Q=>r x y H Q ∨ r' x y H Q):=by
  intro pins s σ H x y v u Q I rx ry q
  rcases q with q | q
  · exact h pins s σ H x y v u Q I rx ry q
  · exact h' pins s σ H x y v u Q I rx ry q
theorem nomark (b : Expr) {op : CmpOp} (h : op ≠ .In:=by decide) (h2 : op ≠ .NotIn:=by decide) : behindInMarks op b = false:=by
  have e1 : (op == CmpOp.In) = false:=by cases op <;> first | rfl | exact absurd rfl h
  have e2 : (op == CmpOp.NotIn) = false:=by cases op <;> first | rfl | exact absurd rfl h2
  cases b <;> simp [behindInMarks,e1,e2]
theorem pe_cmpR {op : CmpOp} {r : R2} (ho : OpR X (compareOp op) r) (ha : PE X a ta) (hb : PE X b tb) (hm : behindInMarks op b = false) : PE X (.Compare a [op] [b] pos) (tOp r ta tb):=by
  intro pins s σ H Q I h
  exact wpAny_Compare1 (binT ha hb I h fun v u s2 x y H2 I2 rx ry q=>ho pins s2 σ H2 x y v u Q I2 rx ry q) hm
def tTest (t : TE) : TT:=fun σ H Q=>t σ H fun x H'=>∃ k,x = .bl k ∧ Q k H'
theorem pt_cmpR {op : CmpOp} {r : R2} (ho : OpR X (compareOp op) r) (ha : PE X a ta) (hb : PE X b tb) (hm : behindInMarks op b = false) : PT X (.Compare a [op] [b] pos) (tTest (tOp r ta tb)):=by
  intro pins s σ H Q I h
  refine wpAny_isTrue_Compare1 (thn (ha pins s σ H _ I h) fun v s1 ⟨x,H1,I1,r1,q1⟩=>thn (hb pins s1 σ H1 _ I1 q1) fun u s2 ⟨y,H2,I2,r2,q2⟩ =>
    thn (ho pins s2 σ H2 x y v u _ I2 r1 r2 q2) fun c s3 ⟨z,H3,I3,r3,k,e,q3⟩=>?_) hm
  subst e
  cases r3
  exact wpAny_truthy_bool ⟨H3,I3,q3⟩
theorem line63 : (sizeLine : Nat) < 2 ^ 63:=by rw [sizeLine_eq]; decide
theorem vals1 {x : V} {us : List Value} (r : Vals [x] us) : ∃ u,us = [u] ∧ RelV x u:=by
  cases r with
  | cons r1 r2=>cases r2; exact ⟨_,rfl,r1⟩
theorem vals2 {x y : V} {us : List Value} (r : Vals [x,y] us) : ∃ u w',us = [u,w'] ∧ RelV x u ∧ RelV y w':=by
  cases r with
  | cons r1 r2 =>
    cases r2 with
    | cons r3 r4=>cases r4; exact ⟨_,_,rfl,r1,r3⟩
end
end L2
namespace L2
open PySem PySem.Spec PyProof.Rows
structure ObjM (h : Heap) (x dx C : Addr) (mA : Str → Option Value) : Prop where
  obj : h.get? x = some (PySem.W.instObj C dx)
  ns : h.Ns1 dx mA
  ne : dx ≠ x
theorem lookIn_ns {h : Heap} {dx : Addr} {mA : Str → Option Value} (n : h.Ns1 dx mA) : ∃ od,h.get? dx = some od ∧ ∀ name,PySem.W.lookIn name od = some (mA name):=by
  obtain ⟨o,es,ep,ho,hd,hk,_,hm⟩:=n
  refine ⟨o,ho,fun name=>?_⟩
  have e:=hm name
  unfold nsFind findBy at e
  rw [← Array.find?_toList] at e
  unfold PySem.W.lookIn
  rw [hd]
  dsimp only
  split
  · rename_i y q
    rw [q] at e
    exact congrArg some e
  · rename_i q
    rw [q] at e
    have a : es.toList.any (·.refKey) = false:=by
      rw [List.any_eq_false]
      intro y hy
      obtain ⟨z,t,hkey⟩:=hk y (Array.mem_toList_iff.mp hy)
      simp [DictEntry.refKey,hkey]
    have a' : ¬ es.toList.any (·.refKey) = true:=by rw [a]; exact Bool.false_ne_true
    rw [if_neg a']
    exact congrArg some e
theorem ObjM.look {h : Heap} {x dx C : Addr} {mA : Str → Option Value} (I : ObjM h x dx C mA) : ∃ od,PySem.W.InstAt h x (PySem.W.instObj C dx) C (some od) ∧ ∀ name,PySem.W.lookIn name od = some (mA name) :=
  let ⟨od,ho,hl⟩:=lookIn_ns I.ns
  ⟨od,⟨I.obj,rfl,rfl,ho⟩,hl⟩
section
variable {prog : Program} {w : World} {A : Around} {E : Value → Shared → Prop} {s : Shared} {K : PySem.W.Frag} {x dx C f : Addr} {mA : Str → Option Value} {name : Str} {v : Value}
end
def putF (f : Str) (v : V) : List (Str × V) → List (Str × V)
  | []=>[(f,v)]
  | (g,x) :: r=>if g = f then (g,v) :: r else (g,x) :: putF f v r
theorem lookup_putF (f g : Str) (v : V) : ∀ fs : List (Str × V),(putF f v fs).lookup g = if g = f then some v else fs.lookup g
  | []=>by
    show List.lookup g [(f,v)] = _
    by_cases h : g = f
    · have hb : (g == f) = true:=beq_iff_eq.mpr h
      simp only [List.lookup,hb,if_pos h]
    · have hb : (g == f) = false:=beq_eq_false_iff_ne.mpr h
      simp only [List.lookup,hb,if_neg h]
  | (k,x) :: r=>by
    have ih:=lookup_putF f g v r
    rw [show putF f v ((k,x) :: r) = (if k = f then (k,v) :: r else (k,x) :: putF f v r) from rfl]
    by_cases hk : k = f
    · rw [if_pos hk]
      by_cases h : g = k
      · have hb : (g == k) = true:=beq_iff_eq.mpr h
        simp only [List.lookup,hb,if_pos (h.trans hk)]
      · have hb : (g == k) = false:=beq_eq_false_iff_ne.mpr h
        simp only [List.lookup,hb,if_neg (fun e : g = f=>h (e.trans hk.symm))]
    · rw [if_neg hk]
      by_cases h : g = k
      · have hb : (g == k) = true:=beq_iff_eq.mpr h
        simp only [List.lookup,hb,if_neg (fun e : g = f=>hk (h.symm.trans e))]
      · have hb : (g == k) = false:=beq_eq_false_iff_ne.mpr h
        simp only [List.lookup,hb]
        exact ih
theorem keys_putF (f : Str) (v : V) : ∀ fs : List (Str × V),f ∈ (putF f v fs).map (·.1) ∧ ∀ g,g ∈ fs.map (·.1) → g ∈ (putF f v fs).map (·.1)
  | []=>⟨by simp [putF],fun g h=>by simp at h⟩
  | (k,x) :: r=>by
    obtain ⟨i1,i2⟩:=keys_putF f v r
    rw [show putF f v ((k,x) :: r) = (if k = f then (k,v) :: r else (k,x) :: putF f v r) from rfl]
    by_cases hk : k = f
    · rw [if_pos hk]
      subst hk
      exact ⟨by simp,fun g h=>by simpa using h⟩
    · rw [if_neg hk]
      refine ⟨?_,fun g h=>?_⟩
      · rw [List.map_cons]
        exact List.mem_cons_of_mem _ i1
      · rw [List.map_cons] at h ⊢
        rcases List.mem_cons.mp h with e | e
        · exact List.mem_cons.mpr (.inl e)
        · exact List.mem_cons_of_mem _ (i2 g e)
theorem RelO.some_of {v : V} {o : Option Value} (r : RelO (some v) o) : ∃ u,o = some u ∧ RelV v u:=by
  cases o with
  | none=>exact (show False from r).elim
  | some u=>exact ⟨u,rfl,r⟩
theorem handed_of {v : V} {u : Value} (r : RelV v u) : PySem.W.handedIn u = true:=by
  cases v with
  | non=>cases (show u = Value.none from r); rfl
  | bl b=>cases (show u = Value.bool b from r); rfl
  | int i=>obtain ⟨t,e⟩:=(show ∃ t,u = Value.int i t from r); cases e; rfl
  | str x=>obtain ⟨t,e⟩:=(show ∃ t,u = Value.str x t from r); cases e; rfl
  | byt b=>obtain ⟨t,e⟩:=(show ∃ t,u = Value.bytes b t from r); cases e; rfl
  | flt b=>obtain ⟨t,e⟩:=(show ∃ t,u = Value.float b t from r); cases e; rfl
  | ref a=>cases (show u = Value.ref a from r); rfl
  | ty n=>cases (show u = Value.type n from r); rfl
section
variable {P : Program} {w : World} {H H' : Hp} {h h' : Heap} {a C dx : Addr} {fs fs' : List (Str × V)}
theorem ins_get (hok : HOk P w H h) (e : H a = some (.ins C dx fs)) : ∃ mA,ObjM h a dx C mA ∧ (∀ f,RelO (fs.lookup f) (mA f)) ∧ PySem.Within mA (fs.map (·.1)) ∧ fs.length ≤ 1000 ∧ H dx = some (.own a):=by
  obtain ⟨d,z,ne,ob,mA,n,r,q⟩:=(show ObjOk P w H h a (.ins C dx fs) from hok a _ e)
  exact ⟨mA,⟨ob,n,ne⟩,r,q,z,d⟩
end
structure Cls (K : PySem.W.Frag) (C : Addr) : Prop where
  pg : PySem.W.plainGet K C Str.empty = true
  hd : PySem.W.hasDictIn K C = true
  po : PySem.W.plainOver K C = true
  sa : PySem.W.findIn K (.ref C) "__setattr__" = some (some (.builtin "object.__setattr__"))
theorem Cls.get {K : PySem.W.Frag} {C : Addr} (c : Cls K C) (f : Str) : PySem.W.plainGet K C f = true:=c.pg
structure Con (K : PySem.W.Frag) (C : Addr) (f : Str) (v : V) (u : Value) : Prop where
  at_ : PySem.W.findIn K (.ref C) f = some (some u)
  rel : RelV v u
  get : PySem.W.specialIn K u "__get__" = some none
  cp : PySem.W.copiedNames.contains f = false
structure Meth (K : PySem.W.Frag) (C : Addr) (m : Str) (f : Addr) : Prop where
  at_ : PySem.W.findIn K (.ref C) m = some (some (.ref f))
  fn : PySem.W.isFn K (.ref f) = true
  kp : PySem.W.keepIn K (.ref f) = true
section
variable {X : Cx} {pins : List (Addr × Obj)} {σ : St} {H : Hp} {s : Shared} {a C dx : Addr} {fs : List (Str × V)} {f : Str} {v : V} {A : Around} {E : Value → Shared → Prop}
theorem Inv.made (I : Inv X pins σ H s) : Inv X pins σ (upd (upd H s.heap.objs.size (.own (s.heap.objs.size + 1))) (s.heap.objs.size + 1) (.ins C s.heap.objs.size []))
    { s with heap:=(s.heap.push PySem.W.emptyDict).push (PySem.W.instObj C s.heap.objs.size) }:=by
  have e1 : (s.heap.push PySem.W.emptyDict).get? s.heap.objs.size = some PySem.W.emptyDict:=Heap.get?_push_size s.heap rfl
  have e2 : ((s.heap.push PySem.W.emptyDict).push (PySem.W.instObj C s.heap.objs.size)).get? (s.heap.objs.size + 1) = some (PySem.W.instObj C s.heap.objs.size):=by
    have:=Heap.get?_push_size (s.heap.push PySem.W.emptyDict) (o:=PySem.W.instObj C s.heap.objs.size) rfl
    rwa [Heap.size_push] at this
  have e3 : (s.heap.push PySem.W.emptyDict).Ns s.heap.objs.size (fun _=>none):=⟨PySem.W.emptyDict,#[],_,e1,rfl,(fun e he=>absurd he (by simp)),fun _=>rfl⟩
  have I1:=I.laid (a:=s.heap.objs.size) (o:=.own (s.heap.objs.size + 1)) (h':=s.heap.push PySem.W.emptyDict) (t':=s.toks) (fun b u q=>Heap.get?_push_of_some _ q) (Nat.le_refl _) ⟨_,e1⟩
  refine I1.laid (a:=s.heap.objs.size + 1) (o:=.ins C s.heap.objs.size []) (t':=s.toks) (fun b u q=>Heap.get?_push_of_some _ q) (Nat.le_of_eq (Heap.size_push _ _)) ?_
  have ne : s.heap.objs.size ≠ s.heap.objs.size + 1:=Nat.ne_of_lt (Nat.lt_succ_self _)
  refine ⟨by rw [upd_ne ne,upd_same],Nat.zero_le _,ne,e2,fun _=>none,(Heap.Ns1.of_empty e3).at fun o q=>Heap.get?_push_of_some _ q,fun _=>True.intro,fun y hy=>absurd rfl hy⟩
theorem attr_of {prog : Program} {w : World} {env : Env} {e : Expr} {f : Str} {pos : Pos} {s : Shared} {Q : Value → Shared → Prop} (hb : attributeBase e f env (eval e env) = eval e env)
    (h : wpAny (model prog w) A (eval e env) (fun o s₁=>wpAny (model prog w) A (getAttr o f true) Q E s₁) E s) : wpAny (model prog w) A (eval (.Attribute e f pos) env) Q E s :=
  Attribute_any_ h (by rw [arm_eval_Attribute,hb])
end
section
variable {X : Cx} {o e value : Expr} {f : Str} {pos pos' tpos : Pos} {ta tv : TE}
end
section
variable {X : Cx} {pins : List (Addr × Obj)} {σ : St} {H : Hp} {s : Shared} {A : Around} {E : Value → Shared → Prop} {Q : Value → Shared → Prop} {c : Value} {b : Bool}
inductive TyOf (K : PySem.W.Frag) (H : Hp) : V → Value → Prop where
  | non : TyOf K H .non (.type "NoneType")
  | bl (x : Bool) : TyOf K H (.bl x) (.type "bool")
  | int (i : Int) : TyOf K H (.int i) (.type "int")
  | str (x : Str) : TyOf K H (.str x) (.type "str")
  | flt (x : UInt64) : TyOf K H (.flt x) (.type "float")
  | lst {a : Addr} {xs : List V} (e : H a = some (.lst xs)) : TyOf K H (.ref a) (.type "list")
  | frz {a : Addr} {o : Obj} {xs : List V} (e : H a = some (.frz o (.lst xs))) : TyOf K H (.ref a) (.type "list")
  | tup {a : Addr} {xs : List V} (e : H a = some (.tup xs)) : TyOf K H (.ref a) (.type "tuple")
  | dK {a : Addr} {kvs : List (Key × V)} (e : H a = some (.dK kvs)) : TyOf K H (.ref a) (.type "dict")
  | dT {a : Addr} {kvs : List (List Key × V)} (e : H a = some (.dT kvs)) : TyOf K H (.ref a) (.type "dict")
  | ins {a C dx : Addr} {fs : List (Str × V)} (e : H a = some (.ins C dx fs)) (cl : Cls K C) (ha : PySem.W.findIn K (.ref C) "__class__" = some (some (.builtin "object.__class__")))
      (hn : PySem.W.specialIn K (.builtin "object.__class__") "__get__" = some (some (.builtin "getset_descriptor.__get__"))) (htk : PySem.W.takesIn K (.builtin "object.__class__") = some true)
      (hm : PySem.W.mroIn K C (.type "object") = some true) : TyOf K H (.ref a) (.ref C)
theorem isinst_ok {x : V} {u t : Value} (I : Inv X pins σ H s) (rx : RelV x u) (ty : TyOf X.K H x t) (e : PySem.W.kitOne X.K t c = some b) (h : ∀ tk,Q (.bool b) { s with toks:=tk }) :
    wpAny (model X.prog X.w) A (call (.builtin "isinstance") [u,c]) Q E s:=by
  cases ty with
  | non=>cases (show u = Value.none from rx); exact PySem.W.kia_one PySem.W.kitx_none I.kIn True.intro e (fun z=>nomatch z) h
  | bl y=>cases (show u = Value.bool y from rx); exact PySem.W.kia_one PySem.W.kitx_bool I.kIn True.intro e (fun z=>nomatch z) h
  | int i=>obtain ⟨t,q⟩:=(show ∃ t,u = Value.int i t from rx); cases q; exact PySem.W.kia_one PySem.W.kitx_int I.kIn True.intro e (fun z=>nomatch z) h
  | str y=>obtain ⟨t,q⟩:=(show ∃ t,u = Value.str y t from rx); cases q; exact PySem.W.kia_one PySem.W.kitx_str I.kIn True.intro e (fun z=>nomatch z) h
  | flt y=>obtain ⟨t,q⟩:=(show ∃ t,u = Value.float y t from rx); cases q; exact PySem.W.kia_one PySem.W.kitx_float I.kIn True.intro e (fun z=>nomatch z) h
  | @lst a xs ea =>
    cases (show u = Value.ref a from rx)
    obtain ⟨_,_,n,_,h1⟩:=(show ObjOk X.prog X.w H s.heap a (.lst xs) from I.hok a _ ea)
    exact PySem.W.kia_one PySem.W.kitx_list I.kIn ⟨_,h1,rfl⟩ e (fun z=>nomatch z) h
  | @frz a ob xs ea =>
    cases (show u = Value.ref a from rx)
    obtain ⟨_,_,_,n,_,h1⟩:=(show ObjOk X.prog X.w H s.heap a (.frz ob (.lst xs)) from I.hok a _ ea)
    exact PySem.W.kia_one PySem.W.kitx_list I.kIn ⟨_,h1,rfl⟩ e (fun z=>nomatch z) h
  | @tup a xs ea =>
    cases (show u = Value.ref a from rx)
    obtain ⟨_,_,_,p⟩:=(show ObjOk X.prog X.w H s.heap a (.tup xs) from I.hok a _ ea)
    obtain ⟨o,h1,h2,_⟩:=p
    exact PySem.W.kia_one PySem.W.kitx_tuple I.kIn ⟨o,h1,h2⟩ e (fun z=>nomatch z) h
  | @dK a kvs ea =>
    cases (show u = Value.ref a from rx)
    obtain ⟨_,_,vs,_,p⟩:=(show ObjOk X.prog X.w H s.heap a (.dK kvs) from I.hok a _ ea)
    obtain ⟨o,es,ep,h1,h2,_⟩:=p
    exact PySem.W.kia_one PySem.W.kitx_dict I.kIn ⟨o,h1,h2.1⟩ e (fun z=>nomatch z) h
  | @dT a kvs ea =>
    cases (show u = Value.ref a from rx)
    obtain ⟨_,_,xs,_,o,es,ep,h1,h2,_⟩:=(show ObjOk X.prog X.w H s.heap a (.dT kvs) from I.hok a _ ea)
    exact PySem.W.kia_one PySem.W.kitx_dict I.kIn ⟨o,h1,h2.1⟩ e (fun z=>nomatch z) h
  | @ins a C dx fs ea cl ha hn htk hm =>
    cases (show u = Value.ref a from rx)
    obtain ⟨mA,O,_⟩:=ins_get I.hok ea
    obtain ⟨od,J,_⟩:=O.look
    exact PySem.W.kia_one (PySem.W.kitx_own (cl.get _) cl.hd ha hn htk hm) I.kIn J e (fun z=>nomatch z) h
end
end L2
namespace L2
open PySem PySem.Spec PyProof.Rows
structure Room (k : Nat) (A : Around) : Prop where
  hd : A.handled = none
  dp : A.depth + 3 * k + 5 < recursionLimit
  un : A.units + 16 * k + 200 < cLine
theorem Room.mono {j k : Nat} {A : Around} (r : Room k A) (h : j ≤ k) : Room j A:=⟨r.hd,by have:=r.dp; omega,by have:=r.un; omega⟩
theorem Room.deeper {k : Nat} {A : Around} (r : Room (k + 1) A) (env : Env) : Room k (A.deeper env) :=
  ⟨r.hd,by have:=r.dp; show A.depth + 1 + 3 * k + 5 < _; omega,by have:=r.un; show A.units + 3 + 16 * k + 200 < _; omega⟩
theorem Room.in1 {k : Nat} {A : Around} (r : Room (k + 1) A) : Room k A.in1 :=
  ⟨r.hd,by have:=r.dp; show A.depth + 3 * k + 5 < _; omega,by have:=r.un; show A.units + 1 + 16 * k + 200 < _; omega⟩
theorem make_depth {A : Around} {C : Addr} {us : List Value} {kw : List (Str × Value)} : (A.under (.builtin "type.__call__" ⟨.ref C :: us,kw⟩)).depth = A.depth + 1:=by
  first | rfl | simp [Around.under,Code.weight,Code.isCreation,Code.isGuard,Code.isCaller,Code.frames,Code.isFrame,guardIds]
theorem make_units {A : Around} {C : Addr} {us : List Value} {kw : List (Str × Value)} : (A.under (.builtin "type.__call__" ⟨.ref C :: us,kw⟩)).units = A.units + 1:=by
  first | rfl | simp [Around.under,Code.cUnits,Code.frames,Code.isFrame]
theorem Room.make {k : Nat} {A : Around} (r : Room (k + 1) A) (C : Addr) (us : List Value) (kw : List (Str × Value)) : Room k (A.under (.builtin "type.__call__" ⟨.ref C :: us,kw⟩)) :=
  ⟨r.hd,by have:=r.dp; rw [make_depth]; omega,by have:=r.un; rw [make_units]; omega⟩
theorem Room.depth {k : Nat} {A : Around} (r : Room k A) : A.depth < recursionLimit:=by have:=r.dp; omega
theorem Room.units {k : Nat} {A : Around} (r : Room k A) : A.units + 64 < cLine:=by have:=r.un; omega
def tNil : TA:=fun _ H Q=>Q [] H
def tCons (ta : TE) (tr : TA) : TA:=fun σ H Q=>ta σ H fun x H1=>tr σ H1 fun xs H2=>Q (x :: xs) H2
section
variable {X : Cx} {e : Expr} {es : List Expr} {te : TE} {t : TA} {pos : Pos}
theorem pa_nil : PA X [] tNil:=fun _ _ _ _ H Q I h=>Calls.spliced_nil ⟨[],H,I,.nil,h⟩
theorem pa_cons (ha : PE X e te) (hr : PA X es t) (hs : starEach (e :: es) X.env = (false,eval e X.env) :: starEach es X.env:=by rfl) : PA X (e :: es) (tCons te t):=by
  intro pos pins s σ H Q I h
  rw [hs]
  show wpAny _ _ (spliced ((false,eval e X.env) :: backTo pos (starEach es X.env))) _ _ s
  refine Calls.spliced_cons (thn (ha pins s σ H _ I h) fun u s1 ⟨x,H1,I1,r1,q1⟩=>?_)
  exact thn (hr pos pins s1 σ H1 _ I1 q1) fun us s2 ⟨xs,H2,I2,r2,q2⟩=>⟨x :: xs,H2,I2,.cons r1 r2,q2⟩
def tTup (t : TA) : TE:=fun σ H Q=>t σ H fun xs H1=>xs.length ≤ sizeLine ∧ ∀ p,H1 p = none → Q (.ref p) (upd H1 p (.tup xs))
def tLst (t : TA) : TE:=fun σ H Q=>t σ H fun xs H1=>xs.length ≤ sizeLine ∧ ∀ p,H1 p = none → Q (.ref p) (upd H1 p (.lst xs))
theorem pe_tup {x1} (h : PA X es t) : PE X (.Tuple es x1 pos) (tTup t):=by
  intro pins s σ H Q I hq
  refine wpAny_Tuple_spliced (thn (h pos pins s σ H _ I hq) fun us s1 ⟨xs,H1,I1,r,z,q⟩=>⟨by rw [← r.length]; exact z,?_⟩)
  have hf : H1 s1.heap.objs.size = none:=I1.hok.fresh (Nat.le_refl _)
  refine ⟨.ref s1.heap.objs.size,upd H1 s1.heap.objs.size (.tup xs),I1.laid (t':=s1.toks) (fun b u e=>Heap.get?_push_of_some _ e) (Nat.le_refl _) ?_,rfl,q _ hf⟩
  exact ⟨z,us,r,⟨_,Heap.get?_push_size _ rfl,rfl,_,rfl,rfl⟩⟩
theorem pe_lst (h : PA X es t) : PE X (.List es pos) (tLst t):=by
  intro pins s σ H Q I hq
  refine wpAny_List_spliced (thn (h pos pins s σ H _ I hq) fun us s1 ⟨xs,H1,I1,r,z,q⟩=>⟨by rw [← r.length]; exact z,?_⟩)
  have hf : H1 s1.heap.objs.size = none:=I1.hok.fresh (Nat.le_refl _)
  refine ⟨.ref s1.heap.objs.size,upd H1 s1.heap.objs.size (.lst xs),I1.laid (t':=s1.toks) (fun b u e=>Heap.get?_push_of_some _ e) (Nat.le_refl _) ?_,rfl,q _ hf⟩
  exact ⟨z,us,0,r,Heap.get?_push_size _ rfl⟩
end
abbrev Sp:=List V → Hp → VK → XK → Prop
abbrev CXT:=List Env → Hp → Shared → XK → Value → Shared → Prop
structure Env0 (P : Program) (w : World) (K : PySem.W.Frag) (mg : Str → Option Value) (base : Heap) (A : Around) (outer : List Env) (s : Shared) (H : Hp) : Prop where
  frames : A.frames = some outer
  mod : Mod K mg base
  bs : ∀ b o,base.get? b = some o → s.heap.get? b = some o ∧ H b = none
  bsz : base.objs.size ≤ s.heap.objs.size
  funs : s.heap.FunFrames base outer
  frf : ∀ b ∈ frs outer,H b = none
  hok : HOk P w H s.heap
  bare : AllBare s.gens
def CE (outer : List Env) (P : Program) (w : World) (H : Hp) (s : Shared) (Q : VK) (u : Value) (s' : Shared) : Prop :=
  ∃ v H',s'.os = s.os ∧ AllBare s'.gens ∧ Un (frs outer) [] H H' s.heap s'.heap ∧ HOk P w H' s'.heap ∧ RelV v u ∧ Q v H'
def CR (CX : CXT) (outer : List Env) (P : Program) (w : World) (H : Hp) (s : Shared) (Q : VK) (E : XK) (r : Result) (s' : Shared) : Prop :=
  match r with
  | .ok (.ret u)=>CE outer P w H s Q u s'
  | .ok _=>False
  | .error e=>CX outer H s E e s'
structure FnOk (P : Program) (w : World) (K : PySem.W.Frag) (mg : Str → Option Value) (base : Heap) (CX : CXT) (k : Nat) (f : Addr) (fd : FuncData) (ps : List Str) (sp : Sp) : Prop where
  len : ∀ vs H Q E,sp vs H Q E → vs.length = ps.length
  run : ∀ (A : Around) (outer : List Env) (s : Shared) (H : Hp) (args : Args) (us : List Value) (vs : List V) (Q : VK) (E : XK),Room k A → Env0 P w K mg base A outer s H → BindsTo s fd args (ps.zip us) → Vals vs us → sp vs H Q E →
    codeAny (model P w) A (.call (.ref f) args) (CR CX outer P w H s Q E) s
theorem FnOk.mono {P : Program} {w : World} {K : PySem.W.Frag} {mg : Str → Option Value} {base : Heap} {CX : CXT} {j k : Nat} {f : Addr} {fd : FuncData} {ps : List Str} {sp : Sp} (F : FnOk P w K mg base CX j f fd ps sp) (h : j ≤ k) :
    FnOk P w K mg base CX k f fd ps sp:=⟨F.len,fun A outer s H args us vs Q E hr=>F.run A outer s H args us vs Q E (hr.mono h)⟩
theorem Env0.make {P : Program} {w : World} {K : PySem.W.Frag} {mg : Str → Option Value} {base : Heap} {A : Around} {outer : List Env} {s : Shared} {H : Hp} (e : Env0 P w K mg base A outer s H) (C : Addr) (us : List Value) (kw : List (Str × Value)) :
    Env0 P w K mg base (A.under (.builtin "type.__call__" ⟨.ref C :: us,kw⟩)) outer s H:=⟨by first | exact e.frames | (simpa [Around.under,Code.envs,Code.isFrame,pushEnvs] using e.frames),e.mod,e.bs,e.bsz,e.funs,e.frf,e.hok,e.bare⟩
theorem Env0.in1 {P : Program} {w : World} {K : PySem.W.Frag} {mg : Str → Option Value} {base : Heap} {A : Around} {outer : List Env} {s : Shared} {H : Hp} (e : Env0 P w K mg base A outer s H) :
    Env0 P w K mg base A.in1 outer s H:=⟨e.frames,e.mod,e.bs,e.bsz,e.funs,e.frf,e.hok,e.bare⟩
section
variable {X : Cx} {pins : List (Addr × Obj)} {σ : St} {H : Hp} {s s' : Shared}
theorem Inv.env0 (I : Inv X pins σ H s) : Env0 X.prog X.w X.K X.mg X.base X.A X.stack s H :=
  ⟨I.ok.frames,I.ok.mod,I.bs,Nat.le_trans I.ok.bsz I.sz,I.stack,I.stkFree,I.hok,I.bare⟩
theorem Inv.after {Q : VK} {u : Value} (I : Inv X pins σ H s) (h : CE X.stack X.prog X.w H s Q u s') : EP X pins σ Q u s':=by
  obtain ⟨v,H',os,bare,un,hok,r,q⟩:=h
  obtain ⟨hh,g,d,t,os'⟩:=s'
  obtain rfl : os' = s.os:=os
  exact ⟨v,H',I.call (h':=hh) (g':=g) (d':=d) (t':=t) (ch:=[]) un hok bare (fun b z=>absurd z (by simp)),r,q⟩
end
def tCall (sp : Sp) (dvs : List V) (E : XK) (t : TA) : TE:=fun σ H Q=>t σ H fun vs H1=>sp (vs ++ dvs) H1 Q E
def Binds (K : PySem.W.Frag) (fd : FuncData) (ps : List Str) (ds : List Value) : Prop :=
  ∀ (s : Shared) (us : List Value),K.In s.heap → (us ++ ds).length = ps.length → BindsTo s fd ⟨us,[]⟩ (ps.zip (us ++ ds))
theorem Binds.all {K : PySem.W.Frag} {fd : FuncData} {ps : List Str} (h : ∀ us : List Value,us.length = ps.length → bindArgs fd ⟨us,[]⟩ = pure (ps.zip us)) : Binds K fd ps []:=fun s us _ hl=>by
  rw [List.append_nil] at hl ⊢
  exact .of_eq (h us hl)
def Passes (CX : CXT) (X : Cx) (E : XK) : Prop:=∀ (pins : List (Addr × Obj)) (σ : St) (H : Hp) (s : Shared) (e : Value) (s' : Shared),Inv X pins σ H s → CX X.stack H s E e s' → X.xe e s'
section
variable {X : Cx} {CX : CXT} {k : Nat} {f C : Addr} {fd : FuncData} {ps : List Str} {sp : Sp} {dvs : List V} {ds : List Value} {E : XK} {x m : Str} {p pos apos : Pos} {e o : Expr} {es : List Expr} {ta : TE} {t : TA}
theorem run_fn {pins : List (Addr × Obj)} {σ : St} {H : Hp} {s : Shared} {Q : VK} {us : List Value} {vs : List V} (F : FnOk X.prog X.w X.K X.mg X.base CX k f fd ps sp) (hr : Room k X.A) (hb : Binds X.K fd ps ds) (hd : Vals dvs ds) (hx : Passes CX X E)
    (I : Inv X pins σ H s) (r : Vals vs us) (h : sp (vs ++ dvs) H Q E) : wpAny (model X.prog X.w) X.A (call (.ref f) us) (EP X pins σ Q) X.xe s:=by
  have r2 : Vals (vs ++ dvs) (us ++ ds):=r.append hd
  have hl : (us ++ ds).length = ps.length:=by rw [← r2.length]; exact F.len _ _ _ _ h
  refine wpAny_call (codeAny_mono (F.run X.A X.stack s H ⟨us,[]⟩ (us ++ ds) (vs ++ dvs) Q E hr I.env0 (hb s us I.kIn hl) r2 h) fun r s' hq=>?_)
  cases r with
  | error e=>exact hx pins σ H s e s' I hq
  | ok fl =>
    cases fl with
    | ret u=>exact I.after hq
    | next=>exact False.elim hq
    | brk=>exact False.elim hq
    | cont=>exact False.elim hq
theorem pe_call (F : FnOk X.prog X.w X.K X.mg X.base CX k f fd ps sp) (hr : Room k X.A) (hg : Gl X x) (hm : X.mg x = some (.ref f)) (hk : PySem.W.keepIn X.K (.ref f) = true) (hb : Binds X.K fd ps ds) (hd : Vals dvs ds) (hx : Passes CX X E)
    (ha : PA X (e :: es) t) (hdb : (x == ("__debug__" : Str)) = false:=by decide) (he : starEach (e :: es) X.env = (false,eval e X.env) :: starEach es X.env:=by rfl) (hpl : (backTo pos (starEach es X.env)).any (·.1) = false:=by rfl) :
    PE X (.Call (.Name x p) (e :: es) [] pos) (tCall sp dvs E t):=by
  intro pins s σ H Q I h
  refine wpAny_Call_Name_kw (ld_glob I hg hm ?_ hdb)
  refine PySem.W.callWith_K (h₀:=X.base) I.ok.mod.kin hk (thn (ha pos pins s σ H _ I h) fun us s1 ⟨vs,H1,I1,r,q⟩=>⟨I1.kIn,?_⟩) he hpl
  exact run_fn F hr hb hd hx I1 r q
structure Mk (K : PySem.W.Frag) (C f : Addr) : Prop where
  makes : PySem.W.makesIn K C = true
  init : PySem.W.findIn K (.ref C) "__init__" = some (some (.ref f))
  fn : PySem.W.isFn K (.ref f) = true
  kp : PySem.W.keepIn K (.ref C) = true
end
section
variable {X : Cx} {CX : CXT} {k : Nat} {f C : Addr} {fd : FuncData} {ps ks : List Str} {sp : Sp} {E : XK} {x m : Str} {p pos apos kpos : Pos} {e o : Expr} {es : List Expr} {kws : List Keyword} {te ta : TE} {t tk : TA} {nm : Option Str}
structure KBinds (K : PySem.W.Frag) (fd : FuncData) (ps ks : List Str) (g : List Value → List Value → List Value) (gV : List V → List V → List V) : Prop where
  to : ∀ (s : Shared) (us ws : List Value),K.In s.heap → (g us ws).length = ps.length → BindsTo s fd ⟨us,ks.zip ws⟩ (ps.zip (g us ws))
  rel : ∀ {vs : List V} {us : List Value} {zs : List V} {ws : List Value},Vals vs us → Vals zs ws → Vals (gV vs zs) (g us ws)
variable {g : List Value → List Value → List Value} {gV : List V → List V → List V}
end
structure FnScope (N P : List Str) (sc : Scope) : Prop where
  kind : sc.kind = .function
  co : sc.isCoroutine = false
  gen : sc.isGenerator = false
  nd : N.Nodup
  pre : N.take P.length = P
  par : ∀ x ∈ P,sc.names.lookup x = some .local ∨ sc.names.lookup x = some .cell
  nofree : ∀ y ∈ sc.names,y.2 ≠ .free
theorem bindL_out {kindOf : Str → Option NameKind} {x : Str} : ∀ {binds : List (Str × Value)} {m : Str → Option Value},(∀ v,(x,v) ∉ binds) → bindL kindOf binds m x = m x
  | [],_,_=>rfl
  | (n,v) :: r,m,h=>by
    unfold bindL
    rw [bindL_out fun w hw=>h w (List.mem_cons_of_mem _ hw)]
    split
    · have : x ≠ n:=by rintro rfl; exact h v List.mem_cons_self
      simp [this]
    · rfl
theorem bindC_out {kindOf : Str → Option NameKind} {x : Str} : ∀ {binds : List (Str × Value)} {m : Str → Option Value},(∀ v,(x,v) ∉ binds) → bindC kindOf binds m x = m x
  | [],_,_=>rfl
  | (n,v) :: r,m,h=>by
    unfold bindC
    rw [bindC_out fun w hw=>h w (List.mem_cons_of_mem _ hw)]
    split
    · rfl
    · have : x ≠ n:=by rintro rfl; exact h v List.mem_cons_self
      simp [this]
theorem bindL_get {kindOf : Str → Option NameKind} {x : Str} {v : Value} : ∀ {P : List Str} {vs : List Value} {i : Nat} {m : Str → Option Value},P.Nodup → P[i]? = some x → vs[i]? = some v → kindOf x = some .local →
    bindL kindOf (P.zip vs) m x = some v
  | [],_,_,_,_,h,_,_=>by simp at h
  | _ :: _,[],_,_,_,_,h,_=>by simp at h
  | p :: P,w :: vs,0,m,nd,h1,h2,hk=>by
    simp at h1 h2; subst h1; subst h2
    show bindL kindOf ((p,w) :: P.zip vs) m p = _
    unfold bindL
    rw [bindL_out fun v hv=>(List.nodup_cons.mp nd).1 (List.of_mem_zip hv).1,if_pos hk]
    simp
  | p :: P,w :: vs,i + 1,m,nd,h1,h2,hk=>by
    show bindL kindOf ((p,w) :: P.zip vs) m x = _
    unfold bindL
    exact bindL_get (i:=i) (List.nodup_cons.mp nd).2 (by simpa using h1) (by simpa using h2) hk
theorem bindC_get {kindOf : Str → Option NameKind} {x : Str} {v : Value} : ∀ {P : List Str} {vs : List Value} {i : Nat} {m : Str → Option Value},P.Nodup → P[i]? = some x → vs[i]? = some v → kindOf x ≠ some .local →
    bindC kindOf (P.zip vs) m x = some v
  | [],_,_,_,_,h,_,_=>by simp at h
  | _ :: _,[],_,_,_,_,h,_=>by simp at h
  | p :: P,w :: vs,0,m,nd,h1,h2,hk=>by
    simp at h1 h2; subst h1; subst h2
    show bindC kindOf ((p,w) :: P.zip vs) m p = _
    unfold bindC
    rw [bindC_out fun v hv=>(List.nodup_cons.mp nd).1 (List.of_mem_zip hv).1,if_neg hk]
    simp
  | p :: P,w :: vs,i + 1,m,nd,h1,h2,hk=>by
    show bindC kindOf ((p,w) :: P.zip vs) m x = _
    unfold bindC
    exact bindC_get (i:=i) (List.nodup_cons.mp nd).2 (by simpa using h1) (by simpa using h2) hk
def start (N : List Str) (vs : List V) : St:=vs.map some ++ List.replicate (N.length - vs.length) none
def cxOf (CX : CXT) (P : Program) (w : World) (K : PySem.W.Frag) (mg : Str → Option Value) (base : Heap) (N : List Str) (qual : Str) (scope : Scope) (f : Addr) (cd : Value) (A : Around) (outer : List Env) (s : Shared) (H : Hp) (E : XK) : Cx where
  prog:=P
  w:=w
  K:=K
  mg:=mg
  base:=base
  A:=A.deeper (envOfC qual scope s.heap.objs.size f cd)
  N:=N
  s₀:=s
  H₀:=H
  env:=envOfC qual scope s.heap.objs.size f cd
  outer:=outer
  stack:=envOfC qual scope s.heap.objs.size f cd :: outer
  ex:=[]
  calm:=true
  fn:=fun _=>true
  pn:=[]
  xe:=fun e s'=>wpAny (model P w) (A.deeper (envOfC qual scope s.heap.objs.size f cd)) (leaving (envOfC qual scope s.heap.objs.size f cd) e) (fun _ s''=>CX outer H s E e s'') (fun e' s''=>CX outer H s E e' s'') s'
theorem cell_has {sc : Scope} {n : Nat} {x : Str} (h : sc.names.lookup x = some .cell) : ∃ c,(cellsFrom n sc.names []).lookup x = some c:=by
  have q:=PySem.W.cellsFrom_some sc.names n [] (.inl h)
  exact Option.isSome_iff_exists.mp q
theorem inv_start {CX : CXT} {P : Program} {w : World} {K : PySem.W.Frag} {mg : Str → Option Value} {base : Heap} {N ps : List Str} {qual : Str} {scope : Scope} {f : Addr} {cd : Value} {A : Around} {outer : List Env} {s s1 : Shared} {H : Hp} {E : XK} {us : List Value} {vs : List V}
    (S : FnScope N ps scope) (hd : A.handled = none) (e0 : Env0 P w K mg base A outer s H) (hl : vs.length = ps.length) (r : Vals vs us)
    (x : InCallC s s.heap.objs.size (bindL (envOfC qual scope s.heap.objs.size f cd).kindOf (ps.zip us) fun _=>none) (cellsFrom (s.heap.objs.size + 1) scope.names []) (bindC (envOfC qual scope s.heap.objs.size f cd).kindOf (ps.zip us) fun _=>none) s1) :
    Inv (cxOf CX P w K mg base N qual scope f cd A outer s H E) [] (start N vs) H s1:=by
  have hpl : ps.length ≤ N.length:=by have:=congrArg List.length S.pre; rw [List.length_take] at this; omega
  obtain ⟨h1,tk,rfl,hk⟩:=x.done
  have noA : ∀ b : Addr,b ∉ (cxOf CX P w K mg base N qual scope f cd A outer s H E).ex:=fun b z=>absurd (show b ∈ ([] : List Addr) from z) (by simp)
  refine ⟨⟨e0.mod,S.kind,rfl,rfl,Nat.le_refl _,fun y z c h1 h2=>?_,fun y hy=>?_,fun y c _ h=>?_,fun _=>hd,Around.frames_deeper e0.frames,.inr ⟨rfl,rfl⟩,fun b z=>absurd z (noA b),e0.bs,e0.bsz,fun b _ _=>noA b,fun b z=>absurd z (noA b),e0.funs,e0.frf⟩,
    rfl,e0.bare,Un.kept hk,⟨_,x.toInCall.ns,fun i y v h1 h2 h3=>?_⟩,fun y c h=>⟨_,x.cell y c h⟩,e0.hok.fresh (Nat.le_refl _),fun y c h=>?_,fun p hp=>absurd (show p ∈ ([] : List (Addr × Obj)) from hp) (by simp),e0.hok.kept hk,?_⟩
  · exact name_of_addr x.apart (PySem.mem_of_lookup h1) (PySem.mem_of_lookup h2)
  · have hy : scope.names.lookup y = some .cell ∨ scope.names.lookup y = some .free:=hy
    rcases hy with hy | hy
    · exact cell_has hy
    · exact absurd rfl (S.nofree _ (PySem.mem_of_lookup hy))
  · exact Nat.le_of_lt (x.above y c (PySem.mem_of_lookup h))
  · have hi : i < vs.length:=by
      unfold start at h2
      by_cases hi : i < vs.length
      · exact hi
      · rw [List.getElem?_append_right (by simpa using hi)] at h2
        rw [List.getElem?_replicate] at h2
        split at h2 <;> cases h2
    have ha : vs[i]? = some v:=by
      unfold start at h2
      rw [List.getElem?_append_left (by simpa using hi),List.getElem?_map] at h2
      cases e : vs[i]? with
      | none=>rw [e] at h2; cases h2
      | some a=>rw [e] at h2; cases h2; rfl
    obtain ⟨u,hu,rv⟩:=r.get ha
    have hp : ps[i]? = some y:=by
      rw [← S.pre,List.getElem?_take_of_lt (by omega)]; exact h1
    have ndP : ps.Nodup:=by rw [← S.pre]; exact S.nd.sublist (List.take_sublist _ _)
    refine ⟨u,rv,?_⟩
    rcases S.par y (List.mem_of_getElem? hp) with k | k
    · exact .inl ⟨k,bindL_get ndP hp hu k⟩
    · obtain ⟨c,e⟩:=cell_has (n:=s.heap.objs.size + 1) k
      refine .inr ⟨.inl k,c,e,?_⟩
      have q:=x.cell y c e
      rw [bindC_get ndP hp hu (by show scope.names.lookup y ≠ _; rw [k]; decide)] at q
      exact q
  · exact e0.hok.fresh (Nat.le_of_lt (x.above y c (PySem.mem_of_lookup h)))
  · unfold start
    show _ = N.length
    rw [List.length_append,List.length_map,List.length_replicate]
    omega
theorem fn_of {CX : CXT} {P : Program} {w : World} {K : PySem.W.Frag} {mg : Str → Option Value} {base : Heap} {k : Nat} {f : Addr} {name qual : Str} {params : Arguments} {body : List Stmt} {scope : Scope} {dV kV doc pm cdv ct oc : Value} {an od : Option Addr}
    {osl : Array (Option Value)} {N ps : List Str} {sp : Sp} (lk : K.lookup f = some ⟨oc,od,.func (PySem.W.fnOf name qual params body scope dV kV doc pm an cdv ct),osl⟩) (hcd : PySem.W.codeIn K cdv qual = true) (S : FnScope N ps scope)
    (len : ∀ vs H Q E,sp vs H Q E → vs.length = ps.length)
    (hbody : ∀ (A : Around) (outer : List Env) (s : Shared) (H : Hp) (vs : List V) (Q : VK) (E : XK),Room k (A.deeper (envOfC qual scope s.heap.objs.size f cdv)) → sp vs H Q E →
      ∃ t,PSs (cxOf CX P w K mg base N qual scope f cdv A outer s H E) body t ∧ t { nx:=fun _ H'=>Q .non H',rt:=Q } (start N vs) H) :
    FnOk P w K mg base CX (k + 1) f (PySem.W.fnOf name qual params body scope dV kV doc pm an cdv ct) ps sp:=by
  refine ⟨len,fun A outer s H args us vs Q E hr e0 hb r hsp=>?_⟩
  have hl:=len _ _ _ _ hsp
  have KX : K.In s.heap:=e0.mod.kin.keeps fun b o e=>(e0.bs b o e).1
  have lim : s.heap.NoLimit:=e0.mod.nolimit.keeps fun b o e=>(e0.bs b o e).1
  have hkind : ∀ y ∈ ps.zip us,scope.names.lookup y.1 = some .local ∨ (scope.names.lookup y.1 = some .cell ∧ ((cellsFrom (s.heap.objs.size + 1) scope.names []).lookup y.1).isSome = true):=fun ⟨n,v⟩ hy=>by
    rcases S.par n (List.of_mem_zip hy).1 with q | q
    · exact .inl q
    · exact .inr ⟨q,PySem.W.cellsFrom_some _ _ _ (.inl q)⟩
  refine codeAny_call_function hr.depth (KX _ _ lk) rfl S.co S.gen rfl (PySem.W.codeRec_of KX hcd) (hb _ _ _ _ ?_)
  refine wpAny_newFunctionEnv_cells S.kind hkind fun env he s1 x=>?_
  subst he
  refine ⟨lim.keeps x.toInCall.keep,codeAny_func ?_⟩
  obtain ⟨t,ht,hq⟩:=hbody A outer s H vs Q E (hr.deeper _) hsp
  have I : Inv (cxOf CX P w K mg base N qual scope f cdv A outer s H E) [] (start N vs) H s1:=inv_start S hr.hd e0 hl r x
  refine wpAny_mono (ht [] s1 (start N vs) H _ I hq) (fun fl s' hs=>?_) fun e s' hs=>hs
  have fin : ∀ {σ' : St} {H' : Hp} {v : V} {u : Value},Inv (cxOf CX P w K mg base N qual scope f cdv A outer s H E) [] σ' H' s' → RelV v u → Q v H' → CE outer P w H s Q u s' :=
    fun {σ' H' v u} J rv q=>⟨v,H',J.os,J.bare,J.base,J.hok,rv,q⟩
  cases fl with
  | ret u =>
    obtain ⟨v,σ',H',J,rv,q⟩:=hs
    exact fin J rv q
  | next =>
    obtain ⟨σ',H',J,q⟩:=hs
    exact fin (v:=V.non) (u:=Value.none) J rfl q
  | brk =>
    obtain ⟨_,_,_,q⟩:=hs
    exact False.elim q
  | cont =>
    obtain ⟨_,_,_,q⟩:=hs
    exact False.elim q
end L2
namespace L2
open PySem PySem.Spec PyProof.Rows
section
variable {X : Cx} {x : Str} {p pos : Pos} {e : Expr} {es : List Expr} {t : TA} {id T : String} {r : List V → Hp → VK → Prop}
def tCB (r : List V → Hp → VK → Prop) (t : TA) : TE:=fun σ H Q=>t σ H fun vs H1=>r vs H1 Q
theorem pe_callB (hc : CallR X (.builtin id) r) (hg : Gl X x) (hm : X.mg x = none) (hv : bootBuiltins x = some (.builtin id)) (ha : PA X (e :: es) t) (hn : x ≠ "__name__" := by decide) (hdb : (x == ("__debug__" : Str)) = false:=by decide)
    (he : starEach (e :: es) X.env = (false,eval e X.env) :: starEach es X.env:=by rfl) (hpl : (backTo pos (starEach es X.env)).any (·.1) = false:=by rfl) : PE X (.Call (.Name x p) (e :: es) [] pos) (tCB r t):=by
  intro pins s σ H Q I h
  refine wpAny_Call_Name_kw (ld_blt I hg hm hv ?_ hn hdb)
  exact PyProof.Rows.callWith_builtin1 (thn (ha pos pins s σ H _ I h) fun us s1 ⟨vs,H1,I1,r1,q1⟩=>hc pins s1 σ H1 vs us Q I1 r1 q1) he hpl
theorem pe_callTy (hc : CallR X (.type T) r) (hg : Gl X x) (hm : X.mg x = none) (hv : bootBuiltins x = some (.type T)) (ha : PA X (e :: es) t) (hn : x ≠ "__name__" := by decide) (hdb : (x == ("__debug__" : Str)) = false:=by decide)
    (he : starEach (e :: es) X.env = (false,eval e X.env) :: starEach es X.env:=by rfl) (hpl : (backTo pos (starEach es X.env)).any (·.1) = false:=by rfl) : PE X (.Call (.Name x p) (e :: es) [] pos) (tCB r t):=by
  intro pins s σ H Q I h
  refine wpAny_Call_Name_kw (ld_blt I hg hm hv ?_ hn hdb)
  exact PyProof.Rows.callWith_type1 (thn (ha pos pins s σ H _ I h) fun us s1 ⟨vs,H1,I1,r1,q1⟩=>hc pins s1 σ H1 vs us Q I1 r1 q1) he hpl
end
end L2
namespace HT
open PySem PyProof.Rows
def lexLt : List Int → List Int → Bool
  | [],[]=>false
  | [],_ :: _=>true
  | _ :: _,[]=>false
  | x :: xs,y :: ys=>if x = y then lexLt xs ys else decide (x < y)
theorem lexLt_cons (x y : Int) (xs ys : List Int) : lexLt (x :: xs) (y :: ys) = if x = y then lexLt xs ys else decide (x < y):=rfl
theorem lexLt_nil_nil : lexLt [] [] = false:=rfl
theorem lexLt_nil_cons (y : Int) (ys : List Int) : lexLt [] (y :: ys) = true:=rfl
theorem lexLt_cons_nil (x : Int) (xs : List Int) : lexLt (x :: xs) [] = false:=rfl
theorem eqAt_int (A : Around) (s : Shared) (a : Int) (t : Tok) (c : Int) (u : Tok) : ∃ e,SeqAt.EqAt A s (.int a t) (.int c u) e ∧ (e = true ↔ a = c) :=
  ⟨(a == c),SeqAt.EqAt.int_int a t c u,by simp⟩
theorem rcLt_int (A : Around) (s : Shared) (a : Int) (t : Tok) (c : Int) (u : Tok) (prog : Program) (w : World) (E : Value → Shared → Prop) (Q : Value → Shared → Prop) (h : Q (.bool (decide (a < c))) s) :
    wpAny (model prog w) A (richCompare .Lt (.int a t) (.int c u)) Q E s :=
  (PyProof.Rows.lt_int h : wpAny (model prog w) A (compareOp .Lt (.int a t) (.int c u)) Q E s)
section
open PySem.SeqAt
open PySem.AutoSeq1 (wpAny_loadPart')
open PySem.MeetsSeq PySem.MeetsSeq2 PySem.MeetsSeq3
theorem tuple_lt_ints (l b : Addr) (items items2 : Array Value) (n n2 : Nat) (dd dd2 : Option Addr) (sl sl2 : Array (Option Value)) (ns ms : List Int) (hi : IntsAre items.toList ns) (hj : IntsAre items2.toList ms) :
    Meets (Builtin.«tuple.__lt__» ⟨[.ref l,.ref b],[]⟩)
      (fun _ R s=>s.heap.get? l = some { cls:=.type "tuple",dict:=dd,data:=.seq items n,slots:=sl } ∧ s.heap.get? b = some { cls:=.type "tuple",dict:=dd2,data:=.seq items2 n2,slots:=sl2 } ∧
        R (.ok (.ret (.bool (lexLt ns ms)))) s) :=
  .of_wp fun prog w A R s h=>by
    obtain ⟨hp,g,d,tk,os⟩:=s; obtain ⟨hl,hb,h⟩:=h
    have f2:=AutoSeq1.sub_tuple_tuple
    have z1 : items.size = ns.length:=by rw [← hi.length]; simp
    have z2 : items2.size = ms.length:=by rw [← hj.length]; simp
    wp_walk using wpAny_loadPart' hl,wpAny_loadPart' hb,wpAny_forIn_list _ (fun rest b s'=>b.1 = none ∧ s' = ⟨hp,g,d,tk,os⟩ ∧ ∃ (vs ws : List Value) (ns' ms' : List Int),rest = vs.zip ws ∧
      IntsAre vs ns' ∧ IntsAre ws ms' ∧ ns'.length + items2.size = ms'.length + items.size ∧ R (.ok (.ret (.bool (lexLt ns' ms')))) ⟨hp,g,d,tk,os⟩) _
    case turn =>
      rintro ⟨y,x⟩ rest b s' ⟨hb',rfl,vs,ws,ns',ms',hz,hvi,hwi,hlen,hR⟩
      cases hvi with
      | nil=>rw [List.zip_nil_left] at hz; cases hz
      | cons a t hvi' =>
        cases hwi with
        | nil=>rw [List.zip_nil_right] at hz; cases hz
        | cons c u hwi' =>
          rw [List.zip_cons_cons] at hz
          injection hz with hyx hrest
          injection hyx with hy hx
          subst hy hx
          rw [lexLt_cons] at hR
          simp only [List.length_cons] at hlen
          obtain ⟨e,he,hiff⟩:=eqAt_int A.in1 ⟨hp,g,d,tk,os⟩ a t c u
          refine wpAny_bind (he prog w _ _ ?_)
          cases e with
          | true =>
            rw [if_pos (hiff.mp rfl)] at hR
            wp_walk
            exact ⟨rfl,rfl,_,_,_,_,hrest,hvi',hwi',by omega,hR⟩
          | false =>
            rw [if_neg (fun q=>absurd (hiff.mpr q) Bool.false_ne_true)] at hR
            have hri:=rcLt_int A.in1 ⟨hp,g,d,tk,os⟩ a t c u prog w
            wp_walk using hri
            exact ⟨_,rfl,by simpa using hR⟩
    case fin =>
      rintro ⟨b1,b2⟩ s' ⟨hb',rfl,vs,ws,ns',ms',hz,hvi,hwi,hlen,hR⟩
      simp only at hb'
      subst hb'
      have hv : lexLt ns' ms' = decide (items.size < items2.size):=by
        cases hvi with
        | nil =>
          cases hwi with
          | nil =>
            simp only [List.length_nil] at hlen
            rw [lexLt_nil_nil]
            exact (decide_eq_false (by omega)).symm
          | cons c u hw =>
            simp only [List.length_nil,List.length_cons] at hlen
            rw [lexLt_nil_cons]
            exact (decide_eq_true (by omega)).symm
        | cons a t hv =>
          cases hwi with
          | nil =>
            simp only [List.length_nil,List.length_cons] at hlen
            rw [lexLt_cons_nil]
            exact (decide_eq_false (by omega)).symm
          | cons c u hw =>
            rw [List.zip_cons_cons] at hz
            cases hz
      rw [hv] at hR
      wp_walk
      exact ⟨_,rfl,by simpa [Builtin.Tuple.tupleCompareSizes] using hR⟩
    case h =>
      exact ⟨rfl,rfl,items.toList,items2.toList,ns,ms,rfl,hi,hj,by omega,h⟩
end
section
variable {prog : Program} {w : World} {A : Around} {E : Value → Shared → Prop} {s : Shared}
theorem lt_tupInts {l b : Addr} {items items2 : Array Value} {ns ms : List Int} {Q : Value → Shared → Prop} (hl : IsTup s.heap l items) (hb : IsTup s.heap b items2) (hi : IntsAre items.toList ns) (hj : IntsAre items2.toList ms)
    (hu : A.units < cLine) (h : Q (.bool (lexLt ns ms)) s) : wpAny (model prog w) A (compareOp .Lt (.ref l) (.ref b)) Q E s:=by
  obtain ⟨⟨cls,dd,data,sl⟩,ho,hc,n,hd⟩:=id hl
  obtain ⟨⟨cls2,dd2,data2,sl2⟩,ho2,hc2,n2,hd2⟩:=id hb
  simp only at hc hd hc2 hd2
  subst hc hd hc2 hd2
  exact richCompare_meets_room (op:=.Lt) ⟨_,ho,rfl⟩ ⟨_,ho2,rfl⟩ PySem.F.slot_tuple_lt PySem.F.entry_tuple_lt (PySem.F.args_tuple_lt_2 _ _) (tuple_lt_ints l b items items2 n n2 dd dd2 sl sl2 ns ms hi hj)
    ⟨ho,ho2,show Value.bool (lexLt ns ms) ≠ Value.notImplemented ∧ Q (.bool (lexLt ns ms)) s from ⟨(fun x=>nomatch x),h⟩⟩ hu
theorem cat_tup {t b : Addr} {vs ws : List Value} {Q : Value → Shared → Prop} (ht : IsTup s.heap t vs.toArray) (hb : IsTup s.heap b ws.toArray) (hv : vs ≠ [])
    (h1 : ws = [] → Q (.ref t) s) (h2 : ws ≠ [] → Q (.ref s.heap.objs.size) { s with heap:=s.heap.push { cls:=.type "tuple",data:=.seq (vs ++ ws).toArray } })
    (hsz : vs.length + ws.length ≤ sizeLine) : wpAny (model prog w) A (binaryOp .Add (.ref t) (.ref b)) Q E s:=by
  obtain ⟨⟨cls,dd,data,sl⟩,ho,hc,n,hd⟩:=id ht
  obtain ⟨⟨cls2,dd2,data2,sl2⟩,ho2,hc2,n2,hd2⟩:=id hb
  simp only at hc hd hc2 hd2
  subst hc hd hc2 hd2
  have e : vs.toArray ++ ws.toArray = (vs ++ ws).toArray:=by simp
  by_cases hw : ws = []
  · exact concat_meets ⟨_,ho,rfl⟩ ⟨_,ho2,rfl⟩ noFill_tuple_add seq_tuple_add PySem.F.slot_tuple_add PySem.F.entry_tuple_add (PySem.F.args_tuple_add_2 _ _)
      (tuple_addW1 t b vs.toArray ws.toArray n n2 dd dd2 sl sl2 (by simpa using hv) (by simp [hw])) ⟨ho,ho2,h1 hw⟩
  · refine concat_meets ⟨_,ho,rfl⟩ ⟨_,ho2,rfl⟩ noFill_tuple_add seq_tuple_add PySem.F.slot_tuple_add PySem.F.entry_tuple_add (PySem.F.args_tuple_add_2 _ _)
      (tuple_addW2 t b vs.toArray ws.toArray n n2 dd dd2 sl sl2 (by simpa using hv) (by simpa using hw) (by rw [List.size_toArray,List.size_toArray]; exact hsz)) ⟨ho,ho2,?_⟩
    rw [e]
    exact h2 hw
def sIx (n d : Nat) : Option Int → Nat
  | none=>d
  | some v=>if v < 0 then (v + (n : Int)).toNat else min v.toNat n
theorem sIx_none (n d : Nat) : sIx n d none = d:=rfl
theorem sIx_nat (n d k : Nat) : sIx n d (some (k : Int)) = min k n:=by
  show (if (k : Int) < 0 then ((k : Int) + (n : Int)).toNat else min (k : Int).toNat n) = min k n
  rw [if_neg (by omega),Int.toNat_natCast]
theorem sIx_le (n d : Nat) (hd : d ≤ n) (o : Option Int) : sIx n d o ≤ n:=by
  cases o with
  | none=>exact hd
  | some v =>
    show (if v < 0 then (v + (n : Int)).toNat else min v.toNat n) ≤ n
    by_cases hv : v < 0
    · rw [if_pos hv]; omega
    · rw [if_neg hv]; exact Nat.min_le_right _ _
theorem clip_eq (v : Int) (n d : Nat) : (if v < 0 then max (v + (n : Int)) 0 else min v (n : Int)) = ((sIx n d (some v) : Nat) : Int):=by
  show (if v < 0 then max (v + (n : Int)) 0 else min v (n : Int)) = (((if v < 0 then (v + (n : Int)).toNat else min v.toNat n) : Nat) : Int)
  by_cases hv : v < 0
  · simp only [if_pos hv]; omega
  · simp only [if_neg hv]; omega
theorem adjust_gen (lo hi : Option Int) (n : Nat) : Builtin.Slice.sliceAdjust lo hi 1 (n : Int) = (((sIx n 0 lo : Nat) : Int),((sIx n n hi : Nat) : Int)):=by
  have h1 : ¬ ((1 : Int) < 0):=by omega
  unfold Builtin.Slice.sliceAdjust
  simp only [h1,if_false]
  refine Prod.ext ?_ ?_
  · cases lo with
    | none=>rfl
    | some v=>exact clip_eq v n 0
  · cases hi with
    | none=>rfl
    | some v=>exact clip_eq v n n
theorem places_gen (i j : Nat) : Builtin.Slice.slicePlaces (i : Int) (j : Int) 1 = j - i:=by
  unfold Builtin.Slice.slicePlaces
  have h1 : (1 : Int) > 0:=by omega
  simp only [h1,if_true,Int.ediv_one]
  split <;> omega
theorem slicePart_ {v : Value} {o : Option Int} {Q : Option Int → Shared → Prop} (p : IsPart v o) (h : Q o s) : wpAny (model prog w) A (Builtin.Slice.slicePartIndex v) Q E s:=by
  cases p with
  | none=>exact slicePart_none h
  | int i t=>exact slicePart_int h
theorem sliceApplied_gen {sl : Addr} {vl vu : Value} {lo hi : Option Int} {n : Nat} {Q : Int × Int × Nat → Shared → Prop} (hs : s.heap.IsSliceOf sl vl vu .none) (pl : IsPart vl lo) (pu : IsPart vu hi)
    (h : Q (((sIx n 0 lo : Nat) : Int),1,sIx n n hi - sIx n 0 lo) s) : wpAny (model prog w) A (Builtin.Slice.sliceApplied (.ref sl) (pure (n : Int))) Q E s:=by
  obtain ⟨os,hos,hcs,hds⟩:=id hs
  unfold Builtin.Slice.sliceApplied Builtin.Slice.sliceFields
  refine wpAny_bind (wpAny_bind (wpAny_field hos hds (x:=vl) rfl (wpAny_bind (wpAny_field hos hds (x:=vu) rfl (wpAny_bind (wpAny_field hos hds (x:=.none) rfl (wpAny_pure ?_)))))))
  refine wpAny_bind (slicePart_none ?_)
  show wpAny _ _ (if ((1 : Int) == 0) = true then _ else _) _ _ s
  rw [if_neg (by decide)]
  refine wpAny_bind (slicePart_ pl (wpAny_bind (slicePart_ pu (wpAny_bind (wpAny_pure ?_)))))
  show wpAny _ _ (match Builtin.Slice.sliceAdjust lo hi 1 (n : Int) with | (lo,hi)=>pure (lo,(1 : Int),Builtin.Slice.slicePlaces lo hi 1)) _ _ s
  rw [adjust_gen lo hi n]
  show wpAny _ _ (pure (((sIx n 0 lo : Nat) : Int),(1 : Int),Builtin.Slice.slicePlaces ((sIx n 0 lo : Nat) : Int) ((sIx n n hi : Nat) : Int) 1)) _ _ s
  rw [places_gen]
  exact wpAny_pure h
theorem pick_gen (xs : Array Value) (i k : Nat) : ((List.range k).filterMap fun (m : Nat)=>xs[((i : Int) + (m : Int) * 1).toNat]?).toArray = ((xs.toList.drop i).take k).toArray:=by
  have e : (fun (m : Nat)=>xs[((i : Int) + (m : Int) * 1).toNat]?) = fun m=>xs[i + m]?:=by
    funext m
    have : ((i : Int) + (m : Int) * 1).toNat = i + m:=by omega
    rw [this]
  rw [e]
  have:=pick_run xs i k
  rw [List.filterMap_map] at this
  have e2 : ((fun x=>xs[x]?) ∘ fun x=>i + x) = fun m=>xs[i + m]?:=rfl
  rw [e2] at this
  rw [this]
theorem getItem_tuple_cut {t sl : Addr} {items : Array Value} {vl vu : Value} {lo hi : Option Int} {Q : Value → Shared → Prop} (ht : IsTup s.heap t items) (hs : s.heap.IsSliceOf sl vl vu .none) (pl : IsPart vl lo) (pu : IsPart vu hi)
    (hw : ¬ (sIx items.size 0 lo = 0 ∧ sIx items.size items.size hi = items.size))
    (h : Q (.ref s.heap.objs.size) { s with heap:=s.heap.push { cls:=.type "tuple",data:=.seq ((items.toList.drop (sIx items.size 0 lo)).take (sIx items.size items.size hi - sIx items.size 0 lo)).toArray } })
    (hsz : items.size ≤ sizeLine) : wpAny (model prog w) A (getItem (.ref t) (.ref sl)) Q E s:=by
  have htake : sizeOk (.seq ((items.toList.drop (sIx items.size 0 lo)).take (sIx items.size items.size hi - sIx items.size 0 lo)).toArray):=by
    show ((items.toList.drop (sIx items.size 0 lo)).take (sIx items.size items.size hi - sIx items.size 0 lo)).toArray.size ≤ sizeLine
    rw [List.size_toArray,List.length_take,List.length_drop,Array.length_toList]
    omega
  have hj : sIx items.size items.size hi ≤ items.size:=sIx_le _ _ (Nat.le_refl _) hi
  obtain ⟨os,hos,hcs,hds⟩:=id hs
  have hTs : s.TypeIs (.ref sl) "slice" := ⟨os,hos,hcs⟩
  unfold getItem
  try with_reducible refine wpAny_holding ?_
  first | refine wpAny_bind (wpAny_pure ?_) | skip
  refine wpAny_bind (wpAny_sequenceKey ht.typeIs (by decide) ?_)
  refine wpAny_bind (wpAny_callSpecial?_slot (name:=Str.ofString "__getitem__") ht.typeIs PyProof.Rows.slot_tuple_getitem
    (wpAny_call_entry PyProof.Rows.slot_tuple_getitem ht.typeIs entry_tuple_getitem ?_ (args_tuple_getitem _ _)))
  show wpAny _ _ (Builtin.Tuple.tupleItemsOf (.ref t) >>= _) _ _ s
  refine wpAny_bind (tupleItemsOf_ ht ?_)
  refine wpAny_bind (wpAny_typeOf hTs ?_)
  rw [if_pos (by decide)]
  refine wpAny_bind (sliceApplied_gen hs pl pu ?_)
  have hno : ¬ ((((sIx items.size 0 lo : Nat) : Int) == 0 && (1 : Int) == 1 && (sIx items.size items.size hi - sIx items.size 0 lo) == items.size) = true):=by
    intro q
    rw [Bool.and_eq_true,Bool.and_eq_true] at q
    have q1 : ((sIx items.size 0 lo : Nat) : Int) = 0:=eq_of_beq q.1.1
    have q2 : sIx items.size items.size hi - sIx items.size 0 lo = items.size:=eq_of_beq q.2
    exact hw ⟨by omega,by omega⟩
  show wpAny _ _ (if (((sIx items.size 0 lo : Nat) : Int) == 0 && (1 : Int) == 1 && (sIx items.size items.size hi - sIx items.size 0 lo) == items.size) = true then _ else _) _ _ s
  rw [if_neg hno,pick_gen]
  first
    | exact wpAny_bind (m:=Builtin.Tuple.tupleExact _) (wpAny_newObj_type (wpAny_pure ⟨_,rfl,wpAny_pure h⟩) htake)
    | exact wpAny_bind (m:=Builtin.Tuple.tupleExact _) (wpAny_newObj_type (wpAny_bind (wpAny_pure (wpAny_pure ⟨_,rfl,wpAny_pure h⟩))) htake)
    | exact wpAny_bind (wpAny_bind (m:=Builtin.Tuple.tupleExact _) (wpAny_newObj_type (wpAny_pure (wpAny_pure ⟨_,rfl,wpAny_pure h⟩)) htake))
    | exact wpAny_bind (wpAny_bind (m:=Builtin.Tuple.tupleExact _) (wpAny_newObj_type (wpAny_pure ⟨_,rfl,wpAny_pure h⟩) htake))
end
end HT
namespace L2
open PySem PySem.Spec PyProof.Rows
abbrev TO:=St → Hp → (Option Int → Hp → Prop) → Prop
def PO (X : Cx) (e : Option Expr) (t : TO) : Prop :=
  ∀ (pins : List (Addr × Obj)) (s : Shared) (σ : St) (H : Hp) (Q : Option Int → Hp → Prop),Inv X pins σ H s → t σ H Q →
    wpAny (model X.prog X.w) X.A (evalPart e X.env) (fun u s'=>∃ o H',Inv X pins σ H' s' ∧ IsPart u o ∧ Q o H') X.xe s
def tNoPart : TO:=fun _ H Q=>Q none H
def tPart (t : TE) : TO:=fun σ H Q=>t σ H fun x H1=>∃ i,x = .int i ∧ Q (some i) H1
theorem intsAre_of {ns : List Int} : ∀ {us : List Value},Vals (ns.map V.int) us → IntsAre us ns:=by
  induction ns with
  | nil=>intro us r; rw [List.map_nil] at r; cases r; exact .nil
  | cons n ns ih =>
    intro us r
    rw [List.map_cons] at r
    cases r with
    | cons r1 r2 =>
      obtain ⟨t,e⟩:=r1
      subst e
      exact .cons n t (ih r2)
section
variable {X : Cx} {e : Expr} {te : TE} {lo hi : Option Expr} {tl th : TO} {pos p2 : Pos}
theorem po_none : PO X none tNoPart:=by
  intro pins s σ H Q I h
  rw [evalPart_none]
  exact wpAny_pure ⟨none,H,I,.none,h⟩
theorem po_some (h : PE X e te) : PO X (some e) (tPart te):=by
  intro pins s σ H Q I hw
  rw [evalPart_some]
  refine thn (h pins s σ H _ I hw) fun u s1 ⟨x,H1,I1,r1,q1⟩=>?_
  obtain ⟨i,rfl,q⟩:=q1
  obtain ⟨t,rfl⟩:=r1
  exact ⟨some i,H1,I1,.int i t,q⟩
def SlR (X : Cx) (r : V → Option Int → Option Int → Hp → VK → Prop) : Prop :=
  ∀ (pins : List (Addr × Obj)) (s : Shared) (σ : St) (H : Hp) (x : V) (v vl vu : Value) (lo hi : Option Int) (sl : Addr) (Q : VK),Inv X pins σ H s → RelV x v → s.heap.IsSliceOf sl vl vu .none → IsPart vl lo → IsPart vu hi → r x lo hi H Q →
    ∃ T id,typeLookup (.type T) "__getitem__" = pure (some (.builtin id)) ∧ s.TypeIs v T ∧ wpAny (model X.prog X.w) X.A (getItem v (.ref sl)) (EP X pins σ Q) X.xe s
theorem SlR.or {r r' : V → Option Int → Option Int → Hp → VK → Prop} (h : SlR X r) (h' : SlR X r') : SlR X (fun x lo hi H Q=>r x lo hi H Q ∨ r' x lo hi H Q):=by
  intro pins s σ H x v vl vu lo hi sl Q I rx hs pl pu q
  rcases q with q | q
  · exact h pins s σ H x v vl vu lo hi sl Q I rx hs pl pu q
  · exact h' pins s σ H x v vl vu lo hi sl Q I rx hs pl pu q
def tSl (r : V → Option Int → Option Int → Hp → VK → Prop) (te : TE) (tl th : TO) : TE:=fun σ H Q=>te σ H fun x H1=>tl σ H1 fun l H2=>th σ H2 fun u H3=>r x l u H3 Q
theorem pe_slice {r : V → Option Int → Option Int → Hp → VK → Prop} (hr : SlR X r) (he : PE X e te) (hl : PO X lo tl) (hu : PO X hi th) : PE X (.Subscript e (.Slice lo hi none p2) pos) (tSl r te tl th):=by
  intro pins s σ H Q I h
  refine Subscript_ (thn (he pins s σ H _ I h) fun v s1 ⟨x,H1,I1,r1,q1⟩=>?_)
  refine wpAny_Slice (thn (hl pins s1 σ H1 _ I1 q1) fun vl s2 ⟨l,H2,I2,pl,q2⟩=>thn (hu pins s2 σ H2 _ I2 q2) fun vu s3 ⟨u,H3,I3,pu,q3⟩=>?_)
  rw [evalPart_none]
  refine wpAny_pure ?_
  have I4 : Inv X pins σ H3 { s3 with heap:=s3.heap.push { cls:=.type "slice",data:=.fields #[vl,vu,.none] } }:=I3.kept (t':=s3.toks) fun b ob q=>Heap.get?_push_of_some _ q
  obtain ⟨T,id,hT,ht,hg⟩:=hr pins { s3 with heap:=s3.heap.push { cls:=.type "slice",data:=.fields #[vl,vu,.none] } } σ H3 x v vl vu l u s3.heap.objs.size Q I4 r1 (Heap.IsSliceOf.new ..) pl pu q3
  show wpAny (model X.prog X.w) X.A (subscriptTail e (.Slice lo hi none p2) v (.ref s3.heap.objs.size)) (EP X pins σ Q) X.xe { s3 with heap:=s3.heap.push { cls:=.type "slice",data:=.fields #[vl,vu,.none] } }
  exact tail_any (ops:=[.ref s3.heap.objs.size,v]) ht hT hg (by with_unfolding_all rfl)
def cutV (xs : List V) (lo hi : Option Int) : List V:=(xs.drop (HT.sIx xs.length 0 lo)).take (HT.sIx xs.length xs.length hi - HT.sIx xs.length 0 lo)
theorem cutV_length (xs : List V) (lo hi : Option Int) : (cutV xs lo hi).length ≤ xs.length:=by
  unfold cutV
  rw [List.length_take,List.length_drop]
  omega
def rSlT (K : PySem.W.Frag) : V → Option Int → Option Int → Hp → VK → Prop:=fun x lo hi H Q=>∃ a xs,x = .ref a ∧ SqT K H a xs ∧
  ¬ (HT.sIx xs.length 0 lo = 0 ∧ HT.sIx xs.length xs.length hi = xs.length) ∧ ∀ p,H p = none → Q (.ref p) (upd H p (.tup (cutV xs lo hi)))
theorem sl_tup : SlR X (rSlT X.K):=by
  intro pins s σ H x v vl vu lo hi sl Q I rx hs pl pu h
  obtain ⟨a,xs,rfl,hx,hw,q⟩:=h
  cases rx
  obtain ⟨its,r,ht,hz⟩:=I.tuple hx
  have hlen : its.toArray.size = xs.length:=by rw [List.size_toArray]; exact r.length.symm
  refine ⟨"tuple",_,PyProof.Rows.slot_tuple_getitem.lookup,ht.typeIs,?_⟩
  refine HT.getItem_tuple_cut ht hs pl pu (by rw [hlen]; exact hw) ?_ (by rw [hlen]; exact hz)
  rw [hlen]
  refine ⟨.ref s.heap.objs.size,_,I.laid (t':=s.toks) (o:=.tup (cutV xs lo hi)) (fun b ob q=>Heap.get?_push_of_some _ q) (Nat.le_refl _) ?_,rfl,q _ (I.hok.fresh (Nat.le_refl _))⟩
  exact ⟨Nat.le_trans (cutV_length xs lo hi) hz,_,(r.drop (HT.sIx xs.length 0 lo)).take (HT.sIx xs.length xs.length hi - HT.sIx xs.length 0 lo),TupN.new _ _⟩
def rCatT (K : PySem.W.Frag) : R2:=fun x y H Q=>∃ a b xs ys,x = .ref a ∧ y = .ref b ∧ SqT K H a xs ∧ SqT K H b ys ∧ xs ≠ [] ∧ xs.length + ys.length ≤ sizeLine ∧
  (ys = [] → Q (.ref a) H) ∧ (ys ≠ [] → ∀ p,H p = none → Q (.ref p) (upd H p (.tup (xs ++ ys))))
theorem Vals.nil_iff {xs : List V} {us : List Value} (r : Vals xs us) : us = [] ↔ xs = []:=by
  cases r with
  | nil=>simp
  | cons _ _=>simp
theorem op_catT : OpR X (binaryOp .Add) (rCatT X.K):=by
  intro pins s σ H x y v u Q I rx ry h
  obtain ⟨a,b,xs,ys,rfl,rfl,ha,hb,hx,hz,q1,q2⟩:=h
  cases rx
  cases ry
  obtain ⟨its,r1,p1,_⟩:=I.tuple ha
  obtain ⟨its2,r2,p2,_⟩:=I.tuple hb
  refine HT.cat_tup p1 p2 (fun z=>hx (r1.nil_iff.mp z)) (fun z=>⟨.ref a,H,I,rfl,q1 (r2.nil_iff.mp z)⟩) (fun z=>?_) (by rw [← r1.length,← r2.length]; exact hz)
  refine ⟨.ref s.heap.objs.size,_,I.laid (t':=s.toks) (o:=.tup (xs ++ ys)) (fun b ob q=>Heap.get?_push_of_some _ q) (Nat.le_refl _) ?_,rfl,q2 (fun w=>z (r2.nil_iff.mpr w)) _ (I.hok.fresh (Nat.le_refl _))⟩
  exact ⟨by rw [List.length_append]; exact hz,_,r1.append r2,TupN.new _ _⟩
end
end L2
namespace L2
open PySem PySem.Spec PyProof.Rows
def ixN (n : Nat) (i : Int) : Option Nat:=if 0 ≤ i then (if i < n then some i.toNat else none) else if -(n : Int) ≤ i then some (i + n).toNat else none
def atI {α : Type} (xs : List α) (i : Int) : Option α:=(ixN xs.length i).bind fun j=>xs[j]?
theorem ixN_seq {n : Nat} {i : Int} {j : Nat} (h : ixN n i = some j) : seqIndex? i n = some j ∧ j < n ∧ -(n : Int) ≤ i ∧ i < n:=by
  unfold ixN at h
  by_cases h0 : 0 ≤ i
  · rw [if_pos h0] at h
    by_cases h1 : i < n
    · rw [if_pos h1] at h
      have e : i.toNat = j:=Option.some.inj h
      exact ⟨by rw [seqIndex_of h0 h1,e],by omega,by omega,h1⟩
    · rw [if_neg h1] at h; cases h
  · rw [if_neg h0] at h
    by_cases h1 : -(n : Int) ≤ i
    · rw [if_pos h1] at h
      have e : (i + n).toNat = j:=Option.some.inj h
      exact ⟨by rw [seqIndex_neg (by omega) h1,e],by omega,h1,by omega⟩
    · rw [if_neg h1] at h; cases h
theorem atI_get {α : Type} {xs : List α} {i : Int} {v : α} (h : atI xs i = some v) : ∃ j,seqIndex? i xs.length = some j ∧ xs[j]? = some v ∧ j < xs.length ∧ -(xs.length : Int) ≤ i ∧ i < xs.length:=by
  unfold atI at h
  cases e : ixN xs.length i with
  | none=>rw [e] at h; cases h
  | some j =>
    rw [e] at h
    obtain ⟨h1,h2,h3,h4⟩:=ixN_seq e
    exact ⟨j,h1,h,h2,h3,h4⟩
theorem atI_nat {α : Type} {xs : List α} {j : Nat} {v : α} (h : xs[j]? = some v) : atI xs (j : Int) = some v:=by
  have hj : j < xs.length:=(List.getElem?_eq_some_iff.mp h).1
  have e : ixN xs.length (j : Int) = some j:=by
    unfold ixN
    rw [if_pos (by omega),if_pos (by omega)]; simp
  unfold atI; rw [e]; exact h
theorem atI_last {α : Type} (xs : List α) (v : α) : atI (xs ++ [v]) (-1) = some v:=by
  have hl : (xs ++ [v]).length = xs.length + 1:=by simp
  have e : ixN (xs ++ [v]).length (-1) = some xs.length:=by
    unfold ixN
    rw [hl,if_neg (by decide),if_pos (by omega)]
    congr 1
    omega
  unfold atI
  rw [e]
  show (xs ++ [v])[xs.length]? = some v
  simp
def PlainIx (b : Expr) : Prop:=∀ o i,subscripted b false o i = operate [o,i] (getItem o i)
def IxR (X : Cx) (r : R2) : Prop :=
  ∀ (value slice : Expr) (pins : List (Addr × Obj)) (s : Shared) (σ : St) (H : Hp) (x y : V) (v u : Value) (Q : VK),Inv X pins σ H s → RelV x v → RelV y u → r x y H Q →
    subscripted slice false v u = operate [v,u] (getItem v u) → wpAny (model X.prog X.w) X.A (subscriptTail value slice v u) (EP X pins σ Q) X.xe s
def MtR (X : Cx) (id : String) (r : V → List V → Hp → VK → Prop) : Prop :=
  ∀ (pins : List (Addr × Obj)) (s : Shared) (σ : St) (H : Hp) (x : V) (xs : List V) (v : Value) (us : List Value) (Q : VK),Inv X pins σ H s → RelV x v → Vals xs us → r x xs H Q →
    wpAny (model X.prog X.w) X.A (call (.builtin id) (v :: us)) (EP X pins σ Q) X.xe s
section
variable {X : Cx} {a b : Expr} {ta tb : TE} {pos : Pos}
theorem IxR.or {r r' : R2} (h : IxR X r) (h' : IxR X r') : IxR X (fun x y H Q=>r x y H Q ∨ r' x y H Q):=by
  intro value slice pins s σ H x y v u Q I rx ry q hs
  rcases q with q | q
  · exact h value slice pins s σ H x y v u Q I rx ry q hs
  · exact h' value slice pins s σ H x y v u Q I rx ry q hs
theorem MtR.or {id : String} {r r' : V → List V → Hp → VK → Prop} (h : MtR X id r) (h' : MtR X id r') : MtR X id (fun x xs H Q=>r x xs H Q ∨ r' x xs H Q):=by
  intro pins s σ H x xs v us Q I rx rs q
  rcases q with q | q
  · exact h pins s σ H x xs v us Q I rx rs q
  · exact h' pins s σ H x xs v us Q I rx rs q
theorem pe_ix {r : R2} (hr : IxR X r) (ha : PE X a ta) (hb : PE X b tb) (hs : PlainIx b) : PE X (.Subscript a b pos) (tOp r ta tb):=by
  intro pins s σ H Q I h
  exact Subscript_ (binT ha hb I h fun v u s2 x y H2 I2 rx ry q=>hr a b pins s2 σ H2 x y v u Q I2 rx ry q (hs _ _))
def rIxL (K : PySem.W.Frag) : R2:=fun x y H Q=>∃ p xs i v,x = .ref p ∧ y = .int i ∧ SqL K H p xs ∧ atI xs i = some v ∧ Q v H
def rIxT (K : PySem.W.Frag) : R2:=fun x y H Q=>∃ p xs i v,x = .ref p ∧ y = .int i ∧ SqT K H p xs ∧ atI xs i = some v ∧ Q v H
theorem ix_list : IxR X (rIxL X.K):=by
  intro value slice pins s σ H x y v u Q I rx ry h hs
  obtain ⟨p,xs,i,z,rfl,rfl,hq,he,q⟩:=h
  cases rx
  obtain ⟨t,rfl⟩:=ry
  obtain ⟨its,r,pl,hz⟩:=I.list hq
  obtain ⟨j,h1,h2,h3,h4,h5⟩:=atI_get he
  obtain ⟨w,ew,rw'⟩:=r.get h2
  have hl:=r.length
  have hn:=line63
  have fin : EP X pins σ Q w s:=⟨z,H,I,rw',q⟩
  by_cases h0 : 0 ≤ i
  · have hj : i.toNat = j:=by
      rw [seqIndex_of h0 h5] at h1
      exact Option.some.inj h1
    exact item_listR pl.isList h0 (by omega) (by rw [hj]; simpa using ew) fin hs
  · have hj : (i + (its.toArray.size : Int)).toNat = j:=by
      rw [seqIndex_neg (by omega) h4] at h1
      rw [List.size_toArray,← hl]
      exact Option.some.inj h1
    exact subscriptTail_builtinR (x:=w) pl.isList.typeIs slot_list_getitem.lookup
      (wpAny_getItem_list_neg (Q:=fun r s'=>r = w ∧ EP X pins σ Q r s') pl.isList (by omega) (by rw [List.size_toArray] <;> omega) (by omega) (by rw [hj]; simpa using ew) ⟨rfl,fin⟩) hs
theorem ix_tup : IxR X (rIxT X.K):=by
  intro value slice pins s σ H x y v u Q I rx ry h hs
  obtain ⟨p,xs,i,z,rfl,rfl,hq,he,q⟩:=h
  cases rx
  obtain ⟨t,rfl⟩:=ry
  obtain ⟨its,r,pl,hz⟩:=I.tuple hq
  obtain ⟨j,h1,h2,h3,h4,h5⟩:=atI_get he
  obtain ⟨w,ew,rw'⟩:=r.get h2
  have hl:=r.length
  have hn:=line63
  have fin : EP X pins σ Q w s:=⟨z,H,I,rw',q⟩
  exact subscriptTail_builtinR (x:=w) pl.typeIs slot_tuple_getitem.lookup
    (getItem_tuple (j:=j) (Q:=fun r s'=>r = w ∧ EP X pins σ Q r s') pl (by omega) (by omega) (by rw [List.size_toArray,← hl]; exact h1) (by simpa using ew) ⟨rfl,fin⟩) hs
theorem mapSeq_set (its : List Value) (n j : Nat) (u : Value) : Obj.mapSeq (·.setIfInBounds j u) { cls:=.type "list",data:=.seq its.toArray n } = { cls:=.type "list",data:=.seq (its.set j u).toArray n }:=by
  simp [Obj.mapSeq]
theorem Inv.lst {pins : List (Addr × Obj)} {σ : St} {H : Hp} {s : Shared} {p : Addr} {xs : List V} (I : Inv X pins σ H s) (h : H p = some (.lst xs)) :
    ∃ (its : List Value) (n : Nat),Vals xs its ∧ s.heap.get? p = some { cls:=.type "list",data:=.seq its.toArray n } ∧ xs.length ≤ sizeLine:=by
  obtain ⟨z,its,n,r,e⟩:=I.hok p _ h
  exact ⟨its,n,r,e,z⟩
theorem Inv.lstUpd {pins : List (Addr × Obj)} {σ : St} {H : Hp} {s : Shared} {p : Addr} {xs ys : List V} {its its' : List Value} {n n' : Nat} {f : Obj → Obj} (I : Inv X pins σ H s) (h : H p = some (.lst xs))
    (ho : s.heap.get? p = some { cls:=.type "list",data:=.seq its.toArray n }) (hf : f { cls:=.type "list",data:=.seq its.toArray n } = { cls:=.type "list",data:=.seq its'.toArray n' }) (r : Vals ys its') (hz : ys.length ≤ sizeLine) (t : Nat) :
    Inv X pins σ (upd H p (.lst ys)) { s with heap:=s.heap.update p f,toks:=t }:=by
  have e : (s.heap.update p f).get? p = some { cls:=.type "list",data:=.seq its'.toArray n' }:=by
    rw [Heap.get?_update_self f ho (by rw [hf] <;> rfl),hf]
  refine I.write (x:=p) (e:=p) (by rw [h]; trivial) (.inl rfl) (fun b u hb q=>(Heap.get?_update_other _ _ (Ne.symm hb)).trans q) ⟨_,e⟩ ?_
  exact ⟨hz,its',n',r,e⟩
def rSetL : V → V → V → Hp → (Hp → Prop) → Prop:=fun o i v H Q=>∃ p xs k j,o = .ref p ∧ i = .int k ∧ H p = some (.lst xs) ∧ ixN xs.length k = some j ∧ Q (upd H p (.lst (xs.set j v)))
theorem set_list : PSet X rSetL:=by
  intro pins s σ H o i v ov iv u Q I ro ri rv h
  obtain ⟨p,xs,k,j,rfl,rfl,hp,hj,q⟩:=h
  cases ro
  obtain ⟨t,rfl⟩:=ri
  obtain ⟨its,n,r,ho,hz⟩:=I.lst hp
  obtain ⟨h1,h2,h3,h4⟩:=ixN_seq hj
  have hl:=r.length
  have hn:=line63
  have I' : Inv X pins σ (upd H p (.lst (xs.set j v))) { s with heap:=s.heap.update p (Obj.mapSeq (·.setIfInBounds j u)) } :=
    I.lstUpd hp ho (mapSeq_set its n j u) (r.set rv j) (by rw [List.length_set]; exact hz) s.toks
  by_cases h0 : 0 ≤ k
  · have hk : k.toNat = j:=by
      rw [seqIndex_of h0 h4] at h1
      exact Option.some.inj h1
    exact PySem.W.ki_setAt ho h0 (by omega) (by rw [List.size_toArray,← hl]; exact h4) (by rw [hk]; exact ⟨_,I',q⟩)
  · have hk : (k + (its.toArray.size : Int)).toNat = j:=by
      rw [seqIndex_neg (by omega) h3] at h1
      rw [List.size_toArray,← hl]
      exact Option.some.inj h1
    exact PySem.W.ki_setBack ho (by omega) (by rw [List.size_toArray,← hl]; exact h3) (by omega) (by rw [hk]; exact ⟨_,I',q⟩)
theorem slice_bounds (lo hi : Option Int) (n : Nat) : (sliceBounds lo hi none n).1 = ((HT.sIx n 0 lo : Nat) : Int) ∧ (sliceBounds lo hi none n).2.1 = ((HT.sIx n n hi : Nat) : Int) ∧ (sliceBounds lo hi none n).2.2 = 1:=by
  refine ⟨?_,?_,rfl⟩
  · cases lo with
    | none=>simp [sliceBounds,HT.sIx]
    | some i =>
      simp only [sliceBounds,HT.sIx,Option.getD_none,show (1 : Int) > 0 by decide,if_true]
      by_cases h : i < 0
      · simp only [h,if_true] <;> omega
      · simp only [h,if_false] <;> omega
  · cases hi with
    | none=>simp [sliceBounds,HT.sIx]
    | some i =>
      simp only [sliceBounds,HT.sIx,Option.getD_none,show (1 : Int) > 0 by decide,if_true]
      by_cases h : i < 0
      · simp only [h,if_true] <;> omega
      · simp only [h,if_false] <;> omega
theorem slicePick_cut (its : List Value) (lo hi : Option Int) : slicePick its.toArray lo hi none = ((its.drop (HT.sIx its.length 0 lo)).take (HT.sIx its.length its.length hi - HT.sIx its.length 0 lo)).toArray:=by
  obtain ⟨h1,h2,h3⟩:=slice_bounds lo hi its.toArray.size
  unfold slicePick
  rw [h1,h2,h3]
  simp only [sliceRange_one,pick_run,List.size_toArray] <;> rfl
def rSlL (K : PySem.W.Frag) : V → Option Int → Option Int → Hp → VK → Prop:=fun x lo hi H Q=>∃ a xs,x = .ref a ∧ SqL K H a xs ∧ ∀ p,H p = none → Q (.ref p) (upd H p (.lst (cutV xs lo hi)))
theorem sl_list : SlR X (rSlL X.K):=by
  intro pins s σ H x v vl vu lo hi sl Q I rx hs pl pu h
  obtain ⟨a,xs,rfl,hx,q⟩:=h
  cases rx
  obtain ⟨its,r,ht,hz⟩:=I.list hx
  have hlen:=r.length
  refine ⟨"list",_,slot_list_getitem.lookup,ht.isList.typeIs,?_⟩
  refine wpAny_getItem_list_slice ht.isList hs pl pu .none (by simp) ?_ (by rw [List.size_toArray] <;> omega)
  rw [slicePick_cut,← hlen]
  refine ⟨.ref s.heap.objs.size,_,I.laid (t':=s.toks) (o:=.lst (cutV xs lo hi)) (fun b ob q=>Heap.get?_push_of_some _ q) (Nat.le_refl _) ?_,rfl,q _ (I.hok.fresh (Nat.le_refl _))⟩
  exact ⟨Nat.le_trans (cutV_length xs lo hi) hz,_,0,(r.drop (HT.sIx xs.length 0 lo)).take (HT.sIx xs.length xs.length hi - HT.sIx xs.length 0 lo),Heap.get?_push_size _ rfl⟩
def flatV : V → Bool
  | .non=>true
  | .bl _=>true
  | .int _=>true
  | .str _=>true
  | _=>false
def eqV : V → V → Bool
  | .non,.non=>true
  | .bl a,.bl b=>a == b
  | .bl a,.int b=>(if a then 1 else 0) == b
  | .int a,.bl b=>a == (if b then 1 else 0)
  | .int a,.int b=>a == b
  | .str a,.str b=>a == b
  | _,_=>false
theorem eqAt_V {A : Around} {s : Shared} {y x : V} {u v : Value} (ry : RelV y u) (rx : RelV x v) (fy : flatV y = true) (fx : flatV x = true) : SeqAt.EqAt A s u v (eqV y x):=by
  cases y with
  | non =>
    cases ry
    cases x with
    | non=>cases rx; exact SeqAt.EqAt.same _
    | bl b=>cases rx; exact SeqAt.EqAt.none_bool b
    | int b=>obtain ⟨t,rfl⟩:=rx; exact SeqAt.EqAt.none_int b t
    | str b=>obtain ⟨t,rfl⟩:=rx; exact SeqAt.EqAt.none_str b t
    | _=>exact absurd (show false = true from fx) Bool.false_ne_true
  | bl a =>
    cases ry
    cases x with
    | non=>cases rx; exact SeqAt.EqAt.bool_none a
    | bl b=>cases rx; exact SeqAt.EqAt.bool_bool a b
    | int b=>obtain ⟨t,rfl⟩:=rx; exact SeqAt.EqAt.bool_int a b t
    | str b=>obtain ⟨t,rfl⟩:=rx; exact SeqAt.EqAt.bool_str a b t
    | _=>exact absurd (show false = true from fx) Bool.false_ne_true
  | int a =>
    obtain ⟨t',rfl⟩:=ry
    cases x with
    | non=>cases rx; exact SeqAt.EqAt.int_none a t'
    | bl b=>cases rx; exact SeqAt.EqAt.int_bool a t' b
    | int b=>obtain ⟨t,rfl⟩:=rx; exact SeqAt.EqAt.int_int a t' b t
    | str b=>obtain ⟨t,rfl⟩:=rx; exact SeqAt.EqAt.int_str a t' b t
    | _=>exact absurd (show false = true from fx) Bool.false_ne_true
  | str a =>
    obtain ⟨t',rfl⟩:=ry
    cases x with
    | non=>cases rx; exact SeqAt.EqAt.str_none a t'
    | bl b=>cases rx; exact SeqAt.EqAt.str_bool a t' b
    | int b=>obtain ⟨t,rfl⟩:=rx; exact SeqAt.EqAt.str_int a t' b t
    | str b=>obtain ⟨t,rfl⟩:=rx; exact SeqAt.EqAt.str_str a t' b t
    | _=>exact absurd (show false = true from fx) Bool.false_ne_true
  | _=>exact absurd (show false = true from fy) Bool.false_ne_true
def eqU (x : V) (u : Value) : Bool:=match u with
  | .none=>eqV .non x
  | .bool b=>eqV (.bl b) x
  | .int i _=>eqV (.int i) x
  | .str z _=>eqV (.str z) x
  | _=>false
theorem eqU_of {x y : V} {u : Value} (r : RelV y u) (f : flatV y = true) : eqU x u = eqV y x:=by
  cases y with
  | non=>cases r; rfl
  | bl b=>cases r; rfl
  | int i=>obtain ⟨t,rfl⟩:=r; rfl
  | str z=>obtain ⟨t,rfl⟩:=r; rfl
  | _=>exact absurd (show false = true from f) Bool.false_ne_true
theorem any_eqU {x : V} : ∀ {xs : List V} {us : List Value},Vals xs us → xs.all flatV = true → us.any (eqU x) = xs.any fun y=>eqV y x
  | _,_,.nil,_=>rfl
  | y :: xs,u :: us,.cons r t,f=>by
    rw [List.all_cons,Bool.and_eq_true] at f
    rw [List.any_cons,List.any_cons,eqU_of r f.1,any_eqU t f.2]
theorem mem_eqAt {A : Around} {s : Shared} {x : V} {v : Value} (rx : RelV x v) (fx : flatV x = true) : ∀ {xs : List V} {us : List Value},Vals xs us → xs.all flatV = true → ∀ u ∈ us,SeqAt.EqAt A s u v (eqU x u)
  | _,_,.nil,_=>fun u hu=>by cases hu
  | y :: xs,u :: us,.cons r t,f=>fun u' hu=>by
    rw [List.all_cons,Bool.and_eq_true] at f
    rcases List.mem_cons.mp hu with rfl | hu
    · rw [eqU_of r f.1]; exact eqAt_V r rx f.1 fx
    · exact mem_eqAt rx fx t f.2 u' hu
def inV (x : V) (xs : List V) : Bool:=xs.any fun y=>eqV y x
def rIn (K : PySem.W.Frag) (neg : Bool) : R2:=fun x y H Q=>∃ p xs,y = .ref p ∧ (SqL K H p xs ∨ SqT K H p xs) ∧ flatV x = true ∧ xs.all flatV = true ∧ Q (.bl (if neg then !inV x xs else inV x xs)) H
theorem op_notIn_seq : OpR X (compareOp .NotIn) (rIn X.K true):=by
  intro pins s σ H x y v u Q I rx ry h
  obtain ⟨p,xs,rfl,hq,fx,fs,q⟩:=h
  cases ry
  rcases hq with hq | hq
  · obtain ⟨its,r,pl,hz⟩:=I.list hq
    refine SeqAt.notIn_listAt (eqU x) pl.isList (fun w hw=>mem_eqAt rx fx r fs w (by simpa using hw)) ⟨.bl _,H,I,rfl,?_⟩
    rw [show its.toArray.any (eqU x) = its.any (eqU x) by simp,any_eqU r fs]
    exact q
  · obtain ⟨its,r,pl,hz⟩:=I.tuple hq
    refine SeqAt.notIn_tupleAt (eqU x) pl (fun w hw=>mem_eqAt rx fx r fs w (by simpa using hw)) ⟨.bl _,H,I,rfl,?_⟩
    rw [show its.toArray.any (eqU x) = its.any (eqU x) by simp,any_eqU r fs]
    exact q
theorem call_len_seq : CallR X (.builtin "len") (fun xs H Q=>∃ p ys,xs = [.ref p] ∧ (SqL X.K H p ys ∨ SqT X.K H p ys) ∧ Q (.int ys.length) H):=by
  intro pins s σ H xs us Q I r h
  obtain ⟨p,ys,rfl,hq,q⟩:=h
  obtain ⟨u,rfl,rx⟩:=vals1 r
  cases rx
  have hn:=line63
  rcases hq with hq | hq
  · obtain ⟨its,r',pl,hz⟩:=I.list hq
    have hlen:=r'.length
    exact Calls.call_len_list pl.isList (by simp only [List.size_toArray] <;> omega) ⟨.int ys.length,H,I.tok _,⟨s.toks + 1,by rw [List.size_toArray,hlen]⟩,q⟩
  · obtain ⟨its,r',pl,hz⟩:=I.tuple hq
    have hlen:=r'.length
    exact len_tuple pl (by simp only [List.size_toArray] <;> omega) ⟨.int ys.length,H,I.tok _,⟨s.toks + 1,by rw [List.size_toArray,hlen]⟩,q⟩
theorem CallR.or {f : Value} {r r' : List V → Hp → VK → Prop} (h : CallR X f r) (h' : CallR X f r') : CallR X f (fun xs H Q=>r xs H Q ∨ r' xs H Q):=by
  intro pins s σ H xs us Q I rs q
  rcases q with q | q
  · exact h pins s σ H xs us Q I rs q
  · exact h' pins s σ H xs us Q I rs q
theorem call_list_of : CallR X (.type "list") (fun xs H Q=>∃ p ys,xs = [.ref p] ∧ (SqL X.K H p ys ∨ SqT X.K H p ys) ∧ ∀ l,H l = none → Q (.ref l) (upd H l (.lst ys))):=by
  intro pins s σ H xs us Q I r h
  obtain ⟨p,ys,rfl,hq,q⟩:=h
  obtain ⟨u,rfl,rx⟩:=vals1 r
  cases rx
  have fin : ∀ (its : List Value),Vals ys its → ys.length ≤ sizeLine → ∀ (h' : Heap) (c' : Nat),(∀ b o',s.heap.get? b = some o' → h'.get? b = some o') →
      h'.get? s.heap.objs.size = some { cls:=.type "list",dict:=none,data:=.seq its.toArray c',slots:=#[] } → EP X pins σ Q (.ref s.heap.objs.size) { s with heap:=h' }:=fun its r' hz h' c' kp e =>
    ⟨.ref s.heap.objs.size,_,I.laid (t':=s.toks) kp (Nat.le_refl _) (show ObjOk X.prog X.w _ h' _ (.lst ys) from ⟨hz,its,c',r',e⟩),rfl,q _ (I.hok.fresh (Nat.le_refl _))⟩
  rcases hq with hq | hq
  · obtain ⟨its,r',pl,hz⟩:=I.list hq
    have hlen:=r'.length
    obtain ⟨o,ho,hc,n,hd⟩:=pl.isList
    exact call_list_seq p (.inl rfl) ho hc hd (fun h' c' kp e=>fin its r' hz h' c' kp e) (by simp only [List.size_toArray] <;> omega)
  · obtain ⟨its,r',pl,hz⟩:=I.tuple hq
    have hlen:=r'.length
    obtain ⟨o,ho,hc,n,hd⟩:=pl
    exact call_list_seq p (.inr rfl) ho hc hd (fun h' c' kp e=>fin its r' hz h' c' kp e) (by simp only [List.size_toArray] <;> omega)
theorem call_tuple_of : CallR X (.type "tuple") (fun xs H Q=>∃ p ys,xs = [.ref p] ∧ ((SqL X.K H p ys ∧ ∀ l,H l = none → Q (.ref l) (upd H l (.tup ys))) ∨ (SqT X.K H p ys ∧ Q (.ref p) H))):=by
  intro pins s σ H xs us Q I r h
  obtain ⟨p,ys,rfl,h⟩:=h
  obtain ⟨u,rfl,rx⟩:=vals1 r
  cases rx
  rcases h with ⟨hq,q⟩ | ⟨hq,q⟩
  · obtain ⟨its,r',pl,hz⟩:=I.list hq
    have hlen:=r'.length
    refine call_tuple_list pl.isList (fun h' kp=>?_) (by simp only [List.size_toArray] <;> omega)
    have I1 : Inv X pins σ H { s with heap:=h' }:=I.kept (t':=s.toks) kp
    have I2 : Inv X pins σ (upd H h'.objs.size (.tup ys)) { s with heap:=h'.push { cls:=.type "tuple",data:=.seq its.toArray } } :=
      I1.laid (t':=s.toks) (fun b o e=>Heap.get?_push_of_some _ e) (Nat.le_refl _) (show ObjOk X.prog X.w _ _ _ (.tup ys) from ⟨hz,its,r',TupN.new _ _⟩)
    exact ⟨.ref h'.objs.size,_,I2,rfl,q _ (I1.hok.fresh (Nat.le_refl _))⟩
  · obtain ⟨its,r',pl,hz⟩:=I.tuple hq
    exact call_tuple_same pl ⟨.ref p,H,I,rfl,q⟩
def tyV (K : PySem.W.Frag) (T : String) (x : V) (H : Hp) : Prop:=match x with
  | .str _=>T = "str"
  | .int _=>T = "int"
  | .ref p=>(T = "list" ∧ ∃ xs,SqL K H p xs) ∨ (T = "tuple" ∧ ∃ o,K.lookup p = some o ∧ o.cls = .type "tuple" ∧ o.dict = none) ∨
      (T = "dict" ∧ ((∃ kvs,H p = some (.dK kvs)) ∨ ∃ kvs,H p = some (.dT kvs))) ∨ (T = "set" ∧ ∃ S n,H p = some (.set S n))
  | _=>False
theorem tyV_is {pins : List (Addr × Obj)} {σ : St} {H : Hp} {s : Shared} {T : String} {x : V} {v : Value} (I : Inv X pins σ H s) (r : RelV x v) (ty : tyV X.K T x H) :
    s.TypeIs v T ∧ ∀ a,v = .ref a → ∃ ob,s.heap.get? a = some ob ∧ ob.dict = none:=by
  cases x with
  | str z =>
    obtain ⟨t,rfl⟩:=r
    cases (show T = "str" from ty)
    exact ⟨typeIs_str s z t,fun _ e=>nomatch e⟩
  | int i =>
    obtain ⟨t,rfl⟩:=r
    cases (show T = "int" from ty)
    exact ⟨typeIs_int s i t,fun _ e=>nomatch e⟩
  | ref p =>
    cases r
    rcases ty with ⟨rfl,xs,hq⟩ | ⟨rfl,o,hk,hc,hd⟩ | ⟨rfl,hk⟩ | ⟨rfl,S,n,hk⟩
    · obtain ⟨its,_,pl,_⟩:=I.list hq
      refine ⟨pl.isList.typeIs,fun a e=>?_⟩
      cases e
      obtain ⟨o,n,e,c,hd,_⟩:=pl
      exact ⟨o,e,hd⟩
    · refine ⟨⟨o,I.kIn p o hk,hc⟩,fun a e=>?_⟩
      cases e
      exact ⟨o,I.kIn _ o hk,hd⟩
    · have z : ∃ o,s.heap.get? p = some o ∧ o.ExactDict:=by
        rcases hk with ⟨kvs,hk⟩ | ⟨kvs,hk⟩
        · obtain ⟨_,_,_,_,o,_,_,e,ex,_⟩:=I.hok p _ hk
          exact ⟨o,e,ex⟩
        · obtain ⟨_,_,_,_,o,_,_,e,ex,_⟩:=I.hok p _ hk
          exact ⟨o,e,ex⟩
      obtain ⟨o,e,ex⟩:=z
      refine ⟨⟨o,e,ex.1⟩,fun a e2=>?_⟩
      cases e2
      exact ⟨o,e,ex.2.1⟩
    · obtain ⟨o,_,_,_,e,ex,_⟩:=I.hok p _ hk
      refine ⟨⟨o,e,ex.1⟩,fun a e2=>?_⟩
      cases e2
      exact ⟨o,e,ex.2.1⟩
  | _=>exact False.elim ty
def tBM (K : PySem.W.Frag) (T : String) (r : V → List V → Hp → VK → Prop) (to : TE) (t : TA) : TE:=fun σ H Q=>to σ H fun x H1=>tyV K T x H1 ∧ t σ H1 fun xs H2=>r x xs H2 Q
variable {o e : Expr} {es : List Expr} {to : TE} {t : TA} {name : Str} {apos cpos : Pos} {T id : String} {r : V → List V → Hp → VK → Prop}
theorem pe_bm (pa : PlainAttrs T) (slot : Slot T name id) (hty : typeOf (.builtin id) = pure (.type "method_descriptor")) (hm : MtR X id r) (ho : PE X o to) (ha : PA X (e :: es) t)
    (hbase : attributeBase o name X.env (eval o X.env) = eval o X.env:=by rfl)
    (hfew : ((backTo cpos (starEach (e :: es) X.env)).all (fun x=>!x.1) && (backToKw cpos (keywordEach [] X.env)).all (fun x=>x.1.isSome)
      && decide ((e :: es).length + ([] : List Keyword).length + (if ([] : List Keyword).isEmpty then 0 else 1) < 30)) = true:=by rfl)
    (hline : (apos.endLine == cpos.line) = true:=by rfl) (hs : starEach (e :: es) X.env = (false,eval e X.env) :: starEach es X.env:=by rfl) (hplain : (backTo cpos (starEach es X.env)).any (·.1) = false:=by rfl) :
    PE X (.Call (.Attribute o name apos) (e :: es) [] cpos) (tBM X.K T r to t):=by
  intro pins s σ H Q I h
  refine wpAny_Call_method_late hbase hfew hline rfl (thn (ho pins s σ H _ I h) fun v s1 ⟨x,H1,I1,r1,ty,q1⟩=>?_)
  obtain ⟨h1,h2⟩:=tyV_is I1 r1 ty
  refine ⟨T,id,pa,slot,hty,h1,h2,?_⟩
  have hA:=ha cpos pins s1 σ H1 _ I1 q1
  rw [hs] at hA ⊢
  refine Calls.callWith_builtin (by show (false || (backTo cpos (starEach es X.env)).any (·.1)) = false; rw [hplain] <;> rfl) (Calls.evalArgs_plain ?_)
  exact thn hA fun us s2 ⟨vs,H2,I2,r2,q2⟩=>hm pins s2 σ H2 x vs v us Q I2 r1 r2 q2
end
end L2
namespace L2
open PySem PySem.Spec PyProof.Rows
def MtM (X : Cx) (id : String) (r : V → List V → Hp → VK → Prop) : Prop :=
  ∀ (pins : List (Addr × Obj)) (s : Shared) (σ : St) (H : Hp) (x : V) (xs : List V) (v : Value) (us : List Value) (Q : VK),Inv X pins σ H s → RelV x v → Vals xs us → r x xs H Q →
    wpAny (model X.prog X.w) X.A (call (.builtin id) (v :: us)) (EP X pins σ Q) X.xe s
theorem Vals.one : ∀ {x : V} {us : List Value},Vals [x] us → ∃ u,us = [u] ∧ RelV x u
  | _,_,.cons r .nil=>⟨_,rfl,r⟩
theorem Vals.two : ∀ {x y : V} {us : List Value},Vals [x,y] us → ∃ u v,us = [u,v] ∧ RelV x u ∧ RelV y v
  | _,_,_,.cons r (.cons q .nil)=>⟨_,_,rfl,r,q⟩
theorem Vals.reverse {xs : List V} {us : List Value} (h : Vals xs us) : Vals xs.reverse us.reverse:=by
  induction h with
  | nil=>exact .nil
  | cons r t ih=>rw [List.reverse_cons,List.reverse_cons]; exact Vals.append ih (.cons r .nil)
theorem Vals.rep {xs : List V} {us : List Value} (h : Vals xs us) : ∀ k : Nat,Vals (List.replicate k xs).flatten (List.replicate k us).flatten
  | 0=>.nil
  | k + 1=>by
    rw [List.replicate_succ,List.replicate_succ,List.flatten_cons,List.flatten_cons]
    exact Vals.append h (Vals.rep h k)
theorem foldl_rep (its : List Value) : ∀ (k : Nat) (acc : List Value),
    List.foldl (fun x1 x2=>x1 ++ x2) acc.toArray (List.replicate k its.toArray) = (acc ++ (List.replicate k its).flatten).toArray
  | 0,acc=>by simp
  | k + 1,acc=>by
    have e : acc.toArray ++ its.toArray = (acc ++ its).toArray:=by simp
    have e2 : (acc ++ its) ++ (List.replicate k its).flatten = acc ++ (List.replicate (k + 1) its).flatten:=by
      rw [List.replicate_succ,List.flatten_cons,List.append_assoc]
    rw [← e2,← foldl_rep its k (acc ++ its),← e,List.replicate_succ,List.foldl_cons]
section
variable {X : Cx} {pins : List (Addr × Obj)} {σ : St} {H : Hp} {s : Shared} {l b : Addr} {xs ys zs : List V}
theorem Inv.lset {its its' : List Value} {n : Nat} {f : Array Value → Array Value} {t' : Nat} (I : Inv X pins σ H s) (hH : H l = some (.lst xs))
    (e : s.heap.get? l = some { cls:=.type "list",data:=.seq its.toArray n }) (hf : f its.toArray = its'.toArray) (hv : Vals ys its') (hz : ys.length ≤ sizeLine) :
    Inv X pins σ (upd H l (.lst ys)) { s with heap:=s.heap.update l (Obj.mapSeq f),toks:=t' }:=by
  have q:=PySem.IsL.update e f
  rw [hf] at q
  refine I.write (x:=l) (e:=l) (by rw [hH]; exact trivial) (.inl rfl) (fun b' u hb hu=>(Heap.get?_update_other s.heap (Obj.mapSeq f) (Ne.symm hb)).trans hu) ⟨_,q⟩ ?_
  exact ⟨hz,its',_,hv,q⟩
theorem Inv.lnew {its : List Value} {t' : Nat} (I : Inv X pins σ H s) (hv : Vals ys its) (hz : ys.length ≤ sizeLine) :
    Inv X pins σ (upd H s.heap.objs.size (.lst ys)) { s with heap:=s.heap.push { cls:=.type "list",data:=.seq its.toArray },toks:=t' } :=
  I.laid (fun _ _ q=>Heap.get?_push_of_some _ q) (Nat.le_refl _) ⟨hz,its,0,hv,Heap.get?_push_size _ rfl⟩
theorem Inv.fresh (I : Inv X pins σ H s) : H s.heap.objs.size = none:=I.hok.fresh (Nat.le_refl _)
theorem Inv.lstM (I : Inv X pins σ H s) (hH : H l = some (.lst xs)) : xs.length ≤ sizeLine ∧ ∃ (its : List Value) (n : Nat),Vals xs its ∧ xs.length = its.length ∧ s.heap.get? l = some { cls:=.type "list",data:=.seq its.toArray n }:=by
  obtain ⟨z,its,n,r,e⟩:=I.hok l _ hH
  exact ⟨z,its,n,r,r.length,e⟩
theorem notLongL {n : Nat} (h : n ≤ sizeLine) : Builtin.List.listTooLong n = false:=by
  unfold Builtin.List.listTooLong
  exact decide_eq_false (by omega)
end
section
variable {X : Cx}
def rAppend : V → List V → Hp → VK → Prop:=fun x vs H Q=>∃ l xs y,x = .ref l ∧ vs = [y] ∧ H l = some (.lst xs) ∧ xs.length < sizeLine ∧ Q .non (upd H l (.lst (xs ++ [y])))
theorem mt_append : MtM X "list.append" rAppend:=by
  intro pins s σ H x vs v us Q I rx rv h
  obtain ⟨l,xs,y,rfl,rfl,hH,hz,q⟩:=h
  cases rx
  obtain ⟨u,rfl,ru⟩:=rv.one
  obtain ⟨z,its,n,r,hl,e⟩:=I.lstM hH
  refine call_meets F.slot_list_append ⟨_,e,rfl⟩ F.entry_list_append (F.args_list_append_2 _ _) (PySem.list_append l its.toArray n u (by rw [List.size_toArray]; omega)) ⟨e,?_⟩
  refine ⟨.non,_,I.lset (its':=its ++ [u]) hH e (by simp) (r.append (.cons ru .nil)) ?_,rfl,q⟩
  rw [List.length_append,List.length_singleton]
  omega
def rExtend : V → List V → Hp → VK → Prop:=fun x vs H Q=>∃ l b xs zs,x = .ref l ∧ vs = [.ref b] ∧ H l = some (.lst xs) ∧ H b = some (.lst zs) ∧ xs.length + zs.length ≤ sizeLine ∧ Q .non (upd H l (.lst (xs ++ zs)))
theorem mt_extend : MtM X "list.extend" rExtend:=by
  intro pins s σ H x vs v us Q I rx rv h
  obtain ⟨l,b,xs,zs,rfl,rfl,hH,hB,hz,q⟩:=h
  cases rx
  obtain ⟨u,rfl,ru⟩:=rv.one
  cases ru
  obtain ⟨z,its,n,r,hl,e⟩:=I.lstM hH
  obtain ⟨z2,its2,n2,r2,hl2,e2⟩:=I.lstM hB
  have hsz : its.toArray.size + its2.toArray.size ≤ sizeLine:=by rw [List.size_toArray,List.size_toArray]; omega
  have hlong : ¬ (!its.toArray.isEmpty && Builtin.List.listTooLong (its.toArray.size + its2.toArray.size)) = true:=by
    rw [notLongL hsz,Bool.and_false]
    exact Bool.false_ne_true
  refine call_meets F.slot_list_extend ⟨_,e,rfl⟩ F.entry_list_extend (F.args_list_extend_2 _ _)
    (AutoSeq1.list_extend_list_list_0 l its.toArray n b its2.toArray n2 hlong (by rw [List.size_toArray]; omega) (by omega)) ⟨e,e2,?_⟩
  refine ⟨.non,_,I.lset (its':=its ++ its2) hH e (by simp) (r.append r2) ?_,rfl,q⟩
  rw [List.length_append]
  omega
def rCat : R2:=fun x y H Q=>∃ l b xs zs,x = .ref l ∧ y = .ref b ∧ H l = some (.lst xs) ∧ H b = some (.lst zs) ∧ xs.length + zs.length ≤ sizeLine ∧ ∀ p,H p = none → Q (.ref p) (upd H p (.lst (xs ++ zs)))
theorem op_cat : OpR X (binaryOp .Add) rCat:=by
  intro pins s σ H x y v u Q I rx ry h
  obtain ⟨l,b,xs,zs,rfl,rfl,hH,hB,hz,q⟩:=h
  cases rx
  cases ry
  obtain ⟨z,its,n,r,hl,e⟩:=I.lstM hH
  obtain ⟨z2,its2,n2,r2,hl2,e2⟩:=I.lstM hB
  refine PySem.P.add_list e e2 ?_ (by rw [List.size_toArray,List.size_toArray]; omega)
  have ea : its.toArray ++ its2.toArray = (its ++ its2).toArray:=by simp
  rw [ea]
  exact ⟨.ref _,_,I.lnew (t':=s.toks) (r.append r2) (by rw [List.length_append]; omega),rfl,q _ I.fresh⟩
def rRep : R2:=fun x y H Q=>∃ l k xs,x = .ref l ∧ y = .int k ∧ H l = some (.lst xs) ∧ -(2 ^ 63) ≤ k ∧ k < 2 ^ 63 ∧ xs.length * k.toNat ≤ sizeLine ∧
  ∀ p,H p = none → Q (.ref p) (upd H p (.lst (List.replicate k.toNat xs).flatten))
theorem len_rep {α : Type} (xs : List α) (k : Nat) : (List.replicate k xs).flatten.length = k * xs.length:=by
  induction k with
  | zero=>simp
  | succ k ih=>rw [List.replicate_succ,List.flatten_cons,List.length_append,ih,Nat.succ_mul,Nat.add_comm]
theorem op_rep : OpR X (binaryOp .Mult) rRep:=by
  intro pins s σ H x y v u Q I rx ry h
  obtain ⟨l,k,xs,rfl,rfl,hH,h1,h2,hz,q⟩:=h
  cases rx
  obtain ⟨t,rfl⟩:=ry
  obtain ⟨z,its,n,r,hl,e⟩:=I.lstM hH
  have hlen : its.toArray.size * k.toNat ≤ sizeLine:=by rw [List.size_toArray,← hl]; exact hz
  have hcap : ¬ its.toArray.size * k.toNat > (2 ^ 63 - 1) / 8:=by
    have : (sizeLine : Nat) ≤ (2 ^ 63 - 1) / 8:=by decide
    omega
  have hfit : ¬ (!Builtin.List.listFitsIndex k) = true:=by
    rw [fitsIndex_both h1 h2]
    exact Bool.false_ne_true
  have hlong : ¬ Builtin.List.listTooLong (its.toArray.size * k.toNat) = true:=by
    rw [notLongL hlen]
    exact Bool.false_ne_true
  have hnew : List.foldl (fun x1 x2=>x1 ++ x2) #[] (List.replicate (if its.toArray.isEmpty = true then 0 else k.toNat) its.toArray) = (List.replicate k.toNat its).flatten.toArray:=by
    have f0 : ∀ m : Nat,List.foldl (fun x1 x2=>x1 ++ x2) #[] (List.replicate m its.toArray) = (List.replicate m its).flatten.toArray:=fun m=>by
      have:=foldl_rep its m []
      rw [List.nil_append] at this
      exact this
    rw [f0]
    cases its with
    | nil=>simp
    | cons a r'=>rw [if_neg (by simp)]
  refine wpAny_binaryOp_repeat_ref (T := "list") (U := "int") (by decide) ⟨_,e,rfl⟩ (fun s'=>typeIs_int s' k t) noFill_list_mul F.fills_int_mul F.slot_int_rmul repeat_list F.slot_int_index.lookup
    (call_meets F.slot_int_rmul (typeIs_int s k t) F.entry_int_rmul (F.args_int_rmul_2 _ _) (int___rmul___int_list k t l its.toArray n)
      ⟨e,rfl,⟨_,e,rfl⟩,call_meets F.slot_list_mul ⟨_,e,rfl⟩ F.entry_list_mul (F.args_list_mul_2 _ _) (AutoListH.list___mul___list_int_3 l its.toArray n k t hfit hcap hlong) ⟨e,?_⟩⟩)
  rw [hnew]
  exact ⟨.ref _,_,I.lnew (t':=s.toks) (r.rep k.toNat) (by rw [len_rep,Nat.mul_comm]; exact hz),rfl,q _ I.fresh⟩
end
section
variable {prog : Program} {w : World} {A : Around} {E : Value → Shared → Prop} {s : Shared}
end
section
variable {X : Cx}
end
end L2
namespace Att
open PySem PySem.W PySem.Calls PyProof.Rows
theorem ints_of_wellAll {P : Params} {h : Heap} : ∀ (ns : List Int) (vs : List Value),WellAll P h vs (ns.map WData.int) → IntsAre vs ns:=by
  intro ns
  induction ns with
  | nil =>
    intro vs w
    rw [List.map_nil] at w
    cases w
    exact .nil
  | cons n ns ih =>
    intro vs w
    rw [List.map_cons] at w
    cases w with
    | cons a b =>
      cases a
      exact .cons _ _ (ih _ b)
theorem script_of {l : OpenLaw} {n : Nat} (hn : l.most = some n) {P : Params} {h : Heap} {args : List WData} {vals : List Value}
    (hpre : l.row.toRowW.claim.pre args = true) (hwl : WellAll P h vals args) :
    ∃ a vs ns,vals = [Value.ref a] ∧ args = [WData.list (ns.map WData.int)] ∧ h.get? a = some { cls:=.type "list",data:=.seq vs.toArray } ∧ IntsAre vs ns ∧ ns.length ≤ n:=by
  have hsh : WShape.hasAll [] args [.list .int] = true:=(pre_splitW hpre).1
  have hc : l.pre.holds [] { args:=args } = true:=(pre_splitW hpre).2
  obtain ⟨d,r,rfl,h1,h2⟩:=hasAllW_cons hsh
  obtain rfl:=hasAllW_nil h2
  obtain ⟨xs,rfl,h3⟩:=hasW_list h1
  obtain ⟨ns,rfl⟩:=items_int h3
  have hlen : ns.length ≤ n:=by
    unfold OpenLaw.pre at hc
    have h4 : (WTm.not (.lt (.lit (.int (n : Int))) (.len (.arg 0)))).holds [] { args:=[.list (ns.map .int)] } = true:=by
      have h4:=(holds_andW hc).1
      rw [hn] at h4
      exact h4
    have h5:=condW_of h4 (w_not (w_lt w_lit (w_len_list (w_arg rfl))))
    rw [List.length_map] at h5
    refine Nat.le_of_not_lt fun q=>?_
    have q' : (n : Int) < ((ns.length : Nat) : Int):=by omega
    first
      | (rw [decide_eq_true q'] at h5; exact absurd h5 (by decide))
      | (simp at h5; omega)
  cases hwl with
  | cons w1 w2 =>
    cases w2
    cases w1 with
    | list ho hall=>exact ⟨_,_,ns,rfl,rfl,ho,ints_of_wellAll ns _ hall,hlen⟩
theorem post_true (l : OpenLaw) (args : List WData) : l.row.toRowW.claim.post args (.bool true) args = true :=
  postW_of (r:=l.row.toRowW) (X:=(true == true))
    (show WShape.has [] (.bool true) .bool = true by first | rfl | decide | simp [WShape.has,WShape.arms,WShape.armsAll])
    (show (WTm.eq .res (.lit (.bool true))).value [] { args:=args,res:=some (.bool true),after:=args } = some (.bool (true == true)) from w_eq_bool (w_res rfl) w_lit) rfl
theorem attach_call {l : OpenLaw} {n : Nat} {q : Program} {loose : List Str} {XP : (Str → Option Value) → Heap → Prop} {YP : World → Heap → Prop} {d : DefRec}
    (hn : l.most = some n) (hdf : d.params.defaults = [])
    (call : ∀ (w : World) (s₀ s₁ : Shared) (mg mb : Str → Option Value) (fa : Addr) (o : Obj) (pm cd doc : Value) (a : Addr) (vs : List Value) (ns : List Int),
      Ground q loose [] XP w s₀ mg mb s₁.heap → YP w s₁.heap →
      s₁.heap.get? fa = some o → o.data = .func (docDef d.name d.params d.body d.scope pm cd doc) → s₁.heap.CodeRec cd d.name → mg d.name = some (.ref fa) →
      s₁.heap.get? a = some { cls:=.type "list",data:=.seq vs.toArray } → IntsAre vs ns → ns.length ≤ n → s₁.gens = #[] →
      codeAny (model l.prog w) callerA (.call (.ref fa) ⟨[.ref a],[]⟩) (fun r s'=>r = .ok (.ret (.bool true)) ∧ OldK s₁.heap s'.heap ∧ s'.os = s₁.os ∧ AllBare s'.gens) s₁) :
    WalkO q loose XP YP l.row.toRowW d [] (fun f vs=>PySem.call f vs):=by
  intro w s₀ s₁ mg mb G Y fa o pm cd doc dV kV ho hd hcd hD hmg hg args vals as hpre hlay hrd hwl hlo
  obtain rfl : dV = .none:=Dflts.none hD hdf
  obtain rfl : kV = .none:=Dflts.noKw hD
  obtain ⟨a,vs,ns,rfl,rfl,hobj,hints,hlen⟩:=script_of hn hpre hwl
  refine enter_call (codeAny_mono (call w s₀ s₁ mg mb fa o pm cd doc a vs ns G Y ho (fd_plain hd) hcd hmg hobj hints hlen hg) fun r s' hq=>?_)
  obtain ⟨rfl,h2,h3,h4⟩:=hq
  exact ⟨.inl ⟨.bool true,.bool true,[],rfl,fun _=>rfl,.bool true,post_true l _,fun _=>⟨List.Pairwise.nil,fun _ hm=>(nomatch hm)⟩⟩,h2,h3,h4⟩
section
variable {prog : Program} {w : World} {A : Around} {E : Value → Shared → Prop} {s : Shared} {K : Frag}
def ledger (h : Heap) (L d : Addr) : List (Addr × Obj):=(List.range h.objs.size).filterMap fun a=>if a = L ∨ a = d then none else (h.get? a).map fun o=>(a,o)
end
end Att
namespace L2
open PySem PySem.Spec PyProof.Rows
theorem vals_ints : ∀ {vs : List Value} {ns : List Int},IntsAre vs ns → Vals (ns.map V.int) vs
  | _,_,.nil=>.nil
  | _,_,.cons n t h=>.cons ⟨t,rfl⟩ (vals_ints h)
def Only (H : Hp) : Prop:=∀ b,H b = none ∨ ∃ o xs,H b = some (.frz o (.lst xs))
theorem law_call {P : Program} {w : World} {K : PySem.W.Frag} {mg mb : Str → Option Value} {CX : CXT} {k : Nat} {fa a : Addr} {fd : FuncData} {x : Str} {sp : Sp} {s₁ : Shared} {vs : List Value} {ns : List Int}
    (KX : K.In s₁.heap) (hns : s₁.heap.Ns mainGlobals mg) (hb : s₁.heap.Ns builtinsNs mb) (hbb : ∀ x : Str,x ≠ "__name__" → mb x = bootBuiltins x) (hlim : s₁.heap.NoLimit) (hg : s₁.gens = #[])
    (ha : s₁.heap.get? a = some { cls:=.type "list",data:=.seq vs.toArray }) (hi : IntsAre vs ns) (hl : ns.length ≤ sizeLine) (hr : Room k callerA)
    (F : ∀ base : Heap,K.In base → base.Ns mainGlobals mg → FnOk P w K mg base CX k fa fd [x] sp) (hbind : ∀ (s : Shared) (u : Value),BindsTo s fd ⟨[u],[]⟩ [(x,u)])
    (hsp : ∀ H : Hp,Only H → SqL K H a (ns.map V.int) → sp [.ref a] H (fun v _=>v = .bl true) fun _ _ _=>False)
    (hCX : ∀ H e s',CX [] H s₁ (fun _ _ _=>False) e s' → False) :
    codeAny (model P w) callerA (.call (.ref fa) ⟨[.ref a],[]⟩) (fun r s'=>r = .ok (.ret (.bool true)) ∧ OldK s₁.heap s'.heap ∧ s'.os = s₁.os ∧ AllBare s'.gens) s₁:=by
  have rv:=vals_ints hi
  have lenV:=hi.length
  have core : ∀ H : Hp,Only H → SqL K H a (ns.map V.int) → HOk P w H s₁.heap → (∀ b,H b ≠ none → b = a) → (H a ≠ none → K.lookup a = none) →
      codeAny (model P w) callerA (.call (.ref fa) ⟨[.ref a],[]⟩) (fun r s'=>r = .ok (.ret (.bool true)) ∧ OldK s₁.heap s'.heap ∧ s'.os = s₁.os ∧ AllBare s'.gens) s₁:=by
    intro H hO hS hok hA hK
    have base_of : ∀ {b : Addr} {o : Obj},s₁.heap.get? b = some o → H b = none → (hidT s₁.heap H).get? b = some o:=fun e n=>hidT_get e n
    have noA : ∀ {b : Addr} {o : Obj} {es : Array DictEntry} {ep : Nat},s₁.heap.get? b = some o → o.data = .dict es ep → H b = none:=fun {b o es ep} e d=>by
      cases q : H b with
      | none=>rfl
      | some u =>
        have e' : b = a:=hA b (by rw [q]; simp)
        subst e'
        rw [ha] at e; cases e
        have d' : Data.seq vs.toArray _ = Data.dict es ep:=d
        cases d'
    have nsK : ∀ {b : Addr} {m : Str → Option Value},s₁.heap.Ns b m → (hidT s₁.heap H).Ns b m:=fun {b m} ⟨o,es,ep,e,d,r⟩=>⟨o,es,ep,base_of e (noA e d),d,r⟩
    have hKb : K.In (hidT s₁.heap H):=fun b o e=>base_of (KX b o e) (by
      cases q : H b with
      | none=>rfl
      | some u =>
        have e' : b = a:=hA b (by rw [q]; simp)
        subst e'
        rw [hK (by rw [q]; simp)] at e; cases e)
    have hM : Mod K mg (hidT s₁.heap H):=⟨hKb,nsK hns,⟨mb,nsK hb,hbb⟩,let ⟨mc,h1,h2⟩:=hlim; ⟨mc,nsK h1,h2⟩⟩
    have e0 : Env0 P w K mg (hidT s₁.heap H) callerA [] s₁ H:=⟨rfl,hM,fun b o e=>of_hidT e,Nat.le_of_eq (hidT_size _ _),trivial,fun b hb=>absurd (show b ∈ ([] : List Addr) from hb) (by simp),hok,.of_eq hg⟩
    refine codeAny_mono ((F _ hKb (nsK hns)).run callerA [] s₁ H ⟨[.ref a],[]⟩ [.ref a] [.ref a] _ _ hr e0 (hbind s₁ (.ref a)) (.cons rfl .nil) (hsp H hO hS)) fun r s' h=>?_
    cases r with
    | error e=>exact (hCX H e s' h).elim
    | ok fl =>
      cases fl with
      | next=>exact False.elim h
      | brk=>exact False.elim h
      | cont=>exact False.elim h
      | ret u =>
        obtain ⟨v,H',os,bare,un,hok',r',q⟩:=h
        have q' : v = .bl true:=q
        subst q'
        obtain rfl : u = Value.bool true:=r'
        refine ⟨rfl,OldK.of_keep fun b o e=>?_,os,bare⟩
        cases q : H b with
        | none=>exact un.keep b o e q (by intro z; exact absurd (show b ∈ ([] : List Addr) from z) (by simp)) (by simp)
        | some u =>
          rcases hO b with z | ⟨ob,xs,z⟩
          · rw [q] at z; cases z
          · have z2:=un.frzs b ob _ z
            obtain ⟨e1,_⟩:=hok b _ z
            obtain ⟨e2,_⟩:=hok' b _ z2
            rw [e] at e1; cases e1
            exact e2
  cases hk : K.lookup a with
  | some o =>
    have e:=KX a o hk
    rw [ha] at e
    cases e
    refine core (fun _=>none) (fun _=>.inl rfl) (.inr ⟨_,vs.toArray,_,hk,rfl,rfl,rfl,by rw [List.size_toArray,lenV]; exact hl,by simpa using rv⟩) (fun b u z=>by have z' : (none : Option HO) = some u:=z; cases z') (fun b z=>absurd rfl z) fun z=>absurd rfl z
  | none =>
    refine core (fun b=>if b = a then some (.frz { cls:=.type "list",data:=.seq vs.toArray } (.lst (ns.map V.int))) else none) (fun b=>?_) (.inl (.inr ⟨{ cls:=.type "list",data:=.seq vs.toArray },if_pos rfl⟩)) (fun b u z=>?_) (fun b z=>?_) fun _=>hk
    · by_cases hb : b = a
      · exact .inr ⟨_,_,if_pos hb⟩
      · exact .inl (if_neg hb)
    · by_cases hb : b = a
      · have z':=(if_pos hb).symm.trans z
        cases z'
        subst hb
        exact ⟨ha,by rw [List.length_map]; exact hl,vs,_,rv,ha⟩
      · have z':=(if_neg hb).symm.trans z
        cases z'
    · by_cases hb : b = a
      · exact hb
      · exact absurd (if_neg hb) z
end L2
namespace L2
open PySem PySem.Spec PyProof.Rows
theorem walk_of {l : PySem.W.OpenLaw} {n k : Nat} {q : Program} {loose : List Str} {XP : (Str → Option Value) → Heap → Prop} {YP : World → Heap → Prop} {d : DefRec} {K : Params → PySem.W.Frag} {CX : World → CXT} {sp : World → Sp} {x : Str}
    (hn : l.most = some n) (hn2 : n ≤ sizeLine) (hdf : d.params.defaults = []) (hr : Room k callerA)
    (hY : ∀ (w : World) (h : Heap),YP w h → (K w.params).In h)
    (F : ∀ (w : World) (mg : Str → Option Value) (fa : Addr) (h : Heap),(K w.params).In h → h.Ns mainGlobals mg → mg d.name = some (.ref fa) →
      ∃ fd : FuncData,(∀ (s : Shared) (u : Value),BindsTo s fd ⟨[u],[]⟩ [(x,u)]) ∧
        ∀ base : Heap,(K w.params).In base → base.Ns mainGlobals mg → FnOk l.prog w (K w.params) mg base (CX w) k fa fd [x] (sp w))
    (hsp : ∀ (w : World) (H : Hp) (a : Addr) (ns : List Int),ns.length ≤ n → Only H → SqL (K w.params) H a (ns.map V.int) → sp w [.ref a] H (fun v _=>v = .bl true) fun _ _ _=>False)
    (hCX : ∀ (w : World) (H : Hp) (s : Shared) (e : Value) (s' : Shared),CX w [] H s (fun _ _ _=>False) e s' → False) :
    PySem.W.WalkO q loose XP YP l.row.toRowW d [] (fun f vs=>PySem.call f vs):=by
  refine Att.attach_call hn hdf fun w s₀ s₁ mg mb fa o pm cd doc a vs ns G Y ho hd hcd hmg hobj hints hlen hg=>?_
  have KX:=hY w _ Y
  obtain ⟨fd,hb,hF⟩:=F w mg fa _ KX G.T.g hmg
  exact law_call KX G.T.g G.T.b G.T.builtins G.T.nolimit hg hobj hints (Nat.le_trans hlen hn2) hr hF hb (fun H hO hS=>hsp w H a ns hlen hO hS) fun H e s'=>hCX w H s₁ e s'
end L2
namespace L2
open PySem PySem.Spec PyProof.Rows
def defArgs (s : Stmt) : Arguments:=match s with
  | .FunctionDef _ a _ _ _ _ _ _ _ _=>a
  | _=>{ posonlyargs:=[],args:=[],vararg:=none,kwonlyargs:=[],kw_defaults:=[],kwarg:=none,defaults:=[] }
def defBody (s : Stmt) : List Stmt:=match s with
  | .FunctionDef _ _ b _ _ _ _ _ _ _=>b
  | _=>[]
def defScope (s : Stmt) : Scope:=match s with
  | .FunctionDef _ _ _ _ _ _ sc _ _ _=>sc
  | _=>{ kind:=.function,names:=[],isGenerator:=false,isCoroutine:=false }
abbrev CX0 : CXT:=fun _ _ _ _ _ _=>False
abbrev E0 : XK:=fun _ _ _=>False
theorem pass0 {X : Cx} : Passes CX0 X E0:=fun _ _ _ _ _ _ _ h=>h.elim
structure Fun (K : PySem.W.Frag) (x qual : Str) (st : Stmt) (f : Addr) (fd : FuncData) : Prop where
  ex : ∃ (oc : Value) (od : Option Addr) (kV doc pm : Value) (an : Option Addr) (cdv ct : Value) (osl : Array (Option Value)),
    fd = PySem.W.fnOf x qual (defArgs st) (defBody st) (defScope st) .none kV doc pm an cdv ct ∧ K.lookup f = some ⟨oc,od,.func fd,osl⟩ ∧ PySem.W.codeIn K cdv qual = true
  kp : PySem.W.keepIn K (.ref f) = true
section
variable {P : Program} {w : World} {K : PySem.W.Frag} {mg : Str → Option Value} {base : Heap}
theorem Fun.ok {x qual : Str} {st : Stmt} {f : Addr} {fd : FuncData} {N ps : List Str} {k : Nat} {sp : Sp} (F : Fun K x qual st f fd) (S : FnScope N ps (defScope st)) (len : ∀ vs H Q E,sp vs H Q E → vs.length = ps.length)
    (hbody : ∀ (cdv : Value) (A : Around) (outer : List Env) (s : Shared) (H : Hp) (vs : List V) (Q : VK) (E : XK),Room k (A.deeper (envOfC qual (defScope st) s.heap.objs.size f cdv)) → sp vs H Q E →
      ∃ t,PSs (cxOf CX0 P w K mg base N qual (defScope st) f cdv A outer s H E).nox (defBody st) t ∧ t { nx:=fun _ H'=>Q .non H',rt:=Q } (start N vs) H) : FnOk P w K mg base CX0 (k + 1) f fd ps sp:=by
  obtain ⟨oc,od,kV,doc,pm,an,cdv,ct,osl,rfl,lk,hcd⟩:=F.ex
  refine fn_of lk hcd S len fun A outer s H vs Q E hr hsp=>?_
  obtain ⟨t,h,q⟩:=hbody cdv A outer s H vs Q E hr hsp
  exact ⟨t,h.nox,q⟩
theorem Fun.binds {x qual : Str} {st : Stmt} {f : Addr} {fd : FuncData} {ps : List Str} (F : Fun K x qual st f fd)
    (h : ∀ (kV doc pm : Value) (an : Option Addr) (cdv ct : Value) (us : List Value),us.length = ps.length → bindArgs (PySem.W.fnOf x qual (defArgs st) (defBody st) (defScope st) .none kV doc pm an cdv ct) ⟨us,[]⟩ = pure (ps.zip us)) : Binds K fd ps []:=by
  obtain ⟨oc,od,kV,doc,pm,an,cdv,ct,osl,rfl,lk,hcd⟩:=F.ex
  exact .all (h kV doc pm an cdv ct)
theorem fun_mk {x qual : Str} {st : Stmt} {f : Addr} {oc : Value} {od an : Option Addr} {osl : Array (Option Value)} {kV doc pm cdv ct : Value} (l : K.lookup f = some ⟨oc,od,.func (PySem.W.fnOf x qual (defArgs st) (defBody st) (defScope st) .none kV doc pm an cdv ct),osl⟩)
    (c : PySem.W.codeIn K cdv qual = true) (k : PySem.W.keepIn K (.ref f) = true) : Fun K x qual st f (PySem.W.fnOf x qual (defArgs st) (defBody st) (defScope st) .none kV doc pm an cdv ct):=⟨⟨oc,od,kV,doc,pm,an,cdv,ct,osl,rfl,l,c⟩,k⟩
end
theorem hu_of {A : Around} {k : Nat} (hr : Room k A) : A.units + 1 < cLine:=Nat.lt_of_le_of_lt (Nat.add_le_add_left (by decide : 1 ≤ 64) _) hr.units
section
variable {X : Cx}
theorem pv (i : Nat) {x : Str} {pos : Pos} (hN : X.N[i]? = some x:=by rfl) (hv : Vis X.env.scope x:=by first | exact Or.inl rfl | exact Or.inr (Or.inl rfl) | exact Or.inr (Or.inr rfl)) (hd : (x == ("__debug__" : Str)) = false:=by decide)
    (hcd : (x == ("__classdict__" : Str)) = false:=by decide) : PE X (.Name x pos) (tVar i):=pe_var hN hv hd hcd
end
theorem iteF {A B : Prop} (h : B) : if false = true then A else B:=by
  rw [if_neg Bool.false_ne_true]
  exact h
theorem iteT {A B : Prop} (h : A) : if true = true then A else B:=by
  rw [if_pos rfl]
  exact h
theorem ite2 {c A B : Prop} [Decidable c] (h1 : c → A) (h2 : ¬ c → B) : if c then A else B:=by
  by_cases h : c
  · rw [if_pos h]
    exact h1 h
  · rw [if_neg h]
    exact h2 h
def Same (H H' : Hp) : Prop:=∀ b o,H b = some o → H' b = some o
theorem Same.refl (H : Hp) : Same H H:=fun _ _ h=>h
theorem Same.trans {H H1 H2 : Hp} (a : Same H H1) (b : Same H1 H2) : Same H H2:=fun c o h=>b c o (a c o h)
theorem Same.free {H H' : Hp} (e : Same H H') {l : Addr} (h : H' l = Option.none) : H l = Option.none:=by
  cases q : H l with
  | none=>rfl
  | some o =>
    rw [e l o q] at h
    cases h
theorem Same.seq {K : PySem.W.Frag} {H H' : Hp} {a : Addr} {xs : List V} (e : Same H H') (h : SqL K H a xs) : SqL K H' a xs:=by
  rcases h with (h | ⟨o,h⟩) | h
  · exact .inl (.inl (e _ _ h))
  · exact .inl (.inr ⟨o,e _ _ h⟩)
  · exact .inr h
end L2
namespace L2
open PySem PySem.Spec PyProof.Rows
section
variable {κ : Type} [DecidableEq κ]
def valV (kvs : List (κ × V)) (k : κ) : Option V:=(kvs.find? fun kv=>decide (kv.1 = k)).map (·.2)
def putK (kvs : List (κ × V)) (k : κ) (v : V) : List (κ × V) :=
  if (kvs.any fun kv=>decide (kv.1 = k)) = true then kvs.map (fun kv=>if kv.1 = k then (kv.1,v) else kv) else kvs ++ [(k,v)]
def dropK (kvs : List (κ × V)) (k : κ) : List (κ × V):=kvs.filter fun kv=>decide (kv.1 ≠ k)
theorem valV_pos {p : κ × V} {r : List (κ × V)} {k : κ} (e : p.1 = k) : valV (p :: r) k = some p.2:=by simp [valV,List.find?_cons,e]
theorem valV_neg {p : κ × V} {r : List (κ × V)} {k : κ} (e : ¬ p.1 = k) : valV (p :: r) k = valV r k:=by simp [valV,List.find?_cons,e]
theorem valV_any (k : κ) : ∀ kvs : List (κ × V),(kvs.any fun kv=>decide (kv.1 = k)) = (valV kvs k).isSome
  | []=>rfl
  | p :: r=>by
    rw [List.any_cons]
    by_cases e : p.1 = k
    · simp only [valV_pos e,decide_eq_true e,Bool.true_or,Option.isSome_some]
    · rw [valV_neg e,decide_eq_false e,Bool.false_or]; exact valV_any k r
theorem length_putK (kvs : List (κ × V)) (k : κ) (v : V) : (putK kvs k v).length ≤ kvs.length + 1:=by
  unfold putK
  split
  · rw [List.length_map]; omega
  · rw [List.length_append,List.length_cons,List.length_nil]; omega
theorem RelO.isSome_eq {o : Option V} {u : Option Value} (r : RelO o u) : o.isSome = u.isSome:=by
  cases o with
  | none=>cases u with
    | none=>rfl
    | some _=>exact (show False from r).elim
  | some _=>cases u with
    | none=>exact (show False from r).elim
    | some _=>rfl
theorem RelO.getD {o : Option V} {u : Option Value} {d : V} {d' : Value} (r : RelO o u) (rd : RelV d d') : RelV (o.getD d) (u.getD d'):=by
  cases o with
  | none=>cases u with
    | none=>exact rd
    | some _=>exact (show False from r).elim
  | some _=>cases u with
    | none=>exact (show False from r).elim
    | some _=>exact r
theorem KV.val {kvs : List (κ × V)} {vs : List (κ × Value)} (r : KV kvs vs) (k : κ) : RelO (valV kvs k) (valueAt vs k):=by
  unfold KV at r
  induction r with
  | nil=>exact True.intro
  | @cons p q ps qs h t ih =>
    obtain ⟨h1,h2⟩:=h
    by_cases e : p.1 = k
    · have e' : q.1 = k:=h1.symm.trans e
      have b : valueAt (q :: qs) k = some q.2:=by simp [valueAt,List.find?_cons,e']
      rw [valV_pos e,b]; exact h2
    · have e' : ¬ q.1 = k:=fun z=>e (h1.trans z)
      have b : valueAt (q :: qs) k = valueAt qs k:=by simp [valueAt,List.find?_cons,e']
      rw [valV_neg e,b]; exact ih
theorem KV.any {kvs : List (κ × V)} {vs : List (κ × Value)} (r : KV kvs vs) (k : κ) : (kvs.any fun kv=>decide (kv.1 = k)) = vs.any fun kv=>decide (kv.1 = k):=by
  unfold KV at r
  induction r with
  | nil=>rfl
  | cons h t ih=>rw [List.any_cons,List.any_cons,ih,h.1]
theorem KV.repl {kvs : List (κ × V)} {vs : List (κ × Value)} (r : KV kvs vs) (k : κ) {y : V} {u : Value} (ry : RelV y u) :
    KV (kvs.map fun kv=>if kv.1 = k then (kv.1,y) else kv) (vs.map fun kv=>if kv.1 = k then (kv.1,u) else kv):=by
  unfold KV at r ⊢
  induction r with
  | nil=>exact .nil
  | @cons p q ps qs h t ih =>
    rw [List.map_cons,List.map_cons]
    refine .cons ?_ ih
    obtain ⟨h1,h2⟩:=h
    by_cases e : p.1 = k
    · rw [if_pos e,if_pos (h1.symm.trans e)]; exact ⟨h1,ry⟩
    · rw [if_neg e,if_neg (fun z=>e (h1.trans z))]; exact ⟨h1,h2⟩
theorem KV.put {kvs : List (κ × V)} {vs : List (κ × Value)} (r : KV kvs vs) (k : κ) {y : V} {u : Value} (ry : RelV y u) : KV (putK kvs k y) (stored vs k u):=by
  unfold putK stored
  rw [r.any k]
  by_cases e : (vs.any fun kv=>decide (kv.1 = k)) = true
  · rw [if_pos e,if_pos e]; exact r.repl k ry
  · rw [if_neg e,if_neg e]; exact Paired.snoc r ⟨rfl,ry⟩
theorem KV.drop {kvs : List (κ × V)} {vs : List (κ × Value)} (r : KV kvs vs) (k : κ) : KV (dropK kvs k) (without vs k):=by
  unfold KV at r ⊢
  unfold dropK without
  induction r with
  | nil=>exact .nil
  | @cons p q ps qs h t ih =>
    obtain ⟨h1,h2⟩:=h
    rw [List.filter_cons,List.filter_cons]
    by_cases e : p.1 = k
    · have a : ¬ decide (p.1 ≠ k) = true:=by simp [e]
      have b : ¬ decide (q.1 ≠ k) = true:=by simp [h1.symm.trans e]
      rw [if_neg a,if_neg b]; exact ih
    · have e' : ¬ q.1 = k:=fun z=>e (h1.trans z)
      have a : decide (p.1 ≠ k) = true:=by simp [e]
      have b : decide (q.1 ≠ k) = true:=by simp [e']
      rw [if_pos a,if_pos b]; exact .cons ⟨h1,h2⟩ ih
theorem KV.keys {kvs : List (κ × V)} {vs : List (κ × Value)} (r : KV kvs vs) : kvs.map (·.1) = vs.map (·.1):=by
  unfold KV at r
  induction r with
  | nil=>rfl
  | cons h t ih=>rw [List.map_cons,List.map_cons,ih,h.1]
theorem KV.length {kvs : List (κ × V)} {vs : List (κ × Value)} (r : KV kvs vs) : kvs.length = vs.length:=Paired.length r
end
theorem kV_is {P : Program} {w : World} {k : Key} {u : Value} (r : RelV (kV k) u) : (mixKind P w).is k u = true:=by
  cases k with
  | inl i=>obtain ⟨t,e⟩:=(show ∃ t,u = Value.int i t from r); subst e; exact mixKind_int P w i t
  | inr x=>obtain ⟨t,e⟩:=(show ∃ t,u = Value.str x t from r); subst e; exact mixKind_str P w x t
theorem items_are {P : Program} {w : World} : ∀ {ks : List Key} {us : List Value},Vals (ks.map kV) us → ItemsAre (mixKind P w) ks us
  | [],_,r=>by rw [List.map_nil] at r; cases r; exact .nil
  | k :: ks,_,r=>by
    rw [List.map_cons] at r
    cases r with
    | cons h t=>exact .cons (kV_is h) (items_are t)
abbrev KT (H : Hp) : List (List Key × V) → List (List Key × Addr × Value) → Prop:=Paired fun p q=>p.1 = q.1 ∧ H q.2.1 = some (.tup (p.1.map kV)) ∧ RelV p.2 q.2.2
theorem KT.val {H : Hp} {kvs : List (List Key × V)} {xs : List (List Key × Addr × Value)} (r : KT H kvs xs) (k : List Key) : RelO (valV kvs k) ((atKey xs k).map (·.2)):=by
  induction r with
  | nil=>exact True.intro
  | @cons p q ps qs h t ih =>
    obtain ⟨h1,_,h2⟩:=h
    by_cases e : p.1 = k
    · have e' : q.1 = k:=h1.symm.trans e
      have b : atKey (q :: qs) k = some q.2:=by simp [atKey,List.find?_cons,e']
      rw [valV_pos e,b]; exact h2
    · have e' : ¬ q.1 = k:=fun z=>e (h1.trans z)
      have b : atKey (q :: qs) k = atKey qs k:=by simp [atKey,List.find?_cons,e']
      rw [valV_neg e,b]; exact ih
theorem KT.repl {H : Hp} {kvs : List (List Key × V)} {xs : List (List Key × Addr × Value)} (r : KT H kvs xs) (k : List Key) {y : V} {u : Value} (ry : RelV y u) :
    KT H (kvs.map fun kv=>if kv.1 = k then (kv.1,y) else kv) (xs.map (putAt k u)):=by
  induction r with
  | nil=>exact .nil
  | @cons p q ps qs h t ih =>
    rw [List.map_cons,List.map_cons]
    refine .cons ?_ ih
    obtain ⟨h1,h2,h3⟩:=h
    unfold putAt
    by_cases e : p.1 = k
    · rw [if_pos e,if_pos (h1.symm.trans e)]; exact ⟨h1,h2,ry⟩
    · rw [if_neg e,if_neg (fun z=>e (h1.trans z))]; exact ⟨h1,h2,h3⟩
theorem KT.put {H : Hp} {kvs : List (List Key × V)} {xs : List (List Key × Addr × Value)} (r : KT H kvs xs) (k : List Key) {b : Addr} {y : V} {u : Value} (hb : H b = some (.tup (k.map kV))) (ry : RelV y u) :
    KT H (putK kvs k y) (storedH xs k b u):=by
  have e : (kvs.any fun kv=>decide (kv.1 = k)) = (atKey xs k).isSome:=by
    rw [valV_any,(r.val k).isSome_eq,Option.isSome_map]
  unfold putK storedH
  rw [e]
  by_cases q : (atKey xs k).isSome = true
  · rw [if_pos q,if_pos q]; exact r.repl k ry
  · rw [if_neg q,if_neg q]; exact Paired.snoc r ⟨rfl,hb,ry⟩
theorem KT.keeps {H H' : Hp} {kvs : List (List Key × V)} {xs : List (List Key × Addr × Value)} (r : KT H kvs xs) (ht : ∀ b ys,H b = some (.tup ys) → H' b = some (.tup ys)) : KT H' kvs xs :=
  Paired.mapP r fun _ _ z=>⟨z.1,ht _ _ z.2.1,z.2.2⟩
section
variable {P : Program} {w : World} {H : Hp} {h : Heap} {a : Addr}
theorem rd_of {u : HO} (ok : HOk P w H h) (e : Rd H a u) : ObjOk P w H h a u:=e.ok ok
theorem dk_rd {kvs : List (Key × V)} (ok : HOk P w H h) (e : Rd H a (.dK kvs)) : kvs.length ≤ sizeLine ∧ (a == sysModules) = false ∧ ∃ vs,KV kvs vs ∧ h.DictOf (mixKind P w) a vs :=
  show ObjOk P w H h a (.dK kvs) from rd_of ok e
theorem dk_of {kvs : List (Key × V)} (ok : HOk P w H h) (e : H a = some (.dK kvs)) : kvs.length ≤ sizeLine ∧ (a == sysModules) = false ∧ ∃ vs,KV kvs vs ∧ h.DictOf (mixKind P w) a vs:=dk_rd ok (.inl e)
theorem key_of {ks : List Key} (ok : HOk P w H h) (e : H a = some (.tup (ks.map kV))) : (tupleKind (mixKind P w)).is h ks a:=by
  obtain ⟨_,its,r,o,h1,h2,n,h3⟩:=(show ObjOk P w H h a (.tup (ks.map kV)) from ok a _ e)
  exact ⟨o,its.toArray,n,h1,h2,h3.1,by simpa using items_are r⟩
theorem dt_rd {kvs : List (List Key × V)} (ok : HOk P w H h) (e : Rd H a (.dT kvs)) : kvs.length ≤ sizeLine ∧ (a == sysModules) = false ∧
    ∃ xs,KT H kvs xs ∧ h.DictOfH (tupleKind (mixKind P w)) a xs:=by
  obtain ⟨z,y,xs,r,o,es,ep,h1,h2,h3,h4,h5⟩:=(show ObjOk P w H h a (.dT kvs) from rd_of ok e)
  refine ⟨z,y,xs,r,o,es,ep,h1,h2,h3,h4,fun x hx=>?_,h5⟩
  have all : ∀ {l : List (List Key × V)} {m : List (List Key × Addr × Value)},KT H l m → ∀ x ∈ m,(tupleKind (mixKind P w)).is h x.1 x.2.1:=by
    intro l m q
    induction q with
    | nil=>intro x hx; exact nomatch hx
    | @cons p q ps qs hq t ih =>
      intro x hx
      rcases List.mem_cons.mp hx with e | hx
      · subst e
        exact key_of ok (by rw [← hq.1]; exact hq.2.1)
      · exact ih x hx
  exact all r x hx
theorem dt_of {kvs : List (List Key × V)} (ok : HOk P w H h) (e : H a = some (.dT kvs)) : kvs.length ≤ sizeLine ∧ (a == sysModules) = false ∧
    ∃ xs,KT H kvs xs ∧ h.DictOfH (tupleKind (mixKind P w)) a xs:=dt_rd ok (.inl e)
end
def DGet (H : Hp) (a : Addr) (y : V) (r : Option V) : Prop :=
  (∃ kvs k,Rd H a (.dK kvs) ∧ y = kV k ∧ r = valV kvs k) ∨ ∃ kvs k b,Rd H a (.dT kvs) ∧ y = .ref b ∧ H b = some (.tup (k.map kV)) ∧ r = valV kvs k
def DPut (H : Hp) (a : Addr) (y v : V) (H' : Hp) : Prop :=
  (∃ kvs k,H a = some (.dK kvs) ∧ y = kV k ∧ kvs.length < sizeLine ∧ H' = upd H a (.dK (putK kvs k v))) ∨
  ∃ kvs k b,H a = some (.dT kvs) ∧ y = .ref b ∧ H b = some (.tup (k.map kV)) ∧ kvs.length < sizeLine ∧ H' = upd H a (.dT (putK kvs k v))
theorem DGet.k {H : Hp} {a : Addr} {kvs : List (Key × V)} {k : Key} (e : H a = some (.dK kvs)) : DGet H a (kV k) (valV kvs k):=.inl ⟨kvs,k,.inl e,rfl,rfl⟩
theorem DGet.t {H : Hp} {a b : Addr} {kvs : List (List Key × V)} {k : List Key} (e : H a = some (.dT kvs)) (eb : H b = some (.tup (k.map kV))) : DGet H a (.ref b) (valV kvs k):=.inr ⟨kvs,k,b,.inl e,rfl,eb,rfl⟩
theorem DPut.k {H : Hp} {a : Addr} {kvs : List (Key × V)} {k : Key} {v : V} (e : H a = some (.dK kvs)) (hl : kvs.length < sizeLine) : DPut H a (kV k) v (upd H a (.dK (putK kvs k v))):=.inl ⟨kvs,k,e,rfl,hl,rfl⟩
theorem DPut.t {H : Hp} {a b : Addr} {kvs : List (List Key × V)} {k : List Key} {v : V} (e : H a = some (.dT kvs)) (eb : H b = some (.tup (k.map kV))) (hl : kvs.length < sizeLine) :
    DPut H a (.ref b) v (upd H a (.dT (putK kvs k v))):=.inr ⟨kvs,k,b,e,rfl,eb,hl,rfl⟩
section
variable {X : Cx} {pins : List (Addr × Obj)} {σ : St} {H : Hp} {s : Shared} {a : Addr} {y v : V} {u r : Value} {o : Option V} {A : Around} {E : Value → Shared → Prop}
theorem Inv.big (I : Inv X pins σ H s) : sysModules < s.heap.objs.size:=by
  have h : mainGlobals < s.heap.objs.size:=(I.mod.glob.keeps I.bk).lt
  exact Nat.lt_trans (by decide) h
theorem d_getItem {Q : Value → Shared → Prop} (hu : A.units + 1 < cLine) (I : Inv X pins σ H s) (g : DGet H a y (some v)) (ry : RelV y u) (h : ∀ w' s',Inv X pins σ H s' → RelV v w' → Q w' s') :
    wpAny (model X.prog X.w) A (getItem (.ref a) u) Q E s:=by
  rcases g with ⟨kvs,k,e,ey,l⟩ | ⟨kvs,k,b,e,ey,eb,l⟩
  · subst ey
    obtain ⟨z,hd,vs,rel,dd⟩:=dk_rd I.hok e
    obtain ⟨w',hw,rw'⟩:=RelO.some_of (v:=v) (o:=valueAt vs k) (by rw [l]; exact rel.val k)
    exact wpAny_getItem_of (kV_is ry) dd.mapOf hw (h w' _ (I.tok _) rw')
  · subst ey
    cases (show u = Value.ref b from ry)
    obtain ⟨z,hd,xs,rel,dd⟩:=dt_rd I.hok e
    obtain ⟨w',hw,rw'⟩:=RelO.some_of (v:=v) (o:=(atKey xs k).map (·.2)) (by rw [l]; exact rel.val k)
    obtain ⟨p,hp,hp2⟩:=Option.map_eq_some_iff.mp hw
    refine wpAny_getItem_heap (tupleKind_room_in1 hu) (key_of I.hok eb) dd hp ?_
    rw [hp2]
    exact h w' _ (I.tok _) rw'
theorem d_write {h' : Heap} {t' : Nat} {ob : HO} (I : Inv X pins σ H s) (mu : Mut (H a)) (hs : Heap.SameBut a s.heap h') (he : ∃ q,h'.get? a = some q) (new : ObjOk X.prog X.w (upd H a ob) h' a ob) :
    Inv X pins σ (upd H a ob) { s with heap:=h',toks:=t' } :=
  I.write (x:=a) (e:=a) mu (.inl rfl) (fun b q hb z=>(hs.2 b hb).trans z) he new
theorem dk_new {P : Program} {w : World} {H' : Hp} {h' : Heap} {kvs : List (Key × V)} {vs : List (Key × Value)} (z : kvs.length ≤ sizeLine) (hd : (a == sysModules) = false) (rel : KV kvs vs) (dd : h'.DictOf (mixKind P w) a vs) :
    ObjOk P w H' h' a (.dK kvs):=⟨z,hd,vs,rel,dd⟩
theorem d_setItem {H' : Hp} {Q : Unit → Shared → Prop} (hu : A.units + 1 < cLine) (I : Inv X pins σ H s) (g : DPut H a y v H') (ry : RelV y u) (rv : RelV v r) (h : ∀ s',Inv X pins σ H' s' → Q () s') :
    wpAny (model X.prog X.w) A (setItem (.ref a) u r) Q E s:=by
  rcases g with ⟨kvs,k,e,ey,l,eH⟩ | ⟨kvs,k,b,e,ey,eb,l,eH⟩
  · subst ey eH
    obtain ⟨z,hd,vs,rel,dd⟩:=dk_of I.hok e
    have hz : vs.length ≤ sizeLine:=by rw [← rel.length]; exact z
    have hl : (putK kvs k v).length ≤ sizeLine:=by have:=length_putK kvs k v; omega
    refine wpAny_setItem_pairs (hsz:=hz) (kV_is ry) dd fun h' dd' hs=>h _ ?_
    have he : ∃ q,h'.get? a = some q:=let ⟨q,_,_,hq,_⟩:=dd'; ⟨q,hq⟩
    exact d_write I (by rw [e]; exact True.intro) hs he (dk_new hl hd (rel.put k rv) dd')
  · subst ey eH
    cases (show u = Value.ref b from ry)
    obtain ⟨z,hd,xs,rel,dd⟩:=dt_of I.hok e
    have hz : xs.length ≤ sizeLine:=by rw [← Paired.length rel]; exact z
    have hl : (putK kvs k v).length ≤ sizeLine:=by have:=length_putK kvs k v; omega
    refine wpAny_setItem_heap (hsz:=hz) (tupleKind_room_in1 hu) (key_of I.hok eb) dd fun h' dd' hs=>h _ ?_
    obtain ⟨q,es,ep,hq,h2,h3,h4,_,h5⟩:=dd'
    refine d_write I (by rw [e]; exact True.intro) hs ⟨q,hq⟩ ⟨hl,hd,_,(rel.put k eb rv).keeps fun c ys ec=>?_,q,es,ep,hq,h2,h3,h4,h5⟩
    rw [upd_ne (ne_of ec e (fun z=>nomatch z))]
    exact ec
end
section
variable {X : Cx} {pins : List (Addr × Obj)} {σ : St} {H : Hp} {s : Shared} {a : Addr} {kvs : List (Key × V)} {k : Key} {u : Value} {A : Around} {E : Value → Shared → Prop}
end
def NoSl (i : Expr) : Prop:=∀ ov iv,subscripted i false ov iv = operate [ov,iv] (getItem ov iv)
theorem subD_of {prog : Program} {w : World} {A : Around} {E : Value → Shared → Prop} {s : Shared} {env : Env} {value slice : Expr} {pos : Pos} {T id : String} {Q : Value → Shared → Prop}
    (hl : typeLookup (.type T) "__getitem__" = pure (some (.builtin id))) (hs : NoSl slice)
    (h : wpAny (model prog w) A (eval value env) (fun o s₁=>wpAny (model prog w) A (eval slice env) (fun i s₂=>s₂.TypeIs o T ∧ wpAny (model prog w) A (getItem o i) Q E s₂) E s₁) E s) :
    wpAny (model prog w) A (eval (.Subscript value slice pos) env) Q E s:=by
  refine Subscript_ (wpAny_mono h (fun o s₁ h₁=>wpAny_mono h₁ (fun i s₂ h₂=>?_) fun _ _ x=>x) fun _ _ x=>x)
  obtain ⟨hT,h₂⟩:=h₂
  unfold subscriptTail
  refine wpAny_bind ?_
  rw [getitemInPython_of_ne hT.not_modules]
  refine wpAny_bind (wpAny_specialOf hT hl ?_)
  have fin : wpAny (model prog w) A (subscripted slice false o i) (fun r s₃=>wpAny (model prog w) A (letTemporaryGo value o r >>= fun _=>pure r) Q E s₃) E s₂:=by
    rw [hs o i]
    exact wpAny_operating (wpAny_mono h₂ (fun r s₃ h₃=>wpAny_bind (wpAny_letTemporaryGo (wpAny_pure h₃))) fun _ _ x=>x)
  first
    | exact wpAny_pure (wpAny_bind fin)
    | exact wpAny_bind (wpAny_pure (wpAny_bind fin))
    | exact wpAny_bind fin
theorem dict_typeIs {X : Cx} {pins : List (Addr × Obj)} {σ : St} {H : Hp} {s : Shared} {a : Addr} {y : V} {o : Option V} (I : Inv X pins σ H s) (g : DGet H a y o) : s.TypeIs (.ref a) "dict" := by
  rcases g with ⟨kvs,k,e,_,_⟩ | ⟨kvs,k,b,e,_,_,_⟩
  · obtain ⟨_,_,vs,_,dd⟩:=dk_rd I.hok e
    exact dd.typeIs
  · obtain ⟨_,_,xs,_,dd⟩:=dt_rd I.hok e
    exact dd.typeIs
def tDGet (td ty : TE) : TE:=fun σ H Q=>td σ H fun x H1=>ty σ H1 fun y H2=>∃ a v,x = .ref a ∧ DGet H2 a y (some v) ∧ Q v H2
def sDPut (td ty tv : TE) : TS:=fun D σ H=>tv σ H fun v H1=>td σ H1 fun x H2=>ty σ H2 fun y H3=>∃ a H4,x = .ref a ∧ DPut H3 a y v H4 ∧ D.nx σ H4
section
variable {X : Cx} {o i e value : Expr} {pos pos' tpos : Pos} {td ty tv : TE}
theorem pe_dget (hu : X.A.units + 1 < cLine) (ho : PE X o td) (hi : PE X i ty) (hs : NoSl i) : PE X (.Subscript o i pos) (tDGet td ty):=by
  intro pins s σ H Q I h
  refine subD_of PySem.F.slot_dict_getitem.lookup hs (thn (ho pins s σ H _ I h) fun u s1 ⟨x,H1,I1,rx,q1⟩=>thn (hi pins s1 σ H1 _ I1 q1) fun iv s2 ⟨y,H2,I2,ry,a,v,ex,g,q2⟩=>?_)
  subst ex
  obtain rfl : u = Value.ref a:=rx
  exact ⟨dict_typeIs I2 g,d_getItem hu I2 g ry fun w' s3 I3 rw'=>⟨v,H2,I3,rw',q2⟩⟩
theorem ps_dput (hu : X.A.units + 1 < cLine) (ho : PE X o td) (hi : PE X i ty) (hv : PE X value tv) (hs : swapsWith value (some (.Subscript o i pos')) pos.line X.env = pure false) :
    PS X (.Assign [.Subscript o i pos'] value pos) (sDPut td ty tv):=by
  intro pins s σ H D I h
  refine wpAny_Assign_Subscript (thn (hv pins s σ H _ I h) fun r s1 ⟨v,H1,I1,rv,q1⟩=>thn (ho pins s1 σ H1 _ I1 q1) fun u s2 ⟨x,H2,I2,rx,q2⟩=>thn (hi pins s2 σ H2 _ I2 q2) fun iv s3 ⟨y,H3,I3,ry,a,H4,ex,g,q3⟩=>?_) hs
  subst ex
  obtain rfl : u = Value.ref a:=rx
  exact d_setItem hu I3 g ry rv fun s4 I4=>⟨σ,H4,I4,q3⟩
end
theorem dt_empty {P : Program} {w : World} {H : Hp} (h : Heap) (hb : sysModules < h.objs.size) : ObjOk P w H (h.push { cls:=.type "dict",data:=.dict #[] }) h.objs.size (.dT []) :=
  ⟨Nat.zero_le _,beq_eq_false_iff_ne.mpr (Ne.symm (Nat.ne_of_lt hb)),[],.nil,_,#[],0,Heap.get?_push_size _ rfl,⟨rfl,rfl,rfl⟩,rfl,rfl,List.nodup_nil⟩
def tDNewT : TE:=fun _ H Q=>∀ p,H p = none → Q (.ref p) (upd H p (.dT []))
section
variable {X : Cx} {pos : Pos}
theorem pe_dnewT : PE X (.Dict [] [] pos) tDNewT:=fun pins s σ H Q I h =>
  wpAny_Dict_empty ⟨.ref s.heap.objs.size,_,I.laid (a:=s.heap.objs.size) (o:=.dT []) (t':=s.toks) (fun _ _ q=>Heap.get?_push_of_some _ q) (Nat.le_refl _) (dt_empty s.heap I.big),rfl,h _ (I.hok.fresh (Nat.le_refl _))⟩
end
def mergeK (kvs more : List (Key × V)) : List (Key × V):=more.foldl (fun acc kv=>putK acc kv.1 kv.2) kvs
theorem KV.merge : ∀ {more : List (Key × V)} {rs : List (Key × Value)} {kvs : List (Key × V)} {vs : List (Key × Value)},KV more rs → KV kvs vs → KV (mergeK kvs more) (merged vs rs):=by
  intro more rs kvs vs r
  unfold KV at r
  induction r generalizing kvs vs with
  | nil=>intro q; exact q
  | @cons p q ps qs h t ih =>
    intro r0
    have e : KV (putK kvs p.1 p.2) (stored vs q.1 q.2):=by
      have:=r0.put p.1 h.2
      rw [← h.1]; exact this
    exact ih e
structure M1 (X : Cx) (o : Expr) (m : Str) (apos : Pos) (e : Expr) (cpos : Pos) : Prop where
  base : attributeBase o m X.env (eval o X.env) = eval o X.env
  few : ((backTo cpos (starEach [e] X.env)).all (fun x=>!x.1) && (backToKw cpos (keywordEach [] X.env)).all (fun x=>x.1.isSome)
    && decide (([e] : List Expr).length + ([] : List Keyword).length + (if ([] : List Keyword).isEmpty then 0 else 1) < 30)) = true
  line : (apos.endLine == cpos.line) = true
  trees : backTo cpos (starEach [e] X.env) = [(false,eval e X.env)]
structure M2 (X : Cx) (o : Expr) (m : Str) (apos : Pos) (e f : Expr) (cpos : Pos) : Prop where
  base : attributeBase o m X.env (eval o X.env) = eval o X.env
  few : ((backTo cpos (starEach [e,f] X.env)).all (fun x=>!x.1) && (backToKw cpos (keywordEach [] X.env)).all (fun x=>x.1.isSome)
    && decide (([e,f] : List Expr).length + ([] : List Keyword).length + (if ([] : List Keyword).isEmpty then 0 else 1) < 30)) = true
  line : (apos.endLine == cpos.line) = true
  trees : backTo cpos (starEach [e,f] X.env) = [(false,eval e X.env),(false,eval f X.env)]
def IsD (H : Hp) (a : Addr) : Prop:=(∃ kvs,Rd H a (.dK kvs)) ∨ ∃ kvs,Rd H a (.dT kvs)
theorem isD_at {X : Cx} {pins : List (Addr × Obj)} {σ : St} {H : Hp} {s : Shared} {a : Addr} (I : Inv X pins σ H s) (d : IsD H a) :
    s.TypeIs (.ref a) "dict" ∧ (∀ b,Value.ref a = .ref b → ∃ ob,s.heap.get? b = some ob ∧ ob.dict = none) ∧ (a == sysModules) = false:=by
  rcases d with ⟨kvs,e⟩ | ⟨kvs,e⟩
  · obtain ⟨_,hd,vs,_,dd⟩:=dk_rd I.hok e
    refine ⟨dd.typeIs,fun b q=>?_,hd⟩
    cases q
    obtain ⟨ob,_,_,h1,h2,_⟩:=dd
    exact ⟨ob,h1,h2.2.1⟩
  · obtain ⟨_,hd,xs,_,dd⟩:=dt_rd I.hok e
    refine ⟨dd.typeIs,fun b q=>?_,hd⟩
    cases q
    obtain ⟨ob,_,_,h1,h2,_⟩:=dd
    exact ⟨ob,h1,h2.2.1⟩
section
variable {X : Cx} {pins : List (Addr × Obj)} {σ : St} {H : Hp} {s : Shared} {a : Addr} {y d : V} {u r : Value} {o : Option V} {A : Around} {E : Value → Shared → Prop}
theorem d_get2 {Q : Value → Shared → Prop} (hu : A.units + 1 < cLine) (I : Inv X pins σ H s) (g : DGet H a y o) (ry : RelV y u) (rd : RelV d r) (h : ∀ w' s',Inv X pins σ H s' → RelV (o.getD d) w' → Q w' s') :
    wpAny (model X.prog X.w) A (call (.builtin "dict.get") [.ref a,u,r]) Q E s:=by
  rcases g with ⟨kvs,k,e,ey,l⟩ | ⟨kvs,k,b,e,ey,eb,l⟩
  · subst ey
    obtain ⟨z,hd,vs,rel,dd⟩:=dk_rd I.hok e
    refine call_meetsIn PySem.F.slot_dict_get dd.typeIs PySem.F.entry_dict_get (PySem.F.args_dict_get_3 _ _ _) (meets_dict_get_default (mixKind X.prog X.w) a (kV_is ry) hd r) ⟨_,dd.mapOf,h _ _ (I.tok _) ?_⟩
    rw [l]
    exact (rel.val k).getD rd
  · subst ey
    cases (show u = Value.ref b from ry)
    obtain ⟨z,hd,xs,rel,dd⟩:=dt_rd I.hok e
    refine call_meetsIn PySem.F.slot_dict_get dd.typeIs PySem.F.entry_dict_get (PySem.F.args_dict_get_3 _ _ _) (meetsH_dict_get_default (tupleKind (mixKind X.prog X.w)) a b hd r) ⟨tupleKind_room_in1 hu,k,xs,key_of I.hok eb,dd,h _ _ (I.tok _) ?_⟩
    rw [l]
    exact (rel.val k).getD rd
end
def tDGet2 (td ty tx : TE) : TE:=fun σ H Q=>td σ H fun x H1=>∃ a,x = .ref a ∧ IsD H1 a ∧ ty σ H1 fun y H2=>tx σ H2 fun z H3=>∃ o,DGet H3 a y o ∧ Q (o.getD z) H3
section
variable {X : Cx} {o e f : Expr} {apos cpos : Pos} {td ty tx : TE}
theorem pe_dget2 (hu : X.A.units + 1 < cLine) (ho : PE X o td) (he : PE X e ty) (hf : PE X f tx) (m : M2 X o "get" apos e f cpos) : PE X (.Call (.Attribute o "get" apos) [e,f] [] cpos) (tDGet2 td ty tx):=by
  intro pins s σ H Q I h
  refine wpAny_Call_method m.base m.few m.line PySem.F.plainAttrs_dict PySem.F.slot_dict_get PySem.F.type_dict_get (thn (ho pins s σ H _ I h) fun u s1 ⟨x,H1,I1,rx,a,ex,d,q1⟩=>?_)
  subst ex
  obtain rfl : u = Value.ref a:=rx
  obtain ⟨t1,t2,_⟩:=isD_at I1 d
  refine ⟨t1,t2,?_⟩
  rw [m.trees]
  refine Calls.callWith_builtin rfl (Calls.evalArgs_plain (Calls.spliced_cons (thn (he pins s1 σ H1 _ I1 q1) fun iv s2 ⟨y,H2,I2,ry,q2⟩ =>
    Calls.spliced_cons (thn (hf pins s2 σ H2 _ I2 q2) fun fv s3 ⟨z,H3,I3,rz,ov,g,q3⟩=>Calls.spliced_nil ?_))))
  exact d_get2 hu I3 g ry rz fun w' s4 I4 rw'=>⟨_,H3,I4,rw',q3⟩
end
section
variable {X : Cx} {pins : List (Addr × Obj)} {σ : St} {H : Hp} {s : Shared} {a : Addr} {kvs : List (Key × V)} {A : Around} {E : Value → Shared → Prop}
end
section
variable {X : Cx} {pins : List (Addr × Obj)} {σ : St} {H : Hp} {s : Shared} {a : Addr} {y : V} {u : Value} {A : Around} {E : Value → Shared → Prop}
end
end L2
namespace L2
open PySem PySem.Spec PyProof.Rows
section
variable {κ : Type} [DecidableEq κ]
end
end L2
namespace L2.Ev
open PySem PySem.Spec PyProof.Rows
section
variable {X : Cx} {tg : Expr}
end
section
variable {X : Cx}
theorem call_isinst : CallR X (.builtin "isinstance") (fun xs H Q=>∃ x t T b,xs = [x,.ty T] ∧ TyOf X.K H x t ∧ PySem.W.kitOne X.K t (.type T) = some b ∧ Q (.bl b) H):=by
  intro pins s σ H xs us Q I r h
  obtain ⟨x,t,T,b,rfl,ty,e,q⟩:=h
  obtain ⟨u,v,rfl,r1,r2⟩:=vals2 r
  obtain rfl : v = Value.type T:=r2
  exact isinst_ok I r1 ty e fun tk=>⟨.bl b,H,I.tok tk,rfl,q⟩
theorem sum_tupG {t : Addr} {vs : List Value} {ns : List Int} {s : Shared} {prog : Program} {w : World} {A : Around} {E : Value → Shared → Prop} {Q : Value → Shared → Prop} (hh : A.handled = none) (hl : s.heap.IsTuple t vs.toArray) (hi : IntsAre vs ns)
    (h : ∀ h' tk t',(∀ b o,s.heap.get? b = some o → h'.get? b = some o) → Q (.int ns.sum t') { s with heap:=h',toks:=tk }) :
    wpAny (model prog w) A (call (.builtin "sum") [.ref t]) Q E s:=by
  obtain ⟨xs,hx⟩:=hi.allInts.items
  have hn : numsOf vs.toArray.toList = ns:=by rw [show vs.toArray.toList = vs from rfl,hi.numsOf]
  rw [hx] at hl hn
  rw [nums_intItems] at hn
  refine PySem.W.ktm_sumG hh hl fun h' tk t' hk=>?_
  have:=h h' tk t' hk
  rw [preSum_eq,List.take_of_length_le (by simp),hn]
  exact this
theorem call_sumT (hc : X.calm = true) : CallR X (.builtin "sum") (fun xs H Q=>∃ (p : Addr) (ns : List Int),xs = [.ref p] ∧ SqT X.K H p (ns.map V.int) ∧ Q (.int ns.sum) H):=by
  intro pins s σ H xs us Q I r h
  obtain ⟨p,ns,rfl,hq,q⟩:=h
  obtain ⟨u,rfl,ru⟩:=vals1 r
  cases ru
  obtain ⟨its,rv,ht,_⟩:=I.tuple hq
  exact sum_tupG (I.ok.hd hc) (show s.heap.IsTuple p its.toArray from ht) (intsAre_of rv) fun h' tk t' hk=>⟨.int ns.sum,H,I.kept (t':=tk) hk,⟨t',rfl⟩,q⟩
end
section
open PySem.SeqAt
open PySem.AutoSeq1 (wpAny_loadPart')
open PySem.MeetsSeq PySem.MeetsSeq2 PySem.MeetsSeq3
open HT
end
section
variable {prog : Program} {w : World} {A : Around} {E : Value → Shared → Prop} {s : Shared}
end
section
variable {X : Cx}
end
def Tups (H H' : Hp) : Prop:=∀ p xs,H p = some (.tup xs) → H' p = some (.tup xs)
theorem Tups.trans {H H1 H2 : Hp} (a : Tups H H1) (b : Tups H1 H2) : Tups H H2:=fun p xs h=>b p xs (a p xs h)
theorem Tups.same {H H' : Hp} (a : Same H H') : Tups H H':=fun p xs h=>a p _ h
class Dat (α : Type) where
  is : Hp → V → α → Prop
  mono : ∀ {H H' : Hp} {v : V} {a : α},Tups H H' → is H v a → is H' v a
  inj : ∀ {H : Hp} {v : V} {a b : α},is H v a → is H v b → a = b
  dep : Nat
  eqb : α → α → Bool
  eqb_iff : ∀ a b,eqb a b = true ↔ a = b
  eqAt : ∀ {X : Cx} {pins : List (Addr × Obj)} {σ : St} {H : Hp} {s : Shared} {A : Around} {v v' : V} {u u' : Value} {a b : α},Inv X pins σ H s → A.units + dep < cLine → is H v a → is H v' b → RelV v u → RelV v' u' → SeqAt.EqAt A s u u' (eqb a b)
instance : Dat Int where
  is:=fun _ v n=>v = .int n
  mono:=fun _ h=>h
  inj:=fun h h'=>by rw [h] at h'; cases h'; rfl
  dep:=0
  eqb:=fun a b=>a == b
  eqb_iff:=fun a b=>by simp
  eqAt:=fun I hu h h' r r'=>by
    subst h h'
    obtain ⟨t,rfl⟩:=r
    obtain ⟨t',rfl⟩:=r'
    exact SeqAt.EqAt.int_int _ _ _ _
theorem Paired.get {α β : Type} {F : α → β → Prop} : ∀ {l : List α} {m : List β} (r : Paired F l m) {i : Nat} {a : α},l[i]? = some a → ∃ b,m[i]? = some b ∧ F a b
  | _,_,.nil,_,_,e=>by simp at e
  | _,_,.cons r t,0,_,e=>by simp at e; subst e; exact ⟨_,rfl,r⟩
  | _,_,.cons r t,i + 1,a,e=>by
    obtain ⟨b,h1,h2⟩:=Paired.get t (i:=i) (a:=a) (by simpa using e)
    exact ⟨b,by simpa using h1,h2⟩
theorem Paired.injR {α β : Type} {F : α → β → Prop} (hf : ∀ a b b',F a b → F a b' → b = b') : ∀ {l : List α} {m m' : List β},Paired F l m → Paired F l m' → m = m'
  | _,_,_,.nil,.nil=>rfl
  | _,_,_,.cons r t,.cons r' t'=>by rw [hf _ _ _ r r',Paired.injR hf t t']
theorem Paired.app {α β : Type} {F : α → β → Prop} : ∀ {l l' : List α} {m m' : List β},Paired F l m → Paired F l' m' → Paired F (l ++ l') (m ++ m')
  | _,_,_,_,.nil,h=>h
  | _,_,_,_,.cons r t,h=>.cons r (Paired.app t h)
def eqbs {α : Type} (e : α → α → Bool) : List α → List α → Bool
  | [],[]=>true
  | a :: l,b :: m=>e a b && eqbs e l m
  | _,_=>false
theorem eqbs_iff {α : Type} {e : α → α → Bool} (h : ∀ a b,e a b = true ↔ a = b) : ∀ l m,eqbs e l m = true ↔ l = m
  | [],[]=>by simp [eqbs]
  | [],_ :: _=>by simp [eqbs]
  | _ :: _,[]=>by simp [eqbs]
  | a :: l,b :: m=>by simp [eqbs,h a b,eqbs_iff h l m]
def eAt {α : Type} (e : α → α → Bool) (l m : List α) (j : Nat) : Bool:=match l[j]?,m[j]? with
  | some a,some b=>e a b
  | _,_=>false
theorem eqbs_all {α : Type} (e : α → α → Bool) : ∀ l m : List α,((List.range (min l.length m.length)).all (eAt e l m) && l.length == m.length) = eqbs e l m
  | [],[]=>by simp [eqbs]
  | [],_ :: _=>by simp [eqbs]
  | _ :: _,[]=>by simp [eqbs]
  | a :: l,b :: m=>by
    have ih:=eqbs_all e l m
    show ((List.range (min (l.length + 1) (m.length + 1))).all (eAt e (a :: l) (b :: m)) && (l.length + 1 == m.length + 1)) = (e a b && eqbs e l m)
    rw [← ih,Nat.add_min_add_right,List.range_succ_eq_map,List.all_cons,List.all_map]
    have e0 : eAt e (a :: l) (b :: m) 0 = e a b:=rfl
    have e1 : (eAt e (a :: l) (b :: m) ∘ Nat.succ) = eAt e l m:=by funext j; rfl
    have e2 : (l.length + 1 == m.length + 1) = (l.length == m.length):=by simp
    rw [e0,e1,e2,Bool.and_assoc]
section
variable {α : Type} [D : Dat α]
abbrev Its (H : Hp) (vs : List V) (l : List α) : Prop:=Paired (fun v a=>D.is H v a) vs l
theorem Its.mono {H H' : Hp} {vs : List V} {l : List α} (t : Tups H H') (h : Its H vs l) : Its H' vs l:=Paired.mono (fun _ _ q=>D.mono t q) h
theorem Its.inj {H : Hp} {vs : List V} {l m : List α} (h : Its H vs l) (h' : Its H vs m) : l = m:=Paired.injR (F:=fun v a=>D.is H v a) (fun _ _ _ q q'=>D.inj q q') h h'
theorem its_eqAt {X : Cx} {pins : List (Addr × Obj)} {σ : St} {H : Hp} {s : Shared} {A : Around} {vs vs' : List V} {its its' : List Value} {l m : List α} (I : Inv X pins σ H s) (hu : A.units + D.dep < cLine) (h : Its H vs l) (h' : Its H vs' m) (r : Vals vs its) (r' : Vals vs' its') :
    ∀ j (h1 : j < its.toArray.size) (h2 : j < its'.toArray.size),SeqAt.EqAt A s its.toArray[j] its'.toArray[j] (eAt D.eqb l m j):=by
  intro j h1 h2
  have l1:=r.length
  have l2:=r'.length
  have k1 : j < its.length:=by simpa using h1
  have k2 : j < its'.length:=by simpa using h2
  have g1 : vs[j]? = some vs[j]:=List.getElem?_eq_getElem (by omega)
  have g2 : vs'[j]? = some vs'[j]:=List.getElem?_eq_getElem (by omega)
  obtain ⟨u,e1,ru⟩:=r.get g1
  obtain ⟨u',e2,ru'⟩:=r'.get g2
  obtain ⟨a,f1,ra⟩:=Paired.get h g1
  obtain ⟨b,f2,rb⟩:=Paired.get h' g2
  have q1 : its.toArray[j] = u:=by
    have : its[j] = u:=by rw [List.getElem?_eq_getElem k1] at e1; exact Option.some.inj e1
    simpa using this
  have q2 : its'.toArray[j] = u':=by
    have : its'[j] = u':=by rw [List.getElem?_eq_getElem k2] at e2; exact Option.some.inj e2
    simpa using this
  have q3 : eAt D.eqb l m j = D.eqb a b:=by unfold eAt; rw [f1,f2]
  rw [q1,q2,q3]
  exact D.eqAt I hu ra rb ru ru'
instance datList : Dat (List α) where
  is:=fun H v l=>∃ p vs,v = .ref p ∧ H p = some (.tup vs) ∧ Its H vs l
  mono:=fun t ⟨p,vs,e,h,i⟩=>⟨p,vs,e,t p vs h,Its.mono t i⟩
  inj:=fun ⟨p,vs,e,h,i⟩ ⟨p',vs',e',h',i'⟩=>by
    subst e
    cases e'
    rw [h] at h'
    cases h'
    exact Its.inj i i'
  dep:=D.dep + 1
  eqb:=eqbs D.eqb
  eqb_iff:=eqbs_iff D.eqb_iff
  eqAt:=fun {X pins σ H s A v v' u u' l m} I hu h h' r r'=>by
    obtain ⟨p,vs,rfl,h,i⟩:=h
    obtain ⟨p',vs',rfl,h',i'⟩:=h'
    cases r
    cases r'
    by_cases e : p = p'
    · subst e
      rw [h] at h'
      cases h'
      have q : l = m:=Its.inj i i'
      rw [(eqbs_iff D.eqb_iff l m).mpr q]
      exact SeqAt.EqAt.same _
    · obtain ⟨its,rv,ht,_⟩:=I.tuple (SqT.of h)
      obtain ⟨its',rv',ht',_⟩:=I.tuple (SqT.of h')
      have hl : its.toArray.size = l.length:=by have:=rv.length; have:=Paired.length i; simp; omega
      have hm : its'.toArray.size = m.length:=by have:=rv'.length; have:=Paired.length i'; simp; omega
      have q:=SeqAt.RcAt.tuples (A:=A) (s:=s) (e:=eAt D.eqb l m) (show s.heap.IsTuple p its.toArray from ht) (show s.heap.IsTuple p' its'.toArray from ht') (by omega)
        (its_eqAt I (A:=A.in1) (by show A.units + 1 + D.dep < cLine; omega) i i' rv rv')
      rw [hl,hm,eqbs_all] at q
      exact SeqAt.EqAt.of_refs e q
def LstAt (H : Hp) (a : Addr) (l : List α) : Prop:=∃ vs,H a = some (.lst vs) ∧ Its H vs l
theorem LstAt.mono {H H' : Hp} {a : Addr} {l : List α} (e : Same H H') (h : LstAt H a l) : LstAt H' a l:=by
  obtain ⟨vs,q,i⟩:=h
  exact ⟨vs,e _ _ q,Its.mono (Tups.same e) i⟩
end
section
variable {α β : Type} [D : Dat α] [D2 : Dat β]
instance datPair : Dat (α × β) where
  is:=fun H v x=>∃ p a b,v = .ref p ∧ H p = some (.tup [a,b]) ∧ D.is H a x.1 ∧ D2.is H b x.2
  mono:=fun t ⟨p,a,b,e,h,i,j⟩=>⟨p,a,b,e,t _ _ h,D.mono t i,D2.mono t j⟩
  inj:=fun ⟨p,a,b,e,h,i,j⟩ ⟨p',a',b',e',h',i',j'⟩=>by
    subst e
    cases e'
    rw [h] at h'
    cases h'
    exact Prod.ext (D.inj i i') (D2.inj j j')
  dep:=max D.dep D2.dep + 1
  eqb:=fun x y=>D.eqb x.1 y.1 && D2.eqb x.2 y.2
  eqb_iff:=fun x y=>by rw [Bool.and_eq_true,D.eqb_iff,D2.eqb_iff,Prod.ext_iff]
  eqAt:=fun {X pins σ H s A v v' u u' l m} I hu h h' r r'=>by
    obtain ⟨p,a,b,rfl,h,i,j⟩:=h
    obtain ⟨p',a',b',rfl,h',i',j'⟩:=h'
    cases r
    cases r'
    by_cases e : p = p'
    · subst e
      rw [h] at h'
      cases h'
      rw [(D.eqb_iff _ _).mpr (D.inj i i'),(D2.eqb_iff _ _).mpr (D2.inj j j')]
      exact SeqAt.EqAt.same _
    · obtain ⟨its,rv,ht,_⟩:=I.tuple (SqT.of h)
      obtain ⟨its',rv',ht',_⟩:=I.tuple (SqT.of h')
      obtain ⟨w1,w2,rfl,r1,r2⟩:=vals2 rv
      obtain ⟨z1,z2,rfl,t1,t2⟩:=vals2 rv'
      have q:=SeqAt.RcAt.tuples (A:=A) (s:=s) (e:=fun k=>if k = 0 then D.eqb l.1 m.1 else D2.eqb l.2 m.2) (show s.heap.IsTuple p _ from ht) (show s.heap.IsTuple p' _ from ht') (by omega)
        (fun k h1 h2=>by
          have hk : k = 0 ∨ k = 1:=by
            have : k < 2:=h1
            omega
          rcases hk with rfl | rfl
          · exact D.eqAt (A:=A.in1) I (by show A.units + 1 + D.dep < cLine; omega) i i' r1 t1
          · exact D2.eqAt (A:=A.in1) I (by show A.units + 1 + D2.dep < cLine; omega) j j' r2 t2)
      have e2 : ((List.range (min [w1,w2].toArray.size [z1,z2].toArray.size)).all (fun k=>if k = 0 then D.eqb l.1 m.1 else D2.eqb l.2 m.2) && [w1,w2].toArray.size == [z1,z2].toArray.size) = (D.eqb l.1 m.1 && D2.eqb l.2 m.2):=by
        simp [List.range_succ]
      rw [e2] at q
      exact SeqAt.EqAt.of_refs e q
end
section
variable {X : Cx} {α : Type} [D : Dat α]
theorem lists_rc {pins : List (Addr × Obj)} {σ : St} {H : Hp} {s : Shared} {A : Around} {a b : Addr} {l m : List α} (I : Inv X pins σ H s) (hu : A.units + (D.dep + 1) < cLine) (ha : LstAt H a l) (hb : LstAt H b m) :
    SeqAt.RcAt A s (.ref a) (.ref b) (eqbs D.eqb l m):=by
  obtain ⟨vs,ha,i⟩:=ha
  obtain ⟨vs',hb,i'⟩:=hb
  obtain ⟨its,rv,ht,_⟩:=I.list (SqL.of ha)
  obtain ⟨its',rv',ht',_⟩:=I.list (SqL.of hb)
  have hl : its.toArray.size = l.length:=by have:=rv.length; have:=Paired.length i; simp; omega
  have hm : its'.toArray.size = m.length:=by have:=rv'.length; have:=Paired.length i'; simp; omega
  have all:=eqbs_all D.eqb l m
  by_cases e : l.length = m.length
  · have q:=SeqAt.RcAt.lists (A:=A) (s:=s) (e:=eAt D.eqb l m) ht.isList ht'.isList (by omega) (by omega) (its_eqAt I (A:=A.in1) (by show A.units + 1 + D.dep < cLine; omega) i i' rv rv')
    rw [hl] at q
    rw [e,Nat.min_self,beq_self_eq_true,Bool.and_true,← e] at all
    rw [all] at q
    exact q
  · have q:=SeqAt.RcAt.lists_lengths (A:=A) (s:=s) ht.isList ht'.isList (by rw [hl,hm]; simpa using e) (by omega)
    rw [show (l.length == m.length) = false by simpa using e,Bool.and_false] at all
    rw [← all]
    exact q
theorem lists_rcNe {pins : List (Addr × Obj)} {σ : St} {H : Hp} {s : Shared} {A : Around} {a b : Addr} {l m : List α} (I : Inv X pins σ H s) (hu : A.units + (D.dep + 1) < cLine) (ha : LstAt H a l) (hb : LstAt H b m) :
    SeqAt.RcNeAt A s (.ref a) (.ref b) (!eqbs D.eqb l m):=by
  obtain ⟨vs,ha,i⟩:=ha
  obtain ⟨vs',hb,i'⟩:=hb
  obtain ⟨its,rv,ht,_⟩:=I.list (SqL.of ha)
  obtain ⟨its',rv',ht',_⟩:=I.list (SqL.of hb)
  have hl : its.toArray.size = l.length:=by have:=rv.length; have:=Paired.length i; simp; omega
  have hm : its'.toArray.size = m.length:=by have:=rv'.length; have:=Paired.length i'; simp; omega
  have all:=eqbs_all D.eqb l m
  by_cases e : l.length = m.length
  · have q:=SeqAt.RcNeAt.lists (A:=A) (s:=s) (e:=eAt D.eqb l m) ht.isList ht'.isList (by omega) (by omega) (its_eqAt I (A:=A.in1) (by show A.units + 1 + D.dep < cLine; omega) i i' rv rv')
    rw [hl] at q
    rw [e,Nat.min_self,beq_self_eq_true,Bool.and_true,← e] at all
    rw [all] at q
    exact q
  · have q:=SeqAt.RcNeAt.lists_lengths (A:=A) (s:=s) ht.isList ht'.isList (by rw [hl,hm]; simpa using e) (by omega)
    rw [show (l.length == m.length) = false by simpa using e,Bool.and_false] at all
    rw [← all]
    exact q
def rEqL (α : Type) [Dat α] : R2:=fun x y H Q=>∃ (a b : Addr) (l m : List α),x = .ref a ∧ y = .ref b ∧ LstAt H a l ∧ LstAt H b m ∧ Q (.bl (eqbs (Dat.eqb (α:=α)) l m)) H
def rNeL (α : Type) [Dat α] : R2:=fun x y H Q=>∃ (a b : Addr) (l m : List α),x = .ref a ∧ y = .ref b ∧ LstAt H a l ∧ LstAt H b m ∧ Q (.bl (!eqbs (Dat.eqb (α:=α)) l m)) H
theorem op_eqL (hu : X.A.units + (D.dep + 1) < cLine) : OpR X (compareOp .Eq) (rEqL α):=by
  intro pins s σ H x y v u Q I rx ry h
  obtain ⟨a,b,l,m,rfl,rfl,ha,hb,q⟩:=h
  cases rx
  cases ry
  exact (lists_rc I hu ha hb) X.prog X.w X.xe _ ⟨.bl _,H,I,rfl,q⟩
theorem op_neL (hu : X.A.units + (D.dep + 1) < cLine) : OpR X (compareOp .NotEq) (rNeL α):=by
  intro pins s σ H x y v u Q I rx ry h
  obtain ⟨a,b,l,m,rfl,rfl,ha,hb,q⟩:=h
  cases rx
  cases ry
  exact (lists_rcNe I hu ha hb) X.prog X.w X.xe _ ⟨.bl _,H,I,rfl,q⟩
end
end L2.Ev
namespace L2.Ts
open PySem PyProof.Rows
def kv (rk : Keyed → Nat) (xs : Array Keyed) (i : Nat) : Nat:=match xs[i]? with
  | some p=>rk p
  | none=>0
def Srt (rk : Keyed → Nat) (xs : Array Keyed) (a b : Nat) : Prop:=∀ i j,a ≤ i → i ≤ j → j < b → kv rk xs i ≤ kv rk xs j
def Des (rk : Keyed → Nat) (xs : Array Keyed) (a b : Nat) : Prop:=∀ i j,a ≤ i → i ≤ j → j < b → kv rk xs j ≤ kv rk xs i
theorem kv_of {rk : Keyed → Nat} {xs : Array Keyed} {i : Nat} {p : Keyed} (h : xs[i]? = some p) : kv rk xs i = rk p:=by unfold kv; rw [h]
theorem kv_same {rk : Keyed → Nat} {xs ys : Array Keyed} {i j : Nat} (h : xs[i]? = ys[j]?) : kv rk xs i = kv rk ys j:=by unfold kv; rw [h]
structure Nx (lo : Nat) (st st' : SortSt) : Prop where
  kind : kindOf st' = kindOf st
  failed : failedOf st' = failedOf st
  pend : pendingOf st' = pendingOf st
  perm : (arrOf st').Perm (arrOf st)
  below : ∀ k : Nat,k < lo → (arrOf st')[k]? = (arrOf st)[k]?
theorem Nx.refl (lo : Nat) (st : SortSt) : Nx lo st st:=⟨rfl,rfl,rfl,Array.Perm.refl _,fun _ _=>rfl⟩
theorem Nx.trans {lo : Nat} {a b c : SortSt} (h : Nx lo a b) (q : Nx lo b c) : Nx lo a c:=⟨q.kind.trans h.kind,q.failed.trans h.failed,q.pend.trans h.pend,q.perm.trans h.perm,fun k hk=>(q.below k hk).trans (h.below k hk)⟩
theorem Nx.size {lo : Nat} {a b : SortSt} (h : Nx lo a b) : (arrOf b).size = (arrOf a).size:=h.perm.size_eq
theorem kv_mirror {rk : Keyed → Nat} {xs : Array Keyed} {i j : Nat} (hj : j ≤ xs.size) (k : Nat) : kv rk (mirror xs i j ((j - i) / 2)) k = if i ≤ k ∧ k < j then kv rk xs (i + j - 1 - k) else kv rk xs k:=by
  have e:=getElem?_mirror_all (i:=i) hj k
  split
  · rename_i h; rw [if_pos h] at e; exact kv_same e
  · rename_i h; rw [if_neg h] at e; exact kv_same e
theorem kv_bubble {rk : Keyed → Nat} {xs : Array Keyed} {src d : Nat} (hs : src < xs.size) (hd : d ≤ src) (k : Nat) :
    kv rk (bubble xs src d) k = if k = src - d then kv rk xs src else if src - d < k ∧ k ≤ src then kv rk xs (k - 1) else kv rk xs k:=by
  have e:=getElem?_bubble hs d hd k
  split
  · rename_i h; rw [if_pos h] at e; exact kv_same e
  · rename_i h
    rw [if_neg h] at e
    split
    · rename_i h2; rw [if_pos h2] at e; exact kv_same e
    · rename_i h2; rw [if_neg h2] at e; exact kv_same e
theorem nx_mirror {lo i j : Nat} {st : SortSt} (hi : lo ≤ i) (hj : j ≤ (arrOf st).size) : Nx lo st (setArr st (mirror (arrOf st) i j ((j - i) / 2))) :=
  ⟨rfl,rfl,rfl,mirror_perm _ _ _ _,fun k hk=>by
    have e:=getElem?_mirror_all (xs:=arrOf st) (i:=i) hj k
    rw [if_neg (by omega)] at e
    exact e⟩
theorem nx_bubble {lo src d : Nat} {st : SortSt} (hi : lo ≤ src - d) (hs : src < (arrOf st).size) (hd : d ≤ src) : Nx lo st (setArr st (bubble (arrOf st) src d)) :=
  ⟨rfl,rfl,rfl,bubble_perm _ _ _,fun k hk=>by
    have e:=getElem?_bubble (xs:=arrOf st) hs d hd k
    rw [if_neg (by omega),if_neg (by omega)] at e
    exact e⟩
section
variable {prog : Program} {w : World} {A : Around} {E : Value → Shared → Prop} {s : Shared} {κ : SortKind} {M : Keyed → Prop} {rk : Keyed → Nat}
def Ask (prog : Program) (w : World) (A : Around) (s : Shared) (κ : SortKind) (M : Keyed → Prop) (rk : Keyed → Nat) : Prop :=
  ∀ x y,M x → M y → ∀ Q : Bool → Shared → Prop,Q (decide (rk x < rk y)) s → wpAny (model prog w) A (keyLt' κ x.1 y.1) Q (fun _ _=>False) s
theorem lt_ask (h : Ask prog w A s κ M rk) {x y : Keyed} {st : SortSt} {Q : Option Bool → SortSt → Prop} (hk : kindOf st = κ) (hx : M x) (hy : M y) (q : Q (some (decide (rk x < rk y))) st) :
    wpS (model prog w) A E s (lt' x y) Q st:=by
  rw [lt'_eq]
  refine wpS_bind (wpS_get ?_)
  rw [hk]
  refine wpS_bind (wpS_lift (wpAny_attempt (wpAny_mono (h x y hx hy (fun b s'=>s' = s ∧ b = decide (rk x < rk y)) ⟨rfl,rfl⟩) (fun b s' hb=>?_) fun _ _ z=>z.elim)))
  obtain ⟨h1,rfl⟩:=hb
  exact ⟨h1,wpS_pure q⟩
theorem elem_at {arr : Array Keyed} {i : Nat} {p : Keyed} {st : SortSt} {Q : Keyed → SortSt → Prop} (h : arr[i]? = some p) (q : Q p st) : wpS (model prog w) A E s (elem' arr i) Q st:=by
  rw [elem'_eq,h]
  exact wpS_pure q
def All (M : Keyed → Prop) (xs : Array Keyed) : Prop:=∀ (i : Nat) p,xs[i]? = some p → M p
theorem All.perm {xs ys : Array Keyed} (h : All M xs) (p : ys.Perm xs) : All M ys:=fun i x e=>by
  have hm : x ∈ xs:=p.mem_iff.mp (Array.mem_of_getElem? e)
  obtain ⟨j,hj,ej⟩:=Array.getElem_of_mem hm
  exact h j x (by rw [Array.getElem?_eq_getElem hj,ej])
theorem ltAt_ask (h : Ask prog w A s κ M rk) {i j : Nat} {st : SortSt} {Q : Option Bool → SortSt → Prop} (hk : kindOf st = κ) (ha : All M (arrOf st)) (hi : i < (arrOf st).size) (hj : j < (arrOf st).size)
    (q : Q (some (decide (kv rk (arrOf st) i < kv rk (arrOf st) j))) st) : wpS (model prog w) A E s (ltAt' i j) Q st:=by
  have ei : (arrOf st)[i]? = some (arrOf st)[i]:=Array.getElem?_eq_getElem hi
  have ej : (arrOf st)[j]? = some (arrOf st)[j]:=Array.getElem?_eq_getElem hj
  rw [ltAt'_eq]
  refine wpS_bind (wpS_get ?_)
  refine wpS_bind (elem_at ei (wpS_bind (elem_at ej (lt_ask h hk (ha _ _ ei) (ha _ _ ej) ?_))))
  rw [kv_of ei,kv_of ej] at q
  exact q
theorem run_ok (h : Ask prog w A s κ M rk) {lo nrem : Nat} {st : SortSt} {Q : Option Nat → SortSt → Prop} (hk : kindOf st = κ) (ha : All M (arrOf st)) (hn : 1 ≤ nrem) (hz : lo + nrem ≤ (arrOf st).size)
    (q : ∀ n st',Nx lo st st' → 1 ≤ n → n ≤ nrem → Srt rk (arrOf st') lo (lo + n) → Q (some n) st') : wpS (model prog w) A E s (countRun' lo nrem) Q st:=by
  rw [countRun'_eq]
  have asc : ∀ (st1 : SortSt) (a : Nat) (R : Option (Option Nat) × Nat → SortSt → Prop),Nx lo st st1 → 1 ≤ a → a ≤ nrem → Srt rk (arrOf st1) lo (lo + a) →
      (∀ n,a ≤ n → n ≤ nrem → Srt rk (arrOf st1) lo (lo + n) → (n = nrem ∨ kv rk (arrOf st1) (lo + n) < kv rk (arrOf st1) (lo + n - 1)) → R (none,n) st1) →
      wpS (model prog w) A E s (forIn [a:nrem] ((none,a) : Option (Option Nat) × Nat) fun _ r=>do
        let x ← ltAt' (lo + r.2) (lo + r.2 - 1)
        match x with
        | some c=>if c = true then pure (ForInStep.done (none,r.2)) else pure (ForInStep.yield (none,r.2 + 1))
        | _=>pure (ForInStep.done (some none,r.2))) R st1:=by
    intro st1 a R n1 ha1 han hs hR
    refine wpS_forRange (I:=fun x c st'=>st' = st1 ∧ c = (none,x) ∧ Srt rk (arrOf st1) lo (lo + x)) ?step ?fin ⟨rfl,rfl,hs⟩
    case fin =>
      rintro c st' ⟨rfl,rfl,hs'⟩
      rw [show max a nrem = nrem by omega] at hs' ⊢
      exact hR nrem han (Nat.le_refl _) hs' (.inl rfl)
    case step =>
      rintro x c st' hax hxn ⟨rfl,rfl,hs'⟩
      dsimp only
      have hsz:=n1.size
      refine wpS_bind (ltAt_ask h (n1.kind.trans hk) (ha.perm n1.perm) (by omega) (by omega) ?_)
      by_cases hl : kv rk (arrOf st') (lo + x) < kv rk (arrOf st') (lo + x - 1)
      · simp only [hl,decide_true,if_true]
        exact wpS_pure (hR x hax (by omega) hs' (.inr hl))
      · simp only [hl,decide_false,Bool.false_eq_true,if_false]
        refine wpS_pure ⟨rfl,rfl,fun i j hi hij hj=>?_⟩
        by_cases hjx : j < lo + x
        · exact hs' i j hi hij hjx
        · have ej : j = lo + x:=by omega
          subst ej
          by_cases hi' : i = lo + x
          · subst hi'; exact Nat.le_refl _
          · have:=hs' i (lo + x - 1) hi (by omega) (by omega)
            omega
  have one : Srt rk (arrOf st) lo (lo + 1):=fun i j h1 h2 h3=>by
    have e : i = j:=by omega
    subst e
    exact Nat.le_refl _
  refine wpS_bind (asc st 1 _ (Nx.refl _ _) (Nat.le_refl _) hn one fun n hn1 hn2 hs hnd=>?_)
  dsimp only
  by_cases hnn : n = nrem
  · subst hnn
    rw [if_pos (by simp)]
    exact wpS_pure (q n st (Nx.refl _ _) hn1 (Nat.le_refl _) hs)
  rw [if_neg (by simpa using hnn)]
  have hlt : kv rk (arrOf st) (lo + n) < kv rk (arrOf st) (lo + n - 1):=hnd.resolve_left hnn
  have key : ∀ K : StateT SortSt Sem (Option Nat),(∀ st1,Nx lo st st1 → Des rk (arrOf st1) lo (lo + n + 1) → wpS (model prog w) A E s K Q st1) →
      wpS (model prog w) A E s (if n > 1 then do
        let x ← ltAt' lo (lo + n - 1)
        match x with
        | some c=>if c = true then pure (some n) else do
          reverseSlice' lo (lo + n)
          K
        | _=>pure none
      else K) Q st:=by
    intro K hK
    by_cases h1 : n > 1
    · rw [if_pos h1]
      refine wpS_bind (ltAt_ask h hk ha (by omega) (by omega) ?_)
      by_cases hl : kv rk (arrOf st) lo < kv rk (arrOf st) (lo + n - 1)
      · simp only [hl,decide_true,if_true]
        exact wpS_pure (q n st (Nx.refl _ _) hn1 hn2 hs)
      · simp only [hl,decide_false,Bool.false_eq_true,if_false]
        refine wpS_bind (wpS_reverse (hK _ (nx_mirror (Nat.le_refl _) (by omega)) ?_))
        have alike : ∀ k,lo ≤ k → k < lo + n → kv rk (arrOf st) k = kv rk (arrOf st) lo:=fun k h2 h3=>by
          have e1:=hs lo k (Nat.le_refl _) h2 h3
          have e2:=hs k (lo + n - 1) h2 (by omega) (by omega)
          omega
        have same : ∀ k,kv rk (mirror (arrOf st) lo (lo + n) ((lo + n - lo) / 2)) k = kv rk (arrOf st) k:=fun k=>by
          rw [kv_mirror (by omega)]
          split
          · rw [alike _ (by omega) (by omega),alike k (by omega) (by omega)]
          · rfl
        intro i j hi hij hj
        show kv rk (mirror (arrOf st) lo (lo + n) ((lo + n - lo) / 2)) j ≤ kv rk (mirror (arrOf st) lo (lo + n) ((lo + n - lo) / 2)) i
        rw [same,same]
        by_cases hj' : j < lo + n
        · rw [alike j (by omega) hj',alike i hi (by omega)]; exact Nat.le_refl _
        · have ej : j = lo + n:=by omega
          subst ej
          by_cases hi' : i < lo + n
          · have e1:=alike i hi hi'
            have e2:=alike (lo + n - 1) (by omega) (by omega)
            omega
          · have ei : i = lo + n:=by omega
            subst ei; exact Nat.le_refl _
    · rw [if_neg h1]
      have en : n = 1:=by omega
      subst en
      refine hK st (Nx.refl _ _) fun i j hi hij hj=>?_
      by_cases e : i = j
      · subst e; exact Nat.le_refl _
      · have e1 : i = lo:=by omega
        have e2 : j = lo + 1:=by omega
        subst e1 e2
        exact Nat.le_of_lt hlt
  refine key _ fun st1 n1 hd=>?_
  have sz1:=n1.size
  refine wpS_bind (wpS_lift (wpAny_rule ⟨rfl,?_⟩))
  refine wpS_bind (wpS_mono (wpS_forRange (I:=fun x c st'=>∃ neq,c = (none,x,neq) ∧ Nx lo st st' ∧ Des rk (arrOf st') lo (lo + x) ∧ neq + 1 ≤ x ∧ (∀ i,lo + x - (neq + 1) ≤ i → i < lo + x → kv rk (arrOf st') i = kv rk (arrOf st') (lo + x - 1)))
    (Q:=fun c st'=>∃ x neq,c = (none,x,neq) ∧ n + 1 ≤ x ∧ x ≤ nrem ∧ Nx lo st st' ∧ Des rk (arrOf st') lo (lo + x) ∧ neq + 1 ≤ x ∧ (∀ i,lo + x - (neq + 1) ≤ i → i < lo + x → kv rk (arrOf st') i = kv rk (arrOf st') (lo + x - 1)))
    ?step ?fin ⟨0,rfl,n1,hd,by omega,fun i h1 h2=>by congr 1; omega⟩) ?post)
  case fin =>
    rintro c st' ⟨neq,rfl,n',hd',hq,he⟩
    rw [show max (n + 1) nrem = nrem by omega] at hd' hq he ⊢
    exact ⟨nrem,neq,rfl,by omega,Nat.le_refl _,n',hd',hq,he⟩
  case step =>
    rintro x c st' hax hxn ⟨neq,rfl,n',hd',hq,he⟩
    dsimp only
    have sz':=n'.size
    have grow : ∀ st2,Nx lo st st2 → (∀ k,kv rk (arrOf st2) k = kv rk (arrOf st') k) → kv rk (arrOf st') (lo + x) ≤ kv rk (arrOf st') (lo + x - 1) → Des rk (arrOf st2) lo (lo + (x + 1)):=by
      intro st2 _ e hle i j hi hij hj
      rw [e,e]
      by_cases hjx : j < lo + x
      · exact hd' i j hi hij hjx
      · have ej : j = lo + x:=by omega
        subst ej
        by_cases hi' : i = lo + x
        · subst hi'; exact Nat.le_refl _
        · have:=hd' i (lo + x - 1) hi (by omega) (by omega)
          omega
    refine wpS_bind (ltAt_ask h (n'.kind.trans hk) (ha.perm n'.perm) (by omega) (by omega) ?_)
    by_cases hl : kv rk (arrOf st') (lo + x) < kv rk (arrOf st') (lo + x - 1)
    · simp only [hl,decide_true,if_true]
      by_cases hq0 : neq > 0
      · rw [if_pos hq0]
        have n2 : Nx lo st' (setArr st' (mirror (arrOf st') (lo + x - (neq + 1)) (lo + x) ((lo + x - (lo + x - (neq + 1))) / 2))):=nx_mirror (by omega) (by omega)
        have same : ∀ k,kv rk (mirror (arrOf st') (lo + x - (neq + 1)) (lo + x) ((lo + x - (lo + x - (neq + 1))) / 2)) k = kv rk (arrOf st') k:=fun k=>by
          rw [kv_mirror (by omega)]
          split
          · rw [he _ (by omega) (by omega),he k (by omega) (by omega)]
          · rfl
        refine wpS_bind (wpS_reverse (wpS_pure ⟨0,rfl,n'.trans n2,grow _ (n'.trans n2) same (Nat.le_of_lt hl),by omega,fun i h1 h2=>by congr 1; omega⟩))
      · rw [if_neg hq0]
        exact wpS_pure ⟨0,rfl,n',grow _ n' (fun _=>rfl) (Nat.le_of_lt hl),by omega,fun i h1 h2=>by congr 1; omega⟩
    · simp only [hl,decide_false,Bool.false_eq_true,if_false]
      refine wpS_bind (ltAt_ask h (n'.kind.trans hk) (ha.perm n'.perm) (by omega) (by omega) ?_)
      by_cases hl2 : kv rk (arrOf st') (lo + x - 1) < kv rk (arrOf st') (lo + x)
      · simp only [hl2,decide_true,if_true]
        exact wpS_pure ⟨x,neq,rfl,hax,by omega,n',hd',hq,he⟩
      · simp only [hl2,decide_false,Bool.false_eq_true,if_false]
        refine wpS_pure ⟨neq + 1,rfl,n',grow _ n' (fun _=>rfl) (by omega),by omega,fun i h1 h2=>?_⟩
        rw [show lo + (x + 1) - 1 = lo + x by omega]
        by_cases hi' : i = lo + x
        · subst hi'; rfl
        · rw [he i (by omega) (by omega)]; omega
  case post =>
    rintro c st' ⟨x,neq,rfl,hx1,hx2,n',hd',hq,he⟩
    dsimp only
    have sz':=n'.size
    have last : ∀ (K : Option (Option Nat) × Nat → StateT SortSt Sem (Option Nat)),(∀ m,K (none,m) = pure (some m)) → ∀ st2,Nx lo st st2 → Des rk (arrOf st2) lo (lo + x) → wpS (model prog w) A E s (do
        reverseSlice' lo (lo + x)
        let r ← forIn [x:nrem] ((none,x) : Option (Option Nat) × Nat) fun _ r=>do
          let x ← ltAt' (lo + r.2) (lo + r.2 - 1)
          match x with
          | some c=>if c = true then pure (ForInStep.done (none,r.2)) else pure (ForInStep.yield (none,r.2 + 1))
          | _=>pure (ForInStep.done (some none,r.2))
        K r) Q st2:=by
      intro K hK st2 n2 hd2
      have sz2:=n2.size
      refine wpS_bind (wpS_reverse ?_)
      have n3 : Nx lo st2 (setArr st2 (mirror (arrOf st2) lo (lo + x) ((lo + x - lo) / 2))):=nx_mirror (Nat.le_refl _) (by omega)
      refine wpS_bind (asc _ x _ (n2.trans n3) (by omega) hx2 ?_ fun m hm1 hm2 hs _=>?_)
      · intro i j hi hij hj
        show kv rk (mirror (arrOf st2) lo (lo + x) ((lo + x - lo) / 2)) i ≤ kv rk (mirror (arrOf st2) lo (lo + x) ((lo + x - lo) / 2)) j
        rw [kv_mirror (by omega),kv_mirror (by omega),if_pos (by omega),if_pos (by omega)]
        exact hd2 _ _ (by omega) (by omega) (by omega)
      · rw [hK]; exact wpS_pure (q m _ (n2.trans n3) (by omega) hm2 hs)
    by_cases hq0 : neq > 0
    · rw [if_pos hq0]
      have n2 : Nx lo st' (setArr st' (mirror (arrOf st') (lo + x - (neq + 1)) (lo + x) ((lo + x - (lo + x - (neq + 1))) / 2))):=nx_mirror (by omega) (by omega)
      have same : ∀ k,kv rk (mirror (arrOf st') (lo + x - (neq + 1)) (lo + x) ((lo + x - (lo + x - (neq + 1))) / 2)) k = kv rk (arrOf st') k:=fun k=>by
        rw [kv_mirror (by omega)]
        split
        · rw [he _ (by omega) (by omega),he k (by omega) (by omega)]
        · rfl
      refine wpS_bind (wpS_reverse (last _ (fun _=>rfl) _ (n'.trans n2) fun i j hi hij hj=>?_))
      show kv rk (mirror _ _ _ _) j ≤ kv rk (mirror _ _ _ _) i
      rw [same,same]
      exact hd' i j hi hij hj
    · rw [if_neg hq0]
      exact last _ (fun _=>rfl) st' n' hd'
theorem bin_ok (h : Ask prog w A s κ M rk) {lo n ok : Nat} {st : SortSt} {Q : Bool → SortSt → Prop} (hk : kindOf st = κ) (ha : All M (arrOf st)) (hn : lo + n ≤ (arrOf st).size) (hok : ok ≤ n) (hs : Srt rk (arrOf st) lo (lo + ok))
    (q : ∀ st',Nx lo st st' → Srt rk (arrOf st') lo (lo + n) → Q true st') : wpS (model prog w) A E s (binarySort' lo n ok) Q st:=by
  rw [binarySort'_eq]
  refine wpS_bind (wpS_mono (wpS_forRange (I:=fun k c st'=>c = (none,()) ∧ Nx lo st st' ∧ Srt rk (arrOf st') lo (lo + min k n))
    (Q:=fun c st'=>c = (none,()) ∧ Nx lo st st' ∧ Srt rk (arrOf st') lo (lo + n)) ?step ?fin ?init) ?post)
  case post =>
    rintro c st' ⟨rfl,n',hs'⟩
    exact wpS_pure (q st' n' hs')
  case init =>
    refine ⟨rfl,Nx.refl _ _,fun i j hi hij hj=>?_⟩
    by_cases h1 : ok = 0
    · have e : i = j:=by omega
      subst e; exact Nat.le_refl _
    · exact hs i j hi hij (by omega)
  case fin =>
    rintro c st' ⟨hc,n',hs'⟩
    refine ⟨hc,n',?_⟩
    rwa [show min (max (max ok 1) n) n = n by omega] at hs'
  case step =>
    rintro k c st' hak hkn ⟨rfl,n',hs'⟩
    rw [show min k n = k by omega] at hs'
    have sz':=n'.size
    refine wpS_bind (wpS_mono (wpS_forRange (I:=fun x c st''=>st'' = st' ∧ ∃ l r,c = (none,l,r) ∧ l ≤ r ∧ r ≤ k ∧ r - l ≤ k - x ∧
        (∀ i,i < l → kv rk (arrOf st') (lo + i) ≤ kv rk (arrOf st') (lo + k)) ∧ (∀ i,r ≤ i → i < k → kv rk (arrOf st') (lo + k) < kv rk (arrOf st') (lo + i)))
      (Q:=fun c st''=>st'' = st' ∧ ∃ l r,c = (none,l,r) ∧ l ≤ k ∧
        (∀ i,i < l → kv rk (arrOf st') (lo + i) ≤ kv rk (arrOf st') (lo + k)) ∧ (∀ i,l ≤ i → i < k → kv rk (arrOf st') (lo + k) < kv rk (arrOf st') (lo + i))) ?istep ?ifin ?iinit) ?ipost)
    case iinit=>exact ⟨rfl,0,k,rfl,by omega,by omega,by omega,fun i hi=>by omega,fun i h1 h2=>by omega⟩
    case ifin =>
      rintro c st'' ⟨rfl,l,r,rfl,hlr,hrk,hm,hlo,hhi⟩
      have e : l = r:=by omega
      subst e
      exact ⟨rfl,l,l,rfl,hrk,hlo,hhi⟩
    case istep =>
      rintro x c st'' _ hxk ⟨rfl,l,r,rfl,hlr,hrk,hm,hlo,hhi⟩
      dsimp only
      by_cases hge : l ≥ r
      · rw [if_pos hge]
        have e : l = r:=by omega
        subst e
        exact wpS_pure ⟨rfl,l,l,rfl,hrk,hlo,hhi⟩
      · rw [if_neg hge]
        refine wpS_bind (ltAt_ask h (n'.kind.trans hk) (ha.perm n'.perm) (by omega) (by omega) ?_)
        by_cases hl : kv rk (arrOf st'') (lo + k) < kv rk (arrOf st'') (lo + (l + r) / 2)
        · simp only [hl,decide_true,if_true]
          refine wpS_pure ⟨rfl,l,(l + r) / 2,rfl,by omega,by omega,by omega,hlo,fun i h1 h2=>?_⟩
          exact Nat.lt_of_lt_of_le hl (hs' _ _ (by omega) (by omega) (by omega))
        · simp only [hl,decide_false,Bool.false_eq_true,if_false]
          refine wpS_pure ⟨rfl,(l + r) / 2 + 1,r,rfl,by omega,by omega,by omega,fun i h1=>?_,hhi⟩
          exact Nat.le_trans (hs' (lo + i) (lo + (l + r) / 2) (by omega) (by omega) (by omega)) (Nat.not_lt.mp hl)
    case ipost =>
      rintro c st'' ⟨rfl,l,r,rfl,hlk,hlo,hhi⟩
      show wpS _ _ _ _ (do moveDown' (lo + k) (lo + l); pure (ForInStep.yield (none,()))) _ _
      rw [moveDown'_eq]
      refine wpS_bind (wpS_modify (wpS_pure ⟨rfl,n'.trans (nx_bubble (by omega) (by omega) (by omega)),?_⟩))
      rw [show min (k + 1) n = k + 1 by omega]
      intro i j hi hij hj
      show kv rk (bubble (arrOf st'') (lo + k) (lo + k - (lo + l))) i ≤ kv rk (bubble (arrOf st'') (lo + k) (lo + k - (lo + l))) j
      rw [kv_bubble (by omega) (by omega),kv_bubble (by omega) (by omega),show lo + k - (lo + k - (lo + l)) = lo + l by omega]
      have hlo' : ∀ z,lo ≤ z → z < lo + l → kv rk (arrOf st'') z ≤ kv rk (arrOf st'') (lo + k):=fun z h1 h2=>by
        have:=hlo (z - lo) (by omega)
        rwa [show lo + (z - lo) = z by omega] at this
      have hhi' : ∀ z,lo + l ≤ z → z < lo + k → kv rk (arrOf st'') (lo + k) < kv rk (arrOf st'') z:=fun z h1 h2=>by
        have:=hhi (z - lo) (by omega) (by omega)
        rwa [show lo + (z - lo) = z by omega] at this
      repeat' split
      all_goals first
        | (exfalso; omega)
        | exact Nat.le_refl _
        | exact hlo' _ (by omega) (by omega)
        | exact Nat.le_of_lt (hhi' _ (by omega) (by omega))
        | exact hs' _ _ (by omega) (by omega) (by omega)
end
end L2.Ts
namespace L2.Ts
open PySem PyProof.Rows
def gallop' : Bool → Keyed → Array Keyed → Nat → Nat → Nat → StateT SortSt Sem (Option Nat):=sortPriv% PySem.Builtin.gallop
section
variable {prog : Program} {w : World} {A : Around} {E : Value → Shared → Prop} {s : Shared} {κ : SortKind} {M : Keyed → Prop} {rk : Keyed → Nat}
def Bd (rk : Keyed → Nat) (left : Bool) (key : Keyed) (arr : Array Keyed) (i : Nat) : Prop:=if left = true then kv rk arr i < rk key else kv rk arr i ≤ rk key
theorem gallop_ok (h : Ask prog w A s κ M rk) {left : Bool} {key : Keyed} {arr : Array Keyed} {base n hint : Nat} {st : SortSt} {Q : Option Nat → SortSt → Prop} (hk : kindOf st = κ) (hM : M key) (ha : All M arr) (hz : base + n ≤ arr.size) (hh : hint < n)
    (hs : Srt rk arr base (base + n)) (q : ∀ p,p ≤ n → (∀ i,base ≤ i → i < base + p → Bd rk left key arr i) → (∀ i,base + p ≤ i → i < base + n → ¬ Bd rk left key arr i) → Q (some p) st) :
    wpS (model prog w) A E s (gallop' left key arr base n hint) Q st:=by
  have mono : ∀ i j,base ≤ i → i ≤ j → j < base + n → Bd rk left key arr j → Bd rk left key arr i:=fun i j h1 h2 h3 b=>by
    have:=hs i j h1 h2 h3
    unfold Bd at b ⊢
    cases left
    · simp only [Bool.false_eq_true,if_false] at b ⊢; omega
    · simp only [if_true] at b ⊢; omega
  have asks : ∀ (i : Nat) (R : Option Bool → SortSt → Prop),i < n → (Bd rk left key arr (base + i) → R (some true) st) → (¬ Bd rk left key arr (base + i) → R (some false) st) →
      wpS (model prog w) A E s (do
        let x ← elem' arr (base + i)
        if left = true then lt' x key else do
          let r ← lt' key x
          pure (r.map fun b=>!b)) R st:=by
    intro i R hi r1 r2
    have ei : arr[base + i]? = some arr[base + i]:=Array.getElem?_eq_getElem (by omega)
    refine wpS_bind (elem_at ei ?_)
    have ev:=kv_of (rk:=rk) ei
    cases left
    · rw [if_neg (by decide)]
      refine wpS_bind (lt_ask h hk hM (ha _ _ ei) (wpS_pure ?_))
      by_cases c : rk key < rk arr[base + i]
      · rw [decide_eq_true c]
        refine r2 fun b=>?_
        unfold Bd at b
        rw [if_neg (by decide),ev] at b
        omega
      · rw [decide_eq_false c]
        refine r1 ?_
        unfold Bd
        rw [if_neg (by decide),ev]
        omega
    · rw [if_pos rfl]
      refine lt_ask h hk (ha _ _ ei) hM ?_
      by_cases c : rk arr[base + i] < rk key
      · rw [decide_eq_true c]
        refine r1 ?_
        unfold Bd
        rw [if_pos rfl,ev]
        exact c
      · rw [decide_eq_false c]
        refine r2 fun b=>?_
        unfold Bd at b
        rw [if_pos rfl,ev] at b
        exact c b
  have srch : ∀ (K : Option (Option Nat) × Nat × Nat → StateT SortSt Sem (Option Nat)),(∀ l p,K (none,l,p) = pure (some p)) → ∀ lo hi,lo ≤ hi → hi ≤ n → (∀ i,base ≤ i → i < base + lo → Bd rk left key arr i) → (∀ i,base + hi ≤ i → i < base + n → ¬ Bd rk left key arr i) →
      ∀ body,(∀ x l p,body x (none,l,p) = if l ≥ p then pure (ForInStep.done (none,l,p)) else do
        let c ← (do
          let x ← elem' arr (base + (l + (p - l) / 2))
          if left = true then lt' x key else do
            let r ← lt' key x
            pure (r.map fun b=>!b))
        match c with
        | some more=>if more = true then pure (ForInStep.yield (none,l + (p - l) / 2 + 1,p)) else pure (ForInStep.yield (none,l,l + (p - l) / 2))
        | _=>pure (ForInStep.done (some none,l,p))) →
      wpS (model prog w) A E s (do let r ← forIn [0:n] ((none,lo,hi) : Option (Option Nat) × Nat × Nat) body; K r) Q st:=by
    intro K hK lo hi hlh hhn h1 h2 body hb
    refine wpS_bind (wpS_forRange (I:=fun x c st'=>st' = st ∧ ∃ l p,c = (none,l,p) ∧ l ≤ p ∧ p ≤ n ∧ p - l ≤ n - x ∧ (∀ i,base ≤ i → i < base + l → Bd rk left key arr i) ∧ (∀ i,base + p ≤ i → i < base + n → ¬ Bd rk left key arr i)) ?step ?fin ⟨rfl,lo,hi,rfl,hlh,hhn,by omega,h1,h2⟩)
    case fin =>
      rintro c st' ⟨rfl,l,p,rfl,a1,a2,a3,a4,a5⟩
      have e : l = p:=by omega
      subst e
      rw [hK]
      exact wpS_pure (q l a2 a4 a5)
    case step =>
      rintro x c st' _ hx ⟨rfl,l,p,rfl,a1,a2,a3,a4,a5⟩
      rw [hb]
      by_cases c : l ≥ p
      · rw [if_pos c]
        have e : l = p:=by omega
        subst e
        refine wpS_pure ?_
        show wpS _ _ _ _ (K (none,l,l)) Q st'
        rw [hK]
        exact wpS_pure (q l a2 a4 a5)
      · rw [if_neg c]
        refine wpS_bind (asks _ _ (by omega) (fun b=>?_) fun b=>?_)
        · refine wpS_pure ⟨rfl,l + (p - l) / 2 + 1,p,rfl,by omega,a2,by omega,fun i i1 i2=>?_,a5⟩
          exact mono i _ i1 (by omega) (by omega) b
        · refine wpS_pure ⟨rfl,l,l + (p - l) / 2,rfl,by omega,by omega,by omega,a4,fun i i1 i2=>?_⟩
          exact fun bi=>b (mono _ i (by omega) i1 i2 bi)
  refine wpS_bind (asks hint _ hh (fun b=>?_) fun b=>?_)
  · dsimp only
    rw [if_pos rfl]
    refine wpS_bind (wpS_mono (wpS_forRange (I:=fun x c st'=>st' = st ∧ ∃ l p,c = (none,l,p) ∧ l < p ∧ x < p ∧ l < n - hint ∧ Bd rk left key arr (base + (hint + l)))
      (Q:=fun c st'=>st' = st ∧ ∃ l p,c = (none,l,p) ∧ l < p ∧ l < n - hint ∧ Bd rk left key arr (base + (hint + l)) ∧ (n - hint ≤ p ∨ (p < n - hint ∧ ¬ Bd rk left key arr (base + (hint + p))))) ?step ?fin ⟨rfl,0,1,rfl,by omega,by omega,by omega,b⟩) ?post)
    case fin =>
      rintro c st' ⟨rfl,l,p,rfl,a1,a2,a3,a4⟩
      exact ⟨rfl,l,p,rfl,a1,a3,a4,.inl (by omega)⟩
    case step =>
      rintro x c st' _ hx ⟨rfl,l,p,rfl,a1,a2,a3,a4⟩
      dsimp only
      by_cases c : p ≥ n - hint
      · rw [if_pos c]
        exact wpS_pure ⟨rfl,l,p,rfl,a1,a3,a4,.inl c⟩
      · rw [if_neg c]
        refine wpS_bind (asks _ _ (by omega) (fun b=>?_) fun b=>?_)
        · exact wpS_pure ⟨rfl,p,2 * p + 1,rfl,by omega,by omega,by omega,b⟩
        · exact wpS_pure ⟨rfl,l,p,rfl,a1,a3,a4,.inr ⟨by omega,b⟩⟩
    case post =>
      rintro c st' ⟨rfl,l,p,rfl,a1,a2,a3,a4⟩
      dsimp only
      refine srch _ (fun _ _=>rfl) _ _ ?_ ?_ (fun i i1 i2=>mono i _ i1 (by omega) (by omega) a3) (fun i i1 i2 bi=>?_) _ fun x l p=>rfl
      · omega
      · omega
      · rcases a4 with a4 | ⟨a4,a5⟩
        · omega
        · exact a5 (mono _ i (by omega) (by omega) i2 bi)
  · dsimp only
    rw [if_neg (by decide)]
    refine wpS_bind (wpS_mono (wpS_forRange (I:=fun x c st'=>st' = st ∧ ∃ l p,c = (none,l,p) ∧ l < p ∧ x < p ∧ l < hint + 1 ∧ ¬ Bd rk left key arr (base + (hint - l)))
      (Q:=fun c st'=>st' = st ∧ ∃ l p,c = (none,l,p) ∧ l < p ∧ l < hint + 1 ∧ ¬ Bd rk left key arr (base + (hint - l)) ∧ (hint + 1 ≤ p ∨ (p < hint + 1 ∧ Bd rk left key arr (base + (hint - p))))) ?step ?fin ⟨rfl,0,1,rfl,by omega,by omega,by omega,b⟩) ?post)
    case fin =>
      rintro c st' ⟨rfl,l,p,rfl,a1,a2,a3,a4⟩
      exact ⟨rfl,l,p,rfl,a1,a3,a4,.inl (by omega)⟩
    case step =>
      rintro x c st' _ hx ⟨rfl,l,p,rfl,a1,a2,a3,a4⟩
      dsimp only
      by_cases c : p ≥ hint + 1
      · rw [if_pos c]
        exact wpS_pure ⟨rfl,l,p,rfl,a1,a3,a4,.inl c⟩
      · rw [if_neg c]
        refine wpS_bind (asks _ _ (by omega) (fun b=>?_) fun b=>?_)
        · exact wpS_pure ⟨rfl,l,p,rfl,a1,a3,a4,.inr ⟨by omega,b⟩⟩
        · exact wpS_pure ⟨rfl,p,2 * p + 1,rfl,by omega,by omega,by omega,b⟩
    case post =>
      rintro c st' ⟨rfl,l,p,rfl,a1,a2,a3,a4⟩
      dsimp only
      refine srch _ (fun _ _=>rfl) _ _ ?_ ?_ (fun i i1 i2=>?_) (fun i i1 i2 bi=>a3 (mono _ i (by omega) (by omega) i2 bi)) _ fun x l p=>rfl
      · omega
      · omega
      · rcases a4 with a4 | ⟨a4,a5⟩
        · omega
        · exact mono i _ i1 (by omega) (by omega) a5
end
end L2.Ts
namespace L2.Ts
open PySem PyProof.Rows
abbrev Up (rk : Keyed → Nat) (l : List Keyed) : Prop:=l.Pairwise fun x y=>rk x ≤ rk y
structure J (rk : Keyed → Nat) (la lb o : List Keyed) (ia ib : Nat) : Prop where
  ha : ia ≤ la.length
  hb : ib ≤ lb.length
  perm : o.Perm (la.take ia ++ lb.take ib)
  srt : Up rk o
  ua : ∀ x ∈ o,∀ y ∈ la.drop ia,rk x ≤ rk y
  ub : ∀ x ∈ o,∀ y ∈ lb.drop ib,rk x ≤ rk y
def Good (rk : Keyed → Nat) (la lb r : List Keyed) : Prop:=r.Perm (la ++ lb) ∧ Up rk r
variable {rk : Keyed → Nat} {la lb o : List Keyed} {ia ib na nb k : Nat}
theorem drop_split {α : Type} (l : List α) (i k : Nat) : l.drop i = (l.drop i).take k ++ l.drop (i + k):=by
  rw [← List.drop_drop]
  exact (List.take_append_drop k (l.drop i)).symm
theorem take_split {α : Type} (l : List α) (i k : Nat) : l.take (i + k) = l.take i ++ (l.drop i).take k:=List.take_add
theorem Up.drop {l : List Keyed} (h : Up rk l) (i : Nat) : Up rk (l.drop i):=h.sublist (List.drop_sublist i l)
theorem Up.take {l : List Keyed} (h : Up rk l) (i : Nat) : Up rk (l.take i):=h.sublist (List.take_sublist i l)
theorem Up.app {l m : List Keyed} (h : Up rk l) (q : Up rk m) (c : ∀ x ∈ l,∀ y ∈ m,rk x ≤ rk y) : Up rk (l ++ m):=List.pairwise_append.mpr ⟨h,q,c⟩
theorem J.a (j : J rk la lb o ia ib) (sa : Up rk la) (hk : ia + k ≤ la.length) (h : ∀ x ∈ (la.drop ia).take k,∀ y ∈ lb.drop ib,rk x ≤ rk y) : J rk la lb (o ++ (la.drop ia).take k) (ia + k) ib:=by
  have sd:=drop_split la ia k
  have up:=sa.drop ia
  rw [sd] at up
  have cr:=(List.pairwise_append.mp up).2.2
  refine ⟨hk,j.hb,?_,j.srt.app ((sa.drop ia).take k) fun x hx y hy=>j.ua x hx y (List.mem_of_mem_take hy),fun x hx y hy=>?_,fun x hx y hy=>?_⟩
  · rw [take_split,List.append_assoc]
    refine (List.Perm.append_right _ j.perm).trans ?_
    rw [List.append_assoc]
    exact List.Perm.append_left _ List.perm_append_comm
  · rcases List.mem_append.mp hx with hx | hx
    · exact j.ua x hx y (by rw [sd]; exact List.mem_append_right _ hy)
    · exact cr x hx y hy
  · rcases List.mem_append.mp hx with hx | hx
    · exact j.ub x hx y hy
    · exact h x hx y hy
theorem J.b (j : J rk la lb o ia ib) (sb : Up rk lb) (hk : ib + k ≤ lb.length) (h : ∀ x ∈ (lb.drop ib).take k,∀ y ∈ la.drop ia,rk x ≤ rk y) : J rk la lb (o ++ (lb.drop ib).take k) ia (ib + k):=by
  have sd:=drop_split lb ib k
  have up:=sb.drop ib
  rw [sd] at up
  have cr:=(List.pairwise_append.mp up).2.2
  refine ⟨j.ha,hk,?_,j.srt.app ((sb.drop ib).take k) fun x hx y hy=>j.ub x hx y (List.mem_of_mem_take hy),fun x hx y hy=>?_,fun x hx y hy=>?_⟩
  · rw [take_split,← List.append_assoc]
    exact List.Perm.append_right _ j.perm
  · rcases List.mem_append.mp hx with hx | hx
    · exact j.ua x hx y hy
    · exact h x hx y hy
  · rcases List.mem_append.mp hx with hx | hx
    · exact j.ub x hx y (by rw [sd]; exact List.mem_append_right _ hy)
    · exact cr x hx y hy
theorem J.all (j : J rk la lb o ia ib) : (o ++ la.drop ia ++ lb.drop ib).Perm (la ++ lb):=by
  have e : (la.take ia ++ lb.take ib ++ la.drop ia ++ lb.drop ib).Perm (la ++ lb):=by
    have e1 : (la ++ lb) = (la.take ia ++ la.drop ia) ++ (lb.take ib ++ lb.drop ib):=by rw [List.take_append_drop,List.take_append_drop]
    rw [e1,List.append_assoc,List.append_assoc,List.append_assoc]
    refine List.Perm.append_left _ ?_
    rw [← List.append_assoc,← List.append_assoc]
    exact List.Perm.append_right _ List.perm_append_comm
  exact (List.Perm.append_right _ (List.Perm.append_right _ j.perm)).trans e
theorem J.done (j : J rk la lb o ia ib) (sa : Up rk la) (sb : Up rk lb) (h : ia = la.length ∨ ib = lb.length) : Good rk la lb (o ++ la.drop ia ++ lb.drop ib):=by
  refine ⟨j.all,?_⟩
  rcases h with h | h
  · rw [h,List.drop_length,List.append_nil]
    exact j.srt.app (sb.drop ib) j.ub
  · rw [h,List.drop_length,List.append_nil]
    exact j.srt.app (sa.drop ia) j.ua
theorem J.last (j : J rk la lb o ia ib) (sa : Up rk la) (sb : Up rk lb) (h : ∀ y ∈ lb,∀ x ∈ la.drop ia,rk y ≤ rk x) : Good rk la lb (o ++ lb.drop ib ++ la.drop ia):=by
  refine ⟨?_,(j.srt.app (sb.drop ib) j.ub).app (sa.drop ia) fun x hx y hy=>?_⟩
  · refine List.Perm.trans ?_ j.all
    rw [List.append_assoc,List.append_assoc]
    exact List.Perm.append_left _ List.perm_append_comm
  · rcases List.mem_append.mp hx with hx | hx
    · exact j.ua x hx y hy
    · exact h x (List.mem_of_mem_drop hx) y hy
structure J2 (rk : Keyed → Nat) (la lb o : List Keyed) (na nb : Nat) : Prop where
  ha : na ≤ la.length
  hb : nb ≤ lb.length
  perm : o.Perm (la.drop na ++ lb.drop nb)
  srt : Up rk o
  ua : ∀ x ∈ la.take na,∀ y ∈ o,rk x ≤ rk y
  ub : ∀ x ∈ lb.take nb,∀ y ∈ o,rk x ≤ rk y
theorem J2.a (j : J2 rk la lb o (na + k) nb) (sa : Up rk la) (h : ∀ x ∈ (la.drop na).take k,∀ y ∈ lb.take nb,rk y ≤ rk x) : J2 rk la lb ((la.drop na).take k ++ o) na nb:=by
  have sd:=take_split la na k
  have up:=sa.take (na + k)
  rw [sd] at up
  have cr:=(List.pairwise_append.mp up).2.2
  have j1:=j.ha
  refine ⟨by omega,j.hb,?_,((sa.drop na).take k).app j.srt fun x hx y hy=>j.ua x (by rw [sd]; exact List.mem_append_right _ hx) y hy,fun x hx y hy=>?_,fun x hx y hy=>?_⟩
  · have e : la.drop na ++ lb.drop nb = (la.drop na).take k ++ (la.drop (na + k) ++ lb.drop nb):=by rw [← List.append_assoc,← drop_split la na k]
    rw [e]
    exact List.Perm.append_left _ j.perm
  · rcases List.mem_append.mp hy with hy | hy
    · exact cr x hx y hy
    · exact j.ua x (by rw [sd]; exact List.mem_append_left _ hx) y hy
  · rcases List.mem_append.mp hy with hy | hy
    · exact h y hy x hx
    · exact j.ub x hx y hy
theorem J2.b (j : J2 rk la lb o na (nb + k)) (sb : Up rk lb) (h : ∀ x ∈ (lb.drop nb).take k,∀ y ∈ la.take na,rk y ≤ rk x) : J2 rk la lb ((lb.drop nb).take k ++ o) na nb:=by
  have sd:=take_split lb nb k
  have up:=sb.take (nb + k)
  rw [sd] at up
  have cr:=(List.pairwise_append.mp up).2.2
  have j1:=j.hb
  refine ⟨j.ha,by omega,?_,((sb.drop nb).take k).app j.srt fun x hx y hy=>j.ub x (by rw [sd]; exact List.mem_append_right _ hx) y hy,fun x hx y hy=>?_,fun x hx y hy=>?_⟩
  · have e : la.drop na ++ lb.drop nb = la.drop na ++ (lb.drop nb).take k ++ lb.drop (nb + k):=by rw [List.append_assoc,← drop_split lb nb k]
    rw [e]
    refine (List.Perm.append_left _ j.perm).trans ?_
    rw [← List.append_assoc]
    exact List.Perm.append_right _ List.perm_append_comm
  · rcases List.mem_append.mp hy with hy | hy
    · exact h y hy x hx
    · exact j.ua x hx y hy
  · rcases List.mem_append.mp hy with hy | hy
    · exact cr x hx y hy
    · exact j.ub x (by rw [sd]; exact List.mem_append_left _ hx) y hy
theorem J2.all (j : J2 rk la lb o na nb) : (la.take na ++ lb.take nb ++ o).Perm (la ++ lb):=by
  have e : (la.take na ++ lb.take nb ++ (la.drop na ++ lb.drop nb)).Perm (la ++ lb):=by
    have e1 : (la ++ lb) = (la.take na ++ la.drop na) ++ (lb.take nb ++ lb.drop nb):=by rw [List.take_append_drop,List.take_append_drop]
    rw [e1,List.append_assoc,List.append_assoc]
    refine List.Perm.append_left _ ?_
    rw [← List.append_assoc,← List.append_assoc]
    exact List.Perm.append_right _ List.perm_append_comm
  exact (List.Perm.append_left _ j.perm).trans e
theorem J2.done (j : J2 rk la lb o na nb) (sa : Up rk la) (sb : Up rk lb) (h : na = 0 ∨ nb = 0) : Good rk la lb (la.take na ++ lb.take nb ++ o):=by
  refine ⟨j.all,?_⟩
  rcases h with h | h
  · rw [h,List.take_zero,List.nil_append]
    exact (sb.take nb).app j.srt j.ub
  · rw [h,List.take_zero,List.append_nil]
    exact (sa.take na).app j.srt j.ua
theorem J2.first (j : J2 rk la lb o na nb) (sa : Up rk la) (sb : Up rk lb) (h : ∀ y ∈ lb.take nb,∀ x ∈ la,rk y ≤ rk x) : Good rk la lb (lb.take nb ++ la.take na ++ o):=by
  refine ⟨?_,((sb.take nb).app (sa.take na) fun x hx y hy=>h x hx y (List.mem_of_mem_take hy)).app j.srt fun x hx y hy=>?_⟩
  · refine List.Perm.trans ?_ j.all
    exact List.Perm.append_right _ List.perm_append_comm
  · rcases List.mem_append.mp hx with hx | hx
    · exact j.ub x hx y hy
    · exact j.ua x hx y hy
def mergeLo' : Array Keyed → Array Keyed → StateT SortSt Sem (Array Keyed):=sortPriv% PySem.Builtin.mergeLo
def mergeHi' : Array Keyed → Array Keyed → StateT SortSt Sem (Array Keyed):=sortPriv% PySem.Builtin.mergeHi
structure Gs (st st' : SortSt) : Prop where
  kind : kindOf st' = kindOf st
  arr : arrOf st' = arrOf st
  pend : pendingOf st' = pendingOf st
  failed : failedOf st' = failedOf st
theorem Gs.refl (st : SortSt) : Gs st st:=⟨rfl,rfl,rfl,rfl⟩
theorem Gs.trans {a b c : SortSt} (h : Gs a b) (q : Gs b c) : Gs a c:=⟨q.kind.trans h.kind,q.arr.trans h.arr,q.pend.trans h.pend,q.failed.trans h.failed⟩
theorem gs_set (st : SortSt) (g : Nat) : Gs st (SortSt.mk' (kindOf st) (arrOf st) (pendingOf st) g (failedOf st)):=⟨rfl,rfl,rfl,rfl⟩
theorem mem_seg {xs : Array Keyed} {i k : Nat} {x : Keyed} (h : x ∈ (xs.toList.drop i).take k) : ∃ j,i ≤ j ∧ j < i + k ∧ j < xs.size ∧ kv rk xs j = rk x ∧ xs[j]? = some x:=by
  obtain ⟨m,hm,e⟩:=List.getElem_of_mem h
  have l:=hm
  rw [List.length_take,List.length_drop,Array.length_toList] at l
  have e2 : xs[i + m]? = some x:=by
    rw [List.getElem_take,List.getElem_drop] at e
    rw [← e,← Array.getElem?_toList]
    exact List.getElem?_eq_getElem (by rw [Array.length_toList]; omega)
  exact ⟨i + m,by omega,by omega,by omega,kv_of e2,e2⟩
theorem mem_from {xs : Array Keyed} {i : Nat} {x : Keyed} (h : x ∈ xs.toList.drop i) : ∃ j,i ≤ j ∧ j < xs.size ∧ kv rk xs j = rk x:=by
  have h' : x ∈ (xs.toList.drop i).take xs.size:=by
    rw [List.take_of_length_le (by rw [List.length_drop,Array.length_toList]; omega)]
    exact h
  obtain ⟨j,h1,_,h3,h4,_⟩:=mem_seg (rk:=rk) h'
  exact ⟨j,h1,h3,h4⟩
theorem mem_to {xs : Array Keyed} {i : Nat} {x : Keyed} (h : x ∈ xs.toList.take i) : ∃ j,j < i ∧ j < xs.size ∧ kv rk xs j = rk x:=by
  have h' : x ∈ (xs.toList.drop 0).take i:=by rw [List.drop_zero]; exact h
  obtain ⟨j,h1,h2,h3,h4,_⟩:=mem_seg (rk:=rk) h'
  exact ⟨j,by omega,h3,h4⟩
theorem up_srt {xs : Array Keyed} (h : Up rk xs.toList) : Srt rk xs 0 xs.size:=fun i j _ hij hj=>by
  by_cases e : i = j
  · subst e; exact Nat.le_refl _
  · have q:=List.pairwise_iff_getElem.mp h i j (by rw [Array.length_toList]; omega) (by rw [Array.length_toList]; omega) (by omega)
    have ei : xs[i]? = some xs[i]:=Array.getElem?_eq_getElem (by omega)
    have ej : xs[j]? = some xs[j]:=Array.getElem?_eq_getElem (by omega)
    rw [kv_of ei,kv_of ej]
    simpa using q
theorem srt_up {xs : Array Keyed} {i k : Nat} (h : Srt rk xs i (i + k)) (hz : i + k ≤ xs.size) : Up rk (xs.toList.drop i |>.take k):=by
  refine List.pairwise_iff_getElem.mpr fun p q hp hq hpq=>?_
  have l:=hq
  rw [List.length_take,List.length_drop,Array.length_toList] at l
  have ep : xs[i + p]? = some xs[i + p]:=Array.getElem?_eq_getElem (by omega)
  have eq : xs[i + q]? = some xs[i + q]:=Array.getElem?_eq_getElem (by omega)
  have r:=h (i + p) (i + q) (by omega) (by omega) (by omega)
  rw [kv_of ep,kv_of eq] at r
  simpa [List.getElem_take,List.getElem_drop] using r
theorem seg_one {xs : Array Keyed} {i : Nat} {x : Keyed} (h : xs[i]? = some x) : (xs.toList.drop i).take 1 = [x]:=by
  obtain ⟨hi,e⟩:=Array.getElem?_eq_some_iff.mp h
  have hl : i < xs.toList.length:=by rw [Array.length_toList]; exact hi
  rw [List.drop_eq_getElem_cons hl,List.take_succ_cons,List.take_zero]
  rw [Array.getElem_toList,e]
theorem ext_list (xs : Array Keyed) (i j : Nat) : (xs.extract i j).toList = (xs.toList.drop i).take (j - i):=by
  rw [Array.toList_extract,List.extract_eq_drop_take]
theorem ext_all (xs : Array Keyed) (i : Nat) : (xs.extract i xs.size).toList = xs.toList.drop i:=by
  rw [ext_list,List.take_of_length_le (by rw [List.length_drop,Array.length_toList]; omega)]
theorem ext_to (xs : Array Keyed) (i : Nat) : (xs.extract 0 i).toList = xs.toList.take i:=by
  rw [ext_list,List.drop_zero,Nat.sub_zero]
section
variable {prog : Program} {w : World} {A : Around} {E : Value → Shared → Prop} {s : Shared} {κ : SortKind} {M : Keyed → Prop}
theorem wpS_ite {σ α : Type} {c : Prop} [Decidable c] {x y : StateT σ Sem α} {Q : α → σ → Prop} {st : σ} (h1 : c → wpS (model prog w) A E s x Q st) (h2 : ¬ c → wpS (model prog w) A E s y Q st) : wpS (model prog w) A E s (if c then x else y) Q st:=by
  by_cases h : c
  · rw [if_pos h]; exact h1 h
  · rw [if_neg h]; exact h2 h
abbrev LoC:=Option (Array Keyed) × Array Keyed × Nat × Nat × Nat × Nat × Nat
def l3 (a b : Array Keyed) (out : Array Keyed) (ia ib g ac bc : Nat) : StateT SortSt Sem (ForInStep LoC):=do
  let x ← elem' a ia
  if (ia + 1 + 1 == a.size) = true then pure (.done (some (out.push x ++ b.extract ib b.size ++ a.extract (ia + 1) a.size),out.push x,ia + 1,ib,g,ac,bc))
  else if (decide (ac < 7) && decide (bc < 7)) = true then pure (.done (none,out.push x,ia + 1,ib,g,ac,bc))
  else pure (.yield (none,out.push x,ia + 1,ib,g,ac,bc))
def l2 (a b : Array Keyed) (out : Array Keyed) (ia ib g ac bc0 : Nat) : StateT SortSt Sem (ForInStep LoC):=do
  let x ← elem' b ib
  if (ib + 1 == b.size) = true then pure (.done (some (out.push x ++ a.extract ia a.size ++ b.extract (ib + 1) b.size),out.push x,ia,ib + 1,g,ac,bc0))
  else do
    let y ← elem' a ia
    let r ← gallop' true y b (ib + 1) (b.size - (ib + 1)) 0
    match r with
    | some k =>
      if k > 0 then
        if (ib + 1 + k == b.size) = true then pure (.done (some (out.push x ++ b.extract (ib + 1) (ib + 1 + k) ++ a.extract ia a.size ++ b.extract (ib + 1 + k) b.size),out.push x ++ b.extract (ib + 1) (ib + 1 + k),ia,ib + 1 + k,g,ac,k))
        else l3 a b (out.push x ++ b.extract (ib + 1) (ib + 1 + k)) ia (ib + 1 + k) g ac k
      else l3 a b (out.push x) ia (ib + 1) g ac k
    | _=>pure (.done (some (out.push x ++ a.extract ia a.size ++ b.extract (ib + 1) b.size),out.push x,ia,ib + 1,g,ac,bc0))
def l1 (a b : Array Keyed) (out : Array Keyed) (ia ib g ac0 bc0 : Nat) : StateT SortSt Sem (ForInStep LoC):=do
  let y ← elem' b ib
  let r ← gallop' false y a ia (a.size - ia) 0
  match r with
  | some k =>
    if k > 0 then
      if (ia + k + 1 == a.size) = true then pure (.done (some (out ++ a.extract ia (ia + k) ++ b.extract ib b.size ++ a.extract (ia + k) a.size),out ++ a.extract ia (ia + k),ia + k,ib,g,k,bc0))
      else if (ia + k == a.size) = true then pure (.done (some (out ++ a.extract ia (ia + k) ++ a.extract (ia + k) a.size ++ b.extract ib b.size),out ++ a.extract ia (ia + k),ia + k,ib,g,k,bc0))
      else l2 a b (out ++ a.extract ia (ia + k)) (ia + k) ib g k bc0
    else l2 a b out ia ib g k bc0
  | _=>pure (.done (some (out ++ a.extract ia a.size ++ b.extract ib b.size),out,ia,ib,g,ac0,bc0))
structure MPre (M : Keyed → Prop) (rk : Keyed → Nat) (a b : Array Keyed) : Prop where
  ma : All M a
  mb : All M b
  sa : Up rk a.toList
  sb : Up rk b.toList
  za : 0 < a.size
  zb : 0 < b.size
  fst : kv rk b 0 < kv rk a 0
  lst : ∀ i,i < b.size → kv rk b i < kv rk a (a.size - 1)
variable {a b : Array Keyed}
theorem MPre.done (m : MPre M rk a b) {out : Array Keyed} (j : J rk a.toList b.toList out.toList ia ib) (h : ia = a.size ∨ ib = b.size) : Good rk a.toList b.toList (out ++ a.extract ia a.size ++ b.extract ib b.size).toList:=by
  rw [Array.toList_append,Array.toList_append,ext_all,ext_all]
  exact j.done m.sa m.sb (by rw [Array.length_toList,Array.length_toList]; exact h)
theorem MPre.last (m : MPre M rk a b) {out : Array Keyed} (j : J rk a.toList b.toList out.toList ia ib) (h : ia + 1 = a.size) : Good rk a.toList b.toList (out ++ b.extract ib b.size ++ a.extract ia a.size).toList:=by
  rw [Array.toList_append,Array.toList_append,ext_all,ext_all]
  refine j.last m.sa m.sb fun y hy x hx=>?_
  obtain ⟨p,p1,p2,p3⟩:=mem_from (rk:=rk) (i:=0) (by rw [List.drop_zero]; exact hy)
  obtain ⟨r,r1,r2,r3⟩:=mem_from (rk:=rk) hx
  have e : r = a.size - 1:=by omega
  have:=m.lst p p2
  rw [e] at r3
  omega
theorem MPre.pushA (m : MPre M rk a b) {out : Array Keyed} {x : Keyed} (j : J rk a.toList b.toList out.toList ia ib) (hx : a[ia]? = some x) (h : ∀ i,ib ≤ i → i < b.size → kv rk a ia ≤ kv rk b i) : J rk a.toList b.toList (out.push x).toList (ia + 1) ib:=by
  obtain ⟨hi,_⟩:=Array.getElem?_eq_some_iff.mp hx
  have q:=j.a (k:=1) m.sa (by rw [Array.length_toList]; omega) (fun z hz y hy=>by
    rw [seg_one hx] at hz
    rw [List.mem_singleton.mp hz]
    obtain ⟨r,r1,r2,r3⟩:=mem_from (rk:=rk) hy
    have:=h r r1 r2
    rw [kv_of hx] at this
    omega)
  rw [seg_one hx] at q
  rw [Array.toList_push]
  exact q
theorem MPre.pushB (m : MPre M rk a b) {out : Array Keyed} {x : Keyed} (j : J rk a.toList b.toList out.toList ia ib) (hx : b[ib]? = some x) (h : ∀ i,ia ≤ i → i < a.size → kv rk b ib ≤ kv rk a i) : J rk a.toList b.toList (out.push x).toList ia (ib + 1):=by
  obtain ⟨hi,_⟩:=Array.getElem?_eq_some_iff.mp hx
  have q:=j.b (k:=1) m.sb (by rw [Array.length_toList]; omega) (fun z hz y hy=>by
    rw [seg_one hx] at hz
    rw [List.mem_singleton.mp hz]
    obtain ⟨r,r1,r2,r3⟩:=mem_from (rk:=rk) hy
    have:=h r r1 r2
    rw [kv_of hx] at this
    omega)
  rw [seg_one hx] at q
  rw [Array.toList_push]
  exact q
theorem MPre.appA (m : MPre M rk a b) {out : Array Keyed} (j : J rk a.toList b.toList out.toList ia ib) (hk : ia + k ≤ a.size) (h : ∀ p,ia ≤ p → p < ia + k → ∀ i,ib ≤ i → i < b.size → kv rk a p ≤ kv rk b i) : J rk a.toList b.toList (out ++ a.extract ia (ia + k)).toList (ia + k) ib:=by
  have q:=j.a (k:=k) m.sa (by rw [Array.length_toList]; omega) (fun z hz y hy=>by
    obtain ⟨p,p1,p2,p3,p4,_⟩:=mem_seg (rk:=rk) hz
    obtain ⟨r,r1,r2,r3⟩:=mem_from (rk:=rk) hy
    have:=h p p1 p2 r r1 r2
    omega)
  rw [Array.toList_append,ext_list,Nat.add_sub_cancel_left]
  exact q
theorem MPre.appB (m : MPre M rk a b) {out : Array Keyed} (j : J rk a.toList b.toList out.toList ia ib) (hk : ib + k ≤ b.size) (h : ∀ p,ib ≤ p → p < ib + k → ∀ i,ia ≤ i → i < a.size → kv rk b p ≤ kv rk a i) : J rk a.toList b.toList (out ++ b.extract ib (ib + k)).toList ia (ib + k):=by
  have q:=j.b (k:=k) m.sb (by rw [Array.length_toList]; omega) (fun z hz y hy=>by
    obtain ⟨p,p1,p2,p3,p4,_⟩:=mem_seg (rk:=rk) hz
    obtain ⟨r,r1,r2,r3⟩:=mem_from (rk:=rk) hy
    have:=h p p1 p2 r r1 r2
    omega)
  rw [Array.toList_append,ext_list,Nat.add_sub_cancel_left]
  exact q
def LoR (rk : Keyed → Nat) (a b : Array Keyed) (p : Nat) (st : SortSt) (c : LoC) (st' : SortSt) : Prop:=Gs st st' ∧
  ((∃ r,c.1 = some r ∧ Good rk a.toList b.toList r.toList) ∨ (c.1 = none ∧ J rk a.toList b.toList c.2.1.toList c.2.2.1 c.2.2.2.1 ∧ c.2.2.1 + 1 < a.size ∧ c.2.2.2.1 < b.size ∧ p ≤ c.2.2.1 + c.2.2.2.1))
theorem l3_ok (m : MPre M rk a b) {out : Array Keyed} {g ac bc p : Nat} {st st' : SortSt} {R : ForInStep LoC → SortSt → Prop} (gs : Gs st st') (j : J rk a.toList b.toList out.toList ia ib) (h1 : ia + 1 < a.size) (h2 : ib < b.size) (hp : p ≤ ia + ib)
    (h : ∀ i,ib ≤ i → i < b.size → kv rk a ia ≤ kv rk b i) (d : ∀ c,LoR rk a b p st c st' → R (.done c) st') (y : ∀ c,c.1 = none → LoR rk a b p st c st' → R (.yield c) st') : wpS (model prog w) A E s (l3 a b out ia ib g ac bc) R st':=by
  have ea : a[ia]? = some a[ia]:=Array.getElem?_eq_getElem (by omega)
  refine wpS_bind (elem_at ea ?_)
  have j':=m.pushA j ea h
  by_cases c : ia + 1 + 1 = a.size
  · rw [if_pos (by simpa using c)]
    exact wpS_pure (d _ ⟨gs,.inl ⟨_,rfl,m.last j' c⟩⟩)
  · rw [if_neg (by simpa using c)]
    have on : LoR rk a b p st (none,out.push a[ia],ia + 1,ib,g,ac,bc) st':=⟨gs,.inr ⟨rfl,j',(by show ia + 1 + 1 < a.size; omega),h2,(by show p ≤ ia + 1 + ib; omega)⟩⟩
    split
    · exact wpS_pure (d _ on)
    · exact wpS_pure (y _ rfl on)
theorem l2_ok (hA : Ask prog w A s κ M rk) (m : MPre M rk a b) {out : Array Keyed} {g ac bc p : Nat} {st st' : SortSt} {R : ForInStep LoC → SortSt → Prop} (hk : kindOf st = κ) (gs : Gs st st') (j : J rk a.toList b.toList out.toList ia ib) (h1 : ia + 1 < a.size) (h2 : ib < b.size) (hp : p ≤ ia + ib)
    (h : ∀ i,ia ≤ i → i < a.size → kv rk b ib ≤ kv rk a i) (d : ∀ c,LoR rk a b p st c st' → R (.done c) st') (y : ∀ c,c.1 = none → LoR rk a b p st c st' → R (.yield c) st') : wpS (model prog w) A E s (l2 a b out ia ib g ac bc) R st':=by
  have eb : b[ib]? = some b[ib]:=Array.getElem?_eq_getElem h2
  have ea : a[ia]? = some a[ia]:=Array.getElem?_eq_getElem (by omega)
  refine wpS_bind (elem_at eb ?_)
  have j':=m.pushB j eb h
  by_cases c : ib + 1 = b.size
  · rw [if_pos (by simpa using c)]
    exact wpS_pure (d _ ⟨gs,.inl ⟨_,rfl,m.done j' (.inr c)⟩⟩)
  · rw [if_neg (by simpa using c)]
    refine wpS_bind (elem_at ea (wpS_bind (gallop_ok hA (gs.kind.trans hk) (m.ma _ _ ea) m.mb (by omega) (by omega) (fun i k a1 a2 a3=>up_srt m.sb i k (Nat.zero_le _) a2 (by omega)) fun k k1 k2 k3=>?_)))
    have sA:=up_srt m.sa
    have lt : ∀ i,ib + 1 ≤ i → i < ib + 1 + k → kv rk b i < kv rk a ia:=fun i i1 i2=>by
      have:=k2 i i1 i2
      unfold Bd at this
      rw [if_pos rfl,← kv_of (rk:=rk) ea] at this
      exact this
    have ge : ∀ i,ib + 1 + k ≤ i → i < b.size → kv rk a ia ≤ kv rk b i:=fun i i1 i2=>by
      have:=k3 i i1 (by omega)
      unfold Bd at this
      rw [if_pos rfl,← kv_of (rk:=rk) ea] at this
      omega
    dsimp only
    by_cases k0 : k > 0
    · rw [if_pos k0]
      have j2:=m.appB (k:=k) j' (by omega) (fun p p1 p2 i i1 i2=>by
        have q1:=lt p p1 p2
        have q2:=sA ia i (Nat.zero_le _) i1 i2
        omega)
      by_cases c2 : ib + 1 + k = b.size
      · rw [if_pos (by simpa using c2)]
        exact wpS_pure (d _ ⟨gs,.inl ⟨_,rfl,m.done j2 (.inr c2)⟩⟩)
      · rw [if_neg (by simpa using c2)]
        exact l3_ok m gs j2 h1 (by omega) (by omega) ge d y
    · rw [if_neg k0]
      exact l3_ok m gs j' h1 (by omega) (by omega) (fun i i1 i2=>ge i (by omega) i2) d y
theorem l1_ok (hA : Ask prog w A s κ M rk) (m : MPre M rk a b) {out : Array Keyed} {g ac bc p : Nat} {st st' : SortSt} {R : ForInStep LoC → SortSt → Prop} (hk : kindOf st = κ) (gs : Gs st st') (j : J rk a.toList b.toList out.toList ia ib) (h1 : ia + 1 < a.size) (h2 : ib < b.size) (hp : p ≤ ia + ib)
    (d : ∀ c,LoR rk a b p st c st' → R (.done c) st') (y : ∀ c,c.1 = none → LoR rk a b p st c st' → R (.yield c) st') : wpS (model prog w) A E s (l1 a b out ia ib g ac bc) R st':=by
  have eb : b[ib]? = some b[ib]:=Array.getElem?_eq_getElem h2
  refine wpS_bind (elem_at eb (wpS_bind (gallop_ok hA (gs.kind.trans hk) (m.mb _ _ eb) m.ma (by omega) (by omega) (fun i k a1 a2 a3=>up_srt m.sa i k (Nat.zero_le _) a2 (by omega)) fun k k1 k2 k3=>?_)))
  have sB:=up_srt m.sb
  have le : ∀ i,ia ≤ i → i < ia + k → kv rk a i ≤ kv rk b ib:=fun i i1 i2=>by
    have:=k2 i i1 i2
    unfold Bd at this
    rw [if_neg (by decide),← kv_of (rk:=rk) eb] at this
    exact this
  have gt : ∀ i,ia + k ≤ i → i < a.size → kv rk b ib ≤ kv rk a i:=fun i i1 i2=>by
    have:=k3 i i1 (by omega)
    unfold Bd at this
    rw [if_neg (by decide),← kv_of (rk:=rk) eb] at this
    omega
  dsimp only
  by_cases k0 : k > 0
  · rw [if_pos k0]
    have j2:=m.appA (k:=k) j (by omega) (fun p p1 p2 i i1 i2=>by
      have q1:=le p p1 p2
      have q2:=sB ib i (Nat.zero_le _) i1 i2
      omega)
    by_cases c : ia + k + 1 = a.size
    · rw [if_pos (by simpa using c)]
      exact wpS_pure (d _ ⟨gs,.inl ⟨_,rfl,m.last j2 c⟩⟩)
    rw [if_neg (by simpa using c)]
    by_cases c2 : ia + k = a.size
    · rw [if_pos (by simpa using c2)]
      exact wpS_pure (d _ ⟨gs,.inl ⟨_,rfl,m.done j2 (.inl c2)⟩⟩)
    · rw [if_neg (by simpa using c2)]
      exact l2_ok hA m hk gs j2 (by omega) h2 (by omega) gt d y
  · rw [if_neg k0]
    exact l2_ok hA m hk gs j h1 h2 hp (fun i i1 i2=>gt i (by omega) i2) d y
theorem lo_ok (hA : Ask prog w A s κ M rk) {st : SortSt} {Q : Array Keyed → SortSt → Prop} (hk : kindOf st = κ) (m : MPre M rk a b)
    (q : ∀ r st',Gs st st' → Good rk a.toList b.toList r.toList → Q r st') : wpS (model prog w) A E s (mergeLo' a b) Q st:=by
  refine wpS_bind (wpS_lift (wpAny_rule ⟨rfl,?_⟩))
  have za:=m.za
  have zb:=m.zb
  have eb0 : b[0]? = some b[0]:=Array.getElem?_eq_getElem zb
  have sA:=up_srt m.sa
  have sB:=up_srt m.sb
  have j0 : J rk a.toList b.toList (#[] : Array Keyed).toList 0 0:=⟨Nat.zero_le _,Nat.zero_le _,by simp,List.Pairwise.nil,fun x hx=>by simp at hx,fun x hx=>by simp at hx⟩
  have j1 : J rk a.toList b.toList (#[b[0]] : Array Keyed).toList 0 1:=m.pushB j0 eb0 fun i i1 i2=>Nat.le_trans (Nat.le_of_lt m.fst) (sA 0 i (Nat.zero_le _) i1 i2)
  refine wpS_bind (elem_at eb0 ?_)
  by_cases c1 : 1 = b.size
  · rw [if_pos (by simpa using c1)]
    exact wpS_pure (q _ st (Gs.refl _) (m.done j1 (.inr c1)))
  rw [if_neg (by simpa using c1)]
  by_cases c2 : 0 + 1 = a.size
  · rw [if_pos (by simpa using c2)]
    exact wpS_pure (q _ st (Gs.refl _) (m.last j1 c2))
  rw [if_neg (by simpa using c2)]
  refine wpS_bind (wpS_get ?_)
  refine wpS_bind (wpS_mono (wpS_forRange (I:=fun x c st'=>Gs st st' ∧ c.1 = none ∧ J rk a.toList b.toList c.2.1.toList c.2.2.1 c.2.2.2.1 ∧ c.2.2.1 + 1 < a.size ∧ c.2.2.2.1 < b.size ∧ x + 1 ≤ c.2.2.1 + c.2.2.2.1)
    (Q:=fun c st'=>Gs st st' ∧ ∃ r,c.1 = some r ∧ Good rk a.toList b.toList r.toList) ?step ?fin ⟨Gs.refl _,rfl,j1,by show 0 + 1 < a.size; omega,by show 1 < b.size; omega,Nat.le_refl _⟩) ?post)
  case post =>
    rintro ⟨c,rest⟩ st' ⟨gs,r,e,g⟩
    have e' : c = some r:=e
    subst e'
    exact wpS_pure (q r st' gs g)
  case fin =>
    rintro ⟨c,out,ia,ib,g⟩ st' ⟨gs,e,j,h1,h2,h3⟩
    exfalso
    dsimp only at h1 h2 h3
    omega
  case step =>
    rintro x ⟨c,out,ia,ib,g⟩ st' _ hx ⟨gs,e,j,h1,h2,h3⟩
    dsimp only at e j h1 h2 h3
    subst e
    refine wpS_bind (wpS_mono (wpS_forRange (I:=fun y c st''=>st'' = st' ∧ c.1 = none ∧ J rk a.toList b.toList c.2.1.toList c.2.2.1 c.2.2.2.1 ∧ c.2.2.1 + 1 < a.size ∧ c.2.2.2.1 < b.size ∧ x + 1 + min y 1 ≤ c.2.2.1 + c.2.2.2.1)
      (Q:=fun c st''=>st'' = st' ∧ ((∃ r,c.1 = some r ∧ Good rk a.toList b.toList r.toList) ∨ (c.1 = none ∧ J rk a.toList b.toList c.2.1.toList c.2.2.1 c.2.2.2.1 ∧ c.2.2.1 + 1 < a.size ∧ c.2.2.2.1 < b.size ∧ x + 2 ≤ c.2.2.1 + c.2.2.2.1))) ?step1 ?fin1 ⟨rfl,rfl,j,h1,h2,by show x + 1 + min 0 1 ≤ ia + ib; omega⟩) ?post1)
    case fin1 =>
      rintro ⟨c,out,ia,ib,ac,bc⟩ st'' ⟨e1,e,j,h1,h2,h3⟩
      refine ⟨e1,.inr ⟨e,j,h1,h2,?_⟩⟩
      dsimp only at h3 ⊢
      omega
    case step1 =>
      rintro y ⟨c,out,ia,ib,ac,bc⟩ st'' _ hy ⟨e1,e,j,h1,h2,h3⟩
      subst e1
      dsimp only at e j h1 h2 h3
      subst e
      have eb : b[ib]? = some b[ib]:=Array.getElem?_eq_getElem h2
      have ea : a[ia]? = some a[ia]:=Array.getElem?_eq_getElem (by omega)
      refine wpS_bind (elem_at eb (wpS_bind (elem_at ea (wpS_bind (lt_ask hA (gs.kind.trans hk) (m.mb _ _ eb) (m.ma _ _ ea) ?_)))))
      by_cases c : rk b[ib] < rk a[ia]
      · rw [decide_eq_true c]
        dsimp only
        rw [if_pos rfl]
        refine wpS_bind (elem_at eb ?_)
        have j':=m.pushB j eb fun i i1 i2=>by
          have q1:=sA ia i (Nat.zero_le _) i1 i2
          rw [kv_of ea] at q1
          rw [kv_of eb]
          omega
        by_cases c3 : ib + 1 = b.size
        · rw [if_pos (by simpa using c3)]
          exact wpS_pure ⟨rfl,.inl ⟨_,rfl,m.done j' (.inr c3)⟩⟩
        rw [if_neg (by simpa using c3)]
        split
        · exact wpS_pure ⟨rfl,.inr ⟨rfl,j',h1,by dsimp only; omega,by dsimp only; omega⟩⟩
        · exact wpS_pure ⟨rfl,rfl,j',h1,by dsimp only; omega,by dsimp only; omega⟩
      · rw [decide_eq_false c]
        dsimp only
        rw [if_neg (by decide)]
        refine wpS_bind (elem_at ea ?_)
        have j':=m.pushA j ea fun i i1 i2=>by
          have q1:=sB ib i (Nat.zero_le _) i1 i2
          rw [kv_of eb] at q1
          rw [kv_of ea]
          omega
        by_cases c3 : ia + 1 + 1 = a.size
        · rw [if_pos (by simpa using c3)]
          exact wpS_pure ⟨rfl,.inl ⟨_,rfl,m.last j' c3⟩⟩
        rw [if_neg (by simpa using c3)]
        split
        · exact wpS_pure ⟨rfl,.inr ⟨rfl,j',by dsimp only; omega,h2,by dsimp only; omega⟩⟩
        · exact wpS_pure ⟨rfl,rfl,j',by dsimp only; omega,h2,by dsimp only; omega⟩
    case post1 =>
      rintro ⟨c,out,ia,ib,ac,bc⟩ st'' ⟨e1,h⟩
      subst e1
      rcases h with ⟨r,e,g1⟩ | ⟨e,j,h1,h2,h3⟩
      · have e' : c = some r:=e
        subst e'
        exact wpS_pure ⟨gs,r,rfl,g1⟩
      · dsimp only at e j h1 h2 h3
        subst e
        refine wpS_bind (wpS_lift (wpAny_rule ⟨rfl,?_⟩))
        refine wpS_bind (wpS_mono (wpS_forRange (I:=fun _ c st3=>c.1 = none ∧ LoR rk a b (x + 2) st c st3) (Q:=fun c st3=>LoR rk a b (x + 2) st c st3) ?step2 ?fin2 ⟨rfl,gs,.inr ⟨rfl,j,h1,h2,h3⟩⟩) ?post2)
        case fin2 =>
          rintro c st3 ⟨_,hc⟩
          exact hc
        case step2 =>
          rintro y ⟨c,out,ia,ib,g2,ac,bc⟩ st3 _ hy ⟨e,gs3,hc⟩
          have e' : c = none:=e
          subst e'
          rcases hc with ⟨r,er,_⟩ | ⟨_,j,h1,h2,h3⟩
          · cases er
          dsimp only at j h1 h2 h3
          refine wpS_ite (fun _=>?_) (fun _=>?_)
          · refine wpS_bind (wpS_modify ?_)
            exact l1_ok hA m hk (gs3.trans (gs_set st3 (g2 - 1))) j h1 h2 h3 (fun c hc=>hc) (fun c e hc=>⟨e,hc⟩)
          · refine wpS_bind (wpS_modify ?_)
            exact l1_ok hA m hk (gs3.trans (gs_set st3 g2)) j h1 h2 h3 (fun c hc=>hc) (fun c e hc=>⟨e,hc⟩)
        case post2 =>
          rintro ⟨c,out,ia,ib,g2,ac,bc⟩ st3 ⟨gs3,hc⟩
          rcases hc with ⟨r,er,g3⟩ | ⟨er,j,h1,h2,h3⟩
          · have e' : c = some r:=er
            subst e'
            exact wpS_pure ⟨gs3,r,rfl,g3⟩
          · have e' : c = none:=er
            subst e'
            dsimp only at j h1 h2 h3 ⊢
            refine wpS_bind (wpS_modify (wpS_pure ⟨gs3.trans (gs_set st3 (g2 + 1)),rfl,j,h1,h2,by dsimp only; omega⟩))
end
end L2.Ts
namespace L2.Ts
open PySem PyProof.Rows
section
variable {rk : Keyed → Nat} {na nb k : Nat} {prog : Program} {w : World} {A : Around} {E : Value → Shared → Prop} {s : Shared} {κ : SortKind} {M : Keyed → Prop}
abbrev HiC:=Option (Array Keyed) × Nat × Nat × Array Keyed × Nat × Nat × Nat
def r3 (a b : Array Keyed) (out : Array Keyed) (na nb g ac bc : Nat) : StateT SortSt Sem (ForInStep HiC):=do
  let x ← elem' a (na - 1)
  if (na - 1 == 0) = true then pure (.done (some (a.extract 0 (na - 1) ++ b.extract 0 nb ++ (out.push x).reverse),na - 1,nb,out.push x,g,ac,bc))
  else if (decide (ac < 7) && decide (bc < 7)) = true then pure (.done (none,na - 1,nb,out.push x,g,ac,bc))
  else pure (.yield (none,na - 1,nb,out.push x,g,ac,bc))
def r2 (a b : Array Keyed) (out : Array Keyed) (na nb g ac bc0 : Nat) : StateT SortSt Sem (ForInStep HiC):=do
  let x ← elem' b (nb - 1)
  if (nb - 1 == 1) = true then pure (.done (some (b.extract 0 (nb - 1) ++ a.extract 0 na ++ (out.push x).reverse),na,nb - 1,out.push x,g,ac,bc0))
  else do
    let y ← elem' a (na - 1)
    let r ← gallop' true y b 0 (nb - 1) (nb - 1 - 1)
    match r with
    | some p =>
      if nb - 1 - p > 0 then
        if (p == 1) = true then pure (.done (some (b.extract 0 p ++ a.extract 0 na ++ (out.push x ++ (b.extract p (nb - 1)).reverse).reverse),na,p,out.push x ++ (b.extract p (nb - 1)).reverse,g,ac,nb - 1 - p))
        else if (p == 0) = true then pure (.done (some (a.extract 0 na ++ b.extract 0 p ++ (out.push x ++ (b.extract p (nb - 1)).reverse).reverse),na,p,out.push x ++ (b.extract p (nb - 1)).reverse,g,ac,nb - 1 - p))
        else r3 a b (out.push x ++ (b.extract p (nb - 1)).reverse) na p g ac (nb - 1 - p)
      else r3 a b (out.push x) na (nb - 1) g ac (nb - 1 - p)
    | _=>pure (.done (some (a.extract 0 na ++ b.extract 0 (nb - 1) ++ (out.push x).reverse),na,nb - 1,out.push x,g,ac,bc0))
def r1 (a b : Array Keyed) (out : Array Keyed) (na nb g ac0 bc0 : Nat) : StateT SortSt Sem (ForInStep HiC):=do
  let y ← elem' b (nb - 1)
  let r ← gallop' false y a 0 na (na - 1)
  match r with
  | some p =>
    if na - p > 0 then
      if (p == 0) = true then pure (.done (some (a.extract 0 p ++ b.extract 0 nb ++ (out ++ (a.extract p na).reverse).reverse),p,nb,out ++ (a.extract p na).reverse,g,na - p,bc0))
      else r2 a b (out ++ (a.extract p na).reverse) p nb g (na - p) bc0
    else r2 a b out na nb g (na - p) bc0
  | _=>pure (.done (some (a.extract 0 na ++ b.extract 0 nb ++ out.reverse),na,nb,out,g,ac0,bc0))
variable {a b : Array Keyed}
theorem MPre.done2 (m : MPre M rk a b) {out : Array Keyed} (j : J2 rk a.toList b.toList out.toList.reverse na nb) (h : na = 0 ∨ nb = 0) : Good rk a.toList b.toList (a.extract 0 na ++ b.extract 0 nb ++ out.reverse).toList:=by
  rw [Array.toList_append,Array.toList_append,ext_to,ext_to,Array.toList_reverse]
  exact j.done m.sa m.sb h
theorem MPre.first2 (m : MPre M rk a b) {out : Array Keyed} (j : J2 rk a.toList b.toList out.toList.reverse na nb) (h : nb = 1) : Good rk a.toList b.toList (b.extract 0 nb ++ a.extract 0 na ++ out.reverse).toList:=by
  rw [Array.toList_append,Array.toList_append,ext_to,ext_to,Array.toList_reverse]
  refine j.first m.sa m.sb fun y hy x hx=>?_
  obtain ⟨p,p1,p2,p3⟩:=mem_to (rk:=rk) hy
  obtain ⟨r,r1,r2,r3⟩:=mem_from (rk:=rk) (i:=0) (by rw [List.drop_zero]; exact hx)
  have e : p = 0:=by omega
  have:=m.fst
  have:=up_srt m.sa 0 r (Nat.le_refl _) (Nat.zero_le _) r2
  rw [e] at p3
  omega
theorem MPre.pushA2 (m : MPre M rk a b) {out : Array Keyed} {x : Keyed} (j : J2 rk a.toList b.toList out.toList.reverse na nb) (h1 : 0 < na) (hx : a[na - 1]? = some x) (h : ∀ i,i < nb → i < b.size → kv rk b i ≤ kv rk a (na - 1)) : J2 rk a.toList b.toList (out.push x).toList.reverse (na - 1) nb:=by
  have e : na - 1 + 1 = na:=by omega
  rw [← e] at j
  have q:=j.a (k:=1) m.sa (fun z hz y hy=>by
    rw [seg_one hx] at hz
    rw [List.mem_singleton.mp hz]
    obtain ⟨r,r1,r2,r3⟩:=mem_to (rk:=rk) hy
    have:=h r r1 r2
    rw [kv_of hx] at this
    omega)
  rw [seg_one hx] at q
  rw [Array.toList_push,List.reverse_append]
  exact q
theorem MPre.pushB2 (m : MPre M rk a b) {out : Array Keyed} {x : Keyed} (j : J2 rk a.toList b.toList out.toList.reverse na nb) (h1 : 0 < nb) (hx : b[nb - 1]? = some x) (h : ∀ i,i < na → i < a.size → kv rk a i ≤ kv rk b (nb - 1)) : J2 rk a.toList b.toList (out.push x).toList.reverse na (nb - 1):=by
  have e : nb - 1 + 1 = nb:=by omega
  rw [← e] at j
  have q:=j.b (k:=1) m.sb (fun z hz y hy=>by
    rw [seg_one hx] at hz
    rw [List.mem_singleton.mp hz]
    obtain ⟨r,r1,r2,r3⟩:=mem_to (rk:=rk) hy
    have:=h r r1 r2
    rw [kv_of hx] at this
    omega)
  rw [seg_one hx] at q
  rw [Array.toList_push,List.reverse_append]
  exact q
theorem MPre.appA2 (m : MPre M rk a b) {out : Array Keyed} {p : Nat} (j : J2 rk a.toList b.toList out.toList.reverse na nb) (hp : p ≤ na) (h : ∀ r,p ≤ r → r < na → ∀ i,i < nb → i < b.size → kv rk b i ≤ kv rk a r) : J2 rk a.toList b.toList (out ++ (a.extract p na).reverse).toList.reverse p nb:=by
  have e : p + (na - p) = na:=by omega
  rw [← e] at j
  have q:=j.a (k:=na - p) m.sa (fun z hz y hy=>by
    obtain ⟨r,r1,r2,r3,r4,_⟩:=mem_seg (rk:=rk) hz
    obtain ⟨i,i1,i2,i3⟩:=mem_to (rk:=rk) hy
    have:=h r r1 (by omega) i i1 i2
    omega)
  rw [Array.toList_append,Array.toList_reverse,List.reverse_append,List.reverse_reverse,ext_list]
  exact q
theorem MPre.appB2 (m : MPre M rk a b) {out : Array Keyed} {p : Nat} (j : J2 rk a.toList b.toList out.toList.reverse na nb) (hp : p ≤ nb) (h : ∀ r,p ≤ r → r < nb → ∀ i,i < na → i < a.size → kv rk a i ≤ kv rk b r) : J2 rk a.toList b.toList (out ++ (b.extract p nb).reverse).toList.reverse na p:=by
  have e : p + (nb - p) = nb:=by omega
  rw [← e] at j
  have q:=j.b (k:=nb - p) m.sb (fun z hz y hy=>by
    obtain ⟨r,r1,r2,r3,r4,_⟩:=mem_seg (rk:=rk) hz
    obtain ⟨i,i1,i2,i3⟩:=mem_to (rk:=rk) hy
    have:=h r r1 (by omega) i i1 i2
    omega)
  rw [Array.toList_append,Array.toList_reverse,List.reverse_append,List.reverse_reverse,ext_list]
  exact q
def HiR (rk : Keyed → Nat) (a b : Array Keyed) (p : Nat) (st : SortSt) (c : HiC) (st' : SortSt) : Prop:=Gs st st' ∧
  ((∃ r,c.1 = some r ∧ Good rk a.toList b.toList r.toList) ∨ (c.1 = none ∧ J2 rk a.toList b.toList c.2.2.2.1.toList.reverse c.2.1 c.2.2.1 ∧ 1 ≤ c.2.1 ∧ 2 ≤ c.2.2.1 ∧ p + c.2.1 + c.2.2.1 ≤ a.size + b.size))
theorem J2.za (j : J2 rk a.toList b.toList o na nb) : na ≤ a.size:=by have:=j.ha; rwa [Array.length_toList] at this
theorem J2.zb (j : J2 rk a.toList b.toList o na nb) : nb ≤ b.size:=by have:=j.hb; rwa [Array.length_toList] at this
theorem r3_ok (m : MPre M rk a b) {out : Array Keyed} {g ac bc p : Nat} {st st' : SortSt} {R : ForInStep HiC → SortSt → Prop} (gs : Gs st st') (j : J2 rk a.toList b.toList out.toList.reverse na nb) (h1 : 1 ≤ na) (h2 : 2 ≤ nb) (hp : p + na + nb ≤ a.size + b.size)
    (h : ∀ i,i < nb → i < b.size → kv rk b i ≤ kv rk a (na - 1)) (d : ∀ c,HiR rk a b p st c st' → R (.done c) st') (y : ∀ c,c.1 = none → HiR rk a b p st c st' → R (.yield c) st') : wpS (model prog w) A E s (r3 a b out na nb g ac bc) R st':=by
  have z:=j.za
  have ea : a[na - 1]? = some a[na - 1]:=Array.getElem?_eq_getElem (by omega)
  refine wpS_bind (elem_at ea ?_)
  have j':=m.pushA2 j h1 ea h
  by_cases c : na - 1 = 0
  · rw [if_pos (by simpa using c)]
    exact wpS_pure (d _ ⟨gs,.inl ⟨_,rfl,m.done2 j' (.inl c)⟩⟩)
  · rw [if_neg (by simpa using c)]
    have on : HiR rk a b p st (none,na - 1,nb,out.push a[na - 1],g,ac,bc) st':=⟨gs,.inr ⟨rfl,j',(by show 1 ≤ na - 1; omega),h2,(by show p + (na - 1) + nb ≤ a.size + b.size; omega)⟩⟩
    split
    · exact wpS_pure (d _ on)
    · exact wpS_pure (y _ rfl on)
theorem r2_ok (hA : Ask prog w A s κ M rk) (m : MPre M rk a b) {out : Array Keyed} {g ac bc p : Nat} {st st' : SortSt} {R : ForInStep HiC → SortSt → Prop} (hk : kindOf st = κ) (gs : Gs st st') (j : J2 rk a.toList b.toList out.toList.reverse na nb) (h1 : 1 ≤ na) (h2 : 2 ≤ nb) (hp : p + na + nb ≤ a.size + b.size)
    (h : ∀ i,i < na → i < a.size → kv rk a i ≤ kv rk b (nb - 1)) (d : ∀ c,HiR rk a b p st c st' → R (.done c) st') (y : ∀ c,c.1 = none → HiR rk a b p st c st' → R (.yield c) st') : wpS (model prog w) A E s (r2 a b out na nb g ac bc) R st':=by
  have z:=j.za
  have z2:=j.zb
  have ea : a[na - 1]? = some a[na - 1]:=Array.getElem?_eq_getElem (by omega)
  have eb : b[nb - 1]? = some b[nb - 1]:=Array.getElem?_eq_getElem (by omega)
  refine wpS_bind (elem_at eb ?_)
  have j':=m.pushB2 j (by omega) eb h
  by_cases c : nb - 1 = 1
  · rw [if_pos (by simpa using c)]
    exact wpS_pure (d _ ⟨gs,.inl ⟨_,rfl,m.first2 j' c⟩⟩)
  · rw [if_neg (by simpa using c)]
    refine wpS_bind (elem_at ea (wpS_bind (gallop_ok hA (gs.kind.trans hk) (m.ma _ _ ea) m.mb (by omega) (by omega) (fun i k a1 a2 a3=>up_srt m.sb i k (Nat.zero_le _) a2 (by omega)) fun r k1 k2 k3=>?_)))
    have sA:=up_srt m.sa
    have lt : ∀ i,i < r → kv rk b i < kv rk a (na - 1):=fun i i2=>by
      have:=k2 i (Nat.zero_le _) (by omega)
      unfold Bd at this
      rw [if_pos rfl,← kv_of (rk:=rk) ea] at this
      exact this
    have ge : ∀ i,r ≤ i → i < nb - 1 → kv rk a (na - 1) ≤ kv rk b i:=fun i i1 i2=>by
      have:=k3 i (by omega) (by omega)
      unfold Bd at this
      rw [if_pos rfl,← kv_of (rk:=rk) ea] at this
      omega
    dsimp only
    by_cases k0 : nb - 1 - r > 0
    · rw [if_pos k0]
      have j2:=m.appB2 (p:=r) j' (by omega) (fun q q1 q2 i i1 i2=>by
        have e1:=ge q q1 q2
        have e2:=sA i (na - 1) (Nat.zero_le _) (by omega) (by omega)
        omega)
      by_cases c2 : r = 1
      · rw [if_pos (by simpa using c2)]
        exact wpS_pure (d _ ⟨gs,.inl ⟨_,rfl,m.first2 j2 c2⟩⟩)
      rw [if_neg (by simpa using c2)]
      by_cases c3 : r = 0
      · rw [if_pos (by simpa using c3)]
        exact wpS_pure (d _ ⟨gs,.inl ⟨_,rfl,m.done2 j2 (.inr c3)⟩⟩)
      · rw [if_neg (by simpa using c3)]
        exact r3_ok m gs j2 h1 (by omega) (by omega) (fun i i1 i2=>Nat.le_of_lt (lt i i1)) d y
    · rw [if_neg k0]
      exact r3_ok m gs j' h1 (by omega) (by omega) (fun i i1 i2=>Nat.le_of_lt (lt i (by omega))) d y
theorem r1_ok (hA : Ask prog w A s κ M rk) (m : MPre M rk a b) {out : Array Keyed} {g ac bc p : Nat} {st st' : SortSt} {R : ForInStep HiC → SortSt → Prop} (hk : kindOf st = κ) (gs : Gs st st') (j : J2 rk a.toList b.toList out.toList.reverse na nb) (h1 : 1 ≤ na) (h2 : 2 ≤ nb) (hp : p + na + nb ≤ a.size + b.size)
    (d : ∀ c,HiR rk a b p st c st' → R (.done c) st') (y : ∀ c,c.1 = none → HiR rk a b p st c st' → R (.yield c) st') : wpS (model prog w) A E s (r1 a b out na nb g ac bc) R st':=by
  have z:=j.za
  have z2:=j.zb
  have eb : b[nb - 1]? = some b[nb - 1]:=Array.getElem?_eq_getElem (by omega)
  refine wpS_bind (elem_at eb (wpS_bind (gallop_ok hA (gs.kind.trans hk) (m.mb _ _ eb) m.ma (by omega) (by omega) (fun i k a1 a2 a3=>up_srt m.sa i k (Nat.zero_le _) a2 (by omega)) fun r k1 k2 k3=>?_)))
  have sB:=up_srt m.sb
  have le : ∀ i,i < r → kv rk a i ≤ kv rk b (nb - 1):=fun i i2=>by
    have:=k2 i (Nat.zero_le _) (by omega)
    unfold Bd at this
    rw [if_neg (by decide),← kv_of (rk:=rk) eb] at this
    exact this
  have gt : ∀ i,r ≤ i → i < na → kv rk b (nb - 1) ≤ kv rk a i:=fun i i1 i2=>by
    have:=k3 i (by omega) (by omega)
    unfold Bd at this
    rw [if_neg (by decide),← kv_of (rk:=rk) eb] at this
    omega
  dsimp only
  by_cases k0 : na - r > 0
  · rw [if_pos k0]
    have j2:=m.appA2 (p:=r) j (by omega) (fun q q1 q2 i i1 i2=>by
      have e1:=gt q q1 q2
      have e2:=sB i (nb - 1) (Nat.zero_le _) (by omega) (by omega)
      omega)
    by_cases c : r = 0
    · rw [if_pos (by simpa using c)]
      exact wpS_pure (d _ ⟨gs,.inl ⟨_,rfl,m.done2 j2 (.inl c)⟩⟩)
    · rw [if_neg (by simpa using c)]
      exact r2_ok hA m hk gs j2 (by omega) h2 (by omega) (fun i i1 i2=>le i i1) d y
  · rw [if_neg k0]
    exact r2_ok hA m hk gs j h1 h2 hp (fun i i1 i2=>le i (by omega)) d y
theorem hi_ok (hA : Ask prog w A s κ M rk) {st : SortSt} {Q : Array Keyed → SortSt → Prop} (hk : kindOf st = κ) (m : MPre M rk a b)
    (q : ∀ r st',Gs st st' → Good rk a.toList b.toList r.toList → Q r st') : wpS (model prog w) A E s (mergeHi' a b) Q st:=by
  refine wpS_bind (wpS_lift (wpAny_rule ⟨rfl,?_⟩))
  have za:=m.za
  have zb:=m.zb
  have ea0 : a[a.size - 1]? = some a[a.size - 1]:=Array.getElem?_eq_getElem (by omega)
  have sA:=up_srt m.sa
  have sB:=up_srt m.sb
  have j0 : J2 rk a.toList b.toList (#[] : Array Keyed).toList.reverse a.size b.size:=⟨by rw [Array.length_toList]; exact Nat.le_refl _,by rw [Array.length_toList]; exact Nat.le_refl _,by simp [List.drop_of_length_le],List.Pairwise.nil,fun x hx y hy=>by simp at hy,fun x hx y hy=>by simp at hy⟩
  have j1 : J2 rk a.toList b.toList (#[a[a.size - 1]] : Array Keyed).toList.reverse (a.size - 1) b.size:=m.pushA2 j0 za ea0 fun i i1 i2=>Nat.le_of_lt (m.lst i i2)
  refine wpS_bind (elem_at ea0 ?_)
  by_cases c1 : a.size - 1 = 0
  · rw [if_pos (by simpa using c1)]
    exact wpS_pure (q _ st (Gs.refl _) (m.done2 j1 (.inl c1)))
  rw [if_neg (by simpa using c1)]
  by_cases c2 : b.size = 1
  · rw [if_pos (by simpa using c2)]
    exact wpS_pure (q _ st (Gs.refl _) (m.first2 j1 c2))
  rw [if_neg (by simpa using c2)]
  refine wpS_bind (wpS_get ?_)
  refine wpS_bind (wpS_mono (wpS_forRange (I:=fun x c st'=>Gs st st' ∧ c.1 = none ∧ J2 rk a.toList b.toList c.2.2.2.1.toList.reverse c.2.1 c.2.2.1 ∧ 1 ≤ c.2.1 ∧ 2 ≤ c.2.2.1 ∧ x + 1 + c.2.1 + c.2.2.1 ≤ a.size + b.size)
    (Q:=fun c st'=>Gs st st' ∧ ∃ r,c.1 = some r ∧ Good rk a.toList b.toList r.toList) ?step ?fin ⟨Gs.refl _,rfl,j1,by show 1 ≤ a.size - 1; omega,by show 2 ≤ b.size; omega,by show 0 + 1 + (a.size - 1) + b.size ≤ a.size + b.size; omega⟩) ?post)
  case post =>
    rintro ⟨c,rest⟩ st' ⟨gs,r,e,g⟩
    have e' : c = some r:=e
    subst e'
    exact wpS_pure (q r st' gs g)
  case fin =>
    rintro ⟨c,na,nb,out,g⟩ st' ⟨gs,e,j,h1,h2,h3⟩
    exfalso
    dsimp only at h1 h2 h3
    omega
  case step =>
    rintro x ⟨c,na,nb,out,g⟩ st' _ hx ⟨gs,e,j,h1,h2,h3⟩
    dsimp only at e j h1 h2 h3
    subst e
    refine wpS_bind (wpS_mono (wpS_forRange (I:=fun y c st''=>st'' = st' ∧ c.1 = none ∧ J2 rk a.toList b.toList c.2.2.2.1.toList.reverse c.2.1 c.2.2.1 ∧ 1 ≤ c.2.1 ∧ 2 ≤ c.2.2.1 ∧ x + 1 + min y 1 + c.2.1 + c.2.2.1 ≤ a.size + b.size)
      (Q:=fun c st''=>st'' = st' ∧ ((∃ r,c.1 = some r ∧ Good rk a.toList b.toList r.toList) ∨ (c.1 = none ∧ J2 rk a.toList b.toList c.2.2.2.1.toList.reverse c.2.1 c.2.2.1 ∧ 1 ≤ c.2.1 ∧ 2 ≤ c.2.2.1 ∧ x + 2 + c.2.1 + c.2.2.1 ≤ a.size + b.size))) ?step1 ?fin1 ⟨rfl,rfl,j,h1,h2,by show x + 1 + min 0 1 + na + nb ≤ a.size + b.size; omega⟩) ?post1)
    case fin1 =>
      rintro ⟨c,na,nb,out,ac,bc⟩ st'' ⟨e1,e,j,h1,h2,h3⟩
      refine ⟨e1,.inr ⟨e,j,h1,h2,?_⟩⟩
      dsimp only at h3 ⊢
      omega
    case step1 =>
      rintro y ⟨c,na,nb,out,ac,bc⟩ st'' _ hy ⟨e1,e,j,h1,h2,h3⟩
      subst e1
      dsimp only at e j h1 h2 h3
      subst e
      have z:=j.za
      have z2:=j.zb
      have eb : b[nb - 1]? = some b[nb - 1]:=Array.getElem?_eq_getElem (by omega)
      have ea : a[na - 1]? = some a[na - 1]:=Array.getElem?_eq_getElem (by omega)
      refine wpS_bind (elem_at eb (wpS_bind (elem_at ea (wpS_bind (lt_ask hA (gs.kind.trans hk) (m.mb _ _ eb) (m.ma _ _ ea) ?_)))))
      by_cases c : rk b[nb - 1] < rk a[na - 1]
      · rw [decide_eq_true c]
        dsimp only
        rw [if_pos rfl]
        refine wpS_bind (elem_at ea ?_)
        have j':=m.pushA2 j h1 ea fun i i1 i2=>by
          have q1:=sB i (nb - 1) (Nat.zero_le _) (by omega) (by omega)
          rw [kv_of eb] at q1
          rw [kv_of ea]
          omega
        by_cases c3 : na - 1 = 0
        · rw [if_pos (by simpa using c3)]
          exact wpS_pure ⟨rfl,.inl ⟨_,rfl,m.done2 j' (.inl c3)⟩⟩
        rw [if_neg (by simpa using c3)]
        split
        · exact wpS_pure ⟨rfl,.inr ⟨rfl,j',by dsimp only; omega,h2,by dsimp only; omega⟩⟩
        · exact wpS_pure ⟨rfl,rfl,j',by dsimp only; omega,h2,by dsimp only; omega⟩
      · rw [decide_eq_false c]
        dsimp only
        rw [if_neg (by decide)]
        refine wpS_bind (elem_at eb ?_)
        have j':=m.pushB2 j (by omega) eb fun i i1 i2=>by
          have q1:=sA i (na - 1) (Nat.zero_le _) (by omega) (by omega)
          rw [kv_of ea] at q1
          rw [kv_of eb]
          omega
        by_cases c3 : nb - 1 = 1
        · rw [if_pos (by simpa using c3)]
          exact wpS_pure ⟨rfl,.inl ⟨_,rfl,m.first2 j' c3⟩⟩
        rw [if_neg (by simpa using c3)]
        split
        · exact wpS_pure ⟨rfl,.inr ⟨rfl,j',h1,by dsimp only; omega,by dsimp only; omega⟩⟩
        · exact wpS_pure ⟨rfl,rfl,j',h1,by dsimp only; omega,by dsimp only; omega⟩
    case post1 =>
      rintro ⟨c,na,nb,out,ac,bc⟩ st'' ⟨e1,h⟩
      subst e1
      rcases h with ⟨r,e,g1⟩ | ⟨e,j,h1,h2,h3⟩
      · have e' : c = some r:=e
        subst e'
        exact wpS_pure ⟨gs,r,rfl,g1⟩
      · dsimp only at e j h1 h2 h3
        subst e
        refine wpS_bind (wpS_lift (wpAny_rule ⟨rfl,?_⟩))
        refine wpS_bind (wpS_mono (wpS_forRange (I:=fun _ c st3=>c.1 = none ∧ HiR rk a b (x + 2) st c st3) (Q:=fun c st3=>HiR rk a b (x + 2) st c st3) ?step2 ?fin2 ⟨rfl,gs,.inr ⟨rfl,j,h1,h2,h3⟩⟩) ?post2)
        case fin2 =>
          rintro c st3 ⟨_,hc⟩
          exact hc
        case step2 =>
          rintro y ⟨c,na,nb,out,g2,ac,bc⟩ st3 _ hy ⟨e,gs3,hc⟩
          have e' : c = none:=e
          subst e'
          rcases hc with ⟨r,er,_⟩ | ⟨_,j,h1,h2,h3⟩
          · cases er
          dsimp only at j h1 h2 h3
          refine wpS_ite (fun _=>?_) (fun _=>?_)
          · refine wpS_bind (wpS_modify ?_)
            exact r1_ok hA m hk (gs3.trans (gs_set st3 (g2 - 1))) j h1 h2 h3 (fun c hc=>hc) (fun c e hc=>⟨e,hc⟩)
          · refine wpS_bind (wpS_modify ?_)
            exact r1_ok hA m hk (gs3.trans (gs_set st3 g2)) j h1 h2 h3 (fun c hc=>hc) (fun c e hc=>⟨e,hc⟩)
        case post2 =>
          rintro ⟨c,na,nb,out,g2,ac,bc⟩ st3 ⟨gs3,hc⟩
          rcases hc with ⟨r,er,g3⟩ | ⟨er,j,h1,h2,h3⟩
          · have e' : c = some r:=er
            subst e'
            exact wpS_pure ⟨gs3,r,rfl,g3⟩
          · have e' : c = none:=er
            subst e'
            dsimp only at j h1 h2 h3 ⊢
            refine wpS_bind (wpS_modify (wpS_pure ⟨gs3.trans (gs_set st3 (g2 + 1)),rfl,j,h1,h2,by dsimp only; omega⟩))
end
end L2.Ts
namespace L2.Ts
open PySem PyProof.Rows
abbrev Run:=Nat × Nat × Nat
theorem set_erase {α : Type} {L R : List α} {x y z : α} {p : Array α} (hp : p.toList = L ++ x :: y :: R) : ((p.setIfInBounds L.length z).eraseIdxIfInBounds (L.length + 1)).toList = L ++ z :: R:=by
  have hz : p.size = L.length + 2 + R.length:=by rw [← Array.length_toList,hp]; simp; omega
  rw [Array.eraseIdxIfInBounds]
  rw [dif_pos (by rw [Array.size_setIfInBounds]; omega),Array.toList_eraseIdx,Array.toList_setIfInBounds,hp]
  rw [List.set_append_right _ _ (Nat.le_refl _),Nat.sub_self,List.set_cons_zero,List.eraseIdx_append_of_length_le (by omega),show L.length + 1 - L.length = 1 by omega]
  rfl
theorem write_at (o : Nat) : ∀ (l : List Keyed) (n : Nat) (xs : Array Keyed),o + n + l.length ≤ xs.size → ∀ k : Nat,
    ((l.zipIdx n).foldl (fun a (x : Keyed × Nat)=>a.setIfInBounds (o + x.2) x.1) xs)[k]? = if o + n ≤ k ∧ k < o + n + l.length then l[k - (o + n)]? else xs[k]?
  | [],n,xs,_,k=>by
    rw [if_neg (by simp)]; rfl
  | x :: l,n,xs,h,k=>by
    rw [List.length_cons] at h
    rw [List.zipIdx_cons,List.foldl_cons,write_at o l (n + 1) _ (by rw [Array.size_setIfInBounds]; omega) k,List.length_cons]
    by_cases c : o + (n + 1) ≤ k ∧ k < o + (n + 1) + l.length
    · rw [if_pos c,if_pos (by omega),show k - (o + n) = (k - (o + (n + 1))) + 1 by omega,List.getElem?_cons_succ]
    · rw [if_neg c]
      by_cases c2 : k = o + n
      · subst c2
        rw [if_pos (by omega),Nat.sub_self,List.getElem?_cons_zero,Array.getElem?_setIfInBounds_self_of_lt (by omega)]
      · rw [if_neg (by omega),Array.getElem?_setIfInBounds_ne (by omega)]
theorem kv_ext {rk : Keyed → Nat} {xs : Array Keyed} {i j m : Nat} (h : i + m < j) : kv rk (xs.extract i j) m = kv rk xs (i + m):=by
  refine kv_same ?_
  rw [Array.getElem?_extract]
  by_cases c : m < min j xs.size - i
  · rw [if_pos c]
  · rw [if_neg c,Array.getElem?_eq_none (by omega)]
theorem wpS_set {σ : Type} {M : Model} {A : Around} {E : Value → Shared → Prop} {s : Shared} {x : σ} {Q : PUnit → σ → Prop} {st : σ} (h : Q ⟨⟩ x) : wpS M A E s (set x : StateT σ Sem PUnit) Q st:=by
  unfold wpS
  rw [StateT.run_set]
  exact wpAny_pure ⟨rfl,h⟩
section
variable {rk : Keyed → Nat} {prog : Program} {w : World} {A : Around} {E : Value → Shared → Prop} {s : Shared} {κ : SortKind} {M : Keyed → Prop}
theorem at_ok (h : Ask prog w A s κ M rk) {st : SortSt} {Q : Bool → SortSt → Prop} (hk : kindOf st = κ) (ha : All M (arrOf st)) (hf : failedOf st = none) {L R : List Run} {sa na pa sb nb pb : Nat} (hp : (pendingOf st).toList = L ++ (sa,na,pa) :: (sb,nb,pb) :: R)
    (e : sb = sa + na) (h1 : 1 ≤ na) (h2 : 1 ≤ nb) (hz : sb + nb ≤ (arrOf st).size) (s1 : Srt rk (arrOf st) sa (sa + na)) (s2 : Srt rk (arrOf st) sb (sb + nb))
    (q : ∀ st',kindOf st' = κ → failedOf st' = none → (pendingOf st').toList = L ++ (sa,na + nb,pa) :: R → (arrOf st').Perm (arrOf st) → (∀ k : Nat,k < sa ∨ sa + na + nb ≤ k → (arrOf st')[k]? = (arrOf st)[k]?) → Srt rk (arrOf st') sa (sa + (na + nb)) → Q true st') :
    wpS (model prog w) A E s (mergeAt' L.length) Q st:=by
  subst e
  have g0 : (pendingOf st)[L.length]? = some (sa,na,pa):=by rw [← Array.getElem?_toList,hp]; simp
  have g1 : (pendingOf st)[L.length + 1]? = some (sa + na,nb,pb):=by rw [← Array.getElem?_toList,hp]; simp
  have er:=set_erase (z:=(sa,na + nb,pa)) hp
  refine wpS_bind (wpS_get ?_)
  rw [g0,g1]
  dsimp only
  refine wpS_bind (wpS_set ?_)
  have eb : (arrOf st)[sa + na]? = some (arrOf st)[sa + na]:=Array.getElem?_eq_getElem (by omega)
  refine wpS_bind (elem_at eb (wpS_bind (gallop_ok h (arr:=arrOf st) (st:=SortSt.mk' (kindOf st) (arrOf st) _ (gallopOf st) (failedOf st)) hk (ha _ _ eb) ha (by omega) (by omega) s1 fun k k1 k2 k3=>?_)))
  have a1 : ∀ i,sa ≤ i → i < sa + k → kv rk (arrOf st) i ≤ kv rk (arrOf st) (sa + na):=fun i i1 i2=>by
    have:=k2 i i1 i2
    unfold Bd at this
    rw [if_neg (by decide),← kv_of (rk:=rk) eb] at this
    exact this
  have a2 : ∀ i,sa + k ≤ i → i < sa + na → kv rk (arrOf st) (sa + na) < kv rk (arrOf st) i:=fun i i1 i2=>by
    have:=k3 i i1 (by omega)
    unfold Bd at this
    rw [if_neg (by decide),← kv_of (rk:=rk) eb] at this
    omega
  dsimp only
  by_cases c1 : na - k = 0
  · rw [if_pos (by simpa using c1)]
    refine wpS_pure (q _ hk hf er (Array.Perm.refl _) (fun _ _=>rfl) fun i j i1 ij j1=>?_)
    show kv rk (arrOf st) i ≤ kv rk (arrOf st) j
    by_cases cj : j < sa + na
    · exact s1 i j i1 ij cj
    · by_cases ci : i < sa + na
      · have b1:=a1 i i1 (by omega)
        have b2:=s2 (sa + na) j (Nat.le_refl _) (by omega) (by omega)
        omega
      · exact s2 i j (by omega) ij (by omega)
  rw [if_neg (by simpa using c1)]
  have el : (arrOf st)[sa + k + (na - k) - 1]? = some (arrOf st)[sa + k + (na - k) - 1]:=Array.getElem?_eq_getElem (by omega)
  refine wpS_bind (elem_at el (wpS_bind (gallop_ok h (arr:=arrOf st) (st:=SortSt.mk' (kindOf st) (arrOf st) _ (gallopOf st) (failedOf st)) hk (ha _ _ el) ha (by omega) (by omega) s2 fun n n1 n2 n3=>?_)))
  have b1 : ∀ i,sa + na ≤ i → i < sa + na + n → kv rk (arrOf st) i < kv rk (arrOf st) (sa + na - 1):=fun i i1 i2=>by
    have:=n2 i i1 i2
    unfold Bd at this
    rw [if_pos rfl,← kv_of (rk:=rk) el,show sa + k + (na - k) - 1 = sa + na - 1 by omega] at this
    exact this
  have b2 : ∀ i,sa + na + n ≤ i → i < sa + na + nb → kv rk (arrOf st) (sa + na - 1) ≤ kv rk (arrOf st) i:=fun i i1 i2=>by
    have:=n3 i i1 i2
    unfold Bd at this
    rw [if_pos rfl,← kv_of (rk:=rk) el,show sa + k + (na - k) - 1 = sa + na - 1 by omega] at this
    omega
  dsimp only
  by_cases c2 : n = 0
  · exfalso
    have d1:=a2 (sa + na - 1) (by omega) (by omega)
    have d2:=b2 (sa + na) (by omega) (by omega)
    omega
  rw [if_neg (by simpa using c2)]
  have mp : MPre M rk ((arrOf st).extract (sa + k) (sa + na)) ((arrOf st).extract (sa + na) (sa + na + n)):=by
    have zx : ((arrOf st).extract (sa + k) (sa + na)).size = na - k:=by rw [Array.size_extract]; omega
    have zy : ((arrOf st).extract (sa + na) (sa + na + n)).size = n:=by rw [Array.size_extract]; omega
    have sub : ∀ i j,All M ((arrOf st).extract i j):=fun i j m x hx=>by
      rw [Array.getElem?_extract] at hx
      split at hx
      · exact ha _ _ hx
      · cases hx
    refine ⟨sub _ _,sub _ _,?_,?_,by omega,by omega,?_,fun i hi=>?_⟩
    · rw [ext_list,show sa + na - (sa + k) = na - k by omega]
      exact srt_up (fun i j i1 ij j1=>s1 i j (by omega) ij (by omega)) (by omega)
    · rw [ext_list,show sa + na + n - (sa + na) = n by omega]
      exact srt_up (fun i j i1 ij j1=>s2 i j i1 ij (by omega)) (by omega)
    · rw [kv_ext (by omega),kv_ext (by omega)]
      exact a2 _ (by omega) (by omega)
    · rw [zx,kv_ext (by omega),kv_ext (by omega),show sa + k + (na - k - 1) = sa + na - 1 by omega]
      exact b1 _ (by omega) (by omega)
  have fin : ∀ (r : Array Keyed) (st2 : SortSt),Gs (SortSt.mk' (kindOf st) (arrOf st) (((pendingOf st).setIfInBounds L.length (sa,na + nb,pa)).eraseIdxIfInBounds (L.length + 1)) (gallopOf st) (failedOf st)) st2 →
      Good rk ((arrOf st).extract (sa + k) (sa + na)).toList ((arrOf st).extract (sa + na) (sa + na + n)).toList r.toList →
      Q true (SortSt.mk' (kindOf st2) (r.toList.zipIdx.foldl (fun a (x : Keyed × Nat)=>a.setIfInBounds (sa + k + x.2) x.1) (arrOf st2)) (pendingOf st2) (gallopOf st2) (failedOf st2)) ∧ failedOf st2 = none:=by
    intro r st2 gs gd
    have e1 : arrOf st2 = arrOf st:=gs.arr
    have e2 : failedOf st2 = none:=gs.failed.trans hf
    refine ⟨?_,e2⟩
    rw [e1]
    have lr : r.toList.length = (na - k) + n:=by
      have:=gd.1.length_eq
      simp only [List.length_append,Array.length_toList,Array.size_extract] at this
      rw [Array.length_toList]
      omega
    have wr:=write_at (sa + k) r.toList 0 (arrOf st) (by omega)
    generalize hxs : r.toList.zipIdx.foldl (fun a (x : Keyed × Nat)=>a.setIfInBounds (sa + k + x.2) x.1) (arrOf st) = xs' at wr ⊢
    have zs : xs'.size = (arrOf st).size:=by
      have key : ∀ (l : List (Keyed × Nat)) (ys : Array Keyed),(l.foldl (fun a (x : Keyed × Nat)=>a.setIfInBounds (sa + k + x.2) x.1) ys).size = ys.size:=by
        intro l
        induction l with
        | nil=>intro ys; rfl
        | cons z l ih=>intro ys; rw [List.foldl_cons,ih,Array.size_setIfInBounds]
      rw [← hxs]
      exact key _ _
    have whole : xs'.toList = (arrOf st).toList.take (sa + k) ++ r.toList ++ (arrOf st).toList.drop (sa + na + n):=by
      refine List.ext_getElem? fun i=>?_
      rw [Array.getElem?_toList,wr i]
      have lt : ((arrOf st).toList.take (sa + k)).length = sa + k:=by rw [List.length_take,Array.length_toList]; omega
      by_cases c : i < sa + k
      · rw [if_neg (by omega),List.append_assoc,List.getElem?_append_left (by omega),List.getElem?_take_of_lt c,Array.getElem?_toList]
      · by_cases c' : i < sa + na + n
        · rw [if_pos (by omega),List.getElem?_append_left (by rw [List.length_append,lt]; omega),List.getElem?_append_right (by omega),lt]
          rfl
        · rw [if_neg (by omega),List.getElem?_append_right (by rw [List.length_append,lt]; omega),List.length_append,lt,List.getElem?_drop,Array.getElem?_toList]
          congr 1
          omega
    have old : (arrOf st).toList = (arrOf st).toList.take (sa + k) ++ (((arrOf st).extract (sa + k) (sa + na)).toList ++ ((arrOf st).extract (sa + na) (sa + na + n)).toList) ++ (arrOf st).toList.drop (sa + na + n):=by
      have f1 : (arrOf st).toList = (arrOf st).toList.take (sa + k) ++ (arrOf st).toList.drop (sa + k):=(List.take_append_drop _ _).symm
      have f2:=drop_split (arrOf st).toList (sa + k) (na - k)
      have f3:=drop_split (arrOf st).toList (sa + na) n
      rw [show sa + k + (na - k) = sa + na by omega] at f2
      rw [ext_list,ext_list,show sa + na - (sa + k) = na - k by omega,show sa + na + n - (sa + na) = n by omega]
      rw [List.append_assoc,List.append_assoc,← f3,← f2]
      exact f1
    have pm : xs'.Perm (arrOf st):=by
      refine Array.perm_iff_toList_perm.mpr ?_
      rw [whole]
      refine List.Perm.trans ?_ (List.Perm.of_eq old.symm)
      exact List.Perm.append_right _ (List.Perm.append_left _ gd.1)
    have kvw : ∀ i,kv rk xs' i = if sa + k ≤ i ∧ i < sa + na + n then kv rk r (i - (sa + k)) else kv rk (arrOf st) i:=fun i=>by
      have q1:=wr i
      by_cases c : sa + k ≤ i ∧ i < sa + na + n
      · rw [if_pos c]
        rw [if_pos (by omega)] at q1
        exact kv_same (by rw [q1,Array.getElem?_toList]; rfl)
      · rw [if_neg c]
        rw [if_neg (by omega)] at q1
        exact kv_same q1
    have src : ∀ m,m < (na - k) + n → ∃ j,sa + k ≤ j ∧ j < sa + na + n ∧ kv rk r m = kv rk (arrOf st) j:=fun m hm=>by
      have hm' : m < r.size:=by rw [← Array.length_toList]; omega
      have em : r[m]? = some r[m]:=Array.getElem?_eq_getElem hm'
      have mem : r[m] ∈ r.toList:=by simp
      rcases List.mem_append.mp (gd.1.mem_iff.mp mem) with hm1 | hm1
      · rw [ext_list] at hm1
        obtain ⟨j,j1,j2,j3,j4,_⟩:=mem_seg (rk:=rk) hm1
        exact ⟨j,j1,by omega,by rw [kv_of em,j4]⟩
      · rw [ext_list] at hm1
        obtain ⟨j,j1,j2,j3,j4,_⟩:=mem_seg (rk:=rk) hm1
        exact ⟨j,by omega,by omega,by rw [kv_of em,j4]⟩
    have sr:=up_srt gd.2
    refine q _ (gs.kind.trans hk) e2 ((congrArg Array.toList gs.pend).trans er) pm (fun i hi=>?_) fun i j i1 ij j1=>?_
    · have q1:=wr i
      rw [if_neg (by omega)] at q1
      exact q1
    · show kv rk xs' i ≤ kv rk xs' j
      have left : ∀ z y,sa ≤ z → z < sa + k → sa + k ≤ y → y < sa + na + nb → kv rk (arrOf st) z ≤ kv rk (arrOf st) y:=fun z y z1 z2 y1 y2=>by
        by_cases c : y < sa + na
        · exact s1 z y z1 (by omega) c
        · have d1:=a1 z z1 z2
          have d2:=s2 (sa + na) y (Nat.le_refl _) (by omega) y2
          omega
      have right : ∀ z y,sa + k ≤ z → z < sa + na + n → sa + na + n ≤ y → y < sa + na + nb → kv rk (arrOf st) z ≤ kv rk (arrOf st) y:=fun z y z1 z2 y1 y2=>by
        by_cases c : z < sa + na
        · have d1:=s1 z (sa + na - 1) (by omega) (by omega) (by omega)
          have d2:=b2 y y1 y2
          omega
        · exact s2 z y (by omega) (by omega) y2
      rw [kvw i,kvw j]
      by_cases ci : sa + k ≤ i ∧ i < sa + na + n
      · rw [if_pos ci]
        by_cases cj : sa + k ≤ j ∧ j < sa + na + n
        · rw [if_pos cj]
          exact sr _ _ (Nat.zero_le _) (by omega) (by rw [← Array.length_toList]; omega)
        · rw [if_neg cj]
          obtain ⟨z,z1,z2,z3⟩:=src (i - (sa + k)) (by omega)
          rw [z3]
          exact right z j z1 z2 (by omega) (by omega)
      · rw [if_neg ci]
        by_cases cj : sa + k ≤ j ∧ j < sa + na + n
        · rw [if_pos cj]
          obtain ⟨z,z1,z2,z3⟩:=src (j - (sa + k)) (by omega)
          rw [z3]
          exact left i z i1 (by omega) z1 (by omega)
        · rw [if_neg cj]
          by_cases c5 : i < sa + k
          · by_cases c6 : j < sa + k
            · exact s1 i j i1 ij (by omega)
            · exact left i j i1 c5 (by omega) (by omega)
          · exact s2 i j (by omega) ij (by omega)
  have go : ∀ (r : Array Keyed) (st2 : SortSt),Gs (SortSt.mk' (kindOf st) (arrOf st) (((pendingOf st).setIfInBounds L.length (sa,na + nb,pa)).eraseIdxIfInBounds (L.length + 1)) (gallopOf st) (failedOf st)) st2 →
      Good rk ((arrOf st).extract (sa + k) (sa + na)).toList ((arrOf st).extract (sa + na) (sa + na + n)).toList r.toList →
      wpS (model prog w) A E s (do
        modify fun t=>SortSt.mk' (kindOf t) (r.toList.zipIdx.foldl (fun a (x : Keyed × Nat)=>a.setIfInBounds (sa + k + x.2) x.1) (arrOf t)) (pendingOf t) (gallopOf t) (failedOf t)
        let t ← get
        pure (failedOf t).isNone) Q st2:=by
    intro r st2 gs gd
    obtain ⟨f1,f2⟩:=fin r st2 gs gd
    refine wpS_bind (wpS_modify (wpS_bind (wpS_get (wpS_pure ?_))))
    have e3 : (failedOf st2).isNone = true:=by rw [f2]; rfl
    show Q (failedOf st2).isNone _
    rw [e3]
    exact f1
  refine wpS_ite (fun _=>?_) (fun _=>?_)
  · exact wpS_bind (lo_ok h hk mp fun r st2 gs gd=>go r st2 gs gd)
  · exact wpS_bind (hi_ok h hk mp fun r st2 gs gd=>go r st2 gs gd)
def Runs (rk : Keyed → Nat) (xs : Array Keyed) : List Run → Nat → Nat → Prop
  | [],a,e=>a = e
  | r :: l,a,e=>r.1 = a ∧ 1 ≤ r.2.1 ∧ Srt rk xs a (a + r.2.1) ∧ Runs rk xs l (a + r.2.1) e
theorem Runs.le {xs : Array Keyed} : ∀ {l : List Run} {a e : Nat},Runs rk xs l a e → a + l.length ≤ e
  | [],a,e,h=>by have : a = e:=h; simp; omega
  | r :: l,a,e,⟨h1,h2,h3,h4⟩=>by
    have:=Runs.le h4
    rw [List.length_cons]
    omega
theorem Runs.app {xs : Array Keyed} : ∀ {l m : List Run} {a e : Nat},Runs rk xs (l ++ m) a e → ∃ z,Runs rk xs l a z ∧ Runs rk xs m z e
  | [],m,a,e,h=>⟨a,rfl,h⟩
  | r :: l,m,a,e,⟨h1,h2,h3,h4⟩=>by
    obtain ⟨z,z1,z2⟩:=Runs.app h4
    exact ⟨z,⟨h1,h2,h3,z1⟩,z2⟩
theorem Runs.join {xs : Array Keyed} : ∀ {l m : List Run} {a z e : Nat},Runs rk xs l a z → Runs rk xs m z e → Runs rk xs (l ++ m) a e
  | [],m,a,z,e,h,q=>by have : a = z:=h; subst this; exact q
  | r :: l,m,a,z,e,⟨h1,h2,h3,h4⟩,q=>⟨h1,h2,h3,Runs.join h4 q⟩
theorem Runs.same {xs ys : Array Keyed} : ∀ {l : List Run} {a e : Nat},Runs rk xs l a e → (∀ k,a ≤ k → k < e → kv rk ys k = kv rk xs k) → Runs rk ys l a e
  | [],a,e,h,_=>h
  | r :: l,a,e,⟨h1,h2,h3,h4⟩,q=>by
    have le:=Runs.le h4
    refine ⟨h1,h2,fun i j i1 ij j1=>?_,Runs.same h4 fun k k1 k2=>q k (by omega) k2⟩
    rw [q i i1 (by omega),q j (by omega) (by omega)]
    exact h3 i j i1 ij j1
theorem Runs.modify {xs : Array Keyed} {f : Run → Run} (hf : ∀ r,(f r).1 = r.1 ∧ (f r).2.1 = r.2.1) : ∀ {l : List Run} {a e : Nat},Runs rk xs l a e → ∀ i,Runs rk xs (l.modify i f) a e
  | [],a,e,h,i=>by cases i <;> exact h
  | r :: l,a,e,⟨h1,h2,h3,h4⟩,0=>by
    obtain ⟨f1,f2⟩:=hf r
    show Runs rk xs (f r :: l) a e
    exact ⟨f1.trans h1,by omega,by rw [f2]; exact h3,by rw [f2]; exact h4⟩
  | r :: l,a,e,⟨h1,h2,h3,h4⟩,i + 1=>⟨h1,h2,h3,Runs.modify hf h4 i⟩
structure Tb (rk : Keyed → Nat) (κ : SortKind) (a₀ : Array Keyed) (lo : Nat) (st : SortSt) : Prop where
  kind : kindOf st = κ
  failed : failedOf st = none
  perm : (arrOf st).Perm a₀
  runs : Runs rk (arrOf st) (pendingOf st).toList 0 lo
theorem Tb.size {a₀ : Array Keyed} {lo : Nat} {st : SortSt} (t : Tb rk κ a₀ lo st) : (arrOf st).size = a₀.size:=t.perm.size_eq
theorem tb_merge (h : Ask prog w A s κ M rk) {a₀ : Array Keyed} {lo i : Nat} {st : SortSt} {Q : Bool → SortSt → Prop} (hM : All M a₀) (t : Tb rk κ a₀ lo st) (hlo : lo ≤ a₀.size) (hi : i + 1 < (pendingOf st).size)
    (q : ∀ st',Tb rk κ a₀ lo st' → (pendingOf st').size + 1 = (pendingOf st).size → (∀ k : Nat,lo ≤ k → (arrOf st')[k]? = (arrOf st)[k]?) → Q true st') : wpS (model prog w) A E s (mergeAt' i) Q st:=by
  obtain ⟨L,x,y,R,e,el⟩ : ∃ L x y R,(pendingOf st).toList = L ++ x :: y :: R ∧ L.length = i:=by
    have hl : i + 1 < (pendingOf st).toList.length:=by rw [Array.length_toList]; exact hi
    refine ⟨(pendingOf st).toList.take i,(pendingOf st).toList[i],(pendingOf st).toList[i + 1],(pendingOf st).toList.drop (i + 2),?_,by rw [List.length_take]; omega⟩
    rw [List.getElem_cons_drop hl,List.getElem_cons_drop,List.take_append_drop]
  subst el
  obtain ⟨sa,na,pa⟩:=x
  obtain ⟨sb,nb,pb⟩:=y
  have r:=t.runs
  rw [e] at r
  obtain ⟨z,r1,r2⟩:=r.app
  obtain ⟨x1,x2,x3,x4⟩:=r2
  obtain ⟨y1,y2,y3,y4⟩:=x4
  dsimp only at x1 x2 x3 y1 y2 y3 y4
  subst x1
  have le:=y4.le
  have sz:=t.size
  refine at_ok h t.kind (hM.perm t.perm) t.failed e y1 x2 y2 (by omega) x3 (by rw [y1]; exact y3) fun st' k1 k2 k3 k4 k5 k6=>?_
  have sm : ∀ k,k < sa ∨ sa + na + nb ≤ k → kv rk (arrOf st') k = kv rk (arrOf st) k:=fun k hk=>kv_same (k5 k hk)
  refine q st' ⟨k1,k2,k4.trans t.perm,?_⟩ ?_ fun k hk=>k5 k (.inr (by omega))
  · rw [k3]
    refine (r1.same fun k _ hk=>sm k (.inl hk)).join ⟨rfl,by dsimp only; omega,k6,?_⟩
    dsimp only
    rw [show sa + (na + nb) = sa + na + nb by omega]
    exact y4.same fun k hk _=>sm k (.inr hk)
  · rw [← Array.length_toList,← Array.length_toList,k3,e]
    simp
    omega
theorem sort_ok (h : Ask prog w A s κ M rk) {st : SortSt} {Q : Unit → SortSt → Prop} (hk : kindOf st = κ) (hM : All M (arrOf st)) (hf : failedOf st = none) (hp : pendingOf st = #[]) (h1 : 1 ≤ (arrOf st).size)
    (q : ∀ st',(arrOf st').Perm (arrOf st) → failedOf st' = none → Srt rk (arrOf st') 0 (arrOf st).size → Q () st') : wpS (model prog w) A E s sortRuns' Q st:=by
  rw [sortRuns'_eq]
  refine wpS_bind (wpS_get ?_)
  generalize ha₀ : arrOf st = a₀ at hM h1 q
  dsimp only
  have t0 : Tb rk κ a₀ 0 st:=⟨hk,hf,by rw [ha₀],by rw [hp]; rfl⟩
  refine wpS_bind (wpS_mono (wpS_forRange (I:=fun x c st'=>c.1 = none ∧ Tb rk κ a₀ c.2 st' ∧ c.2 ≤ a₀.size ∧ (x ≤ c.2 ∨ c.2 = a₀.size)) (Q:=fun c st'=>c.1 = none ∧ Tb rk κ a₀ a₀.size st') ?step ?fin ⟨rfl,t0,Nat.zero_le _,.inl (Nat.le_refl _)⟩) ?post)
  case fin =>
    rintro ⟨c,lo⟩ st' ⟨e,t,hl,hx⟩
    dsimp only at e t hl hx
    have el : lo = a₀.size:=by omega
    subst el
    exact ⟨e,t⟩
  case step =>
    rintro x ⟨c,lo⟩ st' _ hx ⟨e,t,hl,hxl⟩
    dsimp only at e t hl hxl ⊢
    subst e
    by_cases c1 : lo ≥ a₀.size
    · rw [if_pos c1]
      have el : lo = a₀.size:=by omega
      subst el
      exact wpS_pure ⟨rfl,t⟩
    rw [if_neg c1]
    have sz:=t.size
    refine wpS_bind (run_ok h t.kind (hM.perm t.perm) (by omega) (by omega) fun n st2 nx n1 n2 ns=>?_)
    have t2 : Tb rk κ a₀ lo st2:=⟨nx.kind.trans t.kind,nx.failed.trans t.failed,nx.perm.trans t.perm,by rw [nx.pend]; exact t.runs.same fun k _ hk=>kv_same (nx.below k hk)⟩
    dsimp only
    generalize hforce : min (a₀.size - lo) (minRun' a₀.size a₀.size 0) = force
    have rest : ∀ (K1 K2 : StateT SortSt Sem (ForInStep (Option Unit × Nat))) (Z : ForInStep (Option Unit × Nat) → SortSt → Prop),
        (∀ st3,Tb rk κ a₀ lo st3 → 1 ≤ force → lo + force ≤ a₀.size → Srt rk (arrOf st3) lo (lo + force) → wpS (model prog w) A E s K1 Z st3) →
        (∀ st3,Tb rk κ a₀ lo st3 → 1 ≤ n → lo + n ≤ a₀.size → Srt rk (arrOf st3) lo (lo + n) → wpS (model prog w) A E s K2 Z st3) →
        wpS (model prog w) A E s (if n < minRun' a₀.size a₀.size 0 then do
          liftM (rule "list.sort.binary-insertion")
          let r ← binarySort' lo force n
          if (!r) = true then pure (ForInStep.done (some (),lo)) else K1
        else K2) Z st2:=by
      intro K1 K2 Z hK1 hK2
      have sz2:=t2.size
      by_cases c2 : n < minRun' a₀.size a₀.size 0
      · rw [if_pos c2]
        refine wpS_bind (wpS_lift (wpAny_rule ⟨rfl,?_⟩))
        refine wpS_bind (bin_ok h t2.kind (hM.perm t2.perm) (by omega) (by omega) ns fun st3 nx3 ns3=>?_)
        simp only [Bool.not_true,Bool.false_eq_true,if_false]
        exact hK1 st3 ⟨nx3.kind.trans t2.kind,nx3.failed.trans t2.failed,nx3.perm.trans t2.perm,by rw [nx3.pend]; exact t2.runs.same fun k _ hk=>kv_same (nx3.below k hk)⟩ (by omega) (by omega) ns3
      · rw [if_neg c2]
        exact hK2 st2 t2 n1 (by omega) ns
    have push : ∀ (m : Nat) st4,Tb rk κ a₀ lo st4 → 1 ≤ m → Srt rk (arrOf st4) lo (lo + m) → Tb rk κ a₀ (lo + m) (setPending st4 ((pendingOf st4).push (lo,m,0))):=fun m st4 t4 m1 ns4=>by
      refine ⟨t4.kind,t4.failed,t4.perm,?_⟩
      show Runs rk (arrOf st4) ((pendingOf st4).push (lo,m,0)).toList 0 (lo + m)
      rw [Array.toList_push]
      exact t4.runs.join ⟨rfl,m1,ns4,rfl⟩
    have relabel : ∀ (f : Run → Run) st4,(∀ r,(f r).1 = r.1 ∧ (f r).2.1 = r.2.1) → Tb rk κ a₀ lo st4 → Tb rk κ a₀ lo (setPending st4 ((pendingOf st4).modify ((pendingOf st4).size - 1) f)):=fun f st4 hf t4=>by
      refine ⟨t4.kind,t4.failed,t4.perm,?_⟩
      show Runs rk (arrOf st4) ((pendingOf st4).modify ((pendingOf st4).size - 1) f).toList 0 lo
      rw [Array.toList_modify]
      exact t4.runs.modify hf _
    have inner : ∀ (m : Nat) (st3 : SortSt) (pw : Nat) (K : Option Unit × Unit → StateT SortSt Sem (ForInStep (Option Unit × Nat))) (Z : ForInStep (Option Unit × Nat) → SortSt → Prop),Tb rk κ a₀ lo st3 → Srt rk (arrOf st3) lo (lo + m) →
        (∀ st4,Tb rk κ a₀ lo st4 → Srt rk (arrOf st4) lo (lo + m) → wpS (model prog w) A E s (K (none,())) Z st4) →
        wpS (model prog w) A E s (do
          let r ← forIn [0:a₀.size] ((none,()) : Option Unit × Unit) fun _ _=>do
            let z ← get
            match (if (pendingOf z).size > 1 then (pendingOf z)[(pendingOf z).size - 2]? else none) with
            | some (_,_,old)=>if old ≤ pw then pure (ForInStep.done (none,())) else do
              let ok ← mergeAt' ((pendingOf z).size - 2)
              if (!ok) = true then pure (ForInStep.done (some (),())) else pure (ForInStep.yield (none,()))
            | _=>pure (ForInStep.done (none,()))
          K r) Z st3:=by
      intro m st3 pw K Z t3 ns hK
      refine wpS_bind (wpS_mono (wpS_forRange (I:=fun _ c st'=>c.1 = none ∧ Tb rk κ a₀ lo st' ∧ Srt rk (arrOf st') lo (lo + m)) (Q:=fun c st'=>c.1 = none ∧ Tb rk κ a₀ lo st' ∧ Srt rk (arrOf st') lo (lo + m)) ?step3 (fun c st' hc=>hc) ⟨rfl,t3,ns⟩) ?post3)
      case step3 =>
        rintro y ⟨c,u⟩ st4 _ hy ⟨e,t4,ns4⟩
        have e' : c = none:=e
        subst e'
        refine wpS_bind (wpS_get ?_)
        by_cases c4 : (pendingOf st4).size > 1
        · rw [if_pos c4]
          have eg : (pendingOf st4)[(pendingOf st4).size - 2]? = some (pendingOf st4)[(pendingOf st4).size - 2]:=Array.getElem?_eq_getElem (by omega)
          rw [eg]
          generalize (pendingOf st4)[(pendingOf st4).size - 2] = z
          obtain ⟨z1,z2,z3⟩:=z
          dsimp only
          refine wpS_ite (fun _=>wpS_pure ⟨rfl,t4,ns4⟩) fun _=>?_
          refine wpS_bind (tb_merge h hM t4 hl (by omega) fun st5 t5 _ k5=>?_)
          simp only [Bool.not_true,Bool.false_eq_true,if_false]
          refine wpS_pure ⟨rfl,t5,fun i j i1 ij j1=>?_⟩
          rw [kv_same (rk:=rk) (k5 i i1),kv_same (rk:=rk) (k5 j (by omega))]
          exact ns4 i j i1 ij j1
        · rw [if_neg c4]
          exact wpS_pure ⟨rfl,t4,ns4⟩
      case post3 =>
        rintro ⟨c,u⟩ st4 ⟨e,t4,ns4⟩
        have e' : c = none:=e
        subst e'
        exact hK st4 t4 ns4
    refine rest _ _ _ (fun st3 t3 n1 n2 ns=>?_) (fun st3 t3 n1 n2 ns=>?_)
    all_goals
      refine wpS_bind (wpS_get ?_)
      cases hb : (pendingOf st3).back? with
      | none=>exact wpS_bind (wpS_modify (wpS_pure ⟨rfl,push _ st3 t3 n1 ns,n2,by dsimp only; omega⟩))
      | some z =>
        obtain ⟨s1,n3,p3⟩:=z
        dsimp only
        refine inner _ st3 _ _ _ t3 ns fun st4 t4 ns4=>?_
        exact wpS_bind (wpS_modify (wpS_bind (wpS_modify (wpS_pure ⟨rfl,push _ _ (relabel _ st4 (fun r=>⟨rfl,rfl⟩) t4) n1 ns4,n2,by dsimp only; omega⟩))))
  case post =>
    rintro ⟨c,lo⟩ st' ⟨e,t⟩
    have e' : c = none:=e
    subst e'
    dsimp only
    have sz:=t.size
    have r0:=t.runs.le
    rw [Array.length_toList] at r0
    refine wpS_bind (wpS_mono (wpS_forRange (I:=fun x c st2=>c.1 = none ∧ Tb rk κ a₀ a₀.size st2 ∧ ((pendingOf st2).size ≤ 1 ∨ (pendingOf st2).size + x ≤ a₀.size)) (Q:=fun c st2=>c.1 = none ∧ Tb rk κ a₀ a₀.size st2 ∧ (pendingOf st2).size ≤ 1) ?step4 ?fin4 ⟨rfl,t,.inr (by omega)⟩) ?post4)
    case fin4 =>
      rintro c st2 ⟨e,t,h3⟩
      exact ⟨e,t,by omega⟩
    case step4 =>
      rintro x ⟨c,u⟩ st2 _ hx ⟨e,t2,h3⟩
      have e' : c = none:=e
      subst e'
      refine wpS_bind (wpS_get ?_)
      by_cases c1 : (pendingOf st2).size ≤ 1
      · rw [if_pos c1]
        exact wpS_pure ⟨rfl,t2,c1⟩
      rw [if_neg c1]
      have fin : ∀ i,i + 1 < (pendingOf st2).size → ∀ (K : Bool → StateT SortSt Sem (ForInStep (Option Unit × Unit))) (Z : ForInStep (Option Unit × Unit) → SortSt → Prop),K true = pure (.yield (none,())) →
          (∀ st5,Tb rk κ a₀ a₀.size st5 → ((pendingOf st5).size ≤ 1 ∨ (pendingOf st5).size + (x + 1) ≤ a₀.size) → Z (.yield (none,())) st5) → wpS (model prog w) A E s (do
          let r ← mergeAt' i
          K r) Z st2:=by
        intro i hi K Z hK hZ
        refine wpS_bind (tb_merge h hM t2 (Nat.le_refl _) hi fun st5 t5 z5 _=>?_)
        rw [hK]
        exact wpS_pure (hZ st5 t5 (by omega))
      have both : ∀ (c : Bool) (i : Nat),i + 2 = (pendingOf st2).size → (if c = true then i - 1 else i) + 1 < (pendingOf st2).size:=fun c i hi=>by
        split <;> omega
      refine fin _ (both _ _ ?_) (fun r=>_) _ ?_ (fun st5 t5 h5=>⟨rfl,t5,h5⟩)
      · omega
      · rfl
    case post4 =>
      rintro ⟨c,u⟩ st2 ⟨e,t2,h3⟩
      have e' : c = none:=e
      subst e'
      refine wpS_pure (q st2 t2.perm t2.failed ?_)
      have r:=t2.runs
      rw [← Array.length_toList] at h3
      match hl : (pendingOf st2).toList,h3,r with
      | [],_,r=>have : 0 = a₀.size:=r; omega
      | [z],_,r =>
        obtain ⟨r1,r2,r3,r4⟩:=r
        have r4' : 0 + z.2.1 = a₀.size:=r4
        rw [r4'] at r3
        exact r3
      | _ :: _ :: _,h3,_=>simp at h3
end
end L2.Ts
namespace L2.Rw
open PySem
def RawD (h : Heap) (d : Addr) (es : Array DictEntry) (ep : Nat) : Prop:=∃ o,h.get? d = some o ∧ o.ExactDict ∧ o.data = .dict es ep
theorem RawD.keep {h h' : Heap} {d : Addr} {es : Array DictEntry} {ep : Nat} (x : RawD h d es ep) (k : ∀ o,h.get? d = some o → h'.get? d = some o) : RawD h' d es ep:=let ⟨o,e,r⟩:=x; ⟨o,k o e,r⟩
theorem RawD.lt {h : Heap} {d : Addr} {es : Array DictEntry} {ep : Nat} (x : RawD h d es ep) : d < h.objs.size:=let ⟨_,e,_⟩:=x; Heap.lt_size e
theorem RawD.type {s : Shared} {d : Addr} {es : Array DictEntry} {ep : Nat} (x : RawD s.heap d es ep) : s.TypeIs (.ref d) "dict" := let ⟨o,e,c,_⟩:=x; ⟨o,e,c.1⟩
section
variable {prog : Program} {w : World} {A : Around} {E : Value → Shared → Prop} {s : Shared} {d it : Addr} {es : Array DictEntry} {ep i : Nat}
theorem iter_raw {Q : Value → Shared → Prop} (hd : (d == sysModules) = false) (hm : RawD s.heap d es ep)
    (hQ : Q (.ref s.heap.objs.size) { s with heap:=s.heap.push { cls:=.type "dict_keyiterator",data:=.fields #[.ref d,.int 0 0,.int es.size 0,.int ep 0] } }) : wpAny (model prog w) A (pyIter (.ref d)) Q E s:=by
  have hT:=hm.type
  obtain ⟨o,ho,_,hdat⟩:=hm
  refine wpAny_pyIter_slot hT F.slot_dict_iter (wpAny_call_entry F.slot_dict_iter hT F.entry_dict_iter ?_ (F.args_dict_iter_1 _))
  unfold Builtin.«dict.__iter__»
  refine wpAny_bind ?_
  unfold Builtin.Dict.dictSlotNone
  refine wpAny_bind (wpAny_notOrdered_dict hT (wpAny_pure ?_))
  show wpAny _ _ (Builtin.Dict.showsAll d >>= _) _ _ s
  unfold Builtin.Dict.showsAll
  rw [if_neg (by rw [hd]; decide)]
  refine wpAny_bind (wpAny_pure (wpAny_bind (wpAny_dictEntries ho hdat (wpAny_bind (wpAny_dictEpoch ho hdat ?_)))))
  refine wpAny_bind (wpAny_newObj_type (wpAny_pure ⟨_,rfl, "dict_keyiterator",_,⟨_,Heap.get?_push_size _ rfl,rfl⟩,F.slot_dict_keyiterator_next.lookup,?_⟩))
  simpa [rawInt] using hQ
theorem next_key {Q : Option Value → Shared → Prop} (hit : s.heap.IsKeyIter it d i es.size ep) (hm : RawD s.heap d es ep) (hi : i < es.size)
    (hQ : ∀ h',h'.IsKeyIter it d (i + 1) es.size ep → Heap.SameBut it s.heap h' → Q (some es[i].key) { s with heap:=h' }) : wpAny (model prog w) A (pyNext (.ref it)) Q E s:=by
  obtain ⟨o,ho,hc,hd⟩:=id hit
  obtain ⟨od,hod,_,hdd⟩:=hm
  have hT:=hit.typeIs
  unfold pyNext
  refine wpAny_bind (wpAny_attempt (wpAny_callSpecial?_slot (name:=Str.ofString "__next__") hT F.slot_dict_keyiterator_next (wpAny_call_entry F.slot_dict_keyiterator_next hT F.entry_dict_keyiterator_next ?_ (F.args_dict_keyiterator_next_1 _))))
  refine wpAny_bind (wpAny_pure (wpAny_bind (wpAny_bind ?_)))
  first | refine wpAny_bind (wpAny_typeNameOfWhole_keyiter hT (wpAny_pure ?_)) | refine wpAny_bind (wpAny_typeNameOf_keyiter hT (wpAny_pure ?_))
  refine wpAny_bind (wpAny_fieldsOf ho hd ?_)
  have own : Builtin.Dict_items.ownsTuple "dict_keyiterator" = false:=by decide
  simp only [own,Bool.false_eq_true,if_false]
  show wpAny _ _ (if (Value.ref d == Value.none) = true then _ else _) _ _ s
  rw [if_neg (show ¬ ((Value.ref d == Value.none) = true) from Bool.false_ne_true)]
  refine wpAny_bind (wpAny_pure (wpAny_bind (wpAny_dictEntries hod hdd ?_)))
  rw [if_neg (by simp)]
  refine wpAny_bind (wpAny_pure (wpAny_bind (wpAny_dictEpoch hod hdd ?_)))
  rw [if_neg (by simp)]
  refine wpAny_pure ?_
  simp only [show ¬ ((i : Int) < 0) from by omega,if_false,Int.toNat_natCast,Array.getElem?_eq_getElem hi]
  refine wpAny_bind ?_
  first | refine wpAny_bind (wpAny_typeNameOfWhole_keyiter hT (wpAny_pure ?_)) | refine wpAny_bind (wpAny_typeNameOf_keyiter hT (wpAny_pure ?_))
  refine wpAny_bind (wpAny_isOneOf_keyiter hT ?_)
  show wpAny _ _ (setField (.ref it) 1 (rawInt ((i : Int) + 1)) >>= _) _ _ s
  refine wpAny_bind (wpAny_setField ho hd (by simp) ?_)
  have on : (s.heap.update it (Obj.mapFields (·.setIfInBounds 1 (rawInt ((i : Int) + 1))))).IsKeyIter it d (i + 1) es.size ep :=
    ⟨_,Heap.get?_update_self _ ho (Obj.isFreed_of_fields (Obj.data_mapFields hd _)),(Obj.cls_mapFields ..).trans hc,by rw [Obj.data_mapFields hd]; simp [rawInt]⟩
  refine wpAny_bind (wpAny_holding (wpAny_bind (wpAny_isOneOf_keyiter (s:={ s with heap:=s.heap.update it (Obj.mapFields (·.setIfInBounds 1 (rawInt ((i : Int) + 1)))) }) on.typeIs ?_)))
  show wpAny _ _ (pure es[i].key) _ _ _
  exact wpAny_pure (wpAny_pure ⟨_,rfl,wpAny_pure (hQ _ on (Heap.SameBut.update ..))⟩)
theorem end_key {Q : Option Value → Shared → Prop} (hh : A.handled = none) (hit : s.heap.IsKeyIter it d i es.size ep) (hm : RawD s.heap d es ep) (hi : es.size ≤ i)
    (hQ : ∀ h',Heap.ExtBut it s.heap h' → Q none { s with heap:=h' }) : wpAny (model prog w) A (pyNext (.ref it)) Q E s:=by
  obtain ⟨o,ho,hc,hd⟩:=id hit
  obtain ⟨od,hod,_,hdd⟩:=hm
  have hT:=hit.typeIs
  unfold pyNext
  refine wpAny_bind (wpAny_attempt (wpAny_callSpecial?_slot (name:=Str.ofString "__next__") hT F.slot_dict_keyiterator_next (wpAny_call_entry F.slot_dict_keyiterator_next hT F.entry_dict_keyiterator_next ?_ (F.args_dict_keyiterator_next_1 _))))
  refine wpAny_bind (wpAny_pure (wpAny_bind (wpAny_bind ?_)))
  first | refine wpAny_bind (wpAny_typeNameOfWhole_keyiter hT (wpAny_pure ?_)) | refine wpAny_bind (wpAny_typeNameOf_keyiter hT (wpAny_pure ?_))
  refine wpAny_bind (wpAny_fieldsOf ho hd ?_)
  have own : Builtin.Dict_items.ownsTuple "dict_keyiterator" = false:=by decide
  simp only [own,Bool.false_eq_true,if_false]
  show wpAny _ _ (if (Value.ref d == Value.none) = true then _ else _) _ _ s
  rw [if_neg (show ¬ ((Value.ref d == Value.none) = true) from Bool.false_ne_true)]
  refine wpAny_bind (wpAny_pure (wpAny_bind (wpAny_dictEntries hod hdd ?_)))
  rw [if_neg (by simp)]
  refine wpAny_bind (wpAny_pure (wpAny_bind (wpAny_dictEpoch hod hdd ?_)))
  rw [if_neg (by simp)]
  refine wpAny_pure ?_
  simp only [show ¬ ((i : Int) < 0) from by omega,if_false,Int.toNat_natCast,Array.getElem?_eq_none hi]
  refine wpAny_bind ?_
  first | refine wpAny_bind (wpAny_typeNameOfWhole_keyiter hT (wpAny_pure ?_)) | refine wpAny_bind (wpAny_typeNameOf_keyiter hT (wpAny_pure ?_))
  show wpAny _ _ (setField (.ref it) 0 .none >>= _) _ _ s
  refine wpAny_bind (wpAny_setField ho hd (by simp) ?_)
  show wpAny _ _ (newExc (.type "StopIteration") [] >>= _) _ _ _
  refine wpAny_bind ?_
  simp only [newExc,newTuple]
  refine wpAny_bind (wpAny_newObj_type ?_ (by size_fits))
  refine wpAny_bind (m:=firstArgMember _ _) (wpAny_of_eq (a:=Value.none) (by first | rfl | (simp only [firstArgMember]; rfl)) ?_)
  refine wpAny_newObj_type ?_ (by size_fits)
  simp only [raiseNew]
  refine wpAny_bind (wpAny_handled ?_)
  rw [show A.in1.handled = none from hh]
  refine wpAny_bind (wpAny_pure (wpAny_throw ?_))
  refine wpAny_bind (wpAny_isInstance (T := "StopIteration") (b:=true) ⟨_,Heap.get?_push_size _ rfl,rfl⟩ isSubtype_stop ?_)
  exact wpAny_pure (hQ _ (((Heap.SameBut.update ..).extBut.push _).push _))
theorem walk_keys (hh : A.handled = none) (I d : Addr) (hne : d ≠ I) (es : Array DictEntry) (ep : Nat) :
    Walks prog w A I [I,d] [I] es.size (fun i v=>∃ h : i < es.size,v = es[i].key) (fun i h=>h.IsKeyIter I d i es.size ep ∧ RawD h d es ep) where
  sub:=fun b hb=>by simp at hb; simp [hb]
  frame:=fun _ _ _ st hk=>⟨st.1.at fun o e=>hk I (by simp) o e,st.2.keep fun o e=>hk d (by simp) o e⟩
  item:=fun i s Q E hi st hQ=>next_key st.1 st.2 hi fun h' on hs=>hQ es[i].key h' s.toks ⟨hi,rfl⟩ ⟨on,st.2.keep fun o e=>hs.extBut _ _ hne e⟩ fun b o hb e=>hs.extBut b o (fun z=>hb (by simp [z])) e
  done:=fun s Q E st hQ=>end_key hh st.1 st.2 (Nat.le_refl _) fun h' he=>hQ h' s.toks fun b o hb e=>he b o (fun z=>hb (by simp [z])) e
  self:=fun _ _ _ _ st hQ=>wpAny_pyIter_keyiter st.1 hQ
theorem items_raw {Q : Value → Shared → Prop} (hd : (d == sysModules) = false) (hm : RawD s.heap d es ep)
    (hQ : Q (.ref s.heap.objs.size) { s with heap:=s.heap.push { cls:=.type "dict_items",data:=.fields #[.ref d] } }) : wpAny (model prog w) A (call (.builtin "dict.items") [.ref d]) Q E s:=by
  have hT:=hm.type
  refine wpAny_call_entry F.slot_dict_items hT F.entry_dict_items ?_ (F.args_dict_items_1 _)
  unfold Builtin.«dict.items»
  refine wpAny_bind ?_
  unfold Builtin.Dict.noArgs
  refine wpAny_bind (wpAny_notOrdered_dict hT (wpAny_pure ?_))
  show wpAny _ _ (Builtin.Dict.showsAll d >>= _) _ _ s
  unfold Builtin.Dict.showsAll
  rw [if_neg (by rw [hd]; decide)]
  exact wpAny_bind (wpAny_pure (wpAny_bind (wpAny_newObj_type (wpAny_pure ⟨_,rfl,hQ⟩))))
theorem iter_items {v : Addr} {Q : Value → Shared → Prop} (hv : s.heap.IsItemsView v d) (hm : RawD s.heap d es ep)
    (hQ : Q (.ref s.heap.objs.size) { s with heap:=s.heap.push { cls:=.type "dict_itemiterator",data:=.fields #[.none,.bool false,.ref d,.int 0 0,.int es.size 0,.int ep 0,.none,.none] } }) :
    wpAny (model prog w) A (pyIter (.ref v)) Q E s:=by
  obtain ⟨ov,hov,hcv,hdv⟩:=id hv
  obtain ⟨o,ho,_,hdat⟩:=hm
  refine wpAny_pyIter_slot hv.typeIs F.slot_dict_items_iter (wpAny_call_entry F.slot_dict_items_iter hv.typeIs F.entry_dict_items_iter ?_ (F.args_dict_items_iter_1 _))
  unfold Builtin.«dict_items.__iter__»
  refine wpAny_bind (wpAny_pure (wpAny_bind ?_))
  unfold Builtin.Dict_items.dictOf
  refine wpAny_bind (wpAny_field hov hdv (x:=.ref d) rfl (wpAny_pure (wpAny_bind ?_)))
  unfold Builtin.Dict_items.newIterator
  refine wpAny_bind (wpAny_dictEntries ho hdat (wpAny_bind (wpAny_dictEpoch ho hdat ?_)))
  have own : Builtin.Dict_items.ownsTuple "dict_itemiterator" = true:=by decide
  simp only [own,if_true]
  refine wpAny_newObj_type (wpAny_pure ⟨_,rfl, "dict_itemiterator",_,⟨_,Heap.get?_push_size _ rfl,rfl⟩,F.slot_dict_itemiterator_next.lookup,?_⟩)
    (by simp only [sizeOk,Builtin.Dict_items.ownedTupleFields,List.size_toArray,List.length_append,List.length_cons,List.length_nil,sizeLine_eq]; omega)
  simpa [rawInt,Builtin.Dict_items.ownedTupleFields] using hQ
theorem next_item {ok ov : Value} {Q : Option Value → Shared → Prop} (hit : IsItemIter s.heap it d i es.size ep ok ov) (hm : RawD s.heap d es ep) (hi : i < es.size)
    (hQ : ∀ h',IsItemIterOut h' it d (i + 1) es.size ep es[i].key es[i].val s.heap.objs.size → h'.get? s.heap.objs.size = some { cls:=.type "tuple",data:=.seq #[es[i].key,es[i].val] } → h'.objs.size = s.heap.objs.size + 1 →
      (∀ b o,b ≠ it → s.heap.get? b = some o → h'.get? b = some o) → Q (some (.ref s.heap.objs.size)) { s with heap:=h' }) : wpAny (model prog w) A (pyNext (.ref it)) Q E s:=by
  obtain ⟨hp,g,dr,tk,os⟩:=s
  obtain ⟨od,hod,_,hdd⟩:=hm
  have hT : Shared.TypeIs ⟨hp,g,dr,tk,os⟩ (.ref it) "dict_itemiterator" := ⟨_,hit,rfl⟩
  unfold pyNext
  refine wpAny_bind (wpAny_attempt (wpAny_callSpecial?_slot (name:=Str.ofString "__next__") hT F.slot_dict_itemiterator_next (wpAny_call_entry F.slot_dict_itemiterator_next hT F.entry_dict_itemiterator_next ?_ (F.args_dict_itemiterator_next_1 _))))
  refine wpAny_bind (wpAny_pure (wpAny_bind (wpAny_bind ?_)))
  first | refine wpAny_bind (wpAny_typeNameOfWhole_itemiter hT (wpAny_pure ?_)) | refine wpAny_bind (wpAny_typeNameOf_itemiter hT (wpAny_pure ?_))
  refine wpAny_bind (wpAny_fieldsOf hit rfl ?_)
  have own : Builtin.Dict_items.ownsTuple "dict_itemiterator" = true:=by decide
  simp only [own,if_true]
  show wpAny _ _ (if (Value.ref d == Value.none) = true then _ else _) _ _ _
  rw [if_neg (show ¬ ((Value.ref d == Value.none) = true) from Bool.false_ne_true)]
  refine wpAny_bind (wpAny_pure (wpAny_bind (wpAny_dictEntries hod hdd ?_)))
  rw [if_neg (by simp)]
  refine wpAny_bind (wpAny_pure (wpAny_bind (wpAny_dictEpoch hod hdd ?_)))
  rw [if_neg (by simp)]
  refine wpAny_pure ?_
  simp only [show ¬ ((i : Int) < 0) from by omega,if_false,Int.toNat_natCast,Array.getElem?_eq_getElem hi]
  refine wpAny_bind ?_
  first | refine wpAny_bind (wpAny_typeNameOfWhole_itemiter hT (wpAny_pure ?_)) | refine wpAny_bind (wpAny_typeNameOf_itemiter hT (wpAny_pure ?_))
  refine wpAny_bind (wpAny_isOneOf_itemiter hT ?_)
  show wpAny _ _ (setField (.ref it) 3 (rawInt ((i : Int) + 1)) >>= _) _ _ ⟨hp,g,dr,tk,os⟩
  refine wpAny_bind (wpAny_setField_rec hit (by simp) fun h₁ he₁ hs₁=>?_)
  replace hs₁ : Heap.SameBut it hp h₁:=hs₁
  replace he₁ : IsItemIter h₁ it d (i + 1) es.size ep ok ov:=by
    have e : ((i + 1 : Nat) : Int) = (i : Int) + 1:=by omega
    unfold IsItemIter; rw [e]; simpa [rawInt] using he₁
  have hT₁ : Shared.TypeIs ⟨h₁,g,dr,tk,os⟩ (.ref it) "dict_itemiterator" := ⟨_,he₁,rfl⟩
  refine wpAny_bind (wpAny_holding (wpAny_bind (wpAny_isOneOf_itemiter hT₁ (wpAny_bind (wpAny_isOneOf_itemiter hT₁ ?_)))))
  show wpAny _ _ (Builtin.Dict_items.pairFromOwner (.ref it) 6 es[i].key es[i].val) _ _ ⟨h₁,g,dr,tk,os⟩
  unfold Builtin.Dict_items.pairFromOwner
  refine wpAny_bind (wpAny_newTuple ?_)
  have he₂ : IsItemIter (h₁.push { cls:=.type "tuple",data:=.seq #[es[i].key,es[i].val] }) it d (i + 1) es.size ep ok ov:=Heap.get?_push_of_some _ he₁
  generalize hh₂ : h₁.push { cls:=.type "tuple",data:=.seq #[es[i].key,es[i].val] } = h₂ at he₂
  have hz₁ : h₁.objs.size = hp.objs.size:=hs₁.1
  have hil : it < hp.objs.size:=Heap.lt_size hit
  have ht₂ : h₂.get? hp.objs.size = some { cls:=.type "tuple",data:=.seq #[es[i].key,es[i].val] }:=by rw [← hh₂,← hz₁]; exact Heap.get?_push_size _ rfl
  have hz₂ : h₂.objs.size = hp.objs.size + 1:=by rw [← hh₂,Heap.size_push,hz₁]
  have hk₂ : ∀ b o,b ≠ it → hp.get? b = some o → h₂.get? b = some o:=fun b o hb e=>by rw [← hh₂]; exact Heap.get?_push_of_some _ (hs₁.extBut b o hb e)
  show wpAny _ _ (Builtin.Dict_items.ownedTupleIsFree (.ref it) >>= _) _ _ ⟨h₂,g,dr,tk,os⟩
  rw [hz₁]
  clear hh₂ he₁ hs₁ hT₁ hz₁ h₁
  refine wpAny_bind ?_
  unfold Builtin.Dict_items.ownedTupleIsFree
  refine wpAny_bind (wpAny_field he₂ rfl (x:=.none) rfl (wpAny_pure ?_))
  simp only [if_true]
  refine wpAny_bind (wpAny_field he₂ rfl (x:=ok) rfl (wpAny_bind (wpAny_field he₂ rfl (x:=ov) rfl ?_)))
  refine wpAny_bind (wpAny_setField_rec he₂ (by simp) fun h₃ he₃ hs₃=>?_)
  replace hs₃ : Heap.SameBut it h₂ h₃:=hs₃
  replace he₃ : IsItemIter h₃ it d (i + 1) es.size ep es[i].key ov:=he₃
  refine wpAny_bind (wpAny_setField_rec he₃ (by simp) fun h₄ he₄ hs₄=>?_)
  replace hs₄ : Heap.SameBut it h₃ h₄:=hs₄
  replace he₄ : IsItemIter h₄ it d (i + 1) es.size ep es[i].key es[i].val:=he₄
  refine wpAny_bind (wpAny_setField_rec he₄ (by simp) fun h₅ he₅ hs₅=>?_)
  replace hs₅ : Heap.SameBut it h₄ h₅:=hs₅
  replace he₅ : IsItemIterOut h₅ it d (i + 1) es.size ep es[i].key es[i].val hp.objs.size:=he₅
  refine wpAny_bind (wpAny_setField_rec he₅ (by simp) fun h₆ he₆ hs₆=>?_)
  replace hs₆ : Heap.SameBut it h₅ h₆:=hs₆
  replace he₆ : IsItemIterOut h₆ it d (i + 1) es.size ep es[i].key es[i].val hp.objs.size:=he₆
  have up : ∀ b o,b ≠ it → h₂.get? b = some o → h₆.get? b = some o:=fun b o hb e=>hs₆.extBut b o hb (hs₅.extBut b o hb (hs₄.extBut b o hb (hs₃.extBut b o hb e)))
  refine wpAny_bind (wpAny_letGo (wpAny_pure (wpAny_pure ⟨_,rfl,wpAny_pure (hQ h₆ he₆ (up _ _ (Nat.ne_of_gt hil) ht₂) ?_ fun b o hb e=>up b o hb (hk₂ b o hb e))⟩)))
  show h₆.objs.size = hp.objs.size + 1
  rw [hs₆.1,hs₅.1,hs₄.1,hs₃.1,hz₂]
theorem end_item {ok ov : Value} {Q : Option Value → Shared → Prop} (hh : A.handled = none) (hit : IsItemIter s.heap it d i es.size ep ok ov) (hm : RawD s.heap d es ep) (hi : es.size ≤ i)
    (hQ : ∀ h',Heap.ExtBut it s.heap h' → Q none { s with heap:=h' }) : wpAny (model prog w) A (pyNext (.ref it)) Q E s:=by
  obtain ⟨od,hod,_,hdd⟩:=hm
  have hT : s.TypeIs (.ref it) "dict_itemiterator" := ⟨_,hit,rfl⟩
  unfold pyNext
  refine wpAny_bind (wpAny_attempt (wpAny_callSpecial?_slot (name:=Str.ofString "__next__") hT F.slot_dict_itemiterator_next (wpAny_call_entry F.slot_dict_itemiterator_next hT F.entry_dict_itemiterator_next ?_ (F.args_dict_itemiterator_next_1 _))))
  refine wpAny_bind (wpAny_pure (wpAny_bind (wpAny_bind ?_)))
  first | refine wpAny_bind (wpAny_typeNameOfWhole_itemiter hT (wpAny_pure ?_)) | refine wpAny_bind (wpAny_typeNameOf_itemiter hT (wpAny_pure ?_))
  refine wpAny_bind (wpAny_fieldsOf hit rfl ?_)
  have own : Builtin.Dict_items.ownsTuple "dict_itemiterator" = true:=by decide
  simp only [own,if_true]
  show wpAny _ _ (if (Value.ref d == Value.none) = true then _ else _) _ _ s
  rw [if_neg (show ¬ ((Value.ref d == Value.none) = true) from Bool.false_ne_true)]
  refine wpAny_bind (wpAny_pure (wpAny_bind (wpAny_dictEntries hod hdd ?_)))
  rw [if_neg (by simp)]
  refine wpAny_bind (wpAny_pure (wpAny_bind (wpAny_dictEpoch hod hdd ?_)))
  rw [if_neg (by simp)]
  refine wpAny_pure ?_
  simp only [show ¬ ((i : Int) < 0) from by omega,if_false,Int.toNat_natCast,Array.getElem?_eq_none hi]
  refine wpAny_bind ?_
  first | refine wpAny_bind (wpAny_typeNameOfWhole_itemiter hT (wpAny_pure ?_)) | refine wpAny_bind (wpAny_typeNameOf_itemiter hT (wpAny_pure ?_))
  show wpAny _ _ (setField (.ref it) 2 .none >>= _) _ _ s
  refine wpAny_bind (wpAny_setField hit rfl (by simp) ?_)
  show wpAny _ _ (newExc (.type "StopIteration") [] >>= _) _ _ _
  refine wpAny_bind ?_
  simp only [newExc,newTuple]
  refine wpAny_bind (wpAny_newObj_type ?_ (by size_fits))
  refine wpAny_bind (m:=firstArgMember _ _) (wpAny_of_eq (a:=Value.none) (by first | rfl | (simp only [firstArgMember]; rfl)) ?_)
  refine wpAny_newObj_type ?_ (by size_fits)
  simp only [raiseNew]
  refine wpAny_bind (wpAny_handled ?_)
  rw [show A.in1.handled = none from hh]
  refine wpAny_bind (wpAny_pure (wpAny_throw ?_))
  refine wpAny_bind (wpAny_isInstance (T := "StopIteration") (b:=true) ⟨_,Heap.get?_push_size _ rfl,rfl⟩ isSubtype_stop ?_)
  exact wpAny_pure (hQ _ (((Heap.SameBut.update ..).extBut.push _).push _))
end
end L2.Rw
namespace L2.Pl
abbrev Pw:=List Int
abbrev Mon:=List Int × Int
def lxl : Pw → Pw → Bool
  | [],[]=>false
  | [],_ :: _=>true
  | _ :: _,[]=>false
  | x :: xs,y :: ys=>if x = y then lxl xs ys else decide (x < y)
theorem lxl_irr : ∀ a : Pw,lxl a a = false
  | []=>rfl
  | x :: xs=>by simp [lxl,lxl_irr xs]
theorem lxl_trans : ∀ {a b c : Pw},lxl a b = true → lxl b c = true → lxl a c = true
  | [],[],c,h,_=>by simp [lxl] at h
  | [],_ :: _,[],_,h=>by simp [lxl] at h
  | [],_ :: _,_ :: _,_,_=>rfl
  | _ :: _,[],_,h,_=>by simp [lxl] at h
  | _ :: _,_ :: _,[],_,h=>by simp [lxl] at h
  | x :: xs,y :: ys,z :: zs,h,q=>by
    simp only [lxl] at h q ⊢
    split at h
    · rename_i e
      subst e
      split at q
      · rename_i e
        subst e
        rw [if_pos rfl]
        exact lxl_trans h q
      · rename_i e
        rw [if_neg e]
        exact q
    · rename_i e
      have h':=of_decide_eq_true h
      split at q
      · rename_i e2
        subst e2
        rw [if_neg e]
        exact h
      · have q':=of_decide_eq_true q
        rw [if_neg (by omega)]
        exact decide_eq_true (by omega)
theorem lxl_tri : ∀ {a b : Pw},lxl a b = false → lxl b a = false → a = b
  | [],[],_,_=>rfl
  | [],_ :: _,h,_=>by simp [lxl] at h
  | _ :: _,[],_,h=>by simp [lxl] at h
  | x :: xs,y :: ys,h,q=>by
    simp only [lxl] at h q
    by_cases e : x = y
    · subst e
      rw [if_pos rfl] at h q
      rw [lxl_tri h q]
    · rw [if_neg e] at h
      rw [if_neg (fun z=>e z.symm)] at q
      have h':=of_decide_eq_false h
      have q':=of_decide_eq_false q
      omega
structure Lin {α : Type} (lt : α → α → Bool) : Prop where
  irr : ∀ a,lt a a = false
  trans : ∀ {a b c},lt a b = true → lt b c = true → lt a c = true
  tri : ∀ {a b},lt a b = false → lt b a = false → a = b
theorem lin_lxl : Lin lxl:=⟨lxl_irr,lxl_trans,lxl_tri⟩
def tlt (a b : Mon) : Bool:=if a.1 = b.1 then decide (a.2 < b.2) else lxl a.1 b.1
theorem lin_tlt : Lin tlt where
  irr:=fun a=>by simp [tlt]
  trans:=fun {a b c} h q=>by
    unfold tlt at h q ⊢
    by_cases e1 : a.1 = b.1
    · rw [if_pos e1] at h
      by_cases e2 : b.1 = c.1
      · rw [if_pos e2] at q
        rw [if_pos (e1.trans e2)]
        have:=of_decide_eq_true h
        have:=of_decide_eq_true q
        exact decide_eq_true (by omega)
      · rw [if_neg e2] at q
        rw [if_neg (fun z=>e2 (e1.symm.trans z)),e1]
        exact q
    · rw [if_neg e1] at h
      by_cases e2 : b.1 = c.1
      · rw [← e2,if_neg e1]
        exact h
      · rw [if_neg e2] at q
        have t:=lxl_trans h q
        rw [if_neg (fun z=>by rw [z,lxl_irr] at t; cases t)]
        exact t
  tri:=fun {a b} h q=>by
    unfold tlt at h q
    by_cases e : a.1 = b.1
    · rw [if_pos e] at h
      rw [if_pos e.symm] at q
      have:=of_decide_eq_false h
      have:=of_decide_eq_false q
      exact Prod.ext e (by omega)
    · rw [if_neg e] at h
      rw [if_neg (fun z=>e z.symm)] at q
      exact absurd (lxl_tri h q) e
def rank {α : Type} (lt : α → α → Bool) (l : List α) (a : α) : Nat:=(l.filter (lt · a)).length
theorem rank_lt {α : Type} {lt : α → α → Bool} (L : Lin lt) {l : List α} {a b : α} (ha : a ∈ l) : lt a b = true ↔ rank lt l a < rank lt l b:=by
  constructor
  · intro h
    unfold rank
    have key : ∀ m : List α,(m.filter (lt · a)).length ≤ (m.filter (lt · b)).length ∧ (a ∈ m → (m.filter (lt · a)).length < (m.filter (lt · b)).length):=by
      intro m
      induction m with
      | nil=>simp
      | cons x m ih =>
        rw [List.filter_cons,List.filter_cons]
        by_cases c : lt x a = true
        · rw [if_pos c,if_pos (L.trans c h)]
          simp only [List.length_cons]
          refine ⟨by omega,fun hm=>?_⟩
          rcases List.mem_cons.mp hm with e | hm
          · subst e; rw [L.irr] at c; cases c
          · have:=ih.2 hm; omega
        · rw [if_neg c]
          by_cases c2 : lt x b = true
          · rw [if_pos c2]
            simp only [List.length_cons]
            exact ⟨by omega,fun _=>by omega⟩
          · rw [if_neg c2]
            refine ⟨ih.1,fun hm=>?_⟩
            rcases List.mem_cons.mp hm with e | hm
            · subst e; exact absurd h c2
            · exact ih.2 hm
    exact (key l).2 ha
  · intro h
    cases c : lt a b with
    | true=>rfl
    | false =>
      exfalso
      have key : ∀ m : List α,(m.filter (lt · b)).length ≤ (m.filter (lt · a)).length:=by
        intro m
        induction m with
        | nil=>simp
        | cons x m ih =>
          rw [List.filter_cons,List.filter_cons]
          by_cases c1 : lt x b = true
          · have c2 : lt x a = true:=by
              cases c3 : lt x a with
              | true=>rfl
              | false =>
                cases c4 : lt a x with
                | true =>
                  rw [L.trans c4 c1] at c; cases c
                | false =>
                  have e:=L.tri c3 c4
                  subst e
                  rw [c1] at c; cases c
            rw [if_pos c1,if_pos c2]
            simp only [List.length_cons]
            omega
          · rw [if_neg c1]
            split
            · simp only [List.length_cons]; omega
            · exact ih
      have:=key l
      unfold rank at h
      omega
def cf : List Mon → Pw → Int
  | [],_=>0
  | t :: r,p=>(if t.1 = p then t.2 else 0) + cf r p
theorem cf_append (p : Pw) : ∀ a b : List Mon,cf (a ++ b) p = cf a p + cf b p
  | [],b=>by simp [cf]
  | t :: a,b=>by simp only [List.cons_append,cf,cf_append p a b]; omega
theorem cf_perm {a b : List Mon} (h : a.Perm b) (p : Pw) : cf a p = cf b p:=by
  induction h with
  | nil=>rfl
  | cons x _ ih=>simp only [cf,ih]
  | swap x y l=>simp only [cf]; omega
  | trans _ _ i1 i2=>exact i1.trans i2
theorem cf_none {p : Pw} : ∀ {l : List Mon},(∀ t ∈ l,t.1 ≠ p) → cf l p = 0
  | [],_=>rfl
  | t :: r,h=>by
    simp only [cf]
    rw [if_neg (h t (List.mem_cons_self ..)),cf_none fun x hx=>h x (List.mem_cons_of_mem _ hx)]
    rfl
structure Canon (l : List Mon) : Prop where
  ord : l.Pairwise fun a b=>lxl b.1 a.1 = true
  num : ∀ t ∈ l,t.2 ≠ 0
theorem Canon.tail {t : Mon} {l : List Mon} (h : Canon (t :: l)) : Canon l:=⟨(List.pairwise_cons.mp h.ord).2,fun x hx=>h.num x (List.mem_cons_of_mem _ hx)⟩
theorem Canon.head {t : Mon} {l : List Mon} (h : Canon (t :: l)) : cf (t :: l) t.1 = t.2:=by
  have o:=(List.pairwise_cons.mp h.ord).1
  simp only [cf]
  rw [if_pos trivial,cf_none fun x hx e=>by have:=o x hx; rw [e,lxl_irr] at this; cases this]
  omega
theorem Canon.above {l : List Mon} (h : Canon l) {p : Pw} (q : ∀ t ∈ l,lxl t.1 p = true) : cf l p = 0:=cf_none fun t ht e=>by
  have:=q t ht
  rw [e,lxl_irr] at this
  cases this
theorem canon_eq : ∀ {a b : List Mon},Canon a → Canon b → (∀ p,cf a p = cf b p) → a = b
  | [],[],_,_,_=>rfl
  | [],t :: b,_,hb,e=>by
    have:=e t.1
    rw [hb.head] at this
    exact absurd this.symm (hb.num t (List.mem_cons_self ..))
  | t :: a,[],ha,_,e=>by
    have:=e t.1
    rw [ha.head] at this
    exact absurd this (ha.num t (List.mem_cons_self ..))
  | t :: a,u :: b,ha,hb,e=>by
    have oa:=(List.pairwise_cons.mp ha.ord).1
    have ob:=(List.pairwise_cons.mp hb.ord).1
    have k1 : lxl t.1 u.1 = false:=by
      cases c : lxl t.1 u.1 with
      | false=>rfl
      | true =>
        have z:=e u.1
        rw [hb.head,ha.above fun x hx=>by
          rcases List.mem_cons.mp hx with rfl | hx
          · exact c
          · exact lxl_trans (oa x hx) c] at z
        exact absurd z.symm (hb.num u (List.mem_cons_self ..))
    have k2 : lxl u.1 t.1 = false:=by
      cases c : lxl u.1 t.1 with
      | false=>rfl
      | true =>
        have z:=e t.1
        rw [ha.head,hb.above fun x hx=>by
          rcases List.mem_cons.mp hx with rfl | hx
          · exact c
          · exact lxl_trans (ob x hx) c] at z
        exact absurd z (ha.num t (List.mem_cons_self ..))
    have e1 : t.1 = u.1:=lxl_tri k1 k2
    have e2 : t.2 = u.2:=by
      have z:=e t.1
      rw [ha.head,e1,hb.head] at z
      exact z
    have e3 : t = u:=Prod.ext e1 e2
    subst e3
    rw [canon_eq ha.tail hb.tail fun p=>by
      have z:=e p
      simp only [cf] at z
      omega]
def ins (t : Mon) : List Mon → List Mon
  | []=>if t.2 = 0 then [] else [t]
  | u :: r=>if t.1 = u.1 then (if u.2 + t.2 = 0 then r else (u.1,u.2 + t.2) :: r) else if lxl u.1 t.1 = true then (if t.2 = 0 then u :: r else t :: u :: r) else u :: ins t r
theorem ins_cf (t : Mon) (p : Pw) : ∀ l : List Mon,cf (ins t l) p = (if t.1 = p then t.2 else 0) + cf l p
  | []=>by
    unfold ins
    split
    · rename_i h; simp [cf,h]
    · simp [cf]
  | u :: r=>by
    unfold ins
    split
    · rename_i h
      split
      · rename_i z
        simp only [cf]
        by_cases e : u.1 = p
        · rw [if_pos e,if_pos (h.trans e)]; omega
        · rw [if_neg e,if_neg (fun q=>e (h.symm.trans q))]; omega
      · simp only [cf]
        by_cases e : u.1 = p
        · rw [if_pos e,if_pos e,if_pos (h.trans e)]; omega
        · rw [if_neg e,if_neg e,if_neg (fun q=>e (h.symm.trans q))]; omega
    · split
      · split
        · rename_i z; rw [z]; simp only [cf]; split <;> omega
        · simp only [cf]
      · simp only [cf,ins_cf t p r]; omega
theorem ins_below (t : Mon) {q : Pw} : ∀ {l : List Mon},(∀ x ∈ l,lxl x.1 q = true) → lxl t.1 q = true → ∀ x ∈ ins t l,lxl x.1 q = true
  | [],_,ht,x,hx=>by
    unfold ins at hx
    split at hx
    · simp at hx
    · rw [List.mem_singleton.mp hx]; exact ht
  | u :: r,h,ht,x,hx=>by
    have hr : ∀ x ∈ r,lxl x.1 q = true:=fun y hy=>h y (List.mem_cons_of_mem _ hy)
    have hu:=h u (List.mem_cons_self ..)
    unfold ins at hx
    split at hx
    · split at hx
      · exact hr x hx
      · rcases List.mem_cons.mp hx with rfl | hx
        · exact hu
        · exact hr x hx
    · split at hx
      · split at hx
        · exact h x hx
        · rcases List.mem_cons.mp hx with rfl | hx
          · exact ht
          · exact h x hx
      · rcases List.mem_cons.mp hx with rfl | hx
        · exact hu
        · exact ins_below t hr ht x hx
theorem ins_canon (t : Mon) : ∀ {l : List Mon},Canon l → Canon (ins t l)
  | [],_=>by
    unfold ins
    split
    · exact ⟨.nil,fun x hx=>by simp at hx⟩
    · rename_i h
      exact ⟨List.pairwise_singleton _ _,fun x hx=>by rw [List.mem_singleton.mp hx]; exact h⟩
  | u :: r,h=>by
    obtain ⟨o1,o2⟩:=List.pairwise_cons.mp h.ord
    have nr : ∀ x ∈ r,x.2 ≠ 0:=fun x hx=>h.num x (List.mem_cons_of_mem _ hx)
    have nu:=h.num u (List.mem_cons_self ..)
    unfold ins
    split
    · split
      · exact h.tail
      · rename_i z
        refine ⟨List.pairwise_cons.mpr ⟨o1,o2⟩,fun x hx=>?_⟩
        rcases List.mem_cons.mp hx with rfl | hx
        · exact z
        · exact nr x hx
    · rename_i ne
      split
      · rename_i lt
        split
        · exact h
        · rename_i z
          refine ⟨List.pairwise_cons.mpr ⟨fun x hx=>?_,h.ord⟩,fun x hx=>?_⟩
          · rcases List.mem_cons.mp hx with rfl | hx
            · exact lt
            · exact lxl_trans (o1 x hx) lt
          · rcases List.mem_cons.mp hx with rfl | hx
            · exact z
            · exact h.num x hx
      · rename_i lt
        have c:=ins_canon t h.tail
        have tu : lxl t.1 u.1 = true:=by
          cases k : lxl t.1 u.1 with
          | true=>rfl
          | false=>exact absurd (lxl_tri k (by simpa using lt)) ne
        refine ⟨List.pairwise_cons.mpr ⟨fun x hx=>ins_below t o1 tu x hx,c.ord⟩,fun x hx=>?_⟩
        rcases List.mem_cons.mp hx with rfl | hx
        · exact nu
        · exact c.num x hx
def norm (ts : List Mon) : List Mon:=ts.foldr ins []
theorem norm_canon : ∀ ts : List Mon,Canon (norm ts)
  | []=>⟨.nil,fun x hx=>by simp [norm] at hx⟩
  | t :: r=>ins_canon t (norm_canon r)
theorem norm_cf (p : Pw) : ∀ ts : List Mon,cf (norm ts) p = cf ts p
  | []=>rfl
  | t :: r=>by
    show cf (ins t (norm r)) p = _
    rw [ins_cf,norm_cf p r]
    rfl
theorem norm_of {l ts : List Mon} (c : Canon l) (e : ∀ p,cf l p = cf ts p) : l = norm ts:=canon_eq c (norm_canon ts) fun p=>by rw [e,norm_cf]
theorem norm_congr {a b : List Mon} (e : ∀ p,cf a p = cf b p) : norm a = norm b:=canon_eq (norm_canon a) (norm_canon b) fun p=>by rw [norm_cf,norm_cf,e]
theorem norm_mem {ts : List Mon} {t : Mon} (h : t ∈ norm ts) : ∃ u ∈ ts,u.1 = t.1:=by
  have c:=norm_canon ts
  have : cf (norm ts) t.1 = t.2:=by
    have key : ∀ l : List Mon,Canon l → t ∈ l → cf l t.1 = t.2:=by
      intro l
      induction l with
      | nil=>intro _ hm; simp at hm
      | cons u l ih =>
        intro c hm
        rcases List.mem_cons.mp hm with e | hm
        · subst e; exact c.head
        · have o:=(List.pairwise_cons.mp c.ord).1 t hm
          simp only [cf]
          rw [if_neg (fun e=>by rw [e,lxl_irr] at o; cases o),ih c.tail hm]
          omega
    exact key _ c h
  rw [norm_cf] at this
  false_or_by_contra
  rename_i n
  have z : cf ts t.1 = 0:=cf_none fun u hu e=>n ⟨u,hu,e⟩
  exact c.num t h (by omega)
theorem ins_len (t : Mon) : ∀ l : List Mon,(ins t l).length ≤ l.length + 1
  | []=>by unfold ins; split <;> simp
  | u :: r=>by
    unfold ins
    split
    · split
      · simp; omega
      · simp
    · split
      · split <;> simp
      · have:=ins_len t r; simp; omega
theorem norm_len : ∀ ts : List Mon,(norm ts).length ≤ ts.length
  | []=>Nat.le_refl _
  | t :: r=>by
    have h1:=ins_len t (norm r)
    have h2:=norm_len r
    show (ins t (norm r)).length ≤ r.length + 1
    omega
def dget (d : List Mon) (p : Pw) : Option Int:=(d.find? fun kv=>decide (kv.1 = p)).map (·.2)
def dput (d : List Mon) (p : Pw) (n : Int) : List Mon:=if (d.any fun kv=>decide (kv.1 = p)) = true then d.map (fun kv=>if kv.1 = p then (kv.1,n) else kv) else d ++ [(p,n)]
abbrev Nd (d : List Mon) : Prop:=(d.map (·.1)).Nodup
theorem dget_cf : ∀ {d : List Mon},Nd d → ∀ p,(dget d p).getD 0 = cf d p
  | [],_,p=>rfl
  | t :: r,h,p=>by
    obtain ⟨h1,h2⟩:=List.nodup_cons.mp (show (t.1 :: r.map (·.1)).Nodup from h)
    simp only [cf]
    by_cases e : t.1 = p
    · subst e
      have z : cf r t.1 = 0:=cf_none fun u hu e=>h1 (e ▸ List.mem_map.mpr ⟨u,hu,rfl⟩)
      simp [dget,List.find?_cons,z]
    · have ih:=dget_cf h2 p
      rw [if_neg e,← ih]
      simp [dget,List.find?_cons,e]
theorem dput_keys (d : List Mon) (p : Pw) (n : Int) : (dput d p n).map (·.1) = if p ∈ d.map (·.1) then d.map (·.1) else d.map (·.1) ++ [p]:=by
  unfold dput
  have ha : (d.any fun kv=>decide (kv.1 = p)) = true ↔ p ∈ d.map (·.1):=by simp
  by_cases c : p ∈ d.map (·.1)
  · rw [if_pos (ha.mpr c),if_pos c,List.map_map]
    apply List.map_congr_left
    intro x _
    simp only [Function.comp]
    split <;> rfl
  · rw [if_neg (fun z=>c (ha.mp z)),if_neg c,List.map_append]
    rfl
theorem dput_nd {d : List Mon} (h : Nd d) (p : Pw) (n : Int) : Nd (dput d p n):=by
  unfold Nd
  rw [dput_keys]
  split
  · exact h
  · rename_i c
    exact List.nodup_append.mpr ⟨h,by simp,fun a ha b hb e=>by
      rw [List.mem_singleton.mp hb] at e
      exact c (e ▸ ha)⟩
theorem dput_cf {d : List Mon} (h : Nd d) (p : Pw) (n : Int) (q : Pw) : cf (dput d p n) q = if p = q then n else cf d q:=by
  unfold dput
  by_cases c : (d.any fun kv=>decide (kv.1 = p)) = true
  · rw [if_pos c]
    have key : ∀ l : List Mon,Nd l → (l.any fun kv=>decide (kv.1 = p)) = true → cf (l.map fun kv=>if kv.1 = p then (kv.1,n) else kv) q = if p = q then n else cf l q:=by
      intro l
      induction l with
      | nil=>intro _ z; simp at z
      | cons t r ih =>
        intro hn ha
        obtain ⟨h1,h2⟩:=List.nodup_cons.mp (show (t.1 :: r.map (·.1)).Nodup from hn)
        rw [List.map_cons]
        by_cases e : t.1 = p
        · subst e
          have same : (r.map fun kv=>if kv.1 = t.1 then (kv.1,n) else kv) = r:=by
            conv=>rhs; rw [← List.map_id r]
            apply List.map_congr_left
            intro x hx
            have ne : ¬ x.1 = t.1:=fun e=>h1 (by rw [← e]; exact List.mem_map.mpr ⟨x,hx,rfl⟩)
            rw [if_neg ne]
            rfl
          rw [if_pos rfl,same]
          simp only [cf]
          by_cases e2 : t.1 = q
          · rw [if_pos e2,if_pos e2]
            have z : cf r q = 0:=cf_none fun u hu e=>h1 (by rw [e2,← e]; exact List.mem_map.mpr ⟨u,hu,rfl⟩)
            omega
          · rw [if_neg e2,if_neg e2,if_neg e2]
        · have ha' : (r.any fun kv=>decide (kv.1 = p)) = true:=by simpa [List.any_cons,e] using ha
          rw [if_neg e]
          simp only [cf]
          rw [ih h2 ha']
          by_cases e2 : p = q
          · rw [if_pos e2,if_neg (fun z=>e (z.trans e2.symm)),if_pos e2]; omega
          · rw [if_neg e2,if_neg e2]
    exact key d h c
  · rw [if_neg c,cf_append]
    simp only [cf]
    by_cases e : p = q
    · subst e
      rw [if_pos rfl,if_pos rfl]
      have z : cf d p = 0:=cf_none fun u hu e=>c (List.any_eq_true.mpr ⟨u,hu,decide_eq_true e⟩)
      omega
    · rw [if_neg e,if_neg e]; omega
def dsum (ts : List Mon) : List Mon:=ts.foldl (fun d t=>dput d t.1 ((dget d t.1).getD 0 + t.2)) []
theorem dsum_snoc (ts : List Mon) (t : Mon) : dsum (ts ++ [t]) = dput (dsum ts) t.1 ((dget (dsum ts) t.1).getD 0 + t.2):=by
  unfold dsum; rw [List.foldl_append]; rfl
theorem snoc_ind {α : Type} {P : List α → Prop} (h0 : P []) (hs : ∀ l x,P l → P (l ++ [x])) : ∀ l,P l:=by
  intro l
  rw [← List.reverse_reverse l]
  induction l.reverse with
  | nil=>exact h0
  | cons x l ih=>rw [List.reverse_cons]; exact hs _ _ ih
theorem dsum_nd : ∀ ts : List Mon,Nd (dsum ts):=snoc_ind (by simp [dsum,Nd]) fun l t h=>by rw [dsum_snoc]; exact dput_nd h _ _
theorem dsum_cf (q : Pw) : ∀ ts : List Mon,cf (dsum ts) q = cf ts q:=snoc_ind rfl fun l t h=>by
  rw [dsum_snoc,dput_cf (dsum_nd l),cf_append,dget_cf (dsum_nd l)]
  simp only [cf]
  by_cases e : t.1 = q
  · rw [if_pos e,if_pos e,e,h]; omega
  · rw [if_neg e,if_neg e,h]; omega
theorem dput_len (d : List Mon) (p : Pw) (n : Int) : (dput d p n).length ≤ d.length + 1:=by
  unfold dput
  split <;> simp
theorem dsum_len : ∀ ts : List Mon,(dsum ts).length ≤ ts.length:=snoc_ind (Nat.le_refl _) fun l t h=>by
  rw [dsum_snoc]
  have:=dput_len (dsum l) t.1 ((dget (dsum l) t.1).getD 0 + t.2)
  simp
  omega
theorem dsum_key {p : Pw} : ∀ ts : List Mon,p ∈ (dsum ts).map (·.1) → p ∈ ts.map (·.1):=snoc_ind (by simp [dsum]) fun l t h hp=>by
  rw [dsum_snoc,dput_keys] at hp
  rw [List.map_append]
  split at hp
  · exact List.mem_append_left _ (h hp)
  · rcases List.mem_append.mp hp with z | z
    · exact List.mem_append_left _ (h z)
    · exact List.mem_append_right _ (by rw [List.mem_singleton.mp z]; simp)
theorem dget_some {d : List Mon} {p : Pw} (h : p ∈ d.map (·.1)) : ∃ n,dget d p = some n:=by
  obtain ⟨x,hx,e⟩:=List.mem_map.mp h
  unfold dget
  cases c : d.find? fun kv=>decide (kv.1 = p) with
  | none=>exact absurd (decide_eq_true e) (by simpa using List.find?_eq_none.mp c x hx)
  | some y=>exact ⟨y.2,rfl⟩
theorem cf_filter0 (p : Pw) : ∀ l : List Mon,cf (l.filter fun t=>decide (t.2 ≠ 0)) p = cf l p
  | []=>rfl
  | t :: r=>by
    rw [List.filter_cons]
    by_cases c : t.2 ≠ 0
    · rw [if_pos (decide_eq_true c)]
      simp only [cf,cf_filter0 p r]
    · rw [if_neg (by simpa using c)]
      simp only [cf,cf_filter0 p r]
      split <;> omega
theorem by_pairs {ts l : List Mon} (hp : l.Perm ((dsum ts).filter fun t=>decide (t.2 ≠ 0))) (ho : l.Pairwise fun a b=>tlt a b = false) : l = norm ts:=by
  refine norm_of ⟨?_,fun t ht=>?_⟩ fun p=>?_
  · have nd : (l.map (·.1)).Nodup:=((hp.map (·.1)).nodup_iff).mpr ((dsum_nd ts).sublist (List.filter_sublist.map _))
    rw [List.Nodup,List.pairwise_map] at nd
    refine (List.pairwise_and_iff.mpr ⟨ho,nd⟩).imp fun {a b} h=>?_
    obtain ⟨h1,h2⟩:=h
    unfold tlt at h1
    rw [if_neg h2] at h1
    cases c : lxl b.1 a.1 with
    | true=>rfl
    | false=>exact absurd (lxl_tri h1 c) h2
  · have:=(List.mem_filter.mp (hp.mem_iff.mp ht)).2
    simpa using this
  · rw [cf_perm hp,cf_filter0,dsum_cf]
theorem by_keys {ts : List Mon} {ks : List Pw} (hp : ks.Perm ((dsum ts).map (·.1))) (ho : ks.Pairwise fun a b=>lxl a b = false) :
    (ks.filter fun k=>decide ((dget (dsum ts) k).getD 0 ≠ 0)).map (fun k=>(k,(dget (dsum ts) k).getD 0)) = norm ts:=by
  have nd : ks.Nodup:=(hp.nodup_iff).mpr (dsum_nd ts)
  have so : ks.Pairwise fun a b=>lxl b a = true:=(List.pairwise_and_iff.mpr ⟨ho,nd⟩).imp fun {a b} h=>by
    cases c : lxl b a with
    | true=>rfl
    | false=>exact absurd (lxl_tri h.1 c) h.2
  have g : ∀ p,(dget (dsum ts) p).getD 0 = cf ts p:=fun p=>by rw [dget_cf (dsum_nd ts),dsum_cf]
  have e : (ks.filter fun k=>decide ((dget (dsum ts) k).getD 0 ≠ 0)).map (fun k=>(k,(dget (dsum ts) k).getD 0)) = (ks.filter fun k=>decide (cf ts k ≠ 0)).map fun k=>(k,cf ts k):=by
    simp only [g]
  rw [e]
  refine norm_of ⟨?_,fun t ht=>?_⟩ fun p=>?_
  · rw [List.pairwise_map]
    exact so.sublist List.filter_sublist
  · obtain ⟨k,hk,rfl⟩:=List.mem_map.mp ht
    simpa using (List.mem_filter.mp hk).2
  · have key : ∀ l : List Pw,l.Nodup → cf ((l.filter fun k=>decide (cf ts k ≠ 0)).map fun k=>(k,cf ts k)) p = if p ∈ l then cf ts p else 0:=by
      intro l
      induction l with
      | nil=>intro _; rfl
      | cons a l ih =>
        intro hn
        obtain ⟨h1,h2⟩:=List.nodup_cons.mp hn
        have ih':=ih h2
        rw [List.filter_cons]
        by_cases c : cf ts a ≠ 0
        · rw [if_pos (decide_eq_true c),List.map_cons]
          simp only [cf]
          rw [ih']
          by_cases e : a = p
          · subst e
            rw [if_pos rfl,if_neg h1,if_pos (List.mem_cons_self ..)]; omega
          · rw [if_neg e]
            by_cases m : p ∈ l
            · rw [if_pos m,if_pos (List.mem_cons_of_mem _ m)]; omega
            · rw [if_neg m,if_neg (fun z=>(List.mem_cons.mp z).elim (fun q=>e q.symm) m)]; omega
        · rw [if_neg (by simpa using c),ih']
          have c' : cf ts a = 0:=by omega
          by_cases e : a = p
          · subst e
            rw [if_neg h1,if_pos (List.mem_cons_self ..),c']
          · by_cases m : p ∈ l
            · rw [if_pos m,if_pos (List.mem_cons_of_mem _ m)]
            · rw [if_neg m,if_neg (fun z=>(List.mem_cons.mp z).elim (fun q=>e q.symm) m)]
    rw [key ks nd]
    by_cases m : p ∈ ks
    · rw [if_pos m]
    · rw [if_neg m,← dsum_cf p ts]
      exact (cf_none fun u hu e=>m (hp.mem_iff.mpr (List.mem_map.mpr ⟨u,hu,e⟩))).symm
end L2.Pl
namespace L2.Ev
open PySem PySem.Spec PyProof.Rows
open L2.Ts L2.Pl
theorem lx_eq : ∀ a b : List Int,HT.lexLt a b = lxl a b
  | [],[]=>by rw [HT.lexLt_nil_nil]; rfl
  | [],_ :: _=>by rw [HT.lexLt_nil_cons]; rfl
  | _ :: _,[]=>by rw [HT.lexLt_cons_nil]; rfl
  | x :: xs,y :: ys=>by
    rw [HT.lexLt_cons]
    simp only [lxl]
    split
    · exact lx_eq xs ys
    · rfl
section
variable {prog : Program} {w : World} {A : Around} {E : Value → Shared → Prop} {s : Shared} {b fin : Bool} {Q : Bool → Shared → Prop}
theorem lex_ints : ∀ {vs ws : List Value} {ns ms : List Int} {i : Nat},IntsAre vs ns → IntsAre ws ms → (fin = decide (ns.length < ms.length)) → Q (lxl ns ms) s → PySem.W.KatLex prog w A b fin Q (vs.zip ws) i s
  | [],[],_,_,i,.nil,.nil,e,q=>by
    subst e
    exact PySem.W.kat_nil q
  | [],_ :: _,_,_,i,.nil,.cons _ _ _,e,q=>by
    subst e
    refine PySem.W.kat_nil ?_
    simpa [lxl] using q
  | _ :: _,[],_,_,i,.cons _ _ _,.nil,e,q=>by
    subst e
    refine PySem.W.kat_nil ?_
    simpa [lxl] using q
  | _,_,_,_,i,.cons a t hv,.cons c u hw,e,q=>by
    rw [List.zip_cons_cons]
    simp only [lxl] at q
    obtain ⟨eq,he,hiff⟩:=HT.eqAt_int A s a t c u
    refine PySem.W.kat_cons (he prog w _ _ ?_)
    cases eq with
    | true =>
      rw [if_pos (hiff.mp rfl)] at q
      refine PySem.W.kat_yes (lex_ints hv hw ?_ q)
      rw [e]
      simp
    | false =>
      rw [if_neg (fun z=>absurd (hiff.mpr z) Bool.false_ne_true)] at q
      refine PySem.W.kat_no ?_
      cases hb : (b && i == 0) with
      | true=>exact oneLt_int q
      | false =>
        refine PySem.W.kat_one _ _ ?_
        exact PyProof.Rows.lt_int q
end
section
variable {X : Cx} {pins : List (Addr × Obj)} {σ : St} {H : Hp} {s : Shared}
class Srtd (α : Type) [D : Dat α] where
  lt : α → α → Bool
  lin : Lin lt
  plain : Bool
  ok : α → Prop
  first : ∀ {X : Cx} {pins : List (Addr × Obj)} {σ : St} {H : Hp} {s : Shared} {v : V} {a : α},Inv X pins σ H s → D.is H v a → ok a →
    ∃ (p : Addr) (o : Obj) (xs : Array Value) (n : Nat) (f : Value),RelV v (.ref p) ∧ s.heap.get? p = some o ∧ o.cls = .type "tuple" ∧ o.data = .seq xs n ∧ xs[0]? = some f ∧ PySem.W.Looks (model X.prog X.w) s.heap (typeOf f) (if plain = true then .type "int" else .type "tuple")
  asks : ∀ {X : Cx} {pins : List (Addr × Obj)} {σ : St} {H : Hp} {s : Shared} {A : Around} {v v' : V} {u u' : Value} {a b : α},Inv X pins σ H s → A.units + 4 < cLine → D.is H v a → D.is H v' b → ok a → ok b → RelV v u → RelV v' u' →
    ∀ Q : Bool → Shared → Prop,Q (lt a b) s → wpAny (model X.prog X.w) A (keyLt' (tuples' plain) u u') Q (fun _ _=>False) s
theorem row_at {H : Hp} {v : V} {r : List Int} (h : Dat.is H v r) : ∃ p,v = .ref p ∧ H p = some (.tup (r.map V.int)):=by
  obtain ⟨p,vs,e,q,i⟩:=h
  have ei : ∀ {vs : List V} {ns : List Int},Its H vs ns → vs = ns.map V.int:=by
    intro vs ns i
    induction i with
    | nil=>rfl
    | cons r t ih=>rw [List.map_cons,← ih]; exact congrArg (· :: _) r
  rw [ei i] at q
  exact ⟨p,e,q⟩
theorem row_is {H : Hp} {p : Addr} {r : List Int} (h : H p = some (.tup (r.map V.int))) : Dat.is H (.ref p) r:=by
  have ei : ∀ ns : List Int,Its H (ns.map V.int) ns:=by
    intro ns
    induction ns with
    | nil=>exact .nil
    | cons n r ih=>exact .cons rfl ih
  exact ⟨p,_,rfl,h,ei r⟩
theorem tup_obj {a : Addr} {xs : List V} (I : Inv X pins σ H s) (h : H a = some (.tup xs)) : ∃ (o : Obj) (its : List Value) (n : Nat),s.heap.get? a = some o ∧ o.cls = .type "tuple" ∧ o.data = .seq its.toArray n ∧ Vals xs its:=by
  obtain ⟨its,rv,ht,_⟩:=I.tuple (SqT.of h)
  obtain ⟨o,ho,hc,n,hd⟩:=ht
  exact ⟨o,its,n,ho,hc,hd,rv⟩
instance srtList : Srtd (List Int) where
  lt:=lxl
  lin:=lin_lxl
  plain:=true
  ok:=fun a=>a ≠ []
  first:=fun {X pins σ H s v a} I h ok=>by
    obtain ⟨p,rfl,hp⟩:=row_at h
    obtain ⟨o,its,n,ho,hc,hd,rv⟩:=tup_obj I hp
    cases a with
    | nil=>exact absurd rfl ok
    | cons x a =>
      rw [List.map_cons] at rv
      cases rv with
      | cons r t =>
        obtain ⟨tk,rfl⟩:=r
        exact ⟨p,o,_,n,_,rfl,ho,hc,hd,rfl,PySem.W.Looks.of_pure rfl⟩
  asks:=fun {X pins σ H s A v v' u u' a b} I hu h h' ok ok' r r' Q q=>by
    obtain ⟨p,rfl,hp⟩:=row_at h
    obtain ⟨p',rfl,hp'⟩:=row_at h'
    obtain ⟨o,its,n,ho,hc,hd,rv⟩:=tup_obj I hp
    obtain ⟨o',its',n',ho',hc',hd',rv'⟩:=tup_obj I hp'
    cases r
    cases r'
    refine PySem.W.kat_lt ho hd ho' hd' (lex_ints (intsAre_of rv) (intsAre_of rv') ?_ q)
    have l1:=rv.length
    have l2:=rv'.length
    simp only [List.length_map] at l1 l2
    simp only [List.size_toArray]
    rw [l1,l2]
instance srtTm : Srtd (List Int × Int) where
  lt:=tlt
  lin:=lin_tlt
  plain:=false
  ok:=fun _=>True
  first:=fun {X pins σ H s v a} I h ok=>by
    obtain ⟨p,x,y,rfl,hp,hx,hy⟩:=h
    obtain ⟨o,its,n,ho,hc,hd,rv⟩:=tup_obj I hp
    obtain ⟨p2,rfl,hp2⟩:=row_at hx
    obtain ⟨o2,its2,n2,ho2,hc2,hd2,rv2⟩:=tup_obj I hp2
    obtain ⟨w1,w2,rfl,r1,r2⟩:=vals2 rv
    cases r1
    refine ⟨p,o,_,n,_,rfl,ho,hc,hd,rfl,?_⟩
    rw [if_neg (by decide),← hc2]
    exact (PySem.W.Looks.ld ho2).andThen .now
  asks:=fun {X pins σ H s A v v' u u' a b} I hu h h' ok ok' r r' Q q=>by
    obtain ⟨p,x,y,rfl,hp,hx,hy⟩:=h
    obtain ⟨p',x',y',rfl,hp',hx',hy'⟩:=h'
    obtain ⟨o,its,n,ho,hc,hd,rv⟩:=tup_obj I hp
    obtain ⟨o',its',n',ho',hc',hd',rv'⟩:=tup_obj I hp'
    cases r
    cases r'
    obtain ⟨w1,w2,rfl,r1,r2⟩:=vals2 rv
    obtain ⟨z1,z2,rfl,t1,t2⟩:=vals2 rv'
    refine PySem.W.kat_lt ho hd ho' hd' ?_
    show PySem.W.KatLex _ _ _ _ _ _ [(w1,z1),(w2,z2)] 0 s
    have e1:=Dat.eqAt (A:=A) I (by show A.units + (0 + 1) < cLine; omega) hx hx' r1 t1
    refine PySem.W.kat_cons (e1 _ _ _ _ ?_)
    unfold tlt at q
    cases c : Dat.eqb a.1 b.1 with
    | true =>
      have e:=(Dat.eqb_iff a.1 b.1).mp c
      rw [if_pos e] at q
      refine PySem.W.kat_yes ?_
      have hy2 : y = .int a.2:=hy
      have hy2' : y' = .int b.2:=hy'
      subst hy2 hy2'
      obtain ⟨k1,rfl⟩:=r2
      obtain ⟨k2,rfl⟩:=t2
      obtain ⟨eq,he,hiff⟩:=HT.eqAt_int A s a.2 k1 b.2 k2
      refine PySem.W.kat_cons (he _ _ _ _ ?_)
      cases eq with
      | true =>
        have e2:=hiff.mp rfl
        rw [decide_eq_false (by omega)] at q
        refine PySem.W.kat_yes (PySem.W.kat_nil ?_)
        simpa using q
      | false =>
        refine PySem.W.kat_no (PySem.W.kat_one _ _ ?_)
        exact PyProof.Rows.lt_int q
    | false =>
      have e : ¬ a.1 = b.1:=fun z=>by rw [(Dat.eqb_iff a.1 b.1).mpr z] at c; cases c
      rw [if_neg e] at q
      refine PySem.W.kat_no (PySem.W.kat_one _ _ ?_)
      obtain ⟨p2,rfl,hp2⟩:=row_at hx
      obtain ⟨p2',rfl,hp2'⟩:=row_at hx'
      cases r1
      cases t1
      obtain ⟨its,r1,q1,_⟩:=I.tuple (SqT.of hp2)
      obtain ⟨its2,r2,q2,_⟩:=I.tuple (SqT.of hp2')
      have i1 : IntsAre its.toArray.toList a.1:=intsAre_of r1
      have i2 : IntsAre its2.toArray.toList b.1:=intsAre_of r2
      refine HT.lt_tupInts q1 q2 i1 i2 (by omega) ?_
      rw [lx_eq]
      exact q
end
end L2.Ev
namespace L2.Ts
open PySem PyProof.Rows
section
variable {prog : Program} {w : World} {A : Around} {E : Value → Shared → Prop} {s : Shared} {κ : SortKind} {M : Keyed → Prop} {rk : Keyed → Nat}
theorem zip_self (vs : List Value) : (vs.zip vs).map (·.2) = vs:=List.map_snd_zip (Nat.le_refl _)
theorem sort_down {a : Addr} {vs : List Value} {n : Nat} {P : PySem.Fin → Shared → Prop} (ho : s.heap.get? a = some (seqObj "list" vs.toArray n)) (hz : vs.length ≤ sizeLine) (hM : ∀ v ∈ vs,M (v,v))
    (hk : ∀ h',(∀ b o,b ≠ a → s.heap.get? b = some o → h'.get? b = some o) → 2 ≤ vs.length → (∀ (Q : SortKind → Shared → Prop) (E' : Value → Shared → Prop),Q κ { s with heap:=h' } → wpAny (model prog w) A (keyKind' vs.toArray) Q E' { s with heap:=h' }) ∧ Ask prog w A { s with heap:=h' } κ M rk)
    (h : ∀ out : List Value,out.Perm vs → (out.Pairwise fun x y=>rk (y,y) ≤ rk (x,x)) → P (.done (.ret .none)) { s with heap:=sortedHeap s.heap a vs out.toArray }) :
    wpAny (model prog w) A (Builtin.«list.sort» ⟨[.ref a],[(Str.ofString "reverse",.bool true)]⟩) P E s:=by
  rw [list_sort_rev]
  have ha : a < s.heap.objs.size:=Heap.lt_size ho
  have hsz : vs.toArray.size = vs.length:=by simp
  refine wpAny_bind (listItems_at ho rfl (wpAny_bind (listUpdate_at ho rfl ?_ (by rw [hsz]; exact hz) (by simp))))
  obtain ⟨e1,ho1⟩ : ∃ e1,(s.heap.update a (Obj.mapSeq fun _=>#[])).get? a = some (seqObj "list" #[] e1):=⟨_,get?_update_seq ho (fun _=>#[])⟩
  refine wpAny_bind (seqEpoch_at ho1 rfl (wpAny_bind (wpAny_newTuple ?_ (by simpa using hz))))
  refine wpAny_bind (wpAny_newList (wpAny_holding ?_))
  have ho6 : (((s.heap.update a (Obj.mapSeq fun _=>#[])).push (seqObj "tuple" vs.toArray 0)).push (seqObj "list" #[] 0)).get? a = some (seqObj "list" #[] e1):=by
    rw [Heap.get?_push_ne _ _ _ (by rw [size_push',Heap.size_update]; exact Nat.ne_of_lt (Nat.lt_succ_of_lt ha)),Heap.get?_push_ne _ _ _ (by rw [Heap.size_update]; exact Nat.ne_of_lt ha)]
    exact ho1
  have keep : ∀ b o,b ≠ a → s.heap.get? b = some o → (((s.heap.update a (Obj.mapSeq fun _=>#[])).push (seqObj "tuple" vs.toArray 0)).push (seqObj "list" #[] 0)).get? b = some o:=fun b o hb e =>
    Heap.get?_push_of_some _ (Heap.get?_push_of_some _ ((Heap.get?_update_other _ _ (Ne.symm hb)).trans e))
  show wpAny (model prog w) A _ P E { s with heap:=((s.heap.update a (Obj.mapSeq fun _=>#[])).push (seqObj "tuple" vs.toArray 0)).push (seqObj "list" #[] 0) }
  dsimp only
  simp only [if_true]
  refine wpAny_bind (wpAny_rule ?_)
  by_cases h2 : vs.toArray.size < 2
  · rw [if_pos h2,if_pos h2]
    refine wpAny_bind (wpAny_pure ?_)
    rw [StateT.run_pure]
    refine wpAny_bind (wpAny_pure ?_)
    dsimp only
    have eo : ((arrOf (SortSt.mk' general' (vs.toArray.zip vs.toArray).reverse #[] 7 none)).map (·.2)).reverse = vs.toArray:=by
      show ((vs.toArray.zip vs.toArray).reverse.map (·.2)).reverse = vs.toArray
      apply Array.ext'
      simp only [Array.toList_reverse,Array.toList_map,Array.toList_zip,List.map_reverse,List.reverse_reverse]
      exact zip_self vs
    refine wpAny_bind (seqEpoch_at ho6 rfl (wpAny_bind (listUpdate_at ho6 rfl ?_ (by simp) ?_)))
    · simp only [bne_self_eq_false,Bool.false_eq_true,if_false]
      refine wpAny_pure ?_
      have q:=h vs (List.Perm.refl _) (by
        match vs,hsz,h2 with
        | [],_,_=>exact .nil
        | [x],_,_=>exact List.pairwise_singleton _ _
        | _ :: _ :: _,_,h2=>exfalso; simp at h2; omega)
      unfold sortedHeap at q
      rw [eo]
      exact q
    · rw [eo,hsz]; omega
  · rw [if_neg h2,if_neg h2]
    obtain ⟨k1,k2⟩:=hk _ keep (by omega)
    refine wpAny_bind (k1 _ _ ?_)
    have all : All M (arrOf (SortSt.mk' κ (vs.toArray.zip vs.toArray).reverse #[] 7 none)):=fun i p hp=>by
      have hm : p ∈ (vs.toArray.zip vs.toArray).reverse:=Array.mem_of_getElem? hp
      have hm2 : p ∈ vs.zip vs:=by
        have : p ∈ (vs.toArray.zip vs.toArray).toList:=by simpa using Array.mem_reverse.mp hm
        simpa using this
      obtain ⟨e,m⟩:=mem_zip_self hm2
      have : p = (p.1,p.1):=Prod.ext rfl e.symm
      rw [this]
      exact hM _ m
    have z0 : (arrOf (SortSt.mk' κ (vs.toArray.zip vs.toArray).reverse #[] 7 none)).size = vs.length:=by
      show (vs.toArray.zip vs.toArray).reverse.size = vs.length
      simp
    refine wpAny_bind (wpAny_mono (sort_ok k2 (st:=SortSt.mk' κ (vs.toArray.zip vs.toArray).reverse #[] 7 none) (Q:=fun _ st'=>(arrOf st').Perm (vs.toArray.zip vs.toArray).reverse ∧ failedOf st' = none ∧ Srt rk (arrOf st') 0 vs.length) rfl all rfl rfl (by rw [z0]; omega)
      fun st' a1 a2 a3=>⟨a1,a2,by rw [z0] at a3; exact a3⟩) ?_ fun _ _ e=>e)
    rintro ⟨⟨⟩,st'⟩ s' ⟨rfl,hp,hf,hs⟩
    dsimp only
    have zs : (arrOf st').size = vs.length:=by rw [hp.size_eq]; exact z0
    have lp : (arrOf st').toList.Perm (vs.zip vs):=by
      have:=Array.perm_iff_toList_perm.mp hp
      rw [Array.toList_reverse] at this
      exact this.trans ((List.reverse_perm _).trans (List.Perm.of_eq (by simp)))
    have eo : ((arrOf st').map (·.2)).reverse = (((arrOf st').toList.map (·.2)).reverse).toArray:=by
      apply Array.ext'
      simp
    refine wpAny_bind (seqEpoch_at ho6 rfl (wpAny_bind (listUpdate_at ho6 rfl ?_ (by simp) ?_)))
    · rw [hf]
      simp only [bne_self_eq_false,Bool.false_eq_true,if_false]
      refine wpAny_pure ?_
      have q:=h (((arrOf st').toList.map (·.2)).reverse) ?_ ?_
      · unfold sortedHeap at q
        rw [eo]
        exact q
      · have:=lp.map (·.2)
        rw [zip_self] at this
        exact (List.reverse_perm _).trans this
      · rw [List.pairwise_reverse,List.pairwise_map]
        refine List.pairwise_iff_getElem.mpr fun i j hi hj hij=>?_
        have li : i < (arrOf st').size:=by simpa using hi
        have lj : j < (arrOf st').size:=by simpa using hj
        have q:=hs i j (Nat.zero_le _) (Nat.le_of_lt hij) (by omega)
        rw [kv_of (Array.getElem?_eq_getElem li),kv_of (Array.getElem?_eq_getElem lj)] at q
        have twin : ∀ p ∈ (arrOf st').toList,p = (p.2,p.2):=fun p m=>Prod.ext (mem_zip_self (lp.mem_iff.mp m)).1 rfl
        have ei:=twin (arrOf st').toList[i] (List.getElem_mem _)
        have ej:=twin (arrOf st').toList[j] (List.getElem_mem _)
        rw [← ei,← ej]
        simpa using q
    · rw [Array.size_reverse,Array.size_map,zs]; omega
theorem sorted_down {r : Addr} {vs : List Value} {Q : Value → Shared → Prop} (hz : vs.length ≤ sizeLine) (hM : ∀ v ∈ vs,M (v,v))
    (hc : ∀ (Q' : List Value → Shared → Prop),(∀ h' tk,(∀ b o,s.heap.get? b = some o → h'.get? b = some o) → s.heap.objs.size ≤ h'.objs.size → Q' vs { s with heap:=h',toks:=tk }) → wpAny (model prog w) A.in1 (collect (.ref r)) Q' E s)
    (hk : ∀ h' tk,(∀ b o,s.heap.get? b = some o → h'.get? b = some o) → 2 ≤ vs.length → (∀ (Q' : SortKind → Shared → Prop) (E' : Value → Shared → Prop),Q' κ { s with heap:=h',toks:=tk } → wpAny (model prog w) A.in1.in1 (keyKind' vs.toArray) Q' E' { s with heap:=h',toks:=tk }) ∧ Ask prog w A.in1.in1 { s with heap:=h',toks:=tk } κ M rk)
    (h : ∀ h' tk D e (out : List Value),out.Perm vs → (out.Pairwise fun x y=>rk (y,y) ≤ rk (x,x)) → (∀ b o,s.heap.get? b = some o → h'.get? b = some o) → s.heap.objs.size ≤ D → h'.get? D = some (seqObj "list" out.toArray e) → Q (.ref D) { s with heap:=h',toks:=tk }) :
    wpAny (model prog w) A (call (.builtin "sorted") [.ref r] [(Str.ofString "reverse",.bool true)]) Q E s:=by
  refine call_function_entry_kw kind_sorted plain_sorted entry_sorted (args_sorted_rev _ _) ?_
  unfold Builtin.«sorted»
  refine wpAny_bind (m:=checkCount "sorted" 1 1 _) (wpAny_pure ?_)
  refine wpAny_bind (hc _ fun h' tk kp sz=>?_)
  refine wpAny_bind (wpAny_newList ?_ hz)
  have hoL : (h'.push (seqObj "list" vs.toArray 0)).get? h'.objs.size = some (seqObj "list" vs.toArray 0):=Heap.get?_push_size _ rfl
  have lt : ∀ b o,s.heap.get? b = some o → b < h'.objs.size:=fun b o e=>Heap.lt_size (kp b o e)
  refine wpAny_bind (wpAny_holding (wpAny_call_entry_kw slot_list_sort ⟨_,hoL,rfl⟩ entry_list_sort (sort_down (s:={ s with heap:=h'.push (seqObj "list" vs.toArray 0),toks:=tk }) (κ:=κ) (M:=M) (rk:=rk) hoL hz hM (fun h2 k2 l2=>?_) fun out p o=>⟨_,rfl,?_⟩) (args_list_sort_rev _ _)))
  · exact hk h2 tk (fun b o e=>k2 b o (Nat.ne_of_lt (lt b o e)) (Heap.get?_push_of_some _ (kp b o e))) l2
  · obtain ⟨c,hc'⟩:=sortedHeap_at (vs:=vs) (out:=out.toArray) hoL
    refine wpAny_pure ⟨_,rfl,h _ tk h'.objs.size c out p o (fun b o e=>?_) sz hc'⟩
    have ne : b ≠ h'.objs.size:=Nat.ne_of_lt (lt b o e)
    unfold sortedHeap
    refine (Heap.get?_update_other _ _ (Ne.symm ne)).trans (Heap.get?_push_of_some _ (Heap.get?_push_of_some _ ((Heap.get?_update_other _ _ (Ne.symm ne)).trans (Heap.get?_push_of_some _ (kp b o e)))))
end
end L2.Ts
namespace L2.Rw
open PySem PySem.W PySem.Calls PyProof.Rows PySem.Spec
section
variable {prog : Program} {w : World} {A : Around} {E : Value → Shared → Prop} {s : Shared} {d : Addr} {es : Array DictEntry} {ep : Nat}
theorem src_raw (lo : (d == sysModules) = false) : KdlSrc prog w "dict" d d es.size (fun i v=>∃ h : i < es.size,v = es[i].key) (fun h=>RawD h d es ep) where
  type:=fun _ hm=>hm.type
  there:=fun _ hm=>⟨hm.lt,hm.lt⟩
  keep:=fun _ _ hm hk=>hm.keep fun o e=>hk d (.inl rfl) o e
  notList:=by decide
  notTuple:=by decide
  hint:=fun _ _ _ _ hm hq=>kdl_hint_dict hm.type hq
  iter:=fun _ _ hh hm=>⟨_,_,(fun _ _ hq=>iter_raw lo hm hq),walk_keys hh _ d (Nat.ne_of_lt hm.lt) es ep,⟨⟨_,Heap.get?_push_size _ rfl,rfl,rfl⟩,hm.keep fun o e=>Heap.get?_push_of_some _ e⟩⟩
theorem collect_src {T : String} {r : Addr} {n : Nat} {P : Nat → Value → Prop} {OK : Heap → Prop} {Q : List Value → Shared → Prop} (K : KdlSrc prog w T r d n P OK) (hh : A.handled = none) (hok : OK s.heap) (hn : n ≤ sizeLine)
    (hQ : ∀ h' tk acc,(∀ b o,s.heap.get? b = some o → h'.get? b = some o) → s.heap.objs.size ≤ h'.objs.size → ItemsOf P acc n → Q acc.toList { s with heap:=h',toks:=tk }) : wpAny (model prog w) A (collect (.ref r)) Q E s:=by
  obtain ⟨tr,td⟩:=K.there _ hok
  unfold collect
  refine wpAny_bind (wpAny_runValue (codeAny_builtin PySem.F.entry_proto_collect ?_))
  rw [Around.under_plainId PySem.F.plain_proto_collect _]
  show wpAny _ A.in1 (newList [] >>= fun l=>again (.builtin "list.__iadd__" ⟨[l,.ref r],[]⟩)) _ _ s
  refine wpAny_bind (wpAny_newObj_type (wpAny_pure ⟨plainId_quiet PySem.F.plain_list_iadd _,codeAny_builtin PySem.F.entry_list_iadd ?_⟩))
  rw [Around.under_plainId PySem.F.plain_list_iadd _]
  have hok1:=K.keep _ (s.heap.push { cls:=.type "list",data:=.seq ([] : List Value).toArray }) hok fun b _ o e=>Heap.get?_push_of_some _ e
  have key:=kdl_extend (A:=A) (s:={ s with heap:=s.heap.push { cls:=.type "list",data:=.seq ([] : List Value).toArray } })
    (R:=fun (q : Result) (s' : Shared)=>∃ (h' : Heap) (tk : Nat) (acc : Array Value) (c : Nat),q = .ok (.ret (.ref s.heap.objs.size)) ∧ s' = { s with heap:=h',toks:=tk } ∧ (∀ b o,s.heap.get? b = some o → h'.get? b = some o) ∧ h'.get? s.heap.objs.size = some { cls:=.type "list",dict:=none,data:=.seq acc c,slots:=#[] } ∧ ItemsOf P acc n)
    K hh hok1 s.heap.objs.size (Nat.ne_of_gt tr) (Nat.ne_of_gt td) (.ref s.heap.objs.size) 0 (Heap.get?_push_size _ rfl)
    (fun h' tk acc c kp hS it=>⟨h',tk,acc,c,rfl,rfl,fun b o e=>kp b o (Nat.ne_of_lt (Heap.lt_size e)) (Heap.get?_push_of_some _ e),hS,it⟩) hn
  have fin : ∀ (q : Result) (s' : Shared),(∃ (h' : Heap) (tk : Nat) (acc : Array Value) (c : Nat),q = .ok (.ret (.ref s.heap.objs.size)) ∧ s' = { s with heap:=h',toks:=tk } ∧ (∀ b o,s.heap.get? b = some o → h'.get? b = some o) ∧ h'.get? s.heap.objs.size = some { cls:=.type "list",dict:=none,data:=.seq acc c,slots:=#[] } ∧ ItemsOf P acc n) →
      q = .ok (.ret (.ref s.heap.objs.size)) ∧ wpAny (model prog w) A (load s.heap.objs.size >>= fun o=>match o.data with | .seq xs _=>pure xs.toList | _=>unsupported "internal:collect") Q E s':=by
    rintro q s' ⟨h',tk,acc,c,rfl,rfl,kp,hS,it⟩
    exact ⟨rfl,wpAny_bind (wpAny_load hS (wpAny_pure (hQ h' tk acc kp (Nat.le_of_lt (Heap.lt_size hS)) it)))⟩
  refine wpAny_mono key (fun f s' x=>?_) fun e s' x=>?_
  · cases f with
    | done f =>
      obtain ⟨e,q⟩:=fin _ _ x
      cases e
      exact q
    | again c₁ =>
      refine ⟨x.1,codeAny_mono x.2 fun q s₂ y=>?_⟩
      obtain ⟨e,q⟩:=fin _ _ y
      subst e
      exact q
  · obtain ⟨e',_⟩:=fin _ _ x
    cases e'
end
end L2.Rw
namespace L2.Ev
open PySem PySem.Spec PyProof.Rows
def closL (cells : List (Str × Addr)) : List (Str × NameKind) → List (Str × Addr) → List (Str × Addr)
  | [],acc=>acc
  | (n,k) :: r,acc=>if (k == NameKind.free) = true then closL cells r ((n,(cells.lookup n).getD 0) :: acc) else closL cells r acc
theorem closureFor_is {env : Env} (names : List (Str × NameKind)) (h : ∀ x ∈ names,x.2 = .free → ∃ c,env.cells.lookup x.1 = some c) (acc : List (Str × Addr)) :
    (do
      let mut cs:=acc
      for (name,kind) in names do
        if kind == .free then cs:=(name,← cellOf env name) :: cs
      return cs : Sem (List (Str × Addr))) = pure (closL env.cells names acc):=by
  induction names generalizing acc with
  | nil=>simp [closL]
  | cons x r ih =>
    obtain ⟨n,k⟩:=x
    have hr : ∀ x ∈ r,x.2 = .free → ∃ c,env.cells.lookup x.1 = some c:=fun x hx=>h x (List.mem_cons_of_mem _ hx)
    by_cases hk : k = .free
    · subst hk
      obtain ⟨c,hc⟩:=h (n,.free) List.mem_cons_self rfl
      have ih':=ih hr ((n,c) :: acc)
      simp only [List.forIn_cons,beq_self_eq_true,if_true,cellOf,hc,closL,Option.getD_some,pure_bind] at ih' ⊢
      exact ih'
    · have hb : (k == NameKind.free) = false:=by simpa using hk
      have ih':=ih hr acc
      simp only [List.forIn_cons,hb,Bool.false_eq_true,if_false,closL,pure_bind] at ih' ⊢
      exact ih'
theorem closL_some {cells : List (Str × Addr)} : ∀ {names : List (Str × NameKind)} {acc : List (Str × Addr)},(∀ x ∈ names,x.2 = .free → ∃ c,cells.lookup x.1 = some c) → (∀ x c,acc.lookup x = some c → cells.lookup x = some c) →
    ∀ x c,(closL cells names acc).lookup x = some c → cells.lookup x = some c
  | [],acc,_,ha,x,c,e=>ha x c e
  | (n,k) :: r,acc,h,ha,x,c,e=>by
    have hr : ∀ x ∈ r,x.2 = .free → ∃ c,cells.lookup x.1 = some c:=fun x hx=>h x (List.mem_cons_of_mem _ hx)
    unfold closL at e
    by_cases hk : (k == NameKind.free) = true
    · rw [if_pos hk] at e
      refine closL_some hr (fun y d e'=>?_) x c e
      obtain ⟨c0,hc0⟩:=h (n,k) List.mem_cons_self (by simpa using hk)
      rw [List.lookup_cons] at e'
      cases hy : y == n with
      | true =>
        rw [hy] at e'
        have e1 : y = n:=by simpa using hy
        subst e1
        have e2 : (cells.lookup y).getD 0 = d:=by simpa using e'
        have hc1 : cells.lookup y = some c0:=hc0
        rw [hc1] at e2 ⊢
        simpa using e2
      | false=>rw [hy] at e'; exact ha y d e'
    · rw [if_neg hk] at e
      exact closL_some hr ha x c e
theorem closL_has {cells : List (Str × Addr)} : ∀ {names : List (Str × NameKind)} {acc : List (Str × Addr)} {x : Str},((∃ c,acc.lookup x = some c) ∨ (x,NameKind.free) ∈ names) → ∃ c,(closL cells names acc).lookup x = some c
  | [],acc,x,h=>by
    rcases h with h | h
    · exact h
    · simp at h
  | (n,k) :: r,acc,x,h=>by
    unfold closL
    by_cases hk : (k == NameKind.free) = true
    · rw [if_pos hk]
      refine closL_has ?_
      rw [List.lookup_cons]
      cases hy : x == n with
      | true=>exact .inl ⟨_,rfl⟩
      | false =>
        rcases h with h | h
        · exact .inl h
        · rcases List.mem_cons.mp h with e | h
          · injection e with e1 e2
            subst e1
            simp at hy
          · exact .inr h
    · rw [if_neg hk]
      refine closL_has ?_
      rcases h with h | h
      · exact .inl h
      · rcases List.mem_cons.mp h with e | h
        · injection e with e1 e2
          subst e2
          simp at hk
        · exact .inr h
theorem mem_of_lookup {α β : Type} [BEq α] [LawfulBEq α] : ∀ {l : List (α × β)} {x : α} {k : β},l.lookup x = some k → (x,k) ∈ l
  | [],_,_,h=>by simp at h
  | (n,j) :: r,x,k,h=>by
    rw [List.lookup_cons] at h
    cases hy : x == n with
    | true =>
      rw [hy] at h
      have e1 : x = n:=by simpa using hy
      have e2 : j = k:=by simpa using h
      subst e1 e2
      exact List.mem_cons_self
    | false=>rw [hy] at h; exact List.mem_cons_of_mem _ (mem_of_lookup h)
theorem relabel_not_local {env : Env} : ∀ {names : List (Str × NameKind)} {x : Str} {k : NameKind},(∀ y ∈ names,y.2 ≠ .cell) → (k = .cell ∨ k = .free) →
    (names.map fun (n,k)=>if (k == NameKind.free && env.scope.kind == .function && env.kindOf n == some .cell) then (n,NameKind.cell) else (n,k)).lookup x = some k → (x,NameKind.free) ∈ names
  | [],_,_,_,_,h=>by simp at h
  | (n,j) :: r,x,k,hc,hk,h=>by
    have hr : ∀ y ∈ r,y.2 ≠ .cell:=fun y hy=>hc y (List.mem_cons_of_mem _ hy)
    have hj : j ≠ .cell:=hc (n,j) List.mem_cons_self
    have h' : List.lookup x ((if (j == NameKind.free && env.scope.kind == .function && env.kindOf n == some .cell) = true then (n,NameKind.cell) else (n,j)) :: r.map fun (n,k)=>if (k == NameKind.free && env.scope.kind == .function && env.kindOf n == some .cell) then (n,NameKind.cell) else (n,k)) = some k:=h
    by_cases c : (j == NameKind.free && env.scope.kind == .function && env.kindOf n == some .cell) = true
    · rw [if_pos c,List.lookup_cons] at h'
      simp only [Bool.and_eq_true] at c
      have ej : j = .free:=by simpa using c.1.1
      cases hy : x == n with
      | true =>
        have e1 : x = n:=by simpa using hy
        subst e1 ej
        exact List.mem_cons_self
      | false=>rw [hy] at h'; exact List.mem_cons_of_mem _ (relabel_not_local hr hk h')
    · rw [if_neg c,List.lookup_cons] at h'
      cases hy : x == n with
      | true =>
        rw [hy] at h'
        have e1 : x = n:=by simpa using hy
        have e2 : j = k:=by simpa using h'
        subst e1 e2
        rcases hk with hk | hk
        · exact absurd hk hj
        · subst hk; exact List.mem_cons_self
      | false=>rw [hy] at h'; exact List.mem_cons_of_mem _ (relabel_not_local hr hk h')
theorem relabel_free {env : Env} : ∀ {names : List (Str × NameKind)} {x : Str},names.lookup x = some .free →
    (names.map fun (n,k)=>if (k == NameKind.free && env.scope.kind == .function && env.kindOf n == some .cell) then (n,NameKind.cell) else (n,k)).lookup x = some .cell ∨
    (names.map fun (n,k)=>if (k == NameKind.free && env.scope.kind == .function && env.kindOf n == some .cell) then (n,NameKind.cell) else (n,k)).lookup x = some .free
  | [],_,h=>by simp at h
  | (n,j) :: r,x,h=>by
    have key : ∀ (z : Str × NameKind),z = (if (j == NameKind.free && env.scope.kind == .function && env.kindOf n == some .cell) = true then (n,NameKind.cell) else (n,j)) →
      (List.lookup x (z :: r.map fun (n,k)=>if (k == NameKind.free && env.scope.kind == .function && env.kindOf n == some .cell) then (n,NameKind.cell) else (n,k)) = some .cell ∨
       List.lookup x (z :: r.map fun (n,k)=>if (k == NameKind.free && env.scope.kind == .function && env.kindOf n == some .cell) then (n,NameKind.cell) else (n,k)) = some .free):=by
      intro z hz
      rw [List.lookup_cons] at h
      cases hy : x == n with
      | true =>
        rw [hy] at h
        have e2 : j = .free:=by simpa using h
        subst e2
        by_cases c : (NameKind.free == NameKind.free && env.scope.kind == .function && env.kindOf n == some .cell) = true
        · rw [if_pos c] at hz; subst hz; left; rw [List.lookup_cons,hy]
        · rw [if_neg c] at hz; subst hz; right; rw [List.lookup_cons,hy]
      | false =>
        rw [hy] at h
        have ih:=relabel_free (env:=env) h
        have hz1 : z.1 = n:=by rw [hz]; split <;> rfl
        obtain ⟨z1,z2⟩:=z
        simp only at hz1
        subst hz1
        rw [List.lookup_cons,hy]
        exact ih
    exact key _ rfl
structure Bk where
  C : Addr
  s : Shared
  H : Hp
  ex : List Addr
abbrev blk (X : Cx) (N' : List Str) (scope : Scope) (b : Bk) : Cx :=
  { X with N:=N',s₀:=b.s,H₀:=b.H,env:=compEnvC scope (closL X.env.cells scope.names []) b.C X.env,outer:=X.stack,stack:=X.stack,ex:=b.ex,fn:=fun _=>false,pn:=[],xe:=fun _ _=>False }
structure BkScope (X : Cx) (N' : List Str) (src : List (Option Nat)) (scope : Scope) : Prop where
  kind : scope.kind = .function
  nocell : ∀ y ∈ scope.names,y.2 ≠ .cell
  names : ∀ y ∈ scope.names,y.2 = .local → scope.names.lookup y.1 = some .local
  frees : ∀ y ∈ scope.names,y.2 = .free → X.env.kindOf y.1 = some .cell ∨ X.env.kindOf y.1 = some .free
  len : src.length = N'.length
  out : ∀ i j : Nat,src[i]? = some (some j) → ∃ x : Str,N'[i]? = some x ∧ X.N[j]? = some x ∧ scope.names.lookup x = some .free
def entry (src : List (Option Nat)) (σ : St) : St:=src.map fun o=>o.bind fun j=>(σ[j]?).bind id
def PTs (X : Cx) (ifs : List Expr) (t : TT) : Prop :=
  ∀ (pins : List (Addr × Obj)) (s : Shared) (σ : St) (H : Hp) (Q : Bool → Hp → Prop),Inv X pins σ H s → t σ H Q →
    wpAny (model X.prog X.w) X.A (forIn ifs true fun c r=>if r = true then do let ok ← isTrue c X.env (eval c X.env); pure (ForInStep.yield ok) else pure (ForInStep.yield r)) (TP X pins σ Q) X.xe s
def tYes : TT:=fun _ H Q=>Q true H
theorem pts_nil {X : Cx} : PTs X [] tYes:=fun _ _ _ H _ I h=>wpAny_tests_nil ⟨H,I,h⟩
theorem pts_one {X : Cx} {c : Expr} {t : TT} (h : PT X c t) : PTs X [c] t:=fun pins s σ H Q I q=>wpAny_tests_one (h pins s σ H Q I q)
def tComp (src : List (Option Nat)) (wi : TI) (g : Bk → TG) (tc : Bk → TT) (te : Bk → TE) : TE:=fun σ H Q=>wi σ H fun J H1=>∀ (b : Bk) (D : Addr),H1 D = none →
  ∃ W : Nat → Nat → St → Hp → Prop,(∃ m,W 0 m (entry src σ) (upd H1 D (.lst []))) ∧ ∀ i m σ' H',W i m σ' H' →
    (J.stop i H' ∧ Q (.ref D) H') ∨ (J.go i H' ∧ ∃ N : St → Hp → Prop,(∀ σ'' H'',N σ'' H'' → ∃ m',m' < m ∧ W (i + 1) m' σ'' H'') ∧
      ∀ x H'',J.yld i H' x H'' → g b x σ' H'' fun σ2 H2=>tc b σ2 H2 fun ok H3=>if ok = true then te b σ2 H3 fun y H4=>∃ ys,H4 D = some (.lst ys) ∧ ys.length < sizeLine ∧ N σ2 (upd H4 D (.lst (ys ++ [y]))) else N σ2 H3)
section
variable {prog : Program} {w : World} {A : Around} {R : Result → Shared → Prop} {s : Shared}
theorem compLoop_gen {elt target iter : Expr} {ifs : List Expr} {scope : Scope} {pos : Pos} {it acc : Value} {env : Env} (I : Nat → Shared → Prop)
    (turn : ∀ n s,I n s → wpAny (model prog w) A (pyNext it) (fun r s₁=>match r with
      | none=>R (.ok .next) s₁
      | some v=>wpAny (model prog w) A (letOwnedTupleGo target it v) (fun _ s₁'=>wpAny (model prog w) A (assign target env v) (fun _ s₂ =>
          wpAny (model prog w) A (forIn ifs true fun c r=>if r = true then do let ok ← isTrue c env (eval c env); pure (ForInStep.yield ok) else pure (ForInStep.yield r)) (fun ok s₃ =>
            if ok = true then wpAny (model prog w) A (eval elt env) (fun x s₄ =>
              wpAny (model prog w) A (call (.builtin "list.append") [acc,x]) (fun _ s₅=>∃ m,m < n ∧ I m s₅) (fun _ _=>False) s₄) (fun _ _=>False) s₃
            else ∃ m,m < n ∧ I m s₃) (fun _ _=>False) s₂) (fun _ _=>False) s₁') (fun _ _=>False) s₁) (fun _ _=>False) s)
    (n : Nat) (h : I n s) :
    codeAny (model prog w) A (.compLoop (.ListComp elt [⟨target,iter,ifs,0⟩] scope pos) 0 it acc env) R s:=by
  refine codeAny_loop rfl I (fun n s hI=>?_) n h
  show wpAny _ A ((compTurn (.ListComp elt [⟨target,iter,ifs,0⟩] scope pos) 0 it acc env).onRaise (fun x=>do noteFrame x env; theTreesLotGoes x)) _ _ s
  refine wpAny_noted ?_
  rw [compTurn_list]
  refine wpAny_bind (wpAny_standAt (wpAny_bind (wpAny_mono (turn n s hI) (fun r s₁ h₁=>?_) fun _ _ h'=>h'.elim)))
  cases r with
  | none=>exact wpAny_pure h₁
  | some v =>
    refine wpAny_bind (wpAny_mono h₁ (fun _ s₁' h₁'=>?_) fun _ _ h'=>h'.elim)
    refine wpAny_bind (wpAny_mono h₁' (fun _ s₂ h₂=>wpAny_bind (wpAny_mono h₂ (fun ok s₃ h₃=>?_) fun _ _ h'=>h'.elim)) fun _ _ h'=>h'.elim)
    cases ok with
    | false=>exact wpAny_pure ⟨rfl,h₃⟩
    | true =>
      exact wpAny_bind (wpAny_bind (wpAny_mono h₃ (fun x s₄ h₄=>wpAny_bind (wpAny_mono h₄ (fun _ s₅ h₅=>wpAny_pure (wpAny_pure ⟨rfl,h₅⟩)) fun _ _ h'=>h'.elim)) fun _ _ h'=>h'.elim))
end
theorem comp_core {X : Cx} {elt tg iter : Expr} {ifs : List Expr} {scope : Scope} {pos pos' : Pos} {N' : List Str} {src : List (Option Nat)} {wi : TI} {g : Bk → TG} {tc : Bk → TT} {te : Bk → TE} (hc : X.calm = true) (hi : PI X tg iter wi) (S : BkScope X N' src scope)
    (hg : ∀ b,PG (blk X N' scope b) tg (g b)) (ht : ∀ b,PTs (blk X N' scope b) ifs (tc b)) (he : ∀ b,PE (blk X N' scope b) elt (te b)) (hs : ∀ x,foldedSetIterable iter X.env x = pure x) (use : Option (Value → Sem Unit)) (R : Value → Shared → Prop)
    {pins : List (Addr × Obj)} {s : Shared} {σ : St} {H : Hp} {Q : V → Hp → Prop} (I : Inv X pins σ H s) (h : tComp src wi g tc te σ H Q)
    (fin : ∀ (D C : Addr) (H5 : Hp) (s6 : Shared) (m : Str → Option Value),s6.heap.Ns C m → FpOk X pins H5 C → (∀ h',Heap.SameBut C s6.heap h' → Inv X pins σ H5 { s6 with heap:=h' }) → Q (.ref D) H5 → compPost (model X.prog X.w) X.A X.xe use R (.ref D) C (.ok .next) s6) :
    wpAny (model X.prog X.w) X.A (comprehension (.ListComp elt [⟨tg,iter,ifs,0⟩] scope pos) scope X.env pos' (newList []) false (eval iter X.env) use) R X.xe s:=by
  have hfr : ∀ x ∈ scope.names,x.2 = .free → ∃ c,X.env.cells.lookup x.1 = some c:=fun x hx hf=>I.ok.has x.1 (S.frees x hx hf)
  have clS : ∀ x c,(closL X.env.cells scope.names []).lookup x = some c → X.env.cells.lookup x = some c:=closL_some hfr (fun x c e=>by simp at e)
  refine wpAny_comprehension_free (use:=use) rfl hs (closureFor_is scope.names hfr []) S.kind S.names ?_
  refine thn (hi pins s σ H _ I h) fun v s1 h1=>thn h1 fun itv s2 h2=>?_
  obtain ⟨it,fp,tn,J,H2,rfl,I2,T,st2,f2,h3⟩:=h2
  have hD : H2 s2.heap.objs.size = none:=I2.fresh
  refine wpAny_newObj_type ?_
  have I3 : Inv X pins σ (upd H2 s2.heap.objs.size (.lst [])) { s2 with heap:=s2.heap.push { cls:=.type "list",data:=.seq ([] : List Value).toArray } } :=
    I2.laid (t':=s2.toks) (fun b u e=>Heap.get?_push_of_some _ e) (Nat.le_refl _) ⟨Nat.zero_le _,[],0,.nil,Heap.get?_push_size _ rfl⟩
  have hfp : ∀ b ∈ fp,b < s2.heap.objs.size:=fun b hb=>by
    obtain ⟨o,e,_⟩:=T.obj _ _ st2 b hb
    exact Heap.lt_size e
  have st3 : tn 0 (s2.heap.push { cls:=.type "list",data:=.seq ([] : List Value).toArray }):=T.keep _ _ _ st2 fun b _ o e=>Heap.get?_push_of_some _ e
  generalize hs3 : ({ s2 with heap:=s2.heap.push { cls:=.type "list",data:=.seq ([] : List Value).toArray } } : Shared) = s3 at I3 ⊢
  have st3' : tn 0 s3.heap:=by rw [← hs3]; exact st3
  have hsz3 : s3.heap.objs.size = s2.heap.objs.size + 1:=by rw [← hs3]; exact Heap.size_push ..
  have fp3 : ∀ b ∈ fp,(upd H2 s2.heap.objs.size (.lst [])) b = none:=fun b hb=>by rw [upd_ne (Nat.ne_of_lt (hfp b hb))]; exact (f2 b hb).1
  generalize hDe : s2.heap.objs.size = D at *
  generalize hH3 : upd H2 D (.lst []) = H3 at *
  refine wpAny_newFunctionEnv S.nocell (by intro y hy; simp at hy) (fun h₁ hns₁ hsb₁=>?_) S.kind
  have old : ∀ b o,s3.heap.get? b = some o → h₁.get? b = some o:=fun b o e=>hsb₁.extBut b o (Nat.ne_of_lt (Heap.lt_size e)) (Heap.get?_push_of_some _ e)
  have Yok : (blk X N' scope ⟨s3.heap.objs.size,s3,H3,fp⟩).Ok:=by
    refine ⟨I.ok.mod,S.kind,I.ok.glob,I.ok.blt,Nat.le_refl _,fun x y c e1 e2=>I.ok.inj x y c (clS x c e1) (clS y c e2),fun x hx=>?_,fun x c z=>(by cases z),I.ok.hd,I.ok.frames,.inl rfl,fun b hb=>⟨?_,fun x c e=>(f2 b hb).2.2.2.2.1 x c (clS x c e)⟩,I3.bs,?_,fun b o e hb=>?_,fun b hb z=>?_,I3.stack,I3.stkFree⟩
    · have hx' : (x,NameKind.free) ∈ scope.names:=by
        rcases hx with hx | hx
        · exact relabel_not_local (env:=X.env) S.nocell (.inl rfl) hx
        · exact relabel_not_local (env:=X.env) S.nocell (.inr rfl) hx
      exact closL_has (.inr hx')
    · exact Nat.ne_of_lt (Nat.lt_of_lt_of_le (hfp b hb) (by rw [hsz3]; exact Nat.le_succ _))
    · exact Nat.le_trans I.ok.bsz I3.sz
    · rcases (f2 b hb).2.2.2.1 with z | z
      · exact I.ok.noex b o e z
      · exact absurd (Nat.lt_of_lt_of_le (Heap.lt_size e) (Nat.le_trans I.ok.bsz z)) (Nat.lt_irrefl _)
    · rcases List.mem_cons.mp (I3.stkSub b z) with e | e
      · exact (f2 b hb).2.1 e
      · exact (f2 b hb).2.2.1 e
  generalize hY : blk X N' scope ⟨s3.heap.objs.size,s3,H3,fp⟩ = Y at Yok
  have I4 : Inv (blk X N' scope ⟨s3.heap.objs.size,s3,H3,fp⟩) [] (entry src σ) H3 { s3 with heap:=h₁,toks:=s3.toks + ([] : List (Str × Value)).length }:=by
    subst hY
    refine ⟨Yok,rfl,I3.bare,Un.kept old,⟨_,hns₁,fun i x v e1 e2 e3=>?_⟩,fun x c e=>?_,I3.fresh,fun x c e=>I3.freeC x c (clS x c e),fun p hp=>by simp at hp,I3.hok.kept old,?_⟩
    · unfold entry at e2
      rw [List.getElem?_map] at e2
      cases hsrc : src[i]? with
      | none=>rw [hsrc] at e2; cases e2
      | some o =>
        rw [hsrc] at e2
        cases o with
        | none=>have e2' : some (none : Option V) = some (some v):=e2; cases e2'
        | some j =>
          have e2' : some ((σ[j]?).bind id) = some (some v):=e2
          have e2'' : (σ[j]?).bind id = some v:=Option.some.inj e2'
          have hσ : σ[j]? = some (some v):=by
            cases q : σ[j]? with
            | none=>rw [q] at e2''; cases e2''
            | some z =>
              rw [q] at e2''
              have : z = some v:=e2''
              rw [this]
          obtain ⟨x',n1,n2,n3⟩:=S.out i j hsrc
          have ex : x' = x:=Option.some.inj (n1.symm.trans e1)
          subst ex
          obtain ⟨m0,_,hl⟩:=I3.loc
          have hk:=S.frees (x',.free) (mem_of_lookup n3) rfl
          have hvis : Vis X.env.scope x':=hk.elim (fun z=>.inr (.inl z)) fun z=>.inr (.inr z)
          obtain ⟨u,r,l⟩:=hl j x' v n2 hσ hvis
          refine ⟨u,r,.inr ?_⟩
          rcases l with ⟨l1,_⟩ | ⟨_,c,l2,o,l3,l4⟩
          · rcases hk with z | z
            · rw [show X.env.kindOf x' = some .local from l1] at z; cases z
            · rw [show X.env.kindOf x' = some .local from l1] at z; cases z
          · obtain ⟨c',hc'⟩:=closL_has (cells:=X.env.cells) (names:=scope.names) (acc:=[]) (.inr (mem_of_lookup n3))
            have e4:=clS x' c' hc'
            rw [l2] at e4
            cases e4
            exact ⟨relabel_free (env:=X.env) n3,c,hc',o,old _ _ l3,l4⟩
    · obtain ⟨v,o,ho,hd⟩:=I3.cell x c (clS x c e)
      exact ⟨v,o,old _ _ ho,hd⟩
    · show (entry src σ).length = N'.length
      unfold entry
      rw [List.length_map]
      exact S.len
  obtain ⟨W,⟨m0,w0⟩,turn⟩:=h3 ⟨s3.heap.objs.size,s3,H3,fp⟩ D hD
  rw [hH3] at w0
  have loop : codeAny (model X.prog X.w) X.A (.compLoop (.ListComp elt [⟨tg,iter,ifs,0⟩] scope pos) 0 (.ref it) (.ref D) (blk X N' scope ⟨s3.heap.objs.size,s3,H3,fp⟩).env)
      (compPost (model X.prog X.w) X.A X.xe use R (.ref D) s3.heap.objs.size) { s3 with heap:=h₁,toks:=s3.toks + ([] : List (Str × Value)).length }:=by
    have stat : ∀ {H' : Hp},(∀ b ∈ fp,H' b = none) → ∀ b ∈ fp,FpOk (blk X N' scope ⟨s3.heap.objs.size,s3,H3,fp⟩) [] H' b:=fun hn b hb =>
      ⟨hn b hb,(I4.ok.exf b hb).1,I4.ok.exfs b hb,.inl hb,(I4.ok.exf b hb).2,fun p hp=>by simp at hp⟩
    refine compLoop_gen (fun n s'=>∃ i σ' H',Inv (blk X N' scope ⟨s3.heap.objs.size,s3,H3,fp⟩) [] σ' H' s' ∧ tn i s'.heap ∧ (∀ b ∈ fp,H' b = none) ∧ W i n σ' H') ?_ m0
      ⟨0,_,H3,I4,T.keep _ _ _ st3' fun b _ o e=>old b o e,fp3,w0⟩
    rintro n s5 ⟨i,σ5,H5,I5,st5,fr5,w5⟩
    rcases turn i n σ5 H5 w5 with ⟨stop,qn⟩ | ⟨go,N,hN,step⟩
    · refine thn (T.done (blk X N' scope ⟨s3.heap.objs.size,s3,H3,fp⟩) rfl rfl rfl hc i [] s5 σ5 H5 _ I5 (stat fr5) st5 stop) fun r s6 ⟨hr,I6⟩=>?_
      subst hr
      obtain ⟨m,hn,_⟩:=I6.loc
      have hC : H5 s3.heap.objs.size = none:=I6.free
      refine fin D s3.heap.objs.size H5 s6 m hn (I3.fpOk (Nat.le_refl _) hC) (fun h' sb=>?_) qn
      have nC : ∀ b o,s3.heap.get? b = some o → b ≠ s3.heap.objs.size:=fun b o e=>Nat.ne_of_lt (Heap.lt_size e)
      have keep : ∀ b o,b ≠ s3.heap.objs.size → s6.heap.get? b = some o → h'.get? b = some o:=fun b o hb e=>(sb.2 b hb).trans e
      have hok : HOk X.prog X.w H5 h':=fun b u e=>(I6.hok b u e).stay (fun c v hc q=>keep c v (by
        rcases hc with z | z
        · rw [z]; intro z2; rw [z2,hC] at e; cases e
        · intro z2; rw [z2,hC] at z; cases z) q) (fun _ q=>q) fun _ _ q=>q
      have u6 : Un (frs X.stack) fp H3 H5 s3.heap s6.heap:=I6.base
      have un : Un (frs X.stack) fp H3 H5 s3.heap h':=⟨fun b o e n hb hx=>keep b o (nC b o e) (u6.keep b o e n hb hx),fun b o e n hb hx=>by
          obtain ⟨sl,q⟩:=u6.slot b o e n hb hx
          exact ⟨sl,keep b _ (nC b o e) q⟩,u6.free,fun b o e hx=>by
          obtain ⟨o',q⟩:=u6.there b o e hx
          exact ⟨o',keep b _ (nC b o e) q⟩,u6.tups,u6.frzs,u6.tbls⟩
      refine I3.call' (s':={ s6 with heap:=h' }) (ch:=fp) I6.os un hok I6.bare fun b hb=>?_
      exact ⟨(f2 b hb).2.2.2.1,(f2 b hb).2.1,(f2 b hb).2.2.2.2.1,(f2 b hb).2.2.2.2.2⟩
    · refine thn (T.item (blk X N' scope ⟨s3.heap.objs.size,s3,H3,fp⟩) rfl rfl rfl hc i [] s5 σ5 H5 _ I5 (stat fr5) st5 go) fun r s6 ⟨u,hr,h6⟩=>?_
      subst hr
      refine thn h6 fun _ s7 ⟨x,H7,I7,r7,y7,st7,fr7⟩=>?_
      have I7':=I7.pinned (stat fr7) (T.obj _ _ st7)
      have again : ∀ {σ9 : St} {H9 : Hp} {s9 : Shared},Inv (blk X N' scope ⟨s3.heap.objs.size,s3,H3,fp⟩) ([] ++ pinsAt fp s7.heap) σ9 H9 s9 → N σ9 H9 → ∃ m,m < n ∧ ∃ i σ' H',Inv (blk X N' scope ⟨s3.heap.objs.size,s3,H3,fp⟩) [] σ' H' s9 ∧ tn i s9.heap ∧ (∀ b ∈ fp,H' b = none) ∧ W i m σ' H':=fun {σ9 H9 s9} I9 n9=>by
        obtain ⟨m',hm,w9⟩:=hN σ9 H9 n9
        refine ⟨m',hm,i + 1,σ9,H9,I9.unpinned,T.keep _ _ _ st7 fun b hb o e=>(I9.pin (b,o) (List.mem_append_right _ (List.mem_append_right _ (mem_pinsAt hb e)))).1,fun b hb=>?_,w9⟩
        obtain ⟨o,e,d⟩:=T.obj _ _ st7 b hb
        exact (I9.pin (b,o) (List.mem_append_right _ (List.mem_append_right _ (mem_pinsAt hb e)))).2.1
      refine thn (hg _ _ s7 σ5 H7 x u _ I7' r7 (step x H7 y7)) fun _ s8 ⟨σ8,H8,I8,q8⟩=>?_
      refine thn (ht _ _ s8 σ8 H8 _ I8 q8) fun ok s9 ⟨H9,I9,q9⟩=>?_
      cases ok with
      | false=>exact again I9 q9
      | true =>
        refine thn (he _ _ s9 σ8 H9 _ I9 q9) fun yv s10 ⟨y,H10,I10,r10,ys,e10,l10,n10⟩=>?_
        refine thn (mt_append _ s10 σ8 H10 (.ref D) [y] (.ref D) [yv] (fun _ H11=>N σ8 H11) I10 rfl (.cons r10 .nil) ⟨D,ys,y,rfl,rfl,e10,l10,n10⟩) fun _ s11 ⟨_,H11,I11,_,n11⟩=>again I11 n11
  have self:=T.self X.A 0 { s3 with heap:=h₁,toks:=s3.toks + ([] : List (Str × Value)).length } (fun it' s'=>codeAny (model X.prog X.w) X.A (.compLoop (.ListComp elt [⟨tg,iter,ifs,0⟩] scope pos) 0 it' (.ref D) (blk X N' scope ⟨s3.heap.objs.size,s3,H3,fp⟩).env)
      (compPost (model X.prog X.w) X.A X.xe use R (.ref D) s3.heap.objs.size) s') (notedBy (model X.prog X.w) X.A (blk X N' scope ⟨s3.heap.objs.size,s3,H3,fp⟩).env fun x s'=>compPost (model X.prog X.w) X.A X.xe use R (.ref D) s3.heap.objs.size (.error x) s')
      (T.keep _ _ _ st3' fun b _ o e=>old b o e) loop
  exact codeAny_compStart_list loop self
theorem pe_comp {X : Cx} {elt tg iter : Expr} {ifs : List Expr} {scope : Scope} {pos : Pos} {N' : List Str} {src : List (Option Nat)} {wi : TI} {g : Bk → TG} {tc : Bk → TT} {te : Bk → TE} (hc : X.calm = true) (hi : PI X tg iter wi) (S : BkScope X N' src scope)
    (hg : ∀ b,PG (blk X N' scope b) tg (g b)) (ht : ∀ b,PTs (blk X N' scope b) ifs (tc b)) (he : ∀ b,PE (blk X N' scope b) elt (te b)) (hs : ∀ x,foldedSetIterable iter X.env x = pure x:=by intro _; rfl) :
    PE X (.ListComp elt [⟨tg,iter,ifs,0⟩] scope pos) (tComp src wi g tc te):=by
  intro pins s σ H Q I h
  rw [eval_ListComp]
  exact comp_core hc hi S hg ht he hs none (EP X pins σ Q) I h fun D C H5 s6 m hn _ k q=>⟨m,hn,fun h' sb=>⟨.ref D,H5,k h' sb,rfl,q⟩⟩
end L2.Ev
namespace L2.Ev
open PySem PySem.Spec PyProof.Rows
theorem comp_read {α : Type} [Dat α] {J : It} {n : Nat} {σ0 : St} {H1 : Hp} {D : Addr} {Q : V → Hp → Prop} {g : TG} {tc : TT} {te : TE} (hD : H1 D = none) (Sp : St → Prop) (out : Nat → Option α) (hn : n ≤ sizeLine) (h0 : Sp σ0)
    (hstop : ∀ H',Same H1 H' → J.stop n H') (hgo : ∀ i H',i < n → Same H1 H' → J.go i H')
    (hturn : ∀ (i : Nat) (σ' : St) (H' : Hp) (Yes : V → St → Hp → Prop) (No : St → Hp → Prop),i < n → Sp σ' → Same H1 H' → (∀ y σ2 H4 a,Sp σ2 → Same H' H4 → out i = some a → Dat.is H4 y a → Yes y σ2 H4) → (∀ σ2 H3,Sp σ2 → Same H' H3 → out i = none → No σ2 H3) →
      ∀ x H'',J.yld i H' x H'' → g x σ' H'' fun σ2 H2=>tc σ2 H2 fun ok H3=>if ok = true then te σ2 H3 fun y H4=>Yes y σ2 H4 else No σ2 H3)
    (hend : ∀ H',Same H1 H' → LstAt H' D ((List.range n).filterMap out) → Q (.ref D) H') :
    ∃ W : Nat → Nat → St → Hp → Prop,(∃ m,W 0 m σ0 (upd H1 D (.lst []))) ∧ ∀ i m σ' H',W i m σ' H' →
    (J.stop i H' ∧ Q (.ref D) H') ∨ (J.go i H' ∧ ∃ N : St → Hp → Prop,(∀ σ'' H'',N σ'' H'' → ∃ m',m' < m ∧ W (i + 1) m' σ'' H'') ∧
      ∀ x H'',J.yld i H' x H'' → g x σ' H'' fun σ2 H2=>tc σ2 H2 fun ok H3=>if ok = true then te σ2 H3 fun y H4=>∃ ys,H4 D = some (.lst ys) ∧ ys.length < sizeLine ∧ N σ2 (upd H4 D (.lst (ys ++ [y]))) else N σ2 H3):=by
  have s1 : ∀ {H' : Hp} (o : HO),Same H1 H' → Same H1 (upd H' D o):=fun o e b u q=>by rw [upd_ne (ne_of_none q hD)]; exact e b u q
  refine ⟨fun i m σ' H'=>m = n - i ∧ i ≤ n ∧ Sp σ' ∧ Same H1 H' ∧ LstAt H' D ((List.range i).filterMap out),⟨n,by simp,Nat.zero_le _,h0,s1 _ (Same.refl _),[],upd_same,.nil⟩,?_⟩
  rintro i m σ' H' ⟨rfl,hi,hS,hH,hL⟩
  by_cases hlt : i < n
  · refine .inr ⟨hgo i H' hlt hH,fun σ2 H2=>Sp σ2 ∧ Same H1 H2 ∧ LstAt H2 D ((List.range (i + 1)).filterMap out),fun σ2 H2 ⟨a,b,c⟩=>⟨n - (i + 1),by omega,rfl,hlt,a,b,c⟩,?_⟩
    obtain ⟨vs,eD,iD⟩:=hL
    have lv : vs.length ≤ i:=by
      have:=Paired.length iD
      have:=List.length_filterMap_le out (List.range i)
      rw [List.length_range] at this
      omega
    refine hturn i σ' H' (fun y σ2 H4=>∃ ys,H4 D = some (.lst ys) ∧ ys.length < sizeLine ∧ (fun σ2 H2=>Sp σ2 ∧ Same H1 H2 ∧ LstAt H2 D ((List.range (i + 1)).filterMap out)) σ2 (upd H4 D (.lst (ys ++ [y])))) _ hlt hS hH (fun y σ2 H4 a a1 a2 a3 a4=>?_) (fun σ2 H3 a1 a2 a3=>?_)
    · have e4:=a2 _ _ eD
      have t4 : Tups H4 (upd H4 D (.lst (vs ++ [y]))):=fun p ys q=>by rw [upd_ne (ne_of q e4 (by intro z; cases z))]; exact q
      refine ⟨vs,e4,by omega,a1,s1 _ (hH.trans a2),vs ++ [y],upd_same,?_⟩
      rw [List.range_succ,List.filterMap_append,List.filterMap_cons,a3]
      exact Paired.snoc (Its.mono ((Tups.same a2).trans t4) iD) (Dat.mono t4 a4)
    · refine ⟨a1,hH.trans a2,vs,a2 _ _ eD,?_⟩
      rw [List.range_succ,List.filterMap_append,List.filterMap_cons,a3]
      simpa using Its.mono (Tups.same a2) iD
  · have e : i = n:=by omega
    subst e
    exact .inl ⟨hstop H' hH,hend H' hH hL⟩
inductive SK
  | lst
  | tup
def SK.iter : SK → Heap → Addr → Addr → Nat → Prop
  | .lst,h,i,l,k=>h.IsListIter i l k
  | .tup,h,i,l,k=>h.IsTupleIter i l k
def SK.seq : SK → Heap → Addr → Array Value → Prop
  | .lst,h,l,xs=>h.IsList l xs
  | .tup,h,l,xs=>h.IsTuple l xs
def SK.ob : SK → Addr → Obj
  | .lst,l=>{ cls:=.type "list_iterator",data:=.fields #[.ref l,.int 0 0] }
  | .tup,l=>{ cls:=.type "tuple_iterator",data:=.fields #[.ref l,.int 0 0] }
def SK.is (K : PySem.W.Frag) (H : Hp) (l : Addr) (xs : List V) : SK → Prop
  | .lst=>SqL K H l xs
  | .tup=>SqT K H l xs
theorem SK.iter_keep {k : SK} {h h' : Heap} {i l : Addr} {n : Nat} (x : k.iter h i l n) (e : ∀ o,h.get? i = some o → h'.get? i = some o) : k.iter h' i l n:=by
  cases k with
  | lst=>obtain ⟨o,a,b⟩:=x; exact ⟨o,e o a,b⟩
  | tup=>obtain ⟨o,a,b⟩:=x; exact ⟨o,e o a,b⟩
theorem SK.seq_keep {k : SK} {h h' : Heap} {l : Addr} {xs : Array Value} (x : k.seq h l xs) (e : ∀ o,h.get? l = some o → h'.get? l = some o) : k.seq h' l xs:=by
  cases k with
  | lst=>obtain ⟨o,a,b⟩:=x; exact ⟨o,e o a,b⟩
  | tup=>obtain ⟨o,a,b⟩:=x; exact ⟨o,e o a,b⟩
theorem SK.iter_lt {k : SK} {h : Heap} {i l : Addr} {n : Nat} (x : k.iter h i l n) : i < h.objs.size:=by
  cases k with
  | lst=>obtain ⟨o,a,_⟩:=x; exact Heap.lt_size a
  | tup=>obtain ⟨o,a,_⟩:=x; exact Heap.lt_size a
theorem SK.iter_new {k : SK} {h : Heap} {i l : Addr} (e : h.get? i = some (k.ob l)) : k.iter h i l 0:=by
  cases k with
  | lst=>exact ⟨_,e,rfl,rfl⟩
  | tup=>exact ⟨_,e,rfl,rfl⟩
theorem SK.at {X : Cx} {pins : List (Addr × Obj)} {σ : St} {H : Hp} {s : Shared} {l : Addr} {xs : List V} {k : SK} (I : Inv X pins σ H s) (h : k.is X.K H l xs) : ∃ its : List Value,Vals xs its ∧ k.seq s.heap l its.toArray:=by
  cases k with
  | lst=>obtain ⟨its,r,p,_⟩:=I.list h; exact ⟨its,r,p.isList⟩
  | tup=>obtain ⟨its,r,p,_⟩:=I.tuple h; exact ⟨its,r,p⟩
theorem SK.inj {X : Cx} {pins : List (Addr × Obj)} {σ : St} {H : Hp} {s : Shared} {l : Addr} {xs ys : List V} {k : SK} (I : Inv X pins σ H s) (h : k.is X.K H l xs) (h' : k.is X.K H l ys) : xs = ys:=by
  cases k with
  | lst=>exact I.list_inj h h'
  | tup=>exact I.tuple_inj h h'
section
variable {prog : Program} {w : World} {A : Around} {E : Value → Shared → Prop} {s : Shared}
theorem tup_next {it t : Addr} {i : Nat} {items : Array Value} {x : Value} {Q : Value → Shared → Prop} (hit : s.heap.IsTupleIter it t i) (ht : s.heap.IsTuple t items) (hx : items[i]? = some x)
    (hQ : ∀ h',h'.IsTupleIter it t (i + 1) → Heap.SameBut it s.heap h' → Q x { s with heap:=h' }) : wpAny (model prog w) A (Builtin.SmallTypes.nextOf (.ref it)) Q E s:=by
  obtain ⟨ob,hob,hcl,hdt⟩:=id hit
  obtain ⟨o2,ho2,_,n2,hd2⟩:=ht
  unfold Builtin.SmallTypes.nextOf
  refine wpAny_bind (wpAny_callSpecial?_slot (name:=Str.ofString "__next__") hit.typeIs F.slot_tuple_iterator_next (wpAny_call_entry F.slot_tuple_iterator_next hit.typeIs F.entry_tuple_iterator_next ?_ (F.args_tuple_iterator_next_1 _)))
  show wpAny _ _ (field (.ref it) 0 >>= fun _=>_) _ _ s
  refine wpAny_bind (wpAny_field hob hdt (x:=Value.ref t) rfl ?_)
  show wpAny _ _ (if (Value.ref t == Value.none) = true then _ else (_ : Sem _)) _ _ s
  rw [if_neg (show ¬ (Value.ref t == Value.none) = true from fun z=>Bool.false_ne_true z)]
  show wpAny _ _ (field (.ref it) 1 >>= fun _=>_) _ _ s
  refine wpAny_bind (wpAny_field hob hdt (x:=Value.int i 0) rfl ?_)
  show wpAny _ _ (seqItems? (.ref t) >>= fun _=>_) _ _ s
  refine wpAny_bind (wpAny_seqItems ho2 hd2 ?_)
  simp only [Int.toNat_natCast,hx]
  refine wpAny_bind (wpAny_setField hob hdt (by simp) (wpAny_pure ⟨x,rfl,wpAny_pure (hQ _ ⟨_,Heap.get?_update_self _ hob (Obj.isFreed_of_fields (Obj.data_mapFields hdt _)),(Obj.cls_mapFields ..).trans hcl,?_⟩ (Heap.SameBut.update ..))⟩))
  rw [Obj.data_mapFields hdt]
  simp [rawInt]
theorem tup_stop {it t : Addr} {i : Nat} {items : Array Value} {Q : Value → Shared → Prop} (hh : A.handled = none) (hit : s.heap.IsTupleIter it t i) (ht : s.heap.IsTuple t items) (hx : items[i]? = none)
    (hE : ∀ h' e,Heap.ExtBut it s.heap h' → (∃ o,h'.get? e = some o ∧ o.cls = .type "StopIteration") → E (.ref e) { s with heap:=h' }) : wpAny (model prog w) A (Builtin.SmallTypes.nextOf (.ref it)) Q E s:=by
  obtain ⟨ob,hob,hcl,hdt⟩:=id hit
  obtain ⟨o2,ho2,_,n2,hd2⟩:=ht
  unfold Builtin.SmallTypes.nextOf
  refine wpAny_bind (wpAny_callSpecial?_slot (name:=Str.ofString "__next__") hit.typeIs F.slot_tuple_iterator_next (wpAny_call_entry F.slot_tuple_iterator_next hit.typeIs F.entry_tuple_iterator_next ?_ (F.args_tuple_iterator_next_1 _)))
  show wpAny _ _ (field (.ref it) 0 >>= fun _=>_) _ _ s
  refine wpAny_bind (wpAny_field hob hdt (x:=Value.ref t) rfl ?_)
  show wpAny _ _ (if (Value.ref t == Value.none) = true then _ else (_ : Sem _)) _ _ s
  rw [if_neg (show ¬ (Value.ref t == Value.none) = true from fun z=>Bool.false_ne_true z)]
  show wpAny _ _ (field (.ref it) 1 >>= fun _=>_) _ _ s
  refine wpAny_bind (wpAny_field hob hdt (x:=Value.int i 0) rfl ?_)
  show wpAny _ _ (seqItems? (.ref t) >>= fun _=>_) _ _ s
  refine wpAny_bind (wpAny_seqItems ho2 hd2 ?_)
  simp only [Int.toNat_natCast,hx]
  refine wpAny_bind (wpAny_rule (wpAny_bind (wpAny_setField hob hdt (by simp) ?_)))
  show wpAny _ _ (newExc (.type "StopIteration") [] >>= fun _=>_) _ _ _
  refine wpAny_bind ?_
  simp only [newExc,newTuple]
  refine wpAny_bind (wpAny_newObj_type ?_ (by size_fits))
  refine wpAny_bind (m:=firstArgMember _ _) (wpAny_of_eq (a:=Value.none) (by first | rfl | (simp only [firstArgMember]; rfl)) (wpAny_newObj_type ?_ (by size_fits)))
  simp only [raiseNew]
  refine wpAny_bind (wpAny_handled ?_)
  first | rw [show A.in1.handled = none from hh] | rw [hh]
  refine wpAny_bind (wpAny_pure (wpAny_throw (hE _ _ (((Heap.SameBut.update ..).extBut.push _).push _) ⟨_,Heap.get?_push_size _ rfl,rfl⟩)))
theorem SK.next {k : SK} {it l : Addr} {i : Nat} {items : Array Value} {x : Value} {Q : Value → Shared → Prop} (hit : k.iter s.heap it l i) (hl : k.seq s.heap l items) (hx : items[i]? = some x)
    (hQ : ∀ h',k.iter h' it l (i + 1) → Heap.SameBut it s.heap h' → Q x { s with heap:=h' }) : wpAny (model prog w) A (Builtin.SmallTypes.nextOf (.ref it)) Q E s:=by
  cases k with
  | lst=>exact wpAny_nextOf_list_item hit hl hx hQ
  | tup=>exact tup_next hit hl hx hQ
theorem SK.stop {k : SK} {it l : Addr} {i : Nat} {items : Array Value} {Q : Value → Shared → Prop} (hh : A.handled = none) (hit : k.iter s.heap it l i) (hl : k.seq s.heap l items) (hx : items[i]? = none)
    (hE : ∀ h' e,Heap.ExtBut it s.heap h' → (∃ o,h'.get? e = some o ∧ o.cls = .type "StopIteration") → E (.ref e) { s with heap:=h' }) : wpAny (model prog w) A (Builtin.SmallTypes.nextOf (.ref it)) Q E s:=by
  cases k with
  | lst=>exact wpAny_nextOf_list_end hh hit hl hx hE
  | tup=>exact tup_stop hh hit hl hx hE
structure ZAp (z TI TO i1 i2 : Addr) : Prop where
  a1 : TI ≠ z
  a2 : TO ≠ z
  a3 : i1 ≠ z
  a4 : i2 ≠ z
  a5 : TI ≠ TO
  a6 : TI ≠ i1
  a7 : TI ≠ i2
  a8 : TO ≠ i1
  a9 : TO ≠ i2
  b1 : i1 ≠ i2
structure ZSt (k1 k2 : SK) (z TI TO i1 i2 l1 l2 : Addr) (i : Nat) (h : Heap) : Prop where
  hz : IsZip h z TI TO .none
  hTI : IsPair h TI (.ref i1) (.ref i2)
  hTO : ∃ a b,IsPair h TO a b
  h1 : k1.iter h i1 l1 i
  h2 : k2.iter h i2 l2 i
theorem z_item {k1 k2 : SK} {z TI TO i1 i2 l1 l2 : Addr} {i : Nat} {xs ys : Array Value} {x y : Value} {Q : Option Value → Shared → Prop} (D : ZAp z TI TO i1 i2) (Z : ZSt k1 k2 z TI TO i1 i2 l1 l2 i s.heap) (hl1 : k1.seq s.heap l1 xs) (hl2 : k2.seq s.heap l2 ys)
    (n1 : l1 ≠ z ∧ l1 ≠ i1) (n2 : l2 ≠ z ∧ l2 ≠ i1 ∧ l2 ≠ TO) (hx : xs[i]? = some x) (hy : ys[i]? = some y)
    (hQ : ∀ h',IsZip h' z TI TO (rawInt s.heap.objs.size) → IsPair h' TI (.ref i1) (.ref i2) → IsPair h' TO x y → k1.iter h' i1 l1 (i + 1) → k2.iter h' i2 l2 (i + 1) → IsPair h' s.heap.objs.size x y →
      (∀ c o,c ≠ z → c ≠ TO → c ≠ i1 → c ≠ i2 → s.heap.get? c = some o → h'.get? c = some o) → Q (some (.ref s.heap.objs.size)) { s with heap:=h' }) : wpAny (model prog w) A (pyNext (.ref z)) Q E s:=by
  obtain ⟨hz,hTI,⟨a,b,hTO⟩,h1,h2⟩:=Z
  have hT : s.TypeIs (.ref z) "zip" := ⟨_,hz,rfl⟩
  unfold pyNext
  refine wpAny_bind (wpAny_attempt (wpAny_callSpecial?_slot (name:=Str.ofString "__next__") hT F.slot_zip_next (wpAny_call_entry F.slot_zip_next hT F.entry_zip_next ?_ (F.args_zip_next_1 _))))
  show wpAny _ _ (field (.ref z) 2 >>= fun _=>_) _ _ _
  refine wpAny_bind (wpAny_field hz rfl (x:=Value.bool false) rfl ?_)
  show wpAny _ _ (field (.ref z) 3 >>= fun _=>_) _ _ _
  refine wpAny_bind (wpAny_field hz rfl (x:=Value.ref TI) rfl (wpAny_bind (wpAny_seqItems hTI rfl ?_)))
  show wpAny _ _ (Builtin.SmallTypes.ownedTupleIsFree (.ref z) >>= fun _=>_) _ _ _
  refine wpAny_bind ?_
  unfold Builtin.SmallTypes.ownedTupleIsFree
  refine wpAny_bind (wpAny_field hz rfl (x:=Value.none) rfl (wpAny_pure ?_))
  simp only [if_true]
  refine wpAny_bind (wpAny_rule (wpAny_bind (wpAny_field hz rfl (x:=Value.ref TO) rfl (wpAny_bind (wpAny_setField_rec hz (by simp) fun h₁ hz₁ hs₁=>?_)))))
  have z1 : IsZip h₁ z TI TO .ellipsis:=hz₁
  refine wpAny_bind ?_
  simp only [List.zipIdx_cons,List.zipIdx_nil,List.forIn_cons,List.forIn_nil]
  refine wpAny_bind (wpAny_bind (wpAny_onRaise ?_))
  show wpAny _ _ (Builtin.SmallTypes.nextOf (.ref i1) >>= fun _=>_) _ _ _
  refine wpAny_bind (SK.next (SK.iter_keep h1 fun o e=>hs₁.extBut _ _ D.a3 e) (SK.seq_keep hl1 fun o e=>hs₁.extBut _ _ n1.1 e) hx fun h₂ p₂ hs₂=>wpAny_pure ?_)
  have t2 : IsPair h₂ TO a b:=hs₂.extBut _ _ D.a8 (hs₁.extBut _ _ D.a2 hTO)
  refine wpAny_bind (wpAny_seqItems t2 rfl (wpAny_bind (wpAny_updateSeq_pair t2 fun h₃ q₃ hs₃=>?_)))
  have t3 : IsPair h₃ TO x b:=q₃
  refine wpAny_bind (wpAny_letGo (wpAny_pure (wpAny_bind (wpAny_bind (wpAny_onRaise ?_)))))
  show wpAny _ _ (Builtin.SmallTypes.nextOf (.ref i2) >>= fun _=>_) _ _ _
  refine wpAny_bind (SK.next (SK.iter_keep h2 fun o e=>hs₃.extBut _ _ D.a9.symm (hs₂.extBut _ _ D.b1.symm (hs₁.extBut _ _ D.a4 e))) (SK.seq_keep hl2 fun o e=>hs₃.extBut _ _ n2.2.2 (hs₂.extBut _ _ n2.2.1 (hs₁.extBut _ _ n2.1 e))) hy fun h₄ p₄ hs₄=>wpAny_pure ?_)
  have t4 : IsPair h₄ TO x b:=hs₄.extBut _ _ D.a9 t3
  refine wpAny_bind (wpAny_seqItems t4 rfl (wpAny_bind (wpAny_updateSeq_pair t4 fun h₅ q₅ hs₅=>?_)))
  have t5 : IsPair h₅ TO x y:=q₅
  refine wpAny_bind (wpAny_letGo (wpAny_pure (wpAny_pure (wpAny_bind (wpAny_seqItems t5 rfl (wpAny_bind (wpAny_newTuple ?_)))))))
  have sz : h₅.objs.size = s.heap.objs.size:=by rw [hs₅.1,hs₄.1,hs₃.1,hs₂.1,hs₁.1]
  have z5 : IsZip h₅ z TI TO .ellipsis:=hs₅.extBut _ _ D.a2.symm (hs₄.extBut _ _ D.a4.symm (hs₃.extBut _ _ D.a2.symm (hs₂.extBut _ _ D.a3.symm z1)))
  have k5 : ∀ c o,c ≠ z → c ≠ TO → c ≠ i1 → c ≠ i2 → s.heap.get? c = some o → h₅.get? c = some o:=fun c o c1 c2 c3 c4 e=>hs₅.extBut _ _ c2 (hs₄.extBut _ _ c4 (hs₃.extBut _ _ c2 (hs₂.extBut _ _ c3 (hs₁.extBut _ _ c1 e))))
  have r1 : k1.iter h₅ i1 l1 (i + 1):=SK.iter_keep p₂ fun o e=>hs₅.extBut _ _ D.a8.symm (hs₄.extBut _ _ D.b1 (hs₃.extBut _ _ D.a8.symm e))
  have r2 : k2.iter h₅ i2 l2 (i + 1):=SK.iter_keep p₄ fun o e=>hs₅.extBut _ _ D.a9.symm e
  show wpAny _ _ (Builtin.SmallTypes.ownedTupleHandOut (.ref z) (.ref h₅.objs.size) >>= fun _=>_) _ _ _
  refine wpAny_bind ?_
  unfold Builtin.SmallTypes.ownedTupleHandOut
  have z6 : IsZip (h₅.push { cls:=.type "tuple",data:=.seq #[x,y] }) z TI TO .ellipsis:=Heap.get?_push_of_some _ z5
  refine wpAny_bind (wpAny_setField_rec z6 (by simp) fun h₇ q₇ hs₇=>?_)
  have z7 : IsZip h₇ z TI TO (rawInt h₅.objs.size):=q₇
  refine wpAny_setField_rec z7 (by simp) fun h₈ q₈ hs₈=>?_
  have z8 : IsZip h₈ z TI TO (rawInt h₅.objs.size):=q₈
  have zlt : z < h₅.objs.size:=Heap.lt_size z5
  have up : ∀ c o,c ≠ z → h₅.get? c = some o → h₈.get? c = some o:=fun c o c1 e=>hs₈.extBut _ _ c1 (hs₇.extBut _ _ c1 (Heap.get?_push_of_some _ e))
  have t8 : IsPair h₈ h₅.objs.size x y:=hs₈.extBut _ _ (Nat.ne_of_gt zlt) (hs₇.extBut _ _ (Nat.ne_of_gt zlt) (Heap.get?_push_size _ rfl))
  rw [sz] at z8 t8
  refine wpAny_pure ⟨_,rfl,?_⟩
  show wpAny _ _ _ _ _ _
  refine wpAny_pure ?_
  have fin:=hQ h₈ z8 (up _ _ D.a1 (k5 _ _ D.a1 D.a5 D.a6 D.a7 hTI)) (up _ _ D.a2 t5) (SK.iter_keep r1 fun o e=>up _ o D.a3 e) (SK.iter_keep r2 fun o e=>up _ o D.a4 e) t8 fun c o c1 c2 c3 c4 e=>up c o c1 (k5 c o c1 c2 c3 c4 e)
  show Q (some (.ref h₅.objs.size)) _
  rw [sz]
  exact fin
theorem z_end {k1 k2 : SK} {z TI TO i1 i2 l1 l2 : Addr} {i : Nat} {xs ys : Array Value} {Q : Option Value → Shared → Prop} (hh : A.handled = none) (D : ZAp z TI TO i1 i2) (Z : ZSt k1 k2 z TI TO i1 i2 l1 l2 i s.heap) (hl1 : k1.seq s.heap l1 xs) (hl2 : k2.seq s.heap l2 ys)
    (n1 : l1 ≠ z ∧ l1 ≠ i1) (n2 : l2 ≠ z ∧ l2 ≠ i1 ∧ l2 ≠ TO) (hend : xs[i]? = none ∨ ys[i]? = none)
    (hQ : ∀ h',(∀ c o,c ≠ z → c ≠ TO → c ≠ i1 → c ≠ i2 → s.heap.get? c = some o → h'.get? c = some o) → Q none { s with heap:=h' }) : wpAny (model prog w) A (pyNext (.ref z)) Q E s:=by
  obtain ⟨hz,hTI,⟨a,b,hTO⟩,h1,h2⟩:=Z
  have hT : s.TypeIs (.ref z) "zip" := ⟨_,hz,rfl⟩
  have stop : ∀ (h' : Heap) (e : Addr),(∃ o,h'.get? e = some o ∧ o.cls = .type "StopIteration") → (∀ c o,c ≠ z → c ≠ TO → c ≠ i1 → c ≠ i2 → s.heap.get? c = some o → h'.get? c = some o) →
      wpAny (model prog w) A (isInstance (.ref e) (.type "StopIteration") >>= fun b=>if b = true then pure none else throw (.ref e)) Q E { s with heap:=h' }:=by
    rintro h' e ⟨o,ho,hc⟩ hk
    exact wpAny_bind (wpAny_isInstance (T := "StopIteration") (b:=true) ⟨o,ho,hc⟩ isSubtype_stop (wpAny_pure (hQ _ hk)))
  unfold pyNext
  refine wpAny_bind (wpAny_attempt (wpAny_callSpecial?_slot (name:=Str.ofString "__next__") hT F.slot_zip_next (wpAny_call_entry F.slot_zip_next hT F.entry_zip_next ?_ (F.args_zip_next_1 _))))
  show wpAny _ _ (field (.ref z) 2 >>= fun _=>_) _ _ _
  refine wpAny_bind (wpAny_field hz rfl (x:=Value.bool false) rfl ?_)
  show wpAny _ _ (field (.ref z) 3 >>= fun _=>_) _ _ _
  refine wpAny_bind (wpAny_field hz rfl (x:=Value.ref TI) rfl (wpAny_bind (wpAny_seqItems hTI rfl ?_)))
  show wpAny _ _ (Builtin.SmallTypes.ownedTupleIsFree (.ref z) >>= fun _=>_) _ _ _
  refine wpAny_bind ?_
  unfold Builtin.SmallTypes.ownedTupleIsFree
  refine wpAny_bind (wpAny_field hz rfl (x:=Value.none) rfl (wpAny_pure ?_))
  simp only [if_true]
  refine wpAny_bind (wpAny_rule (wpAny_bind (wpAny_field hz rfl (x:=Value.ref TO) rfl (wpAny_bind (wpAny_setField_rec hz (by simp) fun h₁ hz₁ hs₁=>?_)))))
  have z1 : IsZip h₁ z TI TO .ellipsis:=hz₁
  refine wpAny_bind ?_
  simp only [List.zipIdx_cons,List.zipIdx_nil,List.forIn_cons,List.forIn_nil]
  refine wpAny_bind (wpAny_bind (wpAny_onRaise ?_))
  show wpAny _ _ (Builtin.SmallTypes.nextOf (.ref i1) >>= fun _=>_) _ _ _
  cases hx : xs[i]? with
  | none =>
    refine wpAny_bind (SK.stop hh (SK.iter_keep h1 fun o e=>hs₁.extBut _ _ D.a3 e) (SK.seq_keep hl1 fun o e=>hs₁.extBut _ _ n1.1 e) hx fun h₂ e hs₂ he=>?_)
    obtain ⟨oe,hoe,hce⟩:=he
    have z2 : IsZip h₂ z TI TO .ellipsis:=hs₂ _ _ D.a3.symm z1
    have ez : e ≠ z:=fun q=>by subst q; rw [z2] at hoe; cases hoe; simp at hce
    refine wpAny_setField_rec z2 (by simp) fun h₃ _ hs₃=>?_
    exact stop h₃ e ⟨oe,hs₃.extBut _ _ ez hoe,hce⟩ fun c o c1 _ c3 _ q=>hs₃.extBut _ _ c1 (hs₂ _ _ c3 (hs₁.extBut _ _ c1 q))
  | some x =>
    have hy : ys[i]? = none:=by
      rcases hend with h | h
      · rw [hx] at h; cases h
      · exact h
    refine wpAny_bind (SK.next (SK.iter_keep h1 fun o e=>hs₁.extBut _ _ D.a3 e) (SK.seq_keep hl1 fun o e=>hs₁.extBut _ _ n1.1 e) hx fun h₂ p₂ hs₂=>wpAny_pure ?_)
    have t2 : IsPair h₂ TO a b:=hs₂.extBut _ _ D.a8 (hs₁.extBut _ _ D.a2 hTO)
    refine wpAny_bind (wpAny_seqItems t2 rfl (wpAny_bind (wpAny_updateSeq_pair t2 fun h₃ q₃ hs₃=>?_)))
    refine wpAny_bind (wpAny_letGo (wpAny_pure (wpAny_bind (wpAny_bind (wpAny_onRaise ?_)))))
    show wpAny _ _ (Builtin.SmallTypes.nextOf (.ref i2) >>= fun _=>_) _ _ _
    refine wpAny_bind (SK.stop hh (SK.iter_keep h2 fun o e=>hs₃.extBut _ _ D.a9.symm (hs₂.extBut _ _ D.b1.symm (hs₁.extBut _ _ D.a4 e))) (SK.seq_keep hl2 fun o e=>hs₃.extBut _ _ n2.2.2 (hs₂.extBut _ _ n2.2.1 (hs₁.extBut _ _ n2.1 e))) hy fun h₄ e hs₄ he=>?_)
    obtain ⟨oe,hoe,hce⟩:=he
    have z4 : IsZip h₄ z TI TO .ellipsis:=hs₄ _ _ D.a4.symm (hs₃.extBut _ _ D.a2.symm (hs₂.extBut _ _ D.a3.symm z1))
    have ez : e ≠ z:=fun q=>by subst q; rw [z4] at hoe; cases hoe; simp at hce
    refine wpAny_setField_rec z4 (by simp) fun h₅ _ hs₅=>?_
    exact stop h₅ e ⟨oe,hs₅.extBut _ _ ez hoe,hce⟩ fun c o c1 c2 c3 c4 q=>hs₅.extBut _ _ c1 (hs₄ _ _ c4 (hs₃.extBut _ _ c2 (hs₂.extBut _ _ c3 (hs₁.extBut _ _ c1 q))))
end
end L2.Ev
namespace L2.Ev
open PySem PySem.Spec PyProof.Rows
abbrev zh1 (k1 : SK) (h : Heap) (l1 : Addr) : Heap:=h.push (k1.ob l1)
abbrev zh2 (k1 k2 : SK) (h : Heap) (l1 l2 : Addr) : Heap:=(zh1 k1 h l1).push (k2.ob l2)
abbrev zh3 (k1 k2 : SK) (h : Heap) (l1 l2 : Addr) : Heap:=(zh2 k1 k2 h l1 l2).push { cls:=.type "tuple",data:=.seq #[.ref h.objs.size,.ref (zh1 k1 h l1).objs.size] }
abbrev zh4 (k1 k2 : SK) (h : Heap) (l1 l2 : Addr) : Heap:=(zh3 k1 k2 h l1 l2).push { cls:=.type "tuple",data:=.seq #[.none,.none] }
abbrev zh5 (k1 k2 : SK) (h : Heap) (l1 l2 : Addr) : Heap:=(zh4 k1 k2 h l1 l2).push { cls:=.type "zip",data:=.fields #[.none,.bool false,.bool false,.ref (zh2 k1 k2 h l1 l2).objs.size,.ref (zh3 k1 k2 h l1 l2).objs.size] }
theorem SK.seq_push {k : SK} {h : Heap} {l : Addr} {xs : Array Value} (x : k.seq h l xs) (o : Obj) : k.seq (h.push o) l xs:=SK.seq_keep x fun _ e=>Heap.get?_push_of_some _ e
set_option maxHeartbeats 8000000 in
theorem z_new (k1 k2 : SK) (l1 l2 : Addr) (xs ys : Array Value) :
    Meets (Builtin.«zip.__new__» ⟨[.type "zip",.ref l1,.ref l2],[]⟩) (fun _ R s=>k1.seq s.heap l1 xs ∧ k2.seq s.heap l2 ys ∧ R (.ok (.ret (.ref (zh4 k1 k2 s.heap l1 l2).objs.size))) { s with heap:=zh5 k1 k2 s.heap l1 l2 }) :=
  .of_wp fun prog w A R s h=>by
    obtain ⟨hp,g,d,tk,os⟩:=s
    obtain ⟨hl1,hl2,h⟩:=h
    have hsub:=sub_zip
    have q1 : k1.seq (Shared.heap ⟨hp,g,d,tk,os⟩) l1 xs:=hl1
    have q2 : k2.seq (Shared.heap ⟨hp.push (k1.ob l1),g,d,tk,os⟩) l2 ys:=SK.seq_push hl2 _
    cases k1 with
    | lst =>
      cases k2 with
      | lst =>
        have w1 : Heap.IsList (Shared.heap ⟨hp,g,d,tk,os⟩) l1 xs:=q1
        have w2 : Heap.IsList (Shared.heap ⟨hp.push { cls:=.type "list_iterator",data:=.fields #[.ref l1,.int 0 0] },g,d,tk,os⟩) l2 ys:=q2
        wp_walk using wpAny_pyIter_list w1,wpAny_pyIter_list w2
        exact ⟨_,rfl,h⟩
      | tup =>
        have w1 : Heap.IsList (Shared.heap ⟨hp,g,d,tk,os⟩) l1 xs:=q1
        have w2 : Heap.IsTuple (Shared.heap ⟨hp.push { cls:=.type "list_iterator",data:=.fields #[.ref l1,.int 0 0] },g,d,tk,os⟩) l2 ys:=q2
        wp_walk using wpAny_pyIter_list w1,wpAny_pyIter_tuple w2
        exact ⟨_,rfl,h⟩
    | tup =>
      cases k2 with
      | lst =>
        have w1 : Heap.IsTuple (Shared.heap ⟨hp,g,d,tk,os⟩) l1 xs:=q1
        have w2 : Heap.IsList (Shared.heap ⟨hp.push { cls:=.type "tuple_iterator",data:=.fields #[.ref l1,.int 0 0] },g,d,tk,os⟩) l2 ys:=q2
        wp_walk using wpAny_pyIter_tuple w1,wpAny_pyIter_list w2
        exact ⟨_,rfl,h⟩
      | tup =>
        have w1 : Heap.IsTuple (Shared.heap ⟨hp,g,d,tk,os⟩) l1 xs:=q1
        have w2 : Heap.IsTuple (Shared.heap ⟨hp.push { cls:=.type "tuple_iterator",data:=.fields #[.ref l1,.int 0 0] },g,d,tk,os⟩) l2 ys:=q2
        wp_walk using wpAny_pyIter_tuple w1,wpAny_pyIter_tuple w2
        exact ⟨_,rfl,h⟩
theorem zap_new (n : Nat) : ZAp (n + 4) (n + 2) (n + 3) n (n + 1):=by
  constructor <;> (show (_ : Nat) ≠ _) <;> omega
theorem z_call {k1 k2 : SK} {l1 l2 : Addr} {xs ys : Array Value} {Q : Value → Shared → Prop} {prog : Program} {w : World} {A : Around} {E : Value → Shared → Prop} {s : Shared} (hl1 : k1.seq s.heap l1 xs) (hl2 : k2.seq s.heap l2 ys)
    (h : ∀ h',ZSt k1 k2 (s.heap.objs.size + 4) (s.heap.objs.size + 2) (s.heap.objs.size + 3) s.heap.objs.size (s.heap.objs.size + 1) l1 l2 0 h' → (∀ c o,s.heap.get? c = some o → h'.get? c = some o) → Q (.ref (s.heap.objs.size + 4)) { s with heap:=h' }) :
    wpAny (model prog w) A (call (.type "zip") [.ref l1,.ref l2]) Q E s:=by
  refine callType_new F.called_zip (by decide) (F.typeCall_zip_2 _ _) (F.newCall_zip_2 _ _) (fun obj=>F.args_object_init_3 obj _ _) F.entry_zip_new (z_new k1 k2 l1 l2 xs ys) ⟨hl1,hl2,?_⟩
  have e1 : (zh1 k1 s.heap l1).objs.size = s.heap.objs.size + 1:=Heap.size_push ..
  have e2 : (zh2 k1 k2 s.heap l1 l2).objs.size = s.heap.objs.size + 2:=by rw [Heap.size_push,e1]
  have e3 : (zh3 k1 k2 s.heap l1 l2).objs.size = s.heap.objs.size + 3:=by rw [Heap.size_push,e2]
  have e4 : (zh4 k1 k2 s.heap l1 l2).objs.size = s.heap.objs.size + 4:=by rw [Heap.size_push,e3]
  have g5 : (zh5 k1 k2 s.heap l1 l2).get? (zh4 k1 k2 s.heap l1 l2).objs.size = some _:=Heap.get?_push_size _ rfl
  have g4 : (zh5 k1 k2 s.heap l1 l2).get? (zh3 k1 k2 s.heap l1 l2).objs.size = some _:=Heap.get?_push_of_some _ (Heap.get?_push_size _ rfl)
  have g3 : (zh5 k1 k2 s.heap l1 l2).get? (zh2 k1 k2 s.heap l1 l2).objs.size = some _:=Heap.get?_push_of_some _ (Heap.get?_push_of_some _ (Heap.get?_push_size _ rfl))
  have f2 : (k2.ob l2).isFreed = false:=by cases k2 <;> rfl
  have f1 : (k1.ob l1).isFreed = false:=by cases k1 <;> rfl
  have g2 : (zh5 k1 k2 s.heap l1 l2).get? (zh1 k1 s.heap l1).objs.size = some (k2.ob l2):=Heap.get?_push_of_some _ (Heap.get?_push_of_some _ (Heap.get?_push_of_some _ (Heap.get?_push_size _ f2)))
  have g1 : (zh5 k1 k2 s.heap l1 l2).get? s.heap.objs.size = some (k1.ob l1):=Heap.get?_push_of_some _ (Heap.get?_push_of_some _ (Heap.get?_push_of_some _ (Heap.get?_push_of_some _ (Heap.get?_push_size _ f1))))
  have fin:=h (zh5 k1 k2 s.heap l1 l2) ⟨by rw [e2,e3,e4] at g5; exact g5,by rw [e1,e2] at g3; exact g3,⟨_,_,by rw [e3] at g4; exact g4⟩,SK.iter_new g1,SK.iter_new (by rw [e1] at g2; exact g2)⟩
    fun c o e=>Heap.get?_push_of_some _ (Heap.get?_push_of_some _ (Heap.get?_push_of_some _ (Heap.get?_push_of_some _ (Heap.get?_push_of_some _ e))))
  rw [← e4] at fin
  exact ⟨⟨_,g5,rfl⟩,fin⟩
def Itz (K : PySem.W.Frag) (k1 k2 : SK) (a b : Addr) : It :=
  ⟨fun i H=>∃ xs ys x y,k1.is K H a xs ∧ k2.is K H b ys ∧ xs[i]? = some x ∧ ys[i]? = some y,
   fun i H v H'=>∃ p x y,v = .ref p ∧ H p = none ∧ H' = upd H p (.tup [x,y]) ∧ (∀ xs,k1.is K H a xs → xs[i]? = some x) ∧ ∀ ys,k2.is K H b ys → ys[i]? = some y,
   fun i H=>∃ xs ys,k1.is K H a xs ∧ k2.is K H b ys ∧ (xs.length ≤ i ∨ ys.length ≤ i)⟩
theorem sq_ne {X : Cx} {pins : List (Addr × Obj)} {σ : St} {H : Hp} {s : Shared} {a c : Addr} {xs : List V} {k : SK} (I : Inv X pins σ H s) (h : k.is X.K H a xs) (f : FpOk X pins H c) : a ≠ c:=by
  intro e
  subst e
  have known : ∀ o,X.K.lookup a = some o → False:=fun o q=>by
    have e:=I.ok.mod.kin a o q
    rcases f.2.2.2.1 with z | z
    · exact I.ok.noex a o e z
    · exact absurd (Nat.lt_of_lt_of_le (Heap.lt_size e) (Nat.le_trans I.ok.bsz z)) (Nat.lt_irrefl _)
  cases k with
  | lst =>
    rcases h with (h | ⟨o,h⟩) | ⟨o,_,_,q,_⟩
    · rw [f.1] at h; cases h
    · rw [f.1] at h; cases h
    · exact known o q
  | tup =>
    rcases h with (h | ⟨o,h⟩) | ⟨o,_,_,q,_⟩
    · rw [f.1] at h; cases h
    · rw [f.1] at h; cases h
    · exact known o q
theorem turnedL {X : Cx} {pins : List (Addr × Obj)} {σ : St} {H H' : Hp} {s : Shared} {h' : Heap} {t' : Nat} {ch : List Addr} (I : Inv X pins σ H s) (hf : ∀ b ∈ ch,FpOk X pins H b) (k : ∀ b o,b ∉ ch → s.heap.get? b = some o → h'.get? b = some o)
    (new : ∀ b,b < s.heap.objs.size → H' b = H b) (hok : HOk X.prog X.w H' h') : Inv X pins σ H' { s with heap:=h',toks:=t' }:=by
  have lt : ∀ {b u},H b = some u → b < s.heap.objs.size:=fun e=>I.hok.lt e
  refine I.step (g':=s.gens) (d':=s.drawn) (ch:=ch) (fun b hb=>⟨(hf b hb).2.2.2.1,(hf b hb).2.1,(hf b hb).2.2.2.2.1,(hf b hb).2.2.2.2.2⟩) (fun b o _ _ hc e _=>k b o hc e) (fun b o _ _ hc e _=>⟨o.slots,k b o hc e⟩) (fun b o _ e n=>by rw [new b (Heap.lt_size e)]; exact n)
    (fun b o hc e=>⟨o,k b o hc e⟩) (fun b xs e=>by rw [new b (lt e)]; exact e) (fun b o u e=>by rw [new b (lt e)]; exact e) (fun b ps e=>⟨#[],by rw [new b (lt e),e]; simp⟩) (fun m hm=>?_) hok I.bare
  obtain ⟨o,es,ep,ho,r⟩:=hm
  exact ⟨o,es,ep,k _ o (fun z=>(hf _ z).2.1 rfl) ho,r⟩
theorem turn_zip {P : Program} {w : World} {K : PySem.W.Frag} {elts : List Expr} {x1} {pos : Pos} (k1 k2 : SK) (a b z TI TO i1 i2 : Addr) (D : ZAp z TI TO i1 i2) :
    Turn P w K (.Tuple elts x1 pos) (Itz K k1 k2 a b) [z,TI,TO,i1,i2] z (fun i h=>ZSt k1 k2 z TI TO i1 i2 a b i h) where
  mem:=by simp
  obj:=fun i h st c hc=>by
    obtain ⟨hz,hTI,⟨u,v,hTO⟩,h1,h2⟩:=st
    have it : ∀ {k : SK} {i l : Addr} {n : Nat},k.iter h i l n → ∃ o,h.get? i = some o ∧ ∀ v,o.data ≠ .cell v:=fun {k i l n} x=>by
      cases k with
      | lst=>obtain ⟨o,e,_,d⟩:=x; exact ⟨o,e,fun v q=>by rw [d] at q; cases q⟩
      | tup=>obtain ⟨o,e,_,d⟩:=x; exact ⟨o,e,fun v q=>by rw [d] at q; cases q⟩
    simp only [List.mem_cons,List.not_mem_nil,or_false] at hc
    rcases hc with rfl | rfl | rfl | rfl | rfl
    · exact ⟨_,hz,fun v q=>by cases (show Data.fields _ = Data.cell v from q)⟩
    · exact ⟨_,hTI,fun v q=>by cases (show Data.seq _ _ = Data.cell v from q)⟩
    · exact ⟨_,hTO,fun v q=>by cases (show Data.seq _ _ = Data.cell v from q)⟩
    · exact it h1
    · exact it h2
  keep:=fun i h h' st k=>by
    obtain ⟨hz,hTI,⟨u,v,hTO⟩,h1,h2⟩:=st
    exact ⟨k z (by simp) _ hz,k TI (by simp) _ hTI,⟨u,v,k TO (by simp) _ hTO⟩,SK.iter_keep h1 fun o e=>k i1 (by simp) o e,SK.iter_keep h2 fun o e=>k i2 (by simp) o e⟩
  item:=by
    intro X hP hw hK hc i pins s σ H E I hf st hg
    subst hP hw hK
    obtain ⟨xs,ys,x,y,q1,q2,hx,hy⟩:=hg
    obtain ⟨its,r1,p1⟩:=SK.at I q1
    obtain ⟨its',r2,p2⟩:=SK.at I q2
    obtain ⟨u,hu,ru⟩:=r1.get hx
    obtain ⟨v,hv,rv⟩:=r2.get hy
    have fz:=hf z (by simp)
    have fTO:=hf TO (by simp)
    have f1:=hf i1 (by simp)
    have f2:=hf i2 (by simp)
    refine z_item D st p1 p2 ⟨sq_ne I q1 fz,sq_ne I q1 f1⟩ ⟨sq_ne I q2 fz,sq_ne I q2 f1,sq_ne I q2 fTO⟩ (x:=u) (y:=v) (by simpa using hu) (by simpa using hv) fun h' a1 a2 a3 a4 a5 a6 a7=>?_
    refine ⟨_,rfl,wpAny_letOwnedTupleGo_zip (s:={ s with heap:=h' }) a1 fun h'' b1 b2=>?_⟩
    have kp : ∀ c o,c ∉ [z,TO,i1,i2] → s.heap.get? c = some o → h''.get? c = some o:=fun c o hc e=>by
      simp only [List.mem_cons,List.not_mem_nil,or_false,not_or] at hc
      exact b2.extBut _ _ hc.1 (a7 c o hc.1 hc.2.1 hc.2.2.1 hc.2.2.2 e)
    have zlt : z < s.heap.objs.size:=Heap.lt_size st.hz
    have hT : IsPair h'' s.heap.objs.size u v:=b2.extBut _ _ (Nat.ne_of_gt zlt) a6
    have hf4 : ∀ c ∈ [z,TO,i1,i2],FpOk X pins H c:=fun c hc=>by
      simp only [List.mem_cons,List.not_mem_nil,or_false] at hc
      rcases hc with rfl | rfl | rfl | rfl
      · exact fz
      · exact fTO
      · exact f1
      · exact f2
    have hn : H s.heap.objs.size = none:=I.fresh
    have hok : HOk X.prog X.w (upd H s.heap.objs.size (.tup [x,y])) h'':=fun c o e=>by
      by_cases hc : c = s.heap.objs.size
      · subst hc
        rw [upd_same] at e
        cases e
        exact ⟨by show 2 ≤ sizeLine; decide,[u,v],.cons ru (.cons rv .nil),⟨_,hT,rfl,_,rfl,rfl⟩⟩
      · rw [upd_ne hc] at e
        refine (I.hok c o e).stay (fun d v2 hd q=>kp d v2 (fun m=>?_) q) (fun d q=>by rw [upd_ne (ne_of_none q hn)]; exact q) fun d xs q=>by rw [upd_ne (ne_of_none q hn)]; exact q
        have z:=(hf4 d m).1
        rcases hd with rfl | hd
        · rw [e] at z; cases z
        · rw [hd] at z; cases z
    have I9 : Inv X pins σ (upd H s.heap.objs.size (.tup [x,y])) { s with heap:=h'',toks:=s.toks }:=turnedL (s:=s) I hf4 kp (fun c hc=>upd_ne (Nat.ne_of_lt hc)) hok
    refine ⟨.ref s.heap.objs.size,upd H s.heap.objs.size (.tup [x,y]),I9,rfl,⟨s.heap.objs.size,x,y,rfl,hn,rfl,fun zs hz=>by rw [SK.inj I hz q1]; exact hx,fun zs hz=>by rw [SK.inj I hz q2]; exact hy⟩,?_,fun c hc=>?_⟩
    · exact ⟨b1,b2.extBut _ _ D.a1 a2,⟨u,v,b2.extBut _ _ D.a2 a3⟩,SK.iter_keep a4 fun o e=>b2.extBut _ _ D.a3 e,SK.iter_keep a5 fun o e=>b2.extBut _ _ D.a4 e⟩
    · obtain ⟨o,e⟩ : ∃ o,s.heap.get? c = some o:=by
        obtain ⟨hz,hTI,⟨u,v,hTO⟩,h1,h2⟩:=st
        simp only [List.mem_cons,List.not_mem_nil,or_false] at hc
        rcases hc with rfl | rfl | rfl | rfl | rfl
        · exact ⟨_,hz⟩
        · exact ⟨_,hTI⟩
        · exact ⟨_,hTO⟩
        · cases k1 with
          | lst=>obtain ⟨o,e,_⟩:=h1; exact ⟨o,e⟩
          | tup=>obtain ⟨o,e,_⟩:=h1; exact ⟨o,e⟩
        · cases k2 with
          | lst=>obtain ⟨o,e,_⟩:=h2; exact ⟨o,e⟩
          | tup=>obtain ⟨o,e,_⟩:=h2; exact ⟨o,e⟩
      rw [upd_ne (Nat.ne_of_lt (Heap.lt_size e))]
      exact (hf c hc).1
  done:=by
    intro X hP hw hK hc i pins s σ H E I hf st hg
    subst hP hw hK
    obtain ⟨xs,ys,q1,q2,hx⟩:=hg
    obtain ⟨its,r1,p1⟩:=SK.at I q1
    obtain ⟨its',r2,p2⟩:=SK.at I q2
    have fz:=hf z (by simp)
    have fTO:=hf TO (by simp)
    have f1:=hf i1 (by simp)
    have f2:=hf i2 (by simp)
    have l1:=r1.length
    have l2:=r2.length
    refine z_end (I.ok.hd hc) D st p1 p2 ⟨sq_ne I q1 fz,sq_ne I q1 f1⟩ ⟨sq_ne I q2 fz,sq_ne I q2 f1,sq_ne I q2 fTO⟩ (hx.imp (fun q=>by simp; omega) fun q=>by simp; omega) fun h' a7=>⟨rfl,?_⟩
    have hf4 : ∀ c ∈ [z,TO,i1,i2],FpOk X pins H c:=fun c hc=>by
      simp only [List.mem_cons,List.not_mem_nil,or_false] at hc
      rcases hc with rfl | rfl | rfl | rfl
      · exact fz
      · exact fTO
      · exact f1
      · exact f2
    have kp : ∀ c o,c ∉ [z,TO,i1,i2] → s.heap.get? c = some o → h'.get? c = some o:=fun c o hc e=>by
      simp only [List.mem_cons,List.not_mem_nil,or_false,not_or] at hc
      exact a7 c o hc.1 hc.2.1 hc.2.2.1 hc.2.2.2 e
    refine turnedL (h':=h') (t':=s.toks) I hf4 kp (fun c _=>rfl) fun c o e=>?_
    refine (I.hok c o e).stay (fun d v2 hd q=>kp d v2 (fun m=>?_) q) (fun d q=>q) fun d xs q=>q
    have z:=(hf4 d m).1
    rcases hd with rfl | hd
    · rw [e] at z; cases z
    · rw [hd] at z; cases z
  self:=fun _ _ _ _ _ st h=>wpAny_pyIter_zip st.hz h
def iZip (K : PySem.W.Frag) (k1 k2 : SK) (ta : TA) : TI:=fun σ H R=>ta σ H fun vs H1=>∃ a b,vs = [.ref a,.ref b] ∧ (∃ xs,k1.is K H1 a xs) ∧ (∃ ys,k2.is K H1 b ys) ∧ R (Itz K k1 k2 a b) H1
theorem pi_zip {X : Cx} {ea eb : Expr} {ta : TA} {p pos tp : Pos} {elts : List Expr} {x1} (k1 k2 : SK) (hg : Gl X "zip") (hm : X.mg "zip" = none) (ha : PA X [ea,eb] ta) (hs : starEach [ea,eb] X.env = (false,eval ea X.env) :: starEach [eb] X.env:=by rfl) (hs2 : (backTo pos (starEach [eb] X.env)).any (·.1) = false:=by rfl) :
    PI X (.Tuple elts x1 tp) (.Call (.Name "zip" p) [ea,eb] [] pos) (iZip X.K k1 k2 ta):=by
  intro pins s σ H R I h
  refine Call_ (ld_blt I hg hm boot_zip (PyProof.Rows.callWith_type1 (thn (ha pos pins s σ H _ I h) fun us s1 ⟨vs,H1,I1,r1,q1⟩=>?_) hs hs2))
  obtain ⟨a,b,rfl,⟨xs,ex⟩,⟨ys,ey⟩,q⟩:=q1
  obtain ⟨u,v,rfl,ru,rv⟩:=vals2 r1
  cases ru
  cases rv
  obtain ⟨its,r1,p1⟩:=SK.at I1 ex
  obtain ⟨its',r2,p2⟩:=SK.at I1 ey
  refine z_call p1 p2 fun h' Z kp=>?_
  refine wpAny_pyIter_zip Z.hz ?_
  have I2 : Inv X pins σ H1 { s1 with heap:=h' }:=I1.kept (t':=s1.toks) kp
  refine ⟨_,[s1.heap.objs.size + 4,s1.heap.objs.size + 2,s1.heap.objs.size + 3,s1.heap.objs.size,s1.heap.objs.size + 1],_,_,H1,rfl,I2,turn_zip k1 k2 a b _ _ _ _ _ (zap_new _),Z,fun c hc=>?_,q⟩
  have ge : s1.heap.objs.size ≤ c:=by
    simp only [List.mem_cons,List.not_mem_nil,or_false] at hc
    rcases hc with rfl | rfl | rfl | rfl | rfl
    · exact Nat.le_add_right _ _
    · exact Nat.le_add_right _ _
    · exact Nat.le_add_right _ _
    · exact Nat.le_refl _
    · exact Nat.le_add_right _ _
  exact I1.fpOk ge (I1.hok.fresh ge)
end L2.Ev
namespace L2.Ev
open PySem PySem.Spec PyProof.Rows
open L2.Ts L2.Pl L2.Rw
section
variable {X : Cx} {α : Type} [D : Dat α] [S : Srtd α]
noncomputable def rkOf (α : Type) [D : Dat α] [S : Srtd α] (H : Hp) (l : List α) (p : Keyed) : Nat:=by
  classical exact if h : ∃ a : α,∃ v,RelV v p.1 ∧ D.is H v a then rank S.lt l h.choose else 0
theorem rkOf_is {H : Hp} {l : List α} {p : Keyed} {v : V} {a : α} (r : RelV v p.1) (h : D.is H v a) : rkOf α H l p = rank S.lt l a:=by
  unfold rkOf
  have e : ∃ a : α,∃ v,RelV v p.1 ∧ D.is H v a:=⟨a,v,r,h⟩
  rw [dif_pos e]
  obtain ⟨v',r',h'⟩:=e.choose_spec
  have : v' = v:=RelV.inj r' r
  subst this
  rw [D.inj h' h]
theorem Paired.perm {β γ : Type} {F : β → γ → Prop} {l l' : List β} (p : l'.Perm l) : ∀ {m : List γ},Paired F l m → ∃ m',m'.Perm m ∧ Paired F l' m':=by
  induction p with
  | nil=>intro m h; exact ⟨m,List.Perm.refl _,h⟩
  | cons x _ ih =>
    intro m h
    cases h with
    | cons r t =>
      obtain ⟨m',p',h'⟩:=ih t
      exact ⟨_ :: m',p'.cons _,.cons r h'⟩
  | swap x y l =>
    intro m h
    cases h with
    | cons r t =>
      cases t with
      | cons r2 t2=>exact ⟨_,List.Perm.swap _ _ _,.cons r2 (.cons r t2)⟩
  | trans _ _ i1 i2 =>
    intro m h
    obtain ⟨m1,p1,h1⟩:=i2 h
    obtain ⟨m2,p2,h2⟩:=i1 h1
    exact ⟨m2,p2.trans p1,h2⟩
theorem Paired.mem {β γ : Type} {F : β → γ → Prop} {l : List β} {m : List γ} (h : Paired F l m) {x : β} (hx : x ∈ l) : ∃ y ∈ m,F x y:=by
  induction h with
  | nil=>cases hx
  | cons r t ih =>
    rcases List.mem_cons.mp hx with e | hx
    · subst e; exact ⟨_,List.mem_cons_self ..,r⟩
    · obtain ⟨y,hy,f⟩:=ih hx
      exact ⟨y,List.mem_cons_of_mem _ hy,f⟩
abbrev Both (α : Type) [D : Dat α] (H : Hp) (its : List Value) (l : List α) : Prop:=Paired (fun u a=>∃ v,RelV v u ∧ D.is H v a) its l
theorem both_of {H : Hp} : ∀ {vs : List V} {its : List Value} {l : List α},Vals vs its → Its H vs l → Both α H its l
  | _,_,_,.nil,.nil=>.nil
  | _,_,_,.cons r t,.cons q u=>.cons ⟨_,r,q⟩ (both_of t u)
theorem of_both {H : Hp} {its : List Value} {l : List α} (h : Both α H its l) : ∃ vs,Vals vs its ∧ Its H vs l:=by
  induction h with
  | nil=>exact ⟨[],.nil,.nil⟩
  | cons r t ih =>
    obtain ⟨v,rv,d⟩:=r
    obtain ⟨vs,a,b⟩:=ih
    exact ⟨v :: vs,.cons rv a,.cons d b⟩
theorem both_sorted {H : Hp} {l0 : List α} {out : List Value} {m : List α} (h : Both α H out m) (hm : ∀ a ∈ m,a ∈ l0) (o : out.Pairwise fun x y=>rkOf α H l0 (y,y) ≤ rkOf α H l0 (x,x)) : m.Pairwise fun a b=>S.lt a b = false:=by
  induction h with
  | nil=>exact .nil
  | @cons x a xs m r t ih =>
    obtain ⟨o1,o2⟩:=List.pairwise_cons.mp o
    refine List.pairwise_cons.mpr ⟨fun b hb=>?_,ih (fun b hb=>hm b (List.mem_cons_of_mem _ hb)) o2⟩
    obtain ⟨y,hy,e⟩ : ∃ y ∈ xs,∃ v,RelV v y ∧ D.is H v b:=by
      have key : ∀ {xs : List Value} {m : List α},Both α H xs m → b ∈ m → ∃ y ∈ xs,∃ v,RelV v y ∧ D.is H v b:=by
        intro xs m t
        induction t with
        | nil=>intro z; cases z
        | cons r t ih =>
          intro z
          rcases List.mem_cons.mp z with e | z
          · subst e; exact ⟨_,List.mem_cons_self ..,r⟩
          · obtain ⟨y,hy,f⟩:=ih z
            exact ⟨y,List.mem_cons_of_mem _ hy,f⟩
      exact key t hb
    obtain ⟨v,rv,dv⟩:=r
    obtain ⟨v2,rv2,dv2⟩:=e
    have q:=o1 y hy
    rw [rkOf_is (p:=(y,y)) rv2 dv2,rkOf_is (p:=(x,x)) rv dv] at q
    cases c : S.lt a b with
    | false=>rfl
    | true =>
      have:=(rank_lt S.lin (hm a (List.mem_cons_self ..))).mp c
      omega
theorem sort_asks {pins : List (Addr × Obj)} {σ : St} {H : Hp} {s : Shared} {its : List Value} {l : List α} {A : Around} (hu : A.units + 4 < cLine) (hb : Both α H its l) (hok : ∀ a ∈ l,S.ok a) (I : Inv X pins σ H s) (h2 : 2 ≤ its.length) :
    (∀ (Q : SortKind → Shared → Prop) (E' : Value → Shared → Prop),Q (tuples' S.plain) s → wpAny (model X.prog X.w) A (keyKind' its.toArray) Q E' s) ∧
    Ask X.prog X.w A s (tuples' S.plain) (fun p=>∃ a ∈ l,∃ v,RelV v p.1 ∧ D.is H v a) (rkOf α H l):=by
  constructor
  · intro Q E' q
    have fs : ∀ {its : List Value} {l : List α},Both α H its l → (∀ a ∈ l,S.ok a) → ∃ fs : List Value,fs.length = its.length ∧ PySem.W.KatTups s.heap its fs ∧ ∀ f ∈ fs,PySem.W.Looks (model X.prog X.w) s.heap (typeOf f) (if S.plain = true then .type "int" else .type "tuple"):=by
      intro its l hb
      induction hb with
      | nil=>intro _; exact ⟨[],rfl,PySem.W.KatTups.nil,fun f hf=>by cases hf⟩
      | @cons u0 a0 _ _ r t ih =>
        intro ok
        obtain ⟨fs,f1,f2,f3⟩:=ih fun a ha=>ok a (List.mem_cons_of_mem _ ha)
        obtain ⟨v,rv,dv⟩:=r
        obtain ⟨p,o,xs,n,f,rp,ho,hc,hd,hf,lk⟩:=S.first I dv (ok _ (List.mem_cons_self ..))
        have e : u0 = Value.ref p:=by
          cases v with
          | ref a =>
            have e1 : Value.ref p = Value.ref a:=rp
            have e2 : u0 = Value.ref a:=rv
            rw [e2,e1]
          | _=>first | (obtain ⟨_,e⟩:=rp; cases e) | cases rp
        subst e
        refine ⟨f :: fs,by simp [f1],PySem.W.KatTups.cons ho hc hd hf f2,fun g hg=>?_⟩
        rcases List.mem_cons.mp hg with e | hg
        · subst e; exact lk
        · exact f3 g hg
    obtain ⟨fs,f1,f2,f3⟩:=fs hb hok
    refine PySem.W.kat_kind f2 (by omega) f3 (by split <;> decide) ?_
    cases c : S.plain with
    | true=>rw [c] at q; exact q
    | false=>rw [c] at q; exact q
  · intro x y hx hy Q q
    obtain ⟨a,ha,v,rv,dv⟩:=hx
    obtain ⟨b,hb',v',rv',dv'⟩:=hy
    refine S.asks I hu dv dv' (hok a ha) (hok b hb') rv rv' Q ?_
    rw [rkOf_is rv dv,rkOf_is rv' dv'] at q
    have e : decide (rank S.lt l a < rank S.lt l b) = S.lt a b:=by
      cases c : S.lt a b with
      | true=>exact decide_eq_true ((rank_lt S.lin ha).mp c)
      | false=>exact decide_eq_false fun z=>by rw [(rank_lt S.lin ha).mpr z] at c; cases c
    rw [e] at q
    exact q
def tSortL (α : Type) [D : Dat α] [S : Srtd α] (ta : TA) : TE:=fun σ H Q=>ta σ H fun vs H1=>∃ (a : Addr) (l : List α),vs = [.ref a] ∧ LstAt H1 a l ∧ (∀ b ∈ l,S.ok b) ∧
  ∀ (p : Addr) (vs : List V) (l' : List α),H1 p = none → l'.Perm l → (l'.Pairwise fun a b=>S.lt a b = false) → Its H1 vs l' → Q (.ref p) (upd H1 p (.lst vs))
theorem sorted_end {pins : List (Addr × Obj)} {σ : St} {H : Hp} {s : Shared} {its out : List Value} {l : List α} {Q : VK} {h' : Heap} {tk : Nat} {P : Addr} {e : Nat} (I : Inv X pins σ H s) (hb : Both α H its l) (hz : its.length ≤ sizeLine) (p : out.Perm its)
    (o : out.Pairwise fun x y=>rkOf α H l (y,y) ≤ rkOf α H l (x,x)) (kp : ∀ b o,s.heap.get? b = some o → h'.get? b = some o) (hP : s.heap.objs.size ≤ P) (hg : h'.get? P = some (seqObj "list" out.toArray e))
    (q : ∀ (p : Addr) (vs : List V) (l' : List α),H p = none → l'.Perm l → (l'.Pairwise fun a b=>S.lt a b = false) → Its H vs l' → Q (.ref p) (upd H p (.lst vs))) : EP X pins σ Q (.ref P) { s with heap:=h',toks:=tk }:=by
  obtain ⟨m,pm,bm⟩:=Paired.perm p hb
  obtain ⟨vs,v1,v2⟩:=of_both bm
  have lz : vs.length ≤ sizeLine:=by rw [v1.length,p.length_eq]; exact hz
  refine ⟨.ref P,upd H P (.lst vs),I.laid (a:=P) (o:=.lst vs) (t':=tk) kp hP ⟨lz,out,e,v1,hg⟩,rfl,q P vs m (I.hok.fresh hP) pm (both_sorted bm (fun a ha=>pm.mem_iff.mp ha) o) v2⟩
theorem sorted_run {pins : List (Addr × Obj)} {σ : St} {H : Hp} {s : Shared} {r : Addr} {its : List Value} {l : List α} {Q : VK} (hu : X.A.units + 8 < cLine) (I : Inv X pins σ H s) (hb : Both α H its l) (hz : its.length ≤ sizeLine) (hok : ∀ a ∈ l,S.ok a)
    (hcol : ∀ (Q' : List Value → Shared → Prop),(∀ h' tk,(∀ b o,s.heap.get? b = some o → h'.get? b = some o) → s.heap.objs.size ≤ h'.objs.size → Q' its { s with heap:=h',toks:=tk }) → wpAny (model X.prog X.w) X.A.in1 (collect (.ref r)) Q' X.xe s)
    (q : ∀ (p : Addr) (vs : List V) (l' : List α),H p = none → l'.Perm l → (l'.Pairwise fun a b=>S.lt a b = false) → Its H vs l' → Q (.ref p) (upd H p (.lst vs))) :
    wpAny (model X.prog X.w) X.A (call (.builtin "sorted") [.ref r] [(Str.ofString "reverse",.bool true)]) (EP X pins σ Q) X.xe s:=by
  refine sorted_down (κ:=tuples' S.plain) (M:=fun p=>∃ a ∈ l,∃ v,RelV v p.1 ∧ D.is H v a) (rk:=rkOf α H l) hz (fun v hv=>?_) hcol (fun h' tk kp l2=>?_) fun h' tk P e out p o kp hP hg=>?_
  · obtain ⟨a,ha,d⟩:=Paired.mem hb hv
    exact ⟨a,ha,d⟩
  · exact sort_asks (A:=X.A.in1.in1) (by show X.A.units + 1 + 1 + 4 < cLine; omega) hb hok (I.kept (t':=tk) kp) l2
  · exact sorted_end I hb hz p o kp hP hg q
theorem pe_sortedL {e : Expr} {ta : TA} {p pos kp kq : Pos} {j} (hc : X.calm = true) (hu : X.A.units + 8 < cLine) (hg : Gl X "sorted") (hm : X.mg "sorted" = none) (ha : PA X [e] ta)
    (h1 : backTo pos (starEach [e] X.env) = (false,eval e X.env) :: backTo pos (starEach [] X.env):=by rfl) (h2 : (backTo pos (starEach [e] X.env)).any (·.1) = false:=by rfl) :
    PE X (.Call (.Name "sorted" p) [e] [⟨some (Str.ofString "reverse"),.Constant (.bool true) j kq,kp⟩] pos) (tSortL α ta):=by
  intro pins s σ H Q I h
  refine wpAny_Call_Name_kw (ld_blt I hg hm boot_sorted ?_)
  refine callWith_kw (thn (ha pos pins s σ H _ I h) fun us s1 ⟨vs,H1,I1,r1,q1⟩=>?_) h1 h2
  obtain ⟨a,l,rfl,⟨vs,hL,hI⟩,hok,q⟩:=q1
  obtain ⟨u,rfl,ru⟩:=vals1 r1
  cases ru
  refine kws_cons (Constant_bool (kws_nil ?_))
  obtain ⟨its,rv,ht,hz⟩:=I1.list (SqL.of hL)
  refine sorted_run hu I1 (both_of rv hI) (by rw [← rv.length]; exact hz) hok (fun Q' q'=>collect_list ht.isList (q' _ _ (fun b o e=>?_) ?_) (by rw [← rv.length]; exact hz)) q
  · exact (Heap.get?_update_other _ _ (Nat.ne_of_gt (Heap.lt_size e))).trans (Heap.get?_push_of_some _ e)
  · rw [Heap.size_update,size_push']; exact Nat.le_succ _
end
def toK (d : List Mon) : List (List Key × V):=d.map fun t=>(t.1.map Sum.inl,V.int t.2)
theorem inl_inj : ∀ {a b : List Int},(a.map Sum.inl : List Key) = b.map Sum.inl → a = b
  | [],[],_=>rfl
  | [],_ :: _,e=>by simp at e
  | _ :: _,[],e=>by simp at e
  | x :: xs,y :: ys,e=>by
    rw [List.map_cons,List.map_cons] at e
    injection e with e1 e2
    injection e1 with e1
    rw [e1,inl_inj e2]
theorem kV_inl (k : List Int) : (k.map Sum.inl : List Key).map kV = k.map V.int:=by rw [List.map_map]; rfl
theorem toK_val (d : List Mon) (p : Pw) : valV (toK d) (p.map Sum.inl) = (dget d p).map V.int:=by
  induction d with
  | nil=>rfl
  | cons t r ih =>
    have e0 : toK (t :: r) = (t.1.map Sum.inl,V.int t.2) :: toK r:=rfl
    rw [e0]
    by_cases e : t.1 = p
    · rw [valV_pos (p:=(t.1.map Sum.inl,V.int t.2)) (by rw [e])]
      simp [dget,List.find?_cons,e]
    · rw [valV_neg (p:=(t.1.map Sum.inl,V.int t.2)) (fun z=>e (inl_inj z)),ih]
      simp [dget,List.find?_cons,e]
theorem toK_put (d : List Mon) (p : Pw) (n : Int) : putK (toK d) (p.map Sum.inl) (V.int n) = toK (dput d p n):=by
  have ea : ((toK d).any fun kv=>decide (kv.1 = p.map Sum.inl)) = d.any fun kv=>decide (kv.1 = p):=by
    unfold toK
    rw [List.any_map]
    congr 1
    funext t
    show decide ((t.1.map Sum.inl : List Key) = p.map Sum.inl) = decide (t.1 = p)
    by_cases e : t.1 = p
    · rw [decide_eq_true e,decide_eq_true (by rw [e])]
    · rw [decide_eq_false e,decide_eq_false fun z=>e (inl_inj z)]
  unfold putK dput
  rw [ea]
  split
  · unfold toK
    rw [List.map_map,List.map_map]
    apply List.map_congr_left
    intro t _
    simp only [Function.comp]
    by_cases e : t.1 = p
    · rw [if_pos (by rw [e]),if_pos e]
    · rw [if_neg (fun z=>e (inl_inj z)),if_neg e]
  · unfold toK
    rw [List.map_append]
    rfl
theorem toK_len (d : List Mon) : (toK d).length = d.length:=List.length_map _
theorem dt_raw {X : Cx} {pins : List (Addr × Obj)} {σ : St} {H : Hp} {s : Shared} {a : Addr} {d : List Mon} (I : Inv X pins σ H s) (h : Rd H a (.dT (toK d))) :
    d.length ≤ sizeLine ∧ (a == sysModules) = false ∧ ∃ (es : Array DictEntry) (ep : Nat),RawD s.heap a es ep ∧ es.size = d.length ∧
      Paired (fun (e : DictEntry) (t : Mon)=>(∃ p,e.key = .ref p ∧ H p = some (.tup (t.1.map V.int))) ∧ RelV (.int t.2) e.val) es.toList d:=by
  obtain ⟨z,y,xs,r,o,es,ep,h1,h2,h3,h4,h5⟩:=(show ObjOk X.prog X.w H s.heap a (.dT (toK d)) from rd_of I.hok h)
  have key : ∀ {d : List Mon} {xs : List (List Key × Addr × Value)},KT H (toK d) xs → Paired (fun (e : DictEntry) (t : Mon)=>(∃ p,e.key = .ref p ∧ H p = some (.tup (t.1.map V.int))) ∧ RelV (.int t.2) e.val) (xs.map (entryOfKey (tupleKind (mixKind X.prog X.w)))) d:=by
    intro d
    induction d with
    | nil=>intro xs r; cases r; exact .nil
    | cons t d ih =>
      intro xs r
      cases r with
      | cons q qs =>
        refine .cons ⟨⟨_,rfl,?_⟩,q.2.2⟩ (ih qs)
        have:=q.2.1
        rw [← kV_inl]
        exact this
  have kp:=key r
  rw [← h4] at kp
  refine ⟨by rw [← toK_len]; exact z,y,es,ep,⟨o,h1,h2,h3⟩,?_,kp⟩
  rw [← Array.length_toList]
  exact Paired.length kp
section
variable {X : Cx}
def tSortD (ta : TA) : TE:=fun σ H Q=>ta σ H fun vs H1=>∃ (a : Addr) (d : List Mon),vs = [.ref a] ∧ Rd H1 a (.dT (toK d)) ∧ (∀ t ∈ d,t.1 ≠ []) ∧
  ∀ (p : Addr) (vs : List V) (ks : List Pw),H1 p = none → ks.Perm (d.map (·.1)) → (ks.Pairwise fun a b=>lxl a b = false) → Its H1 vs ks → Q (.ref p) (upd H1 p (.lst vs))
theorem pe_sortedD {e : Expr} {ta : TA} {p pos kp kq : Pos} {j} (hc : X.calm = true) (hu : X.A.units + 8 < cLine) (hg : Gl X "sorted") (hm : X.mg "sorted" = none) (ha : PA X [e] ta)
    (h1 : backTo pos (starEach [e] X.env) = (false,eval e X.env) :: backTo pos (starEach [] X.env):=by rfl) (h2 : (backTo pos (starEach [e] X.env)).any (·.1) = false:=by rfl) :
    PE X (.Call (.Name "sorted" p) [e] [⟨some (Str.ofString "reverse"),.Constant (.bool true) j kq,kp⟩] pos) (tSortD ta):=by
  intro pins s σ H Q I h
  refine wpAny_Call_Name_kw (ld_blt I hg hm boot_sorted ?_)
  refine callWith_kw (thn (ha pos pins s σ H _ I h) fun us s1 ⟨vs,H1,I1,r1,q1⟩=>?_) h1 h2
  obtain ⟨a,d,rfl,hR,hne,q⟩:=q1
  obtain ⟨u,rfl,ru⟩:=vals1 r1
  cases ru
  refine kws_cons (Constant_bool (kws_nil ?_))
  obtain ⟨z,lo,es,ep,raw,sz,ent⟩:=dt_raw I1 hR
  have hb : Both (List Int) H1 (es.toList.map (·.key)) (d.map (·.1)):=by
    have key : ∀ {l : List DictEntry} {d : List Mon},Paired (fun (e : DictEntry) (t : Mon)=>(∃ p,e.key = .ref p ∧ H1 p = some (.tup (t.1.map V.int))) ∧ RelV (.int t.2) e.val) l d → Both (List Int) H1 (l.map (·.key)) (d.map (·.1)):=by
      intro l d h
      induction h with
      | nil=>exact .nil
      | cons r t ih =>
        obtain ⟨⟨p,e1,e2⟩,_⟩:=r
        exact .cons ⟨.ref p,e1,row_is e2⟩ ih
    exact key ent
  have ln : (es.toList.map (·.key)).length ≤ sizeLine:=by rw [List.length_map,Array.length_toList,sz]; exact z
  refine sorted_run hu I1 hb ln (fun k hk=>?_) (fun Q' q'=>collect_src (src_raw lo) (I1.ok.hd hc) raw (by rw [sz]; exact z) fun h' tk acc kp szz it=>?_) q
  · obtain ⟨t,ht,rfl⟩:=List.mem_map.mp hk
    exact hne t ht
  · have e : acc.toList = es.toList.map (·.key):=by
      refine List.ext_getElem? fun i=>?_
      rw [Array.getElem?_toList,List.getElem?_map,Array.getElem?_toList]
      by_cases c : i < es.size
      · have ci : i < acc.size:=by rw [it.1]; exact c
        obtain ⟨_,e⟩:=it.2 i acc[i] (Array.getElem?_eq_getElem ci)
        rw [Array.getElem?_eq_getElem ci,Array.getElem?_eq_getElem c,e]
        rfl
      · rw [Array.getElem?_eq_none (by rw [it.1]; omega),Array.getElem?_eq_none (by omega)]
        rfl
    rw [e]
    exact q' h' tk kp szz
end
def Iti (a : Addr) (o : Obj) (d : List Mon) : It :=
  ⟨fun i H=>H a = some (.frz o (.dT (toK d))) ∧ i < d.length,
   fun i H v H'=>∃ p q t,v = .ref p ∧ H p = none ∧ d[i]? = some t ∧ H q = some (.tup (t.1.map V.int)) ∧ H' = upd H p (.tup [.ref q,.int t.2]),
   fun i H=>H a = some (.frz o (.dT (toK d))) ∧ d.length ≤ i⟩
theorem raw_of {H : Hp} {X : Cx} {pins : List (Addr × Obj)} {σ : St} {s : Shared} {a : Addr} {o : Obj} {d : List Mon} {es : Array DictEntry} {ep : Nat} (hd : o.data = .dict es ep) (I : Inv X pins σ H s) (h : H a = some (.frz o (.dT (toK d)))) :
    RawD s.heap a es ep ∧ es.size = d.length ∧ Paired (fun (e : DictEntry) (t : Mon)=>(∃ p,e.key = .ref p ∧ H p = some (.tup (t.1.map V.int))) ∧ RelV (.int t.2) e.val) es.toList d:=by
  obtain ⟨_,_,es',ep',⟨o',h1,h2,h3⟩,h4,h5⟩:=dt_raw I (.inr ⟨o,h⟩)
  obtain ⟨h0,_⟩:=(show ObjOk X.prog X.w H s.heap a (.frz o (.dT (toK d))) from I.hok a _ h)
  rw [h0] at h1
  cases h1
  rw [hd] at h3
  cases h3
  exact ⟨⟨o,h0,h2,hd⟩,h4,h5⟩
theorem turn_items {P : Program} {w : World} {K : PySem.W.Frag} {elts : List Expr} {x1} {pos : Pos} (a it : Addr) (o : Obj) (d : List Mon) (es : Array DictEntry) (ep : Nat) (hd : o.data = .dict es ep) :
    Turn P w K (.Tuple elts x1 pos) (Iti a o d) [it] it (fun i h=>∃ ok ov,IsItemIter h it a i es.size ep ok ov) where
  mem:=by simp
  obj:=fun i h st b hb=>by
    obtain ⟨ok,ov,st⟩:=st
    have e : b = it:=by simpa using hb
    subst e
    exact ⟨_,st,fun v z=>by cases (show Data.fields _ = Data.cell v from z)⟩
  keep:=fun i h h' st k=>by
    obtain ⟨ok,ov,st⟩:=st
    exact ⟨ok,ov,k it (by simp) _ st⟩
  item:=by
    intro X hP hw hK hc i pins s σ H E I hf st hg
    subst hP hw hK
    obtain ⟨ok,ov,st⟩:=st
    obtain ⟨hg,hi⟩:=hg
    obtain ⟨raw,sz,ent⟩:=raw_of hd I hg
    have f1:=hf it (by simp)
    have hi' : i < es.size:=by omega
    have ei : es.toList[i]? = some es[i]:=by rw [Array.getElem?_toList,Array.getElem?_eq_getElem hi']
    obtain ⟨t,et,⟨q,eq1,eq2⟩,rt⟩:=Paired.get ent ei
    refine next_item st raw hi' fun h' a1 a2 a3 a4=>?_
    refine ⟨_,rfl,wpAny_letOwnedTupleGo_items (s:={ s with heap:=h' }) a1 fun h'' b1 b2=>?_⟩
    have kp : ∀ c u,c ∉ [it] → s.heap.get? c = some u → h''.get? c = some u:=fun c u hc e=>by
      have hc : c ≠ it:=by simpa using hc
      exact b2.extBut _ _ hc (a4 c u hc e)
    have ilt : it < s.heap.objs.size:=Heap.lt_size st
    have hT : h''.get? s.heap.objs.size = some { cls:=.type "tuple",data:=.seq #[es[i].key,es[i].val] }:=b2.extBut _ _ (Nat.ne_of_gt ilt) a2
    have hn : H s.heap.objs.size = none:=I.fresh
    have hok : HOk X.prog X.w (upd H s.heap.objs.size (.tup [.ref q,.int t.2])) h'':=fun c u e=>by
      by_cases hc : c = s.heap.objs.size
      · subst hc
        rw [upd_same] at e
        cases e
        exact ⟨by show 2 ≤ sizeLine; decide,[es[i].key,es[i].val],.cons (by rw [eq1]; rfl) (.cons rt .nil),⟨_,hT,rfl,_,rfl,rfl⟩⟩
      · rw [upd_ne hc] at e
        refine (I.hok c u e).stay (fun d v2 hd q=>kp d v2 (fun m=>?_) q) (fun d q=>by rw [upd_ne (ne_of_none q hn)]; exact q) fun d xs q=>by rw [upd_ne (ne_of_none q hn)]; exact q
        have ed : d = it:=by simpa using m
        have z:=f1.1
        rw [← ed] at z
        rcases hd with rfl | hd
        · rw [e] at z; cases z
        · rw [hd] at z; cases z
    have I9 : Inv X pins σ (upd H s.heap.objs.size (.tup [.ref q,.int t.2])) { s with heap:=h'',toks:=s.toks }:=turnedL (s:=s) I hf kp (fun c hc=>upd_ne (Nat.ne_of_lt hc)) hok
    refine ⟨.ref s.heap.objs.size,_,I9,rfl,⟨s.heap.objs.size,q,t,rfl,hn,et,eq2,rfl⟩,⟨_,_,b1⟩,fun c hc=>?_⟩
    have ec : c = it:=by simpa using hc
    subst ec
    rw [upd_ne (Nat.ne_of_lt ilt)]
    exact f1.1
  done:=by
    intro X hP hw hK hc i pins s σ H E I hf st hg
    subst hP hw hK
    obtain ⟨ok,ov,st⟩:=st
    obtain ⟨hg,hi⟩:=hg
    obtain ⟨raw,sz,ent⟩:=raw_of hd I hg
    have f1:=hf it (by simp)
    refine end_item (I.ok.hd hc) st raw (by omega) fun h' a7=>⟨rfl,?_⟩
    have kp : ∀ c u,c ∉ [it] → s.heap.get? c = some u → h'.get? c = some u:=fun c u hc e=>a7 c u (by simpa using hc) e
    refine turnedL (h':=h') (t':=s.toks) I hf kp (fun c _=>rfl) fun c u e=>?_
    refine (I.hok c u e).stay (fun d v2 hd q=>kp d v2 (fun m=>?_) q) (fun d q=>q) fun d xs q=>q
    have ed : d = it:=by simpa using m
    have z:=f1.1
    rw [← ed] at z
    rcases hd with rfl | hd
    · rw [e] at z; cases z
    · rw [hd] at z; cases z
  self:=fun A i s Q E st h=>by
    obtain ⟨ok,ov,st⟩:=st
    exact PySem.W.kcp_self st h
def iItems (te : TE) : TI:=fun σ H R=>te σ H fun x H1=>∃ (a : Addr) (d : List Mon),x = .ref a ∧ H1 a = some (.dT (toK d)) ∧ ∀ o : Obj,R (Iti a o d) (upd H1 a (.frz o (.dT (toK d))))
theorem pi_items {X : Cx} {eo : Expr} {te : TE} {apos pos tp : Pos} {elts : List Expr} {x1} (ho : PE X eo te) (hbase : attributeBase eo "items" X.env (eval eo X.env) = eval eo X.env:=by rfl) (hline : (apos.endLine == pos.line) = true:=by rfl) :
    PI X (.Tuple elts x1 tp) (.Call (.Attribute eo "items" apos) [] [] pos) (iItems te):=by
  intro pins s σ H R I h
  refine wpAny_Call_method0_late hbase hline (thn (ho pins s σ H _ I h) fun v s1 ⟨x,H1,I1,r1,q1⟩=>?_)
  obtain ⟨a,d,rfl,hd,q⟩:=q1
  cases r1
  obtain ⟨z,lo,es,ep,raw,sz,ent⟩:=dt_raw I1 (.inl hd)
  obtain ⟨o,ho,hx,hdat⟩:=id raw
  refine ⟨"dict", "dict.items",PySem.F.plainAttrs_dict,PySem.F.slot_dict_items,PySem.F.type_dict_items,raw.type,fun b e=>?_,Calls.callWith_builtin rfl (PySem.evalArgs_none (items_raw lo raw ?_))⟩
  · cases e
    exact ⟨o,ho,hx.2.1⟩
  have kp1 : ∀ b u,s1.heap.get? b = some u → (s1.heap.push { cls:=.type "dict_items",data:=.fields #[.ref a] }).get? b = some u:=fun b u e=>Heap.get?_push_of_some _ e
  refine iter_items (s:={ s1 with heap:=s1.heap.push { cls:=.type "dict_items",data:=.fields #[.ref a] } }) ⟨_,Heap.get?_push_size _ rfl,rfl,rfl⟩ (raw.keep fun o e=>kp1 _ _ e) ?_
  generalize hh : s1.heap.push { cls:=.type "dict_items",data:=.fields #[.ref a] } = h1 at kp1
  have I2 : Inv X pins σ H1 { s1 with heap:=h1.push { cls:=.type "dict_itemiterator",data:=.fields #[.none,.bool false,.ref a,.int 0 0,.int es.size 0,.int ep 0,.none,.none] } } :=
    I1.kept (t':=s1.toks) fun b u e=>Heap.get?_push_of_some _ (kp1 b u e)
  have hn : H1 h1.objs.size = none:=I1.hok.fresh (by rw [← hh,Heap.size_push]; exact Nat.le_succ _)
  have ge : s1.heap.objs.size ≤ h1.objs.size:=by rw [← hh,Heap.size_push]; exact Nat.le_succ _
  have ho2 : (h1.push { cls:=.type "dict_itemiterator",data:=.fields #[.none,.bool false,.ref a,.int 0 0,.int es.size 0,.int ep 0,.none,.none] }).get? a = some o:=Heap.get?_push_of_some _ (kp1 _ _ ho)
  have I3 : Inv X pins σ (upd H1 a (.frz o (.dT (toK d)))) { s1 with heap:=h1.push { cls:=.type "dict_itemiterator",data:=.fields #[.none,.bool false,.ref a,.int 0 0,.int es.size 0,.int ep 0,.none,.none] } }:=by
    refine I2.write (x:=a) (e:=a) (o:=.frz o (.dT (toK d))) (t':=s1.toks) (by rw [hd]; exact True.intro) (.inl rfl) (fun b u _ e=>e) ⟨o,ho2⟩ ⟨ho2,?_⟩
    refine (I2.hok a _ hd).stay (fun b u _ e=>e) (fun b e=>?_) fun b xs e=>?_
    · rw [upd_ne (ne_of e hd (by intro z; cases z))]; exact e
    · rw [upd_ne (ne_of e hd (by intro z; cases z))]; exact e
  refine ⟨_,[h1.objs.size],_,_,_,rfl,I3,turn_items a h1.objs.size o d es ep hdat,⟨_,_,Heap.get?_push_size _ rfl⟩,fun b hb=>?_,q o⟩
  have eb : b = h1.objs.size:=by simpa using hb
  subst eb
  refine I1.fpOk ge ?_
  rw [upd_ne (ne_of_none hd hn).symm]
  exact hn
end L2.Ev
namespace L2.Ev
open PySem
open L2.Pl
theorem same_new {H : Hp} {p : Addr} (h : H p = none) (o : HO) : Same H (upd H p o):=fun b u q=>by rw [upd_ne (ne_of_none q h)]; exact q
theorem smallS {n : Nat} (h : n ≤ 100000) : n < sizeLine:=Nat.lt_of_le_of_lt h (by decide)
theorem small {n : Nat} (h : n ≤ 100000) : n ≤ sizeLine:=Nat.le_of_lt (smallS h)
theorem hu8 {A : Around} {k : Nat} (hr : Room k A) : A.units + 8 < cLine:=Nat.lt_of_le_of_lt (Nat.add_le_add_left (by decide : 8 ≤ 64) _) hr.units
def bkOut (scope : Scope) (N N' : List Str) (o : Option Nat) (i : Nat) : Bool:=match o with
  | none=>true
  | some j=>match N'[i]? with
    | some x=>decide (N[j]? = some x) && decide (scope.names.lookup x = some NameKind.free)
    | none=>false
def bkLook (sc scope : Scope) (N N' : List Str) (src : List (Option Nat)) : Bool :=
  decide (scope.kind = .function) && scope.names.all (fun y=>decide (y.2 ≠ NameKind.cell)) && scope.names.all (fun y=>!decide (y.2 = NameKind.local) || decide (scope.names.lookup y.1 = some NameKind.local)) &&
  scope.names.all (fun y=>!decide (y.2 = NameKind.free) || (decide (sc.names.lookup y.1 = some NameKind.cell) || decide (sc.names.lookup y.1 = some NameKind.free))) && decide (src.length = N'.length) &&
  (List.range src.length).all fun i=>bkOut scope N N' (src.getD i none) i
theorem bk_of {X : Cx} {N' : List Str} {src : List (Option Nat)} {scope : Scope} (sc : Scope) (N : List Str) (h : bkLook sc scope N N' src = true) (e1 : X.env.scope = sc:=by rfl) (e2 : X.N = N:=by rfl) : BkScope X N' src scope:=by
  subst e1 e2
  unfold bkLook at h
  simp only [Bool.and_eq_true,decide_eq_true_eq,List.all_eq_true,Bool.or_eq_true,Bool.not_eq_true',decide_eq_false_iff_not] at h
  obtain ⟨⟨⟨⟨⟨h1,h2⟩,h3⟩,h4⟩,h5⟩,h6⟩:=h
  refine ⟨h1,h2,fun y hy e=>(h3 y hy).resolve_left fun z=>z e,fun y hy e=>(h4 y hy).resolve_left fun z=>z e,h5,fun i j e=>?_⟩
  obtain ⟨hi,ei⟩:=List.getElem?_eq_some_iff.mp e
  have q:=h6 i (List.mem_range.mpr hi)
  rw [List.getD_eq_getElem?_getD,e] at q
  unfold bkOut at q
  simp only [Option.getD_some] at q
  cases c : N'[i]? with
  | none=>rw [c] at q; cases q
  | some x =>
    rw [c] at q
    simp only [Bool.and_eq_true,decide_eq_true_eq] at q
    exact ⟨x,rfl,q.1,q.2⟩
theorem Same.tseq {K : PySem.W.Frag} {H H' : Hp} {a : Addr} {xs : List V} (e : Same H H') (h : SqT K H a xs) : SqT K H' a xs:=by
  rcases h with (h | ⟨o,h⟩) | h
  · exact .inl (.inl (e _ _ h))
  · exact .inl (.inr ⟨o,e _ _ h⟩)
  · exact .inr h
theorem SK.same {K : PySem.W.Frag} {H H' : Hp} {a : Addr} {xs : List V} {k : SK} (e : Same H H') (h : k.is K H a xs) : k.is K H' a xs:=by
  cases k with
  | lst=>exact Same.seq e h
  | tup=>exact Same.tseq e h
theorem comp_list {α : Type} [Dat α] {K : PySem.W.Frag} {a : Addr} {xs : List V} {σ0 : St} {H1 : Hp} {D : Addr} {R : Hp → Prop} {g : TG} {tc : TT} {te : TE} (hD : H1 D = none) (hl : SqL K H1 a xs) (Sp : St → Prop) (out : Nat → Option α) (hn : xs.length ≤ sizeLine) (h0 : Sp σ0)
    (hturn : ∀ (i : Nat) (x : V) (σ' : St) (H' : Hp) (Yes : V → St → Hp → Prop) (No : St → Hp → Prop),xs[i]? = some x → Sp σ' → Same H1 H' → (∀ y σ2 H4 a,Sp σ2 → Same H' H4 → out i = some a → Dat.is H4 y a → Yes y σ2 H4) → (∀ σ2 H3,Sp σ2 → Same H' H3 → out i = none → No σ2 H3) →
      g x σ' H' fun σ2 H2=>tc σ2 H2 fun ok H3=>if ok = true then te σ2 H3 fun y H4=>Yes y σ2 H4 else No σ2 H3)
    (hend : ∀ H',Same H1 H' → LstAt H' D ((List.range xs.length).filterMap out) → R H') :
    ∃ W : Nat → Nat → St → Hp → Prop,(∃ m,W 0 m σ0 (upd H1 D (.lst []))) ∧ ∀ i m σ' H',W i m σ' H' →
    ((Itl K a).stop i H' ∧ R H') ∨ ((Itl K a).go i H' ∧ ∃ N : St → Hp → Prop,(∀ σ'' H'',N σ'' H'' → ∃ m',m' < m ∧ W (i + 1) m' σ'' H'') ∧
      ∀ x H'',(Itl K a).yld i H' x H'' → g x σ' H'' fun σ2 H2=>tc σ2 H2 fun ok H3=>if ok = true then te σ2 H3 fun y H4=>∃ ys,H4 D = some (.lst ys) ∧ ys.length < sizeLine ∧ N σ2 (upd H4 D (.lst (ys ++ [y]))) else N σ2 H3):=by
  refine comp_read (Q:=fun _ H=>R H) (n:=xs.length) hD Sp out hn h0 (fun H' e=>⟨xs,Same.seq e hl,Nat.le_refl _⟩) (fun i H' hi e=>⟨xs,xs[i],Same.seq e hl,List.getElem?_eq_getElem hi⟩) (fun i σ' H' Yes No hi hS hH hy hn x H'' y=>?_) hend
  obtain ⟨rfl,y⟩:=y
  exact hturn i x σ' H'' Yes No (y xs (Same.seq hH hl)) hS hH hy hn
theorem comp_tup {α : Type} [Dat α] {K : PySem.W.Frag} {a : Addr} {xs : List V} {σ0 : St} {H1 : Hp} {D : Addr} {R : Hp → Prop} {g : TG} {tc : TT} {te : TE} (hD : H1 D = none) (hl : SqT K H1 a xs) (Sp : St → Prop) (out : Nat → Option α) (hn : xs.length ≤ sizeLine) (h0 : Sp σ0)
    (hturn : ∀ (i : Nat) (x : V) (σ' : St) (H' : Hp) (Yes : V → St → Hp → Prop) (No : St → Hp → Prop),xs[i]? = some x → Sp σ' → Same H1 H' → (∀ y σ2 H4 a,Sp σ2 → Same H' H4 → out i = some a → Dat.is H4 y a → Yes y σ2 H4) → (∀ σ2 H3,Sp σ2 → Same H' H3 → out i = none → No σ2 H3) →
      g x σ' H' fun σ2 H2=>tc σ2 H2 fun ok H3=>if ok = true then te σ2 H3 fun y H4=>Yes y σ2 H4 else No σ2 H3)
    (hend : ∀ H',Same H1 H' → LstAt H' D ((List.range xs.length).filterMap out) → R H') :
    ∃ W : Nat → Nat → St → Hp → Prop,(∃ m,W 0 m σ0 (upd H1 D (.lst []))) ∧ ∀ i m σ' H',W i m σ' H' →
    ((Itt K a).stop i H' ∧ R H') ∨ ((Itt K a).go i H' ∧ ∃ N : St → Hp → Prop,(∀ σ'' H'',N σ'' H'' → ∃ m',m' < m ∧ W (i + 1) m' σ'' H'') ∧
      ∀ x H'',(Itt K a).yld i H' x H'' → g x σ' H'' fun σ2 H2=>tc σ2 H2 fun ok H3=>if ok = true then te σ2 H3 fun y H4=>∃ ys,H4 D = some (.lst ys) ∧ ys.length < sizeLine ∧ N σ2 (upd H4 D (.lst (ys ++ [y]))) else N σ2 H3):=by
  refine comp_read (Q:=fun _ H=>R H) (n:=xs.length) hD Sp out hn h0 (fun H' e=>⟨xs,Same.tseq e hl,Nat.le_refl _⟩) (fun i H' hi e=>⟨xs,xs[i],Same.tseq e hl,List.getElem?_eq_getElem hi⟩) (fun i σ' H' Yes No hi hS hH hy hn x H'' y=>?_) hend
  obtain ⟨rfl,y⟩:=y
  exact hturn i x σ' H'' Yes No (y xs (Same.tseq hH hl)) hS hH hy hn
theorem comp_items {α : Type} [Dat α] {a : Addr} {o : Obj} {d : List Mon} {σ0 : St} {H1 : Hp} {D : Addr} {R : Hp → Prop} {g : TG} {tc : TT} {te : TE} (hD : H1 D = none) (hl : H1 a = some (.frz o (.dT (toK d)))) (Sp : St → Prop) (out : Nat → Option α) (hn : d.length ≤ sizeLine) (h0 : Sp σ0)
    (hturn : ∀ (i : Nat) (t : Mon) (p q : Addr) (σ' : St) (H' : Hp) (Yes : V → St → Hp → Prop) (No : St → Hp → Prop),d[i]? = some t → H' p = none → H' q = some (.tup (t.1.map V.int)) → Sp σ' → Same H1 H' → (∀ y σ2 H4 a,Sp σ2 → Same H' H4 → out i = some a → Dat.is H4 y a → Yes y σ2 H4) → (∀ σ2 H3,Sp σ2 → Same H' H3 → out i = none → No σ2 H3) →
      g (.ref p) σ' (upd H' p (.tup [.ref q,.int t.2])) fun σ2 H2=>tc σ2 H2 fun ok H3=>if ok = true then te σ2 H3 fun y H4=>Yes y σ2 H4 else No σ2 H3)
    (hend : ∀ H',Same H1 H' → LstAt H' D ((List.range d.length).filterMap out) → R H') :
    ∃ W : Nat → Nat → St → Hp → Prop,(∃ m,W 0 m σ0 (upd H1 D (.lst []))) ∧ ∀ i m σ' H',W i m σ' H' →
    ((Iti a o d).stop i H' ∧ R H') ∨ ((Iti a o d).go i H' ∧ ∃ N : St → Hp → Prop,(∀ σ'' H'',N σ'' H'' → ∃ m',m' < m ∧ W (i + 1) m' σ'' H'') ∧
      ∀ x H'',(Iti a o d).yld i H' x H'' → g x σ' H'' fun σ2 H2=>tc σ2 H2 fun ok H3=>if ok = true then te σ2 H3 fun y H4=>∃ ys,H4 D = some (.lst ys) ∧ ys.length < sizeLine ∧ N σ2 (upd H4 D (.lst (ys ++ [y]))) else N σ2 H3):=by
  refine comp_read (Q:=fun _ H=>R H) (n:=d.length) hD Sp out hn h0 (fun H' e=>⟨e _ _ hl,Nat.le_refl _⟩) (fun i H' hi e=>⟨e _ _ hl,hi⟩) (fun i σ' H' Yes No hi hS hH hy hn x H'' y=>?_) hend
  obtain ⟨p,q,t,rfl,hp,ht,hq,rfl⟩:=y
  exact hturn i t p q σ' H' Yes No ht hp hq hS hH hy hn
theorem comp_zip {α : Type} [Dat α] {K : PySem.W.Frag} {k1 k2 : SK} {a b : Addr} {xs ys : List V} {σ0 : St} {H1 : Hp} {D : Addr} {R : Hp → Prop} {g : TG} {tc : TT} {te : TE} (hD : H1 D = none) (hl : k1.is K H1 a xs) (hl2 : k2.is K H1 b ys) (Sp : St → Prop) (out : Nat → Option α) (hn : min xs.length ys.length ≤ sizeLine) (h0 : Sp σ0)
    (hturn : ∀ (i : Nat) (x y : V) (p : Addr) (σ' : St) (H' : Hp) (Yes : V → St → Hp → Prop) (No : St → Hp → Prop),xs[i]? = some x → ys[i]? = some y → H' p = none → Sp σ' → Same H1 H' → (∀ y σ2 H4 a,Sp σ2 → Same H' H4 → out i = some a → Dat.is H4 y a → Yes y σ2 H4) → (∀ σ2 H3,Sp σ2 → Same H' H3 → out i = none → No σ2 H3) →
      g (.ref p) σ' (upd H' p (.tup [x,y])) fun σ2 H2=>tc σ2 H2 fun ok H3=>if ok = true then te σ2 H3 fun y H4=>Yes y σ2 H4 else No σ2 H3)
    (hend : ∀ H',Same H1 H' → LstAt H' D ((List.range (min xs.length ys.length)).filterMap out) → R H') :
    ∃ W : Nat → Nat → St → Hp → Prop,(∃ m,W 0 m σ0 (upd H1 D (.lst []))) ∧ ∀ i m σ' H',W i m σ' H' →
    ((Itz K k1 k2 a b).stop i H' ∧ R H') ∨ ((Itz K k1 k2 a b).go i H' ∧ ∃ N : St → Hp → Prop,(∀ σ'' H'',N σ'' H'' → ∃ m',m' < m ∧ W (i + 1) m' σ'' H'') ∧
      ∀ x H'',(Itz K k1 k2 a b).yld i H' x H'' → g x σ' H'' fun σ2 H2=>tc σ2 H2 fun ok H3=>if ok = true then te σ2 H3 fun y H4=>∃ ys,H4 D = some (.lst ys) ∧ ys.length < sizeLine ∧ N σ2 (upd H4 D (.lst (ys ++ [y]))) else N σ2 H3):=by
  refine comp_read (Q:=fun _ H=>R H) (n:=min xs.length ys.length) hD Sp out hn h0 (fun H' e=>⟨xs,ys,SK.same e hl,SK.same e hl2,by omega⟩) (fun i H' hi e=>⟨xs,ys,xs[i],ys[i],SK.same e hl,SK.same e hl2,List.getElem?_eq_getElem (by omega),List.getElem?_eq_getElem (by omega)⟩) (fun i σ' H' Yes No hi hS hH hy hn x H'' y=>?_) hend
  obtain ⟨p,x,y,rfl,hp,rfl,hx,hy2⟩:=y
  exact hturn i x y p σ' H' Yes No (hx xs (SK.same hH hl)) (hy2 ys (SK.same hH hl2)) hp hS hH hy hn
theorem range_map {α β : Type} (f : α → Option β) (l : List α) : (List.range l.length).filterMap (fun i=>(l[i]?).bind f) = l.filterMap f:=by
  induction l with
  | nil=>rfl
  | cons x l ih =>
    rw [List.length_cons,List.range_succ_eq_map,List.filterMap_cons,List.filterMap_map,List.filterMap_cons]
    have e : ((fun i=>((x :: l)[i]?).bind f) ∘ Nat.succ) = fun i=>(l[i]?).bind f:=by funext i; simp
    rw [e,ih]
    simp
theorem filter_map_if {α β : Type} (c : α → Prop) [DecidablePred c] (g : α → β) (l : List α) : l.filterMap (fun k=>if c k then some (g k) else none) = (l.filter fun k=>decide (c k)).map g:=by
  induction l with
  | nil=>rfl
  | cons x l ih =>
    rw [List.filterMap_cons,List.filter_cons]
    by_cases h : c x
    · rw [if_pos h,if_pos (decide_eq_true h),List.map_cons,ih]
    · rw [if_neg h,if_neg (by simpa using h),ih]
theorem its_at {α : Type} [D : Dat α] {H : Hp} {vs : List V} {l : List α} (h : Its H vs l) {i : Nat} {x : V} (e : vs[i]? = some x) : ∃ a,l[i]? = some a ∧ D.is H x a:=Paired.get h e
theorem take_at {α : Type} {l : List α} {i : Nat} {x : α} (e : l[i]? = some x) : l.take (i + 1) = l.take i ++ [x]:=by
  obtain ⟨h,rfl⟩:=List.getElem?_eq_some_iff.mp e
  rw [List.take_succ_eq_append_getElem h]
theorem mon_at {H : Hp} {x : V} {t : Mon} (h : Dat.is H x t) : ∃ p q,x = .ref p ∧ H p = some (.tup [.ref q,.int t.2]) ∧ H q = some (.tup (t.1.map V.int)):=by
  obtain ⟨p,a,b,rfl,hp,ha,hb⟩:=h
  obtain ⟨q,rfl,hq⟩:=row_at ha
  have hb' : b = .int t.2:=hb
  subst hb'
  exact ⟨p,q,rfl,hp,hq⟩
theorem mon_is {H : Hp} {p q : Addr} {t : Mon} (hp : H p = some (.tup [.ref q,.int t.2])) (hq : H q = some (.tup (t.1.map V.int))) : Dat.is H (.ref p) t:=⟨p,_,_,rfl,hp,row_is hq,rfl⟩
theorem tups_new {H : Hp} {p : Addr} (h : H p = none) (o : HO) : Tups H (upd H p o):=Tups.same (same_new h o)
theorem yesT {σ : St} {H : Hp} {A B : Hp → Prop} (h : A H) : tYes σ H (fun ok H3=>if ok = true then A H3 else B H3):=iteT (A:=A H) (B:=B H) h
theorem nameYes {i : Nat} {v : V} {σ : St} {H : Hp} {A B : St → Hp → Prop} (h : A (σ.set i (some v)) H) : gName i v σ H (fun σ2 H2=>tYes σ2 H2 fun ok H3=>if ok = true then A σ2 H3 else B σ2 H3):=iteT (A:=A (σ.set i (some v)) H) (B:=B (σ.set i (some v)) H) h
end L2.Ev
namespace L2.Ev
open PySem PySem.Spec PyProof.Rows
open L2.Pl
section
variable {X : Cx}
def rCatA (K : PySem.W.Frag) : R2:=fun x y H Q=>∃ a b xs ys,x = .ref a ∧ y = .ref b ∧ SqT K H a xs ∧ SqT K H b ys ∧ xs.length + ys.length ≤ sizeLine ∧
  (xs = [] → Q (.ref b) H) ∧ (xs ≠ [] → ys = [] → Q (.ref a) H) ∧ (xs ≠ [] → ys ≠ [] → ∀ p,H p = none → Q (.ref p) (upd H p (.tup (xs ++ ys))))
theorem op_catA : OpR X (binaryOp .Add) (rCatA X.K):=by
  intro pins s σ H x y v u Q I rx ry h
  obtain ⟨a,b,xs,ys,rfl,rfl,ha,hb,hz,q0,q1,q2⟩:=h
  by_cases hx : xs = []
  · cases rx
    cases ry
    obtain ⟨its,r1,p1,_⟩:=I.tuple ha
    obtain ⟨its2,r2,p2,_⟩:=I.tuple hb
    obtain ⟨⟨cls,dd,data,sl⟩,ho,hc,n,hd⟩:=id p1
    obtain ⟨⟨cls2,dd2,data2,sl2⟩,ho2,hc2,n2,hd2⟩:=id p2
    simp only at hc hd hc2 hd2
    subst hc hd hc2 hd2
    have e0 : its = []:=r1.nil_iff.mpr hx
    exact concat_meets ⟨_,ho,rfl⟩ ⟨_,ho2,rfl⟩ noFill_tuple_add seq_tuple_add PySem.F.slot_tuple_add PySem.F.entry_tuple_add (PySem.F.args_tuple_add_2 _ _)
      (tuple_addW0 a b its.toArray its2.toArray n n2 dd dd2 sl sl2 (by rw [e0]; rfl)) ⟨ho,ho2,⟨.ref b,H,I,rfl,q0 hx⟩⟩
  · exact op_catT pins s σ H (.ref a) (.ref b) v u Q I rx ry ⟨a,b,xs,ys,rfl,rfl,ha,hb,hx,hz,q1 hx,q2 hx⟩
theorem cat_rows {K : PySem.W.Frag} {H : Hp} {a b : Addr} {r r' : List Int} {Q : VK} (ha : H a = some (.tup (r.map V.int))) (hb : H b = some (.tup (r'.map V.int))) (hz : r.length + r'.length ≤ sizeLine)
    (q : ∀ p H',Same H H' → H' p = some (.tup ((r ++ r').map V.int)) → Q (.ref p) H') : rCatA K (.ref a) (.ref b) H Q:=by
  refine ⟨a,b,_,_,rfl,rfl,SqT.of ha,SqT.of hb,by simpa using hz,fun e=>?_,fun _ e=>?_,fun _ _ p hp=>?_⟩
  · have e' : r = []:=by simpa using e
    refine q b H (Same.refl _) ?_
    rw [e',List.nil_append]
    exact hb
  · have e' : r' = []:=by simpa using e
    refine q a H (Same.refl _) ?_
    rw [e',List.append_nil]
    exact ha
  · refine q p _ (same_new hp _) ?_
    rw [List.map_append]
    exact upd_same
theorem its_ints {H : Hp} {vs : List V} {ns : List Int} (i : Its H vs ns) : vs = ns.map V.int:=by
  induction i with
  | nil=>rfl
  | cons r t ih=>rw [List.map_cons,← ih]; exact congrArg (· :: _) r
theorem bools_at {bs : List Bool} {its : List Value} (r : Vals (bs.map V.bl) its) {i : Nat} {v : Value} (h : its.toArray[i]? = some v) : ∃ b,bs[i]? = some b ∧ v = .bool b:=by
  have h' : its[i]? = some v:=by simpa using h
  have hi : i < its.length:=(List.getElem?_eq_some_iff.mp h').1
  have hb : i < bs.length:=by have:=r.length; rw [List.length_map] at this; omega
  have e : (bs.map V.bl)[i]? = some (V.bl bs[i]):=by rw [List.getElem?_map,List.getElem?_eq_getElem hb]; rfl
  obtain ⟨u,e1,r1⟩:=r.get e
  rw [h'] at e1
  cases e1
  exact ⟨bs[i],List.getElem?_eq_getElem hb,r1⟩
theorem range_all {bs : List Bool} (n : Nat) (hn : n = bs.length) : (List.range n).all (fun i=>bs.getD i false) = bs.all id:=by
  subst hn
  induction bs with
  | nil=>rfl
  | cons b bs ih =>
    rw [List.length_cons,List.range_succ_eq_map,List.all_cons,List.all_map,List.all_cons]
    have e : ((fun i=>(b :: bs).getD i false) ∘ Nat.succ) = fun i=>bs.getD i false:=by funext i; simp
    rw [e,ih]
    rfl
theorem range_any {bs : List Bool} (n : Nat) (hn : n = bs.length) : (List.range n).any (fun i=>bs.getD i false) = bs.any id:=by
  subst hn
  induction bs with
  | nil=>rfl
  | cons b bs ih =>
    rw [List.length_cons,List.range_succ_eq_map,List.any_cons,List.any_map,List.any_cons]
    have e : ((fun i=>(b :: bs).getD i false) ∘ Nat.succ) = fun i=>bs.getD i false:=by funext i; simp
    rw [e,ih]
    rfl
theorem moved_kept {pins : List (Addr × Obj)} {σ : St} {H : Hp} {s : Shared} {o : Obj} {s' : Shared} (I : Inv X pins σ H s) (hm : Moved [s.heap.objs.size] (fun a b=>b = a) { s with heap:=s.heap.push o } s') : Inv X pins σ H s':=by
  obtain ⟨h',g',d',tk',os'⟩:=s'
  have e1 : g' = s.gens:=hm.gens
  have e2 : d' = s.drawn:=hm.drawn
  have e3 : os' = s.os:=hm.os
  subst e1 e2 e3
  exact I.kept (t':=tk') fun b o e=>hm.heap b o (fun hb=>absurd (Heap.lt_size e) ((List.mem_singleton.mp hb) ▸ Nat.lt_irrefl _)) (Heap.get?_push_of_some _ e)
theorem call_allL (hc : X.calm = true) : CallR X (.builtin "all") (fun xs H Q=>∃ (p : Addr) (bs : List Bool),xs = [.ref p] ∧ SqL X.K H p (bs.map V.bl) ∧ Q (.bl (bs.all id)) H):=by
  intro pins s σ H xs us Q I r h
  obtain ⟨p,bs,rfl,hq,q⟩:=h
  obtain ⟨u,rfl,ru⟩:=vals1 r
  cases ru
  obtain ⟨its,rv,ht,_⟩:=I.list hq
  have hl:=ht.isList
  obtain ⟨o,ho,_⟩:=id hl
  have W:=(Walks.list (prog:=X.prog) (w:=X.w) (A:=X.A.in1) (I.ok.hd hc) s.heap.objs.size p (Nat.ne_of_lt (Heap.lt_size ho)) its.toArray).toS
  refine call_all_walkS (wpAny_pyIter_list hl ⟨s.heap.objs.size,_,_,_,_,_,_,fun i=>bs.getD i false,rfl,W,⟨⟨_,Heap.get?_push_size _ rfl,rfl,rfl⟩,hl.at fun o e=>Heap.get?_push_of_some _ e⟩,fun i v s2 Q2 E2 hP q2=>?_,fun s' hm=>?_⟩)
  · obtain ⟨b,hb,rfl⟩:=bools_at rv hP
    refine wpAny_truthy_bool ?_
    have e : bs.getD i false = b:=by rw [List.getD_eq_getElem?_getD,hb]; rfl
    have q2 : Q2 (bs.getD i false) s2:=q2
    rw [e] at q2
    exact q2
  · refine ⟨.bl (bs.all id),H,moved_kept I hm,?_,q⟩
    have e:=range_all (bs:=bs) its.toArray.size (by have:=rv.length; simp at this ⊢; omega)
    rw [e]
    rfl
theorem call_anyL (hc : X.calm = true) : CallR X (.builtin "any") (fun xs H Q=>∃ (p : Addr) (bs : List Bool),xs = [.ref p] ∧ SqL X.K H p (bs.map V.bl) ∧ Q (.bl (bs.any id)) H):=by
  intro pins s σ H xs us Q I r h
  obtain ⟨p,bs,rfl,hq,q⟩:=h
  obtain ⟨u,rfl,ru⟩:=vals1 r
  cases ru
  obtain ⟨its,rv,ht,_⟩:=I.list hq
  have hl:=ht.isList
  obtain ⟨o,ho,_⟩:=id hl
  have W:=(Walks.list (prog:=X.prog) (w:=X.w) (A:=X.A.in1) (I.ok.hd hc) s.heap.objs.size p (Nat.ne_of_lt (Heap.lt_size ho)) its.toArray).toS
  refine call_any_walkS (wpAny_pyIter_list hl ⟨s.heap.objs.size,_,_,_,_,_,_,fun i=>bs.getD i false,rfl,W,⟨⟨_,Heap.get?_push_size _ rfl,rfl,rfl⟩,hl.at fun o e=>Heap.get?_push_of_some _ e⟩,fun i v s2 Q2 E2 hP q2=>?_,fun s' hm=>?_⟩)
  · obtain ⟨b,hb,rfl⟩:=bools_at rv hP
    refine wpAny_truthy_bool ?_
    have e : bs.getD i false = b:=by rw [List.getD_eq_getElem?_getD,hb]; rfl
    have q2 : Q2 (bs.getD i false) s2:=q2
    rw [e] at q2
    exact q2
  · refine ⟨.bl (bs.any id),H,moved_kept I hm,?_,q⟩
    have e:=range_any (bs:=bs) its.toArray.size (by have:=rv.length; simp at this ⊢; omega)
    rw [e]
    rfl
instance datBool : Dat Bool where
  is:=fun _ v b=>v = .bl b
  mono:=fun _ h=>h
  inj:=fun h h'=>by rw [h] at h'; cases h'; rfl
  dep:=0
  eqb:=fun a b=>a == b
  eqb_iff:=fun a b=>by simp
  eqAt:=fun {X pins σ H s A v v' u u' a b} I hu h h' r r'=>by
    subst h h'
    cases r
    cases r'
    exact SeqAt.EqAt.bool_bool _ _
theorem its_bools {H : Hp} {vs : List V} {bs : List Bool} (i : Its H vs bs) : vs = bs.map V.bl:=by
  induction i with
  | nil=>rfl
  | cons r t ih=>rw [List.map_cons,← ih]; exact congrArg (· :: _) r
theorem data_rc {α : Type} [D : Dat α] {pins : List (Addr × Obj)} {σ : St} {H : Hp} {s : Shared} {A : Around} {a b : Addr} {l m : List α} (I : Inv X pins σ H s) (hu : A.units + (D.dep + 1) < cLine) (ha : Dat.is H (.ref a) l) (hb : Dat.is H (.ref b) m) :
    SeqAt.RcAt A s (.ref a) (.ref b) (eqbs D.eqb l m) ∧ SeqAt.RcNeAt A s (.ref a) (.ref b) (!eqbs D.eqb l m):=by
  obtain ⟨p,vs,e,h,i⟩:=ha
  cases e
  obtain ⟨p',vs',e',h',i'⟩:=hb
  cases e'
  obtain ⟨its,rv,ht,_⟩:=I.tuple (SqT.of h)
  obtain ⟨its',rv',ht',_⟩:=I.tuple (SqT.of h')
  have hl : its.toArray.size = l.length:=by have:=rv.length; have:=Paired.length i; simp; omega
  have hm : its'.toArray.size = m.length:=by have:=rv'.length; have:=Paired.length i'; simp; omega
  have q:=SeqAt.RcAt.tuples (A:=A) (s:=s) (e:=eAt D.eqb l m) (show s.heap.IsTuple a its.toArray from ht) (show s.heap.IsTuple b its'.toArray from ht') (by omega) (its_eqAt I (A:=A.in1) (by show A.units + 1 + D.dep < cLine; omega) i i' rv rv')
  have q2:=SeqAt.RcNeAt.tuples (A:=A) (s:=s) (e:=eAt D.eqb l m) (show s.heap.IsTuple a its.toArray from ht) (show s.heap.IsTuple b its'.toArray from ht') (by omega) (its_eqAt I (A:=A.in1) (by show A.units + 1 + D.dep < cLine; omega) i i' rv rv')
  rw [hl,hm,eqbs_all] at q q2
  exact ⟨q,q2⟩
theorem pair_rc {α β : Type} [D : Dat α] [D2 : Dat β] {pins : List (Addr × Obj)} {σ : St} {H : Hp} {s : Shared} {A : Around} {x y : V} {u v : Value} {l m : α × β} (I : Inv X pins σ H s) (hu : A.units + (max D.dep D2.dep + 1) < cLine) (ha : Dat.is H x l) (hb : Dat.is H y m) (rx : RelV x u) (ry : RelV y v) :
    SeqAt.RcAt A s u v (Dat.eqb l m) ∧ SeqAt.RcNeAt A s u v (!Dat.eqb l m):=by
  obtain ⟨p,a,b,rfl,h,i,j⟩:=ha
  obtain ⟨p',a',b',rfl,h',i',j'⟩:=hb
  cases rx
  cases ry
  obtain ⟨its,rv,ht,_⟩:=I.tuple (SqT.of h)
  obtain ⟨its',rv',ht',_⟩:=I.tuple (SqT.of h')
  obtain ⟨w1,w2,rfl,r1,r2⟩:=vals2 rv
  obtain ⟨z1,z2,rfl,t1,t2⟩:=vals2 rv'
  have each : ∀ k (h1 : k < [w1,w2].toArray.size) (h2 : k < [z1,z2].toArray.size),SeqAt.EqAt A.in1 s [w1,w2].toArray[k] [z1,z2].toArray[k] (if k = 0 then D.eqb l.1 m.1 else D2.eqb l.2 m.2):=fun k h1 h2=>by
    have hk : k = 0 ∨ k = 1:=by
      have : k < 2:=h1
      omega
    rcases hk with rfl | rfl
    · exact D.eqAt (A:=A.in1) I (by show A.units + 1 + D.dep < cLine; omega) i i' r1 t1
    · exact D2.eqAt (A:=A.in1) I (by show A.units + 1 + D2.dep < cLine; omega) j j' r2 t2
  have q:=SeqAt.RcAt.tuples (A:=A) (s:=s) (show s.heap.IsTuple p _ from ht) (show s.heap.IsTuple p' _ from ht') (by omega) each
  have q2:=SeqAt.RcNeAt.tuples (A:=A) (s:=s) (show s.heap.IsTuple p _ from ht) (show s.heap.IsTuple p' _ from ht') (by omega) each
  have e2 : ((List.range (min [w1,w2].toArray.size [z1,z2].toArray.size)).all (fun k=>if k = 0 then D.eqb l.1 m.1 else D2.eqb l.2 m.2) && [w1,w2].toArray.size == [z1,z2].toArray.size) = (D.eqb l.1 m.1 && D2.eqb l.2 m.2):=by
    simp [List.range_succ]
  rw [e2] at q q2
  exact ⟨q,q2⟩
def rEqP (α β : Type) [Dat α] [Dat β] : R2:=fun x y H Q=>∃ (l m : α × β),Dat.is H x l ∧ Dat.is H y m ∧ Q (.bl (Dat.eqb l m)) H
def rNeP (α β : Type) [Dat α] [Dat β] : R2:=fun x y H Q=>∃ (l m : α × β),Dat.is H x l ∧ Dat.is H y m ∧ Q (.bl (!Dat.eqb l m)) H
theorem op_eqP {α β : Type} [D : Dat α] [D2 : Dat β] (hu : X.A.units + (max D.dep D2.dep + 1) < cLine) : OpR X (compareOp .Eq) (rEqP α β):=by
  intro pins s σ H x y v u Q I rx ry h
  obtain ⟨l,m,ha,hb,q⟩:=h
  exact (pair_rc I hu ha hb rx ry).1 X.prog X.w X.xe _ ⟨.bl _,H,I,rfl,q⟩
theorem op_neP {α β : Type} [D : Dat α] [D2 : Dat β] (hu : X.A.units + (max D.dep D2.dep + 1) < cLine) : OpR X (compareOp .NotEq) (rNeP α β):=by
  intro pins s σ H x y v u Q I rx ry h
  obtain ⟨l,m,ha,hb,q⟩:=h
  exact (pair_rc I hu ha hb rx ry).2 X.prog X.w X.xe _ ⟨.bl _,H,I,rfl,q⟩
def rEqT (α : Type) [Dat α] : R2:=fun x y H Q=>∃ (l m : List α),Dat.is H x l ∧ Dat.is H y m ∧ Q (.bl (eqbs (Dat.eqb (α:=α)) l m)) H
theorem op_eqT {α : Type} [D : Dat α] (hu : X.A.units + (D.dep + 1) < cLine) : OpR X (compareOp .Eq) (rEqT α):=by
  intro pins s σ H x y v u Q I rx ry h
  obtain ⟨l,m,ha,hb,q⟩:=h
  obtain ⟨p,_,rfl,_⟩:=id ha
  obtain ⟨p',_,rfl,_⟩:=id hb
  cases rx
  cases ry
  exact (data_rc I hu ha hb).1 X.prog X.w X.xe _ ⟨.bl _,H,I,rfl,q⟩
end
theorem for_zip {K : PySem.W.Frag} {k1 k2 : SK} {a b : Addr} {xs ys : List V} {g : TG} {tb : TS} {D : Ends} {σ : St} {H : Hp} (Pv : Nat → St → Hp → Prop) (h0 : Pv 0 σ H) (hl : ∀ i σ H,Pv i σ H → k1.is K H a xs ∧ k2.is K H b ys)
    (hs : ∀ i x y p σ H,xs[i]? = some x → ys[i]? = some y → H p = none → Pv i σ H → g (.ref p) σ (upd H p (.tup [x,y])) fun σ2 H2=>tb { D with nx:=Pv (i + 1),ct:=Pv (i + 1),bk:=D.nx } σ2 H2) (hd : ∀ σ H,Pv (min xs.length ys.length) σ H → D.nx σ H) :
    ∃ W : Nat → Nat → St → Hp → Prop,(∃ m,W 0 m σ H) ∧ ∀ i m σ H,W i m σ H →
      ((Itz K k1 k2 a b).stop i H ∧ D.nx σ H) ∨ ((Itz K k1 k2 a b).go i H ∧ ∃ N : St → Hp → Prop,(∀ σ' H',N σ' H' → ∃ m',m' < m ∧ W (i + 1) m' σ' H') ∧ ∀ x H',(Itz K k1 k2 a b).yld i H x H' → g x σ H' fun σ2 H2=>tb { D with nx:=N,ct:=N,bk:=D.nx } σ2 H2):=by
  refine ⟨fun i m σ H=>m = min xs.length ys.length - i ∧ i ≤ min xs.length ys.length ∧ Pv i σ H,⟨min xs.length ys.length,by simp,Nat.zero_le _,h0⟩,?_⟩
  rintro i m σ H ⟨rfl,hi,p⟩
  obtain ⟨l1,l2⟩:=hl i σ H p
  by_cases hlt : i < min xs.length ys.length
  · refine .inr ⟨⟨xs,ys,xs[i],ys[i],l1,l2,List.getElem?_eq_getElem (by omega),List.getElem?_eq_getElem (by omega)⟩,Pv (i + 1),fun σ' H' p'=>⟨min xs.length ys.length - (i + 1),by omega,rfl,hlt,p'⟩,fun x H' y=>?_⟩
    obtain ⟨q,x,y,rfl,hq,rfl,hx,hy⟩:=y
    exact hs i x y q σ H (hx xs l1) (hy ys l2) hq p
  · have e : i = min xs.length ys.length:=by omega
    subst e
    exact .inl ⟨⟨xs,ys,l1,l2,by omega⟩,hd σ H p⟩
end L2.Ev
namespace L2.Pl
theorem lt_pow_mono {a : Int} {x y : Nat} (h : a.natAbs < 2 ^ x) (hxy : x ≤ y) : a.natAbs < 2 ^ y:=Nat.lt_of_lt_of_le h (Nat.pow_le_pow_right (by decide) hxy)
def swp (p : List Int) (k : Nat) : List Int:=p.take k ++ [p.getD (k + 1) 0,p.getD k 0] ++ p.drop (k + 2)
def exch (ts : List Mon) (k : Nat) : List Mon:=norm (ts.map fun t=>(swp t.1 k,t.2))
theorem swp_len {p : List Int} {k : Nat} (h : k + 1 < p.length) : (swp p k).length = p.length:=by
  unfold swp
  simp
  omega
structure Good (n b : Nat) (ts : List Mon) : Prop where
  len : ∀ t ∈ ts,t.1.length = n
  pow : ∀ t ∈ ts,∀ x ∈ t.1,0 ≤ x ∧ x ≤ 8
  num : ∀ t ∈ ts,t.2.natAbs < 2 ^ b
theorem Good.ne {n b : Nat} {ts : List Mon} (h : Good (n + 1) b ts) : ∀ t ∈ ts,t.1 ≠ []:=fun t ht e=>by
  have:=h.len t ht
  rw [e] at this
  simp at this
theorem Good.mono {n b c : Nat} {ts : List Mon} (h : Good n b ts) (hbc : b ≤ c) : Good n c ts:=⟨h.len,h.pow,fun t ht=>lt_pow_mono (h.num t ht) hbc⟩
theorem cf_bound {b : Nat} (p : Pw) : ∀ {ts : List Mon},(∀ t ∈ ts,t.2.natAbs < 2 ^ b) → (cf ts p).natAbs ≤ ts.length * 2 ^ b
  | [],_=>by simp [cf]
  | t :: r,h=>by
    have ih:=cf_bound p (ts:=r) fun x hx=>h x (List.mem_cons_of_mem _ hx)
    have h1:=h t (List.mem_cons_self ..)
    simp only [cf]
    have h2:=Int.natAbs_add_le (if t.1 = p then t.2 else 0) (cf r p)
    have h3 : (if t.1 = p then t.2 else (0 : Int)).natAbs ≤ 2 ^ b:=by
      split
      · omega
      · simp
    rw [List.length_cons,Nat.succ_mul]
    omega
theorem cf_mem {l : List Mon} (c : Canon l) {t : Mon} (ht : t ∈ l) : cf l t.1 = t.2:=by
  induction l with
  | nil=>cases ht
  | cons u l ih =>
    rcases List.mem_cons.mp ht with e | ht
    · subst e; exact c.head
    · have o:=(List.pairwise_cons.mp c.ord).1 t ht
      simp only [cf]
      rw [if_neg (fun e=>by rw [e,lxl_irr] at o; cases o),ih c.tail ht]
      omega
theorem Good.norm {n b k : Nat} {ts : List Mon} (h : Good n b ts) (hk : ts.length < 2 ^ k) : Good n (b + k) (norm ts):=by
  refine ⟨fun t ht=>?_,fun t ht=>?_,fun t ht=>?_⟩
  · obtain ⟨u,hu,e⟩:=norm_mem ht
    rw [← e]; exact h.len u hu
  · obtain ⟨u,hu,e⟩:=norm_mem ht
    rw [← e]; exact h.pow u hu
  · have e:=cf_mem (norm_canon ts) ht
    rw [norm_cf] at e
    rw [← e]
    refine Nat.lt_of_le_of_lt (cf_bound t.1 h.num) ?_
    rw [Nat.pow_add,Nat.mul_comm]
    exact Nat.mul_lt_mul_of_pos_left hk (Nat.pow_pos (by decide))
end L2.Pl
namespace L2.Pl
def thing (c k m : Int) : Int:=(c % 2147483647 * 48271 + 69621 * k * k + 7 * k) % 2147483629 * ((c % 2147483647 * 48271 + 69621 * k * k + 7 * k) % 2147483629) % 2147483587 % m
theorem thing_lo {c k m : Int} (h : 0 < m) : 0 ≤ thing c k m:=Int.emod_nonneg _ (by omega)
theorem thing_hi {c k m : Int} (h : 0 < m) : thing c k m < m:=Int.emod_lt_of_pos _ h
def lnum (e : Nat) (c : Int) : Int:=if c % 4 = 0 then c / 4 % 10 ^ e % 5 - 2 else if c % 4 = 1 then 0 - c / 4 % 10 ^ e else c / 4 % 10 ^ e
def pstep (c far w : Int) : Nat → List Int × Int
  | 0=>([],w)
  | n + 1=>((pstep c far w n).1 ++ [thing c (far + n) ((pstep c far w n).2 + 1)],(pstep c far w n).2 - thing c (far + n) ((pstep c far w n).2 + 1))
theorem pstep_ok {c far w : Int} (hw : 0 ≤ w) : ∀ n,(pstep c far w n).1.length = n ∧ (∀ x ∈ (pstep c far w n).1,0 ≤ x) ∧ (pstep c far w n).1.sum + (pstep c far w n).2 = w ∧ 0 ≤ (pstep c far w n).2
  | 0=>by simp [pstep]; exact hw
  | n + 1=>by
    obtain ⟨h1,h2,h3,h4⟩:=pstep_ok (c:=c) (far:=far) hw n
    have t0:=thing_lo (c:=c) (k:=far + n) (show 0 < (pstep c far w n).2 + 1 by omega)
    have t1:=thing_hi (c:=c) (k:=far + n) (show 0 < (pstep c far w n).2 + 1 by omega)
    simp only [pstep]
    refine ⟨by simp [h1],fun x hx=>?_,?_,by omega⟩
    · rcases List.mem_append.mp hx with hx | hx
      · exact h2 x hx
      · rw [List.mem_singleton.mp hx]; exact t0
    · rw [List.sum_append,List.sum_singleton]; omega
def padd (l : List Int) (x : Int) : List Int:=l.dropLast ++ [l.getLastD 0 + x]
def lfill (c far w : Int) (n : Nat) : List Int:=if thing c (far + 11) 3 = 0 then padd (pstep c far w n).1 (pstep c far w n).2 else (pstep c far w n).1
def lpow (c far w : Int) (n : Nat) : List Int:=(lfill c far w n).drop (thing c (far + 12) n).toNat ++ (lfill c far w n).take (thing c (far + 12) n).toNat
theorem le_sum {x : Int} : ∀ {l : List Int},(∀ y ∈ l,0 ≤ y) → x ∈ l → x ≤ l.sum ∧ 0 ≤ l.sum
  | [],_,h=>by cases h
  | y :: l,hl,h=>by
    have hl' : ∀ z ∈ l,0 ≤ z:=fun z hz=>hl z (List.mem_cons_of_mem _ hz)
    have hy:=hl y (List.mem_cons_self ..)
    have s0 : 0 ≤ l.sum:=by
      have key : ∀ m : List Int,(∀ z ∈ m,0 ≤ z) → 0 ≤ m.sum:=by
        intro m
        induction m with
        | nil=>intro _; simp
        | cons a m ih =>
          intro hm
          have:=hm a (List.mem_cons_self ..)
          have:=ih fun z hz=>hm z (List.mem_cons_of_mem _ hz)
          rw [List.sum_cons]; omega
      exact key l hl'
    rw [List.sum_cons]
    rcases List.mem_cons.mp h with rfl | h
    · omega
    · have:=(le_sum hl' h).1
      omega
theorem lfill_ok {c far w : Int} (hw : 0 ≤ w) {n : Nat} (hn : 1 ≤ n) : (lfill c far w n).length = n ∧ (∀ x ∈ lfill c far w n,0 ≤ x) ∧ (lfill c far w n).sum ≤ w:=by
  obtain ⟨h1,h2,h3,h4⟩:=pstep_ok (c:=c) (far:=far) hw n
  unfold lfill
  split
  · unfold padd
    have ne : (pstep c far w n).1 ≠ []:=by intro z; rw [z] at h1; simp at h1; omega
    obtain ⟨l,x,e⟩ : ∃ l x,(pstep c far w n).1 = l ++ [x]:=⟨_,_,(List.dropLast_concat_getLast ne).symm⟩
    rw [e] at h1 h2 h3 ⊢
    rw [List.dropLast_concat,List.getLastD_concat]
    rw [List.sum_append,List.sum_singleton] at h3
    refine ⟨by simpa using h1,fun y hy=>?_,?_⟩
    · rcases List.mem_append.mp hy with hy | hy
      · exact h2 y (List.mem_append_left _ hy)
      · rw [List.mem_singleton.mp hy]
        have:=h2 x (by simp)
        omega
    · rw [List.sum_append,List.sum_singleton]; omega
  · exact ⟨h1,h2,by omega⟩
theorem perm_sum {a b : List Int} (h : a.Perm b) : a.sum = b.sum:=by
  induction h with
  | nil=>rfl
  | cons x _ ih=>rw [List.sum_cons,List.sum_cons,ih]
  | swap x y l=>rw [List.sum_cons,List.sum_cons,List.sum_cons,List.sum_cons]; omega
  | trans _ _ a b=>exact a.trans b
theorem lpow_ok {c far w : Int} (hw : 0 ≤ w) {n : Nat} (hn : 1 ≤ n) : (lpow c far w n).length = n ∧ (∀ x ∈ lpow c far w n,0 ≤ x ∧ x ≤ w) ∧ (lpow c far w n).sum ≤ w:=by
  obtain ⟨h1,h2,h3⟩:=lfill_ok (c:=c) (far:=far) hw hn
  have pm : (lpow c far w n).Perm (lfill c far w n):=by
    unfold lpow
    exact List.perm_append_comm.trans (by rw [List.take_append_drop])
  have sm : (lpow c far w n).sum = (lfill c far w n).sum:=perm_sum pm
  refine ⟨by rw [pm.length_eq,h1],fun x hx=>?_,by rw [sm]; exact h3⟩
  have hx':=pm.mem_iff.mp hx
  exact ⟨h2 x hx',by have:=(le_sum h2 hx').1; omega⟩
def cellv (ns : List Int) (k : Nat) : Int:=if k < ns.length then ns.getD k 0 % 2147483647 else 0
end L2.Pl
namespace L2.Ev
open PySem
open L2.Pl
theorem iteN {c A B : Prop} [Decidable c] (h : ¬ c) (b : B) : if decide c = true then A else B:=by
  rw [decide_eq_false h]
  exact iteF b
theorem iteY {c A B : Prop} [Decidable c] (h : c) (a : A) : if decide c = true then A else B:=by
  rw [decide_eq_true h]
  exact iteT a
theorem iteNN {c A B : Prop} [Decidable c] (h : c) (b : B) : if (!decide c) = true then A else B:=by
  rw [decide_eq_true h]
  exact iteF b
theorem kit_same (K : PySem.W.Frag) (T : String) : PySem.W.kitOne K (.type T) (.type T) = some true:=if_pos (beq_self_eq_true _)
theorem kit_int_bool (K : PySem.W.Frag) : PySem.W.kitOne K (.type "int") (.type "bool") = some false:=by
  show (if (Value.type "int" == Value.type "bool") = true then some true else (if PySem.W.kitMeta "bool" = true then (fastBuiltinMro "int").map (·.contains (.type "bool")) else none)) = some false
  decide +kernel
theorem ixN_last {n : Nat} (h : 1 ≤ n) : ixN n (-1) = some (n - 1):=by
  unfold ixN
  rw [if_neg (by decide),if_pos (by omega)]
  congr 1
  omega
theorem set_last {α : Type} (l : List α) (x y : α) : (l ++ [x]).set ((l ++ [x]).length - 1) y = l ++ [y]:=by
  rw [List.length_append,List.length_singleton,Nat.add_sub_cancel,List.set_append_right _ _ (Nat.le_refl _),Nat.sub_self]
  rfl
theorem cutL_hi (ps : List V) (k : Nat) : cutV ps (some (k : Int)) none = ps.drop k:=by
  unfold cutV
  rw [HT.sIx_none,HT.sIx_nat,List.take_of_length_le (by rw [List.length_drop]; omega)]
  by_cases c : k ≤ ps.length
  · rw [Nat.min_eq_left c]
  · rw [Nat.min_eq_right (by omega),List.drop_of_length_le (Nat.le_refl _),List.drop_of_length_le (by omega)]
theorem cutL_lo (ps : List V) (k : Nat) : cutV ps none (some (k : Int)) = ps.take k:=by
  unfold cutV
  rw [HT.sIx_none,HT.sIx_nat,List.drop_zero,Nat.sub_zero]
  by_cases c : k ≤ ps.length
  · rw [Nat.min_eq_left c]
  · rw [Nat.min_eq_right (by omega),List.take_of_length_le (Nat.le_refl _),List.take_of_length_le (by omega)]
end L2.Ev
namespace L2.Pl
def sm (f : Pw → Int) : List Mon → Int
  | []=>0
  | t :: r=>t.2 * f t.1 + sm f r
theorem sm_app (f : Pw → Int) : ∀ a b : List Mon,sm f (a ++ b) = sm f a + sm f b
  | [],b=>by simp [sm]
  | t :: a,b=>by simp only [List.cons_append,sm]; rw [sm_app f a b]; omega
theorem sm_ins (f : Pw → Int) (t : Mon) : ∀ l : List Mon,sm f (ins t l) = t.2 * f t.1 + sm f l
  | []=>by
    unfold ins
    split
    · rename_i h
      simp [sm,h]
    · simp [sm]
  | u :: l=>by
    unfold ins
    split
    · rename_i h
      split
      · rename_i h2
        simp only [sm]
        rw [← Int.add_assoc,h,← Int.add_mul,Int.add_comm t.2,h2]
        simp
      · simp only [sm]
        rw [h,Int.add_mul]
        omega
    · split
      · split
        · rename_i h
          simp only [sm]; rw [h]; omega
        · simp only [sm]
      · simp only [sm]; rw [sm_ins f t l]; omega
theorem sm_norm (f : Pw → Int) : ∀ ts : List Mon,sm f (norm ts) = sm f ts
  | []=>rfl
  | t :: r=>by
    show sm f (ins t (norm r)) = _
    rw [sm_ins,sm_norm f r]
    rfl
theorem cf_sm (p : Pw) : ∀ ts : List Mon,cf ts p = sm (fun q=>if q = p then 1 else 0) ts
  | []=>rfl
  | t :: r=>by
    simp only [cf,sm]
    rw [cf_sm p r]
    split <;> simp
theorem norm_sm {a b : List Mon} (h : ∀ f,sm f a = sm f b) : norm a = norm b:=norm_congr fun p=>by rw [cf_sm,cf_sm,h]
def ngt (a : List Mon) : List Mon:=a.map fun t=>(t.1,-t.2)
theorem sm_ngt (f : Pw → Int) : ∀ a : List Mon,sm f (ngt a) = - sm f a
  | []=>rfl
  | t :: r=>by
    have:=sm_ngt f r
    unfold ngt at this ⊢
    rw [List.map_cons]
    simp only [sm]
    rw [this,Int.neg_mul]
    omega
structure Deg (n d b : Nat) (ts : List Mon) : Prop where
  len : ∀ t ∈ ts,t.1.length = n
  nn : ∀ t ∈ ts,∀ x ∈ t.1,0 ≤ x
  sum : ∀ t ∈ ts,t.1.sum ≤ d
  num : ∀ t ∈ ts,t.2.natAbs < 2 ^ b
theorem Deg.good {n d b : Nat} {ts : List Mon} (h : Deg n d b ts) (hd : d ≤ 8) : Good n b ts:=by
  refine ⟨h.len,fun t ht x hx=>⟨h.nn t ht x hx,?_⟩,h.num⟩
  have:=(le_sum (h.nn t ht) hx).1
  have:=h.sum t ht
  omega
theorem Deg.mono {n d b d' b' : Nat} {ts : List Mon} (h : Deg n d b ts) (hd : d ≤ d') (hb : b ≤ b') : Deg n d' b' ts :=
  ⟨h.len,h.nn,fun t ht=>by have:=h.sum t ht; omega,fun t ht=>lt_pow_mono (h.num t ht) hb⟩
theorem Deg.norm {n d b k : Nat} {ts : List Mon} (h : Deg n d b ts) (hk : ts.length < 2 ^ k) : Deg n d (b + k) (Pl.norm ts):=by
  refine ⟨fun t ht=>?_,fun t ht=>?_,fun t ht=>?_,fun t ht=>?_⟩
  · obtain ⟨u,hu,e⟩:=norm_mem ht
    rw [← e]; exact h.len u hu
  · obtain ⟨u,hu,e⟩:=norm_mem ht
    rw [← e]; exact h.nn u hu
  · obtain ⟨u,hu,e⟩:=norm_mem ht
    rw [← e]; exact h.sum u hu
  · have e:=cf_mem (norm_canon ts) ht
    rw [norm_cf] at e
    rw [← e]
    refine Nat.lt_of_le_of_lt (cf_bound t.1 h.num) ?_
    rw [Nat.pow_add,Nat.mul_comm]
    exact Nat.mul_lt_mul_of_pos_left hk (Nat.pow_pos (by decide))
theorem ngt_len (a : List Mon) : (ngt a).length = a.length:=by unfold ngt; rw [List.length_map]
end L2.Pl
namespace L2.Ev
open PySem
open L2.Pl
structure Has (P : Program) (w : World) (K : PySem.W.Frag) (mg : Str → Option Value) (base : Heap) (k : Nat) (x : Str) (ps : List Str) (sp : Sp) where
  f : Addr
  fd : FuncData
  ok : FnOk P w K mg base CX0 k f fd ps sp
  bd : Binds K fd ps []
  kp : PySem.W.keepIn K (.ref f) = true
  at_ : mg x = some (.ref f)
theorem pe_has {X : Cx} {k : Nat} {x : Str} {ps : List Str} {sp : Sp} {p pos : Pos} {e : Expr} {es : List Expr} {t : TA} (G : Has X.prog X.w X.K X.mg X.base k x ps sp) (hr : Room k X.A) (hg : Gl X x)
    (ha : PA X (e :: es) t) (hdb : (x == ("__debug__" : Str)) = false:=by decide) (he : starEach (e :: es) X.env = (false,eval e X.env) :: starEach es X.env:=by rfl) (hpl : (backTo pos (starEach es X.env)).any (·.1) = false:=by rfl) :
    PE X (.Call (.Name x p) (e :: es) [] pos) (tCall sp [] E0 t):=pe_call G.ok hr hg G.at_ G.kp G.bd .nil pass0 ha hdb he hpl
theorem eqbs_self {α : Type} [D : Dat α] (l : List α) : eqbs (Dat.eqb (α:=α)) l l = true:=(eqbs_iff Dat.eqb_iff _ _).mpr rfl
end L2.Ev
namespace L2.Ev
open PySem PyProof.Rows
open L2.Pl
section
variable {X : Cx}
end
end L2.Ev
namespace L2.Ev
open PySem
open L2.Pl
end L2.Ev
set_option maxHeartbeats 4000000
namespace L2.Ev
open PySem PySem.Spec PyProof.Rows
open PySem.W PySem.Calls
def DictAt (h : Heap) (e : Addr) (od : Option Addr) : Prop:=∃ ob,h.get? e = some ob ∧ ob.dict = od
theorem dict_map {o : Obj} {f : Array Value → Array Value} : (Obj.mapFields f o).dict = o.dict:=by
  obtain ⟨_,_,da,_⟩:=o
  cases da <;> rfl
def FlyD (base : Heap) (l : List Env) (e : Addr) (cls a0 : Value) (od : Option Addr) (h : Heap) : Prop:=Heap.FlyingW base l e cls a0 h ∧ DictAt h e od
section
variable {M : Model} {A : Around} {E : Value → Shared → Prop} {s : Shared}
theorem entryD {base : Heap} {env : Env} {outer : List Env} {L e : Addr} {oe : Obj} {vs : Array Value} {head a0 : Value} {hadNext : Bool} {Q : Unit → Shared → Prop}
    (hfr : A.frames = some (env :: outer)) (hl : s.heap.FunFrames base (env :: outer)) (hf : env.frame = some L)
    (he : s.heap.get? e = some oe) (hkb : base.StaysIn s.heap) (hen : base.get? e = none) (hd : oe.data = .fields vs) (hsz : 1 < vs.size) (h0 : vs[0]? = some a0)
    (h : ∀ h',Heap.NotedW base (env :: outer) e oe.cls a0 (rawInt L) s.heap h' → DictAt h' e oe.dict → Q () { s with heap:=h' }) :
    wpAny M A (do let a ← frameOf env; let pl ← entryPlaceOf L hadNext; let b ← EntryCells.newEntry head a .none (rawInt L) .none pl; setField (.ref e) 1 b) Q E s:=by
  have nfr : e ∉ (env :: outer).filterMap (·.frame):=fun hm=>by
    obtain ⟨_,o,ho,hnf⟩:=hl.mem hm
    rw [he] at ho; cases ho; exact hnf vs hd
  refine wpAny_bind (wpAny_frameOf_fun hfr hl hf fun h1 hs=>wpAny_bind (wpAny_entryPlaceOf fun pl hpl=>?_))
  have e1 : h1.get? e = some oe:=(hs.2.1 e nfr).trans he
  have k1 : base.StaysIn h1:=fun b o z=>(hs.2.1 b fun hm=>by rw [(hl.mem hm).1] at z; cases z).trans (hkb b o z)
  have Te : h1.objs.size ≠ e:=Nat.ne_of_gt (Heap.lt_size e1)
  unfold EntryCells.newEntry newFields
  refine wpAny_bind (wpAny_newObj_type ?_ (hpl.sizeOk5 _ _ _ _ _))
  generalize hrec : ([head,.ref L,.none,rawInt L,.none] ++ (if pl.isEmpty then List.replicate 6 Value.none else pl)).toArray = rec
  have r3 : rec[3]? = some (rawInt L):=by
    rw [← hrec]
    simp
  have e2:=Heap.get?_push_of_some (h:=h1) { cls:=.type "traceback",dict:=none,data:=.fields rec } e1
  have T2 : (h1.push { cls:=.type "traceback",dict:=none,data:=.fields rec }).get? h1.objs.size = some { cls:=.type "traceback",dict:=none,data:=.fields rec }:=Heap.get?_push_size h1 rfl
  generalize hp2 : h1.push { cls:=.type "traceback",dict:=none,data:=.fields rec } = h2 at e2 T2
  have old2 : ∀ b o,h1.get? b = some o → h2.get? b = some o:=fun b o z=>by rw [← hp2]; exact Heap.get?_push_of_some _ z
  have d3:=Obj.data_mapFields hd (·.setIfInBounds 1 (Value.ref h1.objs.size))
  have e3:=Heap.get?_update_self (Obj.mapFields (·.setIfInBounds 1 (Value.ref h1.objs.size))) e2 (Obj.isFreed_of_fields d3)
  have T3:=(Heap.get?_update_other h2 (Obj.mapFields (·.setIfInBounds 1 (Value.ref h1.objs.size))) (Ne.symm Te)).trans T2
  have keep : ∀ b o,b ≠ e → h1.get? b = some o → (h2.update e (Obj.mapFields (·.setIfInBounds 1 (Value.ref h1.objs.size)))).get? b = some o:=fun b o hb z=>(Heap.get?_update_other _ _ (Ne.symm hb)).trans (old2 b o z)
  have nrec : ∀ b o,s.heap.get? b = some o → (∀ vs,o.data ≠ .fields vs) → b ≠ e:=fun b o z hnf q=>by
    rw [q,he] at z; cases z; exact hnf vs hd
  refine wpAny_setField e2 hd hsz (h _ ⟨fun b o z=>keep b o (fun q=>by rw [q,hen] at z; cases z) (k1 b o z),hl.of_keeps fun b o z hnf=>?_,?_,fun b o z hnf=>?_⟩ ⟨_,e3,dict_map⟩)
  · obtain ⟨sl,q⟩:=hs.2.2 b o z
    exact ⟨_,keep b _ (nrec b o z hnf) q,rfl⟩
  · exact ⟨_,_,h1.objs.size,_,_,e3,⟨Obj.cls_mapFields _ _,by rw [Array.getElem?_setIfInBounds_ne (by decide)]; exact h0⟩,d3,by simp [hsz],k1.fresh,Te,T3,rfl,r3⟩
  · obtain ⟨sl,q⟩:=hs.2.2 b o z
    exact ⟨sl,keep b _ (nrec b o z hnf) q⟩
theorem landD {base : Heap} {l : List Env} {e : Addr} {cls a0 fl : Value} {od : Option Addr} {Q : Unit → Shared → Prop}
    (hkb : base.StaysIn s.heap) (hen : base.get? e = none) (hl : s.heap.FunFrames base l) (ht : s.heap.TracedAtW base e cls a0 fl) (hd0 : DictAt s.heap e od)
    (h : ∀ h',FlyD base l e cls a0 od h' → s.heap.UpToSlots h' → Q () { s with heap:=h' }) : wpAny M A (setFlight (.ref e) none) Q E s:=by
  obtain ⟨oe,vs,T,oT,ts,he,hcls,hd,h1,hnT,hTe,hT,hdT,h3⟩:=ht
  obtain ⟨ob,hob,hod⟩:=hd0
  rw [he] at hob
  cases hob
  have z3 : 3 < ts.size:=(Array.getElem?_eq_some_iff.mp h3).1
  have dT:=Obj.data_mapFields hdT (·.setIfInBounds 3 ((none : Option Addr).elim Value.none fun f=>rawInt f))
  have oth : ∀ b,b ≠ T → (s.heap.update T (Obj.mapFields (·.setIfInBounds 3 ((none : Option Addr).elim Value.none fun f=>rawInt f)))).get? b = s.heap.get? b:=fun b hb=>Heap.get?_update_other _ _ (Ne.symm hb)
  have nrec : ∀ b o,s.heap.get? b = some o → (∀ vs,o.data ≠ .fields vs) → b ≠ T:=fun b o hb hnf q=>by
    rw [q,hT] at hb; cases hb; exact hnf ts hdT
  have he':=(oth e (Ne.symm hTe)).trans he
  unfold setFlight
  refine wpAny_bind (wpAny_field he hd h1 ?_)
  rw [if_pos (show (Value.ref T != Value.none) = true from by simp)]
  refine wpAny_setField hT hdT z3 (h _ ⟨⟨fun b o z=>(oth b fun q=>by rw [q,hnT] at z; cases z).trans (hkb b o z),hen,hl.of_keeps fun b o hb hnf=>⟨o,(oth b (nrec b o hb hnf)).trans hb,rfl⟩,?_⟩,⟨oe,he',hod⟩⟩ fun b o hb hnf=>⟨o.slots,(oth b (nrec b o hb hnf)).trans hb⟩)
  exact ⟨oe,vs,T,_,_,he',hcls,hd,h1,hnT,hTe,Heap.get?_update_self _ hT (Obj.isFreed_of_fields dT),dT,by simp [z3]⟩
theorem noteD {base : Heap} {env : Env} {outer : List Env} {L e : Addr} {cls a0 : Value} {od : Option Addr} {Q : Unit → Shared → Prop}
    (hfr : A.frames = some (env :: outer)) (hf : env.frame = some L) (hfl : FlyD base (env :: outer) e cls a0 od s.heap)
    (h : ∀ h',Heap.HeldW base (env :: outer) e cls a0 L h' → DictAt h' e od → s.heap.UpToSlots h' → Q () { s with heap:=h' }) : wpAny M A (noteFrame (.ref e) env) Q E s:=by
  obtain ⟨⟨f1,f2,f3,oe,vs,T,oT,ts,he,⟨hcls,h0⟩,hd,h1,hnT,hTe,hT,hdT,h3⟩,od',hod,hdd⟩:=hfl
  rw [he] at hod
  cases hod
  subst hcls hdd
  unfold noteFrame
  simp only [hf]
  refine wpAny_bind (wpAny_field he hd h1 ?_)
  rw [if_pos (show (Value.ref T != Value.none) = true from by simp)]
  refine wpAny_bind (wpAny_field hT hdT h3 ?_)
  rw [if_neg (show ¬ ((Value.none == rawInt L) = true) from by simp [rawInt])]
  refine wpAny_bind (wpAny_setField hT hdT (Array.getElem?_eq_some_iff.mp h3).1 ?_)
  have oth : ∀ b,b ≠ T → (s.heap.update T (Obj.mapFields (·.setIfInBounds 3 Value.none))).get? b = s.heap.get? b:=fun b hb=>Heap.get?_update_other _ _ (Ne.symm hb)
  have nrec : ∀ b o,s.heap.get? b = some o → (∀ vs,o.data ≠ .fields vs) → b ≠ T:=fun b o hb hnf q=>by
    rw [q,hT] at hb; cases hb; exact hnf ts hdT
  refine entryD hfr (f3.of_keeps fun b o hb hnf=>⟨o,(oth b (nrec b o hb hnf)).trans hb,rfl⟩) hf ((oth e (Ne.symm hTe)).trans he)
    (fun b o z=>(oth b fun q=>by rw [q,hnT] at z; cases z).trans (f1 b o z)) f2 hd (Array.getElem?_eq_some_iff.mp h1).1 h0 fun h' ⟨x1,x2,x3,x4⟩ xd=>?_
  exact h h' ⟨x1,f2,x2,x3⟩ xd fun b o hb hnf=>x4 b o ((oth b (nrec b o hb hnf)).trans hb) hnf
theorem leaves_onD {base : Heap} {env : Env} {outer : List Env} {L e : Addr} {cls a0 : Value} {od : Option Addr} {Q : Unit → Shared → Prop}
    (hfr : A.frames = some (env :: outer)) (hf : env.frame = some L) (hfl : FlyD base (env :: outer) e cls a0 od s.heap)
    (hQ : ∀ h',FlyD base outer e cls a0 od h' → s.heap.UpToSlots h' → Q () { s with heap:=h' }) : wpAny M A (leaving env (.ref e)) Q E s:=by
  unfold leaving
  refine wpAny_bind (noteD hfr hf hfl fun h1 ⟨k1,k2,k3,k4⟩ kd sm=>landD (s:={ s with heap:=h1 }) k1 k2 k3 k4 kd fun h2 ⟨⟨x1,x2,⟨_,_,x3⟩,x4⟩,xd⟩ sm2=>?_)
  exact hQ h2 ⟨⟨x1,x2,x3,x4⟩,xd⟩ (sm.trans sm2)
theorem firstD {base : Heap} {env : Env} {outer : List Env} {L e : Addr} {oe : Obj} {vs : Array Value} {a0 : Value} {Q : Unit → Shared → Prop}
    (hfr : A.frames = some (env :: outer)) (hl : s.heap.FunFrames base (env :: outer)) (hf : env.frame = some L)
    (he : s.heap.get? e = some oe) (hkb : base.StaysIn s.heap) (hen : base.get? e = none) (hd : oe.data = .fields vs) (h1 : vs[1]? = some .none) (h0 : vs[0]? = some a0)
    (hQ : ∀ h',FlyD base outer e oe.cls a0 oe.dict h' → s.heap.UpToSlots h' → Q () { s with heap:=h' }) : wpAny M A (leaving env (.ref e)) Q E s:=by
  unfold leaving noteFrame
  simp only [hf]
  refine wpAny_bind (wpAny_bind (wpAny_field he hd h1 ?_))
  rw [if_neg (by decide)]
  refine entryD hfr hl hf he hkb hen hd (Array.getElem?_eq_some_iff.mp h1).1 h0 fun h1 ⟨k1,k3,k4,sm⟩ kd=>landD (s:={ s with heap:=h1 }) k1 hen k3 k4 kd fun h2 ⟨⟨x1,x2,⟨_,_,x3⟩,x4⟩,xd⟩ sm2=>?_
  exact hQ h2 ⟨⟨x1,x2,x3,x4⟩,xd⟩ (Heap.UpToSlots.trans sm sm2)
end
end L2.Ev
namespace L2.Ev
open PySem PySem.Spec PyProof.Rows
open L2.Pl
theorem ObjOk.got {P : Program} {w : World} {H : Hp} {h : Heap} {a : Addr} {o : HO} (x : ObjOk P w H h a o) : ∃ ob,h.get? a = some ob:=by
  cases o with
  | lst xs=>obtain ⟨_,_,_,_,e⟩:=x; exact ⟨_,e⟩
  | tup xs=>obtain ⟨_,_,_,ob,e,_⟩:=x; exact ⟨_,e⟩
  | dK kvs=>obtain ⟨_,_,_,_,o,_,_,e,_⟩:=x; exact ⟨_,e⟩
  | dT kvs=>obtain ⟨_,_,_,_,o,_,_,e,_⟩:=x; exact ⟨_,e⟩
  | set S n=>obtain ⟨o,_,_,_,e,_⟩:=x; exact ⟨_,e⟩
  | ins C dx fs=>obtain ⟨_,_,_,e,_⟩:=x; exact ⟨_,e⟩
  | own y=>exact x
  | xd fs=>obtain ⟨_,⟨_,_,_,e,_⟩,_⟩:=x; exact ⟨_,e⟩
  | rng lo hi=>obtain ⟨_,_,_,e⟩:=x; exact ⟨_,e⟩
  | frz ob u=>obtain ⟨e,_⟩:=x; exact ⟨_,e⟩
  | tbl ps=>exact ⟨_,(show h.get? a = some _ from x)⟩
  | met f y=>exact ⟨_,(show h.get? a = some _ from x)⟩
  | ext φ=>obtain ⟨_,e,_⟩:=x; exact e
structure Bs (l : List Env) (H : Hp) (h : Heap) (H' : Hp) (B : Heap) : Prop where
  old : ∀ b o,h.get? b = some o → b ∉ frs l → ∃ o',B.get? b = some o' ∧ (H b = none → o' = o)
  trk : ∀ b u,H' b = some u → ∃ o,B.get? b = some o
structure Fly (P : Program) (w : World) (l : List Env) (H : Hp) (s : Shared) (a : Addr) (cls a0 : Value) (od : Option Addr) (H' : Hp) (s' : Shared) : Prop where
  os : s'.os = s.os
  bare : AllBare s'.gens
  un : Un (frs l) [] H H' s.heap s'.heap
  hok : HOk P w H' s'.heap
  fly : ∃ B,Bs l H s.heap H' B ∧ FlyD B l a cls a0 od s'.heap
def CX1 (P : Program) (w : World) : CXT:=fun l H s E e s'=>∃ a cls a0 od H',e = .ref a ∧ Fly P w l H s a cls a0 od H' s' ∧ E cls od H'
section
variable {X : Cx} {pins : List (Addr × Obj)} {σ : St} {H H' : Hp} {s s' : Shared} {B : Heap}
theorem fly_inv (I : Inv X pins σ H s) (os : s'.os = s.os) (bare : AllBare s'.gens) (un : Un (frs X.stack) [] H H' s.heap s'.heap) (hok : HOk X.prog X.w H' s'.heap) (bs : Bs X.stack H s.heap H' B) (st0 : B.StaysIn s'.heap) {h' : Heap} (st : B.StaysIn h') (sm : s'.heap.UpToSlots h') :
    Inv X pins σ H' { s' with heap:=h' }:=by
  have fr : ∀ b o,s.heap.get? b = some o → b ∈ frs X.stack → ∀ vs,o.data ≠ .fields vs:=fun b o e hb=>by
    obtain ⟨_,o',e',d⟩:=I.stack.mem hb
    rw [e] at e'; cases e'
    exact d
  have slot : ∀ b o,s.heap.get? b = some o → b ∈ frs X.stack → ∃ sl,h'.get? b = some { o with slots:=sl }:=fun b o e hb=>by
    obtain ⟨sl,e1⟩:=un.slot b o e (I.stkFree b hb) hb (by simp)
    obtain ⟨sl2,e2⟩:=sm b _ e1 (fr b o e hb)
    exact ⟨sl2,e2⟩
  refine I.call' (s':={ s' with heap:=h' }) (ch:=[]) os ⟨fun b o e n hb _=>?_,fun b o e n hb _=>slot b o e hb,un.free,fun b o e _=>?_,un.tups,un.frzs,un.tbls⟩ (fun b u e=>?_) bare fun b hb=>by simp at hb
  · obtain ⟨o',e1,e2⟩:=bs.old b o e hb
    rw [e2 n] at e1
    exact st _ _ e1
  · by_cases hb : b ∈ frs X.stack
    · obtain ⟨sl,e1⟩:=slot b o e hb
      exact ⟨_,e1⟩
    · obtain ⟨o',e1,_⟩:=bs.old b o e hb
      exact ⟨o',st _ _ e1⟩
  · have key : ∀ c v u',H' c = some u' → s'.heap.get? c = some v → h'.get? c = some v:=fun c v u' hc q=>by
      obtain ⟨o,e1⟩:=bs.trk c u' hc
      have:=st0 _ _ e1
      rw [q] at this
      cases this
      exact st _ _ e1
    refine (hok b u e).stay (fun c v hc q=>?_) (fun _ q=>q) fun _ _ q=>q
    rcases hc with z | z
    · subst z; exact key c v u e q
    · exact key c v _ z q
end
section
variable {P : Program} {w : World} {K : PySem.W.Frag} {mg : Str → Option Value} {base : Heap} {N : List Str} {qual : Str} {scope : Scope} {f : Addr} {cdv : Value} {A : Around} {outer : List Env} {s0 : Shared} {H0 : Hp} {E : XK}
theorem fly_out {pins : List (Addr × Obj)} {σ : St} {H H' : Hp} {s s' : Shared} {B : Heap} {a : Addr} {cls a0 : Value} {od : Option Addr} (I : Inv (cxOf (CX1 P w) P w K mg base N qual scope f cdv A outer s0 H0 E) pins σ H s) (I' : Inv (cxOf (CX1 P w) P w K mg base N qual scope f cdv A outer s0 H0 E) pins σ H' s')
    (bs : Bs (cxOf (CX1 P w) P w K mg base N qual scope f cdv A outer s0 H0 E).stack H s.heap H' B) (fl : FlyD B outer a cls a0 od s'.heap) : Fly P w outer H0 s0 a cls a0 od H' s':=by
  refine ⟨I'.os,I'.bare,I'.base,I'.hok,B,⟨fun b o e hb=>?_,bs.trk⟩,fl⟩
  obtain ⟨o1,e1⟩:=I.base.there b o e (by show b ∉ ([] : List Addr); simp)
  have hL : b ∉ frs (cxOf (CX1 P w) P w K mg base N qual scope f cdv A outer s0 H0 E).stack:=fun z=>by
    rcases List.mem_cons.mp (I.stkSub b z) with z | z
    · have:=I.ok.above
      have:=Heap.lt_size e
      rw [z] at this
      exact absurd (Nat.lt_of_lt_of_le this I.ok.above) (Nat.lt_irrefl _)
    · exact hb z
  obtain ⟨o2,e2,e3⟩:=bs.old b o1 e1 hL
  refine ⟨o2,e2,fun n=>?_⟩
  have k:=I.base.keep b o e n hb (by show b ∉ ([] : List Addr); simp)
  rw [e1] at k
  cases k
  exact e3 (I.base.free b o e n (by show b ∉ ([] : List Addr); simp))
theorem pass1 : Passes (CX1 P w) (cxOf (CX1 P w) P w K mg base N qual scope f cdv A outer s0 H0 E) E:=by
  rintro pins σ H s e s' I ⟨a,cls,a0,od,H',rfl,F,hE⟩
  obtain ⟨os,bare,un,hok,B,bs,fl⟩:=F
  show wpAny _ _ (leaving _ (.ref a)) _ _ s'
  refine leaves_onD (outer:=outer) I.ok.frames rfl fl fun h' fl' sm=>?_
  have I':=fly_inv I os bare un hok bs fl.1.1 fl'.1.1 sm
  exact ⟨a,cls,a0,od,H',rfl,fly_out I I' bs fl',hE⟩
def Rs (X : Cx) (E : XK) : Prop:=∀ (pins : List (Addr × Obj)) (σ : St) (H : Hp) (s : Shared) (h2 : Heap) (e C : Addr) (vs : List Value),Inv X pins σ H s → Heap.MadeExcOf s.heap h2 e (.ref C) vs → E (.ref C) none H → X.xe (.ref e) { s with heap:=h2 }
theorem rs1 : Rs (cxOf (CX1 P w) P w K mg base N qual scope f cdv A outer s0 H0 E) E:=by
  intro pins σ H s h2 e C vs I hx hE
  show wpAny _ _ (leaving _ (.ref e)) _ _ _
  have hin : ∀ env ∈ (cxOf (CX1 P w) P w K mg base N qual scope f cdv A outer s0 H0 E).stack,∀ b,env.frame = some b → b ∈ frs (cxOf (CX1 P w) P w K mg base N qual scope f cdv A outer s0 H0 E).stack:=fun env he b hb=>List.mem_filterMap.mpr ⟨env,he,hb⟩
  have bs : Bs (cxOf (CX1 P w) P w K mg base N qual scope f cdv A outer s0 H0 E).stack H s.heap H (PySem.W.hideAll s.heap (frs (cxOf (CX1 P w) P w K mg base N qual scope f cdv A outer s0 H0 E).stack)):=by
    refine ⟨fun b o e hb=>⟨o,PySem.W.hideAll_get _ e hb,fun _=>rfl⟩,fun b u e=>?_⟩
    obtain ⟨o,q⟩:=ObjOk.got (I.hok b u e)
    exact ⟨o,PySem.W.hideAll_get _ q fun z=>by rw [I.stkFree b z] at e; cases e⟩
  have st0 : (PySem.W.hideAll s.heap (frs (cxOf (CX1 P w) P w K mg base N qual scope f cdv A outer s0 H0 E).stack)).StaysIn h2:=fun b o q=>hx.keeps b o (PySem.W.of_hideAll _ q)
  obtain ⟨t,he,htn,ht⟩:=hx.there
  have hen : (PySem.W.hideAll s.heap (frs (cxOf (CX1 P w) P w K mg base N qual scope f cdv A outer s0 H0 E).stack)).get? e = none:=by
    cases hq : (PySem.W.hideAll s.heap (frs (cxOf (CX1 P w) P w K mg base N qual scope f cdv A outer s0 H0 E).stack)).get? e with
    | none=>rfl
    | some o'=>have:=PySem.W.of_hideAll _ hq; rw [hx.new] at this; cases this
  refine firstD (s:={ s with heap:=h2 }) (outer:=outer) (a0:=.ref t) I.ok.frames ((PySem.W.funFrames_hide I.stack hin).of_keeps fun b o hb _=>⟨o,hx.keeps b o hb,rfl⟩) rfl he st0 hen rfl rfl rfl fun h' fl sm=>?_
  have I':=fly_inv (s':={ s with heap:=h2 }) I rfl I.bare (Un.kept hx.keeps) (I.hok.kept hx.keeps) bs st0 fl.1.1 sm
  exact ⟨e,.ref C,.ref t,none,H,rfl,fly_out I I' bs fl,hE⟩
theorem Fun.okx {x qual : Str} {st : Stmt} {f : Addr} {fd : FuncData} {N ps : List Str} {k : Nat} {sp : Sp} (F : Fun K x qual st f fd) (S : FnScope N ps (defScope st)) (len : ∀ vs H Q E,sp vs H Q E → vs.length = ps.length)
    (hbody : ∀ (cdv : Value) (A : Around) (outer : List Env) (s : Shared) (H : Hp) (vs : List V) (Q : VK) (E : XK),Room k (A.deeper (envOfC qual (defScope st) s.heap.objs.size f cdv)) → sp vs H Q E →
      ∃ t,PSs (cxOf (CX1 P w) P w K mg base N qual (defScope st) f cdv A outer s H E) (defBody st) t ∧ t { nx:=fun _ H'=>Q .non H',rt:=Q } (start N vs) H) : FnOk P w K mg base (CX1 P w) (k + 1) f fd ps sp:=by
  obtain ⟨oc,od,kV,doc,pm,an,cdv,ct,osl,rfl,lk,hcd⟩:=F.ex
  exact fn_of lk hcd S len fun A outer s H vs Q E hr hsp=>hbody cdv A outer s H vs Q E hr hsp
end
theorem exc_of_in {K : PySem.W.Frag} {h : Heap} {C : Addr} {bmB : List Value} {newId : String} (X : K.In h) (q : PySem.W.excIn K C bmB newId = true) :
    ∃ bm N nm qn bs hdct sn sub ab col dd k0 k1 k2 k3 k5 mN,h.get? C = some (excClassObj nm qn C N bs bm hdct sn sub ab col dd k0 k1 k2 k3 k5 newId) ∧ h.Ns N mN ∧ mN "__init__" = none ∧ OwnTail h bmB bm:=by
  unfold PySem.W.excIn at q
  split at q
  · rename_i dd cd sl ho
    split at q
    · rename_i C' bm k0 k1 k2 k3 n k5 hm hs
      simp only [Bool.and_eq_true,beq_iff_eq,Bool.not_eq_true'] at q
      obtain ⟨⟨⟨⟨⟨rfl,rfl⟩,hdel⟩,ht⟩,hok⟩,hni⟩:=q
      obtain ⟨nm,bs,mro,ns,qn,hd,sn,sub,ab,col,del⟩:=cd
      dsimp only at hm hdel hok hni
      subst hm hdel
      have hsl : sl = #[k0,k1,k2,k3,some (.builtin n),k5]:=by
        obtain ⟨l⟩:=sl
        simp only at hs
        rw [hs]
      subst hsl
      exact ⟨bm,ns,nm,qn,bs,hd,sn,sub,ab,col,dd,k0,k1,k2,k3,k5,_,X _ _ ho,.of_isNs (PySem.W.isNs_of_in X hok),PySem.W.nsMap_none_of_in X hok hni,PySem.W.tail_of_in X ht⟩
    · cases q
  · cases q
def tRaise (C : Addr) (E : XK) (ta : TA) : TS:=fun _ σ H=>ta σ H fun vs H1=>vs.length ≤ sizeLine ∧ E (.ref C) none H1
theorem ps_raise {X : Cx} {E : XK} {x : Str} {C : Addr} {bmB : List Value} {B newId initId : String} {np cpos pos : Pos} {e : Expr} {es : List Expr} {ta : TA} (hc : X.calm = true) (R : Rs X E) (FB : ExcBaseFacts B newId initId bmB) (hg : Gl X x) (hm : X.mg x = some (.ref C)) (q : PySem.W.excIn X.K C bmB newId = true)
    (ha : PA X (e :: es) ta) (hdb : (x == ("__debug__" : Str)) = false:=by decide) (he : starEach (e :: es) X.env = (false,eval e X.env) :: starEach es X.env:=by rfl) (hpl : (backTo cpos (starEach es X.env)).any (·.1) = false:=by rfl) :
    PS X (.Raise (some (.Call (.Name x np) (e :: es) [] cpos)) none pos) (tRaise C E ta):=by
  intro pins s σ H D I h
  obtain ⟨bm,N,nm,qn,bs,hdct,sn,sub,ab,col,dd,k0,k1,k2,k3,k5,mN,hC,hN,hni,T⟩:=exc_of_in I.mod.kin q
  refine wpAny_Raise_call_subT (C:=C) (nm:=nm) (q:=qn) (N:=N) (bs:=bs) (bm:=bm) (hdct:=hdct) (sn:=sn) (sub:=sub) (ab:=ab) (col:=col) (dd:=dd) (k0:=k0) (k1:=k1) (k2:=k2) (k3:=k3) (k5:=k5)
    FB (mN:=mN) (T.hasType FB.hasBase) (I.ok.hd hc) (by rw [he]; show (false || (backTo cpos (starEach es X.env)).any (·.1)) = false; rw [hpl]; rfl) hni (ld_glob I hg hm ⟨rfl,?_⟩ hdb)
  have h0:=ha cpos pins s σ H _ I h
  rw [he] at h0 ⊢
  refine Calls.evalArgs_plain (wpAny_mono h0 (fun us s2 ⟨vs,H1,I1,r,hl,hE⟩=>?_) fun _ _ y=>y)
  refine ⟨rfl,by rw [← r.length]; exact hl,I1.bk _ _ hC,hN.keeps I1.bk,T.keeps I1.bk,fun h' e' hx=>R pins σ H1 s2 h' e' C us I1 hx hE⟩
end L2.Ev
namespace L2.Ev
open PySem PySem.Spec PyProof.Rows
open L2.Pl
theorem exc_matches {K : PySem.W.Frag} {M : Model} {A : Around} {E : Value → Shared → Prop} {s : Shared} {e C C0 : Addr} {oe : Obj} {Q : Bool → Shared → Prop} (X : K.In s.heap) (he : s.heap.get? e = some oe) (hc : oe.cls = .ref C)
    (k1 : PySem.W.kitCls K (.ref C) (.ref C0) = some true) (k2 : PySem.W.kitCls K (.ref C0) (.type "BaseException") = some true) (h : Q true s) : wpAny M A (excMatches (.ref e) (.ref C0)) Q E s:=by
  obtain ⟨t1,i1,s1⟩:=PySem.W.kit_cls (M:=M) X k1
  obtain ⟨_,_,s2⟩:=PySem.W.kit_cls (M:=M) X k2
  have keep : ∀ b o,s.heap.get? b = some o → s.heap.get? b = some o:=fun _ _ q=>q
  unfold excMatches isInstance
  refine wpAny_bind (wpAny_bind (t1 A _ _ s keep (wpAny_of_eq tc_notTuple ?_)))
  simp only [Bool.false_eq_true,if_false]
  refine wpAny_bind (wpAny_pure ?_)
  simp only [List.forIn_cons,List.forIn_nil]
  unfold isExcClass
  refine wpAny_bind (wpAny_bind (wpAny_bind (wpAny_bind (i1 A _ _ s keep ?_))))
  simp only [if_true]
  refine s2 A _ _ s keep ?_
  simp only [Bool.not_true,Bool.false_eq_true,if_false]
  refine wpAny_pure (wpAny_pure ?_)
  have ty : PySem.W.Looks M s.heap (typeOf (.ref e)) (.ref C):=hc ▸ (PySem.W.Looks.ld he).andThen .now
  refine wpAny_bind (ty A _ _ s keep ?_)
  refine wpAny_bind (wpAny_bind (wpAny_bind (s1 A _ _ s keep ?_)))
  simp only [if_true]
  refine wpAny_pure (wpAny_pure ?_)
  exact wpAny_pure h
def xE (a : Addr) (cls : Value) (od : Option Addr) : HO:=.ext fun h=>∃ ob vs,h.get? a = some ob ∧ ob.cls = cls ∧ ob.data = .fields vs ∧ ob.dict = od
section
variable {X : Cx} {pins : List (Addr × Obj)} {σ : St} {H H' : Hp} {s s' : Shared} {B : Heap} {a : Addr} {cls a0 : Value} {od : Option Addr}
theorem track (I : Inv X pins σ H s) (I' : Inv X pins σ H' s') (bs : Bs X.stack H s.heap H' B) (fl : FlyD B X.stack a cls a0 od s'.heap) : Inv X pins σ (upd H' a (xE a cls od)) s' ∧ H' a = none:=by
  obtain ⟨⟨st,hB,ff,oe,vs,T,oT,ts,he,⟨hc,_⟩,hd,_⟩,ox,hox,hod⟩:=fl
  rw [he] at hox
  cases hox
  have hn : H' a = none:=by
    cases q : H' a with
    | none=>rfl
    | some u=>obtain ⟨o,e⟩:=bs.trk a u q; rw [hB] at e; cases e
  have notfr : a ∉ frs X.stack:=fun z=>by
    obtain ⟨_,o,e,d⟩:=ff.mem z
    rw [he] at e; cases e
    exact d vs hd
  have notold : ∀ o,s.heap.get? a = some o → False:=fun o e=>by
    obtain ⟨o',e',_⟩:=bs.old a o e notfr
    rw [hB] at e'; cases e'
  have s0n : ∀ o,X.s₀.heap.get? a = some o → a ∉ X.ex → False:=fun o e hx=>by
    obtain ⟨o',e'⟩:=I.base.there a o e hx
    exact notold o' e'
  have nL : X.env.locals ≠ a:=fun z=>by
    obtain ⟨m,⟨o,es,ep,ho,hd',_⟩,_⟩:=I'.loc
    rw [z,he] at ho; cases ho
    rw [hd] at hd'; cases hd'
  have nC : ∀ x c,X.env.cells.lookup x = some c → c ≠ a:=fun x c e z=>by
    obtain ⟨v,o,ho,hd'⟩:=I'.cell x c e
    rw [z,he] at ho; cases ho
    rw [hd] at hd'; cases hd'
  have nP : ∀ p ∈ X.pn ++ pins,p.1 ≠ a:=fun p hp z=>by
    obtain ⟨e,_⟩:=I.pin p hp
    rw [z] at e
    exact notold _ e
  have neq : ∀ b u,H' b = some u → b ≠ a:=fun b u e z=>by rw [z,hn] at e; cases e
  refine ⟨⟨I'.ok,I'.os,I'.bare,⟨I'.base.keep,I'.base.slot,fun b o e n hx=>?_,I'.base.there,fun b xs e=>?_,fun b o u e=>?_,fun b ps e=>?_⟩,I'.loc,I'.cell,?_,fun x c e=>?_,fun p hp=>?_,fun b u e=>?_,I'.len⟩,hn⟩
  · have q:=I'.base.free b o e n hx
    by_cases z : b = a
    · subst z; exact (s0n o e hx).elim
    · rw [upd_ne z]; exact q
  · have q:=I'.base.tups b xs e
    rw [upd_ne (neq _ _ q)]; exact q
  · have q:=I'.base.frzs b o u e
    rw [upd_ne (neq _ _ q)]; exact q
  · obtain ⟨more,q⟩:=I'.base.tbls b ps e
    exact ⟨more,by rw [upd_ne (neq _ _ q)]; exact q⟩
  · rw [upd_ne nL]; exact I'.free
  · rw [upd_ne (nC x c e)]; exact I'.freeC x c e
  · obtain ⟨q1,q2,q3⟩:=I'.pin p hp
    exact ⟨q1,by rw [upd_ne (nP p hp)]; exact q2,q3⟩
  · by_cases z : b = a
    · subst z
      rw [upd_same] at e
      cases e
      exact ⟨⟨oe,vs,he,hc,hd,hod⟩,⟨oe,he⟩,fun h1 h2 ⟨ob,ws,k1,k2,k3⟩ k=>⟨ob,ws,k _ k1,k2,k3⟩⟩
    · rw [upd_ne z] at e
      exact (I'.hok b u e).stay (fun _ _ _ q=>q) (fun c q=>by rw [upd_ne (neq _ _ q)]; exact q) fun c xs q=>by rw [upd_ne (neq _ _ q)]; exact q
theorem del_ok {M : Model} {A : Around} {E : Value → Shared → Prop} {i : Nat} {x : Str} {pos : Pos} {Q : Unit → Shared → Prop} (I : Inv X pins σ H s) (hN : X.N.Nodup) (hi : X.N[i]? = some x) (hx : X.env.scope.names.lookup x = some .local)
    (h : ∀ s',Inv X pins (σ.set i none) H s' → Q () s') : wpAny M A (do bindName X.env x .none; unbindBehindTheSuite X.env x pos) Q E s:=by
  obtain ⟨m,hn,hl⟩:=id I.loc
  have hcls : (X.env.scope.kind == .class || (X.env.scope.kind == .module && X.env.locals != X.env.globals)) = false:=by rw [I.ok.kind]; rfl
  have hiσ : i < σ.length:=by rw [I.len]; exact (List.getElem?_eq_some_iff.mp hi).1
  have cne:=I.cne
  refine wpAny_nameGoes_keeps hx hn hcls fun h' v hn' hs=>?_
  obtain ⟨oL,_,_,hoL,_⟩:=id hn
  refine h _ ⟨I.ok,I.os,I.bare,⟨fun b o e n hb hx=>?_,fun b o e n hb hx=>?_,I.base.free,fun b o e hx=>?_,I.base.tups,I.base.frzs,I.base.tbls⟩,⟨_,hn',fun j y v' e1 e2 e3=>?_⟩,fun y c e=>?_,I.free,I.freeC,fun p hp=>?_,fun b ob e=>?_,by simpa using I.len⟩
  · exact (hs.2 b (Nat.ne_of_lt (Nat.lt_of_lt_of_le (Heap.lt_size e) I.ok.above))).trans (I.base.keep b o e n hb hx)
  · obtain ⟨sl,e1⟩:=I.base.slot b o e n hb hx
    exact ⟨sl,(hs.2 b (Nat.ne_of_lt (Nat.lt_of_lt_of_le (Heap.lt_size e) I.ok.above))).trans e1⟩
  · obtain ⟨o',e1⟩:=I.base.there b o e hx
    exact ⟨o',(hs.2 b (Nat.ne_of_lt (Nat.lt_of_lt_of_le (Heap.lt_size e) I.ok.above))).trans e1⟩
  · by_cases hj : j = i
    · subst hj
      rw [List.getElem?_set_self hiσ] at e2
      cases e2
    · rw [List.getElem?_set_ne (Ne.symm hj)] at e2
      obtain ⟨u',r',q⟩:=hl j y v' e1 e2 e3
      refine ⟨u',r',?_⟩
      rcases q with ⟨k,e⟩ | ⟨k,c,e,z⟩
      · refine .inl ⟨k,?_⟩
        have : y ≠ x:=fun e=>hj (nodup_ix hN e1 (e ▸ hi))
        simp [this,e]
      · exact .inr ⟨k,c,e,z.sameBut hs (cne y c e)⟩
  · obtain ⟨w',z⟩:=I.cell y c e
    exact ⟨w',z.sameBut hs (cne y c e)⟩
  · obtain ⟨e,n,ne,nf,d⟩:=I.pin p hp
    exact ⟨(hs.2 p.1 ne).trans e,n,ne,nf,d⟩
  · refine (I.hok b ob e).stay (fun c w' hc q=>(hs.2 c ?_).trans q) (fun _ q=>q) fun _ _ q=>q
    intro z
    rcases hc with hc | hc
    · rw [← hc,z,I.free] at e; cases e
    · rw [z,I.free] at hc; cases hc
end
abbrev Cx.mk1 (X : Cx) (e : Value) : Cx:={ X with A:=X.A.mark (some e),calm:=false,xe:=fun _ _=>False }
abbrev Cx.pin1 (X : Cx) (pn : List (Addr × Obj)) (T : Value → Shared → Prop) : Cx:={ X with pn:=pn,xe:=T }
section
variable {X : Cx} {pins : List (Addr × Obj)} {σ : St} {H : Hp} {s : Shared}
theorem ok_mk1 (ok : X.Ok) (e : Value) : (Cx.mk1 X e).Ok:=⟨ok.mod,ok.kind,ok.glob,ok.blt,ok.above,ok.inj,ok.has,ok.cab,fun z=>(by cases z),ok.frames,ok.stk,ok.exf,ok.bs,ok.bsz,ok.noex,ok.exfs,ok.funs,ok.frf⟩
theorem inv_mk1 (I : Inv X pins σ H s) (e : Value) : Inv (Cx.mk1 X e) pins σ H s:=⟨ok_mk1 I.ok e,I.os,I.bare,I.base,I.loc,I.cell,I.free,I.freeC,I.pin,I.hok,I.len⟩
theorem inv_un1 (ok : X.Ok) {e : Value} (I : Inv (Cx.mk1 X e) pins σ H s) : Inv X pins σ H s:=⟨ok,I.os,I.bare,I.base,I.loc,I.cell,I.free,I.freeC,I.pin,I.hok,I.len⟩
theorem ok_pin1 (ok : X.Ok) (pn : List (Addr × Obj)) (T : Value → Shared → Prop) : (Cx.pin1 X pn T).Ok:=⟨ok.mod,ok.kind,ok.glob,ok.blt,ok.above,ok.inj,ok.has,ok.cab,ok.hd,ok.frames,ok.stk,ok.exf,ok.bs,ok.bsz,ok.noex,ok.exfs,ok.funs,ok.frf⟩
theorem inv_pin1 (I : Inv X pins σ H s) (T : Value → Shared → Prop) : Inv (Cx.pin1 X (X.pn ++ pins) T) [] σ H s:=⟨ok_pin1 I.ok _ T,I.os,I.bare,I.base,I.loc,I.cell,I.free,I.freeC,fun p hp=>I.pin p (by rw [List.append_nil] at hp; exact hp),I.hok,I.len⟩
theorem inv_unpin1 (ok : X.Ok) {T : Value → Shared → Prop} {pins' : List (Addr × Obj)} (I : Inv (Cx.pin1 X (X.pn ++ pins) T) pins' σ H s) : Inv X pins σ H s:=⟨ok,I.os,I.bare,I.base,I.loc,I.cell,I.free,I.freeC,fun p hp=>I.pin p (List.mem_append_left _ hp),I.hok,I.len⟩
end
def PassS (X : Cx) (σ0 : St) (E : XK) : Prop:=∀ (pins : List (Addr × Obj)) (H : Hp) (s : Shared) (e : Value) (s' : Shared),Inv X pins σ0 H s → CX1 X.prog X.w X.stack H s E e s' → X.xe e s'
def tCallS (σ0 : St) (sp : Sp) (E : XK) (t : TA) : TE:=fun σ H Q=>σ = σ0 ∧ t σ H fun vs H1=>sp vs H1 Q E
theorem pe_callS {X : Cx} {k : Nat} {f : Addr} {fd : FuncData} {ps : List Str} {sp : Sp} {E : XK} {σ0 : St} {x : Str} {p pos : Pos} {e : Expr} {es : List Expr} {t : TA} (F : FnOk X.prog X.w X.K X.mg X.base (CX1 X.prog X.w) k f fd ps sp) (hr : Room k X.A) (hg : Gl X x) (hm : X.mg x = some (.ref f)) (hk : PySem.W.keepIn X.K (.ref f) = true) (hb : Binds X.K fd ps []) (hx : PassS X σ0 E)
    (ha : PA X (e :: es) t) (hdb : (x == ("__debug__" : Str)) = false:=by decide) (he : starEach (e :: es) X.env = (false,eval e X.env) :: starEach es X.env:=by rfl) (hpl : (backTo pos (starEach es X.env)).any (·.1) = false:=by rfl) :
    PE X (.Call (.Name x p) (e :: es) [] pos) (tCallS σ0 sp E t):=by
  intro pins s σ H Q I h
  obtain ⟨rfl,h⟩:=h
  refine wpAny_Call_Name_kw (ld_glob I hg hm ?_ hdb)
  refine PySem.W.callWith_K (h₀:=X.base) I.ok.mod.kin hk (thn (ha pos pins s σ H _ I h) fun us s1 ⟨vs,H1,I1,r,q⟩=>⟨I1.kIn,?_⟩) he hpl
  have hl : us.length = ps.length:=by rw [← r.length]; exact F.len _ _ _ _ q
  have hbd:=hb s1 us I1.kIn (by rw [List.append_nil]; exact hl)
  rw [List.append_nil] at hbd
  refine wpAny_call (codeAny_mono (F.run X.A X.stack s1 H1 ⟨us,[]⟩ us vs Q E hr I1.env0 hbd r q) fun r' s' hq=>?_)
  cases r' with
  | error e'=>exact hx pins H1 s1 e' s' I1 hq
  | ok fl =>
    cases fl with
    | ret u=>exact I1.after hq
    | next=>exact False.elim hq
    | brk=>exact False.elim hq
    | cont=>exact False.elim hq
def EH (K : PySem.W.Frag) (C0 : Addr) (i j : Nat) (D : Ends) (σ : St) : XK:=fun cls od H'=>∃ C : Addr,cls = .ref C ∧ PySem.W.kitCls K (.ref C) (.ref C0) = some true ∧
  ∀ a,H' a = none → D.nx (((σ.set i (some (.ref a))).set j (some (.ref a))).set i none) (upd H' a (xE a cls od))
theorem ps_try {X : Cx} {x n y : Str} {C0 : Addr} {body : List Stmt} {np py pn ap hp pos : Pos} {i j : Nat} {tb : St → XK → TS} (hst : X.stack = X.env :: X.outer) (hfr : X.env.frame = some X.env.locals)
    (hN : X.N.Nodup) (hi : X.N[i]? = some n) (li : X.env.scope.names.lookup n = some .local) (hj : X.N[j]? = some y) (lj : X.env.scope.names.lookup y = some .local) (hg : Gl X x) (hm : X.mg x = some (.ref C0)) (kC : PySem.W.kitCls X.K (.ref C0) (.type "BaseException") = some true)
    (hb : ∀ (pn' : List (Addr × Obj)) (T : Value → Shared → Prop) (σ0 : St) (E : XK),PassS (Cx.pin1 X pn' T) σ0 E → PSs (Cx.pin1 X pn' T) body (tb σ0 E)) (hd1 : (n == ("__debug__" : Str)) = false:=by decide) (hd2 : (n == ("__classdict__" : Str)) = false:=by decide) (hd3 : (x == ("__debug__" : Str)) = false:=by decide) :
    PS X (.Try body [.ExceptHandler (some (.Name x np)) (some n) [.Assign [.Name y py] (.Name n pn) ap] hp] [] [] pos) (fun D σ H=>tb σ (EH X.K C0 i j D σ) D σ H):=by
  intro pins s σ H D I h
  rw [arm_exec_Try]
  refine wpAny_bind (wpAny_standAt (wpAny_tryStmt_except ?_))
  have hP : PassS (Cx.pin1 X (X.pn ++ pins) fun e s₁=>wpAny (model X.prog X.w) X.A (noteFrame e X.env) (fun _ s₂=>wpAny (model X.prog X.w) X.A (setFlight e none) (fun _ s₃ =>
      wpAny (model X.prog X.w) X.A (handleBy e X.env [.ExceptHandler (some (.Name x np)) (some n) [.Assign [.Name y py] (.Name n pn) ap] hp]) (SP X pins D) X.xe s₃) X.xe s₂) X.xe s₁) σ (EH X.K C0 i j D σ):=by
    rintro pins' H1 s1 e s' J ⟨a,cls,a0,od,H',rfl,F,C,rfl,kC',hE⟩
    have I1 : Inv X pins σ H1 s1:=inv_unpin1 I.ok J
    obtain ⟨os,bare,un,hok,B,bs,fl⟩:=F
    have bs : Bs X.stack H1 s1.heap H' B:=bs
    have fl : FlyD B X.stack a (.ref C) a0 od s'.heap:=fl
    have fl':=fl
    rw [hst] at fl'
    show wpAny _ X.A (noteFrame (.ref a) X.env) _ _ s'
    refine noteD (outer:=X.outer) (by rw [I1.ok.frames,hst]) hfr fl' fun h4 ⟨m1,m2,m3,m4⟩ md sm4=>?_
    refine landD (s:={ s' with heap:=h4 }) m1 m2 m3 m4 md fun h5 fly5 sm5=>?_
    have sm45:=sm4.trans sm5
    have I5:=fly_inv I1 os bare un hok bs fl.1.1 fly5.1.1 sm45
    obtain ⟨ob,hob,hobc⟩:=fly5.1.there
    refine wpAny_handleBy_cons (codeAny_handlers_test (ld_glob (X:=Cx.mk1 X (.ref a)) (inv_mk1 I5 (.ref a)) hg hm (exc_matches I5.kIn hob hobc kC' kC ?_) hd3)) (by intro q; cases q)
    refine codeAny_handlers_suite_as ?_
    obtain ⟨⟨n1,n2,n3,n4⟩,nd⟩:=fly5
    refine landD (s:={ s' with heap:=h5 }) n1 n2 n3 n4.at nd fun h6 fly6 sm6=>?_
    have I6:=fly_inv I1 os bare un hok bs fl.1.1 fly6.1.1 (sm45.trans sm6)
    obtain ⟨I6',hn⟩:=track I1 I6 bs (by rw [hst]; exact fly6)
    refine store_ok (X:=X) I6' hN hi (Or.inl li) (v:=.ref a) rfl (fun s7 I7=>?_) (.inr li)
    have hlt : i < σ.length:=by rw [I1.len]; exact (List.getElem?_eq_some_iff.mp hi).1
    have ps:=pss_one (ps_set (X:=Cx.mk1 X (.ref a)) (pos:=ap) (pos':=py) hN hj (Or.inl lj) (pe_var (pos:=pn) hi (Or.inl li) hd1 hd2) rfl (.inr lj))
    refine wpAny_mono (ps pins s7 (σ.set i (some (.ref a))) (upd H' a (xE a (.ref C) od)) { nx:=fun σ8 H8=>σ8 = (σ.set i (some (.ref a))).set j (some (.ref a)) ∧ H8 = upd H' a (xE a (.ref C) od),rt:=fun _ _=>False } (inv_mk1 I7 (.ref a)) ⟨.ref a,List.getElem?_set_self hlt,rfl,rfl⟩) (fun fw s8 q=>?_) (fun _ _ z=>False.elim z)
    cases fw with
    | next =>
      obtain ⟨σ8,H8,J8,rfl,rfl⟩:=q
      exact del_ok (inv_un1 I.ok J8) hN hi li fun s9 I9=>⟨_,_,I9,hE a hn⟩
    | brk=>obtain ⟨_,_,_,z⟩:=q; exact z.elim
    | cont=>obtain ⟨_,_,_,z⟩:=q; exact z.elim
    | ret u=>obtain ⟨_,_,_,_,_,z⟩:=q; exact z.elim
  refine wpAny_mono (hb _ _ σ _ hP [] s σ H D (inv_pin1 I _) h) (fun fw s₁ q=>?_) fun e s₁ q=>q
  cases fw with
  | next=>obtain ⟨σ',H',J,q⟩:=q; exact wpAny_execs_nil ⟨σ',H',inv_unpin1 I.ok J,q⟩
  | brk=>obtain ⟨σ',H',J,q⟩:=q; exact ⟨σ',H',inv_unpin1 I.ok J,q⟩
  | cont=>obtain ⟨σ',H',J,q⟩:=q; exact ⟨σ',H',inv_unpin1 I.ok J,q⟩
  | ret u=>obtain ⟨v,σ',H',J,r,q⟩:=q; exact ⟨v,σ',H',inv_unpin1 I.ok J,r,q⟩
end L2.Ev
namespace L2.Ev
open PySem PySem.Spec PyProof.Rows
open PySem.W
open PySem PySem.Calls PyProof.Rows Builtin Builtin.ObjectAttr Builtin.Getset_descriptor
section
variable {prog : Program} {w : World} {A : Around} {E : Value → Shared → Prop} {K : Frag} {h : Heap} {g : Array GenState} {d : Drawn} {t : Nat} {os : OsState} {a C : Addr} {o : Obj}
theorem class_getE {tp : Value} {R : Result → Shared → Prop} (X : K.In h) (L0 : Looks (model prog w) h (typeOf (.ref a)) (.ref C)) (hm : mroIn K C (.type "object") = some true)
    (hq : R (.ok (.ret (.ref C))) ⟨h,g,d,t,os⟩) : codeAny (model prog w) A (.call (.builtin "getset_descriptor.__get__") ⟨[.builtin "object.__class__",.ref a,tp],[]⟩) R ⟨h,g,d,t,os⟩:=by
  have L1:=looks_mroIn (M:=model prog w) X hm
  refine codeAny_call_builtin KF.slot_gs.plain KF.entry_gs (KF.slot_gs.check _ _ _ _ _ _ _ _ KF.type_class (KF.args_gs _ _ _) ?_)
  unfold Builtin.«getset_descriptor.__get__» descrGet
  rw [dga_obj]
  refine wpAny_bind (wpAny_pure ?_)
  unfold descrGetter descrCheckInstance descrNameAndClass isInstance
  simp only [KF.owner_class]
  repeat lk
  refine ⟨Code.quiet_builtin _ (by decide +kernel),codeAny_builtin KF.entry_class ?_⟩
  unfold Builtin.«object.__class__» shownTypeOf
  repeat lk
  exact hq
theorem class_entryE {tk : Tok} {Q : Fin → Shared → Prop} (X : K.In h) (L0 : Looks (model prog w) h (typeOf (.ref a)) (.ref C)) (hm : mroIn K C (.type "object") = some true) (hcl : findIn K (.ref C) "__class__" = some (some (.builtin "object.__class__")))
    (hx : h.get? a = some o) (hc : o.cls = .ref C) (hq : Q (.done (.ret (.ref C))) ⟨h,g,d,t,os⟩) :
    wpAny (model prog w) A (Builtin.«object.__getattribute__» ⟨[.ref a,.str "__class__" tk],[]⟩) Q E ⟨h,g,d,t,os⟩:=by
  have L2:=looks_findIn (M:=model prog w) X hcl
  have f5:=KF.type_class
  have f6:=F.slot_gs_get.lookup
  have f7:=F.slot_gs_set.lookup
  repeat (any_goals (first | assumption | (with_reducible refine wpAny_loadPart_at hx ?_; rw [hc]) | with_reducible refine L2.at ?_ | wp_step))
  refine class_getE X L0 hm ?_
  repeat (any_goals (first | assumption | wp_step))
theorem check_gaE {M : Model} {nameV : Value} {Q : Unit → Shared → Prop} (L0 : Looks M h (typeOf (.ref a)) (.ref C)) (LB : Looks M h (isSubtype (.ref C) (.type "BaseException")) true)
    (hq : Q () ⟨h,g,d,t,os⟩) : wpAny M A (checkBuiltinCall "BaseException.__getattribute__" ⟨[.ref a,nameV],[]⟩) Q E ⟨h,g,d,t,os⟩:=by
  have hk : builtinKind "BaseException.__getattribute__" = some .slot:=by decide +kernel
  have hsplit : splitId "BaseException.__getattribute__" = some ("BaseException", "__getattribute__"):=by decide +kernel
  have ha:=F.args_bexc_ga (.ref a) nameV
  have LI : Looks M h (isInstance (.ref a) (.type "BaseException")) true:=L0.andThen LB
  simp only [checkBuiltinCall,hk,hsplit]
  refine wpAny_bind (LI.at ?_)
  repeat (first | assumption | wp_step)
theorem class_callE {tk : Tok} {R : Result → Shared → Prop} (X : K.In h) (hm : mroIn K C (.type "object") = some true) (hb : mroIn K C (.type "BaseException") = some true) (hcl : findIn K (.ref C) "__class__" = some (some (.builtin "object.__class__")))
    (hx : h.get? a = some o) (hc : o.cls = .ref C) (hq : R (.ok (.ret (.ref C))) ⟨h,g,d,t,os⟩) :
    codeAny (model prog w) A (.call (.builtin "BaseException.__getattribute__") ⟨[.ref a,.str "__class__" tk],[]⟩) R ⟨h,g,d,t,os⟩:=by
  have L0 : Looks (model prog w) h (typeOf (.ref a)) (.ref C):=hc ▸ (Looks.ld hx).andThen .now
  exact codeAny_call_builtin F.excAttr_ValueError.ga.plain F.entry_bexc_ga (check_gaE L0 (looks_mroIn X hb) (class_entryE X L0 hm hcl hx hc hq))
theorem class_byE {tk : Tok} {Q : Value → Shared → Prop} (X : K.In h) (hm : mroIn K C (.type "object") = some true) (hb : mroIn K C (.type "BaseException") = some true) (hcl : findIn K (.ref C) "__class__" = some (some (.builtin "object.__class__")))
    (hga : findIn K (.ref C) "__getattribute__" = some (some (.builtin "BaseException.__getattribute__"))) (hgt : findIn K (.ref C) "__getattr__" = some none)
    (hx : h.get? a = some o) (hc : o.cls = .ref C) (hq : Q (.ref C) ⟨h,g,d,t,os⟩) : wpAny (model prog w) A (getAttrBy (.ref a) (.str "__class__" tk) false) Q E ⟨h,g,d,t,os⟩:=by
  have f3:=F.excAttr_ValueError.ga.bind (.ref a)
  have hx2 : (Value.builtin "BaseException.__getattribute__" == Value.builtin "object.__getattribute__") = false:=by decide +kernel
  have hx1 : (onTheHeap (Value.ref C) && Value.builtin "BaseException.__getattribute__" == Value.builtin "object.__getattribute__") = false:=by rw [hx2]; rfl
  have L1:=looks_findIn (M:=model prog w) X hga
  have L2:=looks_findIn (M:=model prog w) X hgt
  repeat (any_goals (first | assumption | (with_reducible refine wpAny_loadPart_at hx ?_; rw [hc]) | with_reducible refine L1.at ?_ | with_reducible refine L2.at ?_ | wp_step))
  refine class_callE X hm hb hcl hx hc ?_
  repeat (any_goals (first | assumption | wp_step))
theorem class_attrE {Q : Option Value → Shared → Prop} (X : K.In h) (hm : mroIn K C (.type "object") = some true) (hb : mroIn K C (.type "BaseException") = some true) (hcl : findIn K (.ref C) "__class__" = some (some (.builtin "object.__class__")))
    (hga : findIn K (.ref C) "__getattribute__" = some (some (.builtin "BaseException.__getattribute__"))) (hgt : findIn K (.ref C) "__getattr__" = some none)
    (hx : h.get? a = some o) (hc : o.cls = .ref C) (hq : Q (some (.ref C)) ⟨h,g,d,t + 1,os⟩) : wpAny (model prog w) A (getAttr? (.ref a) "__class__") Q E ⟨h,g,d,t,os⟩:=by
  unfold getAttr? getAttrBy?
  repeat (any_goals (first | assumption | with_reducible apply class_byE X hm hb hcl hga hgt hx hc | wp_step))
end
structure ExcK (K : Frag) (C : Addr) : Prop where
  obj : mroIn K C (.type "object") = some true
  exc : mroIn K C (.type "BaseException") = some true
  cls : findIn K (.ref C) "__class__" = some (some (.builtin "object.__class__"))
  ga : findIn K (.ref C) "__getattribute__" = some (some (.builtin "BaseException.__getattribute__"))
  gt : findIn K (.ref C) "__getattr__" = some none
  is : (clsIn K C).isSome = true
theorem kitx_exc {K : Frag} {a C : Addr} (k : ExcK K C) : KitX K (.ref a) (.ref C) (fun h=>∃ o,h.get? a = some o ∧ o.cls = .ref C) where
  ty:=fun M h _ ⟨o,hx,hc⟩=>hc ▸ (Looks.ld hx).andThen .now
  it:=fun _ _ X _=>by
    have z0:=k.is
    unfold clsIn at z0
    split at z0
    · rename_i c' d' cd' sl' ho
      intro A' Q' E' s' kk q
      unfold isType loadHead
      exact wpAny_bind (wpAny_loadPart (kk _ _ (X _ _ ho)) (wpAny_pure q))
    · cases z0
  ne:=fun h tp dd its n sl X htp=>by
    refine Bool.eq_false_iff.mpr fun q=>?_
    have e : C = tp:=Value.ref.inj (beq_iff_eq.mp q)
    subst e
    have z0:=k.is
    unfold clsIn at z0
    split at z0
    · rename_i c' d' cd' sl' ho
      have:=X _ _ ho
      rw [htp] at this
      cases this
    · cases z0
  ca:=fun {prog w A E Q s} X ⟨o,hx,hc⟩ q=>by
    obtain ⟨hh,g,d,t,os⟩:=s
    exact class_attrE X k.obj k.exc k.cls k.ga k.gt hx hc q
section
variable {X : Cx}
theorem call_isexcD : CallR X (.builtin "isinstance") (fun xs H Q=>∃ od a C c u b,xs = [.ref a,c] ∧ H a = some (xE a (.ref C) od) ∧ ExcK X.K C ∧ RelV c u ∧ (∀ u',RelV c u' → u' = u) ∧ kitOne X.K (.ref C) u = some b ∧ Q (.bl b) H):=by
  intro pins s σ H xs us Q I r h
  obtain ⟨od,a,C,c,u,b,rfl,ha,k,_,uni,e,q⟩:=h
  obtain ⟨u1,v,rfl,r1,r2⟩:=vals2 r
  cases r1
  have hv:=uni v r2
  subst hv
  obtain ⟨⟨ob,vs,hx,hc,_⟩,_⟩:=(show ObjOk X.prog X.w H s.heap a (xE a (.ref C) od) from I.hok a _ ha)
  exact kia_one (kitx_exc k) I.kIn ⟨ob,hx,hc⟩ e (fun z=>nomatch z) fun tk=>⟨.bl b,H,I.tok tk,rfl,q⟩
end
end L2.Ev
namespace L2.Ev
open PySem PySem.Spec PyProof.Rows
open L2.Pl
section
variable {prog : Program} {w : World} {A : Around} {R : Result → Shared → Prop} {I : Addr} {fp wr : List Addr} {n : Nat} {P : Nat → Value → Prop} {St : Nat → Heap → Prop} {dv : Value}
end
section
variable {prog : Program} {w : World} {A : Around} {E : Value → Shared → Prop} {Q : Value → Shared → Prop} {s : Shared}
end
section
variable {X : Cx}
theorem call_intB : CallR X (.type "int") (fun xs H Q=>∃ b,xs = [.bl b] ∧ Q (.int (if b then 1 else 0)) H):=by
  intro pins s σ H xs us Q I r h
  obtain ⟨b,rfl,q⟩:=h
  obtain ⟨u,rfl,ru⟩:=vals1 r
  cases ru
  exact call_int_bool ⟨.int (if b then 1 else 0),H,I.tok _,⟨_,rfl⟩,q⟩
end
end L2.Ev
namespace L2.Ev
open PySem PySem.Spec PyProof.Rows
open L2.Pl
section
variable {X : Cx} {α : Type} [D : Dat α]
end
end L2.Ev
namespace L2.Ev
open PySem PyProof.Rows
open L2.Pl
section
variable {X : Cx}
end
end L2.Ev
namespace L2.Ev
open PySem PySem.Spec PyProof.Rows
open L2.Pl
theorem drawsSK {prog : Program} {w : World} {A : Around} (hh : A.handled = none) (k : SK) (it l : Addr) (ne : l ≠ it) (xs : Array Value) :
    Draws prog w A it [it,l] xs.size (fun i x=>xs[i]? = some x) (fun i h=>k.iter h it l i ∧ k.seq h l xs) where
  live:=fun i h st=>by
    cases k with
    | lst=>obtain ⟨⟨o,e,_⟩,_⟩:=st; exact ⟨o,e⟩
    | tup=>obtain ⟨⟨o,e,_⟩,_⟩:=st; exact ⟨o,e⟩
  frame:=fun i h h' st q=>⟨SK.iter_keep st.1 fun o e=>q it (by simp) o e,SK.seq_keep st.2 fun o e=>q l (by simp) o e⟩
  item:=fun i s Q E hi st q=>SK.next st.1 st.2 (Array.getElem?_eq_getElem hi) fun h' p sb=>q xs[i] h' s.toks (Array.getElem?_eq_getElem hi) ⟨p,SK.seq_keep st.2 fun o e=>sb.extBut _ _ ne e⟩ sb
  done:=fun s Q E st q=>SK.stop hh st.1 st.2 (by simp) q
structure ESt (k : SK) (e it l : Addr) (i : Nat) (h : Heap) : Prop where
  he : ∃ old,IsEnum h e it (i : Int) old
  hi : k.iter h it l i
theorem e_newT (l : Addr) (xs : Array Value) :
    Meets (Builtin.«enumerate.__new__» ⟨[.type "enumerate",.ref l],[]⟩) (fun _ R s=>s.heap.IsTuple l xs ∧ R (.ok (.ret (.ref (s.heap.push (SK.tup.ob l)).objs.size))) { s with heap:=(s.heap.push (SK.tup.ob l)).push { cls:=.type "enumerate",data:=.fields #[.none,.bool false,.ref s.heap.objs.size,rawInt 0,.none,.none] } }) :=
  .of_wp fun prog w A R s h=>by
    obtain ⟨hp,g,d,tk,os⟩:=s
    obtain ⟨w1,h⟩:=h
    have hsub:=sub_enumerate
    have w1 : Heap.IsTuple (Shared.heap ⟨hp,g,d,tk,os⟩) l xs:=w1
    obtain ⟨o,ho,_⟩:=id w1
    wp_walk using AutoSeq1.wpAny_loadPart' ho,wpAny_pyIter_tuple w1
    refine wpAny_stack_any fun st=>wpAny_pure ?_
    split
    · rename_i c _ _ _ _ _
      cases (c == Value.type "enumerate") <;> (wp_walk using AutoSeq1.wpAny_loadPart' ho,wpAny_pyIter_tuple w1; exact ⟨_,rfl,h⟩)
    · wp_walk using AutoSeq1.wpAny_loadPart' ho,wpAny_pyIter_tuple w1
      exact ⟨_,rfl,h⟩
theorem e_call {k : SK} {l : Addr} {xs : Array Value} {Q : Value → Shared → Prop} {prog : Program} {w : World} {A : Around} {E : Value → Shared → Prop} {s : Shared} (hl : k.seq s.heap l xs)
    (h : ∀ h',ESt k (s.heap.objs.size + 1) s.heap.objs.size l 0 h' → (∀ c o,s.heap.get? c = some o → h'.get? c = some o) → Q (.ref (s.heap.objs.size + 1)) { s with heap:=h' }) :
    wpAny (model prog w) A (call (.type "enumerate") [.ref l]) Q E s:=by
  cases k with
  | lst=>exact call_enumerate_list hl fun h' a b _ q=>h h' ⟨⟨_,a⟩,b⟩ q
  | tup =>
    refine callType_new F.called_enumerate (by decide) (F.typeCall_enumerate_1 _) (F.newCall_enumerate_1 _) (fun obj=>F.args_object_init_2 obj _) F.entry_enumerate_new (e_newT l xs) ⟨hl,?_⟩
    have e1 : (s.heap.push (SK.tup.ob l)).objs.size = s.heap.objs.size + 1:=Heap.size_push ..
    have g2 : ((s.heap.push (SK.tup.ob l)).push { cls:=.type "enumerate",data:=.fields #[.none,.bool false,.ref s.heap.objs.size,rawInt 0,.none,.none] }).get? (s.heap.push (SK.tup.ob l)).objs.size = some _:=Heap.get?_push_size _ rfl
    have fin:=h _ ⟨⟨.none,by rw [e1] at g2; exact g2⟩,SK.iter_new (k:=.tup) (Heap.get?_push_of_some _ (Heap.get?_push_size _ rfl))⟩ fun c o e=>Heap.get?_push_of_some _ (Heap.get?_push_of_some _ e)
    rw [← e1] at fin
    exact ⟨⟨_,g2,rfl⟩,fin⟩
def Ite (K : PySem.W.Frag) (k : SK) (a : Addr) : It :=
  ⟨fun i H=>∃ xs x,k.is K H a xs ∧ xs[i]? = some x,
   fun i H v H'=>∃ p x,v = .ref p ∧ H p = none ∧ H' = upd H p (.tup [.int i,x]) ∧ ∀ xs,k.is K H a xs → xs[i]? = some x,
   fun i H=>∃ xs,k.is K H a xs ∧ xs.length ≤ i⟩
theorem turn_enum {P : Program} {w : World} {K : PySem.W.Frag} {elts : List Expr} {x1} {pos : Pos} (k : SK) (a e it : Addr) (ne : e ≠ it) :
    Turn P w K (.Tuple elts x1 pos) (Ite K k a) [e,it] e (fun i h=>ESt k e it a i h) where
  mem:=by simp
  obj:=fun i h st c hc=>by
    obtain ⟨⟨old,he⟩,h1⟩:=st
    simp only [List.mem_cons,List.not_mem_nil,or_false] at hc
    rcases hc with rfl | rfl
    · exact ⟨_,he,fun v q=>by cases (show Data.fields _ = Data.cell v from q)⟩
    · cases k with
      | lst=>obtain ⟨o,e,_,d⟩:=h1; exact ⟨o,e,fun v q=>by rw [d] at q; cases q⟩
      | tup=>obtain ⟨o,e,_,d⟩:=h1; exact ⟨o,e,fun v q=>by rw [d] at q; cases q⟩
  keep:=fun i h h' st q=>by
    obtain ⟨⟨old,he⟩,h1⟩:=st
    exact ⟨⟨old,q e (by simp) _ he⟩,SK.iter_keep h1 fun o x=>q it (by simp) o x⟩
  item:=by
    intro X hP hw hK hc i pins s σ H E I hf st hg
    subst hP hw hK
    obtain ⟨xs,x,q1,hx⟩:=hg
    obtain ⟨its,r1,p1⟩:=SK.at I q1
    obtain ⟨u,hu,ru⟩:=r1.get hx
    have fe:=hf e (by simp)
    have fi:=hf it (by simp)
    have ae : a ≠ e:=sq_ne I q1 fe
    have ai : a ≠ it:=sq_ne I q1 fi
    obtain ⟨⟨old,he⟩,h1⟩:=id st
    have lt : i < its.toArray.size:=by
      have:=(List.getElem?_eq_some_iff.mp hu).1
      simpa using this
    refine wpAny_pyNext_enum_itemD (drawsSK (A:=X.A.in1) (I.ok.hd hc) k it a ai its.toArray) he ⟨h1,p1⟩ lt ne (by simp only [List.mem_cons,List.not_mem_nil,or_false,not_or]; exact ⟨ne,ae.symm⟩) fun v h' tk hv a1 a2 a3 _ a4=>?_
    have hv' : u = v:=by
      have : its[i]? = some v:=by simpa using hv
      rw [hu] at this
      exact Option.some.inj this
    subst hv'
    refine ⟨_,rfl,wpAny_letOwnedTupleGo_enum (s:={ s with heap:=h',toks:=tk + 1 }) a1 fun h'' b1 b2=>?_⟩
    have kp : ∀ c o,c ∉ [e,it] → s.heap.get? c = some o → h''.get? c = some o:=fun c o hc x=>by
      simp only [List.mem_cons,List.not_mem_nil,or_false,not_or] at hc
      exact b2.extBut _ _ hc.1 (a4 c o hc.1 hc.2 x)
    have elt : e < s.heap.objs.size:=Heap.lt_size he
    have hT:=b2.extBut _ _ (Nat.ne_of_gt elt) a3
    have hn : H s.heap.objs.size = none:=I.fresh
    have hok : HOk X.prog X.w (upd H s.heap.objs.size (.tup [.int i,x])) h'':=fun c o z=>by
      by_cases hc : c = s.heap.objs.size
      · subst hc
        rw [upd_same] at z
        cases z
        exact ⟨by show 2 ≤ sizeLine; decide,[.int i tk,u],.cons ⟨tk,rfl⟩ (.cons ru .nil),⟨_,hT,rfl,_,rfl,rfl⟩⟩
      · rw [upd_ne hc] at z
        refine (I.hok c o z).stay (fun d v2 hd q=>kp d v2 (fun m=>?_) q) (fun d q=>by rw [upd_ne (ne_of_none q hn)]; exact q) fun d xs q=>by rw [upd_ne (ne_of_none q hn)]; exact q
        have z2:=(hf d m).1
        rcases hd with rfl | hd
        · rw [z] at z2; cases z2
        · rw [hd] at z2; cases z2
    have I9 : Inv X pins σ (upd H s.heap.objs.size (.tup [.int i,x])) { s with heap:=h'',toks:=tk + 1 }:=turnedL (s:=s) I hf kp (fun c hc=>upd_ne (Nat.ne_of_lt hc)) hok
    refine ⟨.ref s.heap.objs.size,upd H s.heap.objs.size (.tup [.int i,x]),I9,rfl,⟨s.heap.objs.size,x,rfl,hn,rfl,fun zs hz=>by rw [SK.inj I hz q1]; exact hx⟩,?_,fun c hc=>?_⟩
    · refine ⟨⟨u,?_⟩,SK.iter_keep a2.1 fun o x=>b2.extBut _ _ ne.symm x⟩
      rw [Int.natCast_add]
      exact b1
    · have hlt : c < s.heap.objs.size:=by
        simp only [List.mem_cons,List.not_mem_nil,or_false] at hc
        rcases hc with rfl | rfl
        · exact elt
        · exact SK.iter_lt h1
      rw [upd_ne (Nat.ne_of_lt hlt)]
      exact (hf c hc).1
  done:=by
    intro X hP hw hK hc i pins s σ H E I hf st hg
    subst hP hw hK
    obtain ⟨xs,q1,hx⟩:=hg
    obtain ⟨its,r1,p1⟩:=SK.at I q1
    have fe:=hf e (by simp)
    have fi:=hf it (by simp)
    have ai : a ≠ it:=sq_ne I q1 fi
    have l1:=r1.length
    obtain ⟨⟨old,he⟩,h1⟩:=id st
    have hT : s.TypeIs (.ref e) "enumerate" := ⟨_,he,rfl⟩
    unfold pyNext
    refine wpAny_bind (wpAny_attempt (wpAny_callSpecial?_slot (name:=Str.ofString "__next__") hT F.slot_enumerate_next (wpAny_call_entry F.slot_enumerate_next hT F.entry_enumerate_next ?_ (F.args_enumerate_next_1 _))))
    show wpAny _ _ (field (.ref e) 2 >>= fun _=>_) _ _ _
    refine wpAny_bind (wpAny_field he rfl (x:=Value.ref it) rfl (wpAny_bind (SK.stop (show X.A.in1.handled = none from I.ok.hd hc) h1 p1 (by simp; omega) fun h' z q hz=>?_)))
    obtain ⟨o,ho,hcl⟩:=hz
    refine wpAny_bind (wpAny_isInstance (T := "StopIteration") (b:=true) ⟨o,ho,hcl⟩ isSubtype_stop (wpAny_pure ⟨rfl,?_⟩))
    have kp : ∀ c o,c ∉ [it] → s.heap.get? c = some o → h'.get? c = some o:=fun c o hc x=>q c o (by simpa using hc) x
    have hf1 : ∀ c ∈ [it],FpOk X pins H c:=fun c hc=>by rw [List.mem_singleton.mp hc]; exact fi
    refine turnedL (h':=h') (t':=s.toks) I hf1 kp (fun c _=>rfl) fun c o z=>?_
    refine (I.hok c o z).stay (fun d v2 hd q=>kp d v2 (fun m=>?_) q) (fun d q=>q) fun d xs q=>q
    have z2:=(hf1 d m).1
    rcases hd with rfl | hd
    · rw [z] at z2; cases z2
    · rw [hd] at z2; cases z2
  self:=fun _ _ _ _ _ st h=>by
    obtain ⟨⟨old,he⟩,_⟩:=st
    exact wpAny_pyIter_enum he h
def iEnum (K : PySem.W.Frag) (k : SK) (ta : TA) : TI:=fun σ H R=>ta σ H fun vs H1=>∃ a,vs = [.ref a] ∧ (∃ xs,k.is K H1 a xs) ∧ R (Ite K k a) H1
theorem pi_enum {X : Cx} {ea : Expr} {ta : TA} {p pos tp : Pos} {elts : List Expr} {x1} (k : SK) (hg : Gl X "enumerate") (hm : X.mg "enumerate" = none) (ha : PA X [ea] ta) (hs : starEach [ea] X.env = (false,eval ea X.env) :: starEach [] X.env:=by rfl) (hs2 : (backTo pos (starEach [] X.env)).any (·.1) = false:=by rfl) :
    PI X (.Tuple elts x1 tp) (.Call (.Name "enumerate" p) [ea] [] pos) (iEnum X.K k ta):=by
  intro pins s σ H R I h
  refine Call_ (ld_blt I hg hm boot_enumerate (PyProof.Rows.callWith_type1 (thn (ha pos pins s σ H _ I h) fun us s1 ⟨vs,H1,I1,r1,q1⟩=>?_) hs hs2))
  obtain ⟨a,rfl,⟨xs,ex⟩,q⟩:=q1
  obtain ⟨u,rfl,ru⟩:=vals1 r1
  cases ru
  obtain ⟨its,r1,p1⟩:=SK.at I1 ex
  refine e_call p1 fun h' Z kp=>?_
  obtain ⟨⟨old,he⟩,_⟩:=id Z
  refine wpAny_pyIter_enum he ?_
  have I2 : Inv X pins σ H1 { s1 with heap:=h' }:=I1.kept (t':=s1.toks) kp
  refine ⟨_,[s1.heap.objs.size + 1,s1.heap.objs.size],_,_,H1,rfl,I2,turn_enum k a _ _ (Nat.succ_ne_self _),Z,fun c hc=>?_,q⟩
  have ge : s1.heap.objs.size ≤ c:=by
    simp only [List.mem_cons,List.not_mem_nil,or_false] at hc
    rcases hc with rfl | rfl
    · exact Nat.le_add_right _ _
    · exact Nat.le_refl _
  exact I1.fpOk ge (I1.hok.fresh ge)
theorem for_enum {K : PySem.W.Frag} {k : SK} {a : Addr} {xs : List V} {g : TG} {tb : TS} {D : Ends} {σ : St} {H : Hp} (Pv : Nat → St → Hp → Prop) (h0 : Pv 0 σ H) (hl : ∀ i σ H,Pv i σ H → k.is K H a xs)
    (hs : ∀ i x p σ H,xs[i]? = some x → H p = none → Pv i σ H → g (.ref p) σ (upd H p (.tup [.int i,x])) fun σ2 H2=>tb { D with nx:=Pv (i + 1),ct:=Pv (i + 1),bk:=D.nx } σ2 H2) (hd : ∀ σ H,Pv xs.length σ H → D.nx σ H) :
    ∃ W : Nat → Nat → St → Hp → Prop,(∃ m,W 0 m σ H) ∧ ∀ i m σ H,W i m σ H →
      ((Ite K k a).stop i H ∧ D.nx σ H) ∨ ((Ite K k a).go i H ∧ ∃ N : St → Hp → Prop,(∀ σ' H',N σ' H' → ∃ m',m' < m ∧ W (i + 1) m' σ' H') ∧ ∀ x H',(Ite K k a).yld i H x H' → g x σ H' fun σ2 H2=>tb { D with nx:=N,ct:=N,bk:=D.nx } σ2 H2):=by
  refine ⟨fun i m σ H=>m = xs.length - i ∧ i ≤ xs.length ∧ Pv i σ H,⟨xs.length,by simp,Nat.zero_le _,h0⟩,?_⟩
  rintro i m σ H ⟨rfl,hi,p⟩
  have l1:=hl i σ H p
  by_cases hlt : i < xs.length
  · refine .inr ⟨⟨xs,xs[i],l1,List.getElem?_eq_getElem (by omega)⟩,Pv (i + 1),fun σ' H' p'=>⟨xs.length - (i + 1),by omega,rfl,hlt,p'⟩,fun x H' y=>?_⟩
    obtain ⟨q,x,rfl,hq,rfl,hx⟩:=y
    exact hs i x q σ H (hx xs l1) hq p
  · have e : i = xs.length:=by omega
    subst e
    exact .inl ⟨⟨xs,l1,Nat.le_refl _⟩,hd σ H p⟩
end L2.Ev
namespace L2.Ev
open PySem PySem.Spec PyProof.Rows
open L2.Pl
instance datStr : Dat Str where
  is:=fun _ v b=>v = .str b
  mono:=fun _ h=>h
  inj:=fun h h'=>by rw [h] at h'; cases h'; rfl
  dep:=0
  eqb:=fun a b=>a == b
  eqb_iff:=fun a b=>beq_iff_eq
  eqAt:=fun {X pins σ H s A v v' u u' a b} I hu h h' r r'=>by
    subst h h'
    obtain ⟨t,rfl⟩:=r
    obtain ⟨t',rfl⟩:=r'
    exact SeqAt.EqAt.str_str _ _ _ _
section
variable {prog : Program} {w : World} {A : Around} {E : Value → Shared → Prop} {s : Shared}
theorem tuple_whole {t sl : Addr} {items : Array Value} {vl vu : Value} {lo hi : Option Int} {Q : Value → Shared → Prop} (ht : IsTup s.heap t items) (hs : s.heap.IsSliceOf sl vl vu .none) (pl : IsPart vl lo) (pu : IsPart vu hi)
    (w1 : HT.sIx items.size 0 lo = 0) (w2 : HT.sIx items.size items.size hi = items.size) (h : Q (.ref t) s) : wpAny (model prog w) A (getItem (.ref t) (.ref sl)) Q E s:=by
  obtain ⟨os,hos,hcs,hds⟩:=id hs
  have hTs : s.TypeIs (.ref sl) "slice" := ⟨os,hos,hcs⟩
  unfold getItem
  try with_reducible refine wpAny_holding ?_
  first | refine wpAny_bind (wpAny_pure ?_) | skip
  refine wpAny_bind (wpAny_sequenceKey ht.typeIs (by decide) (wpAny_bind (wpAny_callSpecial?_slot (name:=Str.ofString "__getitem__") ht.typeIs PyProof.Rows.slot_tuple_getitem (wpAny_call_entry PyProof.Rows.slot_tuple_getitem ht.typeIs entry_tuple_getitem ?_ (args_tuple_getitem _ _)))))
  show wpAny _ _ (Builtin.Tuple.tupleItemsOf (.ref t) >>= fun _=>_) _ _ s
  refine wpAny_bind (tupleItemsOf_ ht (wpAny_bind (wpAny_typeOf hTs ?_)))
  rw [if_pos (by decide)]
  refine wpAny_bind (HT.sliceApplied_gen hs pl pu ?_)
  rw [w1,w2]
  show wpAny _ _ (if (((0 : Nat) : Int) == 0 && (1 : Int) == 1 && (items.size - 0) == items.size) = true then _ else _) _ _ s
  rw [if_pos (by simp)]
  refine wpAny_bind ?_
  refine wpAny_bind (m:=Builtin.Tuple.tupleIsExact (.ref t)) ?_
  unfold Builtin.Tuple.tupleIsExact
  refine wpAny_bind (wpAny_typeOf ht.typeIs (wpAny_pure (wpAny_pure ?_)))
  rw [if_pos (by decide)]
  exact wpAny_bind (wpAny_rule (wpAny_pure ⟨_,rfl,wpAny_pure h⟩))
end
section
variable {X : Cx}
def rSlTW (K : PySem.W.Frag) : V → Option Int → Option Int → Hp → VK → Prop:=fun x lo hi H Q=>∃ a xs,x = .ref a ∧ SqT K H a xs ∧ HT.sIx xs.length 0 lo = 0 ∧ HT.sIx xs.length xs.length hi = xs.length ∧ Q (.ref a) H
theorem sl_tupW : SlR X (rSlTW X.K):=by
  intro pins s σ H x v vl vu lo hi sl Q I rx hs pl pu h
  obtain ⟨a,xs,rfl,hx,w1,w2,q⟩:=h
  cases rx
  obtain ⟨its,r,ht,hz⟩:=I.tuple hx
  have hlen : its.toArray.size = xs.length:=by rw [List.size_toArray]; exact r.length.symm
  exact ⟨"tuple",_,PyProof.Rows.slot_tuple_getitem.lookup,ht.typeIs,tuple_whole ht hs pl pu (by rw [hlen]; exact w1) (by rw [hlen]; exact w2) ⟨.ref a,H,I,rfl,q⟩⟩
theorem sl_rest : SlR X (fun x lo hi H Q=>∃ (a : Addr) (r : List Int),x = .ref a ∧ lo = some 1 ∧ hi = none ∧ H a = some (.tup (r.map V.int)) ∧ ∀ (p : Addr) (H' : Hp),Same H H' → H' p = some (.tup ((r.drop 1).map V.int)) → Q (.ref p) H'):=by
  intro pins s σ H x v vl vu lo hi sl Q I rx hs pl pu h
  obtain ⟨a,r,rfl,rfl,rfl,ha,q⟩:=h
  cases r with
  | nil=>exact sl_tupW pins s σ H _ v vl vu _ _ sl Q I rx hs pl pu ⟨a,[],rfl,SqT.of ha,rfl,rfl,q a H (fun _ _ e=>e) ha⟩
  | cons n r =>
    refine sl_tup pins s σ H _ v vl vu _ _ sl Q I rx hs pl pu ⟨a,_,rfl,SqT.of ha,fun z=>?_,fun p hp=>?_⟩
    · have z1:=z.1
      rw [show (1 : Int) = ((1 : Nat) : Int) from rfl,HT.sIx_nat,List.length_map,List.length_cons] at z1
      omega
    · refine q p _ (same_new hp _) ?_
      rw [upd_same]
      unfold cutV
      rw [show (1 : Int) = ((1 : Nat) : Int) from rfl,HT.sIx_nat,HT.sIx_none,List.length_map,List.length_cons,Nat.min_eq_left (by omega),List.take_of_length_le (by simp),List.map_drop]
theorem sl_pre : SlR X (fun x lo hi H Q=>∃ (a : Addr) (r : List Int) (k : Nat),x = .ref a ∧ lo = none ∧ hi = some (k : Int) ∧ H a = some (.tup (r.map V.int)) ∧ ∀ (p : Addr) (H' : Hp),Same H H' → H' p = some (.tup ((r.take k).map V.int)) → Q (.ref p) H'):=by
  intro pins s σ H x v vl vu lo hi sl Q I rx hs pl pu h
  obtain ⟨a,r,k,rfl,rfl,rfl,ha,q⟩:=h
  by_cases c : r.length ≤ k
  · refine sl_tupW pins s σ H _ v vl vu _ _ sl Q I rx hs pl pu ⟨a,_,rfl,SqT.of ha,HT.sIx_none _ _,?_,q a H (fun _ _ e=>e) (by rw [List.take_of_length_le c]; exact ha)⟩
    rw [HT.sIx_nat,List.length_map]
    omega
  · refine sl_tup pins s σ H _ v vl vu _ _ sl Q I rx hs pl pu ⟨a,_,rfl,SqT.of ha,fun z=>?_,fun p hp=>?_⟩
    · have z2:=z.2
      rw [HT.sIx_nat,List.length_map] at z2
      omega
    · refine q p _ (same_new hp _) ?_
      rw [upd_same]
      unfold cutV
      rw [HT.sIx_nat,HT.sIx_none,List.length_map,List.drop_zero,Nat.sub_zero,Nat.min_eq_left (by omega),List.map_take]
end
end L2.Ev
namespace L2.Ev
open PySem PySem.Spec PyProof.Rows
open L2.Pl
section
variable {X : Cx}
theorem sl_suf : SlR X (fun x lo hi H Q=>∃ (a : Addr) (r : List Int) (k : Nat),x = .ref a ∧ lo = some (k : Int) ∧ hi = none ∧ H a = some (.tup (r.map V.int)) ∧ ∀ (p : Addr) (H' : Hp),Same H H' → H' p = some (.tup ((r.drop k).map V.int)) → Q (.ref p) H'):=by
  intro pins s σ H x v vl vu lo hi sl Q I rx hs pl pu h
  obtain ⟨a,r,k,rfl,rfl,rfl,ha,q⟩:=h
  by_cases c : min k r.length = 0
  · have e : r.drop k = r:=by
      rcases Nat.min_eq_zero_iff.mp c with z | z
      · rw [z]; rfl
      · rw [List.length_eq_zero_iff.mp z,List.drop_nil]
    exact sl_tupW pins s σ H _ v vl vu _ _ sl Q I rx hs pl pu ⟨a,_,rfl,SqT.of ha,by rw [HT.sIx_nat,List.length_map]; exact c,HT.sIx_none _ _,q a H (fun _ _ e=>e) (by rw [e]; exact ha)⟩
  · refine sl_tup pins s σ H _ v vl vu _ _ sl Q I rx hs pl pu ⟨a,_,rfl,SqT.of ha,fun z=>?_,fun p hp=>?_⟩
    · have z1:=z.1
      rw [HT.sIx_nat,List.length_map] at z1
      exact c z1
    · refine q p _ (same_new hp _) ?_
      rw [upd_same]
      unfold cutV
      rw [HT.sIx_nat,HT.sIx_none,List.length_map,List.take_of_length_le (by rw [List.length_drop,List.length_map]; omega),List.map_drop]
      by_cases c2 : k ≤ r.length
      · rw [Nat.min_eq_left c2]
      · rw [Nat.min_eq_right (by omega),List.drop_of_length_le (by rw [List.length_map]; omega),List.drop_of_length_le (by rw [List.length_map]; omega)]
theorem op_notIn_ints : OpR X (compareOp .NotIn) (fun x y H Q=>∃ (n : Int) (p : Addr) (r : List Int),x = .int n ∧ y = .ref p ∧ H p = some (.tup (r.map V.int)) ∧ Q (.bl (!decide (n ∈ r))) H):=by
  intro pins s σ H x y v u Q I rx ry h
  obtain ⟨n,p,r,rfl,rfl,hp,q⟩:=h
  have e : inV (.int n) (r.map V.int) = decide (n ∈ r):=by
    unfold inV
    clear hp q
    induction r with
    | nil=>rfl
    | cons y r ih =>
      rw [List.map_cons,List.any_cons,ih]
      by_cases c : y = n
      · subst c
        rw [show eqV (.int y) (.int y) = true from beq_self_eq_true y,decide_eq_true (List.mem_cons_self ..)]
        rfl
      · rw [show eqV (.int y) (.int n) = false from beq_eq_false_iff_ne.mpr c,Bool.false_or]
        by_cases d : n ∈ r
        · rw [decide_eq_true d,decide_eq_true (List.mem_cons_of_mem _ d)]
        · rw [decide_eq_false d,decide_eq_false (fun z=>(List.mem_cons.mp z).elim (fun z=>c z.symm) d)]
  refine op_notIn_seq pins s σ H _ _ v u Q I rx ry ⟨p,_,rfl,.inr (SqT.of hp),rfl,?_,?_⟩
  · rw [List.all_map]; exact List.all_eq_true.mpr fun _ _=>rfl
  · rw [if_pos rfl,e]; exact q
end
end L2.Ev
namespace L2.Ev
open PySem PySem.Spec PyProof.Rows
open L2.Pl
theorem noFill_tuple_mul : fillsNumberSlot (.type "tuple") "mul" = pure false :=
  PySem.fillsNumberSlot_seq (id := "tuple.__mul__") (r:=some (.builtin "tuple.__rmul__")) PySem.F.slot_tuple_mul.lookup (by decide +kernel) PySem.F.slot_tuple_rmul.lookup (by decide +kernel)
theorem repeat_tuple : seqRepeat? (.type "tuple") = pure (some (.builtin "tuple.__mul__")):=by
  unfold seqRepeat?
  rw [PySem.seqSlot_of (T := "tuple") (name := "__mul__") (id := "tuple.__mul__") PySem.F.slot_tuple_mul.lookup (by decide +kernel),PySem.seqSlot_of (T := "tuple") (name := "__rmul__") (id := "tuple.__rmul__") PySem.F.slot_tuple_rmul.lookup (by decide +kernel)]
  rfl
theorem int_rmul_tup (a : Int) (t : Tok) (l : Addr) (items : Array Value) (n : Nat) (dd : Option Addr) (sl : Array (Option Value)) :
    Meets (Builtin.«int.__rmul__» ⟨[.int a t,.ref l],[]⟩) (fun _ R s=>s.heap.get? l = some ⟨.type "tuple",dd,.seq items n,sl⟩ ∧ R (.ok (.ret Value.notImplemented)) s) :=
  .of_wp fun prog w A R s h=>by
    obtain ⟨hp,g,d,tk,os⟩:=s
    obtain ⟨hl,h⟩:=h
    wp_walk
    exact ⟨_,rfl,h⟩
theorem tup_mul1 (l : Addr) (items : Array Value) (n : Nat) (dd : Option Addr) (sl : Array (Option Value)) (u : Tok) :
    Meets (Builtin.«tuple.__mul__» ⟨[.ref l,.int 1 u],[]⟩) (fun _ R s=>s.heap.get? l = some ⟨.type "tuple",dd,.seq items n,sl⟩ ∧ R (.ok (.ret (.ref l))) s) :=
  .of_wp fun prog w A R s h=>by
    obtain ⟨hp,g,d,tk,os⟩:=s
    obtain ⟨hl,h⟩:=h
    have hc : (items.isEmpty || (1 : Int) == 1) = true:=by rw [beq_self_eq_true,Bool.or_true]
    wp_walk
    exact ⟨_,rfl,h⟩
theorem tup_mul0 (l : Addr) (items : Array Value) (n : Nat) (dd : Option Addr) (sl : Array (Option Value)) (k : Int) (u : Tok) (hi : items.isEmpty = false) (h0 : k ≤ 0) (h1 : -(2 ^ 63) ≤ k) :
    Meets (Builtin.«tuple.__mul__» ⟨[.ref l,.int k u],[]⟩) (fun _ R s=>s.heap.get? l = some ⟨.type "tuple",dd,.seq items n,sl⟩ ∧ R (.ok (.ret (.ref s.heap.objs.size))) { s with heap:=s.heap.push { cls:=.type "tuple",data:=.seq #[] } }) :=
  .of_wp fun prog w A R s h=>by
    obtain ⟨hp,g,d,tk,os⟩:=s
    obtain ⟨hl,h⟩:=h
    have hf : ¬ (decide (k < -(2 ^ 63)) || decide (k ≥ 2 ^ 63)) = true:=by rw [decide_eq_false (by omega),decide_eq_false (by omega)]; exact Bool.false_ne_true
    have hc : ¬ (items.isEmpty || k == 1) = true:=by rw [hi,show (k == 1) = false from beq_eq_false_iff_ne.mpr (by omega)]; exact Bool.false_ne_true
    have hz : (decide (k ≤ 0) || items.isEmpty) = true:=by rw [decide_eq_true h0]; rfl
    wp_walk
    refine wpAny_ite_false (decide_eq_false hf) ?_
    wp_walk
    refine wpAny_ite_false (decide_eq_false hc) ?_
    wp_walk
    exact ⟨_,rfl,h⟩
theorem tup_mul2 (l : Addr) (items : Array Value) (n : Nat) (dd : Option Addr) (sl : Array (Option Value)) (k : Int) (u : Tok) (hi : items.isEmpty = false) (h0 : 2 ≤ k) (h1 : k < 2 ^ 63) (hz : items.size * k.toNat ≤ sizeLine) :
    Meets (Builtin.«tuple.__mul__» ⟨[.ref l,.int k u],[]⟩) (fun _ R s=>s.heap.get? l = some ⟨.type "tuple",dd,.seq items n,sl⟩ ∧ R (.ok (.ret (.ref s.heap.objs.size))) { s with heap:=s.heap.push { cls:=.type "tuple",data:=.seq ((List.replicate k.toNat items).foldl (fun x1 x2=>x1 ++ x2) #[]) } }) :=
  .of_wp fun prog w A R s h=>by
    obtain ⟨hp,g,d,tk,os⟩:=s
    obtain ⟨hl,h⟩:=h
    have e : (items.size : Int) * k = ((items.size * k.toNat : Nat) : Int):=by rw [Int.natCast_mul,Int.toNat_of_nonneg (by omega)]
    have hs : (sizeLine : Nat) ≤ (2 ^ 63 - 1) / 8:=by decide
    have hf : ¬ (decide (k < -(2 ^ 63)) || decide (k ≥ 2 ^ 63)) = true:=by rw [decide_eq_false (by omega),decide_eq_false (by omega)]; exact Bool.false_ne_true
    have hc : ¬ (items.isEmpty || k == 1) = true:=by rw [hi,show (k == 1) = false from beq_eq_false_iff_ne.mpr (by omega)]; exact Bool.false_ne_true
    have hz1 : ¬ (decide (k ≤ 0) || items.isEmpty) = true:=by rw [decide_eq_false (by omega),hi]; exact Bool.false_ne_true
    have hm : ¬ (items.size : Int) * k > (2 ^ 63 - 1) / 8:=by rw [e]; omega
    have ht : ¬ Builtin.Tuple.tupleTooMany ((items.size : Int) * k) = true:=by
      unfold Builtin.Tuple.tupleTooMany
      rw [e,decide_eq_false (by omega)]
      exact Bool.false_ne_true
    have hsz : sizeOk (.seq ((List.replicate k.toNat items).foldl (fun x1 x2=>x1 ++ x2) #[])):=by
      show ((List.replicate k.toNat items).foldl (fun x1 x2=>x1 ++ x2) #[]).size ≤ sizeLine
      have : ∀ (m : Nat) (acc : Array Value),((List.replicate m items).foldl (fun x1 x2=>x1 ++ x2) acc).size = acc.size + items.size * m:=by
        intro m
        induction m with
        | zero=>intro acc; simp
        | succ m ih=>intro acc; rw [List.replicate_succ,List.foldl_cons,ih,Array.size_append,Nat.mul_succ]; omega
      rw [this]
      simpa using hz
    wp_walk
    refine wpAny_ite_false (decide_eq_false hf) ?_
    wp_walk
    refine wpAny_ite_false (decide_eq_false hc) ?_
    wp_walk
    refine wpAny_ite_false (decide_eq_false hz1) ?_
    wp_walk
    refine wpAny_ite_false (decide_eq_false hm) ?_
    wp_walk
    refine wpAny_ite_false (decide_eq_false ht) ?_
    wp_walk
    refine wpAny_ite_false (decide_eq_false (Nat.not_lt.mpr hsz)) ?_
    wp_walk
    exact ⟨_,rfl,h⟩
theorem rep_ints (r : List Int) (k : Nat) : (List.replicate k (r.map V.int)).flatten = ((List.replicate k r).flatten).map V.int:=by
  induction k with
  | zero=>rfl
  | succ k ih=>rw [List.replicate_succ,List.replicate_succ,List.flatten_cons,List.flatten_cons,List.map_append,ih]
theorem foldl_reps (l : List Value) : ∀ m : Nat,(List.replicate m l.toArray).foldl (fun x1 x2=>x1 ++ x2) #[] = (List.replicate m l).flatten.toArray:=fun m=>by
  have : ∀ (m : Nat) (acc : List Value),(List.replicate m l.toArray).foldl (fun x1 x2=>x1 ++ x2) acc.toArray = (acc ++ (List.replicate m l).flatten).toArray:=by
    intro m
    induction m with
    | zero=>intro acc; simp
    | succ m ih =>
      intro acc
      rw [List.replicate_succ,List.foldl_cons,List.append_toArray,ih,List.replicate_succ,List.flatten_cons,List.append_assoc]
  exact this m []
section
variable {X : Cx}
theorem op_repT : OpR X (binaryOp .Mult) (fun x y H Q=>∃ (p : Addr) (r : List Int) (k : Int),x = .ref p ∧ y = .int k ∧ H p = some (.tup (r.map V.int)) ∧ r ≠ [] ∧ -(2 ^ 63) ≤ k ∧ k < 2 ^ 63 ∧ r.length * k.toNat ≤ sizeLine ∧
    ∀ (t : Addr) (H' : Hp),Same H H' → H' t = some (.tup (((List.replicate k.toNat r).flatten).map V.int)) → Q (.ref t) H'):=by
  intro pins s σ H x y v u Q I rx ry h
  obtain ⟨p,r,k,rfl,rfl,hp,hne,h1,h2,hz,q⟩:=h
  cases rx
  obtain ⟨t,rfl⟩:=ry
  obtain ⟨its,rv,p1,_⟩:=I.tuple (SqT.of hp)
  obtain ⟨⟨cls,dd,data,sl⟩,ho,hc,n,hd⟩:=id p1
  simp only at hc hd
  subst hc hd
  have hl:=rv.length
  rw [List.length_map] at hl
  have hi : its.toArray.isEmpty = false:=by
    cases its with
    | nil=>exact absurd (List.length_eq_zero_iff.mp (by rw [hl]; rfl)) hne
    | cons a b=>rfl
  refine wpAny_binaryOp_repeat_ref (T := "tuple") (U := "int") (by decide) ⟨_,ho,rfl⟩ (fun s'=>typeIs_int s' k t) noFill_tuple_mul PySem.F.fills_int_mul PySem.F.slot_int_rmul repeat_tuple PySem.F.slot_int_index.lookup
    (call_meets PySem.F.slot_int_rmul (typeIs_int s k t) PySem.F.entry_int_rmul (PySem.F.args_int_rmul_2 _ _) (int_rmul_tup k t p its.toArray n dd sl) ⟨ho,rfl,⟨_,ho,rfl⟩,?_⟩)
  by_cases c1 : k = 1
  · subst c1
    refine call_meets PySem.F.slot_tuple_mul ⟨_,ho,rfl⟩ PySem.F.entry_tuple_mul (PySem.F.args_tuple_mul_2 _ _) (tup_mul1 p its.toArray n dd sl t) ⟨ho,?_⟩
    exact ⟨.ref p,H,I,rfl,q p H (fun _ _ e=>e) (by rw [hp]; simp)⟩
  · by_cases c0 : k ≤ 0
    · refine call_meets PySem.F.slot_tuple_mul ⟨_,ho,rfl⟩ PySem.F.entry_tuple_mul (PySem.F.args_tuple_mul_2 _ _) (tup_mul0 p its.toArray n dd sl k t hi c0 h1) ⟨ho,?_⟩
      refine ⟨.ref s.heap.objs.size,upd H s.heap.objs.size (.tup []),I.laid (t':=s.toks) (o:=.tup []) (fun b ob q=>Heap.get?_push_of_some _ q) (Nat.le_refl _) ⟨Nat.zero_le _,[],.nil,TupN.new _ _⟩,rfl,q _ _ (same_new I.fresh _) ?_⟩
      rw [upd_same,show k.toNat = 0 by omega]
      rfl
    · refine call_meets PySem.F.slot_tuple_mul ⟨_,ho,rfl⟩ PySem.F.entry_tuple_mul (PySem.F.args_tuple_mul_2 _ _) (tup_mul2 p its.toArray n dd sl k t hi (by omega) h2 (by rw [List.size_toArray,← hl]; exact hz)) ⟨ho,?_⟩
      rw [foldl_reps]
      refine ⟨.ref s.heap.objs.size,upd H s.heap.objs.size (.tup ((List.replicate k.toNat (r.map V.int)).flatten)),I.laid (t':=s.toks) (o:=.tup ((List.replicate k.toNat (r.map V.int)).flatten)) (fun b ob q=>Heap.get?_push_of_some _ q) (Nat.le_refl _) ⟨?_,_,rv.rep k.toNat,TupN.new _ _⟩,rfl,q _ _ (same_new I.fresh _) ?_⟩
      · rw [len_rep,List.length_map,Nat.mul_comm]; exact hz
      · rw [upd_same,rep_ints]
end
end L2.Ev
namespace L2.Ev
open PySem PySem.Spec PyProof.Rows
open L2.Ts L2.Pl L2.Rw
end L2.Ev
namespace L2.Ev
open PySem PySem.Spec PyProof.Rows
structure BkScopeC (X : Cx) (N' : List Str) (src : List (Option Nat)) (z : Str) (scope : Scope) : Prop where
  kind : scope.kind = .function
  cells : ∀ n acc,cellsFrom n scope.names acc = (z,n) :: acc
  push : ∀ h : Heap,pushCells h scope.names = h.push { cls:=.type "cell",data:=.cell none }
  own : ∀ y ∈ scope.names,y.2 = .cell → y.1 = z
  isz : scope.names.lookup z = some .cell
  names : ∀ y ∈ scope.names,y.2 = .local → scope.names.lookup y.1 = some .local
  frees : ∀ y ∈ scope.names,y.2 = .free → X.env.kindOf y.1 = some .cell ∨ X.env.kindOf y.1 = some .free
  len : src.length = N'.length
  out : ∀ i j : Nat,src[i]? = some (some j) → ∃ x : Str,N'[i]? = some x ∧ X.N[j]? = some x ∧ scope.names.lookup x = some .free
end L2.Ev
namespace L2.Rw
open PySem PySem.W PySem.Calls PyProof.Rows PySem.Spec
section
variable {prog : Program} {w : World} {A : Around} {E : Value → Shared → Prop} {s : Shared} {d : Addr} {es : Array DictEntry} {ep : Nat}
end
end L2.Rw
namespace L2.Ev
open PySem PySem.Spec PyProof.Rows
open L2.Ts L2.Pl L2.Rw
def toB (ks : List Pw) : List (List Key × V):=ks.map fun k=>(k.map Sum.inl,V.bl true)
theorem toB_len (ks : List Pw) : (toB ks).length = ks.length:=List.length_map _
theorem dtb_raw {X : Cx} {pins : List (Addr × Obj)} {σ : St} {H : Hp} {s : Shared} {a : Addr} {ks : List Pw} (I : Inv X pins σ H s) (h : Rd H a (.dT (toB ks))) :
    ks.length ≤ sizeLine ∧ (a == sysModules) = false ∧ ∃ (es : Array DictEntry) (ep : Nat),RawD s.heap a es ep ∧ es.size = ks.length ∧
      Paired (fun (e : DictEntry) (k : Pw)=>∃ p,e.key = .ref p ∧ H p = some (.tup (k.map V.int))) es.toList ks:=by
  obtain ⟨z,y,xs,r,o,es,ep,h1,h2,h3,h4,h5⟩:=(show ObjOk X.prog X.w H s.heap a (.dT (toB ks)) from rd_of I.hok h)
  have key : ∀ {ks : List Pw} {xs : List (List Key × Addr × Value)},KT H (toB ks) xs → Paired (fun (e : DictEntry) (k : Pw)=>∃ p,e.key = .ref p ∧ H p = some (.tup (k.map V.int))) (xs.map (entryOfKey (tupleKind (mixKind X.prog X.w)))) ks:=by
    intro ks
    induction ks with
    | nil=>intro xs r; cases r; exact .nil
    | cons t d ih =>
      intro xs r
      cases r with
      | cons q qs =>
        refine .cons ⟨_,rfl,?_⟩ (ih qs)
        have:=q.2.1
        rw [← kV_inl]
        exact this
  have kp:=key r
  rw [← h4] at kp
  refine ⟨by rw [← toB_len]; exact z,y,es,ep,⟨o,h1,h2,h3⟩,?_,kp⟩
  rw [← Array.length_toList]
  exact Paired.length kp
section
variable {X : Cx}
theorem keys_end {pins : List (Addr × Obj)} {σ : St} {H : Hp} {s : Shared} {ks : List Pw} {es : Array DictEntry} {Q : VK} {h' : Heap} {tk P c : Nat} {acc : Array Value} (I : Inv X pins σ H s) (z : ks.length ≤ sizeLine) (sz : es.size = ks.length) (ent : Paired (fun (e : DictEntry) (k : Pw)=>∃ p,e.key = .ref p ∧ H p = some (.tup (k.map V.int))) es.toList ks)
    (it : ItemsOf (fun i v=>∃ h : i < es.size,v = es[i].key) acc es.size) (kp : ∀ b o,s.heap.get? b = some o → h'.get? b = some o) (hP : s.heap.objs.size ≤ P) (hS : h'.get? P = some { cls:=.type "list",dict:=none,data:=.seq acc c,slots:=#[] })
    (q : ∀ (l : Addr) (vs : List V),H l = none → Its H vs ks → Q (.ref l) (upd H l (.lst vs))) : EP X pins σ Q (.ref P) { s with heap:=h',toks:=tk }:=by
  have e : acc.toList = es.toList.map (·.key):=by
    refine List.ext_getElem? fun i=>?_
    rw [Array.getElem?_toList,List.getElem?_map,Array.getElem?_toList]
    by_cases c : i < es.size
    · have ci : i < acc.size:=by rw [it.1]; exact c
      obtain ⟨_,e⟩:=it.2 i acc[i] (Array.getElem?_eq_getElem ci)
      rw [Array.getElem?_eq_getElem ci,Array.getElem?_eq_getElem c,e]
      rfl
    · rw [Array.getElem?_eq_none (by rw [it.1]; omega),Array.getElem?_eq_none (by omega)]
      rfl
  have key : ∀ {l : List DictEntry} {d : List Pw},Paired (fun (e : DictEntry) (k : Pw)=>∃ p,e.key = .ref p ∧ H p = some (.tup (k.map V.int))) l d → Both (List Int) H (l.map (·.key)) d:=by
    intro l d h
    induction h with
    | nil=>exact .nil
    | cons r t ih =>
      obtain ⟨p,e1,e2⟩:=r
      exact .cons ⟨.ref p,e1,row_is e2⟩ ih
  have hb:=key ent
  rw [← e] at hb
  obtain ⟨vs,v1,v2⟩:=of_both hb
  have lz : vs.length ≤ sizeLine:=by rw [v1.length,e,List.length_map,Array.length_toList,sz]; exact z
  exact ⟨.ref P,upd H P (.lst vs),I.laid (a:=P) (o:=.lst vs) (t':=tk) kp hP ⟨lz,acc.toList,c,v1,by rw [hS]⟩,rfl,q P vs (I.hok.fresh hP) v2⟩
end
end L2.Ev
namespace L2.Rw
open PySem PySem.W PySem.Calls PyProof.Rows PySem.Spec
open PySem.SeqAt
open PySem.AutoSeq1 (wpAny_loadPart')
open PySem.MeetsSeq PySem.MeetsSeq2 PySem.MeetsSeq3
section
variable {prog : Program} {w : World} {A : Around} {E : Value → Shared → Prop}
theorem collect_tup {s : Shared} {r : Addr} {its : List Value} {Q : List Value → Shared → Prop} (ht : IsTup s.heap r its.toArray) (hz : its.length ≤ sizeLine)
    (hQ : ∀ h',(∀ b o,s.heap.get? b = some o → h'.get? b = some o) → s.heap.objs.size ≤ h'.objs.size → Q its { s with heap:=h' }) : wpAny (model prog w) A (collect (.ref r)) Q E s:=by
  obtain ⟨⟨cls,dd,data,sl⟩,ho,hc,n,hd⟩:=ht
  simp only at hc hd
  subst hc hd
  obtain ⟨hp,g,d,tk,os⟩:=s
  simp only at ho hQ
  unfold collect
  refine wpAny_bind (wpAny_runValue (codeAny_builtin PySem.F.entry_proto_collect ?_))
  rw [Around.under_plainId PySem.F.plain_proto_collect _]
  show wpAny _ A.in1 (newList [] >>= fun l=>again (.builtin "list.__iadd__" ⟨[l,.ref r],[]⟩)) _ _ _
  refine wpAny_bind (wpAny_newObj_type (wpAny_pure ⟨plainId_quiet PySem.F.plain_list_iadd _,codeAny_builtin PySem.F.entry_list_iadd ?_⟩))
  rw [Around.under_plainId PySem.F.plain_list_iadd _]
  have hN : (hp.push { cls:=.type "list",data:=.seq ([] : List Value).toArray }).get? hp.objs.size = some { cls:=.type "list",dict:=none,data:=.seq ([] : List Value).toArray 0,slots:=#[] }:=Heap.get?_push_size _ rfl
  have hT : (hp.push { cls:=.type "list",data:=.seq ([] : List Value).toArray }).get? r = some { cls:=.type "tuple",dict:=dd,data:=.seq its.toArray n,slots:=sl }:=Heap.get?_push_of_some _ ho
  have ne : hp.objs.size ≠ r:=Nat.ne_of_gt (Heap.lt_size ho)
  unfold Builtin.«list.__iadd__»
  wp_walk using wpAny_loadPart' hT,wpAny_loadPart' hN
  have hl : (Obj.mapSeq (fun x=>x ++ its.toArray) { cls:=.type "list",data:=.seq (#[] : Array Value) }).data.pastItsLine = none:=by
    simp [Obj.mapSeq,Data.pastItsLine,sizeOk]
    omega
  rw [hl]
  refine wpAny_pure ?_
  refine wpAny_pure ?_
  have hU:=Heap.get?_update_self (h:=hp.push { cls:=.type "list",data:=.seq (#[] : Array Value) }) (f:=Obj.mapSeq fun x=>x ++ its.toArray) hN rfl
  refine wpAny_bind (wpAny_load hU ?_)
  show wpAny _ _ (pure (#[] ++ its.toArray).toList) _ _ _
  rw [Array.empty_append,List.toList_toArray]
  refine wpAny_pure (hQ _ (fun b o e=>?_) ?_)
  · exact (Heap.get?_update_other _ _ (Nat.ne_of_gt (Heap.lt_size e))).trans (Heap.get?_push_of_some _ e)
  · rw [Heap.size_update,size_push']; exact Nat.le_succ _
end
end L2.Rw
namespace L2.Ev
open PySem PySem.Spec PyProof.Rows
open L2.Ts L2.Pl L2.Rw
theorem lin_int : Lin (fun a b : Int=>decide (a < b)) where
  irr:=fun a=>decide_eq_false (by omega)
  trans:=fun {a b c} h q=>decide_eq_true (by have:=of_decide_eq_true h; have:=of_decide_eq_true q; omega)
  tri:=fun {a b} h q=>by have:=of_decide_eq_false h; have:=of_decide_eq_false q; omega
section
variable {X : Cx}
def rkI (l : List Int) (p : Keyed) : Nat:=match p.1 with
  | .int x _=>rank (fun a b : Int=>decide (a < b)) l x
  | _=>0
abbrev IntV (u : Value) (n : Int) : Prop:=∃ t,u = .int n t
theorem intv_of {its : List Value} {ns : List Int} (h : IntsAre its ns) : Paired IntV its ns:=by
  induction h with
  | nil=>exact .nil
  | cons a t _ ih=>exact .cons ⟨t,rfl⟩ ih
theorem of_intv {its : List Value} {ns : List Int} (h : Paired IntV its ns) : IntsAre its ns ∧ Vals (ns.map V.int) its:=by
  induction h with
  | nil=>exact ⟨.nil,.nil⟩
  | cons r _ ih =>
    obtain ⟨t,rfl⟩:=r
    exact ⟨.cons _ t ih.1,.cons ⟨t,rfl⟩ ih.2⟩
theorem intv_sorted {l0 : List Int} {out : List Value} {m : List Int} (h : Paired IntV out m) (hm : ∀ a ∈ m,a ∈ l0) (o : out.Pairwise fun x y=>rkI l0 (y,y) ≤ rkI l0 (x,x)) : m.Pairwise fun a b=>b ≤ a:=by
  induction h with
  | nil=>exact .nil
  | @cons x a xs m r t ih =>
    obtain ⟨o1,o2⟩:=List.pairwise_cons.mp o
    refine List.pairwise_cons.mpr ⟨fun b hb=>?_,ih (fun b hb=>hm b (List.mem_cons_of_mem _ hb)) o2⟩
    obtain ⟨y,hy,e⟩ : ∃ y ∈ xs,IntV y b:=by
      have key : ∀ {xs : List Value} {m : List Int},Paired IntV xs m → b ∈ m → ∃ y ∈ xs,IntV y b:=by
        intro xs m t
        induction t with
        | nil=>intro z; cases z
        | cons r t ih =>
          intro z
          rcases List.mem_cons.mp z with e | z
          · subst e; exact ⟨_,List.mem_cons_self ..,r⟩
          · obtain ⟨y,hy,f⟩:=ih z
            exact ⟨y,List.mem_cons_of_mem _ hy,f⟩
      exact key t hb
    obtain ⟨t1,rfl⟩:=r
    obtain ⟨t2,rfl⟩:=e
    have q : rank (fun a b : Int=>decide (a < b)) l0 b ≤ rank (fun a b : Int=>decide (a < b)) l0 a:=o1 _ hy
    refine Int.not_lt.mp fun z=>?_
    have:=(rank_lt lin_int (hm a (List.mem_cons_self ..))).mp (decide_eq_true z)
    omega
theorem kind_ints : ∀ {its : List Value} {ns : List Int},IntsAre its ns → 2 ≤ its.length → keyKind' its.toArray = pure oneType'
  | [],_,_,h=>absurd h (by decide)
  | [_],_,_,h=>absurd h (by show ¬ 2 ≤ 1; decide)
  | _ :: _ :: _,_,ii,_=>keyKind_ints ii
def tSortI (K : PySem.W.Frag) (ta : TA) : TE:=fun σ H Q=>ta σ H fun vs H1=>∃ (a : Addr) (ns : List Int),vs = [.ref a] ∧ SqT K H1 a (ns.map V.int) ∧
  ∀ (p : Addr) (l : List Int),H1 p = none → l.Perm ns → (l.Pairwise fun a b=>b ≤ a) → Q (.ref p) (upd H1 p (.lst (l.map V.int)))
theorem pe_sortedI {e : Expr} {ta : TA} {p pos kp kq : Pos} {j} (hc : X.calm = true) (hu : X.A.units + 8 < cLine) (hg : Gl X "sorted") (hm : X.mg "sorted" = none) (ha : PA X [e] ta)
    (h1 : backTo pos (starEach [e] X.env) = (false,eval e X.env) :: backTo pos (starEach [] X.env):=by rfl) (h2 : (backTo pos (starEach [e] X.env)).any (·.1) = false:=by rfl) :
    PE X (.Call (.Name "sorted" p) [e] [⟨some (Str.ofString "reverse"),.Constant (.bool true) j kq,kp⟩] pos) (tSortI X.K ta):=by
  intro pins s σ H Q I h
  refine wpAny_Call_Name_kw (ld_blt I hg hm boot_sorted ?_)
  refine callWith_kw (thn (ha pos pins s σ H _ I h) fun us s1 ⟨vs,H1,I1,r1,q1⟩=>?_) h1 h2
  obtain ⟨a,ns,rfl,hq,q⟩:=q1
  obtain ⟨u,rfl,ru⟩:=vals1 r1
  cases ru
  refine kws_cons (Constant_bool (kws_nil ?_))
  obtain ⟨its,rv,ht,hz⟩:=I1.tuple hq
  have ii : IntsAre its ns:=intsAre_of rv
  have pi:=intv_of ii
  have lz : its.length ≤ sizeLine:=by rw [← rv.length]; exact hz
  refine sorted_down (κ:=oneType') (M:=fun p=>∃ x ∈ ns,∃ t,p.1 = .int x t) (rk:=rkI ns) lz (fun v hv=>?_) (fun Q' q'=>collect_tup ht lz fun h' kp sz=>q' h' s1.toks kp sz) (fun h' tk kp l2=>⟨fun Q' E' q'=>?_,fun x y hx hy Q' q'=>?_⟩) fun h' tk P c out pm o kp hP hg=>?_
  · obtain ⟨n,hn,t,e⟩:=Paired.mem pi hv
    exact ⟨n,hn,t,e⟩
  · rw [kind_ints ii l2]
    exact wpAny_pure q'
  · obtain ⟨n,hn,t,e⟩:=hx
    obtain ⟨m,hm',t',e'⟩:=hy
    rw [e,e',keyLt'_oneType]
    refine oneLt_int ?_
    have z : decide (rkI ns x < rkI ns y) = decide (n < m):=by
      unfold rkI
      rw [e,e']
      have:=rank_lt lin_int hn (b:=m)
      by_cases c : n < m
      · rw [decide_eq_true c,decide_eq_true (this.mp (decide_eq_true c))]
      · rw [decide_eq_false c,decide_eq_false fun z=>c (of_decide_eq_true (this.mpr z))]
    rw [z] at q'
    exact q'
  · obtain ⟨m,p1,bm⟩:=Paired.perm pm pi
    obtain ⟨i2,v2⟩:=of_intv bm
    have lo : (m.map V.int).length ≤ sizeLine:=by rw [v2.length,pm.length_eq]; exact lz
    exact ⟨.ref P,upd H1 P (.lst (m.map V.int)),I1.laid (a:=P) (o:=.lst (m.map V.int)) (t':=tk) kp hP ⟨lo,out,c,v2,hg⟩,rfl,q P m (I1.hok.fresh hP) p1 (intv_sorted bm (fun a ha=>p1.mem_iff.mp ha) o)⟩
theorem call_listB (hc : X.calm = true) : CallR X (.type "list") (fun xs H Q=>∃ (a : Addr) (ks : List Pw),xs = [.ref a] ∧ H a = some (.dT (toB ks)) ∧ ∀ (l : Addr) (vs : List V),H l = none → Its H vs ks → Q (.ref l) (upd H l (.lst vs))):=by
  intro pins s σ H xs us Q I r h
  obtain ⟨a,ks,rfl,hd,q⟩:=h
  obtain ⟨u,rfl,rx⟩:=vals1 r
  cases rx
  obtain ⟨z,lo,es,ep,raw,sz,ent⟩:=dtb_raw I (.inl hd)
  exact PySem.W.kdl_call (src_raw lo) (I.ok.hd hc) raw (by rw [sz]; exact z) fun h' tk acc c kp hS it=>keys_end I z sz ent it kp (Nat.le_refl _) hS q
end
end L2.Ev
set_option maxHeartbeats 4000000
namespace L2.Ev
open PySem PySem.Spec PyProof.Rows
open PySem.W PySem.Calls Builtin Builtin.ObjectAttr
def isRefV : Value → Bool
  | .ref _=>true
  | _=>false
def valTail (l : List Value) : Bool:=l.dropWhile isRefV == [.type "ValueError",.type "Exception",.type "BaseException",.type "object"]
theorem refuse_drop (self : Value) (what : Str) : ∀ l : List Value,refuseLoop self what l = refuseLoop self what (l.dropWhile isRefV)
  | []=>rfl
  | v :: r=>by
    rw [List.dropWhile_cons]
    cases h : isRefV v with
    | true =>
      obtain ⟨c,rfl⟩ : ∃ c,v = .ref c:=by
        cases v <;> first | exact ⟨_,rfl⟩ | cases h
      rw [if_pos rfl,refuseLoop_ref]
      exact refuse_drop self what r
    | false=>rw [if_neg (by decide)]
theorem refuse_val (self : Value) {l : List Value} (h : valTail l = true) : refuseLoop self "__setattr__" l = pure ():=by
  rw [refuse_drop,show l.dropWhile isRefV = _ from beq_iff_eq.mp h]
  exact PySem.F.store_ValueError.passes self
section
variable {prog : Program} {w : World} {K : Frag} {x C : Addr} {s : Shared} {A : Around} {R : Result → Shared → Prop}
theorem exc_open {ox : Obj} {od : Option Obj} {cd : ClassData} {name : Str} {tk : Tok} {v : Value} (X : K.In s.heap) (I : InstAt s.heap x ox C od) (k : ExcK K C) (hc : clsIn K C = some cd) (hv : valTail cd.mro = true) (hf : findIn K (.ref C) name = some none)
    (q : wpAny (model prog w) A.in1 (storeInOwnDict (.ref x) (.ref C) (.str name tk) name v false) (fun fin s'=>match fin with | .done f=>R (.ok f) s' | .again c'=>c'.quiet = true ∧ codeAny (model prog w) A c' R s') (fun e s'=>R (.error e) s') s) :
    codeAny (model prog w) A (.call (.builtin "object.__setattr__") ⟨[.ref x,.str name tk,v],[]⟩) R s:=by
  have SF:=PySem.F.store_object
  have isO : Looks (model prog w) s.heap (isInstance (.ref x) (.type "object")) true:=I.type.andThen (looks_mroIn X k.obj)
  have mro : Looks (model prog w) s.heap (mroOf (.ref C)) cd.mro:=(looks_clsIn X hc).andThen .now
  refine codeAny_call_builtin SF.slot.plain SF.entry (@check_slot (model prog w) _ _ s "object.__setattr__" "object" "__setattr__" (.ref x) [.str name tk,v] [] _ SF.kind SF.split isO (SF.args (.ref x) (.str name tk) v) ?_)
  rw [osa_eq,refuse_eq]
  refine wpAny_bind (wpAny_bind (I.type.here (wpAny_bind (mro.here ?_))))
  rw [refuse_val _ hv]
  refine wpAny_pure (wpAny_bind (I.type.here (wpAny_bind ((looks_findIn X hf).here (wpAny_bind (wpAny_pure ?_))))))
  exact q
theorem own_first {cd : ClassData} {name : Str} {tk : Tok} {v : Value} {b : Bool} {oda : Data} {osl : Array (Option Value)} {Q : Fin → Shared → Prop} {E : Value → Shared → Prop} (X : K.In s.heap) (hc : clsIn K C = some cd) (hd : cd.hasDict = true) (hx : s.heap.get? x = some { cls:=.ref C,dict:=none,data:=oda,slots:=osl }) (hnc : ∀ c,oda ≠ .cls c)
    (q : ∀ h' tk',h'.get? x = some { cls:=.ref C,dict:=some s.heap.objs.size,data:=oda,slots:=osl } → h'.Ns1 s.heap.objs.size (fun y=>if y = name then some v else none) → (∀ b o,b ≠ x → s.heap.get? b = some o → h'.get? b = some o) → Q (.done (.ret .none)) { s with heap:=h',toks:=tk' }) :
    wpAny (model prog w) A (storeInOwnDict (.ref x) (.ref C) (.str name tk) name v b) Q E s:=by
  refine wpAny_bind (wpAny_pure (wpAny_bind (wpAny_bind (wpAny_loadPart hx (wpAny_bind ((looks_clsIn X hc).here ?_))))))
  rw [hd,if_neg (by decide)]
  show wpAny _ _ (if (!true || !typeHasDict (.ref C)) = true then pure none else _) _ _ _
  rw [if_neg (by show ¬ ((!true || !true) = true); decide)]
  have new : wpAny (model prog w) A (alloc { cls:=.type "dict",data:=.dict #[] } >>= fun d=>update x (fun o=>{ o with dict:=some d }) >>= fun _=>dictMade (.ref C) x d) (fun a s'=>wpAny (model prog w) A (match a with | some d=>storeInDict d (.str name tk) name v | none=>noDictFor (.ref x) (.ref C) name b) Q E s') E s:=by
    have hx1:=Heap.get?_push_of_some { cls:=.type "dict",data:=.dict #[] } hx
    have nx : x ≠ s.heap.objs.size:=Nat.ne_of_lt (Heap.lt_size hx)
    refine wpAny_bind (wpAny_alloc' (wpAny_bind (wpAny_update' hx1 (wpAny_pure ?_))))
    have self' : ((s.heap.push { cls:=.type "dict",data:=.dict #[] }).update x fun o=>{ o with dict:=some s.heap.objs.size }).get? x = some { cls:=.ref C,dict:=some s.heap.objs.size,data:=oda,slots:=osl }:=by
      refine Heap.get?_update_self _ hx1 ?_
      have hfr:=(Heap.get?_some_iff.mp hx).2
      cases oda <;> first | rfl | exact hfr
    have dct : ((s.heap.push { cls:=.type "dict",data:=.dict #[] }).update x fun o=>{ o with dict:=some s.heap.objs.size }).get? s.heap.objs.size = some { cls:=.type "dict",data:=.dict #[] }:=(Heap.get?_update_ne _ _ _ _ nx.symm).trans (Heap.get?_push_at rfl rfl)
    have emp : ((s.heap.push { cls:=.type "dict",data:=.dict #[] }).update x fun o=>{ o with dict:=some s.heap.objs.size }).Ns s.heap.objs.size (fun _=>none):=⟨_,#[],_,dct,rfl,fun e he=>absurd he (by simp),fun _=>rfl⟩
    have oth : ∀ b o,b ≠ x → s.heap.get? b = some o → ((s.heap.push { cls:=.type "dict",data:=.dict #[] }).update x fun o=>{ o with dict:=some s.heap.objs.size }).get? b = some o:=fun b o hb e=>(Heap.get?_update_ne _ _ _ _ hb).trans (Heap.get?_push_of_some _ e)
    show wpAny _ _ (storeInDict s.heap.objs.size (.str name tk) name v) _ _ _
    unfold storeInDict newKeyGuard
    refine wpAny_bind (wpAny_pure (wpAny_bind (wpAny_nsSet1 (Heap.Ns1.of_empty emp) fun h' hn2 hs2=>?_)))
    obtain ⟨oD,esD,epD,hoD,hdD,hcD⟩:=hn2.count (PySem.Within.cons name v PySem.Within.nil)
    refine wpAny_bind (wpAny_lookBehind hoD (by rw [hdD]; exact pastItsLine_dict (Nat.le_trans hcD (by rw [List.length_cons,List.length_nil,sizeLine_eq]; omega))) ?_)
    exact wpAny_pure (q h' _ ((hs2.2 _ nx).trans self') hn2 fun b' o' h1 h2=>(hs2.2 _ (Nat.ne_of_lt (Heap.lt_size h2))).trans (oth b' o' h1 h2))
  cases oda <;> first | exact new | exact absurd rfl (hnc _)
theorem own_more {cd : ClassData} {mA : Str → Option Value} {ns : List Str} {name : Str} {tk : Tok} {v : Value} {b : Bool} {ob : Obj} {dx : Addr} {Q : Fin → Shared → Prop} {E : Value → Shared → Prop} (X : K.In s.heap) (hc : clsIn K C = some cd) (hd : cd.hasDict = true) (hx : s.heap.get? x = some ob) (hcl : ob.cls = .ref C) (hdx : ob.dict = some dx) (hns : s.heap.Ns1 dx mA) (wi : Within mA ns) (hz : ns.length < 1000)
    (q : ∀ h' tk',h'.Ns1 dx (fun y=>if y = name then some v else mA y) → (∀ b o,b ≠ dx → s.heap.get? b = some o → h'.get? b = some o) → Q (.done (.ret .none)) { s with heap:=h',toks:=tk' }) :
    wpAny (model prog w) A (storeInOwnDict (.ref x) (.ref C) (.str name tk) name v b) Q E s:=by
  obtain ⟨oc,odi,oda,osl⟩:=ob
  dsimp only at hcl hdx
  subst hcl hdx
  have line : ns.length + 1 ≤ sizeLine:=by rw [sizeLine_eq]; omega
  refine wpAny_bind (wpAny_pure (wpAny_bind (wpAny_bind (wpAny_loadPart hx (wpAny_bind ((looks_clsIn X hc).here ?_))))))
  rw [hd]
  refine wpAny_pure (a:=some dx) (wpAny_bind (wpAny_pure (wpAny_bind ?_)))
  refine wpAny_nsSet1 hns fun h' hn2 hs2=>?_
  obtain ⟨oD,esD,epD,hoD,hdD,hcD⟩:=hn2.count (PySem.Within.cons name v wi)
  refine wpAny_bind (wpAny_lookBehind hoD (by rw [hdD]; exact pastItsLine_dict (Nat.le_trans hcD (by rw [List.length_cons]; omega))) ?_)
  exact wpAny_pure (q _ _ hn2 fun b' o' h1 h2=>(hs2.2 _ h1).trans h2)
end
def xI (a C : Addr) (d : Option Addr) : HO:=.ext fun h=>∃ ob vs,h.get? a = some ob ∧ ob.cls = .ref C ∧ ob.data = .fields vs ∧ vs.size = 6 ∧ vs[1]? = some .none ∧ ob.dict = d
def xD (d : Addr) (fs : List (Str × V)) : HO:=.ext fun h=>∃ mA,h.Ns1 d mA ∧ (∀ f,RelO (fs.lookup f) (mA f)) ∧ Within mA (fs.map (·.1))
theorem ns1_keep {h h' : Heap} {d : Addr} {mA : Str → Option Value} (n : h.Ns1 d mA) (k : ∀ o,h.get? d = some o → h'.get? d = some o) : h'.Ns1 d mA:=by
  obtain ⟨o,es,ep,e,r⟩:=n
  exact ⟨o,es,ep,k _ e,r⟩
section
variable {P : Program} {w : World} {H : Hp} {h : Heap} {a C d : Addr}
theorem xI_ok {od : Option Addr} {ob : Obj} {vs : Array Value} (e : h.get? a = some ob) (c : ob.cls = .ref C) (f : ob.data = .fields vs) (z : vs.size = 6) (n : vs[1]? = some .none) (dd : ob.dict = od) : ObjOk P w H h a (xI a C od) :=
  ⟨⟨ob,vs,e,c,f,z,n,dd⟩,⟨ob,e⟩,fun h1 h2 ⟨ob,vs,e,r⟩ k=>⟨ob,vs,k _ e,r⟩⟩
theorem xD_ok {fs : List (Str × V)} {mA : Str → Option Value} (n : h.Ns1 d mA) (r : ∀ f,RelO (fs.lookup f) (mA f)) (wi : Within mA (fs.map (·.1))) : ObjOk P w H h d (xD d fs) :=
  ⟨⟨mA,n,r,wi⟩,let ⟨o,_,_,e,_⟩:=n; ⟨o,e⟩,fun h1 h2 ⟨mA,n,r⟩ k=>⟨mA,ns1_keep n k,r⟩⟩
end
def excSt (K : Frag) (C : Addr) : Bool:=(clsIn K C).any fun cd=>valTail cd.mro && cd.hasDict
structure ExcS (K : Frag) (C : Addr) : Prop where
  k : ExcK K C
  st : excSt K C = true
  sa : findIn K (.ref C) "__setattr__" = some (some (.builtin "object.__setattr__"))
theorem ExcS.cls {K : Frag} {C : Addr} (c : ExcS K C) : ∃ cd,clsIn K C = some cd ∧ valTail cd.mro = true ∧ cd.hasDict = true:=by
  have z:=c.st
  unfold excSt at z
  cases e : clsIn K C with
  | none=>rw [e] at z; cases z
  | some cd =>
    rw [e] at z
    have z : (valTail cd.mro && cd.hasDict) = true:=z
    rw [Bool.and_eq_true] at z
    exact ⟨cd,rfl,z.1,z.2⟩
section
variable {X : Cx} {pins : List (Addr × Obj)} {σ : St} {H : Hp} {s : Shared} {a C dx : Addr} {f : Str} {y : V} {u : Value} {A : Around} {E : Value → Shared → Prop} {Q : Unit → Shared → Prop}
theorem x_first (I : Inv X pins σ H s) (e : H a = some (xI a C none)) (c : ExcS X.K C) (n : findIn X.K (.ref C) f = some none) (ry : RelV y u)
    (q : ∀ (d : Addr) (s' : Shared),H d = none → d ≠ a → Inv X pins σ (upd (upd H d (xD d [(f,y)])) a (xI a C (some d))) s' → Q () s') : wpAny (model X.prog X.w) A (setAttr (.ref a) f u) Q E s:=by
  obtain ⟨⟨ob,vs,hx,hc,hdt,z6,h1,hdn⟩,_⟩:=(show ObjOk X.prog X.w H s.heap a (xI a C none) from I.hok a _ e)
  obtain ⟨oc,od,oda,osl⟩:=ob
  dsimp only at hc hdt hdn
  subst hc hdt hdn
  obtain ⟨cd,hcd,hv,hd⟩:=c.cls
  have J : InstAt s.heap a ⟨.ref C,none,.fields vs,osl⟩ C none:=⟨hx,rfl,rfl,True.intro⟩
  refine set_plain I.kIn J c.sa (exc_open (s:={ s with toks:=s.toks + 1 }) I.kIn J c.k hcd hv n (own_first (s:={ s with toks:=s.toks + 1 }) I.kIn hcd hd hx (by intro _ z; cases z) fun h' tk' g1 g2 g3=>?_))
  have na : s.heap.objs.size ≠ a:=Nat.ne_of_gt (Heap.lt_size hx)
  have fr:=I.hok.fresh (Nat.le_refl s.heap.objs.size)
  have b1 : (h'.update a fun _=>⟨.ref C,none,.fields vs,osl⟩).get? a = some ⟨.ref C,none,.fields vs,osl⟩:=Heap.get?_update_self _ g1 rfl
  have b2 : ∀ b,b ≠ a → (h'.update a fun _=>⟨.ref C,none,.fields vs,osl⟩).get? b = h'.get? b:=fun b hb=>Heap.get?_update_ne _ _ _ _ hb
  have I1 : Inv X pins σ (upd H s.heap.objs.size (xD s.heap.objs.size [(f,y)])) { s with heap:=h'.update a fun _=>⟨.ref C,none,.fields vs,osl⟩,toks:=tk' }:=by
    refine I.laid (fun b o z=>?_) (Nat.le_refl _) (xD_ok (ns1_keep g2 fun o z=>(b2 _ na).trans z) (fun g=>?_) (PySem.Within.cons f u PySem.Within.nil))
    · by_cases hb : b = a
      · subst hb
        rw [b1,← z,hx]
      · rw [b2 b hb]
        exact g3 b o hb z
    · show RelO ([(f,y)].lookup g) (if g = f then some u else none)
      rw [List.lookup_cons]
      by_cases hg : g = f
      · rw [if_pos hg,hg]
        simp
        exact ry
      · rw [if_neg hg,show (g == f) = false from beq_eq_false_iff_ne.mpr hg]
        exact True.intro
  have I2:=I1.write (x:=a) (e:=a) (o:=xI a C (some s.heap.objs.size)) (h':=h') (t':=tk') (by rw [upd_ne (Ne.symm na),e]; exact True.intro) (.inl rfl) (fun b o hb z=>by rw [← b2 b hb]; exact z) ⟨_,g1⟩ (xI_ok g1 rfl rfl z6 h1 rfl)
  exact q _ _ fr na I2
theorem x_more {fs : List (Str × V)} (I : Inv X pins σ H s) (e : H a = some (xI a C (some dx))) (ed : H dx = some (xD dx fs)) (c : ExcS X.K C) (n : findIn X.K (.ref C) f = some none) (hl : fs.length < 900) (ry : RelV y u)
    (q : ∀ s' : Shared,Inv X pins σ (upd H dx (xD dx (putF f y fs))) s' → Q () s') : wpAny (model X.prog X.w) A (setAttr (.ref a) f u) Q E s:=by
  obtain ⟨⟨ob,vs,hx,hc,hdt,z6,h1,hdn⟩,_⟩:=(show ObjOk X.prog X.w H s.heap a (xI a C (some dx)) from I.hok a _ e)
  obtain ⟨⟨mA,hns,rl,wi⟩,⟨od,hod⟩,_⟩:=(show ObjOk X.prog X.w H s.heap dx (xD dx fs) from I.hok dx _ ed)
  obtain ⟨cd,hcd,hv,hd⟩:=c.cls
  have J : InstAt s.heap a ob C (some od):=⟨hx,hc,by unfold notCls; rw [hdt],by rw [hdn]; exact hod⟩
  refine set_plain I.kIn J c.sa (exc_open (s:={ s with toks:=s.toks + 1 }) I.kIn J c.k hcd hv n (own_more (s:={ s with toks:=s.toks + 1 }) I.kIn hcd hd hx hc hdn hns wi (by rw [List.length_map]; omega) fun h' tk' g1 g2=>?_))
  refine q _ (I.write (x:=dx) (e:=dx) (t':=tk') (by rw [ed]; exact True.intro) (.inl rfl) g2 (let ⟨o,_,_,z,_⟩:=g1; ⟨o,z⟩) (xD_ok g1 (fun g=>?_) fun g hg=>?_))
  · show RelO ((putF f y fs).lookup g) (if g = f then some u else mA g)
    rw [lookup_putF]
    by_cases z : g = f
    · rw [if_pos z,if_pos z]; exact ry
    · rw [if_neg z,if_neg z]; exact rl g
  · by_cases z : g = f
    · rw [z]; exact (keys_putF f y fs).1
    · refine (keys_putF f y fs).2 g (wi g fun z'=>hg ?_)
      show (if g = f then some u else mA g) = none
      rw [if_neg z]; exact z'
def sFldX (K : Frag) (ta tv : TE) (f : Str) : TS:=fun D σ H=>tv σ H fun y H1=>ta σ H1 fun x H2=>∃ a C,x = .ref a ∧ ExcS K C ∧ findIn K (.ref C) f = some none ∧
  ((H2 a = some (xI a C none) ∧ ∀ d,H2 d = none → d ≠ a → D.nx σ (upd (upd H2 d (xD d [(f,y)])) a (xI a C (some d)))) ∨
   (∃ d fs,H2 a = some (xI a C (some d)) ∧ H2 d = some (xD d fs) ∧ fs.length < 900 ∧ D.nx σ (upd H2 d (xD d (putF f y fs)))))
theorem ps_fldX {o value : Expr} {ta tv : TE} {pos pos' : Pos} (ha : PE X o ta) (hv : PE X value tv) (hs : swapsWith value (some (.Attribute o f pos')) pos.line X.env = pure false) : PS X (.Assign [.Attribute o f pos'] value pos) (sFldX X.K ta tv f):=by
  intro pins s σ H D I h
  refine plainObj_wpAny_Assign_Attribute (thn (hv pins s σ H _ I h) fun u s1 ⟨y,H1,I1,ry,q⟩=>thn (ha pins s1 σ H1 _ I1 q) fun ov s2 ⟨x,H2,I2,rx,a,C,ex,c,n,q2⟩=>?_) hs
  subst ex
  obtain rfl : ov = Value.ref a:=rx
  rcases q2 with ⟨e,q2⟩ | ⟨d,fs,e,ed,l,q2⟩
  · exact x_first I2 e c n ry fun d s3 h1 h2 I3=>⟨σ,_,I3,q2 d h1 h2⟩
  · exact x_more I2 e ed c n l ry fun s3 I3=>⟨σ,_,I3,q2⟩
end
end L2.Ev
set_option maxHeartbeats 4000000
namespace L2.Ev
open PySem PySem.Spec PyProof.Rows
open PySem.W PySem.Calls Builtin Builtin.ObjectAttr
theorem ns_some {K : Frag} {h : Heap} {N : Addr} {mN : Str → Option Value} {n : Str} {v : Value} (X : K.In h) (G : h.Ns N mN) (e : nsIn K N n = some (some v)) : mN n = some v:=by
  obtain ⟨o,es,ep,ho,hd,_,hf⟩:=G
  unfold nsIn at e
  split at e
  · rename_i q
    rw [X _ _ q] at ho
    cases ho
    cases hd
    split at e
    · rename_i he
      cases e
      rw [← hf]
      unfold nsFind findBy
      rw [← Array.find?_toList,he]
      rfl
    · split at e <;> cases e
  · cases e
def excJ (K : Frag) (C fI : Addr) : Bool:=match K.lookup C with
  | some ⟨.type "type",_,.cls cd,sl⟩=>cd.mro.head? == some (.ref C) && tailIn K [.type "ValueError",.type "Exception",.type "BaseException",.type "object"] cd.mro.tail && nsOkIn K cd.ns && nsIn K cd.ns "__init__" == some (some (.ref fI)) && !cd.hasDel && (sl.toList.length == 6 && sl.toList[4]? == some (some (.builtin "ValueError.__new__")))
  | _=>false
abbrev vTail : List Value:=[.type "ValueError",.type "Exception",.type "BaseException",.type "object"]
theorem exc_of_J {K : Frag} {h : Heap} {C fI : Addr} (X : K.In h) (q : excJ K C fI = true) :
    ∃ bm N nm qn bs hdct sn sub ab col dd k0 k1 k2 k3 k5 mN,h.get? C = some (excClassObj nm qn C N bs bm hdct sn sub ab col dd k0 k1 k2 k3 k5 "ValueError.__new__") ∧ h.Ns N mN ∧ mN "__init__" = some (.ref fI) ∧ OwnTail h vTail bm:=by
  unfold excJ at q
  split at q
  · rename_i dd cd sl ho
    simp only [Bool.and_eq_true,beq_iff_eq,Bool.not_eq_true'] at q
    obtain ⟨⟨⟨⟨⟨hm,ht⟩,hok⟩,hni⟩,hdel⟩,hl,h4⟩:=q
    obtain ⟨nm,bs,mro,ns,qn,hd,sn,sub,ab,col,del⟩:=cd
    dsimp only at hm ht hok hni hdel
    subst hdel
    obtain ⟨bm,rfl⟩ : ∃ bm,mro = .ref C :: bm:=by
      cases mro with
      | nil=>cases hm
      | cons v r=>cases hm; exact ⟨r,rfl⟩
    obtain ⟨l⟩:=sl
    obtain ⟨k0,k1,k2,k3,k4,k5,rfl⟩ : ∃ k0 k1 k2 k3 k4 k5,l = [k0,k1,k2,k3,k4,k5]:=by
      match l,hl with
      | [k0,k1,k2,k3,k4,k5],_=>exact ⟨_,_,_,_,_,_,rfl⟩
    have h4 : k4 = some (.builtin "ValueError.__new__"):=by simpa using h4
    subst h4
    exact ⟨bm,ns,nm,qn,bs,hd,sn,sub,ab,col,dd,k0,k1,k2,k3,k5,_,X _ _ ho,.of_isNs (isNs_of_in X hok),ns_some X (.of_isNs (isNs_of_in X hok)) hni,tail_of_in X ht⟩
  · cases q
section
variable {X : Cx} {pins : List (Addr × Obj)} {σ : St} {H : Hp} {s : Shared} {a C dx : Addr} {u : Value} {A : Around} {E : Value → Shared → Prop} {Q : Value → Shared → Prop}
theorem vinit_ok {od : Option Addr} {fI : Addr} (I : Inv X pins σ H s) (e : H a = some (xI a C od)) (hv : excJ X.K C fI = true)
    (q : ∀ s' : Shared,Inv X pins σ H s' → Q .none s') : wpAny (model X.prog X.w) A (call (.builtin "ValueError.__init__") [.ref a,u]) Q E s:=by
  have F:=PySem.F.excBase_ValueError
  obtain ⟨⟨ob,vs,hx,hc,hdt,z6,h1,hdn⟩,_⟩:=(show ObjOk X.prog X.w H s.heap a (xI a C od) from I.hok a _ e)
  obtain ⟨bm,N,nm,qn,bs,hdct,sn,sub,ab,col,dd,k0,k1,k2,k3,k5,mN,hC,hN,hni,T⟩:=exc_of_J I.kIn hv
  refine wpAny_call (codeAny_call_builtin F.init.plain F.initEntry ?_)
  have chk : ∀ {B : Around} {E' : Value → Shared → Prop} {R : Unit → Shared → Prop},R () s → wpAny (model X.prog X.w) B (checkBuiltinCall "ValueError.__init__" ⟨[.ref a,u],[]⟩) R E' s:=by
    intro B E' R r
    obtain ⟨hh,g,d,t,os⟩:=s
    exact wpAny_check_init_subT F T hC hx hc r
  refine chk ?_
  have hx1:=Heap.get?_push_of_some { cls:=.type "tuple",data:=.seq #[u] } hx
  have l0 : 0 < vs.size:=by omega
  show wpAny _ _ (newTuple [u] >>= fun t=>BaseException.bexcPut (.ref a) 0 t >>= fun _=>ret .none) _ _ _
  refine wpAny_bind (wpAny_newTuple ?_)
  refine wpAny_bind ?_
  unfold BaseException.bexcPut
  refine wpAny_bind (wpAny_field hx1 hdt (x:=vs[0]) (Array.getElem?_eq_getElem l0) ?_)
  refine wpAny_bind (wpAny_setField hx1 hdt l0 ?_)
  have go : ∀ {B : Around} {F' : Value → Shared → Prop} {R : Unit → Shared → Prop} {s' : Shared},R () s' → wpAny (model X.prog X.w) B (match vs[0] with | .ref _=>letGo [vs[0]] [] | _=>pure ()) R F' s':=by
    intro B F' R s' r
    cases vs[0] <;> first | exact wpAny_pure r | exact wpAny_letGo r
  have dd:=Obj.data_mapFields hdt (·.setIfInBounds 0 (Value.ref s.heap.objs.size))
  have sx:=Heap.get?_update_self (Obj.mapFields (·.setIfInBounds 0 (Value.ref s.heap.objs.size))) hx1 (Obj.isFreed_of_fields dd)
  refine go (wpAny_pure (q _ ?_))
  have W:=I.write (x:=a) (e:=a) (o:=xI a C od) (h':=(s.heap.push { cls:=.type "tuple",data:=.seq #[u] }).update a (Obj.mapFields (·.setIfInBounds 0 (Value.ref s.heap.objs.size)))) (t':=s.toks) (by rw [e]; exact True.intro) (.inl rfl) (fun b o hb z=>(Heap.get?_update_ne _ _ _ _ hb).trans (Heap.get?_push_of_some _ z)) ⟨_,sx⟩ (xI_ok sx ((Obj.cls_mapFields _ _).trans hc) dd (by rw [Array.size_setIfInBounds]; exact z6) (by rw [Array.getElem?_setIfInBounds_ne (by decide)]; exact h1) (by rw [← hdn]; obtain ⟨_,_,_,_⟩:=ob; cases hdt; rfl))
  have eq : upd H a (xI a C od) = H:=by
    funext b
    unfold upd
    split
    · rename_i z
      rw [z,e]
    · rfl
  rw [eq] at W
  exact W
end
section
variable {X : Cx}
structure BInit (K : Frag) (C0 : Addr) : Prop where
  sp : specialIn K (.ref C0) "__getattribute__" = some (some (.builtin "type.__getattribute__"))
  rd : readsIn K C0 (.type "type") = true
  fd : findCls K (.ref C0) (.type "type") "__init__" = some (.val (.builtin "ValueError.__init__"))
def tBI (K : Frag) (ta : TA) : TE:=fun σ H Q=>ta σ H fun vs H1=>∃ a C od fI v2,vs = [.ref a,v2] ∧ H1 a = some (xI a C od) ∧ excJ K C fI = true ∧ Q .non H1
theorem pe_binit {x : Str} {C0 : Addr} {np apos pos : Pos} {e1 e2 : Expr} {ta : TA} {pl : Sem Bool} (hg : Gl X x) (hm : X.mg x = some (.ref C0)) (b : BInit X.K C0) (ha : PA X [e1,e2] ta) (hdb : (x == ("__debug__" : Str)) = false:=by decide)
    (he : starEach [e1,e2] X.env = (false,eval e1 X.env) :: starEach [e2] X.env:=by rfl) (hpl : (backTo pos (starEach [e1,e2] X.env)).any (·.1) = false:=by rfl)
    (ht : eval (.Call (.Attribute (.Name x np) "__init__" apos) [e1,e2] [] pos) X.env = (do
      let ov ← eval (.Name x np) X.env
      standAt apos.atName
      let (f,first) ← holding [ov] (getMethod ov "__init__" pl)
      callWith pos f first (backTo pos (starEach [e1,e2] X.env)) (backToKw pos (keywordEach [] X.env))):=by rfl) :
    PE X (.Call (.Attribute (.Name x np) "__init__" apos) [e1,e2] [] pos) (tBI X.K ta):=by
  intro pins s σ H Q I h
  refine PySem.W.methodCall_KW (pl:=pl) (ld_glob I hg hm ?_ hdb) ht
  refine method_cls I.kIn b.sp (cls_value I.kIn b.rd b.fd (by decide) ?_)
  have I1:=I.tok (s.toks + 1)
  show wpAny _ _ (callWith pos (.builtin "ValueError.__init__") [] (backTo pos (starEach [e1,e2] X.env)) []) _ _ _
  refine Calls.callWith_builtin hpl ?_
  have h0:=ha pos pins _ σ H _ I1 h
  rw [he] at h0 ⊢
  refine Calls.evalArgs_plain (wpAny_mono h0 (fun us s2 ⟨vs,H1,I2,r,q⟩=>?_) fun _ _ y=>y)
  obtain ⟨a,C,od,fI,v2,rfl,ea,j,q⟩:=q
  obtain ⟨u1,u2,rfl,r1,r2⟩:=vals2 r
  obtain rfl : u1 = Value.ref a:=r1
  exact vinit_ok I2 ea j fun s3 I3=>⟨.non,H1,I3,rfl,q⟩
end
end L2.Ev
set_option maxHeartbeats 4000000
namespace L2.Ev
open PySem PySem.Spec PyProof.Rows
open PySem.W PySem.Calls Builtin Builtin.ObjectAttr
abbrev xNew (C : Addr) (h : Heap) (us : List Value) : Heap:=(h.push { cls:=.type "tuple",data:=.seq us.toArray }).push { cls:=.ref C,data:=.fields #[.ref h.objs.size,.none,.none,.none,.bool false,.none] }
theorem xNew_old {C : Addr} {h : Heap} {us : List Value} (b : Addr) (o : Obj) (e : h.get? b = some o) : (xNew C h us).get? b = some o:=Heap.get?_push_of_some _ (Heap.get?_push_of_some _ e)
theorem xNew_at {C : Addr} {h : Heap} {us : List Value} : (xNew C h us).get? (h.objs.size + 1) = some { cls:=.ref C,data:=.fields #[.ref h.objs.size,.none,.none,.none,.bool false,.none] }:=by heap_get
section
variable {X : Cx} {pins : List (Addr × Obj)} {σ : St} {H : Hp} {s : Shared} {C fI : Addr}
theorem xNew_inv {us : List Value} (I : Inv X pins σ H s) : Inv X pins σ (upd H (s.heap.objs.size + 1) (xI (s.heap.objs.size + 1) C none)) { s with heap:=xNew C s.heap us } :=
  I.laid (t':=s.toks) xNew_old (Nat.le_succ _) (xI_ok xNew_at rfl rfl rfl rfl rfl)
theorem typeCallX {us : List Value} {A : Around} {E : Value → Shared → Prop} {Q : Fin → Shared → Prop} (K1 : X.K.In s.heap) (j : excJ X.K C fI = true) (fn : isFn X.K (.ref fI) = true) (hl : us.length ≤ sizeLine)
    (q : wpAny (model X.prog X.w) A (call (.ref fI) (.ref (s.heap.objs.size + 1) :: us)) (fun r s'=>r = .none ∧ Q (.done (.ret (.ref (s.heap.objs.size + 1)))) s') E { s with heap:=xNew C s.heap us }) :
    wpAny (model X.prog X.w) A (Builtin.«type.__call__» ⟨.ref C :: us,[]⟩) Q E s:=by
  have F:=PySem.F.excBase_ValueError
  obtain ⟨bm,N,nm,qn,bs,hdct,sn,sub,ab,col,dd,k0,k1,k2,k3,k5,mN,hC,hN,hi,T⟩:=exc_of_J K1 j
  have K2 : X.K.In (xNew C s.heap us):=fun a o e=>xNew_old _ _ (K1 a o e)
  have hC1:=xNew_old (C:=C) (us:=us) _ _ hC
  have hN1 : (xNew C s.heap us).Ns N mN:=hN.keeps xNew_old
  have T1:=T.keeps (h':=xNew C s.heap us) xNew_old
  have hcC : (Value.ref C :: bm).contains (.ref C) = true:=by simp
  obtain ⟨h,g,d,t,os⟩:=s
  repeat (first | with_reducible refine wpAny_loadPart_at hC ?_ | with_reducible refine wpAny_madeBy_exc hC ?_ | wp_step)
  refine codeAny_call_builtin_code (Code.quiet_builtin _ F.quiet) (wpAny_check_new_subT F T hC ?_)
  refine codeAny_exc_new_subT F T hC ?_ hl
  show wpAny _ _ _ _ _ _
  have hget : (xNew C h us).get? (h.objs.size + 1) = some _:=xNew_at
  unfold isInstance
  repeat (first | with_reducible refine wpAny_loadPart_at hget ?_ | (with_reducible refine wpAny_isSubtype_exc hC1 ?_; rw [hcC]) | wp_step)
  show wpAny _ _ (typeLookup (.ref C) _) _ _ _
  refine wpAny_typeLookup_tail hC1 hN1 T1 F.mroIs F.init.lookup ?_
  rw [hi]
  refine wpAny_holding (wpAny_bind ((bind_fn K2 _ (beq_iff_eq.mp fn)).here ?_))
  refine wpAny_bind (wpAny_mono q (fun r s' hr=>?_) fun _ _ x=>x)
  obtain ⟨rfl,hQ⟩:=hr
  wp_walk
  exact hQ
theorem callX {us : List Value} {A : Around} {E : Value → Shared → Prop} {Q : Value → Shared → Prop} (K1 : X.K.In s.heap) (j : excJ X.K C fI = true) (fn : isFn X.K (.ref fI) = true) (hl : us.length ≤ sizeLine)
    (q : wpAny (model X.prog X.w) (A.under (.builtin "type.__call__" ⟨.ref C :: us,[]⟩)) (call (.ref fI) (.ref (s.heap.objs.size + 1) :: us)) (fun r s'=>r = .none ∧ Q (.ref (s.heap.objs.size + 1)) s') E { s with heap:=xNew C s.heap us }) :
    wpAny (model X.prog X.w) A (call (.ref C) us) Q E s:=by
  obtain ⟨bm,N,nm,qn,bs,hdct,sn,sub,ab,col,dd,k0,k1,k2,k3,k5,mN,hC,hN,hi,T⟩:=exc_of_J K1 j
  have f1:=tc_lookup
  have f2:=tc_bind (.ref C)
  have hT : s.TypeIs (.ref C) "type" := ⟨_,hC,rfl⟩
  obtain ⟨h,g,d,t,os⟩:=s
  refine wpAny_call (codeAny_of_tree ?_)
  show wpAny _ _ (callAny (.ref C) _) _ _ _
  repeat (any_goals (first | assumption | with_reducible refine wpAny_loadPart_at hC ?_ | wp_step))
  refine ⟨rfl,?_⟩
  exact codeAny_call_builtin_at (Code.quiet_builtin _ (by decide +kernel)) entry_typeCall (wpAny_check_type_call_sub hC (typeCallX (s:=⟨h,g,d,t,os⟩) K1 j fn hl q))
variable {CX : CXT} {k : Nat} {fd : FuncData} {ps : List Str} {sp : Sp} {dvs : List V} {ds : List Value} {E : XK} {Q : VK} {us : List Value} {vs : List V}
end
end L2.Ev
set_option maxHeartbeats 4000000
namespace L2.Ev
open PySem PySem.Spec PyProof.Rows
open PySem.W PySem.Calls
section
variable {M : Model} {A : Around} {E : Value → Shared → Prop} {s : Shared} {env : Env}
variable {nm q : Str} {C N : Addr} {bs bm : List Value} {hdct : Bool} {sn : List Str} {sub : List Value} {ab : Bool} {col : Option Bool} {dd : Option Addr} {k0 k1 k2 k3 k5 : Option Value} {newId : String}
theorem raise_obj {x : Sem Value} {Q : Flow → Shared → Prop} (hbase : bm.contains (.type "BaseException") = true) (hh : A.handled = none)
    (h : wpAny M A x (fun v s1=>∃ e ob vs,v = .ref e ∧ s1.heap.get? C = some (excClassObj nm q C N bs bm hdct sn sub ab col dd k0 k1 k2 k3 k5 newId) ∧ s1.heap.get? e = some ob ∧ ob.cls = .ref C ∧ ob.data = .fields vs ∧ vs[1]? = some .none ∧ E (.ref e) s1) E s) :
    wpAny M A (raiseStmt env (some x) none) Q E s:=by
  have hcB : (Value.ref C :: bm).contains (.type "BaseException") = true:=by rw [List.contains_cons,hbase,Bool.or_true]
  unfold raiseStmt
  refine wpAny_bind (wpAny_mono h (fun v s1 h1=>?_) fun _ _ x=>x)
  obtain ⟨e,ob,vs,rfl,hC,he,hc,hd,h1,hE⟩:=h1
  obtain ⟨oc,od,oda,osl⟩:=ob
  dsimp only at hc hd
  subst hc hd
  obtain ⟨hp,g,d,tk,os⟩:=s1
  repeat (first | with_reducible refine wpAny_field he rfl h1 ?_ | with_reducible refine wpAny_loadPart_at he ?_ | with_reducible refine wpAny_loadPart_at hC ?_ | (with_reducible refine wpAny_isSubtype_exc hC ?_; rw [hcB]) | wp_step)
  exact wpAny_raiseNew_none hh hE
end
def drp (x : Addr) (H : Hp) : Hp:=fun b=>if b = x then none else H b
theorem drp_ne {x b : Addr} {H : Hp} (h : b ≠ x) : drp x H b = H b:=if_neg h
theorem drp_self {x : Addr} {H : Hp} : drp x H x = none:=if_pos rfl
section
variable {P : Program} {w : World} {K : PySem.W.Frag} {mg : Str → Option Value} {base : Heap} {N : List Str} {qual : Str} {scope : Scope} {f : Addr} {cdv : Value} {A : Around} {outer : List Env} {s0 : Shared} {H0 : Hp} {E : XK}
def RsX (X : Cx) (E : XK) : Prop:=∀ (pins : List (Addr × Obj)) (σ : St) (H : Hp) (s : Shared) (e C : Addr) (od : Option Addr),Inv X pins σ H s → X.s₀.heap.objs.size ≤ e → H e = some (xI e C od) → E (.ref C) od (drp e H) → X.xe (.ref e) s
theorem rsX : RsX (cxOf (CX1 P w) P w K mg base N qual scope f cdv A outer s0 H0 E) E:=by
  intro pins σ H s e C od I hsz He hE
  generalize hX : cxOf (CX1 P w) P w K mg base N qual scope f cdv A outer s0 H0 E = X at I hsz
  obtain ⟨⟨ob,vs,hx,hc,hdt,z6,h1,hdn⟩,_⟩:=(show ObjOk X.prog X.w H s.heap e (xI e C od) from I.hok e _ He)
  have notf : ∀ b,b ∈ frs X.stack → b ≠ e:=fun b hb z=>by have:=I.stkFree b hb; rw [z,He] at this; cases this
  have trk : ∀ b u,H b = some u → b ≠ e → ∀ o,s.heap.get? b = some o → (hideAll s.heap (e :: frs X.stack)).get? b = some o:=fun b u hb ne o q =>
    hideAll_get _ q fun z=>by
      rcases List.mem_cons.mp z with z | z
      · exact ne z
      · rw [I.stkFree b z] at hb; cases hb
  have st0 : (hideAll s.heap (e :: frs X.stack)).StaysIn s.heap:=fun b o q=>of_hideAll _ q
  have fr : ∀ b o,s.heap.get? b = some o → b ∈ frs X.stack → ∀ vs,o.data ≠ .fields vs:=fun b o e hb=>by
    obtain ⟨_,o',e',d⟩:=I.stack.mem hb
    rw [e] at e'; cases e'
    exact d
  have ne_own : ∀ c b u,H b = some u → b ≠ e → (c = b ∨ H c = some (.own b)) → c ≠ e ∧ ∃ u',H c = some u':=fun c b u hb ne hc=>by
    rcases hc with z | z
    · subst z; exact ⟨ne,u,hb⟩
    · refine ⟨fun q=>?_,_,z⟩
      rw [q,He] at z; cases z
  have go : ∀ h',(hideAll s.heap (e :: frs X.stack)).StaysIn h' → s.heap.UpToSlots h' → Inv X pins σ (drp e H) { s with heap:=h' }:=fun h' st sm=>by
    refine I.call' (s':={ s with heap:=h' }) (ch:=[e]) rfl ⟨fun b o q n hb hn=>?_,fun b o q n hb hn=>?_,fun b o q n hn=>?_,fun b o q hn=>?_,fun b xs q=>?_,fun b o u q=>?_,fun b ps q=>?_⟩ (fun b u q=>?_) I.bare fun b hb=>?_
    · exact st _ _ (hideAll_get _ q fun z=>by
        rcases List.mem_cons.mp z with z | z
        · exact hn (by rw [z]; exact .head _)
        · exact hb z)
    · exact sm b o q (fr b o q hb)
    · rw [drp_ne fun z=>hn (by rw [z]; exact .head _)]; exact n
    · by_cases hb : b ∈ frs X.stack
      · obtain ⟨sl,z⟩:=sm b o q (fr b o q hb)
        exact ⟨_,z⟩
      · exact ⟨o,st _ _ (hideAll_get _ q fun z=>by
          rcases List.mem_cons.mp z with z | z
          · exact hn (by rw [z]; exact .head _)
          · exact hb z)⟩
    · rw [drp_ne fun z=>by rw [z,He] at q; cases q]; exact q
    · rw [drp_ne fun z=>by rw [z,He] at q; cases q]; exact q
    · exact ⟨#[],by rw [drp_ne fun z=>by rw [z,He] at q; cases q]; simpa using q⟩
    · by_cases ne : b = e
      · rw [ne,drp_self] at q; cases q
      rw [drp_ne ne] at q
      refine (I.hok b u q).stay (fun c v hc z=>?_) (fun c z=>?_) fun c xs z=>?_
      · obtain ⟨n1,u',n2⟩:=ne_own c b u q ne hc
        exact st _ _ (trk c u' n2 n1 v z)
      · rw [drp_ne (ne_own c b u q ne (.inr z)).1]; exact z
      · rw [drp_ne fun y=>by rw [y,He] at z; cases z]; exact z
    · obtain rfl : b = e:=by simpa using hb
      refine ⟨.inr hsz,fun z=>?_,fun x c q z=>?_,fun p hp z=>?_⟩
      · have:=I.free; rw [← z,He] at this; cases this
      · have:=I.freeC x c q; rw [z,He] at this; cases this
      · have:=(I.pin p hp).2.1; rw [z,He] at this; cases this
  have hin : ∀ env ∈ X.stack,∀ b,env.frame = some b → b ∈ e :: frs X.stack:=fun env he b hb=>.tail _ (List.mem_filterMap.mpr ⟨env,he,hb⟩)
  have ff:=funFrames_hide I.stack hin
  have hen : (hideAll s.heap (e :: frs X.stack)).get? e = none:=hideAll_none _ (.head _)
  subst hX
  show wpAny _ _ (leaving _ (.ref e)) _ _ _
  refine firstD (outer:=outer) (a0:=vs[0]'(by omega)) I.ok.frames ff rfl hx st0 hen hdt h1 (Array.getElem?_eq_getElem (by omega)) fun h' fl sm=>?_
  have I':=go h' fl.1.1 sm
  rw [hc,hdn] at fl
  refine ⟨e,.ref C,_,od,drp e H,rfl,⟨I'.os,I'.bare,I'.base,I'.hok,_,⟨fun b o q hb=>?_,fun b u q=>?_⟩,fl⟩,hE⟩
  · obtain ⟨o1,e1⟩:=I.base.there b o q (by show b ∉ ([] : List Addr); simp)
    have lt:=Heap.lt_size q
    have hL : b ∉ e :: frs (cxOf (CX1 P w) P w K mg base N qual scope f cdv A outer s0 H0 E).stack:=fun z=>by
      rcases List.mem_cons.mp z with z | z
      · exact absurd (Nat.lt_of_lt_of_le lt hsz) (by rw [z]; exact Nat.lt_irrefl _)
      · rcases List.mem_cons.mp (I.stkSub b z) with z | z
        · rw [z] at lt
          exact absurd (Nat.lt_of_lt_of_le lt I.ok.above) (Nat.lt_irrefl _)
        · exact hb z
    refine ⟨o1,hideAll_get _ e1 hL,fun n=>?_⟩
    have k:=I.base.keep b o q n hb (by show b ∉ ([] : List Addr); simp)
    rw [e1] at k
    cases k
    rfl
  · by_cases ne : b = e
    · rw [ne,drp_self] at q; cases q
    rw [drp_ne ne] at q
    obtain ⟨o,z⟩:=ObjOk.got (I.hok b u q)
    exact ⟨o,trk b u q ne o z⟩
end
end L2.Ev
set_option maxHeartbeats 4000000
namespace L2.Ev
open PySem PySem.Spec PyProof.Rows
open PySem.W PySem.Calls
structure MkX (K : Frag) (C fI : Addr) : Prop where
  j : excJ K C fI = true
  fn : isFn K (.ref fI) = true
  kp : keepIn K (.ref C) = true
section
variable {X : Cx} {pins : List (Addr × Obj)} {σ : St} {H : Hp} {s : Shared} {C fI : Addr}
variable {CX : CXT} {k : Nat} {fd : FuncData} {ps : List Str} {sp : Sp} {dvs : List V} {ds : List Value} {E Ei : XK} {Q : Addr → Hp → Prop} {us : List Value} {vs : List V}
theorem run_mkY (M : MkX X.K C fI) (F : FnOk X.prog X.w X.K X.mg X.base CX k fI fd ps sp) (hr : Room (k + 1) X.A) (hb : Binds X.K fd ps ds) (hd : Vals dvs ds) (hx : Passes CX X Ei) (I : Inv X pins σ H s) (r : Vals vs us) (hl : us.length ≤ sizeLine)
    (h : ∀ x,H x = none → sp (.ref x :: (vs ++ dvs)) (upd H x (xI x C none)) (fun v H2=>v = .non ∧ Q x H2) Ei) :
    wpAny (model X.prog X.w) X.A (call (.ref C) us) (fun u s'=>∃ x H',u = .ref x ∧ X.s₀.heap.objs.size ≤ x ∧ Inv X pins σ H' s' ∧ Q x H') X.xe s:=by
  have hq:=h (s.heap.objs.size + 1) (I.hok.fresh (Nat.le_succ _))
  have I2:=xNew_inv (C:=C) (us:=us) I
  have r2 : Vals (V.ref (s.heap.objs.size + 1) :: (vs ++ dvs)) (Value.ref (s.heap.objs.size + 1) :: (us ++ ds)):=.cons rfl (r.append hd)
  have hl2 : (Value.ref (s.heap.objs.size + 1) :: us ++ ds).length = ps.length:=by
    have e:=r2.length
    rw [F.len _ _ _ _ hq] at e
    exact e.symm
  refine callX I.kIn M.j M.fn hl (wpAny_call (codeAny_mono (F.run _ X.stack _ _ ⟨Value.ref (s.heap.objs.size + 1) :: us,[]⟩ (Value.ref (s.heap.objs.size + 1) :: (us ++ ds)) _ _ Ei (hr.make C us [])
    (I2.env0.make C us []) (hb _ (Value.ref (s.heap.objs.size + 1) :: us) I2.kIn hl2) r2 hq) fun r s' hq'=>?_))
  cases r with
  | error e=>exact hx pins σ _ _ e s' I2 hq'
  | ok fl =>
    cases fl with
    | ret u =>
      obtain ⟨v,H',I3,rv,ev,q3⟩:=I2.after hq'
      subst ev
      exact ⟨rv,_,H',rfl,Nat.le_trans I.sz (Nat.le_succ _),I3,q3⟩
    | next=>exact False.elim hq'
    | brk=>exact False.elim hq'
    | cont=>exact False.elim hq'
def tRaiseX (C : Addr) (sp : Sp) (dvs : List V) (E Ei : XK) (ta : TA) : TS:=fun _ σ H=>ta σ H fun vs H1=>vs.length ≤ sizeLine ∧ ∀ x,H1 x = none → sp (.ref x :: (vs ++ dvs)) (upd H1 x (xI x C none)) (fun v H2=>v = .non ∧ ∃ od,H2 x = some (xI x C od) ∧ E (.ref C) od (drp x H2)) Ei
theorem ps_raiseX {x : Str} {np cpos pos : Pos} {e : Expr} {es : List Expr} {ta : TA} (hc : X.calm = true) (R : RsX X E) (M : MkX X.K C fI) (F : FnOk X.prog X.w X.K X.mg X.base CX k fI fd ps sp) (hr : Room (k + 1) X.A) (hb : Binds X.K fd ps ds) (hd : Vals dvs ds) (hx : Passes CX X Ei) (hg : Gl X x) (hm : X.mg x = some (.ref C))
    (ha : PA X (e :: es) ta) (hdb : (x == ("__debug__" : Str)) = false:=by decide) (he : starEach (e :: es) X.env = (false,eval e X.env) :: starEach es X.env:=by rfl) (hpl : (backTo cpos (starEach es X.env)).any (·.1) = false:=by rfl) :
    PS X (.Raise (some (.Call (.Name x np) (e :: es) [] cpos)) none pos) (tRaiseX C sp dvs E Ei ta):=by
  intro pins s σ H D I h
  obtain ⟨bm,N,nm,qn,bs,hdct,sn,sub,ab,col,dd,k0,k1,k2,k3,k5,mN,hC,hN,hni,T⟩:=exc_of_J I.ok.mod.kin M.j
  rw [arm_exec_Raise]
  refine wpAny_bind (wpAny_standAt (raise_obj (C:=C) (nm:=nm) (q:=qn) (N:=N) (bs:=bs) (bm:=bm) (hdct:=hdct) (sn:=sn) (sub:=sub) (ab:=ab) (col:=col) (dd:=dd) (k0:=k0) (k1:=k1) (k2:=k2) (k3:=k3) (k5:=k5) (newId := "ValueError.__new__") (T.hasType PySem.F.excBase_ValueError.hasBase) (I.ok.hd hc) ?_))
  refine wpAny_bind (wpAny_Call_Name_kw (ld_glob I hg hm ?_ hdb))
  refine PySem.W.callWith_K (h₀:=X.base) I.ok.mod.kin M.kp (thn (ha cpos pins s σ H _ I h) fun us s1 ⟨vs,H1,I1,r,hl,q⟩=>⟨I1.kIn,?_⟩) he hpl
  refine wpAny_mono (run_mkY (Q:=fun x H2=>∃ od,H2 x = some (xI x C od) ∧ E (.ref C) od (drp x H2)) (us:=us) M F hr hb hd hx I1 r (by rw [← r.length]; exact hl) q) (fun u s2 ⟨a,H2,eu,hsz,I2,od,q1,q2⟩=>?_) fun _ _ y=>y
  subst eu
  obtain ⟨⟨ob,ws,hx',hcl,hdt,_,h1,_⟩,_⟩:=(show ObjOk X.prog X.w H2 s2.heap a (xI a C od) from I2.hok a _ q1)
  exact wpAny_bind (wpAny_standAt (wpAny_pure ⟨a,ob,ws,rfl,I2.bk _ _ hC,hx',hcl,hdt,h1,R pins σ H2 s2 a C od I2 hsz q1 q2⟩))
end
end L2.Ev
set_option maxHeartbeats 1000000
namespace L2.Ev
open PySem PySem.Spec PyProof.Rows
open PySem.W PySem.Calls Builtin Builtin.ObjectAttr
section
variable {prog : Program} {w : World} {A : Around} {E : Value → Shared → Prop} {K : Frag} {h : Heap} {g : Array GenState} {d : Drawn} {t : Nat} {os : OsState} {a C : Addr} {o : Obj} {od : Option Obj} {name : Str} {v : Value}
theorem own_entryE {tk : Tok} {Q : Fin → Shared → Prop} (X : K.In h) (I : InstAt h a o C od) (hf : findObj K C od name = some (.value v)) (hq : Q (.done (.ret v)) ⟨h,g,d,t,os⟩) :
    wpAny (model prog w) A (Builtin.«object.__getattribute__» ⟨[.ref a,.str name tk],[]⟩) Q E ⟨h,g,d,t,os⟩:=by
  have L0:=I.type (M:=model prog w)
  have L1:=looks_find (M:=model prog w) X I hf
  refine wpAny_bind (wpAny_pure (wpAny_bind (wpAny_pure (wpAny_bind (L0.at (wpAny_bind (L1.at ?_)))))))
  exact wpAny_pure hq
theorem own_callE {tk : Tok} {R : Result → Shared → Prop} (X : K.In h) (I : InstAt h a o C od) (hb : mroIn K C (.type "BaseException") = some true) (hf : findObj K C od name = some (.value v)) (hq : R (.ok (.ret v)) ⟨h,g,d,t,os⟩) :
    codeAny (model prog w) A (.call (.builtin "BaseException.__getattribute__") ⟨[.ref a,.str name tk],[]⟩) R ⟨h,g,d,t,os⟩ :=
  codeAny_call_builtin F.excAttr_ValueError.ga.plain F.entry_bexc_ga (check_gaE I.type (looks_mroIn X hb) (own_entryE X I hf hq))
theorem own_byE {tk : Tok} {b b2 : Bool} {Q : Value → Shared → Prop} (X : K.In h) (I : InstAt h a o C od) (k : ExcK K C) (hf : findObj K C od name = some (.value v)) (hv : handedIn v = true) (hq : Q v ⟨h,g,d,t,os⟩) :
    wpAny (model prog w) A (getAttrBy (.ref a) (.str name tk) b b2) Q E ⟨h,g,d,t,os⟩:=by
  have f3:=F.excAttr_ValueError.ga.bind (.ref a)
  have hx:=I.at_
  have hc:=I.cls
  have hx2 : (Value.builtin "BaseException.__getattribute__" == Value.builtin "object.__getattribute__") = false:=by decide +kernel
  have hx1 : (onTheHeap (Value.ref C) && Value.builtin "BaseException.__getattribute__" == Value.builtin "object.__getattribute__") = false:=by rw [hx2]; rfl
  have L1:=looks_findIn (M:=model prog w) X k.ga
  have L2:=looks_findIn (M:=model prog w) X k.gt
  have hh:=handedOut_of hv
  cases b <;> cases b2 <;>
  (repeat (any_goals (first | assumption | (with_reducible refine wpAny_loadPart_at hx ?_; rw [hc]) | with_reducible refine L1.at ?_ | with_reducible refine L2.at ?_ | wp_step))
   refine own_callE X I k.exc hf ?_
   repeat (any_goals (first | assumption | wp_step)))
end
section
variable {X : Cx} {pins : List (Addr × Obj)} {σ : St} {H : Hp} {s : Shared} {a C dx : Addr} {f : Str} {y : V} {A : Around} {E : Value → Shared → Prop} {Q : Value → Shared → Prop} {fs : List (Str × V)} {b : Bool}
theorem getx_ok (I : Inv X pins σ H s) (e : H a = some (xE a (.ref C) (some dx))) (ed : H dx = some (xD dx fs)) (k : ExcK X.K C) (hh : hasDictIn X.K C = true) (n : findIn X.K (.ref C) f = some none) (l : fs.lookup f = some y)
    (h : ∀ u s',Inv X pins σ H s' → RelV y u → Q u s') : wpAny (model X.prog X.w) A (getAttr (.ref a) f b) Q E s:=by
  obtain ⟨⟨ob,vs,hx,hc,hdt,hdn⟩,_⟩:=(show ObjOk X.prog X.w H s.heap a (xE a (.ref C) (some dx)) from I.hok a _ e)
  obtain ⟨⟨mA,hns,rl,wi⟩,_⟩:=(show ObjOk X.prog X.w H s.heap dx (xD dx fs) from I.hok dx _ ed)
  obtain ⟨od,ho,hl⟩:=lookIn_ns hns
  obtain ⟨u,hu,ru⟩:=RelO.some_of (v:=y) (o:=mA f) (by rw [← l]; exact rl f)
  have J : InstAt s.heap a ob C (some od):=⟨hx,hc,by unfold notCls; rw [hdt],by rw [hdn]; exact ho⟩
  have hf : findObj X.K C (some od) f = some (.value u):=findObj_own hh n rfl (by rw [hl,hu])
  have I1:=I.tok (s.toks + 1)
  have K1:=I.kIn
  obtain ⟨hp,g,d,t,os⟩:=s
  unfold getAttr
  exact wpAny_bind (wpAny_mkText (own_byE K1 J k hf (handed_of ru) (h u _ I1 ru)))
def tFldX (K : Frag) (ta : TE) (f : Str) : TE:=fun σ H Q=>ta σ H fun x H1=>∃ a C d fs v,x = .ref a ∧ H1 a = some (xE a (.ref C) (some d)) ∧ H1 d = some (xD d fs) ∧ ExcK K C ∧ hasDictIn K C = true ∧ findIn K (.ref C) f = some none ∧ fs.lookup f = some v ∧ Q v H1
theorem pe_fldX {e : Expr} {ta : TE} {pos : Pos} (he : PE X e ta) (hb : attributeBase e f X.env (eval e X.env) = eval e X.env) : PE X (.Attribute e f pos) (tFldX X.K ta f):=by
  intro pins s σ H Q I h
  refine attr_of hb (thn (he pins s σ H _ I h) fun u s1 ⟨x,H1,I1,rx,a,C,d,fs,v,ex,ea,ed,k,hh,n,l,q⟩=>?_)
  subst ex
  obtain rfl : u = Value.ref a:=rx
  exact getx_ok I1 ea ed k hh n l fun u' s2 I2 ru=>⟨v,H1,I2,ru,q⟩
end
end L2.Ev
set_option maxHeartbeats 4000000
namespace L2.K23
open PySem
open L2.Pl L2.Ev
def top (i : Nat) : Stmt:=PySem.Challenge.pw_evenform_k23_whole_tellings_by_exchange.main.body.getD i (.Pass ⟨0,0,0,0⟩)
abbrev sUneven : Stmt:=top 13
abbrev sRc : Stmt:=top 18
abbrev sGath : Stmt:=top 19
abbrev sLess : Stmt:=top 20
abbrev sSwap : Stmt:=top 21
abbrev sExch : Stmt:=top 22
abbrev sRbr : Stmt:=top 24
abbrev sUn : Stmt:=top 26
abbrev sRu : Stmt:=top 27
abbrev sOr : Stmt:=top 28
abbrev sEx : Stmt:=top 29
abbrev sFa : Stmt:=top 30
abbrev sRf : Stmt:=top 31
abbrev sBe : Stmt:=top 32
abbrev sWhole : Stmt:=top 34
abbrev sFlags : Stmt:=top 35
abbrev sOnly : Stmt:=top 36
abbrev sCell : Stmt:=top 37
abbrev sThing : Stmt:=top 38
abbrev sNum : Stmt:=top 39
abbrev sPow : Stmt:=top 40
abbrev sSum : Stmt:=top 41
abbrev sSame : Stmt:=top 42
abbrev sLord : Stmt:=top 43
abbrev sRow : Stmt:=top 44
abbrev sTold : Stmt:=top 45
abbrev sEven : Stmt:=top 46
abbrev sDue : Stmt:=top 47
abbrev sAsked : Stmt:=top 48
abbrev sUv : Stmt:=top 49
abbrev sGood : Stmt:=top 50
abbrev sLaw : Stmt:=top 51
section
variable {P : Program} {w : World} {K : PySem.W.Frag} {mg : Str → Option Value} {base : Heap} {f g : Addr} {fd gd : FuncData}
theorem pass10 {X : Cx} {P : Program} {w : World} : Passes (CX1 P w) X E0:=fun _ _ _ _ _ _ _ ⟨_,_,_,_,_,_,_,z⟩=>False.elim z
theorem ps_exc {P : Program} {w : World} {K : PySem.W.Frag} {mg : Str → Option Value} {base : Heap} {N : List Str} {qual : Str} {scope : Scope} {f : Addr} {cdv : Value} {A : Around} {outer : List Env} {s0 : Shared} {H0 : Hp} {E : XK} : PassesOwn (model P w) (A.deeper (PyProof.Rows.envOfC qual scope s0.heap.objs.size f cdv)) (PyProof.Rows.envOfC qual scope s0.heap.objs.size f cdv) (cxOf (CX1 P w) P w K mg base N qual scope f cdv A outer s0 H0 E).xe:=PassesOwn.leaving
structure HasX (P : Program) (w : World) (K : PySem.W.Frag) (mg : Str → Option Value) (base : Heap) (k : Nat) (x : Str) (ps : List Str) (sp : Sp) where
  f : Addr
  fd : FuncData
  ok : FnOk P w K mg base (CX1 P w) k f fd ps sp
  bd : Binds K fd ps []
  kp : PySem.W.keepIn K (.ref f) = true
  at_ : mg x = some (.ref f)
abbrev bmV : List Value:=[.type "ValueError",.type "Exception",.type "BaseException",.type "object"]
structure Exc1 (K : PySem.W.Frag) (mg : Str → Option Value) (x : Str) (C : Addr) : Prop where
  at_ : mg x = some (.ref C)
  is : PySem.W.excIn K C bmV "ValueError.__new__" = true
theorem cls_of_exc {K : PySem.W.Frag} {C : Addr} {bm : List Value} {n : String} (q : PySem.W.excIn K C bm n = true) : (PySem.W.clsIn K C).isSome = true:=by
  unfold PySem.W.excIn at q
  split at q
  · rename_i dd cd sl ho
    unfold PySem.W.clsIn
    rw [ho]
    rfl
  · cases q
theorem kit_cls_of {K : PySem.W.Frag} {C C0 : Addr} {b : Bool} (h : PySem.W.kitOne K (.ref C) (.ref C0) = some b) (ne : C ≠ C0) : PySem.W.kitCls K (.ref C) (.ref C0) = some b:=by
  unfold PySem.W.kitOne at h
  rwa [if_neg (fun z=>ne (by injection (beq_iff_eq.mp z)))] at h
theorem kit_cls_ty {K : PySem.W.Frag} {C : Addr} {T : String} {b : Bool} (h : PySem.W.kitOne K (.ref C) (.type T) = some b) : PySem.W.kitCls K (.ref C) (.type T) = some b:=by
  unfold PySem.W.kitOne at h
  rwa [if_neg (fun z=>by cases beq_iff_eq.mp z)] at h
abbrev nRc : List Str:=["many"]
theorem scRc : FnScope nRc ["many"] (defScope sRc):=⟨rfl,rfl,rfl,by decide +kernel,rfl,by decide +kernel,by decide +kernel⟩
def spCntX (cBC : Addr) : Sp:=fun vs H Q E=>∃ n : Int,vs = [.int n] ∧ (1 ≤ n ∧ n ≤ 4 → Q .non H) ∧ (¬ (1 ≤ n ∧ n ≤ 4) → E (.ref cBC) none H)
theorem ok_cntx {tk : Tok} {cBC : Addr} (F : Fun K "refuse_bad_count" "refuse_bad_count" sRc f fd) (gU : mg "MOST_UNKNOWNS" = some (.int 4 tk)) (X1 : Exc1 K mg "BadCount" cBC) : FnOk P w K mg base (CX1 P w) 2 f fd ["many"] (spCntX cBC):=by
  refine Fun.okx F scRc (fun vs H Q E h=>?_) (fun cdv A outer s H vs Q E hr h=>?_)
  · obtain ⟨n,rfl,_⟩:=h
    rfl
  obtain ⟨n,rfl,q,e⟩:=h
  refine ⟨_,pss_one (ps_if (PW.pt (pw_or (pt_cmpR op_lt (pv 0) pe_int (nomark _)) (pw_or1 (pt_cmpR op_gt (pv 0) (pe_glob (v:=.int 4) rfl gU ⟨_,rfl⟩) (nomark _))))) (pss_one (ps_raise rfl rs1 PySem.F.excBase_ValueError rfl X1.at_ X1.is (pa_cons pe_str pa_nil))) pss_nil),?_⟩
  refine ⟨_,rfl,_,_,rfl,rfl,_,rfl,?_⟩
  by_cases c1 : n < 1
  · exact iteY c1 (iteT ⟨(by show 1 ≤ sizeLine; decide),e (by omega)⟩)
  · refine iteN c1 ⟨_,rfl,_,_,rfl,rfl,_,rfl,?_⟩
    by_cases c2 : 4 < n
    · exact iteY c2 ⟨(by show 1 ≤ sizeLine; decide),e (by omega)⟩
    · exact iteN c2 (q (by omega))
abbrev nG : List Str:=["terms", "numbers", "powers", "number"]
abbrev bG : List Str:=["powers", "numbers"]
theorem ndG : bG.Nodup:=by decide +kernel
theorem scG : FnScope nG ["terms"] (defScope sGath):=⟨rfl,rfl,rfl,by decide +kernel,rfl,by decide +kernel,by decide +kernel⟩
def spGath : Sp:=fun vs H Q _=>∃ (a : Addr) (ts : List Mon),vs = [.ref a] ∧ LstAt H a ts ∧ (∀ t ∈ ts,t.1 ≠ []) ∧ ts.length ≤ 100000 ∧ ∀ (l : Addr) (H' : Hp),H l = none → Same H H' → LstAt H' l (norm ts) → Q (.ref l) H'
theorem ok_gath (F : Fun K "gathered" "gathered" sGath f fd) (ms : mg "sorted" = none) : FnOk P w K mg base CX0 2 f fd ["terms"] spGath:=by
  refine F.ok scG (fun vs H Q E h=>?_) (fun cdv A outer s H vs Q E hr h=>?_)
  · obtain ⟨a,ts,rfl,_⟩:=h
    rfl
  obtain ⟨a,ts,rfl,hL,hne,hlen,q⟩:=h
  have hu:=hu_of hr
  have h8:=hu8 hr
  refine ⟨_,pss_cons (ps_set (i:=1) scG.nd rfl (Or.inr rfl) pe_dnewT)
    (pss_cons (ps_for PassesOwn.never rfl (pi_list (pv 0)) (pg_tup rfl (pgs_cons (pg_name (i:=2) scG.nd rfl (Or.inl rfl)) (pgs_cons (pg_name (i:=3) scG.nd rfl (Or.inl rfl)) pgs_nil)))
      (pss_one (ps_dput hu (pv 1) (pv 2) (pe_op op_add (pe_dget2 hu (pv 1) (pv 2) pe_int ⟨rfl,rfl,rfl,rfl⟩) (pv 3)) rfl)))
    (pss_one (ps_ret (pe_comp (N':=bG) (src:=[none,some 1]) rfl (pi_list (pe_sortedD rfl h8 rfl ms (pa_cons (pv 1) pa_nil)))
      (bk_of (defScope sGath) nG (by decide +kernel))
      (fun b=>pg_name (i:=0) ndG rfl (Or.inl rfl))
      (fun b=>pts_one (pt_cmpR op_ne (pe_dget hu (pv 1) (pv 0) (fun _ _=>rfl)) pe_int (nomark _)))
      (fun b=>pe_tup (pa_cons (pv 0) (pa_cons (pe_dget hu (pv 1) (pv 0) (fun _ _=>rfl)) pa_nil))))))),?_⟩
  intro d hd
  obtain ⟨vs,eL,iL⟩:=hL
  have lv:=Paired.length iL
  have s0 : Same H (upd H d (.dT [])):=same_new hd _
  refine ⟨_,rfl,a,rfl,⟨vs,SqL.of (s0 _ _ eL)⟩,?_⟩
  refine for_list (xs:=vs) (fun i σ H'=>(∃ c2 c3,σ = [some (.ref a),some (.ref d),c2,c3]) ∧ H' d = some (.dT (toK (dsum (ts.take i)))) ∧ Same H H') ?_ ?_ ?_ ?_
  · exact ⟨⟨_,_,rfl⟩,upd_same,s0⟩
  · rintro i σ H1 _ ⟨_,_,s1⟩
    exact SqL.of (s1 _ _ eL)
  · rintro i x σ H1 hx ⟨⟨c2,c3,rfl⟩,h1,s1⟩
    obtain ⟨t,ht,hi⟩:=its_at iL hx
    obtain ⟨p,k,rfl,hp,hk⟩:=mon_at hi
    have hk1:=s1 _ _ hk
    refine ⟨p,_,rfl,SqT.of (s1 _ _ hp),rfl,_,_,rfl,_,_,rfl,rfl,?_⟩
    have g:=DGet.t (k:=t.1.map Sum.inl) h1 (by rw [kV_inl]; exact hk1)
    rw [toK_val] at g
    refine ⟨_,rfl,d,rfl,.inr ⟨_,.inl h1⟩,_,rfl,_,g,_,rfl,(dget (dsum (ts.take i)) t.1).getD 0,t.2,?_,rfl,_,rfl,_,rfl,d,_,rfl,DPut.t (k:=t.1.map Sum.inl) h1 (by rw [kV_inl]; exact hk1) ?_,?_⟩
    · cases dget (dsum (ts.take i)) t.1 <;> rfl
    · rw [toK_len]
      have:=dsum_len (ts.take i)
      rw [List.length_take] at this
      exact smallS (by omega)
    · refine ⟨⟨_,_,rfl⟩,?_,fun b o e=>?_⟩
      · rw [take_at ht,dsum_snoc,← toK_put]
        exact upd_same
      · rw [upd_ne (ne_of_none e hd)]
        exact s1 b o e
  · rintro σ H1 ⟨⟨c2,c3,rfl⟩,h1,s1⟩
    rw [List.take_of_length_le (by omega)] at h1
    have hnd : ∀ t ∈ dsum ts,t.1 ≠ []:=fun t ht=>by
      obtain ⟨u,hu,e⟩:=List.mem_map.mp (dsum_key ts (List.mem_map.mpr ⟨t,ht,rfl⟩))
      rw [← e]
      exact hne u hu
    refine ⟨_,rfl,d,dsum ts,rfl,.inl h1,hnd,fun p vs' ks hp pm so it=>?_⟩
    have s2 : Same H1 (upd H1 p (.lst vs')):=same_new hp _
    refine ⟨p,rfl,⟨_,SqL.of upd_same⟩,fun b D hD=>?_⟩
    have lk:=Paired.length it
    have ln : vs'.length ≤ 100000:=by
      have:=pm.length_eq
      rw [List.length_map] at this
      have:=dsum_len ts
      omega
    refine comp_list (α:=Mon) hD (SqL.of upd_same) (fun σ=>∃ c,σ = [c,some (.ref d)]) (fun i=>(ks[i]?).bind fun k=>if (dget (dsum ts) k).getD 0 ≠ 0 then some (k,(dget (dsum ts) k).getD 0) else none) (small ln) ⟨_,rfl⟩ ?_ ?_
    · rintro i x σ H2 Yes No hx ⟨c,rfl⟩ s3 yes no
      obtain ⟨k,hk,hi⟩:=its_at it hx
      obtain ⟨pk,rfl,hpk⟩:=row_at hi
      have hpk3:=s3 _ _ (s2 _ _ hpk)
      have hd3:=s3 _ _ (s2 _ _ h1)
      obtain ⟨n,hn⟩:=dget_some (pm.mem_iff.mp (List.mem_of_getElem? hk))
      have g:=DGet.t (k:=k.map Sum.inl) hd3 (by rw [kV_inl]; exact hpk3)
      rw [toK_val,hn] at g
      refine ⟨_,rfl,_,rfl,d,.int n,rfl,g,rfl,_,rfl,?_⟩
      by_cases c0 : n = 0
      · subst c0
        refine iteF ?_
        exact no _ _ ⟨_,rfl⟩ (Same.refl _) (by rw [hk,Option.bind_some,hn,if_neg (by simp)])
      · have e0 : (!decide (V.int n = V.int 0)) = true:=by
          rw [decide_eq_false (fun z=>c0 (by injection z))]
          rfl
        rw [e0]
        refine iteT ⟨_,rfl,_,rfl,_,rfl,d,.int n,rfl,g,(by show 2 ≤ sizeLine; decide),fun r hr=>?_⟩
        exact yes _ _ _ (k,n) ⟨_,rfl⟩ (same_new hr _) (by rw [hk,Option.bind_some,hn,if_pos (by simpa using c0)]; rfl) (mon_is upd_same (same_new hr _ _ _ hpk3))
    · intro H2 s3 hL
      refine q D H2 (s1.free (s2.free hD)) (s1.trans (s2.trans s3)) ?_
      have e:=by_keys pm so
      rw [← filter_map_if,← range_map,← lk] at e
      rw [← e]
      exact hL
abbrev nPl : List Str:=["one", "other"]
def spTwo (g : List Mon → List Mon → List Mon) : Sp:=fun vs H Q _=>∃ (a b : Addr) (ts us : List Mon),vs = [.ref a,.ref b] ∧ LstAt H a ts ∧ LstAt H b us ∧ (∀ t ∈ ts,t.1 ≠ []) ∧ (∀ t ∈ us,t.1 ≠ []) ∧ ts.length + us.length ≤ 100000 ∧ ∀ (l : Addr) (H' : Hp),H l = none → Same H H' → LstAt H' l (norm (g ts us)) → Q (.ref l) H'
abbrev bLs : List Str:=["powers", "number"]
theorem ndLs : bLs.Nodup:=by decide +kernel
theorem scLs : FnScope nPl nPl (defScope sLess):=⟨rfl,rfl,rfl,by decide +kernel,rfl,by decide +kernel,by decide +kernel⟩
theorem ok_less (F : Fun K "less" "less" sLess f fd) (GG : Has P w K mg base 2 "gathered" ["terms"] spGath) : FnOk P w K mg base CX0 3 f fd nPl (spTwo fun ts us=>ts ++ ngt us):=by
  refine F.ok scLs (fun vs H Q E h=>?_) (fun cdv A outer s H vs Q E hr h=>?_)
  · obtain ⟨a,b,ts,us,rfl,_⟩:=h
    rfl
  obtain ⟨a,b,ts,us,rfl,⟨vs,eA,iA⟩,⟨ws,eB,iB⟩,ne1,ne2,hlen,q⟩:=h
  refine ⟨_,pss_one (ps_ret (pe_has GG hr rfl (pa_cons (pe_op op_cat (pv 0) (pe_comp (N':=bLs) (src:=[none,none]) rfl (pi_list (pv 1)) (bk_of (defScope sLess) nPl (by decide +kernel))
      (fun b=>pg_tup rfl (pgs_cons (pg_name (i:=0) ndLs rfl (Or.inl rfl)) (pgs_cons (pg_name (i:=1) ndLs rfl (Or.inl rfl)) pgs_nil)))
      (fun b=>pts_nil)
      (fun b=>pe_tup (pa_cons (pv 0) (pa_cons (pe_un un_neg (pv 1)) pa_nil))))) pa_nil))),?_⟩
  have la:=Paired.length iA
  have lb:=Paired.length iB
  refine ⟨_,rfl,_,rfl,b,rfl,⟨_,SqL.of eB⟩,fun bk D hD=>?_⟩
  refine comp_list (α:=Mon) hD (SqL.of eB) (fun σ=>∃ c d,σ = [c,d]) (fun i=>(us[i]?).bind fun t=>some (t.1,-t.2)) (small (by omega)) ?_ ?_ ?_
  · exact ⟨_,_,rfl⟩
  · rintro i x σ H2 Yes No hx ⟨c,d,rfl⟩ s3 yes no
    obtain ⟨t,ht,hi⟩:=its_at iB hx
    obtain ⟨p,kk,rfl,hp,hkk⟩:=mon_at hi
    refine ⟨p,_,rfl,SqT.of (s3 _ _ hp),rfl,_,_,rfl,_,_,rfl,rfl,?_⟩
    refine yesT ?_
    refine ⟨_,rfl,_,rfl,_,rfl,(by show 2 ≤ sizeLine; decide),fun p3 h3=>?_⟩
    have s5:=same_new h3 (.tup [.ref kk,.int (-t.2)])
    exact yes _ _ _ (t.1,-t.2) ⟨_,_,rfl⟩ s5 (by rw [ht]; rfl) (mon_is upd_same (s5 _ _ (s3 _ _ hkk)))
  rintro H2 s3 ⟨zs,eZ,iZ⟩
  have e : (List.range ws.length).filterMap (fun i=>(us[i]?).bind fun t=>some (t.1,-t.2)) = ngt us:=by
    rw [lb,range_map,List.filterMap_eq_map']
    rfl
  rw [e] at iZ
  have lz:=Paired.length iZ
  rw [ngt_len] at lz
  refine ⟨a,D,vs,zs,rfl,rfl,s3 _ _ eA,eZ,small (by omega),fun p hp=>?_⟩
  have s1:=same_new hp (.lst (vs ++ zs))
  refine ⟨p,ts ++ ngt us,rfl,⟨_,upd_same,Paired.app (Its.mono (Tups.same (s3.trans s1)) iA) (Its.mono (Tups.same s1) iZ)⟩,fun t ht=>(List.mem_append.mp ht).elim (ne1 t) fun ht=>?_,by rw [List.length_append,ngt_len]; exact hlen,fun l H' hl s2 h2=>?_⟩
  · obtain ⟨u,hu,rfl⟩:=List.mem_map.mp ht
    exact ne2 u hu
  · exact q l H' (s3.free (s1.free hl)) (s3.trans (s1.trans s2)) h2
abbrev nS : List Str:=["powers", "place"]
theorem scS : FnScope nS ["powers", "place"] (defScope sSwap):=⟨rfl,rfl,rfl,by decide +kernel,rfl,by decide +kernel,by decide +kernel⟩
def spSwap : Sp:=fun vs H Q _=>∃ (a : Addr) (ps : List Int) (k : Nat),vs = [.ref a,.int k] ∧ H a = some (.tup (ps.map V.int)) ∧ k + 1 < ps.length ∧ ps.length ≤ 100 ∧ ∀ p H',Same H H' → H' p = some (.tup ((swp ps k).map V.int)) → Q (.ref p) H'
theorem cut_lo (ps : List Int) (k : Nat) (h : k ≤ ps.length) : cutV (ps.map V.int) none (some (k : Int)) = (ps.take k).map V.int:=by
  unfold cutV
  rw [HT.sIx_none,HT.sIx_nat,List.length_map,List.drop_zero,Nat.sub_zero,Nat.min_eq_left h,List.map_take]
theorem cut_hi (ps : List Int) (k : Nat) : cutV (ps.map V.int) (some (k : Int)) none = (ps.drop k).map V.int:=by
  unfold cutV
  rw [HT.sIx_none,HT.sIx_nat,List.length_map,List.take_of_length_le (by rw [List.length_drop,List.length_map]; omega),List.map_drop]
  by_cases c : k ≤ ps.length
  · rw [Nat.min_eq_left c]
  · rw [Nat.min_eq_right (by omega),List.drop_of_length_le (by simp),List.drop_of_length_le (by simp; omega)]
theorem at_row {ps : List Int} {k : Nat} (h : k < ps.length) : atI (ps.map V.int) (k : Int) = some (.int (ps.getD k 0)):=by
  refine atI_nat ?_
  rw [List.getElem?_map,List.getElem?_eq_getElem h]
  simp [h]
theorem ok_swap (F : Fun K "swapped" "swapped" sSwap f fd) : FnOk P w K mg base CX0 2 f fd ["powers", "place"] spSwap:=by
  refine F.ok scS (fun vs H Q E h=>?_) (fun cdv A outer s H vs Q E hr h=>?_)
  · obtain ⟨a,ps,k,rfl,_⟩:=h
    rfl
  obtain ⟨a,ps,k,rfl,ha,hk,hl,q⟩:=h
  refine ⟨_,pss_one (ps_ret (pe_op op_catA (pe_op op_catA (pe_slice sl_tup (pv 0) po_none (po_some (pv 1)))
      (pe_tup (pa_cons (pe_ix ix_tup (pv 0) (pe_op op_add (pv 1) pe_int) (fun _ _=>rfl)) (pa_cons (pe_ix ix_tup (pv 0) (pv 1) (fun _ _=>rfl)) pa_nil))))
      (pe_slice sl_tup (pv 0) (po_some (pe_op op_add (pv 1) pe_int)) po_none))),?_⟩
  have e1 : ((k : Int) + 1) = ((k + 1 : Nat) : Int):=by omega
  have e2 : ((k : Int) + 2) = ((k + 2 : Nat) : Int):=by omega
  refine ⟨_,rfl,_,rfl,_,rfl,a,_,rfl,SqT.of ha,?_,fun p1 h1=>?_⟩
  · rintro ⟨_,z⟩
    rw [HT.sIx_nat,List.length_map] at z
    omega
  rw [cut_lo ps k (by omega)]
  have s1:=same_new h1 (.tup ((ps.take k).map V.int))
  have ha1:=s1 _ _ ha
  refine ⟨_,rfl,_,rfl,_,_,rfl,rfl,a,_,_,_,rfl,rfl,SqT.of ha1,by rw [e1]; exact at_row hk,_,rfl,_,rfl,a,_,_,_,rfl,rfl,SqT.of ha1,at_row (by omega),(by show 2 ≤ sizeLine; decide),fun p2 h2=>?_⟩
  have s2:=same_new h2 (.tup [.int (ps.getD (k + 1) 0),.int (ps.getD k 0)])
  have hp1:=s2 _ _ (upd_same (H:=H) (a:=p1) (o:=.tup ((ps.take k).map V.int)))
  refine cat_rows (r:=ps.take k) (r':=[ps.getD (k + 1) 0,ps.getD k 0]) hp1 upd_same (small (by rw [List.length_take]; show min k ps.length + 2 ≤ 100000; omega)) fun p3 H3 s3 h3=>?_
  have ha3:=s3 _ _ (s2 _ _ ha1)
  refine ⟨_,rfl,_,rfl,_,_,rfl,rfl,_,rfl,a,_,rfl,SqT.of ha3,?_,fun p4 h4=>?_⟩
  · rintro ⟨z,_⟩
    rw [e2,HT.sIx_nat,List.length_map] at z
    omega
  rw [e2,cut_hi]
  have s4:=same_new h4 (.tup ((ps.drop (k + 2)).map V.int))
  refine cat_rows (s4 _ _ h3) upd_same (small (by rw [List.length_append,List.length_take,List.length_drop]; show min k ps.length + 2 + (ps.length - (k + 2)) ≤ 100000; omega)) fun p5 H5 s5 h5=>?_
  exact q p5 H5 (s1.trans (s2.trans (s3.trans (s4.trans s5)))) h5
abbrev nE : List Str:=["some", "place"]
abbrev bE : List Str:=["powers", "number", "place"]
theorem ndE : bE.Nodup:=by decide +kernel
theorem scE : FnScope nE ["some", "place"] (defScope sExch):=⟨rfl,rfl,rfl,by decide +kernel,rfl,by decide +kernel,by decide +kernel⟩
def spExch : Sp:=fun vs H Q _=>∃ (a : Addr) (n k : Nat) (ts : List Mon),vs = [.ref a,.int k] ∧ LstAt H a ts ∧ (∀ t ∈ ts,t.1.length = n) ∧ k + 1 < n ∧ n ≤ 100 ∧ ts.length ≤ 100000 ∧ ∀ (l : Addr) (H' : Hp),H l = none → Same H H' → LstAt H' l (exch ts k) → Q (.ref l) H'
theorem ok_exch {h' : Addr} {hd' : FuncData} (F : Fun K "exchanged" "exchanged" sExch f fd) (G : FnOk P w K mg base CX0 2 g gd ["terms"] spGath) (bG' : Binds K gd ["terms"] []) (kG : PySem.W.keepIn K (.ref g) = true) (mG : mg "gathered" = some (.ref g))
    (GS : FnOk P w K mg base CX0 2 h' hd' ["powers", "place"] spSwap) (bS : Binds K hd' ["powers", "place"] []) (kS : PySem.W.keepIn K (.ref h') = true) (mS : mg "swapped" = some (.ref h')) : FnOk P w K mg base CX0 3 f fd ["some", "place"] spExch:=by
  refine F.ok scE (fun vs H Q E h=>?_) (fun cdv A outer s H vs Q E hr h=>?_)
  · obtain ⟨a,n,k,ts,rfl,_⟩:=h
    rfl
  obtain ⟨a,n,k,ts,rfl,⟨vs,eL,iL⟩,hln,hk,hn,hl,q⟩:=h
  refine ⟨_,pss_one (ps_ret (pe_call G hr rfl mG kG bG' .nil pass0 (pa_cons (pe_comp (N':=bE) (src:=[none,none,some 1]) rfl (pi_list (pv 0)) (bk_of (defScope sExch) nE (by decide +kernel))
      (fun b=>pg_tup rfl (pgs_cons (pg_name (i:=0) ndE rfl (Or.inl rfl)) (pgs_cons (pg_name (i:=1) ndE rfl (Or.inl rfl)) pgs_nil)))
      (fun b=>pts_nil)
      (fun b=>pe_tup (pa_cons (pe_call GS hr rfl mS kS bS .nil pass0 (pa_cons (pv 0) (pa_cons (pv 2) pa_nil))) (pa_cons (pv 1) pa_nil)))) pa_nil))),?_⟩
  refine ⟨_,rfl,a,rfl,⟨_,SqL.of eL⟩,fun bk D hD=>?_⟩
  have lv:=Paired.length iL
  refine comp_list (α:=Mon) hD (SqL.of eL) (fun σ=>∃ c d,σ = [c,d,some (.int k)]) (fun i=>(ts[i]?).bind fun t=>some (swp t.1 k,t.2)) (small (by omega)) ?_ ?_ ?_
  · exact ⟨_,_,rfl⟩
  · rintro i x σ H2 Yes No hx ⟨c,d,rfl⟩ s3 yes no
    obtain ⟨t,ht,hi⟩:=its_at iL hx
    obtain ⟨p,kk,rfl,hp,hkk⟩:=mon_at hi
    have hm:=List.mem_of_getElem? ht
    have pl:=hln t hm
    refine ⟨p,_,rfl,SqT.of (s3 _ _ hp),rfl,_,_,rfl,_,_,rfl,rfl,?_⟩
    refine yesT ?_
    refine ⟨_,rfl,_,rfl,kk,t.1,k,rfl,s3 _ _ hkk,by omega,by omega,fun p2 H4 s4 h4=>?_⟩
    refine ⟨_,rfl,(by show 2 ≤ sizeLine; decide),fun p3 h3=>?_⟩
    have s5:=same_new h3 (.tup [.ref p2,.int t.2])
    exact yes _ _ _ (swp t.1 k,t.2) ⟨_,_,rfl⟩ (s4.trans s5) (by rw [ht]; rfl) (mon_is upd_same (s5 _ _ h4))
  · rintro H2 s3 hL
    have e : (List.range vs.length).filterMap (fun i=>(ts[i]?).bind fun t=>some (swp t.1 k,t.2)) = ts.map fun t=>(swp t.1 k,t.2):=by
      rw [lv,range_map,List.filterMap_eq_map']
    rw [e] at hL
    refine ⟨D,_,rfl,hL,fun t ht e=>?_,by rw [List.length_map]; omega,fun l H4 hl4 s4 h4=>?_⟩
    · obtain ⟨u,hu,rfl⟩:=List.mem_map.mp ht
      have z : (swp u.1 k).length = n:=by rw [swp_len (by rw [hln u hu]; exact hk),hln u hu]
      have e' : swp u.1 k = []:=e
      rw [e'] at z
      simp at z
      omega
    · exact q l H4 (s3.free hl4) (s3.trans s4) h4
def rowB (r : List Int) : Bool:=r.all (fun x=>decide (1 ≤ x)) && ((List.range (r.length - 1)).all fun i=>decide (r.getD (i + 1) 0 ≤ r.getD i 0)) && decide (r.sum ≤ 8)
abbrev nRb : List Str:=["row"]
abbrev bRb : List Str:=["number"]
abbrev bRb2 : List Str:=["number", "later"]
theorem ndRb : bRb.Nodup:=by decide +kernel
theorem ndRb2 : bRb2.Nodup:=by decide +kernel
theorem scRb : FnScope nRb nRb (defScope sRbr):=⟨rfl,rfl,rfl,by decide +kernel,rfl,by decide +kernel,by decide +kernel⟩
def spRbr (cBR : Addr) : Sp:=fun vs H Q E=>∃ (p : Addr) (r : List Int),vs = [.ref p] ∧ H p = some (.tup (r.map V.int)) ∧ r.length ≤ 1000 ∧ (rowB r = true → ∀ H',Same H H' → Q .non H') ∧ (rowB r = false → ∀ H',Same H H' → E (.ref cBR) none H')
theorem any_low (r : List Int) : (r.map fun x=>decide (x < 1)).any id = !(r.all fun x=>decide (1 ≤ x)):=by
  induction r with
  | nil=>rfl
  | cons x r ih =>
    rw [List.map_cons,List.any_cons,List.all_cons,ih,Bool.not_and]
    have : id (decide (x < 1)) = !decide (1 ≤ x):=by
      by_cases c : x < 1
      · simp [c]
      · simp [c,show 1 ≤ x by omega]
    rw [this]
theorem any_rise (l : List Nat) (r : List Int) : (l.map fun i=>decide (r.getD i 0 < r.getD (i + 1) 0)).any id = !(l.all fun i=>decide (r.getD (i + 1) 0 ≤ r.getD i 0)):=by
  induction l with
  | nil=>rfl
  | cons i l ih =>
    rw [List.map_cons,List.any_cons,List.all_cons,ih,Bool.not_and]
    have : id (decide (r.getD i 0 < r.getD (i + 1) 0)) = !decide (r.getD (i + 1) 0 ≤ r.getD i 0):=by
      by_cases c : r.getD i 0 < r.getD (i + 1) 0
      · rw [decide_eq_true c,decide_eq_false (by omega)]; rfl
      · rw [decide_eq_false c,decide_eq_true (by omega)]; rfl
    rw [this]
theorem int_at {r : List Int} {i : Nat} {v : V} (h : (r.map V.int)[i]? = some v) : v = .int (r.getD i 0) ∧ i < r.length:=by
  rw [List.getElem?_map] at h
  rw [List.getD_eq_getElem?_getD]
  cases e : r[i]? with
  | none=>rw [e] at h; cases h
  | some c=>rw [e] at h; exact ⟨(Option.some.inj h).symm,(List.getElem?_eq_some_iff.mp e).1⟩
theorem ok_rbr {tk : Tok} {cBR : Addr} (F : Fun K "refuse_bad_row" "refuse_bad_row" sRbr f fd) (gU : mg "MOST_TOGETHER" = some (.int 8 tk)) (X1 : Exc1 K mg "BadRow" cBR) (ma : mg "any" = none) (mz : mg "zip" = none) (ms : mg "sum" = none) : FnOk P w K mg base (CX1 P w) 2 f fd nRb (spRbr cBR):=by
  refine Fun.okx F scRb (fun vs H Q E h=>?_) (fun cdv A outer s H vs Q E hr h=>?_)
  · obtain ⟨p,r,rfl,_⟩:=h
    rfl
  obtain ⟨p,r,rfl,hp,hl,q,e⟩:=h
  refine ⟨_,pss_cons (ps_if (pt_val (pe_callB (call_anyL rfl) rfl ma PyProof.Rows.boot_any (pa_cons (pe_comp (N':=bRb) (src:=[none]) rfl (pi_tup (pv 0)) (bk_of (defScope sRbr) nRb (by decide +kernel))
        (fun b=>pg_name (i:=0) ndRb rfl (Or.inl rfl)) (fun b=>pts_nil) (fun b=>pe_cmpR op_lt (pv 0) pe_int (nomark _))) pa_nil))) (pss_one (ps_raise rfl rs1 PySem.F.excBase_ValueError rfl X1.at_ X1.is (pa_cons pe_str pa_nil))) pss_nil)
    (pss_cons (ps_if (pt_val (pe_callB (call_anyL rfl) rfl ma PyProof.Rows.boot_any (pa_cons (pe_comp (N':=bRb2) (src:=[none,none]) rfl (pi_zip .tup .tup rfl mz (pa_cons (pv 0) (pa_cons (pe_slice sl_rest (pv 0) (po_some pe_int) po_none) pa_nil))) (bk_of (defScope sRbr) nRb (by decide +kernel))
        (fun b=>pg_tup rfl (pgs_cons (pg_name (i:=0) ndRb2 rfl (Or.inl rfl)) (pgs_cons (pg_name (i:=1) ndRb2 rfl (Or.inl rfl)) pgs_nil))) (fun b=>pts_nil) (fun b=>pe_cmpR op_gt (pv 1) (pv 0) (nomark _))) pa_nil))) (pss_one (ps_raise rfl rs1 PySem.F.excBase_ValueError rfl X1.at_ X1.is (pa_cons pe_str pa_nil))) pss_nil)
    (pss_one (ps_if (pt_cmpR op_gt (pe_callB (call_sumT rfl) rfl ms PyProof.Rows.boot_sum (pa_cons (pv 0) pa_nil)) (pe_glob (v:=.int 8) rfl gU ⟨_,rfl⟩) (nomark _)) (pss_one (ps_raise rfl rs1 PySem.F.excBase_ValueError rfl X1.at_ X1.is (pa_cons pe_str pa_nil))) pss_nil))),?_⟩
  have sz : 1 ≤ sizeLine:=by decide
  refine ⟨_,rfl,p,rfl,⟨_,SqT.of hp⟩,fun bk D hD=>?_⟩
  refine comp_tup (α:=Bool) hD (SqT.of hp) (fun σ=>∃ c,σ = [c]) (fun i=>(r[i]?).bind fun x=>some (decide (x < 1))) (small (by rw [List.length_map]; omega)) ?_ ?_ ?_
  · exact ⟨_,rfl⟩
  · rintro i v σ H2 Yes No hv ⟨c,rfl⟩ s3 yes no
    obtain ⟨x,hx,rfl⟩ : ∃ x,r[i]? = some x ∧ V.int x = v:=by
      rw [List.getElem?_map] at hv
      cases e : r[i]? with
      | none=>rw [e] at hv; cases hv
      | some y=>rw [e] at hv; exact ⟨y,rfl,Option.some.inj hv⟩
    refine nameYes ?_
    refine ⟨_,rfl,_,_,rfl,rfl,?_⟩
    exact yes _ _ _ _ ⟨_,rfl⟩ (fun _ _ e=>e) (by rw [hx]; rfl) rfl
  rintro H1 s1 ⟨ws,eD,iD⟩
  have e0 : (List.range (r.map V.int).length).filterMap (fun i=>(r[i]?).bind fun x=>some (decide (x < 1))) = r.map fun x=>decide (x < 1):=by
    rw [List.length_map,range_map,List.filterMap_eq_map']
  rw [its_bools iD,e0] at eD
  refine ⟨D,_,rfl,SqL.of eD,_,rfl,?_⟩
  rw [any_low]
  cases c1 : r.all fun x=>decide (1 ≤ x) with
  | false=>exact iteT ⟨sz,e (by unfold rowB; rw [c1]; rfl) _ s1⟩
  | true =>
  refine iteF ?_
  have hp1:=s1 _ _ hp
  refine ⟨_,rfl,_,rfl,1,rfl,p,r,rfl,rfl,rfl,hp1,fun t H2 s2 ht=>⟨p,t,rfl,⟨_,SqT.of (s2 _ _ hp1)⟩,⟨_,SqT.of ht⟩,fun bk2 D2 hD2=>?_⟩⟩
  refine comp_zip (α:=Bool) (k1:=.tup) (k2:=.tup) hD2 (SqT.of (s2 _ _ hp1)) (SqT.of ht) (fun σ=>∃ c d,σ = [c,d]) (fun i=>some (decide (r.getD i 0 < r.getD (i + 1) 0))) (small (by rw [List.length_map,List.length_map]; omega)) ?_ ?_ ?_
  · exact ⟨_,_,rfl⟩
  · rintro i x y p2 σ H3 Yes No hx hy h2 ⟨c,d,rfl⟩ s3 yes no
    obtain ⟨rfl,_⟩:=int_at hx
    obtain ⟨rfl,_⟩:=int_at hy
    refine ⟨p2,_,rfl,SqT.of upd_same,rfl,_,_,rfl,_,_,rfl,rfl,?_⟩
    refine yesT ?_
    refine ⟨_,rfl,_,rfl,_,_,rfl,rfl,?_⟩
    refine yes _ _ _ _ ⟨_,_,rfl⟩ (same_new h2 _) rfl ?_
    show V.bl (decide (r.getD i 0 < (r.drop 1).getD i 0)) = V.bl (decide (r.getD i 0 < r.getD (i + 1) 0))
    rw [show (r.drop 1).getD i 0 = r.getD (i + 1) 0 by rw [List.getD_eq_getElem?_getD,List.getElem?_drop,List.getD_eq_getElem?_getD,Nat.add_comm 1 i]]
  rintro H4 s4 ⟨ws2,eD2,iD2⟩
  have e1 : (List.range (min (r.map V.int).length ((r.drop 1).map V.int).length)).filterMap (fun i=>some (decide (r.getD i 0 < r.getD (i + 1) 0))) = (List.range (r.length - 1)).map fun i=>decide (r.getD i 0 < r.getD (i + 1) 0):=by
    rw [List.length_map,List.length_map,List.length_drop,Nat.min_eq_right (by omega),List.filterMap_eq_map']
  rw [its_bools iD2,e1] at eD2
  have s14:=s1.trans (s2.trans s4)
  refine ⟨D2,_,rfl,SqL.of eD2,_,rfl,?_⟩
  rw [any_rise]
  cases c2 : (List.range (r.length - 1)).all fun i=>decide (r.getD (i + 1) 0 ≤ r.getD i 0) with
  | false=>exact iteT ⟨sz,e (by unfold rowB; rw [c1,c2]; rfl) _ s14⟩
  | true =>
  refine iteF ?_
  refine ⟨_,rfl,p,r,rfl,SqT.of (s14 _ _ hp),_,_,rfl,rfl,_,rfl,?_⟩
  by_cases c3 : 8 < r.sum
  · exact iteY c3 ⟨sz,e (by unfold rowB; rw [c1,c2,decide_eq_false (by omega)]; rfl) _ s14⟩
  · exact iteN c3 (q (by unfold rowB; rw [c1,c2,decide_eq_true (by omega)]; rfl) _ s14)
def ordAt (f : List Int → List (List Int)) (l : List Int) (i : Nat) : List (List Int):=if l.getD i 0 ∈ l.take i then [] else (f (l.take i ++ l.drop (i + 1))).map (l.getD i 0 :: ·)
def ords : Nat → List Int → List (List Int)
  | 0,_=>[]
  | n + 1,l=>if l = [] then [[]] else (List.range l.length).flatMap (ordAt (ords n) l)
theorem ords_nil (n : Nat) : ords (n + 1) [] = [[]]:=by simp [ords]
theorem ords_some (n : Nat) (l : List Int) (h : l ≠ []) : ords (n + 1) l = (List.range l.length).flatMap (ordAt (ords n) l):=by simp [ords,h]
theorem ords_row : ∀ (n : Nat) (l : List Int),∀ r ∈ ords n l,r.length = l.length
  | 0,_,r,h=>by simp [ords] at h
  | n + 1,l,r,h=>by
    by_cases c : l = []
    · subst c
      rw [ords_nil,List.mem_singleton] at h
      rw [h]
    · rw [ords_some n l c,List.mem_flatMap] at h
      obtain ⟨i,hi,h⟩:=h
      have hi:=List.mem_range.mp hi
      unfold ordAt at h
      split at h
      · simp at h
      · obtain ⟨q,hq,rfl⟩:=List.mem_map.mp h
        have:=ords_row n _ q hq
        rw [List.length_append,List.length_take,List.length_drop] at this
        rw [List.length_cons]
        omega
def bnd : Nat → Nat
  | 0=>1
  | n + 1=>(n + 1) * bnd n
theorem flat_len {α β : Type} (g : α → List β) (B : Nat) : ∀ l : List α,(∀ a ∈ l,(g a).length ≤ B) → (l.flatMap g).length ≤ l.length * B
  | [],_=>by simp
  | a :: l,h=>by
    have h1:=h a (List.mem_cons_self ..)
    have h2:=flat_len g B l fun b hb=>h b (List.mem_cons_of_mem _ hb)
    rw [List.flatMap_cons,List.length_append,List.length_cons,Nat.succ_mul]
    omega
theorem ords_len : ∀ (n : Nat) (l : List Int),(ords n l).length ≤ bnd l.length
  | 0,l=>by simp [ords]
  | n + 1,l=>by
    by_cases c : l = []
    · subst c
      rw [ords_nil]
      exact Nat.le_refl _
    · rw [ords_some n l c]
      obtain ⟨k,hk⟩ : ∃ k,l.length = k + 1:=⟨l.length - 1,by have:=List.length_pos_iff.mpr c; omega⟩
      refine Nat.le_trans (flat_len _ (bnd k) _ fun i hi=>?_) ?_
      · have hi:=List.mem_range.mp hi
        unfold ordAt
        split
        · exact Nat.zero_le _
        · rw [List.length_map]
          have:=ords_len n (l.take i ++ l.drop (i + 1))
          rwa [List.length_append,List.length_take,List.length_drop,show min i l.length + (l.length - (i + 1)) = k by omega] at this
      · rw [List.length_range,hk]
        exact Nat.le_refl _
theorem flat_atO {α β : Type} (g : α → List β) : ∀ {l : List α} {i : Nat} {a : α},l[i]? = some a → (l.take (i + 1)).flatMap g = (l.take i).flatMap g ++ g a:=fun {l i a} h=>by
  rw [take_at h,List.flatMap_append,List.flatMap_singleton]
theorem flat_leO {α β : Type} (g : α → List β) (l : List α) (i : Nat) : ((l.take i).flatMap g).length ≤ (l.flatMap g).length:=by
  have : l.flatMap g = (l.take i).flatMap g ++ (l.drop i).flatMap g:=by rw [← List.flatMap_append,List.take_append_drop]
  rw [this,List.length_append]
  omega
theorem same_at {H H' : Hp} {l : Addr} (h : H l = none) (e : Same H H') (o : HO) : Same H (upd H' l o):=fun b u q=>by rw [upd_ne (ne_of_none q h)]; exact e b u q
theorem tups_at {H : Hp} {l : Addr} {xs : List V} (h : H l = some (.lst xs)) (o : HO) : Tups H (upd H l o):=fun p ys q=>by
  rw [upd_ne (ne_of q h (by intro z; cases z))]; exact q
theorem int_atO {r : List Int} {i : Nat} {v : V} (h : (r.map V.int)[i]? = some v) : v = .int (r.getD i 0) ∧ i < r.length:=by
  rw [List.getElem?_map] at h
  rw [List.getD_eq_getElem?_getD]
  cases e : r[i]? with
  | none=>rw [e] at h; cases h
  | some c=>rw [e] at h; exact ⟨(Option.some.inj h).symm,(List.getElem?_eq_some_iff.mp e).1⟩
abbrev nOr : List Str:=["numbers", "found", "place", "number", "rest"]
theorem scOr : FnScope nOr ["numbers"] (defScope sOr):=⟨rfl,rfl,rfl,by decide +kernel,rfl,by decide +kernel,by decide +kernel⟩
def spOr (n : Nat) : Sp:=fun vs H Q _=>∃ (p : Addr) (l : List Int),vs = [.ref p] ∧ H p = some (.tup (l.map V.int)) ∧ l.length < n ∧ l.length ≤ 4 ∧
  ∀ (a : Addr) (H' : Hp),H a = none → Same H H' → LstAt H' a (ords n l) → Q (.ref a) H'
theorem ok_or {n : Nat} (F : Fun K "orders" "orders" sOr f fd) (G : FnOk P w K mg base CX0 n f fd ["numbers"] (spOr n)) (bF : Binds K fd ["numbers"] []) (mU : mg "orders" = some (.ref f)) (me : mg "enumerate" = none) :
    FnOk P w K mg base CX0 (n + 1) f fd ["numbers"] (spOr (n + 1)):=by
  refine F.ok scOr (fun vs H Q E h=>?_) (fun cdv A outer s H vs Q E hr h=>?_)
  · obtain ⟨p,l,rfl,_⟩:=h
    rfl
  obtain ⟨p,l,rfl,hp,hn,h4,q⟩:=h
  have hI:=Nat.lt_of_le_of_lt (Nat.add_le_add_left (by decide : Dat.dep Int + 1 ≤ 64) _) hr.units
  refine ⟨_,pss_cons (ps_if (pt_cmpR (op_eqT (α:=Int) hI) (pv 0) (pe_tup pa_nil) (nomark _)) (pss_one (ps_ret (pe_lst (pa_cons (pe_tup pa_nil) pa_nil)))) pss_nil)
    (pss_cons (ps_set (i:=1) scOr.nd rfl (Or.inl rfl) (pe_lst pa_nil))
    (pss_cons (ps_for PassesOwn.never rfl (pi_enum .tup rfl me (pa_cons (pv 0) pa_nil)) (pg_tup rfl (pgs_cons (pg_name (i:=2) scOr.nd rfl (Or.inl rfl)) (pgs_cons (pg_name (i:=3) scOr.nd rfl (Or.inl rfl)) pgs_nil)))
      (pss_one (ps_if (pt_cmpR op_notIn_ints (pv 3) (pe_slice sl_pre (pv 0) po_none (po_some (pv 2))) rfl)
        (pss_one (ps_for PassesOwn.never rfl (pi_list (pe_call G hr rfl mU F.kp bF .nil pass0 (pa_cons (pe_op op_catA (pe_slice sl_pre (pv 0) po_none (po_some (pv 2))) (pe_slice sl_suf (pv 0) (po_some (pe_op op_add (pv 2) pe_int)) po_none)) pa_nil))) (pg_name (i:=4) scOr.nd rfl (Or.inl rfl))
          (pss_one (ps_expr (pe_bm PySem.F.plainAttrs_list PySem.F.slot_list_append PySem.F.type_list_append mt_append (pv 1) (pa_cons (pe_op op_catA (pe_tup (pa_cons (pv 3) pa_nil)) (pv 4)) pa_nil)))))) pss_nil)))
    (pss_one (ps_ret (pv 1))))),?_⟩
  refine ⟨_,rfl,(by show 0 ≤ sizeLine; decide),fun t0 h0=>?_⟩
  have s0:=same_new h0 (.tup [])
  refine ⟨l,[],row_is (s0 _ _ hp),row_is upd_same,_,rfl,?_⟩
  by_cases c : l = []
  · subst c
    rw [eqbs_self]
    refine iteT ?_
    refine ⟨(by show 0 ≤ sizeLine; decide),fun t1 h1=>⟨(by show 1 ≤ sizeLine; decide),fun a ha=>?_⟩⟩
    have s1:=same_new h1 (.tup [])
    have s2:=same_new ha (.lst [.ref t1])
    refine q a _ (s0.free (s1.free ha)) (s0.trans (s1.trans s2)) ⟨[.ref t1],upd_same,?_⟩
    rw [ords_nil]
    exact .cons (row_is (r:=[]) (s2 _ _ upd_same)) .nil
  have ne : eqbs (Dat.eqb (α:=Int)) l [] = false:=Bool.eq_false_iff.mpr fun z=>c ((eqbs_iff Dat.eqb_iff _ _).mp z)
  rw [ne]
  refine iteF ?_
  refine ⟨(by show 0 ≤ sizeLine; decide),fun a ha=>?_⟩
  have s1:=s0.trans (same_new ha (.lst []))
  have fa : H a = none:=s0.free ha
  have tot:=ords_some n l c
  have tl:=ords_len (n + 1) l
  have b4 : bnd l.length ≤ 24:=by
    have : l.length = 0 ∨ l.length = 1 ∨ l.length = 2 ∨ l.length = 3 ∨ l.length = 4:=by omega
    rcases this with e | e | e | e | e <;> rw [e] <;> decide
  rw [tot] at tl
  refine ⟨_,rfl,p,rfl,⟨_,SqT.of (s1 _ _ hp)⟩,?_⟩
  refine for_enum (k:=.tup) (xs:=l.map V.int) (fun i σ H'=>(∃ c2 c3 c4,σ = [some (.ref p),some (.ref a),c2,c3,c4]) ∧ Same H H' ∧ LstAt H' a (((List.range l.length).take i).flatMap (ordAt (ords n) l))) ?_ ?_ ?_ ?_
  · exact ⟨⟨_,_,_,rfl⟩,s1,[],upd_same,by simpa using Paired.nil⟩
  · rintro i σ H1 ⟨_,sH,_⟩
    exact SqT.of (sH _ _ hp)
  · rintro i x t σ H1 hx ht ⟨⟨c2,c3,c4,rfl⟩,sH,hL⟩
    obtain ⟨rfl,hi⟩:=int_atO hx
    have s2:=same_new ht (.tup [.int i,.int (l.getD i 0)])
    refine ⟨t,_,rfl,SqT.of upd_same,rfl,_,_,rfl,_,_,rfl,rfl,?_⟩
    have hL:=hL.mono s2
    have sH:=sH.trans s2
    generalize upd H1 t (.tup [.int i,.int (l.getD i 0)]) = G1 at hL sH
    have nx:=flat_atO (ordAt (ords n) l) (List.getElem?_range hi)
    have nle:=flat_leO (ordAt (ords n) l) (List.range l.length) (i + 1)
    rw [nx] at nle
    refine ⟨_,rfl,_,rfl,_,rfl,_,rfl,p,l,i,rfl,rfl,rfl,sH _ _ hp,fun t2 H2 s2 h2=>⟨_,t2,_,rfl,rfl,h2,_,rfl,?_⟩⟩
    by_cases cm : l.getD i 0 ∈ l.take i
    · rw [decide_eq_true cm]
      refine iteF ⟨⟨_,_,_,rfl⟩,sH.trans s2,?_⟩
      rw [nx,show ordAt (ords n) l i = [] from if_pos cm,List.append_nil]
      exact hL.mono s2
    rw [decide_eq_false cm]
    refine iteT ?_
    have eO : ordAt (ords n) l i = (ords n (l.take i ++ l.drop (i + 1))).map (l.getD i 0 :: ·):=if_neg cm
    rw [eO] at nx nle
    have sH2:=sH.trans s2
    refine ⟨_,rfl,_,rfl,_,rfl,p,l,i,rfl,rfl,rfl,sH2 _ _ hp,fun t3 H3 s3 h3=>?_⟩
    refine ⟨_,rfl,_,rfl,_,_,rfl,rfl,_,rfl,p,l,i + 1,rfl,by rw [Int.natCast_add]; rfl,rfl,s3 _ _ (sH2 _ _ hp),fun t4 H4 s4 h4'=>?_⟩
    refine cat_rows (r:=l.take i) (r':=l.drop (i + 1)) (s4 _ _ h3) h4' (small (by rw [List.length_take,List.length_drop]; omega)) fun t5 H5 s5 h5=>?_
    have s25:=s3.trans (s4.trans s5)
    have sH5:=sH2.trans s25
    have lr : (l.take i ++ l.drop (i + 1)).length = l.length - 1:=by rw [List.length_append,List.length_take,List.length_drop]; omega
    refine ⟨t5,_,rfl,h5,by omega,by omega,fun r H6 fr s6 e6=>?_⟩
    have rl:=ords_row n (l.take i ++ l.drop (i + 1))
    generalize ords n (l.take i ++ l.drop (i + 1)) = rest at e6 nx nle rl
    obtain ⟨vs2,e2,i2⟩:=e6
    have l2:=Paired.length i2
    have hL6:=(hL.mono s2).mono (s25.trans s6)
    generalize ((List.range l.length).take i).flatMap (ordAt (ords n) l) = pre at hL6 nx nle
    have hra : r ≠ a:=fun z=>by
      obtain ⟨zs,ez,_⟩:=(hL.mono s2).mono s25
      rw [z] at fr
      rw [ez] at fr
      cases fr
    refine ⟨r,rfl,⟨_,SqL.of e2⟩,?_⟩
    refine for_list (xs:=vs2) (fun j σ H'=>(∃ c4,σ = [some (.ref p),some (.ref a),some (.int i),some (.int (l.getD i 0)),c4]) ∧ Same H H' ∧ H' r = some (.lst vs2) ∧ Its H' vs2 rest ∧ LstAt H' a (pre ++ (rest.take j).map (l.getD i 0 :: ·))) ?_ ?_ ?_ ?_
    · exact ⟨⟨_,rfl⟩,sH5.trans s6,e2,i2,by simpa using hL6⟩
    · rintro j σ H7 _ ⟨_,_,e3,_⟩
      exact SqL.of e3
    · rintro j x σ H7 hx ⟨⟨c4,rfl⟩,s7,e3,i3,pv2,eL3,iL3⟩
      obtain ⟨row,hrow,hx2⟩:=Paired.get i3 hx
      obtain ⟨px,rfl,hpx⟩:=row_at hx2
      have jl : j < rest.length:=(List.getElem?_eq_some_iff.mp hrow).1
      have len3 : pv2.length < sizeLine:=by
        have z:=Paired.length iL3
        rw [List.length_append,List.length_map,List.length_take] at z
        rw [List.length_append,List.length_map] at nle
        exact smallS (by omega)
      have rw4:=rl row (List.mem_of_getElem? hrow)
      refine ⟨_,rfl,.inl ⟨rfl,_,SqL.of eL3⟩,_,rfl,(by show 1 ≤ sizeLine; decide),fun p8 h8=>⟨_,rfl,?_⟩⟩
      have s8:=same_new h8 (.tup [.int (l.getD i 0)])
      refine cat_rows (r:=[l.getD i 0]) (r':=row) upd_same (s8 _ _ hpx) (small (by show 1 + row.length ≤ 100000; omega)) fun p9 H9 s9 h9=>?_
      have s89:=s8.trans s9
      have eL4:=s89 _ _ eL3
      have t4 : Tups H9 (upd H9 a (.lst (pv2 ++ [.ref p9]))):=tups_at eL4 _
      refine ⟨a,pv2,.ref p9,rfl,rfl,eL4,len3,⟨_,rfl⟩,same_at fa (s7.trans s89) _,?_,Its.mono ((Tups.same s89).trans t4) i3,pv2 ++ [.ref p9],upd_same,?_⟩
      · rw [upd_ne hra]; exact s89 _ _ e3
      · rw [take_at hrow,List.map_append,← List.append_assoc]
        exact Paired.snoc (Its.mono ((Tups.same s89).trans t4) iL3) (Dat.mono t4 (row_is h9))
    · rintro σ H7 ⟨⟨c4,rfl⟩,s7,e3,i3,hL3⟩
      refine ⟨⟨_,_,_,rfl⟩,s7,?_⟩
      rw [nx]
      rw [l2,List.take_length] at hL3
      exact hL3
  · rintro σ H1 ⟨⟨c2,c3,c4,rfl⟩,sH,hL⟩
    refine ⟨_,rfl,q a H1 fa sH ?_⟩
    rw [tot]
    rw [List.length_map,List.take_of_length_le (by rw [List.length_range]; exact Nat.le_refl _)] at hL
    exact hL
theorem or_none_left : FnOk P w K mg base CX0 0 f fd ["numbers"] (spOr 0):=by
  have no : ∀ vs H Q E,¬ spOr 0 vs H Q E:=fun vs H Q E h=>by
    obtain ⟨p,l,_,_,h1,_⟩:=h
    omega
  exact ⟨fun vs H Q E h=>absurd h (no vs H Q E),fun A outer s H args us vs Q E _ _ _ _ h=>absurd h (no vs H Q E)⟩
theorem all_or (F : Fun K "orders" "orders" sOr f fd) (bF : Binds K fd ["numbers"] []) (mU : mg "orders" = some (.ref f)) (me : mg "enumerate" = none) : ∀ n,FnOk P w K mg base CX0 n f fd ["numbers"] (spOr n)
  | 0=>or_none_left
  | n + 1=>ok_or F (all_or F bF mU me n) bF mU me
end
end L2.K23
set_option maxHeartbeats 4000000
namespace L2.K23
open PySem
open L2.Pl L2.Ev
section
variable {P : Program} {w : World} {K : PySem.W.Frag} {mg : Str → Option Value} {base : Heap} {f g : Addr} {fd gd : FuncData}
abbrev nW : List Str:=["_law_found"]
theorem scW : FnScope nW ["_law_found"] (defScope sWhole):=⟨rfl,rfl,rfl,by decide +kernel,rfl,by decide +kernel,by decide +kernel⟩
def spWhole : Sp:=fun vs H Q _=>∃ n : Int,vs = [.int n] ∧ Q (.bl true) H
theorem ok_whole (F : Fun K "_law_whole" "_law_whole" sWhole f fd) (mi : mg "isinstance" = none) (m1 : mg "int" = none) (m2 : mg "bool" = none) : FnOk P w K mg base CX0 2 f fd ["_law_found"] spWhole:=by
  refine F.ok scW (fun vs H Q E h=>?_) (fun cdv A outer s H vs Q E hr h=>?_)
  · obtain ⟨n,rfl,_⟩:=h
    rfl
  obtain ⟨n,rfl,q⟩:=h
  refine ⟨_,pss_one (ps_ret (pe_and (pe_callB call_isinst rfl mi PyProof.Rows.boot_isinstance (pa_cons (pv 0) (pa_cons (pe_bltn (v:=.ty "int") rfl m1 PyProof.Rows.boot_int rfl) pa_nil)))
    (pe_one (pe_not (pe_callB call_isinst rfl mi PyProof.Rows.boot_isinstance (pa_cons (pv 0) (pa_cons (pe_bltn (v:=.ty "bool") rfl m2 PyProof.Rows.boot_bool rfl) pa_nil))))))),?_⟩
  exact ⟨_,rfl,_,_,_,_,rfl,TyOf.int _,kit_same _ _,_,rfl,iteT ⟨_,rfl,_,_,_,_,rfl,TyOf.int _,kit_int_bool _,_,rfl,q⟩⟩
abbrev nC : List Str:=["_law_script", "_law_k"]
theorem scC : FnScope nC nC (defScope sCell):=⟨rfl,rfl,rfl,by decide +kernel,rfl,by decide +kernel,by decide +kernel⟩
def spCell (K : PySem.W.Frag) : Sp:=fun vs H Q _=>∃ (a : Addr) (ns : List Int) (k : Nat),vs = [.ref a,.int k] ∧ SqL K H a (ns.map V.int) ∧ Q (.int (cellv ns k)) H
theorem ok_cell (F : Fun K "_law_cell" "_law_cell" sCell f fd) (ml : mg "len" = none) : FnOk P w K mg base CX0 2 f fd nC (spCell K):=by
  refine F.ok scC (fun vs H Q E h=>?_) (fun cdv A outer s H vs Q E hr h=>?_)
  · obtain ⟨a,ns,k,rfl,_⟩:=h
    rfl
  obtain ⟨a,ns,k,rfl,hS,q⟩:=h
  refine ⟨_,pss_cons (ps_if (pt_cmpR op_lt (pv 1) (pe_callB call_len_seq rfl ml PySem.boot_len (pa_cons (pv 0) pa_nil)) (nomark _)) (pss_one (ps_ret (pe_op op_mod (pe_ix ix_list (pv 0) (pv 1) (fun _ _=>rfl)) pe_int))) pss_nil)
    (pss_one (ps_ret pe_int)),?_⟩
  refine ⟨_,rfl,_,rfl,a,_,rfl,.inl hS,_,_,rfl,rfl,_,rfl,?_⟩
  unfold cellv at q
  rw [List.length_map]
  by_cases c : k < ns.length
  · rw [if_pos c] at q
    refine iteY (by omega) ⟨_,rfl,_,rfl,a,_,_,.int (ns.getD k 0),rfl,rfl,hS,?_,_,_,rfl,rfl,(by show (0 : Int) < 2147483647; decide),q⟩
    refine atI_nat ?_
    rw [List.getElem?_map,List.getElem?_eq_getElem c]
    simp [c]
  · rw [if_neg c] at q
    exact iteN (by omega) q
abbrev nT : List Str:=["_law_cell_here", "_law_k", "_law_many", "_law_number_here"]
theorem scT : FnScope nT ["_law_cell_here", "_law_k", "_law_many"] (defScope sThing):=⟨rfl,rfl,rfl,by decide +kernel,rfl,by decide +kernel,by decide +kernel⟩
def spThing : Sp:=fun vs H Q _=>∃ c k m : Int,vs = [.int c,.int k,.int m] ∧ 0 ≤ k ∧ k ≤ 100000 ∧ 0 < m ∧ Q (.int (thing c k m)) H
theorem ok_thing (F : Fun K "_law_thing" "_law_thing" sThing f fd) : FnOk P w K mg base CX0 2 f fd ["_law_cell_here", "_law_k", "_law_many"] spThing:=by
  refine F.ok scT (fun vs H Q E h=>?_) (fun cdv A outer s H vs Q E hr h=>?_)
  · obtain ⟨c,k,m,rfl,_⟩:=h
    rfl
  obtain ⟨c,k,m,rfl,k0,k1,m0,q⟩:=h
  refine ⟨_,pss_cons (ps_set (i:=3) scT.nd rfl (Or.inl rfl) (pe_op op_mod (pe_op op_add (pe_op op_add (pe_op op_mul (pe_op op_mod (pv 0) pe_int) pe_int) (pe_op op_mul (pe_op op_mul pe_int (pv 1)) (pv 1))) (pe_op op_mul pe_int (pv 1))) pe_int))
    (pss_one (ps_ret (pe_op op_mod (pe_op op_mod (pe_op op_mul (pv 3) (pv 3)) pe_int) (pv 2)))),?_⟩
  have z0 : 0 ≤ (c % 2147483647 * 48271 + 69621 * k * k + 7 * k) % 2147483629:=Int.emod_nonneg _ (by decide)
  have z1 : (c % 2147483647 * 48271 + 69621 * k * k + 7 * k) % 2147483629 < 2147483629:=Int.emod_lt_of_pos _ (by decide)
  refine ⟨_,rfl,_,_,rfl,rfl,(by show (0 : Int) < 2147483647; decide),_,_,rfl,rfl,.inr ⟨by decide,by decide⟩,_,rfl,_,_,rfl,rfl,.inl ⟨by decide,by decide⟩,_,rfl,_,_,rfl,rfl,.inr ⟨?_,?_⟩,_,_,rfl,rfl,_,rfl,_,_,rfl,rfl,.inl ⟨by decide,by decide⟩,_,_,rfl,rfl,_,_,rfl,rfl,(by show (0 : Int) < 2147483629; decide),?_⟩
  · show -(2 ^ 64) < k; omega
  · show k < 2 ^ 64; omega
  refine ⟨_,rfl,_,rfl,_,_,rfl,rfl,.inl ⟨?_,?_⟩,_,_,rfl,rfl,(by show (0 : Int) < 2147483587; decide),_,rfl,_,_,rfl,rfl,m0,q⟩
  · show -(2 ^ 64) < _ % _; omega
  · show _ % _ < (2 ^ 64 : Int); omega
abbrev nN : List Str:=["_law_cell_here", "_law_number_here"]
theorem scN : FnScope nN ["_law_cell_here"] (defScope sNum):=⟨rfl,rfl,rfl,by decide +kernel,rfl,by decide +kernel,by decide +kernel⟩
def spNum : Sp:=fun vs H Q _=>∃ c : Int,vs = [.int c] ∧ Q (.int (lnum 57 c)) H
theorem ok_num (F : Fun K "_law_number" "_law_number" sNum f fd) : FnOk P w K mg base CX0 2 f fd ["_law_cell_here"] spNum:=by
  refine F.ok scN (fun vs H Q E h=>?_) (fun cdv A outer s H vs Q E hr h=>?_)
  · obtain ⟨c,rfl,_⟩:=h
    rfl
  obtain ⟨c,rfl,q⟩:=h
  refine ⟨_,pss_cons (ps_set (i:=1) scN.nd rfl (Or.inl rfl) (pe_op op_mod (pe_op op_fdiv (pv 0) pe_int) (pe_op op_pow pe_int pe_int)))
    (pss_cons (ps_if (pt_cmpR op_eq (pe_op op_mod (pv 0) pe_int) pe_int (nomark _)) (pss_one (ps_ret (pe_op op_sub (pe_op op_mod (pv 1) pe_int) pe_int))) pss_nil)
    (pss_cons (ps_if (pt_cmpR op_eq (pe_op op_mod (pv 0) pe_int) pe_int (nomark _)) (pss_one (ps_ret (pe_op op_sub pe_int (pv 1)))) pss_nil)
    (pss_one (ps_ret (pv 1))))),?_⟩
  refine ⟨_,rfl,_,_,rfl,rfl,⟨by decide,by decide⟩,_,_,rfl,rfl,⟨by decide,by decide,by decide⟩,_,_,rfl,rfl,(by show (0 : Int) < 10 ^ 57; decide),?_⟩
  refine ⟨_,rfl,_,_,rfl,rfl,(by show (0 : Int) < 4; decide),rfl,_,rfl,?_⟩
  unfold lnum at q
  refine ite2 (fun e=>?_) (fun e=>?_)
  · have e' : c % 4 = 0:=by
      have:=of_decide_eq_true e
      injection this
    rw [if_pos e'] at q
    exact ⟨_,rfl,_,_,rfl,rfl,(by show (0 : Int) < 5; decide),_,_,rfl,rfl,q⟩
  have e' : ¬ c % 4 = 0:=fun z=>e (decide_eq_true (congrArg V.int z))
  rw [if_neg e'] at q
  refine ⟨_,rfl,_,_,rfl,rfl,(by show (0 : Int) < 4; decide),rfl,_,rfl,?_⟩
  refine ite2 (fun e=>?_) (fun e=>?_)
  · have e'' : c % 4 = 1:=by
      have:=of_decide_eq_true e
      injection this
    rw [if_pos e''] at q
    exact ⟨_,rfl,_,_,rfl,rfl,q⟩
  · have e'' : ¬ c % 4 = 1:=fun z=>e (decide_eq_true (congrArg V.int z))
    rw [if_neg e''] at q
    exact ⟨_,rfl,q⟩
abbrev pP : List Str:=["_law_cell_here", "_law_far", "_law_many", "_law_weight"]
abbrev nP : List Str:=["_law_cell_here", "_law_far", "_law_many", "_law_weight", "_law_found", "_law_left", "_law_k", "_law_turn"]
theorem scP : FnScope nP pP (defScope sPow):=⟨rfl,rfl,rfl,by decide +kernel,rfl,by decide +kernel,by decide +kernel⟩
def spPow : Sp:=fun vs H Q _=>∃ (c far w : Int) (n : Nat),vs = [.int c,.int far,.int n,.int w] ∧ 1 ≤ n ∧ n ≤ 100 ∧ 0 ≤ far ∧ far ≤ 500 ∧ 0 ≤ w ∧ w ≤ 100000 ∧ ∀ p H',Same H H' → H' p = some (.tup ((lpow c far w n).map V.int)) → Q (.ref p) H'
theorem ok_pow (F : Fun K "_law_powers" "_law_powers" sPow f fd) (G : FnOk P w K mg base CX0 2 g gd ["_law_cell_here", "_law_k", "_law_many"] spThing) (bT : Binds K gd ["_law_cell_here", "_law_k", "_law_many"] []) (kT : PySem.W.keepIn K (.ref g) = true) (mT : mg "_law_thing" = some (.ref g))
    (mr : mg "range" = none) (mt : mg "tuple" = none) : FnOk P w K mg base CX0 3 f fd pP spPow:=by
  refine F.ok scP (fun vs H Q E h=>?_) (fun cdv A outer s H vs Q E hr h=>?_)
  · obtain ⟨c,far,w,n,rfl,_⟩:=h
    rfl
  obtain ⟨c,far,w,n,rfl,n1,n2,f0,f1,w0,w1,q⟩:=h
  refine ⟨_,pss_cons (ps_set (i:=4) scP.nd rfl (Or.inl rfl) (pe_lst pa_nil))
    (pss_cons (ps_set (i:=5) scP.nd rfl (Or.inl rfl) (pv 3))
    (pss_cons (ps_for PassesOwn.never rfl (pi_range1 rfl mr (pa_cons (pv 2) pa_nil)) (pg_name (i:=6) scP.nd rfl (Or.inl rfl))
      (pss_cons (ps_expr (pe_bm PySem.F.plainAttrs_list PySem.F.slot_list_append PySem.F.type_list_append mt_append (pv 4) (pa_cons (pe_call G hr rfl mT kT bT .nil pass0 (pa_cons (pv 0) (pa_cons (pe_op op_add (pv 1) (pv 6)) (pa_cons (pe_op op_add (pv 5) pe_int) pa_nil)))) pa_nil)))
      (pss_one (ps_set (i:=5) scP.nd rfl (Or.inl rfl) (pe_op op_sub (pv 5) (pe_ix ix_list (pv 4) (pe_un un_neg pe_int) (fun _ _=>rfl)))))))
    (pss_cons (ps_if (pt_cmpR op_eq (pe_call G hr rfl mT kT bT .nil pass0 (pa_cons (pv 0) (pa_cons (pe_op op_add (pv 1) pe_int) (pa_cons pe_int pa_nil)))) pe_int (nomark _))
      (pss_one (ps_asg (pe_op op_add (pe_ix ix_list (pv 4) (pe_un un_neg pe_int) (fun _ _=>rfl)) (pv 5)) (pg_sub (pv 4) (pe_un un_neg pe_int) set_list))) pss_nil)
    (pss_cons (ps_set (i:=7) scP.nd rfl (Or.inl rfl) (pe_call G hr rfl mT kT bT .nil pass0 (pa_cons (pv 0) (pa_cons (pe_op op_add (pv 1) pe_int) (pa_cons (pv 2) pa_nil)))))
    (pss_one (ps_ret (pe_callTy call_tuple_of rfl mt PyProof.Rows.boot_tuple (pa_cons (pe_op op_cat (pe_slice sl_list (pv 4) (po_some (pv 7)) po_none) (pe_slice sl_list (pv 4) po_none (po_some (pv 7)))) pa_nil)))))))),?_⟩
  refine ⟨(by show 0 ≤ sizeLine; decide),fun l hl=>?_⟩
  have s0:=same_new hl (.lst [])
  refine ⟨_,rfl,_,rfl,n,rfl,by omega,by omega,?_⟩
  refine for_range (n:=(n : Int).toNat) (fun i σ H'=>(∃ c6 c7,σ = [some (.int c),some (.int far),some (.int n),some (.int w),some (.ref l),some (.int (pstep c far w i).2),c6,c7]) ∧ i ≤ n ∧ H' l = some (.lst ((pstep c far w i).1.map V.int)) ∧ Same H H') ?_ ?_ ?_
  · exact ⟨⟨_,_,rfl⟩,Nat.zero_le _,upd_same,s0⟩
  · rintro i σ H1 hi ⟨⟨c6,c7,rfl⟩,i1,h1,s1⟩
    obtain ⟨p1,p2,p3,p4⟩:=pstep_ok (c:=c) (far:=far) w0 i
    refine ⟨_,rfl,.inl ⟨rfl,_,SqL.of h1⟩,?_⟩
    refine ⟨_,rfl,_,rfl,_,rfl,_,_,rfl,rfl,_,rfl,_,_,rfl,rfl,c,far + (0 + (i : Int)),_,rfl,by omega,by omega,by omega,?_⟩
    have e0 : far + (0 + (i : Int)) = far + (i : Int):=by omega
    rw [e0]
    refine ⟨l,_,_,rfl,rfl,h1,smallS (by rw [List.length_map,p1]; omega),?_⟩
    refine ⟨_,rfl,_,rfl,_,rfl,l,_,_,_,rfl,rfl,SqL.of upd_same,atI_last _ _,_,_,rfl,rfl,⟨_,_,rfl⟩,by omega,?_,?_⟩
    · rw [upd_same]
      show some (HO.lst _) = some (HO.lst (((pstep c far w i).1 ++ [_]).map V.int))
      rw [List.map_append]
      rfl
    · intro b o e
      rw [upd_ne (ne_of_none e hl)]
      exact s1 b o e
  · rintro σ H1 ⟨⟨c6,c7,rfl⟩,_,h1,s1⟩
    have en : (n : Int).toNat = n:=by omega
    rw [en] at h1
    rw [en]
    obtain ⟨p1,p2,p3,p4⟩:=pstep_ok (c:=c) (far:=far) w0 n
    obtain ⟨l1,l2,l3⟩:=lfill_ok (c:=c) (far:=far) w0 n1
    have fin : ∀ H2 : Hp,H2 l = some (.lst ((lfill c far w n).map V.int)) → Same H H2 → (tSeq (tAsg (tCall spThing [] E0 (tCons (tVar 0) (tCons (tOp (rI0 fun i j=>V.int (i + j)) (tVar 1) (tC (V.int 12))) (tCons (tVar 2) tNil)))) (gName 7))
        (tRet (tCB (fun xs H Q=>∃ p ys,xs = [.ref p] ∧ ((SqL K H p ys ∧ ∀ l,H l = none → Q (.ref l) (upd H l (.tup ys))) ∨ (SqT K H p ys ∧ Q (.ref p) H))) (tCons (tOp rCat (tSl (rSlL K) (tVar 4) (tPart (tVar 7)) tNoPart) (tSl (rSlL K) (tVar 4) tNoPart (tPart (tVar 7)))) tNil)))) { nx:=fun _ H'=>Q .non H',rt:=Q }
        [some (.int c),some (.int far),some (.int n),some (.int w),some (.ref l),some (.int (pstep c far w n).2),c6,c7] H2:=by
      intro H2 h2 s2
      have t0:=thing_lo (c:=c) (k:=far + 12) (show (0 : Int) < (n : Int) by omega)
      have t1:=thing_hi (c:=c) (k:=far + 12) (show (0 : Int) < (n : Int) by omega)
      refine ⟨_,rfl,_,rfl,_,_,rfl,rfl,_,rfl,c,far + 12,n,rfl,by omega,by omega,by omega,?_⟩
      obtain ⟨t,ht⟩ : ∃ t : Nat,thing c (far + 12) n = t:=⟨(thing c (far + 12) n).toNat,by omega⟩
      rw [ht]
      refine ⟨_,rfl,_,rfl,_,rfl,l,_,rfl,SqL.of h2,fun q1 hq1=>?_⟩
      have s3:=same_new hq1 (.lst (cutV ((lfill c far w n).map V.int) (some (t : Int)) none))
      refine ⟨_,rfl,_,rfl,_,rfl,l,_,rfl,SqL.of (s3 _ _ h2),fun q2 hq2=>?_⟩
      have s4:=same_new hq2 (.lst (cutV ((lfill c far w n).map V.int) none (some (t : Int))))
      refine ⟨q1,q2,_,_,rfl,rfl,s4 _ _ upd_same,upd_same,?_,fun q3 hq3=>?_⟩
      · have z1:=cutV_length ((lfill c far w n).map V.int) (some (t : Int)) none
        have z2:=cutV_length ((lfill c far w n).map V.int) none (some (t : Int))
        rw [List.length_map] at z1 z2
        exact small (by omega)
      have s5:=same_new hq3 (.lst (cutV ((lfill c far w n).map V.int) (some (t : Int)) none ++ cutV ((lfill c far w n).map V.int) none (some (t : Int))))
      refine ⟨q3,_,rfl,.inl ⟨SqL.of upd_same,fun q4 hq4=>?_⟩⟩
      have s6:=same_new hq4 (.tup (cutV ((lfill c far w n).map V.int) (some (t : Int)) none ++ cutV ((lfill c far w n).map V.int) none (some (t : Int))))
      refine q q4 _ (s2.trans (s3.trans (s4.trans (s5.trans s6)))) ?_
      rw [upd_same,cutL_hi,cutL_lo]
      unfold lpow
      rw [ht,List.map_append,List.map_drop,List.map_take]
      rfl
    refine ⟨_,rfl,_,rfl,_,_,rfl,rfl,c,far + 11,3,rfl,by omega,by omega,by decide,rfl,_,rfl,?_⟩
    refine ite2 (fun e=>?_) (fun e=>?_)
    · have e' : thing c (far + 11) 3 = 0:=by
        have:=of_decide_eq_true e
        injection this
      have ne : (pstep c far w n).1 ≠ []:=by intro z; rw [z] at p1; simp at p1; omega
      obtain ⟨m,x,em⟩ : ∃ m x,(pstep c far w n).1 = m ++ [x]:=⟨_,_,(List.dropLast_concat_getLast ne).symm⟩
      rw [em,List.map_append] at h1
      refine ⟨_,rfl,_,rfl,l,_,_,.int x,rfl,rfl,SqL.of h1,atI_last _ _,_,rfl,_,_,rfl,rfl,_,rfl,_,rfl,l,_,_,_,rfl,rfl,h1,ixN_last (by simp),?_⟩
      rw [List.map_singleton,set_last]
      refine fin _ ?_ fun b o e2=>?_
      · rw [upd_same]
        unfold lfill
        rw [if_pos e',em]
        unfold padd
        rw [List.dropLast_concat,List.getLastD_concat,List.map_append]
        rfl
      · rw [upd_ne (ne_of_none e2 hl)]
        exact s1 b o e2
    · have e' : ¬ thing c (far + 11) 3 = 0:=fun z=>e (decide_eq_true (congrArg V.int z))
      refine fin H1 ?_ s1
      unfold lfill
      rw [if_neg e']
      exact h1
abbrev nU : List Str:=["_law_terms", "_law_counts", "_law_powers_here", "_law_number_here"]
abbrev bU : List Str:=["_law_powers_here", "_law_number_here"]
theorem ndU : bU.Nodup:=by decide +kernel
theorem scU : FnScope nU ["_law_terms"] (defScope sSum):=⟨rfl,rfl,rfl,by decide +kernel,rfl,by decide +kernel,by decide +kernel⟩
def spSum : Sp:=fun vs H Q _=>∃ (a : Addr) (ts : List Mon),vs = [.ref a] ∧ LstAt H a ts ∧ ts.length ≤ 100000 ∧ ∀ (l : Addr) (H' : Hp),H l = none → Same H H' → LstAt H' l (norm ts) → Q (.ref l) H'
theorem ok_sum (F : Fun K "_law_sum" "_law_sum" sSum f fd) (ms : mg "sorted" = none) : FnOk P w K mg base CX0 2 f fd ["_law_terms"] spSum:=by
  refine F.ok scU (fun vs H Q E h=>?_) (fun cdv A outer s H vs Q E hr h=>?_)
  · obtain ⟨a,ts,rfl,_⟩:=h
    rfl
  obtain ⟨a,ts,rfl,hL,hlen,q⟩:=h
  have hu:=hu_of hr
  have h8:=hu8 hr
  refine ⟨_,pss_cons (ps_set (i:=1) scU.nd rfl (Or.inl rfl) pe_dnewT)
    (pss_cons (ps_for PassesOwn.never rfl (pi_list (pv 0)) (pg_tup rfl (pgs_cons (pg_name (i:=2) scU.nd rfl (Or.inl rfl)) (pgs_cons (pg_name (i:=3) scU.nd rfl (Or.inl rfl)) pgs_nil)))
      (pss_one (ps_dput hu (pv 1) (pv 2) (pe_op op_add (pe_dget2 hu (pv 1) (pv 2) pe_int ⟨rfl,rfl,rfl,rfl⟩) (pv 3)) rfl)))
    (pss_one (ps_ret (pe_sortedL (α:=Mon) rfl h8 rfl ms (pa_cons (pe_comp (N':=bU) (src:=[none,none]) rfl (pi_items (pv 1)) (bk_of (defScope sSum) nU (by decide +kernel))
      (fun b=>pg_tup rfl (pgs_cons (pg_name (i:=0) ndU rfl (Or.inl rfl)) (pgs_cons (pg_name (i:=1) ndU rfl (Or.inl rfl)) pgs_nil)))
      (fun b=>pts_one (pt_cmpR op_ne (pv 1) pe_int (nomark _)))
      (fun b=>pe_tup (pa_cons (pv 0) (pa_cons (pv 1) pa_nil)))) pa_nil))))),?_⟩
  intro d hd
  obtain ⟨vs,eL,iL⟩:=hL
  have lv:=Paired.length iL
  have s0 : Same H (upd H d (.dT [])):=same_new hd _
  refine ⟨_,rfl,a,rfl,⟨vs,SqL.of (s0 _ _ eL)⟩,?_⟩
  refine for_list (xs:=vs) (fun i σ H'=>(∃ c2 c3,σ = [some (.ref a),some (.ref d),c2,c3]) ∧ H' d = some (.dT (toK (dsum (ts.take i)))) ∧ Same H H') ?_ ?_ ?_ ?_
  · exact ⟨⟨_,_,rfl⟩,upd_same,s0⟩
  · rintro i σ H1 _ ⟨_,_,s1⟩
    exact SqL.of (s1 _ _ eL)
  · rintro i x σ H1 hx ⟨⟨c2,c3,rfl⟩,h1,s1⟩
    obtain ⟨t,ht,hi⟩:=its_at iL hx
    obtain ⟨p,k,rfl,hp,hk⟩:=mon_at hi
    have hk1:=s1 _ _ hk
    refine ⟨p,_,rfl,SqT.of (s1 _ _ hp),rfl,_,_,rfl,_,_,rfl,rfl,?_⟩
    have g:=DGet.t (k:=t.1.map Sum.inl) h1 (by rw [kV_inl]; exact hk1)
    rw [toK_val] at g
    refine ⟨_,rfl,d,rfl,.inr ⟨_,.inl h1⟩,_,rfl,_,g,_,rfl,(dget (dsum (ts.take i)) t.1).getD 0,t.2,?_,rfl,_,rfl,_,rfl,d,_,rfl,DPut.t (k:=t.1.map Sum.inl) h1 (by rw [kV_inl]; exact hk1) ?_,?_⟩
    · cases dget (dsum (ts.take i)) t.1 <;> rfl
    · rw [toK_len]
      have:=dsum_len (ts.take i)
      rw [List.length_take] at this
      exact smallS (by omega)
    · refine ⟨⟨_,_,rfl⟩,?_,fun b o e=>?_⟩
      · rw [take_at ht,dsum_snoc,← toK_put]
        exact upd_same
      · rw [upd_ne (ne_of_none e hd)]
        exact s1 b o e
  · rintro σ H1 ⟨⟨c2,c3,rfl⟩,h1,s1⟩
    rw [List.take_of_length_le (by omega)] at h1
    have dl:=dsum_len ts
    refine ⟨_,rfl,d,dsum ts,rfl,h1,fun o b D hD=>?_⟩
    have hd1 : (upd H1 d (.frz o (.dT (toK (dsum ts))))) d = some (.frz o (.dT (toK (dsum ts)))):=upd_same
    have s2 : Same H (upd H1 d (.frz o (.dT (toK (dsum ts))))):=fun b u e=>by
      rw [upd_ne (ne_of_none e hd)]
      exact s1 b u e
    refine comp_items (α:=Mon) hD hd1 (fun σ=>∃ c e,σ = [c,e]) (fun i=>((dsum ts)[i]?).bind fun t=>if t.2 ≠ 0 then some t else none) (small (by omega)) ?_ ?_ ?_
    · exact ⟨_,_,rfl⟩
    · rintro i t p k σ H2 Yes No ht hp hk ⟨c,e,rfl⟩ s3 yes no
      have s4:=same_new hp (.tup [.ref k,.int t.2])
      refine ⟨p,_,rfl,SqT.of upd_same,rfl,_,_,rfl,_,_,rfl,rfl,?_⟩
      refine ⟨_,rfl,rfl,_,rfl,?_⟩
      by_cases c0 : t.2 = 0
      · have e0 : (!decide (V.int t.2 = V.int 0)) = false:=by rw [decide_eq_true (congrArg V.int c0)]; rfl
        rw [e0]
        refine iteF ?_
        exact no _ _ ⟨_,_,rfl⟩ s4 (by rw [ht,Option.bind_some,if_neg (by simpa using c0)])
      · have e0 : (!decide (V.int t.2 = V.int 0)) = true:=by
          rw [decide_eq_false (fun z=>c0 (by injection z))]
          rfl
        rw [e0]
        refine iteT ⟨_,rfl,_,rfl,(by show 2 ≤ sizeLine; decide),fun r hr=>?_⟩
        have s5:=same_new hr (.tup [.ref k,.int t.2])
        exact yes _ _ _ t ⟨_,_,rfl⟩ (s4.trans s5) (by rw [ht,Option.bind_some,if_pos (by simpa using c0)]) (mon_is upd_same (s5 _ _ (s4 _ _ hk)))
    · intro H2 s3 hL
      refine ⟨D,_,rfl,hL,fun _ _=>True.intro,fun p vs' l' hp pm so it=>?_⟩
      refine q p _ (s2.free (s3.free hp)) (s2.trans (s3.trans (same_new hp _))) ⟨vs',upd_same,?_⟩
      have e : l' = norm ts:=by
        refine by_pairs ?_ so
        rw [range_map,filter_map_if (fun t : Mon=>t.2 ≠ 0) (fun t=>t),List.map_id'] at pm
        exact pm
      rw [← e]
      exact Its.mono (tups_new hp _) it
abbrev nM : List Str:=["_law_found", "_law_due_here", "_law_one", "_law_other"]
abbrev bM : List Str:=["_law_number_here"]
theorem ndM : bM.Nodup:=by decide +kernel
theorem scM : FnScope nM ["_law_found", "_law_due_here"] (defScope sSame):=⟨rfl,rfl,rfl,by decide +kernel,rfl,by decide +kernel,by decide +kernel⟩
def spSame : Sp:=fun vs H Q _=>∃ (a b : Addr) (ts : List Mon),vs = [.ref a,.ref b] ∧ LstAt H a ts ∧ LstAt H b ts ∧ ts.length ≤ 100000 ∧ (∀ t ∈ ts,t.1.length ≤ 100) ∧ ∀ H',Same H H' → Q (.bl true) H'
theorem ok_same (F : Fun K "_law_same" "_law_same" sSame f fd) (G : FnOk P w K mg base CX0 2 g gd ["_law_found"] spWhole) (bW : Binds K gd ["_law_found"] []) (kW : PySem.W.keepIn K (.ref g) = true) (mW : mg "_law_whole" = some (.ref g))
    (mi : mg "isinstance" = none) (ml : mg "list" = none) (mt : mg "tuple" = none) (mn : mg "len" = none) (mz : mg "zip" = none) (ma : mg "all" = none) : FnOk P w K mg base CX0 3 f fd ["_law_found", "_law_due_here"] spSame:=by
  refine F.ok scM (fun vs H Q E h=>?_) (fun cdv A outer s H vs Q E hr h=>?_)
  · obtain ⟨a,b,ts,rfl,_⟩:=h
    rfl
  obtain ⟨a,b,ts,rfl,⟨vs,eL,iL⟩,⟨vs2,eL2,iL2⟩,hlen,hpl,q⟩:=h
  refine ⟨_,pss_cons (ps_if (PW.pt (pw_or (pt_not (pt_val (pe_callB call_isinst rfl mi PyProof.Rows.boot_isinstance (pa_cons (pv 0) (pa_cons (pe_bltn (v:=.ty "list") rfl ml PyProof.Rows.boot_list rfl) pa_nil)))))
      (pw_or1 (pt_cmpR op_ne (pe_callB call_len_seq rfl mn PySem.boot_len (pa_cons (pv 0) pa_nil)) (pe_callB call_len_seq rfl mn PySem.boot_len (pa_cons (pv 1) pa_nil)) (nomark _))))) (pss_one (ps_ret pe_bl)) pss_nil)
    (pss_cons (ps_for PassesOwn.never rfl (pi_zip .lst .lst rfl mz (pa_cons (pv 0) (pa_cons (pv 1) pa_nil))) (pg_tup rfl (pgs_cons (pg_name (i:=2) scM.nd rfl (Or.inl rfl)) (pgs_cons (pg_name (i:=3) scM.nd rfl (Or.inl rfl)) pgs_nil)))
      (pss_cons (ps_if (PW.pt (pw_or (pt_not (pt_val (pe_callB call_isinst rfl mi PyProof.Rows.boot_isinstance (pa_cons (pv 2) (pa_cons (pe_bltn (v:=.ty "tuple") rfl mt PyProof.Rows.boot_tuple rfl) pa_nil)))))
          (pw_or (pt_cmpR op_ne (pe_callB call_len_seq rfl mn PySem.boot_len (pa_cons (pv 2) pa_nil)) pe_int (nomark _))
          (pw_or1 (pt_not (pt_val (pe_callB call_isinst rfl mi PyProof.Rows.boot_isinstance (pa_cons (pe_ix ix_tup (pv 2) pe_int (fun _ _=>rfl)) (pa_cons (pe_bltn (v:=.ty "tuple") rfl mt PyProof.Rows.boot_tuple rfl) pa_nil))))))))) (pss_one (ps_ret pe_bl)) pss_nil)
      (pss_cons (ps_if (PW.pt (pw_or (pt_not (pt_val (pe_call G hr rfl mW kW bW .nil pass0 (pa_cons (pe_ix ix_tup (pv 2) pe_int (fun _ _=>rfl)) pa_nil))))
          (pw_or1 (pt_not (pt_val (pe_callB (call_allL rfl) rfl ma PyProof.Rows.boot_all (pa_cons (pe_comp (N':=bM) (src:=[none]) rfl (pi_tup (pe_ix ix_tup (pv 2) pe_int (fun _ _=>rfl))) (bk_of (defScope sSame) nM (by decide +kernel))
            (fun b=>pg_name (i:=0) ndM rfl (Or.inl rfl)) (fun b=>pts_nil) (fun b=>pe_call G hr rfl mW kW bW .nil pass0 (pa_cons (pv 0) pa_nil))) pa_nil))))))) (pss_one (ps_ret pe_bl)) pss_nil)
      (pss_one (ps_if (pt_cmpR (op_neP (α:=List Int) (β:=Int) (Nat.lt_of_le_of_lt (Nat.add_le_add_left (by decide : max (Dat.dep (α:=List Int)) (Dat.dep (α:=Int)) + 1 ≤ 64) _) hr.units)) (pv 2) (pv 3) (nomark _)) (pss_one (ps_ret pe_bl)) pss_nil)))))
    (pss_one (ps_ret pe_bl))),?_⟩
  have l1:=Paired.length iL
  have l2:=Paired.length iL2
  refine ⟨_,rfl,_,_,_,_,rfl,TyOf.lst eL,kit_same _ _,_,rfl,iteF ?_⟩
  refine ⟨_,rfl,a,_,rfl,.inl (SqL.of eL),_,rfl,b,_,rfl,.inl (SqL.of eL2),rfl,_,rfl,iteNN (by rw [l1,l2]) ?_⟩
  refine ⟨_,rfl,_,rfl,a,b,rfl,⟨_,SqL.of eL⟩,⟨_,SqL.of eL2⟩,?_⟩
  refine for_zip (xs:=vs) (ys:=vs2) (fun i σ H'=>(∃ c2 c3,σ = [some (.ref a),some (.ref b),c2,c3]) ∧ Same H H') ?_ ?_ ?_ ?_
  · exact ⟨⟨_,_,rfl⟩,Same.refl _⟩
  · rintro i σ H1 ⟨_,s1⟩
    exact ⟨SqL.of (s1 _ _ eL),SqL.of (s1 _ _ eL2)⟩
  · rintro i x y p σ H1 hx hy hp1 ⟨⟨c2,c3,rfl⟩,s1⟩
    obtain ⟨t,ht,hi⟩:=its_at iL hx
    obtain ⟨t',ht',hi'⟩:=its_at iL2 hy
    rw [ht] at ht'
    cases ht'
    have s2:=s1.trans (same_new hp1 (.tup [x,y]))
    have d1:=Dat.mono (Tups.same s2) hi
    have d2:=Dat.mono (Tups.same s2) hi'
    refine ⟨p,_,rfl,SqT.of upd_same,rfl,_,_,rfl,_,_,rfl,rfl,?_⟩
    obtain ⟨px,k,rfl,hpx,hk⟩:=mon_at d1
    refine ⟨_,rfl,_,_,_,_,rfl,TyOf.tup hpx,kit_same _ _,_,rfl,iteF ?_⟩
    refine ⟨_,rfl,px,_,rfl,.inr (SqT.of hpx),rfl,_,rfl,iteNN rfl ?_⟩
    refine ⟨_,rfl,px,_,_,_,rfl,rfl,SqT.of hpx,atI_nat (j:=0) rfl,_,_,_,_,rfl,TyOf.tup hk,kit_same _ _,_,rfl,iteF ?_⟩
    refine ⟨_,rfl,px,_,_,_,rfl,rfl,SqT.of hpx,atI_nat (j:=1) rfl,t.2,rfl,_,rfl,iteF ?_⟩
    refine ⟨_,rfl,px,_,_,_,rfl,rfl,SqT.of hpx,atI_nat (j:=0) rfl,k,rfl,⟨_,SqT.of hk⟩,fun bk D hD=>?_⟩
    refine comp_tup (α:=Bool) hD (SqT.of hk) (fun σ=>∃ c,σ = [c]) (fun i=>(t.1[i]?).bind fun _=>some true) (small (by rw [List.length_map]; have:=hpl t (List.mem_of_getElem? ht); omega)) ?_ ?_ ?_
    · exact ⟨_,rfl⟩
    · rintro j z σ H2 Yes No hz ⟨c,rfl⟩ s3 yes no
      rw [List.getElem?_map] at hz
      obtain ⟨n,hn,rfl⟩:=Option.map_eq_some_iff.mp hz
      refine nameYes ?_
      refine ⟨_,rfl,n,rfl,?_⟩
      exact yes _ _ _ true ⟨_,rfl⟩ (Same.refl _) (by rw [hn]; rfl) rfl
    · rintro H2 s3 ⟨ws,eD,iD⟩
      have e : (List.range (t.1.map V.int).length).filterMap (fun i=>(t.1[i]?).bind fun _=>some true) = t.1.map fun _=>true:=by
        rw [List.length_map,range_map,List.filterMap_eq_map']
      rw [e] at iD
      rw [its_bools iD] at eD
      refine ⟨D,_,rfl,SqL.of eD,?_⟩
      have ea : (t.1.map fun _=>true).all id = true:=by simp
      rw [ea]
      refine ⟨_,rfl,iteF ?_⟩
      refine ⟨_,rfl,_,rfl,t,t,Dat.mono (Tups.same s3) d1,Dat.mono (Tups.same s3) d2,_,rfl,?_⟩
      rw [(Dat.eqb_iff t t).mpr rfl]
      exact iteF ⟨⟨_,_,rfl⟩,s2.trans s3⟩
  · rintro σ H1 ⟨⟨c2,c3,rfl⟩,s1⟩
    exact q H1 s1
end
end L2.K23
set_option maxHeartbeats 4000000
namespace L2.K23
open PySem
open L2.Pl L2.Ev
section
variable {P : Program} {w : World} {K : PySem.W.Frag} {mg : Str → Option Value} {base : Heap} {f g : Addr} {fd gd : FuncData}
def unl (ts : List Mon) (k : Nat) : List Mon:=norm (ts ++ ngt (exch ts k))
def UnR (ts : List Mon) (m : Nat) : Option (Nat × Pw) → Prop
  | none=>∀ k,k < m → unl ts k = []
  | some (k,p)=>k < m ∧ (∀ j,j < k → unl ts j = []) ∧ ∃ t r,unl ts k = t :: r ∧ t.1 = p
theorem UnR.one {ts : List Mon} {m : Nat} : ∀ {a b : Option (Nat × Pw)},UnR ts m a → UnR ts m b → a = b
  | none,none,_,_=>rfl
  | none,some (k,p),h,⟨hk,_,t,r,e,_⟩=>by rw [h k hk] at e; cases e
  | some (k,p),none,⟨hk,_,t,r,e,_⟩,h=>by rw [h k hk] at e; cases e
  | some (k,p),some (j,q),⟨hk,hk',t,r,e,ep⟩,⟨hj,hj',t',r',e',ep'⟩=>by
    have : k = j:=by
      rcases Nat.lt_trichotomy k j with c | c | c
      · rw [hj' k c] at e; cases e
      · exact c
      · rw [hk' j c] at e'; cases e'
    subst this
    rw [e] at e'
    cases e'
    rw [← ep,ep']
def isU (H : Hp) (v : V) : Option (Nat × Pw) → Prop
  | none=>v = .non
  | some (k,p)=>∃ t kk,v = .ref t ∧ H t = some (.tup [.int k,.ref kk]) ∧ H kk = some (.tup (p.map V.int))
theorem unl_len (ts : List Mon) (k : Nat) : (unl ts k).length ≤ 2 * ts.length:=by
  unfold unl
  refine Nat.le_trans (norm_len _) ?_
  rw [List.length_append]
  have:=norm_len (ts.map fun t=>(swp t.1 k,t.2))
  rw [List.length_map] at this
  unfold ngt exch
  rw [List.length_map]
  omega
theorem exch_mem {ts : List Mon} {k n : Nat} (hk : k + 1 < n) (hl : ∀ t ∈ ts,t.1.length = n) : ∀ t ∈ exch ts k,t.1.length = n:=fun t ht=>by
  obtain ⟨u,hu,e⟩:=norm_mem ht
  obtain ⟨x,hx,rfl⟩:=List.mem_map.mp hu
  rw [← e]
  show (swp x.1 k).length = n
  rw [swp_len (by rw [hl x hx]; exact hk),hl x hx]
theorem ne_of_len {n : Nat} (n1 : 1 ≤ n) {ts : List Mon} (h : ∀ t ∈ ts,t.1.length = n) : ∀ t ∈ ts,t.1 ≠ []:=fun t ht e=>by
  have:=h t ht
  rw [e] at this
  simp at this
  omega
abbrev nUn : List Str:=["many", "some", "place", "unlike"]
abbrev pUn : List Str:=["many", "some"]
theorem scUn : FnScope nUn pUn (defScope sUn):=⟨rfl,rfl,rfl,by decide +kernel,rfl,by decide +kernel,by decide +kernel⟩
def spUn (cBC : Addr) : Sp:=fun vs H Q E=>∃ (n : Int) (a : Addr) (ts : List Mon),vs = [.int n,.ref a] ∧ LstAt H a ts ∧ ts.length ≤ 1000 ∧ (¬ (1 ≤ n ∧ n ≤ 4) → E (.ref cBC) none H) ∧
  (1 ≤ n ∧ n ≤ 4 → (∀ t ∈ ts,t.1.length = n.toNat) ∧ ∀ (v : V) (o : Option (Nat × Pw)) (H' : Hp),Same H H' → UnR ts (n.toNat - 1) o → isU H' v o → Q v H')
theorem ok_un {cBC : Addr} (F : Fun K "uneven" "uneven" sUn f fd) (GC : HasX P w K mg base 3 "refuse_bad_count" ["many"] (spCntX cBC)) (GL : Has P w K mg base 3 "less" nPl (spTwo fun ts us=>ts ++ ngt us)) (GE : Has P w K mg base 3 "exchanged" ["some", "place"] spExch) (mr : mg "range" = none) : FnOk P w K mg base (CX1 P w) 4 f fd pUn (spUn cBC):=by
  refine Fun.okx F scUn (fun vs H Q E h=>?_) (fun cdv A outer s H vs Q E hr h=>?_)
  · obtain ⟨n,a,ts,rfl,_⟩:=h
    rfl
  obtain ⟨n,a,ts,rfl,hL,hl,e1,q⟩:=h
  have hM:=Nat.lt_of_le_of_lt (Nat.add_le_add_left (by decide : Dat.dep Mon + 1 ≤ 64) _) hr.units
  refine ⟨_,pss_cons (ps_expr (pe_call GC.ok hr rfl GC.at_ GC.kp GC.bd .nil pass1 (pa_cons (pv 0) pa_nil)))
    (pss_cons (ps_for ps_exc rfl (pi_range1 rfl mr (pa_cons (pe_op op_sub (pv 0) pe_int) pa_nil)) (pg_name (i:=2) scUn.nd rfl (Or.inl rfl))
      (pss_cons (ps_set (i:=3) scUn.nd rfl (Or.inl rfl) (pe_has GL hr rfl (pa_cons (pv 1) (pa_cons (pe_has GE hr rfl (pa_cons (pv 1) (pa_cons (pv 2) pa_nil))) pa_nil))))
      (pss_one (ps_if (pt_cmpR (op_neL (α:=Mon) hM) (pv 3) (pe_lst pa_nil) (nomark _)) (pss_one (ps_ret (pe_tup (pa_cons (pv 2) (pa_cons (pe_ix ix_tup (pe_ix ix_list (pv 3) pe_int (fun _ _=>rfl)) pe_int (fun _ _=>rfl)) pa_nil))))) pss_nil))))
    (pss_one (ps_ret pe_non))),?_⟩
  refine ⟨_,rfl,n,rfl,fun hn=>?_,e1⟩
  obtain ⟨n,rfl,n1,n4⟩ : ∃ k : Nat,n = k ∧ 1 ≤ k ∧ k ≤ 4:=⟨n.toNat,by omega,by omega,by omega⟩
  obtain ⟨lens,q⟩:=q hn
  rw [Int.toNat_natCast] at lens q
  refine ⟨_,rfl,_,_,rfl,rfl,_,rfl,by omega,by omega,?_⟩
  rw [show ((n : Int) - 1).toNat = n - 1 by omega]
  refine for_range (lo:=0) (n:=n - 1) (fun i σ H'=>(∃ c2 c3,σ = [some (.int n),some (.ref a),c2,c3]) ∧ Same H H' ∧ ∀ k,k < i → unl ts k = []) ?_ ?_ ?_
  · exact ⟨⟨_,_,rfl⟩,Same.refl _,fun k hk=>absurd hk (Nat.not_lt_zero _)⟩
  · rintro i σ H1 hi ⟨⟨c2,c3,rfl⟩,s1,hz⟩
    rw [Int.zero_add]
    refine ⟨_,rfl,_,rfl,_,rfl,a,n,i,ts,rfl,hL.mono s1,lens,by omega,by omega,by omega,fun l2 H2 hl2 s2 h2=>?_⟩
    have el:=norm_len (ts.map fun t=>(swp t.1 i,t.2))
    rw [List.length_map] at el
    refine ⟨a,l2,ts,exch ts i,rfl,hL.mono (s1.trans s2),h2,ne_of_len n1 lens,ne_of_len n1 (exch_mem (by omega) lens),by unfold exch; omega,fun l3 H3 hl3 s3 h3=>?_⟩
    have h3 : LstAt H3 l3 (unl ts i):=h3
    have ul:=unl_len ts i
    refine ⟨_,rfl,(by show 0 ≤ sizeLine; decide),fun l4 hl4=>?_⟩
    have s4:=same_new hl4 (.lst [])
    have sH:=s1.trans (s2.trans (s3.trans s4))
    refine ⟨l3,l4,unl ts i,[],rfl,rfl,h3.mono s4,⟨[],upd_same,.nil⟩,_,rfl,?_⟩
    cases eu : unl ts i with
    | nil=>exact iteF ⟨⟨_,_,rfl⟩,sH,fun k hk=>by
        rcases Nat.lt_succ_iff_lt_or_eq.mp hk with c | c
        · exact hz k c
        · rw [c]; exact eu⟩
    | cons t r =>
      rw [eu] at h3
      refine iteT ?_
      obtain ⟨vs,eL,iL⟩:=h3.mono s4
      obtain ⟨v0,vr,rfl⟩ : ∃ v0 vr,vs = v0 :: vr:=by
        cases vs with
        | nil=>cases iL
        | cons x y=>exact ⟨x,y,rfl⟩
      obtain ⟨x,hx,hi0⟩:=its_at (i:=0) iL rfl
      cases hx
      obtain ⟨p,kk,rfl,hp,hkk⟩:=mon_at hi0
      refine ⟨_,rfl,_,rfl,l3,_,_,.ref p,rfl,rfl,SqL.of eL,atI_nat (j:=0) rfl,p,_,_,.ref kk,rfl,rfl,SqT.of hp,atI_nat (j:=0) rfl,(by show 2 ≤ sizeLine; decide),fun t5 h5=>?_⟩
      have s5:=same_new h5 (.tup [.int i,.ref kk])
      exact q _ (some (i,t.1)) _ (sH.trans s5) ⟨hi,hz,t,r,eu,rfl⟩ ⟨t5,kk,rfl,upd_same,s5 _ _ hkk⟩
  · rintro σ H1 ⟨⟨c2,c3,rfl⟩,s1,hz⟩
    exact q _ none _ s1 hz rfl
theorem sm_swn (f : Pw → Int) (k : Nat) : ∀ ts : List Mon,sm f (ts.map fun t=>(swp t.1 k,0 - t.2)) = - sm f (ts.map fun t=>(swp t.1 k,t.2))
  | []=>rfl
  | t :: r=>by
    rw [List.map_cons,List.map_cons]
    show (0 - t.2) * f (swp t.1 k) + sm f (r.map fun t=>(swp t.1 k,0 - t.2)) = - (t.2 * f (swp t.1 k) + sm f (r.map fun t=>(swp t.1 k,t.2)))
    rw [sm_swn f k r,Int.sub_mul,Int.zero_mul]
    omega
theorem unl_due (ts : List Mon) (k : Nat) : norm (ts ++ ts.map fun t=>(swp t.1 k,0 - t.2)) = unl ts k:=by
  unfold unl
  refine norm_sm fun f=>?_
  rw [sm_app,sm_app,sm_ngt,sm_swn]
  unfold exch
  rw [sm_norm]
abbrev nDu : List Str:=["_law_some", "_law_many", "_law_k", "_law_terms", "_law_powers_here", "_law_number_here", "_law_turned_powers", "_law_left"]
abbrev pDu : List Str:=["_law_some", "_law_many"]
theorem scDu : FnScope nDu pDu (defScope sDue):=⟨rfl,rfl,rfl,by decide +kernel,rfl,by decide +kernel,by decide +kernel⟩
def spDue : Sp:=fun vs H Q _=>∃ (n : Nat) (a : Addr) (ts : List Mon),vs = [.ref a,.int n] ∧ LstAt H a ts ∧ ts.length ≤ 1000 ∧ 1 ≤ n ∧ n ≤ 4 ∧ (∀ t ∈ ts,t.1.length = n) ∧ ∀ (v : V) (o : Option (Nat × Pw)) (H' : Hp),Same H H' → UnR ts (n - 1) o → isU H' v o → Q v H'
theorem ok_due (F : Fun K "_law_due" "_law_due" sDue f fd) (GS : Has P w K mg base 3 "_law_sum" ["_law_terms"] spSum) (mr : mg "range" = none) (ml : mg "list" = none) : FnOk P w K mg base CX0 4 f fd pDu spDue:=by
  refine F.ok scDu (fun vs H Q E h=>?_) (fun cdv A outer s H vs Q E hr h=>?_)
  · obtain ⟨n,a,ts,rfl,_⟩:=h
    rfl
  obtain ⟨n,a,ts,rfl,⟨vs,eL,iL⟩,hl,n1,n4,lens,q⟩:=h
  have hM:=Nat.lt_of_le_of_lt (Nat.add_le_add_left (by decide : Dat.dep Mon + 1 ≤ 64) _) hr.units
  refine ⟨_,pss_cons (ps_for PassesOwn.never rfl (pi_range1 rfl mr (pa_cons (pe_op op_sub (pv 1) pe_int) pa_nil)) (pg_name (i:=2) scDu.nd rfl (Or.inl rfl))
      (pss_cons (ps_set (i:=3) scDu.nd rfl (Or.inl rfl) (pe_callTy call_list_of rfl ml PyProof.Rows.boot_list (pa_cons (pv 0) pa_nil)))
      (pss_cons (ps_for PassesOwn.never rfl (pi_list (pv 0)) (pg_tup rfl (pgs_cons (pg_name (i:=4) scDu.nd rfl (Or.inl rfl)) (pgs_cons (pg_name (i:=5) scDu.nd rfl (Or.inl rfl)) pgs_nil)))
        (pss_cons (ps_set (i:=6) scDu.nd rfl (Or.inl rfl) (pe_op op_catA (pe_op op_catA (pe_slice sl_tup (pv 4) po_none (po_some (pv 2)))
          (pe_tup (pa_cons (pe_ix ix_tup (pv 4) (pe_op op_add (pv 2) pe_int) (fun _ _=>rfl)) (pa_cons (pe_ix ix_tup (pv 4) (pv 2) (fun _ _=>rfl)) pa_nil))))
          (pe_slice sl_tup (pv 4) (po_some (pe_op op_add (pv 2) pe_int)) po_none)))
        (pss_one (ps_expr (pe_bm PySem.F.plainAttrs_list PySem.F.slot_list_append PySem.F.type_list_append mt_append (pv 3) (pa_cons (pe_tup (pa_cons (pv 6) (pa_cons (pe_op op_sub pe_int (pv 5)) pa_nil))) pa_nil))))))
      (pss_cons (ps_set (i:=7) scDu.nd rfl (Or.inl rfl) (pe_has GS hr rfl (pa_cons (pv 3) pa_nil)))
      (pss_one (ps_if (pt_cmpR (op_neL (α:=Mon) hM) (pv 7) (pe_lst pa_nil) (nomark _)) (pss_one (ps_ret (pe_tup (pa_cons (pv 2) (pa_cons (pe_ix ix_tup (pe_ix ix_list (pv 7) pe_int (fun _ _=>rfl)) pe_int (fun _ _=>rfl)) pa_nil))))) pss_nil))))))
    (pss_one (ps_ret pe_non)),?_⟩
  refine ⟨_,rfl,_,_,rfl,rfl,_,rfl,by omega,by omega,?_⟩
  rw [show ((n : Int) - 1).toNat = n - 1 by omega]
  have lv:=Paired.length iL
  refine for_range (lo:=0) (n:=n - 1) (fun i σ H'=>(∃ c2 c3 c4 c5 c6 c7,σ = [some (.ref a),some (.int n),c2,c3,c4,c5,c6,c7]) ∧ Same H H' ∧ ∀ k,k < i → unl ts k = []) ?_ ?_ ?_
  · exact ⟨⟨_,_,_,_,_,_,rfl⟩,Same.refl _,fun k hk=>absurd hk (Nat.not_lt_zero _)⟩
  · rintro k σ H0 hk ⟨⟨c2,c3,c4,c5,c6,c7,rfl⟩,sA,hz⟩
    rw [Int.zero_add]
    have e1 : ((k : Int) + 1) = ((k + 1 : Nat) : Int):=by omega
    have e2 : ((k : Int) + 2) = ((k + 2 : Nat) : Int):=by omega
    have eL0:=sA _ _ eL
    refine ⟨_,rfl,a,vs,rfl,.inl (SqL.of eL0),fun l hl0=>?_⟩
    have s0:=same_new hl0 (.lst vs)
    refine ⟨_,rfl,a,rfl,⟨vs,SqL.of (s0 _ _ eL0)⟩,?_⟩
    refine for_list (xs:=vs) (fun i σ H'=>(∃ c4 c5 c6,σ = [some (.ref a),some (.int n),some (.int k),some (.ref l),c4,c5,c6,c7]) ∧ LstAt H' l (ts ++ (ts.take i).map fun t=>(swp t.1 k,0 - t.2)) ∧ Same H0 H') ?_ ?_ ?_ ?_
    · refine ⟨⟨_,_,_,rfl⟩,?_,s0⟩
      rw [List.take_zero,List.map_nil,List.append_nil]
      exact ⟨vs,upd_same,Its.mono (Tups.same (sA.trans s0)) iL⟩
    · rintro i σ H1 _ ⟨_,_,s1⟩
      exact SqL.of (s1 _ _ eL0)
    · rintro i x σ H1 hx ⟨⟨c4,c5,c6,rfl⟩,⟨ws,eW,iW⟩,s1⟩
      obtain ⟨t,ht,hi⟩:=its_at iL hx
      obtain ⟨p,kk,rfl,hp,hkk⟩:=mon_at hi
      have pl:=lens t (List.mem_of_getElem? ht)
      have lw:=Paired.length iW
      have li : i < ts.length:=(List.getElem?_eq_some_iff.mp ht).1
      have hk1:=s1 _ _ (sA _ _ hkk)
      refine ⟨p,_,rfl,SqT.of (s1 _ _ (sA _ _ hp)),rfl,_,_,rfl,_,_,rfl,rfl,?_⟩
      refine ⟨_,rfl,_,rfl,_,rfl,kk,_,rfl,SqT.of hk1,?_,fun p1 h1=>?_⟩
      · rintro ⟨_,z⟩
        rw [HT.sIx_nat,List.length_map] at z
        omega
      rw [cut_lo t.1 k (by omega)]
      have s2:=same_new h1 (.tup ((t.1.take k).map V.int))
      have hk2:=s2 _ _ hk1
      refine ⟨_,rfl,_,rfl,_,_,rfl,rfl,kk,_,_,_,rfl,rfl,SqT.of hk2,by rw [e1]; exact at_row (by omega),_,rfl,_,rfl,kk,_,_,_,rfl,rfl,SqT.of hk2,at_row (by omega),(by show 2 ≤ sizeLine; decide),fun p2 h2=>?_⟩
      have s3:=same_new h2 (.tup [.int (t.1.getD (k + 1) 0),.int (t.1.getD k 0)])
      have hp1:=s3 _ _ (upd_same (H:=H1) (a:=p1) (o:=.tup ((t.1.take k).map V.int)))
      refine cat_rows (r:=t.1.take k) (r':=[t.1.getD (k + 1) 0,t.1.getD k 0]) hp1 upd_same (small (by rw [List.length_take]; show min k t.1.length + 2 ≤ 100000; omega)) fun p3 H3 s4 h3=>?_
      have hk3:=s4 _ _ (s3 _ _ hk2)
      refine ⟨_,rfl,_,rfl,_,_,rfl,rfl,_,rfl,kk,_,rfl,SqT.of hk3,?_,fun p4 h4=>?_⟩
      · rintro ⟨z,_⟩
        rw [e2,HT.sIx_nat,List.length_map] at z
        omega
      rw [e2,cut_hi]
      have s5:=same_new h4 (.tup ((t.1.drop (k + 2)).map V.int))
      refine cat_rows (s5 _ _ h3) upd_same (small (by rw [List.length_append,List.length_take,List.length_drop]; show min k t.1.length + 2 + (t.1.length - (k + 2)) ≤ 100000; omega)) fun p5 H5 s6 h5=>?_
      have all5:=s2.trans (s3.trans (s4.trans (s5.trans s6)))
      refine ⟨_,rfl,.inl ⟨rfl,_,SqL.of (all5 _ _ eW)⟩,?_⟩
      refine ⟨_,rfl,_,rfl,_,_,rfl,rfl,(by show 2 ≤ sizeLine; decide),fun p6 h6=>?_⟩
      have s7:=same_new h6 (.tup [.ref p5,.int (0 - t.2)])
      have all:=all5.trans s7
      have eW6:=all _ _ eW
      refine ⟨l,ws,_,rfl,rfl,eW6,smallS (by rw [List.length_append,List.length_map,List.length_take] at lw; omega),⟨_,_,_,rfl⟩,⟨ws ++ [.ref p6],upd_same,?_⟩,fun b o e=>?_⟩
      · rw [take_at ht,List.map_append,← List.append_assoc]
        have t6 : ∀ o,Tups (upd H5 p6 (.tup [.ref p5,.int (0 - t.2)])) (upd (upd H5 p6 (.tup [.ref p5,.int (0 - t.2)])) l o):=fun o r ys e=>by
          rw [upd_ne (ne_of e eW6 (by intro z; cases z))]; exact e
        refine Paired.snoc (Its.mono ((Tups.same all).trans (t6 _)) iW) (Dat.mono (t6 _) (mon_is (t:=(swp t.1 k,0 - t.2)) upd_same (s7 _ _ h5)))
      · rw [upd_ne (ne_of_none e hl0)]
        exact all _ _ (s1 b o e)
    · rintro σ H1 ⟨⟨c4,c5,c6,rfl⟩,hL,s1⟩
      rw [List.take_of_length_le (by omega)] at hL
      refine ⟨_,rfl,l,_,rfl,hL,by rw [List.length_append,List.length_map]; omega,fun l3 H2 hl3 s2 h2=>?_⟩
      rw [unl_due] at h2
      have ul:=unl_len ts k
      refine ⟨_,rfl,(by show 0 ≤ sizeLine; decide),fun l4 hl4=>?_⟩
      have s4:=same_new hl4 (.lst [])
      have sH:=sA.trans (s1.trans (s2.trans s4))
      refine ⟨l3,l4,unl ts k,[],rfl,rfl,h2.mono s4,⟨[],upd_same,.nil⟩,_,rfl,?_⟩
      cases eu : unl ts k with
      | nil=>exact iteF ⟨⟨_,_,_,_,_,_,rfl⟩,sH,fun j hj=>by
          rcases Nat.lt_succ_iff_lt_or_eq.mp hj with c | c
          · exact hz j c
          · rw [c]; exact eu⟩
      | cons t r =>
        rw [eu] at h2
        refine iteT ?_
        obtain ⟨us,eU,iU⟩:=h2.mono s4
        obtain ⟨v0,vr,rfl⟩ : ∃ v0 vr,us = v0 :: vr:=by
          cases us with
          | nil=>cases iU
          | cons x y=>exact ⟨x,y,rfl⟩
        obtain ⟨x,hx,hi0⟩:=its_at (i:=0) iU rfl
        cases hx
        obtain ⟨p,kk,rfl,hp,hkk⟩:=mon_at hi0
        refine ⟨_,rfl,_,rfl,l3,_,_,.ref p,rfl,rfl,SqL.of eU,atI_nat (j:=0) rfl,p,_,_,.ref kk,rfl,rfl,SqT.of hp,atI_nat (j:=0) rfl,(by show 2 ≤ sizeLine; decide),fun t5 h5=>?_⟩
        have s5:=same_new h5 (.tup [.int k,.ref kk])
        exact q _ (some (k,t.1)) _ (sH.trans s5) ⟨hk,hz,t,r,eu,rfl⟩ ⟨t5,kk,rfl,upd_same,s5 _ _ hkk⟩
  · rintro σ H1 ⟨⟨c2,c3,c4,c5,c6,c7,rfl⟩,s1,hz⟩
    exact q _ none _ s1 hz rfl
end
end L2.K23
set_option maxHeartbeats 4000000
namespace L2.K23
open PySem
open L2.Pl L2.Ev
section
variable {P : Program} {w : World} {K : PySem.W.Frag} {mg : Str → Option Value} {base : Heap} {f g : Addr} {fd gd : FuncData}
def bodyOf : Stmt → List Stmt
  | .ClassDef _ _ _ b _ _ _ _ _ _ _=>b
  | _=>[]
abbrev sIni : Stmt:=(bodyOf sUneven).getD 0 (.Pass ⟨0,0,0,0⟩)
abbrev nIni : List Str:=["self", "place", "powers"]
theorem scIni : FnScope nIni nIni (defScope sIni):=⟨rfl,rfl,rfl,by decide +kernel,rfl,by decide +kernel,by decide +kernel⟩
structure XCls (K : PySem.W.Frag) (C fI : Addr) : Prop where
  s : ExcS K C
  m : MkX K C fI
  p1 : PySem.W.findIn K (.ref C) "place" = some none
  p2 : PySem.W.findIn K (.ref C) "powers" = some none
def spIni (C : Addr) : Sp:=fun vs H Q E=>∃ (x : Addr) (v1 v2 : V),vs = [.ref x,v1,v2] ∧ H x = some (xI x C none) ∧ ∀ d,H d = none → d ≠ x → Q .non (upd (upd (upd H d (xD d [("place",v1)])) x (xI x C (some d))) d (xD d [("place",v1),("powers",v2)]))
theorem ok_ini {C C0 fI : Addr} (F : Fun K "__init__" "Uneven.__init__" sIni f fd) (M0 : mg "EvenError" = some (.ref C0)) (B : BInit K C0) (c : XCls K C fI) : FnOk P w K mg base CX0 2 f fd nIni (spIni C):=by
  refine Fun.ok F scIni (fun vs H Q E h=>?_) (fun cdv A outer s H vs Q E hr h=>?_)
  · obtain ⟨x,v1,v2,rfl,_⟩:=h
    rfl
  obtain ⟨x,v1,v2,rfl,hx,q⟩:=h
  refine ⟨_,pss_cons (ps_expr (pe_binit rfl M0 B (pa_cons (pv 0) (pa_cons pe_str pa_nil)))) (pss_cons (ps_fldX (pv 0) (pv 1) rfl) (pss_one (ps_fldX (pv 0) (pv 2) rfl))),?_⟩
  refine ⟨_,rfl,x,C,none,fI,_,rfl,hx,c.m.j,?_⟩
  refine ⟨_,rfl,_,rfl,x,C,rfl,c.s,c.p1,.inl ⟨hx,fun d hd dne=>?_⟩⟩
  refine ⟨_,rfl,_,rfl,x,C,rfl,c.s,c.p2,.inr ⟨d,[("place",v1)],by rw [upd_same],?_,(by decide : 1 < 900),?_⟩⟩
  · rw [upd_ne dne,upd_same]
  · exact q d hd dne
end
end L2.K23
set_option maxHeartbeats 4000000
namespace L2.K23
open PySem
open L2.Pl L2.Ev
section
variable {P : Program} {w : World} {K : PySem.W.Frag} {mg : Str → Option Value} {base : Heap} {f g : Addr} {fd gd : FuncData}
abbrev nRu : List Str:=["many", "some", "found"]
theorem scRu : FnScope nRu pUn (defScope sRu):=⟨rfl,rfl,rfl,by decide +kernel,rfl,by decide +kernel,by decide +kernel⟩
def spRu (cBC C : Addr) : Sp:=fun vs H Q E=>∃ (n : Int) (a : Addr) (ts : List Mon),vs = [.int n,.ref a] ∧ LstAt H a ts ∧ ts.length ≤ 1000 ∧ (¬ (1 ≤ n ∧ n ≤ 4) → E (.ref cBC) none H) ∧
  (1 ≤ n ∧ n ≤ 4 → (∀ t ∈ ts,t.1.length = n.toNat) ∧ (UnR ts (n.toNat - 1) none → ∀ H',Same H H' → Q .non H') ∧
    ∀ k p,UnR ts (n.toNat - 1) (some (k,p)) → ∀ H' d kk,Same H H' → H d = none → H' d = some (xD d [("place",.int k),("powers",.ref kk)]) → H' kk = some (.tup (p.map V.int)) → E (.ref C) (some d) H')
theorem ok_ru {cBC C fI : Addr} {fdI : FuncData} (F : Fun K "refuse_uneven" "refuse_uneven" sRu f fd) (GU : HasX P w K mg base 5 "uneven" pUn (spUn cBC)) (OI : FnOk P w K mg base CX0 4 fI fdI nIni (spIni C)) (bI : Binds K fdI nIni []) (c : XCls K C fI) (M6 : mg "Uneven" = some (.ref C)) : FnOk P w K mg base (CX1 P w) 6 f fd pUn (spRu cBC C):=by
  refine Fun.okx F scRu (fun vs H Q E h=>?_) (fun cdv A outer s H vs Q E hr h=>?_)
  · obtain ⟨n,a,ts,rfl,_⟩:=h
    rfl
  obtain ⟨n,a,ts,rfl,hL,hl,e1,q⟩:=h
  refine ⟨_,pss_cons (ps_set (i:=2) scRu.nd rfl (Or.inl rfl) (pe_call GU.ok hr rfl GU.at_ GU.kp GU.bd .nil pass1 (pa_cons (pv 0) (pa_cons (pv 1) pa_nil))))
    (pss_one (ps_if (pt_cmpR op_notN (pv 2) pe_non (nomark _)) (pss_one (ps_raiseX rfl rsX c.m OI hr bI .nil pass0 rfl M6 (pa_cons (pe_ix ix_tup (pv 2) pe_int (fun _ _=>rfl)) (pa_cons (pe_ix ix_tup (pv 2) pe_int (fun _ _=>rfl)) pa_nil)))) pss_nil)),?_⟩
  refine ⟨_,rfl,_,rfl,n,a,ts,rfl,hL,hl,e1,fun hn=>?_⟩
  obtain ⟨lens,q0,q1⟩:=q hn
  refine ⟨lens,fun v o H' sH hU hI=>?_⟩
  refine ⟨_,rfl,rfl,_,rfl,?_⟩
  cases o with
  | none =>
    obtain rfl : v = .non:=hI
    exact iteF (q0 hU H' sH)
  | some kp =>
    obtain ⟨k,p⟩:=kp
    obtain ⟨t,kk,rfl,ht,hk⟩:=hI
    refine iteT ?_
    refine ⟨_,rfl,t,_,_,_,rfl,rfl,SqT.of ht,rfl,_,rfl,t,_,_,_,rfl,rfl,SqT.of ht,rfl,(by show 2 ≤ sizeLine; decide),fun x hx=>?_⟩
    refine ⟨x,_,_,rfl,upd_same,fun d hd dne=>⟨rfl,some d,?_,?_⟩⟩
    · rw [upd_ne (Ne.symm dne),upd_same]
    · have hd' : H' d = none:=by rw [upd_ne dne] at hd; exact hd
      have key : ∀ b u,H' b = some u → drp x (upd (upd (upd (upd H' x (xI x C none)) d (xD d [("place",.int k)])) x (xI x C (some d))) d (xD d [("place",.int k),("powers",.ref kk)])) b = some u:=fun b u hb=>by
        have n1 : b ≠ x:=fun z=>by rw [z,hx] at hb; cases hb
        have n2 : b ≠ d:=fun z=>by rw [z,hd'] at hb; cases hb
        rw [drp_ne n1,upd_ne n2,upd_ne n1,upd_ne n2,upd_ne n1]
        exact hb
      refine q1 k p hU _ d kk (sH.trans key) (sH.free hd') ?_ (key _ _ hk)
      rw [drp_ne dne,upd_same]
end
end L2.K23
namespace L2.Ev
open PySem PySem.Spec PyProof.Rows
open L2.Pl
section
variable {X : Cx}
end
end L2.Ev
namespace L2.Ev
open PySem PySem.Spec PyProof.Rows
open L2.Ts L2.Pl L2.Rw
section
variable {X : Cx} {α : Type} [D : Dat α] [S : Srtd α]
end
section
variable {X : Cx}
theorem falls_eq : ∀ {a b : List Int},a.Perm b → (a.Pairwise fun x y=>y ≤ x) → (b.Pairwise fun x y=>y ≤ x) → a = b
  | [],b,h,_,_=>(List.nil_perm.mp h).symm
  | x :: a,[],h,_,_=>absurd h.symm (by simp)
  | x :: a,y :: b,h,ha,hb=>by
    obtain ⟨a1,a2⟩:=List.pairwise_cons.mp ha
    obtain ⟨b1,b2⟩:=List.pairwise_cons.mp hb
    have e : x = y:=by
      have h1 : x ∈ y :: b:=h.mem_iff.mp (List.mem_cons_self ..)
      have h2 : y ∈ x :: a:=h.mem_iff.mpr (List.mem_cons_self ..)
      rcases List.mem_cons.mp h1 with e | m1
      · exact e
      · rcases List.mem_cons.mp h2 with e | m2
        · exact e.symm
        · have:=b1 x m1
          have:=a1 y m2
          omega
    subst e
    rw [falls_eq (List.perm_cons x |>.mp h) a2 b2]
def insD (x : Int) : List Int → List Int
  | []=>[x]
  | y :: l=>if y ≤ x then x :: y :: l else y :: insD x l
def dsc (l : List Int) : List Int:=l.foldr insD []
theorem insD_perm (x : Int) : ∀ l,(insD x l).Perm (x :: l)
  | []=>.refl _
  | y :: l=>by
    unfold insD
    split
    · exact .refl _
    · exact ((insD_perm x l).cons y).trans (.swap ..)
theorem insD_falls (x : Int) : ∀ {l : List Int},(l.Pairwise fun a b=>b ≤ a) → ((insD x l).Pairwise fun a b=>b ≤ a)
  | [],_=>List.pairwise_singleton _ _
  | y :: l,h=>by
    obtain ⟨h1,h2⟩:=List.pairwise_cons.mp h
    unfold insD
    split
    · rename_i c
      exact List.pairwise_cons.mpr ⟨fun z hz=>(List.mem_cons.mp hz).elim (fun e=>e ▸ c) fun m=>by have:=h1 z m; omega,h⟩
    · rename_i c
      refine List.pairwise_cons.mpr ⟨fun z hz=>?_,insD_falls x h2⟩
      rcases List.mem_cons.mp ((insD_perm x l).mem_iff.mp hz) with e | m
      · omega
      · exact h1 z m
theorem dsc_perm : ∀ l,(dsc l).Perm l
  | []=>.refl _
  | x :: l=>(insD_perm x (dsc l)).trans ((dsc_perm l).cons x)
theorem dsc_falls : ∀ l,(dsc l).Pairwise fun a b=>b ≤ a
  | []=>.nil
  | x :: l=>insD_falls x (dsc_falls l)
theorem dsc_is {a l : List Int} (h : a.Perm l) (f : a.Pairwise fun x y=>y ≤ x) : a = dsc l:=falls_eq (h.trans (dsc_perm l).symm) f (dsc_falls l)
end
end L2.Ev
set_option maxHeartbeats 4000000
namespace L2.K23
open PySem
open L2.Pl L2.Ev
section
variable {P : Program} {w : World} {K : PySem.W.Frag} {mg : Str → Option Value} {base : Heap} {f g : Addr} {fd gd : FuncData}
theorem scFa : FnScope ["powers"] ["powers"] (defScope sFa):=⟨rfl,rfl,rfl,by decide +kernel,rfl,by decide +kernel,by decide +kernel⟩
def isF (r : List Int) : Bool:=eqbs (Dat.eqb (α:=Int)) r (dsc r)
theorem isF_iff (r : List Int) : isF r = true ↔ r = dsc r:=eqbs_iff Dat.eqb_iff _ _
def spFa : Sp:=fun vs H Q _=>∃ (p : Addr) (r : List Int),vs = [.ref p] ∧ H p = some (.tup (r.map V.int)) ∧ ∀ H',Same H H' → Q (.bl (isF r)) H'
theorem ok_fa (F : Fun K "falls" "falls" sFa f fd) (mt : mg "tuple" = none) (ms : mg "sorted" = none) : FnOk P w K mg base CX0 2 f fd ["powers"] spFa:=by
  refine F.ok scFa (fun vs H Q E h=>?_) (fun cdv A outer s H vs Q E hr h=>?_)
  · obtain ⟨p,r,rfl,_⟩:=h
    rfl
  obtain ⟨p,r,rfl,hp,q⟩:=h
  have hI:=Nat.lt_of_le_of_lt (Nat.add_le_add_left (by decide : Dat.dep Int + 1 ≤ 64) _) hr.units
  have h8:=hu8 hr
  refine ⟨_,pss_one (ps_ret (pe_cmpR (op_eqT (α:=Int) hI) (pv 0) (pe_callTy call_tuple_of rfl mt PyProof.Rows.boot_tuple (pa_cons (pe_sortedI rfl h8 rfl ms (pa_cons (pv 0) pa_nil)) pa_nil)) (nomark _))),?_⟩
  refine ⟨_,rfl,_,rfl,p,r,rfl,SqT.of hp,fun p4 m h4 pm so=>?_⟩
  rw [dsc_is pm so]
  have s4:=same_new h4 (.lst ((dsc r).map V.int))
  refine ⟨p4,_,rfl,.inl ⟨SqL.of upd_same,fun t5 h5=>?_⟩⟩
  have s5:=same_new h5 (.tup ((dsc r).map V.int))
  exact ⟨r,dsc r,row_is (s5 _ _ (s4 _ _ hp)),row_is upd_same,q _ (s4.trans s5)⟩
abbrev bRf : List Str:=["power"]
theorem ndRf : bRf.Nodup:=by decide +kernel
theorem scRf : FnScope ["powers"] ["powers"] (defScope sRf):=⟨rfl,rfl,rfl,by decide +kernel,rfl,by decide +kernel,by decide +kernel⟩
def posR (r : List Int) : List Int:=r.filter fun x=>decide (0 < x)
def spRf : Sp:=fun vs H Q _=>∃ (p : Addr) (r : List Int),vs = [.ref p] ∧ H p = some (.tup (r.map V.int)) ∧ r.length ≤ 1000 ∧ ∀ (t : Addr) (H' : Hp),Same H H' → H' t = some (.tup ((posR r).map V.int)) → Q (.ref t) H'
theorem ok_rf (F : Fun K "row_of" "row_of" sRf f fd) (mt : mg "tuple" = none) : FnOk P w K mg base CX0 2 f fd ["powers"] spRf:=by
  refine F.ok scRf (fun vs H Q E h=>?_) (fun cdv A outer s H vs Q E hr h=>?_)
  · obtain ⟨p,r,rfl,_⟩:=h
    rfl
  obtain ⟨p,r,rfl,hp,hl,q⟩:=h
  refine ⟨_,pss_one (ps_ret (pe_callTy call_tuple_of rfl mt PyProof.Rows.boot_tuple (pa_cons (pe_comp (N':=bRf) (src:=[none]) rfl (pi_tup (pv 0)) (bk_of (defScope sRf) ["powers"] (by decide +kernel))
      (fun b=>pg_name (i:=0) ndRf rfl (Or.inl rfl)) (fun b=>pts_one (pt_cmpR op_gt (pv 0) pe_int (nomark _))) (fun b=>pv 0)) pa_nil))),?_⟩
  refine ⟨_,rfl,p,rfl,⟨_,SqT.of hp⟩,fun bk D hD=>?_⟩
  refine comp_tup (α:=Int) hD (SqT.of hp) (fun σ=>∃ c,σ = [c]) (fun i=>(r[i]?).bind fun x=>if 0 < x then some x else none) (small (by rw [List.length_map]; omega)) ⟨_,rfl⟩ ?_ ?_
  · rintro i v σ H2 Yes No hv ⟨c,rfl⟩ s3 yes no
    obtain ⟨x,hx,rfl⟩ : ∃ x,r[i]? = some x ∧ V.int x = v:=by
      rw [List.getElem?_map] at hv
      cases e : r[i]? with
      | none=>rw [e] at hv; cases hv
      | some y=>rw [e] at hv; exact ⟨y,rfl,Option.some.inj hv⟩
    refine ⟨_,rfl,_,_,rfl,rfl,_,rfl,?_⟩
    by_cases c0 : 0 < x
    · exact iteY c0 ⟨_,rfl,yes _ _ _ x ⟨_,rfl⟩ (Same.refl _) (by rw [hx]; exact if_pos c0) rfl⟩
    · exact iteN c0 (no _ _ ⟨_,rfl⟩ (Same.refl _) (by rw [hx]; exact if_neg c0))
  rintro H1 s1 ⟨ws,eD,iD⟩
  have e0 : (List.range (r.map V.int).length).filterMap (fun i=>(r[i]?).bind fun x=>if 0 < x then some x else none) = posR r:=by
    unfold posR
    rw [List.length_map,range_map,filter_map_if]
    exact List.map_id _
  rw [its_ints iD,e0] at eD
  refine ⟨D,_,rfl,.inl ⟨SqL.of eD,fun t ht=>?_⟩⟩
  exact q t _ (s1.trans (same_new ht _)) upd_same
abbrev bBe : List Str:=["powers", "number"]
theorem ndBe : bBe.Nodup:=by decide +kernel
theorem scBe : FnScope pUn pUn (defScope sBe):=⟨rfl,rfl,rfl,by decide +kernel,rfl,by decide +kernel,by decide +kernel⟩
def be1 (t : Mon) : Option Mon:=if isF t.1 = true then some (posR t.1,t.2) else none
def beX (ts : List Mon) : List Mon:=ts.filterMap be1
def spBe (cBC C : Addr) : Sp:=fun vs H Q E=>∃ (n : Int) (a : Addr) (ts : List Mon),vs = [.int n,.ref a] ∧ LstAt H a ts ∧ ts.length ≤ 1000 ∧ (¬ (1 ≤ n ∧ n ≤ 4) → E (.ref cBC) none H) ∧
  (1 ≤ n ∧ n ≤ 4 → (∀ t ∈ ts,t.1.length = n.toNat) ∧ (UnR ts (n.toNat - 1) none → ∀ (l : Addr) (H' : Hp),H l = none → Same H H' → LstAt H' l (beX ts) → Q (.ref l) H') ∧
    ∀ k p,UnR ts (n.toNat - 1) (some (k,p)) → ∀ H' d kk,Same H H' → H d = none → H' d = some (xD d [("place",.int k),("powers",.ref kk)]) → H' kk = some (.tup (p.map V.int)) → E (.ref C) (some d) H')
theorem ok_be {cBC C : Addr} (F : Fun K "by_exchange" "by_exchange" sBe f fd) (GR : HasX P w K mg base 7 "refuse_uneven" pUn (spRu cBC C)) (GF : Has P w K mg base 7 "falls" ["powers"] spFa) (GW : Has P w K mg base 7 "row_of" ["powers"] spRf) : FnOk P w K mg base (CX1 P w) 8 f fd pUn (spBe cBC C):=by
  refine Fun.okx F scBe (fun vs H Q E h=>?_) (fun cdv A outer s H vs Q E hr h=>?_)
  · obtain ⟨n,a,ts,rfl,_⟩:=h
    rfl
  obtain ⟨n,a,ts,rfl,hL,hl,e1,q⟩:=h
  refine ⟨_,pss_cons (ps_expr (pe_call GR.ok hr rfl GR.at_ GR.kp GR.bd .nil pass1 (pa_cons (pv 0) (pa_cons (pv 1) pa_nil))))
    (pss_one (ps_ret (pe_comp (N':=bBe) (src:=[none,none]) rfl (pi_list (pv 1)) (bk_of (defScope sBe) pUn (by decide +kernel))
      (fun b=>pg_tup rfl (pgs_cons (pg_name (i:=0) ndBe rfl (Or.inl rfl)) (pgs_cons (pg_name (i:=1) ndBe rfl (Or.inl rfl)) pgs_nil)))
      (fun b=>pts_one (pt_val (pe_has GF hr rfl (pa_cons (pv 0) pa_nil))))
      (fun b=>pe_tup (pa_cons (pe_has GW hr rfl (pa_cons (pv 0) pa_nil)) (pa_cons (pv 1) pa_nil)))))),?_⟩
  refine ⟨_,rfl,_,rfl,n,a,ts,rfl,hL,hl,e1,fun hn=>?_⟩
  obtain ⟨lens,q0,q1⟩:=q hn
  refine ⟨lens,fun hU H1 s1=>?_,q1⟩
  obtain ⟨ws,eB,iB⟩:=hL.mono s1
  have lb:=Paired.length iB
  refine ⟨_,rfl,a,rfl,⟨_,SqL.of eB⟩,fun bk D hD=>?_⟩
  refine comp_list (α:=Mon) hD (SqL.of eB) (fun σ=>∃ c d,σ = [c,d]) (fun i=>(ts[i]?).bind be1) (small (by omega)) ⟨_,_,rfl⟩ ?_ ?_
  · rintro i x σ H2 Yes No hx ⟨c,d,rfl⟩ s3 yes no
    obtain ⟨t,ht,hi⟩:=its_at iB hx
    obtain ⟨p,kk,rfl,hp,hkk⟩:=mon_at hi
    have lt:=lens t (List.mem_of_getElem? ht)
    refine ⟨p,_,rfl,SqT.of (s3 _ _ hp),rfl,_,_,rfl,_,_,rfl,rfl,?_⟩
    refine ⟨_,rfl,kk,t.1,rfl,s3 _ _ hkk,fun H4 s4=>⟨_,rfl,?_⟩⟩
    by_cases cF : isF t.1 = true
    · rw [cF]
      refine iteT ⟨_,rfl,kk,t.1,rfl,s4 _ _ (s3 _ _ hkk),by omega,fun t5 H5 s5 h5=>⟨_,rfl,(by show 2 ≤ sizeLine; decide),fun p6 h6=>?_⟩⟩
      have s6:=same_new h6 (.tup [.ref t5,.int t.2])
      exact yes _ _ _ (posR t.1,t.2) ⟨_,_,rfl⟩ (s4.trans (s5.trans s6)) (by rw [ht]; exact if_pos cF) (mon_is upd_same (s6 _ _ h5))
    · rw [Bool.eq_false_iff.mpr cF]
      exact iteF (no _ _ ⟨_,_,rfl⟩ s4 (by rw [ht]; exact if_neg cF))
  · rintro H2 s3 h2
    rw [lb,range_map] at h2
    exact q0 hU D H2 (s1.free hD) (s1.trans s3) h2
end
end L2.K23
set_option maxHeartbeats 4000000
namespace L2.K23
open PySem
open L2.Pl L2.Ev
section
variable {P : Program} {w : World} {K : PySem.W.Frag} {mg : Str → Option Value} {base : Heap} {f g : Addr} {fd gd : FuncData}
def insAll (x : Int) (s : List Int) : List (List Int):=(List.range (s.length + 1)).map fun k=>s.take k ++ [x] ++ s.drop k
def addK (ks : List Pw) (k : Pw) : List Pw:=if k ∈ ks then ks else ks ++ [k]
def addAll (ks l : List Pw) : List Pw:=l.foldl addK ks
theorem addAll_snoc (ks l : List Pw) (k : Pw) : addAll ks (l ++ [k]) = addK (addAll ks l) k:=by
  unfold addAll
  rw [List.foldl_append]
  rfl
theorem addK_len (ks : List Pw) (k : Pw) : (addK ks k).length ≤ ks.length + 1:=by
  unfold addK
  split
  · omega
  · rw [List.length_append,List.length_singleton]; omega
theorem addAll_len (ks : List Pw) : ∀ l : List Pw,(addAll ks l).length ≤ ks.length + l.length:=by
  refine snoc_ind (Nat.le_refl _) fun l k ih=>?_
  rw [addAll_snoc,List.length_append,List.length_singleton]
  have:=addK_len (addAll ks l) k
  omega
def arrStep (found : List Pw) (x : Int) : List Pw:=addAll [] (found.flatMap (insAll x))
def arrF (n : Nat) (r : List Int) : List Pw:=(r ++ List.replicate (n - r.length) 0).foldl arrStep [[]]
theorem addAll_mem {k : Pw} : ∀ l : List Pw,k ∈ addAll [] l → k ∈ l:=by
  refine snoc_ind (fun h=>by simp [addAll] at h) fun l x ih h=>?_
  rw [addAll_snoc] at h
  unfold addK at h
  split at h
  · exact List.mem_append_left _ (ih h)
  · rcases List.mem_append.mp h with h | h
    · exact List.mem_append_left _ (ih h)
    · exact List.mem_append_right _ h
theorem arr_len : ∀ zs : List Int,(zs.foldl arrStep [[]]).length ≤ bnd zs.length ∧ ∀ s ∈ zs.foldl arrStep [[]],s.length = zs.length:=by
  refine snoc_ind ⟨Nat.le_refl _,fun s hs=>by rw [List.mem_singleton.mp hs]⟩ fun zs x ih=>?_
  obtain ⟨a,b⟩:=ih
  rw [List.foldl_append,List.length_append,List.length_singleton]
  show (arrStep (zs.foldl arrStep [[]]) x).length ≤ _ ∧ ∀ s ∈ arrStep (zs.foldl arrStep [[]]) x,_
  refine ⟨?_,fun s hs=>?_⟩
  · have h1:=addAll_len [] ((zs.foldl arrStep [[]]).flatMap (insAll x))
    have h2:=flat_len (insAll x) (zs.length + 1) (zs.foldl arrStep [[]]) fun s hs=>by
      unfold insAll
      rw [List.length_map,List.length_range,b s hs]
      exact Nat.le_refl _
    have h3:=Nat.mul_le_mul_right (zs.length + 1) a
    have h4 : bnd (zs.length + 1) = (zs.length + 1) * bnd zs.length:=rfl
    show (addAll [] ((zs.foldl arrStep [[]]).flatMap (insAll x))).length ≤ _
    rw [h4,Nat.mul_comm]
    simp only [List.length_nil] at h1
    omega
  · obtain ⟨u,hu,hs⟩:=List.mem_flatMap.mp (addAll_mem _ hs)
    obtain ⟨k,hk,rfl⟩:=List.mem_map.mp hs
    have hk:=List.mem_range.mp hk
    rw [List.length_append,List.length_append,List.length_take,List.length_drop,List.length_singleton,← b u hu]
    omega
theorem toB_put (ks : List Pw) (k : Pw) : putK (toB ks) (k.map Sum.inl) (V.bl true) = toB (addK ks k):=by
  have ea : ((toB ks).any fun kv=>decide (kv.1 = k.map Sum.inl)) = decide (k ∈ ks):=by
    unfold toB
    rw [List.any_map]
    induction ks with
    | nil=>rfl
    | cons x r ih =>
      rw [List.any_cons,ih]
      show (decide ((x.map Sum.inl : List Key) = k.map Sum.inl) || _) = _
      by_cases e : x = k
      · subst e
        rw [decide_eq_true rfl,decide_eq_true (List.mem_cons_self ..)]
        rfl
      · rw [decide_eq_false fun z=>e (inl_inj z)]
        by_cases c : k ∈ r
        · rw [decide_eq_true c,decide_eq_true (List.mem_cons_of_mem _ c)]; rfl
        · rw [decide_eq_false c,decide_eq_false fun z=>(List.mem_cons.mp z).elim (fun z=>e z.symm) c]; rfl
  unfold putK addK
  rw [ea]
  by_cases c : k ∈ ks
  · rw [if_pos (decide_eq_true c),if_pos c]
    unfold toB
    rw [List.map_map]
    apply List.map_congr_left
    intro t _
    simp only [Function.comp]
    split <;> rfl
  · rw [if_neg (by rw [decide_eq_false c]; decide),if_neg c]
    unfold toB
    rw [List.map_append]
    rfl
abbrev nLo : List Str:=["_law_numbers", "_law_found", "_law_number_here", "_law_longer", "_law_some", "_law_k"]
theorem scLo : FnScope nLo ["_law_numbers"] (defScope sLord):=⟨rfl,rfl,rfl,by decide +kernel,rfl,by decide +kernel,by decide +kernel⟩
def spLo : Sp:=fun vs H Q _=>∃ (a : Addr) (zs : List Int),vs = [.ref a] ∧ H a = some (.lst (zs.map V.int)) ∧ zs.length ≤ 4 ∧ ∀ (l : Addr) (H' : Hp),H l = none → Same H H' → LstAt H' l (zs.foldl arrStep [[]]) → Q (.ref l) H'
theorem ok_lord (F : Fun K "_law_orders" "_law_orders" sLord f fd) (ml : mg "list" = none) (mr : mg "range" = none) (mn : mg "len" = none) : FnOk P w K mg base CX0 2 f fd ["_law_numbers"] spLo:=by
  refine F.ok scLo (fun vs H Q E h=>?_) (fun cdv A outer s H vs Q E hr h=>?_)
  · obtain ⟨a,zs,rfl,_⟩:=h
    rfl
  obtain ⟨l1,zs,rfl,hz,hl,q⟩:=h
  have hu:=hu_of hr
  refine ⟨_,pss_cons (ps_set (i:=1) scLo.nd rfl (Or.inl rfl) (pe_lst (pa_cons (pe_tup pa_nil) pa_nil)))
    (pss_cons (ps_for PassesOwn.never rfl (pi_list (pv 0)) (pg_name (i:=2) scLo.nd rfl (Or.inl rfl))
      (pss_cons (ps_set (i:=3) scLo.nd rfl (Or.inl rfl) pe_dnewT)
      (pss_cons (ps_for PassesOwn.never rfl (pi_list (pv 1)) (pg_name (i:=4) scLo.nd rfl (Or.inl rfl))
        (pss_one (ps_for PassesOwn.never rfl (pi_range1 rfl mr (pa_cons (pe_op op_add (pe_callB call_len_seq rfl mn PySem.boot_len (pa_cons (pv 4) pa_nil)) pe_int) pa_nil)) (pg_name (i:=5) scLo.nd rfl (Or.inl rfl))
          (pss_one (ps_dput hu (pv 3) (pe_op op_catA (pe_op op_catA (pe_slice sl_pre (pv 4) po_none (po_some (pv 5))) (pe_tup (pa_cons (pv 2) pa_nil))) (pe_slice sl_suf (pv 4) (po_some (pv 5)) po_none)) pe_bl rfl)))))
      (pss_one (ps_set (i:=1) scLo.nd rfl (Or.inl rfl) (pe_callTy (call_listB rfl) rfl ml PyProof.Rows.boot_list (pa_cons (pv 3) pa_nil)))))))
    (pss_one (ps_ret (pv 1)))),?_⟩
  refine ⟨(by show 0 ≤ sizeLine; decide),fun e0 h0=>⟨(by show 1 ≤ sizeLine; decide),fun l0 h1=>?_⟩⟩
  have s0:=same_new h0 (.tup [])
  have s1:=same_new h1 (.lst [.ref e0])
  have sA:=s0.trans s1
  have hz4:=sA _ _ hz
  have hl0 : upd (upd H e0 (.tup [])) l0 (.lst [.ref e0]) l0 = some (.lst [.ref e0]):=upd_same
  have he0 : upd (upd H e0 (.tup [])) l0 (.lst [.ref e0]) e0 = some (.tup []):=s1 _ _ upd_same
  have fl0 : H l0 = none:=s0.free h1
  show gName 1 (.ref l0) _ (upd (upd H e0 (.tup [])) l0 (.lst [.ref e0])) _
  generalize upd (upd H e0 (.tup [])) l0 (.lst [.ref e0]) = G at *
  refine ⟨_,rfl,l1,rfl,⟨_,SqL.of hz4⟩,?_⟩
  refine for_list (xs:=zs.map V.int) (fun i σ H'=>(∃ (l : Addr) (c3 c4 c5 c6 : Option V),σ = [some (.ref l1),some (.ref l),c3,c4,c5,c6] ∧ LstAt H' l ((zs.take i).foldl arrStep [[]]) ∧ H l = none) ∧ Same G H') ?_ ?_ ?_ ?_
  · exact ⟨⟨l0,_,_,_,_,rfl,⟨[.ref e0],hl0,.cons (row_is (r:=[]) he0) .nil⟩,fl0⟩,fun _ _ e=>e⟩
  · rintro i σ H5 _ ⟨_,s5⟩
    exact SqL.of (s5 _ _ hz4)
  · rintro i v σ H5 hv ⟨⟨l,c3,c4,c5,c6,rfl,⟨vs,eL,iL⟩,fl⟩,s5⟩
    obtain ⟨x,hx,rfl⟩ : ∃ x,zs[i]? = some x ∧ V.int x = v:=by
      rw [List.getElem?_map] at hv
      cases e : zs[i]? with
      | none=>rw [e] at hv; cases hv
      | some y=>rw [e] at hv; exact ⟨y,rfl,Option.some.inj hv⟩
    have hi : i < zs.length:=(List.getElem?_eq_some_iff.mp hx).1
    obtain ⟨al,am⟩:=arr_len (zs.take i)
    rw [List.length_take,Nat.min_eq_left (by omega)] at al am
    have b4 : bnd i ≤ 24:=by
      have : i = 0 ∨ i = 1 ∨ i = 2 ∨ i = 3:=by omega
      rcases this with e | e | e | e <;> rw [e] <;> decide
    have nx : (zs.take (i + 1)).foldl arrStep [[]] = addAll [] (((zs.take i).foldl arrStep [[]]).flatMap (insAll x)):=by
      rw [take_at hx,List.foldl_append]
      rfl
    rw [nx]
    generalize (zs.take i).foldl arrStep [[]] = fs at al am iL
    have lv:=Paired.length iL
    intro d hd
    have s6 : Same H5 (upd H5 d (.dT [])):=same_new hd _
    refine ⟨_,rfl,l,rfl,⟨_,SqL.of (s6 _ _ eL)⟩,?_⟩
    refine for_list (xs:=vs) (fun j σ H'=>(∃ c5 c6,σ = [some (.ref l1),some (.ref l),some (.int x),some (.ref d),c5,c6]) ∧ H' d = some (.dT (toB (addAll [] ((fs.take j).flatMap (insAll x))))) ∧ Same H5 H') ?_ ?_ ?_ ?_
    · exact ⟨⟨_,_,rfl⟩,upd_same,s6⟩
    · rintro j σ H6 _ ⟨_,_,s7⟩
      exact SqL.of (s7 _ _ eL)
    · rintro j v σ H6 hv ⟨⟨c5,c6,rfl⟩,hd6,s7⟩
      obtain ⟨u,hu',hi2⟩:=its_at iL hv
      obtain ⟨pu,rfl,hpu⟩:=row_at hi2
      have lu:=am u (List.mem_of_getElem? hu')
      have ln1:=flat_len (insAll x) 4 (fs.take j) fun s hs=>by
        unfold insAll
        rw [List.length_map,List.length_range,am s (List.mem_of_mem_take hs)]
        omega
      rw [List.length_take] at ln1
      refine ⟨_,rfl,pu,_,rfl,.inr (SqT.of (s7 _ _ hpu)),_,_,rfl,rfl,_,rfl,by rw [List.length_map]; omega,by rw [List.length_map]; omega,?_⟩
      rw [List.length_map,show ((u.length : Int) + 1).toNat = u.length + 1 by omega]
      refine for_range (lo:=0) (n:=u.length + 1) (fun e σ H'=>(∃ c6,σ = [some (.ref l1),some (.ref l),some (.int x),some (.ref d),some (.ref pu),c6]) ∧ H' d = some (.dT (toB (addAll [] ((fs.take j).flatMap (insAll x) ++ (List.range e).map fun k=>u.take k ++ [x] ++ u.drop k)))) ∧ Same H5 H') ?_ ?_ ?_
      · refine ⟨⟨_,rfl⟩,?_,s7⟩
        rw [List.range_zero,List.map_nil,List.append_nil]
        exact hd6
      · rintro e σ H7 he ⟨⟨c6,rfl⟩,hd7,s8⟩
        rw [Int.zero_add]
        have hpu7:=s8 _ _ hpu
        refine ⟨_,rfl,_,rfl,_,rfl,_,rfl,pu,u,e,rfl,rfl,rfl,hpu7,fun t1 G1 g1 e1=>?_⟩
        refine ⟨_,rfl,(by show 1 ≤ sizeLine; decide),fun t2 h2'=>?_⟩
        have g2:=same_new h2' (.tup [.int x])
        refine cat_rows (r:=u.take e) (r':=[x]) (g2 _ _ e1) upd_same (small (by rw [List.length_take]; show _ + 1 ≤ 100000; omega)) fun t3 G3 g3 e3=>?_
        have g13:=g1.trans (g2.trans g3)
        refine ⟨_,rfl,_,rfl,_,rfl,pu,u,e,rfl,rfl,rfl,g13 _ _ hpu7,fun t4 G4 g4 e4=>?_⟩
        refine cat_rows (r:=u.take e ++ [x]) (r':=u.drop e) (g4 _ _ e3) e4 (small (by rw [List.length_append,List.length_take,List.length_drop,List.length_singleton]; omega)) fun t5 G5 g5 e5=>?_
        have gA:=g13.trans (g4.trans g5)
        have hd8:=gA _ _ hd7
        have la:=addAll_len [] ((fs.take j).flatMap (insAll x) ++ (List.range e).map fun k=>u.take k ++ [x] ++ u.drop k)
        rw [List.length_append,List.length_map,List.length_range,List.length_nil] at la
        refine ⟨d,_,rfl,DPut.t (k:=(u.take e ++ [x] ++ u.drop e).map Sum.inl) hd8 (by rw [kV_inl]; exact e5) ?_,?_⟩
        · rw [toB_len]
          exact smallS (by omega)
        · refine ⟨⟨_,rfl⟩,?_,fun b o e'=>?_⟩
          · have er : (List.range (e + 1)).map (fun k=>u.take k ++ [x] ++ u.drop k) = (List.range e).map (fun k=>u.take k ++ [x] ++ u.drop k) ++ [u.take e ++ [x] ++ u.drop e]:=by
              rw [List.range_succ,List.map_append]
              rfl
            rw [er,← List.append_assoc ((fs.take j).flatMap (insAll x)),addAll_snoc,← toB_put]
            exact upd_same
          · rw [upd_ne (ne_of_none e' hd)]
            exact gA _ _ (s8 b o e')
      · rintro σ H7 ⟨⟨c6,rfl⟩,hd7,s8⟩
        refine ⟨⟨_,_,rfl⟩,?_,s8⟩
        rw [take_at hu',List.flatMap_append,List.flatMap_singleton]
        exact hd7
    · rintro σ H6 ⟨⟨c5,c6,rfl⟩,hd6,s7⟩
      rw [List.take_of_length_le (show fs.length ≤ vs.length by omega)] at hd6
      refine ⟨_,rfl,d,_,rfl,hd6,fun l7 vs7 h7 i7=>?_⟩
      have s8:=same_new h7 (.lst vs7)
      exact ⟨⟨l7,_,_,_,_,rfl,⟨vs7,upd_same,Its.mono (Tups.same s8) i7⟩,sA.free (s5.free (s7.free h7))⟩,s5.trans (s7.trans s8)⟩
  · rintro σ H5 ⟨⟨l,c3,c4,c5,c6,rfl,hL,fl⟩,s5⟩
    rw [List.length_map,List.take_length] at hL
    exact ⟨_,rfl,q l H5 fl (sA.trans s5) hL⟩
end
end L2.K23
set_option maxHeartbeats 4000000
namespace L2.K23
open PySem
open L2.Pl L2.Ev
section
variable {P : Program} {w : World} {K : PySem.W.Frag} {mg : Str → Option Value} {base : Heap} {f g : Addr} {fd gd : FuncData}
theorem perm_sum {l r : List Int} (h : r.Perm l) : r.sum = l.sum:=by
  induction h with
  | nil=>rfl
  | cons x _ ih=>rw [List.sum_cons,List.sum_cons,ih]
  | swap x y l=>rw [List.sum_cons,List.sum_cons,List.sum_cons,List.sum_cons]; omega
  | trans _ _ i1 i2=>rw [i1,i2]
def srtD (ns : List Int) : List Int:=ns.mergeSort fun a b=>decide (b ≤ a)
theorem srtD_is {l ns : List Int} (pm : l.Perm ns) (so : l.Pairwise fun a b=>b ≤ a) : l = srtD ns:=by
  have p2:=List.pairwise_mergeSort (le:=fun a b : Int=>decide (b ≤ a)) (fun a b c h1 h2=>decide_eq_true (by have:=of_decide_eq_true h1; have:=of_decide_eq_true h2; omega)) (fun a b=>by
    rcases Int.le_total a b with h | h
    · rw [decide_eq_true h,Bool.or_true]
    · rw [decide_eq_true h,Bool.true_or]) ns
  exact List.Perm.eq_of_pairwise (le:=fun a b=>b ≤ a) (fun a b _ _ h1 h2=>Int.le_antisymm h2 h1) so (p2.imp fun h=>of_decide_eq_true h) (pm.trans (List.mergeSort_perm ns _).symm)
def rowD (ns : List Int) : List Int:=(srtD ns).filter fun x=>decide (0 < x)
theorem rowD_len (ns : List Int) : (rowD ns).length ≤ ns.length:=by
  unfold rowD
  have h:=List.length_filter_le (fun x=>decide (0 < x)) (srtD ns)
  have : (srtD ns).length = ns.length:=(List.mergeSort_perm ns _).length_eq
  omega
abbrev nRo : List Str:=["_law_powers_here"]
abbrev bRo : List Str:=["_law_number_here"]
theorem ndRo : bRo.Nodup:=by decide +kernel
theorem scRo : FnScope nRo nRo (defScope sRow):=⟨rfl,rfl,rfl,by decide +kernel,rfl,by decide +kernel,by decide +kernel⟩
def spRow : Sp:=fun vs H Q _=>∃ (p : Addr) (ns : List Int),vs = [.ref p] ∧ H p = some (.tup (ns.map V.int)) ∧ ns.length ≤ 1000 ∧ ∀ (t : Addr) (H' : Hp),Same H H' → H' t = some (.tup ((rowD ns).map V.int)) → Q (.ref t) H'
theorem ok_row (F : Fun K "_law_row" "_law_row" sRow f fd) (mt : mg "tuple" = none) (ms : mg "sorted" = none) : FnOk P w K mg base CX0 2 f fd nRo spRow:=by
  refine F.ok scRo (fun vs H Q E h=>?_) (fun cdv A outer s H vs Q E hr h=>?_)
  · obtain ⟨p,ns,rfl,_⟩:=h
    rfl
  obtain ⟨p1,ns,rfl,h1,hl,q⟩:=h
  have h8:=hu8 hr
  refine ⟨_,pss_one (ps_ret (pe_callTy call_tuple_of rfl mt PyProof.Rows.boot_tuple (pa_cons (pe_comp (N':=bRo) (src:=[none]) rfl (pi_list (pe_sortedI rfl h8 rfl ms (pa_cons (pv 0) pa_nil))) (bk_of (defScope sRow) nRo (by decide +kernel))
      (fun b=>pg_name (i:=0) ndRo rfl (Or.inl rfl)) (fun b=>pts_one (pt_cmpR op_gt (pv 0) pe_int (nomark _))) (fun b=>pv 0)) pa_nil))),?_⟩
  refine ⟨_,rfl,p1,ns,rfl,SqT.of h1,fun p2 l h2 pm so=>?_⟩
  have el:=srtD_is pm so
  have s2:=same_new h2 (.lst (l.map V.int))
  refine ⟨p2,rfl,⟨_,SqL.of upd_same⟩,fun bk D hD=>?_⟩
  have ll:=pm.length_eq
  refine comp_list (α:=Int) hD (SqL.of upd_same) (fun σ=>∃ c,σ = [c]) (fun i=>(l[i]?).bind fun x=>if 0 < x then some x else none) (small (by rw [List.length_map]; omega)) ⟨_,rfl⟩ ?_ ?_
  · rintro i v σ H3 Yes No hv ⟨c,rfl⟩ s3 yes no
    obtain ⟨x,hx,rfl⟩ : ∃ x,l[i]? = some x ∧ V.int x = v:=by
      rw [List.getElem?_map] at hv
      cases e : l[i]? with
      | none=>rw [e] at hv; cases hv
      | some y=>rw [e] at hv; exact ⟨y,rfl,Option.some.inj hv⟩
    refine ⟨_,rfl,_,_,rfl,rfl,_,rfl,?_⟩
    by_cases c0 : 0 < x
    · exact iteY c0 ⟨_,rfl,yes _ _ _ x ⟨_,rfl⟩ (Same.refl _) (by rw [hx,Option.bind_some,if_pos c0]) rfl⟩
    · exact iteN c0 (no _ _ ⟨_,rfl⟩ (Same.refl _) (by rw [hx,Option.bind_some,if_neg c0]))
  · rintro H3 s3 ⟨ws,eD,iD⟩
    have e : (List.range (l.map V.int).length).filterMap (fun i=>(l[i]?).bind fun x=>if 0 < x then some x else none) = rowD ns:=by
      rw [List.length_map,range_map,filter_map_if,el]
      exact List.map_id _
    rw [its_ints iD,e] at eD
    refine ⟨D,_,rfl,.inl ⟨SqL.of eD,fun t4 h4=>?_⟩⟩
    have s4:=same_new h4 (.tup ((rowD ns).map V.int))
    exact q t4 _ (s2.trans (s3.trans s4)) upd_same
def cellT (n : Nat) (w c : Int) : Mon:=(rowD (lpow c 3 w n),lnum 57 c)
abbrev nTd : List Str:=["_law_cells", "_law_many", "_law_weight"]
abbrev bTd : List Str:=["_law_cell_here", "_law_many", "_law_weight"]
theorem ndTd : bTd.Nodup:=by decide +kernel
theorem scTd : FnScope nTd nTd (defScope sTold):=⟨rfl,rfl,rfl,by decide +kernel,rfl,by decide +kernel,by decide +kernel⟩
def spTold : Sp:=fun vs H Q _=>∃ (a : Addr) (cs : List Int) (n : Nat) (w : Int),vs = [.ref a,.int n,.int w] ∧ H a = some (.lst (cs.map V.int)) ∧ cs.length ≤ 40 ∧ 1 ≤ n ∧ n ≤ 4 ∧ 0 ≤ w ∧ w ≤ 8 ∧ ∀ (l : Addr) (H' : Hp),H l = none → Same H H' → LstAt H' l (norm (cs.map (cellT n w))) → (norm (cs.map (cellT n w))).length ≤ 40 → (∀ t ∈ norm (cs.map (cellT n w)),t.1.length ≤ n) → Q (.ref l) H'
theorem ok_told (F : Fun K "_law_told" "_law_told" sTold f fd) (GS : Has P w K mg base 4 "_law_sum" ["_law_terms"] spSum) (GR : Has P w K mg base 4 "_law_row" nRo spRow) (GP : Has P w K mg base 4 "_law_powers" pP spPow) (GN : Has P w K mg base 4 "_law_number" ["_law_cell_here"] spNum) : FnOk P w K mg base CX0 5 f fd nTd spTold:=by
  refine F.ok scTd (fun vs H Q E h=>?_) (fun cdv A outer s H vs Q E hr h=>?_)
  · obtain ⟨a,cs,n,w,rfl,_⟩:=h
    rfl
  obtain ⟨a,cs,n,w,rfl,ha,hl,n1,n4,w0,w8,q⟩:=h
  refine ⟨_,pss_one (ps_ret (pe_has GS hr rfl (pa_cons (pe_comp (N':=bTd) (src:=[none,some 1,some 2]) rfl (pi_list (pv 0)) (bk_of (defScope sTold) nTd (by decide +kernel))
      (fun b=>pg_name (i:=0) ndTd rfl (Or.inl rfl)) (fun b=>pts_nil) (fun b=>pe_tup (pa_cons (pe_has GR hr rfl (pa_cons (pe_has GP hr rfl (pa_cons (pv 0) (pa_cons pe_int (pa_cons (pv 1) (pa_cons (pv 2) pa_nil))))) pa_nil)) (pa_cons (pe_has GN hr rfl (pa_cons (pv 0) pa_nil)) pa_nil)))) pa_nil))),?_⟩
  refine ⟨_,rfl,a,rfl,⟨_,SqL.of ha⟩,fun bk D hD=>?_⟩
  refine comp_list (α:=Mon) hD (SqL.of ha) (fun σ=>∃ c,σ = [c,some (.int n),some (.int w)]) (fun i=>(cs[i]?).bind fun c=>some (cellT n w c)) (small (by rw [List.length_map]; omega)) ⟨_,rfl⟩ ?_ ?_
  · rintro i v σ H3 Yes No hv ⟨c,rfl⟩ s3 yes no
    obtain ⟨x,hx,rfl⟩ : ∃ x,cs[i]? = some x ∧ V.int x = v:=by
      rw [List.getElem?_map] at hv
      cases e : cs[i]? with
      | none=>rw [e] at hv; cases hv
      | some y=>rw [e] at hv; exact ⟨y,rfl,Option.some.inj hv⟩
    refine nameYes ?_
    have pl:=(lpow_ok (c:=x) (far:=3) (w:=w) w0 n1).1
    refine ⟨_,rfl,_,rfl,_,rfl,x,3,w,n,rfl,n1,by omega,by decide,by decide,w0,by omega,fun p4 H4 s4 h4=>?_⟩
    refine ⟨p4,_,rfl,h4,by omega,fun t5 H5 s5 h5=>?_⟩
    refine ⟨_,rfl,x,rfl,(by show 2 ≤ sizeLine; decide),fun t6 h6=>?_⟩
    have s6:=same_new h6 (.tup [.ref t5,.int (lnum 57 x)])
    exact yes _ _ _ (cellT n w x) ⟨_,rfl⟩ (s4.trans (s5.trans s6)) (by rw [hx]; rfl) (mon_is (t:=cellT n w x) upd_same (s6 _ _ h5))
  · rintro H3 s3 hL
    have e : (List.range (cs.map V.int).length).filterMap (fun i=>(cs[i]?).bind fun c=>some (cellT n w c)) = cs.map (cellT n w):=by
      rw [List.length_map,range_map,List.filterMap_eq_map']
    rw [e] at hL
    refine ⟨D,_,rfl,hL,by rw [List.length_map]; omega,fun l H4 hl4 s4 h4=>q l H4 (s3.free hl4) (s3.trans s4) h4 ?_ fun t ht=>?_⟩
    · have:=norm_len (cs.map (cellT n w))
      rw [List.length_map] at this
      omega
    · obtain ⟨u,hu,e⟩:=norm_mem ht
      obtain ⟨x,_,rfl⟩:=List.mem_map.mp hu
      rw [← e]
      have:=rowD_len (lpow x 3 w n)
      have pl:=(lpow_ok (c:=x) (far:=3) (w:=w) w0 n1).1
      show (rowD (lpow x 3 w n)).length ≤ n
      omega
end
end L2.K23
set_option maxHeartbeats 4000000
namespace L2.K23
open PySem
open L2.Pl L2.Ev
section
variable {P : Program} {w : World} {K : PySem.W.Frag} {mg : Str → Option Value} {base : Heap} {f g : Addr} {fd gd : FuncData}
theorem rep_zero (k : Nat) : (List.replicate k [V.int 0]).flatten = (List.replicate k (0 : Int)).map V.int:=by
  induction k with
  | zero=>rfl
  | succ k ih=>rw [List.replicate_succ,List.flatten_cons,ih,List.replicate_succ]; rfl
def evG (n : Nat) (t : Mon) : List Mon:=(arrF n t.1).map fun q=>(q,t.2)
theorem arrF_len {n : Nat} {r : List Int} (h : r.length ≤ n) (n4 : n ≤ 4) : (arrF n r).length ≤ 24 ∧ ∀ s ∈ arrF n r,s.length = n:=by
  have:=arr_len (r ++ List.replicate (n - r.length) (0 : Int))
  rw [show (r ++ List.replicate (n - r.length) (0 : Int)).length = n by rw [List.length_append,List.length_replicate]; omega] at this
  have b4 : bnd n ≤ 24:=by
    have : n = 0 ∨ n = 1 ∨ n = 2 ∨ n = 3 ∨ n = 4:=by omega
    rcases this with e | e | e | e | e <;> rw [e] <;> decide
  exact ⟨Nat.le_trans this.1 b4,this.2⟩
theorem evG_take {n : Nat} {T : List Mon} (h : ∀ t ∈ T,t.1.length ≤ n) (n4 : n ≤ 4) (hT : T.length ≤ 40) (i : Nat) : ((T.take i).flatMap (evG n)).length ≤ 960:=by
  have:=flat_len (evG n) 24 (T.take i) fun t ht=>by
    unfold evG
    rw [List.length_map]
    exact (arrF_len (h t (List.mem_of_mem_take ht)) n4).1
  rw [List.length_take] at this
  have : min i T.length ≤ 40:=by omega
  have:=Nat.mul_le_mul_right 24 this
  omega
abbrev nEv : List Str:=["_law_telling", "_law_many", "_law_terms", "_law_row_here", "_law_number_here", "_law_powers_here"]
abbrev pEv : List Str:=["_law_telling", "_law_many"]
theorem scEv : FnScope nEv pEv (defScope sEven):=⟨rfl,rfl,rfl,by decide +kernel,rfl,by decide +kernel,by decide +kernel⟩
def spEven : Sp:=fun vs H Q _=>∃ (a : Addr) (T : List Mon) (n : Nat),vs = [.ref a,.int n] ∧ LstAt H a T ∧ T.length ≤ 40 ∧ 1 ≤ n ∧ n ≤ 4 ∧ (∀ t ∈ T,t.1.length ≤ n) ∧ ∀ (l : Addr) (H' : Hp),H l = none → Same H H' → LstAt H' l (norm (T.flatMap (evG n))) → (norm (T.flatMap (evG n))).length ≤ 960 → (∀ t ∈ norm (T.flatMap (evG n)),t.1.length = n) → Q (.ref l) H'
theorem ok_even (F : Fun K "_law_even" "_law_even" sEven f fd) (GO : Has P w K mg base 3 "_law_orders" ["_law_numbers"] spLo) (GS : Has P w K mg base 3 "_law_sum" ["_law_terms"] spSum) (ml : mg "list" = none) (mn : mg "len" = none) : FnOk P w K mg base CX0 4 f fd pEv spEven:=by
  refine F.ok scEv (fun vs H Q E h=>?_) (fun cdv A outer s H vs Q E hr h=>?_)
  · obtain ⟨a,T,n,rfl,_⟩:=h
    rfl
  obtain ⟨a,T,n,rfl,⟨vs,eL,iL⟩,hT,n1,n4,lens,q⟩:=h
  refine ⟨_,pss_cons (ps_set (i:=2) scEv.nd rfl (Or.inl rfl) (pe_lst pa_nil))
    (pss_cons (ps_for PassesOwn.never rfl (pi_list (pv 0)) (pg_tup rfl (pgs_cons (pg_name (i:=3) scEv.nd rfl (Or.inl rfl)) (pgs_cons (pg_name (i:=4) scEv.nd rfl (Or.inl rfl)) pgs_nil)))
      (pss_one (ps_for PassesOwn.never rfl (pi_list (pe_has GO hr rfl (pa_cons (pe_op op_cat (pe_callTy call_list_of rfl ml PyProof.Rows.boot_list (pa_cons (pv 3) pa_nil)) (pe_op op_rep (pe_lst (pa_cons pe_int pa_nil)) (pe_op op_sub (pv 1) (pe_callB call_len_seq rfl mn PySem.boot_len (pa_cons (pv 3) pa_nil))))) pa_nil))) (pg_name (i:=5) scEv.nd rfl (Or.inl rfl))
        (pss_one (ps_expr (pe_bm PySem.F.plainAttrs_list PySem.F.slot_list_append PySem.F.type_list_append mt_append (pv 2) (pa_cons (pe_tup (pa_cons (pv 5) (pa_cons (pv 4) pa_nil))) pa_nil)))))))
    (pss_one (ps_ret (pe_has GS hr rfl (pa_cons (pv 2) pa_nil))))),?_⟩
  refine ⟨(by show 0 ≤ sizeLine; decide),fun l hl0=>?_⟩
  have s0:=same_new hl0 (.lst [])
  have lv:=Paired.length iL
  refine ⟨_,rfl,a,rfl,⟨vs,SqL.of (s0 _ _ eL)⟩,?_⟩
  refine for_list (xs:=vs) (fun i σ H'=>(∃ c3 c4 c5,σ = [some (.ref a),some (.int n),some (.ref l),c3,c4,c5]) ∧ LstAt H' l ((T.take i).flatMap (evG n)) ∧ Same H H') ?_ ?_ ?_ ?_
  · exact ⟨⟨_,_,_,rfl⟩,⟨[],upd_same,.nil⟩,s0⟩
  · rintro i σ H1 _ ⟨_,_,s1⟩
    exact SqL.of (s1 _ _ eL)
  · rintro i x σ H1 hx ⟨⟨c3,c4,c5,rfl⟩,hW,s1⟩
    obtain ⟨t,ht,hi⟩:=its_at iL hx
    obtain ⟨p,kk,rfl,hp,hkk⟩:=mon_at hi
    have tl:=lens t (List.mem_of_getElem? ht)
    have hk1:=s1 _ _ hkk
    refine ⟨p,_,rfl,SqT.of (s1 _ _ hp),rfl,_,_,rfl,_,_,rfl,rfl,?_⟩
    refine ⟨_,rfl,kk,_,rfl,.inr (SqT.of hk1),fun l3 h3=>?_⟩
    have s3:=same_new h3 (.lst (t.1.map V.int))
    refine ⟨(by show 1 ≤ sizeLine; decide),fun l4 h4=>?_⟩
    have s4:=same_new h4 (.lst [.int 0])
    refine ⟨_,rfl,_,rfl,kk,_,rfl,.inr (SqT.of (s4 _ _ (s3 _ _ hk1))),_,_,rfl,rfl,l4,_,_,rfl,rfl,upd_same,by rw [List.length_map]; omega,by rw [List.length_map]; omega,small (by rw [List.length_map]; show 1 * _ ≤ 100000; omega),fun l5 h5=>?_⟩
    rw [List.length_map,show ((n : Int) - (t.1.length : Int)).toNat = n - t.1.length by omega,rep_zero]
    have s5:=same_new h5 (.lst ((List.replicate (n - t.1.length) (0 : Int)).map V.int))
    refine ⟨l3,l5,_,_,rfl,rfl,s5 _ _ (s4 _ _ upd_same),upd_same,small (by rw [List.length_map,List.length_map,List.length_replicate]; omega),fun l6 h6=>?_⟩
    rw [← List.map_append]
    have s6:=same_new h6 (.lst ((t.1 ++ List.replicate (n - t.1.length) (0 : Int)).map V.int))
    refine ⟨l6,_,rfl,upd_same,by rw [List.length_append,List.length_replicate]; omega,fun l7 H7 h7 s7 hL7=>?_⟩
    have hL7 : LstAt H7 l7 (arrF n t.1):=hL7
    have z7:=s3.trans (s4.trans (s5.trans (s6.trans s7)))
    obtain ⟨al,am⟩:=arrF_len tl n4
    have tk : (T.take (i + 1)).flatMap (evG n) = (T.take i).flatMap (evG n) ++ (arrF n t.1).map fun q=>(q,t.2):=by
      rw [take_at ht,List.flatMap_append,List.flatMap_singleton]
      rfl
    have b1:=evG_take lens n4 hT i
    have hW7:=hW.mono z7
    rw [tk]
    generalize (T.take i).flatMap (evG n) = pre at hW7 b1
    generalize arrF n t.1 = os at hL7 al am
    obtain ⟨ws,eW,iW⟩:=hL7
    have lw:=Paired.length iW
    refine ⟨l7,rfl,⟨_,SqL.of eW⟩,?_⟩
    have n77 : l7 ≠ l:=fun z=>by
      obtain ⟨us,eu,_⟩:=hW.mono (s3.trans (s4.trans (s5.trans s6)))
      rw [z,eu] at h7
      cases h7
    refine for_list (xs:=ws) (fun j σ H'=>(∃ c5,σ = [some (.ref a),some (.int n),some (.ref l),some (.ref kk),some (.int t.2),c5]) ∧ LstAt H' l (pre ++ (os.take j).map fun q=>(q,t.2)) ∧ Same H H' ∧ H' l7 = some (.lst ws) ∧ Tups H7 H') ?_ ?_ ?_ ?_
    · refine ⟨⟨_,rfl⟩,?_,s1.trans z7,eW,fun _ _ e=>e⟩
      rw [List.take_zero,List.map_nil,List.append_nil]
      exact hW7
    · rintro j σ H8 _ ⟨_,_,_,e8,_⟩
      exact SqL.of e8
    · rintro j v σ H8 hv ⟨⟨c5,rfl⟩,⟨us,eU,iU⟩,s8,e8,t8⟩
      obtain ⟨x,hx,hi2⟩:=its_at iW hv
      obtain ⟨px,rfl,hpx⟩:=row_at hi2
      have hp8:=t8 _ _ hpx
      have lu:=Paired.length iU
      have jl : j < os.length:=(List.getElem?_eq_some_iff.mp hx).1
      refine ⟨_,rfl,.inl ⟨rfl,_,SqL.of eU⟩,_,rfl,_,rfl,(by show 2 ≤ sizeLine; decide),fun p9 h9=>?_⟩
      have s9:=same_new h9 (.tup [.ref px,.int t.2])
      have eU9:=s9 _ _ eU
      have t9 : ∀ o,Tups (upd H8 p9 (.tup [.ref px,.int t.2])) (upd (upd H8 p9 (.tup [.ref px,.int t.2])) l o):=fun o=>tups_at eU9 o
      refine ⟨l,us,_,rfl,rfl,eU9,smallS (by rw [List.length_append,List.length_map,List.length_take] at lu; omega),⟨_,rfl⟩,⟨us ++ [.ref p9],upd_same,?_⟩,same_at hl0 (s8.trans s9) _,?_,fun r ys e=>t9 _ _ _ (s9 _ _ (t8 _ _ e))⟩
      · rw [take_at hx,List.map_append,← List.append_assoc]
        exact Paired.snoc (Its.mono ((Tups.same s9).trans (t9 _)) iU) (Dat.mono (t9 _) (mon_is (t:=(x,t.2)) upd_same (s9 _ _ hp8)))
      · rw [upd_ne n77]
        exact s9 _ _ e8
    · rintro σ H8 ⟨⟨c5,rfl⟩,h8,s8,_,_⟩
      rw [List.take_of_length_le (by omega)] at h8
      exact ⟨⟨_,_,_,rfl⟩,h8,s8⟩
  · rintro σ H1 ⟨⟨c3,c4,c5,rfl⟩,hL,s1⟩
    have b1:=evG_take lens n4 hT vs.length
    rw [List.take_of_length_le (by omega)] at hL b1
    refine ⟨_,rfl,l,_,rfl,hL,by omega,fun l3 H2 hl3 s2 h2=>q l3 H2 (s1.free hl3) (s1.trans s2) h2 (Nat.le_trans (norm_len _) b1) fun t ht=>?_⟩
    obtain ⟨u,hu,e⟩:=norm_mem ht
    obtain ⟨y,hy,hm⟩:=List.mem_flatMap.mp hu
    obtain ⟨o,ho,rfl⟩:=List.mem_map.mp hm
    rw [← e]
    exact (arrF_len (lens y hy) n4).2 o ho
end
end L2.K23
set_option maxHeartbeats 4000000
namespace L2.K23
open PySem
open L2.Pl L2.Ev
section
variable {P : Program} {w : World} {K : PySem.W.Frag} {mg : Str → Option Value} {base : Heap} {f g : Addr} {fd gd : FuncData}
abbrev nEx : List Str:=["many", "row"]
abbrev bEx : List Str:=["powers"]
theorem ndEx : bEx.Nodup:=by decide +kernel
theorem scEx : FnScope nEx nEx (defScope sEx):=⟨rfl,rfl,rfl,by decide +kernel,rfl,by decide +kernel,by decide +kernel⟩
def exch (n : Nat) (r : List Int) : List Mon:=(ords 5 (r ++ List.replicate (n - r.length) 0)).map fun q=>(q,1)
def spExX (cBR cBC cTL : Addr) : Sp:=fun vs H Q E=>∃ (n : Int) (p : Addr) (r : List Int),vs = [.int n,.ref p] ∧ H p = some (.tup (r.map V.int)) ∧ r.length ≤ 1000 ∧
  (rowB r = false → ∀ H',Same H H' → E (.ref cBR) none H') ∧ (rowB r = true → ¬ (1 ≤ n ∧ n ≤ 4) → ∀ H',Same H H' → E (.ref cBC) none H') ∧ (rowB r = true → 1 ≤ n ∧ n ≤ 4 → n < (r.length : Int) → ∀ H',Same H H' → E (.ref cTL) none H') ∧
  (rowB r = true → 1 ≤ n ∧ n ≤ 4 → (r.length : Int) ≤ n → ∀ (a : Addr) (H' : Hp),H a = none → Same H H' → LstAt H' a (exch n.toNat r) → Q (.ref a) H')
theorem rep_one (k : Nat) : (List.replicate k [(0 : Int)]).flatten = List.replicate k 0:=by
  induction k with
  | zero=>rfl
  | succ k ih=>rw [List.replicate_succ,List.flatten_cons,ih,List.replicate_succ]; rfl
theorem ok_exx {cBR cBC cTL : Addr} (F : Fun K "exchange_sum" "exchange_sum" sEx f fd) (GR : HasX P w K mg base 5 "refuse_bad_row" nRb (spRbr cBR)) (GC : HasX P w K mg base 5 "refuse_bad_count" ["many"] (spCntX cBC)) (GO : Has P w K mg base 5 "orders" ["numbers"] (spOr 5)) (X1 : Exc1 K mg "TooLong" cTL) (mn : mg "len" = none) : FnOk P w K mg base (CX1 P w) 6 f fd nEx (spExX cBR cBC cTL):=by
  refine Fun.okx F scEx (fun vs H Q E h=>?_) (fun cdv A outer s H vs Q E hr h=>?_)
  · obtain ⟨n,p,r,rfl,_⟩:=h
    rfl
  obtain ⟨n0,p,r,rfl,hp,hl0,e1,e2,e3,q⟩:=h
  refine ⟨_,pss_cons (ps_expr (pe_call GR.ok hr rfl GR.at_ GR.kp GR.bd .nil pass1 (pa_cons (pv 1) pa_nil))) (pss_cons (ps_expr (pe_call GC.ok hr rfl GC.at_ GC.kp GC.bd .nil pass1 (pa_cons (pv 0) pa_nil)))
    (pss_cons (ps_if (pt_cmpR op_gt (pe_callB call_len_seq rfl mn PySem.boot_len (pa_cons (pv 1) pa_nil)) (pv 0) (nomark _)) (pss_one (ps_raise rfl rs1 PySem.F.excBase_ValueError rfl X1.at_ X1.is (pa_cons pe_str pa_nil))) pss_nil)
    (pss_one (ps_ret (pe_comp (N':=bEx) (src:=[none]) rfl (pi_list (pe_has GO hr rfl (pa_cons (pe_op op_catA (pv 1) (pe_op op_repT (pe_tup (pa_cons pe_int pa_nil)) (pe_op op_sub (pv 0) (pe_callB call_len_seq rfl mn PySem.boot_len (pa_cons (pv 1) pa_nil))))) pa_nil))) (bk_of (defScope sEx) nEx (by decide +kernel))
      (fun b=>pg_name (i:=0) ndEx rfl (Or.inl rfl)) (fun b=>pts_nil) (fun b=>pe_tup (pa_cons (pv 0) (pa_cons pe_int pa_nil)))))))),?_⟩
  refine ⟨_,rfl,p,r,rfl,hp,hl0,fun hB H1 s1=>?_,e1⟩
  refine ⟨_,rfl,n0,rfl,fun hn=>?_,fun hn=>e2 hB hn H1 s1⟩
  obtain ⟨n,rfl,n1,n4⟩ : ∃ n : Nat,n0 = n ∧ 1 ≤ n ∧ n ≤ 4:=⟨n0.toNat,by omega,by omega,by omega⟩
  have hp1:=s1 _ _ hp
  refine ⟨_,rfl,p,_,rfl,.inr (SqT.of hp1),_,rfl,_,_,rfl,rfl,_,rfl,?_⟩
  rw [List.length_map]
  by_cases cl : (n : Int) < (r.length : Int)
  · exact iteY cl ⟨(by show 1 ≤ sizeLine; decide),e3 hB hn cl H1 s1⟩
  · refine iteN cl ?_
    have hl : r.length ≤ n:=by omega
    have q:=q hB hn (by omega)
    rw [Int.toNat_natCast] at q
    refine ⟨_,rfl,(by show 1 ≤ sizeLine; decide),fun t0 h0=>?_⟩
    have s0:=same_new h0 (.tup [.int 0])
    refine ⟨_,rfl,_,rfl,p,_,rfl,.inr (SqT.of (s0 _ _ hp1)),_,_,rfl,rfl,t0,[0],_,rfl,rfl,upd_same,by simp,by rw [List.length_map]; omega,by rw [List.length_map]; omega,small (by rw [List.length_map]; show 1 * _ ≤ 100000; omega),fun t2 H2 s2 h2=>?_⟩
    rw [rep_one,List.length_map,show ((n : Int) - (r.length : Int)).toNat = n - r.length by omega] at h2
    refine cat_rows (r:=r) (r':=List.replicate (n - r.length) 0) (s2 _ _ (s0 _ _ hp1)) h2 (small (by rw [List.length_replicate]; omega)) fun t3 H3 s3 h3=>?_
    have l4 : (r ++ List.replicate (n - r.length) (0 : Int)).length = n:=by rw [List.length_append,List.length_replicate]; omega
    refine ⟨t3,_,rfl,h3,by omega,by omega,fun a H4 ha s4 hL=>?_⟩
    have sH:=s1.trans (s0.trans (s2.trans (s3.trans s4)))
    have ol:=ords_len 5 (r ++ List.replicate (n - r.length) 0)
    rw [l4] at ol
    have b4 : bnd n ≤ 24:=by
      have : n = 1 ∨ n = 2 ∨ n = 3 ∨ n = 4:=by omega
      rcases this with e | e | e | e <;> rw [e] <;> decide
    unfold exch at q
    generalize ords 5 (r ++ List.replicate (n - r.length) 0) = os at hL q ol
    obtain ⟨vs,eL,iL⟩:=hL
    have lv:=Paired.length iL
    refine ⟨a,rfl,⟨_,SqL.of eL⟩,fun bk D hD=>?_⟩
    refine comp_list (α:=Mon) hD (SqL.of eL) (fun σ=>∃ c,σ = [c]) (fun i=>(os[i]?).bind fun x=>some (x,1)) (small (by omega)) ?_ ?_ ?_
    · exact ⟨_,rfl⟩
    · rintro i v σ H5 Yes No hv ⟨c,rfl⟩ s5 yes no
      obtain ⟨x,hx,hi⟩:=its_at iL hv
      obtain ⟨px,rfl,hpx⟩:=row_at hi
      refine nameYes ?_
      refine ⟨_,rfl,(by show 2 ≤ sizeLine; decide),fun t6 h6=>?_⟩
      have s6:=same_new h6 (.tup [.ref px,.int 1])
      exact yes _ _ _ (x,1) ⟨_,rfl⟩ s6 (by rw [hx]; rfl) (mon_is (t:=(x,1)) upd_same (s6 _ _ (s5 _ _ hpx)))
    intro H7 s7 h7
    have e : (List.range vs.length).filterMap (fun i=>(os[i]?).bind fun x=>some (x,(1 : Int))) = os.map fun q=>(q,1):=by
      rw [lv,range_map,List.filterMap_eq_map']
    rw [e] at h7
    exact q D H7 (sH.free hD) (sH.trans s7) h7
end
end L2.K23
set_option maxHeartbeats 4000000
namespace L2.K23
open PySem
open L2.Pl L2.Ev
section
variable {P : Program} {w : World} {K : PySem.W.Frag} {mg : Str → Option Value} {base : Heap} {f g : Addr} {fd gd : FuncData}
def rws : Nat → Nat → Nat → List (List Int)
  | 0,_,_=>[[]]
  | m + 1,top,left=>[] :: (List.range (min top left)).flatMap fun (i : Nat)=>(rws m (i + 1) (left - (i + 1))).map fun r=>((i + 1 : Nat) : Int) :: r
theorem rws_mem : ∀ (m : Nat) (r : List Int) (top left : Nat),r.length ≤ m → (r.Pairwise fun a b=>b ≤ a) → (∀ x ∈ r,0 < x) → (∀ x ∈ r,x ≤ (top : Int)) → r.sum ≤ (left : Int) → r ∈ rws m top left
  | 0,[],_,_,_,_,_,_,_=>by simp [rws]
  | 0,x :: r,_,_,h,_,_,_,_=>by simp at h
  | m + 1,[],_,_,_,_,_,_,_=>by simp [rws]
  | m + 1,x :: r,top,left,h,f,p,t,s=>by
    obtain ⟨f1,f2⟩:=List.pairwise_cons.mp f
    have px:=p x (List.mem_cons_self ..)
    have tx:=t x (List.mem_cons_self ..)
    rw [List.sum_cons] at s
    have r0 : 0 ≤ r.sum:=by
      have : ∀ l : List Int,(∀ y ∈ l,0 < y) → 0 ≤ l.sum:=fun l hl=>by
        induction l with
        | nil=>simp
        | cons y l ih =>
          rw [List.sum_cons]
          have:=hl y (List.mem_cons_self ..)
          have:=ih fun z hz=>hl z (List.mem_cons_of_mem _ hz)
          omega
      exact this r fun y hy=>p y (List.mem_cons_of_mem _ hy)
    unfold rws
    refine List.mem_cons_of_mem _ (List.mem_flatMap.mpr ⟨(x - 1).toNat,List.mem_range.mpr (by omega),List.mem_map.mpr ⟨r,rws_mem m r _ _ (by simpa using h) f2 (fun y hy=>p y (List.mem_cons_of_mem _ hy)) (fun y hy=>?_) (by omega),?_⟩⟩)
    · have:=f1 y hy
      omega
    · rw [show (((x - 1).toNat + 1 : Nat) : Int) = x by omega]
def fp (p : Pw) : Option Pw:=if isF p = true then some (posR p) else none
def rowOk (n : Nat) (r : List Int) : Bool:=decide ((arrF n r).filterMap fp = [r]) && decide (norm ((arrF n r).map fun q=>(q,(1 : Int))) = norm (exch n r)) && (arrF n r).all (fun p=>p.all fun x=>decide (0 ≤ x)) && rowB r
theorem row_oks : ∀ n ∈ ([1,2,3,4] : List Nat),(rws n 8 8).all (rowOk n) = true:=by decide +kernel
theorem be_map (c : Int) : ∀ L : List Pw,beX (L.map fun q=>(q,c)) = (L.filterMap fp).map fun q=>(q,c)
  | []=>rfl
  | p :: L=>by
    have ih:=be_map c L
    unfold beX at ih ⊢
    rw [List.map_cons,List.filterMap_cons,List.filterMap_cons]
    unfold be1 fp
    by_cases h : isF p = true
    · simp only [h,if_true]
      rw [List.map_cons]
      congr 1
    · simp only [h,if_false]
      exact ih
theorem be_app (a b : List Mon) : beX (a ++ b) = beX a ++ beX b:=List.filterMap_append ..
theorem cf_be (r : Pw) : ∀ ts : List Mon,cf (beX ts) r = sm (fun p=>if fp p = some r then 1 else 0) ts
  | []=>rfl
  | t :: ts=>by
    have ih : cf (ts.filterMap be1) r = sm (fun p=>if fp p = some r then 1 else 0) ts:=cf_be r ts
    show cf ((t :: ts).filterMap be1) r = t.2 * (if fp t.1 = some r then 1 else 0) + sm (fun p=>if fp p = some r then 1 else 0) ts
    rw [List.filterMap_cons]
    by_cases h : isF t.1 = true
    · rw [show be1 t = some (posR t.1,t.2) from if_pos h,show fp t.1 = some (posR t.1) from if_pos h]
      show (if posR t.1 = r then t.2 else 0) + cf (ts.filterMap be1) r = _
      rw [ih]
      by_cases e : posR t.1 = r
      · rw [if_pos e,if_pos (by rw [e])]; omega
      · rw [if_neg e,if_neg (fun z=>e (Option.some.inj z))]; omega
    · rw [show be1 t = none from if_neg h,show fp t.1 = none from if_neg h]
      show cf (ts.filterMap be1) r = _
      rw [ih,if_neg (by intro z; cases z)]
      omega
theorem pos_lt : ∀ p q : List Int,p.length = q.length → (p.Pairwise fun a b=>b ≤ a) → (q.Pairwise fun a b=>b ≤ a) → (∀ x ∈ p,0 ≤ x) → (∀ x ∈ q,0 ≤ x) → lxl q p = true → lxl (posR q) (posR p) = true
  | [],[],_,_,_,_,_,h=>by simp [lxl] at h
  | [],_ :: _,h,_,_,_,_,_=>by simp at h
  | _ :: _,[],h,_,_,_,_,_=>by simp at h
  | a :: p,b :: q,hl,fp,fq,np,nq,h=>by
    obtain ⟨p1,p2⟩:=List.pairwise_cons.mp fp
    obtain ⟨q1,q2⟩:=List.pairwise_cons.mp fq
    have a0:=np a (List.mem_cons_self ..)
    have b0:=nq b (List.mem_cons_self ..)
    have zero : ∀ l : List Int,(∀ x ∈ l,x ≤ 0) → posR l = []:=fun l hl=>by
      unfold posR
      rw [List.filter_eq_nil_iff]
      intro x hx
      have:=hl x hx
      simp
      omega
    by_cases e : b = a
    · subst e
      have h' : lxl q p = true:=by simpa [lxl] using h
      by_cases z : 0 < b
      · have e1 : posR (b :: p) = b :: posR p:=by unfold posR; rw [List.filter_cons]; simp [z]
        have e2 : posR (b :: q) = b :: posR q:=by unfold posR; rw [List.filter_cons]; simp [z]
        rw [e1,e2]
        have ih:=pos_lt p q (by simpa using hl) p2 q2 (fun x hx=>np x (List.mem_cons_of_mem _ hx)) (fun x hx=>nq x (List.mem_cons_of_mem _ hx)) h'
        simpa [lxl] using ih
      · exfalso
        have ep : p = q:=by
          have r1 : ∀ l : List Int,(∀ x ∈ l,x ≤ b) → (∀ x ∈ l,0 ≤ x) → l = List.replicate l.length 0:=fun l h1 h2=>List.eq_replicate_iff.mpr ⟨rfl,fun x hx=>by have:=h1 x hx; have:=h2 x hx; omega⟩
          rw [r1 p p1 fun x hx=>np x (List.mem_cons_of_mem _ hx),r1 q q1 fun x hx=>nq x (List.mem_cons_of_mem _ hx)]
          rw [show p.length = q.length by simpa using hl]
        rw [ep] at h'
        have:=lin_lxl.irr q
        rw [this] at h'
        cases h'
    · have h' : b < a:=by simpa [lxl,e] using h
      have e1 : posR (a :: p) = a :: posR p:=by unfold posR; rw [List.filter_cons]; simp [show 0 < a by omega]
      rw [e1]
      by_cases z : 0 < b
      · have e2 : posR (b :: q) = b :: posR q:=by unfold posR; rw [List.filter_cons]; simp [z]
        rw [e2]
        simpa [lxl,e] using h'
      · rw [zero (b :: q) fun x hx=>by
          rcases List.mem_cons.mp hx with rfl | hx
          · omega
          · have:=q1 x hx; omega]
        rfl
theorem isF_falls {p : Pw} (h : isF p = true) : p.Pairwise fun a b=>b ≤ a:=by
  rw [(isF_iff p).mp h]
  exact dsc_falls p
theorem be_canon {n : Nat} {S : List Mon} (c : Canon S) (hl : ∀ t ∈ S,t.1.length = n) (hn : ∀ t ∈ S,∀ x ∈ t.1,0 ≤ x) : Canon (beX S):=by
  refine ⟨?_,fun u hu=>?_⟩
  · unfold beX
    rw [List.pairwise_filterMap]
    refine c.ord.imp_of_mem fun {a b} ha hb h u hu v hv=>?_
    unfold be1 at hu hv
    by_cases h1 : isF a.1 = true
    · rw [if_pos h1] at hu
      cases hu
      by_cases h2 : isF b.1 = true
      · rw [if_pos h2] at hv
        cases hv
        exact pos_lt a.1 b.1 ((hl a ha).trans (hl b hb).symm) (isF_falls h1) (isF_falls h2) (hn a ha) (hn b hb) h
      · rw [if_neg h2] at hv; cases hv
    · rw [if_neg h1] at hu; cases hu
  · obtain ⟨t,ht,e⟩:=List.mem_filterMap.mp hu
    unfold be1 at e
    by_cases h1 : isF t.1 = true
    · rw [if_pos h1] at e
      cases e
      exact c.num t ht
    · rw [if_neg h1] at e; cases e
structure Rw8 (n : Nat) (r : List Int) : Prop where
  len : r.length ≤ n
  fall : r.Pairwise fun a b=>b ≤ a
  pos : ∀ x ∈ r,0 < x
  sum : r.sum ≤ 8
theorem Rw8.ok {n : Nat} {r : List Int} (n1 : 1 ≤ n) (n4 : n ≤ 4) (h : Rw8 n r) : rowOk n r = true:=by
  have m : n ∈ ([1,2,3,4] : List Nat):=by
    have : n = 1 ∨ n = 2 ∨ n = 3 ∨ n = 4:=by omega
    rcases this with rfl | rfl | rfl | rfl <;> simp
  refine List.all_eq_true.mp (row_oks n m) r (rws_mem n r 8 8 h.len h.fall h.pos (fun x hx=>?_) h.sum)
  have : ∀ l : List Int,(∀ y ∈ l,0 < y) → ∀ x ∈ l,x ≤ l.sum:=fun l=>by
    induction l with
    | nil=>intro _ x hx; simp at hx
    | cons y l ih =>
      intro hl x hx
      have s0 : 0 ≤ l.sum:=by
        have : ∀ l : List Int,(∀ y ∈ l,0 < y) → 0 ≤ l.sum:=fun l hl=>by
          induction l with
          | nil=>simp
          | cons y l ih =>
            rw [List.sum_cons]
            have:=hl y (List.mem_cons_self ..)
            have:=ih fun z hz=>hl z (List.mem_cons_of_mem _ hz)
            omega
        exact this l fun z hz=>hl z (List.mem_cons_of_mem _ hz)
      rw [List.sum_cons]
      rcases List.mem_cons.mp hx with rfl | hx
      · omega
      · have:=ih (fun z hz=>hl z (List.mem_cons_of_mem _ hz)) x hx
        have:=hl y (List.mem_cons_self ..)
        omega
  have:=this r h.pos x hx
  have:=h.sum
  show x ≤ (8 : Int)
  omega
theorem rowOk_all {n : Nat} {r : List Int} (h : rowOk n r = true) : (arrF n r).filterMap fp = [r] ∧ norm ((arrF n r).map fun q=>(q,(1 : Int))) = norm (exch n r) ∧ (∀ p ∈ arrF n r,∀ x ∈ p,0 ≤ x) ∧ rowB r = true:=by
  unfold rowOk at h
  rw [Bool.and_eq_true] at h
  obtain ⟨h,hB⟩:=h
  simp only [Bool.and_eq_true,decide_eq_true_eq,List.all_eq_true] at h
  exact ⟨h.1.1,h.1.2,h.2,hB⟩
theorem be_flat {n : Nat} (n1 : 1 ≤ n) (n4 : n ≤ 4) : ∀ T : List Mon,(∀ t ∈ T,Rw8 n t.1) → beX (T.flatMap (evG n)) = T
  | [],_=>rfl
  | t :: T,h=>by
    rw [List.flatMap_cons,be_app,be_flat n1 n4 T fun u hu=>h u (List.mem_cons_of_mem _ hu)]
    unfold evG
    rw [be_map,(rowOk_all ((h t (List.mem_cons_self ..)).ok n1 n4)).1]
    rfl
theorem be_even {n : Nat} (n1 : 1 ≤ n) (n4 : n ≤ 4) {T : List Mon} (c : Canon T) (h : ∀ t ∈ T,Rw8 n t.1) : beX (norm (T.flatMap (evG n))) = T:=by
  have mem : ∀ t ∈ norm (T.flatMap (evG n)),t.1.length = n ∧ ∀ x ∈ t.1,0 ≤ x:=fun t ht=>by
    obtain ⟨u,hu,e⟩:=norm_mem ht
    obtain ⟨y,hy,hm⟩:=List.mem_flatMap.mp hu
    obtain ⟨q,hq,rfl⟩:=List.mem_map.mp hm
    have e : q = t.1:=e
    rw [← e]
    exact ⟨(arrF_len (h y hy).len n4).2 q hq,(rowOk_all ((h y hy).ok n1 n4)).2.2.1 q hq⟩
  refine canon_eq (be_canon (norm_canon _) (fun t ht=>(mem t ht).1) fun t ht=>(mem t ht).2) c fun r=>?_
  rw [cf_be,sm_norm,← cf_be,be_flat n1 n4 T h]
theorem cf_num (p : Pw) (c : Int) : ∀ L : List Pw,cf (L.map fun q=>(q,c)) p = c * cf (L.map fun q=>(q,(1 : Int))) p
  | []=>by simp [cf]
  | q :: L=>by
    have ih:=cf_num p c L
    simp only [List.map_cons,cf]
    rw [ih,Int.mul_add]
    congr 1
    by_cases e : q = p
    · rw [if_pos e,if_pos e]; omega
    · rw [if_neg e,if_neg e]; omega
theorem ex_even {n : Nat} (n1 : 1 ≤ n) (n4 : n ≤ 4) {T : List Mon} (h : ∀ t ∈ T,Rw8 n t.1) : norm (T.flatMap fun t=>(exch n t.1).map fun u=>(u.1,u.2 * t.2)) = norm (T.flatMap (evG n)):=by
  refine norm_congr fun p=>?_
  induction T with
  | nil=>rfl
  | cons t T ih =>
    rw [List.flatMap_cons,List.flatMap_cons,cf_append,cf_append,ih fun u hu=>h u (List.mem_cons_of_mem _ hu)]
    congr 1
    have e:=(rowOk_all ((h t (List.mem_cons_self ..)).ok n1 n4)).2.1
    have e2 : cf ((arrF n t.1).map fun q=>(q,(1 : Int))) p = cf (exch n t.1) p:=by rw [← norm_cf,e,norm_cf]
    unfold evG
    rw [cf_num,e2]
    have e3 : ((exch n t.1).map fun u=>(u.1,u.2 * t.2)) = (ords 5 (t.1 ++ List.replicate (n - t.1.length) 0)).map fun q=>(q,t.2):=by
      unfold exch
      rw [List.map_map]
      refine List.map_congr_left fun q _=>?_
      show (q,(1 : Int) * t.2) = (q,t.2)
      rw [Int.one_mul]
    rw [e3,cf_num]
    rfl
end
end L2.K23
set_option maxHeartbeats 4000000
namespace L2.K23
open PySem
open L2.Pl L2.Ev
section
variable {P : Program} {w : World} {K : PySem.W.Frag} {mg : Str → Option Value} {base : Heap} {f g : Addr} {fd gd : FuncData}
abbrev nAs : List Str:=["_law_many", "_law_some", "_law_found", "_law_caught", "e"]
abbrev pAs : List Str:=["_law_many", "_law_some"]
theorem scAs : FnScope nAs pAs (defScope sAsked):=⟨rfl,rfl,rfl,by decide +kernel,rfl,by decide +kernel,by decide +kernel⟩
def spAsked (cBC C : Addr) : Sp:=fun vs H Q _=>∃ (n : Int) (a : Addr) (ts : List Mon),vs = [.int n,.ref a] ∧ LstAt H a ts ∧ ts.length ≤ 1000 ∧
  (¬ (1 ≤ n ∧ n ≤ 4) → ∀ (p c : Addr) (H' : Hp),Same H H' → H' c = some (xE c (.ref cBC) none) → H' p = some (.tup [.non,.ref c]) → Q (.ref p) H') ∧
  (1 ≤ n ∧ n ≤ 4 → (∀ t ∈ ts,t.1.length = n.toNat) ∧
    (UnR ts (n.toNat - 1) none → ∀ (p l : Addr) (H' : Hp),Same H H' → H l = none → LstAt H' l (beX ts) → H' p = some (.tup [.ref l,.non]) → Q (.ref p) H') ∧
    ∀ k pw,UnR ts (n.toNat - 1) (some (k,pw)) → ∀ (p c d kk : Addr) (H' : Hp),Same H H' → H' c = some (xE c (.ref C) (some d)) → H' d = some (xD d [("place",.int k),("powers",.ref kk)]) → H' kk = some (.tup (pw.map V.int)) → H' p = some (.tup [.non,.ref c]) → Q (.ref p) H')
theorem ok_asked {cBC C C0 : Addr} (F : Fun K "_law_asked" "_law_asked" sAsked f fd) (GB : HasX P w K mg base 9 "by_exchange" pUn (spBe cBC C)) (mE : mg "EvenError" = some (.ref C0)) (kE : PySem.W.kitOne K (.ref C0) (.type "BaseException") = some true)
    (kB : PySem.W.kitOne K (.ref cBC) (.ref C0) = some true ∧ cBC ≠ C0) (kU : PySem.W.kitOne K (.ref C) (.ref C0) = some true ∧ C ≠ C0) : FnOk P w K mg base CX0 10 f fd pAs (spAsked cBC C):=by
  refine F.ok scAs (fun vs H Q E h=>?_) (fun cdv A outer s H vs Q E hr h=>?_)
  · obtain ⟨n,a,ts,rfl,_⟩:=h
    rfl
  obtain ⟨n,a,ts,rfl,hL,hl,e1,q⟩:=h
  refine ⟨_,pss_cons (ps_set (i:=2) scAs.nd rfl (Or.inl rfl) pe_non)
    (pss_cons (ps_set (i:=3) scAs.nd rfl (Or.inl rfl) pe_non)
    (pss_cons (ps_try (i:=4) (j:=3) rfl rfl scAs.nd rfl rfl rfl rfl rfl mE (kit_cls_ty kE) (fun pn' T σ0 E' hx=>pss_one (ps_set (i:=2) scAs.nd rfl (Or.inl rfl) (pe_callS GB.ok hr rfl GB.at_ GB.kp GB.bd hx (pa_cons (pv 0) (pa_cons (pv 1) pa_nil))))))
    (pss_one (ps_ret (pe_tup (pa_cons (pv 2) (pa_cons (pv 3) pa_nil))))))),?_⟩
  refine ⟨rfl,_,rfl,_,rfl,n,a,ts,rfl,hL,hl,fun hn=>⟨cBC,rfl,kit_cls_of kB.1 kB.2,fun c hc=>?_⟩,fun hn=>?_⟩
  · refine ⟨_,rfl,_,rfl,(by show 2 ≤ sizeLine; decide),fun p hp=>?_⟩
    have s2:=same_new hp (.tup [.non,.ref c])
    exact e1 hn p c _ ((same_new hc _).trans s2) (s2 _ _ upd_same) upd_same
  obtain ⟨lens,q0,q1⟩:=q hn
  refine ⟨lens,fun hU l H1 hl0 s1 h1=>?_,fun k pw hU H1 d kk s1 hd0 hd hk=>⟨C,rfl,kit_cls_of kU.1 kU.2,fun c hc=>?_⟩⟩
  · refine ⟨_,rfl,_,rfl,(by show 2 ≤ sizeLine; decide),fun p hp=>?_⟩
    have s2:=same_new hp (.tup [.ref l,.non])
    exact q0 hU p l _ (s1.trans s2) hl0 (h1.mono s2) upd_same
  · refine ⟨_,rfl,_,rfl,(by show 2 ≤ sizeLine; decide),fun p hp=>?_⟩
    have s3:=same_new hc (xE c (.ref C) (some d))
    have s2:=same_new hp (.tup [.non,.ref c])
    exact q1 k pw hU p c d kk _ (s1.trans (s3.trans s2)) (s2 _ _ upd_same) (s2 _ _ (s3 _ _ hd)) (s2 _ _ (s3 _ _ hk)) upd_same
end
end L2.K23
set_option maxHeartbeats 4000000
namespace L2.K23
open PySem
open L2.Pl L2.Ev
section
variable {P : Program} {w : World} {K : PySem.W.Frag} {mg : Str → Option Value} {base : Heap} {f g : Addr} {fd gd : FuncData}
abbrev nF : List Str:=["_law_caught", "_law_flags_here"]
theorem scF : FnScope nF ["_law_caught"] (defScope sFlags):=⟨rfl,rfl,rfl,by decide +kernel,rfl,by decide +kernel,by decide +kernel⟩
def Says (K : PySem.W.Frag) (C : Addr) (ds : List Addr) (bs : List Bool) : Prop:=ds.length = bs.length ∧ ∀ (i : Nat) (d : Addr) (b : Bool),ds[i]? = some d → bs[i]? = some b → PySem.W.kitOne K (.ref C) (.ref d) = some b
def spFlags (K : PySem.W.Frag) (ds : List Addr) : Sp:=fun vs H Q _=>∃ (od : Option Addr) (c C : Addr) (bs : List Bool),vs = [.ref c] ∧ H c = some (xE c (.ref C) od) ∧ ExcK K C ∧ Says K C ds bs ∧ ∀ (l : Addr) (H' : Hp),H l = none → Same H H' → H' l = some (.lst (bs.map V.bl)) → Q (.ref l) H'
theorem ok_flags {d0 d1 d2 d3 d4 d5 d6 d7 d8 d9 d10 d11 d12 : Addr} (F : Fun K "_law_flags" "_law_flags" sFlags f fd) (mi : mg "isinstance" = none) (m0 : mg "BadCount" = some (.ref d0)) (m1 : mg "BadPowers" = some (.ref d1)) (m2 : mg "TooGreat" = some (.ref d2)) (m3 : mg "BadRow" = some (.ref d3)) (m4 : mg "UnlikeWeights" = some (.ref d4)) (m5 : mg "TooLong" = some (.ref d5)) (m6 : mg "Uneven" = some (.ref d6)) (m7 : mg "NoKind" = some (.ref d7)) (m8 : mg "NoText" = some (.ref d8)) (m9 : mg "NoLine" = some (.ref d9)) (m10 : mg "BadName" = some (.ref d10)) (m11 : mg "NoName" = some (.ref d11)) (m12 : mg "NotBy" = some (.ref d12)) : FnOk P w K mg base CX0 2 f fd ["_law_caught"] (spFlags K [d0,d1,d2,d3,d4,d5,d6,d7,d8,d9,d10,d11,d12]):=by
  refine F.ok scF (fun vs H Q E h=>?_) (fun cdv A outer s H vs Q E hr h=>?_)
  · obtain ⟨od,c,C,bs,rfl,_⟩:=h
    rfl
  obtain ⟨od,c,C,bs,rfl,hc,hk,⟨hl,hs⟩,q⟩:=h
  match bs,hl,hs,q with
  | [b0,b1,b2,b3,b4,b5,b6,b7,b8,b9,b10,b11,b12],_,hs,q =>
  have k0:=hs 0 _ _ rfl rfl
  have k1:=hs 1 _ _ rfl rfl
  have k2:=hs 2 _ _ rfl rfl
  have k3:=hs 3 _ _ rfl rfl
  have k4:=hs 4 _ _ rfl rfl
  have k5:=hs 5 _ _ rfl rfl
  have k6:=hs 6 _ _ rfl rfl
  have k7:=hs 7 _ _ rfl rfl
  have k8:=hs 8 _ _ rfl rfl
  have k9:=hs 9 _ _ rfl rfl
  have k10:=hs 10 _ _ rfl rfl
  have k11:=hs 11 _ _ rfl rfl
  have k12:=hs 12 _ _ rfl rfl
  refine ⟨_,pss_cons (ps_set (i:=1) scF.nd rfl (Or.inl rfl) (pe_lst (pa_cons (pe_callB call_isexcD rfl mi PyProof.Rows.boot_isinstance (pa_cons (pv 0) (pa_cons (pe_glob (v:=.ref d0) rfl m0 rfl) pa_nil))) (pa_cons (pe_callB call_isexcD rfl mi PyProof.Rows.boot_isinstance (pa_cons (pv 0) (pa_cons (pe_glob (v:=.ref d1) rfl m1 rfl) pa_nil))) (pa_cons (pe_callB call_isexcD rfl mi PyProof.Rows.boot_isinstance (pa_cons (pv 0) (pa_cons (pe_glob (v:=.ref d2) rfl m2 rfl) pa_nil))) pa_nil)))))
    (pss_cons (ps_set (i:=1) scF.nd rfl (Or.inl rfl) (pe_op op_cat (pv 1) (pe_lst (pa_cons (pe_callB call_isexcD rfl mi PyProof.Rows.boot_isinstance (pa_cons (pv 0) (pa_cons (pe_glob (v:=.ref d3) rfl m3 rfl) pa_nil))) (pa_cons (pe_callB call_isexcD rfl mi PyProof.Rows.boot_isinstance (pa_cons (pv 0) (pa_cons (pe_glob (v:=.ref d4) rfl m4 rfl) pa_nil))) pa_nil)))))
    (pss_cons (ps_set (i:=1) scF.nd rfl (Or.inl rfl) (pe_op op_cat (pv 1) (pe_lst (pa_cons (pe_callB call_isexcD rfl mi PyProof.Rows.boot_isinstance (pa_cons (pv 0) (pa_cons (pe_glob (v:=.ref d5) rfl m5 rfl) pa_nil))) (pa_cons (pe_callB call_isexcD rfl mi PyProof.Rows.boot_isinstance (pa_cons (pv 0) (pa_cons (pe_glob (v:=.ref d6) rfl m6 rfl) pa_nil))) (pa_cons (pe_callB call_isexcD rfl mi PyProof.Rows.boot_isinstance (pa_cons (pv 0) (pa_cons (pe_glob (v:=.ref d7) rfl m7 rfl) pa_nil))) pa_nil))))))
    (pss_cons (ps_set (i:=1) scF.nd rfl (Or.inl rfl) (pe_op op_cat (pv 1) (pe_lst (pa_cons (pe_callB call_isexcD rfl mi PyProof.Rows.boot_isinstance (pa_cons (pv 0) (pa_cons (pe_glob (v:=.ref d8) rfl m8 rfl) pa_nil))) (pa_cons (pe_callB call_isexcD rfl mi PyProof.Rows.boot_isinstance (pa_cons (pv 0) (pa_cons (pe_glob (v:=.ref d9) rfl m9 rfl) pa_nil))) (pa_cons (pe_callB call_isexcD rfl mi PyProof.Rows.boot_isinstance (pa_cons (pv 0) (pa_cons (pe_glob (v:=.ref d10) rfl m10 rfl) pa_nil))) pa_nil))))))
    (pss_one (ps_ret (pe_op op_cat (pv 1) (pe_lst (pa_cons (pe_callB call_isexcD rfl mi PyProof.Rows.boot_isinstance (pa_cons (pv 0) (pa_cons (pe_glob (v:=.ref d11) rfl m11 rfl) pa_nil))) (pa_cons (pe_callB call_isexcD rfl mi PyProof.Rows.boot_isinstance (pa_cons (pv 0) (pa_cons (pe_glob (v:=.ref d12) rfl m12 rfl) pa_nil))) pa_nil))))))))),?_⟩
  refine ⟨_,rfl,od,c,C,_,_,_,rfl,hc,hk,rfl,fun _ z=>z,k0,_,rfl,od,c,C,_,_,_,rfl,hc,hk,rfl,fun _ z=>z,k1,_,rfl,od,c,C,_,_,_,rfl,hc,hk,rfl,fun _ z=>z,k2,(by show 3 ≤ sizeLine; decide),fun p0 h0=>?_⟩
  have s0:=same_new h0 (.lst [.bl b0,.bl b1,.bl b2])
  have hc0:=s0 _ _ hc
  have e0 : upd H p0 (.lst [.bl b0,.bl b1,.bl b2]) p0 = some (.lst [.bl b0,.bl b1,.bl b2]):=upd_same
  have z0 : Same H (upd H p0 (.lst [.bl b0,.bl b1,.bl b2])):=s0
  generalize upd H p0 (.lst [.bl b0,.bl b1,.bl b2]) = G0 at *
  refine ⟨_,rfl,_,rfl,od,c,C,_,_,_,rfl,hc0,hk,rfl,fun _ z=>z,k3,_,rfl,od,c,C,_,_,_,rfl,hc0,hk,rfl,fun _ z=>z,k4,(by show 2 ≤ sizeLine; decide),fun r1 hr1=>?_⟩
  have u1:=same_new hr1 (.lst [.bl b3,.bl b4])
  refine ⟨p0,r1,_,_,rfl,rfl,u1 _ _ e0,upd_same,small (by show 5 ≤ 100000; decide),fun p1 hp1=>?_⟩
  have v1:=u1.trans (same_new hp1 (.lst [.bl b0,.bl b1,.bl b2,.bl b3,.bl b4]))
  have hc1:=v1 _ _ hc0
  have z1 : Same H (upd (upd G0 r1 (.lst [.bl b3,.bl b4])) p1 (.lst [.bl b0,.bl b1,.bl b2,.bl b3,.bl b4])):=z0.trans v1
  have e1 : upd (upd G0 r1 (.lst [.bl b3,.bl b4])) p1 (.lst [.bl b0,.bl b1,.bl b2,.bl b3,.bl b4]) p1 = some (.lst [.bl b0,.bl b1,.bl b2,.bl b3,.bl b4]):=upd_same
  generalize hG1 : upd (upd G0 r1 (.lst [.bl b3,.bl b4])) p1 (.lst [.bl b0,.bl b1,.bl b2,.bl b3,.bl b4]) = G1 at *
  show gName 1 (.ref p1) _ (upd (upd G0 r1 (.lst [.bl b3,.bl b4])) p1 (.lst [.bl b0,.bl b1,.bl b2,.bl b3,.bl b4])) _
  rw [hG1]
  refine ⟨_,rfl,_,rfl,od,c,C,_,_,_,rfl,hc1,hk,rfl,fun _ z=>z,k5,_,rfl,od,c,C,_,_,_,rfl,hc1,hk,rfl,fun _ z=>z,k6,_,rfl,od,c,C,_,_,_,rfl,hc1,hk,rfl,fun _ z=>z,k7,(by show 3 ≤ sizeLine; decide),fun r2 hr2=>?_⟩
  have u2:=same_new hr2 (.lst [.bl b5,.bl b6,.bl b7])
  refine ⟨p1,r2,_,_,rfl,rfl,u2 _ _ e1,upd_same,small (by show 8 ≤ 100000; decide),fun p2 hp2=>?_⟩
  have v2:=u2.trans (same_new hp2 (.lst [.bl b0,.bl b1,.bl b2,.bl b3,.bl b4,.bl b5,.bl b6,.bl b7]))
  have hc2:=v2 _ _ hc1
  have z2 : Same H (upd (upd G1 r2 (.lst [.bl b5,.bl b6,.bl b7])) p2 (.lst [.bl b0,.bl b1,.bl b2,.bl b3,.bl b4,.bl b5,.bl b6,.bl b7])):=z1.trans v2
  have e2 : upd (upd G1 r2 (.lst [.bl b5,.bl b6,.bl b7])) p2 (.lst [.bl b0,.bl b1,.bl b2,.bl b3,.bl b4,.bl b5,.bl b6,.bl b7]) p2 = some (.lst [.bl b0,.bl b1,.bl b2,.bl b3,.bl b4,.bl b5,.bl b6,.bl b7]):=upd_same
  generalize hG2 : upd (upd G1 r2 (.lst [.bl b5,.bl b6,.bl b7])) p2 (.lst [.bl b0,.bl b1,.bl b2,.bl b3,.bl b4,.bl b5,.bl b6,.bl b7]) = G2 at *
  show gName 1 (.ref p2) _ (upd (upd G1 r2 (.lst [.bl b5,.bl b6,.bl b7])) p2 (.lst [.bl b0,.bl b1,.bl b2,.bl b3,.bl b4,.bl b5,.bl b6,.bl b7])) _
  rw [hG2]
  refine ⟨_,rfl,_,rfl,od,c,C,_,_,_,rfl,hc2,hk,rfl,fun _ z=>z,k8,_,rfl,od,c,C,_,_,_,rfl,hc2,hk,rfl,fun _ z=>z,k9,_,rfl,od,c,C,_,_,_,rfl,hc2,hk,rfl,fun _ z=>z,k10,(by show 3 ≤ sizeLine; decide),fun r3 hr3=>?_⟩
  have u3:=same_new hr3 (.lst [.bl b8,.bl b9,.bl b10])
  refine ⟨p2,r3,_,_,rfl,rfl,u3 _ _ e2,upd_same,small (by show 11 ≤ 100000; decide),fun p3 hp3=>?_⟩
  have v3:=u3.trans (same_new hp3 (.lst [.bl b0,.bl b1,.bl b2,.bl b3,.bl b4,.bl b5,.bl b6,.bl b7,.bl b8,.bl b9,.bl b10]))
  have hc3:=v3 _ _ hc2
  have z3 : Same H (upd (upd G2 r3 (.lst [.bl b8,.bl b9,.bl b10])) p3 (.lst [.bl b0,.bl b1,.bl b2,.bl b3,.bl b4,.bl b5,.bl b6,.bl b7,.bl b8,.bl b9,.bl b10])):=z2.trans v3
  have e3 : upd (upd G2 r3 (.lst [.bl b8,.bl b9,.bl b10])) p3 (.lst [.bl b0,.bl b1,.bl b2,.bl b3,.bl b4,.bl b5,.bl b6,.bl b7,.bl b8,.bl b9,.bl b10]) p3 = some (.lst [.bl b0,.bl b1,.bl b2,.bl b3,.bl b4,.bl b5,.bl b6,.bl b7,.bl b8,.bl b9,.bl b10]):=upd_same
  generalize hG3 : upd (upd G2 r3 (.lst [.bl b8,.bl b9,.bl b10])) p3 (.lst [.bl b0,.bl b1,.bl b2,.bl b3,.bl b4,.bl b5,.bl b6,.bl b7,.bl b8,.bl b9,.bl b10]) = G3 at *
  show gName 1 (.ref p3) _ (upd (upd G2 r3 (.lst [.bl b8,.bl b9,.bl b10])) p3 (.lst [.bl b0,.bl b1,.bl b2,.bl b3,.bl b4,.bl b5,.bl b6,.bl b7,.bl b8,.bl b9,.bl b10])) _
  rw [hG3]
  refine ⟨_,rfl,_,rfl,od,c,C,_,_,_,rfl,hc3,hk,rfl,fun _ z=>z,k11,_,rfl,od,c,C,_,_,_,rfl,hc3,hk,rfl,fun _ z=>z,k12,(by show 2 ≤ sizeLine; decide),fun r4 hr4=>?_⟩
  have u4:=same_new hr4 (.lst [.bl b11,.bl b12])
  refine ⟨p3,r4,_,_,rfl,rfl,u4 _ _ e3,upd_same,small (by show 13 ≤ 100000; decide),fun p4 hp4=>?_⟩
  have v4:=u4.trans (same_new hp4 (.lst [.bl b0,.bl b1,.bl b2,.bl b3,.bl b4,.bl b5,.bl b6,.bl b7,.bl b8,.bl b9,.bl b10,.bl b11,.bl b12]))
  exact q p4 _ (z3.free (u4.free hp4)) (z3.trans v4) upd_same
abbrev nY1 : List Str:=["_law_caught", "_law_name", "_law_names"]
abbrev bY1 : List Str:=["_law_other", "_law_name"]
theorem ndY1 : bY1.Nodup:=by decide +kernel
theorem scY1 : FnScope nY1 ["_law_caught", "_law_name"] (defScope sOnly):=⟨rfl,rfl,rfl,by decide +kernel,rfl,by decide +kernel,by decide +kernel⟩
def exNames : List Str:=["BadCount", "BadPowers", "TooGreat", "BadRow", "UnlikeWeights", "TooLong", "Uneven", "NoKind", "NoText", "NoLine", "BadName", "NoName", "NotBy"]
def exFlags (x : Str) : List Bool:=exNames.map fun y=>decide (V.str y = V.str x)
def spOnly (K : PySem.W.Frag) (ds : List Addr) : Sp:=fun vs H Q _=>∃ (od : Option Addr) (c C : Addr) (x : Str),vs = [.ref c,.str x] ∧ H c = some (xE c (.ref C) od) ∧ ExcK K C ∧ PySem.W.kitOne K (.ref C) (.type "ValueError") = some true ∧ Says K C ds (exFlags x) ∧ ∀ H',Same H H' → Q (.bl true) H'
theorem ok_only {ds : List Addr} (F : Fun K "_law_only" "_law_only" sOnly f fd) (G : Has P w K mg base 2 "_law_flags" ["_law_caught"] (spFlags K ds)) (mi : mg "isinstance" = none) (mv : mg "ValueError" = none) : FnOk P w K mg base CX0 3 f fd ["_law_caught", "_law_name"] (spOnly K ds):=by
  refine F.ok scY1 (fun vs H Q E h=>?_) (fun cdv A outer s H vs Q E hr h=>?_)
  · obtain ⟨od,c,C,x,rfl,_⟩:=h
    rfl
  obtain ⟨od,c,C,x,rfl,hc,hk,hv,hs,q⟩:=h
  have hB:=Nat.lt_of_le_of_lt (Nat.add_le_add_left (by decide : Dat.dep Bool + 1 ≤ 64) _) hr.units
  refine ⟨_,pss_cons (ps_set (i:=2) scY1.nd rfl (Or.inl rfl) (pe_lst (pa_cons pe_str (pa_cons pe_str (pa_cons pe_str (pa_cons pe_str (pa_cons pe_str (pa_cons pe_str (pa_cons pe_str (pa_cons pe_str pa_nil))))))))))
    (pss_cons (ps_set (i:=2) scY1.nd rfl (Or.inl rfl) (pe_op op_cat (pv 2) (pe_lst (pa_cons pe_str (pa_cons pe_str (pa_cons pe_str (pa_cons pe_str (pa_cons pe_str pa_nil))))))))
    (pss_one (ps_ret (pe_and (pe_callB call_isexcD rfl mi PyProof.Rows.boot_isinstance (pa_cons (pv 0) (pa_cons (pe_bltn (v:=.ty "ValueError") rfl mv PyProof.Rows.Boot.«ValueError» rfl) pa_nil)))
      (pe_one (pe_cmpR (op_eqL (α:=Bool) hB) (pe_has G hr rfl (pa_cons (pv 0) pa_nil)) (pe_comp (N':=bY1) (src:=[none,some 1]) rfl (pi_list (pv 2)) (bk_of (defScope sOnly) nY1 (by decide +kernel))
        (fun b=>pg_name (i:=0) ndY1 rfl (Or.inl rfl)) (fun b=>pts_nil) (fun b=>pe_cmpR op_eq (pv 0) (pv 1) (nomark _))) (nomark _))))))),?_⟩
  refine ⟨(by show 8 ≤ sizeLine; decide),fun p0 h0=>?_⟩
  have s0:=same_new h0 (.lst [.str "BadCount",.str "BadPowers",.str "TooGreat",.str "BadRow",.str "UnlikeWeights",.str "TooLong",.str "Uneven",.str "NoKind"])
  refine ⟨_,rfl,(by show 5 ≤ sizeLine; decide),fun p1 h1=>?_⟩
  have s1:=same_new h1 (.lst [.str "NoText",.str "NoLine",.str "BadName",.str "NoName",.str "NotBy"])
  refine ⟨p0,p1,_,_,rfl,rfl,s1 _ _ upd_same,upd_same,small (by decide),fun p2 h2=>?_⟩
  have s2:=same_new h2 (.lst (exNames.map V.str))
  have e2 : upd (upd (upd H p0 (.lst [.str "BadCount",.str "BadPowers",.str "TooGreat",.str "BadRow",.str "UnlikeWeights",.str "TooLong",.str "Uneven",.str "NoKind"])) p1 (.lst [.str "NoText",.str "NoLine",.str "BadName",.str "NoName",.str "NotBy"])) p2 (.lst (exNames.map V.str)) p2 = some (.lst (exNames.map V.str)):=upd_same
  have z:=s0.trans (s1.trans s2)
  have hc2:=z _ _ hc
  show gName 2 (.ref p2) _ (upd (upd (upd H p0 (.lst [.str "BadCount",.str "BadPowers",.str "TooGreat",.str "BadRow",.str "UnlikeWeights",.str "TooLong",.str "Uneven",.str "NoKind"])) p1 (.lst [.str "NoText",.str "NoLine",.str "BadName",.str "NoName",.str "NotBy"])) p2 (.lst (exNames.map V.str))) _
  generalize upd (upd (upd H p0 (.lst [.str "BadCount",.str "BadPowers",.str "TooGreat",.str "BadRow",.str "UnlikeWeights",.str "TooLong",.str "Uneven",.str "NoKind"])) p1 (.lst [.str "NoText",.str "NoLine",.str "BadName",.str "NoName",.str "NotBy"])) p2 (.lst (exNames.map V.str)) = G0 at *
  refine ⟨_,rfl,od,c,C,.ty "ValueError",.type "ValueError",_,rfl,hc2,hk,rfl,fun _ z=>z,hv,_,rfl,iteT ?_⟩
  refine ⟨_,rfl,od,c,C,exFlags x,rfl,hc2,hk,hs,fun l G1 hl t1 e1=>?_⟩
  have e3:=t1 _ _ e2
  refine ⟨_,rfl,p2,rfl,⟨_,SqL.of e3⟩,fun bk D hD=>?_⟩
  refine comp_list (α:=Bool) hD (SqL.of e3) (fun σ=>∃ c0,σ = [c0,some (.str x)]) (fun i=>(exNames[i]?).bind fun y=>some (decide (V.str y = V.str x))) (small (by decide)) ?_ ?_ ?_
  · exact ⟨_,rfl⟩
  · rintro i v σ H2 Yes No hv ⟨c0,rfl⟩ s3 yes no
    obtain ⟨y,hy,rfl⟩ : ∃ y,exNames[i]? = some y ∧ V.str y = v:=by
      rw [List.getElem?_map] at hv
      cases e : exNames[i]? with
      | none=>rw [e] at hv; cases hv
      | some y=>rw [e] at hv; exact ⟨y,rfl,Option.some.inj hv⟩
    refine nameYes ?_
    refine ⟨_,rfl,_,rfl,rfl,?_⟩
    exact yes _ _ _ _ ⟨_,rfl⟩ (fun _ _ e=>e) (by rw [hy]; rfl) rfl
  rintro H2 s3 hL
  have e : (List.range (exNames.map V.str).length).filterMap (fun i=>(exNames[i]?).bind fun y=>some (decide (V.str y = V.str x))) = exFlags x:=by
    rw [List.length_map,range_map,List.filterMap_eq_map']
    rfl
  rw [e] at hL
  refine ⟨l,D,exFlags x,exFlags x,rfl,rfl,⟨_,s3 _ _ e1,?_⟩,hL,?_⟩
  · induction exFlags x with
    | nil=>exact .nil
    | cons b r ih=>exact .cons rfl ih
  · rw [eqbs_self]
    exact q _ (z.trans (t1.trans s3))
end
end L2.K23
set_option maxHeartbeats 4000000
namespace L2.K23
open PySem
open L2.Pl L2.Ev
section
variable {P : Program} {w : World} {K : PySem.W.Frag} {mg : Str → Option Value} {base : Heap} {f g : Addr} {fd gd : FuncData}
theorem pu_is {H : Hp} {t kk : Addr} {k : Nat} {p : Pw} (h : H t = some (.tup [.int k,.ref kk])) (h2 : H kk = some (.tup (p.map V.int))) : Dat.is (α:=Int × List Int) H (.ref t) ((k : Int),p):=⟨t,.int k,.ref kk,rfl,h,rfl,row_is h2⟩
abbrev nUv : List Str:=["_law_caught", "_law_due_here"]
abbrev bUv : List Str:=["_law_number_here"]
theorem ndUv : bUv.Nodup:=by decide +kernel
theorem scUv : FnScope nUv nUv (defScope sUv):=⟨rfl,rfl,rfl,by decide +kernel,rfl,by decide +kernel,by decide +kernel⟩
structure UCls (K : PySem.W.Frag) (ds : List Addr) (C : Addr) : Prop where
  k : ExcK K C
  v : PySem.W.kitOne K (.ref C) (.type "ValueError") = some true
  s : Says K C ds (exFlags "Uneven")
  h : PySem.W.hasDictIn K C = true
  p1 : PySem.W.findIn K (.ref C) "place" = some none
  p2 : PySem.W.findIn K (.ref C) "powers" = some none
def spUv (C : Addr) : Sp:=fun vs H Q _=>∃ (c d kk : Addr) (v : V) (k : Nat) (p : Pw),vs = [.ref c,v] ∧ H c = some (xE c (.ref C) (some d)) ∧ H d = some (xD d [("place",.int k),("powers",.ref kk)]) ∧ H kk = some (.tup (p.map V.int)) ∧ p.length ≤ 100 ∧ isU H v (some (k,p)) ∧ ∀ H',Same H H' → Q (.bl true) H'
theorem ok_uv {C : Addr} {ds : List Addr} (F : Fun K "_law_uneven" "_law_uneven" sUv f fd) (GO : Has P w K mg base 3 "_law_only" ["_law_caught", "_law_name"] (spOnly K ds)) (GW : Has P w K mg base 3 "_law_whole" ["_law_found"] spWhole) (c : UCls K ds C) (mi : mg "isinstance" = none) (mt : mg "tuple" = none) (ma : mg "all" = none) : FnOk P w K mg base CX0 4 f fd nUv (spUv C):=by
  refine F.ok scUv (fun vs H Q E h=>?_) (fun cdv A outer s H vs Q E hr h=>?_)
  · obtain ⟨x,d,kk,v,k,p,rfl,_⟩:=h
    rfl
  obtain ⟨x,d,kk,v,k,p,rfl,hx,hd,hk,hl,hv,q⟩:=h
  refine ⟨_,pss_cons (ps_if (PW.pt (pw_or (pt_not (pt_val (pe_has GO hr rfl (pa_cons (pv 0) (pa_cons pe_str pa_nil))))) (pw_or1 (pt_not (pt_val (pe_has GW hr rfl (pa_cons (pe_fldX (pv 0) rfl) pa_nil))))))) (pss_one (ps_ret pe_bl)) pss_nil)
    (pss_cons (ps_if (PW.pt (pw_or (pt_not (pt_val (pe_callB call_isinst rfl mi PyProof.Rows.boot_isinstance (pa_cons (pe_fldX (pv 0) rfl) (pa_cons (pe_bltn (v:=.ty "tuple") rfl mt PyProof.Rows.boot_tuple rfl) pa_nil)))))
      (pw_or1 (pt_not (pt_val (pe_callB (call_allL rfl) rfl ma PyProof.Rows.boot_all (pa_cons (pe_comp (N':=bUv) (src:=[none]) rfl (pi_tup (pe_fldX (pv 0) rfl)) (bk_of (defScope sUv) nUv (by decide +kernel))
            (fun b=>pg_name (i:=0) ndUv rfl (Or.inl rfl)) (fun b=>pts_nil) (fun b=>pe_has GW hr rfl (pa_cons (pv 0) pa_nil))) pa_nil))))))) (pss_one (ps_ret pe_bl)) pss_nil)
    (pss_one (ps_ret (pe_cmpR (op_eqP (α:=Int) (β:=List Int) (Nat.lt_of_le_of_lt (Nat.add_le_add_left (by decide : max (Dat.dep (α:=Int)) (Dat.dep (α:=List Int)) + 1 ≤ 64) _) hr.units)) (pe_tup (pa_cons (pe_fldX (pv 0) rfl) (pa_cons (pe_fldX (pv 0) rfl) pa_nil))) (pv 1) (nomark _))))),?_⟩
  refine ⟨_,rfl,some d,x,C, "Uneven",rfl,hx,c.k,c.v,c.s,fun H1 s1=>⟨_,rfl,iteF ?_⟩⟩
  refine ⟨_,rfl,x,C,d,_,.int k,rfl,s1 _ _ hx,s1 _ _ hd,c.k,c.h,c.p1,rfl,k,rfl,_,rfl,iteF ?_⟩
  refine ⟨_,rfl,x,C,d,_,.ref kk,rfl,s1 _ _ hx,s1 _ _ hd,c.k,c.h,c.p2,rfl,_,_,_,_,rfl,TyOf.tup (s1 _ _ hk),kit_same _ _,_,rfl,iteF ?_⟩
  refine ⟨_,rfl,x,C,d,_,.ref kk,rfl,s1 _ _ hx,s1 _ _ hd,c.k,c.h,c.p2,rfl,kk,rfl,⟨_,SqT.of (s1 _ _ hk)⟩,fun b D hD=>?_⟩
  refine comp_tup (α:=Bool) hD (SqT.of (s1 _ _ hk)) (fun σ=>∃ c,σ = [c]) (fun i=>(p[i]?).bind fun _=>some true) (small (by rw [List.length_map]; omega)) ⟨_,rfl⟩ ?_ ?_
  · rintro j z σ H2 Yes No hz ⟨c,rfl⟩ s3 yes no
    rw [List.getElem?_map] at hz
    obtain ⟨n,hn,rfl⟩:=Option.map_eq_some_iff.mp hz
    refine nameYes ?_
    refine ⟨_,rfl,n,rfl,?_⟩
    exact yes _ _ _ true ⟨_,rfl⟩ (Same.refl _) (by rw [hn]; rfl) rfl
  · rintro H2 s3 ⟨ws,eD,iD⟩
    have e : (List.range (p.map V.int).length).filterMap (fun i=>(p[i]?).bind fun _=>some true) = p.map fun _=>true:=by
      rw [List.length_map,range_map,List.filterMap_eq_map']
    rw [e] at iD
    rw [its_bools iD] at eD
    refine ⟨D,_,rfl,SqL.of eD,?_⟩
    have ea : (p.map fun _=>true).all id = true:=by simp
    rw [ea]
    refine ⟨_,rfl,iteF ?_⟩
    have s2:=s1.trans s3
    refine ⟨_,rfl,x,C,d,_,.int k,rfl,s2 _ _ hx,s2 _ _ hd,c.k,c.h,c.p1,rfl,_,rfl,x,C,d,_,.ref kk,rfl,s2 _ _ hx,s2 _ _ hd,c.k,c.h,c.p2,rfl,(by show 2 ≤ sizeLine; decide),fun t4 h4=>?_⟩
    have s4:=same_new h4 (.tup [.int k,.ref kk])
    obtain ⟨t',kk',rfl,ht',hk'⟩:=hv
    refine ⟨_,rfl,((k : Int),p),((k : Int),p),pu_is upd_same (s4 _ _ (s2 _ _ hk)),pu_is (s4 _ _ (s2 _ _ ht')) (s4 _ _ (s2 _ _ hk')),?_⟩
    rw [(Dat.eqb_iff ((k : Int),p) ((k : Int),p)).mpr rfl]
    exact q _ (s2.trans s4)
end
end L2.K23
set_option maxHeartbeats 4000000
namespace L2.K23
open PySem
open L2.Pl L2.Ev
section
variable {P : Program} {w : World} {K : PySem.W.Frag} {mg : Str → Option Value} {base : Heap} {f g : Addr} {fd gd : FuncData}
abbrev nGd : List Str:=["_law_many", "_law_some", "_law_telling", "_law_handed", "_law_found", "_law_caught", "_law_due_here", "_law_terms", "_law_row_here", "_law_number_here", "_law_powers_here", "_law_count"]
abbrev pGd : List Str:=["_law_many", "_law_some", "_law_telling"]
theorem scGd : FnScope nGd pGd (defScope sGood):=⟨rfl,rfl,rfl,by decide +kernel,rfl,by decide +kernel,by decide +kernel⟩
theorem UnR.len {ts : List Mon} {n k : Nat} {p : Pw} (hl : ∀ t ∈ ts,t.1.length = n) (h : UnR ts (n - 1) (some (k,p))) : p.length = n:=by
  obtain ⟨hk,_,t,r,e,rfl⟩:=h
  have hm : t ∈ unl ts k:=by rw [e]; exact List.mem_cons_self ..
  obtain ⟨u,hu,e2⟩:=norm_mem hm
  rw [← e2]
  rcases List.mem_append.mp hu with hu | hu
  · exact hl u hu
  · obtain ⟨x,hx,rfl⟩:=List.mem_map.mp hu
    exact exch_mem (by omega) hl x hx
def exG (n : Nat) (t : Mon) : List Mon:=(exch n t.1).map fun u=>(u.1,u.2 * t.2)
theorem exch_24 {n : Nat} {r : List Int} (h : r.length ≤ n) (n4 : n ≤ 4) : (exch n r).length ≤ 24:=by
  unfold exch
  rw [List.length_map]
  have:=ords_len 5 (r ++ List.replicate (n - r.length) 0)
  rw [show (r ++ List.replicate (n - r.length) (0 : Int)).length = n by rw [List.length_append,List.length_replicate]; omega] at this
  have b4 : bnd n ≤ 24:=by
    have : n = 0 ∨ n = 1 ∨ n = 2 ∨ n = 3 ∨ n = 4:=by omega
    rcases this with e | e | e | e | e <;> rw [e] <;> decide
  exact Nat.le_trans this b4
theorem exG_take {n : Nat} {T : List Mon} (h : ∀ t ∈ T,t.1.length ≤ n) (n4 : n ≤ 4) (hT : T.length ≤ 40) (i : Nat) : ((T.take i).flatMap (exG n)).length ≤ 960:=by
  have:=flat_len (exG n) 24 (T.take i) fun t ht=>by
    unfold exG
    rw [List.length_map]
    exact exch_24 (h t (List.mem_of_mem_take ht)) n4
  rw [List.length_take] at this
  have : min i T.length ≤ 40:=by omega
  have:=Nat.mul_le_mul_right 24 this
  omega
def spGood : Sp:=fun vs H Q _=>∃ (n : Nat) (a l : Addr) (S T : List Mon),vs = [.int n,.ref a,.ref l] ∧ 1 ≤ n ∧ n ≤ 4 ∧ LstAt H a S ∧ S.length ≤ 1000 ∧ (∀ t ∈ S,t.1.length = n) ∧ LstAt H l T ∧ T.length ≤ 40 ∧
  (UnR S (n - 1) none → beX S = T ∧ (∀ t ∈ T,Rw8 n t.1) ∧ norm (T.flatMap (exG n)) = S) ∧ ∀ H',Q (.bl true) H'
theorem ok_good {cBR cBC cTL C : Addr} (F : Fun K "_law_good" "_law_good" sGood f fd) (GA : Has P w K mg base 10 "_law_asked" pAs (spAsked cBC C)) (GD : Has P w K mg base 10 "_law_due" pDu spDue) (GV : Has P w K mg base 10 "_law_uneven" nUv (spUv C)) (GS : Has P w K mg base 10 "_law_same" ["_law_found", "_law_due_here"] spSame)
    (GE : HasX P w K mg base 10 "exchange_sum" nEx (spExX cBR cBC cTL)) (GU : Has P w K mg base 10 "_law_sum" ["_law_terms"] spSum) (GB : HasX P w K mg base 10 "by_exchange" pUn (spBe cBC C)) (ml : mg "list" = none) : FnOk P w K mg base CX0 11 f fd pGd spGood:=by
  refine F.ok scGd (fun vs H Q E h=>?_) (fun cdv A outer s H vs Q E hr h=>?_)
  · obtain ⟨n,a,l,S,T,rfl,_⟩:=h
    rfl
  obtain ⟨n,a,l,S,T,rfl,n1,n4,hA,lS,lensS,hT,lT,ev,q⟩:=h
  have hM:=Nat.lt_of_le_of_lt (Nat.add_le_add_left (by decide : Dat.dep Mon + 1 ≤ 64) _) hr.units
  refine ⟨_,pss_cons (ps_set (i:=3) scGd.nd rfl (Or.inl rfl) (pe_callTy call_list_of rfl ml PyProof.Rows.boot_list (pa_cons (pv 1) pa_nil)))
    (pss_cons (ps_asg (pe_has GA hr rfl (pa_cons (pv 0) (pa_cons (pv 3) pa_nil))) (pg_tup rfl (pgs_cons (pg_name (i:=4) scGd.nd rfl (Or.inl rfl)) (pgs_cons (pg_name (i:=5) scGd.nd rfl (Or.inl rfl)) pgs_nil))))
    (pss_cons (ps_set (i:=6) scGd.nd rfl (Or.inl rfl) (pe_has GD hr rfl (pa_cons (pv 1) (pa_cons (pv 0) pa_nil))))
    (pss_cons (ps_if (pt_cmpR (op_neL (α:=Mon) hM) (pv 3) (pv 1) (nomark _)) (pss_one (ps_ret pe_bl)) pss_nil)
    (pss_cons (ps_if (pt_cmpR op_notN (pv 6) pe_non (nomark _)) (pss_one (ps_ret (pe_has GV hr rfl (pa_cons (pv 5) (pa_cons (pv 6) pa_nil))))) pss_nil)
    (pss_cons (ps_if (PW.pt (pw_or (pt_cmpR op_notN (pv 5) pe_non (nomark _)) (pw_or1 (pt_not (pt_val (pe_has GS hr rfl (pa_cons (pv 4) (pa_cons (pv 2) pa_nil)))))))) (pss_one (ps_ret pe_bl)) pss_nil)
    (pss_cons (ps_set (i:=7) scGd.nd rfl (Or.inl rfl) (pe_lst pa_nil))
    (pss_cons (ps_for PassesOwn.never rfl (pi_list (pv 4)) (pg_tup rfl (pgs_cons (pg_name (i:=8) scGd.nd rfl (Or.inl rfl)) (pgs_cons (pg_name (i:=9) scGd.nd rfl (Or.inl rfl)) pgs_nil)))
      (pss_one (ps_for PassesOwn.never rfl (pi_list (pe_call GE.ok hr rfl GE.at_ GE.kp GE.bd .nil pass10 (pa_cons (pv 0) (pa_cons (pv 8) pa_nil)))) (pg_tup rfl (pgs_cons (pg_name (i:=10) scGd.nd rfl (Or.inl rfl)) (pgs_cons (pg_name (i:=11) scGd.nd rfl (Or.inl rfl)) pgs_nil)))
        (pss_one (ps_expr (pe_bm PySem.F.plainAttrs_list PySem.F.slot_list_append PySem.F.type_list_append mt_append (pv 7) (pa_cons (pe_tup (pa_cons (pv 10) (pa_cons (pe_op op_mul (pv 11) (pv 9)) pa_nil))) pa_nil)))))))
    (pss_cons (ps_if (pt_cmpR (op_neL (α:=Mon) hM) (pe_has GU hr rfl (pa_cons (pv 7) pa_nil)) (pv 1) (nomark _)) (pss_one (ps_ret pe_bl)) pss_nil)
    (pss_cons (ps_expr (pe_bm PySem.F.plainAttrs_list PySem.F.slot_list_append PySem.F.type_list_append mt_append (pv 4) (pa_cons (pe_tup (pa_cons (pe_tup pa_nil) (pa_cons pe_int pa_nil))) pa_nil)))
    (pss_one (ps_ret (pe_and (pe_has GS hr rfl (pa_cons (pe_call GB.ok hr rfl GB.at_ GB.kp GB.bd .nil pass10 (pa_cons (pv 0) (pa_cons (pv 3) pa_nil))) (pa_cons (pv 2) pa_nil))) (pe_one (pe_cmpR (op_eqL (α:=Mon) hM) (pv 3) (pv 1) (nomark _))))))))))))))),?_⟩
  obtain ⟨vs,eA,iA⟩:=id hA
  refine ⟨_,rfl,a,vs,rfl,.inl (SqL.of eA),fun lh hlh=>?_⟩
  have sh:=same_new hlh (.lst vs)
  have hH : LstAt (upd H lh (.lst vs)) lh S:=⟨vs,upd_same,Its.mono (Tups.same sh) iA⟩
  have hA:=hA.mono sh
  have hT:=hT.mono sh
  show gName 3 (.ref lh) _ (upd H lh (.lst vs)) _
  generalize upd H lh (.lst vs) = G at *
  refine ⟨_,rfl,_,rfl,(n : Int),lh,S,rfl,hH,by omega,fun z=>absurd ⟨by omega,by omega⟩ z,fun _=>⟨by rw [Int.toNat_natCast]; exact lensS,fun hU p1 l1 H1 s1 hl1 hL1 hp1=>?_,fun k pw hU p1 c1 d1 k1 H1 s1 hc1 hd1 hk1 hp1=>?_⟩⟩
  · rw [Int.toNat_natCast] at hU
    obtain ⟨eT,rT,eS⟩:=ev hU
    rw [eT] at hL1
    refine ⟨p1,_,rfl,SqT.of hp1,rfl,_,_,rfl,_,_,rfl,rfl,?_⟩
    refine ⟨_,rfl,_,rfl,n,a,S,rfl,hA.mono s1,lS,n1,n4,lensS,fun v o H2 s2 hU2 hv=>?_⟩
    cases hU.one hU2
    obtain rfl : v = .non:=hv
    have z2:=s1.trans s2
    refine ⟨_,rfl,_,rfl,lh,a,S,S,rfl,rfl,hH.mono z2,hA.mono z2,_,rfl,?_⟩
    rw [eqbs_self]
    refine iteF ⟨_,rfl,rfl,_,rfl,iteF ?_⟩
    refine ⟨_,rfl,rfl,_,rfl,iteF ?_⟩
    have lens1 : ∀ t ∈ T,t.1.length ≤ 100:=fun t ht=>by have:=(rT t ht).len; omega
    refine ⟨_,rfl,_,rfl,l1,l,T,rfl,hL1.mono s2,hT.mono z2,by omega,lens1,fun H3 s3=>⟨_,rfl,iteF ?_⟩⟩
    have z3:=z2.trans s3
    obtain ⟨us,eL,iL⟩:=hL1.mono (s2.trans s3)
    have lu:=Paired.length iL
    refine ⟨(by show 0 ≤ sizeLine; decide),fun lt hlt=>?_⟩
    have s4:=same_new hlt (.lst [])
    refine ⟨_,rfl,l1,rfl,⟨us,SqL.of (s4 _ _ eL)⟩,?_⟩
    refine for_list (xs:=us) (fun i σ H'=>(∃ c8 c9 c10 c11,σ = [some (.int n),some (.ref a),some (.ref l),some (.ref lh),some (.ref l1),some .non,some .non,some (.ref lt),c8,c9,c10,c11]) ∧ LstAt H' lt ((T.take i).flatMap (exG n)) ∧ Same H3 H') ?_ ?_ ?_ ?_
    · exact ⟨⟨_,_,_,_,rfl⟩,⟨[],upd_same,.nil⟩,s4⟩
    · rintro i σ H5 _ ⟨_,_,s5⟩
      exact SqL.of (s5 _ _ eL)
    · rintro i x σ H5 hx ⟨⟨c8,c9,c10,c11,rfl⟩,hW,s5⟩
      obtain ⟨t,ht,hi⟩:=its_at iL hx
      obtain ⟨p,kk,rfl,hp,hkk⟩:=mon_at hi
      have rt:=rT t (List.mem_of_getElem? ht)
      have rb:=(rowOk_all (rt.ok n1 n4)).2.2.2
      have rl:=rt.len
      refine ⟨p,_,rfl,SqT.of (s5 _ _ hp),rfl,_,_,rfl,_,_,rfl,rfl,?_⟩
      refine ⟨_,rfl,_,rfl,(n : Int),kk,t.1,rfl,s5 _ _ hkk,by omega,fun z=>(by rw [rb] at z; cases z),fun _ z=>absurd ⟨by omega,by omega⟩ z,fun _ _ z=>absurd z (by omega),fun _ _ _ l6 H6 hl6 s6 h6=>?_⟩
      rw [Int.toNat_natCast] at h6
      have ol : (exch n t.1).length ≤ 24:=exch_24 rl n4
      have o1 : ∀ u ∈ exch n t.1,u.2 = 1:=fun u hu=>by
        obtain ⟨q',_,rfl⟩:=List.mem_map.mp hu
        rfl
      have tk : (T.take (i + 1)).flatMap (exG n) = (T.take i).flatMap (exG n) ++ (exch n t.1).map fun u=>(u.1,u.2 * t.2):=by
        rw [take_at ht,List.flatMap_append,List.flatMap_singleton]
        rfl
      have b1:=exG_take (T:=T) (fun t ht=>(rT t ht).len) n4 lT i
      have hW6:=hW.mono s6
      have n6 : l6 ≠ lt:=fun z=>by
        obtain ⟨_,eu,_⟩:=hW
        rw [z,eu] at hl6
        cases hl6
      rw [tk]
      generalize (T.take i).flatMap (exG n) = pre at hW6 b1
      generalize exch n t.1 = os at h6 ol o1
      obtain ⟨ws,eW,iW⟩:=h6
      have lw:=Paired.length iW
      refine ⟨l6,rfl,⟨_,SqL.of eW⟩,?_⟩
      refine for_list (xs:=ws) (fun j σ H'=>(∃ c10 c11,σ = [some (.int n),some (.ref a),some (.ref l),some (.ref lh),some (.ref l1),some .non,some .non,some (.ref lt),some (.ref kk),some (.int t.2),c10,c11]) ∧ LstAt H' lt (pre ++ (os.take j).map fun u=>(u.1,u.2 * t.2)) ∧ Same H3 H' ∧ H' l6 = some (.lst ws) ∧ Tups H6 H') ?_ ?_ ?_ ?_
      · refine ⟨⟨_,_,rfl⟩,?_,s5.trans s6,eW,fun _ _ e=>e⟩
        rw [List.take_zero,List.map_nil,List.append_nil]
        exact hW6
      · rintro j σ H8 _ ⟨_,_,_,e8,_⟩
        exact SqL.of e8
      · rintro j v σ H8 hv ⟨⟨c10,c11,rfl⟩,⟨xs8,eU,iU⟩,s8,e8,t8⟩
        obtain ⟨u,hu,hi2⟩:=its_at iW hv
        obtain ⟨pu,ku,rfl,hpu,hku⟩:=mon_at hi2
        have lu8:=Paired.length iU
        have jl : j < os.length:=(List.getElem?_eq_some_iff.mp hu).1
        have u1:=o1 u (List.mem_of_getElem? hu)
        refine ⟨pu,_,rfl,SqT.of (t8 _ _ hpu),rfl,_,_,rfl,_,_,rfl,rfl,?_⟩
        refine ⟨_,rfl,.inl ⟨rfl,_,SqL.of eU⟩,_,rfl,_,rfl,_,rfl,_,_,rfl,rfl,.inl (by rw [u1]; exact ⟨by decide,by decide⟩),(by show 2 ≤ sizeLine; decide),fun p9 h9=>?_⟩
        have s9:=same_new h9 (.tup [.ref ku,.int (u.2 * t.2)])
        have eU9:=s9 _ _ eU
        have t9 : ∀ o,Tups (upd H8 p9 (.tup [.ref ku,.int (u.2 * t.2)])) (upd (upd H8 p9 (.tup [.ref ku,.int (u.2 * t.2)])) lt o):=fun o=>tups_at eU9 o
        refine ⟨lt,xs8,_,rfl,rfl,eU9,smallS (by rw [List.length_append,List.length_map,List.length_take] at lu8; omega),⟨_,_,rfl⟩,⟨xs8 ++ [.ref p9],upd_same,?_⟩,same_at hlt (s8.trans s9) _,?_,fun r ys e=>t9 _ _ _ (s9 _ _ (t8 _ _ e))⟩
        · rw [take_at hu,List.map_append,← List.append_assoc]
          exact Paired.snoc (Its.mono ((Tups.same s9).trans (t9 _)) iU) (Dat.mono (t9 _) (mon_is (t:=(u.1,u.2 * t.2)) upd_same (s9 _ _ (t8 _ _ hku))))
        · rw [upd_ne n6]
          exact s9 _ _ e8
      · rintro σ H8 ⟨⟨c10,c11,rfl⟩,h8,s8,_,_⟩
        rw [List.take_of_length_le (by omega)] at h8
        exact ⟨⟨_,_,_,_,rfl⟩,h8,s8⟩
    · rintro σ H5 ⟨⟨c8,c9,c10,c11,rfl⟩,hL,s5⟩
      have b1:=exG_take (T:=T) (fun t ht=>(rT t ht).len) n4 lT us.length
      rw [List.take_of_length_le (by omega)] at hL b1
      refine ⟨_,rfl,lt,_,rfl,hL,by omega,fun l6 H6 hl6 s6 h6=>?_⟩
      rw [eS] at h6
      have z6:=z3.trans (s5.trans s6)
      refine ⟨_,rfl,l6,a,S,S,rfl,rfl,h6,hA.mono z6,_,rfl,?_⟩
      rw [eqbs_self]
      refine iteF ?_
      have e6:=(s5.trans s6) _ _ eL
      refine ⟨_,rfl,.inl ⟨rfl,_,SqL.of e6⟩,(by show 0 ≤ sizeLine; decide),fun p7 h7=>⟨(by show 2 ≤ sizeLine; decide),fun p8 h8=>?_⟩⟩
      have s7:=same_new h7 (.tup [])
      have s8:=same_new h8 (.tup [.ref p7,.int 1])
      have z8:=z6.trans (s7.trans s8)
      refine ⟨l1,us,_,rfl,rfl,s8 _ _ (s7 _ _ e6),smallS (by omega),?_⟩
      have z9:=same_at hl1 z8 (.lst (us ++ [.ref p8]))
      refine ⟨_,rfl,_,rfl,(n : Int),lh,S,rfl,hH.mono z9,by omega,fun z=>absurd ⟨by omega,by omega⟩ z,fun _=>⟨by rw [Int.toNat_natCast]; exact lensS,fun hU' l9 H9 hl9 s9 h9=>?_,fun k pw hU'=>?_⟩⟩
      · rw [eT] at h9
        refine ⟨_,rfl,l9,l,T,rfl,h9,hT.mono (z9.trans s9),by omega,lens1,fun H10 s10=>⟨_,rfl,iteT ?_⟩⟩
        refine ⟨_,rfl,_,rfl,lh,a,S,S,rfl,rfl,hH.mono (z9.trans (s9.trans s10)),hA.mono (z9.trans (s9.trans s10)),?_⟩
        rw [eqbs_self]
        exact q _
      · rw [Int.toNat_natCast] at hU'
        cases hU.one hU'
  · rw [Int.toNat_natCast] at hU
    refine ⟨p1,_,rfl,SqT.of hp1,rfl,_,_,rfl,_,_,rfl,rfl,?_⟩
    refine ⟨_,rfl,_,rfl,n,a,S,rfl,hA.mono s1,lS,n1,n4,lensS,fun v o H2 s2 hU2 hv=>?_⟩
    cases hU.one hU2
    refine ⟨_,rfl,_,rfl,lh,a,S,S,rfl,rfl,hH.mono (s1.trans s2),hA.mono (s1.trans s2),_,rfl,?_⟩
    rw [eqbs_self]
    refine iteF ⟨_,rfl,rfl,_,rfl,?_⟩
    obtain ⟨t3,k3,rfl,ht3,hk3⟩:=hv
    refine iteT ⟨_,rfl,_,rfl,c1,d1,k1,_,k,pw,rfl,s2 _ _ hc1,s2 _ _ hd1,s2 _ _ hk1,by rw [hU.len lensS]; omega,⟨t3,k3,rfl,ht3,hk3⟩,fun H3 s3=>q H3⟩
end
end L2.K23
set_option maxHeartbeats 4000000
namespace L2.K23
open PySem
open L2.Pl L2.Ev
section
variable {P : Program} {w : World} {K : PySem.W.Frag} {mg : Str → Option Value} {base : Heap} {f g : Addr} {fd gd : FuncData}
theorem ps_cut {X : Cx} {st : Stmt} {t : TS} (I : St → Hp → Prop) (h : PS X st t) : PS X st (fun D σ H=>t { D with nx:=I } σ H ∧ ∀ σ' H',I σ' H' → D.nx σ' H'):=by
  intro pins s σ H D inv q
  refine thn (h pins s σ H { D with nx:=I } inv q.1) fun fl s' e=>?_
  cases fl with
  | next=>obtain ⟨σ',H',i,n⟩:=e; exact ⟨σ',H',i,q.2 _ _ n⟩
  | brk=>exact e
  | cont=>exact e
  | ret u=>exact e
def spLaw (K : PySem.W.Frag) : Sp:=fun vs H Q _=>∃ (a : Addr) (ns : List Int),vs = [.ref a] ∧ SqL K H a (ns.map V.int) ∧ ns.length ≤ 63 ∧ ∀ H',Q (.bl true) H'
theorem pick4 {c k : Int} (c0 : 0 ≤ c) (h0 : 0 ≤ k) (h4 : k < 4) : ∃ x : Int,atI [V.int 0,V.int 5,V.int (0 - c),V.int (5 + c)] k = some (.int x) ∧ ¬ (1 ≤ x ∧ x ≤ 4):=by
  have : k = 0 ∨ k = 1 ∨ k = 2 ∨ k = 3:=by omega
  rcases this with rfl | rfl | rfl | rfl
  · exact ⟨0,rfl,by omega⟩
  · exact ⟨5,rfl,by omega⟩
  · exact ⟨_,rfl,by omega⟩
  · exact ⟨_,rfl,by omega⟩
theorem pick2 {k y : Int} (h : k = 0 ∨ k = 1) : ∃ x : Int,atI [V.int (0 - y),V.int 1] k = some (.int x):=by
  rcases h with rfl | rfl
  · exact ⟨_,rfl⟩
  · exact ⟨_,rfl⟩
theorem cut_2_32 (ns : List Int) : ∃ cs : List Int,cutV (ns.map V.int) (some 2) (some 32) = cs.map V.int ∧ cs.length ≤ 40:=by
  have e1 : HT.sIx (ns.map V.int).length (ns.map V.int).length (some 32) = min 32 (ns.map V.int).length:=by
    show (if (32 : Int) < 0 then ((32 : Int) + ((ns.map V.int).length : Int)).toNat else min (32 : Int).toNat (ns.map V.int).length) = _
    rw [if_neg (by decide)]
    rfl
  unfold cutV
  rw [e1]
  refine ⟨(ns.drop _).take _,by rw [List.map_take,List.map_drop],?_⟩
  rw [List.length_take]
  omega
theorem rowD_8 {c w : Int} {n : Nat} (w0 : 0 ≤ w) (w8 : w ≤ 8) (n1 : 1 ≤ n) : Rw8 n (rowD (lpow c 3 w n)):=by
  obtain ⟨pl,pn,ps⟩:=lpow_ok (c:=c) (far:=3) w0 n1
  have pm : (srtD (lpow c 3 w n)).Perm (lpow c 3 w n):=List.mergeSort_perm _ _
  have so : (srtD (lpow c 3 w n)).Pairwise fun a b=>b ≤ a:=(List.pairwise_mergeSort (le:=fun a b : Int=>decide (b ≤ a)) (fun a b c h1 h2=>decide_eq_true (by have:=of_decide_eq_true h1; have:=of_decide_eq_true h2; omega)) (fun a b=>by
    rcases Int.le_total a b with h | h
    · rw [decide_eq_true h,Bool.or_true]
    · rw [decide_eq_true h,Bool.true_or]) _).imp fun h=>of_decide_eq_true h
  have fs : ∀ l : List Int,(∀ x ∈ l,0 ≤ x) → (l.filter fun x=>decide (0 < x)).sum = l.sum:=fun l=>by
    induction l with
    | nil=>intro _; rfl
    | cons x l ih =>
      intro h
      have ih:=ih fun y hy=>h y (List.mem_cons_of_mem _ hy)
      have:=h x (List.mem_cons_self ..)
      rw [List.filter_cons]
      by_cases z : 0 < x
      · rw [if_pos (decide_eq_true z),List.sum_cons,List.sum_cons,ih]
      · rw [if_neg (by rw [decide_eq_true_eq]; exact z),List.sum_cons,ih]; omega
  refine ⟨?_,so.filter _,fun x hx=>of_decide_eq_true (List.mem_filter.mp hx).2,?_⟩
  · have:=rowD_len (lpow c 3 w n)
    omega
  · unfold rowD
    rw [fs _ fun x hx=>(pn x (pm.mem_iff.mp hx)).1,perm_sum pm]
    omega
structure Told (K : PySem.W.Frag) (ds : List Addr) (C : Addr) (x : Str) : Prop where
  k : ExcK K C
  v : PySem.W.kitOne K (.ref C) (.type "ValueError") = some true
  s : Says K C ds (exFlags x)
abbrev nL : List Str:=["_law_script", "_law_cell_here", "_law_many", "_law_telling", "_law_some", "_law_far", "_law_bent", "_law_place"]
theorem scL : FnScope nL ["_law_script"] (defScope sLaw):=⟨rfl,rfl,rfl,by decide +kernel,rfl,by decide +kernel,by decide +kernel⟩
def IvL (a l1 : Addr) (c : Int) (n : Nat) (T : List Mon) : St → Hp → Prop:=fun σ H'=>∃ (l : Addr) (S : List Mon) (c5 c6 c7 : Option V),σ = [some (.ref a),some (.int c),some (.int n),some (.ref l1),some (.ref l),c5,c6,c7] ∧ LstAt H' l S ∧ S.length ≤ 961 ∧ (∀ t ∈ S,t.1.length = n) ∧ LstAt H' l1 T ∧
  (UnR S (n - 1) none → beX S = T ∧ (∀ t ∈ T,Rw8 n t.1) ∧ norm (T.flatMap (exG n)) = S)
theorem ok_law {cBC C : Addr} {ds : List Addr} (F : Fun K "law" "law" sLaw f fd) (GC : Has P w K mg base 11 "_law_cell" nC (spCell K)) (GE : Has P w K mg base 11 "_law_even" pEv spEven) (GT : Has P w K mg base 11 "_law_told" nTd spTold) (GS : Has P w K mg base 11 "_law_sum" ["_law_terms"] spSum) (GH : Has P w K mg base 11 "_law_thing" ["_law_cell_here", "_law_k", "_law_many"] spThing)
    (GG : Has P w K mg base 11 "_law_good" pGd spGood) (GD : Has P w K mg base 11 "_law_due" pDu spDue) (GA : Has P w K mg base 11 "_law_asked" pAs (spAsked cBC C)) (GO : Has P w K mg base 11 "_law_only" ["_law_caught", "_law_name"] (spOnly K ds)) (T0 : Told K ds cBC "BadCount")
    (mn : mg "len" = none) (mi : mg "int" = none) : FnOk P w K mg base CX0 12 f fd ["_law_script"] (spLaw K):=by
  refine F.ok scL (fun vs H Q E h=>?_) (fun cdv A outer s H vs Q E hr h=>?_)
  · obtain ⟨a,ns,rfl,_⟩:=h
    rfl
  obtain ⟨a,ns,rfl,hS,h63,q⟩:=h
  have c0 : 0 ≤ cellv ns 0:=by
    unfold cellv
    split
    · exact Int.emod_nonneg _ (by decide)
    · decide
  obtain ⟨c,hc⟩ : ∃ c,cellv ns 0 = c:=⟨_,rfl⟩
  rw [hc] at c0
  obtain ⟨n,hn,n1,n4⟩ : ∃ n : Nat,1 + c % 4 = n ∧ 1 ≤ n ∧ n ≤ 4:=by
    have h0:=Int.emod_nonneg c (show (4 : Int) ≠ 0 by decide)
    have h1:=Int.emod_lt_of_pos c (show (0 : Int) < 4 by decide)
    exact ⟨(1 + c % 4).toNat,by omega,by omega,by omega⟩
  obtain ⟨cs,ecs,lcs⟩:=cut_2_32 ns
  obtain ⟨w,atw,w0,w8⟩ : ∃ w : Int,atI [V.int 5,V.int 8] (if decide (V.int (c / 4 % 8) = V.int 1) then 1 else 0) = some (.int w) ∧ 0 ≤ w ∧ w ≤ 8:=by
    cases decide (V.int (c / 4 % 8) = V.int 1)
    · exact ⟨5,rfl,by decide,by decide⟩
    · exact ⟨8,rfl,by decide,by decide⟩
  obtain ⟨T,eT⟩ : ∃ T,norm (cs.map (cellT n w)) = T:=⟨_,rfl⟩
  have rT : ∀ t ∈ T,Rw8 n t.1:=fun t ht=>by
    rw [← eT] at ht
    obtain ⟨u,hu,e⟩:=norm_mem ht
    obtain ⟨x,_,rfl⟩:=List.mem_map.mp hu
    rw [← e]
    exact rowD_8 w0 w8 n1
  have cT : Canon T:=by rw [← eT]; exact norm_canon _
  refine ⟨_,pss_cons (ps_set (i:=1) scL.nd rfl (Or.inl rfl) (pe_has GC hr rfl (pa_cons (pv 0) (pa_cons pe_int pa_nil))))
    (pss_cons (ps_set (i:=2) scL.nd rfl (Or.inl rfl) (pe_op op_add pe_int (pe_op op_mod (pv 1) pe_int)))
    (pss_cons (ps_set (i:=3) scL.nd rfl (Or.inl rfl) (pe_has GT hr rfl (pa_cons (pe_slice sl_list (pv 0) (po_some pe_int) (po_some pe_int)) (pa_cons (pv 2) (pa_cons (pe_ix ix_list (pe_lst (pa_cons pe_int (pa_cons pe_int pa_nil))) (pe_callTy call_intB rfl mi PyProof.Rows.boot_int (pa_cons (pe_cmpR op_eq (pe_op op_mod (pe_op op_fdiv (pv 1) pe_int) pe_int) pe_int (nomark _)) pa_nil)) (fun _ _=>rfl)) pa_nil)))))
    (pss_cons (ps_set (i:=4) scL.nd rfl (Or.inl rfl) (pe_has GE hr rfl (pa_cons (pv 3) (pa_cons (pv 2) pa_nil))))
    (pss_cons (ps_if (pt_cmpR op_eq (pe_op op_mod (pe_op op_fdiv (pv 1) pe_int) pe_int) pe_int (nomark _))
      (pss_cons (ps_set (i:=5) scL.nd rfl (Or.inl rfl) (pe_ix ix_list (pe_lst (pa_cons pe_int (pa_cons pe_int (pa_cons (pe_op op_sub pe_int (pv 1)) (pa_cons (pe_op op_add pe_int (pv 1)) pa_nil))))) (pe_op op_mod (pe_op op_fdiv (pv 1) pe_int) pe_int) (fun _ _=>rfl)))
      (pss_cons (ps_set (i:=6) scL.nd rfl (Or.inl rfl) (pe_has GS hr rfl (pa_cons (pe_op op_cat (pv 4) (pe_lst (pa_cons (pe_tup (pa_cons (pe_op op_catA (pe_tup (pa_cons pe_int pa_nil)) (pe_op op_repT (pe_tup (pa_cons pe_int pa_nil)) (pe_op op_sub (pv 2) pe_int))) (pa_cons pe_int pa_nil))) pa_nil))) pa_nil)))
      (pss_cons (ps_if (pt_not (pt_val (pe_has GO hr rfl (pa_cons (pe_ix ix_tup (pe_has GA hr rfl (pa_cons (pv 5) (pa_cons (pv 6) pa_nil))) pe_int (fun _ _=>rfl)) (pa_cons pe_str pa_nil))))) (pss_one (ps_ret pe_bl)) pss_nil)
      (pss_one (ps_ret (pe_has GO hr rfl (pa_cons (pe_ix ix_tup (pe_has GA hr rfl (pa_cons (pv 5) (pa_cons (pv 4) pa_nil))) pe_int (fun _ _=>rfl)) (pa_cons pe_str pa_nil)))))))) pss_nil)
    (pss_cons (ps_cut (fun σ H'=>∃ l1,IvL a l1 c n T σ H') (ps_if (PW.pt (pw_and (pt_cmpR op_eq (pe_op op_mod (pe_op op_fdiv (pv 1) pe_int) pe_int) pe_int (nomark _)) (pw_and1 (pt_cmpR op_gt (pe_callB call_len_seq rfl mn PySem.boot_len (pa_cons (pv 4) pa_nil)) pe_int (nomark _)))))
      (pss_cons (ps_set (i:=7) scL.nd rfl (Or.inl rfl) (pe_has GH hr rfl (pa_cons (pe_has GC hr rfl (pa_cons (pv 0) (pa_cons pe_int pa_nil))) (pa_cons pe_int (pa_cons (pe_callB call_len_seq rfl mn PySem.boot_len (pa_cons (pv 4) pa_nil)) pa_nil)))))
      (pss_cons (ps_set (i:=4) scL.nd rfl (Or.inl rfl) (pe_has GS hr rfl (pa_cons (pe_op op_cat (pv 4) (pe_lst (pa_cons (pe_tup (pa_cons (pe_ix ix_tup (pe_ix ix_list (pv 4) (pv 7) (fun _ _=>rfl)) pe_int (fun _ _=>rfl)) (pa_cons (pe_ix ix_list (pe_lst (pa_cons (pe_op op_sub pe_int (pe_ix ix_tup (pe_ix ix_list (pv 4) (pv 7) (fun _ _=>rfl)) pe_int (fun _ _=>rfl))) (pa_cons pe_int pa_nil))) (pe_op op_mod (pe_op op_fdiv (pv 1) pe_int) pe_int) (fun _ _=>rfl)) pa_nil))) pa_nil))) pa_nil)))
      (pss_one (ps_if (pt_cmpR op_isN (pe_has GD hr rfl (pa_cons (pv 4) (pa_cons (pv 2) pa_nil))) pe_non (nomark _)) (pss_one (ps_ret pe_bl)) pss_nil)))) pss_nil))
    (pss_one (ps_ret (pe_has GG hr rfl (pa_cons (pv 2) (pa_cons (pv 4) (pa_cons (pv 3) pa_nil))))))))))),?_⟩
  refine ⟨_,rfl,a,ns,0,rfl,hS,?_⟩
  rw [hc]
  refine ⟨_,rfl,_,_,rfl,rfl,(by show (0 : Int) < 4; decide),_,_,rfl,rfl,?_⟩
  show gName 2 (V.int (1 + c % 4)) _ _ _
  rw [hn]
  refine ⟨_,rfl,_,rfl,_,rfl,a,_,rfl,hS,fun p hp=>?_⟩
  rw [ecs]
  have sp:=same_new hp (.lst (cs.map V.int))
  refine ⟨_,rfl,(by show 2 ≤ sizeLine; decide),fun p2 hp2=>?_⟩
  have sp2:=same_new hp2 (.lst [.int 5,.int 8])
  refine ⟨_,rfl,_,_,rfl,rfl,⟨by decide,by decide⟩,_,_,rfl,rfl,(by show (0 : Int) < 8; decide),rfl,_,rfl,p2,_,_,.int w,rfl,rfl,SqL.of upd_same,atw,?_⟩
  refine ⟨p,cs,n,w,rfl,sp2 _ _ upd_same,lcs,n1,n4,w0,w8,fun l1 H1 hl1 s1 hL1 lT lens=>?_⟩
  rw [eT] at hL1 lT lens
  refine ⟨_,rfl,_,rfl,l1,T,n,rfl,hL1,lT,n1,n4,lens,fun l2 H2 hl2 s2 hL2 lS lensS=>?_⟩
  have hS2:=(sp.trans (sp2.trans (s1.trans s2))).seq hS
  have hT2:=hL1.mono s2
  have ev : beX (norm (T.flatMap (evG n))) = T ∧ (∀ t ∈ T,Rw8 n t.1) ∧ norm (T.flatMap (exG n)) = norm (T.flatMap (evG n)):=⟨be_even n1 n4 cT rT,rT,ex_even n1 n4 rT⟩
  generalize norm (T.flatMap (evG n)) = S at hL2 lS lensS ev
  clear hS hL1
  refine ⟨_,rfl,_,_,rfl,rfl,⟨by decide,by decide⟩,_,_,rfl,rfl,(by show (0 : Int) < 16; decide),rfl,_,rfl,ite2 (fun _=>?_) (fun _=>?_)⟩
  · obtain ⟨x,ax,hx⟩:=pick4 (k:=c / 512 % 4) c0 (Int.emod_nonneg _ (by decide)) (Int.emod_lt_of_pos _ (by decide))
    refine ⟨_,rfl,_,_,rfl,rfl,_,rfl,_,_,rfl,rfl,(by show 4 ≤ sizeLine; decide),fun l0 h0=>?_⟩
    have s0:=same_new h0 (.lst [.int 0,.int 5,.int (0 - c),.int (5 + c)])
    refine ⟨_,rfl,_,_,rfl,rfl,⟨by decide,by decide⟩,_,_,rfl,rfl,(by show (0 : Int) < 4; decide),l0,_,_,.int x,rfl,rfl,SqL.of upd_same,ax,?_⟩
    obtain ⟨vs,eL,iL⟩:=hL2.mono s0
    have lv:=Paired.length iL
    refine ⟨_,rfl,(by show 1 ≤ sizeLine; decide),fun t1 h1=>⟨(by show 1 ≤ sizeLine; decide),fun t2 h2=>?_⟩⟩
    have s1:=same_new h1 (.tup [.int 1])
    have s2':=same_new h2 (.tup [.int 0])
    refine ⟨_,rfl,_,_,rfl,rfl,t2,[0],_,rfl,rfl,upd_same,by simp,by omega,by omega,small (by show 1 * _ ≤ 100000; omega),fun t3 H3 s3 h3=>?_⟩
    rw [rep_one] at h3
    refine cat_rows (r:=[1]) (r':=List.replicate ((n : Int) - 1).toNat 0) (s3 _ _ (s2' _ _ upd_same)) h3 (small (by rw [List.length_replicate]; show 1 + _ ≤ 100000; omega)) fun t4 H4 s4 h4=>?_
    refine ⟨(by show 2 ≤ sizeLine; decide),fun t5 h5=>⟨(by show 1 ≤ sizeLine; decide),fun l6 h6=>?_⟩⟩
    have s5:=same_new h5 (.tup [.ref t4,.int 1])
    have s6:=same_new h6 (.lst [.ref t5])
    have z:=s1.trans (s2'.trans (s3.trans (s4.trans (s5.trans s6))))
    refine ⟨_,l6,_,_,rfl,rfl,z _ _ eL,upd_same,small (by show _ + 1 ≤ 100000; omega),fun l7 h7=>?_⟩
    have s7:=same_new h7 (.lst (vs ++ [.ref t5]))
    have hB : LstAt (upd _ l7 (.lst (vs ++ [.ref t5]))) l7 (S ++ [([1] ++ List.replicate ((n : Int) - 1).toNat 0,1)]):=⟨_,upd_same,Paired.snoc (Its.mono (Tups.same (z.trans s7)) iL) (mon_is (t:=([1] ++ List.replicate ((n : Int) - 1).toNat 0,1)) (s7 _ _ (s6 _ _ upd_same)) (s7 _ _ (s6 _ _ (s5 _ _ h4))))⟩
    refine ⟨l7,_,rfl,hB,by rw [List.length_append]; show _ + 1 ≤ 100000; omega,fun l8 H8 hl8 s8 h8=>?_⟩
    have lb:=norm_len (S ++ [([1] ++ List.replicate ((n : Int) - 1).toNat 0,(1 : Int))])
    rw [List.length_append] at lb
    have lb : (norm (S ++ [([1] ++ List.replicate ((n : Int) - 1).toNat 0,(1 : Int))])).length ≤ S.length + 1:=lb
    refine ⟨_,rfl,_,rfl,x,l8,_,rfl,h8,by omega,fun _ p9 c9 H9 s9 hc9 hp9=>?_,fun z=>absurd z hx⟩
    refine ⟨p9,_,_,.ref c9,rfl,rfl,SqT.of hp9,atI_nat (j:=1) rfl,?_⟩
    refine ⟨none,c9,cBC, "BadCount",rfl,hc9,T0.k,T0.v,T0.s,fun H10 s10=>⟨_,rfl,iteF ?_⟩⟩
    refine ⟨_,rfl,_,rfl,x,l2,S,rfl,hL2.mono (s0.trans (z.trans (s7.trans (s8.trans (s9.trans s10))))),by omega,fun _ p11 c11 H11 s11 hc11 hp11=>?_,fun z=>absurd z hx⟩
    refine ⟨p11,_,_,.ref c11,rfl,rfl,SqT.of hp11,atI_nat (j:=1) rfl,?_⟩
    exact ⟨none,c11,cBC, "BadCount",rfl,hc11,T0.k,T0.v,T0.s,fun H12 s12=>q H12⟩
  · refine ⟨?_,?_⟩
    · refine ⟨_,rfl,_,_,rfl,rfl,⟨by decide,by decide⟩,_,_,rfl,rfl,(by show (0 : Int) < 4; decide),rfl,_,rfl,ite2 (fun _=>?_) (fun _=>iteF ⟨l1,l2,S,_,_,_,rfl,hL2,by omega,lensS,hT2,fun _=>ev⟩)⟩
      obtain ⟨vs,eL,iL⟩:=id hL2
      have lv:=Paired.length iL
      refine ⟨_,rfl,l2,_,rfl,.inl (SqL.of eL),_,_,rfl,rfl,_,rfl,?_⟩
      by_cases cl : (0 : Int) < (vs.length : Int)
      · refine iteY cl ?_
        have t0:=thing_lo (c:=cellv ns 1) (k:=42) cl
        have t1:=thing_hi (c:=cellv ns 1) (k:=42) cl
        refine ⟨_,rfl,a,ns,1,rfl,hS2,_,rfl,l2,_,rfl,.inl (SqL.of eL),cellv ns 1,42,(vs.length : Int),rfl,by decide,by decide,cl,?_⟩
        show gName 7 (V.int (thing (cellv ns 1) 42 (vs.length : Int))) _ _ _
        obtain ⟨j,hj⟩ : ∃ j : Nat,thing (cellv ns 1) 42 (vs.length : Int) = j:=⟨(thing (cellv ns 1) 42 (vs.length : Int)).toNat,by omega⟩
        rw [hj]
        have jl : j < vs.length:=by omega
        obtain ⟨t,ht,hi⟩:=its_at iL (List.getElem?_eq_getElem jl)
        obtain ⟨pt,kk,ept,hpt,hkk⟩:=mon_at hi
        have at1 : atI vs (j : Int) = some (.ref pt):=atI_nat (by rw [List.getElem?_eq_getElem jl,ept])
        obtain ⟨x,ax⟩:=pick2 (k:=c / 128 % 2) (y:=t.2) (by have:=Int.emod_nonneg (c / 128) (show (2 : Int) ≠ 0 by decide); have:=Int.emod_lt_of_pos (c / 128) (show (0 : Int) < 2 by decide); omega)
        refine ⟨_,rfl,_,rfl,_,rfl,l2,_,_,.ref pt,rfl,rfl,SqL.of eL,at1,pt,_,_,.ref kk,rfl,rfl,SqT.of hpt,atI_nat (j:=0) rfl,?_⟩
        refine ⟨_,rfl,_,rfl,l2,_,_,.ref pt,rfl,rfl,SqL.of eL,at1,pt,_,_,.int t.2,rfl,rfl,SqT.of hpt,atI_nat (j:=1) rfl,_,_,rfl,rfl,(by show 2 ≤ sizeLine; decide),fun l5 h5=>?_⟩
        have s5:=same_new h5 (.lst [.int (0 - t.2),.int 1])
        refine ⟨_,rfl,_,_,rfl,rfl,⟨by decide,by decide⟩,_,_,rfl,rfl,(by show (0 : Int) < 2; decide),l5,_,_,.int x,rfl,rfl,SqL.of upd_same,ax,?_⟩
        refine ⟨(by show 2 ≤ sizeLine; decide),fun t6 h6=>⟨(by show 1 ≤ sizeLine; decide),fun l7 h7=>?_⟩⟩
        have s6:=same_new h6 (.tup [.ref kk,.int x])
        have s7:=same_new h7 (.lst [.ref t6])
        have z:=s5.trans (s6.trans s7)
        refine ⟨l2,l7,_,_,rfl,rfl,z _ _ eL,upd_same,small (by show _ + 1 ≤ 100000; omega),fun l8 h8=>?_⟩
        have s8:=same_new h8 (.lst (vs ++ [.ref t6]))
        have hB : LstAt (upd _ l8 (.lst (vs ++ [.ref t6]))) l8 (S ++ [(t.1,x)]):=⟨_,upd_same,Paired.snoc (Its.mono (Tups.same (z.trans s8)) iL) (mon_is (t:=(t.1,x)) (s8 _ _ (s7 _ _ upd_same)) (s8 _ _ (s7 _ _ (s6 _ _ (s5 _ _ hkk)))))⟩
        have lb : (norm (S ++ [(t.1,x)])).length ≤ S.length + 1:=by
          have:=norm_len (S ++ [(t.1,x)])
          rw [List.length_append] at this
          exact this
        have lens9 : ∀ u ∈ norm (S ++ [(t.1,x)]),u.1.length = n:=fun u hu=>by
          obtain ⟨y,hy,e⟩:=norm_mem hu
          rw [← e]
          rcases List.mem_append.mp hy with hy | hy
          · exact lensS y hy
          · rw [List.mem_singleton.mp hy]; exact lensS t (List.mem_of_getElem? ht)
        refine ⟨l8,_,rfl,hB,by rw [List.length_append]; show _ + 1 ≤ 100000; omega,fun l9 H9 hl9 s9 h9=>?_⟩
        refine ⟨_,rfl,_,rfl,n,l9,_,rfl,h9,by omega,n1,n4,lens9,fun v o H10 s10 hU hv=>⟨rfl,_,rfl,?_⟩⟩
        cases o with
        | none =>
          obtain rfl : v = .non:=hv
          exact iteT (q _)
        | some kp =>
          obtain ⟨k,p⟩:=kp
          obtain ⟨t3,k3,rfl,ht3,hk3⟩:=hv
          exact iteF ⟨l1,l9,_,_,_,_,rfl,h9.mono s10,by omega,lens9,hT2.mono (z.trans (s8.trans (s9.trans s10))),fun hU'=>by cases hU.one hU'⟩
      · exact iteN cl ⟨l1,l2,S,_,_,_,rfl,hL2,by omega,lensS,hT2,fun _=>ev⟩
    · rintro σ H3 ⟨l1',l,S',c5,c6,c7,rfl,hL,lS',lens',hT',ev'⟩
      exact ⟨_,rfl,_,rfl,_,rfl,n,l,l1',S',T,rfl,n1,n4,hL,by omega,lens',hT',lT,ev',q⟩
end
end L2.K23
set_option maxHeartbeats 4000000
namespace L2.K23
open PySem
open L2.Pl L2.Ev
section
variable {P : Program} {w : World} {K : PySem.W.Frag} {mg : Str → Option Value} {base : Heap} {f g : Addr} {fd gd : FuncData}
theorem says_of {K : PySem.W.Frag} {C : Addr} {ds : List Addr} {bs : List Bool} (h : Paired (fun d b=>PySem.W.kitOne K (.ref C) (.ref d) = some b) ds bs) : Says K C ds bs:=⟨Paired.length h,fun i d b h1 h2=>by
  obtain ⟨b',e,q⟩:=Paired.get h h1
  rw [h2] at e
  cases e
  exact q⟩
end
end L2.K23
set_option maxHeartbeats 1000000
namespace L2.Ev
open PySem PySem.Spec PyProof.Rows
open PySem.W PySem.Calls Builtin Builtin.ObjectAttr
structure XParts (K : Frag) (C C0 fI : Addr) (dd : Option Addr) (cd : ClassData) (sl : Array (Option Value)) (o1 : Value) (o2 : Option Addr) (es : Array DictEntry) (n : Nat) (o3 : Array (Option Value)) : Prop where
  l : K.lookup C = some ⟨.type "type",dd,.cls cd,sl⟩
  m : cd.mro = [.ref C,.ref C0,.type "ValueError",.type "Exception",.type "BaseException",.type "object"]
  g : cd.hasDel = false ∧ cd.hasDict = true
  s : (sl.toList.length == 6 && sl.toList[4]? == some (some (.builtin "ValueError.__new__"))) = true
  d : K.lookup cd.ns = some ⟨o1,o2,.dict es n,o3⟩
  k : (es.toList.all fun e=>match e.key with | .str _ _=>true | _=>false) = true
  i : nsIn K cd.ns "__init__" = some (some (.ref fI))
  b : excIn K C0 vTail "ValueError.__new__" = true
variable {K : Frag} {C C0 fI : Addr} {dd : Option Addr} {cd : ClassData} {sl : Array (Option Value)} {o1 : Value} {o2 : Option Addr} {es : Array DictEntry} {n : Nat} {o3 : Array (Option Value)}
theorem base_tail (b : excIn K C0 vTail "ValueError.__new__" = true) : tailIn K vTail (.ref C0 :: vTail) = true:=by
  unfold excIn at b
  unfold tailIn
  rw [Bool.or_eq_true]
  right
  split at b
  · rename_i cd sl ho
    split at b
    · simp only [Bool.and_eq_true,beq_iff_eq] at b
      dsimp only
      rw [ho]
      dsimp only
      obtain ⟨⟨⟨⟨⟨_,_⟩,_⟩,_⟩,h1⟩,h2⟩:=b
      rw [h1,h2]
      have e : tailIn K vTail vTail = true:=by
        unfold tailIn
        rw [Bool.or_eq_true]
        left
        decide
      rw [e]
      decide
    · cases b
  · cases b
theorem XParts.cls (p : XParts K C C0 fI dd cd sl o1 o2 es n o3) : clsIn K C = some cd:=by
  unfold clsIn
  rw [p.l]
theorem XParts.some (p : XParts K C C0 fI dd cd sl o1 o2 es n o3) : (clsIn K C).isSome = true:=by
  rw [p.cls]
  rfl
theorem XParts.st (p : XParts K C C0 fI dd cd sl o1 o2 es n o3) : excSt K C = true:=by
  unfold excSt
  rw [p.cls]
  show (valTail cd.mro && cd.hasDict) = true
  rw [p.m,p.g.2]
  rfl
theorem XParts.j (p : XParts K C C0 fI dd cd sl o1 o2 es n o3) : excJ K C fI = true:=by
  unfold excJ
  rw [p.l]
  have hn : nsOkIn K cd.ns = true:=by
    unfold nsOkIn
    rw [p.d]
    show (es.all fun e=>match e.key with | .str _ _=>true | _=>false) = true
    rw [← Array.all_toList]
    exact p.k
  have ht : tailIn K [.type "ValueError",.type "Exception",.type "BaseException",.type "object"] cd.mro.tail = true:=by
    rw [p.m]
    exact base_tail p.b
  have hm : (cd.mro.head? == Option.some (.ref C)) = true:=by
    rw [p.m]
    exact beq_self_eq_true _
  have hi : (nsIn K cd.ns "__init__" == Option.some (Option.some (.ref fI))) = true:=by
    rw [p.i]
    exact beq_self_eq_true _
  show (cd.mro.head? == Option.some (.ref C) && tailIn K [.type "ValueError",.type "Exception",.type "BaseException",.type "object"] cd.mro.tail && nsOkIn K cd.ns && nsIn K cd.ns "__init__" == Option.some (Option.some (.ref fI)) && !cd.hasDel && (sl.toList.length == 6 && sl.toList[4]? == Option.some (Option.some (.builtin "ValueError.__new__")))) = true
  rw [hm,ht,hn,hi,p.g.1,p.s]
  rfl
end L2.Ev
set_option maxHeartbeats 4000000
namespace L2.K23
open PySem
open L2.Pl L2.Ev
theorem of1 {α : Type} {C : List α → Prop} (h : ∀ a0,C [a0]) : ∀ us : List α,us.length = 1 → C us
  | [a0],_=>h a0
theorem of2 {α : Type} {C : List α → Prop} (h : ∀ a0 a1,C [a0,a1]) : ∀ us : List α,us.length = 2 → C us
  | [a0,a1],_=>h a0 a1
theorem of3 {α : Type} {C : List α → Prop} (h : ∀ a0 a1 a2,C [a0,a1,a2]) : ∀ us : List α,us.length = 3 → C us
  | [a0,a1,a2],_=>h a0 a1 a2
theorem of4 {α : Type} {C : List α → Prop} (h : ∀ a0 a1 a2 a3,C [a0,a1,a2,a3]) : ∀ us : List α,us.length = 4 → C us
  | [a0,a1,a2,a3],_=>h a0 a1 a2 a3
theorem all_mk {l : PySem.W.OpenLaw} {w : World} {K : PySem.W.Frag} {h : Heap} {mg : Str → Option Value} {fa f1 f2 f3 f4 f5 f6 f7 f8 f9 f10 f11 f12 f13 f14 f15 f16 f17 f18 f19 f20 f21 f22 f23 f24 f25 f26 f27 f28 f29 f30 f31 : Addr} (X : K.In h) (G : h.Ns mainGlobals mg) (hfa : mg "law" = some (.ref fa))
    {od1 an1 od2 an2 od3 an3 od4 an4 od5 an5 od6 an6 od7 an7 od8 an8 od9 an9 od10 an10 od11 an11 od12 an12 od13 an13 od14 an14 od15 an15 od16 an16 od17 an17 od18 an18 od19 an19 od20 an20 od21 an21 od22 an22 od23 an23 od24 an24 od25 an25 od26 an26 od27 an27 od28 an28 od29 an29 od30 an30 od31 an31 : Option Addr} {sl1 sl2 sl3 sl4 sl5 sl6 sl7 sl8 sl9 sl10 sl11 sl12 sl13 sl14 sl15 sl16 sl17 sl18 sl19 sl20 sl21 sl22 sl23 sl24 sl25 sl26 sl27 sl28 sl29 sl30 sl31 : Array (Option Value)} {oc1 kV1 dc1 pm1 cd1 ct1 oc2 kV2 dc2 pm2 cd2 ct2 oc3 kV3 dc3 pm3 cd3 ct3 oc4 kV4 dc4 pm4 cd4 ct4 oc5 kV5 dc5 pm5 cd5 ct5 oc6 kV6 dc6 pm6 cd6 ct6 oc7 kV7 dc7 pm7 cd7 ct7 oc8 kV8 dc8 pm8 cd8 ct8 oc9 kV9 dc9 pm9 cd9 ct9 oc10 kV10 dc10 pm10 cd10 ct10 oc11 kV11 dc11 pm11 cd11 ct11 oc12 kV12 dc12 pm12 cd12 ct12 oc13 kV13 dc13 pm13 cd13 ct13 oc14 kV14 dc14 pm14 cd14 ct14 oc15 kV15 dc15 pm15 cd15 ct15 oc16 kV16 dc16 pm16 cd16 ct16 oc17 kV17 dc17 pm17 cd17 ct17 oc18 kV18 dc18 pm18 cd18 ct18 oc19 kV19 dc19 pm19 cd19 ct19 oc20 kV20 dc20 pm20 cd20 ct20 oc21 kV21 dc21 pm21 cd21 ct21 oc22 kV22 dc22 pm22 cd22 ct22 oc23 kV23 dc23 pm23 cd23 ct23 oc24 kV24 dc24 pm24 cd24 ct24 oc25 kV25 dc25 pm25 cd25 ct25 oc26 kV26 dc26 pm26 cd26 ct26 oc27 kV27 dc27 pm27 cd27 ct27 oc28 kV28 dc28 pm28 cd28 ct28 oc29 kV29 dc29 pm29 cd29 ct29 oc30 kV30 dc30 pm30 cd30 ct30 oc31 kV31 dc31 pm31 cd31 ct31 : Value}
    (a1 : PySem.W.nsIn K mainGlobals "refuse_bad_count" = some (some (.ref f1))) (l1 : K.lookup f1 = some ⟨oc1,od1,.func (PySem.W.fnOf "refuse_bad_count" "refuse_bad_count" (defArgs sRc) (defBody sRc) (defScope sRc) .none kV1 dc1 pm1 an1 cd1 ct1),sl1⟩) (c1 : PySem.W.codeIn K cd1 "refuse_bad_count" = true) (k1 : PySem.W.keepIn K (.ref f1) = true)
    (a2 : PySem.W.nsIn K mainGlobals "gathered" = some (some (.ref f2))) (l2 : K.lookup f2 = some ⟨oc2,od2,.func (PySem.W.fnOf "gathered" "gathered" (defArgs sGath) (defBody sGath) (defScope sGath) .none kV2 dc2 pm2 an2 cd2 ct2),sl2⟩) (c2 : PySem.W.codeIn K cd2 "gathered" = true) (k2 : PySem.W.keepIn K (.ref f2) = true)
    (a3 : PySem.W.nsIn K mainGlobals "less" = some (some (.ref f3))) (l3 : K.lookup f3 = some ⟨oc3,od3,.func (PySem.W.fnOf "less" "less" (defArgs sLess) (defBody sLess) (defScope sLess) .none kV3 dc3 pm3 an3 cd3 ct3),sl3⟩) (c3 : PySem.W.codeIn K cd3 "less" = true) (k3 : PySem.W.keepIn K (.ref f3) = true)
    (a4 : PySem.W.nsIn K mainGlobals "swapped" = some (some (.ref f4))) (l4 : K.lookup f4 = some ⟨oc4,od4,.func (PySem.W.fnOf "swapped" "swapped" (defArgs sSwap) (defBody sSwap) (defScope sSwap) .none kV4 dc4 pm4 an4 cd4 ct4),sl4⟩) (c4 : PySem.W.codeIn K cd4 "swapped" = true) (k4 : PySem.W.keepIn K (.ref f4) = true)
    (a5 : PySem.W.nsIn K mainGlobals "exchanged" = some (some (.ref f5))) (l5 : K.lookup f5 = some ⟨oc5,od5,.func (PySem.W.fnOf "exchanged" "exchanged" (defArgs sExch) (defBody sExch) (defScope sExch) .none kV5 dc5 pm5 an5 cd5 ct5),sl5⟩) (c5 : PySem.W.codeIn K cd5 "exchanged" = true) (k5 : PySem.W.keepIn K (.ref f5) = true)
    (a6 : PySem.W.nsIn K mainGlobals "refuse_bad_row" = some (some (.ref f6))) (l6 : K.lookup f6 = some ⟨oc6,od6,.func (PySem.W.fnOf "refuse_bad_row" "refuse_bad_row" (defArgs sRbr) (defBody sRbr) (defScope sRbr) .none kV6 dc6 pm6 an6 cd6 ct6),sl6⟩) (c6 : PySem.W.codeIn K cd6 "refuse_bad_row" = true) (k6 : PySem.W.keepIn K (.ref f6) = true)
    (a7 : PySem.W.nsIn K mainGlobals "uneven" = some (some (.ref f7))) (l7 : K.lookup f7 = some ⟨oc7,od7,.func (PySem.W.fnOf "uneven" "uneven" (defArgs sUn) (defBody sUn) (defScope sUn) .none kV7 dc7 pm7 an7 cd7 ct7),sl7⟩) (c7 : PySem.W.codeIn K cd7 "uneven" = true) (k7 : PySem.W.keepIn K (.ref f7) = true)
    (a8 : PySem.W.nsIn K mainGlobals "refuse_uneven" = some (some (.ref f8))) (l8 : K.lookup f8 = some ⟨oc8,od8,.func (PySem.W.fnOf "refuse_uneven" "refuse_uneven" (defArgs sRu) (defBody sRu) (defScope sRu) .none kV8 dc8 pm8 an8 cd8 ct8),sl8⟩) (c8 : PySem.W.codeIn K cd8 "refuse_uneven" = true) (k8 : PySem.W.keepIn K (.ref f8) = true)
    (a9 : PySem.W.nsIn K mainGlobals "orders" = some (some (.ref f9))) (l9 : K.lookup f9 = some ⟨oc9,od9,.func (PySem.W.fnOf "orders" "orders" (defArgs sOr) (defBody sOr) (defScope sOr) .none kV9 dc9 pm9 an9 cd9 ct9),sl9⟩) (c9 : PySem.W.codeIn K cd9 "orders" = true) (k9 : PySem.W.keepIn K (.ref f9) = true)
    (a10 : PySem.W.nsIn K mainGlobals "exchange_sum" = some (some (.ref f10))) (l10 : K.lookup f10 = some ⟨oc10,od10,.func (PySem.W.fnOf "exchange_sum" "exchange_sum" (defArgs sEx) (defBody sEx) (defScope sEx) .none kV10 dc10 pm10 an10 cd10 ct10),sl10⟩) (c10 : PySem.W.codeIn K cd10 "exchange_sum" = true) (k10 : PySem.W.keepIn K (.ref f10) = true)
    (a11 : PySem.W.nsIn K mainGlobals "falls" = some (some (.ref f11))) (l11 : K.lookup f11 = some ⟨oc11,od11,.func (PySem.W.fnOf "falls" "falls" (defArgs sFa) (defBody sFa) (defScope sFa) .none kV11 dc11 pm11 an11 cd11 ct11),sl11⟩) (c11 : PySem.W.codeIn K cd11 "falls" = true) (k11 : PySem.W.keepIn K (.ref f11) = true)
    (a12 : PySem.W.nsIn K mainGlobals "row_of" = some (some (.ref f12))) (l12 : K.lookup f12 = some ⟨oc12,od12,.func (PySem.W.fnOf "row_of" "row_of" (defArgs sRf) (defBody sRf) (defScope sRf) .none kV12 dc12 pm12 an12 cd12 ct12),sl12⟩) (c12 : PySem.W.codeIn K cd12 "row_of" = true) (k12 : PySem.W.keepIn K (.ref f12) = true)
    (a13 : PySem.W.nsIn K mainGlobals "by_exchange" = some (some (.ref f13))) (l13 : K.lookup f13 = some ⟨oc13,od13,.func (PySem.W.fnOf "by_exchange" "by_exchange" (defArgs sBe) (defBody sBe) (defScope sBe) .none kV13 dc13 pm13 an13 cd13 ct13),sl13⟩) (c13 : PySem.W.codeIn K cd13 "by_exchange" = true) (k13 : PySem.W.keepIn K (.ref f13) = true)
    (a14 : PySem.W.nsIn K mainGlobals "_law_whole" = some (some (.ref f14))) (l14 : K.lookup f14 = some ⟨oc14,od14,.func (PySem.W.fnOf "_law_whole" "_law_whole" (defArgs sWhole) (defBody sWhole) (defScope sWhole) .none kV14 dc14 pm14 an14 cd14 ct14),sl14⟩) (c14 : PySem.W.codeIn K cd14 "_law_whole" = true) (k14 : PySem.W.keepIn K (.ref f14) = true)
    (a15 : PySem.W.nsIn K mainGlobals "_law_flags" = some (some (.ref f15))) (l15 : K.lookup f15 = some ⟨oc15,od15,.func (PySem.W.fnOf "_law_flags" "_law_flags" (defArgs sFlags) (defBody sFlags) (defScope sFlags) .none kV15 dc15 pm15 an15 cd15 ct15),sl15⟩) (c15 : PySem.W.codeIn K cd15 "_law_flags" = true) (k15 : PySem.W.keepIn K (.ref f15) = true)
    (a16 : PySem.W.nsIn K mainGlobals "_law_only" = some (some (.ref f16))) (l16 : K.lookup f16 = some ⟨oc16,od16,.func (PySem.W.fnOf "_law_only" "_law_only" (defArgs sOnly) (defBody sOnly) (defScope sOnly) .none kV16 dc16 pm16 an16 cd16 ct16),sl16⟩) (c16 : PySem.W.codeIn K cd16 "_law_only" = true) (k16 : PySem.W.keepIn K (.ref f16) = true)
    (a17 : PySem.W.nsIn K mainGlobals "_law_cell" = some (some (.ref f17))) (l17 : K.lookup f17 = some ⟨oc17,od17,.func (PySem.W.fnOf "_law_cell" "_law_cell" (defArgs sCell) (defBody sCell) (defScope sCell) .none kV17 dc17 pm17 an17 cd17 ct17),sl17⟩) (c17 : PySem.W.codeIn K cd17 "_law_cell" = true) (k17 : PySem.W.keepIn K (.ref f17) = true)
    (a18 : PySem.W.nsIn K mainGlobals "_law_thing" = some (some (.ref f18))) (l18 : K.lookup f18 = some ⟨oc18,od18,.func (PySem.W.fnOf "_law_thing" "_law_thing" (defArgs sThing) (defBody sThing) (defScope sThing) .none kV18 dc18 pm18 an18 cd18 ct18),sl18⟩) (c18 : PySem.W.codeIn K cd18 "_law_thing" = true) (k18 : PySem.W.keepIn K (.ref f18) = true)
    (a19 : PySem.W.nsIn K mainGlobals "_law_number" = some (some (.ref f19))) (l19 : K.lookup f19 = some ⟨oc19,od19,.func (PySem.W.fnOf "_law_number" "_law_number" (defArgs sNum) (defBody sNum) (defScope sNum) .none kV19 dc19 pm19 an19 cd19 ct19),sl19⟩) (c19 : PySem.W.codeIn K cd19 "_law_number" = true) (k19 : PySem.W.keepIn K (.ref f19) = true)
    (a20 : PySem.W.nsIn K mainGlobals "_law_powers" = some (some (.ref f20))) (l20 : K.lookup f20 = some ⟨oc20,od20,.func (PySem.W.fnOf "_law_powers" "_law_powers" (defArgs sPow) (defBody sPow) (defScope sPow) .none kV20 dc20 pm20 an20 cd20 ct20),sl20⟩) (c20 : PySem.W.codeIn K cd20 "_law_powers" = true) (k20 : PySem.W.keepIn K (.ref f20) = true)
    (a21 : PySem.W.nsIn K mainGlobals "_law_sum" = some (some (.ref f21))) (l21 : K.lookup f21 = some ⟨oc21,od21,.func (PySem.W.fnOf "_law_sum" "_law_sum" (defArgs sSum) (defBody sSum) (defScope sSum) .none kV21 dc21 pm21 an21 cd21 ct21),sl21⟩) (c21 : PySem.W.codeIn K cd21 "_law_sum" = true) (k21 : PySem.W.keepIn K (.ref f21) = true)
    (a22 : PySem.W.nsIn K mainGlobals "_law_same" = some (some (.ref f22))) (l22 : K.lookup f22 = some ⟨oc22,od22,.func (PySem.W.fnOf "_law_same" "_law_same" (defArgs sSame) (defBody sSame) (defScope sSame) .none kV22 dc22 pm22 an22 cd22 ct22),sl22⟩) (c22 : PySem.W.codeIn K cd22 "_law_same" = true) (k22 : PySem.W.keepIn K (.ref f22) = true)
    (a23 : PySem.W.nsIn K mainGlobals "_law_orders" = some (some (.ref f23))) (l23 : K.lookup f23 = some ⟨oc23,od23,.func (PySem.W.fnOf "_law_orders" "_law_orders" (defArgs sLord) (defBody sLord) (defScope sLord) .none kV23 dc23 pm23 an23 cd23 ct23),sl23⟩) (c23 : PySem.W.codeIn K cd23 "_law_orders" = true) (k23 : PySem.W.keepIn K (.ref f23) = true)
    (a24 : PySem.W.nsIn K mainGlobals "_law_row" = some (some (.ref f24))) (l24 : K.lookup f24 = some ⟨oc24,od24,.func (PySem.W.fnOf "_law_row" "_law_row" (defArgs sRow) (defBody sRow) (defScope sRow) .none kV24 dc24 pm24 an24 cd24 ct24),sl24⟩) (c24 : PySem.W.codeIn K cd24 "_law_row" = true) (k24 : PySem.W.keepIn K (.ref f24) = true)
    (a25 : PySem.W.nsIn K mainGlobals "_law_told" = some (some (.ref f25))) (l25 : K.lookup f25 = some ⟨oc25,od25,.func (PySem.W.fnOf "_law_told" "_law_told" (defArgs sTold) (defBody sTold) (defScope sTold) .none kV25 dc25 pm25 an25 cd25 ct25),sl25⟩) (c25 : PySem.W.codeIn K cd25 "_law_told" = true) (k25 : PySem.W.keepIn K (.ref f25) = true)
    (a26 : PySem.W.nsIn K mainGlobals "_law_even" = some (some (.ref f26))) (l26 : K.lookup f26 = some ⟨oc26,od26,.func (PySem.W.fnOf "_law_even" "_law_even" (defArgs sEven) (defBody sEven) (defScope sEven) .none kV26 dc26 pm26 an26 cd26 ct26),sl26⟩) (c26 : PySem.W.codeIn K cd26 "_law_even" = true) (k26 : PySem.W.keepIn K (.ref f26) = true)
    (a27 : PySem.W.nsIn K mainGlobals "_law_due" = some (some (.ref f27))) (l27 : K.lookup f27 = some ⟨oc27,od27,.func (PySem.W.fnOf "_law_due" "_law_due" (defArgs sDue) (defBody sDue) (defScope sDue) .none kV27 dc27 pm27 an27 cd27 ct27),sl27⟩) (c27 : PySem.W.codeIn K cd27 "_law_due" = true) (k27 : PySem.W.keepIn K (.ref f27) = true)
    (a28 : PySem.W.nsIn K mainGlobals "_law_asked" = some (some (.ref f28))) (l28 : K.lookup f28 = some ⟨oc28,od28,.func (PySem.W.fnOf "_law_asked" "_law_asked" (defArgs sAsked) (defBody sAsked) (defScope sAsked) .none kV28 dc28 pm28 an28 cd28 ct28),sl28⟩) (c28 : PySem.W.codeIn K cd28 "_law_asked" = true) (k28 : PySem.W.keepIn K (.ref f28) = true)
    (a29 : PySem.W.nsIn K mainGlobals "_law_uneven" = some (some (.ref f29))) (l29 : K.lookup f29 = some ⟨oc29,od29,.func (PySem.W.fnOf "_law_uneven" "_law_uneven" (defArgs sUv) (defBody sUv) (defScope sUv) .none kV29 dc29 pm29 an29 cd29 ct29),sl29⟩) (c29 : PySem.W.codeIn K cd29 "_law_uneven" = true) (k29 : PySem.W.keepIn K (.ref f29) = true)
    (a30 : PySem.W.nsIn K mainGlobals "_law_good" = some (some (.ref f30))) (l30 : K.lookup f30 = some ⟨oc30,od30,.func (PySem.W.fnOf "_law_good" "_law_good" (defArgs sGood) (defBody sGood) (defScope sGood) .none kV30 dc30 pm30 an30 cd30 ct30),sl30⟩) (c30 : PySem.W.codeIn K cd30 "_law_good" = true) (k30 : PySem.W.keepIn K (.ref f30) = true)
    (a31 : PySem.W.nsIn K mainGlobals "law" = some (some (.ref f31))) (l31 : K.lookup f31 = some ⟨oc31,od31,.func (PySem.W.fnOf "law" "law" (defArgs sLaw) (defBody sLaw) (defScope sLaw) .none kV31 dc31 pm31 an31 cd31 ct31),sl31⟩) (c31 : PySem.W.codeIn K cd31 "law" = true) (k31 : PySem.W.keepIn K (.ref f31) = true)
    {tk1 : Tok} (g1 : PySem.W.nsIn K mainGlobals "MOST_UNKNOWNS" = some (some (.int 4 tk1)))
    {tk2 : Tok} (g2 : PySem.W.nsIn K mainGlobals "MOST_TOGETHER" = some (some (.int 8 tk2)))
    {d0 d1 d2 d3 d4 d5 d6 d7 d8 d9 d10 d11 d12 d13 fI : Addr} {odI anI : Option Addr} {slI : Array (Option Value)} {ocI kVI dcI pmI cdI ctI : Value} {ddC o2C : Option Addr} {cdC : ClassData} {slC o3C : Array (Option Value)} {o1C : Value} {esC : Array DictEntry} {nnC : Nat}
    (y0 : PySem.W.nsIn K mainGlobals "BadCount" = some (some (.ref d0)))
    (y1 : PySem.W.nsIn K mainGlobals "BadPowers" = some (some (.ref d1)))
    (y2 : PySem.W.nsIn K mainGlobals "TooGreat" = some (some (.ref d2)))
    (y3 : PySem.W.nsIn K mainGlobals "BadRow" = some (some (.ref d3)))
    (y4 : PySem.W.nsIn K mainGlobals "UnlikeWeights" = some (some (.ref d4)))
    (y5 : PySem.W.nsIn K mainGlobals "TooLong" = some (some (.ref d5)))
    (y6 : PySem.W.nsIn K mainGlobals "Uneven" = some (some (.ref d6)))
    (y7 : PySem.W.nsIn K mainGlobals "NoKind" = some (some (.ref d7)))
    (y8 : PySem.W.nsIn K mainGlobals "NoText" = some (some (.ref d8)))
    (y9 : PySem.W.nsIn K mainGlobals "NoLine" = some (some (.ref d9)))
    (y10 : PySem.W.nsIn K mainGlobals "BadName" = some (some (.ref d10)))
    (y11 : PySem.W.nsIn K mainGlobals "NoName" = some (some (.ref d11)))
    (y12 : PySem.W.nsIn K mainGlobals "NotBy" = some (some (.ref d12)))
    (y13 : PySem.W.nsIn K mainGlobals "EvenError" = some (some (.ref d13)))
    (x0 : PySem.W.excIn K d0 bmV "ValueError.__new__" = true)
    (x3 : PySem.W.excIn K d3 bmV "ValueError.__new__" = true)
    (x5 : PySem.W.excIn K d5 bmV "ValueError.__new__" = true)
    (e0a : PySem.W.mroIn K d0 (.type "object") = some true)
    (e0b : PySem.W.mroIn K d0 (.type "BaseException") = some true)
    (e0c : PySem.W.findIn K (.ref d0) "__class__" = some (some (.builtin "object.__class__")))
    (e0d : PySem.W.findIn K (.ref d0) "__getattribute__" = some (some (.builtin "BaseException.__getattribute__")))
    (e0e : PySem.W.findIn K (.ref d0) "__getattr__" = some none)
    (v0 : PySem.W.kitOne K (.ref d0) (.type "ValueError") = some true)
    (w0 : PySem.W.kitOne K (.ref d0) (.ref d13) = some true)
    (n0 : d0 ≠ d13)
    (u0_0 : PySem.W.kitOne K (.ref d0) (.ref d0) = some true)
    (u0_1 : PySem.W.kitOne K (.ref d0) (.ref d1) = some false)
    (u0_2 : PySem.W.kitOne K (.ref d0) (.ref d2) = some false)
    (u0_3 : PySem.W.kitOne K (.ref d0) (.ref d3) = some false)
    (u0_4 : PySem.W.kitOne K (.ref d0) (.ref d4) = some false)
    (u0_5 : PySem.W.kitOne K (.ref d0) (.ref d5) = some false)
    (u0_6 : PySem.W.kitOne K (.ref d0) (.ref d6) = some false)
    (u0_7 : PySem.W.kitOne K (.ref d0) (.ref d7) = some false)
    (u0_8 : PySem.W.kitOne K (.ref d0) (.ref d8) = some false)
    (u0_9 : PySem.W.kitOne K (.ref d0) (.ref d9) = some false)
    (u0_10 : PySem.W.kitOne K (.ref d0) (.ref d10) = some false)
    (u0_11 : PySem.W.kitOne K (.ref d0) (.ref d11) = some false)
    (u0_12 : PySem.W.kitOne K (.ref d0) (.ref d12) = some false)
    (e6a : PySem.W.mroIn K d6 (.type "object") = some true)
    (e6b : PySem.W.mroIn K d6 (.type "BaseException") = some true)
    (e6c : PySem.W.findIn K (.ref d6) "__class__" = some (some (.builtin "object.__class__")))
    (e6d : PySem.W.findIn K (.ref d6) "__getattribute__" = some (some (.builtin "BaseException.__getattribute__")))
    (e6e : PySem.W.findIn K (.ref d6) "__getattr__" = some none)
    (v6 : PySem.W.kitOne K (.ref d6) (.type "ValueError") = some true)
    (w6 : PySem.W.kitOne K (.ref d6) (.ref d13) = some true)
    (n6 : d6 ≠ d13)
    (u6_0 : PySem.W.kitOne K (.ref d6) (.ref d0) = some false)
    (u6_1 : PySem.W.kitOne K (.ref d6) (.ref d1) = some false)
    (u6_2 : PySem.W.kitOne K (.ref d6) (.ref d2) = some false)
    (u6_3 : PySem.W.kitOne K (.ref d6) (.ref d3) = some false)
    (u6_4 : PySem.W.kitOne K (.ref d6) (.ref d4) = some false)
    (u6_5 : PySem.W.kitOne K (.ref d6) (.ref d5) = some false)
    (u6_6 : PySem.W.kitOne K (.ref d6) (.ref d6) = some true)
    (u6_7 : PySem.W.kitOne K (.ref d6) (.ref d7) = some false)
    (u6_8 : PySem.W.kitOne K (.ref d6) (.ref d8) = some false)
    (u6_9 : PySem.W.kitOne K (.ref d6) (.ref d9) = some false)
    (u6_10 : PySem.W.kitOne K (.ref d6) (.ref d10) = some false)
    (u6_11 : PySem.W.kitOne K (.ref d6) (.ref d11) = some false)
    (u6_12 : PySem.W.kitOne K (.ref d6) (.ref d12) = some false)
    (wE : PySem.W.kitOne K (.ref d13) (.type "BaseException") = some true)
    (aI : PySem.W.findIn K (.ref d6) "__init__" = some (some (.ref fI)))
    (lI : K.lookup fI = some ⟨ocI,odI,.func (PySem.W.fnOf "__init__" "Uneven.__init__" (defArgs sIni) (defBody sIni) (defScope sIni) .none kVI dcI pmI anI cdI ctI),slI⟩)
    (cI : PySem.W.codeIn K cdI "Uneven.__init__" = true)
    (kI : PySem.W.keepIn K (.ref fI) = true)
    (lC : K.lookup d6 = some ⟨.type "type",ddC,.cls cdC,slC⟩)
    (mC : cdC.mro = [.ref d6,.ref d13,.type "ValueError",.type "Exception",.type "BaseException",.type "object"])
    (gC : cdC.hasDel = false ∧ cdC.hasDict = true)
    (sC : (slC.toList.length == 6 && slC.toList[4]? == some (some (.builtin "ValueError.__new__"))) = true)
    (dC : K.lookup cdC.ns = some ⟨o1C,o2C,.dict esC nnC,o3C⟩)
    (kC : (esC.toList.all fun e=>match e.key with | .str _ _=>true | _=>false) = true)
    (iC : PySem.W.nsIn K cdC.ns "__init__" = some (some (.ref fI)))
    (bC : PySem.W.excIn K d13 vTail "ValueError.__new__" = true)
    (fI1 : PySem.W.isFn K (.ref fI) = true)
    (kC6 : PySem.W.keepIn K (.ref d6) = true)
    (sa6 : PySem.W.findIn K (.ref d6) "__setattr__" = some (some (.builtin "object.__setattr__")))
    (p1 : PySem.W.findIn K (.ref d6) "place" = some none)
    (p2 : PySem.W.findIn K (.ref d6) "powers" = some none)
    (hd6 : PySem.W.hasDictIn K d6 = true)
    (bi1 : PySem.W.specialIn K (.ref d13) "__getattribute__" = some (some (.builtin "type.__getattribute__")))
    (bi2 : PySem.W.readsIn K d13 (.type "type") = true)
    (bi3 : PySem.W.findCls K (.ref d13) (.type "type") "__init__" = some (.val (.builtin "ValueError.__init__")))
    (z1 : PySem.W.nsIn K mainGlobals "sorted" = some none)
    (z2 : PySem.W.nsIn K mainGlobals "range" = some none)
    (z3 : PySem.W.nsIn K mainGlobals "isinstance" = some none)
    (z4 : PySem.W.nsIn K mainGlobals "int" = some none)
    (z5 : PySem.W.nsIn K mainGlobals "bool" = some none)
    (z6 : PySem.W.nsIn K mainGlobals "len" = some none)
    (z7 : PySem.W.nsIn K mainGlobals "tuple" = some none)
    (z8 : PySem.W.nsIn K mainGlobals "list" = some none)
    (z9 : PySem.W.nsIn K mainGlobals "all" = some none)
    (z10 : PySem.W.nsIn K mainGlobals "any" = some none)
    (z11 : PySem.W.nsIn K mainGlobals "zip" = some none)
    (z12 : PySem.W.nsIn K mainGlobals "sum" = some none)
    (z13 : PySem.W.nsIn K mainGlobals "enumerate" = some none)
    (z14 : PySem.W.nsIn K mainGlobals "ValueError" = some none)
    : ∃ fd : FuncData,(∀ (s : Shared) (v : Value),BindsTo s fd ⟨[v],[]⟩ [("_law_script",v)]) ∧ ∀ base : Heap,K.In base → base.Ns mainGlobals mg → FnOk l.prog w K mg base CX0 12 fa fd ["_law_script"] (spLaw K):=by
  have e:=hfa.symm.trans (PySem.W.mg_of X G a31)
  cases e
  have F1:=fun_mk (st:=sRc) l1 c1 k1
  have b1:=F1.binds (ps:=["many"]) fun _ _ _ _ _ _=>of1 fun _=>rfl
  have A1:=PySem.W.mg_of X G a1
  have F2:=fun_mk (st:=sGath) l2 c2 k2
  have b2:=F2.binds (ps:=["terms"]) fun _ _ _ _ _ _=>of1 fun _=>rfl
  have A2:=PySem.W.mg_of X G a2
  have F3:=fun_mk (st:=sLess) l3 c3 k3
  have b3:=F3.binds (ps:=nPl) fun _ _ _ _ _ _=>of2 fun _ _=>rfl
  have A3:=PySem.W.mg_of X G a3
  have F4:=fun_mk (st:=sSwap) l4 c4 k4
  have b4:=F4.binds (ps:=["powers", "place"]) fun _ _ _ _ _ _=>of2 fun _ _=>rfl
  have A4:=PySem.W.mg_of X G a4
  have F5:=fun_mk (st:=sExch) l5 c5 k5
  have b5:=F5.binds (ps:=["some", "place"]) fun _ _ _ _ _ _=>of2 fun _ _=>rfl
  have A5:=PySem.W.mg_of X G a5
  have F6:=fun_mk (st:=sRbr) l6 c6 k6
  have b6:=F6.binds (ps:=nRb) fun _ _ _ _ _ _=>of1 fun _=>rfl
  have A6:=PySem.W.mg_of X G a6
  have F7:=fun_mk (st:=sUn) l7 c7 k7
  have b7:=F7.binds (ps:=pUn) fun _ _ _ _ _ _=>of2 fun _ _=>rfl
  have A7:=PySem.W.mg_of X G a7
  have F8:=fun_mk (st:=sRu) l8 c8 k8
  have b8:=F8.binds (ps:=pUn) fun _ _ _ _ _ _=>of2 fun _ _=>rfl
  have A8:=PySem.W.mg_of X G a8
  have F9:=fun_mk (st:=sOr) l9 c9 k9
  have b9:=F9.binds (ps:=["numbers"]) fun _ _ _ _ _ _=>of1 fun _=>rfl
  have A9:=PySem.W.mg_of X G a9
  have F10:=fun_mk (st:=sEx) l10 c10 k10
  have b10:=F10.binds (ps:=nEx) fun _ _ _ _ _ _=>of2 fun _ _=>rfl
  have A10:=PySem.W.mg_of X G a10
  have F11:=fun_mk (st:=sFa) l11 c11 k11
  have b11:=F11.binds (ps:=["powers"]) fun _ _ _ _ _ _=>of1 fun _=>rfl
  have A11:=PySem.W.mg_of X G a11
  have F12:=fun_mk (st:=sRf) l12 c12 k12
  have b12:=F12.binds (ps:=["powers"]) fun _ _ _ _ _ _=>of1 fun _=>rfl
  have A12:=PySem.W.mg_of X G a12
  have F13:=fun_mk (st:=sBe) l13 c13 k13
  have b13:=F13.binds (ps:=pUn) fun _ _ _ _ _ _=>of2 fun _ _=>rfl
  have A13:=PySem.W.mg_of X G a13
  have F14:=fun_mk (st:=sWhole) l14 c14 k14
  have b14:=F14.binds (ps:=["_law_found"]) fun _ _ _ _ _ _=>of1 fun _=>rfl
  have A14:=PySem.W.mg_of X G a14
  have F15:=fun_mk (st:=sFlags) l15 c15 k15
  have b15:=F15.binds (ps:=["_law_caught"]) fun _ _ _ _ _ _=>of1 fun _=>rfl
  have A15:=PySem.W.mg_of X G a15
  have F16:=fun_mk (st:=sOnly) l16 c16 k16
  have b16:=F16.binds (ps:=["_law_caught", "_law_name"]) fun _ _ _ _ _ _=>of2 fun _ _=>rfl
  have A16:=PySem.W.mg_of X G a16
  have F17:=fun_mk (st:=sCell) l17 c17 k17
  have b17:=F17.binds (ps:=nC) fun _ _ _ _ _ _=>of2 fun _ _=>rfl
  have A17:=PySem.W.mg_of X G a17
  have F18:=fun_mk (st:=sThing) l18 c18 k18
  have b18:=F18.binds (ps:=["_law_cell_here", "_law_k", "_law_many"]) fun _ _ _ _ _ _=>of3 fun _ _ _=>rfl
  have A18:=PySem.W.mg_of X G a18
  have F19:=fun_mk (st:=sNum) l19 c19 k19
  have b19:=F19.binds (ps:=["_law_cell_here"]) fun _ _ _ _ _ _=>of1 fun _=>rfl
  have A19:=PySem.W.mg_of X G a19
  have F20:=fun_mk (st:=sPow) l20 c20 k20
  have b20:=F20.binds (ps:=pP) fun _ _ _ _ _ _=>of4 fun _ _ _ _=>rfl
  have A20:=PySem.W.mg_of X G a20
  have F21:=fun_mk (st:=sSum) l21 c21 k21
  have b21:=F21.binds (ps:=["_law_terms"]) fun _ _ _ _ _ _=>of1 fun _=>rfl
  have A21:=PySem.W.mg_of X G a21
  have F22:=fun_mk (st:=sSame) l22 c22 k22
  have b22:=F22.binds (ps:=["_law_found", "_law_due_here"]) fun _ _ _ _ _ _=>of2 fun _ _=>rfl
  have A22:=PySem.W.mg_of X G a22
  have F23:=fun_mk (st:=sLord) l23 c23 k23
  have b23:=F23.binds (ps:=["_law_numbers"]) fun _ _ _ _ _ _=>of1 fun _=>rfl
  have A23:=PySem.W.mg_of X G a23
  have F24:=fun_mk (st:=sRow) l24 c24 k24
  have b24:=F24.binds (ps:=nRo) fun _ _ _ _ _ _=>of1 fun _=>rfl
  have A24:=PySem.W.mg_of X G a24
  have F25:=fun_mk (st:=sTold) l25 c25 k25
  have b25:=F25.binds (ps:=nTd) fun _ _ _ _ _ _=>of3 fun _ _ _=>rfl
  have A25:=PySem.W.mg_of X G a25
  have F26:=fun_mk (st:=sEven) l26 c26 k26
  have b26:=F26.binds (ps:=pEv) fun _ _ _ _ _ _=>of2 fun _ _=>rfl
  have A26:=PySem.W.mg_of X G a26
  have F27:=fun_mk (st:=sDue) l27 c27 k27
  have b27:=F27.binds (ps:=pDu) fun _ _ _ _ _ _=>of2 fun _ _=>rfl
  have A27:=PySem.W.mg_of X G a27
  have F28:=fun_mk (st:=sAsked) l28 c28 k28
  have b28:=F28.binds (ps:=pAs) fun _ _ _ _ _ _=>of2 fun _ _=>rfl
  have A28:=PySem.W.mg_of X G a28
  have F29:=fun_mk (st:=sUv) l29 c29 k29
  have b29:=F29.binds (ps:=nUv) fun _ _ _ _ _ _=>of2 fun _ _=>rfl
  have A29:=PySem.W.mg_of X G a29
  have F30:=fun_mk (st:=sGood) l30 c30 k30
  have b30:=F30.binds (ps:=pGd) fun _ _ _ _ _ _=>of3 fun _ _ _=>rfl
  have A30:=PySem.W.mg_of X G a30
  have F31:=fun_mk (st:=sLaw) l31 c31 k31
  have c_MOST_UNKNOWNS:=PySem.W.mg_of X G g1
  have c_MOST_TOGETHER:=PySem.W.mg_of X G g2
  have m_sorted:=PySem.W.mg_none_of X G z1
  have m_range:=PySem.W.mg_none_of X G z2
  have m_isinstance:=PySem.W.mg_none_of X G z3
  have m_int:=PySem.W.mg_none_of X G z4
  have m_bool:=PySem.W.mg_none_of X G z5
  have m_len:=PySem.W.mg_none_of X G z6
  have m_tuple:=PySem.W.mg_none_of X G z7
  have m_list:=PySem.W.mg_none_of X G z8
  have m_all:=PySem.W.mg_none_of X G z9
  have m_any:=PySem.W.mg_none_of X G z10
  have m_zip:=PySem.W.mg_none_of X G z11
  have m_sum:=PySem.W.mg_none_of X G z12
  have m_enumerate:=PySem.W.mg_none_of X G z13
  have m_ValueError:=PySem.W.mg_none_of X G z14
  refine ⟨PySem.W.fnOf "law" "law" (defArgs sLaw) (defBody sLaw) (defScope sLaw) .none kV31 dc31 pm31 an31 cd31 ct31,fun s v=>.of_eq rfl,fun base _ _=>?_⟩
  have CP : XParts K d6 d13 fI ddC cdC slC o1C o2C esC nnC o3C:=⟨lC,mC,gC,sC,dC,kC,iC,bC⟩
  have f0 : exFlags "BadCount" = [true,false,false,false,false,false,false,false,false,false,false,false,false]:=by decide
  have T0 : Told K [d0,d1,d2,d3,d4,d5,d6,d7,d8,d9,d10,d11,d12] d0 "BadCount" := ⟨⟨e0a,e0b,e0c,e0d,e0e,cls_of_exc x0⟩,v0,by
    rw [f0]
    exact says_of (.cons u0_0 (.cons u0_1 (.cons u0_2 (.cons u0_3 (.cons u0_4 (.cons u0_5 (.cons u0_6 (.cons u0_7 (.cons u0_8 (.cons u0_9 (.cons u0_10 (.cons u0_11 (.cons u0_12 .nil)))))))))))))⟩
  have f6 : exFlags "Uneven" = [false,false,false,false,false,false,true,false,false,false,false,false,false]:=by decide
  have T6 : Told K [d0,d1,d2,d3,d4,d5,d6,d7,d8,d9,d10,d11,d12] d6 "Uneven" := ⟨⟨e6a,e6b,e6c,e6d,e6e,CP.some⟩,v6,by
    rw [f6]
    exact says_of (.cons u6_0 (.cons u6_1 (.cons u6_2 (.cons u6_3 (.cons u6_4 (.cons u6_5 (.cons u6_6 (.cons u6_7 (.cons u6_8 (.cons u6_9 (.cons u6_10 (.cons u6_11 (.cons u6_12 .nil)))))))))))))⟩
  have M0:=PySem.W.mg_of X G y0
  have M1:=PySem.W.mg_of X G y1
  have M2:=PySem.W.mg_of X G y2
  have M3:=PySem.W.mg_of X G y3
  have M4:=PySem.W.mg_of X G y4
  have M5:=PySem.W.mg_of X G y5
  have M6:=PySem.W.mg_of X G y6
  have M7:=PySem.W.mg_of X G y7
  have M8:=PySem.W.mg_of X G y8
  have M9:=PySem.W.mg_of X G y9
  have M10:=PySem.W.mg_of X G y10
  have M11:=PySem.W.mg_of X G y11
  have M12:=PySem.W.mg_of X G y12
  have M13:=PySem.W.mg_of X G y13
  have XC : XCls K d6 fI:=⟨⟨T6.k,CP.st,sa6⟩,⟨CP.j,fI1,kC6⟩,p1,p2⟩
  have UC : UCls K [d0,d1,d2,d3,d4,d5,d6,d7,d8,d9,d10,d11,d12] d6:=⟨T6.k,T6.v,T6.s,hd6,p1,p2⟩
  have FI:=fun_mk (st:=sIni) lI cI kI
  have bI:=FI.binds (ps:=nIni) fun _ _ _ _ _ _=>of3 fun _ _ _=>rfl
  have OI:=ok_ini (P:=l.prog) (w:=w) (base:=base) FI M13 ⟨bi1,bi2,bi3⟩ XC
  have O1:=ok_cntx (P:=l.prog) (w:=w) (base:=base) F1 c_MOST_UNKNOWNS ⟨M0,x0⟩
  have O2:=ok_gath (P:=l.prog) (w:=w) (base:=base) F2 m_sorted
  have O3:=ok_less F3 ⟨_,_,O2.mono (by decide),b2,k2,A2⟩
  have O4:=ok_swap (P:=l.prog) (w:=w) (mg:=mg) (base:=base) F4
  have O5:=ok_exch F5 O2 b2 k2 A2 O4 b4 k4 A4
  have O6:=ok_rbr (P:=l.prog) (w:=w) (base:=base) F6 c_MOST_TOGETHER ⟨M3,x3⟩ m_any m_zip m_sum
  have O7:=ok_un F7 ⟨_,_,O1.mono (by decide),b1,k1,A1⟩ ⟨_,_,O3.mono (by decide),b3,k3,A3⟩ ⟨_,_,O5.mono (by decide),b5,k5,A5⟩ m_range
  have O8:=ok_ru F8 ⟨_,_,O7.mono (by decide),b7,k7,A7⟩ (OI.mono (by decide)) bI XC M6
  have O9:=all_or (P:=l.prog) (w:=w) (base:=base) F9 b9 A9 m_enumerate 5
  have O10:=ok_exx F10 ⟨_,_,O6.mono (by decide),b6,k6,A6⟩ ⟨_,_,O1.mono (by decide),b1,k1,A1⟩ ⟨_,_,O9.mono (by decide),b9,k9,A9⟩ ⟨M5,x5⟩ m_len
  have O11:=ok_fa (P:=l.prog) (w:=w) (base:=base) F11 m_tuple m_sorted
  have O12:=ok_rf (P:=l.prog) (w:=w) (base:=base) F12 m_tuple
  have O13:=ok_be F13 ⟨_,_,O8.mono (by decide),b8,k8,A8⟩ ⟨_,_,O11.mono (by decide),b11,k11,A11⟩ ⟨_,_,O12.mono (by decide),b12,k12,A12⟩
  have O14:=ok_whole (P:=l.prog) (w:=w) (base:=base) F14 m_isinstance m_int m_bool
  have O15:=ok_flags (P:=l.prog) (w:=w) (base:=base) F15 m_isinstance M0 M1 M2 M3 M4 M5 M6 M7 M8 M9 M10 M11 M12
  have O16:=ok_only F16 ⟨_,_,O15.mono (by decide),b15,k15,A15⟩ m_isinstance m_ValueError
  have O17:=ok_cell (P:=l.prog) (w:=w) (base:=base) F17 m_len
  have O18:=ok_thing (P:=l.prog) (w:=w) (mg:=mg) (base:=base) F18
  have O19:=ok_num (P:=l.prog) (w:=w) (mg:=mg) (base:=base) F19
  have O20:=ok_pow F20 O18 b18 k18 A18 m_range m_tuple
  have O21:=ok_sum (P:=l.prog) (w:=w) (base:=base) F21 m_sorted
  have O22:=ok_same F22 O14 b14 k14 A14 m_isinstance m_list m_tuple m_len m_zip m_all
  have O23:=ok_lord (P:=l.prog) (w:=w) (base:=base) F23 m_list m_range m_len
  have O24:=ok_row (P:=l.prog) (w:=w) (base:=base) F24 m_tuple m_sorted
  have O25:=ok_told F25 ⟨_,_,O21.mono (by decide),b21,k21,A21⟩ ⟨_,_,O24.mono (by decide),b24,k24,A24⟩ ⟨_,_,O20.mono (by decide),b20,k20,A20⟩ ⟨_,_,O19.mono (by decide),b19,k19,A19⟩
  have O26:=ok_even F26 ⟨_,_,O23.mono (by decide),b23,k23,A23⟩ ⟨_,_,O21.mono (by decide),b21,k21,A21⟩ m_list m_len
  have O27:=ok_due F27 ⟨_,_,O21.mono (by decide),b21,k21,A21⟩ m_range m_list
  have O28:=ok_asked F28 ⟨_,_,O13.mono (by decide),b13,k13,A13⟩ M13 wE ⟨w0,n0⟩ ⟨w6,n6⟩
  have O29:=ok_uv F29 ⟨_,_,O16.mono (by decide),b16,k16,A16⟩ ⟨_,_,O14.mono (by decide),b14,k14,A14⟩ UC m_isinstance m_tuple m_all
  have O30:=ok_good F30 ⟨_,_,O28.mono (by decide),b28,k28,A28⟩ ⟨_,_,O27.mono (by decide),b27,k27,A27⟩ ⟨_,_,O29.mono (by decide),b29,k29,A29⟩ ⟨_,_,O22.mono (by decide),b22,k22,A22⟩ ⟨_,_,O10.mono (by decide),b10,k10,A10⟩ ⟨_,_,O21.mono (by decide),b21,k21,A21⟩ ⟨_,_,O13.mono (by decide),b13,k13,A13⟩ m_list
  exact ok_law F31 ⟨_,_,O17.mono (by decide),b17,k17,A17⟩ ⟨_,_,O26.mono (by decide),b26,k26,A26⟩ ⟨_,_,O25.mono (by decide),b25,k25,A25⟩ ⟨_,_,O21.mono (by decide),b21,k21,A21⟩ ⟨_,_,O18.mono (by decide),b18,k18,A18⟩ ⟨_,_,O30.mono (by decide),b30,k30,A30⟩ ⟨_,_,O27.mono (by decide),b27,k27,A27⟩ ⟨_,_,O28.mono (by decide),b28,k28,A28⟩ ⟨_,_,O16.mono (by decide),b16,k16,A16⟩ T0 m_len m_int
theorem walk {l : PySem.W.OpenLaw} {q : Program} {loose : List Str} {XP : (Str → Option Value) → Heap → Prop} {YP : World → Heap → Prop} {d : DefRec} {K : Params → PySem.W.Frag} (hn : l.most = some 63) (hdf : d.params.defaults = [])
    (hY : ∀ (w : World) (h : Heap),YP w h → (K w.params).In h)
    (F : ∀ (w : World) (mg : Str → Option Value) (fa : Addr) (h : Heap),(K w.params).In h → h.Ns mainGlobals mg → mg d.name = some (.ref fa) →
      ∃ fd : FuncData,(∀ (s : Shared) (u : Value),BindsTo s fd ⟨[u],[]⟩ [("_law_script",u)]) ∧ ∀ base : Heap,(K w.params).In base → base.Ns mainGlobals mg → FnOk l.prog w (K w.params) mg base CX0 12 fa fd ["_law_script"] (spLaw (K w.params))) :
    PySem.W.WalkO q loose XP YP l.row.toRowW d [] (fun f vs=>PySem.call f vs) :=
  L2.walk_of (n:=63) (k:=12) (x := "_law_script") (CX:=fun _=>CX0) (sp:=fun w=>spLaw (K w.params)) hn (by decide) hdf ⟨rfl,by decide,by decide⟩ hY F (fun _ _ a ns hl _ hS=>⟨a,ns,rfl,hS,hl,fun _=>rfl⟩) fun _ _ _ _ _ z=>z
end L2.K23
namespace PySem.W.Fast
def tw10072189856395479776:=0
def tw10139990813400317994:=0
def tw10172873946224675859:=0
def tw10174631626561086792:=0
def tw10188728845091234799:=0
def tw1021023263077957223:=0
def tw10235026804616668356:=0
def tw1028540920196376268:=0
def tw10389936651041387470:=0
def tw10428402485398337921:=0
def tw10459812266973558169:=0
def tw10512439527922635847:=0
def tw10576921000747909310:=0
def tw10578493168070517368:=0
def tw10639554896771419353:=0
def tw1064390552427619810:=0
def tw10823531212880536508:=0
def tw10850705532256822548:=0
def tw10898209247661490903:=0
def tw10961804134511599997:=0
def tw11017269534042394229:=0
def tw11027272359571602787:=0
def tw11065268925677657448:=0
def tw11119770960595482645:=0
def tw11167832923030643891:=0
def tw11181117066770315574:=0
def tw11219437361196709629:=0
def tw11327269681979086051:=0
def tw11362272746061787735:=0
def tw11362972224861455831:=0
def tw11435874283186356968:=0
def tw11493765847471829680:=0
def tw11696077055850065024:=0
def tw117723071624942469:=0
def tw11798918377847034269:=0
def tw11877397716942936727:=0
def tw11913957385487854796:=0
def tw1191547774350819250:=0
def tw11964259603157793896:=0
def tw11985655286638630780:=0
def tw12020716695334003860:=0
def tw12023125149563271760:=0
def tw1204671356832961581:=0
def tw12079643288937645273:=0
def tw1221989360613312786:=0
def tw1222274844010257201:=0
def tw12310533524211736683:=0
def tw12321838763265029044:=0
def tw12337820400638566681:=0
def tw12431786158007882318:=0
def tw12453644639287958993:=0
def tw12483117238355649366:=0
def tw12493684172689166428:=0
def tw1249585159547682773:=0
def tw12547477845928502335:=0
def tw12567330424939681263:=0
def tw12585009149958534963:=0
def tw12588369759598803585:=0
def tw12623801905061178426:=0
def tw12641985249541912183:=0
def tw12670586709854079257:=0
def tw1267230177474042387:=0
def tw12675057416760077524:=0
def tw126779589973179706:=0
def tw12878941278079952127:=0
def tw12912332636447811357:=0
def tw12992589286911873853:=0
def tw13062322759703223974:=0
def tw13252834159861394512:=0
def tw13282340155946556606:=0
def tw13299985398320739858:=0
def tw13362835453179193643:=0
def tw13393971855793673101:=0
def tw13461166753537259299:=0
def tw13542302457573474494:=0
def tw13624316188128003653:=0
def tw13695990260347560116:=0
def tw13701840019079508416:=0
def tw13719774516313046328:=0
def tw13773060768169672951:=0
def tw13791895603240408349:=0
def tw13815319668598638128:=0
def tw13832862264453141192:=0
def tw13927814644844988200:=0
def tw14041035597404906312:=0
def tw14061910812561468195:=0
def tw14074411562264544104:=0
def tw14101001344811699775:=0
def tw14101877031121878918:=0
def tw14150458287810969873:=0
def tw14185576702235243576:=0
def tw14243878661751704670:=0
def tw14292109996562130385:=0
def tw14320684419780534813:=0
def tw14329831093047445729:=0
def tw1447981120751239993:=0
def tw14532411237648957201:=0
def tw14541025825620349755:=0
def tw14541599590012021148:=0
def tw1454901456925237191:=0
def tw14620882862154448990:=0
def tw14662363831507808625:=0
def tw14668296397842671640:=0
def tw14669411332867961615:=0
def tw14699261023230793:=0
def tw14757242209895945778:=0
def tw14776465609139020540:=0
def tw14789588550872420246:=0
def tw14830873902646333263:=0
def tw14885930424495853512:=0
def tw14942320315590596271:=0
def tw14980943919601428707:=0
def tw15042841327348607457:=0
def tw15063221489981885010:=0
def tw15068718790523664046:=0
def tw15069212193890544229:=0
def tw15071512184456885192:=0
def tw1510230690736383119:=0
def tw15121080646625327025:=0
def tw15192887321810801385:=0
def tw15195235875236344694:=0
def tw15197516148582046924:=0
def tw15238886689580499505:=0
def tw15266386685201103641:=0
def tw15308114325411838654:=0
def tw15314422976483981463:=0
def tw15339442969291850543:=0
def tw15446387838832539031:=0
def tw15500795922319397080:=0
def tw15508611952294189769:=0
def tw15571211995360873111:=0
def tw15653331222779903122:=0
def tw1567433452829220397:=0
def tw15685998811885033651:=0
def tw15716026056351034736:=0
def tw15750046266085811231:=0
def tw15797660283626703108:=0
def tw15811270511194683985:=0
def tw15838483124863243919:=0
def tw15852943278135854577:=0
def tw15939532591858741423:=0
def tw15974425934271848863:=0
def tw15985705665223139139:=0
def tw16077623902560163929:=0
def tw16091025480991596963:=0
def tw1610308179466907158:=0
def tw16132686664090442225:=0
def tw1617967071040399862:=0
def tw16203579712099488292:=0
def tw16223244574147983743:=0
def tw16314307101889528391:=0
def tw16318288920915794128:=0
def tw16374519033170882847:=0
def tw16403239432176444503:=0
def tw16441763515632502063:=0
def tw16480937160667745647:=0
def tw16547188440410343067:=0
def tw16671900202699211153:=0
def tw16675057420600327545:=0
def tw16678156979382893830:=0
def tw16688460654955116906:=0
def tw16765521182703838743:=0
def tw16868172186721294364:=0
def tw16874383369346875998:=0
def tw16877886855435512096:=0
def tw1689415269925425996:=0
def tw16897176776534156209:=0
def tw16912247751830956517:=0
def tw16980654975765779032:=0
def tw17008369242823757377:=0
def tw1702420998803230185:=0
def tw17051183622899472640:=0
def tw17069750098066377721:=0
def tw17235734633577535399:=0
def tw17287818811794397942:=0
def tw17318493935505289180:=0
def tw17326101514501190171:=0
def tw17357810715806833865:=0
def tw17403642237712897169:=0
def tw17427793153327182432:=0
def tw17459205480914838023:=0
def tw17466923906584956651:=0
def tw17682009468617684640:=0
def tw17701491097057533090:=0
def tw17727820801693580262:=0
def tw17772464264191568727:=0
def tw17773355551079642525:=0
def tw17791343244787337662:=0
def tw1779645018922998802:=0
def tw17805015935138587981:=0
def tw17828855231431049725:=0
def tw17836406008480787506:=0
def tw17911461637781972408:=0
def tw17911567056898491587:=0
def tw17997461826407187557:=0
def tw1803456720635117998:=0
def tw1809419684655054604:=0
def tw18133551225646746068:=0
def tw18210367779506568720:=0
def tw18321202466663801142:=0
def tw18326125216364912474:=0
def tw18327703491829893874:=0
def tw18395250584684809169:=0
def tw1949774889725028293:=0
def tw20138844886427124:=0
def tw2029061623168077846:=0
def tw2060642136697153853:=0
def tw2152045016083338067:=0
def tw2167909664766454779:=0
def tw2199614942780883022:=0
def tw2209212317922050788:=0
def tw224082187584415788:=0
def tw2241876773341034479:=0
def tw2263571878531455799:=0
def tw2330941007381305591:=0
def tw236430008005636392:=0
def tw2384620395559194463:=0
def tw2419269536903391227:=0
def tw2422269090196706454:=0
def tw2437310798034871081:=0
def tw2477457892448586921:=0
def tw2568954482722503160:=0
def tw2572547756044520719:=0
def tw2633018911145349182:=0
def tw2663362136209871157:=0
def tw2709619173550649387:=0
def tw2727448390897290119:=0
def tw2733085252572210489:=0
def tw2793372487064011456:=0
def tw2814365931214573557:=0
def tw2828413161360647045:=0
def tw2937007398038482634:=0
def tw2937375201127886659:=0
def tw2990189047739148939:=0
def tw3009643722106211100:=0
def tw3012387913221340818:=0
def tw3046121625027565655:=0
def tw3159333674096966489:=0
def tw3175088909953734726:=0
def tw3194827236547332888:=0
def tw3201644132199812267:=0
def tw3269631361544041320:=0
def tw3288379000118284753:=0
def tw3299437843121109514:=0
def tw3363263529396147335:=0
def tw3371515832067977121:=0
def tw3373472560810119674:=0
def tw3395997459943260506:=0
def tw3458614604446810271:=0
def tw3495179963902286923:=0
def tw3521275080697318361:=0
def tw3682905031576246705:=0
def tw372060160112285948:=0
def tw373463996740235267:=0
def tw3741969089941555415:=0
def tw3783248089660006304:=0
def tw3959187870981846043:=0
def tw3960323654368976408:=0
def tw4024614096050432522:=0
def tw4087858781367865373:=0
def tw4159932547268922361:=0
def tw4284599940793174130:=0
def tw4364386175889624016:=0
def tw4380699537263608423:=0
def tw4394981003226121168:=0
def tw4408160209451488380:=0
def tw4429466040341735774:=0
def tw4482209443468866397:=0
def tw448903873105830896:=0
def tw4506357808566990081:=0
def tw456245067130492932:=0
def tw4580815203404636300:=0
def tw4606661706369886360:=0
def tw4641578021082136706:=0
def tw4722688755645626553:=0
def tw4751821918108818229:=0
def tw4755195338111053833:=0
def tw4817031210444740604:=0
def tw488259571189309904:=0
def tw4885520411087777491:=0
def tw4922965755850413036:=0
def tw4956124062494873230:=0
def tw4961954807801295127:=0
def tw4972496049592495020:=0
def tw50692148902047160:=0
def tw5091058141405696737:=0
def tw520268875450403018:=0
def tw5204135760273017798:=0
def tw5247014880778798020:=0
def tw5269289300751449130:=0
def tw5281725268211168401:=0
def tw5308233307889854273:=0
def tw5319254837559463646:=0
def tw5356093972071348148:=0
def tw5469105547820272774:=0
def tw5483692736444053311:=0
def tw550496485842877179:=0
def tw5565248799851503136:=0
def tw5603346199080501090:=0
def tw5677734267104221657:=0
def tw5697330790273637143:=0
def tw5796930954667695933:=0
def tw5834802647022085566:=0
def tw5902026568413531653:=0
def tw5951451200440368592:=0
def tw6040231678115991124:=0
def tw6044133274048749106:=0
def tw6130440897712005030:=0
def tw6207728260882659041:=0
def tw6209594607448418983:=0
def tw62159601029089400:=0
def tw6217208087192923681:=0
def tw6277010820320930776:=0
def tw6316883466238797357:=0
def tw6327604328131354610:=0
def tw6371291739588641540:=0
def tw6378579599150630812:=0
def tw6381516955302153033:=0
def tw6450097193096304337:=0
def tw6469976035360074894:=0
def tw6482356081591197884:=0
def tw6553050800841758760:=0
def tw6554522184986007706:=0
def tw6562949476208513250:=0
def tw658798059440216675:=0
def tw66018364563174409:=0
def tw6658159566012210792:=0
def tw6724468054051390247:=0
def tw673478310879560704:=0
def tw6762816657216524778:=0
def tw6834885400266876401:=0
def tw6839194801743776731:=0
def tw6843124921733395164:=0
def tw6852916440410678193:=0
def tw6924574358778498634:=0
def tw7020744796249406823:=0
def tw716798496741021737:=0
def tw7183868908284826589:=0
def tw724738195099889236:=0
def tw7358529174313880043:=0
def tw7424261109498840126:=0
def tw7511094910985466653:=0
def tw7512107983960044174:=0
def tw7576236765544611435:=0
def tw7579197936865809589:=0
def tw7613710882433376179:=0
def tw7647221709820742570:=0
def tw7679061811140441472:=0
def tw772429504265515116:=0
def tw7735748805923011794:=0
def tw7765503593236226979:=0
def tw7778619734759599812:=0
def tw7838079935001005021:=0
def tw7848638822667988059:=0
def tw7858448101475558940:=0
def tw7911311169393330563:=0
def tw799069419717545244:=0
def tw8009035760775029074:=0
def tw8216292094264300092:=0
def tw8222046371728207863:=0
def tw8287320890445871916:=0
def tw8307164492067665807:=0
def tw8314421994232328585:=0
def tw8355109220121149208:=0
def tw8394186040335554505:=0
def tw8426124442986919020:=0
def tw8442730795862831591:=0
def tw8592607168212701899:=0
def tw8616333281886446979:=0
def tw8651503827296829928:=0
def tw8656416800021132077:=0
def tw8659655319263739350:=0
def tw8687021330141656844:=0
def tw8698259809582324602:=0
def tw8743077423708920004:=0
def tw875796408832891700:=0
def tw8768380978484853636:=0
def tw878241035397993906:=0
def tw8827668907949241110:=0
def tw8901124248619161463:=0
def tw8903486116505027986:=0
def tw8994450812036905745:=0
def tw899490042449248761:=0
def tw9023689597348129497:=0
def tw9053516716737095630:=0
def tw9088162873378625697:=0
def tw9114462292830976096:=0
def tw9162336311878463537:=0
def tw9192782723746737239:=0
def tw9272573504657810891:=0
def tw9321048355720411428:=0
def tw9322022673871105962:=0
def tw9349196938930300591:=0
def tw9371504509300220386:=0
def tw9461802592209939117:=0
def tw9528012662214200939:=0
def tw9530216817034169390:=0
def tw9800933574540526615:=0
def tw9815879120700272477:=0
def tw9875452623581459278:=0
def tw9885310844160213826:=0
def tw9993450404942775829:=0
end PySem.W.Fast
open PySem PySem.W PyProof.Rows
set_option maxRecDepth 100000 in
set_option maxHeartbeats 0 in
theorem PySem.Challenge.cw_evenform_k23_whole_tellings_by_exchange_holds : PySem.Challenge.rw_evenform_k23_whole_tellings_by_exchange.Holds := by
  w_on; o_law; k_head; (case hw => w_witness2)
  k_fill
  refine L2.K23.walk (l := PySem.Challenge.rw_evenform_k23_whole_tellings_by_exchange) rfl rfl (fun w h Y => PySem.W.kIn_of Y) ?F
  case F =>
    intro w mg fa h KX G hmg
    refine' L2.K23.all_mk KX G hmg ?a1 ?l1 ?c1 ?k1 ?a2 ?l2 ?c2 ?k2 ?a3 ?l3 ?c3 ?k3 ?a4 ?l4 ?c4 ?k4 ?a5 ?l5 ?c5 ?k5 ?a6 ?l6 ?c6 ?k6 ?a7 ?l7 ?c7 ?k7 ?a8 ?l8 ?c8 ?k8 ?a9 ?l9 ?c9 ?k9 ?a10 ?l10 ?c10 ?k10 ?a11 ?l11 ?c11 ?k11 ?a12 ?l12 ?c12 ?k12 ?a13 ?l13 ?c13 ?k13 ?a14 ?l14 ?c14 ?k14 ?a15 ?l15 ?c15 ?k15 ?a16 ?l16 ?c16 ?k16 ?a17 ?l17 ?c17 ?k17 ?a18 ?l18 ?c18 ?k18 ?a19 ?l19 ?c19 ?k19 ?a20 ?l20 ?c20 ?k20 ?a21 ?l21 ?c21 ?k21 ?a22 ?l22 ?c22 ?k22 ?a23 ?l23 ?c23 ?k23 ?a24 ?l24 ?c24 ?k24 ?a25 ?l25 ?c25 ?k25 ?a26 ?l26 ?c26 ?k26 ?a27 ?l27 ?c27 ?k27 ?a28 ?l28 ?c28 ?k28 ?a29 ?l29 ?c29 ?k29 ?a30 ?l30 ?c30 ?k30 ?a31 ?l31 ?c31 ?k31 ?g1 ?g2 ?y0 ?y1 ?y2 ?y3 ?y4 ?y5 ?y6 ?y7 ?y8 ?y9 ?y10 ?y11 ?y12 ?y13 ?x0 ?x3 ?x5 ?e0a ?e0b ?e0c ?e0d ?e0e ?v0 ?w0 ?n0 ?u0_0 ?u0_1 ?u0_2 ?u0_3 ?u0_4 ?u0_5 ?u0_6 ?u0_7 ?u0_8 ?u0_9 ?u0_10 ?u0_11 ?u0_12 ?e6a ?e6b ?e6c ?e6d ?e6e ?v6 ?w6 ?n6 ?u6_0 ?u6_1 ?u6_2 ?u6_3 ?u6_4 ?u6_5 ?u6_6 ?u6_7 ?u6_8 ?u6_9 ?u6_10 ?u6_11 ?u6_12 ?wE ?aI ?lI ?cI ?kI ?lC ?mC ?gC ?sC ?dC ?kC ?iC ?bC ?fI1 ?kC6 ?sa6 ?p1 ?p2 ?hd6 ?bi1 ?bi2 ?bi3 ?z1 ?z2 ?z3 ?z4 ?z5 ?z6 ?z7 ?z8 ?z9 ?z10 ?z11 ?z12 ?z13 ?z14
    (case a1 => k_is); (case l1 => k_is); (case c1 => k_is); (case k1 => k_is)
    (case a2 => k_is); (case l2 => k_is); (case c2 => k_is); (case k2 => k_is)
    (case a3 => k_is); (case l3 => k_is); (case c3 => k_is); (case k3 => k_is)
    (case a4 => k_is); (case l4 => k_is); (case c4 => k_is); (case k4 => k_is)
    (case a5 => k_is); (case l5 => k_is); (case c5 => k_is); (case k5 => k_is)
    (case a6 => k_is); (case l6 => k_is); (case c6 => k_is); (case k6 => k_is)
    (case a7 => k_is); (case l7 => k_is); (case c7 => k_is); (case k7 => k_is)
    (case a8 => k_is); (case l8 => k_is); (case c8 => k_is); (case k8 => k_is)
    (case a9 => k_is); (case l9 => k_is); (case c9 => k_is); (case k9 => k_is)
    (case a10 => k_is); (case l10 => k_is); (case c10 => k_is); (case k10 => k_is)
    (case a11 => k_is); (case l11 => k_is); (case c11 => k_is); (case k11 => k_is)
    (case a12 => k_is); (case l12 => k_is); (case c12 => k_is); (case k12 => k_is)
    (case a13 => k_is); (case l13 => k_is); (case c13 => k_is); (case k13 => k_is)
    (case a14 => k_is); (case l14 => k_is); (case c14 => k_is); (case k14 => k_is)
    (case a15 => k_is); (case l15 => k_is); (case c15 => k_is); (case k15 => k_is)
    (case a16 => k_is); (case l16 => k_is); (case c16 => k_is); (case k16 => k_is)
    (case a17 => k_is); (case l17 => k_is); (case c17 => k_is); (case k17 => k_is)
    (case a18 => k_is); (case l18 => k_is); (case c18 => k_is); (case k18 => k_is)
    (case a19 => k_is); (case l19 => k_is); (case c19 => k_is); (case k19 => k_is)
    (case a20 => k_is); (case l20 => k_is); (case c20 => k_is); (case k20 => k_is)
    (case a21 => k_is); (case l21 => k_is); (case c21 => k_is); (case k21 => k_is)
    (case a22 => k_is); (case l22 => k_is); (case c22 => k_is); (case k22 => k_is)
    (case a23 => k_is); (case l23 => k_is); (case c23 => k_is); (case k23 => k_is)
    (case a24 => k_is); (case l24 => k_is); (case c24 => k_is); (case k24 => k_is)
    (case a25 => k_is); (case l25 => k_is); (case c25 => k_is); (case k25 => k_is)
    (case a26 => k_is); (case l26 => k_is); (case c26 => k_is); (case k26 => k_is)
    (case a27 => k_is); (case l27 => k_is); (case c27 => k_is); (case k27 => k_is)
    (case a28 => k_is); (case l28 => k_is); (case c28 => k_is); (case k28 => k_is)
    (case a29 => k_is); (case l29 => k_is); (case c29 => k_is); (case k29 => k_is)
    (case a30 => k_is); (case l30 => k_is); (case c30 => k_is); (case k30 => k_is)
    (case a31 => k_is); (case l31 => k_is); (case c31 => k_is); (case k31 => k_is)
    (case g1 => k_is)
    (case g2 => k_is)
    (case y0 => k_is)
    (case y1 => k_is)
    (case y2 => k_is)
    (case y3 => k_is)
    (case y4 => k_is)
    (case y5 => k_is)
    (case y6 => k_is)
    (case y7 => k_is)
    (case y8 => k_is)
    (case y9 => k_is)
    (case y10 => k_is)
    (case y11 => k_is)
    (case y12 => k_is)
    (case y13 => k_is)
    (case x0 => k_exc)
    (case x3 => k_exc)
    (case x5 => k_exc)
    (case e0a => k_is)
    (case e0b => k_is)
    (case e0c => k_is)
    (case e0d => k_is)
    (case e0e => k_is)
    (case v0 => kit_is)
    (case w0 => kit_is)
    (case n0 => decide)
    (case u0_0 => kit_is)
    (case u0_1 => kit_is)
    (case u0_2 => kit_is)
    (case u0_3 => kit_is)
    (case u0_4 => kit_is)
    (case u0_5 => kit_is)
    (case u0_6 => kit_is)
    (case u0_7 => kit_is)
    (case u0_8 => kit_is)
    (case u0_9 => kit_is)
    (case u0_10 => kit_is)
    (case u0_11 => kit_is)
    (case u0_12 => kit_is)
    (case e6a => k_is)
    (case e6b => k_is)
    (case e6c => k_is)
    (case e6d => k_is)
    (case e6e => k_is)
    (case v6 => kit_is)
    (case w6 => kit_is)
    (case n6 => decide)
    (case u6_0 => kit_is)
    (case u6_1 => kit_is)
    (case u6_2 => kit_is)
    (case u6_3 => kit_is)
    (case u6_4 => kit_is)
    (case u6_5 => kit_is)
    (case u6_6 => kit_is)
    (case u6_7 => kit_is)
    (case u6_8 => kit_is)
    (case u6_9 => kit_is)
    (case u6_10 => kit_is)
    (case u6_11 => kit_is)
    (case u6_12 => kit_is)
    (case wE => kit_is)
    (case aI => k_is)
    (case lI => k_is)
    (case cI => k_is)
    (case kI => k_is)
    (case lC => k_is)
    (case mC => rfl)
    (case gC => exact ⟨rfl, rfl⟩)
    (case sC => (first | decide | rfl))
    (case dC => k_is)
    (case kC => rfl)
    (case iC => k_is)
    (case bC => k_exc)
    (case fI1 => k_is)
    (case kC6 => k_is)
    (case sa6 => k_is)
    (case p1 => k_is)
    (case p2 => k_is)
    (case hd6 => k_is)
    (case bi1 => k_is)
    (case bi2 => k_is)
    (case bi3 => k_is)
    (case z1 => k_is); (case z2 => k_is); (case z3 => k_is); (case z4 => k_is); (case z5 => k_is); (case z6 => k_is); (case z7 => k_is); (case z8 => k_is); (case z9 => k_is); (case z10 => k_is); (case z11 => k_is); (case z12 => k_is); (case z13 => k_is); (case z14 => k_is)
