import PyProof.Rows.All
import Wide.All
import OpenK.AllK
import Wide.FinOn
import Lean
import PyProof.EqAt
import PyProof.EqKinds
import PyProof.TupleCall
import KE.KSortTup
import KE.KLam
import KE.KNestM
import KE.KDictList
import KE.KRevIter
import PyProof.ExcArgsOwn
import PyProof.NsDelKeeps
import PyProof.WalksEnum
import PyProof.EnumMake
import PySem.Challenge.RW_idealroom_k20_pairs_looked_at
set_option Elab.async false
set_option linter.all false
set_option maxRecDepth 100000
namespace L2
open PySem PySem.Spec PyProof.Rows
abbrev Key:=Sum Int Str
def keyIs:Key->Value->Bool
 | .inl k,v=>Value.isInt k v
 | .inr x,v=>Value.isStrOf x v
def keyH(w:World):Key->Int
 | .inl k=>hashInt k
 | .inr x=>hashStr w x
theorem zba:∀{k:Key} {v:Value},keyIs k v=true->(∃i t,k=Sum.inl i/\v=Value.int i t)\/(∃x t,k=Sum.inr x/\v=Value.str x t)
 | .inl i,v,h=>by
  obtain⟨t,e⟩:=Value.isInt_shape (k:=i) (v:=v) h
  exact .inl ⟨i,t,rfl,e⟩
 | .inr x,v,h=>by
  obtain⟨t,e⟩:=Value.isStrOf_shape (x:=x) (v:=v) h
  exact .inr ⟨x,t,rfl,e⟩
theorem zl5(i:Int)(t:Tok):keyIs (.inl i) (.int i t)=true:=by simp[keyIs,Value.isInt]
theorem zkh(x:Str)(t:Tok):keyIs (.inr x) (.str x t)=true:=by simp[keyIs,Value.isStrOf]
theorem zqy(a b:Int):decide ((Sum.inl a:Key)=Sum.inl b)=(a == b):=by
 by_cases e:a=b
 ·subst e;simp
 ·have h:¬(Sum.inl a:Key)=Sum.inl b:=λq=>e (Sum.inl.inj q)
  rw[decide_eq_false h]
  exact(beq_eq_false_iff_ne.mpr e).symm
theorem zql(a b:Str):decide ((Sum.inr a:Key)=Sum.inr b)=decide (a=b):=by
 by_cases e:a=b
 ·subst e;simp
 ·have h:¬(Sum.inr a:Key)=Sum.inr b:=λq=>e (Sum.inr.inj q)
  rw[decide_eq_false h,decide_eq_false e]
theorem zqv(a:Int)(b:Str):decide ((Sum.inl a:Key)=Sum.inr b)=false:=decide_eq_false (λq=>nomatch q)
theorem zpy(a:Str)(b:Int):decide ((Sum.inr a:Key)=Sum.inl b)=false:=decide_eq_false (λq=>nomatch q)
def mixKind(prog:Program)(w:World):PySem.KeyKind prog w Key where
 is:=keyIs
 hash:=keyH w
 inj:=λv a b ha hb=>by
  rcases zba ha with⟨i,t,rfl,rfl⟩ | ⟨x,t,rfl,rfl⟩
  ·rcases zba hb with⟨j,u,rfl,e⟩ | ⟨y,u,rfl,e⟩
   ·injection e with e1 _;rw[e1]
   ·exact nomatch e
  ·rcases zba hb with⟨j,u,rfl,e⟩ | ⟨y,u,rfl,e⟩
   ·exact nomatch e
   ·injection e with e1 _;rw[e1]
 byValue:=λk v h=>by
  rcases zba h with⟨i,t,rfl,rfl⟩ | ⟨x,t,rfl,rfl⟩ <;> rfl
 pyHash:=λhv h=>by
  rcases zba hv with⟨i,t,rfl,rfl⟩ | ⟨x,t,rfl,rfl⟩
  ·exact wpAny_pyHash_int h
  ·exact wpAny_pyHash_str h
 eqBool:=λhu hv h=>by
  rcases zba hu with⟨i,t,rfl,rfl⟩ | ⟨x,t,rfl,rfl⟩
  ·rcases zba hv with⟨j,u,rfl,rfl⟩ | ⟨y,u,rfl,rfl⟩
   ·rw[zqy]at h;exact wpAny_eqBool_int h
   ·rw[zqv]at h;exact SeqAt.EqAt.int_str i t y u _ _ _ _ h
  ·rcases zba hv with⟨j,u,rfl,rfl⟩ | ⟨y,u,rfl,rfl⟩
   ·rw[zpy]at h;exact SeqAt.EqAt.str_int x t j u _ _ _ _ h
   ·rw[zql]at h;exact wpAny_eqBool_str h
 «strs»:=λk x t v h=>by
  rcases zba h with⟨i,u,rfl,e⟩ | ⟨y,u,rfl,e⟩
  ·exact nomatch e
  ·injection e with e1 _
   subst e1
   cases v <;> rfl
theorem zh4(prog:Program)(w:World)(i:Int)(t:Tok):(mixKind prog w).is (.inl i) (.int i t)=true:=zl5 i t
theorem zil(prog:Program)(w:World)(x:Str)(t:Tok):(mixKind prog w).is (.inr x) (.str x t)=true:=zkh x t
end L2
namespace L2
open PySem PySem.Spec PyProof.Rows
inductive V where
 | non | bl (b:Bool) | int (i:Int) | str (x:Str) | byt (b:Array UInt8) | flt (b:UInt64) | ref (a:Addr) | ty (n:String)
 deriving DecidableEq
def RelV:V->Value->Prop
 | .non,u=>u=Value.none
 | .bl b,u=>u=Value.bool b
 | .int i,u=>∃t,u=Value.int i t
 | .str x,u=>∃t,u=Value.str x t
 | .byt b,u=>∃t,u=Value.bytes b t
 | .flt b,u=>∃t,u=Value.float b t
 | .ref a,u=>u=Value.ref a
 | .ty n,u=>u=Value.type n
abbrev Vals:List V->List Value->Prop:=Paired RelV
theorem Vals.length{xs:List V}{us:List Value}(r:Vals xs us):xs.length=us.length:=Paired.length r
theorem Vals.get:∀{xs:List V} {us:List Value} {i:Nat} {x:V},Vals xs us->xs[i]? = some x->∃u,us[i]? = some u/\RelV x u
 | _,_,_,_,.nil,e=>by simp at e
 | _,_,0,_,.cons r _,e=>by simp at e;subst e;exact⟨_,rfl,r⟩
 | _,_,i + 1,x,.cons _ t,e=>by
  obtain⟨u,h1,h2⟩:=Vals.get (i:=i) (x:=x) t (by simpa using e)
  exact⟨u,by simpa using h1,h2⟩
theorem Vals.set{x:V}{u:Value}(r:RelV x u):∀{xs:List V} {us:List Value} (i:Nat),Vals xs us->Vals (xs.set i x) (us.set i u)
 | _,_,_,.nil => .nil
 | _,_,0,.cons _ t => .cons r t
 | _,_,i + 1,.cons q t => .cons q (Vals.set r i t)
theorem Vals.append:∀{xs ys:List V} {us ws:List Value},Vals xs us->Vals ys ws->Vals (xs ++ ys) (us ++ ws)
 | _,_,_,_,.nil,s=>s
 | _,_,_,_,.cons r t,s => .cons r (Vals.append t s)
theorem Vals.take:∀{xs:List V} {us:List Value} (n:Nat),Vals xs us->Vals (xs.take n) (us.take n)
 | _,_,0,_ => .nil
 | _,_,_ + 1,.nil => .nil
 | _,_,n + 1,.cons r t => .cons r (Vals.take n t)
theorem Vals.drop:∀{xs:List V} {us:List Value} (n:Nat),Vals xs us->Vals (xs.drop n) (us.drop n)
 | _,_,0,r=>r
 | _,_,_ + 1,.nil => .nil
 | _,_,n + 1,.cons _ t=>Vals.drop n t
def RelO:Option V->Option Value->Prop
 | some v,some u=>RelV v u
 | none,none=>True
 | _,_=>False
def KV{κ : Type}:List (κ×V)->List (κ×Value)->Prop:=Paired fun(p : κ×V) (q : κ×Value)=>p.1=q.1/\RelV p.2 q.2
def kV:Key->V
 | .inl i => .int i
 | .inr x => .str x
inductive HO where
  | lst (xs:List V)
  | tup (xs:List V)
  | dK (kvs:List (Key×V)) | dT (kvs:List (List Key×V))
  | set (S:Int->Bool) (n:Nat)
  | ins (C dx:Addr) (fs:List (Str×V))
  | own (x:Addr)
  | xd (fs:List (Str×V))
  | met (f x:Addr)
  | rng (lo hi:Int)
  | frz (o:Obj) (u:HO)
  | tbl (ps:Array Value)
  | ext (φ : Heap->Prop)
abbrev Hp:=Addr->Option HO
def upd(H:Hp)(a:Addr)(o:HO):Hp:=λb=>if b=a then some o else H b
theorem zaf{H:Hp}{a:Addr}{o:HO}:upd H a o a=some o:=by unfold upd;rw[if_pos rfl]
theorem zal{H:Hp}{a b:Addr}{o:HO}(h:b≠a):upd H a o b=H b:=by unfold upd;rw[if_neg h]
theorem zbk{H:Hp}{a b:Addr}{o u:HO}(h:H a=some o)(h':H b=some u)(d:o≠u):a≠b:=by
 intro e;subst e;rw[h]at h';exact d (Option.some.inj h')
theorem zao{H:Hp}{a b:Addr}{o:HO}(h:H a=some o)(h':H b=none):a≠b:=by
 intro e;subst e;rw[h]at h';cases h'
section
variable(P:Program)(w:World)
def ObjOk(H:Hp)(h:Heap)(a:Addr):HO->Prop
 | .lst xs=>xs.length<=sizeLine/\∃(its:List Value) (n:Nat),Vals xs its/\h.get? a=some { cls := .type "list",data := .seq its.toArray n }
 | .tup xs=>xs.length<=sizeLine/\∃its:List Value,Vals xs its/\IsTup h a its.toArray
 | .dK kvs=>kvs.length<=sizeLine/\(a == sysModules)=false/\∃vs,KV kvs vs/\h.DictOf (mixKind P w) a vs
 | .dT kvs=>kvs.length<=sizeLine/\(a == sysModules)=false/\∃xs:List (List Key×Addr×Value),
   Paired (fun(p:List Key×V) (q:List Key×Addr×Value)=>p.1=q.1/\H q.2.1=some (.tup (p.1.map kV))/\RelV p.2 q.2.2) kvs xs /\
   ∃o es ep,h.get? a=some o/\o.ExactDict/\o.data = .dict es ep/\es.toList=xs.map (entryOfKey (tupleKind (mixKind P w)))/\(xs.map (·.1)).Nodup
 | .set S n=>h.SetOf (intKind P w) a S n
 | .ins C dx fs=>H dx=some (.own a)/\fs.length<=1000/\dx≠a/\h.get? a=some (W.instObj C dx) /\
   ∃mA,h.Ns1 dx mA/\(∀f,RelO (fs.lookup f) (mA f))/\PySem.Within mA (fs.map (·.1))
 | .own _=>∃o,h.get? a=some o
 | .xd fs=>∃mA,h.Ns1 a mA/\∀f,RelO (fs.lookup f) (mA f)
 | .rng lo hi=>∃t u v,h.get? a=some { cls := .type "range",data := .fields #[.int lo t,.int hi u,.int 1 v] }
 | .frz o u=>h.get? a=some o/\ObjOk H h a u
 | .tbl ps=>h.get? a=some { cls := .none,data := .fields ps }
 | .met f x=>h.get? a=some (W.methodObj (.ref f) (.ref x))
 | .ext φ=>φ h/\(∃o,h.get? a=some o)/\∀h1 h2:Heap,φ h1->(∀o,h1.get? a=some o->h2.get? a=some o)->φ h2
def HOk(H:Hp)(h:Heap):Prop:=∀a o,H a=some o->ObjOk P w H h a o
end
section
variable{P:Program}{w:World}{H H':Hp}{h h':Heap}{a:Addr}{o:HO}
theorem ObjOk.lt(x:ObjOk P w H h a o):a < h.objs.size:=by
 cases o with
 | lst xs=>obtain⟨_,_,_,_,e⟩:=x;exact Heap.lt_size e
 | tup xs=>obtain⟨_,_,_,p⟩:=x;exact p.lt
 | dK kvs=>obtain⟨_,_,_,_,o,_,_,e,_⟩:=x;exact Heap.lt_size e
 | dT kvs=>obtain⟨_,_,_,_,o,_,_,e,_⟩:=x;exact Heap.lt_size e
 | set S n=>obtain⟨o,_,_,_,e,_⟩:=x;exact Heap.lt_size e
 | ins C dx fs=>obtain⟨_,_,_,e,_⟩:=x;exact Heap.lt_size e
 | own y=>obtain⟨_,e⟩:=x;exact Heap.lt_size e
 | xd fs=>obtain⟨_,⟨_,_,_,e,_⟩,_⟩:=x;exact Heap.lt_size e
 | rng lo hi=>obtain⟨_,_,_,e⟩:=x;exact Heap.lt_size e
 | frz ob u=>obtain⟨e,_⟩:=x;exact Heap.lt_size e
 | tbl ps=>exact Heap.lt_size (show h.get? a=some _ from x)
 | met f y=>exact Heap.lt_size (show h.get? a=some _ from x)
 | ext φ=>obtain⟨_,⟨_,e⟩,_⟩:=x;exact Heap.lt_size e
theorem Paired.mapP{α β : Type}{F G : α->β->Prop}:∀{l₁:List α} {l₂:List β},Paired F l₁ l₂->(∀a b,F a b->G a b)->Paired G l₁ l₂
 | _,_,.nil,_ => .nil
 | _,_,.cons r t,f => .cons (f _ _ r) (Paired.mapP t f)
theorem Paired.imp'{α β : Type}{F G : α->β->Prop}(f:∀a b,F a b->G a b){l₁:List α}{l₂:List β}(r:Paired F l₁ l₂):Paired G l₁ l₂:=Paired.mapP r f
theorem ObjOk.stay(x:ObjOk P w H h a o)(k:∀b u,(b=a\/H b=some (.own a))->h.get? b=some u->h'.get? b=some u)
  (ho:∀b,H b=some (.own a)->H' b=some (.own a)) (ht:∀b xs,H b=some (.tup xs)->H' b=some (.tup xs)):ObjOk P w H' h' a o:=by
 induction o with
 | lst xs=>obtain⟨z,its,n,r,e⟩:=x;exact⟨z,its,n,r,k _ _ (.inl rfl) e⟩
 | tup xs=>obtain⟨z,its,r,ob,e,c⟩:=x;exact⟨z,its,r,ob,k _ _ (.inl rfl) e,c⟩
 | dK kvs=>obtain⟨z,y,vs,r,ob,es,ep,e,c⟩:=x;exact⟨z,y,vs,r,ob,es,ep,k _ _ (.inl rfl) e,c⟩
 | dT kvs=>
  obtain⟨z,y,xs,r,ob,es,ep,e,c⟩:=x
  exact⟨z,y,xs,Paired.mapP r λp q z=>⟨z.1,ht _ _ z.2.1,z.2.2⟩,ob,es,ep,k _ _ (.inl rfl) e,c⟩
 | set S n=>obtain⟨ob,es,ep,t,e,c⟩:=x;exact⟨ob,es,ep,t,k _ _ (.inl rfl) e,c⟩
 | ins C dx fs=>
  obtain⟨d,z,ne,e,mA,⟨od,es,ep,e2,c⟩,r⟩:=x
  exact⟨ho _ d,z,ne,k _ _ (.inl rfl) e,mA,⟨od,es,ep,k _ _ (.inr d) e2,c⟩,r⟩
 | own y=>obtain⟨ob,e⟩:=x;exact⟨ob,k _ _ (.inl rfl) e⟩
 | xd fs=>obtain⟨mA,⟨od,es,ep,e,c⟩,r⟩:=x;exact⟨mA,⟨od,es,ep,k _ _ (.inl rfl) e,c⟩,r⟩
 | rng lo hi=>obtain⟨t,u,v,e⟩:=x;exact⟨t,u,v,k _ _ (.inl rfl) e⟩
 | frz ob u ih=>obtain⟨e,q⟩:=x;exact⟨k _ _ (.inl rfl) e,ih q⟩
 | tbl ps=>
  have e:h.get? a=some { cls := .none,data := .fields ps }:=x
  show h'.get? a=some { cls := .none,data := .fields ps }
  exact k a _ (.inl rfl) e
 | met f y=>
  have e:h.get? a=some (W.methodObj (.ref f) (.ref y)):=x
  show h'.get? a=some (W.methodObj (.ref f) (.ref y))
  exact k a _ (.inl rfl) e
 | ext φ=>obtain⟨p,⟨o,e⟩,st⟩:=x;exact⟨st _ _ p λo q=>k _ _ (.inl rfl) q,⟨o,k _ _ (.inl rfl) e⟩,st⟩
theorem HOk.lt(x:HOk P w H h)(e:H a=some o):a < h.objs.size:=(x a o e).lt
theorem HOk.fresh(x:HOk P w H h)(e:h.objs.size<=a):H a=none:=by
 cases q:H a with
 | none=>rfl
 | some u=>exact absurd (Nat.lt_of_lt_of_le (x.lt q) e) (Nat.lt_irrefl _)
theorem HOk.kept(x:HOk P w H h)(k:∀b u,h.get? b=some u->h'.get? b=some u):HOk P w H h':=λa o e=>
 (x a o e).stay (λb u _ q=>k b u q) (λ_ q=>q) λ_ _ q=>q
theorem HOk.laid(x:HOk P w H h)(k:∀b u,h.get? b=some u->h'.get? b=some u)(hp:h.objs.size<=a)(new:ObjOk P w (upd H a o) h' a o):HOk P w (upd H a o) h':=λb u e=>by
 have hn:=x.fresh hp
 by_cases hb:b=a
 ·subst hb;rw[zaf]at e;cases e;exact new
 ·rw[zal hb]at e
  exact(x b u e).stay (λc v _ q=>k c v q) (λc q=>by rw[zal (zao q hn)];exact q) λc xs q=>by rw[zal (zao q hn)];exact q
end
def Rd(H:Hp)(a:Addr)(u:HO):Prop:=H a=some u\/∃o,H a=some (.frz o u)
theorem Rd.ok{P:Program}{w:World}{H:Hp}{h:Heap}{a:Addr}{u:HO}(r:Rd H a u)(x:HOk P w H h):ObjOk P w H h a u:=by
 rcases r with r | ⟨o,r⟩
 ·exact x a u r
 ·obtain⟨_,q⟩:=x a _ r
  exact q
def Mut:Option HO->Prop
 | some (.lst _)=>True
 | some (.dK _)=>True
 | some (.dT _)=>True
 | some (.set _ _)=>True
 | some (.ins _ _ _)=>True
 | some (.ext _)=>True
 | _=>False
section
variable{P:Program}{w:World}{H:Hp}{h h':Heap}{x e:Addr}{o':HO}
theorem HOk.write(ok:HOk P w H h)(mu:Mut (H x))(he:e=x\/H e=some (.own x))(k:∀b u,b≠e->h.get? b=some u->h'.get? b=some u)(heo:∃u,h'.get? e=some u)
  (new:ObjOk P w (upd H x o') h' x o'):HOk P w (upd H x o') h':=λb u q=>by
 have nown:∀c y,H c=some (.own y)->c≠x:=λc y r z=>by subst z;rw[r]at mu;exact mu
 have ntup:∀c xs,H c=some (.tup xs)->c≠x:=λc xs r z=>by subst z;rw[r]at mu;exact mu
 by_cases hb:b=x
 ·subst hb;rw[zaf]at q;cases q;exact new
 ·rw[zal hb]at q
  by_cases hbe:b=e
  ·have q':H b=some (.own x):=by
    rcases he with z | z
    ·exact absurd (hbe.trans z) hb
    ·rw[hbe];exact z
   rw[q]at q';cases q'
   obtain⟨v,hv⟩:=heo
   exact⟨v,by rw[hbe];exact hv⟩
  ·refine(ok b u q).stay (λc v hc r=>k c v ?_ r) (λc r=>by rw[zal (nown c b r)];exact r) λc xs r=>by rw[zal (ntup c xs r)];exact r
   rcases hc with rfl | hc
   ·exact hbe
   ·rintro rfl
    rcases he with z | z
    ·exact nown c b hc z
    ·rw[hc]at z;cases z;exact hb rfl
end
structure Un(fs ex:List Addr)(H H':Hp)(h h':Heap):Prop where
 keep:∀b o,h.get? b=some o->H b=none->b ∉ fs->b ∉ ex->h'.get? b=some o
 slot:∀b o,h.get? b=some o->H b=none->b∈fs->b ∉ ex->∃sl,h'.get? b=some { o with slots:=sl }
 free:∀b o,h.get? b=some o->H b=none->b ∉ ex->H' b=none
 there:∀b o,h.get? b=some o->b ∉ ex->∃o',h'.get? b=some o'
 tups:∀b xs,H b=some (.tup xs)->H' b=some (.tup xs)
 frzs:∀b o u,H b=some (.frz o u)->H' b=some (.frz o u)
 tbls:∀b ps,H b=some (.tbl ps)->∃more,H' b=some (.tbl (ps ++ more))
section
variable{fs fs' ex ex':List Addr}{H H1 H2:Hp}{h h1 h2 h':Heap}{a x e:Addr}{o:HO}
theorem Un.any(u:Un fs ex H H1 h h1){b:Addr}{ob:Obj}(q:h.get? b=some ob)(n:H b=none)(hx:b ∉ ex):∃sl,h1.get? b=some { ob with slots:=sl }:=by
 by_cases hb:b∈fs
 ·exact u.slot b ob q n hb hx
 ·exact⟨ob.slots,u.keep b ob q n hb hx⟩
theorem Un.kept(k:∀b u,h.get? b=some u->h'.get? b=some u):Un fs ex H H h h':=
 ⟨λb ob q _ _ _=>k b ob q,λb ob q _ _ _=>⟨ob.slots,k b ob q⟩,λ_ _ _ n _=>n,λb ob q _=>⟨ob,k b ob q⟩,λ_ _ q=>q,λ_ _ _ q=>q,λ_ ps q=>⟨#[],by rw[q];simp⟩⟩
theorem Un.refl:Un fs ex H H h h:=Un.kept λ_ _ q=>q
theorem Un.laid(k:∀b u,h.get? b=some u->h'.get? b=some u)(hp:h.objs.size<=a)(hn:H a=none):Un fs ex H (upd H a o) h h' where
 keep:=λb u q _ _ _=>k b u q
 slot:=λb u q _ _ _=>⟨u.slots,k b u q⟩
 free:=λb u q n _=>by rw[zal (Nat.ne_of_lt (Nat.lt_of_lt_of_le (Heap.lt_size q) hp))];exact n
 there:=λb u q _=>⟨u,k b u q⟩
 tups:=λb xs q=>by rw[zal (zao q hn)];exact q
 frzs:=λb u xs q=>by rw[zal (zao q hn)];exact q
 tbls:=λb ps q=>⟨#[],by rw[zal (zao q hn),q];simp⟩
theorem Un.write(mu:Mut (H x))(he:e=x\/H e=some (.own x))(k:∀b u,b≠e->h.get? b=some u->h'.get? b=some u)(heo:∃u,h'.get? e=some u):Un fs ex H (upd H x o) h h':=by
 have hx:∀b,H b=none->b≠x:=λb n z=>by subst z;rw[n]at mu;exact mu
 have hb:∀b,H b=none->b≠e:=λb n z=>by
  subst z
  rcases he with r | r
  ·exact hx b n r
  ·rw[n]at r;cases r
 have hm:∀b u,H b=some u->¬Mut (some u)->b≠x:=λb u q nm z=>by subst z;rw[q]at mu;exact nm mu
 refine⟨λb u q n _ _=>k b u (hb b n) q,λb u q n _ _=>⟨u.slots,k b u (hb b n) q⟩,λb u q n _=>by rw[zal (hx b n)];exact n,λb u q _ => ?_,
  λb xs q=>by rw[zal (hm b _ q λz=>z)];exact q,λb u xs q=>by rw[zal (hm b _ q λz=>z)];exact q,λb ps q=>⟨#[],by rw[zal (hm b _ q λz=>z),q];simp⟩⟩
 by_cases hbe:b=e
 ·subst hbe;exact heo
 ·exact⟨u,k b u hbe q⟩
end
def trk(h:Heap)(H:Hp):List Addr:=(List.range h.objs.size).filter λa=>(H a).isSome
def hidT(h:Heap)(H:Hp):Heap:=W.hideAll h (trk h H)
theorem zkz(h:Heap)(H:Hp):(hidT h H).objs.size=h.objs.size:=W.hideAll_size _ _
theorem znm{h:Heap}{H:Hp}{b:Addr}{o:Obj}(e:h.get? b=some o)(n:H b=none):(hidT h H).get? b=some o:=
 W.hideAll_get _ e λhm=>by
  have q:(H b).isSome=true:=(List.mem_filter.mp hm).2
  rw[n]at q;simp at q
theorem zpf{h:Heap}{H:Hp}{b:Addr}{o:Obj}(e:(hidT h H).get? b=some o):h.get? b=some o/\H b=none:=by
 have e':h.get? b=some o:=W.of_hideAll (trk h H) e
 refine⟨e',?_⟩
 cases q:H b with
 | none=>rfl
 | some x=>
  have hm:b∈trk h H:=List.mem_filter.mpr ⟨List.mem_range.mpr (Heap.lt_size e'),by simp[q]⟩
  have z:(hidT h H).get? b=none:=W.hideAll_none (trk h H) hm
  rw[z]at e;cases e
def allNews(g h:Heap)(L:Addr):List (Addr×Obj):=(List.range h.objs.size).filterMap λa=>if a=L\/(g.get? a).isSome=true then none else(h.get? a).map λo=>(a,o)
def rest(g h:Heap)(L d:Addr):List (Addr×Obj):=(allNews g h L).filter λp=>decide (p.1≠d)
end L2
namespace L2
open PySem PySem.Spec PyProof.Rows
structure Mod(K:W.Frag)(mg:Str->Option Value)(base:Heap):Prop where
 kin:K.In base
 glob:base.Ns mainGlobals mg
 blt:∃mb,base.Ns builtinsNs mb/\∀x:Str,x≠"__name__"->mb x=bootBuiltins x
 nolimit:base.NoLimit
structure Cx where
 prog:Program
 w:World
 K:W.Frag
 mg:Str->Option Value
 base:Heap
 A:Around
 N:List Str
 s₀:Shared
 H₀:Hp
 env:Env
 outer:List Env
 stack:List Env
 ex:List Addr
 fn:Str->Bool
 calm:Bool
 pn:List (Addr×Obj)
 xe:Value->Shared->Prop
def frs(l:List Env):List Addr:=l.filterMap (·.frame)
abbrev Cx.fs(X:Cx):List Addr:=frs X.outer
def Vis(sc:Scope)(x:Str):Prop:=sc.names.lookup x=some .local\/sc.names.lookup x=some .cell\/sc.names.lookup x=some .free
def Loc(sc:Scope)(x:Str):Prop:=sc.names.lookup x=some .local\/sc.names.lookup x=some .cell
def Look(env:Env)(h:Heap)(m:Str->Option Value)(x:Str)(u:Value):Prop:=
 (env.kindOf x=some .local/\m x=some u)\/((env.kindOf x=some .cell\/env.kindOf x=some .free)/\∃c,env.cells.lookup x=some c/\h.IsCell c (some u))
structure Cx.Ok(X:Cx):Prop where
 mod:Mod X.K X.mg X.base
 kind:X.env.scope.kind = .function
 glob:X.env.globals=mainGlobals
 blt:X.env.builtins=builtinsNs
 above:X.s₀.heap.objs.size<=X.env.locals
 inj:∀x y c,X.env.cells.lookup x=some c->X.env.cells.lookup y=some c->x=y
 has:∀x,(X.env.kindOf x=some .cell\/X.env.kindOf x=some .free)->∃c,X.env.cells.lookup x=some c
 cab:∀x c,X.fn x=true->X.env.cells.lookup x=some c->X.s₀.heap.objs.size<=c
 hd:X.calm=true->X.A.handled=none
 frames:X.A.frames=some X.stack
 stk:X.stack=X.outer\/(X.stack=X.env :: X.outer/\X.env.frame=some X.env.locals)
 exf:∀b∈X.ex,b≠X.env.locals/\∀x c,X.env.cells.lookup x=some c->c≠b
 bs:∀b o,X.base.get? b=some o->X.s₀.heap.get? b=some o/\X.H₀ b=none
 bsz:X.base.objs.size<=X.s₀.heap.objs.size
 noex:∀b o,X.base.get? b=some o->b ∉ X.ex
 exfs:∀b∈X.ex,b ∉ X.fs
 funs:X.s₀.heap.FunFrames X.base X.outer
 frf:∀b∈X.fs,X.H₀ b=none
structure Inv(X:Cx)(pins:List (Addr×Obj))(σ : List (Option V))(H:Hp)(s:Shared):Prop where
 ok:X.Ok
 os:s.os=X.s₀.os
 bare:AllBare s.gens
 base:Un X.fs X.ex X.H₀ H X.s₀.heap s.heap
 loc:∃m,s.heap.Ns X.env.locals m/\∀(i:Nat) (x:Str) (v:V),X.N[i]? = some x->σ[i]? = some (some v)->Vis X.env.scope x->∃u,RelV v u/\Look X.env s.heap m x u
 cell:∀x c,X.env.cells.lookup x=some c->∃v,s.heap.IsCell c v
 free:H X.env.locals=none
 freeC:∀x c,X.env.cells.lookup x=some c->H c=none
 pin:∀p∈X.pn ++ pins,s.heap.get? p.1=some p.2/\H p.1=none/\p.1≠X.env.locals/\p.1 ∉ X.fs/\∀v,p.2.data≠.cell v
 hok:HOk X.prog X.w H s.heap
 len : σ.length=X.N.length
section
variable{X:Cx}{pins:List (Addr×Obj)}{σ : List (Option V)}{H H':Hp}{s:Shared}{h':Heap}
theorem Cx.Ok.nofr(ok:X.Ok){b:Addr}{o:Obj}(e:X.base.get? b=some o):b ∉ X.fs:=λhb=>by
 have:=(ok.funs.mem hb).1
 rw[e]at this;cases this
theorem Inv.bs(I:Inv X pins σ H s):∀b o,X.base.get? b=some o->s.heap.get? b=some o/\H b=none:=λb o e=>
 ⟨I.base.keep b o (I.ok.bs b o e).1 (I.ok.bs b o e).2 (I.ok.nofr e) (I.ok.noex b o e),I.base.free b o (I.ok.bs b o e).1 (I.ok.bs b o e).2 (I.ok.noex b o e)⟩
theorem Inv.bk(I:Inv X pins σ H s):∀b o,X.base.get? b=some o->s.heap.get? b=some o:=λb o e=>(I.bs b o e).1
theorem Inv.mod(I:Inv X pins σ H s):Mod X.K X.mg X.base:=I.ok.mod
theorem Inv.kIn(I:Inv X pins σ H s):X.K.In s.heap:=I.ok.mod.kin.keeps I.bk
theorem Inv.nolimit(I:Inv X pins σ H s):s.heap.NoLimit:=I.ok.mod.nolimit.keeps I.bk
theorem Inv.lt(I:Inv X pins σ H s):X.env.locals < s.heap.objs.size:=let ⟨_,hn,_⟩:=I.loc;hn.lt
theorem Inv.sz(I:Inv X pins σ H s):X.s₀.heap.objs.size<=s.heap.objs.size:=Nat.le_trans I.ok.above (Nat.le_of_lt I.lt)
theorem Inv.nofs(I:Inv X pins σ H s){a:Addr}(h:s.heap.objs.size<=a):a ∉ X.fs:=λhb=>by
 obtain⟨_,o,ho,_⟩:=I.ok.funs.mem hb
 exact absurd (Nat.lt_of_lt_of_le (Heap.lt_size ho) (Nat.le_trans I.sz h)) (Nat.lt_irrefl _)
theorem Inv.cne(I:Inv X pins σ H s):∀x c,X.env.cells.lookup x=some c->c≠X.env.locals:=λx c e z=>by
 obtain⟨v,o,ho,hd⟩:=I.cell x c e
 obtain⟨m,⟨o',es,ep,ho',hd',_⟩,_⟩:=I.loc
 rw[z,ho']at ho;cases ho;rw[hd']at hd;cases hd
theorem Inv.funs(I:Inv X pins σ H s):s.heap.FunFrames X.base X.outer:=by
 have all:∀(l:List Env),(∀b∈frs l,b∈X.fs)->X.s₀.heap.FunFrames X.base l->s.heap.FunFrames X.base l:=by
  intro l
  induction l with
  | nil=>intro _ _;trivial
  | cons env r ih=>
   intro hs hl
   obtain⟨hk,⟨L,o,hf,hn,ho,hd⟩,hr⟩:=hl
   have hL:L∈X.fs:=hs L (by unfold frs;rw[List.filterMap_cons,hf];exact List.mem_cons_self)
   obtain⟨sl,e⟩:=I.base.slot L o ho (I.ok.frf L hL) hL λz=>I.ok.exfs L z hL
   exact⟨hk,⟨L,_,hf,hn,e,hd⟩,ih (λb hb=>hs b (by unfold frs;rw[List.filterMap_cons,hf];exact List.mem_cons_of_mem _ hb)) hr⟩
 exact all X.outer (λ_ hb=>hb) I.ok.funs
theorem Inv.stack(I:Inv X pins σ H s):s.heap.FunFrames X.base X.stack:=by
 rcases I.ok.stk with e | ⟨e,hf⟩
 ·rw[e];exact I.funs
 ·rw[e]
  obtain⟨m,hn,_⟩:=I.loc
  refine .cons (by rw[I.ok.kind];decide) hf hn ?_ I.funs
  exact Heap.get?_none_of_le (Nat.le_trans I.ok.bsz I.ok.above)
theorem Inv.stkSub(I:Inv X pins σ H s):∀b∈frs X.stack,b∈X.env.locals :: X.fs:=λb hb=>by
 rcases I.ok.stk with e | ⟨e,hf⟩
 ·rw[e]at hb;exact List.mem_cons_of_mem _ hb
 ·rw[e]at hb
  unfold frs at hb
  rw[List.filterMap_cons,hf]at hb
  exact hb
theorem Inv.stkFree(I:Inv X pins σ H s):∀b∈frs X.stack,H b=none:=λb hb=>by
 rcases List.mem_cons.mp (I.stkSub b hb) with e | hb
 ·rw[e];exact I.free
 ·obtain⟨_,o,ho,_⟩:=I.ok.funs.mem hb
  exact I.base.free b o ho (I.ok.frf b hb) λz=>I.ok.exfs b z hb
theorem Inv.step{g':Array GenState}{t':Nat}{d':Drawn}{ch:List Addr}(I:Inv X pins σ H s)
  (hch:∀b∈ch,(b∈X.ex\/X.s₀.heap.objs.size<=b)/\b≠X.env.locals/\(∀x c,X.env.cells.lookup x=some c->c≠b)/\∀p∈X.pn ++ pins,p.1≠b)
  (keep:∀b o,b≠X.env.locals->b ∉ X.fs->b ∉ ch->s.heap.get? b=some o->H b=none->h'.get? b=some o)
  (slot:∀b o,b≠X.env.locals->b∈X.fs->b ∉ ch->s.heap.get? b=some o->H b=none->∃sl,h'.get? b=some { o with slots:=sl }) (free:∀b o,b ∉ ch->s.heap.get? b=some o->H b=none->H' b=none)
  (there:∀b o,b ∉ ch->s.heap.get? b=some o->∃o',h'.get? b=some o')
  (tups:∀b xs,H b=some (.tup xs)->H' b=some (.tup xs)) (frzs:∀b o u,H b=some (.frz o u)->H' b=some (.frz o u)) (tbls:∀b ps,H b=some (.tbl ps)->∃more,H' b=some (.tbl (ps ++ more)))
  (ns:∀m,s.heap.Ns X.env.locals m->h'.Ns X.env.locals m) (hok:HOk X.prog X.w H' h') (hg:AllBare g') :
  Inv X pins σ H' { s with heap:=h',gens:=g',drawn:=d',toks:=t' }:=by
 have neL:∀b o,X.s₀.heap.get? b=some o->b≠X.env.locals:=λb o e=>Nat.ne_of_lt (Nat.lt_of_lt_of_le (Heap.lt_size e) I.ok.above)
 have neC:∀b o,X.s₀.heap.get? b=some o->b ∉ X.ex->b ∉ ch:=λb o e hx hb=>by
  rcases(hch b hb).1 with z | z
  ·exact hx z
  ·exact absurd (Nat.lt_of_lt_of_le (Heap.lt_size e) z) (Nat.lt_irrefl _)
 have cellK:∀x c,X.env.cells.lookup x=some c->∀v,s.heap.IsCell c v->h'.IsCell c v:=λx c e v ⟨o,ho,hd⟩=>by
  have nch:c ∉ ch:=λz=>(hch c z).2.2.1 x c e rfl
  by_cases hc:c∈X.fs
  ·obtain⟨sl,q⟩:=slot c o (I.cne x c e) hc nch ho (I.freeC x c e)
   exact⟨_,q,hd⟩
  ·exact⟨o,keep c o (I.cne x c e) hc nch ho (I.freeC x c e),hd⟩
 refine⟨I.ok,I.os,hg,⟨λb o e n hb hx => ?_,λb o e n hb hx => ?_,λb o e n hx => ?_,λb o e hx => ?_,λb xs e=>tups b xs (I.base.tups b xs e),λb o xs e=>frzs b o xs (I.base.frzs b o xs e),λb ps e => ?_⟩,?_,λx c e => ?_,?_,λx c e => ?_,λp hp => ?_,hok,I.len⟩
 ·exact keep b o (neL b o e) hb (neC b o e hx) (I.base.keep b o e n hb hx) (I.base.free b o e n hx)
 ·obtain⟨sl,e1⟩:=I.base.slot b o e n hb hx
  obtain⟨sl',e2⟩:=slot b _ (neL b o e) hb (neC b o e hx) e1 (I.base.free b o e n hx)
  exact⟨sl',e2⟩
 ·obtain⟨o',e1⟩:=I.base.there b o e hx
  exact free b o' (neC b o e hx) e1 (I.base.free b o e n hx)
 ·obtain⟨o',e1⟩:=I.base.there b o e hx
  exact there b o' (neC b o e hx) e1
 ·obtain⟨m1,e1⟩:=I.base.tbls b ps e
  obtain⟨m2,e2⟩:=tbls b _ e1
  exact⟨m1 ++ m2,by rw[e2,Array.append_assoc]⟩
 ·obtain⟨m,hn,hl⟩:=I.loc
  refine⟨m,ns m hn,λi x v e1 e2 e3 => ?_⟩
  obtain⟨u,r,l⟩:=hl i x v e1 e2 e3
  refine⟨u,r,?_⟩
  rcases l with l | ⟨k,c,e,z⟩
  ·exact .inl l
  ·exact .inr ⟨k,c,e,cellK x c e _ z⟩
 ·obtain⟨v,z⟩:=I.cell x c e
  exact⟨v,cellK x c e v z⟩
 ·obtain⟨m,⟨o,_,_,ho,_⟩,_⟩:=I.loc
  exact free _ o (λz=>(hch _ z).2.1 rfl) ho I.free
 ·obtain⟨v,o,ho,hd⟩:=I.cell x c e
  exact free c o (λz=>(hch c z).2.2.1 x c e rfl) ho (I.freeC x c e)
 ·obtain⟨e,n,ne,nf,d⟩:=I.pin p hp
  have nch:p.1 ∉ ch:=λz=>(hch p.1 z).2.2.2 p hp rfl
  exact⟨keep p.1 p.2 ne nf nch e n,free p.1 p.2 nch e n,ne,nf,d⟩
theorem Inv.un{t':Nat}(I:Inv X pins σ H s)(u:Un X.fs [] H H' s.heap h')(hok:HOk X.prog X.w H' h'):Inv X pins σ H' { s with heap:=h',toks:=t' }:=by
 obtain⟨m,⟨o,es,ep,ho,r⟩,_⟩:=id I.loc
 obtain⟨sl,hL⟩:=u.any ho I.free (by simp)
 exact I.step (g':=s.gens) (d':=s.drawn) (ch:=[]) (λ_ z=>nomatch z) (λb o _ hb _ e n=>u.keep b o e n hb (by simp)) (λb o _ hb _ e n=>u.slot b o e n hb (by simp)) (λb o _ e n=>u.free b o e n (by simp)) (λb o _ e=>u.there b o e (by simp)) u.tups u.frzs u.tbls (λm' hm=>by
  obtain⟨o',es',ep',ho',r'⟩:=hm
  rw[ho]at ho';cases ho'
  exact⟨_,es',ep',hL,r'⟩) hok I.bare
theorem Inv.call{g':Array GenState}{t':Nat}{d':Drawn}{ch:List Addr}(I:Inv X pins σ H s)(u:Un (frs X.stack) ch H H' s.heap h')(hok:HOk X.prog X.w H' h')(hg:AllBare g')
  (hch:∀b∈ch,(b∈X.ex\/X.s₀.heap.objs.size<=b)/\b≠X.env.locals/\(∀x c,X.env.cells.lookup x=some c->c≠b)/\∀p∈X.pn ++ pins,p.1≠b) :
  Inv X pins σ H' { s with heap:=h',gens:=g',drawn:=d',toks:=t' }:=by
 obtain⟨m,⟨o,es,ep,ho,r⟩,_⟩:=id I.loc
 obtain⟨sl,hL⟩:=u.any ho I.free λz=>(hch _ z).2.1 rfl
 exact I.step (ch:=ch) hch (λb o hL hb hc e n=>u.keep b o e n (λz=>(List.mem_cons.mp (I.stkSub b z)).elim hL hb) hc) (λb o _ _ hc e n=>u.any e n hc) (λb o hc e n=>u.free b o e n hc) (λb o hc e=>u.there b o e hc) u.tups u.frzs u.tbls (λm' hm=>by
  obtain⟨o',es',ep',ho',r'⟩:=hm
  rw[ho]at ho';cases ho'
  exact⟨_,es',ep',hL,r'⟩) hok hg
theorem Inv.turned{t':Nat}{it:Addr}(I:Inv X pins σ H s)(k:∀b o,b≠it->s.heap.get? b=some o->h'.get? b=some o)(hn:H it=none)(hL:it≠X.env.locals)
  (h1:it∈X.ex\/X.s₀.heap.objs.size<=it) (h2:∀x c,X.env.cells.lookup x=some c->c≠it) (h3:∀p∈X.pn ++ pins,p.1≠it):Inv X pins σ H { s with heap:=h',toks:=t' }:=by
 have nit:∀b u,H b=some u->b≠it:=λb u e z=>by rw[z,hn]at e;cases e
 refine I.step (g':=s.gens) (d':=s.drawn) (ch:=[it]) (λb hb => ?_) (λb o _ _ hc e _=>k b o (λz=>hc (by simp[z])) e) (λb o _ _ hc e _=>⟨o.slots,k b o (λz=>hc (by simp[z])) e⟩) (λ_ _ _ _ n=>n)
  (λb o hc e=>⟨o,k b o (λz=>hc (by simp[z])) e⟩) (λ_ _ e=>e) (λ_ _ _ e=>e) (λb ps e=>⟨#[],by rw[e];simp⟩) (λm hm => ?_) (λb u e => ?_) I.bare
 ·have e:b=it:=by simpa using hb
  subst e
  exact⟨h1,hL,h2,h3⟩
 ·obtain⟨o,es,ep,ho,r⟩:=hm
  exact⟨o,es,ep,k _ o (Ne.symm hL) ho,r⟩
 ·refine(I.hok b u e).stay (λc v hc q=>k c v ?_ q) (λ_ q=>q) λ_ _ q=>q
  rcases hc with z | z
  ·rw[z];exact nit b u e
  ·exact nit c _ z
theorem Inv.tok(I:Inv X pins σ H s)(t:Nat):Inv X pins σ H { s with toks:=t }:=I.un (h':=s.heap) (t':=t) Un.refl I.hok
theorem Inv.kept{t':Nat}(I:Inv X pins σ H s)(k:∀b u,s.heap.get? b=some u->h'.get? b=some u):Inv X pins σ H { s with heap:=h',toks:=t' }:=I.un (Un.kept k) (I.hok.kept k)
theorem Inv.laid{a:Addr}{o:HO}{t':Nat}(I:Inv X pins σ H s)(k:∀b u,s.heap.get? b=some u->h'.get? b=some u)(hp:s.heap.objs.size<=a)(new:ObjOk X.prog X.w (upd H a o) h' a o) :
  Inv X pins σ (upd H a o) { s with heap:=h',toks:=t' }:=I.un (Un.laid k hp (I.hok.fresh hp)) (I.hok.laid k hp new)
theorem Inv.write{x e:Addr}{o:HO}{t':Nat}(I:Inv X pins σ H s)(mu:Mut (H x))(he:e=x\/H e=some (.own x))(k:∀b u,b≠e->s.heap.get? b=some u->h'.get? b=some u)(heo:∃u,h'.get? e=some u)
  (new:ObjOk X.prog X.w (upd H x o) h' x o):Inv X pins σ (upd H x o) { s with heap:=h',toks:=t' }:=I.un (Un.write mu he k heo) (I.hok.write mu he k heo new)
theorem Inv.pins_of{pins':List (Addr×Obj)}(I:Inv X pins σ H s)(h:∀p∈pins',s.heap.get? p.1=some p.2/\H p.1=none/\p.1≠X.env.locals/\p.1 ∉ X.fs/\∀v,p.2.data≠.cell v):Inv X pins' σ H s:=
 ⟨I.ok,I.os,I.bare,I.base,I.loc,I.cell,I.free,I.freeC,λp hp=>(List.mem_append.mp hp).elim (λz=>I.pin p (List.mem_append_left _ z)) (h p),I.hok,I.len⟩
theorem zjj{N:List Str}(hN:N.Nodup){i j:Nat}{x:Str}(a:N[i]? = some x)(b:N[j]? = some x):i=j:=by
 obtain⟨h1,e1⟩:=List.getElem?_eq_some_iff.mp a
 obtain⟨h2,e2⟩:=List.getElem?_eq_some_iff.mp b
 exact(List.getElem_inj hN).mp (e1.trans e2.symm)
theorem zli{M:Model}{A:Around}{E:Value->Shared->Prop}{i:Nat}{x:Str}{v:V}{u:Value}{Q:Unit->Shared->Prop}(I:Inv X pins σ H s)(hN:X.N.Nodup)(hi:X.N[i]? = some x)(hx:Loc X.env.scope x)(r:RelV v u)
  (h:∀s',Inv X pins (σ.set i (some v)) H s'->(∃a,Heap.SameBut a s.heap s'.heap/\(a=X.env.locals\/X.env.cells.lookup x=some a))->Q () s') (hf:X.fn x=true\/X.env.scope.names.lookup x=some .local:=by first | exact .inl rfl | exact .inr rfl | assumption):wpAny M A (storeName X.env x u) Q E s:=by
 obtain⟨m,hn,hl⟩:=id I.loc
 have hcls:(X.env.scope.kind == .class || (X.env.scope.kind == .module && X.env.locals != X.env.globals))=false:=by rw[I.ok.kind];rfl
 have hiσ : i < σ.length:=by rw[I.len];exact(List.getElem?_eq_some_iff.mp hi).1
 have cne:=I.cne
 have tracked:∀{a:Addr} {h':Heap},(∃o,s.heap.get? a=some o/\H a=none)->Heap.SameBut a s.heap h'->HOk X.prog X.w H h':=fun{a h'} ha hs b ob e=>by
  obtain⟨_,_,hfree⟩:=ha
  refine(I.hok b ob e).stay (λc w' hc q=>(hs.2 c ?_).trans q) (λ_ q=>q) λ_ _ q=>q
  rintro rfl
  rcases hc with rfl | hc
  ·rw[hfree]at e;cases e
  ·rw[hfree]at hc;cases hc
 rcases hx with hk | hk
 ·refine wpAny_storeName_local hk hn (λh' hn' hs => ?_) hcls
  obtain⟨oL,_,_,hoL,_⟩:=id hn
  refine h _ ⟨I.ok,I.os,I.bare,⟨λb o e n hb hx => ?_,λb o e n hb hx => ?_,I.base.free,λb o e hx => ?_,I.base.tups,I.base.frzs,I.base.tbls⟩,⟨_,hn',λj y v' e1 e2 e3 => ?_⟩,λy c e => ?_,I.free,I.freeC,λp hp => ?_,tracked ⟨oL,hoL,I.free⟩ hs,by simpa using I.len⟩ ⟨_,hs,.inl rfl⟩
  ·exact(hs.2 b (Nat.ne_of_lt (Nat.lt_of_lt_of_le (Heap.lt_size e) I.ok.above))).trans (I.base.keep b o e n hb hx)
  ·obtain⟨sl,e1⟩:=I.base.slot b o e n hb hx
   exact⟨sl,(hs.2 b (Nat.ne_of_lt (Nat.lt_of_lt_of_le (Heap.lt_size e) I.ok.above))).trans e1⟩
  ·obtain⟨o',e1⟩:=I.base.there b o e hx
   exact⟨o',(hs.2 b (Nat.ne_of_lt (Nat.lt_of_lt_of_le (Heap.lt_size e) I.ok.above))).trans e1⟩
  ·by_cases hj:j=i
   ·subst hj
    rw[hi]at e1;cases e1
    rw[List.getElem?_set_self hiσ]at e2
    cases e2
    exact⟨u,r,.inl ⟨hk,by simp⟩⟩
   ·rw[List.getElem?_set_ne (Ne.symm hj)]at e2
    obtain⟨u',r',q⟩:=hl j y v' e1 e2 e3
    refine⟨u',r',?_⟩
    rcases q with⟨k,e⟩ | ⟨k,c,e,z⟩
    ·refine .inl ⟨k,?_⟩
     have:y≠x:=λe=>hj (zjj hN e1 (e ▸ hi))
     simp[this,e]
    ·exact .inr ⟨k,c,e,z.sameBut hs (cne y c e)⟩
  ·obtain⟨w',z⟩:=I.cell y c e
   exact⟨w',z.sameBut hs (cne y c e)⟩
  ·obtain⟨e,n,ne,nf,d⟩:=I.pin p hp
   exact⟨(hs.2 p.1 ne).trans e,n,ne,nf,d⟩
 ·have hfn:X.fn x=true:=by
   rcases hf with z | z
   ·exact z
   ·rw[z]at hk;cases hk
  obtain⟨c,hc⟩:=I.ok.has x (.inl hk)
  obtain⟨w',z⟩:=I.cell x c hc
  refine wpAny_storeName_cell I.ok.kind hk hc z (λh' hc' hs => ?_)
  obtain⟨oc,hoc,hocd⟩:=id z
  refine h { s with heap:=h' } ⟨I.ok,I.os,I.bare,⟨λb o e n hb hx => ?_,λb o e n hb hx => ?_,I.base.free,λb o e hx => ?_,I.base.tups,I.base.frzs,I.base.tbls⟩,⟨m,hn.sameBut hs (Ne.symm (cne x c hc)),λj y v' e1 e2 e3 => ?_⟩,λy c' e => ?_,I.free,I.freeC,λp hp => ?_,tracked ⟨oc,hoc,I.freeC x c hc⟩ hs,by simpa using I.len⟩ ⟨c,hs,.inr hc⟩
  ·exact(hs.2 b (Nat.ne_of_lt (Nat.lt_of_lt_of_le (Heap.lt_size e) (I.ok.cab x c hfn hc)))).trans (I.base.keep b o e n hb hx)
  ·obtain⟨sl,e1⟩:=I.base.slot b o e n hb hx
   exact⟨sl,(hs.2 b (Nat.ne_of_lt (Nat.lt_of_lt_of_le (Heap.lt_size e) (I.ok.cab x c hfn hc)))).trans e1⟩
  ·obtain⟨o',e1⟩:=I.base.there b o e hx
   exact⟨o',(hs.2 b (Nat.ne_of_lt (Nat.lt_of_lt_of_le (Heap.lt_size e) (I.ok.cab x c hfn hc)))).trans e1⟩
  ·by_cases hj:j=i
   ·subst hj
    rw[hi]at e1;cases e1
    rw[List.getElem?_set_self hiσ]at e2
    cases e2
    exact⟨u,r,.inr ⟨.inl hk,c,hc,hc'⟩⟩
   ·rw[List.getElem?_set_ne (Ne.symm hj)]at e2
    obtain⟨u',r',q⟩:=hl j y v' e1 e2 e3
    refine⟨u',r',?_⟩
    rcases q with q | ⟨k,c',e,z'⟩
    ·exact .inl q
    ·refine .inr ⟨k,c',e,z'.sameBut hs ?_⟩
     rintro rfl
     exact hj (zjj hN e1 (I.ok.inj _ _ _ e hc ▸ hi))
  ·by_cases hcc:c'=c
   ·subst hcc;exact⟨_,hc'⟩
   ·obtain⟨w2,z2⟩:=I.cell y c' e
    exact⟨w2,z2.sameBut hs hcc⟩
  ·obtain⟨e,n,ne,nf,d⟩:=I.pin p hp
   refine⟨(hs.2 p.1 ?_).trans e,n,ne,nf,d⟩
   intro q
   rw[q,hoc]at e
   have q':oc=p.2:=Option.some.inj e
   exact d w' (by rw[<- q'];exact hocd)
theorem zga{M:Model}{A:Around}{E:Value->Shared->Prop}{i:Nat}{x:Str}{v:V}{u:Value}{Q:Unit->Shared->Prop}(I:Inv X pins σ H s)(hN:X.N.Nodup)(hi:X.N[i]? = some x)(hx:Loc X.env.scope x)(r:RelV v u)
  (h:∀s',Inv X pins (σ.set i (some v)) H s'->Q () s') (hf:X.fn x=true\/X.env.scope.names.lookup x=some .local:=by first | exact .inl rfl | exact .inr rfl | assumption):wpAny M A (storeName X.env x u) Q E s:=
 zli I hN hi hx r (λs' I' _=>h s' I') hf
theorem Inv.call'{s':Shared}{ch:List Addr}(I:Inv X pins σ H s)(ho:s'.os=s.os)(u:Un (frs X.stack) ch H H' s.heap s'.heap)(hok:HOk X.prog X.w H' s'.heap)(hg:AllBare s'.gens)
  (hch:∀b∈ch,(b∈X.ex\/X.s₀.heap.objs.size<=b)/\b≠X.env.locals/\(∀x c,X.env.cells.lookup x=some c->c≠b)/\∀p∈X.pn ++ pins,p.1≠b):Inv X pins σ H' s':=by
 obtain⟨h',g',d',t',o'⟩:=s'
 have e:o'=s.os:=ho
 subst e
 exact I.call (g':=g') (t':=t') (d':=d') u hok hg hch
end
abbrev XK:=Value->Option Addr->Hp->Prop
abbrev St:=List (Option V)
abbrev VK:=V->Hp->Prop
abbrev TE:=St->Hp->VK->Prop
abbrev TT:=St->Hp->(Bool->Hp->Prop)->Prop
abbrev TA:=St->Hp->(List V->Hp->Prop)->Prop
structure Ends where
 nx:St->Hp->Prop
 rt:VK
 bk:St->Hp->Prop:=λ_ _=>False
 ct:St->Hp->Prop:=λ_ _=>False
abbrev TS:=Ends->St->Hp->Prop
def EP(X:Cx)(pins:List (Addr×Obj))(σ : St)(Q:VK)(u:Value)(s':Shared):Prop:=∃v H',Inv X pins σ H' s'/\RelV v u/\Q v H'
def TP(X:Cx)(pins:List (Addr×Obj))(σ : St)(Q:Bool->Hp->Prop)(b:Bool)(s':Shared):Prop:=∃H',Inv X pins σ H' s'/\Q b H'
def AP(X:Cx)(pins:List (Addr×Obj))(σ : St)(Q:List V->Hp->Prop)(us:List Value)(s':Shared):Prop:=∃vs H',Inv X pins σ H' s'/\Vals vs us/\Q vs H'
def SP(X:Cx)(pins:List (Addr×Obj))(D:Ends)(f:Flow)(s':Shared):Prop:=
 match f with
 | .next=>∃σ' H',Inv X pins σ' H' s'/\D.nx σ' H'
 | .brk=>∃σ' H',Inv X pins σ' H' s'/\D.bk σ' H'
 | .cont=>∃σ' H',Inv X pins σ' H' s'/\D.ct σ' H'
 | .ret u=>∃v σ' H',Inv X pins σ' H' s'/\RelV v u/\D.rt v H'
def PE(X:Cx)(e:Expr)(t:TE):Prop:=
 ∀(pins:List (Addr×Obj)) (s:Shared) (σ : St) (H:Hp) (Q:VK),Inv X pins σ H s->t σ H Q->wpAny (model X.prog X.w) X.A (eval e X.env) (EP X pins σ Q) X.xe s
def PT(X:Cx)(e:Expr)(t:TT):Prop:=
 ∀(pins:List (Addr×Obj)) (s:Shared) (σ : St) (H:Hp) (Q:Bool->Hp->Prop),Inv X pins σ H s->t σ H Q->wpAny (model X.prog X.w) X.A (isTrue e X.env (eval e X.env)) (TP X pins σ Q) X.xe s
def PW(X:Cx)(e:Expr)(t:TT):Prop:=
 ∀(whole:Sem Value) (pins:List (Addr×Obj)) (s:Shared) (σ : St) (H:Hp) (Q:Bool->Hp->Prop),Inv X pins σ H s->t σ H Q->wpAny (model X.prog X.w) X.A (isTrue e X.env whole) (TP X pins σ Q) X.xe s
theorem PW.pt{X:Cx}{e:Expr}{t:TT}(h:PW X e t):PT X e t:=h _
def PA(X:Cx)(es:List Expr)(t:TA):Prop:=
 ∀(pos:Pos) (pins:List (Addr×Obj)) (s:Shared) (σ : St) (H:Hp) (Q:List V->Hp->Prop),Inv X pins σ H s->t σ H Q->wpAny (model X.prog X.w) X.A (spliced (backTo pos (starEach es X.env))) (AP X pins σ Q) X.xe s
def PS(X:Cx)(st:Stmt)(t:TS):Prop:=
 ∀(pins:List (Addr×Obj)) (s:Shared) (σ : St) (H:Hp) (D:Ends),Inv X pins σ H s->t D σ H->wpAny (model X.prog X.w) X.A (exec st X.env) (SP X pins D) X.xe s
def PSs(X:Cx)(st:List Stmt)(t:TS):Prop:=
 ∀(pins:List (Addr×Obj)) (s:Shared) (σ : St) (H:Hp) (D:Ends),Inv X pins σ H s->t D σ H->wpAny (model X.prog X.w) X.A (execs st X.env) (SP X pins D) X.xe s
theorem thn{α : Type}{t:Sem α}{Q Q' : α->Shared->Prop}{M:Model}{A:Around}{E:Value->Shared->Prop}{s:Shared}(h:wpAny M A t Q E s)(hQ:∀a s,Q a s->Q' a s):wpAny M A t Q' E s:=wpAny_mono h hQ λ_ _ x=>x
end L2
namespace L2
open PySem PySem.Spec PyProof.Rows
section
variable{X:Cx}
def tVar(i:Nat):TE:=λσ H Q=>∃v,σ[i]? = some (some v)/\Q v H
def tC(v:V):TE:=λ_ H Q=>Q v H
theorem zp4{i:Nat}{x:Str}{pos:Pos}(hN:X.N[i]? = some x)(hv:Vis X.env.scope x)(hd:(x == ("__debug__" : Str))=false:=by decide)(hcd:(x == ("__classdict__" : Str))=false:=by decide):PE X (.Name x pos) (tVar i):=by
 intro pins s σ H Q I h
 obtain⟨v,e,h⟩:=h
 obtain⟨m,hn,hl⟩:=I.loc
 obtain⟨u,r,l⟩:=hl i x v hN e hv
 have fin:EP X pins σ Q u s:=⟨v,H,I,r,h⟩
 rcases l with⟨hk,hm⟩ | ⟨hk,c,hc,hcell⟩
 ·exact wpAny_Name (wpAny_loadName_local I.ok.kind hk hn hm fin) hd
 ·rcases hk with hk | hk
  ·exact wpAny_Name (wpAny_loadName_cell I.ok.kind hk hc hcell fin) hd
  ·exact wpAny_Name (wpAny_loadName_free I.ok.kind hk hc hcell fin hcd) hd
theorem zak{i j pos}:PE X (.Constant (.int i) j pos) (tC (.int i)):=λ_ _ _ H _ I h=>wpAny_Constant_int ⟨.int i,H,I.tok _,⟨_,rfl⟩,h⟩
theorem zes{b j pos}:PE X (.Constant (.bool b) j pos) (tC (.bl b)):=λ_ _ _ H _ I h=>Constant_bool ⟨.bl b,H,I,rfl,h⟩
theorem zhw{j pos}:PE X (.Constant .none j pos) (tC .non):=λ_ _ _ H _ I h=>Constant_none ⟨.non,H,I,rfl,h⟩
theorem zhh{x j pos}:PE X (.Constant (.str x) j pos) (tC (.str x)):=λ_ _ _ H _ I h=>Calls.Constant_str ⟨.str x,H,I.tok _,⟨_,rfl⟩,h⟩
def Gl(X:Cx)(x:Str):Prop:=X.env.kindOf x=some .globalImplicit
theorem zdy{E:Value->Shared->Prop}{pins:List (Addr×Obj)}{s:Shared}{σ : St}{H:Hp}{x:Str}{u:Value}{pos:Pos}{Q:Value->Shared->Prop}(I:Inv X pins σ H s)(hg:Gl X x)(hm:X.mg x=some u)(h:Q u s)
  (hd:(x == ("__debug__" : Str))=false:=by decide):wpAny (model X.prog X.w) X.A (eval (.Name x pos) X.env) Q E s:=
 Calls.Name_function_global I.ok.kind hg (Calls.loadGlobal_global (by rw[I.ok.glob];exact I.mod.glob.keeps I.bk) hm h) hd
theorem zdv{E:Value->Shared->Prop}{pins:List (Addr×Obj)}{s:Shared}{σ : St}{H:Hp}{x:Str}{u:Value}{pos:Pos}{Q:Value->Shared->Prop}(I:Inv X pins σ H s)(hg:Gl X x)(hm:X.mg x=none)(hv:bootBuiltins x=some u)(h:Q u s)
  (hn:x≠"__name__":=by decide) (hd:(x == ("__debug__" : Str))=false:=by decide):wpAny (model X.prog X.w) X.A (eval (.Name x pos) X.env) Q E s:=by
 obtain⟨mb,h1,h2⟩:=I.mod.blt
 exact Calls.Name_function_global I.ok.kind hg (Calls.loadGlobal_builtin (by rw[I.ok.glob];exact I.mod.glob.keeps I.bk) hm (by rw[I.ok.blt];exact h1.keeps I.bk) ((h2 x hn).trans hv) h) hd
theorem zl6{x:Str}{v:V}{u:Value}{pos:Pos}(hg:Gl X x)(hm:X.mg x=some u)(r:RelV v u)(hd:(x == ("__debug__" : Str))=false:=by decide):PE X (.Name x pos) (tC v):=
 λ_ _ _ H _ I h=>zdy I hg hm ⟨v,H,I,r,h⟩ hd
theorem zgb{x:Str}{v:V}{u:Value}{pos:Pos}(hg:Gl X x)(hm:X.mg x=none)(hv:bootBuiltins x=some u)(r:RelV v u)(hn:x≠"__name__":=by decide)(hd:(x == ("__debug__" : Str))=false:=by decide):PE X (.Name x pos) (tC v):=
 λ_ _ _ H _ I h=>zdv I hg hm hv ⟨v,H,I,r,h⟩ hn hd
def t2I(ta tb:TE)(k:Int->Int->Hp->Prop):St->Hp->Prop:=λσ H=>ta σ H λx H1=>tb σ H1 λy H2=>∃i j,x = .int i/\y = .int j/\k i j H2
def tAdd(ta tb:TE):TE:=λσ H Q=>t2I ta tb (λi j H2=>Q (.int (i + j)) H2) σ H
def tSub(ta tb:TE):TE:=λσ H Q=>t2I ta tb (λi j H2=>Q (.int (i - j)) H2) σ H
def tMul(ta tb:TE):TE:=λσ H Q=>t2I ta tb (λi j H2=>(-(2 ^ 64) < i/\i < 2 ^ 64)/\Q (.int (i * j)) H2) σ H
variable{a b:Expr}{ta tb:TE}{pos:Pos}
def PC(X:Cx)(op:CmpOp)(a b:Expr)(t:TE):Prop:=
 ∀(pins:List (Addr×Obj)) (s:Shared) (σ : St) (H:Hp) (Q:VK),Inv X pins σ H s->t σ H Q ->
  wpAny (model X.prog X.w) X.A (eval a X.env) (λv s₁=>wpAny (model X.prog X.w) X.A (eval b X.env) (λu s₂=>wpAny (model X.prog X.w) X.A (compareOp op v u) (EP X pins σ Q) X.xe s₂) X.xe s₁) X.xe s
def tCmp(p:Int->Int->Bool)(ta tb:TE):TE:=λσ H Q=>t2I ta tb (λi j H2=>Q (.bl (p i j)) H2) σ H
abbrev tLt:TE->TE->TE:=tCmp λi j=>decide (i < j)
abbrev tLe:TE->TE->TE:=tCmp λi j=>decide (i<=j)
abbrev tGt:TE->TE->TE:=tCmp λi j=>decide (j < i)
abbrev tGe:TE->TE->TE:=tCmp λi j=>decide (j<=i)
abbrev tEqI:TE->TE->TE:=tCmp λi j=>decide (i=j)
abbrev tNeI:TE->TE->TE:=tCmp λi j => !decide (i=j)
def tIsN(ta:TE):TE:=λσ H Q=>ta σ H λx H1=>Q (.bl (decide (x = .non))) H1
def tNotN(ta:TE):TE:=λσ H Q=>ta σ H λx H1=>Q (.bl (!decide (x = .non))) H1
def tB(t:TE):TT:=λσ H Q=>t σ H λx H1=>∃c,x = .bl c/\Q c H1
theorem zdd{e:Expr}{t:TE}(h:PE X e t)(he:∀whole,isTrue e X.env whole=(do let v <- whole;standAt e.pos;holding [v] (truthy v)):=by intro _;rfl):PT X e (tB t):=by
 intro pins s σ H Q I hw
 refine isTrue_plain (thn (h pins s σ H _ I hw) λv s1 ⟨x,H1,I1,r1,q1⟩ => ?_) (he _)
 obtain⟨d,rfl,q⟩:=q1
 cases r1
 exact wpAny_truthy_bool ⟨H1,I1,q⟩
variable{tA tB':TT}{rest:List Expr}
def tAnd(t u:TT):TT:=λσ H Q=>t σ H λc H1=>if c=true then u σ H1 Q else Q false H1
def tOr(t u:TT):TT:=λσ H Q=>t σ H λc H1=>if c=true then Q true H1 else u σ H1 Q
def tNot(t:TT):TT:=λσ H Q=>t σ H λc H1=>Q (!c) H1
theorem zf6(ha:PT X a tA):PW X (.BoolOp .And [a] pos) tA:=by
 intro wh pins s σ H Q I h
 refine isTrue_and (thn (ha pins s σ H Q I h) λc s1 e => ?_)
 cases c with
 | true=>exact isTrue_and_nil e
 | false=>exact e
theorem zjd(ha:PT X a tA):PW X (.BoolOp .Or [a] pos) tA:=by
 intro wh pins s σ H Q I h
 refine isTrue_or (thn (ha pins s σ H Q I h) λc s1 e => ?_)
 cases c with
 | false=>exact isTrue_or_nil e
 | true=>exact e
theorem zfg(ha:PT X a tA)(hb:PW X (.BoolOp .And (b :: rest) pos) tB'):PW X (.BoolOp .And (a :: b :: rest) pos) (tAnd tA tB'):=by
 intro wh pins s σ H Q I h
 refine isTrue_and (thn (ha pins s σ H _ I h) λc s1 ⟨H1,I1,q1⟩ => ?_)
 cases c with
 | true=>exact hb wh pins s1 σ H1 Q I1 q1
 | false=>exact⟨H1,I1,q1⟩
theorem zii(ha:PT X a tA)(hb:PW X (.BoolOp .Or (b :: rest) pos) tB'):PW X (.BoolOp .Or (a :: b :: rest) pos) (tOr tA tB'):=by
 intro wh pins s σ H Q I h
 refine isTrue_or (thn (ha pins s σ H _ I h) λc s1 ⟨H1,I1,q1⟩ => ?_)
 cases c with
 | true=>exact⟨H1,I1,q1⟩
 | false=>exact hb wh pins s1 σ H1 Q I1 q1
theorem zfy(ha:PT X a tA):PT X (.UnaryOp .Not a pos) (tNot tA):=by
 intro pins s σ H Q I h
 exact isTrue_not (ha pins s σ H (λc H1=>Q (!c) H1) I h)
def tAndV(ta tb:TE):TE:=λσ H Q=>ta σ H λx H1=>∃c,x = .bl c/\if c=true then tb σ H1 Q else Q (.bl false) H1
def tOrV(ta tb:TE):TE:=λσ H Q=>ta σ H λx H1=>∃c,x = .bl c/\if c=true then Q (.bl true) H1 else tb σ H1 Q
def tNotV(ta:TE):TE:=λσ H Q=>ta σ H λx H1=>∃c,x = .bl c/\Q (.bl (!c)) H1
theorem zg6{op}{t:TE}(h:PE X a t):PE X (.BoolOp op [a] pos) t:=λpins s σ H Q I hw=>BoolOp_one (h pins s σ H Q I hw)
theorem zfu(ha:PE X a ta)(hb:PE X (.BoolOp .And (b :: rest) pos) tb):PE X (.BoolOp .And (a :: b :: rest) pos) (tAndV ta tb):=by
 intro pins s σ H Q I h
 refine BoolOp_and (thn (ha pins s σ H _ I h) λv s1 ⟨x,H1,I1,r1,q1⟩ => ?_)
 obtain⟨c,rfl,q1⟩:=q1
 cases r1
 refine wpAny_truthy_bool ?_
 cases c with
 | true=>exact hb pins s1 σ H1 Q I1 q1
 | false=>exact⟨.bl false,H1,I1,rfl,q1⟩
theorem zre(ha:PE X a ta)(hb:PE X (.BoolOp .Or (b :: rest) pos) tb):PE X (.BoolOp .Or (a :: b :: rest) pos) (tOrV ta tb):=by
 intro pins s σ H Q I h
 refine BoolOp_or (thn (ha pins s σ H _ I h) λv s1 ⟨x,H1,I1,r1,q1⟩ => ?_)
 obtain⟨c,rfl,q1⟩:=q1
 cases r1
 refine wpAny_truthy_bool ?_
 cases c with
 | false=>exact hb pins s1 σ H1 Q I1 q1
 | true=>exact⟨.bl true,H1,I1,rfl,q1⟩
theorem zq7(ha:PE X a ta):PE X (.UnaryOp .Not a pos) (tNotV ta):=by
 intro pins s σ H Q I h
 refine UnaryOp_ (thn (ha pins s σ H _ I h) λv s1 ⟨x,H1,I1,r1,q1⟩ => ?_)
 obtain⟨c,rfl,q1⟩:=q1
 cases r1
 exact not_of (wpAny_truthy_bool ⟨.bl (!c),H1,I1,rfl,q1⟩)
def tIf(t:TT)(ta tb:TE):TE:=λσ H Q=>t σ H λc H1=>if c=true then ta σ H1 Q else tb σ H1 Q
end
end L2
namespace L2
open PySem PySem.Spec PyProof.Rows
def SqL(K:W.Frag)(H:Hp)(a:Addr)(xs:List V):Prop:=
 Rd H a (.lst xs) \/
  ∃(o:Obj) (its:Array Value) (n:Nat),K.lookup a=some o/\o.cls = .type "list"/\o.dict=none/\o.data = .seq its n/\its.size<=sizeLine/\Vals xs its.toList
def SqT(K:W.Frag)(H:Hp)(a:Addr)(xs:List V):Prop:=
 Rd H a (.tup xs) \/
  ∃(o:Obj) (its:Array Value) (n:Nat),K.lookup a=some o/\o.cls = .type "tuple"/\o.data = .seq its n/\its.size<=sizeLine/\Vals xs its.toList
def absV:Value->Option V
 | .none=>some .non
 | .bool b=>some (.bl b)
 | .int i _=>some (.int i)
 | .str x _=>some (.str x)
 | .bytes b _=>some (.byt b)
 | .float b _=>some (.flt b)
 | .ref a=>some (.ref a)
 | .type n=>some (.ty n)
 | _=>none
theorem RelV.abs{x:V}{u:Value}(r:RelV x u):absV u=some x:=by
 cases x with
 | non=>cases r;rfl
 | bl _=>cases r;rfl
 | int _=>obtain⟨t,rfl⟩:=r;rfl
 | str _=>obtain⟨t,rfl⟩:=r;rfl
 | byt _=>obtain⟨t,rfl⟩:=r;rfl
 | flt _=>obtain⟨t,rfl⟩:=r;rfl
 | ref _=>cases r;rfl
 | ty _=>cases r;rfl
theorem RelV.inj{x y:V}{u:Value}(r:RelV x u)(q:RelV y u):x=y:=Option.some.inj (r.abs.symm.trans q.abs)
theorem Vals.inj:∀{xs ys:List V} {us:List Value},Vals xs us->Vals ys us->xs=ys
 | _,_,_,.nil,.nil=>rfl
 | _,_,_,.cons r t,.cons r' t'=>by rw[r.inj r',Vals.inj t t']
section
variable{X:Cx}{pins:List (Addr×Obj)}{σ : St}{H:Hp}{s:Shared}{a:Addr}{xs ys:List V}
theorem SqL.of{K:W.Frag}(h:H a=some (.lst xs)):SqL K H a xs := .inl (.inl h)
theorem SqT.of{K:W.Frag}(h:H a=some (.tup xs)):SqT K H a xs := .inl (.inl h)
theorem Inv.list(I:Inv X pins σ H s)(h:SqL X.K H a xs):∃its:List Value,Vals xs its/\PlainL s.heap a its.toArray/\xs.length<=sizeLine:=by
 rcases h with h | ⟨o,its,n,hk,hc,hd,hs,hz,r⟩
 ·obtain⟨z,its,n,r,e⟩:=h.ok I.hok
  exact⟨its,r,⟨_,n,e,rfl,rfl,rfl⟩,z⟩
 ·refine⟨its.toList,r,⟨o,n,I.kIn a o hk,hc,hd,by simpa using hs⟩,?_⟩
  have e:=r.length
  simp only[Array.length_toList]at e
  omega
theorem Inv.tuple(I:Inv X pins σ H s)(h:SqT X.K H a xs):∃its:List Value,Vals xs its/\IsTup s.heap a its.toArray/\xs.length<=sizeLine:=by
 rcases h with h | ⟨o,its,n,hk,hc,hs,hz,r⟩
 ·obtain⟨z,its,r,p⟩:=h.ok I.hok
  exact⟨its,r,p,z⟩
 ·refine⟨its.toList,r,⟨o,I.kIn a o hk,hc,n,by simpa using hs⟩,?_⟩
  have e:=r.length
  simp only[Array.length_toList]at e
  omega
theorem Inv.list_inj(I:Inv X pins σ H s)(h:SqL X.K H a xs)(h':SqL X.K H a ys):xs=ys:=by
 obtain⟨its,r,⟨o,n,e,_,_,d⟩,_⟩:=I.list h
 obtain⟨its',r',⟨o',n',e',_,_,d'⟩,_⟩:=I.list h'
 rw[e]at e';cases e'
 rw[d]at d'
 injection d' with d1 _
 have:its=its':=by simpa using congrArg Array.toList d1
 subst this
 exact r.inj r'
theorem Inv.tuple_inj(I:Inv X pins σ H s)(h:SqT X.K H a xs)(h':SqT X.K H a ys):xs=ys:=by
 obtain⟨its,r,⟨o,e,_,n,d⟩,_⟩:=I.tuple h
 obtain⟨its',r',⟨o',e',_,n',d'⟩,_⟩:=I.tuple h'
 rw[e]at e';cases e'
 rw[d]at d'
 injection d' with d1 _
 have:its=its':=by simpa using congrArg Array.toList d1
 subst this
 exact r.inj r'
end
abbrev Cx.wish(X:Cx)(E:Value->Shared->Prop):Cx:={ X with xe:=E }
abbrev Cx.nox(X:Cx):Cx:=X.wish λ_ _=>False
theorem Cx.Ok.wish{X:Cx}(ok:X.Ok)(E:Value->Shared->Prop):(X.wish E).Ok:=
 ⟨ok.mod,ok.kind,ok.glob,ok.blt,ok.above,ok.inj,ok.has,ok.cab,ok.hd,ok.frames,ok.stk,ok.exf,ok.bs,ok.bsz,ok.noex,ok.exfs,ok.funs,ok.frf⟩
theorem Cx.Ok.unwish{X:Cx}{E:Value->Shared->Prop}(ok:(X.wish E).Ok):X.Ok:=
 ⟨ok.mod,ok.kind,ok.glob,ok.blt,ok.above,ok.inj,ok.has,ok.cab,ok.hd,ok.frames,ok.stk,ok.exf,ok.bs,ok.bsz,ok.noex,ok.exfs,ok.funs,ok.frf⟩
section
variable{X:Cx}{pins:List (Addr×Obj)}{σ : St}{H:Hp}{s:Shared}{E:Value->Shared->Prop}
theorem Inv.wish(I:Inv X pins σ H s)(E:Value->Shared->Prop):Inv (X.wish E) pins σ H s:=⟨I.ok.wish E,I.os,I.bare,I.base,I.loc,I.cell,I.free,I.freeC,I.pin,I.hok,I.len⟩
theorem Inv.unwish(I:Inv (X.wish E) pins σ H s):Inv X pins σ H s:=⟨I.ok.unwish,I.os,I.bare,I.base,I.loc,I.cell,I.free,I.freeC,I.pin,I.hok,I.len⟩
theorem SP.unwish{D:Ends}{f:Flow}{s':Shared}(h:SP (X.wish E) pins D f s'):SP X pins D f s':=by
 cases f with
 | next=>obtain⟨σ',H',I,q⟩:=h;exact⟨σ',H',I.unwish,q⟩
 | brk=>obtain⟨σ',H',I,q⟩:=h;exact⟨σ',H',I.unwish,q⟩
 | cont=>obtain⟨σ',H',I,q⟩:=h;exact⟨σ',H',I.unwish,q⟩
 | ret u=>obtain⟨v,σ',H',I,r,q⟩:=h;exact⟨v,σ',H',I.unwish,r,q⟩
theorem PSs.nox{st:List Stmt}{t:TS}(h:PSs X.nox st t):PSs X st t:=λpins s σ H D I hw=>
 wpAny_mono (h pins s σ H D (I.wish _) hw) (λ_ _ q=>q.unwish) λ_ _ z=>False.elim z
end
section
variable{X:Cx}{st:Stmt}{rest:List Stmt}{t u:TS}{e:Expr}{te:TE}{pos:Pos}
def tNext:TS:=λD σ H=>D.nx σ H
def tSeq(t u:TS):TS:=λD σ H=>t { D with nx:=u D } σ H
theorem zaw:PSs X [] tNext:=λ_ _ σ H _ I h=>wpAny_execs_nil ⟨σ,H,I,h⟩
theorem zai(h1:PS X st t)(h2:PSs X rest u):PSs X (st :: rest) (tSeq t u):=by
 intro pins s σ H D I h
 refine wpAny_execs_cons (thn (h1 pins s σ H { D with nx:=u D } I h) λf s1 q => ?_)
 cases f with
 | next=>
  obtain⟨σ',H',I',q⟩:=q
  exact h2 pins s1 σ' H' D I' q
 | ret v=>exact q
 | brk=>exact q
 | cont=>exact q
theorem zaj(h1:PS X st t):PSs X [st] t:=by
 intro pins s σ H D I h
 refine wpAny_execs_cons (thn (h1 pins s σ H D I h) λf s1 q => ?_)
 cases f with
 | next=>exact wpAny_execs_nil q
 | ret v=>exact q
 | brk=>exact q
 | cont=>exact q
def tBreak:TS:=λD σ H=>D.bk σ H
def tCont:TS:=λD σ H=>D.ct σ H
theorem Inv.quiet{pins:List (Addr×Obj)}{σ : St}{H:Hp}{s:Shared}(I:Inv X pins σ H s):interactive X.env=false:=by simp[interactive,I.ok.kind]
def tDrop(te:TE):TS:=λD σ H=>te σ H λ_ H1=>D.nx σ H1
theorem zeh(he:PE X e te)(hs:swapsWith e none pos.line X.env=pure false:=by rfl):PS X (.Expr e pos) (tDrop te):=by
 intro pins s σ H D I h
 exact wpAny_Expr_any (thn (he pins s σ H _ I h) λv s1 ⟨x,H1,I1,r1,q1⟩=>⟨σ,H1,I1,q1⟩) I.quiet hs
def tRet(te:TE):TS:=λD σ H=>te σ H D.rt
theorem zas(he:PE X e te):PS X (.Return (some e) pos) (tRet te):=by
 intro pins s σ H D I h
 exact wpAny_Return_some (thn (he pins s σ H _ I h) λv s1 ⟨x,H1,I1,r1,q1⟩=>⟨x,σ,H1,I1,r1,q1⟩)
def tRetN:TS:=λD _ H=>D.rt .non H
def tIfS(c:TT)(t u:TS):TS:=λD σ H=>c σ H λb H1=>if b=true then t D σ H1 else u D σ H1
theorem zbs{c:Expr}{a b:List Stmt}{tc:TT}(hc:PT X c tc)(ha:PSs X a t)(hb:PSs X b u):PS X (.If c a b pos) (tIfS tc t u):=by
 intro pins s σ H D I h
 refine wpAny_If (thn (hc pins s σ H _ I h) λd s1 ⟨H1,I1,q1⟩ => ?_)
 cases d with
 | true=>exact ha pins s1 σ H1 D I1 q1
 | false=>exact hb pins s1 σ H1 D I1 q1
def tNever:TS:=λ_ _ _=>False
end
abbrev TG:=V->St->Hp->(St->Hp->Prop)->Prop
abbrev TGs:=List V->St->Hp->(St->Hp->Prop)->Prop
def PG(X:Cx)(target:Expr)(t:TG):Prop:=
 ∀(pins:List (Addr×Obj)) (s:Shared) (σ : St) (H:Hp) (v:V) (u:Value) (Q:St->Hp->Prop),Inv X pins σ H s->RelV v u->t v σ H Q ->
  wpAny (model X.prog X.w) X.A (assign target X.env u) (λ_ s'=>∃σ' H',Inv X pins σ' H' s'/\Q σ' H') X.xe s
def PGs(X:Cx)(ts:List Expr)(t:TGs):Prop:=
 ∀(pins:List (Addr×Obj)) (s:Shared) (σ : St) (H:Hp) (vs:List V) (us:List Value) (Q:St->Hp->Prop),Inv X pins σ H s->Vals vs us->t vs σ H Q ->
  wpAny (model X.prog X.w) X.A (assignInOrder ((assignEach ts X.env).map (·.2)) us) (λ_ s'=>∃σ' H',Inv X pins σ' H' s'/\Q σ' H') X.xe s
abbrev TSet:=V->V->V->Hp->(Hp->Prop)->Prop
def PSet(X:Cx)(t:TSet):Prop:=
 ∀(pins:List (Addr×Obj)) (s:Shared) (σ : St) (H:Hp) (o i v:V) (ov iv u:Value) (Q:Hp->Prop),Inv X pins σ H s->RelV o ov->RelV i iv->RelV v u->t o i v H Q ->
  wpAny (model X.prog X.w) X.A (setItem ov iv u) (λ_ s'=>∃H',Inv X pins σ H' s'/\Q H') X.xe s
abbrev TIp:=V->V->Hp->VK->Prop
def PIp(X:Cx)(op:Operator)(t:TIp):Prop:=
 ∀(pins:List (Addr×Obj)) (s:Shared) (σ : St) (H:Hp) (x y:V) (v u:Value) (Q:VK),Inv X pins σ H s->RelV x v->RelV y u->t x y H Q ->
  wpAny (model X.prog X.w) X.A (inplaceOp op v u) (EP X pins σ Q) X.xe s
section
variable{X:Cx}{pos:Pos}
def gName(i:Nat):TG:=λv σ H Q=>Q (σ.set i (some v)) H
theorem zbo{i:Nat}{x:Str}(hN:X.N.Nodup)(hi:X.N[i]? = some x)(hx:Loc X.env.scope x)(hf:X.fn x=true\/X.env.scope.names.lookup x=some .local:=by first | exact .inl rfl | exact .inr rfl | assumption):PG X (.Name x pos) (gName i):=by
 intro pins s σ H v u Q I r h
 exact wpAny_assign_Name (zga I hN hi hx r (λs' I'=>⟨_,H,I',h⟩) hf)
def gNil:TGs:=λvs σ H Q=>vs=[]/\Q σ H
def gCons(t:TG)(u:TGs):TGs:=λvs σ H Q=>∃v r,vs=v :: r/\t v σ H λσ' H'=>u r σ' H' Q
theorem zid:PGs X [] gNil:=by
 intro pins s σ H vs us Q I r h
 obtain⟨e,h⟩:=h
 subst e
 cases r
 exact assignInOrder_nil ⟨σ,H,I,h⟩
theorem zdt{e:Expr}{es:List Expr}{t:TG}{u:TGs}(h1:PG X e t)(h2:PGs X es u)
  (hs:(assignEach (e :: es) X.env).map (·.2)=assign e X.env :: (assignEach es X.env).map (·.2):=by rfl):PGs X (e :: es) (gCons t u):=by
 intro pins s σ H vs us Q I r h
 obtain⟨v,vr,e1,h⟩:=h
 subst e1
 cases r with
 | cons r rr=>
  rw[hs]
  refine assignInOrder_cons (thn (h1 pins s σ H _ _ _ I r h) λ_ s1 ⟨σ1,H1,I1,q1⟩ => ?_)
  exact h2 pins s1 σ1 H1 _ _ Q I1 rr q1
def gTup(K:W.Frag)(n:Nat)(t:TGs):TG:=λv σ H Q=>∃a xs,v = .ref a/\SqT K H a xs/\xs.length=n/\t xs σ H Q
theorem zkn{es:List Expr}{k:Nat}{t:TGs}{n:Nat}(hc:X.calm=true)(h:PGs X es t)
  (hn:(assignEach es X.env).length=n:=by rfl) (hst:(assignEach es X.env).findIdx? (·.1)=none:=by rfl):PG X (.Tuple es k pos) (gTup X.K n t):=by
 intro pins s σ H v u Q I r hw
 obtain⟨a,xs,e1,hq,hl,hw⟩:=hw
 subst e1
 cases r
 obtain⟨its,rv,ht,hz⟩:=I.tuple hq
 refine assign_Tuple_tuple (I.ok.hd hc) ht (by simp[hn,<- hl,rv.length]) hst λh' hx => ?_
 have I1:Inv X pins σ H { s with heap:=h' }:=I.kept (t':=s.toks) λb o e=>hx b o (Nat.ne_of_lt (Heap.lt_size e)) e
 exact h pins _ σ H xs _ Q I1 (by simpa using rv) hw
def gSub(to ti:TE)(t:TSet):TG:=λv σ H Q=>to σ H λo H1=>ti σ H1 λi H2=>t o i v H2 λH3=>Q σ H3
theorem zqj{o i:Expr}{to ti:TE}{t:TSet}(ho:PE X o to)(hi:PE X i ti)(hs:PSet X t)
  (ha:∀v,assign (.Subscript o i pos) X.env v=(do
   let ov <- holding [v] (eval o X.env)
   let iv <- holding [v,ov] (eval i X.env)
   standAt pos
   holding [v,ov,iv] (setItem ov iv v)
   release [v,ov,iv] []):=by intro _;rfl):PG X (.Subscript o i pos) (gSub to ti t):=by
 intro pins s σ H v u Q I r h
 rw[ha]
 refine wpAny_bind (wpAny_holding (thn (ho pins s σ H _ I h) λov s1 ⟨x,H1,I1,r1,q1⟩ => ?_))
 refine wpAny_bind (wpAny_holding (thn (hi pins s1 σ H1 _ I1 q1) λiv s2 ⟨y,H2,I2,r2,q2⟩ => ?_))
 refine wpAny_bind (wpAny_standAt (wpAny_bind (wpAny_holding (thn (hs pins s2 σ H2 x y v ov iv u _ I2 r1 r2 r q2) λ_ s3 ⟨H3,I3,q3⟩ => ?_))))
 exact wpAny_release ⟨σ,H3,I3,q3⟩
def tAsg(te:TE)(g:TG):TS:=λD σ H=>te σ H λx H1=>g x σ H1 D.nx
theorem zq8{tg e:Expr}{te:TE}{g:TG}(he:PE X e te)(hg:PG X tg g)(hs:swapsWithSole [tg] e pos.line X.env=pure false:=by rfl)(hw:swappedStores [tg] e X.env=pure none:=by rfl)
  (h1:(assignEach [tg] X.env).map (·.2)=[assign tg X.env]:=by rfl):PS X (.Assign [tg] e pos) (tAsg te g):=by
 intro pins s σ H D I h
 refine wpAny_Assign_stores (thn (he pins s σ H _ I h) λv s1 ⟨x,H1,I1,r1,q1⟩ => ?_) hs hw
 rw[h1]
 exact thn (hg pins s1 σ H1 x v _ I1 r1 q1) λ_ s2 q=>q
theorem zaz{i:Nat}{x:Str}{e:Expr}{te:TE}{pos':Pos}(hN:X.N.Nodup)(hi:X.N[i]? = some x)(hx:Loc X.env.scope x)(he:PE X e te)(hs:swapsWith e (some (.Name x pos')) pos.line X.env=pure false:=by rfl)(hf:X.fn x=true\/X.env.scope.names.lookup x=some .local:=by first | exact .inl rfl | exact .inr rfl | assumption) :
  PS X (.Assign [.Name x pos'] e pos) (tAsg te (gName i)):=by
 intro pins s σ H D I h
 refine wpAny_Assign_Name (thn (he pins s σ H _ I h) λv s1 ⟨y,H1,I1,r1,q1⟩ => ?_) hs
 exact zga I1 hN hi hx r1 (λs2 I2=>⟨_,H1,I2,q1⟩) hf
def tPar(i j:Nat)(ta:TA):TS:=λD σ H=>ta σ H λvs H1=>∃v w,vs=[v,w]/\D.nx ((σ.set i (some v)).set j (some w)) H1
def tAug(i:Nat)(te:TE)(ti:TIp):TS:=λD σ H=>∃x,σ[i]? = some (some x)/\te σ H λy H1=>ti x y H1 λz H2=>D.nx (σ.set i (some z)) H2
theorem zqo{i:Nat}{x:Str}{e:Expr}{te:TE}{op:Operator}{ti:TIp}{pos':Pos}(hN:X.N.Nodup)(hi:X.N[i]? = some x)(hx:Loc X.env.scope x)(he:PE X e te)(ho:PIp X op ti)(hf:X.fn x=true\/X.env.scope.names.lookup x=some .local:=by first | exact .inl rfl | exact .inr rfl | assumption) :
  PS X (.AugAssign (.Name x pos') op e pos) (tAug i te ti):=by
 intro pins s σ H D I h
 obtain⟨v,e1,h⟩:=h
 obtain⟨m,hn,hl⟩:=I.loc
 have vis:Vis X.env.scope x:=by rcases hx with k | k;exact .inl k;exact .inr (.inl k)
 obtain⟨u,r,l⟩:=hl i x v hi e1 vis
 refine wpAny_AugAssign_Name ?_
 have go:wpAny (model X.prog X.w) X.A (eval e X.env) (λw s₂=>wpAny (model X.prog X.w) X.A (inplaceOp op u w) (λr s₃=>wpAny (model X.prog X.w) X.A (storeName X.env x r) (λ_=>SP X pins D .next) X.xe s₃) X.xe s₂) X.xe s:=by
  refine thn (he pins s σ H _ I h) λw s1 ⟨y,H1,I1,r1,q1⟩ => ?_
  refine thn (ho pins s1 σ H1 v y u w _ I1 r r1 q1) λz s2 ⟨zv,H2,I2,r2,q2⟩ => ?_
  exact zga I2 hN hi hx r2 (λs3 I3=>⟨_,H2,I3,q2⟩) hf
 rcases l with⟨hk,hm⟩ | ⟨hk,c,hc,hcell⟩
 ·exact wpAny_loadName_local I.ok.kind hk hn hm go
 ·rcases hk with hk | hk
  ·exact wpAny_loadName_cell I.ok.kind hk hc hcell go
  ·rcases hx with k | k
   ·have:X.env.scope.names.lookup x=some .free:=hk
    rw[k]at this;cases this
   ·have:X.env.scope.names.lookup x=some .free:=hk
    rw[k]at this;cases this
def tAugS(to ti te:TE)(tget:V->V->Hp->VK->Prop)(tip:TIp)(tset:TSet):TS:=λD σ H=>to σ H λo H1=>ti σ H1 λi H2=>tget o i H2 λx H3=>te σ H3 λy H4=>tip x y H4 λz H5=>tset o i z H5 λH6=>D.nx σ H6
def PGet(X:Cx)(t:V->V->Hp->VK->Prop):Prop:=
 ∀(pins:List (Addr×Obj)) (s:Shared) (σ : St) (H:Hp) (o i:V) (ov iv:Value) (Q:VK),Inv X pins σ H s->RelV o ov->RelV i iv->t o i H Q ->
  wpAny (model X.prog X.w) X.A (getItem ov iv) (EP X pins σ Q) X.xe s
def ipI(f:Int->Int->Int):TIp:=λx y H Q=>∃i j,x = .int i/\y = .int j/\Q (.int (f i j)) H
theorem zp3:PIp X .Add (ipI λi j=>i + j):=by
 intro pins s σ H x y v u Q I r1 r2 h
 obtain⟨i,j,e1,e2,q⟩:=h
 subst e1;subst e2
 obtain⟨t,rfl⟩:=r1
 obtain⟨t',rfl⟩:=r2
 exact iadd_int ⟨.int _,H,I.tok _,⟨_,rfl⟩,q⟩
end
section
variable{X:Cx}{pos:Pos}
def tWhile(c:TT)(tb:TS):TS:=λD σ H=>∃W:Nat->St->Hp->Prop,(∃m,W m σ H)/\∀m σ H,W m σ H ->
 c σ H λb H1=>if b=true then ∃N:St->Hp->Prop,(∀σ' H',N σ' H'->∃m',m' < m/\W m' σ' H')/\tb { D with nx:=N,ct:=N,bk:=D.nx } σ H1 else D.nx σ H1
theorem zf5{c:Expr}{body:List Stmt}{tc:TT}{tb:TS}(hp:PassesOwn (model X.prog X.w) X.A X.env X.xe)(hc:PT X c tc)(hb:PSs X body tb):PS X (.While c body [] pos) (tWhile tc tb):=by
 intro pins s σ H D I h
 obtain⟨W,⟨m0,w0⟩,turn⟩:=h
 refine wpAny_While (codeAny_whileLoop (λn s'=>∃σ' H',Inv X pins σ' H' s'/\W n σ' H') ?_ m0 ⟨σ,H,I,w0⟩)
 rintro n s1 ⟨σ1,H1,I1,w1⟩
 refine wpAny_passesOwn hp (thn (hc pins s1 σ1 H1 _ I1 (turn n σ1 H1 w1)) λb s2 ⟨H2,I2,q2⟩ => ?_)
 cases b with
 | true=>
  obtain⟨N,hN,q2⟩:=q2
  rw[if_pos rfl]
  refine wpAny_passesOwn hp (thn (hb pins s2 σ1 H2 _ I2 q2) λf s3 q3 => ?_)
  cases f with
  | next=>
   obtain⟨σ3,H3,I3,n3⟩:=q3
   obtain⟨m',hm,w3⟩:=hN σ3 H3 n3
   exact⟨m',hm,σ3,H3,I3,w3⟩
  | cont=>
   obtain⟨σ3,H3,I3,n3⟩:=q3
   obtain⟨m',hm,w3⟩:=hN σ3 H3 n3
   exact⟨m',hm,σ3,H3,I3,w3⟩
  | brk=>exact q3
  | ret v=>exact q3
 | false=>
  rw[if_neg Bool.false_ne_true]
  exact wpAny_execs_nil ⟨σ1,H2,I2,q2⟩
end
structure It where
 go:Nat->Hp->Prop
 yld:Nat->Hp->V->Hp->Prop
 stop:Nat->Hp->Prop
def FpOk(X:Cx)(pins:List (Addr×Obj))(H:Hp)(b:Addr):Prop:=
 H b=none/\b≠X.env.locals/\b ∉ X.fs/\(b∈X.ex\/X.s₀.heap.objs.size<=b)/\(∀x c,X.env.cells.lookup x=some c->c≠b)/\∀p∈X.pn ++ pins,p.1≠b
theorem Inv.fpOk{X:Cx}{pins:List (Addr×Obj)}{σ : St}{H H':Hp}{s:Shared}{b:Addr}(I:Inv X pins σ H s)(hb:s.heap.objs.size<=b)(hn:H' b=none):FpOk X pins H' b:=by
 refine⟨hn,Nat.ne_of_gt (Nat.lt_of_lt_of_le I.lt hb),I.nofs hb,.inr (Nat.le_trans I.sz hb),λx c e z => ?_,λp hp z => ?_⟩
 ·obtain⟨v,q⟩:=I.cell x c e
  exact absurd (Nat.lt_of_lt_of_le q.lt (by rw[z];exact hb)) (Nat.lt_irrefl _)
 ·exact absurd (Nat.lt_of_lt_of_le (Heap.lt_size (I.pin p hp).1) (by rw[z];exact hb)) (Nat.lt_irrefl _)
structure Turn(P:Program)(w:World)(K:W.Frag)(tg:Expr)(J:It)(fp:List Addr)(it:Addr)(tn:Nat->Heap->Prop):Prop where
 mem:it∈fp
 obj:∀i h,tn i h->∀b∈fp,∃o,h.get? b=some o/\∀v,o.data≠.cell v
 keep:∀i h h',tn i h->(∀b∈fp,∀o,h.get? b=some o->h'.get? b=some o)->tn i h'
 item:∀(X:Cx),X.prog=P->X.w=w->X.K=K->X.calm=true->∀(i:Nat) (pins:List (Addr×Obj)) (s:Shared) (σ : St) (H:Hp) (E:Value->Shared->Prop),Inv X pins σ H s->(∀b∈fp,FpOk X pins H b)->tn i s.heap->J.go i H ->
  wpAny (model P w) X.A (pyNext (.ref it)) (λr s1=>∃u,r=some u /\
   wpAny (model P w) X.A (letOwnedTupleGo tg (.ref it) u) (λ_ s2=>∃x H',Inv X pins σ H' s2/\RelV x u/\J.yld i H x H'/\tn (i + 1) s2.heap/\∀b∈fp,H' b=none) E s1) E s
 done:∀(X:Cx),X.prog=P->X.w=w->X.K=K->X.calm=true->∀(i:Nat) (pins:List (Addr×Obj)) (s:Shared) (σ : St) (H:Hp) (E:Value->Shared->Prop),Inv X pins σ H s->(∀b∈fp,FpOk X pins H b)->tn i s.heap->J.stop i H ->
  wpAny (model P w) X.A (pyNext (.ref it)) (λr s1=>r=none/\Inv X pins σ H s1) E s
 self:∀(A:Around) (i:Nat) (s:Shared) (Q:Value->Shared->Prop) (E:Value->Shared->Prop),tn i s.heap->Q (.ref it) s->wpAny (model P w) A (pyIter (.ref it)) Q E s
abbrev TI:=St->Hp->(It->Hp->Prop)->Prop
def PIE(X:Cx)(pins:List (Addr×Obj))(σ : St)(tg:Expr)(R:It->Hp->Prop)(itv:Value)(s2:Shared):Prop:=
 ∃(it:Addr) (fp:List Addr) (tn:Nat->Heap->Prop) (J:It) (H':Hp),itv = .ref it/\Inv X pins σ H' s2/\Turn X.prog X.w X.K tg J fp it tn/\tn 0 s2.heap/\(∀b∈fp,FpOk X pins H' b)/\R J H'
def PI(X:Cx)(tg iter:Expr)(wi:TI):Prop:=
 ∀(pins:List (Addr×Obj)) (s:Shared) (σ : St) (H:Hp) (R:It->Hp->Prop),Inv X pins σ H s->wi σ H R ->
  wpAny (model X.prog X.w) X.A (eval iter X.env) (λv s1=>wpAny (model X.prog X.w) X.A (pyIter v) (PIE X pins σ tg R) X.xe s1) X.xe s
theorem znd{M:Model}{A:Around}{E:Value->Shared->Prop}{s:Shared}{tg:Expr}{it:Addr}{u:Value}{o:Obj}{n:String}{vs:Array Value}{Q:Unit->Shared->Prop}(ho:s.heap.get? it=some o)(hc:o.cls = .type n)(hd:o.data = .fields vs)
  (hn:["enumerate","zip","dict_itemiterator","dict_reverseitemiterator","odict_iterator","itertools.zip_longest","itertools.pairwise"].contains n=false) (hQ:Q () s):wpAny M A (letOwnedTupleGo tg (.ref it) u) Q E s:=by
 unfold letOwnedTupleGo
 cases tg <;> first
  | exact wpAny_pure hQ
  | (cases u <;> first
    | exact wpAny_pure hQ
    | (refine wpAny_bind (wpAny_load ho ?_)
       rw[hc,hd]
       show wpAny M A (if (["enumerate","zip","dict_itemiterator","dict_reverseitemiterator","odict_iterator","itertools.zip_longest","itertools.pairwise"].contains n && vs[0]? == some (rawInt _))=true then _ else _) Q E s
       rw[if_neg (by intro h;rw[hn,Bool.false_and]at h;cases h)]
       exact wpAny_pure hQ))
def Itl(K:W.Frag)(a:Addr):It:=
 ⟨λi H=>∃xs x,SqL K H a xs/\xs[i]? = some x,λi H x H'=>H'=H/\∀xs,SqL K H a xs->xs[i]? = some x,λi H=>∃xs,SqL K H a xs/\xs.length<=i⟩
def Itt(K:W.Frag)(a:Addr):It:=
 ⟨λi H=>∃xs x,SqT K H a xs/\xs[i]? = some x,λi H x H'=>H'=H/\∀xs,SqT K H a xs->xs[i]? = some x,λi H=>∃xs,SqT K H a xs/\xs.length<=i⟩
def Itr(lo:Int)(n:Nat):It:=⟨λi _=>i < n,λi H x H'=>H'=H/\x = .int (lo + i),λi _=>n<=i⟩
theorem zmb{P:Program}{w:World}{K:W.Frag}{tg:Expr}(a it:Addr):Turn P w K tg (Itl K a) [it] it (λi h=>h.IsListIter it a i) where
 mem:=by simp
 obj:=λi h st b hb=>by
  have e:b=it:=by simpa using hb
  subst e
  obtain⟨o,e,c,d⟩:=st
  exact⟨o,e,λv z=>by rw[d]at z;cases z⟩
 keep:=λi h h' st k=>st.at λo e=>k it (by simp) o e
 item:=by
  intro X hP hw hK hc i pins s σ H E I hf st hg
  subst hP hw hK
  obtain⟨xs,x,hq,hx⟩:=hg
  obtain⟨its,rv,p,hz⟩:=I.list hq
  obtain⟨u,hu,ru⟩:=rv.get hx
  obtain⟨f0,f1,f2,f3,f4,f5⟩:=hf it (by simp)
  refine wpAny_pyNext_list_item st p.isList (x:=u) (by simpa using hu) λh' st' sb => ?_
  have I1:Inv X pins σ H { s with heap:=h' }:=I.turned (t':=s.toks) (λb o hb e=>(sb.2 b hb).trans e) f0 f1 f3 f4 f5
  obtain⟨o,e,c,d⟩:=id st'
  exact⟨u,rfl,znd (s:={ s with heap:=h' }) e c d (by decide) ⟨x,H,I1,ru,⟨rfl,λys hy=>by rw[I.list_inj hy hq];exact hx⟩,st',λb hb=>(hf b hb).1⟩⟩
 done:=by
  intro X hP hw hK hc i pins s σ H E I hf st hg
  subst hP hw hK
  obtain⟨xs,hq,hx⟩:=hg
  obtain⟨its,rv,p,hz⟩:=I.list hq
  obtain⟨f0,f1,f2,f3,f4,f5⟩:=hf it (by simp)
  have hl:=rv.length
  exact wpAny_pyNext_list_end (I.ok.hd hc) st p.isList (by simp;omega) λh' eb=>⟨rfl,I.turned (t':=s.toks) (λb o hb e=>eb b o hb e) f0 f1 f3 f4 f5⟩
 self:=λ_ _ _ _ _ st h=>wpAny_pyIter_listiter st h
theorem zj8{P:Program}{w:World}{K:W.Frag}{tg:Expr}(it:Addr)(lo:Int)(n:Nat):Turn P w K tg (Itr lo n) [it] it (λi h=>IsRangeIter h it (lo + (i:Nat) * 1) ((n:Int) - (i:Nat)) 1) where
 mem:=by simp
 obj:=λi h st b hb=>by
  have e:b=it:=by simpa using hb
  subst e
  exact⟨_,st,λv z=>by
   have z':Data.fields _=Data.cell v:=z
   cases z'⟩
 keep:=λi h h' st k=>k it (by simp) _ st
 item:=by
  intro X hP hw hK hc i pins s σ H E I hf st hg
  subst hP hw hK
  obtain⟨f0,f1,f2,f3,f4,f5⟩:=hf it (by simp)
  have W:=Walks.range (prog:=X.prog) (w:=X.w) (I.ok.hd hc) it lo 1 n
  refine W.item i s _ _ hg st λv h' tk hv st' kk => ?_
  obtain⟨t,rfl⟩:=hv
  have I1:Inv X pins σ H { s with heap:=h',toks:=tk }:=I.turned (λb o hb e=>kk b o (by simpa using hb) e) f0 f1 f3 f4 f5
  refine⟨_,rfl,znd (s:={ s with heap:=h',toks:=tk }) (n:="range_iterator") st' rfl rfl (by decide) ⟨.int (lo + i),H,I1,⟨t,?_⟩,⟨rfl,rfl⟩,st',λb hb=>(hf b hb).1⟩⟩
  rw[Int.mul_one]
 done:=by
  intro X hP hw hK hc i pins s σ H E I hf st hg
  subst hP hw hK
  obtain⟨f0,f1,f2,f3,f4,f5⟩:=hf it (by simp)
  exact wpAny_pyNext_range_end (I.ok.hd hc) st (by have:n<=i:=hg;omega) λh' eb=>⟨rfl,I.turned (t':=s.toks) (λb o hb e=>eb b o hb e) f0 f1 f3 f4 f5⟩
 self:=λ_ _ _ _ _ st h=>wpAny_pyIter_rangeiter st h
end L2
namespace L2
open PySem PySem.Spec PyProof.Rows
section
variable{X:Cx}{tg:Expr}
def iList(K:W.Frag)(tl:TE):TI:=λσ H R=>tl σ H λx H1=>∃a,x = .ref a/\(∃xs,SqL K H1 a xs)/\R (Itl K a) H1
def iTup(K:W.Frag)(tl:TE):TI:=λσ H R=>tl σ H λx H1=>∃a,x = .ref a/\(∃xs,SqT K H1 a xs)/\R (Itt K a) H1
theorem zps{l:Expr}{tl:TE}(hl:PE X l tl):PI X tg l (iList X.K tl):=by
 intro pins s σ H R I h
 refine thn (hl pins s σ H _ I h) λv s1 ⟨x,H1,I1,r1,q1⟩ => ?_
 obtain⟨a,e,⟨xs,hq⟩,q⟩:=q1
 subst e
 cases r1
 obtain⟨its,rv,p,hz⟩:=I1.list hq
 refine wpAny_pyIter_list p.isList ?_
 refine⟨s1.heap.objs.size,[s1.heap.objs.size],_,_,H1,rfl,I1.kept (t':=s1.toks) λb o e=>Heap.get?_push_of_some _ e,zmb a _,⟨_,Heap.get?_push_size _ rfl,rfl,rfl⟩,λb hb => ?_,q⟩
 have e:b=s1.heap.objs.size:=by simpa using hb
 subst e
 exact I1.fpOk (Nat.le_refl _) (I1.hok.fresh (Nat.le_refl _))
theorem zi2{pins:List (Addr×Obj)}{σ : St}{H:Hp}{s:Shared}{R:It->Hp->Prop}{E:Value->Shared->Prop}{lo hi:Int}{t u v:Tok}{tk:Nat}(I:Inv X pins σ H s)(h1 : -(2 ^ 62)<=lo)(h2:lo < 2 ^ 62)(h3 : -(2 ^ 62)<=hi)(h4:hi < 2 ^ 62)
  (q:R (Itr lo (hi - lo).toNat) H):wpAny (model X.prog X.w) X.A (pyIter (.ref s.heap.objs.size)) (PIE X pins σ tg R) E { s with heap:=s.heap.push { cls := .type "range",data := .fields #[.int lo t,.int hi u,.int 1 v] },toks:=tk }:=by
 refine wpAny_pyIter_range (IsRange.new ..) (small_one h1 h2 h3 h4) ?_
 have I1:Inv X pins σ H { s with heap:=s.heap.push { cls := .type "range",data := .fields #[.int lo t,.int hi u,.int 1 v] },toks:=tk }:=I.kept λb o e=>Heap.get?_push_of_some _ e
 refine⟨(s.heap.push { cls := .type "range",data := .fields #[.int lo t,.int hi u,.int 1 v] }).objs.size,[(s.heap.push { cls := .type "range",data := .fields #[.int lo t,.int hi u,.int 1 v] }).objs.size],_,_,H,rfl,
  I1.kept (t':=tk) λb o e=>Heap.get?_push_of_some _ e,zj8 _ lo (hi - lo).toNat,?_,λb hb => ?_,q⟩
 ·have e1:lo + ((0:Nat):Int) * 1=lo:=by simp
  have e2:(((hi - lo).toNat:Nat):Int) - ((0:Nat):Int)=Builtin.Range.rangeSize lo hi 1:=by rw[rangeSize_one];split <;> omega
  show IsRangeIter _ _ (lo + ((0:Nat):Int) * 1) ((((hi - lo).toNat:Nat):Int) - ((0:Nat):Int)) 1
  rw[e1,e2]
  exact Heap.get?_push_size _ rfl
 ·have e:b=(s.heap.push { cls := .type "range",data := .fields #[.int lo t,.int hi u,.int 1 v] }).objs.size:=by simpa using hb
  subst e
  exact I1.fpOk (Nat.le_refl _) (I1.hok.fresh (Nat.le_refl _))
def iRng1(ta:TA):TI:=λσ H R=>ta σ H λvs H1=>∃j:Int,vs=[.int j]/\-(2 ^ 62)<=j/\j < 2 ^ 62/\R (Itr 0 j.toNat) H1
def iRng2(ta:TA):TI:=λσ H R=>ta σ H λvs H1=>∃i j:Int,vs=[.int i,.int j]/\(-(2 ^ 62)<=i/\i < 2 ^ 62/\-(2 ^ 62)<=j/\j < 2 ^ 62)/\R (Itr i (j - i).toNat) H1
theorem zcn{a:Expr}{ta:TA}{p pos:Pos}(hg:Gl X "range")(hm:X.mg "range" = none)(ha:PA X [a] ta)(hs:starEach [a] X.env=[(false,eval a X.env)]:=by rfl):PI X tg (.Call (.Name "range" p) [a] [] pos) (iRng1 ta):=by
 intro pins s σ H R I h
 refine Call_ (zdv I hg hm boot_range (PyProof.Rows.callWith_type1 (thn (ha pos pins s σ H _ I h) λus s1 ⟨vs,H1,I1,r1,q1⟩ => ?_) hs rfl))
 obtain⟨j,e,q1,q2,q⟩:=q1
 subst e
 cases r1 with
 | cons r rr=>
  cases rr
  obtain⟨t,rfl⟩:=r
  exact call_range_1 (zi2 I1 (by omega) (by omega) q1 q2 (by simpa using q))
theorem zl7{a b:Expr}{ta:TA}{p pos:Pos}(hg:Gl X "range")(hm:X.mg "range" = none)(ha:PA X [a,b] ta)(hs:starEach [a,b] X.env=[(false,eval a X.env),(false,eval b X.env)]:=by rfl)(hs2:starEach [b] X.env=[(false,eval b X.env)]:=by rfl) :
  PI X tg (.Call (.Name "range" p) [a,b] [] pos) (iRng2 ta):=by
 intro pins s σ H R I h
 refine Call_ (zdv I hg hm boot_range (PyProof.Rows.callWith_type1 (thn (ha pos pins s σ H _ I h) λus s1 ⟨vs,H1,I1,r1,q1⟩ => ?_) (by rw[hs,hs2]) (by rw[hs2];rfl)))
 obtain⟨i,j,e,⟨q1,q2,q3,q4⟩,q⟩:=q1
 subst e
 cases r1 with
 | cons r rr=>
  cases rr with
  | cons r' rr=>
   cases rr
   obtain⟨t,rfl⟩:=r
   obtain⟨t',rfl⟩:=r'
   exact call_range_2 (zi2 I1 q1 q2 q3 q4 q)
def tFor(wi:TI)(g:TG)(tb:TS):TS:=λD σ H=>wi σ H λJ H1=>∃W:Nat->Nat->St->Hp->Prop,(∃m,W 0 m σ H1)/\∀i m σ H,W i m σ H ->
 (J.stop i H/\D.nx σ H)\/(J.go i H/\∃N:St->Hp->Prop,(∀σ' H',N σ' H'->∃m',m' < m/\W (i + 1) m' σ' H')/\∀x H',J.yld i H x H'->g x σ H' λσ2 H2=>tb { D with nx:=N,ct:=N,bk:=D.nx } σ2 H2)
def pinsAt(fp:List Addr)(h:Heap):List (Addr×Obj):=fp.filterMap λb=>(h.get? b).map λo=>(b,o)
theorem zc6{fp:List Addr}{h:Heap}{b:Addr}{o:Obj}(hb:b∈fp)(e:h.get? b=some o):(b,o)∈pinsAt fp h:=List.mem_filterMap.mpr ⟨b,hb,by rw[e];rfl⟩
theorem zkx{fp:List Addr}{h:Heap}{p:Addr×Obj}(hp:p∈pinsAt fp h):p.1∈fp/\h.get? p.1=some p.2:=by
 obtain⟨b,hb,e⟩:=List.mem_filterMap.mp hp
 cases q:h.get? b with
 | none=>rw[q]at e;cases e
 | some o=>
  rw[q]at e
  have e':(b,o)=p:=Option.some.inj e
  subst e'
  exact⟨hb,q⟩
theorem Inv.pinned{pins:List (Addr×Obj)}{σ : St}{H:Hp}{s:Shared}{fp:List Addr}(I:Inv X pins σ H s)(hf:∀b∈fp,FpOk X pins H b)(ho:∀b∈fp,∃o,s.heap.get? b=some o/\∀v,o.data≠.cell v):Inv X (pins ++ pinsAt fp s.heap) σ H s:=
 I.pins_of λp hp=>(List.mem_append.mp hp).elim (λz=>I.pin p (List.mem_append_right _ z)) λz=>by
  obtain⟨hb,e⟩:=zkx z
  obtain⟨f0,f1,f2,_⟩:=hf p.1 hb
  obtain⟨o,e',d⟩:=ho p.1 hb
  rw[e]at e';cases e'
  exact⟨e,f0,f1,f2,d⟩
theorem Inv.unpinned{pins pl:List (Addr×Obj)}{σ : St}{H:Hp}{s:Shared}(I:Inv X (pins ++ pl) σ H s):Inv X pins σ H s:=I.pins_of λp hp=>I.pin p (List.mem_append_right _ (List.mem_append_left _ hp))
theorem zdu{iter:Expr}{body:List Stmt}{wi:TI}{g:TG}{tb:TS}{pos:Pos}(hp:PassesOwn (model X.prog X.w) X.A X.env X.xe)(hc:X.calm=true)(hi:PI X tg iter wi)(hg:PG X tg g)(hb:PSs X body tb)
  (hs:∀x,foldedSetIterable iter X.env x=pure x:=by intro _;rfl):PS X (.For tg iter body [] pos) (tFor wi g tb):=by
 intro pins s σ H D I h
 refine wpAny_For (thn (hi pins s σ H _ I h) λv s1 h1=>thn h1 λitv s2 h2 => ?_) hs
 obtain⟨it,fp,tn,J,H2,e,I2,T,st2,f2,W,⟨m0,w0⟩,turn⟩:=h2
 subst e
 -- what stays true of the iterator's objects through the loop
 have stat:∀{H':Hp},(∀b∈fp,H' b=none)->∀b∈fp,FpOk X pins H' b:=λhn b hb=>⟨hn b hb,(f2 b hb).2⟩
 refine codeAny_forLoop_any (λn s'=>∃i σ' H',Inv X pins σ' H' s'/\tn i s'.heap/\(∀b∈fp,H' b=none)/\W i n σ' H') ?_ m0 ⟨0,σ,H2,I2,st2,λb hb=>(f2 b hb).1,w0⟩
 rintro n s3 ⟨i,σ3,H3,I3,st3,fr3,w3⟩
 rcases turn i n σ3 H3 w3 with⟨stop,qn⟩ | ⟨go,N,hN,step⟩
 ·refine wpAny_passesOwn hp (thn (T.done X rfl rfl rfl hc i pins s3 σ3 H3 X.xe I3 (stat fr3) st3 stop) λr s4 ⟨hr,I4⟩ => ?_)
  subst hr
  exact wpAny_execs_nil ⟨σ3,H3,I4,qn⟩
 ·refine wpAny_passesOwn hp (thn (T.item X rfl rfl rfl hc i pins s3 σ3 H3 X.xe I3 (stat fr3) st3 go) λr s4 ⟨u,hr,h4⟩ => ?_)
  subst hr
  refine wpAny_passesOwn hp (thn h4 λ_ s5 ⟨x,H5,I5,r5,y5,st5,fr5⟩ => ?_)
  have I5':=I5.pinned (stat fr5) (T.obj _ _ st5)
  refine wpAny_passesOwn hp (thn (hg _ s5 σ3 H5 x u _ I5' r5 (step x H5 y5)) λ_ s6 ⟨σ6,H6,I6,q6⟩ => ?_)
  refine wpAny_passesOwn hp (thn (hb _ s6 σ6 H6 _ I6 q6) λf s7 q7 => ?_)
  have again:∀{σ7:St} {H7:Hp},Inv X (pins ++ pinsAt fp s5.heap) σ7 H7 s7->N σ7 H7->∃m,m < n/\∃i σ' H',Inv X pins σ' H' s7/\tn i s7.heap/\(∀b∈fp,H' b=none)/\W i m σ' H':=fun{σ7 H7} I7 n7=>by
   obtain⟨m',hm,w7⟩:=hN σ7 H7 n7
   refine⟨m',hm,i + 1,σ7,H7,I7.unpinned,T.keep _ _ _ st5 λb hb o e=>(I7.pin (b,o) (List.mem_append_right _ (List.mem_append_right _ (zc6 hb e)))).1,λb hb => ?_,w7⟩
   obtain⟨o,e,d⟩:=T.obj _ _ st5 b hb
   exact(I7.pin (b,o) (List.mem_append_right _ (List.mem_append_right _ (zc6 hb e)))).2.1
  cases f with
  | next=>obtain⟨σ7,H7,I7,n7⟩:=q7;exact again I7 n7
  | cont=>obtain⟨σ7,H7,I7,n7⟩:=q7;exact again I7 n7
  | brk=>obtain⟨σ7,H7,I7,q7⟩:=q7;exact⟨σ7,H7,I7.unpinned,q7⟩
  | ret v=>obtain⟨x7,σ7,H7,I7,r7,q7⟩:=q7;exact⟨x7,σ7,H7,I7.unpinned,r7,q7⟩
end
theorem znp{K:W.Frag}{a:Addr}{xs:List V}{g:TG}{tb:TS}{D:Ends}{σ : St}{H:Hp}(Pv:Nat->St->Hp->Prop)(h0:Pv 0 σ H)(hl:∀i σ H,i<=xs.length->Pv i σ H->SqL K H a xs)
  (hs:∀i x σ H,xs[i]? = some x->Pv i σ H->g x σ H λσ2 H2=>tb { D with nx:=Pv (i + 1),ct:=Pv (i + 1),bk:=D.nx } σ2 H2) (hd:∀σ H,Pv xs.length σ H->D.nx σ H) :
  ∃W:Nat->Nat->St->Hp->Prop,(∃m,W 0 m σ H)/\∀i m σ H,W i m σ H ->
   ((Itl K a).stop i H/\D.nx σ H)\/((Itl K a).go i H/\∃N:St->Hp->Prop,(∀σ' H',N σ' H'->∃m',m' < m/\W (i + 1) m' σ' H')/\∀x H',(Itl K a).yld i H x H'->g x σ H' λσ2 H2=>tb { D with nx:=N,ct:=N,bk:=D.nx } σ2 H2):=by
 refine⟨λi m σ H=>m=xs.length - i/\i<=xs.length/\Pv i σ H,⟨xs.length,by simp,Nat.zero_le _,h0⟩,?_⟩
 rintro i m σ H ⟨rfl,hi,p⟩
 have q:=hl i σ H hi p
 by_cases hlt:i < xs.length
 ·refine .inr ⟨⟨xs,xs[i],q,by simp[hlt]⟩,Pv (i + 1),λσ' H' p'=>⟨xs.length - (i + 1),by omega,rfl,hlt,p'⟩,λx H' y => ?_⟩
  obtain⟨e,y⟩:=y
  subst e
  exact hs i x σ _ (y xs q) p
 ·have e:i=xs.length:=by omega
  subst e
  exact .inl ⟨⟨xs,q,Nat.le_refl _⟩,hd σ H p⟩
theorem zea{lo:Int}{n:Nat}{g:TG}{tb:TS}{D:Ends}{σ : St}{H:Hp}(Pv:Nat->St->Hp->Prop)(h0:Pv 0 σ H)
  (hs:∀i σ H,i < n->Pv i σ H->g (.int (lo + i)) σ H λσ2 H2=>tb { D with nx:=Pv (i + 1),ct:=Pv (i + 1),bk:=D.nx } σ2 H2) (hd:∀σ H,Pv n σ H->D.nx σ H) :
  ∃W:Nat->Nat->St->Hp->Prop,(∃m,W 0 m σ H)/\∀i m σ H,W i m σ H ->
   ((Itr lo n).stop i H/\D.nx σ H)\/((Itr lo n).go i H/\∃N:St->Hp->Prop,(∀σ' H',N σ' H'->∃m',m' < m/\W (i + 1) m' σ' H')/\∀x H',(Itr lo n).yld i H x H'->g x σ H' λσ2 H2=>tb { D with nx:=N,ct:=N,bk:=D.nx } σ2 H2):=by
 refine⟨λi m σ H=>m=n - i/\i<=n/\Pv i σ H,⟨n,by simp,Nat.zero_le _,h0⟩,?_⟩
 rintro i m σ H ⟨rfl,hi,p⟩
 by_cases hlt:i < n
 ·refine .inr ⟨hlt,Pv (i + 1),λσ' H' p'=>⟨n - (i + 1),by omega,rfl,hlt,p'⟩,λx H' y => ?_⟩
  obtain⟨e,y⟩:=y
  subst e y
  exact hs i σ _ hlt p
 ·have e:i=n:=by omega
  subst e
  exact .inl ⟨Nat.le_refl _,hd σ H p⟩
end L2
namespace L2
open PySem PySem.Spec PyProof.Rows
abbrev R2:=V->V->Hp->VK->Prop
def OpR(X:Cx)(f:Value->Value->Sem Value)(r:R2):Prop:=
 ∀(pins:List (Addr×Obj)) (s:Shared) (σ : St) (H:Hp) (x y:V) (v u:Value) (Q:VK),Inv X pins σ H s->RelV x v->RelV y u->r x y H Q ->
  wpAny (model X.prog X.w) X.A (f v u) (EP X pins σ Q) X.xe s
def UnR(X:Cx)(f:Value->Sem Value)(r:V->Hp->VK->Prop):Prop:=
 ∀(pins:List (Addr×Obj)) (s:Shared) (σ : St) (H:Hp) (x:V) (v:Value) (Q:VK),Inv X pins σ H s->RelV x v->r x H Q ->
  wpAny (model X.prog X.w) X.A (f v) (EP X pins σ Q) X.xe s
def CallR(X:Cx)(f:Value)(r:List V->Hp->VK->Prop):Prop:=
 ∀(pins:List (Addr×Obj)) (s:Shared) (σ : St) (H:Hp) (xs:List V) (us:List Value) (Q:VK),Inv X pins σ H s->Vals xs us->r xs H Q ->
  wpAny (model X.prog X.w) X.A (call f us) (EP X pins σ Q) X.xe s
def TruR(X:Cx)(r:V->Hp->(Bool->Hp->Prop)->Prop):Prop:=
 ∀(pins:List (Addr×Obj)) (s:Shared) (σ : St) (H:Hp) (x:V) (v:Value) (Q:Bool->Hp->Prop),Inv X pins σ H s->RelV x v->r x H Q ->
  wpAny (model X.prog X.w) X.A (truthy v) (TP X pins σ Q) X.xe s
def tOp(r:R2)(ta tb:TE):TE:=λσ H Q=>ta σ H λx H1=>tb σ H1 λy H2=>r x y H2 Q
def tUn(r:V->Hp->VK->Prop)(ta:TE):TE:=λσ H Q=>ta σ H λx H1=>r x H1 Q
def rI(C:Int->Int->Prop)(g:Int->Int->V):R2:=λx y H Q=>∃i j,x = .int i/\y = .int j/\C i j/\Q (g i j) H
def rI0(g:Int->Int->V):R2:=λx y H Q=>∃i j,x = .int i/\y = .int j/\Q (g i j) H
def rU(g:Int->V):V->Hp->VK->Prop:=λx H Q=>∃i,x = .int i/\Q (g i) H
section
variable{X:Cx}{a b c:Expr}{ta tb tc:TE}{pos:Pos}
theorem binT(ha:PE X a ta)(hb:PE X b tb){pins:List (Addr×Obj)}{s:Shared}{σ : St}{H:Hp}{R:V->V->Hp->Prop}(I:Inv X pins σ H s)
  (h:ta σ H λx H1=>tb σ H1 λy H2=>R x y H2) {Q:Value->Shared->Prop} {f:Value->Value->Sem Value}
  (hf:∀v u s2 x y H2,Inv X pins σ H2 s2->RelV x v->RelV y u->R x y H2->wpAny (model X.prog X.w) X.A (f v u) Q X.xe s2) :
  wpAny (model X.prog X.w) X.A (eval a X.env) (λv s₁=>wpAny (model X.prog X.w) X.A (eval b X.env) (λu s₂=>wpAny (model X.prog X.w) X.A (f v u) Q X.xe s₂) X.xe s₁) X.xe s:=by
 refine thn (ha pins s σ H _ I h) λv s1 ⟨x,H1,I1,r1,q1⟩ => ?_
 refine thn (hb pins s1 σ H1 _ I1 q1) λu s2 ⟨y,H2,I2,r2,q2⟩ => ?_
 exact hf v u s2 x y H2 I2 r1 r2 q2
theorem zav{op:Operator}{r:R2}(ho:OpR X (binaryOp op) r)(ha:PE X a ta)(hb:PE X b tb):PE X (.BinOp a op b pos) (tOp r ta tb):=by
 intro pins s σ H Q I h
 exact wpAny_BinOp (binT ha hb I h λv u s2 x y H2 I2 rx ry q=>ho pins s2 σ H2 x y v u Q I2 rx ry q)
theorem zls{op:UnaryOp}{r:V->Hp->VK->Prop}(ho:UnR X (unaryOp op) r)(ha:PE X a ta):PE X (.UnaryOp op a pos) (tUn r ta):=by
 intro pins s σ H Q I h
 exact UnaryOp_ (thn (ha pins s σ H _ I h) λv s1 ⟨x,H1,I1,r1,q1⟩=>ho pins s1 σ H1 x v Q I1 r1 q1)
theorem opI{f:Value->Value->Sem Value}{C:Int->Int->Prop}{g:Int->Int->Int}
  (rule:∀(i j:Int) (t u:Tok) (s:Shared) (Q:Value->Shared->Prop) (E:Value->Shared->Prop),C i j->Q (.int (g i j) s.toks) { s with toks:=s.toks + 1 }->wpAny (model X.prog X.w) X.A (f (.int i t) (.int j u)) Q E s) :
  OpR X f (rI C λi j => .int (g i j)):=by
 intro pins s σ H x y v u Q I rx ry h
 obtain⟨i,j,rfl,rfl,hc,q⟩:=h
 obtain⟨t,rfl⟩:=rx
 obtain⟨t',rfl⟩:=ry
 exact rule i j t t' s _ _ hc ⟨.int (g i j),H,I.tok _,⟨_,rfl⟩,q⟩
theorem opI0{f:Value->Value->Sem Value}{g:Int->Int->Int}
  (rule:∀(i j:Int) (t u:Tok) (s:Shared) (Q:Value->Shared->Prop) (E:Value->Shared->Prop),Q (.int (g i j) s.toks) { s with toks:=s.toks + 1 }->wpAny (model X.prog X.w) X.A (f (.int i t) (.int j u)) Q E s) :
  OpR X f (rI0 λi j => .int (g i j)):=by
 intro pins s σ H x y v u Q I rx ry h
 obtain⟨i,j,rfl,rfl,q⟩:=h
 obtain⟨t,rfl⟩:=rx
 obtain⟨t',rfl⟩:=ry
 exact rule i j t t' s _ _ ⟨.int (g i j),H,I.tok _,⟨_,rfl⟩,q⟩
theorem opB0{f:Value->Value->Sem Value}{g:Int->Int->Bool}
  (rule:∀(i j:Int) (t u:Tok) (s:Shared) (Q:Value->Shared->Prop) (E:Value->Shared->Prop),Q (.bool (g i j)) s->wpAny (model X.prog X.w) X.A (f (.int i t) (.int j u)) Q E s) :
  OpR X f (rI0 λi j => .bl (g i j)):=by
 intro pins s σ H x y v u Q I rx ry h
 obtain⟨i,j,rfl,rfl,q⟩:=h
 obtain⟨t,rfl⟩:=rx
 obtain⟨t',rfl⟩:=ry
 exact rule i j t t' s _ _ ⟨.bl (g i j),H,I,rfl,q⟩
def CDiv(i j:Int):Prop:=0 < j/\j < 1073741824
def CDivN(i j:Int):Prop:=j≠0/\j.natAbs < 1073741824
def CPow(i j:Int):Prop:=0<=j/\j<=1000000/\i.natAbs < 2 ^ 64
def CMul(i j:Int):Prop:=(-(2 ^ 64) < i/\i < 2 ^ 64)\/(-(2 ^ 64) < j/\j < 2 ^ 64)
theorem CMul.ok{i j:Int}(h:CMul i j):IntMulOk i j:=by
 rcases h with⟨h1,h2⟩ | ⟨h1,h2⟩
 ·exact .of_left (intBits_le_64 h1 h2)
 ·exact .of_right (intBits_le_64 h1 h2)
theorem zd7:OpR X (binaryOp .Add) (rI0 λi j => .int (i + j)):=opI0 λ_ _ _ _ _ _ _ q=>add_int q
theorem zkg:OpR X (binaryOp .Sub) (rI0 λi j => .int (i - j)):=opI0 λ_ _ _ _ _ _ _ q=>sub_int q
theorem zd9:OpR X (binaryOp .Mult) (rI CMul λi j => .int (i * j)):=opI λ_ _ _ _ _ _ _ hc q=>mul_int q hc.ok
theorem zb6:OpR X (binaryOp .FloorDiv) (rI CDiv λi j => .int (i / j)):=opI λi j _ _ _ _ _ hc q=>by
 have h1:(0:Int) < j:=hc.1
 have h2:j < 1073741824:=hc.2
 exact floordiv_int (by omega) (by rw[Int.fdiv_eq_ediv_of_nonneg i (by omega)];exact q) (.inl (PyProof.noPylong_small (by omega)))
theorem zbj:OpR X (binaryOp .Mod) (rI (λ_ j=>0 < j) λi j => .int (i % j)):=opI λi j _ _ _ _ _ hc q=>by
 have h1:(0:Int) < j:=hc
 exact mod_int' (by omega) (by rw[Int.fmod_eq_emod_of_nonneg i (by omega)];exact q)
theorem zk6:OpR X (binaryOp .Mod) (rI (λ_ j=>j≠0) λi j => .int (i.fmod j)):=opI λ_ _ _ _ _ _ _ hc q=>mod_int' hc q
theorem zoj:OpR X (binaryOp .Pow) (rI CPow λi j => .int (i ^ j.toNat)):=opI λ_ _ _ _ _ _ _ hc q=>pow_int_small hc.1 hc.2.1 hc.2.2 q
theorem unI{f:Value->Sem Value}{g:Int->Int}
  (rule:∀(i:Int) (t:Tok) (s:Shared) (Q:Value->Shared->Prop) (E:Value->Shared->Prop),Q (.int (g i) s.toks) { s with toks:=s.toks + 1 }->wpAny (model X.prog X.w) X.A (f (.int i t)) Q E s) :
  UnR X f (rU λi => .int (g i)):=by
 intro pins s σ H x v Q I rx h
 obtain⟨i,rfl,q⟩:=h
 obtain⟨t,rfl⟩:=rx
 exact rule i t s _ _ ⟨.int (g i),H,I.tok _,⟨_,rfl⟩,q⟩
theorem zgv:UnR X (unaryOp .USub) (rU λi => .int (-i)):=unI λ_ _ _ _ _ q=>neg_int q
end
def scal:V->V->Bool
 | .non,.non=>true | .non,.int _=>true | .int _,.non=>true | .non,.bl _=>true | .bl _,.non=>true | .non,.str _=>true | .str _,.non=>true
 | .int _,.int _=>true | .bl _,.bl _=>true | .str _,.str _=>true | .byt _,.byt _=>true
 | .int _,.str _=>true | .str _,.int _=>true | .bl _,.str _=>true | .str _,.bl _=>true
 | _,_=>false
def rEq:R2:=λx y H Q=>scal x y=true/\Q (.bl (decide (x=y))) H
def rNe:R2:=λx y H Q=>scal x y=true/\Q (.bl (!decide (x=y))) H
theorem zfi{i j:Int}:decide (V.int i=V.int j)=(i == j):=by
 rw[Bool.eq_iff_iff]
 simp
theorem zok{i j:Bool}:decide (V.bl i=V.bl j)=(i == j):=by
 rw[Bool.eq_iff_iff]
 simp
theorem zk1{i j:Str}:decide (V.str i=V.str j)=(i == j):=by
 rw[Bool.eq_iff_iff]
 simp
theorem zly{i j:Array UInt8}:decide (V.byt i=V.byt j)=(i.toList == j.toList):=by
 rw[Bool.eq_iff_iff]
 cases i
 cases j
 simp
section
variable{X:Cx}{a b c:Expr}{ta tb tc:TE}{pos:Pos}
theorem za3{pins:List (Addr×Obj)}{σ : St}{H:Hp}{s:Shared}{Q:VK}{k k':Bool}(I:Inv X pins σ H s)(q:Q (.bl k) H)(e:k=k'):EP X pins σ Q (.bool k') s:=by
 subst e
 exact⟨.bl k,H,I,rfl,q⟩
theorem zda:OpR X (compareOp .Eq) rEq:=by
 intro pins s σ H x y v u Q I rx ry h
 obtain⟨hs,q⟩:=h
 cases x with
 | non=>
  cases rx
  cases y with
  | non=>cases ry;exact PySem.EqNone.eq_none_none (za3 I q (by simp))
  | bl j=>cases ry;exact PySem.EqNone.eq_none_bool (za3 I q (by simp))
  | int j=>obtain⟨t',rfl⟩:=ry;exact PySem.EqNone.eq_none_int (za3 I q (by simp))
  | str j=>obtain⟨t',rfl⟩:=ry;exact PySem.EqNone.eq_none_str (za3 I q (by simp))
  | _=>exact absurd (show false=true from hs) Bool.false_ne_true
 | bl i=>
  cases rx
  cases y with
  | non=>cases ry;exact PySem.EqNone.eq_bool_none (za3 I q (by simp))
  | bl j=>cases ry;exact eq_bool (za3 I q zok)
  | str j=>obtain⟨t',rfl⟩:=ry;exact PySem.EqMixed.eq_bool_str (za3 I q (by simp))
  | _=>exact absurd (show false=true from hs) Bool.false_ne_true
 | int i=>
  obtain⟨t,rfl⟩:=rx
  cases y with
  | non=>cases ry;exact PySem.EqNone.eq_int_none (za3 I q (by simp))
  | int j=>obtain⟨t',rfl⟩:=ry;exact eq_int (za3 I q zfi)
  | str j=>obtain⟨t',rfl⟩:=ry;exact PySem.EqMixed.eq_int_str (za3 I q (by simp))
  | _=>exact absurd (show false=true from hs) Bool.false_ne_true
 | str i=>
  obtain⟨t,rfl⟩:=rx
  cases y with
  | non=>cases ry;exact PySem.EqNone.eq_str_none (za3 I q (by simp))
  | bl j=>cases ry;exact PySem.EqMixed.eq_str_bool (za3 I q (by simp))
  | int j=>obtain⟨t',rfl⟩:=ry;exact PySem.EqMixed.eq_str_int (za3 I q (by simp))
  | str j=>obtain⟨t',rfl⟩:=ry;exact eq_str (za3 I q zk1)
  | _=>exact absurd (show false=true from hs) Bool.false_ne_true
 | byt i=>
  obtain⟨t,rfl⟩:=rx
  cases y with
  | byt j=>obtain⟨t',rfl⟩:=ry;exact W.eq_bytes (za3 I q zly)
  | _=>exact absurd (show false=true from hs) Bool.false_ne_true
 | _=>cases y <;> exact absurd (show false=true from hs) Bool.false_ne_true
theorem zme:OpR X (compareOp .NotEq) rNe:=by
 intro pins s σ H x y v u Q I rx ry h
 obtain⟨hs,q⟩:=h
 cases x with
 | non=>
  cases rx
  cases y with
  | non=>cases ry;exact PySem.EqNone.ne_none_none (za3 I q (by simp))
  | bl j=>cases ry;exact PySem.EqNone.ne_none_bool (za3 I q (by simp))
  | int j=>obtain⟨t',rfl⟩:=ry;exact PySem.EqNone.ne_none_int (za3 I q (by simp))
  | str j=>obtain⟨t',rfl⟩:=ry;exact PySem.EqNone.ne_none_str (za3 I q (by simp))
  | _=>exact absurd (show false=true from hs) Bool.false_ne_true
 | bl i=>
  cases rx
  cases y with
  | non=>cases ry;exact PySem.EqNone.ne_bool_none (za3 I q (by simp))
  | bl j=>cases ry;exact ne_bool (za3 I q (congrArg not zok))
  | str j=>obtain⟨t',rfl⟩:=ry;exact PySem.EqMixed.ne_bool_str (za3 I q (by simp))
  | _=>exact absurd (show false=true from hs) Bool.false_ne_true
 | int i=>
  obtain⟨t,rfl⟩:=rx
  cases y with
  | non=>cases ry;exact PySem.EqNone.ne_int_none (za3 I q (by simp))
  | int j=>obtain⟨t',rfl⟩:=ry;exact ne_int (za3 I q (congrArg not zfi))
  | str j=>obtain⟨t',rfl⟩:=ry;exact PySem.EqMixed.ne_int_str (za3 I q (by simp))
  | _=>exact absurd (show false=true from hs) Bool.false_ne_true
 | str i=>
  obtain⟨t,rfl⟩:=rx
  cases y with
  | non=>cases ry;exact PySem.EqNone.ne_str_none (za3 I q (by simp))
  | bl j=>cases ry;exact PySem.EqMixed.ne_str_bool (za3 I q (by simp))
  | int j=>obtain⟨t',rfl⟩:=ry;exact PySem.EqMixed.ne_str_int (za3 I q (by simp))
  | str j=>obtain⟨t',rfl⟩:=ry;exact ne_str (za3 I q (congrArg not zk1))
  | _=>exact absurd (show false=true from hs) Bool.false_ne_true
 | byt i=>
  obtain⟨t,rfl⟩:=rx
  cases y with
  | byt j=>obtain⟨t',rfl⟩:=ry;exact W.ne_bytes (za3 I q (congrArg not zly))
  | _=>exact absurd (show false=true from hs) Bool.false_ne_true
 | _=>cases y <;> exact absurd (show false=true from hs) Bool.false_ne_true
theorem zjp:OpR X (compareOp .Lt) (rI0 λi j => .bl (decide (i < j))):=opB0 λ_ _ _ _ _ _ _ q=>lt_int q
theorem zo0:OpR X (compareOp .LtE) (rI0 λi j => .bl (decide (i<=j))):=opB0 λ_ _ _ _ _ _ _ q=>le_int q
theorem zk8:OpR X (compareOp .Gt) (rI0 λi j => .bl (decide (j < i))):=opB0 λ_ _ _ _ _ _ _ q=>gt_int q
theorem zgg:OpR X (compareOp .IsNot) (λx y H Q=>y = .non/\Q (.bl (!decide (x = .non))) H):=by
 intro pins s σ H x y v u Q I rx ry h
 obtain⟨rfl,q⟩:=h
 cases ry
 refine isnot_none_gen (za3 I q ?_)
 cases x <;> first
  | (cases rx;rfl)
  | (obtain⟨t,rfl⟩:=rx;rfl)
def isObj:HO->Bool
 | .lst _=>true
 | .ins _ _ _=>true
 | _=>false
theorem nomark(b:Expr){op:CmpOp}(h:op≠.In:=by decide)(h2:op≠.NotIn:=by decide):behindInMarks op b=false:=by
 have e1:(op == CmpOp.In)=false:=by cases op <;> first | rfl | exact absurd rfl h
 have e2:(op == CmpOp.NotIn)=false:=by cases op <;> first | rfl | exact absurd rfl h2
 cases b <;> simp[behindInMarks,e1,e2]
theorem zco{op:CmpOp}{r:R2}(ho:OpR X (compareOp op) r)(ha:PE X a ta)(hb:PE X b tb)(hm:behindInMarks op b=false):PE X (.Compare a [op] [b] pos) (tOp r ta tb):=by
 intro pins s σ H Q I h
 exact wpAny_Compare1 (binT ha hb I h λv u s2 x y H2 I2 rx ry q=>ho pins s2 σ H2 x y v u Q I2 rx ry q) hm
def tTest(t:TE):TT:=λσ H Q=>t σ H λx H'=>∃k,x = .bl k/\Q k H'
theorem zat{op:CmpOp}{r:R2}(ho:OpR X (compareOp op) r)(ha:PE X a ta)(hb:PE X b tb)(hm:behindInMarks op b=false):PT X (.Compare a [op] [b] pos) (tTest (tOp r ta tb)):=by
 intro pins s σ H Q I h
 refine wpAny_isTrue_Compare1 (thn (ha pins s σ H _ I h) λv s1 ⟨x,H1,I1,r1,q1⟩=>thn (hb pins s1 σ H1 _ I1 q1) λu s2 ⟨y,H2,I2,r2,q2⟩=>
  thn (ho pins s2 σ H2 x y v u _ I2 r1 r2 q2) λc s3 ⟨z,H3,I3,r3,k,e,q3⟩ => ?_) hm
 subst e
 cases r3
 exact wpAny_truthy_bool ⟨H3,I3,q3⟩
def tChain(r r':R2)(ta tb tc:TE):TE:=λσ H Q=>ta σ H λx H1=>tb σ H1 λy H2=>r x y H2 λz H3=>∃k,z = .bl k /\
 (if k=true then tc σ H3 λw' H4=>r' y w' H4 Q else Q (.bl false) H3)
def TruV(K:W.Frag)(x:V)(H:Hp)(k:Bool):Prop:=
 match x with
 | .non=>k=false
 | .bl b=>k=b
 | .int i=>k=(i != 0)
 | .str y=>y.length<=sizeLine/\k=((y.length:Int) != 0)
 | .byt y=>y.size<=sizeLine/\k=((y.size:Int) != 0)
 | .ref p=>(∃xs,SqL K H p xs/\k = !xs.isEmpty)\/(∃xs,SqT K H p xs/\k = !xs.isEmpty)\/∃kvs,H p=some (.dK kvs)/\k = !kvs.isEmpty
 | _=>False
theorem line63:(sizeLine:Nat) < 2 ^ 63:=by rw[sizeLine_eq];decide
def PlainIxT(b:Expr):Prop:=∀o i,subscripted b false o i=operate [o,i] (getItem o i)
theorem vals1{x:V}{us:List Value}(r:Vals [x] us):∃u,us=[u]/\RelV x u:=by
 cases r with
 | cons r1 r2=>cases r2;exact⟨_,rfl,r1⟩
theorem vals2{x y:V}{us:List Value}(r:Vals [x,y] us):∃u w',us=[u,w']/\RelV x u/\RelV y w':=by
 cases r with
 | cons r1 r2=>
  cases r2 with
  | cons r3 r4=>cases r4;exact⟨_,_,rfl,r1,r3⟩
theorem zm7:CallR X (.builtin "abs") (λxs H Q=>∃i,xs=[.int i]/\Q (.int (if i < 0 then -i else i)) H):=by
 intro pins s σ H xs us Q I r h
 obtain⟨i,rfl,q⟩:=h
 obtain⟨u,rfl,t,rfl⟩:=vals1 r
 exact call_abs_int λu tk=>⟨.int (if i < 0 then -i else i),H,I.tok _,⟨_,rfl⟩,q⟩
theorem zdk(hc:X.calm=true):CallR X (.builtin "max") (λxs H Q=>∃i j,xs=[.int i,.int j]/\Q (.int (if j > i then j else i)) H):=by
 intro pins s σ H xs us Q I r h
 obtain⟨i,j,rfl,q⟩:=h
 obtain⟨u,w',rfl,⟨t,rfl⟩,⟨t',rfl⟩⟩:=vals2 r
 refine max_two_ints (I.ok.hd hc) λh' tk k=>⟨_,H,I.kept k,?_,q⟩
 by_cases hj:j > i
 ·rw[if_pos hj,if_pos hj];exact⟨_,rfl⟩
 ·rw[if_neg hj,if_neg hj];exact⟨_,rfl⟩
theorem zfj(hc:X.calm=true):CallR X (.builtin "min") (λxs H Q=>∃i j,xs=[.int i,.int j]/\Q (.int (if j < i then j else i)) H):=by
 intro pins s σ H xs us Q I r h
 obtain⟨i,j,rfl,q⟩:=h
 obtain⟨u,w',rfl,⟨t,rfl⟩,⟨t',rfl⟩⟩:=vals2 r
 refine min_two_ints (I.ok.hd hc) λh' tk k=>⟨_,H,I.kept k,?_,q⟩
 by_cases hj:j < i
 ·rw[if_pos hj,if_pos hj];exact⟨_,rfl⟩
 ·rw[if_neg hj,if_neg hj];exact⟨_,rfl⟩
def LenV(K:W.Frag)(x:V)(H:Hp)(n:Nat):Prop:=
 match x with
 | .str y=>y.length<=sizeLine/\n=y.length
 | .byt y=>y.size<=sizeLine/\n=y.size
 | .ref p=>(∃xs,SqL K H p xs/\n=xs.length)\/∃xs,SqT K H p xs/\n=xs.length
 | _=>False
end
end L2
namespace L2
open PySem PySem.Spec PyProof.Rows
structure ObjM(h:Heap)(x dx C:Addr)(mA:Str->Option Value):Prop where
 obj:h.get? x=some (W.instObj C dx)
 ns:h.Ns1 dx mA
 ne:dx≠x
theorem zl4{h:Heap}{dx:Addr}{mA:Str->Option Value}(n:h.Ns1 dx mA):∃od,h.get? dx=some od/\∀name,W.lookIn name od=some (mA name):=by
 obtain⟨o,es,ep,ho,hd,hk,_,hm⟩:=n
 refine⟨o,ho,λname => ?_⟩
 have e:=hm name
 unfold nsFind findBy at e
 rw[<- Array.find?_toList]at e
 unfold W.lookIn
 rw[hd]
 dsimp only
 split
 ·rename_i y q
  rw[q]at e
  exact congrArg some e
 ·rename_i q
  rw[q]at e
  have a:es.toList.any (·.refKey)=false:=by
   rw[List.any_eq_false]
   intro y hy
   obtain⟨z,t,hkey⟩:=hk y (Array.mem_toList_iff.mp hy)
   simp[DictEntry.refKey,hkey]
  have a':¬es.toList.any (·.refKey)=true:=by rw[a];exact Bool.false_ne_true
  rw[if_neg a']
  exact congrArg some e
theorem ObjM.look{h:Heap}{x dx C:Addr}{mA:Str->Option Value}(I:ObjM h x dx C mA):∃od,W.InstAt h x (W.instObj C dx) C (some od)/\∀name,W.lookIn name od=some (mA name):=
 let ⟨od,ho,hl⟩:=zl4 I.ns
 ⟨od,⟨I.obj,rfl,rfl,ho⟩,hl⟩
section
variable{prog:Program}{w:World}{A:Around}{E:Value->Shared->Prop}{s:Shared}{K:W.Frag}{x dx C f:Addr}{mA:Str->Option Value}{name:Str}{v:Value}
theorem zo4{expr:Bool}{Q:Value->Shared->Prop}(X:K.In s.heap)(I:ObjM s.heap x dx C mA)(hg:W.plainGet K C name=true)(hh:W.hasDictIn K C=true)
  (ha:W.findIn K (.ref C) name=some none) (hv:mA name=some v) (hv':W.handedIn v=true) (h:Q v { s with toks:=s.toks + 1 }) :
  wpAny (model prog w) A (getAttr (.ref x) name expr) Q E s:=by
 obtain⟨od,J,hl⟩:=I.look
 exact W.get_value X J (W.plainGet_of hg).1 (W.findObj_own hh ha rfl (by rw[hl,hv])) hv' h
theorem znf{pl:Sem Bool}{Q:Value×List Value->Shared->Prop}(X:K.In s.heap)(I:ObjM s.heap x dx C mA)(hg:W.plainGet K C name=true)
  (hf:W.findIn K (.ref C) name=some (some (.ref f))) (ht:W.isFn K (.ref f)=true) (hv:mA name=none) (h:Q (.ref f,[.ref x]) s) :
  wpAny (model prog w) A (getMethod (.ref x) name pl) Q E s:=by
 obtain⟨od,J,hl⟩:=I.look
 exact W.method_fn X J (W.plainGet_of hg).1 (W.plainGet_of hg).2 hf (beq_iff_eq.mp ht) (by show (W.lookIn name od).map (·.isSome)=some false;rw[hl,hv];rfl) h
theorem zop{ns:List Str}{Q:Unit->Shared->Prop}(X:K.In s.heap)(I:ObjM s.heap x dx C mA)
  (hs:W.findIn K (.ref C) "__setattr__" = some (some (.builtin "object.__setattr__"))) (hp:W.plainOver K C=true) (ht:W.takerIn K C name=some none) (hh:W.hasDictIn K C=true)
  (hw:PySem.Within mA ns) (hsz:ns.length<=sizeLine)
  (h:∀h',ObjM h' x dx C (λy=>if y=name then some v else mA y)->Heap.SameBut dx s.heap h'->Q () { s with heap:=h',toks:=s.toks + 2 }) :
  wpAny (model prog w) A (setAttr (.ref x) name v) Q E s:=by
 obtain⟨od,J,hl⟩:=I.look
 refine W.set_plain X J hs (W.osa_open (s:={ s with toks:=s.toks + 1 }) (r:=none) X J hp ht λb => ?_)
 obtain⟨cd,hc,hd'⟩:=W.any_some hh
 have hx:s.heap.get? x=some ⟨.ref C,some dx,.plain,#[]⟩:=I.obj
 refine wpAny_bind (wpAny_pure (wpAny_bind (wpAny_bind (wpAny_loadPart hx (wpAny_bind (W.Looks.here (s:={ s with toks:=s.toks + 1 }) (W.looks_clsIn X hc) ?_))))))
 rw[hd']
 refine wpAny_pure (a:=some dx) (wpAny_bind (wpAny_pure (wpAny_bind ?_)))
 refine wpAny_nsSet1 (s:={ s with toks:=s.toks + 1 }) I.ns λh' hn2 hs2 => ?_
 obtain⟨oD,esD,epD,hoD,hdD,hcD⟩:=hn2.count (PySem.Within.cons name v hw)
 refine wpAny_bind (wpAny_lookBehind hoD (by rw[hdD];exact pastItsLine_dict (Nat.le_trans hcD (by rw[List.length_cons];omega))) ?_)
 exact wpAny_pure (h _ ⟨(hs2.2 _ (Ne.symm I.ne)).trans I.obj,hn2,I.ne⟩ hs2)
theorem znx{R:Result->Shared->Prop}{vs:List Value}{kw:List (Str×Value)}(X:K.In s.heap)(hm:W.makesIn K C=true)
  (hi:W.findIn K (.ref C) "__init__" = some (some (.ref f))) (hf:W.typeIn K (.ref f)=some (.type "function"))
  (h:codeAny (model prog w) (A.under (.builtin "type.__call__" ⟨.ref C :: vs,kw⟩)) (.call (.ref f) ⟨.ref (s.heap.objs.size + 1) :: vs,kw⟩) (W.InitBack (s.heap.objs.size + 1) R)
   { s with heap:=(s.heap.push W.emptyDict).push (W.instObj C s.heap.objs.size) }) :
  codeAny (model prog w) A (.call (.ref C) ⟨vs,kw⟩) R s:=by
 obtain⟨hh,g,d,t,os⟩:=s
 exact W.make_core (W.makes_of X hm) (W.looks_findIn X hi) (λself=>W.bind_fn X self hf) (.inl rfl) h
theorem zlj{R:Result->Shared->Prop}(X:K.In s.heap)(hm:W.makesIn K C=true)
  (hi:W.findIn K (.ref C) "__init__" = some (some (.builtin "object.__init__")))
  (hb:∀self,W.Looks (model prog w) s.heap (bindSpecial (.builtin "object.__init__") self) (.builtin "object.__init__",[self]))
  (h:codeAny (model prog w) (A.under (.builtin "type.__call__" ⟨[.ref C],[]⟩)) (.call (.builtin "object.__init__") ⟨[.ref (s.heap.objs.size + 1)],[]⟩) (W.InitBack (s.heap.objs.size + 1) R)
   { s with heap:=(s.heap.push W.emptyDict).push (W.instObj C s.heap.objs.size) }) :
  codeAny (model prog w) A (.call (.ref C) ⟨[],[]⟩) R s:=by
 obtain⟨hh,g,d,t,os⟩:=s
 exact W.make_core (W.makes_of X hm) (W.looks_findIn X hi) hb (.inr ⟨rfl,rfl⟩) h
end
def putF(f:Str)(v:V):List (Str×V)->List (Str×V)
 | []=>[(f,v)]
 | (g,x) :: r=>if g=f then(g,v) :: r else(g,x) :: putF f v r
theorem zfd(f g:Str)(v:V):∀fs:List (Str×V),(putF f v fs).lookup g=if g=f then some v else fs.lookup g
 | []=>by
  show List.lookup g [(f,v)]=_
  by_cases h:g=f
  ·have hb:(g == f)=true:=beq_iff_eq.mpr h
   simp only[List.lookup,hb,if_pos h]
  ·have hb:(g == f)=false:=beq_eq_false_iff_ne.mpr h
   simp only[List.lookup,hb,if_neg h]
 | (k,x) :: r=>by
  have ih:=zfd f g v r
  rw[show putF f v ((k,x) :: r)=(if k=f then(k,v) :: r else(k,x) :: putF f v r) from rfl]
  by_cases hk:k=f
  ·rw[if_pos hk]
   by_cases h:g=k
   ·have hb:(g == k)=true:=beq_iff_eq.mpr h
    simp only[List.lookup,hb,if_pos (h.trans hk)]
   ·have hb:(g == k)=false:=beq_eq_false_iff_ne.mpr h
    simp only[List.lookup,hb,if_neg (λe:g=f=>h (e.trans hk.symm))]
  ·rw[if_neg hk]
   by_cases h:g=k
   ·have hb:(g == k)=true:=beq_iff_eq.mpr h
    simp only[List.lookup,hb,if_neg (λe:g=f=>hk (h.symm.trans e))]
   ·have hb:(g == k)=false:=beq_eq_false_iff_ne.mpr h
    simp only[List.lookup,hb]
    exact ih
theorem zfn(f:Str)(v:V):∀fs:List (Str×V),f∈(putF f v fs).map (·.1)/\∀g,g∈fs.map (·.1)->g∈(putF f v fs).map (·.1)
 | []=>⟨by simp[putF],λg h=>by simp at h⟩
 | (k,x) :: r=>by
  obtain⟨i1,i2⟩:=zfn f v r
  rw[show putF f v ((k,x) :: r)=(if k=f then(k,v) :: r else(k,x) :: putF f v r) from rfl]
  by_cases hk:k=f
  ·rw[if_pos hk]
   subst hk
   exact⟨by simp,λg h=>by simpa using h⟩
  ·rw[if_neg hk]
   refine⟨?_,λg h => ?_⟩
   ·rw[List.map_cons]
    exact List.mem_cons_of_mem _ i1
   ·rw[List.map_cons]at h ⊢
    rcases List.mem_cons.mp h with e | e
    ·exact List.mem_cons.mpr (.inl e)
    ·exact List.mem_cons_of_mem _ (i2 g e)
theorem zez(f:Str)(v:V):∀fs:List (Str×V),(putF f v fs).length<=fs.length + 1
 | []=>by simp[putF]
 | (k,x) :: r=>by
  have ih:=zez f v r
  rw[show putF f v ((k,x) :: r)=(if k=f then(k,v) :: r else(k,x) :: putF f v r) from rfl]
  by_cases hk:k=f
  ·rw[if_pos hk,List.length_cons,List.length_cons];omega
  ·rw[if_neg hk,List.length_cons,List.length_cons];omega
theorem RelO.some_of{v:V}{o:Option Value}(r:RelO (some v) o):∃u,o=some u/\RelV v u:=by
 cases o with
 | none=>exact(show False from r).elim
 | some u=>exact⟨u,rfl,r⟩
theorem RelO.none_of{o:Option Value}(r:RelO none o):o=none:=by
 cases o with
 | none=>rfl
 | some u=>exact(show False from r).elim
theorem zl1{v:V}{u:Value}(r:RelV v u):W.handedIn u=true:=by
 cases v with
 | non=>cases (show u=Value.none from r);rfl
 | bl b=>cases (show u=Value.bool b from r);rfl
 | int i=>obtain⟨t,e⟩:=(show ∃t,u=Value.int i t from r);cases e;rfl
 | str x=>obtain⟨t,e⟩:=(show ∃t,u=Value.str x t from r);cases e;rfl
 | byt b=>obtain⟨t,e⟩:=(show ∃t,u=Value.bytes b t from r);cases e;rfl
 | flt b=>obtain⟨t,e⟩:=(show ∃t,u=Value.float b t from r);cases e;rfl
 | ref a=>cases (show u=Value.ref a from r);rfl
 | ty n=>cases (show u=Value.type n from r);rfl
section
variable{P:Program}{w:World}{H H':Hp}{h h':Heap}{a C dx:Addr}{fs fs':List (Str×V)}
theorem zfm(hok:HOk P w H h)(e:H a=some (.ins C dx fs)):∃mA,ObjM h a dx C mA/\(∀f,RelO (fs.lookup f) (mA f))/\PySem.Within mA (fs.map (·.1))/\fs.length<=1000/\H dx=some (.own a):=by
 obtain⟨d,z,ne,ob,mA,n,r,q⟩:=(show ObjOk P w H h a (.ins C dx fs) from hok a _ e)
 exact⟨mA,⟨ob,n,ne⟩,r,q,z,d⟩
end
structure Cls(K:W.Frag)(C:Addr):Prop where
 pg:W.plainGet K C Str.empty=true
 hd:W.hasDictIn K C=true
 po:W.plainOver K C=true
 sa:W.findIn K (.ref C) "__setattr__" = some (some (.builtin "object.__setattr__"))
theorem Cls.get{K:W.Frag}{C:Addr}(c:Cls K C)(f:Str):W.plainGet K C f=true:=c.pg
def NoAttr(K:W.Frag)(C:Addr)(f:Str):Prop:=W.findIn K (.ref C) f=some none
theorem NoAttr.taker{K:W.Frag}{C:Addr}{f:Str}(n:NoAttr K C f):W.takerIn K C f=some none:=by
 unfold W.takerIn
 rw[show W.findIn K (.ref C) f=some none from n]
 rfl
structure Con(K:W.Frag)(C:Addr)(f:Str)(v:V)(u:Value):Prop where
 at_:W.findIn K (.ref C) f=some (some u)
 rel:RelV v u
 get:W.specialIn K u "__get__" = some none
 cp:W.copiedNames.contains f=false
structure Meth(K:W.Frag)(C:Addr)(m:Str)(f:Addr):Prop where
 at_:W.findIn K (.ref C) m=some (some (.ref f))
 fn:W.isFn K (.ref f)=true
 kp:W.keepIn K (.ref f)=true
section
variable{X:Cx}{pins:List (Addr×Obj)}{σ : St}{H:Hp}{s:Shared}{a C dx:Addr}{fs:List (Str×V)}{f:Str}{v:V}{A:Around}{E:Value->Shared->Prop}
theorem zjr{b:Bool}{Q:Value->Shared->Prop}(I:Inv X pins σ H s)(e:H a=some (.ins C dx fs))(c:Cls X.K C)(n:NoAttr X.K C f)(l:fs.lookup f=some v)
  (h:∀u s',Inv X pins σ H s'->RelV v u->Q u s'):wpAny (model X.prog X.w) A (getAttr (.ref a) f b) Q E s:=by
 obtain⟨mA,O,r,_,_,_⟩:=zfm I.hok e
 obtain⟨u,hu,ru⟩:=RelO.some_of (v:=v) (o:=mA f) (by rw[<- l];exact r f)
 exact zo4 I.kIn O (c.get f) c.hd n hu (zl1 ru) (h u _ (I.tok _) ru)
theorem zjs{m:Str}{g:Addr}{pl:Sem Bool}{Q:Value×List Value->Shared->Prop}(I:Inv X pins σ H s)(e:H a=some (.ins C dx fs))(c:Cls X.K C)(k:Meth X.K C m g)(l:fs.lookup m=none)
  (h:Q (.ref g,[.ref a]) s):wpAny (model X.prog X.w) A (getMethod (.ref a) m pl) Q E s:=by
 obtain⟨mA,O,r,_,_,_⟩:=zfm I.hok e
 have hn:mA m=none:=RelO.none_of (by rw[<- l];exact r m)
 exact znf I.kIn O (c.get m) k.at_ k.fn hn h
theorem zjz{y:V}{u:Value}{Q:Unit->Shared->Prop}(I:Inv X pins σ H s)(e:H a=some (.ins C dx fs))(c:Cls X.K C)(n:NoAttr X.K C f)(hl:fs.length < 1000)(ry:RelV y u)
  (h:∀s',Inv X pins σ (upd H a (.ins C dx (putF f y fs))) s'->Q () s'):wpAny (model X.prog X.w) A (setAttr (.ref a) f u) Q E s:=by
 obtain⟨mA,O,r,wi,_,ho⟩:=zfm I.hok e
 have hz:(fs.map (·.1)).length<=sizeLine:=by rw[List.length_map,sizeLine_eq];omega
 refine zop I.kIn O c.sa c.po n.taker c.hd wi hz λh' O' sb=>h _ ?_
 have hd:∃o,h'.get? dx=some o:=let ⟨o,_,_,e',_⟩:=O'.ns;⟨o,e'⟩
 refine I.write (x:=a) (e:=dx) (by rw[e];exact True.intro) (.inr ho) (λb q hb z=>(sb.2 b hb).trans z) hd ?_
 refine⟨by rw[zal O.ne];exact ho,?_,O.ne,O'.obj,_,O'.ns,λg => ?_,λg hg => ?_⟩
 ·have:=zez f y fs;omega
 ·show RelO ((putF f y fs).lookup g) (if g=f then some u else mA g)
  rw[zfd]
  by_cases q:g=f
  ·rw[if_pos q,if_pos q];exact ry
  ·rw[if_neg q,if_neg q];exact r g
 ·by_cases q:g=f
  ·rw[q];exact(zfn f y fs).1
  ·refine(zfn f y fs).2 g (wi g λz=>hg ?_)
   show (if g=f then some u else mA g)=none
   rw[if_neg q];exact z
theorem Inv.made(I:Inv X pins σ H s):Inv X pins σ (upd (upd H s.heap.objs.size (.own (s.heap.objs.size + 1))) (s.heap.objs.size + 1) (.ins C s.heap.objs.size []))
  { s with heap:=(s.heap.push W.emptyDict).push (W.instObj C s.heap.objs.size) }:=by
 have e1:(s.heap.push W.emptyDict).get? s.heap.objs.size=some W.emptyDict:=Heap.get?_push_size s.heap rfl
 have e2:((s.heap.push W.emptyDict).push (W.instObj C s.heap.objs.size)).get? (s.heap.objs.size + 1)=some (W.instObj C s.heap.objs.size):=by
  have:=Heap.get?_push_size (s.heap.push W.emptyDict) (o:=W.instObj C s.heap.objs.size) rfl
  rwa [Heap.size_push]at this
 have e3:(s.heap.push W.emptyDict).Ns s.heap.objs.size (λ_=>none):=⟨W.emptyDict,#[],_,e1,rfl,(λe he=>absurd he (by simp)),λ_=>rfl⟩
 have I1:=I.laid (a:=s.heap.objs.size) (o := .own (s.heap.objs.size + 1)) (h':=s.heap.push W.emptyDict) (t':=s.toks) (λb u q=>Heap.get?_push_of_some _ q) (Nat.le_refl _) ⟨_,e1⟩
 refine I1.laid (a:=s.heap.objs.size + 1) (o := .ins C s.heap.objs.size []) (t':=s.toks) (λb u q=>Heap.get?_push_of_some _ q) (Nat.le_of_eq (Heap.size_push _ _)) ?_
 have ne:s.heap.objs.size≠s.heap.objs.size + 1:=Nat.ne_of_lt (Nat.lt_succ_self _)
 refine⟨by rw[zal ne,zaf],Nat.zero_le _,ne,e2,λ_=>none,(Heap.Ns1.of_empty e3).at λo q=>Heap.get?_push_of_some _ q,λ_=>True.intro,λy hy=>absurd rfl hy⟩
theorem zld{prog:Program}{w:World}{env:Env}{e:Expr}{f:Str}{pos:Pos}{s:Shared}{Q:Value->Shared->Prop}(hb:attributeBase e f env (eval e env)=eval e env)
  (h:wpAny (model prog w) A (eval e env) (λo s₁=>wpAny (model prog w) A (getAttr o f true) Q E s₁) E s):wpAny (model prog w) A (eval (.Attribute e f pos) env) Q E s:=
 Attribute_any_ h (by rw[arm_eval_Attribute,hb])
end
def tFld(K:W.Frag)(ta:TE)(f:Str):TE:=λσ H Q=>ta σ H λx H1=>∃a C dx fs v,x = .ref a/\H1 a=some (.ins C dx fs)/\Cls K C/\NoAttr K C f/\fs.lookup f=some v/\Q v H1
def tCon(K:W.Frag)(ta:TE)(f:Str):TE:=λσ H Q=>ta σ H λx H1=>∃a C dx fs v u,x = .ref a/\H1 a=some (.ins C dx fs)/\Cls K C/\Con K C f v u/\fs.lookup f=none/\Q v H1
def sFld(K:W.Frag)(ta tv:TE)(f:Str):TS:=λD σ H=>tv σ H λy H1=>ta σ H1 λx H2=>∃a C dx fs,x = .ref a/\H2 a=some (.ins C dx fs)/\Cls K C/\NoAttr K C f/\fs.length < 1000 /\
 D.nx σ (upd H2 a (.ins C dx (putF f y fs)))
def InOp(X:Cx)(op:Operator)(rd:V->V->Hp->VK->Prop):Prop:=
 ∀(pins:List (Addr×Obj)) (s:Shared) (σ : St) (H:Hp) (x y:V) (u v:Value) (Q:VK),Inv X pins σ H s->RelV x u->RelV y v->rd x y H Q->wpAny (model X.prog X.w) X.A (inplaceOp op u v) (EP X pins σ Q) X.xe s
def sFldAug(K:W.Frag)(ta tv:TE)(rd:V->V->Hp->VK->Prop)(f:Str):TS:=λD σ H=>ta σ H λx H1=>∃a C dx fs v,x = .ref a/\H1 a=some (.ins C dx fs)/\Cls K C/\NoAttr K C f/\fs.lookup f=some v /\
 tv σ H1 λy H2=>rd v y H2 λz H3=>∃dx' fs',H3 a=some (.ins C dx' fs')/\fs'.length < 1000/\D.nx σ (upd H3 a (.ins C dx' (putF f z fs')))
section
variable{X:Cx}{o e value:Expr}{f:Str}{pos pos' tpos:Pos}{ta tv:TE}
theorem zqp(he:PE X e ta)(hb:attributeBase e f X.env (eval e X.env)=eval e X.env):PE X (.Attribute e f pos) (tFld X.K ta f):=by
 intro pins s σ H Q I h
 refine zld hb (thn (he pins s σ H _ I h) λu s1 ⟨x,H1,I1,rx,a,C,dx,fs,v,ex,ea,c,n,l,q⟩ => ?_)
 subst ex
 obtain rfl:u=Value.ref a:=rx
 exact zjr I1 ea c n l λu' s2 I2 ru=>⟨v,H1,I2,ru,q⟩
theorem zha(ha:PE X o ta)(hv:PE X value tv)(hs:swapsWith value (some (.Attribute o f pos')) pos.line X.env=pure false):PS X (.Assign [.Attribute o f pos'] value pos) (sFld X.K ta tv f):=by
 intro pins s σ H D I h
 refine plainObj_wpAny_Assign_Attribute (thn (hv pins s σ H _ I h) λu s1 ⟨y,H1,I1,ry,q⟩=>thn (ha pins s1 σ H1 _ I1 q) λov s2 ⟨x,H2,I2,rx,a,C,dx,fs,ex,ea,c,n,l,q2⟩ => ?_) hs
 subst ex
 obtain rfl:ov=Value.ref a:=rx
 exact zjz I2 ea c n l ry λs3 I3=>⟨σ,_,I3,q2⟩
def rAdd:V->V->Hp->VK->Prop:=λx y H Q=>∃i j,x = .int i/\y = .int j/\Q (.int (i + j)) H
def rSub:V->V->Hp->VK->Prop:=λx y H Q=>∃i j,x = .int i/\y = .int j/\Q (.int (i - j)) H
end
section
variable{X:Cx}{pins:List (Addr×Obj)}{σ : St}{H:Hp}{s:Shared}{A:Around}{E:Value->Shared->Prop}{Q:Value->Shared->Prop}{c:Value}{b:Bool}
inductive TyOf(K:W.Frag)(H:Hp):V->Value->Prop where
 | non:TyOf K H .non (.type "NoneType")
 | bl (x:Bool):TyOf K H (.bl x) (.type "bool")
 | int (i:Int):TyOf K H (.int i) (.type "int")
 | str (x:Str):TyOf K H (.str x) (.type "str")
 | flt (x:UInt64):TyOf K H (.flt x) (.type "float")
 | lst {a:Addr} {xs:List V} (e:H a=some (.lst xs)):TyOf K H (.ref a) (.type "list")
 | frz {a:Addr} {o:Obj} {xs:List V} (e:H a=some (.frz o (.lst xs))):TyOf K H (.ref a) (.type "list")
 | tup {a:Addr} {xs:List V} (e:H a=some (.tup xs)):TyOf K H (.ref a) (.type "tuple")
 | dK {a:Addr} {kvs:List (Key×V)} (e:H a=some (.dK kvs)):TyOf K H (.ref a) (.type "dict")
 | dT {a:Addr} {kvs:List (List Key×V)} (e:H a=some (.dT kvs)):TyOf K H (.ref a) (.type "dict")
 | ins {a C dx:Addr} {fs:List (Str×V)} (e:H a=some (.ins C dx fs)) (cl:Cls K C) (ha:W.findIn K (.ref C) "__class__" = some (some (.builtin "object.__class__")))
   (hn:W.specialIn K (.builtin "object.__class__") "__get__" = some (some (.builtin "getset_descriptor.__get__"))) (htk:W.takesIn K (.builtin "object.__class__")=some true)
   (hm:W.mroIn K C (.type "object")=some true):TyOf K H (.ref a) (.ref C)
theorem zlw{x:V}{u t:Value}(I:Inv X pins σ H s)(rx:RelV x u)(ty:TyOf X.K H x t)(e:W.kitOne X.K t c=some b)(h:∀tk,Q (.bool b) { s with toks:=tk }) :
  wpAny (model X.prog X.w) A (call (.builtin "isinstance") [u,c]) Q E s:=by
 cases ty with
 | non=>cases (show u=Value.none from rx);exact W.kia_one W.kitx_none I.kIn True.intro e (λz=>nomatch z) h
 | bl y=>cases (show u=Value.bool y from rx);exact W.kia_one W.kitx_bool I.kIn True.intro e (λz=>nomatch z) h
 | int i=>obtain⟨t,q⟩:=(show ∃t,u=Value.int i t from rx);cases q;exact W.kia_one W.kitx_int I.kIn True.intro e (λz=>nomatch z) h
 | str y=>obtain⟨t,q⟩:=(show ∃t,u=Value.str y t from rx);cases q;exact W.kia_one W.kitx_str I.kIn True.intro e (λz=>nomatch z) h
 | flt y=>obtain⟨t,q⟩:=(show ∃t,u=Value.float y t from rx);cases q;exact W.kia_one W.kitx_float I.kIn True.intro e (λz=>nomatch z) h
 | @lst a xs ea=>
  cases (show u=Value.ref a from rx)
  obtain⟨_,_,n,_,h1⟩:=(show ObjOk X.prog X.w H s.heap a (.lst xs) from I.hok a _ ea)
  exact W.kia_one W.kitx_list I.kIn ⟨_,h1,rfl⟩ e (λz=>nomatch z) h
 | @frz a ob xs ea=>
  cases (show u=Value.ref a from rx)
  obtain⟨_,_,_,n,_,h1⟩:=(show ObjOk X.prog X.w H s.heap a (.frz ob (.lst xs)) from I.hok a _ ea)
  exact W.kia_one W.kitx_list I.kIn ⟨_,h1,rfl⟩ e (λz=>nomatch z) h
 | @tup a xs ea=>
  cases (show u=Value.ref a from rx)
  obtain⟨_,_,_,p⟩:=(show ObjOk X.prog X.w H s.heap a (.tup xs) from I.hok a _ ea)
  obtain⟨o,h1,h2,_⟩:=p
  exact W.kia_one W.kitx_tuple I.kIn ⟨o,h1,h2⟩ e (λz=>nomatch z) h
 | @dK a kvs ea=>
  cases (show u=Value.ref a from rx)
  obtain⟨_,_,vs,_,p⟩:=(show ObjOk X.prog X.w H s.heap a (.dK kvs) from I.hok a _ ea)
  obtain⟨o,es,ep,h1,h2,_⟩:=p
  exact W.kia_one W.kitx_dict I.kIn ⟨o,h1,h2.1⟩ e (λz=>nomatch z) h
 | @dT a kvs ea=>
  cases (show u=Value.ref a from rx)
  obtain⟨_,_,xs,_,o,es,ep,h1,h2,_⟩:=(show ObjOk X.prog X.w H s.heap a (.dT kvs) from I.hok a _ ea)
  exact W.kia_one W.kitx_dict I.kIn ⟨o,h1,h2.1⟩ e (λz=>nomatch z) h
 | @ins a C dx fs ea cl ha hn htk hm=>
  cases (show u=Value.ref a from rx)
  obtain⟨mA,O,_⟩:=zfm I.hok ea
  obtain⟨od,J,_⟩:=O.look
  exact W.kia_one (W.kitx_own (cl.get _) cl.hd ha hn htk hm) I.kIn J e (λz=>nomatch z) h
end
end L2
namespace L2
open PySem PySem.Spec PyProof.Rows
structure Room(k:Nat)(A:Around):Prop where
 hd:A.handled=none
 dp:A.depth + 3 * k + 5 < recursionLimit
 un:A.units + 16 * k + 200 < cLine
theorem Room.mono{j k:Nat}{A:Around}(r:Room k A)(h:j<=k):Room j A:=⟨r.hd,by have:=r.dp;omega,by have:=r.un;omega⟩
theorem Room.deeper{k:Nat}{A:Around}(r:Room (k + 1) A)(env:Env):Room k (A.deeper env):=
 ⟨r.hd,by have:=r.dp;show A.depth + 1 + 3 * k + 5 < _;omega,by have:=r.un;show A.units + 3 + 16 * k + 200 < _;omega⟩
theorem Room.in1{k:Nat}{A:Around}(r:Room (k + 1) A):Room k A.in1:=
 ⟨r.hd,by have:=r.dp;show A.depth + 3 * k + 5 < _;omega,by have:=r.un;show A.units + 1 + 16 * k + 200 < _;omega⟩
theorem zj9{A:Around}{C:Addr}{us:List Value}{kw:List (Str×Value)}:(A.under (.builtin "type.__call__" ⟨.ref C :: us,kw⟩)).depth=A.depth + 1:=by
 first | rfl | simp[Around.under,Code.weight,Code.isCreation,Code.isGuard,Code.isCaller,Code.frames,Code.isFrame,guardIds]
theorem zj7{A:Around}{C:Addr}{us:List Value}{kw:List (Str×Value)}:(A.under (.builtin "type.__call__" ⟨.ref C :: us,kw⟩)).units=A.units + 1:=by
 first | rfl | simp[Around.under,Code.cUnits,Code.frames,Code.isFrame]
theorem Room.make{k:Nat}{A:Around}(r:Room (k + 1) A)(C:Addr)(us:List Value)(kw:List (Str×Value)):Room k (A.under (.builtin "type.__call__" ⟨.ref C :: us,kw⟩)):=
 ⟨r.hd,by have:=r.dp;rw[zj9];omega,by have:=r.un;rw[zj7];omega⟩
theorem Room.depth{k:Nat}{A:Around}(r:Room k A):A.depth < recursionLimit:=by have:=r.dp;omega
theorem Room.units{k:Nat}{A:Around}(r:Room k A):A.units + 64 < cLine:=by have:=r.un;omega
def tNil:TA:=λ_ H Q=>Q [] H
def tCons(ta:TE)(tr:TA):TA:=λσ H Q=>ta σ H λx H1=>tr σ H1 λxs H2=>Q (x :: xs) H2
section
variable{X:Cx}{e:Expr}{es:List Expr}{te:TE}{t:TA}{pos:Pos}
theorem zae:PA X [] tNil:=λ_ _ _ _ H Q I h=>Calls.spliced_nil ⟨[],H,I,.nil,h⟩
theorem zaa(ha:PE X e te)(hr:PA X es t)(hs:starEach (e :: es) X.env=(false,eval e X.env) :: starEach es X.env:=by rfl):PA X (e :: es) (tCons te t):=by
 intro pos pins s σ H Q I h
 rw[hs]
 show wpAny _ _ (spliced ((false,eval e X.env) :: backTo pos (starEach es X.env))) _ _ s
 refine Calls.spliced_cons (thn (ha pins s σ H _ I h) λu s1 ⟨x,H1,I1,r1,q1⟩ => ?_)
 exact thn (hr pos pins s1 σ H1 _ I1 q1) λus s2 ⟨xs,H2,I2,r2,q2⟩=>⟨x :: xs,H2,I2,.cons r1 r2,q2⟩
def tTup(t:TA):TE:=λσ H Q=>t σ H λxs H1=>xs.length<=sizeLine/\∀p,H1 p=none->Q (.ref p) (upd H1 p (.tup xs))
def tLst(t:TA):TE:=λσ H Q=>t σ H λxs H1=>xs.length<=sizeLine/\∀p,H1 p=none->Q (.ref p) (upd H1 p (.lst xs))
theorem zc2{x1}(h:PA X es t):PE X (.Tuple es x1 pos) (tTup t):=by
 intro pins s σ H Q I hq
 refine wpAny_Tuple_spliced (thn (h pos pins s σ H _ I hq) λus s1 ⟨xs,H1,I1,r,z,q⟩=>⟨by rw[<- r.length];exact z,?_⟩)
 have hf:H1 s1.heap.objs.size=none:=I1.hok.fresh (Nat.le_refl _)
 refine⟨.ref s1.heap.objs.size,upd H1 s1.heap.objs.size (.tup xs),I1.laid (t':=s1.toks) (λb u e=>Heap.get?_push_of_some _ e) (Nat.le_refl _) ?_,rfl,q _ hf⟩
 exact⟨z,us,r,⟨_,Heap.get?_push_size _ rfl,rfl,_,rfl⟩⟩
theorem zfx(h:PA X es t):PE X (.List es pos) (tLst t):=by
 intro pins s σ H Q I hq
 refine wpAny_List_spliced (thn (h pos pins s σ H _ I hq) λus s1 ⟨xs,H1,I1,r,z,q⟩=>⟨by rw[<- r.length];exact z,?_⟩)
 have hf:H1 s1.heap.objs.size=none:=I1.hok.fresh (Nat.le_refl _)
 refine⟨.ref s1.heap.objs.size,upd H1 s1.heap.objs.size (.lst xs),I1.laid (t':=s1.toks) (λb u e=>Heap.get?_push_of_some _ e) (Nat.le_refl _) ?_,rfl,q _ hf⟩
 exact⟨z,us,0,r,Heap.get?_push_size _ rfl⟩
end
abbrev Sp:=List V->Hp->VK->XK->Prop
abbrev CXT:=List Env->Hp->Shared->XK->Value->Shared->Prop
structure Env0(P:Program)(w:World)(K:W.Frag)(mg:Str->Option Value)(base:Heap)(A:Around)(outer:List Env)(s:Shared)(H:Hp):Prop where
 frames:A.frames=some outer
 mod:Mod K mg base
 bs:∀b o,base.get? b=some o->s.heap.get? b=some o/\H b=none
 bsz:base.objs.size<=s.heap.objs.size
 funs:s.heap.FunFrames base outer
 frf:∀b∈frs outer,H b=none
 hok:HOk P w H s.heap
 bare:AllBare s.gens
def CE(outer:List Env)(P:Program)(w:World)(H:Hp)(s:Shared)(Q:VK)(u:Value)(s':Shared):Prop:=
 ∃v H',s'.os=s.os/\AllBare s'.gens/\Un (frs outer) [] H H' s.heap s'.heap/\HOk P w H' s'.heap/\RelV v u/\Q v H'
def CR(CX:CXT)(outer:List Env)(P:Program)(w:World)(H:Hp)(s:Shared)(Q:VK)(E:XK)(r:Result)(s':Shared):Prop:=
 match r with
 | .ok (.ret u)=>CE outer P w H s Q u s'
 | .ok _=>False
 | .error e=>CX outer H s E e s'
structure FnOk(P:Program)(w:World)(K:W.Frag)(mg:Str->Option Value)(base:Heap)(CX:CXT)(k:Nat)(f:Addr)(fd:FuncData)(ps:List Str)(sp:Sp):Prop where
 len:∀vs H Q E,sp vs H Q E->vs.length=ps.length
 run:∀(A:Around) (outer:List Env) (s:Shared) (H:Hp) (args:Args) (us:List Value) (vs:List V) (Q:VK) (E:XK),Room k A->Env0 P w K mg base A outer s H->BindsTo s fd args (ps.zip us)->Vals vs us->sp vs H Q E ->
  codeAny (model P w) A (.call (.ref f) args) (CR CX outer P w H s Q E) s
theorem FnOk.mono{P:Program}{w:World}{K:W.Frag}{mg:Str->Option Value}{base:Heap}{CX:CXT}{j k:Nat}{f:Addr}{fd:FuncData}{ps:List Str}{sp:Sp}(F:FnOk P w K mg base CX j f fd ps sp)(h:j<=k) :
  FnOk P w K mg base CX k f fd ps sp:=⟨F.len,λA outer s H args us vs Q E hr=>F.run A outer s H args us vs Q E (hr.mono h)⟩
theorem Env0.make{P:Program}{w:World}{K:W.Frag}{mg:Str->Option Value}{base:Heap}{A:Around}{outer:List Env}{s:Shared}{H:Hp}(e:Env0 P w K mg base A outer s H)(C:Addr)(us:List Value)(kw:List (Str×Value)) :
  Env0 P w K mg base (A.under (.builtin "type.__call__" ⟨.ref C :: us,kw⟩)) outer s H:=⟨by first | exact e.frames | (simpa[Around.under,Code.envs,Code.isFrame,pushEnvs]using e.frames),e.mod,e.bs,e.bsz,e.funs,e.frf,e.hok,e.bare⟩
theorem Env0.in1{P:Program}{w:World}{K:W.Frag}{mg:Str->Option Value}{base:Heap}{A:Around}{outer:List Env}{s:Shared}{H:Hp}(e:Env0 P w K mg base A outer s H) :
  Env0 P w K mg base A.in1 outer s H:=⟨e.frames,e.mod,e.bs,e.bsz,e.funs,e.frf,e.hok,e.bare⟩
section
variable{X:Cx}{pins:List (Addr×Obj)}{σ : St}{H:Hp}{s s':Shared}
theorem Inv.env0(I:Inv X pins σ H s):Env0 X.prog X.w X.K X.mg X.base X.A X.stack s H:=
 ⟨I.ok.frames,I.ok.mod,I.bs,Nat.le_trans I.ok.bsz I.sz,I.stack,I.stkFree,I.hok,I.bare⟩
theorem Inv.after{Q:VK}{u:Value}(I:Inv X pins σ H s)(h:CE X.stack X.prog X.w H s Q u s'):EP X pins σ Q u s':=by
 obtain⟨v,H',os,bare,un,hok,r,q⟩:=h
 obtain⟨hh,g,d,t,os'⟩:=s'
 obtain rfl:os'=s.os:=os
 exact⟨v,H',I.call (h':=hh) (g':=g) (d':=d) (t':=t) (ch:=[]) un hok bare (λb z=>absurd z (by simp)),r,q⟩
end
def tCall(sp:Sp)(dvs:List V)(E:XK)(t:TA):TE:=λσ H Q=>t σ H λvs H1=>sp (vs ++ dvs) H1 Q E
def tMeth(C:Addr)(m:Str)(sp:Sp)(dvs:List V)(E:XK)(ta:TE)(t:TA):TE:=λσ H Q=>ta σ H λx H1=>∃a dx fs,x = .ref a/\H1 a=some (.ins C dx fs)/\fs.lookup m=none /\
 t σ H1 λvs H2=>sp (x :: (vs ++ dvs)) H2 Q E
def tMake(C:Addr)(sp:Sp)(dvs:List V)(E:XK)(t:TA):TE:=λσ H Q=>t σ H λvs H1=>∀x dx,H1 x=none->H1 dx=none->dx≠x ->
 sp (.ref x :: (vs ++ dvs)) (upd (upd H1 dx (.own x)) x (.ins C dx [])) (λv H2=>v = .non/\Q (.ref x) H2) E
def Binds(K:W.Frag)(fd:FuncData)(ps:List Str)(ds:List Value):Prop:=
 ∀(s:Shared) (us:List Value),K.In s.heap->(us ++ ds).length=ps.length->BindsTo s fd ⟨us,[]⟩ (ps.zip (us ++ ds))
theorem Binds.all{K:W.Frag}{fd:FuncData}{ps:List Str}(h:∀us:List Value,us.length=ps.length->bindArgs fd ⟨us,[]⟩=pure (ps.zip us)):Binds K fd ps []:=λs us _ hl=>by
 rw[List.append_nil]at hl ⊢
 exact .of_eq (h us hl)
def Passes(CX:CXT)(X:Cx)(E:XK):Prop:=∀(pins:List (Addr×Obj)) (σ : St) (H:Hp) (s:Shared) (e:Value) (s':Shared),Inv X pins σ H s->CX X.stack H s E e s'->X.xe e s'
section
variable{X:Cx}{CX:CXT}{k:Nat}{f C:Addr}{fd:FuncData}{ps:List Str}{sp:Sp}{dvs:List V}{ds:List Value}{E:XK}{x m:Str}{p pos apos:Pos}{e o:Expr}{es:List Expr}{ta:TE}{t:TA}
structure Mk(K:W.Frag)(C f:Addr):Prop where
 makes:W.makesIn K C=true
 init:W.findIn K (.ref C) "__init__" = some (some (.ref f))
 fn:W.isFn K (.ref f)=true
 kp:W.keepIn K (.ref C)=true
end
def PK(X:Cx)(kws:List Keyword)(t:TA):Prop:=
 ∀(pos:Pos) (pins:List (Addr×Obj)) (s:Shared) (σ : St) (H:Hp) (Q:List V->Hp->Prop),Inv X pins σ H s->t σ H Q->wpAny (model X.prog X.w) X.A (evalAll ((backToKw pos (keywordEach kws X.env)).map (·.2))) (AP X pins σ Q) X.xe s
section
variable{X:Cx}{CX:CXT}{k:Nat}{f C:Addr}{fd:FuncData}{ps ks:List Str}{sp:Sp}{E:XK}{x m:Str}{p pos apos kpos:Pos}{e o:Expr}{es:List Expr}{kws:List Keyword}{te ta:TE}{t tk:TA}{nm:Option Str}
structure KBinds(K:W.Frag)(fd:FuncData)(ps ks:List Str)(g:List Value->List Value->List Value)(gV:List V->List V->List V):Prop where
 to:∀(s:Shared) (us ws:List Value),K.In s.heap->(g us ws).length=ps.length->BindsTo s fd ⟨us,ks.zip ws⟩ (ps.zip (g us ws))
 rel:∀{vs:List V} {us:List Value} {zs:List V} {ws:List Value},Vals vs us->Vals zs ws->Vals (gV vs zs) (g us ws)
def tCallK(sp:Sp)(gV:List V->List V->List V)(E:XK)(t tk:TA):TE:=λσ H Q=>t σ H λvs H1=>tk σ H1 λzs H2=>sp (gV vs zs) H2 Q E
variable{g:List Value->List Value->List Value}{gV:List V->List V->List V}
end
structure FnScope(N P:List Str)(sc:Scope):Prop where
 kind:sc.kind = .function
 co:sc.isCoroutine=false
 gen:sc.isGenerator=false
 nd:N.Nodup
 pre:N.take P.length=P
 par:∀x∈P,sc.names.lookup x=some .local\/sc.names.lookup x=some .cell
 nofree:∀y∈sc.names,y.2≠.free
theorem zg2{kindOf:Str->Option NameKind}{x:Str}:∀{binds:List (Str×Value)} {m:Str->Option Value},(∀v,(x,v) ∉ binds)->bindL kindOf binds m x=m x
 | [],_,_=>rfl
 | (n,v) :: r,m,h=>by
  unfold bindL
  rw[zg2 λw hw=>h w (List.mem_cons_of_mem _ hw)]
  split
  ·have:x≠n:=by rintro rfl;exact h v List.mem_cons_self
   simp[this]
  ·rfl
theorem zhb{kindOf:Str->Option NameKind}{x:Str}:∀{binds:List (Str×Value)} {m:Str->Option Value},(∀v,(x,v) ∉ binds)->bindC kindOf binds m x=m x
 | [],_,_=>rfl
 | (n,v) :: r,m,h=>by
  unfold bindC
  rw[zhb λw hw=>h w (List.mem_cons_of_mem _ hw)]
  split
  ·rfl
  ·have:x≠n:=by rintro rfl;exact h v List.mem_cons_self
   simp[this]
theorem zhz{kindOf:Str->Option NameKind}{x:Str}{v:Value}:∀{P:List Str} {vs:List Value} {i:Nat} {m:Str->Option Value},P.Nodup->P[i]? = some x->vs[i]? = some v->kindOf x=some .local ->
  bindL kindOf (P.zip vs) m x=some v
 | [],_,_,_,_,h,_,_=>by simp at h
 | _ :: _,[],_,_,_,_,h,_=>by simp at h
 | p :: P,w :: vs,0,m,nd,h1,h2,hk=>by
  simp at h1 h2;subst h1;subst h2
  show bindL kindOf ((p,w) :: P.zip vs) m p=_
  unfold bindL
  rw[zg2 λv hv=>(List.nodup_cons.mp nd).1 (List.of_mem_zip hv).1,if_pos hk]
  simp
 | p :: P,w :: vs,i + 1,m,nd,h1,h2,hk=>by
  show bindL kindOf ((p,w) :: P.zip vs) m x=_
  unfold bindL
  exact zhz (i:=i) (List.nodup_cons.mp nd).2 (by simpa using h1) (by simpa using h2) hk
theorem zhm{kindOf:Str->Option NameKind}{x:Str}{v:Value}:∀{P:List Str} {vs:List Value} {i:Nat} {m:Str->Option Value},P.Nodup->P[i]? = some x->vs[i]? = some v->kindOf x≠some .local ->
  bindC kindOf (P.zip vs) m x=some v
 | [],_,_,_,_,h,_,_=>by simp at h
 | _ :: _,[],_,_,_,_,h,_=>by simp at h
 | p :: P,w :: vs,0,m,nd,h1,h2,hk=>by
  simp at h1 h2;subst h1;subst h2
  show bindC kindOf ((p,w) :: P.zip vs) m p=_
  unfold bindC
  rw[zhb λv hv=>(List.nodup_cons.mp nd).1 (List.of_mem_zip hv).1,if_neg hk]
  simp
 | p :: P,w :: vs,i + 1,m,nd,h1,h2,hk=>by
  show bindC kindOf ((p,w) :: P.zip vs) m x=_
  unfold bindC
  exact zhm (i:=i) (List.nodup_cons.mp nd).2 (by simpa using h1) (by simpa using h2) hk
def start(N:List Str)(vs:List V):St:=vs.map some ++ List.replicate (N.length - vs.length) none
def cxOf(CX:CXT)(P:Program)(w:World)(K:W.Frag)(mg:Str->Option Value)(base:Heap)(N:List Str)(qual:Str)(scope:Scope)(f:Addr)(cd:Value)(A:Around)(outer:List Env)(s:Shared)(H:Hp)(E:XK):Cx where
 prog:=P
 w:=w
 K:=K
 mg:=mg
 base:=base
 A:=A.deeper (envOfC qual scope s.heap.objs.size f cd)
 N:=N
 s₀:=s
 H₀:=H
 env:=envOfC qual scope s.heap.objs.size f cd
 outer:=outer
 stack:=envOfC qual scope s.heap.objs.size f cd :: outer
 ex:=[]
 calm:=true
 fn:=λ_=>true
 pn:=[]
 xe:=λe s'=>wpAny (model P w) (A.deeper (envOfC qual scope s.heap.objs.size f cd)) (leaving (envOfC qual scope s.heap.objs.size f cd) e) (λ_ s''=>CX outer H s E e s'') (λe' s''=>CX outer H s E e' s'') s'
theorem zji{sc:Scope}{n:Nat}{x:Str}(h:sc.names.lookup x=some .cell):∃c,(cellsFrom n sc.names []).lookup x=some c:=by
 have q:=W.cellsFrom_some sc.names n [] (.inl h)
 exact Option.isSome_iff_exists.mp q
theorem zkw{CX:CXT}{P:Program}{w:World}{K:W.Frag}{mg:Str->Option Value}{base:Heap}{N ps:List Str}{qual:Str}{scope:Scope}{f:Addr}{cd:Value}{A:Around}{outer:List Env}{s s1:Shared}{H:Hp}{E:XK}{us:List Value}{vs:List V}
  (S:FnScope N ps scope) (hd:A.handled=none) (e0:Env0 P w K mg base A outer s H) (hl:vs.length=ps.length) (r:Vals vs us)
  (x:InCallC s s.heap.objs.size (bindL (envOfC qual scope s.heap.objs.size f cd).kindOf (ps.zip us) λ_=>none) (cellsFrom (s.heap.objs.size + 1) scope.names []) (bindC (envOfC qual scope s.heap.objs.size f cd).kindOf (ps.zip us) λ_=>none) s1) :
  Inv (cxOf CX P w K mg base N qual scope f cd A outer s H E) [] (start N vs) H s1:=by
 have hpl:ps.length<=N.length:=by have:=congrArg List.length S.pre;rw[List.length_take]at this;omega
 obtain⟨h1,tk,rfl,hk⟩:=x.done
 have noA:∀b:Addr,b ∉ (cxOf CX P w K mg base N qual scope f cd A outer s H E).ex:=λb z=>absurd (show b∈([]:List Addr) from z) (by simp)
 refine⟨⟨e0.mod,S.kind,rfl,rfl,Nat.le_refl _,λy z c h1 h2 => ?_,λy hy => ?_,λy c _ h => ?_,λ_=>hd,Around.frames_deeper e0.frames,.inr ⟨rfl,rfl⟩,λb z=>absurd z (noA b),e0.bs,e0.bsz,λb _ _=>noA b,λb z=>absurd z (noA b),e0.funs,e0.frf⟩,
  rfl,e0.bare,Un.kept hk,⟨_,x.toInCall.ns,λi y v h1 h2 h3 => ?_⟩,λy c h=>⟨_,x.cell y c h⟩,e0.hok.fresh (Nat.le_refl _),λy c h => ?_,λp hp=>absurd (show p∈([]:List (Addr×Obj)) from hp) (by simp),e0.hok.kept hk,?_⟩
 ·exact name_of_addr x.apart (PySem.mem_of_lookup h1) (PySem.mem_of_lookup h2)
 ·have hy:scope.names.lookup y=some .cell\/scope.names.lookup y=some .free:=hy
  rcases hy with hy | hy
  ·exact zji hy
  ·exact absurd rfl (S.nofree _ (PySem.mem_of_lookup hy))
 ·exact Nat.le_of_lt (x.above y c (PySem.mem_of_lookup h))
 ·have hi:i < vs.length:=by
   unfold start at h2
   by_cases hi:i < vs.length
   ·exact hi
   ·rw[List.getElem?_append_right (by simpa using hi)]at h2
    rw[List.getElem?_replicate]at h2
    split at h2 <;> cases h2
  have ha:vs[i]? = some v:=by
   unfold start at h2
   rw[List.getElem?_append_left (by simpa using hi),List.getElem?_map]at h2
   cases e:vs[i]? with
   | none=>rw[e]at h2;cases h2
   | some a=>rw[e]at h2;cases h2;rfl
  obtain⟨u,hu,rv⟩:=r.get ha
  have hp:ps[i]? = some y:=by
   rw[<- S.pre,List.getElem?_take_of_lt (by omega)];exact h1
  have ndP:ps.Nodup:=by rw[<- S.pre];exact S.nd.sublist (List.take_sublist _ _)
  refine⟨u,rv,?_⟩
  rcases S.par y (List.mem_of_getElem? hp) with k | k
  ·exact .inl ⟨k,zhz ndP hp hu k⟩
  ·obtain⟨c,e⟩:=zji (n:=s.heap.objs.size + 1) k
   refine .inr ⟨.inl k,c,e,?_⟩
   have q:=x.cell y c e
   rw[zhm ndP hp hu (by show scope.names.lookup y≠_;rw[k];decide)]at q
   exact q
 ·exact e0.hok.fresh (Nat.le_of_lt (x.above y c (PySem.mem_of_lookup h)))
 ·unfold start
  show _=N.length
  rw[List.length_append,List.length_map,List.length_replicate]
  omega
theorem zpq{CX:CXT}{P:Program}{w:World}{K:W.Frag}{mg:Str->Option Value}{base:Heap}{k:Nat}{f:Addr}{name qual:Str}{params:Arguments}{body:List Stmt}{scope:Scope}{dV kV doc pm cdv ct oc:Value}{an od:Option Addr}
  {osl:Array (Option Value)} {N ps:List Str} {sp:Sp} (lk:K.lookup f=some ⟨oc,od,.func (W.fnOf name qual params body scope dV kV doc pm an cdv ct),osl⟩) (hcd:W.codeIn K cdv qual=true) (S:FnScope N ps scope)
  (len:∀vs H Q E,sp vs H Q E->vs.length=ps.length)
  (hbody:∀(A:Around) (outer:List Env) (s:Shared) (H:Hp) (vs:List V) (Q:VK) (E:XK),Room k (A.deeper (envOfC qual scope s.heap.objs.size f cdv))->sp vs H Q E ->
   ∃t,PSs (cxOf CX P w K mg base N qual scope f cdv A outer s H E) body t/\t { nx:=λ_ H'=>Q .non H',rt:=Q } (start N vs) H) :
  FnOk P w K mg base CX (k + 1) f (W.fnOf name qual params body scope dV kV doc pm an cdv ct) ps sp:=by
 refine⟨len,λA outer s H args us vs Q E hr e0 hb r hsp => ?_⟩
 have hl:=len _ _ _ _ hsp
 have KX:K.In s.heap:=e0.mod.kin.keeps λb o e=>(e0.bs b o e).1
 have lim:s.heap.NoLimit:=e0.mod.nolimit.keeps λb o e=>(e0.bs b o e).1
 have hkind:∀y∈ps.zip us,scope.names.lookup y.1=some .local\/(scope.names.lookup y.1=some .cell/\((cellsFrom (s.heap.objs.size + 1) scope.names []).lookup y.1).isSome=true):=fun⟨n,v⟩ hy=>by
  rcases S.par n (List.of_mem_zip hy).1 with q | q
  ·exact .inl q
  ·exact .inr ⟨q,W.cellsFrom_some _ _ _ (.inl q)⟩
 refine codeAny_call_function hr.depth (KX _ _ lk) rfl S.co S.gen rfl (W.codeRec_of KX hcd) (hb _ _ _ _ ?_)
 refine wpAny_newFunctionEnv_cells S.kind hkind λenv he s1 x => ?_
 subst he
 refine⟨lim.keeps x.toInCall.keep,codeAny_func ?_⟩
 obtain⟨t,ht,hq⟩:=hbody A outer s H vs Q E (hr.deeper _) hsp
 have I:Inv (cxOf CX P w K mg base N qual scope f cdv A outer s H E) [] (start N vs) H s1:=zkw S hr.hd e0 hl r x
 refine wpAny_mono (ht [] s1 (start N vs) H _ I hq) (λfl s' hs => ?_) λe s' hs=>hs
 have fin:∀{σ':St} {H':Hp} {v:V} {u:Value},Inv (cxOf CX P w K mg base N qual scope f cdv A outer s H E) [] σ' H' s'->RelV v u->Q v H'->CE outer P w H s Q u s':=
  fun{σ' H' v u} J rv q=>⟨v,H',J.os,J.bare,J.base,J.hok,rv,q⟩
 cases fl with
 | ret u=>
  obtain⟨v,σ',H',J,rv,q⟩:=hs
  exact fin J rv q
 | next=>
  obtain⟨σ',H',J,q⟩:=hs
  exact fin (v:=V.non) (u:=Value.none) J rfl q
 | brk=>
  obtain⟨_,_,_,q⟩:=hs
  exact False.elim q
 | cont=>
  obtain⟨_,_,_,q⟩:=hs
  exact False.elim q
end L2
namespace L2
open PySem PySem.Spec PyProof.Rows
section
variable{X:Cx}{x:Str}{p pos:Pos}{e:Expr}{es:List Expr}{t:TA}{id T:String}{r:List V->Hp->VK->Prop}
def tCB(r:List V->Hp->VK->Prop)(t:TA):TE:=λσ H Q=>t σ H λvs H1=>r vs H1 Q
theorem zaq(hc:CallR X (.builtin id) r)(hg:Gl X x)(hm:X.mg x=none)(hv:bootBuiltins x=some (.builtin id))(ha:PA X (e :: es) t)(hn:x≠"__name__":=by decide)(hdb:(x == ("__debug__" : Str))=false:=by decide)
  (he:starEach (e :: es) X.env=(false,eval e X.env) :: starEach es X.env:=by rfl) (hpl:(backTo pos (starEach es X.env)).any (·.1)=false:=by rfl):PE X (.Call (.Name x p) (e :: es) [] pos) (tCB r t):=by
 intro pins s σ H Q I h
 refine wpAny_Call_Name_kw (zdv I hg hm hv ?_ hn hdb)
 exact PyProof.Rows.callWith_builtin1 (thn (ha pos pins s σ H _ I h) λus s1 ⟨vs,H1,I1,r1,q1⟩=>hc pins s1 σ H1 vs us Q I1 r1 q1) he hpl
theorem zbd(hc:CallR X (.type T) r)(hg:Gl X x)(hm:X.mg x=none)(hv:bootBuiltins x=some (.type T))(ha:PA X (e :: es) t)(hn:x≠"__name__":=by decide)(hdb:(x == ("__debug__" : Str))=false:=by decide)
  (he:starEach (e :: es) X.env=(false,eval e X.env) :: starEach es X.env:=by rfl) (hpl:(backTo pos (starEach es X.env)).any (·.1)=false:=by rfl):PE X (.Call (.Name x p) (e :: es) [] pos) (tCB r t):=by
 intro pins s σ H Q I h
 refine wpAny_Call_Name_kw (zdv I hg hm hv ?_ hn hdb)
 exact PyProof.Rows.callWith_type1 (thn (ha pos pins s σ H _ I h) λus s1 ⟨vs,H1,I1,r1,q1⟩=>hc pins s1 σ H1 vs us Q I1 r1 q1) he hpl
end
end L2
namespace HT
open PySem PyProof.Rows
def lexLt:List Int->List Int->Bool
 | [],[]=>false
 | [],_ :: _=>true
 | _ :: _,[]=>false
 | x :: xs,y :: ys=>if x=y then lexLt xs ys else decide (x < y)
theorem lexLt_cons(x y:Int)(xs ys:List Int):lexLt (x :: xs) (y :: ys)=if x=y then lexLt xs ys else decide (x < y):=rfl
theorem zd2:lexLt [] []=false:=rfl
theorem lexLt_nil_cons(y:Int)(ys:List Int):lexLt [] (y :: ys)=true:=rfl
theorem lexLt_cons_nil(x:Int)(xs:List Int):lexLt (x :: xs) []=false:=rfl
theorem eqAt_int(A:Around)(s:Shared)(a:Int)(t:Tok)(c:Int)(u:Tok):∃e,SeqAt.EqAt A s (.int a t) (.int c u) e/\(e=true↔a=c):=
 ⟨(a == c),SeqAt.EqAt.int_int a t c u,by simp⟩
theorem rcLt_int(A:Around)(s:Shared)(a:Int)(t:Tok)(c:Int)(u:Tok)(prog:Program)(w:World)(E:Value->Shared->Prop)(Q:Value->Shared->Prop)(h:Q (.bool (decide (a < c))) s) :
  wpAny (model prog w) A (richCompare .Lt (.int a t) (.int c u)) Q E s:=
 (PyProof.Rows.lt_int h:wpAny (model prog w) A (compareOp .Lt (.int a t) (.int c u)) Q E s)
section
open PySem.SeqAt
open PySem.AutoSeq1 (wpAny_loadPart')
open PySem.MeetsSeq PySem.MeetsSeq2 PySem.MeetsSeq3
theorem zge(l b:Addr)(items items2:Array Value)(n n2:Nat)(dd dd2:Option Addr)(sl sl2:Array (Option Value))(ns ms:List Int)(hi:IntsAre items.toList ns)(hj:IntsAre items2.toList ms) :
  Meets (Builtin.«tuple.__lt__» ⟨[.ref l,.ref b],[]⟩)
   (λ_ R s=>s.heap.get? l=some { cls := .type "tuple",dict:=dd,data := .seq items n,slots:=sl }/\s.heap.get? b=some { cls := .type "tuple",dict:=dd2,data := .seq items2 n2,slots:=sl2 } /\
    R (.ok (.ret (.bool (lexLt ns ms)))) s):=
 .of_wp λprog w A R s h=>by
  obtain⟨hp,g,d,tk,os⟩:=s;obtain⟨hl,hb,h⟩:=h
  have f2:=AutoSeq1.sub_tuple_tuple
  have z1:items.size=ns.length:=by rw[<- hi.length];simp
  have z2:items2.size=ms.length:=by rw[<- hj.length];simp
  wp_walk using wpAny_loadPart' hl,wpAny_loadPart' hb,wpAny_forIn_list _ (λrest b s'=>b.1=none/\s'=⟨hp,g,d,tk,os⟩/\∃(vs ws:List Value) (ns' ms':List Int),rest=vs.zip ws /\
   IntsAre vs ns'/\IntsAre ws ms'/\ns'.length + items2.size=ms'.length + items.size/\R (.ok (.ret (.bool (lexLt ns' ms')))) ⟨hp,g,d,tk,os⟩) _
  case turn=>
   rintro⟨y,x⟩ rest b s' ⟨hb',rfl,vs,ws,ns',ms',hz,hvi,hwi,hlen,hR⟩
   cases hvi with
   | nil=>rw[List.zip_nil_left]at hz;cases hz
   | cons a t hvi'=>
    cases hwi with
    | nil=>rw[List.zip_nil_right]at hz;cases hz
    | cons c u hwi'=>
     rw[List.zip_cons_cons]at hz
     injection hz with hyx hrest
     injection hyx with hy hx
     subst hy hx
     rw[lexLt_cons]at hR
     simp only[List.length_cons]at hlen
     obtain⟨e,he,hiff⟩:=eqAt_int A.in1 ⟨hp,g,d,tk,os⟩ a t c u
     refine wpAny_bind (he prog w _ _ ?_)
     cases e with
     | true=>
      rw[if_pos (hiff.mp rfl)]at hR
      wp_walk
      exact⟨rfl,rfl,_,_,_,_,hrest,hvi',hwi',by omega,hR⟩
     | false=>
      rw[if_neg (λq=>absurd (hiff.mpr q) Bool.false_ne_true)]at hR
      have hri:=rcLt_int A.in1 ⟨hp,g,d,tk,os⟩ a t c u prog w
      wp_walk using hri
      exact⟨_,rfl,by simpa using hR⟩
  case fin=>
   rintro⟨b1,b2⟩ s' ⟨hb',rfl,vs,ws,ns',ms',hz,hvi,hwi,hlen,hR⟩
   simp only at hb'
   subst hb'
   have hv:lexLt ns' ms'=decide (items.size < items2.size):=by
    cases hvi with
    | nil=>
     cases hwi with
     | nil=>
      simp only[List.length_nil]at hlen
      rw[zd2]
      exact(decide_eq_false (by omega)).symm
     | cons c u hw=>
      simp only[List.length_nil,List.length_cons]at hlen
      rw[lexLt_nil_cons]
      exact(decide_eq_true (by omega)).symm
    | cons a t hv=>
     cases hwi with
     | nil=>
      simp only[List.length_nil,List.length_cons]at hlen
      rw[lexLt_cons_nil]
      exact(decide_eq_false (by omega)).symm
     | cons c u hw=>
      rw[List.zip_cons_cons]at hz
      cases hz
   rw[hv]at hR
   wp_walk
   exact⟨_,rfl,by simpa[Builtin.Tuple.tupleCompareSizes]using hR⟩
  case h=>
   exact⟨rfl,rfl,items.toList,items2.toList,ns,ms,rfl,hi,hj,by omega,h⟩
end
section
variable{prog:Program}{w:World}{A:Around}{E:Value->Shared->Prop}{s:Shared}
theorem lt_tupInts{l b:Addr}{items items2:Array Value}{ns ms:List Int}{Q:Value->Shared->Prop}(hl:IsTup s.heap l items)(hb:IsTup s.heap b items2)(hi:IntsAre items.toList ns)(hj:IntsAre items2.toList ms)
  (hu:A.units < cLine) (h:Q (.bool (lexLt ns ms)) s):wpAny (model prog w) A (compareOp .Lt (.ref l) (.ref b)) Q E s:=by
 obtain⟨⟨cls,dd,data,sl⟩,ho,hc,n,hd⟩:=id hl
 obtain⟨⟨cls2,dd2,data2,sl2⟩,ho2,hc2,n2,hd2⟩:=id hb
 simp only at hc hd hc2 hd2
 subst hc hd hc2 hd2
 exact richCompare_meets_room (op := .Lt) ⟨_,ho,rfl⟩ ⟨_,ho2,rfl⟩ PySem.F.slot_tuple_lt PySem.F.entry_tuple_lt (PySem.F.args_tuple_lt_2 _ _) (zge l b items items2 n n2 dd dd2 sl sl2 ns ms hi hj)
  ⟨ho,ho2,show Value.bool (lexLt ns ms)≠Value.notImplemented/\Q (.bool (lexLt ns ms)) s from⟨(λx=>nomatch x),h⟩⟩ hu
theorem cat_tup{t b:Addr}{vs ws:List Value}{Q:Value->Shared->Prop}(ht:IsTup s.heap t vs.toArray)(hb:IsTup s.heap b ws.toArray)(hv:vs≠[])
  (h1:ws=[]->Q (.ref t) s) (h2:ws≠[]->Q (.ref s.heap.objs.size) { s with heap:=s.heap.push { cls := .type "tuple",data := .seq (vs ++ ws).toArray } })
  (hsz:vs.length + ws.length<=sizeLine):wpAny (model prog w) A (binaryOp .Add (.ref t) (.ref b)) Q E s:=by
 obtain⟨⟨cls,dd,data,sl⟩,ho,hc,n,hd⟩:=id ht
 obtain⟨⟨cls2,dd2,data2,sl2⟩,ho2,hc2,n2,hd2⟩:=id hb
 simp only at hc hd hc2 hd2
 subst hc hd hc2 hd2
 have e:vs.toArray ++ ws.toArray=(vs ++ ws).toArray:=by simp
 by_cases hw:ws=[]
 ·exact concat_meets ⟨_,ho,rfl⟩ ⟨_,ho2,rfl⟩ noFill_tuple_add seq_tuple_add PySem.F.slot_tuple_add PySem.F.entry_tuple_add (PySem.F.args_tuple_add_2 _ _)
   (tuple_addW1 t b vs.toArray ws.toArray n n2 dd dd2 sl sl2 (by simpa using hv) (by simp[hw])) ⟨ho,ho2,h1 hw⟩
 ·refine concat_meets ⟨_,ho,rfl⟩ ⟨_,ho2,rfl⟩ noFill_tuple_add seq_tuple_add PySem.F.slot_tuple_add PySem.F.entry_tuple_add (PySem.F.args_tuple_add_2 _ _)
   (tuple_addW2 t b vs.toArray ws.toArray n n2 dd dd2 sl sl2 (by simpa using hv) (by simpa using hw) (by rw[List.size_toArray,List.size_toArray];exact hsz)) ⟨ho,ho2,?_⟩
  rw[e]
  exact h2 hw
def sIx(n d:Nat):Option Int->Nat
 | none=>d
 | some v=>if v < 0 then(v + (n:Int)).toNat else min v.toNat n
theorem sIx_none(n d:Nat):sIx n d none=d:=rfl
theorem sIx_nat(n d k:Nat):sIx n d (some (k:Int))=min k n:=by
 show (if (k:Int) < 0 then((k:Int) + (n:Int)).toNat else min (k:Int).toNat n)=min k n
 rw[if_neg (by omega),Int.toNat_natCast]
end
end HT
namespace L2
open PySem PySem.Spec PyProof.Rows
abbrev TO:=St->Hp->(Option Int->Hp->Prop)->Prop
def PO(X:Cx)(e:Option Expr)(t:TO):Prop:=
 ∀(pins:List (Addr×Obj)) (s:Shared) (σ : St) (H:Hp) (Q:Option Int->Hp->Prop),Inv X pins σ H s->t σ H Q ->
  wpAny (model X.prog X.w) X.A (evalPart e X.env) (λu s'=>∃o H',Inv X pins σ H' s'/\IsPart u o/\Q o H') X.xe s
def tNoPart:TO:=λ_ H Q=>Q none H
def tPart(t:TE):TO:=λσ H Q=>t σ H λx H1=>∃i,x = .int i/\Q (some i) H1
theorem zcw{ns:List Int}:∀{us:List Value},Vals (ns.map V.int) us->IntsAre us ns:=by
 induction ns with
 | nil=>intro us r;rw[List.map_nil]at r;cases r;exact .nil
 | cons n ns ih=>
  intro us r
  rw[List.map_cons]at r
  cases r with
  | cons r1 r2=>
   obtain⟨t,e⟩:=r1
   subst e
   exact .cons n t (ih r2)
section
variable{X:Cx}{e:Expr}{te:TE}{lo hi:Option Expr}{tl th:TO}{pos p2:Pos}
theorem zpc:PO X none tNoPart:=by
 intro pins s σ H Q I h
 rw[evalPart_none]
 exact wpAny_pure ⟨none,H,I,.none,h⟩
theorem ze2(h:PE X e te):PO X (some e) (tPart te):=by
 intro pins s σ H Q I hw
 rw[evalPart_some]
 refine thn (h pins s σ H _ I hw) λu s1 ⟨x,H1,I1,r1,q1⟩ => ?_
 obtain⟨i,rfl,q⟩:=q1
 obtain⟨t,rfl⟩:=r1
 exact⟨some i,H1,I1,.int i t,q⟩
def SlR(X:Cx)(r:V->Option Int->Option Int->Hp->VK->Prop):Prop:=
 ∀(pins:List (Addr×Obj)) (s:Shared) (σ : St) (H:Hp) (x:V) (v vl vu:Value) (lo hi:Option Int) (sl:Addr) (Q:VK),Inv X pins σ H s->RelV x v->s.heap.IsSliceOf sl vl vu .none->IsPart vl lo->IsPart vu hi->r x lo hi H Q ->
  ∃T id,typeLookup (.type T) "__getitem__" = pure (some (.builtin id))/\s.TypeIs v T/\wpAny (model X.prog X.w) X.A (getItem v (.ref sl)) (EP X pins σ Q) X.xe s
def tSl(r:V->Option Int->Option Int->Hp->VK->Prop)(te:TE)(tl th:TO):TE:=λσ H Q=>te σ H λx H1=>tl σ H1 λl H2=>th σ H2 λu H3=>r x l u H3 Q
theorem zf7{r:V->Option Int->Option Int->Hp->VK->Prop}(hr:SlR X r)(he:PE X e te)(hl:PO X lo tl)(hu:PO X hi th):PE X (.Subscript e (.Slice lo hi none p2) pos) (tSl r te tl th):=by
 intro pins s σ H Q I h
 refine Subscript_ (thn (he pins s σ H _ I h) λv s1 ⟨x,H1,I1,r1,q1⟩ => ?_)
 refine wpAny_Slice (thn (hl pins s1 σ H1 _ I1 q1) λvl s2 ⟨l,H2,I2,pl,q2⟩=>thn (hu pins s2 σ H2 _ I2 q2) λvu s3 ⟨u,H3,I3,pu,q3⟩ => ?_)
 rw[evalPart_none]
 refine wpAny_pure ?_
 have I4:Inv X pins σ H3 { s3 with heap:=s3.heap.push { cls := .type "slice",data := .fields #[vl,vu,.none] } }:=I3.kept (t':=s3.toks) λb ob q=>Heap.get?_push_of_some _ q
 obtain⟨T,id,hT,ht,hg⟩:=hr pins { s3 with heap:=s3.heap.push { cls := .type "slice",data := .fields #[vl,vu,.none] } } σ H3 x v vl vu l u s3.heap.objs.size Q I4 r1 (Heap.IsSliceOf.new ..) pl pu q3
 show wpAny (model X.prog X.w) X.A (subscriptTail e (.Slice lo hi none p2) v (.ref s3.heap.objs.size)) (EP X pins σ Q) X.xe { s3 with heap:=s3.heap.push { cls := .type "slice",data := .fields #[vl,vu,.none] } }
 exact tail_any (ops:=[.ref s3.heap.objs.size,v]) ht hT hg (by with_unfolding_all rfl)
def cutV(xs:List V)(lo hi:Option Int):List V:=(xs.drop (HT.sIx xs.length 0 lo)).take (HT.sIx xs.length xs.length hi - HT.sIx xs.length 0 lo)
theorem zin(xs:List V)(lo hi:Option Int):(cutV xs lo hi).length<=xs.length:=by
 unfold cutV
 rw[List.length_take,List.length_drop]
 omega
def rSlT(K:W.Frag):V->Option Int->Option Int->Hp->VK->Prop:=λx lo hi H Q=>∃a xs,x = .ref a/\SqT K H a xs /\
 ¬(HT.sIx xs.length 0 lo=0/\HT.sIx xs.length xs.length hi=xs.length)/\∀p,H p=none->Q (.ref p) (upd H p (.tup (cutV xs lo hi)))
def rLtT(K:W.Frag):R2:=λx y H Q=>∃a b ns ms,x = .ref a/\y = .ref b/\SqT K H a (ns.map V.int)/\SqT K H b (ms.map V.int)/\Q (.bl (HT.lexLt ns ms)) H
theorem zq9(hu:X.A.units < cLine):OpR X (compareOp .Lt) (rLtT X.K):=by
 intro pins s σ H x y v u Q I rx ry h
 obtain⟨a,b,ns,ms,rfl,rfl,ha,hb,q⟩:=h
 cases rx
 cases ry
 obtain⟨its,r1,p1,_⟩:=I.tuple ha
 obtain⟨its2,r2,p2,_⟩:=I.tuple hb
 have i1:IntsAre its.toArray.toList ns:=zcw r1
 have i2:IntsAre its2.toArray.toList ms:=zcw r2
 exact HT.lt_tupInts p1 p2 i1 i2 hu ⟨.bl (HT.lexLt ns ms),H,I,rfl,q⟩
def rCatT(K:W.Frag):R2:=λx y H Q=>∃a b xs ys,x = .ref a/\y = .ref b/\SqT K H a xs/\SqT K H b ys/\xs≠[]/\xs.length + ys.length<=sizeLine /\
 (ys=[]->Q (.ref a) H)/\(ys≠[]->∀p,H p=none->Q (.ref p) (upd H p (.tup (xs ++ ys))))
theorem Vals.nil_iff{xs:List V}{us:List Value}(r:Vals xs us):us=[]↔xs=[]:=by
 cases r with
 | nil=>simp
 | cons _ _=>simp
theorem zeb:OpR X (binaryOp .Add) (rCatT X.K):=by
 intro pins s σ H x y v u Q I rx ry h
 obtain⟨a,b,xs,ys,rfl,rfl,ha,hb,hx,hz,q1,q2⟩:=h
 cases rx
 cases ry
 obtain⟨its,r1,p1,_⟩:=I.tuple ha
 obtain⟨its2,r2,p2,_⟩:=I.tuple hb
 refine HT.cat_tup p1 p2 (λz=>hx (r1.nil_iff.mp z)) (λz=>⟨.ref a,H,I,rfl,q1 (r2.nil_iff.mp z)⟩) (λz => ?_) (by rw[<- r1.length,<- r2.length];exact hz)
 refine⟨.ref s.heap.objs.size,_,I.laid (t':=s.toks) (o := .tup (xs ++ ys)) (λb ob q=>Heap.get?_push_of_some _ q) (Nat.le_refl _) ?_,rfl,q2 (λw=>z (r2.nil_iff.mpr w)) _ (I.hok.fresh (Nat.le_refl _))⟩
 exact⟨by rw[List.length_append];exact hz,_,r1.append r2,IsTup.new _ _⟩
end
end L2
namespace L2
open PySem PySem.Spec PyProof.Rows
def ixN(n:Nat)(i:Int):Option Nat:=if 0<=i then(if i < n then some i.toNat else none) else if -(n:Int)<=i then some (i + n).toNat else none
def atI{α : Type}(xs:List α)(i:Int):Option α:=(ixN xs.length i).bind λj=>xs[j]?
theorem zky{n:Nat}{i:Int}{j:Nat}(h:ixN n i=some j):seqIndex? i n=some j/\j < n/\-(n:Int)<=i/\i < n:=by
 unfold ixN at h
 by_cases h0:0<=i
 ·rw[if_pos h0]at h
  by_cases h1:i < n
  ·rw[if_pos h1]at h
   have e:i.toNat=j:=Option.some.inj h
   exact⟨by rw[seqIndex_of h0 h1,e],by omega,by omega,h1⟩
  ·rw[if_neg h1]at h;cases h
 ·rw[if_neg h0]at h
  by_cases h1 : -(n:Int)<=i
  ·rw[if_pos h1]at h
   have e:(i + n).toNat=j:=Option.some.inj h
   exact⟨by rw[seqIndex_neg (by omega) h1,e],by omega,h1,by omega⟩
  ·rw[if_neg h1]at h;cases h
theorem zk9{α : Type}{xs:List α}{i:Int}{v : α}(h:atI xs i=some v):∃j,seqIndex? i xs.length=some j/\xs[j]? = some v/\j < xs.length/\-(xs.length:Int)<=i/\i < xs.length:=by
 unfold atI at h
 cases e:ixN xs.length i with
 | none=>rw[e]at h;cases h
 | some j=>
  rw[e]at h
  obtain⟨h1,h2,h3,h4⟩:=zky e
  exact⟨j,h1,h,h2,h3,h4⟩
theorem ze6{α : Type}{xs:List α}{j:Nat}{v : α}(h:xs[j]? = some v):atI xs (j:Int)=some v:=by
 have hj:j < xs.length:=(List.getElem?_eq_some_iff.mp h).1
 have e:ixN xs.length (j:Int)=some j:=by
  unfold ixN
  rw[if_pos (by omega),if_pos (by omega)];simp
 unfold atI;rw[e];exact h
def PlainIx(b:Expr):Prop:=∀o i,subscripted b false o i=operate [o,i] (getItem o i)
def IxR(X:Cx)(r:R2):Prop:=
 ∀(value slice:Expr) (pins:List (Addr×Obj)) (s:Shared) (σ : St) (H:Hp) (x y:V) (v u:Value) (Q:VK),Inv X pins σ H s->RelV x v->RelV y u->r x y H Q ->
  subscripted slice false v u=operate [v,u] (getItem v u)->wpAny (model X.prog X.w) X.A (subscriptTail value slice v u) (EP X pins σ Q) X.xe s
def MtR(X:Cx)(id:String)(r:V->List V->Hp->VK->Prop):Prop:=
 ∀(pins:List (Addr×Obj)) (s:Shared) (σ : St) (H:Hp) (x:V) (xs:List V) (v:Value) (us:List Value) (Q:VK),Inv X pins σ H s->RelV x v->Vals xs us->r x xs H Q ->
  wpAny (model X.prog X.w) X.A (call (.builtin id) (v :: us)) (EP X pins σ Q) X.xe s
section
variable{X:Cx}{a b:Expr}{ta tb:TE}{pos:Pos}
theorem za2{r:R2}(hr:IxR X r)(ha:PE X a ta)(hb:PE X b tb)(hs:PlainIx b):PE X (.Subscript a b pos) (tOp r ta tb):=by
 intro pins s σ H Q I h
 exact Subscript_ (binT ha hb I h λv u s2 x y H2 I2 rx ry q=>hr a b pins s2 σ H2 x y v u Q I2 rx ry q (hs _ _))
def rIxL(K:W.Frag):R2:=λx y H Q=>∃p xs i v,x = .ref p/\y = .int i/\SqL K H p xs/\atI xs i=some v/\Q v H
def rIxT(K:W.Frag):R2:=λx y H Q=>∃p xs i v,x = .ref p/\y = .int i/\SqT K H p xs/\atI xs i=some v/\Q v H
def rIxS:R2:=λx y H Q=>∃z i c,x = .str z/\y = .int i/\z.length<=sizeLine/\atI z.cps.toList i=some c/\Q (.str ⟨#[c]⟩) H
theorem zbi:IxR X (rIxL X.K):=by
 intro value slice pins s σ H x y v u Q I rx ry h hs
 obtain⟨p,xs,i,z,rfl,rfl,hq,he,q⟩:=h
 cases rx
 obtain⟨t,rfl⟩:=ry
 obtain⟨its,r,pl,hz⟩:=I.list hq
 obtain⟨j,h1,h2,h3,h4,h5⟩:=zk9 he
 obtain⟨w,ew,rw'⟩:=r.get h2
 have hl:=r.length
 have hn:=line63
 have fin:EP X pins σ Q w s:=⟨z,H,I,rw',q⟩
 by_cases h0:0<=i
 ·have hj:i.toNat=j:=by
   rw[seqIndex_of h0 h5]at h1
   exact Option.some.inj h1
  exact item_listR pl.isList h0 (by omega) (by rw[hj];simpa using ew) fin hs
 ·have hj:(i + (its.toArray.size:Int)).toNat=j:=by
   rw[seqIndex_neg (by omega) h4]at h1
   rw[List.size_toArray,<- hl]
   exact Option.some.inj h1
  exact subscriptTail_builtinR (x:=w) pl.isList.typeIs slot_list_getitem.lookup
   (wpAny_getItem_list_neg (Q:=λr s'=>r=w/\EP X pins σ Q r s') pl.isList (by omega) (by rw[List.size_toArray] <;> omega) (by omega) (by rw[hj];simpa using ew) ⟨rfl,fin⟩) hs
theorem za8:IxR X (rIxT X.K):=by
 intro value slice pins s σ H x y v u Q I rx ry h hs
 obtain⟨p,xs,i,z,rfl,rfl,hq,he,q⟩:=h
 cases rx
 obtain⟨t,rfl⟩:=ry
 obtain⟨its,r,pl,hz⟩:=I.tuple hq
 obtain⟨j,h1,h2,h3,h4,h5⟩:=zk9 he
 obtain⟨w,ew,rw'⟩:=r.get h2
 have hl:=r.length
 have hn:=line63
 have fin:EP X pins σ Q w s:=⟨z,H,I,rw',q⟩
 exact subscriptTail_builtinR (x:=w) pl.typeIs slot_tuple_getitem.lookup
  (getItem_tuple (j:=j) (Q:=λr s'=>r=w/\EP X pins σ Q r s') pl (by omega) (by omega) (by rw[List.size_toArray,<- hl];exact h1) (by simpa using ew) ⟨rfl,fin⟩) hs
def rIx(K:W.Frag):R2:=λx y H Q=>rIxL K x y H Q\/rIxT K x y H Q\/rIxS x y H Q
theorem zjn(its:List Value)(n j:Nat)(u:Value):Obj.mapSeq (·.setIfInBounds j u) { cls := .type "list",data := .seq its.toArray n }={ cls := .type "list",data := .seq (its.set j u).toArray n }:=by
 simp[Obj.mapSeq]
theorem Inv.lst{pins:List (Addr×Obj)}{σ : St}{H:Hp}{s:Shared}{p:Addr}{xs:List V}(I:Inv X pins σ H s)(h:H p=some (.lst xs)) :
  ∃(its:List Value) (n:Nat),Vals xs its/\s.heap.get? p=some { cls := .type "list",data := .seq its.toArray n }/\xs.length<=sizeLine:=by
 obtain⟨z,its,n,r,e⟩:=I.hok p _ h
 exact⟨its,n,r,e,z⟩
theorem Inv.lstUpd{pins:List (Addr×Obj)}{σ : St}{H:Hp}{s:Shared}{p:Addr}{xs ys:List V}{its its':List Value}{n n':Nat}{f:Obj->Obj}(I:Inv X pins σ H s)(h:H p=some (.lst xs))
  (ho:s.heap.get? p=some { cls := .type "list",data := .seq its.toArray n }) (hf:f { cls := .type "list",data := .seq its.toArray n }={ cls := .type "list",data := .seq its'.toArray n' }) (r:Vals ys its') (hz:ys.length<=sizeLine) (t:Nat) :
  Inv X pins σ (upd H p (.lst ys)) { s with heap:=s.heap.update p f,toks:=t }:=by
 have e:(s.heap.update p f).get? p=some { cls := .type "list",data := .seq its'.toArray n' }:=by
  rw[Heap.get?_update_self f ho (by rw[hf] <;> rfl),hf]
 refine I.write (x:=p) (e:=p) (by rw[h];trivial) (.inl rfl) (λb u hb q=>(Heap.get?_update_other _ _ (Ne.symm hb)).trans q) ⟨_,e⟩ ?_
 exact⟨hz,its',n',r,e⟩
def rSetL:V->V->V->Hp->(Hp->Prop)->Prop:=λo i v H Q=>∃p xs k j,o = .ref p/\i = .int k/\H p=some (.lst xs)/\ixN xs.length k=some j/\Q (upd H p (.lst (xs.set j v)))
theorem znl:PSet X rSetL:=by
 intro pins s σ H o i v ov iv u Q I ro ri rv h
 obtain⟨p,xs,k,j,rfl,rfl,hp,hj,q⟩:=h
 cases ro
 obtain⟨t,rfl⟩:=ri
 obtain⟨its,n,r,ho,hz⟩:=I.lst hp
 obtain⟨h1,h2,h3,h4⟩:=zky hj
 have hl:=r.length
 have hn:=line63
 have I':Inv X pins σ (upd H p (.lst (xs.set j v))) { s with heap:=s.heap.update p (Obj.mapSeq (·.setIfInBounds j u)) }:=
  I.lstUpd hp ho (zjn its n j u) (r.set rv j) (by rw[List.length_set];exact hz) s.toks
 by_cases h0:0<=k
 ·have hk:k.toNat=j:=by
   rw[seqIndex_of h0 h4]at h1
   exact Option.some.inj h1
  exact W.ki_setAt ho h0 (by omega) (by rw[List.size_toArray,<- hl];exact h4) (by rw[hk];exact⟨_,I',q⟩)
 ·have hk:(k + (its.toArray.size:Int)).toNat=j:=by
   rw[seqIndex_neg (by omega) h3]at h1
   rw[List.size_toArray,<- hl]
   exact Option.some.inj h1
  exact W.ki_setBack ho (by omega) (by rw[List.size_toArray,<- hl];exact h3) (by omega) (by rw[hk];exact⟨_,I',q⟩)
theorem zhs(lo hi:Option Int)(n:Nat):(sliceBounds lo hi none n).1=((HT.sIx n 0 lo:Nat):Int)/\(sliceBounds lo hi none n).2.1=((HT.sIx n n hi:Nat):Int)/\(sliceBounds lo hi none n).2.2=1:=by
 refine⟨?_,?_,rfl⟩
 ·cases lo with
  | none=>simp[sliceBounds,HT.sIx]
  | some i=>
   simp only[sliceBounds,HT.sIx,Option.getD_none,show (1:Int) > 0 by decide,if_true]
   by_cases h:i < 0
   ·simp only[h,if_true] <;> omega
   ·simp only[h,if_false] <;> omega
 ·cases hi with
  | none=>simp[sliceBounds,HT.sIx]
  | some i=>
   simp only[sliceBounds,HT.sIx,Option.getD_none,show (1:Int) > 0 by decide,if_true]
   by_cases h:i < 0
   ·simp only[h,if_true] <;> omega
   ·simp only[h,if_false] <;> omega
theorem zf4(its:List Value)(lo hi:Option Int):slicePick its.toArray lo hi none=((its.drop (HT.sIx its.length 0 lo)).take (HT.sIx its.length its.length hi - HT.sIx its.length 0 lo)).toArray:=by
 obtain⟨h1,h2,h3⟩:=zhs lo hi its.toArray.size
 unfold slicePick
 rw[h1,h2,h3]
 simp only[sliceRange_one,pick_run,List.size_toArray] <;> rfl
def rSlL(K:W.Frag):V->Option Int->Option Int->Hp->VK->Prop:=λx lo hi H Q=>∃a xs,x = .ref a/\SqL K H a xs/\∀p,H p=none->Q (.ref p) (upd H p (.lst (cutV xs lo hi)))
theorem zox:SlR X (rSlL X.K):=by
 intro pins s σ H x v vl vu lo hi sl Q I rx hs pl pu h
 obtain⟨a,xs,rfl,hx,q⟩:=h
 cases rx
 obtain⟨its,r,ht,hz⟩:=I.list hx
 have hlen:=r.length
 refine⟨"list",_,slot_list_getitem.lookup,ht.isList.typeIs,?_⟩
 refine wpAny_getItem_list_slice ht.isList hs pl pu .none (by simp) ?_ (by rw[List.size_toArray] <;> omega)
 rw[zf4,<- hlen]
 refine⟨.ref s.heap.objs.size,_,I.laid (t':=s.toks) (o := .lst (cutV xs lo hi)) (λb ob q=>Heap.get?_push_of_some _ q) (Nat.le_refl _) ?_,rfl,q _ (I.hok.fresh (Nat.le_refl _))⟩
 exact⟨Nat.le_trans (zin xs lo hi) hz,_,0,(r.drop (HT.sIx xs.length 0 lo)).take (HT.sIx xs.length xs.length hi - HT.sIx xs.length 0 lo),Heap.get?_push_size _ rfl⟩
def flatV:V->Bool
 | .non=>true
 | .bl _=>true
 | .int _=>true
 | .str _=>true
 | _=>false
def eqV:V->V->Bool
 | .non,.non=>true
 | .bl a,.bl b=>a == b
 | .bl a,.int b=>(if a then 1 else 0) == b
 | .int a,.bl b=>a == (if b then 1 else 0)
 | .int a,.int b=>a == b
 | .str a,.str b=>a == b
 | _,_=>false
def eqU(x:V)(u:Value):Bool:=match u with
 | .none=>eqV .non x
 | .bool b=>eqV (.bl b) x
 | .int i _=>eqV (.int i) x
 | .str z _=>eqV (.str z) x
 | _=>false
def inV(x:V)(xs:List V):Bool:=xs.any λy=>eqV y x
def rIn(K:W.Frag)(neg:Bool):R2:=λx y H Q=>∃p xs,y = .ref p/\(SqL K H p xs\/SqT K H p xs)/\flatV x=true/\xs.all flatV=true/\Q (.bl (if neg then !inV x xs else inV x xs)) H
theorem zhc:CallR X (.builtin "len") (λxs H Q=>∃p ys,xs=[.ref p]/\(SqL X.K H p ys\/SqT X.K H p ys)/\Q (.int ys.length) H):=by
 intro pins s σ H xs us Q I r h
 obtain⟨p,ys,rfl,hq,q⟩:=h
 obtain⟨u,rfl,rx⟩:=vals1 r
 cases rx
 have hn:=line63
 rcases hq with hq | hq
 ·obtain⟨its,r',pl,hz⟩:=I.list hq
  have hlen:=r'.length
  exact Calls.call_len_list pl.isList (by simp only[List.size_toArray] <;> omega) ⟨.int ys.length,H,I.tok _,⟨s.toks + 1,by rw[List.size_toArray,hlen]⟩,q⟩
 ·obtain⟨its,r',pl,hz⟩:=I.tuple hq
  have hlen:=r'.length
  exact len_tuple pl (by simp only[List.size_toArray] <;> omega) ⟨.int ys.length,H,I.tok _,⟨s.toks + 1,by rw[List.size_toArray,hlen]⟩,q⟩
theorem zhu:CallR X (.builtin "len") (λxs H Q=>∃z,xs=[.str z]/\z.length<=sizeLine/\Q (.int z.length) H):=by
 intro pins s σ H xs us Q I r h
 obtain⟨z,rfl,hz,q⟩:=h
 obtain⟨u,rfl,t,rfl⟩:=vals1 r
 have hn:=line63
 exact len_str (by omega) ⟨.int z.length,H,I.tok _,⟨_,rfl⟩,q⟩
theorem zg1:CallR X (.type "list") (λxs H Q=>∃p ys,xs=[.ref p]/\(SqL X.K H p ys\/SqT X.K H p ys)/\∀l,H l=none->Q (.ref l) (upd H l (.lst ys))):=by
 intro pins s σ H xs us Q I r h
 obtain⟨p,ys,rfl,hq,q⟩:=h
 obtain⟨u,rfl,rx⟩:=vals1 r
 cases rx
 have fin:∀(its:List Value),Vals ys its->ys.length<=sizeLine->∀(h':Heap) (c':Nat),(∀b o',s.heap.get? b=some o'->h'.get? b=some o') ->
   h'.get? s.heap.objs.size=some { cls := .type "list",dict:=none,data := .seq its.toArray c',slots := #[] }->EP X pins σ Q (.ref s.heap.objs.size) { s with heap:=h' }:=λits r' hz h' c' kp e=>
  ⟨.ref s.heap.objs.size,_,I.laid (t':=s.toks) kp (Nat.le_refl _) (show ObjOk X.prog X.w _ h' _ (.lst ys) from⟨hz,its,c',r',e⟩),rfl,q _ (I.hok.fresh (Nat.le_refl _))⟩
 rcases hq with hq | hq
 ·obtain⟨its,r',pl,hz⟩:=I.list hq
  have hlen:=r'.length
  obtain⟨o,ho,hc,n,hd⟩:=pl.isList
  exact call_list_seq p (.inl rfl) ho hc hd (λh' c' kp e=>fin its r' hz h' c' kp e) (by simp only[List.size_toArray] <;> omega)
 ·obtain⟨its,r',pl,hz⟩:=I.tuple hq
  have hlen:=r'.length
  obtain⟨o,ho,hc,n,hd⟩:=pl
  exact call_list_seq p (.inr rfl) ho hc hd (λh' c' kp e=>fin its r' hz h' c' kp e) (by simp only[List.size_toArray] <;> omega)
theorem zgi:CallR X (.type "tuple") (λxs H Q=>∃p ys,xs=[.ref p]/\((SqL X.K H p ys/\∀l,H l=none->Q (.ref l) (upd H l (.tup ys)))\/(SqT X.K H p ys/\Q (.ref p) H))):=by
 intro pins s σ H xs us Q I r h
 obtain⟨p,ys,rfl,h⟩:=h
 obtain⟨u,rfl,rx⟩:=vals1 r
 cases rx
 rcases h with⟨hq,q⟩ | ⟨hq,q⟩
 ·obtain⟨its,r',pl,hz⟩:=I.list hq
  have hlen:=r'.length
  refine call_tuple_list pl.isList (λh' kp => ?_) (by simp only[List.size_toArray] <;> omega)
  have I1:Inv X pins σ H { s with heap:=h' }:=I.kept (t':=s.toks) kp
  have I2:Inv X pins σ (upd H h'.objs.size (.tup ys)) { s with heap:=h'.push { cls := .type "tuple",data := .seq its.toArray } }:=
   I1.laid (t':=s.toks) (λb o e=>Heap.get?_push_of_some _ e) (Nat.le_refl _) (show ObjOk X.prog X.w _ _ _ (.tup ys) from⟨hz,its,r',IsTup.new _ _⟩)
  exact⟨.ref h'.objs.size,_,I2,rfl,q _ (I1.hok.fresh (Nat.le_refl _))⟩
 ·obtain⟨its,r',pl,hz⟩:=I.tuple hq
  exact call_tuple_same pl ⟨.ref p,H,I,rfl,q⟩
def tyV(K:W.Frag)(T:String)(x:V)(H:Hp):Prop:=match x with
 | .str _=>T = "str"
 | .int _=>T = "int"
 | .ref p=>(T = "list"/\∃xs,SqL K H p xs)\/(T = "tuple"/\∃o,K.lookup p=some o/\o.cls = .type "tuple"/\o.dict=none) \/
   (T = "dict"/\((∃kvs,H p=some (.dK kvs))\/∃kvs,H p=some (.dT kvs)))\/(T = "set"/\∃S n,H p=some (.set S n))
 | _=>False
theorem zqx{pins:List (Addr×Obj)}{σ : St}{H:Hp}{s:Shared}{T:String}{x:V}{v:Value}(I:Inv X pins σ H s)(r:RelV x v)(ty:tyV X.K T x H) :
  s.TypeIs v T/\∀a,v = .ref a->∃ob,s.heap.get? a=some ob/\ob.dict=none:=by
 cases x with
 | str z=>
  obtain⟨t,rfl⟩:=r
  cases (show T = "str" from ty)
  exact⟨typeIs_str s z t,λ_ e=>nomatch e⟩
 | int i=>
  obtain⟨t,rfl⟩:=r
  cases (show T = "int" from ty)
  exact⟨typeIs_int s i t,λ_ e=>nomatch e⟩
 | ref p=>
  cases r
  rcases ty with⟨rfl,xs,hq⟩ | ⟨rfl,o,hk,hc,hd⟩ | ⟨rfl,hk⟩ | ⟨rfl,S,n,hk⟩
  ·obtain⟨its,_,pl,_⟩:=I.list hq
   refine⟨pl.isList.typeIs,λa e => ?_⟩
   cases e
   obtain⟨o,n,e,c,hd,_⟩:=pl
   exact⟨o,e,hd⟩
  ·refine⟨⟨o,I.kIn p o hk,hc⟩,λa e => ?_⟩
   cases e
   exact⟨o,I.kIn _ o hk,hd⟩
  ·have z:∃o,s.heap.get? p=some o/\o.ExactDict:=by
    rcases hk with⟨kvs,hk⟩ | ⟨kvs,hk⟩
    ·obtain⟨_,_,_,_,o,_,_,e,ex,_⟩:=I.hok p _ hk
     exact⟨o,e,ex⟩
    ·obtain⟨_,_,_,_,o,_,_,e,ex,_⟩:=I.hok p _ hk
     exact⟨o,e,ex⟩
   obtain⟨o,e,ex⟩:=z
   refine⟨⟨o,e,ex.1⟩,λa e2 => ?_⟩
   cases e2
   exact⟨o,e,ex.2.1⟩
  ·obtain⟨o,_,_,_,e,ex,_⟩:=I.hok p _ hk
   refine⟨⟨o,e,ex.1⟩,λa e2 => ?_⟩
   cases e2
   exact⟨o,e,ex.2.1⟩
 | _=>exact False.elim ty
def tBM0(K:W.Frag)(T:String)(r:V->List V->Hp->VK->Prop)(to:TE):TE:=λσ H Q=>to σ H λx H1=>tyV K T x H1/\r x [] H1 Q
def tBM(K:W.Frag)(T:String)(r:V->List V->Hp->VK->Prop)(to:TE)(t:TA):TE:=λσ H Q=>to σ H λx H1=>tyV K T x H1/\t σ H1 λxs H2=>r x xs H2 Q
variable{o e:Expr}{es:List Expr}{to:TE}{t:TA}{name:Str}{apos cpos:Pos}{T id:String}{r:V->List V->Hp->VK->Prop}
theorem zmg(pa:PlainAttrs T)(slot:Slot T name id)(hty:typeOf (.builtin id)=pure (.type "method_descriptor"))(hm:MtR X id r)(ho:PE X o to)(ha:PA X (e :: es) t)
  (hbase:attributeBase o name X.env (eval o X.env)=eval o X.env:=by rfl)
  (hfew:((backTo cpos (starEach (e :: es) X.env)).all (λx => !x.1) && (backToKw cpos (keywordEach [] X.env)).all (λx=>x.1.isSome)
   && decide ((e :: es).length + ([]:List Keyword).length + (if ([]:List Keyword).isEmpty then 0 else 1) < 30))=true:=by rfl)
  (hline:(apos.endLine == cpos.line)=true:=by rfl) (hs:starEach (e :: es) X.env=(false,eval e X.env) :: starEach es X.env:=by rfl) (hplain:(backTo cpos (starEach es X.env)).any (·.1)=false:=by rfl) :
  PE X (.Call (.Attribute o name apos) (e :: es) [] cpos) (tBM X.K T r to t):=by
 intro pins s σ H Q I h
 refine wpAny_Call_method_late hbase hfew hline rfl (thn (ho pins s σ H _ I h) λv s1 ⟨x,H1,I1,r1,ty,q1⟩ => ?_)
 obtain⟨h1,h2⟩:=zqx I1 r1 ty
 refine⟨T,id,pa,slot,hty,h1,h2,?_⟩
 have hA:=ha cpos pins s1 σ H1 _ I1 q1
 rw[hs]at hA ⊢
 refine Calls.callWith_builtin (by show (false || (backTo cpos (starEach es X.env)).any (·.1))=false;rw[hplain] <;> rfl) (Calls.evalArgs_plain ?_)
 exact thn hA λus s2 ⟨vs,H2,I2,r2,q2⟩=>hm pins s2 σ H2 x vs v us Q I2 r1 r2 q2
/- xs.append(e),list.index on a module's tuple .. are MtR facts of 06m -/
end
end L2
namespace L2
open PySem PySem.Spec PyProof.Rows
def MtM(X:Cx)(id:String)(r:V->List V->Hp->VK->Prop):Prop:=
 ∀(pins:List (Addr×Obj)) (s:Shared) (σ : St) (H:Hp) (x:V) (xs:List V) (v:Value) (us:List Value) (Q:VK),Inv X pins σ H s->RelV x v->Vals xs us->r x xs H Q ->
  wpAny (model X.prog X.w) X.A (call (.builtin id) (v :: us)) (EP X pins σ Q) X.xe s
theorem Vals.one:∀{x:V} {us:List Value},Vals [x] us->∃u,us=[u]/\RelV x u
 | _,_,.cons r .nil=>⟨_,rfl,r⟩
theorem Vals.two:∀{x y:V} {us:List Value},Vals [x,y] us->∃u v,us=[u,v]/\RelV x u/\RelV y v
 | _,_,_,.cons r (.cons q .nil)=>⟨_,_,rfl,r,q⟩
section
variable{X:Cx}{pins:List (Addr×Obj)}{σ : St}{H:Hp}{s:Shared}{l b:Addr}{xs ys zs:List V}
theorem Inv.lset{its its':List Value}{n:Nat}{f:Array Value->Array Value}{t':Nat}(I:Inv X pins σ H s)(hH:H l=some (.lst xs))
  (e:s.heap.get? l=some { cls := .type "list",data := .seq its.toArray n }) (hf:f its.toArray=its'.toArray) (hv:Vals ys its') (hz:ys.length<=sizeLine) :
  Inv X pins σ (upd H l (.lst ys)) { s with heap:=s.heap.update l (Obj.mapSeq f),toks:=t' }:=by
 have q:=PySem.IsL.update e f
 rw[hf]at q
 refine I.write (x:=l) (e:=l) (by rw[hH];exact trivial) (.inl rfl) (λb' u hb hu=>(Heap.get?_update_other s.heap (Obj.mapSeq f) (Ne.symm hb)).trans hu) ⟨_,q⟩ ?_
 exact⟨hz,its',_,hv,q⟩
theorem Inv.lnew{its:List Value}{t':Nat}(I:Inv X pins σ H s)(hv:Vals ys its)(hz:ys.length<=sizeLine) :
  Inv X pins σ (upd H s.heap.objs.size (.lst ys)) { s with heap:=s.heap.push { cls := .type "list",data := .seq its.toArray },toks:=t' }:=
 I.laid (λ_ _ q=>Heap.get?_push_of_some _ q) (Nat.le_refl _) ⟨hz,its,0,hv,Heap.get?_push_size _ rfl⟩
theorem Inv.fresh(I:Inv X pins σ H s):H s.heap.objs.size=none:=I.hok.fresh (Nat.le_refl _)
theorem Inv.lstM(I:Inv X pins σ H s)(hH:H l=some (.lst xs)):xs.length<=sizeLine/\∃(its:List Value) (n:Nat),Vals xs its/\xs.length=its.length/\s.heap.get? l=some { cls := .type "list",data := .seq its.toArray n }:=by
 obtain⟨z,its,n,r,e⟩:=I.hok l _ hH
 exact⟨z,its,n,r,r.length,e⟩
end
section
variable{X:Cx}
def rAppend:V->List V->Hp->VK->Prop:=λx vs H Q=>∃l xs y,x = .ref l/\vs=[y]/\H l=some (.lst xs)/\xs.length < sizeLine/\Q .non (upd H l (.lst (xs ++ [y])))
theorem zdf:MtM X "list.append" rAppend:=by
 intro pins s σ H x vs v us Q I rx rv h
 obtain⟨l,xs,y,rfl,rfl,hH,hz,q⟩:=h
 cases rx
 obtain⟨u,rfl,ru⟩:=rv.one
 obtain⟨z,its,n,r,hl,e⟩:=I.lstM hH
 refine call_meets F.slot_list_append ⟨_,e,rfl⟩ F.entry_list_append (F.args_list_append_2 _ _) (PySem.list_append l its.toArray n u (by rw[List.size_toArray];omega)) ⟨e,?_⟩
 refine⟨.non,_,I.lset (its':=its ++ [u]) hH e (by simp) (r.append (.cons ru .nil)) ?_,rfl,q⟩
 rw[List.length_append,List.length_singleton]
 omega
def rExtend:V->List V->Hp->VK->Prop:=λx vs H Q=>∃l b xs zs,x = .ref l/\vs=[.ref b]/\H l=some (.lst xs)/\H b=some (.lst zs)/\xs.length + zs.length<=sizeLine/\Q .non (upd H l (.lst (xs ++ zs)))
def rPop:V->List V->Hp->VK->Prop:=λx vs H Q=>∃l xs y,x = .ref l/\vs=[]/\H l=some (.lst xs)/\xs[xs.length - 1]? = some y/\Q y (upd H l (.lst xs.dropLast))
def rPopAt:V->List V->Hp->VK->Prop:=λx vs H Q=>∃l xs i k y,x = .ref l/\vs=[.int i]/\H l=some (.lst xs)/\-(2 ^ 63)<=i/\i < 2 ^ 63/\seqIndex? i xs.length=some k/\xs[k]? = some y/\Q y (upd H l (.lst (xs.eraseIdx k)))
def rReverse:V->List V->Hp->VK->Prop:=λx vs H Q=>∃l xs,x = .ref l/\vs=[]/\H l=some (.lst xs)/\Q .non (upd H l (.lst xs.reverse))
def rClear:V->List V->Hp->VK->Prop:=λx vs H Q=>∃l xs,x = .ref l/\vs=[]/\H l=some (.lst xs)/\Q .non (upd H l (.lst []))
def rCat:R2:=λx y H Q=>∃l b xs zs,x = .ref l/\y = .ref b/\H l=some (.lst xs)/\H b=some (.lst zs)/\xs.length + zs.length<=sizeLine/\∀p,H p=none->Q (.ref p) (upd H p (.lst (xs ++ zs)))
def rRep:R2:=λx y H Q=>∃l k xs,x = .ref l/\y = .int k/\H l=some (.lst xs)/\-(2 ^ 63)<=k/\k < 2 ^ 63/\xs.length * k.toNat<=sizeLine /\
 ∀p,H p=none->Q (.ref p) (upd H p (.lst (List.replicate k.toNat xs).flatten))
end
section
variable{prog:Program}{w:World}{A:Around}{E:Value->Shared->Prop}{s:Shared}
end
section
variable{X:Cx}
end
end L2
namespace Att
open PySem PySem.W PySem.Calls PyProof.Rows
theorem zfh{P:Params}{h:Heap}:∀(ns:List Int) (vs:List Value),WellAll P h vs (ns.map WData.int)->IntsAre vs ns:=by
 intro ns
 induction ns with
 | nil=>
  intro vs w
  rw[List.map_nil]at w
  cases w
  exact .nil
 | cons n ns ih=>
  intro vs w
  rw[List.map_cons]at w
  cases w with
  | cons a b=>
   cases a
   exact .cons _ _ (ih _ b)
theorem zlc{l:OpenLaw}{n:Nat}(hn:l.most=some n){P:Params}{h:Heap}{args:List WData}{vals:List Value}
  (hpre:l.row.toRowW.claim.pre args=true) (hwl:WellAll P h vals args) :
  ∃a vs ns,vals=[Value.ref a]/\args=[WData.list (ns.map WData.int)]/\h.get? a=some { cls := .type "list",data := .seq vs.toArray }/\IntsAre vs ns/\ns.length<=n:=by
 have hsh:WShape.hasAll [] args [.list .int]=true:=(pre_splitW hpre).1
 have hc:l.pre.holds [] { args:=args }=true:=(pre_splitW hpre).2
 obtain⟨d,r,rfl,h1,h2⟩:=hasAllW_cons hsh
 obtain rfl:=hasAllW_nil h2
 obtain⟨xs,rfl,h3⟩:=hasW_list h1
 obtain⟨ns,rfl⟩:=items_int h3
 have hlen:ns.length<=n:=by
  unfold OpenLaw.pre at hc
  have h4:(WTm.not (.lt (.lit (.int (n:Int))) (.len (.arg 0)))).holds [] { args:=[.list (ns.map .int)] }=true:=by
   have h4:=(holds_andW hc).1
   rw[hn]at h4
   exact h4
  have h5:=condW_of h4 (w_not (w_lt w_lit (w_len_list (w_arg rfl))))
  rw[List.length_map]at h5
  refine Nat.le_of_not_lt λq => ?_
  have q':(n:Int) < ((ns.length:Nat):Int):=by omega
  first
   | (rw[decide_eq_true q']at h5;exact absurd h5 (by decide))
   | (simp at h5;omega)
 cases hwl with
 | cons w1 w2=>
  cases w2
  cases w1 with
  | list ho hall=>exact⟨_,_,ns,rfl,rfl,ho,zfh ns _ hall,hlen⟩
theorem zkf(l:OpenLaw)(args:List WData):l.row.toRowW.claim.post args (.bool true) args=true:=
 postW_of (r:=l.row.toRowW) (X:=(true == true))
  (show WShape.has [] (.bool true) .bool=true by first | rfl | decide | simp[WShape.has,WShape.arms,WShape.armsAll])
  (show (WTm.eq .res (.lit (.bool true))).value [] { args:=args,res:=some (.bool true),after:=args }=some (.bool (true == true)) from w_eq_bool (w_res rfl) w_lit) rfl
theorem attach_call{l:OpenLaw}{n:Nat}{q:Program}{loose:List Str}{XP:(Str->Option Value)->Heap->Prop}{YP:World->Heap->Prop}{d:DefRec}
  (hn:l.most=some n) (hdf:d.params.defaults=[])
  (call:∀(w:World) (s₀ s₁:Shared) (mg mb:Str->Option Value) (fa:Addr) (o:Obj) (pm cd doc:Value) (a:Addr) (vs:List Value) (ns:List Int),
   Ground q loose [] XP w s₀ mg mb s₁.heap->YP w s₁.heap ->
   s₁.heap.get? fa=some o->o.data = .func (docDef d.name d.params d.body d.scope pm cd doc)->s₁.heap.CodeRec cd d.name->mg d.name=some (.ref fa) ->
   s₁.heap.get? a=some { cls := .type "list",data := .seq vs.toArray }->IntsAre vs ns->ns.length<=n->s₁.gens = #[] ->
   codeAny (model l.prog w) callerA (.call (.ref fa) ⟨[.ref a],[]⟩) (λr s'=>r = .ok (.ret (.bool true))/\OldK s₁.heap s'.heap/\s'.os=s₁.os/\AllBare s'.gens) s₁) :
  WalkO q loose XP YP l.row.toRowW d [] (λf vs=>PySem.call f vs):=by
 intro w s₀ s₁ mg mb G Y fa o pm cd doc dV kV ho hd hcd hD hmg hg args vals as hpre hlay hrd hwl hlo
 obtain rfl:dV = .none:=Dflts.none hD hdf
 obtain rfl:kV = .none:=Dflts.noKw hD
 obtain⟨a,vs,ns,rfl,rfl,hobj,hints,hlen⟩:=zlc hn hpre hwl
 refine enter_call (codeAny_mono (call w s₀ s₁ mg mb fa o pm cd doc a vs ns G Y ho (fd_plain hd) hcd hmg hobj hints hlen hg) λr s' hq => ?_)
 obtain⟨rfl,h2,h3,h4⟩:=hq
 exact⟨.inl ⟨.bool true,.bool true,[],rfl,λ_=>rfl,.bool true,zkf l _,λ_=>⟨List.Pairwise.nil,λ_ hm=>(nomatch hm)⟩⟩,h2,h3,h4⟩
section
variable{prog:Program}{w:World}{A:Around}{E:Value->Shared->Prop}{s:Shared}{K:Frag}
def noObjs(h:Heap):Heap:={ h with objs := #[] }
def ledger(h:Heap)(L d:Addr):List (Addr×Obj):=(List.range h.objs.size).filterMap λa=>if a=L\/a=d then none else(h.get? a).map λo=>(a,o)
end
end Att
namespace L2
open PySem PySem.Spec PyProof.Rows
theorem zhx:∀{vs:List Value} {ns:List Int},IntsAre vs ns->Vals (ns.map V.int) vs
 | _,_,.nil => .nil
 | _,_,.cons n t h => .cons ⟨t,rfl⟩ (zhx h)
def Only(H:Hp):Prop:=∀b,H b=none\/∃o xs,H b=some (.frz o (.lst xs))
end L2
namespace L2
open PySem PySem.Spec PyProof.Rows
abbrev KOf{K:W.Frag}{h:Heap}(_:K.In h):W.Frag:=K
end L2
namespace L2
open PySem PySem.Spec PyProof.Rows
def inClass(s:Stmt)(j:Nat):Stmt:=match s with
 | .ClassDef _ _ _ body _ _ _ _ _ _ _=>body.getD j (.Pass ⟨0,0,0,0⟩)
 | _ => .Pass ⟨0,0,0,0⟩
def defArgs(s:Stmt):Arguments:=match s with
 | .FunctionDef _ a _ _ _ _ _ _ _ _=>a
 | _=>{ posonlyargs:=[],args:=[],vararg:=none,kwonlyargs:=[],kw_defaults:=[],kwarg:=none,defaults:=[] }
def defBody(s:Stmt):List Stmt:=match s with
 | .FunctionDef _ _ b _ _ _ _ _ _ _=>b
 | _=>[]
def defScope(s:Stmt):Scope:=match s with
 | .FunctionDef _ _ _ _ _ _ sc _ _ _=>sc
 | _=>{ kind := .function,names:=[],isGenerator:=false,isCoroutine:=false }
abbrev CX0:CXT:=λ_ _ _ _ _ _=>False
abbrev E0:XK:=λ_ _ _=>False
structure Fun(K:W.Frag)(x qual:Str)(st:Stmt)(f:Addr)(fd:FuncData):Prop where
 ex:∃(oc:Value) (od:Option Addr) (kV doc pm:Value) (an:Option Addr) (cdv ct:Value) (osl:Array (Option Value)),
  fd=W.fnOf x qual (defArgs st) (defBody st) (defScope st) .none kV doc pm an cdv ct/\K.lookup f=some ⟨oc,od,.func fd,osl⟩/\W.codeIn K cdv qual=true
 kp:W.keepIn K (.ref f)=true
section
variable{P:Program}{w:World}{K:W.Frag}{mg:Str->Option Value}{base:Heap}
end
section
variable{X:Cx}
theorem pv(i:Nat){x:Str}{pos:Pos}(hN:X.N[i]? = some x:=by rfl)(hv:Vis X.env.scope x:=by first | exact Or.inl rfl | exact Or.inr (Or.inl rfl) | exact Or.inr (Or.inr rfl))(hd:(x == ("__debug__" : Str))=false:=by decide)
  (hcd:(x == ("__classdict__" : Str))=false:=by decide):PE X (.Name x pos) (tVar i):=zp4 hN hv hd hcd
end
theorem iteF{A B:Prop}(h:B):if false=true then A else B:=by
 rw[if_neg Bool.false_ne_true]
 exact h
theorem iteT{A B:Prop}(h:A):if true=true then A else B:=by
 rw[if_pos rfl]
 exact h
def Same(H H':Hp):Prop:=∀b o,H b=some o->H' b=some o
theorem Same.refl(H:Hp):Same H H:=λ_ _ h=>h
theorem Same.trans{H H1 H2:Hp}(a:Same H H1)(b:Same H1 H2):Same H H2:=λc o h=>b c o (a c o h)
theorem Same.free{H H':Hp}(e:Same H H'){l:Addr}(h:H' l=Option.none):H l=Option.none:=by
 cases q:H l with
 | none=>rfl
 | some o=>
  rw[e l o q]at h
  cases h
theorem Same.seq{K:W.Frag}{H H':Hp}{a:Addr}{xs:List V}(e:Same H H')(h:SqL K H a xs):SqL K H' a xs:=by
 rcases h with(h | ⟨o,h⟩) | h
 ·exact .inl (.inl (e _ _ h))
 ·exact .inl (.inr ⟨o,e _ _ h⟩)
 ·exact .inr h
end L2
set_option Elab.async false
set_option linter.all false
set_option maxRecDepth 100000
namespace L2
open PySem PySem.Spec PyProof.Rows
abbrev kn(b:Bool):String:=if b then "tuple_iterator" else "list_iterator"
def SqAt(b:Bool)(h:Heap)(l:Addr)(items:Array Value):Prop:=match b with
 | true=>h.IsTuple l items
 | false=>h.IsList l items
def IterAt(b:Bool)(h:Heap)(it l:Addr)(i:Nat):Prop:=match b with
 | true=>h.IsTupleIter it l i
 | false=>h.IsListIter it l i
theorem SqAt.at{b:Bool}{h h':Heap}{l:Addr}{items:Array Value}(x:SqAt b h l items)(e:∀o,h.get? l=some o->h'.get? l=some o):SqAt b h' l items:=by
 cases b with
 | true=>obtain⟨o,ho,r⟩:=x;exact⟨o,e o ho,r⟩
 | false=>exact Heap.IsList.at x e
theorem IterAt.obj{b:Bool}{h:Heap}{it l:Addr}{i:Nat}(x:IterAt b h it l i):∃o,h.get? it=some o/\∀v,o.data≠.cell v:=by
 cases b <;> (obtain⟨o,ho,c,d⟩:=x;exact⟨o,ho,λv z=>by rw[d]at z;cases z⟩)
theorem IterAt.at{b:Bool}{h h':Heap}{it l:Addr}{i:Nat}(x:IterAt b h it l i)(e:∀o,h.get? it=some o->h'.get? it=some o):IterAt b h' it l i:=by
 cases b <;> (obtain⟨o,ho,r⟩:=x;exact⟨o,e o ho,r⟩)
section
variable{prog:Program}{w:World}{A:Around}{E:Value->Shared->Prop}{s:Shared}
theorem zgj{it t:Addr}{i:Nat}{items:Array Value}{x:Value}{Q:Value->Shared->Prop}(hit:s.heap.IsTupleIter it t i)(ht:s.heap.IsTuple t items)(hx:items[i]? = some x)
  (hQ:∀h',h'.IsTupleIter it t (i + 1)->Heap.SameBut it s.heap h'->Q x { s with heap:=h' }):wpAny (model prog w) A (Builtin.SmallTypes.nextOf (.ref it)) Q E s:=by
 obtain⟨o,ho,hc,hd⟩:=id hit;obtain⟨ol,hol,_,nl,hdl⟩:=ht
 unfold Builtin.SmallTypes.nextOf;refine wpAny_bind (wpAny_callSpecial?_slot (name:=Str.ofString "__next__") hit.typeIs F.slot_tuple_iterator_next (wpAny_call_entry F.slot_tuple_iterator_next hit.typeIs F.entry_tuple_iterator_next ?_ (F.args_tuple_iterator_next_1 _)))
 show wpAny _ _ (field (.ref it) 0 >>= _) _ _ s;refine wpAny_bind (wpAny_field ho hd (x := .ref t) rfl ?_)
 show wpAny _ _ (if (Value.ref t == Value.none)=true then _ else _) _ _ s;rw[if_neg (by intro z;cases z)]
 show wpAny _ _ (field (.ref it) 1 >>= _) _ _ s;refine wpAny_bind (wpAny_field ho hd (x := .int i 0) rfl ?_)
 show wpAny _ _ (seqItems? (.ref t) >>= _) _ _ s;refine wpAny_bind (wpAny_seqItems hol hdl ?_);simp only[Int.toNat_natCast,hx]
 refine wpAny_bind (wpAny_setField ho hd (by simp) (wpAny_pure ⟨x,rfl,wpAny_pure (hQ _ ⟨_,Heap.get?_update_self _ ho (Obj.isFreed_of_fields (Obj.data_mapFields hd _)),(Obj.cls_mapFields ..).trans hc,?_⟩ (Heap.SameBut.update ..))⟩))
 rw[Obj.data_mapFields hd];simp[rawInt]
theorem zg3{it t:Addr}{i:Nat}{items:Array Value}{Q:Value->Shared->Prop}(hh:A.handled=none)(hit:s.heap.IsTupleIter it t i)(ht:s.heap.IsTuple t items)(hx:items[i]? = none)
  (hE:∀h' e,Heap.ExtBut it s.heap h'->(∃o,h'.get? e=some o/\o.cls = .type "StopIteration")->E (.ref e) { s with heap:=h' }):wpAny (model prog w) A (Builtin.SmallTypes.nextOf (.ref it)) Q E s:=by
 obtain⟨o,ho,hc,hd⟩:=id hit;obtain⟨ol,hol,_,nl,hdl⟩:=ht
 unfold Builtin.SmallTypes.nextOf;refine wpAny_bind (wpAny_callSpecial?_slot (name:=Str.ofString "__next__") hit.typeIs F.slot_tuple_iterator_next (wpAny_call_entry F.slot_tuple_iterator_next hit.typeIs F.entry_tuple_iterator_next ?_ (F.args_tuple_iterator_next_1 _)))
 show wpAny _ _ (field (.ref it) 0 >>= _) _ _ s;refine wpAny_bind (wpAny_field ho hd (x := .ref t) rfl ?_)
 show wpAny _ _ (if (Value.ref t == Value.none)=true then _ else _) _ _ s;rw[if_neg (by intro z;cases z)]
 show wpAny _ _ (field (.ref it) 1 >>= _) _ _ s;refine wpAny_bind (wpAny_field ho hd (x := .int i 0) rfl ?_)
 show wpAny _ _ (seqItems? (.ref t) >>= _) _ _ s;refine wpAny_bind (wpAny_seqItems hol hdl ?_);simp only[Int.toNat_natCast,hx]
 refine wpAny_bind (wpAny_rule (wpAny_bind (wpAny_setField ho hd (by simp) ?_)));show wpAny _ _ (newExc (.type "StopIteration") [] >>= _) _ _ _
 refine wpAny_bind ?_;simp only[newExc,newTuple]
 refine wpAny_bind (wpAny_newObj_type ?_ (by size_fits));refine wpAny_bind (m:=firstArgMember _ _) (wpAny_of_eq (a:=Value.none) (by first | rfl | (simp only[firstArgMember];rfl)) ?_)
 refine wpAny_newObj_type ?_ (by size_fits);simp only[raiseNew];refine wpAny_bind (wpAny_handled ?_)
 first | rw[show A.in1.handled=none from hh] | rw[hh]
 refine wpAny_bind (wpAny_pure (wpAny_throw ?_));exact hE _ _ (((Heap.SameBut.update ..).extBut.push _).push _) ⟨_,Heap.get?_push_size _ rfl,rfl⟩
theorem zfe{b:Bool}{it l:Addr}{i:Nat}{items:Array Value}{x:Value}{Q:Value->Shared->Prop}(hit:IterAt b s.heap it l i)(hl:SqAt b s.heap l items)(hx:items[i]? = some x)
  (hQ:∀h',IterAt b h' it l (i + 1)->Heap.SameBut it s.heap h'->Q x { s with heap:=h' }):wpAny (model prog w) A (Builtin.SmallTypes.nextOf (.ref it)) Q E s:=by
 cases b with
 | true=>exact zgj hit hl hx hQ
 | false=>exact wpAny_nextOf_list_item hit hl hx hQ
theorem ziw{b:Bool}{it l:Addr}{i:Nat}{items:Array Value}{Q:Value->Shared->Prop}(hh:A.handled=none)(hit:IterAt b s.heap it l i)(hl:SqAt b s.heap l items)(hx:items[i]? = none)
  (hE:∀h' e,Heap.ExtBut it s.heap h'->(∃o,h'.get? e=some o/\o.cls = .type "StopIteration")->E (.ref e) { s with heap:=h' }):wpAny (model prog w) A (Builtin.SmallTypes.nextOf (.ref it)) Q E s:=by
 cases b with
 | true=>exact zg3 hh hit hl hx hE
 | false=>exact wpAny_nextOf_list_end hh hit hl hx hE
theorem zl8{b:Bool}{l:Addr}{items:Array Value}{Q:Value->Shared->Prop}(hl:SqAt b s.heap l items)
  (hQ:Q (.ref s.heap.objs.size) { s with heap:=s.heap.push { cls := .type (kn b),data := .fields #[.ref l,.int 0 0] } }):wpAny (model prog w) A (pyIter (.ref l)) Q E s:=by
 cases b with
 | true=>exact wpAny_pyIter_tuple hl hQ
 | false=>exact wpAny_pyIter_list hl hQ
structure ZSt(b1 b2:Bool)(z TI TO i1 i2 l1 l2:Addr)(f0:Value)(k:Nat)(h:Heap):Prop where
 zip:IsZip h z TI TO f0
 ti:IsPair h TI (.ref i1) (.ref i2)
 to:∃a b,IsPair h TO a b
 it1:IterAt b1 h i1 l1 k
 it2:IterAt b2 h i2 l2 k
theorem ZSt.at{b1 b2:Bool}{z TI TO i1 i2 l1 l2:Addr}{f0:Value}{k:Nat}{h h':Heap}(x:ZSt b1 b2 z TI TO i1 i2 l1 l2 f0 k h)(e:∀b∈[z,TI,TO,i1,i2],∀o,h.get? b=some o->h'.get? b=some o) :
  ZSt b1 b2 z TI TO i1 i2 l1 l2 f0 k h':=
 ⟨e z (by simp) _ x.zip,e TI (by simp) _ x.ti,let ⟨a,b,q⟩:=x.to;⟨a,b,e TO (by simp) _ q⟩,x.it1.at λo q=>e i1 (by simp) o q,x.it2.at λo q=>e i2 (by simp) o q⟩
theorem zn5{b1 b2:Bool}{z TI TO i1 i2 l1 l2:Addr}{k:Nat}{xs ys:Array Value}{x y:Value}{Q:Value->Shared->Prop}(D:ZipApart z TI TO i1 i2 l1 l2)(S:ZSt b1 b2 z TI TO i1 i2 l1 l2 .none k s.heap)
  (hl1:SqAt b1 s.heap l1 xs) (hl2:SqAt b2 s.heap l2 ys) (hx:xs[k]? = some x) (hy:ys[k]? = some y)
  (hQ:∀h',ZSt b1 b2 z TI TO i1 i2 l1 l2 (rawInt s.heap.objs.size) (k + 1) h'->IsPair h' s.heap.objs.size x y->h'.objs.size=s.heap.objs.size + 1 ->
   (∀c o,c≠z->c≠TO->c≠i1->c≠i2->s.heap.get? c=some o->h'.get? c=some o)->Q (.ref s.heap.objs.size) { s with heap:=h' }) :
  wpAny (model prog w) A (Builtin.«zip.__next__» ⟨[.ref z],[]⟩) (λfin s'=>∃v,fin = .done (.ret v)/\Q v s') E s:=by
 obtain⟨hz,hTI,⟨a,b,hTO⟩,h1,h2⟩:=S
 show wpAny _ _ (field (.ref z) 2 >>= _) _ _ _;refine wpAny_bind (wpAny_field hz rfl (x := .bool false) rfl ?_)
 show wpAny _ _ (field (.ref z) 3 >>= _) _ _ _;refine wpAny_bind (wpAny_field hz rfl (x := .ref TI) rfl (wpAny_bind (wpAny_seqItems hTI rfl ?_)))
 show wpAny _ _ (Builtin.SmallTypes.ownedTupleIsFree (.ref z) >>= _) _ _ _;refine wpAny_bind ?_
 unfold Builtin.SmallTypes.ownedTupleIsFree;refine wpAny_bind (wpAny_field hz rfl (x := .none) rfl (wpAny_pure ?_));simp only[if_true]
 refine wpAny_bind (wpAny_rule (wpAny_bind (wpAny_field hz rfl (x := .ref TO) rfl ?_)))
 refine wpAny_bind (wpAny_setField_rec hz (by simp) λg1 z1 e1 => ?_)
 replace z1:IsZip g1 z TI TO .ellipsis:=z1;refine wpAny_bind ?_
 simp only[List.zipIdx_cons,List.zipIdx_nil,List.forIn_cons,List.forIn_nil];refine wpAny_bind (wpAny_bind (wpAny_onRaise ?_))
 show wpAny _ _ (Builtin.SmallTypes.nextOf (.ref i1) >>= _) _ _ _
 have k1:∀c o,c≠z->s.heap.get? c=some o->g1.get? c=some o:=λc o hc e=>e1.extBut c o hc e
 refine wpAny_bind (zfe (s:={ s with heap:=g1 }) (h1.at λo q=>k1 i1 o D.i1z q) (hl1.at λo q=>k1 l1 o D.l1z q) hx λg2 t2 e2=>wpAny_pure ?_)
 have k2:∀c o,c≠z->c≠i1->s.heap.get? c=some o->g2.get? c=some o:=λc o hc hd e=>e2.extBut c o hd (k1 c o hc e)
 have p2:IsPair g2 TO a b:=k2 TO _ D.TOz D.TOi1 hTO
 refine wpAny_bind (wpAny_seqItems p2 rfl (wpAny_bind (wpAny_updateSeq_pair p2 λg3 p3 e3 => ?_)))
 replace p3:IsPair g3 TO x b:=p3;refine wpAny_bind (wpAny_letGo (wpAny_pure ?_));refine wpAny_bind (wpAny_bind (wpAny_onRaise ?_))
 show wpAny _ _ (Builtin.SmallTypes.nextOf (.ref i2) >>= _) _ _ _
 have k3:∀c o,c≠z->c≠i1->c≠TO->s.heap.get? c=some o->g3.get? c=some o:=λc o hc hd he e=>e3.extBut c o he (k2 c o hc hd e)
 refine wpAny_bind (zfe (s:={ s with heap:=g3 }) (h2.at λo q=>k3 i2 o D.i2z D.i12.symm D.TOi2.symm q) (hl2.at λo q=>k3 l2 o D.l2z D.l2i1 D.l2TO q) hy λg4 t4 e4=>wpAny_pure ?_)
 have p4:IsPair g4 TO x b:=e4.extBut _ _ D.TOi2 p3
 refine wpAny_bind (wpAny_seqItems p4 rfl (wpAny_bind (wpAny_updateSeq_pair p4 λg5 p5 e5 => ?_)))
 replace p5:IsPair g5 TO x y:=p5;refine wpAny_bind (wpAny_letGo (wpAny_pure (wpAny_pure ?_)));refine wpAny_bind (wpAny_seqItems p5 rfl (wpAny_bind (wpAny_newTuple ?_)))
 have sz:g5.objs.size=s.heap.objs.size:=by rw[e5.1,e4.1,e3.1,e2.1,e1.1]
 have z5:IsZip g5 z TI TO .ellipsis:=e5.extBut _ _ D.TOz.symm (e4.extBut _ _ D.i2z.symm (e3.extBut _ _ D.TOz.symm (e2.extBut _ _ D.i1z.symm z1)))
 have k5:∀c o,c≠z->c≠TO->c≠i1->c≠i2->s.heap.get? c=some o->g5.get? c=some o:=λc o c1 c2 c3 c4 e=>e5.extBut _ _ c2 (e4.extBut _ _ c4 (k3 c o c1 c3 c2 e))
 have t5:IterAt b1 g5 i1 l1 (k + 1):=t2.at λo q=>e5.extBut _ _ D.TOi1.symm (e4.extBut _ _ D.i12 (e3.extBut _ _ D.TOi1.symm q))
 have u5:IterAt b2 g5 i2 l2 (k + 1):=t4.at λo q=>e5.extBut _ _ D.TOi2.symm q
 have zlt:z < g5.objs.size:=Heap.lt_size z5
 show wpAny _ _ (Builtin.SmallTypes.ownedTupleHandOut (.ref z) (.ref g5.objs.size) >>= _) _ _ _;refine wpAny_bind ?_
 unfold Builtin.SmallTypes.ownedTupleHandOut
 have z6:IsZip (g5.push { cls := .type "tuple",data := .seq #[x,y] }) z TI TO .ellipsis:=Heap.get?_push_of_some _ z5
 refine wpAny_bind (wpAny_setField_rec z6 (by simp) λg7 z7 e7 => ?_)
 replace z7:IsZip g7 z TI TO (rawInt g5.objs.size):=z7;refine wpAny_setField_rec z7 (by simp) λg8 z8 e8 => ?_
 replace z8:IsZip g8 z TI TO (rawInt g5.objs.size):=z8
 have up:∀c o,c≠z->g5.get? c=some o->g8.get? c=some o:=λc o c1 e=>e8.extBut _ _ c1 (e7.extBut _ _ c1 (Heap.get?_push_of_some _ e))
 have p8:IsPair g8 g5.objs.size x y:=e8.extBut _ _ (Nat.ne_of_gt zlt) (e7.extBut _ _ (Nat.ne_of_gt zlt) (Heap.get?_push_size _ rfl))
 have s8:g8.objs.size=g5.objs.size + 1:=by rw[e8.1,e7.1,Heap.size_push]
 rw[sz]at z8 p8 s8
 refine wpAny_pure ⟨_,rfl,?_⟩
 show Q (.ref g5.objs.size) _
 rw[sz]
 exact hQ g8 ⟨z8,up _ _ D.TIz (k5 TI _ D.TIz D.TITO D.TIi1 D.TIi2 hTI),⟨_,_,up _ _ D.TOz p5⟩,t5.at λo q=>up _ o D.i1z q,u5.at λo q=>up _ o D.i2z q⟩ p8 s8 λc o c1 c2 c3 c4 e=>up c o c1 (k5 c o c1 c2 c3 c4 e)
theorem zpg{b1 b2:Bool}{z TI TO i1 i2 l1 l2:Addr}{k:Nat}{xs ys:Array Value}{Q:Fin->Shared->Prop}(hh:A.handled=none)(D:ZipApart z TI TO i1 i2 l1 l2)(S:ZSt b1 b2 z TI TO i1 i2 l1 l2 .none k s.heap)
  (hl1:SqAt b1 s.heap l1 xs) (hl2:SqAt b2 s.heap l2 ys) (hend:xs[k]? = none\/ys[k]? = none)
  (hE:∀h' e,(∀c o,c≠z->c≠TO->c≠i1->c≠i2->s.heap.get? c=some o->h'.get? c=some o)->(∃o,h'.get? e=some o/\o.cls = .type "StopIteration")->E (.ref e) { s with heap:=h' }) :
  wpAny (model prog w) A (Builtin.«zip.__next__» ⟨[.ref z],[]⟩) Q E s:=by
 obtain⟨hz,hTI,⟨a,b,hTO⟩,h1,h2⟩:=S
 show wpAny _ _ (field (.ref z) 2 >>= _) _ _ _;refine wpAny_bind (wpAny_field hz rfl (x := .bool false) rfl ?_)
 show wpAny _ _ (field (.ref z) 3 >>= _) _ _ _;refine wpAny_bind (wpAny_field hz rfl (x := .ref TI) rfl (wpAny_bind (wpAny_seqItems hTI rfl ?_)))
 show wpAny _ _ (Builtin.SmallTypes.ownedTupleIsFree (.ref z) >>= _) _ _ _;refine wpAny_bind ?_
 unfold Builtin.SmallTypes.ownedTupleIsFree;refine wpAny_bind (wpAny_field hz rfl (x := .none) rfl (wpAny_pure ?_));simp only[if_true]
 refine wpAny_bind (wpAny_rule (wpAny_bind (wpAny_field hz rfl (x := .ref TO) rfl ?_)))
 refine wpAny_bind (wpAny_setField_rec hz (by simp) λg1 z1 e1 => ?_)
 replace z1:IsZip g1 z TI TO .ellipsis:=z1;refine wpAny_bind ?_
 simp only[List.zipIdx_cons,List.zipIdx_nil,List.forIn_cons,List.forIn_nil];refine wpAny_bind (wpAny_bind (wpAny_onRaise ?_))
 show wpAny _ _ (Builtin.SmallTypes.nextOf (.ref i1) >>= _) _ _ _
 have k1:∀c o,c≠z->s.heap.get? c=some o->g1.get? c=some o:=λc o hc e=>e1.extBut c o hc e
 cases hx:xs[k]? with
 | none=>
  refine wpAny_bind (ziw (s:={ s with heap:=g1 }) hh (h1.at λo q=>k1 i1 o D.i1z q) (hl1.at λo q=>k1 l1 o D.l1z q) hx λg2 e e2 he => ?_)
  obtain⟨oe,hoe,hce⟩:=he
  have z2:IsZip g2 z TI TO .ellipsis:=e2 _ _ D.i1z.symm z1
  have ez:e≠z:=λq=>by subst q;rw[z2]at hoe;cases hoe;simp at hce
  exact wpAny_setField_rec z2 (by simp) λg3 _ e3=>hE g3 e (λc o c1 _ c3 _ q=>e3.extBut _ _ c1 (e2 _ _ c3 (k1 c o c1 q))) ⟨oe,e3.extBut _ _ ez hoe,hce⟩
 | some x=>
  have hy:ys[k]? = none:=by
   rcases hend with q | q
   ·rw[hx]at q;cases q
   ·exact q
  refine wpAny_bind (zfe (s:={ s with heap:=g1 }) (h1.at λo q=>k1 i1 o D.i1z q) (hl1.at λo q=>k1 l1 o D.l1z q) hx λg2 t2 e2=>wpAny_pure ?_)
  have k2:∀c o,c≠z->c≠i1->s.heap.get? c=some o->g2.get? c=some o:=λc o hc hd e=>e2.extBut c o hd (k1 c o hc e)
  have p2:IsPair g2 TO a b:=k2 TO _ D.TOz D.TOi1 hTO
  refine wpAny_bind (wpAny_seqItems p2 rfl (wpAny_bind (wpAny_updateSeq_pair p2 λg3 p3 e3 => ?_)))
  refine wpAny_bind (wpAny_letGo (wpAny_pure ?_));refine wpAny_bind (wpAny_bind (wpAny_onRaise ?_))
  show wpAny _ _ (Builtin.SmallTypes.nextOf (.ref i2) >>= _) _ _ _
  have k3:∀c o,c≠z->c≠i1->c≠TO->s.heap.get? c=some o->g3.get? c=some o:=λc o hc hd he e=>e3.extBut c o he (k2 c o hc hd e)
  refine wpAny_bind (ziw (s:={ s with heap:=g3 }) hh (h2.at λo q=>k3 i2 o D.i2z D.i12.symm D.TOi2.symm q) (hl2.at λo q=>k3 l2 o D.l2z D.l2i1 D.l2TO q) hy λg4 e e4 he => ?_)
  obtain⟨oe,hoe,hce⟩:=he
  have z4:IsZip g4 z TI TO .ellipsis:=e4 _ _ D.i2z.symm (e3.extBut _ _ D.TOz.symm (e2.extBut _ _ D.i1z.symm z1))
  have ez:e≠z:=λq=>by subst q;rw[z4]at hoe;cases hoe;simp at hce
  exact wpAny_setField_rec z4 (by simp) λg5 _ e5=>hE g5 e (λc o c1 c2 c3 c4 q=>e5.extBut _ _ c1 (e4 _ _ c4 (k3 c o c1 c3 c2 q))) ⟨oe,e5.extBut _ _ ez hoe,hce⟩
end
end L2
namespace L2
open PySem PySem.Spec PyProof.Rows
abbrev zq1(b1:Bool)(h:Heap)(l1:Addr):Heap:=h.push { cls := .type (kn b1),data := .fields #[.ref l1,.int 0 0] }
abbrev zq2(b1 b2:Bool)(h:Heap)(l1 l2:Addr):Heap:=(zq1 b1 h l1).push { cls := .type (kn b2),data := .fields #[.ref l2,.int 0 0] }
abbrev zq3(b1 b2:Bool)(h:Heap)(l1 l2:Addr):Heap:=(zq2 b1 b2 h l1 l2).push { cls := .type "tuple",data := .seq #[.ref h.objs.size,.ref (zq1 b1 h l1).objs.size] }
abbrev zq4(b1 b2:Bool)(h:Heap)(l1 l2:Addr):Heap:=(zq3 b1 b2 h l1 l2).push { cls := .type "tuple",data := .seq #[.none,.none] }
abbrev zq5(b1 b2:Bool)(h:Heap)(l1 l2:Addr):Heap:=(zq4 b1 b2 h l1 l2).push { cls := .type "zip",data := .fields #[.none,.bool false,.bool false,.ref (zq2 b1 b2 h l1 l2).objs.size,.ref (zq3 b1 b2 h l1 l2).objs.size] }
theorem zmz(b1 b2:Bool)(l1 l2:Addr)(xs ys:Array Value):Meets (Builtin.«zip.__new__» ⟨[.type "zip",.ref l1,.ref l2],[]⟩) (λ_ R s=>SqAt b1 s.heap l1 xs/\SqAt b2 s.heap l2 ys /\
   R (.ok (.ret (.ref (zq4 b1 b2 s.heap l1 l2).objs.size))) { s with heap:=zq5 b1 b2 s.heap l1 l2 }):=
 .of_wp λprog w A R s h=>by
  obtain⟨hp,g,d,tk,os⟩:=s;obtain⟨hl1,hl2,h⟩:=h
  have hsub:=sub_zip
  have q1:SqAt b1 (Shared.heap ⟨hp,g,d,tk,os⟩) l1 xs:=hl1
  have q2:SqAt b2 (Shared.heap ⟨hp.push { cls := .type (kn b1),data := .fields #[.ref l1,.int 0 0] },g,d,tk,os⟩) l2 ys:=SqAt.at hl2 λo e=>Heap.get?_push_of_some _ e
  wp_walk using zl8 q1,zl8 q2
  exact⟨_,rfl,h⟩
theorem zmx{prog:Program}{w:World}{A:Around}{E:Value->Shared->Prop}{s:Shared}{b1 b2:Bool}{l1 l2:Addr}{xs ys:Array Value}{Q:Value->Shared->Prop}(hl1:SqAt b1 s.heap l1 xs)(hl2:SqAt b2 s.heap l2 ys)
  (h:∀h',ZSt b1 b2 (s.heap.objs.size + 4) (s.heap.objs.size + 2) (s.heap.objs.size + 3) s.heap.objs.size (s.heap.objs.size + 1) l1 l2 .none 0 h'->(∀c o,s.heap.get? c=some o->h'.get? c=some o)->h'.objs.size=s.heap.objs.size + 5 ->
   Q (.ref (s.heap.objs.size + 4)) { s with heap:=h' }):wpAny (model prog w) A (call (.type "zip") [.ref l1,.ref l2]) Q E s:=by
 refine callType_new F.called_zip (by decide) (F.typeCall_zip_2 _ _) (F.newCall_zip_2 _ _) (λobj=>F.args_object_init_3 obj _ _) F.entry_zip_new (zmz b1 b2 l1 l2 xs ys) ⟨hl1,hl2,?_⟩
 have z1:(zq1 b1 s.heap l1).objs.size=s.heap.objs.size + 1:=Heap.size_push ..
 have z2:(zq2 b1 b2 s.heap l1 l2).objs.size=s.heap.objs.size + 2:=by rw[Heap.size_push,z1]
 have z3:(zq3 b1 b2 s.heap l1 l2).objs.size=s.heap.objs.size + 3:=by rw[Heap.size_push,z2]
 have z4:(zq4 b1 b2 s.heap l1 l2).objs.size=s.heap.objs.size + 4:=by rw[Heap.size_push,z3]
 have z5:(zq5 b1 b2 s.heap l1 l2).objs.size=s.heap.objs.size + 5:=by rw[Heap.size_push,z4]
 have up1:∀{h:Heap} {o:Obj} {c:Addr} {u:Obj},h.get? c=some u->(h.push o).get? c=some u:=λe=>Heap.get?_push_of_some _ e
 have g5:(zq5 b1 b2 s.heap l1 l2).get? (zq4 b1 b2 s.heap l1 l2).objs.size=some _:=Heap.get?_push_size _ rfl
 have g4:(zq5 b1 b2 s.heap l1 l2).get? (zq3 b1 b2 s.heap l1 l2).objs.size=some _:=up1 (Heap.get?_push_size _ rfl)
 have g3:(zq5 b1 b2 s.heap l1 l2).get? (zq2 b1 b2 s.heap l1 l2).objs.size=some _:=up1 (up1 (Heap.get?_push_size _ rfl))
 have g2:(zq5 b1 b2 s.heap l1 l2).get? (zq1 b1 s.heap l1).objs.size=some _:=up1 (up1 (up1 (Heap.get?_push_size _ rfl)))
 have g1:(zq5 b1 b2 s.heap l1 l2).get? s.heap.objs.size=some _:=up1 (up1 (up1 (up1 (Heap.get?_push_size _ rfl))))
 show _/\_
 rw[z2,z3,z4]at g5
 rw[z1,z2]at g3
 rw[z3]at g4
 rw[z1]at g2
 rw[z4]
 refine⟨⟨_,g5,rfl⟩,h _ ⟨g5,g3,⟨_,_,g4⟩,?_,?_⟩ (λc o x=>up1 (up1 (up1 (up1 (up1 x))))) z5⟩
 ·cases b1 <;> exact⟨_,g1,rfl,rfl⟩
 ·cases b2 <;> exact⟨_,g2,rfl,rfl⟩
theorem zey{prog:Program}{w:World}{A:Around}{E:Value->Shared->Prop}{s:Shared}{b1 b2:Bool}{z TI TO i1 i2 l1 l2:Addr}{k:Nat}{xs ys:Array Value}{x y:Value}{Q:Option Value->Shared->Prop}(D:ZipApart z TI TO i1 i2 l1 l2)
  (S:ZSt b1 b2 z TI TO i1 i2 l1 l2 .none k s.heap) (hl1:SqAt b1 s.heap l1 xs) (hl2:SqAt b2 s.heap l2 ys) (hx:xs[k]? = some x) (hy:ys[k]? = some y)
  (hQ:∀h',ZSt b1 b2 z TI TO i1 i2 l1 l2 (rawInt s.heap.objs.size) (k + 1) h'->IsPair h' s.heap.objs.size x y->h'.objs.size=s.heap.objs.size + 1 ->
   (∀c o,c≠z->c≠TO->c≠i1->c≠i2->s.heap.get? c=some o->h'.get? c=some o)->Q (some (.ref s.heap.objs.size)) { s with heap:=h' }):wpAny (model prog w) A (pyNext (.ref z)) Q E s:=by
 have hT:s.TypeIs (.ref z) "zip":=⟨_,S.zip,rfl⟩;unfold pyNext
 refine wpAny_bind (wpAny_attempt (wpAny_callSpecial?_slot (name:=Str.ofString "__next__") hT F.slot_zip_next (wpAny_call_entry F.slot_zip_next hT F.entry_zip_next ?_ (F.args_zip_next_1 _))))
 exact zn5 D S hl1 hl2 hx hy λh' a1 a2 a3 a4=>wpAny_pure (hQ h' a1 a2 a3 a4)
theorem zfs{prog:Program}{w:World}{A:Around}{E:Value->Shared->Prop}{s:Shared}{b1 b2:Bool}{z TI TO i1 i2 l1 l2:Addr}{k:Nat}{xs ys:Array Value}{Q:Option Value->Shared->Prop}(hh:A.handled=none)(D:ZipApart z TI TO i1 i2 l1 l2)
  (S:ZSt b1 b2 z TI TO i1 i2 l1 l2 .none k s.heap) (hl1:SqAt b1 s.heap l1 xs) (hl2:SqAt b2 s.heap l2 ys) (hend:xs[k]? = none\/ys[k]? = none)
  (hQ:∀h',(∀c o,c≠z->c≠TO->c≠i1->c≠i2->s.heap.get? c=some o->h'.get? c=some o)->Q none { s with heap:=h' }):wpAny (model prog w) A (pyNext (.ref z)) Q E s:=by
 have hT:s.TypeIs (.ref z) "zip":=⟨_,S.zip,rfl⟩;unfold pyNext
 refine wpAny_bind (wpAny_attempt (wpAny_callSpecial?_slot (name:=Str.ofString "__next__") hT F.slot_zip_next (wpAny_call_entry F.slot_zip_next hT F.entry_zip_next ?_ (F.args_zip_next_1 _))))
 refine zpg hh D S hl1 hl2 hend λh' e hk ⟨o,ho,hc⟩ => ?_
 exact wpAny_bind (wpAny_isInstance (T:="StopIteration") (b:=true) ⟨o,ho,hc⟩ isSubtype_stop (wpAny_pure (hQ _ hk)))
end L2
namespace L2
open PySem PySem.Spec PyProof.Rows
section
variable{prog:Program}{w:World}{A:Around}{R:Result->Shared->Prop}{s:Shared}
abbrev E00:Value->Shared->Prop:=λ_ _=>False
abbrev ifsOf(ifs:List Expr)(env:Env):Sem Bool:=
 forIn ifs true λc r=>if r=true then do
   let ok <- isTrue c env (eval c env)
   pure (ForInStep.yield ok)
  else pure (ForInStep.yield r)
theorem zkb{elt tg iter:Expr}{ifs:List Expr}{scope:Scope}{pos:Pos}{it acc:Value}{env:Env}(J:Nat->Shared->Prop)
  (turn:∀n s,J n s->wpAny (model prog w) A (pyNext it) (λr s1=>match r with
   | none=>R (.ok .next) s1
   | some v=>wpAny (model prog w) A (letOwnedTupleGo tg it v) (λ_ s2=>wpAny (model prog w) A (assign tg env v) (λ_ s3=>
     wpAny (model prog w) A (ifsOf ifs env) (λok s4=>
      if ok=true then
       wpAny (model prog w) A (eval elt env) (λx s5=>wpAny (model prog w) A (call (.builtin "list.append") [acc,x]) (λ_ s6=>∃m,m < n/\J m s6) E00 s5) E00 s4
      else ∃m,m < n/\J m s4) E00 s3) E00 s2) E00 s1) E00 s)
  (n:Nat) (h:J n s):codeAny (model prog w) A (.compLoop (.ListComp elt [⟨tg,iter,ifs,0⟩] scope pos) 0 it acc env) R s:=by
 have fl:∀{α : Type} {t:Sem α} {Q : α->Shared->Prop} {E:Value->Shared->Prop} {s:Shared},wpAny (model prog w) A t Q E00 s->wpAny (model prog w) A t Q E s:=λh=>wpAny_mono h (λ_ _ q=>q) λ_ _ z=>z.elim
 refine codeAny_loop rfl J (λn s hJ => ?_) n h
 show wpAny _ A ((compTurn (.ListComp elt [⟨tg,iter,ifs,0⟩] scope pos) 0 it acc env).onRaise _) _ _ s
 refine wpAny_noted ?_
 rw[compTurn_list]
 refine wpAny_bind (wpAny_standAt (wpAny_bind (thn (fl (turn n s hJ)) λr s1 h1 => ?_)))
 cases r with
 | none=>exact wpAny_pure h1
 | some v=>
  refine wpAny_bind (thn (fl h1) λ_ s2 h2 => ?_)
  refine wpAny_bind (thn (fl h2) λ_ s3 h3 => ?_)
  refine wpAny_bind (thn (fl h3) λok s4 h4 => ?_)
  cases ok with
  | false=>exact wpAny_pure ⟨rfl,h4⟩
  | true=>
   refine wpAny_bind (wpAny_bind (thn (fl h4) λx s5 h5 => ?_))
   exact wpAny_bind (thn (fl h5) λ_ s6 h6=>wpAny_pure (wpAny_pure ⟨rfl,h6⟩))
end
def blk(X:Cx)(N:List Str)(scope:Scope)(cl:List (Str×Addr))(C:Addr)(s:Shared)(H:Hp)(fp:List Addr):Cx:=
 { X with N:=N,s₀:=s,H₀:=H,env:=compEnvC scope cl C X.env,outer:=X.stack,ex:=fp,fn:=λ_=>false,pn:=[],xe:=λ_ _=>False }
structure Blk(X:Cx)(N:List Str)(scope:Scope)(cl:List (Str×Addr))(mp:List (Option Nat)):Prop where
 clos:closureFor scope X.env=pure cl
 cell:∀y∈scope.names,y.2≠.cell
 kind:scope.kind = .function
 nms:∀y∈scope.names,y.2 = .local->scope.names.lookup y.1=some .local
 nd:N.Nodup
 sub:∀x c,cl.lookup x=some c->X.env.cells.lookup x=some c
 has:∀x,((relabel scope X.env).names.lookup x=some .cell\/(relabel scope X.env).names.lookup x=some .free)->∃c,cl.lookup x=some c
 len:mp.length=N.length
 map:∀(i j:Nat) (x:Str),mp[i]? = some (some j)->N[i]? = some x->X.N[j]? = some x/\(X.env.scope.names.lookup x=some .cell\/X.env.scope.names.lookup x=some .free) /\
  ((relabel scope X.env).names.lookup x=some .cell\/(relabel scope X.env).names.lookup x=some .free)
def st0(mp:List (Option Nat))(σ : St):St:=mp.map λo=>match o with
 | some j=>(σ[j]?).getD none
 | none=>none
section
variable{X:Cx}{pins:List (Addr×Obj)}{σ : St}{H:Hp}{s:Shared}{N:List Str}{scope:Scope}{cl:List (Str×Addr)}{mp:List (Option Nat)}{fp:List Addr}
theorem zo6(B:Blk X N scope cl mp)(I:Inv X pins σ H s)(f:∀b∈fp,FpOk X pins H b)(lt:∀b∈fp,b < s.heap.objs.size){h1:Heap}{t':Nat}(hns:h1.Ns s.heap.objs.size (λ_=>none))
  (k:∀b o,s.heap.get? b=some o->h1.get? b=some o):Inv (blk X N scope cl s.heap.objs.size s H fp) [] (st0 mp σ) H { s with heap:=h1,toks:=t' }:=by
 have fin:∀b∈fp,b ∉ frs X.stack:=λb hb z=>by
  obtain⟨_,f1,f2,_⟩:=f b hb
  rcases List.mem_cons.mp (I.stkSub b z) with e | e
  ·exact f1 e
  ·exact f2 e
 have ok:(blk X N scope cl s.heap.objs.size s H fp).Ok:=by
  refine⟨I.ok.mod,B.kind,I.ok.glob,I.ok.blt,Nat.le_refl _,λx y c h1 h2=>I.ok.inj x y c (B.sub x c h1) (B.sub y c h2),λx hx=>B.has x hx,(λx c hf=>nomatch (show false=true from hf)),I.ok.hd,I.ok.frames,.inl rfl,λb hb => ?_,I.bs,Nat.le_trans I.ok.bsz I.sz,λb o e hb => ?_,fin,I.stack,I.stkFree⟩
  ·obtain⟨f0,f1,f2,f3,f4,f5⟩:=f b hb
   exact⟨Nat.ne_of_lt (lt b hb),λx c e=>f4 x c (B.sub x c e)⟩
  ·obtain⟨f0,f1,f2,f3,f4,f5⟩:=f b hb
   rcases f3 with z | z
   ·exact I.ok.noex b o e z
   ·exact absurd (Nat.lt_of_lt_of_le (Heap.lt_size e) (Nat.le_trans I.ok.bsz z)) (Nat.lt_irrefl _)
 refine⟨ok,rfl,I.bare,Un.kept k,⟨_,hns,λi x v e1 e2 e3 => ?_⟩,λx c e => ?_,I.hok.fresh (Nat.le_refl _),λx c e=>I.freeC x c (B.sub x c e),λp hp=>absurd (show p∈([]:List (Addr×Obj)) from hp) (by simp),I.hok.kept k,?_⟩
 ·have e2':∃j,mp[i]? = some (some j)/\σ[j]? = some (some v):=by
   unfold st0 at e2
   rw[List.getElem?_map]at e2
   cases q:mp[i]? with
   | none=>rw[q]at e2;cases e2
   | some o=>
    rw[q]at e2
    cases o with
    | none=>cases e2
    | some j=>
     refine⟨j,rfl,?_⟩
     have e2'':(σ[j]?).getD none=some v:=Option.some.inj e2
     cases r : σ[j]? with
     | none=>rw[r]at e2'';cases e2''
     | some z=>rw[r]at e2'';exact congrArg some e2''
  obtain⟨j,hj,hv⟩:=e2'
  obtain⟨hN,ho,hi⟩:=B.map i j x hj e1
  obtain⟨m,hm,hl⟩:=I.loc
  obtain⟨u,r,l⟩:=hl j x v hN hv (ho.elim (λz => .inr (.inl z)) λz => .inr (.inr z))
  refine⟨u,r,.inr ⟨hi,?_⟩⟩
  rcases l with⟨z,_⟩ | ⟨_,c,ec,z⟩
  ·have z':X.env.scope.names.lookup x=some .local:=z
   rcases ho with ho | ho
   ·rw[z']at ho;cases ho
   ·rw[z']at ho;cases ho
  ·obtain⟨c',ec'⟩:=B.has x hi
   have q:=B.sub x c' ec'
   rw[ec]at q;cases q
   obtain⟨o,eo,d⟩:=z
   exact⟨c,ec',o,k c o eo,d⟩
 ·obtain⟨v,o,eo,d⟩:=I.cell x c (B.sub x c e)
  exact⟨v,o,k c o eo,d⟩
 ·show (st0 mp σ).length=N.length
  unfold st0
  rw[List.length_map];exact B.len
theorem zkt{N':List Str}{C:Addr}{H':Hp}{σ':St}{s':Shared}{h':Heap}(I:Inv X pins σ H s)(f:∀b∈fp,FpOk X pins H b)(hC:s.heap.objs.size<=C)
  (J:Inv (blk X N' scope cl C s H fp) [] σ' H' s') (sb:Heap.SameBut C s'.heap h'):Inv X pins σ H' { s' with heap:=h' }:=by
 have ub:Un (frs X.stack) fp H H' s.heap s'.heap:=J.base
 have ne:∀b o,s.heap.get? b=some o->b≠C:=λb o e=>Nat.ne_of_lt (Nat.lt_of_lt_of_le (Heap.lt_size e) hC)
 have u:Un (frs X.stack) fp H H' s.heap h':=by
  refine⟨λb o e n hb hx=>(sb.2 b (ne b o e)).trans (ub.keep b o e n hb hx),λb o e n hb hx => ?_,ub.free,λb o e hx => ?_,ub.tups,ub.frzs,ub.tbls⟩
  ·obtain⟨sl,q⟩:=ub.slot b o e n hb hx
   exact⟨sl,(sb.2 b (ne b o e)).trans q⟩
  ·obtain⟨o',q⟩:=ub.there b o e hx
   exact⟨o',(sb.2 b (ne b o e)).trans q⟩
 have fC:H' C=none:=J.free
 have ok':HOk X.prog X.w H' h':=λb ob e=>by
  have jok:HOk X.prog X.w H' s'.heap:=J.hok
  refine(jok b ob e).stay (λc v hc q=>(sb.2 c ?_).trans q) (λ_ q=>q) λ_ _ q=>q
  rintro rfl
  rcases hc with rfl | hc
  ·rw[fC]at e;cases e
  ·rw[fC]at hc;cases hc
 refine I.call' (s':={ s' with heap:=h' }) (ch:=fp) ?_ u ok' J.bare λb hb => ?_
 ·exact J.os
 ·obtain⟨f0,f1,f2,f3,f4,f5⟩:=f b hb
  exact⟨f3,f1,f4,f5⟩
end
def PTs(X:Cx)(ifs:List Expr)(t:TT):Prop:=
 ∀(pins:List (Addr×Obj)) (s:Shared) (σ : St) (H:Hp) (Q:Bool->Hp->Prop),Inv X pins σ H s->t σ H Q->wpAny (model X.prog X.w) X.A (ifsOf ifs X.env) (TP X pins σ Q) X.xe s
def tYes:TT:=λ_ H Q=>Q true H
theorem zbu{X:Cx}:PTs X [] tYes:=λ_ _ _ H _ I h=>wpAny_pure ⟨H,I,h⟩
theorem zol{X:Cx}{c:Expr}{t:TT}(h:PT X c t):PTs X [c] t:=λpins s σ H Q I hw=>wpAny_tests_one (h pins s σ H Q I hw)
@[irreducible] def tComp (mp:List (Option Nat)) (wi:TI) (g:TG) (tc:TT) (te:TE):TE:=λσ H Q=>wi σ H λJ H1=>∀D,H1 D=none->∃W:Nat->Nat->List V->St->Hp->Prop,
 (∃m,W 0 m [] (st0 mp σ) (upd H1 D (.lst [])))/\∀i m ys σ' H',W i m ys σ' H'->H' D=some (.lst ys) /\
  ((J.stop i H'/\Q (.ref D) H')\/(J.go i H'/\ys.length < sizeLine/\∀x H2,J.yld i H' x H2->g x σ' H2 λσ2 H3=>tc σ2 H3 λb H4=>
   if b=true then te σ2 H4 λv H5=>H5 D=some (.lst ys)/\∃m',m' < m/\W (i + 1) m' (ys ++ [v]) σ2 (upd H5 D (.lst (ys ++ [v])))
   else ∃m',m' < m/\W (i + 1) m' ys σ2 H4))
def CompW(J:It)(D:Addr)(g:TG)(tc:TT)(te:TE)(Qf:Hp->Prop)(W:Nat->Nat->List V->St->Hp->Prop):Prop:=∀i m ys σ' H',W i m ys σ' H'->H' D=some (.lst ys) /\
  ((J.stop i H'/\Qf H')\/(J.go i H'/\ys.length < sizeLine/\∀x H2,J.yld i H' x H2->g x σ' H2 λσ2 H3=>tc σ2 H3 λb H4=>
   if b=true then te σ2 H4 λv H5=>H5 D=some (.lst ys)/\∃m',m' < m/\W (i + 1) m' (ys ++ [v]) σ2 (upd H5 D (.lst (ys ++ [v])))
   else ∃m',m' < m/\W (i + 1) m' ys σ2 H4))
theorem zfw{X:Cx}{N:List Str}{scope:Scope}{cl:List (Str×Addr)}{mp:List (Option Nat)}{elt tg iter:Expr}{ifs:List Expr}{g:TG}{tc:TT}{te:TE}{pos:Pos}(B:Blk X N scope cl mp)(hc:X.calm=true)
  (hg:∀C s H fp,PG (blk X N scope cl C s H fp) tg g) (ht:∀C s H fp,PTs (blk X N scope cl C s H fp) ifs tc) (he:∀C s H fp,PE (blk X N scope cl C s H fp) elt te)
  {pins:List (Addr×Obj)} {σ : St} {HD:Hp} {s:Shared} {fp:List Addr} {it D:Addr} {tn:Nat->Heap->Prop} {J:It} {Qf:Hp->Prop} {W:Nat->Nat->List V->St->Hp->Prop} {m0:Nat} {E:Value->Shared->Prop} {RR:Addr->Result->Shared->Prop}
  (I:Inv X pins σ HD s) (f:∀b∈fp,FpOk X pins HD b) (T:Turn X.prog X.w X.K tg J fp it tn) (st:tn 0 s.heap) (w0:W 0 m0 [] (st0 mp σ) HD) (turn:CompW J D g tc te Qf W)
  (hRR:∀C H' σ' s',s.heap.objs.size<=C->Inv (blk X N scope cl C s HD fp) [] σ' H' s'->Qf H'->RR C (.ok .next) s') :
  wpAny (model X.prog X.w) X.A (newFunctionEnv scope X.env.globals cl [] X.env.qual none .none (some X.env)) (λcenv s4=>
   codeAny (model X.prog X.w) X.A (.compStart (.ListComp elt [⟨tg,iter,ifs,0⟩] scope pos) 0 (.ref it) (.ref D) { cenv with scope:=relabel scope X.env }) (RR cenv.locals) s4) E s:=by
 have lt:∀b∈fp,b < s.heap.objs.size:=λb hb=>let ⟨o,e,_⟩:=T.obj _ _ st b hb;Heap.lt_size e
 refine wpAny_newFunctionEnv B.cell (by intro y hy;simp at hy) (λh3 hns hsb => ?_) B.kind
 have k3:∀b o,s.heap.get? b=some o->h3.get? b=some o:=λb o e=>(hsb.2 b (Nat.ne_of_lt (Heap.lt_size e))).trans (Heap.get?_push_of_some _ e)
 have JB:=zo6 (t':=s.toks + ([]:List (Str×Value)).length) B I f lt hns k3
 have st3:tn 0 h3:=T.keep _ _ _ st λb _ o e=>k3 b o e
 have fin:∀b∈fp,b ∉ frs X.stack:=λb hb z=>by
  obtain⟨_,f1,f2,_⟩:=f b hb
  rcases List.mem_cons.mp (I.stkSub b z) with e | e
  ·exact f1 e
  ·exact f2 e
 have stat:∀{H':Hp},(∀b∈fp,H' b=none)->∀b∈fp,FpOk (blk X N scope cl s.heap.objs.size s HD fp) [] H' b:=fun{H'} hn b hb=>by
  obtain⟨f0,f1,f2,f3,f4,f5⟩:=f b hb
  exact⟨hn b hb,Nat.ne_of_lt (lt b hb),fin b hb,.inl hb,λx c e=>f4 x c (B.sub x c e),λp hp=>absurd (show p∈([]:List (Addr×Obj)) from hp) (by simp)⟩
 have loop:codeAny (model X.prog X.w) X.A (.compLoop (.ListComp elt [⟨tg,iter,ifs,0⟩] scope pos) 0 (.ref it) (.ref D) (compEnvC scope cl s.heap.objs.size X.env)) (RR s.heap.objs.size) { s with heap:=h3,toks:=s.toks + ([]:List (Str×Value)).length }:=by
  refine zkb (λn s'=>∃i ys σ' H',Inv (blk X N scope cl s.heap.objs.size s HD fp) [] σ' H' s'/\tn i s'.heap/\(∀b∈fp,H' b=none)/\W i n ys σ' H') ?_ m0 ⟨0,[],_,HD,JB,st3,λb hb=>(f b hb).1,w0⟩
  rintro n s5 ⟨i,ys,σ5,H5,I5,st5,fr5,w5⟩
  obtain⟨hD,tr⟩:=turn i n ys σ5 H5 w5
  rcases tr with⟨stop,qn⟩ | ⟨go,hz,step⟩
  ·refine thn (T.done (blk X N scope cl s.heap.objs.size s HD fp) rfl rfl rfl hc i [] s5 σ5 H5 E00 I5 (stat fr5) st5 stop) λr s6 ⟨hr,I6⟩ => ?_
   subst hr
   exact hRR _ H5 σ5 s6 (Nat.le_refl _) I6 qn
  ·refine thn (T.item (blk X N scope cl s.heap.objs.size s HD fp) rfl rfl rfl hc i [] s5 σ5 H5 E00 I5 (stat fr5) st5 go) λr s6 ⟨u,hr,h6⟩ => ?_
   subst hr
   refine thn h6 λ_ s7 ⟨x,H7,I7,r7,y7,st7,fr7⟩ => ?_
   have I7':=I7.pinned (stat fr7) (T.obj _ _ st7)
   have again:∀{ys':List V} {σ8:St} {H8:Hp} {s8:Shared} {m':Nat},Inv (blk X N scope cl s.heap.objs.size s HD fp) ([] ++ pinsAt fp s7.heap) σ8 H8 s8->m' < n->W (i + 1) m' ys' σ8 H8 ->
     ∃m,m < n/\∃i ys σ' H',Inv (blk X N scope cl s.heap.objs.size s HD fp) [] σ' H' s8/\tn i s8.heap/\(∀b∈fp,H' b=none)/\W i m ys σ' H':=fun{ys' σ8 H8 s8 m'} I8 hm w8=>by
    refine⟨m',hm,i + 1,ys',σ8,H8,I8.unpinned,T.keep _ _ _ st7 λb hb o e=>(I8.pin (b,o) (List.mem_append_right _ (List.mem_append_right _ (zc6 hb e)))).1,λb hb => ?_,w8⟩
    obtain⟨o,e,d⟩:=T.obj _ _ st7 b hb
    exact(I8.pin (b,o) (List.mem_append_right _ (List.mem_append_right _ (zc6 hb e)))).2.1
   refine thn (hg _ _ _ _ _ s7 σ5 H7 x u _ I7' r7 (step x H7 y7)) λ_ s8 ⟨σ8,H8,I8,q8⟩ => ?_
   refine thn (ht _ _ _ _ _ s8 σ8 H8 _ I8 q8) λok s9 ⟨H9,I9,q9⟩ => ?_
   cases ok with
   | false=>
    rw[if_neg (by decide)]at q9
    obtain⟨m',hm,w9⟩:=q9
    rw[if_neg (by decide)]
    exact again I9 hm w9
   | true=>
    rw[if_pos rfl]at q9
    rw[if_pos rfl]
    refine thn (he _ _ _ _ _ s9 σ8 H9 _ I9 q9) λxv s10 ⟨v,H10,I10,r10,hD10,m',hm,w'⟩ => ?_
    refine thn (zdf _ s10 σ8 H10 (.ref D) [v] (.ref D) [xv] (λ_ H'=>H'=upd H10 D (.lst (ys ++ [v]))) I10 rfl (.cons r10 .nil) ⟨D,ys,v,rfl,rfl,hD10,hz,rfl⟩) λ_ s11 ⟨_,H11,I11,_,e11⟩ => ?_
    subst e11
    exact again I11 hm w'
 exact codeAny_compStart_list loop (T.self _ 0 _ _ _ st3 loop)
theorem zbv{X:Cx}{N:List Str}{scope:Scope}{cl:List (Str×Addr)}{mp:List (Option Nat)}{elt tg iter:Expr}{ifs:List Expr}{wi:TI}{g:TG}{tc:TT}{te:TE}{pos:Pos}(B:Blk X N scope cl mp)(hc:X.calm=true)
  (hi:PI X tg iter wi) (hg:∀C s H fp,PG (blk X N scope cl C s H fp) tg g) (ht:∀C s H fp,PTs (blk X N scope cl C s H fp) ifs tc) (he:∀C s H fp,PE (blk X N scope cl C s H fp) elt te)
  (hs:∀x,foldedSetIterable iter X.env x=pure x:=by intro _;rfl):PE X (.ListComp elt [⟨tg,iter,ifs,0⟩] scope pos) (tComp mp wi g tc te):=by
 intro pins s σ H Q I h
 unfold tComp at h
 rw[eval_ListComp]
 refine wpAny_comprehension_free (use:=none) (cl:=cl) rfl hs B.clos B.kind B.nms (thn (hi pins s σ H _ I h) λv s1 h1=>thn h1 λitv s2 h2 => ?_)
 obtain⟨it,fp,tn,J,H2,rfl,I2,T,st2,f2,q⟩:=h2
 have lt2:∀b∈fp,b < s2.heap.objs.size:=λb hb=>let ⟨o,e,_⟩:=T.obj _ _ st2 b hb;Heap.lt_size e
 obtain⟨W,⟨m0,w0⟩,turn⟩:=q _ I2.fresh
 have ID:=I2.lnew (ys:=[]) (its:=[]) (t':=s2.toks) .nil (Nat.zero_le _)
 have fD':∀b∈fp,FpOk X pins (upd H2 s2.heap.objs.size (.lst [])) b:=λb hb=>by
  obtain⟨f0,r⟩:=f2 b hb
  exact⟨by rw[zal (Nat.ne_of_lt (lt2 b hb))];exact f0,r⟩
 refine wpAny_newObj_type (zfw B hc hg ht he ID fD' T (T.keep _ _ _ st2 λb _ o e=>Heap.get?_push_of_some _ e) w0 turn λC H' σ' s' hC J' qf => ?_)
 obtain⟨m,hm,_⟩:=J'.loc
 exact⟨m,hm,λh' sb=>⟨.ref _,H',zkt ID fD' hC J' sb,rfl,qf⟩⟩
end L2
namespace L2
open PySem PySem.Spec PyProof.Rows
def SqX(K:W.Frag)(b:Bool)(H:Hp)(a:Addr)(xs:List V):Prop:=match b with
 | true=>SqT K H a xs
 | false=>SqL K H a xs
section
variable{X:Cx}{pins:List (Addr×Obj)}{σ : St}{H:Hp}{s:Shared}{b:Bool}{a:Addr}{xs ys:List V}
theorem Inv.sq(I:Inv X pins σ H s)(h:SqX X.K b H a xs):∃its:List Value,Vals xs its/\SqAt b s.heap a its.toArray:=by
 cases b with
 | true=>obtain⟨its,rv,p,_⟩:=I.tuple h;exact⟨its,rv,show s.heap.IsTuple a its.toArray from p⟩
 | false=>obtain⟨its,rv,p,_⟩:=I.list h;exact⟨its,rv,p.isList⟩
theorem Inv.sq_inj(I:Inv X pins σ H s)(h:SqX X.K b H a xs)(h':SqX X.K b H a ys):xs=ys:=by
 cases b with
 | true=>exact I.tuple_inj h h'
 | false=>exact I.list_inj h h'
theorem Inv.turnedL{ch:List Addr}{h':Heap}{t':Nat}(I:Inv X pins σ H s)(hf:∀b∈ch,FpOk X pins H b)(k:∀b o,b ∉ ch->s.heap.get? b=some o->h'.get? b=some o):Inv X pins σ H { s with heap:=h',toks:=t' }:=by
 have nch:∀b u,H b=some u->b ∉ ch:=λb u e z=>by have q:=(hf b z).1;rw[q]at e;cases e
 refine I.step (g':=s.gens) (d':=s.drawn) (ch:=ch) (λb hb => ?_) (λb o _ _ hc e _=>k b o hc e) (λb o _ _ hc e _=>⟨o.slots,k b o hc e⟩) (λ_ _ _ _ n=>n)
  (λb o hc e=>⟨o,k b o hc e⟩) (λ_ _ e=>e) (λ_ _ _ e=>e) (λb ps e=>⟨#[],by rw[e];simp⟩) (λm hm => ?_) (λb u e => ?_) I.bare
 ·obtain⟨f0,f1,f2,f3,f4,f5⟩:=hf b hb
  exact⟨f3,f1,f4,f5⟩
 ·obtain⟨o,es,ep,ho,r⟩:=hm
  exact⟨o,es,ep,k _ o (λz=>(hf _ z).2.1 rfl) ho,r⟩
 ·refine(I.hok b u e).stay (λc v hc q=>k c v ?_ q) (λ_ q=>q) λ_ _ q=>q
  rcases hc with z | z
  ·rw[z];exact nch b u e
  ·exact nch c _ z
theorem Inv.drawn{ch:List Addr}{h':Heap}{t':Nat}{p:Addr}{o:HO}(I:Inv X pins σ H s)(hf:∀b∈ch,FpOk X pins H b)(k:∀b o,b ∉ ch->s.heap.get? b=some o->h'.get? b=some o)(hp:s.heap.objs.size<=p)
  (new:ObjOk X.prog X.w (upd H p o) h' p o):Inv X pins σ (upd H p o) { s with heap:=h',toks:=t' }:=by
 have nch:∀b u,H b=some u->b ∉ ch:=λb u e z=>by have q:=(hf b z).1;rw[q]at e;cases e
 have hn:H p=none:=I.hok.fresh hp
 have np:∀b u,s.heap.get? b=some u->b≠p:=λb u e=>Nat.ne_of_lt (Nat.lt_of_lt_of_le (Heap.lt_size e) hp)
 refine I.step (g':=s.gens) (d':=s.drawn) (ch:=ch) (λb hb => ?_) (λb o _ _ hc e _=>k b o hc e) (λb o _ _ hc e _=>⟨o.slots,k b o hc e⟩) (λb o _ e n=>by rw[zal (np b o e)];exact n)
  (λb o hc e=>⟨o,k b o hc e⟩) (λb xs e=>by rw[zal (zao e hn)];exact e) (λb o u e=>by rw[zal (zao e hn)];exact e) (λb ps e=>⟨#[],by rw[zal (zao e hn),e];simp⟩) (λm hm => ?_) (λb u e => ?_) I.bare
 ·obtain⟨f0,f1,f2,f3,f4,f5⟩:=hf b hb
  exact⟨f3,f1,f4,f5⟩
 ·obtain⟨o,es,ep,ho,r⟩:=hm
  exact⟨o,es,ep,k _ o (λz=>(hf _ z).2.1 rfl) ho,r⟩
 ·by_cases hb:b=p
  ·subst hb;rw[zaf]at e;cases e;exact new
  ·rw[zal hb]at e
   refine(I.hok b u e).stay (λc v hc q=>k c v ?_ q) (λc q=>by rw[zal (zao q hn)];exact q) λc xs q=>by rw[zal (zao q hn)];exact q
   rcases hc with z | z
   ·rw[z];exact nch b u e
   ·exact nch c _ z
end
def Itz(K:W.Frag)(b1 b2:Bool)(a1 a2:Addr):It:=
 ⟨λi H=>∃xs ys x y,SqX K b1 H a1 xs/\SqX K b2 H a2 ys/\xs[i]? = some x/\ys[i]? = some y,
  λi H v H'=>∃p x y,H p=none/\v = .ref p/\H'=upd H p (.tup [x,y])/\(∀xs,SqX K b1 H a1 xs->xs[i]? = some x)/\∀ys,SqX K b2 H a2 ys->ys[i]? = some y,
  λi H=>∃xs ys,SqX K b1 H a1 xs/\SqX K b2 H a2 ys/\(xs.length<=i\/ys.length<=i)⟩
theorem zm8{P:Program}{w:World}{K:W.Frag}{es:List Expr}{ek:Nat}{pos:Pos}(b1 b2:Bool){z TI TO i1 i2 a1 a2:Addr}(D:ZipApart z TI TO i1 i2 a1 a2) :
  Turn P w K (.Tuple es ek pos) (Itz K b1 b2 a1 a2) [z,TI,TO,i1,i2] z (λi h=>ZSt b1 b2 z TI TO i1 i2 a1 a2 .none i h) where
 mem:=by simp
 obj:=λi h st b hb=>by
  simp only[List.mem_cons,List.not_mem_nil,or_false]at hb
  rcases hb with rfl | rfl | rfl | rfl | rfl
  ·exact⟨_,st.zip,λv q=>by cases q⟩
  ·exact⟨_,st.ti,λv q=>by cases q⟩
  ·obtain⟨a,b,e⟩:=st.to
   exact⟨_,e,λv q=>by cases q⟩
  ·exact st.it1.obj
  ·exact st.it2.obj
 keep:=λi h h' st k=>st.at k
 item:=by
  intro X hP hw hK hc i pins s σ H E I hf st hg
  subst hP hw hK
  obtain⟨xs,ys,x,y,h1,h2,hx,hy⟩:=hg
  obtain⟨us,ru,q1⟩:=I.sq h1
  obtain⟨ws,rw',q2⟩:=I.sq h2
  obtain⟨u,eu,rx⟩:=ru.get hx
  obtain⟨v,ev,ry⟩:=rw'.get hy
  refine zey D st q1 q2 (x:=u) (y:=v) (by simpa using eu) (by simpa using ev) λh' S p8 s8 k => ?_
  refine⟨_,rfl,wpAny_letOwnedTupleGo_zip S.zip λh'' z' e' => ?_⟩
  have zlt:z < s.heap.objs.size:=Heap.lt_size st.zip
  have zp:s.heap.objs.size≠z:=Nat.ne_of_gt zlt
  have kk:∀b o,b ∉ [z,TO,i1,i2]->s.heap.get? b=some o->h''.get? b=some o:=λb o hb e=>by
   simp only[List.mem_cons,List.not_mem_nil,or_false,not_or]at hb
   exact e'.extBut _ _ hb.1 (k b o hb.1 hb.2.1 hb.2.2.1 hb.2.2.2 e)
  have pp:IsPair h'' s.heap.objs.size u v:=e'.extBut _ _ zp p8
  refine⟨.ref s.heap.objs.size,upd H s.heap.objs.size (.tup [x,y]),I.drawn (t':=s.toks) (ch:=[z,TO,i1,i2]) (λb hb=>hf b ?_) kk (Nat.le_refl _) ?_,rfl,⟨_,x,y,I.fresh,rfl,rfl,λxs' hq => ?_,λys' hq => ?_⟩,?_,λb hb => ?_⟩
  ·simp only[List.mem_cons,List.not_mem_nil,or_false]at hb ⊢
   rcases hb with rfl | rfl | rfl | rfl <;> simp
  ·exact⟨by show 2<=sizeLine;rw[sizeLine_eq];decide,[u,v],.cons rx (.cons ry .nil),⟨_,pp,rfl,_,rfl⟩⟩
  ·rw[I.sq_inj hq h1];exact hx
  ·rw[I.sq_inj hq h2];exact hy
  ·exact⟨z',e'.extBut _ _ D.TIz S.ti,(let ⟨a,b,e⟩:=S.to;⟨a,b,e'.extBut _ _ D.TOz e⟩),S.it1.at λo q=>e'.extBut _ _ D.i1z q,S.it2.at λo q=>e'.extBut _ _ D.i2z q⟩
  ·obtain⟨o,e,_⟩:∃o,s.heap.get? b=some o/\∀v,o.data≠.cell v:=by
    simp only[List.mem_cons,List.not_mem_nil,or_false]at hb
    rcases hb with rfl | rfl | rfl | rfl | rfl
    ·exact⟨_,st.zip,λv q=>by cases q⟩
    ·exact⟨_,st.ti,λv q=>by cases q⟩
    ·obtain⟨a,b,e⟩:=st.to
     exact⟨_,e,λv q=>by cases q⟩
    ·exact st.it1.obj
    ·exact st.it2.obj
   rw[zal (Nat.ne_of_lt (Heap.lt_size e))]
   exact(hf b hb).1
 done:=by
  intro X hP hw hK hc i pins s σ H E I hf st hg
  subst hP hw hK
  obtain⟨xs,ys,h1,h2,hl⟩:=hg
  obtain⟨us,ru,q1⟩:=I.sq h1
  obtain⟨ws,rw',q2⟩:=I.sq h2
  have l1:=ru.length
  have l2:=rw'.length
  refine zfs (I.ok.hd hc) D st q1 q2 ?_ λh' k=>⟨rfl,I.turnedL (t':=s.toks) (ch:=[z,TO,i1,i2]) (λb hb=>hf b ?_) λb o hb e => ?_⟩
  ·rcases hl with hl | hl
   ·exact .inl (by simp;omega)
   ·exact .inr (by simp;omega)
  ·simp only[List.mem_cons,List.not_mem_nil,or_false]at hb ⊢
   rcases hb with rfl | rfl | rfl | rfl <;> simp
  ·simp only[List.mem_cons,List.not_mem_nil,or_false,not_or]at hb
   exact k b o hb.1 hb.2.1 hb.2.2.1 hb.2.2.2 e
 self:=λ_ _ _ _ _ st h=>wpAny_pyIter_zip st.zip h
def iZip(K:W.Frag)(b1 b2:Bool)(ta:TA):TI:=λσ H R=>ta σ H λvs H1=>∃a1 a2,vs=[.ref a1,.ref a2]/\(∃xs,SqX K b1 H1 a1 xs)/\(∃ys,SqX K b2 H1 a2 ys)/\R (Itz K b1 b2 a1 a2) H1
theorem zp1{X:Cx}{es:List Expr}{ek:Nat}{tpos p pos:Pos}(b1 b2:Bool){e1 e2:Expr}{ta:TA}(hg:Gl X "zip")(hm:X.mg "zip" = none)(ha:PA X [e1,e2] ta)
  (he:starEach [e1,e2] X.env=(false,eval e1 X.env) :: starEach [e2] X.env:=by rfl) (hpl:(backTo pos (starEach [e2] X.env)).any (·.1)=false:=by rfl) :
  PI X (.Tuple es ek tpos) (.Call (.Name "zip" p) [e1,e2] [] pos) (iZip X.K b1 b2 ta):=by
 intro pins s σ H R I h
 refine wpAny_Call_Name_kw (zdv I hg hm boot_zip ?_ (by decide) (by decide))
 refine PyProof.Rows.callWith_type1 (thn (ha pos pins s σ H _ I h) λus s1 ⟨vs,H1,I1,r1,a1,a2,ev,⟨xs,h1⟩,⟨ys,h2⟩,q⟩ => ?_) he hpl
 subst ev
 obtain⟨u1,u2,rfl,e1',e2'⟩:=r1.two
 cases e1';cases e2'
 obtain⟨us,ru,q1⟩:=I1.sq h1
 obtain⟨ws,rw',q2⟩:=I1.sq h2
 have lt1:a1 < s1.heap.objs.size:=by cases b1 <;> (obtain⟨o,e,_⟩:=q1;exact Heap.lt_size e)
 have lt2:a2 < s1.heap.objs.size:=by cases b2 <;> (obtain⟨o,e,_⟩:=q2;exact Heap.lt_size e)
 refine zmx q1 q2 λh' S k z5=>wpAny_pyIter_zip S.zip ?_
 have I2:Inv X pins σ H1 { s1 with heap:=h' }:=I1.kept (t':=s1.toks) k
 refine⟨s1.heap.objs.size + 4,[s1.heap.objs.size + 4,s1.heap.objs.size + 2,s1.heap.objs.size + 3,s1.heap.objs.size,s1.heap.objs.size + 1],_,_,H1,rfl,I2,zm8 b1 b2 (zipApart_new lt1 lt2),S,λb hb => ?_,q⟩
 have hb':s1.heap.objs.size<=b:=by
  simp only[List.mem_cons,List.not_mem_nil,or_false]at hb
  rcases hb with rfl | rfl | rfl | rfl | rfl
  ·exact Nat.le_add_right _ 4
  ·exact Nat.le_add_right _ 2
  ·exact Nat.le_add_right _ 3
  ·exact Nat.le_refl _
  ·exact Nat.le_add_right _ 1
 exact I1.fpOk hb' (I1.hok.fresh hb')
end L2
namespace L2
open PySem PySem.Spec PyProof.Rows
theorem Same.upd{H:Hp}{p:Addr}{o:HO}(h:H p=none):Same H (upd H p o):=λb u e=>by rw[zal (zao e h)];exact e
theorem Same.updR{H H':Hp}{p:Addr}{o:HO}(e:Same H H')(h:H p=none):Same H (L2.upd H' p o):=λb u q=>by rw[zal (zao q h)];exact e b u q
theorem Same.seqT{K:W.Frag}{H H':Hp}{a:Addr}{xs:List V}(e:Same H H')(h:SqT K H a xs):SqT K H' a xs:=by
 rcases h with(h | ⟨o,h⟩) | h
 ·exact .inl (.inl (e _ _ h))
 ·exact .inl (.inr ⟨o,e _ _ h⟩)
 ·exact .inr h
theorem Same.sqX{K:W.Frag}{b:Bool}{H H':Hp}{a:Addr}{xs:List V}(e:Same H H')(h:SqX K b H a xs):SqX K b H' a xs:=by
 cases b with
 | true=>exact e.seqT h
 | false=>exact e.seq h
structure Walk(J:It)(H1:Hp)(n:Nat)(P:Nat->V->Hp->Prop):Prop where
 go:∀i H',Same H1 H'->i < n->J.go i H'
 stop:∀H',Same H1 H'->J.stop n H'
 yld:∀i H' x H2,Same H1 H'->i < n->J.yld i H' x H2->Same H' H2/\P i x H2
theorem zde{K:W.Frag}{H1:Hp}{a:Addr}{xs:List V}(h:SqL K H1 a xs):Walk (Itl K a) H1 xs.length (λi x _=>xs[i]? = some x):=
 ⟨λi H' e hi=>⟨xs,xs[i],e.seq h,by simp[hi]⟩,λH' e=>⟨xs,e.seq h,Nat.le_refl _⟩,λi H' x H2 e hi y=>by
  obtain⟨rfl,q⟩:=y
  exact⟨Same.refl _,q xs (e.seq h)⟩⟩
theorem zfz{H1:Hp}(lo:Int)(n:Nat):Walk (Itr lo n) H1 n (λi x _=>x = .int (lo + i)):=
 ⟨λi H' e hi=>hi,λH' e=>Nat.le_refl _,λi H' x H2 e hi y=>by
  obtain⟨rfl,q⟩:=y
  exact⟨Same.refl _,q⟩⟩
theorem zn1{K:W.Frag}{b1 b2:Bool}{H1:Hp}{a1 a2:Addr}{xs ys:List V}(h1:SqX K b1 H1 a1 xs)(h2:SqX K b2 H1 a2 ys) :
  Walk (Itz K b1 b2 a1 a2) H1 (min xs.length ys.length) (λi v H=>∃p x y,v = .ref p/\H p=some (.tup [x,y])/\xs[i]? = some x/\ys[i]? = some y):=by
 refine⟨λi H' e hi => ?_,λH' e=>⟨xs,ys,e.sqX h1,e.sqX h2,?_⟩,λi H' x H2 e hi q => ?_⟩
 ·have i1:i < xs.length:=by omega
  have i2:i < ys.length:=by omega
  exact⟨xs,ys,xs[i],ys[i],e.sqX h1,e.sqX h2,by simp[i1],by simp[i2]⟩
 ·rcases Nat.le_total xs.length ys.length with q | q
  ·exact .inl (by omega)
  ·exact .inr (by omega)
 ·obtain⟨p,u,v,hp,rfl,rfl,q1,q2⟩:=q
  exact⟨Same.upd hp,p,u,v,rfl,zaf,q1 xs (e.sqX h1),q2 ys (e.sqX h2)⟩
theorem zkr{J:It}{H1:Hp}{n:Nat}{P:Nat->V->Hp->Prop}{g:TG}{tc:TT}{te:TE}{Q:VK}{σ0:St}{D:Addr}(S:Walk J H1 n P)(hD:H1 D=none)(hn:n<=sizeLine)(Sv:St->Prop)(p:Nat->Bool)(F:Nat->V->Hp->Prop)
  (monoS:∀i v H H',Same H H'->F i v H->F i v H') (monoU:∀i v H a ys ys',H a=some (.lst ys)->F i v H->F i v (upd H a (.lst ys'))) (h0:Sv σ0)
  (step:∀i x σ' H2,i < n->Sv σ'->Same H1 H2->P i x H2->∀(Ny:V->St->Hp->Prop) (Nn:St->Hp->Prop),(∀v σ2 H5,Sv σ2->Same H2 H5->F i v H5->p i=true->Ny v σ2 H5)->(∀σ2 H4,Sv σ2->Same H2 H4->p i=false->Nn σ2 H4) ->
   g x σ' H2 λσ2 H3=>tc σ2 H3 λb H4=>if b=true then te σ2 H4 λv H5=>Ny v σ2 H5 else Nn σ2 H4)
  (hQ:∀H' ys,Same H1 H'->H' D=some (.lst ys)->Paired (λi v=>F i v H') ((List.range n).filter p) ys->Q (.ref D) H') :
  ∃W:Nat->Nat->List V->St->Hp->Prop,(∃m,W 0 m [] σ0 (upd H1 D (.lst [])))/\∀i m ys σ' H',W i m ys σ' H'->H' D=some (.lst ys) /\
  ((J.stop i H'/\Q (.ref D) H')\/(J.go i H'/\ys.length < sizeLine/\∀x H2,J.yld i H' x H2->g x σ' H2 λσ2 H3=>tc σ2 H3 λb H4=>
   if b=true then te σ2 H4 λv H5=>H5 D=some (.lst ys)/\∃m',m' < m/\W (i + 1) m' (ys ++ [v]) σ2 (upd H5 D (.lst (ys ++ [v])))
   else ∃m',m' < m/\W (i + 1) m' ys σ2 H4)):=by
 refine⟨λi m ys σ' H'=>m=n - i/\i<=n/\Sv σ'/\Same H1 H'/\H' D=some (.lst ys)/\Paired (λj v=>F j v H') ((List.range i).filter p) ys,⟨n,rfl,Nat.zero_le _,h0,Same.upd hD,zaf,.nil⟩,?_⟩
 rintro i m ys σ' H' ⟨rfl,hi,hs,hS,hL,hF⟩
 refine⟨hL,?_⟩
 have rs:(List.range (i + 1)).filter p=(List.range i).filter p ++ (if p i=true then [i] else []):=by
  rw[List.range_succ,List.filter_append]
  cases q:p i <;> simp[q]
 by_cases hlt:i < n
 ·refine .inr ⟨S.go i H' hS hlt,?_,λx H2 y => ?_⟩
  ·have l1:=hF.length
   have l2:((List.range i).filter p).length<=(List.range i).length:=List.length_filter_le _ _
   rw[List.length_range]at l2
   omega
  ·obtain⟨e2,hP⟩:=S.yld i H' x H2 hS hlt y
   refine step i x σ' H2 hlt hs (hS.trans e2) hP _ _ (λv σ2 H5 s2 e5 f5 hp => ?_) λσ2 H4 s2 e4 hp => ?_
   ·have l5:H5 D=some (.lst ys):=e5 _ _ (e2 _ _ hL)
    refine⟨l5,n - (i + 1),by omega,rfl,hlt,s2,((hS.trans e2).trans e5).updR hD,zaf,?_⟩
    rw[rs,if_pos hp]
    refine Paired.snoc (Paired.imp' (λj w q => ?_) hF) (monoU i v H5 D ys _ l5 f5)
    exact monoU j w H5 D ys _ l5 (monoS j w H' H5 (e2.trans e5) q)
   ·refine⟨n - (i + 1),by omega,rfl,hlt,s2,(hS.trans e2).trans e4,e4 _ _ (e2 _ _ hL),?_⟩
    rw[rs,if_neg (by rw[hp];decide),List.append_nil]
    exact Paired.imp' (λj w q=>monoS j w H' H4 (e2.trans e4) q) hF
 ·have e:i=n:=by omega
  subst e
  exact .inl ⟨S.stop H' hS,hQ H' ys hS hL hF⟩
theorem Paired.eq_map{β : Type}{f:Nat->β}:∀{l:List Nat} {ys:List β},Paired (λi v=>v=f i) l ys->ys=l.map f
 | _,_,.nil=>rfl
 | _,_,.cons r t=>by rw[List.map_cons,r,Paired.eq_map t]
theorem zfk{J:It}{H1:Hp}{n:Nat}{P:Nat->V->Hp->Prop}{g:TG}{tc:TT}{te:TE}{Q:VK}{σ0:St}{D:Addr}(S:Walk J H1 n P)(hD:H1 D=none)(hn:n<=sizeLine)(Sv:St->Prop)(p:Nat->Bool)(f:Nat->V)(h0:Sv σ0)
  (step:∀i x σ' H2,i < n->Sv σ'->Same H1 H2->P i x H2->∀(Ny:V->St->Hp->Prop) (Nn:St->Hp->Prop),(∀σ2 H5,Sv σ2->Same H2 H5->p i=true->Ny (f i) σ2 H5)->(∀σ2 H4,Sv σ2->Same H2 H4->p i=false->Nn σ2 H4) ->
   g x σ' H2 λσ2 H3=>tc σ2 H3 λb H4=>if b=true then te σ2 H4 λv H5=>Ny v σ2 H5 else Nn σ2 H4)
  (hQ:∀H',Same H1 H'->H' D=some (.lst (((List.range n).filter p).map f))->Q (.ref D) H') :
  ∃W:Nat->Nat->List V->St->Hp->Prop,(∃m,W 0 m [] σ0 (upd H1 D (.lst [])))/\∀i m ys σ' H',W i m ys σ' H'->H' D=some (.lst ys) /\
  ((J.stop i H'/\Q (.ref D) H')\/(J.go i H'/\ys.length < sizeLine/\∀x H2,J.yld i H' x H2->g x σ' H2 λσ2 H3=>tc σ2 H3 λb H4=>
   if b=true then te σ2 H4 λv H5=>H5 D=some (.lst ys)/\∃m',m' < m/\W (i + 1) m' (ys ++ [v]) σ2 (upd H5 D (.lst (ys ++ [v])))
   else ∃m',m' < m/\W (i + 1) m' ys σ2 H4)):=
 zkr S hD hn Sv p (λi v _=>v=f i) (λ_ _ _ _ _ q=>q) (λ_ _ _ _ _ _ _ q=>q) h0
  (λi x σ' H2 hi hs e hP Ny Nn hy hn'=>step i x σ' H2 hi hs e hP Ny Nn (λσ2 H5 s2 e5 hp=>hy _ σ2 H5 s2 e5 rfl hp) hn')
  λH' ys e hL hF=>hQ H' e (by rw[<- Paired.eq_map hF];exact hL)
end L2
namespace L2
open PySem PySem.Spec PyProof.Rows
theorem zem{env:Env}:∀{names:List (Str×NameKind)} {x:Str},names.lookup x=some .free ->
  (names.map fun(n,k)=>if (k == NameKind.free && env.scope.kind == .function && env.kindOf n == some .cell) then(n,NameKind.cell) else(n,k)).lookup x=some .cell \/
  (names.map fun(n,k)=>if (k == NameKind.free && env.scope.kind == .function && env.kindOf n == some .cell) then(n,NameKind.cell) else(n,k)).lookup x=some .free
 | [],_,h=>by simp at h
 | (n,k) :: r,x,h=>by
  have ih := @zem env r x
  rw[List.map_cons]
  cases hx:x == n with
  | true=>
   simp only[List.lookup_cons,hx]at h
   cases h
   by_cases hc:(NameKind.free == NameKind.free && env.scope.kind == .function && env.kindOf n == some .cell)=true
   ·dsimp only;rw[if_pos hc];simp only[List.lookup_cons,hx];exact .inl trivial
   ·dsimp only;rw[if_neg hc];simp only[List.lookup_cons,hx];exact .inr trivial
  | false=>
   simp only[List.lookup_cons,hx]at h
   by_cases hc:(k == NameKind.free && env.scope.kind == .function && env.kindOf n == some .cell)=true
   ·dsimp only;rw[if_pos hc];simp only[List.lookup_cons,hx];exact ih h
   ·dsimp only;rw[if_neg hc];simp only[List.lookup_cons,hx];exact ih h
theorem zeo{env:Env}{names:List (Str×NameKind)}{x:Str}{k:NameKind}(hk:k = .cell\/k = .free)(nc:∀y∈names,y.2≠.cell)
  (h:(names.map fun(n,k)=>if (k == NameKind.free && env.scope.kind == .function && env.kindOf n == some .cell) then(n,NameKind.cell) else(n,k)).lookup x=some k):∃y∈names,y.1=x/\y.2 = .free:=by
 have m:=PySem.mem_of_lookup h
 obtain⟨⟨n,k0⟩,hm,e⟩:=List.mem_map.mp m
 dsimp only at e
 by_cases hc:(k0 == NameKind.free && env.scope.kind == .function && env.kindOf n == some .cell)=true
 ·rw[if_pos hc]at e
  simp only[Bool.and_eq_true,beq_iff_eq]at hc
  cases e
  exact⟨_,hm,rfl,hc.1.1⟩
 ·rw[if_neg hc]at e
  cases e
  refine⟨_,hm,rfl,?_⟩
  rcases hk with z | z
  ·exact absurd z (nc _ hm)
  ·exact z
theorem Blk.of{X:Cx}{N:List Str}{scope:Scope}{cl:List (Str×Addr)}{mp:List (Option Nat)}(clos:closureFor scope X.env=pure cl)(cell:∀y∈scope.names,y.2≠.cell)(kind:scope.kind = .function)
  (nms:∀y∈scope.names,y.2 = .local->scope.names.lookup y.1=some .local) (nd:N.Nodup) (sub:∀x c,cl.lookup x=some c->X.env.cells.lookup x=some c) (fr:∀y∈scope.names,y.2 = .free->∃c,cl.lookup y.1=some c) (len:mp.length=N.length)
  (map:∀(i j:Nat) (x:Str),mp[i]? = some (some j)->N[i]? = some x->X.N[j]? = some x/\(X.env.scope.names.lookup x=some .cell\/X.env.scope.names.lookup x=some .free)/\scope.names.lookup x=some .free):Blk X N scope cl mp:=by
 refine⟨clos,cell,kind,nms,nd,sub,λx hx => ?_,len,λi j x h1 h2 => ?_⟩
 ·have:∃y∈scope.names,y.1=x/\y.2 = .free:=hx.elim (λz=>zeo (.inl rfl) cell z) λz=>zeo (.inr rfl) cell z
  obtain⟨y,hy,rfl,hf⟩:=this
  exact fr y hy hf
 ·obtain⟨q1,q2,q3⟩:=map i j x h1 h2
  exact⟨q1,q2,zem q3⟩
theorem Blk.plain{X:Cx}{N:List Str}{scope:Scope}(fr:∀y∈scope.names,y.2≠.free)(cell:∀y∈scope.names,y.2≠.cell)(kind:scope.kind = .function)(nms:∀y∈scope.names,y.2 = .local->scope.names.lookup y.1=some .local)(nd:N.Nodup) :
  Blk X N scope [] (N.map λ_=>none):=
 Blk.of (closureFor_none fr) cell kind nms nd (λ_ _ h=>nomatch h) (λy hy h=>absurd h (fr y hy)) (List.length_map _) λi j x h=>by
  rw[List.getElem?_map]at h
  cases q:N[i]? with
  | none=>rw[q]at h;cases h
  | some z=>rw[q]at h;cases h
def zipV(p:Int->Int->Bool)(φ : Int->Int->V)(xs ys:List Int):List V:=((List.range (min xs.length ys.length)).filter λi=>p (xs.getD i 0) (ys.getD i 0)).map λi=>φ (xs.getD i 0) (ys.getD i 0)
theorem zcx{xs:List Int}{i:Nat}{v:V}(h:(xs.map V.int)[i]? = some v):v = .int (xs.getD i 0):=by
 rw[List.getElem?_map]at h
 cases q:xs[i]? with
 | none=>rw[q]at h;cases h
 | some z=>
  rw[q]at h
  have e:xs.getD i 0=z:=by rw[List.getD_eq_getElem?_getD,q];rfl
  rw[e];exact(Option.some.inj h).symm
theorem zpi{σ : St}(h : σ.length=2)(x y:V):(σ.set 0 (some x)).set 1 (some y)=[some x,some y]:=by
 match σ,h with
 | [_,_],_=>rfl
theorem zev{K:W.Frag}{b1 b2:Bool}{a b:Addr}{xs ys:List Int}{mp:List (Option Nat)}{ta:TA}{tc:TT}{te:TE}{σ : St}{H H1:Hp}{Q:VK}(p:Int->Int->Bool)(φ : Int->Int->V)(hmp:mp.length=2)(hta:∀R,R [.ref a,.ref b] H1->ta σ H R)
  (h1:SqX K b1 H1 a (xs.map V.int)) (h2:SqX K b2 H1 b (ys.map V.int)) (hz:xs.length<=1000)
  (htc:∀(i:Nat) H' (R:Bool->Hp->Prop),R (p (xs.getD i 0) (ys.getD i 0)) H'->tc [some (.int (xs.getD i 0)),some (.int (ys.getD i 0))] H' R)
  (hte:∀(i:Nat) H' (R:VK),p (xs.getD i 0) (ys.getD i 0)=true->R (φ (xs.getD i 0) (ys.getD i 0)) H'->te [some (.int (xs.getD i 0)),some (.int (ys.getD i 0))] H' R)
  (hQ:∀D H',Same H1 H'->H' D=some (.lst (zipV p φ xs ys))->Q (.ref D) H') :
  tComp mp (iZip K b1 b2 ta) (gTup K 2 (gCons (gName 0) (gCons (gName 1) gNil))) tc te σ H Q:=by
 unfold tComp
 refine hta _ ⟨a,b,rfl,⟨_,h1⟩,⟨_,h2⟩,λD hD => ?_⟩
 have W:=zn1 h1 h2
 rw[List.length_map,List.length_map]at W
 refine zfk W hD (Nat.le_trans (Nat.min_le_left _ _) (Nat.le_trans hz (by rw[sizeLine_eq];decide))) (λσ=>σ.length=2) (λi=>p (xs.getD i 0) (ys.getD i 0)) (λi=>φ (xs.getD i 0) (ys.getD i 0)) (by unfold st0;rw[List.length_map];exact hmp) ?_ λH' e hL=>hQ D H' e hL
 rintro i v σ' H2 hi hs e ⟨q,u,w,rfl,hq,hu,hw⟩ Ny Nn hy hn
 rw[zcx hu,zcx hw]at hq
 refine⟨q,_,rfl,SqT.of hq,rfl,_,_,rfl,_,_,rfl,rfl,?_⟩
 rw[zpi hs]
 refine htc _ _ _ ?_
 cases hp:p (xs.getD i 0) (ys.getD i 0) with
 | true=>rw[if_pos rfl];exact hte _ _ _ hp (hy _ _ rfl (Same.refl _) hp)
 | false=>rw[if_neg (by decide)];exact hn _ _ rfl (Same.refl _) hp
end L2
namespace L2
open PySem PySem.Spec PyProof.Rows
theorem zi0{X:Cx}{K:W.Frag}{x y:Str}{px py tp:Pos}{k:Nat}(hK:X.K=K)(hc:X.calm=true)(hN:X.N=[x,y])(nd:([x,y]:List Str).Nodup)(hx:X.env.scope.names.lookup x=some .local)(hy:X.env.scope.names.lookup y=some .local) :
  PG X (.Tuple [.Name x px,.Name y py] k tp) (gTup K 2 (gCons (gName 0) (gCons (gName 1) gNil))):=by
 subst hK
 have nd':X.N.Nodup:=by rw[hN];exact nd
 exact zkn hc (zdt (zbo (i:=0) nd' (by rw[hN];rfl) (.inl hx) (.inr hx)) (zdt (zbo (i:=1) nd' (by rw[hN];rfl) (.inl hy) (.inr hy)) zid))
theorem zdc{X:Cx}{x:Str}{px:Pos}{i:Nat}(nd:X.N.Nodup)(hN:X.N[i]? = some x)(hx:X.env.scope.names.lookup x=some .local):PG X (.Name x px) (gName i):=zbo nd hN (.inl hx) (.inr hx)
end L2
namespace L2
open PySem PySem.Spec PyProof.Rows
theorem zdn{mp:List (Option Nat)}{ta:TA}{g:TG}{tc:TT}{te:TE}{σ : St}{H H1:Hp}{Q:VK}(n:Int)(Sv:St->Prop)(p:Nat->Bool)(f:Nat->V)(hn0:0<=n)(hn:n<=1000)(hta:∀R,R [.int n] H1->ta σ H R)(h0:Sv (st0 mp σ))
  (step:∀(i:Nat) σ' H2,(i:Int) < n->Sv σ'->Same H1 H2->∀(Ny:V->St->Hp->Prop) (Nn:St->Hp->Prop),(∀σ2 H5,Sv σ2->Same H2 H5->p i=true->Ny (f i) σ2 H5)->(∀σ2 H4,Sv σ2->Same H2 H4->p i=false->Nn σ2 H4) ->
   g (.int (0 + (i:Int))) σ' H2 λσ2 H3=>tc σ2 H3 λb H4=>if b=true then te σ2 H4 λv H5=>Ny v σ2 H5 else Nn σ2 H4)
  (hQ:∀D H',Same H1 H'->H' D=some (.lst (((List.range n.toNat).filter p).map f))->Q (.ref D) H'):tComp mp (iRng1 ta) g tc te σ H Q:=by
 unfold tComp
 refine hta _ ⟨n,rfl,by omega,by omega,λD hD => ?_⟩
 refine zfk (zfz 0 n.toNat) hD (Nat.le_trans (show n.toNat<=1000 by omega) (by rw[sizeLine_eq];decide)) Sv p f h0 ?_ λH' e hL=>hQ D H' e hL
 rintro i v σ' H2 hi hs e rfl Ny Nn hy hn'
 exact step i σ' H2 (by omega) hs e Ny Nn hy hn'
end L2
namespace L2
open PySem PySem.Spec PyProof.Rows
end L2
namespace L2
open PySem PySem.Spec PyProof.Rows
theorem ObjOk.obj{P:Program}{w:World}{H:Hp}{h:Heap}{a:Addr}{o:HO}(x:ObjOk P w H h a o):∃ob,h.get? a=some ob:=by
 cases o with
 | lst xs=>obtain⟨_,_,_,_,e⟩:=x;exact⟨_,e⟩
 | tup xs=>obtain⟨_,_,_,ob,e,_⟩:=x;exact⟨_,e⟩
 | dK kvs=>obtain⟨_,_,_,_,o,_,_,e,_⟩:=x;exact⟨_,e⟩
 | dT kvs=>obtain⟨_,_,_,_,o,_,_,e,_⟩:=x;exact⟨_,e⟩
 | set S n=>obtain⟨o,_,_,_,e,_⟩:=x;exact⟨_,e⟩
 | ins C dx fs=>obtain⟨_,_,_,e,_⟩:=x;exact⟨_,e⟩
 | own y=>obtain⟨_,e⟩:=x;exact⟨_,e⟩
 | xd fs=>obtain⟨_,⟨_,_,_,e,_⟩,_⟩:=x;exact⟨_,e⟩
 | rng lo hi=>obtain⟨_,_,_,e⟩:=x;exact⟨_,e⟩
 | frz ob u=>obtain⟨e,_⟩:=x;exact⟨_,e⟩
 | tbl ps=>exact⟨_,show h.get? a=some _ from x⟩
 | met f y=>exact⟨_,show h.get? a=some _ from x⟩
 | ext φ=>obtain⟨_,⟨_,e⟩,_⟩:=x;exact⟨_,e⟩
structure Cov(B:Heap)(fs:List Addr)(H':Hp)(h:Heap):Prop where
 old:∀b o,h.get? b=some o->b ∉ fs->∃o',B.get? b=some o'
 trk:∀b u,H' b=some u->∃o',B.get? b=some o'
def CXe(P:Program)(w:World):CXT:=λouter H s E e s'=>∃(a:Addr) (cls a0:Value) (B:Heap) (H':Hp),e = .ref a/\s'.os=s.os/\AllBare s'.gens/\Un (frs outer) [] H H' s.heap s'.heap/\HOk P w H' s'.heap /\
 Heap.FlyingW B outer a cls a0 s'.heap/\Cov B (frs outer) H' s.heap/\E cls none H'
section
variable{P:Program}{w:World}{fs:List Addr}{H H':Hp}{h h1 h2 B:Heap}
theorem Heap.two{B h1 h2:Heap}(s1:B.StaysIn h1)(s2:B.StaysIn h2){b:Addr}{o o':Obj}(e:h1.get? b=some o)(q:B.get? b=some o'):h2.get? b=some o:=by
 have:=s1 b o' q
 rw[e]at this;cases this
 exact s2 b _ q
theorem zoi(u:Un fs [] H H' h h1)(cov:Cov B fs H' h)(s1:B.StaysIn h1)(s2:B.StaysIn h2)(sl:∀b o,b∈fs->h1.get? b=some o->∃sl,h2.get? b=some { o with slots:=sl }):Un fs [] H H' h h2:=by
 refine⟨λb o e n hb hx => ?_,λb o e n hb hx => ?_,u.free,λb o e hx => ?_,u.tups,u.frzs,u.tbls⟩
 ·obtain⟨o',q⟩:=cov.old b o e hb
  exact Heap.two s1 s2 (u.keep b o e n hb hx) q
 ·obtain⟨sl1,e1⟩:=u.slot b o e n hb hx
  obtain⟨sl2,e2⟩:=sl b _ hb e1
  exact⟨sl2,e2⟩
 ·by_cases hb:b∈fs
  ·obtain⟨o',e1⟩:=u.there b o e hx
   obtain⟨sl2,e2⟩:=sl b _ hb e1
   exact⟨_,e2⟩
  ·obtain⟨o',q⟩:=cov.old b o e hb
   exact⟨o',s2 b o' q⟩
theorem zoa(ok:HOk P w H' h1)(trk:∀b u,H' b=some u->∃o',B.get? b=some o')(s1:B.StaysIn h1)(s2:B.StaysIn h2):HOk P w H' h2:=λb u e=>by
 refine(ok b u e).stay (λc v hc q => ?_) (λ_ q=>q) λ_ _ q=>q
 have:∃o',B.get? c=some o':=by
  rcases hc with rfl | hc
  ·exact trk c u e
  ·exact trk c _ hc
 obtain⟨o',q'⟩:=this
 exact Heap.two s1 s2 q q'
theorem zqk{base:Heap}{l:List Env}(ff:h1.FunFrames base l)(up:h1.UpToSlots h2):∀b o,b∈frs l->h1.get? b=some o->∃sl,h2.get? b=some { o with slots:=sl }:=λb o hb e=>by
 obtain⟨_,o',e',d⟩:=ff.mem hb
 rw[e]at e';cases e'
 exact up b o e d
end
def RaisesTo(X:Cx)(E:St->XK):Prop:=∀(pins:List (Addr×Obj)) (σ : St) (H:Hp) (s:Shared) (h':Heap) (e:Addr) (cls:Value) (args:List Value),Inv X pins σ H s->Heap.MadeExcOf s.heap h' e cls args->E σ cls none H->X.xe (.ref e) { s with heap:=h' }
def PassesS(CX:CXT)(X:Cx)(E:St->XK):Prop:=∀(pins:List (Addr×Obj)) (σ : St) (H:Hp) (s:Shared) (e:Value) (s':Shared),Inv X pins σ H s->CX X.stack H s (E σ) e s'->X.xe e s'
section
variable{P:Program}{w:World}{K:W.Frag}{mg:Str->Option Value}{base:Heap}{N:List Str}{qual:Str}{scope:Scope}{f:Addr}{cd:Value}{A:Around}{outer:List Env}{s₀:Shared}{H₀:Hp}{E:XK}
theorem zb5:RaisesTo (cxOf (CXe P w) P w K mg base N qual scope f cd A outer s₀ H₀ E) (λ_=>E):=by
 intro pins σ H s h' e cls args I hx hE
 have ff:=W.funFrames_hide (as:=frs (cxOf (CXe P w) P w K mg base N qual scope f cd A outer s₀ H₀ E).stack) I.stack λenv he a ha=>List.mem_filterMap.mpr ⟨env,he,ha⟩
 have stB:(W.hideAll s.heap (frs (cxOf (CXe P w) P w K mg base N qual scope f cd A outer s₀ H₀ E).stack)).StaysIn s.heap:=λb o e=>W.of_hideAll _ e
 have inB:∀b o,s.heap.get? b=some o->b ∉ frs (cxOf (CXe P w) P w K mg base N qual scope f cd A outer s₀ H₀ E).stack->(W.hideAll s.heap (frs (cxOf (CXe P w) P w K mg base N qual scope f cd A outer s₀ H₀ E).stack)).get? b=some o:=
  λb o e hb=>W.hideAll_get _ e hb
 refine wpAny_leaves_madeW (outer:=outer) I.ok.frames rfl stB ff hx λh'' t fl tup nt up => ?_
 have cov:Cov (W.hideAll s.heap (frs (cxOf (CXe P w) P w K mg base N qual scope f cd A outer s₀ H₀ E).stack)) (frs outer) H s₀.heap:=by
  refine⟨λb o e hb => ?_,λb u e => ?_⟩
  ·obtain⟨o1,e1⟩:=I.base.there b o e (by intro z;exact absurd (show b∈([]:List Addr) from z) (by simp))
   refine⟨o1,inB b o1 e1 λz => ?_⟩
   rcases List.mem_cons.mp (I.stkSub b z) with q | q
   ·exact absurd q (Nat.ne_of_lt (Nat.lt_of_lt_of_le (Heap.lt_size e) I.ok.above))
   ·exact hb q
  ·obtain⟨ob,eo⟩:=(I.hok b u e).obj
   exact⟨ob,inB b ob eo λz=>by rw[I.stkFree b z]at e;cases e⟩
 refine⟨e,cls,.ref t,_,H,rfl,I.os,I.bare,zoi I.base cov stB fl.1 λb o hb eo => ?_,zoa I.hok cov.trk stB fl.1,fl,cov,hE⟩
 obtain⟨_,o',e',d⟩:=I.funs.mem hb
 rw[eo]at e';cases e'
 exact up b o (hx.keeps b o eo) d
theorem zhl:PassesS (CXe P w) (cxOf (CXe P w) P w K mg base N qual scope f cd A outer s₀ H₀ E) (λ_=>E):=by
 intro pins σ H s e s' I hq
 obtain⟨a,cls,a0,B,H',rfl,os,bare,un,hok,fl,cov,hE⟩:=hq
 have I':=I.call' (ch:=[]) os un hok bare λb z=>absurd z (by simp)
 refine wpAny_leaves_onW (outer:=outer) I'.ok.frames rfl fl λh'' fl' up => ?_
 have cov0:Cov B (frs outer) H' s₀.heap:=by
  refine⟨λb o e hb => ?_,cov.trk⟩
  obtain⟨o1,e1⟩:=I.base.there b o e (by intro z;exact absurd (show b∈([]:List Addr) from z) (by simp))
  refine cov.old b o1 e1 λz => ?_
  rcases List.mem_cons.mp (I.stkSub b z) with q | q
  ·exact absurd q (Nat.ne_of_lt (Nat.lt_of_lt_of_le (Heap.lt_size e) I.ok.above))
  ·exact hb q
 exact⟨a,cls,a0,B,H',rfl,I'.os,I'.bare,zoi I'.base cov0 fl.1 fl'.1 (zqk I'.funs up),zoa I'.hok cov.trk fl.1 fl'.1,fl',cov0,hE⟩
end
def tCallS(sp:Sp)(dvs:List V)(E:St->XK)(t:TA):TE:=λσ H Q=>t σ H λvs H1=>sp (vs ++ dvs) H1 Q (E σ)
def tMethS(C:Addr)(m:Str)(sp:Sp)(dvs:List V)(E:St->XK)(ta:TE)(t:TA):TE:=λσ H Q=>ta σ H λx H1=>∃a dx fs,x = .ref a/\H1 a=some (.ins C dx fs)/\fs.lookup m=none /\
 t σ H1 λvs H2=>sp (x :: (vs ++ dvs)) H2 Q (E σ)
def tMakeS(C:Addr)(sp:Sp)(dvs:List V)(E:St->XK)(t:TA):TE:=λσ H Q=>t σ H λvs H1=>∀x dx,H1 x=none->H1 dx=none->dx≠x ->
 sp (.ref x :: (vs ++ dvs)) (upd (upd H1 dx (.own x)) x (.ins C dx [])) (λv H2=>v = .non/\Q (.ref x) H2) (E σ)
section
variable{X:Cx}{CX:CXT}{k:Nat}{f C:Addr}{fd:FuncData}{ps:List Str}{sp:Sp}{dvs:List V}{ds:List Value}{E:St->XK}{x m:Str}{p pos apos:Pos}{e o:Expr}{es:List Expr}{ta:TE}{t:TA}
theorem zih{pins:List (Addr×Obj)}{σ : St}{H:Hp}{s:Shared}{Q:VK}{us:List Value}{vs:List V}(F:FnOk X.prog X.w X.K X.mg X.base CX k f fd ps sp)(hr:Room k X.A)(hb:Binds X.K fd ps ds)(hd:Vals dvs ds)(hx:PassesS CX X E)
  (I:Inv X pins σ H s) (r:Vals vs us) (h:sp (vs ++ dvs) H Q (E σ)):wpAny (model X.prog X.w) X.A (call (.ref f) us) (EP X pins σ Q) X.xe s:=by
 have r2:Vals (vs ++ dvs) (us ++ ds):=r.append hd
 have hl:(us ++ ds).length=ps.length:=by rw[<- r2.length];exact F.len _ _ _ _ h
 refine wpAny_call (codeAny_mono (F.run X.A X.stack s H ⟨us,[]⟩ (us ++ ds) (vs ++ dvs) Q (E σ) hr I.env0 (hb s us I.kIn hl) r2 h) λr s' hq => ?_)
 match r,hq with
 | .error e,hq=>exact hx pins σ H s e s' I hq
 | .ok (.ret u),hq=>exact I.after hq
 | .ok .next,hq=>exact False.elim hq
 | .ok .brk,hq=>exact False.elim hq
 | .ok .cont,hq=>exact False.elim hq
theorem zmh(F:FnOk X.prog X.w X.K X.mg X.base CX k f fd ps sp)(hr:Room k X.A)(hg:Gl X x)(hm:X.mg x=some (.ref f))(hk:W.keepIn X.K (.ref f)=true)(hb:Binds X.K fd ps ds)(hd:Vals dvs ds)(hx:PassesS CX X E)
  (ha:PA X (e :: es) t) (hdb:(x == ("__debug__" : Str))=false:=by decide) (he:starEach (e :: es) X.env=(false,eval e X.env) :: starEach es X.env:=by rfl) (hpl:(backTo pos (starEach es X.env)).any (·.1)=false:=by rfl) :
  PE X (.Call (.Name x p) (e :: es) [] pos) (tCallS sp dvs E t):=by
 intro pins s σ H Q I h
 refine wpAny_Call_Name_kw (zdy I hg hm (W.callWith_K (h₀:=X.base) I.ok.mod.kin hk (thn (ha pos pins s σ H _ I h) λus s1 ⟨vs,H1,I1,r,q⟩=>⟨I1.kIn,?_⟩) he hpl) hdb)
 exact zih F hr hb hd hx I1 r q
theorem zmu{pl:Sem Bool}(he:PE X o ta)(c:Cls X.K C)(hm:Meth X.K C m f)(F:FnOk X.prog X.w X.K X.mg X.base CX k f fd ps sp)(hr:Room k X.A)(hb:Binds X.K fd ps ds)(hd:Vals dvs ds)(hx:PassesS CX X E)(ha:PA X (e :: es) t)
  (hst:starEach (e :: es) X.env=(false,eval e X.env) :: starEach es X.env:=by rfl) (hpl:(backTo pos (starEach es X.env)).any (·.1)=false:=by rfl)
  (ht:eval (.Call (.Attribute o m apos) (e :: es) [] pos) X.env=(do
   let ov <- eval o X.env
   standAt apos.atName
   let (f,first) <- holding [ov] (getMethod ov m pl)
   callWith pos f first (backTo pos (starEach (e :: es) X.env)) (backToKw pos (keywordEach [] X.env))):=by rfl) :
  PE X (.Call (.Attribute o m apos) (e :: es) [] pos) (tMethS C m sp dvs E ta t):=by
 intro pins s σ H Q I h
 refine W.methodCall_KW (pl:=pl) (thn (he pins s σ H _ I h) λu s1 ⟨x,H1,I1,rx,a,dx,fs,ex,ea,l,q⟩ => ?_) ht
 subst ex
 obtain rfl:u=Value.ref a:=rx
 refine zjs I1 ea c hm l (W.callWith_K (first:=[.ref a]) (h₀:=X.base) I.ok.mod.kin hm.kp (thn (ha pos pins s1 σ H1 _ I1 q) λus s2 ⟨vs,H2,I2,r,q2⟩=>⟨I2.kIn,?_⟩) hst hpl)
 exact zih (us := .ref a :: us) (vs := .ref a :: vs) F hr hb hd hx I2 (.cons rfl r) q2
end
def tRaise(C:Addr)(E:St->XK)(t:TA):TS:=λ_ σ H=>t σ H λvs H1=>vs.length<=sizeLine/\E σ (.ref C) none H1
theorem znt{X:Cx}{C:Addr}{x:Str}{bm:List Value}{newId initId B:String}{e:Expr}{es:List Expr}{t:TA}{np cpos pos:Pos}{E:St->XK}(O:OwnCls x C bm newId X.mg X.base)(FB:ExcBaseFacts B newId initId bm)(hc:X.calm=true)(hg:Gl X x)
  (hx:RaisesTo X E) (ha:PA X (e :: es) t) (he:starEach (e :: es) X.env=(false,eval e X.env) :: starEach es X.env:=by rfl) (hpl:(backTo cpos (starEach es X.env)).any (·.1)=false:=by rfl) (hd:(x == ("__debug__" : Str))=false:=by decide) :
  PS X (.Raise (some (.Call (.Name x np) (e :: es) [] cpos)) none pos) (tRaise C E t):=by
 intro pins s σ H D I h
 obtain⟨tl,N,nm,q,bs,hdct,sn,sub,ab,col,dd,k0,k1,k2,k3,k5,mN,hC,hN,hni,T⟩:=O.obj
 refine wpAny_Raise_call_subT (C:=C) (nm:=nm) (q:=q) (N:=N) (bs:=bs) (bm:=tl) (hdct:=hdct) (sn:=sn) (sub:=sub) (ab:=ab) (col:=col) (dd:=dd) (k0:=k0) (k1:=k1) (k2:=k2) (k3:=k3) (k5:=k5)
  FB (mN:=mN) (T.hasType FB.hasBase) (I.ok.hd hc) (by rw[he];show (false || (backTo cpos (starEach es X.env)).any (·.1))=false;rw[hpl];rfl) hni (zdy I hg O.bound ⟨rfl,?_⟩ hd)
 have ha':=ha cpos pins s σ H _ I h
 rw[he]at ha' ⊢
 refine Calls.evalArgs_plain (thn ha' λus s2 ⟨vs,H2,I2,r,hl,hE⟩=>⟨rfl,by rw[<- r.length];exact hl,I2.bk _ _ hC,hN.keeps I2.bk,T.keeps I2.bk,λh' e hm=>hx pins σ H2 s2 h' e _ _ I2 hm hE⟩)
end L2
namespace L2
open PySem PySem.Spec PyProof.Rows
theorem zgw{K:W.Frag}{h:Heap}{mg:Str->Option Value}{x:Str}{C:Addr}{bm:List Value}{nid:String}(X:K.In h)(G:h.Ns mainGlobals mg)(e:W.nsIn K mainGlobals x=some (some (.ref C)))(q:W.excIn K C bm nid=true):OwnCls x C bm nid mg h:=by
 have G':=W.mg_of X G e
 unfold W.excIn at q;split at q
 case h_2=>cases q
 rename_i dd cd sl ho;split at q
 case h_2=>cases q
 rename_i C' tl k0 k1 k2 k3 n k5 hm hs;simp only[Bool.and_eq_true,beq_iff_eq,Bool.not_eq_true']at q
 obtain⟨⟨⟨⟨⟨q1,q2⟩,q3⟩,q4⟩,q5⟩,q6⟩:=q;subst q1;subst q2
 obtain⟨c1,c2,c3,c4,c5,c6,c7,c8,c9,c10,c11⟩:=cd;dsimp only at hm q3 q5 q6;subst hm;subst q3
 have z:sl = #[k0,k1,k2,k3,some (.builtin n),k5]:=by obtain⟨l⟩:=sl;simp only at hs;rw[hs]
 subst z
 exact⟨G',tl,c4,c1,c5,c2,c6,c7,c8,c9,c10,dd,k0,k1,k2,k3,k5,_,X _ _ ho,.of_isNs (W.isNs_of_in X q5),W.nsMap_none_of_in X q5 q6,W.tail_of_in X q4⟩
end L2
namespace L2
open PySem PySem.Spec PyProof.Rows
abbrev Cx.wishP(X:Cx)(pl:List (Addr×Obj))(E:Value->Shared->Prop):Cx:={ X with pn:=X.pn ++ pl,xe:=E }
abbrev Cx.caught(X:Cx)(a:Addr):Cx:={ X with A:=X.A.mark (some (.ref a)),calm:=false,xe:=λ_ _=>False }
section
variable{X:Cx}{pins pl:List (Addr×Obj)}{σ : St}{H:Hp}{s:Shared}{E:Value->Shared->Prop}{a:Addr}
end
def tTry(K:W.Frag)(c:Value)(tb:(St->XK)->TS)(th:TS):TS:=λD σ H=>tb (λσ' cls _ H'=>W.exmOne K cls c=some true/\th D σ' H') D σ H
end L2
namespace L2
open PySem PySem.Spec PyProof.Rows
theorem zfo{bs:List Bool}:∀{us:List Value},Vals (bs.map V.bl) us->LSm.BoolsAre us bs:=by
 induction bs with
 | nil=>intro us r;rw[List.map_nil]at r;cases r;exact .nil
 | cons n ns ih=>
  intro us r
  rw[List.map_cons]at r
  cases r with
  | cons r1 r2=>cases (show _=Value.bool n from r1);exact .cons n (ih r2)
section
variable{X:Cx}
theorem zkd(b:Bool)(hc:X.calm=true):CallR X (.builtin "sum") (λxs H Q=>∃(a:Addr) (ns:List Int),xs=[.ref a]/\SqX X.K b H a (ns.map V.int)/\Q (.int ns.sum) H):=by
 intro pins s σ H xs us Q I r h
 obtain⟨a,ns,rfl,hs,q⟩:=h
 obtain⟨u,rfl,ru⟩:=r.one
 cases ru
 obtain⟨its,rv,p⟩:=I.sq hs
 have hi:=zcw rv
 obtain⟨ys,hy⟩:=hi.allInts.items
 have e2:preSum (numAt ys) ys.size=ns.sum:=by
  have e1:ns=ys.toList.map (·.1):=by
   rw[<- nums_intItems,<- hy];exact(show numsOf its.toArray.toList=ns from hi.numsOf).symm
  rw[preSum_eq,List.take_of_length_le (by simp),e1]
 rw[hy]at p
 cases b with
 | true=>exact W.ktm_sumG (I.ok.hd hc) p λh' tk t' hk=>⟨.int ns.sum,H,I.kept hk,⟨t',by rw[e2]⟩,q⟩
 | false=>exact sum_intListG (I.ok.hd hc) p λh' tk t' hk=>⟨.int ns.sum,H,I.kept hk,⟨t',by rw[e2]⟩,q⟩
theorem zlg(hc:X.calm=true):CallR X (.builtin "all") (λxs H Q=>∃(a:Addr) (bs:List Bool),xs=[.ref a]/\SqL X.K H a (bs.map V.bl)/\Q (.bl (bs.all id)) H):=by
 intro pins s σ H xs us Q I r h
 obtain⟨a,bs,rfl,hs,q⟩:=h
 obtain⟨u,rfl,ru⟩:=r.one
 cases ru
 obtain⟨its,rv,p,_⟩:=I.list hs
 have hb:=zfo rv
 have hl:=p.isList
 have lt:a < s.heap.objs.size:=by obtain⟨_,e,_⟩:=hl;exact Heap.lt_size e
 refine call_all_walk (wpAny_pyIter_list hl ⟨s.heap.objs.size,_,_,_,_,_,λi=>(bs[i]?).getD true,rfl,Walks.list (A:=X.A.in1) (I.ok.hd hc) _ a (Nat.ne_of_lt lt) its.toArray,⟨⟨_,Heap.get?_push_size _ rfl,rfl,rfl⟩,hl.push _⟩,λi v s' Q' E' hP hQ => ?_,λh' tk hk => ?_⟩)
 ·obtain⟨b,e,rfl⟩:=hb.get i v (by simpa using hP)
  simp only[e,Option.getD_some]at hQ;exact wpAny_truthy_bool hQ
 ·refine⟨.bl (bs.all id),H,I.kept (LSm.kept_iter hk),?_,q⟩
  show Value.bool _=Value.bool _
  rw[List.size_toArray,hb.length,LSm.range_all bs]
theorem zll(hc:X.calm=true):CallR X (.builtin "any") (λxs H Q=>∃(a:Addr) (bs:List Bool),xs=[.ref a]/\SqL X.K H a (bs.map V.bl)/\Q (.bl (bs.any id)) H):=by
 intro pins s σ H xs us Q I r h
 obtain⟨a,bs,rfl,hs,q⟩:=h
 obtain⟨u,rfl,ru⟩:=r.one
 cases ru
 obtain⟨its,rv,p,_⟩:=I.list hs
 have hb:=zfo rv
 have hl:=p.isList
 have lt:a < s.heap.objs.size:=by obtain⟨_,e,_⟩:=hl;exact Heap.lt_size e
 refine call_any_walk (wpAny_pyIter_list hl ⟨s.heap.objs.size,_,_,_,_,_,λi=>(bs[i]?).getD false,rfl,Walks.list (A:=X.A.in1) (I.ok.hd hc) _ a (Nat.ne_of_lt lt) its.toArray,⟨⟨_,Heap.get?_push_size _ rfl,rfl,rfl⟩,hl.push _⟩,λi v s' Q' E' hP hQ => ?_,λh' tk hk => ?_⟩)
 ·obtain⟨b,e,rfl⟩:=hb.get i v (by simpa using hP)
  simp only[e,Option.getD_some]at hQ;exact wpAny_truthy_bool hQ
 ·refine⟨.bl (bs.any id),H,I.kept (LSm.kept_iter hk),?_,q⟩
  show Value.bool _=Value.bool _
  rw[List.size_toArray,hb.length,LSm.range_any bs]
def clV:V->Option Value
 | .ty n=>some (.type n)
 | .ref a=>some (.ref a)
 | _=>none
theorem zh8:CallR X (.builtin "isinstance") (λxs H Q=>∃x y t c b,xs=[x,y]/\clV y=some c/\TyOf X.K H x t/\W.kitOne X.K t c=some b/\Q (.bl b) H):=by
 intro pins s σ H xs us Q I r h
 obtain⟨x,y,t,c,b,rfl,hy,ty,e,q⟩:=h
 obtain⟨u,v,rfl,ru,rv⟩:=r.two
 have ev:v=c:=by
  cases y with
  | ty n=>cases hy;exact rv
  | ref a=>cases hy;exact rv
  | _=>cases hy
 subst ev
 exact zlw I ru ty e λtk=>⟨.bl b,H,I.tok _,rfl,q⟩
end
end L2
namespace L2
open PySem PySem.Spec PyProof.Rows
section
variable{P:Program}{w:World}{K:W.Frag}{mg:Str->Option Value}{base:Heap}
end
def CMulB(i j:Int):Prop:=i.natAbs < 2 ^ 4000/\j.natAbs < 2 ^ 4000
theorem zln{X:Cx}:OpR X (binaryOp .Mult) (rI CMulB λi j => .int (i * j)):=opI λ_ _ _ _ _ _ _ hc q=>mul_int q (PySem.IntMulOk.of_bits (Nat.le_trans (intBits_le hc.1) (by decide)) (Nat.le_trans (intBits_le hc.2) (by decide)))
end L2
namespace L2
open PySem PySem.Spec PyProof.Rows
structure CMeth(K:W.Frag)(C:Addr)(m:Str)(f:Addr):Prop where
 ex:∃mc,W.readsIn K C mc=true/\W.findCls K (.ref C) mc m=some (.val (.ref f))
 sp:W.specialIn K (.ref C) "__getattribute__" = some (some (.builtin "type.__getattribute__"))
 kp:W.keepIn K (.ref f)=true
section
variable{X:Cx}{CX:CXT}{k:Nat}{f C:Addr}{fd:FuncData}{ps:List Str}{sp:Sp}{dvs:List V}{ds:List Value}{E:St->XK}{x m:Str}{p pos apos:Pos}{e o:Expr}{es:List Expr}{ta:TE}{t:TA}
theorem zmo{pl:Sem Bool}(CM:CMeth X.K C m f)(hg:Gl X x)(hm:X.mg x=some (.ref C))(F:FnOk X.prog X.w X.K X.mg X.base CX k f fd ps sp)(hr:Room k X.A)(hb:Binds X.K fd ps ds)(hd:Vals dvs ds)(hx:PassesS CX X E)(ha:PA X (e :: es) t)
  (hdb:(x == ("__debug__" : Str))=false:=by decide) (hst:starEach (e :: es) X.env=(false,eval e X.env) :: starEach es X.env:=by rfl) (hpl:(backTo pos (starEach es X.env)).any (·.1)=false:=by rfl)
  (ht:eval (.Call (.Attribute (.Name x p) m apos) (e :: es) [] pos) X.env=(do
   let ov <- eval (.Name x p) X.env
   standAt apos.atName
   let (f,first) <- holding [ov] (getMethod ov m pl)
   callWith pos f first (backTo pos (starEach (e :: es) X.env)) (backToKw pos (keywordEach [] X.env))):=by rfl) :
  PE X (.Call (.Attribute (.Name x p) m apos) (e :: es) [] pos) (tCallS sp dvs E t):=by
 intro pins s σ H Q I h
 obtain⟨mc,q1,q2⟩:=CM.ex
 refine W.methodCall_KW (pl:=pl) (zdy I hg hm (W.method_cls I.kIn CM.sp (W.cls_value I.kIn q1 q2 rfl ?_)) hdb) ht
 have I1:=I.tok (s.toks + 1)
 refine W.callWith_K (first:=[]) (h₀:=X.base) I.ok.mod.kin CM.kp (thn (ha pos pins _ σ H _ I1 h) λus s2 ⟨vs,H2,I2,r,q⟩=>⟨I2.kIn,?_⟩) hst hpl
 exact zih F hr hb hd hx I2 r q
theorem zht{pins:List (Addr×Obj)}{σ : St}{H:Hp}{s:Shared}{Q:VK}{us:List Value}{vs:List V}(M:Mk X.K C f)(F:FnOk X.prog X.w X.K X.mg X.base CX k f fd ps sp)(hr:Room (k + 1) X.A)(hb:Binds X.K fd ps ds)(hd:Vals dvs ds)
  (hx:PassesS CX X E) (I:Inv X pins σ H s) (r:Vals vs us)
  (h:∀x dx,H x=none->H dx=none->dx≠x->sp (.ref x :: (vs ++ dvs)) (upd (upd H dx (.own x)) x (.ins C dx [])) (λv H2=>v = .non/\Q (.ref x) H2) (E σ)) :
  wpAny (model X.prog X.w) X.A (call (.ref C) us) (EP X pins σ Q) X.xe s:=by
 have hq:=h (s.heap.objs.size + 1) s.heap.objs.size (I.hok.fresh (Nat.le_succ _)) (I.hok.fresh (Nat.le_refl _)) (Nat.ne_of_lt (Nat.lt_succ_self _))
 have I2:=Inv.made (C:=C) I
 have r2:Vals (V.ref (s.heap.objs.size + 1) :: (vs ++ dvs)) (Value.ref (s.heap.objs.size + 1) :: (us ++ ds)) := .cons rfl (r.append hd)
 have hl:(Value.ref (s.heap.objs.size + 1) :: us ++ ds).length=ps.length:=by
  have e:=r2.length
  rw[F.len _ _ _ _ hq]at e
  exact e.symm
 refine wpAny_call (znx (f:=f) I.kIn M.makes M.init (beq_iff_eq.mp M.fn) (codeAny_mono (F.run _ X.stack _ _ ⟨Value.ref (s.heap.objs.size + 1) :: us,[]⟩ (Value.ref (s.heap.objs.size + 1) :: (us ++ ds)) _ _ (E σ) (hr.make C us [])
  (I2.env0.make C us []) (hb _ (Value.ref (s.heap.objs.size + 1) :: us) I2.kIn hl) r2 hq) λr s' hq' => ?_))
 match r,hq' with
 | .error e,hq'=>exact hx pins σ _ _ e s' I2 hq'
 | .ok (.ret u),hq'=>
  obtain⟨v,H',I3,rv,ev,q3⟩:=I2.after hq'
  subst ev
  exact⟨rv,⟨V.ref (s.heap.objs.size + 1),H',I3,rfl,q3⟩⟩
 | .ok .next,hq'=>exact False.elim hq'
 | .ok .brk,hq'=>exact False.elim hq'
 | .ok .cont,hq'=>exact False.elim hq'
theorem zm3(M:Mk X.K C f)(F:FnOk X.prog X.w X.K X.mg X.base CX k f fd ps sp)(hr:Room (k + 1) X.A)(hg:Gl X x)(hm:X.mg x=some (.ref C))(hb:Binds X.K fd ps ds)(hd:Vals dvs ds)(hx:PassesS CX X E)
  (ha:PA X (e :: es) t) (hdb:(x == ("__debug__" : Str))=false:=by decide) (he:starEach (e :: es) X.env=(false,eval e X.env) :: starEach es X.env:=by rfl) (hpl:(backTo pos (starEach es X.env)).any (·.1)=false:=by rfl) :
  PE X (.Call (.Name x p) (e :: es) [] pos) (tMakeS C sp dvs E t):=by
 intro pins s σ H Q I h
 refine wpAny_Call_Name_kw (zdy I hg hm (W.callWith_K (h₀:=X.base) I.ok.mod.kin M.kp (thn (ha pos pins s σ H _ I h) λus s1 ⟨vs,H1,I1,r,q⟩=>⟨I1.kIn,?_⟩) he hpl) hdb)
 exact zht M F hr hb hd hx I1 r q
end
end L2
set_option Elab.async false
set_option linter.all false
set_option maxRecDepth 100000
namespace L2
open PySem PySem.Spec PyProof.Rows
structure FunD(K:W.Frag)(x qual:Str)(st:Stmt)(dV:Value)(f:Addr)(fd:FuncData):Prop where
 ex:∃(oc:Value) (od:Option Addr) (kV doc pm:Value) (an:Option Addr) (cdv ct:Value) (osl:Array (Option Value)),
  fd=W.fnOf x qual (defArgs st) (defBody st) (defScope st) dV kV doc pm an cdv ct/\K.lookup f=some ⟨oc,od,.func fd,osl⟩/\W.codeIn K cdv qual=true
section
variable{P:Program}{w:World}{K:W.Frag}{mg:Str->Option Value}{base:Heap}{x qual:Str}{st:Stmt}{dV:Value}{f:Addr}{fd:FuncData}{N ps:List Str}{k:Nat}{sp:Sp}
theorem FunD.okN(F:FunD K x qual st dV f fd)(S:FnScope N ps (defScope st))(len:∀vs H Q E,sp vs H Q E->vs.length=ps.length)
  (hbody:∀(cdv:Value) (A:Around) (outer:List Env) (s:Shared) (H:Hp) (vs:List V) (Q:VK) (E:XK),Room k (A.deeper (envOfC qual (defScope st) s.heap.objs.size f cdv))->sp vs H Q E ->
   ∃t,PSs (cxOf CX0 P w K mg base N qual (defScope st) f cdv A outer s H E).nox (defBody st) t/\t { nx:=λ_ H'=>Q .non H',rt:=Q } (start N vs) H):FnOk P w K mg base CX0 (k + 1) f fd ps sp:=by
 obtain⟨oc,od,kV,doc,pm,an,cdv,ct,osl,rfl,lk,hcd⟩:=F.ex
 refine zpq lk hcd S len λA outer s H vs Q E hr hsp => ?_
 obtain⟨t,h,q⟩:=hbody cdv A outer s H vs Q E hr hsp
 exact⟨t,h.nox,q⟩
theorem FunD.okX(F:FunD K x qual st dV f fd)(S:FnScope N ps (defScope st))(len:∀vs H Q E,sp vs H Q E->vs.length=ps.length)
  (hbody:∀(cdv:Value) (A:Around) (outer:List Env) (s:Shared) (H:Hp) (vs:List V) (Q:VK) (E:XK),Room k (A.deeper (envOfC qual (defScope st) s.heap.objs.size f cdv))->sp vs H Q E ->
   ∃t,PSs (cxOf (CXe P w) P w K mg base N qual (defScope st) f cdv A outer s H E) (defBody st) t/\t { nx:=λ_ H'=>Q .non H',rt:=Q } (start N vs) H):FnOk P w K mg base (CXe P w) (k + 1) f fd ps sp:=by
 obtain⟨oc,od,kV,doc,pm,an,cdv,ct,osl,rfl,lk,hcd⟩:=F.ex
 exact zpq lk hcd S len λA outer s H vs Q E hr hsp=>hbody cdv A outer s H vs Q E hr hsp
theorem FunD.binds(F:FunD K x qual st .none f fd)
  (h:∀(kV doc pm:Value) (an:Option Addr) (cdv ct:Value) (us:List Value),us.length=ps.length->bindArgs (W.fnOf x qual (defArgs st) (defBody st) (defScope st) .none kV doc pm an cdv ct) ⟨us,[]⟩=pure (ps.zip us)):Binds K fd ps []:=by
 obtain⟨oc,od,kV,doc,pm,an,cdv,ct,osl,rfl,lk,hcd⟩:=F.ex
 exact .all (h kV doc pm an cdv ct)
theorem zar{oc:Value}{od an:Option Addr}{osl:Array (Option Value)}{kV doc pm cdv ct:Value}(l:K.lookup f=some ⟨oc,od,.func (W.fnOf x qual (defArgs st) (defBody st) (defScope st) dV kV doc pm an cdv ct),osl⟩)
  (c:W.codeIn K cdv qual=true):FunD K x qual st dV f (W.fnOf x qual (defArgs st) (defBody st) (defScope st) dV kV doc pm an cdv ct):=⟨⟨oc,od,kV,doc,pm,an,cdv,ct,osl,rfl,l,c⟩⟩
end
structure Cal(P:Program)(w:World)(K:W.Frag)(mg:Str->Option Value)(base:Heap)(CX:CXT)(k:Nat)(x:Str)(ps:List Str)(ds:List Value)(sp:Sp):Prop where
 ex:∃f fd,FnOk P w K mg base CX k f fd ps sp/\Binds K fd ps ds/\W.keepIn K (.ref f)=true/\mg x=some (.ref f)
structure MCal(P:Program)(w:World)(K:W.Frag)(mg:Str->Option Value)(base:Heap)(CX:CXT)(k:Nat)(C:Addr)(m:Str)(ps:List Str)(ds:List Value)(sp:Sp):Prop where
 ex:∃f fd,FnOk P w K mg base CX k f fd ps sp/\Binds K fd ps ds/\Meth K C m f
 cl:Cls K C
structure Mak(P:Program)(w:World)(K:W.Frag)(mg:Str->Option Value)(base:Heap)(CX:CXT)(k:Nat)(x:Str)(C:Addr)(ps:List Str)(ds:List Value)(sp:Sp):Prop where
 ex:∃f fd,FnOk P w K mg base CX k f fd ps sp/\Binds K fd ps ds/\Mk K C f
 at_:mg x=some (.ref C)
structure CCal(P:Program)(w:World)(K:W.Frag)(mg:Str->Option Value)(base:Heap)(CX:CXT)(k:Nat)(x:Str)(m:Str)(ps:List Str)(ds:List Value)(sp:Sp):Prop where
 ex:∃C f fd,FnOk P w K mg base CX k f fd ps sp/\Binds K fd ps ds/\CMeth K C m f/\mg x=some (.ref C)
structure Exc(K:W.Frag)(mg:Str->Option Value)(base:Heap)(x:Str)(C:Addr):Prop where
 ex:∃bm nid init B,OwnCls x C bm nid mg base/\ExcBaseFacts B nid init bm
 at_:mg x=some (.ref C)
 me:W.exmOne K (.ref C) (.ref C)=some true
theorem pass00{X:Cx}:PassesS CX0 X (λ_=>E0):=λ_ _ _ _ _ _ _ h=>h.elim
theorem passF{X:Cx}{P:Program}{w:World}:PassesS (CXe P w) X (λ_=>E0):=by
 rintro _ _ _ _ _ _ _ ⟨_,_,_,_,_,_,_,_,_,_,_,_,h⟩
 exact h.elim
section
variable{X:Cx}{CX:CXT}{k j:Nat}{C:Addr}{ps:List Str}{sp:Sp}{dvs:List V}{ds:List Value}{E:St->XK}{x m:Str}{p pos apos:Pos}{e o:Expr}{es:List Expr}{ta:TE}{t:TA}
theorem pe_c(c:Cal X.prog X.w X.K X.mg X.base CX k x ps ds sp)(hr:Room j X.A)(hx:PassesS CX X E)(hd:Vals dvs ds)(ha:PA X (e :: es) t)(hk:k<=j:=by decide)(hg:Gl X x:=by rfl)
  (hdb:(x == ("__debug__" : Str))=false:=by decide) (he:starEach (e :: es) X.env=(false,eval e X.env) :: starEach es X.env:=by rfl) (hpl:(backTo pos (starEach es X.env)).any (·.1)=false:=by rfl) :
  PE X (.Call (.Name x p) (e :: es) [] pos) (tCallS sp dvs E t):=by
 obtain⟨f,fd,F,hb,hk',hm⟩:=c.ex
 exact zmh F (hr.mono hk) hg hm hk' hb hd hx ha hdb he hpl
theorem pe_m{pl:Sem Bool}(c:MCal X.prog X.w X.K X.mg X.base CX k C m ps ds sp)(he:PE X o ta)(hr:Room j X.A)(hx:PassesS CX X E)(hd:Vals dvs ds)(ha:PA X (e :: es) t)(hk:k<=j:=by decide)
  (hst:starEach (e :: es) X.env=(false,eval e X.env) :: starEach es X.env:=by rfl) (hpl:(backTo pos (starEach es X.env)).any (·.1)=false:=by rfl)
  (ht:eval (.Call (.Attribute o m apos) (e :: es) [] pos) X.env=(do
   let ov <- eval o X.env
   standAt apos.atName
   let (f,first) <- holding [ov] (getMethod ov m pl)
   callWith pos f first (backTo pos (starEach (e :: es) X.env)) (backToKw pos (keywordEach [] X.env))):=by rfl) :
  PE X (.Call (.Attribute o m apos) (e :: es) [] pos) (tMethS C m sp dvs E ta t):=by
 obtain⟨f,fd,F,hb,hm⟩:=c.ex
 exact zmu he c.cl hm F (hr.mono hk) hb hd hx ha hst hpl ht
theorem zpl(c:Mak X.prog X.w X.K X.mg X.base CX k x C ps ds sp)(hr:Room j X.A)(hx:PassesS CX X E)(hd:Vals dvs ds)(ha:PA X (e :: es) t)(hk:k + 1<=j:=by decide)(hg:Gl X x:=by rfl)
  (hdb:(x == ("__debug__" : Str))=false:=by decide) (he:starEach (e :: es) X.env=(false,eval e X.env) :: starEach es X.env:=by rfl) (hpl:(backTo pos (starEach es X.env)).any (·.1)=false:=by rfl) :
  PE X (.Call (.Name x p) (e :: es) [] pos) (tMakeS C sp dvs E t):=by
 obtain⟨f,fd,F,hb,hm⟩:=c.ex
 exact zm3 hm F (hr.mono hk) hg c.at_ hb hd hx ha hdb he hpl
theorem zqf(c:Mak X.prog X.w X.K X.mg X.base CX k x C ps ds sp)(hr:Room j X.A)(hx:PassesS CX X E)(hd:Vals dvs ds)(hk:k + 1<=j:=by decide)(hg:Gl X x:=by rfl)(hdb:(x == ("__debug__" : Str))=false:=by decide) :
  PE X (.Call (.Name x p) [] [] pos) (tMakeS C sp dvs E tNil):=by
 obtain⟨f,fd,F,hb,hm⟩:=c.ex
 intro pins s σ H Q I h
 refine wpAny_Call_Name_kw (zdy I hg c.at_ ?_ hdb)
 exact W.callWith_K0 I.kIn hm.kp (zht (us:=[]) hm F (hr.mono hk) hb hd hx I .nil h)
theorem zqc{pl:Sem Bool}(c:CCal X.prog X.w X.K X.mg X.base CX k x m ps ds sp)(hr:Room j X.A)(hx:PassesS CX X E)(hd:Vals dvs ds)(ha:PA X (e :: es) t)(hk:k<=j:=by decide)(hg:Gl X x:=by rfl)
  (hdb:(x == ("__debug__" : Str))=false:=by decide) (hst:starEach (e :: es) X.env=(false,eval e X.env) :: starEach es X.env:=by rfl) (hpl:(backTo pos (starEach es X.env)).any (·.1)=false:=by rfl)
  (ht:eval (.Call (.Attribute (.Name x p) m apos) (e :: es) [] pos) X.env=(do
   let ov <- eval (.Name x p) X.env
   standAt apos.atName
   let (f,first) <- holding [ov] (getMethod ov m pl)
   callWith pos f first (backTo pos (starEach (e :: es) X.env)) (backToKw pos (keywordEach [] X.env))):=by rfl) :
  PE X (.Call (.Attribute (.Name x p) m apos) (e :: es) [] pos) (tCallS sp dvs E t):=by
 obtain⟨C,f,fd,F,hb,hm,hmg⟩:=c.ex
 exact zmo hm hg hmg F (hr.mono hk) hb hd hx ha hdb hst hpl ht
theorem zlp{np cpos:Pos}(x':Exc X.K X.mg X.base x C)(hc:X.calm=true)(hg:Gl X x)(hx:RaisesTo X E)(ha:PA X (e :: es) t)(he:starEach (e :: es) X.env=(false,eval e X.env) :: starEach es X.env:=by rfl)(hpl:(backTo cpos (starEach es X.env)).any (·.1)=false:=by rfl)(hd:(x == ("__debug__" : Str))=false:=by decide) :
  PS X (.Raise (some (.Call (.Name x np) (e :: es) [] cpos)) none pos) (tRaise C E t):=by
 obtain⟨bm,nid,init,B,O,FB⟩:=x'.ex
 exact znt O FB hc hg hx ha he hpl hd
end
theorem zni{X:Cx}{x:Str}{i:Int}{pos:Pos}(hm:∃tk,X.mg x=some (.int i tk))(hg:Gl X x)(hd:(x == ("__debug__" : Str))=false:=by decide):PE X (.Name x pos) (tC (.int i)):=by
 obtain⟨tk,e⟩:=hm
 exact zl6 hg e ⟨tk,rfl⟩ hd
def CDivB(_ j:Int):Prop:=j≠0/\j.natAbs < 2 ^ 8999
theorem zi8{X:Cx}:OpR X (binaryOp .FloorDiv) (rI CDivB λi j => .int (i.fdiv j)):=opI λ_ j _ _ _ _ _ hc q=>floordiv_int hc.1 q (.inl (PyProof.noPylong_of_log2 (by
 have h0:j.natAbs≠0:=λz=>hc.1 (Int.natAbs_eq_zero.mp z)
 exact Nat.lt_of_lt_of_le ((Nat.log2_lt h0).mpr hc.2) (by decide))))
theorem cEq{a b:Int}{A B:Prop}(h1:a=b->A)(h2:a≠b->B):if decide (V.int a=V.int b)=true then A else B:=by
 by_cases h:a=b
 ·rw[decide_eq_true (congrArg V.int h)];exact iteT (h1 h)
 ·rw[decide_eq_false λz=>h (by injection z)];exact iteF (h2 h)
theorem cNe{a b:Int}{A B:Prop}(h1:a≠b->A)(h2:a=b->B):if (!decide (V.int a=V.int b))=true then A else B:=by
 by_cases h:a=b
 ·rw[decide_eq_true (congrArg V.int h)];exact iteF (h2 h)
 ·rw[decide_eq_false λz=>h (by injection z)];exact iteT (h1 h)
theorem cD{c:Prop}[Decidable c]{A B:Prop}(h1:c->A)(h2:¬c->B):if decide c=true then A else B:=by
 by_cases h:c
 ·rw[decide_eq_true h];exact iteT (h1 h)
 ·rw[decide_eq_false h];exact iteF (h2 h)
theorem cN{c:Prop}[Decidable c]{A B:Prop}(h1:¬c->A)(h2:c->B):if (!decide c)=true then A else B:=by
 by_cases h:c
 ·rw[decide_eq_true h];exact iteF (h2 h)
 ·rw[decide_eq_false h];exact iteT (h1 h)
theorem cB{b:Bool}{A B:Prop}(h1:b=true->A)(h2:b=false->B):if b=true then A else B:=by
 cases b with
 | true=>exact iteT (h1 rfl)
 | false=>exact iteF (h2 rfl)
theorem cNB{b:Bool}{A B:Prop}(h1:b=false->A)(h2:b=true->B):if (!b)=true then A else B:=by
 cases b with
 | true=>exact iteF (h2 rfl)
 | false=>exact iteT (h1 rfl)
theorem dI{a b:Int}:decide (V.int a=V.int b)=decide (a=b):=by
 by_cases h:a=b
 ·rw[decide_eq_true (congrArg V.int h),decide_eq_true h]
 ·rw[decide_eq_false λz=>h (by injection z),decide_eq_false h]
end L2
namespace L2
open PySem PySem.Spec PyProof.Rows
mutual
inductive Rds(K:W.Frag)(H:Hp):V->PyData->Prop
 | non:Rds K H .non .none
 | bl (b:Bool):Rds K H (.bl b) (.bool b)
 | int (i:Int):Rds K H (.int i) (.int i)
 | str (x:Str):Rds K H (.str x) (.str x)
 | tup {a:Addr} {xs:List V} {ds:List PyData}:SqT K H a xs->RdsAll K H xs ds->Rds K H (.ref a) (.tuple ds)
 | lst {a:Addr} {xs:List V} {ds:List PyData}:SqL K H a xs->RdsAll K H xs ds->Rds K H (.ref a) (.list ds)
inductive RdsAll(K:W.Frag)(H:Hp):List V->List PyData->Prop
 | nil:RdsAll K H [] []
 | cons {x:V} {xs:List V} {d:PyData} {ds:List PyData}:Rds K H x d->RdsAll K H xs ds->RdsAll K H (x :: xs) (d :: ds)
end
theorem zjc{K:W.Frag}{H:Hp}:∀ns:List Int,RdsAll K H (ns.map V.int) (ns.map PyData.int)
 | [] => .nil
 | n :: ns => .cons (.int n) (zjc ns)
section
variable{X:Cx}{pins:List (Addr×Obj)}{σ : St}{H:Hp}{s:Shared}
mutual
theorem Inv.rds(I:Inv X pins σ H s):∀{v:V} {d:PyData} {u:Value},Rds X.K H v d->RelV v u->∃as,Reads s.heap u d as
 | _,_,_,.non,r=>by cases (show _=Value.none from r);exact⟨_,.none⟩
 | _,_,_,.bl b,r=>by cases (show _=Value.bool b from r);exact⟨_,.bool b⟩
 | _,_,_,.int i,r=>by obtain⟨t,rfl⟩:=r;exact⟨_,.int i t⟩
 | _,_,_,.str x,r=>by obtain⟨t,rfl⟩:=r;exact⟨_,.str x t⟩
 | _,_,_,.tup (a:=a) h hs,r=>by
  cases (show _=Value.ref a from r)
  obtain⟨its,rv,⟨o,ho,hc,n,hd⟩,_⟩:=I.tuple h
  obtain⟨as,q⟩:=Inv.rdsAll I hs rv
  exact⟨as,.tuple ho hc hd (by simpa using q)⟩
 | _,_,_,.lst (a:=a) h hs,r=>by
  cases (show _=Value.ref a from r)
  obtain⟨its,rv,p,_⟩:=I.list h
  obtain⟨o,ho,hc,n,hd⟩:=p.isList
  obtain⟨as,q⟩:=Inv.rdsAll I hs rv
  exact⟨_,.list ho hc hd (by simpa using q)⟩
theorem Inv.rdsAll(I:Inv X pins σ H s):∀{vs:List V} {ds:List PyData} {us:List Value},RdsAll X.K H vs ds->Vals vs us->∃as,ReadsAll s.heap us ds as
 | _,_,_,.nil,.nil=>⟨_,.nil⟩
 | _,_,_,.cons h hs,.cons r rs=>by
  obtain⟨as,q⟩:=Inv.rds I h r
  obtain⟨bs,p⟩:=Inv.rdsAll I hs rs
  exact⟨_,.cons q p⟩
end
end
section
variable{X:Cx}
theorem zqg(hu:X.A.units + 64 < cLine):OpR X (compareOp .Eq) (λx y H Q=>∃d e,Rds X.K H x d/\Rds X.K H y e/\SeqAt.shaped d=true/\SeqAt.shaped e=true/\Q (.bl (PyData.eqv d e)) H):=by
 intro pins s σ H x y u v Q I rx ry h
 obtain⟨d,e,hd,he,s1,s2,q⟩:=h
 obtain⟨as,ra⟩:=I.rds hd rx
 obtain⟨bs,rb⟩:=I.rds he ry
 exact eq_dataH ra rb s1 s2 hu ⟨.bl (PyData.eqv d e),H,I,rfl,q⟩
end
theorem eqv_ints:∀ns ms:List Int,PyData.eqvAll (ns.map PyData.int) (ms.map PyData.int)=decide (ns=ms)
 | [],[]=>by simp[PyData.eqvAll]
 | [],_ :: _=>by simp[PyData.eqvAll]
 | _ :: _,[]=>by simp[PyData.eqvAll]
 | a :: r,b :: t=>by
  simp only[List.map_cons,PyData.eqvAll,PyData.eqv,eqv_ints r t]
  by_cases h:a=b <;> by_cases h':r=t <;> simp[h,h']
section
variable{X:Cx}
def rEqT(K:W.Frag):R2:=λx y H Q=>∃(a b:Addr) (xs ys:List Int),x = .ref a/\y = .ref b/\SqT K H a (xs.map V.int)/\SqT K H b (ys.map V.int)/\Q (.bl (decide (xs=ys))) H
def rNeT(K:W.Frag):R2:=λx y H Q=>∃(a b:Addr) (xs ys:List Int),x = .ref a/\y = .ref b/\SqT K H a (xs.map V.int)/\SqT K H b (ys.map V.int)/\Q (.bl (!decide (xs=ys))) H
end
end L2
namespace HT
open PySem PyProof.Rows
section
open PySem.SeqAt
open PySem.AutoSeq1 (wpAny_loadPart')
open PySem.MeetsSeq PySem.MeetsSeq2 PySem.MeetsSeq3
theorem zn6(A:Around)(s:Shared)(a:Int)(t:Tok)(c:Int)(u:Tok)(prog:Program)(w:World)(E:Value->Shared->Prop)(Q:Value->Shared->Prop)(h:Q (.bool (decide (c < a))) s) :
  wpAny (model prog w) A (richCompare .Gt (.int a t) (.int c u)) Q E s:=
 (PyProof.Rows.gt_int h:wpAny (model prog w) A (compareOp .Gt (.int a t) (.int c u)) Q E s)
theorem zgn(l b:Addr)(items items2:Array Value)(n n2:Nat)(dd dd2:Option Addr)(sl sl2:Array (Option Value))(ns ms:List Int)(hi:IntsAre items.toList ns)(hj:IntsAre items2.toList ms) :
  Meets (Builtin.«tuple.__gt__» ⟨[.ref l,.ref b],[]⟩)
   (λ_ R s=>s.heap.get? l=some { cls := .type "tuple",dict:=dd,data := .seq items n,slots:=sl }/\s.heap.get? b=some { cls := .type "tuple",dict:=dd2,data := .seq items2 n2,slots:=sl2 } /\
    R (.ok (.ret (.bool (lexLt ms ns)))) s):=
 .of_wp λprog w A R s h=>by
  obtain⟨hp,g,d,tk,os⟩:=s;obtain⟨hl,hb,h⟩:=h
  have f2:=AutoSeq1.sub_tuple_tuple
  have z1:items.size=ns.length:=by rw[<- hi.length];simp
  have z2:items2.size=ms.length:=by rw[<- hj.length];simp
  wp_walk using wpAny_loadPart' hl,wpAny_loadPart' hb,wpAny_forIn_list _ (λrest b s'=>b.1=none/\s'=⟨hp,g,d,tk,os⟩/\∃(vs ws:List Value) (ns' ms':List Int),rest=vs.zip ws /\
   IntsAre vs ns'/\IntsAre ws ms'/\ns'.length + items2.size=ms'.length + items.size/\R (.ok (.ret (.bool (lexLt ms' ns')))) ⟨hp,g,d,tk,os⟩) _
  case turn=>
   rintro⟨y,x⟩ rest b s' ⟨hb',rfl,vs,ws,ns',ms',hz,hvi,hwi,hlen,hR⟩
   cases hvi with
   | nil=>rw[List.zip_nil_left]at hz;cases hz
   | cons a t hvi'=>
    cases hwi with
    | nil=>rw[List.zip_nil_right]at hz;cases hz
    | cons c u hwi'=>
     rw[List.zip_cons_cons]at hz
     injection hz with hyx hrest
     injection hyx with hy hx
     subst hy hx
     rw[lexLt_cons]at hR
     simp only[List.length_cons]at hlen
     obtain⟨e,he,hiff⟩:=eqAt_int A.in1 ⟨hp,g,d,tk,os⟩ a t c u
     refine wpAny_bind (he prog w _ _ ?_)
     cases e with
     | true=>
      rw[if_pos (hiff.mp rfl).symm]at hR
      wp_walk
      exact⟨rfl,rfl,_,_,_,_,hrest,hvi',hwi',by omega,hR⟩
     | false=>
      rw[if_neg (λq=>absurd (hiff.mpr q.symm) Bool.false_ne_true)]at hR
      have hri:=zn6 A.in1 ⟨hp,g,d,tk,os⟩ a t c u prog w
      wp_walk using hri
      exact⟨_,rfl,by simpa using hR⟩
  case fin=>
   rintro⟨b1,b2⟩ s' ⟨hb',rfl,vs,ws,ns',ms',hz,hvi,hwi,hlen,hR⟩
   simp only at hb'
   subst hb'
   have hv:lexLt ms' ns'=decide (items2.size < items.size):=by
    cases hvi with
    | nil=>
     cases hwi with
     | nil=>
      simp only[List.length_nil]at hlen
      rw[zd2]
      exact(decide_eq_false (by omega)).symm
     | cons c u hw=>
      simp only[List.length_nil,List.length_cons]at hlen
      rw[lexLt_cons_nil]
      exact(decide_eq_false (by omega)).symm
    | cons a t hv=>
     cases hwi with
     | nil=>
      simp only[List.length_nil,List.length_cons]at hlen
      rw[lexLt_nil_cons]
      exact(decide_eq_true (by omega)).symm
     | cons c u hw=>
      rw[List.zip_cons_cons]at hz
      cases hz
   rw[hv]at hR
   wp_walk
   exact⟨_,rfl,by simpa[Builtin.Tuple.tupleCompareSizes]using hR⟩
  case h=>
   exact⟨rfl,rfl,items.toList,items2.toList,ns,ms,rfl,hi,hj,by omega,h⟩
end
theorem gt_tupInts{prog:Program}{w:World}{A:Around}{E:Value->Shared->Prop}{s:Shared}{l b:Addr}{items items2:Array Value}{ns ms:List Int}{Q:Value->Shared->Prop}(hl:IsTup s.heap l items)(hb:IsTup s.heap b items2)(hi:IntsAre items.toList ns)(hj:IntsAre items2.toList ms)
  (hu:A.units < cLine) (h:Q (.bool (lexLt ms ns)) s):wpAny (model prog w) A (compareOp .Gt (.ref l) (.ref b)) Q E s:=by
 obtain⟨⟨cls,dd,data,sl⟩,ho,hc,n,hd⟩:=id hl
 obtain⟨⟨cls2,dd2,data2,sl2⟩,ho2,hc2,n2,hd2⟩:=id hb
 simp only at hc hd hc2 hd2
 subst hc hd hc2 hd2
 exact richCompare_meets_room (op := .Gt) ⟨_,ho,rfl⟩ ⟨_,ho2,rfl⟩ PySem.F.slot_tuple_gt PySem.F.entry_tuple_gt (PySem.F.args_tuple_gt_2 _ _) (zgn l b items items2 n n2 dd dd2 sl sl2 ns ms hi hj)
  ⟨ho,ho2,show Value.bool (lexLt ms ns)≠Value.notImplemented/\Q (.bool (lexLt ms ns)) s from⟨(λx=>nomatch x),h⟩⟩ hu
end HT
namespace L2
open PySem PySem.Spec PyProof.Rows
variable{X:Cx}
def rGtT(K:W.Frag):R2:=λx y H Q=>∃(a b:Addr) (ns ms:List Int),x = .ref a/\y = .ref b/\SqT K H a (ns.map V.int)/\SqT K H b (ms.map V.int)/\Q (.bl (HT.lexLt ms ns)) H
end L2
namespace PySem
namespace F
theorem zhe:Manifest.owners.lookup (String.ofList ['d','e','s','r','e','v','e','r'].reverse)=some Manifest.sig_reversed:=by kernel_rfl
theorem slot_rvd_next:Slot "reversed" "__next__" "reversed.__next__":=
 .of (owner:="reversed") (n:="__next__") (by rw[typeLookup_type,builtinLookup_eq_fast];kernel_rfl) (by decide +kernel) (by decide +kernel) (by decide +kernel)
  (by first | exact .inl (by decide +kernel) | exact .inr (by decide +kernel)) (by rw[isSubtype_type];kernel_rfl)
theorem entry_rvd_next:entryFor table "reversed.__next__" = some Builtin.«reversed.__next__»:=entryFor_of_tree (by kernel_rfl)
theorem args_rvd_next_1(a:Value):argsOk "reversed.__next__" ⟨[a],[]⟩:=by
 unfold argsOk;rw[signature?_of (id:="reversed.__next__") (n:=['_','_','t','x','e','n','_','_']) (o:=['d','e','s','r','e','v','e','r']) (by kernel_rfl) zhe];kernel_rfl
theorem slot_rvd_iter:Slot "reversed" "__iter__" "reversed.__iter__":=
 .of (owner:="reversed") (n:="__iter__") (by rw[typeLookup_type,builtinLookup_eq_fast];kernel_rfl) (by decide +kernel) (by decide +kernel) (by decide +kernel)
  (by first | exact .inl (by decide +kernel) | exact .inr (by decide +kernel)) (by rw[isSubtype_type];kernel_rfl)
theorem args_rvd_iter_1(a:Value):argsOk "reversed.__iter__" ⟨[a],[]⟩:=by
 unfold argsOk;rw[signature?_of (id:="reversed.__iter__") (n:=['_','_','r','e','t','i','_','_']) (o:=['d','e','s','r','e','v','e','r']) (by kernel_rfl) zhe];kernel_rfl
theorem entry_rvd_iter:entryFor table "reversed.__iter__" = some Builtin.«dict_keyiterator.__iter__»:=
 entryFor_alias (id':="dict_keyiterator.__iter__") (by kernel_rfl) (by first | rfl | decide +kernel | (unfold String.splitOn;simp +decide [String.splitOnAux])) (by decide +kernel) (by kernel_rfl)
theorem lookup_tuple_reversed:typeLookup (.type "tuple") "__reversed__" = pure none:=by rw[typeLookup_type,builtinLookup_eq_fast];kernel_rfl
theorem zgp:Slot "reversed" "__init__" "object.__init__":=
 .of (owner:="object") (n:="__init__") (by rw[typeLookup_type,builtinLookup_eq_fast];kernel_rfl) (by decide +kernel) (by decide +kernel) (by decide +kernel)
  (by first | exact .inl (by decide +kernel) | exact .inr (by decide +kernel)) (by rw[isSubtype_type];kernel_rfl)
theorem called_reversed:TypeCalled "reversed" "reversed.__new__" "object.__init__":=
 ⟨by decide +kernel,by decide +kernel,⟨_,_,mro_reversed⟩,made_reversed,by decide +kernel,by rw[isSubtype_type];kernel_rfl,zgp⟩
end F
end PySem
namespace L2
open PySem PySem.Spec PyProof.Rows PySem.MeetsSeq
theorem zn3(t:Addr)(items:Array Value):Meets (Builtin.«reversed.__new__» ⟨[.type "reversed",.ref t],[]⟩) (λ_ R s=>IsTup s.heap t items/\(items.size:Int) < 2 ^ 63 /\
   R (.ok (.ret (.ref s.heap.objs.size))) { s with heap:=s.heap.push { cls := .type "reversed",data := .fields #[.ref t,rawInt ((items.size:Int) - 1)] },toks:=s.toks + 1 + 1 }):=
 .of_wp λprog w A R s h=>by
  obtain⟨ht,hz,h⟩:=h
  unfold Builtin.«reversed.__new__»
  refine wpAny_bind (wpAny_of_eq (newClass_reversed _) ?_)
  try dsimp only
  refine wpAny_bind (wpAny_of_eq (a:=()) (by first | rfl | kernel_rfl) ?_)
  refine wpAny_bind (wpAny_of_eq (a:=()) (by first | rfl | kernel_rfl) ?_)
  try dsimp only
  refine wpAny_bind (wpAny_specialOf ht.typeIs F.lookup_tuple_reversed ?_)
  try dsimp only
  refine wpAny_bind ?_
  show wpAny _ _ (isInstance (.ref t) (.type "dict") >>= _) _ _ _
  refine wpAny_bind (wpAny_isInstance ht.typeIs F.sub_tuple_dict ?_)
  rw[if_neg Bool.false_ne_true]
  refine wpAny_bind (wpAny_specialOf ht.typeIs slot_tuple_getitem.lookup ?_)
  dsimp only
  rw[if_pos (by decide)]
  refine wpAny_pure ?_
  simp only[Bool.not_true,Bool.false_eq_true,if_false]
  refine wpAny_bind (len_tuple ht hz ?_)
  refine wpAny_bind (wpAny_of_eq (a:=some (items.size:Int)) rfl ?_)
  dsimp only
  refine wpAny_bind ?_
  unfold Builtin.SmallTypes.newRecord
  dsimp only
  refine wpAny_newObj_type ?_
  exact wpAny_pure ⟨_,rfl,h⟩
section
variable{prog:Program}{w:World}{A:Around}{E:Value->Shared->Prop}{s:Shared}
def IsRvd(h:Heap)(a t:Addr)(i:Int):Prop:=∃o,h.get? a=some o/\o.cls = .type "reversed"/\o.data = .fields #[.ref t,rawInt i]
theorem IsRvd.typeIs{a t:Addr}{i:Int}(x:IsRvd s.heap a t i):s.TypeIs (.ref a) "reversed":=let ⟨o,ho,hc,_⟩:=x;⟨o,ho,hc⟩
theorem zef{t:Addr}{items:Array Value}{Q:Value->Shared->Prop}(ht:IsTup s.heap t items)(hz:(items.size:Int) < 2 ^ 63)
  (h:Q (.ref s.heap.objs.size) { s with heap:=s.heap.push { cls := .type "reversed",data := .fields #[.ref t,rawInt ((items.size:Int) - 1)] },toks:=s.toks + 1 + 1 }):wpAny (model prog w) A (call (.type "reversed") [.ref t]) Q E s:=by
 refine callType_new F.called_reversed (by decide) (F.typeCall_reversed_1 _) (F.newCall_reversed_1 _) (λobj=>F.args_object_init_2 obj _) F.entry_reversed_new (zn3 t items) ⟨ht,hz,?_⟩
 exact⟨⟨_,Heap.get?_push_size _ rfl,rfl⟩,h⟩
theorem ze1{it t:Addr}{i:Nat}{items:Array Value}{x:Value}{Q:Option Value->Shared->Prop}(hit:IsRvd s.heap it t (i:Int))(ht:IsTup s.heap t items)(hz:(items.size:Int) < 2 ^ 63)(hx:items[i]? = some x)
  (hQ:∀h',IsRvd h' it t ((i:Int) - 1)->Heap.SameBut it s.heap h'->Q (some x) { s with heap:=h',toks:=s.toks + 1 }):wpAny (model prog w) A (pyNext (.ref it)) Q E s:=by
 obtain⟨o,ho,hc,hd⟩:=id hit
 have hi:i < items.size:=by
  rcases Nat.lt_or_ge i items.size with q | q
  ·exact q
  ·rw[Array.getElem?_eq_none q]at hx;cases hx
 have hs:seqIndex? (i:Int) items.size=some i:=by
  unfold seqIndex?
  have n0:¬(i:Int) < 0:=by omega
  simp only[n0,if_false]
  rw[if_pos (by simp;omega)]
  simp
 unfold pyNext
 refine wpAny_bind (wpAny_attempt (wpAny_callSpecial?_slot (name:=Str.ofString "__next__") hit.typeIs F.slot_rvd_next
  (wpAny_call_entry F.slot_rvd_next hit.typeIs F.entry_rvd_next ?_ (F.args_rvd_next_1 _))))
 unfold Builtin.«reversed.__next__»
 refine wpAny_bind (wpAny_of_eq (a:=(Value.ref it,[])) rfl ?_)
 try dsimp only
 refine wpAny_bind (wpAny_field ho hd (x := .ref t) rfl ?_)
 refine wpAny_bind (wpAny_field ho hd (x:=rawInt (i:Int)) rfl ?_)
 show wpAny _ _ (if (i:Int) < 0 then _ else _) _ _ s
 rw[if_neg (by omega)]
 refine wpAny_bind (wpAny_specialOf ht.typeIs slot_tuple_getitem.lookup ?_)
 rw[if_neg (by simp)]
 refine wpAny_bind (wpAny_mkInt ?_)
 refine wpAny_bind (wpAny_attempt (getItem_tuple (j:=i) ht (by omega) (by omega) hs (by simpa using hx) ?_))
 dsimp only
 refine wpAny_bind (wpAny_field ho hd (x:=rawInt (i:Int)) rfl ?_)
 show wpAny _ _ (setField (.ref it) 1 (rawInt ((i:Int) - 1)) >>= _) _ _ _
 refine wpAny_bind (wpAny_setField ho hd (by simp) ?_)
 refine wpAny_pure ⟨x,rfl,wpAny_pure (hQ _ ?_ (Heap.SameBut.update ..))⟩
 exact⟨_,Heap.get?_update_self _ ho (Obj.isFreed_of_fields (Obj.data_mapFields hd _)),(Obj.cls_mapFields ..).trans hc,by
  rw[Obj.data_mapFields hd];simp⟩
theorem zfq{it t:Addr}{Q:Option Value->Shared->Prop}(hh:A.handled=none)(hit:IsRvd s.heap it t (-1))
  (hQ:∀h',Heap.ExtBut it s.heap h'->Q none { s with heap:=h' }):wpAny (model prog w) A (pyNext (.ref it)) Q E s:=by
 obtain⟨o,ho,hc,hd⟩:=id hit
 unfold pyNext
 refine wpAny_bind (wpAny_attempt (wpAny_callSpecial?_slot (name:=Str.ofString "__next__") hit.typeIs F.slot_rvd_next
  (wpAny_call_entry F.slot_rvd_next hit.typeIs F.entry_rvd_next ?_ (F.args_rvd_next_1 _))))
 unfold Builtin.«reversed.__next__»
 refine wpAny_bind (wpAny_of_eq (a:=(Value.ref it,[])) rfl ?_)
 try dsimp only
 refine wpAny_bind (wpAny_field ho hd (x := .ref t) rfl ?_)
 refine wpAny_bind (wpAny_field ho hd (x:=rawInt (-1)) rfl ?_)
 show wpAny _ _ (if (-1:Int) < 0 then _ else _) _ _ s
 rw[if_pos (by decide)]
 refine wpAny_bind (wpAny_rule ?_)
 refine wpAny_bind ?_
 show wpAny _ _ (setField (.ref it) 1 (rawInt (-1)) >>= _) _ _ _
 refine wpAny_bind (wpAny_setField ho hd (by simp) ?_)
 have ho2:=Heap.get?_update_self (Obj.mapFields λx=>x.setIfInBounds 1 (rawInt (-1))) ho (Obj.isFreed_of_fields (Obj.data_mapFields hd _))
 refine wpAny_setField ho2 (Obj.data_mapFields hd _) (by simp) ?_
 refine wpAny_bind ?_
 show wpAny _ _ (newExc (.type "StopIteration") [] >>= _) _ _ _
 refine wpAny_bind ?_
 simp only[newExc,newTuple]
 refine wpAny_bind (wpAny_newObj_type ?_ (by size_fits))
 refine wpAny_bind (m:=firstArgMember _ _) (wpAny_of_eq (a:=Value.none) (by first | rfl | (simp only[firstArgMember];rfl)) ?_)
 refine wpAny_newObj_type ?_ (by size_fits)
 simp only[raiseNew]
 refine wpAny_bind (wpAny_handled ?_)
 first | rw[show A.in1.handled=none from hh] | rw[hh]
 refine wpAny_bind (wpAny_pure (wpAny_throw ?_))
 refine wpAny_bind (wpAny_isInstance (T:="StopIteration") (b:=true) ⟨_,Heap.get?_push_size _ rfl,rfl⟩ isSubtype_stop ?_)
 exact wpAny_pure (hQ _ λb o hb e=>Heap.get?_push_of_some _ (Heap.get?_push_of_some _ ((Heap.SameBut.update ..).extBut b o hb ((Heap.SameBut.update ..).extBut b o hb e))))
theorem zf2{it t:Addr}{i:Int}{Q:Value->Shared->Prop}(hit:IsRvd s.heap it t i)(h:Q (.ref it) s):wpAny (model prog w) A (pyIter (.ref it)) Q E s:=by
 refine wpAny_pyIter_slot hit.typeIs F.slot_rvd_iter (wpAny_call_entry F.slot_rvd_iter hit.typeIs F.entry_rvd_iter ?_ (F.args_rvd_iter_1 _))
 show wpAny _ _ (ret (.ref it)) _ _ s
 exact wpAny_pure ⟨_,rfl,"reversed",_,hit.typeIs,F.slot_rvd_next.lookup,h⟩
end
def Itv(K:W.Frag)(a:Addr)(n:Nat):It:=
 ⟨λi H=>i < n/\∃xs,SqT K H a xs/\xs.length=n,λi H x H'=>H'=H/\∀xs,SqT K H a xs->xs[n - 1 - i]? = some x,λi H=>i=n⟩
theorem zn2{P:Program}{w:World}{K:W.Frag}{tg:Expr}(a it:Addr)(n:Nat):Turn P w K tg (Itv K a n) [it] it (λi h=>IsRvd h it a ((n:Int) - 1 - (i:Int))) where
 mem:=by simp
 obj:=λi h st b hb=>by
  simp only[List.mem_cons,List.not_mem_nil,or_false]at hb
  subst hb
  obtain⟨o,ho,hc,hd⟩:=st
  exact⟨o,ho,λv q=>by rw[hd]at q;cases q⟩
 keep:=λi h h' st k=>by obtain⟨o,ho,r⟩:=st;exact⟨o,k it (by simp) o ho,r⟩
 item:=by
  intro X hP hw hK hc i pins s σ H E I hf st hg
  subst hP hw hK
  obtain⟨hi,xs,hx,hn⟩:=hg
  obtain⟨its,rv,p,hz⟩:=I.tuple hx
  have hl:=rv.length
  have hlt:=line63
  have e1:(n:Int) - 1 - (i:Int)=((n - 1 - i:Nat):Int):=by omega
  rw[e1]at st
  obtain⟨x,ex⟩:∃x,xs[n - 1 - i]? = some x:=⟨xs[n - 1 - i],by simp⟩
  obtain⟨u,eu,ru⟩:=rv.get ex
  refine ze1 st p (by rw[List.size_toArray];omega) (x:=u) (by simpa using eu) λh' st' sb=>⟨u,rfl,?_⟩
  obtain⟨o,ho,hcl,hd⟩:=id st'
  refine znd (s:={ s with heap:=h',toks:=s.toks + 1 }) ho hcl hd (by decide) ?_
  obtain⟨f0,f1,f2,f3,f4,f5⟩:=hf it (by simp)
  have e2:((n - 1 - i:Nat):Int) - 1=(n:Int) - 1 - ((i + 1:Nat):Int):=by omega
  rw[e2]at st'
  exact⟨x,H,I.turned (t':=s.toks + 1) (λb o hb e=>sb.extBut b o hb e) f0 f1 f3 f4 f5,ru,⟨rfl,λys hy=>by rw[I.tuple_inj hy hx];exact ex⟩,st',λb hb=>(hf b hb).1⟩
 done:=by
  intro X hP hw hK hc i pins s σ H E I hf st hg
  subst hP hw hK
  obtain rfl:i=n:=hg
  have e1:(i:Int) - 1 - (i:Int) = -1:=by omega
  rw[e1]at st
  obtain⟨f0,f1,f2,f3,f4,f5⟩:=hf it (by simp)
  exact zfq (I.ok.hd hc) st λh' eb=>⟨rfl,I.turned (t':=s.toks) (λb o hb e=>eb b o hb e) f0 f1 f3 f4 f5⟩
 self:=λ_ _ _ _ _ st h=>zf2 st h
def iRvd(K:W.Frag)(ta:TA):TI:=λσ H R=>ta σ H λvs H1=>∃a xs,vs=[.ref a]/\SqT K H1 a xs/\R (Itv K a xs.length) H1
theorem zgs:bootBuiltins "reversed" = some (.type "reversed"):=by kernel_rfl
theorem zqb{X:Cx}{tg:Expr}{p pos:Pos}{e1:Expr}{ta:TA}(hg:Gl X "reversed")(hm:X.mg "reversed" = none)(ha:PA X [e1] ta)
  (he:starEach [e1] X.env=(false,eval e1 X.env) :: starEach [] X.env:=by rfl) (hpl:(backTo pos (starEach [] X.env)).any (·.1)=false:=by rfl) :
  PI X tg (.Call (.Name "reversed" p) [e1] [] pos) (iRvd X.K ta):=by
 intro pins s σ H R I h
 refine wpAny_Call_Name_kw (zdv I hg hm zgs ?_ (by decide) (by decide))
 refine PyProof.Rows.callWith_type1 (thn (ha pos pins s σ H _ I h) λus s1 ⟨vs,H1,I1,r1,a,xs,ev,hx,q⟩ => ?_) he hpl
 subst ev
 obtain⟨u,rfl,ru⟩:=r1.one
 cases ru
 obtain⟨its,rv,pt,hz⟩:=I1.tuple hx
 have hl:=rv.length
 have hlt:=line63
 refine zef pt (by rw[List.size_toArray];omega) ?_
 have hit:IsRvd (s1.heap.push { cls := .type "reversed",data := .fields #[.ref a,rawInt ((its.toArray.size:Int) - 1)] }) s1.heap.objs.size a ((xs.length:Int) - 1 - ((0:Nat):Int)):=by
  refine⟨_,Heap.get?_push_size _ rfl,rfl,?_⟩
  have e:((its.toArray.size:Nat):Int) - 1=(xs.length:Int) - 1 - ((0:Nat):Int):=by rw[List.size_toArray,hl];omega
  rw[e]
 refine zf2 hit ?_
 have I2:Inv X pins σ H1 { s1 with heap:=s1.heap.push { cls := .type "reversed",data := .fields #[.ref a,rawInt ((its.toArray.size:Int) - 1)] },toks:=s1.toks + 1 + 1 }:=I1.kept (t':=s1.toks + 1 + 1) λb o e=>Heap.get?_push_of_some _ e
 refine⟨s1.heap.objs.size,[s1.heap.objs.size],_,_,H1,rfl,I2,zn2 a s1.heap.objs.size xs.length,hit,λb hb => ?_,q⟩
 obtain rfl:b=s1.heap.objs.size:=by simpa using hb
 exact I1.fpOk (Nat.le_refl _) (I1.hok.fresh (Nat.le_refl _))
theorem zi5{K:W.Frag}{H1:Hp}{a:Addr}{xs:List V}(h:SqT K H1 a xs):Walk (Itv K a xs.length) H1 xs.length (λi x _=>xs[xs.length - 1 - i]? = some x):=
 ⟨λi H' e hi=>⟨hi,xs,e.seqT h,rfl⟩,λH' e=>rfl,λi H' x H2 e hi y=>by
  obtain⟨rfl,q⟩:=y
  exact⟨Same.refl _,q xs (e.seqT h)⟩⟩
theorem zdg{J:It}{n:Nat}{P:Nat->V->Hp->Prop}{mp:List (Option Nat)}{wi:TI}{g:TG}{tc:TT}{te:TE}{σ : St}{H H1:Hp}{Q:VK}(S:Walk J H1 n P)(hn:n<=1000)(hwi:∀R,R J H1->wi σ H R)(Sv:St->Prop)(p:Nat->Bool)(f:Nat->V)(h0:Sv (st0 mp σ))
  (step:∀i x σ' H2,i < n->Sv σ'->Same H1 H2->P i x H2->∀(Ny:V->St->Hp->Prop) (Nn:St->Hp->Prop),(∀σ2 H5,Sv σ2->Same H2 H5->p i=true->Ny (f i) σ2 H5)->(∀σ2 H4,Sv σ2->Same H2 H4->p i=false->Nn σ2 H4) ->
   g x σ' H2 λσ2 H3=>tc σ2 H3 λb H4=>if b=true then te σ2 H4 λv H5=>Ny v σ2 H5 else Nn σ2 H4)
  (hQ:∀D H',Same H1 H'->H' D=some (.lst (((List.range n).filter p).map f))->Q (.ref D) H'):tComp mp wi g tc te σ H Q:=by
 unfold tComp
 refine hwi _ λD hD => ?_
 exact zfk S hD (Nat.le_trans hn (by rw[sizeLine_eq];decide)) Sv p f h0 step λH' e hL=>hQ D H' e hL
end L2
namespace L2
open PySem PySem.Spec PyProof.Rows
def blk1(X:Cx)(N:List Str)(scope:Scope)(cl:List (Str×Addr))(own:Str)(C:Addr)(s:Shared)(H:Hp)(fp:List Addr):Cx:=
 { X with N:=N,s₀:=s,H₀:=H,env:=compEnvC scope ((own,C + 1) :: cl) C X.env,outer:=X.stack,ex:=fp,fn:=λx=>decide (x=own),pn:=[],xe:=λ_ _=>False }
structure Blk1(X:Cx)(N:List Str)(scope:Scope)(cl:List (Str×Addr))(own:Str)(mp:List (Option Nat)):Prop where
 clos:closureFor scope X.env=pure cl
 cf:∀n,cellsFrom n scope.names cl=(own,n) :: cl
 pc:∀h:Heap,pushCells h scope.names=h.push { cls := .type "cell",data := .cell none }
 kind:scope.kind = .function
 nms:∀y∈scope.names,y.2 = .local->scope.names.lookup y.1=some .local
 nd:N.Nodup
 sub:∀x c,cl.lookup x=some c->X.env.cells.lookup x=some c
 has:∀x,((relabel scope X.env).names.lookup x=some .cell\/(relabel scope X.env).names.lookup x=some .free)->x=own\/∃c,cl.lookup x=some c
 len:mp.length=N.length
 map:∀(i j:Nat) (x:Str),mp[i]? = some (some j)->N[i]? = some x->x≠own/\X.N[j]? = some x/\(X.env.scope.names.lookup x=some .cell\/X.env.scope.names.lookup x=some .free) /\
  ((relabel scope X.env).names.lookup x=some .cell\/(relabel scope X.env).names.lookup x=some .free)
theorem zng{own x:Str}{n c:Addr}{cl:List (Str×Addr)}(h:((own,n) :: cl).lookup x=some c):(x=own/\c=n)\/(x≠own/\cl.lookup x=some c):=by
 rw[List.lookup_cons]at h
 cases q:(x == own) with
 | true=>rw[q]at h;exact .inl ⟨eq_of_beq q,(Option.some.inj h).symm⟩
 | false=>
  rw[q]at h
  have nz:x≠own:=λz=>by
   rw[z,beq_self_eq_true]at q
   cases q
  exact .inr ⟨nz,h⟩
theorem zpe{own:Str}{n:Addr}{cl:List (Str×Addr)}:((own,n) :: cl).lookup own=some n:=by
 rw[List.lookup_cons,beq_self_eq_true]
theorem zo5{own x:Str}{n:Addr}{cl:List (Str×Addr)}(h:x≠own):((own,n) :: cl).lookup x=cl.lookup x:=by
 rw[List.lookup_cons]
 cases q:(x == own) with
 | true=>exact absurd (eq_of_beq q) h
 | false=>rfl
section
variable{X:Cx}{pins:List (Addr×Obj)}{σ : St}{H:Hp}{s:Shared}{N:List Str}{scope:Scope}{cl:List (Str×Addr)}{own:Str}{mp:List (Option Nat)}{fp:List Addr}
end
end L2
namespace L2
open PySem PySem.Spec PyProof.Rows
def SubC(cl cells:List (Str×Addr)):Prop:=∀x c,cl.lookup x=some c->cells.lookup x=some c
theorem zdl{cells:List (Str×Addr)}:SubC [] cells:=λ_ _ h=>nomatch h
theorem zbq{cl cells:List (Str×Addr)}{a:Str}{n:Addr}(h:cells.lookup a=some n)(t:SubC cl cells):SubC ((a,n) :: cl) cells:=λx c e=>by
 rcases zng e with⟨rfl,rfl⟩ | ⟨_,e⟩
 ·exact h
 ·exact t x c e
theorem zl0:∀{cl:List (Str×Addr)} {x:Str},x∈cl.map (·.1)->∃c,cl.lookup x=some c
 | (a,n) :: cl,x,h=>by
  by_cases q:x=a
  ·exact⟨n,by rw[q];exact zpe⟩
  ·rcases List.mem_cons.mp h with z | z
   ·exact absurd z q
   ·obtain⟨c,e⟩:=zl0 z
    exact⟨c,(zo5 q).trans e⟩
theorem zjv{names:List (Str×NameKind)}{cl:List (Str×Addr)}{fs:List Str}(e:cl.map (·.1)=fs)(h:∀y∈names,y.2 = .free->y.1∈fs):∀y∈names,y.2 = .free->∃c,cl.lookup y.1=some c:=
 λy hy hf=>zl0 (by rw[e];exact h y hy hf)
def MapC(X:Cx)(scope:Scope)(mp:List (Option Nat))(N:List Str):Prop:=∀(i j:Nat) (x:Str),mp[i]? = some (some j)->N[i]? = some x->X.N[j]? = some x/\(X.env.scope.names.lookup x=some .cell\/X.env.scope.names.lookup x=some .free)/\scope.names.lookup x=some .free
theorem zdq{X:Cx}{scope:Scope}{N:List Str}:MapC X scope [] N:=λi j x h=>by simp at h
theorem zc7{X:Cx}{scope:Scope}{mp:List (Option Nat)}{N:List Str}{y:Str}(t:MapC X scope mp N):MapC X scope (none :: mp) (y :: N):=λi j x h1 h2=>by
 cases i with
 | zero=>cases h1
 | succ i=>exact t i j x (by simpa using h1) (by simpa using h2)
theorem zbp{X:Cx}{scope:Scope}{mp:List (Option Nat)}{N:List Str}{y:Str}{k:Nat}(h:X.N[k]? = some y)(hc:X.env.scope.names.lookup y=some .cell\/X.env.scope.names.lookup y=some .free)(hf:scope.names.lookup y=some .free)
  (t:MapC X scope mp N):MapC X scope (some k :: mp) (y :: N):=λi j x h1 h2=>by
 cases i with
 | zero=>
  simp only[List.getElem?_cons_zero,Option.some.injEq]at h1 h2
  subst h1 h2
  exact⟨h,hc,hf⟩
 | succ i=>exact t i j x (by simpa using h1) (by simpa using h2)
end L2
namespace L2
open PySem PySem.Spec PyProof.Rows
structure Mk0(K:W.Frag)(C:Addr):Prop where
 makes:W.makesIn K C=true
 init:W.findIn K (.ref C) "__init__" = some (some (.builtin "object.__init__"))
 kp:W.keepIn K (.ref C)=true
def tMk0(C:Addr):TE:=λ_ H Q=>∀x dx,H x=none->H dx=none->dx≠x->Q (.ref x) (upd (upd H dx (.own x)) x (.ins C dx []))
theorem zio{X:Cx}{C:Addr}{x:Str}{p pos:Pos}(M:Mk0 X.K C)(hm:X.mg x=some (.ref C))(hg:Gl X x:=by rfl)(hdb:(x == ("__debug__" : Str))=false:=by decide):PE X (.Call (.Name x p) [] [] pos) (tMk0 C):=by
 intro pins s σ H Q I h
 refine wpAny_Call_Name_kw (zdy I hg hm (W.callWith_K0 I.kIn M.kp ?_) hdb)
 have hq:=h (s.heap.objs.size + 1) s.heap.objs.size (I.hok.fresh (Nat.le_succ _)) (I.hok.fresh (Nat.le_refl _)) (Nat.ne_of_lt (Nat.lt_succ_self _))
 have I2:=Inv.made (C:=C) I
 refine wpAny_call (zlj I.kIn M.makes M.init (λself=>W.Looks.of_pure (W.oi_bind self)) ?_)
 have Y:=W.makes_of (M:=model X.prog X.w) I.kIn M.makes
 have e2:((s.heap.push W.emptyDict).push (W.instObj C s.heap.objs.size)).get? (s.heap.objs.size + 1)=some (W.instObj C s.heap.objs.size):=by
  have:=Heap.get?_push_size (s.heap.push W.emptyDict) (o:=W.instObj C s.heap.objs.size) rfl
  rwa [Heap.size_push]at this
 have t1:W.Looks (model X.prog X.w) ((s.heap.push W.emptyDict).push (W.instObj C s.heap.objs.size)) (typeOf (.ref (s.heap.objs.size + 1))) (.ref C):=(W.Looks.ld e2).andThen .now
 have t2:W.Looks (model X.prog X.w) ((s.heap.push W.emptyDict).push (W.instObj C s.heap.objs.size)) (isInstance (.ref (s.heap.objs.size + 1)) (.type "object")) true:=
  t1.andThen (Y.top.keeps λb o e=>Heap.get?_push_of_some _ (Heap.get?_push_of_some _ e))
 refine codeAny_call_builtin W.oi_plain W.entry_oi (@W.check_slot (model X.prog X.w) _ _ _ "object.__init__" "object" "__init__" (.ref (s.heap.objs.size + 1)) [] [] _ W.oi_kind W.oi_split t2 (W.oi_args (.ref (s.heap.objs.size + 1))) ?_)
 rw[W.oi_run]
 exact wpAny_pure (And.intro rfl ⟨.ref (s.heap.objs.size + 1),_,I2,rfl,hq⟩)
end L2
namespace L2
open PySem PySem.Spec PyProof.Rows
abbrev yes2:Int->Int->Bool:=λ_ _=>true
theorem zn8(φ : Int->Int->Int)(xs ys:List Int):zipV yes2 (λx y => .int (φ x y)) xs ys=(List.zipWith φ xs ys).map V.int:=by
 unfold zipV
 rw[List.filter_eq_self.mpr (λ_ _=>rfl)]
 refine List.ext_getElem? λi => ?_
 rw[List.getElem?_map,List.getElem?_map,List.getElem?_zipWith]
 by_cases h:i < min xs.length ys.length
 ·have h1:i < xs.length:=by omega
  have h2:i < ys.length:=by omega
  rw[List.getElem?_range h,List.getElem?_eq_getElem h1,List.getElem?_eq_getElem h2]
  simp[List.getD,h1,h2]
 ·rw[List.getElem?_eq_none (by simpa using h)]
  rcases Nat.lt_or_ge i xs.length with q | q
  ·rw[List.getElem?_eq_none (l:=ys) (by omega)]
   cases xs[i]? <;> rfl
  ·rw[List.getElem?_eq_none (l:=xs) q];rfl
theorem zja(xs:List Int)(f:Int->Int):(List.range xs.length).map (λi=>f (xs.getD (xs.length - 1 - i) 0))=xs.reverse.map f:=by
 refine List.ext_getElem? λi => ?_
 rw[List.getElem?_map,List.getElem?_map]
 by_cases h:i < xs.length
 ·rw[List.getElem?_range h,List.getElem?_reverse h,List.getElem?_eq_getElem (show xs.length - 1 - i < xs.length by omega)]
  simp[List.getD,show xs.length - 1 - i < xs.length by omega]
 ·rw[List.getElem?_eq_none (by simpa using h),List.getElem?_eq_none (by rw[List.length_reverse];omega)];rfl
end L2
namespace L2
open PySem PySem.Spec PyProof.Rows
theorem zkk{X:Cx}{pins:List (Addr×Obj)}{σ0 σ : St}{H0 H':Hp}{s0 s':Shared}{C:Addr}{i:Nat}{x:Str}{pos':Pos}{v:V}{u:Value}{Nx:St->Hp->Prop}(I0:Inv X pins σ0 H0 s0)(hC:s0.heap.objs.size<=C)(I:Inv X pins σ H' s')(hn:H' C=none)
  (hns:∃m,s'.heap.Ns C m) (hg:PG X (.Name x pos') (gName i)) (r:RelV v u) (q:Nx (σ.set i (some v)) H') :
  wpAny (model X.prog X.w) X.A (assign (.Name x pos') X.env u) (λ_ s''=>∃m,s''.heap.Ns C m/\∀h',Heap.SameBut C s''.heap h'->∃σ2 H2,Inv X pins σ2 H2 { s'' with heap:=h' }/\Nx σ2 H2) X.xe s':=by
 obtain⟨m,o,es,ep,ho,hd,rest⟩:=hns
 have fp:FpOk X pins H' C:=I0.fpOk hC hn
 have I1:=I.pinned (fp:=[C]) (λb hb=>by
  obtain rfl:b=C:=by simpa using hb
  exact fp) (λb hb=>by
  obtain rfl:b=C:=by simpa using hb
  exact⟨o,ho,λv z=>by rw[hd]at z;cases z⟩)
 refine thn (hg _ _ _ _ _ _ Nx I1 r q) λ_ s2 ⟨σ2,H2,I2,q2⟩ => ?_
 have pn:=I2.pin (C,o) (List.mem_append_right _ (List.mem_append_right _ (zc6 (by simp) ho)))
 refine⟨m,⟨o,es,ep,pn.1,hd,rest⟩,λh' sb=>⟨σ2,H2,?_,q2⟩⟩
 obtain⟨f0,f1,f2,f3,f4,f5⟩:=fp
 exact I2.unpinned.turned (t':=s2.toks) (λb ob hb e=>sb.extBut b ob hb e) pn.2.1 f1 f3 f4 f5
theorem zpa{X:Cx}{N:List Str}{scope:Scope}{cl:List (Str×Addr)}{mp:List (Option Nat)}{elt tg iter:Expr}{ifs:List Expr}{wi:TI}{g:TG}{tc:TT}{te:TE}{pos pos' posA:Pos}{i:Nat}{x:Str}(hn:PG X (.Name x pos') (gName i))(B:Blk X N scope cl mp)(hc:X.calm=true)
  (hi:PI X tg iter wi) (hg:∀C s H fp,PG (blk X N scope cl C s H fp) tg g) (ht:∀C s H fp,PTs (blk X N scope cl C s H fp) ifs tc) (he:∀C s H fp,PE (blk X N scope cl C s H fp) elt te)
  (hs:∀x,foldedSetIterable iter X.env x=pure x:=by intro _;rfl) (hsw:swapsWith (.ListComp elt [⟨tg,iter,ifs,0⟩] scope pos) (some (.Name x pos')) posA.line X.env=pure true:=by rfl) :
  PS X (.Assign [.Name x pos'] (.ListComp elt [⟨tg,iter,ifs,0⟩] scope pos) posA) (tAsg (tComp mp wi g tc te) (gName i)):=by
 intro pins s σ H Dn I h
 unfold tAsg tComp at h
 rw[exec_Assign_Name_used _ _ _ _ hsw]
 refine wpAny_bind (wpAny_standAt (wpAny_bind ?_))
 show wpAny _ _ (comprehension (.ListComp elt [⟨tg,iter,ifs,0⟩] scope pos) scope X.env _ (newList []) false (eval iter X.env) (some (assign (.Name x pos') X.env)) >>= _) _ _ _
 refine wpAny_bind (wpAny_comprehension_free (use:=some (assign (.Name x pos') X.env)) (cl:=cl) rfl hs B.clos B.kind B.nms (thn (hi pins s σ H _ I h) λv s1 h1=>thn h1 λitv s2 h2 => ?_))
 obtain⟨it,fp,tn,J,H2,rfl,I2,T,st2,f2,q⟩:=h2
 have lt2:∀b∈fp,b < s2.heap.objs.size:=λb hb=>let ⟨o,e,_⟩:=T.obj _ _ st2 b hb;Heap.lt_size e
 obtain⟨W,⟨m0,w0⟩,turn⟩:=q _ I2.fresh
 have ID:=I2.lnew (ys:=[]) (its:=[]) (t':=s2.toks) .nil (Nat.zero_le _)
 have fD':∀b∈fp,FpOk X pins (upd H2 s2.heap.objs.size (.lst [])) b:=λb hb=>by
  obtain⟨f0,r⟩:=f2 b hb
  exact⟨by rw[zal (Nat.ne_of_lt (lt2 b hb))];exact f0,r⟩
 refine wpAny_newObj_type (zfw B hc hg ht he ID fD' T (T.keep _ _ _ st2 λb _ o e=>Heap.get?_push_of_some _ e) w0 turn λC H' σ' s' hC J' qf => ?_)
 have hns:∃m,s'.heap.Ns C m:=let ⟨m,hm,_⟩:=J'.loc;⟨m,hm⟩
 have I3:Inv X pins σ H' { s' with heap:=s'.heap }:=zkt ID fD' hC J' (Heap.SameBut.refl _ _)
 exact thn (zkk (v := .ref s2.heap.objs.size) ID hC I3 J'.free hns hn rfl qf) λ_ s4 ⟨m,hm,q4⟩=>⟨m,hm,λh' sb=>wpAny_pure (wpAny_pure (q4 h' sb))⟩
end L2
namespace L2
open PySem PySem.Spec PyProof.Rows
def rTupleOf(K:W.Frag):List V->Hp->VK->Prop:=λxs H Q=>∃p ys,xs=[.ref p]/\((SqL K H p ys/\∀l,H l=none->Q (.ref l) (upd H l (.tup ys)))\/(SqT K H p ys/\Q (.ref p) H))
def rListOf(K:W.Frag):List V->Hp->VK->Prop:=λxs H Q=>∃p ys,xs=[.ref p]/\(SqL K H p ys\/SqT K H p ys)/\∀l,H l=none->Q (.ref l) (upd H l (.lst ys))
def rLenSeq(K:W.Frag):List V->Hp->VK->Prop:=λxs H Q=>∃p ys,xs=[.ref p]/\(SqL K H p ys\/SqT K H p ys)/\Q (.int ys.length) H
def rSumX(K:W.Frag)(b:Bool):List V->Hp->VK->Prop:=λxs H Q=>∃(a:Addr) (ns:List Int),xs=[.ref a]/\SqX K b H a (ns.map V.int)/\Q (.int ns.sum) H
def rAllB(K:W.Frag):List V->Hp->VK->Prop:=λxs H Q=>∃(a:Addr) (bs:List Bool),xs=[.ref a]/\SqL K H a (bs.map V.bl)/\Q (.bl (bs.all id)) H
def rAnyB(K:W.Frag):List V->Hp->VK->Prop:=λxs H Q=>∃(a:Addr) (bs:List Bool),xs=[.ref a]/\SqL K H a (bs.map V.bl)/\Q (.bl (bs.any id)) H
def rIsInst(K:W.Frag):List V->Hp->VK->Prop:=λxs H Q=>∃x y t c b,xs=[x,y]/\clV y=some c/\TyOf K H x t/\W.kitOne K t c=some b/\Q (.bl b) H
section
variable{X:Cx}{K:W.Frag}
theorem zbc(hK:X.K=K):CallR X (.type "tuple") (rTupleOf K):=by subst hK;exact zgi
theorem zjw(hK:X.K=K):CallR X (.type "list") (rListOf K):=by subst hK;exact zg1
theorem zbr(hK:X.K=K):CallR X (.builtin "len") (rLenSeq K):=by subst hK;exact zhc
theorem zcm(hK:X.K=K)(b:Bool)(hc:X.calm=true):CallR X (.builtin "sum") (rSumX K b):=by subst hK;exact zkd b hc
theorem zd4(hK:X.K=K)(hc:X.calm=true):CallR X (.builtin "all") (rAllB K):=by subst hK;exact zlg hc
theorem zhi(hK:X.K=K)(hc:X.calm=true):CallR X (.builtin "any") (rAnyB K):=by subst hK;exact zll hc
theorem zc1(hK:X.K=K):CallR X (.builtin "isinstance") (rIsInst K):=by subst hK;exact zh8
theorem zgk{e:Expr}{f:Str}{pos:Pos}{ta:TE}(hK:X.K=K)(he:PE X e ta)(hb:attributeBase e f X.env (eval e X.env)=eval e X.env):PE X (.Attribute e f pos) (tFld K ta f):=by subst hK;exact zqp he hb
theorem zdr{tg l:Expr}{tl:TE}(hK:X.K=K)(hl:PE X l tl):PI X tg l (iList K tl):=by subst hK;exact zps hl
theorem zgf{es:List Expr}{ek:Nat}{tpos p pos:Pos}(hK:X.K=K)(b1 b2:Bool){e1 e2:Expr}{ta:TA}(hg:Gl X "zip")(hm:X.mg "zip" = none)(ha:PA X [e1,e2] ta)
  (he:starEach [e1,e2] X.env=(false,eval e1 X.env) :: starEach [e2] X.env:=by rfl) (hpl:(backTo pos (starEach [e2] X.env)).any (·.1)=false:=by rfl) :
  PI X (.Tuple es ek tpos) (.Call (.Name "zip" p) [e1,e2] [] pos) (iZip K b1 b2 ta):=by subst hK;exact zp1 b1 b2 hg hm ha he hpl
theorem zla{tg:Expr}{p pos:Pos}{e1:Expr}{ta:TA}(hK:X.K=K)(hg:Gl X "reversed")(hm:X.mg "reversed" = none)(ha:PA X [e1] ta)
  (he:starEach [e1] X.env=(false,eval e1 X.env) :: starEach [] X.env:=by rfl) (hpl:(backTo pos (starEach [] X.env)).any (·.1)=false:=by rfl) :
  PI X tg (.Call (.Name "reversed" p) [e1] [] pos) (iRvd K ta):=by subst hK;exact zqb hg hm ha he hpl
theorem zgt(hK:X.K=K):SlR X (rSlL K):=by subst hK;exact zox
end
end L2
set_option Elab.async false
set_option linter.all false
set_option maxRecDepth 100000
namespace L2
open PySem PySem.Spec PyProof.Rows
structure BMeth(K:W.Frag)(m:Str)(f:Addr):Prop where
 get:W.specialIn K (.ref f) "__get__" = some (some (.builtin "function.__get__"))
 tk:W.takesIn K (.ref f)=some false
 cp:W.copiedNames.contains m=false
theorem zh7{K:W.Frag}{C f:Addr}{name:Str}{od:Obj}{g:Value}(hh:W.hasDictIn K C=true)(ha:W.findIn K (.ref C) name=some (some (.ref f)))(hg:W.specialIn K (.ref f) "__get__" = some (some g))
  (ht:W.takesIn K (.ref f)=some false) (hc:W.copiedNames.contains name=false) (hl:W.lookIn name od=some none):W.findObj K C (some od) name=some (.bind g (.ref f)):=by
 obtain⟨cd,hc',hd⟩:=W.any_some hh
 unfold W.findObj
 have ho:W.ownOf cd (some od) name=some none:=by unfold W.ownOf;rw[if_pos hd];exact hl
 rw[hc',Option.bind_some,ha,Option.bind_some]
 simp only[hg,ht,Option.bind_some,ho,hc,Bool.false_and,Bool.false_eq_true,if_false]
section
variable{X:Cx}{pins:List (Addr×Obj)}{σ : St}{H:Hp}{s:Shared}{a C dx:Addr}{fs:List (Str×V)}{m:Str}{f:Addr}{A:Around}{E:Value->Shared->Prop}
theorem zke{b:Bool}{Q:Value->Shared->Prop}(I:Inv X pins σ H s)(e:H a=some (.ins C dx fs))(c:Cls X.K C)(k:Meth X.K C m f)(kb:BMeth X.K m f)(l:fs.lookup m=none)
  (h:Q (.ref s.heap.objs.size) { s with heap:=s.heap.push (W.methodObj (.ref f) (.ref a)),toks:=s.toks + 1 }):wpAny (model X.prog X.w) A (getAttr (.ref a) m b) Q E s:=by
 obtain⟨mA,O,r,_,_,_⟩:=zfm I.hok e
 have hn:mA m=none:=RelO.none_of (by rw[<- l];exact r m)
 obtain⟨od,J,hl⟩:=O.look
 refine W.get_bind I.kIn J (W.plainGet_of (c.get m)).1 (zh7 c.hd k.at_ kb.get kb.tk kb.cp (by rw[hl,hn])) (W.plainGet_of (c.get m)).2 ?_
 exact wpAny_call (W.fn_get (s:={ s with toks:=s.toks + 1 }) I.kIn (beq_iff_eq.mp k.fn) (W.handed_on rfl h))
theorem Inv.repin{pa pb:List (Addr×Obj)}{b:Addr}{o o':Obj}{t':Nat}{h':Heap}{H₁:Hp}(I:Inv X (pa ++ (b,o) :: pb) σ H s)(f:FpOk X (pa ++ pb) H₁ b)(k:∀c u,c≠b->s.heap.get? c=some u->h'.get? c=some u)
  (e:h'.get? b=some o') (hc:∀v,o'.data≠.cell v):Inv X (pa ++ (b,o') :: pb) σ H { s with heap:=h',toks:=t' }:=by
 have pb':=I.pin (b,o) (List.mem_append_right _ (List.mem_append_right _ (.head _)))
 have I1:Inv X (pa ++ pb) σ H s:=I.pins_of λp hp=>I.pin p (List.mem_append_right _ ((List.mem_append.mp hp).elim (λz=>List.mem_append_left _ z) λz=>List.mem_append_right _ (.tail _ z)))
 have I2:=I1.turned (t':=t') (h':=h') (it:=b) k pb'.2.1 f.2.1 f.2.2.2.1 f.2.2.2.2.1 f.2.2.2.2.2
 refine I2.pins_of λp hp => ?_
 rcases List.mem_append.mp hp with z | z
 ·exact I2.pin p (List.mem_append_right _ (List.mem_append_left _ z))
 ·rcases List.mem_cons.mp z with rfl | z
  ·exact⟨e,pb'.2.1,f.2.1,f.2.2.1,hc⟩
  ·exact I2.pin p (List.mem_append_right _ (List.mem_append_right _ z))
theorem FpOk.more{pa:List (Addr×Obj)}{b:Addr}(f:FpOk X pins H b)(h:∀p∈pa,p.1≠b):FpOk X (pa ++ pins) H b:=by
 refine⟨f.1,f.2.1,f.2.2.1,f.2.2.2.1,f.2.2.2.2.1,λp hp => ?_⟩
 rcases List.mem_append.mp hp with z | z
 ·exact f.2.2.2.2.2 p (List.mem_append_left _ z)
 ·rcases List.mem_append.mp z with z | z
  ·exact h p z
  ·exact f.2.2.2.2.2 p (List.mem_append_right _ z)
end
def BRun(X:Cx)(q f a:Addr)(sp:V->Hp->VK->Prop):Prop:=∀(pins:List (Addr×Obj)) (s:Shared) (σ : St) (H:Hp) (Q:VK) (x:V) (u:Value),Inv X pins σ H s->(q,W.methodObj (.ref f) (.ref a))∈pins->RelV x u->sp x H Q ->
 wpAny (model X.prog X.w) X.A.in1 (call (.ref q) [u]) (EP X pins σ Q) (λ_ _=>False) s
theorem zo2{X:Cx}{k:Nat}{f:Addr}{fd:FuncData}{ps:List Str}{sp:Sp}{dvs:List V}{ds:List Value}{q a:Addr}(F:FnOk X.prog X.w X.K X.mg X.base CX0 k f fd ps sp)(hr:Room (k + 1) X.A)(hb:Binds X.K fd ps ds)(hd:Vals dvs ds) :
  BRun X q f a λx H Q=>sp (.ref a :: x :: dvs) H Q E0:=by
 intro pins s σ H Q x u I hq rx h
 have r2:Vals (.ref a :: x :: dvs) ([.ref a,u] ++ ds) := .cons rfl (.cons rx hd)
 have hl:([.ref a,u] ++ ds).length=ps.length:=by rw[<- r2.length];exact F.len _ _ _ _ h
 have ho:=(I.pin _ (List.mem_append_right _ hq)).1
 refine wpAny_call (W.method_call ho ?_)
 refine codeAny_mono (F.run X.A.in1 X.stack s H ⟨[.ref a,u],[]⟩ ([.ref a,u] ++ ds) (.ref a :: x :: dvs) Q E0 hr.in1 I.env0.in1 (hb s [.ref a,u] I.kIn hl) r2 h) λr s' hq => ?_
 match r,hq with
 | .error e,hq=>exact False.elim hq
 | .ok (.ret u),hq=>exact I.after hq
 | .ok .next,hq=>exact False.elim hq
 | .ok .brk,hq=>exact False.elim hq
 | .ok .cont,hq=>exact False.elim hq
def mxGo(K:W.Frag)(l:Addr)(all:List V)(sp:V->Hp->VK->Prop):List V->V->V->Hp->VK->Prop
 | [],b,_,H,Q=>Q b H
 | x :: xs,b,kb,H,Q=>sp x H λk H1=>H1 l=some (.lst all)/\∃(a c:Addr) (ns ms:List Int),k = .ref a/\kb = .ref c/\SqT K H1 a (ns.map V.int)/\SqT K H1 c (ms.map V.int) /\
  (HT.lexLt ms ns=true->mxGo K l all sp xs x k H1 Q)/\(HT.lexLt ms ns=false->mxGo K l all sp xs b kb H1 Q)
def mxAll(K:W.Frag)(l:Addr)(all:List V)(sp:V->Hp->VK->Prop):List V->Hp->VK->Prop
 | [],_,_=>False
 | x :: xs,H,Q=>sp x H λk H1=>H1 l=some (.lst all)/\mxGo K l all sp xs x k H1 Q
section
variable{X:Cx}{pins:List (Addr×Obj)}{σ : St}{l q It S f a:Addr}{all:List V}{sp:V->Hp->VK->Prop}{Q:VK}{H₁:Hp}
theorem zn9{xs:List V}{us:List Value}(r:Vals xs us):∀{i:Nat} {x:V},xs[i]? = some x->∃u,us[i]? = some u/\RelV x u:=by
 induction r with
 | nil=>intro i x h;simp at h
 | cons r1 _ ih=>
  intro i x h
  cases i with
  | zero=>simp at h;subst h;exact⟨_,rfl,r1⟩
  | succ i=>simp at h;obtain⟨u,e,z⟩:=ih h;exact⟨u,by simpa using e,z⟩
theorem zp9(hh:X.A.handled=none)(hu:X.A.units + 1 < cLine)(B:BRun X q f a sp)(hlI:l≠It)(hSI:S≠It)(hqI:q≠It)(hqS:q≠S)(fI:FpOk X pins H₁ It)(fS:FpOk X pins H₁ S) :
  ∀(rest:List V) (j:Nat) (b kb:V) (ub ukb:Value) (c:Nat) (oI:Obj) (H:Hp) (s:Shared),all.drop (j + 1)=rest->mxGo X.K l all sp rest b kb H Q->H l=some (.lst all) ->
   Inv X ((It,oI) :: (S,seqObj "list" #[ub,ukb] c) :: (q,W.methodObj (.ref f) (.ref a)) :: pins) σ H s->s.heap.IsListIter It l (j + 1)->RelV b ub->RelV kb ukb ->
   codeAny (model X.prog X.w) X.A (.builtin "max.loop" ⟨[.ref It,.ref q,.ref S],[]⟩) (λr s'=>match r with | .ok (.ret v)=>EP X pins σ Q v s' | .ok _=>False | .error e=>X.xe e s') s:=by
 have hname:(toString "max" ++ toString ".loop" : String) = "max.loop":=by decide
 intro rest
 induction rest with
 | nil=>
  intro j b kb ub ukb c oI H s hdrop hgo hH I hit rb rkb
  have hlen:all.length<=j + 1:=List.drop_eq_nil_iff.mp hdrop
  obtain⟨its,n,rv,hl,_⟩:=I.lst hH
  have hls:s.heap.IsList l its.toArray:=⟨_,hl,rfl,n,rfl⟩
  have nS:=I.pin (S,seqObj "list" #[ub,ukb] c) (List.mem_append_right _ (.tail _ (.head _)))
  refine codeAny_builtin PySem.F.entry_max_loop ?_
  rw[Around.under_plainId PySem.F.plain_max_loop _]
  show wpAny _ X.A.in1 (seqItems? (.ref S) >>= _) _ _ _
  refine wpAny_bind (wpAny_seqItems nS.1 rfl ?_)
  show wpAny _ X.A.in1 (tryCatch (pyNext (.ref It)) _ >>= _) _ _ _
  refine wpAny_bind (wpAny_tryCatch (wpAny_pyNext_list_end (A:=X.A.in1) hh hit hls (by rw[List.getElem?_toArray,List.getElem?_eq_none];rw[<- rv.length];exact hlen) λh' he' => ?_))
  have pI:=I.pin (It,oI) (List.mem_append_right _ (.head _))
  have I1:Inv X ((S,seqObj "list" #[ub,ukb] c) :: (q,W.methodObj (.ref f) (.ref a)) :: pins) σ H s:=I.pins_of λp hp=>I.pin p (List.mem_append_right _ (.tail _ hp))
  have fI':=fI.more (pa:=[(S,seqObj "list" #[ub,ukb] c),(q,W.methodObj (.ref f) (.ref a))]) (by simp[hSI,hqI])
  have I2:=I1.turned (t':=s.toks) (h':=h') (it:=It) (λb' o hb e=>he' b' o hb e) pI.2.1 fI'.2.1 fI'.2.2.2.1 fI'.2.2.2.2.1 fI'.2.2.2.2.2
  have nS2:=I2.pin (S,seqObj "list" #[ub,ukb] c) (List.mem_append_right _ (.head _))
  show wpAny _ X.A.in1 (updateSeq S (λ_ => #[]) >>= _) _ _ _
  refine wpAny_bind ?_
  refine wpAny_updateSeq nS2.1 rfl (wpAny_bind (wpAny_letGo (wpAny_pure ?_)))
  have fS':=fS.more (pa:=[(q,W.methodObj (.ref f) (.ref a))]) (by simp[hqS])
  have I3:Inv X ((q,W.methodObj (.ref f) (.ref a)) :: pins) σ H { s with heap:=h' }:=I2.pins_of λp hp=>I2.pin p (List.mem_append_right _ (.tail _ hp))
  have sb:=Heap.SameBut.update h' S (Obj.mapSeq λ_=>(#[]:Array Value))
  have I4:=I3.turned (t':=s.toks) (h':=h'.update S (Obj.mapSeq λ_ => #[])) (it:=S) (λb' o hb e=>(sb.2 b' hb).trans e) nS2.2.1 fS'.2.1 fS'.2.2.2.1 fS'.2.2.2.2.1 fS'.2.2.2.2.2
  exact⟨b,H,I4.pins_of λp hp=>I4.pin p (List.mem_append_right _ (.tail _ hp)),rb,hgo⟩
 | cons x xs ih=>
  intro j b kb ub ukb c oI H s hdrop hgo hH I hit rb rkb
  have hx:all[j + 1]? = some x:=by rw[<- List.head?_drop,hdrop];rfl
  have hdrop':all.drop (j + 1 + 1)=xs:=by rw[<- List.tail_drop,hdrop];rfl
  obtain⟨its,n,rv,hl,_⟩:=I.lst hH
  have hls:s.heap.IsList l its.toArray:=⟨_,hl,rfl,n,rfl⟩
  obtain⟨u,hu',ru⟩:=zn9 rv hx
  have nS:=I.pin (S,seqObj "list" #[ub,ukb] c) (List.mem_append_right _ (.tail _ (.head _)))
  refine codeAny_builtin PySem.F.entry_max_loop ?_
  rw[Around.under_plainId PySem.F.plain_max_loop _]
  show wpAny _ X.A.in1 (seqItems? (.ref S) >>= _) _ _ _
  refine wpAny_bind (wpAny_seqItems nS.1 rfl ?_)
  show wpAny _ X.A.in1 (tryCatch (pyNext (.ref It)) _ >>= _) _ _ _
  refine wpAny_bind (wpAny_tryCatch (wpAny_pyNext_list_item hit hls (x:=u) (by rw[List.getElem?_toArray];exact hu') λh' hit' hs' => ?_))
  obtain⟨oI',hoI',hoc,hod⟩:=id hit'
  have fI':=fI.more (pa:=[(S,seqObj "list" #[ub,ukb] c),(q,W.methodObj (.ref f) (.ref a))]) (by simp[hSI,hqI])
  have I1:Inv X ((It,oI') :: (S,seqObj "list" #[ub,ukb] c) :: (q,W.methodObj (.ref f) (.ref a)) :: pins) σ H { s with heap:=h' }:=
   Inv.repin (pa:=[]) (t':=s.toks) I fI' (λb' o hb e=>(hs'.2 b' hb).trans e) hoI' (by intro v z;rw[hod]at z;cases z)
  show wpAny _ X.A.in1 (tryCatch (holding [u] (call (.ref q) [u])) _ >>= _) _ _ _
  refine wpAny_bind (wpAny_tryCatch (wpAny_holding (wpAny_mono (B _ _ σ H _ x u I1 (.tail _ (.tail _ (.head _))) ru hgo) (λuk s2 he => ?_) λ_ _ hF=>hF.elim)))
  obtain⟨k,H1,I2,rk,hH1,a',c',ns,ms,rfl,rfl,ha',hc',h1,h2⟩:=he
  obtain rfl:uk=Value.ref a':=rk
  obtain rfl:ukb=Value.ref c':=rkb
  obtain⟨it1,r1,p1,_⟩:=I2.tuple ha'
  obtain⟨it2,r2,p2,_⟩:=I2.tuple hc'
  have i1:IntsAre it1.toArray.toList ns:=zcw r1
  have i2:IntsAre it2.toArray.toList ms:=zcw r2
  have nS2:=I2.pin (S,seqObj "list" #[ub,.ref c'] c) (List.mem_append_right _ (.tail _ (.head _)))
  have nI2:=I2.pin (It,oI') (List.mem_append_right _ (.head _))
  have hit2:s2.heap.IsListIter It l (j + 1 + 1):=⟨oI',nI2.1,hoc,hod⟩
  show wpAny _ X.A.in1 (tryCatch (holding [u,.ref a'] (richCompare .Gt (.ref a') (.ref c') >>= _)) _ >>= _) _ _ _
  refine wpAny_bind (wpAny_tryCatch (wpAny_holding (wpAny_bind (HT.gt_tupInts (A:=X.A.in1) p1 p2 i1 i2 hu ?_))))
  refine wpAny_bind (wpAny_holding (wpAny_truthy_bool ?_))
  refine wpAny_bind (wpAny_letGo (wpAny_pure ?_))
  cases hb:HT.lexLt ms ns with
  | true=>
   have sb:=Heap.SameBut.update s2.heap S (Obj.mapSeq λ_ => #[u,.ref a'])
   obtain⟨c2,hc2⟩:∃c2,(s2.heap.update S (Obj.mapSeq λ_ => #[u,.ref a'])).get? S=some (seqObj "list" #[u,.ref a'] c2):=⟨_,get?_update_seq nS2.1 λ_ => #[u,.ref a']⟩
   simp only[if_true]
   refine wpAny_bind ?_
   refine wpAny_updateSeq nS2.1 rfl (wpAny_bind (wpAny_letGo ?_))
   rw[hname]
   have fS':FpOk X ((It,oI') :: (q,W.methodObj (.ref f) (.ref a)) :: pins) H₁ S:=fS.more (pa:=[(It,oI'),(q,W.methodObj (.ref f) (.ref a))]) (by simp[hSI.symm,hqS])
   have I3:Inv X ((It,oI') :: (S,seqObj "list" #[u,.ref a'] c2) :: (q,W.methodObj (.ref f) (.ref a)) :: pins) σ H1 { s2 with heap:=s2.heap.update S (Obj.mapSeq λ_ => #[u,.ref a']) }:=
    Inv.repin (pa:=[(It,oI')]) (t':=s2.toks) I2 fS' (λb' o hb' e=>(sb.2 b' hb').trans e) hc2 (by intro v z;cases z)
   exact wpAny_pure ⟨plainId_quiet PySem.F.plain_max_loop _,ih (j + 1) x (.ref a') u (.ref a') c2 oI' H1 _ hdrop' (h1 hb) hH1 I3 ⟨oI',(sb.2 It hSI.symm).trans nI2.1,hoc,hod⟩ ru rfl⟩
  | false=>
   simp only[Bool.false_eq_true,if_false]
   refine wpAny_bind (wpAny_letGo ?_)
   rw[hname]
   exact wpAny_pure ⟨plainId_quiet PySem.F.plain_max_loop _,ih (j + 1) b (.ref c') ub (.ref c') c oI' H1 _ hdrop' (h2 hb) hH1 I2 hit2 rb rfl⟩
end
end L2
namespace L2
open PySem PySem.Spec PyProof.Rows
structure BM(K:W.Frag)(C:Addr)(m:Str):Prop where
 ex:∃f,W.findIn K (.ref C) m=some (some (.ref f))/\BMeth K m f
def tMaxK(K:W.Frag)(C:Addr)(m:Str)(sp:Sp)(dvs:List V)(te ta:TE):TE:=λσ H Q=>te σ H λv H1=>ta σ H1 λo H2=>∃(a dx:Addr) (fs:List (Str×V)) (l:Addr) (all:List V),o = .ref a/\H2 a=some (.ins C dx fs)/\fs.lookup m=none /\
 v = .ref l/\H2 l=some (.lst all)/\mxAll K l all (λx H Q=>sp (.ref a :: x :: dvs) H Q E0) all H2 Q
section
variable{X:Cx}{k j:Nat}{C:Addr}{ps:List Str}{sp:Sp}{dvs:List V}{ds:List Value}{m:Str}{p pos apos kpos:Pos}{e o:Expr}{te ta:TE}
theorem Inv.pinNew{pins:List (Addr×Obj)}{σ : St}{H:Hp}{s:Shared}{ob:Obj}{t':Nat}(I:Inv X pins σ H s)(hf:ob.isFreed=false)(hc:∀v,ob.data≠.cell v):Inv X ((s.heap.objs.size,ob) :: pins) σ H { s with heap:=s.heap.push ob,toks:=t' }:=by
 have I1:Inv X pins σ H { s with heap:=s.heap.push ob,toks:=t' }:=I.kept λb u e=>Heap.get?_push_of_some _ e
 refine I1.pins_of λq hq => ?_
 rcases List.mem_cons.mp hq with rfl | hq
 ·exact⟨Heap.get?_push_size _ hf,I.hok.fresh (Nat.le_refl _),Nat.ne_of_gt I.lt,I.nofs (Nat.le_refl _),hc⟩
 ·exact I1.pin q (List.mem_append_right _ hq)
theorem zot{pins:List (Addr×Obj)}{σ : St}{H:Hp}{s:Shared}{q f a l:Addr}{all:List V}{sp:V->Hp->VK->Prop}{Q:VK}(hr:Room j X.A)(B:BRun X q f a sp)(I:Inv X ((q,W.methodObj (.ref f) (.ref a)) :: pins) σ H s)
  (hH:H l=some (.lst all)) (h:mxAll X.K l all sp all H Q):wpAny (model X.prog X.w) X.A (call (.builtin "max") [.ref l] [(Str.ofString "key",.ref q)]) (EP X pins σ Q) X.xe s:=by
 have hname:(toString "max" ++ toString ".loop" : String) = "max.loop":=by decide
 have hh:X.A.handled=none:=hr.hd
 have hu:X.A.units + 1 < cLine:=by have:=hr.un;omega
 cases all with
 | nil=>exact False.elim h
 | cons x xs=>
  obtain⟨its,n,rv,hl,_⟩:=I.lst hH
  have hls:s.heap.IsList l its.toArray:=⟨_,hl,rfl,n,rfl⟩
  have hll:l < s.heap.objs.size:=Heap.lt_size hl
  refine kmk_tree PySem.F.kind_max PySem.F.plain_max PySem.F.entry_max (kmk_max_key _ _) ?_
  show wpAny _ X.A.in1 (Builtin.Builtins.bindParams "max" ["key","default"] 0 ⟨[],[(Str.ofString "key",.ref q)]⟩ >>= _) _ _ s
  refine wpAny_bind (wpAny_of_eq (show Builtin.Builtins.bindParams "max" ["key","default"] 0 ⟨[],[(Str.ofString "key",.ref q)]⟩=pure [some (.ref q),none] from rfl) ?_)
  refine wpAny_bind (wpAny_pure ?_)
  refine wpAny_bind (wpAny_pyIter_list hls ?_)
  refine wpAny_bind (wpAny_newList ?_ (Nat.zero_le _))
  rw[hname]
  have hS:(s.heap.push { cls := .type "list_iterator",data := .fields #[.ref l,.int 0 0] }).objs.size=s.heap.objs.size + 1:=size_push' ..
  have nq:=I.pin (q,W.methodObj (.ref f) (.ref a)) (List.mem_append_right _ (.head _))
  have hqz:q < s.heap.objs.size:=Heap.lt_size nq.1
  have I0:Inv X pins σ H s:=I.pins_of λp hp=>I.pin p (List.mem_append_right _ (.tail _ hp))
  have Ia:Inv X ((s.heap.objs.size,{ cls := .type "list_iterator",data := .fields #[.ref l,.int 0 0] }) :: (q,W.methodObj (.ref f) (.ref a)) :: pins) σ H { s with heap:=s.heap.push { cls := .type "list_iterator",data := .fields #[.ref l,.int 0 0] } }:=I.pinNew (t':=s.toks) rfl (by intro v z;cases z)
  have Ib:=Ia.pinNew (t':=s.toks) (ob:=seqObj "list" #[] 0) rfl (by intro v z;cases z)
  have fI:FpOk X pins H s.heap.objs.size:=I0.fpOk (Nat.le_refl _) (I.hok.fresh (Nat.le_refl _))
  have fS:FpOk X pins H (s.heap.push { cls := .type "list_iterator",data := .fields #[.ref l,.int 0 0] }).objs.size:=I0.fpOk (by rw[hS];exact Nat.le_succ _) (I.hok.fresh (by rw[hS];exact Nat.le_succ _))
  generalize hS0:(s.heap.push { cls := .type "list_iterator",data := .fields #[.ref l,.int 0 0] }).objs.size=S at *
  have hlI:l≠s.heap.objs.size:=Nat.ne_of_lt hll
  have hqI:q≠s.heap.objs.size:=Nat.ne_of_lt hqz
  have hSI:S≠s.heap.objs.size:=by rw[hS];exact Nat.ne_of_gt (Nat.lt_succ_self _)
  have hqS:q≠S:=by rw[hS];exact Nat.ne_of_lt (Nat.lt_succ_of_lt hqz)
  refine wpAny_pure ⟨plainId_quiet PySem.F.plain_max_loop _,?_⟩
  have nS:=Ib.pin (S,seqObj "list" #[] 0) (List.mem_append_right _ (by rw[<- hS0];exact .head _))
  have nI:=Ib.pin (s.heap.objs.size,_) (List.mem_append_right _ (.tail _ (.head _)))
  obtain⟨its',n',rv',hl',_⟩:=Ib.lst hH
  have hls':((s.heap.push { cls := .type "list_iterator",data := .fields #[.ref l,.int 0 0] }).push (seqObj "list" #[] 0)).IsList l its'.toArray:=⟨_,hl',rfl,n',rfl⟩
  obtain⟨u,hu',ru⟩:=zn9 (i:=0) rv' rfl
  refine codeAny_builtin PySem.F.entry_max_loop ?_
  rw[Around.under_plainId PySem.F.plain_max_loop _]
  show wpAny _ X.A.in1 (seqItems? (.ref S) >>= _) _ _ _
  refine wpAny_bind (wpAny_seqItems nS.1 rfl ?_)
  show wpAny _ X.A.in1 (tryCatch (pyNext (.ref s.heap.objs.size)) _ >>= _) _ _ _
  refine wpAny_bind (wpAny_tryCatch (wpAny_pyNext_list_item (i:=0) ⟨_,nI.1,rfl,rfl⟩ hls' (x:=u) (by rw[List.getElem?_toArray];exact hu') λh' hit' hs' => ?_))
  obtain⟨oI',hoI',hoc,hod⟩:=id hit'
  have Ic:Inv X ((s.heap.objs.size,oI') :: (S,seqObj "list" #[] 0) :: (q,W.methodObj (.ref f) (.ref a)) :: pins) σ H { s with heap:=h' }:=by
   have fI':FpOk X ([(S,seqObj "list" #[] 0)] ++ (q,W.methodObj (.ref f) (.ref a)) :: pins) H s.heap.objs.size:=fI.more (pa:=[(S,seqObj "list" #[] 0),(q,W.methodObj (.ref f) (.ref a))]) (by simp[hSI,hqI])
   have Iz:=Inv.repin (pa:=[(S,seqObj "list" #[] 0)]) (t':=s.toks) (h':=h') Ib fI' (λb' o hb e=>(hs'.2 b' hb).trans e) hoI' (by intro v z;rw[hod]at z;cases z)
   refine Iz.pins_of λp hp=>Iz.pin p (List.mem_append_right _ ?_)
   rcases List.mem_cons.mp hp with rfl | hp
   ·exact .tail _ (.head _)
   ·rcases List.mem_cons.mp hp with rfl | hp
    ·exact .head _
    ·exact .tail _ (.tail _ hp)
  show wpAny _ X.A.in1 (tryCatch (holding [u] (call (.ref q) [u])) _ >>= _) _ _ _
  refine wpAny_bind (wpAny_tryCatch (wpAny_holding (wpAny_mono (B _ _ σ H _ x u Ic (.tail _ (.tail _ (.head _))) ru h) (λuk s2 he => ?_) λ_ _ hF=>hF.elim)))
  obtain⟨kv,H1,I2,rk,hH1,hgo⟩:=he
  have nS2:=I2.pin (S,seqObj "list" #[] 0) (List.mem_append_right _ (.tail _ (.head _)))
  have nI2:=I2.pin (s.heap.objs.size,oI') (List.mem_append_right _ (.head _))
  have sb:=Heap.SameBut.update s2.heap S (Obj.mapSeq λ_ => #[u,uk])
  obtain⟨c2,hc2⟩:∃c2,(s2.heap.update S (Obj.mapSeq λ_ => #[u,uk])).get? S=some (seqObj "list" #[u,uk] c2):=⟨_,get?_update_seq nS2.1 λ_ => #[u,uk]⟩
  show wpAny _ X.A.in1 (updateSeq S (λ_ => #[u,uk]) >>= _) _ _ _
  refine wpAny_bind ?_
  refine wpAny_updateSeq nS2.1 rfl ?_
  rw[hname]
  have fS':FpOk X ((s.heap.objs.size,oI') :: (q,W.methodObj (.ref f) (.ref a)) :: pins) H S:=fS.more (pa:=[(s.heap.objs.size,oI'),(q,W.methodObj (.ref f) (.ref a))]) (by simp[hSI.symm,hqS])
  have I3:Inv X ((s.heap.objs.size,oI') :: (S,seqObj "list" #[u,uk] c2) :: (q,W.methodObj (.ref f) (.ref a)) :: pins) σ H1 { s2 with heap:=s2.heap.update S (Obj.mapSeq λ_ => #[u,uk]) }:=
   Inv.repin (pa:=[(s.heap.objs.size,oI')]) (t':=s2.toks) I2 fS' (λb' o hb' e=>(sb.2 b' hb').trans e) hc2 (by intro v z;cases z)
  exact wpAny_pure ⟨plainId_quiet PySem.F.plain_max_loop _,zp9 (H₁:=H) hh hu B hlI hSI hqI hqS fI fS xs 0 x kv u uk c2 oI' H1 _ rfl hgo hH1 I3 ⟨oI',(sb.2 _ hSI.symm).trans nI2.1,hoc,hod⟩ ru rk⟩
theorem zo7(c:MCal X.prog X.w X.K X.mg X.base CX0 k C m ps ds sp)(b:BM X.K C m)(he:PE X e te)(ho:PE X o ta)(hr:Room j X.A)(hd:Vals dvs ds)(hm:X.mg ("max" : Str)=none)(hk:k + 1<=j:=by decide)(hg:Gl X "max":=by rfl)
  (hb:attributeBase o m X.env (eval o X.env)=eval o X.env:=by rfl) (hs:starEach [e] X.env=(false,eval e X.env) :: starEach [] X.env:=by rfl) :
  PE X (.Call (.Name "max" p) [e] [⟨some "key",.Attribute o m apos,kpos⟩] pos) (tMaxK X.K C m sp dvs te ta):=by
 obtain⟨f,fd,F,hbi,hme⟩:=c.ex
 obtain⟨f',ef,kb⟩:=b.ex
 have:f'=f:=by have z:=hme.at_;rw[ef]at z;injection z with z;injection z with z;injection z
 subst this
 intro pins s σ H Q I h
 refine wpAny_Call_Name_kw (zdv I hg hm boot_max ?_)
 have h':tCons te tNil σ H (λvs H1=>match vs with
   | [v]=>ta σ H1 λo H2=>∃(a dx:Addr) (fs:List (Str×V)) (l:Addr) (all:List V),o = .ref a/\H2 a=some (.ins C dx fs)/\fs.lookup m=none /\
     v = .ref l/\H2 l=some (.lst all)/\mxAll X.K l all (λx H Q=>sp (.ref a :: x :: dvs) H Q E0) all H2 Q
   | _=>False):=h
 refine callWith_kw (thn ((zaa he zae hs) pos pins s σ H _ I h') λus s1 ⟨vs,H1,I1,r1,q1⟩ => ?_) (by rw[hs];rfl) (by rw[hs];rfl)
 cases r1 with
 | nil=>exact False.elim q1
 | cons ru rr=>
  cases rr with
  | cons _ _=>exact False.elim q1
  | nil=>
   refine kwAll_cons (zld hb (thn (ho pins s1 σ H1 _ I1 q1) λuo s2 ⟨ov,H2,I2,ro,a,dx,fs,l,all,eo,ea,el,ev,eh,hmx⟩ => ?_))
   subst eo
   subst ev
   cases ro
   cases ru
   refine zke I2 ea c.cl hme kb el (kwAll_nil ?_)
   have I3:=I2.pinNew (t':=s2.toks + 1) (ob:=W.methodObj (.ref f') (.ref a)) rfl (by intro v z;cases z)
   exact zot hr (zo2 F (hr.mono hk) hbi hd) I3 eh hmx
end
end L2
namespace L2
open PySem PySem.Spec PyProof.Rows
theorem Inv.unpin{X:Cx}{pins:List (Addr×Obj)}{σ : St}{H H₁:Hp}{s:Shared}{D:Addr}{xs:List V}{vs:List Value}{n:Nat}(I:Inv X ((D,seqObj "list" vs.toArray n) :: pins) σ H s)(f:FpOk X pins H₁ D)(r:Vals xs vs)(hz:xs.length<=sizeLine):Inv X pins σ (upd H D (.lst xs)) s:=by
 have pD:=I.pin (D,seqObj "list" vs.toArray n) (List.mem_append_right _ (.head _))
 have I1:Inv X pins σ H s:=I.pins_of λp hp=>I.pin p (List.mem_append_right _ (.tail _ hp))
 have ne:∀b o,H b=some o->b≠D:=λb o e z=>by rw[z,pD.2.1]at e;cases e
 have st:=I1.step (h':=s.heap) (H':=upd H D (.lst xs)) (g':=s.gens) (d':=s.drawn) (t':=s.toks) (ch:=[D])
  (λb hb=>by rw[List.mem_singleton.mp hb];exact⟨f.2.2.2.1,f.2.1,f.2.2.2.2.1,f.2.2.2.2.2⟩)
  (λb o _ _ _ e _=>e) (λb o _ _ _ e _=>⟨o.slots,e⟩) (λb o hb _ e=>by rw[zal (λz=>hb (by simp[z]))];exact e)
  (λb o _ e=>⟨o,e⟩) (λb xs e=>by rw[zal (ne b _ e)];exact e) (λb o u e=>by rw[zal (ne b _ e)];exact e) (λb ps e=>⟨#[],by rw[zal (ne b _ e)];simpa using e⟩)
  (λm hm=>hm) (λb o e => ?_) I1.bare
 ·exact st
 ·by_cases hb:b=D
  ·subst hb
   rw[zaf]at e;cases e
   exact⟨hz,vs,n,r,pD.1⟩
  ·rw[zal hb]at e
   exact(I.hok b o e).stay (λc v hc q=>q) (λc q=>(by rw[zal (ne _ _ q)];exact q)) λc w q=>(by rw[zal (ne _ _ q)];exact q)
end L2
namespace TS
open PySem PyProof.Rows
local macro_rules | `(tactic| walk_at "sort gallop") => do `(tactic| delta $(Lean.mkIdent (Lean.mkPrivateNameCore `PySem.Builtin.List.W1All `PySem.Builtin.gallop)):ident)
structure Cmp(prog:Program)(w:World)(A:Around)(s:Shared)(kd:SortKind)(a₀:Array Keyed)(O:KeyOrd)(key:Keyed->O.α):Prop where
 ask:∀x∈a₀.toList,∀y∈a₀.toList,∀(Q:Bool->Shared->Prop) (E:Value->Shared->Prop),Q (O.blt (key x) (key y)) s->wpAny (model prog w) A (keyLt' kd x.1 y.1) Q E s
structure SB(kd:SortKind)(a₀:Array Keyed)(st:SortSt):Prop where
 kind:kindOf st=kd
 perm:(arrOf st).Perm a₀
 failed:failedOf st=none
section
variable{prog:Program}{w:World}{A:Around}{E:Value->Shared->Prop}{s:Shared}{kd:SortKind}{a₀:Array Keyed}{O:KeyOrd}{key:Keyed->O.α}
theorem SB.size{st:SortSt}(B:SB kd a₀ st):(arrOf st).size=a₀.size:=B.perm.size_eq
theorem SB.mem{st:SortSt}(B:SB kd a₀ st){x:Keyed}(h:x∈(arrOf st).toList):x∈a₀.toList:=(Array.perm_iff_toList_perm.mp B.perm).mem_iff.mp h
theorem zks(C:Cmp prog w A s kd a₀ O key){st:SortSt}(hk:kindOf st=kd){x y:Keyed}(hx:x∈a₀.toList)(hy:y∈a₀.toList){Q:Option Bool->SortSt->Prop}(h:Q (some (O.blt (key x) (key y))) st) :
  wpS (model prog w) A E s ((sortPriv% PySem.Builtin.lt) x y) Q st:=by
 show wpS (model prog w) A E s (lt' x y) Q st
 rw[lt'_eq]
 refine wpS_bind (wpS_get ?_)
 rw[hk]
 exact wpS_bind (wpS_lift (wpAny_attempt (C.ask x hx y hy _ _ ⟨rfl,wpS_pure h⟩)))
theorem zap{arr:Array Keyed}{i:Nat}{x:Keyed}{st:SortSt}{Q:Keyed->SortSt->Prop}(hi:arr[i]? = some x)(h:Q x st):wpS (model prog w) A E s ((sortPriv% PySem.Builtin.elem) arr i) Q st:=by
 show wpS (model prog w) A E s (elem' arr i) Q st
 rw[elem'_eq,hi]
 exact wpS_pure h
def bey(O:KeyOrd)(left:Bool)(k x:O.α):Bool:=if left then O.blt x k else !(O.blt k x)
theorem znb(left:Bool){k x y:O.α}(h:O.kle x y)(hy:bey O left k y=true):bey O left k x=true:=by
 unfold bey at *
 cases left with
 | true=>
  simp only[if_true]at *
  exact KeyOrd.klt_of_kle_of_klt h hy
 | false=>
  simp only[Bool.false_eq_true,if_false,Bool.not_eq_true']at *
  exact KeyOrd.kle_trans (O:=O) h hy
theorem za9(C:Cmp prog w A s kd a₀ O key){left:Bool}{k:Keyed}{arr:Array Keyed}{base n hint:Nat}{st:SortSt}{Q:Option Nat->SortSt->Prop}(hkd:kindOf st=kd)(hk:k∈a₀.toList)(hsub:∀x∈arr.toList,x∈a₀.toList)(hn:base + n<=arr.size)(hh:hint < n)
  (hs:∀(i j:Nat) (x y:Keyed),i<=j->j < n->arr[base + i]? = some x->arr[base + j]? = some y->O.kle (key x) (key y))
  (h:∀r,r<=n->(∀(i:Nat) (x:Keyed),i < r->arr[base + i]? = some x->bey O left (key k) (key x)=true)->(∀(i:Nat) (x:Keyed),r<=i->i < n->arr[base + i]? = some x->bey O left (key k) (key x)=false)->Q (some r) st) :
  wpS (model prog w) A E s ((sortPriv% PySem.Builtin.gallop) left k arr base n hint) Q st:=by
 walk_at "sort gallop"
 extract_lets beyond z0 z1 jp m1 m2
 have hp:∀i,i < n->∃x,arr[base + i]? = some x/\x∈a₀.toList:=λi hi=>⟨arr[base + i]'(by omega),getElem?_pos ..,hsub _ (by simp)⟩
 generalize hpe:(λi:Nat=>bey O left (key k) (key (arr.getD (base + i) (.none,.none))))=p
 have hpx:∀(i:Nat) (x:Keyed),arr[base + i]? = some x->p i=bey O left (key k) (key x):=λi x e=>by
  rw[<- hpe];simp only[Array.getD_eq_getD_getElem?,e,Option.getD_some]
 have hb:∀(i:Nat) (st':SortSt) (Q':Option Bool->SortSt->Prop),i < n->kindOf st'=kd->Q' (some (p i)) st'->wpS (model prog w) A E s (beyond i) Q' st':=by
  intro i st' Q' hi hk' hq
  obtain⟨x,ex,mx⟩:=hp i hi
  refine wpS_bind (zap ex ?_)
  rw[hpx i x ex]at hq
  cases left with
  | true=>exact zks C hk' mx hk hq
  | false=>
   refine wpS_bind (zks C hk' hk mx (wpS_pure ?_))
   exact hq
 have hmono:∀i j,i<=j->j < n->p j=true->p i=true:=by
  intro i j hij hj hpj
  obtain⟨x,ex,_⟩:=hp i (by omega)
  obtain⟨y,ey,_⟩:=hp j hj
  rw[hpx j y ey]at hpj
  rw[hpx i x ex]
  exact znb left (hs i j x y hij hj ex ey) hpj
 have hjp:∀lo hi,lo<=hi->hi<=n->(∀i,i < lo->p i=true)->(∀i,hi<=i->i < n->p i=false)->∀a b,wpS (model prog w) A E s (jp () a b lo hi) Q st:=by
  intro lo hi hlh hhn hlo hhi a b
  refine wpS_bind (wpS_mono (wpS_forRange (I:=λx c st'=>st'=st/\∃l r,c=(none,l,r)/\l<=r/\r<=n/\r - l<=n - x/\(∀i,i < l->p i=true)/\(∀i,r<=i->i < n->p i=false))
   (Q:=λc st'=>st'=st/\∃r,c=(none,r,r)/\r<=n/\(∀i,i < r->p i=true)/\(∀i,r<=i->i < n->p i=false)) ?step ?fin ⟨rfl,lo,hi,rfl,hlh,hhn,by omega,hlo,hhi⟩) ?post)
  case fin=>
   rintro c st' ⟨rfl,l,r,rfl,h1,h2,h3,h4,h5⟩
   have:l=r:=by omega
   subst this
   exact⟨rfl,l,rfl,h2,h4,h5⟩
  case step=>
   rintro x c st' _ hx ⟨rfl,l,r,rfl,h1,h2,h3,h4,h5⟩
   dsimp only
   by_cases hge:l ≥ r
   ·rw[if_pos hge]
    have:l=r:=by omega
    subst this
    exact wpS_pure ⟨rfl,l,rfl,h2,h4,h5⟩
   ·rw[if_neg hge]
    refine wpS_bind (hb _ _ _ (by omega) hkd ?_)
    dsimp only
    cases hpm:p (l + (r - l) / 2) with
    | true=>
     simp only[if_true]
     exact wpS_pure ⟨rfl,_,r,rfl,by omega,h2,by omega,λi hi=>hmono i _ (by omega) (by omega) hpm,h5⟩
    | false=>
     simp only[Bool.false_eq_true,if_false]
     refine wpS_pure ⟨rfl,l,_,rfl,by omega,by omega,by omega,h4,λi hi hin => ?_⟩
     cases hpi:p i with
     | false=>rfl
     | true=>exact absurd (hmono _ i hi hin hpi) (by rw[hpm];simp)
  case post=>
   rintro c st' ⟨rfl,r,rfl,h2,h4,h5⟩
   refine wpS_pure (h r h2 (λi x hi e => ?_) λi x hi hin e => ?_)
   ·rw[<- hpx i x e];exact h4 i hi
   ·rw[<- hpx i x e];exact h5 i hi hin
 clear_value jp beyond
 refine wpS_bind (hb hint st _ hh hkd ?_)
 dsimp only
 cases hph:p hint with
 | true=>
  simp only[if_true]
  refine wpS_bind (wpS_mono (wpS_forRange (I:=λx c st'=>st'=st/\∃l o,c=(none,l,o)/\l < o/\l < n - hint/\x + 1<=o/\p (hint + l)=true)
   (Q:=λc st'=>st'=st/\∃l o,c=(none,l,o)/\l < o/\l < n - hint/\p (hint + l)=true/\(n - hint<=o\/p (hint + o)=false)) ?step ?fin ⟨rfl,0,1,rfl,by omega,by omega,by omega,hph⟩) ?post)
  case fin=>
   rintro c st' ⟨rfl,l,o,rfl,h1,h2,h3,h4⟩
   exact⟨rfl,l,o,rfl,h1,h2,h4,.inl (by omega)⟩
  case step=>
   rintro x c st' _ hx ⟨rfl,l,o,rfl,h1,h2,h3,h4⟩
   dsimp only
   by_cases hge:o ≥ n - hint
   ·rw[if_pos hge]
    exact wpS_pure ⟨rfl,l,o,rfl,h1,h2,h4,.inl hge⟩
   ·rw[if_neg hge]
    refine wpS_bind (hb _ _ _ (by omega) hkd ?_)
    dsimp only
    cases hpo:p (hint + o) with
    | true=>
     simp only[Bool.not_true,Bool.false_eq_true,if_false]
     exact wpS_pure ⟨rfl,o,2 * o + 1,rfl,by omega,by omega,by omega,hpo⟩
    | false=>
     simp only[Bool.not_false,if_true]
     exact wpS_pure ⟨rfl,l,o,rfl,h1,h2,h4,.inr hpo⟩
  case post=>
   rintro c st' ⟨rfl,l,o,rfl,h1,h2,h4,h5⟩
   refine hjp _ _ ?_ ?_ ?_ ?_ _ _
   ·show hint + l + 1<=hint + min o (n - hint)
    omega
   ·show hint + min o (n - hint)<=n
    omega
   ·intro i hi
    have hi':i < hint + l + 1:=hi
    exact hmono i (hint + l) (by omega) (by omega) h4
   ·intro i hi hin
    have hi':hint + min o (n - hint)<=i:=hi
    rcases h5 with h5 | h5
    ·omega
    ·cases hpi:p i with
     | false=>rfl
     | true=>exact absurd (hmono (hint + o) i (by omega) hin hpi) (by rw[h5];simp)
 | false=>
  simp only[Bool.false_eq_true,if_false]
  refine wpS_bind (wpS_mono (wpS_forRange (I:=λx c st'=>st'=st/\∃l o,c=(none,l,o)/\l < o/\l < hint + 1/\x + 1<=o/\p (hint - l)=false)
   (Q:=λc st'=>st'=st/\∃l o,c=(none,l,o)/\l < o/\l < hint + 1/\p (hint - l)=false/\(hint + 1<=o\/p (hint - o)=true)) ?step ?fin ⟨rfl,0,1,rfl,by omega,by omega,by omega,hph⟩) ?post)
  case fin=>
   rintro c st' ⟨rfl,l,o,rfl,h1,h2,h3,h4⟩
   exact⟨rfl,l,o,rfl,h1,h2,h4,.inl (by omega)⟩
  case step=>
   rintro x c st' _ hx ⟨rfl,l,o,rfl,h1,h2,h3,h4⟩
   dsimp only
   by_cases hge:o ≥ hint + 1
   ·rw[if_pos hge]
    exact wpS_pure ⟨rfl,l,o,rfl,h1,h2,h4,.inl hge⟩
   ·rw[if_neg hge]
    refine wpS_bind (hb _ _ _ (by omega) hkd ?_)
    dsimp only
    cases hpo:p (hint - o) with
    | true=>
     simp only[if_true]
     exact wpS_pure ⟨rfl,l,o,rfl,h1,h2,h4,.inr hpo⟩
    | false=>
     simp only[Bool.false_eq_true,if_false]
     exact wpS_pure ⟨rfl,o,2 * o + 1,rfl,by omega,by omega,by omega,hpo⟩
  case post=>
   rintro c st' ⟨rfl,l,o,rfl,h1,h2,h4,h5⟩
   refine hjp _ _ ?_ ?_ ?_ ?_ _ _
   ·show hint + 1 - min o (hint + 1)<=hint - l
    omega
   ·show hint - l<=n
    omega
   ·intro i hi
    have hi':i < hint + 1 - min o (hint + 1):=hi
    rcases h5 with h5 | h5
    ·omega
    ·exact hmono i (hint - o) (by omega) (by omega) h5
   ·intro i hi hin
    have hi':hint - l<=i:=hi
    cases hpi:p i with
    | false=>rfl
    | true=>exact absurd (hmono (hint - l) i hi' hin hpi) (by rw[h4];simp)
end
end TS
namespace TS
open PySem PyProof.Rows
local macro_rules | `(tactic| walk_at "sort setMinGallop") => do `(tactic| delta $(Lean.mkIdent (Lean.mkPrivateNameCore `PySem.Builtin.List.W1All `PySem.Builtin.setMinGallop)):ident)
local macro_rules | `(tactic| walk_at "sort mergeLo") => do `(tactic| delta $(Lean.mkIdent (Lean.mkPrivateNameCore `PySem.Builtin.List.W1All `PySem.Builtin.mergeLo)):ident)
section
variable{O:KeyOrd}(key:Keyed->O.α)
def Srt(l:List Keyed):Prop:=l.Pairwise λx y=>O.kle (key x) (key y)
structure Mrg(la lb o:List Keyed)(ia ib:Nat):Prop where
 perm:(o ++ (la.drop ia ++ lb.drop ib)).Perm (la ++ lb)
 srt:Srt key o
 lea:∀x∈o,∀y∈la.drop ia,O.kle (key x) (key y)
 leb:∀x∈o,∀y∈lb.drop ib,O.kle (key x) (key y)
def Res(la lb r:List Keyed):Prop:=r.Perm (la ++ lb)/\Srt key r
variable{key}{la lb o:List Keyed}{ia ib:Nat}{x:Keyed}
theorem ze7(e:la[ia]? = some x):la.drop ia=x :: la.drop (ia + 1):=by
 obtain⟨h,rfl⟩:=List.getElem?_eq_some_iff.mp e
 exact List.drop_eq_getElem_cons h
theorem Srt.drop(h:Srt key la)(n:Nat):Srt key (la.drop n):=List.Pairwise.sublist (List.drop_sublist _ _) h
theorem Srt.snoc(h:Srt key o)(hx:∀y∈o,O.kle (key y) (key x)):Srt key (o ++ [x]):=by
 refine List.pairwise_append.mpr ⟨h,List.pairwise_singleton _ _,λy hy z hz => ?_⟩
 rw[List.mem_singleton.mp hz];exact hx y hy
theorem Mrg.start:Mrg key la lb [] 0 0:=⟨by simp,List.Pairwise.nil,by simp,by simp⟩
theorem Mrg.push_a(sa:Srt key la)(M:Mrg key la lb o ia ib)(e:la[ia]? = some x)(h:∀y∈lb.drop ib,O.kle (key x) (key y)):Mrg key la lb (o ++ [x]) (ia + 1) ib:=by
 have d:=ze7 e
 have s2:=sa.drop ia
 rw[d]at s2
 obtain⟨s3,_⟩:=List.pairwise_cons.mp s2
 refine⟨?_,M.srt.snoc λy hy=>M.lea y hy x (by rw[d];exact .head _),λy hy z hz => ?_,λy hy z hz => ?_⟩
 ·have p:=M.perm
  rw[d]at p
  simpa using p
 ·rcases List.mem_append.mp hy with hy | hy
  ·exact M.lea y hy z (by rw[d];exact .tail _ hz)
  ·rw[List.mem_singleton.mp hy];exact s3 z hz
 ·rcases List.mem_append.mp hy with hy | hy
  ·exact M.leb y hy z hz
  ·rw[List.mem_singleton.mp hy];exact h z hz
theorem Mrg.push_b(sb:Srt key lb)(M:Mrg key la lb o ia ib)(e:lb[ib]? = some x)(h:∀y∈la.drop ia,O.kle (key x) (key y)):Mrg key la lb (o ++ [x]) ia (ib + 1):=by
 have d:=ze7 e
 have s2:=sb.drop ib
 rw[d]at s2
 obtain⟨s3,_⟩:=List.pairwise_cons.mp s2
 refine⟨?_,M.srt.snoc λy hy=>M.leb y hy x (by rw[d];exact .head _),λy hy z hz => ?_,λy hy z hz => ?_⟩
 ·have p:=M.perm
  rw[d]at p
  refine List.Perm.trans ?_ p
  simp only[List.append_assoc,List.singleton_append]
  exact List.Perm.append_left _ (List.perm_middle).symm
 ·rcases List.mem_append.mp hy with hy | hy
  ·exact M.lea y hy z hz
  ·rw[List.mem_singleton.mp hy];exact h z hz
 ·rcases List.mem_append.mp hy with hy | hy
  ·exact M.leb y hy z (by rw[d];exact .tail _ hz)
  ·rw[List.mem_singleton.mp hy];exact s3 z hz
theorem Mrg.app_a(sa:Srt key la):∀(k:Nat) {o:List Keyed} {ia:Nat},Mrg key la lb o ia ib->ia + k<=la.length->(∀i x,ia<=i->i < ia + k->la[i]? = some x->∀y∈lb.drop ib,O.kle (key x) (key y)) ->
  Mrg key la lb (o ++ (la.drop ia).take k) (ia + k) ib
 | 0,o,ia,M,_,_=>by simpa using M
 | k + 1,o,ia,M,hl,h=>by
  have e:la[ia]? = some la[ia]:=List.getElem?_eq_getElem (by omega)
  have M1:=M.push_a sa e (h ia _ (Nat.le_refl _) (by omega) e)
  have M2:=Mrg.app_a sa k M1 (by omega) λi x h1 h2 e'=>h i x (by omega) (by omega) e'
  rw[ze7 e,List.take_succ_cons]
  have:ia + 1 + k=ia + (k + 1):=by omega
  rw[this]at M2
  simpa using M2
theorem Mrg.app_b(sb:Srt key lb):∀(k:Nat) {o:List Keyed} {ib:Nat},Mrg key la lb o ia ib->ib + k<=lb.length->(∀i x,ib<=i->i < ib + k->lb[i]? = some x->∀y∈la.drop ia,O.kle (key x) (key y)) ->
  Mrg key la lb (o ++ (lb.drop ib).take k) ia (ib + k)
 | 0,o,ib,M,_,_=>by simpa using M
 | k + 1,o,ib,M,hl,h=>by
  have e:lb[ib]? = some lb[ib]:=List.getElem?_eq_getElem (by omega)
  have M1:=M.push_b sb e (h ib _ (Nat.le_refl _) (by omega) e)
  have M2:=Mrg.app_b sb k M1 (by omega) λi x h1 h2 e'=>h i x (by omega) (by omega) e'
  rw[ze7 e,List.take_succ_cons]
  have:ib + 1 + k=ib + (k + 1):=by omega
  rw[this]at M2
  simpa using M2
theorem Mrg.done(sa:Srt key la)(sb:Srt key lb)(M:Mrg key la lb o ia ib)(h:la.length<=ia\/lb.length<=ib):Res key la lb (o ++ la.drop ia ++ lb.drop ib):=by
 refine⟨by simpa using M.perm,?_⟩
 rcases h with h | h
 ·rw[List.drop_eq_nil_of_le h,List.append_nil]
  exact List.pairwise_append.mpr ⟨M.srt,sb.drop _,M.leb⟩
 ·rw[List.drop_eq_nil_of_le h,List.append_nil]
  exact List.pairwise_append.mpr ⟨M.srt,sa.drop _,M.lea⟩
theorem Mrg.last(sa:Srt key la)(sb:Srt key lb)(M:Mrg key la lb o ia ib)(h:∀x∈lb,∀y∈la.drop ia,O.kle (key x) (key y)):Res key la lb (o ++ lb.drop ib ++ la.drop ia):=by
 refine⟨?_,?_⟩
 ·refine List.Perm.trans ?_ M.perm
  rw[List.append_assoc]
  exact List.Perm.append_left _ List.perm_append_comm
 ·refine List.pairwise_append.mpr ⟨List.pairwise_append.mpr ⟨M.srt,sb.drop _,M.leb⟩,sa.drop _,λx hx y hy => ?_⟩
  rcases List.mem_append.mp hx with hx | hx
  ·exact M.lea x hx y hy
  ·exact h x (List.mem_of_mem_drop hx) y hy
theorem Srt.at{a:Array Keyed}(h:Srt key a.toList){i j:Nat}{x y:Keyed}(hij:i<=j)(ex:a[i]? = some x)(ey:a[j]? = some y):O.kle (key x) (key y):=by
 by_cases e:i=j
 ·subst e;rw[ex]at ey;cases ey;exact KeyOrd.kle_refl _
 ·obtain⟨hi,rfl⟩:=Array.getElem?_eq_some_iff.mp ex
  obtain⟨hj,rfl⟩:=Array.getElem?_eq_some_iff.mp ey
  exact(List.pairwise_iff_getElem.mp h) i j (by simpa using hi) (by simpa using hj) (by omega)
theorem Srt.head{a:Array Keyed}(h:Srt key a.toList){i:Nat}{x:Keyed}(ex:a[i]? = some x):∀y∈a.toList.drop i,O.kle (key x) (key y):=by
 intro y hy
 obtain⟨j,hj,e⟩:=List.mem_iff_getElem.mp hy
 rw[List.getElem_drop]at e
 refine h.at (j:=i + j) (by omega) ex ?_
 rw[List.length_drop]at hj
 rw[<- e]
 exact Array.getElem?_eq_some_iff.mpr ⟨by simp at hj;omega,by simp⟩
theorem zex(a:Array Keyed)(i:Nat):(a.extract i a.size).toList=a.toList.drop i:=by
 simp only[Array.toList_extract,List.extract_eq_drop_take]
 exact List.take_of_length_le (by simp)
theorem zdb(a:Array Keyed)(i k:Nat):(a.extract i (i + k)).toList=(a.toList.drop i).take k:=by simp[List.extract_eq_drop_take]
end
section
variable{prog:Program}{w:World}{A:Around}{E:Value->Shared->Prop}{s:Shared}{kd:SortKind}{a₀:Array Keyed}{O:KeyOrd}{key:Keyed->O.α}
theorem zh9{g:Nat}{st:SortSt}{Q:Unit->SortSt->Prop}(h:Q () (SortSt.mk' (kindOf st) (arrOf st) (pendingOf st) g (failedOf st))):wpS (model prog w) A E s ((sortPriv% PySem.Builtin.setMinGallop) g) Q st:=by
 walk_at "sort setMinGallop"
 exact wpS_modify h
structure Same(st₀ st:SortSt):Prop where
 kind:kindOf st=kindOf st₀
 arr:arrOf st=arrOf st₀
 pend:pendingOf st=pendingOf st₀
 fail:failedOf st=failedOf st₀
theorem zgd{g:Nat}{st₀ st:SortSt}{Q:Unit->SortSt->Prop}(S:Same st₀ st)(h:∀st1,Same st₀ st1->Q () st1):wpS (model prog w) A E s ((sortPriv% PySem.Builtin.setMinGallop) g) Q st:=
 zh9 (h _ ⟨S.kind,S.arr,S.pend,S.fail⟩)
theorem zj2(C:Cmp prog w A s kd a₀ O key){a b:Array Keyed}{st:SortSt}{Q:Array Keyed->SortSt->Prop}(hkd:kindOf st=kd)(ha:∀x∈a.toList,x∈a₀.toList)(hb:∀x∈b.toList,x∈a₀.toList)(sa:Srt key a.toList)(sb:Srt key b.toList)
  (za:0 < a.size) (zb:0 < b.size) (h0:∀y∈a.toList,O.kle (key b[0]) (key y)) (hl:∀x∈b.toList,O.kle (key x) (key a[a.size - 1]))
  (h:∀r st',Res key a.toList b.toList r.toList->Same st st'->Q r st') :
  wpS (model prog w) A E s ((sortPriv% PySem.Builtin.mergeLo) a b) Q st:=by
 have ea:∀i,i < a.size->∃x,a[i]? = some x/\a.toList[i]? = some x/\x∈a₀.toList:=λi hi=>⟨a[i],getElem?_pos ..,by simp[hi],ha _ (by simp)⟩
 have eb:∀i,i < b.size->∃x,b[i]? = some x/\b.toList[i]? = some x/\x∈a₀.toList:=λi hi=>⟨b[i],getElem?_pos ..,by simp[hi],hb _ (by simp)⟩
 have lastA:∀ia,ia + 1=a.size->∀x∈b.toList,∀y∈a.toList.drop ia,O.kle (key x) (key y):=by
  intro ia e x hx y hy
  have hz:a.size - 1=ia:=by omega
  have:=hl x hx
  obtain⟨z,e1,e2,_⟩:=ea ia (by omega)
  rw[ze7 e2,List.drop_eq_nil_of_le (by simp;omega)]at hy
  rw[List.mem_singleton.mp hy]
  have ez:a[a.size - 1]=z:=by
   have:=e1
   rw[getElem?_pos a ia (by omega)]at this
   injection this with this
   rw[<- this];congr 1
  rw[ez]at this
  exact this
 walk_at "sort mergeLo"
 extract_lets total done lastOfA i0 i1
 have hdone:∀out ia ib,Mrg key a.toList b.toList out.toList ia ib->(a.size<=ia\/b.size<=ib)->Res key a.toList b.toList (done out ia ib).toList:=by
  intro out ia ib M hz
  have:=M.done sa sb (by simpa using hz)
  show Res key _ _ (out ++ a.extract ia a.size ++ b.extract ib b.size).toList
  rw[Array.toList_append,Array.toList_append,zex,zex]
  exact this
 have hlast:∀out ia ib,Mrg key a.toList b.toList out.toList ia ib->ia + 1=a.size->Res key a.toList b.toList (lastOfA out ia ib).toList:=by
  intro out ia ib M hz
  have:=M.last sa sb (lastA ia hz)
  show Res key _ _ (out ++ b.extract ib b.size ++ a.extract ia a.size).toList
  rw[Array.toList_append,Array.toList_append,zex,zex]
  exact this
 have htot:total=a.size + b.size:=rfl
 clear_value total done lastOfA
 refine wpS_bind (wpS_lift (wpAny_rule ⟨rfl,?_⟩))
 obtain⟨b0,e0,e0',m0⟩:=eb 0 zb
 have hb0:b[0]=b0:=by rw[getElem?_pos b 0 zb]at e0;injection e0
 refine wpS_bind (zap e0 ?_)
 have M0:Mrg key a.toList b.toList (#[b0]:Array Keyed).toList 0 1:=Mrg.start.push_b sb e0' λy hy=>by rw[<- hb0];exact h0 y (by simpa using hy)
 have S0:Same st st:=⟨rfl,rfl,rfl,rfl⟩
 by_cases z1:b.size=1
 ·rw[if_pos (by show ((1:Nat) == b.size)=true;rw[z1];rfl)]
  exact wpS_pure (h _ _ (hdone _ _ _ M0 (.inr (by show b.size<=1;omega))) S0)
 rw[if_neg (by show ¬((1:Nat) == b.size)=true;simpa using λe=>z1 e.symm)]
 by_cases z2:a.size=1
 ·rw[if_pos (by show ((0:Nat) + 1 == a.size)=true;rw[z2];rfl)]
  exact wpS_pure (h _ _ (hlast _ _ _ M0 (by show 0 + 1=a.size;omega)) S0)
 rw[if_neg (by show ¬((0:Nat) + 1 == a.size)=true;simpa using λe=>z2 e.symm)]
 refine wpS_bind (wpS_get ?_)
 dsimp only
 refine wpS_bind (wpS_mono (wpS_forRange (I:=λx c st'=>Same st st'/\∃out ia ib g,c=(none,out,ia,ib,g)/\Mrg key a.toList b.toList out.toList ia ib/\ia + 1 < a.size/\ib < b.size/\x + 1<=ia + ib)
  (Q:=λc st'=>Same st st'/\∃r t,c=(some r,t)/\Res key a.toList b.toList r.toList) ?step ?fin ⟨S0,_,_,_,_,rfl,M0,by show 0 + 1 < a.size;omega,by show 1 < b.size;omega,Nat.le_refl 1⟩) ?post)
 case fin=>
  rintro c st' ⟨S,out,ia,ib,g,rfl,M,h1,h2,h3⟩
  exfalso
  omega
 case post=>
  rintro c st' ⟨S,r,t,rfl,hr⟩
  exact wpS_pure (h r st' hr S)
 case step=>
  rintro x c st' _ hx ⟨S,out,ia,ib,g,rfl,M,h1,h2,h3⟩
  dsimp only
  refine wpS_bind (wpS_mono (wpS_forRange (I:=λy c st'=>Same st st'/\∃out ia ib ac bc,c=(none,out,ia,ib,ac,bc)/\Mrg key a.toList b.toList out.toList ia ib/\ia + 1 < a.size/\ib < b.size/\x + 1 + y<=ia + ib)
   (Q:=λc st'=>Same st st'/\((∃r t,c=(some r,t)/\Res key a.toList b.toList r.toList)\/∃out ia ib ac bc,c=(none,out,ia,ib,ac,bc)/\Mrg key a.toList b.toList out.toList ia ib/\ia + 1 < a.size/\ib < b.size/\x + 2<=ia + ib)) ?istep ?ifin
   ⟨S,out,ia,ib,_,_,rfl,M,h1,h2,by omega⟩) ?ipost)
  case ifin=>
   rintro c st' ⟨S,out,ia,ib,ac,bc,rfl,M,h1,h2,h3⟩
   exact⟨S,.inr ⟨out,ia,ib,ac,bc,rfl,M,h1,h2,by omega⟩⟩
  case istep=>
   rintro y c st' _ hy ⟨S,out,ia,ib,ac,bc,rfl,M,h1,h2,h3⟩
   dsimp only
   obtain⟨p,ep,ep',mp⟩:=eb ib h2
   obtain⟨q,eq,eq',mq⟩:=ea ia (by omega)
   refine wpS_bind (zap ep (wpS_bind (zap eq (wpS_bind (zks C (S.kind.trans hkd) mp mq ?_)))))
   dsimp only
   cases hlt:O.blt (key p) (key q) with
   | true=>
    simp only[if_true]
    refine wpS_bind (zap ep ?_)
    have M1:Mrg key a.toList b.toList (out.push p).toList ia (ib + 1):=by
     rw[Array.toList_push]
     exact M.push_b sb ep' λy hy=>KeyOrd.kle_trans (KeyOrd.kle_of_klt hlt) (sa.head eq y hy)
    by_cases z:ib + 1=b.size
    ·rw[if_pos (by simpa using z)]
     exact wpS_pure ⟨S,.inl ⟨_,_,rfl,hdone _ _ _ M1 (.inr (by omega))⟩⟩
    ·rw[if_neg (by simpa using z)]
     split
     ·exact wpS_pure ⟨S,.inr ⟨_,_,_,_,_,rfl,M1,h1,by omega,by omega⟩⟩
     ·exact wpS_pure ⟨S,_,_,_,_,_,rfl,M1,h1,by omega,by omega⟩
   | false=>
    simp only[Bool.false_eq_true,if_false]
    refine wpS_bind (zap eq ?_)
    have M1:Mrg key a.toList b.toList (out.push q).toList (ia + 1) ib:=by
     rw[Array.toList_push]
     exact M.push_a sa eq' λy hy=>KeyOrd.kle_trans (show O.kle (key q) (key p) from hlt) (sb.head ep y hy)
    by_cases z:ia + 1 + 1=a.size
    ·rw[if_pos (by simpa using z)]
     exact wpS_pure ⟨S,.inl ⟨_,_,rfl,hlast _ _ _ M1 z⟩⟩
    ·rw[if_neg (by simpa using z)]
     split
     ·exact wpS_pure ⟨S,.inr ⟨_,_,_,_,_,rfl,M1,by omega,h2,by omega⟩⟩
     ·exact wpS_pure ⟨S,_,_,_,_,_,rfl,M1,by omega,h2,by omega⟩
  case ipost=>
   rintro c st' ⟨S,⟨r,t,rfl,hr⟩ | ⟨out,ia,ib,ac,bc,rfl,M,h1,h2,h3⟩⟩
   ·dsimp only
    exact wpS_pure ⟨S,r,_,rfl,hr⟩
   dsimp only
   refine wpS_bind (wpS_lift (wpAny_rule ⟨rfl,?_⟩))
   refine wpS_bind (wpS_mono (wpS_forRange (I:=λy c st'=>Same st st'/\∃out ia ib g ac bc,c=(none,out,ia,ib,g,ac,bc)/\Mrg key a.toList b.toList out.toList ia ib/\ia + 1 < a.size/\ib < b.size/\x + 2<=ia + ib)
    (Q:=λc st'=>Same st st'/\((∃r t,c=(some r,t)/\Res key a.toList b.toList r.toList)\/∃out ia ib g ac bc,c=(none,out,ia,ib,g,ac,bc)/\Mrg key a.toList b.toList out.toList ia ib/\ia + 1 < a.size/\ib < b.size/\x + 2<=ia + ib)) ?gstep ?gfin
    ⟨S,out,ia,ib,_,_,_,rfl,M,h1,h2,h3⟩) ?gpost)
   case gfin=>
    rintro c st' ⟨S,out,ia,ib,g,ac,bc,rfl,M,h1,h2,h3⟩
    exact⟨S,.inr ⟨out,ia,ib,g,ac,bc,rfl,M,h1,h2,h3⟩⟩
   case gpost=>
    rintro c st' ⟨S,⟨r,t,rfl,hr⟩ | ⟨out,ia,ib,g,ac,bc,rfl,M,h1,h2,h3⟩⟩
    ·dsimp only
     exact wpS_pure ⟨S,r,_,rfl,hr⟩
    ·dsimp only
     refine wpS_bind (zh9 (wpS_pure ⟨⟨S.kind,S.arr,S.pend,S.fail⟩,out,ia,ib,_,rfl,M,h1,h2,by omega⟩))
   case gstep=>
    rintro y c st' _ hy ⟨S,out,ia,ib,g,ac,bc,rfl,M,h1,h2,h3⟩
    obtain⟨p,ep,ep',mp⟩:=eb ib h2
    --GSTEP
    dsimp only
    by_cases hg:g > 1
    ·rw[if_pos hg]
     refine wpS_bind (zgd S λst1 S' => ?_)
     refine wpS_bind (zap ep (wpS_bind (za9 C (S'.kind.trans hkd) mp ha (by omega) (by omega) (λi j x y hij hj ex ey=>sa.at (by omega) ex ey) λk hk hk1 hk2 => ?_)))
     have M1:Mrg key a.toList b.toList (out ++ a.extract ia (ia + k)).toList (ia + k) ib:=by
      rw[Array.toList_append,zdb]
      refine M.app_a sa k (by simp;omega) λi z hi1 hi2 ez y hy => ?_
      have e1:=hk1 (i - ia) z (by omega) (by rw[show ia + (i - ia)=i by omega];simpa using ez)
      exact KeyOrd.kle_trans (show O.kle (key z) (key p) by simpa[bey,KeyOrd.kle]using e1) (sb.head ep y hy)
     have hrest:∀y∈a.toList.drop (ia + k),O.kle (key p) (key y):=by
      intro y hy
      obtain⟨j,hj,e⟩:=List.mem_iff_getElem.mp hy
      rw[List.length_drop]at hj
      rw[List.getElem_drop]at e
      have e1:=hk2 (k + j) y (by omega) (by simp at hj;omega) (by rw[<- e];exact Array.getElem?_eq_some_iff.mpr ⟨by simp at hj;omega,by simp;congr 1;omega⟩)
      exact KeyOrd.kle_of_klt (by simpa[bey,KeyOrd.klt]using e1)
     dsimp only
     by_cases hk0:k > 0
     ·rw[if_pos hk0]
      by_cases z1:ia + k + 1=a.size
      ·rw[if_pos (by simpa using z1)]
       exact wpS_pure ⟨S',.inl ⟨_,_,rfl,hlast _ _ _ M1 z1⟩⟩
      rw[if_neg (by simpa using z1)]
      by_cases z2:ia + k=a.size
      ·rw[if_pos (by simpa using z2)]
       exact wpS_pure ⟨S',.inl ⟨_,_,rfl,hdone _ _ _ M1 (.inl (by omega))⟩⟩
      rw[if_neg (by simpa using z2)]
      refine wpS_bind (zap ep ?_)
      have M2:Mrg key a.toList b.toList ((out ++ a.extract ia (ia + k)).push p).toList (ia + k) (ib + 1):=by
       rw[Array.toList_push]
       exact M1.push_b sb ep' hrest
      by_cases z:ib + 1=b.size
      ·rw[if_pos (by simpa using z)]
       exact wpS_pure ⟨S',.inl ⟨_,_,rfl,hdone _ _ _ M2 (.inr (by omega))⟩⟩
      rw[if_neg (by simpa using z)]
      obtain⟨q,eq,eq',mq⟩:=ea (ia + k) (by omega)
      refine wpS_bind (zap eq (wpS_bind (za9 C (S'.kind.trans hkd) mq hb (by omega) (by omega) (λi j x y hij hj ex ey=>sb.at (by omega) ex ey) λk2 hk2' hj1 hj2 => ?_)))
      have M3:Mrg key a.toList b.toList ((out ++ a.extract ia (ia + k)).push p ++ b.extract (ib + 1) (ib + 1 + k2)).toList (ia + k) (ib + 1 + k2):=by
       rw[Array.toList_append,zdb]
       refine M2.app_b sb k2 (by simp;omega) λi z hi1 hi2 ez y hy => ?_
       have e1:=hj1 (i - (ib + 1)) z (by omega) (by rw[show ib + 1 + (i - (ib + 1))=i by omega];simpa using ez)
       exact KeyOrd.kle_trans (KeyOrd.kle_of_klt (show O.klt (key z) (key q) by simpa[bey,KeyOrd.klt]using e1)) (sa.head eq y hy)
      have hrest2:∀y∈b.toList.drop (ib + 1 + k2),O.kle (key q) (key y):=by
       intro y hy
       obtain⟨j,hj,e⟩:=List.mem_iff_getElem.mp hy
       rw[List.length_drop]at hj
       rw[List.getElem_drop]at e
       have e1:=hj2 (k2 + j) y (by omega) (by simp at hj;omega) (by rw[<- e];exact Array.getElem?_eq_some_iff.mpr ⟨by simp at hj;omega,by simp;congr 1;omega⟩)
       simpa[bey,KeyOrd.kle]using e1
      dsimp only
      by_cases hk20:k2 > 0
      ·rw[if_pos hk20]
       by_cases z3:ib + 1 + k2=b.size
       ·rw[if_pos (by simpa using z3)]
        exact wpS_pure ⟨S',.inl ⟨_,_,rfl,hdone _ _ _ M3 (.inr (by omega))⟩⟩
       rw[if_neg (by simpa using z3)]
       refine wpS_bind (zap eq ?_)
       have M4:Mrg key a.toList b.toList (((out ++ a.extract ia (ia + k)).push p ++ b.extract (ib + 1) (ib + 1 + k2)).push q).toList (ia + k + 1) (ib + 1 + k2):=by
        rw[Array.toList_push]
        exact M3.push_a sa eq' hrest2
       by_cases z4:ia + k + 1 + 1=a.size
       ·rw[if_pos (by simpa using z4)]
        exact wpS_pure ⟨S',.inl ⟨_,_,rfl,hlast _ _ _ M4 z4⟩⟩
       ·rw[if_neg (by simpa using z4)]
        split
        ·exact wpS_pure ⟨S',.inr ⟨_,_,_,_,_,_,rfl,M4,by omega,by omega,by omega⟩⟩
        ·exact wpS_pure ⟨S',_,_,_,_,_,_,rfl,M4,by omega,by omega,by omega⟩
      ·rw[if_neg hk20]
       have z5:k2=0:=by omega
       subst z5
       refine wpS_bind (zap eq ?_)
       have M4:Mrg key a.toList b.toList (((out ++ a.extract ia (ia + k)).push p).push q).toList (ia + k + 1) (ib + 1):=by
        rw[Array.toList_push]
        exact M2.push_a sa eq' hrest2
       by_cases z4:ia + k + 1 + 1=a.size
       ·rw[if_pos (by simpa using z4)]
        exact wpS_pure ⟨S',.inl ⟨_,_,rfl,hlast _ _ _ M4 z4⟩⟩
       ·rw[if_neg (by simpa using z4)]
        split
        ·exact wpS_pure ⟨S',.inr ⟨_,_,_,_,_,_,rfl,M4,by omega,by omega,by omega⟩⟩
        ·exact wpS_pure ⟨S',_,_,_,_,_,_,rfl,M4,by omega,by omega,by omega⟩
     ·rw[if_neg hk0]
      have z6:k=0:=by omega
      subst z6
      refine wpS_bind (zap ep ?_)
      have M2:Mrg key a.toList b.toList ((out).push p).toList (ia) (ib + 1):=by
       rw[Array.toList_push]
       exact M.push_b sb ep' hrest
      by_cases z:ib + 1=b.size
      ·rw[if_pos (by simpa using z)]
       exact wpS_pure ⟨S',.inl ⟨_,_,rfl,hdone _ _ _ M2 (.inr (by omega))⟩⟩
      rw[if_neg (by simpa using z)]
      obtain⟨q,eq,eq',mq⟩:=ea (ia) (by omega)
      refine wpS_bind (zap eq (wpS_bind (za9 C (S'.kind.trans hkd) mq hb (by omega) (by omega) (λi j x y hij hj ex ey=>sb.at (by omega) ex ey) λk2 hk2' hj1 hj2 => ?_)))
      have M3:Mrg key a.toList b.toList ((out).push p ++ b.extract (ib + 1) (ib + 1 + k2)).toList (ia) (ib + 1 + k2):=by
       rw[Array.toList_append,zdb]
       refine M2.app_b sb k2 (by simp;omega) λi z hi1 hi2 ez y hy => ?_
       have e1:=hj1 (i - (ib + 1)) z (by omega) (by rw[show ib + 1 + (i - (ib + 1))=i by omega];simpa using ez)
       exact KeyOrd.kle_trans (KeyOrd.kle_of_klt (show O.klt (key z) (key q) by simpa[bey,KeyOrd.klt]using e1)) (sa.head eq y hy)
      have hrest2:∀y∈b.toList.drop (ib + 1 + k2),O.kle (key q) (key y):=by
       intro y hy
       obtain⟨j,hj,e⟩:=List.mem_iff_getElem.mp hy
       rw[List.length_drop]at hj
       rw[List.getElem_drop]at e
       have e1:=hj2 (k2 + j) y (by omega) (by simp at hj;omega) (by rw[<- e];exact Array.getElem?_eq_some_iff.mpr ⟨by simp at hj;omega,by simp;congr 1;omega⟩)
       simpa[bey,KeyOrd.kle]using e1
      dsimp only
      by_cases hk20:k2 > 0
      ·rw[if_pos hk20]
       by_cases z3:ib + 1 + k2=b.size
       ·rw[if_pos (by simpa using z3)]
        exact wpS_pure ⟨S',.inl ⟨_,_,rfl,hdone _ _ _ M3 (.inr (by omega))⟩⟩
       rw[if_neg (by simpa using z3)]
       refine wpS_bind (zap eq ?_)
       have M4:Mrg key a.toList b.toList (((out).push p ++ b.extract (ib + 1) (ib + 1 + k2)).push q).toList (ia + 1) (ib + 1 + k2):=by
        rw[Array.toList_push]
        exact M3.push_a sa eq' hrest2
       by_cases z4:ia + 1 + 1=a.size
       ·rw[if_pos (by simpa using z4)]
        exact wpS_pure ⟨S',.inl ⟨_,_,rfl,hlast _ _ _ M4 z4⟩⟩
       ·rw[if_neg (by simpa using z4)]
        split
        ·exact wpS_pure ⟨S',.inr ⟨_,_,_,_,_,_,rfl,M4,by omega,by omega,by omega⟩⟩
        ·exact wpS_pure ⟨S',_,_,_,_,_,_,rfl,M4,by omega,by omega,by omega⟩
      ·rw[if_neg hk20]
       have z5:k2=0:=by omega
       subst z5
       refine wpS_bind (zap eq ?_)
       have M4:Mrg key a.toList b.toList (((out).push p).push q).toList (ia + 1) (ib + 1):=by
        rw[Array.toList_push]
        exact M2.push_a sa eq' hrest2
       by_cases z4:ia + 1 + 1=a.size
       ·rw[if_pos (by simpa using z4)]
        exact wpS_pure ⟨S',.inl ⟨_,_,rfl,hlast _ _ _ M4 z4⟩⟩
       ·rw[if_neg (by simpa using z4)]
        split
        ·exact wpS_pure ⟨S',.inr ⟨_,_,_,_,_,_,rfl,M4,by omega,by omega,by omega⟩⟩
        ·exact wpS_pure ⟨S',_,_,_,_,_,_,rfl,M4,by omega,by omega,by omega⟩
    ·rw[if_neg hg]
     refine wpS_bind (zgd S λst1 S' => ?_)
     refine wpS_bind (zap ep (wpS_bind (za9 C (S'.kind.trans hkd) mp ha (by omega) (by omega) (λi j x y hij hj ex ey=>sa.at (by omega) ex ey) λk hk hk1 hk2 => ?_)))
     have M1:Mrg key a.toList b.toList (out ++ a.extract ia (ia + k)).toList (ia + k) ib:=by
      rw[Array.toList_append,zdb]
      refine M.app_a sa k (by simp;omega) λi z hi1 hi2 ez y hy => ?_
      have e1:=hk1 (i - ia) z (by omega) (by rw[show ia + (i - ia)=i by omega];simpa using ez)
      exact KeyOrd.kle_trans (show O.kle (key z) (key p) by simpa[bey,KeyOrd.kle]using e1) (sb.head ep y hy)
     have hrest:∀y∈a.toList.drop (ia + k),O.kle (key p) (key y):=by
      intro y hy
      obtain⟨j,hj,e⟩:=List.mem_iff_getElem.mp hy
      rw[List.length_drop]at hj
      rw[List.getElem_drop]at e
      have e1:=hk2 (k + j) y (by omega) (by simp at hj;omega) (by rw[<- e];exact Array.getElem?_eq_some_iff.mpr ⟨by simp at hj;omega,by simp;congr 1;omega⟩)
      exact KeyOrd.kle_of_klt (by simpa[bey,KeyOrd.klt]using e1)
     dsimp only
     by_cases hk0:k > 0
     ·rw[if_pos hk0]
      by_cases z1:ia + k + 1=a.size
      ·rw[if_pos (by simpa using z1)]
       exact wpS_pure ⟨S',.inl ⟨_,_,rfl,hlast _ _ _ M1 z1⟩⟩
      rw[if_neg (by simpa using z1)]
      by_cases z2:ia + k=a.size
      ·rw[if_pos (by simpa using z2)]
       exact wpS_pure ⟨S',.inl ⟨_,_,rfl,hdone _ _ _ M1 (.inl (by omega))⟩⟩
      rw[if_neg (by simpa using z2)]
      refine wpS_bind (zap ep ?_)
      have M2:Mrg key a.toList b.toList ((out ++ a.extract ia (ia + k)).push p).toList (ia + k) (ib + 1):=by
       rw[Array.toList_push]
       exact M1.push_b sb ep' hrest
      by_cases z:ib + 1=b.size
      ·rw[if_pos (by simpa using z)]
       exact wpS_pure ⟨S',.inl ⟨_,_,rfl,hdone _ _ _ M2 (.inr (by omega))⟩⟩
      rw[if_neg (by simpa using z)]
      obtain⟨q,eq,eq',mq⟩:=ea (ia + k) (by omega)
      refine wpS_bind (zap eq (wpS_bind (za9 C (S'.kind.trans hkd) mq hb (by omega) (by omega) (λi j x y hij hj ex ey=>sb.at (by omega) ex ey) λk2 hk2' hj1 hj2 => ?_)))
      have M3:Mrg key a.toList b.toList ((out ++ a.extract ia (ia + k)).push p ++ b.extract (ib + 1) (ib + 1 + k2)).toList (ia + k) (ib + 1 + k2):=by
       rw[Array.toList_append,zdb]
       refine M2.app_b sb k2 (by simp;omega) λi z hi1 hi2 ez y hy => ?_
       have e1:=hj1 (i - (ib + 1)) z (by omega) (by rw[show ib + 1 + (i - (ib + 1))=i by omega];simpa using ez)
       exact KeyOrd.kle_trans (KeyOrd.kle_of_klt (show O.klt (key z) (key q) by simpa[bey,KeyOrd.klt]using e1)) (sa.head eq y hy)
      have hrest2:∀y∈b.toList.drop (ib + 1 + k2),O.kle (key q) (key y):=by
       intro y hy
       obtain⟨j,hj,e⟩:=List.mem_iff_getElem.mp hy
       rw[List.length_drop]at hj
       rw[List.getElem_drop]at e
       have e1:=hj2 (k2 + j) y (by omega) (by simp at hj;omega) (by rw[<- e];exact Array.getElem?_eq_some_iff.mpr ⟨by simp at hj;omega,by simp;congr 1;omega⟩)
       simpa[bey,KeyOrd.kle]using e1
      dsimp only
      by_cases hk20:k2 > 0
      ·rw[if_pos hk20]
       by_cases z3:ib + 1 + k2=b.size
       ·rw[if_pos (by simpa using z3)]
        exact wpS_pure ⟨S',.inl ⟨_,_,rfl,hdone _ _ _ M3 (.inr (by omega))⟩⟩
       rw[if_neg (by simpa using z3)]
       refine wpS_bind (zap eq ?_)
       have M4:Mrg key a.toList b.toList (((out ++ a.extract ia (ia + k)).push p ++ b.extract (ib + 1) (ib + 1 + k2)).push q).toList (ia + k + 1) (ib + 1 + k2):=by
        rw[Array.toList_push]
        exact M3.push_a sa eq' hrest2
       by_cases z4:ia + k + 1 + 1=a.size
       ·rw[if_pos (by simpa using z4)]
        exact wpS_pure ⟨S',.inl ⟨_,_,rfl,hlast _ _ _ M4 z4⟩⟩
       ·rw[if_neg (by simpa using z4)]
        split
        ·exact wpS_pure ⟨S',.inr ⟨_,_,_,_,_,_,rfl,M4,by omega,by omega,by omega⟩⟩
        ·exact wpS_pure ⟨S',_,_,_,_,_,_,rfl,M4,by omega,by omega,by omega⟩
      ·rw[if_neg hk20]
       have z5:k2=0:=by omega
       subst z5
       refine wpS_bind (zap eq ?_)
       have M4:Mrg key a.toList b.toList (((out ++ a.extract ia (ia + k)).push p).push q).toList (ia + k + 1) (ib + 1):=by
        rw[Array.toList_push]
        exact M2.push_a sa eq' hrest2
       by_cases z4:ia + k + 1 + 1=a.size
       ·rw[if_pos (by simpa using z4)]
        exact wpS_pure ⟨S',.inl ⟨_,_,rfl,hlast _ _ _ M4 z4⟩⟩
       ·rw[if_neg (by simpa using z4)]
        split
        ·exact wpS_pure ⟨S',.inr ⟨_,_,_,_,_,_,rfl,M4,by omega,by omega,by omega⟩⟩
        ·exact wpS_pure ⟨S',_,_,_,_,_,_,rfl,M4,by omega,by omega,by omega⟩
     ·rw[if_neg hk0]
      have z6:k=0:=by omega
      subst z6
      refine wpS_bind (zap ep ?_)
      have M2:Mrg key a.toList b.toList ((out).push p).toList (ia) (ib + 1):=by
       rw[Array.toList_push]
       exact M.push_b sb ep' hrest
      by_cases z:ib + 1=b.size
      ·rw[if_pos (by simpa using z)]
       exact wpS_pure ⟨S',.inl ⟨_,_,rfl,hdone _ _ _ M2 (.inr (by omega))⟩⟩
      rw[if_neg (by simpa using z)]
      obtain⟨q,eq,eq',mq⟩:=ea (ia) (by omega)
      refine wpS_bind (zap eq (wpS_bind (za9 C (S'.kind.trans hkd) mq hb (by omega) (by omega) (λi j x y hij hj ex ey=>sb.at (by omega) ex ey) λk2 hk2' hj1 hj2 => ?_)))
      have M3:Mrg key a.toList b.toList ((out).push p ++ b.extract (ib + 1) (ib + 1 + k2)).toList (ia) (ib + 1 + k2):=by
       rw[Array.toList_append,zdb]
       refine M2.app_b sb k2 (by simp;omega) λi z hi1 hi2 ez y hy => ?_
       have e1:=hj1 (i - (ib + 1)) z (by omega) (by rw[show ib + 1 + (i - (ib + 1))=i by omega];simpa using ez)
       exact KeyOrd.kle_trans (KeyOrd.kle_of_klt (show O.klt (key z) (key q) by simpa[bey,KeyOrd.klt]using e1)) (sa.head eq y hy)
      have hrest2:∀y∈b.toList.drop (ib + 1 + k2),O.kle (key q) (key y):=by
       intro y hy
       obtain⟨j,hj,e⟩:=List.mem_iff_getElem.mp hy
       rw[List.length_drop]at hj
       rw[List.getElem_drop]at e
       have e1:=hj2 (k2 + j) y (by omega) (by simp at hj;omega) (by rw[<- e];exact Array.getElem?_eq_some_iff.mpr ⟨by simp at hj;omega,by simp;congr 1;omega⟩)
       simpa[bey,KeyOrd.kle]using e1
      dsimp only
      by_cases hk20:k2 > 0
      ·rw[if_pos hk20]
       by_cases z3:ib + 1 + k2=b.size
       ·rw[if_pos (by simpa using z3)]
        exact wpS_pure ⟨S',.inl ⟨_,_,rfl,hdone _ _ _ M3 (.inr (by omega))⟩⟩
       rw[if_neg (by simpa using z3)]
       refine wpS_bind (zap eq ?_)
       have M4:Mrg key a.toList b.toList (((out).push p ++ b.extract (ib + 1) (ib + 1 + k2)).push q).toList (ia + 1) (ib + 1 + k2):=by
        rw[Array.toList_push]
        exact M3.push_a sa eq' hrest2
       by_cases z4:ia + 1 + 1=a.size
       ·rw[if_pos (by simpa using z4)]
        exact wpS_pure ⟨S',.inl ⟨_,_,rfl,hlast _ _ _ M4 z4⟩⟩
       ·rw[if_neg (by simpa using z4)]
        split
        ·exact wpS_pure ⟨S',.inr ⟨_,_,_,_,_,_,rfl,M4,by omega,by omega,by omega⟩⟩
        ·exact wpS_pure ⟨S',_,_,_,_,_,_,rfl,M4,by omega,by omega,by omega⟩
      ·rw[if_neg hk20]
       have z5:k2=0:=by omega
       subst z5
       refine wpS_bind (zap eq ?_)
       have M4:Mrg key a.toList b.toList (((out).push p).push q).toList (ia + 1) (ib + 1):=by
        rw[Array.toList_push]
        exact M2.push_a sa eq' hrest2
       by_cases z4:ia + 1 + 1=a.size
       ·rw[if_pos (by simpa using z4)]
        exact wpS_pure ⟨S',.inl ⟨_,_,rfl,hlast _ _ _ M4 z4⟩⟩
       ·rw[if_neg (by simpa using z4)]
        split
        ·exact wpS_pure ⟨S',.inr ⟨_,_,_,_,_,_,rfl,M4,by omega,by omega,by omega⟩⟩
        ·exact wpS_pure ⟨S',_,_,_,_,_,_,rfl,M4,by omega,by omega,by omega⟩
end
end TS
namespace TS
open PySem PyProof.Rows
local macro_rules | `(tactic| walk_at "sort mergeHi") => do `(tactic| delta $(Lean.mkIdent (Lean.mkPrivateNameCore `PySem.Builtin.List.W1All `PySem.Builtin.mergeHi)):ident)
section
variable{O:KeyOrd}(key:Keyed->O.α)
structure MrgH(la lb o:List Keyed)(na nb:Nat):Prop where
 perm:(la.take na ++ lb.take nb ++ o.reverse).Perm (la ++ lb)
 srt:Srt key o.reverse
 lea:∀x∈la.take na,∀y∈o,O.kle (key x) (key y)
 leb:∀x∈lb.take nb,∀y∈o,O.kle (key x) (key y)
variable{key}{la lb o:List Keyed}{na nb:Nat}{x:Keyed}
theorem zfb(h:0 < na)(e:la[na - 1]? = some x):la.take na=la.take (na - 1) ++ [x]:=by
 obtain⟨hl,rfl⟩:=List.getElem?_eq_some_iff.mp e
 have:=List.take_succ_eq_append_getElem (l:=la) (i:=na - 1) hl
 rwa [show na - 1 + 1=na by omega]at this
theorem Srt.take(h:Srt key la)(n:Nat):Srt key (la.take n):=List.Pairwise.sublist (List.take_sublist _ _) h
theorem MrgH.start(hna:la.length<=na)(hnb:lb.length<=nb):MrgH key la lb [] na nb:=⟨by simp[List.take_of_length_le hna,List.take_of_length_le hnb],List.Pairwise.nil,by simp,by simp⟩
theorem MrgH.push_a(sa:Srt key la)(M:MrgH key la lb o na nb)(h0:0 < na)(e:la[na - 1]? = some x)(h:∀y∈lb.take nb,O.kle (key y) (key x)):MrgH key la lb (o ++ [x]) (na - 1) nb:=by
 have d:=zfb h0 e
 have s2:=sa.take na
 rw[d]at s2
 have s3:=(List.pairwise_append.mp s2).2.2
 refine⟨?_,?_,λy hy z hz => ?_,λy hy z hz => ?_⟩
 ·have p:=M.perm
  rw[d]at p
  refine List.Perm.trans ?_ p
  simp only[List.reverse_append,List.reverse_singleton,List.append_assoc,List.singleton_append]
  refine List.Perm.append_left _ ?_
  exact List.perm_middle
 ·rw[List.reverse_append,List.reverse_singleton,List.singleton_append]
  exact List.pairwise_cons.mpr ⟨λy hy=>M.lea x (by rw[d];simp) y (by simpa using hy),M.srt⟩
 ·rcases List.mem_append.mp hz with hz | hz
  ·exact M.lea y (by rw[d];exact List.mem_append_left _ hy) z hz
  ·rw[List.mem_singleton.mp hz];exact s3 y hy x (by simp)
 ·rcases List.mem_append.mp hz with hz | hz
  ·exact M.leb y hy z hz
  ·rw[List.mem_singleton.mp hz];exact h y hy
theorem MrgH.push_b(sb:Srt key lb)(M:MrgH key la lb o na nb)(h0:0 < nb)(e:lb[nb - 1]? = some x)(h:∀y∈la.take na,O.kle (key y) (key x)):MrgH key la lb (o ++ [x]) na (nb - 1):=by
 have d:=zfb h0 e
 have s2:=sb.take nb
 rw[d]at s2
 have s3:=(List.pairwise_append.mp s2).2.2
 refine⟨?_,?_,λy hy z hz => ?_,λy hy z hz => ?_⟩
 ·have p:=M.perm
  rw[d]at p
  refine List.Perm.trans ?_ p
  simp only[List.reverse_append,List.reverse_singleton,List.append_assoc,List.singleton_append]
  exact List.Perm.refl _
 ·rw[List.reverse_append,List.reverse_singleton,List.singleton_append]
  exact List.pairwise_cons.mpr ⟨λy hy=>M.leb x (by rw[d];simp) y (by simpa using hy),M.srt⟩
 ·rcases List.mem_append.mp hz with hz | hz
  ·exact M.lea y hy z hz
  ·rw[List.mem_singleton.mp hz];exact h y hy
 ·rcases List.mem_append.mp hz with hz | hz
  ·exact M.leb y (by rw[d];exact List.mem_append_left _ hy) z hz
  ·rw[List.mem_singleton.mp hz];exact s3 y hy x (by simp)
theorem MrgH.app_a(sa:Srt key la)(at_:Nat):∀(k:Nat) {o:List Keyed} {na:Nat},MrgH key la lb o na nb->na=at_ + k->na<=la.length->(∀i x,at_<=i->i < na->la[i]? = some x->∀y∈lb.take nb,O.kle (key y) (key x)) ->
  MrgH key la lb (o ++ ((la.take na).drop at_).reverse) at_ nb
 | 0,o,na,M,e,_,_=>by
  have:na=at_:=by omega
  subst this
  rw[List.drop_eq_nil_of_le (by simp;omega)]
  simpa using M
 | k + 1,o,na,M,e,hl,h=>by
  have ex:la[na - 1]? = some la[na - 1]:=List.getElem?_eq_getElem (by omega)
  have M1:=M.push_a sa (by omega) ex (h (na - 1) _ (by omega) (by omega) ex)
  have M2:=MrgH.app_a sa at_ k M1 (by omega) (by omega) λi x h1 h2 e'=>h i x h1 (by omega) e'
  rw[zfb (by omega) ex,List.drop_append_of_le_length (by simp;omega),List.reverse_append]
  simpa using M2
theorem MrgH.app_b(sb:Srt key lb)(at_:Nat):∀(k:Nat) {o:List Keyed} {nb:Nat},MrgH key la lb o na nb->nb=at_ + k->nb<=lb.length->(∀i x,at_<=i->i < nb->lb[i]? = some x->∀y∈la.take na,O.kle (key y) (key x)) ->
  MrgH key la lb (o ++ ((lb.take nb).drop at_).reverse) na at_
 | 0,o,nb,M,e,_,_=>by
  have:nb=at_:=by omega
  subst this
  rw[List.drop_eq_nil_of_le (by simp;omega)]
  simpa using M
 | k + 1,o,nb,M,e,hl,h=>by
  have ex:lb[nb - 1]? = some lb[nb - 1]:=List.getElem?_eq_getElem (by omega)
  have M1:=M.push_b sb (by omega) ex (h (nb - 1) _ (by omega) (by omega) ex)
  have M2:=MrgH.app_b sb at_ k M1 (by omega) (by omega) λi x h1 h2 e'=>h i x h1 (by omega) e'
  rw[zfb (by omega) ex,List.drop_append_of_le_length (by simp;omega),List.reverse_append]
  simpa using M2
theorem MrgH.done(sa:Srt key la)(sb:Srt key lb)(M:MrgH key la lb o na nb)(h:na=0\/nb=0):Res key la lb (la.take na ++ lb.take nb ++ o.reverse):=by
 refine⟨M.perm,?_⟩
 rcases h with rfl | rfl
 ·rw[List.take_zero,List.nil_append]
  exact List.pairwise_append.mpr ⟨sb.take _,M.srt,λx hx y hy=>M.leb x hx y (by simpa using hy)⟩
 ·rw[List.take_zero,List.append_nil]
  exact List.pairwise_append.mpr ⟨sa.take _,M.srt,λx hx y hy=>M.lea x hx y (by simpa using hy)⟩
theorem MrgH.first(sa:Srt key la)(sb:Srt key lb)(M:MrgH key la lb o na nb)(h:∀x∈lb.take nb,∀y∈la,O.kle (key x) (key y)):Res key la lb (lb.take nb ++ la.take na ++ o.reverse):=by
 refine⟨?_,?_⟩
 ·exact List.Perm.trans (List.Perm.append_right _ List.perm_append_comm) M.perm
 ·refine List.pairwise_append.mpr ⟨List.pairwise_append.mpr ⟨sb.take _,sa.take _,λx hx y hy=>h x hx y (List.mem_of_mem_take hy)⟩,M.srt,λx hx y hy => ?_⟩
  rcases List.mem_append.mp hx with hx | hx
  ·exact M.leb x hx y (by simpa using hy)
  ·exact M.lea x hx y (by simpa using hy)
theorem Srt.foot{a:Array Keyed}(h:Srt key a.toList){i:Nat}{x:Keyed}(hi:0 < i)(ex:a[i - 1]? = some x):∀y∈a.toList.take i,O.kle (key y) (key x):=by
 intro y hy
 obtain⟨j,hj,e⟩:=List.mem_iff_getElem.mp hy
 rw[List.getElem_take]at e
 rw[List.length_take]at hj
 refine h.at (i:=j) (j:=i - 1) (by omega) ?_ ex
 rw[<- e]
 exact Array.getElem?_eq_some_iff.mpr ⟨by simp at hj;omega,by simp⟩
theorem ziv(a:Array Keyed)(i:Nat):(a.extract 0 i).toList=a.toList.take i:=by simp[List.extract_eq_drop_take]
theorem zdx(a:Array Keyed)(i j:Nat):(a.extract i j).toList=(a.toList.take j).drop i:=by simp[List.extract_eq_drop_take,List.drop_take]
end
section
variable{prog:Program}{w:World}{A:Around}{E:Value->Shared->Prop}{s:Shared}{kd:SortKind}{a₀:Array Keyed}{O:KeyOrd}{key:Keyed->O.α}
theorem zj1(C:Cmp prog w A s kd a₀ O key){a b:Array Keyed}{st:SortSt}{Q:Array Keyed->SortSt->Prop}(hkd:kindOf st=kd)(ha:∀x∈a.toList,x∈a₀.toList)(hb:∀x∈b.toList,x∈a₀.toList)(sa:Srt key a.toList)(sb:Srt key b.toList)
  (za:0 < a.size) (zb:0 < b.size) (h0:∀y∈a.toList,O.kle (key b[0]) (key y)) (hl:∀x∈b.toList,O.kle (key x) (key a[a.size - 1]))
  (h:∀r st',Res key a.toList b.toList r.toList->Same st st'->Q r st') :
  wpS (model prog w) A E s ((sortPriv% PySem.Builtin.mergeHi) a b) Q st:=by
 have ea:∀i,i < a.size->∃x,a[i]? = some x/\a.toList[i]? = some x/\x∈a₀.toList:=λi hi=>⟨a[i],getElem?_pos ..,by simp[hi],ha _ (by simp)⟩
 have eb:∀i,i < b.size->∃x,b[i]? = some x/\b.toList[i]? = some x/\x∈a₀.toList:=λi hi=>⟨b[i],getElem?_pos ..,by simp[hi],hb _ (by simp)⟩
 have firstB:∀x∈b.toList.take 1,∀y∈a.toList,O.kle (key x) (key y):=by
  intro x hx y hy
  obtain⟨z,e1,e2,_⟩:=eb 0 zb
  rw[zfb (na:=1) (by omega) e2]at hx
  have ez:b[0]=z:=by rw[getElem?_pos b 0 zb]at e1;injection e1
  have hxz:x=z:=by simpa using hx
  rw[hxz,<- ez];exact h0 y hy
 walk_at "sort mergeHi"
 extract_lets total done firstOfB n1 n2 n3
 have hdone:∀out na nb,MrgH key a.toList b.toList out.toList na nb->(na=0\/nb=0)->Res key a.toList b.toList (done out na nb).toList:=by
  intro out na nb M hz
  have:=M.done sa sb hz
  show Res key _ _ (a.extract 0 na ++ b.extract 0 nb ++ out.reverse).toList
  rw[Array.toList_append,Array.toList_append,ziv,ziv,Array.toList_reverse]
  exact this
 have hfirst:∀out na nb,MrgH key a.toList b.toList out.toList na nb->nb=1->Res key a.toList b.toList (firstOfB out na nb).toList:=by
  intro out na nb M hz
  have:=M.first sa sb (by rw[hz];exact firstB)
  show Res key _ _ (b.extract 0 nb ++ a.extract 0 na ++ out.reverse).toList
  rw[Array.toList_append,Array.toList_append,ziv,ziv,Array.toList_reverse]
  exact this
 have htot:total=a.size + b.size:=rfl
 clear_value total done firstOfB
 refine wpS_bind (wpS_lift (wpAny_rule ⟨rfl,?_⟩))
 obtain⟨p0,e0,e0',m0⟩:=ea (a.size - 1) (by omega)
 have hp0:a[a.size - 1]=p0:=by rw[getElem?_pos a (a.size - 1) (by omega)]at e0;injection e0
 refine wpS_bind (zap (show a[n1]? = some p0 from e0) ?_)
 have M0:MrgH key a.toList b.toList (#[p0]:Array Keyed).toList (a.size - 1) b.size:=(MrgH.start (by simp) (by simp)).push_a sa za e0' λy hy=>by rw[<- hp0];exact hl y (List.mem_of_mem_take hy)
 have S0:Same st st:=⟨rfl,rfl,rfl,rfl⟩
 by_cases z1:a.size - 1=0
 ·rw[if_pos (by show ((a.size - 1:Nat) == 0)=true;rw[z1];rfl)]
  exact wpS_pure (h _ _ (hdone _ _ _ M0 (.inl z1)) S0)
 rw[if_neg (by show ¬((a.size - 1:Nat) == 0)=true;simpa using z1)]
 by_cases z2:b.size=1
 ·rw[if_pos (by show ((b.size:Nat) == 1)=true;rw[z2];rfl)]
  exact wpS_pure (h _ _ (hfirst _ _ _ M0 z2) S0)
 rw[if_neg (by show ¬((b.size:Nat) == 1)=true;simpa using z2)]
 refine wpS_bind (wpS_get ?_)
 dsimp only
 refine wpS_bind (wpS_mono (wpS_forRange (I:=λx c st'=>Same st st'/\∃na nb out g,c=(none,na,nb,out,g)/\MrgH key a.toList b.toList out.toList na nb/\0 < na/\na<=a.size/\1 < nb/\nb<=b.size/\na + nb + x + 1<=a.size + b.size)
  (Q:=λc st'=>Same st st'/\(∃r t,c=(some r,t)/\Res key a.toList b.toList r.toList)) ?step ?fin ⟨S0,_,_,_,_,rfl,M0,by omega,by omega,by omega,by omega,by omega⟩) ?post)
 case fin=>
  rintro c st' ⟨S,na,nb,out,g,rfl,M,h1,h1',h2,h2',h3⟩
  exfalso
  omega
 case post=>
  rintro c st' ⟨S,r,t,rfl,hr⟩
  exact wpS_pure (h r st' hr S)
 case step=>
  rintro x c st' _ hx ⟨S,na,nb,out,g,rfl,M,h1,h1',h2,h2',h3⟩
  dsimp only
  refine wpS_bind (wpS_mono (wpS_forRange (I:=λy c st'=>Same st st'/\∃na nb out ac bc,c=(none,na,nb,out,ac,bc)/\MrgH key a.toList b.toList out.toList na nb/\0 < na/\na<=a.size/\1 < nb/\nb<=b.size/\na + nb + x + 1 + y<=a.size + b.size)
   (Q:=λc st'=>Same st st'/\((∃r t,c=(some r,t)/\Res key a.toList b.toList r.toList)\/∃na nb out ac bc,c=(none,na,nb,out,ac,bc)/\MrgH key a.toList b.toList out.toList na nb/\0 < na/\na<=a.size/\1 < nb/\nb<=b.size/\na + nb + x + 2<=a.size + b.size)) ?istep ?ifin
   ⟨S,na,nb,out,_,_,rfl,M,h1,h1',h2,h2',by omega⟩) ?ipost)
  case ifin=>
   rintro c st' ⟨S,na,nb,out,ac,bc,rfl,M,h1,h1',h2,h2',h3⟩
   exact⟨S,.inr ⟨na,nb,out,ac,bc,rfl,M,h1,h1',h2,h2',by omega⟩⟩
  case istep=>
   rintro y c st' _ hy ⟨S,na,nb,out,ac,bc,rfl,M,h1,h1',h2,h2',h3⟩
   dsimp only
   obtain⟨p,ep,ep',mp⟩:=eb (nb - 1) (by omega)
   obtain⟨q,eq,eq',mq⟩:=ea (na - 1) (by omega)
   refine wpS_bind (zap ep (wpS_bind (zap eq (wpS_bind (zks C (S.kind.trans hkd) mp mq ?_)))))
   dsimp only
   cases hlt:O.blt (key p) (key q) with
   | true=>
    simp only[if_true]
    refine wpS_bind (zap eq ?_)
    have M1:MrgH key a.toList b.toList (out.push q).toList (na - 1) nb:=by
     rw[Array.toList_push]
     exact M.push_a sa h1 eq' λy hy=>KeyOrd.kle_trans (sb.foot (by omega) ep y hy) (KeyOrd.kle_of_klt hlt)
    by_cases z:na - 1=0
    ·rw[if_pos (by simpa using z)]
     exact wpS_pure ⟨S,.inl ⟨_,_,rfl,hdone _ _ _ M1 (.inl z)⟩⟩
    ·rw[if_neg (by simpa using z)]
     split
     ·exact wpS_pure ⟨S,.inr ⟨_,_,_,_,_,rfl,M1,by omega,by omega,h2,h2',by omega⟩⟩
     ·exact wpS_pure ⟨S,_,_,_,_,_,rfl,M1,by omega,by omega,h2,h2',by omega⟩
   | false=>
    simp only[Bool.false_eq_true,if_false]
    refine wpS_bind (zap ep ?_)
    have M1:MrgH key a.toList b.toList (out.push p).toList na (nb - 1):=by
     rw[Array.toList_push]
     exact M.push_b sb (by omega) ep' λy hy=>KeyOrd.kle_trans (sa.foot h1 eq y hy) (show O.kle (key q) (key p) from hlt)
    by_cases z:nb - 1=1
    ·rw[if_pos (by simpa using z)]
     exact wpS_pure ⟨S,.inl ⟨_,_,rfl,hfirst _ _ _ M1 z⟩⟩
    ·rw[if_neg (by simpa using z)]
     split
     ·exact wpS_pure ⟨S,.inr ⟨_,_,_,_,_,rfl,M1,h1,h1',by omega,by omega,by omega⟩⟩
     ·exact wpS_pure ⟨S,_,_,_,_,_,rfl,M1,h1,h1',by omega,by omega,by omega⟩
  case ipost=>
   rintro c st' ⟨S,⟨r,t,rfl,hr⟩ | ⟨na,nb,out,ac,bc,rfl,M,h1,h1',h2,h2',h3⟩⟩
   ·dsimp only
    exact wpS_pure ⟨S,r,_,rfl,hr⟩
   dsimp only
   refine wpS_bind (wpS_lift (wpAny_rule ⟨rfl,?_⟩))
   refine wpS_bind (wpS_mono (wpS_forRange (I:=λy c st'=>Same st st'/\∃na nb out g ac bc,c=(none,na,nb,out,g,ac,bc)/\MrgH key a.toList b.toList out.toList na nb/\0 < na/\na<=a.size/\1 < nb/\nb<=b.size/\na + nb + x + 2<=a.size + b.size)
    (Q:=λc st'=>Same st st'/\((∃r t,c=(some r,t)/\Res key a.toList b.toList r.toList)\/∃na nb out g ac bc,c=(none,na,nb,out,g,ac,bc)/\MrgH key a.toList b.toList out.toList na nb/\0 < na/\na<=a.size/\1 < nb/\nb<=b.size/\na + nb + x + 2<=a.size + b.size)) ?gstep ?gfin
    ⟨S,na,nb,out,_,_,_,rfl,M,h1,h1',h2,h2',h3⟩) ?gpost)
   case gfin=>
    rintro c st' ⟨S,na,nb,out,g,ac,bc,rfl,M,h1,h1',h2,h2',h3⟩
    exact⟨S,.inr ⟨na,nb,out,g,ac,bc,rfl,M,h1,h1',h2,h2',h3⟩⟩
   case gpost=>
    rintro c st' ⟨S,⟨r,t,rfl,hr⟩ | ⟨na,nb,out,g,ac,bc,rfl,M,h1,h1',h2,h2',h3⟩⟩
    ·dsimp only
     exact wpS_pure ⟨S,r,_,rfl,hr⟩
    ·dsimp only
     refine wpS_bind (zh9 (wpS_pure ⟨⟨S.kind,S.arr,S.pend,S.fail⟩,na,nb,out,_,rfl,M,h1,h1',h2,h2',by omega⟩))
   case gstep=>
    rintro y c st' _ hy ⟨S,na,nb,out,g,ac,bc,rfl,M,h1,h1',h2,h2',h3⟩
    obtain⟨p,ep,ep',mp⟩:=eb (nb - 1) (by omega)
    dsimp only
    by_cases hg:g > 1
    ·rw[if_pos hg]
     refine wpS_bind (zgd S λst1 S' => ?_)
     refine wpS_bind (zap ep (wpS_bind (za9 C (S'.kind.trans hkd) mp ha (by omega) (by omega) (λi j x y hij hj ex ey=>sa.at (by omega) ex ey) λat1 hk hk1 hk2 => ?_)))
     simp only[Nat.zero_add]at hk1 hk2
     have M1:MrgH key a.toList b.toList (out ++ (a.extract at1 na).reverse).toList at1 nb:=by
      rw[Array.toList_append,Array.toList_reverse,zdx]
      refine M.app_a sa at1 (na - at1) (by omega) (by simp;omega) λi z hi1 hi2 ez y hy => ?_
      have e1:=hk2 i z hi1 hi2 (by simpa using ez)
      exact KeyOrd.kle_trans (sb.foot (by omega) ep y hy) (KeyOrd.kle_of_klt (show O.klt (key p) (key z) by simpa[bey,KeyOrd.klt]using e1))
     have hrest:∀y∈a.toList.take at1,O.kle (key y) (key p):=by
      intro y hy
      obtain⟨j,hj,e⟩:=List.mem_iff_getElem.mp hy
      rw[List.length_take]at hj
      rw[List.getElem_take]at e
      have e1:=hk1 j y (by omega) (by rw[<- e];exact Array.getElem?_eq_some_iff.mpr ⟨by simp at hj;omega,by simp⟩)
      simpa[bey,KeyOrd.kle]using e1
     dsimp only
     by_cases hk0:na - at1 > 0
     ·rw[if_pos hk0]
      by_cases z1:at1=0
      ·rw[if_pos (by simpa using z1)]
       exact wpS_pure ⟨S',.inl ⟨_,_,rfl,hdone _ _ _ M1 (.inl z1)⟩⟩
      rw[if_neg (by simpa using z1)]
      refine wpS_bind (zap ep ?_)
      have M2:MrgH key a.toList b.toList ((out ++ (a.extract at1 na).reverse).push p).toList (at1) (nb - 1):=by
       rw[Array.toList_push]
       exact M1.push_b sb (by omega) ep' hrest
      by_cases z:nb - 1=1
      ·rw[if_pos (by simpa using z)]
       exact wpS_pure ⟨S',.inl ⟨_,_,rfl,hfirst _ _ _ M2 z⟩⟩
      rw[if_neg (by simpa using z)]
      obtain⟨q,eq,eq',mq⟩:=ea (at1 - 1) (by omega)
      refine wpS_bind (zap eq (wpS_bind (za9 C (S'.kind.trans hkd) mq hb (by omega) (by omega) (λi j x y hij hj ex ey=>sb.at (by omega) ex ey) λat2 hk2' hj1 hj2 => ?_)))
      simp only[Nat.zero_add]at hj1 hj2
      have M3:MrgH key a.toList b.toList ((out ++ (a.extract at1 na).reverse).push p ++ (b.extract at2 (nb - 1)).reverse).toList (at1) at2:=by
       rw[Array.toList_append,Array.toList_reverse,zdx]
       refine M2.app_b sb at2 (nb - 1 - at2) (by omega) (by simp;omega) λi z hi1 hi2 ez y hy => ?_
       have e1:=hj2 i z hi1 hi2 (by simpa using ez)
       exact KeyOrd.kle_trans (sa.foot (by omega) eq y hy) (show O.kle (key q) (key z) by simpa[bey,KeyOrd.kle]using e1)
      have hrest2:∀y∈b.toList.take at2,O.kle (key y) (key q):=by
       intro y hy
       obtain⟨j,hj,e⟩:=List.mem_iff_getElem.mp hy
       rw[List.length_take]at hj
       rw[List.getElem_take]at e
       have e1:=hj1 j y (by omega) (by rw[<- e];exact Array.getElem?_eq_some_iff.mpr ⟨by simp at hj;omega,by simp⟩)
       exact KeyOrd.kle_of_klt (by simpa[bey,KeyOrd.klt]using e1)
      dsimp only
      by_cases hk20:nb - 1 - at2 > 0
      ·rw[if_pos hk20]
       by_cases z3:at2=1
       ·rw[if_pos (by simpa using z3)]
        exact wpS_pure ⟨S',.inl ⟨_,_,rfl,hfirst _ _ _ M3 z3⟩⟩
       rw[if_neg (by simpa using z3)]
       by_cases z5:at2=0
       ·rw[if_pos (by simpa using z5)]
        exact wpS_pure ⟨S',.inl ⟨_,_,rfl,hdone _ _ _ M3 (.inr z5)⟩⟩
       rw[if_neg (by simpa using z5)]
       refine wpS_bind (zap eq ?_)
       have M4:MrgH key a.toList b.toList (((out ++ (a.extract at1 na).reverse).push p ++ (b.extract at2 (nb - 1)).reverse).push q).toList (at1 - 1) (at2):=by
        rw[Array.toList_push]
        exact M3.push_a sa (by omega) eq' hrest2
       by_cases z4:at1 - 1=0
       ·rw[if_pos (by simpa using z4)]
        exact wpS_pure ⟨S',.inl ⟨_,_,rfl,hdone _ _ _ M4 (.inl z4)⟩⟩
       ·rw[if_neg (by simpa using z4)]
        split
        ·exact wpS_pure ⟨S',.inr ⟨_,_,_,_,_,_,rfl,M4,by omega,by omega,by omega,by omega,by omega⟩⟩
        ·exact wpS_pure ⟨S',_,_,_,_,_,_,rfl,M4,by omega,by omega,by omega,by omega,by omega⟩
      ·rw[if_neg hk20]
       have z5:at2=nb - 1:=by omega
       subst z5
       refine wpS_bind (zap eq ?_)
       have M4:MrgH key a.toList b.toList (((out ++ (a.extract at1 na).reverse).push p).push q).toList (at1 - 1) (nb - 1):=by
        rw[Array.toList_push]
        exact M2.push_a sa (by omega) eq' hrest2
       by_cases z4:at1 - 1=0
       ·rw[if_pos (by simpa using z4)]
        exact wpS_pure ⟨S',.inl ⟨_,_,rfl,hdone _ _ _ M4 (.inl z4)⟩⟩
       ·rw[if_neg (by simpa using z4)]
        split
        ·exact wpS_pure ⟨S',.inr ⟨_,_,_,_,_,_,rfl,M4,by omega,by omega,by omega,by omega,by omega⟩⟩
        ·exact wpS_pure ⟨S',_,_,_,_,_,_,rfl,M4,by omega,by omega,by omega,by omega,by omega⟩
     ·rw[if_neg hk0]
      have z6:at1=na:=by omega
      subst z6
      refine wpS_bind (zap ep ?_)
      have M2:MrgH key a.toList b.toList ((out).push p).toList (at1) (nb - 1):=by
       rw[Array.toList_push]
       exact M.push_b sb (by omega) ep' hrest
      by_cases z:nb - 1=1
      ·rw[if_pos (by simpa using z)]
       exact wpS_pure ⟨S',.inl ⟨_,_,rfl,hfirst _ _ _ M2 z⟩⟩
      rw[if_neg (by simpa using z)]
      obtain⟨q,eq,eq',mq⟩:=ea (at1 - 1) (by omega)
      refine wpS_bind (zap eq (wpS_bind (za9 C (S'.kind.trans hkd) mq hb (by omega) (by omega) (λi j x y hij hj ex ey=>sb.at (by omega) ex ey) λat2 hk2' hj1 hj2 => ?_)))
      simp only[Nat.zero_add]at hj1 hj2
      have M3:MrgH key a.toList b.toList ((out).push p ++ (b.extract at2 (nb - 1)).reverse).toList (at1) at2:=by
       rw[Array.toList_append,Array.toList_reverse,zdx]
       refine M2.app_b sb at2 (nb - 1 - at2) (by omega) (by simp;omega) λi z hi1 hi2 ez y hy => ?_
       have e1:=hj2 i z hi1 hi2 (by simpa using ez)
       exact KeyOrd.kle_trans (sa.foot (by omega) eq y hy) (show O.kle (key q) (key z) by simpa[bey,KeyOrd.kle]using e1)
      have hrest2:∀y∈b.toList.take at2,O.kle (key y) (key q):=by
       intro y hy
       obtain⟨j,hj,e⟩:=List.mem_iff_getElem.mp hy
       rw[List.length_take]at hj
       rw[List.getElem_take]at e
       have e1:=hj1 j y (by omega) (by rw[<- e];exact Array.getElem?_eq_some_iff.mpr ⟨by simp at hj;omega,by simp⟩)
       exact KeyOrd.kle_of_klt (by simpa[bey,KeyOrd.klt]using e1)
      dsimp only
      by_cases hk20:nb - 1 - at2 > 0
      ·rw[if_pos hk20]
       by_cases z3:at2=1
       ·rw[if_pos (by simpa using z3)]
        exact wpS_pure ⟨S',.inl ⟨_,_,rfl,hfirst _ _ _ M3 z3⟩⟩
       rw[if_neg (by simpa using z3)]
       by_cases z5:at2=0
       ·rw[if_pos (by simpa using z5)]
        exact wpS_pure ⟨S',.inl ⟨_,_,rfl,hdone _ _ _ M3 (.inr z5)⟩⟩
       rw[if_neg (by simpa using z5)]
       refine wpS_bind (zap eq ?_)
       have M4:MrgH key a.toList b.toList (((out).push p ++ (b.extract at2 (nb - 1)).reverse).push q).toList (at1 - 1) (at2):=by
        rw[Array.toList_push]
        exact M3.push_a sa (by omega) eq' hrest2
       by_cases z4:at1 - 1=0
       ·rw[if_pos (by simpa using z4)]
        exact wpS_pure ⟨S',.inl ⟨_,_,rfl,hdone _ _ _ M4 (.inl z4)⟩⟩
       ·rw[if_neg (by simpa using z4)]
        split
        ·exact wpS_pure ⟨S',.inr ⟨_,_,_,_,_,_,rfl,M4,by omega,by omega,by omega,by omega,by omega⟩⟩
        ·exact wpS_pure ⟨S',_,_,_,_,_,_,rfl,M4,by omega,by omega,by omega,by omega,by omega⟩
      ·rw[if_neg hk20]
       have z5:at2=nb - 1:=by omega
       subst z5
       refine wpS_bind (zap eq ?_)
       have M4:MrgH key a.toList b.toList (((out).push p).push q).toList (at1 - 1) (nb - 1):=by
        rw[Array.toList_push]
        exact M2.push_a sa (by omega) eq' hrest2
       by_cases z4:at1 - 1=0
       ·rw[if_pos (by simpa using z4)]
        exact wpS_pure ⟨S',.inl ⟨_,_,rfl,hdone _ _ _ M4 (.inl z4)⟩⟩
       ·rw[if_neg (by simpa using z4)]
        split
        ·exact wpS_pure ⟨S',.inr ⟨_,_,_,_,_,_,rfl,M4,by omega,by omega,by omega,by omega,by omega⟩⟩
        ·exact wpS_pure ⟨S',_,_,_,_,_,_,rfl,M4,by omega,by omega,by omega,by omega,by omega⟩
    ·rw[if_neg hg]
     refine wpS_bind (zgd S λst1 S' => ?_)
     refine wpS_bind (zap ep (wpS_bind (za9 C (S'.kind.trans hkd) mp ha (by omega) (by omega) (λi j x y hij hj ex ey=>sa.at (by omega) ex ey) λat1 hk hk1 hk2 => ?_)))
     simp only[Nat.zero_add]at hk1 hk2
     have M1:MrgH key a.toList b.toList (out ++ (a.extract at1 na).reverse).toList at1 nb:=by
      rw[Array.toList_append,Array.toList_reverse,zdx]
      refine M.app_a sa at1 (na - at1) (by omega) (by simp;omega) λi z hi1 hi2 ez y hy => ?_
      have e1:=hk2 i z hi1 hi2 (by simpa using ez)
      exact KeyOrd.kle_trans (sb.foot (by omega) ep y hy) (KeyOrd.kle_of_klt (show O.klt (key p) (key z) by simpa[bey,KeyOrd.klt]using e1))
     have hrest:∀y∈a.toList.take at1,O.kle (key y) (key p):=by
      intro y hy
      obtain⟨j,hj,e⟩:=List.mem_iff_getElem.mp hy
      rw[List.length_take]at hj
      rw[List.getElem_take]at e
      have e1:=hk1 j y (by omega) (by rw[<- e];exact Array.getElem?_eq_some_iff.mpr ⟨by simp at hj;omega,by simp⟩)
      simpa[bey,KeyOrd.kle]using e1
     dsimp only
     by_cases hk0:na - at1 > 0
     ·rw[if_pos hk0]
      by_cases z1:at1=0
      ·rw[if_pos (by simpa using z1)]
       exact wpS_pure ⟨S',.inl ⟨_,_,rfl,hdone _ _ _ M1 (.inl z1)⟩⟩
      rw[if_neg (by simpa using z1)]
      refine wpS_bind (zap ep ?_)
      have M2:MrgH key a.toList b.toList ((out ++ (a.extract at1 na).reverse).push p).toList (at1) (nb - 1):=by
       rw[Array.toList_push]
       exact M1.push_b sb (by omega) ep' hrest
      by_cases z:nb - 1=1
      ·rw[if_pos (by simpa using z)]
       exact wpS_pure ⟨S',.inl ⟨_,_,rfl,hfirst _ _ _ M2 z⟩⟩
      rw[if_neg (by simpa using z)]
      obtain⟨q,eq,eq',mq⟩:=ea (at1 - 1) (by omega)
      refine wpS_bind (zap eq (wpS_bind (za9 C (S'.kind.trans hkd) mq hb (by omega) (by omega) (λi j x y hij hj ex ey=>sb.at (by omega) ex ey) λat2 hk2' hj1 hj2 => ?_)))
      simp only[Nat.zero_add]at hj1 hj2
      have M3:MrgH key a.toList b.toList ((out ++ (a.extract at1 na).reverse).push p ++ (b.extract at2 (nb - 1)).reverse).toList (at1) at2:=by
       rw[Array.toList_append,Array.toList_reverse,zdx]
       refine M2.app_b sb at2 (nb - 1 - at2) (by omega) (by simp;omega) λi z hi1 hi2 ez y hy => ?_
       have e1:=hj2 i z hi1 hi2 (by simpa using ez)
       exact KeyOrd.kle_trans (sa.foot (by omega) eq y hy) (show O.kle (key q) (key z) by simpa[bey,KeyOrd.kle]using e1)
      have hrest2:∀y∈b.toList.take at2,O.kle (key y) (key q):=by
       intro y hy
       obtain⟨j,hj,e⟩:=List.mem_iff_getElem.mp hy
       rw[List.length_take]at hj
       rw[List.getElem_take]at e
       have e1:=hj1 j y (by omega) (by rw[<- e];exact Array.getElem?_eq_some_iff.mpr ⟨by simp at hj;omega,by simp⟩)
       exact KeyOrd.kle_of_klt (by simpa[bey,KeyOrd.klt]using e1)
      dsimp only
      by_cases hk20:nb - 1 - at2 > 0
      ·rw[if_pos hk20]
       by_cases z3:at2=1
       ·rw[if_pos (by simpa using z3)]
        exact wpS_pure ⟨S',.inl ⟨_,_,rfl,hfirst _ _ _ M3 z3⟩⟩
       rw[if_neg (by simpa using z3)]
       by_cases z5:at2=0
       ·rw[if_pos (by simpa using z5)]
        exact wpS_pure ⟨S',.inl ⟨_,_,rfl,hdone _ _ _ M3 (.inr z5)⟩⟩
       rw[if_neg (by simpa using z5)]
       refine wpS_bind (zap eq ?_)
       have M4:MrgH key a.toList b.toList (((out ++ (a.extract at1 na).reverse).push p ++ (b.extract at2 (nb - 1)).reverse).push q).toList (at1 - 1) (at2):=by
        rw[Array.toList_push]
        exact M3.push_a sa (by omega) eq' hrest2
       by_cases z4:at1 - 1=0
       ·rw[if_pos (by simpa using z4)]
        exact wpS_pure ⟨S',.inl ⟨_,_,rfl,hdone _ _ _ M4 (.inl z4)⟩⟩
       ·rw[if_neg (by simpa using z4)]
        split
        ·exact wpS_pure ⟨S',.inr ⟨_,_,_,_,_,_,rfl,M4,by omega,by omega,by omega,by omega,by omega⟩⟩
        ·exact wpS_pure ⟨S',_,_,_,_,_,_,rfl,M4,by omega,by omega,by omega,by omega,by omega⟩
      ·rw[if_neg hk20]
       have z5:at2=nb - 1:=by omega
       subst z5
       refine wpS_bind (zap eq ?_)
       have M4:MrgH key a.toList b.toList (((out ++ (a.extract at1 na).reverse).push p).push q).toList (at1 - 1) (nb - 1):=by
        rw[Array.toList_push]
        exact M2.push_a sa (by omega) eq' hrest2
       by_cases z4:at1 - 1=0
       ·rw[if_pos (by simpa using z4)]
        exact wpS_pure ⟨S',.inl ⟨_,_,rfl,hdone _ _ _ M4 (.inl z4)⟩⟩
       ·rw[if_neg (by simpa using z4)]
        split
        ·exact wpS_pure ⟨S',.inr ⟨_,_,_,_,_,_,rfl,M4,by omega,by omega,by omega,by omega,by omega⟩⟩
        ·exact wpS_pure ⟨S',_,_,_,_,_,_,rfl,M4,by omega,by omega,by omega,by omega,by omega⟩
     ·rw[if_neg hk0]
      have z6:at1=na:=by omega
      subst z6
      refine wpS_bind (zap ep ?_)
      have M2:MrgH key a.toList b.toList ((out).push p).toList (at1) (nb - 1):=by
       rw[Array.toList_push]
       exact M.push_b sb (by omega) ep' hrest
      by_cases z:nb - 1=1
      ·rw[if_pos (by simpa using z)]
       exact wpS_pure ⟨S',.inl ⟨_,_,rfl,hfirst _ _ _ M2 z⟩⟩
      rw[if_neg (by simpa using z)]
      obtain⟨q,eq,eq',mq⟩:=ea (at1 - 1) (by omega)
      refine wpS_bind (zap eq (wpS_bind (za9 C (S'.kind.trans hkd) mq hb (by omega) (by omega) (λi j x y hij hj ex ey=>sb.at (by omega) ex ey) λat2 hk2' hj1 hj2 => ?_)))
      simp only[Nat.zero_add]at hj1 hj2
      have M3:MrgH key a.toList b.toList ((out).push p ++ (b.extract at2 (nb - 1)).reverse).toList (at1) at2:=by
       rw[Array.toList_append,Array.toList_reverse,zdx]
       refine M2.app_b sb at2 (nb - 1 - at2) (by omega) (by simp;omega) λi z hi1 hi2 ez y hy => ?_
       have e1:=hj2 i z hi1 hi2 (by simpa using ez)
       exact KeyOrd.kle_trans (sa.foot (by omega) eq y hy) (show O.kle (key q) (key z) by simpa[bey,KeyOrd.kle]using e1)
      have hrest2:∀y∈b.toList.take at2,O.kle (key y) (key q):=by
       intro y hy
       obtain⟨j,hj,e⟩:=List.mem_iff_getElem.mp hy
       rw[List.length_take]at hj
       rw[List.getElem_take]at e
       have e1:=hj1 j y (by omega) (by rw[<- e];exact Array.getElem?_eq_some_iff.mpr ⟨by simp at hj;omega,by simp⟩)
       exact KeyOrd.kle_of_klt (by simpa[bey,KeyOrd.klt]using e1)
      dsimp only
      by_cases hk20:nb - 1 - at2 > 0
      ·rw[if_pos hk20]
       by_cases z3:at2=1
       ·rw[if_pos (by simpa using z3)]
        exact wpS_pure ⟨S',.inl ⟨_,_,rfl,hfirst _ _ _ M3 z3⟩⟩
       rw[if_neg (by simpa using z3)]
       by_cases z5:at2=0
       ·rw[if_pos (by simpa using z5)]
        exact wpS_pure ⟨S',.inl ⟨_,_,rfl,hdone _ _ _ M3 (.inr z5)⟩⟩
       rw[if_neg (by simpa using z5)]
       refine wpS_bind (zap eq ?_)
       have M4:MrgH key a.toList b.toList (((out).push p ++ (b.extract at2 (nb - 1)).reverse).push q).toList (at1 - 1) (at2):=by
        rw[Array.toList_push]
        exact M3.push_a sa (by omega) eq' hrest2
       by_cases z4:at1 - 1=0
       ·rw[if_pos (by simpa using z4)]
        exact wpS_pure ⟨S',.inl ⟨_,_,rfl,hdone _ _ _ M4 (.inl z4)⟩⟩
       ·rw[if_neg (by simpa using z4)]
        split
        ·exact wpS_pure ⟨S',.inr ⟨_,_,_,_,_,_,rfl,M4,by omega,by omega,by omega,by omega,by omega⟩⟩
        ·exact wpS_pure ⟨S',_,_,_,_,_,_,rfl,M4,by omega,by omega,by omega,by omega,by omega⟩
      ·rw[if_neg hk20]
       have z5:at2=nb - 1:=by omega
       subst z5
       refine wpS_bind (zap eq ?_)
       have M4:MrgH key a.toList b.toList (((out).push p).push q).toList (at1 - 1) (nb - 1):=by
        rw[Array.toList_push]
        exact M2.push_a sa (by omega) eq' hrest2
       by_cases z4:at1 - 1=0
       ·rw[if_pos (by simpa using z4)]
        exact wpS_pure ⟨S',.inl ⟨_,_,rfl,hdone _ _ _ M4 (.inl z4)⟩⟩
       ·rw[if_neg (by simpa using z4)]
        split
        ·exact wpS_pure ⟨S',.inr ⟨_,_,_,_,_,_,rfl,M4,by omega,by omega,by omega,by omega,by omega⟩⟩
        ·exact wpS_pure ⟨S',_,_,_,_,_,_,rfl,M4,by omega,by omega,by omega,by omega,by omega⟩
end
end TS
namespace TS
open PySem PyProof.Rows
local macro_rules | `(tactic| walk_at "sort mergeAt") => do `(tactic| delta $(Lean.mkIdent (Lean.mkPrivateNameCore `PySem.Builtin.List.W1All `PySem.Builtin.mergeAt)):ident)
section
variable{O:KeyOrd}{key:Keyed->O.α}{la lb m:List Keyed}{k r:Nat}
theorem zh1(sa:Srt key la)(sb:Srt key lb)(h1:∀x∈la.take k,∀y∈lb,O.kle (key x) (key y))(h2:∀x∈la,∀y∈lb.drop r,O.kle (key x) (key y))(R:Res key (la.drop k) (lb.take r) m) :
  (la.take k ++ m ++ lb.drop r).Perm (la ++ lb)/\Srt key (la.take k ++ m ++ lb.drop r):=by
 have mem:∀x∈m,x∈la.drop k\/x∈lb.take r:=λx hx=>List.mem_append.mp (R.1.mem_iff.mp hx)
 have sa':Srt key (la.take k ++ la.drop k):=by rw[List.take_append_drop];exact sa
 have sb':Srt key (lb.take r ++ lb.drop r):=by rw[List.take_append_drop];exact sb
 refine⟨?_,List.pairwise_append.mpr ⟨List.pairwise_append.mpr ⟨sa.take _,R.2,λx hx y hy => ?_⟩,sb.drop _,λx hx y hy => ?_⟩⟩
 ·refine List.Perm.trans (List.Perm.append_right _ (List.Perm.append_left _ R.1)) ?_
  have:la.take k ++ (la.drop k ++ lb.take r) ++ lb.drop r=la ++ lb:=by
   conv=>rhs;rw[<- List.take_append_drop k la,<- List.take_append_drop r lb]
   simp only[List.append_assoc]
  rw[this]
 ·rcases mem y hy with hy | hy
  ·exact(List.pairwise_append.mp sa').2.2 x hx y hy
  ·exact h1 x hx y (List.mem_of_mem_take hy)
 ·rcases List.mem_append.mp hx with hx | hx
  ·exact h1 x hx y (List.mem_of_mem_drop hy)
  ·rcases mem x hx with hx | hx
   ·exact h2 x (List.mem_of_mem_drop hx) y hy
   ·exact(List.pairwise_append.mp sb').2.2 x hx y hy
theorem zei(off:Nat):∀(l:List Keyed) (k:Nat) (xs:Array Keyed) (P M R:List Keyed),xs.toList=P ++ M ++ R->P.length=off + k->M.length=l.length ->
  ((l.zipIdx k).foldl (λa (pj:Keyed×Nat)=>a.setIfInBounds (off + pj.2) pj.1) xs).toList=P ++ l ++ R
 | [],k,xs,P,M,R,e,hP,hM=>by
  have:M=[]:=List.eq_nil_of_length_eq_zero hM
  subst this
  simpa using e
 | x :: l,k,xs,P,M,R,e,hP,hM=>by
  cases M with
  | nil=>simp at hM
  | cons y M=>
   rw[List.zipIdx_cons,List.foldl_cons]
   have:=zei off l (k + 1) (xs.setIfInBounds (off + k) x) (P ++ [x]) M R ?_ (by simp;omega) (by simpa using hM)
   ·rw[this];simp
   ·rw[Array.toList_setIfInBounds,e,<- hP]
    simp
end
section
variable{prog:Program}{w:World}{A:Around}{E:Value->Shared->Prop}{s:Shared}{kd:SortKind}{a₀:Array Keyed}{O:KeyOrd}{key:Keyed->O.α}
theorem zpk{st st':SortSt}{Q:PUnit->SortSt->Prop}(h:∀st1,st1=st'->Q ⟨⟩ st1):wpS (model prog w) A E s (set st':StateT SortSt Sem PUnit) Q st:=by
 unfold wpS;rw[StateT.run_set];exact wpAny_pure ⟨rfl,h _ rfl⟩
theorem zjx(C:Cmp prog w A s kd a₀ O key){i sa na sb nb pw pw2:Nat}{P la lb R:List Keyed}{st:SortSt}{Q:Bool->SortSt->Prop}(B:SB kd a₀ st)(e1:(pendingOf st)[i]? = some (sa,na,pw))(e2:(pendingOf st)[i + 1]? = some (sb,nb,pw2))
  (harr:(arrOf st).toList=P ++ (la ++ (lb ++ R))) (hP:P.length=sa) (hla:la.length=na) (hlb:lb.length=nb) (hsb:sb=sa + na) (za:0 < na) (zb:0 < nb) (sA:Srt key la) (sB:Srt key lb)
  (h:∀m st',m.Perm (la ++ lb)->Srt key m->(arrOf st').toList=P ++ (m ++ R)->SB kd a₀ st'->pendingOf st'=((pendingOf st).setIfInBounds i (sa,na + nb,pw)).eraseIdxIfInBounds (i + 1)->Q true st') :
  wpS (model prog w) A E s ((sortPriv% PySem.Builtin.mergeAt) i) Q st:=by
 walk_at "sort mergeAt"
 refine wpS_bind (wpS_get ?_)
 dsimp only
 show wpS _ _ _ _ (match (pendingOf st)[i]?,(pendingOf st)[i + 1]? with | _,_=>_) _ _
 rw[e1,e2]
 dsimp only
 --BODY
 have hA:∀j,j < na->(arrOf st)[sa + j]? = la[j]?:=by
  intro j hj
  rw[<- Array.getElem?_toList,harr,List.getElem?_append_right (by omega),hP,List.getElem?_append_left (by omega)]
  congr 1;omega
 have hB:∀j,j < nb->(arrOf st)[sb + j]? = lb[j]?:=by
  intro j hj
  rw[<- Array.getElem?_toList,harr,List.getElem?_append_right (by omega),hP,List.getElem?_append_right (by omega),List.getElem?_append_left (by omega)]
  congr 1;omega
 have hsz:(arrOf st).size=sa + (na + (nb + R.length)):=by
  have:=congrArg List.length harr
  simp only[Array.length_toList,List.length_append]at this
  omega
 have inA:∀x∈la,x∈a₀.toList:=λx hx=>B.mem (by rw[harr];simp[hx])
 have inB:∀x∈lb,x∈a₀.toList:=λx hx=>B.mem (by rw[harr];simp[hx])
 have inAll:∀x∈(arrOf st).toList,x∈a₀.toList:=λx hx=>B.mem hx
 have sA':∀(i j:Nat) (x y:Keyed),i<=j->la[i]? = some x->la[j]? = some y->O.kle (key x) (key y):=λi j x y hij ex ey=>Srt.at (a:=la.toArray) sA hij (by simpa using ex) (by simpa using ey)
 have sB':∀(i j:Nat) (x y:Keyed),i<=j->lb[i]? = some x->lb[j]? = some y->O.kle (key x) (key y):=λi j x y hij ex ey=>Srt.at (a:=lb.toArray) sB hij (by simpa using ex) (by simpa using ey)
 refine wpS_bind (zpk λst1 hst1 => ?_)
 have B1:SB kd a₀ st1:=by rw[hst1];exact⟨B.kind,B.perm,B.failed⟩
 have ha1:arrOf st1=arrOf st:=by rw[hst1]
 have hp1:pendingOf st1=((pendingOf st).setIfInBounds i (sa,na + nb,pw)).eraseIdxIfInBounds (i + 1):=by rw[hst1]
 have kd1:kindOf st1=kd:=B1.kind
 have eb0:(arrOf st)[sb]? = some lb[0]:=by
  have:=hB 0 zb
  rw[Nat.add_zero]at this
  rw[this];exact List.getElem?_eq_getElem (by omega)
 refine wpS_bind (zap eb0 (wpS_bind (za9 C kd1 (inB _ (by simp)) inAll (by show sa + na<=(arrOf st).size;omega) (by omega) (λi j x y hij hj ex ey=>sA' i j x y hij (by rw[<- hA i (by omega)];exact ex) (by rw[<- hA j hj];exact ey)) λk hk hk1 hk2 => ?_)))
 have b0le:∀y∈lb,O.kle (key lb[0]) (key y):=by
  intro y hy
  obtain⟨j,hj,e⟩:=List.mem_iff_getElem.mp hy
  exact sB' 0 j _ y (Nat.zero_le _) (List.getElem?_eq_getElem (by omega)) (by rw[<- e];exact List.getElem?_eq_getElem hj)
 have h1':∀x∈la.take k,∀y∈lb,O.kle (key x) (key y):=by
  intro x hx y hy
  obtain⟨j,hj,e⟩:=List.mem_iff_getElem.mp hx
  rw[List.length_take]at hj
  rw[List.getElem_take]at e
  have z:=hk1 j x (by omega) (by rw[hA j (by omega),<- e];exact List.getElem?_eq_getElem (by omega))
  exact KeyOrd.kle_trans (show O.kle (key x) (key lb[0]) by simpa[bey,KeyOrd.kle]using z) (b0le y hy)
 have h0':∀y∈la.drop k,O.kle (key lb[0]) (key y):=by
  intro y hy
  obtain⟨j,hj,e⟩:=List.mem_iff_getElem.mp hy
  rw[List.length_drop]at hj
  rw[List.getElem_drop]at e
  have z:=hk2 (k + j) y (by omega) (by omega) (by rw[hA (k + j) (by omega),<- e];exact List.getElem?_eq_getElem (by omega))
  exact KeyOrd.kle_of_klt (by simpa[bey,KeyOrd.klt]using z)
 dsimp only
 by_cases zk:na - k=0
 ·rw[if_pos (by simpa using zk)]
  refine wpS_pure (h (la ++ lb) st1 (List.Perm.refl _) (List.pairwise_append.mpr ⟨sA,sB,λx hx y hy=>h1' x (by rw[List.take_of_length_le (by omega)];exact hx) y hy⟩) (by rw[ha1,harr,List.append_assoc]) B1 hp1)
 rw[if_neg (by simpa using zk)]
 have ela:(arrOf st)[sa + k + (na - k) - 1]? = some la[na - 1]:=by
  have:=hA (na - 1) (by omega)
  rw[show sa + k + (na - k) - 1=sa + (na - 1) by omega,this];exact List.getElem?_eq_getElem (by omega)
 refine wpS_bind (zap ela (wpS_bind (za9 C kd1 (inA _ (by simp)) inAll (by show sb + nb<=(arrOf st).size;omega) (by omega) (λi j x y hij hj ex ey=>sB' i j x y hij (by rw[<- hB i (by omega)];exact ex) (by rw[<- hB j hj];exact ey)) λr hr hr1 hr2 => ?_)))
 have lale:∀x∈la,O.kle (key x) (key la[na - 1]):=by
  intro x hx
  obtain⟨j,hj,e⟩:=List.mem_iff_getElem.mp hx
  exact sA' j (na - 1) x _ (by omega) (by rw[<- e];exact List.getElem?_eq_getElem hj) (List.getElem?_eq_getElem (by omega))
 have h2':∀x∈la,∀y∈lb.drop r,O.kle (key x) (key y):=by
  intro x hx y hy
  obtain⟨j,hj,e⟩:=List.mem_iff_getElem.mp hy
  rw[List.length_drop]at hj
  rw[List.getElem_drop]at e
  have z:=hr2 (r + j) y (by omega) (by omega) (by rw[hB (r + j) (by omega),<- e];exact List.getElem?_eq_getElem (by omega))
  exact KeyOrd.kle_trans (lale x hx) (by simpa[bey,KeyOrd.kle]using z)
 dsimp only
 by_cases zr:r=0
 ·rw[if_pos (by simpa using zr)]
  refine wpS_pure (h (la ++ lb) st1 (List.Perm.refl _) (List.pairwise_append.mpr ⟨sA,sB,λx hx y hy=>h2' x hx y (by rw[zr];simpa using hy)⟩) (by rw[ha1,harr,List.append_assoc]) B1 hp1)
 rw[if_neg (by simpa using zr)]
 have eX:((arrOf st).extract (sa + k) sb).toList=la.drop k:=by
  rw[zdx,harr,<- List.append_assoc,List.take_append_of_le_length (by simp;omega),List.take_of_length_le (by simp;omega),<- hP,List.drop_append,List.drop_eq_nil_of_le (by omega)]
  simp
 have eY:((arrOf st).extract sb (sb + r)).toList=lb.take r:=by
  rw[zdb,harr,<- List.append_assoc,List.drop_append,List.drop_eq_nil_of_le (by simp;omega)]
  rw[show sb - (P ++ la).length=0 by simp;omega,List.drop_zero,List.nil_append,List.take_append_of_le_length (by omega)]
 have zX:0 < ((arrOf st).extract (sa + k) sb).size:=by rw[<- Array.length_toList,eX,List.length_drop];omega
 have zY:0 < ((arrOf st).extract sb (sb + r)).size:=by rw[<- Array.length_toList,eY,List.length_take];omega
 have eY0:((arrOf st).extract sb (sb + r))[0]=lb[0]:=by
  have:=congrArg (λl=>l[0]?) eY
  simp only[Array.getElem?_toList]at this
  rw[getElem?_pos _ 0 zY,List.getElem?_take_of_lt (by omega),List.getElem?_eq_getElem (by omega)]at this
  injection this
 have eXl:((arrOf st).extract (sa + k) sb)[((arrOf st).extract (sa + k) sb).size - 1]=la[na - 1]:=by
  have hs:((arrOf st).extract (sa + k) sb).size=na - k:=by rw[<- Array.length_toList,eX,List.length_drop];omega
  have:=congrArg (λl=>l[na - k - 1]?) eX
  simp only[Array.getElem?_toList]at this
  rw[getElem?_pos _ (na - k - 1) (by omega),List.getElem?_drop,List.getElem?_eq_getElem (by omega)]at this
  injection this with this
  have e3:k + (na - k - 1)=na - 1:=by omega
  simp only[hs]
  rw[this]
  congr 1
 by_cases zle:na - k<=r
 ·rw[if_pos zle]
  refine wpS_bind (zj2 C (st:=st1) kd1 (λx hx=>inA x (by rw[eX]at hx;exact List.mem_of_mem_drop hx)) (λx hx=>inB x (by rw[eY]at hx;exact List.mem_of_mem_take hx)) (by rw[eX];exact sA.drop _) (by rw[eY];exact sB.take _) zX zY (λy hy => ?_) (λx hx => ?_) λmm st2 hR S2 => ?_)
  ·rw[eX]at hy
   rw[eY0];exact h0' y hy
  ·rw[eY]at hx
   rw[eXl]
   obtain⟨j,hj,e⟩:=List.mem_iff_getElem.mp hx
   rw[List.length_take]at hj
   rw[List.getElem_take]at e
   have z:=hr1 j x (by omega) (by rw[hB j (by omega)];rw[<- e];exact List.getElem?_eq_getElem (by omega))
   exact KeyOrd.kle_of_klt (by simpa[bey,KeyOrd.klt]using z)
  rw[eX,eY]at hR
  obtain⟨mp,ms⟩:=zh1 sA sB h1' h2' hR
  have hw:=zei (sa + k) mm.toList 0 (arrOf st2) (P ++ la.take k) (la.drop k ++ lb.take r) (lb.drop r ++ R) (by
   rw[S2.arr,ha1,harr]
   conv=>lhs;rw[<- List.take_append_drop k la,<- List.take_append_drop r lb]
   simp only[List.append_assoc]) (by rw[List.length_append,List.length_take,hP];omega) (by rw[hR.1.length_eq])
  refine wpS_bind (wpS_modify (wpS_bind (wpS_get (wpS_pure ?_))))
  have hf:failedOf st2=none:=S2.fail.trans B1.failed
  show Q (failedOf st2).isNone _
  rw[hf]
  have hw':(List.foldl (λa (x:Keyed×Nat)=>a.setIfInBounds (sa + k + x.snd) x.fst) (arrOf st2) mm.toList.zipIdx).toList=P ++ ((la.take k ++ mm.toList ++ lb.drop r) ++ R):=by
   refine hw.trans ?_
   simp only[List.append_assoc]
  refine h _ _ mp ms hw' ⟨S2.kind.trans kd1,?_,hf⟩ (S2.pend.trans hp1)
  refine(Array.perm_iff_toList_perm.mpr ?_).trans B.perm
  refine List.Perm.trans (List.Perm.of_eq hw') ?_
  rw[harr,<- List.append_assoc la lb R]
  exact List.Perm.append_left _ (List.Perm.append_right _ mp)
 ·rw[if_neg zle]
  refine wpS_bind (zj1 C (st:=st1) kd1 (λx hx=>inA x (by rw[eX]at hx;exact List.mem_of_mem_drop hx)) (λx hx=>inB x (by rw[eY]at hx;exact List.mem_of_mem_take hx)) (by rw[eX];exact sA.drop _) (by rw[eY];exact sB.take _) zX zY (λy hy => ?_) (λx hx => ?_) λmm st2 hR S2 => ?_)
  ·rw[eX]at hy
   rw[eY0];exact h0' y hy
  ·rw[eY]at hx
   rw[eXl]
   obtain⟨j,hj,e⟩:=List.mem_iff_getElem.mp hx
   rw[List.length_take]at hj
   rw[List.getElem_take]at e
   have z:=hr1 j x (by omega) (by rw[hB j (by omega)];rw[<- e];exact List.getElem?_eq_getElem (by omega))
   exact KeyOrd.kle_of_klt (by simpa[bey,KeyOrd.klt]using z)
  rw[eX,eY]at hR
  obtain⟨mp,ms⟩:=zh1 sA sB h1' h2' hR
  have hw:=zei (sa + k) mm.toList 0 (arrOf st2) (P ++ la.take k) (la.drop k ++ lb.take r) (lb.drop r ++ R) (by
   rw[S2.arr,ha1,harr]
   conv=>lhs;rw[<- List.take_append_drop k la,<- List.take_append_drop r lb]
   simp only[List.append_assoc]) (by rw[List.length_append,List.length_take,hP];omega) (by rw[hR.1.length_eq])
  refine wpS_bind (wpS_modify (wpS_bind (wpS_get (wpS_pure ?_))))
  have hf:failedOf st2=none:=S2.fail.trans B1.failed
  show Q (failedOf st2).isNone _
  rw[hf]
  have hw':(List.foldl (λa (x:Keyed×Nat)=>a.setIfInBounds (sa + k + x.snd) x.fst) (arrOf st2) mm.toList.zipIdx).toList=P ++ ((la.take k ++ mm.toList ++ lb.drop r) ++ R):=by
   refine hw.trans ?_
   simp only[List.append_assoc]
  refine h _ _ mp ms hw' ⟨S2.kind.trans kd1,?_,hf⟩ (S2.pend.trans hp1)
  refine(Array.perm_iff_toList_perm.mpr ?_).trans B.perm
  refine List.Perm.trans (List.Perm.of_eq hw') ?_
  rw[harr,<- List.append_assoc la lb R]
  exact List.Perm.append_left _ (List.Perm.append_right _ mp)
end
end TS
namespace TS
open PySem PyProof.Rows
local macro_rules | `(tactic| walk_at "sort ltAt") => do `(tactic| delta $(Lean.mkIdent (Lean.mkPrivateNameCore `PySem.Builtin.List.W1All `PySem.Builtin.ltAt)):ident)
local macro_rules | `(tactic| walk_at "sort countRun") => do `(tactic| delta $(Lean.mkIdent (Lean.mkPrivateNameCore `PySem.Builtin.List.W1All `PySem.Builtin.countRun)):ident)
local macro_rules | `(tactic| walk_at "sort binarySort") => do `(tactic| delta $(Lean.mkIdent (Lean.mkPrivateNameCore `PySem.Builtin.List.W1All `PySem.Builtin.binarySort)):ident)
section
variable{O:KeyOrd}(key:Keyed->O.α)
def Kf(xs:Array Keyed)(i:Nat):O.α:=key (xs.getD i (.none,.none))
def SegS(xs:Array Keyed)(lo n:Nat):Prop:=∀i j,lo<=i->i<=j->j < lo + n->O.kle (Kf key xs i) (Kf key xs j)
def SegD(xs:Array Keyed)(lo n:Nat):Prop:=∀i j,lo<=i->i<=j->j < lo + n->O.kle (Kf key xs j) (Kf key xs i)
variable{key}
theorem zd1{xs ys:Array Keyed}{i j:Nat}(h:xs[i]? = ys[j]?):Kf key xs i=Kf key ys j:=by
 unfold Kf;rw[Array.getD_eq_getD_getElem?,Array.getD_eq_getD_getElem?,h]
theorem zff{xs:Array Keyed}{i j:Nat}(hj:j<=xs.size)(k:Nat):Kf key (mirror xs i j ((j - i) / 2)) k=if i<=k/\k < j then Kf key xs (i + j - 1 - k) else Kf key xs k:=by
 have e:=getElem?_mirror_all (i:=i) hj k
 by_cases h1:i<=k/\k < j
 ·rw[if_pos h1]at e ⊢;exact zd1 e
 ·rw[if_neg h1]at e ⊢;exact zd1 e
theorem zcy{xs:Array Keyed}{i j:Nat}(hj:j<=xs.size)(heq:∀k,i<=k->k < j->Kf key xs k=Kf key xs (j - 1))(k:Nat):Kf key (mirror xs i j ((j - i) / 2)) k=Kf key xs k:=by
 rw[zff hj]
 split
 ·rw[heq _ (by omega) (by omega),heq k (by omega) (by omega)]
 ·rfl
theorem zgz{xs:Array Keyed}{src d:Nat}(hs:src < xs.size)(hd:d<=src)(k:Nat) :
  Kf key (bubble xs src d) k=if k=src - d then Kf key xs src else if src - d < k/\k<=src then Kf key xs (k - 1) else Kf key xs k:=by
 have e:=getElem?_bubble hs d hd k
 by_cases h1:k=src - d
 ·rw[if_pos h1]at e ⊢;exact zd1 e
 ·rw[if_neg h1]at e ⊢
  by_cases h2:src - d < k/\k<=src
  ·rw[if_pos h2]at e ⊢;exact zd1 e
  ·rw[if_neg h2]at e ⊢;exact zd1 e
end
section
variable{O:KeyOrd}{key:Keyed->O.α}
theorem zor{xs:Array Keyed}{lo:Nat}:SegS key xs lo 1:=λi j h1 h2 h3=>by
 have:i=j:=by omega
 subst this;exact KeyOrd.kle_refl _
theorem ziz{xs:Array Keyed}{lo x:Nat}(hs:SegS key xs lo x)(hx:1<=x)(hl:O.blt (Kf key xs (lo + x)) (Kf key xs (lo + x - 1))=false):SegS key xs lo (x + 1):=λi j h1 h2 h3=>by
 by_cases hj:j < lo + x
 ·exact hs i j h1 h2 hj
 ·have:j=lo + x:=by omega
  subst this
  by_cases hi:i=lo + x
  ·subst hi;exact KeyOrd.kle_refl _
  ·exact KeyOrd.kle_trans (hs i (lo + x - 1) h1 (by omega) (by omega)) hl
theorem zdz{xs:Array Keyed}{lo x:Nat}(hs:SegD key xs lo x)(hx:1<=x)(hl:O.kle (Kf key xs (lo + x)) (Kf key xs (lo + x - 1))):SegD key xs lo (x + 1):=λi j h1 h2 h3=>by
 by_cases hj:j < lo + x
 ·exact hs i j h1 h2 hj
 ·have:j=lo + x:=by omega
  subst this
  by_cases hi:i=lo + x
  ·subst hi;exact KeyOrd.kle_refl _
  ·exact KeyOrd.kle_trans hl (hs i (lo + x - 1) h1 (by omega) (by omega))
theorem zee{xs ys:Array Keyed}{lo x:Nat}(hs:SegD key xs lo x)(h:∀k,Kf key ys k=Kf key xs k):SegD key ys lo x:=λi j h1 h2 h3=>by
 rw[h,h];exact hs i j h1 h2 h3
theorem zh6{xs:Array Keyed}{lo m:Nat}(hs:SegD key xs lo m)(hz:lo + m<=xs.size):SegS key (mirror xs lo (lo + m) ((lo + m - lo) / 2)) lo m:=λi j h1 h2 h3=>by
 rw[zff hz,zff hz,if_pos (by omega),if_pos (by omega)]
 exact hs _ _ (by omega) (by omega) (by omega)
end
structure Kp(lo:Nat)(st₀ st:SortSt):Prop where
 kind:kindOf st=kindOf st₀
 perm:(arrOf st).Perm (arrOf st₀)
 low:∀k,k < lo->(arrOf st)[k]? = (arrOf st₀)[k]?
 pend:pendingOf st=pendingOf st₀
 fail:failedOf st=failedOf st₀
theorem Kp.refl{lo:Nat}{st:SortSt}:Kp lo st st:=⟨rfl,Array.Perm.refl _,λ_ _=>rfl,rfl,rfl⟩
theorem Kp.mirror{lo i j:Nat}{st₀ st:SortSt}(h:Kp lo st₀ st)(hi:lo<=i)(hj:j<=(arrOf st).size):Kp lo st₀ (setArr st (mirror (arrOf st) i j ((j - i) / 2))):=
 ⟨h.kind,(mirror_perm _ _ _ _).trans h.perm,λk hk=>by
  refine Eq.trans ?_ (h.low k hk)
  show (PyProof.Rows.mirror (arrOf st) i j ((j - i) / 2))[k]? = _
  rw[getElem?_mirror_all hj,if_neg (by omega)],h.pend,h.fail⟩
theorem Kp.bubble{lo src d:Nat}{st₀ st:SortSt}(h:Kp lo st₀ st)(hs:src < (arrOf st).size)(hd:d + lo<=src):Kp lo st₀ (setArr st (bubble (arrOf st) src d)):=
 ⟨h.kind,(bubble_perm _ _ _).trans h.perm,λk hk=>by
  refine Eq.trans ?_ (h.low k hk)
  show (PyProof.Rows.bubble (arrOf st) src d)[k]? = _
  rw[getElem?_bubble hs d (by omega),if_neg (by omega),if_neg (by omega)],h.pend,h.fail⟩
section
variable{prog:Program}{w:World}{A:Around}{E:Value->Shared->Prop}{s:Shared}{kd:SortKind}{a₀:Array Keyed}{O:KeyOrd}{key:Keyed->O.α}
theorem SB.of_kp{lo:Nat}{st₀ st:SortSt}(B:SB kd a₀ st₀)(h:Kp lo st₀ st):SB kd a₀ st:=⟨h.kind.trans B.kind,h.perm.trans B.perm,h.fail.trans B.failed⟩
theorem zec(C:Cmp prog w A s kd a₀ O key){st:SortSt}(B:SB kd a₀ st){i j:Nat}(hi:i < a₀.size)(hj:j < a₀.size){Q:Option Bool->SortSt->Prop}(h:Q (some (O.blt (Kf key (arrOf st) i) (Kf key (arrOf st) j))) st) :
  wpS (model prog w) A E s ((sortPriv% PySem.Builtin.ltAt) i j) Q st:=by
 have hz:=B.size
 have e1:(arrOf st)[i]? = some (arrOf st)[i]:=getElem?_pos ..
 have e2:(arrOf st)[j]? = some (arrOf st)[j]:=getElem?_pos ..
 walk_at "sort ltAt"
 refine wpS_bind (wpS_get (wpS_bind (zap e1 (wpS_bind (zap e2 (zks C B.kind (B.mem (by simp)) (B.mem (by simp)) ?_))))))
 unfold Kf at h
 rw[Array.getD_eq_getD_getElem?,Array.getD_eq_getD_getElem?,e1,e2]at h
 exact h
theorem zdm{st:SortSt}{i j:Nat}{Q:Unit->SortSt->Prop}(h:Q () (setArr st (mirror (arrOf st) i j ((j - i) / 2)))):wpS (model prog w) A E s ((sortPriv% PySem.Builtin.reverseSlice) i j) Q st:=by
 show wpS (model prog w) A E s (reverseSlice' i j) Q st
 rw[reverseSlice'_eq]
 exact wpS_modify h
theorem zic{st:SortSt}{i j:Nat}{Q:Unit->SortSt->Prop}(h:Q () (setArr st (bubble (arrOf st) i (i - j)))):wpS (model prog w) A E s ((sortPriv% PySem.Builtin.moveDown) i j) Q st:=by
 show wpS (model prog w) A E s (moveDown' i j) Q st
 rw[moveDown'_eq]
 exact wpS_modify h
theorem zij(C:Cmp prog w A s kd a₀ O key){lo nrem:Nat}{st:SortSt}{Q:Option Nat->SortSt->Prop}(B:SB kd a₀ st)(h1:1<=nrem)(hn:lo + nrem<=a₀.size)
  (h:∀m st',1<=m->m<=nrem->SegS key (arrOf st') lo m->Kp lo st st'->Q (some m) st'):wpS (model prog w) A E s ((sortPriv% PySem.Builtin.countRun) lo nrem) Q st:=by
 have hz:(arrOf st).size=a₀.size:=B.size
 walk_at "sort countRun"
 refine wpS_bind (wpS_mono (wpS_forRange (I:=λx c st'=>st'=st/\c=(none,x)/\SegS key (arrOf st) lo x)
  (Q:=λc st'=>st'=st/\∃n,c=(none,n)/\1<=n/\n<=nrem/\SegS key (arrOf st) lo n/\(n=nrem\/O.klt (Kf key (arrOf st) (lo + n)) (Kf key (arrOf st) (lo + n - 1)))) ?step1 ?fin1 ⟨rfl,rfl,zor⟩) ?post1)
 case fin1=>
  rintro c st' ⟨rfl,rfl,hs'⟩
  rw[show max (1) nrem=nrem by omega]at hs' ⊢
  exact⟨rfl,nrem,rfl,by omega,Nat.le_refl _,hs',.inl rfl⟩
 case step1=>
  rintro x c st' hax hxn ⟨est,rfl,hs'⟩
  have hax':1<=x:=hax
  rw[est]
  dsimp only
  refine wpS_bind (zec C B (by omega) (by omega) ?_)
  cases hless:O.blt (Kf key (arrOf st) (lo + x)) (Kf key (arrOf st) (lo + x - 1)) with
  | true=>
   simp only[if_true]
   exact wpS_pure ⟨rfl,x,rfl,by omega,by omega,hs',.inr hless⟩
  | false=>
   simp only[Bool.false_eq_true,if_false]
   exact wpS_pure ⟨rfl,rfl,ziz hs' (by omega) hless⟩
 case post1=>
  rintro c st' ⟨est,n,rfl,hn1,hnr,hs,hor⟩
  rw[est]
  extract_lets r0 n0 z0 z1 jp
  have hjp:∀st1,Kp lo st st1->n + 1<=nrem->SegD key (arrOf st1) lo (n + 1)->wpS (model prog w) A E s (jp ()) Q st1:=by
   intro st1 K1 hle hD
   refine wpS_bind (wpS_lift (wpAny_rule ⟨rfl,?_⟩))
   refine wpS_bind (wpS_mono (wpS_forRange (I:=λx c st'=>∃neq,c=(none,x,neq)/\Kp lo st st'/\SegD key (arrOf st') lo x/\neq + 1<=x/\(∀i,lo + x - (neq + 1)<=i->i < lo + x->Kf key (arrOf st') i=Kf key (arrOf st') (lo + x - 1)))
    (Q:=λc st'=>∃m neq,c=(none,m,neq)/\Kp lo st st'/\n + 1<=m/\m<=nrem/\SegD key (arrOf st') lo m/\neq + 1<=m/\(∀i,lo + m - (neq + 1)<=i->i < lo + m->Kf key (arrOf st') i=Kf key (arrOf st') (lo + m - 1))) ?step2 ?fin2
    ⟨0,rfl,K1,hD,by show 0 + 1<=n + 1;omega,λi h1 h2=>by congr 1;have:lo + (n + 1) - (0 + 1)<=i:=h1;have:i < lo + (n + 1):=h2;show i=lo + (n + 1) - 1;omega⟩) ?post2)
   case fin2=>
    rintro c st' ⟨neq,rfl,K,hD',hq,he⟩
    have hm:max (n + 1) nrem=nrem:=by omega
    have hD2:SegD key (arrOf st') lo (max (n + 1) nrem):=hD'
    have hq2:neq + 1<=max (n + 1) nrem:=hq
    have he2:∀i,lo + max (n + 1) nrem - (neq + 1)<=i->i < lo + max (n + 1) nrem->Kf key (arrOf st') i=Kf key (arrOf st') (lo + max (n + 1) nrem - 1):=he
    show ∃m neq',(none,max (n + 1) nrem,neq)=_/\_
    rw[hm]at hD2 hq2 he2 ⊢
    exact⟨nrem,neq,rfl,K,hle,Nat.le_refl _,hD2,hq2,he2⟩
   case step2=>
    rintro x c st' hax hxn ⟨neq,rfl,K,hD',hq,he⟩
    have hax':n + 1<=x:=hax
    have B':=B.of_kp K
    have hz':=B'.size
    dsimp only
    refine wpS_bind (zec C B' (by omega) (by omega) ?_)
    cases hless:O.blt (Kf key (arrOf st') (lo + x)) (Kf key (arrOf st') (lo + x - 1)) with
    | true=>
     simp only[if_true]
     have D1:=zdz hD' (by omega) (KeyOrd.kle_of_klt hless)
     by_cases hneq:neq > 0
     ·rw[if_pos hneq]
      refine wpS_bind (zdm (wpS_pure ⟨0,rfl,K.mirror (by omega) (by omega),zee D1 (zcy (by omega) he),by omega,λi h1 h2=>by congr 1;omega⟩))
     ·rw[if_neg hneq]
      exact wpS_pure ⟨0,rfl,K,D1,by omega,λi h1 h2=>by congr 1;omega⟩
    | false=>
     simp only[Bool.false_eq_true,if_false]
     refine wpS_bind (zec C B' (by omega) (by omega) ?_)
     cases hlarger:O.blt (Kf key (arrOf st') (lo + x - 1)) (Kf key (arrOf st') (lo + x)) with
     | true=>
      simp only[if_true]
      exact wpS_pure ⟨x,neq,rfl,K,hax',by omega,hD',hq,he⟩
     | false=>
      simp only[Bool.false_eq_true,if_false]
      have heqx:Kf key (arrOf st') (lo + x)=Kf key (arrOf st') (lo + x - 1):=KeyOrd.kle_antisymm hlarger hless
      refine wpS_pure ⟨neq + 1,rfl,K,zdz hD' (by omega) (by rw[heqx];exact KeyOrd.kle_refl _),by omega,λi h1 h2 => ?_⟩
      rw[show lo + (x + 1) - 1=lo + x by omega]
      by_cases hix:i=lo + x
      ·subst hix;rfl
      ·rw[heqx];exact he i (by omega) (by omega)
   case post2=>
    rintro c st' ⟨m,neq,rfl,K,hm1,hm2,hD',hq,he⟩
    have B':=B.of_kp K
    have hz':=B'.size
    extract_lets r1 s1 m1 neq1 jp2
    have hjp2:∀st2,Kp lo st st2->SegD key (arrOf st2) lo m->wpS (model prog w) A E s (jp2 ()) Q st2:=by
     intro st2 K2 hD2
     have B2:=B.of_kp K2
     have hz2:=B2.size
     refine wpS_bind (zdm ?_)
     have K3:Kp lo st (setArr st2 (mirror (arrOf st2) lo (lo + m) ((lo + m - lo) / 2))):=K2.mirror (Nat.le_refl _) (by omega)
     have S3:SegS key (arrOf (setArr st2 (mirror (arrOf st2) lo (lo + m) ((lo + m - lo) / 2)))) lo m:=zh6 hD2 (by omega)
     show wpS _ _ _ _ _ _ (setArr st2 (mirror (arrOf st2) lo (lo + m) ((lo + m - lo) / 2)))
     generalize setArr st2 (mirror (arrOf st2) lo (lo + m) ((lo + m - lo) / 2))=st3 at K3 S3 ⊢
     have B3:=B.of_kp K3
     refine wpS_bind (wpS_mono (wpS_forRange (I:=λx c st'=>st'=st3/\c=(none,x)/\SegS key (arrOf st3) lo x)
      (Q:=λc st'=>st'=st3/\∃n,c=(none,n)/\m<=n/\n<=nrem/\SegS key (arrOf st3) lo n/\(n=nrem\/O.klt (Kf key (arrOf st3) (lo + n)) (Kf key (arrOf st3) (lo + n - 1)))) ?step3 ?fin3 ⟨rfl,rfl,S3⟩) ?post3)
     case fin3=>
      rintro c st' ⟨rfl,rfl,hs'⟩
      rw[show max (m) nrem=nrem by omega]at hs' ⊢
      exact⟨rfl,nrem,rfl,by omega,Nat.le_refl _,hs',.inl rfl⟩
     case step3=>
      rintro x c st' hax hxn ⟨est,rfl,hs'⟩
      have hax':m<=x:=hax
      rw[est]
      dsimp only
      refine wpS_bind (zec C B3 (by omega) (by omega) ?_)
      cases hless:O.blt (Kf key (arrOf st3) (lo + x)) (Kf key (arrOf st3) (lo + x - 1)) with
      | true=>
       simp only[if_true]
       exact wpS_pure ⟨rfl,x,rfl,by omega,by omega,hs',.inr hless⟩
      | false=>
       simp only[Bool.false_eq_true,if_false]
       exact wpS_pure ⟨rfl,rfl,ziz hs' (by omega) hless⟩
     case post3=>
      rintro c st' ⟨rfl,m',rfl,h1',h2',hs',_⟩
      exact wpS_pure (h m' _ (by omega) h2' hs' K3)
    clear_value jp2
    show wpS _ _ _ _ (if neq > 0 then _ else _) _ _
    by_cases hneq:neq > 0
    ·rw[if_pos hneq]
     exact wpS_bind (zdm (hjp2 _ (K.mirror (by show lo<=lo + m - (neq + 1);omega) (by show lo + m<=_;omega)) (zee hD' (zcy (by show lo + m<=_;omega) he))))
    ·rw[if_neg hneq]
     exact hjp2 _ K hD'
  clear_value jp
  show wpS _ _ _ _ (if (n == nrem)=true then _ else _) _ _
  by_cases hnn:n=nrem
  ·rw[if_pos (by simpa using hnn)]
   exact wpS_pure (h n st hn1 hnr hs Kp.refl)
  rw[if_neg (by simpa using hnn)]
  have hlt:O.klt (Kf key (arrOf st) (lo + n)) (Kf key (arrOf st) (lo + n - 1)):=hor.resolve_left hnn
  show wpS _ _ _ _ (if n > 1 then _ else _) _ _
  by_cases hgt:n > 1
  ·rw[if_pos hgt]
   refine wpS_bind (zec C B (by omega) (by show lo + n - 1 < _;omega) ?_)
   dsimp only
   show wpS _ _ _ _ (if O.blt (Kf key (arrOf st) lo) (Kf key (arrOf st) (lo + n - 1))=true then _ else _) _ _
   cases hrose:O.blt (Kf key (arrOf st) lo) (Kf key (arrOf st) (lo + n - 1)) with
   | true=>
    simp only[if_true]
    exact wpS_pure (h n st hn1 hnr hs Kp.refl)
   | false=>
    simp only[Bool.false_eq_true,if_false]
    have hall:∀k,lo<=k->k < lo + n->Kf key (arrOf st) k=Kf key (arrOf st) (lo + n - 1):=by
     intro k h1 h2
     have a1:=hs lo k (Nat.le_refl _) h1 h2
     have a2:=hs k (lo + n - 1) h1 (by omega) (by omega)
     exact KeyOrd.kle_antisymm a2 (KeyOrd.kle_trans hrose a1)
    refine wpS_bind (zdm (hjp _ (Kp.refl.mirror (Nat.le_refl _) (by show lo + n<=_;omega)) (by omega) (zee (zdz (λi j h1 h2 h3 => ?_) hn1 (KeyOrd.kle_of_klt hlt)) (zcy (by show lo + n<=_;omega) hall))))
    rw[hall i h1 (by omega),hall j (by omega) h3];exact KeyOrd.kle_refl _
  ·rw[if_neg hgt]
   have hn1':n=1:=by omega
   refine hjp _ Kp.refl (by omega) (zdz (λi j h1 h2 h3 => ?_) hn1 (KeyOrd.kle_of_klt hlt))
   have:i=j:=by omega
   subst this;exact KeyOrd.kle_refl _
theorem zgl(C:Cmp prog w A s kd a₀ O key){lo n ok:Nat}{st:SortSt}{Q:Bool->SortSt->Prop}(B:SB kd a₀ st)(hok:ok<=n)(hn:lo + n<=a₀.size)(hs:SegS key (arrOf st) lo ok)
  (h:∀st',SegS key (arrOf st') lo n->Kp lo st st'->Q true st'):wpS (model prog w) A E s ((sortPriv% PySem.Builtin.binarySort) lo n ok) Q st:=by
 walk_at "sort binarySort"
 refine wpS_bind (wpS_mono (wpS_forRange (I:=λk c st'=>c=(none,())/\Kp lo st st'/\SegS key (arrOf st') lo (min k n))
  (Q:=λc st'=>c=(none,())/\Kp lo st st'/\SegS key (arrOf st') lo n) ?step ?fin ?init) ?post)
 case post=>
  rintro c st' ⟨rfl,K,hs'⟩
  exact wpS_pure (h st' hs' K)
 case init=>
  refine⟨rfl,Kp.refl,λi j h1 h2 h3 => ?_⟩
  by_cases ho:ok=0
  ·have:i=j:=by omega
   subst this;exact KeyOrd.kle_refl _
  ·exact hs i j h1 h2 (by omega)
 case fin=>
  rintro c st' ⟨hc,K,hs'⟩
  refine⟨hc,K,?_⟩
  rwa [show min (max (max ok 1) n) n=n by omega]at hs'
 case step=>
  rintro k c st' hak hkn ⟨rfl,K,hs'⟩
  rw[show min k n=k by omega]at hs'
  have B':=B.of_kp K
  have hz':=B'.size
  refine wpS_bind (wpS_mono (wpS_forRange (I:=λx c st''=>st''=st'/\∃l r,c=(none,l,r)/\l<=r/\r<=k/\r - l<=k - x /\
    (∀i,lo<=i->i < lo + l->O.kle (Kf key (arrOf st') i) (Kf key (arrOf st') (lo + k)))/\(∀i,lo + r<=i->i < lo + k->O.klt (Kf key (arrOf st') (lo + k)) (Kf key (arrOf st') i)))
   (Q:=λc st''=>st''=st'/\∃l r,c=(none,l,r)/\l<=k /\
    (∀i,lo<=i->i < lo + l->O.kle (Kf key (arrOf st') i) (Kf key (arrOf st') (lo + k)))/\(∀i,lo + l<=i->i < lo + k->O.klt (Kf key (arrOf st') (lo + k)) (Kf key (arrOf st') i))) ?istep ?ifin ?iinit) ?ipost)
  case iinit=>exact⟨rfl,0,k,rfl,by omega,by omega,by omega,λi hi=>by omega,λi h1 h2=>by omega⟩
  case ifin=>
   rintro c st'' ⟨rfl,l,r,rfl,hlr,hrk,hm,hlo,hhi⟩
   have:l=r:=by omega
   subst this
   exact⟨rfl,l,l,rfl,hrk,hlo,hhi⟩
  case istep=>
   rintro x c st'' _ hxk ⟨est,l,r,rfl,hlr,hrk,hm,hlo,hhi⟩
   rw[est]
   dsimp only
   by_cases hge:l ≥ r
   ·rw[if_pos hge]
    have:l=r:=by omega
    subst this
    exact wpS_pure ⟨rfl,l,l,rfl,hrk,hlo,hhi⟩
   ·rw[if_neg hge]
    refine wpS_bind (zec C B' (by omega) (by omega) ?_)
    cases hless:O.blt (Kf key (arrOf st') (lo + k)) (Kf key (arrOf st') (lo + (l + r) / 2)) with
    | true=>
     simp only[if_true]
     refine wpS_pure ⟨rfl,l,(l + r) / 2,rfl,by omega,by omega,by omega,hlo,λi h1 h2 => ?_⟩
     exact KeyOrd.klt_of_klt_of_kle hless (hs' _ _ (by omega) h1 h2)
    | false=>
     simp only[Bool.false_eq_true,if_false]
     refine wpS_pure ⟨rfl,(l + r) / 2 + 1,r,rfl,by omega,by omega,by omega,λi h1 h2 => ?_,hhi⟩
     exact KeyOrd.kle_trans (hs' i (lo + (l + r) / 2) h1 (by omega) (by omega)) (show O.kle _ _ from hless)
  case ipost=>
   rintro c st'' ⟨est,l,r,rfl,hlk,hlo,hhi⟩
   rw[est]
   dsimp only
   refine wpS_bind (zic (wpS_pure ⟨rfl,K.bubble (by omega) (by omega),?_⟩))
   rw[show min (k + 1) n=k + 1 by omega]
   have hks:lo + k < (arrOf st').size:=by omega
   intro i j hi hij hj
   show O.kle (Kf key (bubble (arrOf st') (lo + k) (lo + k - (lo + l))) i) (Kf key (bubble (arrOf st') (lo + k) (lo + k - (lo + l))) j)
   rw[zgz hks (by omega),zgz hks (by omega),show lo + k - (lo + k - (lo + l))=lo + l by omega]
   repeat' split
   all_goals first
    | (exfalso;omega)
    | exact KeyOrd.kle_refl _
    | exact hlo _ (by omega) (by omega)
    | exact KeyOrd.kle_of_klt (hhi _ (by omega) (by omega))
    | exact hs' _ _ (by omega) (by omega) (by omega)
end
end TS
namespace TS
open PySem PyProof.Rows
local macro_rules | `(tactic| walk_at "sort sortRuns") => do `(tactic| delta $(Lean.mkIdent (Lean.mkPrivateNameCore `PySem.Builtin.List.W1All `PySem.Builtin.sortRuns)):ident)
def sp2(x:Nat×Nat×Nat):Nat×Nat:=(x.1,x.2.1)
inductive Runs{O:KeyOrd}(key:Keyed->O.α):Nat->List (List Keyed)->List (Nat×Nat)->Prop
 | nil {off:Nat}:Runs key off [] []
 | cons {off:Nat} {r:List Keyed} {rs:List (List Keyed)} {ps:List (Nat×Nat)}:r≠[]->Srt key r->Runs key (off + r.length) rs ps->Runs key off (r :: rs) ((off,r.length) :: ps)
section
variable{O:KeyOrd}{key:Keyed->O.α}
theorem Runs.snoc:∀{off:Nat} {rs:List (List Keyed)} {ps:List (Nat×Nat)} {r:List Keyed},Runs key off rs ps->r≠[]->Srt key r->Runs key off (rs ++ [r]) (ps ++ [(off + rs.flatten.length,r.length)])
 | _,_,_,r,.nil,h1,h2 => .cons h1 h2 .nil
 | _,_,_,r,.cons a b h,h1,h2=>by
  have z:=h.snoc h1 h2
  rw[List.cons_append,List.cons_append]
  refine .cons a b ?_
  rw[List.flatten_cons,List.length_append,<- Nat.add_assoc]
  exact z
theorem Runs.enough:∀{off:Nat} {rs:List (List Keyed)} {ps:List (Nat×Nat)},Runs key off rs ps->ps.length<=rs.flatten.length
 | _,_,_,.nil=>by simp
 | _,_,_,.cons (r:=r) a b h=>by
  have:=h.enough
  have:0 < r.length:=List.length_pos_iff.mpr a
  rw[List.flatten_cons,List.length_append,List.length_cons];omega
theorem Runs.split:∀(i:Nat) {off:Nat} {rs:List (List Keyed)} {ps:List (Nat×Nat)},Runs key off rs ps->i + 1 < ps.length->∃(R1:List (List Keyed)) (la lb:List Keyed) (R2:List (List Keyed)) (p1 p2:List (Nat×Nat)),
  rs=R1 ++ la :: lb :: R2/\ps=p1 ++ (off + R1.flatten.length,la.length) :: (off + R1.flatten.length + la.length,lb.length) :: p2/\p1.length=i/\la≠[]/\lb≠[]/\Srt key la/\Srt key lb /\
  ∀m:List Keyed,Srt key m->m.length=la.length + lb.length->Runs key off (R1 ++ m :: R2) (p1 ++ (off + R1.flatten.length,m.length) :: p2)
 | 0,off,_,_,.cons (r:=la) a b (.cons (r:=lb) (rs:=R2) (ps:=p2) c d h),_=>by
  refine⟨[],la,lb,R2,[],p2,rfl,rfl,rfl,a,c,b,d,λm hm hl => .cons ?_ hm ?_⟩
  ·intro z;rw[z]at hl;exact a (List.eq_nil_of_length_eq_zero (by simp at hl;omega))
  ·rw[hl,<- Nat.add_assoc];exact h
 | i + 1,off,_,_,.cons (r:=r) (rs:=rs) (ps:=ps) a b h,hi=>by
  obtain⟨R1,la,lb,R2,p1,p2,e1,e2,e3,n1,n2,s1,s2,hm⟩:=h.split i (by simpa using hi)
  refine⟨r :: R1,la,lb,R2,(off,r.length) :: p1,p2,by rw[e1];rfl,by rw[e2,List.flatten_cons,List.length_append,<- Nat.add_assoc];rfl,by rw[List.length_cons,e3],n1,n2,s1,s2,λm h1 h2 => ?_⟩
  have z:=hm m h1 h2
  rw[List.flatten_cons,List.length_append,<- Nat.add_assoc]
  exact .cons a b z
 | 0,_,_,_,.nil,h=>by simp at h
 | 0,_,_,_,.cons _ _ .nil,h=>by simp at h
 | i + 1,_,_,_,.nil,h=>by simp at h
theorem zpx{xs:Array Keyed}{lo n:Nat}(h:SegS key xs lo n)(hz:lo + n<=xs.size):Srt key ((xs.toList.drop lo).take n):=by
 refine List.pairwise_iff_getElem.mpr λi j hi hj hij => ?_
 rw[List.length_take,List.length_drop]at hi hj
 have z:=h (lo + i) (lo + j) (by omega) (by omega) (by omega)
 unfold Kf at z
 rw[Array.getD_eq_getD_getElem?,Array.getD_eq_getD_getElem?,getElem?_pos xs (lo + i) (by omega),getElem?_pos xs (lo + j) (by omega)]at z
 simpa using z
theorem zhg{α β : Type}(f : α->β):∀(l:List α) (i:Nat),(l.eraseIdx i).map f=(l.map f).eraseIdx i
 | [],_=>rfl
 | _ :: _,0=>rfl
 | x :: l,i + 1=>by simp[zhg f l i]
theorem zj4{f:Nat×Nat×Nat->Nat×Nat×Nat}(hf:∀x,sp2 (f x)=sp2 x)(l:List (Nat×Nat×Nat))(i:Nat):(l.modify i f).map sp2=l.map sp2:=by
 refine List.ext_getElem? λk => ?_
 rw[List.getElem?_map,List.getElem?_map,List.getElem?_modify]
 cases l[k]? with
 | none=>rfl
 | some x=>
  by_cases h:i=k
  ·simp[h,hf]
  ·simp[h]
end
section
variable{prog:Program}{w:World}{A:Around}{E:Value->Shared->Prop}{s:Shared}{kd:SortKind}{a₀:Array Keyed}{O:KeyOrd}{key:Keyed->O.α}
structure GR(kd:SortKind)(a₀:Array Keyed){O:KeyOrd}(key:Keyed->O.α)(rest:List Keyed)(lo:Nat)(st:SortSt):Prop where
 sb:SB kd a₀ st
 ex:∃runs:List (List Keyed),(arrOf st).toList=runs.flatten ++ rest/\runs.flatten.length=lo/\Runs key 0 runs ((pendingOf st).toList.map sp2)
theorem zek(C:Cmp prog w A s kd a₀ O key){rest:List Keyed}{lo i:Nat}{st:SortSt}{Q:Bool->SortSt->Prop}(G:GR kd a₀ key rest lo st)(hi:i + 1 < (pendingOf st).size)
  (h:∀st',GR kd a₀ key rest lo st'->(pendingOf st').size + 1=(pendingOf st).size->Q true st'):wpS (model prog w) A E s ((sortPriv% PySem.Builtin.mergeAt) i) Q st:=by
 obtain⟨runs,harr,hlen,hR⟩:=G.ex
 obtain⟨R1,la,lb,R2,p1,p2,e1,e2,e3,n1,n2,s1,s2,hm⟩:=hR.split i (by simpa using hi)
 obtain⟨x1,hx1⟩:∃x,(pendingOf st)[i]? = some x:=⟨_,getElem?_pos _ i (by omega)⟩
 obtain⟨x2,hx2⟩:∃x,(pendingOf st)[i + 1]? = some x:=⟨_,getElem?_pos _ (i + 1) hi⟩
 obtain⟨a1,b1,c1⟩:=x1
 obtain⟨a2,b2,c2⟩:=x2
 have y1:((pendingOf st).toList.map sp2)[i]? = some (a1,b1):=by rw[List.getElem?_map,Array.getElem?_toList,hx1];rfl
 have y2:((pendingOf st).toList.map sp2)[i + 1]? = some (a2,b2):=by rw[List.getElem?_map,Array.getElem?_toList,hx2];rfl
 rw[e2]at y1 y2
 rw[List.getElem?_append_right (by omega),e3,Nat.sub_self]at y1
 rw[List.getElem?_append_right (by omega),e3,show i + 1 - i=1 by omega]at y2
 simp only[List.getElem?_cons_zero,List.getElem?_cons_succ,Option.some.injEq,Prod.mk.injEq,Nat.zero_add]at y1 y2
 obtain⟨rfl,rfl⟩:=y1
 obtain⟨rfl,rfl⟩:=y2
 refine zjx C (P:=R1.flatten) (la:=la) (lb:=lb) (R:=R2.flatten ++ rest) G.sb hx1 hx2 (by rw[harr,e1];simp) rfl rfl rfl rfl (List.length_pos_iff.mpr n1) (List.length_pos_iff.mpr n2) s1 s2 λm st' pm sm ha B' hp => ?_
 have hml:m.length=la.length + lb.length:=by rw[pm.length_eq,List.length_append]
 have hps:(pendingOf st').toList.map sp2=p1 ++ (R1.flatten.length,m.length) :: p2:=by
  rw[hp]
  have hi2:i + 1 < ((pendingOf st).setIfInBounds i (R1.flatten.length,la.length + lb.length,c1)).size:=by rw[Array.size_setIfInBounds];exact hi
  unfold Array.eraseIdxIfInBounds
  rw[dif_pos hi2,Array.toList_eraseIdx,Array.toList_setIfInBounds,zhg,List.map_set,e2,<- e3,hml]
  simp[sp2,List.eraseIdx_append_of_length_le]
 refine h st' ⟨B',R1 ++ m :: R2,by rw[ha];simp,?_,?_⟩ ?_
 ·rw[<- hlen,e1];simp[hml];omega
 ·have z:=hm m sm hml
  rw[Nat.zero_add]at z
  rw[hps];exact z
 ·have l1:=congrArg List.length hps
  have l2:=congrArg List.length e2
  simp only[List.length_map,Array.length_toList,List.length_append,List.length_cons]at l1 l2
  omega
theorem zp0(c:Prop)[Decidable c](n:Nat):(if c then n - 1 else n)<=n:=by split <;> omega
theorem GR.kp{rest:List Keyed}{lo:Nat}{st st2:SortSt}(G:GR kd a₀ key rest lo st)(K:Kp lo st st2):GR kd a₀ key ((arrOf st2).toList.drop lo) lo st2:=by
 obtain⟨runs,harr,hlen,hR⟩:=G.ex
 refine⟨G.sb.of_kp K,runs,?_,hlen,by rw[K.pend];exact hR⟩
 have:(arrOf st2).toList.take lo=runs.flatten:=by
  have h1:(arrOf st2).toList.take lo=(arrOf st).toList.take lo:=by
   refine List.ext_getElem? λk => ?_
   by_cases hk:k < lo
   ·rw[List.getElem?_take_of_lt hk,List.getElem?_take_of_lt hk,Array.getElem?_toList,Array.getElem?_toList]
    exact K.low k hk
   ·rw[List.getElem?_eq_none (by rw[List.length_take];omega),List.getElem?_eq_none (by rw[List.length_take];omega)]
  rw[h1,harr,List.take_append_of_le_length (by omega),List.take_of_length_le (by omega)]
 rw[<- this,List.take_append_drop]
theorem GR.push{nr rest:List Keyed}{lo n:Nat}{st:SortSt}(G:GR kd a₀ key (nr ++ rest) lo st)(hn:nr.length=n)(h0:nr≠[])(hs:Srt key nr):GR kd a₀ key rest (lo + n) (SortSt.mk' (kindOf st) (arrOf st) ((pendingOf st).push (lo,n,0)) (gallopOf st) (failedOf st)):=by
 obtain⟨runs,harr,hlen,hR⟩:=G.ex
 refine⟨⟨G.sb.kind,G.sb.perm,G.sb.failed⟩,runs ++ [nr],?_,by simp[hlen,hn],?_⟩
 ·show (arrOf st).toList=_
  rw[harr];simp
 ·have z:=hR.snoc h0 hs
  rw[Nat.zero_add,hlen,hn]at z
  show Runs key 0 _ (((pendingOf st).push (lo,n,0)).toList.map sp2)
  rw[Array.toList_push,List.map_append]
  exact z
theorem GR.pow{rest:List Keyed}{lo:Nat}{st:SortSt}{f:Nat×Nat×Nat->Nat×Nat×Nat}{k:Nat}(hf:∀x,sp2 (f x)=sp2 x)(G:GR kd a₀ key rest lo st):GR kd a₀ key rest lo (SortSt.mk' (kindOf st) (arrOf st) ((pendingOf st).modify k f) (gallopOf st) (failedOf st)):=by
 obtain⟨runs,harr,hlen,hR⟩:=G.ex
 refine⟨⟨G.sb.kind,G.sb.perm,G.sb.failed⟩,runs,harr,hlen,?_⟩
 show Runs key 0 _ (((pendingOf st).modify k f).toList.map sp2)
 rw[Array.toList_modify,zj4 hf]
 exact hR
theorem Runs.one:∀{off:Nat} {rs:List (List Keyed)} {ps:List (Nat×Nat)},Runs key off rs ps->ps.length<=1->Srt key rs.flatten
 | _,_,_,.nil,_=>List.Pairwise.nil
 | _,_,_,.cons a b .nil,_=>by simpa using b
 | _,_,_,.cons _ _ (.cons _ _ _),h=>by simp at h
theorem zfl(C:Cmp prog w A s kd a₀ O key){st:SortSt}{Q:Unit->SortSt->Prop}(B:SB kd a₀ st)(hp:pendingOf st = #[])
  (h:∀st',SB kd a₀ st'->Srt key (arrOf st').toList->Q () st'):wpS (model prog w) A E s sortRuns' Q st:=by
 unfold sortRuns'
 walk_at "sort sortRuns"
 refine wpS_bind (wpS_get ?_)
 extract_lets size minrun z0
 have hsize:size=a₀.size:=B.size
 clear_value size minrun
 have G0:GR kd a₀ key (arrOf st).toList 0 st:=⟨B,[],rfl,rfl,by rw[hp];exact .nil⟩
 refine wpS_bind (wpS_mono (wpS_forRange (I:=λx c st'=>∃lo,c=(none,lo)/\x<=lo/\lo<=size/\∃rest,GR kd a₀ key rest lo st')
  (Q:=λc st'=>c=(none,size)/\∃rest,GR kd a₀ key rest size st') ?step ?fin ⟨0,rfl,Nat.le_refl _,Nat.zero_le _,_,G0⟩) ?post)
 case fin=>
  rintro c st' ⟨lo,rfl,h1,h2,G⟩
  have:lo=size:=by omega
  subst this
  exact⟨rfl,G⟩
 case step=>
  rintro x c st' _ hx ⟨lo,rfl,h1,h2,rest,G⟩
  dsimp -zeta only
  by_cases hge:lo ≥ size
  ·rw[if_pos hge]
   have:lo=size:=by omega
   subst this
   exact wpS_pure ⟨rfl,rest,G⟩
  rw[if_neg hge]
  refine wpS_bind (zij C G.sb (by omega) (by omega) λm st2 hm1 hm2 hs2 K2 => ?_)
  have G2:=G.kp K2
  have hz2:=G2.sb.size
  extract_lets jp
  have hjp:∀n st3,1<=n->lo + n<=size->SegS key (arrOf st3) lo n->GR kd a₀ key ((arrOf st3).toList.drop lo) lo st3->wpS (model prog w) A E s (jp () n) (λr st'=>match r with
    | .done c'=>c'=(none,size)/\∃rest,GR kd a₀ key rest size st'
    | .yield c'=>∃lo,c'=(none,lo)/\x + 1<=lo/\lo<=size/\∃rest,GR kd a₀ key rest lo st') st3:=by
   intro n st3 hn1 hn2 hs3 G3
   have hz3:=G3.sb.size
   have sN:=zpx hs3 (by omega)
   have lN:(((arrOf st3).toList.drop lo).take n).length=n:=by rw[List.length_take,List.length_drop,Array.length_toList];omega
   have nN:((arrOf st3).toList.drop lo).take n≠[]:=by intro z;rw[z]at lN;simp at lN;omega
   rw[<- List.take_append_drop n ((arrOf st3).toList.drop lo)]at G3
   refine wpS_bind (wpS_get ?_)
   extract_lets y0 jp2
   have hjp2:∀st4,GR kd a₀ key (((arrOf st3).toList.drop lo).take n ++ ((arrOf st3).toList.drop lo).drop n) lo st4->wpS (model prog w) A E s (jp2 ()) (λr st'=>match r with
     | .done c'=>c'=(none,size)/\∃rest,GR kd a₀ key rest size st'
     | .yield c'=>∃lo,c'=(none,lo)/\x + 1<=lo/\lo<=size/\∃rest,GR kd a₀ key rest lo st') st4:=by
    intro st4 G4
    exact wpS_bind (wpS_modify (wpS_pure ⟨lo + n,rfl,by omega,hn2,_,G4.push lN nN sN⟩))
   clear_value jp2
   show wpS _ _ _ _ (match (pendingOf st3).back? with | _=>_) _ _
   cases hb:(pendingOf st3).back? with
   | none=>exact hjp2 st3 G3
   | some y=>
    obtain⟨y1,y2,y3⟩:=y
    dsimp only
    refine wpS_bind (wpS_mono (wpS_forRange (I:=λ_ c st'=>c=(none,())/\GR kd a₀ key (((arrOf st3).toList.drop lo).take n ++ ((arrOf st3).toList.drop lo).drop n) lo st')
     (Q:=λc st'=>c=(none,())/\GR kd a₀ key (((arrOf st3).toList.drop lo).take n ++ ((arrOf st3).toList.drop lo).drop n) lo st') ?mstep (λ_ _ z=>z) ⟨rfl,G3⟩) ?mpost)
    case mpost=>
     rintro c st4 ⟨rfl,G4⟩
     dsimp only
     refine wpS_bind (wpS_modify (hjp2 _ (G4.pow ?_)))
     rintro⟨_,_,_⟩;rfl
    case mstep=>
     rintro y c st4 _ hy ⟨rfl,G4⟩
     refine wpS_bind (wpS_get ?_)
     show wpS _ _ _ _ (match (if (pendingOf st4).size > 1 then(pendingOf st4)[(pendingOf st4).size - 2]? else none) with | _=>_) _ _
     by_cases hsz:(pendingOf st4).size > 1
     ·rw[if_pos hsz]
      obtain⟨⟨u1,u2,u3⟩,hu⟩:∃u,(pendingOf st4)[(pendingOf st4).size - 2]? = some u:=⟨_,getElem?_pos _ _ (by omega)⟩
      rw[hu]
      dsimp only
      split
      ·exact wpS_pure ⟨rfl,G4⟩
      ·refine wpS_bind (zek C G4 (by show (pendingOf st4).size - 2 + 1 < (pendingOf st4).size;omega) λst5 G5 _ => ?_)
       simp only[Bool.not_true,Bool.false_eq_true,if_false]
       exact wpS_pure ⟨rfl,G5⟩
     ·rw[if_neg hsz]
      exact wpS_pure ⟨rfl,G4⟩
  clear_value jp
  dsimp only
  by_cases hlt:m < minrun
  ·rw[if_pos hlt]
   refine wpS_bind (wpS_lift (wpAny_rule ⟨rfl,?_⟩))
   refine wpS_bind (zgl C G2.sb (by omega) (by omega) hs2 λst3 hs3 K3 => ?_)
   simp only[Bool.not_true,Bool.false_eq_true,if_false]
   refine wpS_mono (hjp (min (size - lo) minrun) st3 (by omega) (by omega) hs3 (G2.kp K3)) λr st' hr => ?_
   cases r <;> exact hr
  ·rw[if_neg hlt]
   refine wpS_mono (hjp m st2 hm1 (by omega) hs2 G2) λr st' hr => ?_
   cases r <;> exact hr
 case post=>
  rintro c st1 ⟨rfl,rest,G⟩
  dsimp only
  have hrest:rest=[]:=by
   obtain⟨runs,harr,hlen,hR⟩:=G.ex
   have l:=congrArg List.length harr
   rw[List.length_append,Array.length_toList,G.sb.size,hlen]at l
   exact List.eq_nil_of_length_eq_zero (by omega)
  subst hrest
  have hpe:(pendingOf st1).size<=size:=by
   obtain⟨runs,harr,hlen,hR⟩:=G.ex
   have:=hR.enough
   rw[hlen,List.length_map,Array.length_toList]at this
   exact this
  refine wpS_bind (wpS_mono (wpS_forRange (I:=λx c st'=>c=(none,())/\GR kd a₀ key [] size st'/\(pendingOf st').size + x<=size)
   (Q:=λc st'=>c=(none,())/\GR kd a₀ key [] size st'/\(pendingOf st').size<=1) ?fstep ?ffin ⟨rfl,G,by omega⟩) ?fpost)
  case ffin=>
   rintro c st' ⟨rfl,G',hz⟩
   exact⟨rfl,G',by omega⟩
  case fpost=>
   rintro c st' ⟨rfl,G',hz⟩
   obtain⟨runs,harr,hlen,hR⟩:=G'.ex
   refine wpS_pure (h st' G'.sb ?_)
   rw[harr,List.append_nil]
   exact hR.one (by rw[List.length_map,Array.length_toList];exact hz)
  case fstep=>
   rintro x c st' _ hx ⟨rfl,G',hz⟩
   refine wpS_bind (wpS_get ?_)
   show wpS _ _ _ _ (if (pendingOf st').size<=1 then _ else _) _ _
   by_cases hle:(pendingOf st').size<=1
   ·rw[if_pos hle]
    exact wpS_pure ⟨rfl,G',hle⟩
   ·rw[if_neg hle]
    refine wpS_bind (zek C G' ?_ λst5 G5 h5 => ?_)
    ·show (if _ then(pendingOf st').size - 2 - 1 else(pendingOf st').size - 2) + 1 < (pendingOf st').size
     exact Nat.lt_of_le_of_lt (Nat.succ_le_succ (zp0 _ _)) (by show (pendingOf st').size - 2 + 1 < (pendingOf st').size;omega)
    ·simp only[Bool.not_true,Bool.false_eq_true,if_false]
     exact wpS_pure ⟨rfl,G5,by omega⟩
end
end TS
namespace TS
open PySem PyProof.Rows
open HT (lexLt)
open PySem.W (KatLex kat_nil kat_cons kat_yes kat_no kat_one kat_lt)
theorem ze4:∀x:List Int,lexLt x x=false
 | []=>rfl
 | a :: x=>by rw[HT.lexLt_cons,if_pos rfl];exact ze4 x
theorem zjm:∀{x y z:List Int},lexLt x y=true->lexLt y z=true->lexLt x z=true
 | [],[],_,h,_=>by cases h
 | [],_ :: _,[],_,h=>by cases h
 | [],_ :: _,_ :: _,_,_=>rfl
 | _ :: _,[],_,h,_=>by cases h
 | _ :: _,_ :: _,[],_,h=>by cases h
 | a :: x,b :: y,c :: z,h1,h2=>by
  rw[HT.lexLt_cons]at h1 h2 ⊢
  by_cases e1:a=b
  ·rw[if_pos e1]at h1
   by_cases e2:b=c
   ·rw[if_pos e2]at h2
    rw[if_pos (e1.trans e2)]
    exact zjm h1 h2
   ·rw[if_neg e2]at h2
    rw[if_neg (by omega),e1]
    exact h2
  ·rw[if_neg e1]at h1
   have l1:a < b:=of_decide_eq_true h1
   by_cases e2:b=c
   ·rw[if_pos e2]at h2
    rw[if_neg (by omega)]
    exact decide_eq_true (by omega)
   ·rw[if_neg e2]at h2
    have l2:b < c:=of_decide_eq_true h2
    rw[if_neg (by omega)]
    exact decide_eq_true (by omega)
theorem zfc:∀{x y:List Int},x≠y->lexLt x y = !lexLt y x
 | [],[],h=>absurd rfl h
 | [],_ :: _,_=>rfl
 | _ :: _,[],_=>rfl
 | a :: x,b :: y,h=>by
  rw[HT.lexLt_cons,HT.lexLt_cons]
  by_cases e:a=b
  ·rw[if_pos e,if_pos e.symm]
   exact zfc λz=>h (by rw[e,z])
  ·rw[if_neg e,if_neg (Ne.symm e)]
   by_cases l:a < b
   ·rw[decide_eq_true l,decide_eq_false (by omega)];rfl
   ·rw[decide_eq_false l,decide_eq_true (by omega)];rfl
def lexO:KeyOrd where
 α:=List Int
 blt:=lexLt
 irrefl:=ze4
 trans:=λ_ _ _ h1 h2=>zjm h1 h2
 negTrans:=λa b c h=>by
  cases q:lexLt a b with
  | true=>exact .inl rfl
  | false=>
   refine .inr ?_
   by_cases e:a=b
   ·rw[<- e];exact h
   ·have z:=zfc e
    rw[q]at z
    have z':lexLt b a=true:=by simpa using z.symm
    exact zjm z' h
 total:=λa b h1 h2=>by
  by_cases e:a=b
  ·exact e
  ·have z:=zfc e
   rw[h1,h2]at z;cases z
section
variable{prog:Program}{w:World}{A:Around}{s:Shared}
theorem zjl(b:Bool){x y:Int}{t u:Tok}{Q:Bool->Shared->Prop}{E:Value->Shared->Prop}(h:Q (decide (x < y)) s):wpAny (model prog w) A (oneLt' b (.int x t) (.int y u)) Q E s:=by
 cases b with
 | true=>exact oneLt_int h
 | false=>exact kat_one _ _ (PyProof.Rows.lt_int (show W.BoolBack Q (.bool (decide (x < y))) s from h))
theorem zk3{b:Bool}{Q:Bool->Shared->Prop}:∀(ns ms:List Int) {vs us:List Value} (i:Nat) (fin:Bool),IntsAre vs ns->IntsAre us ms->fin=decide (ns.length < ms.length)->Q (lexLt ns ms) s ->
  KatLex prog w A b fin Q (vs.zip us) i s
 | [],[],vs,us,i,fin,hv,hu,hf,h=>by
  cases hv;cases hu
  rw[hf];exact kat_nil h
 | [],_ :: _,vs,us,i,fin,hv,hu,hf,h=>by
  cases hv;cases hu
  rw[HT.lexLt_nil_cons]at h
  rw[hf];exact kat_nil (by simpa using h)
 | _ :: _,[],vs,us,i,fin,hv,hu,hf,h=>by
  cases hv;cases hu
  rw[HT.lexLt_cons_nil]at h
  rw[hf];exact kat_nil (by simpa using h)
 | n :: ns,m :: ms,_,_,i,fin,.cons _ t hv,.cons _ u hu,hf,h=>by
  rw[List.zip_cons_cons]
  rw[HT.lexLt_cons]at h
  obtain⟨e,he,hiff⟩:=HT.eqAt_int A s n t m u
  refine kat_cons (he prog w _ _ ?_)
  cases e with
  | true=>
   rw[if_pos (hiff.mp rfl)]at h
   exact kat_yes (zk3 ns ms (i + 1) fin hv hu (by rw[hf];simp) h)
  | false=>
   rw[if_neg (λq=>absurd (hiff.mpr q) Bool.false_ne_true)]at h
   exact kat_no (zjl _ h)
def TupAt(h:Heap)(v:Value)(ns:List Int):Prop:=∃a its,v = .ref a/\IsTup h a its/\IntsAre its.toList ns
theorem TupAt.uniq{h:Heap}{v:Value}{ns ms:List Int}(h1:TupAt h v ns)(h2:TupAt h v ms):ns=ms:=by
 obtain⟨a,its,rfl,⟨o,e,_,n,d⟩,i1⟩:=h1
 obtain⟨a',its',ea,⟨o',e',_,n',d'⟩,i2⟩:=h2
 cases ea
 rw[e]at e';cases e'
 rw[d]at d';cases d'
 rw[<- i1.nums,<- i2.nums]
open Classical in
noncomputable def tupKey(h:Heap)(x:Keyed):List Int:=if e:∃ns,TupAt h x.1 ns then e.choose else []
end
end TS
namespace TS
open PySem PyProof.Rows
open L2 (V Vals RelV)
section
variable{α β γ δ : Type}{R : α->β->Prop}
theorem ze0{l l':List β}(p:l.Perm l'):∀{k:List α},Paired R k l->∃k',k'.Perm k/\Paired R k' l':=by
 induction p with
 | nil=>intro k h;exact⟨k,.refl _,h⟩
 | cons x _ ih=>
  intro k h
  cases h with
  | cons r t=>
   obtain⟨k',p',h'⟩:=ih t
   exact⟨_ :: k',p'.cons _,.cons r h'⟩
 | swap x y l=>
  intro k h
  cases h with
  | cons r t=>
   cases t with
   | cons r' t=>exact⟨_ :: _ :: _,.swap _ _ _,.cons r' (.cons r t)⟩
 | trans _ _ ih1 ih2=>
  intro k h
  obtain⟨k1,p1,h1⟩:=ih1 h
  obtain⟨k2,p2,h2⟩:=ih2 h1
  exact⟨k2,p2.trans p1,h2⟩
theorem zjq{k:List α}{l:List β}(h:Paired R k l):∀p∈k,∃x∈l,R p x:=by
 induction h with
 | nil=>intro p hp;cases hp
 | cons r _ ih=>
  intro p hp
  rcases List.mem_cons.mp hp with rfl | hp
  ·exact⟨_,.head _,r⟩
  ·obtain⟨x,hx,z⟩:=ih p hp;exact⟨x,.tail _ hx,z⟩
theorem zfa{k:List α}{l:List β}(h:Paired R k l):∀x∈l,∃p∈k,R p x:=by
 induction h with
 | nil=>intro p hp;cases hp
 | cons r _ ih=>
  intro p hp
  rcases List.mem_cons.mp hp with rfl | hp
  ·exact⟨_,.head _,r⟩
  ·obtain⟨x,hx,z⟩:=ih p hp;exact⟨x,.tail _ hx,z⟩
theorem zdh{S : β->β->Prop}{T : α->α->Prop}(hst:∀p q x y,R p x->R q y->S x y->T p q){k:List α}{l:List β}(h:Paired R k l):l.Pairwise S->k.Pairwise T:=by
 induction h with
 | nil=>intro _;exact .nil
 | cons r t ih=>
  intro hp
  obtain⟨h1,h2⟩:=List.pairwise_cons.mp hp
  refine List.pairwise_cons.mpr ⟨λq hq => ?_,ih h2⟩
  obtain⟨y,hy,z⟩:=zjq t q hq
  exact hst _ _ _ _ r z (h1 y hy)
theorem zf1{R' : γ->δ->Prop}{k:List α}{l:List β}(h:Paired R k l):∀{k':List γ} {l':List δ},Paired R' k' l'->Paired (λp x=>R p.1 x.1/\R' p.2 x.2) (k.zip k') (l.zip l'):=by
 induction h with
 | nil=>intro k' l' _;exact .nil
 | cons r _ ih=>
  intro k' l' h'
  cases h' with
  | nil=>exact .nil
  | cons r' t'=>exact .cons ⟨r,r'⟩ (ih t')
theorem zf0{S : γ->δ->Prop}{f : α->γ}{g : β->δ}(hfg:∀p x,R p x->S (f p) (g x)){k:List α}{l:List β}(h:Paired R k l):Paired S (k.map f) (l.map g):=by
 induction h with
 | nil=>exact .nil
 | cons r _ ih=>exact .cons (hfg _ _ r) ih
end
section
variable{prog:Program}{w:World}{A:Around}{E:Value->Shared->Prop}{s:Shared}
theorem zmm{b:Bool}{st:SortSt}{kS D:Addr}{ks:Array Value}{e e1:Nat}{P:PySem.Fin->Shared->Prop}(hk:s.heap.get? kS=some (seqObj "list" ks e))(hD:s.heap.get? D=some (seqObj "list" #[] e1))(hne:D≠kS)(hf:failedOf st=none)
  (hz:ks.size<=sizeLine) (hz2:(arrOf st).size<=sizeLine)
  (h:P (.done (.ret .none)) { s with heap:=(s.heap.update kS (Obj.mapSeq λ_ => #[])).update D (Obj.mapSeq λ_=>if b=true then((arrOf st).map (·.2)).reverse else(arrOf st).map (·.2)) }) :
  wpAny (model prog w) A (ksk_tail D b e1 (.ref kS) st) P E s:=by
 have s1:=Heap.SameBut.update s.heap kS (Obj.mapSeq λ_=>(#[]:Array Value))
 have hD1:(s.heap.update kS (Obj.mapSeq λ_=>(#[]:Array Value))).get? D=some (seqObj "list" #[] e1):=(s1.2 D hne).trans hD
 unfold ksk_tail
 dsimp only
 refine wpAny_bind (listUpdate_at hk rfl ?_ hz (Nat.zero_le _))
 refine wpAny_bind (wpAny_letGo ?_)
 refine wpAny_bind (seqEpoch_at hD1 rfl ?_)
 refine wpAny_bind (listUpdate_at hD1 rfl ?_ (Nat.zero_le _) (by
  split
  ·rw[Array.size_reverse,Array.size_map];omega
  ·rw[Array.size_map];omega))
 rw[hf]
 simp only[bne_self_eq_false,Bool.false_eq_true,if_false]
 exact wpAny_pure h
end
end TS
namespace L2
open PySem PySem.Spec PyProof.Rows TS
def skGo(sp:V->Hp->VK->Prop):List V->List V->Hp->(List V->Hp->Prop)->Prop
 | [],ks,H,F=>F ks H
 | x :: xs,ks,H,F=>sp x H λk H1=>skGo sp xs (ks ++ [k]) H1 F
def skEnd(K:W.Frag)(b:Bool)(all:List V)(G:List V->Hp->Prop)(ks:List V)(H:Hp):Prop:=
 ∃kis:List (List Int),Paired (λns k=>∃t,k=V.ref t/\SqT K H t (ns.map V.int)/\ns≠[]) kis ks /\
  ∀ps:List (List Int×V),ps.Perm (kis.zip all)->ps.Pairwise (λp q=>(if b=true then HT.lexLt p.1 q.1 else HT.lexLt q.1 p.1)=false)->G (ps.map (·.2)) H
def BRunA(X:Cx)(A:Around)(σ : St)(pl:List (Addr×Obj))(q:Addr)(oq:Obj)(sp:V->Hp->VK->Prop):Prop:=∀(pins:List (Addr×Obj)) (s:Shared) (H:Hp) (Q:VK) (x:V) (u:Value),Inv X pins σ H s->(∀p∈(q,oq) :: pl,p∈pins)->RelV x u->sp x H Q ->
 wpAny (model X.prog X.w) A (call (.ref q) [u]) (EP X pins σ Q) (λ_ _=>False) s
section
variable{X:Cx}{A:Around}{E:Value->Shared->Prop}{pins:List (Addr×Obj)}{σ : St}{q kS D:Addr}{oD oq:Obj}{sp:V->Hp->VK->Prop}{H₁:Hp}{F:List V->Hp->Prop}
theorem zpu(B:BRunA X A σ pins q oq sp)(hKD:D≠kS)(hKq:q≠kS)(fK:FpOk X pins H₁ kS){body:Value->PUnit->Sem (ForInStep PUnit)}
  (hb:∀(x:Value) (s:Shared) (R:Value->Shared->Prop),wpAny (model X.prog X.w) A (call (.ref q) [x]) (λk s'=>∃(kus:List Value) (e:Nat),s'.heap.get? kS=some (seqObj "list" kus.toArray e)/\kus.length<=sizeLine/\R k { s' with heap:=s'.heap.update kS (Obj.mapSeq (·.push k)) }) (λ_ _=>False) s ->
   wpAny (model X.prog X.w) A (body x ⟨⟩) (λr s'=>r = .yield ⟨⟩/\∃k,R k s') E s) :
  ∀(r:List V) (us:List Value) (ks:List V) (kus:List Value) (e:Nat) (H:Hp) (s:Shared),Vals r us->Vals ks kus->ks.length + r.length<=sizeLine->skGo sp r ks H F ->
   Inv X ((kS,seqObj "list" kus.toArray e) :: (D,oD) :: (q,oq) :: pins) σ H s ->
   wpAny (model X.prog X.w) A (forIn us PUnit.unit body) (λ_ s'=>∃ks' kus' e' H',Vals ks' kus'/\ks'.length=ks.length + r.length/\Inv X ((kS,seqObj "list" kus'.toArray e') :: (D,oD) :: (q,oq) :: pins) σ H' s'/\F ks' H') E s:=by
 intro r
 induction r with
 | nil=>
  intro us ks kus e H s hr hk hz h I
  cases hr
  rw[List.forIn_nil]
  exact wpAny_pure ⟨ks,kus,e,H,hk,rfl,I,h⟩
 | cons x r ih=>
  intro us ks kus e H s hr hk hz h I
  cases hr with
  | cons r1 t=>
   rename_i u us
   rw[List.forIn_cons]
   have hz':ks.length + (r.length + 1)<=sizeLine:=hz
   refine wpAny_bind (wpAny_mono (hb u s (λk s''=>∃kv H1 e',RelV kv k/\Inv X ((kS,seqObj "list" (kus ++ [k]).toArray e') :: (D,oD) :: (q,oq) :: pins) σ H1 s''/\skGo sp r (ks ++ [kv]) H1 F) ?_) (λrr s' hq => ?_) λ_ _ x=>x)
   ·refine wpAny_mono (B _ s H _ x u I (λp hp => .tail _ (.tail _ hp)) r1 h) (λk s' he => ?_) λ_ _ x=>x
    obtain⟨kv,H1,I2,rk,hgo⟩:=he
    have nk:=I2.pin (kS,seqObj "list" kus.toArray e) (List.mem_append_right _ (.head _))
    have sb:=Heap.SameBut.update s'.heap kS (Obj.mapSeq (·.push k))
    have ea:kus.toArray.push k=(kus ++ [k]).toArray:=by simp
    obtain⟨c2,hc2⟩:∃c2,(s'.heap.update kS (Obj.mapSeq (·.push k))).get? kS=some (seqObj "list" (kus ++ [k]).toArray c2):=⟨_,by rw[<- ea];exact get?_update_seq nk.1 (·.push k)⟩
    have fK':FpOk X ([] ++ ((D,oD) :: (q,oq) :: pins)) H₁ kS:=fK.more (pa:=[(D,oD),(q,oq)]) (by simp[hKD,hKq])
    exact⟨kus,e,nk.1,by rw[<- hk.length];omega,kv,H1,c2,rk,Inv.repin (pa:=[]) (t':=s'.toks) I2 fK' (λb' o hb' e'=>(sb.2 b' hb').trans e') hc2 (by intro v z;cases z),hgo⟩
   ·obtain⟨rfl,k,kv,H1,e',rk,I3,hgo⟩:=hq
    show wpAny (model X.prog X.w) A (forIn us PUnit.unit body) _ E s'
    refine wpAny_mono (ih us (ks ++ [kv]) (kus ++ [k]) e' H1 s' t (hk.append (.cons rk .nil)) (by simp;omega) hgo I3) (λ_ s4 hd => ?_) λ_ _ x=>x
    obtain⟨ks',kus',e4,H',v',l',I',f'⟩:=hd
    exact⟨ks',kus',e4,H',v',by rw[l'];simp;omega,I',f'⟩
end
end L2
namespace L2
open PySem PySem.Spec PyProof.Rows TS
def tSortK(K:W.Frag)(C:Addr)(m:Str)(sp:Sp)(dvs:List V)(b:Bool)(te ta:TE):TE:=λσ H Q=>te σ H λv H1=>ta σ H1 λo H2=>∃(a dx:Addr) (fs:List (Str×V)) (l:Addr) (all:List V),o = .ref a/\H2 a=some (.ins C dx fs)/\fs.lookup m=none /\
 v = .ref l/\H2 l=some (.lst all)/\skGo (λx H Q=>sp (.ref a :: x :: dvs) H Q E0) all [] H2 (skEnd K b all λout H'=>∀D,H' D=none->Q (.ref D) (upd H' D (.lst out)))
section
variable{X:Cx}{k j:Nat}{C:Addr}{ps:List Str}{sp:Sp}{dvs:List V}{ds:List Value}{m:Str}{p pos apos kpos rpos cpos:Pos}{e o:Expr}{te ta:TE}
end
end L2
namespace LC
open PySem PyProof.Rows PySem.MeetsSeq3
end LC
namespace L2
open PySem PySem.Spec PyProof.Rows
variable{X:Cx}
def rGtL(K:W.Frag):R2:=λx y H Q=>∃(a b:Addr) (ns ms:List Int),x = .ref a/\y = .ref b/\H a=some (.lst (ns.map V.int))/\H b=some (.lst (ms.map V.int))/\Q (.bl (HT.lexLt ms ns)) H
end L2
namespace LC
open PySem PyProof.Rows TS
section
variable{prog:Program}{w:World}{A:Around}{s:Shared}
def LstAt(h:Heap)(v:Value)(ns:List Int):Prop:=∃a its n,v = .ref a/\h.get? a=some { cls := .type "list",dict:=none,data := .seq its n,slots := #[] }/\IntsAre its.toList ns
open Classical in
noncomputable def lstKey(h:Heap)(x:Keyed):List Int:=if e:∃ns,LstAt h x.1 ns then e.choose else []
end
end LC
namespace LC
open PySem PyProof.Rows TS
open L2 (V Vals RelV)
section
variable{prog:Program}{w:World}{A:Around}{E:Value->Shared->Prop}{s:Shared}
end
end LC
namespace L2
open PySem PySem.Spec PyProof.Rows TS LC
def tSortN(b:Bool)(te:TE):TE:=λσ H Q=>te σ H λv H1=>∃(l:Addr) (all:List V) (kis:List (List Int)),v = .ref l/\H1 l=some (.lst all)/\Paired (λns x=>∃t,x=V.ref t/\H1 t=some (.lst (ns.map V.int))) kis all /\
 ∀ps:List (List Int×V),ps.Perm (kis.zip all)->ps.Pairwise (λp q=>(if b=true then HT.lexLt p.1 q.1 else HT.lexLt q.1 p.1)=false)->∀D,H1 D=none->Q (.ref D) (upd H1 D (.lst (ps.map (·.2))))
section
variable{X:Cx}{j:Nat}{p pos rpos cpos:Pos}{e:Expr}{te:TE}
end
end L2
set_option Elab.async false
set_option linter.all false
set_option maxRecDepth 100000
namespace L2
open PySem PySem.Spec PyProof.Rows
section
variable{X:Cx}
def rCount(K:W.Frag):V->List V->Hp->VK->Prop:=λx vs H Q=>∃(l:Addr) (xs:List V) (y:V) (ds:List PyData) (d:PyData),x = .ref l/\vs=[y]/\SqL K H l xs/\RdsAll K H xs ds/\Rds K H y d /\
 PyData.canLayAll0 ds=true/\d.canLay0=true/\d.depth<=60/\Q (.int ((ds.countP λe=>PyData.eqv e d:Nat):Int)) H
end
end L2
namespace L2
open PySem PySem.Spec PyProof.Rows
theorem znk{J:It}{H1:Hp}{n:Nat}{P:Nat->V->Hp->Prop}{g:TG}{tc:TT}{te:TE}{Q:VK}{σ0:St}{D:Addr}(S:Walk J H1 n P)(hD:H1 D=none)(hn:n<=sizeLine)(Sv:St->Prop)(p:Nat->Bool)(F:Nat->V->Hp->Prop)
  (monoS:∀i v H H',Same H H'->F i v H->F i v H') (monoU:∀i v H ys ys',H D=some (.lst ys)->F i v H->F i v (upd H D (.lst ys'))) (h0:Sv σ0)
  (step:∀i x σ' H2,i < n->Sv σ'->Same H1 H2->P i x H2->(∃ys,H2 D=some (.lst ys))->∀(Ny:V->St->Hp->Prop) (Nn:St->Hp->Prop),(∀v σ2 H5,Sv σ2->Same H2 H5->F i v H5->p i=true->Ny v σ2 H5)->(∀σ2 H4,Sv σ2->Same H2 H4->p i=false->Nn σ2 H4) ->
   g x σ' H2 λσ2 H3=>tc σ2 H3 λb H4=>if b=true then te σ2 H4 λv H5=>Ny v σ2 H5 else Nn σ2 H4)
  (hQ:∀H' ys,Same H1 H'->H' D=some (.lst ys)->Paired (λi v=>F i v H') ((List.range n).filter p) ys->Q (.ref D) H') :
  ∃W:Nat->Nat->List V->St->Hp->Prop,(∃m,W 0 m [] σ0 (upd H1 D (.lst [])))/\∀i m ys σ' H',W i m ys σ' H'->H' D=some (.lst ys) /\
  ((J.stop i H'/\Q (.ref D) H')\/(J.go i H'/\ys.length < sizeLine/\∀x H2,J.yld i H' x H2->g x σ' H2 λσ2 H3=>tc σ2 H3 λb H4=>
   if b=true then te σ2 H4 λv H5=>H5 D=some (.lst ys)/\∃m',m' < m/\W (i + 1) m' (ys ++ [v]) σ2 (upd H5 D (.lst (ys ++ [v])))
   else ∃m',m' < m/\W (i + 1) m' ys σ2 H4)):=by
 refine⟨λi m ys σ' H'=>m=n - i/\i<=n/\Sv σ'/\Same H1 H'/\H' D=some (.lst ys)/\Paired (λj v=>F j v H') ((List.range i).filter p) ys,⟨n,rfl,Nat.zero_le _,h0,Same.upd hD,zaf,.nil⟩,?_⟩
 rintro i m ys σ' H' ⟨rfl,hi,hs,hS,hL,hF⟩
 refine⟨hL,?_⟩
 have rs:(List.range (i + 1)).filter p=(List.range i).filter p ++ (if p i=true then [i] else []):=by
  rw[List.range_succ,List.filter_append]
  cases q:p i <;> simp[q]
 by_cases hlt:i < n
 ·refine .inr ⟨S.go i H' hS hlt,?_,λx H2 y => ?_⟩
  ·have l1:=hF.length
   have l2:((List.range i).filter p).length<=(List.range i).length:=List.length_filter_le _ _
   rw[List.length_range]at l2
   omega
  ·obtain⟨e2,hP⟩:=S.yld i H' x H2 hS hlt y
   refine step i x σ' H2 hlt hs (hS.trans e2) hP ⟨ys,e2 _ _ hL⟩ _ _ (λv σ2 H5 s2 e5 f5 hp => ?_) λσ2 H4 s2 e4 hp => ?_
   ·have l5:H5 D=some (.lst ys):=e5 _ _ (e2 _ _ hL)
    refine⟨l5,n - (i + 1),by omega,rfl,hlt,s2,((hS.trans e2).trans e5).updR hD,zaf,?_⟩
    rw[rs,if_pos hp]
    refine Paired.snoc (Paired.imp' (λj w q => ?_) hF) (monoU i v H5 ys _ l5 f5)
    exact monoU j w H5 ys _ l5 (monoS j w H' H5 (e2.trans e5) q)
   ·refine⟨n - (i + 1),by omega,rfl,hlt,s2,(hS.trans e2).trans e4,e4 _ _ (e2 _ _ hL),?_⟩
    rw[rs,if_neg (by rw[hp];decide),List.append_nil]
    exact Paired.imp' (λj w q=>monoS j w H' H4 (e2.trans e4) q) hF
 ·have e:i=n:=by omega
  subst e
  exact .inl ⟨S.stop H' hS,hQ H' ys hS hL hF⟩
end L2
set_option Elab.async false
set_option linter.all false
set_option maxRecDepth 100000
namespace L2
open PySem PySem.Spec PyProof.Rows
section
variable{κ : Type}[DecidableEq κ]
def valV(kvs:List (κ×V))(k : κ):Option V:=(kvs.find? λkv=>decide (kv.1=k)).map (·.2)
def putK(kvs:List (κ×V))(k : κ)(v:V):List (κ×V):=
 if (kvs.any λkv=>decide (kv.1=k))=true then kvs.map (λkv=>if kv.1=k then(kv.1,v) else kv) else kvs ++ [(k,v)]
def dropK(kvs:List (κ×V))(k : κ):List (κ×V):=kvs.filter λkv=>decide (kv.1≠k)
theorem zd0{p : κ×V}{r:List (κ×V)}{k : κ}(e:p.1=k):valV (p :: r) k=some p.2:=by simp[valV,List.find?_cons,e]
theorem zd3{p : κ×V}{r:List (κ×V)}{k : κ}(e:¬p.1=k):valV (p :: r) k=valV r k:=by simp[valV,List.find?_cons,e]
theorem ziy(k : κ):∀kvs:List (κ×V),(kvs.any λkv=>decide (kv.1=k))=(valV kvs k).isSome
 | []=>rfl
 | p :: r=>by
  rw[List.any_cons]
  by_cases e:p.1=k
  ·simp only[zd0 e,decide_eq_true e,Bool.true_or,Option.isSome_some]
  ·rw[zd3 e,decide_eq_false e,Bool.false_or];exact ziy k r
theorem zfp(kvs:List (κ×V))(k : κ)(v:V):(putK kvs k v).length<=kvs.length + 1:=by
 unfold putK
 split
 ·rw[List.length_map];omega
 ·rw[List.length_append,List.length_cons,List.length_nil];omega
theorem RelO.isSome_eq{o:Option V}{u:Option Value}(r:RelO o u):o.isSome=u.isSome:=by
 cases o with
 | none=>cases u with
  | none=>rfl
  | some _=>exact(show False from r).elim
 | some _=>cases u with
  | none=>exact(show False from r).elim
  | some _=>rfl
theorem KV.val{kvs:List (κ×V)}{vs:List (κ×Value)}(r:KV kvs vs)(k : κ):RelO (valV kvs k) (valueAt vs k):=by
 unfold KV at r
 induction r with
 | nil=>exact True.intro
 | @cons p q ps qs h t ih=>
  obtain⟨h1,h2⟩:=h
  by_cases e:p.1=k
  ·have e':q.1=k:=h1.symm.trans e
   have b:valueAt (q :: qs) k=some q.2:=by simp[valueAt,List.find?_cons,e']
   rw[zd0 e,b];exact h2
  ·have e':¬q.1=k:=λz=>e (h1.trans z)
   have b:valueAt (q :: qs) k=valueAt qs k:=by simp[valueAt,List.find?_cons,e']
   rw[zd3 e,b];exact ih
theorem KV.any{kvs:List (κ×V)}{vs:List (κ×Value)}(r:KV kvs vs)(k : κ):(kvs.any λkv=>decide (kv.1=k))=vs.any λkv=>decide (kv.1=k):=by
 unfold KV at r
 induction r with
 | nil=>rfl
 | cons h t ih=>rw[List.any_cons,List.any_cons,ih,h.1]
theorem KV.repl{kvs:List (κ×V)}{vs:List (κ×Value)}(r:KV kvs vs)(k : κ){y:V}{u:Value}(ry:RelV y u) :
  KV (kvs.map λkv=>if kv.1=k then(kv.1,y) else kv) (vs.map λkv=>if kv.1=k then(kv.1,u) else kv):=by
 unfold KV at r ⊢
 induction r with
 | nil=>exact .nil
 | @cons p q ps qs h t ih=>
  rw[List.map_cons,List.map_cons]
  refine .cons ?_ ih
  obtain⟨h1,h2⟩:=h
  by_cases e:p.1=k
  ·rw[if_pos e,if_pos (h1.symm.trans e)];exact⟨h1,ry⟩
  ·rw[if_neg e,if_neg (λz=>e (h1.trans z))];exact⟨h1,h2⟩
theorem KV.put{kvs:List (κ×V)}{vs:List (κ×Value)}(r:KV kvs vs)(k : κ){y:V}{u:Value}(ry:RelV y u):KV (putK kvs k y) (stored vs k u):=by
 unfold putK stored
 rw[r.any k]
 by_cases e:(vs.any λkv=>decide (kv.1=k))=true
 ·rw[if_pos e,if_pos e];exact r.repl k ry
 ·rw[if_neg e,if_neg e];exact Paired.snoc r ⟨rfl,ry⟩
theorem KV.length{kvs:List (κ×V)}{vs:List (κ×Value)}(r:KV kvs vs):kvs.length=vs.length:=Paired.length r
end
theorem zom{P:Program}{w:World}{k:Key}{u:Value}(r:RelV (kV k) u):(mixKind P w).is k u=true:=by
 cases k with
 | inl i=>obtain⟨t,e⟩:=(show ∃t,u=Value.int i t from r);subst e;exact zh4 P w i t
 | inr x=>obtain⟨t,e⟩:=(show ∃t,u=Value.str x t from r);subst e;exact zil P w x t
theorem zhp{P:Program}{w:World}:∀{ks:List Key} {us:List Value},Vals (ks.map kV) us->ItemsAre (mixKind P w) ks us
 | [],_,r=>by rw[List.map_nil]at r;cases r;exact .nil
 | k :: ks,_,r=>by
  rw[List.map_cons]at r
  cases r with
  | cons h t=>exact .cons (zom h) (zhp t)
abbrev KT(H:Hp):List (List Key×V)->List (List Key×Addr×Value)->Prop:=Paired λp q=>p.1=q.1/\H q.2.1=some (.tup (p.1.map kV))/\RelV p.2 q.2.2
theorem KT.val{H:Hp}{kvs:List (List Key×V)}{xs:List (List Key×Addr×Value)}(r:KT H kvs xs)(k:List Key):RelO (valV kvs k) ((atKey xs k).map (·.2)):=by
 induction r with
 | nil=>exact True.intro
 | @cons p q ps qs h t ih=>
  obtain⟨h1,_,h2⟩:=h
  by_cases e:p.1=k
  ·have e':q.1=k:=h1.symm.trans e
   have b:atKey (q :: qs) k=some q.2:=by simp[atKey,List.find?_cons,e']
   rw[zd0 e,b];exact h2
  ·have e':¬q.1=k:=λz=>e (h1.trans z)
   have b:atKey (q :: qs) k=atKey qs k:=by simp[atKey,List.find?_cons,e']
   rw[zd3 e,b];exact ih
theorem KT.repl{H:Hp}{kvs:List (List Key×V)}{xs:List (List Key×Addr×Value)}(r:KT H kvs xs)(k:List Key){y:V}{u:Value}(ry:RelV y u) :
  KT H (kvs.map λkv=>if kv.1=k then(kv.1,y) else kv) (xs.map (putAt k u)):=by
 induction r with
 | nil=>exact .nil
 | @cons p q ps qs h t ih=>
  rw[List.map_cons,List.map_cons]
  refine .cons ?_ ih
  obtain⟨h1,h2,h3⟩:=h
  unfold putAt
  by_cases e:p.1=k
  ·rw[if_pos e,if_pos (h1.symm.trans e)];exact⟨h1,h2,ry⟩
  ·rw[if_neg e,if_neg (λz=>e (h1.trans z))];exact⟨h1,h2,h3⟩
theorem KT.put{H:Hp}{kvs:List (List Key×V)}{xs:List (List Key×Addr×Value)}(r:KT H kvs xs)(k:List Key){b:Addr}{y:V}{u:Value}(hb:H b=some (.tup (k.map kV)))(ry:RelV y u) :
  KT H (putK kvs k y) (storedH xs k b u):=by
 have e:(kvs.any λkv=>decide (kv.1=k))=(atKey xs k).isSome:=by
  rw[ziy,(r.val k).isSome_eq,Option.isSome_map]
 unfold putK storedH
 rw[e]
 by_cases q:(atKey xs k).isSome=true
 ·rw[if_pos q,if_pos q];exact r.repl k ry
 ·rw[if_neg q,if_neg q];exact Paired.snoc r ⟨rfl,hb,ry⟩
theorem KT.keeps{H H':Hp}{kvs:List (List Key×V)}{xs:List (List Key×Addr×Value)}(r:KT H kvs xs)(ht:∀b ys,H b=some (.tup ys)->H' b=some (.tup ys)):KT H' kvs xs:=
 Paired.mapP r λ_ _ z=>⟨z.1,ht _ _ z.2.1,z.2.2⟩
section
variable{P:Program}{w:World}{H:Hp}{h:Heap}{a:Addr}
theorem zqt{u:HO}(ok:HOk P w H h)(e:Rd H a u):ObjOk P w H h a u:=e.ok ok
theorem zm1{kvs:List (Key×V)}(ok:HOk P w H h)(e:Rd H a (.dK kvs)):kvs.length<=sizeLine/\(a == sysModules)=false/\∃vs,KV kvs vs/\h.DictOf (mixKind P w) a vs:=
 show ObjOk P w H h a (.dK kvs) from zqt ok e
theorem zra{kvs:List (Key×V)}(ok:HOk P w H h)(e:H a=some (.dK kvs)):kvs.length<=sizeLine/\(a == sysModules)=false/\∃vs,KV kvs vs/\h.DictOf (mixKind P w) a vs:=zm1 ok (.inl e)
theorem zkq{ks:List Key}(ok:HOk P w H h)(e:H a=some (.tup (ks.map kV))):(tupleKind (mixKind P w)).is h ks a:=by
 obtain⟨_,its,r,o,h1,h2,n,h3⟩:=(show ObjOk P w H h a (.tup (ks.map kV)) from ok a _ e)
 exact⟨o,its.toArray,n,h1,h2,h3,by simpa using zhp r⟩
theorem zeq{kvs:List (List Key×V)}(ok:HOk P w H h)(e:Rd H a (.dT kvs)):kvs.length<=sizeLine/\(a == sysModules)=false /\
  ∃xs,KT H kvs xs/\h.DictOfH (tupleKind (mixKind P w)) a xs:=by
 obtain⟨z,y,xs,r,o,es,ep,h1,h2,h3,h4,h5⟩:=(show ObjOk P w H h a (.dT kvs) from zqt ok e)
 refine⟨z,y,xs,r,o,es,ep,h1,h2,h3,h4,λx hx => ?_,h5⟩
 have all:∀{l:List (List Key×V)} {m:List (List Key×Addr×Value)},KT H l m->∀x∈m,(tupleKind (mixKind P w)).is h x.1 x.2.1:=by
  intro l m q
  induction q with
  | nil=>intro x hx;exact nomatch hx
  | @cons p q ps qs hq t ih=>
   intro x hx
   rcases List.mem_cons.mp hx with e | hx
   ·subst e
    exact zkq ok (by rw[<- hq.1];exact hq.2.1)
   ·exact ih x hx
 exact all r x hx
theorem zqq{kvs:List (List Key×V)}(ok:HOk P w H h)(e:H a=some (.dT kvs)):kvs.length<=sizeLine/\(a == sysModules)=false /\
  ∃xs,KT H kvs xs/\h.DictOfH (tupleKind (mixKind P w)) a xs:=zeq ok (.inl e)
end
def DGet(H:Hp)(a:Addr)(y:V)(r:Option V):Prop:=
 (∃kvs k,Rd H a (.dK kvs)/\y=kV k/\r=valV kvs k)\/∃kvs k b,Rd H a (.dT kvs)/\y = .ref b/\H b=some (.tup (k.map kV))/\r=valV kvs k
def DPut(H:Hp)(a:Addr)(y v:V)(H':Hp):Prop:=
 (∃kvs k,H a=some (.dK kvs)/\y=kV k/\kvs.length < sizeLine/\H'=upd H a (.dK (putK kvs k v))) \/
 ∃kvs k b,H a=some (.dT kvs)/\y = .ref b/\H b=some (.tup (k.map kV))/\kvs.length < sizeLine/\H'=upd H a (.dT (putK kvs k v))
theorem DPut.k{H:Hp}{a:Addr}{kvs:List (Key×V)}{k:Key}{v:V}(e:H a=some (.dK kvs))(hl:kvs.length < sizeLine):DPut H a (kV k) v (upd H a (.dK (putK kvs k v))) := .inl ⟨kvs,k,e,rfl,hl,rfl⟩
theorem DPut.t{H:Hp}{a b:Addr}{kvs:List (List Key×V)}{k:List Key}{v:V}(e:H a=some (.dT kvs))(eb:H b=some (.tup (k.map kV)))(hl:kvs.length < sizeLine) :
  DPut H a (.ref b) v (upd H a (.dT (putK kvs k v))) := .inr ⟨kvs,k,b,e,rfl,eb,hl,rfl⟩
section
variable{X:Cx}{pins:List (Addr×Obj)}{σ : St}{H:Hp}{s:Shared}{a:Addr}{y v:V}{u r:Value}{o:Option V}{A:Around}{E:Value->Shared->Prop}
theorem Inv.big(I:Inv X pins σ H s):sysModules < s.heap.objs.size:=by
 have h:mainGlobals < s.heap.objs.size:=(I.mod.glob.keeps I.bk).lt
 exact Nat.lt_trans (by decide) h
theorem zkp{Q:Value->Shared->Prop}(hu:A.units + 1 < cLine)(I:Inv X pins σ H s)(g:DGet H a y (some v))(ry:RelV y u)(h:∀w' s',Inv X pins σ H s'->RelV v w'->Q w' s') :
  wpAny (model X.prog X.w) A (getItem (.ref a) u) Q E s:=by
 rcases g with⟨kvs,k,e,ey,l⟩ | ⟨kvs,k,b,e,ey,eb,l⟩
 ·subst ey
  obtain⟨z,hd,vs,rel,dd⟩:=zm1 I.hok e
  obtain⟨w',hw,rw'⟩:=RelO.some_of (v:=v) (o:=valueAt vs k) (by rw[l];exact rel.val k)
  exact wpAny_getItem_of (zom ry) dd.mapOf hw (h w' _ (I.tok _) rw')
 ·subst ey
  cases (show u=Value.ref b from ry)
  obtain⟨z,hd,xs,rel,dd⟩:=zeq I.hok e
  obtain⟨w',hw,rw'⟩:=RelO.some_of (v:=v) (o:=(atKey xs k).map (·.2)) (by rw[l];exact rel.val k)
  obtain⟨p,hp,hp2⟩:=Option.map_eq_some_iff.mp hw
  refine wpAny_getItem_heap (tupleKind_room_in1 hu) (zkq I.hok eb) dd hp ?_
  rw[hp2]
  exact h w' _ (I.tok _) rw'
theorem zkl{h':Heap}{t':Nat}{ob:HO}(I:Inv X pins σ H s)(mu:Mut (H a))(hs:Heap.SameBut a s.heap h')(he:∃q,h'.get? a=some q)(new:ObjOk X.prog X.w (upd H a ob) h' a ob) :
  Inv X pins σ (upd H a ob) { s with heap:=h',toks:=t' }:=
 I.write (x:=a) (e:=a) mu (.inl rfl) (λb q hb z=>(hs.2 b hb).trans z) he new
theorem zqr{P:Program}{w:World}{H':Hp}{h':Heap}{kvs:List (Key×V)}{vs:List (Key×Value)}(z:kvs.length<=sizeLine)(hd:(a == sysModules)=false)(rel:KV kvs vs)(dd:h'.DictOf (mixKind P w) a vs) :
  ObjOk P w H' h' a (.dK kvs):=⟨z,hd,vs,rel,dd⟩
theorem zlr{H':Hp}{Q:Unit->Shared->Prop}(hu:A.units + 1 < cLine)(I:Inv X pins σ H s)(g:DPut H a y v H')(ry:RelV y u)(rv:RelV v r)(h:∀s',Inv X pins σ H' s'->Q () s') :
  wpAny (model X.prog X.w) A (setItem (.ref a) u r) Q E s:=by
 rcases g with⟨kvs,k,e,ey,l,eH⟩ | ⟨kvs,k,b,e,ey,eb,l,eH⟩
 ·subst ey eH
  obtain⟨z,hd,vs,rel,dd⟩:=zra I.hok e
  have hz:vs.length<=sizeLine:=by rw[<- rel.length];exact z
  have hl:(putK kvs k v).length<=sizeLine:=by have:=zfp kvs k v;omega
  refine wpAny_setItem_pairs (hsz:=hz) (zom ry) dd λh' dd' hs=>h _ ?_
  have he:∃q,h'.get? a=some q:=let ⟨q,_,_,hq,_⟩:=dd';⟨q,hq⟩
  exact zkl I (by rw[e];exact True.intro) hs he (zqr hl hd (rel.put k rv) dd')
 ·subst ey eH
  cases (show u=Value.ref b from ry)
  obtain⟨z,hd,xs,rel,dd⟩:=zqq I.hok e
  have hz:xs.length<=sizeLine:=by rw[<- Paired.length rel];exact z
  have hl:(putK kvs k v).length<=sizeLine:=by have:=zfp kvs k v;omega
  refine wpAny_setItem_heap (hsz:=hz) (tupleKind_room_in1 hu) (zkq I.hok eb) dd λh' dd' hs=>h _ ?_
  obtain⟨q,es,ep,hq,h2,h3,h4,_,h5⟩:=dd'
  refine zkl I (by rw[e];exact True.intro) hs ⟨q,hq⟩ ⟨hl,hd,_,(rel.put k eb rv).keeps λc ys ec => ?_,q,es,ep,hq,h2,h3,h4,h5⟩
  rw[zal (zbk ec e (λz=>nomatch z))]
  exact ec
end
section
variable{X:Cx}{pins:List (Addr×Obj)}{σ : St}{H:Hp}{s:Shared}{a:Addr}{kvs:List (Key×V)}{k:Key}{u:Value}{A:Around}{E:Value->Shared->Prop}
end
def NoSl(i:Expr):Prop:=∀ov iv,subscripted i false ov iv=operate [ov,iv] (getItem ov iv)
theorem zon{prog:Program}{w:World}{A:Around}{E:Value->Shared->Prop}{s:Shared}{env:Env}{value slice:Expr}{pos:Pos}{T id:String}{Q:Value->Shared->Prop}
  (hl:typeLookup (.type T) "__getitem__" = pure (some (.builtin id))) (hs:NoSl slice)
  (h:wpAny (model prog w) A (eval value env) (λo s₁=>wpAny (model prog w) A (eval slice env) (λi s₂=>s₂.TypeIs o T/\wpAny (model prog w) A (getItem o i) Q E s₂) E s₁) E s) :
  wpAny (model prog w) A (eval (.Subscript value slice pos) env) Q E s:=by
 refine Subscript_ (wpAny_mono h (λo s₁ h₁=>wpAny_mono h₁ (λi s₂ h₂ => ?_) λ_ _ x=>x) λ_ _ x=>x)
 obtain⟨hT,h₂⟩:=h₂
 unfold subscriptTail
 refine wpAny_bind ?_
 rw[getitemInPython_of_ne hT.not_modules]
 refine wpAny_bind (wpAny_specialOf hT hl ?_)
 have fin:wpAny (model prog w) A (subscripted slice false o i) (λr s₃=>wpAny (model prog w) A (letTemporaryGo value o r >>= λ_=>pure r) Q E s₃) E s₂:=by
  rw[hs o i]
  exact wpAny_operating (wpAny_mono h₂ (λr s₃ h₃=>wpAny_bind (wpAny_letTemporaryGo (wpAny_pure h₃))) λ_ _ x=>x)
 first
  | exact wpAny_pure (wpAny_bind fin)
  | exact wpAny_bind (wpAny_pure (wpAny_bind fin))
  | exact wpAny_bind fin
theorem ziq{X:Cx}{pins:List (Addr×Obj)}{σ : St}{H:Hp}{s:Shared}{a:Addr}{y:V}{o:Option V}(I:Inv X pins σ H s)(g:DGet H a y o):s.TypeIs (.ref a) "dict":=by
 rcases g with⟨kvs,k,e,_,_⟩ | ⟨kvs,k,b,e,_,_,_⟩
 ·obtain⟨_,_,vs,_,dd⟩:=zm1 I.hok e
  exact dd.typeIs
 ·obtain⟨_,_,xs,_,dd⟩:=zeq I.hok e
  exact dd.typeIs
def tDGet(td ty:TE):TE:=λσ H Q=>td σ H λx H1=>ty σ H1 λy H2=>∃a v,x = .ref a/\DGet H2 a y (some v)/\Q v H2
def tDIn(ty td:TE):TE:=λσ H Q=>ty σ H λy H1=>td σ H1 λx H2=>∃a o,x = .ref a/\DGet H2 a y o/\Q (.bl o.isSome) H2
def tDNotIn(ty td:TE):TE:=λσ H Q=>ty σ H λy H1=>td σ H1 λx H2=>∃a o,x = .ref a/\DGet H2 a y o/\Q (.bl (!o.isSome)) H2
def sDPut(td ty tv:TE):TS:=λD σ H=>tv σ H λv H1=>td σ H1 λx H2=>ty σ H2 λy H3=>∃a H4,x = .ref a/\DPut H3 a y v H4/\D.nx σ H4
def sDAug(td ty tv:TE)(rd:V->V->Hp->VK->Prop):TS:=λD σ H=>td σ H λx H1=>ty σ H1 λy H2=>∃a v,x = .ref a/\DGet H2 a y (some v) /\
 tv σ H2 λy2 H3=>rd v y2 H3 λz H4=>∃H5,DPut H4 a y z H5/\D.nx σ H5
def sDDel(td ty:TE):TS:=λD σ H=>td σ H λx H1=>ty σ H1 λy H2=>∃a kvs k,x = .ref a/\H2 a=some (.dK kvs)/\y=kV k/\(valV kvs k).isSome=true/\D.nx σ (upd H2 a (.dK (dropK kvs k)))
section
variable{X:Cx}{o i e value:Expr}{pos pos' tpos:Pos}{td ty tv:TE}
theorem zcz(hu:X.A.units + 1 < cLine)(ho:PE X o td)(hi:PE X i ty)(hs:NoSl i):PE X (.Subscript o i pos) (tDGet td ty):=by
 intro pins s σ H Q I h
 refine zon PySem.F.slot_dict_getitem.lookup hs (thn (ho pins s σ H _ I h) λu s1 ⟨x,H1,I1,rx,q1⟩=>thn (hi pins s1 σ H1 _ I1 q1) λiv s2 ⟨y,H2,I2,ry,a,v,ex,g,q2⟩ => ?_)
 subst ex
 obtain rfl:u=Value.ref a:=rx
 exact⟨ziq I2 g,zkp hu I2 g ry λw' s3 I3 rw'=>⟨v,H2,I3,rw',q2⟩⟩
theorem zgh(hu:X.A.units + 1 < cLine)(ho:PE X o td)(hi:PE X i ty)(hv:PE X value tv)(hs:swapsWith value (some (.Subscript o i pos')) pos.line X.env=pure false) :
  PS X (.Assign [.Subscript o i pos'] value pos) (sDPut td ty tv):=by
 intro pins s σ H D I h
 refine wpAny_Assign_Subscript (thn (hv pins s σ H _ I h) λr s1 ⟨v,H1,I1,rv,q1⟩=>thn (ho pins s1 σ H1 _ I1 q1) λu s2 ⟨x,H2,I2,rx,q2⟩=>thn (hi pins s2 σ H2 _ I2 q2) λiv s3 ⟨y,H3,I3,ry,a,H4,ex,g,q3⟩ => ?_) hs
 subst ex
 obtain rfl:u=Value.ref a:=rx
 exact zlr hu I3 g ry rv λs4 I4=>⟨σ,H4,I4,q3⟩
end
theorem zn0{P:Program}{w:World}{H:Hp}(h:Heap)(hb:sysModules < h.objs.size):ObjOk P w H (h.push { cls := .type "dict",data := .dict #[] }) h.objs.size (.dK []):=
 ⟨Nat.zero_le _,beq_eq_false_iff_ne.mpr (Ne.symm (Nat.ne_of_lt hb)),[],.nil,Heap.DictOf.new h⟩
theorem zm5{P:Program}{w:World}{H:Hp}(h:Heap)(hb:sysModules < h.objs.size):ObjOk P w H (h.push { cls := .type "dict",data := .dict #[] }) h.objs.size (.dT []):=
 ⟨Nat.zero_le _,beq_eq_false_iff_ne.mpr (Ne.symm (Nat.ne_of_lt hb)),[],.nil,_,#[],0,Heap.get?_push_size _ rfl,⟨rfl,rfl,rfl⟩,rfl,rfl,List.nodup_nil⟩
def tDNewK:TE:=λ_ H Q=>∀p,H p=none->Q (.ref p) (upd H p (.dK []))
def tDNewT:TE:=λ_ H Q=>∀p,H p=none->Q (.ref p) (upd H p (.dT []))
section
variable{X:Cx}{pos:Pos}
theorem zmq:PE X (.Dict [] [] pos) tDNewK:=λpins s σ H Q I h=>
 wpAny_Dict_empty ⟨.ref s.heap.objs.size,_,I.laid (a:=s.heap.objs.size) (o := .dK []) (t':=s.toks) (λ_ _ q=>Heap.get?_push_of_some _ q) (Nat.le_refl _) (zn0 s.heap I.big),rfl,h _ (I.hok.fresh (Nat.le_refl _))⟩
theorem zew:PE X (.Dict [] [] pos) tDNewT:=λpins s σ H Q I h=>
 wpAny_Dict_empty ⟨.ref s.heap.objs.size,_,I.laid (a:=s.heap.objs.size) (o := .dT []) (t':=s.toks) (λ_ _ q=>Heap.get?_push_of_some _ q) (Nat.le_refl _) (zm5 s.heap I.big),rfl,h _ (I.hok.fresh (Nat.le_refl _))⟩
end
def tPairs:List (TE×TE)->St->Hp->(List (V×V)->Hp->Prop)->Prop
 | [],_,H,Q=>Q [] H
 | (tk,tv) :: r,σ,H,Q=>tk σ H λx H1=>tv σ H1 λy H2=>tPairs r σ H2 λps H3=>Q ((x,y) :: ps) H3
abbrev VV:List (V×V)->List (Value×Value)->Prop:=Paired λp q=>RelV p.1 q.1/\RelV p.2 q.2
def PPs(X:Cx)(pos:Pos)(keys:List (Option Expr))(values:List Expr)(trs:List (TE×TE)):Prop:=
 ∀(pins:List (Addr×Obj)) (s:Shared) (σ : St) (H:Hp) (Q:List (V×V)->Hp->Prop),Inv X pins σ H s->tPairs trs σ H Q ->
  wpAny (model X.prog X.w) X.A (evalPairs (pairTrees keys values X.env pos)) (λvs s'=>∃ps H',Inv X pins σ H' s'/\VV ps vs/\Q ps H') X.xe s
def mergeK(kvs more:List (Key×V)):List (Key×V):=more.foldl (λacc kv=>putK acc kv.1 kv.2) kvs
def tDisp(trs:List (TE×TE)):TE:=λσ H Q=>∀p,H p=none->tPairs trs σ (upd H p (.dK [])) λps H2=>H2 p=some (.dK [])/\∃kvs:List (Key×V),ps=kvs.map (λkv=>(kV kv.1,kv.2))/\kvs.length<=15/\Q (.ref p) (upd H2 p (.dK (mergeK [] kvs)))
structure M1(X:Cx)(o:Expr)(m:Str)(apos:Pos)(e:Expr)(cpos:Pos):Prop where
 base:attributeBase o m X.env (eval o X.env)=eval o X.env
 few:((backTo cpos (starEach [e] X.env)).all (λx => !x.1) && (backToKw cpos (keywordEach [] X.env)).all (λx=>x.1.isSome)
  && decide (([e]:List Expr).length + ([]:List Keyword).length + (if ([]:List Keyword).isEmpty then 0 else 1) < 30))=true
 line:(apos.endLine == cpos.line)=true
 trees:backTo cpos (starEach [e] X.env)=[(false,eval e X.env)]
structure M2(X:Cx)(o:Expr)(m:Str)(apos:Pos)(e f:Expr)(cpos:Pos):Prop where
 base:attributeBase o m X.env (eval o X.env)=eval o X.env
 few:((backTo cpos (starEach [e,f] X.env)).all (λx => !x.1) && (backToKw cpos (keywordEach [] X.env)).all (λx=>x.1.isSome)
  && decide (([e,f]:List Expr).length + ([]:List Keyword).length + (if ([]:List Keyword).isEmpty then 0 else 1) < 30))=true
 line:(apos.endLine == cpos.line)=true
 trees:backTo cpos (starEach [e,f] X.env)=[(false,eval e X.env),(false,eval f X.env)]
def IsD(H:Hp)(a:Addr):Prop:=(∃kvs,Rd H a (.dK kvs))\/∃kvs,Rd H a (.dT kvs)
section
variable{X:Cx}{pins:List (Addr×Obj)}{σ : St}{H:Hp}{s:Shared}{a:Addr}{y d:V}{u r:Value}{o:Option V}{A:Around}{E:Value->Shared->Prop}
end
def tDGet1(td ty:TE):TE:=λσ H Q=>td σ H λx H1=>∃a,x = .ref a/\IsD H1 a/\ty σ H1 λy H2=>∃o,DGet H2 a y o/\Q (o.getD .non) H2
def tDGet2(td ty tx:TE):TE:=λσ H Q=>td σ H λx H1=>∃a,x = .ref a/\IsD H1 a/\ty σ H1 λy H2=>tx σ H2 λz H3=>∃o,DGet H3 a y o/\Q (o.getD z) H3
def tDPop1(td ty:TE):TE:=λσ H Q=>td σ H λx H1=>∃a,x = .ref a/\IsD H1 a/\ty σ H1 λy H2=>∃kvs k v,H2 a=some (.dK kvs)/\y=kV k/\valV kvs k=some v/\Q v (upd H2 a (.dK (dropK kvs k)))
def tDPop2(td ty tx:TE):TE:=λσ H Q=>td σ H λx H1=>∃a,x = .ref a/\IsD H1 a/\ty σ H1 λy H2=>tx σ H2 λz H3=>∃kvs k,H3 a=some (.dK kvs)/\y=kV k /\
 (∀v,valV kvs k=some v->Q v (upd H3 a (.dK (dropK kvs k))))/\(valV kvs k=none->Q z H3)
section
variable{X:Cx}{o e f:Expr}{apos cpos:Pos}{td ty tx:TE}
end
section
variable{X:Cx}{pins:List (Addr×Obj)}{σ : St}{H:Hp}{s:Shared}{a:Addr}{kvs:List (Key×V)}{A:Around}{E:Value->Shared->Prop}
end
section
variable{X:Cx}{pins:List (Addr×Obj)}{σ : St}{H:Hp}{s:Shared}{a:Addr}{y:V}{u:Value}{A:Around}{E:Value->Shared->Prop}
end
end L2
namespace L2
open PySem PySem.Spec PyProof.Rows
section
variable{X:Cx}{pins:List (Addr×Obj)}{σ : St}{H:Hp}{s:Shared}{d:Addr}{o:Obj}{u v:HO}
theorem Inv.swap(I:Inv X pins σ H s)(e:H d=some u)(nt:∀xs,u≠.tup xs)(no:∀x,u≠.own x)(nb:∀ps,u≠.tbl ps)(nf:∀o w,u = .frz o w->∀o w,X.H₀ d≠some (.frz o w))
  (new:ObjOk X.prog X.w H s.heap d u->∀H':Hp,(∀b xs,H b=some (.tup xs)->H' b=some (.tup xs))->(∀b x,H b=some (.own x)->H' b=some (.own x))->ObjOk X.prog X.w H' s.heap d v):Inv X pins σ (upd H d v) s:=by
 have nd:∀{b:Addr},H b=none->b≠d:=λz=>(zao e z).symm
 have tt:∀b xs,H b=some (.tup xs)->upd H d v b=some (.tup xs):=λb xs q=>by rw[zal (zbk q e (λz=>nt xs z.symm))];exact q
 have oo:∀b x,H b=some (.own x)->upd H d v b=some (.own x):=λb x q=>by rw[zal (zbk q e (λz=>no x z.symm))];exact q
 refine⟨I.ok,I.os,I.bare,⟨I.base.keep,I.base.slot,λb q h1 h2 h3 => ?_,I.base.there,λb xs q=>tt b xs (I.base.tups b xs q),λb o' w q => ?_,λb ps q => ?_⟩,I.loc,I.cell,?_,λx c q => ?_,λp hp => ?_,λb w q => ?_,I.len⟩
 ·have z:=I.base.free b q h1 h2 h3
  rw[zal (nd z)];exact z
 ·have z:=I.base.frzs b o' w q
  by_cases hb:b=d
  ·subst hb;rw[e]at z;injection z with z
   exact absurd q (nf o' w z o' w)
  ·rw[zal hb];exact z
 ·obtain⟨more,z⟩:=I.base.tbls b ps q
  by_cases hb:b=d
  ·subst hb;rw[e]at z;injection z with z
   exact absurd z (nb _)
  ·exact⟨more,by rw[zal hb];exact z⟩
 ·rw[zal (nd I.free)];exact I.free
 ·rw[zal (nd (I.freeC x c q))];exact I.freeC x c q
 ·obtain⟨z1,z2,z3⟩:=I.pin p hp
  exact⟨z1,by rw[zal (nd z2)];exact z2,z3⟩
 ·by_cases hb:b=d
  ·subst hb
   rw[zaf]at q;injection q with q;subst q
   exact new (I.hok b _ e) _ tt oo
  ·rw[zal hb]at q
   exact(I.hok b w q).stay (λ_ _ _ z=>z) (λc z=>oo c b z) tt
theorem Inv.thaw(I:Inv X pins σ H s)(e:H d=some (.frz o u))(n:∀o w,X.H₀ d≠some (.frz o w)):Inv X pins σ (upd H d u) s:=
 I.swap e (by intro _ z;cases z) (by intro _ z;cases z) (by intro _ z;cases z) (λ_ _ _=>n) λx H' t w=>x.2.stay (λ_ _ _ z=>z) (λb z=>w b d z) t
end
def Thw(H0:Hp)(H:Hp)(K:Hp->Prop):Prop:=K H\/∃d o u,H d=some (.frz o u)/\(∀o w,H0 d≠some (.frz o w))/\K (upd H d u)
section
variable{X:Cx}
theorem Thw.inv{pins:List (Addr×Obj)}{σ : St}{H:Hp}{s:Shared}{K:Hp->Prop}(h:Thw X.H₀ H K)(I:Inv X pins σ H s):∃H',Inv X pins σ H' s/\K H':=by
 rcases h with h | ⟨d,o,u,e,n,h⟩
 ·exact⟨H,I,h⟩
 ·exact⟨_,I.thaw e n,h⟩
def tThw(H0:Hp)(t:TE):TE:=λσ H Q=>t σ H λv H'=>Thw H0 H' (Q v)
end
end L2
namespace L2
open PySem PySem.Spec PyProof.Rows
section
variable{prog:Program}{w:World}{A:Around}{E:Value->Shared->Prop}{s:Shared}{it d:Addr}{i n ep:Nat}{es:Array DictEntry}{o:Obj}
theorem zjg{e:DictEntry}{Q:Option Value->Shared->Prop}(hit:s.heap.IsKeyIter it d i n ep)(hod:s.heap.get? d=some o)(hdd:o.data = .dict es ep)(hn:es.size=n)(hx:es[i]? = some e)
  (hQ:∀h',h'.IsKeyIter it d (i + 1) n ep->Heap.SameBut it s.heap h'->Q (some e.key) { s with heap:=h' }):wpAny (model prog w) A (pyNext (.ref it)) Q E s:=by
 obtain⟨oi,hoi,hci,hdi⟩:=id hit
 have T:=hit.typeIs
 have own:Builtin.Dict_items.ownsTuple "dict_keyiterator" = false:=by decide
 have nn:¬((Value.ref d == Value.none)=true):=λz=>Bool.false_ne_true z
 unfold pyNext;refine wpAny_bind (wpAny_attempt (wpAny_callSpecial?_slot (name:=Str.ofString "__next__") T F.slot_dict_keyiterator_next (wpAny_call_entry F.slot_dict_keyiterator_next T F.entry_dict_keyiterator_next ?_ (F.args_dict_keyiterator_next_1 _))))
 refine wpAny_bind (wpAny_pure (wpAny_bind (wpAny_bind ?_)));refine wpAny_bind (wpAny_typeNameOfWhole_keyiter T (wpAny_pure (wpAny_bind (wpAny_fieldsOf hoi hdi ?_))))
 simp only[own,Bool.false_eq_true,if_false];show wpAny _ _ (if (Value.ref d == Value.none)=true then _ else _) _ _ s;rw[if_neg nn]
 refine wpAny_bind (wpAny_pure (wpAny_bind (wpAny_dictEntries hod hdd ?_)));rw[if_neg (by rw[hn];simp)]
 refine wpAny_bind (wpAny_pure (wpAny_bind (wpAny_dictEpoch hod hdd ?_)));rw[if_neg (by simp)]
 have lt:¬((i:Int) < 0):=by omega
 refine wpAny_pure ?_;simp only[lt,if_false,Int.toNat_natCast,hx]
 refine wpAny_bind (wpAny_bind (wpAny_typeNameOfWhole_keyiter T (wpAny_pure (wpAny_bind (wpAny_isOneOf_keyiter T ?_)))))
 show wpAny _ _ (setField (.ref it) 1 (rawInt ((i:Int) + 1)) >>= _) _ _ s;refine wpAny_bind (wpAny_setField hoi hdi (by simp) ?_)
 have hit':(s.heap.update it (Obj.mapFields (·.setIfInBounds 1 (rawInt ((i:Int) + 1))))).IsKeyIter it d (i + 1) n ep:=⟨_,Heap.get?_update_self _ hoi (Obj.isFreed_of_fields (Obj.data_mapFields hdi _)),(Obj.cls_mapFields ..).trans hci,by rw[Obj.data_mapFields hdi];simp[rawInt]⟩
 have T':Shared.TypeIs { s with heap:=s.heap.update it (Obj.mapFields (·.setIfInBounds 1 (rawInt ((i:Int) + 1)))) } (.ref it) "dict_keyiterator":=hit'.typeIs
 refine wpAny_bind (wpAny_holding (wpAny_bind (wpAny_isOneOf_keyiter T' ?_)));show wpAny _ _ (pure e.key) _ _ _
 exact wpAny_pure (wpAny_pure ⟨_,rfl,wpAny_pure (hQ _ hit' (Heap.SameBut.update ..))⟩)
theorem zmv{A':Around}{Q:Option Value->Shared->Prop}{E':Value->Shared->Prop}(hh:A'.handled=none)(hQ:∀h',(∀b o,s.heap.get? b=some o->h'.get? b=some o)->Q none { s with heap:=h' }){P:Fin->Shared->Prop} :
  wpAny (model prog w) A' (newExc (.type "StopIteration") [] >>= λe=>raiseNew e) P (λe s'=>wpAny (model prog w) A (do if (<- isInstance e (.type "StopIteration"))=true then pure none else throw e) Q E' s') s:=by
 refine wpAny_bind ?_
 simp only[newExc,newTuple];refine wpAny_bind (wpAny_newObj_type (wpAny_bind (m:=firstArgMember _ _) (wpAny_of_eq (a:=Value.none) (by first | rfl | (simp only[firstArgMember];rfl)) (wpAny_newObj_type ?_ (by size_fits)))) (by size_fits))
 simp only[raiseNew];refine wpAny_bind (wpAny_handled ?_);rw[hh]
 refine wpAny_bind (wpAny_pure (wpAny_throw ?_))
 have sub:=isSubtype_stop;refine wpAny_bind (wpAny_isInstance (T:="StopIteration") (b:=true) ⟨_,Heap.get?_push_size _ rfl,rfl⟩ sub ?_)
 exact wpAny_pure (hQ _ λb o e=>Heap.get?_push_of_some _ (Heap.get?_push_of_some _ e))
theorem zlm{Q:Option Value->Shared->Prop}(hh:A.handled=none)(hit:s.heap.IsKeyIter it d i n ep)(hod:s.heap.get? d=some o)(hdd:o.data = .dict es ep)(hn:es.size=n)(hx:n<=i)
  (hQ:∀h',Heap.ExtBut it s.heap h'->Q none { s with heap:=h' }):wpAny (model prog w) A (pyNext (.ref it)) Q E s:=by
 obtain⟨oi,hoi,hci,hdi⟩:=id hit
 have T:=hit.typeIs
 have own:Builtin.Dict_items.ownsTuple "dict_keyiterator" = false:=by decide
 have nn:¬((Value.ref d == Value.none)=true):=λz=>Bool.false_ne_true z
 unfold pyNext;refine wpAny_bind (wpAny_attempt (wpAny_callSpecial?_slot (name:=Str.ofString "__next__") T F.slot_dict_keyiterator_next (wpAny_call_entry F.slot_dict_keyiterator_next T F.entry_dict_keyiterator_next ?_ (F.args_dict_keyiterator_next_1 _))))
 refine wpAny_bind (wpAny_pure (wpAny_bind (wpAny_bind ?_)));refine wpAny_bind (wpAny_typeNameOfWhole_keyiter T (wpAny_pure (wpAny_bind (wpAny_fieldsOf hoi hdi ?_))))
 simp only[own,Bool.false_eq_true,if_false];show wpAny _ _ (if (Value.ref d == Value.none)=true then _ else _) _ _ s;rw[if_neg nn]
 refine wpAny_bind (wpAny_pure (wpAny_bind (wpAny_dictEntries hod hdd ?_)));rw[if_neg (by rw[hn];simp)]
 refine wpAny_bind (wpAny_pure (wpAny_bind (wpAny_dictEpoch hod hdd ?_)));rw[if_neg (by simp)]
 have lt:¬((i:Int) < 0):=by omega
 have hx':es[i]? = none:=Array.getElem?_eq_none (by omega)
 refine wpAny_pure ?_;simp only[lt,if_false,Int.toNat_natCast,hx']
 refine wpAny_bind (wpAny_bind (wpAny_typeNameOfWhole_keyiter T (wpAny_pure ?_)))
 show wpAny _ _ (setField (.ref it) 0 .none >>= _) _ _ s;refine wpAny_bind (wpAny_setField hoi hdi (by simp) ?_)
 refine zmv (A:=A) (A':=A.in1) (E':=E) hh λh' k => ?_
 exact hQ h' λb o hb e=>k b o ((Heap.SameBut.update ..).extBut b o hb e)
end
end L2
namespace L2
open PySem PySem.Spec PyProof.Rows
theorem Paired.at'{α β : Type}{F : α->β->Prop}:∀{l:List α} {m:List β},Paired F l m->∀{i:Nat} {a : α},l[i]? = some a->∃b,m[i]? = some b/\F a b
 | _,_,.nil,i,a,h=>by simp at h
 | _,_,.cons r _,0,a,h=>by simp at h;subst h;exact⟨_,rfl,r⟩
 | _,_,.cons _ t,i + 1,a,h=>by
  rw[List.getElem?_cons_succ]at h
  obtain⟨b,h1,h2⟩:=Paired.at' t h
  exact⟨b,by rw[List.getElem?_cons_succ];exact h1,h2⟩
def FzD(H:Hp)(d:Addr)(o:Obj)(kvs:List (List Key×V)):Prop:=H d=some (.frz o (.dT kvs))
def ItK(d:Addr)(o:Obj)(kvs:List (List Key×V)):It:=
 ⟨λi H=>FzD H d o kvs/\i < kvs.length,λi H x H'=>H'=H/\∃b k v,kvs[i]? = some (k,v)/\H b=some (.tup (k.map kV))/\x = .ref b,λi H=>FzD H d o kvs/\kvs.length<=i⟩
def ItI(d:Addr)(o:Obj)(kvs:List (List Key×V)):It:=
 ⟨λi H=>FzD H d o kvs/\i < kvs.length,λi H x H'=>∃p b k v,H p=none/\kvs[i]? = some (k,v)/\H b=some (.tup (k.map kV))/\x = .ref p/\H'=upd H p (.tup [.ref b,v]),λi H=>FzD H d o kvs/\kvs.length<=i⟩
section
variable{X:Cx}{pins:List (Addr×Obj)}{σ : St}{H:Hp}{s:Shared}{d:Addr}{o:Obj}{kvs:List (List Key×V)}{es:Array DictEntry}{ep:Nat}
end
end L2
namespace L2
open PySem PySem.Spec PyProof.Rows
section
variable{prog:Program}{w:World}{A:Around}{E:Value->Shared->Prop}{s:Shared}{d:Addr}{ep:Nat}{es:Array DictEntry}{o:Obj}
theorem zho{Q:Value->Shared->Prop}(hs:(d == sysModules)=false)(T:s.TypeIs (.ref d) "dict")(ho:s.heap.get? d=some o)(hdd:o.data = .dict es ep)
  (hQ:Q (.ref s.heap.objs.size) { s with heap:=s.heap.push { cls := .type "dict_keyiterator",data := .fields #[.ref d,.int 0 0,.int es.size 0,.int ep 0] } }):wpAny (model prog w) A (pyIter (.ref d)) Q E s:=by
 refine wpAny_pyIter_slot T F.slot_dict_iter (wpAny_call_entry F.slot_dict_iter T F.entry_dict_iter ?_ (F.args_dict_iter_1 _))
 unfold Builtin.«dict.__iter__»;refine wpAny_bind ?_;unfold Builtin.Dict.dictSlotNone;refine wpAny_bind (wpAny_notOrdered_dict T (wpAny_pure ?_))
 have no:¬((d == sysModules)=true):=by rw[hs];exact Bool.false_ne_true
 show wpAny _ _ (Builtin.Dict.showsAll d >>= _) _ _ s;unfold Builtin.Dict.showsAll;rw[if_neg no]
 refine wpAny_bind (wpAny_pure (wpAny_bind (wpAny_dictEntries ho hdd (wpAny_bind (wpAny_dictEpoch ho hdd ?_)))))
 exact wpAny_bind (wpAny_newObj_type (wpAny_pure ⟨_,rfl,"dict_keyiterator",_,⟨_,Heap.get?_push_size _ rfl,rfl⟩,F.slot_dict_keyiterator_next.lookup,hQ⟩))
end
def iDictK(td:TE):TI:=λσ H R=>td σ H λx H1=>∃d kvs,x = .ref d/\Rd H1 d (.dT kvs)/\∀o,R (ItK d o kvs) (upd H1 d (.frz o (.dT kvs)))
def iDictI(td:TE):TI:=λσ H R=>td σ H λx H1=>∃d kvs,x = .ref d/\Rd H1 d (.dT kvs)/\∀o,R (ItI d o kvs) (upd H1 d (.frz o (.dT kvs)))
section
variable{X:Cx}{tg:Expr}{pins:List (Addr×Obj)}{σ : St}{H:Hp}{s:Shared}{d:Addr}{kvs:List (List Key×V)}
end
end L2
namespace L2
open PySem PySem.Spec PyProof.Rows
section
variable{prog:Program}{w:World}{κ : Type}[DecidableEq κ]{knd:HeapKind prog w κ}{A:Around}{E:Value->Shared->Prop}{s:Shared}
inductive HHits(A:Around)(s:Shared)(ys:List (κ×Addr×Value)):List (κ×Addr×Value)->Bool->Prop
 | nil:HHits A s ys [] true
 | miss {x : κ×Addr×Value} {r:List (κ×Addr×Value)}:atKey ys x.1=none->HHits A s ys (x :: r) false
 | hit {x : κ×Addr×Value} {p:Addr×Value} {r:List (κ×Addr×Value)} {e c:Bool}:atKey ys x.1=some p->SeqAt.EqAt A s x.2.2 p.2 e->HHits A s ys r c->HHits A s ys (x :: r) (e && c)
theorem HHits.inv{ys:List (κ×Addr×Value)}{x : κ×Addr×Value}{r:List (κ×Addr×Value)}{c:Bool}(h:HHits A s ys (x :: r) c) :
  (atKey ys x.1=none/\c=false)\/∃p e c',atKey ys x.1=some p/\SeqAt.EqAt A s x.2.2 p.2 e/\HHits A s ys r c'/\c=(e && c'):=by
 cases h with
 | miss a=>exact .inl ⟨a,rfl⟩
 | hit a b c=>exact .inr ⟨_,_,_,a,b,c,rfl⟩
theorem zf3{nm:String}{a b:Addr}{xs ys:List (κ×Addr×Value)}{r:Bool}{Q:Bool->Shared->Prop}(hu:knd.room A)(ha:(a == sysModules)=false)(hb:(b == sysModules)=false)(da:s.heap.DictOfH knd a xs)(db:s.heap.DictOfH knd b ys)
  (hits:xs.length=ys.length->HHits A s ys xs r) (h:Q (xs.length == ys.length && r) s):wpAny (model prog w) A (Builtin.Dict.samePairs nm a b) Q E s:=by
 obtain⟨oa,ea,pa,ga,_,ta,la,ka,na⟩:=da
 obtain⟨ob,eb,pb,gb,_,tb,lb,kb,nb⟩:=db
 have za:ea.size=xs.length:=size_of_entries la
 have zb:eb.size=ys.length:=size_of_entries lb
 have no1:¬((a == sysModules)=true):=by rw[ha];exact Bool.false_ne_true
 have no2:¬((b == sysModules)=true):=by rw[hb];exact Bool.false_ne_true
 unfold Builtin.Dict.samePairs Builtin.Dict.showsAll;rw[if_neg no1,if_neg no2]
 refine wpAny_bind (wpAny_pure (wpAny_bind (wpAny_pure (wpAny_bind (wpAny_dictEntries ga ta ?_)))));dsimp only;refine wpAny_bind (wpAny_dictEntries gb tb ?_)
 by_cases hz:xs.length=ys.length
 case neg=>
  have q1:(ea.size != eb.size)=true:=by rw[za,zb];simpa using hz
  have q2:(xs.length == ys.length)=false:=by simpa using hz
  rw[if_pos q1];rw[q2,Bool.false_and]at h
  exact wpAny_bind (wpAny_rule (wpAny_pure h))
 have q1:¬((ea.size != eb.size)=true):=by rw[za,zb,hz];simp
 have h':Q r s:=by simpa[hz]using h
 rw[if_neg q1];refine wpAny_bind (wpAny_dictEpoch ga ta (wpAny_bind ?_));rw[Std.Legacy.Range.forIn_eq_forIn_range'];simp only[Std.Legacy.Range.size,Nat.sub_zero,Nat.add_sub_cancel,Nat.div_one]
 refine wpAny_forIn_list _ (λrest c s'=>s'=s/\c=(none,())/\∃i,rest=List.range' i (ea.size - i)/\i<=ea.size/\HHits A s ys (xs.drop i) r) _ ?_ ?_ _ _ ⟨rfl,rfl,0,by simp,Nat.zero_le _,hits hz⟩
 ·rintro x rest c s' ⟨rfl,rfl,i,er,hi,hp⟩
  have lt:i < ea.size:=Nat.lt_of_not_le λz=>by rw[Nat.sub_eq_zero_of_le z]at er;simp at er
  have es:ea.size - i=(ea.size - (i + 1)) + 1:=by omega
  rw[es,List.range'_succ]at er;injection er with e1 e2;subst e1
  have lx:x < xs.length:=by omega
  have ex:ea[x]? = some (entryOfKey knd xs[x]):=by rw[entry_at la x,List.getElem?_eq_getElem lx];rfl
  have dr:xs.drop x=xs[x] :: xs.drop (x + 1):=List.drop_eq_getElem_cons lx
  refine wpAny_bind (wpAny_dictEntries ga ta ?_);rw[ex];rw[dr]at hp
  show wpAny _ _ (holding [Value.ref xs[x].2.1,xs[x].2.2] _ >>= _) _ _ _
  refine wpAny_bind (wpAny_holding (wpAny_bind (wpAny_dictFind_heap hu (ka _ (List.getElem_mem lx)) gb tb lb kb nb (λno => ?_) λj p hj => ?_)))
  ·rcases hp.inv with⟨_,er⟩ | ⟨p,_,_,hy,_⟩
   ·rw[er]at h';refine wpAny_pure ?_;show wpAny _ _ (if (!false)=true then _ else _) _ _ _;rw[if_pos (by decide)];exact wpAny_pure (wpAny_pure h')
   ·rw[atKey_none_of_get no]at hy;cases hy
  ·have lj:eb[j]? = some (entryOfKey knd (xs[x].1,p)):=by rw[entry_at lb j,hj];rfl
   refine wpAny_bind (wpAny_dictEntries gb tb ?_);rw[lj]
   rcases hp.inv with⟨hn,_⟩ | ⟨p',e,c',hy,he,hr,er⟩
   ·rw[atKey_of_get nb hj]at hn;cases hn
   rw[atKey_of_get nb hj]at hy;injection hy with hy;subst hy
   refine wpAny_holding (he prog w _ _ ?_)
   cases e with
   | false=>rw[er,Bool.false_and]at h';show wpAny _ _ (if (!false)=true then _ else _) _ _ _;rw[if_pos (by decide)];exact wpAny_pure (wpAny_pure h')
   | true=>
    rw[Bool.true_and]at er;rw[<- er]at hr
    show wpAny _ _ (if (!true)=true then _ else _) _ _ _;rw[if_neg (by decide)];refine wpAny_bind (wpAny_dictEpoch ga ta ?_);rw[if_neg (by simp)]
    exact wpAny_pure ⟨rfl,rfl,x + 1,e2,lt,hr⟩
 ·rintro c s' ⟨rfl,rfl,i,er,hi,hp⟩
  have ei:i=ea.size:=Nat.le_antisymm hi (Nat.le_of_not_lt λz=>by
   have es:ea.size - i=(ea.size - (i + 1)) + 1:=by omega
   rw[es,List.range'_succ]at er;cases er)
  refine wpAny_pure ?_;rw[ei,za,List.drop_length]at hp;cases hp;exact h'
theorem zi4{a b:Addr}{xs ys:List (κ×Addr×Value)}{r:Bool}{Q:Value->Shared->Prop}(hu:knd.room A.in1)(hc:A.units < cLine)(ha:(a == sysModules)=false)(hb:(b == sysModules)=false)(da:s.heap.DictOfH knd a xs)(db:s.heap.DictOfH knd b ys)
  (hits:xs.length=ys.length->HHits A.in1 s ys xs r) (h:Q (.bool (xs.length == ys.length && r)) s):wpAny (model prog w) A (compareOp .Eq (.ref a) (.ref b)) Q E s:=by
 refine wpAny_richCompare_same_room (op := .Eq) da.typeIs db.typeIs PySem.F.slot_dict_eq (wpAny_call_entry PySem.F.slot_dict_eq da.typeIs PySem.F.entry_dict_eq ?_ (PySem.F.args_dict_eq_2 _ _)) hc
 show wpAny _ _ (Builtin.Dict.dictSlotArgs "__eq__" ⟨[.ref a,.ref b],[]⟩ >>= _) _ _ s;refine wpAny_bind ?_;unfold Builtin.Dict.dictSlotArgs;refine wpAny_bind (wpAny_notOrdered_dict da.typeIs (wpAny_pure ?_))
 refine wpAny_bind (wpAny_isInstance (T:="dict") db.typeIs PySem.F.sub_dict_dict ?_);simp only[Bool.not_true,Bool.false_eq_true,if_false]
 refine wpAny_bind (wpAny_pure (wpAny_bind (wpAny_pure (wpAny_bind (zf3 hu ha hb da db hits (wpAny_pure ⟨_,rfl,(λx=>nomatch x),?_⟩))))))
 simpa using h
theorem zm0{a b:Addr}{xs ys:List (κ×Addr×Value)}{r:Bool}{Q:Value->Shared->Prop}(hu:knd.room A.in1)(hc:A.units < cLine)(ha:(a == sysModules)=false)(hb:(b == sysModules)=false)(da:s.heap.DictOfH knd a xs)(db:s.heap.DictOfH knd b ys)
  (hits:xs.length=ys.length->HHits A.in1 s ys xs r) (h:Q (.bool (!(xs.length == ys.length && r))) s):wpAny (model prog w) A (compareOp .NotEq (.ref a) (.ref b)) Q E s:=by
 refine wpAny_richCompare_same_room (op := .NotEq) da.typeIs db.typeIs PySem.F.slot_dict_ne (wpAny_call_entry PySem.F.slot_dict_ne da.typeIs PySem.F.entry_dict_ne ?_ (PySem.F.args_dict_ne_2 _ _)) hc
 show wpAny _ _ (Builtin.Dict.dictSlotArgs "__ne__" ⟨[.ref a,.ref b],[]⟩ >>= _) _ _ s;refine wpAny_bind ?_;unfold Builtin.Dict.dictSlotArgs;refine wpAny_bind (wpAny_notOrdered_dict da.typeIs (wpAny_pure ?_))
 refine wpAny_bind (wpAny_isInstance (T:="dict") db.typeIs PySem.F.sub_dict_dict ?_);simp only[Bool.not_true,Bool.false_eq_true,if_false]
 refine wpAny_bind (wpAny_pure (wpAny_bind (wpAny_pure (wpAny_bind (zf3 hu ha hb da db hits (wpAny_pure ⟨_,rfl,(λx=>nomatch x),?_⟩))))))
 simpa using h
end
end L2
namespace L2
open PySem PySem.Spec PyProof.Rows
def KDs(K:W.Frag)(H:Hp):List (List Key×V)->List (List Key×PyData)->Prop:=Paired λp q=>p.1=q.1/\Rds K H p.2 q.2
def findKD(ys:List (List Key×PyData))(k:List Key):Option PyData:=(ys.find? λq=>decide (q.1=k)).map (·.2)
def eqKD(xs ys:List (List Key×PyData)):Bool:=xs.length == ys.length && xs.all λp=>match findKD ys p.1 with | some d=>PyData.eqv p.2 d | none=>false
def Flats(xs:List (List Key×PyData)):Prop:=∀p∈xs,p.2.canLay0=true/\p.2.depth<=60
section
variable{X:Cx}{pins:List (Addr×Obj)}{σ : St}{H:Hp}{s:Shared}
theorem zh0(I:Inv X pins σ H s):∀{kb:List (List Key×V)} {ys:List (List Key×Addr×Value)} {db:List (List Key×PyData)},KT H kb ys->KDs X.K H kb db->Flats db->∀k:List Key,
  (atKey ys k=none/\findKD db k=none)\/∃p d as,atKey ys k=some p/\findKD db k=some d/\Reads s.heap p.2 d as/\d.canLay0=true/\d.depth<=60
 | _,_,_,.nil,.nil,_,_ => .inl ⟨rfl,rfl⟩
 | _,_,_,.cons (a:=a) (b:=b) r t,.cons (b:=c) q u,fl,k=>by
  obtain⟨r1,r2,r3⟩:=r
  obtain⟨q1,q2⟩:=q
  by_cases e:a.1=k
  ·have e1:b.1=k:=r1.symm.trans e
   have e2:c.1=k:=q1.symm.trans e
   obtain⟨as,rd⟩:=I.rds q2 r3
   obtain⟨f1,f2⟩:=fl c (.head _)
   exact .inr ⟨b.2,c.2,as,by simp[atKey,List.find?_cons,e1],by simp[findKD,List.find?_cons,e2],rd,f1,f2⟩
  ·have e1:¬b.1=k:=λz=>e (r1.trans z)
   have e2:¬c.1=k:=λz=>e (q1.trans z)
   have z1:∀l,atKey (b :: l) k=atKey l k:=λl=>by simp[atKey,List.find?_cons,e1]
   have z2:∀l,findKD (c :: l) k=findKD l k:=λl=>by simp[findKD,List.find?_cons,e2]
   rw[z1,z2]
   exact zh0 I t u (λp hp=>fl p (.tail _ hp)) k
theorem zgo{A:Around}(hu:A.units + 61 < cLine)(I:Inv X pins σ H s){kb:List (List Key×V)}{ys:List (List Key×Addr×Value)}{db:List (List Key×PyData)}(tb:KT H kb ys)(qb:KDs X.K H kb db)(fb:Flats db) :
  ∀{ka:List (List Key×V)} {xs:List (List Key×Addr×Value)} {da:List (List Key×PyData)},KT H ka xs->KDs X.K H ka da->Flats da->HHits A s ys xs (da.all λp=>match findKD db p.1 with | some d=>PyData.eqv p.2 d | none=>false)
 | _,_,_,.nil,.nil,_ => .nil
 | _,_,_,.cons (a:=a) (b:=b) r t,.cons (b:=c) q u,fl=>by
  obtain⟨r1,r2,r3⟩:=r
  obtain⟨q1,q2⟩:=q
  have ih:=zgo hu I tb qb fb t u λp hp=>fl p (.tail _ hp)
  obtain⟨as,rd⟩:=I.rds q2 r3
  obtain⟨f1,f2⟩:=fl c (.head _)
  rw[List.all_cons]
  rcases zh0 I tb qb fb b.1 with⟨h1,h2⟩ | ⟨p,d,bs,h1,h2,h3,h4,h5⟩
  ·rw[<- r1,q1]at h2;rw[h2];exact .miss h1
  ·rw[<- r1,q1]at h2;rw[h2]
   refine .hit h1 (SeqAt.eqAt_reads c.2 d A s _ _ as bs rd h3 f1 h4 ?_) ih
   have:=Nat.min_le_left c.2.depth d.depth
   omega
end
def rEqDT(K:W.Frag)(neg:Bool):R2:=λx y H Q=>∃(a b:Addr) (ka kb:List (List Key×V)) (da db:List (List Key×PyData)),x = .ref a/\y = .ref b/\Rd H a (.dT ka)/\Rd H b (.dT kb)/\KDs K H ka da/\KDs K H kb db/\Flats da/\Flats db/\Q (.bl (xor neg (eqKD da db))) H
section
variable{X:Cx}
theorem zpb(hu:X.A.units + 64 < cLine):OpR X (compareOp .Eq) (rEqDT X.K false):=by
 intro pins s σ H x y u v Q I rx ry h
 obtain⟨a,b,ka,kb,da,db,rfl,rfl,ha,hb,qa,qb,fa,fb,q⟩:=h
 cases rx
 cases ry
 obtain⟨_,sa,xs,ta,ea⟩:=zeq I.hok ha
 obtain⟨_,sb,ys,tb,eb⟩:=zeq I.hok hb
 have lx:xs.length=da.length:=(Paired.length ta).symm.trans (Paired.length qa)
 have ly:ys.length=db.length:=(Paired.length tb).symm.trans (Paired.length qb)
 refine zi4 (knd:=tupleKind (mixKind X.prog X.w)) (tupleKind_room_in1 (by omega)) (by omega) sa sb ea eb (λ_=>zgo (by show X.A.units + 1 + 61 < cLine;omega) I tb qb fb ta qa fa) ⟨.bl _,H,I,rfl,?_⟩
 rw[lx,ly]
 have:(false ^^ eqKD da db)=eqKD da db:=Bool.false_xor _
 rw[this]at q
 exact q
theorem zoy(hu:X.A.units + 64 < cLine):OpR X (compareOp .NotEq) (rEqDT X.K true):=by
 intro pins s σ H x y u v Q I rx ry h
 obtain⟨a,b,ka,kb,da,db,rfl,rfl,ha,hb,qa,qb,fa,fb,q⟩:=h
 cases rx
 cases ry
 obtain⟨_,sa,xs,ta,ea⟩:=zeq I.hok ha
 obtain⟨_,sb,ys,tb,eb⟩:=zeq I.hok hb
 have lx:xs.length=da.length:=(Paired.length ta).symm.trans (Paired.length qa)
 have ly:ys.length=db.length:=(Paired.length tb).symm.trans (Paired.length qb)
 refine zm0 (knd:=tupleKind (mixKind X.prog X.w)) (tupleKind_room_in1 (by omega)) (by omega) sa sb ea eb (λ_=>zgo (by show X.A.units + 1 + 61 < cLine;omega) I tb qb fb ta qa fa) ⟨.bl _,H,I,rfl,?_⟩
 rw[lx,ly]
 have:(true ^^ eqKD da db) = !eqKD da db:=Bool.true_xor _
 rw[this]at q
 exact q
def rDClear:V->List V->Hp->VK->Prop:=λx vs H Q=>∃d kvs,x = .ref d/\vs=[]/\H d=some (.dT kvs)/\Q .non (upd H d (.dT []))
def tDisp1(tk tv:TE):TE:=λσ H Q=>∀p,H p=none->tk σ (upd H p (.dT [])) λx H1=>tv σ H1 λy H2=>∃b ks,x = .ref b/\H2 p=some (.dT [])/\H2 b=some (.tup (ks.map kV))/\Q (.ref p) (upd H2 p (.dT [(ks,y)]))
end
end L2
namespace L2
open PySem PySem.Spec PyProof.Rows
def pickS(x:Str)(lo hi:Option Int):List Nat:=Builtin.Str.strSliceIndices lo hi 1 x.length
def cutS(x:Str)(lo hi:Option Int):Str:=if ((pickS x lo hi).length == x.length)=true then x else⟨((pickS x lo hi).filterMap (x.cps[·]?)).toArray⟩
def rSlS:V->Option Int->Option Int->Hp->VK->Prop:=λx lo hi H Q=>∃z,x = .str z/\(cutS z lo hi).length<=sizeLine/\Q (.str (cutS z lo hi)) H
section
variable{X:Cx}
def rRepT(K:W.Frag):R2:=λx y H Q=>∃(a:Addr) (xs:List V) (n:Int),x = .ref a/\y = .int n/\SqT K H a xs/\xs≠[]/\1<=n/\n<=1000/\xs.length * n.toNat<=1000 /\
 (n=1->Q (.ref a) H)/\(2<=n->∀p,H p=none->Q (.ref p) (upd H p (.tup (List.replicate n.toNat xs).flatten)))
end
def Ends.thw(H0:Hp)(D:Ends):Ends:={ D with nx:=λσ H=>Thw H0 H (D.nx σ),rt:=λv H=>Thw H0 H (D.rt v) }
section
variable{X:Cx}{st:Stmt}{ss:List Stmt}{t:TS}
theorem SP.thw{pins:List (Addr×Obj)}{D:Ends}{f:Flow}{s:Shared}(h:SP X pins (D.thw X.H₀) f s):SP X pins D f s:=by
 cases f with
 | next=>obtain⟨σ,H,I,q⟩:=h;obtain⟨H',I',q'⟩:=Thw.inv (K:=D.nx σ) q I;exact⟨σ,H',I',q'⟩
 | brk=>exact h
 | cont=>exact h
 | ret u=>obtain⟨v,σ,H,I,r,q⟩:=h;obtain⟨H',I',q'⟩:=Thw.inv (K:=D.rt v) q I;exact⟨v,σ,H',I',r,q'⟩
theorem zlb(h:PS X st t):PS X st (λD σ H=>t (D.thw X.H₀) σ H):=λpins s σ H D I q=>thn (h pins s σ H _ I q) λ_ _ z=>z.thw
end
end L2
namespace L2
open PySem PySem.Spec PyProof.Rows
section
variable{prog:Program}{w:World}{A:Around}{E:Value->Shared->Prop}{s:Shared}
end
section
variable{X:Cx}
def upFrom(lo:Int)(n:Nat):List Int:=(List.range n).map λi:Nat=>lo + (i:Int)
def rRange2:List V->Hp->VK->Prop:=λxs H Q=>∃i j:Int,xs=[.int i,.int j]/\∀p,H p=none->Q (.ref p) (upd H p (.rng i j))
def rTupRng:List V->Hp->VK->Prop:=λxs H Q=>∃(p:Addr) (lo hi:Int),xs=[.ref p]/\H p=some (.rng lo hi)/\-1000<=lo/\lo<=1000/\-1000<=hi/\hi<=1000/\∀l,H l=none->Q (.ref l) (upd H l (.tup ((upFrom lo (hi - lo).toNat).map V.int)))
end
end L2
set_option Elab.async false
set_option linter.all false
set_option maxRecDepth 100000
namespace L2
open PySem PySem.Spec PyProof.Rows
section
variable{prog:Program}{w:World}{κ : Type}[DecidableEq κ]{knd:HeapKind prog w κ}{A:Around}{E:Value->Shared->Prop}{s:Shared}
end
section
variable{X:Cx}
def rDPop:V->List V->Hp->VK->Prop:=λx vs H Q=>∃d b kvs k v,x = .ref d/\vs=[.ref b]/\H d=some (.dT kvs)/\H b=some (.tup (k.map kV))/\valV kvs k=some v/\Q v (upd H d (.dT (dropK kvs k)))
end
theorem zlo{H H1:Hp}{d:Addr}{o:Obj}{u:HO}(h0:H d=some u)(e:Same (upd H d (.frz o u)) H1):Same H (upd H1 d u):=λb q hb=>by
 by_cases z:b=d
 ·subst z;rw[zaf,<- h0];exact hb
 ·rw[zal z];exact e b q (by rw[zal z];exact hb)
section
variable{prog:Program}{w:World}{κ : Type}[DecidableEq κ]{knd:HeapKind prog w κ}{A:Around}{E:Value->Shared->Prop}{s:Shared}
end
end L2
namespace L2
open PySem PySem.Spec PyProof.Rows
def tTry2(K:W.Frag)(c1 c2:Value)(tb:(St->XK)->TS)(th1 th2:TS):TS:=λD σ H=>tb (λσ' cls _ H'=>(W.exmOne K cls c1=some true/\th1 D σ' H')\/(W.exmOne K cls c1=some false/\W.exmOne K cls c2=some true/\th2 D σ' H')) D σ H
end L2
namespace L2
open PySem PySem.Spec PyProof.Rows
def rCatA(K:W.Frag):R2:=λx y H Q=>∃a b xs ys,x = .ref a/\y = .ref b/\SqT K H a xs/\SqT K H b ys/\xs.length + ys.length<=sizeLine /\
 (xs=[]->Q (.ref b) H)/\(xs≠[]->ys=[]->Q (.ref a) H)/\(xs≠[]->ys≠[]->∀p,H p=none->Q (.ref p) (upd H p (.tup (xs ++ ys))))
end L2
namespace L2
open PySem PySem.Spec PyProof.Rows
def hsI(xs:List Int):Int:=reduceHash (Builtin.Tuple.tupleHashOf (xs.map hashInt))
theorem zd8{α : Type}{f : α->Int}:∀{l:List α} {e : α},(l.map f).Nodup->e∈l->(l.filter λx=>f x == f e).length<=1
 | [],e,_,h=>by cases h
 | x :: l,e,hn,h=>by
  rw[List.map_cons,List.nodup_cons]at hn
  rw[List.filter_cons]
  by_cases q:f x=f e
  ·have z:(l.filter λy=>f y == f e)=[]:=by
    rw[List.filter_eq_nil_iff]
    intro y hy hb
    exact hn.1 (List.mem_map.mpr ⟨y,hy,(beq_iff_eq.mp hb).trans q.symm⟩)
   rw[if_pos (beq_iff_eq.mpr q),z];exact Nat.le_refl 1
  ·rw[if_neg (λz=>q (beq_iff_eq.mp z))]
   refine zd8 hn.2 ?_
   rcases List.mem_cons.mp h with z | z
   ·exact absurd (congrArg f z.symm) q
   ·exact z
section
variable{prog:Program}{w:World}{κ : Type}[DecidableEq κ]{kk:KeyKind prog w κ}{A:Around}{E:Value->Shared->Prop}{s:Shared}
theorem zig{a:Addr}{Q:Bool->Shared->Prop}(hT:s.TypeIs (.ref a) "tuple")(h:Q false s):wpAny (model prog w) A (Builtin.Dict.quietEq (.ref a)) Q E s:=by
 unfold Builtin.Dict.quietEq
 refine wpAny_bind (wpAny_specialOf hT F.slot_tuple_eq.lookup (wpAny_pure ?_))
 exact h
theorem zjt{nm:String}{o:Addr}{ob:Obj}{es:Array DictEntry}{ep:Nat}{xs:List (List κ×Addr×Value)}{Q:Array DictEntry->Shared->Prop}(hob:s.heap.get? o=some ob)(hdt:ob.data = .dict es ep)
  (he:es.toList=xs.map (entryOfKey (tupleKind kk))) (hk:∀x∈xs,(tupleKind kk).is s.heap x.1 x.2.1) (hn:(xs.map λx=>(tupleKind kk).hash x.1).Nodup) (h:Q es s):wpAny (model prog w) A (Builtin.Dict.entriesForEmpty nm o) Q E s:=by
 unfold Builtin.Dict.entriesForEmpty
 refine wpAny_bind (wpAny_dictEntries hob hdt ?_)
 refine wpAny_bind ?_
 rw[<- Array.forIn_toList]
 have hn':(es.toList.map (·.hash)).Nodup:=by rw[he,List.map_map];exact hn
 refine wpAny_forIn_list _ (λrest (_:PUnit) s'=>s'=s/\∀e∈rest,e∈es.toList) _ ?_ ?_ _ _ ⟨rfl,λe z=>z⟩
 ·rintro e rest b s' ⟨rfl,hin⟩
  have hm:=hin e List.mem_cons_self
  obtain⟨x,hx,rfl⟩:=List.mem_map.mp (by rw[<- he];exact hm)
  refine wpAny_bind (zig (IsTupleKey.typeIs (hk x hx)) ?_)
  simp only[Bool.not_false,if_true]
  have le:¬((es.filter λz=>z.hash == (entryOfKey (tupleKind kk) x).hash).size > 1):=by
   obtain⟨l⟩:=es
   have q:(l.filter λz=>z.hash == (entryOfKey (tupleKind kk) x).hash).length<=1:=zd8 (f:=λz:DictEntry=>z.hash) hn' hm
   have:(Array.filter (λz=>z.hash == (entryOfKey (tupleKind kk) x).hash) { toList:=l }).size=(l.filter λz=>z.hash == (entryOfKey (tupleKind kk) x).hash).length:=by simp
   omega
  rw[if_neg le]
  exact wpAny_pure ⟨rfl,λe he=>hin e (List.mem_cons_of_mem _ he)⟩
 ·rintro b s' ⟨rfl,_⟩
  exact wpAny_pure h
theorem mergeH{nm:String}{d o:Addr}{xs:List (List κ×Addr×Value)}{Q:Unit->Shared->Prop}(hdo:d≠o)(hoS:(o == sysModules)=false)
  (hd:s.heap.DictOfH (tupleKind kk) d []) (ho:s.heap.DictOfH (tupleKind kk) o xs) (hn:(xs.map λx=>(tupleKind kk).hash x.1).Nodup)
  (hQ:∀h',h'.DictOfH (tupleKind kk) d xs->Heap.SameBut d s.heap h'->Q () { s with heap:=h' }) (hsz:xs.length<=sizeLine) :
  wpAny (model prog w) A (Builtin.Dict.mergeDict nm d o) Q E s:=by
 obtain⟨od,esd,epd,hod,hcd,hdd,hed,hkd,hnd⟩:=id hd
 obtain⟨oo,eso,epo,hoo,hco,hdo',heo,hko,hno⟩:=id ho
 unfold Builtin.Dict.mergeDict
 rw[if_neg (by simpa using hdo)]
 unfold Builtin.Dict.showsAll
 rw[if_neg (by rw[hoS];exact Bool.false_ne_true)]
 refine wpAny_bind (wpAny_pure ?_)
 refine wpAny_bind (wpAny_dictEntries hoo hdo' ?_)
 have hde:esd.isEmpty=true:=by
  obtain⟨l⟩:=esd
  have:l=[]:=hed
  subst this;rfl
 cases xs with
 | nil=>
  have hoe:eso = #[]:=by
   obtain⟨l⟩:=eso
   have:l=[]:=heo
   subst this;rfl
  subst hoe
  have few:(decide ((#[]:Array DictEntry).size<=8) && (#[]:Array DictEntry).all λe=>(keyPart e.key).isSome)=true:=by simp
  simp only[few,Bool.not_true,Bool.false_eq_true,if_false]
  refine wpAny_bind (wpAny_dictEpoch hoo hdo' ?_)
  refine wpAny_bind (wpAny_dictEntries hoo hdo' ?_)
  refine wpAny_bind ?_
  rw[Std.Legacy.Range.forIn_eq_forIn_range']
  refine wpAny_forIn_list _ (λrest (_:PUnit) s'=>rest=[]/\s'=s) _ ?_ ?_ _ _ ⟨rfl,rfl⟩
  ·rintro x rest b s' ⟨z,_⟩;cases z
  ·rintro b s' ⟨_,rfl⟩
   exact wpAny_pure (hQ _ hd (Heap.SameBut.refl _ _))
 | cons x xs=>
  have hne:¬(eso.isEmpty=true):=by
   obtain⟨l⟩:=eso
   have:l=(x :: xs).map (entryOfKey (tupleKind kk)):=heo
   subst this;simp
  have few:(decide (eso.size<=8) && eso.all λe=>(keyPart e.key).isSome)=false:=by
   obtain⟨l⟩:=eso
   have:l=(x :: xs).map (entryOfKey (tupleKind kk)):=heo
   subst this
   have:(keyPart (entryOfKey (tupleKind kk) x).key).isSome=false:=rfl
   simp[this]
  simp only[few,Bool.not_false,if_true]
  refine wpAny_bind (wpAny_dictEntries hod hdd ?_)
  simp only[hde,if_true]
  refine wpAny_bind (zjt hoo hdo' heo hko hn ?_)
  rw[Bool.eq_false_iff.mpr hne]
  simp only[Bool.not_false,if_true]
  refine wpAny_bind (wpAny_updateDictKeysTo (hz':=by
   have:eso.size=(x :: xs).length:=by rw[<- Array.length_toList,heo,List.length_map]
   show eso.size<=_
   omega) hod hdd (wpAny_pure (hQ _ ⟨_,_,epd + 1,Heap.get?_update_self _ hod (Obj.isFreed_of_dict (Obj.data_mapDictKeys hdd _)),
   hcd.mapDictKeys _,Obj.data_mapDictKeys hdd _,heo,λx hx => ?_,hno⟩ (Heap.SameBut.update ..))))
  exact(tupleKind kk).keeps (hko x hx) hod hdd (Heap.SameBut.update ..)
theorem zjo{o:Addr}{xs:List (List κ×Addr×Value)}{Q:Value->Shared->Prop}(hoS:(o == sysModules)=false)(ho:s.heap.DictOfH (tupleKind kk) o xs)(hn:(xs.map λx=>(tupleKind kk).hash x.1).Nodup)(hsz:xs.length<=sizeLine)
  (h:∀h',h'.DictOfH (tupleKind kk) s.heap.objs.size xs->Heap.SameBut s.heap.objs.size (s.heap.push { cls := .type "dict",data := .dict #[] }) h'->Q (.ref s.heap.objs.size) { s with heap:=h' }) :
  wpAny (model prog w) A (call (.type "dict") [.ref o]) Q E s:=by
 refine callType_codes (Q₁:=λobj s₁=>obj = .ref s.heap.objs.size/\s₁={ s with heap:=s.heap.push { cls := .type "dict",data := .dict #[] } }) F.kt_called_dict (F.kt_typeCall_dict_1 _) F.entry_dict_init (kt_code_dict_new _ ⟨rfl,rfl⟩) ?_
 rintro obj s₁ ⟨rfl,rfl⟩
 have hnew:(s.heap.push { cls := .type "dict",data := .dict #[] }).DictOfH (tupleKind kk) s.heap.objs.size []:=⟨_,_,_,Heap.get?_push_size _ rfl,⟨rfl,rfl,rfl⟩,rfl,rfl,λx hx=>(by cases hx),List.nodup_nil⟩
 have hdo:s.heap.objs.size≠o:=by
  obtain⟨_,_,_,hg,_⟩:=ho
  exact λe=>absurd (Heap.lt_size hg) (by rw[e];exact Nat.lt_irrefl _)
 have ho':(s.heap.push { cls := .type "dict",data := .dict #[] }).DictOfH (tupleKind kk) o xs:=by
  obtain⟨ob,es,ep,h1,h2,h3,h4,h5,h6⟩:=ho
  refine⟨ob,es,ep,Heap.get?_push_of_some _ h1,h2,h3,h4,λx hx => ?_,h6⟩
  obtain⟨q1,q2,q3,q4,q5⟩:=h5 x hx
  exact⟨q1,q2,q3,Heap.get?_push_of_some _ q4,q5⟩
 refine⟨hnew.typeIs,F.args_dict_init_2 _ _,?_⟩
 unfold Builtin.«dict.__init__»
 refine wpAny_bind ?_
 unfold Builtin.Dict.selfAndRest
 refine wpAny_bind (wpAny_notOrdered_dict hnew.typeIs ?_)
 show wpAny _ _ (pure (s.heap.objs.size,[Value.ref o])) _ _ _
 refine wpAny_pure ?_
 show wpAny _ _ (Builtin.Dict.updateFrom "dict.__init__" s.heap.objs.size (.ref o) [] .none) _ _ _
 unfold Builtin.Dict.updateFrom
 refine wpAny_bind (wpAny_typeOf ho'.typeIs ?_)
 rw[if_neg (by decide)]
 refine wpAny_bind ?_
 unfold Builtin.Dict.merge
 refine wpAny_bind ?_
 unfold Builtin.Dict.readDirectly
 refine wpAny_bind (wpAny_isInstance ho'.typeIs isSubtype_dict_dict ?_)
 simp only[Bool.not_true,Bool.false_eq_true,if_false]
 refine wpAny_bind (wpAny_specialOf ho'.typeIs F.slot_dict_iter.lookup (wpAny_pure ?_))
 simp only[beq_self_eq_true,if_true]
 refine wpAny_bind (wpAny_pure ?_)
 refine mergeH (hsz:=hsz) hdo hoS hnew ho' hn λh' hd' hs' => ?_
 show wpAny _ _ (Builtin.Dict.addKeywords s.heap.objs.size [] >>= _) _ _ _
 exact wpAny_bind (wpAny_pure (wpAny_pure ⟨rfl,h h' hd' hs'⟩))
end
def HDs(kvs:List (List Key×V)):Prop:=∃ts:List (List Int),kvs.map (·.1)=ts.map (λt=>t.map Sum.inl)/\(ts.map hsI).Nodup
theorem KT.keysEq{H:Hp}{kvs:List (List Key×V)}{xs:List (List Key×Addr×Value)}(r:KT H kvs xs):xs.map (·.1)=kvs.map (·.1):=by
 induction r with
 | nil=>rfl
 | cons h t ih=>rw[List.map_cons,List.map_cons,ih,h.1]
section
variable{X:Cx}
theorem zpt(P:Program)(w:World)(t:List Int):(tupleKind (mixKind P w)).hash (t.map Sum.inl)=hsI t:=by
 show reduceHash (Builtin.Tuple.tupleHashOf ((t.map Sum.inl).map (mixKind P w).hash))=_
 rw[List.map_map];rfl
theorem zj3:CallR X (.type "dict") (λxs H Q=>∃d kvs,xs=[.ref d]/\H d=some (.dT kvs)/\HDs kvs/\∀p,H p=none->Q (.ref p) (upd H p (.dT kvs))):=by
 intro pins s σ H xs us Q I r h
 obtain⟨d,kvs,rfl,hH,⟨ts,hts,htn⟩,q⟩:=h
 obtain⟨u,rfl,rx⟩:=vals1 r
 cases rx
 obtain⟨z,hd,ys,rel,dd⟩:=zqq I.hok hH
 have hz:ys.length<=sizeLine:=by rw[<- Paired.length rel];exact z
 have kys:ys.map (·.1)=kvs.map (·.1):=KT.keysEq rel
 have hn:(ys.map λx=>(tupleKind (mixKind X.prog X.w)).hash x.1).Nodup:=by
  have e:(ys.map λx=>(tupleKind (mixKind X.prog X.w)).hash x.1)=(ys.map (·.1)).map (tupleKind (mixKind X.prog X.w)).hash:=by rw[List.map_map];rfl
  rw[e,kys,hts,List.map_map]
  have e2:(ts.map ((tupleKind (mixKind X.prog X.w)).hash ∘ λt=>t.map Sum.inl))=ts.map hsI:=List.map_congr_left λt _=>zpt _ _ t
  rw[e2];exact htn
 refine zjo (kk:=mixKind X.prog X.w) hd dd hn hz λh' dd' hs => ?_
 have kp:∀b o',s.heap.get? b=some o'->h'.get? b=some o':=λb o' e=>by
  rw[hs.2 b (Nat.ne_of_lt (Heap.lt_size e))];exact Heap.get?_push_of_some _ e
 obtain⟨o,es,ep,h1,h2,h3,h4,_,h5⟩:=dd'
 have nf:=I.hok.fresh (Nat.le_refl s.heap.objs.size)
 refine⟨.ref s.heap.objs.size,_,I.laid (t':=s.toks) kp (Nat.le_refl _) (show ObjOk X.prog X.w _ h' _ (.dT kvs) from⟨z,?_,ys,rel.keeps λc yy ec => ?_,o,es,ep,h1,h2,h3,h4,h5⟩),rfl,q _ nf⟩
 ·exact beq_eq_false_iff_ne.mpr (Nat.ne_of_gt I.big)
 ·rw[zal (λe=>by rw[e,nf]at ec;cases ec)];exact ec
end
end L2
namespace L2
open PySem PySem.Spec PyProof.Rows TS
def lamCx(X:Cx)(N:List Str)(qual:Str)(scope:Scope)(q c':Addr)(cl:List (Str×Addr))(A:Around)(s:Shared)(H:Hp):Cx where
 prog:=X.prog
 w:=X.w
 K:=X.K
 mg:=X.mg
 base:=X.base
 A:=A.deeper (W.envX qual scope s.heap.objs.size q (.ref c') cl)
 N:=N
 s₀:=s
 H₀:=H
 env:=W.envX qual scope s.heap.objs.size q (.ref c') cl
 outer:=X.stack
 stack:=W.envX qual scope s.heap.objs.size q (.ref c') cl :: X.stack
 ex:=[]
 calm:=true
 fn:=λ_=>false
 pn:=[]
 xe:=λ_ _=>False
section
variable{X:Cx}{pins:List (Addr×Obj)}{σ : St}{H:Hp}{s:Shared}{x y:Str}{qual:Str}{scope:Scope}{q c' c:Addr}{A:Around}{u uy:Value}{xv yv:V}
theorem zpd{h₁:Heap}{tk:Nat}(I:Inv X pins σ H s)(hA:A.frames=some X.stack)(hh:A.handled=none)(hk:scope.kind = .function)(hx:scope.names.lookup x=some .local)(hy:scope.names.lookup y=some .free)
  (ho:∀z,(scope.names.lookup z=some .cell\/scope.names.lookup z=some .free)->z=y) (hcy:X.env.cells.lookup y=some c) (hcc:s.heap.IsCell c (some uy)) (ry:RelV yv uy) (rx:RelV xv u)
  (hns:h₁.Ns s.heap.objs.size (λz=>[(x,u)].reverse.lookup z)) (hk₁:∀b o,s.heap.get? b=some o->h₁.get? b=some o) :
  Inv (lamCx X [x,y] qual scope q c' [(y,c)] A s H) [] [some xv,some yv] H { s with heap:=h₁,toks:=tk }:=by
 have lkc:∀z d,([(y,c)]:List (Str×Addr)).lookup z=some d->z=y/\d=c:=λz d h=>by
  rw[List.lookup_cons]at h
  split at h
  ·rename_i e
   exact⟨by simpa using e,by cases h;rfl⟩
  ·cases h
 have lky:([(y,c)]:List (Str×Addr)).lookup y=some c:=by rw[List.lookup_cons];simp
 have hc1:h₁.IsCell c (some uy):=let ⟨o,e,d⟩:=hcc;⟨o,hk₁ _ _ e,d⟩
 have hkd:∀z,Env.kindOf (W.envX qual scope s.heap.objs.size q (.ref c') [(y,c)]) z=scope.names.lookup z:=λ_=>rfl
 refine⟨⟨I.ok.mod,hk,rfl,rfl,Nat.le_refl _,λz z' d h1 h2=>(lkc _ _ h1).1.trans (lkc _ _ h2).1.symm,λz hz=>⟨c,?_⟩,λz d hf _=>absurd (show false=true from hf) Bool.false_ne_true,λ_=>hh,Around.frames_deeper hA,.inr ⟨rfl,rfl⟩,λb z=>(nomatch z),I.bs,Nat.le_trans I.ok.bsz I.sz,λb _ _ z=>(nomatch z),λb z=>(nomatch z),I.stack,I.stkFree⟩,
  rfl,I.bare,Un.kept hk₁,⟨_,hns,λi z v h1 h2 h3 => ?_⟩,λz d h=>⟨some uy,by rw[(lkc z d h).2];exact hc1⟩,I.hok.fresh (Nat.le_refl _),λz d h=>by rw[(lkc z d h).2];exact I.freeC y c hcy,λp hp=>(nomatch hp),I.hok.kept hk₁,rfl⟩
 ·have:=ho z hz
  subst this
  exact lky
 ·match i,h1,h2 with
  | 0,h1,h2=>
   cases h1
   cases h2
   exact⟨u,rx,.inl ⟨hx,by show List.lookup x [(x,u)]=some u;rw[List.lookup_cons];simp⟩⟩
  | 1,h1,h2=>
   cases h1
   cases h2
   exact⟨uy,ry,.inr ⟨.inr hy,c,lky,hc1⟩⟩
  | i + 2,h1,h2=>exact absurd (show (none:Option Str)=some z from h1) (by simp)
theorem zos{oc:Obj}{vs:Array Value}{tq:Tok}{params:Arguments}{body:Expr}{pm ctv:Value}{t:TE}{Q:VK}(I:Inv X pins σ H s)(hq:(q,W.kla_obj "<lambda>" qual params body scope [(y,c)] pm c' ctv)∈pins)(hc':(c',oc)∈pins)
  (hd:oc.data = .fields vs) (hv:vs[1]? = some (.str qual tq)) (hA:A.frames=some X.stack) (hh:A.handled=none) (hr:A.depth < recursionLimit) (hk:scope.kind = .function) (hco:scope.isCoroutine=false) (hgen:scope.isGenerator=false)
  (hcell:∀x∈scope.names,x.2≠.cell) (hx:scope.names.lookup x=some .local) (hy:scope.names.lookup y=some .free) (ho:∀z,(scope.names.lookup z=some .cell\/scope.names.lookup z=some .free)->z=y)
  (hb:∀u,bindArgs (W.kla_fn "<lambda>" qual params body scope [(y,c)] pm (.ref c') ctv) ⟨[u],[]⟩=pure [(x,u)])
  (hcy:X.env.cells.lookup y=some c) (hcc:s.heap.IsCell c (some uy)) (ry:RelV yv uy) (rx:RelV xv u)
  (PEb:PE (lamCx X [x,y] qual scope q c' [(y,c)] A s H) body t) (h:t [some xv,some yv] H Q):wpAny (model X.prog X.w) A (call (.ref q) [u]) (EP X pins σ Q) (λ_ _=>False) s:=by
 have e1:=(I.pin _ (List.mem_append_right _ hq)).1
 have e2:=(I.pin _ (List.mem_append_right _ hc')).1
 refine wpAny_call (codeAny_mono (R:=CR CX0 X.stack X.prog X.w H s Q E0) (W.kla_callFunE hr e1 rfl hco hgen rfl ⟨c',oc,vs,tq,rfl,e2,hd,hv⟩ ?_) λr s' hq => ?_)
 ·rw[hb u]
  refine wpAny_pure (wpAny_newFunctionEnv hcell (λz hz => ?_) (λh₁ hns hsb => ?_) hk)
  ·obtain rfl:=List.mem_singleton.mp hz
   exact hx
  ·have hk₁:∀b o,s.heap.get? b=some o->h₁.get? b=some o:=λb o e=>hsb.extBut b o (Nat.ne_of_lt (Heap.lt_size e)) (Heap.get?_push_of_some _ e)
   refine⟨I.nolimit.keeps hk₁,?_⟩
   show codeAny _ _ (.expr body (W.envX qual scope s.heap.objs.size q (.ref c') [(y,c)])) _ _
   refine W.kla_codeExpr (wpAny_mono (PEb [] _ _ H Q (zpd I hA hh hk hx hy ho hcy hcc ry rx hns hk₁) h) (λv s' hv => ?_) λ_ _ z=>False.elim z)
   obtain⟨w,H',J,rw,qw⟩:=hv
   exact⟨w,H',J.os,J.bare,J.base,J.hok,rw,qw⟩
 ·match r,hq with
  | .error e,hq=>exact False.elim hq
  | .ok (.ret u),hq=>exact I.after hq
  | .ok .next,hq=>exact False.elim hq
  | .ok .brk,hq=>exact False.elim hq
  | .ok .cont,hq=>exact False.elim hq
theorem zmp{P cc:Addr}{params:Arguments}{body:Expr}{clos:List (Str×Addr)}{pos:Pos}{Qv:Value->Shared->Prop}{E:Value->Shared->Prop}(I:Inv X pins σ H s)(hcode:X.env.code = .ref cc)(C:W.CodeHd X.base cc P)
  (hT:H P=some (.tbl #[])) (hB:X.base.BuiltinsAt X.mg P) (hcl:closureFor scope X.env=pure clos) (hdef:defaultsOf params X.env=([],[]))
  (h:∀(q c':Addr) (oc:Obj) (vs:Array Value) (tq:Tok) (ctv:Value) (s':Shared),oc.data = .fields vs->vs[1]? = some (.str (X.env.qual ++ "<lambda>") tq)->H c'=none->c'≠P ->
   Inv X ((q,W.kla_obj "<lambda>" (X.env.qual ++ "<lambda>") params body scope clos ((X.mg "__name__").getD .none) c' ctv) :: (c',oc) :: pins) σ (upd H P (.tbl #[rawInt pos.line,rawInt pos.col,.ref c'])) s'->Qv (.ref q) s') :
  wpAny (model X.prog X.w) A (eval (.Lambda params body scope pos) X.env) Qv E s:=by
 have hP:s.heap.get? P=some (W.tabObj #[]):=I.hok P _ hT
 have hg:=I.mod.glob.keeps I.bk
 have hgP:mainGlobals≠P:=λz=>by
  obtain⟨o,es,ep,e,hd,_⟩:=hg
  rw[z,hP]at e;cases e;cases hd
 have hB':s.heap.BuiltinsAt X.mg P:=let ⟨bm,ob,b1,b2,b3,b4,b5,r⟩:=hB;⟨bm,ob,b1,b2,b3,b4,I.bk _ _ b5,r⟩
 refine W.kla_eval hdef (W.kla_makeFunction (ps := #[]) hcl I.ok.glob hg hcode (C.keeps I.bk) hP trivial rfl hgP hB' λc' ctv h' tk hx hge hlt hrec htb => ?_)
 obtain⟨c₂,oc,vs,tq,z2,hoc,hd,hv⟩:=hrec
 cases z2
 have hPl:P < s.heap.objs.size:=Heap.lt_size hP
 have hcP:c'≠P:=Nat.ne_of_gt (Nat.lt_of_lt_of_le hPl hge)
 have hcn:H c'=none:=I.hok.fresh hge
 have bP:∀b,H b=none->b≠P:=λb n z=>by subst z;rw[hT]at n;cases n
 have un:Un (frs X.stack) [] H (upd H P (.tbl #[rawInt pos.line,rawInt pos.col,.ref c'])) s.heap h':=
  ⟨λb o e n _ _=>hx b o (bP b n) e,λb o e n _ _=>⟨o.slots,hx b o (bP b n) e⟩,λb o e n _=>by rw[zal (bP b n)];exact n,
   λb o e _=>by
    by_cases hb:b=P
    ·subst hb;exact⟨_,htb⟩
    ·exact⟨_,hx b o hb e⟩,
   λb xs e=>by rw[zal (zbk e hT (by intro z;cases z))];exact e,λb o u e=>by rw[zal (zbk e hT (by intro z;cases z))];exact e,
   λb ps e=>by
    by_cases hb:b=P
    ·subst hb;rw[hT]at e;cases e;exact⟨#[rawInt pos.line,rawInt pos.col,.ref c'],by rw[zaf];simp⟩
    ·exact⟨#[],by rw[zal hb,e];simp⟩⟩
 have hok':HOk X.prog X.w (upd H P (.tbl #[rawInt pos.line,rawInt pos.col,.ref c'])) h':=λb u e=>by
  by_cases hb:b=P
  ·subst hb;rw[zaf]at e;cases e;exact htb
  ·rw[zal hb]at e
   refine(I.hok b u e).stay (λd v hdv r=>hx d v ?_ r) (λd r=>by rw[zal (zbk r hT (by intro z;cases z))];exact r) λd xs r=>by rw[zal (zbk r hT (by intro z;cases z))];exact r
   rcases hdv with rfl | r
   ·exact hb
   ·exact zbk r hT (by intro z;cases z)
 have I1:Inv X pins σ (upd H P (.tbl #[rawInt pos.line,rawInt pos.col,.ref c'])) { s with heap:=h',toks:=tk }:=I.call (g':=s.gens) (d':=s.drawn) (t':=tk) (ch:=[]) un hok' I.bare (λb z=>absurd z (by simp))
 have I2:=I1.pinNew (t':=tk) (ob:=W.kla_obj "<lambda>" (X.env.qual ++ "<lambda>") params body scope clos ((X.mg "__name__").getD .none) c' ctv) rfl (by intro v z;cases z)
 refine h _ c' oc vs tq ctv _ hd hv hcn hcP (I2.pins_of λp hp => ?_)
 rcases List.mem_cons.mp hp with rfl | hp
 ·exact I2.pin _ (List.mem_append_right _ (.head _))
 ·rcases List.mem_cons.mp hp with rfl | hp
  ·refine⟨Heap.get?_push_of_some _ hoc,by rw[zal hcP];exact hcn,Nat.ne_of_gt (Nat.lt_of_lt_of_le I.lt hge),I.nofs hge,λv z => ?_⟩
   rw[hd]at z;cases z
  ·exact I2.pin p (List.mem_append_right _ (.tail _ hp))
end
def tSortL(K:W.Frag)(P:Addr)(lp:Pos)(i:Nat)(tb:TE)(b:Bool)(te:TE):TE:=λσ H Q=>te σ H λv H1=>∃(l:Addr) (all:List V) (yv:V),v = .ref l/\H1 l=some (.lst all)/\σ[i]? = some (some yv)/\H1 P=some (.tbl #[]) /\
 ∀c',H1 c'=none->c'≠P->skGo (λx H Q=>tb [some x,some yv] H Q) all [] (upd H1 P (.tbl #[rawInt lp.line,rawInt lp.col,.ref c'])) (skEnd K b all λout H'=>∀D,H' D=none->Q (.ref D) (upd H' D (.lst out)))
section
variable{X:Cx}{j i:Nat}{p pos kpos rpos cpos lp:Pos}{e body:Expr}{te tb:TE}{P cc:Addr}{params:Arguments}{scope:Scope}{x y g:Str}{kg:NameKind}
end
end L2
namespace L2
open PySem PySem.Spec PyProof.Rows
def OnlyT(P:Addr)(H:Hp):Prop:=(∀b,H b=none\/(∃o xs,H b=some (.frz o (.lst xs)))\/b=P)/\H P=some (.tbl #[])
theorem zma{P:Program}{w:World}{K:W.Frag}{mg mb:Str->Option Value}{CX:CXT}{k:Nat}{fa a cc Pt:Addr}{fd:FuncData}{x:Str}{sp:Sp}{s₁:Shared}{vs:List Value}{ns:List Int}
  (KX:K.In s₁.heap) (hns:s₁.heap.Ns mainGlobals mg) (hb:s₁.heap.Ns builtinsNs mb) (hbb:∀x:Str,x≠"__name__"->mb x=bootBuiltins x) (hlim:s₁.heap.NoLimit) (hg:s₁.gens = #[])
  (hPt:s₁.heap.get? Pt=some (W.tabObj #[])) (hCd:W.CodeHd s₁.heap cc Pt) (hKP:K.lookup Pt=none)
  (hbm:∃bm ob,mg "__builtins__" = some (.ref bm)/\bm≠builtinsNs/\s₁.heap.get? bm=some ob/\ob.cls = .type "module"/\ob.dict=some builtinsNs/\ob.data = .plain)
  (ha:s₁.heap.get? a=some { cls := .type "list",data := .seq vs.toArray }) (hi:IntsAre vs ns) (hl:ns.length<=sizeLine) (hr:Room k callerA)
  (F:∀base:Heap,K.In base->base.Ns mainGlobals mg->base.BuiltinsAt mg Pt->FnOk P w K mg base CX k fa fd [x] sp) (hbind:∀(s:Shared) (u:Value),BindsTo s fd ⟨[u],[]⟩ [(x,u)])
  (hsp:∀H:Hp,OnlyT Pt H->SqL K H a (ns.map V.int)->sp [.ref a] H (λv _=>v = .bl true) λ_ _ _=>False)
  (hCX:∀H e s',CX [] H s₁ (λ_ _ _=>False) e s'->False) :
  codeAny (model P w) callerA (.call (.ref fa) ⟨[.ref a],[]⟩) (λr s'=>r = .ok (.ret (.bool true))/\OldK s₁.heap s'.heap/\s'.os=s₁.os/\AllBare s'.gens) s₁:=by
 have rv:=zhx hi
 have lenV:=hi.length
 have naP:a≠Pt:=λz=>by subst z;rw[ha]at hPt;cases hPt
 have core:∀H:Hp,OnlyT Pt H->SqL K H a (ns.map V.int)->HOk P w H s₁.heap->(∀b,H b≠none->b=a\/b=Pt)->(H a≠none->K.lookup a=none) ->
   codeAny (model P w) callerA (.call (.ref fa) ⟨[.ref a],[]⟩) (λr s'=>r = .ok (.ret (.bool true))/\OldK s₁.heap s'.heap/\s'.os=s₁.os/\AllBare s'.gens) s₁:=by
  intro H hO hS hok hA hK
  have base_of:∀{b:Addr} {o:Obj},s₁.heap.get? b=some o->H b=none->(hidT s₁.heap H).get? b=some o:=λe n=>znm e n
  have noS:∀{b:Addr} {o:Obj},s₁.heap.get? b=some o->(∀v n,o.data≠.seq v n)->(∀v,o.data≠.fields v)->H b=none:=fun{b o} e d1 d2=>by
   cases q:H b with
   | none=>rfl
   | some u=>
    exfalso
    rcases hA b (by rw[q];simp) with z | z
    ·subst z;rw[ha]at e;cases e;exact d1 _ _ rfl
    ·subst z;rw[hPt]at e;cases e;exact d2 _ rfl
  have nsK:∀{b:Addr} {m:Str->Option Value},s₁.heap.Ns b m->(hidT s₁.heap H).Ns b m:=fun{b m} ⟨o,es,ep,e,d,r⟩=>⟨o,es,ep,base_of e (noS e (λv n z=>by rw[d]at z;cases z) (λv z=>by rw[d]at z;cases z)),d,r⟩
  have hKb:K.In (hidT s₁.heap H):=λb o e=>base_of (KX b o e) (by
   cases q:H b with
   | none=>rfl
   | some u=>
    exfalso
    rcases hA b (by rw[q];simp) with z | z
    ·subst z;rw[hK (by rw[q];simp)]at e;cases e
    ·subst z;rw[hKP]at e;cases e)
  have hM:Mod K mg (hidT s₁.heap H):=⟨hKb,nsK hns,⟨mb,nsK hb,hbb⟩,let ⟨mc,h1,h2⟩:=hlim;⟨mc,nsK h1,h2⟩⟩
  have hBm:(hidT s₁.heap H).BuiltinsAt mg Pt:=by
   obtain⟨bm,ob,b1,b2,b3,b4,b5,b6⟩:=hbm
   refine⟨bm,ob,b1,b2,λz => ?_,λz => ?_,base_of b3 (noS b3 (λv n z=>by rw[b6]at z;cases z) (λv z=>by rw[b6]at z;cases z)),b4,b5,b6⟩
   ·obtain⟨o,es,ep,e,d,_⟩:=hns
    rw[z,e]at b3;cases b3;rw[d]at b6;cases b6
   ·rw[z,hPt]at b3;cases b3;cases b6
  have e0:Env0 P w K mg (hidT s₁.heap H) callerA [] s₁ H:=⟨rfl,hM,λb o e=>zpf e,Nat.le_of_eq (zkz _ _),trivial,λb hb=>absurd (show b∈([]:List Addr) from hb) (by simp),hok,.of_eq hg⟩
  refine codeAny_mono ((F _ hKb (nsK hns) hBm).run callerA [] s₁ H ⟨[.ref a],[]⟩ [.ref a] [.ref a] _ _ hr e0 (hbind s₁ (.ref a)) (.cons rfl .nil) (hsp H hO hS)) λr s' h => ?_
  cases r with
  | error e=>exact(hCX H e s' h).elim
  | ok fl=>
   cases fl with
   | next=>exact False.elim h
   | brk=>exact False.elim h
   | cont=>exact False.elim h
   | ret u=>
    obtain⟨v,H',os,bare,un,hok',r',q⟩:=h
    have q':v = .bl true:=q
    subst q'
    obtain rfl:u=Value.bool true:=r'
    refine⟨rfl,⟨λb o e => ?_,λb o e=>un.there b o e (by simp)⟩,os,bare⟩
    cases q:H b with
    | none=>exact .inl (un.keep b o e q (by intro z;exact absurd (show b∈([]:List Addr) from z) (by simp)) (by simp))
    | some u=>
     rcases hO.1 b with z | ⟨ob,xs,z⟩ | z
     ·rw[q]at z;cases z
     ·have z2:=un.frzs b ob _ z
      obtain⟨e1,_⟩:=hok b _ z
      obtain⟨e2,_⟩:=hok' b _ z2
      rw[e]at e1;cases e1
      exact .inl e2
     ·subst z
      rw[hPt]at e;cases e
      obtain⟨more,z2⟩:=un.tbls b _ hO.2
      have e2:=hok' b _ z2
      obtain⟨oc,vc,_,_,_,_,_,_,_,c1,c2,c3,c4,_⟩:=hCd
      exact .inr (.inl ⟨⟨cc,oc,vc,c1,c2,c3,c4⟩,rfl,_,more,rfl,e2⟩)
 cases hk:K.lookup a with
 | some o=>
  have e:=KX a o hk
  rw[ha]at e
  cases e
  refine core (λb=>if b=Pt then some (.tbl #[]) else none) ⟨λb => ?_,if_pos rfl⟩ (.inr ⟨_,vs.toArray,_,hk,rfl,rfl,rfl,by rw[List.size_toArray,lenV];exact hl,by simpa using rv⟩) (λb u z => ?_) (λb z => ?_) λz=>absurd (if_neg naP) z
  ·by_cases hb:b=Pt
   ·exact .inr (.inr hb)
   ·exact .inl (if_neg hb)
  ·by_cases hb:b=Pt
   ·have z':=(if_pos hb).symm.trans z
    cases z'
    subst hb
    exact hPt
   ·have z':=(if_neg hb).symm.trans z
    cases z'
  ·by_cases hb:b=Pt
   ·exact .inr hb
   ·exact absurd (if_neg hb) z
 | none=>
  refine core (λb=>if b=a then some (.frz { cls := .type "list",data := .seq vs.toArray } (.lst (ns.map V.int))) else if b=Pt then some (.tbl #[]) else none) ⟨λb => ?_,(if_neg naP.symm).trans (if_pos rfl)⟩ (.inl (.inr ⟨{ cls := .type "list",data := .seq vs.toArray },if_pos rfl⟩)) (λb u z => ?_) (λb z => ?_) λ_=>hk
  ·by_cases hb:b=a
   ·exact .inr (.inl ⟨_,_,if_pos hb⟩)
   ·by_cases hp:b=Pt
    ·exact .inr (.inr hp)
    ·exact .inl ((if_neg hb).trans (if_neg hp))
  ·by_cases hb:b=a
   ·have z':=(if_pos hb).symm.trans z
    cases z'
    subst hb
    exact⟨ha,by rw[List.length_map];exact hl,vs,_,rv,ha⟩
   ·by_cases hp:b=Pt
    ·have z':=((if_neg hb).trans (if_pos hp)).symm.trans z
     cases z'
     subst hp
     exact hPt
    ·have z':=((if_neg hb).trans (if_neg hp)).symm.trans z
     cases z'
  ·by_cases hb:b=a
   ·exact .inl hb
   ·by_cases hp:b=Pt
    ·exact .inr hp
    ·exact absurd ((if_neg hb).trans (if_neg hp)) z
theorem walk_ofT{l:W.OpenLaw}{n k:Nat}{q:Program}{loose:List Str}{XP:(Str->Option Value)->Heap->Prop}{YP:World->Heap->Prop}{d:DefRec}{K:Params->W.Frag}{CX:World->CXT}{sp:World->Addr->Sp}{x:Str}
  (hn:l.most=some n) (hn2:n<=sizeLine) (hdf:d.params.defaults=[]) (hr:Room k callerA)
  (hY:∀(w:World) (h:Heap),YP w h->(K w.params).In h) (Pt:Addr)
  (hT:∀(w:World) (h:Heap),YP w h->h.get? Pt=some (W.tabObj #[]))
  (F:∀(w:World) (mg:Str->Option Value) (fa:Addr) (h:Heap),(K w.params).In h->h.Ns mainGlobals mg->mg d.name=some (.ref fa) ->
   ∃(cc:Addr) (fd:FuncData),W.codeHdIn (K w.params) cc Pt=true/\(K w.params).lookup Pt=none/\(∀(s:Shared) (u:Value),BindsTo s fd ⟨[u],[]⟩ [(x,u)]) /\
    ∀base:Heap,(K w.params).In base->base.Ns mainGlobals mg->base.BuiltinsAt mg Pt->FnOk l.prog w (K w.params) mg base (CX w) k fa fd [x] (sp w Pt))
  (hsp:∀(w:World) (H:Hp) (a:Addr) (ns:List Int),ns.length<=n->OnlyT Pt H->SqL (K w.params) H a (ns.map V.int)->sp w Pt [.ref a] H (λv _=>v = .bl true) λ_ _ _=>False)
  (hCX:∀(w:World) (H:Hp) (s:Shared) (e:Value) (s':Shared),CX w [] H s (λ_ _ _=>False) e s'->False) :
  W.WalkO q loose XP YP l.row.toRowW d [] (λf vs=>PySem.call f vs):=by
 refine Att.attach_call hn hdf λw s₀ s₁ mg mb fa o pm cd doc a vs ns G Y ho hd hcd hmg hobj hints hlen hg => ?_
 have KX:=hY w _ Y
 obtain⟨cc,fd,hcc,hkp,hb,hF⟩:=F w mg fa _ KX G.T.g hmg
 exact zma KX G.T.g G.T.b G.T.builtins G.T.nolimit hg (hT w _ Y) (W.codeHd_of_K KX hcc) hkp G.T.bmain hobj hints (Nat.le_trans hlen hn2) hr hF hb (λH hO hS=>hsp w H a ns hlen hO hS) λH e s'=>hCX w H s₁ e s'
end L2
namespace L2
open PySem PySem.Spec PyProof.Rows
section
variable{prog:Program}{w:World}{A:Around}{E:Value->Shared->Prop}{s:Shared}
structure ZStS(b2:Bool)(w1:Str)(t1:Tok)(z TI TO i1 i2 l2:Addr)(f0:Value)(k:Nat)(h:Heap):Prop where
 zip:IsZip h z TI TO f0
 ti:IsPair h TI (.ref i1) (.ref i2)
 to:∃a b,IsPair h TO a b
 it1:h.IsStrIter i1 "str_ascii_iterator" w1 t1 k
 it2:IterAt b2 h i2 l2 k
end
abbrev zs1(w1:Str)(t1:Tok)(h:Heap):Heap:=h.push { cls := .type (strIterType w1),data := .fields #[.str w1 t1,.int 0 0] }
abbrev zs2(w1:Str)(t1:Tok)(b2:Bool)(h:Heap)(l2:Addr):Heap:=(zs1 w1 t1 h).push { cls := .type (kn b2),data := .fields #[.ref l2,.int 0 0] }
abbrev zs3(w1:Str)(t1:Tok)(b2:Bool)(h:Heap)(l2:Addr):Heap:=(zs2 w1 t1 b2 h l2).push { cls := .type "tuple",data := .seq #[.ref h.objs.size,.ref (zs1 w1 t1 h).objs.size] }
abbrev zs4(w1:Str)(t1:Tok)(b2:Bool)(h:Heap)(l2:Addr):Heap:=(zs3 w1 t1 b2 h l2).push { cls := .type "tuple",data := .seq #[.none,.none] }
abbrev zs5(w1:Str)(t1:Tok)(b2:Bool)(h:Heap)(l2:Addr):Heap:=(zs4 w1 t1 b2 h l2).push { cls := .type "zip",data := .fields #[.none,.bool false,.bool false,.ref (zs2 w1 t1 b2 h l2).objs.size,.ref (zs3 w1 t1 b2 h l2).objs.size] }
 set_option maxHeartbeats 2000000 in
def ItzS(K:W.Frag)(b2:Bool)(w1:Str)(a2:Addr):It:=
 ⟨λi H=>∃ys x y,SqX K b2 H a2 ys/\w1.cps[i]? = some x/\ys[i]? = some y,
  λi H v H'=>∃p x y,H p=none/\v = .ref p/\H'=upd H p (.tup [.str ⟨#[x]⟩,y])/\w1.cps[i]? = some x/\∀ys,SqX K b2 H a2 ys->ys[i]? = some y,
  λi H=>∃ys,SqX K b2 H a2 ys/\(w1.cps.size<=i\/ys.length<=i)⟩
def iZipS(K:W.Frag)(b2:Bool)(ta:TA):TI:=λσ H R=>ta σ H λvs H1=>∃w1 a2,vs=[.str w1,.ref a2]/\strIterType w1 = "str_ascii_iterator"/\(∃ys,SqX K b2 H1 a2 ys)/\R (ItzS K b2 w1 a2) H1
end L2
namespace L2
open PySem PySem.Spec PyProof.Rows
section
variable{prog:Program}{w:World}{d:Addr}{ep:Nat}{es:Array DictEntry}{o:Obj}
theorem dsrc(hs:(d == sysModules)=false)(hc:o.cls = .type "dict")(hdd:o.data = .dict es ep):W.KdlSrc prog w "dict" d d es.size (λi v=>∃e,es[i]? = some e/\v=e.key) (λh=>h.get? d=some o) where
 type:=λs hm=>⟨o,hm,hc⟩
 there:=λ_ hm=>⟨Heap.lt_size hm,Heap.lt_size hm⟩
 keep:=λ_ _ hm hk=>hk d (.inl rfl) o hm
 notList:=by decide
 notTuple:=by decide
 hint:=λ_ _ s _ hm hq=>W.kdl_hint_dict (s:=s) ⟨o,hm,hc⟩ hq
 iter:=λA s hh hm=>⟨_,λi h=>h.IsKeyIter s.heap.objs.size d i es.size ep/\h.get? d=some o,(λ_ _ hq=>zho hs ⟨o,hm,hc⟩ hm hdd hq),{
   sub:=λb hb=>by simp at hb;simp[hb]
   frame:=λ_ _ _ st hk=>⟨st.1.at λo e=>hk _ (by simp) o e,hk d (by simp) o st.2⟩
   item:=λi s' Q E hi st hQ=>by
    obtain⟨e,he⟩:∃e,es[i]? = some e:=⟨es[i],Array.getElem?_eq_getElem hi⟩
    refine zjg st.1 st.2 hdd rfl he λh' hit' hs' => ?_
    exact hQ e.key h' s'.toks ⟨e,he,rfl⟩ ⟨hit',hs'.extBut d o (Nat.ne_of_lt (Heap.lt_size hm)) st.2⟩ λb o hb e=>hs'.extBut b o (λh=>hb (by simp[h])) e
   done:=λs' Q E st hQ=>zlm hh st.1 st.2 hdd rfl (Nat.le_refl _) λh' he'=>hQ h' s'.toks λb o hb e=>he' b o (λh=>hb (by simp[h])) e
   self:=λ_ _ _ _ st hQ=>wpAny_pyIter_keyiter st.1 hQ },⟨⟨_,Heap.get?_push_size _ rfl,rfl,rfl⟩,Heap.get?_push_of_some _ hm⟩⟩
end
section
variable{X:Cx}
theorem zka(hc:X.calm=true):CallR X (.type "list") (λxs H Q=>∃d kvs,xs=[.ref d]/\Rd H d (.dT kvs)/\∀(l:Addr) (as:List Addr),H l=none->as.length=kvs.length->(∀(i:Nat) k x,kvs[i]? = some (k,x)->∃a,as[i]? = some a/\H a=some (.tup (k.map kV))) ->
  Q (.ref l) (upd H l (.lst (as.map V.ref)))):=by
 intro pins s σ H xs us Q I r h
 obtain⟨d,kvs,rfl,hd,q⟩:=h
 obtain⟨u,rfl,rx⟩:=vals1 r
 cases rx
 obtain⟨zl,hds,ys,rel,ob,es,ep,g1,g2,g3,g4,g5,g6⟩:=zeq I.hok hd
 have le:es.size=kvs.length:=(size_of_entries g4).trans (Paired.length rel).symm
 refine W.kdl_call (dsrc hds g2.1 g3) (I.ok.hd hc) g1 (by omega) λh' tk acc c kp hS hI => ?_
 have row:∀(i:Nat) k x,kvs[i]? = some (k,x)->∃a,acc[i]? = some (.ref a)/\H a=some (.tup (k.map kV)):=λi k x hk=>by
  obtain⟨y,hy,e1,e2,e3⟩:=Paired.at' rel hk
  have hi:i < acc.size:=by
   rcases Nat.lt_or_ge i kvs.length with z | z
   ·rw[hI.1];omega
   ·rw[List.getElem?_eq_none z]at hk;cases hk
  obtain⟨e,he,hv⟩:=hI.2 i acc[i] (Array.getElem?_eq_getElem hi)
  have:es[i]? = some (entryOfKey (tupleKind (mixKind X.prog X.w)) y):=by
   have z:es.toList[i]? = some (entryOfKey (tupleKind (mixKind X.prog X.w)) y):=by rw[g4,List.getElem?_map,hy];rfl
   simpa using z
  rw[this]at he;injection he with he;subst he
  exact⟨y.2.1,by rw[Array.getElem?_eq_getElem hi,hv];rfl,e2⟩
 obtain⟨as,hl,has⟩:∃as:List Addr,as.length=kvs.length/\acc.toList=as.map Value.ref:=by
  have key:∀n,n<=kvs.length->∃as:List Addr,as.length=n/\acc.toList.take n=as.map Value.ref:=by
   intro n
   induction n with
   | zero=>intro _;exact⟨[],rfl,rfl⟩
   | succ n ih=>
    intro hn
    obtain⟨as,h1,h2⟩:=ih (by omega)
    obtain⟨⟨k,x⟩,hk⟩:∃p,kvs[n]? = some p:=⟨kvs[n],List.getElem?_eq_getElem (by omega)⟩
    obtain⟨a,ha,_⟩:=row n k x hk
    refine⟨as ++ [a],by rw[List.length_append,h1];rfl,?_⟩
    have ha':acc.toList[n]? = some (Value.ref a):=by simpa using ha
    rw[List.take_add_one,ha',h2,List.map_append];rfl
  obtain⟨as,h1,h2⟩:=key kvs.length (Nat.le_refl _)
  refine⟨as,h1,?_⟩
  rwa [List.take_of_length_le (by rw[Array.length_toList,hI.1];omega)]at h2
 have hD:h'.get? s.heap.objs.size=some { cls := .type "list",data := .seq (as.map Value.ref).toArray c }:=by rw[<- has];simpa using hS
 have vv:Vals (as.map V.ref) (as.map Value.ref):=by
  clear has hl row hD
  induction as with
  | nil=>exact .nil
  | cons a as ih=>exact .cons rfl ih
 refine⟨.ref s.heap.objs.size,_,I.laid (t':=tk) kp (Nat.le_refl _) ?_,rfl,q s.heap.objs.size as (I.hok.fresh (Nat.le_refl _)) hl λi k x hk => ?_⟩
 ·exact⟨by rw[List.length_map,hl];exact zl,_,c,vv,hD⟩
 ·obtain⟨a,ha,e⟩:=row i k x hk
  refine⟨a,?_,e⟩
  have ha':acc.toList[i]? = some (Value.ref a):=by simpa using ha
  rw[has,List.getElem?_map]at ha'
  cases q2:as[i]? with
  | none=>rw[q2]at ha';cases ha'
  | some b=>rw[q2]at ha';injection ha' with ha';injection ha' with ha';rw[ha']
def rJoin(K:W.Frag):V->List V->Hp->VK->Prop:=λx vs H Q=>∃sep l ws,x = .str sep/\vs=[.ref l]/\SqL K H l (ws.map V.str)/\JoinOk sep ws=true/\Q (.str (Txt.join sep ws)) H
end
end L2
namespace L2
open PySem PySem.Spec PyProof.Rows
def codeOfF(K:W.Frag)(f:Addr):Option Addr:=match K.lookup f with
 | some ⟨_,_,.func fd,_⟩=>(match fd.code with | .ref c=>some c | _=>none)
 | _=>none
section
variable{P:Program}{w:World}{K:W.Frag}{mg:Str->Option Value}{base:Heap}{x qual:Str}{st:Stmt}{dV:Value}{f:Addr}{fd:FuncData}{N ps:List Str}{k:Nat}{sp:Sp}
theorem FunD.okL{cc:Addr}(F:FunD K x qual st dV f fd)(hcc:codeOfF K f=some cc)(S:FnScope N ps (defScope st))(len:∀vs H Q E,sp vs H Q E->vs.length=ps.length)
  (hbody:∀(A:Around) (outer:List Env) (s:Shared) (H:Hp) (vs:List V) (Q:VK) (E:XK),Room k (A.deeper (envOfC qual (defScope st) s.heap.objs.size f (.ref cc)))->sp vs H Q E ->
   ∃t,PSs (cxOf CX0 P w K mg base N qual (defScope st) f (.ref cc) A outer s H E).nox (defBody st) t/\t { nx:=λ_ H'=>Q .non H',rt:=Q } (start N vs) H):FnOk P w K mg base CX0 (k + 1) f fd ps sp:=by
 obtain⟨oc,od,kV,doc,pm,an,cdv,ct,osl,rfl,lk,hcd⟩:=F.ex
 have e:cdv = .ref cc:=by
  unfold codeOfF at hcc
  rw[lk]at hcc
  cases cdv with
  | ref c=>injection hcc with z;rw[z]
  | _=>cases hcc
 subst e
 refine zpq lk hcd S len λA outer s H vs Q E hr hsp => ?_
 obtain⟨t,h,q⟩:=hbody A outer s H vs Q E hr hsp
 exact⟨t,h.nox,q⟩
end
end L2
namespace L2
open PySem PySem.Spec PyProof.Rows
def mxD(d:Int):List Int->Int
 | []=>d
 | x :: xs=>xs.foldl max x
section
variable{prog:Program}{w:World}{A:Around}{E:Value->Shared->Prop}{l It S:Addr}
end
def tMaxD(te td:TE):TE:=λσ H Q=>te σ H λv H1=>td σ H1 λdv H2=>∃(l:Addr) (xs:List Int) (d:Int),v = .ref l/\dv = .int d/\H2 l=some (.lst (xs.map V.int))/\Q (.int (mxD d xs)) H2
section
variable{X:Cx}{j:Nat}{p pos kpos:Pos}{e o:Expr}{te td:TE}
end
end L2
set_option Elab.async false
set_option linter.all false
set_option maxRecDepth 100000
namespace L2
open PySem PySem.Spec PyProof.Rows
section
variable{prog:Program}{w:World}{A:Around}{E:Value->Shared->Prop}{s:Shared}{r l:Addr}
end
section
variable{X:Cx}
def tListRev(te:TE):TE:=λσ H Q=>te σ H λv H1=>∃(l:Addr) (ys:List V),v = .ref l/\H1 l=some (.lst ys)/\∀D,H1 D=none->Q (.ref D) (upd H1 D (.lst ys.reverse))
end
end L2
namespace L2
open PySem PySem.Spec PyProof.Rows
def mnV:List Int->V
 | [] => .non
 | x :: xs => .int (xs.foldl min x)
section
variable{prog:Program}{w:World}{A:Around}{E:Value->Shared->Prop}{l It S:Addr}
end
def tMinD(te td:TE):TE:=λσ H Q=>te σ H λv H1=>td σ H1 λdv H2=>∃(l:Addr) (xs:List Int),v = .ref l/\dv = .non/\H2 l=some (.lst (xs.map V.int))/\Q (mnV xs) H2
section
variable{X:Cx}{j:Nat}{p pos kpos:Pos}{e o:Expr}{te td:TE}
end
end L2
set_option Elab.async false
set_option linter.all false
set_option maxRecDepth 100000
namespace L2
open PySem PySem.Spec PySem.W PySem.Calls PyProof.Rows Builtin Builtin.ObjectAttr Builtin.Getset_descriptor
structure ExcI(K:Frag)(C:Addr):Prop where
 ga:findIn K (.ref C) "__getattribute__" = some (some (.builtin "BaseException.__getattribute__"))
 gn:findIn K (.ref C) "__getattr__" = some none
 cl:findIn K (.ref C) "__class__" = some (some (.builtin "object.__class__"))
 sp:specialIn K (.builtin "object.__class__") "__get__" = some (some (.builtin "getset_descriptor.__get__"))
 tk:takesIn K (.builtin "object.__class__")=some true
 mo:mroIn K C (.type "object")=some true
 mb:mroIn K C (.type "BaseException")=some true
 hd:hasDictIn K C=true
section
variable{prog:Program}{w:World}{A:Around}{E:Value->Shared->Prop}{s:Shared}{K:Frag}{x C:Addr}
def IsExc(a C:Addr)(h:Heap):Prop:=∃o,h.get? a=some o/\o.cls = .ref C
end
def excO(a C:Addr):HO := .ext (IsExc a C)
def rIsExc(K:Frag):List V->Hp->VK->Prop:=λxs H Q=>∃(a C:Addr) (y:V) (c:Value) (b:Bool),xs=[.ref a,y]/\clV y=some c/\H a=some (excO a C)/\ExcI K C/\kitOne K (.ref C) c=some b/\Q (.bl b) H
end L2
namespace L2
open PySem PySem.Spec PyProof.Rows
def Ends.away(i:Nat)(D:Ends):Ends:={ D with nx:=λσ H=>D.nx (σ.set i none) H,bk:=λσ H=>D.bk (σ.set i none) H,ct:=λσ H=>D.ct (σ.set i none) H }
section
variable{X:Cx}{pins:List (Addr×Obj)}{σ : St}{H:Hp}{s:Shared}{i:Nat}{n:Str}{pos:Pos}
end
def tTryAs(K:W.Frag)(c:Value)(i:Nat)(tb:(St->XK)->TS)(th:TS):TS:=λD σ H=>tb (λσ' cls _ H'=>∃C,cls = .ref C/\W.exmOne K cls c=some true/\∀a,H' a=none->th (D.away i) (σ'.set i (some (.ref a))) (upd H' a (excO a C))) D σ H
end L2
namespace L2
open PySem PySem.Spec PyProof.Rows TS
section
variable{X:Cx}{j i:Nat}{p pos kpos rpos cpos lp:Pos}{e body:Expr}{te tb:TE}{P cc:Addr}{params:Arguments}{scope:Scope}{x y g:Str}{kg:NameKind}
end
end L2
namespace L2
open PySem PySem.Spec PyProof.Rows MeetsSeq3
open AutoSeq1 (wpAny_loadPart')
section
variable{prog:Program}{w:World}
set_option maxHeartbeats 4000000 in
theorem zi1(l b:Addr)(xs ys:Array Value)(n n2:Nat)(neg:Bool)(hsz:xs.size=ys.size)(e:Nat->Bool)(k:Nat) :
  ∀(i:Nat),xs.size - i=k->MeetsIn prog w (Builtin.«list.__eq__.loop» ⟨[.ref l,.ref b,rawInt i,rawInt (if neg then 3 else 2)],[]⟩)
   (λA R s=>s.heap.get? l=some { cls := .type "list",data := .seq xs n }/\s.heap.get? b=some { cls := .type "list",data := .seq ys n2 } /\
    (∀j (h1:j < xs.size) (h2:j < ys.size) (E:Value->Shared->Prop) (Q:Bool->Shared->Prop),Q (e j) s->wpAny (model prog w) A.in1 (eqBool xs[j] ys[j]) Q E s) /\
    R (.ok (.ret (.bool (xor neg (((List.range xs.size).drop i).all e))))) s):=by
 induction k with
 | zero=>
  rintro i hk A R ⟨hp,g,d,tk,os⟩ ⟨hl,hb,he,h⟩
  cases neg <;>
  ·wp_walk using wpAny_loadPart' hl,wpAny_loadPart' hb
   have i1:xs[((i:Nat):Int).toNat]? = none:=by simp;omega
   have i2:ys[((i:Nat):Int).toNat]? = none:=by simp;omega
   have hd:(List.range xs.size).drop i=[]:=by simp;omega
   rw[hd]at h;rw[i1,i2]
   wp_walk using wpAny_loadPart' hl,wpAny_loadPart' hb
   first
    | (show R (.ok (.ret (.bool (xs.size == ys.size)))) _;rw[hsz];simpa using h)
    | (show R (.ok (.ret (.bool (xs.size != ys.size)))) _;rw[hsz];simpa using h)
 | succ k ih=>
  rintro i hk A R ⟨hp,g,d,tk,os⟩ ⟨hl,hb,he,h⟩
  have l1:i < xs.size:=by omega
  have l2:i < ys.size:=by omega
  have i1:xs[((i:Nat):Int).toNat]? = some xs[i]:=by simp[l1]
  have i2:ys[((i:Nat):Int).toNat]? = some ys[i]:=by simp[l2]
  have hd:(List.range xs.size).drop i=i :: (List.range xs.size).drop (i + 1):=by simp[List.drop_eq_getElem_cons,l1]
  have hc:((i:Int) + 1)=((i + 1:Nat):Int):=by push_cast;rfl
  have ih:=ih (i + 1) (by omega)
  rw[hd,List.all_cons]at h
  cases neg <;>
  ·wp_walk using wpAny_loadPart' hl,wpAny_loadPart' hb
   rw[i1,i2]
   refine wpAny_bind (he i l1 l2 _ _ ?_)
   cases hb':e i with
   | true=>
    rw[hb']at h
    wp_walk
    rw[hc]
    exact⟨plainId_quiet plain_eq_loop _,codeAny_builtin entry_eq_loop (by
     rw[Around.under_plainId plain_eq_loop _];exact ih A R _ ⟨hl,hb,he,by simpa using h⟩)⟩
   | false=>
    rw[hb']at h
    wp_walk using wpAny_loadPart' hl,wpAny_loadPart' hb
    rw[i1,i2]
    wp_walk
    simpa using h
set_option maxHeartbeats 4000000 in
theorem znw(l b:Addr)(xs ys:Array Value)(n n2:Nat)(neg:Bool)(e:Nat->Bool) :
  MeetsIn prog w ((if neg then Builtin.«list.__ne__» else Builtin.«list.__eq__») ⟨[.ref l,.ref b],[]⟩)
   (λA R s=>s.heap.get? l=some { cls := .type "list",data := .seq xs n }/\s.heap.get? b=some { cls := .type "list",data := .seq ys n2 } /\
    (∀j (h1:j < xs.size) (h2:j < ys.size) (E:Value->Shared->Prop) (Q:Bool->Shared->Prop),Q (e j) s->wpAny (model prog w) A.in1 (eqBool xs[j] ys[j]) Q E s) /\
    R (.ok (.ret (.bool (xor neg (decide (xs.size=ys.size) && (List.range xs.size).all e))))) s):=by
 rintro A R ⟨hp,g,d,tk,os⟩ ⟨hl,hb,he,h⟩
 have f3:=AutoSeq1.sub_list_list
 by_cases hz:xs.size=ys.size
 ·have hne:¬(xs.size != ys.size)=true:=by simp[hz]
  rw[decide_eq_true hz,Bool.true_and]at h
  cases neg
  ·simp only[Bool.false_eq_true,if_false]
   wp_walk using wpAny_loadPart' hl,wpAny_loadPart' hb
   exact⟨plainId_quiet plain_eq_loop _,codeAny_builtin entry_eq_loop (by
    rw[Around.under_plainId plain_eq_loop _];exact zi1 l b xs ys n n2 false hz e _ 0 rfl A R _ ⟨hl,hb,he,by simpa using h⟩)⟩
  ·simp only[if_true]
   wp_walk using wpAny_loadPart' hl,wpAny_loadPart' hb
   exact⟨plainId_quiet plain_eq_loop _,codeAny_builtin entry_eq_loop (by
    rw[Around.under_plainId plain_eq_loop _];exact zi1 l b xs ys n n2 true hz e _ 0 rfl A R _ ⟨hl,hb,he,by simpa using h⟩)⟩
 ·have hne:(xs.size != ys.size)=true:=by simp[hz]
  rw[decide_eq_false hz,Bool.false_and]at h
  cases neg
  ·simp only[Bool.false_eq_true,if_false]
   wp_walk using wpAny_loadPart' hl,wpAny_loadPart' hb
   have q:(CmpOp.Eq == CmpOp.NotEq)=false:=by decide
   rw[q];simpa using h
  ·simp only[if_true]
   wp_walk using wpAny_loadPart' hl,wpAny_loadPart' hb
   simpa using h
end
section
variable{X:Cx}{pins:List (Addr×Obj)}{σ : St}{H:Hp}{s:Shared}
def DEq(K:W.Frag)(H:Hp)(a b:Addr)(c:Bool):Prop:=∃(ka kb:List (List Key×V)) (da db:List (List Key×PyData)),Rd H a (.dT ka)/\Rd H b (.dT kb)/\KDs K H ka da/\KDs K H kb db/\Flats da/\Flats db/\eqKD da db=c/\(a=b->c=true)
theorem zko{a b:Addr}{c:Bool}{A:Around}{E:Value->Shared->Prop}{Q:Bool->Shared->Prop}(hu:A.units + 64 < cLine)(I:Inv X pins σ H s)(h:DEq X.K H a b c)(q:Q c s):wpAny (model X.prog X.w) A (eqBool (.ref a) (.ref b)) Q E s:=by
 obtain⟨ka,kb,da,db,ha,hb,qa,qb,fa,fb,e,e0⟩:=h
 obtain⟨_,sa,xs,ta,ea⟩:=zeq I.hok ha
 obtain⟨_,sb,ys,tb,eb⟩:=zeq I.hok hb
 have lx:xs.length=da.length:=(Paired.length ta).symm.trans (Paired.length qa)
 have ly:ys.length=db.length:=(Paired.length tb).symm.trans (Paired.length qb)
 unfold eqBool
 try with_reducible refine wpAny_holding ?_
 show wpAny _ _ (if (Value.ref a == Value.ref b)=true then _ else _) Q E s
 by_cases hab:(Value.ref a == Value.ref b)=true
 ·rw[if_pos hab]
  have:=e0 (Value.ref.inj (beq_iff_eq.mp hab))
  subst this
  exact wpAny_bind (wpAny_rule (wpAny_pure q))
 ·rw[if_neg hab]
  refine wpAny_bind (zi4 (knd:=tupleKind (mixKind X.prog X.w)) (tupleKind_room_in1 (by omega)) (by omega) sa sb ea eb (λ_=>zgo (by show A.units + 1 + 61 < cLine;omega) I tb qb fb ta qa fa) ?_)
  refine wpAny_truthy_bool ?_
  rw[lx,ly]
  show Q (eqKD da db) s
  rw[e];exact q
def rEqLD(K:W.Frag)(neg:Bool):R2:=λx y H Q=>∃(l b:Addr) (as bs:List Addr) (e:Nat->Bool),x = .ref l/\y = .ref b/\H l=some (.lst (as.map V.ref))/\H b=some (.lst (bs.map V.ref)) /\
 (∀(i:Nat) (p q:Addr),as[i]? = some p->bs[i]? = some q->DEq K H p q (e i))/\Q (.bl (xor neg (decide (as.length=bs.length) && (List.range as.length).all e))) H
theorem ze3:∀{as:List Addr} {us:List Value},Vals (as.map V.ref) us->us=as.map Value.ref
 | [],_,.nil=>rfl
 | a :: as,_,.cons r t=>by cases (show _=Value.ref a from r);rw[ze3 t];rfl
theorem znj{l b:Addr}{as bs:List Addr}{e:Nat->Bool}{neg:Bool}{Q:VK}(hu:X.A.units + 70 < cLine)(I:Inv X pins σ H s)(hl:H l=some (.lst (as.map V.ref)))(hb:H b=some (.lst (bs.map V.ref)))
  (he:∀(i:Nat) (p q:Addr),as[i]? = some p->bs[i]? = some q->DEq X.K H p q (e i)) (q:Q (.bl (xor neg (decide (as.length=bs.length) && (List.range as.length).all e))) H) :
  wpAny (model X.prog X.w) X.A (compareOp (if neg then .NotEq else .Eq) (.ref l) (.ref b)) (EP X pins σ Q) X.xe s:=by
 obtain⟨vs,n,hV,h1,hz⟩:=I.lst hl
 obtain⟨vs2,n2,hV2,h2,hz2⟩:=I.lst hb
 have e1:=ze3 hV
 have e2:=ze3 hV2
 subst e1 e2
 have T1:s.TypeIs (.ref l) "list":=⟨_,h1,rfl⟩
 have T2:s.TypeIs (.ref b) "list":=⟨_,h2,rfl⟩
 have body:=znw (prog:=X.prog) (w:=X.w) l b (as.map Value.ref).toArray (bs.map Value.ref).toArray n n2 neg e
 have sz:∀(z:List Addr),(z.map Value.ref).toArray.size=z.length:=λz=>by simp
 have inn:∀(R:Result->Shared->Prop),R (.ok (.ret (.bool (xor neg (decide (as.length=bs.length) && (List.range as.length).all e))))) s->(fun(A:Around) (R:Result->Shared->Prop) (s:Shared)=>s.heap.get? l=some { cls := .type "list",data := .seq (as.map Value.ref).toArray n }/\s.heap.get? b=some { cls := .type "list",data := .seq (bs.map Value.ref).toArray n2 } /\
    (∀j (h1:j < (as.map Value.ref).toArray.size) (h2:j < (bs.map Value.ref).toArray.size) (E:Value->Shared->Prop) (Q:Bool->Shared->Prop),Q (e j) s->wpAny (model X.prog X.w) A.in1 (eqBool (as.map Value.ref).toArray[j] (bs.map Value.ref).toArray[j]) Q E s) /\
    R (.ok (.ret (.bool (xor neg (decide ((as.map Value.ref).toArray.size=(bs.map Value.ref).toArray.size) && (List.range (as.map Value.ref).toArray.size).all e))))) s) X.A R s:=λR hR=>by
  refine⟨h1,h2,λj j1 j2 E' Q' hq => ?_,by rw[sz,sz];exact hR⟩
  rw[sz]at j1 j2
  have a1:(as.map Value.ref).toArray[j]'(by rw[sz];exact j1) = .ref as[j]:=by simp
  have a2:(bs.map Value.ref).toArray[j]'(by rw[sz];exact j2) = .ref bs[j]:=by simp
  rw[a1,a2]
  exact zko (by show X.A.units + 1 + 64 < cLine;omega) I (he j _ _ (List.getElem?_eq_getElem j1) (List.getElem?_eq_getElem j2)) hq
 cases neg
 ·refine wpAny_richCompare_same_room (op := .Eq) T1 T2 PySem.F.slot_list_eq (call_meetsIn PySem.F.slot_list_eq T1 PySem.F.entry_list_eq (PySem.F.args_list_eq_2 _ _) body (inn _ ?_)) (by omega)
  exact⟨(λz=>nomatch z),.bl _,H,I,rfl,q⟩
 ·refine wpAny_richCompare_same_room (op := .NotEq) T1 T2 PySem.F.slot_list_ne (call_meetsIn PySem.F.slot_list_ne T1 PySem.F.entry_list_ne (PySem.F.args_list_ne_2 _ _) body (inn _ ?_)) (by omega)
  exact⟨(λz=>nomatch z),.bl _,H,I,rfl,q⟩
theorem zo3{K:W.Frag}(hK:X.K=K)(hu:X.A.units + 70 < cLine):OpR X (compareOp .NotEq) (rEqLD K true):=by
 subst hK
 intro pins s σ H x y u v Q I rx ry h
 obtain⟨l,b,as,bs,e,rfl,rfl,hl,hb,he,q⟩:=h
 cases rx;cases ry
 exact znj (neg:=true) hu I hl hb he q
end
end L2
set_option Elab.async false
set_option linter.all false
set_option maxRecDepth 100000
namespace L2
open PySem PySem.Spec PyProof.Rows
def Ite(K:W.Frag)(a:Addr):It:=
 ⟨λi H=>∃xs x,SqL K H a xs/\xs[i]? = some x,λi H v H'=>∃p x,H p=none/\v = .ref p/\H'=upd H p (.tup [.int i,x])/\∀xs,SqL K H a xs->xs[i]? = some x,λi H=>∃xs,SqL K H a xs/\xs.length<=i⟩
def ESt(e it l:Addr)(i:Nat)(h:Heap):Prop:=(∃old,IsEnum h e it i old)/\h.IsListIter it l i
theorem zlu{P:Program}{w:World}{K:W.Frag}{es:List Expr}{ek:Nat}{pos:Pos}{e it a:Addr}(hei:e≠it):Turn P w K (.Tuple es ek pos) (Ite K a) [e,it] e (λi h=>ESt e it a i h) where
 mem:=by simp
 obj:=λi h ⟨⟨_,st⟩,si⟩ b hb=>by
  simp only[List.mem_cons,List.not_mem_nil,or_false]at hb
  rcases hb with rfl | rfl
  ·exact⟨_,st,λv q=>by cases q⟩
  ·obtain⟨o,eo,_,hd⟩:=si
   exact⟨o,eo,λv q=>by rw[hd]at q;cases q⟩
 keep:=λi h h' ⟨⟨old,st⟩,si⟩ k=>⟨⟨old,k e (by simp) _ st⟩,si.at λo q=>k it (by simp) o q⟩
 item:=by
  intro X hP hw hK hc i pins s σ H E I hf st hg
  subst hP hw hK
  obtain⟨⟨old,he⟩,hit⟩:=st
  obtain⟨xs,x,h1,hx⟩:=hg
  obtain⟨us,ru,p,_⟩:=I.list h1
  obtain⟨u,eu,rx⟩:=ru.get hx
  have elt:e < s.heap.objs.size:=Heap.lt_size he
  have ilt:it < s.heap.objs.size:=by obtain⟨_,z,_⟩:=hit;exact Heap.lt_size z
  refine wpAny_pyNext_enum_item he hit p.isList (x:=u) (by simpa using eu) hei λh' ho hit' hT hsz k => ?_
  refine⟨_,rfl,wpAny_letOwnedTupleGo_enum ho λh'' he'' hs => ?_⟩
  have pe:s.heap.objs.size≠e:=Nat.ne_of_gt elt
  have kk:∀b o,b ∉ [e,it]->s.heap.get? b=some o->h''.get? b=some o:=λb o hb q=>by
   simp only[List.mem_cons,List.not_mem_nil,or_false,not_or]at hb
   exact(hs.2 b hb.1).trans (k b o hb.1 hb.2 q)
  refine⟨.ref s.heap.objs.size,upd H s.heap.objs.size (.tup [.int i,x]),I.drawn (t':=s.toks + 1) (ch:=[e,it]) (λb hb=>hf b hb) kk (Nat.le_refl _) ?_,rfl,⟨_,x,I.fresh,rfl,rfl,λxs' hq => ?_⟩,?_,λb hb => ?_⟩
  ·exact⟨by show 2<=sizeLine;rw[sizeLine_eq];decide,[.int i s.toks,u],.cons ⟨_,rfl⟩ (.cons rx .nil),⟨_,(hs.2 _ pe).trans hT,rfl,_,rfl⟩⟩
  ·rw[I.list_inj hq h1];exact hx
  ·exact⟨⟨u,by simpa using he''⟩,hit'.at λo q=>(hs.2 it hei.symm).trans q⟩
  ·have:b < s.heap.objs.size:=by
    simp only[List.mem_cons,List.not_mem_nil,or_false]at hb
    rcases hb with rfl | rfl
    ·exact elt
    ·exact ilt
   rw[zal (Nat.ne_of_lt this)]
   exact(hf b hb).1
 done:=by
  intro X hP hw hK hc i pins s σ H E I hf st hg
  subst hP hw hK
  obtain⟨⟨old,he⟩,hit⟩:=st
  obtain⟨xs,h1,hl⟩:=hg
  obtain⟨us,ru,p,_⟩:=I.list h1
  have l1:=ru.length
  refine wpAny_pyNext_enum_end (I.ok.hd hc) he hit p.isList (by rw[List.getElem?_toArray,List.getElem?_eq_none];omega) λh' k=>⟨rfl,I.turnedL (t':=s.toks) (ch:=[e,it]) (λb hb=>hf b hb) λb o hb q => ?_⟩
  simp only[List.mem_cons,List.not_mem_nil,or_false,not_or]at hb
  exact k b o hb.2 q
 self:=λ_ _ _ _ _ ⟨⟨_,st⟩,_⟩ h=>wpAny_pyIter_enum st h
def iEnum(K:W.Frag)(ta:TA):TI:=λσ H R=>ta σ H λvs H1=>∃a,vs=[.ref a]/\(∃xs,SqL K H1 a xs)/\R (Ite K a) H1
theorem zfr:bootBuiltins "enumerate" = some (.type "enumerate"):=by kernel_rfl
theorem zk0{X:Cx}{K:W.Frag}{es:List Expr}{ek:Nat}{tpos p pos:Pos}{e1:Expr}{ta:TA}(hK:X.K=K)(hg:Gl X "enumerate")(hm:X.mg "enumerate" = none)(ha:PA X [e1] ta)
  (he:starEach [e1] X.env=(false,eval e1 X.env) :: starEach [] X.env:=by rfl) (hpl:(backTo pos (starEach [] X.env)).any (·.1)=false:=by rfl) :
  PI X (.Tuple es ek tpos) (.Call (.Name "enumerate" p) [e1] [] pos) (iEnum K ta):=by
 subst hK
 intro pins s σ H R I h
 refine wpAny_Call_Name_kw (zdv I hg hm zfr ?_ (by decide) (by decide))
 refine PyProof.Rows.callWith_type1 (thn (ha pos pins s σ H _ I h) λus s1 ⟨vs,H1,I1,r1,a,ev,⟨xs,h1⟩,q⟩ => ?_) he hpl
 subst ev
 obtain⟨u1,rfl,e1'⟩:=r1.one
 cases e1'
 obtain⟨us,ru,p1,_⟩:=I1.list h1
 refine call_enumerate_list p1.isList λh' en it sz k=>wpAny_pyIter_enum en ?_
 have I2:Inv X pins σ H1 { s1 with heap:=h' }:=I1.kept (t':=s1.toks) k
 refine⟨s1.heap.objs.size + 1,[s1.heap.objs.size + 1,s1.heap.objs.size],_,_,H1,rfl,I2,zlu (Nat.succ_ne_self _),⟨⟨_,en⟩,it⟩,λb hb => ?_,q⟩
 have hb':s1.heap.objs.size<=b:=by
  simp only[List.mem_cons,List.not_mem_nil,or_false]at hb
  rcases hb with rfl | rfl
  ·exact Nat.le_add_right _ 1
  ·exact Nat.le_refl _
 have F:=I1.fpOk hb' (I1.hok.fresh hb')
 exact F
theorem zjh{K:W.Frag}{a:Addr}{xs:List V}{g:TG}{tb:TS}{D:Ends}{σ : St}{H:Hp}(Pv:Nat->St->Hp->Prop)(h0:Pv 0 σ H)(hl:∀i σ H,Pv i σ H->SqL K H a xs)
  (hs:∀i x σ H p,xs[i]? = some x->Pv i σ H->H p=none->g (.ref p) σ (upd H p (.tup [.int i,x])) λσ2 H2=>tb { D with nx:=Pv (i + 1),ct:=Pv (i + 1),bk:=D.nx } σ2 H2) (hd:∀σ H,Pv xs.length σ H->D.nx σ H) :
  ∃W:Nat->Nat->St->Hp->Prop,(∃m,W 0 m σ H)/\∀i m σ H,W i m σ H ->
   ((Ite K a).stop i H/\D.nx σ H)\/((Ite K a).go i H/\∃N:St->Hp->Prop,(∀σ' H',N σ' H'->∃m',m' < m/\W (i + 1) m' σ' H')/\∀x H',(Ite K a).yld i H x H'->g x σ H' λσ2 H2=>tb { D with nx:=N,ct:=N,bk:=D.nx } σ2 H2):=by
 refine⟨λi m σ H=>m=xs.length - i/\i<=xs.length/\Pv i σ H,⟨xs.length,by simp,Nat.zero_le _,h0⟩,?_⟩
 rintro i m σ H ⟨rfl,hi,p⟩
 have q1:=hl i σ H p
 by_cases hlt:i < xs.length
 ·refine .inr ⟨⟨xs,xs[i],q1,by simp[hlt]⟩,Pv (i + 1),λσ' H' p'=>⟨xs.length - (i + 1),by omega,rfl,hlt,p'⟩,λx H' y => ?_⟩
  obtain⟨r,u,hp,rfl,rfl,y1⟩:=y
  exact hs i u σ H r (y1 xs q1) p hp
 ·have z:i=xs.length:=by omega
  exact .inl ⟨⟨xs,q1,by omega⟩,hd σ H (z ▸ p)⟩
def rInsert:V->List V->Hp->VK->Prop:=λx vs H Q=>∃(l:Addr) (xs:List V) (i:Nat) (y:V),x = .ref l/\vs=[.int i,y]/\H l=some (.lst xs)/\i<=xs.length/\xs.length < sizeLine/\Q .non (upd H l (.lst (xs.take i ++ y :: xs.drop i)))
def insF(i:Int)(u:Value)(xs:Array Value):Array Value:=(xs.extract 0 (if i < 0 then(i + ((xs.size:Nat):Int)).toNat else min i.toNat xs.size)).push u ++ xs.extract (if i < 0 then(i + ((xs.size:Nat):Int)).toNat else min i.toNat xs.size)
end L2
namespace L2
open PySem PySem.Spec PyProof.Rows
def CMulC(i j:Int):Prop:=i.natAbs < 2 ^ 20000/\j.natAbs < 2 ^ 20000
end L2
set_option Elab.async false
set_option linter.all false
set_option maxRecDepth 100000
namespace TS
open PySem PyProof.Rows
open L2 (V Vals RelV)
open HT (lexLt)
open PySem.W (KatLex kat_nil kat_cons kat_yes kat_no kat_one kat_lt)
theorem zim:∀{xs ys:List Int} (zs ws:List Int),xs.length=ys.length->lexLt (xs ++ zs) (ys ++ ws)=if xs=ys then lexLt zs ws else lexLt xs ys
 | [],[],zs,ws,_=>by rw[if_pos rfl];rfl
 | [],_ :: _,_,_,h=>by simp at h
 | _ :: _,[],_,_,h=>by simp at h
 | a :: xs,b :: ys,zs,ws,h=>by
  have ih:=zim (xs:=xs) (ys:=ys) zs ws (by simpa using h)
  rw[List.cons_append,List.cons_append,HT.lexLt_cons,HT.lexLt_cons,ih]
  by_cases e:a=b
  ·subst e
   rw[if_pos rfl,if_pos rfl]
   by_cases e2:xs=ys
   ·rw[if_pos e2,if_pos (by rw[e2])]
   ·rw[if_neg e2,if_neg (λz=>e2 (by injection z))]
  ·rw[if_neg e,if_neg (λz=>e (by injection z)),if_neg e]
section
variable{prog:Program}{w:World}{A:Around}{s:Shared}
def NestAt(h:Heap)(v:Value)(ns:List Int):Prop:=∃a its r xs i j ti tj,v = .ref a/\IsTup h a its/\its.toList=[r,.int i ti,.int j tj]/\TupAt h r xs/\ns=xs ++ [i,j]
theorem NestAt.uniq{h:Heap}{v:Value}{ns ms:List Int}(h1:NestAt h v ns)(h2:NestAt h v ms):ns=ms:=by
 obtain⟨a,its,r,xs,i,j,ti,tj,rfl,⟨o,e,_,n,d⟩,l1,t1,rfl⟩:=h1
 obtain⟨a',its',r',xs',i',j',ti',tj',ea,⟨o',e',_,n',d'⟩,l2,t2,rfl⟩:=h2
 cases ea
 rw[e]at e';cases e'
 rw[d]at d';cases d'
 rw[l1]at l2
 cases l2
 rw[t1.uniq t2]
open Classical in
noncomputable def nestKey(h:Heap)(x:Keyed):List Int:=if e:∃ns,NestAt h x.1 ns then e.choose else []
theorem zcu{h:Heap}{x:Keyed}{ns:List Int}(t:NestAt h x.1 ns):nestKey h x=ns:=by
 unfold nestKey
 have e:∃ns,NestAt h x.1 ns:=⟨ns,t⟩
 rw[dif_pos e]
 exact e.choose_spec.uniq t
theorem zej{h:Heap}:∀{vs:List Value} {ns:List Int},IntsAre vs ns->∃as,ReadsAll h vs (ns.map PyData.int) as
 | _,_,.nil=>⟨_,.nil⟩
 | _,_,.cons n t q=>let ⟨_,z⟩:=zej q;⟨_,.cons (.int n t) z⟩
theorem zlv{v u:Value}{xs ys:List Int}(hu:A.units + 4 < cLine)(h1:TupAt s.heap v xs)(h2:TupAt s.heap u ys):SeqAt.EqAt A s v u (decide (xs=ys)):=by
 obtain⟨a,its,rfl,⟨o,e,c,n,d⟩,i1⟩:=h1
 obtain⟨a',its',rfl,⟨o',e',c',n',d'⟩,i2⟩:=h2
 obtain⟨as,ra⟩:=zej (h:=s.heap) i1
 obtain⟨bs,rb⟩:=zej (h:=s.heap) i2
 have:=SeqAt.eqAt_reads (.tuple (xs.map PyData.int)) (.tuple (ys.map PyData.int)) A s (.ref a) (.ref a') _ _ (.tuple e c d ra) (.tuple e' c' d' rb) (by simp[PyData.canLay0,W.ke_canLayAll0]) (by simp[PyData.canLay0,W.ke_canLayAll0]) (by simp only[PyData.depth,W.ke_depthAll];omega)
 rwa [show PyData.eqv (.tuple (xs.map PyData.int)) (.tuple (ys.map PyData.int))=decide (xs=ys) from L2.eqv_ints xs ys]at this
theorem zoh{v u:Value}{xs ys:List Int}(hu:A.units < cLine)(h1:TupAt s.heap v xs)(h2:TupAt s.heap u ys)(prog:Program)(w:World)(E:Value->Shared->Prop)(Q:Value->Shared->Prop)(h:Q (.bool (lexLt xs ys)) s):wpAny (model prog w) A (compareOp .Lt v u) Q E s:=by
 obtain⟨a,its,rfl,t1,i1⟩:=h1
 obtain⟨a',its',rfl,t2,i2⟩:=h2
 exact HT.lt_tupInts t1 t2 i1 i2 hu h
theorem zmw{fin:Bool}{Q:Bool->Shared->Prop}{r r':Value}{xs ys:List Int}{i j i' j':Int}{ti tj ti' tj':Tok}(hu:A.units + 4 < cLine)(h1:TupAt s.heap r xs)(h2:TupAt s.heap r' ys)(hl:xs.length=ys.length)(hf:fin=false)
  (h:Q (lexLt (xs ++ [i,j]) (ys ++ [i',j'])) s):KatLex prog w A false fin Q ([r,.int i ti,.int j tj].zip [r',.int i' ti',.int j' tj']) 0 s:=by
 rw[zim _ _ hl]at h
 rw[List.zip_cons_cons]
 refine kat_cons (zlv hu h1 h2 prog w _ _ ?_)
 by_cases e:xs=ys
 ·rw[if_pos e]at h
  rw[decide_eq_true e]
  exact kat_yes (zk3 [i,j] [i',j'] 1 fin (.cons _ _ (.cons _ _ .nil)) (.cons _ _ (.cons _ _ .nil)) (by rw[hf];rfl) h)
 ·rw[if_neg e]at h
  rw[decide_eq_false e]
  refine kat_no ?_
  show wpAny (model prog w) A (oneLt' false r r') Q _ s
  exact kat_one _ _ (zoh (by omega) h1 h2 prog w _ _ (show W.BoolBack Q (.bool (lexLt xs ys)) s from h))
theorem zis{a₀:Array Keyed}{L:Nat}(hu:A.units + 4 < cLine)(h:∀x∈a₀.toList,∃ns,NestAt s.heap x.1 ns/\ns.length=L):Cmp prog w A s (tuples' false) a₀ lexO (nestKey s.heap):=by
 refine⟨λx hx y hy Q E hq => ?_⟩
 obtain⟨ns,tx,lx⟩:=h x hx
 obtain⟨ms,ty,ly⟩:=h y hy
 rw[zcu tx,zcu ty]at hq
 obtain⟨a,its,r,xs,i,j,ti,tj,ea,⟨o,e,_,n,d⟩,l1,t1,rfl⟩:=tx
 obtain⟨a',its',r',xs',i',j',ti',tj',ea',⟨o',e',_,n',d'⟩,l2,t2,rfl⟩:=ty
 rw[ea,ea']
 have z1:its.size=3:=by rw[<- Array.length_toList,l1];rfl
 have z2:its'.size=3:=by rw[<- Array.length_toList,l2];rfl
 refine kat_lt e d e' d' ?_
 rw[l1,l2]
 exact zmw hu t1 t2 (by simp at lx ly;omega) (by rw[z1,z2];rfl) hq
theorem ze8{h:Heap}{L:Nat}:∀{kis:List (List Int)} {ks:List Value},Paired (λns k=>NestAt h k ns/\ns.length=L) kis ks->∃fs:List Value,W.KatTups h ks fs/\fs.length=ks.length/\∀v∈fs,∃ns,TupAt h v ns
 | _,_,.nil=>⟨[],W.KatTups.nil,rfl,by simp⟩
 | _,_,.cons r t=>by
  obtain⟨fs,tf,l,q⟩:=ze8 t
  obtain⟨⟨a,its,r,xs,i,j,ti,tj,rfl,⟨o,e,c,n,d⟩,l1,t1,rfl⟩,_⟩:=r
  obtain⟨ai⟩:=its
  have l1:ai=[r,.int i ti,.int j tj]:=l1
  subst l1
  refine⟨r :: fs,W.KatTups.cons e c d rfl tf,by rw[List.length_cons,List.length_cons,l],λv hv => ?_⟩
  rcases List.mem_cons.mp hv with rfl | hv
  ·exact⟨xs,t1⟩
  ·exact q v hv
theorem zhj{E:Value->Shared->Prop}{L:Nat}{kis:List (List Int)}{ks:List Value}{Q:SortKind->Shared->Prop}(hK:Paired (λns k=>NestAt s.heap k ns/\ns.length=L) kis ks)(h2:0 < ks.length)(h:Q (tuples' false) s):wpAny (model prog w) A (keyKind' ks.toArray) Q E s:=by
 obtain⟨fs,tf,lf,qf⟩:=ze8 hK
 refine W.kat_kind (T := .type "tuple") tf (by omega) (λv hv => ?_) (by decide) h
 obtain⟨ns,a,its,rfl,⟨⟨cls,dd,data,sl⟩,e,c,n,d⟩,i⟩:=qf v hv
 simp only at c
 subst c
 exact(W.Looks.ld e).andThen .now
end
section
variable{prog:Program}{w:World}{A:Around}{E:Value->Shared->Prop}{s:Shared}
theorem zmk{L:Nat}{kS D:Addr}{ks vs:List Value}{kis:List (List Int)}{all:List V}{e e1:Nat}{P:PySem.Fin->Shared->Prop}(hu:A.units + 4 < cLine)(hk:s.heap.get? kS=some (seqObj "list" ks.toArray e))(hD:s.heap.get? D=some (seqObj "list" #[] e1))(hne:D≠kS)
  (hK:Paired (λns k=>NestAt s.heap k ns/\ns.length=L) kis ks) (hV:Vals all vs) (hl:ks.length=vs.length) (hz:vs.length<=sizeLine)
  (h:∀(ps:List (List Int×V)) (out:Array Value),ps.Perm (kis.zip all)->ps.Pairwise (λp q=>HT.lexLt q.1 p.1=false)->Vals (ps.map (·.2)) out.toList ->
   P (.done (.ret .none)) { s with heap:=(s.heap.update kS (Obj.mapSeq λ_ => #[])).update D (Obj.mapSeq λ_=>out) }) :
  wpAny (model prog w) A (ksk_end D false vs.toArray e1 (.ref kS) ks.toArray) P E s:=by
 have hR:=zf1 hK hV
 have fin:∀st:SortSt,failedOf st=none->(arrOf st).toList.Perm (ks.zip vs)->(arrOf st).toList.Pairwise (λx y=>HT.lexLt (nestKey s.heap y) (nestKey s.heap x)=false)->wpAny (model prog w) A (ksk_tail D false e1 (.ref kS) st) P E s:=by
  intro st hf hp hs
  obtain⟨ps,pp,pr⟩:=ze0 hp.symm hR
  have pw:ps.Pairwise (λp q=>HT.lexLt q.1 p.1=false):=zdh (λp q x y r1 r2 z=>by rw[zcu r1.1.1,zcu r2.1.1]at z;exact z) pr hs
  have hlen:(arrOf st).size<=sizeLine:=by
   have:=hp.length_eq
   rw[Array.length_toList,List.length_zip]at this;omega
  have pm:Vals (ps.map (·.2)) ((arrOf st).toList.map (·.2)):=zf0 (λp x r=>r.2) pr
  refine zmm hk hD hne hf (by rw[List.size_toArray];omega) hlen ?_
  simp only[Bool.false_eq_true,if_false]
  exact h ps _ pp pw (by rw[Array.toList_map];exact pm)
 have hz0:(ks.toArray.zip vs.toArray).toList.Perm (ks.zip vs):=by rw[ksk_zip]
 unfold ksk_end
 dsimp only
 simp only[Bool.false_eq_true,if_false]
 by_cases h2:vs.toArray.size < 2
 ·rw[if_pos h2,if_pos h2]
  refine wpAny_bind (wpAny_pure ?_)
  refine wpAny_bind (wpAny_pure ?_)
  refine fin _ rfl hz0 ?_
  have hlz:=hz0.length_eq
  rw[List.length_zip]at hlz
  rw[List.size_toArray]at h2
  show List.Pairwise _ (ks.toArray.zip vs.toArray).toList
  generalize (ks.toArray.zip vs.toArray).toList=zs at hlz
  match zs,hlz with
  | [],_=>exact .nil
  | [_],_=>exact List.pairwise_singleton _ _
  | _ :: _ :: _,hlz=>simp at hlz;omega
 ·rw[if_neg h2,if_neg h2]
  rw[List.size_toArray]at h2
  refine wpAny_bind (zhj hK (by omega) ?_)
  have C:Cmp prog w A s (tuples' false) (ks.toArray.zip vs.toArray) lexO (nestKey s.heap):=by
   refine zis (L:=L) hu λx hx => ?_
   obtain⟨p,hp,r⟩:=zfa hR x (hz0.mem_iff.mp hx)
   exact⟨p.1,r.1⟩
  refine wpAny_bind (wpAny_mono (zfl (E:=E) C (st:=SortSt.mk' _ _ #[] 7 none) ⟨rfl,Array.Perm.refl _,rfl⟩ rfl (Q:=λ_ st'=>SB (tuples' false) (ks.toArray.zip vs.toArray) st'/\Srt (O:=lexO) (nestKey s.heap) (arrOf st').toList) λst' B' S'=>⟨B',S'⟩) ?_ λ_ _ x=>x)
  rintro⟨⟨⟩,st'⟩ s' ⟨rfl,B',S'⟩
  exact fin st' B'.failed ((Array.perm_iff_toList_perm.mp B'.perm).trans hz0) S'
theorem zk5{D:Addr}{vs:List Value}{n L:Nat}{kis:List (List Int)}{all:List V}{P:PySem.Fin->Shared->Prop}(hu:A.units + 4 < cLine)(hD:s.heap.get? D=some (seqObj "list" vs.toArray n))(hz:vs.length<=sizeLine)
  (hK:Paired (λns k=>NestAt s.heap k ns/\ns.length=L) kis vs) (hV:Vals all vs)
  (h:∀(ps:List (List Int×V)) (out:Array Value),ps.Perm (kis.zip all)->ps.Pairwise (λp q=>HT.lexLt q.1 p.1=false)->Vals (ps.map (·.2)) out.toList ->
   P (.done (.ret .none)) { s with heap:=(((s.heap.update D (Obj.mapSeq λ_ => #[])).push (seqObj "tuple" vs.toArray 0)).push (seqObj "list" #[] 0)).update D (Obj.mapSeq λ_=>out) }) :
  wpAny (model prog w) A (Builtin.«list.sort» ⟨[.ref D],[]⟩) P E s:=by
 have s1:=Heap.SameBut.update s.heap D (Obj.mapSeq λ_=>(#[]:Array Value))
 obtain⟨e1,ho1⟩:∃e1,(s.heap.update D (Obj.mapSeq λ_=>(#[]:Array Value))).get? D=some (seqObj "list" #[] e1):=⟨_,get?_update_seq hD λ_ => #[]⟩
 rw[list_sort_plain]
 refine wpAny_bind (listItems_at hD rfl ?_)
 refine wpAny_bind (listUpdate_at hD rfl ?_ (by rw[List.size_toArray];omega) (Nat.zero_le _))
 refine wpAny_bind (seqEpoch_at ho1 rfl ?_)
 refine wpAny_bind (wpAny_newTuple ?_ (by show vs.length<=_;omega))
 refine wpAny_bind (wpAny_newList ?_ (Nat.zero_le _))
 refine wpAny_holding ?_
 have keep:∀c o,c≠D->s.heap.get? c=some o->(((s.heap.update D (Obj.mapSeq λ_ => #[])).push (seqObj "tuple" vs.toArray 0)).push (seqObj "list" #[] 0)).get? c=some o:=λc o hc e=>Heap.get?_push_of_some _ (Heap.get?_push_of_some _ ((s1.2 c hc).trans e))
 have hD3:(((s.heap.update D (Obj.mapSeq λ_ => #[])).push (seqObj "tuple" vs.toArray 0)).push (seqObj "list" #[] 0)).get? D=some (seqObj "list" #[] e1):=Heap.get?_push_of_some _ (Heap.get?_push_of_some _ ho1)
 dsimp only
 show wpAny _ _ _ _ _ { s with heap:=((s.heap.update D (Obj.mapSeq λ_ => #[])).push (seqObj "tuple" vs.toArray 0)).push (seqObj "list" #[] 0) }
 generalize ((s.heap.update D (Obj.mapSeq λ_ => #[])).push (seqObj "tuple" vs.toArray 0)).push (seqObj "list" #[] 0)=h3 at *
 have tne:∀c its,IsTup s.heap c its->IsTup h3 c its:=by
  rintro c its ⟨o,e,hc,r⟩
  exact⟨o,keep c o (λz=>by subst z;rw[hD]at e;cases e;injection hc with hc;exact absurd hc (by decide)) e,hc,r⟩
 have hK3:Paired (λns k=>NestAt h3 k ns/\ns.length=L) kis vs:=by
  refine L2.Paired.mapP hK λns k z=>⟨?_,z.2⟩
  obtain⟨a,its,r,xs,i,j,ti,tj,e,t0,l1,⟨b,its2,eb,t2,i2⟩,en⟩:=z.1
  exact⟨a,its,r,xs,i,j,ti,tj,e,tne _ _ t0,l1,⟨b,its2,eb,tne _ _ t2,i2⟩,en⟩
 have hR:=zf1 hK3 hV
 have hz0:(vs.toArray.zip vs.toArray).toList.Perm (vs.zip vs):=by rw[ksk_zip]
 have fin:∀arr:Array Keyed,arr.toList.Perm (vs.zip vs)->arr.toList.Pairwise (λx y=>HT.lexLt (nestKey h3 y) (nestKey h3 x)=false)->P (.done (.ret .none)) { s with heap:=h3.update D (Obj.mapSeq λ_=>arr.map (·.2)) }:=by
  intro arr hp hs
  obtain⟨ps,pp,pr⟩:=ze0 hp.symm hR
  have pw:ps.Pairwise (λp q=>HT.lexLt q.1 p.1=false):=zdh (λp q x y r1 r2 z=>by rw[zcu r1.1.1,zcu r2.1.1]at z;exact z) pr hs
  have pm:Vals (ps.map (·.2)) (arr.toList.map (·.2)):=zf0 (λp x r=>r.2) pr
  exact h ps _ pp pw (by rw[Array.toList_map];exact pm)
 have szs:∀arr:Array Keyed,arr.toList.Perm (vs.zip vs)->(arr.map (·.2)).size<=sizeLine + 1:=by
  intro arr hp
  have:=hp.length_eq
  rw[Array.length_toList,List.length_zip]at this
  rw[Array.size_map];omega
 by_cases h2:vs.toArray.size < 2
 ·rw[if_pos h2,if_pos h2]
  refine wpAny_bind (wpAny_pure ?_)
  rw[StateT.run_pure]
  refine wpAny_bind (wpAny_pure ?_)
  dsimp only
  refine wpAny_bind (seqEpoch_at hD3 rfl ?_)
  refine wpAny_bind (listUpdate_at hD3 rfl ?_ (Nat.zero_le _) (szs _ hz0))
  simp only[bne_self_eq_false,Bool.false_eq_true,if_false]
  refine wpAny_pure (fin _ hz0 ?_)
  have hlz:=hz0.length_eq
  rw[List.length_zip]at hlz
  rw[List.size_toArray]at h2
  show List.Pairwise _ (vs.toArray.zip vs.toArray).toList
  generalize (vs.toArray.zip vs.toArray).toList=zs at hlz
  match zs,hlz with
  | [],_=>exact .nil
  | [_],_=>exact List.pairwise_singleton _ _
  | _ :: _ :: _,hlz=>simp at hlz;omega
 ·rw[if_neg h2,if_neg h2]
  rw[List.size_toArray]at h2
  refine wpAny_bind (zhj (s:={ s with heap:=h3 }) hK3 (by omega) ?_)
  have C:Cmp prog w A { s with heap:=h3 } (tuples' false) (vs.toArray.zip vs.toArray) lexO (nestKey h3):=by
   refine zis (s:={ s with heap:=h3 }) (L:=L) hu λx hx => ?_
   obtain⟨p,hp,r⟩:=zfa hR x (hz0.mem_iff.mp hx)
   exact⟨p.1,r.1⟩
  refine wpAny_bind (wpAny_mono (zfl (E:=E) C (st:=SortSt.mk' _ _ #[] 7 none) ⟨rfl,Array.Perm.refl _,rfl⟩ rfl (Q:=λ_ st'=>SB (tuples' false) (vs.toArray.zip vs.toArray) st'/\Srt (O:=lexO) (nestKey h3) (arrOf st').toList) λst' B' S'=>⟨B',S'⟩) ?_ λ_ _ x=>x)
  rintro⟨⟨⟩,st'⟩ s' ⟨rfl,B',S'⟩
  have hp':=(Array.perm_iff_toList_perm.mp B'.perm).trans hz0
  have hf:failedOf st'=none:=B'.failed
  dsimp only
  refine wpAny_bind (seqEpoch_at hD3 rfl ?_)
  refine wpAny_bind (listUpdate_at hD3 rfl ?_ (Nat.zero_le _) (szs _ hp'))
  rw[hf]
  simp only[bne_self_eq_false,Bool.false_eq_true,if_false]
  exact wpAny_pure (fin _ hp' S')
end
end TS
set_option Elab.async false
set_option linter.all false
set_option maxRecDepth 100000
namespace HT
open PySem PyProof.Rows
inductive LexE(A:Around)(s:Shared):List Value->List Value->Bool->Prop
 | nil:LexE A s [] [] false
 | eq {v u:Value} {vs us:List Value} {c:Bool}:SeqAt.EqAt A s v u true->LexE A s vs us c->LexE A s (v :: vs) (u :: us) c
 | ne {v u:Value} {vs us:List Value} {c:Bool}:SeqAt.EqAt A s v u false->(∀(prog:Program) (w:World) (E:Value->Shared->Prop) (Q:Value->Shared->Prop),Q (.bool c) s->wpAny (model prog w) A (richCompare .Lt v u) Q E s)->vs.length=us.length->LexE A s (v :: vs) (u :: us) c
theorem LexE.len{A:Around}{s:Shared}{vs us:List Value}{c:Bool}(h:LexE A s vs us c):vs.length=us.length:=by
 induction h with
 | nil=>rfl
 | eq _ _ ih=>simp[ih]
 | ne _ _ e=>simp[e]
section
open PySem.SeqAt
open PySem.AutoSeq1 (wpAny_loadPart')
open PySem.MeetsSeq PySem.MeetsSeq2 PySem.MeetsSeq3
theorem tuple_lt_lex(l b:Addr)(items items2:Array Value)(n n2:Nat)(dd dd2:Option Addr)(sl sl2:Array (Option Value))(c:Bool) :
  Meets (Builtin.«tuple.__lt__» ⟨[.ref l,.ref b],[]⟩)
   (λA R s=>s.heap.get? l=some { cls := .type "tuple",dict:=dd,data := .seq items n,slots:=sl }/\s.heap.get? b=some { cls := .type "tuple",dict:=dd2,data := .seq items2 n2,slots:=sl2 } /\
    LexE A.in1 s items.toList items2.toList c/\R (.ok (.ret (.bool c))) s):=
 .of_wp λprog w A R s h=>by
  obtain⟨hp,g,d,tk,os⟩:=s;obtain⟨hl,hb,hx,h⟩:=h
  have f2:=AutoSeq1.sub_tuple_tuple
  have zz:items.size=items2.size:=by have:=hx.len;simpa using this
  wp_walk using wpAny_loadPart' hl,wpAny_loadPart' hb,wpAny_forIn_list _ (λrest b s'=>b.1=none/\s'=⟨hp,g,d,tk,os⟩/\∃(vs ws:List Value),rest=vs.zip ws /\
   LexE A.in1 ⟨hp,g,d,tk,os⟩ vs ws c) _
  case turn=>
   rintro⟨y,x⟩ rest b s' ⟨hb',rfl,vs,ws,hz,hvi⟩
   cases hvi with
   | nil=>cases hz
   | eq he hvi'=>
    rw[List.zip_cons_cons]at hz
    injection hz with hyx hrest
    injection hyx with hy hx
    subst hy hx
    refine wpAny_bind (he prog w _ _ ?_)
    wp_walk
    exact⟨rfl,rfl,_,_,hrest,hvi'⟩
   | ne he hlt _=>
    rw[List.zip_cons_cons]at hz
    injection hz with hyx hrest
    injection hyx with hy hx
    subst hy hx
    refine wpAny_bind (he prog w _ _ ?_)
    have hri:=hlt prog w
    wp_walk using hri
    exact⟨_,rfl,by simpa using h⟩
  case fin=>
   rintro⟨b1,b2⟩ s' ⟨hb',rfl,vs,ws,hz,hvi⟩
   simp only at hb'
   subst hb'
   cases hvi with
   | nil=>
    wp_walk
    exact⟨_,rfl,by simpa[Builtin.Tuple.tupleCompareSizes,zz]using h⟩
   | eq _ _=>rw[List.zip_cons_cons]at hz;cases hz
   | ne _ _ _=>rw[List.zip_cons_cons]at hz;cases hz
  case h=>
   exact⟨rfl,rfl,items.toList,items2.toList,rfl,hx⟩
end
end HT
set_option Elab.async false
set_option linter.all false
set_option maxRecDepth 100000
namespace L2
open PySem PySem.Spec PyProof.Rows TS
def NstV(K:W.Frag)(H:Hp)(ns:List Int)(v:V):Prop:=∃t r xs i j,v=V.ref t/\SqT K H t [.ref r,.int i,.int j]/\SqT K H r (xs.map V.int)/\ns=xs ++ [i,j]
section
variable{X:Cx}{pins:List (Addr×Obj)}{σ : St}{H:Hp}{s:Shared}
theorem zlx(I:Inv X pins σ H s){ns:List Int}{v:V}{u:Value}(h:NstV X.K H ns v)(r:RelV v u):NestAt s.heap u ns:=by
 obtain⟨t,q,xs,i,j,rfl,h1,h2,rfl⟩:=h
 cases r
 obtain⟨it,r1,p1,_⟩:=I.tuple h1
 obtain⟨it2,r2,p2,_⟩:=I.tuple h2
 cases r1 with
 | cons a r1=>
  cases r1 with
  | cons b r1=>
   cases r1 with
   | cons c r1=>
    cases r1
    cases a
    obtain⟨ti,rfl⟩:=b
    obtain⟨tj,rfl⟩:=c
    exact⟨t,_,.ref q,xs,i,j,ti,tj,rfl,p1,rfl,⟨q,_,rfl,p2,zcw r2⟩,rfl⟩
theorem zh3(I:Inv X pins σ H s){L:Nat}:∀{kis:List (List Int)} {ks:List V} {kus:List Value},Paired (λns k=>NstV X.K H ns k/\ns.length=L) kis ks->Vals ks kus->Paired (λns k=>NestAt s.heap k ns/\ns.length=L) kis kus
 | _,_,_,.nil,.nil => .nil
 | _,_,_,.cons r t,.cons r' t' => .cons ⟨zlx I r.1 r',r.2⟩ (zh3 I t t')
theorem zf9(hu:X.A.units + 8 < cLine):OpR X (compareOp .Lt) (λx y H Q=>∃ns ms,NstV X.K H ns x/\NstV X.K H ms y/\ns.length=ms.length/\Q (.bl (HT.lexLt ns ms)) H):=by
 intro pins s σ H x y v u Q I rx ry h
 obtain⟨ns,ms,hx,hy,hl,q⟩:=h
 obtain⟨a,its,r,xs,i,j,ti,tj,rfl,⟨⟨cls,dd,data,sl⟩,ho,hc,n,hd⟩,l1,t1,rfl⟩:=zlx I hx rx
 obtain⟨a',its',r',xs',i',j',ti',tj',rfl,⟨⟨cls2,dd2,data2,sl2⟩,ho2,hc2,n2,hd2⟩,l2,t2,rfl⟩:=zlx I hy ry
 simp only at hc hd hc2 hd2
 subst hc hd hc2 hd2
 have hle:xs.length=xs'.length:=by simpa using hl
 refine richCompare_meets_room (op := .Lt) ⟨_,ho,rfl⟩ ⟨_,ho2,rfl⟩ PySem.F.slot_tuple_lt PySem.F.entry_tuple_lt (PySem.F.args_tuple_lt_2 _ _) (HT.tuple_lt_lex a a' its its' n n2 dd dd2 sl sl2 (HT.lexLt (xs ++ [i,j]) (xs' ++ [i',j'])))
  ⟨ho,ho2,?_,show Value.bool (HT.lexLt (xs ++ [i,j]) (xs' ++ [i',j']))≠Value.notImplemented/\EP X pins σ Q (.bool (HT.lexLt (xs ++ [i,j]) (xs' ++ [i',j']))) s from⟨(λx=>nomatch x),⟨.bl _,H,I,rfl,q⟩⟩⟩ (by omega)
 rw[l1,l2,zim _ _ hle]
 have iq:∀(A:Around) (a b:Int) (t u:Tok),SeqAt.EqAt A s (.int a t) (.int b u) (decide (a=b)):=λA a b t u=>by
  have:=SeqAt.EqAt.int_int (A:=A) (s:=s) a t b u
  rwa [show (a == b)=decide (a=b) from rfl]at this
 by_cases e:xs=xs'
 ·rw[if_pos e]
  have q1:=zlv (A:=X.A.in1) (s:=s) (by show X.A.units + 1 + 4 < cLine;omega) t1 t2
  rw[decide_eq_true e]at q1
  refine .eq q1 ?_
  rw[HT.lexLt_cons]
  by_cases e1:i=i'
  ·rw[if_pos e1]
   have q2:=iq X.A.in1 i i' ti ti'
   rw[decide_eq_true e1]at q2
   refine .eq q2 ?_
   rw[HT.lexLt_cons]
   by_cases e2:j=j'
   ·rw[if_pos e2]
    have q3:=iq X.A.in1 j j' tj tj'
    rw[decide_eq_true e2]at q3
    exact .eq q3 .nil
   ·rw[if_neg e2]
    have q3:=iq X.A.in1 j j' tj tj'
    rw[decide_eq_false e2]at q3
    exact .ne q3 (λprog w E Q h=>HT.rcLt_int _ s j tj j' tj' prog w E Q h) rfl
  ·rw[if_neg e1]
   have q2:=iq X.A.in1 i i' ti ti'
   rw[decide_eq_false e1]at q2
   exact .ne q2 (λprog w E Q h=>HT.rcLt_int _ s i ti i' ti' prog w E Q h) rfl
 ·rw[if_neg e]
  have q1:=zlv (A:=X.A.in1) (s:=s) (by show X.A.units + 1 + 4 < cLine;omega) t1 t2
  rw[decide_eq_false e]at q1
  exact .ne q1 (λprog w E Q h=>zoh (A:=X.A.in1) (s:=s) (by show X.A.units + 1 < cLine;omega) t1 t2 prog w E Q h) rfl
theorem zh2(hu:X.A.units + 8 < cLine):CallR X (.builtin "sorted") (λxs H Q=>∃(l:Addr) (all:List V) (kis:List (List Int)) (L:Nat),xs=[.ref l]/\H l=some (.lst all)/\Paired (λns k=>NstV X.K H ns k/\ns.length=L) kis all /\
  ∀ps:List (List Int×V),ps.Perm (kis.zip all)->ps.Pairwise (λp q=>HT.lexLt q.1 p.1=false)->∀D,H D=none->Q (.ref D) (upd H D (.lst (ps.map (·.2))))):=by
 intro pins s σ H xs us Q I r h
 obtain⟨l,all,kis,L,rfl,hH,hP,hQ⟩:=h
 obtain⟨u,rfl,rx⟩:=vals1 r
 cases rx
 obtain⟨vs,n,hV,hl,hz⟩:=I.lst hH
 have hz':vs.length<=sizeLine:=by rw[<- hV.length];exact hz
 have hls:s.heap.IsList l vs.toArray:=⟨_,hl,rfl,n,rfl⟩
 refine Calls.call_function_entry kind_sorted plain_sorted entry_sorted (args_sorted1 _) ?_
 unfold Builtin.«sorted»
 refine wpAny_bind (m:=checkCount "sorted" 1 1 _) (wpAny_pure ?_)
 refine wpAny_bind (collect_list hls ?_ hz')
 have keep0:∀b o,s.heap.get? b=some o->((s.heap.push (seqObj "list" #[] 0)).update s.heap.objs.size (Obj.mapSeq (· ++ vs.toArray))).get? b=some o:=λb o q=>by
  have hlt:b < s.heap.objs.size:=Heap.lt_size q
  rw[Heap.get?_update_ne _ _ _ _ (Nat.ne_of_lt hlt),Heap.get?_push_ne _ _ _ (Nat.ne_of_lt hlt)]
  exact q
 have I2:Inv X pins σ H { s with heap:=(s.heap.push (seqObj "list" #[] 0)).update s.heap.objs.size (Obj.mapSeq (· ++ vs.toArray)) }:=I.kept (t':=s.toks) keep0
 refine wpAny_bind (wpAny_newList ?_ hz')
 have I3:=I2.pinNew (t':=s.toks) (ob:=seqObj "list" vs.toArray 0) rfl (by intro v z;cases z)
 have fD:FpOk X pins H ((s.heap.push (seqObj "list" #[] 0)).update s.heap.objs.size (Obj.mapSeq (· ++ vs.toArray))).objs.size:=I2.fpOk (Nat.le_refl _) (I2.hok.fresh (Nat.le_refl _))
 have nD:=I3.pin (((s.heap.push (seqObj "list" #[] 0)).update s.heap.objs.size (Obj.mapSeq (· ++ vs.toArray))).objs.size,seqObj "list" vs.toArray 0) (List.mem_append_right _ (.head _))
 refine wpAny_bind (wpAny_holding (wpAny_call_entry PyProof.Rows.slot_list_sort ⟨_,nD.1,rfl⟩ PyProof.Rows.entry_list_sort ?body (args_list_sort _)))
 case body=>
  refine zk5 (by show X.A.units + 1 + 1 + 4 < cLine;omega) nD.1 hz' (zh3 I3 hP hV) hV λps out pp pw pv => ?_
  refine⟨_,rfl,wpAny_pure ⟨_,rfl,?_⟩⟩
  generalize hDD:((s.heap.push (seqObj "list" #[] 0)).update s.heap.objs.size (Obj.mapSeq (· ++ vs.toArray))).objs.size=D at *
  generalize ((s.heap.push (seqObj "list" #[] 0)).update s.heap.objs.size (Obj.mapSeq (· ++ vs.toArray))).push (seqObj "list" vs.toArray 0)=h0 at *
  have sa:=Heap.SameBut.update h0 D (Obj.mapSeq λ_=>(#[]:Array Value))
  obtain⟨e1,ho1⟩:∃e1,(h0.update D (Obj.mapSeq λ_=>(#[]:Array Value))).get? D=some (seqObj "list" #[] e1):=⟨_,get?_update_seq nD.1 λ_ => #[]⟩
  have ho2:(((h0.update D (Obj.mapSeq λ_ => #[])).push (seqObj "tuple" vs.toArray 0)).push (seqObj "list" #[] 0)).get? D=some (seqObj "list" #[] e1):=Heap.get?_push_of_some _ (Heap.get?_push_of_some _ ho1)
  have sb:=Heap.SameBut.update (((h0.update D (Obj.mapSeq λ_=>(#[]:Array Value))).push (seqObj "tuple" vs.toArray 0)).push (seqObj "list" #[] 0)) D (Obj.mapSeq λ_=>out)
  obtain⟨c2,hc2⟩:∃c2,((((h0.update D (Obj.mapSeq λ_=>(#[]:Array Value))).push (seqObj "tuple" vs.toArray 0)).push (seqObj "list" #[] 0)).update D (Obj.mapSeq λ_=>out)).get? D=some (seqObj "list" out c2):=⟨_,get?_update_seq ho2 λ_=>out⟩
  have I4:Inv X ((D,seqObj "list" out.toList.toArray c2) :: pins) σ H { s with heap:=(((h0.update D (Obj.mapSeq λ_ => #[])).push (seqObj "tuple" vs.toArray 0)).push (seqObj "list" #[] 0)).update D (Obj.mapSeq λ_=>out) }:=
   Inv.repin (s:={ s with heap:=h0 }) (pa:=[]) (t':=s.toks) I3 fD (λb' o hb' e'=>(sb.2 b' hb').trans (Heap.get?_push_of_some _ (Heap.get?_push_of_some _ ((sa.2 b' hb').trans e')))) (by simpa using hc2) (by intro v z;cases z)
  exact⟨.ref D,_,I4.unpin fD pv (by have:=pp.length_eq;rw[List.length_zip]at this;rw[List.length_map,this];omega),rfl,hQ ps pp pw D nD.2.1⟩
end
def skEndN(K:W.Frag)(all:List V)(G:List V->Hp->Prop)(ks:List V)(H:Hp):Prop:=
 ∃(kis:List (List Int)) (L:Nat),Paired (λns k=>NstV K H ns k/\ns.length=L) kis ks /\
  ∀ps:List (List Int×V),ps.Perm (kis.zip all)->ps.Pairwise (λp q=>HT.lexLt q.1 p.1=false)->G (ps.map (·.2)) H
section
variable{X:Cx}{A:Around}{E:Value->Shared->Prop}{pins:List (Addr×Obj)}{σ : St}{q kS D:Addr}{oD oq:Obj}{sp:V->Hp->VK->Prop}{H₁:Hp}
theorem zki{all:List V}{vs:List Value}{n:Nat}{H:Hp}{s:Shared}{G:List V->Hp->Prop}(hu:A.units + 4 < cLine)(B:BRunA X A σ pins q oq sp)(hqD:q≠D)(fD:FpOk X pins H₁ D)(hV:Vals all vs)(hz:vs.length<=sizeLine)
  (I:Inv X ((D,seqObj "list" vs.toArray n) :: (q,oq) :: pins) σ H s) (h:skGo sp all [] H (skEndN X.K all G)) :
  wpAny (model X.prog X.w) A (ksk_tree D (.ref q) false) (λfin s'=>fin = .done (.ret .none)/\∃out outv n' H',Vals out outv/\out.length<=sizeLine/\Inv X ((D,seqObj "list" outv.toArray n') :: (q,oq) :: pins) σ H' s'/\G out H') E s:=by
 have nD:=I.pin (D,seqObj "list" vs.toArray n) (List.mem_append_right _ (.head _))
 have s1:=Heap.SameBut.update s.heap D (Obj.mapSeq λ_=>(#[]:Array Value))
 obtain⟨e1,ho1⟩:∃e1,(s.heap.update D (Obj.mapSeq λ_=>(#[]:Array Value))).get? D=some (seqObj "list" #[] e1):=⟨_,get?_update_seq nD.1 λ_ => #[]⟩
 have fD':FpOk X ([] ++ ((q,oq) :: pins)) H₁ D:=fD.more (pa:=[(q,oq)]) (by simp[hqD])
 have I1:Inv X ((D,seqObj "list" #[] e1) :: (q,oq) :: pins) σ H { s with heap:=s.heap.update D (Obj.mapSeq λ_ => #[]) }:=
  Inv.repin (pa:=[]) (t':=s.toks) I fD' (λb' o hb' e'=>(s1.2 b' hb').trans e') ho1 (by intro v z;cases z)
 unfold ksk_tree
 refine wpAny_bind (listItems_at nD.1 rfl ?_)
 refine wpAny_bind (listUpdate_at nD.1 rfl ?_ (by rw[List.size_toArray];omega) (Nat.zero_le _))
 refine wpAny_bind (seqEpoch_at ho1 rfl ?_)
 refine wpAny_bind (wpAny_newTuple ?_ (by show vs.length<=_;omega))
 have I2:Inv X ((D,seqObj "list" #[] e1) :: (q,oq) :: pins) σ H { s with heap:=(s.heap.update D (Obj.mapSeq λ_ => #[])).push (seqObj "tuple" vs.toArray 0) }:=I1.kept (t':=s.toks) λb u e=>Heap.get?_push_of_some _ e
 refine wpAny_bind (wpAny_newList ?_ (Nat.zero_le _))
 refine wpAny_holding ?_
 have I3:=I2.pinNew (t':=s.toks) (ob:=seqObj "list" #[] 0) rfl (by intro v z;cases z)
 have fK:FpOk X pins H ((s.heap.update D (Obj.mapSeq λ_ => #[])).push (seqObj "tuple" vs.toArray 0)).objs.size:=by
  have I0:Inv X pins σ H { s with heap:=(s.heap.update D (Obj.mapSeq λ_ => #[])).push (seqObj "tuple" vs.toArray 0) }:=I2.pins_of λp hp=>I2.pin p (List.mem_append_right _ (.tail _ (.tail _ hp)))
  exact I0.fpOk (Nat.le_refl _) (I0.hok.fresh (Nat.le_refl _))
 have hDk:D≠((s.heap.update D (Obj.mapSeq λ_ => #[])).push (seqObj "tuple" vs.toArray 0)).objs.size:=Nat.ne_of_lt (Heap.lt_size (I2.pin (D,seqObj "list" #[] e1) (List.mem_append_right _ (.head _))).1)
 have hqk:q≠((s.heap.update D (Obj.mapSeq λ_ => #[])).push (seqObj "tuple" vs.toArray 0)).objs.size:=Nat.ne_of_lt (Heap.lt_size (I2.pin (q,oq) (List.mem_append_right _ (.tail _ (.head _)))).1)
 show wpAny _ _ (ksk_rest D (.ref q) false vs.toArray e1 (.ref ((s.heap.update D (Obj.mapSeq λ_ => #[])).push (seqObj "tuple" vs.toArray 0)).objs.size)) _ _ { s with heap:=((s.heap.update D (Obj.mapSeq λ_ => #[])).push (seqObj "tuple" vs.toArray 0)).push (seqObj "list" #[] 0) }
 have I3':Inv X ((((s.heap.update D (Obj.mapSeq λ_ => #[])).push (seqObj "tuple" vs.toArray 0)).objs.size,seqObj "list" ([]:List Value).toArray 0) :: (D,seqObj "list" #[] e1) :: (q,oq) :: pins) σ H { s with heap:=((s.heap.update D (Obj.mapSeq λ_ => #[])).push (seqObj "tuple" vs.toArray 0)).push (seqObj "list" #[] 0) }:=I3
 generalize ((s.heap.update D (Obj.mapSeq λ_ => #[])).push (seqObj "tuple" vs.toArray 0)).objs.size=kS at *
 generalize ({ s with heap:=((s.heap.update D (Obj.mapSeq λ_ => #[])).push (seqObj "tuple" vs.toArray 0)).push (seqObj "list" #[] 0) }:Shared)=s3 at *
 unfold ksk_rest
 refine wpAny_bind (wpAny_rule ?_)
 rw[<- Array.forIn_toList]
 refine wpAny_bind (wpAny_mono (zpu (F:=skEndN X.K all G) (E:=E) B hDk hqk fK (λx s R hx => ?_) all vs [] [] 0 H s3 hV .nil (by rw[hV.length];simpa using hz) h I3') (λ_ s4 hd => ?_) λ_ _ x=>x)
 ·refine wpAny_bind (wpAny_attempt (wpAny_mono hx (λk s'' hk => ?_) λ_ _ hF=>hF.elim))
  obtain⟨kus,e,hk1,hk2,hR⟩:=hk
  dsimp only
  refine wpAny_bind (listUpdate_at hk1 rfl ?_ (by rw[List.size_toArray];omega) (by rw[Array.size_push,List.size_toArray];omega))
  exact wpAny_pure ⟨rfl,k,hR⟩
 ·obtain⟨ks,kus,e,H',hv',hl',I4,kis,L,hP,hG⟩:=hd
  have nk:=I4.pin (kS,seqObj "list" kus.toArray e) (List.mem_append_right _ (.head _))
  have nD4:=I4.pin (D,seqObj "list" #[] e1) (List.mem_append_right _ (.tail _ (.head _)))
  refine wpAny_bind (listItems_at nk.1 rfl ?_)
  have hlen:kus.length=vs.length:=by rw[<- hv'.length,hl',hV.length];simp
  refine zmk hu nk.1 nD4.1 hDk (zh3 I4 hP hv') hV hlen hz λps out pp pw pv=>⟨rfl,ps.map (·.2),out.toList,?_⟩
  have sa:=Heap.SameBut.update s4.heap kS (Obj.mapSeq λ_=>(#[]:Array Value))
  have hD5:(s4.heap.update kS (Obj.mapSeq λ_=>(#[]:Array Value))).get? D=some (seqObj "list" #[] e1):=(sa.2 D hDk).trans nD4.1
  have sb:=Heap.SameBut.update (s4.heap.update kS (Obj.mapSeq λ_=>(#[]:Array Value))) D (Obj.mapSeq λ_=>out)
  obtain⟨c2,hc2⟩:∃c2,((s4.heap.update kS (Obj.mapSeq λ_=>(#[]:Array Value))).update D (Obj.mapSeq λ_=>out)).get? D=some (seqObj "list" out c2):=⟨_,get?_update_seq hD5 λ_=>out⟩
  have I5:Inv X ((D,seqObj "list" #[] e1) :: (q,oq) :: pins) σ H' s4:=I4.pins_of λp hp=>I4.pin p (List.mem_append_right _ (.tail _ hp))
  have fK':=fK.more (pa:=[(D,seqObj "list" #[] e1),(q,oq)]) (by simp[hDk,hqk])
  have I6:=I5.turned (t':=s4.toks) (h':=s4.heap.update kS (Obj.mapSeq λ_ => #[])) (it:=kS) (λb' o hb' e'=>(sa.2 b' hb').trans e') nk.2.1 fK'.2.1 fK'.2.2.2.1 fK'.2.2.2.2.1 fK'.2.2.2.2.2
  have I7:Inv X ((D,seqObj "list" out.toList.toArray c2) :: (q,oq) :: pins) σ H' { s4 with heap:=(s4.heap.update kS (Obj.mapSeq λ_ => #[])).update D (Obj.mapSeq λ_=>out) }:=
   Inv.repin (s:={ s4 with heap:=s4.heap.update kS (Obj.mapSeq λ_ => #[]) }) (pa:=[]) (t':=s4.toks) I6 fD' (λb' o hb' e'=>(sb.2 b' hb').trans e') (by simpa using hc2) (by intro v z;cases z)
  exact⟨c2,H',pv,by
   have:=pp.length_eq
   rw[List.length_zip]at this
   rw[List.length_map,this,hV.length];omega,I7,hG ps pp pw⟩
theorem zm9{prog:Program}{w:World}{A:Around}{s:Shared}{T:String}{r d S:Addr}{n:Nat}{P:Nat->Value->Prop}{OK:Heap->Prop}{R:Result->Shared->Prop}(K:W.KdlSrc prog w T r d n P OK)(hh:A.handled=none)(hok:OK s.heap)(h1:S≠r)(h2:S≠d)
  (hS:s.heap.get? S=some { cls := .type "list",data := .seq #[] 0 }) (hn:n<=sizeLine)
  (hR:∀h' tk acc c',(∀b o,b≠S->s.heap.get? b=some o->h'.get? b=some o)->h'.get? S=some { cls := .type "list",dict:=none,data := .seq acc c',slots := #[] }->ItemsOf P acc n->R (.ok (.ret (.ref S))) { s with heap:=h',toks:=tk }) :
  codeAny (model prog w) A (.builtin "list.__iadd__" ⟨[.ref S,.ref r],[]⟩) R s:=by
 refine codeAny_builtin F.entry_list_iadd ?_;rw[Around.under_plainId F.plain_list_iadd _]
 show wpAny _ A.in1 (Builtin.List.listExtendWith (.ref S) (.ref r) (.ref S)) _ _ _;exact W.kdl_extend (A:=A) (R:=R) K hh hok S h1 h2 _ 0 hS hR hn
theorem zgy{pins:List (Addr×Obj)}{H:Hp}{s:Shared}{d:Addr}{kvs:List (List Key×V)}{Q:List Value->Shared->Prop}{E:Value->Shared->Prop}(I:Inv X pins σ H s)(hh:A.handled=none)(hd:Rd H d (.dT kvs))
  (h:∀(as:List Addr) (h':Heap) (tk:Nat),as.length=kvs.length->(∀(i:Nat) k x,kvs[i]? = some (k,x)->∃a,as[i]? = some a/\H a=some (.tup (k.map kV)))->(∀b o,s.heap.get? b=some o->h'.get? b=some o)->Q (as.map Value.ref) { s with heap:=h',toks:=tk }) :
  wpAny (model X.prog X.w) A (collect (.ref d)) Q E s:=by
 obtain⟨zl,hds,ys,rel,ob,es,ep,g1,g2,g3,g4,g5⟩:=zeq I.hok hd
 have le:es.size=kvs.length:=(size_of_entries g4).trans (Paired.length rel).symm
 have hlt:d < s.heap.objs.size:=Heap.lt_size g1
 have hS:(s.heap.push { cls := .type "list",data := .seq ([]:List Value).toArray }).get? s.heap.objs.size=some { cls := .type "list",data := .seq ([]:List Value).toArray }:=Heap.get?_push_size _ rfl
 unfold collect;refine wpAny_bind (wpAny_runValue (codeAny_builtin F.entry_proto_collect ?_));rw[Around.under_plainId F.plain_proto_collect _]
 show wpAny _ A.in1 (newList [] >>= λl=>again (.builtin "list.__iadd__" ⟨[l,.ref d],[]⟩)) _ _ s;refine wpAny_bind (wpAny_newObj_type (wpAny_pure ⟨plainId_quiet F.plain_list_iadd _,?_⟩))
 refine zm9 (s:={ s with heap:=s.heap.push { cls := .type "list",data := .seq ([]:List Value).toArray } }) (dsrc hds g2.1 g3) hh (Heap.get?_push_of_some _ g1) (Nat.ne_of_gt hlt) (Nat.ne_of_gt hlt) hS (by omega) λh' tk acc c kp hS hI => ?_
 have row:∀(i:Nat) k x,kvs[i]? = some (k,x)->∃a,acc[i]? = some (.ref a)/\H a=some (.tup (k.map kV)):=λi k x hk=>by
  obtain⟨y,hy,e1,e2,e3⟩:=Paired.at' rel hk
  have hi:i < acc.size:=by
   rcases Nat.lt_or_ge i kvs.length with z | z
   ·rw[hI.1];omega
   ·rw[List.getElem?_eq_none z]at hk;cases hk
  obtain⟨e,he,hv⟩:=hI.2 i acc[i] (Array.getElem?_eq_getElem hi)
  have:es[i]? = some (entryOfKey (tupleKind (mixKind X.prog X.w)) y):=by
   have z:es.toList[i]? = some (entryOfKey (tupleKind (mixKind X.prog X.w)) y):=by rw[g4,List.getElem?_map,hy];rfl
   simpa using z
  rw[this]at he;injection he with he;subst he
  exact⟨y.2.1,by rw[Array.getElem?_eq_getElem hi,hv];rfl,e2⟩
 obtain⟨as,hl,has⟩:∃as:List Addr,as.length=kvs.length/\acc.toList=as.map Value.ref:=by
  have key:∀n,n<=kvs.length->∃as:List Addr,as.length=n/\acc.toList.take n=as.map Value.ref:=by
   intro n
   induction n with
   | zero=>intro _;exact⟨[],rfl,rfl⟩
   | succ n ih=>
    intro hn
    obtain⟨as,h1,h2⟩:=ih (by omega)
    obtain⟨⟨k,x⟩,hk⟩:∃p,kvs[n]? = some p:=⟨kvs[n],List.getElem?_eq_getElem (by omega)⟩
    obtain⟨a,ha,_⟩:=row n k x hk
    refine⟨as ++ [a],by rw[List.length_append,h1];rfl,?_⟩
    have ha':acc.toList[n]? = some (Value.ref a):=by simpa using ha
    rw[List.take_add_one,ha',h2,List.map_append];rfl
  obtain⟨as,h1,h2⟩:=key kvs.length (Nat.le_refl _)
  refine⟨as,h1,?_⟩
  rwa [List.take_of_length_le (by rw[Array.length_toList,hI.1];omega)]at h2
 show wpAny _ A (load s.heap.objs.size >>= _) _ _ _;refine wpAny_bind (wpAny_load hS ?_)
 show wpAny _ _ (pure acc.toList) Q E _
 rw[has]
 refine wpAny_pure (h as h' tk hl (λi k x hk => ?_) λb o e=>kp b o (Nat.ne_of_lt (Heap.lt_size e)) (Heap.get?_push_of_some _ e))
 obtain⟨a,ha,e⟩:=row i k x hk
 refine⟨a,?_,e⟩
 have ha':acc.toList[i]? = some (Value.ref a):=by simpa using ha
 rw[has,List.getElem?_map]at ha'
 cases q2:as[i]? with
 | none=>rw[q2]at ha';cases ha'
 | some b=>rw[q2]at ha';injection ha' with ha';injection ha' with ha';rw[ha']
theorem zhr:∀as:List Addr,Vals (as.map V.ref) (as.map Value.ref)
 | [] => .nil
 | _ :: as => .cons rfl (zhr as)
theorem zh5{pins:List (Addr×Obj)}{σ : St}{H:Hp}{s:Shared}{q d:Addr}{oq:Obj}{kvs:List (List Key×V)}{sp:V->Hp->VK->Prop}{Q:VK}{kw:List (Str×Value)}(hu:X.A.units + 8 < cLine)(hh:X.A.handled=none)(ha1:argsOk "sorted" ⟨[.ref d],kw⟩)(ha2:∀x,argsOk "list.sort" ⟨[.ref x],kw⟩)
  (ht:∀x,Builtin.«list.sort» ⟨[.ref x],kw⟩=ksk_tree x (.ref q) false) (B:BRunA X X.A.in1.in1 σ pins q oq sp) (I:Inv X ((q,oq) :: pins) σ H s) (hd:Rd H d (.dT kvs))
  (h:∀as:List Addr,as.length=kvs.length->(∀(i:Nat) k x,kvs[i]? = some (k,x)->∃a,as[i]? = some a/\H a=some (.tup (k.map kV)))->skGo sp (as.map V.ref) [] H (skEndN X.K (as.map V.ref) λout H'=>∀D,H' D=none->Q (.ref D) (upd H' D (.lst out)))):wpAny (model X.prog X.w) X.A (call (.builtin "sorted") [.ref d] kw) (EP X pins σ Q) X.xe s:=by
 refine call_function_entry_kw kind_sorted plain_sorted entry_sorted ha1 ?_
 unfold Builtin.«sorted»
 refine wpAny_bind (m:=checkCount "sorted" 1 1 _) (wpAny_pure ?_)
 have zl:=(zeq I.hok hd).1
 refine wpAny_bind (zgy I hh hd λas h' tk la hi kp => ?_)
 have hz':(as.map Value.ref).length<=sizeLine:=by rw[List.length_map,la];exact zl
 have I1:Inv X ((q,oq) :: pins) σ H { s with heap:=h',toks:=tk }:=I.kept (t':=tk) kp
 refine wpAny_bind (wpAny_newList ?_ hz')
 have I2:=I1.pinNew (t':=tk) (ob:=seqObj "list" (as.map Value.ref).toArray 0) rfl (by intro v z;cases z)
 have I0:Inv X pins σ H { s with heap:=h',toks:=tk }:=I1.pins_of λp hp=>I1.pin p (List.mem_append_right _ (.tail _ hp))
 have fD:FpOk X pins H h'.objs.size:=I0.fpOk (Nat.le_refl _) (I0.hok.fresh (Nat.le_refl _))
 have hqD:q≠h'.objs.size:=Nat.ne_of_lt (Heap.lt_size (I1.pin (q,oq) (List.mem_append_right _ (.head _))).1)
 have nD:=I2.pin (h'.objs.size,seqObj "list" (as.map Value.ref).toArray 0) (List.mem_append_right _ (.head _))
 refine wpAny_bind (wpAny_holding (wpAny_call_entry_kw PyProof.Rows.slot_list_sort ⟨_,nD.1,rfl⟩ PyProof.Rows.entry_list_sort ?body (ha2 _)))
 case body=>
  rw[ht]
  refine wpAny_mono (zki (by show X.A.units + 1 + 1 + 4 < cLine;omega) B hqD fD (zhr as) hz' I2 (h as la hi)) (λfin s' hq => ?_) λ_ _ x=>x
  obtain⟨rfl,out,outv,n',H',v',lz,I',hG⟩:=hq
  refine⟨_,rfl,wpAny_pure ⟨_,rfl,?_⟩⟩
  have I3:Inv X ((h'.objs.size,seqObj "list" outv.toArray n') :: pins) σ H' s':=I'.pins_of λp hp=>I'.pin p (List.mem_append_right _ (by
   rcases List.mem_cons.mp hp with rfl | hp
   ·exact .head _
   ·exact .tail _ (.tail _ hp)))
  have nD':=I3.pin (h'.objs.size,seqObj "list" outv.toArray n') (List.mem_append_right _ (.head _))
  exact⟨.ref _,_,I3.unpin fD v' lz,rfl,hG _ nD'.2.1⟩
end
def tSortD(K:W.Frag)(P:Addr)(lp:Pos)(i:Nat)(tb:TE)(te:TE):TE:=λσ H Q=>te σ H λv H1=>∃(d:Addr) (kvs:List (List Key×V)) (yv:V),v = .ref d/\H1 d=some (.dT kvs)/\σ[i]? = some (some yv)/\H1 P=some (.tbl #[]) /\
 ∀c' (as:List Addr),H1 c'=none->c'≠P->as.length=kvs.length->(∀(i:Nat) k x,kvs[i]? = some (k,x)->∃a,as[i]? = some a/\(upd H1 P (.tbl #[rawInt lp.line,rawInt lp.col,.ref c'])) a=some (.tup (k.map kV))) ->
  skGo (λx H Q=>tb [some x,some yv] H Q) (as.map V.ref) [] (upd H1 P (.tbl #[rawInt lp.line,rawInt lp.col,.ref c'])) (skEndN K (as.map V.ref) λout H'=>∀D,H' D=none->Q (.ref D) (upd H' D (.lst out)))
theorem closure0{scope:Scope}{env:Env}{x y:Str}{c:Addr}(hs:scope.names=[(x,.local),(y,.free)])(h:env.cells.lookup y=some c):closureFor scope env=pure [(y,c)]:=by
 unfold closureFor
 rw[hs]
 simp[cellOf,h]
section
variable{X:Cx}{j i:Nat}{p pos kpos lp:Pos}{e body:Expr}{te tb:TE}{P cc:Addr}{params:Arguments}{scope:Scope}{x y:Str}
theorem zmn(he:PE X e te)(hr:Room j X.A)(hm:X.mg ("sorted" : Str)=none)(hcode:X.env.code = .ref cc)(C:W.CodeHd X.base cc P)(hB:X.base.BuiltinsAt X.mg P)
  (hsc:scope.names=[(x,.local),(y,.free)]) (hxy:x≠y) (hk:scope.kind = .function) (hco:scope.isCoroutine=false) (hgen:scope.isGenerator=false) (hdef:defaultsOf params X.env=([],[]))
  (hb:∀qual c pm cv ctv u,bindArgs (W.kla_fn "<lambda>" qual params body scope [(y,c)] pm cv ctv) ⟨[u],[]⟩=pure [(x,u)])
  (hN:X.N[i]? = some y) (hy:X.env.scope.names.lookup y=some .cell)
  (PEb:∀(q c' c:Addr) (s:Shared) (H:Hp),PE (lamCx X [x,y] (X.env.qual ++ "<lambda>") scope q c' [(y,c)] X.A.in1.in1 s H) body tb)
  (hk2:1 + 1<=j:=by decide) (hgl:Gl X "sorted":=by rfl) (hs:starEach [e] X.env=(false,eval e X.env) :: starEach [] X.env:=by rfl) :
  PE X (.Call (.Name "sorted" p) [e] [⟨some "key",.Lambda params body scope lp,kpos⟩] pos) (tSortD X.K P lp i tb te):=by
 intro pins s σ H Q I h
 refine wpAny_Call_Name_kw (zdv I hgl hm boot_sorted ?_)
 have h':tCons te tNil σ H (λvs H1=>match vs with
   | [v]=>∃(d:Addr) (kvs:List (List Key×V)) (yv:V),v = .ref d/\H1 d=some (.dT kvs)/\σ[i]? = some (some yv)/\H1 P=some (.tbl #[]) /\
     ∀c' (as:List Addr),H1 c'=none->c'≠P->as.length=kvs.length->(∀(i:Nat) k x,kvs[i]? = some (k,x)->∃a,as[i]? = some a/\(upd H1 P (.tbl #[rawInt lp.line,rawInt lp.col,.ref c'])) a=some (.tup (k.map kV))) ->
      skGo (λx H Q=>tb [some x,some yv] H Q) (as.map V.ref) [] (upd H1 P (.tbl #[rawInt lp.line,rawInt lp.col,.ref c'])) (skEndN X.K (as.map V.ref) λout H'=>∀D,H' D=none->Q (.ref D) (upd H' D (.lst out)))
   | _=>False):=h
 refine callWith_kw (thn ((zaa he zae hs) pos pins s σ H _ I h') λus s1 ⟨vs,H1,I1,r1,q1⟩ => ?_) (by rw[hs];rfl) (by rw[hs];rfl)
 cases r1 with
 | nil=>exact False.elim q1
 | cons ru rr=>
  cases rr with
  | cons _ _=>exact False.elim q1
  | nil=>
   obtain⟨d,kvs,yv,ev,eh,hσ,hT,hmx⟩:=q1
   subst ev
   cases ru
   obtain⟨m,hns,hloc⟩:=I1.loc
   obtain⟨uy,ry,hlook⟩:=hloc i y yv hN hσ (.inr (.inl hy))
   have hlk:∃c,X.env.cells.lookup y=some c/\s1.heap.IsCell c (some uy):=by
    rcases hlook with⟨z,_⟩ | ⟨_,z⟩
    ·have z':X.env.scope.names.lookup y=some .local:=z
     rw[hy]at z';cases z'
    ·exact z
   obtain⟨c,hcy,_⟩:=hlk
   have nyx:(y == x)=false:=by simpa using λz:y=x=>hxy z.symm
   have lx:scope.names.lookup x=some .local:=by rw[hsc,List.lookup_cons];simp
   have ly:scope.names.lookup y=some .free:=by rw[hsc,List.lookup_cons,nyx,List.lookup_cons];simp
   have lo:∀z,(scope.names.lookup z=some .cell\/scope.names.lookup z=some .free)->z=y:=λz hz=>by
    by_cases e:z=y
    ·exact e
    ·exfalso
     have zy:(z == y)=false:=by simpa using e
     rw[hsc,List.lookup_cons,List.lookup_cons,zy]at hz
     cases hzx:z == x <;> simp[hzx]at hz
   refine kwAll_cons (zmp I1 hcode C hT hB (closure0 hsc hcy) hdef λq c' oc vs tq ctv s' hd hv hcn hcP I2 => ?_)
   refine kwAll_nil ?_
   refine thn (zh5 (by have:=hr.units;omega) hr.hd (ksk_s1 _ _) (λx=>ksk_l1 _ _) (λx=>ksk_t1 _ x) (sp:=λx H Q=>tb [some x,some yv] H Q) ?_ I2 (.inl (by rw[zal (zbk eh hT (by intro z;cases z))];exact eh)) λas la hi=>hmx c' as hcn hcP la hi) λu s5 ⟨v,H5,I5,r5,q5⟩=>⟨v,H5,I5.pins_of λp hp=>I5.pin p (List.mem_append_right _ (.tail _ hp)),r5,q5⟩
   intro pins4 s4 H4 Q4 x4 u4 I4 hin rx4 h4
   obtain⟨m4,hns4,hloc4⟩:=I4.loc
   obtain⟨uy4,ry4,hlook4⟩:=hloc4 i y yv hN hσ (.inr (.inl hy))
   have hlk4:∃c,X.env.cells.lookup y=some c/\s4.heap.IsCell c (some uy4):=by
    rcases hlook4 with⟨z,_⟩ | ⟨_,z⟩
    ·have z':X.env.scope.names.lookup y=some .local:=z
     rw[hy]at z';cases z'
    ·exact z
   obtain⟨c4,hcy4,hcc4⟩:=hlk4
   rw[hcy]at hcy4;cases hcy4
   have hfr:X.A.in1.in1.frames=some X.stack:=I4.ok.frames
   refine zos (x:=x) (y:=y) I4 (hin _ (.head _)) (hin _ (.tail _ (.head _))) hd hv hfr hr.hd ?_ hk hco hgen ?_ lx ly lo (hb _ _ _ _ _) hcy hcc4 ry4 rx4 (PEb _ _ _ _ _) h4
   ·exact(Room.in1 (k:=0) (Room.in1 (k:=1) (hr.mono hk2))).depth
   ·intro z hz
    rw[hsc]at hz
    simp at hz
    rcases hz with rfl | rfl <;> simp
end
def FzK(H:Hp)(d:Addr)(o:Obj)(kvs:List (Key×V)):Prop:=H d=some (.frz o (.dK kvs))
def ItKK(d:Addr)(o:Obj)(kvs:List (Key×V)):It:=
 ⟨λi H=>FzK H d o kvs/\i < kvs.length,λi H x H'=>H'=H/\∃k v,kvs[i]? = some (k,v)/\x=kV k,λi H=>FzK H d o kvs/\kvs.length<=i⟩
theorem znc{prog:Program}{w:World}{K:Type}[DecidableEq K]{knd:PySem.KeyKind prog w K}{es:List DictEntry}{kvs:List (K×Value)}(h:Pairs knd es kvs):∀(i:Nat) (kv:K×Value),kvs[i]? = some kv->∃e,es[i]? = some e/\knd.is kv.1 e.key=true:=by
 induction h with
 | nil=>intro i kv z;simp at z
 | cons h1 h2 _ ih=>
  intro i kv z
  cases i with
  | zero=>simp at z;subst z;exact⟨_,rfl,h1⟩
  | succ i=>simp at z;simpa using ih i kv z
section
variable{X:Cx}{pins:List (Addr×Obj)}{σ : St}{H:Hp}{s:Shared}{d:Addr}{o:Obj}{kvs:List (Key×V)}{es:Array DictEntry}{ep:Nat}
theorem Inv.freezeK(I:Inv X pins σ H s)(e:H d=some (.dK kvs))(ho:s.heap.get? d=some o):Inv X pins σ (upd H d (.frz o (.dK kvs))) s:=
 I.swap e (by intro _ z;cases z) (by intro _ z;cases z) (by intro _ z;cases z) (by intro _ _ z;cases z) λx H' t w=>⟨ho,x.stay (λ_ _ _ z=>z) (λb z=>w b d z) t⟩
theorem Inv.entriesK(I:Inv X pins σ H s)(e:Rd H d (.dK kvs)):∃(o:Obj) (es:Array DictEntry) (ep:Nat),s.heap.get? d=some o/\o.cls = .type "dict"/\(d == sysModules)=false/\o.data = .dict es ep/\es.size=kvs.length /\
  ∀(i:Nat) (k:Key) (v:V),kvs[i]? = some (k,v)->∃e:DictEntry,es[i]? = some e/\RelV (kV k) e.key:=by
 obtain⟨z,hd,vs,rel,o,es,ep,h1,h2,h3,h4,h5,h6⟩:=zm1 I.hok e
 have le:es.size=kvs.length:=by have:=h5.length;rw[Array.length_toList]at this;rw[this,<- Paired.length rel]
 refine⟨o,es,ep,h1,h2.1,hd,h3,le,λi k v hx => ?_⟩
 obtain⟨⟨k',u⟩,q1,q2,q3⟩:=Paired.at' rel hx
 obtain⟨en,e1,e2⟩:=znc h5 i _ q1
 refine⟨en,by simpa using e1,?_⟩
 have q2:k=k':=q2
 subst q2
 rcases zba e2 with⟨i,t,z1,z2⟩ | ⟨x,t,z1,z2⟩
 ·have z1:k = .inl i:=z1
  subst z1;rw[z2];exact⟨t,rfl⟩
 ·have z1:k = .inr x:=z1
  subst z1;rw[z2];exact⟨t,rfl⟩
end
theorem zjy{P:Program}{w:World}{K:W.Frag}{tg:Expr}{d it:Addr}{o:Obj}{kvs:List (Key×V)}{es:Array DictEntry}{ep:Nat}(hdd:o.data = .dict es ep) :
  Turn P w K tg (ItKK d o kvs) [it] it (λi h=>h.IsKeyIter it d i kvs.length ep) where
 mem:=by simp
 obj:=λi h st b hb=>by
  have e:b=it:=by simpa using hb
  subst e
  obtain⟨q,e,c,z⟩:=st
  exact⟨q,e,λv y=>by rw[z]at y;cases y⟩
 keep:=λi h h' st k=>st.at λq e=>k it (by simp) q e
 item:=by
  intro X hP hw hK hc i pins s σ H E I hf st hg
  subst hP hw hK
  obtain⟨fz,lt⟩:=hg
  obtain⟨o',es',ep',hd,_,_,hdd',hz,he⟩:=I.entriesK (.inr ⟨o,fz⟩)
  have eo:o'=o:=Option.some.inj (hd.symm.trans (I.hok d _ fz).1)
  subst eo
  rw[hdd]at hdd';cases hdd'
  obtain⟨⟨k,v⟩,hx⟩:∃p,kvs[i]? = some p:=⟨kvs[i],by simp[lt]⟩
  obtain⟨e,ee,ek⟩:=he i k v hx
  obtain⟨f0,f1,f2,f3,f4,f5⟩:=hf it (by simp)
  refine zjg st hd hdd hz ee λh' st' sb => ?_
  have I1:Inv X pins σ H { s with heap:=h' }:=I.turned (t':=s.toks) (λc q hb z=>(sb.2 c hb).trans z) f0 f1 f3 f4 f5
  obtain⟨q,e',c,z⟩:=id st'
  exact⟨e.key,rfl,znd (s:={ s with heap:=h' }) e' c z (by decide) ⟨kV k,H,I1,ek,⟨rfl,k,v,hx,rfl⟩,st',λc hc'=>(hf c hc').1⟩⟩
 done:=by
  intro X hP hw hK hc i pins s σ H E I hf st hg
  subst hP hw hK
  obtain⟨fz,ge⟩:=hg
  obtain⟨o',es',ep',hd,_,_,hdd',hz,he⟩:=I.entriesK (.inr ⟨o,fz⟩)
  have eo:o'=o:=Option.some.inj (hd.symm.trans (I.hok d _ fz).1)
  subst eo
  rw[hdd]at hdd';cases hdd'
  obtain⟨f0,f1,f2,f3,f4,f5⟩:=hf it (by simp)
  exact zlm (I.ok.hd hc) st hd hdd hz ge λh' eb=>⟨rfl,I.turned (t':=s.toks) (λb q hb e=>eb b q hb e) f0 f1 f3 f4 f5⟩
 self:=λ_ _ _ _ _ st h=>wpAny_pyIter_keyiter st h
def iDictKK(td:TE):TI:=λσ H R=>td σ H λx H1=>∃d kvs,x = .ref d/\Rd H1 d (.dK kvs)/\∀o,(∀o',H1 d=some (.frz o' (.dK kvs))->o'=o)->R (ItKK d o kvs) (upd H1 d (.frz o (.dK kvs)))
theorem ze5{X:Cx}{tg:Expr}{l:Expr}{tl:TE}(hl:PE X l tl):PI X tg l (iDictKK tl):=by
 intro pins s σ H R I h
 refine thn (hl pins s σ H _ I h) λv s1 ⟨x,H1,I1,r1,d,kvs,ex,e,q⟩ => ?_
 subst ex
 cases r1
 obtain⟨o,es,ep,ho,hc,hs,hdd,hz,_⟩:=I1.entriesK e
 have one:∀o',H1 d=some (.frz o' (.dK kvs))->o'=o:=λo' z=>Option.some.inj (((I1.hok d _ z).1).symm.trans ho)
 have I2:Inv X pins σ (upd H1 d (.frz o (.dK kvs))) s1:=by
  rcases e with e | ⟨o',e⟩
  ·exact I1.freezeK e ho
  ·rw[one o' e]at e
   have:upd H1 d (.frz o (.dK kvs))=H1:=by
    funext b;unfold upd;split
    ·rename_i z;rw[z,e]
    ·rfl
   rw[this];exact I1
 refine zho hs ⟨o,ho,hc⟩ ho hdd ⟨s1.heap.objs.size,[s1.heap.objs.size],_,_,_,rfl,I2.kept (t':=s1.toks) λb q z=>Heap.get?_push_of_some _ z,zjy hdd,⟨_,Heap.get?_push_size _ rfl,rfl,by rw[hz];rfl⟩,λb hb => ?_,q o one⟩
 have eb:b=s1.heap.objs.size:=by simpa using hb
 subst eb
 exact I2.fpOk (Nat.le_refl _) (I2.hok.fresh (Nat.le_refl _))
theorem ze9{d:Addr}{o:Obj}{kvs:List (Key×V)}{g:TG}{tb:TS}{D:Ends}{σ : St}{H:Hp}(Pv:Nat->St->Hp->Prop)(h0:Pv 0 σ H)(hl:∀i σ H,Pv i σ H->FzK H d o kvs)
  (hs:∀i k v σ H,kvs[i]? = some (k,v)->Pv i σ H->g (kV k) σ H λσ2 H2=>tb { D with nx:=Pv (i + 1),ct:=Pv (i + 1),bk:=D.nx } σ2 H2) (hd:∀σ H,Pv kvs.length σ H->D.nx σ H) :
  ∃W:Nat->Nat->St->Hp->Prop,(∃m,W 0 m σ H)/\∀i m σ H,W i m σ H ->
   ((ItKK d o kvs).stop i H/\D.nx σ H)\/((ItKK d o kvs).go i H/\∃N:St->Hp->Prop,(∀σ' H',N σ' H'->∃m',m' < m/\W (i + 1) m' σ' H')/\∀x H',(ItKK d o kvs).yld i H x H'->g x σ H' λσ2 H2=>tb { D with nx:=N,ct:=N,bk:=D.nx } σ2 H2):=by
 refine⟨λi m σ H=>m=kvs.length - i/\i<=kvs.length/\Pv i σ H,⟨kvs.length,by simp,Nat.zero_le _,h0⟩,?_⟩
 rintro i m σ H ⟨rfl,hi,p⟩
 have q:=hl i σ H p
 by_cases hlt:i < kvs.length
 ·refine .inr ⟨⟨q,hlt⟩,Pv (i + 1),λσ' H' p'=>⟨kvs.length - (i + 1),by omega,rfl,hlt,p'⟩,λx H' y => ?_⟩
  obtain⟨rfl,k,v,hk,rfl⟩:=y
  exact hs i k v σ H' hk p
 ·have z:i=kvs.length:=by omega
  subst z
  exact .inl ⟨⟨q,Nat.le_refl _⟩,hd σ H p⟩
end L2
namespace K1
def gI(a b:Int):Int:=((Int.gcd a b:Nat):Int)
structure Gc(a0 b0 a b:Int):Prop where
 is:gI a b=gI a0 b0
end K1
namespace K1
/-- by what top and bottom are divided,with the bottom's sign -/
def dv(t b:Int):Int:=if b < 0 then -(gI t b) else gI t b
def fT(t b:Int):Int:=t.fdiv (dv t b)
def fB(t b:Int):Int:=b.fdiv (dv t b)
end K1
namespace K1
def ab(a:Int):Int:=if a < 0 then -a else a
end K1
namespace K3
structure NoDiv(n d:Int):Prop where
 is:∀e:Int,2<=e->e < d->Int.fmod n e≠0
def Pr(n:Int):Prop:=2<=n/\∀e:Int,2<=e->e * e<=n->Int.fmod n e≠0
noncomputable def isP(n:Int):Bool := @decide (Pr n) (Classical.propDecidable _)
theorem zqa{n:Int}(h:Pr n):isP n=true := @decide_eq_true _ (Classical.propDecidable _) h
theorem zqe{n:Int}(h:¬Pr n):isP n=false := @decide_eq_false _ (Classical.propDecidable _) h
theorem small{d n:Int}(_h2:2<=d)(h:d * d<=n)(hn:n<=9973):d<=99:=by
 rcases(by omega:d<=99\/100<=d) with e | e
 ·exact e
 ·have:=Int.mul_le_mul e e (by decide) (by omega)
  omega
theorem start(n:Int):(2:Int)<=2/\(2:Int)<=101/\NoDiv n 2:=⟨by decide,by decide,⟨λe h1 h2=>by omega⟩⟩
theorem turn{n d:Int}(h:NoDiv n d)(hm:¬Int.fmod n d=0)(h2:2<=d)(hq:d * d<=n)(hn:n<=9973):2<=d + 1/\d + 1<=101/\NoDiv n (d + 1):=by
 have s:=small h2 hq hn
 refine⟨by omega,by omega,⟨λe h1 h3 => ?_⟩⟩
 rcases(by omega:e < d\/e=d) with q | q
 ·exact h.is e h1 q
 ·rw[q];exact hm
theorem less{n d:Int}(h2:2<=d)(hq:d * d<=n)(hn:n<=9973):(200 - (d + 1)).toNat < (200 - d).toNat:=by
 have s:=small h2 hq hn
 omega
theorem low{n:Int}(h:n < 2):false=isP n:=by
 exact(zqe λh'=>by have:=h'.1;omega).symm
theorem out{n d:Int}(h:NoDiv n d)(hn:2<=n)(h2:2<=d)(hq:¬d * d<=n):true=isP n:=by
 refine(zqa ?_).symm
 refine⟨hn,λe h1 h3=>h.is e h1 ?_⟩
 rcases(by omega:e < d\/d<=e) with q | q
 ·exact q
 ·have:=Int.mul_le_mul q q (by omega) (by omega)
  omega
theorem found{n d:Int}(h2:2<=d)(hq:d * d<=n)(hm:Int.fmod n d=0):false=isP n:=by
 exact(zqe λh'=>h'.2 d h2 hq hm).symm
end K3
namespace K2
/-- the next prime -/
structure Up(n0 n:Int):Prop where
 le:n<=9973
/-- the number turned over: the loop's word -/
structure Tn(p a found left:Int):Prop where
 f0:0<=found
 f1:found < p
 l0:1<=left
 l1:left < p
 eq:(found * a - left) % p=0
end K2
namespace K2
end K2
namespace K6
open HT (lexLt)
/-! ### the order of tuples -/
theorem ze4:∀x:List Int,lexLt x x=false
 | []=>rfl
 | a :: x=>by rw[HT.lexLt_cons,if_pos rfl];exact ze4 x
theorem zjm:∀{x y z:List Int},lexLt x y=true->lexLt y z=true->lexLt x z=true
 | [],[],_,h,_=>by cases h
 | [],_ :: _,[],_,h=>by cases h
 | [],_ :: _,_ :: _,_,_=>rfl
 | _ :: _,[],_,h,_=>by cases h
 | _ :: _,_ :: _,[],_,h=>by cases h
 | a :: x,b :: y,c :: z,h1,h2=>by
  rw[HT.lexLt_cons]at h1 h2 ⊢
  by_cases e1:a=b
  ·rw[if_pos e1]at h1
   by_cases e2:b=c
   ·rw[if_pos e2]at h2
    rw[if_pos (e1.trans e2)]
    exact zjm h1 h2
   ·rw[if_neg e2]at h2
    rw[if_neg (by omega),e1]
    exact h2
  ·rw[if_neg e1]at h1
   have l1:a < b:=of_decide_eq_true h1
   by_cases e2:b=c
   ·rw[if_pos e2]at h2
    rw[if_neg (by omega)]
    exact decide_eq_true (by omega)
   ·rw[if_neg e2]at h2
    have l2:b < c:=of_decide_eq_true h2
    rw[if_neg (by omega)]
    exact decide_eq_true (by omega)
theorem zfc:∀{x y:List Int},x≠y->lexLt x y = !lexLt y x
 | [],[],h=>absurd rfl h
 | [],_ :: _,_=>rfl
 | _ :: _,[],_=>rfl
 | a :: x,b :: y,h=>by
  rw[HT.lexLt_cons,HT.lexLt_cons]
  by_cases e:a=b
  ·rw[if_pos e,if_pos e.symm]
   exact zfc λz=>h (by rw[e,z])
  ·rw[if_neg e,if_neg (Ne.symm e)]
   by_cases l:a < b
   ·rw[decide_eq_true l,decide_eq_false (by omega)];rfl
   ·rw[decide_eq_false l,decide_eq_true (by omega)];rfl
theorem zpn{x y:List Int}(h:lexLt x y=true):lexLt y x=false:=by
 by_cases e:x=y
 ·rw[e,ze4]at h;cases h
 ·have:=zfc e
  rw[h]at this
  cases q:lexLt y x with
  | true=>rw[q]at this;cases this
  | false=>rfl
abbrev vadd(x y:List Int):List Int:=List.zipWith (λa b=>a + b) x y
/-! ### the ranks -/
def rkL(t:List Int):List Int:=t
def rkD(t:List Int):List Int:=t.sum :: t
def rkT(t:List Int):List Int:=t.sum :: t.reverse.map λx => -x
def wsum(ws t:List Int):Int:=(List.zipWith (λa b=>a * b) t ws).sum
def rkW(ws t:List Int):List Int:=wsum ws t :: t
def zer(n:Nat):List Int:=List.replicate n 0
def Nn(t:List Int):Prop:=∀x∈t,0<=x
/-- what the law asks of a rank,for terms of n powers -/
structure OrdM(rk:List Int->List Int)(n:Nat):Prop where
 add:∀a c:List Int,a.length=n->c.length=n->rk (vadd a c)=vadd (rk a) (rk c)
 inj:∀a b:List Int,a.length=n->b.length=n->rk a=rk b->a=b
 len:∀a b:List Int,a.length=n->b.length=n->(rk a).length=(rk b).length
 pos:∀a:List Int,a.length=n->Nn a->a≠zer n->lexLt (rk (zer n)) (rk a)=true
/-! ### unknowns taken out -/
/-- of the first k some is not nought in l,all are nought in r -/
structure Out(k:Nat)(l r:List Int):Prop where
 len:l.length=r.length
 nl:Nn l
 nz:∃i,i < k/\i < l.length/\l.getD i 0≠0
 zr:∀i,i < k->r.getD i 0=0
/-- one power alone -/
def only(n at_:Nat)(p:Int):List Int:=(List.range n).map λi=>if i=at_ then p else 0
end K6
namespace K6
open L2 PySem
/-- what stands in the order of a mapped list is the map of a like list -/
theorem zep{α β : Type}(f : α->β):∀{l m:List β},l.Perm m->∀m':List α,m=m'.map f->∃l':List α,l'.Perm m'/\l=l'.map f:=by
 intro l m h
 induction h with
 | nil=>intro m' e;exact⟨[],(by cases m' with | nil=>exact .nil | cons=>simp at e),rfl⟩
 | cons x _ ih=>
  intro m' e
  cases m' with
  | nil=>simp at e
  | cons y m'=>
   rw[List.map_cons]at e
   injection e with e1 e2
   obtain⟨l',p,q⟩:=ih m' e2
   exact⟨y :: l',p.cons y,by rw[q,e1];rfl⟩
 | swap x y l=>
  intro m' e
  cases m' with
  | nil=>simp at e
  | cons a m'=>
   cases m' with
   | nil=>simp at e
   | cons b m'=>
    simp only[List.map_cons]at e
    injection e with e1 e2
    injection e2 with e2 e3
    exact⟨b :: a :: m',List.Perm.swap a b m',by rw[e1,e2,e3];rfl⟩
 | trans _ _ ih1 ih2=>
  intro m' e
  obtain⟨l2,p2,q2⟩:=ih2 m' e
  obtain⟨l1,p1,q1⟩:=ih1 l2 q2
  exact⟨l1,p1.trans p2,q1⟩
/-- falling lists of the same things are one -/
theorem fall_one{l m:List (List Int)}(p:l.Perm m)(h1:l.Pairwise λa b=>HT.lexLt a b=false)(h2:m.Pairwise λa b=>HT.lexLt a b=false):l=m:=by
 refine List.Perm.eq_of_pairwise (le:=λa b=>HT.lexLt a b=false) (λa b _ _ x y => ?_) h1 h2 p
 exact Classical.byContradiction λne=>by
  have:=zfc ne
  rw[x,y]at this
  cases this
theorem zhd{α β γ : Type}(f : α->γ):∀(xs:List α) (ys:List β),(xs.map f).zip ys=(xs.zip ys).map λp=>(f p.1,p.2)
 | [],_=>by simp
 | _ :: _,[]=>by simp
 | x :: xs,y :: ys=>by simp[zhd f xs ys]
/-- a term at v -/
def Trm(H:Hp)(xs:List Int)(v:V):Prop:=∃r,v = .ref r/\H r=some (.tup (xs.map V.int))
theorem Trm.same{H H':Hp}{xs:List Int}{v:V}(e:Same H H')(h:Trm H xs v):Trm H' xs v:=let ⟨r,a,b⟩:=h;⟨r,a,e _ _ b⟩
theorem pimp{α : Type}{R S : α->V->Prop}(h:∀a v,R a v->S a v):∀{l:List α} {ys:List V},Paired R l ys->Paired S l ys
 | _,_,.nil => .nil
 | _,_,.cons r t => .cons (h _ _ r) (pimp h t)
theorem psnoc{α : Type}{R : α->V->Prop}{a : α}{v:V}(r:R a v):∀{l:List α} {ys:List V},Paired R l ys->Paired R (l ++ [a]) (ys ++ [v])
 | _,_,.nil => .cons r .nil
 | _,_,.cons q t => .cons q (psnoc r t)
/-- of n powers -/
structure Tm(n:Nat)(xs:List Int):Prop where
 len:xs.length=n
 nn:Nn xs
 b:∀x∈xs,x < 10 ^ 31
end K6
namespace K6
open L2 PySem
/-- a term as a key -/
def ky(xs:List Int):List Key:=xs.map Sum.inl
theorem zf8(xs:List Int):(ky xs).map kV=xs.map V.int:=by unfold ky;rw[List.map_map];rfl
/-- a number of a field,as data -/
structure NmD(d:PyData):Prop where
 lay:d.canLay0=true
 dep:d.depth<=60
theorem NmD.refl{d:PyData}(h:NmD d):PyData.eqv d d=true:=SeqAt.eqv_refl _ h.lay
theorem zku(i:Int):NmD (.int i):=⟨rfl,by simp[PyData.depth]⟩
theorem zir(i j:Int):NmD (.tuple [.int i,.int j]):=⟨rfl,by simp[PyData.depth,PyData.depthAll]⟩
mutual
theorem Rds.same{K:W.Frag}{H H':Hp}(e:Same H H'):∀{v:V} {d:PyData},Rds K H v d->Rds K H' v d
 | _,_,.non => .non
 | _,_,.bl b => .bl b
 | _,_,.int i => .int i
 | _,_,.str x => .str x
 | _,_,.tup h hs => .tup (e.seqT h) (RdsAll.same e hs)
 | _,_,.lst h hs => .lst (e.seq h) (RdsAll.same e hs)
theorem RdsAll.same{K:W.Frag}{H H':Hp}(e:Same H H'):∀{vs:List V} {ds:List PyData},RdsAll K H vs ds->RdsAll K H' vs ds
 | _,_,.nil => .nil
 | _,_,.cons h hs => .cons (Rds.same e h) (RdsAll.same e hs)
end
theorem znq{K:W.Frag}{H:Hp}{d a:Addr}{kvs:List (List Key×V)}{o:HO}{xs:List V}(e:H d=some (.dT kvs))(h:SqT K H a xs):SqT K (upd H d o) a xs:=by
 rcases h with(h | ⟨q,h⟩) | h
 ·exact .inl (.inl (by rw[zal (zbk h e (by intro z;cases z))];exact h))
 ·exact .inl (.inr ⟨q,by rw[zal (zbk h e (by intro z;cases z))];exact h⟩)
 ·exact .inr h
theorem zmr{K:W.Frag}{H:Hp}{d a:Addr}{kvs:List (List Key×V)}{o:HO}{xs:List V}(e:H d=some (.dT kvs))(h:SqL K H a xs):SqL K (upd H d o) a xs:=by
 rcases h with(h | ⟨q,h⟩) | h
 ·exact .inl (.inl (by rw[zal (zbk h e (by intro z;cases z))];exact h))
 ·exact .inl (.inr ⟨q,by rw[zal (zbk h e (by intro z;cases z))];exact h⟩)
 ·exact .inr h
mutual
theorem Rds.updD{K:W.Frag}{H:Hp}{d:Addr}{kvs:List (List Key×V)}{o:HO}(e:H d=some (.dT kvs)):∀{v:V} {z:PyData},Rds K H v z->Rds K (upd H d o) v z
 | _,_,.non => .non
 | _,_,.bl b => .bl b
 | _,_,.int i => .int i
 | _,_,.str x => .str x
 | _,_,.tup h hs => .tup (znq e h) (RdsAll.updD e hs)
 | _,_,.lst h hs => .lst (zmr e h) (RdsAll.updD e hs)
theorem RdsAll.updD{K:W.Frag}{H:Hp}{d:Addr}{kvs:List (List Key×V)}{o:HO}(e:H d=some (.dT kvs)):∀{vs:List V} {ds:List PyData},RdsAll K H vs ds->RdsAll K (upd H d o) vs ds
 | _,_,.nil => .nil
 | _,_,.cons h hs => .cons (Rds.updD e h) (RdsAll.updD e hs)
end
theorem zmd{K:W.Frag}{H:Hp}{r:Addr}{i j:Int}(h:H r=some (.tup [.int i,.int j])):Rds K H (.ref r) (.tuple [.int i,.int j]) := .tup (SqT.of h) (.cons (.int i) (.cons (.int j) .nil))
end K6
namespace K37
open L2 PySem
/-! terms that go into others,the corner -/
def goesI(xs ys:List Int):Bool:=(List.range xs.length).all λi=>decide (xs.getD i 0<=ys.getD i 0)
def outT(hs:List (List Int))(t:List Int):Bool := !(hs.any λh=>goesI h t)
def aloneAt(h:List Int)(i:Nat):Bool:=decide (h.sum=h.getD i 0)
/-- a term of m powers -/
structure T0(m:Nat)(t:List Int):Prop where
 len:t.length=m
 nn:∀i,0<=t.getD i 0
theorem T0.mem{m:Nat}{t:List Int}(h:T0 m t):∀x∈t,0<=x:=λx hx=>by
 obtain⟨j,hj,rfl⟩:=List.mem_iff_getElem.mp hx
 have:=h.nn j
 simpa[List.getD,hj]using this
theorem T0.of{m:Nat}{t:List Int}(hl:t.length=m)(h:∀x∈t,0<=x):T0 m t:=⟨hl,λi=>by
 rcases Nat.lt_or_ge i t.length with c | c
 ·have:=h t[i] (List.getElem_mem c);simpa[List.getD,c]using this
 ·simp[List.getD,List.getElem?_eq_none c]⟩
def up1(t:List Int)(i:Nat):List Int:=(List.range t.length).map λj=>if j=i then t.getD j 0 + 1 else t.getD j 0
def dn1(t:List Int)(i:Nat):List Int:=(List.range t.length).map λj=>if j=i then t.getD j 0 - 1 else t.getD j 0
/-- the terms of degree n that no head goes into -/
structure Lev(m:Nat)(hs:List (List Int))(n:Nat)(l:List (List Int)):Prop where
 nd:l.Nodup
 mem:∀t,t∈l↔T0 m t/\t.sum=n/\outT hs t=true
structure Fnd(m:Nat)(hs:List (List Int))(n:Nat)(l:List (List Int)):Prop where
 nd:l.Nodup
 mem:∀t,t∈l↔T0 m t/\t.sum < n/\outT hs t=true
end K37
namespace K37
open L2 PySem
/-! the terms below the powers that stand alone -/
def leastAt(hs:List (List Int))(i:Nat):List Int:=(hs.filter λh=>aloneAt h i).map λh=>h.getD i 0
def lw:List Int->Int
 | []=>0
 | x :: xs=>xs.foldl min x
def boxL(bs:List Int):List (List Int):=bs.foldl (λacc b=>acc.flatMap λt=>(List.range b.toNat).map fun(a:Nat)=>t ++ [(a:Int)]) [[]]
theorem zlf(bs:List Int)(b:Int):boxL (bs ++ [b])=(boxL bs).flatMap λt=>(List.range b.toNat).map fun(a:Nat)=>t ++ [(a:Int)]:=by
 unfold boxL
 rw[List.foldl_append];rfl
theorem zms{α : Type}{P:List α->Prop}(h0:P [])(hs:∀l a,P l->P (l ++ [a]))(l:List α):P l:=by
 have:∀n (l:List α),l.length=n->P l:=λn=>by
  induction n with
  | zero=>intro l hl;rw[List.length_eq_zero_iff.mp hl];exact h0
  | succ n ih=>
   intro l hl
   have ne:l≠[]:=λz=>by rw[z]at hl;simp at hl
   rw[<- List.dropLast_concat_getLast ne]
   exact hs _ _ (ih _ (by rw[List.length_dropLast,hl];rfl))
 exact this _ l rfl
theorem zc5{l:List Int}{a:Int}{i:Nat}:(l ++ [a]).getD i 0=if i < l.length then l.getD i 0 else if i=l.length then a else 0:=by
 by_cases c:i < l.length
 ·rw[if_pos c];simp[List.getD,List.getElem?_append_left c]
 ·rw[if_neg c]
  by_cases d:i=l.length
  ·rw[if_pos d];subst d;simp[List.getD]
  ·rw[if_neg d];simp[List.getD,List.getElem?_eq_none,show l.length + 1<=i by omega]
theorem znh(bs:List Int):∀t,t∈boxL bs↔t.length=bs.length/\∀i,i < bs.length->0<=t.getD i 0/\t.getD i 0 < bs.getD i 0:=by
 refine zms (P:=λbs=>∀t,t∈boxL bs↔t.length=bs.length/\∀i,i < bs.length->0<=t.getD i 0/\t.getD i 0 < bs.getD i 0) ?_ ?_ bs
 ·intro t
  show t∈[[]]↔_
  rw[List.mem_singleton]
  constructor
  ·rintro rfl;exact⟨rfl,λi hi=>by simp at hi⟩
  ·rintro⟨h,_⟩;exact List.length_eq_zero_iff.mp h
 ·intro bs b ih t
  rw[zlf,List.mem_flatMap]
  constructor
  ·rintro⟨u,hu,ht⟩
   obtain⟨a,ha,rfl⟩:=List.mem_map.mp ht
   have ha:=List.mem_range.mp ha
   obtain⟨h1,h2⟩:=(ih u).mp hu
   refine⟨by simp[h1],λi hi => ?_⟩
   rw[List.length_append]at hi
   simp only[List.length_singleton]at hi
   rw[zc5,zc5,h1]
   by_cases c:i < bs.length
   ·rw[if_pos c,if_pos c];exact h2 i c
   ·have:i=bs.length:=by omega
    rw[if_neg c,if_neg c,if_pos this,if_pos this];omega
  ·rintro⟨h1,h2⟩
   rw[List.length_append]at h1 h2
   simp only[List.length_singleton]at h1 h2
   have ne:t≠[]:=λz=>by rw[z]at h1;simp at h1
   obtain⟨u,x,rfl⟩:∃u x,t=u ++ [x]:=⟨t.dropLast,t.getLast ne,(List.dropLast_concat_getLast ne).symm⟩
   simp only[List.length_append,List.length_singleton]at h1
   have lu:u.length=bs.length:=by omega
   have hx:=h2 bs.length (by omega)
   rw[zc5,zc5,lu,if_neg (by omega),if_pos rfl,if_neg (by omega),if_pos rfl]at hx
   refine⟨u,(ih u).mpr ⟨lu,λi hi => ?_⟩,List.mem_map.mpr ⟨x.toNat,List.mem_range.mpr (by omega),?_⟩⟩
   ·have:=h2 i (by omega)
    rw[zc5,zc5,lu,if_pos hi,if_pos hi]at this
    exact this
   ·rw[show ((x.toNat:Nat):Int)=x by omega]
theorem zg0{α : Type}[DecidableEq α]:∀{l l':List α},l.Nodup->(∀a∈l,a∈l')->l.length<=l'.length
 | [],_,_,_=>by simp
 | a :: l,l',nd,h=>by
  rw[List.nodup_cons]at nd
  have:=zg0 (l:=l) (l':=l'.erase a) nd.2 λb hb=>by
   have hb':=h b (by simp[hb])
   exact(List.mem_erase_of_ne (λe=>nd.1 (by rw[<- e];exact hb))).mpr hb'
  rw[List.length_erase_of_mem (h a (by simp))]at this
  have:0 < l'.length:=List.length_pos_of_mem (h a (by simp))
  rw[List.length_cons];omega
end K37
namespace K20
open PySem L2 K37
open HT (lexLt)
def mx(i j:Int):Int:=if j > i then j else i
def mn(i j:Int):Int:=if j < i then j else i
def meetT(a b:List Int):List Int:=List.zipWith mx a b
theorem zpj(i j:Int):mx i j=mx j i:=by unfold mx;split <;> split <;> omega
theorem zhf:∀a b:List Int,meetT a b=meetT b a
 | [],[]=>rfl
 | [],_ :: _=>rfl
 | _ :: _,[]=>rfl
 | x :: a,y :: b=>by
  show mx x y :: meetT a b=mx y x :: meetT b a
  rw[zpj,zhf a b]
theorem zet{a b:List Int}(h:a.length=b.length):(meetT a b).length=a.length:=by
 unfold meetT;rw[List.length_zipWith,<- h,Nat.min_self]
theorem zjf{a b:List Int}{P:Int->Prop}:(∀x∈a,P x)->(∀x∈b,P x)->∀x∈meetT a b,P x:=by
 induction a generalizing b with
 | nil=>intro _ _ x hx;simp[meetT]at hx
 | cons u a ih=>
  intro h1 h2 x hx
  cases b with
  | nil=>simp[meetT]at hx
  | cons v b=>
   have hx:x=mx u v\/x∈meetT a b:=by simpa[meetT]using hx
   rcases hx with rfl | hx
   ·unfold mx
    split
    ·exact h2 v (.head _)
    ·exact h1 u (.head _)
   ·exact ih (λy hy=>h1 y (.tail _ hy)) (λy hy=>h2 y (.tail _ hy)) x hx
theorem zib{m:Nat}{a b:List Int}(h1:T0 m a)(h2:T0 m b):T0 m (meetT a b):=T0.of (by rw[zet (by rw[h1.len,h2.len]),h1.len]) (zjf h1.mem h2.mem)
theorem zj0{a b:List Int}(h:a.length=b.length):(List.range a.length).map (λi=>mx (a.getD i 0) (b.getD i 0))=meetT a b:=by
 induction a generalizing b with
 | nil=>rfl
 | cons x a ih=>
  cases b with
  | nil=>simp at h
  | cons y b=>
   rw[List.length_cons,List.range_succ_eq_map,List.map_cons,List.map_map]
   show mx x y :: _=mx x y :: meetT a b
   rw[<- ih (by simpa using h)]
   rfl
def apartT(a b:List Int):Bool:=(List.range a.length).all λi=>decide (a.getD i 0=0) || decide (b.getD i 0=0)
theorem zj6{x y:Int}{a b:List Int}:apartT (x :: a) (y :: b)=((decide (x=0) || decide (y=0)) && apartT a b):=by
 unfold apartT
 rw[List.length_cons,List.range_succ_eq_map,List.all_cons,List.all_map]
 rfl
theorem zg8:∀{a b:List Int},a.length=b.length->(∀x∈a,0<=x)->(∀x∈b,0<=x)->(meetT a b).sum<=a.sum + b.sum/\(apartT a b=decide ((meetT a b).sum=a.sum + b.sum))
 | [],[],_,_,_=>⟨by decide,rfl⟩
 | [],_ :: _,h,_,_=>by simp at h
 | _ :: _,[],h,_,_=>by simp at h
 | x :: a,y :: b,h,h1,h2=>by
  obtain⟨i1,i2⟩:=zg8 (a:=a) (b:=b) (by simpa using h) (λz hz=>h1 z (.tail _ hz)) λz hz=>h2 z (.tail _ hz)
  have x0:=h1 x (.head _)
  have y0:=h2 y (.head _)
  have e:(meetT (x :: a) (y :: b)).sum=mx x y + (meetT a b).sum:=by show (mx x y :: meetT a b).sum=_;rw[List.sum_cons]
  rw[e,zj6,i2,List.sum_cons,List.sum_cons]
  have m1:mx x y<=x + y:=by unfold mx;split <;> omega
  refine⟨by omega,?_⟩
  by_cases c:(meetT a b).sum=a.sum + b.sum
  ·rw[decide_eq_true c]
   by_cases cx:x=0
   ·rw[decide_eq_true cx]
    have:mx x y=x + y:=by unfold mx;split <;> omega
    rw[decide_eq_true (by omega:mx x y + (meetT a b).sum=x + a.sum + (y + b.sum))];rfl
   ·by_cases cy:y=0
    ·rw[decide_eq_true cy]
     have:mx x y=x + y:=by unfold mx;split <;> omega
     rw[decide_eq_true (by omega:mx x y + (meetT a b).sum=x + a.sum + (y + b.sum)),Bool.or_true];rfl
    ·rw[decide_eq_false cx,decide_eq_false cy]
     have:mx x y < x + y:=by unfold mx;split <;> omega
     rw[decide_eq_false (by omega)];rfl
  ·rw[decide_eq_false c,Bool.and_false]
   exact(decide_eq_false (by omega)).symm
/-- what a pair is ranked by -/
def tk(rk:List Int->List Int)(h:Nat->List Int)(i j:Nat):List Int:=rk (meetT (h i) (h j)) ++ [(i:Int),(j:Int)]
def lets(rk:List Int->List Int)(h:Nat->List Int)(i j k:Nat):Bool:=decide (k≠i) && decide (k≠j) && goesI (h k) (meetT (h i) (h j)) && lexLt (tk rk h (min i k) (max i k)) (tk rk h i j) && lexLt (tk rk h (min j k) (max j k)) (tk rk h i j)
def due(rk:List Int->List Int)(h:Nat->List Int)(ks:List Nat)(i j:Nat):Bool := !apartT (h i) (h j) && !(ks.any λk=>lets rk h i j k)
/-- heads by place -/
def hd(hs:List (Option (List Int)))(i:Nat):List Int:=(hs.getD i none).getD []
def pl(hs:List (Option (List Int))):List Nat:=(List.range hs.length).filter λi=>(hs.getD i none).isSome
theorem pl_mem{hs:List (Option (List Int))}{i:Nat}:i∈pl hs↔(hs.getD i none).isSome=true:=by
 unfold pl
 rw[List.mem_filter,List.mem_range]
 refine⟨λh=>h.2,λh=>⟨?_,h⟩⟩
 rcases Nat.lt_or_ge i hs.length with c | c
 ·exact c
 ·rw[show hs.getD i none=none by simp[List.getD,List.getElem?_eq_none c]]at h;cases h
theorem zqz(hs:List (Option (List Int))):(pl hs).Nodup:=List.nodup_range.filter _
theorem zog(hs:List (Option (List Int))):(pl hs).length<=hs.length:=Nat.le_trans (List.length_filter_le _ _) (by simp)
theorem zb3{hs:List (Option (List Int))}{o:Option (List Int)}{i:Nat}:(hs ++ [o]).getD i none=if i=hs.length then o else hs.getD i none:=by
 rcases Nat.lt_trichotomy i hs.length with c | c | c
 ·rw[if_neg (by omega)];simp[List.getD,List.getElem?_append_left c]
 ·subst c;rw[if_pos rfl];simp[List.getD]
 ·rw[if_neg (by omega)]
  have:(hs ++ [o])[i]? = none:=List.getElem?_eq_none (by simp;omega)
  simp[List.getD,this,List.getElem?_eq_none (Nat.le_of_lt c)]
theorem zl3{hs:List (Option (List Int))}{o:Option (List Int)}:pl (hs ++ [o])=pl hs ++ (if o.isSome then [hs.length] else []):=by
 unfold pl
 rw[List.length_append,List.length_singleton,List.range_succ,List.filter_append]
 congr 1
 ·refine List.filter_congr λi hi => ?_
  rw[zb3,if_neg (by rw[List.mem_range]at hi;omega)]
 ·rw[List.filter_cons,List.filter_nil,zb3,if_pos rfl]
theorem zoz{kf:List Int->List Int}{l1 l2:List (List Int)}(p:l1.Perm l2)(inj:∀a∈l1,∀b∈l1,kf a=kf b->a=b)(h1:l1.Pairwise λa b=>lexLt (kf b) (kf a)=false)(h2:l2.Pairwise λa b=>lexLt (kf b) (kf a)=false):l1=l2:=by
 have q:=K6.fall_one (l:=(l1.map kf).reverse) (m:=(l2.map kf).reverse) (((List.reverse_perm _).trans (p.map kf)).trans (List.reverse_perm _).symm) (by rw[List.pairwise_reverse,List.pairwise_map];exact h1) (by rw[List.pairwise_reverse,List.pairwise_map];exact h2)
 have q:l1.map kf=l2.map kf:=by have:=congrArg List.reverse q;simpa using this
 have key:∀{a b:List (List Int)},a.map kf=b.map kf->(∀x∈a,x∈l1)->(∀x∈b,x∈l1)->a=b:=by
  intro a
  induction a with
  | nil=>
   intro b e _ _
   cases b with
   | nil=>rfl
   | cons=>cases e
  | cons x a ih=>
   intro b e ha hb
   cases b with
   | nil=>cases e
   | cons y b=>
    rw[List.map_cons,List.map_cons]at e
    injection e with e1 e2
    rw[inj x (ha x (.head _)) y (hb y (.head _)) e1,ih e2 (λz hz=>ha z (.tail _ hz)) λz hz=>hb z (.tail _ hz)]
 exact key q (λ_ h=>h) λx hx=>p.mem_iff.mpr hx
/-- a pair as two ints -/
def pr2(i j:Nat):List Int:=[(i:Int),(j:Int)]
def kf(rk:List Int->List Int)(h:Nat->List Int)(p:List Int):List Int:=rk (meetT (h (p.getD 0 0).toNat) (h (p.getD 1 0).toNat)) ++ p
theorem zju{rk:List Int->List Int}{h:Nat->List Int}{i j:Nat}:kf rk h (pr2 i j)=tk rk h i j:=by
 unfold kf tk pr2
 simp
theorem zgm{i j a b:Nat}(h:pr2 i j=pr2 a b):i=a/\j=b:=by
 unfold pr2 at h
 injection h with h1 h2
 injection h2 with h2 _
 omega
def dueP(rk:List Int->List Int)(h:Nat->List Int)(ks:List Nat)(p:List Int):Bool:=due rk h ks (p.getD 0 0).toNat (p.getD 1 0).toNat
theorem zgu{rk:List Int->List Int}{h:Nat->List Int}{ks:List Nat}{i j:Nat}:dueP rk h ks (pr2 i j)=due rk h ks i j:=by
 unfold dueP pr2
 simp
/-- all pairs,by what they are ranked by -/
structure Prs(rk:List Int->List Int)(hs:List (Option (List Int)))(qs:List (List Int)):Prop where
 nd:qs.Nodup
 mem:∀p,p∈qs↔∃i j,i < j/\i∈pl hs/\j∈pl hs/\p=pr2 i j
 srt:qs.Pairwise λa b=>lexLt (kf rk (hd hs) b) (kf rk (hd hs) a)=false
theorem zpm{rk:List Int->List Int}{hs:List (Option (List Int))}{qs ds:List (List Int)}{L:Nat}(hr:∀i j,i∈pl hs->j∈pl hs->(rk (meetT (hd hs i) (hd hs j))).length=L)(hq:Prs rk hs qs)(nd:ds.Nodup)(hm:∀p,p∈ds↔∃i j,i < j/\i∈pl hs/\j∈pl hs/\p=pr2 i j/\due rk (hd hs) (pl hs) i j=true)
  (srt:ds.Pairwise λa b=>lexLt (kf rk (hd hs) b) (kf rk (hd hs) a)=false):qs.filter (dueP rk (hd hs) (pl hs))=ds:=by
 refine zoz (kf:=kf rk (hd hs)) ?_ ?_ (hq.srt.filter _) srt
 ·refine(List.perm_ext_iff_of_nodup (hq.nd.filter _) nd).mpr λp => ?_
  rw[List.mem_filter,hq.mem,hm]
  constructor
  ·rintro⟨⟨i,j,h1,h2,h3,rfl⟩,h4⟩
   rw[zgu]at h4
   exact⟨i,j,h1,h2,h3,rfl,h4⟩
  ·rintro⟨i,j,h1,h2,h3,rfl,h4⟩
   exact⟨⟨i,j,h1,h2,h3,rfl⟩,by rw[zgu];exact h4⟩
 ·intro a ha b hb e
  obtain⟨i,j,_,h2,h3,rfl⟩:=(hq.mem a).mp (List.mem_filter.mp ha).1
  obtain⟨i',j',_,h2',h3',rfl⟩:=(hq.mem b).mp (List.mem_filter.mp hb).1
  rw[zju,zju]at e
  unfold tk at e
  exact(List.append_inj e (by rw[hr _ _ h2 h3,hr _ _ h2' h3'])).2
/-- the law's word for it -/
theorem zmy{rk:List Int->List Int}{h:Nat->List Int}(i k:Nat):tk rk h (min i k) (max i k)=rk (meetT (h i) (h k)) ++ [((min i k:Nat):Int),((max i k:Nat):Int)]:=by
 unfold tk
 rcases Nat.le_total i k with c | c
 ·rw[Nat.min_eq_left c,Nat.max_eq_right c]
 ·rw[Nat.min_eq_right c,Nat.max_eq_left c,zhf]
theorem zk4(i j:Nat):mn (i:Int) (j:Int)=((min i j:Nat):Int):=by unfold mn;split <;> omega
theorem zlk(i j:Nat):mx (i:Int) (j:Int)=((max i j:Nat):Int):=by unfold mx;split <;> omega
end K20
namespace K20
open PySem L2 K37
/-! the hashes of the drawn terms are unlike -/
def topC(m:Nat):Int:=[0,6,4,3,3].getD m 0
theorem hb_1:((boxL (List.replicate 1 6)).map hsI).Nodup:=by decide +kernel
theorem hb_2:((boxL (List.replicate 2 4)).map hsI).Nodup:=by decide +kernel
theorem hb_3:((boxL (List.replicate 3 3)).map hsI).Nodup:=by decide +kernel
theorem hb_4:((boxL (List.replicate 4 3)).map hsI).Nodup:=by decide +kernel
theorem hb{m:Nat}(m1:1<=m)(m4:m<=4):((boxL (List.replicate m (topC m))).map hsI).Nodup:=by
 rcases(by omega:m=1\/m=2\/m=3\/m=4) with h | h | h | h <;> subst h
 ·exact hb_1
 ·exact hb_2
 ·exact hb_3
 ·exact hb_4
theorem zqs{m:Nat}{t:List Int}{T:Int}(h:T0 m t)(hb:∀i,t.getD i 0 < T):t∈boxL (List.replicate m T):=by
 refine(znh _ t).mpr ⟨by rw[h.len];simp,λi hi=>⟨h.nn i,?_⟩⟩
 have:(List.replicate m T).getD i 0=T:=by
  rw[List.length_replicate]at hi
  simp[List.getD,hi]
 rw[this];exact hb i
theorem zhq{α β : Type}{f : α->β}:∀{l:List α},(l.map f).Nodup->∀a∈l,∀b∈l,f a=f b->a=b
 | [],_,a,h,_,_,_=>by cases h
 | x :: l,h,a,ha,b,hb,e=>by
  rw[List.map_cons,List.nodup_cons]at h
  rcases List.mem_cons.mp ha with z | ha <;> rcases List.mem_cons.mp hb with y | hb
  ·rw[z,y]
  ·rw[z]at e;exact absurd (List.mem_map.mpr ⟨b,hb,e.symm⟩) h.1
  ·rw[y]at e;exact absurd (List.mem_map.mpr ⟨a,ha,e⟩) h.1
  ·exact zhq h.2 a ha b hb e
theorem zd6{α β : Type}{f : α->β}:∀{l:List α},l.Nodup->(∀a∈l,∀b∈l,f a=f b->a=b)->(l.map f).Nodup
 | [],_,_=>List.nodup_nil
 | x :: l,h,hi=>by
  rw[List.nodup_cons]at h
  rw[List.map_cons,List.nodup_cons]
  refine⟨λz => ?_,zd6 h.2 λa ha b hb=>hi a (by simp[ha]) b (by simp[hb])⟩
  obtain⟨y,hy,e⟩:=List.mem_map.mp z
  rw[hi y (by simp[hy]) x (by simp) e]at hy
  exact h.1 hy
end K20
namespace K6
open PySem L2
def top(i:Nat):Stmt:=PySem.Challenge.pw_idealroom_k20_pairs_looked_at.main.body.getD i (.Pass ⟨0,0,0,0⟩)
abbrev zcb:Stmt:=top 17
abbrev zdp:Stmt:=top 20
abbrev zb2:Stmt:=inClass (top 31) 0
abbrev zbg:Stmt:=inClass (top 32) 0
abbrev zby:Stmt:=inClass (top 33) 0
abbrev za1:Stmt:=inClass (top 34) 0
abbrev zbh:Stmt:=inClass (top 34) 1
abbrev zb0:Stmt:=inClass (top 31) 5
abbrev zbf:Stmt:=inClass (top 34) 3
abbrev za4:Stmt:=inClass (top 31) 3
abbrev zbb:Stmt:=inClass (top 37) 0
abbrev zct:Stmt:=top 12
abbrev za5:Stmt:=inClass (top 13) 0
abbrev zay:Stmt:=inClass (top 14) 0
abbrev za6:Stmt:=inClass (top 15) 0
abbrev zb1:Stmt:=top 23
abbrev zc9:Stmt:=top 18
abbrev zbm:Stmt:=top 19
abbrev za7:Stmt:=top 25
abbrev zcr:Stmt:=top 26
abbrev zc3:Stmt:=top 27
abbrev zdo:Stmt:=top 28
abbrev zeg:Stmt:=top 29
abbrev zcj:Stmt:=top 39
abbrev zbx:Stmt:=top 51
abbrev zb4:Stmt:=top 40
abbrev zbw:Stmt:=top 41
abbrev zbe:Stmt:=top 42
abbrev zcs:Stmt:=top 43
abbrev zbl:Stmt:=top 44
abbrev zcd:Stmt:=top 45
abbrev zce:Stmt:=top 46
abbrev zcf:Stmt:=top 47
abbrev zca:Stmt:=top 48
abbrev zcg:Stmt:=top 49
abbrev zcc:Stmt:=top 50
abbrev zci:Stmt:=top 52
abbrev zb9:Stmt:=top 53
abbrev zbn:Stmt:=top 54
abbrev zcv:Stmt:=top 55
abbrev zch:Stmt:=top 56
abbrev zgr:Stmt:=top 57
structure Txt(K:W.Frag)(mg:Str->Option Value)(zan zad zam zag zac zah zab:Addr):Prop where
 b_abs:mg "abs" = none
 b_all:mg "all" = none
 b_any:mg "any" = none
 b_bool:mg "bool" = none
 b_dict:mg "dict" = none
 b_enumerate:mg "enumerate" = none
 b_int:mg "int" = none
 b_isinstance:mg "isinstance" = none
 b_len:mg "len" = none
 b_list:mg "list" = none
 b_max:mg "max" = none
 b_min:mg "min" = none
 b_range:mg "range" = none
 b_reversed:mg "reversed" = none
 b_sorted:mg "sorted" = none
 b_sum:mg "sum" = none
 b_tuple:mg "tuple" = none
 b_zip:mg "zip" = none
 cl_Ring:Cls K zan
 mg_Ring:mg "Ring" = some (.ref zan)
 na_Ring_many:NoAttr K zan "many"
 na_Ring_field:NoAttr K zan "field"
 na_Ring_order:NoAttr K zan "order"
 cl_Fractions:Cls K zad
 mg_Fractions:mg "Fractions" = some (.ref zad)
 na_Fractions_prime:NoAttr K zad "prime"
 cl_Rests:Cls K zam
 mg_Rests:mg "Rests" = some (.ref zam)
 na_Rests_prime:NoAttr K zam "prime"
 cl_Order:Cls K zag
 mg_Order:mg "Order" = some (.ref zag)
 n0_Order:Mk0 K zag
 cl_Degrees:Cls K zac
 mg_Degrees:mg "Degrees" = some (.ref zac)
 n0_Degrees:Mk0 K zac
 cl_Tails:Cls K zah
 mg_Tails:mg "Tails" = some (.ref zah)
 n0_Tails:Mk0 K zah
 cl_Weights:Cls K zab
 mg_Weights:mg "Weights" = some (.ref zab)
 na_Weights_weights:NoAttr K zab "weights"
 g_GREATEST_PRIME:∃tk,mg "GREATEST_PRIME" = some (.int 9973 tk)
 g_LETTERS:∃tk,mg "LETTERS" = some (.str "xyzt" tk)
 kii:W.kitOne K (.type "int") (.type "int")=some true
 kib:W.kitOne K (.type "int") (.type "bool")=some false
 ktt:W.kitOne K (.type "tuple") (.type "tuple")=some true
 kll:W.kitOne K (.type "list") (.type "list")=some true
theorem zdw:(["power","bound"]:List Str).Nodup:=by decide +kernel
theorem zjk:(["power"]:List Str).Nodup:=by decide +kernel
theorem zg7:(["weight"]:List Str).Nodup:=by decide +kernel
theorem zdi:(["power","weight"]:List Str).Nodup:=by decide +kernel
theorem zbt:(["power","further"]:List Str).Nodup:=by decide +kernel
theorem zc0:(["pair","leads","turns"]:List Str).Nodup:=by decide +kernel
theorem zcp:(["_law_k","_law_found"]:List Str).Nodup:=by decide +kernel
theorem zbz:(["_law_k","_law_cell_here"]:List Str).Nodup:=by decide +kernel
theorem zd5:(["_law_power"]:List Str).Nodup:=by decide +kernel
theorem za0:(["_law_k","_law_how_here","_law_term_here"]:List Str).Nodup:=by decide +kernel
theorem zax:(["_law_k","_law_one","_law_other"]:List Str).Nodup:=by decide +kernel
theorem zc8:(["_law_spot_here"]:List Str).Nodup:=by decide +kernel
theorem zhy:(["_law_f"]:List Str).Nodup:=by decide +kernel
theorem zc4:(["_law_pair_here"]:List Str).Nodup:=by decide +kernel
theorem uOne{k:Nat}{A:Around}(r:Room k A):A.units + 1 < cLine:=by have:=r.units;omega
theorem znn{X:Cx}{x:Str}{i:Str}{pos:Pos}(hm:∃tk,X.mg x=some (.str i tk))(hg:Gl X x)(hd:(x == ("__debug__" : Str))=false:=by decide):PE X (.Name x pos) (tC (.str i)):=by
 obtain⟨tk,e⟩:=hm
 exact zl6 hg e ⟨tk,rfl⟩ hd
end K6
namespace K6
open PySem L2
open K1 K2 K3 K37 K20
theorem zed{a r:TS}{D:Ends}{σ : St}{H:Hp}(R:St->Hp->Prop)(hu:∀σ' H',R σ' H'->r D σ' H')(hc:∀N:St->Hp->Prop,(∀σ' H',R σ' H'->N σ' H')->a { D with nx:=N } σ H):tSeq a r D σ H:=by
 unfold tSeq
 exact hc _ hu
def spField(K:W.Frag):Sp:=λvs H Q _=>∃(p C dx:Addr) (v:V),vs=[.ref p,v]/\H p=some (.ins C dx [])/\Cls K C/\NoAttr K C "prime"/\Q .non (upd H p (.ins C dx [("prime",v)]))
def spFracInit(CF:Addr):Sp:=λvs H Q _=>∃(p dx:Addr),vs=[.ref p]/\H p=some (.ins CF dx [])/\Q .non (upd H p (.ins CF dx [("prime",.int 0)]))
def cellOf(ns:List Int)(k:Int):Int:=ns.getD k.toNat 0
def spCell(K:W.Frag):Sp:=λvs H Q _=>∃(a:Addr) (ns:List Int) (k:Int),vs=[.ref a,.int k]/\SqL K H a (ns.map V.int)/\0<=k/\Q (.int (cellOf ns k)) H
theorem zo8{ns:List Int}{k:Int}(h0:0<=k)(h:k < (ns.length:Int)):atI (ns.map V.int) k=some (.int (cellOf ns k)):=by
 have hk:k.toNat < ns.length:=by omega
 have ek:k=((k.toNat:Nat):Int):=by omega
 have q:atI (ns.map V.int) ((k.toNat:Nat):Int)=some (.int ns[k.toNat]):=ze6 (by rw[List.getElem?_map,List.getElem?_eq_getElem hk] <;> rfl)
 rw[<- ek]at q
 rw[q]
 unfold cellOf
 rw[List.getD_eq_getElem?_getD,List.getElem?_eq_getElem hk];rfl
def spPrime:Sp:=λvs H Q _=>∃(n:Int),vs=[.int n]/\n<=9973/\Q (.bl (isP n)) H
def spRests(CR NP:Addr):Sp:=λvs H Q E=>∃(p dx:Addr) (n:Int),vs=[.ref p,.int n]/\H p=some (.ins CR dx []) /\
 ((n<=9973/\isP n=true/\Q .non (upd H p (.ins CR dx [("prime",.int n)])))\/((9973 < n\/isP n=false)/\E (.ref NP) none H))
theorem zny{d n:Int}(h2:2<=d)(h:d<=101) : -(2 ^ 64) < d/\d < 2 ^ 64:=by omega
theorem up{n a b:Nat}(h:n < 2 ^ a)(hab:a<=b):n < 2 ^ b:=Nat.lt_of_lt_of_le h (Nat.pow_le_pow_right (by decide) hab)
def NumR(CR:Addr)(H:Hp)(p dx:Addr)(n:Int):Prop:=H p=some (.ins CR dx [("prime",.int n)])/\Pr n/\n<=9973
/-- a term's powers -/
structure Pws(xs:List Int):Prop where
 len:xs.length<=100
 ne:xs≠[]
 nn:Nn xs
 hi:∀x∈xs,x < 10 ^ 31
theorem zob(xs:List Int)(i:Nat):xs.getD i 0=0\/xs.getD i 0∈xs:=by
 rw[List.getD_eq_getElem?_getD]
 cases q:xs[i]? with
 | none=>exact .inl rfl
 | some v=>exact .inr (List.mem_of_getElem? q)
theorem Nn.getD{xs:List Int}(h:Nn xs)(i:Nat):0<=xs.getD i 0:=by
 rcases zob xs i with q | q
 ·omega
 ·exact h _ q
theorem bits{xs:List Int}(h1:Nn xs)(h2:∀x∈xs,x < 10 ^ 31)(i:Nat):(xs.getD i 0).natAbs < 2 ^ 4000:=by
 have h0:=h1.getD i
 have h3:(xs.getD i 0).natAbs < 2 ^ 110:=by
  have e:((2 ^ 110:Nat):Int)=2 ^ 110:=by decide
  have l:(10:Int) ^ 31 < 2 ^ 110:=by decide
  rcases zob xs i with q | q
  ·omega
  ·have:=h2 _ q;omega
 exact Nat.lt_of_lt_of_le h3 (Nat.pow_le_pow_right (by decide) (by decide))
structure OrdC(C:Addr)(At:Hp->Addr->Prop):Prop where
 same:∀{H H':Hp} {p:Addr},Same H H'->At H p->At H' p
 ins:∀{H:Hp} {p:Addr},At H p->∃dx fs,H p=some (.ins C dx fs)/\∀m:Str,¬m = "weights"->fs.lookup m=none
def AtO(C:Addr)(H:Hp)(p:Addr):Prop:=∃dx,H p=some (.ins C dx [])
def AtW(C:Addr)(ws:List Int)(H:Hp)(p:Addr):Prop:=∃dx wt,H p=some (.ins C dx [("weights",.ref wt)])/\H wt=some (.tup (ws.map V.int))
theorem no_W(v:V)(m:Str)(h:¬m = "weights"):([("weights",v)]:List (Str×V)).lookup m=none:=by
 have e:(m == (Str.ofString "weights"))=false:=by
  cases q:(m == (Str.ofString "weights")) with
  | true=>exact absurd (eq_of_beq q) h
  | false=>rfl
 simp only[List.lookup,e]
theorem ordcO(C:Addr):OrdC C (AtO C):=⟨λe ⟨dx,h⟩=>⟨dx,e _ _ h⟩,fun⟨dx,h⟩=>⟨dx,[],h,λ_ _=>rfl⟩⟩
theorem ordcW(C:Addr)(ws:List Int):OrdC C (AtW C ws):=⟨λe ⟨dx,wt,h1,h2⟩=>⟨dx,wt,e _ _ h1,e _ _ h2⟩,fun⟨dx,wt,h,_⟩=>⟨dx,_,h,no_W _⟩⟩
def spDeg(K:W.Frag):Sp:=λvs H Q _=>∃(a:Addr) (xs:List Int),vs=[.ref a]/\SqT K H a (xs.map V.int)/\Q (.int xs.sum) H
def spRank(At:Hp->Addr->Prop)(rk:List Int->List Int):Sp:=λvs H Q _=>∃(p t:Addr) (xs:List Int),vs=[.ref p,.ref t]/\At H p/\H t=some (.tup (xs.map V.int))/\Pws xs/\∀r H',Same H H'->H' r=some (.tup ((rk xs).map V.int))->Q (.ref r) H'
def spWInit(K:W.Frag)(C NO:Addr):Sp:=λvs H Q E=>∃(p dx l:Addr) (ws:List Int),vs=[.ref p,.ref l]/\H p=some (.ins C dx [])/\SqL K H l (ws.map V.int)/\ws.length<=100 /\
 ((Nn ws/\∀wt H',H' p=some (.ins C dx [("weights",.ref wt)])->H' wt=some (.tup (ws.map V.int))->(∀b o,H b=some o->b≠p->H' b=some o)->Q .non H')\/(¬Nn ws/\∀H',Same H H'->E (.ref NO) none H'))
def AtK(CO CD CT CW:Addr)(k:Int)(ws:List Int):Hp->Addr->Prop:=if k=0 then AtO CO else if k=1 then AtO CD else if k=2 then AtO CT else AtW CW ws
def spOrder(K:W.Frag)(CO CD CT CW:Addr):Sp:=λvs H Q _=>∃(k:Int) (l:Addr) (ws:List Int),vs=[.int k,.ref l]/\SqL K H l (ws.map V.int)/\ws.length<=100/\Nn ws/\∀p H',Same H H'->AtK CO CD CT CW k ws H' p->Q (.ref p) H'
noncomputable instance instDecNn(ws:List Int):Decidable (Nn ws):=Classical.propDecidable _
theorem zpw(ws:List Int):((List.range ws.length).map λi=>decide (ws.getD i 0 < 0)).any id = !decide (Nn ws):=by
 by_cases h:Nn ws
 ·rw[decide_eq_true h,Bool.not_true,List.any_eq_false]
  intro b hb
  obtain⟨i,_,rfl⟩:=List.mem_map.mp hb
  have:=h.getD i
  show decide (ws.getD i 0 < 0)≠true
  rw[decide_eq_false (by omega)]
  decide
 ·rw[decide_eq_false h,Bool.not_false,List.any_eq_true]
  have:∃x∈ws,x < 0:=Classical.byContradiction λz=>h λx hx=>by
   rcases(by omega:x < 0\/0<=x) with q | q
   ·exact absurd ⟨x,hx,q⟩ z
   ·exact q
  obtain⟨x,hx,q⟩:=this
  obtain⟨i,hi,e⟩:=List.mem_iff_getElem.mp hx
  exact⟨_,List.mem_map.mpr ⟨i,List.mem_range.mpr hi,rfl⟩,by simp[List.getD,hi,e,q]⟩
def spFirst(At:Hp->Addr->Prop)(rk:List Int->List Int)(NT:Addr):Sp:=λvs H Q E=>∃(p l:Addr) (ys:List V) (xss:List (List Int)),vs=[.ref p,.ref l]/\At H p/\H l=some (.lst ys)/\Paired (Trm H) xss ys/\(∀xs∈xss,Pws xs) /\
 ((ys=[]/\E (.ref NT) none H)\/(ys≠[]/\∀H' xs v,Same H H'->(xs,v)∈xss.zip ys->(∀p∈xss.zip ys,HT.lexLt (rk xs) (rk p.1)=false)->Q v H'))
def spFits(At:Hp->Addr->Prop)(b:Int->Bool):Sp:=λvs H Q _=>∃(p:Addr) (k:Int),vs=[.ref p,.int k]/\At H p/\∀H',Same H H'->Q (.bl (b k)) H'
/-- the greatest so far -/
theorem zie{K:W.Frag}{At:Hp->Addr->Prop}{rk:List Int->List Int}{C p l:Addr}{all:List V}(oC:OrdC C At){Q:VK}:∀(xss:List (List Int)) (ys:List V) (xb:List Int) (b:V) (c:Addr) (H H1:Hp) (done:List (List Int)),Same H H1->At H1 p->H1 l=some (.lst all)->Paired (Trm H1) xss ys->(∀xs∈xss,Pws xs) ->
  SqT K H1 c ((rk xb).map V.int)->(∀d∈done,HT.lexLt (rk xb) (rk d)=false) ->
  (∀H' x v,Same H H'->((x,v)=(xb,b)\/(x,v)∈xss.zip ys)->(∀d∈done,HT.lexLt (rk x) (rk d)=false)->(∀d∈xss,HT.lexLt (rk x) (rk d)=false)->Q v H') ->
  mxGo K l all (λx H Q=>spRank At rk [.ref p,x] H Q E0) ys b (.ref c) H1 Q
 | [],_,xb,b,c,H,H1,done,e,_,_,.nil,_,_,hd,hQ=>hQ H1 xb b e (.inl rfl) hd (λ_ h=>nomatch h)
 | xs :: xss,_ :: ys,xb,b,c,H,H1,done,e,hp,hl,.cons ⟨r,er,hr⟩ t,hw,hc,hd,hQ=>by
  subst er
  refine⟨p,r,xs,rfl,hp,hr,hw xs (.head _),λk H2 e2 hk2'=>have hk2:=SqT.of (K:=K) hk2';⟨e2 _ _ hl,k,c,rk xs,rk xb,rfl,rfl,hk2,e2.seqT hc,λhlt => ?_,λhge => ?_⟩⟩
  ·refine zie oC xss ys xs (.ref r) k H H2 (xs :: xb :: done) (e.trans e2) (oC.same e2 hp) (e2 _ _ hl) (pimp (λ_ _ h=>h.same e2) t) (λx hx=>hw x (.tail _ hx)) hk2 (λd h => ?_) λH' x v e' hm h1 h2=>hQ H' x v e' (.inr ?_) (λd hd'=>h1 d (.tail _ (.tail _ hd'))) (λd hd' => ?_)
   ·rcases List.mem_cons.mp h with rfl | h
    ·exact ze4 _
    rcases List.mem_cons.mp h with rfl | h
    ·exact zpn hlt
    ·cases q:HT.lexLt (rk xs) (rk d) with
     | false=>rfl
     | true=>have:=zjm hlt q;rw[hd d h]at this;cases this
   ·rcases hm with hm | hm
    ·rw[hm];exact .head _
    ·exact .tail _ hm
   ·rcases List.mem_cons.mp hd' with rfl | hd'
    ·exact h1 d (.head _)
    ·exact h2 d hd'
  ·refine zie oC xss ys xb b c H H2 (xs :: done) (e.trans e2) (oC.same e2 hp) (e2 _ _ hl) (pimp (λ_ _ h=>h.same e2) t) (λx hx=>hw x (.tail _ hx)) (e2.seqT hc) (λd h => ?_) λH' x v e' hm h1 h2=>hQ H' x v e' ?_ (λd hd'=>h1 d (.tail _ hd')) (λd hd' => ?_)
   ·rcases List.mem_cons.mp h with rfl | h
    ·exact hge
    ·exact hd d h
   ·rcases hm with hm | hm
    ·exact .inl hm
    ·exact .inr (.tail _ hm)
   ·rcases List.mem_cons.mp hd' with rfl | hd'
    ·exact h1 d (.head _)
    ·exact h2 d hd'
theorem zqm{K:W.Frag}{At:Hp->Addr->Prop}{rk:List Int->List Int}{C p l:Addr}{all:List V}(oC:OrdC C At){Q:VK}:∀(xss:List (List Int)) (ys:List V) (H:Hp),At H p->H l=some (.lst all)->Paired (Trm H) xss ys->(∀xs∈xss,Pws xs)->ys≠[] ->
  (∀H' x v,Same H H'->(x,v)∈xss.zip ys->(∀q∈xss.zip ys,HT.lexLt (rk x) (rk q.1)=false)->Q v H') ->
  mxAll K l all (λx H Q=>spRank At rk [.ref p,x] H Q E0) ys H Q
 | [],_,H,_,_,.nil,_,ne,_=>absurd rfl ne
 | xs :: xss,_ :: ys,H,hp,hl,.cons ⟨r,er,hr⟩ t,hw,_,k=>by
  subst er
  refine⟨p,r,xs,rfl,hp,hr,hw xs (.head _),λk' H2 e2 hk2'=>have hk2:=SqT.of (K:=K) hk2';⟨e2 _ _ hl,?_⟩⟩
  refine zie oC xss ys xs (.ref r) k' H H2 [xs] e2 (oC.same e2 hp) (e2 _ _ hl) (pimp (λ_ _ h=>h.same e2) t) (λx hx=>hw x (.tail _ hx)) hk2 (λd hd => ?_) λH' x v e' hm g1 g2=>k H' x v e' ?_ λq hq' => ?_
  ·rw[List.mem_singleton.mp hd];exact ze4 _
  ·rcases hm with hm | hm
   ·rw[hm];exact .head _
   ·exact .tail _ hm
  ·rcases List.mem_cons.mp hq' with rfl | hq'
   ·exact g1 _ (.head _)
   ·exact g2 _ (List.of_mem_zip hq').1
def rkk(kd:Int)(ws xs:List Int):List Int:=if kd=0 then rkL xs else if kd=3 then rkW ws xs else if kd=1 then rkD xs else rkT xs
def AtF(CF:Addr)(H:Hp)(p:Addr):Prop:=∃dx,H p=some (.ins CF dx [("prime",.int 0)])
def AtR(CR:Addr)(n:Int)(H:Hp)(p:Addr):Prop:=∃dx,NumR CR H p dx n
/-- n=0: the fractions -/
def AtN(CF CR:Addr)(n:Int):Hp->Addr->Prop:=if n=0 then AtF CF else AtR CR n
/-- the ring's object -/
def RgO(CG:Addr)(dx:Addr)(m:Int)(pf po:Addr):HO := .ins CG dx [("many",.int m),("field",.ref pf),("order",.ref po)]
def RgAt(CG:Addr)(H:Hp)(r:Addr)(m:Int)(pf po:Addr):Prop:=∃dx,H r=some (RgO CG dx m pf po)
def fbK(kd:Int)(ws:List Int)(m:Int):Bool:=if kd=3 then decide ((ws.length:Int)=m) else true
def okR(kd:Int)(ws:List Int)(m:Int):Prop:=1<=m/\m<=4/\fbK kd ws m=true
def spRgInit(CG NR CO CD CT CW:Addr):Sp:=λvs H Q E=>∃(r dx:Addr) (m:Int) (pf po:Addr) (kd:Int) (ws:List Int),vs=[.ref r,.int m,.ref pf,.ref po]/\H r=some (.ins CG dx [])/\0<=kd/\kd < 4/\Nn ws/\(∀x∈ws,x < 10 ^ 31)/\AtK CO CD CT CW kd ws H po /\
 ((okR kd ws m/\∀H',H' r=some (RgO CG dx m pf po)->(∀b o,H b=some o->b≠r->H' b=some o)->Q .non H')\/(¬okR kd ws m/\∀H',Same H H'->E (.ref NR) none H'))
theorem zml:((("xyzt" : Str).length:Nat):Int)=4:=by decide +kernel
theorem zm6{n:Int}(h2:2<=n)(hn:n<=9973)(h:∀k:Fin 98,((k.val:Int) + 2) * ((k.val:Int) + 2)<=n->Int.fmod n ((k.val:Int) + 2)≠0):Pr n:=by
 refine⟨h2,λe h1 hq => ?_⟩
 have s:=small h1 hq hn
 have q:=h ⟨(e - 2).toNat,by omega⟩
 have ee:((((⟨(e - 2).toNat,by omega⟩:Fin 98).val:Nat):Int)) + 2=e:=by
  show ((e - 2).toNat:Int) + 2=e
  omega
 rw[ee]at q
 exact q hq
/-- a number of the field,as it lies -/
def NV(n:Int)(H:Hp)(v:V)(z:Int×Int):Prop:=if n=0 then ∃r,v = .ref r/\H r=some (.tup [.int z.1,.int z.2]) else v = .int z.1
theorem NV.same{n:Int}{H H':Hp}{v:V}{z:Int×Int}(e:Same H H')(h:NV n H v z):NV n H' v z:=by
 unfold NV at h ⊢
 by_cases c:n=0
 ·rw[if_pos c]at h ⊢
  obtain⟨r,a,b⟩:=h;exact⟨r,a,e _ _ b⟩
 ·rw[if_neg c]at h ⊢
  exact h
theorem nv_0{H:Hp}{v:V}{z:Int×Int}:NV 0 H v z↔∃r,v = .ref r/\H r=some (.tup [.int z.1,.int z.2]):=by unfold NV;rw[if_pos rfl]
theorem nv_n{n:Int}(h:n≠0){H:Hp}{v:V}{z:Int×Int}:NV n H v z↔v = .int z.1:=by unfold NV;rw[if_neg h]
theorem NV.rds{n:Int}{K:W.Frag}{H:Hp}{v:V}{z:Int×Int}(h:NV n H v z):∃d,Rds K H v d/\NmD d/\d=(if n=0 then PyData.tuple [.int z.1,.int z.2] else .int z.1):=by
 by_cases c:n=0
 ·subst c
  obtain⟨r,rfl,hr⟩:=nv_0.mp h
  exact⟨_,zmd hr,zir _ _,by rw[if_pos rfl]⟩
 ·have:=(nv_n c).mp h
  subst this
  exact⟨_,.int _,zku _,by rw[if_neg c]⟩
def dtZ(n:Int)(z:Int×Int):PyData:=if n=0 then PyData.tuple [.int z.1,.int z.2] else .int z.1
theorem zn7(n:Int)(z:Int×Int):NmD (dtZ n z):=by unfold dtZ;split;exact zir _ _;exact zku _
theorem NV.dt{n:Int}{K:W.Frag}{H:Hp}{v:V}{z:Int×Int}(h:NV n H v z):Rds K H v (dtZ n z):=by
 obtain⟨d,r,_,e⟩:=h.rds (K:=K)
 unfold dtZ
 rw[<- e];exact r
structure OrdE(P:Program)(w:World)(K:W.Frag)(mg:Str->Option Value)(base:Heap)(NT C:Addr)(At:Hp->Addr->Prop)(rk:List Int->List Int)(fb:Int->Bool):Prop where
 oC:OrdC C At
 fits:MCal P w K mg base CX0 1 C "fits" ["self","many"] [] (spFits At fb)
 rank:MCal P w K mg base CX0 3 C "rank" ["self","term"] [] (spRank At rk)
 first:MCal P w K mg base (CXe P w) 6 C "first_of" ["self","terms"] [] (spFirst At rk NT)
theorem atI0{a b:V}:atI [a,b] 0=some a:=rfl
theorem atI1{a b:V}:atI [a,b] 1=some b:=rfl
theorem zl(n:Nat)(h:n<=10000000):n<=sizeLine:=Nat.le_trans h (by rw[sizeLine_eq];decide)
theorem zlt(n:Nat)(h:n<=10000000):n < sizeLine:=Nat.lt_of_le_of_lt h (by rw[sizeLine_eq];decide)
def spGoes(K:W.Frag):Sp:=λvs H Q _=>∃(a b:Addr) (xs ys:List Int),vs=[.ref a,.ref b]/\SqT K H a (xs.map V.int)/\SqT K H b (ys.map V.int)/\xs.length=ys.length/\xs.length<=1000/\∀H',Same H H'->Q (.bl (goesI xs ys)) H'
/-- a list of terms of m powers -/
structure TL(m:Nat)(H:Hp)(l:Addr)(ys:List V)(xss:List (List Int)):Prop where
 at_:H l=some (.lst ys)
 tm:Paired (Trm H) xss ys
 t0:∀x∈xss,T0 m x
 b:ys.length<=1000
theorem TL.same{m:Nat}{H H':Hp}{l:Addr}{ys:List V}{xss:List (List Int)}(e:Same H H')(h:TL m H l ys xss):TL m H' l ys xss:=⟨e _ _ h.at_,pimp (λ_ _ q=>q.same e) h.tm,h.t0,h.b⟩
theorem pget{α : Type}{R : α->V->Prop}:∀{l:List α} {ys:List V},Paired R l ys->∀{i:Nat} {v:V},ys[i]? = some v->∃a,l[i]? = some a/\R a v
 | _,_,.nil,_,_,h=>by simp at h
 | _,_,.cons r t,0,_,h=>by simp at h;subst h;exact⟨_,rfl,r⟩
 | _,_,.cons r t,i + 1,_,h=>by simp at h;exact pget t h
theorem TL.get{m:Nat}{H:Hp}{l:Addr}{ys:List V}{xss:List (List Int)}(h:TL m H l ys xss){i:Nat}{v:V}(hv:ys[i]? = some v):∃x r,xss[i]? = some x/\v = .ref r/\H r=some (.tup (x.map V.int))/\T0 m x:=by
 obtain⟨x,hx,r,e,q⟩:=pget h.tm hv
 exact⟨x,r,hx,e,q,h.t0 x (List.mem_of_getElem? hx)⟩
theorem TL.len{m:Nat}{H:Hp}{l:Addr}{ys:List V}{xss:List (List Int)}(h:TL m H l ys xss):xss.length=ys.length:=Paired.length h.tm
theorem zds{xs:List Int}{i:Nat}(h:i < xs.length):atI (xs.map V.int) (i:Int)=some (.int (xs.getD i 0)):=ze6 (by simp[List.getD,h])
theorem zen{α : Type}{dd : α}{q : α->Bool}:∀{l:List α},((List.range l.length).filter λi=>q (l.getD i dd)).map (λi=>l.getD i dd)=l.filter q
 | []=>rfl
 | x :: l=>by
  have ih:=zen (dd:=dd) (q:=q) (l:=l)
  rw[List.length_cons,List.range_succ_eq_map,List.filter_cons,List.filter_cons,List.filter_map]
  have e:(λi=>q ((x :: l).getD i dd)) ∘ Nat.succ=λi=>q (l.getD i dd):=by funext i;rfl
  have e0:(x :: l).getD 0 dd=x:=rfl
  rw[e,e0]
  split
  ·rw[List.map_cons,List.map_map,e0,<- ih];rfl
  ·rw[List.map_map,<- ih];rfl
theorem pmapl{α β : Type}{R : β->V->Prop}{f : α->β}:∀{l:List α} {ys:List V},Paired (λi v=>R (f i) v) l ys->Paired R (l.map f) ys
 | _,_,.nil => .nil
 | _,_,.cons r t => .cons r (pmapl t)
theorem zlh{H:Hp}{a:Addr}{ys zs:List V}{x:List Int}{v:V}(ha:H a=some (.lst ys))(h:Trm H x v):Trm (upd H a (.lst zs)) x v:=by
 obtain⟨r,rfl,q⟩:=h
 exact⟨r,rfl,by rw[zal (zbk q ha (by intro z;cases z))];exact q⟩
theorem zj5{J:It}{n:Nat}{P:Nat->V->Hp->Prop}{mp:List (Option Nat)}{wi:TI}{g:TG}{tc:TT}{te:TE}{σ : St}{H H1:Hp}{Q:VK}(S:Walk J H1 n P)(hn:n<=1000)(hwi:∀R,R J H1->wi σ H R)(Sv:St->Prop)(p:Nat->Bool)(F:Nat->V->Hp->Prop)
  (monoS:∀i v H H',Same H H'->F i v H->F i v H') (monoU:∀i v H a ys ys',H a=some (.lst ys)->F i v H->F i v (upd H a (.lst ys'))) (h0:Sv (st0 mp σ))
  (step:∀i x σ' H2,i < n->Sv σ'->Same H1 H2->P i x H2->∀(Ny:V->St->Hp->Prop) (Nn:St->Hp->Prop),(∀v σ2 H5,Sv σ2->Same H2 H5->F i v H5->p i=true->Ny v σ2 H5)->(∀σ2 H4,Sv σ2->Same H2 H4->p i=false->Nn σ2 H4) ->
   g x σ' H2 λσ2 H3=>tc σ2 H3 λb H4=>if b=true then te σ2 H4 λv H5=>Ny v σ2 H5 else Nn σ2 H4)
  (hQ:∀D H' ys,H1 D=none->Same H1 H'->H' D=some (.lst ys)->Paired (λi v=>F i v H') ((List.range n).filter p) ys->Q (.ref D) H'):tComp mp wi g tc te σ H Q:=by
 unfold tComp
 refine hwi _ λD hD => ?_
 exact zkr S hD (Nat.le_trans hn (by rw[sizeLine_eq];decide)) Sv p F monoS monoU h0 step λH' ys e hL hF=>hQ D H' ys hD e hL hF
def un(k:List Key):List Int:=k.map λx=>match x with | .inl i=>i | .inr _=>0
theorem zhv:∀xs:List Int,un (ky xs)=xs
 | []=>rfl
 | x :: xs=>by show x :: un (ky xs)=_;rw[zhv xs]
theorem zjb{a b:List Int}(h:ky a=ky b):a=b:=by rw[<- zhv a,<- zhv b,h]
theorem zmf{m:Nat}{H:Hp}{l:Addr}{kvs:List (List Key×V)}{us:List (List Int)}{as:List Addr}(h:kvs.map (·.1)=us.map ky)(la:as.length=kvs.length)(hi:∀(i:Nat) k x,kvs[i]? = some (k,x)->∃a,as[i]? = some a/\H a=some (.tup (k.map kV))):Paired (Trm H) us (as.map V.ref):=by
 have lu:us.length=kvs.length:=by have:=congrArg List.length h;simpa using this.symm
 have key:∀n,n<=us.length->Paired (Trm H) (us.take n) ((as.map V.ref).take n):=λn=>by
  induction n with
  | zero=>intro _;simp;exact .nil
  | succ n ih=>
   intro hn
   have hk:n < kvs.length:=by omega
   obtain⟨a,ha,hH⟩:=hi n kvs[n].1 kvs[n].2 (by simp[hk])
   have eu:ky (us[n]'(by omega))=kvs[n].1:=by
    have:=congrArg (λx=>x[n]?) h
    simp[hk,show n < us.length by omega]at this
    exact this.symm
   rw[List.take_add_one,List.take_add_one]
   have e1:us[n]? = some (us[n]'(by omega)):=List.getElem?_eq_getElem (by omega)
   have e2:(as.map V.ref)[n]? = some (.ref a):=by rw[List.getElem?_map,ha];rfl
   rw[e1,e2]
   refine psnoc ⟨a,rfl,?_⟩ (ih (by omega))
   rw[<- eu,zf8]at hH;exact hH
 have:=key us.length (Nat.le_refl _)
 rwa [List.take_length,List.take_of_length_le (by rw[List.length_map];omega)]at this
/-- a polynomial as it lies: its keys are terms,its numbers are those of the field -/
structure PK(n:Int)(m:Nat)(H:Hp)(kvs:List (List Key×V)):Prop where
 row:∀p∈kvs,∃t,p.1=ky t/\T0 m t/\(∀i,t.getD i 0<=200)/\∃z,NV n H p.2 z
 nd:(kvs.map (·.1)).Nodup
 b:kvs.length<=1000
theorem PK.same{n:Int}{m:Nat}{H H':Hp}{kvs:List (List Key×V)}(e:Same H H')(h:PK n m H kvs):PK n m H' kvs:=⟨λp hp=>let ⟨t,a,b,c,z,d⟩:=h.row p hp;⟨t,a,b,c,z,d.same e⟩,h.nd,h.b⟩
theorem zk7{n:Int}{K:W.Frag}{H:Hp}:∀{kvs:List (List Key×V)},(∀p∈kvs,∃z,NV n H p.2 z)->∃da,KDs K H kvs da/\Flats da
 | [],_=>⟨[],.nil,λ_ z=>by cases z⟩
 | p :: l,h=>by
  obtain⟨z,hz⟩:=h p (.head _)
  obtain⟨da,h1,h2⟩:=zk7 (K:=K) (kvs:=l) λq hq=>h q (.tail _ hq)
  refine⟨(p.1,dtZ n z) :: da,.cons ⟨rfl,hz.dt⟩ h1,λq hq => ?_⟩
  rcases List.mem_cons.mp hq with rfl | hq
  ·exact⟨(zn7 _ _).lay,(zn7 _ _).dep⟩
  ·exact h2 q hq
theorem PK.kds{n:Int}{m:Nat}{K:W.Frag}{H:Hp}{kvs:List (List Key×V)}(h:PK n m H kvs):∃da,KDs K H kvs da/\Flats da:=zk7 λp hp=>let ⟨_,_,_,_,z⟩:=h.row p hp;z
theorem zje{m:Nat}{t:List Int}(h:T0 m t)(m1:1<=m)(m4:m<=4)(hb:∀i,t.getD i 0<=200):Pws t:=⟨by rw[h.len];omega,λz=>by have:=h.len;rw[z]at this;simp at this;omega,h.mem,λx hx=>by
 obtain⟨j,hj,rfl⟩:=List.mem_iff_getElem.mp hx
 have:=hb j
 have e:t.getD j 0=t[j]:=by simp[List.getD,hj]
 rw[e]at this
 exact Int.lt_of_le_of_lt this (by decide)⟩
theorem pz{R:List Int->V->Prop}:∀{l:List (List Int)} {ys:List V},Paired R l ys->∀p∈l.zip ys,R p.1 p.2
 | _,_,.nil,p,hp=>by cases hp
 | _,_,.cons r t,p,hp=>by
  rcases List.mem_cons.mp hp with rfl | hp
  ·exact r
  ·exact pz t p hp
theorem zof{α β : Type}:∀{l:List α} {l':List β} {a : α},l.length=l'.length->a∈l->∃b,(a,b)∈l.zip l'
 | [],_,_,_,h=>by cases h
 | x :: l,[],_,h,_=>by simp at h
 | x :: l,y :: l',a,h,ha=>by
  rcases List.mem_cons.mp ha with rfl | ha
  ·exact⟨y,by simp⟩
  ·obtain⟨b,hb⟩:=zof (by simpa using h) ha
   exact⟨b,by simp[hb]⟩
def spFT(CG CO CD CT CW NL:Addr):Sp:=λvs H Q E=>∃(r d:Addr) (m:Nat) (pf po:Addr) (n kd:Int) (ws:List Int) (kvs:List (List Key×V)),vs=[.ref r,.ref d]/\RgAt CG H r m pf po/\AtK CO CD CT CW kd ws H po/\1<=m/\m<=4/\0<=kd/\kd < 4/\Nn ws/\(∀x∈ws,x < 10 ^ 31)/\H d=some (.dT kvs)/\PK n m H kvs/\kvs≠[] /\
 ∀H' t v,Same H H'->Trm H' t v->ky t∈kvs.map (·.1)->(∀p∈kvs,HT.lexLt (rkk kd ws t) (rkk kd ws (un p.1))=false)->Q v H'
def HeadOf(rk:List Int->List Int)(h:List Int)(kvs:List (List Key×V)):Prop:=ky h∈kvs.map (·.1)/\∀p∈kvs,HT.lexLt (rk h) (rk (un p.1))=false
/-- a list of polynomials -/
structure PL(n:Int)(m:Nat)(H:Hp)(b:Addr)(ds:List Addr)(kvss:List (List (List Key×V))):Prop where
 at_:H b=some (.lst (ds.map V.ref))
 len:ds.length=kvss.length
 row:∀(i:Nat) (d:Addr) (kvs:List (List Key×V)),ds[i]? = some d->kvss[i]? = some kvs->H d=some (.dT kvs)/\PK n m H kvs
 b:ds.length<=100
theorem PL.same{n:Int}{m:Nat}{H H':Hp}{b:Addr}{ds:List Addr}{kvss:List (List (List Key×V))}(e:Same H H')(h:PL n m H b ds kvss):PL n m H' b ds kvss:=⟨e _ _ h.at_,h.len,λi d kvs h1 h2=>⟨e _ _ (h.row i d kvs h1 h2).1,(h.row i d kvs h1 h2).2.same e⟩,h.b⟩
theorem zm2{X:Cx}{K:W.Frag}(hK:X.K=K)(hu:X.A.units + 64 < cLine):OpR X (compareOp .NotEq) (rEqDT K true):=by
 subst hK;exact zoy hu
theorem zlz{α β : Type}:∀{l:List α} {l':List β},l.length<=l'.length->(l.zip l').map (·.1)=l
 | [],_,_=>by simp
 | x :: l,[],h=>by simp at h
 | x :: l,y :: l',h=>by simp only[List.zip_cons_cons,List.map_cons];rw[zlz (by simpa using h)]
def tds(xss:List (List Int)):List PyData:=xss.map λxs=>PyData.tuple (xs.map PyData.int)
theorem zgq{K:W.Frag}{H:Hp}:∀{xss:List (List Int)} {ys:List V},Paired (Trm H) xss ys->RdsAll K H ys (tds xss)
 | _,_,.nil => .nil
 | _,_,.cons ⟨r,er,hr⟩ t=>by subst er;exact .cons (.tup (SqT.of hr) (zjc _)) (zgq t)
theorem zif:∀xss:List (List Int),PyData.canLayAll0 (tds xss)=true
 | []=>rfl
 | xs :: xss=>by
  have h:=zif xss
  simp only[tds,List.map_cons,PyData.canLayAll0,PyData.canLay0,W.ke_canLayAll0]at h ⊢
  rw[h];rfl
theorem zg9:∀xss:List (List Int),PyData.depthAll (tds xss)<=2
 | []=>by simp[tds,PyData.depthAll]
 | xs :: xss=>by
  have h:=zg9 xss
  simp only[tds,List.map_cons,PyData.depthAll,PyData.depth,W.ke_depthAll]at h ⊢
  omega
theorem zfv(xss:List (List Int)):SeqAt.shaped (.list (tds xss))=true:=by
 have h1:=zif xss
 have h2:=zg9 xss
 unfold SeqAt.shaped
 rw[PyData.canLay0,PyData.depth,h1,Bool.true_and,decide_eq_true_eq]
 omega
theorem znu(xss:List (List Int)):PyData.eqv (.list (tds xss)) (.list (tds xss))=true:=SeqAt.eqv_refl _ (by rw[PyData.canLay0];exact zif xss)
/-- all but the table at Pt is as it was -/
def ButT(Pt:Addr)(H H':Hp):Prop:=∀b o,H b=some o->b≠Pt->H' b=some o
theorem zg5:∀{da:List (List Key×PyData)} {p:List Key×PyData},(da.map (·.1)).Nodup->p∈da->findKD da p.1=some p.2
 | [],p,_,hp=>by cases hp
 | q :: l,p,nd,hp=>by
  rw[List.map_cons,List.nodup_cons]at nd
  rcases List.mem_cons.mp hp with rfl | hp
  ·simp[findKD]
  ·have ne:¬q.1=p.1:=λe=>nd.1 (by rw[e];exact List.mem_map.mpr ⟨p,hp,rfl⟩)
   have:=zg5 nd.2 hp
   unfold findKD at this ⊢
   rw[List.find?_cons_of_neg (by rw[decide_eq_false ne];decide)]
   exact this
theorem zl9{da:List (List Key×PyData)}(nd:(da.map (·.1)).Nodup)(h:∀p∈da,NmD p.2):eqKD da da=true:=by
 unfold eqKD
 rw[beq_self_eq_true,Bool.true_and,List.all_eq_true]
 intro p hp
 rw[zg5 nd hp]
 exact(h p hp).refl
theorem u8{k:Nat}{A:Around}(h:Room k A):A.units + 8 < cLine:=by have:=h.un;omega
theorem zo1{H:Hp}{d:Addr}{u:HO}(h:H d=some u):upd H d u=H:=by
 funext b;unfold upd;split
 ·rename_i z;rw[z,h]
 ·rfl
def spMeet(K:W.Frag):Sp:=λvs H Q _=>∃(a b:Addr) (xs ys:List Int),vs=[.ref a,.ref b]/\SqT K H a (xs.map V.int)/\SqT K H b (ys.map V.int)/\xs.length=ys.length/\xs.length<=1000/\∀r H',Same H H'->H' r=some (.tup ((meetT xs ys).map V.int))->Q (.ref r) H'
def spApart(K:W.Frag):Sp:=λvs H Q _=>∃(a b:Addr) (xs ys:List Int),vs=[.ref a,.ref b]/\SqT K H a (xs.map V.int)/\SqT K H b (ys.map V.int)/\xs.length=ys.length/\xs.length<=1000/\∀H',Same H H'->Q (.bl (apartT xs ys)) H'
/-- heads by place,as they lie -/
def LdK(H:Hp)(kvs:List (Key×V))(hs:List (Option (List Int))):Prop:=Paired (fun(i:Nat) (kv:Key×V)=>kv.1 = .inl (i:Int)/\Trm H (hd hs i) kv.2) (pl hs) kvs
theorem ppair{α β : Type}{R S : α->β->Prop}:∀{l:List α} {ys:List β},Paired R l ys->(∀a∈l,∀b,R a b->S a b)->Paired S l ys
 | _,_,.nil,_ => .nil
 | _,_,.cons r t,h => .cons (h _ (by simp) _ r) (ppair t λa ha b hb=>h a (by simp[ha]) b hb)
theorem psnoc2{α β : Type}{R : α->β->Prop}{a : α}{v : β}(r:R a v):∀{l:List α} {ys:List β},Paired R l ys->Paired R (l ++ [a]) (ys ++ [v])
 | _,_,.nil => .cons r .nil
 | _,_,.cons q t => .cons q (psnoc2 r t)
theorem pget2{α β : Type}{R : α->β->Prop}:∀{l:List α} {ys:List β},Paired R l ys->∀{i:Nat} {v : β},ys[i]? = some v->∃a,l[i]? = some a/\R a v
 | _,_,.nil,_,_,h=>by simp at h
 | _,_,.cons r t,0,_,h=>by simp at h;subst h;exact⟨_,rfl,r⟩
 | _,_,.cons r t,i + 1,_,h=>by simp at h;exact pget2 t h
theorem LdK.same{H H':Hp}{kvs:List (Key×V)}{hs:List (Option (List Int))}(h:LdK H kvs hs)(e:∀b xs,H b=some (.tup xs)->H' b=some (.tup xs)):LdK H' kvs hs:=ppair h λ_ _ _ ⟨a,r,q1,q2⟩=>⟨a,r,q1,e _ _ q2⟩
theorem zod{R:Nat->V->Prop}:∀{l:List Nat} {kvs:List (Key×V)},Paired (fun(i:Nat) (kv:Key×V)=>kv.1 = .inl (i:Int)/\R i kv.2) l kvs->∀i∈l,∃v,valV kvs (.inl (i:Int))=some v/\R i v
 | _,_,.nil,i,h=>by cases h
 | _,_,.cons (a:=j) (b:=kv) r t,i,h=>by
  by_cases c:i=j
  ·subst c
   exact⟨kv.2,by rw[zd0 r.1],r.2⟩
  ·obtain⟨v,h1,h2⟩:=zod t i (by rcases List.mem_cons.mp h with z | z;exact absurd z c;exact z)
   exact⟨v,by rw[zd3 (by rw[r.1];intro z;injection z with z;omega)];exact h1,h2⟩
theorem LdK.get{H:Hp}{kvs:List (Key×V)}{hs:List (Option (List Int))}(h:LdK H kvs hs){i:Nat}(hi:i∈pl hs):∃r,valV kvs (.inl (i:Int))=some (.ref r)/\H r=some (.tup ((hd hs i).map V.int)):=by
 obtain⟨v,h1,r,rfl,h2⟩:=zod (R:=λi v=>Trm H (hd hs i) v) h i hi
 exact⟨r,h1,h2⟩
theorem zik{κ : Type}[DecidableEq κ]{kvs:List (κ×V)}{k : κ}{v:V}(h:k ∉ kvs.map (·.1)):putK kvs k v=kvs ++ [(k,v)]:=by
 unfold putK
 rw[if_neg]
 intro z
 rw[List.any_eq_true]at z
 obtain⟨p,hp,e⟩:=z
 exact h (List.mem_map.mpr ⟨p,hp,of_decide_eq_true e⟩)
def HO1(rk:List Int->List Int)(o:Option (List Int))(k:List (List Key×V)):Prop:=(o=none/\k=[])\/∃h,o=some h/\HeadOf rk h k
def spLBP(CG CO CD CT CW:Addr):Sp:=λvs H Q _=>∃(r b:Addr) (m:Nat) (pf po:Addr) (n kd:Int) (ws:List Int) (ds:List Addr) (kvss:List (List (List Key×V))),vs=[.ref r,.ref b]/\RgAt CG H r m pf po/\AtK CO CD CT CW kd ws H po/\1<=m/\m<=4/\0<=kd/\kd < 4/\Nn ws/\(∀x∈ws,x < 10 ^ 31)/\PL n m H b ds kvss /\
 ∀D H' kv hs,H D=none->Same H H'->H' D=some (.dK kv)->LdK H' kv hs->hs.length=kvss.length->(∀i,i < hs.length->HO1 (rkk kd ws) (hs.getD i none) (kvss.getD i []))->Q (.ref D) H'
theorem zkj{hs:List (Option (List Int))}{o:Option (List Int)}{i:Nat}(h:i < hs.length):hd (hs ++ [o]) i=hd hs i:=by unfold hd;rw[zb3,if_neg (by omega)]
/-- a tuple of a tuple of ints and two ints,as it lies -/
def NstH(H:Hp)(ns:List Int)(v:V):Prop:=∃t r xs i j,v=V.ref t/\H t=some (.tup [.ref r,.int i,.int j])/\H r=some (.tup (xs.map V.int))/\ns=xs ++ [i,j]
theorem NstH.keep{H H':Hp}{ns:List Int}{v:V}(h:NstH H ns v)(e:∀b xs,H b=some (.tup xs)->H' b=some (.tup xs)):NstH H' ns v:=by
 obtain⟨t,r,xs,i,j,h1,h2,h3,h4⟩:=h
 exact⟨t,r,xs,i,j,h1,e _ _ h2,e _ _ h3,h4⟩
theorem NstH.v{K:W.Frag}{H:Hp}{ns:List Int}{v:V}(h:NstH H ns v):NstV K H ns v:=by
 obtain⟨t,r,xs,i,j,h1,h2,h3,h4⟩:=h
 exact⟨t,r,xs,i,j,h1,SqT.of h2,SqT.of h3,h4⟩
def TuK(rk:List Int->List Int)(hs:List (Option (List Int)))(H:Hp)(tv:List (List Key×V))(ps:List (Nat×Nat)):Prop:=Paired (fun(p:Nat×Nat) (kv:List Key×V)=>kv.1=ky (pr2 p.1 p.2)/\NstH H (tk rk (hd hs) p.1 p.2) kv.2) ps tv
theorem TuK.keep{rk:List Int->List Int}{hs:List (Option (List Int))}{H H':Hp}{tv:List (List Key×V)}{ps:List (Nat×Nat)}(h:TuK rk hs H tv ps)(e:∀b xs,H b=some (.tup xs)->H' b=some (.tup xs)):TuK rk hs H' tv ps:=ppair h λ_ _ _ ⟨a,q⟩=>⟨a,q.keep e⟩
theorem zkv{R:Nat×Nat->V->Prop}:∀{l:List (Nat×Nat)} {kvs:List (List Key×V)},Paired (fun(p:Nat×Nat) (kv:List Key×V)=>kv.1=ky (pr2 p.1 p.2)/\R p kv.2) l kvs->∀p∈l,∃v,valV kvs (ky (pr2 p.1 p.2))=some v/\R p v
 | _,_,.nil,i,h=>by cases h
 | _,_,.cons (a:=j) (b:=kv) r t,i,h=>by
  by_cases c:i=j
  ·subst c
   exact⟨kv.2,by rw[zd0 r.1],r.2⟩
  ·obtain⟨v,h1,h2⟩:=zkv t i (by rcases List.mem_cons.mp h with z | z;exact absurd z c;exact z)
   refine⟨v,?_,h2⟩
   rw[zd3 (by
    rw[r.1]
    intro z
    obtain⟨z1,z2⟩:=zgm (zjb z)
    exact c (Prod.ext z1.symm z2.symm))]
   exact h1
theorem zl2{rk:List Int->List Int}{hs:List (Option (List Int))}{H:Hp}:∀{tv:List (List Key×V)} {ps:List (Nat×Nat)},TuK rk hs H tv ps->tv.map (·.1)=ps.map λp=>ky (pr2 p.1 p.2)
 | _,_,.nil=>rfl
 | _,_,.cons r t=>by rw[List.map_cons,List.map_cons,r.1,zl2 t]
theorem zix{CO CD CT CW:Addr}{kd:Int}{ws:List Int}{H H':Hp}(h1:∀b C dx fs,H b=some (.ins C dx fs)->H' b=some (.ins C dx fs))(h2:∀b xs,H b=some (.tup xs)->H' b=some (.tup xs)){p:Addr}(q:AtK CO CD CT CW kd ws H p):AtK CO CD CT CW kd ws H' p:=by
 have o:∀C,AtO C H p->AtO C H' p:=λC ⟨dx,z⟩=>⟨dx,h1 _ _ _ _ z⟩
 have w:AtW CW ws H p->AtW CW ws H' p:=fun⟨dx,wt,z1,z2⟩=>⟨dx,wt,h1 _ _ _ _ z1,h2 _ _ z2⟩
 unfold AtK at q ⊢
 by_cases c0:kd=0
 ·rw[if_pos c0]at q ⊢;exact o _ q
 ·rw[if_neg c0]at q ⊢
  by_cases c1:kd=1
  ·rw[if_pos c1]at q ⊢;exact o _ q
  ·rw[if_neg c1]at q ⊢
   by_cases c2:kd=2
   ·rw[if_pos c2]at q ⊢;exact o _ q
   ·rw[if_neg c2]at q ⊢;exact w q
def HsT(m:Nat)(hs:List (Option (List Int))):Prop:=∀i∈pl hs,T0 m (hd hs i)/\∀j,(hd hs i).getD j 0<=200
def PsAll(hs:List (Option (List Int)))(ps:List (Nat×Nat)):Prop:=ps.Nodup/\∀i j,(i,j)∈ps↔i < j/\i∈pl hs/\j∈pl hs
def spTurns(CG CO CD CT CW:Addr):Sp:=λvs H Q _=>∃(r d:Addr) (m:Nat) (pf po:Addr) (kd:Int) (ws:List Int) (kv:List (Key×V)) (hs:List (Option (List Int))),vs=[.ref r,.ref d]/\RgAt CG H r m pf po/\AtK CO CD CT CW kd ws H po/\1<=m/\m<=4/\0<=kd/\kd < 4/\Nn ws/\(∀x∈ws,x < 10 ^ 31)/\H d=some (.dK kv)/\LdK H kv hs/\HsT m hs/\hs.length<=100 /\
 ∀D H' tv ps,H D=none->Same H H'->H' D=some (.dT tv)->TuK (rkk kd ws) hs H' tv ps->PsAll hs ps->Q (.ref D) H'
theorem ziu{m:Nat}{hs:List (Option (List Int))}(h:HsT m hs)(m1:1<=m)(m4:m<=4){i j:Nat}(hi:i∈pl hs)(hj:j∈pl hs):Pws (meetT (hd hs i) (hd hs j)):=by
 refine zje (zib (h i hi).1 (h j hj).1) m1 m4 λq => ?_
 have bd:∀{t:List Int},(∀j,t.getD j 0<=200)->∀x∈t,x<=200:=fun{t} h x hx=>by
  obtain⟨j,hj,rfl⟩:=List.mem_iff_getElem.mp hx
  have:=h j
  simpa[List.getD,hj]using this
 have b2:=zjf (P:=λx=>x<=200) (bd (h i hi).2) (bd (h j hj).2)
 rcases Nat.lt_or_ge q (meetT (hd hs i) (hd hs j)).length with c | c
 ·have:=b2 _ (List.getElem_mem c)
  simpa[List.getD,c]using this
 ·simp[List.getD,List.getElem?_eq_none c]
theorem zcq{α : Type}{l:List α}{i:Nat}{a x : α}(h:l[i]? = some a):x∈l.take (i + 1)↔x∈l.take i\/x=a:=by
 rw[List.take_add_one,h];simp
theorem zel{l:List Nat}(h:l.Nodup){i a:Nat}(hi:l[i]? = some a):a ∉ l.take i:=λz=>by
 obtain⟨j,hj⟩:=List.mem_iff_getElem?.mp z
 rw[List.getElem?_take]at hj
 split at hj
 ·rename_i c
  have:=(List.getElem?_inj (by rcases Nat.lt_or_ge i l.length with q | q;exact q;rw[List.getElem?_eq_none q]at hi;cases hi) h).mp (hi.trans hj.symm)
  omega
 ·cases hj
structure Tn(m:Nat)(rk:List Int->List Int)(hs:List (Option (List Int)))(kv:List (Key×V))(tv:List (List Key×V))(ps:List (Nat×Nat))(H:Hp):Prop where
 ld:LdK H kv hs
 ht:HsT m hs
 tu:TuK rk hs H tv ps
 al:PsAll hs ps
theorem Tn.keep{m:Nat}{rk:List Int->List Int}{hs:List (Option (List Int))}{kv:List (Key×V)}{tv:List (List Key×V)}{ps:List (Nat×Nat)}{H H':Hp}(h:Tn m rk hs kv tv ps H)(e:∀b xs,H b=some (.tup xs)->H' b=some (.tup xs)):Tn m rk hs kv tv ps H':=⟨h.ld.same e,h.ht,h.tu.keep e,h.al⟩
theorem Tn.turn{m:Nat}{rk:List Int->List Int}{hs:List (Option (List Int))}{kv:List (Key×V)}{tv:List (List Key×V)}{ps:List (Nat×Nat)}{H:Hp}(h:Tn m rk hs kv tv ps H){i j:Nat}(lt:i < j)(hi:i∈pl hs)(hj:j∈pl hs):∃v,valV tv (ky (pr2 i j))=some v/\NstH H (tk rk (hd hs) i j) v:=zkv (R:=λp v=>NstH H (tk rk (hd hs) p.1 p.2) v) h.tu (i,j) ((h.al.2 i j).mpr ⟨lt,hi,hj⟩)
theorem Tn.turn2{m:Nat}{rk:List Int->List Int}{hs:List (Option (List Int))}{kv:List (Key×V)}{tv:List (List Key×V)}{ps:List (Nat×Nat)}{H:Hp}(h:Tn m rk hs kv tv ps H){i k:Nat}(ne:k≠i)(hi:i∈pl hs)(hk:k∈pl hs):∃v,valV tv (ky (pr2 (min i k) (max i k)))=some v/\NstH H (tk rk (hd hs) (min i k) (max i k)) v:=by
 rcases Nat.lt_or_ge i k with c | c
 ·rw[Nat.min_eq_left (Nat.le_of_lt c),Nat.max_eq_right (Nat.le_of_lt c)];exact h.turn c hi hk
 ·have:k < i:=by omega
  rw[Nat.min_eq_right c,Nat.max_eq_left c];exact h.turn this hk hi
def RkL(rk:List Int->List Int)(m L:Nat):Prop:=∀t:List Int,t.length=m->(rk t).length=L
theorem zgx{kd:Int}{ws:List Int}{m:Nat}:∃L,RkL (rkk kd ws) m L:=by
 unfold RkL rkk
 by_cases c:kd=0
 ·exact⟨m,λt ht=>by rw[if_pos c];exact ht⟩
 ·refine⟨m + 1,λt ht => ?_⟩
  rw[if_neg c]
  split
  ·simp[rkW,ht]
  ·split
   ·simp[rkD,ht]
   ·simp[rkT,ht]
theorem zdj{rk:List Int->List Int}{m L:Nat}(h:RkL rk m L){hs:List (Option (List Int))}(ht:HsT m hs){i j:Nat}(hi:i∈pl hs)(hj:j∈pl hs):(tk rk (hd hs) i j).length=L + 2:=by
 unfold tk
 rw[List.length_append,h _ (zib (ht i hi).1 (ht j hj).1).len];rfl
theorem hs_t{n:Int}{m:Nat}{rk:List Int->List Int}{H:Hp}{b:Addr}{ds:List Addr}{kvss:List (List (List Key×V))}{hs:List (Option (List Int))}(hb:PL n m H b ds kvss)(lh:hs.length=kvss.length)(ho:∀i,i < hs.length->HO1 rk (hs.getD i none) (kvss.getD i [])):HsT m hs:=λi hi=>by
 have li:=List.mem_range.mp (List.mem_filter.mp hi).1
 have q:=pl_mem.mp hi
 rcases ho i li with⟨e,_⟩ | ⟨h,e,hm,_⟩
 ·rw[e]at q;cases q
 ·have eh:hd hs i=h:=by unfold hd;rw[e];rfl
  rw[eh]
  have lk:i < kvss.length:=by omega
  have hki:kvss[i]? = some kvss[i]:=List.getElem?_eq_getElem lk
  have eg:kvss.getD i []=kvss[i]:=by simp[List.getD,hki]
  rw[eg]at hm
  have:=(hb.row i (ds[i]'(by rw[hb.len];exact lk)) kvss[i] (List.getElem?_eq_getElem _) hki).2
  obtain⟨p,hp,ep⟩:=List.mem_map.mp hm
  obtain⟨t,et,t0,tb,_⟩:=this.row p hp
  rw[et]at ep
  rw[<- zjb ep]
  exact⟨t0,tb⟩
theorem zk2{β : Type}{R:Addr->β->Prop}:∀{kvs:List (List Key×V)} {as:List Addr} {f:List Key×V->β},as.length=kvs.length->(∀(i:Nat) k x,kvs[i]? = some (k,x)->∃a,as[i]? = some a/\R a (f (k,x)))->Paired (λa kv=>R a (f kv)) as kvs
 | [],[],_,_,_ => .nil
 | [],_ :: _,_,h,_=>by simp at h
 | _ :: _,[],_,h,_=>by simp at h
 | kv :: kvs,a :: as,f,h,hi=>by
  refine .cons ?_ (zk2 (by simpa using h) λi k x hk => ?_)
  ·obtain⟨a',h1,h2⟩:=hi 0 kv.1 kv.2 rfl
   simp at h1;subst h1;exact h2
  ·obtain⟨a',h1,h2⟩:=hi (i + 1) k x (by simpa using hk)
   exact⟨a',by simpa using h1,h2⟩
theorem pcomp{α β γ : Type}{R : α->γ->Prop}{S : β->γ->Prop}{T : α->β->Prop}:∀{ps:List α} {as:List β} {tv:List γ},Paired R ps tv->Paired S as tv->(∀p a kv,R p kv->S a kv->T p a)->Paired T ps as
 | _,_,_,.nil,.nil,_ => .nil
 | _,_,_,.cons r t,.cons r' t',h => .cons (h _ _ _ r r') (pcomp t t' h)
theorem pmap2{α β γ δ : Type}{T : α->β->Prop}{U : γ->δ->Prop}{f : β->γ}{g : α->δ}:∀{ps:List α} {as:List β},Paired T ps as->(∀p∈ps,∀a,T p a->U (f a) (g p))->Paired U (as.map f) (ps.map g)
 | _,_,.nil,_ => .nil
 | _,_,.cons r t,h => .cons (h _ (by simp) _ r) (pmap2 t λp hp a ha=>h p (by simp[hp]) a ha)
theorem pmapm{α γ δ : Type}{U : γ->δ->Prop}{f : α->γ}{g : α->δ}:∀{l:List α},(∀p∈l,U (f p) (g p))->Paired U (l.map f) (l.map g)
 | [],_ => .nil
 | _ :: _,h => .cons (h _ (by simp)) (pmapm λp hp=>h p (by simp[hp]))
theorem pzip{α β : Type}{T : α->β->Prop}:∀{ps:List α} {as:List β},Paired T ps as->∀q∈ps.zip as,q.1∈ps/\T q.1 q.2
 | _,_,.nil,q,h=>by simp at h
 | _,_,.cons r t,q,h=>by
  rw[List.zip_cons_cons]at h
  rcases List.mem_cons.mp h with rfl | h
  ·exact⟨by simp,r⟩
  ·obtain⟨h1,h2⟩:=pzip t q h
   exact⟨by simp[h1],h2⟩
theorem zoe{β : Type}{ps:List (Nat×Nat)}{as:List β}(h:ps.length<=as.length):(ps.zip as).map (λq=>pr2 q.1.1 q.1.2)=ps.map λp=>pr2 p.1 p.2:=by
 have:=congrArg (List.map λp:Nat×Nat=>pr2 p.1 p.2) (zlz h)
 rw[List.map_map]at this
 exact this
theorem zi9{sp:V->Hp->VK->Prop}{H:Hp}{F:List V->Hp->Prop}:∀{xs vs ks:List V},Paired (λx v=>∀Q:VK,Q v H->sp x H Q) xs vs->F (ks ++ vs) H->skGo sp xs ks H F
 | _,_,ks,.nil,h=>by rw[List.append_nil]at h;exact h
 | _,_,ks,.cons r t,h=>r _ (zi9 t (by rw[List.append_assoc];exact h))
def spLets(K:W.Frag):Sp:=λvs H Q _=>∃(l t p:Addr) (m:Nat) (kd:Int) (ws:List Int) (hs:List (Option (List Int))) (kv:List (Key×V)) (tv:List (List Key×V)) (ps:List (Nat×Nat)) (i j k:Nat),vs=[.ref l,.ref t,.ref p,.int k]/\m<=4/\Rd H l (.dK kv)/\H t=some (.dT tv)/\H p=some (.tup ((pr2 i j).map V.int))/\Tn m (rkk kd ws) hs kv tv ps H/\i < j/\i∈pl hs/\j∈pl hs/\k∈pl hs /\
 ∀H',Same H H'->Q (.bl (lets (rkk kd ws) (hd hs) i j k)) H'
def spDue1(K:W.Frag):Sp:=λvs H Q _=>∃(l t p:Addr) (m:Nat) (kd:Int) (ws:List Int) (hs:List (Option (List Int))) (kv:List (Key×V)) (tv:List (List Key×V)) (ps:List (Nat×Nat)) (i j:Nat),vs=[.ref l,.ref t,.ref p]/\m<=4/\H l=some (.dK kv)/\H t=some (.dT tv)/\H p=some (.tup ((pr2 i j).map V.int))/\Tn m (rkk kd ws) hs kv tv ps H/\i < j/\i∈pl hs/\j∈pl hs /\
 ∀H',Same H H'->Q (.bl (due (rkk kd ws) (hd hs) (pl hs) i j)) H'
def spPairs(CG CO CD CT CW Pt:Addr):Sp:=λvs H Q _=>∃(r b:Addr) (m:Nat) (pf po:Addr) (n kd:Int) (ws:List Int) (ds:List Addr) (kvss:List (List (List Key×V))),vs=[.ref r,.ref b]/\RgAt CG H r m pf po/\AtK CO CD CT CW kd ws H po/\1<=m/\m<=4/\0<=kd/\kd < 4/\Nn ws/\(∀x∈ws,x < 10 ^ 31)/\PL n m H b ds kvss/\ds.length<=12/\H Pt=some (.tbl #[]) /\
 ∀D H' us qs hs,H D=none->ButT Pt H H'->hs.length=kvss.length->(∀i,i < hs.length->HO1 (rkk kd ws) (hs.getD i none) (kvss.getD i []))->Prs (rkk kd ws) hs qs->TL 2 H' D us (qs.filter (dueP (rkk kd ws) (hd hs) (pl hs)))->Q (.ref D) H'
def spWhole:Sp:=λvs H Q _=>∃(i:Int),vs=[.int i]/\Q (.bl true) H
def spLP:Sp:=λvs H Q _=>∃(c:Int),vs=[.int c]/\∀(n:Int) H',Same H H'->Pr n->n<=9973->Q (.int n) H'
def spLRs:Sp:=λvs H Q _=>∃(c:Int),vs=[.int c]/\∀(n:Int) H',Same H H'->(n=0\/Pr n)->n<=9973->Q (.int n) H'
def spLWs:Sp:=λvs H Q _=>∃(m:Nat) (c:Int),vs=[.int m,.int c]/\1<=m/\m<=4/\∀l ws H',Same H H'->H' l=some (.lst (ws.map V.int))->ws.length=m->Nn ws->(∀x∈ws,x < 10 ^ 31)->Q (.ref l) H'
structure How(H:Hp)(r:Addr)(n:Int)(m:Nat)(kd:Int)(l:Addr)(ws:List Int):Prop where
 at_:H r=some (.tup [.int n,.int m,.int kd,.ref l])
 w:H l=some (.lst (ws.map V.int))
 lw:ws.length=m
 wn:Nn ws
 wb:∀x∈ws,x < 10 ^ 31
 m1:1<=m
 m4:m<=4
 k0:0<=kd
 k4:kd < 4
 n0:n=0\/Pr n
 n1:n<=9973
theorem How.same{H H':Hp}{r:Addr}{n:Int}{m:Nat}{kd:Int}{l:Addr}{ws:List Int}(h:How H r n m kd l ws)(e:Same H H'):How H' r n m kd l ws:=⟨e _ _ h.at_,e _ _ h.w,h.lw,h.wn,h.wb,h.m1,h.m4,h.k0,h.k4,h.n0,h.n1⟩
theorem atI2{a b c d:V}:atI [a,b,c,d] 2=some c:=rfl
theorem atI3{a b c d:V}:atI [a,b,c,d] 3=some d:=rfl
theorem atI0'{a b c d:V}:atI [a,b,c,d] 0=some a:=rfl
theorem atI1'{a b c d:V}:atI [a,b,c,d] 1=some b:=rfl
def spHow(K:W.Frag):Sp:=λvs H Q _=>∃(a:Addr) (ns:List Int),vs=[.ref a,.int 4]/\SqL K H a (ns.map V.int)/\∀r n m kd l ws H',Same H H'->How H' r n m kd l ws->Q (.ref r) H'
def spCom:Sp:=λvs H Q _=>∃(t b:Int),vs=[.int t,.int b]/\-9<=t/\t<=9/\1<=b/\b<=3/\∀g:Int,0 < g->g<=9->Q (.int g) H
def spMd:Sp:=λvs H Q _=>∃(n t b:Int),vs=[.int n,.int t,.int b]/\(n=0\/Pr n)/\-9<=t/\t<=9/\1<=b/\b<=3/\∀v z H',Same H H'->NV n H' v z->Q v H'
def spSm:Sp:=λvs H Q _=>∃(n c:Int),vs=[.int n,.int c]/\(n=0\/Pr n)/\∀v z H',Same H H'->NV n H' v z->Q v H'
def spTrm:Sp:=λvs H Q _=>∃(m:Nat) (c T:Int),vs=[.int m,.int c,.int T]/\m<=4/\1<=T/\T<=10/\∀r ts H',Same H H'->H' r=some (.tup (ts.map V.int))->T0 m ts->(∀i,ts.getD i 0 < T)->Q (.ref r) H'
def spLRk:Sp:=λvs H Q _=>∃(r t:Addr) (n:Int) (m:Nat) (kd:Int) (l:Addr) (ws xs:List Int),vs=[.ref r,.ref t]/\How H r n m kd l ws/\H t=some (.tup (xs.map V.int))/\xs.length=m/\Pws xs/\∀p H',Same H H'->H' p=some (.tup ((rkk kd ws xs).map V.int))->Q (.ref p) H'
def spLGo:Sp:=λvs H Q _=>∃(a b:Addr) (xs ys:List Int),vs=[.ref a,.ref b]/\H a=some (.tup (xs.map V.int))/\H b=some (.tup (ys.map V.int))/\xs.length=ys.length/\xs.length<=1000/\∀H',Same H H'->Q (.bl (goesI xs ys)) H'
def spLMt:Sp:=λvs H Q _=>∃(a b:Addr) (xs ys:List Int),vs=[.ref a,.ref b]/\H a=some (.tup (xs.map V.int))/\H b=some (.tup (ys.map V.int))/\xs.length=ys.length/\xs.length<=1000/\∀r H',Same H H'->H' r=some (.tup ((meetT xs ys).map V.int))->Q (.ref r) H'
def spLRg(CG CO CD CT CW:Addr):Sp:=λvs H Q _=>∃(r:Addr) (n:Int) (m:Nat) (kd:Int) (l:Addr) (ws:List Int),vs=[.ref r]/\How H r n m kd l ws/\∀x pf po H',Same H H'->RgAt CG H' x m pf po->AtK CO CD CT CW kd ws H' po->Q (.ref x) H'
/-- heads in a list: None or a term -/
def Hd1(H:Hp)(o:Option (List Int))(v:V):Prop:=(o=none/\v = .non)\/∃h,o=some h/\Trm H h v
def HdL(H:Hp)(g:Addr)(vs:List V)(hs:List (Option (List Int))):Prop:=H g=some (.lst vs)/\Paired (Hd1 H) hs vs
theorem Hd1.same{H H':Hp}{o:Option (List Int)}{v:V}(h:Hd1 H o v)(e:∀b xs,H b=some (.tup xs)->H' b=some (.tup xs)):Hd1 H' o v:=h.elim .inl fun⟨h,e1,r,e2,q⟩ => .inr ⟨h,e1,r,e2,e _ _ q⟩
theorem HdL.same{H H':Hp}{g:Addr}{vs:List V}{hs:List (Option (List Int))}(h:HdL H g vs hs)(e:Same H H'):HdL H' g vs hs:=⟨e _ _ h.1,pimp (λ_ _ q=>q.same λb xs hb=>e _ _ hb) h.2⟩
theorem pnth{α : Type}{R : α->V->Prop}:∀{l:List α} {ys:List V},Paired R l ys->∀{i:Nat} {a : α},l[i]? = some a->∃v,ys[i]? = some v/\R a v
 | _,_,.nil,_,_,h=>by simp at h
 | _,_,.cons r t,0,_,h=>by simp at h;subst h;exact⟨_,rfl,r⟩
 | _,_,.cons r t,i + 1,_,h=>by simp at h;exact pnth t h
theorem HdL.get{H:Hp}{g:Addr}{vs:List V}{hs:List (Option (List Int))}(h:HdL H g vs hs){i:Nat}(hi:i∈pl hs):∃r,atI vs (i:Int)=some (.ref r)/\H r=some (.tup ((hd hs i).map V.int)):=by
 have q:=pl_mem.mp hi
 have li:i < hs.length:=by
  rcases Nat.lt_or_ge i hs.length with c | c
  ·exact c
  ·rw[show hs.getD i none=none by simp[List.getD,List.getElem?_eq_none c]]at q;cases q
 obtain⟨v,hv,r⟩:=pnth h.2 (List.getElem?_eq_getElem li)
 have eg:hs.getD i none=hs[i]:=by simp[List.getD,li]
 rw[eg]at q
 rcases r with⟨e,_⟩ | ⟨t,e,r,rfl,hr⟩
 ·rw[e]at q;cases q
 ·refine⟨r,ze6 hv,?_⟩
  unfold hd
  rw[eg,e];exact hr
theorem HdL.non{H:Hp}{g:Addr}{vs:List V}{hs:List (Option (List Int))}(h:HdL H g vs hs){i:Nat}(li:i < hs.length):∃v,atI vs (i:Int)=some v/\((i ∉ pl hs/\v = .non)\/(i∈pl hs/\∃r,v = .ref r)):=by
 obtain⟨v,hv,r⟩:=pnth h.2 (List.getElem?_eq_getElem li)
 have eg:hs.getD i none=hs[i]:=by simp[List.getD,li]
 refine⟨v,ze6 hv,?_⟩
 rw[pl_mem,eg]
 rcases r with⟨e,e2⟩ | ⟨t,e,r,e2,hr⟩
 ·exact .inl ⟨by rw[e];simp,e2⟩
 ·exact .inr ⟨by rw[e];rfl,r,e2⟩
def spSpot:Sp:=λvs H Q _=>∃(r g:Addr) (n:Int) (m:Nat) (kd:Int) (l:Addr) (ws:List Int) (us:List V) (hs:List (Option (List Int))) (i j:Nat),vs=[.ref r,.ref g,.int i,.int j]/\How H r n m kd l ws/\HdL H g us hs/\HsT m hs/\i∈pl hs/\j∈pl hs/\∀v H',Same H H'->NstH H' (tk (rkk kd ws) (hd hs) (min i j) (max i j)) v->Q v H'
def spPass:Sp:=λvs H Q _=>∃(r g:Addr) (n:Int) (m:Nat) (kd:Int) (l:Addr) (ws:List Int) (us:List V) (hs:List (Option (List Int))) (i j:Nat),vs=[.ref r,.ref g,.int i,.int j]/\How H r n m kd l ws/\HdL H g us hs/\HsT m hs/\hs.length<=12/\i < j/\i∈pl hs/\j∈pl hs/\∀H',Same H H'->Q (.bl (!due (rkk kd ws) (hd hs) (pl hs) i j)) H'
def spDue:Sp:=λvs H Q _=>∃(r g:Addr) (n:Int) (m:Nat) (kd:Int) (l:Addr) (ws:List Int) (us:List V) (hs:List (Option (List Int))),vs=[.ref r,.ref g]/\How H r n m kd l ws/\HdL H g us hs/\HsT m hs/\hs.length<=12 /\
 ∀D H' ys ds,Same H H'->TL 2 H' D ys ds->ds.Nodup->(∀p,p∈ds↔∃i j,i < j/\i∈pl hs/\j∈pl hs/\p=pr2 i j/\due (rkk kd ws) (hd hs) (pl hs) i j=true)->ds.Pairwise (λa b=>HT.lexLt (kf (rkk kd ws) (hd hs) b) (kf (rkk kd ws) (hd hs) a)=false)->Q (.ref D) H'
theorem zit:∀{xs ws:List Int},ws.length=xs.length->(List.range xs.length).map (λi=>ws.getD i 0 * xs.getD i 0)=List.zipWith (λa b=>a * b) xs ws
 | [],_,_=>by simp
 | x :: xs,[],h=>by simp at h
 | x :: xs,w :: ws,h=>by
  rw[List.length_cons,List.range_succ_eq_map,List.map_cons,List.map_map,List.zipWith_cons_cons,<- zit (by simpa using h),Int.mul_comm x w]
  rfl
/-- a comprehension's turns -/
def CGo(J:It)(H1:Hp)(D:Addr)(g:TG)(tc:TT)(te:TE)(σ0:St)(Q:VK):Prop:=∃W:Nat->Nat->List V->St->Hp->Prop,(∃m,W 0 m [] σ0 (upd H1 D (.lst [])))/\∀i m ys σ' H',W i m ys σ' H'->H' D=some (.lst ys) /\
  ((J.stop i H'/\Q (.ref D) H')\/(J.go i H'/\ys.length < sizeLine/\∀x H2,J.yld i H' x H2->g x σ' H2 λσ2 H3=>tc σ2 H3 λb H4=>
   if b=true then te σ2 H4 λv H5=>H5 D=some (.lst ys)/\∃m',m' < m/\W (i + 1) m' (ys ++ [v]) σ2 (upd H5 D (.lst (ys ++ [v])))
   else ∃m',m' < m/\W (i + 1) m' ys σ2 H4))
theorem zi7{mp:List (Option Nat)}{wi:TI}{g:TG}{tc:TT}{te:TE}{σ : St}{H:Hp}{Q:VK}(h:wi σ H λJ H1=>∀D,H1 D=none->CGo J H1 D g tc te (st0 mp σ) Q):tComp mp wi g tc te σ H Q:=by unfold tComp;exact h
theorem zkm{J:It}{H1:Hp}{n:Nat}{P:Nat->V->Hp->Prop}{g:TG}{tc:TT}{te:TE}{Q:VK}{σ0:St}{D:Addr}(S:Walk J H1 n P)(hD:H1 D=none)(hn:n<=sizeLine)(Sv:St->Prop)(p:Nat->Bool)(F:Nat->V->Hp->Prop)
  (monoS:∀i v H H',Same H H'->F i v H->F i v H') (monoU:∀i v H ys ys',H D=some (.lst ys)->F i v H->F i v (upd H D (.lst ys'))) (h0:Sv σ0)
  (step:∀i x σ' H2,i < n->Sv σ'->Same H1 H2->P i x H2->(∃ys,H2 D=some (.lst ys))->∀(Ny:V->St->Hp->Prop) (Nn:St->Hp->Prop),(∀v σ2 H5,Sv σ2->Same H2 H5->F i v H5->p i=true->Ny v σ2 H5)->(∀σ2 H4,Sv σ2->Same H2 H4->p i=false->Nn σ2 H4) ->
   g x σ' H2 λσ2 H3=>tc σ2 H3 λb H4=>if b=true then te σ2 H4 λv H5=>Ny v σ2 H5 else Nn σ2 H4)
  (hQ:∀H' ys,Same H1 H'->H' D=some (.lst ys)->Paired (λi v=>F i v H') ((List.range n).filter p) ys->Q (.ref D) H'):CGo J H1 D g tc te σ0 Q:=znk S hD hn Sv p F monoS monoU h0 step hQ
theorem NstH.pair{rk:List Int->List Int}{h:Nat->List Int}{a c:Nat}{H:Hp}{v:V}(q:NstH H (tk rk h a c) v):∃t r,v = .ref t/\H t=some (.tup [.ref r,.int a,.int c]):=by
 obtain⟨t,r,xs,i,j,h1,h2,h3,h4⟩:=q
 unfold tk at h4
 have e:=(List.append_inj' h4 rfl).2
 injection e with e1 e2
 injection e2 with e2 _
 subst e1 e2
 exact⟨t,r,h1,h2⟩
theorem pmapS{α β γ : Type}{T : α->β->Prop}{U : γ->β->Prop}{f : α->γ}:∀{ps:List α} {as:List β},Paired T ps as->(∀p∈ps,∀a,T p a->U (f p) a)->Paired U (ps.map f) as
 | _,_,.nil,_ => .nil
 | _,_,.cons r t,h => .cons (h _ (by simp) _ r) (pmapS t λp hp a ha=>h p (by simp[hp]) a ha)
theorem zft:∀{qs:List (List Int)},(List.range qs.length).map (λi=>qs.getD i [])=qs
 | []=>rfl
 | x :: qs=>by
  rw[List.length_cons,List.range_succ_eq_map,List.map_cons,List.map_map]
  show x :: (List.range qs.length).map (λi=>qs.getD i [])=_
  rw[zft]
def DuM(rk:List Int->List Int)(hs:List (Option (List Int)))(a c:Nat):Prop:=a < c/\a∈pl hs/\c∈pl hs/\due rk (hd hs) (pl hs) a c=true
theorem zkc{H:Hp}{a:Addr}{ys zs:List V}{ns:List Int}{v:V}(ha:H a=some (.lst ys))(h:NstH H ns v):NstH (upd H a (.lst zs)) ns v:=h.keep λb xs hb=>by rw[zal (zbk hb ha (by intro z;cases z))];exact hb
theorem NV.updD{n:Int}{H:Hp}{v:V}{z:Int×Int}{d:Addr}{kvs:List (List Key×V)}{o:HO}(e:H d=some (.dT kvs))(h:NV n H v z):NV n (upd H d o) v z:=by
 by_cases c:n=0
 ·subst c
  obtain⟨r,rfl,hr⟩:=nv_0.mp h
  exact nv_0.mpr ⟨r,rfl,by rw[zal (zbk hr e (by intro z;cases z))];exact hr⟩
 ·exact(nv_n c).mpr ((nv_n c).mp h)
theorem u70{k:Nat}{A:Around}(h:Room k A):A.units + 70 < cLine:=by have:=h.un;omega
theorem bt{Pt:Addr}{H H':Hp}{b:Addr}{o:HO}{ps:Array Value}(h:ButT Pt H H')(hT:H Pt=some (.tbl ps))(hb:H b=some o)(no:∀ps,o≠.tbl ps):H' b=some o:=h b o hb λe=>by
 rw[e,hT]at hb;cases hb;exact no _ rfl
theorem zov{A:Nat->Addr->Prop}{n:Nat}{ys:List V}(h:Paired (λi v=>∃d,v=V.ref d/\A i d) (List.range n) ys):∃ds:List Addr,ys=ds.map V.ref/\ds.length=n/\∀i d,ds[i]? = some d->A i d:=by
 have key:∀{l:List Nat} {ys:List V},Paired (λi v=>∃d,v=V.ref d/\A i d) l ys->∃ds:List Addr,ys=ds.map V.ref:=fun{l ys} h=>by
  induction h with
  | nil=>exact⟨[],rfl⟩
  | cons r _ ih=>obtain⟨d,e,_⟩:=r;obtain⟨ds,q⟩:=ih;exact⟨d :: ds,by rw[List.map_cons,e,q]⟩
 obtain⟨ds,e⟩:=key h
 have lh:=Paired.length h
 rw[List.length_range,e,List.length_map]at lh
 refine⟨ds,e,lh.symm,λi d hd => ?_⟩
 have hv:ys[i]? = some (.ref d):=by rw[e,List.getElem?_map,hd];rfl
 obtain⟨j,hj,d',ed,q⟩:=pget h hv
 have hi:i < n:=by rw[lh];exact(List.getElem?_eq_some_iff.mp hd).1
 rw[List.getElem?_range hi]at hj
 injection hj with hj;subst hj
 injection ed with ed;subst ed
 exact q
def spPr:Sp:=λvs H Q _=>∃(p:Addr) (i j:Int),vs=[.ref p]/\H p=some (.tup [.int i,.int j])/\Q (.bl true) H
def spLaw(K:W.Frag)(Pt:Addr):Sp:=λvs H Q _=>∃(a:Addr) (ns:List Int),vs=[.ref a]/\SqL K H a (ns.map V.int)/\ns.length<=63/\H Pt=some (.tbl #[])/\∀H',Q (.bl true) H'
/-- a row of the law's,as it lies -/
structure Rw(n:Int)(m:Nat)(rk:List Int->List Int)(H:Hp)(N:Nat)(o:Option (List Int))(kvs:List (List Key×V)):Prop where
 nd:(kvs.map (·.1)).Nodup
 b:kvs.length<=N
 row:∀p∈kvs,∃t,p.1=ky t/\T0 m t/\(∀i,t.getD i 0 < topC m)/\(∃z,NV n H p.2 z)/\∃h,o=some h/\(t=h\/HT.lexLt (rk t) (rk h)=true)
 hd:∀h,o=some h->ky h∈kvs.map (·.1)/\T0 m h/\∀i,h.getD i 0 < topC m
structure RS(n:Int)(m:Nat)(rk:List Int->List Int)(H:Hp)(N:Nat)(b:Addr)(ds:List Addr)(kvss:List (List (List Key×V)))(g:Addr)(us:List V)(hs:List (Option (List Int))):Prop where
 at_:H b=some (.lst (ds.map V.ref))
 len:ds.length=kvss.length
 lh:hs.length=kvss.length
 nd:ds.Nodup
 row:∀(i:Nat) (d:Addr) (kvs:List (List Key×V)),ds[i]? = some d->kvss[i]? = some kvs->H d=some (.dT kvs)/\Rw n m rk H N (hs.getD i none) kvs
 hg:HdL H g us hs
 ne:b≠g
theorem Rw.same{n:Int}{m:Nat}{rk:List Int->List Int}{H H':Hp}{N:Nat}{o:Option (List Int)}{kvs:List (List Key×V)}(h:Rw n m rk H N o kvs)(e:∀v z,NV n H v z->NV n H' v z):Rw n m rk H' N o kvs:=⟨h.nd,h.b,λp hp=>let ⟨t,a,b,c,⟨z,d⟩,f⟩:=h.row p hp;⟨t,a,b,c,⟨z,e _ _ d⟩,f⟩,h.hd⟩
theorem RS.same{n:Int}{m:Nat}{rk:List Int->List Int}{H H':Hp}{N:Nat}{b:Addr}{ds:List Addr}{kvss:List (List (List Key×V))}{g:Addr}{us:List V}{hs:List (Option (List Int))}(h:RS n m rk H N b ds kvss g us hs)(e:Same H H'):RS n m rk H' N b ds kvss g us hs:=⟨e _ _ h.at_,h.len,h.lh,h.nd,λi d kvs h1 h2=>⟨e _ _ (h.row i d kvs h1 h2).1,(h.row i d kvs h1 h2).2.same λv z q=>q.same e⟩,h.hg.same e,h.ne⟩
theorem zi6{kvs:List (List Key×V)}{k:List Key}{v:V}:(putK kvs k v).map (·.1)=kvs.map (·.1)\/(k ∉ kvs.map (·.1)/\(putK kvs k v).map (·.1)=kvs.map (·.1) ++ [k]):=by
 unfold putK
 have q:(kvs.any λkv=>decide (kv.1=k))=true↔k∈kvs.map (·.1):=by
  rw[List.any_eq_true,List.mem_map]
  exact⟨fun⟨p,h1,h2⟩=>⟨p,h1,of_decide_eq_true h2⟩,fun⟨p,h1,h2⟩=>⟨p,h1,decide_eq_true h2⟩⟩
 by_cases c:k∈kvs.map (·.1)
 ·refine .inl ?_
  rw[if_pos (q.mpr c),List.map_map]
  refine List.map_congr_left λp _ => ?_
  show (if p.1=k then(p.1,v) else p).1=p.1
  split <;> rfl
 ·refine .inr ⟨c,?_⟩
  rw[if_neg (λz=>c (q.mp z)),List.map_append];rfl
theorem zpr{kvs:List (List Key×V)}{k:List Key}{v:V}{p:List Key×V}(h:p∈putK kvs k v):p∈kvs\/p=(k,v):=by
 unfold putK at h
 split at h
 ·obtain⟨q,h1,h2⟩:=List.mem_map.mp h
  by_cases c:q.1=k
  ·rw[if_pos c,c]at h2;exact .inr h2.symm
  ·rw[if_neg c]at h2;rw[<- h2];exact .inl h1
 ·rcases List.mem_append.mp h with h | h
  ·exact .inl h
  ·exact .inr (List.mem_singleton.mp h)
theorem zow{kvs:List (List Key×V)}{k:List Key}{v:V}:(putK kvs k v).length<=kvs.length + 1:=by
 unfold putK;split <;> simp
theorem Rw.put{n:Int}{m:Nat}{rk:List Int->List Int}{H:Hp}{N:Nat}{h t:List Int}{kvs:List (List Key×V)}{v:V}{z:Int×Int}(q:Rw n m rk H N (some h) kvs)(lt:HT.lexLt (rk t) (rk h)=true)(t0:T0 m t)(tb:∀i,t.getD i 0 < topC m)(nv:NV n H v z):Rw n m rk H (N + 1) (some h) (putK kvs (ky t) v):=by
 refine⟨?_,Nat.le_trans zow (Nat.succ_le_succ q.b),λp hp => ?_,λh' e => ?_⟩
 ·rcases zi6 (kvs:=kvs) (k:=ky t) (v:=v) with e | ⟨c,e⟩
  ·rw[e];exact q.nd
  ·rw[e]
   exact List.nodup_append.mpr ⟨q.nd,by simp,λa ha b hb e=>c (by rw[List.mem_singleton.mp hb]at e;rw[<- e];exact ha)⟩
 ·rcases zpr hp with hp | rfl
  ·exact q.row p hp
  ·exact⟨t,rfl,t0,tb,⟨z,nv⟩,h,rfl,.inr lt⟩
 ·obtain⟨h1,h2⟩:=q.hd h' e
  refine⟨?_,h2⟩
  rcases zi6 (kvs:=kvs) (k:=ky t) (v:=v) with e | ⟨c,e⟩
  ·rw[e];exact h1
  ·rw[e];exact List.mem_append.mpr (.inl h1)
theorem Rw.more{n:Int}{m:Nat}{rk:List Int->List Int}{H:Hp}{N N':Nat}{o:Option (List Int)}{kvs:List (List Key×V)}(q:Rw n m rk H N o kvs)(h:N<=N'):Rw n m rk H N' o kvs:=⟨q.nd,Nat.le_trans q.b h,q.row,q.hd⟩
theorem NV.tup{n:Int}{H H':Hp}(e:∀b xs,H b=some (.tup xs)->H' b=some (.tup xs)){v:V}{z:Int×Int}(q:NV n H v z):NV n H' v z:=by
 by_cases c:n=0
 ·subst c
  obtain⟨r,rfl,hr⟩:=nv_0.mp q
  exact nv_0.mpr ⟨r,rfl,e _ _ hr⟩
 ·exact(nv_n c).mpr ((nv_n c).mp q)
def Kx(b g:Addr)(H H':Hp):Prop:=∀x o,H x=some o->x≠b->x≠g->H' x=some o
theorem RS.snoc{n:Int}{m:Nat}{rk:List Int->List Int}{H H':Hp}{N:Nat}{b:Addr}{ds:List Addr}{kvss:List (List (List Key×V))}{g:Addr}{us:List V}{hs:List (Option (List Int))}(h:RS n m rk H N b ds kvss g us hs)(kx:Kx b g H H'){d:Addr}{kvs:List (List Key×V)}{u:V}{o:Option (List Int)}(nd:H d=none)
  (hb:H' b=some (.lst (ds.map V.ref ++ [.ref d]))) (hg:H' g=some (.lst (us ++ [u]))) (hd:H' d=some (.dT kvs)) (rw_:Rw n m rk H' N o kvs) (hu:Hd1 H' o u):RS n m rk H' N b (ds ++ [d]) (kvss ++ [kvs]) g (us ++ [u]) (hs ++ [o]):=by
 have tk:∀x xs,H x=some (.tup xs)->H' x=some (.tup xs):=λx xs hx=>kx _ _ hx (zbk hx h.at_ (by intro z;cases z)) (zbk hx h.hg.1 (by intro z;cases z))
 have old:∀i d',ds[i]? = some d'->H d'≠none:=λi d' hi=>by
  have li:i < kvss.length:=by
   rw[<- h.len]
   rcases Nat.lt_or_ge i ds.length with q | q
   ·exact q
   ·rw[List.getElem?_eq_none q]at hi;cases hi
  rw[(h.row i d' _ hi (List.getElem?_eq_getElem li)).1];intro z;cases z
 refine⟨by rw[hb,List.map_append];rfl,by simp[h.len],by simp[h.lh],?_,λi d' kvs' h1 h2 => ?_,⟨hg,psnoc hu (pimp (λ_ _ q=>q.same tk) h.hg.2)⟩,h.ne⟩
 ·refine List.nodup_append.mpr ⟨h.nd,by simp,λx hx y hy e => ?_⟩
  rw[List.mem_singleton.mp hy]at e
  obtain⟨i,hi⟩:=List.mem_iff_getElem?.mp hx
  exact old i x hi (by rw[e];exact nd)
 ·rcases Nat.lt_trichotomy i ds.length with c | c | c
  ·rw[List.getElem?_append_left c]at h1
   rw[List.getElem?_append_left (by rw[<- h.len];exact c)]at h2
   rw[zb3,if_neg (by rw[h.lh,<- h.len];omega)]
   obtain⟨q1,q2⟩:=h.row i d' kvs' h1 h2
   exact⟨kx _ _ q1 (zbk q1 h.at_ (by intro z;cases z)) (zbk q1 h.hg.1 (by intro z;cases z)),q2.same λv z q=>q.tup tk⟩
  ·subst c
   rw[List.getElem?_append_right (Nat.le_refl _),Nat.sub_self]at h1
   rw[h.len,List.getElem?_append_right (Nat.le_refl _),Nat.sub_self]at h2
   simp at h1 h2
   subst h1 h2
   rw[zb3,if_pos (by rw[h.lh,<- h.len])]
   exact⟨hd,rw_⟩
  ·rw[List.getElem?_eq_none (by simp;omega)]at h1;cases h1
theorem RS.put{n:Int}{m:Nat}{rk:List Int->List Int}{H:Hp}{N N':Nat}{b:Addr}{ds:List Addr}{kvss:List (List (List Key×V))}{g:Addr}{us:List V}{hs:List (Option (List Int))}(h:RS n m rk H N b ds kvss g us hs)(hN:N<=N'){i:Nat}{d:Addr}{kvs kvs':List (List Key×V)}(hi:ds[i]? = some d)(hk:kvss[i]? = some kvs)(q:Rw n m rk H N' (hs.getD i none) kvs'):RS n m rk (upd H d (.dT kvs')) N' b ds (kvss.set i kvs') g us hs:=by
 have hd:=(h.row i d kvs hi hk).1
 have tk:∀x xs,H x=some (.tup xs)->(upd H d (.dT kvs')) x=some (.tup xs):=λx xs hx=>by rw[zal (zbk hx hd (by intro z;cases z))];exact hx
 refine⟨by rw[zal (zbk h.at_ hd (by intro z;cases z))];exact h.at_,by simp[h.len],by simp[h.lh],h.nd,λj d' k' h1 h2 => ?_,⟨by rw[zal (zbk h.hg.1 hd (by intro z;cases z))];exact h.hg.1,pimp (λ_ _ q=>q.same tk) h.hg.2⟩,h.ne⟩
 by_cases c:j=i
 ·subst c
  rw[hi]at h1;cases h1
  have lj:j < kvss.length:=by
   rcases Nat.lt_or_ge j kvss.length with z | z
   ·exact z
   ·rw[List.getElem?_eq_none z]at hk;cases hk
  rw[List.getElem?_set_self lj]at h2
  cases h2
  exact⟨zaf,q.same λv z nv=>nv.tup tk⟩
 ·rw[List.getElem?_set_ne (Ne.symm c)]at h2
  obtain⟨q1,q2⟩:=h.row j d' k' h1 h2
  have nd:d'≠d:=λz=>by
   subst z
   have lj:j < ds.length:=by
    rcases Nat.lt_or_ge j ds.length with z | z
    ·exact z
    ·rw[List.getElem?_eq_none z]at h1;cases h1
   exact c ((List.getElem?_inj lj h.nd).mp (h1.trans hi.symm))
  exact⟨by rw[zal nd];exact q1,(q2.more hN).same λv z nv=>nv.tup tk⟩
theorem zlq{xs:List V}{v:V}:ixN (xs ++ [v]).length (-1)=some xs.length:=by
 unfold ixN
 rw[List.length_append,List.length_singleton,if_neg (by decide),if_pos (by omega)]
 congr 1
 omega
theorem zi3{xs:List V}{v:V}:atI (xs ++ [v]) (-1)=some v:=by
 unfold atI
 rw[zlq]
 simp
theorem zna{xs:List V}{v w:V}:(xs ++ [v]).set xs.length w=xs ++ [w]:=by simp
theorem tabC{m:Nat}(m1:1<=m)(m4:m<=4):atI [V.int 6,V.int 4,V.int 3,V.int 3] ((m:Int) - 1)=some (.int (topC m)):=by
 rcases(by omega:m=1\/m=2\/m=3\/m=4) with h | h | h | h <;> subst h <;> rfl
theorem zoc{m:Nat}(m1:1<=m)(m4:m<=4):1<=topC m/\topC m<=10:=by
 rcases(by omega:m=1\/m=2\/m=3\/m=4) with h | h | h | h <;> subst h <;> decide
theorem zhn{α β : Type}{f : α->β}:∀{l:List α},(l.map f).Nodup->l.Nodup
 | [],_=>List.nodup_nil
 | x :: l,h=>by
  rw[List.map_cons,List.nodup_cons]at h
  exact List.nodup_cons.mpr ⟨λz=>h.1 (List.mem_map.mpr ⟨x,z,rfl⟩),zhn h.2⟩
theorem Rw.pk{n:Int}{m:Nat}{rk:List Int->List Int}{H:Hp}{N:Nat}{o:Option (List Int)}{kvs:List (List Key×V)}(m1:1<=m)(m4:m<=4)(hN:N<=1000)(h:Rw n m rk H N o kvs):PK n m H kvs:=⟨λp hp=>by
 obtain⟨t,a,b,c,d,_⟩:=h.row p hp
 exact⟨t,a,b,λi=>by have:=c i;have:=(zoc m1 m4).2;omega,d⟩,h.nd,Nat.le_trans h.b hN⟩
theorem Rw.hds{n:Int}{m:Nat}{rk:List Int->List Int}{H:Hp}{N:Nat}{o:Option (List Int)}{kvs:List (List Key×V)}(m1:1<=m)(m4:m<=4)(h:Rw n m rk H N o kvs):HDs kvs:=by
 have ek:kvs.map (·.1)=(kvs.map λp=>un p.1).map ky:=by
  rw[List.map_map]
  refine List.map_congr_left λp hp => ?_
  obtain⟨t,a,_⟩:=h.row p hp
  show p.1=ky (un p.1)
  rw[a,zhv]
 have bx:∀t∈kvs.map (λp=>un p.1),t∈boxL (List.replicate m (topC m)):=λt ht=>by
  obtain⟨p,hp,rfl⟩:=List.mem_map.mp ht
  obtain⟨t,a,b,c,_⟩:=h.row p hp
  rw[a,zhv]
  exact zqs b c
 have nd:(kvs.map λp=>un p.1).Nodup:=by
  have:=h.nd
  rw[ek]at this
  exact zhn this
 exact⟨_,ek,zd6 nd λa ha b hb e=>zhq (K20.hb m1 m4) a (bx a ha) b (bx b hb) e⟩
theorem Rw.deq{n:Int}{m:Nat}{rk:List Int->List Int}{K:W.Frag}{H:Hp}{N:Nat}{o:Option (List Int)}{kvs:List (List Key×V)}{x y:Addr}(h:Rw n m rk H N o kvs)(ha:H x=some (.dT kvs))(hb:H y=some (.dT kvs)):DEq K H x y true:=by
 obtain⟨da,kd,fl⟩:=zk7 (n:=n) (K:=K) (H:=H) (kvs:=kvs) λp hp=>let ⟨_,_,_,_,d,_⟩:=h.row p hp;d
 have ek:da.map (·.1)=kvs.map (·.1):=by
  have:∀{kvs:List (List Key×V)} {da:List (List Key×PyData)},KDs K H kvs da->da.map (·.1)=kvs.map (·.1):=by
   intro kvs da h
   induction h with
   | nil=>rfl
   | cons r _ ih=>rw[List.map_cons,List.map_cons,ih,r.1]
  exact this kd
 exact⟨_,_,da,da,.inl ha,.inl hb,kd,kd,fl,fl,zl9 (by rw[ek];exact h.nd) (λp hp=>⟨(fl p hp).1,(fl p hp).2⟩),λ_=>rfl⟩
theorem Rw.one{n:Int}{m:Nat}{rk:List Int->List Int}{H:Hp}{N:Nat}{o o':Option (List Int)}{kvs:List (List Key×V)}(h:Rw n m rk H N o kvs)(q:HO1 rk o' kvs):o'=o:=by
 rcases q with⟨e,e2⟩ | ⟨h',e,hm,hx⟩
 ·rw[e]
  cases o with
  | none=>rfl
  | some h1=>have:=(h.hd h1 rfl).1;rw[e2]at this;cases this
 ·rw[e]
  obtain⟨p,hp,ep⟩:=List.mem_map.mp hm
  obtain⟨t,a,b,c,d,h1,e1,e2⟩:=h.row p hp
  rw[a]at ep
  have et:=zjb ep
  subst et
  rcases e2 with e2 | e2
  ·rw[e1,e2]
  ·obtain⟨p',hp',ep'⟩:=List.mem_map.mp (h.hd h1 e1).1
   have:=hx p' hp'
   rw[ep',zhv,e2]at this
   cases this
theorem zpo{a c:List (Option (List Int))}(hl:a.length=c.length)(h:∀i,i < a.length->a.getD i none=c.getD i none):a=c:=by
 refine List.ext_getElem hl λi h1 h2 => ?_
 have:=h i h1
 simpa[List.getD,h1,h2]using this
theorem cut2(ns:List Int):∃cs,cutV (ns.map V.int) (some 2) (some 14)=cs.map V.int/\cs.length<=12/\(14 < ns.length->cs≠[]):=by
 refine⟨(ns.drop (min 2 ns.length)).take (min 14 ns.length - min 2 ns.length),?_,by simp;omega,λh z => ?_⟩
 ·unfold cutV
  rw[show (some 2:Option Int)=some ((2:Nat):Int) from rfl,show (some 14:Option Int)=some ((14:Nat):Int) from rfl,HT.sIx_nat,HT.sIx_nat,List.length_map,List.map_take,List.map_drop]
 ·have:=congrArg List.length z
  simp at this;omega
theorem cut14(ns:List Int)(h:ns.length<=63):∃cs,cutV (ns.map V.int) (some 14) (some 94)=cs.map V.int/\cs.length<=63/\(cs≠[]->14 < ns.length):=by
 refine⟨(ns.drop (min 14 ns.length)).take (min 94 ns.length - min 14 ns.length),?_,by simp;omega,λh => ?_⟩
 ·unfold cutV
  rw[show (some 14:Option Int)=some ((14:Nat):Int) from rfl,show (some 94:Option Int)=some ((94:Nat):Int) from rfl,HT.sIx_nat,HT.sIx_nat,List.length_map,List.map_take,List.map_drop]
 ·have:=λz=>h (List.length_eq_zero_iff.mp z)
  simp at this;omega
end K6
namespace K6
open PySem L2
open K1 K2 K3 K37 K20
section
variable{P:Program}{w:World}{K:W.Frag}{mg:Str->Option Value}{base:Heap}{f:Addr}{fd:FuncData}{zan zad zam zag zac zah zab:Addr}{zck zb7 zb8 zcl zau:Addr}
local macro_rules | `(tactic| walk_at "sd") => `(tactic| first
 | assumption | (dsimp only;omega) | (dsimp only;decide) | exact⟨by decide,by decide⟩ | exact⟨by decide,by decide,by decide⟩ | exact Or.inl ⟨by decide,by decide⟩ | exact⟨by omega,by omega⟩ | exact Or.inl ⟨by omega,by omega⟩ | exact Or.inr ⟨by decide,by decide⟩ | exact Or.inr ⟨by omega,by omega⟩)
local macro_rules | `(tactic| walk_at "rd") => `(tactic| repeat first
 | refine⟨_,rfl,?_⟩ | refine⟨_,_,rfl,rfl,?_⟩ | refine And.intro rfl ?_ | refine And.intro (by walk_at "sd") ?_ | with_reducible refine iteT ?_ | with_reducible refine iteF ?_ | (apply ixT_of;assumption;rfl))
local macro_rules | `(tactic| walk_at "clo") => `(tactic| exact h)
theorem scGoes:FnScope ["one","other"] ["one","other"] (defScope zcb):=⟨rfl,rfl,rfl,by decide +kernel,rfl,by decide +kernel,by decide +kernel⟩
set_option maxHeartbeats 4000000 in
theorem zou(F:FunD K "goes_into" "goes_into" zcb .none f fd)(T:Txt K mg zan zad zam zag zac zah zab)   : FnOk P w K mg base CX0 1 f fd ["one","other"] (spGoes K):=by
 refine F.okN (k:=0) scGoes (λvs H Q E h => ?_) (λcdv A outer s H vs Q E hr h => ?_)
 ·obtain⟨a,b,xs,ys,rfl,_⟩:=h
  rfl
 obtain⟨a,b,xs,ys,rfl,h⟩:=h
 refine⟨_,(zaj (zas (zaq (zd4 (K:=K) rfl rfl) rfl T.b_all (by kernel_rfl) ((zaa (zbv (N:=["power","bound"]) (Blk.plain (by decide +kernel) (by decide +kernel) rfl (by decide +kernel) zdw) rfl (zgf (K:=K) rfl true true rfl T.b_zip ((zaa (pv 0) (zaa (pv 1) zae)))) (λC0 s0 H0 fp0=>zi0 (K:=K) rfl rfl rfl zdw rfl rfl) (λC0 s0 H0 fp0=>zbu) (λC0 s0 H0 fp0=>zco zo0 (pv 0) (pv 1) (nomark _))) zae))))),?_⟩
 obtain⟨ha,hb,he,hl,k⟩:=h
 show tComp _ _ _ _ _ _ _ _
 refine zev (K:=K) (b1:=true) (b2:=true) (a:=a) (b:=b) (xs:=xs) (ys:=ys) yes2 (λx y => .bl (decide (x<=y))) (by rfl) ?_ ha hb hl ?_ ?_ λD H' e hL => ?_
 ·exact λR hR=>⟨_,rfl,_,rfl,hR⟩
 ·exact λ_ _ _ h=>h
 ·exact λi H' R _ h=>⟨_,rfl,_,rfl,_,_,rfl,rfl,h⟩
 refine⟨D,(List.range xs.length).map λi=>decide (xs.getD i 0<=ys.getD i 0),rfl,SqL.of ?_,?_⟩
 ·rw[hL]
  unfold zipV
  rw[List.filter_eq_self.mpr (λ_ _=>rfl),List.map_map,<- he,Nat.min_self]
  rfl
 ·have e2:((List.range xs.length).map λi=>decide (xs.getD i 0<=ys.getD i 0)).all id=goesI xs ys:=by
   unfold goesI
   rw[List.all_map];rfl
  rw[e2]
  exact k _ e
theorem scDeg:FnScope ["term"] ["term"] (defScope zdp):=⟨rfl,rfl,rfl,by decide +kernel,rfl,by decide +kernel,by decide +kernel⟩
set_option maxHeartbeats 4000000 in
theorem zqd(F:FunD K "degree" "degree" zdp .none f fd)(T:Txt K mg zan zad zam zag zac zah zab)   : FnOk P w K mg base CX0 1 f fd ["term"] (spDeg K):=by
 refine F.okN (k:=0) scDeg (λvs H Q E h => ?_) (λcdv A outer s H vs Q E hr h => ?_)
 ·obtain⟨a,xs,rfl,_⟩:=h
  rfl
 obtain⟨a,xs,rfl,h⟩:=h
 refine⟨_,(zaj (zas (zaq (zcm (K:=K) rfl true rfl) rfl T.b_sum (by kernel_rfl) ((zaa (pv 0) zae))))),?_⟩
 obtain⟨h1,k⟩:=h
 exact⟨_,rfl,a,xs,rfl,h1,k⟩
theorem scRankO:FnScope ["self","term"] ["self","term"] (defScope zb2):=⟨rfl,rfl,rfl,by decide +kernel,rfl,by decide +kernel,by decide +kernel⟩
set_option maxHeartbeats 4000000 in
theorem zm4(F:FunD K "rank" "Order.rank" zb2 .none f fd)(T:Txt K mg zan zad zam zag zac zah zab)   : FnOk P w K mg base CX0 1 f fd ["self","term"] (spRank (AtO zag) rkL):=by
 refine F.okN (k:=0) scRankO (λvs H Q E h => ?_) (λcdv A outer s H vs Q E hr h => ?_)
 ·obtain⟨p,t,xs,rfl,_⟩:=h
  rfl
 obtain⟨p,t,xs,rfl,h⟩:=h
 refine⟨_,(zaj (zas (zbd (zbc (K:=K) rfl) rfl T.b_tuple (by kernel_rfl) ((zaa (pv 1) zae))))),?_⟩
 obtain⟨hp,ht0,px,k⟩:=h
 have ht:=SqT.of (K:=K) ht0
 exact⟨_,rfl,t,_,rfl,.inr ⟨ht,k t H (Same.refl _) ht0⟩⟩
theorem scRankD:FnScope ["self","term"] ["self","term"] (defScope zbg):=⟨rfl,rfl,rfl,by decide +kernel,rfl,by decide +kernel,by decide +kernel⟩
set_option maxHeartbeats 4000000 in
theorem zno(F:FunD K "rank" "Degrees.rank" zbg .none f fd)(T:Txt K mg zan zad zam zag zac zah zab)(c_Deg:Cal P w K mg base CX0 1 "degree" ["term"] [] (spDeg K)):FnOk P w K mg base CX0 2 f fd ["self","term"] (spRank (AtO zac) rkD):=by
 refine F.okN (k:=1) scRankD (λvs H Q E h => ?_) (λcdv A outer s H vs Q E hr h => ?_)
 ·obtain⟨p,t,xs,rfl,_⟩:=h
  rfl
 obtain⟨p,t,xs,rfl,h⟩:=h
 refine⟨_,(zaj (zas (zav zeb (zc2 ((zaa (pe_c c_Deg hr pass00 .nil ((zaa (pv 1) zae))) zae))) (zbd (zbc (K:=K) rfl) rfl T.b_tuple (by kernel_rfl) ((zaa (pv 1) zae)))))),?_⟩
 obtain⟨hp,ht0,px,k⟩:=h
 have ht:=SqT.of (K:=K) ht0
 refine⟨_,rfl,t,xs,rfl,ht,(by show 1<=sizeLine;decide),λl hl => ?_⟩
 have e1:Same H (upd H l (HO.tup [V.int xs.sum])):=Same.upd hl
 refine⟨_,rfl,t,_,rfl,.inr ⟨e1.seqT ht,?_⟩⟩
 refine⟨_,_,_,_,rfl,rfl,SqT.of (zaf),e1.seqT ht,by simp,by simp;exact Nat.le_trans (Nat.add_le_add_left px.len 1) (by rw[sizeLine_eq];decide),λz => ?_,λ_ r hr' => ?_⟩
 ·exact absurd (List.map_eq_nil_iff.mp z) px.ne
 ·exact k r _ (e1.updR (e1.free hr')) zaf
theorem scRankT:FnScope ["self","term"] ["self","term"] (defScope zby):=⟨rfl,rfl,rfl,by decide +kernel,rfl,by decide +kernel,by decide +kernel⟩
set_option maxHeartbeats 4000000 in
theorem zns(F:FunD K "rank" "Tails.rank" zby .none f fd)(T:Txt K mg zan zad zam zag zac zah zab)(c_Deg:Cal P w K mg base CX0 1 "degree" ["term"] [] (spDeg K)):FnOk P w K mg base CX0 2 f fd ["self","term"] (spRank (AtO zah) rkT):=by
 refine F.okN (k:=1) scRankT (λvs H Q E h => ?_) (λcdv A outer s H vs Q E hr h => ?_)
 ·obtain⟨p,t,xs,rfl,_⟩:=h
  rfl
 obtain⟨p,t,xs,rfl,h⟩:=h
 refine⟨_,(zaj (zas (zav zeb (zc2 ((zaa (pe_c c_Deg hr pass00 .nil ((zaa (pv 1) zae))) zae))) (zbd (zbc (K:=K) rfl) rfl T.b_tuple (by kernel_rfl) ((zaa (zbv (N:=["power"]) (Blk.plain (by decide +kernel) (by decide +kernel) rfl (by decide +kernel) zjk) rfl (zla (K:=K) rfl rfl T.b_reversed ((zaa (pv 1) zae))) (λC0 s0 H0 fp0=>zdc (i:=0) zjk rfl rfl) (λC0 s0 H0 fp0=>zbu) (λC0 s0 H0 fp0=>zls zgv (pv 0))) zae)))))),?_⟩
 obtain⟨hp,ht0,px,k⟩:=h
 have ht:=SqT.of (K:=K) ht0
 refine⟨_,rfl,t,xs,rfl,ht,(by show 1<=sizeLine;decide),λl hl => ?_⟩
 have e1:Same H (upd H l (HO.tup [V.int xs.sum])):=Same.upd hl
 have ht1:=e1.seqT ht
 have lm:(xs.map V.int).length=xs.length:=List.length_map _
 show tComp _ _ _ _ _ _ _ _
 refine zdg (J:=Itv K t (xs.map V.int).length) (H1:=upd H l (HO.tup [V.int xs.sum])) (zi5 ht1) (by rw[lm];exact Nat.le_trans px.len (by decide)) ?_ (λσ=>σ.length=1) (λ_=>true) (λi => .int (-(xs.getD (xs.length - 1 - i) 0))) rfl ?_ λD H' e hL => ?_
 ·exact λR hR=>⟨_,rfl,t,_,rfl,ht1,hR⟩
 ·rintro i x σ' H2 hi hs e hx Ny Nn hy hn
  rw[lm]at hx
  rw[zcx hx]
  match σ',hs with
  | [_],_=>exact⟨_,rfl,_,rfl,hy _ _ rfl (Same.refl _) rfl⟩
 rw[List.filter_eq_self.mpr (λ_ _=>rfl),lm]at hL
 have eL:(List.range xs.length).map (λi=>V.int (-(xs.getD (xs.length - 1 - i) 0)))=(xs.reverse.map λx => -x).map V.int:=by
  rw[<- zja xs λx => -x,List.map_map];rfl
 rw[eL]at hL
 refine⟨D,_,rfl,.inl ⟨SqL.of hL,λm hm => ?_⟩⟩
 have e2:Same H' (upd H' m (HO.tup ((xs.reverse.map λx => -x).map V.int))):=Same.upd hm
 have e3:=(e1.trans e).trans e2
 refine⟨l,m,_,_,rfl,rfl,SqT.of (e2 _ _ (e _ _ zaf)),SqT.of zaf,by simp,by simp;exact Nat.le_trans (Nat.add_le_add_left px.len 1) (by rw[sizeLine_eq];decide),λz => ?_,λ_ r hr' => ?_⟩
 ·exact absurd (by simpa using z) px.ne
 ·exact k r _ (e3.updR (e3.free hr')) zaf
theorem scWInit:FnScope ["self","weights"] ["self","weights"] (defScope za1):=⟨rfl,rfl,rfl,by decide +kernel,rfl,by decide +kernel,by decide +kernel⟩
set_option maxHeartbeats 4000000 in
theorem zmi(F:FunD K "__init__" "Weights.__init__" za1 .none f fd)(T:Txt K mg zan zad zam zag zac zah zab)(x_NoOrder:Exc K mg base "NoOrder" zb7)  : FnOk P w K mg base (CXe P w) 1 f fd ["self","weights"] (spWInit K zab zb7):=by
 refine F.okX (k:=0) scWInit (λvs H Q E h => ?_) (λcdv A outer s H vs Q E hr h => ?_)
 ·obtain⟨p,dx,l,ws,rfl,_⟩:=h
  rfl
 obtain⟨p,dx,l,ws,rfl,h⟩:=h
 refine⟨_,(zai (zbs (zdd (zaq (zhi (K:=K) rfl rfl) rfl T.b_any (by kernel_rfl) ((zaa (zbv (N:=["weight"]) (Blk.plain (by decide +kernel) (by decide +kernel) rfl (by decide +kernel) zg7) rfl (zdr (K:=K) rfl (pv 1)) (λC0 s0 H0 fp0=>zdc (i:=0) zg7 rfl rfl) (λC0 s0 H0 fp0=>zbu) (λC0 s0 H0 fp0=>zco zjp (pv 0) (zak) (nomark _))) zae)))) (zaj (zlp x_NoOrder rfl rfl zb5 ((zaa (zhh) zae)))) zaw)
  (zaj (zha (pv 0) (zbd (zbc (K:=K) rfl) rfl T.b_tuple (by kernel_rfl) ((zaa (pv 1) zae))) rfl))),?_⟩
 obtain⟨hp,hl,hlen,k⟩:=h
 have lm:(ws.map V.int).length=ws.length:=List.length_map _
 show tComp _ _ _ _ _ _ _ _
 refine zdg (J:=Itl K l) (H1:=H) (zde hl) (by rw[lm];exact Nat.le_trans hlen (by decide)) ?_ (λσ=>σ.length=1) (λ_=>true) (λi => .bl (decide (ws.getD i 0 < 0))) rfl ?_ λD H' e hL => ?_
 ·exact λR hR=>⟨_,rfl,l,rfl,⟨_,hl⟩,hR⟩
 ·rintro i x σ' H2 hi hs e hx Ny Nn hy hn
  rw[zcx hx]
  match σ',hs with
  | [_],_=>exact⟨_,rfl,_,_,rfl,rfl,hy _ _ rfl (Same.refl _) rfl⟩
 rw[List.filter_eq_self.mpr (λ_ _=>rfl),lm]at hL
 have eL:(List.range ws.length).map (λi=>V.bl (decide (ws.getD i 0 < 0)))=((List.range ws.length).map λi=>decide (ws.getD i 0 < 0)).map V.bl:=by rw[List.map_map];rfl
 rw[eL]at hL
 refine⟨D,_,rfl,SqL.of hL,_,rfl,?_⟩
 rw[zpw]
 refine cN (λc => ?_) (λc => ?_)
 ·refine⟨(by show 1<=sizeLine;decide),?_⟩
  rcases k with⟨q,_⟩ | ⟨_,q⟩
  ·exact absurd q c
  ·exact q H' e
 rcases k with⟨_,k⟩ | ⟨q,_⟩
 case inr=>exact absurd c q
 refine⟨_,rfl,l,_,rfl,.inl ⟨e.seq hl,λm hm => ?_⟩⟩
 have e2:Same H' (upd H' m (HO.tup (ws.map V.int))):=Same.upd hm
 have hp2:=e2 _ _ (e _ _ hp)
 have npm:m≠p:=λz=>by subst z;rw[e _ _ hp]at hm;cases hm
 refine⟨_,rfl,p,zab,dx,[],rfl,hp2,T.cl_Weights,T.na_Weights_weights,(by show 0 < 1000;decide),?_⟩
 refine k m _ zaf (by rw[zal npm];exact zaf) λb o hb nb => ?_
 rw[zal nb]
 exact e2 _ _ (e _ _ hb)
theorem scRankW:FnScope ["self","term","weighed"] ["self","term"] (defScope zbh):=⟨rfl,rfl,rfl,by decide +kernel,rfl,by decide +kernel,by decide +kernel⟩
set_option maxHeartbeats 4000000 in
theorem zne{ws:List Int}(F:FunD K "rank" "Weights.rank" zbh .none f fd)(T:Txt K mg zan zad zam zag zac zah zab)  (hwn:Nn ws) (hwb:∀x∈ws,x < 10 ^ 31):FnOk P w K mg base CX0 1 f fd ["self","term"] (spRank (AtW zab ws) (rkW ws)):=by
 refine F.okN (k:=0) scRankW (λvs H Q E h => ?_) (λcdv A outer s H vs Q E hr h => ?_)
 ·obtain⟨p,t,xs,rfl,_⟩:=h
  rfl
 obtain⟨p,t,xs,rfl,h⟩:=h
 refine⟨_,(zai (zaz (i:=2) scRankW.nd rfl (Or.inl rfl) (zaq (zcm (K:=K) rfl false rfl) rfl T.b_sum (by kernel_rfl) ((zaa (zbv (N:=["power","weight"]) (Blk.plain (by decide +kernel) (by decide +kernel) rfl (by decide +kernel) zdi) rfl (zgf (K:=K) rfl true true rfl T.b_zip ((zaa (pv 1) (zaa (zgk (K:=K) rfl (pv 0) rfl) zae)))) (λC0 s0 H0 fp0=>zi0 (K:=K) rfl rfl rfl zdi rfl rfl) (λC0 s0 H0 fp0=>zbu) (λC0 s0 H0 fp0=>zav zln (pv 0) (pv 1))) zae))))
  (zaj (zas (zav zeb (zc2 ((zaa (pv 2) zae))) (zbd (zbc (K:=K) rfl) rfl T.b_tuple (by kernel_rfl) ((zaa (pv 1) zae))))))),?_⟩
 obtain⟨hp,ht0,px,k⟩:=h
 have ht:=SqT.of (K:=K) ht0
 obtain⟨dx,wt,hq,hw⟩:=id hp
 show tComp _ _ _ _ _ _ _ _
 refine zev (K:=K) (b1:=true) (b2:=true) (a:=t) (b:=wt) (xs:=xs) (ys:=ws) yes2 (λx y => .int (x * y)) (by rfl) ?_ ht (SqT.of hw) (Nat.le_trans px.len (by decide)) ?_ ?_ λD H' e hL => ?_
 ·exact λR hR=>⟨_,rfl,_,rfl,p,zab,dx,_,_,rfl,hq,T.cl_Weights,T.na_Weights_weights,rfl,hR⟩
 ·exact λ_ _ _ h=>h
 ·exact λi H' R _ h=>⟨_,rfl,_,rfl,_,_,rfl,rfl,⟨bits px.nn px.hi i,bits hwn hwb i⟩,h⟩
 rw[zn8]at hL
 refine⟨D,_,rfl,SqL.of hL,?_⟩
 refine⟨_,rfl,(by show 1<=sizeLine;decide),λl hl => ?_⟩
 have e1:Same H' (upd H' l (HO.tup [V.int (wsum ws xs)])):=Same.upd hl
 have e2:=e.trans e1
 refine⟨_,rfl,t,_,rfl,.inr ⟨e2.seqT ht,?_⟩⟩
 refine⟨_,_,_,_,rfl,rfl,SqT.of (zaf),e2.seqT ht,by simp,by simp;exact Nat.le_trans (Nat.add_le_add_left px.len 1) (by rw[sizeLine_eq];decide),λz => ?_,λ_ r hr' => ?_⟩
 ·exact absurd (List.map_eq_nil_iff.mp z) px.ne
 ·exact k r _ (e2.updR (e2.free hr')) zaf
theorem scFitsO:FnScope ["self","many"] ["self","many"] (defScope zb0):=⟨rfl,rfl,rfl,by decide +kernel,rfl,by decide +kernel,by decide +kernel⟩
set_option maxHeartbeats 4000000 in
theorem zgc{At:Hp->Addr->Prop}(F:FunD K "fits" "Order.fits" zb0 .none f fd)(T:Txt K mg zan zad zam zag zac zah zab)   : FnOk P w K mg base CX0 1 f fd ["self","many"] (spFits At λ_=>true):=by
 refine F.okN (k:=0) scFitsO (λvs H Q E h => ?_) (λcdv A outer s H vs Q E hr h => ?_)
 ·obtain⟨p,k,rfl,_⟩:=h
  rfl
 obtain⟨p,k,rfl,h⟩:=h
 refine⟨_,(zaj (zas (zes))),?_⟩
 exact h.2 H (Same.refl _)
theorem scFitsW:FnScope ["self","many"] ["self","many"] (defScope zbf):=⟨rfl,rfl,rfl,by decide +kernel,rfl,by decide +kernel,by decide +kernel⟩
set_option maxHeartbeats 4000000 in
theorem znv{ws:List Int}(F:FunD K "fits" "Weights.fits" zbf .none f fd)(T:Txt K mg zan zad zam zag zac zah zab)   : FnOk P w K mg base CX0 1 f fd ["self","many"] (spFits (AtW zab ws) λk=>decide ((ws.length:Int)=k)):=by
 refine F.okN (k:=0) scFitsW (λvs H Q E h => ?_) (λcdv A outer s H vs Q E hr h => ?_)
 ·obtain⟨p,k,rfl,_⟩:=h
  rfl
 obtain⟨p,k,rfl,h⟩:=h
 refine⟨_,(zaj (zas (zco zda (zaq (zbr (K:=K) rfl) rfl T.b_len PySem.boot_len ((zaa (zgk (K:=K) rfl (pv 0) rfl) zae))) (pv 1) (nomark _)))),?_⟩
 obtain⟨hp,q⟩:=h
 obtain⟨dx,wt,hq,hw⟩:=id hp
 refine⟨_,rfl,p,zab,dx,_,_,rfl,hq,T.cl_Weights,T.na_Weights_weights,rfl,wt,_,rfl,.inr (SqT.of hw),?_⟩
 rw[List.length_map]
 walk_at "rd"
 have:=q H (Same.refl _)
 rw[dI]
 exact this
theorem scFirst:FnScope ["self","terms"] ["self","terms"] (defScope za4):=⟨rfl,rfl,rfl,by decide +kernel,rfl,by decide +kernel,by decide +kernel⟩
set_option maxHeartbeats 4000000 in
theorem zeu{C:Addr}{At:Hp->Addr->Prop}{rk:List Int->List Int}(F:FunD K "first_of" "Order.first_of" za4 .none f fd)(T:Txt K mg zan zad zam zag zac zah zab)(x_NoTerm:Exc K mg base "NoTerm" zau)(oC:OrdC C At)(mR:MCal P w K mg base CX0 3 C "rank" ["self","term"] [] (spRank At rk))(bR:BM K C "rank"):FnOk P w K mg base (CXe P w) 6 f fd ["self","terms"] (spFirst At rk zau):=by
 refine F.okX (k:=5) scFirst (λvs H Q E h => ?_) (λcdv A outer s H vs Q E hr h => ?_)
 ·obtain⟨p,l,ys,xss,rfl,_⟩:=h
  rfl
 obtain⟨p,l,ys,xss,rfl,h⟩:=h
 refine⟨_,(zai (zbs (zat zda (zaq (zbr (K:=K) rfl) rfl T.b_len PySem.boot_len ((zaa (pv 1) zae))) (zak) (nomark _)) (zaj (zlp x_NoTerm rfl rfl zb5 ((zaa (zhh) zae)))) zaw)
  (zaj (zas (zo7 mR bR (pv 1) (pv 0) hr .nil T.b_max)))),?_⟩
 obtain⟨hp,hl,ht,hw,k⟩:=h
 obtain⟨dx,fs,hq,nl⟩:=oC.ins hp
 refine⟨_,rfl,l,_,rfl,.inl (SqL.of hl),?_⟩
 walk_at "rd"
 refine cEq (λc => ?_) (λc => ?_)
 ·refine⟨(by show 1<=sizeLine;decide),?_⟩
  have y0:ys=[]:=List.length_eq_zero_iff.mp (by omega)
  rcases k with⟨_,k⟩ | ⟨q,_⟩
  ·exact k
  ·exact absurd y0 q
 rcases k with⟨q,_⟩ | ⟨_,k⟩
 ·rw[q]at c;exact absurd rfl c
 refine⟨_,rfl,_,rfl,p,dx,fs,l,ys,rfl,hq,nl "rank" (by decide +kernel),rfl,hl,?_⟩
 exact zqm oC xss ys H hp hl ht hw (λz=>by rw[z]at c;exact c rfl) k
theorem scRgInit:FnScope ["self","many","field","order"] ["self","many","field","order"] (defScope zbb):=⟨rfl,rfl,rfl,by decide +kernel,rfl,by decide +kernel,by decide +kernel⟩
set_option maxHeartbeats 4000000 in
theorem zmc(F:FunD K "__init__" "Ring.__init__" zbb .none f fd)(T:Txt K mg zan zad zam zag zac zah zab)(x_NoRing:Exc K mg base "NoRing" zcl){zau:Addr}(hord:∀(kd:Int) (ws:List Int),0<=kd->kd < 4->Nn ws->(∀x∈ws,x < 10 ^ 31)->∃C,OrdE P w K mg base zau C (AtK zag zac zah zab kd ws) (rkk kd ws) (fbK kd ws)):FnOk P w K mg base (CXe P w) 2 f fd ["self","many","field","order"] (spRgInit zan zcl zag zac zah zab):=by
 refine F.okX (k:=1) scRgInit (λvs H Q E h => ?_) (λcdv A outer s H vs Q E hr h => ?_)
 ·obtain⟨r,dx,m,pf,po,kd,ws,rfl,_⟩:=h
  rfl
 obtain⟨r,dx,m,pf,po,kd,ws,rfl,h⟩:=h
 obtain⟨C,O⟩:=hord kd ws h.2.1 h.2.2.1 h.2.2.2.1 h.2.2.2.2.1
 refine⟨_,(zai (zbs (PW.pt (zii (zat zjp (pv 1) (zak) (nomark _)) (zii (zat zk8 (pv 1) (zaq zhu rfl T.b_len PySem.boot_len ((zaa (znn T.g_LETTERS rfl) zae))) (nomark _)) (zjd (zfy (zdd (pe_m O.fits (pv 3) hr pass00 .nil ((zaa (pv 1) zae))))))))) (zaj (zlp x_NoRing rfl rfl zb5 ((zaa (zhh) zae)))) zaw)
  (zai (zha (pv 0) (pv 1) rfl)
  (zai (zha (pv 0) (pv 2) rfl)
  (zaj (zha (pv 0) (pv 3) rfl))))),?_⟩
 obtain⟨hr0,k0,k4,wn,wb,hat,k⟩:=h
 have no:¬okR kd ws m->∀H',Same H H'->E (.ref zcl) none H':=λq=>by
  rcases k with⟨z,_⟩ | ⟨_,z⟩
  ·exact absurd z q
  ·exact z
 walk_at "rd"
 refine cD (λc => ?_) (λc => ?_)
 ·exact⟨(by show 1<=sizeLine;decide),no (λz=>by have:=z.1;omega) H (Same.refl _)⟩
 refine⟨_,rfl,_,rfl,(by decide +kernel),?_⟩
 rw[zml]
 walk_at "rd"
 refine cD (λc1 => ?_) (λc1 => ?_)
 ·exact⟨(by show 1<=sizeLine;decide),no (λz=>by have:=z.2.1;omega) H (Same.refl _)⟩
 obtain⟨dO,fs,hq,nl⟩:=O.oC.ins hat
 refine⟨_,rfl,po,dO,fs,rfl,hq,nl "fits" (by decide +kernel),_,rfl,po,m,rfl,hat,λH1 e1 => ?_⟩
 refine⟨_,rfl,cNB (λc2 => ?_) (λc2 => ?_)⟩
 ·exact⟨(by show 1<=sizeLine;decide),no (λz=>by rw[z.2.2]at c2;cases c2) H1 e1⟩
 rcases k with⟨_,k⟩ | ⟨q,_⟩
 case inr=>exact absurd ⟨by omega,by omega,c2⟩ q
 have hr1:=e1 _ _ hr0
 refine⟨_,rfl,_,rfl,r,zan,dx,_,rfl,hr1,T.cl_Ring,T.na_Ring_many,(by show 0 < 1000;decide),?_⟩
 refine⟨_,rfl,_,rfl,r,zan,dx,_,rfl,zaf,T.cl_Ring,T.na_Ring_field,(by show 1 < 1000;decide),?_⟩
 refine⟨_,rfl,_,rfl,r,zan,dx,_,rfl,zaf,T.cl_Ring,T.na_Ring_order,(by show 2 < 1000;decide),?_⟩
 refine k _ zaf λb o hb ne => ?_
 rw[zal ne,zal ne,zal ne]
 exact e1 _ _ hb
theorem scPrime:FnScope ["number","divisor"] ["number"] (defScope zct):=⟨rfl,rfl,rfl,by decide +kernel,rfl,by decide +kernel,by decide +kernel⟩
set_option maxHeartbeats 4000000 in
theorem zn4(F:FunD K "is_prime" "is_prime" zct .none f fd)(T:Txt K mg zan zad zam zag zac zah zab)   : FnOk P w K mg base CX0 1 f fd ["number"] spPrime:=by
 refine F.okN (k:=0) scPrime (λvs H Q E h => ?_) (λcdv A outer s H vs Q E hr h => ?_)
 ·obtain⟨n,rfl,_⟩:=h
  rfl
 obtain⟨n,rfl,h⟩:=h
 refine⟨_,(zai (zbs (zat zjp (pv 0) (zak) (nomark _)) (zaj (zas (zes))) zaw)
  (zai (zaz (i:=1) scPrime.nd rfl (Or.inl rfl) (zak))
  (zai (zf5 PassesOwn.never (zat zo0 (zav zd9 (pv 1) (pv 1)) (pv 0) (nomark _)) (zai (zbs (zat zda (zav zk6 (pv 0) (pv 1)) (zak) (nomark _)) (zaj (zas (zes))) zaw)
  (zaj (zqo (i:=1) scPrime.nd rfl (Or.inl rfl) (zak) zp3))))
  (zaj (zas (zes)))))),?_⟩
 obtain⟨hn,k⟩:=h
 walk_at "rd"
 refine cD (λc => ?_) (λc => ?_)
 ·show Q (.bl false) H
  rw[low c]
  exact k
 refine⟨λm σ H'=>∃d:Int,m=(200 - d).toNat/\σ = [some (.int n),some (.int d)]/\H'=H/\2<=d/\d<=101/\NoDiv n d,⟨_,2,rfl,rfl,rfl,K3.start n⟩,?_⟩
 rintro m σ H' ⟨d,rfl,rfl,rfl,h2,h3,hd⟩
 refine⟨_,rfl,_,rfl,_,_,rfl,rfl,.inl (zny (n:=n) h2 h3),?_⟩
 walk_at "rd"
 refine cD (λq => ?_) (λq => ?_)
 ·refine⟨λσ' H''=>σ'=[some (.int n),some (.int (d + 1))]/\H''=H'/\¬Int.fmod n d=0,?_,?_⟩
  ·rintro σ' H'' ⟨rfl,rfl,nz⟩
   exact⟨(200 - (d + 1)).toNat,K3.less h2 q hn,d + 1,rfl,rfl,rfl,K3.turn hd nz h2 q hn⟩
  ·refine⟨_,rfl,_,rfl,_,_,rfl,rfl,(by show d≠0;omega),?_⟩
   walk_at "rd"
   refine cEq (λz => ?_) (λz => ?_)
   ·show Q (.bl false) H'
    rw[found h2 q z]
    exact k
   ·walk_at "rd"
    exact z
 ·show Q (.bl true) H'
  rw[K3.out hd (by omega) h2 q]
  exact k
theorem scFieldInit:FnScope ["self","prime"] ["self","prime"] (defScope za5):=⟨rfl,rfl,rfl,by decide +kernel,rfl,by decide +kernel,by decide +kernel⟩
set_option maxHeartbeats 4000000 in
theorem zg4(F:FunD K "__init__" "Field.__init__" za5 .none f fd)(T:Txt K mg zan zad zam zag zac zah zab)   : FnOk P w K mg base CX0 1 f fd ["self","prime"] (spField K):=by
 refine F.okN (k:=0) scFieldInit (λvs H Q E h => ?_) (λcdv A outer s H vs Q E hr h => ?_)
 ·obtain⟨p,C,dx,v,rfl,_⟩:=h
  rfl
 obtain⟨p,C,dx,v,rfl,h⟩:=h
 refine⟨_,(zaj (zha (pv 0) (pv 1) rfl)),?_⟩
 obtain⟨hp,hc,ha,k⟩:=h
 exact⟨_,rfl,_,rfl,p,C,dx,[],rfl,hp,hc,ha,(by show 0 < 1000;decide),k⟩
theorem scFracInit:FnScope ["self"] ["self"] (defScope zay):=⟨rfl,rfl,rfl,by decide +kernel,rfl,by decide +kernel,by decide +kernel⟩
set_option maxHeartbeats 4000000 in
theorem zia(F:FunD K "__init__" "Fractions.__init__" zay .none f fd)(T:Txt K mg zan zad zam zag zac zah zab)(q_FieldInit:CCal P w K mg base CX0 1 "Field" "__init__" ["self","prime"] [] (spField K)):FnOk P w K mg base CX0 2 f fd ["self"] (spFracInit zad):=by
 refine F.okN (k:=1) scFracInit (λvs H Q E h => ?_) (λcdv A outer s H vs Q E hr h => ?_)
 ·obtain⟨p,dx,rfl,_⟩:=h
  rfl
 obtain⟨p,dx,rfl,h⟩:=h
 refine⟨_,(zaj (zeh (zqc q_FieldInit hr pass00 .nil ((zaa (pv 0) (zaa (zak) zae)))))),?_⟩
 obtain⟨hp,k⟩:=h
 exact⟨_,rfl,p,_,dx,_,rfl,hp,T.cl_Fractions,T.na_Fractions_prime,k⟩
theorem scRestsInit:FnScope ["self","prime"] ["self","prime"] (defScope za6):=⟨rfl,rfl,rfl,by decide +kernel,rfl,by decide +kernel,by decide +kernel⟩
set_option maxHeartbeats 4000000 in
theorem zhk(F:FunD K "__init__" "Rests.__init__" za6 .none f fd)(T:Txt K mg zan zad zam zag zac zah zab)(c_Prime:Cal P w K mg base CX0 1 "is_prime" ["number"] [] spPrime)(q_FieldInit:CCal P w K mg base CX0 1 "Field" "__init__" ["self","prime"] [] (spField K))(x_NoPrime:Exc K mg base "NoPrime" zb8)  : FnOk P w K mg base (CXe P w) 2 f fd ["self","prime"] (spRests zam zb8):=by
 refine F.okX (k:=1) scRestsInit (λvs H Q E h => ?_) (λcdv A outer s H vs Q E hr h => ?_)
 ·obtain⟨p,dx,n,rfl,_⟩:=h
  rfl
 obtain⟨p,dx,n,rfl,h⟩:=h
 refine⟨_,(zai (zbs (PW.pt (zii (zat zk8 (pv 1) (zni T.g_GREATEST_PRIME rfl) (nomark _)) (zjd (zfy (zdd (pe_c c_Prime hr pass00 .nil ((zaa (pv 1) zae)))))))) (zaj (zlp x_NoPrime rfl rfl zb5 ((zaa (zhh) zae)))) zaw)
  (zaj (zeh (zqc q_FieldInit hr pass00 .nil ((zaa (pv 0) (zaa (pv 1) zae))))))),?_⟩
 obtain⟨hp,k⟩:=h
 walk_at "rd"
 refine cD (λc => ?_) (λc => ?_)
 ·walk_at "rd"
  refine⟨(by show 1<=sizeLine;decide),?_⟩
  rcases k with⟨q,_⟩ | ⟨_,q⟩
  ·omega
  ·exact q
 ·refine⟨_,rfl,n,rfl,by omega,_,rfl,?_⟩
  rcases k with⟨_,q1,q2⟩ | ⟨q1,q2⟩
  ·rw[q1]
   refine iteF ?_
   exact⟨_,rfl,_,rfl,p,zam,dx,_,rfl,hp,T.cl_Rests,T.na_Rests_prime,q2⟩
  ·have q:isP n=false:=q1.resolve_left c
   rw[q]
   exact iteT ⟨(by show 1<=sizeLine;decide),q2⟩
theorem scFT:FnScope ["ring","f"] ["ring","f"] (defScope zb1):=⟨rfl,rfl,rfl,by decide +kernel,rfl,by decide +kernel,by decide +kernel⟩
set_option maxHeartbeats 4000000 in
theorem zrf{zck:Addr}(F:FunD K "first_term" "first_term" zb1 .none f fd)(T:Txt K mg zan zad zam zag zac zah zab)(x_NoLead:Exc K mg base "NoLead" zck){zau:Addr}(hord:∀(kd:Int) (ws:List Int),0<=kd->kd < 4->Nn ws->(∀x∈ws,x < 10 ^ 31)->∃C,OrdE P w K mg base zau C (AtK zag zac zah zab kd ws) (rkk kd ws) (fbK kd ws)):FnOk P w K mg base (CXe P w) 8 f fd ["ring","f"] (spFT zan zag zac zah zab zck):=by
 refine F.okX (k:=7) scFT (λvs H Q E h => ?_) (λcdv A outer s H vs Q E hr h => ?_)
 ·obtain⟨r,d,m,pf,po,n,kd,ws,kvs,rfl,_⟩:=h
  rfl
 obtain⟨r,d,m,pf,po,n,kd,ws,kvs,rfl,h⟩:=h
 obtain⟨C,O⟩:=hord kd ws h.2.2.2.2.1 h.2.2.2.2.2.1 h.2.2.2.2.2.2.1 h.2.2.2.2.2.2.2.1
 refine⟨_,(zai (zbs (zat (zpb hr.units) (pv 1) (zew) (nomark _)) (zaj (zlp x_NoLead rfl rfl zb5 ((zaa (zhh) zae)))) zaw)
  (zaj (zas (pe_m O.first (zgk (K:=K) rfl (pv 0) rfl) hr zhl .nil ((zaa (zbd (zka rfl) rfl T.b_list (by kernel_rfl) ((zaa (pv 1) zae))) zae)))))),?_⟩
 obtain⟨⟨dx,hr0⟩,hk,m1,m4,k0,k4,wn,wb,hd,pk,ne,k⟩:=h
 walk_at "rd"
 intro d2 nd2
 have e1:Same H (upd H d2 (.dT [])):=Same.upd nd2
 have hd2:(upd H d2 (HO.dT [])) d2=some (.dT []):=zaf
 generalize upd H d2 (HO.dT [])=H1 at e1 hd2
 obtain⟨da,kds,fl⟩:=(pk.same e1).kds (K:=K)
 have ld:kvs.length=da.length:=Paired.length kds
 refine⟨d,d2,kvs,[],da,[],rfl,rfl,.inl (e1 _ _ hd),.inl hd2,kds,.nil,fl,(λ_ z=>by cases z),_,rfl,?_⟩
 have eq0:eqKD da []=false:=by
  unfold eqKD
  cases da with
  | nil=>exact absurd (List.length_eq_zero_iff.mp ld) ne
  | cons x l=>rfl
 rw[eq0]
 refine iteF ?_
 obtain⟨dO,fs,hO,nl⟩:=O.oC.ins hk
 refine⟨_,rfl,r,zan,dx,_,_,rfl,e1 _ _ hr0,T.cl_Ring,T.na_Ring_order,rfl,po,dO,fs,rfl,e1 _ _ hO,nl "first_of" (by decide +kernel),_,rfl,d,kvs,rfl,.inl (e1 _ _ hd),λl as hl la hi => ?_⟩
 have e2:Same H1 (upd H1 l (.lst (as.map V.ref))):=Same.upd hl
 have g2:=e1.trans e2
 have ek:kvs.map (·.1)=(kvs.map λp=>un p.1).map ky:=by
  rw[List.map_map]
  refine List.map_congr_left λp hp => ?_
  obtain⟨t,a,_⟩:=pk.row p hp
  show p.1=ky (un p.1)
  rw[a,zhv]
 have hp:=zmf (m:=m) (l:=l) ek la hi
 have pw:∀xs∈kvs.map λp=>un p.1,Pws xs:=λxs hx=>by
  obtain⟨p,hp,rfl⟩:=List.mem_map.mp hx
  obtain⟨t,a,t0,tb,_⟩:=pk.row p hp
  rw[a,zhv]
  exact zje t0 m1 m4 tb
 have ne2:as.map V.ref≠[]:=λz=>ne (List.length_eq_zero_iff.mp (by rw[<- la];have:=congrArg List.length z;simpa using this))
 refine⟨po,l,as.map V.ref,kvs.map λp=>un p.1,rfl,O.oC.same g2 hk,zaf,pimp (λ_ _ q=>q.same e2) hp,pw,.inr ⟨ne2,λH' xs v e3 hm hx => ?_⟩⟩
 have g3:=g2.trans e3
 have hp3:=pimp (λ_ _ q=>(q.same e2).same e3) hp
 refine k H' xs v g3 (pz hp3 _ hm) ?_ λp hp' => ?_
 ·have:=(List.of_mem_zip hm).1
  rw[ek];exact List.mem_map.mpr ⟨xs,this,rfl⟩
 ·obtain⟨v',hv'⟩:=zof (l:=kvs.map λp=>un p.1) (l':=as.map V.ref) (by rw[List.length_map,List.length_map,la]) (List.mem_map.mpr ⟨p,hp',rfl⟩)
  exact hx _ hv'
theorem scMeet:FnScope ["one","other"] ["one","other"] (defScope zc9):=⟨rfl,rfl,rfl,by decide +kernel,rfl,by decide +kernel,by decide +kernel⟩
set_option maxHeartbeats 4000000 in
theorem zph(F:FunD K "meeting" "meeting" zc9 .none f fd)(T:Txt K mg zan zad zam zag zac zah zab)   : FnOk P w K mg base CX0 1 f fd ["one","other"] (spMeet K):=by
 refine F.okN (k:=0) scMeet (λvs H Q E h => ?_) (λcdv A outer s H vs Q E hr h => ?_)
 ·obtain⟨a,b,xs,ys,rfl,_⟩:=h
  rfl
 obtain⟨a,b,xs,ys,rfl,h⟩:=h
 refine⟨_,(zaj (zas (zbd (zbc (K:=K) rfl) rfl T.b_tuple (by kernel_rfl) ((zaa (zbv (N:=["power","further"]) (Blk.plain (by decide +kernel) (by decide +kernel) rfl (by decide +kernel) zbt) rfl (zgf (K:=K) rfl true true rfl T.b_zip ((zaa (pv 0) (zaa (pv 1) zae)))) (λC0 s0 H0 fp0=>zi0 (K:=K) rfl rfl rfl zbt rfl rfl) (λC0 s0 H0 fp0=>zbu) (λC0 s0 H0 fp0=>zaq (zdk rfl) rfl T.b_max (by kernel_rfl) ((zaa (pv 0) (zaa (pv 1) zae))))) zae))))),?_⟩
 obtain⟨ha,hb,he,hl,k⟩:=h
 show tComp _ _ _ _ _ _ _ _
 refine zev (K:=K) (b1:=true) (b2:=true) (a:=a) (b:=b) (xs:=xs) (ys:=ys) yes2 (λx y => .int (mx x y)) (by rfl) ?_ ha hb hl ?_ ?_ λD H' e hL => ?_
 ·exact λR hR=>⟨_,rfl,_,rfl,hR⟩
 ·exact λ_ _ _ h=>h
 ·exact λi H' R _ h=>⟨_,rfl,_,rfl,_,_,rfl,h⟩
 rw[zn8 (λx y=>mx x y)]at hL
 refine⟨D,_,rfl,.inl ⟨SqL.of hL,λr hr => ?_⟩⟩
 exact k r _ (e.trans (Same.upd hr)) zaf
theorem scApart:FnScope ["one","other"] ["one","other"] (defScope zbm):=⟨rfl,rfl,rfl,by decide +kernel,rfl,by decide +kernel,by decide +kernel⟩
set_option maxHeartbeats 4000000 in
theorem znr(F:FunD K "stand_apart" "stand_apart" zbm .none f fd)(T:Txt K mg zan zad zam zag zac zah zab)   : FnOk P w K mg base CX0 1 f fd ["one","other"] (spApart K):=by
 refine F.okN (k:=0) scApart (λvs H Q E h => ?_) (λcdv A outer s H vs Q E hr h => ?_)
 ·obtain⟨a,b,xs,ys,rfl,_⟩:=h
  rfl
 obtain⟨a,b,xs,ys,rfl,h⟩:=h
 refine⟨_,(zaj (zas (zaq (zd4 (K:=K) rfl rfl) rfl T.b_all (by kernel_rfl) ((zaa (zbv (N:=["power","further"]) (Blk.plain (by decide +kernel) (by decide +kernel) rfl (by decide +kernel) zbt) rfl (zgf (K:=K) rfl true true rfl T.b_zip ((zaa (pv 0) (zaa (pv 1) zae)))) (λC0 s0 H0 fp0=>zi0 (K:=K) rfl rfl rfl zbt rfl rfl) (λC0 s0 H0 fp0=>zbu) (λC0 s0 H0 fp0=>zre (zco zda (pv 0) (zak) (nomark _)) (zg6 (zco zda (pv 1) (zak) (nomark _))))) zae))))),?_⟩
 obtain⟨ha,hb,he,hl,k⟩:=h
 show tComp _ _ _ _ _ _ _ _
 refine zev (K:=K) (b1:=true) (b2:=true) (a:=a) (b:=b) (xs:=xs) (ys:=ys) yes2 (λx y => .bl (decide (x=0) || decide (y=0))) (by rfl) ?_ ha hb hl ?_ ?_ λD H' e hL => ?_
 ·exact λR hR=>⟨_,rfl,_,rfl,hR⟩
 ·exact λ_ _ _ h=>h
 ·intro i H' R _ h
  generalize xs.getD i 0=x at h
  generalize ys.getD i 0=y at h
  refine⟨_,rfl,rfl,_,rfl,?_⟩
  rw[zfi]
  by_cases cx:x=0
  ·rw[if_pos (by rw[cx];rfl)]
   rw[decide_eq_true cx]at h
   exact h
  ·rw[if_neg (by simpa using cx)]
   rw[decide_eq_false cx,Bool.false_or]at h
   refine⟨_,rfl,rfl,?_⟩
   rw[zfi]
   exact h
 refine⟨D,(List.range xs.length).map λi=>decide (xs.getD i 0=0) || decide (ys.getD i 0=0),rfl,SqL.of ?_,?_⟩
 ·rw[hL]
  unfold zipV
  rw[List.filter_eq_self.mpr (λ_ _=>rfl),List.map_map,<- he,Nat.min_self]
  rfl
 ·have e2:((List.range xs.length).map λi=>decide (xs.getD i 0=0) || decide (ys.getD i 0=0)).all id=apartT xs ys:=by
   unfold apartT
   rw[List.all_map];rfl
  rw[e2]
  exact k _ e
theorem scLBP:FnScope ["ring","row","leads","at","f"] ["ring","row"] (defScope za7):=⟨rfl,rfl,rfl,by decide +kernel,rfl,by decide +kernel,by decide +kernel⟩
set_option maxHeartbeats 4000000 in
theorem zq0(F:FunD K "leads_by_place" "leads_by_place" za7 .none f fd)(T:Txt K mg zan zad zam zag zac zah zab)(c_FT:Cal P w K mg base (CXe P w) 8 "first_term" ["ring","f"] [] (spFT zan zag zac zah zab zck)){zau:Addr}(hord:∀(kd:Int) (ws:List Int),0<=kd->kd < 4->Nn ws->(∀x∈ws,x < 10 ^ 31)->∃C,OrdE P w K mg base zau C (AtK zag zac zah zab kd ws) (rkk kd ws) (fbK kd ws)):FnOk P w K mg base CX0 9 f fd ["ring","row"] (spLBP zan zag zac zah zab):=by
 refine F.okN (k:=8) scLBP (λvs H Q E h => ?_) (λcdv A outer s H vs Q E hr h => ?_)
 ·obtain⟨r,b,m,pf,po,n,kd,ws,ds,kvss,rfl,_⟩:=h
  rfl
 obtain⟨r,b,m,pf,po,n,kd,ws,ds,kvss,rfl,h⟩:=h
 obtain⟨C,O⟩:=hord kd ws h.2.2.2.2.1 h.2.2.2.2.2.1 h.2.2.2.2.2.2.1 h.2.2.2.2.2.2.2.1
 refine⟨_,(zai (zaz (i:=2) scLBP.nd rfl (Or.inl rfl) zmq)
  (zai (zdu PassesOwn.never rfl (zk0 (K:=K) rfl rfl T.b_enumerate ((zaa (pv 1) zae))) (zkn rfl (zdt (zbo (i:=3) scLBP.nd rfl (Or.inl rfl)) (zdt (zbo (i:=4) scLBP.nd rfl (Or.inl rfl)) zid))) (zaj (zbs (zat (zm2 (K:=K) rfl hr.units) (pv 4) (zew) (nomark _)) (zaj (zgh (uOne hr) (pv 2) (pv 3) (pe_c c_FT hr passF .nil ((zaa (pv 0) (zaa (pv 4) zae)))) rfl)) zaw)))
  (zaj (zas (pv 2))))),?_⟩
 obtain⟨⟨dx,hr0⟩,hk,m1,m4,k0,k4,wn,wb,hb,k⟩:=h
 intro d nd
 have e1:Same H (upd H d (.dK [])):=Same.upd nd
 have hd1:(upd H d (HO.dK [])) d=some (.dK []):=zaf
 generalize upd H d (HO.dK [])=H1 at e1 hd1
 refine⟨_,rfl,b,rfl,⟨_,SqL.of (hb.same e1).at_⟩,?_⟩
 refine zjh (K:=K) (a:=b) (xs:=ds.map V.ref) (λi σ H'=>Same H H'/\(∃v3 v4,σ = [some (.ref r),some (.ref b),some (.ref d),v3,v4])/\∃(kv:List (Key×V)) (hs:List (Option (List Int))),H' d=some (.dK kv)/\LdK H' kv hs/\hs.length=i/\∀j,j < i->HO1 (rkk kd ws) (hs.getD j none) (kvss.getD j [])) ?_ (λi σ H' h=>SqL.of (hb.same h.1).at_) ?_ ?_
 ·exact⟨e1,⟨none,none,rfl⟩,[],[],hd1,.nil,rfl,λj hj=>by omega⟩
 ·rintro i x σ H2 p hx ⟨e2,⟨v3,v4,rfl⟩,kv,hs,hd2,ld,lh,ho⟩ np
  rw[List.getElem?_map]at hx
  cases hdi:ds[i]? with
  | none=>rw[hdi]at hx;cases hx
  | some di=>
  rw[hdi]at hx
  injection hx with hx
  subst hx
  have hi:i < ds.length:=by
   rcases Nat.lt_or_ge i ds.length with c | c
   ·exact c
   ·rw[List.getElem?_eq_none c]at hdi;cases hdi
  have hki:kvss[i]? = some (kvss[i]'(by rw[<- hb.len];exact hi)):=List.getElem?_eq_getElem _
  generalize kvss[i]'(by rw[<- hb.len];exact hi)=kvs at hki
  have eg:kvss.getD i []=kvs:=by simp[List.getD,hki]
  have e3:Same H2 (upd H2 p (.tup [.int i,.ref di])):=Same.upd np
  have hp3:(upd H2 p (HO.tup [.int i,.ref di])) p=some (.tup [.int i,.ref di]):=zaf
  generalize upd H2 p (HO.tup [.int i,.ref di])=H3 at e3 hp3
  refine⟨p,_,rfl,SqT.of hp3,rfl,_,_,rfl,_,_,rfl,rfl,?_⟩
  refine⟨_,rfl,?_⟩
  intro d2 nd2
  have e4:Same H3 (upd H3 d2 (.dT [])):=Same.upd nd2
  have hd4:(upd H3 d2 (HO.dT [])) d2=some (.dT []):=zaf
  generalize upd H3 d2 (HO.dT [])=H4 at e4 hd4
  have g4:=(e2.trans e3).trans e4
  obtain⟨hdi4,pk4⟩:=(hb.same g4).row i _ _ hdi hki
  obtain⟨da,kds,fl⟩:=pk4.kds (K:=K)
  have ldd:kvs.length=da.length:=Paired.length kds
  refine⟨di,d2,kvs,[],da,[],rfl,rfl,.inl hdi4,.inl hd4,kds,.nil,fl,(λ_ z=>by cases z),_,rfl,?_⟩
  have hld4:=e4 _ _ (e3 _ _ hd2)
  have ld4:LdK H4 kv hs:=ld.same λb xs hb=>e4 _ _ (e3 _ _ hb)
  have pli:∀a∈pl hs,a < hs.length:=λa ha=>List.mem_range.mp (List.mem_filter.mp ha).1
  by_cases c:kvs=[]
  ·have ed:da=[]:=List.length_eq_zero_iff.mp (by rw[<- ldd,c];rfl)
   rw[ed]
   refine iteF ⟨g4,⟨_,_,rfl⟩,kv,hs ++ [none],hld4,?_,by simp[lh],λj hj => ?_⟩
   ·unfold LdK
    rw[zl3]
    simp only[Option.isSome_none,Bool.false_eq_true,if_false,List.append_nil]
    exact ppair ld4 λa ha b q=>by rw[zkj (pli a ha)];exact q
   ·rw[zb3,lh]
    split
    ·rename_i q;subst q;exact .inl ⟨rfl,by rw[eg];exact c⟩
    ·exact ho j (by omega)
  ·have eq0:eqKD da []=false:=by
    unfold eqKD
    cases da with
    | nil=>exact absurd (List.length_eq_zero_iff.mp ldd) c
    | cons x l=>rfl
   rw[eq0]
   refine iteT ?_
   have lk:=Paired.length ld4
   have lp:=zog hs
   have l100:=hb.b
   refine⟨_,rfl,_,rfl,r,di,m,pf,po,n,kd,ws,kvs,rfl,⟨dx,g4 _ _ hr0⟩,O.oC.same g4 hk,m1,m4,k0,k4,wn,wb,hdi4,pk4,c,λH5 t v e5 ht hm hx => ?_⟩
   have hld5:=e5 _ _ hld4
   refine⟨_,rfl,_,rfl,d,_,rfl,DPut.k (k := .inl (i:Int)) hld5 (zlt _ (by omega)),?_⟩
   have nin:(Sum.inl (i:Int):Key) ∉ kv.map (·.1):=λz=>by
    obtain⟨q,hq,e⟩:=List.mem_map.mp z
    obtain⟨j,hj⟩:=List.mem_iff_getElem?.mp hq
    obtain⟨a,ha,e2',_⟩:=pget2 ld4 hj
    have:=pli a (List.mem_of_getElem? ha)
    rw[e2']at e
    injection e with e
    omega
   rw[zik nin]
   have tk6:∀b xs,H5 b=some (.tup xs)->(upd H5 d (.dK (kv ++ [(.inl (i:Int),v)]))) b=some (.tup xs):=λb xs hb=>by rw[zal (zbk hb hld5 (by intro z;cases z))];exact hb
   refine⟨(g4.trans e5).updR nd,⟨_,_,rfl⟩,_,hs ++ [some t],zaf,?_,by simp[lh],λj hj => ?_⟩
   ·unfold LdK
    rw[zl3,lh]
    simp only[Option.isSome_some,if_true]
    refine psnoc2 ⟨rfl,?_⟩ (ppair (ld4.same λb xs hb=>tk6 _ _ (e5 _ _ hb)) λa ha b q=>by rw[zkj (pli a ha)];exact q)
    obtain⟨rt,rfl,hrt⟩:=ht
    refine⟨rt,rfl,?_⟩
    unfold hd
    rw[zb3,if_pos lh.symm]
    exact tk6 _ _ hrt
   ·rw[zb3,lh]
    split
    ·rename_i q;subst q;exact .inr ⟨t,rfl,by rw[eg];exact⟨hm,hx⟩⟩
    ·exact ho j (by omega)
 ·rintro σ H2 ⟨e2,⟨v3,v4,rfl⟩,kv,hs,hd2,ld,lh,ho⟩
  rw[List.length_map]at lh ho
  exact⟨_,rfl,k d H2 kv hs nd e2 hd2 ld (by rw[lh,hb.len]) λi hi=>ho i (by omega)⟩
theorem scTurns:FnScope ["ring","leads","turns","i","j"] ["ring","leads"] (defScope zcr):=⟨rfl,rfl,rfl,by decide +kernel,rfl,by decide +kernel,by decide +kernel⟩
set_option maxHeartbeats 4000000 in
theorem zmt(F:FunD K "turns_of" "turns_of" zcr .none f fd)(T:Txt K mg zan zad zam zag zac zah zab)(c_Meet:Cal P w K mg base CX0 1 "meeting" ["one","other"] [] (spMeet K)){zau:Addr}(hord:∀(kd:Int) (ws:List Int),0<=kd->kd < 4->Nn ws->(∀x∈ws,x < 10 ^ 31)->∃C,OrdE P w K mg base zau C (AtK zag zac zah zab kd ws) (rkk kd ws) (fbK kd ws)):FnOk P w K mg base CX0 9 f fd ["ring","leads"] (spTurns zan zag zac zah zab):=by
 refine F.okN (k:=8) scTurns (λvs H Q E h => ?_) (λcdv A outer s H vs Q E hr h => ?_)
 ·obtain⟨r,d,m,pf,po,kd,ws,kv,hs,rfl,_⟩:=h
  rfl
 obtain⟨r,d,m,pf,po,kd,ws,kv,hs,rfl,h⟩:=h
 obtain⟨C,O⟩:=hord kd ws h.2.2.2.2.1 h.2.2.2.2.2.1 h.2.2.2.2.2.2.1 h.2.2.2.2.2.2.2.1
 refine⟨_,(zai (zaz (i:=2) scTurns.nd rfl (Or.inl rfl) (zew))
  (zai (zlb (zdu PassesOwn.never rfl (ze5 (pv 1)) (zbo (i:=3) scTurns.nd rfl (Or.inl rfl)) (zaj (zlb (zdu PassesOwn.never rfl (ze5 (pv 1)) (zbo (i:=4) scTurns.nd rfl (Or.inl rfl)) (zaj (zbs (zat zjp (pv 3) (pv 4) (nomark _)) (zaj (zgh (uOne hr) (pv 2) (zc2 ((zaa (pv 3) (zaa (pv 4) zae)))) (zc2 ((zaa (pe_m O.rank (zgk (K:=K) rfl (pv 0) rfl) hr pass00 .nil ((zaa (pe_c c_Meet hr pass00 .nil ((zaa (zcz (uOne hr) (pv 1) (pv 3) (λ_ _=>rfl)) (zaa (zcz (uOne hr) (pv 1) (pv 4) (λ_ _=>rfl)) zae)))) zae))) (zaa (pv 3) (zaa (pv 4) zae))))) rfl)) zaw)))))))
  (zaj (zas (pv 2))))),?_⟩
 obtain⟨⟨dx,hr0⟩,hk,m1,m4,k0,k4,wn,wb,hd0,ld,ht0,l100,k⟩:=h
 intro t nt
 have e1:Same H (upd H t (.dT [])):=Same.upd nt
 have ht1:(upd H t (HO.dT [])) t=some (.dT []):=zaf
 generalize upd H t (HO.dT [])=H1 at e1 ht1
 refine⟨_,rfl,d,kv,rfl,.inl (e1 _ _ hd0),λo _ => ?_⟩
 have dt:d≠t:=zao hd0 nt
 have hz2:(upd H1 d (HO.frz o (HO.dK kv))) d=some (.frz o (.dK kv)):=zaf
 have k2:∀b ob,H1 b=some ob->b≠d->(upd H1 d (HO.frz o (HO.dK kv))) b=some ob:=λb ob hb be=>(zal be).trans hb
 have ht2:=k2 _ _ ht1 (Ne.symm dt)
 generalize upd H1 d (HO.frz o (HO.dK kv))=H2 at hz2 k2 ht2
 have hd1:=e1 _ _ hd0
 have t12:∀b xs,H b=some (.tup xs)->H2 b=some (.tup xs):=λb xs hb=>k2 _ _ (e1 _ _ hb) (zbk (e1 _ _ hb) hd1 (by intro z;cases z))
 have i12:∀b C dx fs,H b=some (.ins C dx fs)->H2 b=some (.ins C dx fs):=λb C dx fs hb=>k2 _ _ (e1 _ _ hb) (zbk (e1 _ _ hb) hd1 (by intro z;cases z))
 have lpl:(pl hs).length=kv.length:=Paired.length ld
 refine ze9 (tb:=λD σ H=>tFor (iDictKK (tVar 1)) (gName 4) _ (Ends.thw _ D) σ H) (λi σ H'=>(∃v3 v4,σ = [some (.ref r),some (.ref d),some (.ref t),v3,v4])/\(∀b ob,H2 b=some ob->b≠t->H' b=some ob)/\∃(tv:List (List Key×V)) (ps:List (Nat×Nat)),H' t=some (.dT tv)/\TuK (rkk kd ws) hs H' tv ps/\ps.Nodup/\ps.length<=i * 100/\∀a b,(a,b)∈ps↔a < b/\a∈(pl hs).take i/\b∈pl hs) ?_ (λi σ H' h=>h.2.1 _ _ hz2 dt) ?_ ?_
 ·exact⟨⟨none,none,rfl⟩,λb ob hb _=>hb,[],[],ht2,.nil,List.nodup_nil,Nat.zero_le _,λa b=>by simp⟩
 ·rintro i kx vx σ H3 hkx ⟨⟨v3,v4,rfl⟩,k3,tv,ps,ht3,tu3,nd3,ln3,mm3⟩
  have hx3:∀b ob,H b=some ob->b≠d->b≠t->H3 b=some ob:=λb ob hb n1 n2=>k3 _ _ (k2 _ _ (e1 _ _ hb) n1) n2
  obtain⟨a,ha,ek,ta⟩:=pget2 ld hkx
  have ek:kx = .inl (a:Int):=ek
  subst ek
  have hz3:=k3 _ _ hz2 dt
  have nda:a ∉ (pl hs).take i:=zel (zqz hs) ha
  have hap:a∈pl hs:=List.mem_of_getElem? ha
  have hi:i < (pl hs).length:=by
   rcases Nat.lt_or_ge i (pl hs).length with c | c
   ·exact c
   ·rw[List.getElem?_eq_none c]at ha;cases ha
  have lp:=zog hs
  show tFor (iDictKK (tVar 1)) (gName 4) _ _ _ _
  refine⟨_,rfl,d,kv,rfl,.inr ⟨o,hz3⟩,λo' ho' => ?_⟩
  obtain rfl:=ho' o hz3
  rw[zo1 hz3]
  refine ze9 (tb:=tIfS _ _ _) (λj σ H'=>(∃v4,σ = [some (.ref r),some (.ref d),some (.ref t),some (.int a),v4])/\(∀b ob,H2 b=some ob->b≠t->H' b=some ob)/\∃(tv:List (List Key×V)) (ps:List (Nat×Nat)),H' t=some (.dT tv)/\TuK (rkk kd ws) hs H' tv ps/\ps.Nodup/\ps.length<=i * 100 + j/\∀x y,(x,y)∈ps↔(x < y/\x∈(pl hs).take i/\y∈pl hs)\/(x=a/\x < y/\y∈(pl hs).take j)) ?_ (λi σ H' h=>h.2.1 _ _ hz2 dt) ?_ ?_
  ·exact⟨⟨_,rfl⟩,k3,tv,ps,ht3,tu3,nd3,by omega,λx y=>by rw[mm3];simp⟩
  ·rintro j ky' vy σ H4 hky ⟨⟨v4,rfl⟩,k4',tv,ps,ht4,tu4,nd4,ln4,mm4⟩
   obtain⟨c,hc,ek,tc⟩:=pget2 ld hky
   have ek:ky' = .inl (c:Int):=ek
   subst ek
   have hcp:c∈pl hs:=List.mem_of_getElem? hc
   have ndc:c ∉ (pl hs).take j:=zel (zqz hs) hc
   have hj:j < (pl hs).length:=by
    rcases Nat.lt_or_ge j (pl hs).length with q | q
    ·exact q
    ·rw[List.getElem?_eq_none q]at hc;cases hc
   dsimp only[gName,kV]
   have t24:∀b xs,H b=some (.tup xs)->H4 b=some (.tup xs):=λb xs hb=>k4' _ _ (t12 _ _ hb) (zao hb nt)
   have i24:∀b C dx fs,H b=some (.ins C dx fs)->H4 b=some (.ins C dx fs):=λb C dx fs hb=>k4' _ _ (i12 _ _ _ _ hb) (zao hb nt)
   have hz4:=k4' _ _ hz2 dt
   refine⟨_,rfl,_,rfl,_,_,rfl,rfl,_,rfl,?_⟩
   refine cD (λlt => ?_) (λge => ?_)
   ·have lt:a < c:=by omega
    have hk4:=zix i24 t24 hk
    obtain⟨dO,fo,hO,nl⟩:=O.oC.ins hk4
    have ld4:=ld.same t24
    obtain⟨ra,hva,hra⟩:=ld4.get hap
    obtain⟨rc,hvc,hrc⟩:=ld4.get hcp
    have lm:=(ht0 a hap).1.len
    have lm2:=(ht0 c hcp).1.len
    refine⟨_,rfl,r,zan,dx,_,_,rfl,i24 _ _ _ _ hr0,T.cl_Ring,T.na_Ring_order,rfl,po,dO,fo,rfl,hO,nl "rank" (by decide +kernel),_,rfl,_,rfl,d,_,rfl,.inl ⟨kv,.inl (a:Int),.inr ⟨o,hz4⟩,rfl,hva.symm⟩,_,rfl,_,rfl,d,_,rfl,.inl ⟨kv,.inl (c:Int),.inr ⟨o,hz4⟩,rfl,hvc.symm⟩,ra,rc,_,_,rfl,SqT.of hra,SqT.of hrc,by rw[lm,lm2],by rw[lm];omega,λrm H5 e5 hrm => ?_⟩
    refine⟨po,rm,_,rfl,O.oC.same e5 hk4,hrm,ziu ht0 m1 m4 hap hcp,λrr H6 e6 hrr => ?_⟩
    refine⟨_,rfl,_,rfl,(by show 3<=sizeLine;decide),λtt ntt => ?_⟩
    have e7:Same H6 (upd H6 tt (.tup [.ref rr,.int a,.int c])):=Same.upd ntt
    have htt:(upd H6 tt (HO.tup [.ref rr,.int a,.int c])) tt=some (.tup [.ref rr,.int a,.int c]):=zaf
    dsimp only
    generalize upd H6 tt (HO.tup [.ref rr,.int a,.int c])=H7 at e7 htt
    refine⟨_,rfl,_,rfl,_,rfl,(by show 2<=sizeLine;decide),λkp nkp => ?_⟩
    have e8:Same H7 (upd H7 kp (.tup [.int a,.int c])):=Same.upd nkp
    have hkp:(upd H7 kp (HO.tup [.int a,.int c])) kp=some (.tup [.int a,.int c]):=zaf
    dsimp only
    generalize upd H7 kp (HO.tup [.int a,.int c])=H8 at e8 hkp
    have g8:Same H4 H8:=((e5.trans e6).trans e7).trans e8
    have ht8:=g8 _ _ ht4
    have ltv:ps.length=tv.length:=Paired.length tu4
    have zt:tv.length < sizeLine:=zlt _ (by have:=Nat.mul_le_mul_right 100 (show i<=100 by omega);omega)
    refine⟨t,_,rfl,DPut.t (k:=ky (pr2 a c)) ht8 (by rw[zf8];exact hkp) zt,?_⟩
    have nin:ky (pr2 a c) ∉ tv.map (·.1):=λz=>by
     rw[zl2 tu4]at z
     obtain⟨q,hq,e⟩:=List.mem_map.mp z
     obtain⟨z1,z2⟩:=zgm (zjb e)
     have hq:(a,c)∈ps:=by rw[<- z1,<- z2];exact hq
     rcases(mm4 a c).mp hq with⟨_,z3,_⟩ | ⟨_,_,z3⟩
     ·exact nda z3
     ·exact ndc z3
    rw[zik nin]
    have tk9:∀b xs,H8 b=some (.tup xs)->(upd H8 t (.dT (tv ++ [(ky (pr2 a c),.ref tt)]))) b=some (.tup xs):=λb xs hb=>by rw[zal (zbk hb ht8 (by intro z;cases z))];exact hb
    refine⟨⟨_,rfl⟩,λb ob hb nb=>by rw[zal nb];exact g8 _ _ (k4' _ _ hb nb),_,ps ++ [(a,c)],zaf,psnoc2 ⟨rfl,tt,rr,_,_,_,rfl,tk9 _ _ (e8 _ _ htt),tk9 _ _ (e8 _ _ (e7 _ _ hrr)),rfl⟩ (tu4.keep λb xs hb=>tk9 _ _ (g8 _ _ hb)),?_,by rw[List.length_append];simp;omega,λx y => ?_⟩
    ·refine List.nodup_append.mpr ⟨nd4,by simp,λq hq q' hq' e => ?_⟩
     rw[List.mem_singleton.mp hq']at e
     subst e
     rcases(mm4 a c).mp hq with⟨_,z3,_⟩ | ⟨_,_,z3⟩
     ·exact nda z3
     ·exact ndc z3
    ·rw[List.mem_append,List.mem_singleton,mm4,zcq hc]
     constructor
     ·rintro((h1 | ⟨h1,h2,h3⟩) | h1)
      ·exact .inl h1
      ·exact .inr ⟨h1,h2,.inl h3⟩
      ·injection h1 with h1 h2
       subst h1 h2
       exact .inr ⟨rfl,lt,.inr rfl⟩
     ·rintro(h1 | ⟨h1,h2,h3 | h3⟩)
      ·exact .inl (.inl h1)
      ·exact .inl (.inr ⟨h1,h2,h3⟩)
      ·subst h1 h3;exact .inr rfl
   ·refine⟨⟨_,rfl⟩,k4',tv,ps,ht4,tu4,nd4,by omega,λx y => ?_⟩
    rw[mm4,zcq hc]
    constructor
    ·rintro(h1 | ⟨h1,h2,h3⟩)
     ·exact .inl h1
     ·exact .inr ⟨h1,h2,.inl h3⟩
    ·rintro(h1 | ⟨h1,h2,h3 | h3⟩)
     ·exact .inl h1
     ·exact .inr ⟨h1,h2,h3⟩
     ·subst h1 h3;exact absurd h2 (by omega)
  ·rintro σ H4 ⟨⟨v4,rfl⟩,k4',tv,ps,ht4,tu4,nd4,ln4,mm4⟩
   rw[<- lpl,List.take_length]at mm4
   refine .inl ⟨⟨_,_,rfl⟩,k4',tv,ps,ht4,tu4,nd4,by rw[<- lpl]at ln4;rw[Nat.add_mul];omega,λx y => ?_⟩
   rw[mm4,zcq ha]
   constructor
   ·rintro(⟨h1,h2,h3⟩ | ⟨h1,h2,h3⟩)
    ·exact⟨h1,.inl h2,h3⟩
    ·exact⟨h2,.inr h1,h3⟩
   ·rintro⟨h1,h2 | h2,h3⟩
    ·exact .inl ⟨h1,h2,h3⟩
    ·exact .inr ⟨h2,h1,h3⟩
 ·rintro σ H3 ⟨⟨v3,v4,rfl⟩,k3,tv,ps,ht3,tu3,nd3,ln3,mm3⟩
  rw[<- lpl,List.take_length]at mm3
  have hz3:=k3 _ _ hz2 dt
  refine .inr ⟨d,o,.dK kv,hz3,(λo w z=>by have z:=hd0.symm.trans z;cases z),?_⟩
  have sm:Same H (upd H3 d (.dK kv)):=λb ob hb=>by
   by_cases c:b=d
   ·subst c;rw[zaf,<- hd0];exact hb
   ·rw[zal c];exact k3 _ _ (k2 _ _ (e1 _ _ hb) c) (zao hb nt)
  refine⟨_,rfl,k t _ tv ps nt sm (by rw[zal (Ne.symm dt)];exact ht3) (tu3.keep λb xs hb=>by rw[zal (zbk hb hz3 (by intro z;cases z))];exact hb) ⟨nd3,mm3⟩⟩
theorem scLets:FnScope ["leads","turns","pair","k","i","j","turn"] ["leads","turns","pair","k"] (defScope zc3):=⟨rfl,rfl,rfl,by decide +kernel,rfl,by decide +kernel,by decide +kernel⟩
set_option maxHeartbeats 4000000 in
theorem zoq(F:FunD K "lets_by" "lets_by" zc3 .none f fd)(T:Txt K mg zan zad zam zag zac zah zab)(c_Meet:Cal P w K mg base CX0 1 "meeting" ["one","other"] [] (spMeet K))(c_Goes:Cal P w K mg base CX0 1 "goes_into" ["one","other"] [] (spGoes K)):FnOk P w K mg base CX0 2 f fd ["leads","turns","pair","k"] (spLets K):=by
 refine F.okN (k:=1) scLets (λvs H Q E h => ?_) (λcdv A outer s H vs Q E hr h => ?_)
 ·obtain⟨l,t,p,m,kd,ws,hs,kv,tv,ps,i,j,kk,rfl,_⟩:=h
  rfl
 obtain⟨l,t,p,m,kd,ws,hs,kv,tv,ps,i,j,kk,rfl,h⟩:=h
 refine⟨_,(zai (zaz (i:=4) scLets.nd rfl (Or.inl rfl) (za2 (r:=rIxT K) za8 (pv 2) (zak) (λ_ _=>rfl)))
  (zai (zaz (i:=5) scLets.nd rfl (Or.inl rfl) (za2 (r:=rIxT K) za8 (pv 2) (zak) (λ_ _=>rfl)))
  (zai (zbs (PW.pt (zii (zat zda (pv 3) (pv 4) (nomark _)) (zii (zat zda (pv 3) (pv 5) (nomark _)) (zjd (zfy (zdd (pe_c c_Goes hr pass00 .nil ((zaa (zcz (uOne hr) (pv 0) (pv 3) (λ_ _=>rfl)) (zaa (pe_c c_Meet hr pass00 .nil ((zaa (zcz (uOne hr) (pv 0) (pv 4) (λ_ _=>rfl)) (zaa (zcz (uOne hr) (pv 0) (pv 5) (λ_ _=>rfl)) zae)))) zae)))))))))) (zaj (zas (zes))) zaw)
  (zai (zaz (i:=6) scLets.nd rfl (Or.inl rfl) (zcz (uOne hr) (pv 1) (pv 2) (λ_ _=>rfl)))
  (zaj (zas (zfu (zco (zf9 (u8 hr)) (zcz (uOne hr) (pv 1) (zc2 ((zaa (zaq (zfj rfl) rfl T.b_min (by kernel_rfl) ((zaa (pv 4) (zaa (pv 3) zae)))) (zaa (zaq (zdk rfl) rfl T.b_max (by kernel_rfl) ((zaa (pv 4) (zaa (pv 3) zae)))) zae)))) (λ_ _=>rfl)) (pv 6) (nomark _)) (zg6 (zco (zf9 (u8 hr)) (zcz (uOne hr) (pv 1) (zc2 ((zaa (zaq (zfj rfl) rfl T.b_min (by kernel_rfl) ((zaa (pv 5) (zaa (pv 3) zae)))) (zaa (zaq (zdk rfl) rfl T.b_max (by kernel_rfl) ((zaa (pv 5) (zaa (pv 3) zae)))) zae)))) (λ_ _=>rfl)) (pv 6) (nomark _)))))))))),?_⟩
 obtain⟨m4,hl,ht,hp,tn,lt,hi,hj,hk,k⟩:=h
 refine⟨_,rfl,p,_,0,_,rfl,rfl,SqT.of hp,atI0,?_⟩
 refine⟨_,rfl,p,_,1,_,rfl,rfl,SqT.of hp,atI1,?_⟩
 dsimp only[gName]
 have G:∀a,a∈pl hs->∃ra,DGet H l (.int a) (some (.ref ra))/\H ra=some (.tup ((hd hs a).map V.int)):=λa ha=>by
  obtain⟨ra,h1,h2⟩:=tn.ld.get ha
  exact⟨ra,.inl ⟨kv,.inl (a:Int),hl,rfl,h1.symm⟩,h2⟩
 have lh:∀a,a∈pl hs->(hd hs a).length=m:=λa ha=>(tn.ht a ha).1.len
 obtain⟨L,rl⟩:=zgx (kd:=kd) (ws:=ws) (m:=m)
 refine⟨_,rfl,_,rfl,rfl,_,rfl,?_⟩
 show if decide (V.int (kk:Int)=V.int (i:Int))=true then _ else _
 refine cEq (λc=>iteT ?_) (λc => ?_)
 ·have q:=k H (Same.refl _)
  unfold lets at q
  rw[show decide (kk≠i)=false from decide_eq_false (by omega)]at q
  exact q
 refine⟨_,rfl,_,rfl,rfl,_,rfl,?_⟩
 show if decide (V.int (kk:Int)=V.int (j:Int))=true then _ else _
 refine cEq (λc2=>iteT ?_) (λc2 => ?_)
 ·have q:=k H (Same.refl _)
  unfold lets at q
  rw[show decide (kk≠j)=false from decide_eq_false (by omega),Bool.and_false]at q
  exact q
 obtain⟨ri,gi,hri⟩:=G i hi
 obtain⟨rj,gj,hrj⟩:=G j hj
 obtain⟨rq,gq,hrq⟩:=G kk hk
 refine⟨_,rfl,_,rfl,l,_,rfl,gq,_,rfl,_,rfl,l,_,rfl,gi,_,rfl,_,rfl,l,_,rfl,gj,ri,rj,_,_,rfl,SqT.of hri,SqT.of hrj,by rw[lh i hi,lh j hj],by rw[lh i hi];omega,λrm H1 e1 hrm => ?_⟩
 have lm:(meetT (hd hs i) (hd hs j)).length=m:=by rw[zet (by rw[lh i hi,lh j hj]),lh i hi]
 refine⟨rq,rm,_,_,rfl,SqT.of (e1 _ _ hrq),SqT.of hrm,by rw[lh kk hk,lm],by rw[lh kk hk];omega,λH2 e2=>⟨_,rfl,?_⟩⟩
 have g2:=e1.trans e2
 show if (!goesI (hd hs kk) (meetT (hd hs i) (hd hs j)))=true then _ else _
 refine cNB (λg => ?_) (λg => ?_)
 ·have q:=k H2 g2
  unfold lets at q
  rw[g,Bool.and_false]at q
  exact q
 have tn2:=tn.keep λb xs hb=>g2 _ _ hb
 have ht2:=g2 _ _ ht
 obtain⟨vt,hvt,nt⟩:=tn2.turn lt hi hj
 refine⟨_,rfl,_,rfl,t,vt,rfl,.inr ⟨tv,ky (pr2 i j),p,.inl ht2,rfl,by rw[zf8];exact g2 _ _ hp,hvt.symm⟩,?_⟩
 dsimp only[gName]
 obtain⟨v1,hv1,n1⟩:=tn2.turn2 (i:=i) (k:=kk) (by omega) hi hk
 refine⟨_,rfl,_,rfl,_,rfl,_,_,rfl,_,rfl,_,rfl,_,_,rfl,(by show 2<=sizeLine;decide),λp1 np1 => ?_⟩
 have ek1:[V.int (if (kk:Int) < (i:Int) then(kk:Int) else(i:Int)),V.int (if (kk:Int) > (i:Int) then(kk:Int) else(i:Int))]=(ky (pr2 (min i kk) (max i kk))).map kV:=by
  rw[zf8]
  show [V.int (mn i kk),V.int (mx i kk)]=_
  rw[zk4,zlk];rfl
 rw[ek1]
 have e3:Same H2 (upd H2 p1 (.tup ((ky (pr2 (min i kk) (max i kk))).map kV))):=Same.upd np1
 have hp1:(upd H2 p1 (HO.tup ((ky (pr2 (min i kk) (max i kk))).map kV))) p1=some (.tup ((ky (pr2 (min i kk) (max i kk))).map kV)):=zaf
 generalize upd H2 p1 (HO.tup ((ky (pr2 (min i kk) (max i kk))).map kV))=H3 at e3 hp1
 refine⟨t,v1,rfl,.inr ⟨tv,_,p1,.inl (e3 _ _ ht2),rfl,hp1,hv1.symm⟩,_,rfl,_,_,(n1.keep λb xs hb=>e3 _ _ hb).v,(nt.keep λb xs hb=>e3 _ _ hb).v,?_,_,rfl,?_⟩
 ·rw[zdj rl tn.ht hi hj]
  rcases Nat.le_total i kk with z | z
  ·rw[Nat.min_eq_left z,Nat.max_eq_right z];exact zdj rl tn.ht hi hk
  ·rw[Nat.min_eq_right z,Nat.max_eq_left z];exact zdj rl tn.ht hk hi
 have kq:∀H',Same H H'->Q (.bl (HT.lexLt (tk (rkk kd ws) (hd hs) (min i kk) (max i kk)) (tk (rkk kd ws) (hd hs) i j) && HT.lexLt (tk (rkk kd ws) (hd hs) (min j kk) (max j kk)) (tk (rkk kd ws) (hd hs) i j))) H':=λH' e=>by
  have q:=k H' e
  unfold lets at q
  rw[decide_eq_true (show kk≠i by omega),decide_eq_true (show kk≠j by omega),g]at q
  simpa using q
 have g3:=g2.trans e3
 refine cB (λb1 => ?_) (λb1 => ?_)
 rotate_left
 ·have q:=kq H3 g3
  rw[b1,Bool.false_and]at q
  exact q
 have tn3:=tn.keep λb xs hb=>g3 _ _ hb
 have ht3:=g3 _ _ ht
 obtain⟨v2,hv2,n2⟩:=tn3.turn2 (i:=j) (k:=kk) (by omega) hj hk
 refine⟨_,rfl,_,rfl,_,rfl,_,_,rfl,_,rfl,_,rfl,_,_,rfl,(by show 2<=sizeLine;decide),λp2 np2 => ?_⟩
 have ek2:[V.int (if (kk:Int) < (j:Int) then(kk:Int) else(j:Int)),V.int (if (kk:Int) > (j:Int) then(kk:Int) else(j:Int))]=(ky (pr2 (min j kk) (max j kk))).map kV:=by
  rw[zf8]
  show [V.int (mn j kk),V.int (mx j kk)]=_
  rw[zk4,zlk];rfl
 rw[ek2]
 have e4:Same H3 (upd H3 p2 (.tup ((ky (pr2 (min j kk) (max j kk))).map kV))):=Same.upd np2
 have hp2:(upd H3 p2 (HO.tup ((ky (pr2 (min j kk) (max j kk))).map kV))) p2=some (.tup ((ky (pr2 (min j kk) (max j kk))).map kV)):=zaf
 generalize upd H3 p2 (HO.tup ((ky (pr2 (min j kk) (max j kk))).map kV))=H4 at e4 hp2
 refine⟨t,v2,rfl,.inr ⟨tv,_,p2,.inl (e4 _ _ ht3),rfl,hp2,hv2.symm⟩,_,rfl,_,_,(n2.keep λb xs hb=>e4 _ _ hb).v,(nt.keep λb xs hb=>(e3.trans e4) _ _ hb).v,?_,?_⟩
 ·rw[zdj rl tn.ht hi hj]
  rcases Nat.le_total j kk with z | z
  ·rw[Nat.min_eq_left z,Nat.max_eq_right z];exact zdj rl tn.ht hj hk
  ·rw[Nat.min_eq_right z,Nat.max_eq_left z];exact zdj rl tn.ht hk hj
 have q:=kq H4 (g3.trans e4)
 rw[b1,Bool.true_and]at q
 exact q
theorem scDue1:FnScope ["leads","turns","pair","k"] ["leads","turns","pair"] (defScope zdo):=⟨rfl,rfl,rfl,by decide +kernel,rfl,by decide +kernel,by decide +kernel⟩
set_option maxHeartbeats 4000000 in
theorem zpp(F:FunD K "is_due" "is_due" zdo .none f fd)(T:Txt K mg zan zad zam zag zac zah zab)(c_Apart:Cal P w K mg base CX0 1 "stand_apart" ["one","other"] [] (spApart K))(c_Lets:Cal P w K mg base CX0 2 "lets_by" ["leads","turns","pair","k"] [] (spLets K)):FnOk P w K mg base CX0 3 f fd ["leads","turns","pair"] (spDue1 K):=by
 refine F.okN (k:=2) scDue1 (λvs H Q E h => ?_) (λcdv A outer s H vs Q E hr h => ?_)
 ·obtain⟨l,t,p,m,kd,ws,hs,kv,tv,ps,i,j,rfl,_⟩:=h
  rfl
 obtain⟨l,t,p,m,kd,ws,hs,kv,tv,ps,i,j,rfl,h⟩:=h
 refine⟨_,(zai (zbs (zdd (pe_c c_Apart hr pass00 .nil ((zaa (zcz (uOne hr) (pv 0) (za2 (r:=rIxT K) za8 (pv 2) (zak) (λ_ _=>rfl)) (λ_ _=>rfl)) (zaa (zcz (uOne hr) (pv 0) (za2 (r:=rIxT K) za8 (pv 2) (zak) (λ_ _=>rfl)) (λ_ _=>rfl)) zae))))) (zaj (zas (zes))) zaw)
  (zai (zlb (zdu PassesOwn.never rfl (ze5 (pv 0)) (zbo (i:=3) scDue1.nd rfl (Or.inl rfl)) (zaj (zbs (zdd (pe_c c_Lets hr pass00 .nil ((zaa (pv 0) (zaa (pv 1) (zaa (pv 2) (zaa (pv 3) zae))))))) (zaj (zas (zes))) zaw))))
  (zaj (zas (zes))))),?_⟩
 obtain⟨m4,hl,ht,hp,tn,lt,hi,hj,k⟩:=h
 obtain⟨ri,gi,hri⟩:=tn.ld.get hi
 obtain⟨rj,gj,hrj⟩:=tn.ld.get hj
 have lh:∀a,a∈pl hs->(hd hs a).length=m:=λa ha=>(tn.ht a ha).1.len
 refine⟨_,rfl,_,rfl,p,_,0,_,rfl,rfl,SqT.of hp,atI0,l,_,rfl,.inl ⟨kv,.inl (i:Int),.inl hl,rfl,gi.symm⟩,_,rfl,_,rfl,p,_,1,_,rfl,rfl,SqT.of hp,atI1,l,_,rfl,.inl ⟨kv,.inl (j:Int),.inl hl,rfl,gj.symm⟩,ri,rj,_,_,rfl,SqT.of hri,SqT.of hrj,by rw[lh i hi,lh j hj],by rw[lh i hi];omega,λH1 e1=>⟨_,rfl,?_⟩⟩
 refine cB (λap => ?_) (λap => ?_)
 ·have q:=k H1 e1
  unfold due at q
  rw[ap]at q
  exact q
 refine⟨_,rfl,l,kv,rfl,.inl (e1 _ _ hl),λo _ => ?_⟩
 have hl1:=e1 _ _ hl
 have hz2:(upd H1 l (HO.frz o (HO.dK kv))) l=some (.frz o (.dK kv)):=zaf
 have k2:∀b ob,H1 b=some ob->b≠l->(upd H1 l (HO.frz o (HO.dK kv))) b=some ob:=λb ob hb be=>(zal be).trans hb
 have th:∀H',Same (upd H1 l (HO.frz o (HO.dK kv))) H'->Same H1 (upd H' l (.dK kv)):=λH' e=>zlo hl1 e
 generalize upd H1 l (HO.frz o (HO.dK kv))=H2 at hz2 k2 th
 have t2:∀b xs,H b=some (.tup xs)->H2 b=some (.tup xs):=λb xs hb=>k2 _ _ (e1 _ _ hb) (zbk (e1 _ _ hb) hl1 (by intro z;cases z))
 have ht2:H2 t=some (.dT tv):=k2 _ _ (e1 _ _ ht) (zbk (e1 _ _ ht) hl1 (by intro z;cases z))
 have tn2:=tn.keep t2
 have nf:∀o w,H l≠some (.frz o w):=λo w z=>by rw[hl]at z;cases z
 refine ze9 (tb:=tIfS _ _ _) (λq σ H'=>Same H2 H'/\(∃v3,σ = [some (.ref l),some (.ref t),some (.ref p),v3])/\∀x∈(pl hs).take q,lets (rkk kd ws) (hd hs) i j x=false) ?_ (λi σ H' h=>h.1 _ _ hz2) ?_ ?_
 ·exact⟨Same.refl _,⟨none,rfl⟩,λx hx=>by simp at hx⟩
 ·rintro q kx vx σ H3 hkx ⟨e3,⟨v3,rfl⟩,no⟩
  obtain⟨a,ha,ek,ta⟩:=pget2 tn.ld hkx
  have ek:kx = .inl (a:Int):=ek
  subst ek
  dsimp only[gName,kV]
  refine⟨_,rfl,_,rfl,_,rfl,_,rfl,l,t,p,m,kd,ws,hs,kv,tv,ps,i,j,a,rfl,m4,.inr ⟨o,e3 _ _ hz2⟩,e3 _ _ ht2,e3 _ _ (t2 _ _ hp),tn2.keep λb xs hb=>e3 _ _ hb,lt,hi,hj,List.mem_of_getElem? ha,λH4 e4=>⟨_,rfl,?_⟩⟩
  refine cB (λb1 => ?_) (λb1 => ?_)
  ·refine .inr ⟨l,o,.dK kv,e4 _ _ (e3 _ _ hz2),nf,?_⟩
   have q:=k _ (e1.trans (th _ (e3.trans e4)))
   unfold due at q
   rw[List.any_eq_true.mpr ⟨a,List.mem_of_getElem? ha,b1⟩,Bool.not_true,Bool.and_false]at q
   exact q
  ·refine⟨e3.trans e4,⟨_,rfl⟩,λx hx => ?_⟩
   rcases(zcq ha).mp hx with z | z
   ·exact no x z
   ·rw[z];exact b1
 ·rintro σ H3 ⟨e3,⟨v3,rfl⟩,no⟩
  rw[<- Paired.length tn.ld,List.take_length]at no
  refine .inr ⟨l,o,.dK kv,e3 _ _ hz2,nf,?_⟩
  have na:((pl hs).any λx=>lets (rkk kd ws) (hd hs) i j x)=false:=by
   rw[List.any_eq_false]
   intro x hx z
   rw[no x hx]at z;cases z
  have q:=k _ (e1.trans (th _ e3))
  unfold due at q
  rw[ap,na]at q
  exact q
theorem scPairs:FnScope ["ring","row","leads","turns","ahead"] ["ring","row"] (defScope zeg):=⟨rfl,rfl,rfl,by decide +kernel,rfl,by decide +kernel,by decide +kernel⟩
set_option maxHeartbeats 4000000 in
theorem zmj(F:FunD K "pairs" "pairs" zeg .none f fd)(T:Txt K mg zan zad zam zag zac zah zab)(c_LBP:Cal P w K mg base CX0 9 "leads_by_place" ["ring","row"] [] (spLBP zan zag zac zah zab))(c_Turns:Cal P w K mg base CX0 9 "turns_of" ["ring","leads"] [] (spTurns zan zag zac zah zab))(c_Due1:Cal P w K mg base CX0 3 "is_due" ["leads","turns","pair"] [] (spDue1 K)){cc Pt:Addr}(hcc:codeOfF K f=some cc)(hCd:W.CodeHd base cc Pt)(hBd:base.BuiltinsAt mg Pt):FnOk P w K mg base CX0 12 f fd ["ring","row"] (spPairs zan zag zac zah zab Pt):=by
 refine F.okL hcc (k:=11) scPairs (λvs H Q E h => ?_) (λA outer s H vs Q E hr h => ?_)
 ·obtain⟨r,b,m,pf,po,n,kd,ws,ds,kvss,rfl,_⟩:=h
  rfl
 obtain⟨r,b,m,pf,po,n,kd,ws,ds,kvss,rfl,h⟩:=h
 refine⟨_,(zai (zaz (i:=2) scPairs.nd rfl (Or.inr rfl) (pe_c c_LBP hr pass00 .nil ((zaa (pv 0) (zaa (pv 1) zae)))))
  (zai (zaz (i:=3) scPairs.nd rfl (Or.inr rfl) (pe_c c_Turns hr pass00 .nil ((zaa (pv 0) (zaa (pv 2) zae)))))
  (zai (zaz (i:=4) scPairs.nd rfl (Or.inl rfl) (zmn (x:="pair") (y:="turns") (i:=3) (cc:=cc) (P:=Pt) (pv 3) hr T.b_sorted rfl hCd hBd rfl (by decide +kernel) rfl rfl rfl rfl (λ_ _ _ _ _ _=>rfl) rfl rfl (λq c1 c2 s1 H1=>zcz (uOne (Room.deeper (k:=8) (Room.in1 (k:=9) (Room.in1 (k:=10) hr)) _)) (pv 1) (pv 0) (λ_ _=>rfl))))
  (zaj (zas (zbv (N:=["pair","leads","turns"]) (cl:=[("turns",s.heap.objs.size + 2),("leads",s.heap.objs.size + 1)]) (mp:=[none,some 2,some 3]) (Blk.of rfl (by decide +kernel) rfl (by decide +kernel) zc0 (zbq rfl (zbq rfl zdl)) (zjv (fs:=["turns","leads"]) rfl (by decide +kernel)) rfl (zc7 (zbp rfl (.inl rfl) rfl (zbp rfl (.inl rfl) rfl zdq)))) rfl (zdr (K:=K) rfl (pv 4)) (λC0 s0 H0 fp0=>zdc (i:=0) zc0 rfl rfl) (λC0 s0 H0 fp0=>zol (zdd (pe_c c_Due1 hr pass00 .nil ((zaa (pv 1) (zaa (pv 2) (zaa (pv 0) zae))))))) (λC0 s0 H0 fp0=>pv 0))))))),?_⟩
 obtain⟨⟨dx,hr0⟩,hk,m1,m4,k0,k4,wn,wb,hb,b12,hT,k⟩:=h
 refine⟨_,rfl,_,rfl,r,b,m,pf,po,n,kd,ws,ds,kvss,rfl,⟨dx,hr0⟩,hk,m1,m4,k0,k4,wn,wb,hb,λld H1 kv hs nld e1 hld lk lhs ho => ?_⟩
 have ht0:=hs_t hb lhs ho
 have l12:hs.length<=12:=by rw[lhs,<- hb.len];exact b12
 dsimp only[gName]
 refine⟨_,rfl,_,rfl,r,ld,m,pf,po,kd,ws,kv,hs,rfl,⟨dx,e1 _ _ hr0⟩,zix (λb C dx fs hb=>e1 _ _ hb) (λb xs hb=>e1 _ _ hb) hk,m1,m4,k0,k4,wn,wb,hld,lk,ht0,by omega,λt H2 tv ps nt e2 ht tu al => ?_⟩
 dsimp only[gName]
 have g2:=e1.trans e2
 have hT2:=g2 _ _ hT
 refine⟨_,rfl,t,tv,.ref t,rfl,ht,rfl,hT2,λc' as hc' ncP la hi => ?_⟩
 have b3:∀b o,H2 b=some o->b≠Pt->∀u,(upd H2 Pt u) b=some o:=λb o hb nb u=>by rw[zal nb];exact hb
 generalize eu:HO.tbl _=u at hi ⊢
 have b3:∀b o,H2 b=some o->b≠Pt->(upd H2 Pt u) b=some o:=λb o hb nb=>b3 b o hb nb u
 have hP3:(upd H2 Pt u) Pt=some u:=zaf
 generalize upd H2 Pt u=H3 at b3 hP3 hi ⊢
 have t3:∀b xs,H2 b=some (.tup xs)->H3 b=some (.tup xs):=λb xs hb=>b3 _ _ hb (zbk hb hT2 (by intro z;cases z))
 have ht3:H3 t=some (.dT tv):=b3 _ _ ht (zbk ht hT2 (by intro z;cases z))
 have hld3:H3 ld=some (.dK kv):=b3 _ _ (e2 _ _ hld) (zbk (e2 _ _ hld) hT2 (by intro z;cases z))
 have tn3:Tn m (rkk kd ws) hs kv tv ps H3:=⟨lk.same λb xs hb=>t3 _ _ (e2 _ _ hb),ht0,tu.keep t3,al⟩
 have PA:Paired (fun(p:Nat×Nat) (a:Addr)=>H3 a=some (.tup ((pr2 p.1 p.2).map V.int))) ps as:=pcomp tu (zk2 (R:=λa (kv:List Key×V)=>H3 a=some (.tup (kv.1.map kV))) (f:=id) la hi) λp a kv h1 h2=>by
  have h2:H3 a=some (.tup (kv.1.map kV)):=h2
  rw[h1.1,zf8]at h2;exact h2
 obtain⟨L,rl⟩:=zgx (kd:=kd) (ws:=ws) (m:=m)
 let val:Nat×Nat->V:=λp=>(valV tv (ky (pr2 p.1 p.2))).getD .non
 have hval:∀p∈ps,valV tv (ky (pr2 p.1 p.2))=some (val p)/\NstH H3 (tk (rkk kd ws) (hd hs) p.1 p.2) (val p):=λp hp=>by
  obtain⟨v,h1,h2⟩:=zkv (R:=λp v=>NstH H3 (tk (rkk kd ws) (hd hs) p.1 p.2) v) tn3.tu p hp
  have:val p=v:=by show (valV tv (ky (pr2 p.1 p.2))).getD .non=v;rw[h1];rfl
  rw[this];exact⟨h1,h2⟩
 refine zi9 (vs:=ps.map val) (pmap2 (f:=V.ref) (g:=val) PA λp hp a ha Q' hq => ?_) ?_
 ·exact⟨_,rfl,_,rfl,t,val p,rfl,.inr ⟨tv,ky (pr2 p.1 p.2),a,.inl ht3,rfl,by rw[zf8];exact ha,(hval p hp).1.symm⟩,hq⟩
 rw[List.nil_append]
 refine⟨ps.map λp=>tk (rkk kd ws) (hd hs) p.1 p.2,L + 2,pmapm λp hp=>⟨(hval p hp).2.v,zdj rl ht0 ((al.2 p.1 p.2).mp hp).2.1 ((al.2 p.1 p.2).mp hp).2.2⟩,λps' pp pw D nD => ?_⟩
 rw[List.zip_map]at pp
 obtain⟨l',pl',rfl⟩:=zep _ pp _ rfl
 rw[List.pairwise_map]at pw
 have em:(l'.map (Prod.map (λp:Nat×Nat=>tk (rkk kd ws) (hd hs) p.1 p.2) V.ref)).map (λx=>x.2)=l'.map λq=>V.ref q.2:=by rw[List.map_map];rfl
 rw[em]
 have e4:Same H3 (upd H3 D (.lst (l'.map λq=>V.ref q.2))):=Same.upd nD
 have hD4:(upd H3 D (HO.lst (l'.map λq=>V.ref q.2))) D=some (.lst (l'.map λq=>V.ref q.2)):=zaf
 generalize upd H3 D (HO.lst (l'.map λq=>V.ref q.2))=H4 at e4 hD4
 obtain⟨qs,eqs⟩:∃qs:List (List Int),qs=l'.map λq=>pr2 q.1.1 q.1.2:=⟨_,rfl⟩
 have hin:∀q∈l',q.1∈ps/\H3 q.2=some (.tup ((pr2 q.1.1 q.1.2).map V.int)):=λq hq=>pzip PA q (pl'.mem_iff.mp hq)
 have hp4:Paired (Trm H4) qs (l'.map λq=>V.ref q.2):=by
  rw[eqs];exact pmapm λq hq=>⟨q.2,rfl,e4 _ _ (hin q hq).2⟩
 have e1':qs.Perm (ps.map λp=>pr2 p.1 p.2):=by
  rw[eqs]
  have:=pl'.map (λq=>pr2 q.1.1 q.1.2)
  rwa [zoe (by rw[Paired.length PA];exact Nat.le_refl _)]at this
 have prs:Prs (rkk kd ws) hs qs:=by
  refine⟨e1'.nodup_iff.mpr (zd6 al.1 λa _ b _ e => ?_),λp => ?_,?_⟩
  ·obtain⟨z1,z2⟩:=zgm e
   exact Prod.ext z1 z2
  ·rw[e1'.mem_iff,List.mem_map]
   constructor
   ·rintro⟨⟨i,j⟩,h1,rfl⟩
    obtain⟨h2,h3,h4⟩:=(al.2 i j).mp h1
    exact⟨i,j,h2,h3,h4,rfl⟩
   ·rintro⟨i,j,h2,h3,h4,rfl⟩
    exact⟨(i,j),(al.2 i j).mpr ⟨h2,h3,h4⟩,rfl⟩
  ·rw[eqs,List.pairwise_map]
   exact pw.imp fun{a b} h=>by rw[zju,zju];exact h
 have lqs:qs.length<=1000:=by
  have h1:=e1'.length_eq
  rw[List.length_map]at h1
  have h2:ps.length<=((List.range 12).flatMap λi=>(List.range 12).map λj=>(i,j)).length:=zg0 al.1 λp hp=>by
   obtain⟨_,h3,h4⟩:=(al.2 p.1 p.2).mp hp
   have q1:=List.mem_range.mp (List.mem_filter.mp h3).1
   have q2:=List.mem_range.mp (List.mem_filter.mp h4).1
   exact List.mem_flatMap.mpr ⟨p.1,List.mem_range.mpr (by omega),List.mem_map.mpr ⟨p.2,List.mem_range.mpr (by omega),rfl⟩⟩
  have h3:((List.range 12).flatMap λi=>(List.range 12).map λj=>(i,j)).length=144:=by decide
  omega
 have q0:∀x∈qs,T0 2 x:=λx hx=>by
  obtain⟨i,j,_,_,_,rfl⟩:=(prs.mem x).mp hx
  exact T0.of rfl λy hy=>by
   have hy:y=(i:Int)\/y=(j:Int):=by simpa[pr2]using hy
   rcases hy with rfl | rfl <;> omega
 have hl4:TL 2 H4 D (l'.map λq=>V.ref q.2) qs:=⟨hD4,hp4,q0,by rw[<- Paired.length hp4];exact lqs⟩
 dsimp only[gName]
 show tComp _ _ _ _ _ _ _ _
 refine zj5 (J:=Itl K D) (H1:=H4) (zde (SqL.of hl4.at_)) hl4.b ?_ (λσ=>∃v,σ = [v,some (.ref ld),some (.ref t)]) (λi=>dueP (rkk kd ws) (hd hs) (pl hs) (qs.getD i [])) (λi v H'=>Trm H' (qs.getD i []) v) (λi v H1 H2 e h=>h.same e) (λi v H1 a y1 y2 ha h=>zlh ha h) ⟨none,rfl⟩ ?_ λD2 H5 us nD2 e5 hL hp => ?_
 ·exact λR hR=>⟨_,rfl,D,rfl,⟨_,SqL.of hl4.at_⟩,hR⟩
 ·rintro i v σ' H6 hi' ⟨z,rfl⟩ e6 hv Ny Nn hy hn
  obtain⟨t1,rt,ht1,rfl,hr1,t0⟩:=(hl4.same e6).get hv
  have eg:qs.getD i []=t1:=by simp[List.getD,ht1]
  obtain⟨a,c,h2,h3,h4,rfl⟩:=(prs.mem t1).mp (List.mem_of_getElem? ht1)
  rw[eg]at hy hn
  unfold gName
  dsimp only
  have g6:=e4.trans e6
  refine⟨_,rfl,_,rfl,_,rfl,ld,t,rt,m,kd,ws,hs,kv,tv,ps,a,c,rfl,m4,g6 _ _ hld3,g6 _ _ ht3,hr1,tn3.keep λb xs hb=>g6 _ _ hb,h2,h3,h4,λH7 e7=>⟨_,rfl,?_⟩⟩
  dsimp only
  cases o:due (rkk kd ws) (hd hs) (pl hs) a c with
  | true=>
   rw[if_pos rfl]
   exact⟨_,rfl,hy _ _ _ ⟨_,rfl⟩ e7 ⟨rt,rfl,e7 _ _ hr1⟩ (by rw[zgu];exact o)⟩
  | false=>exact iteF (hn _ _ ⟨_,rfl⟩ e7 (by rw[zgu];exact o))
 rw[<- hl4.len]at hp
 have hp2:=pmapl (R:=Trm H5) (f:=λi=>qs.getD i []) hp
 rw[zen (q:=dueP (rkk kd ws) (hd hs) (pl hs))]at hp2
 have nH:H D2=none:=by
  cases q:H D2 with
  | none=>rfl
  | some o=>
   by_cases c:D2=Pt
   ·have:=e4 _ _ hP3
    rw[<- c,nD2]at this;cases this
   ·have:=e4 _ _ (b3 _ _ (g2 _ _ q) c)
    rw[nD2]at this;cases this
 refine k D2 H5 us qs hs nH (λb o hb nb=>e5 _ _ (e4 _ _ (b3 _ _ (g2 _ _ hb) nb))) lhs ho prs ⟨hL,hp2,λx hx=>q0 x (List.mem_filter.mp hx).1,?_⟩
 rw[<- Paired.length hp2]
 exact Nat.le_trans (List.length_filter_le _ _) lqs
theorem scCell:FnScope ["_law_script","_law_k"] ["_law_script","_law_k"] (defScope zcj):=⟨rfl,rfl,rfl,by decide +kernel,rfl,by decide +kernel,by decide +kernel⟩
set_option maxHeartbeats 4000000 in
theorem zoo(F:FunD K "_law_cell" "_law_cell" zcj .none f fd)(T:Txt K mg zan zad zam zag zac zah zab)   : FnOk P w K mg base CX0 1 f fd ["_law_script","_law_k"] (spCell K):=by
 refine F.okN (k:=0) scCell (λvs H Q E h => ?_) (λcdv A outer s H vs Q E hr h => ?_)
 ·obtain⟨a,ns,k,rfl,_⟩:=h
  rfl
 obtain⟨a,ns,k,rfl,h⟩:=h
 refine⟨_,(zai (zbs (zat zjp (pv 1) (zaq (zbr (K:=K) rfl) rfl T.b_len PySem.boot_len ((zaa (pv 0) zae))) (nomark _)) (zaj (zas (za2 (r:=rIxL K) zbi (pv 0) (pv 1) (λ_ _=>rfl)))) zaw)
  (zaj (zas (zak)))),?_⟩
 obtain⟨hS,h0,q⟩:=h
 have hl:(ns.map V.int).length=ns.length:=List.length_map _
 refine⟨_,rfl,_,rfl,a,_,rfl,.inl hS,?_⟩
 walk_at "rd"
 refine cD (λc => ?_) (λc => ?_)
 ·rw[hl]at c
  exact⟨_,rfl,_,rfl,a,_,_,_,rfl,rfl,hS,zo8 h0 c,q⟩
 ·rw[hl]at c
  have e:cellOf ns k=0:=by unfold cellOf;rw[List.getD_eq_getElem?_getD,List.getElem?_eq_none (by omega)];rfl
  rw[e]at q
  exact q
theorem scWhole:FnScope ["_law_found"] ["_law_found"] (defScope zbx):=⟨rfl,rfl,rfl,by decide +kernel,rfl,by decide +kernel,by decide +kernel⟩
set_option maxHeartbeats 4000000 in
theorem znz(F:FunD K "_law_whole" "_law_whole" zbx .none f fd)(T:Txt K mg zan zad zam zag zac zah zab)   : FnOk P w K mg base CX0 1 f fd ["_law_found"] spWhole:=by
 refine F.okN (k:=0) scWhole (λvs H Q E h => ?_) (λcdv A outer s H vs Q E hr h => ?_)
 ·obtain⟨i,rfl,_⟩:=h
  rfl
 obtain⟨i,rfl,h⟩:=h
 refine⟨_,(zaj (zas (zfu (zaq (zc1 (K:=K) rfl) rfl T.b_isinstance (by kernel_rfl) ((zaa (pv 0) (zaa (zgb (v := .ty "int") rfl T.b_int (by kernel_rfl) rfl) zae)))) (zg6 (zq7 (zaq (zc1 (K:=K) rfl) rfl T.b_isinstance (by kernel_rfl) ((zaa (pv 0) (zaa (zgb (v := .ty "bool") rfl T.b_bool (by kernel_rfl) rfl) zae))))))))),?_⟩
 exact⟨_,rfl,_,_,_,_,_,rfl,rfl,.int i,T.kii,_,rfl,iteT ⟨_,rfl,_,_,_,_,_,rfl,rfl,.int i,T.kib,_,rfl,h⟩⟩
theorem scLPr:FnScope ["_law_cell_here","_law_found"] ["_law_cell_here"] (defScope zb4):=⟨rfl,rfl,rfl,by decide +kernel,rfl,by decide +kernel,by decide +kernel⟩
set_option maxHeartbeats 4000000 in
theorem zqu(F:FunD K "_law_prime" "_law_prime" zb4 .none f fd)(T:Txt K mg zan zad zam zag zac zah zab)   : FnOk P w K mg base CX0 1 f fd ["_law_cell_here"] spLP:=by
 refine F.okN (k:=0) scLPr (λvs H Q E h => ?_) (λcdv A outer s H vs Q E hr h => ?_)
 ·obtain⟨c,rfl,_⟩:=h
  rfl
 obtain⟨c,rfl,h⟩:=h
 refine⟨_,(zai (zaz (i:=1) scLPr.nd rfl (Or.inr rfl) (zav zd7 (zak) (zav zbj (pv 0) (zak))))
  (zai (zf5 PassesOwn.never (zdd (zaq (zhi (K:=K) rfl rfl) rfl T.b_any (by kernel_rfl) ((zaa (zbv (N:=["_law_k","_law_found"]) (cl:=[("_law_found",s.heap.objs.size + 1)]) (mp:=[none,some 1]) (Blk.of rfl (by decide +kernel) rfl (by decide +kernel) zcp (zbq rfl zdl) (zjv (fs:=["_law_found"]) rfl (by decide +kernel)) rfl (zc7 (zbp rfl (.inl rfl) rfl zdq))) rfl (zl7 rfl T.b_range ((zaa (zak) (zaa (zak) zae)))) (λC0 s0 H0 fp0=>zdc (i:=0) zcp rfl rfl) (λC0 s0 H0 fp0=>zbu) (λC0 s0 H0 fp0=>zfu (zco zjp (pv 0) (pv 1) (nomark _)) (zg6 (zco zda (zav zbj (pv 1) (pv 0)) (zak) (nomark _))))) zae)))) (zaj (zaz (i:=1) scLPr.nd rfl (Or.inr rfl) (zav zd7 (pv 1) (zak)))))
  (zaj (zas (pv 1))))),?_⟩
 have k:=h
 walk_at "rd"
 refine⟨λm σ H'=>∃n:Int,m=(9973 - n).toNat/\σ = [some (.int c),some (.int n)]/\Same H H'/\2<=n/\n<=9973,⟨_,_,rfl,rfl,Same.refl _,by omega,by omega⟩,?_⟩
 rintro m σ H' ⟨n,rfl,rfl,e1,n2,n9⟩
 show tComp _ _ _ _ _ _ _ _
 refine zdg (J:=Itr 2 98) (H1:=H') (zfz 2 98) (by decide) ?_ (λσ=>∃v,σ = [v,some (.int n)]) (λ_=>true) (λi => .bl (decide ((2:Int) + i < n) && decide (n % (2 + (i:Int))=0))) ⟨none,rfl⟩ ?_ λD H2 e2 hL => ?_
 ·exact λR hR=>⟨2,100,rfl,⟨by decide,by decide,by decide,by decide⟩,hR⟩
 ·rintro i v σ' H3 hi ⟨z,rfl⟩ e3 rfl Ny Nn hy hn
  unfold tYes
  dsimp only[gName]
  rw[if_pos rfl]
  have q:=hy [some (.int (2 + (i:Int))),some (.int n)] H3 ⟨_,rfl⟩ (Same.refl _) rfl
  refine⟨_,rfl,_,rfl,_,_,rfl,rfl,_,rfl,?_⟩
  by_cases c1:(2:Int) + (i:Int) < n
  ·rw[decide_eq_true c1]at q ⊢
   rw[if_pos rfl]
   refine⟨_,rfl,_,rfl,_,_,rfl,rfl,(by show (0:Int) < 2 + (i:Int);omega),rfl,?_⟩
   rw[zfi]
   exact q
  ·rw[decide_eq_false c1]at q ⊢
   rw[if_neg (by decide)]
   exact q
 rw[List.filter_eq_self.mpr (λ_ _=>rfl)]at hL
 refine⟨D,(List.range 98).map λi=>decide ((2:Int) + (i:Nat) < n) && decide (n % (2 + ((i:Nat):Int))=0),rfl,SqL.of (by rw[hL,List.map_map];rfl),_,rfl,?_⟩
 refine cB (λc1 => ?_) (λc1 => ?_)
 ·have n3:n≠9973:=λz=>by
   subst z
   revert c1
   decide +kernel
  refine⟨λσ' H''=>σ'=[some (.int c),some (.int (n + 1))]/\Same H H'',?_,?_⟩
  ·rintro σ' H'' ⟨rfl,e3⟩
   exact⟨(9973 - (n + 1)).toNat,by omega,n + 1,rfl,rfl,e3,by omega,by omega⟩
  ·walk_at "rd"
   exact e1.trans e2
 ·refine⟨_,rfl,k n H2 (e1.trans e2) (zm6 n2 n9 λj hj hz => ?_) n9⟩
  rw[List.any_map,List.any_eq_false]at c1
  have q:=c1 j.val (List.mem_range.mpr j.isLt)
  refine q ?_
  have jj:(2:Int) + (j.val:Int) < n:=by
   have:((j.val:Int) + 2) * 2<=((j.val:Int) + 2) * ((j.val:Int) + 2):=Int.mul_le_mul_of_nonneg_left (by omega) (by omega)
   omega
  have jz:n % (2 + (j.val:Int))=0:=by
   rw[Int.fmod_eq_emod_of_nonneg _ (by omega)]at hz
   rw[Int.add_comm];exact hz
  show (decide ((2:Int) + (j.val:Int) < n) && decide (n % (2 + (j.val:Int))=0))=true
  rw[decide_eq_true jj,decide_eq_true jz];rfl
theorem scLRs:FnScope ["_law_cell_here"] ["_law_cell_here"] (defScope zbw):=⟨rfl,rfl,rfl,by decide +kernel,rfl,by decide +kernel,by decide +kernel⟩
set_option maxHeartbeats 4000000 in
theorem zqw(F:FunD K "_law_rests" "_law_rests" zbw .none f fd)(T:Txt K mg zan zad zam zag zac zah zab)(c_LPr:Cal P w K mg base CX0 1 "_law_prime" ["_law_cell_here"] [] spLP):FnOk P w K mg base CX0 2 f fd ["_law_cell_here"] spLRs:=by
 refine F.okN (k:=1) scLRs (λvs H Q E h => ?_) (λcdv A outer s H vs Q E hr h => ?_)
 ·obtain⟨c,rfl,_⟩:=h
  rfl
 obtain⟨c,rfl,h⟩:=h
 refine⟨_,(zai (zbs (zat zda (zav zbj (pv 0) (zak)) (zak) (nomark _)) (zaj (zas (zak))) zaw)
  (zai (zbs (zat zda (zav zbj (pv 0) (zak)) (zak) (nomark _)) (zaj (zas (pe_c c_LPr hr pass00 .nil ((zaa (zav zbj (zav zb6 (pv 0) (zak)) (zak)) zae))))) zaw)
  (zaj (zas (pe_c c_LPr hr pass00 .nil ((zaa (zav zd9 (zav zb6 (pv 0) (zak)) (zak)) zae))))))),?_⟩
 have k:=h
 walk_at "rd"
 refine cEq (λc0=>k 0 H (Same.refl _) (.inl rfl) (by decide)) (λc0 => ?_)
 walk_at "rd"
 refine cEq (λc1 => ?_) (λc1 => ?_)
 ·walk_at "rd"
  exact λn H' e p n9=>k n H' e (.inr p) n9
 ·walk_at "rd"
  exact λn H' e p n9=>k n H' e (.inr p) n9
theorem scLWs:FnScope ["_law_many","_law_cell_here"] ["_law_many","_law_cell_here"] (defScope zbe):=⟨rfl,rfl,rfl,by decide +kernel,rfl,by decide +kernel,by decide +kernel⟩
set_option maxHeartbeats 4000000 in
theorem zqh(F:FunD K "_law_weights" "_law_weights" zbe .none f fd)(T:Txt K mg zan zad zam zag zac zah zab)   : FnOk P w K mg base CX0 1 f fd ["_law_many","_law_cell_here"] spLWs:=by
 refine F.okN (k:=0) scLWs (λvs H Q E h => ?_) (λcdv A outer s H vs Q E hr h => ?_)
 ·obtain⟨m,c,rfl,_⟩:=h
  rfl
 obtain⟨m,c,rfl,h⟩:=h
 refine⟨_,(zai (zbs (zat zda (zav zbj (pv 1) (zak)) (zak) (nomark _)) (zaj (zas (zf7 (zgt (K:=K) rfl) (zfx ((zaa (zav zbj (zav zb6 (pv 1) (zak)) (zak)) (zaa (zav zbj (zav zb6 (pv 1) (zak)) (zak)) (zaa (zav zbj (zav zb6 (pv 1) (zak)) (zak)) (zaa (zav zbj (zav zb6 (pv 1) (zak)) (zak)) zae)))))) zpc (ze2 (pv 0))))) zaw)
  (zaj (zas (zbv (N:=["_law_k","_law_cell_here"]) (cl:=[("_law_cell_here",s.heap.objs.size + 1)]) (mp:=[none,some 1]) (Blk.of rfl (by decide +kernel) rfl (by decide +kernel) zbz (zbq rfl zdl) (zjv (fs:=["_law_cell_here"]) rfl (by decide +kernel)) rfl (zc7 (zbp rfl (.inl rfl) rfl zdq))) rfl (zcn rfl T.b_range ((zaa (pv 0) zae))) (λC0 s0 H0 fp0=>zdc (i:=0) zbz rfl rfl) (λC0 s0 H0 fp0=>zbu) (λC0 s0 H0 fp0=>zav zbj (zav zd7 (zav zd9 (zav zbj (zav zb6 (pv 1) (zak)) (zav zoj (zak) (zak))) (zav zd7 (zav zd9 (pv 0) (pv 0)) (zak))) (pv 0)) (zav zoj (zak) (zak))))))),?_⟩
 obtain⟨m1,m4,k⟩:=h
 walk_at "rd"
 refine cEq (λc0 => ?_) (λc0 => ?_)
 ·walk_at "rd"
  refine⟨(by show 4<=sizeLine;decide),λq hq => ?_⟩
  refine⟨_,rfl,(m:Int),rfl,q,_,rfl,SqL.of zaf,λl hl => ?_⟩
  have e1:Same H (upd H q (.lst [V.int (c / 2 % 3),V.int (c / 6 % 3),V.int (c / 18 % 3),V.int (c / 54 % 3)])):=Same.upd hq
  refine k l ([c / 2 % 3,c / 6 % 3,c / 18 % 3,c / 54 % 3].take m) _ (e1.trans (Same.upd hl)) ?_ (by simp;omega) (λx hx => ?_) λx hx => ?_
  ·rw[zaf]
   unfold cutV
   rw[HT.sIx_none,HT.sIx_nat,List.map_take]
   congr 3
   show min m 4 - 0=m
   omega
  ·have hx:=List.mem_of_mem_take hx
   simp at hx
   rcases hx with h | h | h | h <;> omega
  ·have hx:=List.mem_of_mem_take hx
   simp at hx
   rcases hx with h | h | h | h <;> omega
 ·show tComp _ _ _ _ _ _ _ _
  have e20:(10:Int) ^ (Int.toNat 20)=100000000000000000000:=by decide
  have e30:(10:Int) ^ (Int.toNat 30)=1000000000000000000000000000000:=by decide
  refine zdn (H1:=H) (m:Int) (λσ=>∃v,σ = [v,some (.int c)]) (λ_=>true) (λi => .int ((c / 2 % 10 ^ (Int.toNat 20) * ((i:Int) * (i:Int) + 7919) + (i:Int)) % 10 ^ (Int.toNat 30))) (by omega) (by omega) ?_ ⟨none,rfl⟩ ?_ λD H' e hL => ?_
  ·exact λR hR=>⟨_,rfl,hR⟩
  ·rintro i σ' H2 hi ⟨z,rfl⟩ e Ny Nn hy hn
   unfold tYes
   dsimp only[gName]
   rw[if_pos rfl]
   rw[Int.zero_add]
   have q:=hy [some (.int (i:Int)),some (.int c)] H2 ⟨_,rfl⟩ (Same.refl _) rfl
   have p30:(0:Int) < 10 ^ (Int.toNat 30):=by rw[e30];decide
   have p20:(0:Int) < 10 ^ (Int.toNat 20):=by rw[e20];decide
   have i4:i < 4:=by omega
   have sq:(i:Int) * (i:Int)<=16/\0<=(i:Int) * (i:Int):=by
    rcases(by omega:i=0\/i=1\/i=2\/i=3) with h | h | h | h <;> subst h <;> decide
   exact⟨_,rfl,_,_,rfl,rfl,⟨by decide,by decide⟩,_,_,rfl,rfl,⟨by decide,by decide,by decide⟩,_,_,rfl,rfl,p20,_,rfl,_,rfl,_,_,rfl,rfl,.inl ⟨by omega,by omega⟩,_,_,rfl,rfl,_,_,rfl,rfl,.inr ⟨by omega,by omega⟩,_,rfl,_,_,rfl,rfl,_,_,rfl,rfl,⟨by decide,by decide,by decide⟩,_,_,rfl,rfl,p30,q⟩
  rw[Int.toNat_natCast,List.filter_eq_self.mpr (λ_ _=>rfl)]at hL
  refine k D ((List.range m).map fun(i:Nat)=>(c / 2 % 10 ^ (Int.toNat 20) * ((i:Int) * (i:Int) + 7919) + (i:Int)) % 10 ^ (Int.toNat 30)) H' e (by rw[hL,List.map_map];rfl) (by simp) (λx hx => ?_) λx hx => ?_
  ·obtain⟨i,_,rfl⟩:=List.mem_map.mp hx
   exact Int.emod_nonneg _ (by rw[e30];decide)
  ·obtain⟨i,_,rfl⟩:=List.mem_map.mp hx
   exact Int.lt_trans (Int.emod_lt_of_pos _ (by rw[e30];decide)) (by rw[e30];decide)
theorem scHow:FnScope ["_law_script","_law_most","_law_p","_law_cell_here","_law_many"] ["_law_script","_law_most"] (defScope zcs):=⟨rfl,rfl,rfl,by decide +kernel,rfl,by decide +kernel,by decide +kernel⟩
set_option maxHeartbeats 4000000 in
theorem zp7(F:FunD K "_law_how" "_law_how" zcs .none f fd)(T:Txt K mg zan zad zam zag zac zah zab)(c_Cell:Cal P w K mg base CX0 1 "_law_cell" ["_law_script","_law_k"] [] (spCell K))(c_LRs:Cal P w K mg base CX0 2 "_law_rests" ["_law_cell_here"] [] spLRs)(c_LWs:Cal P w K mg base CX0 1 "_law_weights" ["_law_many","_law_cell_here"] [] spLWs):FnOk P w K mg base CX0 3 f fd ["_law_script","_law_most"] (spHow K):=by
 refine F.okN (k:=2) scHow (λvs H Q E h => ?_) (λcdv A outer s H vs Q E hr h => ?_)
 ·obtain⟨a,ns,rfl,_⟩:=h
  rfl
 obtain⟨a,ns,rfl,h⟩:=h
 refine⟨_,(zai (zaz (i:=2) scHow.nd rfl (Or.inl rfl) (pe_c c_LRs hr pass00 .nil ((zaa (pe_c c_Cell hr pass00 .nil ((zaa (pv 0) (zaa (zak) zae)))) zae))))
  (zai (zaz (i:=3) scHow.nd rfl (Or.inl rfl) (pe_c c_Cell hr pass00 .nil ((zaa (pv 0) (zaa (zak) zae)))))
  (zai (zaz (i:=4) scHow.nd rfl (Or.inl rfl) (zav zd7 (zak) (zav zbj (pv 3) (pv 1))))
  (zaj (zas (zc2 ((zaa (pv 2) (zaa (pv 4) (zaa (zav zbj (zav zb6 (pv 3) (pv 1)) (zak)) (zaa (pe_c c_LWs hr pass00 .nil ((zaa (pv 4) (zaa (zav zb6 (pv 3) (zav zd9 (zak) (pv 1))) zae)))) zae))))))))))),?_⟩
 obtain⟨hS,k⟩:=h
 refine⟨_,rfl,a,ns,0,rfl,hS,by decide,_,rfl,λn H1 e1 n0 n1 => ?_⟩
 dsimp only[gName]
 refine⟨_,rfl,a,ns,1,rfl,e1.seq hS,by decide,?_⟩
 generalize cellOf ns 1=c
 dsimp only[gName]
 refine⟨_,rfl,_,rfl,_,_,rfl,rfl,(by show (0:Int) < 4;decide),_,_,rfl,rfl,?_⟩
 dsimp only[gName]
 obtain⟨m,em,m1,m4⟩:∃m:Nat,1 + c % 4=(m:Int)/\1<=m/\m<=4:=⟨(1 + c % 4).toNat,by omega,by omega,by omega⟩
 rw[em]
 refine⟨_,rfl,_,rfl,_,rfl,_,rfl,_,_,rfl,rfl,⟨by decide,by decide⟩,_,_,rfl,rfl,(by show (0:Int) < 4;decide),_,rfl,_,rfl,_,rfl,_,_,rfl,rfl,.inl ⟨by decide,by decide⟩,_,_,rfl,rfl,⟨by decide,by decide⟩,m,_,rfl,m1,m4,λl ws H2 e2 hl lw wn wb => ?_⟩
 refine⟨(by show 4<=sizeLine;decide),λr hr => ?_⟩
 have e3:Same H2 (upd H2 r (.tup [.int n,.int m,.int (c / 4 % 4),.ref l])):=Same.upd hr
 exact k r n m (c / 4 % 4) l ws _ ((e1.trans e2).trans e3) ⟨zaf,e3 _ _ hl,lw,wn,wb,m1,m4,by omega,by omega,n0,n1⟩
theorem scCom:FnScope ["_law_one","_law_other","_law_rest"] ["_law_one","_law_other"] (defScope zbl):=⟨rfl,rfl,rfl,by decide +kernel,rfl,by decide +kernel,by decide +kernel⟩
set_option maxHeartbeats 4000000 in
theorem zqn(F:FunD K "_law_common" "_law_common" zbl .none f fd)(T:Txt K mg zan zad zam zag zac zah zab)   : FnOk P w K mg base CX0 1 f fd ["_law_one","_law_other"] spCom:=by
 refine F.okN (k:=0) scCom (λvs H Q E h => ?_) (λcdv A outer s H vs Q E hr h => ?_)
 ·obtain⟨t,b,rfl,_⟩:=h
  rfl
 obtain⟨t,b,rfl,h⟩:=h
 refine⟨_,(zai (zf5 PassesOwn.never (zat zme (pv 1) (zak) (nomark _)) (zai (zaz (i:=2) scCom.nd rfl (Or.inl rfl) (zav zk6 (pv 0) (pv 1)))
  (zai (zaz (i:=0) scCom.nd rfl (Or.inl rfl) (pv 1))
  (zaj (zaz (i:=1) scCom.nd rfl (Or.inl rfl) (pv 2))))))
  (zaj (zas (zaq zm7 rfl T.b_abs (by kernel_rfl) ((zaa (pv 0) zae)))))),?_⟩
 obtain⟨t1,t2,b1,b2,k⟩:=h
 refine⟨λm σ H'=>∃(a' b':Int) (v:Option V),m=b'.toNat/\σ = [some (.int a'),some (.int b'),v]/\H'=H/\-9<=a'/\a'<=9/\0<=b'/\b'<=3/\(a'≠0\/b'≠0),⟨_,_,_,none,rfl,rfl,rfl,t1,t2,by omega,b2,.inr (by omega)⟩,?_⟩
 rintro m σ H' ⟨a',b',v,rfl,rfl,rfl,h1,h2,h3,h4,h5⟩
 walk_at "rd"
 refine cNe (λc => ?_) (λc => ?_)
 ·refine⟨λσ' H''=>∃v',σ'=[some (.int b'),some (.int (a'.fmod b')),v']/\H''=H',?_,?_⟩
  ·rintro σ' H'' ⟨v',rfl,rfl⟩
   have f1:a'.fmod b'=a' % b':=Int.fmod_eq_emod_of_nonneg _ h3
   have:=Int.emod_nonneg a' c
   have:=Int.emod_lt_of_pos a' (show 0 < b' by omega)
   exact⟨(a'.fmod b').toNat,by omega,_,_,v',rfl,rfl,rfl,by omega,by omega,by omega,by omega,.inl c⟩
  ·refine⟨_,rfl,_,rfl,_,_,rfl,rfl,c,?_⟩
   walk_at "rd"
   rfl
 ·refine⟨_,rfl,_,rfl,?_⟩
  exact k _ (by split <;> omega) (by split <;> omega)
theorem scMd:FnScope ["_law_p","_law_top","_law_bottom","_law_most"] ["_law_p","_law_top","_law_bottom"] (defScope zcd):=⟨rfl,rfl,rfl,by decide +kernel,rfl,by decide +kernel,by decide +kernel⟩
set_option maxHeartbeats 4000000 in
theorem zrc(F:FunD K "_law_made" "_law_made" zcd .none f fd)(T:Txt K mg zan zad zam zag zac zah zab)(c_Com:Cal P w K mg base CX0 1 "_law_common" ["_law_one","_law_other"] [] spCom):FnOk P w K mg base CX0 2 f fd ["_law_p","_law_top","_law_bottom"] spMd:=by
 refine F.okN (k:=1) scMd (λvs H Q E h => ?_) (λcdv A outer s H vs Q E hr h => ?_)
 ·obtain⟨n,t,b,rfl,_⟩:=h
  rfl
 obtain⟨n,t,b,rfl,h⟩:=h
 refine⟨_,(zai (zbs (zat zk8 (pv 0) (zak) (nomark _)) (zaj (zas (zav zbj (pv 1) (pv 0)))) zaw)
  (zai (zaz (i:=3) scMd.nd rfl (Or.inl rfl) (pe_c c_Com hr pass00 .nil ((zaa (pv 1) (zaa (pv 2) zae)))))
  (zaj (zas (zc2 ((zaa (zav zi8 (pv 1) (pv 3)) (zaa (zav zi8 (pv 2) (pv 3)) zae)))))))),?_⟩
 obtain⟨n2,t1,t2,b1,b2,k⟩:=h
 walk_at "rd"
 refine cD (λc => ?_) (λc => ?_)
 ·refine⟨_,rfl,_,rfl,_,_,rfl,rfl,(by show 0 < n;omega),?_⟩
  exact k _ (t % n,0) H (Same.refl _) ((nv_n (by omega)).mpr rfl)
 ·have n0:n=0:=by
   rcases n2 with z | z
   ·exact z
   ·have:=z.1;omega
  subst n0
  refine⟨_,rfl,_,rfl,t,b,rfl,t1,t2,b1,b2,λg g0 g9 => ?_⟩
  have gc:g≠0/\g.natAbs < 2 ^ 400:=⟨by omega,Nat.lt_of_le_of_lt (show g.natAbs<=9 by omega) (Nat.lt_of_lt_of_le (show 9 < 2 ^ 4 by decide) (Nat.pow_le_pow_right (by decide) (by decide)))⟩
  refine⟨_,rfl,_,rfl,_,_,rfl,rfl,⟨gc.1,up gc.2 (by decide)⟩,_,rfl,_,rfl,_,_,rfl,rfl,⟨gc.1,up gc.2 (by decide)⟩,(by show 2<=sizeLine;decide),λr hr => ?_⟩
  exact k (.ref r) (t.fdiv g,b.fdiv g) _ (Same.upd hr) (nv_0.mpr ⟨r,rfl,zaf⟩)
theorem scSm:FnScope ["_law_p","_law_cell_here"] ["_law_p","_law_cell_here"] (defScope zce):=⟨rfl,rfl,rfl,by decide +kernel,rfl,by decide +kernel,by decide +kernel⟩
set_option maxHeartbeats 4000000 in
theorem zrd(F:FunD K "_law_some" "_law_some" zce .none f fd)(T:Txt K mg zan zad zam zag zac zah zab)(c_Md:Cal P w K mg base CX0 2 "_law_made" ["_law_p","_law_top","_law_bottom"] [] spMd):FnOk P w K mg base CX0 3 f fd ["_law_p","_law_cell_here"] spSm:=by
 refine F.okN (k:=2) scSm (λvs H Q E h => ?_) (λcdv A outer s H vs Q E hr h => ?_)
 ·obtain⟨n,c,rfl,_⟩:=h
  rfl
 obtain⟨n,c,rfl,h⟩:=h
 refine⟨_,(zai (zbs (zat zk8 (pv 0) (zak) (nomark _)) (zaj (zas (zav zd7 (zak) (zav zbj (pv 1) (zav zkg (pv 0) (zak)))))) zaw)
  (zaj (zas (pe_c c_Md hr pass00 .nil ((zaa (pv 0) (zaa (zav zd9 (zav zd7 (zak) (zav zbj (zav zb6 (pv 1) (zak)) (zak))) (zav zkg (zak) (zav zd9 (zav zbj (pv 1) (zak)) (zak)))) (zaa (zav zd7 (zak) (zav zbj (zav zb6 (pv 1) (zak)) (zak))) zae)))))))),?_⟩
 obtain⟨n2,k⟩:=h
 walk_at "rd"
 refine cD (λc0 => ?_) (λc0 => ?_)
 ·have p2:2<=n:=(n2.resolve_left (by omega)).1
  refine⟨_,rfl,_,rfl,_,_,rfl,rfl,_,_,rfl,rfl,(by show 0 < n - 1;omega),_,_,rfl,rfl,?_⟩
  exact k _ (1 + c % (n - 1),0) H (Same.refl _) ((nv_n (by omega)).mpr rfl)
 ·have n0:n=0:=by
   rcases n2 with z | z
   ·exact z
   ·have:=z.1;omega
  subst n0
  walk_at "rd"
  refine⟨0,_,_,rfl,.inl rfl,?_,?_,?_,?_,λv z H' e nv=>k v z H' e nv⟩
  ·rcases(by omega:c % 2=0\/c % 2=1) with q | q <;> rw[q] <;> omega
  ·rcases(by omega:c % 2=0\/c % 2=1) with q | q <;> rw[q] <;> omega
  ·omega
  ·omega
theorem scTrm:FnScope ["_law_many","_law_cell_here","_law_tops","_law_powers","_law_k"] ["_law_many","_law_cell_here","_law_tops"] (defScope zcf):=⟨rfl,rfl,rfl,by decide +kernel,rfl,by decide +kernel,by decide +kernel⟩
set_option maxHeartbeats 4000000 in
theorem zpz(F:FunD K "_law_term" "_law_term" zcf .none f fd)(T:Txt K mg zan zad zam zag zac zah zab)   : FnOk P w K mg base CX0 1 f fd ["_law_many","_law_cell_here","_law_tops"] spTrm:=by
 refine F.okN (k:=0) scTrm (λvs H Q E h => ?_) (λcdv A outer s H vs Q E hr h => ?_)
 ·obtain⟨m,c,tt,rfl,_⟩:=h
  rfl
 obtain⟨m,c,tt,rfl,h⟩:=h
 refine⟨_,(zai (zaz (i:=3) scTrm.nd rfl (Or.inl rfl) (zfx (zae)))
  (zai (zdu PassesOwn.never rfl (zcn rfl T.b_range ((zaa (pv 0) zae))) (zbo (i:=4) scTrm.nd rfl (Or.inl rfl)) (zai (zeh (zmg PySem.F.plainAttrs_list PySem.F.slot_list_append PySem.F.type_list_append zdf (pv 3) ((zaa (zav zbj (pv 1) (pv 2)) zae))))
  (zaj (zaz (i:=1) scTrm.nd rfl (Or.inl rfl) (zav zb6 (pv 1) (pv 2))))))
  (zaj (zas (zbd (zbc (K:=K) rfl) rfl T.b_tuple (by kernel_rfl) ((zaa (pv 3) zae))))))),?_⟩
 obtain⟨m4,t1,t2,k⟩:=h
 refine⟨Nat.zero_le _,λl hl => ?_⟩
 have e1:Same H (upd H l (.lst [])):=Same.upd hl
 have hl1:(upd H l (HO.lst [])) l=some (.lst []):=zaf
 generalize upd H l (HO.lst [])=H1 at e1 hl1
 have mt:((m:Int)).toNat=m:=by omega
 refine⟨_,rfl,(m:Int),rfl,by omega,by omega,?_⟩
 rw[mt]
 refine zea (lo:=0) (n:=m) (λj σ H'=>Same H H'/\∃(ps:List Int) (lf:Int) (v4:Option V),σ = [some (.int m),some (.int lf),some (.int tt),some (.ref l),v4]/\H' l=some (.lst (ps.map V.int))/\ps.length=j/\∀x∈ps,0<=x/\x < tt) ?_ ?_ ?_
 ·exact⟨e1,[],c,none,rfl,hl1,rfl,λx hx=>by cases hx⟩
 ·rintro j σ H3 hj ⟨e3,ps,lf,v4,rfl,hl3,lw,wb⟩
  unfold gName
  dsimp only
  have zz:(ps.map V.int).length < sizeLine:=zlt _ (by rw[List.length_map];omega)
  refine⟨_,rfl,.inl ⟨rfl,_,SqL.of hl3⟩,?_⟩
  refine⟨_,rfl,_,rfl,_,_,rfl,rfl,(by show 0 < tt;omega),l,ps.map V.int,_,rfl,rfl,hl3,zz,?_⟩
  refine⟨_,rfl,_,rfl,_,_,rfl,rfl,⟨by omega,by omega⟩,?_⟩
  have b0:=Int.emod_nonneg lf (show tt≠0 by omega)
  have b1:=Int.emod_lt_of_pos lf (show 0 < tt by omega)
  refine⟨e3.updR hl,ps ++ [lf % tt],_,_,rfl,?_,by rw[List.length_append,lw];rfl,λy hy => ?_⟩
  ·rw[zaf,List.map_append];rfl
  ·rcases List.mem_append.mp hy with hy | hy
   ·exact wb y hy
   ·rw[List.mem_singleton.mp hy];omega
 ·rintro σ H3 ⟨e3,ps,lf,v4,rfl,hl3,lw,wb⟩
  refine⟨_,rfl,l,_,rfl,.inl ⟨SqL.of hl3,λr hr => ?_⟩⟩
  refine k r ps _ (e3.trans (Same.upd hr)) zaf (T0.of lw λx hx=>(wb x hx).1) λi => ?_
  rcases Nat.lt_or_ge i ps.length with q | q
  ·have:=(wb ps[i] (List.getElem_mem q)).2
   simpa[List.getD,q]using this
  ·have:ps.getD i 0=0:=by simp[List.getD,List.getElem?_eq_none q]
   omega
theorem scLRk:FnScope ["_law_how_here","_law_term_here"] ["_law_how_here","_law_term_here"] (defScope zca):=⟨rfl,rfl,rfl,by decide +kernel,rfl,by decide +kernel,by decide +kernel⟩
set_option maxHeartbeats 4000000 in
theorem zq6(F:FunD K "_law_rank" "_law_rank" zca .none f fd)(T:Txt K mg zan zad zam zag zac zah zab)   : FnOk P w K mg base CX0 1 f fd ["_law_how_here","_law_term_here"] spLRk:=by
 refine F.okN (k:=0) scLRk (λvs H Q E h => ?_) (λcdv A outer s H vs Q E hr h => ?_)
 ·obtain⟨r,t,n,m,kd,l,ws,xs,rfl,_⟩:=h
  rfl
 obtain⟨r,t,n,m,kd,l,ws,xs,rfl,h⟩:=h
 refine⟨_,(zai (zbs (zat zda (za2 (r:=rIxT K) za8 (pv 0) (zak) (λ_ _=>rfl)) (zak) (nomark _)) (zaj (zas (zav zeb (zc2 ((zaa (zaq (zcm (K:=K) rfl true rfl) rfl T.b_sum (by kernel_rfl) ((zaa (pv 1) zae))) zae))) (pv 1)))) zaw)
  (zai (zbs (zat zda (za2 (r:=rIxT K) za8 (pv 0) (zak) (λ_ _=>rfl)) (zak) (nomark _)) (zaj (zas (zav zeb (zc2 ((zaa (zaq (zcm (K:=K) rfl true rfl) rfl T.b_sum (by kernel_rfl) ((zaa (pv 1) zae))) zae))) (zbd (zbc (K:=K) rfl) rfl T.b_tuple (by kernel_rfl) ((zaa (zbv (N:=["_law_power"]) (Blk.plain (by decide +kernel) (by decide +kernel) rfl (by decide +kernel) zd5) rfl (zla (K:=K) rfl rfl T.b_reversed ((zaa (pv 1) zae))) (λC0 s0 H0 fp0=>zdc (i:=0) zd5 rfl rfl) (λC0 s0 H0 fp0=>zbu) (λC0 s0 H0 fp0=>zls zgv (pv 0))) zae)))))) zaw)
  (zai (zbs (zat zda (za2 (r:=rIxT K) za8 (pv 0) (zak) (λ_ _=>rfl)) (zak) (nomark _)) (zaj (zas (zav zeb (zc2 ((zaa (zaq (zcm (K:=K) rfl false rfl) rfl T.b_sum (by kernel_rfl) ((zaa (zbv (N:=["_law_k","_law_how_here","_law_term_here"]) (cl:=[("_law_term_here",s.heap.objs.size + 2),("_law_how_here",s.heap.objs.size + 1)]) (mp:=[none,some 0,some 1]) (Blk.of rfl (by decide +kernel) rfl (by decide +kernel) za0 (zbq rfl (zbq rfl zdl)) (zjv (fs:=["_law_term_here","_law_how_here"]) rfl (by decide +kernel)) rfl (zc7 (zbp rfl (.inl rfl) rfl (zbp rfl (.inl rfl) rfl zdq)))) rfl (zcn rfl T.b_range ((zaa (zaq (zbr (K:=K) rfl) rfl T.b_len PySem.boot_len ((zaa (pv 1) zae))) zae))) (λC0 s0 H0 fp0=>zdc (i:=0) za0 rfl rfl) (λC0 s0 H0 fp0=>zbu) (λC0 s0 H0 fp0=>zav zln (za2 (r:=rIxL K) zbi (za2 (r:=rIxT K) za8 (pv 1) (zak) (λ_ _=>rfl)) (pv 0) (λ_ _=>rfl)) (za2 (r:=rIxT K) za8 (pv 2) (pv 0) (λ_ _=>rfl)))) zae))) zae))) (pv 1)))) zaw)
  (zaj (zas (pv 1)))))),?_⟩
 obtain⟨hw,ht,hlx,px,k⟩:=h
 have k0:=hw.k0
 have k4:=hw.k4
 have hr0:=hw.at_
 refine⟨_,rfl,r,_,_,_,rfl,rfl,SqT.of hr0,atI2,?_⟩
 refine⟨rfl,_,rfl,cEq (λc => ?_) (λc => ?_)⟩
 ·refine⟨_,rfl,t,xs,rfl,SqT.of ht,(by show 1<=sizeLine;decide),λl1 hl1 => ?_⟩
  have e1:Same H (upd H l1 (HO.tup [V.int xs.sum])):=Same.upd hl1
  refine⟨_,rfl,?_⟩
  refine⟨l1,t,_,_,rfl,rfl,SqT.of (zaf),SqT.of (e1 _ _ ht),by simp,by simp;exact Nat.le_trans (Nat.add_le_add_left px.len 1) (by rw[sizeLine_eq];decide),λz => ?_,λ_ p hp => ?_⟩
  ·exact absurd (List.map_eq_nil_iff.mp z) px.ne
  ·refine k p _ (e1.updR (e1.free hp)) ?_
   rw[zaf]
   unfold rkk
   rw[if_neg (by omega),if_neg (by omega),if_pos c]
   rfl
 refine⟨_,rfl,r,_,_,_,rfl,rfl,SqT.of hr0,atI2,?_⟩
 refine⟨rfl,_,rfl,cEq (λc1 => ?_) (λc1 => ?_)⟩
 ·refine⟨_,rfl,t,xs,rfl,SqT.of ht,(by show 1<=sizeLine;decide),λl1 hl1 => ?_⟩
  have e1:Same H (upd H l1 (HO.tup [V.int xs.sum])):=Same.upd hl1
  have ht1:SqT K (upd H l1 (HO.tup [V.int xs.sum])) t (xs.map V.int):=SqT.of (e1 _ _ ht)
  have lm:(xs.map V.int).length=xs.length:=List.length_map _
  show tComp _ _ _ _ _ _ _ _
  refine zdg (J:=Itv K t (xs.map V.int).length) (H1:=upd H l1 (HO.tup [V.int xs.sum])) (zi5 ht1) (by rw[lm];exact Nat.le_trans px.len (by decide)) ?_ (λσ=>σ.length=1) (λ_=>true) (λi => .int (-(xs.getD (xs.length - 1 - i) 0))) rfl ?_ λD H' e hL => ?_
  ·exact λR hR=>⟨_,rfl,t,_,rfl,ht1,hR⟩
  ·rintro i x σ' H2 hi hs e hx Ny Nn hy hn
   rw[lm]at hx
   rw[zcx hx]
   match σ',hs with
   | [_],_=>exact⟨_,rfl,_,rfl,hy _ _ rfl (Same.refl _) rfl⟩
  rw[List.filter_eq_self.mpr (λ_ _=>rfl),lm]at hL
  have eL:(List.range xs.length).map (λi=>V.int (-(xs.getD (xs.length - 1 - i) 0)))=(xs.reverse.map λx => -x).map V.int:=by
   rw[<- zja xs λx => -x,List.map_map];rfl
  rw[eL]at hL
  refine⟨D,_,rfl,.inl ⟨SqL.of hL,λm hm => ?_⟩⟩
  have e2:Same H' (upd H' m (HO.tup ((xs.reverse.map λx => -x).map V.int))):=Same.upd hm
  have e3:=(e1.trans e).trans e2
  refine⟨l1,m,_,_,rfl,rfl,SqT.of (e2 _ _ (e _ _ zaf)),SqT.of zaf,by simp,by simp;exact Nat.le_trans (Nat.add_le_add_left px.len 1) (by rw[sizeLine_eq];decide),λz => ?_,λ_ p hp => ?_⟩
  ·exact absurd (by simpa using z) px.ne
  ·refine k p _ (e3.updR (e3.free hp)) ?_
   rw[zaf]
   unfold rkk
   rw[if_neg (by omega),if_neg (by omega),if_neg (by omega)]
   rfl
 refine⟨_,rfl,r,_,_,_,rfl,rfl,SqT.of hr0,atI2,?_⟩
 refine⟨rfl,_,rfl,cEq (λc2 => ?_) (λc2 => ?_)⟩
 ·show tComp _ _ _ _ _ _ _ _
  have lx:xs.length<=1000:=Nat.le_trans px.len (by decide)
  have lw:ws.length=xs.length:=by rw[hw.lw,hlx]
  refine zdn (H1:=H) (xs.length:Int) (λσ=>∃v,σ = [v,some (.ref r),some (.ref t)]) (λ_=>true) (λi => .int (ws.getD i 0 * xs.getD i 0)) (by omega) (by omega) ?_ ⟨none,rfl⟩ ?_ λD H' e hL => ?_
  ·exact λR hR=>⟨_,rfl,t,_,rfl,.inr (SqT.of ht),by rw[List.length_map];exact hR⟩
  ·rintro i σ' H2 hi ⟨z,rfl⟩ e Ny Nn hy hn
   unfold tYes
   dsimp only[gName]
   rw[if_pos rfl]
   rw[Int.zero_add]
   have q:=hy [some (.int (i:Int)),some (.ref r),some (.ref t)] H2 ⟨_,rfl⟩ (Same.refl _) rfl
   exact⟨_,rfl,r,_,_,_,rfl,rfl,SqT.of (e _ _ hr0),atI3,_,rfl,l,_,_,_,rfl,rfl,SqL.of (e _ _ hw.w),zds (by omega),_,rfl,_,rfl,t,_,_,_,rfl,rfl,SqT.of (e _ _ ht),zds (by omega),_,_,rfl,rfl,⟨bits hw.wn hw.wb i,bits px.nn px.hi i⟩,q⟩
  rw[Int.toNat_natCast,List.filter_eq_self.mpr (λ_ _=>rfl)]at hL
  have eL:(List.range xs.length).map (λi=>V.int (ws.getD i 0 * xs.getD i 0))=(List.zipWith (λa b=>a * b) xs ws).map V.int:=by
   rw[<- zit lw,List.map_map];rfl
  rw[eL]at hL
  refine⟨D,_,rfl,SqL.of hL,(by show 1<=sizeLine;decide),λl1 hl1 => ?_⟩
  have e1:Same H' (upd H' l1 (HO.tup [V.int (wsum ws xs)])):=Same.upd hl1
  have e2:=e.trans e1
  refine⟨_,rfl,?_⟩
  refine⟨l1,t,_,_,rfl,rfl,SqT.of (zaf),SqT.of (e2 _ _ ht),by simp,by simp;exact Nat.le_trans (Nat.add_le_add_left px.len 1) (by rw[sizeLine_eq];decide),λz => ?_,λ_ p hp => ?_⟩
  ·exact absurd (List.map_eq_nil_iff.mp z) px.ne
  ·refine k p _ (e2.updR (e2.free hp)) ?_
   rw[zaf]
   unfold rkk
   rw[if_neg (by omega),if_pos c2]
   rfl
 ·refine⟨_,rfl,k t H (Same.refl _) ?_⟩
  unfold rkk
  rw[if_pos (by omega)]
  exact ht
theorem scLGo:FnScope ["_law_one","_law_other"] ["_law_one","_law_other"] (defScope zcg):=⟨rfl,rfl,rfl,by decide +kernel,rfl,by decide +kernel,by decide +kernel⟩
set_option maxHeartbeats 4000000 in
theorem zqi(F:FunD K "_law_goes" "_law_goes" zcg .none f fd)(T:Txt K mg zan zad zam zag zac zah zab)   : FnOk P w K mg base CX0 1 f fd ["_law_one","_law_other"] spLGo:=by
 refine F.okN (k:=0) scLGo (λvs H Q E h => ?_) (λcdv A outer s H vs Q E hr h => ?_)
 ·obtain⟨a,b,xs,ys,rfl,_⟩:=h
  rfl
 obtain⟨a,b,xs,ys,rfl,h⟩:=h
 refine⟨_,(zaj (zas (zaq (zd4 (K:=K) rfl rfl) rfl T.b_all (by kernel_rfl) ((zaa (zbv (N:=["_law_k","_law_one","_law_other"]) (cl:=[("_law_other",s.heap.objs.size + 2),("_law_one",s.heap.objs.size + 1)]) (mp:=[none,some 0,some 1]) (Blk.of rfl (by decide +kernel) rfl (by decide +kernel) zax (zbq rfl (zbq rfl zdl)) (zjv (fs:=["_law_other","_law_one"]) rfl (by decide +kernel)) rfl (zc7 (zbp rfl (.inl rfl) rfl (zbp rfl (.inl rfl) rfl zdq)))) rfl (zcn rfl T.b_range ((zaa (zaq (zbr (K:=K) rfl) rfl T.b_len PySem.boot_len ((zaa (pv 0) zae))) zae))) (λC0 s0 H0 fp0=>zdc (i:=0) zax rfl rfl) (λC0 s0 H0 fp0=>zbu) (λC0 s0 H0 fp0=>zco zo0 (za2 (r:=rIxT K) za8 (pv 1) (pv 0) (λ_ _=>rfl)) (za2 (r:=rIxT K) za8 (pv 2) (pv 0) (λ_ _=>rfl)) (nomark _))) zae))))),?_⟩
 obtain⟨ha,hb,he,hl,k⟩:=h
 show tComp _ _ _ _ _ _ _ _
 refine zdn (H1:=H) (xs.length:Int) (λσ=>∃v,σ = [v,some (.ref a),some (.ref b)]) (λ_=>true) (λi => .bl (decide (xs.getD i 0<=ys.getD i 0))) (by omega) (by omega) ?_ ⟨none,rfl⟩ ?_ λD H' e hL => ?_
 ·exact λR hR=>⟨_,rfl,a,_,rfl,.inr (SqT.of ha),by rw[List.length_map];exact hR⟩
 ·rintro i σ' H2 hi ⟨z,rfl⟩ e Ny Nn hy hn
  unfold tYes
  dsimp only[gName]
  rw[if_pos rfl]
  rw[Int.zero_add]
  have q:=hy [some (.int (i:Int)),some (.ref a),some (.ref b)] H2 ⟨_,rfl⟩ (Same.refl _) rfl
  exact⟨_,rfl,_,rfl,a,_,_,_,rfl,rfl,SqT.of (e _ _ ha),zds (by omega),_,rfl,_,rfl,b,_,_,_,rfl,rfl,SqT.of (e _ _ hb),zds (by omega),_,_,rfl,rfl,q⟩
 rw[Int.toNat_natCast,List.filter_eq_self.mpr (λ_ _=>rfl)]at hL
 refine⟨D,(List.range xs.length).map λi=>decide (xs.getD i 0<=ys.getD i 0),rfl,SqL.of (by rw[hL,List.map_map];rfl),?_⟩
 have e2:((List.range xs.length).map λi=>decide (xs.getD i 0<=ys.getD i 0)).all id=goesI xs ys:=by
  unfold goesI
  rw[List.all_map];rfl
 rw[e2]
 exact k _ e
theorem scLMt:FnScope ["_law_one","_law_other"] ["_law_one","_law_other"] (defScope zcc):=⟨rfl,rfl,rfl,by decide +kernel,rfl,by decide +kernel,by decide +kernel⟩
set_option maxHeartbeats 4000000 in
theorem zp6(F:FunD K "_law_meet" "_law_meet" zcc .none f fd)(T:Txt K mg zan zad zam zag zac zah zab)   : FnOk P w K mg base CX0 1 f fd ["_law_one","_law_other"] spLMt:=by
 refine F.okN (k:=0) scLMt (λvs H Q E h => ?_) (λcdv A outer s H vs Q E hr h => ?_)
 ·obtain⟨a,b,xs,ys,rfl,_⟩:=h
  rfl
 obtain⟨a,b,xs,ys,rfl,h⟩:=h
 refine⟨_,(zaj (zas (zbd (zbc (K:=K) rfl) rfl T.b_tuple (by kernel_rfl) ((zaa (zbv (N:=["_law_k","_law_one","_law_other"]) (cl:=[("_law_other",s.heap.objs.size + 2),("_law_one",s.heap.objs.size + 1)]) (mp:=[none,some 0,some 1]) (Blk.of rfl (by decide +kernel) rfl (by decide +kernel) zax (zbq rfl (zbq rfl zdl)) (zjv (fs:=["_law_other","_law_one"]) rfl (by decide +kernel)) rfl (zc7 (zbp rfl (.inl rfl) rfl (zbp rfl (.inl rfl) rfl zdq)))) rfl (zcn rfl T.b_range ((zaa (zaq (zbr (K:=K) rfl) rfl T.b_len PySem.boot_len ((zaa (pv 0) zae))) zae))) (λC0 s0 H0 fp0=>zdc (i:=0) zax rfl rfl) (λC0 s0 H0 fp0=>zbu) (λC0 s0 H0 fp0=>zaq (zdk rfl) rfl T.b_max (by kernel_rfl) ((zaa (za2 (r:=rIxT K) za8 (pv 1) (pv 0) (λ_ _=>rfl)) (zaa (za2 (r:=rIxT K) za8 (pv 2) (pv 0) (λ_ _=>rfl)) zae))))) zae))))),?_⟩
 obtain⟨ha,hb,he,hl,k⟩:=h
 show tComp _ _ _ _ _ _ _ _
 refine zdn (H1:=H) (xs.length:Int) (λσ=>∃v,σ = [v,some (.ref a),some (.ref b)]) (λ_=>true) (λi => .int (mx (xs.getD i 0) (ys.getD i 0))) (by omega) (by omega) ?_ ⟨none,rfl⟩ ?_ λD H' e hL => ?_
 ·exact λR hR=>⟨_,rfl,a,_,rfl,.inr (SqT.of ha),by rw[List.length_map];exact hR⟩
 ·rintro i σ' H2 hi ⟨z,rfl⟩ e Ny Nn hy hn
  unfold tYes
  dsimp only[gName]
  rw[if_pos rfl]
  rw[Int.zero_add]
  have q:=hy [some (.int (i:Int)),some (.ref a),some (.ref b)] H2 ⟨_,rfl⟩ (Same.refl _) rfl
  exact⟨_,rfl,_,rfl,a,_,_,_,rfl,rfl,SqT.of (e _ _ ha),zds (by omega),_,rfl,_,rfl,b,_,_,_,rfl,rfl,SqT.of (e _ _ hb),zds (by omega),_,_,rfl,q⟩
 rw[Int.toNat_natCast,List.filter_eq_self.mpr (λ_ _=>rfl)]at hL
 have eL:(List.range xs.length).map (λi=>V.int (mx (xs.getD i 0) (ys.getD i 0)))=(meetT xs ys).map V.int:=by
  rw[<- zj0 he,List.map_map];rfl
 rw[eL]at hL
 exact⟨D,_,rfl,.inl ⟨SqL.of hL,λr hr=>k r _ (e.trans (Same.upd hr)) zaf⟩⟩
theorem scLRg:FnScope ["_law_how_here","_law_field","_law_order"] ["_law_how_here"] (defScope zci):=⟨rfl,rfl,rfl,by decide +kernel,rfl,by decide +kernel,by decide +kernel⟩
set_option maxHeartbeats 4000000 in
theorem zp2(F:FunD K "_law_ring" "_law_ring" zci .none f fd)(T:Txt K mg zan zad zam zag zac zah zab)(k_FracInit:Mak P w K mg base CX0 2 "Fractions" zad ["self"] [] (spFracInit zad))(k_RestsInit:Mak P w K mg base (CXe P w) 2 "Rests" zam ["self","prime"] [] (spRests zam zb8))(k_WInit:Mak P w K mg base (CXe P w) 1 "Weights" zab ["self","weights"] [] (spWInit K zab zb7))(k_RgInit:Mak P w K mg base (CXe P w) 2 "Ring" zan ["self","many","field","order"] [] (spRgInit zan zcl zag zac zah zab)){zau:Addr}(hord:∀(kd:Int) (ws:List Int),0<=kd->kd < 4->Nn ws->(∀x∈ws,x < 10 ^ 31)->∃C,OrdE P w K mg base zau C (AtK zag zac zah zab kd ws) (rkk kd ws) (fbK kd ws)):FnOk P w K mg base CX0 8 f fd ["_law_how_here"] (spLRg zan zag zac zah zab):=by
 refine F.okN (k:=7) scLRg (λvs H Q E h => ?_) (λcdv A outer s H vs Q E hr h => ?_)
 ·obtain⟨r,n,m,kd,l,ws,rfl,_⟩:=h
  rfl
 obtain⟨r,n,m,kd,l,ws,rfl,h⟩:=h
 refine⟨_,(zai (zaz (i:=1) scLRg.nd rfl (Or.inl rfl) (zqf k_FracInit hr pass00 .nil))
  (zai (zbs (zat zk8 (za2 (r:=rIxT K) za8 (pv 0) (zak) (λ_ _=>rfl)) (zak) (nomark _)) (zaj (zaz (i:=1) scLRg.nd rfl (Or.inl rfl) (zpl k_RestsInit hr passF .nil ((zaa (za2 (r:=rIxT K) za8 (pv 0) (zak) (λ_ _=>rfl)) zae))))) zaw)
  (zai (zaz (i:=2) scLRg.nd rfl (Or.inl rfl) (zio T.n0_Order T.mg_Order))
  (zai (zbs (zat zda (za2 (r:=rIxT K) za8 (pv 0) (zak) (λ_ _=>rfl)) (zak) (nomark _)) (zaj (zaz (i:=2) scLRg.nd rfl (Or.inl rfl) (zio T.n0_Degrees T.mg_Degrees))) zaw)
  (zai (zbs (zat zda (za2 (r:=rIxT K) za8 (pv 0) (zak) (λ_ _=>rfl)) (zak) (nomark _)) (zaj (zaz (i:=2) scLRg.nd rfl (Or.inl rfl) (zio T.n0_Tails T.mg_Tails))) zaw)
  (zai (zbs (zat zda (za2 (r:=rIxT K) za8 (pv 0) (zak) (λ_ _=>rfl)) (zak) (nomark _)) (zaj (zaz (i:=2) scLRg.nd rfl (Or.inl rfl) (zpl k_WInit hr passF .nil ((zaa (zbd (zjw (K:=K) rfl) rfl T.b_list (by kernel_rfl) ((zaa (za2 (r:=rIxT K) za8 (pv 0) (zak) (λ_ _=>rfl)) zae))) zae))))) zaw)
  (zaj (zas (zpl k_RgInit hr passF .nil ((zaa (za2 (r:=rIxT K) za8 (pv 0) (zak) (λ_ _=>rfl)) (zaa (pv 1) (zaa (pv 2) zae))))))))))))),?_⟩
 obtain⟨hw,k⟩:=h
 have k0:=hw.k0
 have k4:=hw.k4
 obtain⟨CO,O⟩:=hord kd ws k0 k4 hw.wn hw.wb
 have mk:∀{C:Addr} {H:Hp} {p dx:Addr},H p=none->H dx=none->Same H (upd (upd H dx (.own p)) p (.ins C dx [])):=fun{C H p dx} np ndx b o e=>by
  rw[zal (zao e np),zal (zao e ndx)]
  exact e
 refine zed (λσ' H'=>Same H H'/\∃pf,σ'=[some (.ref r),some (.ref pf),none]) ?_ λN hN => ?_
 rotate_left
 ·intro x dx nx ndx ne
  refine⟨x,dx,rfl,zaf,rfl,hN _ _ ⟨λb o e => ?_,x,rfl⟩⟩
  rw[zal (zao e nx),zal (zao e nx),zal (zao e ndx)]
  exact e
 rintro σ1 H1 ⟨e1,pf,rfl⟩
 refine zed (λσ' H'=>Same H H'/\∃pf,σ'=[some (.ref r),some (.ref pf),none]) ?_ λN hN => ?_
 rotate_left
 ·refine⟨_,rfl,r,_,_,_,rfl,rfl,SqT.of (e1 _ _ hw.at_),atI0',?_⟩
  refine⟨_,_,rfl,rfl,_,rfl,cD (λc => ?_) (λc => ?_)⟩
  ·have hp:Pr n:=hw.n0.resolve_left (by omega)
   refine⟨_,rfl,r,_,_,_,rfl,rfl,SqT.of (e1 _ _ hw.at_),atI0',λx dx nx ndx ne => ?_⟩
   refine⟨x,dx,n,rfl,zaf,.inl ⟨hw.n1,zqa hp,rfl,hN _ _ ⟨λb o e => ?_,x,rfl⟩⟩⟩
   have e:=e1 _ _ e
   rw[zal (zao e nx),zal (zao e nx),zal (zao e ndx)]
   exact e
  ·exact hN _ _ ⟨e1,pf,rfl⟩
 rintro σ2 H2 ⟨e2,pf,rfl⟩
 refine zed (λσ' H'=>Same H H'/\∃po,σ'=[some (.ref r),some (.ref pf),some (.ref po)]/\AtO zag H' po) ?_ λN hN => ?_
 rotate_left
 ·exact λp dx np ndx ne=>hN _ _ ⟨e2.trans (mk np ndx),p,rfl,dx,zaf⟩
 rintro σ3 H3 ⟨e3,po,rfl,a3⟩
 refine zed (λσ' H'=>Same H H'/\∃po,σ'=[some (.ref r),some (.ref pf),some (.ref po)]/\AtO (if kd=1 then zac else zag) H' po) ?_ λN hN => ?_
 rotate_left
 ·refine⟨_,rfl,r,_,_,_,rfl,rfl,SqT.of (e3 _ _ hw.at_),atI2,rfl,_,rfl,cEq (λc => ?_) (λc => ?_)⟩
  ·exact λp dx np ndx ne=>hN _ _ ⟨e3.trans (mk np ndx),p,rfl,dx,by rw[if_pos c];exact zaf⟩
  ·exact hN _ _ ⟨e3,po,rfl,by rw[if_neg c];exact a3⟩
 rintro σ4 H4 ⟨e4,po,rfl,a4⟩
 refine zed (λσ' H'=>Same H H'/\∃po,σ'=[some (.ref r),some (.ref pf),some (.ref po)]/\AtO (if kd=2 then zah else if kd=1 then zac else zag) H' po) ?_ λN hN => ?_
 rotate_left
 ·refine⟨_,rfl,r,_,_,_,rfl,rfl,SqT.of (e4 _ _ hw.at_),atI2,rfl,_,rfl,cEq (λc => ?_) (λc => ?_)⟩
  ·exact λp dx np ndx ne=>hN _ _ ⟨e4.trans (mk np ndx),p,rfl,dx,by rw[if_pos c];exact zaf⟩
  ·exact hN _ _ ⟨e4,po,rfl,by rw[if_neg c];exact a4⟩
 rintro σ5 H5 ⟨e5,po,rfl,a5⟩
 refine zed (λσ' H'=>Same H H'/\∃po,σ'=[some (.ref r),some (.ref pf),some (.ref po)]/\AtK zag zac zah zab kd ws H' po) ?_ λN hN => ?_
 rotate_left
 ·refine⟨_,rfl,r,_,_,_,rfl,rfl,SqT.of (e5 _ _ hw.at_),atI2,rfl,_,rfl,cEq (λc => ?_) (λc => ?_)⟩
  ·refine⟨_,rfl,r,_,_,_,rfl,rfl,SqT.of (e5 _ _ hw.at_),atI3,l,_,rfl,.inl (SqL.of (e5 _ _ hw.w)),λq hq => ?_⟩
   have e6:Same H5 (upd H5 q (HO.lst (ws.map V.int))):=Same.upd hq
   intro p dx np ndx ne
   have e7:=mk (C:=zab) np ndx
   refine⟨p,dx,q,ws,rfl,zaf,SqL.of (e7 _ _ zaf),by rw[hw.lw];have:=hw.m4;omega,.inl ⟨hw.wn,λwt H' h1 h2 h3=>⟨rfl,hN _ _ ⟨λb o e=>h3 b o (e7 _ _ (e6 _ _ (e5 _ _ e))) (zao (e6 _ _ (e5 _ _ e)) np),p,rfl,?_⟩⟩⟩⟩
   unfold AtK
   rw[if_neg (by omega),if_neg (by omega),if_neg (by omega)]
   exact⟨dx,wt,h1,h2⟩
  ·refine hN _ _ ⟨e5,po,rfl,?_⟩
   unfold AtK
   by_cases c0:kd=0
   ·rw[if_pos c0];rw[if_neg (by omega),if_neg (by omega)]at a5;exact a5
   ·rw[if_neg c0]
    by_cases c1:kd=1
    ·rw[if_pos c1];rw[if_neg (by omega),if_pos c1]at a5;exact a5
    ·rw[if_neg c1,if_pos (by omega)];rw[if_pos (by omega)]at a5;exact a5
 rintro σ6 H6 ⟨e6,po,rfl,a6⟩
 refine⟨_,rfl,r,_,_,_,rfl,rfl,SqT.of (e6 _ _ hw.at_),atI1',_,rfl,_,rfl,λx dx nx ndx ne => ?_⟩
 have e7:Same H6 (upd (upd H6 dx (.own x)) x (.ins zan dx [])):=mk nx ndx
 have m1:=hw.m1
 have m4:=hw.m4
 refine⟨x,dx,m,pf,po,kd,ws,rfl,zaf,k0,k4,hw.wn,hw.wb,O.oC.same e7 a6,.inl ⟨⟨by omega,by omega,?_⟩,λHA h1 h2=>⟨rfl,?_⟩⟩⟩
 ·unfold fbK
  split
  ·exact decide_eq_true (by rw[hw.lw])
  ·rfl
 have eA:Same H6 HA:=λb o hb=>h2 b o (e7 _ _ hb) (zao hb nx)
 exact k x pf po HA (e6.trans eA) ⟨dx,h1⟩ (O.oC.same eA a6)
theorem scSpot:FnScope ["_law_how_here","_law_heads","_law_i","_law_j"] ["_law_how_here","_law_heads","_law_i","_law_j"] (defScope zb9):=⟨rfl,rfl,rfl,by decide +kernel,rfl,by decide +kernel,by decide +kernel⟩
set_option maxHeartbeats 4000000 in
theorem zpv(F:FunD K "_law_spot" "_law_spot" zb9 .none f fd)(T:Txt K mg zan zad zam zag zac zah zab)(c_LMt:Cal P w K mg base CX0 1 "_law_meet" ["_law_one","_law_other"] [] spLMt)(c_LRk:Cal P w K mg base CX0 1 "_law_rank" ["_law_how_here","_law_term_here"] [] spLRk):FnOk P w K mg base CX0 2 f fd ["_law_how_here","_law_heads","_law_i","_law_j"] spSpot:=by
 refine F.okN (k:=1) scSpot (λvs H Q E h => ?_) (λcdv A outer s H vs Q E hr h => ?_)
 ·obtain⟨r,g,n,m,kd,l,ws,us,hs,i,j,rfl,_⟩:=h
  rfl
 obtain⟨r,g,n,m,kd,l,ws,us,hs,i,j,rfl,h⟩:=h
 refine⟨_,(zaj (zas (zc2 ((zaa (pe_c c_LRk hr pass00 .nil ((zaa (pv 0) (zaa (pe_c c_LMt hr pass00 .nil ((zaa (za2 (r:=rIxL K) zbi (pv 1) (pv 2) (λ_ _=>rfl)) (zaa (za2 (r:=rIxL K) zbi (pv 1) (pv 3) (λ_ _=>rfl)) zae)))) zae)))) (zaa (zaq (zfj rfl) rfl T.b_min (by kernel_rfl) ((zaa (pv 2) (zaa (pv 3) zae)))) (zaa (zaq (zdk rfl) rfl T.b_max (by kernel_rfl) ((zaa (pv 2) (zaa (pv 3) zae)))) zae))))))),?_⟩
 obtain⟨hw,hg,ht,hi,hj,k⟩:=h
 obtain⟨ri,ai,hri⟩:=hg.get hi
 obtain⟨rj,aj,hrj⟩:=hg.get hj
 have li:=(ht i hi).1.len
 have lj:=(ht j hj).1.len
 have m4:=hw.m4
 refine⟨_,rfl,_,rfl,_,rfl,g,us,_,_,rfl,rfl,SqL.of hg.1,ai,_,rfl,_,rfl,g,us,_,_,rfl,rfl,SqL.of hg.1,aj,ri,rj,_,_,rfl,hri,hrj,by rw[li,lj],by rw[li];omega,λrm H1 e1 hrm => ?_⟩
 refine⟨r,rm,n,m,kd,l,ws,_,rfl,hw.same e1,hrm,by rw[zet (by rw[li,lj]),li],ziu ht hw.m1 m4 hi hj,λrr H2 e2 hrr => ?_⟩
 refine⟨_,rfl,_,rfl,_,_,rfl,_,rfl,_,rfl,_,_,rfl,(by show 3<=sizeLine;decide),λtt ntt => ?_⟩
 refine k _ _ ((e1.trans e2).trans (Same.upd ntt)) ⟨tt,rr,_,_,_,rfl,zaf,(Same.upd ntt) _ _ hrr,?_⟩
 rw[zmy,<- zk4,<- zlk]
 rfl
theorem scPass:FnScope ["_law_how_here","_law_heads","_law_i","_law_j","_law_both","_law_here","_law_k"] ["_law_how_here","_law_heads","_law_i","_law_j"] (defScope zbn):=⟨rfl,rfl,rfl,by decide +kernel,rfl,by decide +kernel,by decide +kernel⟩
set_option maxHeartbeats 4000000 in
theorem zo9(F:FunD K "_law_passed" "_law_passed" zbn .none f fd)(T:Txt K mg zan zad zam zag zac zah zab)(c_LMt:Cal P w K mg base CX0 1 "_law_meet" ["_law_one","_law_other"] [] spLMt)(c_Spot:Cal P w K mg base CX0 2 "_law_spot" ["_law_how_here","_law_heads","_law_i","_law_j"] [] spSpot)(c_LGo:Cal P w K mg base CX0 1 "_law_goes" ["_law_one","_law_other"] [] spLGo):FnOk P w K mg base CX0 3 f fd ["_law_how_here","_law_heads","_law_i","_law_j"] spPass:=by
 refine F.okN (k:=2) scPass (λvs H Q E h => ?_) (λcdv A outer s H vs Q E hr h => ?_)
 ·obtain⟨r,g,n,m,kd,l,ws,us,hs,i,j,rfl,_⟩:=h
  rfl
 obtain⟨r,g,n,m,kd,l,ws,us,hs,i,j,rfl,h⟩:=h
 refine⟨_,(zai (zaz (i:=4) scPass.nd rfl (Or.inl rfl) (pe_c c_LMt hr pass00 .nil ((zaa (za2 (r:=rIxL K) zbi (pv 1) (pv 2) (λ_ _=>rfl)) (zaa (za2 (r:=rIxL K) zbi (pv 1) (pv 3) (λ_ _=>rfl)) zae)))))
  (zai (zbs (zat zda (zaq (zcm (K:=K) rfl true rfl) rfl T.b_sum (by kernel_rfl) ((zaa (pv 4) zae))) (zav zd7 (zaq (zcm (K:=K) rfl true rfl) rfl T.b_sum (by kernel_rfl) ((zaa (za2 (r:=rIxL K) zbi (pv 1) (pv 2) (λ_ _=>rfl)) zae))) (zaq (zcm (K:=K) rfl true rfl) rfl T.b_sum (by kernel_rfl) ((zaa (za2 (r:=rIxL K) zbi (pv 1) (pv 3) (λ_ _=>rfl)) zae)))) (nomark _)) (zaj (zas (zes))) zaw)
  (zai (zaz (i:=5) scPass.nd rfl (Or.inl rfl) (pe_c c_Spot hr pass00 .nil ((zaa (pv 0) (zaa (pv 1) (zaa (pv 2) (zaa (pv 3) zae)))))))
  (zai (zdu PassesOwn.never rfl (zcn rfl T.b_range ((zaa (zaq (zbr (K:=K) rfl) rfl T.b_len PySem.boot_len ((zaa (pv 1) zae))) zae))) (zbo (i:=6) scPass.nd rfl (Or.inl rfl)) (zaj (zbs (PW.pt (zfg (zat zme (pv 6) (pv 2) (nomark _)) (zfg (zat zme (pv 6) (pv 3) (nomark _)) (zfg (zat zgg (za2 (r:=rIxL K) zbi (pv 1) (pv 6) (λ_ _=>rfl)) (zhw) (nomark _)) (zf6 (zdd (pe_c c_LGo hr pass00 .nil ((zaa (za2 (r:=rIxL K) zbi (pv 1) (pv 6) (λ_ _=>rfl)) (zaa (pv 4) zae)))))))))) (zaj (zbs (PW.pt (zfg (zat (zf9 (u8 hr)) (pe_c c_Spot hr pass00 .nil ((zaa (pv 0) (zaa (pv 1) (zaa (pv 2) (zaa (pv 6) zae)))))) (pv 5) (nomark _)) (zf6 (zat (zf9 (u8 hr)) (pe_c c_Spot hr pass00 .nil ((zaa (pv 0) (zaa (pv 1) (zaa (pv 3) (zaa (pv 6) zae)))))) (pv 5) (nomark _))))) (zaj (zas (zes))) zaw)) zaw)))
  (zaj (zas (zes))))))),?_⟩
 obtain⟨hw,hg,ht,l12,lt,hi,hj,k⟩:=h
 obtain⟨ri,ai,hri⟩:=hg.get hi
 obtain⟨rj,aj,hrj⟩:=hg.get hj
 have li:=(ht i hi).1.len
 have lj:=(ht j hj).1.len
 have m4:=hw.m4
 refine⟨_,rfl,_,rfl,g,us,_,_,rfl,rfl,SqL.of hg.1,ai,_,rfl,_,rfl,g,us,_,_,rfl,rfl,SqL.of hg.1,aj,ri,rj,_,_,rfl,hri,hrj,by rw[li,lj],by rw[li];omega,λrm H1 e1 hrm => ?_⟩
 dsimp only[gName]
 have hg1:=hg.same e1
 refine⟨_,rfl,rm,_,rfl,SqT.of hrm,_,rfl,_,rfl,g,us,_,_,rfl,rfl,SqL.of hg1.1,ai,ri,_,rfl,SqT.of (e1 _ _ hri),_,rfl,_,rfl,g,us,_,_,rfl,rfl,SqL.of hg1.1,aj,rj,_,rfl,SqT.of (e1 _ _ hrj),_,_,rfl,rfl,rfl,_,rfl,?_⟩
 obtain⟨_,ap⟩:=zg8 (by rw[li,lj]) (ht i hi).1.mem (ht j hj).1.mem
 refine cEq (λc => ?_) (λc => ?_)
 ·have q:=k H1 e1
  unfold due at q
  rw[ap,decide_eq_true c]at q
  exact q
 rw[decide_eq_false c]at ap
 refine⟨_,rfl,_,rfl,_,rfl,_,rfl,r,g,n,m,kd,l,ws,us,hs,i,j,rfl,hw.same e1,hg1,ht,hi,hj,λvh H2 e2 nh => ?_⟩
 dsimp only[gName]
 rw[Nat.min_eq_left (Nat.le_of_lt lt),Nat.max_eq_right (Nat.le_of_lt lt)]at nh
 have g2:=e1.trans e2
 have lus:us.length=hs.length:=(Paired.length hg.2).symm
 refine⟨_,rfl,g,us,rfl,.inl (SqL.of (hg.same g2).1),(us.length:Int),rfl,by omega,by omega,?_⟩
 rw[Int.toNat_natCast]
 refine zea (lo:=0) (n:=us.length) (λq σ H'=>Same H2 H'/\(∃v6,σ = [some (.ref r),some (.ref g),some (.int i),some (.int j),some (.ref rm),some vh,v6])/\∀x,x < q->x∈pl hs->lets (rkk kd ws) (hd hs) i j x=false) ?_ ?_ ?_
 ·exact⟨Same.refl _,⟨none,rfl⟩,λx hx=>by omega⟩
 ·rintro q σ H3 hq ⟨e3,⟨v6,rfl⟩,no⟩
  rw[Int.zero_add]
  dsimp only[gName]
  have nx:∀H4,Same H3 H4->(q∈pl hs->lets (rkk kd ws) (hd hs) i j q=false)->Same H2 H4/\(∃v6,[some (V.ref r),some (.ref g),some (.int i),some (.int j),some (.ref rm),some vh,some (.int (q:Int))]=[some (V.ref r),some (.ref g),some (.int i),some (.int j),some (.ref rm),some vh,v6])/\∀x,x < q + 1->x∈pl hs->lets (rkk kd ws) (hd hs) i j x=false:=λH4 e4 h4=>⟨e3.trans e4,⟨_,rfl⟩,λx hx hp=>by
   rcases(by omega:x < q\/x=q) with z | z
   ·exact no x z hp
   ·subst z;exact h4 hp⟩
  have g3:=g2.trans e3
  have hg3:=hg.same g3
  refine⟨_,rfl,_,rfl,rfl,_,rfl,?_⟩
  show if (!decide (V.int (q:Int)=V.int (i:Int)))=true then _ else _
  refine cNe (λc1 => ?_) (λc1 => ?_)
  rotate_left
  ·exact iteF (nx H3 (Same.refl _) λ_=>by unfold lets;rw[show decide (q≠i)=false from decide_eq_false (by omega)];rfl)
  refine⟨_,rfl,_,rfl,rfl,_,rfl,?_⟩
  show if (!decide (V.int (q:Int)=V.int (j:Int)))=true then _ else _
  refine cNe (λc2 => ?_) (λc2 => ?_)
  rotate_left
  ·exact iteF (nx H3 (Same.refl _) λ_=>by unfold lets;rw[show decide (q≠j)=false from decide_eq_false (by omega),Bool.and_false];rfl)
  obtain⟨v,av,hv⟩:=hg3.non (i:=q) (by rw[<- lus];exact hq)
  refine⟨_,rfl,_,rfl,g,us,_,v,rfl,rfl,SqL.of hg3.1,av,rfl,_,rfl,?_⟩
  rcases hv with⟨np,rfl⟩ | ⟨hp,rq,rfl⟩
  ·exact iteF (iteF (nx H3 (Same.refl _) λz=>absurd z np))
  refine iteT ?_
  obtain⟨rq',aq,hrq⟩:=hg3.get hp
  rw[aq]at av
  cases av
  have hrm3:=e3 _ _ (e2 _ _ hrm)
  have lm:(meetT (hd hs i) (hd hs j)).length=m:=by rw[zet (by rw[li,lj]),li]
  have lq:=(ht q hp).1.len
  refine⟨_,rfl,_,rfl,g,us,_,_,rfl,rfl,SqL.of hg3.1,aq,_,rfl,rq,rm,_,_,rfl,hrq,hrm3,by rw[lq,lm],by rw[lq];omega,λH4 e4=>⟨_,rfl,?_⟩⟩
  refine cB (λgg => ?_) (λgg => ?_)
  rotate_left
  ·exact nx H4 e4 λ_=>by unfold lets;rw[gg,Bool.and_false];rfl
  have g4:=g3.trans e4
  obtain⟨L,rl⟩:=zgx (kd:=kd) (ws:=ws) (m:=m)
  have tl:∀a,a∈pl hs->(tk (rkk kd ws) (hd hs) (min a q) (max a q)).length=(tk (rkk kd ws) (hd hs) i j).length:=λa ha=>by
   rw[zdj rl ht hi hj]
   rcases Nat.le_total a q with z | z
   ·rw[Nat.min_eq_left z,Nat.max_eq_right z];exact zdj rl ht ha hp
   ·rw[Nat.min_eq_right z,Nat.max_eq_left z];exact zdj rl ht hp ha
  have el:lets (rkk kd ws) (hd hs) i j q=(HT.lexLt (tk (rkk kd ws) (hd hs) (min i q) (max i q)) (tk (rkk kd ws) (hd hs) i j) && HT.lexLt (tk (rkk kd ws) (hd hs) (min j q) (max j q)) (tk (rkk kd ws) (hd hs) i j)):=by
   unfold lets
   rw[decide_eq_true (show q≠i by omega),decide_eq_true (show q≠j by omega),gg]
   simp
  refine⟨_,rfl,_,rfl,_,rfl,_,rfl,r,g,n,m,kd,l,ws,us,hs,i,q,rfl,hw.same g4,hg.same g4,ht,hi,hp,λv1 H5 e5 n1 => ?_⟩
  refine⟨_,rfl,_,_,n1.v,(nh.keep λb xs hb=>e5 _ _ (e4 _ _ (e3 _ _ hb))).v,tl i hi,_,rfl,?_⟩
  refine cB (λb1 => ?_) (λb1 => ?_)
  rotate_left
  ·exact iteF (nx H5 (e4.trans e5) λ_=>by rw[el,b1];rfl)
  have g5:=g4.trans e5
  refine⟨_,rfl,_,rfl,_,rfl,_,rfl,r,g,n,m,kd,l,ws,us,hs,j,q,rfl,hw.same g5,hg.same g5,ht,hj,hp,λv2 H6 e6 n2 => ?_⟩
  refine⟨_,rfl,_,_,n2.v,(nh.keep λb xs hb=>e6 _ _ (e5 _ _ (e4 _ _ (e3 _ _ hb)))).v,tl j hj,_,rfl,?_⟩
  refine cB (λb2 => ?_) (λb2 => ?_)
  ·have qq:=k H6 (g5.trans e6)
   unfold due at qq
   rw[List.any_eq_true.mpr ⟨q,hp,by rw[el,b1,b2];rfl⟩,Bool.not_true,Bool.and_false]at qq
   exact qq
  ·exact nx H6 ((e4.trans e5).trans e6) λ_=>by rw[el,b1,b2];rfl
 ·rintro σ H3 ⟨e3,⟨v6,rfl⟩,no⟩
  have q:=k H3 (g2.trans e3)
  have na:((pl hs).any λx=>lets (rkk kd ws) (hd hs) i j x)=false:=by
   rw[List.any_eq_false]
   intro x hx z
   have:=no x (by rw[lus];exact List.mem_range.mp (List.mem_filter.mp hx).1) hx
   rw[this]at z;cases z
  unfold due at q
  rw[ap,na]at q
  exact q
theorem scDue:FnScope ["_law_how_here","_law_heads","_law_found","_law_j","_law_i"] ["_law_how_here","_law_heads"] (defScope zcv):=⟨rfl,rfl,rfl,by decide +kernel,rfl,by decide +kernel,by decide +kernel⟩
set_option maxHeartbeats 4000000 in
theorem zp8(F:FunD K "_law_due" "_law_due" zcv .none f fd)(T:Txt K mg zan zad zam zag zac zah zab)(c_Pass:Cal P w K mg base CX0 3 "_law_passed" ["_law_how_here","_law_heads","_law_i","_law_j"] [] spPass)(c_Spot:Cal P w K mg base CX0 2 "_law_spot" ["_law_how_here","_law_heads","_law_i","_law_j"] [] spSpot):FnOk P w K mg base CX0 4 f fd ["_law_how_here","_law_heads"] spDue:=by
 refine F.okN (k:=3) scDue (λvs H Q E h => ?_) (λcdv A outer s H vs Q E hr h => ?_)
 ·obtain⟨r,g,n,m,kd,l,ws,us,hs,rfl,_⟩:=h
  rfl
 obtain⟨r,g,n,m,kd,l,ws,us,hs,rfl,h⟩:=h
 refine⟨_,(zai (zaz (i:=2) scDue.nd rfl (Or.inl rfl) (zfx (zae)))
  (zai (zdu PassesOwn.never rfl (zcn rfl T.b_range ((zaa (zaq (zbr (K:=K) rfl) rfl T.b_len PySem.boot_len ((zaa (pv 1) zae))) zae))) (zbo (i:=3) scDue.nd rfl (Or.inl rfl)) (zaj (zdu PassesOwn.never rfl (zcn rfl T.b_range ((zaa (pv 3) zae))) (zbo (i:=4) scDue.nd rfl (Or.inl rfl)) (zaj (zbs (PW.pt (zfg (zat zgg (za2 (r:=rIxL K) zbi (pv 1) (pv 4) (λ_ _=>rfl)) (zhw) (nomark _)) (zfg (zat zgg (za2 (r:=rIxL K) zbi (pv 1) (pv 3) (λ_ _=>rfl)) (zhw) (nomark _)) (zf6 (zfy (zdd (pe_c c_Pass hr pass00 .nil ((zaa (pv 0) (zaa (pv 1) (zaa (pv 4) (zaa (pv 3) zae)))))))))))) (zaj (zeh (zmg PySem.F.plainAttrs_list PySem.F.slot_list_append PySem.F.type_list_append zdf (pv 2) ((zaa (pe_c c_Spot hr pass00 .nil ((zaa (pv 0) (zaa (pv 1) (zaa (pv 4) (zaa (pv 3) zae)))))) zae))))) zaw)))))
  (zaj (zas (zbv (N:=["_law_spot_here"]) (Blk.plain (by decide +kernel) (by decide +kernel) rfl (by decide +kernel) zc8) rfl (zdr (K:=K) rfl (zaq (zh2 (u8 hr)) rfl T.b_sorted (by kernel_rfl) ((zaa (pv 2) zae)))) (λC0 s0 H0 fp0=>zdc (i:=0) zc8 rfl rfl) (λC0 s0 H0 fp0=>zbu) (λC0 s0 H0 fp0=>zc2 ((zaa (za2 (r:=rIxT K) za8 (pv 0) (zak) (λ_ _=>rfl)) (zaa (za2 (r:=rIxT K) za8 (pv 0) (zak) (λ_ _=>rfl)) zae))))))))),?_⟩
 obtain⟨hw,hg,ht,l12,k⟩:=h
 refine⟨Nat.zero_le _,λfl nfl => ?_⟩
 have e1:Same H (upd H fl (.lst [])):=Same.upd nfl
 have hf1:(upd H fl (HO.lst [])) fl=some (.lst []):=zaf
 generalize upd H fl (HO.lst [])=H1 at e1 hf1
 have lus:us.length=hs.length:=(Paired.length hg.2).symm
 obtain⟨L,rl⟩:=zgx (kd:=kd) (ws:=ws) (m:=m)
 dsimp only[gName]
 refine⟨_,rfl,g,us,rfl,.inl (SqL.of (hg.same e1).1),(us.length:Int),rfl,by omega,by omega,?_⟩
 rw[Int.toNat_natCast]
 refine zea (lo:=0) (n:=us.length) (λj σ H'=>Same H H'/\(∃v3 v4,σ = [some (.ref r),some (.ref g),some (.ref fl),v3,v4])/\∃(fs:List V) (ps:List (Nat×Nat)),H' fl=some (.lst fs)/\Paired (fun(p:Nat×Nat) v=>NstH H' (tk (rkk kd ws) (hd hs) p.1 p.2) v) ps fs/\ps.Nodup/\ps.length<=j * 12/\∀a c,(a,c)∈ps↔c < j/\DuM (rkk kd ws) hs a c) ?_ ?_ ?_
 ·exact⟨e1,⟨none,none,rfl⟩,[],[],hf1,.nil,List.nodup_nil,Nat.zero_le _,λa c=>by simp⟩
 ·rintro j σ H2 hj ⟨e2,⟨v3,v4,rfl⟩,fs,ps,hf2,pp2,nd2,ln2,mm2⟩
  rw[Int.zero_add]
  show tFor _ _ _ _ _ _
  refine⟨_,rfl,(j:Int),rfl,by omega,by omega,?_⟩
  rw[Int.toNat_natCast]
  refine zea (lo:=0) (n:=j) (λi σ H'=>Same H H'/\(∃v4,σ = [some (.ref r),some (.ref g),some (.ref fl),some (.int (j:Int)),v4])/\∃(fs:List V) (ps:List (Nat×Nat)),H' fl=some (.lst fs)/\Paired (fun(p:Nat×Nat) v=>NstH H' (tk (rkk kd ws) (hd hs) p.1 p.2) v) ps fs/\ps.Nodup/\ps.length<=j * 12 + i/\∀a c,(a,c)∈ps↔(c < j\/(c=j/\a < i))/\DuM (rkk kd ws) hs a c) ?_ ?_ ?_
  ·exact⟨e2,⟨_,rfl⟩,fs,ps,hf2,pp2,nd2,by omega,λa c=>by rw[mm2];exact⟨λh=>⟨.inl h.1,h.2⟩,λh=>⟨h.1.elim id λz=>absurd z.2 (by omega),h.2⟩⟩⟩
  ·rintro i σ H3 hi ⟨e3,⟨v4,rfl⟩,fs,ps,hf3,pp3,nd3,ln3,mm3⟩
   rw[Int.zero_add]
   dsimp only[gName]
   have hg3:=hg.same e3
   have nx:∀H4,Same H3 H4->¬DuM (rkk kd ws) hs i j->Same H H4/\(∃v4,[some (V.ref r),some (.ref g),some (.ref fl),some (.int (j:Int)),some (.int (i:Int))]=[some (V.ref r),some (.ref g),some (.ref fl),some (.int (j:Int)),v4])/\∃(fs:List V) (ps:List (Nat×Nat)),H4 fl=some (.lst fs)/\Paired (fun(p:Nat×Nat) v=>NstH H4 (tk (rkk kd ws) (hd hs) p.1 p.2) v) ps fs/\ps.Nodup/\ps.length<=j * 12 + (i + 1)/\∀a c,(a,c)∈ps↔(c < j\/(c=j/\a < i + 1))/\DuM (rkk kd ws) hs a c:=λH4 e4 nd=>⟨e3.trans e4,⟨_,rfl⟩,fs,ps,e4 _ _ hf3,pimp (λ_ _ q=>q.keep λb xs hb=>e4 _ _ hb) pp3,nd3,by omega,λa c=>by
    rw[mm3]
    constructor
    ·rintro⟨h1 | ⟨h1,h2⟩,h3⟩
     ·exact⟨.inl h1,h3⟩
     ·exact⟨.inr ⟨h1,by omega⟩,h3⟩
    ·rintro⟨h1 | ⟨h1,h2⟩,h3⟩
     ·exact⟨.inl h1,h3⟩
     ·rcases(by omega:a < i\/a=i) with z | z
      ·exact⟨.inr ⟨h1,z⟩,h3⟩
      ·subst h1 z;exact absurd h3 nd⟩
   obtain⟨v,av,hv⟩:=hg3.non (i:=i) (by omega)
   refine⟨_,rfl,_,rfl,g,us,_,v,rfl,rfl,SqL.of hg3.1,av,rfl,_,rfl,?_⟩
   rcases hv with⟨np,rfl⟩ | ⟨hp,rq,rfl⟩
   ·exact iteF (iteF (nx H3 (Same.refl _) λz=>np z.2.1))
   refine iteT ?_
   obtain⟨v,av,hv⟩:=hg3.non (i:=j) (by omega)
   refine⟨_,rfl,_,rfl,g,us,_,v,rfl,rfl,SqL.of hg3.1,av,rfl,_,rfl,?_⟩
   rcases hv with⟨np,rfl⟩ | ⟨hpj,rj,rfl⟩
   ·exact iteF (iteF (nx H3 (Same.refl _) λz=>np z.2.2.1))
   refine iteT ?_
   refine⟨_,rfl,_,rfl,_,rfl,_,rfl,r,g,n,m,kd,l,ws,us,hs,i,j,rfl,hw.same e3,hg3,ht,l12,hi,hp,hpj,λH4 e4=>⟨_,rfl,?_⟩⟩
   show if (!(!due (rkk kd ws) (hd hs) (pl hs) i j))=true then _ else _
   refine cNB (λb1 => ?_) (λb1 => ?_)
   rotate_left
   ·exact nx H4 e4 λz=>by rw[z.2.2.2]at b1;cases b1
   have b1:due (rkk kd ws) (hd hs) (pl hs) i j=true:=by simpa using b1
   have du:DuM (rkk kd ws) hs i j:=⟨hi,hp,hpj,b1⟩
   have g4:=e3.trans e4
   refine⟨_,rfl,.inl ⟨rfl,_,SqL.of (e4 _ _ hf3)⟩,?_⟩
   refine⟨_,rfl,_,rfl,_,rfl,_,rfl,r,g,n,m,kd,l,ws,us,hs,i,j,rfl,hw.same g4,hg.same g4,ht,hp,hpj,λv1 H5 e5 n1 => ?_⟩
   rw[Nat.min_eq_left (Nat.le_of_lt hi),Nat.max_eq_right (Nat.le_of_lt hi)]at n1
   have hf5:=e5 _ _ (e4 _ _ hf3)
   have lfs:ps.length=fs.length:=Paired.length pp3
   refine⟨fl,fs,v1,rfl,rfl,hf5,zlt _ (by have:=Nat.mul_le_mul_right 12 (show j<=12 by omega);omega),?_⟩
   refine⟨(g4.trans e5).updR nfl,⟨_,rfl⟩,_,ps ++ [(i,j)],zaf,psnoc (R:=fun(p:Nat×Nat) v=>NstH (upd H5 fl (.lst (fs ++ [v1]))) (tk (rkk kd ws) (hd hs) p.1 p.2) v) (zkc hf5 n1) (pimp (λ_ _ q=>zkc hf5 (NstH.keep q λb xs hb=>e5 _ _ (e4 _ _ hb))) pp3),?_,by rw[List.length_append];simp;omega,λa c => ?_⟩
   ·refine List.nodup_append.mpr ⟨nd3,by simp,λq hq q' hq' e => ?_⟩
    rw[List.mem_singleton.mp hq']at e
    subst e
    rcases((mm3 i j).mp hq).1 with z | z <;> omega
   ·rw[List.mem_append,List.mem_singleton,mm3]
    constructor
    ·rintro(⟨h1 | ⟨h1,h2⟩,h3⟩ | h1)
     ·exact⟨.inl h1,h3⟩
     ·exact⟨.inr ⟨h1,by omega⟩,h3⟩
     ·injection h1 with h1 h2
      subst h1 h2
      exact⟨.inr ⟨rfl,by omega⟩,du⟩
    ·rintro⟨h1 | ⟨h1,h2⟩,h3⟩
     ·exact .inl ⟨.inl h1,h3⟩
     ·rcases(by omega:a < i\/a=i) with z | z
      ·exact .inl ⟨.inr ⟨h1,z⟩,h3⟩
      ·subst h1 z;exact .inr rfl
  ·rintro σ H3 ⟨e3,⟨v4,rfl⟩,fs,ps,hf3,pp3,nd3,ln3,mm3⟩
   refine⟨e3,⟨_,_,rfl⟩,fs,ps,hf3,pp3,nd3,by rw[Nat.add_mul];omega,λa c => ?_⟩
   rw[mm3]
   constructor
   ·rintro⟨h1 | ⟨h1,h2⟩,h3⟩
    ·exact⟨by omega,h3⟩
    ·exact⟨by omega,h3⟩
   ·rintro⟨h1,h3⟩
    rcases(by omega:c < j\/c=j) with z | z
    ·exact⟨.inl z,h3⟩
    ·exact⟨.inr ⟨z,by have:=h3.1;omega⟩,h3⟩
 rintro σ H2 ⟨e2,⟨v3,v4,rfl⟩,fs,ps,hf2,pp2,nd2,ln2,mm2⟩
 have mm2:∀a c,(a,c)∈ps↔DuM (rkk kd ws) hs a c:=λa c=>by
  rw[mm2]
  exact⟨λh=>h.2,λh=>⟨by rw[lus];exact List.mem_range.mp (List.mem_filter.mp h.2.2.1).1,h⟩⟩
 refine zi7 ?_
 refine⟨_,rfl,fl,fs,ps.map λp=>tk (rkk kd ws) (hd hs) p.1 p.2,L + 2,rfl,hf2,pmapS pp2 λp hp v q=>⟨q.v,zdj rl ht ((mm2 p.1 p.2).mp hp).2.1 ((mm2 p.1 p.2).mp hp).2.2.1⟩,λps' pp pw D nD => ?_⟩
 rw[zhd]at pp
 obtain⟨l',pl',rfl⟩:=zep _ pp _ rfl
 rw[List.pairwise_map]at pw
 have em:(l'.map λp:(Nat×Nat)×V=>(tk (rkk kd ws) (hd hs) p.1.1 p.1.2,p.2)).map (λx=>x.2)=l'.map λq=>q.2:=by rw[List.map_map];rfl
 rw[em]
 have e3:Same H2 (upd H2 D (.lst (l'.map λq=>q.2))):=Same.upd nD
 have hD3:(upd H2 D (HO.lst (l'.map λq=>q.2))) D=some (.lst (l'.map λq=>q.2)):=zaf
 generalize upd H2 D (HO.lst (l'.map λq=>q.2))=H3 at e3 hD3
 obtain⟨qs,eqs⟩:∃qs:List (List Int),qs=l'.map λq=>pr2 q.1.1 q.1.2:=⟨_,rfl⟩
 have hin:∀q∈l',q.1∈ps/\NstH H3 (tk (rkk kd ws) (hd hs) q.1.1 q.1.2) q.2:=λq hq=>by
  obtain⟨h1,h2⟩:=pzip pp2 q (pl'.mem_iff.mp hq)
  exact⟨h1,h2.keep λb xs hb=>e3 _ _ hb⟩
 have e1':qs.Perm (ps.map λp=>pr2 p.1 p.2):=by
  rw[eqs]
  have:=pl'.map (λq=>pr2 q.1.1 q.1.2)
  rwa [zoe (by rw[Paired.length pp2];exact Nat.le_refl _)]at this
 have ll:l'.length=qs.length:=by rw[eqs,List.length_map]
 have lqs:qs.length<=1000:=by
  have h1:=e1'.length_eq
  rw[List.length_map]at h1
  have:=Nat.mul_le_mul_right 12 (show us.length<=12 by omega)
  omega
 refine⟨D,rfl,⟨_,SqL.of hD3⟩,λD2 nD2 => ?_⟩
 refine zkm (zde (SqL.of hD3)) nD2 (zl _ (by rw[List.length_map];omega)) (λσ=>∃v,σ = [v]) (λ_=>true) (λi v H'=>Trm H' (qs.getD i []) v) (λi v H1 H2 e h=>h.same e) (λi v H1 ys ys' hy h=>zlh hy h) ⟨none,rfl⟩ ?_ λH4 ys e4 hL hp => ?_
 ·rintro i v σ' H4 hi ⟨z,rfl⟩ e4 hv _ Ny Nn hy hn
  rw[List.getElem?_map]at hv
  cases hq:l'[i]? with
  | none=>rw[hq]at hv;cases hv
  | some q=>
   rw[hq]at hv
   injection hv with hv
   subst hv
   obtain⟨_,nq⟩:=hin q (List.mem_of_getElem? hq)
   obtain⟨tt,rr,ev,htt⟩:=(nq.keep λb xs hb=>e4 _ _ hb).pair
   dsimp only
   rw[ev]
   have eg:qs.getD i []=pr2 q.1.1 q.1.2:=by rw[eqs];simp[List.getD,hq]
   unfold tYes
   dsimp only[gName]
   rw[if_pos rfl]
   refine⟨_,rfl,tt,_,1,_,rfl,rfl,SqT.of htt,rfl,_,rfl,tt,_,2,_,rfl,rfl,SqT.of htt,rfl,(by show 2<=sizeLine;decide),λp np => ?_⟩
   exact hy _ _ _ ⟨_,rfl⟩ (Same.upd np) ⟨p,rfl,by rw[eg];exact zaf⟩ rfl
 rw[List.filter_eq_self.mpr (λ_ _=>rfl),List.length_map,ll]at hp
 have hp2:=pmapl (R:=Trm H4) (f:=λi=>qs.getD i []) hp
 rw[zft]at hp2
 have mq:∀p,p∈qs↔∃i j,i < j/\i∈pl hs/\j∈pl hs/\p=pr2 i j/\due (rkk kd ws) (hd hs) (pl hs) i j=true:=λp=>by
  rw[e1'.mem_iff,List.mem_map]
  constructor
  ·rintro⟨⟨i,j⟩,h1,rfl⟩
   obtain⟨h2,h3,h4,h5⟩:=(mm2 i j).mp h1
   exact⟨i,j,h2,h3,h4,rfl,h5⟩
  ·rintro⟨i,j,h2,h3,h4,rfl,h5⟩
   exact⟨(i,j),(mm2 i j).mpr ⟨h2,h3,h4,h5⟩,rfl⟩
 refine k D2 H4 ys qs ((e2.trans e3).trans e4) ⟨hL,hp2,λx hx => ?_,by rw[<- Paired.length hp2];exact lqs⟩ (e1'.nodup_iff.mpr (zd6 nd2 λa _ b _ e => ?_)) mq ?_
 ·obtain⟨i,j,_,_,_,rfl,_⟩:=(mq x).mp hx
  exact T0.of rfl λy hy=>by
   have hy:y=(i:Int)\/y=(j:Int):=by simpa[pr2]using hy
   rcases hy with rfl | rfl <;> omega
 ·obtain⟨z1,z2⟩:=zgm e
  exact Prod.ext z1 z2
 ·rw[eqs,List.pairwise_map]
  exact pw.imp fun{a b} h=>by rw[zju,zju];exact h
theorem scPr:FnScope ["_law_found"] ["_law_found"] (defScope zch):=⟨rfl,rfl,rfl,by decide +kernel,rfl,by decide +kernel,by decide +kernel⟩
set_option maxHeartbeats 4000000 in
theorem zrb(F:FunD K "_law_pair" "_law_pair" zch .none f fd)(T:Txt K mg zan zad zam zag zac zah zab)(c_Whole:Cal P w K mg base CX0 1 "_law_whole" ["_law_found"] [] spWhole):FnOk P w K mg base CX0 2 f fd ["_law_found"] spPr:=by
 refine F.okN (k:=1) scPr (λvs H Q E h => ?_) (λcdv A outer s H vs Q E hr h => ?_)
 ·obtain⟨p,i,j,rfl,_⟩:=h
  rfl
 obtain⟨p,i,j,rfl,h⟩:=h
 refine⟨_,(zaj (zas (zfu (zaq (zc1 (K:=K) rfl) rfl T.b_isinstance (by kernel_rfl) ((zaa (pv 0) (zaa (zgb (v := .ty "tuple") rfl T.b_tuple (by kernel_rfl) rfl) zae)))) (zfu (zco zda (zaq (zbr (K:=K) rfl) rfl T.b_len PySem.boot_len ((zaa (pv 0) zae))) (zak) (nomark _)) (zfu (pe_c c_Whole hr pass00 .nil ((zaa (za2 (r:=rIxT K) za8 (pv 0) (zak) (λ_ _=>rfl)) zae))) (zg6 (pe_c c_Whole hr pass00 .nil ((zaa (za2 (r:=rIxT K) za8 (pv 0) (zak) (λ_ _=>rfl)) zae))))))))),?_⟩
 obtain⟨hp,k⟩:=h
 refine⟨_,rfl,_,_,_,_,_,rfl,rfl,.tup hp,T.ktt,_,rfl,iteT ?_⟩
 refine⟨_,rfl,p,_,rfl,.inr (SqT.of hp),rfl,_,rfl,iteT ?_⟩
 exact⟨_,rfl,p,_,0,_,rfl,rfl,SqT.of hp,rfl,i,rfl,_,rfl,iteT ⟨_,rfl,p,_,1,_,rfl,rfl,SqT.of hp,rfl,j,rfl,k⟩⟩
theorem scLaw:FnScope ["_law_script","_law_how_here","_law_tops","_law_row","_law_heads","_law_cell_here","_law_k","_law_at","_law_spot_here","_law_handed","_law_found"] ["_law_script"] (defScope zgr):=⟨rfl,rfl,rfl,by decide +kernel,rfl,by decide +kernel,by decide +kernel⟩
set_option maxHeartbeats 4000000 in
theorem zp5(F:FunD K "law" "law" zgr .none f fd)(T:Txt K mg zan zad zam zag zac zah zab)(c_How:Cal P w K mg base CX0 3 "_law_how" ["_law_script","_law_most"] [] (spHow K))(c_Trm:Cal P w K mg base CX0 1 "_law_term" ["_law_many","_law_cell_here","_law_tops"] [] spTrm)(c_Sm:Cal P w K mg base CX0 3 "_law_some" ["_law_p","_law_cell_here"] [] spSm)(c_LRk:Cal P w K mg base CX0 1 "_law_rank" ["_law_how_here","_law_term_here"] [] spLRk)(c_LRg:Cal P w K mg base CX0 8 "_law_ring" ["_law_how_here"] [] (spLRg zan zag zac zah zab))(c_Pr:Cal P w K mg base CX0 2 "_law_pair" ["_law_found"] [] spPr)(c_Due:Cal P w K mg base CX0 4 "_law_due" ["_law_how_here","_law_heads"] [] spDue){Pt zau:Addr}(hord:∀(kd:Int) (ws:List Int),0<=kd->kd < 4->Nn ws->(∀x∈ws,x < 10 ^ 31)->∃C,OrdE P w K mg base zau C (AtK zag zac zah zab kd ws) (rkk kd ws) (fbK kd ws))(cPairs:Cal P w K mg base CX0 12 "pairs" ["ring","row"] [] (spPairs zan zag zac zah zab Pt)):FnOk P w K mg base CX0 14 f fd ["_law_script"] (spLaw K Pt):=by
 refine F.okN (k:=13) scLaw (λvs H Q E h => ?_) (λcdv A outer s H vs Q E hr h => ?_)
 ·obtain⟨a,ns,rfl,_⟩:=h
  rfl
 obtain⟨a,ns,rfl,h⟩:=h
 refine⟨_,(zai (zaz (i:=1) scLaw.nd rfl (Or.inl rfl) (pe_c c_How hr pass00 .nil ((zaa (pv 0) (zaa (zak) zae)))))
  (zai (zaz (i:=2) scLaw.nd rfl (Or.inl rfl) (za2 (r:=rIxL K) zbi (zfx ((zaa (zak) (zaa (zak) (zaa (zak) (zaa (zak) zae)))))) (zav zkg (za2 (r:=rIxT K) za8 (pv 1) (zak) (λ_ _=>rfl)) (zak)) (λ_ _=>rfl)))
  (zai (zaz (i:=3) scLaw.nd rfl (Or.inl rfl) (zfx (zae)))
  (zai (zaz (i:=4) scLaw.nd rfl (Or.inl rfl) (zfx (zae)))
  (zai (zdu PassesOwn.never rfl (zdr (K:=K) rfl (zf7 (zgt (K:=K) rfl) (pv 0) (ze2 (zak)) (ze2 (zak)))) (zbo (i:=5) scLaw.nd rfl (Or.inl rfl)) (zai (zeh (zmg PySem.F.plainAttrs_list PySem.F.slot_list_append PySem.F.type_list_append zdf (pv 3) ((zaa (zew) zae))))
  (zai (zeh (zmg PySem.F.plainAttrs_list PySem.F.slot_list_append PySem.F.type_list_append zdf (pv 4) ((zaa (zhw) zae))))
  (zaj (zbs (zat zme (zav zbj (pv 5) (zak)) (zak) (nomark _)) (zai (zq8 (pe_c c_Trm hr pass00 .nil ((zaa (za2 (r:=rIxT K) za8 (pv 1) (zak) (λ_ _=>rfl)) (zaa (zav zb6 (pv 5) (zak)) (zaa (pv 2) zae))))) (zqj (pv 4) (zls zgv zak) znl))
  (zaj (zgh (uOne hr) (za2 (r:=rIxL K) zbi (pv 3) (zls zgv zak) (λ_ _=>rfl)) (za2 (r:=rIxL K) zbi (pv 4) (zls zgv zak) (λ_ _=>rfl)) (pe_c c_Sm hr pass00 .nil ((zaa (za2 (r:=rIxT K) za8 (pv 1) (zak) (λ_ _=>rfl)) (zaa (zav zbj (zav zd9 (zav zb6 (pv 5) (zak)) (zak)) (zak)) zae)))) rfl))) zaw)))))
  (zai (zdu PassesOwn.never rfl (zk0 (K:=K) rfl rfl T.b_enumerate ((zaa (zf7 (zgt (K:=K) rfl) (pv 0) (ze2 (zak)) (ze2 (zak))) zae))) (zkn rfl (zdt (zbo (i:=6) scLaw.nd rfl (Or.inl rfl)) (zdt (zbo (i:=5) scLaw.nd rfl (Or.inl rfl)) zid))) (zai (zaz (i:=7) scLaw.nd rfl (Or.inl rfl) (zav zbj (pv 6) (zaq (zbr (K:=K) rfl) rfl T.b_len PySem.boot_len ((zaa (pv 3) zae)))))
  (zai (zaz (i:=8) scLaw.nd rfl (Or.inl rfl) (pe_c c_Trm hr pass00 .nil ((zaa (za2 (r:=rIxT K) za8 (pv 1) (zak) (λ_ _=>rfl)) (zaa (pv 5) (zaa (pv 2) zae))))))
  (zaj (zbs (PW.pt (zfg (zat zgg (za2 (r:=rIxL K) zbi (pv 4) (pv 7) (λ_ _=>rfl)) (zhw) (nomark _)) (zf6 (zat (zq9 (uOne hr |> Nat.lt_of_succ_lt)) (pe_c c_LRk hr pass00 .nil ((zaa (pv 1) (zaa (pv 8) zae)))) (pe_c c_LRk hr pass00 .nil ((zaa (pv 1) (zaa (za2 (r:=rIxL K) zbi (pv 4) (pv 7) (λ_ _=>rfl)) zae)))) (nomark _))))) (zaj (zgh (uOne hr) (za2 (r:=rIxL K) zbi (pv 3) (pv 7) (λ_ _=>rfl)) (pv 8) (pe_c c_Sm hr pass00 .nil ((zaa (za2 (r:=rIxT K) za8 (pv 1) (zak) (λ_ _=>rfl)) (zaa (zav zbj (zav zd9 (pv 5) (zak)) (zak)) zae)))) rfl)) zaw)))))
  (zai (zpa (N:=["_law_f"]) (zbo (i:=9) scLaw.nd rfl (Or.inl rfl)) (Blk.plain (by decide +kernel) (by decide +kernel) rfl (by decide +kernel) zhy) rfl (zdr (K:=K) rfl (pv 3)) (λC0 s0 H0 fp0=>zdc (i:=0) zhy rfl rfl) (λC0 s0 H0 fp0=>zbu) (λC0 s0 H0 fp0=>zbd zj3 rfl T.b_dict (by kernel_rfl) ((zaa (pv 0) zae))))
  (zai (zaz (i:=10) scLaw.nd rfl (Or.inl rfl) (pe_c cPairs hr pass00 .nil ((zaa (pe_c c_LRg hr pass00 .nil ((zaa (pv 1) zae))) (zaa (pv 9) zae)))))
  (zai (zbs (PW.pt (zii (zfy (zdd (zaq (zc1 (K:=K) rfl) rfl T.b_isinstance (by kernel_rfl) ((zaa (pv 10) (zaa (zgb (v := .ty "list") rfl T.b_list (by kernel_rfl) rfl) zae)))))) (zii (zfy (zdd (zaq (zd4 (K:=K) rfl rfl) rfl T.b_all (by kernel_rfl) ((zaa (zbv (N:=["_law_pair_here"]) (Blk.plain (by decide +kernel) (by decide +kernel) rfl (by decide +kernel) zc4) rfl (zdr (K:=K) rfl (pv 10)) (λC0 s0 H0 fp0=>zdc (i:=0) zc4 rfl rfl) (λC0 s0 H0 fp0=>zbu) (λC0 s0 H0 fp0=>pe_c c_Pr hr pass00 .nil ((zaa (pv 0) zae)))) zae))))) (zjd (zat (zo3 (K:=K) rfl (u70 hr)) (pv 9) (pv 3) (nomark _)))))) (zaj (zas (zes))) zaw)
  (zaj (zas (zco (zqg hr.units) (pv 10) (pe_c c_Due hr pass00 .nil ((zaa (pv 1) (zaa (pv 4) zae)))) (nomark _))))))))))))),?_⟩
 obtain⟨hS,h63,hT,k⟩:=h
 refine⟨_,rfl,a,ns,rfl,hS,λr n m kd l ws H1 e1 hw => ?_⟩
 dsimp only[gName]
 have m1:=hw.m1
 have m4:=hw.m4
 refine⟨(by show 4<=sizeLine;decide),λq4 hq4 => ?_⟩
 have e2:Same H1 (upd H1 q4 (.lst [V.int 6,V.int 4,V.int 3,V.int 3])):=Same.upd hq4
 refine⟨_,rfl,r,_,_,_,rfl,rfl,SqT.of (e2 _ _ hw.at_),atI1',_,_,rfl,rfl,q4,_,_,_,rfl,rfl,SqL.of zaf,tabC m1 m4,?_⟩
 generalize upd H1 q4 (HO.lst [V.int 6,V.int 4,V.int 3,V.int 3])=H2 at e2
 dsimp only[gName]
 refine⟨Nat.zero_le _,λb nb => ?_⟩
 have e3:Same H2 (upd H2 b (.lst [])):=Same.upd nb
 have hb3:(upd H2 b (HO.lst [])) b=some (.lst []):=zaf
 generalize upd H2 b (HO.lst [])=H3 at e3 hb3
 dsimp only[gName]
 refine⟨Nat.zero_le _,λg ng => ?_⟩
 have e4:Same H3 (upd H3 g (.lst [])):=Same.upd ng
 have hg4:(upd H3 g (HO.lst [])) g=some (.lst []):=zaf
 generalize upd H3 g (HO.lst [])=H4 at e4 hg4
 dsimp only[gName]
 have hb4:=e4 _ _ hb3
 have bg:b≠g:=λz=>by rw[z,ng]at hb3;cases hb3
 have g4:=((e1.trans e2).trans e3).trans e4
 have g14:Same H1 H4:=(e2.trans e3).trans e4
 have nb1:H1 b=none:=e2.free nb
 have ng1:H1 g=none:=(e2.trans e3).free ng
 obtain⟨cs,ec,lc,cne⟩:=cut2 ns
 refine⟨_,rfl,2,rfl,14,rfl,a,_,rfl,g4.seq hS,λq hq => ?_⟩
 rw[ec]
 have e5:Same H4 (upd H4 q (.lst (cs.map V.int))):=Same.upd hq
 have hq5:(upd H4 q (HO.lst (cs.map V.int))) q=some (.lst (cs.map V.int)):=zaf
 generalize upd H4 q (HO.lst (cs.map V.int))=H5 at e5 hq5
 have hw5:=hw.same (g14.trans e5)
 have rb:r≠b:=zao hw.at_ nb1
 have rg:r≠g:=zao hw.at_ ng1
 have lb:l≠b:=zao hw.w nb1
 have lg:l≠g:=zao hw.w ng1
 have qb:q≠b:=λz=>by rw[z,hb4]at hq;cases hq
 have qg:q≠g:=λz=>by rw[z,hg4]at hq;cases hq
 obtain⟨t1,t10⟩:=zoc m1 m4
 have hwk:∀{H':Hp},Kx b g H5 H'->How H' r n m kd l ws:=fun{H'} kx=>⟨kx _ _ hw5.at_ rb rg,kx _ _ hw5.w lb lg,hw.lw,hw.wn,hw.wb,hw.m1,hw.m4,hw.k0,hw.k4,hw.n0,hw.n1⟩
 refine⟨q,rfl,⟨_,SqL.of hq5⟩,?_⟩
 refine znp (K:=K) (a:=q) (xs:=cs.map V.int) (λi σ H'=>(∃v5,σ = [some (.ref a),some (.ref r),some (.int (topC m)),some (.ref b),some (.ref g),v5,none,none,none,none,none])/\Kx b g H5 H'/\∃ds kvss us hs,RS n m (rkk kd ws) H' 1 b ds kvss g us hs/\hs.length=i/\∀d∈ds,H5 d=none) ?_ (λi σ H' _ h=>SqL.of (h.2.1 _ _ hq5 qb qg)) ?_ ?_
 ·exact⟨⟨none,rfl⟩,λx o hx _ _=>hx,[],[],[],[],⟨e5 _ _ hb4,rfl,rfl,List.nodup_nil,(λi d kvs h=>by simp at h),⟨e5 _ _ hg4,.nil⟩,bg⟩,rfl,λd hd=>by cases hd⟩
 ·rintro i x σ H6 hx ⟨⟨v5,rfl⟩,kx6,ds,kvss,us,hs,rs,lhs,dn⟩
  rw[List.getElem?_map]at hx
  cases hci:cs[i]? with
  | none=>rw[hci]at hx;cases hx
  | some cv=>
  rw[hci]at hx
  injection hx with hx
  subst hx
  have hi:i < cs.length:=by
   rcases Nat.lt_or_ge i cs.length with z | z
   ·exact z
   ·rw[List.getElem?_eq_none z]at hci;cases hci
  dsimp only[gName]
  refine⟨_,rfl,.inl ⟨rfl,_,SqL.of rs.at_⟩,λd nd => ?_⟩
  have e7:Same H6 (upd H6 d (.dT [])):=Same.upd nd
  have hd7:(upd H6 d (HO.dT [])) d=some (.dT []):=zaf
  generalize upd H6 d (HO.dT [])=H7 at e7 hd7
  have lds:ds.length=i:=by rw[rs.len,<- rs.lh,lhs]
  have lus:us.length=i:=by rw[<- Paired.length rs.hg.2,lhs]
  refine⟨b,_,_,rfl,rfl,e7 _ _ rs.at_,zlt _ (by rw[List.length_map];omega),?_⟩
  have db:d≠b:=λz=>by rw[z,rs.at_]at nd;cases nd
  have dg:d≠g:=λz=>by rw[z,rs.hg.1]at nd;cases nd
  have k8:∀x o,H7 x=some o->x≠b->(upd H7 b (.lst (ds.map V.ref ++ [.ref d]))) x=some o:=λx o hx nx=>by rw[zal nx];exact hx
  have hb8:(upd H7 b (HO.lst (ds.map V.ref ++ [.ref d]))) b=some (.lst (ds.map V.ref ++ [.ref d])):=zaf
  generalize upd H7 b (HO.lst (ds.map V.ref ++ [.ref d]))=H8 at k8 hb8
  have hg8:=k8 _ _ (e7 _ _ rs.hg.1) (Ne.symm bg)
  refine⟨_,rfl,.inl ⟨rfl,_,SqL.of hg8⟩,g,us,.non,rfl,rfl,hg8,zlt _ (by omega),?_⟩
  have k9:∀x o,H8 x=some o->x≠g->(upd H8 g (.lst (us ++ [.non]))) x=some o:=λx o hx nx=>by rw[zal nx];exact hx
  have hg9:(upd H8 g (HO.lst (us ++ [V.non]))) g=some (.lst (us ++ [.non])):=zaf
  generalize upd H8 g (HO.lst (us ++ [V.non]))=H9 at k9 hg9
  have hb9:=k9 _ _ hb8 bg
  have hd9:=k9 _ _ (k8 _ _ hd7 db) dg
  have kx9:Kx b g H6 H9:=λx o hx nb' ng'=>k9 _ _ (k8 _ _ (e7 _ _ hx) nb') ng'
  have dn5:H5 d=none:=by
   cases z:H5 d with
   | none=>rfl
   | some o=>rw[kx6 _ _ z db dg]at nd;cases nd
  have kx59:Kx b g H5 H9:=λx o hx nb' ng'=>kx9 _ _ (kx6 _ _ hx nb' ng') nb' ng'
  have dnn:∀x∈ds ++ [d],H5 x=none:=λx hx=>by
   rcases List.mem_append.mp hx with z | z
   ·exact dn x z
   ·rw[List.mem_singleton.mp z];exact dn5
  refine⟨_,rfl,_,_,rfl,rfl,(by show (0:Int) < 8;decide),rfl,_,rfl,cNe (λc => ?_) (λc => ?_)⟩
  rotate_left
  ·exact⟨⟨_,rfl⟩,kx59,_,_,_,_,rs.snoc kx9 nd hb9 hg9 hd9 ⟨List.nodup_nil,by simp,(λp hp=>by cases hp),λh e=>by cases e⟩ (.inl ⟨rfl,rfl⟩),by simp[lhs],dnn⟩
  have hw9:=hwk kx59
  refine⟨_,rfl,r,_,_,_,rfl,rfl,SqT.of hw9.at_,atI1',_,rfl,_,_,rfl,rfl,⟨by decide,by decide⟩,_,rfl,m,_,topC m,rfl,m4,t1,t10,λrt ts HA eA hrt ts0 tsb => ?_⟩
  have hgA:=eA _ _ hg9
  refine⟨_,rfl,_,rfl,g,_,-1,us.length,rfl,rfl,hgA,zlq,?_⟩
  rw[zna]
  have kB:∀x o,HA x=some o->x≠g->(upd HA g (.lst (us ++ [.ref rt]))) x=some o:=λx o hx nx=>by rw[zal nx];exact hx
  have hgB:(upd HA g (HO.lst (us ++ [V.ref rt]))) g=some (.lst (us ++ [.ref rt])):=zaf
  generalize upd HA g (HO.lst (us ++ [V.ref rt]))=HB at kB hgB
  have kx9B:Kx b g H9 HB:=λx o hx _ ng'=>kB _ _ (eA _ _ hx) ng'
  have kx5B:Kx b g H5 HB:=λx o hx nb' ng'=>kx9B _ _ (kx59 _ _ hx nb' ng') nb' ng'
  have hwB:=hwk kx5B
  have hrtB:=kB _ _ hrt (zbk hrt hgA (by intro z;cases z))
  refine⟨_,rfl,r,_,_,_,rfl,rfl,SqT.of hwB.at_,atI0',_,rfl,_,_,rfl,rfl,⟨by decide,by decide⟩,_,_,rfl,rfl,.inr ⟨by decide,by decide⟩,_,_,rfl,rfl,(by show (0:Int) < 99991;decide),n,_,rfl,hw.n0,λv z HC eC nv => ?_⟩
  have hbC:=eC _ _ (kB _ _ (eA _ _ hb9) bg)
  have hgC:=eC _ _ hgB
  have hdC:=eC _ _ (kB _ _ (eA _ _ hd9) dg)
  have hrtC:=eC _ _ hrtB
  refine⟨_,rfl,_,rfl,b,_,-1,_,rfl,rfl,SqL.of hbC,zi3,_,rfl,_,rfl,g,_,-1,_,rfl,rfl,SqL.of hgC,zi3,d,_,rfl,DPut.t (k:=ky ts) hdC (by rw[zf8];exact hrtC) (zlt _ (by simp)),?_⟩
  rw[zik (by simp),List.nil_append]
  have kD:∀x o,HC x=some o->x≠d->(upd HC d (.dT [(ky ts,v)])) x=some o:=λx o hx nx=>by rw[zal nx];exact hx
  have hdD:(upd HC d (HO.dT [(ky ts,v)])) d=some (.dT [(ky ts,v)]):=zaf
  have nvD:NV n (upd HC d (HO.dT [(ky ts,v)])) v z:=nv.updD hdC
  generalize upd HC d (HO.dT [(ky ts,v)])=HD at kD hdD nvD
  have kx6D:Kx b g H6 HD:=λx o hx nb' ng'=>kD _ _ (eC _ _ (kx9B _ _ (kx9 _ _ hx nb' ng') nb' ng')) (λz=>by rw[z,nd]at hx;cases hx)
  have kx5D:Kx b g H5 HD:=λx o hx nb' ng'=>kx6D _ _ (kx6 _ _ hx nb' ng') nb' ng'
  refine⟨⟨_,rfl⟩,kx5D,_,_,_,_,rs.snoc kx6D nd (kD _ _ hbC (Ne.symm db)) (kD _ _ hgC (Ne.symm dg)) hdD ⟨by simp,by simp,λp hp => ?_,λh e => ?_⟩ (.inr ⟨ts,rfl,rt,rfl,kD _ _ hrtC (zbk hrtC hdC (by intro z;cases z))⟩),by simp[lhs],dnn⟩
  ·rw[List.mem_singleton.mp hp]
   exact⟨ts,rfl,ts0,tsb,⟨z,nvD⟩,ts,rfl,.inl rfl⟩
  ·cases e
   exact⟨by simp,ts0,tsb⟩
 rintro σ H6 ⟨⟨v5,rfl⟩,kx6,ds,kvss,us,hs,rs,lhs,dn⟩
 rw[List.length_map]at lhs
 have sm6:Same H1 H6:=λx o hx=>kx6 _ _ ((g14.trans e5) _ _ hx) (zao hx nb1) (zao hx ng1)
 have hw6:=hwk kx6
 have l12:hs.length<=12:=by omega
 have lds:ds.length=hs.length:=by rw[rs.len,rs.lh]
 have lus:us.length=hs.length:=(Paired.length rs.hg.2).symm
 have rds:r ∉ ds:=λz=>by have:=dn r z;rw[hw5.at_]at this;cases this
 have ldd:l ∉ ds:=λz=>by have:=dn l z;rw[hw5.w]at this;cases this
 have dH:∀d∈ds,∃kvs,H6 d=some (.dT kvs):=λd hd=>by
  obtain⟨i,hi⟩:=List.mem_iff_getElem?.mp hd
  have li:i < kvss.length:=by
   rw[<- rs.len]
   rcases Nat.lt_or_ge i ds.length with z | z
   ·exact z
   ·rw[List.getElem?_eq_none z]at hi;cases hi
  exact⟨_,(rs.row i d _ hi (List.getElem?_eq_getElem li)).1⟩
 obtain⟨cs2,ec2,lc2,cne2⟩:=cut14 ns h63
 dsimp only
 refine⟨_,rfl,14,rfl,94,rfl,a,_,rfl,(e1.trans sm6).seq hS,λq2 hq2 => ?_⟩
 rw[ec2]
 have e7:Same H6 (upd H6 q2 (.lst (cs2.map V.int))):=Same.upd hq2
 have hq7:(upd H6 q2 (HO.lst (cs2.map V.int))) q2=some (.lst (cs2.map V.int)):=zaf
 generalize upd H6 q2 (HO.lst (cs2.map V.int))=H7 at e7 hq7
 have q2d:q2 ∉ ds:=λz=>by
  obtain⟨kvs,h1⟩:=dH q2 z
  rw[h1]at hq2;cases hq2
 have hw7:=hw6.same e7
 have hwy:∀{H':Hp},(∀x o,H7 x=some o->x ∉ ds->H' x=some o)->How H' r n m kd l ws:=fun{H'} ky'=>⟨ky' _ _ hw7.at_ rds,ky' _ _ hw7.w ldd,hw.lw,hw.wn,hw.wb,hw.m1,hw.m4,hw.k0,hw.k4,hw.n0,hw.n1⟩
 refine⟨q2,rfl,⟨_,SqL.of hq7⟩,?_⟩
 refine zjh (K:=K) (a:=q2) (xs:=cs2.map V.int) (λi σ H'=>(∃v5 v6 v7 v8,σ = [some (.ref a),some (.ref r),some (.int (topC m)),some (.ref b),some (.ref g),v5,v6,v7,v8,none,none])/\(∀x o,H7 x=some o->x ∉ ds->H' x=some o)/\∃kvss,RS n m (rkk kd ws) H' (1 + i) b ds kvss g us hs) ?_ (λi σ H' h=>SqL.of (h.2.1 _ _ hq7 q2d)) ?_ ?_
 ·exact⟨⟨_,none,none,none,rfl⟩,λx o hx _=>hx,kvss,rs.same e7⟩
 ·clear rs
  rintro i x σ H8 p hx ⟨⟨v5,v6,v7,v8,rfl⟩,ky8,kvss,rs⟩ np
  rw[List.getElem?_map]at hx
  cases hci:cs2[i]? with
  | none=>rw[hci]at hx;cases hx
  | some cv=>
  rw[hci]at hx
  injection hx with hx
  subst hx
  have c2:cs2≠[]:=λz=>by rw[z]at hci;cases hci
  have lpos:0 < ds.length:=by
   have:=cne (cne2 c2)
   rw[lds,lhs]
   exact List.length_pos_iff.mpr this
  have e9:Same H8 (upd H8 p (.tup [.int i,.int cv])):=Same.upd np
  have hp9:(upd H8 p (HO.tup [.int i,.int cv])) p=some (.tup [.int i,.int cv]):=zaf
  generalize upd H8 p (HO.tup [.int i,.int cv])=H9 at e9 hp9
  refine⟨p,_,rfl,SqT.of hp9,rfl,_,_,rfl,_,_,rfl,rfl,?_⟩
  have rs9:=rs.same e9
  have hw9:=(hwy ky8).same e9
  refine⟨_,rfl,_,rfl,b,_,rfl,.inl (SqL.of rs9.at_),_,_,rfl,rfl,(by rw[List.length_map];omega),?_⟩
  obtain⟨at_,eat,alt⟩:∃at_:Nat,(i:Int) % ((ds.map V.ref).length:Int)=(at_:Int)/\at_ < ds.length:=⟨i % ds.length,by rw[List.length_map];omega,Nat.mod_lt _ lpos⟩
  dsimp only[gName]
  rw[eat]
  refine⟨_,rfl,r,_,_,_,rfl,rfl,SqT.of hw9.at_,atI1',_,rfl,_,rfl,m,_,topC m,rfl,m4,t1,t10,λrt ts HA eA hrt ts0 tsb => ?_⟩
  dsimp only[gName]
  have rsA:=rs9.same eA
  have hwA:=hw9.same eA
  have eN:∀{H'},Same H8 H'->∀x o,H7 x=some o->x ∉ ds->H' x=some o:=fun{H'} e x o hx nx=>e _ _ (ky8 _ _ hx nx)
  have mr:∀{H'},RS n m (rkk kd ws) H' (1 + i) b ds kvss g us hs->RS n m (rkk kd ws) H' (1 + (i + 1)) b ds kvss g us hs:=fun{H'} h=>⟨h.at_,h.len,h.lh,h.nd,λj d k' h1 h2=>⟨(h.row j d k' h1 h2).1,(h.row j d k' h1 h2).2.more (by omega)⟩,h.hg,h.ne⟩
  obtain⟨v,av,hv⟩:=rsA.hg.non (i:=at_) (by omega)
  refine⟨_,rfl,_,rfl,g,us,_,v,rfl,rfl,SqL.of rsA.hg.1,av,rfl,_,rfl,?_⟩
  rcases hv with⟨nin,rfl⟩ | ⟨hin,rq,rfl⟩
  ·exact iteF (iteF ⟨⟨_,_,_,_,rfl⟩,eN (e9.trans eA),kvss,mr rsA⟩)
  refine iteT ?_
  obtain⟨rq',aq,hrq⟩:=rsA.hg.get hin
  rw[aq]at av
  cases av
  have hdi:ds[at_]? = some ds[at_]:=List.getElem?_eq_getElem alt
  have hki:kvss[at_]? = some (kvss[at_]'(by rw[<- rs.len];exact alt)):=List.getElem?_eq_getElem _
  generalize ds[at_]=d at hdi
  generalize kvss[at_]'(by rw[<- rs.len];exact alt)=kvs at hki
  obtain⟨h,eh⟩:∃h,hs.getD at_ none=some h:=by
   have:=pl_mem.mp hin
   cases z:hs.getD at_ none with
   | none=>rw[z]at this;cases this
   | some h=>exact⟨h,rfl⟩
  have ehd:hd hs at_=h:=by unfold hd;rw[eh];rfl
  rw[ehd]at hrq
  have rwA:=(rsA.row at_ d kvs hdi hki).2
  rw[eh]at rwA
  obtain⟨hin',h0,hbd⟩:=rwA.hd h rfl
  have p200:∀{t:List Int},(∀i,t.getD i 0 < topC m)->∀i,t.getD i 0<=200:=fun{t} h i=>by have:=h i;omega
  refine⟨_,rfl,_,rfl,r,rt,n,m,kd,l,ws,ts,rfl,hwA,hrt,ts0.len,zje ts0 m1 m4 (p200 tsb),λp1 HB eB hp1 => ?_⟩
  refine⟨_,rfl,_,rfl,_,rfl,g,us,_,_,rfl,rfl,SqL.of (rsA.same eB).hg.1,aq,r,rq,n,m,kd,l,ws,h,rfl,hwA.same eB,eB _ _ hrq,h0.len,zje h0 m1 m4 (p200 hbd),λp2 HC eC hp2 => ?_⟩
  refine⟨p1,p2,_,_,rfl,rfl,SqT.of (eC _ _ hp1),SqT.of hp2,_,rfl,?_⟩
  have gC:Same HA HC:=eB.trans eC
  refine cB (λlt => ?_) (λlt => ?_)
  rotate_left
  ·exact⟨⟨_,_,_,_,rfl⟩,eN ((e9.trans eA).trans gC),kvss,mr (rsA.same gC)⟩
  have hwC:=hwA.same gC
  refine⟨_,rfl,r,_,_,_,rfl,rfl,SqT.of hwC.at_,atI0',_,rfl,_,_,rfl,rfl,.inr ⟨by decide,by decide⟩,_,_,rfl,rfl,(by show (0:Int) < 99991;decide),n,_,rfl,hw.n0,λv z HD eD nv => ?_⟩
  have rsD:=(rsA.same gC).same eD
  obtain⟨hdD,rwD⟩:=rsD.row at_ d kvs hdi hki
  rw[eh]at rwD
  have hrtD:=eD _ _ (gC _ _ hrt)
  have i63:i < cs2.length:=by
   rcases Nat.lt_or_ge i cs2.length with z | z
   ·exact z
   ·rw[List.getElem?_eq_none z]at hci;cases hci
  refine⟨_,rfl,_,rfl,b,_,_,_,rfl,rfl,SqL.of rsD.at_,ze6 (by rw[List.getElem?_map,hdi];rfl),_,rfl,d,_,rfl,DPut.t (k:=ky ts) hdD (by rw[zf8];exact hrtD) (zlt _ (by have:=rwD.b;omega)),?_⟩
  refine⟨⟨_,_,_,_,rfl⟩,λx o hx nx => ?_,_,rsD.put (by omega) hdi hki (by rw[eh];exact rwD.put lt ts0 tsb nv)⟩
  rw[zal (λz=>nx (by rw[z];exact List.mem_of_getElem? hdi))]
  exact eN (((e9.trans eA).trans gC).trans eD) x o hx nx
 clear rs
 rintro σ H8 ⟨⟨v5,v6,v7,v8,rfl⟩,ky8,kvss,rs⟩
 rw[List.length_map]at rs
 have hw8:=hwy ky8
 have hT8:H8 Pt=some (.tbl #[]):=ky8 _ _ (e7 _ _ (sm6 _ _ (e1 _ _ hT))) λz=>by
  obtain⟨kvs,h1⟩:=dH Pt z
  rw[sm6 _ _ (e1 _ _ hT)]at h1;cases h1
 have N64:1 + cs2.length<=1000:=by omega
 refine zi7 ?_
 refine⟨_,rfl,b,rfl,⟨_,SqL.of rs.at_⟩,λD hD => ?_⟩
 have rix:∀(i:Nat) (d:Addr),ds[i]? = some d->∃kvs,kvss[i]? = some kvs/\kvss.getD i []=kvs:=λi d hi=>by
  have li:i < kvss.length:=by
   rw[<- rs.len]
   rcases Nat.lt_or_ge i ds.length with z | z
   ·exact z
   ·rw[List.getElem?_eq_none z]at hi;cases hi
  exact⟨kvss[i],List.getElem?_eq_getElem li,by simp[List.getD,li]⟩
 refine zkm (zde (SqL.of rs.at_)) hD (zl _ (by rw[List.length_map];omega)) (λσ=>∃v,σ = [v]) (λ_=>true) (λi v H'=>∃d,v = .ref d/\H' d=some (.dT (kvss.getD i []))) (λi v H1 H2 e ⟨d,a1,a2⟩=>⟨d,a1,e _ _ a2⟩) (λi v H1 ys ys' hy ⟨d,a1,a2⟩=>⟨d,a1,by rw[zal (zbk a2 hy (by intro z;cases z))];exact a2⟩) ⟨none,rfl⟩ ?_ λH9 ys e9 hL hp => ?_
 ·rintro i v σ' H9 hi ⟨z,rfl⟩ e9 hv _ Ny Nn hy hn
  rw[List.getElem?_map]at hv
  cases hd:ds[i]? with
  | none=>rw[hd]at hv;cases hv
  | some d=>
   rw[hd]at hv
   injection hv with hv
   subst hv
   obtain⟨kvs,hk,eg⟩:=rix i d hd
   obtain⟨hd9,rw9⟩:=(rs.same e9).row i d kvs hd hk
   unfold tYes
   dsimp only[gName]
   rw[if_pos rfl]
   refine⟨_,rfl,d,kvs,rfl,hd9,rw9.hds m1 m4,λp hp => ?_⟩
   exact hy _ _ _ ⟨_,rfl⟩ (Same.upd hp) ⟨p,rfl,by rw[eg];exact zaf⟩ rfl
 rw[List.filter_eq_self.mpr (λ_ _=>rfl)]at hp
 obtain⟨dh,eys,ldh,hdh⟩:=zov hp
 rw[List.length_map]at ldh
 rw[eys]at hL
 have rs9:=rs.same e9
 have hw9:=hw8.same e9
 have hT9:=e9 _ _ hT8
 dsimp only[gName]
 obtain⟨CO,O⟩:=hord kd ws hw.k0 hw.k4 hw.wn hw.wb
 refine⟨_,rfl,r,n,m,kd,l,ws,rfl,hw9,λx pf po HA eA hrg hat => ?_⟩
 have rsA:=rs9.same eA
 have pl9:PL n m HA D dh kvss:=⟨eA _ _ hL,by rw[ldh,rs.len],λi d kvs h1 h2=>by
  have:=hdh i d h1
  have eg:kvss.getD i []=kvs:=by simp[List.getD,h2]
  rw[eg]at this
  have li:i < ds.length:=by
   rw[rs.len]
   rcases Nat.lt_or_ge i kvss.length with z | z
   ·exact z
   ·rw[List.getElem?_eq_none z]at h2;cases h2
  exact⟨eA _ _ this,(rsA.row i _ kvs (List.getElem?_eq_getElem li) h2).2.pk m1 m4 N64⟩,by omega⟩
 refine⟨_,rfl,x,D,m,pf,po,n,kd,ws,dh,kvss,rfl,hrg,hat,m1,m4,hw.k0,hw.k4,hw.wn,hw.wb,pl9,by omega,eA _ _ hT9,λD2 HB us2 qs hs' nD2 bB lh' ho' prs tl => ?_⟩
 have hTA:=eA _ _ hT9
 obtain rfl:hs'=hs:=zpo (by rw[lh',rs.lh]) λi hi=>by
  have lk:i < kvss.length:=by omega
  have hki:kvss[i]? = some kvss[i]:=List.getElem?_eq_getElem lk
  have eg:kvss.getD i []=kvss[i]:=by simp[List.getD,hki]
  have q:=ho' i hi
  rw[eg]at q
  exact(rsA.row i (ds[i]'(by rw[rs.len];exact lk)) kvss[i] (List.getElem?_eq_getElem _) hki).2.one q
 have ht0:=hs_t pl9 lh' ho'
 have nt:∀{bb:Addr} {o:HO},HA bb=some o->(∀ps,o≠.tbl ps)->HB bb=some o:=λhb no=>bt bB hTA hb no
 have hwB:How HB r n m kd l ws:=by
  have h:=hw9.same eA
  exact⟨nt h.at_ (by intro _ z;cases z),nt h.w (by intro _ z;cases z),h.lw,h.wn,h.wb,h.m1,h.m4,h.k0,h.k4,h.n0,h.n1⟩
 have hgB:HdL HB g us hs':=⟨nt rsA.hg.1 (by intro _ z;cases z),pimp (λ_ _ q=>q.same λb xs hb=>nt hb (by intro _ z;cases z)) rsA.hg.2⟩
 dsimp only[gName]
 refine⟨_,rfl,_,_,_,_,_,rfl,rfl,.lst tl.at_,T.kll,_,rfl,iteF ?_⟩
 show tComp _ _ _ _ _ _ _ _
 refine zdg (J:=Itl K D2) (H1:=HB) (zde (SqL.of tl.at_)) tl.b ?_ (λσ=>∃v,σ = [v]) (λ_=>true) (λi => .bl true) ⟨none,rfl⟩ ?_ λD3 HC eC hL3 => ?_
 ·exact λR hR=>⟨_,rfl,D2,rfl,⟨_,SqL.of tl.at_⟩,hR⟩
 ·rintro i v σ' H4 hi ⟨z,rfl⟩ e4 hv Ny Nn hy hn
  obtain⟨t1',rt,ht1,rfl,hr1,t0⟩:=(tl.same e4).get hv
  obtain⟨c1,c2,_,_,_,rfl⟩:=(prs.mem t1').mp (List.mem_filter.mp (List.mem_of_getElem? ht1)).1
  unfold tYes
  dsimp only[gName]
  rw[if_pos rfl]
  exact⟨_,rfl,rt,_,_,rfl,hr1,hy _ _ ⟨_,rfl⟩ (Same.refl _) rfl⟩
 rw[List.filter_eq_self.mpr (λ_ _=>rfl)]at hL3
 refine⟨D3,(List.range us2.length).map λ_=>true,rfl,SqL.of (by rw[hL3,List.map_map];rfl),?_⟩
 have ea:((List.range us2.length).map λ_=>true).all id=true:=by simp
 rw[ea]
 refine⟨_,rfl,iteF ?_⟩
 have allT:∀(l1 l2:List Addr),l1.length=l2.length->(decide (l1.length=l2.length) && (List.range l1.length).all λ_=>true)=true:=λl1 l2 e=>by rw[decide_eq_true e];simp
 have dB:∀{bb:Addr} {kvs:List (List Key×V)},HA bb=some (.dT kvs)->HC bb=some (.dT kvs):=λhb=>eC _ _ (nt hb (by intro _ z;cases z))
 refine⟨_,rfl,_,rfl,D,b,dh,ds,λ_=>true,rfl,rfl,eC _ _ (nt pl9.at_ (by intro _ z;cases z)),eC _ _ (nt rsA.at_ (by intro _ z;cases z)),λi p q z1 z2 => ?_,_,rfl,?_⟩
 ·obtain⟨kvs,hk,eg⟩:=rix i q z2
  obtain⟨q1,q2'⟩:=rsA.row i q kvs z2 hk
  exact(q2'.same λv z nv=>nv.tup λb xs hb=>eC _ _ (nt hb (by intro _ z;cases z))).deq (dB (pl9.row i p kvs z1 hk).1) (dB q1)
 rw[allT dh ds ldh]
 refine iteF ?_
 refine⟨_,rfl,_,rfl,_,rfl,r,g,n,m,kd,l,ws,us,hs',rfl,hwB.same eC,hgB.same eC,ht0,l12,λD4 HD ys4 ds4 eD tl4 nd4 mm4 srt4 => ?_⟩
 obtain⟨L,rl⟩:=zgx (kd:=kd) (ws:=ws) (m:=m)
 have eqd:=zpm (L:=L) (λi j hi hj=>rl _ (zib (ht0 i hi).1 (ht0 j hj).1).len) prs nd4 mm4 srt4
 rw[eqd]at tl
 have tlD:=(tl.same eC).same eD
 refine⟨.list (tds ds4),.list (tds ds4),.lst (SqL.of tlD.at_) (zgq tlD.tm),.lst (SqL.of tl4.at_) (zgq tl4.tm),zfv ds4,zfv ds4,?_⟩
 rw[znu ds4]
 exact k _
end
end K6
namespace PySem.W.Fast
def tw7236446980952984132:=0
def tw2560121546188932852:=0
def tw12397575382046833991:=0
def tw17296762022199062532:=0
def tw17708603509591261196:=0
def tw7711945468765448868:=0
def tw16514661996169812609:=0
def tw9151134093203349856:=0
def tw11473754099867272240:=0
def tw5218222792337270005:=0
def tw5948849557825242281:=0
def tw10534297398009058699:=0
def tw14395600293027694520:=0
def tw16971285895069353421:=0
def tw16134359737518529819:=0
def tw5027565809711646723:=0
def tw17915716557076011982:=0
def tw10877189611711904115:=0
def tw15493527118187229450:=0
def tw12974845121981744497:=0
def tw7308851859282892452:=0
def tw2579401909464774372:=0
def tw11936844066703114841:=0
def tw6954756440090721067:=0
def tw8029336053969519188:=0
def tw6734438092212599924:=0
def tw4469260708497537551:=0
def tw8035584141956262521:=0
def tw12938204471009674754:=0
def tw3135572154150948893:=0
def tw2884888511401284116:=0
def tw7816476808283693670:=0
def tw13331646838290555710:=0
def tw11767910393270393938:=0
def tw17179933618547287721:=0
def tw12715735753645259997:=0
def tw14062921597405941861:=0
def tw9517192967716977080:=0
def tw6262601812882563097:=0
def tw12179327818366719939:=0
def tw12719592551241098910:=0
def tw10901070767732185307:=0
def tw7166207774506045338:=0
def tw191673900259159763:=0
def tw6503159810717492256:=0
def tw10770141568064444198:=0
def tw3873235759108878365:=0
def tw17426259718491494494:=0
def tw4638147195624783295:=0
def tw14302539980613586057:=0
def tw18409846393588117681:=0
def tw7322748395389419020:=0
def tw10963053182152731377:=0
def tw11651643405567571595:=0
def tw10994331353573942942:=0
def tw9022275428682004360:=0
def tw8003424910134476037:=0
def tw18384898968435013406:=0
def tw16833772510295829911:=0
def tw11729241590146505263:=0
def tw14238456478331708942:=0
def tw15144516989325007234:=0
def tw2917481409476388690:=0
def tw11106630308410817170:=0
def tw12043996704885417657:=0
def tw9982751782152915684:=0
def tw5729398284076926091:=0
def tw10621601167024928042:=0
def tw4037798729381469655:=0
def tw9734867659042504651:=0
def tw6933034924380781618:=0
def tw14143166734284381371:=0
def tw14621462729776248800:=0
def tw8074109669461447035:=0
def tw4925487399706333160:=0
def tw449135426932541853:=0
def tw1083180501809924994:=0
def tw540913588683117209:=0
def tw15675988944798553737:=0
def tw7851833500115880219:=0
def tw1049706744917956871:=0
def tw12308154138281561453:=0
def tw14497609920636439106:=0
def tw15904162380405186836:=0
def tw11513373022370049768:=0
def tw5550765777453965456:=0
def tw4986570822325219196:=0
def tw9175544294812836510:=0
def tw11192740145230222947:=0
def tw4123812966027724926:=0
def tw3020254926402620551:=0
def tw17847416282444614919:=0
def tw10997418681853597915:=0
def tw7912355023187534573:=0
def tw5815893973157446866:=0
def tw7855910308398269424:=0
def tw15382225053059603512:=0
def tw1752628346200560569:=0
def tw11231335276938609042:=0
def tw9584823714055072649:=0
def tw12334815911052732583:=0
def tw12844304088471011687:=0
def tw13080234324020527239:=0
def tw2404037657940449945:=0
def tw16972897399673075552:=0
def tw4487894091335210990:=0
def tw15118842200486576824:=0
def tw6246463322343572532:=0
def tw14354955838313295421:=0
def tw4238026571491381495:=0
def tw18103434668474401596:=0
def tw13860607143913857303:=0
def tw489850124520624548:=0
def tw13954990778444219761:=0
def tw17222131303637128928:=0
def tw14862047905648250521:=0
def tw16815831168536756761:=0
def tw3351961134689822678:=0
def tw6338949183553903714:=0
def tw3394633801969885912:=0
def tw8504601808159306272:=0
end PySem.W.Fast
namespace K6
open PySem L2
set_option maxHeartbeats 8000000 in
theorem all_mk{l:W.OpenLaw}{w:World}{K:W.Frag}{h:Heap}{mg:Str->Option Value}{fa:Addr}(X:K.In h)(G:h.Ns mainGlobals mg)(hfa:mg "law" = some (.ref fa))
  {zan:Addr} {zad:Addr} {zam:Addr} {zag:Addr} {zac:Addr} {zah:Addr} {zab:Addr} {f_0:Addr} {od_0 an_0:Option Addr} {sl_0:Array (Option Value)} {oc_0 kV_0 dc_0 pm_0 cd_0 ct_0:Value} {f_1:Addr} {od_1 an_1:Option Addr} {sl_1:Array (Option Value)} {oc_1 kV_1 dc_1 pm_1 cd_1 ct_1:Value} {f_2:Addr} {od_2 an_2:Option Addr} {sl_2:Array (Option Value)} {oc_2 kV_2 dc_2 pm_2 cd_2 ct_2:Value} {f_3:Addr} {od_3 an_3:Option Addr} {sl_3:Array (Option Value)} {oc_3 kV_3 dc_3 pm_3 cd_3 ct_3:Value} {f_4:Addr} {od_4 an_4:Option Addr} {sl_4:Array (Option Value)} {oc_4 kV_4 dc_4 pm_4 cd_4 ct_4:Value} {f_5:Addr} {od_5 an_5:Option Addr} {sl_5:Array (Option Value)} {oc_5 kV_5 dc_5 pm_5 cd_5 ct_5:Value} {f_6:Addr} {od_6 an_6:Option Addr} {sl_6:Array (Option Value)} {oc_6 kV_6 dc_6 pm_6 cd_6 ct_6:Value} {f_7:Addr} {od_7 an_7:Option Addr} {sl_7:Array (Option Value)} {oc_7 kV_7 dc_7 pm_7 cd_7 ct_7:Value} {f_8:Addr} {od_8 an_8:Option Addr} {sl_8:Array (Option Value)} {oc_8 kV_8 dc_8 pm_8 cd_8 ct_8:Value} {f_9:Addr} {od_9 an_9:Option Addr} {sl_9:Array (Option Value)} {oc_9 kV_9 dc_9 pm_9 cd_9 ct_9:Value} {f_10:Addr} {od_10 an_10:Option Addr} {sl_10:Array (Option Value)} {oc_10 kV_10 dc_10 pm_10 cd_10 ct_10:Value} {f_11:Addr} {od_11 an_11:Option Addr} {sl_11:Array (Option Value)} {oc_11 kV_11 dc_11 pm_11 cd_11 ct_11:Value} {f_12:Addr} {od_12 an_12:Option Addr} {sl_12:Array (Option Value)} {oc_12 kV_12 dc_12 pm_12 cd_12 ct_12:Value} {Cq_12:Addr} {f_13:Addr} {od_13 an_13:Option Addr} {sl_13:Array (Option Value)} {oc_13 kV_13 dc_13 pm_13 cd_13 ct_13:Value} {f_14:Addr} {od_14 an_14:Option Addr} {sl_14:Array (Option Value)} {oc_14 kV_14 dc_14 pm_14 cd_14 ct_14:Value} {f_15:Addr} {od_15 an_15:Option Addr} {sl_15:Array (Option Value)} {oc_15 kV_15 dc_15 pm_15 cd_15 ct_15:Value} {f_16:Addr} {od_16 an_16:Option Addr} {sl_16:Array (Option Value)} {oc_16 kV_16 dc_16 pm_16 cd_16 ct_16:Value} {f_17:Addr} {od_17 an_17:Option Addr} {sl_17:Array (Option Value)} {oc_17 kV_17 dc_17 pm_17 cd_17 ct_17:Value} {f_18:Addr} {od_18 an_18:Option Addr} {sl_18:Array (Option Value)} {oc_18 kV_18 dc_18 pm_18 cd_18 ct_18:Value} {f_19:Addr} {od_19 an_19:Option Addr} {sl_19:Array (Option Value)} {oc_19 kV_19 dc_19 pm_19 cd_19 ct_19:Value} {f_20:Addr} {od_20 an_20:Option Addr} {sl_20:Array (Option Value)} {oc_20 kV_20 dc_20 pm_20 cd_20 ct_20:Value} {f_21:Addr} {od_21 an_21:Option Addr} {sl_21:Array (Option Value)} {oc_21 kV_21 dc_21 pm_21 cd_21 ct_21:Value} {f_22:Addr} {od_22 an_22:Option Addr} {sl_22:Array (Option Value)} {oc_22 kV_22 dc_22 pm_22 cd_22 ct_22:Value} {f_23:Addr} {od_23 an_23:Option Addr} {sl_23:Array (Option Value)} {oc_23 kV_23 dc_23 pm_23 cd_23 ct_23:Value} {f_24:Addr} {od_24 an_24:Option Addr} {sl_24:Array (Option Value)} {oc_24 kV_24 dc_24 pm_24 cd_24 ct_24:Value} {f_25:Addr} {od_25 an_25:Option Addr} {sl_25:Array (Option Value)} {oc_25 kV_25 dc_25 pm_25 cd_25 ct_25:Value} {f_26:Addr} {od_26 an_26:Option Addr} {sl_26:Array (Option Value)} {oc_26 kV_26 dc_26 pm_26 cd_26 ct_26:Value} {f_27:Addr} {od_27 an_27:Option Addr} {sl_27:Array (Option Value)} {oc_27 kV_27 dc_27 pm_27 cd_27 ct_27:Value} {f_28:Addr} {od_28 an_28:Option Addr} {sl_28:Array (Option Value)} {oc_28 kV_28 dc_28 pm_28 cd_28 ct_28:Value} {f_29:Addr} {od_29 an_29:Option Addr} {sl_29:Array (Option Value)} {oc_29 kV_29 dc_29 pm_29 cd_29 ct_29:Value} {f_30:Addr} {od_30 an_30:Option Addr} {sl_30:Array (Option Value)} {oc_30 kV_30 dc_30 pm_30 cd_30 ct_30:Value} {f_31:Addr} {od_31 an_31:Option Addr} {sl_31:Array (Option Value)} {oc_31 kV_31 dc_31 pm_31 cd_31 ct_31:Value} {f_32:Addr} {od_32 an_32:Option Addr} {sl_32:Array (Option Value)} {oc_32 kV_32 dc_32 pm_32 cd_32 ct_32:Value} {f_33:Addr} {od_33 an_33:Option Addr} {sl_33:Array (Option Value)} {oc_33 kV_33 dc_33 pm_33 cd_33 ct_33:Value} {f_34:Addr} {od_34 an_34:Option Addr} {sl_34:Array (Option Value)} {oc_34 kV_34 dc_34 pm_34 cd_34 ct_34:Value} {f_35:Addr} {od_35 an_35:Option Addr} {sl_35:Array (Option Value)} {oc_35 kV_35 dc_35 pm_35 cd_35 ct_35:Value} {f_36:Addr} {od_36 an_36:Option Addr} {sl_36:Array (Option Value)} {oc_36 kV_36 dc_36 pm_36 cd_36 ct_36:Value} {f_37:Addr} {od_37 an_37:Option Addr} {sl_37:Array (Option Value)} {oc_37 kV_37 dc_37 pm_37 cd_37 ct_37:Value} {f_38:Addr} {od_38 an_38:Option Addr} {sl_38:Array (Option Value)} {oc_38 kV_38 dc_38 pm_38 cd_38 ct_38:Value} {f_39:Addr} {od_39 an_39:Option Addr} {sl_39:Array (Option Value)} {oc_39 kV_39 dc_39 pm_39 cd_39 ct_39:Value} {f_40:Addr} {od_40 an_40:Option Addr} {sl_40:Array (Option Value)} {oc_40 kV_40 dc_40 pm_40 cd_40 ct_40:Value} {f_41:Addr} {od_41 an_41:Option Addr} {sl_41:Array (Option Value)} {oc_41 kV_41 dc_41 pm_41 cd_41 ct_41:Value} {zck:Addr} {bm_NoLead:List Value} {nid_NoLead:String} {ini_NoLead B_NoLead:String} {zb7:Addr} {bm_NoOrder:List Value} {nid_NoOrder:String} {ini_NoOrder B_NoOrder:String} {zb8:Addr} {bm_NoPrime:List Value} {nid_NoPrime:String} {ini_NoPrime B_NoPrime:String} {zcl:Addr} {bm_NoRing:List Value} {nid_NoRing:String} {ini_NoRing B_NoRing:String} {zau:Addr} {bm_NoTerm:List Value} {nid_NoTerm:String} {ini_NoTerm B_NoTerm:String} {tg_GREATEST_PRIME:Tok} {tg_LETTERS:Tok}
  (gx:W.nsIn K mainGlobals "Ring" = some (some (.ref zan)))
  (gh:W.plainGet K zan Str.empty=true)
  (gk:W.hasDictIn K zan=true)
  (gl:W.plainOver K zan=true)
  (gm:W.findIn K (.ref zan) "__setattr__" = some (some (.builtin "object.__setattr__")))
  (gp:W.makesIn K zan=true)
  (gr:W.keepIn K (.ref zan)=true)
  (am:W.findIn K (.ref zan) "many" = some none)
  (ah:W.findIn K (.ref zan) "field" = some none)
  (ak:W.findIn K (.ref zan) "order" = some none)
  (a7:W.nsIn K mainGlobals "Fractions" = some (some (.ref zad)))
  (ao:W.plainGet K zad Str.empty=true)
  (ar:W.hasDictIn K zad=true)
  (au:W.plainOver K zad=true)
  (aw:W.findIn K (.ref zad) "__setattr__" = some (some (.builtin "object.__setattr__")))
  (ax:W.makesIn K zad=true)
  (ay:W.keepIn K (.ref zad)=true)
  (aa:W.findIn K (.ref zad) "prime" = some none)
  (gs:W.nsIn K mainGlobals "Rests" = some (some (.ref zam)))
  (d8:W.plainGet K zam Str.empty=true)
  (d9:W.hasDictIn K zam=true)
  (ej:W.plainOver K zam=true)
  (fc:W.findIn K (.ref zam) "__setattr__" = some (some (.builtin "object.__setattr__")))
  (fe:W.makesIn K zam=true)
  (fg:W.keepIn K (.ref zam)=true)
  (af:W.findIn K (.ref zam) "prime" = some none)
  (gt:W.nsIn K mainGlobals "Order" = some (some (.ref zag)))
  (fh:W.plainGet K zag Str.empty=true)
  (fi:W.hasDictIn K zag=true)
  (fj:W.plainOver K zag=true)
  (fk:W.findIn K (.ref zag) "__setattr__" = some (some (.builtin "object.__setattr__")))
  (fm:W.makesIn K zag=true)
  (fq:W.findIn K (.ref zag) "__init__" = some (some (.builtin "object.__init__")))
  (ft:W.keepIn K (.ref zag)=true)
  (cr:W.nsIn K mainGlobals "Degrees" = some (some (.ref zac)))
  (bo:W.plainGet K zac Str.empty=true)
  (bp:W.hasDictIn K zac=true)
  (bq:W.plainOver K zac=true)
  (br:W.findIn K (.ref zac) "__setattr__" = some (some (.builtin "object.__setattr__")))
  (bu:W.makesIn K zac=true)
  (bv:W.findIn K (.ref zac) "__init__" = some (some (.builtin "object.__init__")))
  (bw:W.keepIn K (.ref zac)=true)
  (gu:W.nsIn K mainGlobals "Tails" = some (some (.ref zah)))
  (fu:W.plainGet K zah Str.empty=true)
  (fv:W.hasDictIn K zah=true)
  (fw:W.plainOver K zah=true)
  (fx:W.findIn K (.ref zah) "__setattr__" = some (some (.builtin "object.__setattr__")))
  (fy:W.makesIn K zah=true)
  (f6:W.findIn K (.ref zah) "__init__" = some (some (.builtin "object.__init__")))
  (f7:W.keepIn K (.ref zah)=true)
  (cu:W.nsIn K mainGlobals "Weights" = some (some (.ref zab)))
  (bz:W.plainGet K zab Str.empty=true)
  (b7:W.hasDictIn K zab=true)
  (b8:W.plainOver K zab=true)
  (b9:W.findIn K (.ref zab) "__setattr__" = some (some (.builtin "object.__setattr__")))
  (ca:W.makesIn K zab=true)
  (cb:W.keepIn K (.ref zab)=true)
  (ad:W.findIn K (.ref zab) "weights" = some none)
  (rz:W.nsIn K mainGlobals "goes_into" = some (some (.ref f_0)))
  (r6:K.lookup f_0=some ⟨oc_0,od_0,.func (W.fnOf "goes_into" "goes_into" (defArgs zcb) (defBody zcb) (defScope zcb) .none kV_0 dc_0 pm_0 an_0 cd_0 ct_0),sl_0⟩)
  (r8:W.codeIn K cd_0 "goes_into" = true)
  (r9:W.keepIn K (.ref f_0)=true)
  (se:W.nsIn K mainGlobals "degree" = some (some (.ref f_1)))
  (sf:K.lookup f_1=some ⟨oc_1,od_1,.func (W.fnOf "degree" "degree" (defArgs zdp) (defBody zdp) (defScope zdp) .none kV_1 dc_1 pm_1 an_1 cd_1 ct_1),sl_1⟩)
  (sg:W.codeIn K cd_1 "degree" = true)
  (sh:W.keepIn K (.ref f_1)=true)
  (cw:W.findIn K (.ref zag) "rank" = some (some (.ref f_2)))
  (sj:W.isFn K (.ref f_2)=true)
  (iz:W.specialIn K (.ref f_2) "__get__" = some (some (.builtin "function.__get__")))
  (i3:W.takesIn K (.ref f_2)=some false)
  (sk:K.lookup f_2=some ⟨oc_2,od_2,.func (W.fnOf "rank" "Order.rank" (defArgs zb2) (defBody zb2) (defScope zb2) .none kV_2 dc_2 pm_2 an_2 cd_2 ct_2),sl_2⟩)
  (sr:W.codeIn K cd_2 "Order.rank" = true)
  (su:W.keepIn K (.ref f_2)=true)
  (a8:W.findIn K (.ref zac) "rank" = some (some (.ref f_3)))
  (sv:W.isFn K (.ref f_3)=true)
  (i5:W.specialIn K (.ref f_3) "__get__" = some (some (.builtin "function.__get__")))
  (i6:W.takesIn K (.ref f_3)=some false)
  (sw:K.lookup f_3=some ⟨oc_3,od_3,.func (W.fnOf "rank" "Degrees.rank" (defArgs zbg) (defBody zbg) (defScope zbg) .none kV_3 dc_3 pm_3 an_3 cd_3 ct_3),sl_3⟩)
  (sx:W.codeIn K cd_3 "Degrees.rank" = true)
  (sy:W.keepIn K (.ref f_3)=true)
  (cz:W.findIn K (.ref zah) "rank" = some (some (.ref f_4)))
  (tw:W.isFn K (.ref f_4)=true)
  (i7:W.specialIn K (.ref f_4) "__get__" = some (some (.builtin "function.__get__")))
  (i8:W.takesIn K (.ref f_4)=some false)
  (tz:K.lookup f_4=some ⟨oc_4,od_4,.func (W.fnOf "rank" "Tails.rank" (defArgs zby) (defBody zby) (defScope zby) .none kV_4 dc_4 pm_4 an_4 cd_4 ct_4),sl_4⟩)
  (t6:W.codeIn K cd_4 "Tails.rank" = true)
  (t7:W.keepIn K (.ref f_4)=true)
  (a9:W.findIn K (.ref zab) "__init__" = some (some (.ref f_5)))
  (t8:W.isFn K (.ref f_5)=true)
  (t9:K.lookup f_5=some ⟨oc_5,od_5,.func (W.fnOf "__init__" "Weights.__init__" (defArgs za1) (defBody za1) (defScope za1) .none kV_5 dc_5 pm_5 an_5 cd_5 ct_5),sl_5⟩)
  (ua:W.codeIn K cd_5 "Weights.__init__" = true)
  (uc:W.keepIn K (.ref f_5)=true)
  (ba:W.findIn K (.ref zab) "rank" = some (some (.ref f_6)))
  (ud:W.isFn K (.ref f_6)=true)
  (i9:W.specialIn K (.ref f_6) "__get__" = some (some (.builtin "function.__get__")))
  (ja:W.takesIn K (.ref f_6)=some false)
  (ue:K.lookup f_6=some ⟨oc_6,od_6,.func (W.fnOf "rank" "Weights.rank" (defArgs zbh) (defBody zbh) (defScope zbh) .none kV_6 dc_6 pm_6 an_6 cd_6 ct_6),sl_6⟩)
  (uf:W.codeIn K cd_6 "Weights.rank" = true)
  (ug:W.keepIn K (.ref f_6)=true)
  (bf:W.findIn K (.ref zac) "fits" = some (some (.ref f_7)))
  (dc:W.findIn K (.ref zag) "fits" = some (some (.ref f_7)))
  (de:W.findIn K (.ref zah) "fits" = some (some (.ref f_7)))
  (uh:W.isFn K (.ref f_7)=true)
  (ui:K.lookup f_7=some ⟨oc_7,od_7,.func (W.fnOf "fits" "Order.fits" (defArgs zb0) (defBody zb0) (defScope zb0) .none kV_7 dc_7 pm_7 an_7 cd_7 ct_7),sl_7⟩)
  (uj:W.codeIn K cd_7 "Order.fits" = true)
  (ul:W.keepIn K (.ref f_7)=true)
  (bh:W.findIn K (.ref zab) "fits" = some (some (.ref f_8)))
  (um:W.isFn K (.ref f_8)=true)
  (uq:K.lookup f_8=some ⟨oc_8,od_8,.func (W.fnOf "fits" "Weights.fits" (defArgs zbf) (defBody zbf) (defScope zbf) .none kV_8 dc_8 pm_8 an_8 cd_8 ct_8),sl_8⟩)
  (ur:W.codeIn K cd_8 "Weights.fits" = true)
  (ut:W.keepIn K (.ref f_8)=true)
  (bi:W.findIn K (.ref zac) "first_of" = some (some (.ref f_9)))
  (df:W.findIn K (.ref zag) "first_of" = some (some (.ref f_9)))
  (dj:W.findIn K (.ref zah) "first_of" = some (some (.ref f_9)))
  (bj:W.findIn K (.ref zab) "first_of" = some (some (.ref f_9)))
  (uu:W.isFn K (.ref f_9)=true)
  (uv:K.lookup f_9=some ⟨oc_9,od_9,.func (W.fnOf "first_of" "Order.first_of" (defArgs za4) (defBody za4) (defScope za4) .none kV_9 dc_9 pm_9 an_9 cd_9 ct_9),sl_9⟩)
  (uw:W.codeIn K cd_9 "Order.first_of" = true)
  (ux:W.keepIn K (.ref f_9)=true)
  (dk:W.findIn K (.ref zan) "__init__" = some (some (.ref f_10)))
  (jb:W.isFn K (.ref f_10)=true)
  (jc:K.lookup f_10=some ⟨oc_10,od_10,.func (W.fnOf "__init__" "Ring.__init__" (defArgs zbb) (defBody zbb) (defScope zbb) .none kV_10 dc_10 pm_10 an_10 cd_10 ct_10),sl_10⟩)
  (jd:W.codeIn K cd_10 "Ring.__init__" = true)
  (je:W.keepIn K (.ref f_10)=true)
  (jf:W.nsIn K mainGlobals "is_prime" = some (some (.ref f_11)))
  (jg:K.lookup f_11=some ⟨oc_11,od_11,.func (W.fnOf "is_prime" "is_prime" (defArgs zct) (defBody zct) (defScope zct) .none kV_11 dc_11 pm_11 an_11 cd_11 ct_11),sl_11⟩)
  (jh:W.codeIn K cd_11 "is_prime" = true)
  (ji:W.keepIn K (.ref f_11)=true)
  (h8:W.nsIn K mainGlobals "Field" = some (some (.ref Cq_12)))
  (h9:W.readsIn K Cq_12 (.type "type")=true)
  (ic:W.findCls K (.ref Cq_12) (.type "type") "__init__" = some (.val (.ref f_12)))
  (ie:W.specialIn K (.ref Cq_12) "__getattribute__" = some (some (.builtin "type.__getattribute__")))
  (jk:W.isFn K (.ref f_12)=true)
  (jl:K.lookup f_12=some ⟨oc_12,od_12,.func (W.fnOf "__init__" "Field.__init__" (defArgs za5) (defBody za5) (defScope za5) .none kV_12 dc_12 pm_12 an_12 cd_12 ct_12),sl_12⟩)
  (jm:W.codeIn K cd_12 "Field.__init__" = true)
  (jn:W.keepIn K (.ref f_12)=true)
  (ag:W.findIn K (.ref zad) "__init__" = some (some (.ref f_13)))
  (jo:W.isFn K (.ref f_13)=true)
  (jq:K.lookup f_13=some ⟨oc_13,od_13,.func (W.fnOf "__init__" "Fractions.__init__" (defArgs zay) (defBody zay) (defScope zay) .none kV_13 dc_13 pm_13 an_13 cd_13 ct_13),sl_13⟩)
  (jr:W.codeIn K cd_13 "Fractions.__init__" = true)
  (js:W.keepIn K (.ref f_13)=true)
  (ce:W.findIn K (.ref zam) "__init__" = some (some (.ref f_14)))
  (jt:W.isFn K (.ref f_14)=true)
  (ju:K.lookup f_14=some ⟨oc_14,od_14,.func (W.fnOf "__init__" "Rests.__init__" (defArgs za6) (defBody za6) (defScope za6) .none kV_14 dc_14 pm_14 an_14 cd_14 ct_14),sl_14⟩)
  (jv:W.codeIn K cd_14 "Rests.__init__" = true)
  (jw:W.keepIn K (.ref f_14)=true)
  (jx:W.nsIn K mainGlobals "first_term" = some (some (.ref f_15)))
  (jy:K.lookup f_15=some ⟨oc_15,od_15,.func (W.fnOf "first_term" "first_term" (defArgs zb1) (defBody zb1) (defScope zb1) .none kV_15 dc_15 pm_15 an_15 cd_15 ct_15),sl_15⟩)
  (j0:W.codeIn K cd_15 "first_term" = true)
  (j3:W.keepIn K (.ref f_15)=true)
  (j4:W.nsIn K mainGlobals "meeting" = some (some (.ref f_16)))
  (j5:K.lookup f_16=some ⟨oc_16,od_16,.func (W.fnOf "meeting" "meeting" (defArgs zc9) (defBody zc9) (defScope zc9) .none kV_16 dc_16 pm_16 an_16 cd_16 ct_16),sl_16⟩)
  (j6:W.codeIn K cd_16 "meeting" = true)
  (j7:W.keepIn K (.ref f_16)=true)
  (j8:W.nsIn K mainGlobals "stand_apart" = some (some (.ref f_17)))
  (j9:K.lookup f_17=some ⟨oc_17,od_17,.func (W.fnOf "stand_apart" "stand_apart" (defArgs zbm) (defBody zbm) (defScope zbm) .none kV_17 dc_17 pm_17 an_17 cd_17 ct_17),sl_17⟩)
  (kc:W.codeIn K cd_17 "stand_apart" = true)
  (ke:W.keepIn K (.ref f_17)=true)
  (kh:W.nsIn K mainGlobals "leads_by_place" = some (some (.ref f_18)))
  (ki:K.lookup f_18=some ⟨oc_18,od_18,.func (W.fnOf "leads_by_place" "leads_by_place" (defArgs za7) (defBody za7) (defScope za7) .none kV_18 dc_18 pm_18 an_18 cd_18 ct_18),sl_18⟩)
  (kj:W.codeIn K cd_18 "leads_by_place" = true)
  (kl:W.keepIn K (.ref f_18)=true)
  (km:W.nsIn K mainGlobals "turns_of" = some (some (.ref f_19)))
  (ko:K.lookup f_19=some ⟨oc_19,od_19,.func (W.fnOf "turns_of" "turns_of" (defArgs zcr) (defBody zcr) (defScope zcr) .none kV_19 dc_19 pm_19 an_19 cd_19 ct_19),sl_19⟩)
  (kr:W.codeIn K cd_19 "turns_of" = true)
  (kt:W.keepIn K (.ref f_19)=true)
  (ku:W.nsIn K mainGlobals "lets_by" = some (some (.ref f_20)))
  (kz:K.lookup f_20=some ⟨oc_20,od_20,.func (W.fnOf "lets_by" "lets_by" (defArgs zc3) (defBody zc3) (defScope zc3) .none kV_20 dc_20 pm_20 an_20 cd_20 ct_20),sl_20⟩)
  (k6:W.codeIn K cd_20 "lets_by" = true)
  (k7:W.keepIn K (.ref f_20)=true)
  (ln:W.nsIn K mainGlobals "is_due" = some (some (.ref f_21)))
  (lr:K.lookup f_21=some ⟨oc_21,od_21,.func (W.fnOf "is_due" "is_due" (defArgs zdo) (defBody zdo) (defScope zdo) .none kV_21 dc_21 pm_21 an_21 cd_21 ct_21),sl_21⟩)
  (ls:W.codeIn K cd_21 "is_due" = true)
  (lv:W.keepIn K (.ref f_21)=true)
  (l3:W.nsIn K mainGlobals "pairs" = some (some (.ref f_22)))
  (l4:K.lookup f_22=some ⟨oc_22,od_22,.func (W.fnOf "pairs" "pairs" (defArgs zeg) (defBody zeg) (defScope zeg) .none kV_22 dc_22 pm_22 an_22 cd_22 ct_22),sl_22⟩)
  (l6:W.codeIn K cd_22 "pairs" = true)
  (l7:W.keepIn K (.ref f_22)=true)
  (l8:W.nsIn K mainGlobals "_law_cell" = some (some (.ref f_23)))
  (l9:K.lookup f_23=some ⟨oc_23,od_23,.func (W.fnOf "_law_cell" "_law_cell" (defArgs zcj) (defBody zcj) (defScope zcj) .none kV_23 dc_23 pm_23 an_23 cd_23 ct_23),sl_23⟩)
  (ma:W.codeIn K cd_23 "_law_cell" = true)
  (md:W.keepIn K (.ref f_23)=true)
  (mf:W.nsIn K mainGlobals "_law_whole" = some (some (.ref f_24)))
  (mh:K.lookup f_24=some ⟨oc_24,od_24,.func (W.fnOf "_law_whole" "_law_whole" (defArgs zbx) (defBody zbx) (defScope zbx) .none kV_24 dc_24 pm_24 an_24 cd_24 ct_24),sl_24⟩)
  (mi:W.codeIn K cd_24 "_law_whole" = true)
  (mj:W.keepIn K (.ref f_24)=true)
  (ml:W.nsIn K mainGlobals "_law_prime" = some (some (.ref f_25)))
  (mv:K.lookup f_25=some ⟨oc_25,od_25,.func (W.fnOf "_law_prime" "_law_prime" (defArgs zb4) (defBody zb4) (defScope zb4) .none kV_25 dc_25 pm_25 an_25 cd_25 ct_25),sl_25⟩)
  (mw:W.codeIn K cd_25 "_law_prime" = true)
  (my:W.keepIn K (.ref f_25)=true)
  (mz:W.nsIn K mainGlobals "_law_rests" = some (some (.ref f_26)))
  (m3:K.lookup f_26=some ⟨oc_26,od_26,.func (W.fnOf "_law_rests" "_law_rests" (defArgs zbw) (defBody zbw) (defScope zbw) .none kV_26 dc_26 pm_26 an_26 cd_26 ct_26),sl_26⟩)
  (m5:W.codeIn K cd_26 "_law_rests" = true)
  (m6:W.keepIn K (.ref f_26)=true)
  (m7:W.nsIn K mainGlobals "_law_weights" = some (some (.ref f_27)))
  (m8:K.lookup f_27=some ⟨oc_27,od_27,.func (W.fnOf "_law_weights" "_law_weights" (defArgs zbe) (defBody zbe) (defScope zbe) .none kV_27 dc_27 pm_27 an_27 cd_27 ct_27),sl_27⟩)
  (m9:W.codeIn K cd_27 "_law_weights" = true)
  (ni:W.keepIn K (.ref f_27)=true)
  (nj:W.nsIn K mainGlobals "_law_how" = some (some (.ref f_28)))
  (nu:K.lookup f_28=some ⟨oc_28,od_28,.func (W.fnOf "_law_how" "_law_how" (defArgs zcs) (defBody zcs) (defScope zcs) .none kV_28 dc_28 pm_28 an_28 cd_28 ct_28),sl_28⟩)
  (nw:W.codeIn K cd_28 "_law_how" = true)
  (ny:W.keepIn K (.ref f_28)=true)
  (n4:W.nsIn K mainGlobals "_law_common" = some (some (.ref f_29)))
  (n5:K.lookup f_29=some ⟨oc_29,od_29,.func (W.fnOf "_law_common" "_law_common" (defArgs zbl) (defBody zbl) (defScope zbl) .none kV_29 dc_29 pm_29 an_29 cd_29 ct_29),sl_29⟩)
  (n6:W.codeIn K cd_29 "_law_common" = true)
  (n8:W.keepIn K (.ref f_29)=true)
  (og:W.nsIn K mainGlobals "_law_made" = some (some (.ref f_30)))
  (oh:K.lookup f_30=some ⟨oc_30,od_30,.func (W.fnOf "_law_made" "_law_made" (defArgs zcd) (defBody zcd) (defScope zcd) .none kV_30 dc_30 pm_30 an_30 cd_30 ct_30),sl_30⟩)
  (oj:W.codeIn K cd_30 "_law_made" = true)
  (om:W.keepIn K (.ref f_30)=true)
  (ot:W.nsIn K mainGlobals "_law_some" = some (some (.ref f_31)))
  (ou:K.lookup f_31=some ⟨oc_31,od_31,.func (W.fnOf "_law_some" "_law_some" (defArgs zce) (defBody zce) (defScope zce) .none kV_31 dc_31 pm_31 an_31 cd_31 ct_31),sl_31⟩)
  (ow:W.codeIn K cd_31 "_law_some" = true)
  (ox:W.keepIn K (.ref f_31)=true)
  (oy:W.nsIn K mainGlobals "_law_term" = some (some (.ref f_32)))
  (oz:K.lookup f_32=some ⟨oc_32,od_32,.func (W.fnOf "_law_term" "_law_term" (defArgs zcf) (defBody zcf) (defScope zcf) .none kV_32 dc_32 pm_32 an_32 cd_32 ct_32),sl_32⟩)
  (o0:W.codeIn K cd_32 "_law_term" = true)
  (o2:W.keepIn K (.ref f_32)=true)
  (o3:W.nsIn K mainGlobals "_law_rank" = some (some (.ref f_33)))
  (o4:K.lookup f_33=some ⟨oc_33,od_33,.func (W.fnOf "_law_rank" "_law_rank" (defArgs zca) (defBody zca) (defScope zca) .none kV_33 dc_33 pm_33 an_33 cd_33 ct_33),sl_33⟩)
  (o5:W.codeIn K cd_33 "_law_rank" = true)
  (o6:W.keepIn K (.ref f_33)=true)
  (o7:W.nsIn K mainGlobals "_law_goes" = some (some (.ref f_34)))
  (o8:K.lookup f_34=some ⟨oc_34,od_34,.func (W.fnOf "_law_goes" "_law_goes" (defArgs zcg) (defBody zcg) (defScope zcg) .none kV_34 dc_34 pm_34 an_34 cd_34 ct_34),sl_34⟩)
  (o9:W.codeIn K cd_34 "_law_goes" = true)
  (pd:W.keepIn K (.ref f_34)=true)
  (ph:W.nsIn K mainGlobals "_law_meet" = some (some (.ref f_35)))
  (pi:K.lookup f_35=some ⟨oc_35,od_35,.func (W.fnOf "_law_meet" "_law_meet" (defArgs zcc) (defBody zcc) (defScope zcc) .none kV_35 dc_35 pm_35 an_35 cd_35 ct_35),sl_35⟩)
  (pq:W.codeIn K cd_35 "_law_meet" = true)
  (p6:W.keepIn K (.ref f_35)=true)
  (p7:W.nsIn K mainGlobals "_law_ring" = some (some (.ref f_36)))
  (p9:K.lookup f_36=some ⟨oc_36,od_36,.func (W.fnOf "_law_ring" "_law_ring" (defArgs zci) (defBody zci) (defScope zci) .none kV_36 dc_36 pm_36 an_36 cd_36 ct_36),sl_36⟩)
  (qc:W.codeIn K cd_36 "_law_ring" = true)
  (qd:W.keepIn K (.ref f_36)=true)
  (qe:W.nsIn K mainGlobals "_law_spot" = some (some (.ref f_37)))
  (qh:K.lookup f_37=some ⟨oc_37,od_37,.func (W.fnOf "_law_spot" "_law_spot" (defArgs zb9) (defBody zb9) (defScope zb9) .none kV_37 dc_37 pm_37 an_37 cd_37 ct_37),sl_37⟩)
  (qi:W.codeIn K cd_37 "_law_spot" = true)
  (qj:W.keepIn K (.ref f_37)=true)
  (qk:W.nsIn K mainGlobals "_law_passed" = some (some (.ref f_38)))
  (ql:K.lookup f_38=some ⟨oc_38,od_38,.func (W.fnOf "_law_passed" "_law_passed" (defArgs zbn) (defBody zbn) (defScope zbn) .none kV_38 dc_38 pm_38 an_38 cd_38 ct_38),sl_38⟩)
  (qm:W.codeIn K cd_38 "_law_passed" = true)
  (qo:W.keepIn K (.ref f_38)=true)
  (qp:W.nsIn K mainGlobals "_law_due" = some (some (.ref f_39)))
  (qr:K.lookup f_39=some ⟨oc_39,od_39,.func (W.fnOf "_law_due" "_law_due" (defArgs zcv) (defBody zcv) (defScope zcv) .none kV_39 dc_39 pm_39 an_39 cd_39 ct_39),sl_39⟩)
  (qt:W.codeIn K cd_39 "_law_due" = true)
  (qu:W.keepIn K (.ref f_39)=true)
  (qv:W.nsIn K mainGlobals "_law_pair" = some (some (.ref f_40)))
  (qx:K.lookup f_40=some ⟨oc_40,od_40,.func (W.fnOf "_law_pair" "_law_pair" (defArgs zch) (defBody zch) (defScope zch) .none kV_40 dc_40 pm_40 an_40 cd_40 ct_40),sl_40⟩)
  (qy:W.codeIn K cd_40 "_law_pair" = true)
  (qz:W.keepIn K (.ref f_40)=true)
  (re:W.nsIn K mainGlobals "law" = some (some (.ref f_41)))
  (rf:K.lookup f_41=some ⟨oc_41,od_41,.func (W.fnOf "law" "law" (defArgs zgr) (defBody zgr) (defScope zgr) .none kV_41 dc_41 pm_41 an_41 cd_41 ct_41),sl_41⟩)
  (rh:W.codeIn K cd_41 "law" = true)
  (rn:W.keepIn K (.ref f_41)=true)
  (f8:W.nsIn K mainGlobals "NoLead" = some (some (.ref zck)))
  (dl:ExcBaseFacts B_NoLead nid_NoLead ini_NoLead bm_NoLead)
  (dm:W.excIn K zck bm_NoLead nid_NoLead=true)
  (dq:W.exmOne K (.ref zck) (.ref zck)=some true)
  (dw:W.nsIn K mainGlobals "NoOrder" = some (some (.ref zb7)))
  (cg:ExcBaseFacts B_NoOrder nid_NoOrder ini_NoOrder bm_NoOrder)
  (ci:W.excIn K zb7 bm_NoOrder nid_NoOrder=true)
  (cj:W.exmOne K (.ref zb7) (.ref zb7)=some true)
  (dy:W.nsIn K mainGlobals "NoPrime" = some (some (.ref zb8)))
  (ck:ExcBaseFacts B_NoPrime nid_NoPrime ini_NoPrime bm_NoPrime)
  (cm:W.excIn K zb8 bm_NoPrime nid_NoPrime=true)
  (cn:W.exmOne K (.ref zb8) (.ref zb8)=some true)
  (f9:W.nsIn K mainGlobals "NoRing" = some (some (.ref zcl)))
  (dz:ExcBaseFacts B_NoRing nid_NoRing ini_NoRing bm_NoRing)
  (d0:W.excIn K zcl bm_NoRing nid_NoRing=true)
  (d3:W.exmOne K (.ref zcl) (.ref zcl)=some true)
  (gd:W.nsIn K mainGlobals "NoTerm" = some (some (.ref zau)))
  (d4:ExcBaseFacts B_NoTerm nid_NoTerm ini_NoTerm bm_NoTerm)
  (d5:W.excIn K zau bm_NoTerm nid_NoTerm=true)
  (d6:W.exmOne K (.ref zau) (.ref zau)=some true)
  (ig:W.kitOne K (.type "int") (.type "int")=some true)
  (ii:W.kitOne K (.type "int") (.type "bool")=some false)
  (ij:W.kitOne K (.type "tuple") (.type "tuple")=some true)
  (ik:W.kitOne K (.type "list") (.type "list")=some true)
  (il:W.nsIn K mainGlobals "abs" = some none)
  (im:W.nsIn K mainGlobals "all" = some none)
  (io:W.nsIn K mainGlobals "any" = some none)
  (gy:W.nsIn K mainGlobals "bool" = some none)
  (gz:W.nsIn K mainGlobals "dict" = some none)
  (bn:W.nsIn K mainGlobals "enumerate" = some none)
  (ip:W.nsIn K mainGlobals "int" = some none)
  (az:W.nsIn K mainGlobals "isinstance" = some none)
  (ir:W.nsIn K mainGlobals "len" = some none)
  (h7:W.nsIn K mainGlobals "list" = some none)
  (iu:W.nsIn K mainGlobals "max" = some none)
  (iw:W.nsIn K mainGlobals "min" = some none)
  (gv:W.nsIn K mainGlobals "range" = some none)
  (cq:W.nsIn K mainGlobals "reversed" = some none)
  (gf:W.nsIn K mainGlobals "sorted" = some none)
  (ix:W.nsIn K mainGlobals "sum" = some none)
  (gw:W.nsIn K mainGlobals "tuple" = some none)
  (iy:W.nsIn K mainGlobals "zip" = some none)
  (ae:W.nsIn K mainGlobals "GREATEST_PRIME" = some (some (.int 9973 tg_GREATEST_PRIME)))
  (d7:W.nsIn K mainGlobals "LETTERS" = some (some (.str "xyzt" tg_LETTERS)))
  {cc Pt:Addr} (rp:cd_22 = .ref cc) (uz:W.codeHdIn K cc Pt=true) (u0:K.lookup Pt=none)
  : ∃(cc:Addr) (fd:FuncData),W.codeHdIn K cc Pt=true/\K.lookup Pt=none/\(∀(s:Shared) (v:Value),BindsTo s fd ⟨[v],[]⟩ [("_law_script",v)])/\∀base:Heap,K.In base->base.Ns mainGlobals mg->base.BuiltinsAt mg Pt->FnOk l.prog w K mg base CX0 14 fa fd ["_law_script"] (spLaw K Pt):=by
 have e:=hfa.symm.trans (W.mg_of X G re)
 cases e
 have T:Txt K mg zan zad zam zag zac zah zab:=⟨W.mg_none_of X G il,W.mg_none_of X G im,W.mg_none_of X G io,W.mg_none_of X G gy,W.mg_none_of X G gz,W.mg_none_of X G bn,W.mg_none_of X G ip,W.mg_none_of X G az,W.mg_none_of X G ir,W.mg_none_of X G h7,W.mg_none_of X G iu,W.mg_none_of X G iw,W.mg_none_of X G gv,W.mg_none_of X G cq,W.mg_none_of X G gf,W.mg_none_of X G ix,W.mg_none_of X G gw,W.mg_none_of X G iy,⟨gh,gk,gl,gm⟩,W.mg_of X G gx,am,ah,ak,⟨ao,ar,au,aw⟩,W.mg_of X G a7,aa,⟨d8,d9,ej,fc⟩,W.mg_of X G gs,af,⟨fh,fi,fj,fk⟩,W.mg_of X G gt,⟨fm,fq,ft⟩,⟨bo,bp,bq,br⟩,W.mg_of X G cr,⟨bu,bv,bw⟩,⟨fu,fv,fw,fx⟩,W.mg_of X G gu,⟨fy,f6,f7⟩,⟨bz,b7,b8,b9⟩,W.mg_of X G cu,ad,⟨_,W.mg_of X G ae⟩,⟨_,W.mg_of X G d7⟩,ig,ii,ij,ik⟩
 have F_0:=zar (st:=zcb) r6 r8
 have b_0:=F_0.binds (ps:=["one","other"]) λ_ _ _ _ _ _ us hl=>match us,hl with | [_,_],_=>rfl
 have F_1:=zar (st:=zdp) sf sg
 have b_1:=F_1.binds (ps:=["term"]) λ_ _ _ _ _ _ us hl=>match us,hl with | [_],_=>rfl
 have F_2:=zar (st:=zb2) sk sr
 have b_2:=F_2.binds (ps:=["self","term"]) λ_ _ _ _ _ _ us hl=>match us,hl with | [_,_],_=>rfl
 have F_3:=zar (st:=zbg) sw sx
 have b_3:=F_3.binds (ps:=["self","term"]) λ_ _ _ _ _ _ us hl=>match us,hl with | [_,_],_=>rfl
 have F_4:=zar (st:=zby) tz t6
 have b_4:=F_4.binds (ps:=["self","term"]) λ_ _ _ _ _ _ us hl=>match us,hl with | [_,_],_=>rfl
 have F_5:=zar (st:=za1) t9 ua
 have b_5:=F_5.binds (ps:=["self","weights"]) λ_ _ _ _ _ _ us hl=>match us,hl with | [_,_],_=>rfl
 have F_6:=zar (st:=zbh) ue uf
 have b_6:=F_6.binds (ps:=["self","term"]) λ_ _ _ _ _ _ us hl=>match us,hl with | [_,_],_=>rfl
 have F_7:=zar (st:=zb0) ui uj
 have b_7:=F_7.binds (ps:=["self","many"]) λ_ _ _ _ _ _ us hl=>match us,hl with | [_,_],_=>rfl
 have F_8:=zar (st:=zbf) uq ur
 have b_8:=F_8.binds (ps:=["self","many"]) λ_ _ _ _ _ _ us hl=>match us,hl with | [_,_],_=>rfl
 have F_9:=zar (st:=za4) uv uw
 have b_9:=F_9.binds (ps:=["self","terms"]) λ_ _ _ _ _ _ us hl=>match us,hl with | [_,_],_=>rfl
 have F_10:=zar (st:=zbb) jc jd
 have b_10:=F_10.binds (ps:=["self","many","field","order"]) λ_ _ _ _ _ _ us hl=>match us,hl with | [_,_,_,_],_=>rfl
 have F_11:=zar (st:=zct) jg jh
 have b_11:=F_11.binds (ps:=["number"]) λ_ _ _ _ _ _ us hl=>match us,hl with | [_],_=>rfl
 have F_12:=zar (st:=za5) jl jm
 have b_12:=F_12.binds (ps:=["self","prime"]) λ_ _ _ _ _ _ us hl=>match us,hl with | [_,_],_=>rfl
 have F_13:=zar (st:=zay) jq jr
 have b_13:=F_13.binds (ps:=["self"]) λ_ _ _ _ _ _ us hl=>match us,hl with | [_],_=>rfl
 have F_14:=zar (st:=za6) ju jv
 have b_14:=F_14.binds (ps:=["self","prime"]) λ_ _ _ _ _ _ us hl=>match us,hl with | [_,_],_=>rfl
 have F_15:=zar (st:=zb1) jy j0
 have b_15:=F_15.binds (ps:=["ring","f"]) λ_ _ _ _ _ _ us hl=>match us,hl with | [_,_],_=>rfl
 have F_16:=zar (st:=zc9) j5 j6
 have b_16:=F_16.binds (ps:=["one","other"]) λ_ _ _ _ _ _ us hl=>match us,hl with | [_,_],_=>rfl
 have F_17:=zar (st:=zbm) j9 kc
 have b_17:=F_17.binds (ps:=["one","other"]) λ_ _ _ _ _ _ us hl=>match us,hl with | [_,_],_=>rfl
 have F_18:=zar (st:=za7) ki kj
 have b_18:=F_18.binds (ps:=["ring","row"]) λ_ _ _ _ _ _ us hl=>match us,hl with | [_,_],_=>rfl
 have F_19:=zar (st:=zcr) ko kr
 have b_19:=F_19.binds (ps:=["ring","leads"]) λ_ _ _ _ _ _ us hl=>match us,hl with | [_,_],_=>rfl
 have F_20:=zar (st:=zc3) kz k6
 have b_20:=F_20.binds (ps:=["leads","turns","pair","k"]) λ_ _ _ _ _ _ us hl=>match us,hl with | [_,_,_,_],_=>rfl
 have F_21:=zar (st:=zdo) lr ls
 have b_21:=F_21.binds (ps:=["leads","turns","pair"]) λ_ _ _ _ _ _ us hl=>match us,hl with | [_,_,_],_=>rfl
 have F_22:=zar (st:=zeg) l4 l6
 have b_22:=F_22.binds (ps:=["ring","row"]) λ_ _ _ _ _ _ us hl=>match us,hl with | [_,_],_=>rfl
 have F_23:=zar (st:=zcj) l9 ma
 have b_23:=F_23.binds (ps:=["_law_script","_law_k"]) λ_ _ _ _ _ _ us hl=>match us,hl with | [_,_],_=>rfl
 have F_24:=zar (st:=zbx) mh mi
 have b_24:=F_24.binds (ps:=["_law_found"]) λ_ _ _ _ _ _ us hl=>match us,hl with | [_],_=>rfl
 have F_25:=zar (st:=zb4) mv mw
 have b_25:=F_25.binds (ps:=["_law_cell_here"]) λ_ _ _ _ _ _ us hl=>match us,hl with | [_],_=>rfl
 have F_26:=zar (st:=zbw) m3 m5
 have b_26:=F_26.binds (ps:=["_law_cell_here"]) λ_ _ _ _ _ _ us hl=>match us,hl with | [_],_=>rfl
 have F_27:=zar (st:=zbe) m8 m9
 have b_27:=F_27.binds (ps:=["_law_many","_law_cell_here"]) λ_ _ _ _ _ _ us hl=>match us,hl with | [_,_],_=>rfl
 have F_28:=zar (st:=zcs) nu nw
 have b_28:=F_28.binds (ps:=["_law_script","_law_most"]) λ_ _ _ _ _ _ us hl=>match us,hl with | [_,_],_=>rfl
 have F_29:=zar (st:=zbl) n5 n6
 have b_29:=F_29.binds (ps:=["_law_one","_law_other"]) λ_ _ _ _ _ _ us hl=>match us,hl with | [_,_],_=>rfl
 have F_30:=zar (st:=zcd) oh oj
 have b_30:=F_30.binds (ps:=["_law_p","_law_top","_law_bottom"]) λ_ _ _ _ _ _ us hl=>match us,hl with | [_,_,_],_=>rfl
 have F_31:=zar (st:=zce) ou ow
 have b_31:=F_31.binds (ps:=["_law_p","_law_cell_here"]) λ_ _ _ _ _ _ us hl=>match us,hl with | [_,_],_=>rfl
 have F_32:=zar (st:=zcf) oz o0
 have b_32:=F_32.binds (ps:=["_law_many","_law_cell_here","_law_tops"]) λ_ _ _ _ _ _ us hl=>match us,hl with | [_,_,_],_=>rfl
 have F_33:=zar (st:=zca) o4 o5
 have b_33:=F_33.binds (ps:=["_law_how_here","_law_term_here"]) λ_ _ _ _ _ _ us hl=>match us,hl with | [_,_],_=>rfl
 have F_34:=zar (st:=zcg) o8 o9
 have b_34:=F_34.binds (ps:=["_law_one","_law_other"]) λ_ _ _ _ _ _ us hl=>match us,hl with | [_,_],_=>rfl
 have F_35:=zar (st:=zcc) pi pq
 have b_35:=F_35.binds (ps:=["_law_one","_law_other"]) λ_ _ _ _ _ _ us hl=>match us,hl with | [_,_],_=>rfl
 have F_36:=zar (st:=zci) p9 qc
 have b_36:=F_36.binds (ps:=["_law_how_here"]) λ_ _ _ _ _ _ us hl=>match us,hl with | [_],_=>rfl
 have F_37:=zar (st:=zb9) qh qi
 have b_37:=F_37.binds (ps:=["_law_how_here","_law_heads","_law_i","_law_j"]) λ_ _ _ _ _ _ us hl=>match us,hl with | [_,_,_,_],_=>rfl
 have F_38:=zar (st:=zbn) ql qm
 have b_38:=F_38.binds (ps:=["_law_how_here","_law_heads","_law_i","_law_j"]) λ_ _ _ _ _ _ us hl=>match us,hl with | [_,_,_,_],_=>rfl
 have F_39:=zar (st:=zcv) qr qt
 have b_39:=F_39.binds (ps:=["_law_how_here","_law_heads"]) λ_ _ _ _ _ _ us hl=>match us,hl with | [_,_],_=>rfl
 have F_40:=zar (st:=zch) qx qy
 have b_40:=F_40.binds (ps:=["_law_found"]) λ_ _ _ _ _ _ us hl=>match us,hl with | [_],_=>rfl
 have F_41:=zar (st:=zgr) rf rh
 have b_41:=F_41.binds (ps:=["_law_script"]) λ_ _ _ _ _ _ us hl=>match us,hl with | [_],_=>rfl
 refine⟨cc,W.fnOf "law" "law" (defArgs zgr) (defBody zgr) (defScope zgr) .none kV_41 dc_41 pm_41 an_41 cd_41 ct_41,uz,u0,λs v => .of_eq rfl,λbase kb nb hBd => ?_⟩
 have hcc:codeOfF K f_22=some cc:=by unfold codeOfF;rw[l4,rp]
 have x_NoLead:Exc K mg base "NoLead" zck:=⟨⟨_,_,_,_,zgw kb nb f8 dm,dl⟩,W.mg_of X G f8,dq⟩
 have x_NoOrder:Exc K mg base "NoOrder" zb7:=⟨⟨_,_,_,_,zgw kb nb dw ci,cg⟩,W.mg_of X G dw,cj⟩
 have x_NoPrime:Exc K mg base "NoPrime" zb8:=⟨⟨_,_,_,_,zgw kb nb dy cm,ck⟩,W.mg_of X G dy,cn⟩
 have x_NoRing:Exc K mg base "NoRing" zcl:=⟨⟨_,_,_,_,zgw kb nb f9 d0,dz⟩,W.mg_of X G f9,d3⟩
 have x_NoTerm:Exc K mg base "NoTerm" zau:=⟨⟨_,_,_,_,zgw kb nb gd d5,d4⟩,W.mg_of X G gd,d6⟩
 have G_Goes:=zou (P:=l.prog) (w:=w) (base:=base) F_0 T 
 have c_Goes:Cal _ _ _ _ _ _ _ _ _ _ _:=⟨_,_,G_Goes,b_0,r9,W.mg_of X G rz⟩
 have G_Deg:=zqd (P:=l.prog) (w:=w) (base:=base) F_1 T 
 have c_Deg:Cal _ _ _ _ _ _ _ _ _ _ _:=⟨_,_,G_Deg,b_1,sh,W.mg_of X G se⟩
 have m_Rank_Order:MCal l.prog w K mg base CX0 3 zag "rank" ["self","term"] [] (spRank (AtO zag) rkL):=⟨⟨_,_,(zm4 (P:=l.prog) (w:=w) (base:=base) F_2 T ).mono (by decide),b_2,⟨cw,sj,su⟩⟩,T.cl_Order⟩
 have bm_Order:BM K zag "rank":=⟨⟨_,cw,⟨iz,i3,by decide⟩⟩⟩
 have m_Rank_Degrees:MCal l.prog w K mg base CX0 3 zac "rank" ["self","term"] [] (spRank (AtO zac) rkD):=⟨⟨_,_,(zno (P:=l.prog) (w:=w) (base:=base) F_3 T c_Deg).mono (by decide),b_3,⟨a8,sv,sy⟩⟩,T.cl_Degrees⟩
 have bm_Degrees:BM K zac "rank":=⟨⟨_,a8,⟨i5,i6,by decide⟩⟩⟩
 have m_Rank_Tails:MCal l.prog w K mg base CX0 3 zah "rank" ["self","term"] [] (spRank (AtO zah) rkT):=⟨⟨_,_,(zns (P:=l.prog) (w:=w) (base:=base) F_4 T c_Deg).mono (by decide),b_4,⟨cz,tw,t7⟩⟩,T.cl_Tails⟩
 have bm_Tails:BM K zah "rank":=⟨⟨_,cz,⟨i7,i8,by decide⟩⟩⟩
 have G_WInit:=zmi (P:=l.prog) (w:=w) (base:=base) F_5 T x_NoOrder 
 have k_WInit:Mak _ _ _ _ _ _ _ _ _ _ _ _:=⟨⟨_,_,G_WInit,b_5,⟨ca,a9,t8,cb⟩⟩,T.mg_Weights⟩
 have m_Rank_Weights:∀ws:List Int,Nn ws->(∀x∈ws,x < 10 ^ 31)->MCal l.prog w K mg base CX0 3 zab "rank" ["self","term"] [] (spRank (AtW zab ws) (rkW ws)):=λws h1 h2=>⟨⟨_,_,(zne (P:=l.prog) (w:=w) (base:=base) F_6 T h1 h2).mono (by decide),b_6,⟨ba,ud,ug⟩⟩,T.cl_Weights⟩
 have bm_Weights:BM K zab "rank":=⟨⟨_,ba,⟨i9,ja,by decide⟩⟩⟩
 have fit_Order:MCal l.prog w K mg base CX0 1 zag "fits" ["self","many"] [] (spFits (AtO zag) λ_=>true):=⟨⟨_,_,zgc (P:=l.prog) (w:=w) (base:=base) (At:=AtO zag) F_7 T,b_7,⟨dc,uh,ul⟩⟩,T.cl_Order⟩
 have fit_Degrees:MCal l.prog w K mg base CX0 1 zac "fits" ["self","many"] [] (spFits (AtO zac) λ_=>true):=⟨⟨_,_,zgc (P:=l.prog) (w:=w) (base:=base) (At:=AtO zac) F_7 T,b_7,⟨bf,uh,ul⟩⟩,T.cl_Degrees⟩
 have fit_Tails:MCal l.prog w K mg base CX0 1 zah "fits" ["self","many"] [] (spFits (AtO zah) λ_=>true):=⟨⟨_,_,zgc (P:=l.prog) (w:=w) (base:=base) (At:=AtO zah) F_7 T,b_7,⟨de,uh,ul⟩⟩,T.cl_Tails⟩
 have fit_Weights:∀ws:List Int,MCal l.prog w K mg base CX0 1 zab "fits" ["self","many"] [] (spFits (AtW zab ws) λk=>decide ((ws.length:Int)=k)):=λws=>⟨⟨_,_,znv (P:=l.prog) (w:=w) (base:=base) (ws:=ws) F_8 T,b_8,⟨bh,um,ut⟩⟩,T.cl_Weights⟩
 have first_Order:MCal l.prog w K mg base (CXe l.prog w) 6 zag "first_of" ["self","terms"] [] (spFirst (AtO zag) rkL zau):=⟨⟨_,_,zeu (P:=l.prog) (w:=w) (base:=base) F_9 T x_NoTerm (ordcO _) m_Rank_Order bm_Order,b_9,⟨df,uu,ux⟩⟩,T.cl_Order⟩
 have first_Degrees:MCal l.prog w K mg base (CXe l.prog w) 6 zac "first_of" ["self","terms"] [] (spFirst (AtO zac) rkD zau):=⟨⟨_,_,zeu (P:=l.prog) (w:=w) (base:=base) F_9 T x_NoTerm (ordcO _) m_Rank_Degrees bm_Degrees,b_9,⟨bi,uu,ux⟩⟩,T.cl_Degrees⟩
 have first_Tails:MCal l.prog w K mg base (CXe l.prog w) 6 zah "first_of" ["self","terms"] [] (spFirst (AtO zah) rkT zau):=⟨⟨_,_,zeu (P:=l.prog) (w:=w) (base:=base) F_9 T x_NoTerm (ordcO _) m_Rank_Tails bm_Tails,b_9,⟨dj,uu,ux⟩⟩,T.cl_Tails⟩
 have first_Weights:∀ws:List Int,Nn ws->(∀x∈ws,x < 10 ^ 31)->MCal l.prog w K mg base (CXe l.prog w) 6 zab "first_of" ["self","terms"] [] (spFirst (AtW zab ws) (rkW ws) zau):=λws h1 h2=>⟨⟨_,_,zeu (P:=l.prog) (w:=w) (base:=base) F_9 T x_NoTerm (ordcW _ _) (m_Rank_Weights ws h1 h2) bm_Weights,b_9,⟨bj,uu,ux⟩⟩,T.cl_Weights⟩
 have hord:∀(kd:Int) (ws:List Int),0<=kd->kd < 4->Nn ws->(∀x∈ws,x < 10 ^ 31)->∃C,OrdE l.prog w K mg base zau C (AtK zag zac zah zab kd ws) (rkk kd ws) (fbK kd ws):=by
  intro kd ws k0 k4 wn wb
  rcases(by omega:kd=0\/kd=1\/kd=2\/kd=3) with rfl | rfl | rfl | rfl
  ·rw[show rkk 0 ws=rkL from funext λxs=>by unfold rkk;simp,show fbK 0 ws=λ_=>true from funext λm=>by unfold fbK;simp]
   show ∃C,OrdE l.prog w K mg base zau C (AtO zag) rkL _
   exact⟨zag,ordcO _,fit_Order,m_Rank_Order,first_Order⟩
  ·rw[show rkk 1 ws=rkD from funext λxs=>by unfold rkk;simp,show fbK 1 ws=λ_=>true from funext λm=>by unfold fbK;simp]
   show ∃C,OrdE l.prog w K mg base zau C (AtO zac) rkD _
   exact⟨zac,ordcO _,fit_Degrees,m_Rank_Degrees,first_Degrees⟩
  ·rw[show rkk 2 ws=rkT from funext λxs=>by unfold rkk;simp,show fbK 2 ws=λ_=>true from funext λm=>by unfold fbK;simp]
   show ∃C,OrdE l.prog w K mg base zau C (AtO zah) rkT _
   exact⟨zah,ordcO _,fit_Tails,m_Rank_Tails,first_Tails⟩
  ·rw[show rkk 3 ws=rkW ws from funext λxs=>by unfold rkk;simp,show fbK 3 ws=λm=>decide ((ws.length:Int)=m) from funext λm=>by unfold fbK;simp]
   show ∃C,OrdE l.prog w K mg base zau C (AtW zab ws) (rkW ws) _
   exact⟨zab,ordcW _ _,fit_Weights ws,m_Rank_Weights ws wn wb,first_Weights ws wn wb⟩
 have G_RgInit:=zmc (P:=l.prog) (w:=w) (base:=base) F_10 T x_NoRing hord
 have k_RgInit:Mak _ _ _ _ _ _ _ _ _ _ _ _:=⟨⟨_,_,G_RgInit,b_10,⟨gp,dk,jb,gr⟩⟩,T.mg_Ring⟩
 have G_Prime:=zn4 (P:=l.prog) (w:=w) (base:=base) F_11 T 
 have c_Prime:Cal _ _ _ _ _ _ _ _ _ _ _:=⟨_,_,G_Prime,b_11,ji,W.mg_of X G jf⟩
 have G_FieldInit:=zg4 (P:=l.prog) (w:=w) (base:=base) F_12 T 
 have q_FieldInit:CCal _ _ _ _ _ _ _ _ _ _ _ _:=⟨_,_,_,G_FieldInit,b_12,⟨⟨_,h9,ic⟩,ie,jn⟩,W.mg_of X G h8⟩
 have G_FracInit:=zia (P:=l.prog) (w:=w) (base:=base) F_13 T q_FieldInit 
 have k_FracInit:Mak _ _ _ _ _ _ _ _ _ _ _ _:=⟨⟨_,_,G_FracInit,b_13,⟨ax,ag,jo,ay⟩⟩,T.mg_Fractions⟩
 have G_RestsInit:=zhk (P:=l.prog) (w:=w) (base:=base) F_14 T c_Prime q_FieldInit x_NoPrime 
 have k_RestsInit:Mak _ _ _ _ _ _ _ _ _ _ _ _:=⟨⟨_,_,G_RestsInit,b_14,⟨fe,ce,jt,fg⟩⟩,T.mg_Rests⟩
 have G_FT:=zrf (P:=l.prog) (w:=w) (base:=base) F_15 T x_NoLead hord
 have c_FT:Cal _ _ _ _ _ _ _ _ _ _ _:=⟨_,_,G_FT,b_15,j3,W.mg_of X G jx⟩
 have G_Meet:=zph (P:=l.prog) (w:=w) (base:=base) F_16 T 
 have c_Meet:Cal _ _ _ _ _ _ _ _ _ _ _:=⟨_,_,G_Meet,b_16,j7,W.mg_of X G j4⟩
 have G_Apart:=znr (P:=l.prog) (w:=w) (base:=base) F_17 T 
 have c_Apart:Cal _ _ _ _ _ _ _ _ _ _ _:=⟨_,_,G_Apart,b_17,ke,W.mg_of X G j8⟩
 have G_LBP:=zq0 (P:=l.prog) (w:=w) (base:=base) F_18 T c_FT hord
 have c_LBP:Cal _ _ _ _ _ _ _ _ _ _ _:=⟨_,_,G_LBP,b_18,kl,W.mg_of X G kh⟩
 have G_Turns:=zmt (P:=l.prog) (w:=w) (base:=base) F_19 T c_Meet hord
 have c_Turns:Cal _ _ _ _ _ _ _ _ _ _ _:=⟨_,_,G_Turns,b_19,kt,W.mg_of X G km⟩
 have G_Lets:=zoq (P:=l.prog) (w:=w) (base:=base) F_20 T c_Meet c_Goes 
 have c_Lets:Cal _ _ _ _ _ _ _ _ _ _ _:=⟨_,_,G_Lets,b_20,k7,W.mg_of X G ku⟩
 have G_Due1:=zpp (P:=l.prog) (w:=w) (base:=base) F_21 T c_Apart c_Lets 
 have c_Due1:Cal _ _ _ _ _ _ _ _ _ _ _:=⟨_,_,G_Due1,b_21,lv,W.mg_of X G ln⟩
 have G_Pairs:=zmj (P:=l.prog) (w:=w) (base:=base) F_22 T c_LBP c_Turns c_Due1 hcc (W.codeHd_of_K kb uz) hBd
 have cPairs:Cal _ _ _ _ _ _ _ _ _ _ _:=⟨_,_,G_Pairs,b_22,l7,W.mg_of X G l3⟩
 have G_Cell:=zoo (P:=l.prog) (w:=w) (base:=base) F_23 T 
 have c_Cell:Cal _ _ _ _ _ _ _ _ _ _ _:=⟨_,_,G_Cell,b_23,md,W.mg_of X G l8⟩
 have G_Whole:=znz (P:=l.prog) (w:=w) (base:=base) F_24 T 
 have c_Whole:Cal _ _ _ _ _ _ _ _ _ _ _:=⟨_,_,G_Whole,b_24,mj,W.mg_of X G mf⟩
 have G_LPr:=zqu (P:=l.prog) (w:=w) (base:=base) F_25 T 
 have c_LPr:Cal _ _ _ _ _ _ _ _ _ _ _:=⟨_,_,G_LPr,b_25,my,W.mg_of X G ml⟩
 have G_LRs:=zqw (P:=l.prog) (w:=w) (base:=base) F_26 T c_LPr 
 have c_LRs:Cal _ _ _ _ _ _ _ _ _ _ _:=⟨_,_,G_LRs,b_26,m6,W.mg_of X G mz⟩
 have G_LWs:=zqh (P:=l.prog) (w:=w) (base:=base) F_27 T 
 have c_LWs:Cal _ _ _ _ _ _ _ _ _ _ _:=⟨_,_,G_LWs,b_27,ni,W.mg_of X G m7⟩
 have G_How:=zp7 (P:=l.prog) (w:=w) (base:=base) F_28 T c_Cell c_LRs c_LWs 
 have c_How:Cal _ _ _ _ _ _ _ _ _ _ _:=⟨_,_,G_How,b_28,ny,W.mg_of X G nj⟩
 have G_Com:=zqn (P:=l.prog) (w:=w) (base:=base) F_29 T 
 have c_Com:Cal _ _ _ _ _ _ _ _ _ _ _:=⟨_,_,G_Com,b_29,n8,W.mg_of X G n4⟩
 have G_Md:=zrc (P:=l.prog) (w:=w) (base:=base) F_30 T c_Com 
 have c_Md:Cal _ _ _ _ _ _ _ _ _ _ _:=⟨_,_,G_Md,b_30,om,W.mg_of X G og⟩
 have G_Sm:=zrd (P:=l.prog) (w:=w) (base:=base) F_31 T c_Md 
 have c_Sm:Cal _ _ _ _ _ _ _ _ _ _ _:=⟨_,_,G_Sm,b_31,ox,W.mg_of X G ot⟩
 have G_Trm:=zpz (P:=l.prog) (w:=w) (base:=base) F_32 T 
 have c_Trm:Cal _ _ _ _ _ _ _ _ _ _ _:=⟨_,_,G_Trm,b_32,o2,W.mg_of X G oy⟩
 have G_LRk:=zq6 (P:=l.prog) (w:=w) (base:=base) F_33 T 
 have c_LRk:Cal _ _ _ _ _ _ _ _ _ _ _:=⟨_,_,G_LRk,b_33,o6,W.mg_of X G o3⟩
 have G_LGo:=zqi (P:=l.prog) (w:=w) (base:=base) F_34 T 
 have c_LGo:Cal _ _ _ _ _ _ _ _ _ _ _:=⟨_,_,G_LGo,b_34,pd,W.mg_of X G o7⟩
 have G_LMt:=zp6 (P:=l.prog) (w:=w) (base:=base) F_35 T 
 have c_LMt:Cal _ _ _ _ _ _ _ _ _ _ _:=⟨_,_,G_LMt,b_35,p6,W.mg_of X G ph⟩
 have G_LRg:=zp2 (P:=l.prog) (w:=w) (base:=base) F_36 T k_FracInit k_RestsInit k_WInit k_RgInit hord
 have c_LRg:Cal _ _ _ _ _ _ _ _ _ _ _:=⟨_,_,G_LRg,b_36,qd,W.mg_of X G p7⟩
 have G_Spot:=zpv (P:=l.prog) (w:=w) (base:=base) F_37 T c_LMt c_LRk 
 have c_Spot:Cal _ _ _ _ _ _ _ _ _ _ _:=⟨_,_,G_Spot,b_37,qj,W.mg_of X G qe⟩
 have G_Pass:=zo9 (P:=l.prog) (w:=w) (base:=base) F_38 T c_LMt c_Spot c_LGo 
 have c_Pass:Cal _ _ _ _ _ _ _ _ _ _ _:=⟨_,_,G_Pass,b_38,qo,W.mg_of X G qk⟩
 have G_Due:=zp8 (P:=l.prog) (w:=w) (base:=base) F_39 T c_Pass c_Spot 
 have c_Due:Cal _ _ _ _ _ _ _ _ _ _ _:=⟨_,_,G_Due,b_39,qu,W.mg_of X G qp⟩
 have G_Pr:=zrb (P:=l.prog) (w:=w) (base:=base) F_40 T c_Whole 
 have c_Pr:Cal _ _ _ _ _ _ _ _ _ _ _:=⟨_,_,G_Pr,b_40,qz,W.mg_of X G qv⟩
 exact zp5 (P:=l.prog) (w:=w) (base:=base) F_41 T c_How c_Trm c_Sm c_LRk c_LRg c_Pr c_Due hord cPairs
theorem walk{l:W.OpenLaw}{q:Program}{loose:List Str}{XP:(Str->Option Value)->Heap->Prop}{YP:World->Heap->Prop}{d:DefRec}{K:Params->W.Frag}(hn:l.most=some 63)(hdf:d.params.defaults=[])
  (hY:∀(w:World) (h:Heap),YP w h->(K w.params).In h) (Pt:Addr) (hT:∀(w:World) (h:Heap),YP w h->h.get? Pt=some (W.tabObj #[]))
  (F:∀(w:World) (mg:Str->Option Value) (fa:Addr) (h:Heap),(K w.params).In h->h.Ns mainGlobals mg->mg d.name=some (.ref fa) ->
   ∃(cc:Addr) (fd:FuncData),W.codeHdIn (K w.params) cc Pt=true/\(K w.params).lookup Pt=none/\(∀(s:Shared) (u:Value),BindsTo s fd ⟨[u],[]⟩ [("_law_script",u)])/\∀base:Heap,(K w.params).In base->base.Ns mainGlobals mg->base.BuiltinsAt mg Pt->FnOk l.prog w (K w.params) mg base CX0 14 fa fd ["_law_script"] (spLaw (K w.params) Pt)) :
  W.WalkO q loose XP YP l.row.toRowW d [] (λf vs=>PySem.call f vs):=
 L2.walk_ofT (n:=63) (k:=14) (x:="_law_script") (CX:=λ_=>CX0) (sp:=λw Pt=>spLaw (K w.params) Pt) hn (by decide) hdf ⟨rfl,by decide,by decide⟩ hY Pt hT F (λ_ _ a ns hl hO hS=>⟨a,ns,rfl,hS,hl,hO.2,λ_=>rfl⟩) λ_ _ _ _ _ z=>z
end K6
open PySem PySem.W PyProof.Rows
set_option maxRecDepth 100000 in
set_option maxHeartbeats 0 in
theorem PySem.Challenge.cw_idealroom_k20_pairs_looked_at_holds : PySem.Challenge.rw_idealroom_k20_pairs_looked_at.Holds := by
 w_on;o_law;k_head;(case hw=>w_witness2)
 k_fill
 refine K6.walk (l:=PySem.Challenge.rw_idealroom_k20_pairs_looked_at) rfl rfl (λw h Y=>W.km_in_of Y) _ (λw h Y=>W.km_tabs_of Y _ (List.Mem.head _)) ?F
 case F=>
  intro w mg fa h KX G hmg
  refine' K6.all_mk KX G hmg ?gx ?gh ?gk ?gl ?gm ?gp ?gr ?am ?ah ?ak ?a7 ?ao ?ar ?au ?aw ?ax ?ay ?aa ?gs ?d8 ?d9 ?ej ?fc ?fe ?fg ?af ?gt ?fh ?fi ?fj ?fk ?fm ?fq ?ft ?cr ?bo ?bp ?bq ?br ?bu ?bv ?bw ?gu ?fu ?fv ?fw ?fx ?fy ?f6 ?f7 ?cu ?bz ?b7 ?b8 ?b9 ?ca ?cb ?ad ?rz ?r6 ?r8 ?r9 ?se ?sf ?sg ?sh ?cw ?sj ?iz ?i3 ?sk ?sr ?su ?a8 ?sv ?i5 ?i6 ?sw ?sx ?sy ?cz ?tw ?i7 ?i8 ?tz ?t6 ?t7 ?a9 ?t8 ?t9 ?ua ?uc ?ba ?ud ?i9 ?ja ?ue ?uf ?ug ?bf ?dc ?de ?uh ?ui ?uj ?ul ?bh ?um ?uq ?ur ?ut ?bi ?df ?dj ?bj ?uu ?uv ?uw ?ux ?dk ?jb ?jc ?jd ?je ?jf ?jg ?jh ?ji ?h8 ?h9 ?ic ?ie ?jk ?jl ?jm ?jn ?ag ?jo ?jq ?jr ?js ?ce ?jt ?ju ?jv ?jw ?jx ?jy ?j0 ?j3 ?j4 ?j5 ?j6 ?j7 ?j8 ?j9 ?kc ?ke ?kh ?ki ?kj ?kl ?km ?ko ?kr ?kt ?ku ?kz ?k6 ?k7 ?ln ?lr ?ls ?lv ?l3 ?l4 ?l6 ?l7 ?l8 ?l9 ?ma ?md ?mf ?mh ?mi ?mj ?ml ?mv ?mw ?my ?mz ?m3 ?m5 ?m6 ?m7 ?m8 ?m9 ?ni ?nj ?nu ?nw ?ny ?n4 ?n5 ?n6 ?n8 ?og ?oh ?oj ?om ?ot ?ou ?ow ?ox ?oy ?oz ?o0 ?o2 ?o3 ?o4 ?o5 ?o6 ?o7 ?o8 ?o9 ?pd ?ph ?pi ?pq ?p6 ?p7 ?p9 ?qc ?qd ?qe ?qh ?qi ?qj ?qk ?ql ?qm ?qo ?qp ?qr ?qt ?qu ?qv ?qx ?qy ?qz ?re ?rf ?rh ?rn ?f8 ?dl ?dm ?dq ?dw ?cg ?ci ?cj ?dy ?ck ?cm ?cn ?f9 ?dz ?d0 ?d3 ?gd ?d4 ?d5 ?d6 ?ig ?ii ?ij ?ik ?il ?im ?io ?gy ?gz ?bn ?ip ?az ?ir ?h7 ?iu ?iw ?gv ?cq ?gf ?ix ?gw ?iy ?ae ?d7 ?rp ?uz ?u0
  (case gx=>k_is)
  (case gh=>k_is)
  (case gk=>k_is)
  (case gl=>k_is)
  (case gm=>k_is)
  (case gp=>k_is)
  (case gr=>k_is)
  (case am=>k_is)
  (case ah=>k_is)
  (case ak=>k_is)
  (case a7=>k_is)
  (case ao=>k_is)
  (case ar=>k_is)
  (case au=>k_is)
  (case aw=>k_is)
  (case ax=>k_is)
  (case ay=>k_is)
  (case aa=>k_is)
  (case gs=>k_is)
  (case d8=>k_is)
  (case d9=>k_is)
  (case ej=>k_is)
  (case fc=>k_is)
  (case fe=>k_is)
  (case fg=>k_is)
  (case af=>k_is)
  (case gt=>k_is)
  (case fh=>k_is)
  (case fi=>k_is)
  (case fj=>k_is)
  (case fk=>k_is)
  (case fm=>k_is)
  (case fq=>k_is)
  (case ft=>k_is)
  (case cr=>k_is)
  (case bo=>k_is)
  (case bp=>k_is)
  (case bq=>k_is)
  (case br=>k_is)
  (case bu=>k_is)
  (case bv=>k_is)
  (case bw=>k_is)
  (case gu=>k_is)
  (case fu=>k_is)
  (case fv=>k_is)
  (case fw=>k_is)
  (case fx=>k_is)
  (case fy=>k_is)
  (case f6=>k_is)
  (case f7=>k_is)
  (case cu=>k_is)
  (case bz=>k_is)
  (case b7=>k_is)
  (case b8=>k_is)
  (case b9=>k_is)
  (case ca=>k_is)
  (case cb=>k_is)
  (case ad=>k_is)
  (case rz=>k_is)
  (case r6=>k_is)
  (case r8=>k_is)
  (case r9=>k_is)
  (case se=>k_is)
  (case sf=>k_is)
  (case sg=>k_is)
  (case sh=>k_is)
  (case cw=>k_is)
  (case sj=>k_is)
  (case iz=>k_is)
  (case i3=>k_is)
  (case sk=>k_is)
  (case sr=>k_is)
  (case su=>k_is)
  (case a8=>k_is)
  (case sv=>k_is)
  (case i5=>k_is)
  (case i6=>k_is)
  (case sw=>k_is)
  (case sx=>k_is)
  (case sy=>k_is)
  (case cz=>k_is)
  (case tw=>k_is)
  (case i7=>k_is)
  (case i8=>k_is)
  (case tz=>k_is)
  (case t6=>k_is)
  (case t7=>k_is)
  (case a9=>k_is)
  (case t8=>k_is)
  (case t9=>k_is)
  (case ua=>k_is)
  (case uc=>k_is)
  (case ba=>k_is)
  (case ud=>k_is)
  (case i9=>k_is)
  (case ja=>k_is)
  (case ue=>k_is)
  (case uf=>k_is)
  (case ug=>k_is)
  (case bf=>k_is)
  (case dc=>k_is)
  (case de=>k_is)
  (case uh=>k_is)
  (case ui=>k_is)
  (case uj=>k_is)
  (case ul=>k_is)
  (case bh=>k_is)
  (case um=>k_is)
  (case uq=>k_is)
  (case ur=>k_is)
  (case ut=>k_is)
  (case bi=>k_is)
  (case df=>k_is)
  (case dj=>k_is)
  (case bj=>k_is)
  (case uu=>k_is)
  (case uv=>k_is)
  (case uw=>k_is)
  (case ux=>k_is)
  (case dk=>k_is)
  (case jb=>k_is)
  (case jc=>k_is)
  (case jd=>k_is)
  (case je=>k_is)
  (case jf=>k_is)
  (case jg=>k_is)
  (case jh=>k_is)
  (case ji=>k_is)
  (case h8=>k_is)
  (case h9=>k_is)
  (case ic=>k_is)
  (case ie=>k_is)
  (case jk=>k_is)
  (case jl=>k_is)
  (case jm=>k_is)
  (case jn=>k_is)
  (case ag=>k_is)
  (case jo=>k_is)
  (case jq=>k_is)
  (case jr=>k_is)
  (case js=>k_is)
  (case ce=>k_is)
  (case jt=>k_is)
  (case ju=>k_is)
  (case jv=>k_is)
  (case jw=>k_is)
  (case jx=>k_is)
  (case jy=>k_is)
  (case j0=>k_is)
  (case j3=>k_is)
  (case j4=>k_is)
  (case j5=>k_is)
  (case j6=>k_is)
  (case j7=>k_is)
  (case j8=>k_is)
  (case j9=>k_is)
  (case kc=>k_is)
  (case ke=>k_is)
  (case kh=>k_is)
  (case ki=>k_is)
  (case kj=>k_is)
  (case kl=>k_is)
  (case km=>k_is)
  (case ko=>k_is)
  (case kr=>k_is)
  (case kt=>k_is)
  (case ku=>k_is)
  (case kz=>k_is)
  (case k6=>k_is)
  (case k7=>k_is)
  (case ln=>k_is)
  (case lr=>k_is)
  (case ls=>k_is)
  (case lv=>k_is)
  (case l3=>k_is)
  (case l4=>k_is)
  (case l6=>k_is)
  (case l7=>k_is)
  (case l8=>k_is)
  (case l9=>k_is)
  (case ma=>k_is)
  (case md=>k_is)
  (case mf=>k_is)
  (case mh=>k_is)
  (case mi=>k_is)
  (case mj=>k_is)
  (case ml=>k_is)
  (case mv=>k_is)
  (case mw=>k_is)
  (case my=>k_is)
  (case mz=>k_is)
  (case m3=>k_is)
  (case m5=>k_is)
  (case m6=>k_is)
  (case m7=>k_is)
  (case m8=>k_is)
  (case m9=>k_is)
  (case ni=>k_is)
  (case nj=>k_is)
  (case nu=>k_is)
  (case nw=>k_is)
  (case ny=>k_is)
  (case n4=>k_is)
  (case n5=>k_is)
  (case n6=>k_is)
  (case n8=>k_is)
  (case og=>k_is)
  (case oh=>k_is)
  (case oj=>k_is)
  (case om=>k_is)
  (case ot=>k_is)
  (case ou=>k_is)
  (case ow=>k_is)
  (case ox=>k_is)
  (case oy=>k_is)
  (case oz=>k_is)
  (case o0=>k_is)
  (case o2=>k_is)
  (case o3=>k_is)
  (case o4=>k_is)
  (case o5=>k_is)
  (case o6=>k_is)
  (case o7=>k_is)
  (case o8=>k_is)
  (case o9=>k_is)
  (case pd=>k_is)
  (case ph=>k_is)
  (case pi=>k_is)
  (case pq=>k_is)
  (case p6=>k_is)
  (case p7=>k_is)
  (case p9=>k_is)
  (case qc=>k_is)
  (case qd=>k_is)
  (case qe=>k_is)
  (case qh=>k_is)
  (case qi=>k_is)
  (case qj=>k_is)
  (case qk=>k_is)
  (case ql=>k_is)
  (case qm=>k_is)
  (case qo=>k_is)
  (case qp=>k_is)
  (case qr=>k_is)
  (case qt=>k_is)
  (case qu=>k_is)
  (case qv=>k_is)
  (case qx=>k_is)
  (case qy=>k_is)
  (case qz=>k_is)
  (case re=>k_is)
  (case rf=>k_is)
  (case rh=>k_is)
  (case rn=>k_is)
  (case f8=>k_is)
  (case dl=>exact PySem.F.excBase_ValueError)
  (case dm=>k_exc)
  (case dq=>kts_exm)
  (case dw=>k_is)
  (case cg=>exact PySem.F.excBase_ValueError)
  (case ci=>k_exc)
  (case cj=>kts_exm)
  (case dy=>k_is)
  (case ck=>exact PySem.F.excBase_ValueError)
  (case cm=>k_exc)
  (case cn=>kts_exm)
  (case f9=>k_is)
  (case dz=>exact PySem.F.excBase_ValueError)
  (case d0=>k_exc)
  (case d3=>kts_exm)
  (case gd=>k_is)
  (case d4=>exact PySem.F.excBase_ValueError)
  (case d5=>k_exc)
  (case d6=>kts_exm)
  (case ig=>kit_is)
  (case ii=>kit_is)
  (case ij=>kit_is)
  (case ik=>kit_is)
  (case il=>k_is)
  (case im=>k_is)
  (case io=>k_is)
  (case gy=>k_is)
  (case gz=>k_is)
  (case bn=>k_is)
  (case ip=>k_is)
  (case az=>k_is)
  (case ir=>k_is)
  (case h7=>k_is)
  (case iu=>k_is)
  (case iw=>k_is)
  (case gv=>k_is)
  (case cq=>k_is)
  (case gf=>k_is)
  (case ix=>k_is)
  (case gw=>k_is)
  (case iy=>k_is)
  (case ae=>k_is)
  (case d7=>k_is)
  (case rp=>exact rfl)
  (case uz=>kernel_rfl)
  (case u0=>kernel_rfl)
#print axioms PySem.Challenge.cw_idealroom_k20_pairs_looked_at_holds
